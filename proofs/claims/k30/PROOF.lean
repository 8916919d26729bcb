import PyProof.Rows.All
import KE.KBits
import KE.KTryMore
import KE.KStateDown
import PySem.Challenge.RW_nesthall_k30_a_nest_keeps_its_stand
set_option Elab.async false
set_option linter.all false
set_option maxRecDepth 100000
set_option maxHeartbeats 0
set_option genSizeOf false
set_option genSizeOfSpec false
noncomputable section
abbrev ae:=PySem.Shared
abbrev af:=PySem.FuncData
abbrev ag:=PySem.Program
abbrev ai:=PySem.Around
abbrev ar:=PySem.Addr
abbrev av:=PySem.Value
abbrev aw:=@List
abbrev aE:=@Option
abbrev aI:=PySem.World
abbrev aS:=@PySem.wpAny_bind
abbrev aT:=@PySem.wpAny_pure
abbrev ba:=@of_decide_eq_true
abbrev bb:=@Or.inl
abbrev bo:=@Nat.zero_le
abbrev bp:=@decide_eq_false
abbrev bq:=@decide_eq_true
abbrev br:=@Nat.le_trans
abbrev bt:=@List.map_cons
abbrev bE:=@Ne.symm
abbrev bP:=@of_decide_eq_false
abbrev bS:=@decide_eq_decide
abbrev bX:=@List.append_assoc
abbrev c8:=@PySem.wpAny_mono
abbrev c9:=@False.elim
abbrev cf:=@Int.zero_add
abbrev ck:=@PySem.Heap.get?_update_other
abbrev cm:=@PySem.Heap.get?_update_self
abbrev cq:=@PySem.wpAny_holding
abbrev cv:=@PySem.W.kia_one
abbrev cy:=@PySem.mem_of_lookup
abbrev cE:=@PySem.W.mg_of
abbrev cK:=@if_neg
abbrev cS:=@if_pos
abbrev df:=@List.getElem?_set_ne
abbrev dy:=@List.getElem?_set_self
abbrev dA:=@List.length_replicate
abbrev dE:=@beq_self_eq_true
abbrev dP:=@Bool.and_eq_true_iff
abbrev dQ:=@beq_eq_false_iff_ne
abbrev dS:=@List.replicate_succ
abbrev e7:=@Array.length_toList
abbrev e9:=@True.intro
abbrev eu:=@absurd
abbrev eA:=@Array.getElem?_eq_getElem
abbrev eB:=@Array.getElem?_eq_some_iff
abbrev eC:=@Array.getElem?_toList
abbrev eD:=@Bool.and_eq_true
abbrev eI:=@Bool.decide_and
abbrev eJ:=@Bool.eq_false_iff
abbrev eK:=@Bool.eq_iff_iff
abbrev eL:=@Bool.false_and
abbrev eM:=@Bool.false_or
abbrev eP:=@Bool.or_eq_true
abbrev eR:=@Bool.true_and
abbrev eS:=@PySem.Heap.get?_none_of_le
abbrev eT:=@PySem.Heap.size_push
abbrev eW:=@Int.fdiv_eq_ediv_of_nonneg
abbrev fb:=@Int.natCast_nonneg
abbrev fe:=@Int.toNat_of_nonneg
abbrev ff:=@List.all_eq_true
abbrev fg:=@List.all_eq_true
abbrev fh:=@List.any_cons
abbrev fi:=@List.any_eq_true
abbrev fk:=@List.any_map
abbrev fm:=@List.append_inj'
abbrev fo:=@List.eq_nil_of_length_eq_zero
abbrev fq:=@List.eraseIdxIfInBounds_toArray
abbrev ft:=@List.ext_getElem?
abbrev fw:=@List.filterMap_cons
abbrev fz:=@List.filter_append
abbrev fA:=@List.filter_cons
abbrev fE:=@List.flatten_cons
abbrev fF:=@List.foldl_cons
abbrev fN:=@List.getElem?_eq_none
abbrev fR:=@List.length_drop
abbrev fS:=@List.length_eraseIdx_of_lt
abbrev fT:=@List.length_nil
abbrev gu:=@List.length_set
abbrev gy:=@List.lookup_cons
abbrev gz:=@List.map_map
abbrev gE:=@List.map_take
abbrev gL:=@List.mem_append_left
abbrev gN:=@List.mem_append_right
abbrev gT:=@List.mem_iff_getElem?
abbrev gX:=@List.mem_of_mem_take
abbrev hJ:=@List.mem_range
abbrev hU:=@List.mem_reverse
abbrev hV:=@List.nodup_cons
abbrev hZ:=@List.of_mem_zip
abbrev i0:=@List.pairwise_cons
abbrev ia:=@List.size_toArray
abbrev ib:=@List.take_length
abbrev ic:=@Nat.add_le_add_left
abbrev ij:=@Nat.le_of_lt
abbrev ip:=@Nat.le_succ
abbrev iq:=@Nat.lt_irrefl
abbrev iA:=@Nat.lt_of_le_of_lt
abbrev iE:=@Nat.lt_succ_of_lt
abbrev iF:=@Nat.lt_succ_self
abbrev iL:=@Nat.lt_trans
abbrev iN:=@Nat.min_eq_left
abbrev iO:=@Nat.ne_of_gt
abbrev iP:=@Nat.pow_le_pow_right
abbrev iS:=@Nat.sub_self
abbrev iX:=@Nat.succ_le_succ
abbrev ja:=@Nat.zero_add
abbrev jv:=@Option.isSome_iff_exists
abbrev jI:=@Option.map_eq_some_iff
abbrev jS:=@Option.map_some
abbrev kb:=@PyProof.Rows.boot_all
abbrev kc:=@PyProof.Rows.boot_any
abbrev ke:=@PyProof.Rows.boot_int
abbrev kf:=@PyProof.Rows.boot_list
abbrev kg:=@PyProof.Rows.boot_sorted
abbrev ki:=@PyProof.Rows.callWith_builtin1
abbrev kn:=@PyProof.Rows.callWith_type1
abbrev kq:=@PyProof.Rows.slot_tuple_getitem
abbrev kr:=@PySem.F.args_tuple_add_2
abbrev ku:=@PySem.F.entry_tuple_add
abbrev ky:=@PySem.F.excBase_ValueError
abbrev kz:=@PySem.F.slot_list_extend
abbrev kB:=@PySem.F.slot_tuple_add
abbrev kC:=@PySem.F.type_list_extend
abbrev bV:=PySem.W.Frag
abbrev fM:=@PySem.Heap.get?_push_of_some
abbrev gQ:=@PySem.Heap.lt_size
abbrev qy:=@PySem.Heap.get?_push_size
abbrev zw3:=@List.getElem?_append_left
abbrev zw4:=@List.getElem?_append_right
abbrev FZ:=@List.mem_cons_self
abbrev SX:=@List.mem_of_getElem?
abbrev KR:=@Nat.lt_of_lt_of_le
abbrev jQ:=@Nat.ne_of_lt
abbrev Hr:=@List.mem_cons_of_mem
abbrev bj:=@PySem.boot_len
abbrev iu:=@PySem.F.plainAttrs_list
abbrev yz:=@PySem.F.slot_list_append
abbrev yx:=@PySem.F.type_list_append
abbrev qt:=@PyProof.Rows.boot_tuple
abbrev xN:=@PyProof.Rows.boot_isinstance
abbrev j7:=@Int.emod_nonneg
abbrev jR:=@Int.emod_lt_of_pos
abbrev qDH:=@List.getElem?_range
abbrev bT:=@List.length_map
abbrev fQ:=@List.getElem?_eq_getElem
abbrev j8:=@List.length_append
abbrev bD:=@Nat.le_refl
abbrev oW:=@List.getElem?_eq_some_iff
abbrev CV:=@List.size_toArray
abbrev rA:=@Bool.false_ne_true
abbrev kJ:=@Option.some.inj
abbrev qz:=@List.map_append
abbrev DX:=@List.take_of_length_le
abbrev jA:=@List.mem_singleton
abbrev jT:=@List.getD_eq_getElem?_getD
abbrev dG:=@List.length_cons
abbrev iQ:=@List.length_take
abbrev mq:=@List.take_add_one
abbrev vG:=@List.length_singleton
abbrev dD:=@List.mem_cons
abbrev oY:=@List.append_nil
abbrev jz:=@List.mem_append
abbrev eX:=@List.mem_map
abbrev dZ:=@List.getElem?_map
abbrev vD:=@List.length_filter_le
abbrev lQ:=@List.getElem_mem
abbrev lO:=@List.mem_filter
abbrev T3:=@Int.toNat_natCast
abbrev KI(K:PySem.W.Frag)(a:PySem.Addr):Prop:=PySem.W.keepIn K (.ref a)=true
namespace L2
open PySem
noncomputable def inClass(s:Stmt)(j:Nat):Stmt:=match s with
 | .ClassDef _ _ _ b _ _ _ _ _ _ _=>b.getD j (.Pass ⟨0,0,0,0⟩)
 | _=>.Pass ⟨0,0,0,0⟩
def qd(s:Stmt):Arguments:=match s with
 | .FunctionDef _ a _ _ _ _ _ _ _ _=>a
 | _=>{ posonlyargs:=[],args:=[],vararg:=none,kwonlyargs:=[],kw_defaults:=[],kwarg:=none,defaults:=[] }
def jE(s:Stmt):aw Stmt:=match s with
 | .FunctionDef _ _ b _ _ _ _ _ _ _=>b
 | _=>[]
def aA(s:Stmt):Scope:=match s with
 | .FunctionDef _ _ _ _ _ _ S _ _ _=>S
 | _=>{ kind:=.function,names:=[],isGenerator:=false,isCoroutine:=false }
end L2
namespace jP
open PySem L2
def top(i:Nat):Stmt:=PySem.Challenge.pw_nesthall_k30_a_nest_keeps_its_stand.main.body.getD i (.Pass ⟨0,0,0,0⟩)
abbrev pJ:Stmt:=top 1
abbrev tZ:Stmt:=top 9
abbrev Fw:Stmt:=top 23
abbrev tV:Stmt:=top 24
abbrev pI:Stmt:=top 25
abbrev yZ:Stmt:=top 26
abbrev Fz:Stmt:=top 27
abbrev yj:Stmt:=top 28
abbrev pK:Stmt:=top 29
abbrev uA:Stmt:=top 30
abbrev tW:Stmt:=top 31
abbrev xu:Stmt:=top 32
abbrev Fy:Stmt:=top 33
abbrev je:Stmt:=top 34
abbrev ye:Stmt:=top 35
abbrev yg:Stmt:=top 36
abbrev uD:Stmt:=top 37
abbrev GC:Stmt:=top 38
abbrev O5:Stmt:=top 39
abbrev xx:Stmt:=top 40
abbrev yh:Stmt:=top 41
abbrev yf:Stmt:=top 42
abbrev yX:Stmt:=top 53
abbrev Fx:Stmt:=top 54
abbrev Iz:Stmt:=top 55
abbrev yc:Stmt:=top 56
abbrev qX:Stmt:=top 57
abbrev Aj:Stmt:=top 59
abbrev O3:Stmt:=top 60
abbrev sIn:Stmt:=top 61
abbrev U4:Stmt:=top 62
abbrev uC:Stmt:=top 66
abbrev qU:Stmt:=top 67
abbrev O6:Stmt:=top 68
abbrev uE:Stmt:=top 70
abbrev lg:Stmt:=top 71
abbrev uB:Stmt:=top 72
abbrev tu:Stmt:=top 73
abbrev jd:Stmt:=top 75
abbrev yd:Stmt:=top 76
abbrev tX:Stmt:=top 77
abbrev Ai:Stmt:=top 78
abbrev jb:Stmt:=top 81
abbrev jZ:Stmt:=top 82
abbrev iT:Stmt:=top 83
abbrev qM:Stmt:=top 84
abbrev pH:Stmt:=top 85
abbrev fc:Stmt:=top 86
abbrev Fp:Stmt:=top 87
abbrev pG:Stmt:=top 89
abbrev tO:Stmt:=top 90
abbrev xq:Stmt:=top 91
abbrev O7:Stmt:=top 95
abbrev Ah:Stmt:=top 96
abbrev tQ:Stmt:=top 97
abbrev tR:Stmt:=top 98
abbrev qT:Stmt:=top 99
abbrev jL:Stmt:=top 100
abbrev nJ:Stmt:=top 101
abbrev Fv:Stmt:=top 102
abbrev lY:Stmt:=top 103
abbrev lZ:Stmt:=top 104
abbrev Iw:Stmt:=top 105
abbrev qR:Stmt:=top 106
abbrev kY:Stmt:=top 107
abbrev jc:Stmt:=top 108
abbrev wX:Stmt:=top 109
abbrev fj:Stmt:=inClass (top 46) 0
abbrev O4:Stmt:=inClass (top 64) 0
abbrev YM:Stmt:=inClass (top 64) 1
abbrev Fq:Stmt:=inClass (top 64) 2
abbrev tU:Stmt:=inClass (top 64) 3
abbrev kW:Stmt:=inClass (top 93) 0
abbrev qP:Stmt:=inClass (top 93) 1
abbrev xn:Stmt:=inClass (top 93) 2
abbrev qN:Stmt:=inClass (top 93) 3
abbrev qO:Stmt:=inClass (top 93) 4
abbrev qEE:Str := "_law_near"
end jP
namespace FP
open PySem
abbrev xr:Stmt:=jP.top 2
abbrev qW:Stmt:=jP.top 3
abbrev jd:Stmt:=jP.top 4
abbrev vO:Stmt:=jP.top 5
end FP
namespace Stg
open PySem PySem.W PyProof.Rows
noncomputable def Ra(T:String->aE Builtin)(p:ag)(w:aI)(N:Nat)(a:aE av):Nat->ae->Thread->aE (ae×Thread)
 | 0,s,t=>some (s,t)
 | n+1,s,t=>match through t with
  | true=>none
  | false=>match stepOk N a t with
   | false=>none
   | true=>match step (denote T) p w s t with
    | .go s' t'=>Ra T p w N a n s' t'
    | .halt _ _=>none
section
variable{tb:String->aE Builtin}{p:ag}{w:aI}{n₀:Nat}{ann:aE av}
theorem Oz:∀ {k N:Nat} {s:ae} {t:Thread} {s':ae} {t':Thread},Ra tb p w n₀ ann k s t=some (s',t')->topRun tb p w n₀ ann (k+N) s t=topRun tb p w n₀ ann N s' t'
 | 0,N,s,t,s',t',h=>by
  cases h
  rw[ja]
 | k+1,N,s,t,s',t',h=>by
  rw[Nat.succ_add];unfold Ra at h
  conv=>lhs;unfold topRun
  split at h
  .cases h
  split at h
  .cases h
  split at h
  .rename_i e _ a _ S T E
   rw[e,a];show (match step (denote tb) p w s t with | .go s' t'=>topRun tb p w n₀ ann (k+N) s' t' | .halt _ _=>none)=_;rw[E];exact Oz h
  .cases h
theorem P0:∀ {k j:Nat} {s:ae} {t:Thread} {s':ae} {t':Thread},Ra tb p w n₀ ann k s t=some (s',t')->Ra tb p w n₀ ann (k+j) s t=Ra tb p w n₀ ann j s' t'
 | 0,j,s,t,s',t',h=>by
  cases h
  rw[ja]
 | k+1,j,s,t,s',t',h=>by
  rw[Nat.succ_add];unfold Ra at h
  conv=>lhs;unfold Ra
  split at h
  .cases h
  split at h
  .cases h
  split at h
  .rename_i e _ a _ S T E
   exact P0 h
  .cases h
end
noncomputable def mkS(base:ae)(n m T:Nat)(lo o:Nat->Obj):ae:={ base with heap:={ base.heap with objs:=((List.range n).map fun i=>if i<m then lo i else o i).toArray },toks:=T,gens:=#[] }
def qEK{s base:ae}{n m T:Nat}{lo:Nat->Obj}(d:Obj)(j:s.heap.objs.size=n)(h:(List.range m).map s.heap.get? = (List.range m).map fun i=>some (lo i))(ht:s.toks=T)(a:s.gens = #[])(hd:s.drawn=base.drawn)(q:s.os=base.os)(H:s.heap.life=base.heap.life):s=mkS base n m T lo fun i=>(s.heap.objs[i]?).getD d:=by
 have k:s.heap.objs=((List.range n).map fun i=>if i<m then lo i else (s.heap.objs[i]?).getD d).toArray:=by
  refine Array.ext (by simpa using j) fun i f _=>?_;have g:s.heap.objs[i]? = some s.heap.objs[i]:=eA f
  have b:((List.range n).map fun i=>if i<m then lo i else (s.heap.objs[i]?).getD d).toArray[i]=if i<m then lo i else (s.heap.objs[i]?).getD d:=by simp
  rw[b]
  by_cases c:i<m
  .rw[cS c];have e:=congrArg (·[i]?) h;simp only[List.getElem?_map]at e;rw[qDH c]at e;have p:some (s.heap.get? i)=some (some (lo i)):=e;have E:=((Heap.get?_eq_some _ _ _).mp (kJ p)).1;rw[g]at E;exact kJ E
  .rw[cK c,g];rfl
 obtain⟨⟨o,l⟩,G,drawn,t,os⟩:=s;subst hd q H a ht;show (⟨⟨o,_⟩,_,_,_,_⟩:ae)=⟨⟨_,_⟩,_,_,_,_⟩;congr 2
theorem stage{b:String->aE Builtin}{p:ag}{w:aI}{N:Nat}{a:aE av}{k:Nat}{s base:ae}{t t1:Thread}{n m T:Nat}{lo:Nat->Obj}(d:Obj)
  (h:(Ra b p w N a k s t).map (fun r=>(r.2,r.1.heap.objs.size,(List.range m).map r.1.heap.get?,r.1.toks,r.1.gens,r.1.drawn,r.1.os,r.1.heap.life))=some (t1,n,(List.range m).map (fun i=>some (lo i)),T,#[],base.drawn,base.os,base.heap.life)) :
  ∃ o,Ra b p w N a k s t=some (mkS base n m T lo o,t1):=by
 cases e:Ra b p w N a k s t with
 | none=>rw[e]at h;cases h
 | some r=>
  obtain⟨_,_⟩:=r;rw[e]at h;have h:=kJ h;simp only[Prod.mk.injEq]at h;obtain⟨j,q,g,l,u,f,H,c⟩:=h;exact⟨_,by rw[<-j,<-qEK d q g l u f H c]⟩
noncomputable def chk(p:ag)(S s:ae):aE ae:=match staticsOk (importedModules p.main.body) S.heap s.heap&&namesBound p s.heap&&gensDone s&&laidKept S.heap s.heap with
 | true=>some s
 | false=>none
def Zb{T:String->aE Builtin}{p:ag}{w:aI}{N k n:Nat}{s S:ae}{t1:Thread}(f0:fencedOpening T p w N=some s)(g0:(s.heap.isNs mainGlobals&&s.gens.size==0)=true)(e:N=k+n)
  (A:Ra T p w s.heap.objs.size (s.heap.nsMap mainGlobals "__annotations__") k s (topStub p)=some (S,t1)) :
  openEnds T p w N=(topRun T p w s.heap.objs.size (s.heap.nsMap mainGlobals "__annotations__") n S t1).bind (chk p s):=by unfold openEnds;rw[f0];show topFrom T p w N s=_;unfold topFrom;rw[g0,<-Oz A,<-e];rfl
end Stg
namespace wH
open PySem L2 jP
def cJ(x q:Str)(st:Stmt)(p c:av):af:=PySem.W.fnOf x q (qd st) (jE st) (aA st) .none .none .none p none c .none
def cD(d:af):Obj:=⟨.type "function",none,.func d,#[]⟩
def n0_:PySem.Value:=.str "law_nesthall_k30_a_nest_keeps_its_stand" 1022
def n1_:PySem.Value:=.str "nesthall.guards" 187
def n2_:PySem.Value:=.str "nesthall.charts" 240
def n3_:PySem.Value:=.str "nesthall.doors" 794
def n4_:PySem.Value:=.str "nesthall.nesting" 619
def n5_:PySem.Value:=.str "nesthall.goings" 666
def n6_:PySem.Value:=.str "nesthall.stands" 833
def n7_:PySem.Value:=.str "nesthall.deeds" 757
def n8_:PySem.Value:=.str "nesthall.passing" 870
def n9_:PySem.Value:=.str "nesthall.runs" 932
def n10_:PySem.Value:=.str "nesthall.letters" 703
def n11_:PySem.Value:=.str "nesthall.nest" 957
def fd1:af:=cJ "_law_cell_at" "_law_cell_at" O7 n0_ (.ref 590)
def fd2:af:=cJ "_law_mixed" "_law_mixed" Ah n0_ (.ref 597)
def fd3:af:=cJ "holds" "holds" pJ n1_ (.ref 20)
def fd4:af:=cJ "guards_within" "guards_within" FP.xr n1_ (.ref 27)
def fd5:af:=cJ "height" "height" FP.qW n1_ (.ref 32)
def fd6:af:=cJ "plain_guards" "plain_guards" FP.jd n1_ (.ref 39)
def fd7:af:=cJ "asked" "asked" FP.vO n1_ (.ref 44)
noncomputable def fd8:af:=cJ "is_word" "is_word" tZ (.str "nesthall.words" 228) (.ref 49)
def fd9:af:=cJ "is_number_of" "is_number_of" Fw n2_ (.ref 58)
def qID:af:=cJ "is_in_reach" "is_in_reach" tV n2_ (.ref 65)
def qIC:af:=cJ "name_has_fault" "name_has_fault" yZ n2_ (.ref 77)
def qIB:af:=cJ "names_of" "names_of" pI n2_ (.ref 70)
def qIA:af:=cJ "box_has_fault" "box_has_fault" Fz n2_ (.ref 84)
def qI9:af:=cJ "deed_has_fault" "deed_has_fault" yj n2_ (.ref 91)
def qI8:af:=cJ "deeds_have_fault" "deeds_have_fault" pK n2_ (.ref 96)
def qI7:af:=cJ "depth_has_fault" "depth_has_fault" uA n2_ (.ref 103)
def qI6:af:=cJ "keeps_has_fault" "keeps_has_fault" tW n2_ (.ref 110)
def qI5:af:=cJ "room_has_fault" "room_has_fault" xu n2_ (.ref 117)
def qI4:af:=cJ "end_has_fault" "end_has_fault" Fy n2_ (.ref 124)
def qI3:af:=cJ "guard_has_fault" "guard_has_fault" je n2_ (.ref 129)
def qI2:af:=cJ "goal_has_fault" "goal_has_fault" ye n2_ (.ref 136)
def qI1:af:=cJ "door_has_fault" "door_has_fault" yg n2_ (.ref 143)
def qI0:af:=cJ "bound_faults" "bound_faults" uD n2_ (.ref 150)
def qHZ:af:=cJ "box_faults" "box_faults" GC n2_ (.ref 157)
def qHY:af:=cJ "event_faults" "event_faults" O5 n2_ (.ref 164)
def qHX:af:=cJ "room_faults" "room_faults" xx n2_ (.ref 171)
def qHW:af:=cJ "door_faults" "door_faults" yh n2_ (.ref 178)
def qHV:af:=cJ "faults" "faults" yf n2_ (.ref 185)
def qHU:af:=cJ "answers" "answers" uE n3_ (.ref 437)
def qHT:af:=cJ "end_of" "end_of" Fx n4_ (.ref 324)
def qHS:af:=cJ "parent" "parent" yX n4_ (.ref 317)
def qHR:af:=cJ "lies_in" "lies_in" yc n4_ (.ref 336)
def qHQ:af:=cJ "hall_over" "hall_over" qX n4_ (.ref 343)
def qHP:af:=cJ "kids" "kids" Iz n4_ (.ref 329)
def qHO:af:=cJ "bears_goal" "bears_goal" Aj n5_ (.ref 348)
def qHN:af:=cJ "next_in" "next_in" O3 n5_ (.ref 355)
def qHM:af:=cJ "goings_in" "goings_in" sIn n5_ (.ref 362)
def qHL:af:=cJ "goings_out" "goings_out" U4 n5_ (.ref 367)
def qHK:af:=cJ "plain_ones" "plain_ones" jd n6_ (.ref 459)
def qHJ:af:=cJ "kept_of" "kept_of" yd n6_ (.ref 466)
def qHI:af:=cJ "keeping" "keeping" tX n6_ (.ref 473)
def qHH:af:=cJ "is_outdone" "is_outdone" lg n3_ (.ref 442)
def qHG:af:=cJ "chosen" "chosen" uB n3_ (.ref 447)
def qHF:af:=cJ "changed" "changed" uC n7_ (.ref 416)
def qHE:af:=cJ "recorded" "recorded" qU n7_ (.ref 423)
def qHD:af:=cJ "done" "done" O6 n7_ (.ref 430)
def qHC:af:=cJ "sizes_of" "sizes_of" jb n8_ (.ref 483)
def qHB:af:=cJ "rooms_left" "rooms_left" fc n8_ (.ref 510)
def qHA:af:=cJ "steps_in" "steps_in" jZ n8_ (.ref 488)
def qH9:af:=cJ "steps_out" "steps_out" iT n8_ (.ref 493)
def qH8:af:=cJ "stepped" "stepped" qM n8_ (.ref 500)
def qH7:af:=cJ "goals_of" "goals_of" tu n3_ (.ref 454)
def qH6:af:=cJ "passed" "passed" pH n8_ (.ref 505)
def qH5:af:=cJ "turn" "turn" Fp n8_ (.ref 517)
def qH4:af:=cJ "rested" "rested" pG n9_ (.ref 522)
def qH3:af:=cJ "begun" "begun" tO n9_ (.ref 527)
def qH2:af:=cJ "after" "after" xq n9_ (.ref 534)
def qH1:af:=cJ "lamps" "lamps" Ai n6_ (.ref 478)
def qH0:af:=cJ "_law_name" "_law_name" tQ n0_ (.ref 604)
def qGZ:af:=cJ "_law_deed" "_law_deed" tR n0_ (.ref 611)
def qGY:af:=cJ "_law_deeds" "_law_deeds" qT n0_ (.ref 618)
def qGX:af:=cJ "_law_guard" "_law_guard" jL n0_ (.ref 625)
def qGW:af:=cJ "_law_depths" "_law_depths" nJ n0_ (.ref 632)
def qGV:af:=cJ "_law_rooms" "_law_rooms" Fv n0_ (.ref 639)
def qGU:af:=cJ "_law_doors" "_law_doors" lY n0_ (.ref 644)
def qGT:af:=cJ "_law_chart" "_law_chart" lZ n0_ (.ref 649)
def qGS:af:=cJ "_law_same" "_law_same" Iw n0_ (.ref 656)
def qGR:af:=cJ "_law_event" "_law_event" qR n0_ (.ref 663)
def qGQ:af:=cJ "_law_refused" "_law_refused" kY n0_ (.ref 670)
def qGP:af:=cJ "_law_stands" "_law_stands" jc n0_ (.ref 675)
def ZZ:af:=cJ "law" "law" wX n0_ (.ref 682)
def Wh:af:=cJ "__init__" "Letters.__init__" O4 n10_ (.ref 381)
def Wg:af:=cJ "add" "Letters.add" YM n10_ (.ref 388)
def Wf:af:=cJ "taken" "Letters.taken" Fq n10_ (.ref 395)
noncomputable def We:af:=cJ "waiting" "Letters.waiting" tU n10_ (.ref 402)
def Wd:af:=cJ "__init__" "Nest.__init__" kW n11_ (.ref 548)
def Wc:af:=cJ "first" "Nest.first" qP n11_ (.ref 555)
def Wb:af:=cJ "run" "Nest.run" xn n11_ (.ref 562)
def Wa:af:=cJ "stand" "Nest.stand" qN n11_ (.ref 569)
def WY:af:=cJ "lamps" "Nest.lamps" qO n11_ (.ref 576)
noncomputable def WX:af:=cJ "__init__" "NoEvent.__init__" fj (.str "nesthall.errors" 451) (.ref 231)
def kE(P:Params)(x:Str)(n:Nat)(v:av):DictEntry:=⟨PyData.keyHash P x,.str x n,v⟩
noncomputable def cO(x q:Str)(a:Nat)(l n:Int)(r:Nat)(k:Int):Obj:=⟨.type "code",none,.fields #[.str x a,.str q (a+1),.str "/claim/cut.py" (a+2),.int l 0,.int n 0,.int 0 0,.int 0 0,.int 3 0,.ref r,.bool true,.int 181 0,.ref (r+1),.none,.ref (r+2),.ref (r+3),.ref (r+4),.int k 0,.int l 0,.str "/claim/cut.py" (k.toNat+1)],#[]⟩
noncomputable def cN(x q:Str)(a:Nat)(l n:Int)(r:Nat)(k:Int):Obj:=⟨.type "code",none,.fields #[.str x a,.str q (a+1),.str "/claim/cut.py" (a+2),.int l 0,.int n 0,.int 0 0,.int 0 0,.int 3 0,.ref r,.bool true,.int 181 0,.ref (r+1),.none,.none,.none,.ref (r+2),.int k 0,.int l 0,.str "/claim/cut.py" (k.toNat+1)],#[]⟩
noncomputable def KO(P:Params):bV:=[
 (3,⟨.type "dict",none,.dict #[kE P "__name__" 165 (.str "law_nesthall_k30_a_nest_keeps_its_stand" 1022),kE P "__doc__" 166 .none,kE P "__package__" 167 .none,kE P "__loader__" 168 (.builtin "__main__.__loader__#opaque"),kE P "__spec__" 169 .none,kE P "__annotations__" 170 (.ref 6),kE P "__builtins__" 171 (.ref 4),kE P "__file__" 173 (.str "/claim/cut.py" 172),kE P "__cached__" 174 .none,kE P "holds" 198 (.ref 21),kE P "guards_within" 205 (.ref 28),kE P "height" 211 (.ref 33),kE P "plain_guards" 221 (.ref 40),kE P "asked" 227 (.ref 45),kE P "SMALL_LETTERS" 231 (.str "abcdefghijklmnopqrstuvwxyz" 230),kE P "LONGEST" 233 (.int (12) 232),kE P "is_word" 239 (.ref 50),kE P "ORDERS" 244 (.ref 51),kE P "KINDS" 248 (.ref 52),kE P "MOST_LETTERS" 250 (.int (12) 249),kE P "MOST_TURNS" 252 (.int (20) 251),kE P "MOST_BOXES" 254 (.int (6) 253),kE P "MOST_EVENTS" 256 (.int (8) 255),kE P "MOST_ROOMS" 258 (.int (40) 257),kE P "MOST_DOORS" 260 (.int (60) 259),kE P "MOST_DEEDS" 262 (.int (8) 261),kE P "DEEPEST" 264 (.int (12) 263),kE P "HIGHEST" 266 (.int (6) 265),kE P "GREATEST" 268 (.int (1000000000000000000000000000000) 267),kE P "is_number_of" 276 (.ref 59),kE P "is_in_reach" 283 (.ref 66),kE P "names_of" 289 (.ref 71),kE P "name_has_fault" 297 (.ref 78),kE P "box_has_fault" 307 (.ref 85),kE P "deed_has_fault" 318 (.ref 92),kE P "deeds_have_fault" 324 (.ref 97),kE P "depth_has_fault" 332 (.ref 104),kE P "keeps_has_fault" 340 (.ref 111),kE P "room_has_fault" 352 (.ref 118),kE P "end_has_fault" 361 (.ref 125),kE P "guard_has_fault" 367 (.ref 130),kE P "goal_has_fault" 376 (.ref 137),kE P "door_has_fault" 386 (.ref 144),kE P "bound_faults" 394 (.ref 151),kE P "box_faults" 404 (.ref 158),kE P "event_faults" 414 (.ref 165),kE P "room_faults" 426 (.ref 172),kE P "door_faults" 439 (.ref 179),kE P "faults" 450 (.ref 186),kE P "NestError" 470 (.ref 196),kE P "BadChart" 495 (.ref 216),kE P "NoEvent" 520 (.ref 235),kE P "TooWide" 545 (.ref 254),kE P "NoWords" 561 (.ref 266),kE P "Unread" 586 (.ref 285),kE P "NoRow" 602 (.ref 297),kE P "NoName" 618 (.ref 309),kE P "parent" 630 (.ref 318),kE P "end_of" 640 (.ref 325),kE P "kids" 646 (.ref 330),kE P "lies_in" 655 (.ref 337),kE P "hall_over" 665 (.ref 344),kE P "bears_goal" 673 (.ref 349),kE P "next_in" 684 (.ref 356),kE P "goings_in" 696 (.ref 363),kE P "goings_out" 702 (.ref 368),kE P "Letters" 756 (.ref 406),kE P "changed" 770 (.ref 417),kE P "recorded" 780 (.ref 424),kE P "done" 793 (.ref 431),kE P "answers" 809 (.ref 438),kE P "is_outdone" 815 (.ref 443),kE P "chosen" 821 (.ref 448),kE P "goals_of" 832 (.ref 455),kE P "plain_ones" 840 (.ref 460),kE P "kept_of" 850 (.ref 467),kE P "keeping" 862 (.ref 474),kE P "lamps" 868 (.ref 479),kE P "lamps_stands" 869 (.ref 479),kE P "sizes_of" 877 (.ref 484),kE P "steps_in" 883 (.ref 489),kE P "steps_out" 889 (.ref 494),kE P "stepped" 904 (.ref 501),kE P "passed" 910 (.ref 506),kE P "rooms_left" 916 (.ref 511),kE P "turn" 931 (.ref 518),kE P "rested" 939 (.ref 523),kE P "begun" 945 (.ref 528),kE P "after" 956 (.ref 535),kE P "Nest" 1021 (.ref 580),kE P "_law_cell_at" 1031 (.ref 591),kE P "_law_mixed" 1043 (.ref 598),kE P "_law_name" 1053 (.ref 605),kE P "_law_deed" 1065 (.ref 612),kE P "_law_deeds" 1080 (.ref 619),kE P "_law_guard" 1092 (.ref 626),kE P "_law_depths" 1102 (.ref 633),kE P "_law_rooms" 1120 (.ref 640),kE P "_law_doors" 1126 (.ref 645),kE P "_law_chart" 1132 (.ref 650),kE P "_law_same" 1141 (.ref 657),kE P "_law_event" 1151 (.ref 664),kE P "_law_refused" 1162 (.ref 671),kE P "_law_stands" 1168 (.ref 676),kE P "law" 1185 (.ref 683)] 105,#[]⟩),
 (590,cO "_law_cell_at" "_law_cell_at" 1024 437 2 585 1029),
 (591,cD fd1),
 (597,cO "_law_mixed" "_law_mixed" 1032 441 3 592 1041),
 (598,cD fd2),
 (20,cO "holds" "holds" 189 2 3 15 196),
 (21,cD fd3),
 (27,cO "guards_within" "guards_within" 199 17 1 22 203),
 (28,cD fd4),
 (32,cN "height" "height" 206 23 1 29 209),
 (33,cD fd5),
 (39,cO "plain_guards" "plain_guards" 212 25 1 34 219),
 (40,cD fd6),
 (44,cN "asked" "asked" 222 33 1 41 225),
 (45,cD fd7),
 (49,cN "is_word" "is_word" 234 41 1 46 237),
 (50,cD fd8),
 (58,cO "is_number_of" "is_number_of" 269 56 2 53 274),
 (59,cD fd9),
 (65,cO "is_in_reach" "is_in_reach" 277 58 1 60 281),
 (66,cD qID),
 (77,cO "name_has_fault" "name_has_fault" 290 62 2 72 295),
 (78,cD qIC),
 (70,cN "names_of" "names_of" 284 60 1 67 287),
 (71,cD qIB),
 (84,cO "box_has_fault" "box_has_fault" 298 64 2 79 305),
 (85,cD qIA),
 (91,cO "deed_has_fault" "deed_has_fault" 308 70 3 86 316),
 (92,cD qI9),
 (96,cN "deeds_have_fault" "deeds_have_fault" 319 82 3 93 322),
 (97,cD qI8),
 (103,cO "depth_has_fault" "depth_has_fault" 325 84 2 98 330),
 (104,cD qI7),
 (110,cO "keeps_has_fault" "keeps_has_fault" 333 88 2 105 338),
 (111,cD qI6),
 (117,cO "room_has_fault" "room_has_fault" 341 94 4 112 350),
 (118,cD qI5),
 (124,cO "end_has_fault" "end_has_fault" 353 104 2 119 359),
 (125,cD qI4),
 (129,cN "guard_has_fault" "guard_has_fault" 362 109 3 126 365),
 (130,cD qI3),
 (136,cO "goal_has_fault" "goal_has_fault" 368 118 3 131 374),
 (137,cD qI2),
 (143,cO "door_has_fault" "door_has_fault" 377 124 4 138 384),
 (144,cD qI1),
 (150,cO "bound_faults" "bound_faults" 387 130 1 145 392),
 (151,cD qI0),
 (157,cO "box_faults" "box_faults" 395 139 1 152 402),
 (158,cD qHZ),
 (164,cO "event_faults" "event_faults" 405 145 1 159 412),
 (165,cD qHY),
 (171,cO "room_faults" "room_faults" 415 151 3 166 424),
 (172,cD qHX),
 (178,cO "door_faults" "door_faults" 427 157 4 173 437),
 (179,cD qHW),
 (185,cO "faults" "faults" 440 163 1 180 448),
 (186,cD qHV),
 (437,cO "answers" "answers" 796 297 3 432 807),
 (438,cD qHU),
 (324,cO "end_of" "end_of" 631 209 2 319 638),
 (325,cD qHT),
 (317,cO "parent" "parent" 621 203 2 312 628),
 (318,cD qHS),
 (336,cO "lies_in" "lies_in" 647 218 3 331 653),
 (337,cD qHR),
 (343,cO "hall_over" "hall_over" 656 220 3 338 663),
 (344,cD qHQ),
 (329,cN "kids" "kids" 641 215 2 326 644),
 (330,cD qHP),
 (348,cN "bears_goal" "bears_goal" 668 228 3 345 671),
 (349,cD qHO),
 (355,cO "next_in" "next_in" 674 231 3 350 682),
 (356,cD qHN),
 (362,cO "goings_in" "goings_in" 685 239 3 357 694),
 (363,cD qHM),
 (367,cN "goings_out" "goings_out" 697 247 3 364 700),
 (368,cD qHL),
 (459,cN "plain_ones" "plain_ones" 835 323 2 456 838),
 (460,cD qHK),
 (466,cO "kept_of" "kept_of" 841 325 3 461 848),
 (467,cD qHJ),
 (473,cO "keeping" "keeping" 851 330 4 468 860),
 (474,cD qHI),
 (442,cN "is_outdone" "is_outdone" 810 305 3 439 813),
 (443,cD qHH),
 (447,cN "chosen" "chosen" 816 310 3 444 819),
 (448,cD qHG),
 (416,cO "changed" "changed" 759 273 3 411 768),
 (417,cD qHF),
 (423,cO "recorded" "recorded" 771 282 3 418 778),
 (424,cD qHE),
 (430,cO "done" "done" 781 289 4 425 791),
 (431,cD qHD),
 (483,cN "sizes_of" "sizes_of" 872 340 1 480 875),
 (484,cD qHC),
 (510,cN "rooms_left" "rooms_left" 911 372 1 507 914),
 (511,cD qHB),
 (488,cN "steps_in" "steps_in" 878 342 2 485 881),
 (489,cD qHA),
 (493,cN "steps_out" "steps_out" 884 344 2 490 887),
 (494,cD qH9),
 (500,cO "stepped" "stepped" 890 346 4 495 902),
 (501,cD qH8),
 (454,cO "goals_of" "goals_of" 822 314 3 449 830),
 (455,cD qH7),
 (505,cN "passed" "passed" 905 355 4 502 908),
 (506,cD qH6),
 (517,cO "turn" "turn" 917 374 4 512 929),
 (518,cD qH5),
 (522,cN "rested" "rested" 934 386 4 519 937),
 (523,cD qH4),
 (527,cN "begun" "begun" 940 397 1 524 943),
 (528,cD qH3),
 (534,cO "after" "after" 946 405 3 529 954),
 (535,cD qH2),
 (478,cN "lamps" "lamps" 863 336 2 475 866),
 (479,cD qH1),
 (604,cO "_law_name" "_law_name" 1044 448 2 599 1051),
 (605,cD qH0),
 (611,cO "_law_deed" "_law_deed" 1054 452 3 606 1063),
 (612,cD qGZ),
 (618,cO "_law_deeds" "_law_deeds" 1066 467 5 613 1078),
 (619,cD qGY),
 (625,cO "_law_guard" "_law_guard" 1081 474 4 620 1090),
 (626,cD qGX),
 (632,cO "_law_depths" "_law_depths" 1093 490 2 627 1100),
 (633,cD qGW),
 (639,cO "_law_rooms" "_law_rooms" 1103 495 4 634 1118),
 (640,cD qGV),
 (644,cN "_law_doors" "_law_doors" 1121 513 5 641 1124),
 (645,cD qGU),
 (649,cN "_law_chart" "_law_chart" 1127 532 1 646 1130),
 (650,cD qGT),
 (656,cO "_law_same" "_law_same" 1133 550 2 651 1139),
 (657,cD qGS),
 (663,cO "_law_event" "_law_event" 1142 565 3 658 1149),
 (664,cD qGR),
 (670,cO "_law_refused" "_law_refused" 1152 574 3 665 1160),
 (671,cD qGQ),
 (675,cN "_law_stands" "_law_stands" 1163 589 3 672 1166),
 (676,cD qGP),
 (682,cO "law" "law" 1169 593 1 677 1183),
 (683,cD ZZ),
 (406,⟨.type "type",none,.cls ⟨"Letters",[.type "object"],[.ref 406,.type "object"],405,"Letters",true,[],[],false,none,false⟩,#[none,none,some (.str "Letters" 705),some (.str "Letters" 713),some (.builtin "object.__new__"),some (.bool true)]⟩),
 (405,⟨.type "dict",none,.dict #[kE P "__module__" 712 (.str "nesthall.letters" 703),kE P "__firstlineno__" 716 (.int (253) 715),kE P "__init__" 724 (.ref 382),kE P "add" 732 (.ref 389),kE P "taken" 739 (.ref 396),kE P "waiting" 746 (.ref 403),kE P "__static_attributes__" 749 (.ref 404),kE P "__dict__" 751 (.ref 407),kE P "__weakref__" 753 (.ref 408),kE P "__doc__" 754 .none] 4,#[]⟩),
 (381,cO "__init__" "Letters.__init__" 717 255 2 376 722),
 (382,cD Wh),
 (388,cO "add" "Letters.add" 725 259 2 383 730),
 (389,cD Wg),
 (395,cO "taken" "Letters.taken" 733 265 1 390 737),
 (396,cD Wf),
 (402,cO "waiting" "Letters.waiting" 740 270 1 397 744),
 (403,cD We),
 (580,⟨.type "type",none,.cls ⟨"Nest",[.type "object"],[.ref 580,.type "object"],579,"Nest",true,[],[],false,none,false⟩,#[none,none,some (.str "Nest" 959),some (.str "Nest" 967),some (.builtin "object.__new__"),some (.bool true)]⟩),
 (579,⟨.type "dict",none,.dict #[kE P "__module__" 966 (.str "nesthall.nest" 957),kE P "__firstlineno__" 970 (.int (410) 969),kE P "__init__" 980 (.ref 549),kE P "first" 987 (.ref 556),kE P "run" 996 (.ref 563),kE P "stand" 1003 (.ref 570),kE P "lamps" 1010 (.ref 577),kE P "__static_attributes__" 1014 (.ref 578),kE P "__dict__" 1016 (.ref 581),kE P "__weakref__" 1018 (.ref 582),kE P "__doc__" 1019 .none] 4,#[]⟩),
 (548,cO "__init__" "Nest.__init__" 971 412 2 543 978),
 (549,cD Wd),
 (555,cO "first" "Nest.first" 981 421 1 550 985),
 (556,cD Wc),
 (562,cO "run" "Nest.run" 988 424 2 557 994),
 (563,cD Wb),
 (569,cO "stand" "Nest.stand" 997 431 1 564 1001),
 (570,cD Wa),
 (576,cO "lamps" "Nest.lamps" 1004 434 1 571 1008),
 (577,cD WY),
 (235,⟨.type "type",none,.cls ⟨"NoEvent",[.ref 196],[.ref 235,.ref 196,.type "ValueError",.type "Exception",.type "BaseException",.type "object"],234,"NoEvent",true,[],[],false,none,false⟩,#[some (.ref 219),none,some (.str "NoEvent" 496),some (.str "NoEvent" 504),some (.builtin "ValueError.__new__"),some (.bool true)]⟩),
 (234,⟨.type "dict",none,.dict #[kE P "__module__" 503 (.str "nesthall.errors" 451),kE P "__firstlineno__" 507 (.int (181) 506),kE P "__init__" 515 (.ref 232),kE P "__static_attributes__" 517 (.ref 233),kE P "__doc__" 518 .none] 2,#[]⟩),
 (231,cO "__init__" "NoEvent.__init__" 508 183 2 226 513),
 (232,cD WX),
 (196,⟨.type "type",none,.cls ⟨"NestError",[.type "ValueError"],[.ref 196,.type "ValueError",.type "Exception",.type "BaseException",.type "object"],195,"NestError",true,[],[.ref 216,.ref 235,.ref 254,.ref 266,.ref 285,.ref 297,.ref 309],false,none,false⟩,#[some (.ref 187),none,some (.str "NestError" 453),some (.str "NestError" 461),some (.builtin "ValueError.__new__"),some (.bool true)]⟩),
 (195,⟨.type "dict",none,.dict #[kE P "__module__" 460 (.str "nesthall.errors" 451),kE P "__firstlineno__" 464 (.int (174) 463),kE P "__static_attributes__" 465 (.ref 194),kE P "__weakref__" 467 (.ref 197),kE P "__doc__" 468 .none] 3,#[]⟩),
 (216,⟨.type "type",none,.cls ⟨"BadChart",[.ref 196],[.ref 216,.ref 196,.type "ValueError",.type "Exception",.type "BaseException",.type "object"],215,"BadChart",true,[],[],false,none,false⟩,#[some (.ref 200),none,some (.str "BadChart" 471),some (.str "BadChart" 479),some (.builtin "ValueError.__new__"),some (.bool true)]⟩),
 (215,⟨.type "dict",none,.dict #[kE P "__module__" 478 (.str "nesthall.errors" 451),kE P "__firstlineno__" 482 (.int (176) 481),kE P "__init__" 490 (.ref 213),kE P "__static_attributes__" 492 (.ref 214),kE P "__doc__" 493 .none] 2,#[]⟩),
 (309,⟨.type "type",none,.cls ⟨"NoName",[.ref 196],[.ref 309,.ref 196,.type "ValueError",.type "Exception",.type "BaseException",.type "object"],308,"NoName",true,[],[],false,none,false⟩,#[some (.ref 300),none,some (.str "NoName" 603),some (.str "NoName" 611),some (.builtin "ValueError.__new__"),some (.bool true)]⟩),
 (308,⟨.type "dict",none,.dict #[kE P "__module__" 610 (.str "nesthall.errors" 451),kE P "__firstlineno__" 614 (.int (200) 613),kE P "__static_attributes__" 615 (.ref 307),kE P "__doc__" 616 .none] 2,#[]⟩),
 (297,⟨.type "type",none,.cls ⟨"NoRow",[.ref 196],[.ref 297,.ref 196,.type "ValueError",.type "Exception",.type "BaseException",.type "object"],296,"NoRow",true,[],[],false,none,false⟩,#[some (.ref 288),none,some (.str "NoRow" 587),some (.str "NoRow" 595),some (.builtin "ValueError.__new__"),some (.bool true)]⟩),
 (296,⟨.type "dict",none,.dict #[kE P "__module__" 594 (.str "nesthall.errors" 451),kE P "__firstlineno__" 598 (.int (198) 597),kE P "__static_attributes__" 599 (.ref 295),kE P "__doc__" 600 .none] 2,#[]⟩),
 (266,⟨.type "type",none,.cls ⟨"NoWords",[.ref 196],[.ref 266,.ref 196,.type "ValueError",.type "Exception",.type "BaseException",.type "object"],265,"NoWords",true,[],[],false,none,false⟩,#[some (.ref 257),none,some (.str "NoWords" 546),some (.str "NoWords" 554),some (.builtin "ValueError.__new__"),some (.bool true)]⟩),
 (265,⟨.type "dict",none,.dict #[kE P "__module__" 553 (.str "nesthall.errors" 451),kE P "__firstlineno__" 557 (.int (191) 556),kE P "__static_attributes__" 558 (.ref 264),kE P "__doc__" 559 .none] 2,#[]⟩),
 (254,⟨.type "type",none,.cls ⟨"TooWide",[.ref 196],[.ref 254,.ref 196,.type "ValueError",.type "Exception",.type "BaseException",.type "object"],253,"TooWide",true,[],[],false,none,false⟩,#[some (.ref 238),none,some (.str "TooWide" 521),some (.str "TooWide" 529),some (.builtin "ValueError.__new__"),some (.bool true)]⟩),
 (253,⟨.type "dict",none,.dict #[kE P "__module__" 528 (.str "nesthall.errors" 451),kE P "__firstlineno__" 532 (.int (186) 531),kE P "__init__" 540 (.ref 251),kE P "__static_attributes__" 542 (.ref 252),kE P "__doc__" 543 .none] 2,#[]⟩),
 (285,⟨.type "type",none,.cls ⟨"Unread",[.ref 196],[.ref 285,.ref 196,.type "ValueError",.type "Exception",.type "BaseException",.type "object"],284,"Unread",true,[],[],false,none,false⟩,#[some (.ref 269),none,some (.str "Unread" 562),some (.str "Unread" 570),some (.builtin "ValueError.__new__"),some (.bool true)]⟩),
 (284,⟨.type "dict",none,.dict #[kE P "__module__" 569 (.str "nesthall.errors" 451),kE P "__firstlineno__" 573 (.int (193) 572),kE P "__init__" 581 (.ref 282),kE P "__static_attributes__" 583 (.ref 283),kE P "__doc__" 584 .none] 2,#[]⟩),
 (51,⟨.type "tuple",none,.seq #[.str "inner" 242,.str "outer" 243] 0,#[]⟩),
 (52,⟨.type "tuple",none,.seq #[.str "plain" 245,.str "one" 246,.str "all" 247] 0,#[]⟩),
 (2,⟨.none,none,.dict #[] 0,#[]⟩)]
noncomputable def KA:aw ar:=[3,590,591,597,598,20,21,27,28,32,33,39,40,44,45,49,50,58,59,65,66,77,78,70,71,84,85,91,92,96,97,103,104,110,111,117,118,124,125,129,130,136,137,143,144,150,151,157,158,164,165,171,172,178,179,185,186,437,438,324,325,317,318,336,337,343,344,329,330,348,349,355,356,362,363,367,368,459,460,466,467,473,474,442,443,447,448,416,417,423,424,430,431,483,484,510,511,488,489,493,494,500,501,454,455,505,506,517,518,522,523,527,528,534,535,478,479,604,605,611,612,618,619,625,626,632,633,639,640,644,645,649,650,656,657,663,664,670,671,675,676,682,683,406,405,381,382,388,389,395,396,402,403,580,579,548,549,555,556,562,563,569,570,576,577,235,234,231,232,196,195,216,215,309,308,297,296,266,265,254,253,285,284,51,52,2]
def PW:ag:=PySem.Challenge.pw_nesthall_k30_a_nest_keeps_its_stand
def QV:ag:=PySem.W.view PW [109]
noncomputable def LS:aw Str:=[Str.ofString "__name__",Str.ofString "holds",Str.ofString "guards_within",Str.ofString "height",Str.ofString "plain_guards",Str.ofString "asked",Str.ofString "SMALL_LETTERS",Str.ofString "LONGEST",Str.ofString "is_word",Str.ofString "ORDERS",Str.ofString "KINDS",Str.ofString "MOST_LETTERS",Str.ofString "MOST_TURNS",Str.ofString "MOST_BOXES",Str.ofString "MOST_EVENTS",Str.ofString "MOST_ROOMS",Str.ofString "MOST_DOORS",Str.ofString "MOST_DEEDS",Str.ofString "DEEPEST",Str.ofString "HIGHEST",Str.ofString "GREATEST",Str.ofString "is_number_of",Str.ofString "is_in_reach",Str.ofString "names_of",Str.ofString "name_has_fault",Str.ofString "box_has_fault",Str.ofString "deed_has_fault",Str.ofString "deeds_have_fault",Str.ofString "depth_has_fault",Str.ofString "keeps_has_fault",Str.ofString "room_has_fault",Str.ofString "end_has_fault",Str.ofString "guard_has_fault",Str.ofString "goal_has_fault",Str.ofString "door_has_fault",Str.ofString "bound_faults",Str.ofString "box_faults",Str.ofString "event_faults",Str.ofString "room_faults",Str.ofString "door_faults",Str.ofString "faults",Str.ofString "NestError",Str.ofString "BadChart",Str.ofString "NoEvent",Str.ofString "TooWide",Str.ofString "NoWords",Str.ofString "Unread",Str.ofString "NoRow",Str.ofString "NoName",Str.ofString "parent",Str.ofString "end_of",Str.ofString "kids",Str.ofString "lies_in",Str.ofString "hall_over",Str.ofString "bears_goal",Str.ofString "next_in",Str.ofString "goings_in",Str.ofString "goings_out",Str.ofString "Letters",Str.ofString "changed",Str.ofString "recorded",Str.ofString "done",Str.ofString "answers",Str.ofString "is_outdone",Str.ofString "chosen",Str.ofString "goals_of",Str.ofString "plain_ones",Str.ofString "kept_of",Str.ofString "keeping",Str.ofString "lamps",Str.ofString "lamps_stands",Str.ofString "sizes_of",Str.ofString "steps_in",Str.ofString "steps_out",Str.ofString "stepped",Str.ofString "passed",Str.ofString "rooms_left",Str.ofString "turn",Str.ofString "rested",Str.ofString "begun",Str.ofString "after",Str.ofString "Nest",Str.ofString "_law_cell_at",Str.ofString "_law_mixed",Str.ofString "_law_name",Str.ofString "_law_deed",Str.ofString "_law_deeds",Str.ofString "_law_guard",Str.ofString "_law_depths",Str.ofString "_law_rooms",Str.ofString "_law_doors",Str.ofString "_law_chart",Str.ofString "_law_same",Str.ofString "_law_event",Str.ofString "_law_refused",Str.ofString "_law_stands"]
def HK:PySem.W.Hook:=PySem.W.kHook KO KA fun _=>by kernel_rfl
def qD3:Stmt->Pos
 | .FunctionDef _ _ _ _ _ _ _ _ _ p=>p
 | _=>⟨0,0,0,0⟩
noncomputable def Mu:DefRec:=⟨"law",qd wX,jE wX,aA wX,qD3 wX⟩
noncomputable def MG(P:Params)(x:av)(m:aw DictEntry)(n:Nat):Obj:=⟨.type "dict",none,.dict ⟨⟨PyData.keyHash P "__name__",.str "__name__" 165,x⟩::⟨PyData.keyHash P "__doc__",.str "__doc__" 166,.none⟩::⟨PyData.keyHash P "__package__",.str "__package__" 167,.none⟩::⟨PyData.keyHash P "__loader__",.str "__loader__" 168,.builtin "__main__.__loader__#opaque"⟩::⟨PyData.keyHash P "__spec__",.str "__spec__" 169,.none⟩::⟨PyData.keyHash P "__annotations__",.str "__annotations__" 170,.ref 6⟩::⟨PyData.keyHash P "__builtins__",.str "__builtins__" 171,.ref 4⟩::⟨PyData.keyHash P "__file__",.str "__file__" 173,.str "/claim/cut.py" 172⟩::⟨PyData.keyHash P "__cached__",.str "__cached__" 174,.none⟩::⟨PyData.keyHash P "holds",.str "holds" 198,.ref 21⟩::⟨PyData.keyHash P "guards_within",.str "guards_within" 205,.ref 28⟩::⟨PyData.keyHash P "height",.str "height" 211,.ref 33⟩::⟨PyData.keyHash P "plain_guards",.str "plain_guards" 221,.ref 40⟩::⟨PyData.keyHash P "asked",.str "asked" 227,.ref 45⟩::⟨PyData.keyHash P "SMALL_LETTERS",.str "SMALL_LETTERS" 231,.str "abcdefghijklmnopqrstuvwxyz" 230⟩::⟨PyData.keyHash P "LONGEST",.str "LONGEST" 233,.int (12) 232⟩::⟨PyData.keyHash P "is_word",.str "is_word" 239,.ref 50⟩::⟨PyData.keyHash P "ORDERS",.str "ORDERS" 244,.ref 51⟩::⟨PyData.keyHash P "KINDS",.str "KINDS" 248,.ref 52⟩::⟨PyData.keyHash P "MOST_LETTERS",.str "MOST_LETTERS" 250,.int (12) 249⟩::⟨PyData.keyHash P "MOST_TURNS",.str "MOST_TURNS" 252,.int (20) 251⟩::⟨PyData.keyHash P "MOST_BOXES",.str "MOST_BOXES" 254,.int (6) 253⟩::⟨PyData.keyHash P "MOST_EVENTS",.str "MOST_EVENTS" 256,.int (8) 255⟩::⟨PyData.keyHash P "MOST_ROOMS",.str "MOST_ROOMS" 258,.int (40) 257⟩::⟨PyData.keyHash P "MOST_DOORS",.str "MOST_DOORS" 260,.int (60) 259⟩::⟨PyData.keyHash P "MOST_DEEDS",.str "MOST_DEEDS" 262,.int (8) 261⟩::⟨PyData.keyHash P "DEEPEST",.str "DEEPEST" 264,.int (12) 263⟩::⟨PyData.keyHash P "HIGHEST",.str "HIGHEST" 266,.int (6) 265⟩::⟨PyData.keyHash P "GREATEST",.str "GREATEST" 268,.int (1000000000000000000000000000000) 267⟩::⟨PyData.keyHash P "is_number_of",.str "is_number_of" 276,.ref 59⟩::⟨PyData.keyHash P "is_in_reach",.str "is_in_reach" 283,.ref 66⟩::⟨PyData.keyHash P "names_of",.str "names_of" 289,.ref 71⟩::⟨PyData.keyHash P "name_has_fault",.str "name_has_fault" 297,.ref 78⟩::⟨PyData.keyHash P "box_has_fault",.str "box_has_fault" 307,.ref 85⟩::⟨PyData.keyHash P "deed_has_fault",.str "deed_has_fault" 318,.ref 92⟩::⟨PyData.keyHash P "deeds_have_fault",.str "deeds_have_fault" 324,.ref 97⟩::⟨PyData.keyHash P "depth_has_fault",.str "depth_has_fault" 332,.ref 104⟩::⟨PyData.keyHash P "keeps_has_fault",.str "keeps_has_fault" 340,.ref 111⟩::⟨PyData.keyHash P "room_has_fault",.str "room_has_fault" 352,.ref 118⟩::⟨PyData.keyHash P "end_has_fault",.str "end_has_fault" 361,.ref 125⟩::⟨PyData.keyHash P "guard_has_fault",.str "guard_has_fault" 367,.ref 130⟩::⟨PyData.keyHash P "goal_has_fault",.str "goal_has_fault" 376,.ref 137⟩::⟨PyData.keyHash P "door_has_fault",.str "door_has_fault" 386,.ref 144⟩::⟨PyData.keyHash P "bound_faults",.str "bound_faults" 394,.ref 151⟩::⟨PyData.keyHash P "box_faults",.str "box_faults" 404,.ref 158⟩::⟨PyData.keyHash P "event_faults",.str "event_faults" 414,.ref 165⟩::⟨PyData.keyHash P "room_faults",.str "room_faults" 426,.ref 172⟩::⟨PyData.keyHash P "door_faults",.str "door_faults" 439,.ref 179⟩::⟨PyData.keyHash P "faults",.str "faults" 450,.ref 186⟩::⟨PyData.keyHash P "NestError",.str "NestError" 470,.ref 196⟩::⟨PyData.keyHash P "BadChart",.str "BadChart" 495,.ref 216⟩::⟨PyData.keyHash P "NoEvent",.str "NoEvent" 520,.ref 235⟩::⟨PyData.keyHash P "TooWide",.str "TooWide" 545,.ref 254⟩::⟨PyData.keyHash P "NoWords",.str "NoWords" 561,.ref 266⟩::⟨PyData.keyHash P "Unread",.str "Unread" 586,.ref 285⟩::⟨PyData.keyHash P "NoRow",.str "NoRow" 602,.ref 297⟩::⟨PyData.keyHash P "NoName",.str "NoName" 618,.ref 309⟩::m⟩ n,#[]⟩
noncomputable def C12(m:aw av):Obj:=⟨.none,none,.fields ⟨.int (2) 0::.int (0) 0::.ref 20::.int (17) 0::.int (0) 0::.ref 27::.int (23) 0::.int (0) 0::.ref 32::.int (25) 0::.int (0) 0::.ref 39::.int (33) 0::.int (0) 0::.ref 44::.int (41) 0::.int (0) 0::.ref 49::.int (56) 0::.int (0) 0::.ref 58::.int (58) 0::.int (0) 0::.ref 65::.int (60) 0::.int (0) 0::.ref 70::.int (62) 0::.int (0) 0::.ref 77::.int (64) 0::.int (0) 0::.ref 84::.int (70) 0::.int (0) 0::.ref 91::.int (82) 0::.int (0) 0::.ref 96::.int (84) 0::.int (0) 0::.ref 103::.int (88) 0::.int (0) 0::.ref 110::.int (94) 0::.int (0) 0::.ref 117::.int (104) 0::.int (0) 0::.ref 124::.int (109) 0::.int (0) 0::.ref 129::.int (118) 0::.int (0) 0::.ref 136::.int (124) 0::.int (0) 0::.ref 143::.int (130) 0::.int (0) 0::.ref 150::.int (139) 0::.int (0) 0::.ref 157::.int (145) 0::.int (0) 0::.ref 164::.int (151) 0::.int (0) 0::.ref 171::.int (157) 0::.int (0) 0::.ref 178::.int (163) 0::.int (0) 0::.ref 185::.int (174) 0::.int (0) 0::.ref 192::.int (176) 0::.int (0) 0::.ref 205::.int (181) 0::.int (0) 0::.ref 224::.int (186) 0::.int (0) 0::.ref 243::.int (191) 0::.int (0) 0::.ref 262::.int (193) 0::.int (0) 0::.ref 274::.int (198) 0::.int (0) 0::.ref 293::.int (200) 0::.int (0) 0::.ref 305::m⟩,#[]⟩
def m3(P:Params):aw DictEntry:=[⟨PyData.keyHash P "parent",.str "parent" 630,.ref 318⟩,⟨PyData.keyHash P "end_of",.str "end_of" 640,.ref 325⟩,⟨PyData.keyHash P "kids",.str "kids" 646,.ref 330⟩,⟨PyData.keyHash P "lies_in",.str "lies_in" 655,.ref 337⟩,⟨PyData.keyHash P "hall_over",.str "hall_over" 665,.ref 344⟩,⟨PyData.keyHash P "bears_goal",.str "bears_goal" 673,.ref 349⟩,⟨PyData.keyHash P "next_in",.str "next_in" 684,.ref 356⟩,⟨PyData.keyHash P "goings_in",.str "goings_in" 696,.ref 363⟩,⟨PyData.keyHash P "goings_out",.str "goings_out" 702,.ref 368⟩,⟨PyData.keyHash P "Letters",.str "Letters" 756,.ref 406⟩,⟨PyData.keyHash P "changed",.str "changed" 770,.ref 417⟩,⟨PyData.keyHash P "recorded",.str "recorded" 780,.ref 424⟩,⟨PyData.keyHash P "done",.str "done" 793,.ref 431⟩,⟨PyData.keyHash P "answers",.str "answers" 809,.ref 438⟩,⟨PyData.keyHash P "is_outdone",.str "is_outdone" 815,.ref 443⟩,⟨PyData.keyHash P "chosen",.str "chosen" 821,.ref 448⟩,⟨PyData.keyHash P "goals_of",.str "goals_of" 832,.ref 455⟩,⟨PyData.keyHash P "plain_ones",.str "plain_ones" 840,.ref 460⟩,⟨PyData.keyHash P "kept_of",.str "kept_of" 850,.ref 467⟩,⟨PyData.keyHash P "keeping",.str "keeping" 862,.ref 474⟩,⟨PyData.keyHash P "lamps",.str "lamps" 868,.ref 479⟩,⟨PyData.keyHash P "lamps_stands",.str "lamps_stands" 869,.ref 479⟩,⟨PyData.keyHash P "sizes_of",.str "sizes_of" 877,.ref 484⟩,⟨PyData.keyHash P "steps_in",.str "steps_in" 883,.ref 489⟩,⟨PyData.keyHash P "steps_out",.str "steps_out" 889,.ref 494⟩,⟨PyData.keyHash P "stepped",.str "stepped" 904,.ref 501⟩,⟨PyData.keyHash P "passed",.str "passed" 910,.ref 506⟩,⟨PyData.keyHash P "rooms_left",.str "rooms_left" 916,.ref 511⟩,⟨PyData.keyHash P "turn",.str "turn" 931,.ref 518⟩,⟨PyData.keyHash P "rested",.str "rested" 939,.ref 523⟩]
def m12:aw av:=[.int (203) 0,.int (0) 0,.ref 317,.int (209) 0,.int (0) 0,.ref 324,.int (215) 0,.int (0) 0,.ref 329,.int (218) 0,.int (0) 0,.ref 336,.int (220) 0,.int (0) 0,.ref 343,.int (228) 0,.int (0) 0,.ref 348,.int (231) 0,.int (0) 0,.ref 355,.int (239) 0,.int (0) 0,.ref 362,.int (247) 0,.int (0) 0,.ref 367,.int (253) 0,.int (0) 0,.ref 374,.int (273) 0,.int (0) 0,.ref 416,.int (282) 0,.int (0) 0,.ref 423,.int (289) 0,.int (0) 0,.ref 430,.int (297) 0,.int (0) 0,.ref 437,.int (305) 0,.int (0) 0,.ref 442,.int (310) 0,.int (0) 0,.ref 447,.int (314) 0,.int (0) 0,.ref 454,.int (323) 0,.int (0) 0,.ref 459,.int (325) 0,.int (0) 0,.ref 466,.int (330) 0,.int (0) 0,.ref 473,.int (336) 0,.int (0) 0,.ref 478,.int (340) 0,.int (0) 0,.ref 483,.int (342) 0,.int (0) 0,.ref 488,.int (344) 0,.int (0) 0,.ref 493,.int (346) 0,.int (0) 0,.ref 500,.int (355) 0,.int (0) 0,.ref 505,.int (372) 0,.int (0) 0,.ref 510,.int (374) 0,.int (0) 0,.ref 517,.int (386) 0,.int (0) 0,.ref 522]
noncomputable def YS(w:aI):ae:=(PySem.W.fencedOpening treeTable PW w 10960).getD {}
def f0(w:aI):PySem.W.fencedOpening treeTable PW w 10960=some (YS w):=by kernel_rfl
def g0(w:aI):((YS w).heap.isNs mainGlobals&&(YS w).gens.size==0)=true:=by kernel_rfl
abbrev gk(w:aI)(k:Nat)(s:ae)(t:Thread):=Stg.Ra treeTable PW w (YS w).heap.objs.size ((YS w).heap.nsMap mainGlobals "__annotations__") k s t
noncomputable abbrev go(w:aI)(k:Nat):=gk w k (YS w) (PySem.W.topStub PW)
noncomputable def early(w:aI):ae×Thread:=(go w 12).getD ({},PySem.W.topStub PW)
def qIE(w:aI):Env:=match (early w).2.code with
 | .body _ e=>e
 | _=>default
noncomputable def t1(w:aI)(j:Nat)(pos:Pos):Thread:={ (early w).2 with cur:=(do return .done (← (execs ((PySem.W.behindTheImports PW).drop j) (qIE w)).onRaise (leaving (qIE w)))),pos:=pos }
noncomputable def lo(w:aI)(g c:Obj)(i:Nat):Obj:=if i=3 then g else if i=12 then c else ((early w).1.heap.get? i).getD c
abbrev upto(m n:Nat)(a:ar):Bool:=Nat.ble m a&&Nat.blt a n
abbrev up:=upto 15 312
abbrev up2:=upto 312 524
abbrev up3:=upto 15 524
abbrev sees(r:ae×Thread):=(r.2,r.1.heap.objs.size,(List.range 15).map r.1.heap.get?,r.1.toks,r.1.gens,r.1.drawn,r.1.os,r.1.heap.life)
abbrev lo1(w:aI):=lo w (MG w.params (.str "nesthall.errors" 451) [] 57) (C12 [])
abbrev lo2(w:aI):=lo w (MG w.params (.str "nesthall.runs" 932) (m3 w.params) 87) (C12 m12)
abbrev T1(w:aI):=t1 w 52 ⟨200,0,201,8⟩
abbrev T2(w:aI):=t1 w 90 ⟨386,0,396,23⟩
def stA(w:aI):(go w 2773).map (fun r=>sees r)=some (T1 w,312,(List.range 15).map (fun i=>some (lo1 w i)),619,#[],(early w).1.drawn,(early w).1.os,(early w).1.heap.life):=by kernel_rfl
abbrev inK(w:aI)(q:ar->Bool):=((KO w.params).filter fun p=>q p.1).map fun p=>some p.2
def stK(w:aI):(go w 2773).map (fun r=>(KA.filter up).map r.1.heap.get?)=some (inK w up):=by kernel_rfl
def gt(x:aE Obj):aE Obj:=match x with
 | some ⟨_,_,.freed,_⟩=>none
 | r=>r
abbrev ofO(o:Nat->Obj)(q:ar->Bool):aw (aE Obj):=(KA.filter q).foldr (fun a l=>gt (some (o a))::l) []
abbrev S1(w:aI)(o:Nat->Obj):ae:=Stg.mkS (early w).1 312 15 619 (lo1 w) o
abbrev S2(w:aI)(o:Nat->Obj):ae:=Stg.mkS (early w).1 524 15 940 (lo2 w) o
def stB(w:aI)(o:Nat->Obj):(gk w 1241 (S1 w o) (T1 w)).map (fun r=>sees r)=some (T2 w,524,(List.range 15).map (fun i=>some (lo2 w i)),940,#[],(early w).1.drawn,(early w).1.os,(early w).1.heap.life):=by kernel_rfl
def stL(w:aI)(o:Nat->Obj):(gk w 1241 (S1 w o) (T1 w)).map (fun r=>((KA.filter up).map r.1.heap.get?,(KA.filter up2).map r.1.heap.get?))=some (ofO o up,inK w up2):=by kernel_rfl
def qLV(w:aI)(o:Nat->Obj):(KA.filter up).map (S1 w o).heap.get? = ofO o up:=by kernel_rfl
def qLU(w:aI)(o:Nat->Obj):(KA.filter up3).map (S2 w o).heap.get? = ofO o up3:=by kernel_rfl
abbrev YX(w:aI)(o:Nat->Obj):aE ae:=(PySem.W.topRun treeTable PW w (YS w).heap.objs.size ((YS w).heap.nsMap mainGlobals "__annotations__") 6946 (S2 w o) (T2 w)).bind (Stg.chk PW (YS w))
def qJY(w:aI)(o:Nat->Obj):(YX w o).map (fun s=>PySem.W.openSeen QV LS (importedModules PW.main.body) (fun s=>PySem.W.xlAt QV [] s&&PySem.W.recOk [] s) true s)=some (PySem.W.openGood QV LS):=by kernel_rfl
def qJX(w:aI)(o:Nat->Obj):(YX w o).map (fun s=>((KA.filter fun a => !up3 a).map s.heap.get?,(KA.filter up3).map s.heap.get?))=some (inK w fun a => !up3 a,ofO o up3):=by kernel_rfl
theorem map_two{α β γ:Type}{f:α->β}{g:α->γ}{x:aE α}{a:β}{b:γ}(h:x.map f=some a)(q:x.map g=some b):x.map (fun s=>(f s,g s))=some (a,b):=by
 cases x with
 | none=>cases h
 | some y=>cases h;cases q;rfl
def eKA(P:Params):KA=(KO P).map (·.1):=by kernel_rfl
def qDA{w:aI}{q:ar->Bool}{f:ar->aE Obj}(h:(KA.filter q).map f=inK w q)(p:ar×Obj)(m:p∈KO w.params)(e:q p.1=true):f p.1=some p.2:=by rw[eKA w.params,List.filter_map,gz]at h;exact List.map_inj_left.mp h p (lO.mpr ⟨m,e⟩)
def qIV{w:aI}{q:ar->Bool}{f g:ar->aE Obj}(h:(KA.filter q).map f=(KA.filter q).map g)(p:ar×Obj)(m:p∈KO w.params)(e:q p.1=true):f p.1=g p.1:=by rw[eKA w.params]at h;exact List.map_inj_left.mp h p.1 (lO.mpr ⟨List.mem_map_of_mem m,e⟩)
theorem left:PySem.W.LeftO PW QV LS (fun s=>PySem.W.xlAt QV [] s&&PySem.W.recOk [] s) HK.obs HK.val 10960:=fun w=>by
 obtain⟨o,A⟩:=Stg.stage (C12 []) (stA w);obtain⟨O,a⟩:=Stg.stage (C12 []) (stB w o);have z:=stK w;rw[show go w 2773=_ from A]at z;have z2:=stL w o;rw[show gk w 1241 (S1 w o) (T1 w)=_ from a]at z2;have z:=kJ z;have z2:=Prod.mk.inj (kJ z2);show Option.map _ (PySem.W.openEnds treeTable PW w 10960)=_;rw[Stg.Zb (f0 w) (g0 w) (show 10960=(2773+1241)+6946 from rfl) ((Stg.P0 A).trans a)];have b:=qJY w O;have B:=qJX w O;show Option.map _ (YX w O)=_;generalize YX w O=x at b B;refine map_two b ?_
 cases x with
 | none=>cases b
 | some y=>
  have c:=Prod.mk.inj (kJ B);have C:=c.2.trans (qLU w O).symm;have z3:=z2.1.trans (qLV w o).symm;refine congrArg some ?_;show KA.map y.heap.get? = (KO w.params).map fun p=>some p.2;rw[eKA w.params,gz];refine List.map_inj_left.mpr fun p m=>?_;show y.heap.get? p.1=some p.2
  cases e:up3 p.1 with
  | false=>exact qDA c.1 p m (by rw[e];rfl)
  | true=>
   rw[qIV C p m e]
   cases e2:up2 p.1 with
   | true=>exact qDA z2.2 p m e2
   | false=>
    have E:up p.1=true:=by
     simp only[up,up2,up3,upto,Bool.and_eq_true,Bool.and_eq_false_iff,Nat.ble_eq,Nat.blt_eq]at e e2 ⊢
     have n:Nat.ble 312 p.1=false->p.1<312:=fun h=>Nat.lt_of_not_le fun l=>by rw[Nat.ble_eq_true_of_le l]at h;cases h
     rcases e2 with h | h
     .exact⟨e.1,n h⟩
     .rw[show Nat.blt p.1 524=true from Nat.ble_eq_true_of_le e.2]at h;cases h
    rw[qIV z3 p m E];exact qDA z p m E
def qED:PySem.Challenge.rw_nesthall_k30_a_nest_keeps_its_stand.row.wellSaid=true:=by kernel_rfl
def said:PySem.Challenge.rw_nesthall_k30_a_nest_keeps_its_stand.wellSaid=true:=by
 unfold PySem.W.OpenLaw.wellSaid;rw[qED]
 kernel_rfl
end wH
namespace L2
open PySem PySem.Spec PyProof.Rows
abbrev Key:=Sum Int Str
noncomputable def Ei:Key->av->Bool
 | .inl k,v=>Value.isInt k v
 | .inr x,v=>Value.isStrOf x v
def qKV(w:aI):Key->Int
 | .inl k=>hashInt k
 | .inr x=>hashStr w x
theorem bz:∀ {k:Key} {v:av},Ei k v=true->(∃ i t,k=Sum.inl i/\v=Value.int i t)∨(∃ x t,k=Sum.inr x/\v=Value.str x t)
 | .inl i,v,h=>by
  obtain⟨t,e⟩:=Value.isInt_shape (k:=i) (v:=v) h;exact .inl ⟨i,t,rfl,e⟩
 | .inr x,v,h=>by
  obtain⟨t,e⟩:=Value.isStrOf_shape (x:=x) (v:=v) h;exact .inr ⟨x,t,rfl,e⟩
def RN(i:Int)(t:Tok):Ei (.inl i) (.int i t)=true:=by simp [Ei,Value.isInt]
def RM(x:Str)(t:Tok):Ei (.inr x) (.str x t)=true:=by simp [Ei,Value.isStrOf]
def qCO(a b:Int):decide ((Sum.inl a:Key)=Sum.inl b)=(a==b):=by
 by_cases e:a=b
 .subst e;simp
 .have h:¬ (Sum.inl a:Key)=Sum.inl b:=fun q=>e (Sum.inl.inj q);rw[bp h];exact (dQ.mpr e).symm
def qCL(a b:Str):decide ((Sum.inr a:Key)=Sum.inr b)=decide (a=b):=by
 by_cases e:a=b
 .subst e;simp
 .have h:¬ (Sum.inr a:Key)=Sum.inr b:=fun q=>e (Sum.inr.inj q);rw[bp h,bp e]
def qCN(a:Int)(b:Str):decide ((Sum.inl a:Key)=Sum.inr b)=false:=bp (fun q=>nomatch q)
def qCM(a:Str)(b:Int):decide ((Sum.inr a:Key)=Sum.inl b)=false:=bp (fun q=>nomatch q)
def bu(prog:ag)(w:aI):PySem.KeyKind prog w Key where
 is:=Ei
 hash:=qKV w
 inj:=fun v a b f c=>by
  rcases bz f with ⟨i,t,rfl,rfl⟩ | ⟨x,t,rfl,rfl⟩
  .rcases bz c with ⟨j,u,rfl,e⟩ | ⟨y,u,rfl,e⟩
   .injection e with E _;rw[E]
   .exact nomatch e
  .rcases bz c with ⟨j,u,rfl,e⟩ | ⟨y,u,rfl,e⟩
   .exact nomatch e
   .injection e with E _;rw[E]
 byValue:=fun k v h=>by
  rcases bz h with ⟨i,t,rfl,rfl⟩ | ⟨x,t,rfl,rfl⟩ <;> rfl
 pyHash:=fun H h=>by
  rcases bz H with ⟨i,t,rfl,rfl⟩ | ⟨x,t,rfl,rfl⟩
  .exact wpAny_pyHash_int h
  .exact wpAny_pyHash_str h
 eqBool:=fun d H h=>by
  rcases bz d with ⟨i,t,rfl,rfl⟩ | ⟨x,t,rfl,rfl⟩
  .rcases bz H with ⟨j,u,rfl,rfl⟩ | ⟨y,u,rfl,rfl⟩
   .rw[qCO]at h;exact wpAny_eqBool_int h
   .rw[qCN]at h;exact SeqAt.EqAt.int_str i t y u _ _ _ _ h
  .rcases bz H with ⟨j,u,rfl,rfl⟩ | ⟨y,u,rfl,rfl⟩
   .rw[qCM]at h;exact SeqAt.EqAt.str_int x t j u _ _ _ _ h
   .rw[qCL]at h;exact wpAny_eqBool_str h
 «strs»:=fun k x t v h=>by
  rcases bz h with ⟨i,u,rfl,e⟩ | ⟨y,u,rfl,e⟩
  .exact nomatch e
  .injection e with E _;subst E
   cases v <;> rfl
def JZ(prog:ag)(w:aI)(i:Int)(t:Tok):(bu prog w).is (.inl i) (.int i t)=true:=RN i t
def JX(prog:ag)(w:aI)(x:Str)(t:Tok):(bu prog w).is (.inr x) (.str x t)=true:=RM x t
inductive V where
 | non | bl (b:Bool) | int (i:Int) | str (x:Str) | Sv (b:Array UInt8) | flt (b:UInt64) | ref (a:Addr) | ty (n:String)
 deriving DecidableEq
def RelV:V->av->Prop
 | .non,u=>u=Value.none
 | .bl b,u=>u=Value.bool b
 | .int i,u => ∃ t,u=Value.int i t
 | .str x,u => ∃ t,u=Value.str x t
 | .Sv b,u => ∃ t,u=Value.bytes b t
 | .flt b,u => ∃ t,u=Value.float b t
 | .ref a,u=>u=Value.ref a
 | .ty n,u=>u=Value.type n
abbrev Vals:aw V->aw av->Prop:=Paired RelV
def Vals.length(r:Vals xs us):xs.length=us.length:=Paired.length r
theorem Vals.get:∀ {xs:aw V} {us:aw av} {i:Nat} {x:V},Vals xs us->xs[i]? = some x->∃ u,us[i]? = some u/\RelV x u
 | _,_,_,_,.nil,e=>by simp at e
 | _,_,0,_,.cons r _,e=>by simp at e;subst e;exact⟨_,rfl,r⟩
 | _,_,i+1,x,.cons _ t,e=>by
  obtain⟨u,f,q⟩:=Vals.get (i:=i) (x:=x) t (by simpa using e);exact⟨u,by simpa using f,q⟩
theorem Vals.set(r:RelV x u):∀ {xs:aw V} {us:aw av} (i:Nat),Vals xs us->Vals (xs.set i x) (us.set i u)
 | _,_,_,.nil=>.nil
 | _,_,0,.cons _ t=>.cons r t
 | _,_,i+1,.cons q t=>.cons q (Vals.set r i t)
theorem Vals.append:∀ {xs ys:aw V} {us w:aw av},Vals xs us->Vals ys w->Vals (xs++ys) (us++w)
 | _,_,_,_,.nil,s=>s
 | _,_,_,_,.cons r t,s=>.cons r (Vals.append t s)
theorem Vals.take:∀ {xs:aw V} {us:aw av} (n:Nat),Vals xs us->Vals (xs.take n) (us.take n)
 | _,_,0,_=>.nil
 | _,_,_+1,.nil=>.nil
 | _,_,n+1,.cons r t=>.cons r (Vals.take n t)
theorem Vals.drop:∀ {xs:aw V} {us:aw av} (n:Nat),Vals xs us->Vals (xs.drop n) (us.drop n)
 | _,_,0,r=>r
 | _,_,_+1,.nil=>.nil
 | _,_,n+1,.cons _ t=>Vals.drop n t
def oH:aE V->aE av->Prop
 | some v,some u=>RelV v u
 | none,none=>True
 | _,_=>False
def KV{κ:Type}:aw (κ×V)->aw (κ×av)->Prop:=Paired fun (p:κ×V) (q:κ×av)=>p.1=q.1/\RelV p.2 q.2
def kV:Key->V
 | .inl i=>.int i
 | .inr x=>.str x
inductive HO where
 | lst (xs:List V)
 | tup (xs:List V)
 | dK (kvs:List (Key×V)) | dT (kvs:List (List Key×V))
 | set (S:Int->Bool) (n:Nat)
 | ins (C dx:Addr) (fs:List (Str×V))
 | own (x:Addr)
 | xd (fs:List (Str×V))
 | met (f x:Addr)
 | rng (lo hi:Int)
 | Mh (o:Obj) (u:HO)
 | tbl (ps:Array Value)
 | ext (φ:Heap->Prop)
abbrev Hp:=ar->aE HO
noncomputable def upd(H:Hp)(a:ar)(o:HO):Hp:=fun b=>if b=a then some o else H b
def zC:upd H a o a=some o:=by unfold upd;rw[cS rfl]
def zR(h:b≠a):upd H a o b=H b:=by unfold upd;rw[cK h]
def gU{H:Hp}{a b:ar}{o u:HO}(h:H a=some o)(h':H b=some u)(d:o≠u):a≠b:=by intro e;subst e;rw[h]at h';exact d (kJ h')
def zN{H:Hp}{a b:ar}{o:HO}(h:H a=some o)(h':H b=none):a≠b:=by intro e;subst e;rw[h]at h';cases h'
section
variable(P:ag)(w:aI)
def bM(H:Hp)(h:Heap)(a:ar):HO->Prop
 | .lst xs=>xs.length<=sizeLine/\∃(its:aw av)(n:Nat),Vals xs its/\h.get? a=some { cls:=.type "list",data:=.seq its.toArray n }
 | .tup xs=>xs.length<=sizeLine/\∃ its:aw av,Vals xs its/\IsTup h a its.toArray
 | .dK k=>k.length<=sizeLine/\(a==sysModules)=false/\∃ vs,KV k vs/\h.DictOf (bu P w) a vs
 | .dT k=>k.length<=sizeLine/\(a==sysModules)=false/\∃ xs:aw (aw Key×ar×av),
   Paired (fun (p:aw Key×V) (q:aw Key×ar×av)=>p.1=q.1/\H q.2.1=some (.tup (p.1.map kV))/\RelV p.2 q.2.2) k xs ∧
   ∃ o e ep,h.get? a=some o/\o.ExactDict/\o.data = .dict e ep/\e.toList=xs.map (entryOfKey (tupleKind (bu P w)))/\(xs.map (·.1)).Nodup
 | .set S n=>h.SetOf (intKind P w) a S n
 | .ins C d fs=>H d=some (.own a)/\fs.length<=1000/\d≠a/\h.get? a=some (PySem.W.instObj C d) ∧
   ∃ m,h.Ns1 d m/\(∀ f,oH (fs.lookup f) (m f))/\PySem.Within m (fs.map (·.1))
 | .own _ => ∃ o,h.get? a=some o
 | .xd fs => ∃ m,h.Ns1 a m/\∀ f,oH (fs.lookup f) (m f)
 | .rng lo i => ∃ t u v,h.get? a=some { cls:=.type "range",data:=.fields #[.int lo t,.int i u,.int 1 v] }
 | .Mh o u=>h.get? a=some o/\bM H h a u
 | .tbl ps=>h.get? a=some { cls:=.none,data:=.fields ps }
 | .met f x=>h.get? a=some (PySem.W.methodObj (.ref f) (.ref x))
 | .ext φ=>φ h/\(∃ o,h.get? a=some o)/\∀ b c:Heap,φ b->(∀ o,b.get? a=some o->c.get? a=some o)->φ c
def lM(H:Hp)(h:Heap):Prop:=∀ a o,H a=some o->bM P w H h a o
end
section
variable{P:ag}{w:aI}{H H':Hp}{h h':Heap}{a:ar}{o:HO}
theorem bM.lt(x:bM P w H h a o):a<h.objs.size:=by
 cases o with
 | lst xs=>obtain⟨_,_,_,_,e⟩:=x;exact gQ e
 | tup xs=>obtain⟨_,_,_,p⟩:=x;exact p.lt
 | dK k=>obtain⟨_,_,_,_,o,_,_,e,_⟩:=x;exact gQ e
 | dT k=>obtain⟨_,_,_,_,o,_,_,e,_⟩:=x;exact gQ e
 | set S n=>obtain⟨o,_,_,_,e,_⟩:=x;exact gQ e
 | ins C d fs=>obtain⟨_,_,_,e,_⟩:=x;exact gQ e
 | own y=>obtain⟨_,e⟩:=x;exact gQ e
 | xd fs=>obtain⟨_,⟨_,_,_,e,_⟩,_⟩:=x;exact gQ e
 | rng lo i=>obtain⟨_,_,_,e⟩:=x;exact gQ e
 | Mh O u=>obtain⟨e,_⟩:=x;exact gQ e
 | tbl ps=>exact gQ (show h.get? a=some _ from x)
 | met f y=>exact gQ (show h.get? a=some _ from x)
 | ext φ=>obtain⟨_,⟨_,e⟩,_⟩:=x;exact gQ e
theorem Paired.qCI:∀ {l:aw α} {L:aw β},Paired F l L->(∀ a b,F a b->G a b)->Paired G l L
 | _,_,.nil,_=>.nil
 | _,_,.cons r t,f=>.cons (f _ _ r) (Paired.qCI t f)
theorem bM.stay(x:bM P w H h a o)(k:∀ b u,(b=a∨H b=some (.own a))->h.get? b=some u->h'.get? b=some u)
  (j:∀ b,H b=some (.own a)->H' b=some (.own a)) (ht:∀ b xs,H b=some (.tup xs)->H' b=some (.tup xs)):bM P w H' h' a o:=by
 induction o with
 | lst xs=>obtain⟨z,its,n,r,e⟩:=x;exact⟨z,its,n,r,k _ _ (.inl rfl) e⟩
 | tup xs=>obtain⟨z,its,r,O,e,c⟩:=x;exact⟨z,its,r,O,k _ _ (.inl rfl) e,c⟩
 | dK s=>obtain⟨z,y,vs,r,O,E,ep,e,c⟩:=x;exact⟨z,y,vs,r,O,E,ep,k _ _ (.inl rfl) e,c⟩
 | dT s=>
  obtain⟨z,y,xs,r,O,E,ep,e,c⟩:=x;exact⟨z,y,xs,Paired.qCI r fun p q z=>⟨z.1,ht _ _ z.2.1,z.2.2⟩,O,E,ep,k _ _ (.inl rfl) e,c⟩
 | set S n=>obtain⟨O,E,ep,t,e,c⟩:=x;exact⟨O,E,ep,t,k _ _ (.inl rfl) e,c⟩
 | ins C D fs=>
  obtain⟨d,z,ne,e,m,⟨od,E,ep,g,c⟩,r⟩:=x;exact⟨j _ d,z,ne,k _ _ (.inl rfl) e,m,⟨od,E,ep,k _ _ (.inr d) g,c⟩,r⟩
 | own y=>obtain⟨O,e⟩:=x;exact⟨O,k _ _ (.inl rfl) e⟩
 | xd fs=>obtain⟨m,⟨od,E,ep,e,c⟩,r⟩:=x;exact⟨m,⟨od,E,ep,k _ _ (.inl rfl) e,c⟩,r⟩
 | rng lo l=>obtain⟨t,u,v,e⟩:=x;exact⟨t,u,v,k _ _ (.inl rfl) e⟩
 | Mh O u i=>obtain⟨e,q⟩:=x;exact⟨k _ _ (.inl rfl) e,i q⟩
 | tbl ps=>
  have e:h.get? a=some { cls:=.none,data:=.fields ps }:=x;show h'.get? a=some { cls:=.none,data:=.fields ps };exact k a _ (.inl rfl) e
 | met f y=>
  have e:h.get? a=some (PySem.W.methodObj (.ref f) (.ref y)):=x;show h'.get? a=some (PySem.W.methodObj (.ref f) (.ref y));exact k a _ (.inl rfl) e
 | ext φ=>obtain⟨p,⟨o,e⟩,st⟩:=x;exact⟨st _ _ p fun o q=>k _ _ (.inl rfl) q,⟨o,k _ _ (.inl rfl) e⟩,st⟩
def lM.lt(x:lM P w H h)(e:H a=some o):a<h.objs.size:=(x a o e).lt
theorem lM.fresh(x:lM P w H h)(e:h.objs.size<=a):H a=none:=by
 cases q:H a with
 | none=>rfl
 | some u=>exact eu (KR (x.lt q) e) (iq _)
def lM.kept(x:lM P w H h)(k:∀ b u,h.get? b=some u->h'.get? b=some u):lM P w H h':=fun a o e=>
 (x a o e).stay (fun b u _ q=>k b u q) (fun _ q=>q) fun _ _ q=>q
def lM.laid(x:lM P w H h)(k:∀ b u,h.get? b=some u->h'.get? b=some u)(p:h.objs.size<=a)(new:bM P w (upd H a o) h' a o):lM P w (upd H a o) h':=fun b u e=>by
 have j:=x.fresh p
 by_cases d:b=a
 .subst d;rw[zC]at e;cases e;exact new
 .rw[zR d]at e
  exact (x b u e).stay (fun c v _ q=>k c v q) (fun c q=>by rw[zR (zN q j)];exact q) fun c _ q=>by rw[zR (zN q j)];exact q
end
def Rd(H:Hp)(a:ar)(u:HO):Prop:=H a=some u ∨ ∃ o,H a=some (.Mh o u)
def Rd.ok(r:Rd H a u)(x:lM P w H h):bM P w H h a u:=by
 rcases r with r | ⟨o,r⟩
 .exact x a u r
 .obtain⟨_,q⟩:=x a _ r;exact q
def Mut:aE HO->Prop
 | some (.lst _)=>True
 | some (.dK _)=>True
 | some (.dT _)=>True
 | some (.set _ _)=>True
 | some (.ins _ _ _)=>True
 | some (.ext _)=>True
 | _=>False
section
variable{P:ag}{w:aI}{H:Hp}{h h':Heap}{x e:ar}{o':HO}
def lM.write(ok:lM P w H h)(m:Mut (H x))(g:e=x∨H e=some (.own x))(k:∀ b u,b≠e->h.get? b=some u->h'.get? b=some u)(o:∃ u,h'.get? e=some u)
  (new:bM P w (upd H x o') h' x o'):lM P w (upd H x o') h':=fun b u q=>by
 have Q:∀ c y,H c=some (.own y)->c≠x:=fun c y r z=>by subst z;rw[r]at m;exact m
 have F:∀ c xs,H c=some (.tup xs)->c≠x:=fun c xs r z=>by subst z;rw[r]at m;exact m
 by_cases f:b=x
 .subst f;rw[zC]at q;cases q;exact new
 .rw[zR f]at q
  by_cases a:b=e
  .have i:H b=some (.own x):=by
    rcases g with z | z
    .exact eu (a.trans z) f
    .rw[a];exact z
   rw[q]at i;cases i;obtain⟨v,j⟩:=o;exact⟨v,by rw[a];exact j⟩
  .refine (ok b u q).stay (fun c v d r=>k c v ?_ r) (fun c r=>by rw[zR (Q c b r)];exact r) fun c xs r=>by rw[zR (F c xs r)];exact r
   rcases d with rfl | d
   .exact a
   .rintro rfl;rcases g with z | z
    .exact Q c b d z
    .rw[d]at z;cases z;exact f rfl
end
structure Un(fs ex:List Addr)(H H':Hp)(h h':Heap):Prop where
 keep:∀ b o,h.get? b=some o->H b=none->b∉fs->b∉ex->h'.get? b=some o
 slot:∀ b o,h.get? b=some o->H b=none->b∈fs->b∉ex->∃ sl,h'.get? b=some { o with slots:=sl }
 free:∀ b o,h.get? b=some o->H b=none->b∉ex->H' b=none
 there:∀ b o,h.get? b=some o->b∉ex->∃ o',h'.get? b=some o'
 tups:∀ b xs,H b=some (.tup xs)->H' b=some (.tup xs)
 uZ:∀ b o u,H b=some (.Mh o u)->H' b=some (.Mh o u)
 vH:∀ b ps,H b=some (.tbl ps)->∃ more,H' b=some (.tbl (ps++more))
section
variable{fs fs' ex ex':aw ar}{H H1 H2:Hp}{h h1 h2 h':Heap}{a x e:ar}{o:HO}
def Un.any(u:Un fs ex H H1 h h1)(q:h.get? b=some ob)(n:H b=none)(x:b∉ex):∃ s,h1.get? b=some { ob with slots:=s }:=by
 by_cases c:b∈fs
 .exact u.slot b ob q n c x
 .exact⟨ob.slots,u.keep b ob q n c x⟩
def Un.kept(k:∀ b u,h.get? b=some u->h'.get? b=some u):Un fs ex H H h h':=
 ⟨fun b O q _ _ _=>k b O q,fun b O q _ _ _=>⟨O.slots,k b O q⟩,fun _ _ _ n _=>n,fun b O q _=>⟨O,k b O q⟩,fun _ _ q=>q,fun _ _ _ q=>q,fun _ _ q=>⟨#[],by rw[q];simp⟩⟩
def Un.refl:Un fs ex H H h h:=Un.kept fun _ _ q=>q
def Un.laid(k:∀ b u,h.get? b=some u->h'.get? b=some u)(p:h.objs.size<=a)(j:H a=none):Un fs ex H (upd H a o) h h' where
 keep:=fun b u q _ _ _=>k b u q
 slot:=fun b u q _ _ _=>⟨u.slots,k b u q⟩
 free:=fun b u q n _=>by rw[zR (jQ (KR (gQ q) p))];exact n
 there:=fun b u q _=>⟨u,k b u q⟩
 tups:=fun b xs q=>by rw[zR (zN q j)];exact q
 uZ:=fun b u xs q=>by rw[zR (zN q j)];exact q
 vH:=fun b _ q=>⟨#[],by rw[zR (zN q j),q];simp⟩
def Un.write(m:Mut (H x))(i:e=x∨H e=some (.own x))(k:∀ b u,b≠e->h.get? b=some u->h'.get? b=some u)(c:∃ u,h'.get? e=some u):Un fs ex H (upd H x o) h h':=by
 have f:∀ b,H b=none->b≠x:=fun b n z=>by subst z;rw[n]at m;exact m
 have g:∀ b,H b=none->b≠e:=fun b n z=>by
  subst z;rcases i with r | r
  .exact f b n r
  .rw[n]at r;cases r
 have d:∀ b u,H b=some u->¬ Mut (some u)->b≠x:=fun b u q nm z=>by subst z;rw[q]at m;exact nm m
 refine⟨fun b u q n _ _=>k b u (g b n) q,fun b u q n _ _=>⟨u.slots,k b u (g b n) q⟩,fun b u q n _=>by rw[zR (f b n)];exact n,fun b u q _=>?_,
  fun b xs q=>by rw[zR (d b _ q fun z=>z)];exact q,fun b u xs q=>by rw[zR (d b _ q fun z=>z)];exact q,fun b _ q=>⟨#[],by rw[zR (d b _ q fun z=>z),q];simp⟩⟩
 by_cases a:b=e
 .subst a;exact c
 .exact⟨u,k b u a q⟩
end
def trk(h:Heap)(H:Hp):aw ar:=(List.range h.objs.size).filter fun a=>(H a).isSome
def Gr(h:Heap)(H:Hp):Heap:=PySem.W.hideAll h (trk h H)
def RX(h:Heap)(H:Hp):(Gr h H).objs.size=h.objs.size:=PySem.W.hideAll_size _ _
def Vz(e:h.get? b=some o)(n:H b=none):(Gr h H).get? b=some o:=
 PySem.W.hideAll_get _ e fun d=>by
  have q:(H b).isSome=true:=(lO.mp d).2;rw[n]at q;simp at q
theorem Z4(e:(Gr h H).get? b=some o):h.get? b=some o/\H b=none:=by
 have E:h.get? b=some o:=PySem.W.of_hideAll (trk h H) e;refine⟨E,?_⟩
 cases q:H b with
 | none=>rfl
 | some x=>
  have d:b∈trk h H:=List.mem_filter.mpr ⟨List.mem_range.mpr (Heap.lt_size E),by simp [q]⟩;have z:(Gr h H).get? b=none:=PySem.W.hideAll_none (trk h H) d;rw[z]at e;cases e
noncomputable def Zy(g h:Heap)(L:ar):aw (ar×Obj):=(List.range h.objs.size).filterMap fun a=>if a=L∨(g.get? a).isSome=true then none else (h.get? a).map fun o=>(a,o)
def rest(g h:Heap)(L d:ar):aw (ar×Obj):=(Zy g h L).filter fun p=>decide (p.1≠d)
structure Mod(K:bV)(mg:Str->Option Value)(base:Heap):Prop where
 kin:K.In base
 glob:base.Ns mainGlobals mg
 blt:∃ mb,base.Ns builtinsNs mb/\∀ x:Str,x ≠ "__name__" -> mb x=bootBuiltins x
 nolimit:base.NoLimit
structure Cx where
 prog:Program
 w:World
 K:bV
 mg:Str->Option Value
 base:Heap
 A:Around
 N:List Str
 s₀:Shared
 H₀:Hp
 env:Env
 outer:List Env
 stack:List Env
 ex:List Addr
 fn:Str->Bool
 calm:Bool
 pn:List (Addr×Obj)
 xe:Value->Shared->Prop
def frs(l:aw Env):aw ar:=l.filterMap (·.frame)
abbrev Cx.fs(X:Cx):aw ar:=frs X.outer
def Vis(S:Scope)(x:Str):Prop:=S.names.lookup x=some .local∨S.names.lookup x=some .cell∨S.names.lookup x=some .free
def Loc(S:Scope)(x:Str):Prop:=S.names.lookup x=some .local∨S.names.lookup x=some .cell
def Look(e:Env)(h:Heap)(m:Str->aE av)(x:Str)(u:av):Prop:=
 (e.kindOf x=some .local/\m x=some u)∨((e.kindOf x=some .cell∨e.kindOf x=some .free)/\∃ c,e.cells.lookup x=some c/\h.IsCell c (some u))
structure Cx.Ok(X:Cx):Prop where
 mod:Mod X.K X.mg X.base
 kind:X.env.scope.kind = .function
 glob:X.env.globals=mainGlobals
 blt:X.env.builtins=builtinsNs
 above:X.s₀.heap.objs.size<=X.env.locals
 inj:∀ x y c,X.env.cells.lookup x=some c->X.env.cells.lookup y=some c->x=y
 has:∀ x,(X.env.kindOf x=some .cell∨X.env.kindOf x=some .free)->∃ c,X.env.cells.lookup x=some c
 cab:∀ x c,X.fn x=true->X.env.cells.lookup x=some c->X.s₀.heap.objs.size<=c
 hd:X.calm=true->X.A.handled=none
 frames:X.A.frames=some X.stack
 stk:X.stack=X.outer∨(X.stack=X.env::X.outer/\X.env.frame=some X.env.locals)
 exf:∀ b∈X.ex,b≠X.env.locals/\∀ x c,X.env.cells.lookup x=some c->c≠b
 bs:∀ b o,X.base.get? b=some o->X.s₀.heap.get? b=some o/\X.H₀ b=none
 Xw:X.base.objs.size<=X.s₀.heap.objs.size
 R9:∀ b o,X.base.get? b=some o->b∉X.ex
 Wj:∀ b∈X.ex,b∉X.fs
 uY:X.s₀.heap.FunFrames X.base X.outer
 ZS:∀ b∈X.fs,X.H₀ b=none
structure Inv(X:Cx)(pins:List (Addr×Obj))(σ:List (Option V))(H:Hp)(s:Shared):Prop where
 ok:X.Ok
 os:s.os=X.s₀.os
 bare:AllBare s.gens
 base:Un X.fs X.ex X.H₀ H X.s₀.heap s.heap
 loc:∃ m,s.heap.Ns X.env.locals m/\∀(i:Nat)(x:Str)(v:V),X.N[i]? = some x->σ[i]? = some (some v)->Vis X.env.scope x->∃ u,RelV v u/\Look X.env s.heap m x u
 cell:∀ x c,X.env.cells.lookup x=some c->∃ v,s.heap.IsCell c v
 free:H X.env.locals=none
 jq:∀ x c,X.env.cells.lookup x=some c->H c=none
 pin:∀ p∈X.pn++pins,s.heap.get? p.1=some p.2/\H p.1=none/\p.1≠X.env.locals/\p.1∉X.fs/\∀ v,p.2.data≠.cell v
 hok:lM X.prog X.w H s.heap
 len:σ.length=X.N.length
section
variable{X:Cx}{pins:aw (ar×Obj)}{σ:aw (aE V)}{H H':Hp}{s:ae}{h':Heap}
def Cx.Ok.qKK(ok:X.Ok)(e:X.base.get? b=some o):b∉X.fs:=fun c=>by
 have:=(ok.uY.mem c).1;rw[e]at this;cases this
def Inv.bs(I:Inv X pins σ H s):∀ b o,X.base.get? b=some o->s.heap.get? b=some o/\H b=none:=fun b o e=>
 ⟨I.base.keep b o (I.ok.bs b o e).1 (I.ok.bs b o e).2 (I.ok.qKK e) (I.ok.R9 b o e),I.base.free b o (I.ok.bs b o e).1 (I.ok.bs b o e).2 (I.ok.R9 b o e)⟩
def Inv.bk(I:Inv X pins σ H s):∀ b o,X.base.get? b=some o->s.heap.get? b=some o:=fun b o e=>(I.bs b o e).1
def Inv.mod(I:Inv X pins σ H s):Mod X.K X.mg X.base:=I.ok.mod
def Inv.mQ(I:Inv X pins σ H s):X.K.In s.heap:=I.ok.mod.kin.keeps I.bk
def Inv.lt(I:Inv X pins σ H s):X.env.locals<s.heap.objs.size:=let ⟨_,j,_⟩:=I.loc;j.lt
def Inv.sz(I:Inv X pins σ H s):X.s₀.heap.objs.size<=s.heap.objs.size:=br I.ok.above (ij I.lt)
def Inv.qKJ(I:Inv X pins σ H s)(h:s.heap.objs.size<=a):a∉X.fs:=fun c=>by
 obtain⟨_,o,q,_⟩:=I.ok.uY.mem c;exact eu (KR (gQ q) (br I.sz h)) (iq _)
def Inv.Zi(I:Inv X pins σ H s):∀ x c,X.env.cells.lookup x=some c->c≠X.env.locals:=fun x c e z=>by
 obtain⟨v,o,q,hd⟩:=I.cell x c e;obtain⟨m,⟨_,_,_,a,h,_⟩,_⟩:=I.loc;rw[z,a]at q;cases q;rw[h]at hd;cases hd
theorem Inv.uY(I:Inv X pins σ H s):s.heap.FunFrames X.base X.outer:=by
 have all:∀(l:aw Env),(∀ b∈frs l,b∈X.fs)->X.s₀.heap.FunFrames X.base l->s.heap.FunFrames X.base l:=by
  intro l
  induction l with
  | nil=>intro _ _;trivial
  | cons E r i=>
   intro d f;obtain⟨k,⟨L,o,h,j,q,hd⟩,g⟩:=f;have a:L∈X.fs:=d L (by unfold frs;rw[fw,h];exact FZ);obtain⟨_,e⟩:=I.base.slot L o q (I.ok.ZS L a) a fun z=>I.ok.Wj L z a;exact⟨k,⟨L,_,h,j,e,hd⟩,i (fun b c=>d b (by unfold frs;rw[fw,h];exact Hr _ c)) g⟩
 exact all X.outer (fun _ c=>c) I.ok.uY
def Inv.stack(I:Inv X pins σ H s):s.heap.FunFrames X.base X.stack:=by
 rcases I.ok.stk with e | ⟨e,h⟩
 .rw[e];exact I.uY
 .rw[e];obtain⟨m,j,_⟩:=I.loc;refine .cons (by rw[I.ok.kind];decide) h j ?_ I.uY;exact eS (br I.ok.Xw I.ok.above)
def Inv.Kq(I:Inv X pins σ H s):∀ b∈frs X.stack,b∈X.env.locals::X.fs:=fun b c=>by
 rcases I.ok.stk with e | ⟨e,h⟩
 .rw[e]at c;exact Hr _ c
 .rw[e]at c;unfold frs at c;rw[fw,h]at c;exact c
def Inv.xg(I:Inv X pins σ H s):∀ b∈frs X.stack,H b=none:=fun b c=>by
 rcases dD.mp (I.Kq b c) with e | c
 .rw[e];exact I.free
 .obtain⟨_,o,q,_⟩:=I.ok.uY.mem c;exact I.base.free b o q (I.ok.ZS b c) fun z=>I.ok.Wj b z c
def Inv.step{g':Array GenState}{t':Nat}{d':Drawn}{ch:aw ar}(I:Inv X pins σ H s)
  (a:∀ b∈ch,(b∈X.ex∨X.s₀.heap.objs.size<=b)/\b≠X.env.locals/\(∀ x c,X.env.cells.lookup x=some c->c≠b)/\∀ p∈X.pn++pins,p.1≠b)
  (keep:∀ b o,b≠X.env.locals->b∉X.fs->b∉ch->s.heap.get? b=some o->H b=none->h'.get? b=some o)
  (S:∀ b o,b≠X.env.locals->b∈X.fs->b∉ch->s.heap.get? b=some o->H b=none->∃ y,h'.get? b=some { o with slots:=y }) (free:∀ b o,b∉ch->s.heap.get? b=some o->H b=none->H' b=none)
  (there:∀ b o,b∉ch->s.heap.get? b=some o->∃ O,h'.get? b=some O)
  (t:∀ b xs,H b=some (.tup xs)->H' b=some (.tup xs)) (U:∀ b o u,H b=some (.Mh o u)->H' b=some (.Mh o u)) (P:∀ b ps,H b=some (.tbl ps)->∃ more,H' b=some (.tbl (ps++more)))
  (ns:∀ m,s.heap.Ns X.env.locals m->h'.Ns X.env.locals m) (hok:lM X.prog X.w H' h') (R:AllBare g') :
  Inv X pins σ H' { s with heap:=h',gens:=g',drawn:=d',toks:=t' }:=by
 have L:∀ b o,X.s₀.heap.get? b=some o->b≠X.env.locals:=fun b o e=>jQ (KR (gQ e) I.ok.above)
 have f:∀ b o,X.s₀.heap.get? b=some o->b∉X.ex->b∉ch:=fun b o e h g=>by
  rcases (a b g).1 with z | z
  .exact h z
  .exact eu (KR (gQ e) z) (iq _)
 have C:∀ x c,X.env.cells.lookup x=some c->∀ v,s.heap.IsCell c v->h'.IsCell c v:=fun x c e v ⟨o,j,hd⟩=>by
  have N:c∉ch:=fun z=>(a c z).2.2.1 x c e rfl
  by_cases B:c∈X.fs
  .obtain⟨y,q⟩:=S c o (I.Zi x c e) B N j (I.jq x c e);exact⟨_,q,hd⟩
  .exact⟨o,keep c o (I.Zi x c e) B N j (I.jq x c e),hd⟩
 refine⟨I.ok,I.os,R,⟨fun b o e n g h=>?_,fun b o e n g h=>?_,fun b o e n h=>?_,fun b o e h=>?_,fun b xs e=>t b xs (I.base.tups b xs e),fun b o xs e=>U b o xs (I.base.uZ b o xs e),fun b ps e=>?_⟩,?_,fun x c e=>?_,?_,fun x c e=>?_,fun p F=>?_,hok,I.len⟩
 .exact keep b o (L b o e) g (f b o e h) (I.base.keep b o e n g h) (I.base.free b o e n h)
 .obtain⟨y,E⟩:=I.base.slot b o e n g h;obtain⟨A,w⟩:=S b _ (L b o e) g (f b o e h) E (I.base.free b o e n h);exact⟨A,w⟩
 .obtain⟨O,E⟩:=I.base.there b o e h;exact free b O (f b o e h) E (I.base.free b o e n h)
 .obtain⟨O,E⟩:=I.base.there b o e h;exact there b O (f b o e h) E
 .obtain⟨T,E⟩:=I.base.vH b ps e;obtain⟨Q,w⟩:=P b _ E;exact⟨T++Q,by rw[w,Array.append_assoc]⟩
 .obtain⟨m,G,J⟩:=I.loc;refine⟨m,ns m G,fun i x v E w M=>?_⟩;obtain⟨u,r,l⟩:=J i x v E w M;refine⟨u,r,?_⟩;rcases l with l | ⟨k,c,e,z⟩
  .exact .inl l
  .exact .inr ⟨k,c,e,C x c e _ z⟩
 .obtain⟨v,z⟩:=I.cell x c e;exact⟨v,C x c e v z⟩
 .obtain⟨m,⟨o,_,_,j,_⟩,_⟩:=I.loc;exact free _ o (fun z=>(a _ z).2.1 rfl) j I.free
 .obtain⟨v,o,j,hd⟩:=I.cell x c e;exact free c o (fun z=>(a c z).2.2.1 x c e rfl) j (I.jq x c e)
 .obtain⟨e,n,ne,D,d⟩:=I.pin p F;have N:p.1∉ch:=fun z=>(a p.1 z).2.2.2 p F rfl;exact⟨keep p.1 p.2 ne D N e n,free p.1 p.2 N e n,ne,D,d⟩
def Inv.un{t':Nat}(I:Inv X pins σ H s)(u:Un X.fs [] H H' s.heap h')(hok:lM X.prog X.w H' h'):Inv X pins σ H' { s with heap:=h',toks:=t' }:=by
 obtain⟨m,⟨o,_,_,q,r⟩,_⟩:=id I.loc;obtain⟨_,L⟩:=u.any q I.free (by simp)
 exact I.step (g':=s.gens) (d':=s.drawn) (ch:=[]) (fun _ z=>nomatch z) (fun b o _ h _ e n=>u.keep b o e n h (by simp)) (fun b o _ h _ e n=>u.slot b o e n h (by simp)) (fun b o _ e n=>u.free b o e n (by simp)) (fun b o _ e=>u.there b o e (by simp)) u.tups u.uZ u.vH (fun _ d=>by
  obtain⟨_,c,E,a,R⟩:=d;rw[q]at a;cases a
  exact⟨_,c,E,L,R⟩) hok I.bare
def Inv.call{g':Array GenState}{t':Nat}{d':Drawn}{ch:aw ar}(I:Inv X pins σ H s)(u:Un (frs X.stack) ch H H' s.heap h')(hok:lM X.prog X.w H' h')(g:AllBare g')
  (a:∀ b∈ch,(b∈X.ex∨X.s₀.heap.objs.size<=b)/\b≠X.env.locals/\(∀ x c,X.env.cells.lookup x=some c->c≠b)/\∀ p∈X.pn++pins,p.1≠b) :
  Inv X pins σ H' { s with heap:=h',gens:=g',drawn:=d',toks:=t' }:=by
 obtain⟨m,⟨o,_,_,q,r⟩,_⟩:=id I.loc;obtain⟨_,L⟩:=u.any q I.free fun z=>(a _ z).2.1 rfl
 exact I.step (ch:=ch) a (fun b o L j d e n=>u.keep b o e n (fun z=>(dD.mp (I.Kq b z)).elim L j) d) (fun b o _ _ d e n=>u.any e n d) (fun b o d e n=>u.free b o e n d) (fun b o d e=>u.there b o e d) u.tups u.uZ u.vH (fun _ i=>by
  obtain⟨_,f,E,h,R⟩:=i;rw[q]at h;cases h
  exact⟨_,f,E,L,R⟩) hok g
def Inv.turned{t':Nat}{i:ar}(I:Inv X pins σ H s)(k:∀ b o,b≠i->s.heap.get? b=some o->h'.get? b=some o)(j:H i=none)(a:i≠X.env.locals)
  (g:i∈X.ex∨X.s₀.heap.objs.size<=i) (l:∀ x c,X.env.cells.lookup x=some c->c≠i) (f:∀ p∈X.pn++pins,p.1≠i):Inv X pins σ H { s with heap:=h',toks:=t' }:=by
 have N:∀ b u,H b=some u->b≠i:=fun b u e z=>by rw[z,j]at e;cases e
 refine I.step (g':=s.gens) (d':=s.drawn) (ch:=[i]) (fun b w=>?_) (fun b o _ _ d e _=>k b o (fun z=>d (by simp [z])) e) (fun b o _ _ d e _=>⟨o.slots,k b o (fun z=>d (by simp [z])) e⟩) (fun _ _ _ _ n=>n)
  (fun b o d e=>⟨o,k b o (fun z=>d (by simp [z])) e⟩) (fun _ _ e=>e) (fun _ _ _ e=>e) (fun b _ e=>⟨#[],by rw[e];simp⟩) (fun m t=>?_) (fun b u e=>?_) I.bare
 .have e:b=i:=by simpa using w
  subst e;exact⟨g,a,l,f⟩
 .obtain⟨o,E,ep,h,r⟩:=t;exact⟨o,E,ep,k _ o (bE a) h,r⟩
 .refine (I.hok b u e).stay (fun c v d q=>k c v ?_ q) (fun _ q=>q) fun _ _ q=>q;rcases d with z | z
  .rw[z];exact N b u e
  .exact N c _ z
def Inv.tok(I:Inv X pins σ H s)(t:Nat):Inv X pins σ H { s with toks:=t }:=I.un (h':=s.heap) (t':=t) Un.refl I.hok
def Inv.kept(I:Inv X pins σ H s)(k:∀ b u,s.heap.get? b=some u->h'.get? b=some u):Inv X pins σ H { s with heap:=h',toks:=t' }:=I.un (Un.kept k) (I.hok.kept k)
def Inv.laid(I:Inv X pins σ H s)(k:∀ b u,s.heap.get? b=some u->h'.get? b=some u)(p:s.heap.objs.size<=a)(new:bM X.prog X.w (upd H a o) h' a o) :
  Inv X pins σ (upd H a o) { s with heap:=h',toks:=t' }:=I.un (Un.laid k p (I.hok.fresh p)) (I.hok.laid k p new)
def Inv.write(I:Inv X pins σ H s)(m:Mut (H x))(g:e=x∨H e=some (.own x))(k:∀ b u,b≠e->s.heap.get? b=some u->h'.get? b=some u)(h:∃ u,h'.get? e=some u)
  (new:bM X.prog X.w (upd H x o) h' x o):Inv X pins σ (upd H x o) { s with heap:=h',toks:=t' }:=I.un (Un.write m g k h) (I.hok.write m g k h new)
def Inv.uJ(I:Inv X pins σ H s)(h:∀ p∈qET,s.heap.get? p.1=some p.2/\H p.1=none/\p.1≠X.env.locals/\p.1∉X.fs/\∀ v,p.2.data≠.cell v):Inv X qET σ H s:=
 ⟨I.ok,I.os,I.bare,I.base,I.loc,I.cell,I.free,I.jq,fun p a=>(jz.mp a).elim (fun z=>I.pin p (gL _ z)) (h p),I.hok,I.len⟩
def BV{N:aw Str}(h:N.Nodup){i j:Nat}{x:Str}(a:N[i]? = some x)(b:N[j]? = some x):i=j:=by obtain⟨_,E⟩:=oW.mp a;obtain⟨_,e⟩:=oW.mp b;exact (List.getElem_inj h).mp (E.trans e.symm)
def Dh{M:Model}{A:ai}{E:av->ae->Prop}{i:Nat}{x:Str}{v:V}{u:av}{Q:Unit->ae->Prop}(I:Inv X pins σ H s)(hN:X.N.Nodup)(R:X.N[i]? = some x)(w:Loc X.env.scope x)(r:RelV v u)
  (h:∀ s',Inv X pins (σ.set i (some v)) H s'->(∃ a,Heap.SameBut a s.heap s'.heap/\(a=X.env.locals∨X.env.cells.lookup x=some a))->Q () s') (hf:X.fn x=true∨X.env.scope.names.lookup x=some .local:=by first | exact .inl rfl | exact .inr rfl | assumption):wpAny M A (storeName X.env x u) Q E s:=by
 obtain⟨m,Z,hl⟩:=id I.loc
 have S:(X.env.scope.kind==.class||(X.env.scope.kind==.module&&X.env.locals != X.env.globals))=false:=by rw[I.ok.kind];rfl
 have D:i<σ.length:=by rw[I.len];exact (oW.mp R).1
 have Zi:=I.Zi
 have t:∀ {a:ar} {h':Heap},(∃ o,s.heap.get? a=some o/\H a=none)->Heap.SameBut a s.heap h'->lM X.prog X.w H h':=fun {a h'} ha f b ob e=>by
  obtain⟨_,_,B⟩:=ha;refine (I.hok b ob e).stay (fun c W l q=>(f.2 c ?_).trans q) (fun _ q=>q) fun _ _ q=>q;rintro rfl;rcases l with rfl | l
  .rw[B]at e;cases e
  .rw[B]at l;cases l
 rcases w with F | F
 .refine wpAny_storeName_local F Z (fun h' hn' f=>?_) S;obtain⟨oL,_,_,hoL,_⟩:=id Z;refine h _ ⟨I.ok,I.os,I.bare,⟨fun b o e n G w=>?_,fun b o e n G w=>?_,I.base.free,fun b o e w=>?_,I.base.tups,I.base.uZ,I.base.vH⟩,⟨_,hn',fun j y U g C e3=>?_⟩,fun y c e=>?_,I.free,I.jq,fun p hp=>?_,t ⟨oL,hoL,I.free⟩ f,by simpa using I.len⟩ ⟨_,f,.inl rfl⟩
  .exact (f.2 b (jQ (KR (gQ e) I.ok.above))).trans (I.base.keep b o e n G w)
  .obtain⟨sl,g⟩:=I.base.slot b o e n G w;exact⟨sl,(f.2 b (jQ (KR (gQ e) I.ok.above))).trans g⟩
  .obtain⟨Y,g⟩:=I.base.there b o e w;exact⟨Y,(f.2 b (jQ (KR (gQ e) I.ok.above))).trans g⟩
  .by_cases L:j=i
   .subst L;rw[R]at g;cases g;rw[dy D]at C
    cases C
    exact⟨u,r,.inl ⟨F,by simp⟩⟩
   .rw[df (bE L)]at C;obtain⟨u',r',q⟩:=hl j y U g C e3;refine⟨u',r',?_⟩;rcases q with ⟨k,e⟩ | ⟨k,c,e,z⟩
    .refine .inl ⟨k,?_⟩;have:y≠x:=fun e=>L (BV hN g (e▸R));simp [this,e]
    .exact .inr ⟨k,c,e,z.sameBut f (Zi y c e)⟩
  .obtain⟨W,z⟩:=I.cell y c e;exact⟨W,z.sameBut f (Zi y c e)⟩
  .obtain⟨e,n,ne,nf,d⟩:=I.pin p hp;exact⟨(f.2 p.1 ne).trans e,n,ne,nf,d⟩
 .have J:X.fn x=true:=by
   rcases hf with z | z
   .exact z
   .rw[z]at F;cases F
  obtain⟨c,l⟩:=I.ok.has x (.inl F);obtain⟨W,z⟩:=I.cell x c l;refine wpAny_storeName_cell I.ok.kind F l z (fun h' P f=>?_);obtain⟨oc,O,qLC⟩:=id z;refine h { s with heap:=h' } ⟨I.ok,I.os,I.bare,⟨fun b o e n G w=>?_,fun b o e n G w=>?_,I.base.free,fun b o e w=>?_,I.base.tups,I.base.uZ,I.base.vH⟩,⟨m,Z.sameBut f (Ne.symm (Zi x c l)),fun j y U g C e3=>?_⟩,fun y T e=>?_,I.free,I.jq,fun p hp=>?_,t ⟨oc,O,I.jq x c l⟩ f,by simpa using I.len⟩ ⟨c,f,.inr l⟩
  .exact (f.2 b (jQ (KR (gQ e) (I.ok.cab x c J l)))).trans (I.base.keep b o e n G w)
  .obtain⟨sl,g⟩:=I.base.slot b o e n G w;exact⟨sl,(f.2 b (jQ (KR (gQ e) (I.ok.cab x c J l)))).trans g⟩
  .obtain⟨Y,g⟩:=I.base.there b o e w;exact⟨Y,(f.2 b (jQ (KR (gQ e) (I.ok.cab x c J l)))).trans g⟩
  .by_cases L:j=i
   .subst L;rw[R]at g;cases g;rw[dy D]at C
    cases C
    exact⟨u,r,.inr ⟨.inl F,c,l,P⟩⟩
   .rw[df (bE L)]at C;obtain⟨u',r',q⟩:=hl j y U g C e3;refine⟨u',r',?_⟩;rcases q with q | ⟨k,T,e,z'⟩
    .exact .inl q
    .refine .inr ⟨k,T,e,z'.sameBut f ?_⟩;rintro rfl;exact L (BV hN g (I.ok.inj _ _ _ e l▸R))
  .by_cases N:T=c
   .subst N;exact⟨_,P⟩
   .obtain⟨w2,z2⟩:=I.cell y T e;exact⟨w2,z2.sameBut f N⟩
  .obtain⟨e,n,ne,nf,d⟩:=I.pin p hp;refine⟨(f.2 p.1 ?_).trans e,n,ne,nf,d⟩;intro q;rw[q,O]at e;have q':oc=p.2:=kJ e;exact d W (by rw[<-q'];exact qLC)
def oZ(I:Inv X pins σ H s)(N:X.N.Nodup)(c:X.N[i]? = some x)(b:Loc X.env.scope x)(r:RelV v u)
  (h:∀ s',Inv X pins (σ.set i (some v)) H s'->Q () s') (f:X.fn x=true∨X.env.scope.names.lookup x=some .local:=by first | exact .inl rfl | exact .inr rfl | assumption):wpAny M A (storeName X.env x u) Q E s:=
 Dh I N c b r (fun s' a _=>h s' a) f
def Inv.call'(I:Inv X pins σ H s)(q:s'.os=s.os)(u:Un (frs X.stack) ch H H' s.heap s'.heap)(hok:lM X.prog X.w H' s'.heap)(h:AllBare s'.gens)
  (a:∀ b∈ch,(b∈X.ex∨X.s₀.heap.objs.size<=b)/\b≠X.env.locals/\(∀ x c,X.env.cells.lookup x=some c->c≠b)/\∀ p∈X.pn++pins,p.1≠b):Inv X pins σ H' s':=by obtain⟨_,g',d',t',O⟩:=s';have e:O=s.os:=q;subst e;exact I.call (g':=g') (t':=t') (d':=d') u hok h a
end
abbrev XK:=av->aE ar->Hp->Prop
abbrev St:=aw (aE V)
abbrev VK:=V->Hp->Prop
abbrev TE:=St->Hp->VK->Prop
abbrev TT:=St->Hp->(Bool->Hp->Prop)->Prop
abbrev TA:=St->Hp->(aw V->Hp->Prop)->Prop
structure Ends where
 nx:St->Hp->Prop
 rt:VK
 bk:St->Hp->Prop:=fun _ _=>False
 ct:St->Hp->Prop:=fun _ _=>False
abbrev TS:=Ends->St->Hp->Prop
def EP(X:Cx)(p:aw (ar×Obj))(σ:St)(Q:VK)(u:av)(s':ae):Prop:=∃ v H,Inv X p σ H s'/\RelV v u/\Q v H
def TP(X:Cx)(p:aw (ar×Obj))(σ:St)(Q:Bool->Hp->Prop)(b:Bool)(s':ae):Prop:=∃ H,Inv X p σ H s'/\Q b H
def AP(X:Cx)(p:aw (ar×Obj))(σ:St)(Q:aw V->Hp->Prop)(us:aw av)(s':ae):Prop:=∃ vs H,Inv X p σ H s'/\Vals vs us/\Q vs H
def SP(X:Cx)(p:aw (ar×Obj))(D:Ends)(f:Flow)(s':ae):Prop:=
 match f with
 | .next => ∃ σ' H,Inv X p σ' H s'/\D.nx σ' H
 | .brk => ∃ σ' H,Inv X p σ' H s'/\D.bk σ' H
 | .cont => ∃ σ' H,Inv X p σ' H s'/\D.ct σ' H
 | .ret u => ∃ v σ' H,Inv X p σ' H s'/\RelV v u/\D.rt v H
def PE(X:Cx)(e:Expr)(t:TE):Prop:=
 ∀(p:aw (ar×Obj))(s:ae)(σ:St)(H:Hp)(Q:VK),Inv X p σ H s->t σ H Q->wpAny (model X.prog X.w) X.A (eval e X.env) (EP X p σ Q) X.xe s
def PT(X:Cx)(e:Expr)(t:TT):Prop:=
 ∀(p:aw (ar×Obj))(s:ae)(σ:St)(H:Hp)(Q:Bool->Hp->Prop),Inv X p σ H s->t σ H Q->wpAny (model X.prog X.w) X.A (isTrue e X.env (eval e X.env)) (TP X p σ Q) X.xe s
def PW(X:Cx)(e:Expr)(t:TT):Prop:=
 ∀(w:Sem av)(p:aw (ar×Obj))(s:ae)(σ:St)(H:Hp)(Q:Bool->Hp->Prop),Inv X p σ H s->t σ H Q->wpAny (model X.prog X.w) X.A (isTrue e X.env w) (TP X p σ Q) X.xe s
def PW.pt(h:PW X e t):PT X e t:=h _
def PA(X:Cx)(e:aw Expr)(t:TA):Prop:=
 ∀(P:Pos)(p:aw (ar×Obj))(s:ae)(σ:St)(H:Hp)(Q:aw V->Hp->Prop),Inv X p σ H s->t σ H Q->wpAny (model X.prog X.w) X.A (spliced (backTo P (starEach e X.env))) (AP X p σ Q) X.xe s
def PS(X:Cx)(st:Stmt)(t:TS):Prop:=
 ∀(p:aw (ar×Obj))(s:ae)(σ:St)(H:Hp)(D:Ends),Inv X p σ H s->t D σ H->wpAny (model X.prog X.w) X.A (exec st X.env) (SP X p D) X.xe s
def Cw(X:Cx)(st:aw Stmt)(t:TS):Prop:=
 ∀(p:aw (ar×Obj))(s:ae)(σ:St)(H:Hp)(D:Ends),Inv X p σ H s->t D σ H->wpAny (model X.prog X.w) X.A (execs st X.env) (SP X p D) X.xe s
def bH(h:wpAny M A t Q E s)(H:∀ a s,Q a s->Q' a s):wpAny M A t Q' E s:=c8 h H fun _ _ x=>x
section
variable{X:Cx}
inductive qB9(i:Nat)(σ:St)(H:Hp)(Q:VK):Prop
 | mk (v) (_:σ[i]? = some (some v)) (_:Q v H)
def tC(v:V):TE:=fun _ H Q=>Q v H
def qBW(N:X.N[i]? = some x)(g:Vis X.env.scope x)(hd:(x==("__debug__" : Str))=false:=by decide)(d:(x==("__classdict__" : Str))=false:=by decide):PE X (.Name x pos) (qB9 i):=by
 intro p s σ H Q I h;obtain⟨v,e,h⟩:=h;obtain⟨m,n,j⟩:=I.loc;obtain⟨u,r,l⟩:=j i x v N e g;have f:EP X p σ Q u s:=⟨v,H,I,r,h⟩;rcases l with ⟨k,o⟩ | ⟨k,c,b,a⟩
 .exact wpAny_Name (wpAny_loadName_local I.ok.kind k n o f) hd
 .rcases k with k | k
  .exact wpAny_Name (wpAny_loadName_cell I.ok.kind k b a f) hd
  .exact wpAny_Name (wpAny_loadName_free I.ok.kind k b a f d) hd
def zB {i j P}:PE X (.Constant (.int i) j P) (tC (.int i)):=fun _ _ _ H _ I h=>wpAny_Constant_int ⟨.int i,H,I.tok _,⟨_,rfl⟩,h⟩
def gG {b j P}:PE X (.Constant (.bool b) j P) (tC (.bl b)):=fun _ _ _ H _ I h=>Constant_bool ⟨.bl b,H,I,rfl,h⟩
def iw {j P}:PE X (.Constant .none j P) (tC .non):=fun _ _ _ H _ I h=>Constant_none ⟨.non,H,I,rfl,h⟩
def zQ {x j P}:PE X (.Constant (.str x) j P) (tC (.str x)):=fun _ _ _ H _ I h=>Calls.Constant_str ⟨.str x,H,I.tok _,⟨_,rfl⟩,h⟩
def Gl(X:Cx)(x:Str):Prop:=X.env.kindOf x=some .globalImplicit
def nW(I:Inv X pins σ H s)(a:Gl X x)(d:X.mg x=some u)(h:Q u s)
  (hd:(x==("__debug__" : Str))=false:=by decide):wpAny (model X.prog X.w) X.A (eval (.Name x pos) X.env) Q E s:=
 Calls.Name_function_global I.ok.kind a (Calls.loadGlobal_global (by rw[I.ok.glob];exact I.mod.glob.keeps I.bk) d h) hd
def jm(I:Inv X pins σ H s)(a:Gl X x)(d:X.mg x=none)(v:bootBuiltins x=some u)(h:Q u s)
  (j:x ≠ "__name__" := by decide) (hd:(x==("__debug__" : Str))=false:=by decide):wpAny (model X.prog X.w) X.A (eval (.Name x pos) X.env) Q E s:=by obtain⟨_,f,q⟩:=I.mod.blt;exact Calls.Name_function_global I.ok.kind a (Calls.loadGlobal_builtin (by rw[I.ok.glob];exact I.mod.glob.keeps I.bk) d (by rw[I.ok.blt];exact f.keeps I.bk) ((q x j).trans v) h) hd
def bC(a:Gl X x)(d:X.mg x=some u)(r:RelV v u)(hd:(x==("__debug__" : Str))=false:=by decide):PE X (.Name x pos) (tC v):=
 fun _ _ _ H _ I h=>nW I a d ⟨v,H,I,r,h⟩ hd
def iK(g:Gl X x)(d:X.mg x=none)(a:bootBuiltins x=some u)(r:RelV v u)(j:x ≠ "__name__" := by decide)(hd:(x==("__debug__" : Str))=false:=by decide):PE X (.Name x pos) (tC v):=
 fun _ _ _ H _ I h=>jm I g d a ⟨v,H,I,r,h⟩ j hd
variable{a b:Expr}{ta tb:TE}{pos:Pos}
def PC(X:Cx)(o:CmpOp)(a b:Expr)(t:TE):Prop:=
 ∀(p:aw (ar×Obj))(s:ae)(σ:St)(H:Hp)(Q:VK),Inv X p σ H s->t σ H Q →
  wpAny (model X.prog X.w) X.A (eval a X.env) (fun v c=>wpAny (model X.prog X.w) X.A (eval b X.env) (fun u S=>wpAny (model X.prog X.w) X.A (compareOp o v u) (EP X p σ Q) X.xe S) X.xe c) X.xe s
inductive isB(x:V)(H:Hp)(Q:Bool->Hp->Prop):Prop
 | mk (c:Bool) (_:x = .bl c) (_:Q c H)
def tB(t:TE):TT:=fun σ H Q=>t σ H fun x h=>isB x h Q
def qBS(h:PC X op a b t)(f:behindInMarks op b=false:=by first | exact nobehind _ (by decide) (by decide) | rfl):PT X (.Compare a [op] [b] pos) (tB t):=by
 intro p s σ H Q I w;refine wpAny_isTrue_Compare1 (bH (h p s σ H _ I w) fun v _ f=>bH f fun u _ g=>bH g fun c _ ⟨x,e,j,r,i⟩=>?_) f;obtain⟨d,rfl,q⟩:=i
 cases r
 exact wpAny_truthy_bool ⟨e,j,q⟩
def aY(h:PE X e t)(g:∀ w,isTrue e X.env w=(do let v ← w;standAt e.pos;holding [v] (truthy v)):=by intro _;rfl):PT X e (tB t):=by
 intro p s σ H Q I b;refine isTrue_plain (bH (h p s σ H _ I b) fun v _ ⟨x,a,j,r,i⟩=>?_) (g _);obtain⟨d,rfl,q⟩:=i
 cases r
 exact wpAny_truthy_bool ⟨a,j,q⟩
variable{tA tB':TT}{rest:aw Expr}
def qJW(t u:TT):TT:=fun σ H Q=>t σ H fun c h=>if c=true then u σ h Q else Q false h
def tOr(t u:TT):TT:=fun σ H Q=>t σ H fun c h=>if c=true then Q true h else u σ h Q
def qJP(t:TT):TT:=fun σ H Q=>t σ H fun c h=>Q (!c) h
theorem yQ(f:PT X a tA):PW X (.BoolOp .And [a] pos) tA:=by
 intro _ p s σ H Q I h;refine isTrue_and (bH (f p s σ H Q I h) fun c _ e=>?_)
 cases c with
 | true=>exact isTrue_and_nil e
 | false=>exact e
theorem pw_or1(f:PT X a tA):PW X (.BoolOp .Or [a] pos) tA:=by
 intro _ p s σ H Q I h;refine isTrue_or (bH (f p s σ H Q I h) fun c _ e=>?_)
 cases c with
 | false=>exact isTrue_or_nil e
 | true=>exact e
theorem pw_and(f:PT X a tA)(e:PW X (.BoolOp .And (b::rest) pos) tB'):PW X (.BoolOp .And (a::b::rest) pos) (qJW tA tB'):=by
 intro w p s σ H Q I h;refine isTrue_and (bH (f p s σ H _ I h) fun c S ⟨d,j,i⟩=>?_)
 cases c with
 | true=>exact e w p S σ d Q j i
 | false=>exact⟨d,j,i⟩
theorem pw_or(f:PT X a tA)(e:PW X (.BoolOp .Or (b::rest) pos) tB'):PW X (.BoolOp .Or (a::b::rest) pos) (tOr tA tB'):=by
 intro w p s σ H Q I h;refine isTrue_or (bH (f p s σ H _ I h) fun c S ⟨d,j,i⟩=>?_)
 cases c with
 | true=>exact⟨d,j,i⟩
 | false=>exact e w p S σ d Q j i
def bY(f:PT X a tA):PT X (.UnaryOp .Not a pos) (qJP tA):=by intro p s σ H Q I h;exact isTrue_not (f p s σ H (fun c b=>Q (!c) b) I h)
def qE7(ta tb:TE):TE:=fun σ H Q=>ta σ H fun x h => ∃ c,x = .bl c/\if c=true then tb σ h Q else Q (.bl false) h
def qJO(ta tb:TE):TE:=fun σ H Q=>ta σ H fun x h => ∃ c,x = .bl c/\if c=true then Q (.bl true) h else tb σ h Q
def qDU(ta:TE):TE:=fun σ H Q=>ta σ H fun x h => ∃ c,x = .bl c/\Q (.bl (!c)) h
def gB {o} (h:PE X a t):PE X (.BoolOp o [a] pos) t:=fun p s σ H Q I w=>BoolOp_one (h p s σ H Q I w)
theorem rT(f:PE X a ta)(e:PE X (.BoolOp .And (b::rest) pos) tb):PE X (.BoolOp .And (a::b::rest) pos) (qE7 ta tb):=by
 intro p s σ H Q I h;refine BoolOp_and (bH (f p s σ H _ I h) fun v S ⟨x,d,j,r,i⟩=>?_);obtain⟨c,rfl,i⟩:=i
 cases r
 refine wpAny_truthy_bool ?_
 cases c with
 | true=>exact e p S σ d Q j i
 | false=>exact⟨.bl false,d,j,rfl,i⟩
theorem wj(f:PE X a ta)(e:PE X (.BoolOp .Or (b::rest) pos) tb):PE X (.BoolOp .Or (a::b::rest) pos) (qJO ta tb):=by
 intro p s σ H Q I h;refine BoolOp_or (bH (f p s σ H _ I h) fun v S ⟨x,d,j,r,i⟩=>?_);obtain⟨c,rfl,i⟩:=i
 cases r
 refine wpAny_truthy_bool ?_
 cases c with
 | false=>exact e p S σ d Q j i
 | true=>exact⟨.bl true,d,j,rfl,i⟩
def gC(f:PE X a ta):PE X (.UnaryOp .Not a pos) (qDU ta):=by
 intro p s σ H Q I h;refine UnaryOp_ (bH (f p s σ H _ I h) fun v _ ⟨x,b,j,r,i⟩=>?_);obtain⟨c,rfl,i⟩:=i
 cases r
 exact not_of (wpAny_truthy_bool ⟨.bl (!c),b,j,rfl,i⟩)
def tIf(t:TT)(ta tb:TE):TE:=fun σ H Q=>t σ H fun c h=>if c=true then ta σ h Q else tb σ h Q
theorem mC(f:PT X c tA)(g:PE X a ta)(k:PE X b tb):PE X (.IfExp c a b pos) (tIf tA ta tb):=by
 intro p s σ H Q I h;refine wpAny_IfExp (bH (f p s σ H _ I h) fun d S ⟨e,j,i⟩=>?_)
 cases d with
 | true=>exact g p S σ e Q j i
 | false=>exact k p S σ e Q j i
end
def aU(K:bV)(H:Hp)(a:ar)(xs:aw V):Prop:=
 Rd H a (.lst xs) ∨
  ∃(o:Obj)(its:Array av)(n:Nat),K.lookup a=some o/\o.cls = .type "list" /\ o.dict=none/\o.data = .seq its n/\its.size<=sizeLine/\Vals xs its.toList
def aJ(K:bV)(H:Hp)(a:ar)(xs:aw V):Prop:=
 Rd H a (.tup xs) ∨
  ∃(o:Obj)(its:Array av)(n:Nat),K.lookup a=some o/\o.cls = .type "tuple" /\ o.data = .seq its n/\its.size<=sizeLine/\Vals xs its.toList
noncomputable def qLX:av->aE V
 | .none=>some .non
 | .bool b=>some (.bl b)
 | .int i _=>some (.int i)
 | .str x _=>some (.str x)
 | .bytes b _=>some (.Sv b)
 | .float b _=>some (.flt b)
 | .ref a=>some (.ref a)
 | .type n=>some (.ty n)
 | _=>none
theorem RelV.abs(r:RelV x u):qLX u=some x:=by
 cases x with
 | non=>cases r;rfl
 | bl _=>cases r;rfl
 | int _=>obtain⟨t,rfl⟩:=r;rfl
 | str _=>obtain⟨t,rfl⟩:=r;rfl
 | Sv _=>obtain⟨t,rfl⟩:=r;rfl
 | flt _=>obtain⟨t,rfl⟩:=r;rfl
 | ref _=>cases r;rfl
 | ty _=>cases r;rfl
def RelV.inj(r:RelV x u)(q:RelV y u):x=y:=kJ (r.abs.symm.trans q.abs)
theorem Vals.inj:∀ {xs ys:aw V} {us:aw av},Vals xs us->Vals ys us->xs=ys
 | _,_,_,.nil,.nil=>rfl
 | _,_,_,.cons r t,.cons R t'=>by rw[r.inj R,Vals.inj t t']
section
variable{X:Cx}{pins:aw (ar×Obj)}{σ:St}{H:Hp}{s:ae}{a:ar}{xs ys:aw V}
def aU.of{K:bV}(h:H a=some (.lst xs)):aU K H a xs:=.inl (.inl h)
def aJ.of{K:bV}(h:H a=some (.tup xs)):aJ K H a xs:=.inl (.inl h)
def Inv.list(I:Inv X pins σ H s)(h:aU X.K H a xs):∃ its:aw av,Vals xs its/\PlainL s.heap a its.toArray/\xs.length<=sizeLine:=by
 rcases h with h | ⟨o,its,n,k,c,hd,d,b,r⟩
 .obtain⟨z,its,n,r,e⟩:=h.ok I.hok;exact⟨its,r,⟨_,n,e,rfl,rfl,rfl⟩,z⟩
 .refine⟨its.toList,r,⟨o,n,I.mQ a o k,c,hd,by simpa using d⟩,?_⟩;have e:=r.length;simp only[Array.length_toList]at e;lia
def Inv.tuple(I:Inv X pins σ H s)(h:aJ X.K H a xs):∃ its:aw av,Vals xs its/\IsTup s.heap a its.toArray/\xs.length<=sizeLine:=by
 rcases h with h | ⟨o,its,n,k,c,d,b,r⟩
 .obtain⟨z,its,r,p⟩:=h.ok I.hok;exact⟨its,r,p,z⟩
 .refine⟨its.toList,r,⟨o,I.mQ a o k,c,n,by simpa using d⟩,?_⟩;have e:=r.length;simp only[Array.length_toList]at e;lia
def Inv.Vl(I:Inv X pins σ H s)(h:aU X.K H a xs)(h':aU X.K H a ys):xs=ys:=by
 obtain⟨its,r,⟨o,n,e,_,_,d⟩,_⟩:=I.list h;obtain⟨its',R,⟨_,_,E,_,_,d'⟩,_⟩:=I.list h';rw[e]at E;cases E;rw[d]at d';injection d' with D _
 have:its=its':=by simpa using congrArg Array.toList D
 subst this;exact r.inj R
def Inv.Df(I:Inv X pins σ H s)(h:aJ X.K H a xs)(h':aJ X.K H a ys):xs=ys:=by
 obtain⟨its,r,⟨o,e,_,n,d⟩,_⟩:=I.tuple h;obtain⟨its',R,⟨_,E,_,_,d'⟩,_⟩:=I.tuple h';rw[e]at E;cases E;rw[d]at d';injection d' with D _
 have:its=its':=by simpa using congrArg Array.toList D
 subst this;exact r.inj R
end
abbrev Cx.wish(X:Cx)(E:av->ae->Prop):Cx:={ X with xe:=E }
noncomputable abbrev Cx.nox(X:Cx):Cx:=X.wish fun _ _=>False
def Cx.Ok.wish{X:Cx}(ok:X.Ok)(E:av->ae->Prop):(X.wish E).Ok:=
 ⟨ok.mod,ok.kind,ok.glob,ok.blt,ok.above,ok.inj,ok.has,ok.cab,ok.hd,ok.frames,ok.stk,ok.exf,ok.bs,ok.Xw,ok.R9,ok.Wj,ok.uY,ok.ZS⟩
def Cx.Ok.jU{X:Cx}{E:av->ae->Prop}(ok:(X.wish E).Ok):X.Ok:=
 ⟨ok.mod,ok.kind,ok.glob,ok.blt,ok.above,ok.inj,ok.has,ok.cab,ok.hd,ok.frames,ok.stk,ok.exf,ok.bs,ok.Xw,ok.R9,ok.Wj,ok.uY,ok.ZS⟩
section
variable{X:Cx}{pins:aw (ar×Obj)}{σ:St}{H:Hp}{s:ae}{E:av->ae->Prop}
def Inv.wish(I:Inv X pins σ H s)(E:av->ae->Prop):Inv (X.wish E) pins σ H s:=⟨I.ok.wish E,I.os,I.bare,I.base,I.loc,I.cell,I.free,I.jq,I.pin,I.hok,I.len⟩
def Inv.jU(I:Inv (X.wish E) pins σ H s):Inv X pins σ H s:=⟨I.ok.jU,I.os,I.bare,I.base,I.loc,I.cell,I.free,I.jq,I.pin,I.hok,I.len⟩
theorem SP.jU(h:SP (X.wish E) pins D f s'):SP X pins D f s':=by
 cases f with
 | next=>obtain⟨σ',H,I,q⟩:=h;exact⟨σ',H,I.jU,q⟩
 | brk=>obtain⟨σ',H,I,q⟩:=h;exact⟨σ',H,I.jU,q⟩
 | cont=>obtain⟨σ',H,I,q⟩:=h;exact⟨σ',H,I.jU,q⟩
 | ret u=>obtain⟨v,σ',H,I,r,q⟩:=h;exact⟨v,σ',H,I.jU,r,q⟩
def Cw.nox{st:aw Stmt}{t:TS}(h:Cw X.nox st t):Cw X st t:=fun pins s σ H D I w=>
 c8 (h pins s σ H D (I.wish _) w) (fun _ _ q=>q.jU) fun _ _ z=>c9 z
end
section
variable{X:Cx}{st:Stmt}{rest:aw Stmt}{t u:TS}{e:Expr}{te:TE}{pos:Pos}
def qDW:TS:=fun D σ H=>D.nx σ H
def Y4(t u:TS):TS:=fun D σ H=>t { D with nx:=u D } σ H
def zU:Cw X [] qDW:=fun _ _ σ H _ I h=>wpAny_execs_nil ⟨σ,H,I,h⟩
theorem zE(c:PS X st t)(d:Cw X rest u):Cw X (st::rest) (Y4 t u):=by
 intro p s σ H D I h;refine wpAny_execs_cons (bH (c p s σ H { D with nx:=u D } I h) fun f S q=>?_)
 cases f with
 | next=>
  obtain⟨σ',b,a,q⟩:=q;exact d p S σ' b D a q
 | ret v=>exact q
 | brk=>exact q
 | cont=>exact q
theorem zG(a:PS X st t):Cw X [st] t:=by
 intro p s σ H D I h;refine wpAny_execs_cons (bH (a p s σ H D I h) fun f _ q=>?_)
 cases f with
 | next=>exact wpAny_execs_nil q
 | ret v=>exact q
 | brk=>exact q
 | cont=>exact q
def Inv.quiet(I:Inv X pins σ H s):interactive X.env=false:=by simp [interactive,I.ok.kind]
def qE1(te:TE):TS:=fun D σ H=>te σ H fun _ h=>D.nx σ h
def yJ(g:PE X e te)(d:swapsWith e none pos.line X.env=pure false:=by rfl):PS X (.Expr e pos) (qE1 te):=by intro p s σ H D I h;exact wpAny_Expr_any (bH (g p s σ H _ I h) fun v _ ⟨x,a,j,_,i⟩=>⟨σ,a,j,i⟩) I.quiet d
def qJN(te:TE):TS:=fun D σ H=>te σ H D.rt
def zP(g:PE X e te):PS X (.Return (some e) pos) (qJN te):=by intro p s σ H D I h;exact wpAny_Return_some (bH (g p s σ H _ I h) fun v _ ⟨x,a,j,r,i⟩=>⟨x,σ,a,j,r,i⟩)
def qJQ(c:TT)(t u:TS):TS:=fun D σ H=>c σ H fun b h=>if b=true then t D σ h else u D σ h
theorem yE(f:PT X c tc)(g:Cw X a t)(k:Cw X b u):PS X (.If c a b pos) (qJQ tc t u):=by
 intro p s σ H D I h;refine wpAny_If (bH (f p s σ H _ I h) fun d S ⟨e,j,i⟩=>?_)
 cases d with
 | true=>exact g p S σ e D j i
 | false=>exact k p S σ e D j i
def TJ:TS:=fun _ _ _=>False
def Ua:PS X st TJ:=fun _ _ _ _ _ _ h=>h.elim
def bB:Cw X sts TJ:=fun _ _ _ _ _ _ h=>h.elim
end
abbrev TG:=V->St->Hp->(St->Hp->Prop)->Prop
abbrev TGs:=aw V->St->Hp->(St->Hp->Prop)->Prop
def PG(X:Cx)(T:Expr)(t:TG):Prop:=
 ∀(p:aw (ar×Obj))(s:ae)(σ:St)(H:Hp)(v:V)(u:av)(Q:St->Hp->Prop),Inv X p σ H s->RelV v u->t v σ H Q →
  wpAny (model X.prog X.w) X.A (assign T X.env u) (fun _ s'=>∃ σ' h,Inv X p σ' h s'/\Q σ' h) X.xe s
def PGs(X:Cx)(T:aw Expr)(t:TGs):Prop:=
 ∀(p:aw (ar×Obj))(s:ae)(σ:St)(H:Hp)(vs:aw V)(us:aw av)(Q:St->Hp->Prop),Inv X p σ H s->Vals vs us->t vs σ H Q →
  wpAny (model X.prog X.w) X.A (assignInOrder ((assignEach T X.env).map (·.2)) us) (fun _ s'=>∃ σ' h,Inv X p σ' h s'/\Q σ' h) X.xe s
abbrev qJ5:=V->V->V->Hp->(Hp->Prop)->Prop
def qJ6(X:Cx)(t:qJ5):Prop:=
 ∀(p:aw (ar×Obj))(s:ae)(σ:St)(H:Hp)(o i v:V)(O I u:av)(Q:Hp->Prop),Inv X p σ H s->RelV o O->RelV i I->RelV v u->t o i v H Q →
  wpAny (model X.prog X.w) X.A (setItem O I u) (fun _ s'=>∃ h,Inv X p σ h s'/\Q h) X.xe s
abbrev TIp:=V->V->Hp->VK->Prop
def PIp(X:Cx)(o:Operator)(t:TIp):Prop:=
 ∀(p:aw (ar×Obj))(s:ae)(σ:St)(H:Hp)(x y:V)(v u:av)(Q:VK),Inv X p σ H s->RelV x v->RelV y u->t x y H Q →
  wpAny (model X.prog X.w) X.A (inplaceOp o v u) (EP X p σ Q) X.xe s
section
variable{X:Cx}{pos:Pos}
def PB(i:Nat):TG:=fun v σ H Q=>Q (σ.set i (some v)) H
def yK(N:X.N.Nodup)(c:X.N[i]? = some x)(b:Loc X.env.scope x)(f:X.fn x=true∨X.env.scope.names.lookup x=some .local:=by first | exact .inl rfl | exact .inr rfl | assumption):PG X (.Name x pos) (PB i):=by intro _ s σ H v u Q I r h;exact wpAny_assign_Name (oZ I N c b r (fun _ a=>⟨_,H,a,h⟩) f)
def qLT:TGs:=fun vs σ H Q=>vs=[]/\Q σ H
def qGO(t:TG)(u:TGs):TGs:=fun vs σ H Q => ∃ v r,vs=v::r/\t v σ H fun σ' h=>u r σ' h Q
def qY:PGs X [] qLT:=by
 intro _ s σ H _ _ Q I r h;obtain⟨e,h⟩:=h;subst e
 cases r
 exact assignInOrder_nil ⟨σ,H,I,h⟩
theorem cX(f:PG X e t)(q:PGs X es u)
  (d:(assignEach (e::es) X.env).map (·.2)=assign e X.env::(assignEach es X.env).map (·.2):=by rfl):PGs X (e::es) (qGO t u):=by
 intro p s σ H _ _ Q I r h;obtain⟨v,_,E,h⟩:=h;subst E
 cases r with
 | cons r R=>
  rw[d];refine assignInOrder_cons (bH (f p s σ H _ _ _ I r h) fun _ S ⟨σ1,a,j,i⟩=>?_);exact q p S σ1 a _ _ Q j R i
def qLR(K:bV)(n:Nat)(t:TGs):TG:=fun v σ H Q => ∃ a xs,v = .ref a/\aJ K H a xs/\xs.length=n/\t xs σ H Q
def vU(d:X.calm=true)(h:PGs X es t)
  (j:(assignEach es X.env).length=n:=by rfl) (c:(assignEach es X.env).findIdx? (·.1)=none:=by rfl):PG X (.Tuple es k pos) (qLR X.K n t):=by
 intro p s σ H v u Q I r w;obtain⟨a,xs,E,q,l,w⟩:=w;subst E
 cases r
 obtain⟨_,R,ht,_⟩:=I.tuple q;refine assign_Tuple_tuple (I.ok.hd d) ht (by simp [j,<-l,R.length]) c fun h' x=>?_;have i:Inv X p σ H { s with heap:=h' }:=I.kept (t':=s.toks) fun b o e=>x b o (jQ (gQ e)) e;exact h p _ σ H xs _ Q i (by simpa using R) w
def qLS(to T:TE)(t:qJ5):TG:=fun v σ H Q=>to σ H fun o b=>T σ b fun i h=>t o i v h fun a=>Q σ a
def Ud(k:PE X o to)(w:PE X i ti)(d:qJ6 X t)
  (f:∀ v,assign (.Subscript o i pos) X.env v=(do
   let O ← holding [v] (eval o X.env)
   let a ← holding [v,O] (eval i X.env)
   standAt pos
   holding [v,O,a] (setItem O a v)
   release [v,O,a] []):=by intro _;rfl):PG X (.Subscript o i pos) (qLS to ti t):=by intro p s σ H v u Q I r h;rw[f];refine aS (cq (bH (k p s σ H _ I h) fun O g ⟨x,m,l,R,e⟩=>?_));refine aS (cq (bH (w p g σ m _ l e) fun a S ⟨y,j,A,z,c⟩=>?_));refine aS (wpAny_standAt (aS (cq (bH (d p S σ j x y v O a u _ A R z r c) fun _ _ ⟨b,n,q⟩=>?_))));exact wpAny_release ⟨σ,b,n,q⟩
def Y8(t:TE)(g:TG):TS:=fun D σ H=>t σ H fun x h=>g x σ h D.nx
def Ub(a:PE X e te)(b:PG X tg g)(d:swapsWithSole [tg] e pos.line X.env=pure false:=by rfl)(w:swappedStores [tg] e X.env=pure none:=by rfl)
  (f:(assignEach [tg] X.env).map (·.2)=[assign tg X.env]:=by rfl):PS X (.Assign [tg] e pos) (Y8 te g):=by intro p s σ H D I h;refine wpAny_Assign_stores (bH (a p s σ H _ I h) fun v S ⟨x,c,j,r,i⟩=>?_) d w;rw[f];exact bH (b p S σ c x v _ j r i) fun _ _ q=>q
def zL(N:X.N.Nodup)(c:X.N[i]? = some x)(a:Loc X.env.scope x)(g:PE X e te)(d:swapsWith e (some (.Name x pos')) pos.line X.env=pure false:=by rfl)(f:X.fn x=true∨X.env.scope.names.lookup x=some .local:=by first | exact .inl rfl | exact .inr rfl | assumption) :
  PS X (.Assign [.Name x pos'] e pos) (Y8 te (PB i)):=by intro p s σ H D I h;refine wpAny_Assign_Name (bH (g p s σ H _ I h) fun v _ ⟨y,b,j,r,q⟩=>?_) d;exact oZ j N c a r (fun _ A=>⟨_,b,A,q⟩) f
def qJV(i:Nat)(t:TE)(T:TIp):TS:=fun D σ H => ∃ x,σ[i]? = some (some x)/\t σ H fun y a=>T x y a fun z h=>D.nx (σ.set i (some z)) h
def qBU(T:X.N.Nodup)(j:X.N[i]? = some x)(g:Loc X.env.scope x)(L:PE X e te)(F:PIp X op ti)(J:X.fn x=true∨X.env.scope.names.lookup x=some .local:=by first | exact .inl rfl | exact .inr rfl | assumption) :
  PS X (.AugAssign (.Name x pos') op e pos) (qJV i te ti):=by
 intro p s σ H D I h;obtain⟨v,E,h⟩:=h;obtain⟨m,o,A⟩:=I.loc
 have f:Vis X.env.scope x:=by rcases g with k | k;exact .inl k;exact .inr (.inl k)
 obtain⟨u,r,l⟩:=A i x v j E f;refine wpAny_AugAssign_Name ?_
 have go:wpAny (model X.prog X.w) X.A (eval e X.env) (fun w d=>wpAny (model X.prog X.w) X.A (inplaceOp op u w) (fun r S=>wpAny (model X.prog X.w) X.A (storeName X.env x r) (fun _=>SP X p D .next) X.xe S) X.xe d) X.xe s:=by
  refine bH (L p s σ H _ I h) fun w B ⟨y,M,G,R,Q⟩=>?_;refine bH (F p B σ M v y u w _ G r R Q) fun z _ ⟨_,C,P,O,q⟩=>?_;exact oZ P T j g O (fun _ N=>⟨_,C,N,q⟩) J
 rcases l with ⟨a,t⟩ | ⟨a,c,n,b⟩
 .exact wpAny_loadName_local I.ok.kind a o t go
 .rcases a with a | a
  .exact wpAny_loadName_cell I.ok.kind a n b go
  .rcases g with k | k
   .have:X.env.scope.names.lookup x=some .free:=a;rw[k]at this;cases this
   .have:X.env.scope.names.lookup x=some .free:=a;rw[k]at this;cases this
def ipI(f:Int->Int->Int):TIp:=fun x y H Q => ∃ i j,x = .int i/\y = .int j/\Q (.int (f i j)) H
def qCP:PIp X .Add (ipI fun i j=>i+j):=by intro _ s σ H x y v u Q I r z h;obtain⟨i,j,e,a,q⟩:=h;subst e;subst a;obtain⟨t,rfl⟩:=r;obtain⟨_,rfl⟩:=z;exact iadd_int ⟨.int _,H,I.tok _,⟨_,rfl⟩,q⟩
def qB8(c:TT)(T:TS):TS:=fun D σ H => ∃ W:Nat->St->Hp->Prop,(∃ m,W m σ H)/\∀ m σ H,W m σ H →
 c σ H fun b a=>if b=true then ∃ N:St->Hp->Prop,(∀ σ' h,N σ' h->∃ m',m'<m/\W m' σ' h)/\T { D with nx:=N,ct:=N,bk:=D.nx } σ a else D.nx σ a
theorem Aw(k:PassesOwn (model X.prog X.w) X.A X.env X.xe)(r:PT X c tc)(u:Cw X body tb):PS X (.While c body [] pos) (qB8 tc tb):=by
 intro p s σ H D I h;obtain⟨W,⟨M,z⟩,t⟩:=h;refine wpAny_While (codeAny_whileLoop (fun n s'=>∃ σ' m,Inv X p σ' m s'/\W n σ' m) ?_ M ⟨σ,H,I,z⟩);rintro n x ⟨σ1,j,y,o⟩;refine wpAny_passesOwn k (bH (r p x σ1 j _ y (t n σ1 j o)) fun b S ⟨g,A,Q⟩=>?_)
 cases b with
 | true=>
  obtain⟨N,l,Q⟩:=Q;rw[cS rfl];refine wpAny_passesOwn k (bH (u p S σ1 g _ A Q) fun f _ q=>?_)
  cases f with
  | next=>
   obtain⟨σ3,a,i,e⟩:=q;obtain⟨m',d,w⟩:=l σ3 a e;exact⟨m',d,σ3,a,i,w⟩
  | cont=>
   obtain⟨σ3,a,i,e⟩:=q;obtain⟨m',d,w⟩:=l σ3 a e;exact⟨m',d,σ3,a,i,w⟩
  | brk=>exact q
  | ret v=>exact q
 | false=>
  rw[cK rA];exact wpAny_execs_nil ⟨σ1,g,A,Q⟩
end
structure It where
 go:Nat->Hp->Prop
 Xy:Nat->Hp->V->Hp->Prop
 stop:Nat->Hp->Prop
def oJ(X:Cx)(P:aw (ar×Obj))(H:Hp)(b:ar):Prop:=
 H b=none/\b≠X.env.locals/\b∉X.fs/\(b∈X.ex∨X.s₀.heap.objs.size<=b)/\(∀ x c,X.env.cells.lookup x=some c->c≠b)/\∀ p∈X.pn++P,p.1≠b
def Inv.Cr(I:Inv X pins σ H s)(h:s.heap.objs.size<=b)(j:H' b=none):oJ X pins H' b:=by
 refine⟨j,iO (KR I.lt h),I.qKJ h,.inr (br I.sz h),fun x c e z=>?_,fun p a z=>?_⟩
 .obtain⟨v,q⟩:=I.cell x c e;exact eu (KR q.lt (by rw[z];exact h)) (iq _)
 .exact eu (KR (gQ (I.pin p a).1) (by rw[z];exact h)) (iq _)
structure Turn(P:Program)(w:World)(K:bV)(tg:Expr)(J:It)(fp:List Addr)(it:Addr)(tn:Nat->Heap->Prop):Prop where
 mem:it∈fp
 obj:∀ i h,tn i h->∀ b∈fp,∃ o,h.get? b=some o/\∀ v,o.data≠.cell v
 keep:∀ i h h',tn i h->(∀ b∈fp,∀ o,h.get? b=some o->h'.get? b=some o)->tn i h'
 item:∀(X:Cx),X.prog=P->X.w=w->X.K=K->X.calm=true->∀(i:Nat)(pins:List (Addr×Obj))(s:Shared)(σ:St)(H:Hp)(E:Value->Shared->Prop),Inv X pins σ H s->(∀ b∈fp,oJ X pins H b)->tn i s.heap->J.go i H →
  wpAny (model P w) X.A (pyNext (.ref it)) (fun r s1 => ∃ u,r=some u ∧
   wpAny (model P w) X.A (letOwnedTupleGo tg (.ref it) u) (fun _ s2 => ∃ x H',Inv X pins σ H' s2/\RelV x u/\J.Xy i H x H'/\tn (i+1) s2.heap/\∀ b∈fp,H' b=none) E s1) E s
 done:∀(X:Cx),X.prog=P->X.w=w->X.K=K->X.calm=true->∀(i:Nat)(pins:List (Addr×Obj))(s:Shared)(σ:St)(H:Hp)(E:Value->Shared->Prop),Inv X pins σ H s->(∀ b∈fp,oJ X pins H b)->tn i s.heap->J.stop i H →
  wpAny (model P w) X.A (pyNext (.ref it)) (fun r s1=>r=none/\Inv X pins σ H s1) E s
 self:∀(A:Around)(i:Nat)(s:Shared)(Q E:Value->Shared->Prop),tn i s.heap->Q (.ref it) s->wpAny (model P w) A (pyIter (.ref it)) Q E s
abbrev TI:=St->Hp->(It->Hp->Prop)->Prop
def PIE(X:Cx)(p:aw (ar×Obj))(σ:St)(T:Expr)(R:It->Hp->Prop)(i:av)(S:ae):Prop:=
 ∃(I:ar)(f:aw ar)(t:Nat->Heap->Prop)(J:It)(H:Hp),i = .ref I/\Inv X p σ H S/\Turn X.prog X.w X.K T J f I t/\t 0 S.heap/\(∀ b∈f,oJ X p H b)/\R J H
def PI(X:Cx)(T iter:Expr)(w:TI):Prop:=
 ∀(p:aw (ar×Obj))(s:ae)(σ:St)(H:Hp)(R:It->Hp->Prop),Inv X p σ H s->w σ H R →
  wpAny (model X.prog X.w) X.A (eval iter X.env) (fun v S=>wpAny (model X.prog X.w) X.A (pyIter v) (PIE X p σ T R) X.xe S) X.xe s
theorem Em(q:s.heap.get? it=some o)(d:o.cls = .type n)(hd:o.data = .fields vs)
  (j:["enumerate","zip","dict_itemiterator","dict_reverseitemiterator","odict_iterator","itertools.zip_longest","itertools.pairwise"].contains n=false) (H:Q () s):wpAny M A (letOwnedTupleGo tg (.ref it) u) Q E s:=by
 unfold letOwnedTupleGo
 cases tg <;> first
  | exact aT H
  | (cases u <;> first
    | exact aT H
    | (refine aS (wpAny_load q ?_)
       rw[d,hd];show wpAny M A (if (["enumerate","zip","dict_itemiterator","dict_reverseitemiterator","odict_iterator","itertools.zip_longest","itertools.pairwise"].contains n&&vs[0]?==some (rawInt _))=true then _ else _) Q E s;rw[cK (by intro h;rw[j,eL]at h;cases h)]
       exact aT H))
def Itl(K:bV)(a:ar):It:=
 ⟨fun i H => ∃ xs x,aU K H a xs/\xs[i]? = some x,fun i H x h=>h=H/\∀ xs,aU K H a xs->xs[i]? = some x,fun i H => ∃ xs,aU K H a xs/\xs.length<=i⟩
def Itt(K:bV)(a:ar):It:=
 ⟨fun i H => ∃ xs x,aJ K H a xs/\xs[i]? = some x,fun i H x h=>h=H/\∀ xs,aJ K H a xs->xs[i]? = some x,fun i H => ∃ xs,aJ K H a xs/\xs.length<=i⟩
def Itr(lo:Int)(n:Nat):It:=⟨fun i _=>i<n,fun i H x h=>h=H/\x = .int (lo+i),fun i _=>n<=i⟩
def QD{P:ag}{w:aI}{K:bV}{T:Expr}(a t:ar):Turn P w K T (Itl K a) [t] t (fun i h=>h.IsListIter t a i) where
 mem:=by simp
 obj:=fun i h st b g=>by
  have e:b=t:=by simpa using g
  subst e;obtain⟨o,e,c,d⟩:=st;exact⟨o,e,fun v z=>by rw[d]at z;cases z⟩
 keep:=fun i h h' st k=>st.at fun o e=>k t (by simp) o e
 item:=by
  intro X l m B D i f s σ H E I j st A;subst l m B;obtain⟨xs,x,q,r⟩:=A;obtain⟨its,R,p,L⟩:=I.list q;obtain⟨u,G,Q⟩:=R.get r;obtain⟨f0,y,N,n,C,F⟩:=j t (by simp);refine wpAny_pyNext_list_item st p.isList (x:=u) (by simpa using G) fun h' S U=>?_;have M:Inv X f σ H { s with heap:=h' }:=I.turned (t':=s.toks) (fun b o g e=>(U.2 b g).trans e) f0 y n C F;obtain⟨o,e,c,d⟩:=id S;exact⟨u,rfl,Em (s:={ s with heap:=h' }) e c d (by decide) ⟨x,H,M,Q,⟨rfl,fun _ O=>by rw[I.Vl O q];exact r⟩,S,fun b g=>(j b g).1⟩⟩
 done:=by
  intro X l m B D i f s σ H E I j st A;subst l m B;obtain⟨xs,q,r⟩:=A;obtain⟨its,R,p,L⟩:=I.list q;obtain⟨f0,y,N,n,C,F⟩:=j t (by simp);have W:=R.length;exact wpAny_pyNext_list_end (I.ok.hd D) st p.isList (by simp;lia) fun h' J=>⟨rfl,I.turned (t':=s.toks) (fun b o g e=>J b o g e) f0 y n C F⟩
 self:=fun _ _ _ _ _ st h=>wpAny_pyIter_listiter st h
def Kh{P:ag}{w:aI}{K:bV}{T:Expr}(a t:ar):Turn P w K T (Itt K a) [t] t (fun i h=>h.IsTupleIter t a i) where
 mem:=by simp
 obj:=fun i h st b g=>by
  have e:b=t:=by simpa using g
  subst e;obtain⟨o,e,c,d⟩:=st;exact⟨o,e,fun v z=>by rw[d]at z;cases z⟩
 keep:=fun i h h' st k=>st.at fun o e=>k t (by simp) o e
 item:=by
  intro X l m B D i f s σ H E I j st A;subst l m B;obtain⟨xs,x,q,r⟩:=A;obtain⟨its,R,p,L⟩:=I.tuple q;obtain⟨u,G,Q⟩:=R.get r;obtain⟨f0,y,N,n,C,F⟩:=j t (by simp);refine wpAny_pyNext_tuple_item st (show s.heap.IsTuple a its.toArray from p) (x:=u) (by simpa using G) fun h' S U=>?_;have M:Inv X f σ H { s with heap:=h' }:=I.turned (t':=s.toks) (fun b o g e=>(U.2 b g).trans e) f0 y n C F;obtain⟨o,e,c,d⟩:=id S;exact⟨u,rfl,Em (s:={ s with heap:=h' }) e c d (by decide) ⟨x,H,M,Q,⟨rfl,fun _ O=>by rw[I.Df O q];exact r⟩,S,fun b g=>(j b g).1⟩⟩
 done:=by
  intro X l m B D i f s σ H E I j st A;subst l m B;obtain⟨xs,q,r⟩:=A;obtain⟨its,R,p,L⟩:=I.tuple q;obtain⟨f0,y,N,n,C,F⟩:=j t (by simp);have W:=R.length;exact wpAny_pyNext_tuple_end (I.ok.hd D) st (show s.heap.IsTuple a its.toArray from p) (by simp;lia) fun h' J=>⟨rfl,I.turned (t':=s.toks) (fun b o g e=>J b o g e) f0 y n C F⟩
 self:=fun _ _ _ _ _ st h=>wpAny_pyIter_tupleiter st h
def Kl{P:ag}{w:aI}{K:bV}{u:Expr}(a:ar)(lo:Int)(n:Nat):Turn P w K u (Itr lo n) [a] a (fun i h=>IsRangeIter h a (lo+(i:Nat)*1) ((n:Int)-(i:Nat)) 1) where
 mem:=by simp
 obj:=fun i h st b c=>by
  have e:b=a:=by simpa using c
  subst e
  exact⟨_,st,fun v z=>by
   have Z:Data.fields _=Data.cell v:=z
   cases Z⟩
 keep:=fun i h h' st k=>k a (by simp) _ st
 item:=by
  intro X l g B d i p s σ H E I f st m;subst l g B;obtain⟨f0,y,N,j,C,F⟩:=f a (by simp);have W:=Walks.range (prog:=X.prog) (w:=X.w) (I.ok.hd d) a lo 1 n;refine W.item i s _ _ m st fun v h' T q S x=>?_;obtain⟨t,rfl⟩:=q;have r:Inv X p σ H { s with heap:=h',toks:=T }:=I.turned (fun b o c e=>x b o (by simpa using c) e) f0 y j C F;refine⟨_,rfl,Em (s:={ s with heap:=h',toks:=T }) (n := "range_iterator") S rfl rfl (by decide) ⟨.int (lo+i),H,r,⟨t,?_⟩,⟨rfl,rfl⟩,S,fun b c=>(f b c).1⟩⟩;rw[Int.mul_one]
 done:=by
  intro X l g B d i p s σ H E I f st m;subst l g B;obtain⟨f0,y,N,j,C,F⟩:=f a (by simp);exact wpAny_pyNext_range_end (I.ok.hd d) st (by have:n<=i:=m;lia) fun h' J=>⟨rfl,I.turned (t':=s.toks) (fun b o c e=>J b o c e) f0 y j C F⟩
 self:=fun _ _ _ _ _ st h=>wpAny_pyIter_rangeiter st h
section
variable{X:Cx}{tg:Expr}
def qFU(K:bV)(t:TE):TI:=fun σ H R=>t σ H fun x h => ∃ a,x = .ref a/\(∃ xs,aU K h a xs)/\R (Itl K a) h
def qKW(K:bV)(t:TE):TI:=fun σ H R=>t σ H fun x h => ∃ a,x = .ref a/\(∃ xs,aJ K h a xs)/\R (Itt K a) h
def yN{l:Expr}{t:TE}(c:PE X l t):PI X tg l (qFU X.K t):=by
 intro P s σ H R I h;refine bH (c P s σ H _ I h) fun v S ⟨x,f,j,r,i⟩=>?_;obtain⟨a,e,⟨_,d⟩,q⟩:=i;subst e
 cases r
 obtain⟨_,_,p,_⟩:=j.list d;refine wpAny_pyIter_list p.isList ?_;refine⟨S.heap.objs.size,[S.heap.objs.size],_,_,f,rfl,j.kept (t':=S.toks) fun b o e=>fM _ e,QD a _,⟨_,qy _ rfl,rfl,rfl⟩,fun b g=>?_,q⟩
 have e:b=S.heap.objs.size:=by simpa using g
 subst e;exact j.Cr (bD _) (j.hok.fresh (bD _))
def nQ{l:Expr}{t:TE}(c:PE X l t):PI X tg l (qKW X.K t):=by
 intro P s σ H R I h;refine bH (c P s σ H _ I h) fun v S ⟨x,f,j,r,i⟩=>?_;obtain⟨a,e,⟨_,d⟩,q⟩:=i;subst e
 cases r
 obtain⟨its,_,p,_⟩:=j.tuple d;refine wpAny_pyIter_tuple (show S.heap.IsTuple a its.toArray from p) ?_;refine⟨S.heap.objs.size,[S.heap.objs.size],_,_,f,rfl,j.kept (t':=S.toks) fun b o e=>fM _ e,Kh a _,⟨_,qy _ rfl,rfl,rfl⟩,fun b g=>?_,q⟩
 have e:b=S.heap.objs.size:=by simpa using g
 subst e;exact j.Cr (bD _) (j.hok.fresh (bD _))
def J8{p:aw (ar×Obj)}{σ:St}{H:Hp}{s:ae}{R:It->Hp->Prop}{E:av->ae->Prop}{lo i:Int}{t u v:Tok}{T:Nat}(I:Inv X p σ H s)(f : -(2 ^ 62)<=lo)(c:lo<2 ^ 62)(h : -(2 ^ 62)<=i)(l:i<2 ^ 62)
  (q:R (Itr lo (i-lo).toNat) H):wpAny (model X.prog X.w) X.A (pyIter (.ref s.heap.objs.size)) (PIE X p σ tg R) E { s with heap:=s.heap.push { cls:=.type "range",data:=.fields #[.int lo t,.int i u,.int 1 v] },toks:=T }:=by
 refine wpAny_pyIter_range (IsRange.new ..) (small_one f c h l) ?_;have j:Inv X p σ H { s with heap:=s.heap.push { cls:=.type "range",data:=.fields #[.int lo t,.int i u,.int 1 v] },toks:=T }:=I.kept fun b o e=>fM _ e
 refine⟨(s.heap.push { cls:=.type "range",data:=.fields #[.int lo t,.int i u,.int 1 v] }).objs.size,[(s.heap.push { cls:=.type "range",data:=.fields #[.int lo t,.int i u,.int 1 v] }).objs.size],_,_,H,rfl,
  j.kept (t':=T) fun b o e=>fM _ e,Kl _ lo (i-lo).toNat,?_,fun b g=>?_,q⟩
 .have a:lo+((0:Nat):Int)*1=lo:=by simp
  have d:(((i-lo).toNat:Nat):Int)-((0:Nat):Int)=Builtin.Range.rangeSize lo i 1:=by rw[rangeSize_one];split <;> lia
  show IsRangeIter _ _ (lo+((0:Nat):Int)*1) ((((i-lo).toNat:Nat):Int)-((0:Nat):Int)) 1;rw[a,d];exact qy _ rfl
 .have e:b=(s.heap.push { cls:=.type "range",data:=.fields #[.int lo t,.int i u,.int 1 v] }).objs.size:=by simpa using g
  subst e;exact j.Cr (bD _) (j.hok.fresh (bD _))
def qFK(t:TA):TI:=fun σ H R=>t σ H fun vs h => ∃ j:Int,vs=[.int j] /\ -(2 ^ 62)<=j/\j<2 ^ 62/\R (Itr 0 j.toNat) h
def qFJ(t:TA):TI:=fun σ H R=>t σ H fun vs h => ∃ i j:Int,vs=[.int i,.int j]/\(-(2 ^ 62)<=i/\i<2 ^ 62 /\ -(2 ^ 62)<=j/\j<2 ^ 62)/\R (Itr i (j-i).toNat) h
theorem cg{a:Expr}{T:TA}{p b:Pos}(g:Gl X "range")(m:X.mg "range" = none)(k:PA X [a] T)(f:starEach [a] X.env=[(false,eval a X.env)]:=by rfl):PI X tg (.Call (.Name "range" p) [a] [] b) (qFK T):=by
 intro P s σ H R I h;refine Call_ (jm I g m boot_range (kn (bH (k b P s σ H _ I h) fun _ _ ⟨_,_,l,c,i⟩=>?_) f rfl));obtain⟨j,e,i,Q,q⟩:=i;subst e
 cases c with
 | cons r d=>
  cases d
  obtain⟨t,rfl⟩:=r;exact call_range_1 (J8 l (by lia) (by lia) i Q (by simpa using q))
theorem vR(m:Gl X "range")(v:X.mg "range" = none)(o:PA X [a,b] ta)(k:starEach [a,b] X.env=[(false,eval a X.env),(false,eval b X.env)]:=by rfl)(c:starEach [b] X.env=[(false,eval b X.env)]:=by rfl) :
  PI X tg (.Call (.Name "range" p) [a,b] [] pos) (qFJ ta):=by
 intro P s σ H R I h;refine Call_ (jm I m v boot_range (kn (bH (o pos P s σ H _ I h) fun _ _ ⟨_,_,w,g,Q⟩=>?_) (by rw[k,c]) (by rw[c];rfl)));obtain⟨i,j,e,⟨Q,n,f,u⟩,q⟩:=Q;subst e
 cases g with
 | cons r d=>
  cases d with
  | cons l d=>
   cases d
   obtain⟨t,rfl⟩:=r;obtain⟨_,rfl⟩:=l;exact call_range_2 (J8 w Q n f u q)
def qJR(w:TI)(g:TG)(T:TS):TS:=fun D σ H=>w σ H fun J a => ∃ W:Nat->Nat->St->Hp->Prop,(∃ m,W 0 m σ a)/\∀ i m σ H,W i m σ H →
 (J.stop i H/\D.nx σ H)∨(J.go i H/\∃ N:St->Hp->Prop,(∀ σ' h,N σ' h->∃ m',m'<m/\W (i+1) m' σ' h)/\∀ x h,J.Xy i H x h->g x σ h fun σ2 b=>T { D with nx:=N,ct:=N,bk:=D.nx } σ2 b)
def vQ(f:aw ar)(h:Heap):aw (ar×Obj):=f.filterMap fun b=>(h.get? b).map fun o=>(b,o)
def nU(c:b∈fp)(e:h.get? b=some o):(b,o)∈vQ fp h:=List.mem_filterMap.mpr ⟨b,c,by rw[e];rfl⟩
theorem R5(H:p∈vQ fp h):p.1∈fp/\h.get? p.1=some p.2:=by
 obtain⟨b,c,e⟩:=List.mem_filterMap.mp H
 cases q:h.get? b with
 | none=>rw[q]at e;cases e
 | some o=>
  rw[q]at e;have E:(b,o)=p:=kJ e;subst E;exact⟨c,q⟩
def Inv.pinned(I:Inv X pins σ H s)(h:∀ b∈fp,oJ X pins H b)(q:∀ b∈fp,∃ o,s.heap.get? b=some o/\∀ v,o.data≠.cell v):Inv X (pins++vQ fp s.heap) σ H s:=
 I.uJ fun p a=>(jz.mp a).elim (fun z=>I.pin p (gN _ z)) fun z=>by
  obtain⟨c,e⟩:=R5 z;obtain⟨f0,y,N,_⟩:=h p.1 c;obtain⟨o,E,d⟩:=q p.1 c;rw[e]at E;cases E;exact⟨e,f0,y,N,d⟩
def Inv.zf(I:Inv X (pins++pl) σ H s):Inv X pins σ H s:=I.uJ fun p h=>I.pin p (gN _ (gL _ h))
theorem bf(A:PassesOwn (model X.prog X.w) X.A X.env X.xe)(P:X.calm=true)(hi:PI X tg iter wi)(hg:PG X tg g)(j:Cw X body tb)
  (hs:∀ x,foldedSetIterable iter X.env x=pure x:=by intro _;rfl):PS X (.For tg iter body [] pos) (qJR wi g tb):=by
 intro p s σ H D I h;refine wpAny_For (bH (hi p s σ H _ I h) fun v _ h1=>bH h1 fun _ _ h2=>?_) hs;obtain⟨_,F,Z,J,H2,e,I2,T,O,R,W,⟨m0,w0⟩,t⟩:=h2;subst e;have S:∀ {l:Hp},(∀ b∈F,l b=none)->∀ b∈F,oJ X p l b:=fun hn b j=>⟨hn b j,(R b j).2⟩;refine codeAny_forLoop_any (fun n s'=>∃ i σ' l,Inv X p σ' l s'/\Z i s'.heap/\(∀ b∈F,l b=none)/\W i n σ' l) ?_ m0 ⟨0,σ,H2,I2,O,fun b j=>(R b j).1,w0⟩;rintro n s3 ⟨i,σ3,C,U,w,B,w3⟩;rcases t i n σ3 C w3 with ⟨z,qn⟩ | ⟨go,N,hN,step⟩
 .refine wpAny_passesOwn A (bH (T.done X rfl rfl rfl P i p s3 σ3 C X.xe U (S B) w z) fun r s4 ⟨M,I4⟩=>?_);subst M;exact wpAny_execs_nil ⟨σ3,C,I4,qn⟩
 .refine wpAny_passesOwn A (bH (T.item X rfl rfl rfl P i p s3 σ3 C X.xe U (S B) w go) fun r s4 ⟨u,M,h4⟩=>?_);subst M;refine wpAny_passesOwn A (bH h4 fun _ Q ⟨x,H5,I5,r5,y5,Y,L⟩=>?_);have G:=I5.pinned (S L) (T.obj _ _ Y);refine wpAny_passesOwn A (bH (hg _ Q σ3 H5 x u _ G r5 (step x H5 y5)) fun _ s6 ⟨σ6,H6,I6,q6⟩=>?_);refine wpAny_passesOwn A (bH (j _ s6 σ6 H6 _ I6 q6) fun f E q=>?_)
  have again:∀ {a:St} {c:Hp},Inv X (p++vQ F Q.heap) a c E->N a c->∃ m,m<n/\∃ i σ' l,Inv X p σ' l E/\Z i E.heap/\(∀ b∈F,l b=none)/\W i m σ' l:=fun {a c} k y=>by
   obtain⟨m',hm,w7⟩:=hN a c y;refine⟨m',hm,i+1,a,c,k.zf,T.keep _ _ _ Y fun b j o e=>(k.pin (b,o) (gN _ (gN _ (nU j e)))).1,fun b j=>?_,w7⟩;obtain⟨o,e,d⟩:=T.obj _ _ Y b j;exact (k.pin (b,o) (gN _ (gN _ (nU j e)))).2.1
  cases f with
  | next=>obtain⟨a,c,k,y⟩:=q;exact again k y
  | cont=>obtain⟨a,c,k,y⟩:=q;exact again k y
  | brk=>obtain⟨a,c,k,q⟩:=q;exact⟨a,c,k.zf,q⟩
  | ret v=>obtain⟨x7,a,c,k,r7,q⟩:=q;exact⟨x7,a,c,k.zf,r7,q⟩
end
def pX{K:bV}{a:ar}{xs:aw V}{g:TG}{T:TS}{D:Ends}{σ:St}{H:Hp}(Pv:Nat->St->Hp->Prop)(c:Pv 0 σ H)(l:∀ i σ H,i<=xs.length->Pv i σ H->aU K H a xs)
  (d:∀ i x σ H,xs[i]? = some x->Pv i σ H->g x σ H fun σ2 b=>T { D with nx:=Pv (i+1),ct:=Pv (i+1),bk:=D.nx } σ2 b) (hd:∀ σ H,Pv xs.length σ H->D.nx σ H) :
  ∃ W:Nat->Nat->St->Hp->Prop,(∃ m,W 0 m σ H)/\∀ i m σ H,W i m σ H →
   ((Itl K a).stop i H/\D.nx σ H)∨((Itl K a).go i H/\∃ N:St->Hp->Prop,(∀ σ' h,N σ' h->∃ m',m'<m/\W (i+1) m' σ' h)/\∀ x h,(Itl K a).Xy i H x h->g x σ h fun σ2 b=>T { D with nx:=N,ct:=N,bk:=D.nx } σ2 b):=by
 refine⟨fun i m σ H=>m=xs.length-i/\i<=xs.length/\Pv i σ H,⟨xs.length,by simp,Nat.zero_le _,c⟩,?_⟩;rintro i m σ H ⟨rfl,f,p⟩;have q:=l i σ H f p
 by_cases t:i<xs.length
 .refine .inr ⟨⟨xs,xs[i],q,by simp [t]⟩,Pv (i+1),fun σ' h p'=>⟨xs.length-(i+1),by lia,rfl,t,p'⟩,fun x h y=>?_⟩;obtain⟨e,y⟩:=y;subst e;exact d i x σ _ (y xs q) p
 .have e:i=xs.length:=by lia
  subst e;exact .inl ⟨⟨xs,q,bD _⟩,hd σ H p⟩
def ZV{K:bV}{a:ar}{xs:aw V}{g:TG}{T:TS}{D:Ends}{σ:St}{H:Hp}(Pv:Nat->St->Hp->Prop)(c:Pv 0 σ H)(l:∀ i σ H,i<=xs.length->Pv i σ H->aJ K H a xs)
  (d:∀ i x σ H,xs[i]? = some x->Pv i σ H->g x σ H fun σ2 b=>T { D with nx:=Pv (i+1),ct:=Pv (i+1),bk:=D.nx } σ2 b) (hd:∀ σ H,Pv xs.length σ H->D.nx σ H) :
  ∃ W:Nat->Nat->St->Hp->Prop,(∃ m,W 0 m σ H)/\∀ i m σ H,W i m σ H →
   ((Itt K a).stop i H/\D.nx σ H)∨((Itt K a).go i H/\∃ N:St->Hp->Prop,(∀ σ' h,N σ' h->∃ m',m'<m/\W (i+1) m' σ' h)/\∀ x h,(Itt K a).Xy i H x h->g x σ h fun σ2 b=>T { D with nx:=N,ct:=N,bk:=D.nx } σ2 b):=by
 refine⟨fun i m σ H=>m=xs.length-i/\i<=xs.length/\Pv i σ H,⟨xs.length,by simp,Nat.zero_le _,c⟩,?_⟩;rintro i m σ H ⟨rfl,f,p⟩;have q:=l i σ H f p
 by_cases t:i<xs.length
 .refine .inr ⟨⟨xs,xs[i],q,by simp [t]⟩,Pv (i+1),fun σ' h p'=>⟨xs.length-(i+1),by lia,rfl,t,p'⟩,fun x h y=>?_⟩;obtain⟨e,y⟩:=y;subst e;exact d i x σ _ (y xs q) p
 .have e:i=xs.length:=by lia
  subst e;exact .inl ⟨⟨xs,q,bD _⟩,hd σ H p⟩
def cI{lo:Int}{n:Nat}{g:TG}{T:TS}{D:Ends}{σ:St}{H:Hp}(Pv:Nat->St->Hp->Prop)(c:Pv 0 σ H)
  (d:∀ i σ H,i<n->Pv i σ H->g (.int (lo+i)) σ H fun σ2 a=>T { D with nx:=Pv (i+1),ct:=Pv (i+1),bk:=D.nx } σ2 a) (hd:∀ σ H,Pv n σ H->D.nx σ H) :
  ∃ W:Nat->Nat->St->Hp->Prop,(∃ m,W 0 m σ H)/\∀ i m σ H,W i m σ H →
   ((Itr lo n).stop i H/\D.nx σ H)∨((Itr lo n).go i H/\∃ N:St->Hp->Prop,(∀ σ' h,N σ' h->∃ m',m'<m/\W (i+1) m' σ' h)/\∀ x h,(Itr lo n).Xy i H x h->g x σ h fun σ2 a=>T { D with nx:=N,ct:=N,bk:=D.nx } σ2 a):=by
 refine⟨fun i m σ H=>m=n-i/\i<=n/\Pv i σ H,⟨n,by simp,Nat.zero_le _,c⟩,?_⟩;rintro i m σ H ⟨rfl,_,p⟩
 by_cases t:i<n
 .refine .inr ⟨t,Pv (i+1),fun σ' h p'=>⟨n-(i+1),by lia,rfl,t,p'⟩,fun x h y=>?_⟩;obtain⟨e,y⟩:=y;subst e y;exact d i σ _ t p
 .have e:i=n:=by lia
  subst e;exact .inl ⟨bD _,hd σ H p⟩
abbrev R2:=V->V->Hp->VK->Prop
def lJ(X:Cx)(f:av->av->Sem av)(r:R2):Prop:=
 ∀(p:aw (ar×Obj))(s:ae)(σ:St)(H:Hp)(x y:V)(v u:av)(Q:VK),Inv X p σ H s->RelV x v->RelV y u->r x y H Q →
  wpAny (model X.prog X.w) X.A (f v u) (EP X p σ Q) X.xe s
def UnR(X:Cx)(f:av->Sem av)(r:V->Hp->VK->Prop):Prop:=
 ∀(p:aw (ar×Obj))(s:ae)(σ:St)(H:Hp)(x:V)(v:av)(Q:VK),Inv X p σ H s->RelV x v->r x H Q →
  wpAny (model X.prog X.w) X.A (f v) (EP X p σ Q) X.xe s
def ir(X:Cx)(f:av)(r:aw V->Hp->VK->Prop):Prop:=
 ∀(p:aw (ar×Obj))(s:ae)(σ:St)(H:Hp)(xs:aw V)(us:aw av)(Q:VK),Inv X p σ H s->Vals xs us->r xs H Q →
  wpAny (model X.prog X.w) X.A (call f us) (EP X p σ Q) X.xe s
def tOp(r:R2)(t T:TE):TE:=fun σ H Q=>t σ H fun x a=>T σ a fun y h=>r x y h Q
def tUn(r:V->Hp->VK->Prop)(t:TE):TE:=fun σ H Q=>t σ H fun x h=>r x h Q
def rI(C:Int->Int->Prop)(g:Int->Int->V):R2:=fun x y H Q => ∃ i j,x = .int i/\y = .int j/\C i j/\Q (g i j) H
def Le(g:Int->Int->V):R2:=fun x y H Q => ∃ i j,x = .int i/\y = .int j/\Q (g i j) H
def rU(g:Int->V):V->Hp->VK->Prop:=fun x H Q => ∃ i,x = .int i/\Q (g i) H
section
variable{X:Cx}{a b c:Expr}{ta tb tc:TE}{pos:Pos}
def qD8(k:PE X a ta)(m:PE X b tb){p:aw (ar×Obj)}{s:ae}{σ:St}{H:Hp}{R:V->V->Hp->Prop}(I:Inv X p σ H s)
  (h:ta σ H fun x g=>tb σ g fun y c=>R x y c) {Q:av->ae->Prop} {f:av->av->Sem av}
  (j:∀ v u e x y c,Inv X p σ c e->RelV x v->RelV y u->R x y c->wpAny (model X.prog X.w) X.A (f v u) Q X.xe e) :
  wpAny (model X.prog X.w) X.A (eval a X.env) (fun v d=>wpAny (model X.prog X.w) X.A (eval b X.env) (fun u S=>wpAny (model X.prog X.w) X.A (f v u) Q X.xe S) X.xe d) X.xe s:=by refine bH (k p s σ H _ I h) fun v i ⟨x,g,n,r,l⟩=>?_;refine bH (m p i σ g _ n l) fun u e ⟨y,c,A,z,q⟩=>?_;exact j v u e x y c A r z q
def yD{o:Operator}{r:R2}(g:lJ X (binaryOp o) r)(f:PE X a ta)(d:PE X b tb):PE X (.BinOp a o b pos) (tOp r ta tb):=by intro p s σ H Q I h;exact wpAny_BinOp (qD8 f d I h fun v u S x y c A e R q=>g p S σ c x y v u Q A e R q)
def Ay(q:UnR X (unaryOp op) r)(f:PE X a ta):PE X (.UnaryOp op a pos) (tUn r ta):=by intro p s σ H Q I h;exact UnaryOp_ (bH (f p s σ H _ I h) fun v S ⟨x,b,j,R,i⟩=>q p S σ b x v Q j R i)
def opI{f:av->av->Sem av}{C:Int->Int->Prop}{g:Int->Int->Int}
  (rule:∀(i j:Int)(t u:Tok)(s:ae)(Q E:av->ae->Prop),C i j->Q (.int (g i j) s.toks) { s with toks:=s.toks+1 }->wpAny (model X.prog X.w) X.A (f (.int i t) (.int j u)) Q E s) :
  lJ X f (rI C fun i j=>.int (g i j)):=by intro _ s σ H x y v u Q I e R h;obtain⟨i,j,rfl,rfl,d,q⟩:=h;obtain⟨t,rfl⟩:=e;obtain⟨t',rfl⟩:=R;exact rule i j t t' s _ _ d ⟨.int (g i j),H,I.tok _,⟨_,rfl⟩,q⟩
def qBZ{f:av->av->Sem av}{g:Int->Int->Int}
  (rule:∀(i j:Int)(t u:Tok)(s:ae)(Q E:av->ae->Prop),Q (.int (g i j) s.toks) { s with toks:=s.toks+1 }->wpAny (model X.prog X.w) X.A (f (.int i t) (.int j u)) Q E s) :
  lJ X f (Le fun i j=>.int (g i j)):=by intro _ s σ H x y v u Q I e R h;obtain⟨i,j,rfl,rfl,q⟩:=h;obtain⟨t,rfl⟩:=e;obtain⟨t',rfl⟩:=R;exact rule i j t t' s _ _ ⟨.int (g i j),H,I.tok _,⟨_,rfl⟩,q⟩
def Yt{f:av->av->Sem av}{g:Int->Int->Bool}
  (rule:∀(i j:Int)(t u:Tok)(s:ae)(Q E:av->ae->Prop),Q (.bool (g i j)) s->wpAny (model X.prog X.w) X.A (f (.int i t) (.int j u)) Q E s) :
  lJ X f (Le fun i j=>.bl (g i j)):=by intro _ s σ H x y v u Q I e R h;obtain⟨i,j,rfl,rfl,q⟩:=h;obtain⟨t,rfl⟩:=e;obtain⟨t',rfl⟩:=R;exact rule i j t t' s _ _ ⟨.bl (g i j),H,I,rfl,q⟩
def qM3(i j:Int):Prop:=0<j/\j<1073741824
def qM2(i j:Int):Prop:=0<=j/\j<=1000000/\i.natAbs<2 ^ 64
def qA8(i j:Int):Prop:=(-(2 ^ 64)<i/\i<2 ^ 64)∨(-(2 ^ 64)<j/\j<2 ^ 64)
def qA8.ok(h:qA8 i j):IntMulOk i j:=by
 rcases h with ⟨f,q⟩ | ⟨f,q⟩
 .exact .of_left (intBits_le_64 f q)
 .exact .of_right (intBits_le_64 f q)
def Kg(k:Nat):(0:Int)<=2 ^ k:=by rw[two_pow_cast];exact fb _
def yG:lJ X (binaryOp .Add) (Le fun i j=>.int (i+j)):=qBZ fun _ _ _ _ _ _ _ q=>add_int q
def lF:lJ X (binaryOp .Sub) (Le fun i j=>.int (i-j)):=qBZ fun _ _ _ _ _ _ _ q=>sub_int q
def iB:lJ X (binaryOp .Mult) (rI qA8 fun i j=>.int (i*j)):=opI fun _ _ _ _ _ _ _ d q=>mul_int q d.ok
def yM:lJ X (binaryOp .FloorDiv) (rI qM3 fun i j=>.int (i/j)):=opI fun i j _ _ _ _ _ d q=>by
 have f:(0:Int)<j:=d.1;have h:j<1073741824:=d.2;exact floordiv_int (by lia) (by rw[eW i (by lia)];exact q) (.inl (PyProof.noPylong_small (by lia)))
def zZ:lJ X (binaryOp .Mod) (rI (fun _ j=>0<j) fun i j=>.int (i%j)):=opI fun i j _ _ _ _ _ d q=>by
 have f:(0:Int)<j:=d;exact mod_int' (by lia) (by rw[Int.fmod_eq_emod_of_nonneg i (by lia)];exact q)
def GP:lJ X (binaryOp .Pow) (rI qM2 fun i j=>.int (i ^ j.toNat)):=opI fun _ _ _ _ _ _ _ d q=>pow_int_small d.1 d.2.1 d.2.2 q
def qBY:lJ X (binaryOp .RShift) (rI (fun _ j=>0<=j) fun i j=>.int (i/2 ^ j.toNat)):=opI fun i j _ _ _ _ _ d q=>
 rshift_int d (by rw[eW i (Kg _)];exact q)
def Up:lJ X (binaryOp .BitAnd) (Le fun i j=>.int (Builtin.bitAnd i j)):=qBZ fun _ _ _ _ _ _ _ q=>and_int q
def unI{f:av->Sem av}{g:Int->Int}
  (rule:∀(i:Int)(t:Tok)(s:ae)(Q E:av->ae->Prop),Q (.int (g i) s.toks) { s with toks:=s.toks+1 }->wpAny (model X.prog X.w) X.A (f (.int i t)) Q E s) :
  UnR X f (rU fun i=>.int (g i)):=by intro _ s σ H x v Q I e h;obtain⟨i,rfl,q⟩:=h;obtain⟨t,rfl⟩:=e;exact rule i t s _ _ ⟨.int (g i),H,I.tok _,⟨_,rfl⟩,q⟩
def rH:UnR X (unaryOp .USub) (rU fun i=>.int (-i)):=unI fun _ _ _ _ _ q=>neg_int q
noncomputable def qEC:V->V->Bool
 | .non,.non=>true | .non,.int _=>true | .int _,.non=>true | .non,.bl _=>true | .bl _,.non=>true | .non,.str _=>true | .str _,.non=>true
 | .int _,.int _=>true | .bl _,.bl _=>true | .str _,.str _=>true | .Sv _,.Sv _=>true
 | .int _,.str _=>true | .str _,.int _=>true | .bl _,.str _=>true | .str _,.bl _=>true
 | _,_=>false
def rEq:R2:=fun x y H Q=>qEC x y=true/\Q (.bl (decide (x=y))) H
def rNe:R2:=fun x y H Q=>qEC x y=true/\Q (.bl (!decide (x=y))) H
def PX:decide (V.int i=V.int j)=(i==j):=by rw[eK];simp
def Wu:decide (V.bl i=V.bl j)=(i==j):=by rw[eK];simp
def PQ:decide (V.str i=V.str j)=(i==j):=by rw[eK];simp
def Pa:decide (V.Sv i=V.Sv j)=(i.toList==j.toList):=by
 rw[eK]
 cases i
 cases j
 simp
def au(I:Inv X pins σ H s)(q:Q (.bl k) H)(e:k=k'):EP X pins σ Q (.bool k') s:=by subst e;exact⟨.bl k,H,I,rfl,q⟩
theorem yH:lJ X (compareOp .Eq) rEq:=by
 intro _ s σ H x y v u Q I e R h;obtain⟨d,q⟩:=h
 cases x with
 | non=>
  cases e
  cases y with
  | non=>cases R;exact PySem.EqNone.eq_none_none (au I q (by simp))
  | bl j=>cases R;exact PySem.EqNone.eq_none_bool (au I q (by simp))
  | int j=>obtain⟨t',rfl⟩:=R;exact PySem.EqNone.eq_none_int (au I q (by simp))
  | str j=>obtain⟨t',rfl⟩:=R;exact PySem.EqNone.eq_none_str (au I q (by simp))
  | _=>exact eu (show false=true from d) rA
 | bl i=>
  cases e
  cases y with
  | non=>cases R;exact PySem.EqNone.eq_bool_none (au I q (by simp))
  | bl j=>cases R;exact eq_bool (au I q Wu)
  | str j=>obtain⟨t',rfl⟩:=R;exact PySem.EqMixed.eq_bool_str (au I q (by simp))
  | _=>exact eu (show false=true from d) rA
 | int i=>
  obtain⟨t,rfl⟩:=e
  cases y with
  | non=>cases R;exact PySem.EqNone.eq_int_none (au I q (by simp))
  | int j=>obtain⟨t',rfl⟩:=R;exact eq_int (au I q PX)
  | str j=>obtain⟨t',rfl⟩:=R;exact PySem.EqMixed.eq_int_str (au I q (by simp))
  | _=>exact eu (show false=true from d) rA
 | str i=>
  obtain⟨t,rfl⟩:=e
  cases y with
  | non=>cases R;exact PySem.EqNone.eq_str_none (au I q (by simp))
  | bl j=>cases R;exact PySem.EqMixed.eq_str_bool (au I q (by simp))
  | int j=>obtain⟨t',rfl⟩:=R;exact PySem.EqMixed.eq_str_int (au I q (by simp))
  | str j=>obtain⟨t',rfl⟩:=R;exact eq_str (au I q PQ)
  | _=>exact eu (show false=true from d) rA
 | Sv i=>
  obtain⟨t,rfl⟩:=e
  cases y with
  | Sv j=>obtain⟨t',rfl⟩:=R;exact PySem.W.eq_bytes (au I q Pa)
  | _=>exact eu (show false=true from d) rA
 | _=>cases y <;> exact eu (show false=true from d) rA
theorem pN:lJ X (compareOp .NotEq) rNe:=by
 intro _ s σ H x y v u Q I e R h;obtain⟨d,q⟩:=h
 cases x with
 | non=>
  cases e
  cases y with
  | non=>cases R;exact PySem.EqNone.ne_none_none (au I q (by simp))
  | bl j=>cases R;exact PySem.EqNone.ne_none_bool (au I q (by simp))
  | int j=>obtain⟨t',rfl⟩:=R;exact PySem.EqNone.ne_none_int (au I q (by simp))
  | str j=>obtain⟨t',rfl⟩:=R;exact PySem.EqNone.ne_none_str (au I q (by simp))
  | _=>exact eu (show false=true from d) rA
 | bl i=>
  cases e
  cases y with
  | non=>cases R;exact PySem.EqNone.ne_bool_none (au I q (by simp))
  | bl j=>cases R;exact ne_bool (au I q (congrArg not Wu))
  | str j=>obtain⟨t',rfl⟩:=R;exact PySem.EqMixed.ne_bool_str (au I q (by simp))
  | _=>exact eu (show false=true from d) rA
 | int i=>
  obtain⟨t,rfl⟩:=e
  cases y with
  | non=>cases R;exact PySem.EqNone.ne_int_none (au I q (by simp))
  | int j=>obtain⟨t',rfl⟩:=R;exact ne_int (au I q (congrArg not PX))
  | str j=>obtain⟨t',rfl⟩:=R;exact PySem.EqMixed.ne_int_str (au I q (by simp))
  | _=>exact eu (show false=true from d) rA
 | str i=>
  obtain⟨t,rfl⟩:=e
  cases y with
  | non=>cases R;exact PySem.EqNone.ne_str_none (au I q (by simp))
  | bl j=>cases R;exact PySem.EqMixed.ne_str_bool (au I q (by simp))
  | int j=>obtain⟨t',rfl⟩:=R;exact PySem.EqMixed.ne_str_int (au I q (by simp))
  | str j=>obtain⟨t',rfl⟩:=R;exact ne_str (au I q (congrArg not PQ))
  | _=>exact eu (show false=true from d) rA
 | Sv i=>
  obtain⟨t,rfl⟩:=e
  cases y with
  | Sv j=>obtain⟨t',rfl⟩:=R;exact PySem.W.ne_bytes (au I q (congrArg not Pa))
  | _=>exact eu (show false=true from d) rA
 | _=>cases y <;> exact eu (show false=true from d) rA
def mH:lJ X (compareOp .Lt) (Le fun i j=>.bl (decide (i<j))):=Yt fun _ _ _ _ _ _ _ q=>lt_int q
def fJ:lJ X (compareOp .LtE) (Le fun i j=>.bl (decide (i<=j))):=Yt fun _ _ _ _ _ _ _ q=>le_int q
def cY:lJ X (compareOp .Gt) (Le fun i j=>.bl (decide (j<i))):=Yt fun _ _ _ _ _ _ _ q=>gt_int q
def qEW:lJ X (compareOp .GtE) (Le fun i j=>.bl (decide (j<=i))):=Yt fun _ _ _ _ _ _ _ q=>ge_int q
def Qe:lJ X (compareOp .In) (fun x y H Q => ∃ i j,x = .str i/\y = .str j/\Q (.bl (!(Builtin.Str.occurrences j i 0 j.length 1).isEmpty)) H):=by intro _ s σ H x y v u Q I e R h;obtain⟨i,j,rfl,rfl,q⟩:=h;obtain⟨t,rfl⟩:=e;obtain⟨_,rfl⟩:=R;exact in_str (au I q rfl)
theorem Li:lJ X (compareOp .Is) (fun x y H Q=>y = .non/\Q (.bl (decide (x = .non))) H):=by
 intro _ s σ H x y v u Q I e R h;obtain⟨rfl,q⟩:=h
 cases R
 refine is_none_gen (au I q ?_)
 cases x <;> first
  | (cases e;rfl)
  | (obtain⟨t,rfl⟩:=e;rfl)
theorem GQ:lJ X (compareOp .IsNot) (fun x y H Q=>y = .non/\Q (.bl (!decide (x = .non))) H):=by
 intro _ s σ H x y v u Q I e R h;obtain⟨rfl,q⟩:=h
 cases R
 refine isnot_none_gen (au I q ?_)
 cases x <;> first
  | (cases e;rfl)
  | (obtain⟨t,rfl⟩:=e;rfl)
def lJ.or(h:lJ X f r)(h':lJ X f r'):lJ X f (fun x y H Q=>r x y H Q∨r' x y H Q):=by
 intro p s σ H x y v u Q I e R q;rcases q with q | q
 .exact h p s σ H x y v u Q I e R q
 .exact h' p s σ H x y v u Q I e R q
def zS(b:Expr)(h:op≠.In:=by decide)(q:op≠.NotIn:=by decide):behindInMarks op b=false:=by
 have e:(op==CmpOp.In)=false:=by cases op <;> first | rfl | exact eu rfl h
 have a:(op==CmpOp.NotIn)=false:=by cases op <;> first | rfl | exact eu rfl q
 cases b <;> simp [behindInMarks,e,a]
def bK{o:CmpOp}{r:R2}(g:lJ X (compareOp o) r)(f:PE X a ta)(d:PE X b tb)(m:behindInMarks o b=false):PE X (.Compare a [o] [b] pos) (tOp r ta tb):=by intro p s σ H Q I h;exact wpAny_Compare1 (qD8 f d I h fun v u S x y c A e R q=>g p S σ c x y v u Q A e R q) m
def qAA(t:TE):TT:=fun σ H Q=>t σ H fun x h=>isB x h Q
def zM(t:lJ X (compareOp op) r)(j:PE X a ta)(g:PE X b tb)(m:behindInMarks op b=false):PT X (.Compare a [op] [b] pos) (qAA (tOp r ta tb)):=by
 intro p s σ H Q I h
 refine wpAny_isTrue_Compare1 (bH (j p s σ H _ I h) fun v n ⟨x,A,w,i,l⟩=>bH (g p n σ A _ w l) fun u S ⟨y,o,D,C,f⟩=>
  bH (t p S σ o x y v u _ D i C f) fun c _ ⟨z,d,B,R,k,e,q⟩=>?_) m
 subst e
 cases R
 exact wpAny_truthy_bool ⟨d,B,q⟩
def qBE(r R:R2)(ta tb tc:TE):TE:=fun σ H Q=>ta σ H fun x h=>tb σ h fun y c=>r x y c fun z a => ∃ k,z = .bl k ∧
 (if k=true then tc σ a fun W b=>R y W b Q else Q (.bl false) a)
theorem Ug(J:lJ X (compareOp O) r)(f:lJ X (compareOp o) T)(D:PE X a ta)(B:PE X b tb)(j:PE X c tc)
  (A:lastMarks [O,o] [b,c]=false:=by with_unfolding_all rfl):PE X (.Compare a [O,o] [b,c] pos) (qBE r T ta tb tc):=by
 intro p s σ H Q I h
 refine Compare_chain (bH (D p s σ H _ I h) fun v G ⟨x,N,L,C,E⟩=>chain_link (bH (B p G σ N _ L E) fun u S ⟨y,F,U,R,l⟩=>
  bH (J p S σ F x y v u _ U C R l) fun d W ⟨z,g,n,i,k,e,q⟩=>?_)) A
 subst e
 cases i
 refine wpAny_truthy_bool ?_
 cases k with
 | false=>exact ite_ff ⟨.bl false,g,n,rfl,q⟩
 | true=>exact ite_tt (chain_last (bH (j p W σ g _ n q) fun Y m ⟨Z,t,P,M,w⟩=>f p m σ t y Z u Y Q P R M w))
def vh:(sizeLine:Nat)<2 ^ 63:=by rw[sizeLine_eq];decide
def BP:lJ X (binaryOp .Add) (fun x y H Q => ∃ i j,x = .str i/\y = .str j/\i.length+j.length<=sizeLine/\Q (.str (i++j)) H):=by intro _ s σ H x y v u Q I e R h;obtain⟨i,j,rfl,rfl,b,q⟩:=h;obtain⟨t,rfl⟩:=e;obtain⟨t',rfl⟩:=R;exact add_str (fun t' _=>⟨.str (i++j),H,I.tok _,⟨_,rfl⟩,q⟩) b
theorem vals1(r:Vals [x] us):∃ u,us=[u]/\RelV x u:=by
 cases r with
 | cons R z=>cases z;exact⟨_,rfl,R⟩
theorem vals2(r:Vals [x,y] us):∃ u W,us=[u,W]/\RelV x u/\RelV y W:=by
 cases r with
 | cons a z=>
  cases z with
  | cons R M=>cases M;exact⟨_,_,rfl,a,R⟩
def Rq(d:X.calm=true):ir X (.builtin "max") (fun xs H Q => ∃ i j,xs=[.int i,.int j]/\Q (.int (if j>i then j else i)) H):=by
 intro _ s σ H xs _ Q I r h;obtain⟨i,j,rfl,q⟩:=h;obtain⟨u,_,rfl,⟨t,rfl⟩,⟨_,rfl⟩⟩:=vals2 r;refine max_two_ints (I.ok.hd d) fun _ _ k=>⟨_,H,I.kept k,?_,q⟩
 by_cases L:j>i
 .rw[cS L,cS L];exact⟨_,rfl⟩
 .rw[cK L,cK L];exact⟨_,rfl⟩
def Ep(d:X.calm=true):ir X (.builtin "min") (fun xs H Q => ∃ i j,xs=[.int i,.int j]/\Q (.int (if j<i then j else i)) H):=by
 intro _ s σ H xs _ Q I r h;obtain⟨i,j,rfl,q⟩:=h;obtain⟨u,_,rfl,⟨t,rfl⟩,⟨_,rfl⟩⟩:=vals2 r;refine min_two_ints (I.ok.hd d) fun _ _ k=>⟨_,H,I.kept k,?_,q⟩
 by_cases L:j<i
 .rw[cS L,cS L];exact⟨_,rfl⟩
 .rw[cK L,cK L];exact⟨_,rfl⟩
def Er:ir X (.type "int") (fun xs H Q=>(∃ i,xs=[.int i]/\Q (.int i) H) ∨ ∃ k,xs=[.bl k]/\Q (.int (if k then 1 else 0)) H):=by
 intro _ s σ H xs _ Q I r h;rcases h with ⟨i,rfl,q⟩ | ⟨k,rfl,q⟩
 .obtain⟨u,rfl,t,rfl⟩:=vals1 r;exact call_int_int ⟨.int i,H,I,⟨_,rfl⟩,q⟩
 .obtain⟨u,rfl,R⟩:=vals1 r
  cases R
  exact call_int_bool ⟨.int (if k then 1 else 0),H,I.tok _,⟨_,rfl⟩,q⟩
end
structure Mz(h:Heap)(x dx C:Addr)(mA:Str->Option Value):Prop where
 obj:h.get? x=some (PySem.W.instObj C dx)
 ns:h.Ns1 dx mA
 ne:dx≠x
def Ef{h:Heap}{d:ar}{m:Str->aE av}(n:h.Ns1 d m):∃ od,h.get? d=some od/\∀ name,PySem.W.lookIn name od=some (m name):=by
 obtain⟨o,E,_,c,hd,k,_,b⟩:=n;refine⟨o,c,fun name=>?_⟩;have e:=b name;unfold nsFind findBy at e;rw[<-Array.find?_toList]at e;unfold PySem.W.lookIn;rw[hd]
 dsimp only
 split
 .rename_i y q
  rw[q]at e;exact congrArg some e
 .rename_i q
  rw[q]at e
  have a:E.toList.any (·.refKey)=false:=by
   rw[List.any_eq_false];intro y O;obtain⟨z,t,H⟩:=k y (Array.mem_toList_iff.mp O);simp [DictEntry.refKey,H]
  have A:¬ E.toList.any (·.refKey)=true:=by rw[a];exact rA
  rw[cK A];exact congrArg some e
def Mz.look(I:Mz h x dx C mA):∃ od,PySem.W.InstAt h x (PySem.W.instObj C dx) C (some od)/\∀ name,PySem.W.lookIn name od=some (mA name):=
 let ⟨od,q,H⟩:=Ef I.ns
 ⟨od,⟨I.obj,rfl,rfl,q⟩,H⟩
section
variable{prog:ag}{w:aI}{A:ai}{E:av->ae->Prop}{s:ae}{K:bV}{x dx C f:ar}{mA:Str->aE av}{name:Str}{v:av}
def get_map(X:K.In s.heap)(I:Mz s.heap x dx C mA)(g:PySem.W.plainGet K C name=true)(b:PySem.W.hasDictIn K C=true)
  (f:PySem.W.findIn K (.ref C) name=some none) (a:mA name=some v) (H:PySem.W.handedIn v=true) (h:Q v { s with toks:=s.toks+1 }) :
  wpAny (model prog w) A (getAttr (.ref x) name expr) Q E s:=by obtain⟨_,J,l⟩:=I.look;exact PySem.W.get_value X J (PySem.W.plainGet_of g).1 (PySem.W.findObj_own b f rfl (by rw[l,a])) H h
def WL(X:K.In s.heap)(I:Mz s.heap x dx C mA)(a:PySem.W.plainGet K C name=true)
  (b:PySem.W.findIn K (.ref C) name=some (some (.ref f))) (ht:PySem.W.isFn K (.ref f)=true) (H:mA name=none) (h:Q (.ref f,[.ref x]) s) :
  wpAny (model prog w) A (getMethod (.ref x) name pl) Q E s:=by obtain⟨od,J,l⟩:=I.look;exact PySem.W.method_fn X J (PySem.W.plainGet_of a).1 (PySem.W.plainGet_of a).2 b (beq_iff_eq.mp ht) (by show (PySem.W.lookIn name od).map (·.isSome)=some false;rw[l,H];rfl) h
def YH(X:K.In s.heap)(I:Mz s.heap x dx C mA)
  (i:PySem.W.findIn K (.ref C) "__setattr__" = some (some (.builtin "object.__setattr__"))) (p:PySem.W.plainOver K C=true) (ht:PySem.W.takerIn K C name=some none) (l:PySem.W.hasDictIn K C=true)
  (k:PySem.Within mA ns) (hsz:ns.length<=sizeLine)
  (h:∀ h',Mz h' x dx C (fun y=>if y=name then some v else mA y)->Heap.SameBut dx s.heap h'->Q () { s with heap:=h',toks:=s.toks+2 }) :
  wpAny (model prog w) A (setAttr (.ref x) name v) Q E s:=by obtain⟨_,J,_⟩:=I.look;refine PySem.W.set_plain X J i (PySem.W.osa_open (s:={ s with toks:=s.toks+1 }) (r:=none) X J p ht fun b=>?_);obtain⟨_,j,f⟩:=PySem.W.any_some l;have g:s.heap.get? x=some ⟨.ref C,some dx,.plain,#[]⟩:=I.obj;refine aS (aT (aS (aS (wpAny_loadPart g (aS (PySem.W.Looks.here (s:={ s with toks:=s.toks+1 }) (PySem.W.looks_clsIn X j) ?_))))));rw[f];refine aT (a:=some dx) (aS (aT (aS ?_)));refine wpAny_nsSet1 (s:={ s with toks:=s.toks+1 }) I.ns fun h' H c=>?_;obtain⟨_,_,_,e,D,d⟩:=H.count (PySem.Within.cons name v k);refine aS (wpAny_lookBehind e (by rw[D];exact pastItsLine_dict (br d (by rw[dG];lia))) ?_);exact aT (h _ ⟨(c.2 _ (bE I.ne)).trans I.obj,H,I.ne⟩ c)
def Vf(X:K.In s.heap)(m:PySem.W.makesIn K C=true)
  (i:PySem.W.findIn K (.ref C) "__init__" = some (some (.ref f))) (H:PySem.W.typeIn K (.ref f)=some (.type "function"))
  (h:codeAny (model prog w) (A.under (.builtin "type.__call__" ⟨.ref C::vs,kw⟩)) (.call (.ref f) ⟨.ref (s.heap.objs.size+1)::vs,kw⟩) (PySem.W.InitBack (s.heap.objs.size+1) R)
   { s with heap:=(s.heap.push PySem.W.emptyDict).push (PySem.W.instObj C s.heap.objs.size) }) :
  codeAny (model prog w) A (.call (.ref C) ⟨vs,kw⟩) R s:=by obtain⟨_,g,d,t,_⟩:=s;exact PySem.W.make_core (PySem.W.makes_of X m) (PySem.W.looks_findIn X i) (fun S=>PySem.W.bind_fn X S H) (.inl rfl) h
end
noncomputable def cP(f:Str)(v:V):aw (Str×V)->aw (Str×V)
 | []=>[(f,v)]
 | (g,x)::r=>if g=f then (g,v)::r else (g,x)::cP f v r
theorem aV(f g:Str)(v:V):∀ fs:aw (Str×V),(cP f v fs).lookup g=if g=f then some v else fs.lookup g
 | []=>by
  show List.lookup g [(f,v)]=_
  by_cases h:g=f
  .have c:(g==f)=true:=beq_iff_eq.mpr h;simp only[List.lookup,c,if_pos h]
  .have c:(g==f)=false:=dQ.mpr h;simp only[List.lookup,c,if_neg h]
 | (k,x)::r=>by
  have i:=aV f g v r;rw[show cP f v ((k,x)::r)=(if k=f then (k,v)::r else (k,x)::cP f v r) from rfl]
  by_cases H:k=f
  .rw[cS H]
   by_cases h:g=k
   .have c:(g==k)=true:=beq_iff_eq.mpr h;simp only[List.lookup,c,if_pos (h.trans H)]
   .have c:(g==k)=false:=dQ.mpr h;simp only[List.lookup,c,if_neg (fun e:g=f=>h (e.trans H.symm))]
  .rw[cK H]
   by_cases h:g=k
   .have c:(g==k)=true:=beq_iff_eq.mpr h;simp only[List.lookup,c,if_neg (fun e:g=f=>H (h.symm.trans e))]
   .have c:(g==k)=false:=dQ.mpr h;simp only[List.lookup,c];exact i
theorem vm(f:Str)(v:V):∀ fs:aw (Str×V),f∈(cP f v fs).map (·.1)/\∀ g,g∈fs.map (·.1)->g∈(cP f v fs).map (·.1)
 | []=>⟨by simp [cP],fun g h=>by simp at h⟩
 | (k,x)::r=>by
  obtain⟨i,I⟩:=vm f v r;rw[show cP f v ((k,x)::r)=(if k=f then (k,v)::r else (k,x)::cP f v r) from rfl]
  by_cases H:k=f
  .rw[cS H];subst H;exact⟨by simp,fun g h=>by simpa using h⟩
  .rw[cK H];refine⟨?_,fun g h=>?_⟩
   .rw[bt];exact Hr _ i
   .rw[bt]at h ⊢;rcases dD.mp h with e | e
    .exact dD.mpr (.inl e)
    .exact Hr _ (I g e)
theorem xF(f:Str)(v:V):∀ fs:aw (Str×V),(cP f v fs).length<=fs.length+1
 | []=>by simp [cP]
 | (k,x)::r=>by
  have i:=xF f v r;rw[show cP f v ((k,x)::r)=(if k=f then (k,v)::r else (k,x)::cP f v r) from rfl]
  by_cases h:k=f
  .rw[cS h,dG,dG];lia
  .rw[cK h,dG,dG];lia
theorem oH.some_of(r:oH (some v) o):∃ u,o=some u/\RelV v u:=by
 cases o with
 | none=>exact (show False from r).elim
 | some u=>exact⟨u,rfl,r⟩
theorem oH.none_of(r:oH none o):o=none:=by
 cases o with
 | none=>rfl
 | some u=>exact (show False from r).elim
theorem El(r:RelV v u):PySem.W.handedIn u=true:=by
 cases v with
 | non=>cases (show u=Value.none from r);rfl
 | bl b=>cases (show u=Value.bool b from r);rfl
 | int i=>obtain⟨t,e⟩:=(show ∃ t,u=Value.int i t from r);cases e;rfl
 | str x=>obtain⟨t,e⟩:=(show ∃ t,u=Value.str x t from r);cases e;rfl
 | Sv b=>obtain⟨t,e⟩:=(show ∃ t,u=Value.bytes b t from r);cases e;rfl
 | flt b=>obtain⟨t,e⟩:=(show ∃ t,u=Value.float b t from r);cases e;rfl
 | ref a=>cases (show u=Value.ref a from r);rfl
 | ty n=>cases (show u=Value.type n from r);rfl
section
variable{P:ag}{w:aI}{H H':Hp}{h h':Heap}{a C dx:ar}{fs fs':aw (Str×V)}
def yq(hok:lM P w H h)(e:H a=some (.ins C dx fs)):∃ m,Mz h a dx C m/\(∀ f,oH (fs.lookup f) (m f))/\PySem.Within m (fs.map (·.1))/\fs.length<=1000/\H dx=some (.own a):=by obtain⟨d,z,ne,O,m,n,r,q⟩:=(show bM P w H h a (.ins C dx fs) from hok a _ e);exact⟨m,⟨O,n,ne⟩,r,q,z,d⟩
end
structure vC(K:bV)(C:Addr):Prop where
 pg:PySem.W.plainGet K C Str.empty=true
 hd:PySem.W.hasDictIn K C=true
 po:PySem.W.plainOver K C=true
 sa:PySem.W.findIn K (.ref C) "__setattr__" = some (some (.builtin "object.__setattr__"))
def vC.get{K:bV}{C:ar}(c:vC K C)(f:Str):PySem.W.plainGet K C f=true:=c.pg
def cA(K:bV)(C:ar)(f:Str):Prop:=PySem.W.findIn K (.ref C) f=some none
def cA.taker{K:bV}{C:ar}{f:Str}(n:cA K C f):PySem.W.takerIn K C f=some none:=by unfold PySem.W.takerIn;rw[show PySem.W.findIn K (.ref C) f=some none from n];rfl
structure Con(K:bV)(C:Addr)(f:Str)(v:V)(u:Value):Prop where
 at_:PySem.W.findIn K (.ref C) f=some (some u)
 rel:RelV v u
 get:PySem.W.specialIn K u "__get__" = some none
 cp:PySem.W.copiedNames.contains f=false
structure Meth(K:bV)(C:Addr)(m:Str)(f:Addr):Prop where
 at_:PySem.W.findIn K (.ref C) m=some (some (.ref f))
 fn:PySem.W.isFn K (.ref f)=true
 kp:KI K f
section
variable{X:Cx}{pins:aw (ar×Obj)}{σ:St}{H:Hp}{s:ae}{a C dx:ar}{fs:aw (Str×V)}{f:Str}{v:V}{A:ai}{E:av->ae->Prop}
def Mg(I:Inv X pins σ H s)(e:H a=some (.ins C dx fs))(c:vC X.K C)(n:cA X.K C f)(l:fs.lookup f=some v)
  (h:∀ u s',Inv X pins σ H s'->RelV v u->Q u s'):wpAny (model X.prog X.w) A (getAttr (.ref a) f b) Q E s:=by obtain⟨m,O,r,_,_,_⟩:=yq I.hok e;obtain⟨u,d,R⟩:=oH.some_of (v:=v) (o:=m f) (by rw[<-l];exact r f);exact get_map I.mQ O (c.get f) c.hd n d (El R) (h u _ (I.tok _) R)
def rZ(I:Inv X pins σ H s)(e:H a=some (.ins C dx fs))(c:vC X.K C)(k:Meth X.K C m g)(l:fs.lookup m=none)
  (h:Q (.ref g,[.ref a]) s):wpAny (model X.prog X.w) A (getMethod (.ref a) m pl) Q E s:=by obtain⟨M,O,r,_,_,_⟩:=yq I.hok e;have j:M m=none:=oH.none_of (by rw[<-l];exact r m);exact WL I.mQ O (c.get m) k.at_ k.fn j h
def LC(I:Inv X pins σ H s)(e:H a=some (.ins C dx fs))(c:vC X.K C)(n:cA X.K C f)(t:fs.length<1000)(R:RelV y u)
  (h:∀ s',Inv X pins σ (upd H a (.ins C dx (cP f y fs))) s'->Q () s'):wpAny (model X.prog X.w) A (setAttr (.ref a) f u) Q E s:=by
 obtain⟨m,O,r,w,_,i⟩:=yq I.hok e
 have l:(fs.map (·.1)).length<=sizeLine:=by rw[bT,sizeLine_eq];lia
 refine YH I.mQ O c.sa c.po n.taker c.hd w l fun h' d U=>h _ ?_;have hd:∃ o,h'.get? dx=some o:=let ⟨o,_,_,j,_⟩:=d.ns;⟨o,j⟩;refine I.write (x:=a) (e:=dx) (by rw[e];exact e9) (.inr i) (fun b q p z=>(U.2 b p).trans z) hd ?_;refine⟨by rw[zR O.ne];exact i,?_,O.ne,d.obj,_,d.ns,fun g=>?_,fun g k=>?_⟩
 .have:=xF f y fs;lia
 .show oH ((cP f y fs).lookup g) (if g=f then some u else m g);rw[aV]
  by_cases q:g=f
  .rw[cS q,cS q];exact R
  .rw[cK q,cK q];exact r g
 .by_cases q:g=f
  .rw[q];exact (vm f y fs).1
  .refine (vm f y fs).2 g (w g fun z=>k ?_);show (if g=f then some u else m g)=none;rw[cK q];exact z
def Inv.made(I:Inv X pins σ H s):Inv X pins σ (upd (upd H s.heap.objs.size (.own (s.heap.objs.size+1))) (s.heap.objs.size+1) (.ins C s.heap.objs.size []))
  { s with heap:=(s.heap.push PySem.W.emptyDict).push (PySem.W.instObj C s.heap.objs.size) }:=by
 have E:(s.heap.push PySem.W.emptyDict).get? s.heap.objs.size=some PySem.W.emptyDict:=qy s.heap rfl
 have d:((s.heap.push PySem.W.emptyDict).push (PySem.W.instObj C s.heap.objs.size)).get? (s.heap.objs.size+1)=some (PySem.W.instObj C s.heap.objs.size):=by
  have:=qy (s.heap.push PySem.W.emptyDict) (o:=PySem.W.instObj C s.heap.objs.size) rfl
  rwa [eT]at this
 have c:(s.heap.push PySem.W.emptyDict).Ns s.heap.objs.size (fun _=>none):=⟨PySem.W.emptyDict,#[],_,E,rfl,(fun e g=>absurd g (by simp)),fun _=>rfl⟩;have j:=I.laid (a:=s.heap.objs.size) (o:=.own (s.heap.objs.size+1)) (h':=s.heap.push PySem.W.emptyDict) (t':=s.toks) (fun b u q=>fM _ q) (bD _) ⟨_,E⟩;refine j.laid (a:=s.heap.objs.size+1) (o:=.ins C s.heap.objs.size []) (t':=s.toks) (fun b u q=>fM _ q) (Nat.le_of_eq (eT _ _)) ?_;have ne:s.heap.objs.size≠s.heap.objs.size+1:=jQ (iF _);refine⟨by rw[zR ne,zC],bo _,ne,d,fun _=>none,(Heap.Ns1.of_empty c).at fun o q=>fM _ q,fun _=>e9,fun y O=>eu rfl O⟩
def Py(c:attributeBase e f env (eval e env)=eval e env)
  (h:wpAny (model prog w) A (eval e env) (fun o S=>wpAny (model prog w) A (getAttr o f true) Q E S) E s):wpAny (model prog w) A (eval (.Attribute e f pos) env) Q E s:=
 Attribute_any_ h (by rw[arm_eval_Attribute,c])
end
def qJS(K:bV)(t:TE)(f:Str):TE:=fun σ H Q=>t σ H fun x h => ∃ a C d fs v,x = .ref a/\h a=some (.ins C d fs)/\vC K C/\cA K C f/\fs.lookup f=some v/\Q v h
def qK3(K:bV)(T t:TE)(f:Str):TS:=fun D σ H=>t σ H fun y b=>T σ b fun x h => ∃ a C d fs,x = .ref a/\h a=some (.ins C d fs)/\vC K C/\cA K C f/\fs.length<1000 ∧
 D.nx σ (upd h a (.ins C d (cP f y fs)))
section
variable{X:Cx}{o e value:Expr}{f:Str}{pos pos' tpos:Pos}{ta tv:TE}
def gq(g:PE X e ta)(i:attributeBase e f X.env (eval e X.env)=eval e X.env):PE X (.Attribute e f pos) (qJS X.K ta f):=by intro p s σ H Q I h;refine Py i (bH (g p s σ H _ I h) fun u _ hz_=>?_);obtain⟨x,b,j,R,a,C,_,_,v,E,d,c,n,l,q⟩:=hz_;subst E;obtain rfl:u=Value.ref a:=R;exact Mg j d c n l fun _ _ A r=>⟨v,b,A,r,q⟩
def vP(e:PE X o ta)(v:PE X value tv)(d:swapsWith value (some (.Attribute o f pos')) pos.line X.env=pure false):PS X (.Assign [.Attribute o f pos'] value pos) (qK3 X.K ta tv f):=by intro p s σ H D I h;refine plainObj_wpAny_Assign_Attribute (bH (v p s σ H _ I h) fun u S ⟨y,b,j,R,q⟩=>bH (e p S σ b _ j q) fun O _ hz_=>?_) d;obtain⟨x,_,A,r,a,C,_,_,E,g,c,n,l,Q⟩:=hz_;subst E;obtain rfl:O=Value.ref a:=r;exact LC A g c n l R fun _ i=>⟨σ,_,i,Q⟩
end
section
variable{X:Cx}{pins:aw (ar×Obj)}{σ:St}{H:Hp}{s:ae}{A:ai}{E:av->ae->Prop}{Q:av->ae->Prop}{c:av}{b:Bool}
inductive wG(K:bV)(H:Hp):V->Value->Prop where
 | non:wG K H .non (.type "NoneType")
 | bl (x:Bool):wG K H (.bl x) (.type "bool")
 | int (i:Int):wG K H (.int i) (.type "int")
 | str (x:Str):wG K H (.str x) (.type "str")
 | flt (x:UInt64):wG K H (.flt x) (.type "float")
 | lst {a:Addr} {xs:List V} (e:H a=some (.lst xs)):wG K H (.ref a) (.type "list")
 | Mh {a:Addr} {o:Obj} {xs:List V} (e:H a=some (.Mh o (.lst xs))):wG K H (.ref a) (.type "list")
 | tup {a:Addr} {xs:List V} (e:H a=some (.tup xs)):wG K H (.ref a) (.type "tuple")
 | dK {a:Addr} {kvs:List (Key×V)} (e:H a=some (.dK kvs)):wG K H (.ref a) (.type "dict")
 | dT {a:Addr} {kvs:List (List Key×V)} (e:H a=some (.dT kvs)):wG K H (.ref a) (.type "dict")
 | ins {a C dx:Addr} {fs:List (Str×V)} (e:H a=some (.ins C dx fs)) (cl:vC K C) (ha:PySem.W.findIn K (.ref C) "__class__" = some (some (.builtin "object.__class__")))
   (hn:PySem.W.specialIn K (.builtin "object.__class__") "__get__" = some (some (.builtin "getset_descriptor.__get__"))) (htk:PySem.W.takesIn K (.builtin "object.__class__")=some true)
   (hm:PySem.W.mroIn K C (.type "object")=some true):wG K H (.ref a) (.ref C)
theorem RT(I:Inv X pins σ H s)(r:RelV x u)(ty:wG X.K H x t)(e:PySem.W.kitOne X.K t c=some b)(h:∀ T,Q (.bool b) { s with toks:=T }) :
  wpAny (model X.prog X.w) A (call (.builtin "isinstance") [u,c]) Q E s:=by
 cases ty with
 | non=>cases (show u=Value.none from r);exact cv PySem.W.kitx_none I.mQ e9 e (fun z=>nomatch z) h
 | bl y=>cases (show u=Value.bool y from r);exact cv PySem.W.kitx_bool I.mQ e9 e (fun z=>nomatch z) h
 | int i=>obtain⟨t,q⟩:=(show ∃ t,u=Value.int i t from r);cases q;exact cv PySem.W.kitx_int I.mQ e9 e (fun z=>nomatch z) h
 | str y=>obtain⟨t,q⟩:=(show ∃ t,u=Value.str y t from r);cases q;exact cv PySem.W.kitx_str I.mQ e9 e (fun z=>nomatch z) h
 | flt y=>obtain⟨t,q⟩:=(show ∃ t,u=Value.float y t from r);cases q;exact cv PySem.W.kitx_float I.mQ e9 e (fun z=>nomatch z) h
 | @lst a xs d=>
  cases (show u=Value.ref a from r)
  obtain⟨_,_,n,_,f⟩:=(show bM X.prog X.w H s.heap a (.lst xs) from I.hok a _ d);exact cv PySem.W.kitx_list I.mQ ⟨_,f,rfl⟩ e (fun z=>nomatch z) h
 | @Mh a B xs d=>
  cases (show u=Value.ref a from r)
  obtain⟨_,_,_,n,_,f⟩:=(show bM X.prog X.w H s.heap a (.Mh B (.lst xs)) from I.hok a _ d);exact cv PySem.W.kitx_list I.mQ ⟨_,f,rfl⟩ e (fun z=>nomatch z) h
 | @tup a xs d=>
  cases (show u=Value.ref a from r)
  obtain⟨_,_,_,p⟩:=(show bM X.prog X.w H s.heap a (.tup xs) from I.hok a _ d);obtain⟨o,f,g,_⟩:=p;exact cv PySem.W.kitx_tuple I.mQ ⟨o,f,g⟩ e (fun z=>nomatch z) h
 | @dK a k d=>
  cases (show u=Value.ref a from r)
  obtain⟨_,_,_,_,p⟩:=(show bM X.prog X.w H s.heap a (.dK k) from I.hok a _ d);obtain⟨o,m,ep,f,g,_⟩:=p;exact cv PySem.W.kitx_dict I.mQ ⟨o,f,g.1⟩ e (fun z=>nomatch z) h
 | @dT a k d=>
  cases (show u=Value.ref a from r)
  obtain⟨_,_,xs,_,o,m,ep,f,g,_⟩:=(show bM X.prog X.w H s.heap a (.dT k) from I.hok a _ d);exact cv PySem.W.kitx_dict I.mQ ⟨o,f,g.1⟩ e (fun z=>nomatch z) h
 | @ins a C F fs d l w v j D=>
  cases (show u=Value.ref a from r)
  obtain⟨_,O,_⟩:=yq I.hok d;obtain⟨_,J,_⟩:=O.look;exact cv (PySem.W.kitx_own (l.get _) l.hd w v j D) I.mQ J e (fun z=>nomatch z) h
end
structure fP(k:Nat)(A:Around):Prop where
 hd:A.handled=none
 dp:A.depth+3*k+5<recursionLimit
 un:A.units+16*k+200<cLine
def fP.mono(r:fP k A)(h:j<=k):fP j A:=⟨r.hd,by have:=r.dp;lia,by have:=r.un;lia⟩
def fP.deeper(r:fP (k+1) A)(e:Env):fP k (A.deeper e):=
 ⟨r.hd,by have:=r.dp;show A.depth+1+3*k+5<_;lia,by have:=r.un;show A.units+3+16*k+200<_;lia⟩
def MJ{A:ai}{C:ar}{us:aw av}{k:aw (Str×av)}:(A.under (.builtin "type.__call__" ⟨.ref C::us,k⟩)).depth=A.depth+1:=by first | rfl | simp [Around.under,Code.weight,Code.isCreation,Code.isGuard,Code.isCaller,Code.frames,Code.isFrame,guardIds]
def MF{A:ai}{C:ar}{us:aw av}{k:aw (Str×av)}:(A.under (.builtin "type.__call__" ⟨.ref C::us,k⟩)).units=A.units+1:=by first | rfl | simp [Around.under,Code.cUnits,Code.frames,Code.isFrame]
def fP.make(r:fP (k+1) A)(C:ar)(us:aw av)(w:aw (Str×av)):fP k (A.under (.builtin "type.__call__" ⟨.ref C::us,w⟩)):=
 ⟨r.hd,by have:=r.dp;rw[MJ];lia,by have:=r.un;rw[MF];lia⟩
def fP.depth(r:fP k A):A.depth<recursionLimit:=by have:=r.dp;lia
def fP.units(r:fP k A):A.units+64<cLine:=by have:=r.un;lia
def qDV:TA:=fun _ H Q=>Q [] H
def TQ(t:TE)(T:TA):TA:=fun σ H Q=>t σ H fun x a=>T σ a fun xs h=>Q (x::xs) h
section
variable{X:Cx}{e:Expr}{es:aw Expr}{te:TE}{t:TA}{pos:Pos}
def zD:PA X [] qDV:=fun _ _ _ _ H Q I h=>Calls.spliced_nil ⟨[],H,I,.nil,h⟩
def zA(f:PE X e te)(g:PA X es t)(d:starEach (e::es) X.env=(false,eval e X.env)::starEach es X.env:=by rfl):PA X (e::es) (TQ te t):=by intro pos p s σ H Q I h;rw[d];show wpAny _ _ (spliced ((false,eval e X.env)::backTo pos (starEach es X.env))) _ _ s;refine Calls.spliced_cons (bH (f p s σ H _ I h) fun u S ⟨x,a,j,r,i⟩=>?_);exact bH (g pos p S σ a _ j i) fun _ _ ⟨xs,b,A,z,c⟩=>⟨x::xs,b,A,.cons r z,c⟩
def qJL(t:TA):TE:=fun σ H Q=>t σ H fun xs h=>xs.length<=sizeLine/\∀ p,h p=none->Q (.ref p) (upd h p (.tup xs))
def qDZ(t:TA):TE:=fun σ H Q=>t σ H fun xs h=>xs.length<=sizeLine/\∀ p,h p=none->Q (.ref p) (upd h p (.lst xs))
def zX {x} (h:PA X es t):PE X (.Tuple es x pos) (qJL t):=by intro p s σ H Q I c;refine wpAny_Tuple_spliced (bH (h pos p s σ H _ I c) fun us S ⟨xs,a,j,r,z,q⟩=>⟨by rw[<-r.length];exact z,?_⟩);have f:a S.heap.objs.size=none:=j.hok.fresh (bD _);refine⟨.ref S.heap.objs.size,upd a S.heap.objs.size (.tup xs),j.laid (t':=S.toks) (fun b u e=>fM _ e) (bD _) ?_,rfl,q _ f⟩;exact⟨z,us,r,⟨_,qy _ rfl,rfl,_,rfl⟩⟩
def yL(h:PA X es t):PE X (.List es pos) (qDZ t):=by intro p s σ H Q I c;refine wpAny_List_spliced (bH (h pos p s σ H _ I c) fun us S ⟨xs,a,j,r,z,q⟩=>⟨by rw[<-r.length];exact z,?_⟩);have f:a S.heap.objs.size=none:=j.hok.fresh (bD _);refine⟨.ref S.heap.objs.size,upd a S.heap.objs.size (.lst xs),j.laid (t':=S.toks) (fun b u e=>fM _ e) (bD _) ?_,rfl,q _ f⟩;exact⟨z,us,0,r,qy _ rfl⟩
end
abbrev Sp:=aw V->Hp->VK->XK->Prop
abbrev KQ:=aw Env->Hp->ae->XK->av->ae->Prop
structure N7(P:Program)(w:World)(K:bV)(mg:Str->Option Value)(base:Heap)(A:Around)(outer:List Env)(s:Shared)(H:Hp):Prop where
 frames:A.frames=some outer
 mod:Mod K mg base
 bs:∀ b o,base.get? b=some o->s.heap.get? b=some o/\H b=none
 Xw:base.objs.size<=s.heap.objs.size
 uY:s.heap.FunFrames base outer
 ZS:∀ b∈frs outer,H b=none
 hok:lM P w H s.heap
 bare:AllBare s.gens
def CE(o:aw Env)(P:ag)(w:aI)(H:Hp)(s:ae)(Q:VK)(u:av)(s':ae):Prop:=
 ∃ v h,s'.os=s.os/\AllBare s'.gens/\Un (frs o) [] H h s.heap s'.heap/\lM P w h s'.heap/\RelV v u/\Q v h
def CR(CX:KQ)(o:aw Env)(P:ag)(w:aI)(H:Hp)(s:ae)(Q:VK)(E:XK)(r:Result)(s':ae):Prop:=
 match r with
 | .ok (.ret u)=>CE o P w H s Q u s'
 | .ok _=>False
 | .error e=>CX o H s E e s'
structure aL(P:Program)(w:World)(K:bV)(mg:Str->Option Value)(base:Heap)(CX:KQ)(k:Nat)(f:Addr)(fd:FuncData)(ps:List Str)(sp:Sp):Prop where
 len:∀ vs H Q E,sp vs H Q E->vs.length=ps.length
 run:∀(A:Around)(outer:List Env)(s:Shared)(H:Hp)(args:Args)(us:List Value)(vs:List V)(Q:VK)(E:XK),fP k A->N7 P w K mg base A outer s H->BindsTo s fd args (ps.zip us)->Vals vs us->sp vs H Q E →
  codeAny (model P w) A (.call (.ref f) args) (CR CX outer P w H s Q E) s
def aL.mono{P:ag}{w:aI}{K:bV}{mg:Str->aE av}{base:Heap}{CX:KQ}{j k:Nat}{f:ar}{d:af}{ps:aw Str}{sp:Sp}(F:aL P w K mg base CX j f d ps sp)(h:j<=k) :
  aL P w K mg base CX k f d ps sp:=⟨F.len,fun A o s H a us vs Q E g=>F.run A o s H a us vs Q E (g.mono h)⟩
def aL.imp{P:ag}{w:aI}{K:bV}{mg:Str->aE av}{base:Heap}{CX:KQ}{k:Nat}{f:ar}{d:af}{ps:aw Str}{sp S:Sp}(F:aL P w K mg base CX k f d ps sp)
  (h:∀ vs H Q E,S vs H Q E->sp vs H Q E):aL P w K mg base CX k f d ps S:=
 ⟨fun vs H Q E q=>F.len vs H Q E (h _ _ _ _ q),fun A o s H a us vs Q E r g c v b=>F.run A o s H a us vs Q E r g c v (h _ _ _ _ b)⟩
def N7.make{P:ag}{w:aI}{K:bV}{mg:Str->aE av}{base:Heap}{A:ai}{o:aw Env}{s:ae}{H:Hp}(e:N7 P w K mg base A o s H)(C:ar)(us:aw av)(k:aw (Str×av)) :
  N7 P w K mg base (A.under (.builtin "type.__call__" ⟨.ref C::us,k⟩)) o s H:=⟨by first | exact e.frames | (simpa [Around.under,Code.envs,Code.isFrame,pushEnvs] using e.frames),e.mod,e.bs,e.Xw,e.uY,e.ZS,e.hok,e.bare⟩
section
variable{X:Cx}{pins:aw (ar×Obj)}{σ:St}{H:Hp}{s s':ae}
def Inv.env0(I:Inv X pins σ H s):N7 X.prog X.w X.K X.mg X.base X.A X.stack s H:=
 ⟨I.ok.frames,I.ok.mod,I.bs,br I.ok.Xw I.sz,I.stack,I.xg,I.hok,I.bare⟩
def Inv.after(I:Inv X pins σ H s)(h:CE X.stack X.prog X.w H s Q u s'):EP X pins σ Q u s':=by obtain⟨v,a,os,B,un,hok,r,q⟩:=h;obtain⟨c,g,d,t,o⟩:=s';obtain rfl:o=s.os:=os;exact⟨v,a,I.call (h':=c) (g':=g) (d':=d) (t':=t) (ch:=[]) un hok B (fun b z=>absurd z (by simp)),r,q⟩
end
def qAE(sp:Sp)(q:aw V)(E:XK)(t:TA):TE:=fun σ H Q=>t σ H fun vs h=>sp (vs++q) h Q E
def qAB(C:ar)(m:Str)(sp:Sp)(q:aw V)(E:XK)(T:TE)(t:TA):TE:=fun σ H Q=>T σ H fun x h => ∃ a d fs,x = .ref a/\h a=some (.ins C d fs)/\fs.lookup m=none ∧
 t σ h fun vs b=>sp (x::(vs++q)) b Q E
def qDY(C:ar)(sp:Sp)(q:aw V)(E:XK)(t:TA):TE:=fun σ H Q=>t σ H fun vs h => ∀ x d,h x=none->h d=none->d≠x →
 sp (.ref x::(vs++q)) (upd (upd h d (.own x)) x (.ins C d [])) (fun v a=>v = .non/\Q (.ref x) a) E
def Binds(K:bV)(f:af)(ps:aw Str)(d:aw av):Prop:=
 ∀(s:ae)(us:aw av),K.In s.heap->(us++d).length=ps.length->BindsTo s f ⟨us,[]⟩ (ps.zip (us++d))
def Binds.all{K:bV}{d:af}{ps:aw Str}(h:∀ us:aw av,us.length=ps.length->bindArgs d ⟨us,[]⟩=pure (ps.zip us)):Binds K d ps []:=fun s us _ H=>by
 rw[oY]at H ⊢;exact .of_eq (h us H)
def Passes(CX:KQ)(X:Cx)(E:XK):Prop:=∀(p:aw (ar×Obj))(σ:St)(H:Hp)(s:ae)(e:av)(s':ae),Inv X p σ H s->CX X.stack H s E e s'->X.xe e s'
section
variable{X:Cx}{CX:KQ}{k:Nat}{f C:ar}{fd:af}{ps:aw Str}{sp:Sp}{qw:aw V}{ds:aw av}{E:XK}{x m:Str}{p pos apos:Pos}{e o:Expr}{es:aw Expr}{ta:TE}{t:TA}
theorem La(F:aL X.prog X.w X.K X.mg X.base CX k f fd ps sp)(g:fP k X.A)(c:Binds X.K fd ps ds)(hd:Vals qw ds)(x:Passes CX X E)
  (I:Inv X pins σ H s) (r:Vals vs us) (h:sp (vs++qw) H Q E):wpAny (model X.prog X.w) X.A (call (.ref f) us) (EP X pins σ Q) X.xe s:=by
 have z:Vals (vs++qw) (us++ds):=r.append hd
 have a:(us++ds).length=ps.length:=by rw[<-z.length];exact F.len _ _ _ _ h
 refine wpAny_call (codeAny_mono (F.run X.A X.stack s H ⟨us,[]⟩ (us++ds) (vs++qw) Q E g I.env0 (c s us I.mQ a) z h) fun r s' q=>?_)
 cases r with
 | error e=>exact x pins σ H s e s' I q
 | ok l=>
  cases l with
  | ret u=>exact I.after q
  | next=>exact c9 q
  | brk=>exact c9 q
  | cont=>exact c9 q
def zK(F:aL X.prog X.w X.K X.mg X.base CX k f fd ps sp)(i:fP k X.A)(c:Gl X x)(n:X.mg x=some (.ref f))(d:PySem.W.keepIn X.K (.ref f)=true)(o:Binds X.K fd ps ds)(hd:Vals qw ds)(a:Passes CX X E)
  (m:PA X (e::es) t) (b:(x==("__debug__" : Str))=false:=by decide) (g:starEach (e::es) X.env=(false,eval e X.env)::starEach es X.env:=by rfl) (l:(backTo pos (starEach es X.env)).any (·.1)=false:=by rfl) :
  PE X (.Call (.Name x p) (e::es) [] pos) (qAE sp qw E t):=by intro P s σ H Q I h;refine wpAny_Call_Name_kw (nW I c n ?_ b);refine PySem.W.callWith_K (h₀:=X.base) I.ok.mod.kin d (bH (m pos P s σ H _ I h) fun _ _ ⟨_,_,j,r,q⟩=>⟨j.mQ,?_⟩) g l;exact La F i o hd a j r q
def Od(n:PE X o ta)(c:vC X.K C)(g:Meth X.K C m f)(F:aL X.prog X.w X.K X.mg X.base CX k f fd ps sp)(B:fP k X.A)(G:Binds X.K fd ps ds)(hd:Vals qw ds)(i:Passes CX X E)(D:PA X (e::es) t)
  (b:starEach (e::es) X.env=(false,eval e X.env)::starEach es X.env:=by rfl) (d:(backTo pos (starEach es X.env)).any (·.1)=false:=by rfl)
  (ht:eval (.Call (.Attribute o m apos) (e::es) [] pos) X.env=(do
   let ov ← eval o X.env
   standAt apos.atName
   let (f,first) ← holding [ov] (getMethod ov m pl)
   callWith pos f first (backTo pos (starEach (e::es) X.env)) (backToKw pos (keywordEach [] X.env))):=by rfl) :
  PE X (.Call (.Attribute o m apos) (e::es) [] pos) (qAB C m sp qw E ta t):=by intro p s σ H Q I h;refine PySem.W.methodCall_KW (pl:=pl) (bH (n p s σ H _ I h) fun u S hz_=>?_) ht;obtain⟨x,v,j,R,a,_,_,w,y,l,q⟩:=hz_;subst w;obtain rfl:u=Value.ref a:=R;refine rZ j y c g l ?_;refine PySem.W.callWith_K (first:=[.ref a]) (h₀:=X.base) I.ok.mod.kin g.kp (bH (D pos p S σ v _ j q) fun us _ ⟨vs,_,A,r,z⟩=>⟨A.mQ,?_⟩) b d;exact La (us:=.ref a::us) (vs:=.ref a::vs) F B G hd i A (.cons rfl r) z
def jg(g:PE X o ta)(c:vC X.K C)(d:Meth X.K C m f)(F:aL X.prog X.w X.K X.mg X.base CX k f fd ps sp)(r:fP k X.A)(i:Binds X.K fd ps ds)(hd:Vals qw ds)(b:Passes CX X E)
  (ht:eval (.Call (.Attribute o m apos) [] [] pos) X.env=(do
   let ov ← eval o X.env
   standAt apos.atName
   let (f,first) ← holding [ov] (getMethod ov m pl)
   callWith pos f first (backTo pos (starEach [] X.env)) (backToKw pos (keywordEach [] X.env))):=by rfl) :
  PE X (.Call (.Attribute o m apos) [] [] pos) (qAB C m sp qw E ta qDV):=by intro p s σ H Q I h;refine PySem.W.methodCall_KW (pl:=pl) (bH (g p s σ H _ I h) fun u _ hz_=>?_) ht;obtain⟨x,_,j,R,a,_,_,e,n,l,q⟩:=hz_;subst e;obtain rfl:u=Value.ref a:=R;refine rZ j n c d l ?_;exact PySem.W.callWith_K0 (first:=[.ref a]) j.mQ d.kp (La (us:=[.ref a]) (vs:=[.ref a]) F r i hd b j (.cons rfl .nil) q)
structure Mk(K:bV)(C f:Addr):Prop where
 makes:PySem.W.makesIn K C=true
 init:PySem.W.findIn K (.ref C) "__init__" = some (some (.ref f))
 fn:PySem.W.isFn K (.ref f)=true
 kp:KI K C
theorem U7(M:Mk X.K C f)(F:aL X.prog X.w X.K X.mg X.base CX k f fd ps sp)(j:fP (k+1) X.A)(n:Binds X.K fd ps ds)(hd:Vals qw ds)
  (g:Passes CX X E) (I:Inv X pins σ H s) (r:Vals vs us)
  (h:∀ x d,H x=none->H d=none->d≠x->sp (.ref x::(vs++qw)) (upd (upd H d (.own x)) x (.ins C d [])) (fun v m=>v = .non/\Q (.ref x) m) E) :
  wpAny (model X.prog X.w) X.A (call (.ref C) us) (EP X pins σ Q) X.xe s:=by
 have q:=h (s.heap.objs.size+1) s.heap.objs.size (I.hok.fresh (ip _)) (I.hok.fresh (bD _)) (jQ (iF _));have A:=Inv.made (C:=C) I;have z:Vals (V.ref (s.heap.objs.size+1)::(vs++qw)) (Value.ref (s.heap.objs.size+1)::(us++ds)):=.cons rfl (r.append hd)
 have c:(Value.ref (s.heap.objs.size+1)::us++ds).length=ps.length:=by
  have e:=z.length;rw[F.len _ _ _ _ q]at e;exact e.symm
 refine wpAny_call (Vf (f:=f) I.mQ M.makes M.init (beq_iff_eq.mp M.fn) (codeAny_mono (F.run _ X.stack _ _ ⟨Value.ref (s.heap.objs.size+1)::us,[]⟩ (Value.ref (s.heap.objs.size+1)::(us++ds)) _ _ E (j.make C us [])
  (A.env0.make C us []) (n _ (Value.ref (s.heap.objs.size+1)::us) A.mQ c) z q) fun r s' a=>?_))
 cases r with
 | error e=>exact g pins σ _ _ e s' A a
 | ok l=>
  cases l with
  | ret u=>
   obtain⟨v,i,o,R,p,b⟩:=A.after a;subst p;exact⟨R,⟨V.ref (s.heap.objs.size+1),i,o,rfl,b⟩⟩
  | next=>exact c9 a
  | brk=>exact c9 a
  | cont=>exact c9 a
def ym(M:Mk X.K C f)(F:aL X.prog X.w X.K X.mg X.base CX k f fd ps sp)(d:fP (k+1) X.A)(c:Gl X x)(m:X.mg x=some (.ref C))(n:Binds X.K fd ps ds)(hd:Vals qw ds)(a:Passes CX X E)
  (i:PA X (e::es) t) (b:(x==("__debug__" : Str))=false:=by decide) (g:starEach (e::es) X.env=(false,eval e X.env)::starEach es X.env:=by rfl) (l:(backTo pos (starEach es X.env)).any (·.1)=false:=by rfl) :
  PE X (.Call (.Name x p) (e::es) [] pos) (qDY C sp qw E t):=by intro P s σ H Q I h;refine wpAny_Call_Name_kw (nW I c m ?_ b);refine PySem.W.callWith_K (h₀:=X.base) I.ok.mod.kin M.kp (bH (i pos P s σ H _ I h) fun _ _ ⟨_,_,j,r,q⟩=>⟨j.mQ,?_⟩) g l;exact U7 M F d n hd a j r q
end
section
variable{X:Cx}{CX:KQ}{k:Nat}{f C:ar}{fd:af}{ps ks:aw Str}{sp:Sp}{E:XK}{x m:Str}{p pos apos kpos:Pos}{e o:Expr}{es:aw Expr}{kws:aw Keyword}{te ta:TE}{t tk:TA}{nm:aE Str}
structure KBinds(K:bV)(fd:FuncData)(ps ks:List Str)(g:List Value->List Value->List Value)(gV:List V->List V->List V):Prop where
 to:∀(s:Shared)(us ws:List Value),K.In s.heap->(g us ws).length=ps.length->BindsTo s fd ⟨us,ks.zip ws⟩ (ps.zip (g us ws))
 rel:∀ {vs:List V} {us:List Value} {zs:List V} {ws:List Value},Vals vs us->Vals zs ws->Vals (gV vs zs) (g us ws)
variable{g:aw av->aw av->aw av}{gV:aw V->aw V->aw V}
end
structure aF(N P:List Str)(sc:Scope):Prop where
 kind:sc.kind = .function
 co:sc.isCoroutine=false
 gen:sc.isGenerator=false
 nd:N.Nodup
 pre:N.take P.length=P
 par:∀ x∈P,sc.names.lookup x=some .local∨sc.names.lookup x=some .cell
 M7:∀ y∈sc.names,y.2≠.free
theorem Es{kindOf:Str->aE NameKind}{x:Str}:∀ {binds:aw (Str×av)} {m:Str->aE av},(∀ v,(x,v)∉binds)->bindL kindOf binds m x=m x
 | [],_,_=>rfl
 | (n,v)::r,m,h=>by
  unfold bindL;rw[Es fun w H=>h w (Hr _ H)]
  split
  .have:x≠n:=by rintro rfl;exact h v FZ
   simp [this]
  .rfl
theorem Eu{kindOf:Str->aE NameKind}{x:Str}:∀ {binds:aw (Str×av)} {m:Str->aE av},(∀ v,(x,v)∉binds)->bindC kindOf binds m x=m x
 | [],_,_=>rfl
 | (n,v)::r,m,h=>by
  unfold bindC;rw[Eu fun w H=>h w (Hr _ H)]
  split
  .rfl
  .have:x≠n:=by rintro rfl;exact h v FZ
   simp [this]
theorem Et{kindOf:Str->aE NameKind}{x:Str}{v:av}:∀ {P:aw Str} {vs:aw av} {i:Nat} {m:Str->aE av},P.Nodup->P[i]? = some x->vs[i]? = some v->kindOf x=some .local →
  bindL kindOf (P.zip vs) m x=some v
 | [],_,_,_,_,h,_,_=>by simp at h
 | _::_,[],_,_,_,_,h,_=>by simp at h
 | p::P,w::vs,0,m,n,f,q,k=>by
  simp at f q;subst f;subst q;show bindL kindOf ((p,w)::P.zip vs) m p=_;unfold bindL;rw[Es fun v H=>(hV.mp n).1 (hZ H).1,cS k];simp
 | p::P,w::vs,i+1,m,n,f,q,k=>by
  show bindL kindOf ((p,w)::P.zip vs) m x=_;unfold bindL;exact Et (i:=i) (List.nodup_cons.mp n).2 (by simpa using f) (by simpa using q) k
theorem Ew{kindOf:Str->aE NameKind}{x:Str}{v:av}:∀ {P:aw Str} {vs:aw av} {i:Nat} {m:Str->aE av},P.Nodup->P[i]? = some x->vs[i]? = some v->kindOf x≠some .local →
  bindC kindOf (P.zip vs) m x=some v
 | [],_,_,_,_,h,_,_=>by simp at h
 | _::_,[],_,_,_,_,h,_=>by simp at h
 | p::P,w::vs,0,m,n,f,q,k=>by
  simp at f q;subst f;subst q;show bindC kindOf ((p,w)::P.zip vs) m p=_;unfold bindC;rw[Eu fun v H=>(hV.mp n).1 (hZ H).1,cK k];simp
 | p::P,w::vs,i+1,m,n,f,q,k=>by
  show bindC kindOf ((p,w)::P.zip vs) m x=_;unfold bindC;exact Ew (i:=i) (List.nodup_cons.mp n).2 (by simpa using f) (by simpa using q) k
def start(N:aw Str)(vs:aw V):St:=vs.map some++List.replicate (N.length-vs.length) none
noncomputable def wF(CX:KQ)(P:ag)(w:aI)(K:bV)(mg:Str->aE av)(base:Heap)(N:aw Str)(q:Str)(S:Scope)(f:ar)(c:av)(A:ai)(outer:aw Env)(s:ae)(H:Hp)(E:XK):Cx where
 prog:=P
 w:=w
 K:=K
 mg:=mg
 base:=base
 A:=A.deeper (envOfC q S s.heap.objs.size f c)
 N:=N
 s₀:=s
 H₀:=H
 env:=envOfC q S s.heap.objs.size f c
 outer:=outer
 stack:=envOfC q S s.heap.objs.size f c::outer
 ex:=[]
 calm:=true
 fn:=fun _=>true
 pn:=[]
 xe:=fun e s'=>wpAny (model P w) (A.deeper (envOfC q S s.heap.objs.size f c)) (leaving (envOfC q S s.heap.objs.size f c) e) (fun _ a=>CX outer H s E e a) (fun b a=>CX outer H s E b a) s'
def Jv{S:Scope}{n:Nat}{x:Str}(h:S.names.lookup x=some .cell):∃ c,(cellsFrom n S.names []).lookup x=some c:=by have q:=PySem.W.cellsFrom_some S.names n [] (.inl h);exact jv.mp q
theorem RV{CX:KQ}{P:ag}{w:aI}{K:bV}{mg:Str->aE av}{base:Heap}{N ps:aw Str}{Q:Str}{d:Scope}{f:ar}{D:av}{A:ai}{o:aw Env}{s I:ae}{H:Hp}{E:XK}{us:aw av}{vs:aw V}
  (S:aF N ps d) (hd:A.handled=none) (j:N7 P w K mg base A o s H) (M:vs.length=ps.length) (r:Vals vs us)
  (x:InCallC s s.heap.objs.size (bindL (envOfC Q d s.heap.objs.size f D).kindOf (ps.zip us) fun _=>none) (cellsFrom (s.heap.objs.size+1) d.names []) (bindC (envOfC Q d s.heap.objs.size f D).kindOf (ps.zip us) fun _=>none) I) :
  Inv (wF CX P w K mg base N Q d f D A o s H E) [] (start N vs) H I:=by
 have L:ps.length<=N.length:=by have:=congrArg List.length S.pre;rw[iQ]at this;lia
 obtain⟨B,_,rfl,G⟩:=x.done;have l:∀ b:ar,b∉(wF CX P w K mg base N Q d f D A o s H E).ex:=fun b z=>absurd (show b∈([]:aw ar) from z) (by simp)
 refine⟨⟨j.mod,S.kind,rfl,rfl,bD _,fun y z c B g=>?_,fun y O=>?_,fun y c _ h=>?_,fun _=>hd,Around.frames_deeper j.frames,.inr ⟨rfl,rfl⟩,fun b z=>eu z (l b),j.bs,j.Xw,fun b _ _=>l b,fun b z=>eu z (l b),j.uY,j.ZS⟩,
  rfl,j.bare,Un.kept G,⟨_,x.toInCall.ns,fun i y v B g _=>?_⟩,fun y c h=>⟨_,x.cell y c h⟩,j.hok.fresh (Nat.le_refl _),fun y c h=>?_,fun p t=>absurd (show p∈([]:aw (ar×Obj)) from t) (by simp),j.hok.kept G,?_⟩
 .exact name_of_addr x.apart (cy B) (cy g)
 .have O:d.names.lookup y=some .cell∨d.names.lookup y=some .free:=O;rcases O with O | O
  .exact Jv O
  .exact eu rfl (S.M7 _ (cy O))
 .exact ij (x.above y c (cy h))
 .have C:i<vs.length:=by
   unfold start at g
   by_cases C:i<vs.length
   .exact C
   .rw[List.getElem?_append_right (by simpa using C)]at g;rw[List.getElem?_replicate]at g
    split at g <;> cases g
  have J:vs[i]? = some v:=by
   unfold start at g;rw[List.getElem?_append_left (by simpa using C),List.getElem?_map]at g
   cases e:vs[i]? with
   | none=>rw[e]at g;cases g
   | some a=>rw[e]at g;cases g;rfl
  obtain⟨u,F,R⟩:=r.get J
  have t:ps[i]? = some y:=by
   rw[<-S.pre,List.getElem?_take_of_lt (by lia)];exact B
  have m:ps.Nodup:=by rw[<-S.pre];exact S.nd.sublist (List.take_sublist _ _)
  refine⟨u,R,?_⟩;rcases S.par y (SX t) with k | k
  .exact .inl ⟨k,Et m t F k⟩
  .obtain⟨c,e⟩:=Jv (n:=s.heap.objs.size+1) k;refine .inr ⟨.inl k,c,e,?_⟩;have q:=x.cell y c e;rw[Ew m t F (by show d.names.lookup y≠_;rw[k];decide)]at q;exact q
 .exact j.hok.fresh (ij (x.above y c (cy h)))
 .unfold start;show _=N.length;rw[j8,bT,dA];lia
theorem qAT{CX:KQ}{P:ag}{w:aI}{K:bV}{mg:Str->aE av}{base:Heap}{k:Nat}{f:ar}{name l:Str}{p:Arguments}{B:aw Stmt}{a:Scope}{T kV D W c Z oc:av}{Y od:aE ar}
  {G:Array (aE av)} {N ps:aw Str} {sp:Sp} (lk:K.lookup f=some ⟨oc,od,.func (PySem.W.fnOf name l p B a T kV D W Y c Z),G⟩) (C:PySem.W.codeIn K c l=true) (S:aF N ps a)
  (len:∀ vs H Q E,sp vs H Q E->vs.length=ps.length)
  (i:∀(A:ai)(O:aw Env)(s:ae)(H:Hp)(vs:aw V)(Q:VK)(E:XK),fP k (A.deeper (envOfC l a s.heap.objs.size f c))->sp vs H Q E →
   ∃ t,Cw (wF CX P w K mg base N l a f c A O s H E) B t/\t { nx:=fun _ h=>Q .non h,rt:=Q } (start N vs) H) :
  aL P w K mg base CX (k+1) f (PySem.W.fnOf name l p B a T kV D W Y c Z) ps sp:=by
 refine⟨len,fun A O s H _ us vs Q E M z hb r m=>?_⟩;have hl:=len _ _ _ _ m;have X:K.In s.heap:=z.mod.kin.keeps fun b o e=>(z.bs b o e).1;have L:s.heap.NoLimit:=z.mod.nolimit.keeps fun b o e=>(z.bs b o e).1
 have g:∀ y∈ps.zip us,a.names.lookup y.1=some .local∨(a.names.lookup y.1=some .cell/\((cellsFrom (s.heap.objs.size+1) a.names []).lookup y.1).isSome=true):=fun ⟨n,v⟩ hy=>by
  rcases S.par n (hZ hy).1 with q | q
  .exact .inl q
  .exact .inr ⟨q,PySem.W.cellsFrom_some _ _ _ (.inl q)⟩
 refine codeAny_call_function M.depth (X _ _ lk) rfl S.co S.gen rfl (PySem.W.codeRec_of X C) (hb _ _ _ _ ?_);refine wpAny_newFunctionEnv_cells S.kind g fun _ he U x=>?_;subst he;refine⟨L.keeps x.toInCall.keep,codeAny_func ?_⟩;obtain⟨t,ht,hq⟩:=i A O s H vs Q E (M.deeper _) m;have I:Inv (wF CX P w K mg base N l a f c A O s H E) [] (start N vs) H U:=RV S M.hd z hl r x;refine c8 (ht [] U (start N vs) H _ I hq) (fun fl s' j=>?_) fun e s' j=>j
 have F:∀ {d:St} {h:Hp} {v:V} {u:av},Inv (wF CX P w K mg base N l a f c A O s H E) [] d h s'->RelV v u->Q v h->CE O P w H s Q u s':=
  fun {d h v u} J R q=>⟨v,h,J.os,J.bare,J.base,J.hok,R,q⟩
 cases fl with
 | ret u=>
  obtain⟨v,d,h,J,R,q⟩:=j;exact F J R q
 | next=>
  obtain⟨d,h,J,q⟩:=j;exact F (v:=V.non) (u:=Value.none) J rfl q
 | brk=>
  obtain⟨_,_,_,q⟩:=j;exact c9 q
 | cont=>
  obtain⟨_,_,_,q⟩:=j;exact c9 q
section
variable{X:Cx}{x:Str}{p pos:Pos}{e:Expr}{es:aw Expr}{t:TA}{id T:String}{r:aw V->Hp->VK->Prop}
def tCB(r:aw V->Hp->VK->Prop)(t:TA):TE:=fun σ H Q=>t σ H fun vs h=>r vs h Q
def zT(d:ir X (.builtin id) r)(a:Gl X x)(m:X.mg x=none)(v:bootBuiltins x=some (.builtin id))(f:PA X (e::es) t)(j:x ≠ "__name__" := by decide)(b:(x==("__debug__" : Str))=false:=by decide)
  (g:starEach (e::es) X.env=(false,eval e X.env)::starEach es X.env:=by rfl) (l:(backTo pos (starEach es X.env)).any (·.1)=false:=by rfl):PE X (.Call (.Name x p) (e::es) [] pos) (tCB r t):=by intro P s σ H Q I h;refine wpAny_Call_Name_kw (jm I a m v ?_ j b);exact ki (bH (f pos P s σ H _ I h) fun us S ⟨vs,c,k,R,i⟩=>d P S σ c vs us Q k R i) g l
def yB(d:ir X (.type T) r)(a:Gl X x)(m:X.mg x=none)(v:bootBuiltins x=some (.type T))(f:PA X (e::es) t)(j:x ≠ "__name__" := by decide)(b:(x==("__debug__" : Str))=false:=by decide)
  (g:starEach (e::es) X.env=(false,eval e X.env)::starEach es X.env:=by rfl) (l:(backTo pos (starEach es X.env)).any (·.1)=false:=by rfl):PE X (.Call (.Name x p) (e::es) [] pos) (tCB r t):=by intro P s σ H Q I h;refine wpAny_Call_Name_kw (jm I a m v ?_ j b);exact kn (bH (f pos P s σ H _ I h) fun us S ⟨vs,c,k,R,i⟩=>d P S σ c vs us Q k R i) g l
end
end L2
namespace HT
open PySem PyProof.Rows
section
open PySem.SeqAt
open PySem.AutoSeq1 (wpAny_loadPart')
open PySem.MeetsSeq PySem.MeetsSeq2 PySem.MeetsSeq3
end
section
variable{prog:ag}{w:aI}{A:ai}{E:av->ae->Prop}{s:ae}
def Zn(ht:IsTup s.heap t vs.toArray)(j:IsTup s.heap b ws.toArray)(v:vs≠[])
  (g:ws=[]->Q (.ref t) s) (i:ws≠[]->Q (.ref s.heap.objs.size) { s with heap:=s.heap.push { cls:=.type "tuple",data:=.seq (vs++ws).toArray } })
  (hsz:vs.length+ws.length<=sizeLine):wpAny (model prog w) A (binaryOp .Add (.ref t) (.ref b)) Q E s:=by
 obtain⟨⟨cls,D,data,l⟩,q,f,n,hd⟩:=id ht;obtain⟨⟨_,d,_,S⟩,h,H,N,a⟩:=id j;simp only at f hd H a;subst f hd H a
 have e:vs.toArray++ws.toArray=(vs++ws).toArray:=by simp
 by_cases c:ws=[]
 .exact concat_meets ⟨_,q,rfl⟩ ⟨_,h,rfl⟩ noFill_tuple_add seq_tuple_add kB ku (kr _ _)
   (tuple_addW1 t b vs.toArray ws.toArray n N D d l S (by simpa using v) (by simp [c])) ⟨q,h,g c⟩
 .refine concat_meets ⟨_,q,rfl⟩ ⟨_,h,rfl⟩ noFill_tuple_add seq_tuple_add kB ku (kr _ _)
   (tuple_addW2 t b vs.toArray ws.toArray n N D d l S (by simpa using v) (by simpa using c) (by rw[List.size_toArray,List.size_toArray];exact hsz)) ⟨q,h,?_⟩
  rw[e];exact i c
def gj(n d:Nat):aE Int->Nat
 | none=>d
 | some v=>if v<0 then (v+(n:Int)).toNat else min v.toNat n
def tY(n d:Nat):gj n d none=d:=rfl
def iJ(n d k:Nat):gj n d (some (k:Int))=min k n:=by show (if (k:Int)<0 then ((k:Int)+(n:Int)).toNat else min (k:Int).toNat n)=min k n;rw[cK (by lia),T3]
theorem qBK(n d:Nat)(hd:d<=n)(o:aE Int):gj n d o<=n:=by
 cases o with
 | none=>exact hd
 | some v=>
  show (if v<0 then (v+(n:Int)).toNat else min v.toNat n)<=n
  by_cases H:v<0
  .rw[cS H];lia
  .rw[cK H];exact Nat.min_le_right _ _
def Pk(v:Int)(n d:Nat):(if v<0 then max (v+(n:Int)) 0 else min v (n:Int))=((gj n d (some v):Nat):Int):=by
 show (if v<0 then max (v+(n:Int)) 0 else min v (n:Int))=(((if v<0 then (v+(n:Int)).toNat else min v.toNat n):Nat):Int)
 by_cases H:v<0
 .simp only[if_pos H];lia
 .simp only[if_neg H];lia
theorem My(lo i:aE Int)(n:Nat):Builtin.Slice.sliceAdjust lo i 1 (n:Int)=(((gj n 0 lo:Nat):Int),((gj n n i:Nat):Int)):=by
 have f:¬ ((1:Int)<0):=by lia
 unfold Builtin.Slice.sliceAdjust;simp only[f,if_false];refine Prod.ext ?_ ?_
 .cases lo with
  | none=>rfl
  | some v=>exact Pk v n 0
 .cases i with
  | none=>rfl
  | some v=>exact Pk v n n
def Lh(i j:Nat):Builtin.Slice.slicePlaces (i:Int) (j:Int) 1=j-i:=by
 unfold Builtin.Slice.slicePlaces
 have f:(1:Int)>0:=by lia
 simp only[f,if_true,Int.ediv_one]
 split <;> lia
theorem Ac(p:IsPart v o)(h:Q o s):wpAny (model prog w) A (Builtin.Slice.slicePartIndex v) Q E s:=by
 cases p with
 | none=>exact slicePart_none h
 | int i t=>exact slicePart_int h
def vK{S:ar}{v u:av}{lo i:aE Int}{n:Nat}{Q:Int×Int×Nat->ae->Prop}(d:s.heap.IsSliceOf S v u .none)(pl:IsPart v lo)(p:IsPart u i)
  (h:Q (((gj n 0 lo:Nat):Int),1,gj n n i-gj n 0 lo) s):wpAny (model prog w) A (Builtin.Slice.sliceApplied (.ref S) (pure (n:Int))) Q E s:=by obtain⟨_,H,_,a⟩:=id d;unfold Builtin.Slice.sliceApplied Builtin.Slice.sliceFields;refine aS (aS (wpAny_field H a (x:=v) rfl (aS (wpAny_field H a (x:=u) rfl (aS (wpAny_field H a (x:=.none) rfl (aT ?_)))))));refine aS (slicePart_none ?_);show wpAny _ _ (if ((1:Int)==0)=true then _ else _) _ _ s;rw[cK (by decide)];refine aS (Ac pl (aS (Ac p (aS (aT ?_)))));show wpAny _ _ (match Builtin.Slice.sliceAdjust lo i 1 (n:Int) with | (lo,i)=>pure (lo,(1:Int),Builtin.Slice.slicePlaces lo i 1)) _ _ s;rw[My lo i n];show wpAny _ _ (pure (((gj n 0 lo:Nat):Int),(1:Int),Builtin.Slice.slicePlaces ((gj n 0 lo:Nat):Int) ((gj n n i:Nat):Int) 1)) _ _ s;rw[Lh];exact aT h
def Uc(xs:Array av)(i k:Nat):((List.range k).filterMap fun (m:Nat)=>xs[((i:Int)+(m:Int)*1).toNat]?).toArray=((xs.toList.drop i).take k).toArray:=by
 have e:(fun (m:Nat)=>xs[((i:Int)+(m:Int)*1).toNat]?)=fun m=>xs[i+m]?:=by
  funext m
  have:((i:Int)+(m:Int)*1).toNat=i+m:=by lia
  rw[this]
 rw[e];have:=pick_run xs i k;rw[List.filterMap_map]at this;have a:((fun x=>xs[x]?) ∘ fun x=>i+x)=fun m=>xs[i+m]?:=rfl;rw[a]at this;rw[this]
theorem uX{t S:ar}{items:Array av}{v u:av}{lo i:aE Int}{Q:av->ae->Prop}(ht:IsTup s.heap t items)(d:s.heap.IsSliceOf S v u .none)(pl:IsPart v lo)(p:IsPart u i)
  (c:¬ (gj items.size 0 lo=0/\gj items.size items.size i=items.size))
  (h:Q (.ref s.heap.objs.size) { s with heap:=s.heap.push { cls:=.type "tuple",data:=.seq ((items.toList.drop (gj items.size 0 lo)).take (gj items.size items.size i-gj items.size 0 lo)).toArray } })
  (hsz:items.size<=sizeLine):wpAny (model prog w) A (getItem (.ref t) (.ref S)) Q E s:=by
 have O:sizeOk (.seq ((items.toList.drop (gj items.size 0 lo)).take (gj items.size items.size i-gj items.size 0 lo)).toArray):=by
  show ((items.toList.drop (gj items.size 0 lo)).take (gj items.size items.size i-gj items.size 0 lo)).toArray.size<=sizeLine;rw[CV,iQ,fR,e7];lia
 have L:gj items.size items.size i<=items.size:=qBK _ _ (bD _) i;obtain⟨os,H,a,_⟩:=id d;have b:s.TypeIs (.ref S) "slice" := ⟨os,H,a⟩;unfold getItem
 try with_reducible refine cq ?_
 first | refine aS (aT ?_) | skip
 refine aS (wpAny_sequenceKey ht.typeIs (by decide) ?_)
 refine aS (wpAny_callSpecial?_slot (name:=Str.ofString "__getitem__") ht.typeIs kq
  (wpAny_call_entry kq ht.typeIs entry_tuple_getitem ?_ (args_tuple_getitem _ _)))
 show wpAny _ _ (Builtin.Tuple.tupleItemsOf (.ref t) >>= _) _ _ s;refine aS (tupleItemsOf_ ht ?_);refine aS (wpAny_typeOf b ?_);rw[cS (by decide)];refine aS (vK d pl p ?_)
 have o:¬ ((((gj items.size 0 lo:Nat):Int)==0&&(1:Int)==1&&(gj items.size items.size i-gj items.size 0 lo)==items.size)=true):=by
  intro q;rw[eD,eD]at q;have f:((gj items.size 0 lo:Nat):Int)=0:=eq_of_beq q.1.1;have e:gj items.size items.size i-gj items.size 0 lo=items.size:=eq_of_beq q.2;exact c ⟨by lia,by lia⟩
 show wpAny _ _ (if (((gj items.size 0 lo:Nat):Int)==0&&(1:Int)==1&&(gj items.size items.size i-gj items.size 0 lo)==items.size)=true then _ else _) _ _ s;rw[cK o,Uc]
 first
  | exact aS (m:=Builtin.Tuple.tupleExact _) (wpAny_newObj_type (aT ⟨_,rfl,aT h⟩) O)
  | exact aS (m:=Builtin.Tuple.tupleExact _) (wpAny_newObj_type (aS (aT (aT ⟨_,rfl,aT h⟩))) O)
  | exact aS (aS (m:=Builtin.Tuple.tupleExact _) (wpAny_newObj_type (aT (aT ⟨_,rfl,aT h⟩)) O))
  | exact aS (aS (m:=Builtin.Tuple.tupleExact _) (wpAny_newObj_type (aT ⟨_,rfl,aT h⟩) O))
end
end HT
namespace L2
open PySem PySem.Spec PyProof.Rows
abbrev TO:=St->Hp->(aE Int->Hp->Prop)->Prop
def PO(X:Cx)(e:aE Expr)(t:TO):Prop:=
 ∀(p:aw (ar×Obj))(s:ae)(σ:St)(H:Hp)(Q:aE Int->Hp->Prop),Inv X p σ H s->t σ H Q →
  wpAny (model X.prog X.w) X.A (evalPart e X.env) (fun u s'=>∃ o h,Inv X p σ h s'/\IsPart u o/\Q o h) X.xe s
def Y6:TO:=fun _ H Q=>Q none H
def qDT(t:TE):TO:=fun σ H Q=>t σ H fun x h => ∃ i,x = .int i/\Q (some i) h
theorem intsAre_of:∀ {us:aw av},Vals (ns.map V.int) us->IntsAre us ns:=by
 induction ns with
 | nil=>intro us r;rw[List.map_nil]at r;cases r;exact .nil
 | cons n ns i=>
  intro us r;rw[bt]at r
  cases r with
  | cons R z=>
   obtain⟨t,e⟩:=R;subst e;exact .cons n t (i z)
section
variable{X:Cx}{e:Expr}{te:TE}{lo hi:aE Expr}{tl th:TO}{pos p2:Pos}
def gA:PO X none Y6:=by intro _ s σ H Q I h;rw[evalPart_none];exact aT ⟨none,H,I,.none,h⟩
def fu(h:PE X e te):PO X (some e) (qDT te):=by intro p s σ H Q I w;rw[evalPart_some];refine bH (h p s σ H _ I w) fun u _ ⟨x,a,j,r,b⟩=>?_;obtain⟨i,rfl,q⟩:=b;obtain⟨t,rfl⟩:=r;exact⟨some i,a,j,.int i t,q⟩
def SlR(X:Cx)(r:V->aE Int->aE Int->Hp->VK->Prop):Prop:=
 ∀(p:aw (ar×Obj))(s:ae)(σ:St)(H:Hp)(x:V)(v l u:av)(lo hi:aE Int)(S:ar)(Q:VK),Inv X p σ H s->RelV x v->s.heap.IsSliceOf S l u .none->IsPart l lo->IsPart u hi->r x lo hi H Q →
  ∃ T id,typeLookup (.type T) "__getitem__" = pure (some (.builtin id))/\s.TypeIs v T/\wpAny (model X.prog X.w) X.A (getItem v (.ref S)) (EP X p σ Q) X.xe s
def tSl(r:V->aE Int->aE Int->Hp->VK->Prop)(te:TE)(tl th:TO):TE:=fun σ H Q=>te σ H fun x b=>tl σ b fun l h=>th σ h fun u a=>r x l u a Q
def dN(z:SlR X r)(t:PE X e te)(j:PO X lo tl)(g:PO X hi th):PE X (.Subscript e (.Slice lo hi none p2) pos) (tSl r te tl th):=by intro p s σ H Q I h;refine Subscript_ (bH (t p s σ H _ I h) fun v m ⟨x,y,o,R,k⟩=>?_);refine wpAny_Slice (bH (j p m σ y _ o k) fun a S ⟨l,n,C,pl,i⟩=>bH (g p S σ n _ C i) fun c W ⟨u,d,A,B,f⟩=>?_);rw[evalPart_none];refine aT ?_;have P:Inv X p σ d { W with heap:=W.heap.push { cls:=.type "slice",data:=.fields #[a,c,.none] } }:=A.kept (t':=W.toks) fun b _ q=>fM _ q;obtain⟨T,_,D,ht,w⟩:=z p { W with heap:=W.heap.push { cls:=.type "slice",data:=.fields #[a,c,.none] } } σ d x v a c l u W.heap.objs.size Q P R (Heap.IsSliceOf.new ..) pl B f;show wpAny (model X.prog X.w) X.A (subscriptTail e (.Slice lo hi none p2) v (.ref W.heap.objs.size)) (EP X p σ Q) X.xe { W with heap:=W.heap.push { cls:=.type "slice",data:=.fields #[a,c,.none] } };exact tail_any (ops:=[.ref W.heap.objs.size,v]) ht D w (by with_unfolding_all rfl)
def oG(xs:aw V)(lo hi:aE Int):aw V:=(xs.drop (HT.gj xs.length 0 lo)).take (HT.gj xs.length xs.length hi-HT.gj xs.length 0 lo)
def xK(xs:aw V)(lo hi:aE Int):(oG xs lo hi).length<=xs.length:=by unfold oG;rw[iQ,fR];lia
def qK5(K:bV):V->aE Int->aE Int->Hp->VK->Prop:=fun x lo hi H Q => ∃ a xs,x = .ref a/\aJ K H a xs ∧
 ¬ (HT.gj xs.length 0 lo=0/\HT.gj xs.length xs.length hi=xs.length)/\∀ p,H p=none->Q (.ref p) (upd H p (.tup (oG xs lo hi)))
def rM:SlR X (qK5 X.K):=by
 intro _ s σ H x v _ _ lo hi _ Q I e d pl p h;obtain⟨a,xs,rfl,c,w,q⟩:=h
 cases e
 obtain⟨its,r,ht,z⟩:=I.tuple c
 have n:its.toArray.size=xs.length:=by rw[CV];exact r.length.symm
 refine⟨"tuple",_,PyProof.Rows.slot_tuple_getitem.lookup,ht.typeIs,?_⟩;refine HT.uX ht d pl p (by rw[n];exact w) ?_ (by rw[n];exact z);rw[n];refine⟨.ref s.heap.objs.size,_,I.laid (t':=s.toks) (o:=.tup (oG xs lo hi)) (fun b _ q=>fM _ q) (bD _) ?_,rfl,q _ (I.hok.fresh (bD _))⟩;exact⟨br (xK xs lo hi) z,_,(r.drop (HT.gj xs.length 0 lo)).take (HT.gj xs.length xs.length hi-HT.gj xs.length 0 lo),IsTup.new _ _⟩
def qES(K:bV):R2:=fun x y H Q => ∃ a b xs ys,x = .ref a/\y = .ref b/\aJ K H a xs/\aJ K H b ys/\xs≠[]/\xs.length+ys.length<=sizeLine ∧
 (ys=[]->Q (.ref a) H)/\(ys≠[]->∀ p,H p=none->Q (.ref p) (upd H p (.tup (xs++ys))))
theorem Vals.uM(r:Vals xs us):us=[]↔xs=[]:=by
 cases r with
 | nil=>simp
 | cons _ _=>simp
def GR:lJ X (binaryOp .Add) (qES X.K):=by
 intro _ s σ H x y v u Q I g j h;obtain⟨a,b,xs,ys,rfl,rfl,f,k,d,c,i,e⟩:=h
 cases g
 cases j
 obtain⟨_,R,p,_⟩:=I.tuple f;obtain⟨_,r,p2,_⟩:=I.tuple k;refine HT.Zn p p2 (fun z=>d (R.uM.mp z)) (fun z=>⟨.ref a,H,I,rfl,i (r.uM.mp z)⟩) (fun z=>?_) (by rw[<-R.length,<-r.length];exact c);refine⟨.ref s.heap.objs.size,_,I.laid (t':=s.toks) (o:=.tup (xs++ys)) (fun b _ q=>fM _ q) (bD _) ?_,rfl,e (fun w=>z (r.uM.mpr w)) _ (I.hok.fresh (bD _))⟩;exact⟨by rw[j8];exact c,_,R.append r,IsTup.new _ _⟩
end
noncomputable def Su(n:Nat)(i:Int):aE Nat:=if 0<=i then (if i<n then some i.toNat else none) else if -(n:Int)<=i then some (i+n).toNat else none
def mX{α:Type}(xs:aw α)(i:Int):aE α:=(Su xs.length i).bind fun j=>xs[j]?
def Ov(h:Su n i=some j):seqIndex? i n=some j/\j<n /\ -(n:Int)<=i/\i<n:=by
 unfold Su at h
 by_cases c:0<=i
 .rw[cS c]at h
  by_cases f:i<n
  .rw[cS f]at h;have e:i.toNat=j:=kJ h;exact⟨by rw[seqIndex_of c f,e],by lia,by lia,f⟩
  .rw[cK f]at h;cases h
 .rw[cK c]at h
  by_cases f : -(n:Int)<=i
  .rw[cS f]at h;have e:(i+n).toNat=j:=kJ h;exact⟨by rw[seqIndex_neg (by lia) f,e],by lia,f,by lia⟩
  .rw[cK f]at h;cases h
theorem HF(h:mX xs i=some v):∃ j,seqIndex? i xs.length=some j/\xs[j]? = some v/\j<xs.length /\ -(xs.length:Int)<=i/\i<xs.length:=by
 unfold mX at h
 cases e:Su xs.length i with
 | none=>rw[e]at h;cases h
 | some j=>
  rw[e]at h;obtain⟨f,q,b,l⟩:=Ov e;exact⟨j,f,h,q,b,l⟩
def yR{α:Type}{xs:aw α}{j:Nat}{v:α}(h:xs[j]? = some v):mX xs (j:Int)=some v:=by
 have L:j<xs.length:=(oW.mp h).1
 have e:Su xs.length (j:Int)=some j:=by
  unfold Su;rw[cS (by lia),cS (by lia)];simp
 unfold mX;rw[e];exact h
def Pz(b:Expr):Prop:=∀ o i,subscripted b false o i=operate [o,i] (getItem o i)
def IxR(X:Cx)(r:R2):Prop:=
 ∀(e slice:Expr)(p:aw (ar×Obj))(s:ae)(σ:St)(H:Hp)(x y:V)(v u:av)(Q:VK),Inv X p σ H s->RelV x v->RelV y u->r x y H Q →
  subscripted slice false v u=operate [v,u] (getItem v u)->wpAny (model X.prog X.w) X.A (subscriptTail e slice v u) (EP X p σ Q) X.xe s
def MtR(X:Cx)(id:String)(r:V->aw V->Hp->VK->Prop):Prop:=
 ∀(p:aw (ar×Obj))(s:ae)(σ:St)(H:Hp)(x:V)(xs:aw V)(v:av)(us:aw av)(Q:VK),Inv X p σ H s->RelV x v->Vals xs us->r x xs H Q →
  wpAny (model X.prog X.w) X.A (call (.builtin id) (v::us)) (EP X p σ Q) X.xe s
section
variable{X:Cx}{a b:Expr}{ta tb:TE}{pos:Pos}
def IxR.or(h:IxR X r)(h':IxR X r'):IxR X (fun x y H Q=>r x y H Q∨r' x y H Q):=by
 intro e slice p s σ H x y v u Q I a R q d;rcases q with q | q
 .exact h e slice p s σ H x y v u Q I a R q d
 .exact h' e slice p s σ H x y v u Q I a R q d
def yC(g:IxR X r)(f:PE X a ta)(i:PE X b tb)(d:Pz b):PE X (.Subscript a b pos) (tOp r ta tb):=by intro p s σ H Q I h;exact Subscript_ (qD8 f i I h fun v u S x y c A e R q=>g a b p S σ c x y v u Q A e R q (d _ _))
inductive Yc(K:bV)(x y:V)(H:Hp)(Q:VK):Prop
 | mk (p xs i v) (_:x = .ref p) (_:y = .int i) (_:aU K H p xs) (_:mX xs i=some v) (_:Q v H)
inductive dM(K:bV)(x y:V)(H:Hp)(Q:VK):Prop
 | mk (p xs i v) (_:x = .ref p) (_:y = .int i) (_:aJ K H p xs) (_:mX xs i=some v) (_:Q v H)
def qEQ:R2:=fun x y H Q => ∃ z i c,x = .str z/\y = .int i/\z.length<=sizeLine/\mX z.cps.toList i=some c/\Q (.str ⟨#[c]⟩) H
def yV:IxR X (Yc X.K):=by
 intro _ _ P s σ H x y v u Q I R n h d;obtain⟨p,_,i,z,rfl,rfl,b,g,q⟩:=h
 cases R
 obtain⟨t,rfl⟩:=n;obtain⟨its,r,pl,_⟩:=I.list b;obtain⟨j,a,m,_,k,o⟩:=HF g;obtain⟨w,e,U⟩:=r.get m;have l:=r.length;have A:=vh;have f:EP X P σ Q w s:=⟨z,H,I,U,q⟩
 by_cases c:0<=i
 .have L:i.toNat=j:=by
   rw[seqIndex_of c o]at a;exact kJ a
  exact item_listR pl.isList c (by lia) (by rw[L];simpa using e) f d
 .have L:(i+(its.toArray.size:Int)).toNat=j:=by
   rw[seqIndex_neg (by lia) k]at a;rw[CV,<-l];exact kJ a
  exact subscriptTail_builtinR (x:=w) pl.isList.typeIs slot_list_getitem.lookup
   (wpAny_getItem_list_neg (Q:=fun r s'=>r=w/\EP X P σ Q r s') pl.isList (by lia) (by rw[ia] <;> lia) (by lia) (by rw[L];simpa using e) ⟨rfl,f⟩) d
def zH:IxR X (dM X.K):=by
 intro _ _ P s σ H x y v u Q I k R h d;obtain⟨p,_,i,z,rfl,rfl,a,g,q⟩:=h
 cases k
 obtain⟨t,rfl⟩:=R;obtain⟨_,r,pl,_⟩:=I.tuple a;obtain⟨j,b,c,_,_,_⟩:=HF g;obtain⟨w,e,U⟩:=r.get c;have l:=r.length;have n:=vh;have f:EP X P σ Q w s:=⟨z,H,I,U,q⟩;exact subscriptTail_builtinR (x:=w) pl.typeIs slot_tuple_getitem.lookup
  (getItem_tuple (j:=j) (Q:=fun r s'=>r=w/\EP X P σ Q r s') pl (by lia) (by lia) (by rw[ia,<-l];exact b) (by simpa using e) ⟨rfl,f⟩) d
def Vq:IxR X qEQ:=by
 intro _ _ _ s σ H x y v u Q I r R h d;obtain⟨z,i,c,rfl,rfl,_,g,q⟩:=h;obtain⟨t,rfl⟩:=r;obtain⟨_,rfl⟩:=R;obtain⟨j,f,b,_,a,k⟩:=HF g
 have l:z.cps.toList.length=z.length:=by simp [Str.length]
 rw[l]at f a k;have n:=vh
 exact tail_any (typeIs_str s z t) slot_str_getitem.lookup (getItem_str (c:=c) (by
  have e:decide (i < -(2 ^ 63:Int))=false:=bp (by lia);have E:decide (i≥2 ^ 63)=false:=bp (by lia)
  rw[e,E,Bool.or_false]) (by rw[f];simpa using b) ⟨.str ⟨#[c]⟩,H,I.tok _,⟨_,rfl⟩,q⟩) d
def rIx(K:bV):R2:=fun x y H Q=>Yc K x y H Q∨dM K x y H Q∨qEQ x y H Q
def Vr:IxR X (rIx X.K):=yV.or (zH.or Vq)
def M9(its:aw av)(n j:Nat)(u:av):Obj.mapSeq (·.setIfInBounds j u) { cls:=.type "list",data:=.seq its.toArray n } = { cls:=.type "list",data:=.seq (its.set j u).toArray n }:=by simp [Obj.mapSeq]
def Inv.lst(I:Inv X pins σ H s)(h:H p=some (.lst xs)) :
  ∃(its:aw av)(n:Nat),Vals xs its/\s.heap.get? p=some { cls:=.type "list",data:=.seq its.toArray n }/\xs.length<=sizeLine:=by obtain⟨z,its,n,r,e⟩:=I.hok p _ h;exact⟨its,n,r,e,z⟩
def Inv.qCJ{P:aw (ar×Obj)}{σ:St}{H:Hp}{s:ae}{p:ar}{xs ys:aw V}{its its':aw av}{n N:Nat}{f:Obj->Obj}(I:Inv X P σ H s)(h:H p=some (.lst xs))
  (o:s.heap.get? p=some { cls:=.type "list",data:=.seq its.toArray n }) (a:f { cls:=.type "list",data:=.seq its.toArray n } = { cls:=.type "list",data:=.seq its'.toArray N }) (r:Vals ys its') (z:ys.length<=sizeLine) (t:Nat) :
  Inv X P σ (upd H p (.lst ys)) { s with heap:=s.heap.update p f,toks:=t }:=by
 have e:(s.heap.update p f).get? p=some { cls:=.type "list",data:=.seq its'.toArray N }:=by
  rw[cm f o (by rw[a] <;> rfl),a]
 refine I.write (x:=p) (e:=p) (by rw[h];trivial) (.inl rfl) (fun b u c q=>(ck _ _ (bE c)).trans q) ⟨_,e⟩ ?_;exact⟨z,its',N,r,e⟩
inductive qEO(o i v:V)(H:Hp)(Q:(Hp->Prop)):Prop
 | mk (p xs k j) (_:o = .ref p) (_:i = .int k) (_:H p=some (.lst xs)) (_:Su xs.length k=some j) (_:Q (upd H p (.lst (xs.set j v))))
def set_list:qJ6 X qEO:=by
 intro P s σ H o i v _ _ u Q I x w R h;obtain⟨p,xs,k,j,rfl,rfl,m,L,q⟩:=h
 cases x
 obtain⟨t,rfl⟩:=w;obtain⟨its,n,r,a,z⟩:=I.lst m;obtain⟨f,_,d,g⟩:=Ov L;have l:=r.length;have y:=vh
 have c:Inv X P σ (upd H p (.lst (xs.set j v))) { s with heap:=s.heap.update p (Obj.mapSeq (·.setIfInBounds j u)) }:=
  I.qCJ m a (M9 its n j u) (r.set R j) (by rw[gu];exact z) s.toks
 by_cases e:0<=k
 .have b:k.toNat=j:=by
   rw[seqIndex_of e g]at f;exact kJ f
  exact PySem.W.ki_setAt a e (by lia) (by rw[CV,<-l];exact g) (by rw[b];exact⟨_,c,q⟩)
 .have b:(k+(its.toArray.size:Int)).toNat=j:=by
   rw[seqIndex_neg (by lia) d]at f;rw[CV,<-l];exact kJ f
  exact PySem.W.ki_setBack a (by lia) (by rw[CV,<-l];exact d) (by lia) (by rw[b];exact⟨_,c,q⟩)
theorem Fl(lo H:aE Int)(n:Nat):(sliceBounds lo H none n).1=((HT.gj n 0 lo:Nat):Int)/\(sliceBounds lo H none n).2.1=((HT.gj n n H:Nat):Int)/\(sliceBounds lo H none n).2.2=1:=by
 refine⟨?_,?_,rfl⟩
 .cases lo with
  | none=>simp [sliceBounds,HT.gj]
  | some i=>
   simp only[sliceBounds,HT.gj,Option.getD_none,show (1:Int)>0 by decide,if_true]
   by_cases h:i<0
   .simp only[h,if_true] <;> lia
   .simp only[h,if_false] <;> lia
 .cases H with
  | none=>simp [sliceBounds,HT.gj]
  | some i=>
   simp only[sliceBounds,HT.gj,Option.getD_none,show (1:Int)>0 by decide,if_true]
   by_cases h:i<0
   .simp only[h,if_true] <;> lia
   .simp only[h,if_false] <;> lia
def CZ(its:aw av)(lo i:aE Int):slicePick its.toArray lo i none=((its.drop (HT.gj its.length 0 lo)).take (HT.gj its.length its.length i-HT.gj its.length 0 lo)).toArray:=by obtain⟨f,q,b⟩:=Fl lo i its.toArray.size;unfold slicePick;rw[f,q,b];simp only[sliceRange_one,pick_run,List.size_toArray] <;> rfl
def qK6(K:bV):V->aE Int->aE Int->Hp->VK->Prop:=fun x lo i H Q => ∃ a xs,x = .ref a/\aU K H a xs/\∀ p,H p=none->Q (.ref p) (upd H p (.lst (oG xs lo i)))
def O1:SlR X (qK6 X.K):=by
 intro _ s σ H x v _ _ lo i _ Q I e d pl p h;obtain⟨a,xs,rfl,c,q⟩:=h
 cases e
 obtain⟨_,r,ht,z⟩:=I.list c;have n:=r.length;refine⟨"list",_,slot_list_getitem.lookup,ht.isList.typeIs,?_⟩;refine wpAny_getItem_list_slice ht.isList d pl p .none (by simp) ?_ (by rw[List.size_toArray] <;> lia);rw[CZ,<-n];refine⟨.ref s.heap.objs.size,_,I.laid (t':=s.toks) (o:=.lst (oG xs lo i)) (fun b _ q=>fM _ q) (bD _) ?_,rfl,q _ (I.hok.fresh (bD _))⟩;exact⟨br (xK xs lo i) z,_,0,(r.drop (HT.gj xs.length 0 lo)).take (HT.gj xs.length xs.length i-HT.gj xs.length 0 lo),qy _ rfl⟩
def oR:V->Bool
 | .non=>true
 | .bl _=>true
 | .int _=>true
 | .str _=>true
 | _=>false
noncomputable def Xv:V->V->Bool
 | .non,.non=>true
 | .bl a,.bl b=>a==b
 | .bl a,.int b=>(if a then 1 else 0)==b
 | .int a,.bl b=>a==(if b then 1 else 0)
 | .int a,.int b=>a==b
 | .str a,.str b=>a==b
 | _,_=>false
theorem qCZ(R:RelV y u)(e:RelV x v)(F:oR y=true)(f:oR x=true):SeqAt.EqAt A s u v (Xv y x):=by
 cases y with
 | non=>
  cases R
  cases x with
  | non=>cases e;exact SeqAt.EqAt.same _
  | bl b=>cases e;exact SeqAt.EqAt.none_bool b
  | int b=>obtain⟨t,rfl⟩:=e;exact SeqAt.EqAt.none_int b t
  | str b=>obtain⟨t,rfl⟩:=e;exact SeqAt.EqAt.none_str b t
  | _=>exact eu (show false=true from f) rA
 | bl a=>
  cases R
  cases x with
  | non=>cases e;exact SeqAt.EqAt.bool_none a
  | bl b=>cases e;exact SeqAt.EqAt.bool_bool a b
  | int b=>obtain⟨t,rfl⟩:=e;exact SeqAt.EqAt.bool_int a b t
  | str b=>obtain⟨t,rfl⟩:=e;exact SeqAt.EqAt.bool_str a b t
  | _=>exact eu (show false=true from f) rA
 | int a=>
  obtain⟨t',rfl⟩:=R
  cases x with
  | non=>cases e;exact SeqAt.EqAt.int_none a t'
  | bl b=>cases e;exact SeqAt.EqAt.int_bool a t' b
  | int b=>obtain⟨t,rfl⟩:=e;exact SeqAt.EqAt.int_int a t' b t
  | str b=>obtain⟨t,rfl⟩:=e;exact SeqAt.EqAt.int_str a t' b t
  | _=>exact eu (show false=true from f) rA
 | str a=>
  obtain⟨t',rfl⟩:=R
  cases x with
  | non=>cases e;exact SeqAt.EqAt.str_none a t'
  | bl b=>cases e;exact SeqAt.EqAt.str_bool a t' b
  | int b=>obtain⟨t,rfl⟩:=e;exact SeqAt.EqAt.str_int a t' b t
  | str b=>obtain⟨t,rfl⟩:=e;exact SeqAt.EqAt.str_str a t' b t
  | _=>exact eu (show false=true from f) rA
 | _=>exact eu (show false=true from F) rA
def Mt(x:V)(u:av):Bool:=match u with
 | .none=>Xv .non x
 | .bool b=>Xv (.bl b) x
 | .int i _=>Xv (.int i) x
 | .str z _=>Xv (.str z) x
 | _=>false
theorem Wm(r:RelV y u)(f:oR y=true):Mt x u=Xv y x:=by
 cases y with
 | non=>cases r;rfl
 | bl b=>cases r;rfl
 | int i=>obtain⟨t,rfl⟩:=r;rfl
 | str z=>obtain⟨t,rfl⟩:=r;rfl
 | _=>exact eu (show false=true from f) rA
theorem uh:∀ {xs:aw V} {us:aw av},Vals xs us->xs.all oR=true->us.any (Mt x)=xs.any fun y=>Xv y x
 | _,_,.nil,_=>rfl
 | y::xs,u::us,.cons r t,f=>by
  rw[List.all_cons,eD]at f;rw[fh,fh,Wm r f.1,uh t f.2]
theorem pP(e:RelV x v)(F:oR x=true):∀ {xs:aw V} {us:aw av},Vals xs us->xs.all oR=true->∀ u∈us,SeqAt.EqAt A s u v (Mt x u)
 | _,_,.nil,_=>fun u d=>by cases d
 | y::xs,u::us,.cons r t,f=>fun U d=>by
  rw[List.all_cons,eD]at f;rcases dD.mp d with rfl | d
  .rw[Wm r f.1];exact qCZ r e f.1 F
  .exact pP e F t f.2 U d
def inV(x:V)(xs:aw V):Bool:=xs.any fun y=>Xv y x
def rIn(K:bV)(neg:Bool):R2:=fun x y H Q => ∃ p xs,y = .ref p/\(aU K H p xs∨aJ K H p xs)/\oR x=true/\xs.all oR=true/\Q (.bl (if neg then !inV x xs else inV x xs)) H
def jM:lJ X (compareOp .In) (rIn X.K false):=by
 intro _ s σ H x y v u Q I e R h;obtain⟨p,_,rfl,a,f,fs,q⟩:=h
 cases R
 rcases a with a | a
 .obtain⟨its,r,pl,z⟩:=I.list a;refine SeqAt.in_listAt (Mt x) pl.isList (fun w b=>pP e f r fs w (by simpa using b)) ⟨.bl _,H,I,rfl,?_⟩;rw[show its.toArray.any (Mt x)=its.any (Mt x) by simp,uh r fs];exact q
 .obtain⟨its,r,pl,z⟩:=I.tuple a;refine SeqAt.in_tupleAt (Mt x) pl (fun w b=>pP e f r fs w (by simpa using b)) ⟨.bl _,H,I,rfl,?_⟩;rw[show its.toArray.any (Mt x)=its.any (Mt x) by simp,uh r fs];exact q
def dq:lJ X (compareOp .NotIn) (rIn X.K true):=by
 intro _ s σ H x y v u Q I e R h;obtain⟨p,_,rfl,a,f,fs,q⟩:=h
 cases R
 rcases a with a | a
 .obtain⟨its,r,pl,z⟩:=I.list a;refine SeqAt.notIn_listAt (Mt x) pl.isList (fun w b=>pP e f r fs w (by simpa using b)) ⟨.bl _,H,I,rfl,?_⟩;rw[show its.toArray.any (Mt x)=its.any (Mt x) by simp,uh r fs];exact q
 .obtain⟨its,r,pl,z⟩:=I.tuple a;refine SeqAt.notIn_tupleAt (Mt x) pl (fun w b=>pP e f r fs w (by simpa using b)) ⟨.bl _,H,I,rfl,?_⟩;rw[show its.toArray.any (Mt x)=its.any (Mt x) by simp,uh r fs];exact q
def zO:ir X (.builtin "len") (fun xs H Q => ∃ p ys,xs=[.ref p]/\(aU X.K H p ys∨aJ X.K H p ys)/\Q (.int ys.length) H):=by
 intro _ s σ H xs _ Q I r h;obtain⟨p,ys,rfl,a,q⟩:=h;obtain⟨u,rfl,e⟩:=vals1 r
 cases e
 have j:=vh;rcases a with a | a
 .obtain⟨its,R,pl,b⟩:=I.list a;have n:=R.length;exact Calls.call_len_list pl.isList (by simp only[List.size_toArray] <;> lia) ⟨.int ys.length,H,I.tok _,⟨s.toks+1,by rw[ia,n]⟩,q⟩
 .obtain⟨its,R,pl,b⟩:=I.tuple a;have n:=R.length;exact len_tuple pl (by simp only[List.size_toArray] <;> lia) ⟨.int ys.length,H,I.tok _,⟨s.toks+1,by rw[ia,n]⟩,q⟩
def ue:ir X (.builtin "len") (fun xs H Q => ∃ z,xs=[.str z]/\z.length<=sizeLine/\Q (.int z.length) H):=by intro _ s σ H xs _ Q I r h;obtain⟨z,rfl,_,q⟩:=h;obtain⟨u,rfl,t,rfl⟩:=vals1 r;have j:=vh;exact len_str (by lia) ⟨.int z.length,H,I.tok _,⟨_,rfl⟩,q⟩
def gO:ir X (.type "list") (fun xs H Q => ∃ p ys,xs=[.ref p]/\(aU X.K H p ys∨aJ X.K H p ys)/\∀ l,H l=none->Q (.ref l) (upd H l (.lst ys))):=by
 intro P s σ H xs _ Q I r h;obtain⟨p,ys,rfl,a,q⟩:=h;obtain⟨u,rfl,x⟩:=vals1 r
 cases x
 have f:∀(its:aw av),Vals ys its->ys.length<=sizeLine->∀(h':Heap)(T:Nat),(∀ b O,s.heap.get? b=some O->h'.get? b=some O) →
   h'.get? s.heap.objs.size=some { cls:=.type "list",dict:=none,data:=.seq its.toArray T,slots:=#[] }->EP X P σ Q (.ref s.heap.objs.size) { s with heap:=h' }:=fun its R z h' T k e=>
  ⟨.ref s.heap.objs.size,_,I.laid (t':=s.toks) k (bD _) (show bM X.prog X.w _ h' _ (.lst ys) from ⟨z,its,T,R,e⟩),rfl,q _ (I.hok.fresh (bD _))⟩
 rcases a with a | a
 .obtain⟨its,R,pl,z⟩:=I.list a;have c:=R.length;obtain⟨o,g,d,n,hd⟩:=pl.isList;exact call_list_seq p (.inl rfl) g d hd (fun h' T k e=>f its R z h' T k e) (by simp only[List.size_toArray] <;> lia)
 .obtain⟨its,R,pl,z⟩:=I.tuple a;have c:=R.length;obtain⟨o,g,d,n,hd⟩:=pl;exact call_list_seq p (.inr rfl) g d hd (fun h' T k e=>f its R z h' T k e) (by simp only[List.size_toArray] <;> lia)
def zY:ir X (.type "tuple") (fun xs H Q => ∃ p ys,xs=[.ref p]/\((aU X.K H p ys/\∀ l,H l=none->Q (.ref l) (upd H l (.tup ys)))∨(aJ X.K H p ys/\Q (.ref p) H))):=by
 intro P s σ H xs _ Q I r h;obtain⟨p,ys,rfl,h⟩:=h;obtain⟨u,rfl,x⟩:=vals1 r
 cases x
 rcases h with ⟨a,q⟩ | ⟨a,q⟩
 .obtain⟨its,R,pl,z⟩:=I.list a;have n:=R.length;refine call_tuple_list pl.isList (fun h' k=>?_) (by simp only[List.size_toArray] <;> lia);have j:Inv X P σ H { s with heap:=h' }:=I.kept (t':=s.toks) k
  have A:Inv X P σ (upd H h'.objs.size (.tup ys)) { s with heap:=h'.push { cls:=.type "tuple",data:=.seq its.toArray } }:=
   j.laid (t':=s.toks) (fun b o e=>fM _ e) (bD _) (show bM X.prog X.w _ _ _ (.tup ys) from ⟨z,its,R,IsTup.new _ _⟩)
  exact⟨.ref h'.objs.size,_,A,rfl,q _ (j.hok.fresh (bD _))⟩
 .obtain⟨its,R,pl,z⟩:=I.tuple a;exact call_tuple_same pl ⟨.ref p,H,I,rfl,q⟩
def tyV(K:bV)(T:String)(x:V)(H:Hp):Prop:=match x with
 | .str _=>T = "str"
 | .int _=>T = "int"
 | .ref p=>(T = "list" /\ ∃ xs,aU K H p xs)∨(T = "tuple" /\ ∃ o,K.lookup p=some o/\o.cls = .type "tuple" /\ o.dict=none) ∨
   (T = "dict" /\ ((∃ k,H p=some (.dK k)) ∨ ∃ k,H p=some (.dT k)))∨(T = "set" /\ ∃ S n,H p=some (.set S n))
 | _=>False
theorem T8(I:Inv X pins σ H s)(r:RelV x v)(ty:tyV X.K T x H) :
  s.TypeIs v T/\∀ a,v = .ref a->∃ O,s.heap.get? a=some O/\O.dict=none:=by
 cases x with
 | str z=>
  obtain⟨t,rfl⟩:=r
  cases (show T = "str" from ty)
  exact⟨typeIs_str s z t,fun _ e=>nomatch e⟩
 | int i=>
  obtain⟨t,rfl⟩:=r
  cases (show T = "int" from ty)
  exact⟨typeIs_int s i t,fun _ e=>nomatch e⟩
 | ref p=>
  cases r
  rcases ty with ⟨rfl,xs,q⟩ | ⟨rfl,o,k,h,hd⟩ | ⟨rfl,k⟩ | ⟨rfl,S,n,k⟩
  .obtain⟨_,_,pl,_⟩:=I.list q;refine⟨pl.isList.typeIs,fun a e=>?_⟩
   cases e
   obtain⟨o,n,e,c,hd,_⟩:=pl;exact⟨o,e,hd⟩
  .refine⟨⟨o,I.mQ p o k,h⟩,fun a e=>?_⟩
   cases e
   exact⟨o,I.mQ _ o k,hd⟩
  .have z:∃ o,s.heap.get? p=some o/\o.ExactDict:=by
    rcases k with ⟨b,k⟩ | ⟨b,k⟩
    .obtain⟨_,_,_,_,o,_,_,e,E,_⟩:=I.hok p _ k;exact⟨o,e,E⟩
    .obtain⟨_,_,_,_,o,_,_,e,E,_⟩:=I.hok p _ k;exact⟨o,e,E⟩
   obtain⟨o,e,E⟩:=z;refine⟨⟨o,e,E.1⟩,fun a d=>?_⟩
   cases d
   exact⟨o,e,E.2.1⟩
  .obtain⟨o,_,_,_,e,E,_⟩:=I.hok p _ k;refine⟨⟨o,e,E.1⟩,fun a d=>?_⟩
   cases d
   exact⟨o,e,E.2.1⟩
 | _=>exact c9 ty
def qJU(K:bV)(T:String)(r:V->aw V->Hp->VK->Prop)(to:TE):TE:=fun σ H Q=>to σ H fun x h=>tyV K T x h/\r x [] h Q
def tBM(K:bV)(T:String)(r:V->aw V->Hp->VK->Prop)(to:TE)(t:TA):TE:=fun σ H Q=>to σ H fun x h=>tyV K T x h/\t σ h fun xs a=>r x xs a Q
variable{o e:Expr}{es:aw Expr}{to:TE}{t:TA}{name:Str}{apos cpos:Pos}{T id:String}{r:V->aw V->Hp->VK->Prop}
def Uh(P:PlainAttrs T)(S:Slot T name id)(y:typeOf (.builtin id)=pure (.type "method_descriptor"))(d:MtR X id r)(g:PE X o to)
  (a:attributeBase o name X.env (eval o X.env)=eval o X.env:=by rfl) (e:(apos.endLine==cpos.line)=true:=by rfl):PE X (.Call (.Attribute o name apos) [] [] cpos) (qJU X.K T r to):=by intro p s σ H Q I h;refine wpAny_Call_method0_late a e (bH (g p s σ H _ I h) fun v c ⟨x,b,j,R,ty,i⟩=>?_);obtain⟨f,q⟩:=T8 j R ty;exact⟨T,id,P,S,y,f,q,Calls.callWith_builtin rfl (PySem.evalArgs_none (d p c σ b x [] v [] Q j R .nil i))⟩
def dU(P:PlainAttrs T)(S:Slot T name id)(y:typeOf (.builtin id)=pure (.type "method_descriptor"))(d:MtR X id r)(u:PE X o to)(i:PA X (e::es) t)
  (b:attributeBase o name X.env (eval o X.env)=eval o X.env:=by rfl)
  (w:((backTo cpos (starEach (e::es) X.env)).all (fun x => !x.1)&&(backToKw cpos (keywordEach [] X.env)).all (fun x=>x.1.isSome)
   && decide ((e::es).length+([]:aw Keyword).length+(if ([]:aw Keyword).isEmpty then 0 else 1)<30))=true:=by rfl)
  (a:(apos.endLine==cpos.line)=true:=by rfl) (f:starEach (e::es) X.env=(false,eval e X.env)::starEach es X.env:=by rfl) (n:(backTo cpos (starEach es X.env)).any (·.1)=false:=by rfl) :
  PE X (.Call (.Attribute o name apos) (e::es) [] cpos) (tBM X.K T r to t):=by intro p s σ H Q I h;refine wpAny_Call_method_late b w a rfl (bH (u p s σ H _ I h) fun v k ⟨x,z,j,R,ty,l⟩=>?_);obtain⟨g,D⟩:=T8 j R ty;refine⟨T,id,P,S,y,g,D,?_⟩;have A:=i cpos p k σ z _ j l;rw[f]at A ⊢;refine Calls.callWith_builtin (by show (false||(backTo cpos (starEach es X.env)).any (·.1))=false;rw[n] <;> rfl) (Calls.evalArgs_plain ?_);exact bH A fun us c ⟨vs,m,C,B,q⟩=>d p c σ m x vs v us Q C R B q
end
def MtM(X:Cx)(id:String)(r:V->aw V->Hp->VK->Prop):Prop:=
 ∀(p:aw (ar×Obj))(s:ae)(σ:St)(H:Hp)(x:V)(xs:aw V)(v:av)(us:aw av)(Q:VK),Inv X p σ H s->RelV x v->Vals xs us->r x xs H Q →
  wpAny (model X.prog X.w) X.A (call (.builtin id) (v::us)) (EP X p σ Q) X.xe s
theorem Vals.one:∀ {x:V} {us:aw av},Vals [x] us->∃ u,us=[u]/\RelV x u
 | _,_,.cons r .nil=>⟨_,rfl,r⟩
theorem Vals.zero:∀ {us:aw av},Vals [] us->us=[]
 | _,.nil=>rfl
theorem Vals.dropLast(h:Vals xs us):Vals xs.dropLast us.dropLast:=by
 induction h with
 | nil=>exact .nil
 | cons r t i=>
  cases t with
  | nil=>exact .nil
  | cons q t'=>exact .cons r i
theorem Vals.eraseIdx:∀ {xs:aw V} {us:aw av} (i:Nat),Vals xs us->Vals (xs.eraseIdx i) (us.eraseIdx i)
 | _,_,_,.nil=>.nil
 | _,_,0,.cons _ t=>t
 | _,_,i+1,.cons r t=>.cons r (Vals.eraseIdx i t)
theorem Vals.rep(h:Vals xs us):∀ k:Nat,Vals (List.replicate k xs).flatten (List.replicate k us).flatten
 | 0=>.nil
 | k+1=>by
  rw[dS,dS,fE,fE];exact Vals.append h (Vals.rep h k)
theorem Ms(l:aw α):l.eraseIdx (l.length-1)=l.dropLast:=by
 induction l with
 | nil=>rfl
 | cons a r i=>
  cases r with
  | nil=>rfl
  | cons b r=>
   have e:(a::b::r).length-1=((b::r).length-1)+1:=by
    have f:(a::b::r).length=r.length+2:=rfl;have q:(b::r).length=r.length+1:=rfl;lia
   rw[e,List.eraseIdx_cons_succ,i]
   all_goals rfl
theorem Eg:∀(l:aw α)(i:Nat),(l.eraseIdx i).length<=l.length
 | [],_=>bD _
 | _::_,0=>ip _
 | _::r,i+1=>iX (Eg r i)
theorem foldl_rep(its:aw av):∀(k:Nat)(a:aw av),
  List.foldl (fun X x=>X++x) a.toArray (List.replicate k its.toArray)=(a++(List.replicate k its).flatten).toArray
 | 0,a=>by simp
 | k+1,a=>by
  have e:a.toArray++its.toArray=(a++its).toArray:=by simp
  have E:(a++its)++(List.replicate k its).flatten=a++(List.replicate (k+1) its).flatten:=by
   rw[dS,fE,bX]
  rw[<-E,<-foldl_rep its k (a++its),<-e,dS,fF]
section
variable{X:Cx}{pins:aw (ar×Obj)}{σ:St}{H:Hp}{s:ae}{l b:ar}{xs ys zs:aw V}
def Inv.Vk{its its':aw av}{n:Nat}{f:Array av->Array av}{t':Nat}(I:Inv X pins σ H s)(g:H l=some (.lst xs))
  (e:s.heap.get? l=some { cls:=.type "list",data:=.seq its.toArray n }) (a:f its.toArray=its'.toArray) (h:Vals ys its') (b:ys.length<=sizeLine) :
  Inv X pins σ (upd H l (.lst ys)) { s with heap:=s.heap.update l (Obj.mapSeq f),toks:=t' }:=by have q:=PySem.IsL.update e f;rw[a]at q;refine I.write (x:=l) (e:=l) (by rw[g];exact trivial) (.inl rfl) (fun _ u c d=>(ck s.heap (Obj.mapSeq f) (bE c)).trans d) ⟨_,q⟩ ?_;exact⟨b,its',_,h,q⟩
def Inv.qKS(I:Inv X pins σ H s)(h:Vals ys its)(b:ys.length<=sizeLine) :
  Inv X pins σ (upd H s.heap.objs.size (.lst ys)) { s with heap:=s.heap.push { cls:=.type "list",data:=.seq its.toArray },toks:=t' }:=
 I.laid (fun _ _ q=>fM _ q) (bD _) ⟨b,its,0,h,qy _ rfl⟩
def Inv.fresh(I:Inv X pins σ H s):H s.heap.objs.size=none:=I.hok.fresh (bD _)
def Inv.Jd(I:Inv X pins σ H s)(g:H l=some (.lst xs)):xs.length<=sizeLine/\∃(its:aw av)(n:Nat),Vals xs its/\xs.length=its.length/\s.heap.get? l=some { cls:=.type "list",data:=.seq its.toArray n }:=by obtain⟨z,its,n,r,e⟩:=I.hok l _ g;exact⟨z,its,n,r,r.length,e⟩
def VH(h:n<=sizeLine):Builtin.List.listTooLong n=false:=by unfold Builtin.List.listTooLong;exact bp (by lia)
end
section
variable{X:Cx}
inductive Ye(x:V)(vs:List V)(H:Hp)(Q:VK):Prop
 | mk (l xs y) (_:x = .ref l) (_:vs=[y]) (_:H l=some (.lst xs)) (_:xs.length<sizeLine) (_:Q .non (upd H l (.lst (xs++[y]))))
def yI:MtM X "list.append" Ye:=by
 intro _ s σ H x _ v _ Q I R b h;obtain⟨l,_,y,rfl,rfl,g,_,q⟩:=h
 cases R
 obtain⟨u,rfl,a⟩:=b.one;obtain⟨z,its,n,r,_,e⟩:=I.Jd g;refine call_meets F.slot_list_append ⟨_,e,rfl⟩ F.entry_list_append (F.args_list_append_2 _ _) (PySem.list_append l its.toArray n u (by rw[CV];lia)) ⟨e,?_⟩;refine⟨.non,_,I.Vk (its':=its++[u]) g e (by simp) (r.append (.cons a .nil)) ?_,rfl,q⟩;rw[j8,vG];lia
def Yd:V->aw V->Hp->VK->Prop:=fun x vs H Q => ∃ l b xs zs,x = .ref l/\vs=[.ref b]/\H l=some (.lst xs)/\H b=some (.lst zs)/\xs.length+zs.length<=sizeLine/\Q .non (upd H l (.lst (xs++zs)))
def cG:MtM X "list.extend" Yd:=by
 intro _ s σ H x _ v _ Q I c a h;obtain⟨l,b,_,_,rfl,rfl,g,B,_,q⟩:=h
 cases c
 obtain⟨u,rfl,d⟩:=a.one
 cases d
 obtain⟨z,its,n,r,_,e⟩:=I.Jd g;obtain⟨_,i,N,R,_,E⟩:=I.Jd B
 have hsz:its.toArray.size+i.toArray.size<=sizeLine:=by rw[CV,CV];lia
 have C:¬ (!its.toArray.isEmpty&&Builtin.List.listTooLong (its.toArray.size+i.toArray.size))=true:=by
  rw[VH hsz,Bool.and_false];exact rA
 refine call_meets F.slot_list_extend ⟨_,e,rfl⟩ F.entry_list_extend (F.args_list_extend_2 _ _)
  (AutoSeq1.list_extend_list_list_0 l its.toArray n b i.toArray N C (by rw[CV];lia) (by lia)) ⟨e,E,?_⟩
 refine⟨.non,_,I.Vk (its':=its++i) g e (by simp) (r.append R) ?_,rfl,q⟩;rw[j8];lia
def qK7:V->aw V->Hp->VK->Prop:=fun x vs H Q => ∃ l xs y,x = .ref l/\vs=[]/\H l=some (.lst xs)/\xs[xs.length-1]? = some y/\Q y (upd H l (.lst xs.dropLast))
def qCG:MtM X "list.pop" qK7:=by
 intro _ s σ H x _ v _ Q I f R h;obtain⟨l,_,y,rfl,rfl,g,O,q⟩:=h
 cases f
 have a:=R.zero;subst a;obtain⟨z,its,n,r,c,e⟩:=I.Jd g;obtain⟨u,d,i⟩:=r.get O
 have b:its.toArray[its.toArray.size-1]? = some u:=by
  show its.toArray[its.length-1]? = some u;rw[<-eC,<-c];exact d
 refine call_meets F.slot_list_pop ⟨_,e,rfl⟩ F.entry_list_pop (F.args_list_pop_1 _) (MeetsSeq.list_pop_last l its.toArray n u b (by rw[CV];lia)) ⟨e,?_⟩;refine⟨y,_,I.Vk (its':=its.dropLast) g e ?_ r.dropLast ?_,i,q⟩
 .show its.toArray.eraseIdxIfInBounds (its.toArray.size-1)=its.dropLast.toArray;rw[CV,fq,Ms]
 .rw[List.length_dropLast];lia
def qBQ:V->aw V->Hp->VK->Prop:=fun x vs H Q => ∃ l xs i k y,x = .ref l/\vs=[.int i]/\H l=some (.lst xs) /\ -(2 ^ 63)<=i/\i<2 ^ 63/\seqIndex? i xs.length=some k/\xs[k]? = some y/\Q y (upd H l (.lst (xs.eraseIdx k)))
def Vc:MtM X "list.pop" qBQ:=by
 intro _ s σ H x _ v _ Q I j R h;obtain⟨l,xs,i,k,y,rfl,rfl,g,f,c,b,O,q⟩:=h
 cases j
 obtain⟨u,rfl,m⟩:=R.one;obtain⟨t,rfl⟩:=m;obtain⟨z,its,n,r,a,e⟩:=I.Jd g;obtain⟨w,d,U⟩:=r.get O;refine call_meets F.slot_list_pop ⟨_,e,rfl⟩ F.entry_list_pop (F.args_list_pop_2 _ _)
  (MeetsSeq.list_pop_at l its.toArray n i t k w (fitsIndex_both f c) (by rw[CV,<-a];exact b) (by rw[<-eC];exact d) (by rw[CV];lia)) ⟨e,?_⟩
 refine⟨y,_,I.Vk (its':=its.eraseIdx k) g e ?_ (r.eraseIdx k) ?_,U,q⟩
 .show its.toArray.eraseIdxIfInBounds k=(its.eraseIdx k).toArray;rw[fq]
 .have:=Eg xs k;lia
def qBR:V->aw V->Hp->VK->Prop:=fun x vs H Q => ∃ l xs,x = .ref l/\vs=[]/\H l=some (.lst xs)/\Q .non (upd H l (.lst []))
def Vd:MtM X "list.clear" qBR:=by
 intro _ s σ H x _ v _ Q I R b h;obtain⟨l,_,rfl,rfl,g,q⟩:=h
 cases R
 have a:=b.zero;subst a;obtain⟨z,its,n,r,_,e⟩:=I.Jd g;refine call_meets F.slot_list_clear ⟨_,e,rfl⟩ F.entry_list_clear (F.args_list_clear_1 _) (AutoSeq1.list_clear_list_0 l its.toArray n (by rw[CV];lia)) ⟨e,?_⟩;exact⟨.non,_,I.Vk (its':=[]) (ys:=[]) g e rfl .nil (bo _),rfl,q⟩
def qK8:R2:=fun x y H Q => ∃ l b xs zs,x = .ref l/\y = .ref b/\H l=some (.lst xs)/\H b=some (.lst zs)/\xs.length+zs.length<=sizeLine/\∀ p,H p=none->Q (.ref p) (upd H p (.lst (xs++zs)))
def GX:lJ X (binaryOp .Add) qK8:=by
 intro _ s σ H x y v u Q I c d h;obtain⟨l,b,_,_,rfl,rfl,g,B,_,q⟩:=h
 cases c
 cases d
 obtain⟨z,its,n,r,_,e⟩:=I.Jd g;obtain⟨_,i,_,R,_,a⟩:=I.Jd B;refine PySem.P.add_list e a ?_ (by rw[CV,CV];lia)
 have E:its.toArray++i.toArray=(its++i).toArray:=by simp
 rw[E];exact⟨.ref _,_,I.qKS (t':=s.toks) (r.append R) (by rw[j8];lia),rfl,q _ I.fresh⟩
theorem len_rep(xs:aw α)(k:Nat):(List.replicate k xs).flatten.length=k*xs.length:=by
 induction k with
 | zero=>simp
 | succ k i=>rw[dS,fE,j8,i,Nat.succ_mul,Nat.add_comm]
end
section
variable{prog:ag}{w:aI}{A:ai}{E:av->ae->Prop}{s:ae}
end
section
variable{X:Cx}
end
end L2
namespace Att
open PySem PySem.W PySem.Calls PyProof.Rows
theorem xU:∀(ns:aw Int)(vs:aw av),WellAll P h vs (ns.map WData.int)->IntsAre vs ns:=by
 intro ns
 induction ns with
 | nil=>
  intro vs w;rw[List.map_nil]at w
  cases w
  exact .nil
 | cons n ns i=>
  intro vs w;rw[bt]at w
  cases w with
  | cons a b=>
   cases a
   exact .cons _ _ (i _ b)
theorem QK{l:OpenLaw}{n:Nat}(k:l.most=some n){P:Params}{h:Heap}{args:aw WData}{v:aw av}
  (H:l.row.toRowW.claim.pre args=true) (e:WellAll P h v args) :
  ∃ a vs ns,v=[Value.ref a]/\args=[WData.list (ns.map WData.int)]/\h.get? a=some { cls:=.type "list",data:=.seq vs.toArray }/\IntsAre vs ns/\ns.length<=n:=by
 have f:WShape.hasAll [] args [.list .int]=true:=(pre_splitW H).1;have g:l.pre.holds [] { args:=args }=true:=(pre_splitW H).2;obtain⟨d,r,rfl,j,m⟩:=hasAllW_cons f;obtain rfl:=hasAllW_nil m;obtain⟨_,rfl,i⟩:=hasW_list j;obtain⟨ns,rfl⟩:=items_int i
 have b:ns.length<=n:=by
  unfold OpenLaw.pre at g
  have c:(WTm.not (.lt (.lit (.int (n:Int))) (.len (.arg 0)))).holds [] { args:=[.list (ns.map .int)] }=true:=by
   have c:=(holds_andW g).1;rw[k]at c;exact c
  have u:=condW_of c (w_not (w_lt w_lit (w_len_list (w_arg rfl))));rw[bT]at u;refine Nat.le_of_not_lt fun q=>?_
  have Q:(n:Int)<((ns.length:Nat):Int):=by lia
  first
   | (rw[bq Q]at u;exact eu u (by decide))
   | (simp at u;lia)
 cases e with
 | cons o w=>
  cases w
  cases o with
  | list p hall=>exact⟨_,_,ns,rfl,rfl,p,xU ns _ hall,b⟩
def QT(l:OpenLaw)(args:aw WData):l.row.toRowW.claim.post args (.bool true) args=true:=
 postW_of (r:=l.row.toRowW) (X:=(true==true))
  (show WShape.has [] (.bool true) .bool=true by first | rfl | decide | simp [WShape.has,WShape.arms,WShape.armsAll])
  (show (WTm.eq .res (.lit (.bool true))).value [] { args:=args,res:=some (.bool true),after:=args }=some (.bool (true==true)) from w_eq_bool (w_res rfl) w_lit) rfl
def Jy{l:OpenLaw}{n:Nat}{q:ag}{L:aw Str}{XP:(Str->aE av)->Heap->Prop}{y:aI->Heap->Prop}{d:DefRec}
  (x:l.most=some n) (i:d.params.defaults=[])
  (call:∀(w:aI)(S s:ae)(mg m:Str->aE av)(F:ar)(o:Obj)(p c D:av)(a:ar)(vs:aw av)(ns:aw Int),
   Ground q L [] XP w S mg m s.heap->y w s.heap →
   s.heap.get? F=some o->o.data = .func (docDef d.name d.params d.body d.scope p c D)->s.heap.CodeRec c d.name->mg d.name=some (.ref F) →
   s.heap.get? a=some { cls:=.type "list",data:=.seq vs.toArray }->IntsAre vs ns->ns.length<=n->s.gens = #[] →
   codeAny (model l.prog w) callerA (.call (.ref F) ⟨[.ref a],[]⟩) (fun r s'=>r = .ok (.ret (.bool true))/\OldK s.heap s'.heap/\s'.os=s.os/\AllBare s'.gens) s) :
  WalkO q L XP y l.row.toRowW d [] (fun f vs=>PySem.call f vs):=by intro w S s mg m G Y F o p c D T kV A hd e t k B _ _ _ H _ _ g _;obtain rfl:T = .none:=Dflts.none t i;obtain rfl:kV = .none:=Dflts.noKw t;obtain⟨a,vs,ns,rfl,rfl,j,h,b⟩:=QK x H g;refine enter_call (codeAny_mono (call w S s mg m F o p c D a vs ns G Y A (fd_plain hd) e k j h b B) fun r s' u=>?_);obtain⟨rfl,E,v,C⟩:=u;exact⟨.inl ⟨.bool true,.bool true,[],rfl,fun _=>rfl,.bool true,QT l _,fun _=>⟨List.Pairwise.nil,fun _ z=>(nomatch z)⟩⟩,E,v,C⟩
section
variable{prog:ag}{w:aI}{A:ai}{E:av->ae->Prop}{s:ae}{K:Frag}
end
end Att
namespace L2
open PySem PySem.Spec PyProof.Rows
theorem jK:∀ {vs:aw av} {ns:aw Int},IntsAre vs ns->Vals (ns.map V.int) vs
 | _,_,.nil=>.nil
 | _,_,.cons n t h=>.cons ⟨t,rfl⟩ (jK h)
def Only(H:Hp):Prop:=∀ b,H b=none ∨ ∃ o xs,H b=some (.Mh o (.lst xs))
theorem law_call{P:ag}{w:aI}{K:bV}{mg M:Str->aE av}{CX:KQ}{k:Nat}{A a:ar}{Y:af}{x:Str}{sp:Sp}{S:ae}{vs:aw av}{ns:aw Int}
  (Q:K.In S.heap) (i:S.heap.Ns mainGlobals mg) (c:S.heap.Ns builtinsNs M) (y:∀ x:Str,x ≠ "__name__" -> M x=bootBuiltins x) (j:S.heap.NoLimit) (hg:S.gens = #[])
  (t:S.heap.get? a=some { cls:=.type "list",data:=.seq vs.toArray }) (U:IntsAre vs ns) (O:ns.length<=sizeLine) (hr:fP k callerA)
  (F:∀ base:Heap,K.In base->base.Ns mainGlobals mg->aL P w K mg base CX k A Y [x] sp) (f:∀(s:ae)(u:av),BindsTo s Y ⟨[u],[]⟩ [(x,u)])
  (I:∀ H:Hp,Only H->aU K H a (ns.map V.int)->sp [.ref a] H (fun v _=>v = .bl true) fun _ _ _=>False)
  (X:∀ H e s',CX [] H S (fun _ _ _=>False) e s'->False) :
  codeAny (model P w) callerA (.call (.ref A) ⟨[.ref a],[]⟩) (fun r s'=>r = .ok (.ret (.bool true))/\OldK S.heap s'.heap/\s'.os=S.os/\AllBare s'.gens) S:=by
 have R:=jK U;have l:=U.length;have C:∀ H:Hp,Only H->aU K H a (ns.map V.int)->lM P w H S.heap->(∀ b,H b≠none->b=a)->(H a≠none->K.lookup a=none) →
   codeAny (model P w) callerA (.call (.ref A) ⟨[.ref a],[]⟩) (fun r s'=>r = .ok (.ret (.bool true))/\OldK S.heap s'.heap/\s'.os=S.os/\AllBare s'.gens) S:=by
  intro H W hS hok T hK;have L:∀ {b:ar} {o:Obj},S.heap.get? b=some o->H b=none->(Gr S.heap H).get? b=some o:=fun e n=>Vz e n
  have D:∀ {b:ar} {o:Obj} {E:Array DictEntry} {ep:Nat},S.heap.get? b=some o->o.data = .dict E ep->H b=none:=fun {b o E ep} e d=>by
   cases q:H b with
   | none=>rfl
   | some u=>
    have G:b=a:=T b (by rw[q];simp);subst G;rw[t]at e;cases e;have d':Data.seq vs.toArray _=Data.dict E ep:=d
    cases d'
  have N:∀ {b:ar} {m:Str->aE av},S.heap.Ns b m->(Gr S.heap H).Ns b m:=fun {b m} ⟨o,E,ep,e,d,r⟩=>⟨o,E,ep,L e (D e d),d,r⟩
  have g:K.In (Gr S.heap H):=fun b o e=>L (Q b o e) (by
   cases q:H b with
   | none=>rfl
   | some u=>
    have G:b=a:=T b (by rw[q];simp);subst G
    rw[hK (by rw[q];simp)]at e;cases e)
  have hM:Mod K mg (Gr S.heap H):=⟨g,N i,⟨M,N c,y⟩,let ⟨mc,h1,h2⟩:=j;⟨mc,N h1,h2⟩⟩;have e0:N7 P w K mg (Gr S.heap H) callerA [] S H:=⟨rfl,hM,fun b o e=>Z4 e,Nat.le_of_eq (RX _ _),trivial,fun b c=>absurd (show b∈([]:aw ar) from c) (by simp),hok,.of_eq hg⟩;refine codeAny_mono ((F _ g (N i)).run callerA [] S H ⟨[.ref a],[]⟩ [.ref a] [.ref a] _ _ hr e0 (f S (.ref a)) (.cons rfl .nil) (I H W hS)) fun r s' h=>?_
  cases r with
  | error e=>exact (X H e s' h).elim
  | ok fl=>
   cases fl with
   | next=>exact c9 h
   | brk=>exact c9 h
   | cont=>exact c9 h
   | ret u=>
    obtain⟨v,_,os,B,un,p,r',q⟩:=h;have q':v = .bl true:=q;subst q';obtain rfl:u=Value.bool true:=r';refine⟨rfl,OldK.of_keep fun b o e=>?_,os,B⟩
    cases q:H b with
    | none=>exact un.keep b o e q (by intro z;exact absurd (show b∈([]:aw ar) from z) (by simp)) (by simp)
    | some u=>
     rcases W b with z | ⟨ob,xs,z⟩
     .rw[q]at z;cases z
     .have z2:=un.uZ b ob _ z;obtain⟨J,_⟩:=hok b _ z;obtain⟨e2,_⟩:=p b _ z2;rw[e]at J;cases J;exact e2
 cases hk:K.lookup a with
 | some o=>
  have e:=Q a o hk;rw[t]at e
  cases e
  refine C (fun _=>none) (fun _=>.inl rfl) (.inr ⟨_,vs.toArray,_,hk,rfl,rfl,rfl,by rw[ia,l];exact O,by simpa using R⟩) (fun b u z=>by have Z:(none:aE HO)=some u:=z;cases Z) (fun b z=>eu rfl z) fun z=>eu rfl z
 | none=>
  refine C (fun b=>if b=a then some (.Mh { cls:=.type "list",data:=.seq vs.toArray } (.lst (ns.map V.int))) else none) (fun b=>?_) (.inl (.inr ⟨{ cls:=.type "list",data:=.seq vs.toArray },cS rfl⟩)) (fun b u z=>?_) (fun b z=>?_) fun _=>hk
  .by_cases c:b=a
   .exact .inr ⟨_,_,cS c⟩
   .exact .inl (cK c)
  .by_cases c:b=a
   .have Z:=(cS c).symm.trans z
    cases Z
    subst c;exact⟨t,by rw[bT];exact O,vs,_,R,t⟩
   .have Z:=(cK c).symm.trans z
    cases Z
  .by_cases c:b=a
   .exact c
   .exact eu (cK c) z
def Xz{l:PySem.W.OpenLaw}{n k:Nat}{q:ag}{L:aw Str}{XP:(Str->aE av)->Heap->Prop}{P:aI->Heap->Prop}{d:DefRec}{K:Params->bV}{CX:aI->KQ}{sp:aI->Sp}{x:Str}
  (z:l.most=some n) (p:n<=sizeLine) (i:d.params.defaults=[]) (D:fP k callerA)
  (E:∀(w:aI)(h:Heap),P w h->(K w.params).In h)
  (F:∀(w:aI)(mg:Str->aE av)(g:ar)(h:Heap),(K w.params).In h->h.Ns mainGlobals mg->mg d.name=some (.ref g) →
   ∃ r:af,(∀(s:ae)(u:av),BindsTo s r ⟨[u],[]⟩ [(x,u)]) ∧
    ∀ base:Heap,(K w.params).In base->base.Ns mainGlobals mg->aL l.prog w (K w.params) mg base (CX w) k g r [x] (sp w))
  (m:∀(w:aI)(H:Hp)(a:ar)(ns:aw Int),ns.length<=n->Only H->aU (K w.params) H a (ns.map V.int)->sp w [.ref a] H (fun v _=>v = .bl true) fun _ _ _=>False)
  (X:∀(w:aI)(H:Hp)(s:ae)(e:av)(s':ae),CX w [] H s (fun _ _ _=>False) e s'->False) :
  PySem.W.WalkO q L XP P l.row.toRowW d [] (fun f vs=>PySem.call f vs):=by refine Att.Jy z i fun w _ S mg _ g o _ _ _ a vs ns G Y _ _ _ t j c b C=>?_;have y:=E w _ Y;obtain⟨r,A,I⟩:=F w mg g _ y G.T.g t;exact law_call y G.T.g G.T.b G.T.builtins G.T.nolimit C j c (br b p) D I A (fun H W B=>m w H a ns b W B) fun H e s'=>X w H S e s'
abbrev aN:KQ:=fun _ _ _ _ _ _=>False
abbrev E0:XK:=fun _ _ _=>False
def yF:Passes aN X E0:=fun _ _ _ _ _ _ _ h=>h.elim
structure bO(K:bV)(x qual:Str)(st:Stmt)(f:Addr)(fd:FuncData):Prop where
 ex:∃(oc:Value)(od:Option Addr)(kV doc pm:Value)(an:Option Addr)(cdv ct:Value)(osl:Array (Option Value)),
  fd=PySem.W.fnOf x qual (qd st) (jE st) (aA st) .none kV doc pm an cdv ct/\K.lookup f=some ⟨oc,od,.func fd,osl⟩/\PySem.W.codeIn K cdv qual=true
 kp:KI K f
section
variable{P:ag}{w:aI}{K:bV}{mg:Str->aE av}{base:Heap}
def bO.ok{x l:Str}{st:Stmt}{f:ar}{a:af}{N ps:aw Str}{k:Nat}{sp:Sp}(F:bO K x l st f a)(S:aF N ps (aA st))(len:∀ vs H Q E,sp vs H Q E->vs.length=ps.length)
  (i:∀(c:av)(A:ai)(o:aw Env)(s:ae)(H:Hp)(vs:aw V)(Q:VK)(E:XK),fP k (A.deeper (envOfC l (aA st) s.heap.objs.size f c))->sp vs H Q E →
   ∃ t,Cw (wF aN P w K mg base N l (aA st) f c A o s H E).nox (jE st) t/\t { nx:=fun _ b=>Q .non b,rt:=Q } (start N vs) H):aL P w K mg base aN (k+1) f a ps sp:=by obtain⟨_,_,_,_,_,_,c,_,_,rfl,L,d⟩:=F.ex;refine qAT L d S len fun A o s H vs Q E g m=>?_;obtain⟨t,h,q⟩:=i c A o s H vs Q E g m;exact⟨t,h.nox,q⟩
def bO.binds{x q:Str}{st:Stmt}{f:ar}{d:af}{ps:aw Str}(F:bO K x q st f d)
  (h:∀(kV D p:av)(Y:aE ar)(c Z:av)(us:aw av),us.length=ps.length->bindArgs (PySem.W.fnOf x q (qd st) (jE st) (aA st) .none kV D p Y c Z) ⟨us,[]⟩=pure (ps.zip us)):Binds K d ps []:=by obtain⟨_,_,kV,D,p,Y,c,Z,_,rfl,_,_⟩:=F.ex;exact .all (h kV D p Y c Z)
def Bf{x q:Str}{st:Stmt}{f:ar}{o:av}{od Y:aE ar}{G:Array (aE av)}{kV D p C Z:av}(l:K.lookup f=some ⟨o,od,.func (PySem.W.fnOf x q (qd st) (jE st) (aA st) .none kV D p Y C Z),G⟩)
  (c:PySem.W.codeIn K C q=true) (k:KI K f):bO K x q st f (PySem.W.fnOf x q (qd st) (jE st) (aA st) .none kV D p Y C Z):=⟨⟨o,od,kV,D,p,Y,C,Z,G,rfl,l,c⟩,k⟩
end
def zW(h:n<=1000):n<sizeLine:=iA h (by decide)
section
variable{X:Cx}
def pv(i:Nat)(h:X.N[i]? = some x:=by rfl)(H:Vis X.env.scope x:=by first | exact bb rfl | exact Or.inr (bb rfl) | exact Or.inr (Or.inr rfl))(hd:(x==("__debug__" : Str))=false:=by decide)
  (d:(x==("__classdict__" : Str))=false:=by decide):PE X (.Name x pos) (qB9 i):=qBW h H hd d
end
def Bc{A B:Prop}(h:B):if false=true then A else B:=by rw[cK rA];exact h
def MT{A B:Prop}(h:A):if true=true then A else B:=by rw[cS rfl];exact h
def vp{c A B:Prop} [Decidable c] (f:c->A) (q:¬ c->B):if c then A else B:=by
 by_cases h:c
 .rw[cS h];exact f h
 .rw[cK h];exact q h
def aH(H h:Hp):Prop:=∀ b o,H b=some o->h b=some o
def aH.refl(H:Hp):aH H H:=fun _ _ h=>h
def aH.trans(a:aH H H1)(b:aH H1 H2):aH H H2:=fun c o h=>b c o (a c o h)
theorem aH.free(e:aH H H')(h:H' l=Option.none):H l=Option.none:=by
 cases q:H l with
 | none=>rfl
 | some o=>
  rw[e l o q]at h
  cases h
def aH.seq{K:bV}{H b:Hp}{a:ar}{xs:aw V}(e:aH H b)(h:aU K H a xs):aU K b a xs:=by
 rcases h with (h | ⟨o,h⟩) | h
 .exact .inl (.inl (e _ _ h))
 .exact .inl (.inr ⟨o,e _ _ h⟩)
 .exact .inr h
end L2
namespace L2
def aW{T:Prop}(h:∀ G:Prop,(T->G)->G):T:=h T id
def aG{K:bV}{H:Hp}{p:PySem.Addr}{xs:aw V}{i:Int}{v:V}{Q:VK}(f:aJ K H p xs)(q:mX xs i=some v)(b:Q v H):dM K (.ref p) (.int i) H Q:=⟨p,xs,i,v,rfl,rfl,f,q,b⟩
def gJ{K:bV}{H:Hp}{p:PySem.Addr}{xs:aw V}{i:Int}{v:V}{Q:VK}(f:aU K H p xs)(q:mX xs i=some v)(b:Q v H):Yc K (.ref p) (.int i) H Q:=⟨p,xs,i,v,rfl,rfl,f,q,b⟩
def xR{p:PySem.Addr}{xs:aw V}{E:PySem.Addr->Prop}{D:PySem.Addr->aw V->Prop}{Z:PySem.Addr->aw V->Prop}(e:E p)(d:D p xs)(z:Z p xs):∃ p' x,E p'/\D p' x/\Z p' x:=⟨p,xs,e,d,z⟩
def eO{i j:Int}{P:Int->Int->Prop}(h:P i j):∃ I J,V.int i = .int I/\V.int j = .int J/\P I J:=⟨i,j,rfl,rfl,h⟩
def sq_{t u:TS}{N B C:St->Hp->Prop}{R:VK}{σ:St}{H:Hp}(h:∀ X:St->Hp->Prop,(∀ {σ H},u ⟨N,R,B,C⟩ σ H->X σ H)->t ⟨X,R,B,C⟩ σ H):Y4 t u ⟨N,R,B,C⟩ σ H:=h _ fun z=>z
def lq_{t u:TS}{N B:St->Hp->Prop}{R:VK}{σ:St}{H:Hp}(h:∀ Y:St->Hp->Prop,(∀ {σ H},N σ H->Y σ H)->∀ X:St->Hp->Prop,(∀ {σ H},u ⟨Y,R,B,Y⟩ σ H->X σ H)->t ⟨X,R,B,Y⟩ σ H):Y4 t u ⟨N,R,B,N⟩ σ H:=h _ (fun z=>z) _ fun z=>z
def ex2{α β:Sort _}{P:α->β->Prop} (a b) (h:P a b):∃ a b,P a b:=⟨a,b,h⟩
def ex3{α β γ:Sort _}{P:α->β->γ->Prop} (a b c) (h:P a b c):∃ a b c,P a b c:=⟨a,b,c,h⟩
def ex4{α β γ δ:Sort _}{P:α->β->γ->δ->Prop} (a b c d) (h:P a b c d):∃ a b c d,P a b c d:=⟨a,b,c,d,h⟩
def ex6{α β γ δ ε ζ:Sort _}{P:α->β->γ->δ->ε->ζ->Prop} (a b c d e f) (h:P a b c d e f):∃ a b c d e f,P a b c d e f:=⟨a,b,c,d,e,f,h⟩
end L2
namespace wH
open PySem L2 jP
theorem len0{P:aw av->Prop}(h:P [])(xs:aw av)(e:xs.length=0):P xs:=by
 cases xs with
 | nil=>exact h
 | cons a ys=>cases e
theorem Vm{n:Nat}{P:aw av->Prop}(h:∀ a (ys:aw av),ys.length=n->P (a::ys))(xs:aw av)(e:xs.length=n+1):P xs:=by
 cases xs with
 | nil=>cases e
 | cons a ys=>exact h a ys (Nat.succ.inj e)
def lG{P:aw av->Prop}(h:∀ a,P [a])(xs:aw av)(e:xs.length=1):P xs:=Vm (fun a=>len0 (h a)) xs e
def jl{P:aw av->Prop}(h:∀ a b,P [a,b])(xs:aw av)(e:xs.length=2):P xs:=Vm (fun a=>lG (h a)) xs e
def iW{P:aw av->Prop}(h:∀ a b c,P [a,b,c])(xs:aw av)(e:xs.length=3):P xs:=Vm (fun a=>jl (h a)) xs e
def xT{P:aw av->Prop}(h:∀ a b c d,P [a,b,c,d])(xs:aw av)(e:xs.length=4):P xs:=Vm (fun a=>iW (h a)) xs e
def qFI{P:aw av->Prop}(h:∀ a b c d f,P [a,b,c,d,f])(xs:aw av)(e:xs.length=5):P xs:=Vm (fun a=>xT (h a)) xs e
def hdef:PySem.W.defOf QV "law" = some (Mu,[]):=by kernel_rfl
def hok:(PySem.W.chainsOk QV&&PySem.W.opensWell PW&&(PySem.W.frees PySem.Challenge.rw_nesthall_k30_a_nest_keeps_its_stand.row.toRowW&&PySem.Challenge.rw_nesthall_k30_a_nest_keeps_its_stand.row.within.isEmpty))=true:=by kernel_rfl
def hbare:PW.bare:=⟨rfl,rfl,rfl,rfl,rfl,by decide +kernel⟩
def hkw:PySem.W.kwWritten? Mu.params.kwonlyargs Mu.params.kw_defaults=some []:=by kernel_rfl
def hthe:PW.theDef "law" = some (Mu.params,Mu.body,Mu.scope):=by kernel_rfl
abbrev NS(x:Str)(a:ar):Prop:=∀ P:Params,PySem.W.nsIn (KO P) mainGlobals x=some (some (.ref a))
def ns_{x:Str}{a:ar}(h:NS x a:=by exact fun P=>by kernel_rfl):NS x a:=h
abbrev NZ(x:Str):Prop:=∀ P:Params,PySem.W.nsIn (KO P) mainGlobals x=some none
abbrev FU(x q:Str)(st:Stmt)(a:ar)(d:af):Prop:=∀ P:Params,bO (KO P) x q st a d
def cZ{x q:Str}{st:Stmt}{a:ar}{p c:av}(h:∀ P:Params,(KO P).lookup a=some (cD (cJ x q st p c))/\PySem.W.codeIn (KO P) c q=true/\PySem.W.keepIn (KO P) (.ref a)=true:=by exact fun _=>⟨by kernel_rfl,by kernel_rfl,by kernel_rfl⟩):FU x q st a (cJ x q st p c):=fun P=>Bf (h P).1 (h P).2.1 (h P).2.2
def a1:NS "_law_cell_at" 591:=ns_
def u1:FU "_law_cell_at" "_law_cell_at" O7 591 fd1:=cZ
def a2:NS "_law_mixed" 598:=ns_
def u2:FU "_law_mixed" "_law_mixed" Ah 598 fd2:=cZ
def a3:NS "holds" 21:=ns_
def u3:FU "holds" "holds" pJ 21 fd3:=cZ
def a4:NS "guards_within" 28:=ns_
def u4(P:Params):bO (KO P) "guards_within" "guards_within" FP.xr 28 fd4:=Bf (show (KO P).lookup 28=some (cD fd4) by kernel_rfl) (by kernel_rfl) (by kernel_rfl)
def a5:NS "height" 33:=ns_
def u5(P:Params):bO (KO P) "height" "height" FP.qW 33 fd5:=Bf (show (KO P).lookup 33=some (cD fd5) by kernel_rfl) (by kernel_rfl) (by kernel_rfl)
def a6:NS "plain_guards" 40:=ns_
def u6(P:Params):bO (KO P) "plain_guards" "plain_guards" FP.jd 40 fd6:=Bf (show (KO P).lookup 40=some (cD fd6) by kernel_rfl) (by kernel_rfl) (by kernel_rfl)
def a7:NS "asked" 45:=ns_
def u7(P:Params):bO (KO P) "asked" "asked" FP.vO 45 fd7:=Bf (show (KO P).lookup 45=some (cD fd7) by kernel_rfl) (by kernel_rfl) (by kernel_rfl)
def a8:NS "is_word" 50:=ns_
def u8:FU "is_word" "is_word" tZ 50 fd8:=cZ
def a9:NS "is_number_of" 59:=ns_
def u9:FU "is_number_of" "is_number_of" Fw 59 fd9:=cZ
def a10:NS "is_in_reach" 66:=ns_
def u10:FU "is_in_reach" "is_in_reach" tV 66 qID:=cZ
def a11:NS "name_has_fault" 78:=ns_
def u11:FU "name_has_fault" "name_has_fault" yZ 78 qIC:=cZ
def a12:NS "names_of" 71:=ns_
def u12:FU "names_of" "names_of" pI 71 qIB:=cZ
def a13:NS "box_has_fault" 85:=ns_
def u13:FU "box_has_fault" "box_has_fault" Fz 85 qIA:=cZ
def a14:NS "deed_has_fault" 92:=ns_
def u14:FU "deed_has_fault" "deed_has_fault" yj 92 qI9:=cZ
def a15:NS "deeds_have_fault" 97:=ns_
def u15:FU "deeds_have_fault" "deeds_have_fault" pK 97 qI8:=cZ
def a16:NS "depth_has_fault" 104:=ns_
def u16:FU "depth_has_fault" "depth_has_fault" uA 104 qI7:=cZ
def a17:NS "keeps_has_fault" 111:=ns_
def u17:FU "keeps_has_fault" "keeps_has_fault" tW 111 qI6:=cZ
def a18:NS "room_has_fault" 118:=ns_
def u18:FU "room_has_fault" "room_has_fault" xu 118 qI5:=cZ
def a19:NS "end_has_fault" 125:=ns_
def u19:FU "end_has_fault" "end_has_fault" Fy 125 qI4:=cZ
def a20:NS "guard_has_fault" 130:=ns_
def u20:FU "guard_has_fault" "guard_has_fault" je 130 qI3:=cZ
def a21:NS "goal_has_fault" 137:=ns_
def u21:FU "goal_has_fault" "goal_has_fault" ye 137 qI2:=cZ
def a22:NS "door_has_fault" 144:=ns_
def u22:FU "door_has_fault" "door_has_fault" yg 144 qI1:=cZ
def a23:NS "bound_faults" 151:=ns_
def u23:FU "bound_faults" "bound_faults" uD 151 qI0:=cZ
def a24:NS "box_faults" 158:=ns_
def u24:FU "box_faults" "box_faults" GC 158 qHZ:=cZ
def a25:NS "event_faults" 165:=ns_
def u25:FU "event_faults" "event_faults" O5 165 qHY:=cZ
def a26:NS "room_faults" 172:=ns_
def u26:FU "room_faults" "room_faults" xx 172 qHX:=cZ
def a27:NS "door_faults" 179:=ns_
def u27:FU "door_faults" "door_faults" yh 179 qHW:=cZ
def a28:NS "faults" 186:=ns_
def u28:FU "faults" "faults" yf 186 qHV:=cZ
def a29:NS "answers" 438:=ns_
def u29:FU "answers" "answers" uE 438 qHU:=cZ
def a30:NS "end_of" 325:=ns_
def u30:FU "end_of" "end_of" Fx 325 qHT:=cZ
def a31:NS "parent" 318:=ns_
def u31:FU "parent" "parent" yX 318 qHS:=cZ
def a32:NS "lies_in" 337:=ns_
def u32:FU "lies_in" "lies_in" yc 337 qHR:=cZ
def a33:NS "hall_over" 344:=ns_
def u33:FU "hall_over" "hall_over" qX 344 qHQ:=cZ
def a34:NS "kids" 330:=ns_
def u34:FU "kids" "kids" Iz 330 qHP:=cZ
def a35:NS "bears_goal" 349:=ns_
def u35:FU "bears_goal" "bears_goal" Aj 349 qHO:=cZ
def a36:NS "next_in" 356:=ns_
def u36:FU "next_in" "next_in" O3 356 qHN:=cZ
def a37:NS "goings_in" 363:=ns_
def u37:FU "goings_in" "goings_in" sIn 363 qHM:=cZ
def a38:NS "goings_out" 368:=ns_
def u38:FU "goings_out" "goings_out" U4 368 qHL:=cZ
def a39:NS "plain_ones" 460:=ns_
def u39:FU "plain_ones" "plain_ones" jd 460 qHK:=cZ
def a40:NS "kept_of" 467:=ns_
def u40:FU "kept_of" "kept_of" yd 467 qHJ:=cZ
def a41:NS "keeping" 474:=ns_
def u41:FU "keeping" "keeping" tX 474 qHI:=cZ
def a42:NS "is_outdone" 443:=ns_
def u42:FU "is_outdone" "is_outdone" lg 443 qHH:=cZ
def a43:NS "chosen" 448:=ns_
def u43:FU "chosen" "chosen" uB 448 qHG:=cZ
def a44:NS "changed" 417:=ns_
def u44:FU "changed" "changed" uC 417 qHF:=cZ
def a45:NS "recorded" 424:=ns_
def u45:FU "recorded" "recorded" qU 424 qHE:=cZ
def a46:NS "done" 431:=ns_
def u46:FU "done" "done" O6 431 qHD:=cZ
def a47:NS "sizes_of" 484:=ns_
def u47:FU "sizes_of" "sizes_of" jb 484 qHC:=cZ
def a48:NS "rooms_left" 511:=ns_
def u48:FU "rooms_left" "rooms_left" fc 511 qHB:=cZ
def a49:NS "steps_in" 489:=ns_
def u49:FU "steps_in" "steps_in" jZ 489 qHA:=cZ
def a50:NS "steps_out" 494:=ns_
def u50:FU "steps_out" "steps_out" iT 494 qH9:=cZ
def a51:NS "stepped" 501:=ns_
def u51:FU "stepped" "stepped" qM 501 qH8:=cZ
def a52:NS "goals_of" 455:=ns_
def u52:FU "goals_of" "goals_of" tu 455 qH7:=cZ
def a53:NS "passed" 506:=ns_
def u53:FU "passed" "passed" pH 506 qH6:=cZ
def a54:NS "turn" 518:=ns_
def u54:FU "turn" "turn" Fp 518 qH5:=cZ
def a55:NS "rested" 523:=ns_
def u55:FU "rested" "rested" pG 523 qH4:=cZ
def a56:NS "begun" 528:=ns_
def u56:FU "begun" "begun" tO 528 qH3:=cZ
def a57:NS "after" 535:=ns_
def u57:FU "after" "after" xq 535 qH2:=cZ
def a58:NS "lamps" 479:=ns_
def u58:FU "lamps" "lamps" Ai 479 qH1:=cZ
def a59:NS "_law_name" 605:=ns_
def u59:FU "_law_name" "_law_name" tQ 605 qH0:=cZ
def a60:NS "_law_deed" 612:=ns_
def u60:FU "_law_deed" "_law_deed" tR 612 qGZ:=cZ
def a61:NS "_law_deeds" 619:=ns_
def u61:FU "_law_deeds" "_law_deeds" qT 619 qGY:=cZ
def a62:NS "_law_guard" 626:=ns_
def u62:FU "_law_guard" "_law_guard" jL 626 qGX:=cZ
def a63:NS "_law_depths" 633:=ns_
def u63:FU "_law_depths" "_law_depths" nJ 633 qGW:=cZ
def a64:NS "_law_rooms" 640:=ns_
def u64:FU "_law_rooms" "_law_rooms" Fv 640 qGV:=cZ
def a65:NS "_law_doors" 645:=ns_
def u65:FU "_law_doors" "_law_doors" lY 645 qGU:=cZ
def a66:NS "_law_chart" 650:=ns_
def u66:FU "_law_chart" "_law_chart" lZ 650 qGT:=cZ
def a67:NS "_law_same" 657:=ns_
def u67:FU "_law_same" "_law_same" Iw 657 qGS:=cZ
def a68:NS "_law_event" 664:=ns_
def u68:FU "_law_event" "_law_event" qR 664 qGR:=cZ
def a69:NS "_law_refused" 671:=ns_
def u69:FU "_law_refused" "_law_refused" kY 671 qGQ:=cZ
def a70:NS "_law_stands" 676:=ns_
def u70:FU "_law_stands" "_law_stands" jc 676 qGP:=cZ
def a71:NS "law" 683:=ns_
def u71:FU "law" "law" wX 683 ZZ:=cZ
def qJ4(P:Params):PySem.W.findIn (KO P) (.ref 406) "__init__" = some (some (.ref 382)):=by kernel_rfl
def qFT(P:Params):PySem.W.isFn (KO P) (.ref 382)=true:=by kernel_rfl
def qDR:FU "__init__" "Letters.__init__" O4 382 Wh:=cZ
def qJ3(P:Params):PySem.W.findIn (KO P) (.ref 406) "add" = some (some (.ref 389)):=by kernel_rfl
def qFS(P:Params):PySem.W.isFn (KO P) (.ref 389)=true:=by kernel_rfl
def qDQ:FU "add" "Letters.add" YM 389 Wg:=cZ
def qJ2(P:Params):PySem.W.findIn (KO P) (.ref 406) "taken" = some (some (.ref 396)):=by kernel_rfl
def qFR(P:Params):PySem.W.isFn (KO P) (.ref 396)=true:=by kernel_rfl
def qDP:FU "taken" "Letters.taken" Fq 396 Wf:=cZ
def qJ1(P:Params):PySem.W.findIn (KO P) (.ref 406) "waiting" = some (some (.ref 403)):=by kernel_rfl
def qFQ(P:Params):PySem.W.isFn (KO P) (.ref 403)=true:=by kernel_rfl
def qDO:FU "waiting" "Letters.waiting" tU 403 We:=cZ
def qJ0(P:Params):PySem.W.findIn (KO P) (.ref 580) "__init__" = some (some (.ref 549)):=by kernel_rfl
def qFP(P:Params):PySem.W.isFn (KO P) (.ref 549)=true:=by kernel_rfl
def qDN:FU "__init__" "Nest.__init__" kW 549 Wd:=cZ
def qIZ(P:Params):PySem.W.findIn (KO P) (.ref 580) "first" = some (some (.ref 556)):=by kernel_rfl
def qFO(P:Params):PySem.W.isFn (KO P) (.ref 556)=true:=by kernel_rfl
def qDM:FU "first" "Nest.first" qP 556 Wc:=cZ
def qIY(P:Params):PySem.W.findIn (KO P) (.ref 580) "run" = some (some (.ref 563)):=by kernel_rfl
def qFN(P:Params):PySem.W.isFn (KO P) (.ref 563)=true:=by kernel_rfl
def qDL:FU "run" "Nest.run" xn 563 Wb:=cZ
def qIX(P:Params):PySem.W.findIn (KO P) (.ref 580) "stand" = some (some (.ref 570)):=by kernel_rfl
def qFM(P:Params):PySem.W.isFn (KO P) (.ref 570)=true:=by kernel_rfl
def qDK:FU "stand" "Nest.stand" qN 570 Wa:=cZ
def qIW(P:Params):PySem.W.findIn (KO P) (.ref 580) "lamps" = some (some (.ref 577)):=by kernel_rfl
def qFL(P:Params):PySem.W.isFn (KO P) (.ref 577)=true:=by kernel_rfl
def qDJ:FU "lamps" "Nest.lamps" qO 577 WY:=cZ
def qDI:FU "__init__" "NoEvent.__init__" fj 232 WX:=cZ
def aC0:NS "Letters" 406:=ns_
def HB(P:Params):vC (KO P) 406:=⟨by kernel_rfl,by kernel_rfl,by kernel_rfl,by kernel_rfl⟩
def qFA(P:Params):PySem.W.makesIn (KO P) 406=true/\PySem.W.keepIn (KO P) (.ref 406)=true:=⟨by kernel_rfl,by kernel_rfl⟩
def qZ(P:Params):PySem.W.findIn (KO P) (.ref 406) "most" = some none:=by kernel_rfl
def fK(P:Params):PySem.W.findIn (KO P) (.ref 406) "events" = some none:=by kernel_rfl
def aC1:NS "Nest" 580:=ns_
def Cv(P:Params):vC (KO P) 580:=⟨by kernel_rfl,by kernel_rfl,by kernel_rfl,by kernel_rfl⟩
def qF9(P:Params):PySem.W.makesIn (KO P) 580=true/\PySem.W.keepIn (KO P) (.ref 580)=true:=⟨by kernel_rfl,by kernel_rfl⟩
def jh(P:Params):PySem.W.findIn (KO P) (.ref 580) "chart" = some none:=by kernel_rfl
def iD(P:Params):PySem.W.findIn (KO P) (.ref 580) "place" = some none:=by kernel_rfl
def gH(P:Params):PySem.W.findIn (KO P) (.ref 580) "beginning" = some none:=by kernel_rfl
def aC2:NS "NoEvent" 235:=ns_
def aC3:NS "NestError" 196:=ns_
def aC4:NS "BadChart" 216:=ns_
def aC5:NS "NoName" 309:=ns_
def aC6:NS "NoRow" 297:=ns_
def aC7:NS "NoWords" 266:=ns_
def aC8:NS "TooWide" 254:=ns_
def aC9:NS "Unread" 285:=ns_
def z1:NZ "len" := fun P=>by kernel_rfl
def z2:NZ "max" := fun P=>by kernel_rfl
def z3:NZ "min" := fun P=>by kernel_rfl
def z4:NZ "range" := fun P=>by kernel_rfl
def z5:NZ "list" := fun P=>by kernel_rfl
def z6:NZ "tuple" := fun P=>by kernel_rfl
def z7:NZ "isinstance" := fun P=>by kernel_rfl
def z8:NZ "int" := fun P=>by kernel_rfl
def z9:NZ "bool" := fun P=>by kernel_rfl
def z10:NZ "sorted" := fun P=>by kernel_rfl
def z11:NZ "any" := fun P=>by kernel_rfl
def z12:NZ "enumerate" := fun P=>by kernel_rfl
def z13:NZ "str" := fun P=>by kernel_rfl
def z14:NZ "all" := fun P=>by kernel_rfl
def z15:NZ "set" := fun P=>by kernel_rfl
def z16:NZ "ValueError" := fun P=>by kernel_rfl
def v1(P:Params):PySem.W.nsIn (KO P) mainGlobals "SMALL_LETTERS" = some (some (.str "abcdefghijklmnopqrstuvwxyz" 230)):=by kernel_rfl
def v2(P:Params):PySem.W.nsIn (KO P) mainGlobals "LONGEST" = some (some (.int (12) 232)):=by kernel_rfl
def v3(P:Params):PySem.W.nsIn (KO P) mainGlobals "MOST_LETTERS" = some (some (.int (12) 249)):=by kernel_rfl
def v4(P:Params):PySem.W.nsIn (KO P) mainGlobals "MOST_TURNS" = some (some (.int (20) 251)):=by kernel_rfl
def v5(P:Params):PySem.W.nsIn (KO P) mainGlobals "MOST_BOXES" = some (some (.int (6) 253)):=by kernel_rfl
def v6(P:Params):PySem.W.nsIn (KO P) mainGlobals "MOST_EVENTS" = some (some (.int (8) 255)):=by kernel_rfl
def v7(P:Params):PySem.W.nsIn (KO P) mainGlobals "MOST_ROOMS" = some (some (.int (40) 257)):=by kernel_rfl
def v8(P:Params):PySem.W.nsIn (KO P) mainGlobals "MOST_DOORS" = some (some (.int (60) 259)):=by kernel_rfl
def v9(P:Params):PySem.W.nsIn (KO P) mainGlobals "MOST_DEEDS" = some (some (.int (8) 261)):=by kernel_rfl
def v10(P:Params):PySem.W.nsIn (KO P) mainGlobals "DEEPEST" = some (some (.int (12) 263)):=by kernel_rfl
def v11(P:Params):PySem.W.nsIn (KO P) mainGlobals "HIGHEST" = some (some (.int (6) 265)):=by kernel_rfl
def v12(P:Params):PySem.W.nsIn (KO P) mainGlobals "GREATEST" = some (some (.int (1000000000000000000000000000000) 267)):=by kernel_rfl
def vT1:NS "ORDERS" 51:=ns_
def vT2:NS "KINDS" 52:=ns_
def fLS:NS "lamps_stands" 479:=ns_
def Mp(P:Params):PySem.W.keepIn (KO P) (.ref 235)=true:=by kernel_rfl
def Ml(P:Params):PySem.W.exmOne (KO P) (.ref 235) (.ref 235)=some true:=by kernel_rfl
def Gy(P:Params):PySem.W.exmOne (KO P) (.ref 235) (.ref 196)=some true:=by kernel_rfl
def fV1(P:Params):PySem.W.kitOne (KO P) (.ref 235) (.type "ValueError")=some true:=by kernel_rfl
def fV2(P:Params):PySem.W.kitOne (KO P) (.ref 235) (.ref 196)=some true:=by kernel_rfl
def fV3(P:Params):PySem.W.kitAny (KO P) (.ref 235) ([216,309,297,266,254,285].map Value.ref)=some false:=by kernel_rfl
def fE1(P:Params):PySem.W.specialIn (KO P) (.ref 196) "__getattribute__" = some (some (.builtin "type.__getattribute__")):=by kernel_rfl
def fE2(P:Params):PySem.W.readsIn (KO P) 196 (.type "type")=true:=by kernel_rfl
def fE3(P:Params):PySem.W.findCls (KO P) (.ref 196) (.type "type") "__init__" = some (.val (.builtin "ValueError.__init__")):=by kernel_rfl
end wH
namespace L2
open PySem PyProof.Rows
def okS{P:ag}{w:aI}{K:bV}{mg:Str->aE av}{base:Heap}{x q:Str}{st:Stmt}{f:ar}{d:af}{N ps:aw Str}{k:Nat}{sp:Sp}(a:Scope)(h:aA st=a)(F:bO K x q st f d)(S:aF N ps a)(len:∀ vs H Q E,sp vs H Q E->vs.length=ps.length)
  (i:∀ c A o s H vs Q E,fP k (A.deeper (envOfC q a s.heap.objs.size f c))->sp vs H Q E →
   ∃ t,Cw (wF aN P w K mg base N q a f c A o s H E).nox (jE st) t/\t { nx:=fun _ b=>Q .non b,rt:=Q } (start N vs) H):aL P w K mg base aN (k+1) f d ps sp:=by subst h;exact F.ok S len i
end L2
namespace L2
open PySem PySem.Spec PyProof.Rows
def lM.adopt(x:lM P w H h)(j:H a=none)(new:bM P w (upd H a o) h a o):lM P w (upd H a o) h:=fun b u e=>by
 by_cases d:b=a
 .subst d;rw[zC]at e;cases e;exact new
 .rw[zR d]at e
  exact (x b u e).stay (fun c v _ q=>q) (fun c q=>by rw[zR (zN q j)];exact q) fun c _ q=>by rw[zR (zN q j)];exact q
def Inv.adopt(I:Inv X pins σ H s)(f:oJ X pins H a)(new:bM X.prog X.w (upd H a o) s.heap a o):Inv X pins σ (upd H a o) s:=by
 obtain⟨j,L,_,hex,d,g⟩:=f;refine⟨I.ok,I.os,I.bare,⟨I.base.keep,I.base.slot,fun b O e n h=>?_,I.base.there,fun b xs e=>?_,fun b O u e=>?_,fun b ps e=>?_⟩,I.loc,I.cell,by rw[zR (bE L)];exact I.free,fun x c e=>by rw[zR (d x c e)];exact I.jq x c e,fun p q=>?_,lM.adopt I.hok j new,I.len⟩
 .have N:b≠a:=fun z=>by
   rcases hex with Z | Z
   .exact h (z▸Z)
   .exact eu (gQ e) (by rw[z];exact Nat.not_lt.mpr Z)
  rw[zR N];exact I.base.free b O e n h
 .have q:=I.base.tups b xs e;rw[zR (zN q j)];exact q
 .have q:=I.base.uZ b O u e;rw[zR (zN q j)];exact q
 .obtain⟨m,q⟩:=I.base.vH b ps e;exact⟨m,by rw[zR (zN q j)];exact q⟩
 .obtain⟨e,n,r⟩:=I.pin p q;exact⟨e,by rw[zR (g p q)];exact n,r⟩
theorem mU{α β:Type}{f:α->β->Sem (ForInStep β)}{g:α->β->β}:∀(l:aw α)(c:β),(∀ x∈l,∀ c,f x c=pure (.yield (g x c)))->forIn l c f=pure (l.foldl (fun c x=>g x c) c)
 | [],_,_=>rfl
 | x::l,c,h=>by
  rw[List.forIn_cons,h x FZ,pure_bind];exact mU l (g x c) fun y O=>h y (Hr _ O)
noncomputable def clG(e:Env)(x:Str×NameKind)(c:aw (Str×ar)):aw (Str×ar):=if (x.2==NameKind.free)=true then (x.1,(e.cells.lookup x.1).getD 0)::c else c
def Ju(e:Env)(S:Scope):aw (Str×ar):=S.names.foldl (fun c x=>clG e x c) []
def Bp{e:Env}{S:Scope}(h:∀ y∈S.names,y.2 = .free->∃ c,e.cells.lookup y.1=some c):closureFor S e=pure (Ju e S):=by
 simp only[closureFor]
 rw[mU (g:=clG e) S.names [] (fun x f c=>by
  obtain⟨n,k⟩:=x;unfold clG
  by_cases b:(k==NameKind.free)=true
  .obtain⟨a,i⟩:=h _ f (by simpa using b);have d:e.cells.lookup n=some a:=i;simp only[b,if_true,cellOf,d,pure_bind,Option.getD_some]
  .have H:(k==NameKind.free)=false:=eJ.mpr b
   simp only[H,Bool.false_eq_true,if_false])]
 rfl
theorem Bq:∀(l:aw (Str×NameKind))(C:aw (Str×ar)),(∀ y∈l,y.2 = .free->∃ c,env.cells.lookup y.1=some c)->(∀ y c,C.lookup y=some c->env.cells.lookup y=some c) →
  (∀ y c,(l.foldl (fun c x=>clG env x c) C).lookup y=some c->env.cells.lookup y=some c)/\∀ y,((C.lookup y).isSome=true∨(y,NameKind.free)∈l)->((l.foldl (fun c x=>clG env x c) C).lookup y).isSome=true
 | [],C,_,h=>⟨h,fun y O=>O.elim id fun z=>absurd z (by simp)⟩
 | (n,k)::l,C,f,h=>by
  have H:∀ y∈l,y.2 = .free->∃ c,env.cells.lookup y.1=some c:=fun y O=>f y (Hr _ O);rw[fF]
  by_cases b:k = .free
  .subst b;obtain⟨a,g⟩:=f (n,.free) FZ rfl;have d:=g
   have e:clG env (n,.free) C=(n,a)::C:=by
    unfold clG;rw[cS (by rfl)];rw[d];rfl
   rw[e]
   have i:=Bq l ((n,a)::C) H (fun y c O=>by
    rw[gy]at O
    cases hb:y==n with
    | true=>
     rw[hb]at O;rw[eq_of_beq hb];exact d.trans O
    | false=>
     rw[hb]at O
     exact h y c O)
   refine⟨i.1,fun y O=>i.2 y ?_⟩;rcases O with O | O
   .left
    rw[gy]
    cases y==n with
    | true=>rfl
    | false=>exact O
   .rcases dD.mp O with O | O
    .left
     rw[(Prod.mk.inj O).1,gy];simp
    .exact .inr O
  .have e:clG env (n,k) C=C:=by
    unfold clG;rw[if_neg (by simpa using b)]
   rw[e];have i:=Bq l C H h;refine⟨i.1,fun y O=>i.2 y ?_⟩;rcases O with O | O
   .exact .inl O
   .rcases dD.mp O with O | O
    .exact eu (Prod.mk.inj O).2.symm b
    .exact .inr O
theorem j0{e:Env}:∀ {N:aw (Str×NameKind)} {x:Str},N.lookup x=some .free →
  (N.map fun (n,k)=>if (k==NameKind.free&&e.scope.kind==.function&&e.kindOf n==some .cell) then (n,NameKind.cell) else (n,k)).lookup x≠some .local
 | [],_,h=>by simp at h
 | (n,k)::r,x,h=>by
  have i:=@j0 e r x;show List.lookup x ((if (k==NameKind.free&&e.scope.kind==.function&&e.kindOf n==some .cell)=true then (n,NameKind.cell) else (n,k))::_)≠_
  cases hx:x==n with
  | true=>
   simp only[List.lookup_cons,hx]at h
   cases h
   split
   .simp [List.lookup_cons,hx]
   .simp [List.lookup_cons,hx]
  | false=>
   simp only[List.lookup_cons,hx]at h
   by_cases d:(k==NameKind.free&&e.scope.kind==.function&&e.kindOf n==some .cell)=true
   .rw[cS d];simp only[List.lookup_cons,hx];exact i h
   .rw[cK d];simp only[List.lookup_cons,hx];exact i h
def xV(N:∀ z∈scope.names,z.2≠.cell)(h:(relabel scope env).names.lookup y=some .cell∨(relabel scope env).names.lookup y=some .free):(y,NameKind.free)∈scope.names:=by
 have go:∀ k,(k=NameKind.cell∨k=NameKind.free)->(relabel scope env).names.lookup y=some k->(y,NameKind.free)∈scope.names:=fun k H e=>by
  have m:=cy e;obtain⟨⟨n,a⟩,c,f⟩:=eX.mp m
  by_cases d:(a==NameKind.free&&env.scope.kind==.function&&env.kindOf n==some .cell)=true
  .have E:(n,NameKind.cell)=(y,k):=by
    rw[<-f];show _=(if (a==NameKind.free&&env.scope.kind==.function&&env.kindOf n==some .cell)=true then (n,NameKind.cell) else (n,a));rw[cS d]
   have b:a = .free:=by
    simp only[Bool.and_eq_true,beq_iff_eq]at d;exact d.1.1
   rw[<-(Prod.mk.inj E).1,<-b];exact c
  .have E:(n,a)=(y,k):=by
    rw[<-f];show _=(if (a==NameKind.free&&env.scope.kind==.function&&env.kindOf n==some .cell)=true then (n,NameKind.cell) else (n,a));rw[cK d]
   rcases H with H | H
   .exact eu ((Prod.mk.inj E).2.trans H) (N _ c)
   .rw[<-(Prod.mk.inj E).1,<-H,<-(Prod.mk.inj E).2];exact c
 rcases h with h | h
 .exact go _ (.inl rfl) h
 .exact go _ (.inr rfl) h
noncomputable def oE(X:Cx)(N:aw Str)(S:Scope)(C:ar)(s:ae)(H:Hp)(ex:aw ar)(pn:aw (ar×Obj))(E:av->ae->Prop):Cx where
 prog:=X.prog
 w:=X.w
 K:=X.K
 mg:=X.mg
 base:=X.base
 A:=X.A
 N:=N
 s₀:=s
 H₀:=H
 env:=compEnvC S (Ju X.env S) C X.env
 outer:=X.stack
 stack:=X.stack
 ex:=ex
 fn:=fun _=>false
 calm:=X.calm
 pn:=pn
 xe:=E
structure bA(osc:Scope)(N:List Str)(scope:Scope)(x:Str)(bF:List (Nat×Str)):Prop where
 kind:scope.kind = .function
 hx:scope.names.lookup x=some .local
 Ol:∀ y∈scope.names,y.2≠.cell
 Z8:∀ y∈scope.names,y.2 = .local->scope.names.lookup y.1=some .local
 free:∀ y∈scope.names,y.2 = .free->osc.names.lookup y.1=some .cell∨osc.names.lookup y.1=some .free
 cap:∀ p∈bF,N[p.1]? = some p.2/\scope.names.lookup p.2=some .free
 nd:(x::bF.map (·.2)).Nodup
noncomputable def Mv(bF:aw (Nat×Str))(σ:St):St:=bF.map fun p=>(σ[p.1]?).getD none
def S7(X:Cx)(i:aw Expr)(t:TT):Prop:=
 ∀ p s σ H Q,Inv X p σ H s->t σ H Q →
  wpAny (model X.prog X.w) X.A (forIn i true fun c r=>if r=true then do let ok ← isTrue c X.env (eval c X.env);pure (ForInStep.yield ok) else pure (ForInStep.yield r)) (TP X p σ Q) X.xe s
def qDS:TT:=fun _ H Q=>Q true H
def bQ:S7 X [] qDS:=fun _ _ _ H _ I h=>by
 simp only[List.forIn_nil];exact aT ⟨H,I,h⟩
def cW(h:PT X c tc):S7 X [c] tc:=by intro p s σ H Q I q;simp only[List.forIn_cons,List.forIn_nil,if_true];exact aS (aS (c8 (h p s σ H Q I q) (fun b _ a=>aT (aT a)) fun _ _ x=>x))
def lD(J:It)(C:St)(T:TT)(t:TE)(e:Hp)(Z:aw V->Hp->Prop):Prop:=
 ∃ W:Nat->Nat->aw V->Hp->Prop,(∃ m,W 0 m [] e)/\∀ i m A H,W i m A H →
  (J.stop i H/\Z A H)∨(J.go i H/\∃ N:aw V->Hp->Prop,(∀ a h,N a h->∃ m',m'<m/\W (i+1) m' a h) ∧
   ∀ x h,J.Xy i H x h->T (some x::C) h fun b c=>if b=true then t (some x::C) c fun v d=>A.length<sizeLine/\N (A++[v]) d else N A c)
def qAD(w:TI)(bF:aw (Nat×Str))(T:TT)(t:TE):TE:=fun σ H Q=>w σ H fun J b=>lD J (Mv bF σ) T t b fun a h => ∀ p,h p=none->Q (.ref p) (upd h p (.lst a))
theorem Rk
  (hc:X.calm=true) (hN:X.N=x::ns) (nd:X.N.Nodup) (hx:X.env.scope.names.lookup x=some .local) (I:Inv X [] (o::cs) H s) (T:Turn X.prog X.w X.K (.Name x px) J fp it tn) (st:tn 0 s.heap) (hf:∀ b∈fp,oJ X [] H b)
  (t:oJ X [] H D) (E:D∉fp) (pl:s.heap.PlainList D #[]) (Mf:S7 X ifs tc) (A:PE X elt te) (hW:lD J cs tc te H Z) (hxe:X.xe=notedBy (model X.prog X.w) X.A X.env fun e s'=>R (.error e) s')
  (hR:∀ s' h a its o',Inv X [] (o'::cs) h s'->s'.heap.PlainList D its.toArray->Vals a its->a.length<=sizeLine->h D=none->Z a h->R (.ok .next) s') :
  codeAny (model X.prog X.w) X.A (.compLoop (.ListComp elt [⟨.Name x px,iter,ifs,0⟩] scope pos) 0 (.ref it) (.ref D) X.env) R s:=by
 obtain⟨W,⟨m0,w0⟩,m⟩:=hW;refine codeAny_compLoop_tests (fun n s'=>∃ i a its h o',Inv X [] (o'::cs) h s'/\tn i s'.heap/\(∀ b∈fp,h b=none)/\h D=none/\s'.heap.PlainList D its.toArray/\Vals a its/\a.length<=sizeLine/\W i n a h) ?_ m0
  ⟨0,[],[],H,o,I,st,fun b c=>(hf b c).1,t.1,pl,.nil,bo _,w0⟩
 rintro n s3 ⟨i,a,its,q,Q,I3,w,B,C,⟨d,gD⟩,M,hl,w3⟩;rw[<-hxe]
 have I4:Inv X [(D,{ cls:=.type "list",data:=.seq its.toArray d })] (Q::cs) q s3:=I3.uJ fun p f=>by
  obtain rfl:p=(D,{ cls:=.type "list",data:=.seq its.toArray d }):=by simpa using f
  exact⟨gD,C,t.2.1,t.2.2.1,fun v z=>by cases (show Data.seq its.toArray d=Data.cell v from z)⟩
 have S:∀ {h:Hp},(∀ b∈fp,h b=none)->∀ b∈fp,oJ X [(D,{ cls:=.type "list",data:=.seq its.toArray d })] h b:=fun hn b c=>by
  obtain⟨_,f1,f2,f3,f4,f5⟩:=hf b c;refine⟨hn b c,f1,f2,f3,f4,fun p f=>?_⟩;rcases jz.mp f with z | z
  .exact f5 p (gL _ z)
  .obtain rfl:p=(D,{ cls:=.type "list",data:=.seq its.toArray d }):=by simpa using z
   exact fun e=>E (by rw[show D=b from e];exact c)
 rcases m i n a q w3 with ⟨y,z⟩ | ⟨go,N,k,step⟩
 .refine bH (T.done X rfl rfl rfl hc i _ s3 (Q::cs) q X.xe I4 (S B) w y) fun r Y ⟨hr,G⟩=>?_;subst hr;exact hR Y q a its Q (G.uJ fun p f=>absurd f (by simp)) ⟨d,(G.pin _ (List.mem_append_right _ (List.mem_singleton.mpr rfl))).1⟩ M hl C z
 .refine bH (T.item X rfl rfl rfl hc i _ s3 (Q::cs) q X.xe I4 (S B) w go) fun r Y ⟨u,hr,h4⟩=>?_;subst hr;have e0:(letOwnedTupleGo (.Name x px) (.ref it) u >>= fun _=>assign (.Name x px) X.env u)=assign (.Name x px) X.env u:=rfl;show wpAny _ _ (assign (.Name x px) X.env u) _ _ Y;rw[<-e0];refine aS (bH h4 fun _ s5 ⟨j,H5,G,r5,y5,KY,fr5⟩=>?_);have I5':=G.pinned (S fr5) (T.obj _ _ KY);refine wpAny_assign_Name (oZ (i:=0) I5' nd (by rw[hN] <;> rfl) (.inl hx) r5 (fun s6 I6=>?_) (.inr hx));have I6':Inv X ([(D,{ cls:=.type "list",data:=.seq its.toArray d })]++vQ fp s5.heap) (some j::cs) H5 s6:=I6;have l:∀ {g:St} {h:Hp} {s':ae},Inv X ([(D,{ cls:=.type "list",data:=.seq its.toArray d })]++vQ fp s5.heap) g h s' →
    Inv X [] g h s'/\tn (i+1) s'.heap/\(∀ b∈fp,h b=none)/\h D=none/\s'.heap.get? D=some { cls:=.type "list",data:=.seq its.toArray d }:=fun {g h s'} U=>by
   have pD:=U.pin (D,{ cls:=.type "list",data:=.seq its.toArray d }) (gN _ (gL _ (jA.mpr rfl)));refine⟨U.uJ fun p f=>absurd f (by simp),T.keep _ _ _ KY fun b c O e=>(U.pin (b,O) (List.mem_append_right _ (List.mem_append_right _ (nU c e)))).1,fun b c=>?_,pD.2.1,pD.1⟩;obtain⟨O,e,_⟩:=T.obj _ _ KY b c;exact (U.pin (b,O) (gN _ (gN _ (nU c e)))).2.1
  refine bH (Mf _ s6 (some j::cs) H5 _ I6' (step j H5 y5)) fun b s7 ⟨P,I7,q7⟩=>?_
  cases b with
  | false=>
   obtain⟨m',hm,w7⟩:∃ m',m'<n/\W (i+1) m' a P:=k a P q7;obtain⟨l1,l2,l3,L,l5⟩:=l I7;exact⟨m',hm,i+1,a,its,P,some j,l1,l2,l3,L,⟨d,l5⟩,M,hl,w7⟩
  | true=>
   have q7':=q7;refine bH (A _ s7 (some j::cs) P _ I7 q7') fun u8 _ ⟨v,H8,I8,r8,_,n8⟩=>?_;obtain⟨m',hm,w8⟩:=k _ _ n8;obtain⟨l1,l2,l3,L,l5⟩:=l I8;have hlen:=M.length;refine wpAny_list_append_plain ⟨d,l5⟩ fun _ pl9 F=>?_;refine⟨m',hm,i+1,a++[v],its++[u8],H8,some j,l1.turned (fun b O c e=>(F.2 b c).trans e) L t.2.1 t.2.2.2.1 t.2.2.2.2.1 t.2.2.2.2.2,?_,l3,L,by simpa using pl9,M.append (.cons r8 .nil),?_,w8⟩
   .exact T.keep _ _ _ l2 fun b c O e=>(F.2 b (fun z=>E (z▸c))).trans e
   .rw[j8,vG];lia
def Inv.TX(I:Inv X pins σ H s)(f:b≠X.env.locals)(q:b∉X.fs):b∉frs X.stack:=fun z=>(dD.mp (I.Kq b z)).elim f q
theorem Bo{Z:aw V->Hp->Prop}{RR:av->ar->Result->ae->Prop}
  (hc:X.calm=true) (S:bA X.env.scope X.N scope x bF) (I:Inv X pins σ H s) (T:Turn X.prog X.w X.K (.Name x px) J fp it tn) (st:tn 0 s.heap) (hf:∀ b∈fp,oJ X pins H b)
  (Mf:∀ C s H ex pn E,S7 (oE X (x::bF.map (·.2)) scope C s H ex pn E) ifs tc) (helt:∀ C s H ex pn E,PE (oE X (x::bF.map (·.2)) scope C s H ex pn E) elt te)
  (hW:lD J (Mv bF σ) tc te H Z)
  (hRR:∀ s' r A its (D C:ar) (m:Str->aE av),Inv X pins σ r s'->s'.heap.PlainList D its.toArray->Vals A its->A.length<=sizeLine->oJ X pins r D->oJ X pins r C->D≠C->s'.heap.Ns C m->Z A r->RR (.ref D) C (.ok .next) s') :
  wpAny (model X.prog X.w) X.A (newList []) (fun A s₃=>wpAny (model X.prog X.w) X.A (newFunctionEnv scope X.env.globals (Ju X.env scope) [] X.env.qual none .none (some X.env)) (fun o W=>
   codeAny (model X.prog X.w) X.A (.compStart (.ListComp elt [⟨.Name x px,iter,ifs,0⟩] scope pos) 0 (.ref it) A { o with scope:=relabel scope X.env }) (RR A o.locals) W) E s₃) E s:=by
 refine wpAny_newObj_type (wpAny_newFunctionEnv S.Ol (by intro y w;simp at w) (fun j f h=>?_) S.kind)
 dsimp only at f h ⊢
 have U:Inv X pins σ H { s with heap:=s.heap.push { cls:=.type "list",dict:=none,data:=.seq ([]:aw av).toArray } }:=I.kept (t':=s.toks) fun b u e=>fM _ e;have gD3:(s.heap.push { cls:=.type "list",dict:=none,data:=.seq ([]:aw av).toArray }).get? s.heap.objs.size=some { cls:=.type "list",dict:=none,data:=.seq ([]:aw av).toArray }:=qy _ rfl;have g:(s.heap.push { cls:=.type "list",dict:=none,data:=.seq ([]:aw av).toArray }).objs.size=s.heap.objs.size+1:=eT _ _;generalize hH3:s.heap.push { cls:=.type "list",dict:=none,data:=.seq ([]:aw av).toArray }=h3 at f h U gD3 g ⊢;have k3:∀ b u,s.heap.get? b=some u->h3.get? b=some u:=fun b u e=>hH3▸fM _ e;have F:∀ b u,h3.get? b=some u->j.get? b=some u:=fun b u e=>(h.2 b (jQ (gQ e))).trans (fM _ e);have k1:∀ b u,s.heap.get? b=some u->j.get? b=some u:=fun b u e=>F b u (k3 b u e)
 have N:s.heap.objs.size≠h3.objs.size:=by rw[g];exact jQ (iF _)
 have fD:oJ X pins H s.heap.objs.size:=I.Cr (bD _) (I.hok.fresh (bD _));have fC:oJ X pins H h3.objs.size:=I.Cr (by rw[g];exact ip _) (I.hok.fresh (by rw[g];exact ip _));have lfp:∀ b∈fp,b<s.heap.objs.size:=fun b a=>let ⟨_,e,_⟩:=T.obj _ _ st b a;gQ e;have hDf:s.heap.objs.size∉fp:=fun z=>iq _ (lfp _ z);have G:∀ y∈scope.names,y.2 = .free->∃ c,X.env.cells.lookup y.1=some c:=fun y w e=>I.ok.has y.1 (S.free y w e);obtain⟨sub,has⟩:=Bq scope.names [] G (fun y c e=>by simp at e);have B:=sub;have Q:∀ y,(y,NameKind.free)∈scope.names->∃ c,(Ju X.env scope).lookup y=some c:=fun y w=>jv.mp (has y (.inr w));have inj:∀ b∈s.heap.objs.size::fp,oJ X pins H b:=fun b a=>(dD.mp a).elim (fun z=>z▸fD) (hf b);have Y:∀ b∈s.heap.objs.size::fp,b≠h3.objs.size:=fun b a=>(dD.mp a).elim (fun z=>z▸N) fun z=>jQ (by rw[g];exact iE (lfp b z))
 have I1:Inv (oE X (x::bF.map (·.2)) scope h3.objs.size { s with heap:=h3 } H (s.heap.objs.size::fp) (X.pn++pins)
   (notedBy (model X.prog X.w) X.A (compEnvC scope (Ju X.env scope) h3.objs.size X.env) fun e s'=>RR (.ref s.heap.objs.size) h3.objs.size (.error e) s')) [] (none::Mv bF σ) H { s with heap:=j,toks:=s.toks+([]:aw (Str×av)).length }:=by
  refine⟨⟨I.ok.mod,S.kind,I.ok.glob,I.ok.blt,bD _,fun y z c e1 e2=>I.ok.inj y z c (B _ _ e1) (B _ _ e2),fun y w=>Q y (xV S.Ol w),fun y c e=>(nomatch e),I.ok.hd,I.ok.frames,.inl rfl,fun b a=>⟨Y b a,fun y c e=>(inj b a).2.2.2.2.1 y c (B y c e)⟩,
    fun b O e=>⟨k3 b O (I.bs b O e).1,(I.bs b O e).2⟩,?_,fun b O e z=>?_,fun b a=>I.TX (inj b a).2.1 (inj b a).2.2.1,?_,I.xg⟩,
   rfl,I.bare,Un.kept F,⟨_,f,fun i y v e1 e2 e3=>?_⟩,fun y c e=>?_,fC.1,fun y c e=>I.jq y c (B y c e),fun p hp=>?_,I.hok.kept k1,?_⟩
  .exact br I.ok.Xw (br I.sz (by show s.heap.objs.size<=h3.objs.size;rw[g];exact ip _))
  .rcases (inj b z).2.2.2.1 with w1 | w1
   .exact I.ok.R9 b O e w1
   .exact eu (KR (gQ e) I.ok.Xw) (Nat.not_lt.mpr w1)
  .exact Heap.FunFrames.of_keeps (fun b O e _=>⟨O,k3 b O e,rfl⟩) I.stack
  .cases i with
   | zero=>cases e2
   | succ i=>
    have k:(bF.map (·.2))[i]? = some y:=e1;have l:(Mv bF σ)[i]? = some (some v):=e2;unfold Mv at l;rw[dZ]at k l
    cases ep:bF[i]? with
    | none=>rw[ep]at k;cases k
    | some p=>
     rw[ep]at k l;obtain rfl:p.2=y:=kJ k;have Zc:(σ[p.1]?).getD none=some v:=kJ l
     have hσ:σ[p.1]? = some (some v):=by
      cases es:σ[p.1]? with
      | none=>rw[es]at Zc;cases Zc
      | some w1=>rw[es]at Zc;exact congrArg some Zc
     obtain⟨cN,cF⟩:=S.cap p (SX ep);have mF:(p.2,NameKind.free)∈scope.names:=cy cF;have oF:=S.free _ mF rfl;obtain⟨m,hn,t⟩:=I.loc;obtain⟨u,ru,lk⟩:=t p.1 p.2 v cN hσ (.inr oF);refine⟨u,ru,.inr ⟨?_,?_⟩⟩
     .rcases e3 with z | z
      .exact eu z (j0 cF)
      .exact z
     .obtain⟨c,ec⟩:=Q p.2 mF;refine⟨c,ec,?_⟩;rcases lk with ⟨z,_⟩ | ⟨_,c',ec',O,ho,hd⟩
      .have z':X.env.scope.names.lookup p.2=some .local:=z;rw[z']at oF;rcases oF with q | q <;> cases q
      .have ee:=(B _ _ ec).symm.trans ec'
       cases ee
       exact⟨O,k1 _ _ ho,hd⟩
  .obtain⟨v,O,ho,hd⟩:=I.cell y c (B y c e);exact⟨v,O,k1 _ _ ho,hd⟩
  .have hp':p∈X.pn++pins:=by
    rcases jz.mp hp with z | z
    .exact z
    .exact absurd z (by simp)
   obtain⟨e,n,ne,nf,d⟩:=I.pin p hp';refine⟨k1 _ _ e,n,jQ ?_,I.TX ne nf,d⟩;rw[g];exact iE (gQ e)
  .show (none::Mv bF σ).length=(x::bF.map (·.2)).length;simp [Mv]
 have hf1:∀ b∈s.heap.objs.size::fp,oJ (oE X (x::bF.map (·.2)) scope h3.objs.size { s with heap:=h3 } H (s.heap.objs.size::fp) (X.pn++pins)
   (notedBy (model X.prog X.w) X.A (compEnvC scope (Ju X.env scope) h3.objs.size X.env) fun e s'=>RR (.ref s.heap.objs.size) h3.objs.size (.error e) s')) [] H b:=fun b a=>by
  obtain⟨f0,f1,f2,f3,f4,f5⟩:=inj b a;refine⟨f0,Y b a,I.TX f1 f2,.inl a,fun y c e=>f4 y c (B y c e),fun p hp=>f5 p ?_⟩;rcases jz.mp hp with z | z
  .exact z
  .exact absurd z (by simp)
 have P:=T.keep _ _ _ st fun b _ O e=>k1 b O e
 have L:codeAny (model X.prog X.w) X.A (.compLoop (.ListComp elt [⟨.Name x px,iter,ifs,0⟩] scope pos) 0 (.ref it) (.ref s.heap.objs.size) (compEnvC scope (Ju X.env scope) h3.objs.size X.env)) (RR (.ref s.heap.objs.size) h3.objs.size) { s with heap:=j,toks:=s.toks+([]:aw (Str×av)).length }:=by
  refine Rk (X:=oE X (x::bF.map (·.2)) scope h3.objs.size { s with heap:=h3 } H (s.heap.objs.size::fp) (X.pn++pins) (notedBy (model X.prog X.w) X.A (compEnvC scope (Ju X.env scope) h3.objs.size X.env) fun e s'=>RR (.ref s.heap.objs.size) h3.objs.size (.error e) s'))
   hc rfl S.nd (lookup_relabel_local S.hx) I1 T P (fun b a=>hf1 b (Hr _ a)) (hf1 _ FZ) hDf ⟨0,F _ _ gD3⟩ (Mf _ _ _ _ _ _) (helt _ _ _ _ _ _) hW rfl ?_
  intro s' r A its _ M plD va R nD z;have u1:Un (frs X.stack) (s.heap.objs.size::fp) H r h3 s'.heap:=M.base
  have J2:Inv X pins σ r s':=Inv.call' (s:={ s with heap:=h3 }) U M.os u1 M.hok M.bare fun b a=>by
   obtain⟨_,f1,_,f3,f4,f5⟩:=inj b a;exact⟨f3,f1,f4,f5⟩
  obtain⟨m,hn,_⟩:=M.loc;exact hRR s' r A its _ _ m J2 plD va R ⟨nD,fD.2⟩ ⟨M.free,fC.2⟩ N hn z
 exact codeAny_compStart_list L (T.self _ 0 _ _ _ P L)
def yU(k:X.calm=true)(S:bA X.env.scope X.N scope x bF)(L:PI X (.Name x px) iter wi)
  (M:∀ C s H d i E,S7 (oE X (x::bF.map (·.2)) scope C s H d i E) ifs tc) (A:∀ C s H d i E,PE (oE X (x::bF.map (·.2)) scope C s H d i E) elt te)
  (r:∀ x,foldedSetIterable iter X.env x=pure x:=by intro _;rfl):PE X (.ListComp elt [⟨.Name x px,iter,ifs,0⟩] scope pos) (qAD wi bF tc te):=by intro p s σ H Q I h;have B:∀ y∈scope.names,y.2 = .free->∃ c,X.env.cells.lookup y.1=some c:=fun y w e=>I.ok.has y.1 (S.free y w e);rw[eval_ListComp];refine wpAny_comprehension_free (use:=none) rfl r (Bp B) S.kind S.Z8 (bH (L p s σ H _ I h) fun v _ t=>bH t fun _ _ h2=>?_);obtain⟨_,_,_,J,_,e,Y,T,O,u,W⟩:=h2;subst e;refine Bo (RR:=fun a C=>compPost (model X.prog X.w) X.A X.xe none (EP X p σ Q) a C) k S Y T O u M A W ?_;intro s' j a its D C m R P Z n F f N l z;obtain⟨q,G⟩:=P;refine⟨m,l,fun g U=>?_⟩;have J3:Inv X p σ j { s' with heap:=g }:=R.turned (fun b _ o e=>(U.2 b o).trans e) f.1 f.2.1 f.2.2.2.1 f.2.2.2.2.1 f.2.2.2.2.2;exact⟨.ref D,upd j D (.lst a),J3.adopt F ⟨n,its,q,Z,(U.2 D N).trans G⟩,rfl,z D F.1⟩
def uI(L:X.calm=true)(hN:X.N.Nodup)(o:X.N[i]? = some y)(k:Loc X.env.scope y)(S:bA X.env.scope X.N scope x bF)(hi:PI X (.Name x px) iter wi)
  (M:∀ C s H d g E,S7 (oE X (x::bF.map (·.2)) scope C s H d g E) ifs tc) (t:∀ C s H d g E,PE (oE X (x::bF.map (·.2)) scope C s H d g E) elt te)
  (w:swapsWith (.ListComp elt [⟨.Name x px,iter,ifs,0⟩] scope pos) (some (.Name y py)) spos.line X.env=pure true:=by rfl) (Y:∀ x,foldedSetIterable iter X.env x=pure x:=by intro _;rfl)
  (j:X.fn y=true∨X.env.scope.names.lookup y=some .local:=by first | exact .inl rfl | exact .inr rfl | assumption):PS X (.Assign [.Name y py] (.ListComp elt [⟨.Name x px,iter,ifs,0⟩] scope pos) spos) (Y8 (qAD wi bF tc te) (PB i)):=by
 intro p s σ H r I h;have B:∀ y∈scope.names,y.2 = .free->∃ c,X.env.cells.lookup y.1=some c:=fun y k e=>I.ok.has y.1 (S.free y k e);rw[exec_Assign_Name_used _ _ _ _ w];refine aS (wpAny_standAt (aS ?_));show wpAny _ _ (do let _ ← comprehension (.ListComp elt [⟨.Name x px,iter,ifs,0⟩] scope pos) scope X.env _ (newList []) false (eval iter X.env) (some (assign (.Name y py) X.env))) _ _ s
 refine aS (c8 (wpAny_comprehension_free (use:=some (assign (.Name y py) X.env)) (Q:=fun _ s'=>SP X p r .next s') rfl Y (Bp B) S.kind S.Z8
  (bH (hi p s σ H _ I h) fun v _ Z=>bH Z fun _ _ h2=>?_)) (fun _ s' G=>aT (aT G)) fun _ _ e=>e)
 obtain⟨_,_,_,J,_,e,I2,T,O,f2,hW⟩:=h2;subst e;refine Bo (RR:=fun A C=>compPost (model X.prog X.w) X.A X.xe (some (assign (.Name y py) X.env)) (fun _ s'=>SP X p r .next s') A C) L S I2 T O f2 M t hW ?_;intro s' H' A its D C m J2 P va n F f N R z;obtain⟨W,gD⟩:=P;have J3:Inv X p σ (upd H' D (.lst A)) s':=J2.adopt F ⟨n,its,W,va,gD⟩;show wpAny _ _ (assign (.Name y py) X.env (.ref D)) _ _ s';refine wpAny_assign_Name (Dh J3 hN o k (show RelV (.ref D) (.ref D) from rfl) (fun _ u ⟨a,sa,ha⟩=>?_) j)
 have l:C≠a:=by
  rcases ha with q | q
  .rw[q];exact f.2.1
  .exact (f.2.2.2.2.1 y a q).symm
 refine⟨m,R.sameBut sa l,fun _ sb=>?_⟩;exact⟨_,_,u.turned (fun b _ U e=>(sb.2 b U).trans e) (by rw[zR (bE N)];exact f.1) f.2.1 f.2.2.2.1 f.2.2.2.2.1 f.2.2.2.2.2,z D F.1⟩
def yt(n:Nat)(Pv:Nat->aw V->Hp->Prop)(j:Pv 0 [] H1)(hd:∀ A H,Pv n A H->J.stop n H/\Z A H)
  (d:∀ i A H,i<n->Pv i A H->J.go i H/\∀ x h,J.Xy i H x h->tc (some x::cs) h fun b c=>if b=true then te (some x::cs) c fun v f=>A.length<sizeLine/\Pv (i+1) (A++[v]) f else Pv (i+1) A c) :
  lD J cs tc te H1 Z:=by
 refine⟨fun i m A H=>m=n-i/\i<=n/\Pv i A H,⟨n,by simp,Nat.zero_le _,j⟩,?_⟩;rintro i m A H ⟨rfl,_,p⟩
 by_cases t:i<n
 .obtain⟨g,y⟩:=d i A H t p;exact .inr ⟨g,Pv (i+1),fun a h q=>⟨n-(i+1),by lia,rfl,t,q⟩,y⟩
 .have e:i=n:=by lia
  subst e;exact .inl (hd A H p)
def sH{lo:Int}{n:Nat}{C:St}{T:TT}{t:TE}{h:Hp}{Z:aw V->Hp->Prop}(Pv:Nat->aw V->Hp->Prop)(g:Pv 0 [] h)
  (s:∀ i a H,i<n->Pv i a H->T (some (.int (lo+i))::C) H fun b c=>if b=true then t (some (.int (lo+i))::C) c fun v f=>a.length<sizeLine/\Pv (i+1) (a++[v]) f else Pv (i+1) a c)
  (hd:∀ a H,Pv n a H->Z a H):lD (Itr lo n) C T t h Z:=
 yt n Pv g (fun a H p=>⟨bD _,hd a H p⟩) fun i a H d p=>⟨d,fun x _ y=>by
  obtain⟨e,y⟩:=y;subst e y
  exact s i a _ d p⟩
def yT{K:bV}{a:ar}{xs:aw V}{C:St}{T:TT}{t:TE}{c:Hp}{Z:aw V->Hp->Prop}(Pv:Nat->aw V->Hp->Prop)(g:Pv 0 [] c)(h:∀ i A H,Pv i A H->aU K H a xs)
  (s:∀ i x A H,xs[i]? = some x->Pv i A H->T (some x::C) H fun b d=>if b=true then t (some x::C) d fun v f=>A.length<sizeLine/\Pv (i+1) (A++[v]) f else Pv (i+1) A d)
  (hd:∀ A H,Pv xs.length A H->Z A H):lD (Itl K a) C T t c Z:=
 yt xs.length Pv g (fun A H p=>⟨⟨xs,h _ _ _ p,Nat.le_refl _⟩,hd A H p⟩) fun i A H j p=>⟨⟨xs,xs[i],h _ _ _ p,by simp [j]⟩,fun x _ y=>by
  obtain⟨e,y⟩:=y;subst e
  exact s i x A _ (y xs (h _ _ _ p)) p⟩
def ig{K:bV}{a:ar}{xs:aw V}{C:St}{T:TT}{t:TE}{c:Hp}{Z:aw V->Hp->Prop}(Pv:Nat->aw V->Hp->Prop)(g:Pv 0 [] c)(h:∀ i A H,Pv i A H->aJ K H a xs)
  (s:∀ i x A H,xs[i]? = some x->Pv i A H->T (some x::C) H fun b d=>if b=true then t (some x::C) d fun v f=>A.length<sizeLine/\Pv (i+1) (A++[v]) f else Pv (i+1) A d)
  (hd:∀ A H,Pv xs.length A H->Z A H):lD (Itt K a) C T t c Z:=
 yt xs.length Pv g (fun A H p=>⟨⟨xs,h _ _ _ p,Nat.le_refl _⟩,hd A H p⟩) fun i A H j p=>⟨⟨xs,xs[i],h _ _ _ p,by simp [j]⟩,fun x _ y=>by
  obtain⟨e,y⟩:=y;subst e
  exact s i x A _ (y xs (h _ _ _ p)) p⟩
def Its(z:Str):It:=⟨fun i _=>i<z.cps.size,fun i H x h=>h=H/\∃ c,z.cps[i]? = some c/\x = .str ⟨#[c]⟩,fun i _=>z.cps.size<=i⟩
def Km{w:aI}{K:bV}{T:Expr}(f:ar)(z:Str)(t:Tok):Turn P w K T (Its z) [f] f (fun i h=>h.IsStrIter f "str_ascii_iterator" z t i) where
 mem:=by simp
 obj:=fun i h st b a=>by
  have e:b=f:=by simpa using a
  subst e;obtain⟨o,e,c,d⟩:=st;exact⟨o,e,fun v z=>by rw[d]at z;cases z⟩
 keep:=fun i h h' st k=>by
  obtain⟨o,e,r⟩:=st;exact⟨o,k f (by simp) o e,r⟩
 item:=by
  intro X l m B x i p s σ H E I j st q;subst l m B;obtain⟨f0,y,N,n,C,F⟩:=j f (by simp);have g:i<z.cps.size:=q;refine wpAny_pyNext_ascii_item st (c:=z.cps[i]) (by simp [g]) fun h' S U=>?_;have A:Inv X p σ H { s with heap:=h',toks:=s.toks+1 }:=I.turned (fun b o a e=>(U.2 b a).trans e) f0 y n C F;obtain⟨o,e,c,d⟩:=id S;exact⟨_,rfl,Em (s:={ s with heap:=h',toks:=s.toks+1 }) e c d (by decide) ⟨.str ⟨#[z.cps[i]]⟩,H,A,⟨_,rfl⟩,⟨rfl,_,by simp [g],rfl⟩,S,fun b a=>(j b a).1⟩⟩
 done:=by
  intro X l m B x i p s σ H E I j st q;subst l m B;obtain⟨f0,y,N,n,C,F⟩:=j f (by simp);have u:z.cps.size<=i:=q;exact wpAny_pyNext_ascii_end (I.ok.hd x) st (by simp [u]) fun h' J=>⟨rfl,I.turned (t':=s.toks) (fun b o a e=>J b o a e) f0 y n C F⟩
 self:=fun _ _ _ _ _ st h=>wpAny_pyIter_striter_ascii st h
def QC{w:aI}{K:bV}{T:Expr}(f:ar)(z:Str)(t:Tok):Turn P w K T (Its z) [f] f (fun i h=>h.IsStrIter f "str_iterator" z t i) where
 mem:=by simp
 obj:=fun i h st b a=>by
  have e:b=f:=by simpa using a
  subst e;obtain⟨o,e,c,d⟩:=st;exact⟨o,e,fun v z=>by rw[d]at z;cases z⟩
 keep:=fun i h h' st k=>by
  obtain⟨o,e,r⟩:=st;exact⟨o,k f (by simp) o e,r⟩
 item:=by
  intro X l m B x i p s σ H E I j st q;subst l m B;obtain⟨f0,y,N,n,C,F⟩:=j f (by simp);have g:i<z.cps.size:=q;refine wpAny_pyNext_wide_item st (c:=z.cps[i]) (by simp [g]) fun h' S U=>?_;have A:Inv X p σ H { s with heap:=h',toks:=s.toks+1 }:=I.turned (fun b o a e=>(U.2 b a).trans e) f0 y n C F;obtain⟨o,e,c,d⟩:=id S;exact⟨_,rfl,Em (s:={ s with heap:=h',toks:=s.toks+1 }) e c d (by decide) ⟨.str ⟨#[z.cps[i]]⟩,H,A,⟨_,rfl⟩,⟨rfl,_,by simp [g],rfl⟩,S,fun b a=>(j b a).1⟩⟩
 done:=by
  intro X l m B x i p s σ H E I j st q;subst l m B;obtain⟨f0,y,N,n,C,F⟩:=j f (by simp);have u:z.cps.size<=i:=q;exact wpAny_pyNext_wide_end (I.ok.hd x) st (by simp [u]) fun h' J=>⟨rfl,I.turned (t':=s.toks) (fun b o a e=>J b o a e) f0 y n C F⟩
 self:=fun _ _ _ _ _ st h=>wpAny_pyIter_striter_wide st h
def qKX(t:TE):TI:=fun σ H R=>t σ H fun x h => ∃ z,x = .str z/\R (Its z) h
def qBV{l:Expr}{T:TE}(c:PE X l T):PI X tg l (qKX T):=by
 intro p s σ H R I h;refine bH (c p s σ H _ I h) fun v S ⟨x,a,j,r,i⟩=>?_;obtain⟨z,e,q⟩:=i;subst e;obtain⟨t,rfl⟩:=r
 have f:∀ b∈[S.heap.objs.size],oJ X p a b:=fun b d=>by
  have e:b=S.heap.objs.size:=by simpa using d
  subst e;exact j.Cr (bD _) (j.hok.fresh (bD _))
 cases ha:z.cps.all (· < 128)
 .refine wpAny_pyIter_wide ha ?_;exact⟨S.heap.objs.size,[S.heap.objs.size],_,_,a,rfl,j.kept fun b o e=>fM _ e,QC _ z t,⟨_,qy _ rfl,rfl,rfl⟩,f,q⟩
 .refine wpAny_pyIter_ascii ha ?_;exact⟨S.heap.objs.size,[S.heap.objs.size],_,_,a,rfl,j.kept fun b o e=>fM _ e,Km _ z t,⟨_,qy _ rfl,rfl,rfl⟩,f,q⟩
def Ww(Pv:Nat->aw V->Hp->Prop)(g:Pv 0 [] H1)
  (d:∀ i c a H,z.cps[i]? = some c->Pv i a H->tc (some (.str ⟨#[c]⟩)::cs) H fun b h=>if b=true then te (some (.str ⟨#[c]⟩)::cs) h fun v f=>a.length<sizeLine/\Pv (i+1) (a++[v]) f else Pv (i+1) a h)
  (hd:∀ a H,Pv z.cps.size a H->Z a H):lD (Its z) cs tc te H1 Z:=
 yt z.cps.size Pv g (fun a H p=>⟨bD _,hd a H p⟩) fun i a H k p=>⟨k,fun x _ y=>by
  obtain⟨e,c,E,j⟩:=y;subst e j
  exact d i c a _ E p⟩
theorem Tt:SlR X (fun x lo a H Q => ∃ z,x = .str z/\z.length<=sizeLine/\Q (.str (Txt.slice z lo a)) H):=by
 intro p s σ H x v _ _ lo a S Q I r d pl P h;obtain⟨z,rfl,m,q⟩:=h;obtain⟨t,rfl⟩:=r
 have f:∀ l u,s.heap.IsSlice S l u none->l.map (·.1)=lo->u.map (·.1)=a->wpAny (model X.prog X.w) X.A (getItem (.str z t) (.ref S)) (EP X p σ Q) X.xe s:=fun l u e g c=>by
  subst g c;exact wpAny_getItem_str_slice e rfl (post_val_or_str ⟨br (Txt.slice_le z _ _) m,fun _ k=>⟨.str _,H,I.tok _,⟨_,rfl⟩,q⟩⟩)
 refine⟨"str",_,F.slot_str_getitem.lookup,typeIs_str _ _ _,?_⟩
 cases pl with
 | none=>
  cases P with
  | none=>exact f none none d rfl rfl
  | int j U=>exact f none (some (j,U)) d rfl rfl
 | int i b=>
  cases P with
  | none=>exact f (some (i,b)) none d rfl rfl
  | int j U=>exact f (some (i,b)) (some (j,U)) d rfl rfl
def range_all:∀(n:Nat)(f:Nat->Bool)(bs:aw Bool),bs.length=n->(∀ i b,bs[i]? = some b->f i=b)->(List.range n).all f=bs.all id:=by
 intro n f bs l a;rw[eK,ff,ff];constructor
 .intro h b c;obtain⟨i,e⟩:=gT.mp c
  have H:i<n:=by
   have:=(oW.mp e).1;lia
  have:=h i (hJ.mpr H);rw[a i b e]at this;exact this
 .intro h i H
  have o:i<bs.length:=by rw[l];exact hJ.mp H
  have e:=fQ o;rw[a i _ e];exact h _ (lQ o)
def qj(w:X.calm=true):ir X (.builtin "all") (fun xs H Q => ∃(p:ar)(bs:aw Bool),xs=[.ref p]/\aU X.K H p (bs.map V.bl)/\Q (.bl (bs.all id)) H):=by
 intro _ s σ H xs _ Q I r h;obtain⟨p,bs,rfl,g,q⟩:=h;obtain⟨u,rfl,m⟩:=vals1 r
 cases m
 obtain⟨its,R,pl,_⟩:=I.list g;have n:=R.length;rw[bT]at n
 have t:p<s.heap.objs.size:=by
  obtain⟨o,C,_⟩:=pl.isList;exact gQ C
 refine call_all_walk (wpAny_pyIter_list pl.isList ?_)
 refine⟨s.heap.objs.size,[s.heap.objs.size,p],[s.heap.objs.size],its.toArray.size,fun i v=>its.toArray[i]? = some v,fun i h=>h.IsListIter s.heap.objs.size p i/\h.IsList p its.toArray,fun i=>(bs[i]?).getD true,rfl,
  Walks.list (A:=X.A.in1) (I.ok.hd w) _ _ (jQ t) _,⟨⟨_,qy _ rfl,rfl,rfl⟩,pl.isList.at fun o e=>fM _ e⟩,?_,?_⟩
 .intro i v s' j _ f d
  have y:i<bs.length:=by
   have:=(eB.mp f).1;simp only[List.size_toArray]at this;lia
  have e:bs[i]? = some bs[i]:=fQ y;obtain⟨u,l,B⟩:=R.get (i:=i) (x:=V.bl bs[i]) (by rw[dZ,e];rfl)
  have c:its[i]? = some v:=by simpa using f
  rw[l]at c
  cases c
  cases B
  have a:j ((bs[i]?).getD true) s':=d;rw[e]at a;exact wpAny_truthy_bool a
 .intro h' T k;refine⟨.bl (bs.all id),H,I.kept (t':=T) (h':=h') fun b u e=>k b u (fun z=>?_) (fM _ e),?_,q⟩
  .have Z:b=s.heap.objs.size:=by simpa using z
   exact eu (gQ e) (by rw[Z];exact iq _)
  .show Value.bool _=Value.bool _;rw[range_all its.toArray.size _ bs (by simp only[List.size_toArray];exact n) fun i b e=>by rw[e];rfl]
def qJT(p p':Int->Int->Bool)(k:Int)(t T:TE):TE:=fun σ H Q=>t σ H fun x a=>T σ a fun y h => ∃ i j,x = .int i/\y = .int j/\Q (.bl (p i j&&p' j k)) h
theorem QZ(T:lJ X (compareOp O) (Le fun i j=>.bl (p i j)))(g:lJ X (compareOp o) (Le fun i j=>.bl (p' i j)))(J:PE X a ta)(C:PE X b tb)(t:PE X c (tC (.int k)))
  (B:lastMarks [O,o] [b,c]=false:=by with_unfolding_all rfl):PE X (.Compare a [O,o] [b,c] D) (qJT p p' k ta tb):=by
 intro P s σ H Q I h;refine Compare_chain (bH (J P s σ H _ I h) fun v N ⟨x,Z,U,F,L⟩=>chain_link (bH (C P N σ Z _ U L) fun u S ⟨y,m,I2,r,w⟩=>?_)) B;obtain⟨i,j,rfl,rfl,q⟩:=w;refine bH (T P S σ m _ _ v u (fun z f=>z = .bl (p i j)/\f=m) I2 F r ⟨i,j,rfl,rfl,rfl,rfl⟩) fun d s3 ⟨z,f,n,R,E,M⟩=>?_;subst E M
 cases R
 refine wpAny_truthy_bool ?_
 cases e:p i j with
 | false=>
  rw[e,eL]at q;exact ite_ff ⟨.bl false,_,n,rfl,q⟩
 | true=>
  rw[e,eR]at q
  exact ite_tt (chain_last (bH (t P s3 σ _ (fun z l=>z = .int k/\l=f) n ⟨rfl,rfl⟩) fun w' A ⟨_,l,I4,W,G,Y⟩=>by
   subst G Y
   exact g P A σ _ _ _ u w' Q I4 r W ⟨j,k,rfl,rfl,q⟩))
def qG(c:0<=i)(f:i<(xs.length:Int)):∃ v∈xs,mX xs i=some v:=by
 have k:i.toNat<xs.length:=by lia
 have e:=fQ k;refine⟨xs[i.toNat],lQ k,?_⟩;have q:=yR e;rw[fe c]at q;exact q
def Zw{ns:aw Int}{i:Int}(c:0<=i)(f:i<(ns.length:Int)):∃ v:Int,mX (ns.map V.int) i=some (.int v):=by obtain⟨v,H,e⟩:=qG (xs:=ns.map V.int) c (by rw[bT];exact f);obtain⟨n,_,rfl⟩:=eX.mp H;exact⟨n,e⟩
def zJ(h:n<=1000):n<=sizeLine:=ij (zW h)
def qCH(x:Int):Builtin.bitAnd x 2147483647=x%2147483648:=PySem.W.kbt_mask x 31
def qAO(x:Int):0<=Builtin.bitAnd x 2147483647/\Builtin.bitAnd x 2147483647<2147483648:=by rw[qCH];lia
section
variable{X:Cx}{st:Stmt}{rest:aw Stmt}{t u:TS}
def qE5(t u:TS):TS:=fun D σ H => ∃ M:St->Hp->Prop,t { D with nx:=M } σ H/\∀ σ' h,M σ' h->u D σ' h
theorem yA(b:PS X st t)(c:Cw X rest u):Cw X (st::rest) (qE5 t u):=by
 intro p s σ H D I h;obtain⟨M,h,d⟩:=h;refine wpAny_execs_cons (bH (b p s σ H { D with nx:=M } I h) fun f S q=>?_)
 cases f with
 | next=>
  obtain⟨σ',a,i,q⟩:=q;exact c p S σ' a D i (d σ' a q)
 | ret v=>exact q
 | brk=>exact q
 | cont=>exact q
end
def zF(h:H p=none)(o:HO):aH H (upd H p o):=fun b u q=>by rw[zR (zN q h)];exact q
def qE4(t:TE):TE:=fun σ H Q => ∃ M:VK,t σ H M/\∀ v h,M v h->Q v h
def pL(h:PE X e t):PE X e (qE4 t):=by intro p s σ H Q I ⟨M,d,b⟩;exact bH (h p s σ H M I d) fun u _ ⟨v,a,i,r,m⟩=>⟨v,a,i,r,b v a m⟩
def qE3(t:TT):TT:=fun σ H Q => ∃ M:Bool->Hp->Prop,t σ H M/\∀ b h,M b h->Q b h
def bZ(h:PT X e t):PT X e (qE3 t):=by intro p s σ H Q I ⟨M,d,c⟩;exact bH (h p s σ H M I d) fun b _ ⟨a,i,m⟩=>⟨a,i,c b a m⟩
end L2
namespace L2
open PySem
def cQ(kind:sc.kind = .function:=by rfl)(c:sc.isCoroutine=false:=by rfl)(g:sc.isGenerator=false:=by rfl)(n:N.Nodup:=by decide +kernel)(p:N.take P.length=P:=by rfl)
  (par:∀ x∈P,sc.names.lookup x=some .local∨sc.names.lookup x=some .cell:=by decide +kernel) (M:∀ y∈sc.names,y.2≠.free:=by decide +kernel):aF N P sc:=⟨kind,c,g,n,p,par,M⟩
def vA(kind:scope.kind = .function:=by rfl)(h:scope.names.lookup x=some .local:=by rfl)(O:∀ y∈scope.names,y.2≠.cell:=by decide +kernel)
  (Z:∀ y∈scope.names,y.2 = .local->scope.names.lookup y.1=some .local:=by decide +kernel) (free:∀ y∈scope.names,y.2 = .free->osc.names.lookup y.1=some .cell∨osc.names.lookup y.1=some .free:=by decide +kernel)
  (c:∀ p∈bF,N[p.1]? = some p.2/\scope.names.lookup p.2=some .free:=by decide +kernel) (n:(x::bF.map (·.2)).Nodup:=by decide +kernel):bA osc N scope x bF:=⟨kind,h,O,Z,free,c,n⟩
structure Dp(P:Program)(w:World)(K:bV)(mg:Str->Option Value)(base:Heap)(CX:KQ)(n:Nat)(f:Addr)(d:FuncData)(ps:List Str)(sp:Sp)(x:Str):Prop where
 G:aL P w K mg base CX n f d ps sp
 b:Binds K d ps []
 k:KI K f
 m:mg x=some (.ref f)
def pC(D:Dp X.prog X.w X.K X.mg X.base aN k f fd ps sp x)(h:fP k X.A)(H:PA X (e::es) t)(a:Gl X x:=by rfl)(b:(x==("__debug__" : Str))=false:=by decide)(g:starEach (e::es) X.env=(false,eval e X.env)::starEach es X.env:=by rfl)(l:(backTo pos (starEach es X.env)).any (·.1)=false:=by rfl) :
  PE X (.Call (.Name x p) (e::es) [] pos) (qAE sp [] E0 t):=zK D.G h a D.m D.k D.b .nil yF H b g l
end L2
namespace HT
open PySem PySem.Spec PyProof.Rows
end HT
namespace L2
open PySem PySem.Spec PyProof.Rows
section
variable{κ:Type} [DecidableEq κ]
noncomputable def iR(s:aw (κ×V))(k:κ):aE V:=(s.find? fun v=>decide (v.1=k)).map (·.2)
noncomputable def putK(s:aw (κ×V))(k:κ)(v:V):aw (κ×V):=
 if (s.any fun a=>decide (a.1=k))=true then s.map (fun a=>if a.1=k then (a.1,v) else a) else s++[(k,v)]
def dH{p:κ×V}{r:aw (κ×V)}{k:κ}(e:p.1=k):iR (p::r) k=some p.2:=by simp [iR,List.find?_cons,e]
def dI{p:κ×V}{r:aw (κ×V)}{k:κ}(e:¬ p.1=k):iR (p::r) k=iR r k:=by simp [iR,List.find?_cons,e]
theorem lR(k:κ):∀ s:aw (κ×V),(s.any fun v=>decide (v.1=k))=(iR s k).isSome
 | []=>rfl
 | p::r=>by
  rw[fh]
  by_cases e:p.1=k
  .simp only[dH e,decide_eq_true e,Bool.true_or,Option.isSome_some]
  .rw[dI e,bp e,eM];exact lR k r
theorem Ht(k j:κ)(y:V):∀ s:aw (κ×V),iR (s.map fun v=>if v.1=k then (v.1,y) else v) j=(iR s j).map fun x=>if j=k then y else x
 | []=>rfl
 | p::r=>by
  have i:=Ht k j y r;rw[bt]
  by_cases h:p.1=k
  .rw[cS h]
   by_cases e:p.1=j
   .rw[dH (p:=(p.1,y)) e,dH e,jS,cS (e.symm.trans h)]
   .rw[dI (p:=(p.1,y)) e,dI e,i]
  .rw[cK h]
   by_cases e:p.1=j
   .rw[dH (p:=p) e,dH e,jS,cK (fun z=>h (e.trans z))]
   .rw[dI (p:=p) e,dI e,i]
theorem Dc(k j:κ)(y:V):∀ s:aw (κ×V),iR s k=none->iR (s++[(k,y)]) j=if j=k then some y else iR s j
 | [],_=>by
  by_cases e:k=j
  .rw[cS e.symm];exact dH (p:=(k,y)) e
  .rw[cK (fun z=>e z.symm)];exact dI (p:=(k,y)) e
 | p::r,h=>by
  rw[List.cons_append]
  have H:¬ p.1=k:=fun z=>by rw[dH z]at h;cases h
  rw[dI H]at h;have i:=Dc k j y r h
  by_cases e:p.1=j
  .rw[dH e,dH e,cK (fun z=>H (e.trans z))]
  .rw[dI e,dI e,i]
theorem T4(s:aw (κ×V))(k j:κ)(y:V):iR (putK s k y) j=if j=k then some y else iR s j:=by
 unfold putK
 by_cases a:(s.any fun v=>decide (v.1=k))=true
 .rw[cS a,Ht];rw[lR]at a
  by_cases e:j=k
  .obtain⟨x,h⟩:=jv.mp a;rw[cS e,e,h,jS,cS rfl]
  .rw[cK e]
   cases iR s j with
   | none=>rfl
   | some x=>rw[jS,cK e]
 .rw[cK a];refine Dc k j y s ?_;rw[lR]at a
  cases q:iR s k with
  | none=>rfl
  | some x=>rw[q]at a;exact (a rfl).elim
def wz(s:aw (κ×V))(k:κ)(v:V):(putK s k v).length<=s.length+1:=by
 unfold putK
 split
 .rw[bT];omega
 .rw[j8,dG,fT];omega
def UT{s:aw (κ×V)}{k:κ}(v:V)(h:iR s k=none):putK s k v=s++[(k,v)]:=by unfold putK;rw[lR,h];exact cK (by decide)
theorem oH.vy{o:aE V}{u:aE av}(r:oH o u):o.isSome=u.isSome:=by
 cases o with
 | none=>cases u with
  | none=>rfl
  | some _=>exact (show False from r).elim
 | some _=>cases u with
  | none=>exact (show False from r).elim
  | some _=>rfl
theorem KV.val{s:aw (κ×V)}{vs:aw (κ×av)}(r:KV s vs)(k:κ):oH (iR s k) (valueAt vs k):=by
 unfold KV at r
 induction r with
 | nil=>exact e9
 | @cons p q ps Q h t i=>
  obtain⟨f,H⟩:=h
  by_cases e:p.1=k
  .have E:q.1=k:=f.symm.trans e
   have b:valueAt (q::Q) k=some q.2:=by simp [valueAt,List.find?_cons,E]
   rw[dH e,b];exact H
  .have E:¬ q.1=k:=fun z=>e (f.trans z)
   have b:valueAt (q::Q) k=valueAt Q k:=by simp [valueAt,List.find?_cons,E]
   rw[dI e,b];exact i
theorem KV.any{s:aw (κ×V)}{vs:aw (κ×av)}(r:KV s vs)(k:κ):(s.any fun v=>decide (v.1=k))=vs.any fun v=>decide (v.1=k):=by
 unfold KV at r
 induction r with
 | nil=>rfl
 | cons h t i=>rw[fh,fh,i,h.1]
theorem KV.repl{s:aw (κ×V)}{vs:aw (κ×av)}(r:KV s vs)(k:κ){y:V}{u:av}(R:RelV y u) :
  KV (s.map fun v=>if v.1=k then (v.1,y) else v) (vs.map fun v=>if v.1=k then (v.1,u) else v):=by
 unfold KV at r ⊢
 induction r with
 | nil=>exact .nil
 | @cons p q ps Q h t i=>
  rw[bt,bt];refine .cons ?_ i;obtain⟨f,H⟩:=h
  by_cases e:p.1=k
  .rw[cS e,cS (f.symm.trans e)];exact⟨f,R⟩
  .rw[cK e,cK (fun z=>e (f.trans z))];exact⟨f,H⟩
def KV.put{s:aw (κ×V)}{vs:aw (κ×av)}(r:KV s vs)(k:κ){y:V}{u:av}(R:RelV y u):KV (putK s k y) (stored vs k u):=by
 unfold putK stored;rw[r.any k]
 by_cases e:(vs.any fun v=>decide (v.1=k))=true
 .rw[cS e,cS e];exact r.repl k R
 .rw[cK e,cK e];exact Paired.snoc r ⟨rfl,R⟩
theorem KV.keys{k:aw (κ×V)}{vs:aw (κ×av)}(r:KV k vs):k.map (·.1)=vs.map (·.1):=by
 unfold KV at r
 induction r with
 | nil=>rfl
 | cons h t i=>rw[bt,bt,i,h.1]
def KV.length{k:aw (κ×V)}{vs:aw (κ×av)}(r:KV k vs):k.length=vs.length:=Paired.length r
end
theorem Ou{P:ag}{w:aI}{k:Key}{u:av}(r:RelV (kV k) u):(bu P w).is k u=true:=by
 cases k with
 | inl i=>obtain⟨t,e⟩:=(show ∃ t,u=Value.int i t from r);subst e;exact JZ P w i t
 | inr x=>obtain⟨t,e⟩:=(show ∃ t,u=Value.str x t from r);subst e;exact JX P w x t
theorem Ej{P:ag}{w:aI}:∀ {s:aw Key} {us:aw av},Vals (s.map kV) us->ItemsAre (bu P w) s us
 | [],_,r=>by rw[List.map_nil]at r;cases r;exact .nil
 | k::s,_,r=>by
  rw[bt]at r
  cases r with
  | cons h t=>exact .cons (Ou h) (Ej t)
abbrev KT(H:Hp):aw (aw Key×V)->aw (aw Key×ar×av)->Prop:=Paired fun p q=>p.1=q.1/\H q.2.1=some (.tup (p.1.map kV))/\RelV p.2 q.2.2
theorem KT.val{H:Hp}{s:aw (aw Key×V)}{xs:aw (aw Key×ar×av)}(r:KT H s xs)(k:aw Key):oH (iR s k) ((atKey xs k).map (·.2)):=by
 induction r with
 | nil=>exact e9
 | @cons p q ps Q h t i=>
  obtain⟨f,_,a⟩:=h
  by_cases e:p.1=k
  .have E:q.1=k:=f.symm.trans e
   have b:atKey (q::Q) k=some q.2:=by simp [atKey,List.find?_cons,E]
   rw[dH e,b];exact a
  .have E:¬ q.1=k:=fun z=>e (f.trans z)
   have b:atKey (q::Q) k=atKey Q k:=by simp [atKey,List.find?_cons,E]
   rw[dI e,b];exact i
theorem KT.repl{H:Hp}{s:aw (aw Key×V)}{xs:aw (aw Key×ar×av)}(r:KT H s xs)(k:aw Key){y:V}{u:av}(R:RelV y u) :
  KT H (s.map fun v=>if v.1=k then (v.1,y) else v) (xs.map (putAt k u)):=by
 induction r with
 | nil=>exact .nil
 | @cons p q ps Q h t i=>
  rw[bt,bt];refine .cons ?_ i;obtain⟨f,a,b⟩:=h;unfold putAt
  by_cases e:p.1=k
  .rw[cS e,cS (f.symm.trans e)];exact⟨f,a,R⟩
  .rw[cK e,cK (fun z=>e (f.trans z))];exact⟨f,a,b⟩
def KT.put{H:Hp}{s:aw (aw Key×V)}{xs:aw (aw Key×ar×av)}(r:KT H s xs)(k:aw Key){b:ar}{y:V}{u:av}(c:H b=some (.tup (k.map kV)))(R:RelV y u) :
  KT H (putK s k y) (storedH xs k b u):=by
 have e:(s.any fun v=>decide (v.1=k))=(atKey xs k).isSome:=by
  rw[lR,(r.val k).vy,Option.isSome_map]
 unfold putK storedH;rw[e]
 by_cases q:(atKey xs k).isSome=true
 .rw[cS q,cS q];exact r.repl k R
 .rw[cK q,cK q];exact Paired.snoc r ⟨rfl,c,R⟩
def KT.keeps{H h:Hp}{k:aw (aw Key×V)}{xs:aw (aw Key×ar×av)}(r:KT H k xs)(ht:∀ b ys,H b=some (.tup ys)->h b=some (.tup ys)):KT h k xs:=
 Paired.qCI r fun _ _ z=>⟨z.1,ht _ _ z.2.1,z.2.2⟩
section
variable{P:ag}{w:aI}{H:Hp}{h:Heap}{a:ar}
def qAH{u:HO}(ok:lM P w H h)(e:Rd H a u):bM P w H h a u:=e.ok ok
def PN{k:aw (Key×V)}(ok:lM P w H h)(e:Rd H a (.dK k)):k.length<=sizeLine/\(a==sysModules)=false/\∃ vs,KV k vs/\h.DictOf (bu P w) a vs:=
 show bM P w H h a (.dK k) from qAH ok e
def qAU{k:aw (Key×V)}(ok:lM P w H h)(e:H a=some (.dK k)):k.length<=sizeLine/\(a==sysModules)=false/\∃ vs,KV k vs/\h.DictOf (bu P w) a vs:=PN ok (.inl e)
def Gk{s:aw Key}(ok:lM P w H h)(e:H a=some (.tup (s.map kV))):(tupleKind (bu P w)).is h s a:=by obtain⟨_,its,r,o,f,q,n,b⟩:=(show bM P w H h a (.tup (s.map kV)) from ok a _ e);exact⟨o,its.toArray,n,f,q,b,by simpa using Ej r⟩
theorem PK{k:aw (aw Key×V)}(ok:lM P w H h)(e:Rd H a (.dT k)):k.length<=sizeLine/\(a==sysModules)=false ∧
  ∃ xs,KT H k xs/\h.DictOfH (tupleKind (bu P w)) a xs:=by
 obtain⟨z,y,xs,r,o,E,ep,f,j,d,g,u⟩:=(show bM P w H h a (.dT k) from qAH ok e);refine⟨z,y,xs,r,o,E,ep,f,j,d,g,fun x b=>?_,u⟩
 have all:∀ {l:aw (aw Key×V)} {m:aw (aw Key×ar×av)},KT H l m->∀ x∈m,(tupleKind (bu P w)).is h x.1 x.2.1:=by
  intro l m q
  induction q with
  | nil=>intro x b;exact nomatch b
  | @cons p q ps Q c t i=>
   intro x b;rcases dD.mp b with e | b
   .subst e;exact Gk ok (by rw[<-c.1];exact c.2.1)
   .exact i x b
 exact all r x b
def Jp{k:aw (aw Key×V)}(ok:lM P w H h)(e:H a=some (.dT k)):k.length<=sizeLine/\(a==sysModules)=false ∧
  ∃ xs,KT H k xs/\h.DictOfH (tupleKind (bu P w)) a xs:=PK ok (.inl e)
end
def Hj(H:Hp)(a:ar)(y:V)(r:aE V):Prop:=
 (∃ s k,Rd H a (.dK s)/\y=kV k/\r=iR s k) ∨ ∃ s k b,Rd H a (.dT s)/\y = .ref b/\H b=some (.tup (k.map kV))/\r=iR s k
def Xl(H:Hp)(a:ar)(y v:V)(h:Hp):Prop:=
 (∃ s k,H a=some (.dK s)/\y=kV k/\s.length<sizeLine/\h=upd H a (.dK (putK s k v))) ∨
 ∃ s k b,H a=some (.dT s)/\y = .ref b/\H b=some (.tup (k.map kV))/\s.length<sizeLine/\h=upd H a (.dT (putK s k v))
def Hj.k{H:Hp}{a:ar}{s:aw (Key×V)}{k:Key}(e:H a=some (.dK s)):Hj H a (kV k) (iR s k):=.inl ⟨s,k,.inl e,rfl,rfl⟩
def Xl.k{H:Hp}{a:ar}{s:aw (Key×V)}{k:Key}{v:V}(e:H a=some (.dK s))(h:s.length<sizeLine):Xl H a (kV k) v (upd H a (.dK (putK s k v))):=.inl ⟨s,k,e,rfl,h,rfl⟩
section
variable{X:Cx}{pins:aw (ar×Obj)}{σ:St}{H:Hp}{s:ae}{a:ar}{y v:V}{u r:av}{o:aE V}{A:ai}{E:av->ae->Prop}
def Inv.big(I:Inv X pins σ H s):sysModules<s.heap.objs.size:=by have h:mainGlobals<s.heap.objs.size:=(I.mod.glob.keeps I.bk).lt;exact iL (by decide) h
def Ri{Q:av->ae->Prop}(i:A.units+1<cLine)(I:Inv X pins σ H s)(g:Hj H a y (some v))(R:RelV y u)(h:∀ W s',Inv X pins σ H s'->RelV v W->Q W s') :
  wpAny (model X.prog X.w) A (getItem (.ref a) u) Q E s:=by
 rcases g with ⟨f,k,e,c,l⟩ | ⟨f,k,b,e,c,J,l⟩
 .subst c;obtain⟨z,hd,vs,r,D⟩:=PN I.hok e;obtain⟨W,w,U⟩:=oH.some_of (v:=v) (o:=valueAt vs k) (by rw[l];exact r.val k);exact wpAny_getItem_of (Ou R) D.mapOf w (h W _ (I.tok _) U)
 .subst c
  cases (show u=Value.ref b from R)
  obtain⟨z,hd,xs,r,D⟩:=PK I.hok e;obtain⟨W,w,U⟩:=oH.some_of (v:=v) (o:=(atKey xs k).map (·.2)) (by rw[l];exact r.val k);obtain⟨p,j,d⟩:=jI.mp w;refine wpAny_getItem_heap (tupleKind_room_in1 i) (Gk I.hok J) D j ?_;rw[d];exact h W _ (I.tok _) U
def Zf{Q:av->ae->Prop}(f:A.units+1<cLine)(I:Inv X pins σ H s)(g:Hj H a y o)(R:RelV y u)(h:∀ s',Inv X pins σ H s'->Q (.bool (!o.isSome)) s') :
  wpAny (model X.prog X.w) A (compareOp .NotIn u (.ref a)) Q E s:=by
 rcases g with ⟨d,k,e,c,l⟩ | ⟨d,k,b,e,c,J,l⟩
 .subst c;obtain⟨z,hd,_,r,D⟩:=PN I.hok e;refine wpAny_notIn_of (Ou R) hd D.mapOf ?_;rw[<-(r.val k).vy,<-l];exact h _ (I.tok _)
 .subst c
  cases (show u=Value.ref b from R)
  obtain⟨z,hd,_,r,D⟩:=PK I.hok e;refine wpAny_notIn_heap (tupleKind_room_in1 f) (Gk I.hok J) hd D ?_;have q:=(r.val k).vy;rw[Option.isSome_map]at q;rw[<-q,<-l];exact h _ (I.tok _)
def Pb{h':Heap}{t':Nat}{O:HO}(I:Inv X pins σ H s)(m:Mut (H a))(d:Heap.SameBut a s.heap h')(g:∃ q,h'.get? a=some q)(new:bM X.prog X.w (upd H a O) h' a O) :
  Inv X pins σ (upd H a O) { s with heap:=h',toks:=t' }:=
 I.write (x:=a) (e:=a) m (.inl rfl) (fun b q c z=>(d.2 b c).trans z) g new
def qD1{P:ag}{w:aI}{H:Hp}{h':Heap}{k:aw (Key×V)}{vs:aw (Key×av)}(z:k.length<=sizeLine)(hd:(a==sysModules)=false)(r:KV k vs)(D:h'.DictOf (bu P w) a vs) :
  bM P w H h' a (.dK k):=⟨z,hd,vs,r,D⟩
def Rh{x:Hp}{Q:Unit->ae->Prop}(F:A.units+1<cLine)(I:Inv X pins σ H s)(g:Xl H a y v x)(B:RelV y u)(t:RelV v r)(h:∀ s',Inv X pins σ x s'->Q () s') :
  wpAny (model X.prog X.w) A (setItem (.ref a) u r) Q E s:=by
 rcases g with ⟨d,k,e,o,l,i⟩ | ⟨d,k,b,e,o,J,l,i⟩
 .subst o i;obtain⟨z,hd,vs,R,p⟩:=qAU I.hok e
  have n:vs.length<=sizeLine:=by rw[<-R.length];exact z
  have j:(putK d k v).length<=sizeLine:=by have:=wz d k v;omega
  refine wpAny_setItem_pairs (hsz:=n) (Ou B) p fun h' D m=>h _ ?_;have M:∃ q,h'.get? a=some q:=let ⟨q,_,_,f,_⟩:=D;⟨q,f⟩;exact Pb I (by rw[e];exact e9) m M (qD1 j hd (R.put k t) D)
 .subst o i
  cases (show u=Value.ref b from B)
  obtain⟨z,hd,xs,R,p⟩:=Jp I.hok e
  have n:xs.length<=sizeLine:=by rw[<-Paired.length R];exact z
  have j:(putK d k v).length<=sizeLine:=by have:=wz d k v;omega
  refine wpAny_setItem_heap (hsz:=n) (tupleKind_room_in1 F) (Gk I.hok J) p fun h' D m=>h _ ?_;obtain⟨q,C,ep,f,O,G,N,_,L⟩:=D;refine Pb I (by rw[e];exact e9) m ⟨q,f⟩ ⟨j,hd,_,(R.put k J t).keeps fun c _ w=>?_,q,C,ep,f,O,G,N,L⟩;rw[zR (gU w e (fun z=>nomatch z))];exact w
end
section
variable{X:Cx}{pins:aw (ar×Obj)}{σ:St}{H:Hp}{s:ae}{a:ar}{kvs:aw (Key×V)}{k:Key}{u:av}{A:ai}{E:av->ae->Prop}
end
def qJ7(i:Expr):Prop:=∀ O I,subscripted i false O I=operate [O,I] (getItem O I)
theorem YB{prog:ag}{w:aI}{A:ai}{E:av->ae->Prop}{s:ae}{v:Env}{e slice:Expr}{P:Pos}{T id:String}{Q:av->ae->Prop}
  (l:typeLookup (.type T) "__getitem__" = pure (some (.builtin id))) (d:qJ7 slice)
  (h:wpAny (model prog w) A (eval e v) (fun o a=>wpAny (model prog w) A (eval slice v) (fun i S=>S.TypeIs o T/\wpAny (model prog w) A (getItem o i) Q E S) E a) E s) :
  wpAny (model prog w) A (eval (.Subscript e slice P) v) Q E s:=by
 refine Subscript_ (c8 h (fun o a j=>c8 j (fun i S H=>?_) fun _ _ x=>x) fun _ _ x=>x);obtain⟨D,H⟩:=H;unfold subscriptTail;refine aS ?_;rw[getitemInPython_of_ne D.not_modules];refine aS (wpAny_specialOf D l ?_)
 have f:wpAny (model prog w) A (subscripted slice false o i) (fun r b=>wpAny (model prog w) A (letTemporaryGo e o r >>= fun _=>pure r) Q E b) E S:=by
  rw[d o i];exact wpAny_operating (c8 H (fun r b c=>aS (wpAny_letTemporaryGo (aT c))) fun _ _ x=>x)
 first
  | exact aT (aS f)
  | exact aS (aT (aS f))
  | exact aS f
def Jr{X:Cx}{p:aw (ar×Obj)}{σ:St}{H:Hp}{s:ae}{a:ar}{y:V}{o:aE V}(I:Inv X p σ H s)(g:Hj H a y o):s.TypeIs (.ref a) "dict" := by
 rcases g with ⟨c,k,e,_,_⟩ | ⟨c,k,b,e,_,_,_⟩
 .obtain⟨_,_,_,_,D⟩:=PN I.hok e;exact D.typeIs
 .obtain⟨_,_,_,_,D⟩:=PK I.hok e;exact D.typeIs
def qE2(t ty:TE):TE:=fun σ H Q=>t σ H fun x b=>ty σ b fun y h => ∃ a v,x = .ref a/\Hj h a y (some v)/\Q v h
def Y7(ty t:TE):TE:=fun σ H Q=>ty σ H fun y b=>t σ b fun x h => ∃ a o,x = .ref a/\Hj h a y o/\Q (.bl (!o.isSome)) h
def qEG(T ty t:TE):TS:=fun D σ H=>t σ H fun v c=>T σ c fun x d=>ty σ d fun y h => ∃ a b,x = .ref a/\Xl h a y v b/\D.nx σ b
section
variable{X:Cx}{o i e value:Expr}{pos pos' tpos:Pos}{td ty tv:TE}
def Yn(b:X.A.units+1<cLine)(j:PE X o td)(k:PE X i ty)(d:qJ7 i):PE X (.Subscript o i pos) (qE2 td ty):=by intro p s σ H Q I h;refine YB PySem.F.slot_dict_getitem.lookup d (bH (j p s σ H _ I h) fun u S ⟨x,c,l,r,f⟩=>bH (k p S σ c _ l f) fun _ _ hz_=>?_);apply aW;intro _ g_;obtain⟨y,e,A,R,a,v,E,g,q⟩:=hz_;apply g_;clear g_;subst E;obtain rfl:u=Value.ref a:=r;exact⟨Jr A g,Ri b A g R fun _ _ n U=>⟨v,e,n,U,q⟩⟩
def Qa(d:X.A.units+1<cLine)(j:PE X i ty)(f:PE X o td):PC X .NotIn i o (Y7 ty td):=by intro p s σ H Q I h;refine bH (j p s σ H _ I h) fun _ S ⟨y,b,k,R,q⟩=>bH (f p S σ b _ k q) fun u _ ⟨x,c,A,r,a,O,E,g,e⟩=>?_;subst E;obtain rfl:u=Value.ref a:=r;exact Zf d A g R fun _ n=>⟨.bl (!O.isSome),c,n,rfl,e⟩
def Yh(d:X.A.units+1<cLine)(l:PE X o td)(z:PE X i ty)(b:PE X value tv)(f:swapsWith value (some (.Subscript o i pos')) pos.line X.env=pure false) :
  PS X (.Assign [.Subscript o i pos'] value pos) (qEG td ty tv):=by intro p s σ H D I h;refine wpAny_Assign_Subscript (bH (b p s σ H _ I h) fun r j ⟨v,n,m,R,Q⟩=>bH (l p j σ n _ m Q) fun u S ⟨x,k,A,t,c⟩=>bH (z p S σ k _ A c) fun _ _ hz_=>?_) f;apply aW;intro _ g_;obtain⟨y,_,w,B,a,e,E,g,q⟩:=hz_;apply g_;clear g_;subst E;obtain rfl:u=Value.ref a:=t;exact Rh d w g B R fun _ P=>⟨σ,e,P,q⟩
end
def Ws{P:ag}{w:aI}{H:Hp}(h:Heap)(c:sysModules<h.objs.size):bM P w H (h.push { cls:=.type "dict",data:=.dict #[] }) h.objs.size (.dK []):=
 ⟨bo _,dQ.mpr (bE (jQ c)),[],.nil,Heap.DictOf.new h⟩
def qBD:TE:=fun _ H Q => ∀ p,H p=none->Q (.ref p) (upd H p (.dK []))
section
variable{X:Cx}{pos:Pos}
def Ue:PE X (.Dict [] [] pos) qBD:=fun _ s σ H Q I h=>
 wpAny_Dict_empty ⟨.ref s.heap.objs.size,_,I.laid (a:=s.heap.objs.size) (o:=.dK []) (t':=s.toks) (fun _ _ q=>fM _ q) (bD _) (Ws s.heap I.big),rfl,h _ (I.hok.fresh (bD _))⟩
end
structure M1(X:Cx)(o:Expr)(m:Str)(apos:Pos)(e:Expr)(cpos:Pos):Prop where
 base:attributeBase o m X.env (eval o X.env)=eval o X.env
 few:((backTo cpos (starEach [e] X.env)).all (fun x => !x.1)&&(backToKw cpos (keywordEach [] X.env)).all (fun x=>x.1.isSome)
  && decide (([e]:List Expr).length+([]:List Keyword).length+(if ([]:List Keyword).isEmpty then 0 else 1)<30))=true
 line:(apos.endLine==cpos.line)=true
 trees:backTo cpos (starEach [e] X.env)=[(false,eval e X.env)]
structure M2(X:Cx)(o:Expr)(m:Str)(apos:Pos)(e f:Expr)(cpos:Pos):Prop where
 base:attributeBase o m X.env (eval o X.env)=eval o X.env
 few:((backTo cpos (starEach [e,f] X.env)).all (fun x => !x.1)&&(backToKw cpos (keywordEach [] X.env)).all (fun x=>x.1.isSome)
  && decide (([e,f]:List Expr).length+([]:List Keyword).length+(if ([]:List Keyword).isEmpty then 0 else 1)<30))=true
 line:(apos.endLine==cpos.line)=true
 trees:backTo cpos (starEach [e,f] X.env)=[(false,eval e X.env),(false,eval f X.env)]
section
variable{X:Cx}{pins:aw (ar×Obj)}{σ:St}{H:Hp}{s:ae}{a:ar}{y d:V}{u r:av}{o:aE V}{A:ai}{E:av->ae->Prop}
end
section
variable{X:Cx}{o e f:Expr}{apos cpos:Pos}{td ty tx:TE}
end
section
variable{X:Cx}{pins:aw (ar×Obj)}{σ:St}{H:Hp}{s:ae}{a:ar}{kvs:aw (Key×V)}{A:ai}{E:av->ae->Prop}
end
section
variable{X:Cx}{pins:aw (ar×Obj)}{σ:St}{H:Hp}{s:ae}{a:ar}{y:V}{u:av}{A:ai}{E:av->ae->Prop}
end
end L2
namespace So
open PySem PyProof.Rows
def Kw(D:T = "list" ∨ T = "tuple")(H:s.heap.get? p=some o)(d:o.cls = .type T)(hd:o.data = .seq its.toArray n)(I:IntsAre its ns)(h:its.length<64)
  (F:∀(f h':Heap)(q:ar)(out:Array av)(r:aw Int)(e:Nat),IntsAre out.toList r->r.Perm ns->r.Pairwise (· <= ·)->f.objs.size<=q->h'.get? q=some (seqObj "list" out e)->(∀ b o,s.heap.get? b=some o->f.get? b=some o)->(∀ b o,f.get? b=some o->h'.get? b=some o)->Q (.ref q) { s with heap:=h' }) :
  wpAny (model prog w) A (call (.builtin "sorted") [.ref p]) Q E s:=by refine Calls.call_function_entry kind_sorted plain_sorted entry_sorted (args_sorted1 _) ?_;unfold Builtin.«sorted»;refine aS (aT ?_);refine aS (wpAny_collect_seq p D H d hd (fun f k=>?_) (by rw[CV,sizeLine_eq];lia));refine aS (wpAny_newList ?_ (by show its.length<=_;rw[sizeLine_eq];lia));have g:(f.push (seqObj "list" its.toArray 0)).get? f.objs.size=some (seqObj "list" its.toArray 0):=qy _ rfl;refine aS (cq (wpAny_call_entry slot_list_sort ⟨_,g,rfl⟩ entry_list_sort (list_sort_tree (s:={ s with heap:=f.push (seqObj "list" its.toArray 0) }) g I h fun out N a1 a2 a3=>⟨_,rfl,?_⟩) (args_list_sort _)));obtain⟨e,a⟩:=sortedHeap_at (out:=out) g;refine aT ⟨_,rfl,F f _ f.objs.size out N e a1 a2 a3 (bD _) a k fun b _ c=>?_⟩;have l:b<f.objs.size:=gQ c;rw[sortedHeap_old (jQ l) (by rw[eT];exact iE l)];exact fM _ c
def Ab(D:T = "list" ∨ T = "tuple")(H:s.heap.get? p=some o)(d:o.cls = .type T)(hd:o.data = .seq its.toArray n)(I:IntsAre its ns)(h:its.length<64)
  (F:∀(f h':Heap)(q:ar)(out:Array av)(r:aw Int)(e:Nat),IntsAre out.toList r->r.Perm ns->r.Pairwise (· ≥ ·)->f.objs.size<=q->h'.get? q=some (seqObj "list" out e)->(∀ b o,s.heap.get? b=some o->f.get? b=some o)->(∀ b o,f.get? b=some o->h'.get? b=some o)->Q (.ref q) { s with heap:=h' }) :
  wpAny (model prog w) A (call (.builtin "sorted") [.ref p] [(Str.ofString "reverse",.bool true)]) Q E s:=by refine call_function_entry_kw kind_sorted plain_sorted entry_sorted (args_sorted_rev _ _) ?_;unfold Builtin.«sorted»;refine aS (aT ?_);refine aS (wpAny_collect_seq p D H d hd (fun f k=>?_) (by rw[CV,sizeLine_eq];lia));refine aS (wpAny_newList ?_ (by show its.length<=_;rw[sizeLine_eq];lia));have g:(f.push (seqObj "list" its.toArray 0)).get? f.objs.size=some (seqObj "list" its.toArray 0):=qy _ rfl;refine aS (cq (wpAny_call_entry_kw slot_list_sort ⟨_,g,rfl⟩ entry_list_sort (list_sort_tree_rev (b:=true) (s:={ s with heap:=f.push (seqObj "list" its.toArray 0) }) g I h fun out N a1 a2 a3=>⟨_,rfl,?_⟩) (args_list_sort_rev _ _)));obtain⟨e,a⟩:=sortedHeap_at (out:=out) g;refine aT ⟨_,rfl,F f _ f.objs.size out N e a1 a2 a3 (bD _) a k fun b _ c=>?_⟩;have l:b<f.objs.size:=gQ c;rw[sortedHeap_old (jQ l) (by rw[eT];exact iE l)];exact fM _ c
end So
namespace L2
open PySem PySem.Spec PyProof.Rows
def Oa(K:bV)(l:Int->Int->Prop):aw V->Hp->VK->Prop:=fun xs H Q => ∃(p:ar)(ns:aw Int),xs=[.ref p]/\(aU K H p (ns.map V.int)∨aJ K H p (ns.map V.int))/\ns.length<64/\∀(q:ar)(r:aw Int),H q=none->r.Perm ns->r.Pairwise l->Q (.ref q) (upd H q (.lst (r.map V.int)))
def Inv.Tu(I:Inv X pins σ H s)(h:aU X.K H p (ns.map V.int)∨aJ X.K H p (ns.map V.int)) :
  ∃ T o its n,(T = "list" ∨ T = "tuple")/\s.heap.get? p=some o/\o.cls = .type T/\o.data = .seq its.toArray n/\IntsAre its ns:=by
 rcases h with h | h
 .obtain⟨its,r,pl,_⟩:=I.list h;obtain⟨o,q,d,n,hd⟩:=pl.isList;exact⟨"list",o,its,n,.inl rfl,q,d,hd,intsAre_of r⟩
 .obtain⟨its,r,pl,_⟩:=I.tuple h;obtain⟨o,q,d,n,hd⟩:=pl;exact⟨"tuple",o,its,n,.inr rfl,q,d,hd,intsAre_of r⟩
def qC:ir X (.builtin "sorted") (Oa X.K (· <= ·)):=by
 intro P s σ H _ _ Q I r h;obtain⟨p,_,rfl,f,_,q⟩:=h;obtain⟨u,rfl,x⟩:=vals1 r
 cases x
 obtain⟨T,o,_,n,D,t,g,hd,c⟩:=I.Tu f;have y:=c.length;refine So.Kw D t g hd c (by lia) fun m h' a out R e v d k b l j w=>?_;have J:Inv X P σ H { s with heap:=m }:=I.kept (t':=s.toks) j;have L:=d.length_eq
 have i:h'.get? a=some { cls:=.type "list",data:=.seq out.toList.toArray e }:=by
  rw[l]
 exact⟨.ref a,_,J.laid (h':=h') (t':=s.toks) (o:=.lst (R.map V.int)) w b ⟨by rw[bT];exact zJ (by lia),out.toList,e,jK v,i⟩,rfl,q a R (J.hok.fresh b) d k⟩
def qBB(K:bV)(t:TA):TE:=fun σ H Q=>t σ H fun vs h=>Oa K (· ≥ ·) vs h Q
def Az(E:Gl X "sorted")(w:X.mg "sorted" = none)(A:PA X [a] t)(k:starEach [a] X.env=[(false,eval a X.env)]:=by rfl) :
  PE X (.Call (.Name "sorted" p1) [a] [⟨some "reverse",.Constant (.bool true) j pd,kp⟩] pos) (qBB X.K t):=by
 intro P s σ H Q I h;refine wpAny_Call_Name_kw (jm I E w kg ?_);refine PyProof.Rows.callWith_kw (bH (A pos P s σ H _ I h) fun _ S ⟨_,F,f,R,B⟩=>?_) (by rw[k];rfl) (by rw[k];rfl) rfl rfl;refine PyProof.Rows.kws_cons (wpAny_Constant_bool (PyProof.Rows.kws_nil ?_));obtain⟨p,_,rfl,l,_,q⟩:=B;obtain⟨u,rfl,G⟩:=vals1 R
 cases G
 obtain⟨T,o,_,n,L,C,m,hd,d⟩:=f.Tu l;have N:=d.length;refine So.Ab L C m hd d (by lia) fun z h' b out r e D g x c y v M=>?_;have J:Inv X P σ F { S with heap:=z }:=f.kept (t':=S.toks) v;have O:=g.length_eq
 have i:h'.get? b=some { cls:=.type "list",data:=.seq out.toList.toArray e }:=by
  rw[y]
 exact⟨.ref b,_,J.laid (h':=h') (t':=S.toks) (o:=.lst (r.map V.int)) M c ⟨by rw[bT];exact zJ (by lia),out.toList,e,jK D,i⟩,rfl,q b r (J.hok.fresh c) g x⟩
theorem iU:∀(a b:aw Nat),a.Pairwise (· < ·)->b.Pairwise (· < ·)->(∀ k,k∈a↔k∈b)->a=b
 | [],[],_,_,_=>rfl
 | [],y::b,_,_,h=>absurd ((h y).mpr List.mem_cons_self) (by simp)
 | x::a,[],_,_,h=>absurd ((h x).mp List.mem_cons_self) (by simp)
 | x::a,y::b,d,g,h=>by
  obtain⟨a1,a2⟩:=i0.mp d;obtain⟨B,c⟩:=i0.mp g
  have e:x=y:=by
   have f:=(h x).mp FZ;have q:=(h y).mpr FZ;rcases dD.mp f with e | f
   .exact e
   .rcases dD.mp q with e | q
    .exact e.symm
    .have:=a1 y q;have:=B x f;lia
  subst e;congr 1;refine iU a b a2 c fun k=>?_;have H:=h k;rw[dD,dD]at H;constructor
  .intro z;rcases H.mp (.inr z) with e | Z
   .subst e;have:=a1 k z;lia
   .exact Z
  .intro z;rcases H.mpr (.inr z) with e | Z
   .subst e;have:=B k z;lia
   .exact Z
theorem Ec:∀ os:aw Nat,os.map (Int.toNat ∘ fun j:Nat=>(j:Int))=os
 | []=>rfl
 | x::l=>by
  rw[bt,Ec l];rfl
def Dy{r:aw Int}{os:aw Nat}(h:r.Perm (os.map fun j:Nat=>(j:Int))):∃ m:aw Nat,r=m.map (fun j:Nat=>(j:Int))/\m.Perm os:=by
 refine⟨r.map Int.toNat,?_,?_⟩
 .rw[gz]
  have:∀ x∈r,((fun j:Nat=>(j:Int)) ∘ Int.toNat) x=x:=fun x H=>by
   obtain⟨o,_,rfl⟩:=eX.mp (h.mem_iff.mp H);rfl
  rw[List.map_congr_left this,List.map_id']
 .have:=h.map Int.toNat;rw[gz]at this;rw[Ec]at this;exact this
def cj(os:aw Nat):(os.map fun j:Nat=>V.int (j:Int))=(os.map fun j:Nat=>(j:Int)).map V.int:=by rw[gz];rfl
def pA{r:aw Int}{os:aw Nat}(h:r.Perm (os.map fun j:Nat=>(j:Int)))(d:r.Pairwise (· <= ·))(H:os.Nodup):∃ m:aw Nat,r=m.map (fun j:Nat=>(j:Int))/\m.Pairwise (· < ·)/\m.Perm os:=by
 obtain⟨m,rfl,p⟩:=Dy h;refine⟨m,rfl,?_,p⟩;have n:=p.nodup_iff.mpr H;rw[List.pairwise_map]at d
 exact (d.and n).imp fun ⟨_,_⟩=>by lia
def wU{r:aw Int}{os:aw Nat}(h:r.Perm (os.map fun j:Nat=>(j:Int)))(d:r.Pairwise (· ≥ ·))(H:os.Pairwise (· < ·)):r=os.reverse.map (fun j:Nat=>(j:Int)):=by
 obtain⟨m,rfl,p⟩:=Dy h;congr 1;have n:=p.nodup_iff.mpr (H.imp fun z=>jQ z);rw[List.pairwise_map]at d
 have a:m.reverse.Pairwise (· < ·):=by
  rw[List.pairwise_reverse]
  exact (d.and n).imp fun ⟨_,_⟩=>by lia
 have e:=iU m.reverse os a H fun k=>by rw[hU];exact p.mem_iff
 rw[<-e,List.reverse_reverse]
end L2
namespace So
open PySem PyProof.Rows
def ZM:typeLookup (.type "dict") "__len__" = pure (some (.builtin "dict.__len__")):=by rw[typeLookup_type,builtinLookup_eq_fast];kernel_rfl
theorem xH:∀ {vs:aw av} {ns:aw Int},vs.length=ns.length->(∀(i:Nat)(n:Int),ns[i]? = some n->∃ t,vs[i]? = some (Value.int n t))->IntsAre vs ns
 | [],[],_,_=>.nil
 | [],n::ns,h,_=>by simp at h
 | v::vs,[],h,_=>by simp at h
 | v::vs,n::ns,h,k=>by
  obtain⟨t,ht⟩:=k 0 n rfl
  have e:v=Value.int n t:=by simpa using ht
  subst e;exact .cons n t (xH (by simpa using h) fun i m H=>by simpa using k (i+1) m (by simpa using H))
def Jt(hh:A.handled=none)(hd:(a==sysModules)=false)(hD:s.heap.DictOf (L2.bu prog w) a kvs)(Z:kvs.map (·.1)=ns.map Sum.inl)(hn:ns.length<=1000)
  (p:∀ h' (vs:aw av) (T:Nat),IntsAre vs ns->(∀ b o,s.heap.get? b=some o->h'.get? b=some o)->Q vs { s with heap:=h',toks:=T }) :
  wpAny (model prog w) A (collect (.ref a)) Q E s:=by
 have v:kvs.length=ns.length:=by
  have:=congrArg List.length Z
  simpa using this
 obtain⟨o,es,ep,ho,rest⟩:=hD;have hc:=rest.1;have L:a<s.heap.objs.size:=gQ ho;have hA:s.heap.DictAt (L2.bu prog w) a kvs ep:=⟨o,es,ho,rest⟩;unfold collect;refine aS (wpAny_runValue (codeAny_builtin F.entry_proto_collect ?_));rw[Around.under_plainId F.plain_proto_collect _];show wpAny _ A.in1 (newList [] >>= fun l=>again (.builtin "list.__iadd__" ⟨[l,.ref a],[]⟩)) _ _ s;refine aS (wpAny_newObj_type ?_);refine aT ⟨plainId_quiet F.plain_list_iadd _,codeAny_builtin F.entry_list_iadd ?_⟩;rw[Around.under_plainId F.plain_list_iadd _];have g0:(s.heap.push { cls:=.type "list",data:=.seq ([]:aw av).toArray }).get? s.heap.objs.size=some { cls:=.type "list",data:=.seq ([]:aw av).toArray }:=qy s.heap rfl
 have other:Builtin.List.listSameRef (.ref s.heap.objs.size) (.ref a)=false:=by simp [Builtin.List.listSameRef];exact iO L
 have d:=hA.at' (h':=s.heap.push { cls:=.type "list",data:=.seq ([]:aw av).toArray }) fun o e=>fM _ e;have P:Shared.TypeIs { s with heap:=s.heap.push { cls:=.type "list",data:=.seq ([]:aw av).toArray } } (.ref a) "dict" := d.dictOf.typeIs;show wpAny _ A.in1 (Builtin.List.listExtendWith (.ref s.heap.objs.size) (.ref a) (.ref s.heap.objs.size)) _ _ _;unfold Builtin.List.listExtendWith;refine aS (wpAny_typeOf P ?_);rw[cK (by rw[other];decide)];refine aS (wpAny_pyIter_dict hd d ?_);generalize M:({ cls:=.type "dict_keyiterator",data:=.fields #[.ref a,.int 0 0,.int kvs.length 0,.int ep 0] }:Obj)=u;generalize Y:(s.heap.push { cls:=.type "list",data:=.seq ([]:aw av).toArray }).push u=q;have N:(s.heap.push { cls:=.type "list",data:=.seq ([]:aw av).toArray }).objs.size=s.heap.objs.size+1:=eT _ _
 have C:∀ b O,(s.heap.push { cls:=.type "list",data:=.seq ([]:aw av).toArray }).get? b=some O->q.get? b=some O:=fun b O e=>by
  rw[<-Y];exact fM _ e
 have gI:q.get? (s.heap.push { cls:=.type "list",data:=.seq ([]:aw av).toArray }).objs.size=some u:=by
  rw[<-Y,<-M];exact qy _ rfl
 rw[show (s.heap.push { cls:=.type "list",data:=.seq ([]:aw av).toArray }).objs.size=s.heap.objs.size+1 from N]at gI ⊢;have g2:=C _ _ g0;have W4:=d.at' (h':=q) fun o e=>C _ _ e;have t:Shared.TypeIs { s with heap:=q } (.ref a) "dict" := W4.dictOf.typeIs;refine aS (cq ?_);unfold Builtin.List.listLengthHint;refine aS (wpAny_specialOf t ZM ?_)
 (generalize H:("dict.__len__" : String)=I;(fail_if_success (clear H I));wp_delta;rw[show splitId I=some ("dict","__len__") from by subst H;decide +kernel])
 refine aS (wpAny_isInstance (b:=true) t (by rw[isSubtype_type];kernel_rfl) ?_);subst H;show wpAny _ A.in1 (typeOf (.ref a) >>= _) _ _ _;refine aS (wpAny_typeOf t ?_);refine aT ?_;rw[cS (by decide)];refine aS (wpAny_rule (aS ?_));show wpAny _ A.in1 (updateSeq s.heap.objs.size (·.push .none) >>= fun _=>updateSeq s.heap.objs.size (·.pop)) _ _ _;refine aS (wpAny_updateSeq g2 rfl ?_);have g3:=cm (Obj.mapSeq (·.push Value.none)) g2 rfl;refine wpAny_updateSeq g3 rfl ?_;have g4:=cm (Obj.mapSeq (·.pop)) g3 rfl;have X:∀ b O,b≠s.heap.objs.size->q.get? b=some O->((q.update s.heap.objs.size (Obj.mapSeq (·.push Value.none))).update s.heap.objs.size (Obj.mapSeq (·.pop))).get? b=some O:=fun b O g e=>(ck _ _ (bE g)).trans ((ck _ _ (bE g)).trans e)
 have VR:s.heap.objs.size∉[s.heap.objs.size+1,a]:=by
  simp only[List.mem_cons,List.not_mem_nil,or_false,not_or];exact⟨by lia,iO L⟩
 have W:=(Walks.dictKeys (prog:=prog) (w:=w) (knd:=L2.bu prog w) (A:=A.in1) (by simp [hh]) (s.heap.objs.size+1) a (Nat.ne_of_lt (Nat.lt_succ_of_lt L)) kvs ep).toS;have U:q.IsKeyIter (s.heap.objs.size+1) a 0 kvs.length ep:=⟨u,gI,by rw[<-M],by rw[<-M];rfl⟩;have S:=W.frame 0 { s with heap:=q } ((q.update s.heap.objs.size (Obj.mapSeq (·.push Value.none))).update s.heap.objs.size (Obj.mapSeq (·.pop))) s.toks ⟨U,W4⟩ (bD _) fun b g O e=>X b O (fun z=>VR (z▸g)) e;refine aT ⟨plainId_quiet F.plain_extend_loop _,codeAny_extend_loopS W (by rw[v,sizeLine_eq];lia) _ VR _ kvs.length 0 _ _ _ rfl (bo _) S g4 (ItemsOf.nil _) fun s' c _ m B h=>?_⟩;show wpAny _ A (load s.heap.objs.size >>= _) _ _ s';refine aS (wpAny_load B ?_);have e1:s'.gens=s.gens:=m.gens;have e2:s'.drawn=s.drawn:=m.drawn;have e3:s'.os=s.os:=m.os;obtain⟨h',g',d',J,G⟩:=s';have R:g'=s.gens:=e1;have D:d'=s.drawn:=e2;have y:G=s.os:=e3;subst R D y;refine aT ?_;refine p h' c.toList J (xH (by rw[e7,h.1,v]) fun i n hi=>?_) fun b O e=>?_
 .have li:i<c.size:=by
   have:=(oW.mp hi).1;rw[h.1,v];exact this
  obtain⟨k,x,hx,r⟩:=h.2 i c[i] (by simp [li])
  have f:(kvs.map (·.1))[i]? = some k:=by rw[dZ,hx];rfl
  rw[Z,dZ,hi]at f;have ek:=kJ f;subst ek;obtain⟨T,e5⟩:=Value.isInt_shape r;exact⟨T,by simp [li,e5]⟩
 .have j:=gQ e;refine m.heap b O ?_ (X b O (jQ j) (C b O (fM _ e)));simp only[List.mem_cons,List.not_mem_nil,or_false,not_or];exact⟨jQ j,jQ (iE j)⟩
def Ky(h:A.handled=none)(hd:(a==sysModules)=false)(t:s.heap.DictOf (L2.bu prog w) a kvs)(n:kvs.map (·.1)=ns.map Sum.inl)(j:ns.length<64)
  (F:∀(f h':Heap)(T:Nat)(q:ar)(out:Array av)(r:aw Int)(e:Nat),IntsAre out.toList r->r.Perm ns->r.Pairwise (· <= ·)->f.objs.size<=q->h'.get? q=some (seqObj "list" out e)->(∀ b o,s.heap.get? b=some o->f.get? b=some o)->(∀ b o,f.get? b=some o->h'.get? b=some o)->Q (.ref q) { s with heap:=h',toks:=T }) :
  wpAny (model prog w) A (call (.builtin "sorted") [.ref a]) Q E s:=by refine Calls.call_function_entry kind_sorted plain_sorted entry_sorted (args_sorted1 _) ?_;unfold Builtin.«sorted»;refine aS (m:=checkCount "sorted" 1 1 _) (aT ?_);refine wpAny_bind (Jt (by first | exact h | simp [h]) hd t n (by lia) fun f vs T i k=>?_);have H:=i.length;refine aS (wpAny_newList ?_ (by rw[H,sizeLine_eq];lia));have g:(f.push (seqObj "list" vs.toArray 0)).get? f.objs.size=some (seqObj "list" vs.toArray 0):=qy _ rfl;refine aS (cq (wpAny_call_entry slot_list_sort ⟨_,g,rfl⟩ entry_list_sort (list_sort_tree (s:={ s with heap:=f.push (seqObj "list" vs.toArray 0),toks:=T }) g i (by lia) fun out N a1 a2 a3=>⟨_,rfl,?_⟩) (args_list_sort _)));obtain⟨e,d⟩:=sortedHeap_at (out:=out) g;refine aT ⟨_,rfl,F f _ T f.objs.size out N e a1 a2 a3 (bD _) d k fun b _ c=>?_⟩;have l:b<f.objs.size:=gQ c;rw[sortedHeap_old (jQ l) (by rw[eT];exact iE l)];exact fM _ c
end So
namespace L2
open PySem PySem.Spec PyProof.Rows
def UL:aw V->Hp->VK->Prop:=fun xs H Q => ∃(p:ar)(k:aw (Key×V))(ns:aw Int),xs=[.ref p]/\H p=some (.dK k)/\k.map (·.1)=ns.map Sum.inl/\ns.length<64/\∀(q:ar)(r:aw Int),H q=none->ns.Nodup->r.Perm ns->r.Pairwise (· <= ·)->Q (.ref q) (upd H q (.lst (r.map V.int)))
def HD(b:X.calm=true):ir X (.builtin "sorted") UL:=by
 intro P s σ H _ _ Q I r h;obtain⟨p,_,ns,rfl,l,w,c,q⟩:=h;obtain⟨u,rfl,y⟩:=vals1 r
 cases y
 obtain⟨z,hd,vs,R,D⟩:=qAU I.hok l
 have a:vs.map (·.1)=ns.map Sum.inl:=by rw[<-R.keys,w]
 have n:ns.Nodup:=by
  obtain⟨_,A⟩:=D.dictAt;have f:=A.nodup;rw[a]at f;exact (List.pairwise_map.mp f).imp fun z e=>z (by rw[e])
 refine So.Ky (I.ok.hd b) hd D a c fun f h' T d out k e x j t g v m B=>?_;have J:Inv X P σ H { s with heap:=f }:=I.kept (t':=s.toks) m;have L:=j.length_eq
 have i:h'.get? d=some { cls:=.type "list",data:=.seq out.toList.toArray e }:=by
  rw[v]
 exact⟨.ref d,_,J.laid (h':=h') (t':=T) (o:=.lst (k.map V.int)) B g ⟨by rw[bT];exact zJ (by lia),out.toList,e,jK x,i⟩,rfl,q d k (J.hok.fresh g) n j t⟩
end L2
namespace PySem
open Sem (wp)
open AutoSeq1 (wpAny_loadPart')
def Gb(g:s.heap.IsTupleIter q tt i)(gt:s.heap.IsTuple tt vs)(b:vs[i]? = some x)
  (H:∀ h',h'.IsTupleIter q tt (i+1)->Heap.SameBut q s.heap h'->Q x { s with heap:=h' }):wpAny (model prog w) A (Builtin.SmallTypes.nextOf (.ref q)) Q E s:=by obtain⟨_,go,gc,G⟩:=id g;obtain⟨_,a,_,_,t⟩:=gt;unfold Builtin.SmallTypes.nextOf;refine aS (wpAny_callSpecial?_slot g.typeIs F.slot_tuple_iterator_next (wpAny_call_entry F.slot_tuple_iterator_next g.typeIs F.entry_tuple_iterator_next ?_ (F.args_tuple_iterator_next_1 _)));show wpAny _ _ (field (.ref q) 0 >>= _) _ _ s;refine aS (wpAny_field go G (x:=.ref tt) rfl ?_);show wpAny _ _ (if (Value.ref tt==Value.none)=true then _ else _) _ _ s;rw[cK (show ¬ ((Value.ref tt==Value.none)=true) from rA)];show wpAny _ _ (field (.ref q) 1 >>= _) _ _ s;refine aS (wpAny_field go G (x:=.int i 0) rfl ?_);show wpAny _ _ (seqItems? (.ref tt) >>= _) _ _ s;refine aS (wpAny_seqItems a t ?_);simp only[Int.toNat_natCast,b];refine wpAny_bind (wpAny_setField go G (by simp) (wpAny_pure ⟨x,rfl,wpAny_pure (H _ ?_ (Heap.SameBut.update ..))⟩));exact⟨_,cm _ go (Obj.isFreed_of_fields (Obj.data_mapFields G _)),(Obj.cls_mapFields ..).trans gc,by rw[Obj.data_mapFields G];simp [rawInt]⟩
def wu(b:A.handled=none)(g:s.heap.IsTupleIter q tt i)(gt:s.heap.IsTuple tt vs)(c:vs[i]? = none)
  (h:∀ h' e,Heap.ExtBut q s.heap h'->(∃ o,h'.get? e=some o/\o.cls = .type "StopIteration")->E (.ref e) { s with heap:=h' }):wpAny (model prog w) A (Builtin.SmallTypes.nextOf (.ref q)) Q E s:=by
 obtain⟨_,go,_,G⟩:=id g;obtain⟨_,a,_,_,t⟩:=gt;unfold Builtin.SmallTypes.nextOf;refine aS (wpAny_callSpecial?_slot g.typeIs F.slot_tuple_iterator_next (wpAny_call_entry F.slot_tuple_iterator_next g.typeIs F.entry_tuple_iterator_next ?_ (F.args_tuple_iterator_next_1 _)));show wpAny _ _ (field (.ref q) 0 >>= _) _ _ s;refine aS (wpAny_field go G (x:=.ref tt) rfl ?_);show wpAny _ _ (if (Value.ref tt==Value.none)=true then _ else _) _ _ s;rw[cK (show ¬ ((Value.ref tt==Value.none)=true) from rA)];show wpAny _ _ (field (.ref q) 1 >>= _) _ _ s;refine aS (wpAny_field go G (x:=.int i 0) rfl ?_);show wpAny _ _ (seqItems? (.ref tt) >>= _) _ _ s;refine aS (wpAny_seqItems a t ?_);simp only[Int.toNat_natCast,c];refine wpAny_bind (wpAny_rule (wpAny_bind (wpAny_setField go G (by simp) ?_)));show wpAny _ _ ((newExc (.type "StopIteration") []) >>= _) _ _ _;refine aS ?_;simp only[newExc,newTuple];refine (aS (wpAny_newObj_type ?_ (by size_fits)));refine (wpAny_bind (wpAny_of_eq (by first | rfl | (simp only[firstArgMember];rfl)) ?_));refine (wpAny_newObj_type ?_ (by size_fits));simp only[raiseNew];refine aS (wpAny_handled ?_)
 (first | rw[show A.in1.handled=none from b] | rw[b])
 refine (aS (aT (wpAny_throw ?_)));exact (h _ _ (((Heap.SameBut.update ..).extBut.push _).push _) ⟨_,qy _ rfl,rfl⟩)
def Wr(g:A.handled=none)(q t:ar)(b:t≠q)(vs:Array av) :
  Draws prog w A q [q,t] vs.size (fun i v=>vs[i]? = some v) (fun i h=>h.IsTupleIter q t i/\h.IsTuple t vs) where
 live:=fun _ _ st=>let ⟨o,j,_⟩:=st.1;⟨o,j⟩
 frame:=fun _ _ _ st k=>⟨st.1.at fun o e=>k q (by simp) o e,st.2.at fun o e=>k t (by simp) o e⟩
 item:=fun i s Q E c st d=>by
  refine Gb st.1 st.2 (x:=vs[i]) (by simp [c]) fun h' H a=>?_;exact d _ h' s.toks (by simp [c]) ⟨H,st.2.extBut a.extBut b⟩ a
 done:=fun s Q E st f=>wu g st.1 st.2 (by simp) f
def Wn(l:ar)(vs:Array av)(n:Nat)(D:aE ar)(S:Array (aE av)) :
  Meets (Builtin.«enumerate.__new__» ⟨[.type "enumerate",.ref l],[]⟩) (fun _ R s=>s.heap.get? l=some { cls:=.type "tuple",dict:=D,data:=.seq vs n,slots:=S } ∧
   R (.ok (.ret (.ref (s.heap.push { cls:=.type "tuple_iterator",data:=.fields #[.ref l,.int 0 0] }).objs.size)))
    { s with heap:=(s.heap.push { cls:=.type "tuple_iterator",data:=.fields #[.ref l,.int 0 0] }).push { cls:=.type "enumerate",data:=.fields #[.none,.bool false,.ref s.heap.objs.size,rawInt 0,.none,.none] } }):=
 .of_wp fun _ w A R s h=>by
  obtain⟨p,g,d,T,os⟩:=s;obtain⟨H,h⟩:=h;have b:=sub_enumerate;have a:Heap.IsTuple (Shared.heap ⟨p,g,d,T,os⟩) l vs:=⟨_,H,rfl,n,rfl⟩
  wp_walk using wpAny_loadPart' H
  refine wpAny_stack_any fun _=>aT ?_
  split
  .rename_i c _ _ _ _ _
   cases (c==Value.type "enumerate")
   .wp_walk using wpAny_loadPart' H,wpAny_pyIter_tuple a
    exact⟨_,rfl,h⟩
   .wp_walk using wpAny_loadPart' H,wpAny_pyIter_tuple a
    exact⟨_,rfl,h⟩
  .wp_walk using wpAny_loadPart' H,wpAny_pyIter_tuple a
   exact⟨_,rfl,h⟩
def Rx(L:s.heap.IsTuple l vs)
  (h:∀ h',IsEnum h' (s.heap.objs.size+1) s.heap.objs.size 0 .none->h'.IsTupleIter s.heap.objs.size l 0->h'.objs.size=s.heap.objs.size+2 →
   (∀ b o,s.heap.get? b=some o->h'.get? b=some o)->Q (.ref (s.heap.objs.size+1)) { s with heap:=h' }) :
  wpAny (model prog w) A (call (.type "enumerate") [.ref l]) Q E s:=by
 obtain⟨⟨c,D,t,S⟩,a,d,n,hd⟩:=L
 replace d:c = .type "tuple" := d
 replace hd:t = .seq vs n:=hd
 subst d hd;refine callType_new F.called_enumerate (by decide) (F.typeCall_enumerate_1 _) (F.newCall_enumerate_1 _) (fun O=>F.args_object_init_2 O _) F.entry_enumerate_new (Wn l vs n D S) ⟨a,?_⟩;have H:(s.heap.push { cls:=.type "tuple_iterator",data:=.fields #[.ref l,.int 0 0] }).objs.size=s.heap.objs.size+1:=eT ..;show _/\_;rw[H]
 have g:IsEnum ((s.heap.push { cls:=.type "tuple_iterator",data:=.fields #[.ref l,.int 0 0] }).push
   { cls:=.type "enumerate",data:=.fields #[.none,.bool false,.ref s.heap.objs.size,rawInt 0,.none,.none] }) (s.heap.objs.size+1) s.heap.objs.size 0 .none:=by
  have:=qy (s.heap.push { cls:=.type "tuple_iterator",data:=.fields #[.ref l,.int 0 0] })
   (o:={ cls:=.type "enumerate",data:=.fields #[.none,.bool false,.ref s.heap.objs.size,rawInt 0,.none,.none] }) rfl
  rw[H]at this;exact this
 exact⟨⟨_,g,rfl⟩,h _ g ⟨_,fM _ (qy _ rfl),rfl,rfl⟩ (by rw[eT,H]) fun b o x=>fM _ (fM _ x)⟩
def Wo(f:A.handled=none)(a:IsEnum s.heap e q j old)(g:s.heap.IsTupleIter q tt i)(gt:s.heap.IsTuple tt vs)(G:vs[i]? = none)
  (c:∀ h',Heap.ExtBut q s.heap h'->Q none { s with heap:=h' }):wpAny (model prog w) A (pyNext (.ref e)) Q E s:=by have D:s.TypeIs (.ref e) "enumerate" := ⟨_,a,rfl⟩;unfold pyNext;refine aS (wpAny_attempt (wpAny_callSpecial?_slot D F.slot_enumerate_next (wpAny_call_entry F.slot_enumerate_next D F.entry_enumerate_next ?_ (F.args_enumerate_next_1 _))));show wpAny _ _ (field (.ref e) 2 >>= _) _ _ _;refine aS (wpAny_field a rfl (x:=.ref q) rfl ?_);refine aS (wu (A:=A.in1) f g gt G fun h' x h H=>?_);obtain⟨o,k,d⟩:=H;refine (aS (wpAny_isInstance (T := "StopIteration") (b:=true) ⟨o,k,d⟩ isSubtype_stop ?_));exact aT (c _ h)
end PySem
namespace L2
open PySem PySem.Spec PyProof.Rows
def Inv.Nb{t':Nat}{T:aw ar}(I:Inv X pins σ H s)(k:∀ b o,b∉T->s.heap.get? b=some o->h'.get? b=some o)(h:∀ b∈T,oJ X pins H b):Inv X pins σ H { s with heap:=h',toks:=t' }:=by
 have N:∀ b u,H b=some u->b∉T:=fun b u e z=>by
  rw[(h b z).1]at e
  cases e
 refine I.step (fun b i=>?_) (fun b o _ _ d e _=>k b o d e) (fun b o _ _ d e _=>⟨o.slots,k b o d e⟩) (fun _ _ _ _ n=>n) (fun b o d e=>⟨o,k b o d e⟩) (fun _ _ e=>e) (fun _ _ _ e=>e) (fun b _ e=>⟨#[],by rw[e];simp⟩) (fun m g=>?_) (fun b u e=>?_) I.bare
 .obtain⟨_,y,_,f,C,F⟩:=h b i;exact⟨f,y,C,F⟩
 .obtain⟨o,E,ep,a,r⟩:=g;exact⟨o,E,ep,k _ o (fun z=>(h _ z).2.1 rfl) a,r⟩
 .refine (I.hok b u e).stay (fun c v d q=>k c v ?_ q) (fun _ q=>q) fun _ _ q=>q;rcases d with z | z
  .rw[z];exact N b u e
  .exact N c _ z
def Ite(K:bV)(a:ar):It:=
 ⟨fun i H => ∃ xs x,aJ K H a xs/\xs[i]? = some x,fun i H v h=>∃ t x,v = .ref t/\H t=none/\(∀ xs,aJ K H a xs->xs[i]? = some x)/\h=upd H t (.tup [.int (i:Int),x]),fun i H => ∃ xs,aJ K H a xs/\xs.length<=i⟩
def QF{P:ag}{w:aI}{K:bV}{es:aw Expr}{k:Nat}{R:Pos}(a e q:ar):Turn P w K (.Tuple es k R) (Ite K a) [e,q] e (fun i h=>(∃ O,IsEnum h e q (i:Nat) O)/\h.IsTupleIter q a i) where
 mem:=by simp
 obj:=fun i h st b c=>by
  obtain⟨⟨O,d⟩,o,ho,B,hd⟩:=st;rcases dD.mp c with rfl | c
  .refine⟨_,d,fun v z=>?_⟩;have z2:Data.fields _=Data.cell v:=z
   cases z2
  .rw[jA.mp c];exact⟨o,ho,fun v z=>by rw[hd]at z;cases z⟩
 keep:=fun i h _ st k=>by
  obtain⟨⟨O,d⟩,m⟩:=st;exact⟨⟨O,k e (by simp) _ d⟩,m.at fun o z=>k q (by simp) o z⟩
 item:=by
  intro X M Q hK B i f s σ H E I F st hg;subst M Q hK;obtain⟨xs,x,m,W⟩:=hg;obtain⟨its,Y,p,hz⟩:=I.tuple m;obtain⟨u,hu,ru⟩:=Y.get W;obtain⟨⟨O,d⟩,hit⟩:=st;have pt:s.heap.IsTuple a its.toArray:=p
  have S:a≠q:=fun z=>by
   obtain⟨o1,t,r,_⟩:=pt;obtain⟨o2,G,Z,_⟩:=hit;rw[z,G]at t
   cases t
   rw[Z]at r;injection r with r;exact eu r (by decide)
  have n:e≠q:=fun z=>by
   obtain⟨o2,G,Z,_⟩:=hit;rw[<-z]at G;have g3:=G.symm.trans d
   cases g3
   have C:Value.type "enumerate" = Value.type "tuple_iterator" := Z;injection C with C;exact eu C (by decide)
  have nea:e≠a:=fun z=>by
   obtain⟨o1,t,r,_⟩:=pt;rw[<-z]at t;have g3:=t.symm.trans d
   cases g3
   have C:Value.type "enumerate" = Value.type "tuple" := r;injection C with C;exact eu C (by decide)
  have D:=Wr (prog:=X.prog) (w:=X.w) (A:=X.A.in1) (I.ok.hd B) q a S its.toArray
  have U:i<its.toArray.size:=by
   have:=(oW.mp hu).1
   simpa using this
  have j:H s.heap.objs.size=none:=I.hok.fresh (bD _);refine wpAny_pyNext_enum_itemD D d ⟨hit,pt⟩ U n (by simp [n,nea]) fun y _ T J ho hs1 hT _ hk=>?_
  obtain rfl:y=u:=by
   rw[List.getElem?_toArray,hu]at J;exact (kJ J).symm
  refine⟨_,rfl,wpAny_letOwnedTupleGo_enum ho fun L he2 sb=>?_⟩;have N:s.heap.objs.size≠e:=iO (gQ d)
  have nsq:s.heap.objs.size≠q:=by
   obtain⟨o2,G,_⟩:=hit;exact iO (gQ G)
  have kk:∀ b o,b∉[e,q]->s.heap.get? b=some o->L.get? b=some o:=fun b o c g=>by
   have b1:b≠e:=fun z=>c (by simp [z]);have b2:b≠q:=fun z=>c (by simp [z]);exact (sb.2 b b1).trans (hk b o b1 b2 g)
  have I1:Inv X f σ H { s with heap:=L,toks:=T+1 }:=I.Nb kk F
  have I2:Inv X f σ (upd H s.heap.objs.size (.tup [.int (i:Int),x])) { s with heap:=L,toks:=T+1 }:=by
   refine Inv.adopt I1 (I.Cr (bD _) j) ⟨by show 2<=sizeLine;decide,[.int i T,y],.cons ⟨T,rfl⟩ (.cons ru .nil),?_⟩;exact⟨_,(sb.2 _ N).trans hT,rfl,_,rfl⟩
  refine⟨.ref s.heap.objs.size,_,I2,rfl,⟨_,x,rfl,j,fun _ J=>by rw[I.Df J m];exact W,rfl⟩,⟨⟨y,by have:=he2;simpa using this⟩,hs1.1.at fun o g=>(sb.2 q (Ne.symm n)).trans g⟩,fun b c=>?_⟩
  have nb:b≠s.heap.objs.size:=by
   rcases dD.mp c with rfl | c
   .exact bE N
   .rw[jA.mp c];exact bE nsq
  rw[zR nb];exact (F b c).1
 done:=by
  intro X M Q hK B i f s σ H E I F st hg;subst M Q hK;obtain⟨xs,m,W⟩:=hg;obtain⟨its,Y,p,hz⟩:=I.tuple m;obtain⟨⟨O,d⟩,hit⟩:=st;have pt:=p;have hl:=Y.length
  have l:its.toArray[i]? = none:=by simp;lia
  refine Wo (I.ok.hd B) d hit pt l fun L eb=>⟨rfl,?_⟩;exact I.Nb (fun b o c g=>eb b o (fun z=>c (by simp [z])) g) F
 self:=fun _ _ _ _ _ st h=>by
  obtain⟨⟨O,d⟩,_⟩:=st;exact wpAny_pyIter_enum d h
def qFV(K:bV)(t:TA):TI:=fun σ H R=>t σ H fun vs h => ∃ a,vs=[.ref a]/\(∃ xs,aJ K h a xs)/\R (Ite K a) h
theorem uK{l:Expr}{t:TA}{p c:Pos}(x:Gl X "enumerate")(m:X.mg "enumerate" = none)(v:PA X [l] t)(o:starEach [l] X.env=[(false,eval l X.env)]:=by rfl):PI X (.Tuple es k tpos) (.Call (.Name "enumerate" p) [l] [] c) (qFV X.K t):=by
 intro P s σ H R I h;refine Call_ (jm I x m boot_enumerate (kn (bH (v c P s σ H _ I h) fun _ S ⟨_,f,j,n,Q⟩=>?_) o rfl));obtain⟨a,e,⟨_,i⟩,q⟩:=Q;subst e
 cases n with
 | cons r w=>
  cases w
  cases r
  obtain⟨_,_,p,_⟩:=j.tuple i;refine Rx p fun h' g hit _ u=>?_;refine wpAny_pyIter_enum g ?_;have A:Inv X P σ f { S with heap:=h' }:=j.kept (t':=S.toks) u;refine⟨S.heap.objs.size+1,[S.heap.objs.size+1,S.heap.objs.size],_,_,f,rfl,A,QF a _ _,⟨⟨.none,by simpa using g⟩,hit⟩,fun b d=>?_,q⟩;rcases dD.mp d with rfl | d
  .exact j.Cr (ip _) (j.hok.fresh (ip _))
  .rw[jA.mp d];exact j.Cr (bD _) (j.hok.fresh (bD _))
def pY{K:bV}{a:ar}{xs:aw V}{g:TG}{T:TS}{D:Ends}{σ:St}{H:Hp}(Pv:Nat->St->Hp->Prop)(e:Pv 0 σ H)(l:∀ i σ H,i<=xs.length->Pv i σ H->aJ K H a xs)
  (s:∀ i x σ H t,xs[i]? = some x->Pv i σ H->H t=none->g (.ref t) σ (upd H t (.tup [.int (i:Int),x])) fun σ2 b=>T { D with nx:=Pv (i+1),ct:=Pv (i+1),bk:=D.nx } σ2 b) (hd:∀ σ H,Pv xs.length σ H->D.nx σ H) :
  ∃ W:Nat->Nat->St->Hp->Prop,(∃ m,W 0 m σ H)/\∀ i m σ H,W i m σ H →
   ((Ite K a).stop i H/\D.nx σ H)∨((Ite K a).go i H/\∃ N:St->Hp->Prop,(∀ σ' h,N σ' h->∃ m',m'<m/\W (i+1) m' σ' h)/\∀ x h,(Ite K a).Xy i H x h->g x σ h fun σ2 b=>T { D with nx:=N,ct:=N,bk:=D.nx } σ2 b):=by
 refine⟨fun i m σ H=>m+i=xs.length/\Pv i σ H,⟨xs.length,rfl,e⟩,?_⟩;rintro i m σ H ⟨_,p⟩;have q:=l i σ H (by lia) p
 by_cases c:i<xs.length
 .refine .inr ⟨⟨xs,xs[i],q,by simp [c]⟩,Pv (i+1),fun σ' h p'=>⟨m-1,by lia,by lia,p'⟩,fun v h y=>?_⟩;obtain⟨t,x,rfl,ht,d,rfl⟩:=y;exact s i x σ H t (d xs q) p ht
 .obtain rfl:i=xs.length:=by lia
  exact .inl ⟨⟨xs,q,bD _⟩,hd σ H p⟩
end L2
namespace L2
open PySem
noncomputable def qD5:Expr->aE V
 | .Constant (.int i) _ _=>some (.int i)
 | .Constant (.str z) _ _=>some (.str z)
 | .UnaryOp .USub (.Constant (.int i) _ _) _=>some (.int (-i))
 | _=>none
noncomputable def Pj:aw Expr->aE (aw V)
 | []=>some []
 | e::E=>match qD5 e,Pj E with
  | some v,some vs=>some (v::vs)
  | _,_=>none
section
variable{X:Cx}
def qD4(h:qD5 e=some v):PE X e (fun _ H Q=>Q v H)/\∀ E,starEach (e::E) X.env=(false,eval e X.env)::starEach E X.env:=by
 unfold qD5 at h
 split at h
 .cases h;exact⟨zB,fun _=>rfl⟩
 .cases h;exact⟨zQ,fun _=>rfl⟩
 .cases h;refine⟨fun p s σ H Q I h=>?_,fun _=>rfl⟩;exact (Ay rH zB) p s σ H Q I ⟨_,rfl,h⟩
 .cases h
theorem Dz:∀ {E:aw Expr} {vs:aw V},Pj E=some vs->PA X E (fun _ H Q=>Q vs H)
 | [],vs,h=>by
  cases h
  exact zD
 | e::E,vs,h=>by
  unfold Pj at h
  split at h
  .rename_i v c f q
   cases h
   obtain⟨a,b⟩:=qD4 f;exact zA a (Dz q) (b E)
  .cases h
end
structure RE(X:Cx)(e:Expr)(t:TE):Prop where
 p:PE X e t
structure RS(X:Cx)(st:Stmt)(t:TS):Prop where
 p:PS X st t
structure RSs(X:Cx)(st:List Stmt)(t:TS):Prop where
 p:Cw X st t
structure RA(X:Cx)(es:List Expr)(t:TA):Prop where
 p:PA X es t
section
variable{X:Cx}{e a b c:Expr}{es:aw Expr}{te ta tb:TE}{tc:TT}{tr:TA}{pos:Pos}{st:Stmt}{ss rest:aw Stmt}{t u:TS}
def qEM(h:RS X st t):RSs X [st] t:=⟨zG h.p⟩
def jf(h:RS X st t)(q:RSs X rest u):RSs X (st::rest) (Y4 t u):=⟨zE h.p q.p⟩
def qEN(h:RS X st t)(q:RSs X rest u):RSs X (st::rest) (qE5 t u):=⟨yA h.p q.p⟩
def J9(h:PS X st t):RS X st t:=⟨h⟩
def JB(N:X.N.Nodup)(a:X.N[i]? = some x)(h:Loc X.env.scope x)(g:RE X e te)(d:swapsWith e (some (.Name x pos')) pos.line X.env=pure false:=by rfl)(H:X.fn x=true∨X.env.scope.names.lookup x=some .local:=by first | exact .inl rfl | exact .inr rfl | assumption):RS X (.Assign [.Name x pos'] e pos) (Y8 te (PB i)):=⟨zL N a h g.p d H⟩
def JD(f:RE X a ta)(c:PE X b tb)(d:Pz b):RE X (.Subscript a b pos) (tOp (Yc X.K) ta tb):=⟨yC yV f.p c d⟩
def JC(h:RA X es tr):RE X (.List es pos) (qDZ tr):=⟨yL h.p⟩
def Aq(h:Pj es=some vs):RA X es (fun _ H Q=>Q vs H):=⟨Dz h⟩
end
end L2
namespace L2
open PySem PySem.Spec PyProof.Rows
def range_any(n:Nat)(f:Nat->Bool)(bs:aw Bool)(l:bs.length=n)(H:∀ i b,bs[i]? = some b->f i=b):(List.range n).any f=bs.any id:=by
 rw[eK,fi,fi];constructor
 .rintro⟨i,a,h⟩
  have o:i<bs.length:=by rw[l];exact hJ.mp a
  rw[H i _ (fQ o)]at h;exact⟨_,lQ o,h⟩
 .rintro⟨b,hb,h⟩;obtain⟨i,e⟩:=gT.mp hb;have a:=(oW.mp e).1;exact⟨i,hJ.mpr (by lia),by rw[H i b e];exact h⟩
def qi(w:X.calm=true):ir X (.builtin "any") (fun xs H Q => ∃(p:ar)(bs:aw Bool),xs=[.ref p]/\aU X.K H p (bs.map V.bl)/\Q (.bl (bs.any id)) H):=by
 intro _ s σ H xs _ Q I r h;obtain⟨p,bs,rfl,g,q⟩:=h;obtain⟨u,rfl,m⟩:=vals1 r
 cases m
 obtain⟨its,R,pl,_⟩:=I.list g;have n:=R.length;rw[bT]at n
 have t:p<s.heap.objs.size:=by
  obtain⟨o,C,_⟩:=pl.isList;exact gQ C
 refine call_any_walk (wpAny_pyIter_list pl.isList ?_)
 refine⟨s.heap.objs.size,[s.heap.objs.size,p],[s.heap.objs.size],its.toArray.size,fun i v=>its.toArray[i]? = some v,fun i h=>h.IsListIter s.heap.objs.size p i/\h.IsList p its.toArray,fun i=>(bs[i]?).getD true,rfl,
  Walks.list (A:=X.A.in1) (I.ok.hd w) _ _ (jQ t) _,⟨⟨_,qy _ rfl,rfl,rfl⟩,pl.isList.at fun o e=>fM _ e⟩,?_,?_⟩
 .intro i v s' j _ f d
  have y:i<bs.length:=by
   have:=(eB.mp f).1;simp only[List.size_toArray]at this;lia
  have e:bs[i]? = some bs[i]:=fQ y;obtain⟨u,l,B⟩:=R.get (i:=i) (x:=V.bl bs[i]) (by rw[dZ,e];rfl)
  have c:its[i]? = some v:=by simpa using f
  rw[l]at c
  cases c
  cases B
  have a:j ((bs[i]?).getD true) s':=d;rw[e]at a;exact wpAny_truthy_bool a
 .intro h' T k;refine⟨.bl (bs.any id),H,I.kept (t':=T) (h':=h') fun b u e=>k b u (fun z=>?_) (fM _ e),?_,q⟩
  .have Z:b=s.heap.objs.size:=by simpa using z
   exact eu (gQ e) (by rw[Z];exact iq _)
  .show Value.bool _=Value.bool _;rw[range_any its.toArray.size _ bs (by simp only[List.size_toArray];exact n) fun i b e=>by rw[e];rfl]
def Itd(top:Int)(n:Nat):It:=⟨fun i _=>i<n,fun i H x h=>h=H/\x = .int (top-i),fun i _=>n<=i⟩
def QG{w:aI}{K:bV}{x:Expr}(a:ar)(top:Int)(n:Nat):Turn P w K x (Itd top n) [a] a (fun i h=>IsRangeIter h a (top+(i:Nat)*(-1)) ((n:Int)-(i:Nat)) (-1)) where
 mem:=by simp
 obj:=fun i h st b c=>by
  obtain rfl:b=a:=by simpa using c
  refine⟨_,st,fun v z=>?_⟩;have z2:=z
  cases z2
 keep:=fun i h h' st k=>k a (by simp) _ st
 item:=by
  intro X l g B d i p s σ H E I f st m;subst l g B;obtain⟨f0,y,_,j,C,F⟩:=f a (by simp);refine (Walks.range (prog:=X.prog) (w:=X.w) (I.ok.hd d) a top (-1) n).item i s _ _ m st fun v h' T q S A=>?_;obtain⟨t,rfl⟩:=q;have u:Inv X p σ H { s with heap:=h',toks:=T }:=I.turned (fun b o c e=>A b o (by simpa using c) e) f0 y j C F
  have r:top+(i:Int)*(-1)=top-i:=by lia
  refine⟨_,rfl,Em (n := "range_iterator") S rfl rfl (by decide) ⟨.int (top-i),H,u,⟨t,by rw[<-r]⟩,⟨rfl,rfl⟩,S,fun b c=>(f b c).1⟩⟩
 done:=by
  intro X l g B d i p s σ H E I f st m;subst l g B;obtain⟨f0,y,_,j,C,F⟩:=f a (by simp);have D:n<=i:=m;exact wpAny_pyNext_range_end (I.ok.hd d) st (by lia) fun h' J=>⟨rfl,I.turned (t':=s.toks) (fun b o c e=>J b o c e) f0 y j C F⟩
 self:=fun _ _ _ _ _ st h=>wpAny_pyIter_rangeiter st h
def Ze(I:Inv X pins σ H s)(f : -(2 ^ 62)<=x)(c:x<2 ^ 62)(h : -(2 ^ 62)<=y)(l:y<2 ^ 62)
  (q:R (Itd x (x-y).toNat) H):wpAny (model X.prog X.w) X.A (pyIter (.ref s.heap.objs.size)) (PIE X pins σ tg R) E { s with heap:=s.heap.push { cls:=.type "range",data:=.fields #[.int x t,.int y u,.int (-1) v] },toks:=tk }:=by
 refine wpAny_pyIter_range (IsRange.new ..) (PySem.W.small_down f c h l) ?_;have j:Inv X pins σ H { s with heap:=s.heap.push { cls:=.type "range",data:=.fields #[.int x t,.int y u,.int (-1) v] },toks:=tk }:=I.kept fun b o e=>fM _ e
 refine⟨(s.heap.push { cls:=.type "range",data:=.fields #[.int x t,.int y u,.int (-1) v] }).objs.size,[(s.heap.push { cls:=.type "range",data:=.fields #[.int x t,.int y u,.int (-1) v] }).objs.size],_,_,H,rfl,
  j.kept (t':=tk) fun b o e=>fM _ e,QG _ x (x-y).toNat,?_,fun b g=>?_,q⟩
 .have a:x+((0:Nat):Int)*(-1)=x:=by simp
  have d:(((x-y).toNat:Nat):Int)-((0:Nat):Int)=Builtin.Range.rangeSize x y (-1):=by rw[PySem.W.rangeSize_downNat];simp
  rw[a,d];exact qy _ rfl
 .obtain rfl:b=(s.heap.push { cls:=.type "range",data:=.fields #[.int x t,.int y u,.int (-1) v] }).objs.size:=by simpa using g
  exact j.Cr (bD _) (j.hok.fresh (bD _))
def qFW(t:TA):TI:=fun σ H R=>t σ H fun vs h => ∃ i:Int,vs=[.int i,.int (-1),.int (-1)] /\ -1<=i/\i<2 ^ 62/\R (Itd i (i-(-1)).toNat) h
theorem Yj(k:Gl X "range")(o:X.mg "range" = none)(m:PA X [a,b,c] ta)(j:starEach [a,b,c] X.env=[(false,eval a X.env),(false,eval b X.env),(false,eval c X.env)]:=by rfl)(d:starEach [b,c] X.env=[(false,eval b X.env),(false,eval c X.env)]:=by rfl) :
  PI X tg (.Call (.Name "range" p) [a,b,c] [] pos) (qFW ta):=by
 intro P s σ H R I h;refine Call_ (jm I k o boot_range (kn (bH (m pos P s σ H _ I h) fun _ _ ⟨_,_,u,g,Q⟩=>?_) (by rw[j,d]) (by rw[d];rfl)));obtain⟨i,e,Q,l,q⟩:=Q;subst e
 cases g with
 | cons r f=>
  cases f with
  | cons n f=>
   cases f with
   | cons z f=>
    cases f
    obtain⟨t,rfl⟩:=r;obtain⟨_,rfl⟩:=n;obtain⟨_,rfl⟩:=z;exact call_range_3 (by decide) (Ze u (by lia) l (by decide) (by decide) q) (.inl (PyProof.noPylong_small (by decide)))
def WT{n:Nat}{g:TG}{T:TS}{D:Ends}{σ:St}{H:Hp}(Pv:Nat->St->Hp->Prop)(c:Pv 0 σ H)
  (d:∀ i σ H,i<n->Pv i σ H->g (.int (top-i)) σ H fun σ2 a=>T { D with nx:=Pv (i+1),ct:=Pv (i+1),bk:=D.nx } σ2 a) (hd:∀ σ H,Pv n σ H->D.nx σ H) :
  ∃ W:Nat->Nat->St->Hp->Prop,(∃ m,W 0 m σ H)/\∀ i m σ H,W i m σ H →
   ((Itd top n).stop i H/\D.nx σ H)∨((Itd top n).go i H/\∃ N:St->Hp->Prop,(∀ σ' h,N σ' h->∃ m',m'<m/\W (i+1) m' σ' h)/\∀ x h,(Itd top n).Xy i H x h->g x σ h fun σ2 a=>T { D with nx:=N,ct:=N,bk:=D.nx } σ2 a):=by
 refine⟨fun i m σ H=>m+i=n/\Pv i σ H,⟨n,rfl,c⟩,?_⟩;rintro i m σ H ⟨_,p⟩
 by_cases t:i<n
 .refine .inr ⟨t,Pv (i+1),fun σ' h p'=>⟨m-1,by lia,by lia,p'⟩,fun x h y=>?_⟩;obtain⟨rfl,rfl⟩:=y;exact d i σ _ t p
 .obtain rfl:i=n:=by lia
  exact .inl ⟨bD _,hd σ H p⟩
end L2
namespace PySem
open Sem (wp)
namespace Rv
end Rv
end PySem
namespace L2
open PySem PySem.Spec PyProof.Rows
def Uo:lJ X (binaryOp .Add) (fun x y H Q => ∃ a b ys,x = .ref a/\y = .ref b/\aJ X.K H a []/\aJ X.K H b ys/\Q (.ref b) H):=by
 intro _ s σ H x y v u Q I R m h;obtain⟨a,b,ys,rfl,rfl,k,g,q⟩:=h
 cases R
 cases m
 obtain⟨_,r,p,_⟩:=I.tuple k;obtain⟨_,_,P,_⟩:=I.tuple g;have j:=r.uM.mpr rfl;subst j;obtain⟨⟨_,i,_,l⟩,o,f,n,hd⟩:=id p;obtain⟨⟨_,D,_,S⟩,d,c,N,e⟩:=id P;simp only at f hd c e;subst f hd c e;exact concat_meets ⟨_,o,rfl⟩ ⟨_,d,rfl⟩ noFill_tuple_add seq_tuple_add PySem.F.slot_tuple_add PySem.F.entry_tuple_add (PySem.F.args_tuple_add_2 _ _) (tuple_addW0 a b _ _ n N i D l S (by simp)) ⟨o,d,⟨.ref b,H,I,rfl,q⟩⟩
end L2
namespace L2
open PySem
end L2
namespace Tr
def rE(D:aw Int)(d:Int):Nat->aE Nat
 | 0=>none
 | j+1=>if D.getD j 0<d then some j else rE D d j
def par(d:aw Int)(k:Nat):aE Nat:=rE d (d.getD k 0) k
theorem rW:∀ {k j:Nat},j<k->ds.getD j 0<d->(∀ i,j<i->i<k->d<=ds.getD i 0)->rE ds d k=some j
 | 0,j,h,_,_=>by lia
 | k+1,j,h,hd,f=>by
  unfold rE
  by_cases e:j=k
  .subst e;rw[cS hd]
  .have:=f k (by lia) (by lia);rw[cK (by lia)];exact rW (by lia) hd fun i H _=>f i H (by lia)
theorem BK:∀ {k:Nat},(∀ i,i<k->d<=ds.getD i 0)->rE ds d k=none
 | 0,_=>rfl
 | k+1,h=>by
  unfold rE;have:=h k (by lia);rw[cK (by lia)];exact BK fun i _=>h i (by lia)
theorem BL:∀ {k j:Nat},rE ds d k=some j->j<k/\ds.getD j 0<d/\∀ i,j<i->i<k->d<=ds.getD i 0
 | 0,j,h=>by cases h
 | k+1,j,h=>by
  unfold rE at h
  split at h
  .cases h;exact⟨by lia,by assumption,fun i f q=>by lia⟩
  .rename_i H
   obtain⟨a,b,c⟩:=BL h;refine⟨by lia,b,fun i f q=>?_⟩
   by_cases e:i=k
   .subst e;lia
   .exact c i f (by lia)
def pM(h:par ds k=some j):j<k:=(BL h).1
structure Good(ds:List Int):Prop where
 pos:0<ds.length
 first:ds.getD 0 0=0
 next:∀ k,k+1<ds.length->1<=ds.getD (k+1) 0/\ds.getD (k+1) 0<=ds.getD k 0+1
theorem Good.nonneg(g:Good ds):∀ k,k<ds.length->0<=ds.getD k 0
 | 0,_=>by rw[g.first];exact Int.le_refl _
 | k+1,h=>by have:=g.next k h;lia
def Good.snoc(g:Good ds)(f:1<=v)(q:v<=ds.getD (ds.length-1) 0+1):Good (ds++[v]):=by
 have p:=g.pos
 have O:∀ k,k<ds.length->(ds++[v]).getD k 0=ds.getD k 0:=fun k h=>by
  rw[jT,jT,zw3 h]
 have new:(ds++[v]).getD ds.length 0=v:=by
  rw[jT,zw4 (bD _)];simp
 refine⟨by simp,by rw[O 0 p];exact g.first,fun k h=>?_⟩;rw[j8,vG]at h
 by_cases e:k+1<ds.length
 .rw[O _ e,O k (by lia)];exact g.next k e
 .have E:k+1=ds.length:=by lia
  rw[O k (by lia),E,new,show k=ds.length-1 by lia];exact⟨f,q⟩
def Good.one:Good [0]:=⟨by decide,rfl,fun k h=>by simp at h⟩
structure Above(ds:List Int)(k:Nat)(s:List Nat):Prop where
 len:(s.length:Int)=ds.getD k 0+1
 top:s[(ds.getD k 0).toNat]? = some k
 le:∀(i v:Nat),s[i]? = some v->v<=k/\ds.getD v 0=(i:Int)/\∀ j,v<j->j<=k->(i:Int)<ds.getD j 0
noncomputable def iG(d:aw Int)(r n:Nat):aw Nat:=(List.range n).filter fun j=>par d j==some r
def kids(d:aw Int)(r:Nat):aw Nat:=iG d r d.length
def kj(d:aw Int)(r n:Nat):iG d r (n+1)=iG d r n++if par d n==some r then [n] else []:=by unfold iG;rw[List.range_succ,fz];congr 1;rw[fA];simp
def MP(d:aw Int)(r n:Nat):(iG d r n).length<=n:=by unfold iG;refine br (vD _ _) ?_;simp
def T7(d:aw Int):Nat->Nat->aw Nat
 | 0,_=>[]
 | f+1,k=>match par d k with
  | none=>[]
  | some j=>j::T7 d f j
def ups(d:aw Int)(k:Nat):aw Nat:=T7 d k k
theorem zc(d:aw Int):∀ f k,k<=f->T7 d f k=T7 d k k
 | f,0,_=>by
  cases f with
  | zero=>rfl
  | succ f=>rfl
 | 0,k+1,h=>by lia
 | f+1,k+1,h=>by
  show (match par d (k+1) with | none=>[] | some j=>j::T7 d f j)=(match par d (k+1) with | none=>[] | some j=>j::T7 d k j)
  cases e:par d (k+1) with
  | none=>rfl
  | some j=>
   have L:=pM e;show j::T7 d f j=j::T7 d k j;rw[zc d f j (by lia),zc d k j (by lia)]
theorem za(h:par ds k=none):ups ds k=[]:=by
 unfold ups
 cases k with
 | zero=>rfl
 | succ k=>
  show (match par ds (k+1) with | none=>[] | some j=>j::T7 ds k j)=[];rw[h]
theorem sW(h:par ds k=some j):ups ds k=j::ups ds j:=by
 have L:=pM h;unfold ups
 cases k with
 | zero=>lia
 | succ k=>
  show (match par ds (k+1) with | none=>[] | some j=>j::T7 ds k j)=_;rw[h];show j::T7 ds k j=_;rw[zc ds k j (by lia)]
theorem T5:∀ {k v:Nat},v∈ups ds k->v<k:=by
 intro k
 induction k using Nat.strongRecOn with
 | ind k i=>
  intro v H
  cases e:par ds k with
  | none=>
   rw[za e]at H
   cases H
  | some j=>
   have L:=pM e;rw[sW e]at H;rcases dD.mp H with rfl | h
   .exact L
   .have:=i j L h;lia
noncomputable def hall(d:aw Int)(isOne:Nat->Bool)(a b:Nat):aE Nat:=(ups d a).find? fun x=>(ups d b).contains x&&isOne x
def bL(d:aw Int)(a b:Nat):Bool:=(ups d a).contains b
def Je(h:par ds a=some j):bL ds a b=(j==b||bL ds j b):=by unfold bL;rw[sW h,List.contains_cons];congr 1;exact Bool.eq_iff_iff.mpr ⟨fun z=>by simpa using (eq_of_beq z).symm,fun z=>by simpa using (eq_of_beq z).symm⟩
structure FT(ds:List Int)(k e:Nat):Prop where
 lt:k<e
 le:e<=ds.length
 ins:∀ j,k<j->j<e->ds.getD k 0<ds.getD j 0
 out:e<ds.length->ds.getD e 0<=ds.getD k 0
theorem JL:∀ {k:Nat},rE ds d k=none->∀ i,i<k->d<=ds.getD i 0
 | 0,_,i,h=>by lia
 | k+1,e,i,h=>by
  unfold rE at e
  split at e
  .cases e
  .rename_i j
   by_cases q:i=k
   .subst q;lia
   .exact JL e i (by lia)
def Og:par ds j=some k↔k<j/\ds.getD k 0<ds.getD j 0/\∀ i,k<i->i<j->ds.getD j 0<=ds.getD i 0:=
 ⟨fun h=>BL h,fun ⟨a,b,c⟩=>rW a b c⟩
theorem Z9:∀ a b,b∈ups ds a↔b<a/\∀ j,b<j->j<=a->ds.getD b 0<ds.getD j 0:=by
 intro a
 induction a using Nat.strongRecOn with
 | ind a i=>
  intro b
  cases e:par ds a with
  | none=>
   rw[za e];refine⟨fun z=>(by cases z),fun ⟨f,h⟩=>?_⟩;have:=JL e b f;have:=h a f (bD _);lia
  | some p=>
   obtain⟨g,hd,H⟩:=Og.mp e;rw[sW e,dD,i p g b];constructor
   .rintro (rfl | ⟨f,h⟩)
    .refine⟨g,fun j J d=>?_⟩
     by_cases q:j=a
     .rw[q];exact hd
     .have:=H j J (by lia);lia
    .refine⟨by lia,fun j J d=>?_⟩
     by_cases q:j<=p
     .exact h j J q
     .have z:=h p f (bD _)
      by_cases c:j=a
      .rw[c];lia
      .have:=H j (by lia) (by lia);lia
   .rintro⟨f,h⟩
    by_cases q:b=p
    .exact .inl q
    .right
     have z:=h a f (bD _)
     by_cases c:p<b
     .have:=H b c f;lia
     .exact⟨by lia,fun j J d=>h j J (by lia)⟩
def BZ(h:FT ds b e)(f:a<ds.length):bL ds a b=(decide (b<a)&&decide (a<e)):=by
 unfold bL;rw[eK,List.contains_iff_mem,Z9,eD,decide_eq_true_iff,decide_eq_true_iff];constructor
 .rintro⟨h1,h2⟩;refine⟨h1,?_⟩
  by_cases q:a<e
  .exact q
  .have:=h2 e h.lt (by lia);have:=h.out (by lia);lia
 .rintro⟨h1,h2⟩;exact⟨h1,fun j J _=>h.ins j J (by lia)⟩
def Oh(g:Good ds)(h:FT ds k e)(L:j<ds.length):(par ds j=some k)↔(k<j/\j<e/\ds.getD j 0=ds.getD k 0+1):=by
 rw[Og];constructor
 .rintro⟨h1,h2,h3⟩;refine⟨h1,?_,?_⟩
  .by_cases q:j<e
   .exact q
   .have:=h.out (by have:=h.lt;lia)
    by_cases c:j=e
    .subst c;lia
    .have:=h3 e h.lt (by lia);lia
  .have n:=g.next k (by lia)
   by_cases q:j=k+1
   .subst q;lia
   .have:=h3 (k+1) (by lia) (by lia);lia
 .rintro⟨h1,h2,h3⟩;refine⟨h1,by lia,fun i I _=>?_⟩;have:=h.ins i I (by lia);lia
theorem Bb(d:aw Int)(k:Nat):∀ n,n<=k+1->iG d k n=[]
 | 0,_=>rfl
 | n+1,h=>by
  rw[kj,Bb d k n (by lia),cK]
  .rfl
  .intro z;have:=pM (eq_of_beq z);lia
theorem xG(g:Good ds)(h:FT ds k e):∀ n,e+n<=ds.length->iG ds k (e+n)=iG ds k e
 | 0,_=>rfl
 | n+1,j=>by
  rw[show e+(n+1)=(e+n)+1 by lia,kj,xG g h n (by lia),cK,oY];intro z;have:=(Oh g h (by lia)).mp (eq_of_beq z);lia
def Vo(g:Good ds)(h:FT ds k e):kids ds k=iG ds k e:=by have q:=xG g h (ds.length-e) (by have:=h.le;lia);rw[show e+(ds.length-e)=ds.length by have:=h.le;lia]at q;exact q
def bears(d:aw Int)(G:aw Nat)(k:Nat):Bool:=G.any fun g=>g==k||bL d g k
noncomputable def next(d:aw Int)(a:Nat->Bool)(G:aw Nat)(p:Nat):aw Nat:=
 if a p=true then kids d p else match (kids d p).find? (bears d G) with
  | some k=>[k]
  | none=>(kids d p).take 1
inductive qx(ds:List Int)(al:Nat->Bool)(gs:List Nat)(un:Option Nat):Nat->Prop where
 | top:un=none->qx ds al gs un 0
 | root {p k:Nat}:k∈next ds al gs p->un=some p->qx ds al gs un k
 | low {p k:Nat}:k∈next ds al gs p->qx ds al gs un p->qx ds al gs un k
def qx.kid(h:k∈next d a G p)(h':un=some p∨qx d a G un p):qx d a G un k:=by
 rcases h' with e | g
 .exact .root h e
 .exact .low h g
def BW:k∈kids ds r↔k<ds.length/\par ds k=some r:=by unfold kids iG;rw[lO,List.mem_range];exact⟨fun ⟨a,b⟩=>⟨a,eq_of_beq b⟩,fun ⟨a,b⟩=>⟨a,by rw[b];exact dE _⟩⟩
def Eh(d:aw Int)(p:Nat):(kids d p).Pairwise (· < ·):=by unfold kids iG;exact List.pairwise_lt_range.filter _
def JV(h:k∈next d a G p):k∈kids d p:=by
 unfold next at h
 split at h
 .exact h
 .split at h
  .rename_i b e
   rw[jA.mp h];exact List.mem_of_find?_eq_some e
  .exact gX h
def jj(h:k∈next d a G p):par d k=some p:=(BW.mp (JV h)).2
def Oj(h:k∈next d a G p):k<d.length:=(BW.mp (JV h)).1
def Ea(d:aw Int)(a:Nat->Bool)(G:aw Nat)(p:Nat):(next d a G p).Pairwise (· < ·):=by
 unfold next
 split
 .exact Eh d p
 .split
  .exact List.pairwise_singleton _ _
  .exact (Eh d p).sublist (List.take_sublist _ _)
theorem qx.lt(P:0<ds.length)(h:qx ds al gs un k):k<ds.length:=by
 cases h with
 | top=>exact P
 | root h _=>exact Oj h
 | low h _=>exact Oj h
theorem qx.over(h:qx ds al gs un k):∀ u,un=some u->u<k:=by
 induction h with
 | top e=>intro u E;rw[e]at E;cases E
 | root h p=>
  intro u e;rw[e]at p
  cases p
  exact pM (jj h)
 | low h _ i=>
  intro u e;have:=pM (jj h);have:=i u e;lia
structure qH(ds:List Int)(al:Nat->Bool)(gs:List Nat)(un:Option Nat)(gone ahead:List Nat):Prop where
 nd:(gone++ahead).Nodup
 ok:∀ x∈gone++ahead,qx ds al gs un x
 fr:∀ x∈gone++ahead,par ds x=un ∨ ∃ g∈gone,par ds x=some g
 st:un=none->0∈gone++ahead
 su:∀ u,un=some u->∀ x∈next ds al gs u,x∈gone++ahead
 cl:∀ g∈gone,∀ x∈next ds al gs g,x∈gone++ahead
def iC{l:aw Nat}(h:l.Pairwise (· < ·)):l.Nodup:=h.imp fun z=>jQ z
def qH.none(d:aw Int)(A:Nat->Bool)(G:aw Nat):qH d A G none [] [0]:=
 ⟨by simp,fun x h=>by rw[List.mem_singleton.mp h];exact .top rfl,fun x h=>by rw[List.mem_singleton.mp h];exact .inl rfl,fun _=>List.mem_singleton.mpr rfl,fun u e=>(by cases e),fun g a=>(by cases a)⟩
def qH.some(d:aw Int)(a:Nat->Bool)(G:aw Nat)(u:Nat):qH d a G (some u) [] (next d a G u):=
 ⟨iC (Ea d a G u),fun x h=>.kid h (.inl rfl),fun x h=>.inl (jj h),fun e=>(by cases e),fun v e x h=>by cases e;exact h,fun g H=>(by cases H)⟩
def qH.step(w:qH d A G un gone (a++[r])):qH d A G un (gone++[r]) (a++next d A G r):=by
 have c:=w.ok r (by simp)
 have sub:∀ x,x∈gone++(a++[r])->x∈(gone++[r])++(a++next d A G r):=fun x H=>by
  simp only[List.mem_append,List.mem_singleton]at H ⊢;rcases H with h | h | h
  .exact .inl (.inl h)
  .exact .inr (.inl h)
  .exact .inl (.inr h)
 have n:r∉gone:=fun z=>by
  have:=(List.nodup_append.mp w.nd).2.2 r z r (by simp);exact this rfl
 have new:∀ x∈next d A G r,x∉gone++(a++[r]):=fun x H z=>by
  have e:=jj H;rcases w.fr x z with h | ⟨g,b,h⟩
  .rw[e]at h;exact eu (c.over r h.symm) (iq _)
  .rw[e]at h
   cases h
   exact n b
 have p:((gone++[r])++(a++next d A G r)).Perm ((gone++(a++[r]))++next d A G r):=by
  rw[bX,bX];refine List.Perm.append_left gone ?_;rw[<-bX];refine List.Perm.append_right _ ?_;exact List.perm_append_comm
 refine⟨?_,fun x H=>?_,fun x H=>?_,fun e=>sub _ (w.st e),fun u e x H=>sub _ (w.su u e x H),fun g b x H=>?_⟩
 .refine p.nodup_iff.mpr (List.nodup_append.mpr ⟨w.nd,iC (Ea d A G r),fun x H y O e=>?_⟩);subst e;exact new x O H
 .rcases jz.mp (p.mem_iff.mp H) with h | h
  .exact w.ok x h
  .exact .kid h (.inr c)
 .rcases jz.mp (p.mem_iff.mp H) with h | h
  .rcases w.fr x h with h | ⟨g,b,h⟩
   .exact .inl h
   .exact .inr ⟨g,gL _ b,h⟩
  .exact .inr ⟨r,by simp,jj h⟩
 .rcases jz.mp b with h | h
  .exact sub _ (w.cl g h x H)
  .rw[jA.mp h]at H;simp [H]
theorem qH.done(w:qH ds al gs un gone [])(k:Nat):k∈gone↔qx ds al gs un k:=by
 constructor
 .intro h;exact w.ok k (by simpa using h)
 .intro h
  induction h with
  | top e=>simpa using w.st e
  | root H p=>simpa using w.su _ p _ H
  | low H _ i=>simpa using w.cl _ i _ H
theorem pO:∀(n:Nat)(l:aw Nat),l.Nodup->(∀ k∈l,k<n)->l.length<=n
 | 0,l,_,h=>by
  cases l with
  | nil=>exact bD _
  | cons x l=>exact eu (h x FZ) (Nat.not_lt_zero _)
 | n+1,l,hd,h=>by
  have e:=pO n (l.filter (· ≠ n)) (hd.filter _) fun k H=>by
   obtain⟨a,b⟩:=lO.mp H;have:=h k a
   have:k≠n:=by simpa using b
   lia
  have:l.length<=(l.filter (· ≠ n)).length+1:=by
   clear e h
   induction l with
   | nil=>exact bo _
   | cons x l i=>
    obtain⟨f,q⟩:=hV.mp hd
    by_cases c:x=n
    .subst c
     have:l.filter (· ≠ x)=l:=by
      rw[List.filter_eq_self];intro a d;have:a≠x:=fun z=>f (z▸d)
      simpa using this
     rw[List.filter_cons,if_neg (by simp),this];exact bD _
    .rw[List.filter_cons,if_pos (by simpa using c),List.length_cons,List.length_cons];have:=i q;lia
  lia
def qH.len(P:0<ds.length)(w:qH ds al gs un gone ahead):gone.length+ahead.length<=ds.length:=by rw[<-j8];exact pO _ _ w.nd fun k h=>(w.ok k h).lt P
def Q5(d:aw Int)(a:Nat->Bool)(G:aw Nat)(un:aE Nat)(os:aw Nat):Prop:=os.Pairwise (· < ·)/\∀ k,k∈os↔qx d a G un k
def Q5.unique(f:Q5 ds al gs un a)(q:Q5 ds al gs un b):a=b:=
 L2.iU a b f.1 q.1 fun k=>(f.2 k).trans (q.2 k).symm
def Q5.lt(P:0<ds.length)(h:Q5 ds al gs un os):∀ o∈os,o<ds.length:=fun o q=>((h.2 o).mp q).lt P
def Q5.len(P:0<ds.length)(h:Q5 ds al gs un os):os.length<=ds.length:=pO _ _ (iC h.1) (h.lt P)
def VP(h:a p=true):next d a G p=kids d p:=by unfold next;rw[cS h]
def under(d:aw Int)(k:Nat):aE Nat->Bool
 | none=>true
 | some u=>bL d k u
theorem De(h:par ds k=some p)(d:un=some p∨under ds p un=true):under ds k un=true:=by
 cases un with
 | none=>rfl
 | some u=>
  show bL ds k u=true;rw[Je h,eP];rcases d with e | e
  .injection e with e
   left
   rw[e];exact dE _
  .exact .inr e
theorem qx.under(h:qx ds al gs un k):under ds k un=true:=by
 induction h with
 | top e=>
  subst e;rfl
 | root H p=>exact De (jj H) (.inl p)
 | low H _ i=>exact De (jj H) (.inr i)
end Tr
namespace L2
open PySem PySem.Spec PyProof.Rows
def c7:ir X (.builtin "isinstance") (fun xs H Q => ∃ x T t b,xs=[x,.ty T]/\wG X.K H x t/\PySem.W.kitOne X.K t (.type T)=some b/\Q (.bl b) H):=by
 intro _ s σ H xs _ Q I r h;obtain⟨x,T,t,b,rfl,ty,e,q⟩:=h;obtain⟨u,_,rfl,R,z⟩:=vals2 r
 cases z
 exact RT I R ty e fun k=>⟨.bl b,H,I.tok k,rfl,q⟩
end L2
namespace L2
open PySem
def Hq{c:Bool}{A B:Prop}(h:c=true)(a:A):if c=true then A else B:=by rw[cS h];exact a
def eE{c:Bool}{A B:Prop}(h:c=false)(b:B):if c=true then A else B:=by rw[cK (by rw[h];decide)];exact b
end L2
namespace Sw
open PySem
def CG(xs:Array Nat):Prop:=∀(i k v u:Nat),i<k->xs[i]? = some v->xs[k]? = some u->v<u
theorem Gu(g:CG xs):∀(f lo h:Nat),h-lo<=f->lo<=h->h<=xs.size->(∀ i v,i<lo->xs[i]? = some v->v<j)->(∀ i v,h<=i->xs[i]? = some v->j<=v) →
  lo<=SetTable.below.go xs j f lo h/\SetTable.below.go xs j f lo h<=h/\(∀ i v,i<SetTable.below.go xs j f lo h->xs[i]? = some v->v<j)/\∀ i v,SetTable.below.go xs j f lo h<=i->xs[i]? = some v->j<=v
 | 0,lo,h,k,l,s,H,q=>by
  have e:lo=h:=by omega
  subst e;exact⟨bD _,bD _,H,q⟩
 | f+1,lo,h,k,l,s,H,q=>by
  unfold SetTable.below.go
  by_cases t:lo<h
  .rw[cS t]
   have m:(lo+h)/2<xs.size:=by omega
   have E:xs[(lo+h)/2]? = some xs[(lo+h)/2]:=eA m
   have n:xs.getD ((lo+h)/2) j=xs[(lo+h)/2]:=by simp [Array.getD,m]
   show lo<=(if xs.getD ((lo+h)/2) j<j then SetTable.below.go xs j f ((lo+h)/2+1) h else SetTable.below.go xs j f lo ((lo+h)/2))/\(if xs.getD ((lo+h)/2) j<j then SetTable.below.go xs j f ((lo+h)/2+1) h else SetTable.below.go xs j f lo ((lo+h)/2))<=h ∧
    (∀ i v,i<(if xs.getD ((lo+h)/2) j<j then SetTable.below.go xs j f ((lo+h)/2+1) h else SetTable.below.go xs j f lo ((lo+h)/2))->xs[i]? = some v->v<j) ∧
    ∀ i v,(if xs.getD ((lo+h)/2) j<j then SetTable.below.go xs j f ((lo+h)/2+1) h else SetTable.below.go xs j f lo ((lo+h)/2))<=i->xs[i]? = some v->j<=v
   rw[n]
   by_cases d:xs[(lo+h)/2]<j
   .rw[cS d]
    obtain⟨b,c,Q,u⟩:=Gu g f ((lo+h)/2+1) h (by omega) (by omega) s (fun i v o e=>by
     by_cases a:i=(lo+h)/2
     .subst a;rw[E]at e
      cases e
      exact d
     .exact iL (g i ((lo+h)/2) v _ (by omega) e E) d) q
    exact⟨by omega,c,Q,u⟩
   .rw[cK d]
    obtain⟨b,c,Q,u⟩:=Gu g f lo ((lo+h)/2) (by omega) (by omega) (by omega) H (fun i v o e=>by
     by_cases a:i=(lo+h)/2
     .subst a;rw[E]at e
      cases e
      omega
     .have:=g ((lo+h)/2) i _ v (by omega) E e
      omega)
    exact⟨b,by omega,Q,u⟩
  .rw[cK t]
   have e:lo=h:=by omega
   subst e;exact⟨bD _,bD _,H,q⟩
def sI(g:CG xs)(j:Nat):SetTable.below xs j<=xs.size/\(∀ i v,i<SetTable.below xs j->xs[i]? = some v->v<j)/\∀ i v,SetTable.below xs j<=i->xs[i]? = some v->j<=v:=by
 obtain⟨_,c,q,u⟩:=Gu (j:=j) g xs.size 0 xs.size (by omega) (bo _) (bD _) (fun i v h=>by omega) (fun i v h e=>by
  have:=(eB.mp e).1
  omega)
 exact⟨c,q,u⟩
def Mw(g:CG xs):SetTable.below xs 0=0:=by
 obtain⟨_,q,_⟩:=sI g 0
 by_cases e:SetTable.below xs 0=0
 .exact e
 .have c:0<xs.size:=by omega
  have:=q 0 xs[0] (by omega) (eA c);omega
def Mx(g:CG xs)(e:xs[i]? = some v):SetTable.below xs (v+1)=i+1:=by
 obtain⟨_,c,q⟩:=sI g (v+1);have H:=(eB.mp e).1
 have a1:¬ SetTable.below xs (v+1)<=i:=fun h=>by
  have:=q i v h e;omega
 have a2:¬ i+1<SetTable.below xs (v+1):=fun h=>by
  have t:i+1<xs.size:=by omega
  have E:xs[i+1]? = some xs[i+1]:=eA t;have b:=c (i+1) _ h E;have B:=g i (i+1) _ _ (by omega) e E;omega
 omega
def Gn(xs:Array α)(p:Nat)(x:α)(h:p<=xs.size)(i:Nat):(SetTable.insertAt xs p x)[i]? = if i<p then xs[i]? else if i=p then some x else xs[i-1]?:=by
 have e:(SetTable.insertAt xs p x).toList=xs.toList.take p++(x::xs.toList.drop p):=by
  unfold SetTable.insertAt;simp [Array.toList_extract];rw[List.take_of_length_le (by simp)]
 rw[<-eC,e]
 have H:(xs.toList.take p).length=p:=by simp;omega
 by_cases f:i<p
 .rw[cS f,zw3 (by omega),List.getElem?_take_of_lt f,eC]
 .rw[cK f,zw4 (by omega),H]
  by_cases q:i=p
  .subst q;simp
  .rw[cK q];obtain⟨d,hd⟩:∃ d,i-p=d+1:=⟨i-p-1,by omega⟩;rw[hd,List.getElem?_cons_succ,List.getElem?_drop,eC];congr 1;omega
def Jk(g:CG xs)(n:xs[SetTable.below xs j]?≠some j):CG (SetTable.insertAt xs (SetTable.below xs j) j):=by
 obtain⟨o,c,Q⟩:=sI g j;intro i k v u h H d;rw[Gn _ _ _ o]at H d
 have up:∀ m z,SetTable.below xs j<=m->xs[m]? = some z->j<z:=fun m z a e=>by
  have f:=Q m z a e
  by_cases l:z=j
  .subst l
   by_cases p:m=SetTable.below xs z
   .rw[p]at e;exact eu e n
   .have t:SetTable.below xs z<xs.size:=by
     have:=(eB.mp e).1;omega
    have E:xs[SetTable.below xs z]? = some xs[SetTable.below xs z]:=eA t;have:=g (SetTable.below xs z) m _ _ (by omega) E e;have:=Q _ _ (bD _) E;omega
  .omega
 by_cases f:i<SetTable.below xs j
 .rw[cS f]at H
  by_cases q:k<SetTable.below xs j
  .rw[cS q]at d;exact g i k v u h H d
  .rw[cK q]at d
   by_cases b:k=SetTable.below xs j
   .rw[cS b]at d
    cases d
    exact c i v f H
   .rw[cK b]at d;exact iL (c i v f H) (up (k-1) u (by omega) d)
 .rw[cK f]at H
  by_cases q:i=SetTable.below xs j
  .rw[cS q]at H
   cases H
   rw[cK (by omega),cK (by omega)]at d;exact up (k-1) u (by omega) d
  .rw[cK q]at H;rw[cK (by omega),cK (by omega)]at d;exact g (i-1) (k-1) v u (by omega) H d
structure TabOk(l:Bool)(t:SetTable):Prop where
 no:t.dummies = #[]
 led:t.led=l
 up:t.plain=true->CG t.place
def Kz{t:SetTable}(n:t.dummies = #[])(j:Nat):t.slot j≠.dummy:=by
 unfold SetTable.slot
 dsimp only
 split
 .intro z
  cases z
 .rw[n];show (if SetTable.has #[] j=true then SetTable.Slot.dummy else SetTable.Slot.empty)≠_
  have:SetTable.has #[] j=false:=by
   unfold SetTable.has;simp
  rw[this];intro z
  cases z
theorem wg{t:SetTable}(n:t.dummies = #[])(H:Nat->Int)(h:Int):∀(f:Nat)(p:SetTable.Probe)(j:Nat)(d:aE Nat),p.dummy=none->SetTable.probe.go t H h f p=some (.empty j d)->t.slot j = .empty/\d=none
 | 0,p,j,d,_,e=>by
  unfold SetTable.probe.go at e
  cases e
 | f+1,p,j,d,hd,e=>by
  have q:(t.advance p).dummy=none:=by
   unfold SetTable.advance
   split
   .exact hd
   .exact hd
  unfold SetTable.probe.go at e
  cases hs:t.slot p.j with
  | empty=>
   rw[hs]at e
   dsimp only at e
   cases e
   exact⟨hs,hd⟩
  | dummy=>exact eu hs (Kz n p.j)
  | live i=>
   rw[hs]at e
   dsimp only at e
   split at e
   .cases e
   .exact wg n H h f _ j d q e
theorem WR{t:SetTable}(n:t.dummies = #[]){h:Int}{j:Nat}{w:Bool}(e:t.freeSlot h=some (j,w)):t.place[SetTable.below t.place j]?≠some j:=by
 unfold SetTable.freeSlot at e
 cases hp:t.probe (fun _=>h+1) h (t.probeStart h) with
 | none=>
  rw[hp]at e
  cases e
 | some m=>
  rw[hp]at e
  cases m with
  | candidate _ _ _=>cases e
  | empty J d=>
   obtain⟨f,q⟩:=wg n (fun _=>h+1) h _ (t.probeStart h) J d rfl hp;subst q
   dsimp only at e
   cases e
   show t.place[SetTable.below t.place J]?≠some J;intro z;unfold SetTable.slot at f
   dsimp only at f
   rw[z]at f;simp at f
def my(h:TabOk l t)(n:Nat):TabOk l (t.standIn n):=⟨rfl,h.led,fun z=>by cases z⟩
theorem RL{l:Bool}{t:SetTable}(ok:TabOk l t)(e:Array (Int×av))(h:Int)(x:av):TabOk l (layNew t e h x).2.1:=by
 unfold layNew
 cases hf:t.freeSlot h with
 | none=>exact my ok _
 | some q=>
  obtain⟨j,_⟩:=q
  dsimp only
  have Q:TabOk l (t.put j).1:=by
   refine⟨?_,ok.led,fun p=>Jk (ok.up p) (WR ok.no hf)⟩;unfold SetTable.put
   dsimp only
   rw[ok.no]
   have:SetTable.has #[] j=false:=by
    unfold SetTable.has;simp
   rw[this];rfl
  unfold SetTable.orStandIn
  split
  .exact Q
  .exact my Q _
theorem rz(g:Nat->aE Nat):∀ l:aw Nat,(l.filterMap fun j=>(g j).map (j,·)).map (·.1)=l.filter fun j=>(g j).isSome
 | []=>rfl
 | j::l=>by
  rw[fw,fA]
  cases e:g j with
  | none=>simpa using rz g l
  | some k=>simpa using rz g l
def Yb{l:aw Nat}(h:l.Pairwise (· < ·)):CG l.toArray:=by
 intro i k v u H c d
 have b:l[i]? = some v:=by simpa using c
 have a:l[k]? = some u:=by simpa using d
 obtain⟨f,e⟩:=oW.mp b;obtain⟨q,E⟩:=oW.mp a;have:=List.pairwise_iff_getElem.mp h i k f q H;rw[e,E]at this;exact this
theorem J7(ok:TabOk l t)(E:Array (Int×av))(w:Nat):TabOk l (relayAll t E w).2.1:=by
 unfold relayAll
 cases hr:t.relaid (E.map (·.1)) w with
 | none=>exact my ok _
 | some q=>
  obtain⟨_,_⟩:=q
  dsimp only
  split
  .unfold SetTable.relaid SetTable.laid at hr
   cases ho:SetTable.layClean (SetTable.sizeAbove w-1) (E.map (·.1)) with
   | none=>
    rw[ho]at hr
    cases hr
   | some owner=>
    rw[ho]at hr;have e:=(Prod.mk.inj (kJ hr)).1;rw[<-e];refine⟨rfl,ok.led,fun _=>?_⟩
    dsimp only
    rw[rz];exact Yb (List.Pairwise.filter _ List.pairwise_lt_range)
  .exact my ok _
end Sw
namespace Sw
open PySem PyProof.Rows
noncomputable abbrev j5(w:aI):Bool:=!(w.params.followText "set-order")
section
variable{prog:ag}{w:aI}{A:ai}{R:Result->ae->Prop}{I:ar}{fp wr:aw ar}{G:Array GenState->Array GenState->Prop}{n:Nat}{P:Nat->av->Prop}{St:Nat->ae->Prop}
end
end Sw
namespace Sw
open PySem
theorem sG:∀(l:aw α)(i:Nat)(x:α),l[i]? = some x->(x::l.eraseIdx i).Perm l
 | [],i,x,h=>by simp at h
 | y::l,0,x,h=>by
  simp at h;subst h;exact List.Perm.refl _
 | y::l,i+1,x,h=>by
  have h':l[i]? = some x:=by simpa using h
  show (x::y::l.eraseIdx i).Perm (y::l);exact (List.Perm.swap y x _).trans ((sG l i x h').cons y)
theorem Oc(next:Nat->Nat):∀(f k:Nat)(left:aw α)(out:Array α),left.length=f->(pickOrder.go next f k left out).toList.Perm (out.toList++left)
 | 0,k,left,out,h=>by
  have e:left=[]:=fo h;subst e;simp [pickOrder.go]
 | f+1,k,left,out,h=>by
  unfold pickOrder.go;have t:next k%left.length<left.length:=Nat.mod_lt _ (by omega);rw[fQ t]
  dsimp only
  refine (Oc next f (k+1) _ _ (by rw[fS t];omega)).trans ?_;rw[Array.toList_push,bX];exact List.Perm.append_left _ (sG left _ _ (fQ t))
def QX(next:Nat->Nat)(xs:Array α):(pickOrder next xs).toList.Perm xs.toList:=by unfold pickOrder;refine (Oc next xs.size 0 xs.toList #[] (by simp)).trans ?_;simp
end Sw
namespace Sw
open PySem PyProof.Rows
def dj:Slot "set_iterator" "__next__" "set_iterator.__next__" := .of (owner := "set_iterator") (n := "__next__") (by rw[typeLookup_type,builtinLookup_eq_fast];kernel_rfl) (by decide +kernel) (by decide +kernel) (by decide +kernel) (by first | exact .inl (by decide +kernel) | exact .inr (by decide +kernel)) (by rw[isSubtype_type];kernel_rfl)
def rG:entryFor table "set_iterator.__next__" = some Builtin.«set_iterator.__next__»:=entryFor_of_fast (by kernel_rfl)
def ug(a:av):argsOk "set_iterator.__next__" ⟨[a],[]⟩:=by unfold argsOk;kernel_rfl
def sY:Slot "set_iterator" "__iter__" "set_iterator.__iter__" := .of (owner := "set_iterator") (n := "__iter__") (by rw[typeLookup_type,builtinLookup_eq_fast];kernel_rfl) (by decide +kernel) (by decide +kernel) (by decide +kernel) (by first | exact .inl (by decide +kernel) | exact .inr (by decide +kernel)) (by rw[isSubtype_type];kernel_rfl)
def Cu:entryFor table "set_iterator.__iter__" = some Builtin.«dict_keyiterator.__iter__»:=entryFor_alias (id' := "dict_keyiterator.__iter__") (by kernel_rfl) rfl (by decide +kernel) (by kernel_rfl)
def HH(a:av):argsOk "set_iterator.__iter__" ⟨[a],[]⟩:=by unfold argsOk;kernel_rfl
def Bk:entryFor table "set.__iter__" = some Builtin.«frozenset.__iter__»:=entryFor_alias (id' := "frozenset.__iter__") (by kernel_rfl) rfl (by decide +kernel) (by kernel_rfl)
def qCW:typeLookup (.type "set") "__len__" = pure (some (.builtin "set.__len__")):=by rw[typeLookup_type,builtinLookup_eq_fast];kernel_rfl
def Rp(j:n≠0)(h:∀ i,i<n->Q i { s with drawn:=s.drawn.bump src }):wpAny M A (choose src n) Q E s:=
 fun _ _ _=>⟨j,h _ (Nat.mod_lt _ (Nat.pos_of_ne_zero j))⟩
theorem PL:∀(n:Nat)(xs:aw α)(s:ae)(Q:aw α->ae->Prop),xs.length<=n->(∀ ys d,ys.Perm xs->Q ys { s with drawn:=d })->wpAny M A (drawOrder n xs) Q E s
 | 0,[],s,Q,h,H=>by
  unfold drawOrder;exact aT (H [] s.drawn (List.Perm.refl _))
 | 0,x::xs,s,Q,h,H=>by simp at h
 | n+1,[],s,Q,h,H=>by
  unfold drawOrder;exact aT (H [] s.drawn (List.Perm.refl _))
 | n+1,x::xs,s,Q,h,H=>by
  unfold drawOrder;refine wpAny_bind (Rp (by simp) fun i a=>?_);have e:(x::xs)[i]? = some (x::xs)[i]:=fQ a;rw[e];refine aS (PL n ((x::xs).eraseIdx i) _ _ (by rw[fS a];simp only[List.length_cons]at h ⊢;omega) fun ys d p=>aT ?_);exact H _ d ((p.cons _).trans (sG _ i _ e))
def SAt(h:Heap)(a:ar)(e:Array (Int×av))(ep:Nat)(t:SetTable):Prop:=∃ o,h.get? a=some o/\o.cls = .type "set" /\ o.data = .set e ep t
def Cy(h:Heap)(I a:ar)(first:av)(i n ep:Nat):Prop:=∃ o,h.get? I=some o/\o.cls = .type "set_iterator" /\ o.data = .fields #[first,.int i 0,.ref a,.int n 0,.int ep 0]
inductive Md(w:World)(a q:Addr)(es:Array (Int×Value))(ep:Nat)(t:SetTable)(its:List Value)(i:Nat)(h:Heap):Value->Prop where
 | txt (b:w.params.followText "set-order" = true) (e:its=(pickOrder (w.params.setOrder a ep) es).toList.map (·.2)):Md w a q es ep t its i h (.int 0 0)
 | tab (j:Nat) (b:w.params.followText "set-order" = false) (l:t.led=true) (d:(!t.plain&&decide (es.size>1))=false) (r:CG t.place) (z:t.place.size=es.size) (p:SetTable.below t.place j=i) (e:its=es.toList.map (·.2)):Md w a q es ep t its i h (.int (j:Nat) 0)
 | drw (ps:List Nat) (ho:∃ o,h.get? q=some o/\o.data = .seq (ps.map fun (p:Nat)=>rawInt p).toArray 0) (hp:∀ p∈ps,p<es.size) (e:its=ps.map fun p=>(es.getD p (0,.none)).2):Md w a q es ep t its i h (.ref q)
section
variable{prog:ag}{w:aI}{A:ai}{E:av->ae->Prop}{s:ae}{I a q:ar}{es:Array (Int×av)}{ep:Nat}{t:SetTable}{its:aw av}{i:Nat}
def HN(e:s.heap=h)(x:Cy h I a first i n ep):s.TypeIs (.ref I) "set_iterator" := by
 subst e;obtain⟨o,q,d,_⟩:=x;exact⟨o,q,d⟩
def qDE(x:Cy h I a first i n ep):Cy ((h.update I (Obj.mapFields (·.setIfInBounds 0 f'))).update I (Obj.mapFields (·.setIfInBounds 1 (rawInt ((i:Int)+1))))) I a f' (i+1) n ep:=by obtain⟨o,q,d,hd⟩:=x;have f:=cm (Obj.mapFields (·.setIfInBounds 0 f')) q (Obj.isFreed_of_fields (Obj.data_mapFields hd _));have D:=Obj.data_mapFields hd (·.setIfInBounds 0 f');refine⟨_,cm _ f (Obj.isFreed_of_fields (Obj.data_mapFields D _)),((Obj.cls_mapFields ..).trans (Obj.cls_mapFields ..)).trans d,?_⟩;rw[Obj.data_mapFields D];simp [rawInt]
def qA1(x:Cy h I a first i n ep):Cy (h.update I (Obj.mapFields (·.setIfInBounds 1 (rawInt ((i:Int)+1))))) I a first (i+1) n ep:=by obtain⟨o,q,d,hd⟩:=x;refine⟨_,cm _ q (Obj.isFreed_of_fields (Obj.data_mapFields hd _)),(Obj.cls_mapFields ..).trans d,?_⟩;rw[Obj.data_mapFields hd];simp [rawInt]
theorem VN(y:SAt s.heap a es ep t)(k:t.fits es.size=true)(m:Md w a q es ep t its i s.heap (.int (S:Nat) 0))(x:its[i]? = some v)
  (h:∀ D:Nat,(∀ h',Md w a q es ep t its (i+1) h' (.int (D:Nat) 0))->Q (some (v,D)) s):wpAny (model prog w) A (setNext a S i ep) Q E s:=by
 obtain⟨o,n,_,hd⟩:=y;unfold setNext;refine aS (wpAny_setState_of n hd k ?_);unfold setsByText;refine aS (aS (wpAny_askSetting (aT ?_)));generalize c:Value.int (S:Nat) 0=F at m
 cases m with
 | txt b e=>
  have J:(model prog w).w.params.followText "set-order" = true:=b
  have I:S=0:=by
   injection c with f;omega
  subst I
  dsimp only
  rw[show (⟨(model prog w).prog,(model prog w).w.params⟩:Setting).params.followText "set-order" = true from b,cS rfl];simp only[bne_self_eq_false,Bool.false_eq_true,if_false];unfold setWalk;refine aS (aS (wpAny_setState_of n hd k ?_));unfold setsByText;refine aS (aS (wpAny_askSetting (aT ?_)))
  dsimp only
  rw[show (⟨(model prog w).prog,(model prog w).w.params⟩:Setting).params.followText "set-order" = true from b,cS rfl];refine aS (wpAny_askSetting (aT (aT ?_)))
  have g:((pickOrder (w.params.setOrder a ep) es)[i]?).map (fun e=>(e.2,0))=some (v,0):=by
   rw[e,dZ,eC]at x
   cases hg:(pickOrder (w.params.setOrder a ep) es)[i]? with
   | none=>rw[hg]at x;cases x
   | some z=>
    rw[hg]at x
    cases x
    rfl
  show Q (((pickOrder (w.params.setOrder a ep) es)[i]?).map (fun e=>(e.2,0))) s;rw[g];exact h 0 fun h'=>.txt b e
 | tab j b l d r z p e=>
  have C:S=j:=by
   injection c with f;omega
  subst C
  dsimp only
  rw[show (⟨(model prog w).prog,(model prog w).w.params⟩:Setting).params.followText "set-order" = false from b,cK (by decide)];show wpAny _ _ (if (!t.plain&&decide (es.size>1))=true then _ else _) _ _ s;rw[d,cK (by decide)];show wpAny _ _ ((if (!t.led&&!es.isEmpty)=true then _ else _) >>= _) _ _ s;rw[l,if_neg (by simp)];refine aS (aT (aT ?_));rw[p];rw[e,dZ,eC]at x
  have u:i<es.size:=by
   rcases Nat.lt_or_ge i es.size with f | f
   .exact f
   .rw[Array.getElem?_eq_none f]at x
    cases x
  have H:i<t.place.size:=by omega
  rw[eA u]at x
  cases x
  rw[eA u,eA H];exact h (t.place[i]+1) fun h'=>.tab _ b l d r z (Mx r (eA H)) e
 | drw ps B G e=>cases c
theorem next_end(k:SAt s.heap a es ep t)(c:t.fits es.size=true)(m:Md w a q es ep t its i s.heap (.int (S:Nat) 0))(x:its[i]? = none)
  (h:Q none s):wpAny (model prog w) A (setNext a S i ep) Q E s:=by
 obtain⟨o,g,_,hd⟩:=k;unfold setNext;refine aS (wpAny_setState_of g hd c ?_);unfold setsByText;refine aS (aS (wpAny_askSetting (aT ?_)));generalize v:Value.int (S:Nat) 0=F at m
 cases m with
 | txt b e=>
  dsimp only
  rw[show (⟨(model prog w).prog,(model prog w).w.params⟩:Setting).params.followText "set-order" = true from b,cS rfl];simp only[bne_self_eq_false,Bool.false_eq_true,if_false];unfold setWalk;refine aS (aS (wpAny_setState_of g hd c ?_));unfold setsByText;refine aS (aS (wpAny_askSetting (aT ?_)))
  dsimp only
  rw[show (⟨(model prog w).prog,(model prog w).w.params⟩:Setting).params.followText "set-order" = true from b,cS rfl];refine aS (wpAny_askSetting (aT (aT ?_)))
  have H:(pickOrder (w.params.setOrder a ep) es)[i]? = none:=by
   rw[e,dZ,eC]at x
   cases hg:(pickOrder (w.params.setOrder a ep) es)[i]? with
   | none=>rfl
   | some z=>rw[hg]at x;cases x
  show Q (((pickOrder (w.params.setOrder a ep) es)[i]?).map (fun e=>(e.2,S))) s;rw[H];exact h
 | tab j b l d r z p e=>
  have C:S=j:=by
   injection v with f;omega
  subst C
  dsimp only
  rw[show (⟨(model prog w).prog,(model prog w).w.params⟩:Setting).params.followText "set-order" = false from b,cK (by decide)];show wpAny _ _ (if (!t.plain&&decide (es.size>1))=true then _ else _) _ _ s;rw[d,cK (by decide)];show wpAny _ _ ((if (!t.led&&!es.isEmpty)=true then _ else _) >>= _) _ _ s;rw[l,if_neg (by simp)];refine aS (aT (aT ?_));rw[p]
  have u:es.size<=i:=by
   rw[e,dZ,eC]at x;rcases Nat.lt_or_ge i es.size with f | f
   .rw[eA f]at x
    cases x
   .exact f
  rw[Array.getElem?_eq_none u];exact h
 | drw ps n y e=>cases v
end
theorem Md.keeps(m:Md w a q es ep t its i h f)(k:∀ o,h.get? q=some o->h'.get? q=some o):Md w a q es ep t its i h' f:=by
 cases m with
 | txt b e=>exact .txt b e
 | tab j b l d r z p e=>exact .tab j b l d r z p e
 | drw ps c g e=>
  obtain⟨o,H,n⟩:=c;exact .drw ps ⟨o,k o H,n⟩ g e
theorem Md.kind(m:Md w a q es ep t its i h f):(∃ j:Nat,f = .int (j:Nat) 0)∨(f = .ref q/\∃ ps:aw Nat,(∃ o,h.get? q=some o/\o.data = .seq (ps.map fun (p:Nat)=>rawInt p).toArray 0)/\(∀ p∈ps,p<es.size)/\its=ps.map fun p=>(es.getD p (0,.none)).2):=by
 cases m with
 | txt b e=>exact .inl ⟨0,rfl⟩
 | tab j b l d r z p e=>exact .inl ⟨j,rfl⟩
 | drw ps H c e=>exact .inr ⟨rfl,ps,H,c,e⟩
theorem Ry{first v:av}{Q:av->ae->Prop}(hit:Cy s.heap I a first i es.size ep)(z:SAt s.heap a es ep t)(u:t.fits es.size=true)(m:Md w a q es ep t its i s.heap first)(x:its[i]? = some v)(C:q≠I)
  (h:∀ h' y,Cy h' I a y (i+1) es.size ep->Md w a q es ep t its (i+1) h' y->(∀ b o,b≠I->s.heap.get? b=some o->h'.get? b=some o)->Q v { s with heap:=h' }) :
  wpAny (model prog w) A (Builtin.«set_iterator.__next__» ⟨[.ref I],[]⟩) (fun F s'=>∃ r,F = .done (.ret r)/\Q r s') E s:=by
 obtain⟨o,l,_,hd⟩:=id hit;obtain⟨_,H,_,d⟩:=id z;show wpAny _ _ (fieldsOf (.ref I) >>= _) _ _ s;refine aS (wpAny_fieldsOf l hd ?_);show wpAny _ _ (setEntries a >>= _) _ _ s;refine aS (wpAny_setEntries_of H d u ?_);rw[if_neg (by simp)];rcases m.kind with ⟨j,rfl⟩ | ⟨rfl,ps,⟨O,g,f⟩,B,e⟩
 .show wpAny _ _ (setNext a ((j:Nat):Int).toNat ((i:Nat):Int).toNat ((ep:Nat):Int).toNat >>= _) _ _ s;simp only[Int.toNat_natCast];refine aS (VN z u m x fun D m'=>?_);show wpAny _ _ (setField (.ref I) 0 (rawInt (D:Nat)) >>= _) _ _ s;refine wpAny_bind (wpAny_setField l hd (by simp) ?_);have M:=cm (Obj.mapFields (·.setIfInBounds 0 (rawInt (D:Nat)))) l (Obj.isFreed_of_fields (Obj.data_mapFields hd _));have G:=Obj.data_mapFields hd (·.setIfInBounds 0 (rawInt (D:Nat)));refine wpAny_bind (wpAny_setField M G (by simp) (wpAny_pure ⟨_,rfl,h _ _ (qDE hit) (m' _) fun b P k J=>?_⟩));exact (ck _ _ (bE k)).trans ((ck _ _ (bE k)).trans J)
 .show wpAny _ _ (seqItems? (.ref q) >>= _) _ _ s;refine aS (wpAny_seqItems g f ?_);simp only[Int.toNat_natCast];rw[e,dZ]at x
  cases hg:ps[i]? with
  | none=>rw[hg]at x;cases x
  | some p=>
   rw[hg]at x
   cases x
   have c:p<es.size:=B p (SX hg)
   have N:(ps.map fun (p:Nat)=>rawInt p).toArray[i]? = some (rawInt p):=by
    simp [hg]
   rw[N];show wpAny _ _ (setNextDrawn a ((p:Nat):Int).toNat ((ep:Nat):Int).toNat >>= _) _ _ s;simp only[Int.toNat_natCast];unfold setNextDrawn;refine aS (aS (wpAny_setState_of H d u ?_))
   dsimp only
   rw[if_neg (by simp),Array.getElem?_eq_getElem c];refine aT ?_;refine wpAny_bind (wpAny_setField l hd (by simp) (wpAny_pure ⟨_,rfl,?_⟩))
   have L:(es.getD p (0,.none)).2=es[p].2:=by simp [Array.getD,c]
   have n:=h _ _ (qA1 hit) (.drw ps ⟨O,(ck _ _ (bE C)).trans g,f⟩ B e) fun b P k J=>(ck _ _ (bE k)).trans J
   dsimp only at n
   rw[L]at n;exact n
theorem XC{Q:av->ae->Prop}{E:av->ae->Prop}(y:A.handled=none)(hit:Cy s.heap I a first i es.size ep)(u:SAt s.heap a es ep t)(v:t.fits es.size=true)(m:Md w a q es ep t its i s.heap first)(x:its[i]? = none)
  (h:∀ h' e,(∀ b o,b≠I->s.heap.get? b=some o->h'.get? b=some o)->(∃ o,h'.get? e=some o/\o.cls = .type "StopIteration")->E (.ref e) { s with heap:=h' }) :
  wpAny (model prog w) A (Builtin.«set_iterator.__next__» ⟨[.ref I],[]⟩) (fun f s'=>∃ r,f = .done (.ret r)/\Q r s') E s:=by
 obtain⟨o,H,_,hd⟩:=id hit;obtain⟨_,g,_,k⟩:=id u
 have z:∀ d:Heap,(∀ b o,b≠I->s.heap.get? b=some o->d.get? b=some o)->wpAny (model prog w) A (newExc (.type "StopIteration") [] >>= fun e=>(raiseNew e:Sem Fin)) (fun f s'=>∃ r,f = .done (.ret r)/\Q r s') E { s with heap:=d }:=fun d C=>by
  refine aS ?_;simp only[newExc,newTuple];refine aS (wpAny_newObj_type ?_ (by size_fits));refine wpAny_bind (m:=firstArgMember _ _) (wpAny_of_eq (a:=Value.none) (by first | rfl | (simp only[firstArgMember];rfl)) ?_);refine wpAny_newObj_type ?_ (by size_fits);simp only[raiseNew];refine aS (wpAny_handled ?_);rw[y];refine aS (aT (wpAny_throw ?_));exact h _ _ (fun b O c J=>fM _ (fM _ (C b O c J))) ⟨_,qy _ rfl,rfl⟩
 show wpAny _ _ (fieldsOf (.ref I) >>= _) _ _ s;refine aS (wpAny_fieldsOf H hd ?_);show wpAny _ _ (setEntries a >>= _) _ _ s;refine aS (wpAny_setEntries_of g k v ?_);rw[if_neg (by simp)];rcases m.kind with ⟨j,rfl⟩ | ⟨rfl,ps,⟨G,n,l⟩,d,e⟩
 .show wpAny _ _ (setNext a ((j:Nat):Int).toNat ((i:Nat):Int).toNat ((ep:Nat):Int).toNat >>= _) _ _ s;simp only[Int.toNat_natCast];refine aS (next_end u v m x ?_);show wpAny _ _ (setField (.ref I) 2 .none >>= _) _ _ s;refine wpAny_bind (wpAny_setField H hd (by simp) ?_);exact z _ fun b O c J=>(ck _ _ (bE c)).trans J
 .show wpAny _ _ (seqItems? (.ref q) >>= _) _ _ s;refine aS (wpAny_seqItems n l ?_);simp only[Int.toNat_natCast]
  have F:(ps.map fun (p:Nat)=>rawInt p).toArray[i]? = none:=by
   rw[e,dZ]at x
   cases hg:ps[i]? with
   | none=>simp [hg]
   | some p=>rw[hg]at x;cases x
  rw[F];show wpAny _ _ (setField (.ref I) 0 (rawInt 0) >>= _) _ _ s;refine wpAny_bind (wpAny_setField H hd (by simp) ?_);have B:=cm (Obj.mapFields (·.setIfInBounds 0 (rawInt 0))) H (Obj.isFreed_of_fields (Obj.data_mapFields hd _));have D:=Obj.data_mapFields hd (·.setIfInBounds 0 (rawInt 0));refine wpAny_bind (wpAny_setField B D (by simp) ?_);exact z _ fun b O c J=>(ck _ _ (bE c)).trans ((ck _ _ (bE c)).trans J)
def Y0(u:A.handled=none)(C:a≠I)(B:q≠I)(y:t.fits es.size=true) :
  Walks prog w A I [I,a,q] [I] its.length (fun i v=>its[i]? = some v) (fun i h => ∃ f,Cy h I a f i es.size ep/\SAt h a es ep t/\Md w a q es ep t its i h f) where
 sub:=fun b d=>by simp at d;simp [d]
 frame:=fun i h h' st k=>by
  obtain⟨f,⟨o,D,J⟩,⟨O,H,c⟩,m⟩:=st;exact⟨f,⟨o,k I (by simp) o D,J⟩,⟨O,k a (by simp) O H,c⟩,m.keeps fun o e=>k q (by simp) o e⟩
 item:=fun i s Q E L st l=>by
  obtain⟨f,hit,g,m⟩:=st;have x:its[i]? = some its[i]:=fQ L;have ty:s.TypeIs (.ref I) "set_iterator" := HN rfl hit;unfold pyNext;refine aS (wpAny_attempt (wpAny_callSpecial?_slot (name:=Str.ofString "__next__") ty dj (wpAny_call_entry dj ty rG ?_ (ug _))));refine Ry hit g y m x B fun h' F j m' k=>?_;refine wpAny_pure (l _ h' s.toks x ⟨F,j,?_,m'⟩ fun b o d e=>k b o (fun z=>d (by simp [z])) e);obtain⟨O,H,c⟩:=g;exact⟨O,k a O C H,c⟩
 done:=fun s Q E st l=>by
  obtain⟨f,hit,g,m⟩:=st
  have x:its[its.length]? = none:=by simp
  have ty:s.TypeIs (.ref I) "set_iterator" := HN rfl hit;unfold pyNext;refine aS (wpAny_attempt (wpAny_callSpecial?_slot (name:=Str.ofString "__next__") ty dj (wpAny_call_entry dj ty rG ?_ (ug _))));refine XC (by first | exact u | (show A.in1.handled=none;exact u)) hit g y m x fun h' e k r=>?_;obtain⟨G,p,n⟩:=r;refine aS (wpAny_isInstance (T := "StopIteration") (b:=true) ⟨G,p,n⟩ isSubtype_stop ?_);exact wpAny_pure (l h' s.toks fun b o d e=>k b o (fun z=>d (by simp [z])) e)
 self:=fun i s Q E st l=>by
  obtain⟨f,hit,g,m⟩:=st;have ty:s.TypeIs (.ref I) "set_iterator" := HN rfl hit;refine wpAny_pyIter_slot ty sY (wpAny_call_entry sY ty Cu ?_ (HH _));show wpAny _ _ (ret (.ref I)) _ _ s;exact aT ⟨_,rfl,"set_iterator",_,ty,dj.lookup,l⟩
def UJ(h:xs.size<=1):CG xs:=fun i k v u _ _ d=>by
 have f:=(eB.mp d).1;omega
def getD_map(e:Array (Int×av)):(List.range e.size).map (fun p=>(e.getD p (0,.none)).2)=e.toList.map (·.2):=by
 apply ft;intro i;rw[dZ,dZ]
 by_cases h:i<e.size
 .rw[qDH h];simp [Array.getD,h]
 .rw[List.getElem?_eq_none (by simp;omega),List.getElem?_eq_none (by simp;omega)];rfl
theorem ints_of:∀(vs:aw av),(∀ v∈vs,∃ k t,v = .int k t)->∃ m,IntsAre vs m/\(∀ k,k∈m ↔ ∃ t,Value.int k t∈vs)/\m.length=vs.length
 | [],_=>⟨[],.nil,fun k=>by simp,rfl⟩
 | v::vs,h=>by
  obtain⟨k,t,rfl⟩:=h v FZ;obtain⟨m,f,q,b⟩:=ints_of vs fun u d=>h u (Hr _ d);refine⟨k::m,.cons k t f,fun _=>?_,by simp [b]⟩;rw[dD,q];constructor
  .rintro (rfl | ⟨t',ht⟩)
   .exact⟨t,FZ⟩
   .exact⟨t',Hr _ ht⟩
  .rintro⟨t',ht⟩;rcases dD.mp ht with e | e
   .injection e with E;exact .inl E
   .exact .inr ⟨t',e⟩
theorem ZD(J:SAt s.heap a es ep t)(i:t.fits es.size=true)(ok:TabOk (j5 w) t)(N:es.size<=1000)
  (h:∀(I q:ar)(its:aw av)(h':Heap)(d:Drawn),a≠I->q≠I->s.heap.objs.size<=I->(q=a∨s.heap.objs.size<=q)->a<h'.objs.size->q<h'.objs.size->I<h'.objs.size->its.Perm (es.toList.map (·.2))->(∀ b o,s.heap.get? b=some o->h'.get? b=some o) →
   (∃ f,Cy h' I a f 0 es.size ep/\SAt h' a es ep t/\Md w a q es ep t its 0 h' f)->Q (.ref I) { s with heap:=h',drawn:=d }):wpAny (model prog w) A (pyIter (.ref a)) Q E s:=by
 obtain⟨o,j,y,hd⟩:=id J;have ty:s.TypeIs (.ref a) "set" := ⟨o,j,y⟩;have x:a<s.heap.objs.size:=gQ j
 have hsz:t.place.size=es.size:=by
  unfold SetTable.fits at i;simp at i;exact i.1
 refine wpAny_pyIter_slot ty F.slot_set_iter (wpAny_call_entry F.slot_set_iter ty Bk ?_ (F.args_set_iter_1 _));show wpAny _ _ (Builtin.Frozenset.sizeOf a >>= _) _ _ s;unfold Builtin.Frozenset.sizeOf;refine aS (aS (wpAny_setEntries_of j hd i (aT ?_)));unfold setDrawn setsByText;refine aS (aS (wpAny_setState_of j hd i (aS (aS (wpAny_askSetting (aT (aT ?_)))))));have n:∀(first:av)(q:ar)(its:aw av)(H:Heap)(d:Drawn),s.heap.objs.size<=H.objs.size->(q=a∨s.heap.objs.size<=q)->q<H.objs.size->its.Perm (es.toList.map (·.2))->(∀ b o,s.heap.get? b=some o->H.get? b=some o)->(∀ h',(∀ o,H.get? q=some o->h'.get? q=some o)->Md w a q es ep t its 0 h' first) →
   wpAny (model prog w) A.in1 (setEpoch a >>= fun e=>newFields "set_iterator" [first,rawInt 0,.ref a,rawInt es.size,rawInt e] >>= fun v=>(ret v:Sem Fin)) (fun n s'=>∃ r,n = .done (.ret r)/\∃ T M,s'.TypeIs r T/\typeLookup (.type T) "__next__" = pure (some M)/\Q r s') E { s with heap:=H,drawn:=d }:=fun first q its H d m l B c k C=>by
  have g:=k _ _ j;unfold setEpoch;refine aS (aS (wpAny_setState_of (s:={ s with heap:=H,drawn:=d }) g hd i (aT ?_)));refine aS (wpAny_newObj_type ?_);have G:(H.push { cls:=.type "set_iterator",data:=.fields [first,rawInt 0,.ref a,rawInt es.size,rawInt ep].toArray }).get? H.objs.size=some { cls:=.type "set_iterator",data:=.fields [first,rawInt 0,.ref a,rawInt es.size,rawInt ep].toArray }:=qy _ rfl;have z:a<H.objs.size:=gQ g;refine aT ⟨_,rfl,"set_iterator",_,⟨_,G,rfl⟩,dj.lookup,h H.objs.size q its _ d (jQ z) (jQ B) m l ?_ ?_ ?_ c (fun b O e=>fM _ (k b O e)) ⟨first,⟨_,G,rfl,rfl⟩,⟨o,fM _ g,y,hd⟩,C _ fun O e=>fM _ e⟩⟩
  .rw[eT];exact iE z
  .rw[eT];exact iE B
  .rw[eT];exact iF _
 have D:∀ b:Bool,w.params.followText "set-order" = b->(model prog w).w.params.followText "set-order" = b:=fun b e=>e;show wpAny _ _ (if (!((model prog w).w.params.followText "set-order")&&(!t.plain&&decide (es.size>1)))=true then _ else _) _ _ s
 cases hb:w.params.followText "set-order" with
 | true=>
  rw[D _ hb];simp only[Bool.not_true,Bool.false_and,Bool.false_eq_true,if_false];refine aS (aT ?_);exact n (rawInt 0) a _ s.heap s.drawn (bD _) (.inl rfl) x ((QX _ es).map (·.2)) (fun _ _ e=>e) fun h' _=>.txt hb rfl
 | false=>
  rw[D _ hb];simp only[Bool.not_false,Bool.true_and]
  cases hdr:(!t.plain&&decide (es.size>1)) with
  | false=>
   simp only[Bool.false_eq_true,if_false];refine aS (aT ?_)
   have R:CG t.place:=by
    cases c:t.plain with
    | true=>exact ok.up c
    | false=>
     rw[c]at hdr
     have:¬ es.size>1:=by simpa using hdr
     exact UJ (by omega)
   exact n (rawInt 0) a _ s.heap s.drawn (bD _) (.inl rfl) x (List.Perm.refl _) (fun _ _ e=>e) fun h' _=>.tab 0 hb (by rw[ok.led];show (!(w.params.followText "set-order"))=true;rw[hb];rfl) hdr R hsz (Mw R) rfl
  | true=>
   simp only[if_true];refine wpAny_bind (PL es.size (List.range es.size) s _ (by simp) fun ps d c=>?_)
   have L:ps.length=es.size:=by rw[c.length_eq];simp
   refine aS (wpAny_newTuple ?_ (by rw[bT,L,sizeLine_eq];omega));refine n (.ref s.heap.objs.size) s.heap.objs.size (ps.map fun p=>(es.getD p (0,.none)).2) _ d ?_ (.inr (Nat.le_refl _)) ?_ ?_ (fun b O e=>Heap.get?_push_of_some _ e) fun h' k=>.drw ps ⟨_,k _ (Heap.get?_push_size _ rfl),rfl⟩ (fun p u=>by simpa using c.mem_iff.mp u) rfl
   .show _<=(s.heap.push _).objs.size;rw[eT];exact ip _
   .show _<(s.heap.push _).objs.size;rw[eT];exact iF _
   .rw[<-getD_map es];exact c.map _
noncomputable def RC(val:Nat->Int):Int->Nat->Nat->Int
 | b,_,0=>b
 | b,j,k+1=>RC val (if val j>b then val j else b) (j+1) k
def XM(a d:av):argsOk "max" ⟨[a],[("default",d)]⟩:=by unfold argsOk;kernel_rfl
section
variable{prog:ag}{w:aI}{A:ai}{R:Result->ae->Prop}{I:ar}{fp wr:aw ar}{n:Nat}{P:Nat->av->Prop}{St:Nat->Heap->Prop}
theorem Ve(W:Walks prog w A.in1 I fp wr n P St)(val:Nat->Int)(x:∀ i v,P i v->∃ t,v = .int (val i) t)(Y:av)(S:ar)(y:S∉fp):∀(k j:Nat)(s:ae)(b:Int)(l:Tok)(c:Nat),n-j=k->j<=n->St j s.heap →
   s.heap.get? S=some { cls:=.type "list",dict:=none,data:=.seq #[.int b l,.int b l] c,slots:=#[] } →
   (∀ t h' G,(∀ b o,b∉wr->b≠S->s.heap.get? b=some o->h'.get? b=some o)->R (.ok (.ret (.int (RC val b j k) t))) { s with heap:=h',toks:=G })->codeAny (model prog w) A (.builtin "max.loop" ⟨[.ref I,.none,.ref S],[("default",Y)]⟩) R s:=by
 have u:S∉wr:=fun h=>y (W.sub _ h)
 have nm:(toString "max" ++ toString ".loop" : String) = "max.loop" := by decide
 intro k
 induction k with
 | zero=>
  intro j s b l c X Z r z D
  obtain rfl:j=n:=by omega
  refine codeAny_builtin F.entry_max_loop ?_;rw[Around.under_plainId F.plain_max_loop _];show wpAny _ A.in1 (seqItems? (.ref S) >>= _) _ _ s;refine aS (wpAny_seqItems z rfl ?_);show wpAny _ A.in1 (tryCatch (pyNext (.ref I)) _ >>= _) _ _ s;refine aS (wpAny_tryCatch (W.done s _ _ r fun h' G a=>?_));have B:=a S _ u z;show wpAny _ A.in1 (updateSeq S (fun _ => #[]) >>= _) _ _ _;refine aS ?_;refine wpAny_updateSeq B rfl (aS (wpAny_letGo (aT (D l _ G fun b o H d e=>?_))));exact (ck _ _ (bE d)).trans (a b o H e)
 | succ k N=>
  intro j s b l c X Z r z D
  have m:j<n:=by omega
  refine codeAny_builtin F.entry_max_loop ?_;rw[Around.under_plainId F.plain_max_loop _];show wpAny _ A.in1 (seqItems? (.ref S) >>= _) _ _ s;refine aS (wpAny_seqItems z rfl ?_);show wpAny _ A.in1 (tryCatch (pyNext (.ref I)) _ >>= _) _ _ s;refine aS (wpAny_tryCatch (W.item j s _ _ m r fun v h' G O g a=>?_));obtain⟨C,rfl⟩:=x j v O;have B:=a S _ u z;show wpAny _ A.in1 (tryCatch (holding [Value.int (val j) C,Value.int (val j) C] (richCompare .Gt (Value.int (val j) C) (Value.int b l) >>= _)) _ >>= _) _ _ _
  have M:∀(s':ae)(Q J:av->ae->Prop),Q (.bool (decide (val j>b))) s'->wpAny (model prog w) A.in1 (richCompare .Gt (.int (val j) C) (.int b l)) Q J s':=fun s' Q J U=>
   CmpOf.ints_gt (P:=fun i v => ∃ t,v=Value.int (if i=0 then val j else b) t) (fun i=>if i=0 then val j else b) (fun i v h=>h) 0 1 _ _ s' Q J ⟨_,rfl⟩ ⟨_,rfl⟩ U
  refine aS (wpAny_tryCatch (cq (aS (M _ _ _ ?_))));refine aS (cq (wpAny_truthy_bool (aS (wpAny_letGo (aT ?_)))))
  by_cases E:val j>b
  .simp only[E,decide_true,if_true];refine aS (wpAny_updateSeq B rfl (aS (wpAny_letGo ?_)));rw[nm];refine aT ⟨plainId_quiet F.plain_max_loop _,N (j+1) _ (val j) C _ (by omega) m (W.frame _ _ _ g fun b L o e=>?_) (cm _ B rfl) fun t p T f=>?_⟩
   .exact (ck _ _ (fun h:S=b=>y (by rw[h];exact L))).trans e
   .have q:=D t p T fun b o H d e=>f b o H d ((ck _ _ (bE d)).trans (a b o H e));simp only[RC,E,if_true]at q;exact q
  .simp only[E,decide_false,Bool.false_eq_true,if_false];refine aS (wpAny_letGo ?_);rw[nm];refine aT ⟨plainId_quiet F.plain_max_loop _,N (j+1) _ b l c (by omega) m g B fun t p T f=>?_⟩;have q:=D t p T fun b o H d e=>f b o H d (a b o H e);simp only[RC,E,if_false]at q;exact q
def mxN(val:Nat->Int)(d:Int):Nat->Int
 | 0=>d
 | n+1=>RC val (val 0) 1 n
theorem RD(W:Walks prog w A.in1 I fp wr n P St)(val:Nat->Int)(x:∀ i v,P i v->∃ t,v = .int (val i) t)(d:Int)(r:Tok)(S:ar)(y:S∉fp)(k:St 0 s.heap)
  (q:s.heap.get? S=some { cls:=.type "list",dict:=none,data:=.seq #[] c,slots:=#[] })
  (D:∀ t h' l,(∀ b o,b∉wr->b≠S->s.heap.get? b=some o->h'.get? b=some o)->R (.ok (.ret (.int (mxN val d n) t))) { s with heap:=h',toks:=l }):codeAny (model prog w) A (.builtin "max.loop" ⟨[.ref I,.none,.ref S],[("default",.int d r)]⟩) R s:=by
 have u:S∉wr:=fun h=>y (W.sub _ h)
 have nm:(toString "max" ++ toString ".loop" : String) = "max.loop" := by decide
 refine codeAny_builtin F.entry_max_loop ?_;rw[Around.under_plainId F.plain_max_loop _];show wpAny _ A.in1 (seqItems? (.ref S) >>= _) _ _ s;refine aS (wpAny_seqItems q rfl ?_);show wpAny _ A.in1 (tryCatch (pyNext (.ref I)) _ >>= _) _ _ s
 cases n with
 | zero=>
  refine aS (wpAny_tryCatch (W.done s _ _ k fun h' l H=>?_));refine aS (wpAny_rule (aT (D r h' l fun b o a f e=>H b o a e)))
 | succ n=>
  refine aS (wpAny_tryCatch (W.item 0 s _ _ (Nat.succ_pos _) k fun v h' l z g H=>?_));obtain⟨p,rfl⟩:=x 0 v z;have B:=H S _ u q;show wpAny _ A.in1 (updateSeq S (fun _ => #[Value.int (val 0) p,Value.int (val 0) p]) >>= _) _ _ _;refine aS ?_;refine wpAny_updateSeq B rfl ?_;rw[nm];refine aT ⟨plainId_quiet F.plain_max_loop _,Ve W val x _ S y n 1 _ (val 0) p _ (by omega) (by omega) (W.frame _ _ _ g fun b L o e=>?_) (cm _ B rfl) fun t m T j=>?_⟩
  .exact (ck _ _ (fun h:S=b=>y (by rw[h];exact L))).trans e
  .exact D t m T fun b o a f e=>j b o a f ((ck _ _ (bE f)).trans (H b o a e))
end
theorem Zk(a d:av):checkBuiltinCall "max" ⟨[a],[("default",d)]⟩=pure ():=by
 have f:=XM a d;unfold argsOk at f;simp only[checkBuiltinCall,F.kind_max]
 cases hsig:Manifest.signature? "max" with
 | none=>rfl
 | some s=>
  rw[hsig]at f;exact f
def XD(d:av):Builtin.Builtins.bindParams "max" ["key","default"] 0 ⟨[],[("default",d)]⟩=pure [none,some d]:=by rfl
def X8(m:A.handled=none)(H:s.heap.IsList p items)(h:IntsAre items.toList ns)
  (f:∀(h':Heap)(T:Nat)(t:Tok),(∀ b o,s.heap.get? b=some o->h'.get? b=some o)->Q (.int (mxN (fun i=>ns.getD i 0) d ns.length) t) { s with heap:=h',toks:=T }) :
  wpAny (model prog w) A (call (.builtin "max") [.ref p] [("default",.int d td)]) Q E s:=by
 have nm:(toString "max" ++ toString ".loop" : String) = "max.loop" := by decide
 have a:∀(i:Nat)(v:av),items[i]? = some v->∃ t,v = .int (ns.getD i 0) t:=fun i v c=>IntsAre.int_at h i v (by rw[eC];exact c)
 have L:p<s.heap.objs.size:=by
  obtain⟨o,q,_⟩:=H;exact gQ q
 have j:items.size=ns.length:=by
  have:=h.length
  simpa using this
 refine wpAny_call (codeAny_call_builtin F.plain_max F.entry_max ?_);refine wpAny_of_eq (Zk _ _) ?_;show wpAny _ A.in1 (Builtin.Builtins.bindParams "max" ["key","default"] 0 ⟨[],[("default",.int d td)]⟩ >>= _) _ _ s;refine aS (wpAny_of_eq (XD _) (aS (aT (aS (wpAny_pyIter_list H ?_)))));refine aS (wpAny_newObj_type ?_);rw[nm]
 have g:A.in1.handled=none:=by simp [m]
 have n:p≠s.heap.objs.size:=jQ L;have W:=Walks.list (prog:=prog) (w:=w) (A:=A.in1) g s.heap.objs.size p n items
 have N:(s.heap.push { cls:=.type "list_iterator",data:=.fields #[.ref p,.int 0 0] }).objs.size∉[s.heap.objs.size,p]:=by
  rw[eT];simp only[List.mem_cons,List.not_mem_nil,or_false,not_or];exact⟨iO (iF _),iO (iE L)⟩
 refine aT ⟨plainId_quiet F.plain_max_loop _,RD W (fun i=>ns.getD i 0) a d td _ N ⟨⟨_,fM _ (qy _ rfl),rfl,rfl⟩,(H.push _).push _⟩ (qy _ rfl) fun t h' T k=>?_⟩;rw[j];refine f h' T t fun b o e=>k b o ?_ ?_ (fM _ (fM _ e))
 .have l:=gQ e;simp only[List.mem_cons,List.not_mem_nil,or_false];exact jQ l
 .have l:=gQ e;rw[eT];exact jQ (iE l)
end Sw
namespace Sw
end Sw
namespace L2
open PySem PySem.Spec PyProof.Rows
def Inv.drew(I:Inv X pins σ H s):Inv X pins σ H { s with drawn:=d }:=⟨I.ok,I.os,I.bare,I.base,I.loc,I.cell,I.free,I.jq,I.pin,I.hok,I.len⟩
def qDX(K:bV)(d:Int)(t:TA):TE:=fun σ H Q=>t σ H fun vs h => ∃(p:ar)(ns:aw Int),vs=[.ref p]/\aU K h p (ns.map V.int)/\Q (.int (Sw.mxN (fun i=>ns.getD i 0) d ns.length)) h
def Yk(f:X.calm=true)(c:Gl X "max")(n:X.mg "max" = none)(l:PA X [a] t)(g:starEach [a] X.env=[(false,eval a X.env)]:=by rfl) :
  PE X (.Call (.Name "max" p1) [a] [⟨some "default",.Constant (.int d) j pd,kp⟩] pos) (qDX X.K d t):=by
 intro P s σ H Q I h;refine wpAny_Call_Name_kw (jm I c n PyProof.Rows.boot_max ?_);refine PyProof.Rows.callWith_kw (bH (l pos P s σ H _ I h) fun _ S ⟨_,e,i,r,m⟩=>?_) (by rw[g];rfl) (by rw[g];rfl) rfl rfl;refine PyProof.Rows.kws_cons (wpAny_Constant_int (PyProof.Rows.kws_nil ?_));obtain⟨p,_,rfl,b,q⟩:=m;obtain⟨u,rfl,x⟩:=vals1 r
 cases x
 obtain⟨_,R,pl,_⟩:=i.list b;have A:=i.tok (S.toks+1);exact Sw.X8 (A.ok.hd f) pl.isList (intsAre_of R) fun _ _ t k=>⟨.int _,e,A.kept k,⟨_,rfl⟩,q⟩
end L2
namespace Sw
open PySem PyProof.Rows
def xX(prog:ag)(w:aI)(h:Heap)(a:ar)(S:Int->Prop)(n:Nat)(l:Bool):Prop:=
 ∃ o E ep t,h.get? a=some o/\o.ExactSet/\o.data = .set E ep t/\ElemsOf (intKind prog w) E.toList/\(∀ k,(∃ e∈E.toList,(intKind prog w).is k e.2=true)->S k)/\E.size<scanBound/\t.fits E.size=true/\E.size<=n/\TabOk l t
def xX.keeps(x:xX prog w h a S n l)(k:∀ o,h.get? a=some o->h'.get? a=some o):xX prog w h' a S n l:=by obtain⟨o,e,ep,t,q,r⟩:=x;exact⟨o,e,ep,t,k o q,r⟩
def rJ{h:Heap}{a:ar}{o:Obj}{e:Array (Int×av)}{ep:Nat}{t:SetTable}(H:h.get? a=some o)(hd:o.data = .set e ep t)(c:Array (Int×av))(t':SetTable) :
  (h.update a (Obj.putSet c t')).get? a=some { o with data:=.set c (ep+1) t' }:=by have q:=cm (Obj.putSet c t') H (by rw[putSet_of c t' hd];rfl);rw[putSet_of c t' hd]at q;exact q
def wR{g:Bool->Sem Unit}(H:∀(b:Bool)(S:ae)(j:Unit->ae->Prop),j () S->wpAny (model prog w) A (g b) j E S){a:ar}{o:Obj}{c e:Array (Int×av)}{ep:Nat}{t T:SetTable}(q:s.heap.get? a=some o)(hd:o.data = .set c ep t)
  (h:e.size<scanBound) {W:Bool} {R:aE Bool->ae->Prop} (f:R (some true) { s with heap:=s.heap.update a (Obj.putSet e T) })
  (d:R (some true) { s with heap:=(s.heap.update a (Obj.putSet e T)).update a (Obj.putSet (relayAll T e (SetTable.grown e.size)).1 (relayAll T e (SetTable.grown e.size)).2.1) }) :
  wpAny (model prog w) A (do
   storeSet a e T
   if (!W&&T.tooFull)=true then do
    g (relayAll T e (SetTable.grown e.size)).2.2
    storeSet a (relayAll T e (SetTable.grown e.size)).1 (relayAll T e (SetTable.grown e.size)).2.1
    pure (some true)
   else pure (some true)) R E s:=by
 refine aS (wpAny_storeSet_of q hd ?_ (fits_of_scanBound h))
 split
 .have p:=relayAll_perm T e (SetTable.grown e.size)
  have hsz:(relayAll T e (SetTable.grown e.size)).1.size=e.size:=by rw[<-e7,p.length_eq,e7]
  exact aS (H _ _ _ (aS (wpAny_storeSet_of (rJ q hd e T) rfl (aT d) (fits_of_scanBound (by rw[hsz];exact h)))))
 .exact aT f
theorem addQ{l:Bool}{k:Int}{tok:Tok}{Q:Bool->ae->Prop}(hS:xX prog w s.heap a S n l)(hk:S k)(P:n+1<scanBound)
  (h:∀ h' b,Heap.SameBut a s.heap h'->xX prog w h' a S (n+1) l->Q b { s with heap:=h' }) :
  wpAny (model prog w) A (setAddHashed a (.int k tok) ((intKind prog w).hash k)) Q E s:=by
 obtain⟨o,i,ep,t,D,hex,hd,m,r,hb,R,_,ok⟩:=hS;have y:(intKind prog w).is k (.int k tok)=true:=intKind_is _ _ _ _;have v:(Value.int k tok).scannable=true:=rfl
 have hb1:i.size+1<scanBound:=by omega
 unfold setAddHashed setAddHashedIn;refine cq (aS (wpAny_setState_of D hd R ?_))
 dsimp only;rw[byScan_of v hb m];simp only[↓reduceIte];unfold setAddByScan
 refine aS (aS (wpAny_rule (aS (wpAny_setScan_of y D hd R m ?_))))
 cases hr:List.findIdx? (fun e=>(intKind prog w).is k e.2) i.toList with
 | some j=>exact aT (aT (h s.heap _ (Heap.SameBut.refl a s.heap) ⟨o,i,ep,t,D,hex,hd,m,r,hb,R,by omega,ok⟩))
 | none=>
  dsimp only
  have W:∀(b:Bool){g:ae}{J:Unit->ae->Prop},J () g->wpAny (model prog w) A (match b with | true=>rule "set.scan.the-table-gave-way" | false=>pure ()) J E g:=fun b g J p=>by
   cases b <;> first | exact aT p | exact wpAny_rule p
  have H:=layNew_perm t i ((intKind prog w).hash k) (.int k tok);have d:=layNew_fits t i ((intKind prog w).hash k) (.int k tok);have hok:=RL ok i ((intKind prog w).hash k) (.int k tok);generalize hL:layNew t i ((intKind prog w).hash k) (.int k tok)=L at H d hok ⊢;obtain⟨c,t1,_,_⟩:=L
  dsimp only at H d hok ⊢
  rw[Array.toList_push]at H;have I:ElemsOf (intKind prog w) c.toList:=(m.push y v).perm H
  have B:∀ x,(∃ e∈c.toList,(intKind prog w).is x e.2=true)->S x:=fun x z=>by
   have z:=(mem_push_iff (S:=fun k=>i.toList.any fun e=>(intKind prog w).is k e.2) y (fun k=>fi) H x).mpr z;rcases (eP _ _).mp z with z | z
   .exact r x (List.any_eq_true.mp z)
   .rw[ba z];exact hk
  have hsz1:c.size=i.size+1:=by rw[<-e7,H.length_eq,j8,e7];rfl
  have u:c.size<scanBound:=by omega
  refine aS (W _ ?_);have G:∀(f:Array (Int×av))(T:SetTable)(M:Heap)(N:Obj)(X:Array (Int×av))(F:Nat)(Z:SetTable),M.get? a=some N->N.ExactSet->N.data = .set X F Z->Heap.SameBut a s.heap M->f.toList.Perm c.toList->T.fits f.size=true->TabOk l T →
    Q true { s with heap:=M.update a (Obj.putSet f T) }:=fun f T M N X F Z g0 x0 d0 sb U C O=>by
   have Y:f.size=c.size:=by rw[<-e7,U.length_eq,e7]
   exact h _ _ (sb.trans (Heap.SameBut.update M a (Obj.putSet f T))) ⟨_,f,F+1,T,rJ g0 d0 f T,x0,rfl,I.perm U,fun x ⟨e,he,z⟩=>B x ⟨e,U.mem_iff.mp he,z⟩,by omega,C,by omega,O⟩
  have both:∀ T:SetTable,T.fits c.size=true->TabOk l T->Q true { s with heap:=s.heap.update a (Obj.putSet c T) } ∧
    Q true { s with heap:=(s.heap.update a (Obj.putSet c T)).update a (Obj.putSet (relayAll T c (SetTable.grown c.size)).1 (relayAll T c (SetTable.grown c.size)).2.1) }:=fun T C O=>
   ⟨G c T s.heap o i ep t D hex hd (Heap.SameBut.refl _ _) (List.Perm.refl _) C O,
    G _ _ _ _ c (ep+1) T (rJ D hd c T) hex rfl (Heap.SameBut.update _ _ _) (relayAll_perm T c _) (relayAll_fits T c _) (J7 O c _)⟩
  split
  .refine aS ?_;rw[hashByValue_scannable 8 v];refine aT ?_;have q:=both t1 d hok;refine wR ?_ D hd u ?_ ?_
   .intro b g J p
    cases b <;> first | exact aT p | exact wpAny_rule p
   .dsimp only
    exact aT q.1
   .dsimp only
    exact aT q.2
  .refine aS (aT ?_);simp only[↓reduceIte];have q:=both t1 d hok;refine wR ?_ D hd u ?_ ?_
   .intro b g J p
    cases b <;> first | exact aT p | exact wpAny_rule p
   .dsimp only
    exact aT q.1
   .dsimp only
    exact aT q.2
theorem Ma(h:IntsAre vs ns):∀(i:Nat)(v:av),vs[i]? = some v->∃ k t,v = .int k t/\k∈ns:=by
 induction h with
 | nil=>intro i v h;cases h
 | cons k t _ I=>
  intro i v h
  cases i with
  | zero=>exact⟨k,t,(kJ h).symm,FZ⟩
  | succ i=>
   obtain⟨a,t',e,m⟩:=I i v h;exact⟨a,t',e,Hr _ m⟩
section
variable{prog:ag}{w:aI}{A:ai}{R:Result->ae->Prop}{I:ar}{fp wr:aw ar}{G:Array GenState->Array GenState->Prop}{n:Nat}{P:Nat->av->Prop}{St:Nat->ae->Prop}
theorem qFH(W:WalksS prog w A.in1 I fp wr G n P St)(S:ar)(H:S∉fp)(M:Int->Prop)(h:∀ i v,P i v->∃ k t,v = .int k t/\M k)(J:n+1<scanBound)(l:Bool):∀(k i:Nat)(s:ae),n-i=k->i<=n->St i s->xX prog w s.heap S M i l →
   (∀ s',Moved (S::wr) G s s'->xX prog w s'.heap S M n l->R (.ok (.ret .none)) s')->codeAny (model prog w) A (.builtin "set.update.loop" ⟨[.ref S,.ref I],[]⟩) R s:=by
 have u:S∉wr:=fun z=>H (W.sub _ z);have more:∀ b∈wr,b∈S::wr:=fun b z=>Hr _ z;intro k
 induction k with
 | zero=>
  intro i s D E st B f
  obtain rfl:i=n:=by omega
  refine codeAny_builtin F.entry_set_update_loop ?_;rw[Around.under_plainId F.plain_set_update_loop _];show wpAny _ A.in1 (pyNext (.ref I) >>= _) _ _ s;refine aS (W.done s _ _ st fun s' d=>?_);exact aT (f s' (d.mono more) (B.keeps fun o e=>d.heap S _ u e))
 | succ k C=>
  intro i s D E st B f
  have lt:i<n:=by omega
  refine codeAny_builtin F.entry_set_update_loop ?_;rw[Around.under_plainId F.plain_set_update_loop _];show wpAny _ A.in1 (pyNext (.ref I) >>= _) _ _ s;refine aS (W.item i s _ _ lt st fun v s' p c d=>?_);obtain⟨x,t,rfl,r⟩:=h i v p;show wpAny _ A.in1 (holding [Value.int x t] (setAdd S (.int x t)) >>= _) _ _ s';refine aS (cq ?_);unfold setAdd;refine cq (aS ((intKind prog w).pyHash (k:=x) (intKind_is _ _ _ _) ?_));refine addQ (s:={ s' with toks:=s'.toks+1 }) (B.keeps fun o e=>d.heap S _ u e) r (by omega) fun _ _ a g=>?_;refine aT ⟨plainId_quiet F.plain_set_update_loop _,C (i+1) _ (by omega) lt (W.frame _ s' _ _ c (ip _) fun b z o e=>?_) g fun q m j=>?_⟩
  .exact (a.2 b fun y=>H (y▸z)).trans e
  .refine f q (Moved.trans W.gtrans ((d.mono more).then_heap (ip _) fun b o z e=>?_) m) j;exact (a.2 b fun y=>z (y▸FZ)).trans e
end
def X3(a:av)(f:Q₁ (.ref s.heap.objs.size) { s with heap:=s.heap.push { cls:=.type "set",dict:=none,data:=.set #[] 0 (.fresh 0 0 (j5 w)) } }) :
  codeAny (model prog w) A (.call (.builtin "set.__new__") ⟨[.type "set",a],[]⟩) (wants Q₁ E) s:=by
 refine codeAny_of_tree ?_;show wpAny _ A.in1 (do checkBuiltinCall "set.__new__" ⟨[.type "set",a],[]⟩;again (.builtin "set.__new__" ⟨[.type "set",a],[]⟩)) _ _ s;refine aS (wpAny_of_eq (PySem.F.newCall_set_1 a) (aT ⟨plainId_quiet PySem.F.plain_set_new _,codeAny_builtin PySem.F.entry_set_new ?_⟩));rw[Around.under_plainId PySem.F.plain_set_new _];unfold Builtin.«set.__new__» Builtin.Frozenset.newClass;have h:=sub_set_self;obtain⟨_,g,d,_,_⟩:=s
 dsimp only;wp_walk;refine wpAny_askSetting (aT ?_);dsimp only;simp only[newObj]
 refine aS (wpAny_alloc (aT ?_));exact aT f
def qKL(prog:ag)(w:aI)(h:Heap)(l:Bool)(M:Int->Prop):xX prog w (h.push { cls:=.type "set",dict:=none,data:=.set #[] 0 (.fresh 0 0 l) }) h.objs.size M 0 l:=
 ⟨_,#[],0,_,Heap.get?_push_size _ rfl,⟨rfl,rfl,rfl⟩,rfl,fun e g=>by simp at g,fun k ⟨e,g,_⟩=>by simp at g,by decide,by rfl,Nat.le_refl _,⟨rfl,rfl,fun _ i k v u _ e=>by simp [SetTable.fresh]at e⟩⟩
theorem X7(P:A.handled=none)(W:s.heap.IsList p items)(hi:IntsAre items.toList ns)(U:items.size+1<scanBound)
  (F:∀(h':Heap)(T:Nat),xX prog w h' s.heap.objs.size (· ∈ ns) items.size (j5 w) →
   (∀ b o,b<s.heap.objs.size->s.heap.get? b=some o->h'.get? b=some o)->Q (.ref s.heap.objs.size) { s with heap:=h',toks:=T }):wpAny (model prog w) A (call (.type "set") [.ref p]) Q E s:=by
 obtain⟨c,_,_⟩:=PySem.F.called_set.mro;have f1:=PySem.F.called_set.made;have f2:=PySem.F.called_set.sub;refine wpAny_call (codeAny_of_tree ?_);show wpAny _ _ (callAny (.type "set") _) _ _ _;refine aT ⟨Code.quiet_builtin _ (by decide +kernel),codeAny_builtin PySem.F.entry_type_call ?_⟩;rw[Around.under_plain (weight_type_call_type "set" [.ref p] []) rfl];have f3:=PySem.F.called_set.notType;have f4:=PySem.F.called_set.canCreate;have f5:=PySem.F.typeCall_set_1 (.ref p)
 repeat (any_goals (first | assumption | wp_step))
 refine codeAny_mono (X3 (.ref p) (E:=E) (Q₁:=fun m a=>m = .ref s.heap.objs.size/\a = { s with heap:=s.heap.push { cls:=.type "set",dict:=none,data:=.set #[] 0 (.fresh 0 0 (j5 w)) } }) ⟨rfl,rfl⟩) fun r a z=>?_
 cases r with
 | error e=>exact z
 | ok fl=>
  cases fl with
  | ret m=>
   obtain⟨rfl,rfl⟩:=z;have M:(s.heap.push { cls:=.type "set",dict:=none,data:=.set #[] 0 (.fresh 0 0 (j5 w)) }).get? s.heap.objs.size=some { cls:=.type "set",dict:=none,data:=.set #[] 0 (.fresh 0 0 (j5 w)) }:=qy s.heap rfl;have hT:Shared.TypeIs { s with heap:=s.heap.push { cls:=.type "set",dict:=none,data:=.set #[] 0 (.fresh 0 0 (j5 w)) } } (.ref s.heap.objs.size) "set" := ⟨_,M,rfl⟩;have f6:=PySem.F.called_set.init.lookup;have f7:=PySem.F.called_set.init.bind (.ref s.heap.objs.size)
   repeat (any_goals (first | assumption | wp_step))
   refine codeAny_mono (codeAny_call_builtin (R:=wants (fun r S=>r = .none/\∃ h' T,S = { s with heap:=h',toks:=T }/\xX prog w h' s.heap.objs.size (· ∈ ns) items.size (j5 w) ∧
     (∀ b o,b<s.heap.objs.size->s.heap.get? b=some o->h'.get? b=some o)) E) PySem.F.called_set.init.plain PySem.F.entry_set_init (check_set_init_1 hT ?_)) fun g S h=>?_
   .obtain⟨X,l,H,nl,q⟩:=W;obtain⟨_,d,_,O⟩:=X;simp only at H q;subst H q;have u:(s.heap.push { cls:=.type "set",dict:=none,data:=.set #[] 0 (.fresh 0 0 (j5 w)) }).get? p=some { cls:=.type "list",dict:=d,data:=.seq items nl,slots:=O }:=fM _ l;have f8:=PySem.F.sub_list_set;have f9:=PySem.F.sub_list_frozenset
    have f0:(Value.type "list" == Value.type "dict")=false:=by decide
    have j:(s.heap.push { cls:=.type "set",dict:=none,data:=.set #[] 0 (.fresh 0 0 (j5 w)) }).IsList p items:=⟨_,u,rfl,nl,rfl⟩;unfold Builtin.«set.__init__» noKeywords Builtin.Frozenset.updateFrom;generalize I:pyIter=PI;wp_walk;subst I;refine wpAny_pyIter_list j (aS (wpAny_runValue ?_));have L:p<s.heap.objs.size:=gQ l
    have G:A.in1.in1.in1.handled=none:=by simp [P]
    have N:p≠(s.heap.push { cls:=.type "set",dict:=none,data:=.set #[] 0 (.fresh 0 0 (j5 w)) }).objs.size:=by
     rw[eT];exact jQ (iE L)
    have Y:s.heap.objs.size∉[(s.heap.push { cls:=.type "set",dict:=none,data:=.set #[] 0 (.fresh 0 0 (j5 w)) }).objs.size,p]:=by
     rw[eT];simp only[List.mem_cons,List.not_mem_nil,or_false,not_or];exact⟨jQ (iF _),iO L⟩
    have n:∀(i:Nat)(v:av),items[i]? = some v->∃ k t,v = .int k t/\k∈ns:=fun i v D=>Ma hi i v (by rw[eC];exact D);refine qFH ((Walks.list G _ p N items).toS) s.heap.objs.size Y (· ∈ ns) n U (j5 w) (items.size-0) 0 _ (by omega) (bo _) ⟨⟨_,qy _ rfl,rfl,rfl⟩,(j.push _)⟩ ?qLO ?hRx
    case qLO=>exact (qKL prog w s.heap (j5 w) _).keeps fun o e=>fM _ e
    case hRx=>
     intro s' x B;obtain⟨h',g',d',J,C⟩:=s';have eg:g'=s.gens:=x.gens;have ed:d'=s.drawn:=x.drawn;have Z:C=s.os:=x.os;subst eg ed Z;show wpAny _ _ _ _ _ _;refine aT ?_;show wpAny _ _ (ret Value.none) _ _ _;refine aT ⟨rfl,h',J,rfl,B,fun b o lt e=>x.heap b o ?_ (fM _ (fM _ e))⟩;simp only[List.mem_cons,List.not_mem_nil,or_false,not_or];exact⟨jQ lt,by rw[eT];exact jQ (iE lt)⟩
   .cases g with
    | error e=>exact h
    | ok f=>
     cases f with
     | ret r=>
      obtain⟨rfl,h',T,rfl,B,y⟩:=h
      repeat (any_goals (first | assumption | wp_step))
      exact F _ _ B y
     | _=>exact h.elim
  | _=>exact z.elim
def Wz(hh:A.handled=none)(hS:xX prog w s.heap a S n (j5 w))(hn:n<=1000)
  (G:∀(h':Heap)(j:Nat)(d:Drawn)(vs:aw av)(M:aw Int),IntsAre vs M->vs.length<=n->M.length<=n->(∀ k∈M,S k)->(∀ b o,s.heap.get? b=some o->h'.get? b=some o)->Q vs { s with heap:=h',toks:=j,drawn:=d }) :
  wpAny (model prog w) A (collect (.ref a)) Q E s:=by
 obtain⟨o,es,ep,t,ho,hex,hd,hel,r,p,hf,hsz,ok⟩:=hS;have C:a<s.heap.objs.size:=gQ ho;have hs:SAt s.heap a es ep t:=⟨o,ho,hex.1,hd⟩;unfold collect;refine aS (wpAny_runValue (codeAny_builtin F.entry_proto_collect ?_));rw[Around.under_plainId F.plain_proto_collect _];show wpAny _ A.in1 (newList [] >>= fun l=>again (.builtin "list.__iadd__" ⟨[l,.ref a],[]⟩)) _ _ s;refine aS (wpAny_newObj_type ?_);refine aT ⟨plainId_quiet F.plain_list_iadd _,codeAny_builtin F.entry_list_iadd ?_⟩;rw[Around.under_plainId F.plain_list_iadd _];have g0:(s.heap.push { cls:=.type "list",data:=.seq ([]:aw av).toArray }).get? s.heap.objs.size=some { cls:=.type "list",data:=.seq ([]:aw av).toArray }:=qy s.heap rfl
 have other:Builtin.List.listSameRef (.ref s.heap.objs.size) (.ref a)=false:=by simp [Builtin.List.listSameRef];exact iO C
 have g:(s.heap.push { cls:=.type "list",data:=.seq ([]:aw av).toArray }).get? a=some o:=fM _ ho;have hs1:SAt (s.heap.push { cls:=.type "list",data:=.seq ([]:aw av).toArray }) a es ep t:=⟨o,g,hex.1,hd⟩;show wpAny _ A.in1 (Builtin.List.listExtendWith (.ref s.heap.objs.size) (.ref a) (.ref s.heap.objs.size)) _ _ _;unfold Builtin.List.listExtendWith;refine aS (wpAny_typeOf (T := "set") ⟨o,g,hex.1⟩ ?_);rw[cK (by rw[other];decide)];refine aS (ZD hs1 hf ok (by omega) fun I q its m d ne1 ne2 zI zq _ _ _ hp u st0=>?_);have ho2:=u _ _ g;have g2:=u _ _ g0;have f:Shared.TypeIs { s with heap:=m,drawn:=d } (.ref a) "set" := ⟨o,ho2,hex.1⟩;refine aS (cq ?_);unfold Builtin.List.listLengthHint;refine aS (wpAny_specialOf f qCW ?_)
 (generalize H:("set.__len__" : String)=x;(fail_if_success (clear H x));wp_delta;rw[show splitId x=some ("set","__len__") from by subst H;decide +kernel])
 refine aS (wpAny_isInstance (b:=true) f (by rw[isSubtype_type];kernel_rfl) ?_);subst H;show wpAny _ A.in1 (typeOf (.ref a) >>= _) _ _ _;refine aS (wpAny_typeOf f ?_);refine aT ?_;rw[cS (by decide)];refine aS (wpAny_rule (aS ?_));show wpAny _ A.in1 (updateSeq s.heap.objs.size (·.push .none) >>= fun _=>updateSeq s.heap.objs.size (·.pop)) _ _ _;refine aS (wpAny_updateSeq g2 rfl ?_);have g3:=cm (Obj.mapSeq (·.push Value.none)) g2 rfl;refine wpAny_updateSeq g3 rfl ?_;have g4:=cm (Obj.mapSeq (·.pop)) g3 rfl;have lS:s.heap.objs.size<m.objs.size:=gQ g2;have Ji:∀ b O,b≠s.heap.objs.size->m.get? b=some O->((m.update s.heap.objs.size (Obj.mapSeq (·.push Value.none))).update s.heap.objs.size (Obj.mapSeq (·.pop))).get? b=some O:=fun b O p e=>(ck _ _ (bE p)).trans ((ck _ _ (bE p)).trans e)
 have Z:s.heap.objs.size<I:=by
  have:(s.heap.push { cls:=.type "list",data:=.seq ([]:aw av).toArray }).objs.size<=I:=zI;rw[eT]at this;exact this
 have U:q≠s.heap.objs.size:=by
  rcases zq with e | z
  .rw[e];exact jQ C
  .have:(s.heap.push { cls:=.type "list",data:=.seq ([]:aw av).toArray }).objs.size<=q:=z;rw[eT]at this;exact iO this
 have VR:s.heap.objs.size∉[I,a,q]:=by
  simp only[List.mem_cons,List.not_mem_nil,or_false,not_or];exact⟨jQ Z,iO C,bE U⟩
 have W:=(Y0 (prog:=prog) (w:=w) (A:=A.in1) (its:=its) (ep:=ep) (by simp [hh]) ne1 ne2 hf).toS
 have L:its.length<=n:=by rw[hp.length_eq,bT,e7];exact hsz
 have P:=W.frame 0 { s with heap:=m,drawn:=d } ((m.update s.heap.objs.size (Obj.mapSeq (·.push Value.none))).update s.heap.objs.size (Obj.mapSeq (·.pop))) s.toks st0 (bD _) fun b p O e=>Ji b O (fun z=>VR (z▸p)) e;refine aT ⟨plainId_quiet F.plain_extend_loop _,codeAny_extend_loopS W (by rw[sizeLine_eq];omega) _ VR _ its.length 0 _ _ _ rfl (bo _) P g4 (ItemsOf.nil _) fun s' c _ y Y h=>?_⟩;show wpAny _ A (load s.heap.objs.size >>= _) _ _ s';refine aS (wpAny_load Y ?_)
 have ea:c.toList=its:=by
  apply ft;intro i
  by_cases hi:i<c.size
  .have e:=h.2 i c[i] (by simp [hi]);rw[e];simp [hi]
  .have h1:=h.1;rw[List.getElem?_eq_none (by simp;omega),fN (by omega)]
 have e1:s'.gens=s.gens:=y.gens;have e2:s'.drawn=d:=y.drawn;have e3:s'.os=s.os:=y.os;obtain⟨h',g',d',tk',os'⟩:=s';have e1':g'=s.gens:=e1;have e2':d'=d:=e2;have R:os'=s.os:=e3;subst e1' e2' R
 have X:∀ v∈its,∃ k j,v=Value.int k j:=fun v B=>by
  obtain⟨e,he,rfl⟩:=eX.mp (hp.mem_iff.mp B);obtain⟨⟨k,N,_⟩,_⟩:=hel e he;obtain⟨j,D⟩:=Value.isInt_shape (k:=k) (v:=e.2) N;exact⟨k,j,D⟩
 obtain⟨M,i1,i2,_⟩:=ints_of its X;refine aT ?_;rw[ea];refine G h' tk' d' its M i1 L (by omega) (fun k u=>?_) fun b O e=>?_
 .obtain⟨j,B⟩:=(i2 k).mp u;obtain⟨e,he,D⟩:=eX.mp (hp.mem_iff.mp B);exact r k ⟨e,he,by rw[D];exact intKind_is _ _ _ _⟩
 .have J:b<s.heap.objs.size:=gQ e;refine y.heap b O ?_ (Ji b O (jQ J) (u b O (fM _ e)));simp only[List.mem_cons,List.not_mem_nil,or_false,not_or];exact⟨jQ J,jQ (iL J Z)⟩
def YG{n:Nat}{Q:av->ae->Prop}(h:A.handled=none)(B:xX prog w s.heap a S n (j5 w))(r:n<64)
  (F:∀(f h':Heap)(T:Nat)(d:Drawn)(p:ar)(out:Array av)(ns:aw Int)(e:Nat),IntsAre out.toList ns->ns.length<=n->(∀ k∈ns,S k)->f.objs.size<=p->h'.get? p=some (seqObj "list" out e)->(∀ b o,s.heap.get? b=some o->f.get? b=some o)->(∀ b o,f.get? b=some o->h'.get? b=some o)->Q (.ref p) { s with heap:=h',toks:=T,drawn:=d }) :
  wpAny (model prog w) A (call (.builtin "sorted") [.ref a]) Q E s:=by refine Calls.call_function_entry kind_sorted plain_sorted entry_sorted (args_sorted1 _) ?_;unfold Builtin.«sorted»;refine aS (m:=checkCount "sorted" 1 1 _) (aT ?_);refine wpAny_bind (Wz (by first | exact h | simp [h]) B (by omega) fun f T d vs _ i _ L M j=>?_);refine aS (wpAny_newList ?_ (by rw[sizeLine_eq];omega));have g:(f.push (seqObj "list" vs.toArray 0)).get? f.objs.size=some (seqObj "list" vs.toArray 0):=qy _ rfl;refine aS (cq (wpAny_call_entry slot_list_sort ⟨_,g,rfl⟩ entry_list_sort (list_sort_tree (s:={ s with heap:=f.push (seqObj "list" vs.toArray 0),toks:=T,drawn:=d }) g i (by omega) fun out N a1 a2 _=>⟨_,rfl,?_⟩) (args_list_sort _)));obtain⟨e,H⟩:=sortedHeap_at (out:=out) g;refine aT ⟨_,rfl,F f _ T d f.objs.size out N e a1 (by rw[a2.length_eq];exact L) (fun k q=>M k (a2.mem_iff.mp q)) (bD _) H j fun b _ c=>?_⟩;have l:b<f.objs.size:=gQ c;rw[sortedHeap_old (jQ l) (by rw[eT];exact iE l)];exact fM _ c
end Sw
namespace L2
open PySem PySem.Spec PyProof.Rows
def tSQ(K:bV)(t:TA):TE:=fun σ H Q=>t σ H fun vs h => ∃(p:ar)(ns:aw Int),vs=[.ref p]/\aU K h p (ns.map V.int)/\ns.length<=63/\∀(q:ar)(r:aw Int),h q=none->r.length<=ns.length->(∀ k∈r,k∈ns)->Q (.ref q) (upd h q (.lst (r.map V.int)))
def BJ(l:X.calm=true)(Y:Gl X "sorted")(C:X.mg "sorted" = none)(f:Gl X "set")(m:X.mg "set" = none)(M:PA X [a] t)
  (W:starEach [a] X.env=[(false,eval a X.env)]:=by rfl) (c:starEach [.Call (.Name "set" p2) [a] [] pos2] X.env=[(false,eval (.Call (.Name "set" p2) [a] [] pos2) X.env)]:=by rfl) :
  PE X (.Call (.Name "sorted" p1) [.Call (.Name "set" p2) [a] [] pos2] [] pos) (tSQ X.K t):=by
 intro P s σ H Q I h;refine wpAny_Call_Name_kw (jm I Y C kg ?_);refine ki ?_ c rfl;rw[c];show wpAny _ _ (spliced ((false,eval (.Call (.Name "set" p2) [a] [] pos2) X.env)::[])) _ _ s;refine Calls.spliced_cons ?_;refine wpAny_Call_Name_kw (jm I f m PyProof.Rows.boot_set ?_);refine kn (bH (M pos2 P s σ H _ I h) fun _ S ⟨_,w,j,D,N⟩=>?_) W rfl;obtain⟨p,ns,rfl,y,_,q⟩:=N;obtain⟨u,rfl,Z⟩:=vals1 D
 cases Z
 obtain⟨its,E,pl,_⟩:=j.list y;have v:IntsAre its.toArray.toList ns:=intsAre_of E
 have r:its.toArray.size=ns.length:=by
  have:=v.length
  simpa using this
 refine Sw.X7 (j.ok.hd l) pl.isList v (by rw[r];show ns.length+1<4096;omega) fun h2 g B L=>Calls.spliced_nil ?_;rw[r]at B;have A:Inv X P σ w { S with heap:=h2,toks:=g }:=j.kept fun b o e=>L b o (gQ e) e;refine Sw.YG (A.ok.hd l) B (by omega) fun k x T d p' out R e O U F n G z i7=>?_;have J:Inv X P σ w { S with heap:=k,toks:=T,drawn:=d }:=(A.kept (h':=k) (t':=T) z).drew
 have i:x.get? p'=some { cls:=.type "list",data:=.seq out.toList.toArray e }:=by
  rw[G]
 exact⟨.ref p',_,J.laid (h':=x) (t':=T) (o:=.lst (R.map V.int)) i7 n ⟨by rw[bT];exact zJ (by omega),out.toList,e,jK O,i⟩,rfl,q p' R (J.hok.fresh n) U F⟩
end L2
namespace lN
open PySem L2
inductive Gd where
 | yes
 | is (b n:Int)
 | under (b n:Int)
 | inn (r:Int)
 | neg (g:Gd)
 | both (g h:Gd)
 | either (g h:Gd)
def Gd.ht:Gd->Nat
 | .yes=>1
 | .is _ _=>1
 | .under _ _=>1
 | .inn _=>1
 | .neg g=>g.ht+1
 | .both g h=>1+max g.ht h.ht
 | .either g h=>1+max g.ht h.ht
theorem Gd.Vv:∀ g:Gd,1<=g.ht
 | .yes=>bD _
 | .is _ _=>bD _
 | .under _ _=>bD _
 | .inn _=>bD _
 | .neg _=>iX (bo _)
 | .both _ _=>Nat.le_add_right _ _
 | .either _ _=>Nat.le_add_right _ _
def at0(bx:aw Int)(b:Int):Int:=bx.getD b.toNat 0
noncomputable def Gd.holds(o bx:aw Int):Gd->Bool
 | .yes=>true
 | .is b n=>decide (V.int (at0 bx b)=V.int n)
 | .under b n=>decide (at0 bx b<n)
 | .inn r=>inV (.int r) (o.map V.int)
 | .neg g => !(g.holds o bx)
 | .both g h=>g.holds o bx&&h.holds o bx
 | .either g h=>g.holds o bx||h.holds o bx
def Gd.ok(N:Nat):Gd->Prop
 | .yes=>True
 | .is b _=>0<=b/\b<(N:Int)
 | .under b _=>0<=b/\b<(N:Int)
 | .inn _=>True
 | .neg g=>g.ok N
 | .both g h=>g.ok N/\h.ok N
 | .either g h=>g.ok N/\h.ok N
def aB(H h:Hp):Prop:=∀ b xs,H b=some (.tup xs)->h b=some (.tup xs)
def aB.trans(a:aB H H1)(b:aB H1 H2):aB H H2:=fun c xs h=>b c xs (a c xs h)
def aB.of(s:aH H H'):aB H H':=fun b _ h=>s b _ h
def aB.lst(h:H p=some (.lst xs))(o:HO):aB H (upd H p o):=fun b _ e=>by
 rw[zR (gU e h (by intro z;cases z))];exact e
def aB.new(h:H p=none)(o:HO):aB H (upd H p o):=.of (zF h o)
def bW(h:H p=none)(s:aH H H')(o:HO):aH H (upd H' p o):=fun b u e=>by
 rw[zR (zN e h)];exact s b u e
inductive jH(H:Hp):V->Gd->Prop where
 | yes {a:Addr}:H a=some (.tup [.str "yes"])->jH H (.ref a) .yes
 | is {a:Addr} {b n:Int}:H a=some (.tup [.str "is",.int b,.int n])->jH H (.ref a) (.is b n)
 | under {a:Addr} {b n:Int}:H a=some (.tup [.str "under",.int b,.int n])->jH H (.ref a) (.under b n)
 | inn {a:Addr} {r:Int}:H a=some (.tup [.str "in",.int r])->jH H (.ref a) (.inn r)
 | neg {a:Addr} {v:V} {g:Gd}:H a=some (.tup [.str "not",v])->jH H v g->jH H (.ref a) (.neg g)
 | both {a:Addr} {v u:V} {g h:Gd}:H a=some (.tup [.str "both",v,u])->jH H v g->jH H u h->jH H (.ref a) (.both g h)
 | either {a:Addr} {v u:V} {g h:Gd}:H a=some (.tup [.str "either",v,u])->jH H v g->jH H u h->jH H (.ref a) (.either g h)
theorem jH.mono(x:jH H v g)(k:aB H H'):jH H' v g:=by
 induction x with
 | yes e=>exact .yes (k _ _ e)
 | is e=>exact .is (k _ _ e)
 | under e=>exact .under (k _ _ e)
 | inn e=>exact .inn (k _ _ e)
 | neg e _ i=>exact .neg (k _ _ e) i
 | both e _ _ i j=>exact .both (k _ _ e) i j
 | either e _ _ i j=>exact .either (k _ _ e) i j
def yO{x y:Str}{A B:Prop}(h:¬ x=y)(b:B):if decide (V.str x=V.str y)=true then A else B:=by
 rw[cK]
 .exact b
 .intro z;have a:=ba z;injection a with Z;exact h Z
def yP{x:Str}{A B:Prop}(a:A):if decide (V.str x=V.str x)=true then A else B:=by rw[cS (bq rfl)];exact a
def Bv{bx:aw Int}{b:Int}(c:0<=b)(f:b<(bx.length:Int)):mX (bx.map V.int) b=some (.int (at0 bx b)):=by
 have k:b.toNat<bx.length:=by lia
 have e:(bx.map V.int)[b.toNat]? = some (.int (at0 bx b)):=by
  rw[dZ,fQ k];unfold at0;rw[jT,fQ k];rfl
 have q:=yR e;rw[fe c]at q;exact q
def w5(o:aw Int):(o.map V.int).all oR=true:=by rw[ff];intro x h;obtain⟨n,_,rfl⟩:=eX.mp h;rfl
def Gd.lv:Gd->Nat
 | .neg g=>g.lv
 | .both g h=>g.lv+h.lv
 | .either g h=>g.lv+h.lv
 | _=>1
def Gd.inner:Gd->aw Gd
 | .neg g=>[g]
 | .both g h=>[g,h]
 | .either g h=>[g,h]
 | _=>[]
noncomputable def Gd.oX:Gd->aw Int
 | .is b _=>[b]
 | .under b _=>[b]
 | .neg g=>g.oX
 | .both g h=>g.oX++h.oX
 | .either g h=>g.oX++h.oX
 | _=>[]
def Gd.rms:Gd->aw Int
 | .inn r=>[r]
 | .neg g=>g.rms
 | .both g h=>g.rms++h.rms
 | .either g h=>g.rms++h.rms
 | _=>[]
def Gd.fit(g:Gd):Prop:=(∀ n∈g.oX,-1<=n/\n<((62:Nat):Int))/\∀ n∈g.rms,-1<=n/\n<((62:Nat):Int)
inductive Q5(H:Hp):List V->List Gd->Prop where
 | nil:Q5 H [] []
 | cons {v:V} {g:Gd} {vs:List V} {gs:List Gd}:jH H v g->Q5 H vs gs->Q5 H (v::vs) (g::gs)
end lN
namespace vB
open PySem L2 lN
structure Rm where
 nm:Str
 kind:Str
 depth:Int
 keeps:Str
 jn:Str
 ins:V
 outs:V
def XS(H:Hp)(v:V)(r:Rm):Prop:=∃ a:ar,v = .ref a/\H a=some (.tup [.str r.nm,.str r.kind,.int r.depth,.str r.keeps,.str r.jn,r.ins,r.outs])
inductive lB(H:Hp):List V->List Rm->Prop where
 | nil:lB H [] []
 | cons {v:V} {r:Rm} {vs:List V} {rs:List Rm}:XS H v r->lB H vs rs->lB H (v::vs) (r::rs)
def XS.mono(x:XS H v r)(k:aB H H'):XS H' v r:=by obtain⟨a,e,h⟩:=x;exact⟨a,e,k _ _ h⟩
theorem lB.mono(x:lB H vs rs)(k:aB H H'):lB H' vs rs:=by
 induction x with
 | nil=>exact .nil
 | cons h _ i=>exact .cons (h.mono k) i
theorem lB.length(x:lB H vs rs):vs.length=rs.length:=by
 induction x with
 | nil=>rfl
 | cons _ _ i=>rw[dG,dG,i]
theorem lB.get(x:lB H vs rs):∀ {k:Nat} {r:Rm},rs[k]? = some r->∃ v,vs[k]? = some v/\XS H v r:=by
 induction x with
 | nil=>intro k r h;simp at h
 | cons h _ i=>
  intro k r e
  cases k with
  | zero=>
   simp at e;subst e;exact⟨_,rfl,h⟩
  | succ k=>exact i (by simpa using e)
def dW(H:Hp)(t:ar)(r:aw Rm):Prop:=∃ vs,H t=some (.tup vs)/\lB H vs r
def dW.mono(x:dW H t rs)(k:aB H H'):dW H' t rs:=by obtain⟨vs,h,r⟩:=x;exact⟨vs,k _ _ h,r.mono k⟩
def aD(r:aw Rm):aw Int:=r.map (·.depth)
def yW(r:aw Rm):(aD r).length=r.length:=bT _
def jO(h:rs[k]? = some r):(aD rs).getD k 0=r.depth:=by unfold aD;rw[jT,dZ,h];rfl
def dW.at(x:dW H t rs)(h:k<rs.length):∃ vs a r,H t=some (.tup vs)/\vs.length=rs.length/\rs[k]? = some r/\mX vs ((k:Nat):Int)=some (.ref a)/\H a=some (.tup [.str r.nm,.str r.kind,.int r.depth,.str r.keeps,.str r.jn,r.ins,r.outs]):=by obtain⟨vs,b,g⟩:=x;have e:=fQ h;obtain⟨v,f,a,rfl,q⟩:=g.get e;exact⟨vs,a,rs[k],b,g.length,e,yR f,q⟩
def Fit(R:aw Rm):Prop:=∀(k:Nat)(r:Rm),R[k]? = some r->if k+1<R.length/\(aD R).getD k 0<(aD R).getD (k+1) 0 then (r.kind = "one" ∨ r.kind = "all") else r.kind = "plain"
end vB
namespace xM
open PySem L2 lN
inductive Dd where
 | say (w:Str)
 | set (b n:Int)
 | add (b n:Int)
 | send (e:Int)
inductive sO(H:Hp):V->Dd->Prop where
 | say {a:Addr} {w:Str}:H a=some (.tup [.str "say",.str w])->sO H (.ref a) (.say w)
 | set {a:Addr} {b n:Int}:H a=some (.tup [.str "set",.int b,.int n])->sO H (.ref a) (.set b n)
 | add {a:Addr} {b n:Int}:H a=some (.tup [.str "add",.int b,.int n])->sO H (.ref a) (.add b n)
 | send {a:Addr} {e:Int}:H a=some (.tup [.str "send",.int e])->sO H (.ref a) (.send e)
theorem sO.mono(x:sO H v d)(k:aB H H'):sO H' v d:=by
 cases x with
 | say e=>exact .say (k _ _ e)
 | set e=>exact .set (k _ _ e)
 | add e=>exact .add (k _ _ e)
 | send e=>exact .send (k _ _ e)
noncomputable def Dd.upd(sz bx:aw Int):Dd->aw Int
 | .set b n=>bx.set b.toNat n
 | .add b n=>bx.set b.toNat ((at0 bx b+n)%at0 sz b)
 | _=>bx
def Dd.box:Dd->aE Int
 | .set b _=>some b
 | .add b _=>some b
 | _=>none
def Dd.ok(N:Nat)(d:Dd):Prop:=∀ b,d.box=some b->0<=b/\b<(N:Int)
def Dd.NT(sz bx:aw Int)(d:Dd):(d.upd sz bx).length=bx.length:=by cases d <;> simp [Dd.upd]
def Zx(c:0<=b)(f:b<(xs.length:Int)):at0 xs b∈xs:=by
 unfold at0
 have k:b.toNat<xs.length:=by lia
 rw[jT,fQ k];exact lQ k
inductive Dm(vs:List V)(H:Hp)(Q:VK)(E_:XK):Prop
 | mk (vd tb ts d bx sz) (_:vs=[vd,.ref tb,.ref ts]) (_:sO H vd d) (_:H tb=some (.tup (bx.map V.int))) (_:H ts=some (.tup (sz.map V.int))) (_:d.ok bx.length) (_:bx.length=sz.length) (_:bx.length<=6) (_:(∀ z∈sz,0<z)) (_:∀ t H',aH H H'->H' t=some (.tup ((d.upd sz bx).map V.int))->Q (.ref t) H')
end xM
namespace Q3
open PySem L2 lN
abbrev LA:=Hp->ar->aw ar->Nat->aw Int->Prop
structure qJA(C:Addr)(L:LA):Prop where
 keep:∀ {H H':Hp} {p:Addr} {fp:List Addr} {m:Nat} {l:List Int},L H p fp m l->(∀ b∈fp,∀ o,H b=some o->H' b=some o)->L H' p fp m l
 there:∀ {H:Hp} {p:Addr} {fp:List Addr} {m:Nat} {l:List Int},L H p fp m l->∀ b∈fp,H b≠none
 obj:∀ {H:Hp} {p:Addr} {fp:List Addr} {m:Nat} {l:List Int},L H p fp m l->∃ dx fs,H p=some (.ins C dx fs)/\fs.lookup ("add" : Str)=none/\fs.lookup ("taken" : Str)=none/\fs.lookup ("waiting" : Str)=none
structure bc(H H':Hp)(fp fp':List Addr):Prop where
 own:∀ b∈fp',b∈fp∨H b=none
 rest:∀ b o,H b=some o->b∉fp->H' b=some o
def added(m:Nat)(l:aw Int)(e:Int):aw Int:=if l.length<m then l++[e] else l
def S6(h:l.length<=m):(added m l e).length<=m:=by
 unfold added
 split
 .rw[j8,vG];lia
 .exact h
def first:aw Int->V
 | []=>.non
 | e::_=>.int e
inductive Kv(C:Addr)(L:LA)(vs:List V)(H:Hp)(Q:VK)(E_:XK):Prop
 | mk (p dx:Addr) (m:Nat) (_:vs=[.ref p,.int (m:Int)]) (_:H p=some (.ins C dx [])) (_:m<=12) (_:∀(fp:List Addr)(H':Hp),L H' p fp m []->(∀ b∈fp,b=p∨H b=none)->(∀ b o,H b=some o->b≠p->H' b=some o)->Q .non H')
inductive qAG(L:LA)(vs:List V)(H:Hp)(Q:VK)(E_:XK):Prop
 | mk (p fp m l e) (_:vs=[.ref p,.int e]) (_:L H p fp m l) (_:l.length<=m) (_:m<=12) (_:∀ fp' H',L H' p fp' m (added m l e)->bc H H' fp fp'->Q (.bl (decide (l.length<m))) H')
inductive Ng(L:LA)(vs:List V)(H:Hp)(Q:VK)(E_:XK):Prop
 | mk (p fp m l) (_:vs=[.ref p]) (_:L H p fp m l) (_:l.length<=m) (_:m<=12) (_:∀ fp' H',L H' p fp' m l.tail->bc H H' fp fp'->Q (first l) H')
inductive Di(L:LA)(vs:List V)(H:Hp)(Q:VK)(E_:XK):Prop
 | mk (p fp m l) (_:vs=[.ref p]) (_:L H p fp m l) (_:l.length<=m) (_:m<=12) (_:∀ q fp' H',L H' p fp' m l->bc H H' fp fp'->H q=none->q∉fp'->H' q=some (.lst (l.map V.int))->Q (.ref q) H')
end Q3
namespace xM
open PySem L2 lN Q3
inductive Rc where
 | say (w:Str)
 | put (b v:Int)
 | send (e:Int)
 | lost (e:Int)
noncomputable def Rc.row:Rc->aw V
 | .say w=>[.str "say",.str w]
 | .put b v=>[.str "put",.int b,.int v]
 | .send e=>[.str "send",.int e]
 | .lost e=>[.str "lost",.int e]
inductive ju(H:Hp):List V->List Rc->Prop where
 | nil:ju H [] []
 | cons {a:Addr} {r:Rc} {vs:List V} {rs:List Rc}:H a=some (.tup r.row)->ju H vs rs->ju H (.ref a::vs) (r::rs)
theorem ju.mono(x:ju H vs rs)(k:aB H H'):ju H' vs rs:=by
 induction x with
 | nil=>exact .nil
 | cons h _ i=>exact .cons (k _ _ h) i
theorem ju.length(x:ju H vs rs):vs.length=rs.length:=by
 induction x with
 | nil=>rfl
 | cons _ _ i=>rw[dG,dG,i]
theorem ju.snoc(x:ju H vs rs)(y:H a=some (.tup r.row)):ju H (vs++[.ref a]) (rs++[r]):=by
 induction x with
 | nil=>exact .cons y .nil
 | cons h _ i=>exact .cons h i
inductive il(H:Hp):List V->List Dd->Prop where
 | nil:il H [] []
 | cons {v:V} {d:Dd} {vs:List V} {ds:List Dd}:sO H v d->il H vs ds->il H (v::vs) (d::ds)
theorem il.mono(x:il H vs ds)(k:aB H H'):il H' vs ds:=by
 induction x with
 | nil=>exact .nil
 | cons h _ i=>exact .cons (h.mono k) i
theorem il.length(x:il H vs ds):vs.length=ds.length:=by
 induction x with
 | nil=>rfl
 | cons _ _ i=>rw[dG,dG,i]
theorem il.snoc(x:il H vs ds)(y:sO H v d):il H (vs++[v]) (ds++[d]):=by
 induction x with
 | nil=>exact .cons y .nil
 | cons h _ i=>exact .cons h i
theorem il.get(x:il H vs ds):∀ {k:Nat} {v:V},vs[k]? = some v->∃ d,ds[k]? = some d/\sO H v d:=by
 induction x with
 | nil=>intro k v h;simp at h
 | cons h _ i=>
  intro k v e
  cases k with
  | zero=>
   simp at e;subst e;exact⟨_,rfl,h⟩
  | succ k=>exact i (by simpa using e)
def Dd.lin(m:Nat)(l:aw Int):Dd->aw Int
 | .send e=>added m l e
 | _=>l
noncomputable def Dd.rc(sz:aw Int)(m:Nat)(bx l:aw Int):Dd->Rc
 | .say w=>.say w
 | .set b n=>.put b (at0 ((Dd.set b n).upd sz bx) b)
 | .add b n=>.put b (at0 ((Dd.add b n).upd sz bx) b)
 | .send e=>if l.length<m then .send e else .lost e
def Ao(sz:aw Int):aw Dd->aw Int->aw Int
 | [],bx=>bx
 | d::D,bx=>Ao sz D (d.upd sz bx)
def Cg(m:Nat):aw Dd->aw Int->aw Int
 | [],l=>l
 | d::D,l=>Cg m D (d.lin m l)
noncomputable def xP(sz:aw Int)(m:Nat):aw Dd->aw Int->aw Int->aw Rc
 | [],_,_=>[]
 | d::D,bx,l=>d.rc sz m bx l::xP sz m D (d.upd sz bx) (d.lin m l)
theorem Dw(sz:aw Int)(d:Dd):∀ D bx,Ao sz (D++[d]) bx=d.upd sz (Ao sz D bx)
 | [],bx=>rfl
 | x::D,bx=>Dw sz d D _
theorem Dv(m:Nat)(d:Dd):∀ D l,Cg m (D++[d]) l=d.lin m (Cg m D l)
 | [],l=>rfl
 | x::D,l=>Dv m d D _
theorem Du(sz:aw Int)(m:Nat)(d:Dd):∀ D bx l,xP sz m (D++[d]) bx l=xP sz m D bx l++[d.rc sz m (Ao sz D bx) (Cg m D l)]
 | [],bx,l=>rfl
 | x::D,bx,l=>by
  show _::xP sz m (D++[d]) _ _=_::(xP sz m D _ _++_);rw[Du sz m d D];rfl
theorem An(sz:aw Int):∀ D bx,(Ao sz D bx).length=bx.length
 | [],bx=>rfl
 | d::D,bx=>by
  show (Ao sz D (d.upd sz bx)).length=_;rw[An sz D,d.NT]
theorem Am:∀ D l,l.length<=m->(Cg m D l).length<=m
 | [],l,h=>h
 | d::D,l,h=>by
  refine Am D _ ?_
  cases d with
  | send e=>exact S6 h
  | _=>exact h
theorem uG(sz:aw Int)(m:Nat):∀ D bx l,(xP sz m D bx l).length=D.length
 | [],_,_=>rfl
 | d::D,bx,l=>by
  show (xP sz m D _ _).length+1=D.length+1;rw[uG sz m D]
def Bm(f:aw ar)(H:Hp):Hp:=fun b=>if b∈f then none else H b
def qe(h:Bm fp H b=some o):H b=some o/\b∉fp:=by
 unfold Bm at h
 split at h
 .cases h
 .exact⟨h,by assumption⟩
def ud(h:H b=some o)(n:b∉fp):Bm fp H b=some o:=by unfold Bm;rw[cK n];exact h
def Pg(h:b∈fp):Bm fp H b=none:=by unfold Bm;rw[cS h]
inductive Tp(L:LA)(vs:List V)(H:Hp)(Q:VK)(E_:XK):Prop
 | mk (td tb ts p ds bx sz l dv fp m G) (_:vs=[.ref td,.ref tb,.ref ts,.ref p]) (_:aH G H) (_:(∀ b∈fp,G b=none)) (_:G td=some (.tup dv)) (_:il G dv ds) (_:G tb=some (.tup (bx.map V.int))) (_:G ts=some (.tup (sz.map V.int))) (_:L H p fp m l) (_:(∀ d∈ds,d.ok bx.length)) (_:ds.length<=8) (_:bx.length=sz.length) (_:bx.length<=6) (_:(∀ z∈sz,0<z)) (_:l.length<=m) (_:m<=12) (_:∀ t tb' pr rv fp' H',L H' p fp' m (Cg m ds l)->bc H H' fp fp'->H' t=some (.tup [.ref tb',.ref pr])->H' tb'=some (.tup ((Ao sz ds bx).map V.int))->tb'∉fp'->H' pr=some (.lst rv)->H pr=none->ju H' rv (xP sz m ds bx l)->Q (.ref t) H')
end xM
namespace L2
open PySem
def qEV(f:PE X (.UnaryOp o e p) te)(g:PA X es t):PA X (.UnaryOp o e p::es) (TQ te t):=zA f g rfl
def qKC(f:PE X (.BinOp a o b p) te)(g:PA X es t):PA X (.BinOp a o b p::es) (TQ te t):=zA f g rfl
end L2
namespace L2
open PySem PySem.Spec PyProof.Rows
def qE6(p p':Int->Int->Bool)(c T t:TE):TE:=fun σ H Q=>c σ H fun x b=>T σ b fun y h => ∃ i j k,x = .int i/\y = .int j/\t σ h (fun z a=>z = .int k/\a=h)/\Q (.bl (p i j&&p' j k)) h
theorem rR(N:lJ X (compareOp O) (Le fun i j=>.bl (p i j)))(f:lJ X (compareOp o) (Le fun i j=>.bl (p' i j)))(G:PE X a ta)(B:PE X b tb)(m:PE X c T)
  (A:lastMarks [O,o] [b,c]=false:=by with_unfolding_all rfl):PE X (.Compare a [O,o] [b,c] C) (qE6 p p' ta tb T):=by
 intro P s σ H Q I h;refine Compare_chain (bH (G P s σ H _ I h) fun v M ⟨x,Z,U,D,J⟩=>chain_link (bH (B P M σ Z _ U J) fun u S ⟨y,l,I2,r,t⟩=>?_)) A;obtain⟨i,j,k,rfl,rfl,tq,q⟩:=t;refine bH (N P S σ l _ _ v u (fun z g=>z = .bl (p i j)/\g=l) I2 D r ⟨i,j,rfl,rfl,rfl,rfl⟩) fun d s3 ⟨z,g,n,R,E,L⟩=>?_;subst E L
 cases R
 refine wpAny_truthy_bool ?_
 cases e:p i j with
 | false=>
  rw[e,eL]at q;exact ite_ff ⟨.bl false,_,n,rfl,q⟩
 | true=>
  rw[e,eR]at q
  exact ite_tt (chain_last (bH (m P s3 σ _ _ n tq) fun w' w ⟨_,_,I4,W,F,Y⟩=>by
   subst F Y
   exact f P w σ _ _ _ u w' Q I4 r W ⟨j,k,rfl,rfl,q⟩))
theorem Av(Z:lJ X (compareOp O) (Le fun i j=>.bl (p i j)))(f:lJ X (compareOp o) (Le fun i j=>.bl (p' i j)))(N:PE X a ta)(F:PE X b tb)(t:PE X c T)
  (C:lastMarks [O,o] [b,c]=false:=by with_unfolding_all rfl):PT X (.Compare a [O,o] [b,c] G) (qAA (qE6 p p' ta tb T)):=by
 intro P s σ H Q I h;refine isTrue_chain (bH (N P s σ H _ I h) fun v U ⟨x,H1,I1,J,Y⟩=>test_link (bH (F P U σ H1 _ I1 Y) fun u S ⟨y,l,I2,r,w⟩=>?_)) C;obtain⟨i,j,k,rfl,rfl,tq,_,M,q⟩:=w
 cases M
 refine bH (Z P S σ l _ _ v u (fun z g=>z = .bl (p i j)/\g=l) I2 J r ⟨i,j,rfl,rfl,rfl,rfl⟩) fun d s3 ⟨z,g,n,R,E,W⟩=>?_;subst E W
 cases R
 refine wpAny_truthy_bool ?_
 cases e:p i j with
 | false=>
  rw[e,eL]at q;exact ite_ff ⟨_,n,q⟩
 | true=>
  rw[e,eR]at q;refine ite_tt (test_last (bH (t P s3 σ _ _ n tq) fun w' A ⟨_,B,I4,r4,L,e4⟩=>?_));subst L e4;refine bH (f P A σ _ _ _ u w' (fun z m=>z = .bl (p' j k)/\m=B) I4 r r4 ⟨j,k,rfl,rfl,rfl,rfl⟩) fun _ _ ⟨_,m,I5,r5,D,e6⟩=>?_;subst D e6
  cases r5
  exact wpAny_truthy_bool ⟨_,I5,q⟩
theorem fO{c:Bool}{A B:Prop}(f:c=true->A)(q:c=false->B):if c=true then A else B:=by
 cases c with
 | true=>
  rw[cS rfl];exact f rfl
 | false=>
  rw[cK rA];exact q rfl
def ZG(z:Str)(zs:aw Str):inV (.str z) (zs.map V.str)=zs.contains z:=by
 unfold inV;rw[fk,List.contains_eq_any_beq];congr 1
 funext y
 rw[eK];exact⟨fun h=>by rw[eq_of_beq h];exact dE z,fun h=>by rw[eq_of_beq h];exact dE y⟩
def QH(zs:aw Str):(zs.map V.str).all oR=true:=by rw[ff];intro x h;obtain⟨n,_,rfl⟩:=eX.mp h;rfl
def aH.qK2{K:bV}{H b:Hp}{a:ar}{xs:aw V}(e:aH H b)(h:aJ K H a xs):aJ K b a xs:=by
 rcases h with (h | ⟨o,h⟩) | h
 .exact .inl (.inl (e _ _ h))
 .exact .inl (.inr ⟨o,e _ _ h⟩)
 .exact .inr h
def vW:fillsNumberSlot (.type "tuple") "mul" = pure false:=
 PySem.fillsNumberSlot_seq F.slot_tuple_mul.lookup (by decide +kernel) F.slot_tuple_rmul.lookup (by decide +kernel)
def GF:seqRepeat? (.type "tuple")=pure (some (.builtin "tuple.__mul__")):=by unfold seqRepeat?;rw[PySem.seqSlot_of (T := "tuple") (name := "__mul__") (id := "tuple.__mul__") F.slot_tuple_mul.lookup (by decide +kernel),PySem.seqSlot_of (T := "tuple") (name := "__rmul__") (id := "tuple.__rmul__") F.slot_tuple_rmul.lookup (by decide +kernel)];rfl
def Lb(a:Int)(t:Tok)(l:ar)(items:Array av)(n:Nat)(D:aE ar)(S:Array (aE av)) :
  Meets (Builtin.«int.__rmul__» ⟨[.int a t,.ref l],[]⟩) (fun _ R s=>s.heap.get? l=some { cls:=.type "tuple",dict:=D,data:=.seq items n,slots:=S }/\R (.ok (.ret Value.notImplemented)) s):=
 .of_wp fun _ w A R s h=>by obtain⟨_,g,d,_,_⟩:=s;obtain⟨_,h⟩:=h;wp_walk;exact⟨_,rfl,h⟩
def TF(l:ar)(items:Array av)(n:Nat)(D:aE ar)(S:Array (aE av))(x:Int)(u:Tok)(H:x=1) :
  Meets (Builtin.«tuple.__mul__» ⟨[.ref l,.int x u],[]⟩) (fun _ R s=>s.heap.get? l=some { cls:=.type "tuple",dict:=D,data:=.seq items n,slots:=S }/\R (.ok (.ret (Value.ref l))) { s with heap:=s.heap,toks:=s.toks }):=
 .of_wp fun _ w A R s h=>by
  subst H;obtain⟨_,g,d,_,_⟩:=s;obtain⟨a,h⟩:=h;have y:=AutoSeq1.idx_int
  wp_walk using wpAny_loadPart' a
  exact⟨_,rfl,h⟩
def T9(l:ar)(items:Array av)(n:Nat)(D:aE ar)(S:Array (aE av))(x:Int)(u:Tok)(q:2<=x)(c:¬ items.isEmpty=true)(j:items.size*x<=(sizeLine:Int))(i:((List.replicate x.toNat items).foldl (· ++ ·) #[]).size<=sizeLine) :
  Meets (Builtin.«tuple.__mul__» ⟨[.ref l,.int x u],[]⟩) (fun _ R s=>s.heap.get? l=some { cls:=.type "tuple",dict:=D,data:=.seq items n,slots:=S }/\R (.ok (.ret (Value.ref s.heap.objs.size))) { s with heap:=s.heap.push { cls:=Value.type "tuple",data:=Data.seq ((List.replicate x.toNat items).foldl (· ++ ·) #[]) },toks:=s.toks }):=
 .of_wp fun _ w A R s h=>by
  obtain⟨_,g,d,_,_⟩:=s;obtain⟨H,h⟩:=h;have y:=AutoSeq1.idx_int
  have a:1<=items.size:=by
   refine Nat.pos_of_ne_zero fun z=>c ?_;rw[Array.isEmpty_iff];exact Array.eq_empty_of_size_eq_zero z
  have b:x<=(sizeLine:Int):=by
   have:(1:Int)*x<=items.size*x:=Int.mul_le_mul_of_nonneg_right (by lia) (by lia);lia
  have E:(sizeLine:Int)<2 ^ 62:=by decide
  have r:¬ (decide (x < -(2 ^ 63))||decide (x≥2 ^ 63))=true:=by
   rw[bp (by lia),bp (by lia)];decide
  have e:¬ (items.isEmpty||x==1)=true:=by
   intro z;rcases Bool.or_eq_true_iff.mp z with z | z
   .exact c z
   .have:=eq_of_beq z;lia
  have f:¬ (decide (x<=0)||items.isEmpty)=true:=by
   intro z;rcases Bool.or_eq_true_iff.mp z with z | z
   .have:=ba z;lia
   .exact c z
  have k:(sizeLine:Int)<(2 ^ 63-1)/8:=by decide
  have C:¬ ((items.size:Int)*x>(2 ^ 63-1)/8):=by lia
  have m:¬ Builtin.Tuple.tupleTooMany ((items.size:Int)*x)=true:=by
   unfold Builtin.Tuple.tupleTooMany;intro z;have:=ba z;lia
  wp_walk using wpAny_loadPart' H
  refine wpAny_ite_false (bp r) ?_
  wp_walk using wpAny_loadPart' H
  refine wpAny_ite_false (bp e) ?_
  wp_walk using wpAny_loadPart' H
  refine wpAny_ite_false (bp f) ?_
  wp_walk using wpAny_loadPart' H
  refine wpAny_ite_false (bp C) ?_
  wp_walk using wpAny_loadPart' H
  exact⟨_,rfl,h⟩
def qEP(K:bV):R2:=fun x y H Q => ∃ a k xs,x = .ref a/\y = .int k/\aJ K H a xs/\xs≠[]/\1<=k/\xs.length*k<=(sizeLine:Int)/\(k=1->Q (.ref a) H)/\(2<=k->∀ p,H p=none->Q (.ref p) (upd H p (.tup (List.replicate k.toNat xs).flatten)))
def Ys:lJ X (binaryOp .Mult) (qEP X.K):=by
 intro _ s σ H x y v u Q I R G h;obtain⟨a,k,xs,rfl,rfl,C,c,_,A,B,w⟩:=h
 cases R
 obtain⟨t,rfl⟩:=G;obtain⟨its,r,P,_⟩:=I.tuple C;have f:=r.length;have i:its≠[]:=fun z=>c (r.uM.mp z);obtain⟨⟨_,D,_,S⟩,o,d,n,hd⟩:=id P;simp only at d hd;subst d hd
 have f0:∀ m:Nat,List.foldl (fun p E=>p++E) #[] (List.replicate m its.toArray)=(List.replicate m its).flatten.toArray:=fun m=>by
  have:=foldl_rep its m [];rw[List.nil_append]at this;exact this
 have l:(List.replicate k.toNat xs).flatten.length<=sizeLine:=by
  rw[len_rep]
  have e:((k.toNat*xs.length:Nat):Int)=xs.length*k:=by
   rw[Int.natCast_mul,fe (by lia),Int.mul_comm]
  lia
 refine wpAny_binaryOp_repeat_ref (by decide) ⟨_,o,rfl⟩ (fun s'=>typeIs_int s' k t) vW F.fills_int_mul F.slot_int_rmul GF F.slot_int_index.lookup
  (call_meets F.slot_int_rmul (typeIs_int s k t) F.entry_int_rmul (F.args_int_rmul_2 _ _) (Lb k t a its.toArray n D S) ⟨o,rfl,⟨_,o,rfl⟩,?_⟩)
 by_cases g:k=1
 .exact call_meets F.slot_tuple_mul ⟨_,o,rfl⟩ F.entry_tuple_mul (F.args_tuple_mul_2 _ _) (TF a its.toArray n D S k t g) ⟨o,⟨.ref a,H,I,rfl,B g⟩⟩
 .have j:2<=k:=by lia
  refine call_meets F.slot_tuple_mul ⟨_,o,rfl⟩ F.entry_tuple_mul (F.args_tuple_mul_2 _ _) (T9 a its.toArray n D S k t j (by simpa using i) (by rw[List.size_toArray,<-f];exact A) ?_) ⟨o,?_⟩
  .rw[f0,CV,len_rep,<-f,<-len_rep];exact l
  .rw[f0];refine⟨.ref s.heap.objs.size,_,I.laid (fun b _ q=>fM _ q) (bD _) ?_,rfl,w j _ (I.hok.fresh (bD _))⟩;exact⟨l,_,r.rep k.toNat,IsTup.new _ _⟩
end L2
namespace Wds
open PySem L2
abbrev alpha:Str := "abcdefghijklmnopqrstuvwxyz"
def inA(c:Nat):Bool:=!(Builtin.Str.occurrences alpha ⟨#[c]⟩ 0 alpha.length 1).isEmpty
noncomputable def isW(z:Str):Bool:=(decide ((1:Int)<=(z.length:Int))&&decide ((z.length:Int)<=12))&&(z.cps.toList.map inA).all id
def zp:Sp:=fun vs H Q _ => ∃ z:Str,vs=[.str z]/\z.length<=1000/\∀ h:Hp,aH H h->Q (.bl (isW z)) h
end Wds
namespace gW
open PySem L2 lN xM Wds
inductive eQ{α:Type}(R:V->α->Prop):List V->List α->Prop where
 | nil:eQ R [] []
 | cons {v:V} {x:α} {vs:List V} {xs:List α}:R v x->eQ R vs xs->eQ R (v::vs) (x::xs)
theorem eQ.imp(x:eQ R vs xs)(k:∀ v a,R v a->R' v a):eQ R' vs xs:=by
 induction x with
 | nil=>exact .nil
 | cons h _ i=>exact .cons (k _ _ h) i
theorem eQ.length(x:eQ R vs xs):vs.length=xs.length:=by
 induction x with
 | nil=>rfl
 | cons _ _ i=>rw[dG,dG,i]
theorem eQ.append(x:eQ R vs xs)(y:eQ R us ys):eQ R (vs++us) (xs++ys):=by
 induction x with
 | nil=>exact y
 | cons h _ i=>exact .cons h i
def eQ.snoc(x:eQ R vs xs)(y:R v a):eQ R (vs++[v]) (xs++[a]):=x.append (.cons y .nil)
theorem eQ.get{R:V->α->Prop}{vs:aw V}{xs:aw α}(x:eQ R vs xs):∀ {k:Nat} {a:α},xs[k]? = some a->∃ v,vs[k]? = some v/\R v a:=by
 induction x with
 | nil=>intro k a h;simp at h
 | cons h _ i=>
  intro k a e
  cases k with
  | zero=>
   simp at e;subst e;exact⟨_,rfl,h⟩
  | succ k=>exact i (by simpa using e)
theorem eQ.take(x:eQ R vs xs):∀ k:Nat,eQ R (vs.take k) (xs.take k):=by
 induction x with
 | nil=>intro k;rw[List.take_nil,List.take_nil];exact .nil
 | cons h _ i=>
  intro k
  cases k with
  | zero=>exact .nil
  | succ k=>exact .cons h (i k)
abbrev Ft:=Str×Int
def qM1(H:Hp)(v:V)(f:Ft):Prop:=∃ a:ar,v = .ref a/\H a=some (.tup [.str f.1,.int f.2])
abbrev qB1(H:Hp):aw V->aw Ft->Prop:=eQ (qM1 H)
structure Bx where
 nm:Str
 size:Int
 start:Int
def Hk(H:Hp)(v:V)(b:Bx):Prop:=∃ a:ar,v = .ref a/\H a=some (.tup [.str b.nm,.int b.size,.int b.start])
abbrev gP(H:Hp):aw V->aw Bx->Prop:=eQ (Hk H)
def gP.mono(x:gP H vs bs)(k:aB H H'):gP H' vs bs:=x.imp fun _ _ ⟨a,e,h⟩=>⟨a,e,k _ _ h⟩
structure Ro where
 nm:Str
 kind:Str
 depth:Int
 keeps:Str
 jn:Str
 ins:List Dd
 outs:List Dd
def HS(H:Hp)(v:V)(d:aw Dd):Prop:=∃(a:ar)(Y:aw V),v = .ref a/\H a=some (.tup Y)/\eQ (sO H) Y d
def HS.mono(x:HS H v ds)(k:aB H H'):HS H' v ds:=by obtain⟨a,Y,e,h,y⟩:=x;exact⟨a,Y,e,k _ _ h,y.imp fun _ _ z=>z.mono k⟩
def qA0(H:Hp)(v:V)(r:Ro):Prop:=∃(a:ar)(i o:V),v = .ref a/\H a=some (.tup [.str r.nm,.str r.kind,.int r.depth,.str r.keeps,.str r.jn,i,o])/\HS H i r.ins/\HS H o r.outs
abbrev cL(H:Hp):aw V->aw Ro->Prop:=eQ (qA0 H)
def cL.mono(x:cL H vs rs)(k:aB H H'):cL H' vs rs:=x.imp fun _ _ ⟨a,i,o,e,h,y,z⟩=>⟨a,i,o,e,k _ _ h,y.mono k,z.mono k⟩
structure Dr where
 room:Int
 event:Int
 guard:Gd
 pZ:List Dd
 way:Str
 goal:Option Int
def gv:aE Int->V
 | none=>.non
 | some i=>.int i
def qJK(H:Hp)(v:V)(d:Dr):Prop:=∃(a:ar)(g b:V),v = .ref a/\H a=some (.tup [.int d.room,.int d.event,g,b,.str d.way,gv d.goal])/\jH H g d.guard/\HS H b d.pZ
abbrev jx(H:Hp):aw V->aw Dr->Prop:=eQ (qJK H)
def jx.mono(x:jx H vs ds)(k:aB H H'):jx H' vs ds:=x.imp fun _ _ ⟨a,i,o,e,h,y,z⟩=>⟨a,i,o,e,k _ _ h,y.mono k,z.mono k⟩
structure Ch where
 order:Str
 letters:Int
 turns:Int
 oX:List Bx
 evs:List Str
 rooms:List Ro
 mV:List Dr
def jJ(H:Hp)(t:ar)(c:Ch):Prop:=∃(T e r d:ar)(b R Y:aw V),H t=some (.tup [.str c.order,.int c.letters,.int c.turns,.ref T,.ref e,.ref r,.ref d])/\H T=some (.tup b)/\gP H b c.oX/\H e=some (.tup (c.evs.map V.str))/\H r=some (.tup R)/\cL H R c.rooms/\H d=some (.tup Y)/\jx H Y c.mV
def jJ.mono(x:jJ H t c)(k:aB H H'):jJ H' t c:=by obtain⟨T,e,r,d,b,R,Y,a1,a2,a3,a4,a5,a6,a7,a8⟩:=x;exact⟨T,e,r,d,b,R,Y,k _ _ a1,k _ _ a2,gP.mono a3 k,k _ _ a4,k _ _ a5,cL.mono a6 k,k _ _ a7,jx.mono a8 k⟩
abbrev big:Int:=10 ^ 30
def within(lo i n:Int):Bool:=decide (lo<=n)&&decide (n<=i)
def numOf(n:Nat)(i:Int):Bool:=decide (0<=i)&&decide (i<(n:Int))
def marks(nm:Str)(n:Nat)(b:Nat->Bool):aw Ft:=((List.range n).filter b).map fun k:Nat=>(nm,(k:Int))
def one(nm:Str)(b:Bool):aw Ft:=if b then [(nm,0)] else []
noncomputable def Zr(bs:aw Bx)(ne:Nat):Dd->Bool
 | .say w => !isW w
 | .send e => !numOf ne e
 | .set b n => !numOf bs.length b||!(decide (0<=n)&&decide (n<(bs.map (·.size)).getD b.toNat 0))
 | .add b n => !numOf bs.length b||!within (-big) big n
def Bt(bs:aw Bx)(ne:Nat)(d:aw Dd):Bool:=decide (8<d.length)||d.any (Zr bs ne)
noncomputable def qIL(bs:aw Bx)(k:Nat):Bool:=match bs[k]? with
 | none=>false
 | some b => !isW b.nm||((bs.take k).map (·.nm)).contains b.nm||!within 1 big b.size||!(decide (0<=b.start)&&decide (b.start<b.size))
noncomputable def qIJ(E:aw Str)(k:Nat):Bool:=match E[k]? with
 | none=>false
 | some e => !isW e||(E.take k).contains e
def deeper(R:aw Ro)(k:Nat)(d:Int):Bool:=match R[k+1]? with
 | none=>false
 | some r=>decide (d<r.depth)
noncomputable def XF(R:aw Ro)(k:Nat)(r:Ro):Bool:=
 !([("plain" : Str),"one","all"].contains r.kind)||(deeper R k r.depth==decide (r.kind = "plain")) ||
 (if k=0 then decide (r.depth≠0) else !within 1 (min 12 ((R.map (·.depth)).getD (k-1) 0+1)) r.depth)
noncomputable def XH(r:Ro):Bool:=!([("" : Str),"near","deep"].contains r.keeps)||(decide (r.keeps = "near")&&!decide (r.kind = "one"))||(decide (r.keeps = "deep")&&decide (r.kind = "plain"))
noncomputable def qII(bs:aw Bx)(ne:Nat)(R:aw Ro)(k:Nat):Bool:=match R[k]? with
 | none=>false
 | some r => !isW r.nm||((R.take k).map (·.nm)).contains r.nm||XF R k r||XH r||(!decide (r.jn = "")&&!isW r.jn)||Bt bs ne r.ins||Bt bs ne r.outs
noncomputable def Ex(N a:Nat):Gd->Bool
 | .yes=>false
 | .is b n => !numOf N b||!within (-big) big n
 | .under b n => !numOf N b||!within (-big) big n
 | .inn r => !numOf a r
 | .neg g=>Ex N a g
 | .both g h=>Ex N a g||Ex N a h
 | .either g h=>Ex N a g||Ex N a h
noncomputable def qD9(r:aw Ro)(w:Str)(G:aE Int):Bool:=
 if w = "stay" then G.isSome else
 if w = "to" then (match G with | none=>true | some g => !numOf r.length g) else
 if w = "back" then (match G with | none=>true | some g => !numOf r.length g||decide ((r.map (·.keeps)).getD g.toNat ("" : Str)=("" : Str))) else true
noncomputable def qIK(bs:aw Bx)(ne:Nat)(r:aw Ro)(d:Dr):Bool:=!numOf r.length d.room||!numOf ne d.event||decide (6<d.guard.ht)||Ex bs.length r.length d.guard||Bt bs ne d.pZ||qD9 r d.way d.goal
def Zq(bs:aw Bx)(ne:Nat)(r:aw Ro)(D:aw Dr)(k:Nat):Bool:=match D[k]? with
 | none=>false
 | some d=>qIK bs ne r d
noncomputable def Wi(c:Ch):aw Ft:=
 one "order" (!([("inner" : Str),"outer"].contains c.order))++one "letters" (!within 0 12 c.letters)++one "turns" (!within 1 20 c.turns)++one "boxes" (decide (6<c.oX.length))++marks "box" c.oX.length (qIL c.oX) ++
 one "events" (decide (8<c.evs.length))++marks "event" c.evs.length (qIJ c.evs)++one "rooms" (decide (c.rooms.length=0)||decide (40<c.rooms.length))++marks "room" c.rooms.length (qII c.oX c.evs.length c.rooms) ++
 one "doors" (decide (60<c.mV.length))++marks "door" c.mV.length (Zq c.oX c.evs.length c.rooms c.mV)
structure Small(c:Ch):Prop where
 order:c.order.length<=1000
 oX:c.oX.length<=60
 bnm:∀ b∈c.oX,b.nm.length<=1000
 evs:c.evs.length<=60
 enm:∀ e∈c.evs,e.length<=1000
 rooms:c.rooms.length<=60
 rnm:∀ r∈c.rooms,r.nm.length<=1000/\r.kind.length<=1000/\r.keeps.length<=1000/\r.jn.length<=1000
 rdd:∀ r∈c.rooms,r.ins.length<=60/\r.outs.length<=60/\∀ d∈r.ins++r.outs,∀ z,d = .say z->z.length<=1000
 mV:c.mV.length<=100
 ddd:∀ d∈c.mV,d.pZ.length<=60/\d.guard.ht<=20/\d.way.length<=1000/\∀ e∈d.pZ,∀ z,e = .say z->z.length<=1000
def zy:Sp:=fun vs H Q _ => ∃(t:ar)(c:Ch),vs=[.ref t]/\jJ H t c/\Small c/\∀(p:ar)(f:aw V)(h:Hp),aH H h->H p=none->h p=some (.lst f)->qB1 h f (Wi c)->Q (.ref p) h
def S8(H:Hp)(v:V)(z:Str):Prop:=∃(b:ar)(t:aw V),v = .ref b/\H b=some (.tup (.str z::t))
theorem gP.fst(x:gP H vs bs):eQ (S8 H) vs (bs.map (·.nm)):=by
 induction x with
 | nil=>exact .nil
 | cons h _ i=>
  obtain⟨a,e,h⟩:=h;exact .cons ⟨a,_,e,h⟩ i
theorem cL.fst(x:cL H vs rs):eQ (S8 H) vs (rs.map (·.nm)):=by
 induction x with
 | nil=>exact .nil
 | cons h _ i=>
  obtain⟨a,_,_,e,h,_⟩:=h;exact .cons ⟨a,_,e,h⟩ i
def Wx(k:aJ K H1 a xs)(g:eQ (S8 H1) xs zs)(n:zs.length<=1000)
  (h:∀(b:ar)(t:aw V)(z:Str),H1 b=some (.tup (.str z::t))->∀ Q:VK,Q (.str z) H1->te (some (.ref b)::cs) H1 Q) (q:Z (zs.map V.str) H1):lD (Itt K a) cs qDS te H1 Z:=by
 have l:=g.length;refine ig (K:=K) (a:=a) (xs:=xs) (fun i A H=>H=H1/\A=(zs.take i).map V.str) ⟨rfl,rfl⟩ (fun i A H ⟨e,_⟩=>by subst e;exact k) (fun i x A H d ⟨E,c⟩=>?_) (fun A H ⟨E,c⟩=>?_)
 .subst E c
  have o:i<zs.length:=by
   have:=(oW.mp d).1;omega
  have f:zs[i]? = some zs[i]:=fQ o;obtain⟨v,j,b,t,rfl,m⟩:=g.get f;rw[j]at d
  cases d
  show te _ _ _;refine h b t _ m _ ⟨zW (by rw[bT,iQ];omega),rfl,?_⟩;rw[mq,f,qz];rfl
 .subst E c;rw[l,ib];exact q
def Bu:mX (x::xs) 0=some x:=yR (j:=0) rfl
structure SmallP(ok:List Dd->Prop)(okd:Dr->Prop)(c:Ch):Prop where
 order:c.order.length<=1000
 oX:c.oX.length<=60
 bnm:∀ b∈c.oX,b.nm.length<=1000
 evs:c.evs.length<=60
 enm:∀ e∈c.evs,e.length<=1000
 rooms:c.rooms.length<=60
 rms:∀ r∈c.rooms,ok r.ins/\ok r.outs/\r.nm.length<=1000/\r.kind.length<=1000/\r.keeps.length<=1000/\r.jn.length<=1000
 mV:c.mV.length<=100
 drs:∀ d∈c.mV,okd d
structure DueS(H:Hp)(fs:List Ft)(H':Hp)(pd:Addr):Prop where
 same:aH H H'
 new:H pd=none
 ex:∃ fv,H' pd=some (.lst fv)/\qB1 H' fv fs
def Wv(xs:aw V)(h:k<=xs.length):oG xs none (some (k:Int))=xs.take k:=by unfold oG;rw[HT.tY,HT.iJ,List.drop_zero,Nat.sub_zero,iN h]
def Zh(xs:aw V)(h:k+1<=xs.length):oG xs (some ((k:Int)+1)) none=xs.drop (k+1):=by
 have e:(k:Int)+1=((k+1:Nat):Int):=by omega
 unfold oG;rw[e,HT.tY,HT.iJ,iN h,DX (by rw[fR];exact bD _)]
end gW
namespace L2
open PySem PySem.Spec PyProof.Rows
end L2
namespace Dig
open PySem L2
def Dg:Nat->Nat->aw Nat
 | 0,_=>[]
 | f+1,n=>if n=0 then [] else Dg f (n/10)++[48+n%10]
theorem Q8:∀(f g n:Nat),n<=f->n<=g->Dg f n=Dg g n
 | 0,0,_,_,_=>rfl
 | 0,g+1,n,h,_=>by
  rw[show n=0 by omega];rfl
 | f+1,0,n,_,h=>by
  rw[show n=0 by omega];rfl
 | f+1,g+1,n,H,q=>by
  show (if n=0 then [] else _)=if n=0 then [] else _
  by_cases e:n=0
  .rw[cS e,cS e]
  .rw[cK e,cK e,Q8 f g (n/10) (by omega) (by omega)]
def D(n:Nat):aw Nat:=Dg n n
def N8:D 0=[]:=rfl
def Xh{n:Nat}(h:n≠0):D n=D (n/10)++[48+n%10]:=by obtain⟨m,rfl⟩:∃ m,n=m+1:=⟨n-1,by omega⟩;show (if m+1=0 then [] else Dg m ((m+1)/10)++_)=Dg _ _++_;rw[cK h,Q8 m ((m+1)/10) ((m+1)/10) (by omega) (bD _)]
theorem qB5:∀(k n:Nat),n<10 ^ k->(D n).length<=k
 | 0,n,h=>by
  have e:n=0:=by simp at h;exact h
  rw[e,N8];exact bD _
 | k+1,n,h=>by
  by_cases e:n=0
  .rw[e,N8];exact bo _
  .rw[Xh e,j8];have:=qB5 k (n/10) (by rw[Nat.pow_succ]at h;omega);simp only[List.length_cons,List.length_nil];omega
def xW:∀ d,d<10->(Nat.digitChar d).toNat=48+d:=by decide
theorem Ph:∀(f n:Nat)(a:aw Char),n<f->n≠0->(Nat.toDigitsCore 10 f n a).map Char.toNat=D n++a.map Char.toNat
 | 0,n,a,h,_=>eu h (Nat.not_lt_zero _)
 | f+1,n,a,h,c=>by
  rw[Nat.toDigitsCore];have hd:=xW (n%10) (Nat.mod_lt _ (by decide))
  by_cases e:n/10=0
  .simp only[e,if_true];rw[Xh c,e,N8,bt,hd];rfl
  .simp only[e,if_false];rw[Ph f (n/10) _ (by omega) e,bt,hd,Xh c,bX];rfl
def wQ(m:Nat):(Nat.toDigits 10 m).map Char.toNat=if m=0 then [48] else D m:=by
 by_cases e:m=0
 .subst e;rfl
 .rw[cK e];unfold Nat.toDigits;rw[Ph _ _ _ (iF m) e];exact oY _
noncomputable def ZX(n:Int):aw Nat:=(if n<0 then [45] else [])++(if n=0 then [48] else D n.natAbs)
theorem TV(n:Int):Str.ofString (toString n)=⟨(ZX n).toArray⟩:=by
 have ext:∀ a b:Str,a.cps.toList=b.cps.toList->a=b:=fun a b e=>by
  obtain⟨⟨a⟩⟩:=a;obtain⟨⟨b⟩⟩:=b;simp only at e;rw[e]
 apply ext;rw[Str.ofString_eq_toList];simp only;unfold ZX
 cases n with
 | ofNat m=>
  rw[cK (show ¬ Int.ofNat m<0 from Int.not_lt.mpr (fb m))];show List.map Char.toNat (String.toList (Nat.repr m))=_;rw[show Nat.repr m=String.ofList (Nat.toDigits 10 m) from rfl,String.toList_ofList,wQ]
  by_cases e:m=0
  .subst e;rfl
  .rw[cK e,cK (show ¬ Int.ofNat m=0 by intro z;exact e (by simpa using z))];rfl
 | negSucc m=>
  rw[cS (Int.negSucc_lt_zero m),cK (by intro z;cases z)];show List.map Char.toNat (String.toList ("-" ++ Nat.repr (m+1)))=_;rw[String.toList_append,show Nat.repr (m+1)=String.ofList (Nat.toDigits 10 (m+1)) from rfl,String.toList_ofList,String.toList_ofList,qz,wQ,cK (by omega)];rfl
end Dig
namespace L2
open PySem
def qLY(M:Model)(Γ:Ctx)(p:Pos)(t:Sem Fin)(fs:aw Frame)(s:ae)(e:End)(s':ae):Prop:=match fs with
 | F::fs => ∃ E S,Runs M (Γ.over (F::fs)) p t [] s E S/\(match E with
  | .ret r=>(match F with
   | .ret k _ _ _ d i _=>Runs M (Γ.goto d) i (k r) fs S e s'
   | .gen g k _ d i=>Runs M (Γ.goto d) i (k (End.ret r).result) fs (S.setGen g .finished) e s')
  | .susp v G L b C P j=>(match splitAtGen (F::fs) with
   | none=>e = .susp v G L b C P (j++F::fs)/\s'=S
   | some (u,(g,k,d,i),rest)=>Runs M (Γ.goto d) i (k (.yielded v)) rest (S.setGen g (End.susp v G L b C P (j++u)).genState) e s'))
 | []=>match t with
  | .pure (.done f)=>e = .ret (.ok f)/\s'=s
  | .pure (.again c)=>Runs M (Γ.goto c) p (M.den c) [] s e s'
  | .raise x=>e = .ret (.error x)/\s'=s
  | .rule _ k=>Runs M Γ p (k ()) [] s e s'
  | .at p' k=>Runs M Γ p' (k ()) [] s e s'
  | .load a _ k => ∃ o,s.heap.get? a=some o/\Runs M Γ p (k o) [] s e s'
  | .update a _ f k=>Runs M Γ p (k ()) [] { s with heap:=s.heap.update a f } e s'
  | .loadIfAlive a k=>Runs M Γ p (k (s.heap.get? a)) [] s e s'
  | .point _ k=>Runs M Γ p (k ()) [] s e s'
  | .alloc o k=>Runs M Γ p (k s.heap.objs.size) [] { s with heap:=s.heap.push o } e s'
  | .fresh k=>Runs M Γ p (k s.toks) [] { s with toks:=s.toks+1 } e s'
  | .ask k=>Runs M Γ p (k { program:=M.prog,params:=M.w.params }) [] s e s'
  | .choose m n k=>Runs M Γ p (k (M.w.draws m (s.drawn.get m)%n)) [] { s with drawn:=s.drawn.bump m } e s'
  | .os q _ k=>Runs M Γ p (k (Os.step s.os q).snd) [] { s with os:=(Os.step s.os q).fst } e s'
  | .handled own k=>Runs M Γ p (k (if own=true then Γ.own else Γ.handled)) [] s e s'
  | .genState g k => ∃ st,s.gens[g]? = some st/\Runs M Γ p (k st.seen) [] s e s'
  | .stack k=>Runs M Γ p (k ((Γ.code,p)::Γ.below)) [] s e s'
  | .thread k=>Runs M Γ p (k 0) [] s e s'
  | .newGen c k=>Runs M Γ p (k s.gens.size) [] { s with gens:=s.gens.push (.fresh c) } e s'
  | .call c h g l k => ∃ E S,Runs M (Γ.enter c h p) p (M.den c) [] s E S/\(match E with
   | .ret r=>Runs M Γ p (k r) [] S e s'
   | .susp v G L b C P fs=>e = .susp v G L b C P (fs++[Frame.ret k h g l Γ.code p []])/\s'=S)
  | .yield v g l k=>e = .susp v g l k Γ.code p []/\s'=s
  | .resume g r _ k => ∃ st,s.gens[g]? = some st/\(match st with
   | .fresh c=>(match r with
    | .send v=>(v = .none/\∃ E S,Runs M (Γ.wake c p) p (M.den c) [] (s.setGen g .running) E S/\Runs M Γ p (k E.result) [] (S.setGen g E.genState) e s')∨(v≠.none/\Runs M Γ p (k .justStarted) [] s e s')
    | .throw x=>Runs M Γ p (k (.raised x)) [] (s.setGen g .finished) e s')
   | .suspended b _ C P fs _ => ∃ E S,Runs M (Γ.wake C p) P (b r) fs (s.setGen g .running) E S/\Runs M Γ p (k E.result) [] (S.setGen g E.genState) e s'
   | .running=>Runs M Γ p (k .running) [] s e s'
   | .finished=>Runs M Γ p (k .finished) [] s e s')
  | _=>True
theorem aR(h:Runs M Γ p t fs s e s'):qLY M Γ p t fs s e s':=by
 cases h with
 | done=>exact⟨rfl,rfl⟩
 | raise=>exact⟨rfl,rfl⟩
 | again _ h=>exact h
 | load f q=>exact⟨_,f,q⟩
 | update _ h=>exact h
 | choose _ h=>exact h
 | genState f q=>exact⟨_,f,q⟩
 | call f q=>exact⟨_,_,f,q⟩
 | callSusp f=>exact⟨_,_,f,rfl,rfl⟩
 | yield=>exact⟨rfl,rfl⟩
 | resumeFresh f q _ l=>exact⟨_,f,.inl ⟨rfl,_,_,q,l⟩⟩
 | resumeSuspended f q _ l=>exact⟨_,f,_,_,q,l⟩
 | resumeJustStarted f q b=>exact⟨_,f,.inr ⟨q,b⟩⟩
 | resumeThrowFresh f q=>exact⟨_,f,q⟩
 | resumeRunning f q=>exact⟨_,f,q⟩
 | resumeFinished f q=>exact⟨_,f,q⟩
 | segRet f q=>exact⟨_,_,f,q⟩
 | segGen f q=>exact⟨_,_,f,q⟩
 | segSuspOut f q=>
  refine⟨_,_,q,?_⟩;rw[f];exact⟨rfl,rfl⟩
 | segSuspGen f q _ l=>
  refine⟨_,_,q,?_⟩;rw[f];exact l
 | rule h=>exact h
 | «at» h=>exact h
 | loadIfAlive h=>exact h
 | point h=>exact h
 | alloc h=>exact h
 | fresh h=>exact h
 | ask h=>exact h
 | os h=>exact h
 | handled h=>exact h
 | stack h=>exact h
 | thread h=>exact h
 | newGen h=>exact h
theorem Ak(h:Runs M Γ p t fs s e s') :
  ∀ {a:End} {S:ae},Runs M Γ p t fs s a S->e=a/\s'=S:=by
 induction h with
 | done=>intro a S q;obtain⟨rfl,rfl⟩:=aR q;exact⟨rfl,rfl⟩
 | raise=>intro a S q;obtain⟨rfl,rfl⟩:=aR q;exact⟨rfl,rfl⟩
 | again _ _ i=>intro a S q;exact i (aR q)
 | load f _ i=>
  intro a S q;obtain⟨o,H,h⟩:=aR q
  cases f.symm.trans H
  exact i h
 | update _ _ i=>intro a S q;exact i (aR q)
 | choose _ _ i=>intro a S q;exact i (aR q)
 | genState f _ i=>
  intro a S q;obtain⟨o,H,h⟩:=aR q
  cases f.symm.trans H
  exact i h
 | call _ _ I b=>
  intro a S q;obtain⟨E,c,h,h'⟩:=aR q;obtain⟨rfl,rfl⟩:=I h;exact b h'
 | callSusp _ i=>
  intro a S q;obtain⟨E,c,h,h'⟩:=aR q;obtain⟨rfl,rfl⟩:=i h;exact⟨h'.1.symm,h'.2.symm⟩
 | yield=>intro a S q;obtain⟨rfl,rfl⟩:=aR q;exact⟨rfl,rfl⟩
 | resumeFresh f _ _ _ I b=>
  intro a S q;obtain⟨st,H,h⟩:=aR q
  cases f.symm.trans H
  rcases h with ⟨_,E,c,h,h'⟩ | ⟨z,_⟩
  .obtain⟨rfl,rfl⟩:=I h;exact b h'
  .exact eu rfl z
 | resumeSuspended f _ _ _ I b=>
  intro a S q;obtain⟨st,H,h⟩:=aR q
  cases f.symm.trans H
  obtain⟨E,c,h,h'⟩:=h;obtain⟨rfl,rfl⟩:=I h;exact b h'
 | resumeJustStarted f n _ i=>
  intro a S q;obtain⟨st,H,h⟩:=aR q
  cases f.symm.trans H
  rcases h with ⟨z,_⟩ | ⟨_,h⟩
  .exact eu z n
  .exact i h
 | resumeThrowFresh f _ i=>
  intro a S q;obtain⟨st,H,h⟩:=aR q
  cases f.symm.trans H
  exact i h
 | resumeRunning f _ i=>
  intro a S q;obtain⟨st,H,h⟩:=aR q
  cases f.symm.trans H
  exact i h
 | resumeFinished f _ i=>
  intro a S q;obtain⟨st,H,h⟩:=aR q
  cases f.symm.trans H
  exact i h
 | segRet _ _ I b=>
  intro a S q;obtain⟨E,c,h,h'⟩:=aR q;obtain⟨rfl,rfl⟩:=I h;exact b h'
 | segGen _ _ I b=>
  intro a S q;obtain⟨E,c,h,h'⟩:=aR q;obtain⟨rfl,rfl⟩:=I h;exact b h'
 | segSuspOut d _ i=>
  intro a S q;obtain⟨E,c,h,h'⟩:=aR q;obtain⟨rfl,rfl⟩:=i h;simp only[d]at h';exact⟨h'.1.symm,h'.2.symm⟩
 | segSuspGen d _ _ _ I b=>
  intro a S q;obtain⟨E,c,h,h'⟩:=aR q;obtain⟨rfl,rfl⟩:=I h;simp only[d]at h';exact b h'
 | rule _ i=>intro a S q;exact i (aR q)
 | «at» _ i=>intro a S q;exact i (aR q)
 | loadIfAlive _ i=>intro a S q;exact i (aR q)
 | point _ i=>intro a S q;exact i (aR q)
 | alloc _ i=>intro a S q;exact i (aR q)
 | fresh _ i=>intro a S q;exact i (aR q)
 | ask _ i=>intro a S q;exact i (aR q)
 | os _ i=>intro a S q;exact i (aR q)
 | handled _ i=>intro a S q;exact i (aR q)
 | stack _ i=>intro a S q;exact i (aR q)
 | thread _ i=>intro a S q;exact i (aR q)
 | newGen _ i=>intro a S q;exact i (aR q)
theorem qB6(M:Model)(Γ:Ctx)(t:Sem α):∀ Q j E b p s,Sem.wp M Γ t Q E p s->Sem.wp M Γ t j b p s →
  Sem.wp M Γ t (fun a p' s'=>Q a p' s'/\j a p' s') (fun e p' s'=>E e p' s'/\b e p' s') p s:=by
 induction t with
 | pure a=>intro Q j E b p s h h';exact⟨h,h'⟩
 | raise e=>intro Q j E b p s h h';exact⟨h,h'⟩
 | load a _ k i=>intro Q j E b p s h h';obtain⟨o,d,h⟩:=h;obtain⟨O,H,h'⟩:=h';cases d.symm.trans H;exact⟨o,d,i o _ _ _ _ p s h h'⟩
 | update a _ f k i=>intro Q j E b p s h h';exact⟨h.1,i () _ _ _ _ p _ h.2 h'.2⟩
 | choose D m k i=>intro Q j E b p s h h';exact⟨h.1,i _ _ _ _ _ p _ h.2 h'.2⟩
 | call c hd g l k i=>
  intro Q j E b p s h h';obtain⟨r,u,x,h⟩:=h;obtain⟨R,S,X,h'⟩:=h';obtain⟨B,z⟩:=Ak x X
  cases B;cases z
  exact⟨r,u,x,i _ _ _ _ _ p _ h h'⟩
 | genState g k i=>intro Q j E b p s h h';obtain⟨o,d,h⟩:=h;obtain⟨O,H,h'⟩:=h';cases d.symm.trans H;exact⟨o,d,i _ _ _ _ _ p s h h'⟩
 | resume g r l k i=>
  intro Q j E b p s h h';obtain⟨A,u,x,h⟩:=h;obtain⟨R,S,X,h'⟩:=h'
  have q:A=R/\u=S:=by
   unfold Wakes at x X;revert x X;generalize s.gens[g]? = G;intro x X
   cases G with
   | none=>exact x.elim
   | some st=>
    cases st with
    | fresh c=>
     cases r with
     | throw y=>exact⟨x.1.trans X.1.symm,x.2.trans X.2.symm⟩
     | send v=>
      cases v with
      | none=>
       obtain⟨w,t1,Y,_,rfl,rfl⟩:=x;obtain⟨C,T,n,_,rfl,rfl⟩:=X;obtain⟨rfl,rfl⟩:=Ak Y n;exact⟨rfl,rfl⟩
      | _=>exact⟨x.1.trans X.1.symm,x.2.trans X.2.symm⟩
    | suspended=>
     obtain⟨w,t1,Y,_,rfl,rfl⟩:=x;obtain⟨C,T,n,_,rfl,rfl⟩:=X;obtain⟨rfl,rfl⟩:=Ak Y n;exact⟨rfl,rfl⟩
    | running=>exact⟨x.1.trans X.1.symm,x.2.trans X.2.symm⟩
    | finished=>exact⟨x.1.trans X.1.symm,x.2.trans X.2.symm⟩
  obtain⟨rfl,rfl⟩:=q;exact⟨_,_,x,i _ _ _ _ _ p _ h h'⟩
 | _=>intros;first | assumption | (rename_i i _ _ _ _ _ _ h h';exact i _ _ _ _ _ _ _ h h')
def Kf(h:wpAny M A t Q E s)(h':wpAny M A t Q' E' s) :
  wpAny M A t (fun a s'=>Q a s'/\Q' a s') (fun e s'=>E e s'/\E' e s') s:=fun Γ p H=>qB6 M Γ t _ _ _ _ p s (h Γ p H) (h' Γ p H)
def qL(h:wpAny M A t Q E s)(h':wpAny M A t Q' E s):wpAny M A t (fun a s'=>Q a s'/\Q' a s') E s:=
 c8 (Kf h h') (fun _ _ z=>z) fun _ _ z=>z.1
end L2
namespace L2
open PySem PySem.Spec PyProof.Rows
def qJ8(O:Obj):Prop:=∃ vs,O.data = .fields vs/\vs[2]? = some .none
def DictAt(h:Heap)(e:ar)(D:aE ar):Prop:=∃ O,h.get? e=some O/\O.dict=D/\(D=none->qJ8 O)
def Wt(o:Obj)(f:Array av->Array av):(o.mapFields f).dict=o.dict:=by
 obtain⟨c,d,t,_⟩:=o
 cases t <;> rfl
def DictAt.upd(x:DictAt h e dd)(H:h.get? a=some o)(hd:o.data = .fields vs)(b:∀ w:Array av,(f w)[2]? = w[2]?:=by intro w;simp):DictAt (h.update a (Obj.mapFields f)) e dd:=by
 obtain⟨O,q,r,c⟩:=x
 by_cases z:a=e
 .subst z;rw[H]at q
  cases q
  exact⟨_,cm _ H (Obj.isFreed_of_fields (Obj.data_mapFields hd f)),(Wt _ _).trans r,fun y=>let ⟨w,C,d⟩:=c y;⟨_,Obj.data_mapFields C f,(b w).trans d⟩⟩
 .exact⟨O,(ck _ _ z).trans q,r,c⟩
def DictAt.push(x:DictAt h e dd)(o:Obj):DictAt (h.push o) e dd:=
 let ⟨O,q,r⟩:=x;⟨O,fM _ q,r⟩
def xJ(ht:s.heap.TracedAtW base e cls a0 fl)(x:DictAt s.heap e dd):wpAny M A (setFlight (.ref e) none) (fun _ s'=>DictAt s'.heap e dd) E s:=by obtain⟨_,_,T,_,_,g,_,hd,f,_,_,D,h,b⟩:=ht;unfold setFlight;refine aS (wpAny_field g hd f ?_);rw[if_pos (show (Value.ref T != Value.none)=true by simp)];exact wpAny_setField D h (eB.mp b).1 (x.upd D h)
def Bl(H:A.frames=some (v::outer))(m:s.heap.FunFrames base (v::outer))(p:v.frame=some L)
  (j:s.heap.get? e=some oe) (hd:oe.data = .fields vs) (hsz:1<vs.size) (x:DictAt s.heap e dd)
  (k:∀ f T O t,DictAt f e dd->(∃ o d,f.get? e=some o/\o.data = .fields d/\d[1]? = some (.ref T))->f.get? T=some O->O.data = .fields t->3<t.size->Q () { s with heap:=f }) :
  wpAny M A (do let a ← frameOf v;let pl ← entryPlaceOf L b;let c ← EntryCells.newEntry head a .none (rawInt L) .none pl;setField (.ref e) 1 c) Q E s:=by
 refine aS (wpAny_frameOf_fun H m p fun f n=>?_);refine aS (wpAny_entryPlaceOf fun pl l=>?_);unfold EntryCells.newEntry newFields;refine aS (wpAny_newObj_type ?_ (l.sizeOk5 _ _ _ _ _));obtain⟨S,g⟩:=n.2.2 e oe j
 have X:DictAt f e dd:=by
  obtain⟨_,q,r⟩:=x;rw[j]at q
  cases q
  exact⟨_,g,r⟩
 have i:=fM { cls:=.type "traceback",dict:=none,data:=.fields ([head,.ref L,.none,rawInt L,.none]++(if pl.isEmpty then List.replicate 6 Value.none else pl)).toArray } g;have h:({ oe with slots:=S }:Obj).data = .fields vs:=hd;have ne:e≠f.objs.size:=jQ (gQ g);refine wpAny_setField i h hsz (k _ f.objs.size { cls:=.type "traceback",dict:=none,data:=.fields ([head,.ref L,.none,rawInt L,.none]++(if pl.isEmpty then List.replicate 6 Value.none else pl)).toArray } _ ((X.push _).upd i h) ?_ ?_ rfl ?_)
 .exact⟨_,_,Heap.get?_update_self _ i (Obj.isFreed_of_fields (Obj.data_mapFields h _)),Obj.data_mapFields h _,by simp [hsz]⟩
 .exact (ck _ _ ne).trans (qy f rfl)
 .simp only[List.size_toArray,List.length_append,List.length_cons,List.length_nil];lia
def R8(H:A.frames=some (v::outer))(d:v.frame=some L)(l:Heap.FlyingW base (v::outer) e cls a0 s.heap)(x:DictAt s.heap e dd):wpAny M A (noteFrame (.ref e) v) (fun _ s'=>DictAt s'.heap e dd) E s:=by
 obtain⟨_,_,k,_,_,T,_,t,g,_,hd,j,_,a,D,h,i⟩:=l;unfold noteFrame;simp only[d];refine aS (wpAny_field g hd j ?_);rw[if_pos (show (Value.ref T != Value.none)=true by simp)];refine aS (wpAny_field D h i ?_);rw[if_neg (show ¬ ((Value.none==rawInt L)=true) by simp [rawInt])];refine aS (wpAny_setField D h (eB.mp i).1 ?_);refine Bl H (k.of_keeps fun b o c f=>⟨o,(ck _ _ fun z=>?_).trans c,rfl⟩) d ((ck _ _ a).trans g) hd (eB.mp j).1 (x.upd D h) fun _ _ _ _ z _ _ _ _=>z;rw[<-z,D]at c
 cases c
 exact f t h
def Mj(H:A.frames=some (v::outer))(l:s.heap.FunFrames base (v::outer))(h:v.frame=some L)(g:s.heap.get? e=some oe)(hd:oe.data = .fields vs)(f:vs[1]? = some .none)
  (x:DictAt s.heap e dd):wpAny M A (leaving v (.ref e)) (fun _ s'=>DictAt s'.heap e dd) E s:=by unfold leaving noteFrame;simp only[h];refine aS (aS (wpAny_field g hd f ?_));rw[cK (by decide)];refine Bl H l h g hd (eB.mp f).1 x fun _ T _ _ X ⟨_,_,i,c,Q⟩ u q a=>?_;unfold setFlight;refine aS (wpAny_field i c Q ?_);rw[if_pos (show (Value.ref T != Value.none)=true by simp)];exact wpAny_setField u q a (X.upd u q)
def RK(H:A.frames=some (v::outer))(h:v.frame=some L)(l:Heap.FlyingW base (v::outer) e cls a0 s.heap)(x:DictAt s.heap e dd)
  (b:∀ h',Heap.HeldW base (v::outer) e cls a0 L h'->s.heap.UpToSlots h'->DictAt h' e dd->Q () { s with heap:=h' }):wpAny M A (noteFrame (.ref e) v) Q E s:=
 c8 (qL (wpAny_looks_onW (Q:=fun _ s'=>∃ h',s' = { s with heap:=h' }/\Heap.HeldW base (v::outer) e cls a0 L h'/\s.heap.UpToSlots h') H h l fun h' a k=>⟨h',rfl,a,k⟩) (R8 H h l x))
  (fun _ _ ⟨⟨h',z,a,k⟩,c⟩=>by subst z;exact b h' a k c) fun _ _ z=>z
def qCK(b:Heap.HeldW base l e cls a0 L s.heap)(x:DictAt s.heap e dd)(H:∀ h',Heap.FlyingW base l e cls a0 h'->s.heap.UpToSlots h'->DictAt h' e dd->Q () { s with heap:=h' }):wpAny M A (setFlight (.ref e) none) Q E s:=
 c8 (qL (wpAny_landsW (Q:=fun _ s'=>∃ h',s' = { s with heap:=h' }/\Heap.FlyingW base l e cls a0 h'/\s.heap.UpToSlots h') b fun h' a k=>⟨h',rfl,a,k⟩) (xJ b.2.2.2 x))
  (fun _ _ ⟨⟨h',z,a,k⟩,c⟩=>by subst z;exact H h' a k c) fun _ _ z=>z
def Gj(b:Heap.FlyingW base l e cls a0 s.heap)(x:DictAt s.heap e dd)(H:∀ h',Heap.FlyingW base l e cls a0 h'->s.heap.UpToSlots h'->DictAt h' e dd->Q () { s with heap:=h' }):wpAny M A (setFlight (.ref e) none) Q E s:=
 c8 (qL (lands_againW (Q:=fun _ s'=>∃ h',s' = { s with heap:=h' }/\Heap.FlyingW base l e cls a0 h'/\s.heap.UpToSlots h') b fun h' a k=>⟨h',rfl,a,k⟩) (xJ b.2.2.2.at x))
  (fun _ _ ⟨⟨h',z,a,k⟩,c⟩=>by subst z;exact H h' a k c) fun _ _ z=>z
def Jf(H:A.frames=some (v::outer))(f:v.frame=some L)(h:base.StaysIn s.heap)(l:s.heap.FunFrames base (v::outer))(c:base.get? e=none)
  (g:s.heap.get? e=some oe) (hd:oe.data = .fields vs) (a:vs[1]? = some .none) (m:vs[0]? = some a0) (q:oe.dict=none->vs[2]? = some .none)
  (b:∀ h',Heap.FlyingW base outer e oe.cls a0 h'->s.heap.UpToSlots h'->DictAt h' e oe.dict->Q () { s with heap:=h' }):wpAny M A (leaving v (.ref e)) Q E s:=
 c8 (qL (wpAny_leaving_firstW (Q:=fun _ s'=>∃ h',s' = { s with heap:=h' }/\Heap.LeftW base (v::outer) e oe.cls a0 s.heap h') H l f g h c hd a m fun h' k=>⟨h',rfl,k⟩) (Mj H l f g hd a ⟨oe,g,rfl,fun y=>⟨vs,hd,q y⟩⟩))
  (fun _ _ ⟨⟨h',z,n,⟨_,_,j⟩,o,d⟩,i⟩=>by subst z;exact b h' ⟨n,c,j,o⟩ d i) fun _ _ z=>z
def Ke(P:ag)(w:aI):KQ:=fun O H s E e s'=>
 ∃ d c A h B,e = .ref d/\s'.os=s.os/\AllBare s'.gens/\Heap.FlyingW B O d c A s'.heap ∧
  lM P w h s'.heap/\Un (frs O) [] H h s.heap s'.heap/\(∀ b,(h b).isSome=true->∃ o,s'.heap.get? b=some o/\B.get? b=some o) ∧
  (∀ b o,s.heap.get? b=some o->b∉frs O->∃ a,s'.heap.get? b=some a/\B.get? b=some a)/\∃ D,DictAt s'.heap d D/\E c D h
section
variable{P:ag}{w:aI}{H H':Hp}{h h0 h1 h2 B:Heap}{a:ar}{o:HO}{fs:aw ar}
theorem bM.there(x:bM P w H h a o):∃ O,h.get? a=some O:=by
 cases o with
 | lst xs=>obtain⟨_,_,_,_,e⟩:=x;exact⟨_,e⟩
 | tup xs=>obtain⟨_,_,_,O,e,_⟩:=x;exact⟨O,e⟩
 | dK k=>obtain⟨_,_,_,_,O,_,_,e,_⟩:=x;exact⟨O,e⟩
 | dT k=>obtain⟨_,_,_,_,O,_,_,e,_⟩:=x;exact⟨O,e⟩
 | set S n=>obtain⟨O,_,_,_,e,_⟩:=x;exact⟨O,e⟩
 | ins C d fs=>obtain⟨_,_,_,e,_⟩:=x;exact⟨_,e⟩
 | own y=>exact x
 | xd fs=>obtain⟨_,⟨O,_,_,e,_⟩,_⟩:=x;exact⟨O,e⟩
 | rng lo i=>obtain⟨_,_,_,e⟩:=x;exact⟨_,e⟩
 | Mh O u=>obtain⟨e,_⟩:=x;exact⟨_,e⟩
 | tbl ps=>exact⟨_,x⟩
 | met f y=>exact⟨_,x⟩
 | ext φ=>obtain⟨_,e,_⟩:=x;exact e
def lM.flown(hok:lM P w H h)(g:∀ b,(H b).isSome=true->∃ O,h.get? b=some O/\B.get? b=some O)(st:B.StaysIn h2):lM P w H h2:=fun a o e=>
 (hok a o e).stay (fun b u f q=>by
  have d:(H b).isSome=true:=by
   rcases f with z | z
   .rw[z,e];rfl
   .rw[z];rfl
  obtain⟨O,E,c⟩:=g b d;rw[q]at E
  cases E
  exact st b _ c) (fun _ q=>q) fun _ _ q=>q
def Un.flown(un:Un fs [] H H' h0 h1)(h:∀ b O,h0.get? b=some O->b∉fs->∃ o,h1.get? b=some o/\B.get? b=some o)(st:B.StaysIn h2)(s:h1.UpToSlots h2)
  (f:∀ b∈fs,H b=none/\∃ O,h0.get? b=some O/\∀ vs,O.data≠.fields vs):Un fs [] H H' h0 h2:=by
 have S:∀ b O,h0.get? b=some O->H b=none->b∈fs->∃ s,h2.get? b=some { O with slots:=s }:=fun b O q n c=>by
  obtain⟨_,_,E,D⟩:=f b c;rw[q]at E
  cases E
  obtain⟨_,a⟩:=un.slot b O q n c (by simp);obtain⟨d,g⟩:=s b _ a D;exact⟨d,g⟩
 refine⟨fun b O q n c x=>?_,fun b O q n c _=>S b O q n c,fun b O q n x=>un.free b O q n x,fun b O q x=>?_,un.tups,un.uZ,un.vH⟩
 .obtain⟨o,E,a⟩:=h b O q c;rw[un.keep b O q n c x]at E
  cases E
  exact st b _ a
 .by_cases c:b∈fs
  .obtain⟨d,e⟩:=S b O q (f b c).1 c;exact⟨_,e⟩
  .obtain⟨o,_,a⟩:=h b O q c;exact⟨o,st b _ a⟩
end
section
variable{P:ag}{w:aI}{K:bV}{mg:Str->aE av}{base:Heap}{N:aw Str}{qual:Str}{scope:Scope}{f:ar}{cd:av}{A:ai}{outer:aw Env}{s:ae}{H:Hp}{E E':XK}
def WN(h:e.frame=some L):frs (e::l)=L::frs l:=by unfold frs;rw[fw,h]
def Inv.frames(I:Inv X pins σ H s):∀ b∈frs X.stack,H b=none/\∃ O,s.heap.get? b=some O/\∀ vs,O.data≠.fields vs:=
 fun b c=>⟨I.xg b c,let ⟨_,O,e,D⟩:=I.stack.mem c;⟨O,e,D⟩⟩
def Inv.qBX(I:Inv X pins σ H s):∀ b∈frs X.outer,X.H₀ b=none/\∃ O,X.s₀.heap.get? b=some O/\∀ vs,O.data≠.fields vs:=
 fun b c=>⟨I.ok.ZS b c,let ⟨_,O,e,D⟩:=I.ok.uY.mem c;⟨O,e,D⟩⟩
def del(H:Hp)(e:ar):Hp:=fun b=>if b=e then none else H b
def uc:del H e e=none:=cS rfl
def oA(h:b≠e):del H e b=H b:=cK h
def Loose(o:aE HO):Prop:=o=none ∨ ∃ φ,o=some (.ext φ)
section
variable{P:ag}{w:aI}{H H':Hp}{h h':Heap}{e:ar}{fs ex:aw ar}
def Loose.ne(l:Loose (H e))(q:H b=some o)(n:∀ φ,o≠.ext φ):b≠e:=fun z=>by
 subst z;rcases l with y | ⟨φ,y⟩
 .rw[q]at y;cases y
 .rw[q]at y;cases y;exact n φ rfl
def lM.del(x:lM P w H h)(l:Loose (H e)):lM P w (L2.del H e) h:=fun a o q=>by
 by_cases z:a=e
 .subst z;rw[uc]at q
  cases q
 .rw[oA z]at q;refine (x a o q).stay (fun _ _ _ y=>y) (fun b y=>?_) fun b _ y=>?_
  .rw[oA (l.ne y fun _=>nofun)];exact y
  .rw[oA (l.ne y fun _=>nofun)];exact y
def Un.del(u:Un fs ex H H' h h')(l:Loose (H' e)):Un fs ex H (L2.del H' e) h h':=by
 refine⟨u.keep,u.slot,fun b o q n x=>?_,u.there,fun b xs q=>?_,fun b o v q=>?_,fun b ps q=>?_⟩
 .by_cases z:b=e
  .rw[z,uc]
  .rw[oA z];exact u.free b o q n x
 .have y:=u.tups b xs q;rw[oA (l.ne y fun _=>nofun)];exact y
 .have y:=u.uZ b o v q;rw[oA (l.ne y fun _=>nofun)];exact y
 .obtain⟨m,y⟩:=u.vH b ps q;exact⟨m,by rw[oA (l.ne y fun _=>nofun)];exact y⟩
end
def XX(X:Cx)(E:XK):Prop:=∀ p σ H s e C A G vs,Inv X p σ H s->X.s₀.heap.get? e=none->Loose (H e)->s.heap.get? e=some G->G.cls = .ref C →
 G.data = .fields vs->vs[0]? = some A->vs[1]? = some .none->(G.dict=none->vs[2]? = some .none)->E (.ref C) G.dict (del H e)->X.xe (.ref e) s
def qCY:XX (wF (Ke P w) P w K mg base N qual scope f cd A outer s H E) E:=by
 intro _ σ m a e C M _ _ I R t k J hd X T D G;have F:frs (wF (Ke P w) P w K mg base N qual scope f cd A outer s H E).stack=s.heap.objs.size::frs outer:=WN rfl;generalize B:e::frs (wF (Ke P w) P w K mg base N qual scope f cd A outer s H E).stack=S
 have n:∀ v∈(wF (Ke P w) P w K mg base N qual scope f cd A outer s H E).stack,∀ b,v.frame=some b->b∈S:=
  fun v k b c=>B▸Hr _ (List.mem_filterMap.mpr ⟨v,k,c⟩)
 have i:∀ b O,a.heap.get? b=some O->b≠e->b∉frs (wF (Ke P w) P w K mg base N qual scope f cd A outer s H E).stack->(PySem.W.hideAll a.heap S).get? b=some O:=
  fun b O q z c=>PySem.W.hideAll_get _ q (by rw[<-B];exact fun y=>(dD.mp y).elim z c)
 have r:∀ b,(del m e b).isSome=true->∃ O,a.heap.get? b=some O/\(PySem.W.hideAll a.heap S).get? b=some O:=fun b c=>by
  obtain⟨u,d⟩:=jv.mp c
  have z:b≠e:=fun z=>by rw[z,uc]at d;cases d
  rw[oA z]at d;obtain⟨O,q⟩:=(I.hok b u d).there;exact⟨O,q,i b O q z fun y=>by rw[I.xg b y]at d;cases d⟩
 have h:∀ b O,s.heap.get? b=some O->b∉frs outer->∃ o,a.heap.get? b=some o/\(PySem.W.hideAll a.heap S).get? b=some o:=fun b O q c=>by
  obtain⟨x,p⟩:=I.base.there b O q (by show b∉([]:aw ar);simp);refine⟨x,p,i b x p (fun z=>?_) fun z=>?_⟩
  .subst z;have j:s.heap.get? b=none:=R;rw[q]at j
   cases j
  .rw[F]at z;exact (dD.mp z).elim (jQ (gQ q)) c
 have U:Un (frs outer) [] H (del m e) s.heap a.heap:=Un.del I.base t;show wpAny _ _ (leaving _ (.ref e)) _ _ _;refine Jf (L:=s.heap.objs.size) (base:=PySem.W.hideAll a.heap S) I.ok.frames rfl (fun b O q=>PySem.W.of_hideAll _ q) (PySem.W.funFrames_hide I.stack n) (PySem.W.hideAll_none _ (by rw[<-B];exact FZ)) k hd T X D fun D l Q W=>?_;rw[J]at l;refine⟨e,.ref C,M,del m e,_,rfl,I.os,I.bare,l,(I.hok.del t).flown r l.1,U.flown h l.1 Q I.qBX,fun b c=>?_,fun b O q c=>?_,_,W,G⟩
 .obtain⟨O,_,g⟩:=r b c;exact⟨O,l.1 b _ g,g⟩
 .obtain⟨o,_,g⟩:=h b O q c;exact⟨o,l.1 b _ g,g⟩
end
abbrev VB:aw av:=[.type "ValueError",.type "Exception",.type "BaseException",.type "object"]
theorem Inv.qF3(I:Inv X pins σ H s)(x:X.ex=[])(q:s.heap.get? e=none):X.s₀.heap.get? e=none:=by
 cases z:X.s₀.heap.get? e with
 | none=>rfl
 | some o=>
  obtain⟨_,y⟩:=I.base.there e o z (by rw[x];simp);rw[q]at y
  cases y
theorem Inv.VJ(I:Inv X pins σ H s)(q:s.heap.get? e=none):H e=none:=by
 cases z:H e with
 | none=>rfl
 | some o=>
  obtain⟨_,y⟩:=(I.hok e o z).there;rw[q]at y
  cases y
def XP(X:Cx)(p:aw (ar×Obj))(E:St->XK)(e:av)(s':ae):Prop:=∃ σ1 h S,Inv X p σ1 h S/\Ke X.prog X.w X.stack h S (E σ1) e s'
abbrev TEX:=St->Hp->VK->XK->Prop
abbrev TSX:=Ends->(St->XK)->St->Hp->Prop
def PEX(X:Cx)(e:Expr)(t:TEX):Prop:=∀ p s σ H Q E,Inv X p σ H s->t σ H Q (E σ)->wpAny (model X.prog X.w) X.A (eval e X.env) (EP X p σ Q) (XP X p E) s
def PSX(X:Cx)(st:aw Stmt)(t:TSX):Prop:=∀ p s σ H D E,Inv X p σ H s->t D E σ H->wpAny (model X.prog X.w) X.A (execs st X.env) (SP X p D) (XP X p E) s
theorem YW(F:aL X.prog X.w X.K X.mg X.base (Ke X.prog X.w) k f fd ps sp)(g:fP k X.A)(c:Binds X.K fd ps ds)(hd:Vals qw ds)
  (I:Inv X pins σ H s) (r:Vals vs us) (h:sp (vs++qw) H Q (E σ)):wpAny (model X.prog X.w) X.A (call (.ref f) us) (EP X pins σ Q) (XP X pins E) s:=by
 have R:=r.append hd
 have a:(us++ds).length=ps.length:=by
  rw[<-R.length];exact F.len _ _ _ _ h
 refine wpAny_call (codeAny_mono (F.run X.A X.stack s H ⟨us,[]⟩ (us++ds) (vs++qw) Q (E σ) g I.env0 (c s us I.mQ a) R h) fun r _ z=>?_)
 cases r with
 | error e=>exact⟨σ,H,s,I,z⟩
 | ok l=>
  cases l with
  | ret u=>exact I.after z
  | next=>exact c9 z
  | brk=>exact c9 z
  | cont=>exact c9 z
def JG(g:PEX X e tx)(d:swapsWith e none pos.line X.env=pure false:=by rfl):PSX X [.Expr e pos] (fun D E σ H=>tx σ H (fun _ a=>D.nx σ a) (E σ)):=by intro p s σ H D E I h;exact wpAny_execs_cons (wpAny_Expr_any (bH (g p s σ H _ E I h) fun v _ ⟨y,a,j,_,i⟩=>wpAny_execs_nil ⟨σ,a,j,i⟩) I.quiet d)
noncomputable abbrev Cx.Xq(X:Cx)(e:ar):Cx:={ X with A:=X.A.mark (some (.ref e)),calm:=false,xe:=fun _ _=>False }
def Inv.Xq(I:Inv X pins σ H s)(d:ar):Inv (X.Xq d) pins σ H s:=
 ⟨⟨I.ok.mod,I.ok.kind,I.ok.glob,I.ok.blt,I.ok.above,I.ok.inj,I.ok.has,I.ok.cab,(fun z=>Bool.noConfusion z),I.ok.frames,I.ok.stk,I.ok.exf,I.ok.bs,I.ok.Xw,I.ok.R9,I.ok.Wj,I.ok.uY,I.ok.ZS⟩,I.os,I.bare,I.base,I.loc,I.cell,I.free,I.jq,I.pin,I.hok,I.len⟩
def Inv.Xn(I:Inv (X.Xq ea) pins σ H s)(ok:X.Ok):Inv X pins σ H s:=⟨ok,I.os,I.bare,I.base,I.loc,I.cell,I.free,I.jq,I.pin,I.hok,I.len⟩
theorem SP.Xn(ok:X.Ok)(h:SP (X.Xq ea) pins D f s'):SP X pins D f s':=by
 cases f with
 | next=>obtain⟨σ',H,I,q⟩:=h;exact⟨σ',H,I.Xn ok,q⟩
 | brk=>obtain⟨σ',H,I,q⟩:=h;exact⟨σ',H,I.Xn ok,q⟩
 | cont=>obtain⟨σ',H,I,q⟩:=h;exact⟨σ',H,I.Xn ok,q⟩
 | ret u=>obtain⟨v,σ',H,I,r,q⟩:=h;exact⟨v,σ',H,I.Xn ok,r,q⟩
def qJM(K:bV)(C:ar)(T:TSX)(t:TS):TS:=fun D σ H=>T D (fun σ' c _ h=>PySem.W.exmOne K c (.ref C)=some true/\t D σ' h) σ H
theorem qBT(M:PSX X body tb)(T:Gl X x)(L:X.mg x=some (.ref C))(G:∀ e:ar,Cw (X.Xq e) (P::suite) th)(o:X.stack=X.env::X.outer:=by rfl)(r:X.env.frame=some X.env.locals:=by rfl)(l:(x==("__debug__" : Str))=false:=by decide) :
  PS X (.Try body [.ExceptHandler (some (.Name x np)) none (P::suite) hpos] [] [] pos) (qJM X.K C tb th):=by
 intro p s σ H D I h;refine wpAny_Try_except (c8 (M p s σ H D _ I h) (fun f i q=>?_) fun e i q=>?_)
 .cases f with
  | next=>exact wpAny_execs_nil q
  | brk=>exact q
  | cont=>exact q
  | ret u=>exact q
 obtain⟨σ1,_,_,j,d,k,_,m,B,rfl,A,n,E,hok,un,y,v,_,_,t,c⟩:=q;have W:=j.ok.frames;rw[o]at E W;refine wpAny_looks_onW W r E fun _ Q a=>wpAny_landsW Q fun w Z S=>?_;have u5:=un.flown v Z.1 (a.trans S) j.frames;have J:Inv X p σ1 m { i with heap:=w }:=j.call' A u5 (hok.flown y Z.1) n (fun _ z=>nomatch z);obtain⟨_,g,O⟩:=Z.there;refine wpAny_handleBy_cons (codeAny_handlers_test (nW (J.Xq d) T L ?_ l)) (by intro z;cases z)
 have LT:PySem.W.Looks (model X.prog X.w) w (typeOf (.ref d)) k:=by
  rw[<-O];exact (PySem.W.Looks.ld g).andThen .now
 refine (PySem.W.exm_one J.mQ LT t).here (codeAny_handlers_suite ?_);refine lands_againW Z fun N F b=>?_;have u6:=un.flown v F.1 ((a.trans S).trans b) j.frames;have R:Inv X p σ1 m { i with heap:=N }:=j.call' A u6 (hok.flown y F.1) n (fun _ z=>nomatch z);exact c8 (G d p _ σ1 m D (R.Xq d) c) (fun f _ q=>q.Xn j.ok) fun _ _ z=>z.elim
end L2
namespace L2
open PySem PySem.Spec PyProof.Rows PySem.W
structure wJ(K:Frag)(C:Addr):Prop where
 ga:findIn K (.ref C) "__getattribute__" = some (some (.builtin "BaseException.__getattribute__"))
 no:findIn K (.ref C) "__getattr__" = some none
 cl:findIn K (.ref C) "__class__" = some (some (.builtin "object.__class__"))
 ob:mroIn K C (.type "object")=some true
 be:mroIn K C (.type "BaseException")=some true
 is:(clsIn K C).isSome=true
section
variable{prog:ag}{w:aI}{A:ai}{E:av->ae->Prop}{h:Heap}{g:Array GenState}{d:Drawn}{t:Nat}{os:OsState}{a C:ar}{o:Obj}{K:Frag}
def Wk(X:K.In h)(q:wJ K C)(x:h.get? a=some o)(c:o.cls = .ref C)(b:R (.ok (.ret (.ref C))) ⟨h,g,d,t,os⟩) :
  codeAny (model prog w) A (.call (.builtin "getset_descriptor.__get__") ⟨[.builtin "object.__class__",.ref a,tp],[]⟩) R ⟨h,g,d,t,os⟩:=by
 have H:(⟨h,g,d,t,os⟩:ae).TypeIs (.builtin "object.__class__") "getset_descriptor" := F.typeOf_object_class
 have L:Looks (model prog w) h (isSubtype (.ref C) (.type (".".intercalate ("object.__class__".cutAt '.').dropLast))) true:=by
  rw[F.owner_object_class];exact looks_mroIn X q.ob
 refine codeAny_call_builtin F.slot_gs_get.plain F.entry_gs_get (F.slot_gs_get.check _ _ _ _ _ _ _ _ H (F.args_gs_get _ _ _) ?_)
 repeat (any_goals (first | assumption | (with_reducible refine wpAny_loadPart_at x ?_;rw[c]) | with_reducible refine L.at ?_ | wp_step))
 refine⟨Code.quiet_builtin _ (by decide +kernel),codeAny_builtin F.entry_object_class ?_⟩
 repeat (any_goals (first | assumption | (with_reducible refine wpAny_loadPart_at x ?_;rw[c]) | wp_step))
def Bj(X:K.In h)(q:wJ K C)(x:h.get? a=some o)(c:o.cls = .ref C)(H:Q () ⟨h,g,d,t,os⟩) :
  wpAny M A (checkBuiltinCall "BaseException.__getattribute__" ⟨[.ref a,nameV],[]⟩) Q E ⟨h,g,d,t,os⟩:=by
 have f:builtinKind "BaseException.__getattribute__" = some .slot:=by decide +kernel
 have b:splitId "BaseException.__getattribute__" = some ("BaseException","__getattribute__"):=by decide +kernel
 have e:=F.args_bexc_ga (.ref a) nameV;have LS:=looks_mroIn (M:=M) X q.be;simp only[checkBuiltinCall,f,b];refine aS ?_;unfold isInstance
 repeat (first | (with_reducible refine wpAny_loadPart_at x ?_;rw[c]) | with_reducible refine LS.at ?_ | wp_step)
 exact H
def Mq(X:K.In h)(q:wJ K C)(x:h.get? a=some o)(H:o.cls = .ref C)(c:Q (.done (.ret (.ref C))) ⟨h,g,d,t,os⟩) :
  wpAny (model prog w) A (Builtin.«object.__getattribute__» ⟨[.ref a,.str "__class__" tk],[]⟩) Q E ⟨h,g,d,t,os⟩:=by
 have b:(⟨h,g,d,t,os⟩:ae).TypeIs (.builtin "object.__class__") "getset_descriptor" := F.typeOf_object_class;have L:=looks_findIn (M:=model prog w) X q.cl;have i:=F.typeOf_object_class;have e:=F.slot_gs_get.lookup;have f:=F.slot_gs_set.lookup
 repeat (any_goals (first | assumption | (with_reducible refine wpAny_loadPart_at x ?_;rw[H]) | with_reducible refine L.at ?_ | wp_step))
 refine Wk X q x H ?_
 repeat (any_goals (first | assumption | wp_step))
def Za(X:K.In h)(q:wJ K C)(x:h.get? a=some o)(H:o.cls = .ref C)(c:Q (.ref C) ⟨h,g,d,t,os⟩) :
  wpAny (model prog w) A (getAttrBy (.ref a) (.str "__class__" tk) false) Q E ⟨h,g,d,t,os⟩:=by
 have n:=F.excAttr_ValueError.ga.bind (.ref a)
 have b:(Value.builtin "BaseException.__getattribute__" == Value.builtin "object.__getattribute__")=false:=by decide +kernel
 have e:(onTheHeap (Value.ref C)&&Value.builtin "BaseException.__getattribute__" == Value.builtin "object.__getattribute__")=false:=by rw[b];rfl
 have L:=looks_findIn (M:=model prog w) X q.ga;have l:=looks_findIn (M:=model prog w) X q.no
 repeat (any_goals (first | assumption | (with_reducible refine wpAny_loadPart_at x ?_;rw[H]) | with_reducible refine L.at ?_ | with_reducible refine l.at ?_ | wp_step))
 refine codeAny_call_builtin F.excAttr_ValueError.ga.plain F.entry_bexc_ga (Bj X q x H (Mq X q x H ?_))
 repeat (any_goals (first | assumption | wp_step))
def Rf(X:K.In h)(q:wJ K C)(x:h.get? a=some o)(H:o.cls = .ref C)(b:Q (some (.ref C)) ⟨h,g,d,t+1,os⟩) :
  wpAny (model prog w) A (getAttr? (.ref a) "__class__") Q E ⟨h,g,d,t,os⟩:=by
 unfold getAttr? getAttrBy?
 repeat (any_goals (first | assumption | with_reducible apply Za X q x H | wp_step))
def ExcAt(a C:ar)(D:aE ar)(h:Heap):Prop:=∃ O,h.get? a=some O/\O.cls = .ref C/\O.dict=D/\notCls O=true
def Ba(q:wJ K C):KitX K (.ref a) (.ref C) (ExcAt a C D) where
 ty:=fun M h _ ⟨O,x,H,_⟩=>by
  rw[<-H];exact (Looks.ld x).andThen .now
 it:=fun _ _ X _=>by
  have Z:=q.is;unfold clsIn at Z
  split at Z
  .rename_i o
   intro _ _ _ _ k z;unfold isType loadHead;exact aS (wpAny_loadPart (k _ _ (X _ _ o)) (aT z))
  .cases Z
 ne:=fun h T D _ n _ X p=>by
  refine eJ.mpr fun z=>?_;have e:C=T:=Value.ref.inj (beq_iff_eq.mp z);subst e;have Z:=q.is;unfold clsIn at Z
  split at Z
  .rename_i o
   have y:=(X _ _ o).symm.trans p
   cases y
  .cases Z
 ca:=fun {_ _ _ _ _ s} X ⟨O,x,H,_⟩ k=>by
  obtain⟨h,g,d,t,_⟩:=s;exact Rf X q x H k
end
def wD(a C:ar)(D:aE ar):HO:=.ext (ExcAt a C D)
def Gz(I:Inv X pins σ H s)(e:H a=some (wD a C dd)):ExcAt a C dd s.heap:=(I.hok a _ e).1
theorem DY:∀ {C:aw ar} {its:aw av},Vals (C.map V.ref) its->its=C.map Value.ref
 | [],_,.nil=>rfl
 | c::C,v::vs,.cons r z=>by
  cases (show v=Value.ref c from r)
  rw[bt,<-DY z]
def qER(K:Frag):aw V->Hp->VK->Prop:=fun xs H Q => ∃ a C D T b,xs=[.ref a,.ty T]/\H a=some (wD a C D)/\wJ K C/\kitOne K (.ref C) (.type T)=some b/\Q (.bl b) H
def X6:ir X (.builtin "isinstance") (qER X.K):=by
 intro _ s σ H _ _ Q I r h;obtain⟨a,C,_,T,b,rfl,f,q,e,z⟩:=h;obtain⟨u,W,rfl,c,R⟩:=vals2 r
 cases (show W=Value.type T from R)
 cases (show u=Value.ref a from c)
 exact kia_one (Ba q) I.mQ (Gz I f) e (fun y=>nomatch y) fun t=>⟨.bl b,H,I.tok t,rfl,z⟩
def qAI(K:Frag):aw V->Hp->VK->Prop:=fun xs H Q => ∃(a C T:ar)(D:aE ar)(c:aw ar)(b:Bool),xs=[.ref a,.ref T]/\H a=some (wD a C D)/\wJ K C/\H T=some (.tup (c.map V.ref)) ∧
  kitAny K (.ref C) (c.map Value.ref)=some b/\Q (.bl b) H
def Rr:ir X (.builtin "isinstance") (qAI X.K):=by
 intro _ s σ H _ _ Q I r h;obtain⟨a,C,T,_,c,b,rfl,j,q,ht,e,z⟩:=h;obtain⟨u,W,rfl,d,R⟩:=vals2 r
 cases (show W=Value.ref T from R)
 cases (show u=Value.ref a from d)
 obtain⟨_,its,v,O,g,i,n,f⟩:=(show bM X.prog X.w H s.heap T (.tup (c.map V.ref)) from I.hok T _ ht);have E:its=c.map Value.ref:=DY v;subst E;obtain⟨o,_,t,_⟩:=O
 cases (show o = .type "tuple" from i)
 cases (show t = .seq _ n from f)
 exact kia_tup (Ba q) I.mQ (Gz I j) g e (fun y=>nomatch y) fun k=>⟨.bl b,H,I.tok k,rfl,z⟩
end L2
namespace L2
open PySem PySem.Spec PyProof.Rows
def Inv.gone(I:Inv X pins σ H s)(N:X.N.Nodup)(f:X.N[i]? = some n)
  (x:∀(j:Nat)(y:Str)(v:V),X.N[j]? = some y->σ[j]? = some (some v)->Vis X.env.scope y->∃ u,RelV v u/\Look X.env s.heap m y u)
  (h:h'.Ns X.env.locals fun y=>if y=n then v' else m y) (d:Heap.SameBut X.env.locals s.heap h'):Inv X pins (σ.set i none) H { s with heap:=h',toks:=t' }:=by
 have o:∀ b O,X.s₀.heap.get? b=some O->b≠X.env.locals:=fun b O q=>jQ (KR (gQ q) I.ok.above)
 have D:i<σ.length:=by rw[I.len];exact (oW.mp f).1
 refine⟨I.ok,I.os,I.bare,⟨fun b O q z1 z2 z3=>?_,fun b O q z1 z2 z3=>?_,I.base.free,fun b O q z=>?_,I.base.tups,I.base.uZ,I.base.vH⟩,⟨_,h,fun j y v E a t=>?_⟩,fun y c q=>?_,I.free,I.jq,fun p A=>?_,fun b O q=>?_,by simpa using I.len⟩
 .exact (d.2 b (o b O q)).trans (I.base.keep b O q z1 z2 z3)
 .obtain⟨S,e⟩:=I.base.slot b O q z1 z2 z3;exact⟨S,(d.2 b (o b O q)).trans e⟩
 .obtain⟨g,e⟩:=I.base.there b O q z;exact⟨g,(d.2 b (o b O q)).trans e⟩
 .by_cases L:j=i
  .subst L;rw[dy D]at a
   cases a
  .rw[df (bE L)]at a;obtain⟨u,r,l⟩:=x j y v E a t;refine⟨u,r,?_⟩;rcases l with ⟨k,e⟩ | ⟨k,c,e,z⟩
   .have:y≠n:=fun e=>L (BV N E (e▸f));exact .inl ⟨k,(cK this).trans e⟩
   .exact .inr ⟨k,c,e,z.sameBut d (I.Zi y c e)⟩
 .obtain⟨v,z⟩:=I.cell y c q;exact⟨v,z.sameBut d (I.Zi y c q)⟩
 .obtain⟨e,z1,z2,z3,z4⟩:=I.pin p A;exact⟨(d.2 p.1 z2).trans e,z1,z2,z3,z4⟩
 .refine (I.hok b O q).stay (fun c u w e=>(d.2 c fun z=>?_).trans e) (fun _ z=>z) fun _ _ z=>z;rcases w with y | y
  .rw[<-y,z,I.free]at q
   cases q
  .rw[z,I.free]at y
   cases y
def qBA(K:bV)(C:ar)(i:Nat)(T:TSX)(t:TS):TS:=fun D σ H=>T D (fun σ' c e a=>∃ b:ar,c = .ref b/\PySem.W.exmOne K c (.ref C)=some true ∧
 ∀ d,a d=none->t { nx:=fun σ2 h=>D.nx (σ2.set i none) h,rt:=D.rt,bk:=fun σ2 h=>D.bk (σ2.set i none) h,ct:=fun σ2 h=>D.ct (σ2.set i none) h } (σ'.set i (some (.ref d))) (upd a d (wD d b e))) σ H
theorem UW(l:PSX X body tb)(hg:Gl X x)(hm:X.mg x=some (.ref C))(O:X.N.Nodup)(M:X.N[i]? = some n)(y:X.env.scope.names.lookup n=some .local)(hh:∀ e:ar,Cw (X.Xq e) (b0::suite) th)
  (hst:X.stack=X.env::X.outer:=by rfl) (hfr:X.env.frame=some X.env.locals:=by rfl) (hdb:(x==("__debug__" : Str))=false:=by decide) :
  PS X (.Try body [.ExceptHandler (some (.Name x np)) (some n) (b0::suite) hpos] [] [] pos) (qBA X.K C i tb th):=by
 intro p s σ H D I h;refine wpAny_Try_except (c8 (l p s σ H D _ I h) (fun f s1 q=>?_) fun e s1 q=>?_)
 .cases f with
  | next=>exact wpAny_execs_nil q
  | brk=>exact q
  | cont=>exact q
  | ret u=>exact q
 obtain⟨σ1,H1,s0,j,d,_,_,A,B,rfl,ho,J,fl,hok,un,hB,hC,dd,hdd,T,rfl,hmt,hth⟩:=q;have WQ:=j.ok.frames;rw[hst]at fl WQ;refine RK WQ hfr fl hdd fun _ W3 P dk4=>qCK W3 dk4 fun h5 Z S dk5=>?_;have u5:=un.flown hC Z.1 (P.trans S) j.frames;have J5:Inv X p σ1 A { s1 with heap:=h5 }:=j.call' ho u5 (hok.flown hB Z.1) J (fun _ z=>nomatch z);obtain⟨_,hob,hoc⟩:=Z.there;refine wpAny_handleBy_cons (codeAny_handlers_test (nW (J5.Xq d) hg hm ?_ hdb)) (by intro z;cases z)
 have LT:PySem.W.Looks (model X.prog X.w) h5 (typeOf (.ref d)) (.ref T):=by
  rw[<-hoc];exact (PySem.W.Looks.ld hob).andThen .now
 refine (PySem.W.exm_one J5.mQ LT hmt).here (codeAny_handlers_suite_as ?_);refine Gj Z dk5 fun R F sl6 dk6=>?_;have u6:=un.flown hC F.1 ((P.trans S).trans sl6) j.frames;obtain⟨W,ws,U,c6,d6,_⟩:=F.first
 have q6:W.dict=dd:=by
  obtain⟨o,z1,z2⟩:=dk6;rw[show R.get? d=some W from U]at z1
  cases z1
  exact z2.1
 have E:A d=none:=by
  cases q:A d with
  | none=>rfl
  | some z=>
   obtain⟨o,_,e2⟩:=hB d (by rw[q];rfl);rw[fl.2.1]at e2
   cases e2
 have nea:∀ b o,s0.heap.get? b=some o->b≠d:=fun b o q z=>by
  subst z
  by_cases l:b∈frs X.stack
  .obtain⟨z1,o2,G,nf⟩:=j.frames b l;rw[q]at G
   cases G
   obtain⟨_,q3⟩:=u6.slot b o q z1 l (by simp);rw[U]at q3
   cases q3
   exact nf ws d6
  .obtain⟨_,_,G⟩:=hC b o q l;rw[fl.2.1]at G
   cases G
 have u7:Un (frs X.stack) [] H1 (upd A d (wD d T dd)) s0.heap R:=by
  refine⟨u6.keep,u6.slot,fun b o q z1 z2=>?_,u6.there,fun b xs q=>?_,fun b o u q=>?_,fun b ps q=>?_⟩
  .rw[zR (nea b o q)];exact u6.free b o q z1 z2
  .have Q:=u6.tups b xs q;rw[zR (zN Q E)];exact Q
  .have Q:=u6.uZ b o u q;rw[zR (zN Q E)];exact Q
  .obtain⟨more,Q⟩:=u6.vH b ps q;exact⟨more,by rw[zR (zN Q E)];exact Q⟩
 have hk6:=hok.flown hB F.1
 have hk7:lM X.prog X.w (upd A d (wD d T dd)) R:=fun b o q=>by
  by_cases l:b=d
  .subst l;rw[zC]at q
   cases q
   exact⟨⟨W,U,c6,q6,by unfold PySem.W.notCls;rw[d6]⟩,⟨W,U⟩,fun _ _ ⟨o2,z1,z2⟩ k=>⟨o2,k o2 z1,z2⟩⟩
  .rw[zR l]at q;refine (hk6 b o q).stay (fun _ _ _ z=>z) (fun c z=>?_) fun c xs z=>?_
   .rw[zR (zN z E)];exact z
   .rw[zR (zN z E)];exact z
 have J6:Inv X p σ1 (upd A d (wD d T dd)) { s1 with heap:=R }:=j.call' ho u7 hk7 J (fun _ z=>nomatch z);refine oZ (v:=.ref d) J6 O M (.inl y) rfl (fun _ I8=>?_) (.inr y);refine c8 (hh d p _ _ _ _ (I8.Xq d) (hth d E)) (fun f _ q=>?_) fun _ _ z=>z.elim
 have Y:(X.env.scope.kind==.class||(X.env.scope.kind==.module&&X.env.locals != X.env.globals))=false:=by
  rw[I.ok.kind];rfl
 cases f with
 | next=>
  obtain⟨σ9,t,m,w⟩:=q;have g:=m.Xn j.ok;obtain⟨m9,N,L⟩:=id g.loc;exact wpAny_nameGoes_keeps y N Y fun h' v' a r=>⟨_,t,g.gone O M L a r,w⟩
 | brk=>
  obtain⟨σ9,t,m,w⟩:=q;have g:=m.Xn j.ok;obtain⟨m9,N,L⟩:=id g.loc;exact wpAny_nameGoes_keeps y N Y fun h' v' a r=>⟨_,t,g.gone O M L a r,w⟩
 | cont=>
  obtain⟨σ9,t,m,w⟩:=q;have g:=m.Xn j.ok;obtain⟨m9,N,L⟩:=id g.loc;exact wpAny_nameGoes_keeps y N Y fun h' v' a r=>⟨_,t,g.gone O M L a r,w⟩
 | ret u=>
  obtain⟨v,σ9,t,m,r9,w⟩:=q;have g:=m.Xn j.ok;obtain⟨m9,N,L⟩:=id g.loc;exact wpAny_nameGoes_keeps y N Y fun h' v' a r=>⟨v,_,t,g.gone O M L a r,r9,w⟩
section
variable{P:ag}{w:aI}{K:bV}{mg:Str->aE av}{base:Heap}
def bO.okX{st:Stmt}{f:ar}{a:af}{N ps:aw Str}{k:Nat}{sp:Sp}(F:bO K x qual st f a)(S:aF N ps (aA st))(len:∀ vs H Q E,sp vs H Q E->vs.length=ps.length)
  (i:∀ c A o s H vs Q E,fP k (A.deeper (envOfC qual (aA st) s.heap.objs.size f c))->sp vs H Q E →
   ∃ t,Cw (wF (Ke P w) P w K mg base N qual (aA st) f c A o s H E) (jE st) t/\t { nx:=fun _ h=>Q .non h,rt:=Q } (start N vs) H):aL P w K mg base (Ke P w) (k+1) f a ps sp:=by apply aW;intro _ g_;obtain⟨_,_,_,_,_,_,c,_,_,rfl,L,d⟩:=F.ex;apply g_;clear g_;exact qAT L d S len fun A o s H vs Q E g m=>i c A o s H vs Q E g m
end
end L2
namespace L2
open PySem PySem.Spec PyProof.Rows PySem.W
noncomputable def sE(K:Frag)(C fI:ar):Bool:=match K.lookup C with
 | some ⟨.type "type",_,.cls c,s⟩=>(match c.mro,s.toList with
  | .ref a::b,[_,_,_,_,some (.builtin n),_]=>a==C&&(n == "ValueError.__new__" && (!c.hasDel&&(c.hasDict&&(tailIn K VB b&&(nsOkIn K c.ns&&(nsIn K c.ns "__init__" == some (some (.ref fI))&&isFn K (.ref fI)))))))
  | _,_=>false)
 | _=>false
def KN(h:Heap)(C fI:ar):Prop:=∃ b N nm q bs s sub a c D d e k f i m o,h.get? C=some (excClassObj nm q C N bs b true s sub a c D d e k f i "ValueError.__new__")/\h.Ns N m ∧
 m "__init__" = some (.ref fI)/\OwnTail h VB b/\h.get? fI=some o/\o.cls = .type "function"
def Z6{K:Frag}{h:Heap}{N:ar}{mg:Str->aE av}{n:Str}{v:av}(X:K.In h)(G:h.Ns N mg)(e:nsIn K N n=some (some v)):mg n=some v:=by
 obtain⟨o,_,_,a,hd,_,H⟩:=G;unfold nsIn at e
 split at e
 .rename_i c d E b s q
  have z:=X _ _ q;rw[a]at z
  cases z
  cases hd
  split at e
  .rename_i g
   cases e
   rw[<-H];unfold nsFind findBy;rw[<-Array.find?_toList,g];rfl
  .split at e <;> cases e
 .cases e
theorem KN.of{K:Frag}{h:Heap}{C fI:ar}(q:sE K C fI=true)(X:K.In h):KN h C fI:=by
 unfold sE at q
 split at q
 .rename_i D c s L
  split at q
  .rename_i x B r v t w n k E e
   simp only[Bool.and_eq_true,beq_iff_eq,Bool.not_eq_true']at q;obtain⟨p,j,f,Q,u,b,i,g⟩:=q;subst p j;obtain⟨nm,bs,_,ns,m,_,S,sub,A,d,_⟩:=c;simp only at E f b i Q;subst E f Q;obtain⟨l⟩:=s;simp only at e;subst e
   have z:∃ o,h.get? fI=some o/\o.cls = .type "function" := by
    unfold isFn at g;have a:=beq_iff_eq.mp g;simp only[typeIn]at a
    cases lf:K.lookup fI with
    | none=>rw[lf]at a;cases a
    | some O=>rw[lf]at a;exact⟨O,X _ _ lf,kJ a⟩
   obtain⟨o,z1,z2⟩:=z;exact⟨B,ns,nm,m,bs,S,sub,A,d,D,r,v,t,w,k,_,o,X _ _ L,.of_isNs (isNs_of_in X b),Z6 X (.of_isNs (isNs_of_in X b)) i,tail_of_in X u,z1,z2⟩
  .cases q
 .cases q
section
variable{prog:ag}{w:aI}{A:ai}{E:av->ae->Prop}{h:Heap}{g:Array GenState}{d:Drawn}{t:Nat}{os:OsState}{C fI:ar}
def Rw{rest:aw av}{Q:av->ae->Prop}(c:KN h C fI)(f:rest.length<=sizeLine)
  (n:∀ h' e,Heap.MadeExcOf h h' e (.ref C) rest->wpAny (model prog w) (A.under (.builtin "type.__call__" ⟨.ref C::rest,[]⟩)) (call (.ref fI) (.ref e::rest)) (fun r s'=>r = .none/\Q (.ref e) s') E ⟨h',g,d,t,os⟩) :
  wpAny (model prog w) A (call (.ref C) rest) Q E ⟨h,g,d,t,os⟩:=by
 obtain⟨B,N,_,_,_,_,_,_,_,_,_,_,k,_,_,_,_,H,s,v,T,I,m⟩:=c;have F:=ky;have z:=tc_lookup;have D:=tc_bind (.ref C);have G:(⟨h,g,d,t,os⟩:ae).TypeIs (.ref C) "type" := ⟨_,H,rfl⟩;refine wpAny_call (codeAny_of_tree ?_);show wpAny _ _ (callAny (.ref C) _) _ _ _
 repeat (any_goals (first | assumption | with_reducible refine wpAny_loadPart_at H ?_ | wp_step))
 refine⟨rfl,codeAny_call_builtin_at (Code.quiet_builtin _ (by decide +kernel)) entry_typeCall (wpAny_check_type_call_sub H ?_)⟩
 repeat (first | with_reducible refine wpAny_loadPart_at H ?_ | with_reducible refine wpAny_madeBy_exc H ?_ | wp_step)
 refine codeAny_call_builtin_code (Code.quiet_builtin _ F.quiet) (wpAny_check_new_subT F T H (codeAny_exc_new_subT F T H ?_ f));show wpAny _ _ _ _ _ ⟨(h.push { cls:=.type "tuple",data:=.seq rest.toArray }).push { cls:=.ref C,data:=.fields #[.ref h.objs.size,.none,.none,.none,.bool false,.none] },g,d,t,os⟩;generalize i:(h.push { cls:=.type "tuple",data:=.seq rest.toArray }).push { cls:=.ref C,data:=.fields #[.ref h.objs.size,.none,.none,.none,.bool false,.none] }=q
 have k:∀ b o,h.get? b=some o->q.get? b=some o:=fun b o e=>by rw[<-i];exact fM _ (fM _ e)
 have a:q.get? (h.objs.size+1)=some { cls:=.ref C,data:=.fields #[.ref h.objs.size,.none,.none,.none,.bool false,.none] }:=by rw[<-i];heap_get
 have p:q.get? h.objs.size=some { cls:=.type "tuple",data:=.seq rest.toArray }:=by rw[<-i];exact fM _ (Heap.get?_push_at rfl rfl)
 have l:(Value.ref C::B).contains (.ref C)=true:=by simp
 have j:=k _ _ H;unfold isInstance
 repeat (first | with_reducible refine wpAny_loadPart_at a ?_ | (with_reducible refine wpAny_isSubtype_exc j ?_;rw[l]) | wp_step)
 show wpAny _ _ (typeLookup (.ref C) _) _ _ _;refine wpAny_typeLookup_tail j (s.keeps k) (T.keeps k) F.mroIs F.init.lookup ?_;rw[v];refine cq (aS ?_);unfold bindSpecial;refine aS (wpAny_typeOf (T := "function") ⟨_,k _ _ I,m⟩ ?_);rw[cS (by decide)];refine aT (aS (c8 (n _ (h.objs.size+1) ⟨k,eS (ip _),h.objs.size,a,eS (bD _),p⟩) (fun r s' u=>?_) fun _ _ x=>x));obtain⟨rfl,y⟩:=u
 wp_walk
 exact y
end
def Ld(k:A.handled=none)
  (h:wpAny M A x (fun v S => ∃ e G vs,v = .ref e/\KN S.heap C fI/\S.heap.get? e=some G/\G.cls = .ref C/\G.data = .fields vs/\vs[1]? = some .none/\E (.ref e) S) E s) :
  wpAny M A (raiseStmt env (some x) none) Q E s:=by
 unfold raiseStmt;refine aS (c8 h (fun v S j=>?_) fun _ _ x=>x);obtain⟨e,G,vs,rfl,⟨B,N,_,_,_,_,_,_,_,_,_,_,_,_,_,_,_,b,_,_,T,_,_⟩,a,c,hd,i,f⟩:=j
 have H:(Value.ref C::B).contains (.type "BaseException")=true:=by rw[List.contains_cons,T.hasType PySem.F.excBase_ValueError.hasBase,Bool.or_true]
 obtain⟨p,g,d,t,os⟩:=S;obtain⟨_,_,_,_⟩:=G;simp only at c hd;subst c hd;have fld:∀ {q:av->ae->Prop},q .none ⟨p,g,d,t,os⟩->wpAny M A (field (.ref e) 1) q E ⟨p,g,d,t,os⟩:=fun z=>wpAny_field a rfl i z
 repeat (first | with_reducible refine wpAny_loadPart_at a ?_ | with_reducible refine wpAny_loadPart_at b ?_ | (with_reducible refine wpAny_isSubtype_exc b ?_;rw[H]) | with_reducible refine fld ?_ | wp_step)
 exact wpAny_raiseNew_none k f
def qDD(e C:ar)(D:aE ar)(h:Heap):Prop:=∃ Z:ar,h.get? e=some { cls:=.ref C,dict:=D,data:=.fields #[.ref Z,.none,.none,.none,.bool false,.none] }
def xQ(e C:ar)(D:aE ar):HO:=.ext (qDD e C D)
def Ge(x:qDD e C dd h):bM P w H h e (xQ e C dd):=
 ⟨x,let ⟨_,q⟩:=x;⟨_,q⟩,fun _ _ ⟨Z,q⟩ k=>⟨Z,k _ q⟩⟩
def Inv.laidN(I:Inv X pins σ H s)(k:∀ b u,s.heap.get? b=some u->h'.get? b=some u)(p:s.heap.get? a=none)(new:bM X.prog X.w (upd H a o) h' a o) :
  Inv X pins σ (upd H a o) { s with heap:=h',toks:=t' }:=by
 have j:H a=none:=I.VJ p;refine I.un ⟨fun b u q _ _ _=>k b u q,fun b u q _ _ _=>⟨u.slots,k b u q⟩,fun b u q n _=>?_,fun b u q _=>⟨u,k b u q⟩,fun b xs q=>?_,fun b u xs q=>?_,fun b _ q=>⟨#[],?_⟩⟩ fun b u q=>?_
 .rw[zR (fun z=>by subst z;rw[p]at q;cases q)];exact n
 .rw[zR (zN q j)];exact q
 .rw[zR (zN q j)];exact q
 .rw[zR (zN q j),q];simp
 .by_cases h:b=a
  .subst h;rw[zC]at q
   cases q
   exact new
  .rw[zR h]at q
   exact (I.hok b u q).stay (fun c v _ z=>k c v z) (fun c z=>by rw[zR (zN z j)];exact z) fun c xs z=>by rw[zR (zN z j)];exact z
def Y5(C:ar)(sp:Sp)(q:aw V)(E:XK)(t:TA):TS:=fun _ σ H=>t σ H fun vs a=>vs.length<=sizeLine/\∀ e,a e=none →
 sp (.ref e::(vs++q)) (upd a e (xQ e C none)) (fun v h=>v = .non/\∃ D,h e=some (xQ e C D)/\E (.ref C) D (del h e)) E0
theorem QS{a:Expr}{rest:aw Expr}{t:TA}{E:XK}(N:XX X E)(G:X.calm=true)(hg:Gl X x)
  (m:X.mg x=some (.ref C)) (w:sE X.K C fI=true) (P:keepIn X.K (.ref C)=true) (F:aL X.prog X.w X.K X.mg X.base (Ke X.prog X.w) k fI fd ps sp) (hr:fP (k+1) X.A) (J:Binds X.K fd ps ds) (hd:Vals qw ds)
  (Q:PA X (a::rest) t) (hex:X.ex=[]:=by rfl) (b:(x==("__debug__" : Str))=false:=by decide)
  (W:starEach (a::rest) X.env=(false,eval a X.env)::starEach rest X.env:=by rfl) (l:(backTo cpos (starEach rest X.env)).any (·.1)=false:=by rfl) :
  PS X (.Raise (some (.Call (.Name x np) (a::rest) [] cpos)) none pos) (Y5 C sp qw E t):=by
 intro p s σ H D I h;rw[arm_exec_Raise];simp only[evalOpt,Option.map];refine aS (wpAny_standAt (Ld (C:=C) (fI:=fI) (I.ok.hd G) (aS (c8 ?_ (fun v _ c=>aS (wpAny_standAt (aT c))) fun _ _ x=>x))));refine wpAny_Call_Name_kw (nW I hg m ?_ b);refine callWith_K (h₀:=X.base) I.ok.mod.kin P (bH (Q cpos p s σ H _ I h) fun us S ⟨vs,H1,j,r,U,q⟩=>⟨j.mQ,?_⟩) W l;obtain⟨_,g,d,T,_⟩:=S;refine Rw (KN.of w j.mQ) (by rw[List.nil_append,<-r.length];exact U) fun _ e m=>?_;obtain⟨Z,z1,_,_⟩:=m.there;have hH:H1 e=none:=j.VJ m.new;have A:=j.laidN (o:=xQ e C none) (t':=T) m.keeps m.new (Ge ⟨Z,z1⟩);have f:=q e hH;have R:Vals (V.ref e::(vs++qw)) (Value.ref e::(us++ds)):=.cons rfl (r.append hd)
 have M:(Value.ref e::us++ds).length=ps.length:=by
  have z:=R.length;rw[F.len _ _ _ _ f]at z;exact z.symm
 refine wpAny_call (codeAny_mono (F.run _ X.stack _ _ ⟨Value.ref e::us,[]⟩ (Value.ref e::(us++ds)) _ _ E0 (hr.make C us []) (A.env0.make C us []) (J _ (Value.ref e::us) A.mQ M) R f) fun r s' z=>?_)
 cases r with
 | error e=>obtain⟨_,_,_,_,_,_,_,_,_,_,_,_,_,_,_,y⟩:=z;exact y.elim
 | ok fl=>
  cases fl with
  | ret u=>
   obtain⟨v,H',n,O,L,_,Y,B⟩:=A.after z;subst L;obtain⟨⟨t1,i⟩,_⟩:=n.hok e _ Y;exact⟨O,e,_,_,rfl,KN.of w n.mQ,i,rfl,rfl,rfl,N p σ H' s' e C (.ref t1) _ _ n (j.qF3 hex m.new) (.inr ⟨_,Y⟩) i rfl rfl rfl rfl (fun _=>rfl) B⟩
  | next=>exact c9 z
  | brk=>exact c9 z
  | cont=>exact c9 z
def Rz{rest:aw av}{Q:av->ae->Prop}(c:KN s.heap C fI)(a:s.heap.get? e=some { cls:=.ref C,dict:=dd,data:=.fields #[.ref t0,.none,.none,.none,.bool false,.none] })(f:rest.length<=sizeLine)
  (h:∀ h',qDD e C dd h'->(∀ b o,b≠e->s.heap.get? b=some o->h'.get? b=some o)->Q .none { s with heap:=h' }):wpAny (model prog w) A (call (.builtin "ValueError.__init__") (.ref e::rest)) Q E s:=by
 obtain⟨_,N,_,_,_,_,_,_,_,_,_,_,_,_,_,_,_,i,_,_,T,_,_⟩:=c;have F:=ky;obtain⟨p,g,d,_,_⟩:=s;refine wpAny_call (codeAny_call_builtin F.init.plain F.initEntry (wpAny_check_init_subT F T i a rfl ?_));unfold Builtin.«BaseException.__init__»
 dsimp only
 rw[if_neg (by simp)];unfold newTuple Builtin.BaseException.bexcPut;have H:=fM (h:=p) { cls:=.type "tuple",data:=.seq rest.toArray } a;refine aS (wpAny_newObj_type (aS (aS (wpAny_field H rfl rfl (aS (wpAny_setField H rfl (by show 0<6;decide) ?_))))) (by show rest.toArray.size<=sizeLine;rw[CV];exact f));refine wpAny_letGo (aT (h _ ⟨p.objs.size,?_⟩ fun b o j q=>?_))
 .rw[cm _ H rfl];rfl
 .rw[ck _ _ (bE j)];exact fM _ q
def tBase(K:Frag)(t:TA):TS:=fun D σ H=>t σ H fun vs h => ∃ e C fI d xs,vs = .ref e::xs/\xs.length<=sizeLine/\sE K C fI=true/\h e=some (xQ e C d)/\D.nx σ (upd h e (xQ e C d))
theorem Yi{j:Expr}{rest:aw Expr}{t:TA}{pl:Sem Bool}(L:Gl X x)(v:X.mg x=some (.ref B))(m:specialIn X.K (.ref B) "__getattribute__" = some (some (.builtin "type.__getattribute__")))
  (d:readsIn X.K B (.type "type")=true) (G:findCls X.K (.ref B) (.type "type") "__init__" = some (.val (.builtin "ValueError.__init__"))) (E:PA X (j::rest) t) (c:(x==("__debug__" : Str))=false:=by decide)
  (J:starEach (j::rest) X.env=(false,eval j X.env)::starEach rest X.env:=by rfl) (l:(backTo cpos (starEach rest X.env)).any (·.1)=false:=by rfl)
  (ht:eval (.Call (.Attribute (.Name x np) "__init__" ap) (j::rest) [] cpos) X.env=(do
   let ov ← eval (.Name x np) X.env
   standAt ap.atName
   let (f,first) ← holding [ov] (getMethod ov "__init__" pl)
   callWith cpos f first (backTo cpos (starEach (j::rest) X.env)) (backToKw cpos (keywordEach [] X.env))):=by rfl)
  (A:swapsWith (.Call (.Attribute (.Name x np) "__init__" ap) (j::rest) [] cpos) none pos.line X.env=pure false:=by rfl) :
  PS X (.Expr (.Call (.Attribute (.Name x np) "__init__" ap) (j::rest) [] cpos) pos) (tBase X.K t):=by
 intro p s σ H D I h;refine wpAny_Expr_any (Q:=SP X p D) ?_ I.quiet A;refine methodCall_KW (pl:=pl) (nW I L v ?_ c) ht;refine method_cls I.mQ m (cls_value I.mQ d G rfl ?_);refine callWith_builtin1 (bH (E cpos p _ σ H _ (I.tok _) h) fun us S ⟨_,_,i,r,z⟩=>?_) J l;obtain⟨e,C,_,_,xs,rfl,F,g,q,o⟩:=z
 obtain⟨u,w,rfl,r1,r2⟩:∃ u w,us=u::w/\RelV (.ref e) u/\Vals xs w:=by
  cases r with
  | cons a b=>exact⟨_,_,rfl,a,b⟩
 cases (show u=Value.ref e from r1)
 obtain⟨⟨_,y⟩,_⟩:=i.hok e _ q;refine Rz (KN.of g i.mQ) y (by rw[<-r2.length];exact F) fun _ n k=>?_;exact⟨σ,_,i.write (x:=e) (e:=e) (t':=S.toks) (by rw[q];exact e9) (.inl rfl) k (let ⟨_,z⟩:=n;⟨_,z⟩) (Ge n),o⟩
end L2
namespace L2
open PySem PySem.Spec PyProof.Rows PySem.W
open Builtin Builtin.ObjectAttr
def Uj:aw av->Bool
 | .ref _::r=>Uj r
 | l=>l==VB
theorem wZ(S:av):∀ {l:aw av},Uj l=true->refuseLoop S "__setattr__" l=pure ()
 | .ref c::r,e=>by rw[refuseLoop_ref];exact wZ S (l:=r) e
 | [],e=>by cases e
 | .none::r,e=>by cases e
 | .bool b::r,e=>by cases e
 | .int i t::r,e=>by cases e
 | .float _ _::r,e=>by cases e
 | .str _ _::r,e=>by cases e
 | .type n::r,e=>by
  rw[show (Value.type n::r)=VB from beq_iff_eq.mp e];exact PySem.F.store_ValueError.passes S
 | .builtin n::r,e=>by cases e
 | .notImplemented::r,e=>by cases e
 | .ellipsis::r,e=>by cases e
structure HR(K:Frag)(C:Addr)(f:Str):Prop where
 sa:findIn K (.ref C) "__setattr__" = some (some (.builtin "object.__setattr__"))
 no:findIn K (.ref C) f=some none
 ok:((clsIn K C).any fun cd=>Uj cd.mro&&cd.hasDict)=true
 ob:mroIn K C (.type "object")=some true
section
variable{prog:ag}{w:aI}{A:ai}{E:av->ae->Prop}{s:ae}{K:Frag}{e C:ar}{f:Str}{v:av}{vs:Array av}
def YJ(X:K.In s.heap)(q:HR K C f)(g:s.heap.get? e=some { cls:=.ref C,dict:=none,data:=.fields vs })
  (h:∀ h' t',h'.get? e=some { cls:=.ref C,dict:=some s.heap.objs.size,data:=.fields vs }->h'.Ns1 s.heap.objs.size (fun y=>if y=f then some v else none)->(∀ b o,b≠e->s.heap.get? b=some o->h'.get? b=some o) →
   Q () { s with heap:=h',toks:=t' }):wpAny (model prog w) A (setAttr (.ref e) f v) Q E s:=by
 have I:InstAt s.heap e { cls:=.ref C,dict:=none,data:=.fields vs } C none:=⟨g,rfl,rfl,e9⟩;refine set_plain X I q.sa ?_;have S:=PySem.F.store_object;obtain⟨x,l,d⟩:=any_some q.ok;obtain⟨u,hd⟩:=dP.mp d;have sub:Looks (model prog w) s.heap (isInstance (.ref e) (.type "object")) true:=I.type.andThen (looks_mroIn X q.ob);refine codeAny_call_builtin S.slot.plain S.entry (@check_slot (model prog w) _ _ { s with toks:=s.toks+1 } "object.__setattr__" "object" "__setattr__" (.ref e) [.str f s.toks,v] [] _ S.kind S.split sub (S.args (.ref e) (.str f s.toks) v) ?_);have n:Looks (model prog w) s.heap (mroOf (.ref C)) x.mro:=(looks_clsIn X l).andThen .now;rw[osa_eq,refuse_eq];refine aS (aS (Looks.here (s:={ s with toks:=s.toks+1 }) I.type (aS (Looks.here (s:={ s with toks:=s.toks+1 }) n ?_))));rw[wZ _ u];refine aT (aS (Looks.here (s:={ s with toks:=s.toks+1 }) I.type (aS (Looks.here (s:={ s with toks:=s.toks+1 }) (looks_findIn X q.no) (aS (aT ?_))))));show wpAny _ _ (storeInOwnDict (.ref e) (.ref C) (.str f s.toks) f v false) _ _ _;refine aS (aT (aS (aS (wpAny_loadPart g (aS (Looks.here (s:={ s with toks:=s.toks+1 }) (looks_clsIn X l) ?_))))));rw[hd];have c:e≠s.heap.objs.size:=jQ (gQ g);have H:(s.heap.push { cls:=.type "dict",data:=.dict #[] }).get? e=some { cls:=.ref C,dict:=none,data:=.fields vs }:=fM _ g;refine aS (wpAny_alloc' (aS (wpAny_update' H (aT ?_))))
 have t:((s.heap.push { cls:=.type "dict",data:=.dict #[] }).update e fun o=>{ cls:=o.cls,dict:=some s.heap.objs.size,data:=o.data,slots:=o.slots }).get? s.heap.objs.size=some { cls:=.type "dict",data:=.dict #[] }:=
  (Heap.get?_update_ne _ _ _ _ c.symm).trans (Heap.get?_push_at rfl rfl)
 have r:((s.heap.push { cls:=.type "dict",data:=.dict #[] }).update e fun o=>{ cls:=o.cls,dict:=some s.heap.objs.size,data:=o.data,slots:=o.slots }).get? e=some { cls:=.ref C,dict:=some s.heap.objs.size,data:=.fields vs }:=
  cm _ H rfl
 have k:((s.heap.push { cls:=.type "dict",data:=.dict #[] }).update e fun o=>{ cls:=o.cls,dict:=some s.heap.objs.size,data:=o.data,slots:=o.slots }).Ns s.heap.objs.size (fun _=>none):=
  ⟨_,#[],_,t,rfl,fun e g=>absurd g (by simp),fun _=>rfl⟩
 refine aS (aT (aS ?_));refine wpAny_nsSet1 (Heap.Ns1.of_empty k) fun h' a m=>?_;obtain⟨_,_,_,i,j,D⟩:=a.count (Within.cons f v Within.nil);refine aS (wpAny_lookBehind i (by rw[j];exact pastItsLine_dict (br D (by rw[dG,fT,sizeLine_eq];lia))) ?_);refine aT (h h' _ ((m.2 e c).trans r) a fun b o p d=>?_);exact (m.2 b (jQ (gQ d))).trans ((Heap.get?_update_ne _ _ _ _ p).trans (fM _ d))
end
def HR.dict{K:Frag}{C:ar}{f:Str}(q:HR K C f):hasDictIn K C=true:=by obtain⟨_,d,h⟩:=any_some q.ok;unfold hasDictIn;rw[d];exact (dP.mp h).2
section
variable{prog:ag}{w:aI}{A:ai}{E:av->ae->Prop}{K:Frag}{a C dx:ar}{f:Str}{v:av}{o:Obj}{mA:Str->aE av}
def ZQ{t:Nat}{os:OsState}{b:Bool}{Q:av->ae->Prop}(X:K.In h)(q:wJ K C)(j:HR K C f)(H:h.get? a=some o)(c:o.cls = .ref C)(i:notCls o=true)(hd:o.dict=some dx)(p:h.Ns1 dx mA)
  (k:mA f=some v) (s:handedIn v=true) (m:Q v ⟨h,g,d,t+1,os⟩):wpAny (model prog w) A (getAttr (.ref a) f b) Q E ⟨h,g,d,t,os⟩:=by
 obtain⟨od,u,l⟩:=Ef p;have I:InstAt h a o C (some od):=⟨H,c,i,by rw[hd];exact u⟩;have L:=looks_find (M:=model prog w) X I (findObj_own j.dict j.no rfl ((l f).trans (congrArg some k)))
 have x:(Value.builtin "BaseException.__getattribute__" == Value.builtin "object.__getattribute__")=false:=by decide +kernel
 have n:(onTheHeap (Value.ref C)&&Value.builtin "BaseException.__getattribute__" == Value.builtin "object.__getattribute__")=false:=by rw[x];rfl
 refine aS (wpAny_mkText (cq (aS (I.type _ _ _ _ (fun _ _ e=>e) (aS (looks_findIn X q.ga _ _ _ _ (fun _ _ e=>e) ?_))))))
 dsimp only
 rw[n,cK rA];refine aS ((looks_hook (mc:=.ref C) X (r:=none) (by rw[cS (show onTheHeap (Value.ref C)=true from rfl)];exact q.no)) _ _ _ _ (fun _ _ e=>e) (aS (wpAny_attempt (cq ?_))));unfold callGetattribute;rw[show (b&&onTheHeap (Value.builtin "BaseException.__getattribute__"))=false from Bool.and_false _,cK rA];unfold boundAndCalled;rw[F.excAttr_ValueError.ga.bind];refine aS (aT ?_);show wpAny _ _ (call (.builtin "BaseException.__getattribute__") [.ref a,.str f t]) _ _ _;refine wpAny_call (codeAny_call_builtin F.excAttr_ValueError.ga.plain F.entry_bexc_ga (Bj X q H c ?_))
 repeat (any_goals (first | assumption | (with_reducible refine wpAny_loadPart_at H ?_;rw[c]) | with_reducible refine L.at ?_ | wp_step))
 show wpAny _ _ (handedOut v) _ _ _;rw[handedOut_of s];exact aT m
end
def qAC(K:Frag)(t:TE)(f:Str):TE:=fun σ H Q=>t σ H fun x h => ∃ a C d fs v,x = .ref a/\h a=some (wD a C (some d))/\wJ K C/\HR K C f/\h d=some (.xd fs)/\fs.lookup f=some v/\Q v h
def qEF(K:Frag)(T t:TE)(f:Str):TS:=fun D σ H=>t σ H fun y a=>T σ a fun x h => ∃ e C,x = .ref e/\h e=some (xQ e C none)/\HR K C f/\∀ d,h d=none->d≠e->D.nx σ (upd (upd h d (.xd [(f,y)])) e (xQ e C (some d)))
def Ym(b:PE X e ta)(A:attributeBase e f X.env (eval e X.env)=eval e X.env):PE X (.Attribute e f pos) (qAC X.K ta f):=by intro p s σ H Q I h;refine Py A (bH (b p s σ H _ I h) fun u S hz_=>?_);apply aW;intro _ g_;obtain⟨x,i,j,z,a,C,D,_,v,k,m,c,n,E,l,q⟩:=hz_;apply g_;clear g_;subst k;obtain rfl:u=Value.ref a:=z;obtain⟨M,w,r⟩:=j.hok D _ E;obtain⟨_,z1,z2,z3,z4⟩:=Gz j m;obtain⟨_,y,R⟩:=oH.some_of (v:=v) (o:=M f) (by rw[<-l];exact r f);obtain⟨_,g,d,t,_⟩:=S;exact ZQ j.mQ c n z1 z2 z4 z3 w y (El R) ⟨v,i,j.tok _,R,q⟩
def Yg(B:PE X o ta)(m:PE X value tv)(w:swapsWith value (some (.Attribute o f pos')) pos.line X.env=pure false):PS X (.Assign [.Attribute o f pos'] value pos) (qEF X.K ta tv f):=by
 intro p s σ H D I h;refine plainObj_wpAny_Assign_Attribute (bH (m p s σ H _ I h) fun u F ⟨y,L,J,M,q⟩=>bH (B p F σ L _ J q) fun r S hz_=>?_) w;apply aW;intro _ g_;obtain⟨x,G,A,R,e,C,E,d,n,Q⟩:=hz_;apply g_;clear g_;subst E;obtain rfl:r=Value.ref e:=R;obtain⟨⟨Z,z⟩,_⟩:=A.hok e _ d;have g:G S.heap.objs.size=none:=A.fresh;have ne:S.heap.objs.size≠e:=iO (gQ z);refine YJ A.mQ n z fun h' _ z1 z2 z3=>⟨σ,_,?_,Q _ g ne⟩;have N:∃ O,h'.get? S.heap.objs.size=some O:=let ⟨O,_,_,e,_⟩:=z2;⟨O,e⟩;have j:S.heap.get? S.heap.objs.size=none:=eS (bD _);refine A.un ⟨fun b u q n _ _=>z3 b u (fun y=>by subst y;rw[n]at d;cases d) q,fun b u q n _ _=>⟨u.slots,z3 b u (fun y=>by subst y;rw[n]at d;cases d) q⟩,fun b u q n _=>?_,fun b u q _=>?_,fun b xs q=>?_,fun b u xs q=>?_,fun b _ q=>⟨#[],?_⟩⟩ fun b u q=>?_
 .rw[zR (fun y=>by subst y;rw[n]at d;cases d),zR (fun y=>by subst y;rw[j]at q;cases q)];exact n
 .by_cases a:b=e
  .subst a;exact⟨_,z1⟩
  .exact⟨u,z3 b u a q⟩
 .rw[zR (gU q d nofun),zR (zN q g)];exact q
 .rw[zR (gU q d nofun),zR (zN q g)];exact q
 .rw[zR (gU q d nofun),zR (zN q g),q];simp
 .by_cases a:b=e
  .subst a;rw[zC]at q
   cases q
   exact Ge ⟨Z,z1⟩
  .rw[zR a]at q
   by_cases l:b=S.heap.objs.size
   .subst l;rw[zC]at q
    cases q
    refine⟨_,z2,fun y=>?_⟩
    by_cases k:y=f
    .subst k;show oH (List.lookup y [(y,_)]) (if y=y then some u else none);rw[cS rfl,List.lookup_cons_self];exact M
    .show oH (List.lookup y [(f,_)]) (if y=f then some u else none)
     have z5:(y==f)=false:=by simpa using k
     rw[cK k,gy,z5];exact e9
   .rw[zR l]at q;refine (A.hok b u q).stay (fun c v t y=>z3 c v (fun k=>?_) y) (fun c y=>?_) fun c xs y=>?_
    .rcases t with i | i
     .exact a (i.symm.trans k)
     .rw[k,d]at i;cases i
    .rw[zR (gU y d nofun),zR (zN y g)];exact y
    .rw[zR (gU y d nofun),zR (zN y g)];exact y
end L2
namespace L2
open PySem PySem.Spec PyProof.Rows
section
variable{P:ag}{w:aI}{K:bV}{mg:Str->aE av}{base:Heap}{N:aw Str}{qual:Str}{scope:Scope}{f:ar}{cd:av}{A:ai}{outer:aw Env}{s:ae}{H:Hp}{E E':XK}
end
section
variable{M:Model}{A:ai}{E:av->ae->Prop}{s:ae}{base:Heap}{env:Env}{outer:aw Env}{L e:ar}{cls a0 fl:av}{dd:aE ar}{Q:Unit->ae->Prop}
end
section
variable{X:Cx}{E:XK}
end
def qBC(C:ar)(m:Str)(sp:Sp)(q:aw V)(T:TE)(t:TA):TEX:=fun σ H Q E=>T σ H fun x h => ∃ a d fs,x = .ref a/\h a=some (.ins C d fs)/\fs.lookup m=none/\t σ h fun vs b=>sp (.ref a::(vs++q)) b Q E
def JH(i:PE X.nox o ta)(c:vC X.K C)(g:Meth X.K C m f)(F:aL X.prog X.w X.K X.mg X.base (Ke X.prog X.w) k f fd ps sp)(B:fP k X.A)(G:Binds X.K fd ps ds)(hd:Vals qw ds)(D:PA X.nox (e::es) t)
  (b:starEach (e::es) X.env=(false,eval e X.env)::starEach es X.env:=by rfl) (d:(backTo pos (starEach es X.env)).any (·.1)=false:=by rfl)
  (ht:eval (.Call (.Attribute o m apos) (e::es) [] pos) X.env=(do
   let ov ← eval o X.env
   standAt apos.atName
   let (f,first) ← holding [ov] (getMethod ov m pl)
   callWith pos f first (backTo pos (starEach (e::es) X.env)) (backToKw pos (keywordEach [] X.env))):=by rfl) :
  PEX X (.Call (.Attribute o m apos) (e::es) [] pos) (qBC C m sp qw ta t):=by intro p s σ H Q E I h;refine PySem.W.methodCall_KW (pl:=pl) (c8 (i p s σ H _ (I.wish _) h) (fun u S hz_=>?_) fun _ _ z=>z.elim) ht;apply aW;intro _ g_;obtain⟨x,n,j,R,a,_,_,v,w,l,q⟩:=hz_;apply g_;clear g_;subst v;obtain rfl:u=Value.ref a:=R;have M:=j.jU;refine rZ M w c g l ?_;refine PySem.W.callWith_K (first:=[.ref a]) (h₀:=X.base) I.ok.mod.kin g.kp (c8 (D pos p S σ n _ j q) (fun us _ ⟨vs,_,A,r,y⟩=>⟨A.jU.mQ,?_⟩) fun _ _ z=>z.elim) b d;exact YW (us:=.ref a::us) (vs:=.ref a::vs) F B G hd A.jU (.cons rfl r) y
end L2
namespace L2
open PySem PySem.Spec PyProof.Rows PySem.W
inductive qAJ(K:Frag)(xs:List V)(H:Hp)(Q:VK):Prop
 | mk (a C C2:Addr) (dd:Option Addr) (b:Bool) (_:xs=[.ref a,.ref C2]) (_:H a=some (wD a C dd)) (_:wJ K C) (_:kitOne K (.ref C) (.ref C2)=some b) (_:Q (.bl b) H)
def Rt:ir X (.builtin "isinstance") (qAJ X.K):=by
 intro _ s σ H _ _ Q I r h;obtain⟨a,C,c,_,b,rfl,f,q,e,z⟩:=h;obtain⟨u,W,rfl,d,R⟩:=vals2 r
 cases (show W=Value.ref c from R)
 cases (show u=Value.ref a from d)
 exact kia_one (Ba q) I.mQ (Gz I f) e (fun y=>nomatch y) fun T=>⟨.bl b,H,I.tok T,rfl,z⟩
end L2
namespace L2
open PySem PySem.Spec PyProof.Rows
inductive qE0(a:Str)(te:TE)(σ:St)(H:Hp)(Q:VK):Prop
 | mk (_:(Str.empty++a).length<=sizeLine) (_:te σ H fun v H1 => ∃ n:Int,v = .int n/\n.natAbs.log2<1920/\(Str.empty++a++Str.ofString (toString n)).length<=sizeLine/\Q (.str (Str.empty++a++Str.ofString (toString n))) H1)
def Yl(g:PE X e te) :
  PE X (.JoinedStr [.Constant (.str a) k1 p1,.FormattedValue e (-1) none p2] pos) (qE0 a te):=by intro p s σ H Q I h;refine wpAny_JoinedStr ?_;obtain⟨c,h⟩:=h;refine Calls.Constant_str ⟨a,_,rfl,c,?_⟩;refine wpAny_FormattedValue_plain (bH (g p _ σ H _ (I.tok _) h) fun u _ hz_=>?_);apply aW;intro _ g_;obtain⟨v,b,j,r,n,i,d,q,f⟩:=hz_;apply g_;clear g_;subst i;obtain⟨t,rfl⟩:=r;refine wpAny_formatField_int d ⟨_,_,rfl,q,?_⟩;exact⟨q,.str _,b,(j.tok _).tok _,⟨_,rfl⟩,f⟩
end L2
namespace jP
open PySem L2
inductive qBH(K:bV)(vs:List V)(H:Hp)(Q:VK)(E_:XK):Prop
 | mk (a:Addr) (ns:List Int) (k:Int) (_:vs=[.ref a,.int k]) (_:aU K H a (ns.map V.int)) (_:ns.length<=63) (_:∀ v:Int,Q (.int v) H)
inductive jC(K:bV)(vs:List V)(H:Hp)(Q:VK)(E_:XK):Prop
 | mk (a:Addr) (ns:List Int) (k salt:Int) (_:vs=[.ref a,.int k,.int salt]) (_:aU K H a (ns.map V.int)) (_:ns.length<=63) (_:(0<=k/\k<=1000000)) (_:(0<=salt/\salt<=1000)) (_:∀ r:Int,0<=r->r<2147483648->Q (.int r) H)
def scC:aF ["_law_script","_law_k"] ["_law_script","_law_k"] (aA O7):=cQ
def scM:aF ["_law_script","_law_k","_law_salt","_law_cell","_law_lap",qEE] ["_law_script","_law_k","_law_salt"] (aA Ah):=cQ
def uO(c:0<=i)(f:i<18446744073709551616):qA8 i j:=.inl ⟨by lia,by lia⟩
def Uy(F:bO K "_law_mixed" "_law_mixed" Ah f fd)(G:aL P w K mg base aN 1 g gd ["_law_script","_law_k"] (qBH K))(j:Binds K gd ["_law_script","_law_k"] [])(u:KI K g)(n:mg "_law_cell_at" = some (.ref g))
  (m:mg "len" = none) (M:mg "max" = none):aL P w K mg base aN 2 f fd ["_law_script","_law_k","_law_salt"] (jC K):=by
 refine F.ok scM ?_ ?_
 .rintro _ _ _ _⟨a,ns,k,S,rfl,_⟩;rfl
 intro _ A _ s H _ Q E t h
 apply aW;intro _ g_;obtain⟨a,ns,k,S,rfl,B,c,o,_,q⟩:=h;apply g_;clear g_
 refine⟨_,zE (zL (i:=3) scM.nd rfl (bb rfl) (zK G t rfl n u j .nil yF (zA (pv 0) (zA (pv 1) zD))))
  (zE (zL (i:=4) scM.nd rfl (bb rfl) (yD yM (pv 1) (zT (Rq rfl) rfl M PyProof.Rows.boot_max (zA zB (zA (zT zO rfl m bj (zA (pv 0) zD)) zD)))))
  (zE (zL (i:=5) scM.nd rfl (bb rfl) (yD yG (yD yG (yD yG (yD Up (pv 3) zB) (yD iB (yD iB zB (pv 1)) (pv 1))) (yD iB (yD iB zB (pv 2)) (pv 2))) zB))
  (zE (zL (i:=5) scM.nd rfl (bb rfl) (yD zZ (yD iB (pv 5) zB) zB))
  (zE (zL (i:=5) scM.nd rfl (bb rfl) (yD zZ (yD iB (pv 5) (pv 5)) zB))
  (zG (zP (yD Up (yD yG (yD qBY (pv 3) (yD iB zB (yD yG (pv 2) (yD iB zB (pv 4))))) (pv 5)) zB))))))),?_⟩
 have e:(ns.map V.int).length=ns.length:=bT _;refine⟨_,rfl,_,rfl,a,ns,k,rfl,B,c,fun v=>?_⟩;refine⟨_,rfl,_,rfl,a,_,rfl,.inl B,_,_,rfl,eO ?_⟩
 have d:0<(if (((ns.map V.int).length:Nat):Int)>1 then (((ns.map V.int).length:Nat):Int) else 1)/\(if (((ns.map V.int).length:Nat):Int)>1 then (((ns.map V.int).length:Nat):Int) else 1)<1073741824:=by
  rw[e]
  split <;> lia
 refine⟨d,?_⟩;have b:=Int.ediv_nonneg o.1 (Int.le_of_lt d.1);refine⟨_,rfl,eO ⟨_,rfl,eO ⟨uO (by decide) (by decide),_,rfl,eO ⟨uO (by lia) (by lia),_,_,rfl,rfl,_,rfl,eO ⟨uO (by decide) (by decide),_,rfl,eO ⟨uO (by lia) (by lia),_,_,rfl,rfl,eO ?_⟩⟩⟩⟩⟩⟩;refine⟨_,rfl,eO ⟨.inr ⟨by decide,by decide⟩,_,_,rfl,rfl,(by show (0:Int)<2147483647;decide),?_⟩⟩;have r:=j7 ((Builtin.bitAnd v 2147483647+1009*k*k+7919*S*S+12)*48271) (show (2147483647:Int)≠0 by decide);have p:=jR ((Builtin.bitAnd v 2147483647+1009*k*k+7919*S*S+12)*48271) (show (0:Int)<2147483647 by decide);refine⟨_,rfl,_,rfl,eO ⟨uO r (Int.lt_trans p (by decide)),_,_,rfl,rfl,(by show (0:Int)<2147483629;decide),?_⟩⟩;refine⟨_,rfl,_,rfl,_,rfl,eO ⟨uO (by decide) (by decide),_,_,rfl,rfl,eO ⟨uO (by decide) (by decide),_,_,rfl,rfl,?_,_,rfl,eO (eO ?_)⟩⟩⟩
 .have N:∀ l:Int,0<=l->0<=31*(S+128*l):=fun l h=>by lia
  exact N _ b
 .exact q _ (qAO _).1 (qAO _).2
def eF(ns:aw Int)(k:Int):Int:=if ns.length=0 then 0 else ns.getD (k%(ns.length:Int)).toNat 0
def sX(K:bV):Sp:=fun vs H Q _ => ∃(a:ar)(ns:aw Int)(k:Int),vs=[.ref a,.int k]/\aU K H a (ns.map V.int)/\ns.length<=63/\Q (.int (eF ns k)) H
def V8(F:bO K "_law_cell_at" "_law_cell_at" O7 f fd)(m:mg "len" = none):aL P w K mg base aN 1 f fd ["_law_script","_law_k"] (sX K):=by
 refine F.ok scC ?_ ?_
 .rintro _ _ _ _⟨a,ns,k,rfl,_⟩;rfl
 intro _ A _ s H _ Q E _ h
 obtain⟨a,ns,k,rfl,B,_,q⟩:=h
 refine⟨_,zE (yE (zM yH (zT zO rfl m bj (zA (pv 0) zD)) zB (zS _)) (zG (zP zB)) zU)
  (zG (zP (yC yV (pv 0) (yD zZ (pv 1) (zT zO rfl m bj (zA (pv 0) zD))) (fun _ _=>rfl)))),?_⟩
 have l:(ns.map V.int).length=ns.length:=bT _;refine⟨_,rfl,a,_,rfl,.inl B,rfl,_,rfl,?_⟩;refine vp (fun c=>?_) (fun c=>?_)
 .have T:=ba c;injection T with T
  have z:ns.length=0:=by
   rw[l]at T;omega
  unfold eF at q;rw[cS z]at q;exact q
 .have T:¬ V.int (((ns.map V.int).length:Nat):Int)=V.int 0:=bP (eJ.mpr c);have n:ns.length≠0:=fun z=>T (by rw[l,z];rfl)
  have p:(0:Int)<(((ns.map V.int).length:Nat):Int):=by
   rw[l];omega
  unfold eF at q;rw[cK n]at q;have b:=j7 k (show (ns.length:Int)≠0 by omega);have e:=jR k (show (0:Int)<(ns.length:Int) by omega)
  have v:mX (ns.map V.int) (k%(((ns.map V.int).length:Nat):Int))=some (.int (ns.getD (k%(ns.length:Int)).toNat 0)):=by
   rw[l];generalize L:k%(ns.length:Int)=j at b e;obtain⟨i,rfl⟩:∃ i:Nat,j=(i:Int):=⟨j.toNat,by omega⟩;refine yR ?_;rw[dZ,fQ (by omega),jT,T3,fQ (by omega)];rfl
  exact⟨_,rfl,_,rfl,_,rfl,a,_,rfl,.inl B,_,_,rfl,rfl,p,a,_,_,_,rfl,rfl,B,v,q⟩
end jP
namespace jP
open PySem L2 lN
def pV:aE Nat->V
 | none=>.non
 | some j=>.int (j:Int)
def aC(s:aw Nat):aw V:=s.map fun j:Nat=>V.int (j:Int)
def Js(xs:aw V)(h:0<=d):oG xs none (some d)=xs.take d.toNat:=by show (xs.drop 0).take ((if d<0 then (d+(xs.length:Int)).toNat else min d.toNat xs.length)-0)=_;rw[cK (by lia),List.drop_zero,Nat.sub_zero,List.take_eq_take_iff];lia
end jP
namespace jP
open PySem L2 lN vB
def Eb(os:aw Nat):(aC os).all oR=true:=by rw[ff];intro x h;obtain⟨n,_,rfl⟩:=eX.mp h;rfl
def Om{os:aw Nat}{j:Int}(h:inV (.int j) (aC os)=true):∃ o∈os,(o:Int)=j:=by unfold inV aC at h;rw[fk,fi]at h;obtain⟨o,q,e⟩:=h;exact⟨o,q,by simpa [Xv] using e⟩
def JW{os:aw Nat}{i:Int}(c:0<=i)(f:i<(os.length:Int)):∃ o∈os,mX (aC os) i=some (.int (o:Int)):=by obtain⟨v,H,e⟩:=qG (xs:=aC os) (i:=i) c (by unfold aC;rw[bT];exact f);obtain⟨o,q,rfl⟩:=eX.mp H;exact⟨o,q,e⟩
def zV(os:aw Nat):(aC os).length=os.length:=bT _
def jN(os:aw Nat)(k:Nat):aC os++[.int (k:Int)]=aC (os++[k]):=by unfold aC;rw[qz];rfl
end jP
namespace dC
open PySem L2 jP lN vB
def iZ{os:aw Nat}{f:Nat->Bool}{i o:Nat}(h:os[i]? = some o):(os.take (i+1)).filter f=(os.take i).filter f++(if f o=true then [o] else []):=by
 rw[mq,h,fz];congr 1;show [o].filter f=_;rw[fA]
 split <;> rfl
def yS{os:aw Nat}{i:Nat}{x:V}(h:(aC os)[i]? = some x):∃ H:i<os.length,x = .int ((os[i]:Nat):Int):=by
 have H:i<os.length:=by
  have:=(oW.mp h).1;rw[zV]at this;exact this
 refine⟨H,?_⟩;unfold aC at h;rw[dZ,fQ H]at h;exact (kJ h).symm
end dC
namespace K02
open PySem L2 jP lN
abbrev pJ:Stmt:=jP.pJ
inductive n6(n:Nat)(vs:List V)(H:Hp)(Q:VK)(E_:XK):Prop
 | mk (vg o b g op bx) (_:vs=[vg,.ref o,.ref b]) (_:jH H vg g) (_:H o=some (.tup (op.map V.int))) (_:H b=some (.tup (bx.map V.int))) (_:g.ok bx.length) (_:g.ht<=n) (_:Q (.bl (g.holds op bx)) H)
def Iv:aF ["guard","opening","boxes","kind"] ["guard","opening","boxes"] (aA pJ):=cQ
theorem V1(F:bO K "holds" "holds" pJ f fd)(M:Dp P w K mg base aN n f fd ["guard","opening","boxes"] (n6 n) "holds") :
  aL P w K mg base aN (n+1) f fd ["guard","opening","boxes"] (n6 (n+1)):=by
 refine F.ok Iv ?_ ?_
 .rintro _ _ _ _⟨z,o,b,g,O,bx,rfl,_⟩;rfl
 intro _ A _ s H _ Q E p h
 apply aW;intro _ g_;obtain⟨z,o,b,g,O,bx,rfl,j,l,k,hok,t,q⟩:=h;apply g_;clear g_
 refine⟨_,(zE (zL (i:=3) Iv.nd rfl (bb rfl) (yC zH (pv 0) zB (fun _ _=>rfl)))
  (zE (yE (zM yH (pv 3) zQ (zS _))
  (zG (zP gG))
  zU)
  (zE (yE (zM yH (pv 3) zQ (zS _))
  (zG (zP (bK yH (yC zH (pv 2) (yC zH (pv 0) zB (fun _ _=>rfl)) (fun _ _=>rfl)) (yC zH (pv 0) zB (fun _ _=>rfl)) (zS _))))
  zU)
  (zE (yE (zM yH (pv 3) zQ (zS _))
  (zG (zP (bK mH (yC zH (pv 2) (yC zH (pv 0) zB (fun _ _=>rfl)) (fun _ _=>rfl)) (yC zH (pv 0) zB (fun _ _=>rfl)) (zS _))))
  zU)
  (zE (yE (zM yH (pv 3) zQ (zS _))
  (zG (zP (bK jM (yC zH (pv 0) zB (fun _ _=>rfl)) (pv 1) rfl)))
  zU)
  (zE (yE (zM yH (pv 3) zQ (zS _))
  (zG (zP (gC (pC M p (zA (yC zH (pv 0) zB (fun _ _=>rfl)) (zA (pv 1) (zA (pv 2) zD)))))))
  zU)
  (zE (yE (zM yH (pv 3) zQ (zS _))
  (zG (zP (rT (pC M p (zA (yC zH (pv 0) zB (fun _ _=>rfl)) (zA (pv 1) (zA (pv 2) zD)))) (gB (pC M p (zA (yC zH (pv 0) zB (fun _ _=>rfl)) (zA (pv 1) (zA (pv 2) zD))))))))
  zU)
  (zG (zP (wj (pC M p (zA (yC zH (pv 0) zB (fun _ _=>rfl)) (zA (pv 1) (zA (pv 2) zD)))) (gB (pC M p (zA (yC zH (pv 0) zB (fun _ _=>rfl)) (zA (pv 1) (zA (pv 2) zD))))))))))))))),?_⟩
 cases j with
 | @yes a e=>
  exact⟨_,rfl,aG (aJ.of e) rfl ⟨_,rfl,rfl,_,rfl,yP q⟩⟩
 | @is a c m e=>
  refine⟨_,rfl,aG (aJ.of e) rfl ⟨_,rfl,rfl,_,rfl,yO (by decide +kernel) ⟨_,rfl,rfl,_,rfl,yP ?_⟩⟩⟩;exact⟨_,rfl,_,rfl,aG (aJ.of e) rfl (aG (aJ.of k) (Bv hok.1 hok.2) ⟨_,rfl,aG (aJ.of e) rfl ⟨rfl,q⟩⟩)⟩
 | @under a c m e=>
  refine⟨_,rfl,aG (aJ.of e) rfl ⟨_,rfl,rfl,_,rfl,yO (by decide +kernel) ⟨_,rfl,rfl,_,rfl,yO (by decide +kernel) ⟨_,rfl,rfl,_,rfl,yP ?_⟩⟩⟩⟩;exact⟨_,rfl,_,rfl,aG (aJ.of e) rfl (aG (aJ.of k) (Bv hok.1 hok.2) ⟨_,rfl,aG (aJ.of e) rfl (eO q)⟩)⟩
 | @inn a r e=>
  refine⟨_,rfl,aG (aJ.of e) rfl ⟨_,rfl,rfl,_,rfl,yO (by decide +kernel) ⟨_,rfl,rfl,_,rfl,yO (by decide +kernel) ⟨_,rfl,rfl,_,rfl,yO (by decide +kernel) ⟨_,rfl,rfl,_,rfl,yP ?_⟩⟩⟩⟩⟩;exact⟨_,rfl,aG (aJ.of e) rfl ⟨_,rfl,xR rfl (.inr (aJ.of l)) ⟨rfl,w5 O,q⟩⟩⟩
 | @neg a v g e j=>
  have y:g.ht+1<=n+1:=t;refine⟨_,rfl,aG (aJ.of e) rfl ⟨_,rfl,rfl,_,rfl,yO (by decide +kernel) ⟨_,rfl,rfl,_,rfl,yO (by decide +kernel) ⟨_,rfl,rfl,_,rfl,yO (by decide +kernel) ⟨_,rfl,rfl,_,rfl,yO (by decide +kernel) ⟨_,rfl,rfl,_,rfl,yP ?_⟩⟩⟩⟩⟩⟩;exact⟨_,rfl,aG (aJ.of e) rfl ⟨_,rfl,_,rfl,v,o,b,g,O,bx,rfl,j,l,k,hok,by lia,_,rfl,q⟩⟩
 | @both a v u g h e j x=>
  have y:1+max g.ht h.ht<=n+1:=t;refine⟨_,rfl,aG (aJ.of e) rfl ⟨_,rfl,rfl,_,rfl,yO (by decide +kernel) ⟨_,rfl,rfl,_,rfl,yO (by decide +kernel) ⟨_,rfl,rfl,_,rfl,yO (by decide +kernel) ⟨_,rfl,rfl,_,rfl,yO (by decide +kernel) ⟨_,rfl,rfl,_,rfl,yO (by decide +kernel) ⟨_,rfl,rfl,_,rfl,yP ?_⟩⟩⟩⟩⟩⟩⟩;refine⟨_,rfl,aG (aJ.of e) rfl ⟨_,rfl,_,rfl,v,o,b,g,O,bx,rfl,j,l,k,hok.1,by lia,_,rfl,?_⟩⟩;have d:Q (.bl (g.holds O bx&&h.holds O bx)) H:=q;refine vp (fun c=>?_) (fun c=>?_)
  .rw[c,eR]at d;exact⟨_,rfl,aG (aJ.of e) rfl ⟨_,rfl,_,rfl,u,o,b,h,O,bx,rfl,x,l,k,hok.2,by lia,d⟩⟩
  .rw[eJ.mpr c,eL]at d;exact d
 | @either a v u g h e j x=>
  have y:1+max g.ht h.ht<=n+1:=t;refine⟨_,rfl,aG (aJ.of e) rfl ⟨_,rfl,rfl,_,rfl,yO (by decide +kernel) ⟨_,rfl,rfl,_,rfl,yO (by decide +kernel) ⟨_,rfl,rfl,_,rfl,yO (by decide +kernel) ⟨_,rfl,rfl,_,rfl,yO (by decide +kernel) ⟨_,rfl,rfl,_,rfl,yO (by decide +kernel) ⟨_,rfl,rfl,_,rfl,yO (by decide +kernel) ?_⟩⟩⟩⟩⟩⟩⟩;refine⟨_,rfl,aG (aJ.of e) rfl ⟨_,rfl,_,rfl,v,o,b,g,O,bx,rfl,j,l,k,hok.1,by lia,_,rfl,?_⟩⟩;have d:Q (.bl (g.holds O bx||h.holds O bx)) H:=q;refine vp (fun c=>?_) (fun c=>?_)
  .rw[c,Bool.true_or]at d;exact d
  .rw[eJ.mpr c,eM]at d;exact⟨_,rfl,aG (aJ.of e) rfl ⟨_,rfl,_,rfl,u,o,b,h,O,bx,rfl,x,l,k,hok.2,by lia,d⟩⟩
def M6:aL P w K mg base aN 0 f fd ["guard","opening","boxes"] (n6 0):=by
 have n:∀ vs H Q E,¬ n6 0 vs H Q E:=fun vs H Q E h=>by
  apply aW;intro _ g_;obtain⟨_,o,b,g,_,_,_,_,_,_,_,_,_⟩:=h;apply g_;clear g_;have:=g.Vv;lia
 exact⟨fun vs H Q E h=>eu h (n vs H Q E),fun A _ s H _ _ vs Q E _ _ _ _ h=>eu h (n vs H Q E)⟩
theorem FJ(F:bO K "holds" "holds" pJ f fd)(y:Binds K fd ["guard","opening","boxes"] [])(Y:mg "holds" = some (.ref f)):∀ n:Nat,aL P w K mg base aN n f fd ["guard","opening","boxes"] (n6 n)
 | 0=>M6
 | n+1=>V1 F ⟨FJ F y Y n,y,F.kp,Y⟩
end K02
namespace DQ
open PySem L2 jP lN
inductive Al{α:Type}(R:V->α->Prop):List V->List α->Prop where
 | nil:Al R [] []
 | cons {v:V} {r:α} {vs:List V} {rs:List α}:R v r->Al R vs rs->Al R (v::vs) (r::rs)
theorem Al.mono(x:Al R vs rs)(k:∀ v r,R v r->R' v r):Al R' vs rs:=by
 induction x with
 | nil=>exact .nil
 | cons h _ i=>exact .cons (k _ _ h) i
theorem Al.length(x:Al R vs rs):vs.length=rs.length:=by
 induction x with
 | nil=>rfl
 | cons _ _ i=>rw[dG,dG,i]
theorem Al.snoc(x:Al R vs rs)(y:R v r):Al R (vs++[v]) (rs++[r]):=by
 induction x with
 | nil=>exact .cons y .nil
 | cons h _ i=>exact .cons h i
theorem Al.get{R:V->α->Prop}{vs:aw V}{s:aw α}(x:Al R vs s):∀ {k:Nat} {r:α},s[k]? = some r->∃ v,vs[k]? = some v/\R v r:=by
 induction x with
 | nil=>intro k r h;simp at h
 | cons h _ i=>
  intro k r e
  cases k with
  | zero=>
   simp at e;subst e;exact⟨_,rfl,h⟩
  | succ k=>exact i (by simpa using e)
structure Dg where
 room:Int
 ev:Int
 g:Gd
def qA5(H:Hp)(v:V)(d:Dg):Prop:=∃ a gv X b x,v = .ref a/\H a=some (.tup [.int d.room,.int d.ev,gv,X,b,x])/\jH H gv d.g
def hit(o bx:aw Int)(r p:Int)(d:Dg):Bool:=decide (V.int d.room=V.int r)&&(decide (V.int d.ev=V.int p)&&d.g.holds o bx)
def fst(o bx:aw Int)(R p:Int):aw Dg->Nat->aE Nat
 | [],_=>none
 | d::r,b=>if hit o bx R p d=true then some b else fst o bx R p r (b+1)
theorem Jo(o bx:aw Int)(r p:Int)(d:Dg):∀ D b,fst o bx r p (D++[d]) b=match fst o bx r p D b with
  | some k=>some k
  | none=>if hit o bx r p d=true then some (b+D.length) else none
 | [],b=>by
  rfl
 | x::D,b=>by
  show (if hit o bx r p x=true then some b else fst o bx r p (D++[d]) (b+1))=match (if hit o bx r p x=true then some b else fst o bx r p D (b+1)) with
   | some k=>some k
   | none=>if hit o bx r p d=true then some (b+(D.length+1)) else none
  by_cases h:hit o bx r p x=true
  .rw[cS h,cS h]
  .rw[cK h,cK h,Jo o bx r p d D (b+1),show b+1+D.length=b+(D.length+1) by lia];try rfl
def eG(o bx:aw Int)(d:aw Dg)(r p:Int):aE Nat:=if inV (.int r) (o.map V.int)=true then fst o bx r p d 0 else none
theorem Jz(o bx:aw Int)(D:aw Dg)(d:Dg)(r p:Int):eG o bx (D++[d]) r p=if inV (.int r) (o.map V.int)=true/\eG o bx D r p=none/\hit o bx r p d=true then some D.length else eG o bx D r p:=by
 unfold eG
 by_cases h:inV (.int r) (o.map V.int)=true
 .rw[cS h,cS h,Jo,ja]
  cases fst o bx r p D 0 with
  | some k=>
   show some k=if _ then _ else some k;rw[cK (fun z=>by cases z.2.1)]
  | none=>
   show (if hit o bx r p d=true then some D.length else none)=if (inV (.int r) (o.map V.int)=true/\(none:aE Nat)=none/\hit o bx r p d=true) then some D.length else none
   by_cases y:hit o bx r p d=true
   .rw[cS y,cS ⟨h,rfl,y⟩]
   .rw[cK y,cK (fun z=>y z.2.2)]
 .rw[cK h,cK h,cK (fun z=>h z.1)]
def w5(os:aw Int):(os.map V.int).all oR=true:=by rw[ff];intro x h;obtain⟨n,_,rfl⟩:=eX.mp h;rfl
inductive Dq(n:Nat)(vs:List V)(H:Hp)(Q:VK)(E_:XK):Prop
 | mk (pc kI pd o b op bx ds dv x0 x1 x2 x3 x4 x5 x ev) (_:vs=[.ref pc,.ref kI,.int ev]) (_:H pc=some (.tup [x0,x1,x2,x3,x4,x5,.ref pd])) (_:H pd=some (.tup dv)) (_:Al (qA5 H) dv ds) (_:H kI=some (.tup [.ref o,.ref b,x])) (_:H o=some (.tup (op.map V.int))) (_:H b=some (.tup (bx.map V.int))) (_:(∀ d∈ds,d.g.ok bx.length/\d.g.ht<=n)) (_:ds.length<=1000) (_:∀ p kvs H',aH H H'->H' p=some (.dK kvs)->(∀ r:Int,iR kvs (Sum.inl r)=(eG op bx ds r ev).map fun k:Nat=>V.int (k:Int))->(∃ ks:List Int,kvs.map (·.1)=ks.map Sum.inl/\ks.length<=ds.length)->H p=none->Q (.ref p) H')
def gf:aF ["chart","stand","event","opening","by_room","number","door","room"] ["chart","stand","event"] (aA uE):=cQ
theorem Lz{f gh:ar}{fd dh:af}(F:bO K "answers" "answers" uE f fd)(oM:Dp P w K mg base aN n gh dh ["guard","opening","boxes"] (K02.n6 n) "holds")
  (bw:mg "enumerate" = none):aL P w K mg base aN (n+1) f fd ["chart","stand","event"] (Dq n):=by
 refine F.ok gf ?_ ?_
 .rintro _ _ _ _⟨pc,kI,pd,o,b,O,bx,D,dv,x0,x1,x2,x3,x4,x5,x,p,rfl,_⟩;rfl
 intro _ A _ s H _ Q E hr h
 apply aW;intro _ g_;obtain⟨pc,kI,pd,o,b,O,bx,D,dv,x0,x1,x2,x3,x4,x5,x,p,rfl,Vy,T,W,hst,ho,hb,hok,_,q⟩:=h;apply g_;clear g_;have hu:=iA (ic (show 1<=64 by decide) _) hr.units
 refine⟨_,(zE (zL (i:=3) gf.nd rfl (bb rfl) (yC zH (pv 1) zB (fun _ _=>rfl)))
  (zE (zL (i:=4) gf.nd rfl (bb rfl) Ue)
  (yA (bf PassesOwn.never rfl (uK rfl bw (zA (yC zH (pv 0) zB (fun _ _=>rfl)) zD)) (vU rfl (cX (yK (i:=5) gf.nd rfl (bb rfl)) (cX (yK (i:=6) gf.nd rfl (bb rfl)) qY)))
  (zE (zL (i:=7) gf.nd rfl (bb rfl) (yC zH (pv 6) zB (fun _ _=>rfl)))
  (zG (yE (bZ (PW.pt (pw_and (zM yH (yC zH (pv 6) zB (fun _ _=>rfl)) (pv 2) (zS _)) (pw_and (zM jM (pv 7) (pv 3) rfl) (pw_and (qBS (Qa hu (pv 7) (pv 4))) (yQ (aY (pC oM hr (zA (yC zH (pv 6) zB (fun _ _=>rfl)) (zA (pv 3) (zA (yC zH (pv 1) zB (fun _ _=>rfl)) zD)))))))))))
  (zG (Yh hu (pv 4) (pv 7) (pv 5) rfl))
  zU))))
  (zG (zP (pv 4)))))),?_⟩
 have ldv:=W.length;refine⟨_,rfl,aG (aJ.of hst) rfl (fun B G=>?_)⟩;have s1:=zF G (.dK []);refine⟨fun σ' l=>∃ a:aw (Key×V),aH H l/\l B=some (.dK a)/\(∀ r:Int,iR a (Sum.inl r)=(eG O bx D r p).map fun k:Nat=>V.int (k:Int))/\(∃ g:aw Int,a.map (·.1)=g.map Sum.inl/\g.length<=D.length)/\∃ R M U:aE V,σ'=[some (.ref pc),some (.ref kI),some (.int p),some (.ref o),some (.ref B),R,M,U],?_,?_⟩
 .refine⟨_,rfl,aG (aJ.of (s1 _ _ Vy)) rfl ⟨pd,rfl,⟨_,aJ.of (s1 _ _ T)⟩,?_⟩⟩;refine pY (xs:=dv) (fun i σ' l=>∃ a:aw (Key×V),aH H l/\l B=some (.dK a)/\(∃ g:aw Int,a.map (·.1)=g.map Sum.inl/\g.length<=i)/\(∀ r:Int,iR a (Sum.inl r)=(eG O bx (D.take i) r p).map fun k:Nat=>V.int (k:Int))/\∃ R M U:aE V,σ'=[some (.ref pc),some (.ref kI),some (.int p),some (.ref o),some (.ref B),R,M,U])
   ⟨[],s1,zC,⟨[],rfl,bD _⟩,(fun r=>by
    unfold eG;rw[List.take_zero]
    split <;> rfl),_,_,_,rfl⟩ (fun i σ' l _ ⟨_,s',_⟩=>aJ.of (s' _ _ T)) ?_ ?_
  .rintro i _ σ' H3 t1 hx ⟨a,s3,L,⟨g,e,lks⟩,X,R,M,U,rfl⟩ I
   have l3:a.length<=i:=by
    have:=congrArg List.length e;rw[bT,bT]at this;lia
   have hi:i<D.length:=by
    have:=(oW.mp hx).1;lia
   have ed:=fQ hi;apply aW;intro _ g_;obtain⟨v,hv,ad,gv,Y,y4,_,rfl,j,S⟩:=W.get ed;apply g_;clear g_;rw[hv]at hx;obtain rfl:=kJ hx;have t:=hok _ (lQ hi);generalize hdd:D[i]=d at j S t ed
   have et:D.take (i+1)=D.take i++[d]:=by
    rw[mq,ed];rfl
   have elt:(D.take i).length=i:=by
    rw[iQ];lia
   have m:=s3.trans (zF I (.tup [.int (i:Int),.ref ad]));have h4:=(zF I (.tup [.int (i:Int),.ref ad])) _ _ L;refine⟨t1,_,rfl,aJ.of zC,rfl,_,_,rfl,_,_,rfl,rfl,?_⟩;generalize upd H3 t1 (.tup [.int (i:Int),.ref ad])=H4 at m h4 ⊢;refine⟨_,rfl,aG (aJ.of (m _ _ j)) rfl ?_⟩;refine⟨fun c l=>l=H4/\c=(decide (V.int d.ev=V.int p)&&(inV (.int d.room) (O.map V.int)&&(!(iR a (Sum.inl d.room)).isSome&&d.g.holds O bx))),?_,?_⟩
   .refine⟨_,rfl,aG (aJ.of (m _ _ j)) rfl ⟨_,rfl,rfl,_,rfl,fO (fun C=>?_) (fun C=>⟨rfl,?_⟩)⟩⟩
    .have C:decide (V.int d.ev=V.int p)=true:=C;rw[C,eR];refine⟨_,rfl,_,rfl,xR rfl (.inr (aJ.of (m _ _ ho))) ⟨rfl,w5 O,_,rfl,fO (fun u=>?_) (fun u=>⟨rfl,?_⟩)⟩⟩
     .have u:inV (.int d.room) (O.map V.int)=true:=u;rw[u,eR];refine⟨_,rfl,_,rfl,B,_,rfl,Hj.k (k:=Sum.inl d.room) h4,_,rfl,fO (fun c3=>?_) (fun c3=>⟨rfl,?_⟩)⟩
      .rw[c3,eR];exact⟨_,rfl,aG (aJ.of (m _ _ j)) rfl ⟨_,rfl,_,rfl,aG (aJ.of (m _ _ hst)) rfl ⟨gv,o,b,d.g,O,bx,rfl,S.mono (aB.of m),m _ _ ho,m _ _ hb,t.1,t.2,_,rfl,rfl,rfl⟩⟩⟩
      .rw[c3];rfl
     .have u:inV (.int d.room) (O.map V.int)=false:=u;rw[u];rfl
    .have C:decide (V.int d.ev=V.int p)=false:=C;rw[C];rfl
   rintro c _ ⟨rfl,N⟩;refine fO (fun C=>?_) (fun C=>?_)
   .rw[C]at N;have Z:=N.symm;simp only[Bool.and_eq_true,Bool.not_eq_true']at Z;apply aW;intro _ g_;obtain⟨e1,e2,e3,e4⟩:=Z;apply g_;clear g_
    have e5:eG O bx (D.take i) d.room p=none:=by
     have:=X d.room
     cases z:eG O bx (D.take i) d.room p with
     | none=>rfl
     | some k=>
      rw[z]at this;rw[this]at e3
      cases e3
    refine⟨_,rfl,_,rfl,_,rfl,B,_,rfl,Xl.k (k:=Sum.inl d.room) h4 (zW (by lia)),putK a (Sum.inl d.room) (.int (i:Int)),bW G m _,zC,⟨g++[d.room],by rw[UT _ (by have:=X d.room;rw[e5]at this;exact this),List.map_append,List.map_append,e];rfl,by rw[List.length_append];simp;lia⟩,fun r=>?_,_,_,_,rfl⟩;rw[T4,et,Jz,elt]
    by_cases z:(Sum.inl r:Key)=Sum.inl d.room
    .have z':r=d.room:=by injection z
     subst z'
     rw[cS rfl,cS ⟨e2,e5,by
      unfold hit;rw[bq rfl,e1,e4]
      rfl⟩]
     rfl
    .rw[cK z,cK (fun y=>z (by
      have J:=y.2.2;unfold hit at J;simp only[Bool.and_eq_true]at J;have Y:=ba J.1;injection Y with y4
      rw[y4]))]
     exact X r
   .rw[C]at N;refine⟨a,m,h4,⟨g,e,by lia⟩,fun r=>?_,_,_,_,rfl⟩;rw[et,Jz,cK (fun y=>?_)]
    .exact X r
    .apply aW;intro _ g_;obtain⟨y1,J,Y⟩:=y;apply g_;clear g_;unfold hit at Y;simp only[Bool.and_eq_true]at Y;apply aW;intro _ g_;obtain⟨z1,z2,z3⟩:=Y;apply g_;clear g_;have z4:=ba z1;injection z4 with z5;subst z5;have:=X d.room;rw[J]at this;rw[z2,y1,this,z3]at N
     cases N
  .rintro σ' H3 bR;apply aW;intro _ g_;obtain⟨a,s3,L,⟨g,e,lks⟩,X,r⟩:=bR;apply g_;clear g_;rw[DX (by lia)]at X;exact⟨a,s3,L,X,⟨g,e,by lia⟩,r⟩
 rintro σ' H3 bR;apply aW;intro _ g_;obtain⟨a,s3,L,X,e,R,M,U,rfl⟩:=bR;apply g_;clear g_;exact⟨_,rfl,q B a H3 s3 L X e G⟩
end DQ
namespace dC
open PySem L2 jP lN vB
inductive Ih(vs:List V)(H:Hp)(Q:VK)(E_:XK):Prop
 | mk (t:Addr) (rs:List Rm) (k:Nat) (_:vs=[.ref t,.int (k:Int)]) (_:dW H t rs) (_:rs.length<=40) (_:k<rs.length) (_:∀ e:Nat,Tr.FT (aD rs) k e->Q (.int (e:Int)) H)
def vM:aF ["rooms","room","depth","other"] ["rooms","room"] (aA Fx):=cQ
def qC4(F:bO K "end_of" "end_of" Fx f fd)(G:mg "range" = none)(p:mg "len" = none):aL P w K mg base aN 1 f fd ["rooms","room"] Ih:=by
 refine F.ok vM ?_ ?_
 .rintro _ _ _ _⟨t,R,k,rfl,_⟩;rfl
 intro _ A _ s H vs Q E _ h
 apply aW;intro _ g_;obtain⟨t,R,k,rfl,D,_,v,q⟩:=h;apply g_;clear g_
 refine⟨_,(zE (zL (i:=2) vM.nd rfl (bb rfl) (yC zH (yC zH (pv 0) (pv 1) (fun _ _=>rfl)) zB (fun _ _=>rfl)))
  (yA (bf PassesOwn.never rfl (vR rfl G (zA (yD yG (pv 1) zB) (zA (zT zO rfl p bj (zA (pv 0) zD)) zD))) (yK (i:=3) vM.nd rfl (bb rfl))
  (zG (yE (zM fJ (yC zH (yC zH (pv 0) (pv 3) (fun _ _=>rfl)) zB (fun _ _=>rfl)) (pv 2) (zS _))
  (zG (zP (pv 3)))
  zU)))
  (zG (zP (zT zO rfl p bj (zA (pv 0) zD)))))),?_⟩
 apply aW;intro _ g_;obtain⟨vs,a,r,ht,I,d,g,L⟩:=D.at v;apply g_;clear g_;have x:=jO d;have dl:=yW R;refine⟨_,rfl,_,rfl,t,vs,_,_,rfl,rfl,aJ.of ht,g,aG (aJ.of L) rfl ?_⟩;refine⟨fun σ' b=>b=H/\Tr.FT (aD R) k R.length/\∃ o:aE V,σ'=[some (.ref t),some (.int (k:Int)),some (.int r.depth),o],?_,?_⟩
 .refine⟨_,rfl,eO ⟨_,rfl,xR rfl (.inr (aJ.of ht)) ⟨_,_,rfl,⟨by lia,by lia,by lia,by lia⟩,?_⟩⟩⟩;refine cI (fun i σ' b=>b=H/\(∀ j,k<j->j<k+1+i->(aD R).getD k 0<(aD R).getD j 0)/\∃ o:aE V,σ'=[some (.ref t),some (.int (k:Int)),some (.int r.depth),o]) ⟨rfl,fun j J u=>by lia,none,rfl⟩ ?_ ?_
  .rintro i σ' b _ B;apply aW;intro _ g_;obtain⟨rfl,n,o,rfl⟩:=B
   have M:k+1+i<R.length:=by lia
   obtain⟨_,_,S,O,_,m,U,l⟩:=D.at M;apply g_;clear g_;rw[ht]at O
   cases O
   have e:=jO m
   have C:(k:Int)+1+(i:Int)=((k+1+i:Nat):Int):=by lia
   refine⟨_,rfl,_,rfl,t,vs,_,_,rfl,rfl,aJ.of ht,(by rw[C];exact U),aG (aJ.of l) rfl ⟨_,rfl,eO ⟨_,rfl,?_⟩⟩⟩;refine vp (fun c=>?_) (fun c=>?_)
   .have T:=ba c;refine⟨_,rfl,?_⟩;have z:=q (k+1+i) ⟨by lia,by lia,n,fun _=>by rw[e,x];exact T⟩;rw[<-C]at z;exact z
   .have T:¬ S.depth<=r.depth:=fun z=>c (bq z);refine⟨rfl,fun j J u=>?_,_,rfl⟩
    by_cases y:j=k+1+i
    .rw[y,e,x];lia
    .exact n j J (by lia)
  .rintro σ' b B;apply aW;intro _ g_;obtain⟨rfl,n,o,rfl⟩:=B;apply g_;clear g_;exact⟨rfl,⟨v,by lia,fun j J u=>n j J (by lia),fun z=>by lia⟩,o,rfl⟩
 rintro σ' b B;apply aW;intro _ g_;obtain⟨rfl,N,o,rfl⟩:=B;apply g_;clear g_;refine⟨_,rfl,xR rfl (.inr (aJ.of ht)) ?_⟩;have z:=q _ N;rw[<-I]at z;exact z
inductive IW(vs:List V)(H:Hp)(Q:VK)(E_:XK):Prop
 | mk (t:Addr) (rs:List Rm) (k:Nat) (_:vs=[.ref t,.int (k:Int)]) (_:dW H t rs) (_:Tr.Good (aD rs)) (_:rs.length<=40) (_:k<rs.length) (_:∀ H',aH H H'->Q (pV (Tr.par (aD rs) k)) H')
def vL:aF ["rooms","room","depth","other"] ["rooms","room"] (aA yX):=cQ
def Ql(F:bO K "parent" "parent" yX f fd)(G:mg "range" = none):aL P w K mg base aN 1 f fd ["rooms","room"] IW:=by
 refine F.ok vL ?_ ?_
 .rintro _ _ _ _⟨t,R,k,rfl,_⟩;rfl
 intro _ A _ s H vs Q E _ h
 apply aW;intro _ g_;obtain⟨t,R,k,rfl,D,_,_,x,q⟩:=h;apply g_;clear g_
 refine⟨_,(zE (zL (i:=2) vL.nd rfl (bb rfl) (yC zH (yC zH (pv 0) (pv 1) (fun _ _=>rfl)) zB (fun _ _=>rfl)))
  (yA (bf PassesOwn.never rfl (Yj rfl G (qKC (yD lF (pv 1) zB) (qEV (Ay rH zB) (qEV (Ay rH zB) zD)))) (yK (i:=3) vL.nd rfl (bb rfl))
  (zG (yE (zM mH (yC zH (yC zH (pv 0) (pv 3) (fun _ _=>rfl)) zB (fun _ _=>rfl)) (pv 2) (zS _))
  (zG (zP (pv 3)))
  zU)))
  (zG (zP iw)))),?_⟩
 apply aW;intro _ g_;obtain⟨vs,a,r,ht,_,g,l,I⟩:=D.at x;apply g_;clear g_;have u:=jO g;refine⟨_,rfl,_,rfl,t,vs,_,_,rfl,rfl,aJ.of ht,l,aG (aJ.of I) rfl ?_⟩;refine⟨fun σ' b=>b=H/\Tr.par (aD R) k=none,?_,?_⟩
 .refine⟨_,rfl,eO ⟨_,rfl,_,rfl,(k:Int)-1,rfl,by lia,by lia,?_⟩⟩;refine WT (fun i σ' b=>b=H/\(∀ j,k<=j+i->j<k->(aD R).getD k 0<=(aD R).getD j 0)/\∃ o:aE V,σ'=[some (.ref t),some (.int (k:Int)),some (.int r.depth),o]) ⟨rfl,fun j v J=>by lia,none,rfl⟩ ?_ ?_
  .rintro i σ' b _ B;apply aW;intro _ g_;obtain⟨rfl,n,o,rfl⟩:=B
   have N:i<k:=by lia
   have L:k-1-i<R.length:=by lia
   obtain⟨_,_,M,O,_,p,U,m⟩:=D.at L;apply g_;clear g_;rw[ht]at O
   cases O
   have d:=jO p
   have C:(k:Int)-1-(i:Int)=((k-1-i:Nat):Int):=by lia
   refine⟨_,rfl,_,rfl,t,vs,_,_,rfl,rfl,aJ.of ht,(by rw[C];exact U),aG (aJ.of m) rfl ⟨_,rfl,eO ⟨_,rfl,?_⟩⟩⟩;refine vp (fun c=>?_) (fun c=>?_)
   .have T:=ba c;refine⟨_,rfl,?_⟩;have e:Tr.par (aD R) k=some (k-1-i):=Tr.rW (by lia) (by rw[d,u];exact T) fun j v J=>n j (by lia) J;have z:=q _ (aH.refl _);rw[e]at z;rw[C];exact z
   .have T:¬ M.depth<r.depth:=fun z=>c (bq z);refine⟨rfl,fun j v J=>?_,_,rfl⟩
    by_cases y:j=k-1-i
    .rw[y,d,u];lia
    .exact n j (by lia) J
  .rintro σ' b B;apply aW;intro _ g_;obtain⟨rfl,n,o,rfl⟩:=B;apply g_;clear g_;exact⟨rfl,Tr.BK fun j L=>n j (by lia) L⟩
 rintro σ' b ⟨rfl,e⟩;have z:=q _ (aH.refl _);rw[e]at z;exact z
inductive Ku(vs:List V)(H:Hp)(Q:VK)(E_:XK):Prop
 | mk (t:Addr) (rs:List Rm) (one other:Nat) (_:vs=[.ref t,.int (one:Int),.int (other:Int)]) (_:dW H t rs) (_:Tr.Good (aD rs)) (_:rs.length<=40) (_:one<rs.length) (_:other<rs.length) (_:∀ H',aH H H'->Q (.bl (Tr.bL (aD rs) one other)) H')
def LQ:aF ["rooms","one","other"] ["rooms","one","other"] (aA yc):=cQ
def Yw(F:bO K "lies_in" "lies_in" yc f fd)(j:Dp P w K mg base aN n ge de ["rooms","room"] Ih "end_of") :
  aL P w K mg base aN (n+1) f fd ["rooms","one","other"] Ku:=by
 refine F.ok LQ ?_ ?_
 .rintro _ _ _ _⟨t,r,one,other,rfl,_⟩;rfl
 intro _ A _ s H _ Q E d h
 apply aW;intro _ g_;obtain⟨t,r,one,other,rfl,D,_,R,_,b,q⟩:=h;apply g_;clear g_;have i:=q H (aH.refl _);have dl:=yW r;refine⟨_,(zG (zP (Ug mH mH (pv 2) (pv 1) (pC j d (zA (pv 0) (zA (pv 2) zD)))))),?_⟩;refine⟨_,rfl,_,rfl,eO ⟨_,rfl,?_⟩⟩;refine vp (fun c=>?_) (fun c=>?_)
 .have T:=ba c;refine⟨_,rfl,_,rfl,t,r,other,rfl,D,R,b,fun e g=>(eO ?_)⟩;rw[Tr.BZ g (by lia),bq (show other<one by lia),eR]at i;have k:decide (one<e)=decide ((one:Int)<(e:Int)):=bS.mpr (by lia);rw[k]at i;exact i
 .have T:¬ (other:Int)<(one:Int):=fun z=>c (bq z)
  have a:Tr.bL (aD r) one other=false:=by
   unfold Tr.bL;rw[Bool.eq_false_iff];intro z;have:=Tr.T5 (List.contains_iff_mem.mp z);lia
  rw[a]at i;exact i
end dC
namespace N6
open PySem L2 jP lN vB
def isOne(R:aw Rm)(x:Nat):Bool:=match R[x]? with
 | some r=>decide (V.str r.kind=V.str "one")
 | none=>false
inductive Ti(vs:List V)(H:Hp)(Q:VK)(E_:XK):Prop
 | mk (t:Addr) (rs:List Rm) (one other:Nat) (_:vs=[.ref t,.int (one:Int),.int (other:Int)]) (_:dW H t rs) (_:Tr.Good (aD rs)) (_:rs.length<=40) (_:one<rs.length) (_:other<rs.length) (_:∀ H',aH H H'->Q (pV (Tr.hall (aD rs) (isOne rs) one other)) H')
def hgt:aE Nat->Nat
 | none=>0
 | some j=>j+1
end N6
namespace dC
open PySem L2 jP lN vB
theorem RZ(d:aw Int)(f:Nat->Bool)(b k:Nat):Tr.hall d f k b=match Tr.par d k with
  | none=>none
  | some j=>if ((Tr.ups d b).contains j&&f j)=true then some j else Tr.hall d f j b:=by
 unfold Tr.hall
 cases e:Tr.par d k with
 | none=>
  rw[Tr.za e];rfl
 | some j=>
  rw[Tr.sW e,List.find?_cons];show _=if ((Tr.ups d b).contains j&&f j)=true then some j else _
  cases h:((Tr.ups d b).contains j&&f j) with
  | true=>rfl
  | false=>rfl
def nH:aF ["rooms","one","other","hall"] ["rooms","one","other"] (aA qX):=cQ
theorem Yz(F:bO K "hall_over" "hall_over" qX f fd)(J:Dp P w K mg base aN n gp dp ["rooms","room"] IW "parent")
  (X:Dp P w K mg base aN n gl dl' ["rooms","one","other"] Ku "lies_in") :
  aL P w K mg base aN (n+1) f fd ["rooms","one","other"] N6.Ti:=by
 refine F.ok nH ?_ ?_
 .rintro _ _ _ _⟨t,R,one,other,rfl,_⟩;rfl
 intro _ A _ s H vs Q E C h
 apply aW;intro _ g_;obtain⟨t,R,one,other,rfl,D,g,y,I,U,q⟩:=h;apply g_;clear g_
 refine⟨_,(zE (zL (i:=3) nH.nd rfl (bb rfl) (pC J C (zA (pv 0) (zA (pv 1) zD))))
  (yA (Aw PassesOwn.never (zM GQ (pv 3) iw (zS _))
  (zE (yE (bZ (PW.pt (pw_and (zM yH (yC zH (yC zH (pv 0) (pv 3) (fun _ _=>rfl)) zB (fun _ _=>rfl)) zQ (zS _)) (yQ (aY (pC X C (zA (pv 0) (zA (pv 2) (zA (pv 3) zD)))))))))
  (zG (zP (pv 3)))
  zU)
  (zG (zL (i:=3) nH.nd rfl (bb rfl) (pC J C (zA (pv 0) (zA (pv 3) zD)))))))
  (zG (zP iw)))),?_⟩
 refine⟨_,rfl,_,rfl,t,R,one,rfl,D,g,y,I,fun _ T=>?_⟩;refine⟨fun σ' l=>aH H l/\Tr.hall (aD R) (N6.isOne R) one other=none,?_,?_⟩
 .refine⟨fun m σ' l=>∃ k:Nat,k<R.length/\m=N6.hgt (Tr.par (aD R) k)/\aH H l/\Tr.hall (aD R) (N6.isOne R) one other=Tr.hall (aD R) (N6.isOne R) k other/\σ'=[some (.ref t),some (.int (one:Int)),some (.int (other:Int)),some (pV (Tr.par (aD R) k))],⟨_,one,I,rfl,T,rfl,rfl⟩,?_⟩;rintro m σ' l G;apply aW;intro _ g_;obtain⟨k,N,rfl,S,u,rfl⟩:=G;apply g_;clear g_;have o:=RZ (aD R) (N6.isOne R) other k
  cases e:Tr.par (aD R) k with
  | none=>
   rw[e]at o;exact⟨_,rfl,rfl,_,rfl,eE rfl ⟨S,u.trans o⟩⟩
  | some j=>
   rw[e]at o;have L:=iL (Tr.pM e) N;have p:=D.mono (aB.of S);apply aW;intro _ g_;obtain⟨vs,a,r,ht,_,v,x,O⟩:=p.at L;apply g_;clear g_
   have io:N6.isOne R j=decide (V.str r.kind=V.str "one"):=by
    unfold N6.isOne;rw[v]
   refine⟨_,rfl,rfl,_,rfl,Hq rfl ?_⟩;refine⟨fun σ' d=>aH H d/\Tr.hall (aD R) (N6.isOne R) one other=Tr.hall (aD R) (N6.isOne R) j other/\σ'=[some (.ref t),some (.int (one:Int)),some (.int (other:Int)),some (pV (Tr.par (aD R) j))],?_,?_⟩
   .rintro σ' d G;apply aW;intro _ g_;obtain⟨W,B,rfl⟩:=G;apply g_;clear g_;refine⟨N6.hgt (Tr.par (aD R) j),?_,j,L,rfl,W,B,rfl⟩
    cases e2:Tr.par (aD R) j with
    | none=>show 0<j+1;lia
    | some i=>have:=Tr.pM e2;show i+1<j+1;lia
   .refine⟨fun b d=>aH l d/\b=((Tr.ups (aD R) other).contains j&&N6.isOne R j),?_,?_⟩
    .refine⟨_,rfl,_,rfl,t,vs,_,_,rfl,rfl,aJ.of ht,x,aG (aJ.of O) rfl ⟨rfl,_,rfl,?_⟩⟩;refine vp (fun c=>?_) (fun c=>?_)
     .refine⟨_,rfl,_,rfl,_,rfl,t,R,other,j,rfl,p,g,y,U,L,fun d W=>⟨_,rfl,W,?_⟩⟩;rw[io,c,Bool.and_true];rfl
     .refine⟨aH.refl _,?_⟩;rw[io,eJ.mpr c,Bool.and_false]
    .rintro b d ⟨W,rfl⟩;refine vp (fun c=>?_) (fun c=>?_)
     .refine⟨_,rfl,?_⟩;have z:=q d (S.trans W);rw[u,o]at z;simp only[c,if_true]at z;exact z
     .refine⟨_,rfl,_,rfl,t,R,j,rfl,D.mono (aB.of (S.trans W)),g,y,L,fun _ M=>⟨(S.trans W).trans M,?_,rfl⟩⟩;rw[u,o];simp only[c,if_false];rfl
 rintro σ' l ⟨S,e⟩;have z:=q _ S;rw[e]at z;exact z
inductive Th(vs:List V)(H:Hp)(Q:VK)(E_:XK):Prop
 | mk (t:Addr) (rs:List Rm) (k:Nat) (_:vs=[.ref t,.int (k:Int)]) (_:dW H t rs) (_:Tr.Good (aD rs)) (_:rs.length<=40) (_:k<rs.length) (_:∀(p:Addr)(H':Hp),aH H H'->H p=none->H' p=some (.lst (aC (Tr.kids (aD rs) k)))->Q (.ref p) H')
def O2:aF ["rooms","room","depth"] ["rooms","room"] (aA Iz):=cQ
def Yx(F:bO K "kids" "kids" Iz f fd)(S:Dp P w K mg base aN n ge de ["rooms","room"] Ih "end_of")(N:mg "range" = none) :
  aL P w K mg base aN (n+1) f fd ["rooms","room"] Th:=by
 refine F.ok O2 ?_ ?_
 .rintro _ _ _ _⟨t,R,k,rfl,_⟩;rfl
 intro _ A _ s H vs Q E hr h
 apply aW;intro _ g_;obtain⟨t,R,k,rfl,D,g,W,G,q⟩:=h;apply g_;clear g_
 refine⟨_,(zE (zL (i:=2) O2.nd rfl (Or.inr rfl) (yD yG (yC zH (yC zH (pv 0) (pv 1) (fun _ _=>rfl)) zB (fun _ _=>rfl)) zB))
  (zG (zP (yU (bF:=[(2,"depth"),(0,"rooms")]) rfl (show bA (aA Iz) ["rooms","room","depth"] _ _ _ from vA) (vR rfl N (zA (yD yG (pv 1) zB) (zA (pC S hr (zA (pv 0) (zA (pv 1) zD))) zD))) (fun _ _ _ _ _ _=>cW (zM yH (yC (r:=dM K) zH (yC (r:=dM K) zH (pv 2) (pv 0) (fun _ _=>rfl)) zB (fun _ _=>rfl)) (pv 1) (zS _))) (fun _ _ _ _ _ _=>(pv 0)))))),?_⟩
 apply aW;intro _ g_;obtain⟨vs,a,r,ht,_,o,u,X⟩:=D.at G;apply g_;clear g_;have J:=jO o;have dl:=yW R;refine⟨_,rfl,_,rfl,t,vs,_,_,rfl,rfl,aJ.of ht,u,aG (aJ.of X) rfl (eO ?_)⟩;refine⟨_,rfl,eO ⟨_,rfl,_,rfl,t,R,k,rfl,D,W,G,fun e l=>?_⟩⟩;have U:=l.lt;have Y:=l.le;refine⟨_,_,rfl,⟨by lia,by lia,by lia,by lia⟩,?_⟩;refine sH (fun i b B=>B=H/\b=aC (Tr.iG (aD R) k (k+1+i))) ⟨rfl,by rw[Tr.Bb _ _ _ (by lia)];rfl⟩ (fun i b B _ ⟨m,v⟩=>?_) (fun b B ⟨m,v⟩ p L=>?_)
 .subst m v
  have Z:k+1+i<R.length:=by lia
  apply aW;intro _ g_;obtain⟨_,_,_,O,_,C,Bd,x⟩:=D.at Z;apply g_;clear g_;rw[ht]at O
  cases O
  have d:=jO C
  have M:(k:Int)+1+(i:Int)=((k+1+i:Nat):Int):=by lia
  have I:=Tr.Oh g l (j:=k+1+i) (by lia);refine⟨_,rfl,_,rfl,t,vs,_,_,rfl,rfl,aJ.of ht,(by rw[M];exact Bd),aG (aJ.of x) rfl ⟨_,rfl,rfl,_,rfl,?_⟩⟩;refine vp (fun c=>?_) (fun c=>?_)
  .have T:=ba c;injection T with T;refine⟨_,rfl,?_,rfl,?_⟩
   .unfold aC;have:=Tr.MP (aD R) k (k+1+i);exact zW (by rw[bT];lia)
   .rw[show k+1+(i+1)=(k+1+i)+1 by lia,Tr.kj,cS (by rw[I.mpr ⟨by lia,by lia,by rw[d,J];exact T⟩];simp),M];unfold aC;rw[qz];rfl
  .refine⟨rfl,?_⟩;rw[show k+1+(i+1)=(k+1+i)+1 by lia,Tr.kj,cK,oY];intro z;have y:=(I.mp (eq_of_beq z)).2.2;rw[d,J]at y;exact c (bq (by rw[y]))
 .subst m v;refine q p _ (zF L _) L ?_;rw[zC,Tr.Vo g l,show k+1+((e:Int)-((k:Int)+1)).toNat=e by lia]
end dC
namespace Q4
open PySem L2 jP lN vB
def under(d:aw Int)(o:Nat):aE Nat->Bool
 | none=>true
 | some u=>Tr.bL d o u
def nT(d:aw Int)(un:aE Nat)(os:aw Nat):aw Nat:=(os.filter fun o=>under d o un).reverse
inductive Td(vs:List V)(H:Hp)(Q:VK)(E_:XK):Prop
 | mk (t ux rs un os) (_:vs=[.ref t,pV un,.ref ux]) (_:dW H t rs) (_:Tr.Good (aD rs)) (_:rs.length<=40) (_:(∀ u,un=some u->u<rs.length)) (_:H ux=some (.tup (aC os))) (_:(∀ o∈os,o<rs.length)) (_:os.length<=40) (_:os.Pairwise (· < ·)) (_:∀ p H',aH H H'->H p=none->H' p=some (.lst (aC (nT (aD rs) un os)))->Q (.ref p) H')
def ZJ(k:Nat)(os:aw Nat):inV (.int (k:Int)) (aC os)=decide (k∈os):=by
 rw[eK,decide_eq_true_iff];constructor
 .intro h;obtain⟨o,q,e⟩:=Om h;rw[show k=o by lia];exact q
 .intro h;unfold inV aC;rw[fk,fi];exact⟨k,h,by simp [Xv]⟩
end Q4
namespace dC
open PySem L2 jP lN vB
def rC:aF ["rooms","under","opening","end"] ["rooms","under","opening"] (aA U4):=cQ
theorem Cm(F:bO K "goings_out" "goings_out" U4 f fd)(J:Dp P w K mg base aN n ge de ["rooms","room"] Ih "end_of")(C:mg "sorted" = none) :
  aL P w K mg base aN (n+1) f fd ["rooms","under","opening"] Q4.Td:=by
 refine F.ok rC ?_ ?_
 .rintro _ _ _ _⟨t,U,r,un,os,rfl,_⟩;rfl
 intro _ A _ s H _ Q E X h
 apply aW;intro _ g_;obtain⟨t,U,r,un,os,rfl,G,_,S,v,d,y,_,I,q⟩:=h;apply g_;clear g_
 refine⟨_,(zE (yE (zM Li (pv 1) iw (zS _))
  (zG (zP (Az rfl C (zA (pv 2) zD))))
  zU)
  (zE (zL (i:=3) rC.nd rfl (Or.inr rfl) (pC J X (zA (pv 0) (zA (pv 1) zD))))
  (zG (zP (Az rfl C (zA (yU (bF:=[(1,"under"),(3,"end")]) rfl (show bA (aA U4) ["rooms","under","opening","end"] _ _ _ from vA) (nQ (pv 2)) (fun _ _ _ _ _ _=>cW (Av mH mH (pv 1) (pv 0) (pv 2))) (fun _ _ _ _ _ _=>(pv 0))) zD)))))),?_⟩
 have dl:=yW r
 cases un with
 | none=>
  refine⟨_,rfl,rfl,_,rfl,Hq rfl ⟨_,rfl,U,_,rfl,.inr (aJ.of (by rw[<-cj];exact d)),by rw[bT];lia,fun p R g m Y=>?_⟩⟩;have e:=wU m Y I;subst e;refine q p _ (zF g _) g ?_;rw[zC]
  rw[show Q4.nT (aD r) none os=os.reverse by
   unfold Q4.nT
   rw[(List.filter_eq_self (p:=fun o=>Q4.under (aD r) o none)).mpr fun _ _=>rfl],<-cj]
  rfl
 | some u=>
  have M:=v u rfl;refine⟨_,rfl,rfl,_,rfl,eE rfl ⟨_,rfl,_,rfl,t,r,u,rfl,G,S,M,fun e W=>?_⟩⟩;refine⟨_,rfl,U,rfl,⟨_,aJ.of d⟩,?_⟩;refine ig (K:=K) (a:=U) (xs:=aC os) (fun i b k=>k=H/\b=aC ((os.take i).filter fun o=>Tr.bL (aD r) o u)) ⟨rfl,rfl⟩ (fun i b k ⟨e,_⟩=>by subst e;exact aJ.of d) (fun i x b k O ⟨l,z⟩=>?_) (fun b k ⟨l,z⟩ p g=>?_)
  .subst l z;obtain⟨D,rfl⟩:=yS O;have ho:=y _ (lQ D);have N:=Tr.BZ W (a:=os[i]) (by lia);refine⟨_,rfl,_,rfl,_,_,(e:Int),rfl,rfl,⟨_,rfl,rfl,rfl⟩,_,rfl,?_⟩
   have B:(decide ((u:Int)<((os[i]:Nat):Int))&&decide (((os[i]:Nat):Int)<(e:Int)))=Tr.bL (aD r) os[i] u:=by
    rw[N];congr 1
    .exact bS.mpr (by lia)
    .exact bS.mpr (by lia)
   rw[iZ (fQ D)];have L:=vD (fun o=>Tr.bL (aD r) o u) (os.take i);rw[iQ]at L;refine fO (fun c=>?_) (fun c=>?_)
   .have T:=B.symm.trans c;rw[cS T,<-jN];exact⟨_,rfl,zW (by rw[zV];lia),rfl,rfl⟩
   .have T:=B.symm.trans c;rw[cK (by rw[T];exact rA),oY];exact⟨rfl,rfl⟩
  subst l z;rw[DX (by rw[zV];exact bD _)];have L:=vD (fun o=>Tr.bL (aD r) o u) os;refine⟨p,_,rfl,.inl (aU.of (by rw[zC];unfold aC;rw[cj])),by rw[bT];lia,fun Z R j m Y=>?_⟩;have e:=wU m Y (I.filter _);subst e;refine q Z _ ((zF g _).trans (zF j _)) ((zF g _).free j) ?_;rw[zC,<-cj];rfl
def kindAt(r:aw Rm)(p:Nat):Str:=(r.map (·.kind)).getD p ("" : Str)
def Ot(h:rs[p]? = some r):kindAt rs p=r.kind:=by unfold kindAt;rw[jT,dZ,h];rfl
def S5(r:aw Rm)(p:Nat):Bool:=decide (kindAt r p=("all" : Str))
def qm(H:Hp)(p:ar)(r:aw Rm)(G:aw Nat):Prop:=H p=some (.lst (aC G))/\(∀ g∈G,g<r.length)/\G.length<=100
def qm.mono(h:qm H pg rs gs)(s:aH H H'):qm H' pg rs gs:=⟨s _ _ h.1,h.2⟩
inductive Ny(vs:List V)(H:Hp)(Q:VK)(E_:XK):Prop
 | mk (t pg:Addr) (rs:List Rm) (k:Nat) (gs:List Nat) (_:vs=[.ref t,.int (k:Int),.ref pg]) (_:dW H t rs) (_:rs.length<=40) (_:k<rs.length) (_:qm H pg rs gs) (_:∀ H',aH H H'->Q (.bl (Tr.bears (aD rs) gs k)) H')
inductive Te(vs:List V)(H:Hp)(Q:VK)(E_:XK):Prop
 | mk (t pg:Addr) (rs:List Rm) (k:Nat) (gs:List Nat) (_:vs=[.ref t,.int (k:Int),.ref pg]) (_:dW H t rs) (_:Tr.Good (aD rs)) (_:rs.length<=40) (_:k<rs.length) (_:qm H pg rs gs) (_:∀(p:Addr)(H':Hp),aH H H'->H p=none->H' p=some (.lst (aC (Tr.next (aD rs) (S5 rs) gs k)))->Q (.ref p) H')
inductive qBG(vs:List V)(H:Hp)(Q:VK)(E_:XK):Prop
 | mk (t pg rs un gs) (_:vs=[.ref t,pV un,.ref pg]) (_:dW H t rs) (_:Tr.Good (aD rs)) (_:rs.length<=40) (_:(∀ u,un=some u->u<rs.length)) (_:qm H pg rs gs) (_:∀ p ms H',aH H H'->H p=none->H' p=some (.lst (aC ms))->Tr.Q5 (aD rs) (S5 rs) gs un ms->Q (.ref p) H')
def rD:aF ["rooms","room","goals","end"] ["rooms","room","goals"] (aA Aj):=cQ
def Cp(F:bO K "bears_goal" "bears_goal" Aj f fd)(J:Dp P w K mg base aN n ge de ["rooms","room"] Ih "end_of")(N:mg "any" = none) :
  aL P w K mg base aN (n+1) f fd ["rooms","room","goals"] Ny:=by
 refine F.ok rD ?_ ?_
 .rintro _ _ _ _⟨t,m,r,k,G,rfl,_⟩;rfl
 intro _ A _ s H _ Q E O h
 apply aW;intro _ g_;obtain⟨t,m,r,k,G,rfl,D,R,M,B,q⟩:=h;apply g_;clear g_
 refine⟨_,(zE (zL (i:=3) rD.nd rfl (Or.inr rfl) (pC J O (zA (pv 0) (zA (pv 1) zD))))
  (zG (zP (zT (qi rfl) rfl N kc (zA (yU (bF:=[(1,"room"),(3,"end")]) rfl (show bA (aA Aj) ["rooms","room","goals","end"] _ _ _ from vA) (yN (pv 2)) (fun _ _ _ _ _ _=>bQ) (fun _ _ _ _ _ _=>(rR fJ mH (pv 1) (pv 0) (pv 2)))) zD))))),?_⟩
 apply aW;intro _ g_;obtain⟨y,u,_⟩:=B;apply g_;clear g_;have dl:=yW r;refine⟨_,rfl,_,rfl,t,r,k,rfl,D,R,M,fun e v=>?_⟩;refine⟨_,rfl,m,rfl,⟨_,aU.of y⟩,?_⟩;refine yT (K:=K) (a:=m) (xs:=aC G) (fun i c d=>d=H/\c=((G.take i).map fun g:Nat=>(decide ((k:Int)<=(g:Int))&&decide ((g:Int)<(e:Int)))).map V.bl) ⟨rfl,rfl⟩ (fun i c d ⟨e,_⟩=>by subst e;exact aU.of y) (fun i x c d L ⟨j,o⟩=>?_) (fun c d ⟨j,o⟩ p S=>?_)
 .subst j o;obtain⟨T,rfl⟩:=yS L;refine⟨_,rfl,_,rfl,_,_,(e:Int),rfl,rfl,⟨_,rfl,rfl,rfl⟩,zW (by rw[bT,bT,iQ];lia),rfl,?_⟩;rw[mq,fQ T,qz,qz];rfl
 subst j o;rw[DX (by rw[zV];exact bD _)];refine⟨p,_,rfl,aU.of zC,?_⟩;have z:=q (upd d p (.lst ((G.map fun g:Nat=>(decide ((k:Int)<=(g:Int))&&decide ((g:Int)<(e:Int)))).map V.bl))) (zF S _)
 have C:(G.map fun g:Nat=>(decide ((k:Int)<=(g:Int))&&decide ((g:Int)<(e:Int)))).any id=Tr.bears (aD r) G k:=by
  unfold Tr.bears;rw[fk,eK,fi,fi];have I:=v.lt
  have pt:∀ g∈G,((id ∘ fun g:Nat=>(decide ((k:Int)<=(g:Int))&&decide ((g:Int)<(e:Int)))) g=true↔(g==k||Tr.bL (aD r) g k)=true):=fun g l=>by
   have:=u g l;rw[Tr.BZ v (by lia)];show (decide ((k:Int)<=(g:Int))&&decide ((g:Int)<(e:Int)))=true↔_;rw[eP,eD,eD,decide_eq_true_iff,decide_eq_true_iff,decide_eq_true_iff,decide_eq_true_iff,beq_iff_eq];lia
  exact⟨fun ⟨g,a,b⟩=>⟨g,a,(pt g a).mp b⟩,fun ⟨g,a,b⟩=>⟨g,a,(pt g a).mpr b⟩⟩
 rw[C];exact z
def rN:aF ["rooms","room","goals","own","kid"] ["rooms","room","goals"] (aA O3):=cQ
theorem Lq(F:bO K "next_in" "next_in" O3 f fd)
  (J:Dp P w K mg base aN n gk dk ["rooms","room"] Th "kids")
  (Hg:Dp P w K mg base aN n gb db ["rooms","room","goals"] Ny "bears_goal") :
  aL P w K mg base aN (n+1) f fd ["rooms","room","goals"] Te:=by
 refine F.ok rN ?_ ?_
 .rintro _ _ _ _⟨t,y,R,k,G,rfl,_⟩;rfl
 intro _ A _ s H vs Q E hr h
 apply aW;intro _ g_;obtain⟨t,y,R,k,G,rfl,D,m,rF,hk,hG,q⟩:=h;apply g_;clear g_
 refine⟨_,(zE (zL (i:=3) rN.nd rfl (bb rfl) (pC J hr (zA (pv 0) (zA (pv 1) zD))))
  (zE (yE (zM yH (yC zH (yC zH (pv 0) (pv 1) (fun _ _=>rfl)) zB (fun _ _=>rfl)) zQ (zS _))
  (zG (zP (pv 3)))
  zU)
  (yA (bf PassesOwn.never rfl (yN (pv 3)) (yK (i:=4) rN.nd rfl (bb rfl))
  (zG (yE (aY (pC Hg hr (zA (pv 0) (zA (pv 4) (zA (pv 2) zD)))))
  (zG (zP (yL (zA (pv 4) zD))))
  zU)))
  (zG (zP (dN O1 (pv 3) gA (fu zB))))))),?_⟩
 apply aW;intro _ g_;obtain⟨vs,a,r,ht,_,M,N,ha⟩:=D.at hk;apply g_;clear g_;have dl:=yW R;refine⟨_,rfl,_,rfl,t,R,k,rfl,D,m,rF,hk,fun l W e Y d=>?_⟩;refine⟨_,rfl,_,rfl,t,vs,_,_,rfl,rfl,aJ.of (e _ _ ht),N,aG (aJ.of (e _ _ ha)) rfl ⟨rfl,_,rfl,?_⟩⟩
 have v:S5 R k=decide (V.str r.kind=V.str ("all" : Str)):=by
  unfold S5;rw[Ot M];exact bS.mpr ⟨fun z=>by rw[z],fun z=>by injection z⟩
 refine fO (fun c=>?_) (fun c=>?_)
 .refine⟨_,rfl,q l W e Y ?_⟩;rw[Tr.VP (v.trans c)];exact d
 have T:S5 R k=false:=v.trans c
 have kl:∀ x∈Tr.kids (aD R) k,x<R.length:=fun x b=>by
  have:=(Tr.BW.mp b).1;lia
 have X:Tr.next (aD R) (S5 R) G k=match (Tr.kids (aD R) k).find? (Tr.bears (aD R) G) with
   | some j=>[j]
   | none=>(Tr.kids (aD R) k).take 1:=by
  unfold Tr.next;rw[cK (by rw[T];exact rA)]
  all_goals (cases (Tr.kids (aD R) k).find? (Tr.bears (aD R) G) <;> rfl)
 generalize hks:Tr.kids (aD R) k=g at d kl X;refine⟨fun σ' C=>aH W C/\(∀ x∈g,Tr.bears (aD R) G x=false)/\∃ O:aE V,σ'=[some (.ref t),some (.int (k:Int)),some (.ref y),some (.ref l),O],?_,?_⟩
 .refine⟨_,rfl,l,rfl,⟨_,aU.of d⟩,?_⟩;refine pX (K:=K) (a:=l) (xs:=aC g) (fun i σ' C=>aH W C/\(∀ x∈g.take i,Tr.bears (aD R) G x=false)/\∃ O:aE V,σ'=[some (.ref t),some (.int (k:Int)),some (.ref y),some (.ref l),O])
   ⟨aH.refl _,fun x b=>(by rw[List.take_zero]at b;cases b),_,rfl⟩ (fun i σ' C _ ⟨S,_⟩=>aU.of (S _ _ d)) ?_ ?_
  .rintro j x σ' H2 b B;apply aW;intro _ g_;obtain⟨S,o,O,rfl⟩:=B;obtain⟨U,rfl⟩:=yS b;apply g_;clear g_;have L:=kl _ (lQ U);refine⟨_,rfl,_,rfl,_,rfl,t,y,R,g[j],G,rfl,D.mono (aB.of (e.trans S)),rF,L,hG.mono (e.trans S),fun _ Z=>⟨_,rfl,?_⟩⟩;refine fO (fun c=>?_) (fun c=>?_)
   .refine⟨_,rfl,zJ (by show 1<=1000;decide),fun p u=>q p _ ((e.trans (S.trans Z)).trans (zF u _)) ((e.trans (S.trans Z)).free u) ?_⟩
    have I:g.find? (Tr.bears (aD R) G)=some g[j]:=by
     rw[List.find?_eq_some_iff_getElem];exact⟨c,j,U,rfl,fun i _=>by rw[o _ (by rw[List.mem_take_iff_getElem];exact⟨i,by lia,rfl⟩)];rfl⟩
    rw[zC,X,I];rfl
   .refine⟨S.trans Z,fun x b=>?_,_,rfl⟩;rw[mq,fQ U]at b;rcases jz.mp b with h | h
    .exact o x h
    .rw[jA.mp h];exact c
  .rintro σ' H2 B;apply aW;intro _ g_;obtain⟨S,o,O,rfl⟩:=B;apply g_;clear g_;rw[DX (by rw[zV];exact bD _)]at o;exact⟨S,o,_,rfl⟩
 rintro σ' H2 B;apply aW;intro _ g_;obtain⟨S,o,O,rfl⟩:=B;apply g_;clear g_;refine⟨_,rfl,_,rfl,l,_,rfl,aU.of (S _ _ d),fun p u=>q p _ ((e.trans S).trans (zF u _)) ((e.trans S).free u) ?_⟩
 have I:g.find? (Tr.bears (aD R) G)=none:=by
  rw[List.find?_eq_none];intro x b;rw[o x b];exact rA
 rw[zC,X,I,Js _ (by decide)];show some (HO.lst ((aC g).take 1))=some (HO.lst (aC (g.take 1)));unfold aC;rw[gE]
def jD:aF ["rooms","under","goals","ahead","gone","room"] ["rooms","under","goals"] (aA sIn):=cQ
theorem Ga(F:bO K "goings_in" "goings_in" sIn f fd)
  (FW:Dp P w K mg base aN n gn dn ["rooms","room","goals"] Te "next_in")
  (aP:mg "len" = none) (cH:mg "sorted" = none):aL P w K mg base aN (n+1) f fd ["rooms","under","goals"] qBG:=by
 refine F.ok jD ?_ ?_
 .rintro _ _ _ _⟨t,J,R,un,y,rfl,_⟩;rfl
 intro _ A _ s H _ Q E hr h
 apply aW;intro _ g_;obtain⟨t,J,R,un,y,rfl,hR,G,rF,hun,hG,q⟩:=h;apply g_;clear g_
 refine⟨_,(zE (zL (i:=3) jD.nd rfl (bb rfl) (pL (mC (zM Li (pv 1) iw (zS _)) (yL (zA zB zD)) (pC FW hr (zA (pv 0) (zA (pv 1) (zA (pv 2) zD)))))))
  (zE (zL (i:=4) jD.nd rfl (bb rfl) (yL zD))
  (yA (Aw PassesOwn.never (zM cY (zT zO rfl aP bj (zA (pv 3) zD)) zB (zS _))
  (zE (zL (i:=5) jD.nd rfl (bb rfl) (Uh iu PySem.F.slot_list_pop PySem.F.type_list_pop qCG (pv 3)))
  (zE (yJ (dU iu yz yx yI (pv 4) (zA (pv 5) zD)))
  (zG (yJ (dU iu kz kC cG (pv 3) (zA (pC FW hr (zA (pv 0) (zA (pv 5) (zA (pv 2) zD)))) zD)))))))
  (zG (zP (zT qC rfl cH kg (zA (pv 4) zD))))))),?_⟩
 have dl:=yW R;have o:=G.pos;refine⟨fun v j=>∃(b:ar)(ah:aw Nat),v = .ref b/\aH H j/\H b=none/\j b=some (.lst (aC ah))/\Tr.qH (aD R) (S5 R) y un [] ah,?_,?_⟩
 .cases un with
  | none=>exact⟨_,rfl,rfl,_,rfl,Hq rfl ⟨zJ (by show 1<=1000;decide),fun p D=>⟨p,[0],rfl,zF D _,D,zC,Tr.qH.none _ _ _⟩⟩⟩
  | some u=>exact⟨_,rfl,rfl,_,rfl,eE rfl ⟨_,rfl,_,rfl,_,rfl,t,J,R,u,y,rfl,hR,G,rF,hun u rfl,hG,fun p H1 s1 np D=>⟨p,_,rfl,s1,np,D,Tr.qH.some _ _ _ u⟩⟩⟩
 rintro _ H1 I;apply aW;intro _ g_;obtain⟨b,ah,rfl,s1,N,U,wk⟩:=I;apply g_;clear g_;refine⟨bo _,fun g l=>?_⟩;have npn:=s1.free l
 have ne:g≠b:=fun e=>by
  rw[e,U]at l
  cases l
 refine⟨fun σ' j=>∃ gone:aw Nat,aH H j/\j g=some (.lst (aC gone))/\Tr.qH (aD R) (S5 R) y un gone []/\∃ O:aE V,σ'=[some (.ref t),some (pV un),some (.ref J),some (.ref b),some (.ref g),O],?_,?_⟩
 .refine⟨fun m σ' j=>∃(gone d:aw Nat),m=R.length-gone.length/\aH H j/\j b=some (.lst (aC d))/\j g=some (.lst (aC gone))/\Tr.qH (aD R) (S5 R) y un gone d/\∃ O:aE V,σ'=[some (.ref t),some (pV un),some (.ref J),some (.ref b),some (.ref g),O],
   ⟨_,[],ah,rfl,s1.trans (zF l _),(zF l _) _ _ U,zC,wk,_,rfl⟩,?_⟩
  rintro m σ' L I;apply aW;intro _ g_;obtain⟨gone,d,rfl,S,B,x,W,O,rfl⟩:=I;apply g_;clear g_;refine⟨_,rfl,xR rfl (.inl (aU.of B)) (eO ⟨_,rfl,?_⟩)⟩;refine fO (fun c=>?_) (fun c=>?_)
  .have T:=ba c;rw[zV]at T;have wl:=W.len o;refine aW fun G_ g_=>?_
   obtain⟨a,r,rfl⟩:∃ a r,d=a++[r]:=by
    refine⟨d.dropLast,d.getLast (fun z=>by rw[z]at T;exact eu T (by decide)),(List.dropLast_concat_getLast _).symm⟩
   apply g_;clear g_
   have hrl:r<R.length:=by
    have:=(W.ok r (by simp)).lt o;lia
   rw[j8,vG]at wl;refine⟨fun σ' j=>∃(WD XQ:aw Nat),WD.length=gone.length+1/\aH H j/\j b=some (.lst (aC XQ))/\j g=some (.lst (aC WD))/\Tr.qH (aD R) (S5 R) y un WD XQ/\∃ O:aE V,σ'=[some (.ref t),some (pV un),some (.ref J),some (.ref b),some (.ref g),O],?_,?_⟩
   .rintro σ' H3 I;apply aW;intro _ g_;obtain⟨g2,a2,_,rest⟩:=I;apply g_;clear g_;exact⟨R.length-g2.length,by lia,g2,a2,rfl,rest⟩
   refine⟨_,rfl,.inl ⟨rfl,_,aU.of B⟩,b,_,.int (r:Int),rfl,rfl,B,?_,?_⟩
   .rw[<-jN,j8,vG,Nat.add_sub_cancel,zw4 (bD _),iS];rfl
   have hn3:(upd L b (.lst (aC (a++[r])).dropLast)) g=some (.lst (aC gone)):=by
    rw[zR ne];exact x
   refine⟨_,rfl,.inl ⟨rfl,_,aU.of hn3⟩,_,rfl,g,_,_,rfl,rfl,hn3,zW (by rw[zV];lia),?_⟩;have s3:aH H (upd (upd L b (.lst (aC (a++[r])).dropLast)) g (.lst (aC gone++[.int (r:Int)]))):=bW npn (bW N S _) _
   have C:(upd (upd L b (.lst (aC (a++[r])).dropLast)) g (.lst (aC gone++[.int (r:Int)]))) b=some (.lst (aC a)):=by
    rw[zR (bE ne),zC,<-jN,List.dropLast_concat]
   have M:(upd (upd L b (.lst (aC (a++[r])).dropLast)) g (.lst (aC gone++[.int (r:Int)]))) g=some (.lst (aC (gone++[r]))):=by
    rw[zC,jN]
   generalize upd (upd L b (.lst (aC (a++[r])).dropLast)) g (.lst (aC gone++[.int (r:Int)]))=H3 at s3 C M ⊢;refine⟨_,rfl,.inl ⟨rfl,_,aU.of C⟩,_,rfl,_,rfl,_,rfl,t,J,R,r,y,rfl,hR.mono (aB.of s3),G,rF,hrl,hG.mono s3,fun px _ s4 _ hpx=>?_⟩;have X:=W.step;have wl3:=X.len o;rw[j8]at wl3;refine⟨b,px,_,_,rfl,rfl,s4 _ _ C,hpx,zJ (by rw[zV,zV];rw[j8]at wl3;lia),gone++[r],a++Tr.next (aD R) (S5 R) y r,by rw[j8];rfl,bW N (s3.trans s4) _,?_,?_,X,_,rfl⟩
   .rw[zC];unfold aC;rw[qz]
   .rw[zR ne];exact s4 _ _ M
  .have T:=bP c;rw[zV]at T;have e:d=[]:=fo (by lia);subst e;exact⟨gone,S,x,W,_,rfl⟩
 rintro σ' L I;apply aW;intro _ g_;obtain⟨gone,S,x,W,O,rfl⟩:=I;apply g_;clear g_;have wl:=W.len o;refine⟨_,rfl,g,_,rfl,.inl (aU.of (by rw[x];unfold aC;rw[cj])),by rw[bT];lia,fun p _ D Z TY=>?_⟩
 have nd:gone.Nodup:=by
  have:=W.nd;rw[oY]at this;exact this
 apply aW;intro _ g_;obtain⟨ms,rfl,Y,hpm⟩:=pA Z TY nd;apply g_;clear g_;refine q p ms _ (S.trans (zF D _)) (S.free D) ?_ ⟨Y,fun k=>(hpm.mem_iff).trans (W.done k)⟩;rw[zC,<-cj];rfl
def FN(H:Hp)(v:V)(k:aw Nat):Prop:=∃ a:ar,v = .ref a/\H a=some (.tup (aC k))
inductive bh(H:Hp):List V->List (List Nat)->Prop where
 | nil:bh H [] []
 | cons {v:V} {k:List Nat} {vs:List V} {ks:List (List Nat)}:FN H v k->bh H vs ks->bh H (v::vs) (k::ks)
def FN.mono(x:FN H v k)(s:aB H H'):FN H' v k:=by obtain⟨a,e,h⟩:=x;exact⟨a,e,s _ _ h⟩
theorem bh.mono(x:bh H vs ks)(s:aB H H'):bh H' vs ks:=by
 induction x with
 | nil=>exact .nil
 | cons h _ i=>exact .cons (h.mono s) i
theorem bh.length(x:bh H vs ks):vs.length=ks.length:=by
 induction x with
 | nil=>rfl
 | cons _ _ i=>rw[dG,dG,i]
theorem bh.get(x:bh H vs ks):∀ {i:Nat} {k:aw Nat},ks[i]? = some k->∃ v,vs[i]? = some v/\FN H v k:=by
 induction x with
 | nil=>intro i k h;simp at h
 | cons h _ I=>
  intro i k e
  cases i with
  | zero=>
   simp at e;subst e;exact⟨_,rfl,h⟩
  | succ i=>exact I (by simpa using e)
theorem bh.set(x:bh H vs ks)(h:FN H v k):∀ i:Nat,bh H (vs.set i v) (ks.set i k):=by
 induction x with
 | nil=>intro i;exact .nil
 | cons h' d I=>
  intro i
  cases i with
  | zero=>exact .cons h d
  | succ i=>exact .cons h' (I i)
def dB(r:aw Rm)(p:Nat):Str:=(r.map (·.keeps)).getD p ("" : Str)
def Jh(h:rs[p]? = some r):dB rs p=r.keeps:=by unfold dB;rw[jT,dZ,h];rfl
def plB(r:aw Rm)(p:Nat):Bool:=decide (kindAt r p=("plain" : Str))
def gK(d:aw Int)(os:aw Nat)(r:Nat):aw Nat:=os.filter fun o=>Tr.bL d o r
noncomputable def mO(R:aw Rm)(os:aw Nat)(r:Nat):aw Nat:=if dB R r=("near" : Str) then (gK (aD R) os r).take 1 else (gK (aD R) os r).filter (plB R)
noncomputable def bI(R:aw Rm)(os l:aw Nat)(s:aw (aw Nat)):aw (aw Nat):=l.foldl (fun k r=>if dB R r=("" : Str) then k else k.set r (mO R os r)) s
theorem uU(R:aw Rm)(os:aw Nat):∀ l s,(bI R os l s).length=s.length
 | [],_=>rfl
 | r::l,s=>by
  show (bI R os l (if dB R r=("" : Str) then s else s.set r (mO R os r))).length=_;rw[uU R os l]
  split
  .rfl
  .rw[gu]
def Cq(R:aw Rm)(os l:aw Nat)(r:Nat)(s:aw (aw Nat)):bI R os (l++[r]) s=if dB R r=("" : Str) then bI R os l s else (bI R os l s).set r (mO R os r):=by unfold bI;rw[List.foldl_append];rfl
inductive iH(vs:List V)(H:Hp)(Q:VK)(E_:XK):Prop
 | mk (t pt rs os) (_:vs=[.ref t,.ref pt]) (_:dW H t rs) (_:rs.length<=40) (_:H pt=some (.lst (aC os))) (_:(∀ o∈os,o<rs.length)) (_:os.length<=100) (_:∀ p H',aH H H'->H' p=some (.tup (aC (os.filter (plB rs))))->Q (.ref p) H')
inductive Ib(vs:List V)(H:Hp)(Q:VK)(E_:XK):Prop
 | mk (t ux:Addr) (rs:List Rm) (os:List Nat) (r:Nat) (_:vs=[.ref t,.ref ux,.int (r:Int)]) (_:dW H t rs) (_:Tr.Good (aD rs)) (_:rs.length<=40) (_:H ux=some (.tup (aC os))) (_:(∀ o∈os,o<rs.length)) (_:os.length<=40) (_:os.Pairwise (· < ·)) (_:r<rs.length) (_:∀(p:Addr)(H':Hp),aH H H'->H' p=some (.tup (aC (mO rs os r)))->Q (.ref p) H')
inductive Dl(vs:List V)(H:Hp)(Q:VK)(E_:XK):Prop
 | mk (t ux pl pk rs os ls kv ks) (_:vs=[.ref t,.ref ux,.ref pl,.ref pk]) (_:dW H t rs) (_:Tr.Good (aD rs)) (_:rs.length<=40) (_:H ux=some (.tup (aC os))) (_:(∀ o∈os,o<rs.length)) (_:os.length<=40) (_:os.Pairwise (· < ·)) (_:H pl=some (.lst (aC ls))) (_:(∀ l∈ls,l<rs.length)) (_:H pk=some (.tup kv)) (_:bh H kv ks) (_:ks.length=rs.length) (_:∀ p Ho H',aH H H'->H' p=some (.tup Ho)->bh H' Ho (bI rs os ls ks)->Q (.ref p) H')
def Cd:aF ["rooms","told"] ["rooms","told"] (aA jd):=cQ
def Ck(F:bO K "plain_ones" "plain_ones" jd f fd)(v:mg "tuple" = none):aL P w K mg base aN 1 f fd ["rooms","told"] iH:=by
 refine F.ok Cd ?_ ?_
 .rintro _ _ _ _⟨t,pt,R,os,rfl,_⟩;rfl
 intro _ A _ s H vs Q E _ h
 apply aW;intro _ g_;obtain⟨t,pt,R,os,rfl,D,_,G,g,_,q⟩:=h;apply g_;clear g_;refine⟨_,(zG (zP (yB zY rfl v qt (zA (yU (bF:=[(0,"rooms")]) rfl (show bA (aA jd) ["rooms","told"] _ _ _ from vA) (yN (pv 1)) (fun _ _ _ _ _ _=>cW (zM yH (yC (r:=dM K) zH (yC (r:=dM K) zH (pv 1) (pv 0) (fun _ _=>rfl)) zB (fun _ _=>rfl)) zQ (zS _))) (fun _ _ _ _ _ _=>(pv 0))) zD)))),?_⟩;refine⟨_,rfl,pt,rfl,⟨_,aU.of G⟩,?_⟩;refine yT (K:=K) (a:=pt) (xs:=aC os) (fun i b d=>d=H/\b=aC ((os.take i).filter (plB R))) ⟨rfl,rfl⟩ (fun i b d ⟨e,_⟩=>by subst e;exact aU.of G) (fun i x b d u ⟨k,n⟩=>?_) (fun b d ⟨k,n⟩ p C=>?_)
 .subst k n;apply aW;intro _ g_;obtain⟨o,rfl⟩:=yS u;obtain⟨vs,a,r,ht,_,l,m,B⟩:=D.at (g _ (lQ o));apply g_;clear g_;refine⟨_,rfl,_,rfl,t,vs,_,_,rfl,rfl,aJ.of ht,m,aG (aJ.of B) rfl ⟨rfl,_,rfl,?_⟩⟩
  have ep:plB R os[i]=decide (V.str r.kind=V.str ("plain" : Str)):=by
   unfold plB;rw[Ot l];exact bS.mpr ⟨fun z=>by rw[z],fun z=>by injection z⟩
  rw[iZ (fQ o)];have L:=vD (plB R) (os.take i);rw[iQ]at L;refine fO (fun c=>?_) (fun c=>?_)
  .rw[cS (ep.trans c),<-jN];exact⟨_,rfl,zW (by rw[zV];lia),rfl,rfl⟩
  .rw[cK (by rw[show plB R os[i]=false from ep.trans c];exact rA),oY];exact⟨rfl,rfl⟩
 subst k n;rw[DX (by rw[zV];exact bD _)];exact⟨p,_,rfl,.inl ⟨aU.of zC,fun y j=>q y _ ((zF C _).trans (zF j _)) zC⟩⟩
def Ae:aF ["rooms","opening","room","inside"] ["rooms","opening","room"] (aA yd):=cQ
def Lr(F:bO K "kept_of" "kept_of" yd f fd)
  (oN:Dp P w K mg base aN n gg dg ["rooms","under","opening"] Q4.Td "goings_out")
  (HX:Dp P w K mg base aN n gp dp ["rooms","told"] iH "plain_ones")
  (cH:mg "sorted" = none) (aj:mg "tuple" = none):aL P w K mg base aN (n+1) f fd ["rooms","opening","room"] Ib:=by
 refine F.ok Ae ?_ ?_
 .rintro _ _ _ _⟨t,ux,R,os,r,rfl,_⟩;rfl
 intro _ A _ s H vs Q E hr h
 apply aW;intro _ g_;obtain⟨t,ux,R,os,r,rfl,D,g,W,M,b,L,I,j,q⟩:=h;apply g_;clear g_
 refine⟨_,(zE (zL (i:=3) Ae.nd rfl (bb rfl) (zT qC rfl cH kg (zA (pC oN hr (zA (pv 0) (zA (pv 2) (zA (pv 1) zD)))) zD)))
  (zE (yE (zM yH (yC zH (yC zH (pv 0) (pv 2) (fun _ _=>rfl)) zB (fun _ _=>rfl)) zQ (zS _))
  (zG (zP (yB zY rfl aj qt (zA (dN O1 (pv 3) gA (fu zB)) zD))))
  zU)
  (zG (zP (pC HX hr (zA (pv 0) (zA (pv 3) zD))))))),?_⟩
 apply aW;intro _ g_;obtain⟨vs,a,r0,ht,_,B,C,ha⟩:=D.at j;apply g_;clear g_;refine⟨_,rfl,_,rfl,_,rfl,t,ux,R,some r,os,rfl,D,g,W,fun u e=>(by cases e;exact j),M,b,L,I,fun pf H1 s1 _ l=>?_⟩;have Z:Q4.nT (aD R) (some r) os=(gK (aD R) os r).reverse:=rfl;have li:=vD (fun o=>Tr.bL (aD R) o r) os;have J:(gK (aD R) os r).length<=os.length:=li;have G:(gK (aD R) os r).Pairwise (· < ·):=I.filter _;have X:∀ o∈gK (aD R) os r,o<R.length:=fun o ho=>b o (lO.mp ho).1;unfold mO at q;generalize gK (aD R) os r=xs at Z J G X q;rw[Z]at l;refine⟨pf,_,rfl,.inl (aU.of (by rw[l];unfold aC;rw[cj])),by rw[bT,List.length_reverse];lia,fun v _ x p TY=>?_⟩;apply aW;intro _ g_;obtain⟨m,rfl,Y,y⟩:=pA p TY (by unfold List.Nodup;rw[List.pairwise_reverse];exact G.imp fun z=>bE (jQ z));apply g_;clear g_
 obtain rfl:m=xs:=iU _ _ Y G fun k=>by rw[y.mem_iff,hU]
 rw[<-cj];have S:=s1.trans (zF x (.lst (aC m)));have h2:(upd H1 v (.lst (aC m))) v=some (.lst (aC m)):=zC
 change _ at S
 refine⟨_,rfl,_,rfl,t,vs,_,_,rfl,rfl,aJ.of (S _ _ ht),C,aG (aJ.of (S _ _ ha)) rfl ⟨rfl,_,rfl,?_⟩⟩
 have U:(dB R r=("near" : Str))↔V.str r0.keeps=V.str ("near" : Str):=by
  rw[Jh B];exact⟨fun z=>by rw[z],fun z=>by injection z⟩
 refine fO (fun c=>?_) (fun c=>?_)
 .have T:=U.mpr (ba c);refine⟨_,rfl,_,rfl,v,_,rfl,aU.of h2,fun N d=>?_⟩;rw[Js _ (by decide)]
  have e2:(aC m).take (1:Int).toNat=aC (m.take 1):=by
   unfold aC;rw[gE];rfl
  rw[e2];refine⟨N,_,rfl,.inl ⟨aU.of zC,fun p3 O=>?_⟩⟩;refine q p3 _ ((S.trans (zF d _)).trans (zF O _)) ?_;rw[zC,cS T]
 .have T:¬ dB R r=("near" : Str):=fun z=>bP c (U.mp z);refine⟨_,rfl,_,rfl,t,v,R,m,rfl,D.mono (aB.of S),W,h2,X,by lia,fun N H3 s3 d=>?_⟩;refine q N H3 (S.trans s3) ?_;rw[cK T];exact d
def rP:aF ["rooms","opening","left","kept","told","room"] ["rooms","opening","left","kept"] (aA tX):=cQ
def Ls(F:bO K "keeping" "keeping" tX f fd)
  (S9:Dp P w K mg base aN n gk dk ["rooms","opening","room"] Ib "kept_of")
  (fB:mg "list" = none) (aj:mg "tuple" = none):aL P w K mg base aN (n+1) f fd ["rooms","opening","left","kept"] Dl:=by
 refine F.ok rP ?_ ?_
 .rintro _ _ _ _⟨t,U,pl,J,r,os,l,O,e,rfl,_⟩;rfl
 intro _ A _ s H vs Q E hr h
 apply aW;intro _ g_;obtain⟨t,U,pl,J,r,os,l,O,e,rfl,hR,G,rF,Z,C,los,X,m,L,y,Y,_,q⟩:=h;apply g_;clear g_
 refine⟨_,(zE (zL (i:=4) rP.nd rfl (bb rfl) (yB gO rfl fB kf (zA (pv 3) zD)))
  (yA (bf PassesOwn.never rfl (yN (pv 2)) (yK (i:=5) rP.nd rfl (bb rfl))
  (zG (yE (zM pN (yC zH (yC zH (pv 0) (pv 5) (fun _ _=>rfl)) zB (fun _ _=>rfl)) zQ (zS _))
  (zG (Ub (pC S9 hr (zA (pv 0) (zA (pv 1) (zA (pv 5) zD)))) (Ud (pv 4) (pv 5) set_list)))
  zU)))
  (zG (zP (yB zY rfl aj qt (zA (pv 4) zD)))))),?_⟩
 refine⟨_,rfl,xR rfl (.inr (aJ.of y)) (fun pt Gp=>?_)⟩;have M:=zF Gp (.lst O);refine⟨fun σ' d=>∃ o:aw V,aH H d/\d pt=some (.lst o)/\bh d o (bI r os l e)/\∃ R:aE V,σ'=[some (.ref t),some (.ref U),some (.ref pl),some (.ref J),some (.ref pt),R],?_,?_⟩
 .refine⟨_,rfl,pl,rfl,⟨_,aU.of (M _ _ m)⟩,?_⟩;refine pX (fun i σ' d=>∃ o:aw V,aH H d/\d pt=some (.lst o)/\bh d o (bI r os (l.take i) e)/\∃ R:aE V,σ'=[some (.ref t),some (.ref U),some (.ref pl),some (.ref J),some (.ref pt),R])
   ⟨O,M,zC,Y.mono (aB.of M),_,rfl⟩ (fun i σ' d _ ⟨_,S,_⟩=>aU.of (S _ _ m)) ?_ ?_
  .rintro i x σ' H2 hx B;apply aW;intro _ g_;obtain⟨k,S,g,b,R,rfl⟩:=B;obtain⟨hi,rfl⟩:=yS hx;have j:=L _ (lQ hi);obtain⟨vs,a,r0,ht,_,D,I,ha⟩:=hR.at j;apply g_;clear g_;have N:=b.length;rw[uU]at N
   have u:bI r os (l.take (i+1)) e=if dB r l[i]=("" : Str) then bI r os (l.take i) e else (bI r os (l.take i) e).set l[i] (mO r os l[i]):=by
    rw[mq,fQ hi];exact Cq r os _ _ e
   refine⟨_,rfl,_,rfl,t,vs,_,_,rfl,rfl,aJ.of (S _ _ ht),I,aG (aJ.of (S _ _ ha)) rfl ⟨rfl,_,rfl,?_⟩⟩
   have ek:dB r l[i]=("" : Str)↔V.str r0.keeps=V.str ("" : Str):=by
    rw[Jh D];exact⟨fun z=>by rw[z],fun z=>by injection z⟩
   refine fO (fun c=>?_) (fun c=>?_)
   .have T:¬ dB r l[i]=("" : Str):=fun z=>by
     have c:=c;rw[bq (ek.mp z)]at c
     cases c
    rw[cK T]at u;refine⟨_,rfl,_,rfl,_,rfl,t,U,r,os,l[i],rfl,hR.mono (aB.of S),G,rF,S _ _ Z,C,los,X,j,fun p H3 W v=>?_⟩;refine⟨_,rfl,_,rfl,pt,_,_,l[i],rfl,rfl,W _ _ g,?_,?_⟩
    .unfold Su;rw[cS (by lia),cS (by lia)];simp
    have kt:aB H3 (upd H3 pt (.lst (k.set l[i] (.ref p)))):=aB.lst (W _ _ g) _;refine⟨k.set l[i] (.ref p),bW Gp (S.trans W) _,zC,?_,_,rfl⟩;rw[u];exact ((b.mono (aB.of W)).mono kt).set ⟨p,rfl,kt _ _ v⟩ _
   .have T:dB r l[i]=("" : Str):=by
     have c:(!decide (V.str r0.keeps=V.str ("" : Str)))=false:=c;rw[Bool.not_eq_false']at c;exact ek.mpr (ba c)
    rw[cS T]at u;exact⟨k,S,g,by rw[u];exact b,_,rfl⟩
  .rintro σ' H2 B;apply aW;intro _ g_;obtain⟨k,S,g,b,R,rfl⟩:=B;apply g_;clear g_;rw[DX (by rw[zV];exact bD _)]at b;exact⟨k,S,g,b,_,rfl⟩
 rintro σ' H2 B;apply aW;intro _ g_;obtain⟨k,S,g,b,R,rfl⟩:=B;apply g_;clear g_;refine⟨_,rfl,pt,_,rfl,.inl ⟨aU.of g,fun p v=>?_⟩⟩;exact q p k _ (S.trans (zF v _)) zC (b.mono (aB.of (zF v _)))
end dC
namespace DQ
open PySem L2 jP lN vB
theorem uH:∀(a b:aw Int),a.Pairwise (· < ·)->b.Pairwise (· < ·)->(∀ k,k∈a↔k∈b)->a=b
 | [],[],_,_,_=>rfl
 | [],y::b,_,_,h=>absurd ((h y).mpr List.mem_cons_self) (by simp)
 | x::a,[],_,_,h=>absurd ((h x).mp List.mem_cons_self) (by simp)
 | x::a,y::b,d,g,h=>by
  obtain⟨a1,a2⟩:=i0.mp d;obtain⟨B,c⟩:=i0.mp g
  have e:x=y:=by
   rcases dD.mp ((h x).mp FZ) with e | f
   .exact e
   .rcases dD.mp ((h y).mpr FZ) with e | q
    .exact e.symm
    .have:=a1 y q;have:=B x f;lia
  subst e;congr 1;refine uH a b a2 c fun k=>?_;have H:=h k;rw[dD,dD]at H;constructor
  .intro z;rcases H.mp (.inr z) with e | Z
   .subst e;have:=a1 k z;lia
   .exact Z
  .intro z;rcases H.mpr (.inr z) with e | Z
   .subst e;have:=B k z;lia
   .exact Z
def inter(os:aw Nat):aw Int:=os.map fun j:Nat=>(j:Int)
def Gm(os:aw Nat):(inter os).map V.int=aC os:=by unfold inter aC;rw[gz];rfl
def M8(a b:aw Nat):aC a++aC b=aC (a++b):=(qz ..).symm
noncomputable def jt(os:aw Nat)(bx:aw Int)(d:aw Dg)(p:Int):aw Nat:=os.filter fun r=>(eG (inter os) bx d (r:Int) p).isSome
def Ci(inn:Bool)(d:aw Int)(r:Nat)(H:aw Nat):Bool:=H.any fun o=>if inn=true then Tr.bL d o r else Tr.bL d r o
noncomputable def ph(inn:Bool)(D:aw Int)(os:aw Nat)(bx:aw Int)(d:aw Dg)(p:Int):aw Nat:=
 ((jt os bx d p).filter fun r => !Ci inn D r (jt os bx d p)).map fun r:Nat=>(eG (inter os) bx d (r:Int) p).getD 0
def uV(od:Str):Bool:=decide (V.str od=V.str ("inner" : Str))
inductive Dk(vs:List V)(H:Hp)(Q:VK)(E_:XK):Prop
 | mk (pc t pl:Addr) (od:Str) (x1 x2 x3 x4 x6:V) (rs:List Rm) (room:Nat) (Hm:List Nat) (_:vs=[.ref pc,.int (room:Int),.ref pl]) (_:H pc=some (.tup [.str od,x1,x2,x3,x4,.ref t,x6])) (_:dW H t rs) (_:Tr.Good (aD rs)) (_:rs.length<=40) (_:room<rs.length) (_:H pl=some (.lst (aC Hm))) (_:(∀ o∈Hm,o<rs.length)) (_:Hm.length<=1000) (_:∀ H':Hp,aH H H'->Q (.bl (Ci (uV od) (aD rs) room Hm)) H')
inductive Im(n:Nat)(vs:List V)(H:Hp)(Q:VK)(E_:XK):Prop
 | mk (pc kI t pd o b od os bx rs ds dv x1 x2 x3 x4 x ev) (_:vs=[.ref pc,.ref kI,.int ev]) (_:H pc=some (.tup [.str od,x1,x2,x3,x4,.ref t,.ref pd])) (_:dW H t rs) (_:Tr.Good (aD rs)) (_:rs.length<=40) (_:H pd=some (.tup dv)) (_:Al (qA5 H) dv ds) (_:H kI=some (.tup [.ref o,.ref b,x])) (_:H o=some (.tup (aC os))) (_:(∀ o∈os,o<rs.length)) (_:os.Pairwise (· < ·)) (_:H b=some (.tup (bx.map V.int))) (_:(∀ d∈ds,d.g.ok bx.length/\d.g.ht<=n)) (_:ds.length<=63) (_:∀ p H',aH H H'->H p=none->H' p=some (.lst (aC (ph (uV od) (aD rs) os bx ds ev)))->Q (.ref p) H')
def rB:aF ["chart","room","others","rooms"] ["chart","room","others"] (aA lg):=cQ
def Lp(F:bO K "is_outdone" "is_outdone" lg f fd)(X:Dp P w K mg base aN n gl dl ["rooms","one","other"] dC.Ku "lies_in")(N:mg "any" = none) :
  aL P w K mg base aN (n+1) f fd ["chart","room","others"] Dk:=by
 refine F.ok rB ?_ ?_
 .rintro _ _ _ _⟨T,t,pl,od,U,x2,x3,Y,W,R,r,j,rfl,_⟩;rfl
 intro _ A _ s H _ Q E O h
 apply aW;intro _ g_;obtain⟨T,t,pl,od,U,x2,x3,Y,W,R,r,j,rfl,M,J,G,L,m,l,v,_,q⟩:=h;apply g_;clear g_
 refine⟨_,(zE (zL (i:=3) rB.nd rfl (Or.inr rfl) (yC zH (pv 0) zB (fun _ _=>rfl)))
  (zE (yE (zM yH (yC zH (pv 0) zB (fun _ _=>rfl)) zQ (zS _))
  (zG (zP (zT (qi rfl) rfl N kc (zA (yU (bF:=[(3,"rooms"),(1,"room")]) rfl (show bA (aA lg) ["chart","room","others","rooms"] _ _ _ from vA) (yN (pv 2)) (fun _ _ _ _ _ _=>bQ) (fun _ _ _ _ _ _=>(pC X O (zA (pv 1) (zA (pv 0) (zA (pv 2) zD)))))) zD))))
  zU)
  (zG (zP (zT (qi rfl) rfl N kc (zA (yU (bF:=[(3,"rooms"),(1,"room")]) rfl (show bA (aA lg) ["chart","room","others","rooms"] _ _ _ from vA) (yN (pv 2)) (fun _ _ _ _ _ _=>bQ) (fun _ _ _ _ _ _=>(pC X O (zA (pv 1) (zA (pv 2) (zA (pv 0) zD)))))) zD)))))),?_⟩
 refine⟨_,rfl,aG (aJ.of M) rfl ?_⟩;refine⟨_,rfl,aG (aJ.of M) rfl ⟨rfl,_,rfl,?_⟩⟩
 have go:∀(B:Nat->Bool)(g:Hp)(p:ar),aH H g->(∀ o∈j,B o=if uV od=true then Tr.bL (aD R) o r else Tr.bL (aD R) r o)->Q (.bl ((j.map B).any id)) g:=fun B g p s' y=>by
  have e:(j.map B).any id=Ci (uV od) (aD R) r j:=by
   unfold Ci;rw[fk,eK,fi,fi];exact⟨fun ⟨o,a,b⟩=>⟨o,a,(y o a)▸b⟩,fun ⟨o,a,b⟩=>⟨o,a,show B o=true from (y o a).trans b⟩⟩
  rw[e];exact q g s'
 refine fO (fun c=>?_) (fun c=>?_)
 .have C:uV od=true:=c;refine⟨_,rfl,pl,rfl,⟨_,aU.of l⟩,?_⟩;refine yT (K:=K) (a:=pl) (xs:=aC j) (fun i d g=>aH H g/\d=((j.take i).map fun o:Nat=>Tr.bL (aD R) o r).map V.bl) ⟨aH.refl _,rfl⟩ (fun i d g ⟨e,_⟩=>aU.of (e _ _ l)) (fun i x d g D ⟨k,u⟩=>?_) (fun d g ⟨k,u⟩ p I=>?_)
  .subst u;obtain⟨z,rfl⟩:=dC.yS D;refine⟨_,rfl,_,rfl,_,rfl,t,R,j[i],r,rfl,J.mono (aB.of k),G,L,v _ (lQ z),m,fun Z S=>⟨zW (by rw[bT,bT,iQ];lia),k.trans S,?_⟩⟩;rw[mq,fQ z,qz,qz];rfl
  .subst u;rw[DX (by rw[zV];exact bD _)];exact⟨p,_,rfl,aU.of zC,go _ _ p (k.trans (zF I _)) fun o _=>by rw[cS C]⟩
 .have C:uV od=false:=c;refine⟨_,rfl,pl,rfl,⟨_,aU.of l⟩,?_⟩;refine yT (K:=K) (a:=pl) (xs:=aC j) (fun i d g=>aH H g/\d=((j.take i).map fun o:Nat=>Tr.bL (aD R) r o).map V.bl) ⟨aH.refl _,rfl⟩ (fun i d g ⟨e,_⟩=>aU.of (e _ _ l)) (fun i x d g D ⟨k,u⟩=>?_) (fun d g ⟨k,u⟩ p I=>?_)
  .subst u;obtain⟨z,rfl⟩:=dC.yS D;refine⟨_,rfl,_,rfl,_,rfl,t,R,r,j[i],rfl,J.mono (aB.of k),G,L,m,v _ (lQ z),fun Z S=>⟨zW (by rw[bT,bT,iQ];lia),k.trans S,?_⟩⟩;rw[mq,fQ z,qz,qz];rfl
  .subst u;rw[DX (by rw[zV];exact bD _)];exact⟨p,_,rfl,aU.of zC,go _ _ p (k.trans (zF I _)) fun o _=>by rw[C];rfl⟩
def vN:aF ["chart","stand","event","by_room","answering"] ["chart","stand","event"] (aA uB):=cQ
def R3(F:bO K "chosen" "chosen" uB f fd)(SN:Dp P w K mg base aN m ga da ["chart","stand","event"] (Dq n) "answers")
  (Hd:Dp P w K mg base aN m go do' ["chart","room","others"] Dk "is_outdone") (cH:mg "sorted" = none) :
  aL P w K mg base aN (m+1) f fd ["chart","stand","event"] (Im n):=by
 refine F.ok vN ?_ ?_
 .rintro _ _ _ _⟨X,kI,t,pd,o,b,od,os,bx,R,d,dv,x1,x2,x3,x4,x,v,rfl,_⟩;rfl
 intro _ A _ s H _ Q E hr h
 apply aW;intro _ g_;obtain⟨X,kI,t,pd,o,b,od,os,bx,R,d,dv,x1,x2,x3,x4,x,v,rfl,Vy,hR,I,rF,hpd,hds,hst,ho,hos,inc,hb,hok,_,q⟩:=h;apply g_;clear g_;have hu:=iA (ic (show 1<=64 by decide) _) hr.units
 refine⟨_,(zE (zL (i:=3) vN.nd rfl (Or.inr rfl) (pC SN hr (zA (pv 0) (zA (pv 1) (zA (pv 2) zD)))))
  (zE (zL (i:=4) vN.nd rfl (Or.inr rfl) (zT (HD rfl) rfl cH kg (zA (pv 3) zD)))
  (zG (zP (yU (bF:=[(0,"chart"),(4,"answering"),(3,"by_room")]) rfl (show bA (aA uB) ["chart","stand","event","by_room","answering"] _ _ _ from vA) (yN (pv 4)) (fun _ _ _ _ _ _=>cW (bY (aY (pC Hd hr (zA (pv 1) (zA (pv 0) (zA (pv 2) zD))))))) (fun _ _ _ _ _ _=>(Yn hu (pv 3) (pv 0) (fun _ _=>rfl)))))))),?_⟩
 refine⟨_,rfl,_,rfl,_,rfl,X,kI,pd,o,b,inter os,bx,d,dv,_,_,_,_,_,_,_,v,rfl,Vy,hpd,hds,hst,(by rw[Gm];exact ho),hb,hok,by lia,fun pb u H1 s1 h1 hv ⟨ks,D,_⟩ _=>?_⟩;refine⟨_,rfl,pb,u,ks,rfl,h1,D,by lia,fun J zs N nd a TY=>?_⟩
 have mk:∀ k:Int,k∈ks↔(eG (inter os) bx d k v).isSome=true:=fun k=>by
  have l:(iR u (Sum.inl k)).isSome=(eG (inter os) bx d k v).isSome:=by
   rw[hv k]
   cases eG (inter os) bx d k v <;> rfl
  rw[<-l,<-lR,fi];constructor
  .intro z
   have:(Sum.inl k:Key)∈u.map (·.1):=by rw[D];exact eX.mpr ⟨k,z,rfl⟩
   apply aW;intro _ g_;obtain⟨kv,C,e⟩:=eX.mp this;apply g_;clear g_;exact⟨kv,C,bq e⟩
  .rintro bR;apply aW;intro _ g_;obtain⟨kv,C,e⟩:=bR;apply g_;clear g_;have:(Sum.inl k:Key)∈u.map (·.1):=eX.mpr ⟨kv,C,ba e⟩;rw[D]at this;apply aW;intro _ g_;obtain⟨j,O,e⟩:=eX.mp this;apply g_;clear g_;injection e with e;exact e▸O
 have ez:zs=inter (jt os bx d v):=by
  refine uH _ _ ((TY.and (a.nodup_iff.mpr nd)).imp fun ⟨_,_⟩=>by lia) (List.pairwise_map.mpr ((inc.filter _).imp fun z=>by lia)) fun k=>?_;rw[a.mem_iff,mk k];constructor
  .intro z
   have S:inV (.int k) ((inter os).map V.int)=true:=by
    unfold eG at z
    by_cases y:inV (.int k) ((inter os).map V.int)=true
    .exact y
    .rw[cK y]at z
     cases z
   rw[Gm]at S;apply aW;intro _ g_;obtain⟨j,O,rfl⟩:=Om S;apply g_;clear g_;exact eX.mpr ⟨j,lO.mpr ⟨O,z⟩,rfl⟩
  .intro z;apply aW;intro _ g_;obtain⟨j,O,rfl⟩:=eX.mp z;apply g_;clear g_;exact (lO.mp O).2
 subst ez;rw[Gm]
 have la:(jt os bx d v).length<=63:=by
  have:=a.length_eq;unfold inter at this;rw[bT]at this;lia
 have hA:∀ r∈jt os bx d v,r<R.length/\(eG (inter os) bx d (r:Int) v).isSome=true:=fun r L=>⟨hos r (lO.mp L).1,(lO.mp L).2⟩;have T:=s1.trans (zF N (.lst (aC (jt os bx d v))));have W:upd H1 J (.lst (aC (jt os bx d v))) J=some (.lst (aC (jt os bx d v))):=zC;have G:=(zF N (.lst (aC (jt os bx d v)))) _ _ h1;generalize upd H1 J (.lst (aC (jt os bx d v)))=H2 at T W G ⊢;refine⟨_,rfl,J,rfl,⟨_,aU.of W⟩,?_⟩;refine yT (K:=K) (fun i B U=>aH H2 U/\B=aC ((((jt os bx d v).take i).filter fun r => !Ci (uV od) (aD R) r (jt os bx d v)).map fun r:Nat=>(eG (inter os) bx d (r:Int) v).getD 0)) ⟨aH.refl _,rfl⟩ (fun i B U ⟨e,_⟩=>aU.of (e _ _ W)) (fun i y B U hy ⟨l,e2⟩=>?_) (fun B U ⟨l,e2⟩ p hp=>?_)
 .subst e2;obtain⟨hi,rfl⟩:=dC.yS hy;have hm:=hA _ (lQ hi);have et:=dC.iZ (f:=fun r => !Ci (uV od) (aD R) r (jt os bx d v)) (fQ hi);generalize (jt os bx d v)[i]=r at hm et
  have lt':(aC ((((jt os bx d v).take i).filter fun r => !Ci (uV od) (aD R) r (jt os bx d v)).map fun r:Nat=>(eG (inter os) bx d (r:Int) v).getD 0)).length<=63:=by
   rw[zV,bT];have:=vD (fun r => !Ci (uV od) (aD R) r (jt os bx d v)) ((jt os bx d v).take i);rw[iQ]at this;lia
  have s3:=T.trans l;refine⟨_,rfl,_,rfl,_,rfl,X,t,J,od,_,_,_,_,_,R,r,jt os bx d v,rfl,s3 _ _ Vy,hR.mono (aB.of s3),I,rF,hm.1,l _ _ W,(fun o ho=>(hA o ho).1),by lia,fun _ Z=>?_⟩;refine⟨_,rfl,?_⟩;rw[et];refine fO (fun c=>?_) (fun c=>?_)
  .have Y:=c;obtain⟨k,hk⟩:=jv.mp hm.2;have M:=hv (r:Int);rw[hk]at M;have g:=Hj.k (k:=Sum.inl (r:Int)) ((l.trans Z) _ _ G);rw[M]at g;refine⟨_,rfl,_,rfl,pb,_,rfl,g,zW (by lia),l.trans Z,?_⟩;rw[cS Y,qz,<-M8];show _=_++aC [(eG (inter os) bx d (r:Int) v).getD 0];rw[hk];rfl
  .have Y:¬ (!Ci (uV od) (aD R) r (jt os bx d v))=true:=fun z=>by
    have c:(!Ci (uV od) (aD R) r (jt os bx d v))=false:=c;rw[c]at z
    cases z
   rw[cK Y,oY];exact⟨l.trans Z,rfl⟩
 .subst e2;rw[DX (by rw[zV];exact bD _)];exact q p _ (T.trans (l.trans (zF hp _))) ((T.trans l).free hp) zC
end DQ
namespace dC
open PySem L2 jP lN xM
def Zg(xs:aw V)(h:k<=xs.length):oG xs none (some (k:Int))=xs.take k:=by unfold oG;rw[HT.tY,HT.iJ,List.drop_zero,Nat.sub_zero,iN h]
def Rj(xs:aw V)(h:k+1<=xs.length):oG xs (some ((k:Int)+1)) none=xs.drop (k+1):=by
 have e:(k:Int)+1=((k+1:Nat):Int):=by lia
 unfold oG;rw[e,HT.tY,HT.iJ,iN h,DX (by rw[fR];exact bD _)]
def YK{α:Type}{xs:aw α}{k:Nat}(v:α)(h:k<xs.length):xs.take k++[v]++xs.drop (k+1)=xs.set k v:=by rw[List.set_eq_take_append_cons_drop,cS h,bX];rfl
def jX:aF ["deed","boxes","sizes","kind","box","number"] ["deed","boxes","sizes"] (aA uC):=cQ
theorem Lx{f:ar}{fd:af}(F:bO K "changed" "changed" uC f fd):aL P w K mg base aN 1 f fd ["deed","boxes","sizes"] Dm:=by
 refine F.ok jX ?_ ?_
 .rintro _ _ _ _⟨Y,T,ts,d,bx,sz,rfl,_⟩;rfl
 intro _ A _ s H _ Q E _ h
 apply aW;intro _ g_;obtain⟨Y,T,ts,d,bx,sz,rfl,hd,J,hs,hok,_,_,o,q⟩:=h;apply g_;clear g_
 refine⟨_,(zE (zL (i:=3) jX.nd rfl (bb rfl) (yC zH (pv 0) zB (fun _ _=>rfl)))
  (zE (yE (zM dq (pv 3) (zX (zA zQ (zA zQ zD))) rfl)
  (zG (zP (pv 1)))
  zU)
  (zE (zL (i:=4) jX.nd rfl (bb rfl) (yC zH (pv 0) zB (fun _ _=>rfl)))
  (zE (zL (i:=5) jX.nd rfl (bb rfl) (yC zH (pv 0) zB (fun _ _=>rfl)))
  (yA (yE (zM yH (pv 3) zQ (zS _))
  (zG (zL (i:=5) jX.nd rfl (bb rfl) (yD zZ (yD yG (yC zH (pv 1) (pv 4) (fun _ _=>rfl)) (pv 5)) (yC zH (pv 2) (pv 4) (fun _ _=>rfl)))))
  zU)
  (zG (zP (yD GR (pL (yD (lJ.or GR Uo) (dN rM (pv 1) gA (fu (pv 4))) (zX (zA (pv 5) zD)))) (dN rM (pv 1) (fu (yD yG (pv 4) zB)) gA))))))))),?_⟩
 have two:(∃ a c b n,Y = .ref a/\H a=some (.tup [.str c,.int b,.int n])/\((c = "set" /\ d = .set b n)∨(c = "add" /\ d = .add b n))) ∨
   (∃ a c u,Y = .ref a/\H a=some (.tup [.str c,u])/\(c = "say" ∨ c = "send")/\d.upd sz bx=bx):=by
  cases hd with
  | say e=>exact .inr ⟨_,_,_,rfl,e,.inl rfl,rfl⟩
  | send e=>exact .inr ⟨_,_,_,rfl,e,.inr rfl,rfl⟩
  | set e=>exact .inl ⟨_,_,_,_,rfl,e,.inl ⟨rfl,rfl⟩⟩
  | add e=>exact .inl ⟨_,_,_,_,rfl,e,.inr ⟨rfl,rfl⟩⟩
 rcases two with ⟨a,c,b,n,rfl,e,r⟩ | ⟨a,c,u,rfl,e,r,hu⟩
 .refine⟨_,rfl,aG (aJ.of e) rfl ⟨_,rfl,zJ (by show 2<=1000;decide),fun p C=>?_⟩⟩;have S:aH H (upd H p (.tup [.str "set",.str "add"])):=zF C _;have e1:=S _ _ e;refine (xR rfl (.inr (aJ.of zC)) ⟨rfl,rfl,_,rfl,eE (by rcases r with ⟨rfl,_⟩ | ⟨rfl,_⟩ <;> decide +kernel) ?_⟩);refine⟨_,rfl,aG (aJ.of e1) rfl ⟨_,rfl,aG (aJ.of e1) rfl ?_⟩⟩
  have I:0<=b/\b<(bx.length:Int):=by
   rcases r with ⟨_,rfl⟩ | ⟨_,rfl⟩ <;> exact hok b rfl
  apply aW;intro _ g_;obtain⟨j,O⟩:=I;obtain⟨k,rfl⟩:∃ k:Nat,b=(k:Int):=⟨b.toNat,by lia⟩;apply g_;clear g_
  have N:k<bx.length:=by lia
  refine⟨fun σ' y=>y=upd H p (.tup [.str "set",.str "add"])/\∃ v:Int,σ'=[some (.ref a),some (.ref T),some (.ref ts),some (.str c),some (.int (k:Int)),some (.int v)]/\d.upd sz bx=bx.set k v,?_,?_⟩
  .refine⟨_,rfl,rfl,_,rfl,?_⟩;rcases r with ⟨rfl,rfl⟩ | ⟨rfl,rfl⟩
   .refine yO (by decide +kernel) ?_;refine⟨rfl,n,rfl,?_⟩;show bx.set (k:Int).toNat n=_;rw[T3]
   .refine yP ?_;refine⟨_,rfl,_,rfl,aG (aJ.of (S _ _ J)) (Bv j O) ⟨_,rfl,eO ⟨_,rfl,_,rfl,aG (aJ.of (S _ _ hs)) (Bv j (by lia)) (eO ⟨o _ (Zx j (by lia)),?_⟩)⟩⟩⟩;refine⟨rfl,_,rfl,?_⟩;show bx.set (k:Int).toNat _=_;rw[T3]
  rintro σ' y R;apply aW;intro _ g_;obtain⟨rfl,v,rfl,hv⟩:=R;apply g_;clear g_;have m:=S _ _ J;refine⟨fun x y=>∃ t:ar,x = .ref t/\aH (upd H p (.tup [.str "set",.str "add"])) y/\y t=some (.tup ((bx.take k++[v]).map V.int)),?_,?_⟩
  .refine⟨_,rfl,_,rfl,_,rfl,T,_,rfl,aJ.of m,?_,fun p1 L=>?_⟩
   .rw[HT.iJ,bT];lia
   have s2:=zF L (.tup (oG (bx.map V.int) none (some (k:Int))));refine⟨_,rfl,zJ (by show 1<=1000;decide),fun X U=>?_⟩
   have g:oG (bx.map V.int) none (some (k:Int))=(bx.take k).map V.int:=by
    rw[Zg _ (by rw[bT];lia),gE]
   have W:=zF U (.tup [.int v])
   by_cases D:k=0
   .subst D;refine .inr ⟨p1,X,_,rfl,rfl,aJ.of (W _ _ (by rw[zC,g];rfl)),aJ.of zC,?_⟩;exact⟨X,rfl,s2.trans W,by rw[zC];rfl⟩
   .refine .inl ⟨p1,X,_,_,rfl,rfl,aJ.of (W _ _ zC),aJ.of zC,?_,?_,fun z=>(by cases z),fun _ p3 Z=>?_⟩
    .intro z;have:=congrArg List.length z;rw[g,bT,iQ,fT]at this;lia
    .rw[g,bT,iQ];exact zJ (by show _+1<=1000;lia)
    .refine⟨p3,rfl,(s2.trans W).trans (zF Z _),?_⟩;rw[zC,g,qz];rfl
  rintro x _ R;apply aW;intro _ g_;obtain⟨t,rfl,G,ht⟩:=R;apply g_;clear g_;refine⟨_,rfl,_,rfl,eO ⟨_,rfl,T,_,rfl,aJ.of (G _ _ m),?_,fun p4 M=>?_⟩⟩
  .rw[show ((k:Int)+1)=((k+1:Nat):Int) by lia,HT.iJ,bT];lia
  have l:oG (bx.map V.int) (some ((k:Int)+1)) none=(bx.drop (k+1)).map V.int:=by
   rw[Rj _ (by rw[bT];lia),List.map_drop]
  have B:=zF M (.tup (oG (bx.map V.int) (some ((k:Int)+1)) none))
  have all:(bx.take k++[v]).map V.int++(bx.drop (k+1)).map V.int=(d.upd sz bx).map V.int:=by
   rw[<-qz,YK v N,hv]
  refine⟨t,p4,_,_,rfl,rfl,aJ.of (B _ _ ht),aJ.of zC,?_,?_,fun z=>?_,fun _ p5 Xu=>?_⟩
  .intro z;have:=congrArg List.length z;simp at this
  .rw[l,bT,bT,j8,iQ,fR];exact zJ (by show min k bx.length+1+_<=1000;lia)
  .refine q t _ ((S.trans G).trans B) ?_;rw[B _ _ ht,<-all];rw[l]at z;rw[z,oY]
  .refine q p5 _ (((S.trans G).trans B).trans (zF Xu _)) ?_;rw[zC,l,all]
 .refine⟨_,rfl,aG (aJ.of e) rfl ⟨_,rfl,zJ (by show 2<=1000;decide),fun p C=>?_⟩⟩;refine (xR rfl (.inr (aJ.of zC)) ⟨rfl,rfl,_,rfl,Hq (by rcases r with rfl | rfl <;> decide +kernel) ?_⟩);refine⟨_,rfl,q T _ (zF C _) ?_⟩;rw[hu];exact zF C _ _ _ J
end dC
namespace dC
open PySem L2 jP lN Q3
def qF5:¬ (("most" : Str) = "events"):=by decide +kernel
def Mi(m:Nat)(d:ar):aw (Str×V):=cP "events" (.ref d) (cP "most" (.int (m:Int)) [])
def iY(m:Nat)(d:ar):(Mi m d).lookup ("events" : Str)=some (.ref d):=by unfold Mi;rw[aV,cS rfl]
def Rb(m:Nat)(d:ar):(Mi m d).lookup ("most" : Str)=some (.int (m:Int)):=by unfold Mi;rw[aV,cK qF5,aV,cS rfl]
def Gx(m:Nat)(d:ar){x:Str}(f:¬ x = "events")(q:¬ x = "most"):(Mi m d).lookup x=none:=by
 unfold Mi;rw[aV,cK f,aV,cK q]
 all_goals rfl
def LL(C:ar):LA:=fun H p f m l => ∃ D d:ar,f=[p,d]/\H p=some (.ins C D (Mi m d))/\H d=some (.lst (l.map V.int))
def j6(C:ar):qJA C (LL C) where
 keep:=by
  rintro H _ p F m l ⟨D,d,rfl,f,q⟩ k;exact⟨D,d,rfl,k p (by simp) _ f,k d (by simp) _ q⟩
 there:=by
  rintro H p F m l ⟨D,d,rfl,f,q⟩ b c;rcases dD.mp c with rfl | c
  .rw[f];intro z
   cases z
  .rw[jA.mp c,q];intro z
   cases z
 obj:=by  rintro H p F m l ⟨D,d,rfl,f,q⟩;exact⟨D,_,f,Gx _ _ (by decide +kernel) (by decide +kernel),Gx _ _ (by decide +kernel) (by decide +kernel),Gx _ _ (by decide +kernel) (by decide +kernel)⟩
def YL:aF ["self","most"] ["self","most"] (aA O4):=cQ
def Yy(F:bO K "__init__" "Letters.__init__" O4 f fd)(l:vC K C)(n:cA K C "most")(N:cA K C "events"):aL P w K mg base aN 1 f fd ["self","most"] (Kv C (LL C)):=by
 refine F.ok YL ?_ ?_
 .rintro _ _ _ _⟨p,D,m,rfl,_⟩;rfl
 intro _ A _ s H _ Q E _ h
 apply aW;intro _ g_;obtain⟨p,D,m,rfl,g,_,k⟩:=h;apply g_;clear g_;refine⟨_,(zE (vP (pv 0) (pv 1) rfl) (zG (vP (pv 0) (yL zD) rfl))),?_⟩;refine⟨_,rfl,_,rfl,p,C,D,[],rfl,g,l,n,(by show 0<1000;decide),bo _,fun d hd=>?_⟩
 have X:p≠d:=fun z=>by
  rw[<-z,zC]at hd
  cases hd
 have a:H d=none:=by
  rw[zR (bE X)]at hd;exact hd
 refine⟨_,rfl,p,C,D,_,rfl,(by rw[zR X];exact zC),l,N,(by show 1<1000;decide),?_⟩;refine k [p,d] _ ⟨D,d,rfl,zC,by rw[zR (bE X),zC];rfl⟩ (fun b c=>?_) fun b o e c=>?_
 .rcases dD.mp c with rfl | c
  .exact .inl rfl
  .rw[jA.mp c];exact .inr a
 .rw[zR c,zR (zN e a),zR c];exact e
def qBJ:aF ["self","event"] ["self","event"] (aA YM):=cQ
def qC5(F:bO K "add" "Letters.add" YM f fd)(i:vC K C)(M:cA K C "most")(N:cA K C "events")(t:mg "len" = none):aL P w K mg base aN 1 f fd ["self","event"] (qAG (LL C)):=by
 refine F.ok qBJ ?_ ?_
 .rintro _ _ _ _⟨p,n,m,l,e,rfl,_⟩;rfl
 intro _ A _ s H _ Q E _ h
 apply aW;intro _ g_;obtain⟨p,n,m,l,e,rfl,⟨D,d,rfl,a,q⟩,_,_,k⟩:=h;apply g_;clear g_
 refine⟨_,(zE (yE (zM qEW (zT zO rfl t bj (zA (gq (pv 0) rfl) zD)) (gq (pv 0) rfl) (zS _))
  (zG (zP gG))
  zU)
  (zE (yJ (dU iu yz yx yI (gq (pv 0) rfl) (zA (pv 1) zD)))
  (zG (zP gG)))),?_⟩
 refine⟨_,rfl,p,C,D,_,_,rfl,a,i,N,iY _ _,xR rfl (.inl (aU.of q)) ⟨_,rfl,p,C,D,_,_,rfl,a,i,M,Rb _ _,_,_,rfl,rfl,_,rfl,?_⟩⟩;have X:=gU a q (by intro z;cases z);refine vp (fun c=>?_) (fun c=>?_)
 .have T:=ba c;rw[bT]at T
  have g:¬ l.length<m:=by lia
  have r:=k [p,d] H ⟨D,d,rfl,a,by unfold added;rw[cK g];exact q⟩ ⟨fun b j=>.inl j,fun b o J _=>J⟩;rw[bp g]at r;exact r
 .have T:¬ ((m:Int)<=(((l.map V.int).length:Nat):Int)):=fun z=>c (bq z);rw[bT]at T
  have g:l.length<m:=by lia
  refine⟨_,rfl,p,C,D,_,_,rfl,a,i,N,iY _ _,.inl ⟨rfl,_,aU.of q⟩,_,rfl,d,_,_,rfl,rfl,q,zW (by rw[bT];lia),?_⟩
  have r:=k [p,d] (upd H d (.lst (l.map V.int++[.int e]))) ⟨D,d,rfl,by rw[zR X];exact a,by unfold added;rw[cS g,zC,qz];rfl⟩ ⟨fun b j=>.inl j,fun b o J u=>by
   rw[zR (fun z:b=d=>u (by rw[z];simp))]
   exact J⟩
  rw[bq g]at r;exact r
def LK:aF ["self"] ["self"] (aA tU):=cQ
def Lj(F:bO K "waiting" "Letters.waiting" tU f fd)(i:vC K C)(N:cA K C "events")(B:mg "list" = none):aL P w K mg base aN 1 f fd ["self"] (Di (LL C)):=by
 refine F.ok LK ?_ ?_
 .rintro _ _ _ _⟨p,g,m,l,rfl,_⟩;rfl
 intro _ A _ s H _ Q E _ h
 apply aW;intro _ g_;obtain⟨p,g,m,l,rfl,⟨D,d,rfl,c,e⟩,_,_,k⟩:=h;apply g_;clear g_;refine⟨_,(zG (zP (yB gO rfl B kf (zA (gq (pv 0) rfl) zD)))),?_⟩;refine⟨_,rfl,p,C,D,_,_,rfl,c,i,N,iY _ _,xR rfl (.inl (aU.of e)) (fun q a=>?_)⟩;refine k q [p,d] _ ⟨D,d,rfl,by rw[zR (zN c a)];exact c,by rw[zR (zN e a)];exact e⟩ ⟨fun b j=>.inl j,fun b o J _=>zF a _ b o J⟩ a (fun z=>?_) zC;rcases dD.mp z with z | z
 .exact zN c a z.symm
 .exact zN e a (jA.mp z).symm
def Tv:aF ["self"] ["self"] (aA Fq):=cQ
theorem Uq(F:bO K "taken" "Letters.taken" Fq f fd)(g:vC K C)(N:cA K C "events")(j:mg "len" = none):aL P w K mg base aN 1 f fd ["self"] (Ng (LL C)):=by
 refine F.ok Tv ?_ ?_
 .rintro _ _ _ _⟨p,i,m,l,rfl,_⟩;rfl
 intro _ A _ s H _ Q E _ h
 apply aW;intro _ g_;obtain⟨p,i,m,l,rfl,⟨D,d,rfl,a,q⟩,_,_,k⟩:=h;apply g_;clear g_
 refine⟨_,(zE (yE (zM yH (zT zO rfl j bj (zA (gq (pv 0) rfl) zD)) zB (zS _))
  (zG (zP iw))
  zU)
  (zG (zP (dU iu PySem.F.slot_list_pop PySem.F.type_list_pop Vc (gq (pv 0) rfl) (zA zB zD))))),?_⟩
 refine⟨_,rfl,p,C,D,_,_,rfl,a,g,N,iY _ _,xR rfl (.inl (aU.of q)) ⟨rfl,_,rfl,?_⟩⟩;have X:=gU a q (by intro z;cases z)
 cases l with
 | nil=>exact Hq rfl (k [p,d] H ⟨D,d,rfl,a,q⟩ ⟨fun b c=>.inl c,fun b o J _=>J⟩)
 | cons e l=>
  refine eE ?_ ?_
  .rw[bT];refine bp fun z=>?_;injection z with z;rw[dG]at z;lia
  refine⟨_,rfl,p,C,D,_,_,rfl,a,g,N,iY _ _,.inl ⟨rfl,_,aU.of q⟩,d,_,0,0,.int e,rfl,rfl,q,by decide,by decide,?_,rfl,?_⟩
  .rw[bT,dG];unfold seqIndex?;simp
  .exact k [p,d] _ ⟨D,d,rfl,by rw[zR X];exact a,zC⟩ ⟨fun b c=>.inl c,fun b o J n=>by
    rw[zR (fun z:b=d=>n (by rw[z];simp))]
    exact J⟩
end dC
namespace dC
open PySem L2 jP lN xM Q3
def N5(h:LL C H p fp m l)(ht:H t=some (.tup xs)):t∉fp:=by
 obtain⟨_,d,rfl,f,q⟩:=h;intro z;rcases dD.mp z with z | z
 .rw[z,f]at ht
  cases ht
 .rw[jA.mp z,q]at ht
  cases ht
inductive zu(L:LA)(vs:List V)(H:Hp)(Q:VK)(E_:XK):Prop
 | mk (vd tb p d bx sz l fp m G) (_:vs=[vd,.ref tb,.ref p]) (_:aH G H) (_:(∀ b∈fp,G b=none)) (_:sO G vd d) (_:G tb=some (.tup ((d.upd sz bx).map V.int))) (_:L H p fp m l) (_:d.ok bx.length) (_:bx.length<=6) (_:l.length<=m) (_:m<=12) (_:∀ t fp' H',L H' p fp' m (d.lin m l)->bc H H' fp fp'->H' t=some (.tup (d.rc sz m bx l).row)->t∉fp'->Q (.ref t) H')
def wV:aF ["deed","boxes","letters","kind"] ["deed","boxes","letters"] (aA qU):=cQ
theorem JP(F:bO K "recorded" "recorded" qU f fd)(Z:vC K C)(mA:Meth K C "add" ga)(O:aL P w K mg base aN n ga da ["self","event"] (qAG (LL C)))(M:Binds K da ["self","event"] []) :
  aL P w K mg base aN (n+1) f fd ["deed","boxes","letters"] (zu (LL C)):=by
 refine F.ok wV ?_ ?_
 .rintro _ _ _ _⟨D,tb,p,d,bx,sz,l,y,m,G,rfl,_⟩;rfl
 intro _ A _ s H _ Q E hr h
 apply aW;intro _ g_;obtain⟨D,tb,p,d,bx,sz,l,y,m,G,rfl,B,ng,hd,J,L,hok,_,hl,Y,k⟩:=h;apply g_;clear g_
 refine⟨_,(zE (zL (i:=3) wV.nd rfl (bb rfl) (yC zH (pv 0) zB (fun _ _=>rfl)))
  (zE (yE (zM yH (pv 3) zQ (zS _))
  (zG (zP (zX (zA zQ (zA (yC zH (pv 0) zB (fun _ _=>rfl)) zD)))))
  zU)
  (zE (yE (zM yH (pv 3) zQ (zS _))
  (zG (zP (zX (zA (mC (aY (Od (pv 2) Z mA O hr M .nil yF (zA (yC zH (pv 0) zB (fun _ _=>rfl)) zD))) zQ zQ) (zA (yC zH (pv 0) zB (fun _ _=>rfl)) zD)))))
  zU)
  (zG (zP (zX (zA zQ (zA (yC zH (pv 0) zB (fun _ _=>rfl)) (zA (yC zH (pv 1) (yC zH (pv 0) zB (fun _ _=>rfl)) (fun _ _=>rfl)) zD))))))))),?_⟩
 have nG:∀ b o,G b=some o->b∉y:=fun b o e z=>by
  rw[ng b z]at e
  cases e
 have q:∀ t:ar,H t=none->∀ row:aw V,row=(d.rc sz m bx l).row->d.lin m l=l->Q (.ref t) (upd H t (.tup row)):=fun t ht row u e2=>by
  have S:=zF ht (.tup row);refine k t y _ (by rw[e2];exact (j6 C).keep L fun b _ o e=>S b o e) ⟨fun b J=>.inl J,fun b o e _=>S b o e⟩ (by rw[zC,u]) (fun z=>(j6 C).there L t z ht)
 have two:(∃ a x b n,D = .ref a/\G a=some (.tup [.str x,.int b,.int n])/\(x = "set" ∨ x = "add")/\d.box=some b/\d.rc sz m bx l = .put b (at0 (d.upd sz bx) b)/\d.lin m l=l) ∨
   (∃ a W,D = .ref a/\G a=some (.tup [.str "say",.str W])/\d = .say W)∨(∃ a v,D = .ref a/\G a=some (.tup [.str "send",.int v])/\d = .send v):=by
  cases hd with
  | say e=>exact .inr (.inl ⟨_,_,rfl,e,rfl⟩)
  | send e=>exact .inr (.inr ⟨_,_,rfl,e,rfl⟩)
  | set e=>exact .inl ⟨_,_,_,_,rfl,e,.inl rfl,rfl,rfl,rfl⟩
  | add e=>exact .inl ⟨_,_,_,_,rfl,e,.inr rfl,rfl,rfl,rfl⟩
 rcases two with ⟨a,x,b,n',rfl,e,U,T,Vx,N⟩ | ⟨a,W,rfl,e,rfl⟩ | ⟨a,v,rfl,e,rfl⟩
 .have g:=B _ _ e;have I:=B _ _ J;obtain⟨b0,_⟩:=hok b T;have ul:=d.NT sz bx;refine⟨_,rfl,aG (aJ.of g) rfl ?_⟩;refine⟨_,rfl,rfl,_,rfl,yO (by rcases U with rfl | rfl <;> decide +kernel) ?_⟩;refine⟨_,rfl,rfl,_,rfl,yO (by rcases U with rfl | rfl <;> decide +kernel) ?_⟩;refine⟨_,rfl,aG (aJ.of g) rfl ⟨_,rfl,_,rfl,aG (aJ.of g) rfl (aG (aJ.of I) (Bv b0 (by lia)) ⟨zJ (by show 3<=1000;decide),fun t ht=>?_⟩)⟩⟩;exact q t ht _ (by rw[Vx];rfl) N
 .have g:=B _ _ e;refine⟨_,rfl,aG (aJ.of g) rfl ?_⟩;refine⟨_,rfl,rfl,_,rfl,yP ?_⟩;exact⟨_,rfl,aG (aJ.of g) rfl ⟨zJ (by show 2<=1000;decide),fun t ht=>q t ht _ rfl rfl⟩⟩
 .have g:=B _ _ e;apply aW;intro _ g_;obtain⟨dx,fs,ho,n1,_,_⟩:=(j6 C).obj L;apply g_;clear g_;refine⟨_,rfl,aG (aJ.of g) rfl ?_⟩;refine⟨_,rfl,rfl,_,rfl,yO (by decide +kernel) ?_⟩;refine⟨_,rfl,rfl,_,rfl,yP ?_⟩;refine⟨_,rfl,p,dx,fs,rfl,ho,n1,_,rfl,aG (aJ.of g) rfl ⟨p,y,m,l,v,rfl,L,hl,Y,fun R X r st=>⟨_,rfl,?_⟩⟩⟩;have u:=st.rest _ _ g (nG _ _ e)
  have j:∀ t:ar,X t=none->∀ row:aw V,row=((Dd.send v).rc sz m bx l).row->Q (.ref t) (upd X t (.tup row)):=fun t ht row er=>by
   have S:=zF ht (.tup row);refine k t R _ ((j6 C).keep r fun b _ o e=>S b o e) ⟨st.own,fun b o e nb=>S b o (st.rest b o e nb)⟩ (by rw[zC,er]) (fun z=>(j6 C).there r t z ht)
  refine vp (fun c=>?_) (fun c=>?_)
  .refine⟨_,rfl,aG (aJ.of u) rfl ⟨zJ (by show 2<=1000;decide),fun t ht=>j t ht _ ?_⟩⟩;show _=(if l.length<m then Rc.send v else Rc.lost v).row;rw[cS (ba c)];rfl
  .refine⟨_,rfl,aG (aJ.of u) rfl ⟨zJ (by show 2<=1000;decide),fun t ht=>j t ht _ ?_⟩⟩;show _=(if l.length<m then Rc.send v else Rc.lost v).row;rw[cK fun z=>c (bq z)];rfl
def tE:aF ["deeds","boxes","sizes","letters","held","record","deed"] ["deeds","boxes","sizes","letters"] (aA O6):=cQ
theorem Z2(F:bO K "done" "done" O6 f fd)(SM:Dp P w K mg base aN n gc dc ["deed","boxes","sizes"] Dm "changed")
  (NK:Dp P w K mg base aN n gr dr ["deed","boxes","letters"] (zu (LL C)) "recorded") :
  aL P w K mg base aN (n+1) f fd ["deeds","boxes","sizes","letters"] (Tp (LL C)):=by
 refine F.ok tE ?_ ?_
 .rintro _ _ _ _⟨td,tb,ts,p,D,bx,sz,l,dv,v,m,G,rfl,_⟩;rfl
 intro _ A _ s H _ Q E hr h
 apply aW;intro _ g_;obtain⟨td,tb,ts,p,D,bx,sz,l,dv,v,m,G,rfl,X,ng,I,hds,htb,hts,hL,hok,_,hbs,h6,Z,hl,hm,q⟩:=h;apply g_;clear g_
 refine⟨_,(zE (zL (i:=4) tE.nd rfl (bb rfl) (pv 1))
  (zE (zL (i:=5) tE.nd rfl (bb rfl) (yL zD))
  (yA (bf PassesOwn.never rfl (nQ (pv 0)) (yK (i:=6) tE.nd rfl (bb rfl))
  (zE (zL (i:=4) tE.nd rfl (bb rfl) (pC SM hr (zA (pv 6) (zA (pv 4) (zA (pv 2) zD)))))
  (zG (yJ (dU iu yz yx yI (pv 5) (zA (pC NK hr (zA (pv 6) (zA (pv 4) (zA (pv 3) zD)))) zD))))))
  (zG (zP (zX (zA (pv 4) (zA (pv 5) zD)))))))),?_⟩
 have nG:∀ b o,G b=some o->b∉v:=fun b o e z=>by
  rw[ng b z]at e
  cases e
 refine⟨_,rfl,bo _,fun r j=>?_⟩;have s0:=zF j (.lst []);have R7:r∉v:=fun z=>(j6 C).there hL r z j;have nds:=hds.length
 refine⟨fun σ' g => ∃ u c R M,σ'=[some (.ref td),some (.ref tb),some (.ref ts),some (.ref p),some (.ref u),some (.ref r),M]/\LL C g p c m (Cg m D l)/\bc H g v c ∧
   g u=some (.tup ((Ao sz D bx).map V.int))/\u∉c/\g r=some (.lst R)/\r∉c/\ju (Bm c g) R (xP sz m D bx l),?_,?_⟩
 .refine⟨_,rfl,td,rfl,⟨_,aJ.of (s0 _ _ (X _ _ I))⟩,?_⟩
  refine ZV (K:=K) (a:=td) (xs:=dv) (fun i σ' g => ∃ u c R M,σ'=[some (.ref td),some (.ref tb),some (.ref ts),some (.ref p),some (.ref u),some (.ref r),M]/\LL C g p c m (Cg m (D.take i) l)/\bc H g v c ∧
   g u=some (.tup ((Ao sz (D.take i) bx).map V.int))/\u∉c/\g r=some (.lst R)/\r∉c/\ju (Bm c g) R (xP sz m (D.take i) bx l))
   ⟨tb,v,[],none,rfl,(j6 C).keep hL fun b _ o e=>s0 b o e,⟨fun b J=>.inl J,fun b o e _=>s0 b o e⟩,s0 _ _ (X _ _ htb),nG _ _ htb,zC,R7,.nil⟩ ?_ ?_ ?_
  .rintro i σ' g _ L;apply aW;intro _ g_;obtain⟨u,c,R,M,rfl,_,st,_⟩:=L;apply g_;clear g_;exact aJ.of (st.rest _ _ (X _ _ I) (nG _ _ I))
  .rintro i x σ' g hx L;apply aW;intro _ g_;obtain⟨u,c,R,M,rfl,B,st,N,nbi,Kc,R6,Vx⟩:=L;obtain⟨d,hd,W⟩:=hds.get hx;apply g_;clear g_;have Y:=SX hd;have hil:=(oW.mp hd).1
   have gi:∀ b o,G b=some o->g b=some o/\b∉c:=fun b o e=>by
    refine⟨st.rest b o (X b o e) (nG b o e),fun z=>?_⟩;rcases st.own b z with y | y
    .exact nG b o e y
    .rw[X b o e]at y
     cases y
   have lb:=An sz (D.take i) bx;have ll:=Am (D.take i) l hl;refine⟨_,rfl,_,rfl,_,rfl,x,u,ts,d,_,sz,rfl,W.mono (fun b xs e=>(gi b _ e).1),N,(gi _ _ hts).1,(by rw[lb];exact hok d Y),(by rw[lb];exact hbs),(by rw[lb];exact h6),Z,fun t H1 S ht=>?_⟩;have U:=(j6 C).keep B fun b _ o e=>S b o e;have nt:=N5 U ht;have k:=S _ _ Kc;refine⟨_,rfl,.inl ⟨rfl,_,aU.of k⟩,_,rfl,_,rfl,_,rfl,x,t,p,d,Ao sz (D.take i) bx,sz,Cg m (D.take i) l,c,m,Bm c H1,rfl,fun b o e=>(qe e).1,fun b J=>Pg J,?_,ud ht nt,U,(by rw[lb];exact hok d Y),(by rw[lb];exact h6),ll,hm,fun t2 CW H2 hL2 O Ox nt2=>?_⟩
   .exact W.mono fun b xs e=>ud (S _ _ (gi b _ e).1) (gi b _ e).2
   have hr2:=O.rest _ _ k R6
   have YC:∀ b o,H1 b=some o->b∉c->H2 b=some o/\b∉CW:=fun b o e T=>⟨O.rest b o e T,fun z=>by
    rcases O.own b z with y | y
    .exact T y
    .rw[e]at y
     cases y⟩
   have nr2:=(YC _ _ k R6).2;have rl:=Vx.length;rw[uG,iQ]at rl;refine⟨r,_,_,rfl,rfl,hr2,zW (by lia),?_⟩
   have Mr:D.take (i+1)=D.take i++[d]:=by
    rw[mq,hd];rfl
   refine⟨t,CW,R++[.ref t2],_,rfl,?_,⟨fun b J=>?_,fun b o e T=>?_⟩,?_,(YC _ _ ht nt).2,zC,nr2,?_⟩
   .rw[Mr,Dv];refine (j6 C).keep hL2 fun b J o e=>?_;rw[zR (fun z:b=r=>nr2 (by rw[<-z];exact J))];exact e
   .by_cases z:b∈v
    .exact .inl z
    .rcases O.own b J with y | y
     .exact st.own b y
     .right
      cases w':H b with
      | none=>rfl
      | some o=>
       have:=S _ _ (st.rest b o w' z);rw[y]at this
       cases this
   .have bi:b∉c:=fun z=>by
     rcases st.own b z with y | y
     .exact T y
     .rw[e]at y
      cases y
    rw[zR (zN e j)];exact O.rest b o (S _ _ (st.rest b o e T)) bi
   .rw[zR (gU ht k (by intro z;cases z)),Mr,Dw];exact (YC _ _ ht nt).1
   .rw[Mr,Du];refine (Vx.mono fun b xs e=>?_).snoc (ud ?_ nt2)
    .apply aW;intro _ g_;obtain⟨e1,e2⟩:=qe e;obtain⟨e3,e4⟩:=YC _ _ (S _ _ e1) e2;apply g_;clear g_;refine ud ?_ e4;rw[zR (gU e1 Kc (by intro z;cases z))];exact e3
    .rw[zR (gU Ox hr2 (by intro z;cases z))];exact Ox
  .rintro σ' g L;apply aW;intro _ g_;obtain⟨u,c,R,M,h1,h2,h3,h4,h5,h6',h7,h8'⟩:=L;apply g_;clear g_;rw[nds,ib]at h2 h4 h8';exact⟨u,c,R,M,h1,h2,h3,h4,h5,h6',h7,h8'⟩
 rintro σ' g L;apply aW;intro _ g_;obtain⟨u,c,R,M,rfl,B,st,N,nbi,Kc,R6,Vx⟩:=L;apply g_;clear g_;refine⟨_,rfl,_,rfl,zJ (by show 2<=1000;decide),fun t ht=>?_⟩;have S:=zF ht (.tup [.ref u,.ref r]);exact q t u r R c _ ((j6 C).keep B fun b _ o e=>S b o e) ⟨st.own,fun b o e T=>S b o (st.rest b o e T)⟩ zC (S _ _ N) nbi (S _ _ Kc) j (Vx.mono fun b xs e=>S _ _ (qe e).1)
end dC
namespace Ru
open PySem L2 jP lN vB Q3 xM dC
open DQ (Al)
inductive En where
 | rc (r:Rc)
 | inn (k:Nat)
 | out (k:Nat)
 | door (k:Nat)
 | thr (k:Nat)
 | take (e:Int)
noncomputable def En.row:En->aw V
 | .rc r=>r.row
 | .inn k=>[.str "in",.int (k:Int)]
 | .out k=>[.str "out",.int (k:Int)]
 | .door k=>[.str "door",.int (k:Int)]
 | .thr k=>[.str "through",.int (k:Int)]
 | .take e=>[.str "take",.int e]
def iz(H:Hp)(v:V)(e:En):Prop:=∃ a:ar,v = .ref a/\H a=some (.tup e.row)
def iz.mono(x:iz H v e)(k:aB H H'):iz H' v e:=by obtain⟨a,f,q⟩:=x;exact⟨a,f,k _ _ q⟩
def oK(H:Hp)(v:V)(d:aw Dd):Prop:=∃ a Y,v = .ref a/\H a=some (.tup Y)/\il H Y d
def oK.mono(x:oK H v ds)(k:aB H H'):oK H' v ds:=by obtain⟨a,Y,f,q,b⟩:=x;exact⟨a,Y,f,k _ _ q,b.mono k⟩
abbrev Sd:=En×aw Dd
def sJ(H:Hp)(v:V)(s:Sd):Prop:=∃ a A Y,v = .ref a/\H a=some (.tup [.ref A,Y])/\H A=some (.tup s.1.row)/\oK H Y s.2
def sJ.mono(x:sJ H v s)(k:aB H H'):sJ H' v s:=by obtain⟨a,A,Y,f,q,b,l⟩:=x;exact⟨a,A,Y,f,k _ _ q,k _ _ b,l.mono k⟩
noncomputable def sstep(sz:aw Int)(m:Nat)(s:aw Int×aw Int×aw En)(x:Sd):aw Int×aw Int×aw En:=(Ao sz x.2 s.1,Cg m x.2 s.2.1,s.2.2++(x.1::(xP sz m x.2 s.1 s.2.1).map En.rc))
def cz(sz:aw Int)(m:Nat)(ss:aw Sd)(bx l:aw Int):aw Int×aw Int×aw En:=ss.foldl (sstep sz m) (bx,l,[])
def rK(sz:aw Int)(m:Nat)(ss:aw Sd)(x:Sd)(bx l:aw Int):cz sz m (ss++[x]) bx l=sstep sz m (cz sz m ss bx l) x:=by unfold cz;rw[List.foldl_append];rfl
theorem wC(sz:aw Int)(m:Nat):∀(ss:aw Sd)(s:aw Int×aw Int×aw En),(ss.foldl (sstep sz m) s).1.length=s.1.length/\(s.2.1.length<=m->(ss.foldl (sstep sz m) s).2.1.length<=m)
 | [],s=>⟨rfl,fun h=>h⟩
 | x::ss,s=>by
  have i:=wC sz m ss (sstep sz m s x);rw[fF];refine⟨by rw[i.1];exact An sz x.2 s.1,fun h=>i.2 (Am x.2 s.2.1 h)⟩
def zm(sz:aw Int)(m:Nat)(ss:aw Sd)(bx l:aw Int):(cz sz m ss bx l).1.length=bx.length:=(wC sz m ss _).1
def Fd(h:l.length<=m):(cz sz m ss bx l).2.1.length<=m:=(wC sz m ss (bx,l,[])).2 h
theorem PJ(sz:aw Int)(m:Nat):∀(ss:aw Sd)(s:aw Int×aw Int×aw En),(∀ x∈ss,x.2.length<=8)->(ss.foldl (sstep sz m) s).2.2.length<=s.2.2.length+9*ss.length
 | [],s,_=>by simp
 | x::ss,s,h=>by
  have i:=PJ sz m ss (sstep sz m s x) fun y O=>h y (Hr _ O);have H:=h x (FZ ..)
  have e:(sstep sz m s x).2.2.length=s.2.2.length+(1+x.2.length):=by
   show (s.2.2++(x.1::(xP sz m x.2 s.1 s.2.1).map En.rc)).length=_;rw[j8,dG,bT,uG];lia
  rw[fF,dG];lia
def zj(h:∀ x∈ss,x.2.length<=8):(cz sz m ss bx l).2.2.length<=9*ss.length:=by have:=PJ sz m ss (bx,l,[]) h;have e:(bx,l,([]:aw En)).2.2.length=0:=rfl;rw[e,ja]at this;exact this
theorem qBP(x:ju H rv rs):Al (iz H) rv (rs.map En.rc):=by
 induction x with
 | nil=>exact .nil
 | cons h _ i=>exact .cons ⟨_,rfl,h⟩ i
theorem Al.app(x:Al R vs rs)(y:Al R ws ss):Al R (vs++ws) (rs++ss):=by
 induction x with
 | nil=>exact y
 | cons h _ i=>exact .cons h i
def Al.cast(e:vs=ws)(x:Al R ws rs):Al R vs rs:=by rw[e];exact x
theorem bc.trans(a:bc H H1 fp fp1)(b:bc H1 H2 fp1 CW):bc H H2 fp CW where
 own:=fun c d=>by
  by_cases z:c∈fp
  .exact .inl z
  .rcases b.own c d with y | y
   .exact a.own c y
   .right
    cases w':H c with
    | none=>rfl
    | some o=>
     have:=a.rest c o w' z;rw[y]at this
     cases this
 rest:=fun c o e N=>b.rest c o (a.rest c o e N) fun z=>by
  rcases a.own c z with y | y
  .exact N y
  .rw[e]at y
   cases y
def bc.same(f:aw ar)(s:aH H H'):bc H H' f f:=⟨fun _ h=>.inl h,fun b o e _=>s b o e⟩
def bc.apart(a:bc H H' fp fp')(e:H b=some o)(n:b∉fp):H' b=some o/\b∉fp':=⟨a.rest b o e n,fun z=>by
 rcases a.own b z with y | y
 .exact n y
 .rw[e]at y
  cases y⟩
def bc.keep(a:bc H H' fp fp')(h:LL C H p fp m l):aB H H':=fun b _ e=>a.rest b _ e (N5 h e)
def bc.upd(a:bc H H' fp fp')(n:H b=none)(o:HO):bc H (upd H' b o) fp fp':=⟨a.own,fun c u e N=>by
 rw[zR (zN e n)]
 exact a.rest c u e N⟩
def LL.same(h:LL C H p fp m l)(s:aH H H'):LL C H' p fp m l:=(j6 C).keep h fun b _ o e=>s b o e
def LL.upd(h:LL C H p fp m l)(n:b∉fp)(o:HO):LL C (upd H b o) p fp m l:=(j6 C).keep h fun c d u e=>by
 rw[zR (fun z:c=b=>n (by rw[<-z];exact d))];exact e
def LL.new(h:LL C H p fp m l)(n:H b=none):b∉fp:=fun z=>(j6 C).there h b z n
def Hk(H:Hp)(v:V)(z:Int):Prop:=∃ a n s,v = .ref a/\H a=some (.tup [n,.int z,s])
def Hk.mono(x:Hk H v z)(k:aB H H'):Hk H' v z:=by obtain⟨a,n,s,f,q⟩:=x;exact⟨a,n,s,f,k _ _ q⟩
inductive Fe(vs:List V)(H:Hp)(Q:VK)(E_:XK):Prop
 | mk (pc pb x0 x1 x2 x4 x5 x6 bv sz) (_:vs=[.ref pc]) (_:H pc=some (.tup [x0,x1,x2,.ref pb,x4,x5,x6])) (_:H pb=some (.tup bv)) (_:Al (Hk H) bv sz) (_:sz.length<=100) (_:∀ t H',aH H H'->H' t=some (.tup (sz.map V.int))->Q (.ref t) H')
def RmD(H:Hp)(R:aw Rm)(D d:Nat->aw Dd):Prop:=∀ k r,R[k]? = some r->oK H r.ins (D k)/\oK H r.outs (d k)
def RmD.mono(x:RmD H rs di dO)(k:aB H H'):RmD H' rs di dO:=fun j r h=>⟨(x j r h).1.mono k,(x j r h).2.mono k⟩
inductive lU(f:Nat->En)(ins:Bool)(vs:List V)(H:Hp)(Q:VK)(E_:XK):Prop
 | mk (t pe rs di dO es) (_:vs=[.ref t,.ref pe]) (_:dW H t rs) (_:RmD H rs di dO) (_:H pe=some (.lst (aC es))) (_:(∀ k∈es,k<rs.length)) (_:es.length<=100) (_:∀ p sv H',aH H H'->H p=none->H' p=some (.lst sv)->Al (sJ H') sv (es.map fun k=>(f k,if ins=true then di k else dO k))->Q (.ref p) H')
def outs(E:aw En):aw Nat:=E.filterMap fun e=>match e with
 | .out k=>some k
 | _=>none
inductive Tf(vs:List V)(H:Hp)(Q:VK)(E_:XK):Prop
 | mk (pr rv es) (_:vs=[.ref pr]) (_:H pr=some (.lst rv)) (_:Al (iz H) rv es) (_:es.length<=1000) (_:∀ p H',aH H H'->H p=none->H' p=some (.lst (aC (outs es)))->Q (.ref p) H')
inductive vJ(C:Addr)(vs:List V)(H:Hp)(Q:VK)(E_:XK):Prop
 | mk (ps tb ts p sv ss bx sz l fp m) (_:vs=[.ref ps,.ref tb,.ref ts,.ref p]) (_:H ps=some (.lst sv)) (_:ps∉fp) (_:Al (sJ H) sv ss) (_:H tb=some (.tup (bx.map V.int))) (_:H ts=some (.tup (sz.map V.int))) (_:LL C H p fp m l) (_:(∀ s∈ss,(∀ d∈s.2,d.ok bx.length)/\s.2.length<=8)) (_:ss.length<=110) (_:bx.length=sz.length) (_:bx.length<=6) (_:(∀ z∈sz,0<z)) (_:l.length<=m) (_:m<=12) (_:∀ t tb' pr rv fp' H',LL C H' p fp' m (cz sz m ss bx l).2.1->bc H H' fp fp'->H' t=some (.tup [.ref tb',.ref pr])->H' tb'=some (.tup ((cz sz m ss bx l).1.map V.int))->H' pr=some (.lst rv)->H pr=none->pr∉fp'->Al (iz H') rv (cz sz m ss bx l).2.2->Q (.ref t) H')
def Ir:aF ["chart"] ["chart"] (aA jb):=cQ
def JN(F:bO K "sizes_of" "sizes_of" jb f fd)(t:mg "tuple" = none):aL P w K mg base aN 1 f fd ["chart"] Fe:=by
 refine F.ok Ir ?_ ?_
 .rintro _ _ _ _⟨T,B,X,m,C,y,o,W,e,sz,rfl,_⟩;rfl
 intro _ A _ s H _ Q E _ h
 apply aW;intro _ g_;obtain⟨T,B,X,m,C,y,o,W,e,sz,rfl,M,G,g,_,q⟩:=h;apply g_;clear g_;refine⟨_,(zG (zP (yB zY rfl t qt (zA (yU (bF:=[]) rfl (show bA (aA jb) ["chart"] _ _ _ from vA) (nQ (yC zH (pv 0) zB (fun _ _=>rfl))) (fun _ _ _ _ _ _=>bQ) (fun _ _ _ _ _ _=>yC (r:=dM K) zH (pv 0) zB (fun _ _=>rfl))) zD)))),?_⟩;have L:=g.length;refine⟨_,rfl,aG (aJ.of M) rfl ⟨B,rfl,⟨_,aJ.of G⟩,?_⟩⟩;refine ig (K:=K) (a:=B) (xs:=e) (fun i c b=>b=H/\c=(sz.take i).map V.int) ⟨rfl,rfl⟩ (fun i c b z=>by rw[z.1];exact aJ.of G) ?_ ?_
 .rintro i x c b d ⟨rfl,rfl⟩
  have I:i<sz.length:=by
   have:=(oW.mp d).1;lia
  have k:=fQ I;apply aW;intro _ g_;obtain⟨v,j,a,n,s,rfl,u⟩:=g.get k;apply g_;clear g_;rw[j]at d;obtain rfl:=kJ d;refine⟨_,rfl,aG (aJ.of u) rfl ⟨by rw[bT,iQ,sizeLine_eq];lia,rfl,?_⟩⟩;rw[mq,k,qz];rfl
 .rintro c b ⟨rfl,rfl⟩ pl l;rw[DX (by lia)]at *;refine⟨pl,_,rfl,.inl ⟨aU.of zC,fun p D=>q p _ ((zF l _).trans (zF D _)) zC⟩⟩
def Ca:aF ["record"] ["record"] (aA fc):=cQ
theorem UG(e:En):∃ s x r,e.row = .str s::x::r/\(decide (V.str s=V.str ("out" : Str))=true->∃ k:Nat,e = .out k/\x = .int (k:Int))/\(decide (V.str s=V.str ("out" : Str))=false->∀ k,e≠.out k):=by
 cases e with
 | rc r=>cases r <;> exact⟨_,_,_,rfl,(fun z=>eu z (by decide +kernel)),fun _ k z=>by cases z⟩
 | inn k=>exact⟨_,_,_,rfl,(fun z=>eu z (by decide +kernel)),fun _ k z=>by cases z⟩
 | out k=>exact⟨_,_,_,rfl,fun _=>⟨k,rfl,rfl⟩,fun z=>eu z (by decide +kernel)⟩
 | door k=>exact⟨_,_,_,rfl,(fun z=>eu z (by decide +kernel)),fun _ k z=>by cases z⟩
 | thr k=>exact⟨_,_,_,rfl,(fun z=>eu z (by decide +kernel)),fun _ k z=>by cases z⟩
 | take e=>exact⟨_,_,_,rfl,(fun z=>eu z (by decide +kernel)),fun _ k z=>by cases z⟩
theorem EY(E:aw En)(e:En):outs (E++[e])=outs E++(match e with
  | .out k=>[k]
  | _=>[]):=by
 unfold outs;rw[List.filterMap_append]
 cases e <;> rfl
theorem Cj(F:bO K "rooms_left" "rooms_left" fc f fd):aL P w K mg base aN 1 f fd ["record"] Tf:=by
 refine F.ok Ca ?_ ?_
 .rintro _ _ _ _⟨p,R,d,rfl,_⟩;rfl
 intro _ A _ s H _ Q E _ h
 apply aW;intro _ g_;obtain⟨p,R,d,rfl,j,u,_,q⟩:=h;apply g_;clear g_;refine⟨_,(zG (zP (yU (bF:=[]) rfl (show bA (aA fc) ["record"] _ _ _ from vA) (yN (pv 0)) (fun _ _ _ _ _ _=>cW (zM (r:=rEq) yH (yC (r:=dM K) zH (pv 0) zB (fun _ _=>rfl)) zQ (zS _))) (fun _ _ _ _ _ _=>yC (r:=dM K) zH (pv 0) zB (fun _ _=>rfl))))),?_⟩;have L:=u.length;refine⟨_,rfl,p,rfl,⟨_,aU.of j⟩,?_⟩;refine yT (K:=K) (a:=p) (xs:=R) (fun i b m=>m=H/\b.length<=i/\b=aC (outs (d.take i))) ⟨rfl,bD _,rfl⟩ (fun i b m z=>by rw[z.1];exact aU.of j) ?_ ?_
 .rintro i x b m n I;apply aW;intro _ g_;obtain⟨rfl,_,rfl⟩:=I
  have G:i<d.length:=by
   have:=(oW.mp n).1;lia
  have t:=fQ G;obtain⟨v,y,a,rfl,o⟩:=u.get t;apply g_;clear g_;rw[y]at n;obtain rfl:=kJ n
  have M:d.take (i+1)=d.take i++[d[i]]:=by
   rw[mq,t];rfl
  apply aW;intro _ g_;obtain⟨s',_,_,B,D,g⟩:=UG d[i];apply g_;clear g_;rw[B]at o;refine⟨_,rfl,a,_,_,V.str s',rfl,rfl,aJ.of o,(yR rfl),rfl,_,rfl,fO (fun c=>?_) (fun c=>?_)⟩
  .apply aW;intro _ g_;obtain⟨k,C,rfl⟩:=D c;apply g_;clear g_;refine⟨_,rfl,aG (aJ.of o) ((yR rfl)) ⟨by rw[sizeLine_eq];lia,rfl,by rw[j8,vG];lia,?_⟩⟩;rw[M,EY,C];unfold aC;rw[qz];rfl
  .refine⟨rfl,by lia,?_⟩;rw[M,EY];have g:=g c;generalize d[i]=e at g
   cases e with
   | out k=>exact eu rfl (g k)
   | rc r=>rw[oY]
   | inn k=>rw[oY]
   | door k=>rw[oY]
   | thr k=>rw[oY]
   | take k=>rw[oY]
 .rintro b m ⟨rfl,_,rfl⟩ pl l;rw[DX (by lia)];exact q pl _ (zF l _) l zC
def Ip:aF ["rooms","entered"] ["rooms","entered"] (aA jZ):=cQ
def JM(F:bO K "steps_in" "steps_in" jZ f fd):aL P w K mg base aN 1 f fd ["rooms","entered"] (lU En.inn true):=by
 refine F.ok Ip ?_ ?_
 .rintro _ _ _ _⟨t,I,M,D,O,m,rfl,_⟩;rfl
 intro _ A _ s H vs Q E _ h
 apply aW;intro _ g_;obtain⟨t,I,M,D,O,m,rfl,R,U,e,n,_,q⟩:=h;apply g_;clear g_;refine⟨_,(zG (zP (yU (bF:=[(0,"rooms")]) rfl (show bA (aA jZ) ["rooms","entered"] _ _ _ from vA) (yN (pv 1)) (fun _ _ _ _ _ _=>bQ) (fun _ _ _ _ _ _=>(zX (zA (zX (zA zQ (zA (pv 0) zD))) (zA (yC (r:=dM K) zH (yC (r:=dM K) zH (pv 1) (pv 0) (fun _ _=>rfl)) zB (fun _ _=>rfl)) zD))))))),?_⟩;refine⟨_,rfl,I,rfl,⟨_,aU.of e⟩,?_⟩;refine yT (K:=K) (a:=I) (xs:=aC m) (fun i c b=>aH H b/\c.length=i/\Al (sJ b) c ((m.take i).map fun k=>(En.inn k,D k))) ⟨aH.refl _,rfl,.nil⟩ (fun i c b z=>aU.of (z.1 _ _ e)) ?_ ?_
 .rintro i x c b G T;apply aW;intro _ g_;obtain⟨S,L,g⟩:=T;obtain⟨B,rfl⟩:=yS G;apply g_;clear g_;have y:=fQ B;have v:=n _ (lQ B);generalize m[i]=k at y v;apply aW;intro _ g_;obtain⟨vs,a,r,C,_,u,o,J⟩:=(R.mono (aB.of S)).at v;apply g_;clear g_;have hd:=(U k r u).1;refine⟨_,rfl,zJ (by show 2<=1000;decide),fun p N=>?_⟩;have u2:=zF N (.tup [V.str ("in" : Str),V.int (k:Int)]);have d:upd b p (.tup [V.str ("in" : Str),V.int (k:Int)]) p=some (.tup (En.inn k).row):=zC;generalize upd b p (.tup [V.str ("in" : Str),V.int (k:Int)])=X at u2 d ⊢;refine⟨_,rfl,_,rfl,aG (aJ.of (u2 _ _ C)) o (aG (aJ.of (u2 _ _ J)) rfl ⟨zJ (by show 2<=1000;decide),fun W j=>⟨by rw[sizeLine_eq];lia,S.trans (u2.trans (zF j _)),by rw[j8,vG,L],?_⟩⟩)⟩;have u3:=zF j (.tup [V.ref p,r.ins]);rw[mq,y,qz];exact (g.mono fun _ _ z=>z.mono (aB.of (u2.trans u3))).snoc ⟨W,p,r.ins,rfl,zC,u3 _ _ d,hd.mono (aB.of (S.trans (u2.trans u3)))⟩
 .rintro c b ⟨S,L,g⟩ pl l;rw[zV]at g;rw[DX (bD _)]at g;exact q pl c _ (S.trans (zF l _)) (S.free l) zC (g.mono fun _ _ z=>z.mono (aB.of (zF l _)))
def Fo:aF ["rooms","left"] ["rooms","left"] (aA iT):=cQ
def GZ(F:bO K "steps_out" "steps_out" iT f fd):aL P w K mg base aN 1 f fd ["rooms","left"] (lU En.out false):=by
 refine F.ok Fo ?_ ?_
 .rintro _ _ _ _⟨t,I,N,G,D,m,rfl,_⟩;rfl
 intro _ A _ s H vs Q E _ h
 apply aW;intro _ g_;obtain⟨t,I,N,G,D,m,rfl,R,U,e,n,_,q⟩:=h;apply g_;clear g_;refine⟨_,(zG (zP (yU (bF:=[(0,"rooms")]) rfl (show bA (aA iT) ["rooms","left"] _ _ _ from vA) (yN (pv 1)) (fun _ _ _ _ _ _=>bQ) (fun _ _ _ _ _ _=>(zX (zA (zX (zA zQ (zA (pv 0) zD))) (zA (yC (r:=dM K) zH (yC (r:=dM K) zH (pv 1) (pv 0) (fun _ _=>rfl)) zB (fun _ _=>rfl)) zD))))))),?_⟩;refine⟨_,rfl,I,rfl,⟨_,aU.of e⟩,?_⟩;refine yT (K:=K) (a:=I) (xs:=aC m) (fun i c b=>aH H b/\c.length=i/\Al (sJ b) c ((m.take i).map fun k=>(En.out k,D k))) ⟨aH.refl _,rfl,.nil⟩ (fun i c b z=>aU.of (z.1 _ _ e)) ?_ ?_
 .rintro i x c b J T;apply aW;intro _ g_;obtain⟨S,L,g⟩:=T;obtain⟨B,rfl⟩:=yS J;apply g_;clear g_;have y:=fQ B;have v:=n _ (lQ B);generalize m[i]=k at y v;apply aW;intro _ g_;obtain⟨vs,a,r,C,_,u,o,M⟩:=(R.mono (aB.of S)).at v;apply g_;clear g_;have hd:=(U k r u).2;refine⟨_,rfl,zJ (by show 2<=1000;decide),fun p O=>?_⟩;have u2:=zF O (.tup [V.str ("out" : Str),V.int (k:Int)]);have d:upd b p (.tup [V.str ("out" : Str),V.int (k:Int)]) p=some (.tup (En.out k).row):=zC;generalize upd b p (.tup [V.str ("out" : Str),V.int (k:Int)])=X at u2 d ⊢;refine⟨_,rfl,_,rfl,aG (aJ.of (u2 _ _ C)) o (aG (aJ.of (u2 _ _ M)) rfl ⟨zJ (by show 2<=1000;decide),fun W j=>⟨by rw[sizeLine_eq];lia,S.trans (u2.trans (zF j _)),by rw[j8,vG,L],?_⟩⟩)⟩;have u3:=zF j (.tup [V.ref p,r.outs]);rw[mq,y,qz];exact (g.mono fun _ _ z=>z.mono (aB.of (u2.trans u3))).snoc ⟨W,p,r.outs,rfl,zC,u3 _ _ d,hd.mono (aB.of (S.trans (u2.trans u3)))⟩
 .rintro c b ⟨S,L,g⟩ pl l;rw[zV]at g;rw[DX (bD _)]at g;exact q pl c _ (S.trans (zF l _)) (S.free l) zC (g.mono fun _ _ z=>z.mono (aB.of (zF l _)))
def eY:aF ["steps","boxes","sizes","letters","held","record","mark","deeds","told"] ["steps","boxes","sizes","letters"] (aA qM):=cQ
def Lk(F:bO K "stepped" "stepped" qM f fd)(qDG:Dp P w K mg base aN n gd dd ["deeds","boxes","sizes","letters"] (Tp (LL C)) "done") :
  aL P w K mg base aN (n+1) f fd ["steps","boxes","sizes","letters"] (vJ C):=by
 refine F.ok eY ?_ ?_
 .rintro _ _ _ _⟨ps,tb,ts,p,sv,ss,bx,sz,l,J,m,rfl,_⟩;rfl
 intro _ A _ s H _ Q E hr h
 apply aW;intro _ g_;obtain⟨ps,tb,ts,p,sv,ss,bx,sz,l,J,m,rfl,X,nps,hA,htb,hts,hL,hok,_,hbs,h6,Y,hl,hm,q⟩:=h;apply g_;clear g_
 refine⟨_,(zE (zL (i:=4) eY.nd rfl (bb rfl) (pv 1))
  (zE (zL (i:=5) eY.nd rfl (bb rfl) (yL zD))
  (yA (bf PassesOwn.never rfl (yN (pv 0)) (vU rfl (cX (yK (i:=6) eY.nd rfl (bb rfl)) (cX (yK (i:=7) eY.nd rfl (bb rfl)) qY)))
  (zE (zL (i:=8) eY.nd rfl (bb rfl) (pC qDG hr (zA (pv 7) (zA (pv 4) (zA (pv 2) (zA (pv 3) zD))))))
  (zE (zL (i:=4) eY.nd rfl (bb rfl) (yC zH (pv 8) zB (fun _ _=>rfl)))
  (zE (yJ (dU iu yz yx yI (pv 5) (zA (pv 6) zD)))
  (zG (yJ (dU iu kz kC cG (pv 5) (zA (yC zH (pv 8) zB (fun _ _=>rfl)) zD))))))))
  (zG (zP (zX (zA (pv 4) (zA (pv 5) zD)))))))),?_⟩
 have lsv:=hA.length;refine⟨_,rfl,bo _,fun r j=>?_⟩;have u0:=zF j (.lst []);have R7:=LL.new hL j;refine⟨fun σ' g => ∃ u c R M U D,σ'=[some (.ref ps),some (.ref tb),some (.ref ts),some (.ref p),some (.ref u),some (.ref r),M,U,D]/\LL C g p c m (cz sz m ss bx l).2.1/\bc H g J c/\g u=some (.tup ((cz sz m ss bx l).1.map V.int))/\g r=some (.lst R)/\r∉c/\Al (iz g) R (cz sz m ss bx l).2.2,?_,?_⟩
 .refine⟨_,rfl,ps,rfl,⟨_,aU.of (u0 _ _ X)⟩,?_⟩;refine pX (fun i σ' g => ∃ u c R M U D,σ'=[some (.ref ps),some (.ref tb),some (.ref ts),some (.ref p),some (.ref u),some (.ref r),M,U,D]/\LL C g p c m (cz sz m (ss.take i) bx l).2.1/\bc H g J c/\g u=some (.tup ((cz sz m (ss.take i) bx l).1.map V.int))/\g r=some (.lst R)/\r∉c/\Al (iz g) R (cz sz m (ss.take i) bx l).2.2)
   ⟨tb,J,[],_,_,_,rfl,LL.same hL u0,bc.same J u0,u0 _ _ htb,zC,R7,.nil⟩ (fun i σ' g _ ⟨_,_,_,_,_,_,_,_,st,_⟩=>aU.of (st.rest _ _ X nps)) ?_ ?_
  .rintro i x σ' g hx Z;apply aW;intro _ g_;obtain⟨u,c,R,M,U,D,rfl,B,st,I,Kc,R6,Vx⟩:=Z
   have hi:i<ss.length:=by
    have:=(oW.mp hx).1;lia
   have hk:=fQ hi;have L:=lQ hi
   have Mr:ss.take (i+1)=ss.take i++[ss[i]]:=by
    rw[mq,hk];rfl
   obtain⟨v,hv,a,d,_,rfl,h1,h2,ad,dv,rfl,h3,h4⟩:=hA.get hk;apply g_;clear g_;rw[hv]at hx;obtain rfl:=kJ hx;have kt:=bc.keep st hL;obtain⟨ok1,S⟩:=hok _ L;have lb:=zm sz m (ss.take i) bx l;have ll:=Fd (sz:=sz) (ss:=ss.take i) (bx:=bx) hl;have les:=zj (sz:=sz) (m:=m) (ss:=ss.take i) (bx:=bx) (l:=l) fun y hy=>(hok y (gX hy)).2;have lrv:=Vx.length;rw[iQ]at les;generalize ss[i]=sd at Mr h2 h4 ok1 S;have gk:aB g (Bm c g):=fun b _ e=>ud e (N5 B e);refine⟨a,_,rfl,aJ.of (kt _ _ h1),rfl,_,_,rfl,_,_,rfl,rfl,?_⟩;refine⟨_,rfl,_,rfl,_,rfl,_,rfl,ad,u,ts,p,sd.2,_,sz,_,dv,c,m,Bm c g,rfl,fun b o e=>(qe e).1,fun b hb=>Pg hb,gk _ _ (kt _ _ h3),h4.mono (kt.trans gk),gk _ _ I,gk _ _ (kt _ _ hts),B,(by rw[lb];exact ok1),S,(by rw[lb];exact hbs),(by rw[lb];exact h6),Y,ll,hm,fun t tb2 Sh Dt CW H2 hL2 O Ox hb2 _ hr2 M3 qFZ=>?_⟩;have G:=(bc.apart O Kc R6).1;have N:=(bc.apart O Kc R6).2;have k2:=bc.keep O B
   have ne2:Sh≠r:=fun z=>by
    rw[z,Kc]at M3
    cases M3
   refine⟨_,rfl,aG (aJ.of Ox) rfl ?_⟩;refine⟨_,rfl,.inl ⟨rfl,_,aU.of G⟩,_,rfl,r,R,_,rfl,rfl,G,(by rw[sizeLine_eq];lia),?_⟩;have W:=aB.lst G (.lst (R++[.ref d]));have k:upd H2 r (.lst (R++[.ref d])) r=some (.lst (R++[.ref d])):=zC
   have h3p:upd H2 r (.lst (R++[.ref d])) Sh=some (.lst Dt):=by
    rw[zR ne2];exact hr2
   have st3:bc H (upd H2 r (.lst (R++[.ref d]))) J CW:=bc.upd (bc.trans st O) j _;have T:=LL.upd hL2 N (.lst (R++[.ref d]));generalize upd H2 r (.lst (R++[.ref d]))=H3 at W k h3p st3 T ⊢;have lr2:=qFZ.length;rw[uG]at lr2;refine⟨_,rfl,.inl ⟨rfl,_,aU.of k⟩,_,rfl,aG (aJ.of (W _ _ Ox)) rfl ⟨r,Sh,_,_,rfl,rfl,k,h3p,(by rw[j8,vG,sizeLine_eq];lia),?_⟩⟩;have k4:=aB.lst k (.lst (R++[.ref d]++Dt));have Jj:=k2.trans (W.trans k4);refine⟨tb2,CW,_,_,_,_,rfl,?_,bc.upd st3 j _,?_,zC,N,?_⟩
   .rw[Mr,rK];exact LL.upd T N _
   .rw[Mr,rK];exact (W.trans k4) _ _ hb2
   .rw[Mr,rK];refine Al.cast (show R++[V.ref d]++Dt=R++(V.ref d::Dt) by rw[bX];rfl) ?_;exact Al.app (Vx.mono fun _ _ z=>z.mono Jj) (.cons ⟨d,rfl,Jj _ _ (kt _ _ h2)⟩ (qBP (qFZ.mono (W.trans k4))))
  .rintro σ' g Z;apply aW;intro _ g_;obtain⟨u,c,R,M,U,D,z1,z2,z3,z4,z5,z6,z7⟩:=Z;apply g_;clear g_;rw[lsv,ib]at z2 z4 z7;exact⟨u,c,R,M,U,D,z1,z2,z3,z4,z5,z6,z7⟩
 rintro σ' g Z;apply aW;intro _ g_;obtain⟨u,c,R,M,U,D,rfl,B,st,I,Kc,R6,Vx⟩:=Z;apply g_;clear g_;refine⟨_,rfl,_,rfl,zJ (by show 2<=1000;decide),fun t ht=>?_⟩;have u1:=zF ht (.tup [.ref u,.ref r]);exact q t u r R c _ (LL.same B u1) (bc.trans st (bc.same c u1)) zC (u1 _ _ I) (u1 _ _ Kc) j R6 (Vx.mono fun _ _ z=>z.mono (aB.of u1))
inductive Wy where
 | to (g:Nat)
 | back (g:Nat)
 | stay
def Wy.tx:Wy->Str
 | .to _ => "to"
 | .back _ => "back"
 | .stay => "stay"
def Wy.gv:Wy->V
 | .to g=>.int (g:Int)
 | .back g=>.int (g:Int)
 | .stay=>.non
def Wy.gl:Wy->Nat
 | .to g=>g
 | .back g=>g
 | .stay=>0
structure Dx where
 room:Nat
 ev:Int
 g:Gd
 dd:List Dd
 way:Wy
def Cz(H:Hp)(v:V)(d:Dx):Prop:=∃(a:ar)(gv Y:V),v = .ref a/\H a=some (.tup [.int (d.room:Int),.int d.ev,gv,Y,.str d.way.tx,d.way.gv])/\jH H gv d.g/\oK H Y d.dd
def Cz.mono{H h:Hp}{v:V}{d:Dx}(x:Cz H v d)(k:aB H h):Cz h v d:=by obtain⟨a,gv,Y,f,q,b,l⟩:=x;exact⟨a,gv,Y,f,k _ _ q,b.mono k,l.mono k⟩
structure mZ where
 od:Str
 lb:Nat
 tn:Nat
 sz:List Int
 rs:List Rm
 di:Nat->List Dd
 dO:Nat->List Dd
 ds:List Dx
def jJ(H:Hp)(T:ar)(c:mZ):Prop:=∃(B t p:ar)(x:V)(b Y:aw V),H T=some (.tup [.str c.od,.int (c.lb:Int),.int (c.tn:Int),.ref B,x,.ref t,.ref p])/\H B=some (.tup b)/\Al (Hk H) b c.sz/\dW H t c.rs/\RmD H c.rs c.di c.dO/\H p=some (.tup Y)/\Al (Cz H) Y c.ds
def jJ.mono{H h:Hp}{T:ar}{c:mZ}(x:jJ H T c)(k:aB H h):jJ h T c:=by obtain⟨B,t,p,X,v,Y,d,q,b,l,u,f,a⟩:=x;exact⟨B,t,p,X,v,Y,k _ _ d,k _ _ q,b.mono fun _ _ z=>z.mono k,l.mono k,u.mono k,k _ _ f,a.mono fun _ _ z=>z.mono k⟩
structure DP(c:mZ):Prop where
 good:Tr.Good (aD c.rs)
 r40:c.rs.length<=40
 b6:c.sz.length<=6
 pos:∀ z∈c.sz,0<z
 Ss:c.lb<=12
 ins:∀ k:Nat,(∀ d∈c.di k,d.ok c.sz.length)/\(c.di k).length<=8
 outs:∀ k:Nat,(∀ d∈c.dO k,d.ok c.sz.length)/\(c.dO k).length<=8
 d63:c.ds.length<=63
 door:∀ d∈c.ds,d.room<c.rs.length/\d.way.gl<c.rs.length/\(∀ x∈d.dd,x.ok c.sz.length)/\d.dd.length<=8
structure S4 where
 os:List Nat
 bx:List Int
 ks:List (List Nat)
 l:List Int
def cR(H:Hp)(ps:ar)(s:S4):Prop:=∃(l B J:ar)(v:aw V),H ps=some (.tup [.ref l,.ref B,.ref J])/\H l=some (.tup (aC s.os))/\H B=some (.tup (s.bx.map V.int))/\H J=some (.tup v)/\bh H v s.ks
def cR.mono{H h:Hp}{ps:ar}{s:S4}(x:cR H ps s)(k:aB H h):cR h ps s:=by obtain⟨l,B,J,v,f,q,b,a,u⟩:=x;exact⟨l,B,J,v,k _ _ f,k _ _ q,k _ _ b,k _ _ a,u.mono k⟩
structure jG(c:mZ)(s:S4):Prop where
 inc:s.os.Pairwise (· < ·)
 lt:∀ o∈s.os,o<c.rs.length
 Oi:s.os.length<=40
 bx:s.bx.length=c.sz.length
 ks:s.ks.length=c.rs.length
 l:s.l.length<=c.lb
def km(w:Wy)(s:aw (aw Nat)):aw Nat:=match w with
 | .to g=>[g]
 | .back g=>if s.getD g []=[] then [g] else s.getD g []
 | .stay=>[]
def vq:Wy->Bool
 | .stay=>true
 | _=>false
def rY(c:mZ)(d:Dx):aE Nat:=Tr.hall (aD c.rs) (N6.isOne c.rs) d.room d.way.gl
def bN(c:mZ)(d:Dx)(os:aw Nat):aw Nat:=if vq d.way=true then [] else Q4.nT (aD c.rs) (rY c d) os
def pU(c:mZ)(d:Dx)(os:aw Nat)(s:aw (aw Nat)):aw (aw Nat):=if vq d.way=true then s else bI c.rs os (bN c d os) s
def wI(c:mZ)(d:Dx)(s:aw (aw Nat))(m:aw Nat):Prop:=if vq d.way=true then m=[] else Tr.Q5 (aD c.rs) (S5 c.rs) (km d.way s) (rY c d) m
noncomputable def dJ(c:mZ)(d:Dx)(os:aw Nat):aw Nat:=os.filter fun o => !inV (.int (o:Int)) (aC (bN c d os))
noncomputable def jB(c:mZ)(k:Nat)(d:Dx)(os m:aw Nat):aw Sd:=[(En.door k,[])]++((bN c d os).map fun r=>(En.out r,c.dO r))++[(En.thr k,d.dd)]++m.map fun r=>(En.inn r,c.di r)
def K4(c:mZ)(k:Nat)(s:S4)(e:aw En)(s':S4):Prop:=∃(d:Dx)(m:aw Nat),c.ds[k]? = some d/\wI c d (pU c d s.os s.ks) m/\s'.os.Perm (dJ c d s.os++m)/\s'.os.Pairwise (· < ·)/\s'.ks=pU c d s.os s.ks/\(s'.bx,s'.l,e)=cz c.sz c.lb (jB c k d s.os m) s.bx s.l
def Q0(c:mZ)(d:Dx)(os:aw Nat)(s:aw (aw Nat)):Prop:=(∀ g∈km d.way (pU c d os s),g<c.rs.length)/\(km d.way (pU c d os s)).length<=100/\∀ m:aw Nat,wI c d (pU c d os s) m->(dJ c d os++m).Nodup/\(dJ c d os++m).length<=40/\∀ k∈m,k<c.rs.length
inductive Nm(vs:List V)(H:Hp)(Q:VK)(E_:XK):Prop
 | mk (pc pk:Addr) (kv:List V) (ks:List (List Nat)) (c:mZ) (k:Nat) (d:Dx) (_:vs=[.ref pc,.ref pk,.int (k:Int)]) (_:jJ H pc c) (_:c.ds[k]? = some d) (_:H pk=some (.tup kv)) (_:bh H kv ks) (_:d.way.gl<ks.length) (_:(km d.way ks).length<=100) (_:∀(p:Addr)(H':Hp),aH H H'->H p=none->H' p=some (.lst (aC (km d.way ks)))->Q (.ref p) H')
inductive IV(C:Addr)(vs:List V)(H:Hp)(Q:VK)(E_:XK):Prop
 | mk (pc ps p:Addr) (c:mZ) (k:Nat) (ik:Int) (s:S4) (fp:List Addr) (d:Dx) (_:vs=[.ref pc,.ref ps,.int ik,.ref p]) (_:ik=(k:Int)) (_:jJ H pc c) (_:DP c) (_:cR H ps s) (_:jG c s) (_:c.ds[k]? = some d) (_:Q0 c d s.os s.ks) (_:LL C H p fp c.lb s.l) (_:∀(t ps' pr:Addr)(rv:List V)(s':S4)(es:List En)(fp':List Addr)(H':Hp),K4 c k s es s'->LL C H' p fp' c.lb s'.l->bc H H' fp fp'->H' t=some (.tup [.ref ps',.ref pr])->cR H' ps' s'->jG c s'->H' pr=some (.lst rv)->H pr=none->pr∉fp'->Al (iz H') rv es->es.length<=1000->Q (.ref t) H')
theorem uT(R:aw Rm)(os:aw Nat):∀(l:aw Nat)(s:aw (aw Nat)),(bI R os l s).length=s.length
 | [],s=>rfl
 | r::l,s=>by
  show (bI R os l (if dB R r=("" : Str) then s else s.set r (mO R os r))).length=_;rw[uT R os l]
  split
  .rfl
  .rw[gu]
def yr{d:aw Int}{f:Nat->Bool}{a b u:Nat}(h:Tr.hall d f a b=some u):u<a:=Tr.T5 (List.mem_of_find?_eq_some h)
def Ul(d:aw Int)(un:aE Nat)(os:aw Nat):(Q4.nT d un os).length<=os.length:=by unfold Q4.nT;rw[List.length_reverse];exact vD _ _
section
variable{P:ag}{w:aI}{K:bV}{mg:Str->aE av}{base:Heap}{C:ar}
def pF:aF ["chart","kept","door","way","goal"] ["chart","kept","door"] (aA tu):=cQ
theorem JQ{f:ar}{N:af}(F:bO K "goals_of" "goals_of" tu f N)(S:mg "len" = none)(W:mg "list" = none):aL P w K mg base aN 1 f N ["chart","kept","door"] Nm:=by
 refine F.ok pF ?_ ?_
 .rintro _ _ _ _⟨T,r,u,j,c,k,d,rfl,_⟩;rfl
 intro _ A _ s H _ Q E _ h
 apply aW;intro _ g_;obtain⟨T,r,u,j,c,k,d,rfl,⟨_,t,_,_,_,_,L,_,_,_,_,I,O⟩,hd,y,B,C,_,q⟩:=h;apply g_;clear g_
 refine⟨_,(zE (zL (i:=3) pF.nd rfl (bb rfl) (yC zH (yC zH (yC zH (pv 0) zB (fun _ _=>rfl)) (pv 2) (fun _ _=>rfl)) zB (fun _ _=>rfl)))
  (zE (zL (i:=4) pF.nd rfl (bb rfl) (yC zH (yC zH (yC zH (pv 0) zB (fun _ _=>rfl)) (pv 2) (fun _ _=>rfl)) zB (fun _ _=>rfl)))
  (zE (yE (zM yH (pv 3) zQ (zS _))
  (zG (zP (yL zD)))
  zU)
  (zE (yE (PW.pt (pw_and (zM yH (pv 3) zQ (zS _)) (yQ (zM cY (zT zO rfl S bj (zA (yC zH (pv 1) (pv 4) (fun _ _=>rfl)) zD)) zB (zS _)))))
  (zG (zP (yB gO rfl W kf (zA (yC zH (pv 1) (pv 4) (fun _ _=>rfl)) zD))))
  zU)
  (zG (zP (yL (zA (pv 4) zD)))))))),?_⟩
 apply aW;intro _ g_;obtain⟨v,R,a,_,_,rfl,G,_,_⟩:=O.get hd;apply g_;clear g_;have n:=yR R;refine⟨_,rfl,aG (aJ.of L) rfl ⟨_,rfl,aG (aJ.of I) n (aG (aJ.of G) rfl ?_)⟩⟩;refine⟨_,rfl,aG (aJ.of L) rfl ⟨_,rfl,aG (aJ.of I) n (aG (aJ.of G) rfl ?_)⟩⟩;clear G hd;apply aW;intro _ g_;obtain⟨_,_,_,_,X⟩:=d;apply g_;clear g_
 cases X with
 | stay=>exact⟨_,rfl,rfl,_,rfl,Hq (by show decide (V.str ("stay" : Str)=V.str "stay")=true;decide +kernel) ⟨bo _,fun p b=>q p _ (zF b _) b zC⟩⟩
 | to g=>
  refine⟨_,rfl,rfl,_,rfl,eE (by show decide (V.str ("to" : Str)=V.str "stay")=false;decide +kernel) ?_⟩;refine⟨_,rfl,rfl,_,rfl,eE (by show decide (V.str ("to" : Str)=V.str "back")=false;decide +kernel) ?_⟩;exact eE rfl ⟨_,rfl,zJ (by show 1<=1000;decide),fun p b=>q p _ (zF b _) b zC⟩
 | back g=>
  have M:g<j.length:=C;apply aW;intro _ g_;obtain⟨_,x,_,rfl,m⟩:=B.get (fQ M);apply g_;clear g_;have J:=yR x
  have eg:j.getD g []=j[g]:=by rw[jT,fQ M];rfl
  have o:∀(p:ar)(l:Hp),aH H l->H p=none->l p=some (.lst (aC (if j[g]=[] then [g] else j[g])))->Q (.ref p) l:=fun p l U b h=>q p l U b (by
   show l p=some (.lst (aC (if j.getD g []=[] then [g] else j.getD g [])));rw[eg]
   exact h)
  refine⟨_,rfl,rfl,_,rfl,eE (by show decide (V.str ("back" : Str)=V.str "stay")=false;decide +kernel) ?_⟩;refine⟨_,rfl,rfl,_,rfl,Hq (by show decide (V.str ("back" : Str)=V.str "back")=true;decide +kernel) ?_⟩;refine⟨_,rfl,_,rfl,r,u,_,_,rfl,rfl,aJ.of y,J,xR rfl (.inr (aJ.of m)) (eO ⟨_,rfl,fO (fun z=>?_) (fun z=>?_)⟩)⟩
  .have Z:(0:Int)<((aC j[g]).length:Int):=ba z;rw[zV]at Z
   have D:j[g]≠[]:=fun e=>by
    rw[e]at Z;exact eu Z (by decide)
   rw[cK D]at o;exact⟨_,rfl,_,rfl,r,u,_,_,rfl,rfl,aJ.of y,J,xR rfl (.inr (aJ.of m)) (fun p b=>o p _ (zF b _) b zC)⟩
  .have Z:¬ (0:Int)<((aC j[g]).length:Int):=bP z;rw[zV]at Z;have Y:j[g]=[]:=List.length_eq_zero_iff.mp (by lia);rw[cS Y]at o;exact⟨_,rfl,zJ (by show 1<=1000;decide),fun p b=>o p _ (zF b _) b zC⟩
noncomputable abbrev GK:Scope:=⟨.function,[("chart",.local),("stand",.local),("door",.local),("letters",.local),("rooms",.local),("parts",.local),("opening",.local),("kept",.local),("left",.cell),("entered",.local),("hall",.local),("through",.local),("steps",.local),("told",.local),("staying",.local),("hall_over",.globalImplicit),("goings_out",.globalImplicit),("keeping",.globalImplicit),("goings_in",.globalImplicit),("goals_of",.globalImplicit),("steps_out",.globalImplicit),("steps_in",.globalImplicit),("stepped",.globalImplicit),("sizes_of",.globalImplicit),("tuple",.globalImplicit),("sorted",.globalImplicit)],false,false,(aA pH).more⟩
def Qd:aA pH=GK:=by rfl
def bJ:aF ["chart","stand","door","letters","rooms","parts","opening","kept","left","entered","hall","through","steps","told","staying"] ["chart","stand","door","letters"] GK:=cQ
theorem Qk{n:Nat}{f g1 g2 g3 g4 g5 g6 g7 g8 g9:ar}{fd d1 d2 d3 d4 d5 d6 d7 d8 d9:af}(F:bO K "passed" "passed" pH f fd)
  (KJ:Dp P w K mg base aN n g1 d1 ["rooms","one","other"] N6.Ti "hall_over")
  (oN:Dp P w K mg base aN n g2 d2 ["rooms","under","opening"] Q4.Td "goings_out")
  (SJ:Dp P w K mg base aN n g3 d3 ["rooms","opening","left","kept"] Dl "keeping")
  (qK:Dp P w K mg base aN n g4 d4 ["rooms","under","goals"] qBG "goings_in")
  (NQ:Dp P w K mg base aN n g5 d5 ["chart","kept","door"] Nm "goals_of")
  (K6:Dp P w K mg base aN n g6 d6 ["rooms","left"] (lU En.out false) "steps_out")
  (sS:Dp P w K mg base aN n g7 d7 ["rooms","entered"] (lU En.inn true) "steps_in")
  (wK:Dp P w K mg base aN n g8 d8 ["steps","boxes","sizes","letters"] (vJ C) "stepped")
  (sU:Dp P w K mg base aN n g9 d9 ["chart"] Fe "sizes_of")
  (aj:mg "tuple" = none) (cH:mg "sorted" = none):aL P w K mg base aN (n+1) f fd ["chart","stand","door","letters"] (IV C):=by
 refine okS GK Qd F bJ ?_ ?_
 .rintro _ _ _ _⟨pc,ps,p,c,k,ik,s,fp,d,rfl,_⟩;rfl
 intro _ A _ s H _ Q E hr h
 apply aW;intro _ g_;obtain⟨pc,ps,p,c,k,ik,st,fp,d,rfl,rfl,hC,ok,hS,S,hd,mp,hL,q⟩:=h;apply g_;clear g_
 refine⟨_,(zE (zL (i:=4) bJ.nd rfl (bb rfl) (yC zH (pv 0) zB (fun _ _=>rfl)))
  (zE (zL (i:=5) bJ.nd rfl (bb rfl) (yC zH (yC zH (pv 0) zB (fun _ _=>rfl)) (pv 2) (fun _ _=>rfl)))
  (zE (zL (i:=6) bJ.nd rfl (bb rfl) (yC zH (pv 1) zB (fun _ _=>rfl)))
  (zE (zL (i:=7) bJ.nd rfl (bb rfl) (yC zH (pv 1) zB (fun _ _=>rfl)))
  (zE (zL (i:=8) bJ.nd rfl (Or.inr rfl) (yL zD))
  (zE (zL (i:=9) bJ.nd rfl (bb rfl) (yL zD))
  (yA (yE (zM pN (yC zH (pv 5) zB (fun _ _=>rfl)) zQ (zS _))
  (zE (zL (i:=10) bJ.nd rfl (bb rfl) (pC KJ hr (zA (pv 4) (zA (yC zH (pv 5) zB (fun _ _=>rfl)) (zA (yC zH (pv 5) zB (fun _ _=>rfl)) zD)))))
  (zE (zL (i:=8) bJ.nd rfl (Or.inr rfl) (pC oN hr (zA (pv 4) (zA (pv 10) (zA (pv 6) zD)))))
  (zE (zL (i:=7) bJ.nd rfl (bb rfl) (pC SJ hr (zA (pv 4) (zA (pv 6) (zA (pv 8) (zA (pv 7) zD))))))
  (zG (zL (i:=9) bJ.nd rfl (bb rfl) (pC qK hr (zA (pv 4) (zA (pv 10) (zA (pC NQ hr (zA (pv 0) (zA (pv 7) (zA (pv 2) zD)))) zD)))))))))
  zU)
  (zE (zL (i:=11) bJ.nd rfl (bb rfl) (yL (zA (zX (zA (zX (zA zQ (zA (pv 2) zD))) (zA (yC zH (pv 5) zB (fun _ _=>rfl)) zD))) zD)))
  (zE (zL (i:=12) bJ.nd rfl (bb rfl) (yD GX (yD GX (yD GX (yL (zA (zX (zA (zX (zA zQ (zA (pv 2) zD))) (zA (zX zD) zD))) zD)) (pC K6 hr (zA (pv 4) (zA (pv 8) zD)))) (pv 11)) (pC sS hr (zA (pv 4) (zA (pv 9) zD)))))
  (zE (zL (i:=13) bJ.nd rfl (bb rfl) (pC wK hr (zA (pv 12) (zA (yC zH (pv 1) zB (fun _ _=>rfl)) (zA (pC sU hr (zA (pv 0) zD)) (zA (pv 3) zD))))))
  (zE (uI (i:=14) (bF:=[(8,"left")]) rfl bJ.nd rfl (bb rfl) (show bA GK ["chart","stand","door","letters","rooms","parts","opening","kept","left","entered","hall","through","steps","told","staying"] _ _ _ from vA) (nQ (pv 6)) (fun _ _ _ _ _ _=>cW (zM (r:=rIn K true) dq (pv 0) (pv 1) rfl)) (fun _ _ _ _ _ _=>(pv 0)))
  (zG (zP (zX (zA (zX (zA (yB zY rfl aj qt (zA (zT qC rfl cH kg (zA (yD GX (pv 14) (pv 9)) zD)) zD)) (zA (yC zH (pv 13) zB (fun _ _=>rfl)) (zA (pv 7) zD)))) (zA (yC zH (pv 13) zB (fun _ _=>rfl)) zD)))))))))))))))),?_⟩
 apply aW;intro _ g_;obtain⟨pb,t,_,_,bv,_,h1,h2,h3,h4,h5,h6,h7⟩:=id hC;obtain⟨po,Oe,pk,kv,e1,e2,e3,e4,e5⟩:=id hS;obtain⟨v,hv,a,gv,Zd,rfl,y1,_,y3⟩:=h7.get hd;apply g_;clear g_;have hat:=yR hv;have od:=ok.door d (SX hd);refine⟨_,rfl,aG (aJ.of h1) rfl ?_⟩;refine⟨_,rfl,aG (aJ.of h1) rfl ⟨_,rfl,aG (aJ.of h6) hat ?_⟩⟩;refine⟨_,rfl,aG (aJ.of e1) rfl ?_⟩;refine⟨_,rfl,aG (aJ.of e1) rfl ?_⟩;refine⟨bo _,fun W qCS=>⟨bo _,fun T qCT=>?_⟩⟩;have u1:=(zF qCS (.lst [])).trans (zF qCT (.lst []));have hl0:(upd (upd H W (.lst [])) T (.lst [])) W=some (.lst (aC [])):=zF qCT _ _ _ zC;have he0:(upd (upd H W (.lst [])) T (.lst [])) T=some (.lst (aC [])):=zC;generalize upd (upd H W (.lst [])) T (.lst [])=H1 at u1 hl0 he0 ⊢;refine⟨fun σ' H'=>∃(L pf pe:ar)(Ho:aw V)(M:aw Nat)(vV:aE V),H pf=none/\H pe=none/\aH H H'/\H' pf=some (.lst (aC (bN c d st.os)))/\H' pe=some (.lst (aC M))/\wI c d (pU c d st.os st.ks) M/\H' L=some (.tup Ho)/\bh H' Ho (pU c d st.os st.ks)/\σ'=[some (.ref pc),some (.ref ps),some (.int (k:Int)),some (.ref p),some (.ref t),some (.ref a),some (.ref po),some (.ref L),some (.ref pf),some (.ref pe),vV,none,none,none,none],?_,?_⟩
 .refine⟨_,rfl,aG (aJ.of (u1 _ _ y1)) rfl ⟨rfl,_,rfl,fO (fun cw=>?_) (fun cw=>?_)⟩⟩
  rotate_left
  .have e:vq d.way=true:=by
    cases hw:d.way with
    | stay=>rfl
    | to g=>rw[hw]at cw;exact eu cw (by show ¬ (!decide (V.str ("to" : Str)=V.str "stay"))=false;decide +kernel)
    | back g=>rw[hw]at cw;exact eu cw (by show ¬ (!decide (V.str ("back" : Str)=V.str "stay"))=false;decide +kernel)
   have el:bN c d st.os=[]:=cS e;have ek:pU c d st.os st.ks=st.ks:=cS e;rw[el,ek];exact⟨pk,W,T,kv,[],_,qCS,(zF qCS _).free qCT,u1,hl0,he0,(show wI c d st.ks [] from (cS e).mpr rfl),u1 _ _ e4,e5.mono (aB.of u1),rfl⟩
  have e:vq d.way=false:=by
   cases hw:d.way with
   | stay=>rw[hw]at cw;exact eu cw (by show ¬ (!decide (V.str ("stay" : Str)=V.str "stay"))=true;decide +kernel)
   | to g=>rfl
   | back g=>rfl
  have hs':¬ vq d.way=true:=by rw[e];decide
  have el:bN c d st.os=Q4.nT (aD c.rs) (rY c d) st.os:=cK hs';have ek:pU c d st.os st.ks=bI c.rs st.os (bN c d st.os) st.ks:=cK hs'
  have egv:d.way.gv = .int ((d.way.gl:Nat):Int):=by
   cases hw:d.way with
   | stay=>rw[hw]at e;cases e
   | to g=>rfl
   | back g=>rfl
  rw[egv]at y1;refine⟨_,rfl,_,rfl,aG (aJ.of (u1 _ _ y1)) rfl ⟨_,rfl,aG (aJ.of (u1 _ _ y1)) rfl ⟨t,c.rs,d.room,d.way.gl,rfl,h4.mono (aB.of u1),ok.good,ok.r40,od.1,od.2.1,fun H2 s2=>?_⟩⟩⟩;have D:=u1.trans s2
  have yr:∀ u,rY c d=some u->u<c.rs.length:=fun u hu=>by
   have:=yr hu;have:=od.1;lia
  refine⟨_,rfl,_,rfl,_,rfl,t,po,c.rs,rY c d,st.os,rfl,h4.mono (aB.of D),ok.good,ok.r40,yr,D _ _ e2,S.lt,S.Oi,S.inc,fun pf H3 s3 npf hpf=>?_⟩;rw[<-el]at hpf;have U:=D.trans s3
  have llt:∀ o∈bN c d st.os,o<c.rs.length:=fun o ho=>by
   rw[el]at ho;have:=List.mem_reverse.mp ho;exact S.lt o (lO.mp this).1
  refine⟨_,rfl,_,rfl,_,rfl,_,rfl,t,po,pf,pk,c.rs,st.os,bN c d st.os,kv,st.ks,rfl,h4.mono (aB.of U),ok.good,ok.r40,U _ _ e2,S.lt,S.Oi,S.inc,hpf,llt,U _ _ e4,e5.mono (aB.of U),S.ks,fun L Ho H4 s4 qG7 qGD=>?_⟩;have Sg:=U.trans s4;refine⟨_,rfl,_,rfl,_,rfl,_,rfl,_,rfl,pc,L,Ho,pU c d st.os st.ks,c,k,d,rfl,hC.mono (aB.of Sg),hd,qG7,(by rw[ek];exact qGD),(by rw[ek,uT,S.ks];exact od.2.1),mp.2.1,fun pg H5 s5 _ hpg=>?_⟩;have Z:=Sg.trans s5;refine⟨t,pg,c.rs,rY c d,km d.way (pU c d st.os st.ks),rfl,h4.mono (aB.of Z),ok.good,ok.r40,yr,⟨hpg,mp.1,mp.2.1⟩,fun pe M H6 s6 npe hpe Y=>?_⟩;exact⟨L,pf,pe,Ho,M,_,D.free npf,Z.free npe,Z.trans s6,s6 _ _ (s5 _ _ (s4 _ _ hpf)),hpe,(cK hs').mpr Y,s6 _ _ (s5 _ _ qG7),(by rw[ek];exact qGD.mono (aB.of (s5.trans s6))),rfl⟩
 rintro σ' H2 bR;apply aW;intro _ g_;obtain⟨L,pf,pe,Ho,M,vV,npf,npe,s2,h2f,h2e,Y,h2k,qLG,rfl⟩:=bR;obtain⟨nd,l40,mlt⟩:=mp.2.2 M Y;apply g_;clear g_
 have lm:M.length<=40:=by
  rw[j8]at l40;lia
 have ll:(bN c d st.os).length<=40:=by
  unfold bN
  split
  .exact bo _
  .exact br (Ul _ _ _) S.Oi
 have llt:∀ o∈bN c d st.os,o<c.rs.length:=fun o ho=>by
  unfold bN at ho
  split at ho
  .cases ho
  have:=List.mem_reverse.mp ho;exact S.lt o (lO.mp this).1
 refine⟨_,rfl,zJ (by show 2<=1000;decide),fun p1 hp1=>?_⟩;have v1:=zF hp1 (.tup [V.str ("through" : Str),V.int (k:Int)]);have i1:upd H2 p1 (.tup [V.str ("through" : Str),V.int (k:Int)]) p1=some (.tup (En.thr k).row):=zC;generalize upd H2 p1 (.tup [V.str ("through" : Str),V.int (k:Int)])=H3 at v1 i1 ⊢;refine⟨_,rfl,aG (aJ.of (v1 _ _ (s2 _ _ y1))) rfl ⟨zJ (by show 2<=1000;decide),fun B hp2=>?_⟩⟩;have v2:=zF hp2 (.tup [V.ref p1,Zd]);have i2:upd H3 B (.tup [V.ref p1,Zd]) B=some (.tup [V.ref p1,Zd]):=zC;generalize upd H3 B (.tup [V.ref p1,Zd])=H4 at v2 i2 ⊢;refine⟨zJ (by show 1<=1000;decide),fun pth qKZ=>?_⟩;have v3:=zF qKZ (.lst [V.ref B]);have i3:upd H4 pth (.lst [V.ref B]) pth=some (.lst [V.ref B]):=zC;generalize upd H4 pth (.lst [V.ref B])=H5 at v3 i3 ⊢;have s5:=s2.trans (v1.trans (v2.trans v3));have at5:Al (sJ H5) [V.ref B] [(En.thr k,d.dd)]:=.cons ⟨B,p1,Zd,rfl,v3 _ _ i2,v3 _ _ (v2 _ _ i1),y3.mono (aB.of s5)⟩ .nil;refine⟨_,rfl,zJ (by show 2<=1000;decide),fun q1 hq1=>?_⟩;have w1:=zF hq1 (.tup [V.str ("door" : Str),V.int (k:Int)]);have j1:upd H5 q1 (.tup [V.str ("door" : Str),V.int (k:Int)]) q1=some (.tup (En.door k).row):=zC;generalize upd H5 q1 (.tup [V.str ("door" : Str),V.int (k:Int)])=H6 at w1 j1 ⊢;refine⟨bo _,fun q2 hq2=>?_⟩;have w2:=zF hq2 (.tup []);have j2:upd H6 q2 (.tup []) q2=some (.tup []):=zC;generalize upd H6 q2 (.tup [])=H7 at w2 j2 ⊢;refine⟨zJ (by show 2<=1000;decide),fun b hq3=>?_⟩;have w3:=zF hq3 (.tup [V.ref q1,V.ref q2]);have j3:upd H7 b (.tup [V.ref q1,V.ref q2]) b=some (.tup [V.ref q1,V.ref q2]):=zC;generalize upd H7 b (.tup [V.ref q1,V.ref q2])=H8 at w3 j3 ⊢;refine⟨zJ (by show 1<=1000;decide),fun q4 hq4=>?_⟩;have w4:=zF hq4 (.lst [V.ref b]);have j4:upd H8 q4 (.lst [V.ref b]) q4=some (.lst [V.ref b]):=zC;generalize upd H8 q4 (.lst [V.ref b])=H9 at w4 j4 ⊢;have w59:=w1.trans (w2.trans (w3.trans w4));have s9:=s5.trans w59;have at9:Al (sJ H9) [V.ref b] [(En.door k,([]:aw Dd))]:=.cons ⟨b,q1,V.ref q2,rfl,w4 _ _ j3,w4 _ _ (w3 _ _ (w2 _ _ j1)),q2,[],rfl,w4 _ _ (w3 _ _ j2),.nil⟩ .nil;have f9:aH H2 H9:=v1.trans (v2.trans (v3.trans w59));refine⟨_,rfl,_,rfl,t,pf,c.rs,c.di,c.dO,bN c d st.os,rfl,h4.mono (aB.of s9),h5.mono (aB.of s9),f9 _ _ h2f,llt,by lia,fun pso G HQ uz _ qL3 hAo=>?_⟩
 have lo:G.length=(bN c d st.os).length:=by
  have:=hAo.length;rw[bT]at this;exact this
 refine⟨q4,pso,_,_,rfl,rfl,uz _ _ j4,qL3,(by rw[sizeLine_eq,lo];show 1+_<=_;lia),fun c1 hc1=>?_⟩;have z1:=zF hc1 (.lst ([V.ref b]++G));have k1:upd HQ c1 (.lst ([V.ref b]++G)) c1=some (.lst ([V.ref b]++G)):=zC;generalize upd HQ c1 (.lst ([V.ref b]++G))=Kd at z1 k1 ⊢;have f11:aH H5 Kd:=w59.trans (uz.trans z1);refine⟨_,rfl,c1,pth,_,_,rfl,rfl,k1,f11 _ _ i3,(by rw[sizeLine_eq,j8,lo];show 1+_+1<=_;lia),fun c2 hc2=>?_⟩;have z2:=zF hc2 (.lst ([V.ref b]++G++[V.ref B]));have k2:upd Kd c2 (.lst ([V.ref b]++G++[V.ref B])) c2=some (.lst ([V.ref b]++G++[V.ref B])):=zC;generalize upd Kd c2 (.lst ([V.ref b]++G++[V.ref B]))=K5 at z2 k2 ⊢;have D:=s9.trans (uz.trans (z1.trans z2));have f12:aH H2 K5:=f9.trans (uz.trans (z1.trans z2));refine⟨_,rfl,_,rfl,t,pe,c.rs,c.di,c.dO,M,rfl,h4.mono (aB.of D),h5.mono (aB.of D),f12 _ _ h2e,mlt,by lia,fun oU Y9 H13 U _ qCR Gs=>?_⟩
 have li:Y9.length=M.length:=by
  have:=Gs.length;rw[bT]at this;exact this
 refine⟨c2,oU,_,_,rfl,rfl,U _ _ k2,qCR,(by rw[sizeLine_eq,j8,j8,lo,li];show 1+_+1+_<=_;lia),fun c3 hc3=>?_⟩;have z3:=zF hc3 (.lst ([V.ref b]++G++[V.ref B]++Y9));have k3:upd H13 c3 (.lst ([V.ref b]++G++[V.ref B]++Y9)) c3=some (.lst ([V.ref b]++G++[V.ref B]++Y9)):=zC;generalize upd H13 c3 (.lst ([V.ref b]++G++[V.ref B]++Y9))=J at z3 k3 ⊢;have Sg:=D.trans (U.trans z3);have f14:aH H2 J:=f12.trans (U.trans z3)
 have qLW:Al (sJ J) ([V.ref b]++G++[V.ref B]++Y9) (jB c k d st.os M):=by
  have a1:Al (sJ J) [V.ref b] [(En.door k,([]:aw Dd))]:=at9.mono fun _ _ z=>z.mono (aB.of (uz.trans (z1.trans (z2.trans (U.trans z3)))));have a2:Al (sJ J) G ((bN c d st.os).map fun r=>(En.out r,c.dO r)):=hAo.mono fun _ _ z=>z.mono (aB.of (z1.trans (z2.trans (U.trans z3))));have a3:Al (sJ J) [V.ref B] [(En.thr k,d.dd)]:=at5.mono fun _ _ z=>z.mono (aB.of (f11.trans (z2.trans (U.trans z3))));have a4:Al (sJ J) Y9 (M.map fun r=>(En.inn r,c.di r)):=Gs.mono fun _ _ z=>z.mono (aB.of z3);exact Al.app (Al.app (Al.app a1 a2) a3) a4
 refine⟨_,rfl,_,rfl,aG (aJ.of (Sg _ _ e1)) rfl ⟨_,rfl,pc,pb,_,_,_,_,_,_,bv,c.sz,rfl,Sg _ _ h1,Sg _ _ h2,h3.mono (fun _ _ z=>z.mono (aB.of Sg)),(by have:=ok.b6;lia),fun tz H15 Z htz=>?_⟩⟩;have QR:=Sg.trans Z;have qGM:=LL.same hL QR
 have nc3:c3∉fp:=fun z=>by
  have e0:=(D.trans U).free hc3;exact LL.new hL e0 z
 have lens:(jB c k d st.os M).length<=110:=by
  unfold jB;rw[j8,j8,j8,bT,bT];show 1+_+1+_<=110;lia
 have oks:∀ s∈jB c k d st.os M,(∀ d∈s.2,d.ok st.bx.length)/\s.2.length<=8:=fun s e=>by
  rw[S.bx];unfold jB at e;rcases jz.mp e with e | e
  .rcases jz.mp e with e | e
   .rcases jz.mp e with e | e
    .rw[jA.mp e];exact⟨(fun d hd=>by cases hd),bo _⟩
    .apply aW;intro _ g_;obtain⟨r,_,rfl⟩:=eX.mp e;apply g_;clear g_;exact ok.outs r
   .rw[jA.mp e];exact od.2.2
  .apply aW;intro _ g_;obtain⟨r,_,rfl⟩:=eX.mp e;apply g_;clear g_;exact ok.ins r
 refine⟨_,rfl,c3,Oe,tz,p,_,_,st.bx,c.sz,st.l,fp,c.lb,rfl,Z _ _ k3,nc3,qLW.mono (fun _ _ z=>z.mono (aB.of Z)),QR _ _ e3,htz,qGM,oks,lens,S.bx,(by rw[S.bx];exact ok.b6),ok.pos,S.l,ok.Ss,fun _ X pr rv fp' I qLP YF htt htb hpr R7 qC8 hes=>?_⟩;have k16:aB H15 I:=bc.keep YF qGM;have stA:bc H I fp fp':=bc.trans (bc.same fp QR) YF;have kA:aB H I:=bc.keep stA hL;have qKA:I pf=some (.lst (aC (bN c d st.os))):=YF.rest _ _ (Z _ _ (f14 _ _ h2f)) (LL.new hL npf);have qKB:I pe=some (.lst (aC M)):=YF.rest _ _ (Z _ _ (f14 _ _ h2e)) (LL.new hL npe);have qK9:I L=some (.tup Ho):=k16 _ _ (Z _ _ (f14 _ _ h2k));have qKU:=qLG.mono (aB.trans (aB.of (f14.trans Z)) k16);refine⟨_,rfl,po,rfl,⟨_,aJ.of (kA _ _ e2)⟩,?_⟩;refine ig (K:=K) (a:=po) (xs:=aC st.os) (fun i acc H'=>H'=I/\acc=aC ((st.os.take i).filter fun o => !inV (.int (o:Int)) (aC (bN c d st.os)))) ⟨rfl,rfl⟩ (fun i acc H' z=>by rw[z.1];exact aJ.of (kA _ _ e2)) ?_ ?_
 .rintro i x acc H' hx ⟨rfl,rfl⟩;obtain⟨hi,rfl⟩:=yS hx;have hk:=fQ hi;generalize st.os[i]=o at hk;refine⟨_,rfl,_,rfl,xR rfl (.inl (aU.of qKA)) ⟨rfl,Eb _,_,rfl,fO (fun z=>?_) (fun z=>?_)⟩⟩
  .refine⟨_,rfl,?_,rfl,?_⟩
   .rw[zV,sizeLine_eq];have:=vD (fun o:Nat => !inV (.int (o:Int)) (aC (bN c d st.os))) (st.os.take i);rw[iQ]at this;have:=S.Oi;lia
   .have z2:(!inV (.int (o:Int)) (aC (bN c d st.os)))=true:=z;rw[iZ hk,cS z2];unfold aC;rw[qz];rfl
  .refine⟨rfl,?_⟩;have z2:(!inV (.int (o:Int)) (aC (bN c d st.os)))=false:=z
   have z':¬ (!inV (.int (o:Int)) (aC (bN c d st.os)))=true:=fun y=>by
    rw[z2]at y
    cases y
   rw[iZ hk,cK z',oY]
 rintro acc H17 ⟨rfl,qIF⟩ kI Jm
 have ea:(st.os.take (aC st.os).length).filter (fun o:Nat => !inV (.int (o:Int)) (aC (bN c d st.os)))=dJ c d st.os:=by
  rw[zV,DX (bD _)];rfl
 rw[ea]at qIF;subst qIF;have u17:=zF Jm (.lst (aC (dJ c d st.os)));have h17:upd H17 kI (.lst (aC (dJ c d st.os))) kI=some (.lst (aC (dJ c d st.os))):=zC;generalize upd H17 kI (.lst (aC (dJ c d st.os)))=H18 at u17 h17 ⊢;rw[j8]at l40;refine⟨_,rfl,_,rfl,kI,pe,_,_,rfl,rfl,h17,u17 _ _ qKB,(by rw[zV,zV,sizeLine_eq];lia),fun Yo qG8=>?_⟩;have u18:=zF qG8 (.lst (aC (dJ c d st.os)++aC M))
 have h18:upd H18 Yo (.lst (aC (dJ c d st.os)++aC M)) Yo=some (.lst ((dJ c d st.os++M).map fun j:Nat=>V.int (j:Int))):=by
  rw[zC];unfold aC;rw[qz]
 generalize upd H18 Yo (.lst (aC (dJ c d st.os)++aC M))=H19 at u18 h18 ⊢;refine⟨Yo,(dJ c d st.os++M).map fun j:Nat=>(j:Int),rfl,.inl (aU.of (by rw[h18,cj])),(by rw[bT,j8];lia),fun psr _ qL2 perm TY=>?_⟩;apply aW;intro _ g_;obtain⟨O,rfl,rise,hpm⟩:=pA perm TY nd;apply g_;clear g_;have u19:=zF qL2 (.lst ((O.map fun j:Nat=>(j:Int)).map V.int));have h19:upd H19 psr (.lst ((O.map fun j:Nat=>(j:Int)).map V.int)) psr=some (.lst ((O.map fun j:Nat=>(j:Int)).map V.int)):=zC;generalize upd H19 psr (.lst ((O.map fun j:Nat=>(j:Int)).map V.int))=H20 at u19 h19 ⊢;refine⟨psr,_,rfl,.inl ⟨aU.of h19,fun JF qCQ=>?_⟩⟩;have u20:=zF qCQ (.tup ((O.map fun j:Nat=>(j:Int)).map V.int))
 have h20:upd H20 JF (.tup ((O.map fun j:Nat=>(j:Int)).map V.int)) JF=some (.tup (aC O)):=by
  rw[zC,<-cj];rfl
 generalize upd H20 JF (.tup ((O.map fun j:Nat=>(j:Int)).map V.int))=H21 at u20 h20 ⊢;have r21:aH H17 H21:=u17.trans (u18.trans (u19.trans u20));refine⟨_,rfl,aG (aJ.of (r21 _ _ htt)) rfl ⟨_,rfl,zJ (by show 3<=1000;decide),fun N qL1=>?_⟩⟩;have u21:=zF qL1 (.tup [V.ref JF,V.ref X,V.ref L]);have h21:upd H21 N (.tup [V.ref JF,V.ref X,V.ref L]) N=some (.tup [V.ref JF,V.ref X,V.ref L]):=zC;generalize upd H21 N (.tup [V.ref JF,V.ref X,V.ref L])=H22 at u21 h21 ⊢;have r22:=r21.trans u21;refine⟨_,rfl,aG (aJ.of (r22 _ _ htt)) rfl ⟨zJ (by show 2<=1000;decide),fun pot qL4=>?_⟩⟩;have u22:=zF qL4 (.tup [V.ref N,V.ref pr]);have R:=r22.trans u22
 have ksl:(pU c d st.os st.ks).length=c.rs.length:=by
  unfold pU
  split
  .exact S.ks
  .rw[uT];exact S.ks
 have les:=zj (sz:=c.sz) (m:=c.lb) (bx:=st.bx) (l:=st.l) fun y hy=>(oks y hy).2;have ko:=hpm.length_eq;rw[j8]at ko;refine q pot N pr rv ⟨O,(cz c.sz c.lb (jB c k d st.os M) st.bx st.l).1,pU c d st.os st.ks,(cz c.sz c.lb (jB c k d st.os M) st.bx st.l).2.1⟩ (cz c.sz c.lb (jB c k d st.os M) st.bx st.l).2.2 fp' _ ⟨d,M,hd,Y,hpm,rise,rfl,rfl⟩ (LL.same qLP R) (bc.trans stA (bc.same fp' R)) zC
  ⟨JF,X,L,Ho,u22 _ _ h21,(u21.trans u22) _ _ h20,R _ _ htb,R _ _ qK9,qKU.mono (aB.of R)⟩ ⟨rise,fun o ho=>?_,by show O.length<=40;lia,by show (cz _ _ _ _ _).1.length=_;rw[zm];exact S.bx,ksl,Fd S.l⟩ (R _ _ hpr) (QR.free R7) qC8 (hes.mono fun _ _ z=>z.mono (aB.of R)) (by lia)
 rcases jz.mp (hpm.mem_iff.mp ho) with z | z
 .exact S.lt o (lO.mp z).1
 .exact mlt o z
end
end Ru
namespace Ru
open PySem L2 jP lN vB Q3 xM dC
open DQ (Al Dg qA5 ph uV jt eG inter)
def Dx.dg(d:Dx):Dg:=⟨(d.room:Int),d.ev,d.g⟩
def Rn(c:mZ)(s:S4)(p:Int):aw Nat:=ph (uV c.od) (aD c.rs) s.os s.bx (c.ds.map Dx.dg) p
theorem WM(o bx:aw Int)(r p:Int):∀ D b k,DQ.fst o bx r p D b=some k->k<b+D.length
 | [],b,k,h=>by cases h
 | d::D,b,k,h=>by
  have h:(if DQ.hit o bx r p d=true then some b else DQ.fst o bx r p D (b+1))=some k:=h;rw[dG]
  split at h
  .have:=kJ h;lia
  .have:=WM o bx r p D (b+1) k h;lia
def qD6(h:k∈Rn c s ev):k<c.ds.length:=by
 unfold Rn ph at h;obtain⟨r,g,rfl⟩:=eX.mp h;have f:=(lO.mp (lO.mp g).1).2;obtain⟨k,H⟩:=jv.mp f;rw[H];show k<_;unfold eG at H
 split at H
 .have:=WM _ _ _ _ _ _ _ H;rw[bT]at this;lia
 .cases H
def Zj(c:mZ)(s:S4)(p:Int):(Rn c s p).length<=s.os.length:=by unfold Rn ph jt;rw[bT];exact br (vD _ _) (vD _ _)
structure JOk(c:mZ)(J:List Nat->List (List Nat)->Prop):Prop where
 may:∀ os ks,J os ks->∀ d∈c.ds,Q0 c d os ks
 pass:∀ k s es s',J s.os s.ks->K4 c k s es s'->J s'.os s'.ks
inductive lK(c:mZ)(s:S4):List Nat->List Nat->List En->S4->Prop where
 | nil:lK c s [] [] [] s
 | skip {ks lf:List Nat} {es:List En} {s1:S4} {k:Nat} {d:Dx}:lK c s ks lf es s1->c.ds[k]? = some d->inV (.int (d.room:Int)) (aC lf)=true->lK c s (ks++[k]) lf es s1
 | go {ks lf:List Nat} {es e1:List En} {s1 s2:S4} {k:Nat} {d:Dx}:lK c s ks lf es s1->c.ds[k]? = some d->inV (.int (d.room:Int)) (aC lf)=false->K4 c k s1 e1 s2->lK c s (ks++[k]) (lf++outs e1) (es++e1) s2
def K3(c:mZ)(p:Int)(s:S4)(e:aw En)(s':S4):Prop:=∃ l a,lK c s (Rn c s p) l a s'/\e = .take p::a
structure All(c:mZ)(J:List Nat->List (List Nat)->Prop)(n:Nat):Prop where
 ok:DP c
 j:JOk c J
 g:∀ d∈c.ds,d.g.ok c.sz.length/\d.g.ht<=n
inductive Ks(C:Addr)(n:Nat)(vs:List V)(H:Hp)(Q:VK)(E_:XK):Prop
 | mk (pc ps p c ev s fp J) (_:vs=[.ref pc,.ref ps,.int ev,.ref p]) (_:jJ H pc c) (_:All c J n) (_:cR H ps s) (_:jG c s) (_:J s.os s.ks) (_:LL C H p fp c.lb s.l) (_:∀ t ps' pr rv s' es fp' H',K3 c ev s es s'->J s'.os s'.ks->LL C H' p fp' c.lb s'.l->bc H H' fp fp'->H' t=some (.tup [.ref ps',.ref pr])->cR H' ps' s'->jG c s'->H' pr=some (.lst rv)->H pr=none->pr∉fp'->Al (iz H') rv es->es.length<=40001->Q (.ref t) H')
theorem dgs(x:Al (Cz H) dv ds):Al (qA5 H) dv (ds.map Dx.dg):=by
 induction x with
 | nil=>exact .nil
 | cons h _ i=>
  obtain⟨a,gv,_,f,q,b,_⟩:=h;exact .cons ⟨a,gv,_,_,_,f,q,b⟩ i
def Yr(e:aw En):(outs e).length<=e.length:=List.length_filterMap_le _ _
def nA:aF ["chart","stand","event","letters","now","record","left","door","told"] ["chart","stand","event","letters"] (aA Fp):=cQ
def Yu(F:bO K "turn" "turn" Fp f fd)
  (Xk:Dp P w K mg base aN m g1 d1 ["chart","stand","event"] (DQ.Im n) "chosen")
  (Xi:Dp P w K mg base aN m g2 d2 ["chart","stand","door","letters"] (IV C) "passed")
  (HW:Dp P w K mg base aN m g3 d3 ["record"] Tf "rooms_left") :
  aL P w K mg base aN (m+1) f fd ["chart","stand","event","letters"] (Ks C n):=by
 refine F.ok nA ?_ ?_
 .rintro _ _ _ _⟨pc,ps,p,c,e,s,fp,J,rfl,_⟩;rfl
 intro _ A _ s H _ Q E hr h
 apply aW;intro _ g_;obtain⟨pc,ps,p,c,e,st,fp,J,rfl,hC,al,hS,so,js,hL,q⟩:=h;apply g_;clear g_
 refine⟨_,(zE (zL (i:=4) nA.nd rfl (bb rfl) (pv 1))
  (zE (zL (i:=5) nA.nd rfl (bb rfl) (yL (zA (zX (zA zQ (zA (pv 2) zD))) zD)))
  (zE (zL (i:=6) nA.nd rfl (bb rfl) (yL zD))
  (yA (bf PassesOwn.never rfl (yN (pC Xk hr (zA (pv 0) (zA (pv 1) (zA (pv 2) zD))))) (yK (i:=7) nA.nd rfl (bb rfl))
  (zG (yE (zM dq (yC zH (yC zH (yC zH (pv 0) zB (fun _ _=>rfl)) (pv 7) (fun _ _=>rfl)) zB (fun _ _=>rfl)) (pv 6) rfl)
  (zE (zL (i:=8) nA.nd rfl (bb rfl) (pC Xi hr (zA (pv 0) (zA (pv 4) (zA (pv 7) (zA (pv 3) zD))))))
  (zE (zL (i:=4) nA.nd rfl (bb rfl) (yC zH (pv 8) zB (fun _ _=>rfl)))
  (zE (yJ (dU iu kz kC cG (pv 5) (zA (yC zH (pv 8) zB (fun _ _=>rfl)) zD)))
  (zG (yJ (dU iu kz kC cG (pv 6) (zA (pC HW hr (zA (yC zH (pv 8) zB (fun _ _=>rfl)) zD)) zD)))))))
  zU)))
  (zG (zP (zX (zA (pv 4) (zA (pv 5) zD))))))))),?_⟩
 refine⟨_,rfl,_,rfl,zJ (by show 2<=1000;decide),fun U hp1=>⟨zJ (by show 1<=1000;decide),fun r Z=>?_⟩⟩;have u1:=zF hp1 (.tup [V.str ("take" : Str),V.int e]);have i1:upd H U (.tup [V.str ("take" : Str),V.int e]) U=some (.tup (En.take e).row):=zC;generalize upd H U (.tup [V.str ("take" : Str),V.int e])=H1 at u1 i1 Z ⊢;have R7:H r=none:=u1.free Z;have u2:=zF Z (.lst [V.ref U]);have i2:upd H1 r (.lst [V.ref U]) r=some (.lst [V.ref U]):=zC;generalize upd H1 r (.lst [V.ref U])=H2 at u2 i2 ⊢;refine⟨bo _,fun pl hpl=>?_⟩;have npl:H pl=none:=(u1.trans u2).free hpl;have qF4:r≠pl:=zN i2 hpl;have u3:=zF hpl (.lst []);have i3:upd H2 pl (.lst []) pl=some (.lst (aC [])):=zC;generalize upd H2 pl (.lst [])=H3 at u3 i3 ⊢;have W:=u1.trans (u2.trans u3);apply aW;intro _ g_;obtain⟨_,t,pd,_,_,dv,h1,_,_,h4,_,h6,h7⟩:=id hC;obtain⟨po,Oe,_,_,e1,e2,e3,_,_⟩:=id hS;apply g_;clear g_;refine⟨fun σ' g => ∃ o b R l j S o7 X,σ'=[some (.ref pc),some (.ref ps),some (.int e),some (.ref p),some (.ref o),some (.ref r),some (.ref pl),o7,X]/\bc H g fp b/\LL C g p b c.lb S.l/\cR g o S/\jG c S/\J S.os S.ks/\lK c st (Rn c st e) l j S/\g r=some (.lst R)/\r∉b/\Al (iz g) R (.take e::j)/\j.length<=40000,?_,?_⟩
 .refine⟨_,rfl,_,rfl,_,rfl,pc,ps,t,pd,po,Oe,c.od,st.os,st.bx,c.rs,c.ds.map Dx.dg,dv,_,_,_,_,_,e,rfl,W _ _ h1,h4.mono (aB.of W),al.ok.good,al.ok.r40,W _ _ h6,dgs (h7.mono fun _ _ z=>z.mono (aB.of W)),W _ _ e1,W _ _ e2,so.lt,so.inc,W _ _ e3,fun d hd=>?_,(by rw[bT];exact al.ok.d63),fun pq _ s4 N hpq=>?_⟩
  .apply aW;intro _ g_;obtain⟨x,hx,rfl⟩:=eX.mp hd;apply g_;clear g_;have:=al.g x hx;rw[so.bx];exact this
  have M:=W.trans s4;have qKI:=LL.new hL (W.free N);have lch:=Zj c st e;have Oi:=so.Oi;refine⟨pq,rfl,⟨_,aU.of hpq⟩,?_⟩;refine pX (fun i σ' g => ∃ o b R l j S o7 X,σ'=[some (.ref pc),some (.ref ps),some (.int e),some (.ref p),some (.ref o),some (.ref r),some (.ref pl),o7,X]/\bc H g fp b/\g pq=some (.lst (aC (Rn c st e)))/\pq∉b/\LL C g p b c.lb S.l/\cR g o S/\jG c S/\J S.os S.ks/\lK c st ((Rn c st e).take i) l j S/\g r=some (.lst R)/\r∉b/\Al (iz g) R (.take e::j)/\j.length<=1000*i/\g pl=some (.lst (aC l))/\pl∉b/\l.length<=1000*i)
   ⟨ps,fp,_,[],[],st,_,_,rfl,bc.same fp M,hpq,qKI,LL.same hL M,hS.mono (aB.of M),so,js,.nil,s4 _ _ (u3 _ _ i2),LL.new hL R7,.cons ⟨U,rfl,s4 _ _ (u3 _ _ (u2 _ _ i1))⟩ .nil,bD _,s4 _ _ i3,LL.new hL npl,bD _⟩ (fun i σ' g _ ⟨_,_,_,_,_,_,_,_,_,_,z,_⟩=>aU.of z) ?_ ?_
  .rintro i x σ' g hx bR;apply aW;intro _ g_;obtain⟨o,b,R,l,j,S,o7,X,rfl,Xo,hqi,nqi,G,O,Hl,ji,DR,Kc,R6,Gs,lei,L,nli,_⟩:=bR;obtain⟨hi,rfl⟩:=yS hx;apply g_;clear g_;have hk:=fQ hi;have hkl:=qD6 (lQ hi)
   have Mr:(Rn c st e).take (i+1)=(Rn c st e).take i++[(Rn c st e)[i]]:=by
    rw[mq,hk];rfl
   generalize (Rn c st e)[i]=k at Mr hkl;have hd:=fQ hkl;have hdm:=lQ hkl;generalize c.ds[k]=d at hd hdm;have kt:=bc.keep Xo hL;apply aW;intro _ g_;obtain⟨v,hv,a,_,_,rfl,y1,_,_⟩:=h7.get hd;apply g_;clear g_;refine⟨_,rfl,aG (aJ.of (kt _ _ h1)) rfl ⟨_,rfl,aG (aJ.of (kt _ _ h6)) (yR hv) (aG (aJ.of (kt _ _ y1)) rfl ⟨_,rfl,xR rfl (.inl (aU.of L)) ⟨rfl,Eb _,_,rfl,fO (fun z=>?_) (fun z=>?_)⟩⟩)⟩⟩
   .have z2:inV (.int (d.room:Int)) (aC l)=false:=by
     have:(!inV (.int (d.room:Int)) (aC l))=true:=z
     simpa using this
    refine⟨_,rfl,_,rfl,_,rfl,_,rfl,pc,o,p,c,k,_,S,b,d,rfl,rfl,hC.mono kt,al.ok,O,Hl,hd,al.j.may _ _ ji d hdm,G,fun tt ps2 Sh D s2 u CW H5 PR hL5 KY I hS5 so5 qG5 M3 _ W4 le2=>?_⟩;have k5:=bc.keep KY G;have B:=bc.apart KY Kc R6;have hl5:=bc.apart KY L nli;have hq5:=bc.apart KY hqi nqi;have qK0:=bc.trans Xo KY
    have qKM:Sh≠r:=fun z=>by rw[z,Kc]at M3;cases M3
    have nell:Sh≠pl:=fun z=>by rw[z,L]at M3;cases M3
    have qKN:pq≠r:=fun z=>by
     have a1:=M r;rw[<-z]at R7;have:=W.free N
     exact eu (s4 _ _ (u3 _ _ i2)) (by
      rw[<-z];intro y;have n3:=N;rw[z,u3 _ _ i2]at n3
      cases n3)
    have qKO:pq≠pl:=fun z=>by
     have n3:=N;rw[z,i3]at n3
     cases n3
    have lA:=Gs.length;have lA2:=W4.length;rw[dG]at lA;refine⟨_,rfl,aG (aJ.of I) rfl ?_⟩;refine⟨_,rfl,.inl ⟨rfl,_,aU.of B.1⟩,_,rfl,aG (aJ.of I) rfl ⟨r,Sh,_,_,rfl,rfl,B.1,qG5,(by rw[sizeLine_eq];lia),?_⟩⟩;have k6:=aB.lst B.1 (.lst (R++D));have st6:bc H (upd H5 r (.lst (R++D))) fp CW:=bc.upd qK0 R7 _;have hL6:=LL.upd hL5 B.2 (.lst (R++D));have r6:upd H5 r (.lst (R++D)) r=some (.lst (R++D)):=zC
    have r6b:upd H5 r (.lst (R++D)) Sh=some (.lst D):=by
     rw[zR qKM];exact qG5
    have T:upd H5 r (.lst (R++D)) pl=some (.lst (aC l)):=by
     rw[zR qF4.symm];exact hl5.1
    have r6q:upd H5 r (.lst (R++D)) pq=some (.lst (aC (Rn c st e))):=by
     rw[zR qKN];exact hq5.1
    generalize upd H5 r (.lst (R++D))=H6 at k6 st6 hL6 r6 r6b T r6q ⊢;refine⟨_,rfl,.inl ⟨rfl,_,aU.of T⟩,_,rfl,aG (aJ.of (k6 _ _ I)) rfl ⟨Sh,D,u,rfl,r6b,W4.mono (fun _ _ z=>z.mono k6),le2,fun po7 _ Y _ qL5=>?_⟩⟩;have lo:=Yr u;refine⟨pl,po7,_,_,rfl,rfl,Y _ _ T,qL5,(by rw[zV,zV,sizeLine_eq];lia),?_⟩;have k8:=aB.lst (Y _ _ T) (.lst (aC l++aC (outs u)));have Jj:=k6.trans ((aB.of Y).trans k8);refine⟨ps2,CW,R++D,l++outs u,j++u,s2,_,_,rfl,bc.upd (bc.trans st6 (bc.same CW Y)) npl _,?_,hq5.2,LL.upd (LL.same hL6 Y) hl5.2 _,hS5.mono Jj,so5,al.j.pass k S u s2 ji PR,?_,?_,B.2,Al.app (Gs.mono fun _ _ z=>z.mono (k5.trans Jj)) (W4.mono fun _ _ z=>z.mono Jj),by rw[j8];lia,?_,hl5.2,by rw[j8];lia⟩
    .rw[zR qKO];exact Y _ _ r6q
    .rw[Mr];exact .go DR hd z2 PR
    .rw[zR qF4];exact Y _ _ r6
    .rw[zC];unfold aC;rw[qz]
   .have z2:inV (.int (d.room:Int)) (aC l)=true:=by
     have:(!inV (.int (d.room:Int)) (aC l))=false:=z
     simpa using this
    refine⟨o,b,R,l,j,S,_,_,rfl,Xo,hqi,nqi,G,O,Hl,ji,?_,Kc,R6,Gs,by lia,L,nli,by lia⟩;rw[Mr];exact .skip DR hd z2
  .rintro σ' g bR;apply aW;intro _ g_;obtain⟨o,b,R,l,j,S,o7,X,z1,z2,_,_,z3,z4,z5,z6,z7,z8,z9,z10,z11,_⟩:=bR;apply g_;clear g_;rw[zV]at z7 z11;rw[ib]at z7;exact⟨o,b,R,l,j,S,o7,X,z1,z2,z3,z4,z5,z6,z7,z8,z9,z10,by lia⟩
 rintro σ' g bR;apply aW;intro _ g_;obtain⟨o,b,R,l,j,S,o7,X,rfl,Xo,G,O,Hl,ji,DR,Kc,R6,Gs,lei⟩:=bR;apply g_;clear g_;refine⟨_,rfl,_,rfl,zJ (by show 2<=1000;decide),fun tt I=>?_⟩;have u9:=zF I (.tup [V.ref o,V.ref r]);exact q tt o r R S _ b _ ⟨l,j,DR,rfl⟩ ji (LL.same G u9) (bc.trans Xo (bc.same b u9)) zC (O.mono (aB.of u9)) Hl (u9 _ _ Kc) R7 R6 (Gs.mono fun _ _ z=>z.mono (aB.of u9)) (by rw[dG];lia)
end Ru
namespace Ru
open PySem L2 jP lN vB Q3 xM dC
open DQ (Al)
structure Jw(c:mZ)(os:List Nat)(ks:List (List Nat)):Prop where
 inc:os.Pairwise (· < ·)
 lt:∀ o∈os,o<c.rs.length
 len:ks.length=c.rs.length
 row:∀ r∈ks,(∀ g∈r,g<c.rs.length)/\r.length<=40
def RP{R:aw Rm}{os:aw Nat}{r g:Nat}(h:g∈mO R os r):g∈os:=by
 unfold mO gK at h
 split at h
 .exact (lO.mp (gX h)).1
 .exact (lO.mp (lO.mp h).1).1
def RQ(R:aw Rm)(os:aw Nat)(r:Nat):(mO R os r).length<=os.length:=by
 unfold mO gK;have:=vD (fun o=>Tr.bL (aD R) o r) os
 split
 .rw[iQ];lia
 .exact br (vD _ _) this
theorem Jg{R:aw Rm}{os:aw Nat}:∀ l s r,r∈bI R os l s->r∈s ∨ ∃ x,r=mO R os x
 | [],s,r,h=>.inl h
 | x::l,s,r,h=>by
  have h:r∈bI R os l (if dB R x=("" : Str) then s else s.set x (mO R os x)):=h;rcases Jg l _ r h with h | h
  .split at h
   .exact .inl h
   .rcases List.mem_or_eq_of_mem_set h with h | h
    .exact .inl h
    .exact .inr ⟨x,h⟩
  .exact .inr h
section
variable{c:mZ}{os:aw Nat}{ks:aw (aw Nat)}
def Jw.qKD(j:Jw c os ks)(ok:DP c):os.length<=40:=br (Tr.pO _ _ (Tr.iC j.inc) j.lt) ok.r40
def Jw.kept(j:Jw c os ks)(ok:DP c)(d:Dx):(pU c d os ks).length=c.rs.length/\∀ r∈pU c d os ks,(∀ g∈r,g<c.rs.length)/\r.length<=40:=by
 unfold pU
 split
 .exact⟨j.len,j.row⟩
 .refine⟨by rw[uT];exact j.len,fun r H=>?_⟩;rcases Jg _ _ r H with h | ⟨x,rfl⟩
  .exact j.row r h
  .exact⟨fun g a=>j.lt g (RP a),br (RQ _ _ _) (j.qKD ok)⟩
theorem WK(w:Wy)(ks:aw (aw Nat))(H:w.gl<n)(k:∀ r∈ks,(∀ g∈r,g<n)/\r.length<=40):(∀ g∈km w ks,g<n)/\(km w ks).length<=100:=by
 cases w with
 | to g=>exact⟨fun x h=>by rw[jA.mp h];exact H,by show 1<=100;decide⟩
 | stay=>exact⟨(fun x h=>by cases h),by show 0<=100;decide⟩
 | back g=>
  show (∀ x∈(if ks.getD g []=[] then [g] else ks.getD g []),x<n)/\(if ks.getD g []=[] then [g] else ks.getD g []).length<=100
  split
  .exact⟨fun x h=>by rw[jA.mp h];exact H,by show 1<=100;decide⟩
  .rename_i z
   by_cases q:g<ks.length
   .have e:ks.getD g []=ks[g]:=by rw[jT,fQ q];rfl
    have:=k _ (lQ q);rw[e];exact⟨this.1,by lia⟩
   .exact eu (by rw[jT,fN (by lia)];rfl) z
def zg(h:k∈dJ c d os):k∈os/\k∉bN c d os:=by unfold dJ at h;obtain⟨f,q⟩:=lO.mp h;rw[Q4.ZJ]at q;exact⟨f,by simpa using q⟩
theorem RW(h:wI c d ks ms)(a:k∈dJ c d os):k∉ms:=by
 intro H;obtain⟨f,q⟩:=zg a;unfold wI at h
 split at h
 .rw[h]at H
  cases H
 .rename_i z
  refine q ?_;unfold bN;rw[cK z];unfold Q4.nT;rw[hU,lO];refine⟨f,?_⟩;have:=((h.2 k).mp H).under
  cases hh:rY c d with
  | none=>rfl
  | some u=>
   rw[hh]at this;exact this
def Vs(h:wI c d ks ms):ms.Pairwise (· < ·):=by
 unfold wI at h
 split at h
 .rw[h];exact .nil
 .exact h.1
def Vt(ok:DP c)(h:wI c d ks ms):∀ k∈ms,k<c.rs.length:=by
 intro k H;unfold wI at h
 split at h
 .rw[h]at H
  cases H
 .have:=((h.2 k).mp H).lt (by have:=ok.good.pos;lia);rw[yW]at this;exact this
def ZF(f:wI c d ks a)(q:wI c d ks b):a=b:=by
 unfold wI at f q
 split at f
 .rename_i z
  rw[cS z]at q;rw[f,q]
 .rename_i z
  rw[cK z]at q;exact f.unique q
def wide(ok:DP c):JOk c (Jw c) where
 may:=fun os _ j d hd=>by
  have J:=j.kept ok d;have g:=WK d.way _ (ok.door d hd).2.1 J.2;refine⟨g.1,g.2,fun f Y=>?_⟩;have M:=Vt ok Y;have S:∀ k∈dJ c d os,k<c.rs.length:=fun k H=>j.lt k (zg H).1;have n:=List.nodup_append.mpr ⟨Tr.iC (j.inc.filter _),Tr.iC (Vs Y),fun a i b l e=>RW Y i (by rw[e];exact l)⟩;refine⟨n,br (Tr.pO _ _ n fun k H=>?_) ok.r40,M⟩;rcases jz.mp H with h | h
  .exact S k h
  .exact M k h
 pass:=fun k s _ _ j ⟨d,f,hd,Y,m,r,E,_⟩=>by
  have J:=j.kept ok d;refine⟨r,fun o q=>?_,by rw[E];exact J.1,by rw[E];exact J.2⟩;rcases jz.mp (m.mem_iff.mp q) with h | h
  .exact j.lt o (zg h).1
  .exact Vt ok Y o h
def Ui(f:K4 c k s e1 s1)(g:K4 c k s e2 s2):e1=e2/\s1=s2:=by
 obtain⟨d,_,hd,m,p,r,b,i⟩:=f;obtain⟨d',_,H,h,P,z,a,q⟩:=g;obtain rfl:d=d':=kJ (hd.symm.trans H);obtain rfl:=ZF m h
 have M:=iU _ _ r z fun k=>by rw[p.mem_iff,P.mem_iff]
 have e:=i.trans q.symm;obtain⟨_,_,_,_⟩:=s1;obtain⟨_,_,_,_⟩:=s2
 cases b
 cases a
 cases M
 cases e
 exact⟨rfl,rfl⟩
theorem Rg{ks L:aw Nat}{j:aw En}{m:S4}(w:lK c s ks L j m):∀ {a l:aw Nat} {E:aw En} {S:S4},lK c s a l E S->ks=a->L=l/\j=E/\m=S:=by
 induction w with
 | nil=>
  intro a l E S q e
  cases q with
  | nil=>exact⟨rfl,rfl,rfl⟩
  | skip h hd g=>exact absurd e.symm (by simp)
  | go h hd g v=>exact absurd e.symm (by simp)
 | @skip ks L j m k d h hd g i=>
  intro a l E S q e
  cases q with
  | nil=>exact absurd e (by simp)
  | @skip b _ _ _ r D h' H o=>
   obtain⟨f,J⟩:=fm e rfl;exact i h' f
  | @go b n p x t W r D h' H o u=>
   obtain⟨f,J⟩:=fm e rfl;obtain⟨rfl,rfl,rfl⟩:=i h' f
   cases J
   obtain rfl:=kJ (hd.symm.trans H);rw[g]at o
   cases o
 | @go ks L j y m t k d h hd g v i=>
  intro a l E S q e
  cases q with
  | nil=>exact absurd e (by simp)
  | @skip b _ _ _ r D h' H o=>
   obtain⟨f,J⟩:=fm e rfl;obtain⟨rfl,rfl,rfl⟩:=i h' f
   cases J
   obtain rfl:=kJ (hd.symm.trans H);rw[g]at o
   cases o
  | @go b n p x t W r D h' H o u=>
   obtain⟨f,J⟩:=fm e rfl;obtain⟨rfl,rfl,rfl⟩:=i h' f
   cases J
   obtain⟨rfl,rfl⟩:=Ui v u;exact⟨rfl,rfl,rfl⟩
def Hu(f:K3 c ev s e1 s1)(q:K3 c ev s e2 s2):e1=e2/\s1=s2:=by obtain⟨_,x,d,rfl⟩:=f;obtain⟨_,_,D,rfl⟩:=q;obtain⟨_,rfl,rfl⟩:=Rg d D rfl;exact⟨rfl,rfl⟩
end
structure RBn(nb:Nat)(H:Hp)(rv:List V)(rs:List Rm)(dis dos:List (List Dd)):Prop where
 inn:lB H rv rs
 l1:dis.length=rs.length
 l2:dos.length=rs.length
 dd:RmD H rs (fun k=>dis.getD k []) (fun k=>dos.getD k [])
 say:∀ k:Nat,((∀ d∈dis.getD k [],d.ok nb)/\(dis.getD k []).length<=8)/\(∀ d∈dos.getD k [],d.ok nb)/\(dos.getD k []).length<=8
end Ru
namespace mj
open PySem L2 jP lN vB xM
def Fb{zs:aw Str}{i:Int}(c:0<=i)(f:i<(zs.length:Int)):∃ z∈zs,mX (zs.map V.str) i=some (.str z):=by obtain⟨v,H,e⟩:=qG (xs:=zs.map V.str) (i:=i) c (by rw[bT];exact f);obtain⟨z,b,rfl⟩:=eX.mp H;exact⟨z,b,e⟩
def jF(H:Hp)(ps:ar)(sz:aw Int):Prop:=H ps=some (.lst (sz.map V.int))/\(∀ z∈sz,0<z)/\sz.length<=6
def Gi{d:aw Int}{k:Nat}(h:k<d.length):mX (d.map V.int) ((k:Nat):Int)=some (.int (d.getD k 0)):=by refine yR ?_;rw[dZ,fQ h,jT,fQ h];rfl
def Xx(d:aw Int):Prop:=∀ k,k<d.length->d.getD k 0<=4
def Xx.snoc(h:Xx ds)(H:v<=4):Xx (ds++[v]):=fun k a=>by
 rw[jT]
 by_cases e:k<ds.length
 .rw[zw3 e,<-jT];exact h k e
 .have:k=ds.length:=by
   rw[j8,vG]at a;lia
  subst this;rw[zw4 (bD _),iS];exact H
end mj
namespace mj
open PySem L2 jP lN vB xM DQ
open Ru (Wy Dx Cz oK)
def gV:aE Int->V
 | none=>.non
 | some j=>.int j
end mj
namespace mj
open PySem L2 jP lN vB xM DQ
open Ru (Wy Dx Cz oK mZ jJ DP RmD)
def int_at{zs:aw Int}{i:Int}(c:0<=i)(f:i<(zs.length:Int)):∃ z∈zs,mX (zs.map V.int) i=some (.int z):=by obtain⟨v,H,e⟩:=qG (xs:=zs.map V.int) (i:=i) c (by rw[bT];exact f);obtain⟨z,b,rfl⟩:=eX.mp H;exact⟨z,b,e⟩
def SQ(H:Hp)(v:V)(z:Int×Int):Prop:=∃ a nm,v = .ref a/\H a=some (.tup [.str nm,.int z.1,.int z.2])
def SQ.mono(x:SQ H v r)(k:aB H H'):SQ H' v r:=by obtain⟨a,nm,e,h⟩:=x;exact⟨a,nm,e,k _ _ h⟩
theorem qAY(x:Al (SQ H) vs bs):Al (Ru.Hk H) vs (bs.map (·.1)):=by
 induction x with
 | nil=>exact .nil
 | cons h _ i=>
  obtain⟨a,_,e,h⟩:=h;exact .cons ⟨a,_,_,e,h⟩ i
def Sy(H:Hp)(p:ar)(c:mZ)(bs:aw (Int×Int))(ne:Nat):Prop:=∃ B i t P b n R Y,H p=some (.tup [.str c.od,.int (c.lb:Int),.int (c.tn:Int),.ref B,.ref i,.ref t,.ref P])/\H B=some (.tup b)/\Al (SQ H) b bs/\H i=some (.tup n)/\n.length=ne/\H t=some (.tup R)/\lB H R c.rs/\RmD H c.rs c.di c.dO/\H P=some (.tup Y)/\Al (Cz H) Y c.ds
def Sy.mono(x:Sy H p c bs ne)(k:aB H H'):Sy H' p c bs ne:=by obtain⟨B,i,t,P,v,n,R,Y,e,q,d,l,u,f,a,b,g,h⟩:=x;exact⟨B,i,t,P,v,n,R,Y,k _ _ e,k _ _ q,d.mono fun _ _ z=>z.mono k,k _ _ l,u,k _ _ f,a.mono k,b.mono k,k _ _ g,h.mono fun _ _ z=>z.mono k⟩
structure uw(c:mZ)(bs:List (Int×Int)):Prop where
 ok:DP c
 sz:c.sz=bs.map (·.1)
 st:∀ b∈bs,0<=b.2/\b.2<b.1
 fit:Fit c.rs
 low:Xx (aD c.rs)
 l10:c.rs.length<=10
 g:∀ d∈c.ds,d.g.ok c.sz.length/\d.g.ht<=3
 l5:c.lb<=5
 t4:1<=c.tn/\c.tn<=5
def Sy.ch(x:Sy H p c bs ne)(o:uw c bs):jJ H p c:=by obtain⟨B,_,t,P,v,_,R,Y,e,q,d,_,_,f,a,b,g,h⟩:=x;exact⟨B,t,P,_,v,Y,e,q,by rw[o.sz];exact qAY d,⟨R,f,a⟩,b,g,h⟩
end mj
namespace Ru
open PySem L2 jP lN vB Q3 xM dC
open DQ (Al)
inductive oV(c:mZ)(ie:List En)(s0:S4):Nat->List En->S4->Prop where
 | one:oV c ie s0 1 ie s0
 | more {n:Nat} {es e2:List En} {s s2:S4} {e:Int} {l:List Int}:oV c ie s0 n es s->n<c.tn->s.l=e::l->K3 c e ⟨s.os,s.bx,s.ks,l⟩ e2 s2->oV c ie s0 (n+1) (es++e2) s2
def BX(l:aw Int):aw En:=l.map fun e=>En.rc (.lost e)
inductive zr(C:Addr)(n:Nat)(vs:List V)(H:Hp)(Q:VK)(E_:XK):Prop
 | mk (pc ps pr p c s es rv fp J) (_:vs=[.ref pc,.ref ps,.ref pr,.ref p]) (_:jJ H pc c) (_:All c J n) (_:cR H ps s) (_:jG c s) (_:J s.os s.ks) (_:LL C H p fp c.lb s.l) (_:H pr=some (.lst rv)) (_:Al (iz H) rv es) (_:es.length<=40001) (_:c.tn<=20) (_:∀ t ps' pw wv n' es' s' fp' H',oV c es s n' es' s'->(c.tn<=n'∨s'.l=[])->J s'.os s'.ks->jG c s'->bc H H' fp fp'->H' t=some (.tup [.ref ps',.ref pw])->cR H' ps' s'->H' pw=some (.lst wv)->H pw=none->pw∉fp'->Al (iz H') wv (es'++BX s'.l)->wv.length<=1000000->Q (.ref t) H')
def cR.tail(x:cR H ps s)(l:aw Int):cR H ps ⟨s.os,s.bx,s.ks,l⟩:=x
def gY:aF ["chart","stand","record","letters","now","whole","turns","told"] ["chart","stand","record","letters"] (aA pG):=cQ
theorem Qj(F:bO K "rested" "rested" pG f fd)(cl:vC K C)
  (mT:Meth K C "taken" gt) (qA2:aL P w K mg base aN m gt dt ["self"] (Ng (LL C))) (Zt:Binds K dt ["self"] [])
  (mW:Meth K C "waiting" gw) (FQ:aL P w K mg base aN m gw dw ["self"] (Di (LL C))) (Ey:Binds K dw ["self"] [])
  (NB:Dp P w K mg base aN m g1 d1 ["chart","stand","event","letters"] (Ks C n) "turn")
  (aP:mg "len" = none) (fB:mg "list" = none):aL P w K mg base aN (m+1) f fd ["chart","stand","record","letters"] (zr C n):=by
 refine F.ok gY ?_ ?_
 .rintro _ _ _ _⟨pc,ps,pr,p,c,s,k,R,fp,J,rfl,_⟩;rfl
 intro _ A _ s H _ Q E hr h
 apply aW;intro _ g_;obtain⟨pc,ps,pr,p,c,st,ie,D,fp,J,rfl,hC,al,hS,so,js,hL,hpr,hA,_,_,q⟩:=h;apply g_;clear g_
 refine⟨_,(zE (zL (i:=4) gY.nd rfl (bb rfl) (pv 1))
  (zE (zL (i:=5) gY.nd rfl (bb rfl) (yB gO rfl fB kf (zA (pv 2) zD)))
  (zE (zL (i:=6) gY.nd rfl (bb rfl) zB)
  (yA (Aw PassesOwn.never (bZ (PW.pt (pw_and (zM mH (pv 6) (yC zH (pv 0) zB (fun _ _=>rfl)) (zS _)) (yQ (zM cY (zT zO rfl aP bj (zA (jg (pv 3) cl mW FQ hr Ey .nil yF) zD)) zB (zS _))))))
  (zE (zL (i:=7) gY.nd rfl (bb rfl) (pC NB hr (zA (pv 0) (zA (pv 4) (zA (jg (pv 3) cl mT qA2 hr Zt .nil yF) (zA (pv 3) zD))))))
  (zE (zL (i:=4) gY.nd rfl (bb rfl) (yC zH (pv 7) zB (fun _ _=>rfl)))
  (zE (yJ (dU iu kz kC cG (pv 5) (zA (yC zH (pv 7) zB (fun _ _=>rfl)) zD)))
  (zG (qBU (i:=6) gY.nd rfl (bb rfl) zB qCP))))))
  (zE (yJ (dU iu kz kC cG (pv 5) (zA (yU (bF:=[]) rfl (show bA (aA pG) ["chart","stand","record","letters","now","whole","turns","told"] _ _ _ from vA) (yN (jg (pv 3) cl mW FQ hr Ey .nil yF)) (fun _ _ _ _ _ _=>bQ) (fun _ _ _ _ _ _=>zX (zA zQ (zA (pv 0) zD)))) zD)))
  (zG (zP (zX (zA (pv 4) (zA (pv 5) zD)))))))))),?_⟩
 have lA:=hA.length;refine⟨_,rfl,_,rfl,xR rfl (.inl (aU.of hpr)) (fun g Ek=>?_)⟩;have u1:=zF Ek (.lst D);have i1:upd H g (.lst D) g=some (.lst D):=zC;generalize upd H g (.lst D)=H1 at u1 i1 ⊢;apply aW;intro _ g_;obtain⟨_,t,_,_,_,_,h1,_,_,_,_,_,_⟩:=id hC;apply g_;clear g_;refine⟨fun σ' u => ∃ N o j R k S o6 U,σ'=[some (.ref pc),some (.ref ps),some (.ref pr),some (.ref p),some (.ref o),some (.ref g),o6,U]/\bc H u fp j/\LL C u p j c.lb S.l/\cR u o S/\jG c S/\J S.os S.ks/\oV c ie st N k S/\(c.tn<=N∨S.l=[])/\u g=some (.lst R)/\g∉j/\Al (iz u) R k/\k.length<=900000,?_,?_⟩
 .refine⟨fun ms σ' u => ∃ N o j R k S U,ms=20-N/\σ'=[some (.ref pc),some (.ref ps),some (.ref pr),some (.ref p),some (.ref o),some (.ref g),some (.int (N:Int)),U]/\bc H u fp j/\LL C u p j c.lb S.l/\cR u o S/\jG c S/\J S.os S.ks/\oV c ie st N k S/\u g=some (.lst R)/\g∉j/\Al (iz u) R k/\k.length<=40001*N/\N<=20,
   ⟨_,1,ps,fp,D,ie,st,_,rfl,rfl,bc.same fp u1,LL.same hL u1,hS.mono (aB.of u1),so,js,.one,i1,LL.new hL Ek,hA.mono fun _ _ z=>z.mono (aB.of u1),by lia,by decide⟩,?_⟩
  rintro ms σ' u M;apply aW;intro _ g_;obtain⟨N,o,j,R,k,S,U,rfl,rfl,Xo,B,X,v,ji,RR,G,nwi,Gs,lei,_⟩:=M;apply g_;clear g_;have kt:=bc.keep Xo hL;refine⟨fun b r=>∃ L:aw ar,bc u r j L/\LL C r p L c.lb S.l/\(b=true->N<c.tn/\S.l≠[])/\(b=false->c.tn<=N∨S.l=[]),?_,?_⟩
  .refine⟨_,rfl,_,rfl,aG (aJ.of (kt _ _ h1)) rfl (eO ⟨_,rfl,fO (fun z=>?_) (fun z=>?_)⟩)⟩
   .have z1:=ba z;apply aW;intro _ g_;obtain⟨dx,fs,ho,n1,n2,n3⟩:=(j6 C).obj B;apply g_;clear g_;refine⟨_,rfl,p,dx,fs,rfl,ho,n3,p,j,c.lb,S.l,rfl,B,v.l,al.ok.Ss,fun qa L r hL' st' nq nqf T=>?_⟩;refine (xR rfl (.inl (aU.of T)) (eO ⟨_,rfl,L,st',hL',fun z2=>⟨by lia,fun z3=>?_⟩,fun z2=>.inr ?_⟩))
    .rw[z3]at z2
     cases z2
    .have z2:=bP z2;rw[bT]at z2;exact fo (by lia)
   .have z1:=bP z;exact⟨j,bc.same j (aH.refl _),B,(fun z=>by cases z),fun _=>.inl (by lia)⟩
  rintro b H2 M;apply aW;intro _ g_;obtain⟨Y,O,y,ht,hf⟩:=M;apply g_;clear g_;have k2:=bc.keep O B;have l:=bc.apart O G nwi;have qEB:=bc.trans Xo O;refine fO (fun z=>?_) (fun z=>?_)
  .apply aW;intro _ g_;obtain⟨lt,ne⟩:=ht z
   obtain⟨e,l',el⟩:∃ e l',S.l=e::l':=by
    cases hl:S.l with
    | nil=>exact eu hl ne
    | cons e l'=>exact⟨e,l',rfl⟩
   apply g_;clear g_;refine⟨fun σ' r=>∃ o j R k S U,σ'=[some (.ref pc),some (.ref ps),some (.ref pr),some (.ref p),some (.ref o),some (.ref g),some (.int ((N+1:Nat):Int)),U]/\bc H r fp j/\LL C r p j c.lb S.l/\cR r o S/\jG c S/\J S.os S.ks/\oV c ie st (N+1) k S/\r g=some (.lst R)/\g∉j/\Al (iz r) R k/\k.length<=40001*(N+1),?_,?_⟩
   .rintro σ' r M;apply aW;intro _ g_;obtain⟨o,j,R,k,S,U,z1,z2,z3,z4,z5,z6,z7,z8,z9,z10,z11⟩:=M;apply g_;clear g_;exact⟨20-(N+1),by lia,N+1,o,j,R,k,S,U,rfl,z1,z2,z3,z4,z5,z6,z7,z8,z9,z10,z11,by lia⟩
   apply aW;intro _ g_;obtain⟨dx,fs,ho,n1,n2,n3⟩:=(j6 C).obj y;apply g_;clear g_;refine⟨_,rfl,_,rfl,_,rfl,p,dx,fs,rfl,ho,n2,p,Y,c.lb,S.l,rfl,y,v.l,al.ok.Ss,fun fp3 H3 hL3 st3=>?_⟩;have k3:=bc.keep st3 y;have hw3:=bc.apart st3 l.1 l.2;have qEA:=bc.trans qEB st3;have k03:=bc.keep qEA hL;rw[el]at hL3 ⊢;have ll:=v.l;rw[el,dG]at ll;refine⟨_,rfl,pc,o,p,c,e,⟨S.os,S.bx,S.ks,l'⟩,fp3,J,rfl,hC.mono k03,al,(X.mono (k2.trans k3)).tail l',⟨v.inc,v.lt,v.Oi,v.bx,v.ks,by show l'.length<=_;lia⟩,ji,hL3,fun tt ps2 Sh Dt s2 es2 fp4 H4 TR j4 hL4 st4 W hS4 so4 hr4 nr4 _ hA4 _=>?_⟩;have k4:=bc.keep st4 hL3;have I:=bc.apart st4 hw3.1 hw3.2;have qK1:=bc.trans qEA st4
   have nerw:Sh≠g:=fun z=>by rw[z,hw3.1]at nr4;cases nr4
   have lAi:=Gs.length;have lA4:=hA4.length;refine⟨_,rfl,aG (aJ.of W) rfl ?_⟩;refine⟨_,rfl,.inl ⟨rfl,_,aU.of I.1⟩,_,rfl,aG (aJ.of W) rfl ⟨g,Sh,_,_,rfl,rfl,I.1,hr4,(by rw[sizeLine_eq];lia),?_⟩⟩;have Z:=aB.lst I.1 (.lst (R++Dt));have Jj:=k2.trans (k3.trans (k4.trans Z));refine⟨_,rfl,eO ⟨ps2,fp4,R++Dt,k++es2,s2,_,rfl,bc.upd qK1 Ek _,LL.upd hL4 I.2 _,hS4.mono Z,so4,j4,.more RR lt el TR,zC,I.2,Al.app (Gs.mono fun _ _ z=>z.mono Jj) (hA4.mono fun _ _ z=>z.mono Z),by rw[j8];lia⟩⟩
  .exact⟨N,o,Y,R,k,S,_,_,rfl,qEB,y,X.mono k2,v,ji,RR,hf z,l.1,l.2,Gs.mono fun _ _ z=>z.mono k2,by lia⟩
 rintro σ' u M;apply aW;intro _ g_;obtain⟨N,o,j,R,k,S,o6,U,rfl,Xo,B,X,v,ji,RR,dn,G,nwi,Gs,lei⟩:=M;obtain⟨dx,fs,ho,n1,n2,n3⟩:=(j6 C).obj B;apply g_;clear g_;refine⟨_,rfl,.inl ⟨rfl,_,aU.of G⟩,_,rfl,p,dx,fs,rfl,ho,n3,p,j,c.lb,S.l,rfl,B,v.l,al.ok.Ss,fun qa Y H2 y O nq nqf T=>?_⟩;have k2:=bc.keep O B;have l:=bc.apart O G nwi
 have newq:qa≠g:=fun z=>by rw[z,G]at nq;cases nq
 have Ss:=al.ok.Ss;have sil:=v.l;refine⟨qa,rfl,⟨_,aU.of T⟩,?_⟩;refine yT (K:=K) (a:=qa) (xs:=S.l.map V.int) (fun i d r=>aH H2 r/\d.length=i/\Al (iz r) d (BX (S.l.take i))) ⟨aH.refl _,rfl,.nil⟩ (fun i d r z=>aU.of (z.1 _ _ T)) ?_ ?_
 .rintro i x d r hx M;apply aW;intro _ g_;obtain⟨s1,la,hB⟩:=M;apply g_;clear g_;rw[dZ]at hx
  cases hk:S.l[i]? with
  | none=>rw[hk]at hx;cases hx
  | some e=>
   rw[hk]at hx;obtain rfl:=kJ hx;have hi:=(oW.mp hk).1;refine⟨_,rfl,zJ (by show 2<=1000;decide),fun p5 Xu=>⟨by rw[sizeLine_eq];lia,s1.trans (zF Xu _),by rw[j8,vG,la],?_⟩⟩;unfold BX at hB ⊢;rw[mq,hk,qz];exact (hB.mono fun _ _ z=>z.mono (aB.of (zF Xu _))).snoc ⟨p5,rfl,zC⟩
 rintro d H3 ⟨s3,la,hB⟩ pz hpz;rw[bT,DX (bD _)]at hB;rw[bT]at la;have u4:=zF hpz (.lst d);have i4:upd H3 pz (.lst d) pz=some (.lst d):=zC;have s4:=s3.trans u4;have w4:=s4 _ _ l.1;generalize upd H3 pz (.lst d)=H4 at u4 i4 s4 w4 ⊢;have lAi:=Gs.length;have nzw:g≠pz:=zN (s3 _ _ l.1) hpz;refine⟨g,pz,_,_,rfl,rfl,w4,i4,(by rw[sizeLine_eq];lia),?_⟩;have Z:=aB.lst w4 (.lst (R++d));have hL5:LL C (upd H4 g (.lst (R++d))) p Y c.lb S.l:=LL.upd (LL.same y s4) l.2 _;have KY:bc H (upd H4 g (.lst (R++d))) fp Y:=bc.upd (bc.trans (bc.trans Xo O) (bc.same Y s4)) Ek _;have r5:upd H4 g (.lst (R++d)) g=some (.lst (R++d)):=zC;generalize upd H4 g (.lst (R++d))=H5 at Z hL5 KY r5 ⊢;refine⟨_,rfl,_,rfl,zJ (by show 2<=1000;decide),fun tt W=>?_⟩;have u6:=zF W (.tup [V.ref o,V.ref g]);have k26:aB H2 (upd H5 tt (.tup [V.ref o,V.ref g])):=(aB.of s4).trans (Z.trans (aB.of u6));exact q tt o g (R++d) N k S Y _ RR dn ji v (bc.trans KY (bc.same Y u6)) zC (X.mono (k2.trans k26)) (u6 _ _ r5) Ek l.2 (Al.app (Gs.mono fun _ _ z=>z.mono (k2.trans k26)) (hB.mono fun _ _ z=>z.mono ((aB.of u4).trans (Z.trans (aB.of u6))))) (by rw[j8];lia)
def made{H h:Hp}{x d:ar}{f:aw ar}(N:H x=none)(n:H d=none)(own:∀ b∈f,b=x∨upd (upd H d (.own x)) x (.ins C d []) b=none)(rest:∀ b o,upd (upd H d (.own x)) x (.ins C d []) b=some o->b≠x->h b=some o):aH H h/\∀ b∈f,H b=none:=by
 refine⟨fun b o e=>?_,fun b c=>?_⟩
 .have a:=zN e N;refine rest b o ?_ a;rw[zR a,zR (zN e n)];exact e
 .rcases own b c with z | z
  .rw[z];exact N
  .by_cases y:b=x
   .rw[y];exact N
   .rw[zR y]at z
    by_cases Y:b=d
    .rw[Y];exact n
    .rw[zR Y]at z;exact z
theorem J0(h:H p=some (.tup [])):∀ k:Nat,bh H (List.replicate k [V.ref p]).flatten (List.replicate k [])
 | 0=>.nil
 | k+1=>.cons ⟨p,rfl,h⟩ (J0 h k)
noncomputable def vI(c:mZ)(bs:aw (Int×Int))(m:aw Nat):S4:=⟨m,(cz c.sz c.lb (m.map fun r=>(En.inn r,c.di r)) (bs.map (·.2)) []).1,List.replicate c.rs.length [],(cz c.sz c.lb (m.map fun r=>(En.inn r,c.di r)) (bs.map (·.2)) []).2.1⟩
def Kr(c:mZ)(bs:aw (Int×Int))(m:aw Nat):aw En:=(cz c.sz c.lb (m.map fun r=>(En.inn r,c.di r)) (bs.map (·.2)) []).2.2
def Xm(c:mZ)(bs:aw (Int×Int))(E:aw En)(s:S4):Prop:=∃ m n e,Tr.Q5 (aD c.rs) (S5 c.rs) [] none m/\oV c (Kr c bs m) (vI c bs m) n e s/\(c.tn<=n∨s.l=[])/\E=e++BX s.l
theorem OD:∀ {n:Nat} {f:aw En} {g:S4},oV c ie s0 n f g->∀ {d:aw En} {S:S4},oV c ie s0 n d S->f=d/\g=S:=by
 intro n f g k
 induction k with
 | one=>
  intro d S H;generalize j:1=m at H
  cases H with
  | one=>exact⟨rfl,rfl⟩
  | @more n _ _ _ _ _ _ h _ _ _=>
   have:n=0:=by lia
   subst this
   exact eu h (by
    intro z;generalize o:(0:Nat)=q at z
    cases z with
    | one=>lia
    | more=>lia)
 | @more n v p s i e l h lt N T I=>
  intro d S H;generalize j:n+1=m at H
  cases H with
  | one=>
   have:n=0:=by lia
   subst this
   exact eu h (by
    intro z;generalize o:(0:Nat)=q at z
    cases z with
    | one=>lia
    | more=>lia)
  | @more r u w s' W x L h' lt' E t=>
   obtain rfl:n=r:=by lia
   obtain⟨rfl,rfl⟩:=I h';rw[N]at E;injection E with a b;subst a;subst b;obtain⟨rfl,rfl⟩:=Hu T t;exact⟨rfl,rfl⟩
theorem O9(h:oV c ie s0 n e1 s1):1<=n:=by
 cases h with
 | one=>exact bD _
 | more=>lia
theorem U8:∀ {n:Nat} {E:aw En} {a:S4},oV c ie s0 n E a->∀ m:Nat,1<=m->m<n->∃ d S,oV c ie s0 m d S/\m<c.tn/\S.l≠[]:=by
 intro n E a f
 induction f with
 | one=>
  intro m T Q;lia
 | @more n b j s g e l h lt N t i=>
  intro m T Q
  by_cases z:m<n
  .exact i m T z
  .have:m=n:=by lia
   subst this;exact⟨b,s,h,lt,by rw[N];simp⟩
def OJ(f:oV c ie s0 n e S)(q:oV c ie s0 m E s)(D:c.tn<=n∨S.l=[])(d:c.tn<=m∨s.l=[]):e=E/\S=s:=by
 have p:=O9 f;have P:=O9 q
 have k:∀ {n m:Nat} {e:aw En} {S:S4} {E:aw En} {s:S4},oV c ie s0 n e S->oV c ie s0 m E s->1<=n->(c.tn<=n∨S.l=[])->¬ n<m:=fun {n m e S E s} f q p D z=>by
  obtain⟨_,_,h,a,b⟩:=U8 q n p z;obtain⟨_,rfl⟩:=OD f h;rcases D with y | y
  .lia
  .exact b y
 have:n=m:=by
  have a:=k f q p D;have b:=k q f P d;lia
 subst this;exact OD f q
def Pq(f:Xm c bs e1 s1)(q:Xm c bs e2 s2):e1=e2/\s1=s2:=by obtain⟨_,n,x,i,r,d,rfl⟩:=f;obtain⟨_,_,_,I,z,D,rfl⟩:=q;obtain rfl:=i.unique I;obtain⟨rfl,rfl⟩:=OJ r z d D;exact⟨rfl,rfl⟩
inductive Fi(n:Nat)(vs:List V)(H:Hp)(Q:VK)(E_:XK):Prop
 | mk (pc c bs ne) (_:vs=[.ref pc]) (_:mj.Sy H pc c bs ne) (_:mj.uw c bs) (_:3<=n) (_:∀ t ps pw wv es s H',Xm c bs es s->Jw c s.os s.ks->jG c s->aH H H'->H' t=some (.tup [.ref ps,.ref pw])->cR H' ps s->H' pw=some (.lst wv)->H pw=none->Al (iz H') wv es->es.length<=1000000->Q (.ref t) H')
def jY:aF ["chart","rooms","letters","entered","starts","told","stand"] ["chart"] (aA tO):=cQ
def VD{f gi g1 g2 g3 g4 g5:ar}{fd di d1 d2 d3 d4 d5:af}(F:bO K "begun" "begun" tO f fd)(Mk':Mk K C gi)
  (qJ:aL P w K mg base aN m gi di ["self","most"] (Kv C (LL C))) (qF:Binds K di ["self","most"] []) (vf:mg "Letters" = some (.ref C))
  (qK:Dp P w K mg base aN (m+1) g1 d1 ["rooms","under","goals"] qBG "goings_in")
  (wK:Dp P w K mg base aN (m+1) g2 d2 ["steps","boxes","sizes","letters"] (vJ C) "stepped")
  (sS:Dp P w K mg base aN (m+1) g3 d3 ["rooms","entered"] (lU En.inn true) "steps_in")
  (sU:Dp P w K mg base aN (m+1) g4 d4 ["chart"] Fe "sizes_of")
  (CK:Dp P w K mg base aN (m+1) g5 d5 ["chart","stand","record","letters"] (zr C n) "rested")
  (aj:mg "tuple" = none) (aP:mg "len" = none):aL P w K mg base aN (m+2) f fd ["chart"] (Fi n):=by
 refine F.ok jY ?_ ?_
 .rintro _ _ _ _⟨pc,c,bs,ne,rfl,_⟩;rfl
 intro _ A _ s H _ Q E L h
 apply aW;intro _ g_;obtain⟨pc,c,bs,ne,rfl,hX,ok,n3,q⟩:=h;apply g_;clear g_
 refine⟨_,(zE (zL (i:=1) jY.nd rfl (bb rfl) (yC zH (pv 0) zB (fun _ _=>rfl)))
  (zE (zL (i:=2) jY.nd rfl (bb rfl) (ym Mk' qJ L rfl vf qF .nil yF (zA (yC zH (pv 0) zB (fun _ _=>rfl)) zD)))
  (zE (zL (i:=3) jY.nd rfl (bb rfl) (pC qK L (zA (pv 1) (zA iw (zA (yL zD) zD)))))
  (zE (zL (i:=4) jY.nd rfl (bb rfl) (yB zY rfl aj qt (zA (yU (bF:=[]) rfl (show bA (aA tO) ["chart","rooms","letters","entered","starts","told","stand"] _ _ _ from vA) (nQ (yC zH (pv 0) zB (fun _ _=>rfl))) (fun _ _ _ _ _ _=>bQ) (fun _ _ _ _ _ _=>(yC (r:=dM K) zH (pv 0) zB (fun _ _=>rfl)))) zD)))
  (zE (zL (i:=5) jY.nd rfl (bb rfl) (pC wK L (zA (pC sS L (zA (pv 1) (zA (pv 3) zD))) (zA (pv 4) (zA (pC sU L (zA (pv 0) zD)) (zA (pv 2) zD))))))
  (zE (zL (i:=6) jY.nd rfl (bb rfl) (zX (zA (yB zY rfl aj qt (zA (pv 3) zD)) (zA (yC zH (pv 5) zB (fun _ _=>rfl)) (zA (pL (yD Ys (zX (zA (zX zD) zD)) (zT zO rfl aP bj (zA (pv 1) zD)))) zD)))))
  (zG (zP (pC CK L (zA (pv 0) (zA (pv 6) (zA (yC zH (pv 5) zB (fun _ _=>rfl)) (zA (pv 2) zD))))))))))))),?_⟩
 apply aW;intro _ g_;obtain⟨pb,_,t,_,bv,_,W,_,h1,h2,h3,_,_,h6,h7,h8,_,_⟩:=id hX;apply g_;clear g_;have hC:=hX.ch ok;have lrv:=h7.length;have lbv:=h3.length;have I:=ok.ok.good;have N:=I.pos;have ld:=yW c.rs;have l10:=ok.l10;have b6:=ok.ok.b6
 have lsz:c.sz.length=bs.length:=by rw[ok.sz,bT]
 refine⟨_,rfl,aG (aJ.of h1) rfl ?_⟩;refine⟨_,rfl,aG (aJ.of h1) rfl (fun x dx nx ndx _=>⟨x,dx,c.lb,rfl,zC,ok.ok.Ss,fun fp H1 R own rest=>⟨rfl,?_⟩⟩)⟩;obtain⟨s1,nfp⟩:=made nx ndx own rest;clear own rest;refine⟨_,rfl,bo _,fun pg hpg=>?_⟩;have u2:=zF hpg (.lst []);have i2:upd H1 pg (.lst []) pg=some (.lst (aC [])):=zC;generalize upd H1 pg (.lst [])=H2 at u2 i2 ⊢;have s2:=s1.trans u2;refine⟨t,pg,c.rs,none,[],rfl,⟨W,s2 _ _ h6,h7.mono (aB.of s2)⟩,I,ok.ok.r40,(fun u hu=>by cases hu),⟨i2,(fun g hg=>by cases hg),by decide⟩,fun pe M H3 u3 npe hpe Y=>?_⟩;have s3:=s2.trans u3
 have S:∀ k∈M,k<c.rs.length:=fun k hk=>by
  have:=Y.lt N k hk;lia
 have ml:M.length<=10:=by
  have:=Y.len N;lia
 refine⟨_,rfl,aG (aJ.of (s3 _ _ h1)) rfl ⟨pb,rfl,⟨_,aJ.of (s3 _ _ h2)⟩,?_⟩⟩;refine ig (K:=K) (a:=pb) (xs:=bv) (fun i G p=>p=H3/\G=((bs.map (·.2)).take i).map V.int) ⟨rfl,rfl⟩ (fun i G p z=>by rw[z.1];exact aJ.of (s3 _ _ h2)) ?_ ?_
 .rintro i y G p hy ⟨rfl,rfl⟩
  have hi:i<bs.length:=by
   have:=(oW.mp hy).1;lia
  have er:=fQ hi;apply aW;intro _ g_;obtain⟨v,hv,a,_,rfl,ha⟩:=h3.get er;apply g_;clear g_;rw[hv]at hy;obtain rfl:=kJ hy;refine⟨_,rfl,aG (aJ.of (s3 _ _ ha)) rfl ⟨zW (by rw[bT,iQ,bT];lia),rfl,?_⟩⟩;rw[mq,dZ,er,qz];rfl
 rintro G p ⟨rfl,rfl⟩ D qL6;rw[show (bs.map (·.2)).take bv.length=bs.map (·.2) from DX (by rw[bT];lia)];have u4:=zF qL6 (.lst ((bs.map (·.2)).map V.int));have i4:upd p D (.lst ((bs.map (·.2)).map V.int)) D=some (.lst ((bs.map (·.2)).map V.int)):=zC;generalize upd p D (.lst ((bs.map (·.2)).map V.int))=H4 at u4 i4 ⊢;refine⟨D,_,rfl,.inl ⟨aU.of i4,fun B qL0=>?_⟩⟩;have u5:=zF qL0 (.tup ((bs.map (·.2)).map V.int));have i5:upd H4 B (.tup ((bs.map (·.2)).map V.int)) B=some (.tup ((bs.map (·.2)).map V.int)):=zC;generalize upd H4 B (.tup ((bs.map (·.2)).map V.int))=H5 at u5 i5 ⊢;have u35:=u4.trans u5;have s5:=s3.trans u35;refine⟨_,rfl,_,rfl,t,pe,c.rs,c.di,c.dO,M,rfl,⟨W,s5 _ _ h6,h7.mono (aB.of s5)⟩,h8.mono (aB.of s5),u35 _ _ hpe,S,by lia,fun oU Y9 H6 u6 qC7 qCR Gs=>?_⟩;have s6:=s5.trans u6;have Gs:Al (sJ H6) Y9 (M.map fun r=>(En.inn r,c.di r)):=Gs;refine⟨_,rfl,_,rfl,pc,pb,_,_,_,_,_,_,bv,c.sz,rfl,s6 _ _ h1,s6 _ _ h2,(by rw[ok.sz];exact mj.qAY (h3.mono fun _ _ z=>z.mono (aB.of s6))),(by lia),fun tz H7 u7 htz=>?_⟩;have s17:aH H1 H7:=u2.trans (u3.trans (u35.trans (u6.trans u7)));have s7:=s1.trans s17;have hL7:=LL.same R s17
 have qKH:oU∉fp:=fun z=>by
  have e0:H oU=none:=s5.free qC7;exact LL.new R ((u2.trans (u3.trans u35)).free qC7) z
 have oks:∀ s∈M.map (fun r=>(En.inn r,c.di r)),(∀ d∈s.2,d.ok (bs.map (·.2)).length)/\s.2.length<=8:=fun s hs=>by
  apply aW;intro _ g_;obtain⟨r,_,rfl⟩:=eX.mp hs;apply g_;clear g_;rw[bT,<-lsz];exact ok.ok.ins r
 refine⟨_,rfl,oU,B,tz,x,_,_,bs.map (·.2),c.sz,[],fp,c.lb,rfl,u7 _ _ qCR,qKH,Gs.mono (fun _ _ z=>z.mono (aB.of u7)),(u6.trans u7) _ _ i5,htz,hL7,oks,(by rw[bT];lia),(by rw[bT];lia),(by rw[bT];lia),ok.ok.pos,bo _,ok.ok.Ss,fun _ X pr rv8 T H8 hL8 U htt htb hpr _ _ hes=>?_⟩
 have Z:∀ {Hx:Hp} {fpx:aw ar},bc H7 Hx fp fpx->aH H Hx:=fun st b o e=>st.rest b o (s7 b o e) fun z=>by
  rw[nfp b z]at e
  cases e
 have s8:=Z U;have pe8:H8 pe=some (.lst (aC M)):=U.rest _ _ ((u35.trans (u6.trans u7)) _ _ hpe) (LL.new R (u2.free npe));refine⟨_,rfl,pe,_,rfl,.inl ⟨aU.of pe8,fun O qCQ=>?_⟩⟩;have u9:=zF qCQ (.tup (aC M));have i9:upd H8 O (.tup (aC M)) O=some (.tup (aC M)):=zC;generalize upd H8 O (.tup (aC M))=H9 at u9 i9 ⊢;refine⟨_,rfl,aG (aJ.of (u9 _ _ htt)) rfl ?_⟩;refine⟨fun v p=>∃ J kv,v = .ref J/\aH H9 p/\p J=some (.tup kv)/\bh p kv (List.replicate c.rs.length []),?_,?_⟩
 .refine⟨bo _,fun j hq1=>⟨zJ (by show 1<=1000;decide),fun q2 hq2=>?_⟩⟩;have w1:=zF hq1 (.tup []);have j1:upd H9 j (.tup []) j=some (.tup []):=zC;generalize upd H9 j (.tup [])=Ha at w1 j1 hq2 ⊢;have w2:=zF hq2 (.tup [V.ref j]);have j2:upd Ha q2 (.tup [V.ref j]) q2=some (.tup [V.ref j]):=zC;generalize upd Ha q2 (.tup [V.ref j])=Hb at w2 j2 ⊢;refine⟨_,rfl,xR rfl (.inr (aJ.of ((s8.trans (u9.trans (w1.trans w2))) _ _ h6))) ⟨q2,_,[V.ref j],rfl,rfl,aJ.of j2,by simp,by lia,?_,fun _=>?_,fun _ p3 hp3=>?_⟩⟩
  .show ((1:Nat):Int)*(W.length:Int)<=_;rw[sizeLine_eq];lia
  .refine⟨q2,_,rfl,w1.trans w2,j2,?_⟩
   have e1:c.rs.length=1:=by lia
   rw[e1];exact .cons ⟨j,rfl,w2 _ _ j1⟩ .nil
  .have w3:=zF hp3 (.tup (List.replicate (W.length:Int).toNat [V.ref j]).flatten);have j3:upd Hb p3 (.tup (List.replicate (W.length:Int).toNat [V.ref j]).flatten) p3=some (.tup (List.replicate (W.length:Int).toNat [V.ref j]).flatten):=zC;generalize upd Hb p3 (.tup (List.replicate (W.length:Int).toNat [V.ref j]).flatten)=Hc at w3 j3 ⊢;refine⟨p3,_,rfl,w1.trans (w2.trans w3),j3,?_⟩;rw[T3,lrv];exact J0 ((w2.trans w3) _ _ j1) _
 rintro _ HQ bR;apply aW;intro _ g_;obtain⟨J,kv,rfl,u10,hpk,hkv⟩:=bR;apply g_;clear g_;refine⟨zJ (by show 3<=1000;decide),fun ps hps=>?_⟩;have u11:=zF hps (.tup [V.ref O,V.ref X,V.ref J]);have i11:upd HQ ps (.tup [V.ref O,V.ref X,V.ref J]) ps=some (.tup [V.ref O,V.ref X,V.ref J]):=zC;generalize upd HQ ps (.tup [V.ref O,V.ref X,V.ref J])=Kd at u11 i11 ⊢;have QB:=u9.trans (u10.trans u11);have qE9:bc H7 Kd fp T:=bc.trans U (bc.same T QB);have kZ:=Z qE9;have hSd:cR Kd ps (vI c bs M):=⟨O,X,J,kv,i11,(u10.trans u11) _ _ i9,QB _ _ htb,u11 _ _ hpk,hkv.mono (aB.of u11)⟩;have les:=zj (sz:=c.sz) (m:=c.lb) (bx:=bs.map (·.2)) (l:=[]) fun y hy=>(oks y hy).2;rw[bT]at les;have sok:jG c (vI c bs M):=⟨Y.1,S,by show M.length<=40;lia,by show (cz _ _ _ _ _).1.length=_;rw[zm,bT,lsz],dA,Fd (bo _)⟩
 have jw:Jw c (vI c bs M).os (vI c bs M).ks:=⟨Y.1,S,dA,fun r L=>by
  rw[List.eq_of_mem_replicate L]
  exact⟨(fun g hg=>by cases hg),by decide⟩⟩
 refine⟨_,rfl,_,rfl,_,rfl,aG (aJ.of (QB _ _ htt)) rfl ⟨_,rfl,pc,ps,pr,x,c,vI c bs M,Kr c bs M,rv8,T,Jw c,rfl,hC.mono (aB.of kZ),⟨ok.ok,wide ok.ok,fun d hd=>⟨(ok.g d hd).1,Nat.le_trans (ok.g d hd).2 n3⟩⟩,hSd,sok,jw,LL.same hL8 QB,QB _ _ hpr,hes.mono (fun _ _ z=>z.mono (aB.of QB)),(by unfold Kr;lia),(by have:=ok.t4;lia),fun tr ps' pw wv n' es' s' _ p RR dn j' so' st' htr hS' Ek Z7 _ hA' lw=>?_⟩⟩;exact q tr ps' pw wv _ s' p ⟨M,n',es',Y,RR,dn,rfl⟩ j' so' (Z (bc.trans qE9 st')) htr hS' Ek (kZ.free Z7) hA' (by rw[<-hA'.length];exact lw)
def qA9(c:mZ)(p:Int)(s:S4)(E:aw En)(s':S4):Prop:=∃ e a S n,K3 c p s e S/\oV c e S n a s'/\(c.tn<=n∨s'.l=[])/\E=a++BX s'.l
def Zz(f:qA9 c ev s e1 s1)(q:qA9 c ev s e2 s2):e1=e2/\s1=s2:=by obtain⟨_,_,_,_,X,Y,z1,rfl⟩:=f;obtain⟨_,_,_,_,x,n,z2,rfl⟩:=q;obtain⟨rfl,rfl⟩:=Hu X x;obtain⟨rfl,rfl⟩:=OJ Y n z1 z2;exact⟨rfl,rfl⟩
inductive Fj(n:Nat)(vs:List V)(H:Hp)(Q:VK)(E_:XK):Prop
 | mk (pc ps c ev s) (_:vs=[.ref pc,.ref ps,.int ev]) (_:jJ H pc c) (_:All c (Jw c) n) (_:cR H ps s) (_:jG c s) (_:Jw c s.os s.ks) (_:s.l=[]) (_:c.tn<=20) (_:∀ t ps' pw wv es' s' H',qA9 c ev s es' s'->Jw c s'.os s'.ks->jG c s'->aH H H'->H' t=some (.tup [.ref ps',.ref pw])->cR H' ps' s'->H' pw=some (.lst wv)->H pw=none->Al (iz H') wv es'->wv.length<=1000000->Q (.ref t) H')
def Ag:aF ["chart","stand","event","letters","told"] ["chart","stand","event"] (aA xq):=cQ
def VG(F:bO K "after" "after" xq f fd)(cl:vC K C)(M:Mk K C gi)
  (qJ:aL P w K mg base aN m gi di ["self","most"] (Kv C (LL C))) (qF:Binds K di ["self","most"] []) (vf:mg "Letters" = some (.ref C))
  (NB:Dp P w K mg base aN (m+1) g1 d1 ["chart","stand","event","letters"] (Ks C n) "turn")
  (CK:Dp P w K mg base aN (m+1) g2 d2 ["chart","stand","record","letters"] (zr C n) "rested") :
  aL P w K mg base aN (m+2) f fd ["chart","stand","event"] (Fj n):=by
 refine F.ok Ag ?_ ?_
 .rintro _ _ _ _⟨T,ps,c,ev,s,rfl,_⟩;rfl
 intro _ A _ s H _ Q E J h
 apply aW;intro _ g_;obtain⟨T,ps,c,ev,st,rfl,a,R,hS,so,js,l0,L,q⟩:=h;apply g_;clear g_
 refine⟨_,(zE (zL (i:=3) Ag.nd rfl (bb rfl) (ym M qJ J rfl vf qF .nil yF (zA (yC zH (pv 0) zB (fun _ _=>rfl)) zD)))
  (zE (zL (i:=4) Ag.nd rfl (bb rfl) (pC NB J (zA (pv 0) (zA (pv 1) (zA (pv 2) (zA (pv 3) zD))))))
  (zG (zP (pC CK J (zA (pv 0) (zA (yC zH (pv 4) zB (fun _ _=>rfl)) (zA (yC zH (pv 4) zB (fun _ _=>rfl)) (zA (pv 3) zD))))))))),?_⟩
 apply aW;intro _ g_;obtain⟨_,t,_,_,_,_,h1,_,_,_,_,_,_⟩:=id a;apply g_;clear g_;refine⟨_,rfl,aG (aJ.of h1) rfl (fun x dx nx N _=>?_)⟩;refine⟨x,dx,c.lb,rfl,zC,R.ok.Ss,fun fp H1 r own rest=>⟨rfl,?_⟩⟩;obtain⟨S,p⟩:=made nx N own rest
 have Z:∀ {H':Hp} {U:aw ar},bc H1 H' fp U->aH H H':=fun st b o e=>st.rest b o (S b o e) fun z=>by
  rw[p b z]at e
  cases e
 refine⟨_,rfl,_,rfl,_,rfl,_,rfl,T,ps,x,c,ev,st,fp,Jw c,rfl,a.mono (aB.of S),R,hS.mono (aB.of S),so,js,(by rw[l0];exact r),fun _ k pr rv s2 es CW _ TR j2 y O I g l Y _ _ W4 X=>?_⟩;have k2:=bc.keep O r;refine⟨_,rfl,_,rfl,aG (aJ.of I) rfl ⟨_,rfl,aG (aJ.of I) rfl ⟨_,rfl,T,k,pr,x,c,s2,es,rv,CW,Jw c,rfl,a.mono ((aB.of S).trans k2),R,g,l,j2,y,Y,W4,X,L,fun t3 d pw wv n' B s' _ H3 RR dn j3 v j ht3 D hw3 u _ W lw=>?_⟩⟩⟩;have G:=bc.trans O j;exact q t3 d pw wv _ s' H3 ⟨es,B,s2,n',TR,RR,dn,rfl⟩ j3 v (Z G) ht3 D hw3 ((Z O).free u) W lw
end Ru
namespace CJ
open PySem L2 jP lN Wds
noncomputable def stem:Nat->Str
 | 0 => ""
 | 1 => "hall"
 | 2 => "quiet"
 | _ => "aaaaaaaaaaa"
def nm(a t c:Nat):Str:=Txt.slice (stem a) none (some (t:Int))++⟨#[97+c]⟩++Txt.slice (stem a) (some (t:Int)) none
noncomputable def fL(k n:Int):Str:=nm (n%4).toNat (n/4%(((stem (n%4).toNat).length:Int)+1)).toNat (k%26).toNat
def qCA:((List.range 4).all fun a=>(List.range 12).all fun t=>decide ((stem a).length<t)||(List.range 26).all fun c=>isW (nm a t c))=true:=by decide +kernel
def qF2:((List.range 4).all fun a=>(List.range 12).all fun t=>decide ((stem a).length<t)||(List.range 26).all fun c=>(nm a t c).cps.toList[t]?==some (97+c))=true:=by decide +kernel
def qCB(a:Nat)(f:a<4)(t:Nat)(ht:t<12)(H:t<=(stem a).length)(c:Nat)(d:c<26):isW (nm a t c)=true:=by have h:=fg.mp (fg.mp qCA a (hJ.mpr f)) t (hJ.mpr ht);rw[bp (by omega),eM]at h;exact fg.mp h c (hJ.mpr d)
def qC9(a:Nat)(b:a<4)(t:Nat)(ht:t<12)(l:t<=(stem a).length)(c:Nat)(H:c<26)(d:Nat)(hd:d<26)(e:nm a t c=nm a t d):c=d:=by
 have h:=fg.mp (fg.mp qF2 a (hJ.mpr b)) t (hJ.mpr ht);rw[bp (by omega),eM]at h;have f:=fg.mp h c (hJ.mpr H);have q:=fg.mp h d (hJ.mpr hd);rw[e]at f;have:=(eq_of_beq f).symm.trans (eq_of_beq q)
 simpa using this
def Nf:∀ a,a<4->(stem a).length<=11:=by decide +kernel
def parts(n:Int):(n%4).toNat<4/\(n/4%(((stem (n%4).toNat).length:Int)+1)).toNat<12/\(n/4%(((stem (n%4).toNat).length:Int)+1)).toNat<=(stem (n%4).toNat).length:=by have h:=Nf (n%4).toNat (by omega);have f:=j7 (n/4) (show ((stem (n%4).toNat).length:Int)+1≠0 by omega);have q:=jR (n/4) (show (0:Int)<((stem (n%4).toNat).length:Int)+1 by omega);exact⟨by omega,by omega,by omega⟩
def mJ(k n:Int):isW (fL k n)=true:=by obtain⟨f,q,b⟩:=parts n;exact qCB _ f _ q b _ (by omega)
def VV(h:fL k n=fL k' n):k%26=k'%26:=by obtain⟨f,q,b⟩:=parts n;have:=qC9 _ f _ q b (k%26).toNat (by omega) (k'%26).toNat (by omega) h;omega
def xm:Sp:=fun vs H Q _ => ∃ k n:Int,vs=[.int k,.int n]/\∀ h,aH H h->Q (.str (fL k n)) h
def YD(n:Int):mX ([("" : Str),"hall","quiet","aaaaaaaaaaa"].map V.str) (n%4)=some (.str (stem (n%4).toNat)):=by
 have c:n%4=0∨n%4=1∨n%4=2∨n%4=3:=by omega
 rcases c with h | h | h | h <;> rw[h] <;> rfl
def XN(k:Int):mX ("abcdefghijklmnopqrstuvwxyz" : Str).cps.toList (k%26)=some (97+(k%26).toNat):=by
 have chk:((List.range 26).all fun c=>("abcdefghijklmnopqrstuvwxyz" : Str).cps.toList[c]?==some (97+c))=true:=by decide +kernel
 have h:=fg.mp chk (k%26).toNat (hJ.mpr (by omega))
 have e:(((k%26).toNat:Nat):Int)=k%26:=by omega
 have:=yR (beq_iff_eq.mp h);rw[e]at this;exact this
def pB:aF ["_law_k","_law_number","_law_rest","_law_at"] ["_law_k","_law_number"] (aA tQ):=cQ
def Ux(F:bO K "_law_name" "_law_name" tQ f fd)(o:mg "len" = none):aL P w K mg base aN 1 f fd ["_law_k","_law_number"] xm:=by
 refine F.ok pB ?_ ?_
 .rintro _ _ _ _⟨k,n,rfl,_⟩;rfl
 intro _ A _ s H _ Q E _ h
 obtain⟨k,n,rfl,q⟩:=h
 refine⟨_,(zE (zL (i:=2) pB.nd rfl (bb rfl) (yC yV (yL (zA zQ (zA zQ (zA zQ (zA zQ zD))))) (yD zZ (pv 1) zB) (fun _ _=>rfl)))
  (zE (zL (i:=3) pB.nd rfl (bb rfl) (pL (yD zZ (yD yM (pv 1) zB) (yD yG (zT ue rfl o bj (zA (pv 2) zD)) zB))))
  (zG (zP (yD BP (yD BP (dN Tt (pv 2) gA (fu (pv 3))) (yC Vq zQ (yD zZ (pv 0) zB) (fun _ _=>rfl))) (dN Tt (pv 2) (fu (pv 3)) gA)))))),?_⟩
 obtain⟨u,I,t⟩:=parts n;have L:(stem (n%4).toNat).length<=11:=Nf _ u;have g:=YD n;have l:fL k n=nm (n%4).toNat (n/4%(((stem (n%4).toNat).length:Int)+1)).toNat (k%26).toNat:=rfl;generalize d:stem (n%4).toNat=z at L g I t l;have a:z.length<=sizeLine:=zJ (by omega);have S:∀(lo j:aE Int),(Txt.slice z lo j).length<=11:=fun lo j=>br (Txt.slice_le z lo j) L;refine⟨zJ (by show 4<=1000;decide),fun p G=>⟨_,rfl,_,_,rfl,rfl,(by show (0:Int)<4;decide),p,_,_,_,rfl,rfl,aU.of zC,g,?_⟩⟩;have C:=zF G (.lst [V.str "",V.str "hall",V.str "quiet",V.str "aaaaaaaaaaa"]);refine⟨fun v J=>aH H J/\v = .int (n/4%((z.length:Int)+1)),?_,?_⟩
 .exact⟨_,rfl,_,_,rfl,rfl,⟨by decide,by decide⟩,_,rfl,z,rfl,a,_,_,rfl,rfl,_,_,rfl,rfl,(by show (0:Int)<(z.length:Int)+1;omega),C,rfl⟩
 rintro _ D ⟨r,rfl⟩;have B:=XN k
 have m:∀ x y:Str,(x++y).length=x.length+y.length:=fun x y=>by
  show (x.cps++y.cps).size=_;rw[Array.size_append];rfl
 have lo:∀ c:Nat,(⟨#[c]⟩:Str).length=1:=fun c=>rfl;have M:=S none (some (n/4%((z.length:Int)+1)));have N:=S (some (n/4%((z.length:Int)+1))) none;refine⟨_,rfl,_,rfl,_,rfl,z,rfl,a,_,rfl,_,_,rfl,rfl,(by show (0:Int)<26;decide),_,_,_,rfl,rfl,zJ (by decide +kernel),B,_,_,rfl,rfl,zJ (by rw[lo];omega),_,rfl,_,rfl,_,rfl,z,rfl,a,_,_,rfl,rfl,zJ (by rw[m,lo];omega),?_⟩;have b:=q D r;have Z:=j7 (n/4) (show (z.length:Int)+1≠0 by omega)
 have e:fL k n=Txt.slice z none (some (n/4%((z.length:Int)+1)))++⟨#[97+(k%26).toNat]⟩++Txt.slice z (some (n/4%((z.length:Int)+1))) none:=by
  rw[l];unfold nm;rw[d,fe Z]
 rw[e]at b;exact b
end CJ
namespace CJ
open PySem L2 jP lN vB xM Wds
def jF(H:Hp)(ps:ar)(sz:aw Int):Prop:=H ps=some (.lst (sz.map V.int))/\(∀ z∈sz,0<z)/\sz.length<=6
def jF.mono(h:jF H ps sz)(s:aH H H'):jF H' ps sz:=⟨s _ _ h.1,h.2⟩
def qI(sz:aw Int)(e:Int):Dd->Prop
 | .say w=>isW w=true
 | .send x=>0<=x/\x<e
 | .set b n=>(0<=b/\b<(sz.length:Int))/\0<=n/\n<sz.getD b.toNat 0
 | .add b n=>(0<=b/\b<(sz.length:Int)) /\ -(10 ^ 30)<=n/\n<=10 ^ 30
def Nu:Sp:=fun vs H Q _ => ∃(n e:Int)(ps:ar)(sz:aw Int),vs=[.int n,.ref ps,.int e]/\0<=n/\n<2147483648/\jF H ps sz/\∀(v:V)(d:Dd)(h:Hp),aH H h->sO h v d->qI sz e d->Q v h
def Vu:isW ("hum" : Str)=true:=by decide +kernel
def QJ(r:Int) : -(10 ^ 30)<=r%9-4/\r%9-4<=10 ^ 30:=by have:=j7 r (show (9:Int)≠0 by decide);have:=jR r (show (0:Int)<9 by decide);omega
def Zo(c:0<=r)(f:r<2147483648) : -(10 ^ 30)<=(r*10 ^ (20:Int).toNat+r)*(1-2*(s%2))/\(r*10 ^ (20:Int).toNat+r)*(1-2*(s%2))<=10 ^ 30:=by
 have e:(10:Int) ^ (20:Int).toNat=100000000000000000000:=by decide
 rw[e]
 have h:s%2=0∨s%2=1:=by omega
 rcases h with h | h <;> rw[h] <;> omega
theorem ZR{sz:aw Int}{i z:Int}(c:0<=i)(h:mX (sz.map V.int) i=some (.int z)):sz.getD i.toNat 0=z:=by
 unfold mX Su at h;rw[cS c]at h
 split at h
 .have h:(sz.map V.int)[i.toNat]? = some (.int z):=h;rw[dZ]at h;rw[jT]
  cases e:sz[i.toNat]? with
  | none=>
   rw[e]at h
   cases h
  | some y=>
   rw[e]at h;have h:V.int y=V.int z:=kJ h;injection h
 .cases h
def kO:aF ["_law_number","_law_sizes","_law_events","_law_way","_law_rest","_law_b"] ["_law_number","_law_sizes","_law_events"] (aA tR):=cQ
def V6{f Y:ar}{M T:af}(F:bO K "_law_deed" "_law_deed" tR f M)(N:Dp P w K mg base aN 1 Y T ["_law_k","_law_number"] xm "_law_name")
  (d:mg "len" = none):aL P w K mg base aN 2 f M ["_law_number","_law_sizes","_law_events"] Nu:=by
 refine F.ok kO ?_ ?_
 .rintro _ _ _ _⟨n,e,ps,sz,rfl,_⟩;rfl
 intro _ A _ s H _ Q E X h
 obtain⟨n,e,ps,sz,rfl,_,_,hsz,q⟩:=h
 refine⟨_,(zE (zL (i:=3) kO.nd rfl (bb rfl) (yC yV (yL (zA zB (zA zB (zA zB (zA zB (zA zB zD)))))) (yD zZ (pv 0) zB) (fun _ _=>rfl)))
  (zE (zL (i:=4) kO.nd rfl (bb rfl) (yD yM (pv 0) zB))
  (zE (yE (bZ (PW.pt (pw_and (zM yH (pv 3) zB (zS _)) (yQ (zM cY (pv 2) zB (zS _))))))
  (zG (zP (zX (zA zQ (zA (yD zZ (pv 4) (pv 2)) zD)))))
  zU)
  (zE (yE (bZ (PW.pt (pw_and (zM yH (pv 3) zB (zS _)) (yQ (zM cY (zT zO rfl d bj (zA (pv 1) zD)) zB (zS _))))))
  (zE (zL (i:=5) kO.nd rfl (bb rfl) (yD zZ (pv 4) (zT zO rfl d bj (zA (pv 1) zD))))
  (zG (zP (zX (zA zQ (zA (pv 5) (zA (yD zZ (yD yM (pv 4) zB) (yC yV (pv 1) (pv 5) (fun _ _=>rfl))) zD)))))))
  zU)
  (zE (yE (bZ (PW.pt (pw_and (zM yH (pv 3) zB (zS _)) (pw_and (zM cY (zT zO rfl d bj (zA (pv 1) zD)) zB (zS _)) (yQ (zM yH (yD zZ (yD yM (pv 4) zB) zB) zB (zS _)))))))
  (zG (zP (zX (zA zQ (zA (yD zZ (pv 4) (zT zO rfl d bj (zA (pv 1) zD))) (zA (yD iB (yD yG (yD iB (pv 4) (yD GP zB zB)) (pv 4)) (yD lF zB (yD iB zB (yD zZ (yD yM (pv 4) zB) zB)))) zD))))))
  zU)
  (zE (yE (bZ (PW.pt (pw_and (zM yH (pv 3) zB (zS _)) (yQ (zM cY (zT zO rfl d bj (zA (pv 1) zD)) zB (zS _))))))
  (zG (zP (zX (zA zQ (zA (yD zZ (pv 4) (zT zO rfl d bj (zA (pv 1) zD))) (zA (yD lF (yD zZ (yD yM (pv 4) zB) zB) zB) zD))))))
  zU)
  (zE (yE (zM yH (yD zZ (pv 4) zB) zB (zS _))
  (zG (zP (zX (zA zQ (zA zQ zD)))))
  zU)
  (zG (zP (zX (zA zQ (zA (pC N X (zA (yD zZ (yD yM (pv 4) zB) zB) (zA (yD yM (pv 4) zB) zD))) zD)))))))))))),?_⟩
 obtain⟨v,t⟩:=Zw (ns:=[0,1,1,2,3]) (i:=n%5) (by omega) (by show _<(5:Int);omega);have l:(sz.map V.int).length=sz.length:=bT _;refine⟨zJ (by show 5<=1000;decide),fun L r=>⟨_,rfl,_,_,rfl,rfl,(by show (0:Int)<5;decide),L,_,_,_,rfl,rfl,aU.of zC,t,?_⟩⟩;have S:=zF r (.lst [V.int 0,V.int 1,V.int 1,V.int 2,V.int 3]);have m:=hsz.mono S;generalize upd H L (.lst [V.int 0,V.int 1,V.int 1,V.int 2,V.int 3])=W at S m ⊢;refine⟨_,rfl,_,_,rfl,rfl,⟨by decide,by decide⟩,?_⟩
 have R:0<=n/5:=by omega
 have O:n/5<2147483648:=by omega
 refine⟨fun c C=>C=W/\(c=true->0<e),?_,?_⟩
 .refine⟨_,rfl,rfl,_,rfl,?_⟩;refine fO (fun c=>?_) (fun c=>⟨rfl,fun z=>(by cases z)⟩);exact⟨_,rfl,_,_,rfl,rfl,_,rfl,rfl,fun z=>ba z⟩
 rintro _ C ⟨rfl,y⟩;refine fO (fun c=>?_) (fun c=>?_)
 .have g:=y c;exact⟨_,rfl,_,rfl,_,_,rfl,rfl,(by show (0:Int)<e;exact g),zJ (by show 2<=1000;decide),fun p a=>q _ (.send _) _ (S.trans (zF a _)) (.send zC) ⟨j7 _ (by omega),jR _ g⟩⟩
 refine⟨fun c u=>u=C/\(c=true->0<sz.length),?_,?_⟩
 .exact⟨_,rfl,rfl,_,rfl,fO (fun c=>⟨_,rfl,ps,_,rfl,.inl (aU.of m.1),_,_,rfl,rfl,_,rfl,rfl,fun z=>(by have:=ba z;rw[l]at this;omega)⟩) (fun c=>⟨rfl,fun z=>(by cases z)⟩)⟩
 rintro _ u ⟨rfl,j⟩;refine fO (fun c=>?_) (fun c=>?_)
 .have g:=j c;have D:=j7 (n/5) (show (((sz.map V.int).length:Nat):Int)≠0 by omega);have J:=jR (n/5) (show (0:Int)<(((sz.map V.int).length:Nat):Int) by omega);obtain⟨_,k,I⟩:=qG (xs:=sz.map V.int) (i:=n/5%(((sz.map V.int).length:Nat):Int)) D J;obtain⟨z,b,rfl⟩:=eX.mp k;refine⟨_,rfl,_,rfl,ps,_,rfl,.inl (aU.of m.1),_,_,rfl,rfl,(by show (0:Int)<(((sz.map V.int).length:Nat):Int);omega),?_⟩;exact⟨_,rfl,_,rfl,_,_,rfl,rfl,⟨by decide,by decide⟩,_,rfl,_,rfl,ps,_,_,_,rfl,rfl,aU.of m.1,I,_,_,rfl,rfl,(by show (0:Int)<z;exact m.2.1 z b),zJ (by show 3<=1000;decide),fun p a=>q _ (.set _ _) _ (S.trans (zF a _)) (.set zC) ⟨⟨D,by rw[<-l];exact J⟩,j7 _ (by have:=m.2.1 z b;omega),by rw[ZR D I];exact jR _ (m.2.1 z b)⟩⟩
 refine⟨fun c o=>o=u/\(c=true->0<sz.length),?_,?_⟩
 .refine⟨_,rfl,rfl,_,rfl,fO (fun c=>?_) (fun c=>⟨rfl,fun z=>(by cases z)⟩)⟩;refine⟨_,rfl,ps,_,rfl,.inl (aU.of m.1),_,_,rfl,rfl,_,rfl,fO (fun c=>?_) (fun c=>⟨rfl,fun z=>(by cases z)⟩)⟩
  .have:=ba c;rw[l]at this;exact⟨_,rfl,_,_,rfl,rfl,⟨by decide,by decide⟩,_,_,rfl,rfl,(by show (0:Int)<5;decide),rfl,_,rfl,rfl,fun _=>by omega⟩
 rintro _ o ⟨rfl,B⟩;refine fO (fun c=>?_) (fun c=>?_)
 .have g:=B c;exact⟨_,rfl,_,rfl,ps,_,rfl,.inl (aU.of m.1),_,_,rfl,rfl,(by show (0:Int)<(((sz.map V.int).length:Nat):Int);omega),_,rfl,_,_,rfl,rfl,⟨by decide,by decide,by decide⟩,_,_,rfl,rfl,.inl ⟨by omega,by omega⟩,_,rfl,_,_,rfl,rfl,_,rfl,_,_,rfl,rfl,⟨by decide,by decide⟩,_,_,rfl,rfl,(by show (0:Int)<2;decide),_,_,rfl,rfl,.inl ⟨by decide,by decide⟩,_,_,rfl,rfl,_,_,rfl,rfl,.inr ⟨by omega,by omega⟩,zJ (by show 3<=1000;decide),fun p a=>q _ (.add _ _) _ (S.trans (zF a _)) (.add zC) ⟨⟨j7 _ (by omega),by rw[<-l];exact jR _ (by omega)⟩,Zo R O⟩⟩
 refine⟨fun c G=>G=o/\(c=true->0<sz.length),?_,?_⟩
 .exact⟨_,rfl,rfl,_,rfl,fO (fun c=>⟨_,rfl,ps,_,rfl,.inl (aU.of m.1),_,_,rfl,rfl,_,rfl,rfl,fun z=>(by have:=ba z;rw[l]at this;omega)⟩) (fun c=>⟨rfl,fun z=>(by cases z)⟩)⟩
 rintro _ G ⟨rfl,x⟩;refine fO (fun c=>?_) (fun c=>?_)
 .have g:=x c;exact⟨_,rfl,_,rfl,ps,_,rfl,.inl (aU.of m.1),_,_,rfl,rfl,(by show (0:Int)<(((sz.map V.int).length:Nat):Int);omega),_,rfl,_,_,rfl,rfl,⟨by decide,by decide⟩,_,_,rfl,rfl,(by show (0:Int)<9;decide),_,_,rfl,rfl,zJ (by show 3<=1000;decide),fun p a=>q _ (.add _ _) _ (S.trans (zF a _)) (.add zC) ⟨⟨j7 _ (by omega),by rw[<-l];exact jR _ (by omega)⟩,QJ _⟩⟩
 refine⟨_,rfl,_,_,rfl,rfl,(by show (0:Int)<2;decide),rfl,_,rfl,fO (fun c=>?_) (fun c=>?_)⟩
 .exact⟨zJ (by show 2<=1000;decide),fun p a=>q _ (.say _) _ (S.trans (zF a _)) (.say zC) Vu⟩
 .exact⟨_,rfl,_,_,rfl,rfl,⟨by decide,by decide⟩,_,_,rfl,rfl,(by show (0:Int)<3;decide),_,rfl,_,_,rfl,rfl,⟨by decide,by decide⟩,_,_,rfl,fun _ U=>⟨zJ (by show 2<=1000;decide),fun p a=>q _ (.say _) _ ((S.trans U).trans (zF a _)) (.say zC) (mJ _ _)⟩⟩
def zz(K:bV):Sp:=fun vs H Q _ => ∃(a ps:ar)(ns sz:aw Int)(k S e:Int),vs=[.ref a,.int k,.int S,.ref ps,.int e]/\aU K H a (ns.map V.int)/\ns.length<=63/\(0<=k/\k<=1000)/\(0<=S/\S<=100)/\jF H ps sz/\∀(v:V)(D:aw Dd)(h:Hp),aH H h->Ru.oK h v D->(∀ d∈D,qI sz e d)->D.length<=8->Q v h
def GoodG(N r:Int):Gd->Prop
 | .yes=>True
 | .is b n=>(0<=b/\b<N) /\ -(10 ^ 30)<=n/\n<=10 ^ 30
 | .under b n=>(0<=b/\b<N) /\ -(10 ^ 30)<=n/\n<=10 ^ 30
 | .inn x=>0<=x/\x<r
 | .neg g=>GoodG N r g
 | .both g k=>GoodG N r g/\GoodG N r k
 | .either g k=>GoodG N r g/\GoodG N r k
def jV(h:Nat):Sp:=fun vs H Q _ => ∃(n r i:Int)(N:Nat),vs=[.int n,.int r,.int (N:Int),.int i]/\0<r/\1<=i/\i<=(h:Int)/\∀(v:V)(g:Gd)(a:Hp),aH H a->jH a v g->GoodG N r g->(g.ht:Int)<=i->Q v a
def qBO(r:Int) : -(10 ^ 30)<=r%4/\r%4<=10 ^ 30:=by have:=j7 r (show (4:Int)≠0 by decide);have:=jR r (show (0:Int)<4 by decide);omega
def qBN(r:Int) : -(10 ^ 30)<=r%5/\r%5<=10 ^ 30:=by have:=j7 r (show (5:Int)≠0 by decide);have:=jR r (show (0:Int)<5 by decide);omega
def fX:aF ["_law_script","_law_k","_law_salt","_law_sizes","_law_events","_law_number","_law_many","_law_deeds_here","_law_j"] ["_law_script","_law_k","_law_salt","_law_sizes","_law_events"] (aA qT):=cQ
def R0(F:bO K "_law_deeds" "_law_deeds" qT f fd)
  (N:Dp P w K mg base aN 2 gm dm ["_law_script","_law_k","_law_salt"] (jC K) "_law_mixed")
  (NP:Dp P w K mg base aN 2 gd dd ["_law_number","_law_sizes","_law_events"] Nu "_law_deed")
  (R:mg "range" = none) (aj:mg "tuple" = none):aL P w K mg base aN 3 f fd ["_law_script","_law_k","_law_salt","_law_sizes","_law_events"] (zz K):=by
 refine F.ok fX ?_ ?_
 .rintro _ _ _ _⟨a,ps,ns,sz,k,S,e,rfl,_⟩;rfl
 intro _ A _ s H _ Q E G h
 obtain⟨a,ps,ns,sz,k,S,e,rfl,J,n,⟨_,_⟩,⟨_,_⟩,hsz,q⟩:=h
 refine⟨_,(zE (zL (i:=5) fX.nd rfl (bb rfl) (pC N G (zA (pv 0) (zA (pv 1) (zA (pv 2) zD)))))
  (zE (zL (i:=6) fX.nd rfl (bb rfl) (yC yV (yL (zA zB (zA zB (zA zB (zA zB (zA zB (zA zB (zA zB (zA zB zD))))))))) (yD zZ (pv 5) zB) (fun _ _=>rfl)))
  (zE (zL (i:=7) fX.nd rfl (bb rfl) (yL zD))
  (yA (bf PassesOwn.never rfl (cg rfl R (zA (pv 6) zD)) (yK (i:=8) fX.nd rfl (bb rfl))
  (zG (yJ (dU iu yz yx yI (pv 7) (zA (pC NP G (zA (pC N G (zA (pv 0) (zA (pv 1) (zA (yD yG (yD yG (pv 2) zB) (pv 8)) zD)))) (zA (pv 3) (zA (pv 4) zD)))) zD)))))
  (zG (zP (yB zY rfl aj qt (zA (pv 7) zD)))))))),?_⟩
 refine⟨_,rfl,_,rfl,_,rfl,a,ns,_,_,rfl,J,n,⟨by omega,by omega⟩,⟨by omega,by omega⟩,fun x _ _=>?_⟩
 obtain⟨m,hm,hat⟩:∃ m:Nat,m<=3/\mX [V.int 0,V.int 0,V.int 1,V.int 1,V.int 1,V.int 2,V.int 2,V.int 3] (x%8)=some (.int (m:Int)):=by
  obtain⟨o,ho,e⟩:=JW (os:=[0,0,1,1,1,2,2,3]) (i:=x%8) (by omega) (by show _<(8:Int);omega);refine⟨o,?_,e⟩;simp only[List.mem_cons,List.not_mem_nil,or_false]at ho;omega
 refine⟨zJ (by show 8<=1000;decide),fun L z=>⟨_,rfl,_,_,rfl,rfl,(by show (0:Int)<8;decide),L,_,_,_,rfl,rfl,aU.of zC,hat,?_⟩⟩;have C:=zF z (.lst [V.int 0,V.int 0,V.int 1,V.int 1,V.int 1,V.int 2,V.int 2,V.int 3]);generalize upd H L (.lst [V.int 0,V.int 0,V.int 1,V.int 1,V.int 1,V.int 2,V.int 2,V.int 3])=H1 at C ⊢;refine⟨bo _,fun g T=>?_⟩;have X:H g=none:=C.free T;have Z:=C.trans (zF T (.lst []));refine⟨fun σ' b=>∃(xs:aw V)(D:aw Dd),aH H b/\b g=some (.lst xs)/\il b xs D/\(∀ d∈D,qI sz e d)/\D.length<=8/\∃ O:aE V,σ'=[some (.ref a),some (.int k),some (.int S),some (.ref ps),some (.int e),some (.int x),some (.int (m:Int)),some (.ref g),O],?_,?_⟩
 .refine⟨_,rfl,_,rfl,by omega,by omega,?_⟩;refine cI (fun i σ' b=>∃(xs:aw V)(D:aw Dd),aH H b/\b g=some (.lst xs)/\il b xs D/\(∀ d∈D,qI sz e d)/\D.length<=i/\∃ O:aE V,σ'=[some (.ref a),some (.int k),some (.int S),some (.ref ps),some (.int e),some (.int x),some (.int (m:Int)),some (.ref g),O])
   ⟨[],[],Z,zC,.nil,(fun d h=>by cases h),bD _,_,rfl⟩ ?_ (fun σ' b ⟨xs,D,W,c,t,ok,l,r⟩=>⟨xs,D,W,c,t,ok,by omega,r⟩)
  rintro i σ' U _ ⟨xs,D,W,c,t,ok,_,O,rfl⟩;have lx2:=t.length;refine⟨_,rfl,.inl ⟨rfl,_,aU.of c⟩,_,rfl,_,rfl,_,rfl,_,_,rfl,rfl,_,rfl,_,_,rfl,rfl,a,ns,_,_,rfl,W.seq J,n,⟨by omega,by omega⟩,⟨by omega,by omega⟩,fun y y0 Y=>?_⟩;refine⟨_,rfl,_,rfl,y,e,ps,sz,rfl,y0,Y,hsz.mono W,fun v d _ u hd B=>?_⟩;have I:=aB.lst (u _ _ c) (.lst (xs++[v]));refine⟨g,_,_,rfl,rfl,u _ _ c,zW (by omega),xs++[v],D++[d],bW X (W.trans u) _,zC,(t.mono ((aB.of u).trans I)).snoc (hd.mono I),fun x j=>?_,by rw[j8,vG];omega,_,rfl⟩;rcases jz.mp j with j | j
  .exact ok x j
  .rw[jA.mp j];exact B
 rintro σ' U ⟨xs,D,W,c,t,ok,l,O,rfl⟩;exact⟨_,rfl,g,_,rfl,.inl ⟨aU.of c,fun p M=>q _ D _ (W.trans (zF M _)) ⟨p,xs,rfl,zC,t.mono (aB.new M _)⟩ ok l⟩⟩
def nF:aF ["_law_number","_law_rooms_here","_law_boxes","_law_high","_law_way","_law_rest"] ["_law_number","_law_rooms_here","_law_boxes","_law_high"] (aA jL):=cQ
def Qs(F:bO K "_law_guard" "_law_guard" jL f fd)(D:Dp P w K mg base aN n f fd ["_law_number","_law_rooms_here","_law_boxes","_law_high"] (jV n) "_law_guard") :
  aL P w K mg base aN (n+1) f fd ["_law_number","_law_rooms_here","_law_boxes","_law_high"] (jV (n+1)):=by
 refine F.ok nF ?_ ?_
 .rintro _ _ _ _⟨m,r,d,b,rfl,_⟩;rfl
 intro _ A _ s H _ Q E o h
 obtain⟨m,r,d,b,rfl,R,_,_,q⟩:=h
 refine⟨_,(zE (zL (i:=4) nF.nd rfl (bb rfl) (yD zZ (pv 0) zB))
  (zE (zL (i:=5) nF.nd rfl (bb rfl) (yD yM (pv 0) zB))
  (zE (yE (bZ (PW.pt (pw_and (zM cY (pv 3) zB (zS _)) (yQ (zM yH (pv 4) zB (zS _))))))
  (zG (zP (zX (zA zQ (zA (pC D o (zA (pv 5) (zA (pv 1) (zA (pv 2) (zA (yD lF (pv 3) zB) zD))))) zD)))))
  zU)
  (zE (yE (bZ (PW.pt (pw_and (zM cY (pv 3) zB (zS _)) (yQ (zM yH (pv 4) zB (zS _))))))
  (zG (zP (zX (zA zQ (zA (pC D o (zA (pv 5) (zA (pv 1) (zA (pv 2) (zA (yD lF (pv 3) zB) zD))))) (zA (pC D o (zA (yD yM (pv 5) zB) (zA (pv 1) (zA (pv 2) (zA (yD lF (pv 3) zB) zD))))) zD))))))
  zU)
  (zE (yE (bZ (PW.pt (pw_and (zM cY (pv 3) zB (zS _)) (yQ (zM yH (pv 4) zB (zS _))))))
  (zG (zP (zX (zA zQ (zA (pC D o (zA (pv 5) (zA (pv 1) (zA (pv 2) (zA (yD lF (pv 3) zB) zD))))) (zA (pC D o (zA (yD yM (pv 5) zB) (zA (pv 1) (zA (pv 2) (zA (yD lF (pv 3) zB) zD))))) zD))))))
  zU)
  (zE (yE (bZ (PW.pt (pw_or (zM yH (pv 4) zB (zS _)) (pw_or1 (zM yH (pv 4) zB (zS _))))))
  (zG (zP (zX (zA zQ (zA (yD zZ (pv 5) (pv 1)) zD)))))
  zU)
  (zE (yE (bZ (PW.pt (pw_and (zM yH (pv 4) zB (zS _)) (yQ (zM cY (pv 2) zB (zS _))))))
  (zG (zP (zX (zA zQ (zA (yD zZ (pv 5) (pv 2)) (zA (yD zZ (yD yM (pv 5) zB) zB) zD))))))
  zU)
  (zE (yE (bZ (PW.pt (pw_and (zM yH (pv 4) zB (zS _)) (yQ (zM cY (pv 2) zB (zS _))))))
  (zG (zP (zX (zA zQ (zA (yD zZ (pv 5) (pv 2)) (zA (yD zZ (yD yM (pv 5) zB) zB) zD))))))
  zU)
  (zG (zP (zX (zA zQ zD)))))))))))),?_⟩
 refine⟨_,rfl,_,_,rfl,rfl,(by show (0:Int)<9;decide),?_⟩;refine⟨_,rfl,_,_,rfl,rfl,⟨by decide,by decide⟩,?_⟩;refine⟨fun c e=>e=H/\(c=true->1<d),?_,?_⟩
 .refine⟨_,rfl,_,_,rfl,rfl,_,rfl,fO (fun c=>?_) (fun c=>⟨rfl,fun z=>(by cases z)⟩)⟩;exact⟨_,rfl,rfl,_,rfl,rfl,fun _=>ba c⟩
 rintro _ H ⟨rfl,B⟩;refine fO (fun c=>?_) (fun c=>?_)
 .have j:=B c;exact⟨_,rfl,_,rfl,_,rfl,_,rfl,_,_,rfl,rfl,_,_,_,_,rfl,R,by omega,by omega,fun v g J S l Z G=>⟨zJ (by show 2<=1000;decide),fun p a=>q _ (.neg g) _ (S.trans (zF a _)) (.neg zC (l.mono (aB.new a _))) Z (by show ((g.ht+1:Nat):Int)<=d;omega)⟩⟩
 refine⟨fun c e=>e=H/\(c=true->1<d),?_,?_⟩
 .refine⟨_,rfl,_,_,rfl,rfl,_,rfl,fO (fun c=>?_) (fun c=>⟨rfl,fun z=>(by cases z)⟩)⟩;exact⟨_,rfl,rfl,_,rfl,rfl,fun _=>ba c⟩
 rintro _ H ⟨rfl,u⟩;refine fO (fun c=>?_) (fun c=>?_)
 .have j:=u c;exact⟨_,rfl,_,rfl,_,rfl,_,rfl,_,_,rfl,rfl,_,_,_,_,rfl,R,by omega,by omega,fun v g J S l Z G=>⟨_,rfl,_,_,rfl,rfl,⟨by decide,by decide⟩,_,rfl,_,rfl,_,rfl,_,_,rfl,rfl,_,_,_,_,rfl,R,by omega,by omega,fun v3 t L W k X y=>⟨zJ (by show 3<=1000;decide),fun p a=>q _ (.both g t) _ ((S.trans W).trans (zF a _)) (.both zC (l.mono (aB.of (W.trans (zF a _)))) (k.mono (aB.new a _))) ⟨Z,X⟩ (by show ((1+max g.ht t.ht:Nat):Int)<=d;omega)⟩⟩⟩
 refine⟨fun c e=>e=H/\(c=true->1<d),?_,?_⟩
 .refine⟨_,rfl,_,_,rfl,rfl,_,rfl,fO (fun c=>?_) (fun c=>⟨rfl,fun z=>(by cases z)⟩)⟩;exact⟨_,rfl,rfl,_,rfl,rfl,fun _=>ba c⟩
 rintro _ H ⟨rfl,C⟩;refine fO (fun c=>?_) (fun c=>?_)
 .have j:=C c;exact⟨_,rfl,_,rfl,_,rfl,_,rfl,_,_,rfl,rfl,_,_,_,_,rfl,R,by omega,by omega,fun v g J S l Z G=>⟨_,rfl,_,_,rfl,rfl,⟨by decide,by decide⟩,_,rfl,_,rfl,_,rfl,_,_,rfl,rfl,_,_,_,_,rfl,R,by omega,by omega,fun v3 t L W k X y=>⟨zJ (by show 3<=1000;decide),fun p a=>q _ (.either g t) _ ((S.trans W).trans (zF a _)) (.either zC (l.mono (aB.of (W.trans (zF a _)))) (k.mono (aB.new a _))) ⟨Z,X⟩ (by show ((1+max g.ht t.ht:Nat):Int)<=d;omega)⟩⟩⟩
 refine⟨fun c e=>e=H,?_,?_⟩
 .exact⟨_,rfl,rfl,_,rfl,fO (fun c=>rfl) (fun c=>⟨_,rfl,rfl,_,rfl,rfl⟩)⟩
 rintro _ H rfl;refine fO (fun c=>?_) (fun c=>?_)
 .exact⟨_,rfl,_,rfl,_,_,rfl,rfl,(by show (0:Int)<r;exact R),zJ (by show 2<=1000;decide),fun p a=>q _ (.inn _) _ (zF a _) (.inn zC) ⟨j7 _ (by omega),jR _ R⟩ (by show (1:Int)<=d;omega)⟩
 refine⟨fun c e=>e=H/\(c=true->0<(b:Int)),?_,?_⟩
 .refine⟨_,rfl,rfl,_,rfl,fO (fun c=>⟨_,rfl,_,_,rfl,rfl,_,rfl,rfl,fun z=>ba z⟩) (fun c=>⟨rfl,fun z=>(by cases z)⟩)⟩
 rintro _ H ⟨rfl,x⟩;refine fO (fun c=>?_) (fun c=>?_)
 .have j:=x c;exact⟨_,rfl,_,rfl,_,_,rfl,rfl,(by show (0:Int)<(b:Int);exact j),_,rfl,_,_,rfl,rfl,⟨by decide,by decide⟩,_,_,rfl,rfl,(by show (0:Int)<4;decide),zJ (by show 3<=1000;decide),fun p a=>q _ (.is _ _) _ (zF a _) (.is zC) ⟨⟨j7 _ (by omega),jR _ j⟩,qBO _⟩ (by show (1:Int)<=d;omega)⟩
 refine⟨fun c e=>e=H/\(c=true->0<(b:Int)),?_,?_⟩
 .refine⟨_,rfl,rfl,_,rfl,fO (fun c=>⟨_,rfl,_,_,rfl,rfl,_,rfl,rfl,fun z=>ba z⟩) (fun c=>⟨rfl,fun z=>(by cases z)⟩)⟩
 rintro _ H ⟨rfl,I⟩;refine fO (fun c=>?_) (fun c=>?_)
 .have j:=I c;exact⟨_,rfl,_,rfl,_,_,rfl,rfl,(by show (0:Int)<(b:Int);exact j),_,rfl,_,_,rfl,rfl,⟨by decide,by decide⟩,_,_,rfl,rfl,(by show (0:Int)<5;decide),zJ (by show 3<=1000;decide),fun p a=>q _ (.under _ _) _ (zF a _) (.under zC) ⟨⟨j7 _ (by omega),jR _ j⟩,qBN _⟩ (by show (1:Int)<=d;omega)⟩
 exact⟨zJ (by show 1<=1000;decide),fun p a=>q _ .yes _ (zF a _) (.yes zC) trivial (by show (1:Int)<=d;omega)⟩
def JT:aL P w K mg base aN 0 f fd ["_law_number","_law_rooms_here","_law_boxes","_law_high"] (jV 0):=by
 have n:∀ vs H Q E,¬ jV 0 vs H Q E:=fun vs H Q E h=>by
  obtain⟨m,r,_,b,_,_,_,_,_⟩:=h;omega
 exact⟨fun vs H Q E h=>eu h (n vs H Q E),fun A _ s H _ _ vs Q E _ _ _ _ h=>eu h (n vs H Q E)⟩
theorem By(F:bO K "_law_guard" "_law_guard" jL f fd)(U:Binds K fd ["_law_number","_law_rooms_here","_law_boxes","_law_high"] [])(u:mg "_law_guard" = some (.ref f)):∀ n:Nat,aL P w K mg base aN n f fd ["_law_number","_law_rooms_here","_law_boxes","_law_high"] (jV n)
 | 0=>JT
 | n+1=>Qs F ⟨By F U u n,U,F.kp,u⟩
end CJ
namespace CJ
open PySem L2 jP lN vB xM Wds gW
end CJ
namespace mj
open PySem L2 jP lN vB xM
inductive Ik(K:bV)(vs:List V)(H:Hp)(Q:VK)(E_:XK):Prop
 | mk (a:Addr) (ns:List Int) (m:Nat) (_:vs=[.ref a,.int (m:Int)]) (_:aU K H a (ns.map V.int)) (_:ns.length<=63) (_:1<=m) (_:m<=12) (_:∀(p:Addr)(ds:List Int)(H':Hp),aH H H'->H p=none->H' p=some (.lst (ds.map V.int))->Tr.Good ds->Xx ds->ds.length=m->Q (.ref p) H')
def lE:aF ["_law_script","_law_many","_law_depths_here","_law_k"] ["_law_script","_law_many"] (aA nJ):=cQ
def Qy(F:bO K "_law_depths" "_law_depths" nJ f fd)(N:Dp P w K mg base aN 2 gm dm ["_law_script","_law_k","_law_salt"] (jC K) "_law_mixed")
  (G:mg "range" = none) (v:mg "min" = none):aL P w K mg base aN 3 f fd ["_law_script","_law_many"] (Ik K):=by
 refine F.ok lE ?_ ?_
 .rintro _ _ _ _⟨a,ns,m,rfl,_⟩;rfl
 intro _ A _ s H _ Q E r h
 apply aW;intro _ g_;obtain⟨a,ns,m,rfl,j,e,_,_,q⟩:=h;apply g_;clear g_
 refine⟨_,(zE (zL (i:=2) lE.nd rfl (bb rfl) (yL (zA zB zD)))
  (yA (bf PassesOwn.never rfl (vR rfl G (zA zB (zA (pv 1) zD))) (yK (i:=3) lE.nd rfl (bb rfl))
  (zG (yJ (dU iu yz yx yI (pv 2) (zA (yD yG zB (yD zZ (pC N r (zA (pv 0) (zA (yD yG zB (pv 3)) (zA zB zD)))) (yD yG (zT (Ep rfl) rfl v PyProof.Rows.boot_min (zA (yC yV (pv 2) (yD lF (pv 3) zB) (fun _ _=>rfl)) (zA zB zD))) zB))) zD)))))
  (zG (zP (pv 2))))),?_⟩
 refine⟨zJ (by show 1<=1000;decide),fun p T=>?_⟩;refine⟨fun σ' c=>∃ dl:aw Int,aH H c/\c p=some (.lst (dl.map V.int))/\Tr.Good dl/\Xx dl/\dl.length=m/\∃ o:aE V,σ'=[some (.ref a),some (.int (m:Int)),some (.ref p),o],?_,?_⟩
 .refine⟨_,rfl,1,(m:Int),rfl,⟨by decide,by decide,by lia,by lia⟩,?_⟩;refine cI (fun i σ' c=>∃ dl:aw Int,aH H c/\c p=some (.lst (dl.map V.int))/\Tr.Good dl/\Xx dl/\dl.length=i+1/\∃ o:aE V,σ'=[some (.ref a),some (.int (m:Int)),some (.ref p),o])
   ⟨[0],zF T _,zC,.one,(fun k n=>by (have:k=0:=by simpa using n);subst this;decide),rfl,none,rfl⟩ ?_ ?_
  .rintro i σ' d _ B;apply aW;intro _ g_;obtain⟨dl,S,b,g,low,l,o,rfl⟩:=B;apply g_;clear g_;have Y:=g.nonneg i (by lia)
   have t:mX (dl.map V.int) (1+(i:Int)-1)=some (.int (dl.getD i 0)):=by
    rw[show (1+(i:Int))-1=(i:Int) by lia];exact Gi (by lia)
   refine⟨_,rfl,.inl ⟨rfl,_,aU.of b⟩,_,rfl,_,rfl,eO ⟨a,ns,_,_,rfl,S.seq j,e,⟨by lia,by lia⟩,⟨by decide,by decide⟩,fun y _ _=>?_⟩⟩
   have z:0<=(if (3:Int)<dl.getD i 0 then 3 else dl.getD i 0)/\(if (3:Int)<dl.getD i 0 then 3 else dl.getD i 0)<=dl.getD i 0/\(if (3:Int)<dl.getD i 0 then 3 else dl.getD i 0)<=3:=by split <;> lia
   have x:=j7 y (show (if (3:Int)<dl.getD i 0 then 3 else dl.getD i 0)+1≠0 by lia);have u:=jR y (show 0<(if (3:Int)<dl.getD i 0 then 3 else dl.getD i 0)+1 by lia);refine⟨_,rfl,_,rfl,eO (gJ (aU.of b) t ⟨_,_,rfl,eO (eO ⟨(by show (0:Int)<(if (3:Int)<dl.getD i 0 then 3 else dl.getD i 0)+1;lia),_,_,rfl,rfl,p,_,_,rfl,rfl,b,zW (by rw[bT];lia),?_⟩)⟩)⟩;refine⟨dl++[1+y%((if (3:Int)<dl.getD i 0 then 3 else dl.getD i 0)+1)],bW T S _,?_,g.snoc (by lia) (by rw[l,Nat.add_sub_cancel];lia),low.snoc (by lia),by simp [l],_,rfl⟩;rw[zC,qz];rfl
  .rintro σ' d B;apply aW;intro _ g_;obtain⟨dl,S,b,g,low,l,o,rfl⟩:=B;apply g_;clear g_;exact⟨dl,S,b,g,low,by lia,o,rfl⟩
 rintro σ' d B;apply aW;intro _ g_;obtain⟨dl,S,b,g,low,l,o,rfl⟩:=B;apply g_;clear g_;exact⟨_,rfl,q p dl d S T b g low l⟩
end mj
namespace CJ
open PySem L2 jP lN vB xM Wds
structure RoG(sz:List Int)(e sd:Int)(ds:List Int)(k:Nat)(r:gW.Ro):Prop where
 nm:r.nm=fL (k:Int) sd
 sh:if k+1<ds.length/\ds.getD k 0<ds.getD (k+1) 0 then (r.kind = "one" ∨ r.kind = "all") else (r.kind = "plain" /\ r.keeps = "")
 dp:r.depth=ds.getD k 0
 kp:r.keeps = "" ∨ (r.keeps = "near" /\ r.kind = "one")∨r.keeps = "deep"
 lp:r.jn = "" ∨ isW r.jn=true
 di:∀ d∈r.ins,qI sz e d
 dO:∀ d∈r.outs,qI sz e d
 l8:r.ins.length<=8/\r.outs.length<=8
inductive Hw(K:bV)(vs:List V)(H:Hp)(Q:VK)(E_:XK):Prop
 | mk (a pd ps:Addr) (ns ds sz:List Int) (e:Int) (_:vs=[.ref a,.ref pd,.ref ps,.int e]) (_:aU K H a (ns.map V.int)) (_:ns.length<=63) (_:H pd=some (.lst (ds.map V.int))) (_:ds.length<=12) (_:jF H ps sz) (_:∀(t:Addr)(rv:List V)(rs:List gW.Ro)(sd:Int)(H':Hp),aH H H'->H' t=some (.tup rv)->gW.cL H' rv rs->rs.length=ds.length->(∀ k r,rs[k]? = some r->RoG sz e sd ds k r)->Q (.ref t) H')
theorem Jp(h:Ru.oK H v ds):gW.HS H v ds:=by
 obtain⟨a,Y,e,f,q⟩:=h;refine⟨a,Y,e,f,?_⟩;clear f
 induction q with
 | nil=>exact .nil
 | cons h _ i=>exact .cons h i
def ao:aF ["_law_script","_law_depths_here","_law_sizes","_law_events","_law_rooms_here","_law_k","_law_number","_law_kind","_law_keeps","_law_lamp","_law_ins","_law_outs"] ["_law_script","_law_depths_here","_law_sizes","_law_events"] (aA Fv):=cQ
def Qh(F:bO K "_law_rooms" "_law_rooms" Fv f fd)(aM:Dp P w K mg base aN 3 gm dm ["_law_script","_law_k","_law_salt"] (jC K) "_law_mixed")
  (fH:Dp P w K mg base aN 3 gn dn ["_law_k","_law_number"] xm "_law_name")
  (lC:Dp P w K mg base aN 3 gd dd ["_law_script","_law_k","_law_salt","_law_sizes","_law_events"] (zz K) "_law_deeds")
  (bU:Dp P w K mg base aN 3 gc dc ["_law_script","_law_k"] (sX K) "_law_cell_at")
  (az:mg "range" = none) (aP:mg "len" = none) (aj:mg "tuple" = none):aL P w K mg base aN 4 f fd ["_law_script","_law_depths_here","_law_sizes","_law_events"] (Hw K):=by
 refine F.ok ao ?_ ?_
 .rintro _ _ _ _⟨a,X,ps,ns,d,sz,e,rfl,_⟩;rfl
 intro _ A _ s H vs Q E hr h
 apply aW;intro _ g_;obtain⟨a,X,ps,ns,d,sz,e,rfl,hS,m,hd,_,hsz,q⟩:=h;apply g_;clear g_
 refine⟨_,(zE (zL (i:=4) ao.nd rfl (bb rfl) (yL zD))
  (yA (bf PassesOwn.never rfl (cg rfl az (zA (zT zO rfl aP bj (zA (pv 1) zD)) zD)) (yK (i:=5) ao.nd rfl (bb rfl))
  (zE (zL (i:=6) ao.nd rfl (bb rfl) (pC aM hr (zA (pv 0) (zA (yD yG zB (pv 5)) (zA zB zD)))))
  (zE (zL (i:=7) ao.nd rfl (bb rfl) zQ)
  (zE (zL (i:=8) ao.nd rfl (bb rfl) zQ)
  (yA (yE (bZ (PW.pt (pw_and (zM mH (yD yG (pv 5) zB) (zT zO rfl aP bj (zA (pv 1) zD)) (zS _)) (yQ (zM cY (yC yV (pv 1) (yD yG (pv 5) zB) (fun _ _=>rfl)) (yC yV (pv 1) (pv 5) (fun _ _=>rfl)) (zS _))))))
  (zE (zL (i:=7) ao.nd rfl (bb rfl) (yC yV (yL (zA zQ (zA zQ (zA zQ zD)))) (yD zZ (pv 6) zB) (fun _ _=>rfl)))
  (zG (zL (i:=8) ao.nd rfl (bb rfl) (yC yV (yL (zA zQ (zA zQ (zA zQ zD)))) (yD zZ (yD yM (pv 6) zB) zB) (fun _ _=>rfl)))))
  zU)
  (yA (yE (bZ (PW.pt (pw_and (zM yH (pv 7) zQ (zS _)) (yQ (zM yH (pv 8) zQ (zS _))))))
  (zG (zL (i:=8) ao.nd rfl (bb rfl) zQ))
  zU)
  (zE (zL (i:=9) ao.nd rfl (bb rfl) zQ)
  (yA (yE (zM yH (yD zZ (yD yM (pv 6) zB) zB) zB (zS _))
  (zG (zL (i:=9) ao.nd rfl (bb rfl) (pC fH hr (zA (yD zZ (yD yM (pv 6) zB) zB) (zA (yD yM (pv 6) zB) zD)))))
  zU)
  (zE (zL (i:=10) ao.nd rfl (bb rfl) (pC lC hr (zA (pv 0) (zA (yD yG zB (pv 5)) (zA zB (zA (pv 2) (zA (pv 3) zD)))))))
  (zE (zL (i:=11) ao.nd rfl (bb rfl) (pC lC hr (zA (pv 0) (zA (yD yG zB (pv 5)) (zA zB (zA (pv 2) (zA (pv 3) zD)))))))
  (zG (yJ (dU iu yz yx yI (pv 4) (zA (zX (zA (pC fH hr (zA (pv 5) (zA (yD zZ (pC bU hr (zA (pv 0) (zA zB zD))) zB) zD))) (zA (pv 7) (zA (yC yV (pv 1) (pv 5) (fun _ _=>rfl)) (zA (pv 8) (zA (pv 9) (zA (pv 10) (zA (pv 11) zD)))))))) zD))))))))))))))
  (zG (zP (yB zY rfl aj qt (zA (pv 4) zD)))))),?_⟩
 have L:(d.map V.int).length=d.length:=bT _;refine⟨bo _,fun u hpr=>?_⟩;have s1:=zF hpr (.lst []);refine⟨fun σ' N=>∃ vs R,aH H N/\N u=some (.lst vs)/\gW.cL N vs R/\R.length=d.length/\(∀ k r,R[k]? = some r->RoG sz e (eF ns 0%997) d k r)/\∃ o5 o6 o7 o8 O v J:aE V,σ'=[some (.ref a),some (.ref X),some (.ref ps),some (.int e),some (.ref u),o5,o6,o7,o8,O,v,J],?_,?_⟩
 .refine⟨_,rfl,xR rfl (.inl (aU.of (s1 _ _ hd))) ⟨_,rfl,by lia,by rw[L];lia,?_⟩⟩
  refine cI (fun i σ' N=>∃(vs:aw V)(R:aw gW.Ro),aH H N/\N u=some (.lst vs)/\gW.cL N vs R/\R.length=i/\(∀ k r,R[k]? = some r->RoG sz e (eF ns 0%997) d k r) ∧
   ∃ o5 o6 o7 o8 O v J:aE V,σ'=[some (.ref a),some (.ref X),some (.ref ps),some (.int e),some (.ref u),o5,o6,o7,o8,O,v,J]) ⟨[],[],s1,zC,.nil,rfl,(fun k x h=>by simp at h),none,none,none,none,none,none,none,rfl⟩ ?_ ?_
  .rintro i σ' H3 hi B;apply aW;intro _ g_;obtain⟨vs,R,W,U,Y,n,j,o5,o6,o7,o8,O,v,J,rfl⟩:=B;apply g_;clear g_
   have hi':i<d.length:=by
    simp only[List.length_map,Int.toNat_natCast]at hi;exact hi
   have o:=W _ _ hd
   have hat:mX (d.map V.int) (0+(i:Int))=some (.int (d.getD i 0)):=by
    rw[cf];exact mj.Gi hi'
   refine⟨_,rfl,_,rfl,eO ⟨a,ns,_,_,rfl,W.seq hS,m,⟨by lia,by lia⟩,⟨by decide,by decide⟩,fun x _ _=>?_⟩⟩;refine⟨fun σ' H4=>aH H3 H4/\∃ b p:Str,(if i+1<d.length/\d.getD i 0<d.getD (i+1) 0 then ((b = "one" ∨ b = "all")/\(p = "" ∨ p = "near" ∨ p = "deep")) else (b = "plain" /\ p = ""))/\σ'=[some (.ref a),some (.ref X),some (.ref ps),some (.int e),some (.ref u),some (.int (0+(i:Int))),some (.int x),some (.str b),some (.str p),O,v,J],?_,?_⟩
   .refine⟨fun c H4=>H4=H3/\c=decide (i+1<d.length/\d.getD i 0<d.getD (i+1) 0),?_,?_⟩
    .refine⟨_,rfl,eO ⟨_,rfl,xR rfl (.inl (aU.of o)) (eO ⟨_,rfl,?_⟩)⟩⟩;refine vp (fun c=>?_) (fun c=>⟨rfl,?_⟩)
     .have c':(0:Int)+(i:Int)+1<(((d.map V.int).length:Nat):Int):=ba c;rw[L]at c'
      have Bd:mX (d.map V.int) (0+(i:Int)+1)=some (.int (d.getD (i+1) 0)):=by
       rw[show (0:Int)+(i:Int)+1=((i+1:Nat):Int) by lia];exact mj.Gi (by lia)
      refine⟨_,rfl,_,rfl,eO (gJ (aU.of o) Bd ⟨_,rfl,_,rfl,gJ (aU.of o) hat (eO ⟨_,rfl,rfl,?_⟩)⟩)⟩
      have e:i+1<d.length:=by lia
      simp [e]
     .have c':¬ (0:Int)+(i:Int)+1<(((d.map V.int).length:Nat):Int):=fun z=>c (bq z);rw[L]at c'
      have e:¬ i+1<d.length:=by lia
      simp [e]
    rintro c H4 ⟨rfl,l⟩;refine vp (fun M=>?_) (fun M=>?_)
    .rw[M]at l;have I:=ba l.symm;apply aW;intro _ g_;obtain⟨b,hkm,C⟩:=mj.Fb (zs:=[("one" : Str),"one","all"]) (i:=x%3) (by lia) (by show _<(3:Int);lia);obtain⟨p,hpm,y⟩:=mj.Fb (zs:=[("" : Str),"near","deep"]) (i:=x/3%3) (by lia) (by show _<(3:Int);lia);apply g_;clear g_;refine⟨zJ (by show 3<=1000;decide),fun _ Xu=>?_⟩;have s5:=zF Xu (.lst [V.str "one",V.str "one",V.str "all"]);refine⟨_,rfl,eO ⟨(by show (0:Int)<3;decide),gJ (aU.of zC) C ?_⟩⟩;refine⟨zJ (by show 3<=1000;decide),fun p6 hp6=>?_⟩;have s6:=s5.trans (zF hp6 (.lst [V.str "",V.str "near",V.str "deep"]))
     refine⟨_,rfl,_,_,rfl,rfl,⟨by decide,by decide⟩,_,_,rfl,rfl,(by show (0:Int)<3;decide),p6,_,_,_,rfl,rfl,aU.of zC,y,s6,b,p,(by
      rw[cS I];simp only[List.mem_cons,List.not_mem_nil,or_false]at hkm hpm;refine⟨?_,hpm⟩;rcases hkm with h | h | h
      .exact .inl h
      .exact .inl h
      .exact .inr h),rfl⟩
    .rw[eJ.mpr M]at l;have I:=bP l.symm;exact⟨aH.refl _,_,_,(by rw[cK I];exact⟨rfl,rfl⟩),rfl⟩
   rintro σ5 H5 B;apply aW;intro _ g_;obtain⟨s4,b,kp0,G,rfl⟩:=B;apply g_;clear g_;refine⟨fun σ' H6=>H6=H5/\∃ p:Str,((if i+1<d.length/\d.getD i 0<d.getD (i+1) 0 then (b = "one" ∨ b = "all") else (b = "plain" /\ p = ""))/\(p = "" ∨ (p = "near" /\ b = "one")∨p = "deep"))/\σ'=[some (.ref a),some (.ref X),some (.ref ps),some (.int e),some (.ref u),some (.int (0+(i:Int))),some (.int x),some (.str b),some (.str p),O,v,J],?_,?_⟩
   .refine⟨fun c H6=>H6=H5/\c=(decide (V.str b=V.str "all")&&decide (V.str kp0=V.str "near")),?_,?_⟩
    .exact⟨_,rfl,rfl,_,rfl,fO (fun c=>⟨_,rfl,rfl,_,rfl,rfl,by rw[c];rfl⟩) (fun c=>⟨rfl,by rw[c];rfl⟩)⟩
    rintro c H6 ⟨rfl,l⟩;refine fO (fun M=>⟨rfl,_,⟨?_,.inr (.inr rfl)⟩,rfl⟩) (fun M=>⟨rfl,_,⟨?_,?_⟩,rfl⟩)
    .rw[M]at l;have hk:=(dP.mp l.symm).1;injection ba hk with hk
     split at G
     .rw[cS ‹_›];exact G.1
     .exact eu (hk.symm.trans G.1) (by decide)
    .split at G
     .rw[cS ‹_›];exact G.1
     .rw[cK ‹_›];exact G
    .rw[M]at l
     split at G
     .obtain⟨C,y⟩:=G;rcases y with h | h | h
      .exact .inl h
      .rcases C with g | g
       .exact .inr (.inl ⟨h,g⟩)
       .rw[h,g]at l;exact eu l (by decide)
      .exact .inr (.inr h)
     .exact .inl G.2
   rintro σ6 H6 B;apply aW;intro _ g_;obtain⟨rfl,p,⟨hsh,hkp⟩,rfl⟩:=B;apply g_;clear g_;refine⟨fun σ' H7=>aH H6 H7/\∃ Z:Str,(Z = "" ∨ isW Z=true)/\σ'=[some (.ref a),some (.ref X),some (.ref ps),some (.int e),some (.ref u),some (.int (0+(i:Int))),some (.int x),some (.str b),some (.str p),some (.str Z),v,J],?_,?_⟩
   .refine⟨_,rfl,eO ⟨⟨by decide,by decide⟩,_,_,rfl,rfl,(by show (0:Int)<3;decide),rfl,_,rfl,fO (fun c=>?_) (fun c=>⟨aH.refl _,_,.inl rfl,rfl⟩)⟩⟩;exact⟨_,rfl,eO ⟨⟨by decide,by decide⟩,_,_,rfl,rfl,(by show (0:Int)<3;decide),_,rfl,eO ⟨⟨by decide,by decide⟩,_,_,rfl,fun H7 s7=>⟨s7,_,.inr (mJ _ _),rfl⟩⟩⟩⟩
   rintro σ7 H7 B;apply aW;intro _ g_;obtain⟨s7,Z,hlp,rfl⟩:=B;apply g_;clear g_;have S:=(W.trans s4).trans s7;refine⟨_,rfl,_,rfl,eO ⟨_,rfl,_,rfl,a,ps,ns,sz,_,_,_,rfl,S.seq hS,m,⟨by lia,by lia⟩,⟨by decide,by decide⟩,hsz.mono S,fun vi di _ s8 hdi oki ldi=>?_⟩⟩;have D:=S.trans s8;refine⟨_,rfl,_,rfl,eO ⟨_,rfl,_,rfl,a,ps,ns,sz,_,_,_,rfl,D.seq hS,m,⟨by lia,by lia⟩,⟨by decide,by decide⟩,hsz.mono D,fun vo dO _ s9 hdo oko ldo=>?_⟩⟩;have s39:=D.trans s9;have h9:=((s4.trans s7).trans (s8.trans s9)) _ _ U;refine⟨_,rfl,.inl ⟨rfl,_,aU.of h9⟩,_,rfl,_,rfl,a,ns,_,rfl,s39.seq hS,m,?_⟩;refine (eO ⟨(by show (0:Int)<997;decide),_,_,rfl,fun _ uz=>?_⟩);have T:=((s4.trans s7).trans (s8.trans s9)).trans uz;have h10:=T _ _ U;refine⟨_,rfl,_,rfl,_,rfl,gJ (aU.of (T _ _ o)) hat ⟨_,rfl,_,rfl,_,rfl,_,rfl,zJ (by show 7<=1000;decide),fun p7 hp7=>?_⟩⟩;have u3:=zF hp7 (.tup [.str (fL (0+(i:Int)) (eF ns 0%997)),.str b,.int (d.getD i 0),.str p,.str Z,vi,vo]);have h7:=u3 _ _ h10;have lv:=Y.length;have kl:=aB.lst h7 (.lst (vs++[.ref p7]));refine⟨u,_,_,rfl,rfl,h7,zW (by lia),vs++[.ref p7],R++[⟨fL (0+(i:Int)) (eF ns 0%997),b,d.getD i 0,p,Z,di,dO⟩],bW hpr ((W.trans T).trans u3) _,zC,(gW.cL.mono Y ((aB.of (T.trans u3)).trans kl)).snoc ⟨p7,vi,vo,rfl,kl _ _ zC,(Jp hdi).mono ((aB.of ((s9.trans uz).trans u3)).trans kl),(Jp hdo).mono ((aB.of (uz.trans u3)).trans kl)⟩,by simp [n],fun k x hx=>?_,_,_,_,_,_,_,_,rfl⟩
   by_cases hk:k<R.length
   .rw[zw3 hk]at hx;exact j k x hx
   .have hk':k=R.length:=by
     have:=(oW.mp hx).1;simp only[List.length_append,List.length_singleton]at this;lia
    subst hk';rw[zw4 (bD _),iS]at hx
    cases hx
    rw[n];exact⟨by rw[cf],hsh,rfl,hkp,hlp,oki,oko,ldi,ldo⟩
  .rintro σ' H3 B;apply aW;intro _ g_;obtain⟨vs,R,W,U,Y,n,j,r⟩:=B;apply g_;clear g_;rw[show (((d.map V.int).length:Nat):Int).toNat=d.length by simp]at n;exact⟨vs,R,W,U,Y,n,j,r⟩
 rintro σ' H3 B;apply aW;intro _ g_;obtain⟨vs,R,W,U,Y,n,j,o5,o6,o7,o8,O,v,J,rfl⟩:=B;apply g_;clear g_;refine⟨_,rfl,u,_,rfl,.inl ⟨aU.of U,fun t ht=>?_⟩⟩;exact q t vs R _ _ (W.trans (zF ht _)) zC (gW.cL.mono Y (aB.new ht _)) n j
structure DrG(sz:List Int)(e:Int)(rs:List gW.Ro)(d:gW.Dr):Prop where
 rm:0<=d.room/\d.room<(rs.length:Int)
 ev:0<=d.event/\d.event<e
 g:GoodG (sz.length:Int) (rs.length:Int) d.guard
 ht:d.guard.ht<=3
 dd:∀ x∈d.pZ,qI sz e x
 l8:d.pZ.length<=8
 wy:(d.way = "stay" /\ d.goal=none)∨((d.way = "to" ∨ d.way = "back")/\∃ j:Nat,d.goal=some (j:Int)/\j<rs.length/\(d.way = "back" -> ∃ r,rs[j]? = some r/\r.keeps ≠ ""))
inductive Ii(K:bV)(vs:List V)(H:Hp)(Q:VK)(E_:XK):Prop
 | mk (a t ps:Addr) (ns sz:List Int) (rv:List V) (rs:List gW.Ro) (m:Nat) (e:Int) (_:vs=[.ref a,.int (m:Int),.ref t,.ref ps,.int e]) (_:aU K H a (ns.map V.int)) (_:ns.length<=63) (_:m<=12) (_:H t=some (.tup rv)) (_:gW.cL H rv rs) (_:1<=rs.length) (_:rs.length<=12) (_:jF H ps sz) (_:0<=e) (_:∀(p:Addr)(dv:List V)(ds:List gW.Dr)(H':Hp),aH H H'->H' p=some (.tup dv)->gW.jx H' dv ds->(∀ d∈ds,DrG sz e rs d)->ds.length<=12->Q (.ref p) H')
def aq:aF ["_law_script","_law_many","_law_rooms_here","_law_sizes","_law_events","_law_doors_here","_law_k","_law_number","_law_goal","_law_way","_law_keepers","_law_guard_here","_law_deeds_here"] ["_law_script","_law_many","_law_rooms_here","_law_sizes","_law_events"] (aA lY):=cQ
def Qw(F:bO K "_law_doors" "_law_doors" lY f fd)(aM:Dp P w K mg base aN 3 gm dm ["_law_script","_law_k","_law_salt"] (jC K) "_law_mixed")
  (dY:Dp P w K mg base aN 3 gg dg ["_law_number","_law_rooms_here","_law_boxes","_law_high"] (jV 3) "_law_guard")
  (lC:Dp P w K mg base aN 3 G dd ["_law_script","_law_k","_law_salt","_law_sizes","_law_events"] (zz K) "_law_deeds")
  (az:mg "range" = none) (M:mg "len" = none) (aj:mg "tuple" = none) (uQ:mg "int" = none):aL P w K mg base aN 4 f fd ["_law_script","_law_many","_law_rooms_here","_law_sizes","_law_events"] (Ii K):=by
 refine F.ok aq ?_ ?_
 .rintro _ _ _ _⟨a,t,ps,ns,sz,R,u,m,e,rfl,_⟩;rfl
 intro _ A _ s H vs Q E hr h
 obtain⟨a,t,ps,ns,sz,R,u,m,e,rfl,hS,C,_,l,hrs,_,_,hsz,_,q⟩:=h
 refine⟨_,(zE (zL (i:=5) aq.nd rfl (bb rfl) (yL zD))
  (yA (bf PassesOwn.never rfl (cg rfl az (zA (yD iB (pv 1) (yB Er rfl uQ ke (zA (bK cY (pv 4) zB (zS _)) zD))) zD)) (yK (i:=6) aq.nd rfl (bb rfl))
  (zE (zL (i:=7) aq.nd rfl (bb rfl) (pC aM hr (zA (pv 0) (zA (yD yG zB (pv 6)) (zA zB zD)))))
  (zE (zL (i:=8) aq.nd rfl (bb rfl) (yD zZ (yD yM (pv 7) zB) (zT zO rfl M bj (zA (pv 2) zD))))
  (zE (zL (i:=9) aq.nd rfl (bb rfl) (yC yV (yL (zA zQ (zA zQ (zA zQ (zA zQ (zA zQ zD)))))) (yD zZ (pv 7) zB) (fun _ _=>rfl)))
  (zE (uI (i:=10) (bF:=[(2,"_law_rooms_here")]) rfl aq.nd rfl (bb rfl) (show bA (aA lY) ["_law_script","_law_many","_law_rooms_here","_law_sizes","_law_events","_law_doors_here","_law_k","_law_number","_law_goal","_law_way","_law_keepers","_law_guard_here","_law_deeds_here"] _ _ _ from vA) (cg rfl az (zA (zT zO rfl M bj (zA (pv 2) zD)) zD)) (fun _ _ _ _ _ _=>cW (zM pN (yC (r:=dM K) zH (yC (r:=dM K) zH (pv 1) (pv 0) (fun _ _=>rfl)) zB (fun _ _=>rfl)) zQ (zS _))) (fun _ _ _ _ _ _=>(pv 0)))
  (yA (yE (bZ (PW.pt (pw_and (zM yH (pv 9) zQ (zS _)) (yQ (zM yH (zT zO rfl M bj (zA (pv 10) zD)) zB (zS _))))))
  (zG (zL (i:=9) aq.nd rfl (bb rfl) zQ))
  zU)
  (yA (yE (zM yH (pv 9) zQ (zS _))
  (zG (zL (i:=8) aq.nd rfl (bb rfl) (yC yV (pv 10) (yD zZ (pv 8) (zT zO rfl M bj (zA (pv 10) zD))) (fun _ _=>rfl))))
  zU)
  (yA (yE (zM yH (pv 9) zQ (zS _))
  (zG (zL (i:=8) aq.nd rfl (bb rfl) iw))
  zU)
  (zE (zL (i:=11) aq.nd rfl (bb rfl) (zX (zA zQ zD)))
  (yA (yE (zM yH (yD zZ (yD yM (pv 7) zB) zB) zB (zS _))
  (zG (zL (i:=11) aq.nd rfl (bb rfl) (pC dY hr (zA (pC aM hr (zA (pv 0) (zA (yD yG zB (pv 6)) (zA zB zD)))) (zA (zT zO rfl M bj (zA (pv 2) zD)) (zA (zT zO rfl M bj (zA (pv 3) zD)) (zA zB zD)))))))
  zU)
  (zE (zL (i:=12) aq.nd rfl (bb rfl) (pC lC hr (zA (pv 0) (zA (yD yG zB (pv 6)) (zA zB (zA (pv 3) (zA (pv 4) zD)))))))
  (zG (yJ (dU iu yz yx yI (pv 5) (zA (zX (zA (yD zZ (pC aM hr (zA (pv 0) (zA (yD yG zB (pv 6)) (zA zB zD)))) (zT zO rfl M bj (zA (pv 2) zD))) (zA (yD zZ (yD zZ (yD yM (pv 7) zB) zB) (pv 4)) (zA (pv 11) (zA (pv 12) (zA (pv 9) (zA (pv 8) zD))))))) zD)))))))))))))))
  (zG (zP (yB zY rfl aj qt (zA (pv 5) zD)))))),?_⟩
 have lrv:=hrs.length;refine⟨bo _,fun B hpr=>?_⟩;have s1:=zF hpr (.lst []);refine⟨fun σ' b=>∃(vs:aw V)(D:aw gW.Dr),aH H b/\b B=some (.lst vs)/\gW.jx b vs D/\(∀ d∈D,DrG sz e u d)/\D.length<=12/\∃ o6 o7 o8 o9 vV L Z:aE V,σ'=[some (.ref a),some (.int (m:Int)),some (.ref t),some (.ref ps),some (.int e),some (.ref B),o6,o7,o8,o9,vV,L,Z],?_,?_⟩
 .have hN:((m:Int)*(if decide (0<e)=true then 1 else 0)).toNat<=m/\(0<((m:Int)*(if decide (0<e)=true then 1 else 0)).toNat->0<e)/\((m:Int)*(if decide (0<e)=true then 1 else 0))<=12/\0<=((m:Int)*(if decide (0<e)=true then 1 else 0)):=by
   by_cases c:0<e
   .rw[cS (bq c)];exact⟨by lia,fun _=>c,by lia,by lia⟩
   .rw[cK (by rw[bp c];exact rA)];exact⟨by lia,fun z=>by lia,by lia,by lia⟩
  refine⟨_,rfl,_,rfl,_,_,rfl,rfl,.inr ⟨_,rfl,_,_,rfl,rfl,uO (by lia) (by lia),_,rfl,by lia,?_,?_⟩⟩
  .exact Int.lt_of_le_of_lt hN.2.2.1 (by decide)
  refine cI (fun i σ' b=>∃(vs:aw V)(D:aw gW.Dr),aH H b/\b B=some (.lst vs)/\gW.jx b vs D/\(∀ d∈D,DrG sz e u d)/\D.length=i/\∃ o6 o7 o8 o9 vV L Z:aE V,σ'=[some (.ref a),some (.int (m:Int)),some (.ref t),some (.ref ps),some (.int e),some (.ref B),o6,o7,o8,o9,vV,L,Z])
   ⟨[],[],s1,zC,.nil,(fun d h=>by cases h),rfl,none,none,none,none,none,none,none,rfl⟩ ?_ (fun σ' b ⟨vs,D,h1,h2,h3,h4,_,W⟩=>⟨vs,D,h1,h2,h3,h4,by have:=hN.1;lia,W⟩)
  rintro i σ' H3 _ ⟨vs,D,s3,h3,hA,k,n,o6,o7,o8,o9,vV,L,Z,rfl⟩
  have him:i<12:=by
   have:=hN.1;lia
  have ep:0<e:=hN.2.1 (by lia);refine⟨_,rfl,_,rfl,_,_,rfl,rfl,a,ns,_,_,rfl,s3.seq hS,C,⟨by lia,by lia⟩,⟨by decide,by decide⟩,fun x _ _=>?_⟩
  have lp:(0:Int)<((R.length:Nat):Int):=by lia
  have g00:=j7 (x/15) (show ((R.length:Nat):Int)≠0 by lia);have g01:=jR (x/15) lp;refine⟨_,rfl,_,_,rfl,rfl,⟨by decide,by decide⟩,_,rfl,t,_,rfl,.inr (aJ.of (s3 _ _ l)),_,_,rfl,rfl,lp,?_⟩;obtain⟨w0,hw0,qLJ⟩:=mj.Fb (zs:=[("to" : Str),"to","back","back","stay"]) (i:=x%5) (by lia) (by show _<(5:Int);lia);refine⟨zJ (by show 5<=1000;decide),fun p5 Xu=>⟨_,rfl,_,_,rfl,rfl,(by show (0:Int)<5;decide),p5,_,_,_,rfl,rfl,aU.of zC,qLJ,?_⟩⟩;have s5:=zF Xu (.lst [V.str "to",V.str "to",V.str "back",V.str "back",V.str "stay"]);generalize hH5:upd H3 p5 (.lst [V.str "to",V.str "to",V.str "back",V.str "back",V.str "stay"])=H5 at s5 ⊢;have I:=s3.trans s5;refine⟨_,rfl,t,_,rfl,.inr (aJ.of (I _ _ l)),_,rfl,by lia,by lia,?_⟩;refine sH (fun i' O b=>b=H5/\∃ J:aw Nat,O=aC J/\J.length<=i'/\(∀ j∈J,∃ r,u[j]? = some r/\r.keeps ≠ "")) ⟨rfl,[],rfl,bD _,fun j z=>by cases z⟩ (fun i' O b _ ⟨e1,J,e2,e3,e4⟩=>?_) (fun O b ⟨e1,J,e2,e3,e4⟩ o hp2=>?_)
  .subst e1 e2
   have hj:i'<u.length:=by lia
   obtain⟨_,hv2,a2,_,_,rfl,ha2,_⟩:=hrs.get (fQ hj)
   have Bd:mX R (0+(i':Int))=some (.ref a2):=by
    rw[cf];exact yR hv2
   refine⟨_,rfl,_,rfl,t,_,_,_,rfl,rfl,aJ.of (I _ _ l),Bd,a2,_,_,_,rfl,rfl,aJ.of (I _ _ ha2),rfl,rfl,_,rfl,?_⟩;refine fO (fun c=>?_) (fun c=>⟨rfl,J,rfl,by lia,e4⟩);refine⟨_,rfl,zW (by rw[zV];lia),rfl,J++[i'],?_,by simp;lia,fun j z=>?_⟩
   .rw[<-jN,cf]
   .rcases jz.mp z with z | z
    .exact e4 j z
    .rw[jA.mp z];exact⟨_,fQ hj,fun z=>by rw[z]at c;cases c⟩
  subst e1 e2;have s6:=zF hp2 (.lst (aC J));have W:upd b o (.lst (aC J)) o=some (.lst (aC J)):=zC;generalize hH6:upd b o (.lst (aC J))=H6 at s6 W ⊢;have s36:=I.trans s6;have ln:=zV J;refine⟨fun σ' b=>b=H6/\∃ X:Str,(X = "to" ∨ X = "back" ∨ X = "stay")/\(X = "back" -> J≠[])/\σ'=[some (.ref a),some (.int (m:Int)),some (.ref t),some (.ref ps),some (.int e),some (.ref B),some (.int (0+(i:Int))),some (.int x),some (.int (x/15%((R.length:Nat):Int))),some (.str X),some (.ref o),L,Z],?_,?_⟩
  .refine⟨fun c b=>b=H6/\(c=false->w0 = "back" -> J≠[]),?_,?_⟩
   .refine⟨_,rfl,rfl,_,rfl,fO (fun c=>?_) (fun c=>⟨rfl,fun _ z=>?_⟩)⟩
    .exact⟨_,rfl,o,_,rfl,.inl (aU.of W),rfl,_,rfl,rfl,fun z _ z2=>by
      subst z2
      exact bP z rfl⟩
    .exact eu (by rw[z]) (bP c)
   rintro c b ⟨rfl,hc⟩;refine fO (fun c=>?_) (fun c=>?_)
   .exact⟨rfl,_,.inl rfl,fun z=>eu z (by decide),rfl⟩
   .refine⟨rfl,w0,?_,hc c,rfl⟩;simp only[List.mem_cons,List.not_mem_nil,or_false]at hw0;rcases hw0 with h | h | h | h | h
    .exact .inl h
    .exact .inl h
    .exact .inr (.inl h)
    .exact .inr (.inl h)
    .exact .inr (.inr h)
  rintro σ7 H7 ⟨rfl,X,hwy,hne,rfl⟩;refine⟨fun σ' b=>b=H7/\∃ g:Nat,g<u.length/\(X = "back" -> ∃ r,u[g]? = some r/\r.keeps ≠ "")/\σ'=[some (.ref a),some (.int (m:Int)),some (.ref t),some (.ref ps),some (.int e),some (.ref B),some (.int (0+(i:Int))),some (.int x),some (.int (g:Int)),some (.str X),some (.ref o),L,Z],?_,?_⟩
  .refine⟨_,rfl,rfl,_,rfl,fO (fun c=>?_) (fun c=>⟨rfl,(x/15%((R.length:Nat):Int)).toNat,by lia,fun z=>?_,by rw[fe g00]⟩)⟩
   rotate_left
   .exact eu (by rw[z]) (bP c)
   have c':V.str X=V.str "back" := ba c
   have wb:X = "back" := by injection c'
   have ljs:0<J.length:=List.length_pos_iff.mpr (hne wb)
   obtain⟨pk,hpm,hpk⟩:=JW (os:=J) (i:=(x/15%((R.length:Nat):Int))%(((aC J).length:Nat):Int)) (j7 _ (by lia)) (by
     have:=jR (x/15%((R.length:Nat):Int)) (show (0:Int)<(((aC J).length:Nat):Int) by lia)
     lia)
   refine⟨_,rfl,_,rfl,_,rfl,o,_,rfl,.inl (aU.of W),_,_,rfl,rfl,(by show (0:Int)<(((aC J).length:Nat):Int);lia),o,_,_,_,rfl,rfl,aU.of W,hpk,rfl,pk,?_,fun _=>e4 pk hpm,rfl⟩;obtain⟨_,h,_⟩:=e4 pk hpm;exact (oW.mp h).1
  rintro σ8 H8 ⟨rfl,g,g1,g2,rfl⟩;refine⟨fun σ' b=>b=H8/\∃ gv:aE Int,((X = "stay" /\ gv=none)∨((X = "to" ∨ X = "back")/\∃ j:Nat,gv=some (j:Int)/\j<u.length/\(X = "back" -> ∃ r,u[j]? = some r/\r.keeps ≠ "")))/\σ'=[some (.ref a),some (.int (m:Int)),some (.ref t),some (.ref ps),some (.int e),some (.ref B),some (.int (0+(i:Int))),some (.int x),some (gW.gv gv),some (.str X),some (.ref o),L,Z],?_,?_⟩
  .refine⟨_,rfl,rfl,_,rfl,fO (fun c=>?_) (fun c=>?_)⟩
   .have c':V.str X=V.str "stay" := ba c;exact⟨rfl,none,.inl ⟨by injection c',rfl⟩,rfl⟩
   .refine⟨rfl,some (g:Int),.inr ⟨?_,g,rfl,g1,g2⟩,rfl⟩;rcases hwy with h | h | h
    .exact .inl h
    .exact .inr h
    .exact eu (by rw[h]) (bP c)
  rintro σ9 H9 ⟨rfl,gv,hgv,rfl⟩;refine⟨zJ (by show 1<=1000;decide),fun p9 hp9=>?_⟩;have s9:=zF hp9 (.tup [V.str "yes"]);have g9:jH (upd H9 p9 (.tup [V.str "yes"])) (.ref p9) .yes:=.yes zC;generalize hH10:upd H9 p9 (.tup [V.str "yes"])=HQ at s9 g9 ⊢;have S:=s36.trans s9;refine⟨fun σ' b=>aH HQ b/\∃(G:V)(g:Gd),jH b G g/\GoodG (sz.length:Int) (u.length:Int) g/\g.ht<=3/\σ'=[some (.ref a),some (.int (m:Int)),some (.ref t),some (.ref ps),some (.int e),some (.ref B),some (.int (0+(i:Int))),some (.int x),some (gW.gv gv),some (.str X),some (.ref o),some G,Z],?_,?_⟩
  .refine⟨_,rfl,_,_,rfl,rfl,⟨by decide,by decide⟩,_,_,rfl,rfl,(by show (0:Int)<2;decide),rfl,_,rfl,fO (fun c=>?_) (fun c=>⟨aH.refl _,_,_,g9,trivial,(by show 1<=3;decide),rfl⟩)⟩;refine⟨_,rfl,_,rfl,_,_,rfl,rfl,a,ns,_,_,rfl,S.seq hS,C,⟨by lia,by lia⟩,⟨by decide,by decide⟩,fun y y0 y1=>?_⟩;exact⟨_,rfl,t,_,rfl,.inr (aJ.of (S _ _ l)),_,rfl,ps,_,rfl,.inl (aU.of (hsz.mono S).1),_,_,_,sz.length,(by rw[bT];rfl),lp,by decide,by decide,fun v g b s' hg ZP ght=>⟨s',v,g,hg,(by rw[<-lrv];exact ZP),(by lia),rfl⟩⟩
  rintro σ10 _ ⟨uz,G,gg,hgd,ZP,ght,rfl⟩;have qEJ:=S.trans uz;refine⟨_,rfl,_,rfl,_,_,rfl,rfl,_,rfl,_,rfl,a,ps,ns,sz,_,_,_,rfl,qEJ.seq hS,C,⟨by lia,by lia⟩,⟨by decide,by decide⟩,hsz.mono qEJ,fun vd dd K5 s12 hdd okd ldd=>?_⟩;have U:aH H3 K5:=(((s5.trans s6).trans s9).trans uz).trans s12;have N:=s3.trans U;have h12:=U _ _ h3;refine⟨_,rfl,.inl ⟨rfl,_,aU.of h12⟩,_,rfl,_,rfl,_,_,rfl,rfl,a,ns,_,_,rfl,N.seq hS,C,⟨by lia,by lia⟩,⟨by decide,by decide⟩,fun y y0 y1=>?_⟩;refine⟨_,rfl,t,_,rfl,.inr (aJ.of (N _ _ l)),_,_,rfl,rfl,lp,?_⟩;refine⟨_,rfl,_,_,rfl,rfl,⟨by decide,by decide⟩,_,_,rfl,rfl,(by show (0:Int)<3;decide),_,rfl,_,_,rfl,rfl,(by show (0:Int)<e;exact ep),_,rfl,_,rfl,_,rfl,_,rfl,zJ (by show 6<=1000;decide),fun Y qCU=>?_⟩;have y2:=j7 y (show ((R.length:Nat):Int)≠0 by lia);have y3:=jR y lp;have u13:=zF qCU (.tup [.int (y%((R.length:Nat):Int)),.int (x/5%3%e),G,vd,.str X,gW.gv gv]);have i13:upd K5 Y (.tup [.int (y%((R.length:Nat):Int)),.int (x/5%3%e),G,vd,.str X,gW.gv gv]) Y=some (.tup [.int (y%((R.length:Nat):Int)),.int (x/5%3%e),G,vd,.str X,gW.gv gv]):=zC;have T:=u13 _ _ h12;generalize upd K5 Y (.tup [.int (y%((R.length:Nat):Int)),.int (x/5%3%e),G,vd,.str X,gW.gv gv])=H13 at u13 i13 T ⊢;have lv:=hA.length;have kl:=aB.lst T (.lst (vs++[.ref Y]));refine⟨B,_,_,rfl,rfl,T,zW (by lia),vs++[.ref Y],D++[⟨y%((R.length:Nat):Int),x/5%3%e,gg,dd,X,gv⟩],bW hpr (N.trans u13) _,zC,(gW.jx.mono hA ((aB.of (U.trans u13)).trans kl)).snoc ⟨Y,G,vd,rfl,kl _ _ i13,hgd.mono ((aB.of (s12.trans u13)).trans kl),(Jp hdd).mono ((aB.of u13).trans kl)⟩,fun d hd=>?_,by simp [n],_,_,_,_,_,_,_,rfl⟩;rcases jz.mp hd with hd | hd
  .exact k d hd
  .rw[jA.mp hd];exact⟨⟨y2,by rw[<-lrv];exact y3⟩,⟨j7 _ (by lia),jR _ ep⟩,ZP,ght,okd,ldd,hgv⟩
 rintro σ' H3 ⟨vs,D,s3,h3,hA,k,n,o6,o7,o8,o9,vV,L,Z,rfl⟩;refine⟨_,rfl,B,_,rfl,.inl ⟨aU.of h3,fun p hp=>?_⟩⟩;exact q p vs D _ (s3.trans (zF hp _)) zC (gW.jx.mono hA (aB.new hp _)) k n
structure BxG(sd:Int)(k:Nat)(b:gW.Bx):Prop where
 nm:b.nm=fL (k:Int) sd
 sz:1<=b.size/\b.size<=10 ^ 30
 st:0<=b.start/\b.start<b.size
structure ChG(c:gW.Ch):Prop where
 od:c.order = "inner" ∨ c.order = "outer"
 lb:∃ n:Nat,c.letters=(n:Int)/\n<=5
 tn:∃ n:Nat,c.turns=(n:Int)/\1<=n/\n<=5
 b6:c.oX.length<=6
 bx:∃ sd,∀ k b,c.oX[k]? = some b->BxG sd k b
 e8:c.evs.length<=8
 ev:∃ sd:Int,∀(k:Nat)(z:Str),c.evs[k]? = some z->z=fL (k:Int) sd
 ro:∃ sd ds,Tr.Good ds/\mj.Xx ds/\ds.length<=10/\c.rooms.length=ds.length/\∀ k r,c.rooms[k]? = some r->RoG (c.oX.map (·.size)) (c.evs.length:Int) sd ds k r
 d12:c.mV.length<=12
 dr:∀ d∈c.mV,DrG (c.oX.map (·.size)) (c.evs.length:Int) c.rooms d
inductive Io(K:bV)(vs:List V)(H:Hp)(Q:VK)(E_:XK):Prop
 | mk (a:Addr) (ns:List Int) (_:vs=[.ref a]) (_:aU K H a (ns.map V.int)) (_:ns.length<=63) (_:∀(p:Addr)(c:gW.Ch)(H':Hp),aH H H'->gW.jJ H' p c->ChG c->(∃ n:Nat,c.turns=(n:Int)/\n<=4)->Q (.ref p) H')
noncomputable abbrev X5:Scope:=⟨.function,[("_law_script",.cell),("_law_many",.local),("_law_events",.local),("_law_boxes",.local),("_law_k",.local),("_law_size",.local),("_law_sizes",.local),("_law_names",.local),("_law_rooms_here",.local),("_law_count",.local),("_law_doors_here",.local),("_law_order",.local),("_law_letters",.local),("_law_turns",.local),("_law_mixed",.globalImplicit),("range",.globalImplicit),("_law_cell_at",.globalImplicit),("_law_name",.globalImplicit),("tuple",.globalImplicit),("_law_rooms",.globalImplicit),("_law_depths",.globalImplicit),("_law_doors",.globalImplicit)],false,false,(aA lZ).more⟩
def Zm:aA lZ=X5:=by rfl
def aa:aF ["_law_script","_law_many","_law_events","_law_boxes","_law_k","_law_size","_law_sizes","_law_names","_law_rooms_here","_law_count","_law_doors_here","_law_order","_law_letters","_law_turns"] ["_law_script"] X5:=cQ
def R4(F:bO K "_law_chart" "_law_chart" lZ f fd)(N:Dp P w K mg base aN n gm dm ["_law_script","_law_k","_law_salt"] (jC K) "_law_mixed")
  (bU:Dp P w K mg base aN n gc dc ["_law_script","_law_k"] (sX K) "_law_cell_at")
  (fH:Dp P w K mg base aN n gn dn ["_law_k","_law_number"] xm "_law_name")
  (HY:Dp P w K mg base aN n ge de ["_law_script","_law_many"] (mj.Ik K) "_law_depths")
  (K8:Dp P w K mg base aN n gr dr ["_law_script","_law_depths_here","_law_sizes","_law_events"] (Hw K) "_law_rooms")
  (KD:Dp P w K mg base aN n gd dd ["_law_script","_law_many","_law_rooms_here","_law_sizes","_law_events"] (Ii K) "_law_doors")
  (az:mg "range" = none) (aj:mg "tuple" = none):aL P w K mg base aN (n+1) f fd ["_law_script"] (Io K):=by
 refine okS X5 Zm F aa ?_ ?_
 .rintro _ _ _ _⟨a,ns,rfl,_⟩;rfl
 intro _ A _ s H vs Q E o h
 obtain⟨a,ns,rfl,B,g,q⟩:=h
 refine⟨_,RSs.p (jf (J9 (zL (i:=1) aa.nd rfl (bb rfl) (yD yG zB (yD yM (yD yG (yD iB (yD zZ (pC N o (zA (pv 0) (zA zB (zA zB zD)))) zB) zB) zB) zB))))
  (jf (JB (i:=2) aa.nd rfl (bb rfl) (JD (JC (Aq (vs:=[.int 0,.int 1,.int 1,.int 2,.int 2,.int 2,.int 3,.int 3]) (by rfl))) (yD zZ (pC N o (zA (pv 0) (zA zB (zA zB zD)))) zB) (fun _ _=>rfl)))
  (jf (J9 (zL (i:=3) aa.nd rfl (bb rfl) (yL zD)))
  (qEN (J9 (bf PassesOwn.never rfl (cg rfl az (zA (yD zZ (pC N o (zA (pv 0) (zA zB (zA zB zD)))) zB) zD)) (yK (i:=4) aa.nd rfl (bb rfl))
  (zE (zL (i:=5) aa.nd rfl (bb rfl) (yD yG zB (yD zZ (pC N o (zA (pv 0) (zA zB (zA (yD yG zB (pv 4)) zD)))) zB)))
  (yA (yE (zM yH (yD zZ (pC N o (zA (pv 0) (zA zB (zA (yD yG zB (pv 4)) zD)))) zB) zB (zS _))
  (zG (zL (i:=5) aa.nd rfl (bb rfl) (yD yG zB (yD zZ (pC bU o (zA (pv 0) (zA zB zD))) (yD GP zB zB)))))
  zU)
  (zG (yJ (dU iu yz yx yI (pv 3) (zA (zX (zA (pC fH o (zA (pv 4) (zA (yD zZ (pC bU o (zA (pv 0) (zA zB zD))) zB) zD))) (zA (pv 5) (zA (yD zZ (pC N o (zA (pv 0) (zA zB (zA (yD yG zB (pv 4)) zD)))) (pv 5)) zD)))) zD))))))))
  (jf (J9 (uI (i:=6) (bF:=[]) rfl aa.nd rfl (bb rfl) (show bA X5 ["_law_script","_law_many","_law_events","_law_boxes","_law_k","_law_size","_law_sizes","_law_names","_law_rooms_here","_law_count","_law_doors_here","_law_order","_law_letters","_law_turns"] _ _ _ from vA) (yN (pv 3)) (fun _ _ _ _ _ _=>bQ) (fun _ _ _ _ _ _=>(yC (r:=dM K) zH (pv 0) zB (fun _ _=>rfl)))))
  (jf (J9 (zL (i:=7) aa.nd rfl (bb rfl) (yB zY rfl aj qt (zA (yU (bF:=[(0,"_law_script")]) rfl (show bA X5 ["_law_script","_law_many","_law_events","_law_boxes","_law_k","_law_size","_law_sizes","_law_names","_law_rooms_here","_law_count","_law_doors_here","_law_order","_law_letters","_law_turns"] _ _ _ from vA) (cg rfl az (zA (pv 2) zD)) (fun _ _ _ _ _ _=>bQ) (fun _ _ _ _ _ _=>(pC fH o (zA (pv 0) (zA (yD zZ (pC bU o (zA (pv 1) (zA zB zD))) zB) zD))))) zD))))
  (jf (J9 (zL (i:=8) aa.nd rfl (bb rfl) (pC K8 o (zA (pv 0) (zA (pC HY o (zA (pv 0) (zA (pv 1) zD))) (zA (pv 6) (zA (pv 2) zD)))))))
  (jf (JB (i:=9) aa.nd rfl (bb rfl) (JD (JC (Aq (vs:=[.int 4,.int 5,.int 6,.int 7,.int 8,.int 9,.int 10,.int 6,.int 7,.int 8,.int 2,.int 0]) (by rfl))) (yD zZ (pC N o (zA (pv 0) (zA zB (zA zB zD)))) zB) (fun _ _=>rfl)))
  (jf (J9 (zL (i:=10) aa.nd rfl (bb rfl) (pC KD o (zA (pv 0) (zA (pv 9) (zA (pv 8) (zA (pv 6) (zA (pv 2) zD))))))))
  (jf (JB (i:=11) aa.nd rfl (bb rfl) (JD (JC (Aq (vs:=[.str "inner",.str "outer"]) (by rfl))) (yD zZ (pC N o (zA (pv 0) (zA zB (zA zB zD)))) zB) (fun _ _=>rfl)))
  (jf (JB (i:=12) aa.nd rfl (bb rfl) (JD (JC (Aq (vs:=[.int 0,.int 1,.int 2,.int 3,.int 2,.int 4,.int 3,.int 5]) (by rfl))) (yD zZ (pC N o (zA (pv 0) (zA zB (zA zB zD)))) zB) (fun _ _=>rfl)))
  (jf (JB (i:=13) aa.nd rfl (bb rfl) (JD (JC (Aq (vs:=[.int 1,.int 2,.int 3,.int 4,.int 3,.int 4,.int 2,.int 4]) (by rfl))) (yD zZ (pC N o (zA (pv 0) (zA zB (zA zB zD)))) zB) (fun _ _=>rfl)))
  (qEM (J9 (zP (zX (zA (pv 11) (zA (pv 12) (zA (pv 13) (zA (yB zY rfl aj qt (zA (pv 3) zD)) (zA (pv 7) (zA (pv 8) (zA (pv 10) zD))))))))))))))))))))))),?_⟩
 refine⟨_,rfl,a,ns,_,_,rfl,B,g,⟨by decide,by decide⟩,⟨by decide,by decide⟩,fun x _ _=>⟨_,_,rfl,rfl,(by show (0:Int)<16;decide),_,_,rfl,rfl,uO (by lia) (by lia),_,_,rfl,rfl,_,_,rfl,rfl,⟨by decide,by decide⟩,_,_,rfl,rfl,?_⟩⟩;obtain⟨m,hm,m1,m10⟩:∃ m:Nat,1+(x%16*9+14)/16=(m:Int)/\1<=m/\m<=10:=⟨(1+(x%16*9+14)/16).toNat,by lia,by lia,by lia⟩;refine⟨zJ (by show 8<=1000;decide),fun p1 hp1=>?_⟩;have s1:=zF hp1 (.lst [V.int 0,V.int 1,V.int 1,V.int 2,V.int 2,V.int 2,V.int 3,V.int 3]);refine⟨_,rfl,a,ns,_,_,rfl,s1.seq B,g,⟨by decide,by decide⟩,⟨by decide,by decide⟩,fun x2 _ _=>?_⟩;obtain⟨e,he,qLM⟩:=mj.int_at (zs:=[0,1,1,2,2,2,3,3]) (i:=x2%8) (by lia) (by show _<(8:Int);lia)
 have e03:0<=e/\e<=3:=by
  simp only[List.mem_cons,List.not_mem_nil,or_false]at he;lia
 refine⟨_,_,rfl,rfl,(by show (0:Int)<8;decide),p1,_,_,_,rfl,rfl,aU.of zC,qLM,?_⟩;generalize upd H p1 (.lst [V.int 0,V.int 1,V.int 1,V.int 2,V.int 2,V.int 2,V.int 3,V.int 3])=H1 at s1 ⊢;refine⟨bo _,fun C hpb=>?_⟩;have npb:H C=none:=s1.free hpb;have s2:=s1.trans (zF hpb (.lst []));refine⟨fun σ' l=>∃(vs:aw V)(sz:aw gW.Bx),aH H l/\l C=some (.lst vs)/\gW.gP l vs sz/\(∀ k b,sz[k]? = some b->BxG (eF ns 2%991) k b)/\sz.length<=6/\∃ o4 o5:aE V,σ'=[some (.ref a),some (.int (1+(x%16*9+14)/16)),some (.int e),some (.ref C),o4,o5,none,none,none,none,none,none,none,none],?_,?_⟩
 .refine⟨_,rfl,a,ns,_,_,rfl,s2.seq B,g,⟨by decide,by decide⟩,⟨by decide,by decide⟩,fun _ _ _=>⟨_,_,rfl,rfl,(by show (0:Int)<3;decide),_,rfl,by lia,by lia,?_⟩⟩;refine cI (fun i σ' l=>∃(vs:aw V)(sz:aw gW.Bx),aH H l/\l C=some (.lst vs)/\gW.gP l vs sz/\(∀ k b,sz[k]? = some b->BxG (eF ns 2%991) k b)/\sz.length=i/\∃ o4 o5:aE V,σ'=[some (.ref a),some (.int (1+(x%16*9+14)/16)),some (.int e),some (.ref C),o4,o5,none,none,none,none,none,none,none,none])
   ⟨[],[],s2,zC,.nil,(fun d b h=>by simp at h),rfl,none,none,rfl⟩ ?_ (fun σ' l ⟨vs,sz,h1,h2,h3,h4,h5,U⟩=>⟨vs,sz,h1,h2,h3,h4,by lia,U⟩)
  rintro i σ' H3 hi ⟨vs,sz,s3,h3,W,u,G,o4,o5,rfl⟩
  have hi3:i<3:=by lia
  refine⟨_,rfl,_,rfl,_,_,rfl,rfl,a,ns,_,_,rfl,s3.seq B,g,⟨by decide,by decide⟩,⟨by lia,by lia⟩,fun y _ _=>⟨_,_,rfl,rfl,(by show (0:Int)<3;decide),_,_,rfl,rfl,?_⟩⟩;refine⟨fun σ' l=>l=H3/\∃ z:Int,(1<=z/\z<=10 ^ 30)/\σ'=[some (.ref a),some (.int (1+(x%16*9+14)/16)),some (.int e),some (.ref C),some (.int (0+(i:Int))),some (.int z),none,none,none,none,none,none,none,none],?_,?_⟩
  .refine⟨_,rfl,_,rfl,_,_,rfl,rfl,a,ns,_,_,rfl,s3.seq B,g,⟨by decide,by decide⟩,⟨by lia,by lia⟩,fun y2 y20 y21=>⟨_,_,rfl,rfl,(by show (0:Int)<6;decide),rfl,_,rfl,fO (fun c=>?_) (fun c=>⟨rfl,1+y%3,by lia,rfl⟩)⟩⟩;refine⟨_,rfl,a,ns,_,rfl,s3.seq B,g,⟨_,_,rfl,rfl,⟨by decide,by decide,by decide⟩,_,_,rfl,rfl,(by show (0:Int)<10 ^ 30;decide),_,_,rfl,rfl,rfl,1+eF ns 2%10 ^ 30,?_,rfl⟩⟩;have:=j7 (eF ns 2) (show (10:Int) ^ 30≠0 by decide);have:=jR (eF ns 2) (show (0:Int)<10 ^ 30 by decide);lia
  rintro σ4 _ ⟨rfl,z,z0,rfl⟩;refine⟨_,rfl,.inl ⟨rfl,_,aU.of h3⟩,_,rfl,_,rfl,a,ns,_,rfl,s3.seq B,g,⟨_,_,rfl,rfl,(by show (0:Int)<991;decide),_,_,rfl,fun H5 s5=>?_⟩⟩;have s35:=s3.trans s5;refine⟨_,rfl,_,rfl,_,rfl,_,_,rfl,rfl,a,ns,_,_,rfl,s35.seq B,g,⟨by decide,by decide⟩,⟨by lia,by lia⟩,fun y3 y30 y31=>?_⟩;refine⟨_,rfl,_,_,rfl,rfl,(by show (0:Int)<z;lia),zJ (by show 3<=1000;decide),fun p6 hp6=>?_⟩;have u6:=zF hp6 (.tup [.str (fL (0+(i:Int)) (eF ns 2%991)),.int z,.int (y3%z)]);have U:=u6 _ _ (s5 _ _ h3);have lv:=W.length;have kl:=aB.lst U (.lst (vs++[.ref p6]));refine⟨C,_,_,rfl,rfl,U,zW (by lia),vs++[.ref p6],sz++[⟨fL (0+(i:Int)) (eF ns 2%991),z,y3%z⟩],bW npb (s35.trans u6) _,zC,(gW.gP.mono W ((aB.of (s5.trans u6)).trans kl)).snoc ⟨p6,rfl,kl _ _ zC⟩,fun k b I=>?_,by simp [G],_,_,rfl⟩
  by_cases hk:k<sz.length
  .rw[zw3 hk]at I;exact u k b I
  .have L:k=sz.length:=by
    have:=(oW.mp I).1;simp only[List.length_append,List.length_singleton]at this;lia
   subst L;rw[zw4 (bD _),iS]at I
   cases I
   rw[G];exact⟨by rw[cf],z0,j7 _ (by lia),jR _ (by lia)⟩
 rintro σ5 H5 ⟨vs,bs,s5,h5,W,hst,_,o4,o5,rfl⟩;obtain⟨sz,hsz0⟩:∃ sz:aw Int,sz=bs.map (·.size):=⟨_,rfl⟩
 have lsz:sz.length=bs.length:=by rw[hsz0,bT]
 have u:∀ z∈sz,0<z:=fun z hz=>by
  rw[hsz0]at hz;obtain⟨b,I,rfl⟩:=eX.mp hz;obtain⟨k,hk⟩:=gT.mp I;have:=(hst k b hk).sz;lia
 have lv:=W.length;refine⟨_,rfl,C,rfl,⟨_,aU.of h5⟩,?_⟩;refine yT (K:=K) (a:=C) (xs:=vs) (fun i j l=>l=H5/\j=(sz.take i).map V.int) ⟨rfl,rfl⟩ (fun i j l ⟨e,_⟩=>by subst e;exact aU.of h5) (fun i y j l hx ⟨D,J⟩=>?_) (fun j l ⟨D,J⟩ ps hps=>?_)
 .subst D J
  have hi:i<sz.length:=by
   have:=(oW.mp hx).1;lia
  have hib:i<bs.length:=by lia
  have erb:=fQ hib
  have er:sz[i]? = some (bs[i]).size:=by rw[hsz0,dZ,erb];rfl
  obtain⟨v,hv,a2,rfl,ha2⟩:=W.get erb;rw[hv]at hx;obtain rfl:=kJ hx;refine⟨_,rfl,a2,_,_,_,rfl,rfl,aJ.of ha2,rfl,zW (by rw[bT,iQ];lia),rfl,?_⟩;rw[mq,er,qz];rfl
 subst D J;rw[show sz.take vs.length=sz from DX (by lia)];have s6:=zF hps (.lst (sz.map V.int));have U:(upd l ps (.lst (sz.map V.int))) ps=some (.lst (sz.map V.int)):=zC;generalize upd l ps (.lst (sz.map V.int))=H6 at s6 U ⊢;have s56:=s5.trans s6;have hsz:jF H6 ps sz:=⟨U,u,by lia⟩;refine⟨_,rfl,_,rfl,by lia,by lia,?_⟩;refine sH (fun i j l=>aH H6 l/\∃ p:aw Str,j=p.map V.str/\p.length=i/\∀(k:Nat)(z:Str),p[k]? = some z->z=fL (k:Int) (eF ns 3%983)) ⟨aH.refl _,[],rfl,rfl,fun k z h=>by simp at h⟩ (fun i j l hi ⟨D,p,J,e3,e4⟩=>?_) (fun j Hn ⟨D,p,J,e3,e4⟩ pl hpl=>?_)
 .subst J;refine⟨_,rfl,_,rfl,a,ns,_,rfl,(s56.trans D).seq B,g,⟨_,_,rfl,rfl,(by show (0:Int)<983;decide),_,_,rfl,fun _ s''=>⟨zW (by rw[bT];lia),D.trans s'',p++[fL (0+(i:Int)) (eF ns 3%983)],by rw[qz];rfl,by rw[j8,e3];rfl,fun k z h=>?_⟩⟩⟩
  by_cases hk:k<p.length
  .rw[zw3 hk]at h;exact e4 k z h
  .have L:k=p.length:=by
    have:=(oW.mp h).1;simp only[List.length_append,List.length_singleton]at this;lia
   subst L;rw[zw4 (bD _),iS]at h
   cases h
   rw[e3,cf]
 have s7:=D.trans (zF hpl (.lst j));refine⟨pl,_,rfl,.inl ⟨aU.of zC,fun pn hpn=>?_⟩⟩;have s8:=s7.trans (zF hpn (.tup j));have h8n:upd (upd Hn pl (.lst j)) pn (.tup j) pn=some (.tup j):=zC
 have qKT:p.length<=8:=by lia
 generalize upd (upd Hn pl (.lst j)) pn (.tup j)=H8 at s8 h8n ⊢;have s58:=s56.trans s8;refine⟨_,rfl,_,rfl,_,rfl,a,ns,m,(by show [V.ref a,V.int (1+(x%16*9+14)/16)]=[V.ref a,V.int (m:Int)];rw[hm]),s58.seq B,g,m1,by lia,fun pd dl _ s9 _ hpd good low ldl=>?_⟩;have s59:=s58.trans s9;refine⟨_,rfl,_,rfl,a,pd,ps,ns,dl,sz,e,rfl,s59.seq B,g,hpd,by lia,hsz.mono (s8.trans s9),fun t rv rs sd HQ uz hrv hR lrd hro=>?_⟩;have Y:=s59.trans uz
 have lr:rs.length=m:=by rw[lrd,ldl]
 refine⟨zJ (by show 12<=1000;decide),fun p11 qLB=>?_⟩;have Z:=zF qLB (.lst [V.int 4,V.int 5,V.int 6,V.int 7,V.int 8,V.int 9,V.int 10,V.int 6,V.int 7,V.int 8,V.int 2,V.int 0]);refine⟨_,rfl,a,ns,_,_,rfl,(Y.trans Z).seq B,g,⟨by decide,by decide⟩,⟨by decide,by decide⟩,fun y2 y20 y21=>?_⟩;obtain⟨ct,hct,Bd⟩:=mj.int_at (zs:=[4,5,6,7,8,9,10,6,7,8,2,0]) (i:=y2%12) (by lia) (by show _<(12:Int);lia)
 obtain⟨c,rfl,c12⟩:∃ c:Nat,ct=(c:Int)/\c<=12:=by
  simp only[List.mem_cons,List.not_mem_nil,or_false]at hct;exact⟨ct.toNat,by omega,by omega⟩
 refine⟨_,_,rfl,rfl,(by show (0:Int)<12;decide),p11,_,_,_,rfl,rfl,aU.of zC,Bd,?_⟩;generalize upd HQ p11 (.lst [V.int 4,V.int 5,V.int 6,V.int 7,V.int 8,V.int 9,V.int 10,V.int 6,V.int 7,V.int 8,V.int 2,V.int 0])=Kd at Z ⊢;have qEH:=Y.trans Z;refine⟨_,rfl,_,rfl,_,rfl,_,rfl,_,rfl,a,t,ps,ns,sz,rv,rs,c,e,rfl,qEH.seq B,g,c12,Z _ _ hrv,gW.cL.mono hR (aB.of Z),by lia,by lia,hsz.mono (((s8.trans s9).trans uz).trans Z),e03.1,fun pdo dv ds K5 M hdv hDv qIG d12=>?_⟩;have YQ:=qEH.trans M;refine⟨zJ (by show 2<=1000;decide),fun Yq qCU=>?_⟩;have uF:=zF qCU (.lst [V.str "inner",V.str "outer"]);refine⟨_,rfl,a,ns,_,_,rfl,(YQ.trans uF).seq B,g,⟨by decide,by decide⟩,⟨by decide,by decide⟩,fun y3 y30 y31=>?_⟩;obtain⟨od,hom,hat3⟩:=mj.Fb (zs:=[("inner" : Str),"outer"]) (i:=y3%2) (by lia) (by show _<(2:Int);lia);refine⟨_,_,rfl,rfl,(by show (0:Int)<2;decide),Yq,_,_,_,rfl,rfl,aU.of zC,hat3,?_⟩;generalize upd K5 Yq (.lst [V.str "inner",V.str "outer"])=H13 at uF ⊢;refine⟨zJ (by show 8<=1000;decide),fun p14 qLA=>?_⟩;have Sg:=uF.trans (zF qLA (.lst [V.int 0,V.int 1,V.int 2,V.int 3,V.int 2,V.int 4,V.int 3,V.int 5]));refine⟨_,rfl,a,ns,_,_,rfl,(YQ.trans Sg).seq B,g,⟨by decide,by decide⟩,⟨by decide,by decide⟩,fun y4 _ _=>?_⟩;obtain⟨lt,hlt,qLL⟩:=mj.int_at (zs:=[0,1,2,3,2,4,3,5]) (i:=y4%8) (by lia) (by show _<(8:Int);lia);refine⟨_,_,rfl,rfl,(by show (0:Int)<8;decide),p14,_,_,_,rfl,rfl,aU.of zC,qLL,?_⟩;generalize upd H13 p14 (.lst [V.int 0,V.int 1,V.int 2,V.int 3,V.int 2,V.int 4,V.int 3,V.int 5])=H14 at Sg ⊢;refine⟨zJ (by show 8<=1000;decide),fun p15 qL9=>?_⟩;have KZ:=Sg.trans (zF qL9 (.lst [V.int 1,V.int 2,V.int 3,V.int 4,V.int 3,V.int 4,V.int 2,V.int 4]));refine⟨_,rfl,a,ns,_,_,rfl,(YQ.trans KZ).seq B,g,⟨by decide,by decide⟩,⟨by decide,by decide⟩,fun y5 _ _=>?_⟩;obtain⟨tn,htn,qLK⟩:=mj.int_at (zs:=[1,2,3,4,3,4,2,4]) (i:=y5%8) (by lia) (by show _<(8:Int);lia);refine⟨_,_,rfl,rfl,(by show (0:Int)<8;decide),p15,_,_,_,rfl,rfl,aU.of zC,qLK,?_⟩;generalize upd H14 p15 (.lst [V.int 1,V.int 2,V.int 3,V.int 4,V.int 3,V.int 4,V.int 2,V.int 4])=O at KZ ⊢;have qE8:aH l O:=((((((s6.trans s8).trans s9).trans uz).trans Z).trans M)).trans KZ;refine⟨_,rfl,_,rfl,_,rfl,_,rfl,C,_,rfl,.inl ⟨aU.of (qE8 _ _ h5),fun Oe qL8=>?_⟩⟩;have S:=zF qL8 (.tup vs);have i16:upd O Oe (.tup vs) Oe=some (.tup vs):=zC;generalize upd O Oe (.tup vs)=H16 at S i16 ⊢;refine⟨_,rfl,_,rfl,_,rfl,zJ (by show 7<=1000;decide),fun pc Vy=>?_⟩
 obtain⟨X,rfl,lb5⟩:∃ X:Nat,lt=(X:Int)/\X<=5:=by
  simp only[List.mem_cons,List.not_mem_nil,or_false]at hlt;exact⟨lt.toNat,by lia,by lia⟩
 obtain⟨T,rfl,tm1,tm4⟩:∃ T:Nat,tn=(T:Int)/\1<=T/\T<=4:=by
  simp only[List.mem_cons,List.not_mem_nil,or_false]at htn;exact⟨tn.toNat,by lia,by lia,by lia⟩
 have R:=zF Vy (.tup [.str od,.int (X:Int),.int (T:Int),.ref Oe,.ref pn,.ref t,.ref pdo]);have O8:=(KZ.trans S).trans R;have U5:=((Z.trans M)).trans O8
 have ee:e=((p.length:Nat):Int):=by lia
 have hod:od = "inner" ∨ od = "outer" := by simpa using hom
 subst J;refine q pc ⟨od,(X:Int),(T:Int),bs,p,rs,ds⟩ _ (YQ.trans O8) ⟨Oe,pn,t,pdo,vs,rv,dv,zC,R _ _ i16,gW.gP.mono W (aB.of ((qE8.trans S).trans R)),((s9.trans uz).trans U5) _ _ h8n,U5 _ _ hrv,gW.cL.mono hR (aB.of U5),O8 _ _ hdv,gW.jx.mono hDv (aB.of O8)⟩ ?_ ⟨T,rfl,tm4⟩;rw[hsz0,ee]at qIG hro;exact⟨hod,⟨X,rfl,lb5⟩,⟨T,rfl,tm1,by lia⟩,by show bs.length<=6;lia,⟨_,hst⟩,qKT,⟨_,e4⟩,⟨sd,dl,good,low,by lia,lrd,hro⟩,d12,qIG⟩
end CJ
namespace CJ
open PySem L2 jP lN vB xM Wds gW
open DQ (Al)
open Ru (Wy Dx Cz oK mZ RmD)
theorem Wq(h:HS H v ds):oK H v ds:=by
 obtain⟨a,Y,e,f,q⟩:=h;refine⟨a,Y,e,f,?_⟩;clear f
 induction q with
 | nil=>exact .nil
 | cons h _ i=>exact .cons h i
theorem qBM(h:cL H rv rs):∃ R:aw Rm,lB H rv R/\R.length=rs.length/\∀(k:Nat)(r:Ro),rs[k]? = some r->∃ b,R[k]? = some b/\b.kind=r.kind/\b.depth=r.depth/\b.jn=r.jn/\oK H b.ins r.ins/\oK H b.outs r.outs:=by
 induction h with
 | nil=>exact⟨[],.nil,rfl,fun k r z=>by simp at z⟩
 | @cons v x vs xs h _ g=>
  obtain⟨R,i,I,d⟩:=g;obtain⟨a,j,o,e,f,q,c⟩:=h;refine⟨⟨x.nm,x.kind,x.depth,x.keeps,x.jn,j,o⟩::R,.cons ⟨a,e,f⟩ i,by rw[dG,dG,I],fun k r z=>?_⟩
  cases k with
  | zero=>
   cases z
   exact⟨_,rfl,rfl,rfl,rfl,Wq q,Wq c⟩
  | succ k=>exact d k r z
def DxG(n N:Nat)(d:Dx):Prop:=d.room<n/\d.way.gl<n/\d.g.ok N/\d.g.ht<=3/\(∀ x∈d.dd,x.ok N)/\d.dd.length<=8
theorem qAV(h:qI sz e d):d.ok sz.length:=by
 cases d with
 | say w=>intro b z;cases z
 | send x=>intro b z;cases z
 | set b n=>intro J z;cases z;exact h.1
 | add b n=>intro J z;cases z;exact h.1
theorem Eo{N:Nat}{r:Int}:∀ {g:Gd},GoodG (N:Int) r g->g.ok N
 | .yes,_=>trivial
 | .is b n,h=>h.1
 | .under b n,h=>h.1
 | .inn x,h=>trivial
 | .neg g,h=>Eo (g:=g) h
 | .both g k,h=>⟨Eo (g:=g) h.1,Eo (g:=k) h.2⟩
 | .either g k,h=>⟨Eo (g:=g) h.1,Eo (g:=k) h.2⟩
theorem qD0(N:0<rs.length)(h:jx H dv D):(∀ d∈D,DrG sz e rs d)->∃ xs:aw Dx,Al (Cz H) dv xs/\xs.length=D.length/\∀ x∈xs,DxG rs.length sz.length x:=by
 induction h with
 | nil=>exact fun _=>⟨[],.nil,rfl,fun x z=>by cases z⟩
 | @cons v d vs D h _ o=>
  intro G;obtain⟨xs,I,k,m⟩:=o fun d hd=>G d (Hr _ hd);obtain⟨a,f,i,E,n,q,l⟩:=h;have g:=G d (FZ ..)
  obtain⟨y,y1,y2,y3⟩:∃ y:Wy,y.tx=d.way/\y.gv=gv d.goal/\y.gl<rs.length:=by
   rcases g.wy with ⟨E,c⟩ | ⟨E,j,c,L,_⟩
   .exact⟨.stay,E.symm,by rw[c];rfl,N⟩
   .rcases E with E | E
    .exact⟨.to j,E.symm,by rw[c];rfl,L⟩
    .exact⟨.back j,E.symm,by rw[c];rfl,L⟩
  have r:((d.room.toNat:Nat):Int)=d.room:=fe g.rm.1;refine⟨⟨d.room.toNat,d.event,d.guard,d.pZ,y⟩::xs,.cons ⟨a,f,i,E,by show H a=some (.tup [.int ((d.room.toNat:Nat):Int),.int d.event,f,i,.str y.tx,y.gv]);rw[r,y1,y2];exact n,q,Wq l⟩ I,by rw[dG,dG,k],fun x b=>?_⟩;rcases dD.mp b with rfl | b
  .refine⟨?_,y3,Eo g.g,g.ht,fun x b=>qAV (g.dd x b),g.l8⟩;have:=g.rm.2;show d.room.toNat<rs.length;omega
  .exact m x b
theorem qIH(h:gP H bv bs):Al (mj.SQ H) bv (bs.map fun b=>(b.size,b.start)):=by
 induction h with
 | nil=>exact .nil
 | cons h _ i=>
  obtain⟨a,e,h⟩:=h;exact .cons ⟨a,_,e,h⟩ i
structure Runs(c:Ch)(d:mZ)(bs:List (Int×Int)):Prop where
 ok:mj.uw d bs
 jn:∀(k:Nat)(r:Ro),c.rooms[k]? = some r->∃ r',d.rs[k]? = some r'/\r'.jn=r.jn
 len:d.rs.length=c.rooms.length
theorem ChG.runs(h:gW.jJ H t c)(g:ChG c):∃(d:mZ)(bs:aw (Int×Int)),mj.Sy H t d bs c.evs.length/\Runs c d bs:=by
 obtain⟨tb,te,U,O,bv,J,Y,N,h2,B,h4,C,M,w,h8⟩:=h;obtain⟨_,⟨v,S,l2⟩,⟨tn,t1,Q,T⟩,_,⟨_,bx⟩,_,⟨_,_⟩,⟨_,D,G,L,_,W,x⟩,_,dr⟩:=g;have p:=G.pos;obtain⟨R,F,s,m⟩:=qBM M;obtain⟨xs,y,_,X⟩:=qD0 (by omega) h8 dr;have Z:(c.oX.map (·.size)).length=c.oX.length:=bT _
 have l:aD R=D:=by
  refine ft fun k=>?_;unfold aD;rw[dZ]
  by_cases j:k<c.rooms.length
  .obtain⟨a,E,_,i,_⟩:=m k _ (fQ j);rw[E,fQ (show k<D.length by omega)];show some a.depth=_;rw[i,(x k _ (fQ j)).dp,jT,fQ (show k<D.length by omega)];rfl
  .rw[fN (by omega),fN (by omega)];rfl
 have at_:∀ {k:Nat} {a:Rm},R[k]? = some a->∃ r,c.rooms[k]? = some r/\a.kind=r.kind/\oK H a.ins r.ins/\oK H a.outs r.outs:=fun {k a} e=>by
  have j:=(oW.mp e).1;obtain⟨_,E,i,_,_,e4,A⟩:=m k _ (fQ (show k<c.rooms.length by omega));rw[e]at E
  cases E
  exact⟨_,fQ (by omega),i,e4,A⟩
 have P:∀ f:Ro->aw Dd,(∀(k:Nat)(r:Ro),c.rooms[k]? = some r->(∀ d∈f r,qI (c.oX.map (·.size)) (c.evs.length:Int) d)/\(f r).length<=8)->∀ k:Nat,(∀ d∈(c.rooms.map f).getD k [],d.ok (c.oX.map (·.size)).length)/\((c.rooms.map f).getD k []).length<=8:=fun f u k=>by
  rw[jT,dZ]
  cases e:c.rooms[k]? with
  | none=>exact⟨nofun,bo _⟩
  | some r=>exact⟨fun d hd=>qAV ((u k r e).1 d hd),(u k r e).2⟩
 refine⟨⟨c.order,v,tn,c.oX.map (·.size),R,fun k=>(c.rooms.map (·.ins)).getD k [],fun k=>(c.rooms.map (·.outs)).getD k [],xs⟩,c.oX.map fun b=>(b.size,b.start),⟨tb,te,U,O,bv,_,J,Y,by rw[<-S,<-t1];exact N,h2,qIH B,h4,bT _,C,F,fun k a e=>?_,w,y⟩,⟨⟨⟨?_,?_,?_,?_,?_,?_,?_,?_,fun d hd=>?_⟩,?_,?_,?_,?_,?_,fun d hd=>?_,l2,Q,T⟩,fun k r hr=>?_,s⟩⟩
 .obtain⟨r,E,_,i,I⟩:=at_ e;show oK H a.ins ((c.rooms.map (·.ins)).getD k [])/\oK H a.outs ((c.rooms.map (·.outs)).getD k []);rw[jT,jT,dZ,dZ,E];exact⟨i,I⟩
 .show Tr.Good (aD R);rw[l];exact G
 .show R.length<=40;omega
 .show (c.oX.map (·.size)).length<=6;omega
 .intro z o;obtain⟨b,n,rfl⟩:=eX.mp o;obtain⟨k,j⟩:=gT.mp n;have:=(bx k b j).sz.1;omega
 .show v<=12;omega
 .exact P (·.ins) fun k r e=>⟨(x k r e).di,(x k r e).l8.1⟩
 .exact P (·.outs) fun k r e=>⟨(x k r e).dO,(x k r e).l8.2⟩
 .show xs.length<=63;omega
 .have z:=X d hd;rw[<-s]at z;exact⟨z.1,z.2.1,z.2.2.2.2⟩
 .show c.oX.map (·.size)=(c.oX.map fun b=>(b.size,b.start)).map (·.1);rw[gz];rfl
 .intro z o;obtain⟨b,n,rfl⟩:=eX.mp o;obtain⟨k,j⟩:=gT.mp n;exact (bx k b j).st
 .intro k a e;obtain⟨r,E,i,_⟩:=at_ e;have z:=(x k r E).sh;show if k+1<R.length/\(aD R).getD k 0<(aD R).getD (k+1) 0 then _ else _;rw[l,s,W,i]
  by_cases q:k+1<D.length/\D.getD k 0<D.getD (k+1) 0
  .rw[cS q]at z ⊢;exact z
  .rw[cK q]at z ⊢;exact z.1
 .show mj.Xx (aD R);rw[l];exact L
 .show R.length<=10;omega
 .have z:=X d hd;exact⟨z.2.2.1,z.2.2.2.1⟩
 .obtain⟨a,E,_,_,i,_⟩:=m k r hr;exact⟨a,E,i⟩
end CJ
namespace CJ
open PySem L2 jP lN vB xM Wds gW
def ChG.other{c:Ch}(g:ChG c){od:Str}{t:Nat}(h:od = "inner" ∨ od = "outer")(t1:1<=t)(T:t<=5):ChG { c with order:=od,turns:=(t:Int) }:=
 ⟨h,g.lb,⟨t,rfl,t1,T⟩,g.b6,g.bx,g.e8,g.ev,g.ro,g.d12,g.dr⟩
def Um(h:mj.uw d bs)(t1:1<=tn)(T:tn<=5):mj.uw { d with od:=od,tn:=tn } bs:=
 ⟨⟨h.ok.good,h.ok.r40,h.ok.b6,h.ok.pos,h.ok.Ss,h.ok.ins,h.ok.outs,h.ok.d63,h.ok.door⟩,h.sz,h.st,h.fit,h.low,h.l10,h.g,h.l5,t1,T⟩
end CJ
namespace L2
open PySem
def uL{e:Expr}:PE X e fun _ _ _=>False:=fun _ _ _ _ _ _ h=>h.elim
theorem yp{P:Int->Prop}:∀ {l:aw V},(∀ v∈l,∃ n,v = .int n/\P n)->∃ ns:aw Int,l=ns.map V.int/\∀ n∈ns,P n
 | [],_=>⟨[],rfl,nofun⟩
 | v::l,h=>by
  obtain⟨n,rfl,p⟩:=h v FZ;obtain⟨ns,rfl,q⟩:=yp fun u d=>h u (Hr _ d);exact⟨n::ns,rfl,List.forall_mem_cons.mpr ⟨p,q⟩⟩
def qD7{l:aw V}(h:∀ v∈l,v = .bl b):l=(List.replicate l.length b).map V.bl:=by rw[List.map_replicate];exact List.eq_replicate_iff.mpr ⟨rfl,h⟩
def Br{l:aw V}(h:∀ v∈l,v = .bl b):aU K (upd H p (.lst l)) p ((List.replicate l.length b).map V.bl):=by rw[<-qD7 h];exact aU.of zC
def qg{xs:aw V}(R:V->Prop)(e:H1 a=some (.lst xs))(j:xs.length<=1000)
  (f:∀ x∈xs,∀ H,aH H1 H->∀(Y:VK)(N:Hp->Prop),(∀ v c,aH H1 c->R v->Y v c)->(∀ h,aH H1 h->N h)->tc (some x::cs) H fun b h=>if b=true then te (some x::cs) h Y else N h)
  (hd:∀ A H,aH H1 H->(∀ v∈A,R v)->A.length<=xs.length->Z A H):lD (Itl K a) cs tc te H1 Z:=
 yT (fun i A H=>aH H1 H/\(∀ v∈A,R v)/\A.length<=i) ⟨aH.refl _,nofun,bD _⟩ (fun i A H p=>aU.of (p.1 _ _ e)) (fun i x A H d p=>f x (SX d) H p.1 _ _ (fun v c s r=>⟨zW (by have:=(oW.mp d).1;omega),s,fun u g=>(jz.mp g).elim (p.2.1 u) fun z=>by rw[jA.mp z];exact r,by rw[j8];exact iX p.2.2⟩) fun h s=>⟨s,p.2.1,Nat.le_succ_of_le p.2.2⟩) fun A H p=>hd A H p.1 p.2.1 p.2.2
end L2
namespace FP
open PySem L2 jP lN
inductive Lf(b r:Int)(H:Hp):V->Prop
 | yes:H a=some (.tup [.str "yes"])->Lf b r H (.ref a)
 | box {k:Str}:k = "is" ∨ k = "under" -> H a=some (.tup [.str k,.int i,.int n])->0<=i/\i<b -> -(10 ^ 30)<=n/\n<=10 ^ 30->Lf b r H (.ref a)
 | inn:H a=some (.tup [.str "in",.int i])->0<=i/\i<r->Lf b r H (.ref a)
inductive Gw(b r:Int)(H:Hp):Nat->V->Prop
 | leaf:Lf b r H v->Gw b r H (n+1) v
 | neg:H a=some (.tup [.str "not",v])->Gw b r H n v->Gw b r H (n+1) (.ref a)
 | two {k:Str}:k = "both" ∨ k = "either" -> H a=some (.tup [.str k,v,u])->Gw b r H n v->Gw b r H n u->Gw b r H (n+1) (.ref a)
theorem Lf.keep(x:Lf b r H v)(s:aB H H'):Lf b r H' v:=by
 cases x with
 | yes e=>exact .yes (s _ _ e)
 | box c e h i=>exact .box c (s _ _ e) h i
 | inn e h=>exact .inn (s _ _ e) h
def Lf.mono(x:Lf b r H v)(s:aH H H'):Lf b r H' v:=x.keep (.of s)
theorem Gw.mono(x:Gw b r H n v)(s:aH H H'):Gw b r H' n v:=by
 induction x with
 | leaf l=>exact .leaf (l.mono s)
 | neg e _ i=>exact .neg (s _ _ e) i
 | two c e _ _ i j=>exact .two c (s _ _ e) i j
theorem Lf.hd(x:Lf b r H v):∃(a:ar)(k:Str)(t:aw V),v = .ref a/\H a=some (.tup (.str k::t))/\¬ k = "not" /\ inV (.str k) [.str "both",.str "either"]=false:=by
 cases x with
 | yes e=>exact⟨_,_,_,rfl,e,by decide +kernel,by decide +kernel⟩
 | box c e=>rcases c with rfl | rfl <;> exact⟨_,_,_,rfl,e,by decide +kernel,by decide +kernel⟩
 | inn e=>exact⟨_,_,_,rfl,e,by decide +kernel,by decide +kernel⟩
def oh:Sp:=fun vs H Q _ => ∃(b r:Int)(n:Nat)(v:V),vs=[v]/\Gw b r H (n+1) v/\∀(p:ar)(us:aw V)(h:Hp),aH H h->H p=none->h p=some (.lst us)->us.length<=2->(us=[]->Lf b r H v)->(∀ u∈us,Gw b r H n u)->Q (.ref p) h
def lV(n:Nat):Sp:=fun vs H Q _ => ∃(b r:Int)(m:Nat)(v:V),vs=[v]/\Gw b r H m v/\m<=n/\∀(x:Int)(h:Hp),x<=m->aH H h->Q (.int x) h
def iH(n:Nat):Sp:=fun vs H Q _ => ∃(b r:Int)(m:Nat)(v:V),vs=[v]/\Gw b r H m v/\m<=n/\m<=5/\∀(p:ar)(us:aw V)(h:Hp),aH H h->H p=none->h p=some (.lst us)->us.length<=2 ^ m->(∀ u∈us,Lf b r h u)->Q (.ref p) h
def Nz:Sp:=fun vs H Q _ => ∃(b r:Int)(m:Nat)(v:V),vs=[v]/\Gw b r H m v/\m<=5/\∀(t p P:ar)(bs R:aw Int)(h:Hp),aH H h->h t=some (.tup [.ref p,.ref P])->h p=some (.lst (bs.map V.int))->h P=some (.lst (R.map V.int))->bs.length<=63->R.length<=63->(∀ i∈bs,0<=i/\i<b)->(∀ i∈R,0<=i/\i<r)->Q (.ref t) h
def QL:aF ["guard"] ["guard"] (aA xr):=cQ
theorem Qf(F:bO K "guards_within" "guards_within" xr f fd):aL P w K mg base aN 1 f fd ["guard"] oh:=by
 refine F.ok QL ?_ ?_
 .rintro _ _ _ _⟨b,r,n,v,rfl,_⟩;rfl
 intro _ A _ s H _ Q E _ h
 obtain⟨b,r,n,v,rfl,z,q⟩:=h
 refine⟨_,(zE (yE (zM yH (yC zH (pv 0) zB (fun _ _=>rfl)) zQ (zS _))
  (zG (zP (yL (zA (yC zH (pv 0) zB (fun _ _=>rfl)) zD))))
  zU)
  (zE (yE (zM jM (yC zH (pv 0) zB (fun _ _=>rfl)) (zX (zA zQ (zA zQ zD))) rfl)
  (zG (zP (yL (zA (yC zH (pv 0) zB (fun _ _=>rfl)) (zA (yC zH (pv 0) zB (fun _ _=>rfl)) zD)))))
  zU)
  (zG (zP (yL zD))))),?_⟩
 cases z with
 | leaf l=>
  obtain⟨a,k,_,rfl,e,c,d⟩:=l.hd;exact⟨_,rfl,a,_,_,_,rfl,rfl,aJ.of e,gW.Bu,rfl,_,rfl,yO c ⟨_,rfl,a,_,_,_,rfl,rfl,aJ.of e,gW.Bu,zJ (by show 2<=1000;decide),fun p j=>⟨p,_,rfl,.inr (aJ.of zC),rfl,rfl,_,rfl,eE d ⟨bo _,fun o i=>q o [] _ ((zF j _).trans (zF i _)) ((zF j _).free i) zC (by decide) (fun _=>l) nofun⟩⟩⟩⟩
 | @neg a v n e g=>exact⟨_,rfl,a,_,_,_,rfl,rfl,aJ.of e,rfl,rfl,_,rfl,yP ⟨_,rfl,a,_,_,_,rfl,rfl,aJ.of e,rfl,zJ (by show 1<=1000;decide),fun p j=>q p [v] _ (zF j _) j zC (ip 1) nofun fun u y=>by rw[jA.mp y];exact g⟩⟩
 | @two a v u n k c e g h=>
  have m:∀ x∈[v,u],Gw b r H n x:=List.forall_mem_cons.mpr ⟨g,List.forall_mem_singleton.mpr h⟩
  have d:¬ k = "not" /\ inV (.str k) [.str "both",.str "either"]=true:=by rcases c with rfl | rfl <;> decide +kernel
  refine⟨_,rfl,a,_,_,_,rfl,rfl,aJ.of e,rfl,rfl,_,rfl,yO d.1 ⟨_,rfl,a,_,_,_,rfl,rfl,aJ.of e,rfl,zJ (by show 2<=1000;decide),fun p j=>⟨p,_,rfl,.inr (aJ.of zC),rfl,rfl,_,rfl,Hq d.2 ?_⟩⟩⟩;have t:=(zF j (.tup [.str "both",.str "either"])) _ _ e;exact⟨_,rfl,a,_,_,_,rfl,rfl,aJ.of t,rfl,_,rfl,a,_,_,_,rfl,rfl,aJ.of t,rfl,zJ (by show 2<=1000;decide),fun o i=>q o [v,u] _ ((zF j _).trans (zF i _)) ((zF j _).free i) zC (bD 2) nofun m⟩
theorem qAN{f:Nat->Int}(h:∀ i,f i<=M):∀(k:Nat)(b:Int)(j:Nat),b<=M->Sw.RC f b j k<=M
 | 0,b,j,c=>c
 | k+1,b,j,c=>qAN h k _ _ (by split;exact h j;exact c)
theorem qCF{ns:aw Int}{n:Nat}(h:∀ m∈ns,m<=(n:Int)):Sw.mxN (fun i=>ns.getD i 0) 0 ns.length<=(n:Int):=by
 have h':∀ i,ns.getD i 0<=(n:Int):=fun i=>by
  rw[jT]
  cases e:ns[i]? with
  | none=>exact fb n
  | some z=>exact h z (SX e)
 cases ns.length with
 | zero=>exact fb n
 | succ k=>exact qAN h' k _ 1 (h' 0)
def QQ:aF ["guard"] ["guard"] (aA qW):=cQ
theorem Qq{f G:ar}{a I:af}(F:bO K "height" "height" qW f a)(C:Dp P w K mg base aN (n+1) f a ["guard"] (lV n) "height")
  (t:Dp P w K mg base aN (n+1) G I ["guard"] oh "guards_within") (O:mg "max" = none) :
  aL P w K mg base aN (n+2) f a ["guard"] (lV (n+1)):=by
 refine F.ok QQ ?_ ?_
 .rintro _ _ _ _⟨b,r,m,v,rfl,_⟩;rfl
 intro _ A _ s H _ Q E i h
 obtain⟨b,r,m,v,rfl,g,_,q⟩:=h;refine⟨_,(zG (zP (yD yG zB (Yk rfl rfl O (zA (yU (bF:=[]) rfl (show bA (aA qW) ["guard"] _ _ _ from vA) (yN (pC t i (zA (pv 0) zD))) (fun _ _ _ _ _ _=>bQ) (fun _ _ _ _ _ _=>(pC C i (zA (pv 0) zD)))) zD))))),?_⟩
 cases m with
 | zero=>cases g
 | succ m=>
 refine⟨_,rfl,b,r,m,v,rfl,g,fun p _ _ e _ c _ _ u=>⟨p,rfl,⟨_,aU.of c⟩,?_⟩⟩;refine qg (K:=K) (fun v => ∃ x,v = .int x/\x<=(m:Int)) c (by omega) (fun x k D S Y N y _=>?_) fun _ D S o _ B d=>?_
 .exact⟨_,rfl,b,r,m,x,rfl,(u x k).mono (e.trans S),by omega,fun z _ l W=>y _ _ (S.trans W) ⟨z,rfl,l⟩⟩
 .obtain⟨ns,rfl,j⟩:=yp o;exact⟨B,ns,rfl,aU.of zC,_,_,rfl,rfl,q _ _ (by have:=qCF j;omega) ((e.trans S).trans (zF d _))⟩
def JS:aL P w K mg base aN 1 f fd ["guard"] (lV 0):=by
 have n:∀ vs H Q E,¬ lV 0 vs H Q E:=fun vs H Q E ⟨_,_,_,_,_,g,m,_⟩=>by
  cases Nat.le_zero.mp m
  cases g
 exact⟨fun vs H Q E h=>eu h (n vs H Q E),fun A _ s H _ _ vs Q E _ _ _ _ h=>eu h (n vs H Q E)⟩
theorem Bw(F:bO K "height" "height" qW f fd)(J:Binds K fd ["guard"] [])(j:mg "height" = some (.ref f))(t:Dp P w K mg base aN 1 gw dw ["guard"] oh "guards_within")(O:mg "max" = none) :
  ∀ n:Nat,aL P w K mg base aN (n+1) f fd ["guard"] (lV n)
 | 0=>JS
 | n+1=>Qq F ⟨Bw F J j t O n,J,F.kp,j⟩ ⟨t.G.mono (show 1<=n+1 by omega),t.b,t.k,t.m⟩ O
def eU:aF ["guard","inner","plain","within"] ["guard"] (aA jd):=cQ
theorem Uu{f gw:ar}{D dw:af}(F:bO K "plain_guards" "plain_guards" jd f D)(dX:Dp P w K mg base aN (n+1) f D ["guard"] (iH n) "plain_guards")
  (aQ:Dp P w K mg base aN (n+1) gw dw ["guard"] oh "guards_within") (U:mg "len" = none) :
  aL P w K mg base aN (n+2) f D ["guard"] (iH (n+1)):=by
 refine F.ok eU ?_ ?_
 .rintro _ _ _ _⟨b,r,m,v,rfl,_⟩;rfl
 intro _ A _ s H _ Q E T h
 obtain⟨b,r,m,v,rfl,R,_,_,q⟩:=h
 refine⟨_,(zE (zL (i:=1) eU.nd rfl (bb rfl) (pC aQ T (zA (pv 0) zD)))
  (zE (yE (zM yH (zT zO rfl U bj (zA (pv 1) zD)) zB (zS _))
  (zG (zP (yL (zA (pv 0) zD))))
  zU)
  (zE (zL (i:=2) eU.nd rfl (bb rfl) (yL zD))
  (zE (bf PassesOwn.never rfl (yN (pv 1)) (yK (i:=3) eU.nd rfl (bb rfl))
  (zG (yJ (dU iu kz kC cG (pv 2) (zA (pC dX T (zA (pv 3) zD)) zD)))))
  (zG (zP (pv 2))))))),?_⟩
 cases m with
 | zero=>cases R
 | succ m=>
 refine⟨_,rfl,b,r,m,v,rfl,R,fun p us H1 g _ B l2 h0 j=>?_⟩;refine⟨_,rfl,p,_,rfl,.inl (aU.of B),rfl,_,rfl,fO (fun c=>?_) (fun _=>?_)⟩
 .have Y:V.int ((us.length:Nat):Int)=V.int 0:=ba c;injection Y with c2;exact⟨_,rfl,zJ (by show 1<=1000;decide),fun p2 e=>q p2 [v] _ (g.trans (zF e _)) (g.free e) zC Nat.one_le_two_pow fun u j=>by rw[jA.mp j];exact (h0 (fo (by omega))).mono (g.trans (zF e _))⟩
 have Z:2 ^ m<=2 ^ 5:=iP (by decide) (by omega);refine⟨bo _,fun o d=>?_⟩;refine⟨_,rfl,p,rfl,⟨_,aU.of ((zF d _) _ _ B)⟩,?_⟩;refine pX (K:=K) (a:=p) (xs:=us) (fun i σ' t=>∃(W:aw V)(O:aE V),aH H1 t/\t o=some (.lst W)/\W.length<=i*2 ^ m/\(∀ u∈W,Lf b r t u)/\σ'=[some v,some (.ref p),some (.ref o),O])
  ⟨[],none,zF d _,zC,bo _,nofun,rfl⟩ (fun i σ' t _ ⟨_,_,S,_⟩=>aU.of (S _ _ B)) ?_ ?_
 .rintro i x σ' M J ⟨W,O,S,y,L,I,rfl⟩;have hi:=(oW.mp J).1;refine⟨_,rfl,.inl ⟨rfl,_,aU.of y⟩,_,rfl,b,r,m,x,rfl,(j x (SX J)).mono (g.trans S),by omega,by omega,fun p3 zs G C _ X _ i3=>?_⟩;have k:=C _ _ y
  have N:(W++zs).length<=(i+1)*2 ^ m:=by rw[j8,Nat.succ_mul];omega
  have i1:(i+1)*2 ^ m<=2*2 ^ m:=Nat.mul_le_mul_right _ (by omega);rw[j8]at N;have kl:∀ u,Lf b r G u->Lf b r (upd G o (.lst (W++zs))) u:=fun u l=>l.keep (aB.lst k _);exact⟨o,p3,W,zs,rfl,rfl,k,X,zJ (by omega),W++zs,_,bW d (S.trans C) _,zC,by rw[j8];exact N,fun u j=>kl u ((jz.mp j).elim (fun z=>(I u z).mono C) (i3 u)),rfl⟩
 .rintro σ' M ⟨W,O,S,y,L,I,rfl⟩;exact⟨_,rfl,q o W M (g.trans S) (g.free d) y (br L (by rw[Nat.pow_succ,Nat.mul_comm];exact Nat.mul_le_mul_left _ l2)) I⟩
def M4:aL P w K mg base aN 1 f fd ["guard"] (iH 0):=by
 have n:∀ vs H Q E,¬ iH 0 vs H Q E:=fun vs H Q E ⟨_,_,_,_,_,g,m,_⟩=>by
  cases Nat.le_zero.mp m
  cases g
 exact⟨fun vs H Q E h=>eu h (n vs H Q E),fun A _ s H _ _ vs Q E _ _ _ _ h=>eu h (n vs H Q E)⟩
theorem all_plain(F:bO K "plain_guards" "plain_guards" jd f fd)(q:Binds K fd ["guard"] [])(Q:mg "plain_guards" = some (.ref f))(t:Dp P w K mg base aN 1 gw dw ["guard"] oh "guards_within")(p:mg "len" = none) :
  ∀ n:Nat,aL P w K mg base aN (n+1) f fd ["guard"] (iH n)
 | 0=>M4
 | n+1=>Uu F ⟨all_plain F q Q t p n,q,F.kp,Q⟩ ⟨t.G.mono (show 1<=n+1 by omega),t.b,t.k,t.m⟩ p
def tK:aF ["guard","plain","boxes","rooms"] ["guard"] (aA vO):=cQ
theorem VF(F:bO K "asked" "asked" vO f fd)(dX:Dp P w K mg base aN 21 gp dp ["guard"] (iH 20) "plain_guards")
  (U:mg "sorted" = none) (g:mg "set" = none):aL P w K mg base aN 22 f fd ["guard"] Nz:=by
 refine F.ok tK ?_ ?_
 .rintro _ _ _ _⟨b,r,m,v,rfl,_⟩;rfl
 intro _ A _ s H _ Q E hr h
 obtain⟨b,r,m,v,rfl,hg,m5,q⟩:=h
 refine⟨_,(zE (zL (i:=1) tK.nd rfl (bb rfl) (pC dX hr (zA (pv 0) zD)))
  (zE (uI (i:=2) (bF:=[]) rfl tK.nd rfl (bb rfl) (show bA (aA vO) ["guard","plain","boxes","rooms"] _ _ _ from vA) (yN (pv 1)) (fun _ _ _ _ _ _=>cW (zM (r:=rIn K false) jM (yC (r:=dM K) zH (pv 0) zB (fun _ _=>rfl)) (zX (zA zQ (zA zQ zD))) rfl)) (fun _ _ _ _ _ _=>(yC (r:=dM K) zH (pv 0) zB (fun _ _=>rfl))))
  (zE (uI (i:=3) (bF:=[]) rfl tK.nd rfl (bb rfl) (show bA (aA vO) ["guard","plain","boxes","rooms"] _ _ _ from vA) (yN (pv 1)) (fun _ _ _ _ _ _=>cW (zM yH (yC (r:=dM K) zH (pv 0) zB (fun _ _=>rfl)) zQ (zS _))) (fun _ _ _ _ _ _=>(yC (r:=dM K) zH (pv 0) zB (fun _ _=>rfl))))
  (zG (zP (zX (zA (BJ rfl rfl U rfl g (zA (pv 2) zD)) (zA (BJ rfl rfl U rfl g (zA (pv 3) zD)) zD)))))))),?_⟩
 have p32:2 ^ m<=2 ^ 5:=iP (by decide) m5;refine⟨_,rfl,b,r,m,v,rfl,hg,by omega,m5,fun p _ _ s1 _ l _ R=>⟨_,rfl,p,rfl,⟨_,aU.of l⟩,?_⟩⟩;refine qg (K:=K) (fun v => ∃ i,v = .int i/\0<=i/\i<b) l (by omega) (fun x u H' S Y N y n=>?_) fun C _ S ha la p2 I=>?_
 .cases (R x u).mono S with
  | @yes a e=>exact⟨_,rfl,a,_,_,_,rfl,rfl,aJ.of e,rfl,zJ (by show 2<=1000;decide),fun pt G=>⟨pt,_,rfl,.inr (aJ.of zC),rfl,rfl,_,rfl,eE (by decide +kernel) (n _ (S.trans (zF G _)))⟩⟩
  | @box a i _ k c e h=>exact⟨_,rfl,a,_,_,_,rfl,rfl,aJ.of e,rfl,zJ (by show 2<=1000;decide),fun pt G=>⟨pt,_,rfl,.inr (aJ.of zC),rfl,rfl,_,rfl,Hq (by rcases c with rfl | rfl <;> decide +kernel) ⟨_,rfl,a,_,_,_,rfl,rfl,aJ.of ((zF G _) _ _ e),rfl,y _ _ (S.trans (zF G _)) ⟨i,rfl,h⟩⟩⟩⟩
  | @inn a i e h=>exact⟨_,rfl,a,_,_,_,rfl,rfl,aJ.of e,rfl,zJ (by show 2<=1000;decide),fun pt G=>⟨pt,_,rfl,.inr (aJ.of zC),rfl,rfl,_,rfl,eE (by decide +kernel) (n _ (S.trans (zF G _)))⟩⟩
 obtain⟨bs,rfl,hb⟩:=yp ha;have W:=S.trans (zF I (.lst (bs.map V.int)));refine⟨_,rfl,p,rfl,⟨_,aU.of (W _ _ l)⟩,?_⟩;refine qg (K:=K) (fun v => ∃ i,v = .int i/\0<=i/\i<r) (W _ _ l) (by omega) (fun x u H' d Y N y n=>?_) fun C _ d D L p4 M=>?_
 .cases (R x u).mono (W.trans d) with
  | @yes a e=>exact⟨_,rfl,a,_,_,_,rfl,rfl,aJ.of e,rfl,rfl,_,rfl,yO (by decide +kernel) (n _ d)⟩
  | @box a i _ k c e h=>exact⟨_,rfl,a,_,_,_,rfl,rfl,aJ.of e,rfl,rfl,_,rfl,yO (by rcases c with rfl | rfl <;> decide +kernel) (n _ d)⟩
  | @inn a i e h=>exact⟨_,rfl,a,_,_,_,rfl,rfl,aJ.of e,rfl,rfl,_,rfl,yP ⟨_,rfl,a,_,_,_,rfl,rfl,aJ.of e,rfl,y _ _ d ⟨i,rfl,h⟩⟩⟩
 obtain⟨rs,rfl,B⟩:=yp D;rw[bT]at la L;have Z:=d.trans (zF M (.lst (rs.map V.int)));refine⟨_,rfl,p2,bs,rfl,aU.of (Z _ _ zC),by omega,fun X b1 o _ m1=>?_⟩;have O:=zF o (.lst (b1.map V.int));refine⟨_,rfl,p4,rs,rfl,aU.of (O _ _ zC),by omega,fun T r1 j _ m2=>⟨zJ (by show 2<=1000;decide),fun t ht=>?_⟩⟩;have J:=zF ht (.tup [.ref X,.ref T]);exact q t X T b1 r1 _ ((((s1.trans W).trans Z).trans O).trans ((zF j _).trans J)) zC (J _ _ ((zF j _) _ _ zC)) (J _ _ zC) (by omega) (by omega) (fun i z=>hb i (m1 i z)) fun i z=>B i (m2 i z)
end FP
namespace gW
open L2
theorem eQ.back{R:V->α->Prop}{vs:aw V}{xs:aw α}(x:eQ R vs xs):∀ {k:Nat} {v:V},vs[k]? = some v->∃ a,xs[k]? = some a/\R v a:=by
 induction x with
 | nil=>intro k a h;simp at h
 | cons h _ i=>
  intro k a e
  cases k with
  | zero=>
   simp at e;subst e;exact⟨_,rfl,h⟩
  | succ k=>exact i (by simpa using e)
end gW
namespace dC
open PySem L2 jP lN xM Wds gW CJ
def says(H:Hp)(Q:VK)(b:Bool):Prop:=∀ h,aH H h->Q (.bl b) h
def Jq(a b:Str):decide (V.str a=V.str b)=decide (a=b):=bS.mpr ⟨fun h=>by injection h,fun h=>by rw[h]⟩
def Bs(H:Hp)(T t:ar)(bs:aw Bx)(ne:Int):Prop:=(∃ b,H T=some (.tup b)/\gP H b bs)/\∃ p:aw V,H t=some (.tup p)/\(p.length:Int)=ne
def Bs.mono(x:Bs H tb te bs ne)(s:aH H H'):Bs H' tb te bs ne:=⟨x.1.imp fun _ z=>⟨s _ _ z.1,gP.mono z.2 (aB.of s)⟩,x.2.imp fun _ z=>⟨s _ _ z.1,z.2⟩⟩
def nb2{a b:Bool}(f:a=true)(q:b=true):(!(a&&b))=false:=by rw[f,q];rfl
def qb{Q:VK}{b c:Bool}(h:b=c)(q:Q (.bl c) H):Q (.bl b) H:=h▸q
def DpH(H:Hp)(v:V)(e:Int):Prop:=∃(a:ar)(x y:V)(t:aw V),v = .ref a/\H a=some (.tup (x::y::.int e::t))
def zp:Sp:=fun vs H Q _ => ∃ z:Str,vs=[.str z]/\isW z=true/\says H Q true
def xj(K:bV):Sp:=fun vs H Q _ => ∃(z:Str)(a:ar)(zs:aw Str),vs=[.str z,.ref a]/\(aU K H a (zs.map V.str)∨aJ K H a (zs.map V.str))/\isW z=true/\z∉zs/\says H Q false
def Fg(K:bV):Sp:=fun vs H Q _ => ∃(a:ar)(xs:aw V)(zs:aw Str),vs=[.ref a]/\aJ K H a xs/\eQ (S8 H) xs zs/\zs.length<=1000/\∀ p,H p=none->Q (.ref p) (upd H p (.lst (zs.map V.str)))
def Tq:Sp:=fun vs H Q _ => ∃(v:V)(t:ar)(b:Bx)(xs:aw V)(zs:aw Str),vs=[v,.ref t]/\Hk H v b/\H t=some (.tup xs)/\eQ (S8 H) xs zs/\zs.length<=60/\isW b.nm=true/\b.nm∉zs/\(1<=b.size/\b.size<=big)/\(0<=b.start/\b.start<b.size)/\says H Q false
def Il:Sp:=fun vs H Q _ => ∃(d:Int)(t:ar)(R:aw V),vs=[.int d,.ref t]/\H t=some (.tup R)/\(R=[]/\d=0 ∨ ∃ v e,R≠[]/\mX R (-1)=some v/\DpH H v e/\1<=d/\d<=e+1/\d<=12)/\Q (.bl false) H
def Ie:Sp:=fun vs H Q _ => ∃(a b:Str),vs=[.str a,.str b]/\(a = "" ∨ a = "near" /\ b = "one" ∨ a = "deep" /\ (b = "one" ∨ b = "all"))/\says H Q false
def Tn:Sp:=fun vs H Q _ => ∃(v:V)(t:ar)(r:Ro)(R:aw V),vs=[v,.ref t]/\qA0 H v r/\H t=some (.tup R)/\(R=[]/\r.kind = "plain" ∨ ∃ v e,R≠[]/\mX R 0=some v/\DpH H v e/\decide (r.depth<e) = !decide (r.kind = "plain"))/\Q (.bl false) H
def LR:aF ["text"] ["text"] (aA tZ):=cQ
def Lw(F:bO K "is_word" "is_word" tZ f fd)(n:mg "len" = none)(J:mg "all" = none)(W:mg "LONGEST" = some (.int 12 tL))(I:mg "SMALL_LETTERS" = some (.str alpha tS)):aL P w K mg base aN 1 f fd ["text"] zp:=by
 refine F.ok LR ?_ ?_
 .rintro _ _ _ _⟨z,rfl,_⟩;rfl
 intro _ A _ s H _ Q E _ h
 obtain⟨z,rfl,o,q⟩:=h
 refine⟨_,zG (zP (rT (QZ fJ fJ zB (zT ue rfl n bj (zA (pv 0) zD)) (bC (v:=.int 12) rfl W ⟨_,rfl⟩))
  (gB (zT (qj rfl) rfl J kb (zA (yU (bF:=[]) rfl (show bA (aA tZ) ["text"] _ _ _ from vA) (qBV (pv 0)) (fun _ _ _ _ _ _=>bQ)
   (fun _ _ _ _ _ _=>bK Qe (pv 0) (bC (v:=.str alpha) rfl I ⟨_,rfl⟩) rfl)) zD))))),?_⟩
 obtain⟨c,d⟩:=dP.mp o;have l:=ba (dP.mp c).2;have L:z.cps.size<=12:=Int.ofNat_le.mp l;rw[List.all_map,ff]at d;refine⟨_,rfl,z,rfl,zJ (br L (by decide)),_,_,rfl,rfl,_,rfl,Hq c ⟨_,rfl,z,rfl,?_⟩⟩;refine Ww (fun i a g=>g=H/\i<=z.cps.size/\a.length=i/\∀ v∈a,v = .bl true) ⟨rfl,bo _,rfl,nofun⟩ (fun i T a g b ⟨j,_,m,e⟩=>?_) (fun a g ⟨j,_,_,e⟩ p r=>?_)
 .subst j;have t:i<z.cps.size:=(eB.mp b).1;have d':inA T=true:=d T (Array.mem_toList_iff.mpr (Array.mem_of_getElem? b));exact⟨_,rfl,_,_,rfl,rfl,zW (by omega),rfl,t,by rw[j8,m];rfl,fun v k=>(jz.mp k).elim (e v) fun y=>by rw[jA.mp y,<-d'];rfl⟩
 .subst j;exact⟨p,_,rfl,Br e,qb (Q:=Q) (by simp) (q _ (zF r _))⟩
def sZ:aF ["name","ahead"] ["name","ahead"] (aA yZ):=cQ
def Yv(F:bO K "name_has_fault" "name_has_fault" yZ f fd)(m:Dp P w K mg base aN n gw dw ["text"] zp "is_word") :
  aL P w K mg base aN (n+1) f fd ["name","ahead"] (xj K):=by
 refine F.ok sZ ?_ ?_
 .rintro _ _ _ _⟨z,a,zs,rfl,_⟩;rfl
 intro _ A _ s H _ Q E g h
 obtain⟨z,a,zs,rfl,d,e,j,q⟩:=h;refine⟨_,(zG (zP (wj (gC (pC m g (zA (pv 0) zD))) (gB (bK jM (pv 0) (pv 1) rfl))))),?_⟩;refine⟨_,rfl,z,rfl,e,fun b S=>⟨_,rfl,_,rfl,eE rfl ⟨_,rfl,_,rfl,a,_,rfl,d.imp (fun x=>S.seq x) (fun x=>S.qK2 x),rfl,QH _,?_⟩⟩⟩;show Q (.bl (inV (.str z) (zs.map V.str))) b;rw[ZG,eJ.mpr fun c=>j (List.contains_iff_mem.mp c)];exact q b S
def Iu:aF ["things"] ["things"] (aA pI):=cQ
def Uw(F:bO K "names_of" "names_of" pI f fd):aL P w K mg base aN 1 f fd ["things"] (Fg K):=by
 refine F.ok Iu ?_ ?_
 .rintro _ _ _ _⟨a,xs,zs,rfl,_⟩;rfl
 intro _ A _ s H _ Q E _ h
 obtain⟨a,xs,zs,rfl,d,c,l,q⟩:=h;refine⟨_,zG (zP (yU (bF:=[]) rfl (show bA (aA pI) ["things"] _ _ _ from vA) (nQ (pv 0)) (fun _ _ _ _ _ _=>bQ) (fun _ _ _ _ _ _=>(yC (r:=dM K) zH (pv 0) zB (fun _ _=>rfl))))),?_⟩;exact⟨_,rfl,a,rfl,⟨_,d⟩,Wx (K:=K) (zs:=zs) d c l (fun b _ z e Q q=>⟨_,rfl,b,_,_,_,rfl,rfl,aJ.of e,Bu,q⟩) q⟩
def gZ:aF ["box","ahead","size","start"] ["box","ahead"] (aA Fz):=cQ
def Z3(F:bO K "box_has_fault" "box_has_fault" Fz f fd)(o:Dp P w K mg base aN n gn dn ["things"] (Fg K) "names_of")(M:Dp P w K mg base aN n gw dw ["name","ahead"] (xj K) "name_has_fault")(G:mg "GREATEST" = some (.int big tG)) :
  aL P w K mg base aN (n+1) f fd ["box","ahead"] Tq:=by
 refine F.ok gZ ?_ ?_
 .rintro _ _ _ _⟨v,t,b,_,_,rfl,_⟩;rfl
 intro _ A _ s H _ Q E g h
 obtain⟨v,t,b,xs,zs,rfl,⟨a,rfl,c⟩,ht,z,_,k,j,⟨r,e⟩,⟨l,C⟩,q⟩:=h
 refine⟨_,(zE (zL (i:=2) gZ.nd rfl (bb rfl) (yC zH (pv 0) zB (fun _ _=>rfl)))
  (zE (zL (i:=3) gZ.nd rfl (bb rfl) (yC zH (pv 0) zB (fun _ _=>rfl)))
  (zE (yE (aY (pC M g (zA (yC zH (pv 0) zB (fun _ _=>rfl)) (zA (pC o g (zA (pv 1) zD)) zD)))) bB zU)
  (zG (zP (wj (gC (rR fJ fJ zB (pv 2) (bC (v:=.int big) rfl G ⟨_,rfl⟩))) (gB (gC (rR fJ mH zB (pv 3) (pv 2)))))))))),?_⟩
 refine⟨_,rfl,a,_,_,_,rfl,rfl,aJ.of c,rfl,_,rfl,a,_,_,_,rfl,rfl,aJ.of c,rfl,_,rfl,a,_,_,_,rfl,rfl,aJ.of c,rfl,_,rfl,t,xs,zs,rfl,aJ.of ht,z,by omega,fun p m=>?_⟩;exact⟨b.nm,p,_,rfl,.inl (aU.of zC),k,j,fun d S=>⟨_,rfl,eE rfl ⟨_,rfl,_,_,big,rfl,rfl,⟨rfl,rfl⟩,_,rfl,_,rfl,eE (nb2 (bq r) (bq e)) ⟨_,rfl,_,_,_,rfl,rfl,⟨_,rfl,rfl,rfl⟩,_,rfl,qb (Q:=Q) (nb2 (bq l) (bq C)) (q d ((zF m _).trans S))⟩⟩⟩⟩
def rO:aF ["keeps","kind"] ["keeps","kind"] (aA tW):=cQ
def Qo(F:bO K "keeps_has_fault" "keeps_has_fault" tW f fd):aL P w K mg base aN 1 f fd ["keeps","kind"] Ie:=by
 refine F.ok rO ?_ ?_
 .rintro _ _ _ _⟨a,b,rfl,_⟩;rfl
 intro _ A _ s H _ Q E _ h
 obtain⟨a,b,rfl,k,q⟩:=h
 refine⟨_,(zE (yE (zM yH (pv 0) zQ (zS _))
  (zG (zP (bK pN (pv 1) zQ (zS _))))
  zU)
  (zE (yE (zM yH (pv 0) zQ (zS _))
  (zG (zP (bK dq (pv 1) (zX (zA zQ (zA zQ zD))) rfl)))
  zU)
  (zG (zP (bK pN (pv 0) zQ (zS _)))))),?_⟩
 have c:=q H (aH.refl _);rcases k with rfl | ⟨rfl,rfl⟩ | ⟨rfl,d⟩
 .exact⟨_,rfl,rfl,_,rfl,yO (by decide +kernel) ⟨_,rfl,rfl,_,rfl,yO (by decide +kernel) ⟨_,rfl,rfl,c⟩⟩⟩
 .exact⟨_,rfl,rfl,_,rfl,yP ⟨_,rfl,rfl,c⟩⟩
 .refine⟨_,rfl,rfl,_,rfl,yO (by decide +kernel) ⟨_,rfl,rfl,_,rfl,yP ⟨_,rfl,zJ (by show 2<=1000;decide),fun p e=>⟨p,_,rfl,.inr (aJ.of zC),rfl,rfl,?_⟩⟩⟩⟩;rcases d with rfl | rfl <;> exact q _ (zF e _)
def rQ:aF ["depth","ahead"] ["depth","ahead"] (aA uA):=cQ
def at2{xs:aw V}:mX (x::y::z::xs) 2=some z:=yR (j:=2) rfl
def qCD{xs:aw V}(h:xs≠[]):decide (V.int (xs.length:Int)=V.int 0)=false:=bp fun e=>by
 injection e with e;exact h (fo (by omega))
def Qz(F:bO K "depth_has_fault" "depth_has_fault" uA f fd)(p:mg "len" = none)(W:mg "DEEPEST" = some (.int 12 tD)):aL P w K mg base aN 1 f fd ["depth","ahead"] Il:=by
 refine F.ok rQ ?_ ?_
 .rintro _ _ _ _⟨d,t,R,rfl,_⟩;rfl
 intro _ A _ s H _ Q E _ h
 obtain⟨d,t,R,rfl,ht,hd,q⟩:=h
 refine⟨_,(zE (yE (zM yH (zT zO rfl p bj (zA (pv 1) zD)) zB (zS _))
  (zG (zP (bK pN (pv 0) zB (zS _))))
  zU)
  (zG (zP (wj (gC (rR fJ fJ zB (pv 0) (yD yG (yC zH (yC zH (pv 1) (Ay rH zB) (fun _ _=>rfl)) zB (fun _ _=>rfl)) zB))) (gB (bK cY (pv 0) (bC (v:=.int 12) rfl W ⟨_,rfl⟩) (zS _))))))),?_⟩
 rcases hd with ⟨rfl,rfl⟩ | ⟨v,e,j,b,⟨a,x,y,T,rfl,c⟩,g,D,i⟩
 .exact⟨_,rfl,t,_,rfl,.inr (aJ.of ht),rfl,_,rfl,Hq rfl ⟨_,rfl,rfl,q⟩⟩
 .exact⟨_,rfl,t,_,rfl,.inr (aJ.of ht),rfl,_,rfl,eE (qCD j) ⟨_,rfl,_,_,e+1,rfl,rfl,⟨_,rfl,_,rfl,t,R,_,_,rfl,rfl,aJ.of ht,b,a,_,_,_,rfl,rfl,aJ.of c,at2,_,_,rfl,rfl,rfl,rfl⟩,_,rfl,_,rfl,eE (nb2 (bq g) (bq D)) ⟨_,rfl,_,_,rfl,rfl,qb (Q:=Q) (bp (by omega)) q⟩⟩⟩
def lX:aF ["room","behind","has_kids"] ["room","behind"] (aA Fy):=cQ
def Z1(F:bO K "end_has_fault" "end_has_fault" Fy f fd)(p:mg "len" = none):aL P w K mg base aN 1 f fd ["room","behind"] Tn:=by
 refine F.ok lX ?_ ?_
 .rintro _ _ _ _⟨v,t,r,R,rfl,_⟩;rfl
 intro _ A _ s H _ Q E _ h
 obtain⟨v,t,r,R,rfl,⟨a,_,_,rfl,b,_⟩,ht,k,q⟩:=h
 refine⟨_,(zE (zL (i:=2) lX.nd rfl (bb rfl) (rT (bK cY (zT zO rfl p bj (zA (pv 1) zD)) zB (zS _)) (gB (bK cY (yC zH (yC zH (pv 1) zB (fun _ _=>rfl)) zB (fun _ _=>rfl)) (yC zH (pv 0) zB (fun _ _=>rfl)) (zS _)))))
  (zE (yE (zM yH (yC zH (pv 0) zB (fun _ _=>rfl)) zQ (zS _))
  (zG (zP (pv 2)))
  zU)
  (zG (zP (gC (pv 2)))))),?_⟩
 rcases k with ⟨rfl,n⟩ | ⟨v,e,j,m,⟨g,x,y,T,rfl,d⟩,l⟩
 .exact⟨_,rfl,t,_,rfl,.inr (aJ.of ht),_,_,rfl,rfl,_,rfl,eE rfl ⟨_,rfl,a,_,_,_,rfl,rfl,aJ.of b,rfl,rfl,_,rfl,Hq (by rw[n];exact bq rfl) ⟨_,rfl,q⟩⟩⟩
 .refine⟨_,rfl,t,_,rfl,.inr (aJ.of ht),_,_,rfl,rfl,_,rfl,Hq (bq (Int.ofNat_lt.mpr (List.length_pos_iff.mpr j))) ⟨_,rfl,t,R,_,_,rfl,rfl,aJ.of ht,m,g,_,_,_,rfl,rfl,aJ.of d,at2,_,rfl,a,_,_,_,rfl,rfl,aJ.of b,rfl,_,_,rfl,rfl,_,rfl,a,_,_,_,rfl,rfl,aJ.of b,rfl,rfl,_,rfl,fO (fun c=>?_) (fun c=>?_)⟩⟩
  .exact⟨_,rfl,qb (Q:=Q) (by rw[l,<-Jq,c];rfl) q⟩
  .exact⟨_,rfl,_,rfl,qb (Q:=Q) (by rw[l,<-Jq,c];rfl) q⟩
def zx:Sp:=fun vs H Q _ => ∃(i:Int)(t:ar)(xs:aw V),vs=[.int i,.ref t]/\H t=some (.tup xs)/\((0<=i/\i<(xs.length:Int))/\Q (.bl true) H∨¬ (0<=i/\i<(xs.length:Int))/\Q (.bl false) H)
def Ff:Sp:=fun vs H Q _ => ∃ n:Int,vs=[.int n]/\(-(10 ^ 30)<=n/\n<=10 ^ 30)/\Q (.bl true) H
def Nv:Sp:=fun vs H Q _ => ∃(v:V)(T t:ar)(d:Dd)(bs:aw Bx)(ne:Int),vs=[v,.ref T,.ref t]/\sO H v d/\qI (bs.map (·.size)) ne d/\Bs H T t bs ne/\says H Q false
def Aa:Sp:=fun vs H Q _ => ∃(v:V)(T t:ar)(D:aw Dd)(bs:aw Bx)(ne:Int),vs=[v,.ref T,.ref t]/\HS H v D/\D.length<=8/\(∀ d∈D,qI (bs.map (·.size)) ne d)/\Bs H T t bs ne/\says H Q false
def Ni:Sp:=fun vs H Q _ => ∃(v:V)(t T a:ar)(r:Ro)(xs:aw V)(zs:aw Str)(bs:aw Bx)(ne s:Int)(d:aw Int)(k:Nat),vs=[v,.ref t,.ref T,.ref a]/\qA0 H v r/\RoG (bs.map (·.size)) ne s d k r/\H t=some (.tup xs)/\eQ (S8 H) xs zs/\zs.length<=60/\r.nm∉zs/\(xs=[]/\r.depth=0 ∨ ∃ v e,xs≠[]/\mX xs (-1)=some v/\DpH H v e/\1<=r.depth/\r.depth<=e+1/\r.depth<=12)/\Bs H T a bs ne/\says H Q false
def Ig:Sp:=fun vs H Q _ => ∃(g:V)(T t:ar)(m:Nat)(b R:aw V),vs=[g,.ref T,.ref t]/\FP.Gw (b.length:Int) (R.length:Int) H m g/\m<=3/\H T=some (.tup b)/\H t=some (.tup R)/\says H Q false
def Np:Sp:=fun vs H Q _ => ∃(w:Str)(o:aE Int)(t:ar)(v:aw V)(R:aw Ro),vs=[.str w,gv o,.ref t]/\H t=some (.tup v)/\cL H v R/\((w = "stay" /\ o=none)∨((w = "to" ∨ w = "back")/\∃ j:Nat,o=some (j:Int)/\j<R.length/\(w = "back" -> ∃ r,R[j]? = some r/\r.keeps ≠ "")))/\Q (.bl false) H
def Nt:Sp:=fun vs H Q _ => ∃(v:V)(T t a:ar)(d:Dr)(bs:aw Bx)(ne:Int)(R:aw V)(r:aw Ro),vs=[v,.ref T,.ref t,.ref a]/\qJK H v d/\DrG (bs.map (·.size)) ne r d/\Bs H T t bs ne/\H a=some (.tup R)/\cL H R r/\says H Q false
def xO:aF ["number","things"] ["number","things"] (aA Fw):=cQ
def qC1(F:bO K "is_number_of" "is_number_of" Fw f fd)(p:mg "len" = none):aL P w K mg base aN 1 f fd ["number","things"] zx:=by
 refine F.ok xO ?_ ?_
 .rintro _ _ _ _⟨o,t,xs,rfl,_⟩;rfl
 intro _ A _ s H _ Q E _ h
 obtain⟨i,t,xs,rfl,ht,q⟩:=h;refine⟨_,(zG (zP (rT (bK GQ (pv 0) iw (zS _)) (gB (rR fJ mH zB (pv 0) (zT zO rfl p bj (zA (pv 1) zD))))))),?_⟩;exact⟨_,rfl,rfl,_,rfl,Hq rfl ⟨_,rfl,_,_,(xs.length:Int),rfl,rfl,⟨_,rfl,t,_,rfl,.inr (aJ.of ht),rfl,rfl⟩,q.elim (fun q=>qb (Q:=Q) ((eI _ _).symm.trans (bq q.1)) q.2) fun q=>qb (Q:=Q) ((eI _ _).symm.trans (bp q.1)) q.2⟩⟩
def Af:aF ["number"] ["number"] (aA tV):=cQ
def Ut(F:bO K "is_in_reach" "is_in_reach" tV f fd)(G:mg "GREATEST" = some (.int big tG)):aL P w K mg base aN 1 f fd ["number"] Ff:=by
 refine F.ok Af ?_ ?_
 .rintro _ _ _ _⟨n,rfl,_⟩;rfl
 intro _ A _ s H _ Q E _ h
 obtain⟨n,rfl,j,q⟩:=h;refine⟨_,(zG (zP (rR fJ fJ (Ay rH (bC (v:=.int big) rfl G ⟨_,rfl⟩)) (pv 0) (bC (v:=.int big) rfl G ⟨_,rfl⟩)))),?_⟩;exact⟨_,rfl,_,rfl,_,_,big,rfl,rfl,⟨rfl,rfl⟩,qb (Q:=Q) (dP.mpr ⟨bq j.1,bq j.2⟩) q⟩
def fZ:aF ["deed","boxes","events","kind","size"] ["deed","boxes","events"] (aA yj):=cQ
theorem V7(F:bO K "deed_has_fault" "deed_has_fault" yj f fd)(M:Dp P w K mg base aN n gw dw ["text"] zp "is_word")
  (Z:Dp P w K mg base aN n gn dn ["number","things"] zx "is_number_of")
  (L:Dp P w K mg base aN n gr dr ["number"] Ff "is_in_reach") :
  aL P w K mg base aN (n+1) f fd ["deed","boxes","events"] Nv:=by
 refine F.ok fZ ?_ ?_
 .rintro _ _ _ _⟨v,T,u,d,bs,ne,rfl,_⟩;rfl
 intro _ A _ s H _ Q E r h
 obtain⟨v,T,u,d,bs,ne,rfl,hd,g,⟨⟨_,c,j⟩,_,k,o⟩,q⟩:=h
 refine⟨_,(zE (zL (i:=3) fZ.nd rfl (bb rfl) (yC zH (pv 0) zB (fun _ _=>rfl)))
  (zE (yE (zM yH (pv 3) zQ (zS _))
  (zG (zP (gC (pC M r (zA (yC zH (pv 0) zB (fun _ _=>rfl)) zD)))))
  zU)
  (zE (yE (zM yH (pv 3) zQ (zS _))
  (zG (zP (gC (pC Z r (zA (yC zH (pv 0) zB (fun _ _=>rfl)) (zA (pv 2) zD))))))
  zU)
  (zE (yE (bY (aY (pC Z r (zA (yC zH (pv 0) zB (fun _ _=>rfl)) (zA (pv 1) zD))))) bB zU)
  (zE (yE (zM yH (pv 3) zQ (zS _))
  (zE (zL (i:=4) fZ.nd rfl (bb rfl) (yC zH (yC zH (pv 1) (yC zH (pv 0) zB (fun _ _=>rfl)) (fun _ _=>rfl)) zB (fun _ _=>rfl)))
  (zG (zP (gC (rR fJ mH zB (yC zH (pv 0) zB (fun _ _=>rfl)) (pv 4))))))
  zU)
  (zG (zP (gC (pC L r (zA (yC zH (pv 0) zB (fun _ _=>rfl)) zD)))))))))),?_⟩
 have D:=j.length;have m:=q H (aH.refl _);have I:(bs.map (·.size)).length=bs.length:=bT _
 cases hd with
 | @say a z e=>exact⟨_,rfl,a,_,_,_,rfl,rfl,aJ.of e,rfl,_,rfl,rfl,_,rfl,yP ⟨_,rfl,a,_,_,_,rfl,rfl,aJ.of e,rfl,z,rfl,g,fun G S=>⟨_,rfl,q G S⟩⟩⟩
 | @send a i e=>exact⟨_,rfl,a,_,_,_,rfl,rfl,aJ.of e,rfl,_,rfl,rfl,_,rfl,yO (by decide +kernel) ⟨_,rfl,rfl,_,rfl,yP ⟨_,rfl,a,_,_,_,rfl,rfl,aJ.of e,rfl,_,rfl,i,u,_,rfl,k,.inl ⟨by rw[o];exact g,_,rfl,m⟩⟩⟩⟩
 | @set a b n e=>
  obtain⟨⟨B,_⟩,J,p⟩:=g
  have C:b.toNat<bs.length:=by omega
  have y:=fQ C;obtain⟨_,x,a2,rfl,l⟩:=j.get y;rw[jT,dZ,y]at p;have t:=yR x;rw[fe B]at t;exact⟨_,rfl,a,_,_,_,rfl,rfl,aJ.of e,rfl,_,rfl,rfl,_,rfl,yO (by decide +kernel) ⟨_,rfl,rfl,_,rfl,yO (by decide +kernel) ⟨_,rfl,a,_,_,_,rfl,rfl,aJ.of e,rfl,_,rfl,b,T,_,rfl,c,.inl ⟨⟨B,by omega⟩,_,rfl,eE rfl ⟨_,rfl,rfl,_,rfl,yP ⟨_,rfl,_,rfl,a,_,_,_,rfl,rfl,aJ.of e,rfl,T,_,_,_,rfl,rfl,aJ.of c,t,a2,_,_,_,rfl,rfl,aJ.of l,rfl,_,rfl,a,_,_,_,rfl,rfl,aJ.of e,rfl,_,_,_,rfl,rfl,⟨_,rfl,rfl,rfl⟩,_,rfl,qb (Q:=Q) (nb2 (bq J) (bq p)) m⟩⟩⟩⟩⟩⟩
 | @add a b n e=>
  exact⟨_,rfl,a,_,_,_,rfl,rfl,aJ.of e,rfl,_,rfl,rfl,_,rfl,yO (by decide +kernel) ⟨_,rfl,rfl,_,rfl,yO (by decide +kernel) ⟨_,rfl,a,_,_,_,rfl,rfl,aJ.of e,rfl,_,rfl,b,T,_,rfl,c,.inl ⟨⟨g.1.1,by have:=g.1.2;omega⟩,_,rfl,eE rfl ⟨_,rfl,rfl,_,rfl,yO (by decide +kernel) ⟨_,rfl,a,_,_,_,rfl,rfl,aJ.of e,rfl,n,rfl,g.2,_,rfl,m⟩⟩⟩⟩⟩⟩
def qu:aF ["deeds","boxes","events"] ["deeds","boxes","events"] (aA pK):=cQ
def R1(F:bO K "deeds_have_fault" "deeds_have_fault" pK f fd)(W:Dp P w K mg base aN n gw dw ["deed","boxes","events"] Nv "deed_has_fault")
  (o:mg "len" = none) (u:mg "any" = none) (N:mg "MOST_DEEDS" = some (.int 8 tM)):aL P w K mg base aN (n+1) f fd ["deeds","boxes","events"] Aa:=by
 refine F.ok qu ?_ ?_
 .rintro _ _ _ _⟨v,m,T,y,bs,ne,rfl,_⟩;rfl
 intro _ A _ s H _ Q E z h
 obtain⟨v,m,T,y,bs,ne,rfl,⟨t,Y,rfl,I,b⟩,_,D,r,q⟩:=h;refine⟨_,(zG (zP (wj (bK cY (zT zO rfl o bj (zA (pv 0) zD)) (bC (v:=.int 8) rfl N ⟨_,rfl⟩) (zS _)) (gB (zT (qi rfl) rfl u kc (zA (yU (bF:=[(1,"boxes"),(2,"events")]) rfl (show bA (aA pK) ["deeds","boxes","events"] _ _ _ from vA) (nQ (pv 0)) (fun _ _ _ _ _ _=>bQ) (fun _ _ _ _ _ _=>(pC W z (zA (pv 0) (zA (pv 1) (zA (pv 2) zD)))))) zD)))))),?_⟩;have G:=b.length;refine⟨_,rfl,t,_,rfl,.inr (aJ.of I),_,_,rfl,rfl,_,rfl,eE (bp (by omega)) ⟨_,rfl,t,rfl,⟨_,aJ.of I⟩,?_⟩⟩;refine ig (K:=K) (a:=t) (xs:=Y) (fun i c e=>aH H e/\c.length=i/\∀ v∈c,v = .bl false) ⟨aH.refl _,rfl,nofun⟩ (fun i c e ⟨S,_⟩=>aJ.of (S _ _ I)) (fun i x c e l ⟨S,k,j⟩=>?_) (fun c e ⟨S,k,j⟩ p B=>?_)
 .obtain⟨d,hd,g⟩:=b.back l;have J:=(oW.mp l).1;exact⟨_,rfl,_,rfl,_,rfl,x,m,T,d,bs,ne,rfl,g.mono (aB.of S),D _ (SX hd),r.mono S,fun _ C=>⟨zW (by omega),S.trans C,by rw[j8,k];rfl,fun v g=>(jz.mp g).elim (j v) jA.mp⟩⟩
 .exact⟨p,_,rfl,Br j,qb (Q:=Q) (by simp) (q _ (S.trans (zF B _)))⟩
def fU:aF ["room","ahead","boxes","events","kind","lamp"] ["room","ahead","boxes","events"] (aA xu):=cQ
def Us(F:bO K "room_has_fault" "room_has_fault" xu f fd)
  (sV:Dp P w K mg base aN n gm dm ["things"] (Fg K) "names_of")
  (cM:Dp P w K mg base aN n gn dn ["name","ahead"] (xj K) "name_has_fault")
  (uv:Dp P w K mg base aN n gd dd ["depth","ahead"] Il "depth_has_fault")
  (Z:Dp P w K mg base aN n gk dk ["keeps","kind"] Ie "keeps_has_fault")
  (Y:Dp P w K mg base aN n gw dw ["text"] zp "is_word")
  (U:Dp P w K mg base aN n gs dds ["deeds","boxes","events"] Aa "deeds_have_fault")
  (N:mg "KINDS" = some (.ref aK)) (GJ:∀ H:Hp,aJ K H aK [.str "plain",.str "one",.str "all"]):aL P w K mg base aN (n+1) f fd ["room","ahead","boxes","events"] Ni:=by
 refine F.ok fU ?_ ?_
 .rintro _ _ _ _⟨v,t,m,T,r,xs,zs,bs,ne,I,ds,k,rfl,_⟩;rfl
 intro _ A _ s H _ Q E d h
 obtain⟨v,t,m,T,r,xs,zs,bs,ne,I,ds,k,rfl,⟨a,vi,vo,rfl,b,l,o⟩,g,ht,X,_,L,hd,C,q⟩:=h
 refine⟨_,(zE (zL (i:=4) fU.nd rfl (bb rfl) (yC zH (pv 0) zB (fun _ _=>rfl)))
  (zE (zL (i:=5) fU.nd rfl (bb rfl) (yC zH (pv 0) zB (fun _ _=>rfl)))
  (zE (yE (PW.pt (pw_or (aY (pC cM d (zA (yC zH (pv 0) zB (fun _ _=>rfl)) (zA (pC sV d (zA (pv 1) zD)) zD)))) (pw_or1 (zM dq (pv 4) (bC (v:=.ref aK) rfl N rfl) rfl)))) bB zU)
  (zE (yE (PW.pt (pw_or (aY (pC uv d (zA (yC zH (pv 0) zB (fun _ _=>rfl)) (zA (pv 1) zD)))) (pw_or1 (aY (pC Z d (zA (yC zH (pv 0) zB (fun _ _=>rfl)) (zA (pv 4) zD))))))) bB zU)
  (zE (yE (bZ (PW.pt (pw_and (zM pN (pv 5) zQ (zS _)) (yQ (bY (aY (pC Y d (zA (pv 5) zD)))))))) bB zU)
  (zG (zP (wj (pC U d (zA (yC zH (pv 0) zB (fun _ _=>rfl)) (zA (pv 2) (zA (pv 3) zD)))) (gB (pC U d (zA (yC zH (pv 0) zB (fun _ _=>rfl)) (zA (pv 2) (zA (pv 3) zD))))))))))))),?_⟩
 have u:=g.sh
 have kind:r.kind = "plain" /\ r.keeps = "" ∨ r.kind = "one" ∨ r.kind = "all" := by
  split at u
  .exact .inr u
  .exact .inl u
 refine⟨_,rfl,a,_,_,_,rfl,rfl,aJ.of b,rfl,_,rfl,a,_,_,_,rfl,rfl,aJ.of b,rfl,_,rfl,a,_,_,_,rfl,rfl,aJ.of b,rfl,_,rfl,t,xs,zs,rfl,aJ.of ht,X,by omega,fun p hp=>?_⟩;refine⟨r.nm,p,zs,rfl,.inl (aU.of zC),by rw[g.nm];exact mJ _ _,L,fun _ W=>⟨_,rfl,eE rfl ⟨_,rfl,aK,_,rfl,.inr (GJ _),rfl,rfl,_,rfl,eE (by rcases kind with ⟨z,_⟩ | z | z <;> rw[z] <;> decide +kernel) ?_⟩⟩⟩;have j:=(zF hp (.lst (zs.map V.str))).trans W;refine⟨_,rfl,a,_,_,_,rfl,rfl,aJ.of (j _ _ b),rfl,_,rfl,r.depth,t,xs,rfl,j _ _ ht,hd.imp id fun ⟨v,e,R,h2,⟨a',x,y,tl,J,h4⟩,M⟩=>⟨v,e,R,h2,⟨a',x,y,tl,J,j _ _ h4⟩,M⟩,_,rfl,eE rfl ⟨_,rfl,a,_,_,_,rfl,rfl,aJ.of (j _ _ b),rfl,_,rfl,r.keeps,r.kind,rfl,?_,fun _ s3=>⟨_,rfl,eE rfl ?_⟩⟩⟩
 .rcases kind with ⟨_,z⟩ | z
  .exact .inl z
  .exact g.kp.imp id (·.imp id fun e=>⟨e,z⟩)
 have B:=j.trans s3;refine⟨fun c H'=>aH H H'/\c=false,?_,?_⟩
 .refine⟨_,rfl,rfl,_,rfl,fO (fun c=>?_) fun _=>⟨B,rfl⟩⟩;exact⟨_,rfl,r.jn,rfl,(g.lp.resolve_left fun z=>by rw[z]at c;cases c),fun H5 S=>⟨_,rfl,B.trans S,rfl⟩⟩
 rintro _ H5 ⟨S,rfl⟩;exact eE rfl ⟨_,rfl,a,_,_,_,rfl,rfl,aJ.of (S _ _ b),rfl,_,rfl,_,rfl,vi,m,T,r.ins,bs,ne,rfl,l.mono (aB.of S),g.l8.1,g.di,C.mono S,fun _ O=>⟨_,rfl,eE rfl ⟨_,rfl,a,_,_,_,rfl,rfl,aJ.of ((S.trans O) _ _ b),rfl,_,rfl,_,rfl,vo,m,T,r.outs,bs,ne,rfl,o.mono (aB.of (S.trans O)),g.l8.2,g.dO,C.mono (S.trans O),fun D G=>q D ((S.trans O).trans G)⟩⟩⟩
def t7:aF ["way","goal","rooms"] ["way","goal","rooms"] (aA ye):=cQ
def V2(F:bO K "goal_has_fault" "goal_has_fault" ye f fd)(Z:Dp P w K mg base aN n gn dn ["number","things"] zx "is_number_of") :
  aL P w K mg base aN (n+1) f fd ["way","goal","rooms"] Np:=by
 refine F.ok t7 ?_ ?_
 .rintro _ _ _ _⟨w,o,t,R,e,rfl,_⟩;rfl
 intro _ A _ s H _ Q E g h
 obtain⟨_,o,t,R,e,rfl,ht,b,i,q⟩:=h
 refine⟨_,(zE (yE (zM yH (pv 0) zQ (zS _))
  (zG (zP (gC (pC Z g (zA (pv 1) (zA (pv 2) zD))))))
  zU)
  (zE (yE (zM yH (pv 0) zQ (zS _))
  (zG (zP (wj (gC (pC Z g (zA (pv 1) (zA (pv 2) zD)))) (gB (bK yH (yC zH (yC zH (pv 2) (pv 1) (fun _ _=>rfl)) zB (fun _ _=>rfl)) zQ (zS _))))))
  zU)
  (zG (zP (wj (bK pN (pv 0) zQ (zS _)) (gB (bK GQ (pv 1) iw (zS _)))))))),?_⟩
 have p:=b.length;rcases i with ⟨rfl,rfl⟩ | ⟨rfl | rfl,j,rfl,L,m⟩
 .exact⟨_,rfl,rfl,_,rfl,yO (by decide +kernel) ⟨_,rfl,rfl,_,rfl,yO (by decide +kernel) ⟨_,rfl,rfl,_,rfl,eE rfl ⟨_,rfl,rfl,q⟩⟩⟩⟩
 .exact⟨_,rfl,rfl,_,rfl,yP ⟨_,rfl,_,rfl,j,t,_,rfl,ht,.inl ⟨⟨by omega,by omega⟩,_,rfl,q⟩⟩⟩
 .obtain⟨r,c,k⟩:=m rfl;obtain⟨v,d,a,_,_,rfl,l,_⟩:=b.get c;exact⟨_,rfl,rfl,_,rfl,yO (by decide +kernel) ⟨_,rfl,rfl,_,rfl,yP ⟨_,rfl,_,rfl,j,t,_,rfl,ht,.inl ⟨⟨by omega,by omega⟩,_,rfl,_,rfl,eE rfl ⟨_,rfl,_,rfl,t,_,_,_,rfl,rfl,aJ.of ht,yR d,a,_,_,_,rfl,rfl,aJ.of l,rfl,rfl,qb (Q:=Q) (by rw[Jq];exact bp k) q⟩⟩⟩⟩⟩
def jW:aF ["guard","boxes","rooms","wanted"] ["guard","boxes","rooms"] (aA je):=cQ
theorem Qt(F:bO K "guard_has_fault" "guard_has_fault" je f fd)
  (CP:Dp P w K mg base aN 22 gh dh ["guard"] (FP.lV 20) "height")
  (T:Dp P w K mg base aN 22 ga da ["guard"] FP.Nz "asked")
  (aZ:Dp P w K mg base aN 22 gn dn ["number","things"] zx "is_number_of")
  (dX:Dp P w K mg base aN 22 gp dp ["guard"] (FP.iH 20) "plain_guards")
  (lL:Dp P w K mg base aN 22 gr dr ["number"] Ff "is_in_reach")
  (J:mg "all" = none) (wA:mg "HIGHEST" = some (.int 6 tH)):aL P w K mg base aN 23 f fd ["guard","boxes","rooms"] Ig:=by
 refine F.ok jW ?_ ?_
 .rintro _ _ _ _⟨C,tb,tr,m,bv,rv,rfl,_⟩;rfl
 intro _ A _ s H _ Q E j h
 obtain⟨C,tb,tr,m,bv,rv,rfl,R,_,L,W,q⟩:=h
 refine⟨_,(zE (yE (zM cY (pC CP j (zA (pv 0) zD)) (bC (v:=.int 6) rfl wA ⟨_,rfl⟩) (zS _)) bB zU)
  (zE (zL (i:=3) jW.nd rfl (bb rfl) (pC T j (zA (pv 0) zD)))
  (zE (yE (bY (aY (zT (qj rfl) rfl J kb (zA (yU (bF:=[(1,"boxes")]) rfl (show bA (aA je) ["guard","boxes","rooms","wanted"] _ _ _ from vA) (yN (yC zH (pv 3) zB (fun _ _=>rfl))) (fun _ _ _ _ _ _=>bQ) (fun _ _ _ _ _ _=>(pC aZ j (zA (pv 0) (zA (pv 1) zD))))) zD)))) bB zU)
  (zE (yE (bY (aY (zT (qj rfl) rfl J kb (zA (yU (bF:=[(2,"rooms")]) rfl (show bA (aA je) ["guard","boxes","rooms","wanted"] _ _ _ from vA) (yN (yC zH (pv 3) zB (fun _ _=>rfl))) (fun _ _ _ _ _ _=>bQ) (fun _ _ _ _ _ _=>(pC aZ j (zA (pv 0) (zA (pv 1) zD))))) zD)))) bB zU)
  (zG (zP (gC (zT (qj rfl) rfl J kb (zA (yU (bF:=[]) rfl (show bA (aA je) ["guard","boxes","rooms","wanted"] _ _ _ from vA) (yN (pC dX j (zA (pv 0) zD))) (fun _ _ _ _ _ _=>cW (zM (r:=rIn K false) jM (yC (r:=dM K) zH (pv 0) zB (fun _ _=>rfl)) (zX (zA zQ (zA zQ zD))) rfl)) (fun _ _ _ _ _ _=>(pC lL j (zA (yC (r:=dM K) zH (pv 0) zB (fun _ _=>rfl)) zD)))) zD))))))))),?_⟩
 refine⟨_,rfl,_,_,m,C,rfl,R,by omega,fun x _ d s1=>⟨_,_,rfl,rfl,_,rfl,eE (bp (by omega)) ?_⟩⟩;refine⟨_,rfl,_,_,m,C,rfl,R.mono s1,by omega,fun t p1 p2 _ _ _ s2 ht B h2 _ _ hb M=>?_⟩
 have o:∀ {l:aw Int} {t:ar} {xs:aw V} {z:Hp},z t=some (.tup xs)->(∀ i∈l,0<=i/\i<(xs.length:Int))->∀ x∈l.map V.int,∀ g,aH z g->∀(Y:VK),(∀ v I,aH z I->v = .bl true->Y v I)->zx [x,.ref t] g Y E0:=fun {l t xs z} h0 B x d g s' Y y=>by
  obtain⟨i,hi,rfl⟩:=eX.mp d;exact⟨i,t,xs,rfl,s' _ _ h0,.inl ⟨B i hi,y _ _ s' rfl⟩⟩
 have D:=s1.trans s2;refine⟨_,rfl,t,_,_,_,rfl,rfl,aJ.of ht,rfl,p1,rfl,⟨_,aU.of B⟩,qg (K:=K) (· = .bl true) B (by rw[List.length_map];omega) (fun x d g s' Y N y _=>⟨_,rfl,_,rfl,o (D _ _ L) hb x d g s' Y y⟩) fun b I s3 u Z p3 U=>⟨p3,_,rfl,Br u,_,rfl,eE (by simp) ?_⟩⟩;have S:=s3.trans (zF U (.lst b));refine⟨_,rfl,t,_,_,_,rfl,rfl,aJ.of (S _ _ ht),rfl,p2,rfl,⟨_,aU.of (S _ _ h2)⟩,qg (K:=K) (· = .bl true) (S _ _ h2) (by rw[List.length_map];omega) (fun x d g s' Y N y _=>⟨_,rfl,_,rfl,o ((D.trans S) _ _ W) M x d g s' Y y⟩) fun b _ s5 u Z p5 Xu=>⟨p5,_,rfl,Br u,_,rfl,eE (by simp) ?_⟩⟩;have s6:=(D.trans S).trans (s5.trans (zF Xu (.lst b)));have p32:2 ^ m<=2 ^ 5:=iP (by decide) (by omega);refine⟨_,rfl,_,_,m,C,rfl,R.mono s6,by omega,by omega,fun p _ _ s7 _ X _ hu=>⟨p,rfl,⟨_,aU.of X⟩,qg (K:=K) (· = .bl true) X (by omega) (fun x d g s' Y N y n=>?_) fun b _ s8 u Z p8 O=>⟨p8,_,rfl,Br u,_,rfl,qb (Q:=Q) (by simp) (q _ ((s6.trans s7).trans (s8.trans (zF O _))))⟩⟩⟩
 cases (hu x d).mono s' with
 | @yes a e=>exact⟨_,rfl,a,_,_,_,rfl,rfl,aJ.of e,rfl,zJ (by show 2<=1000;decide),fun pt G=>⟨pt,_,rfl,.inr (aJ.of zC),rfl,rfl,_,rfl,eE (by decide +kernel) (n _ (s'.trans (zF G _)))⟩⟩
 | @box a i _ k c e _ h=>exact⟨_,rfl,a,_,_,_,rfl,rfl,aJ.of e,rfl,zJ (by show 2<=1000;decide),fun pt G=>⟨pt,_,rfl,.inr (aJ.of zC),rfl,rfl,_,rfl,Hq (by rcases c with rfl | rfl <;> decide +kernel) ⟨_,rfl,a,_,_,_,rfl,rfl,aJ.of ((zF G _) _ _ e),rfl,_,rfl,h,y _ _ (s'.trans (zF G _)) rfl⟩⟩⟩
 | @inn a i e h=>exact⟨_,rfl,a,_,_,_,rfl,rfl,aJ.of e,rfl,zJ (by show 2<=1000;decide),fun pt G=>⟨pt,_,rfl,.inr (aJ.of zC),rfl,rfl,_,rfl,eE (by decide +kernel) (n _ (s'.trans (zF G _)))⟩⟩
theorem qGN(x:jH H v g):∀ {n:Nat},g.ht<=n->GoodG b r g->FP.Gw b r H n v:=by
 have z:∀ {g:Gd} {n:Nat},g.ht<=n->∃ k,n=k+1:=fun {g n} h=>⟨n-1,by have:=g.Vv;omega⟩
 induction x with
 | yes e=>intro n l _;obtain⟨k,rfl⟩:=z l;exact .leaf (.yes e)
 | is e=>intro n l h;obtain⟨k,rfl⟩:=z l;exact .leaf (.box (.inl rfl) e h.1 h.2)
 | under e=>intro n l h;obtain⟨k,rfl⟩:=z l;exact .leaf (.box (.inr rfl) e h.1 h.2)
 | inn e=>intro n l h;obtain⟨k,rfl⟩:=z l;exact .leaf (.inn e h)
 | @neg _ _ g e _ i=>intro n l h;obtain⟨k,rfl⟩:=z l;exact .neg e (i (Nat.le_of_succ_le_succ l) h)
 | @both _ _ _ g j e _ _ i I=>intro n l h;obtain⟨k,rfl⟩:=z l;have l:1+max g.ht j.ht<=k+1:=l;exact .two (.inl rfl) e (i (by omega) h.1) (I (by omega) h.2)
 | @either _ _ _ g j e _ _ i I=>intro n l h;obtain⟨k,rfl⟩:=z l;have l:1+max g.ht j.ht<=k+1:=l;exact .two (.inr rfl) e (i (by omega) h.1) (I (by omega) h.2)
def t8:aF ["door","boxes","events","rooms"] ["door","boxes","events","rooms"] (aA yg):=cQ
def V5(F:bO K "door_has_fault" "door_has_fault" yg f fd)
  (Z:Dp P w K mg base aN n gn dn ["number","things"] zx "is_number_of")
  (U:Dp P w K mg base aN n G dg ["guard","boxes","rooms"] Ig "guard_has_fault")
  (C:Dp P w K mg base aN n gs dds ["deeds","boxes","events"] Aa "deeds_have_fault")
  (M:Dp P w K mg base aN n gl dl ["way","goal","rooms"] Np "goal_has_fault") :
  aL P w K mg base aN (n+1) f fd ["door","boxes","events","rooms"] Nt:=by
 refine F.ok t8 ?_ ?_
 .rintro _ _ _ _⟨v,m,t,T,d,bs,ne,R,x,rfl,_⟩;rfl
 intro _ A _ s H _ Q E r h
 obtain⟨v,m,t,T,d,bs,ne,R,x,rfl,⟨a,I,L,rfl,b,j,p⟩,g,B,l,e,q⟩:=h
 refine⟨_,(zE (yE (PW.pt (pw_or (bY (aY (pC Z r (zA (yC zH (pv 0) zB (fun _ _=>rfl)) (zA (pv 3) zD))))) (pw_or1 (bY (aY (pC Z r (zA (yC zH (pv 0) zB (fun _ _=>rfl)) (zA (pv 2) zD)))))))) bB zU)
  (zE (yE (PW.pt (pw_or (aY (pC U r (zA (yC zH (pv 0) zB (fun _ _=>rfl)) (zA (pv 1) (zA (pv 3) zD))))) (pw_or1 (aY (pC C r (zA (yC zH (pv 0) zB (fun _ _=>rfl)) (zA (pv 1) (zA (pv 2) zD)))))))) bB zU)
  (zG (zP (pC M r (zA (yC zH (pv 0) zB (fun _ _=>rfl)) (zA (yC zH (pv 0) zB (fun _ _=>rfl)) (zA (pv 3) zD)))))))),?_⟩
 obtain⟨⟨J,i,o⟩,z,k,u⟩:=id B;have D:=o.length;have c:=e.length;have G:=g.g;rw[bT,<-D,<-c]at G
 exact⟨_,rfl,a,_,_,_,rfl,rfl,aJ.of b,rfl,_,rfl,d.room,T,R,rfl,l,.inl ⟨by rw[c];exact g.rm,_,rfl,eE rfl ⟨_,rfl,a,_,_,_,rfl,rfl,aJ.of b,rfl,_,rfl,d.event,t,z,rfl,k,.inl ⟨by rw[u];exact g.ev,_,rfl,eE rfl
  ⟨_,rfl,a,_,_,_,rfl,rfl,aJ.of b,rfl,_,rfl,_,rfl,I,m,T,3,J,R,rfl,qGN j g.ht G,bD _,i,l,fun _ S=>⟨_,rfl,eE rfl
  ⟨_,rfl,a,_,_,_,rfl,rfl,aJ.of (S _ _ b),rfl,_,rfl,_,rfl,L,m,t,d.pZ,bs,ne,rfl,p.mono (aB.of S),g.l8,g.dd,B.mono S,fun y W=>⟨_,rfl,eE rfl
  ⟨_,rfl,a,_,_,_,rfl,rfl,aJ.of ((S.trans W) _ _ b),rfl,_,rfl,a,_,_,_,rfl,rfl,aJ.of ((S.trans W) _ _ b),rfl,_,rfl,d.way,d.goal,T,R,x,rfl,(S.trans W) _ _ l,cL.mono e (aB.of (S.trans W)),g.wy,q y (S.trans W)⟩⟩⟩⟩⟩⟩⟩⟩⟩
def tells(H:Hp)(Q:VK):Prop:=∀(p:ar)(h:Hp),aH H h->H p=none->h p=some (.lst [])->Q (.ref p) h
def Dn:Sp:=fun vs H Q _ => ∃(t:ar)(c:Ch),vs=[.ref t]/\jJ H t c/\ChG c/\tells H Q
def Nx:Sp:=fun vs H Q _ => ∃(t:ar)(B:aw V)(bs:aw Bx)(s:Int),vs=[.ref t]/\H t=some (.tup B)/\gP H B bs/\bs.length<=6/\(∀ k b,bs[k]? = some b->BxG s k b)/\tells H Q
def Tj:Sp:=fun vs H Q _ => ∃(t:ar)(e:aw Str)(s:Int),vs=[.ref t]/\H t=some (.tup (e.map V.str))/\e.length<=8/\(∀(k:Nat)(z:Str),e[k]? = some z->z=fL (k:Int) s)/\tells H Q
def IK:Sp:=fun vs H Q _ => ∃(a T t:ar)(v:aw V)(R:aw Ro)(bs:aw Bx)(ne s:Int)(d:aw Int),vs=[.ref a,.ref T,.ref t]/\H a=some (.tup v)/\cL H v R/\Bs H T t bs ne/\(Tr.Good d/\mj.Xx d/\d.length<=10/\R.length=d.length/\∀ k r,R[k]? = some r->RoG (bs.map (·.size)) ne s d k r)/\tells H Q
def Ij:Sp:=fun vs H Q _ => ∃(a T t b:ar)(Y:aw V)(D:aw Dr)(bs:aw Bx)(ne:Int)(R:aw V)(r:aw Ro),vs=[.ref a,.ref T,.ref t,.ref b]/\H a=some (.tup Y)/\jx H Y D/\D.length<=12/\Bs H T t bs ne/\H b=some (.tup R)/\cL H R r/\(∀ d∈D,DrG (bs.map (·.size)) ne r d)/\tells H Q
def zy:Sp:=fun vs H Q _ => ∃(t:ar)(c:Ch),vs=[.ref t]/\jJ H t c/\ChG c/\tells H Q
def vX{ns:aw Str}{s:Int}{k:Nat}(h:∀(j:Nat)(z:Str),ns[j]? = some z->z=fL (j:Int) s)(l:ns.length<=26)(H:k<ns.length):fL (k:Int) s∉ns.take k:=fun c=>by
 obtain⟨j,L⟩:=gT.mp c;rw[List.getElem?_take]at L
 split at L
 .have e:=VV (h j _ L)
  have a:k%26=j%26:=by exact_mod_cast e
  omega
 .cases L
def VL{f:α->Str}{xs:aw α}{s:Int}(h:∀ (k:Nat) x,xs[k]? = some x->f x=fL (k:Int) s)(j:Nat)(z:Str)(L:(xs.map f)[j]? = some z):z=fL (j:Int) s:=by rw[dZ]at L;obtain⟨x,H,rfl⟩:=jI.mp L;exact h j x H
def oO:aF ["chart","told"] ["chart"] (aA uD):=cQ
def Ly(F:bO K "bound_faults" "bound_faults" uD f fd)(B:mg "ORDERS" = some (.ref aO))(r:∀ H:Hp,aJ K H aO [.str "inner",.str "outer"])(j:mg "MOST_LETTERS" = some (.int 12 tL))(n:mg "MOST_TURNS" = some (.int 20 tT)):aL P w K mg base aN 1 f fd ["chart"] Dn:=by
 refine F.ok oO ?_ ?_
 .rintro _ _ _ _⟨t,c,rfl,_⟩;rfl
 intro _ A _ s H _ Q E _ h
 obtain⟨t,c,rfl,⟨_,_,_,_,_,_,_,ht,_⟩,⟨od,⟨_,l,_⟩,⟨_,t1,_,_⟩,_⟩,q⟩:=h
 refine⟨_,(zE (zL (i:=1) oO.nd rfl (bb rfl) (yL zD))
  (zE (yE (zM dq (yC zH (pv 0) zB (fun _ _=>rfl)) (bC (v:=.ref aO) rfl B rfl) rfl) bB zU)
  (zE (yE (bY (Av fJ fJ zB (yC zH (pv 0) zB (fun _ _=>rfl)) (bC (v:=.int 12) rfl j ⟨_,rfl⟩))) bB zU)
  (zE (yE (bY (Av fJ fJ zB (yC zH (pv 0) zB (fun _ _=>rfl)) (bC (v:=.int 20) rfl n ⟨_,rfl⟩))) bB zU)
  (zG (zP (pv 1))))))),?_⟩
 refine⟨bo _,fun p b=>?_⟩;have a:=zF b (.lst []) _ _ ht;rw[l,t1]at a;exact⟨_,rfl,t,_,_,_,rfl,rfl,aJ.of a,rfl,aO,_,rfl,.inr (r _),rfl,rfl,_,rfl,eE (by rcases od with z | z <;> rw[z] <;> decide +kernel) ⟨_,rfl,t,_,_,_,rfl,rfl,aJ.of a,rfl,_,_,12,rfl,rfl,⟨rfl,rfl⟩,_,rfl,eE (nb2 (bq (by omega)) (bq (by omega))) ⟨_,rfl,t,_,_,_,rfl,rfl,aJ.of a,rfl,_,_,20,rfl,rfl,⟨rfl,rfl⟩,_,rfl,eE (nb2 (bq (by omega)) (bq (by omega))) ⟨_,rfl,q p _ (zF b _) b zC⟩⟩⟩⟩
def iI:aF ["boxes","told","number","box"] ["boxes"] (aA GC):=cQ
def V9(F:bO K "box_faults" "box_faults" GC f fd)(X:Dp P w K mg base aN n gb db ["box","ahead"] Tq "box_has_fault")(y:mg "len" = none)(Y:mg "enumerate" = none)(N:mg "MOST_BOXES" = some (.int 6 tM)) :
  aL P w K mg base aN (n+1) f fd ["boxes"] Nx:=by
 refine F.ok iI ?_ ?_
 .rintro _ _ _ _⟨t,B,bs,C,rfl,_⟩;rfl
 intro _ A _ s H _ Q E R h
 obtain⟨t,B,bs,C,rfl,ht,j,_,r,q⟩:=h
 refine⟨_,(zE (zL (i:=1) iI.nd rfl (bb rfl) (mC (zM cY (zT zO rfl y bj (zA (pv 0) zD)) (bC (v:=.int 6) rfl N ⟨_,rfl⟩) (zS _)) uL (yL zD)))
  (zE (bf PassesOwn.never rfl (uK rfl Y (zA (pv 0) zD)) (vU rfl (cX (yK (i:=2) iI.nd rfl (bb rfl)) (cX (yK (i:=3) iI.nd rfl (bb rfl)) qY)))
  (zG (yE (aY (pC X R (zA (pv 3) (zA (dN rM (pv 0) gA (fu (pv 2))) zD)))) bB zU)))
  (zG (zP (pv 1))))),?_⟩
 have hl:=j.length;refine⟨_,rfl,t,_,rfl,.inr (aJ.of ht),_,_,rfl,rfl,_,rfl,eE (bp (by omega)) ⟨bo _,fun p u=>?_⟩⟩;have S:=zF u (.lst []);refine⟨_,rfl,t,rfl,⟨_,aJ.of (S _ _ ht)⟩,pY (K:=K) (a:=t) (xs:=B) (fun i σ' d=>aH (upd H p (.lst [])) d/\∃ O o,σ'=[some (.ref t),some (.ref p),O,o]) ⟨aH.refl _,none,none,rfl⟩ (fun i σ' d _ z=>aJ.of (z.1 _ _ (S _ _ ht))) ?_ ?_⟩
 .rintro i x σ' d t1 G ⟨c,O,o,rfl⟩ I;have l:=c.trans (zF I (.tup [.int (i:Int),x]));have W:=S.trans l;obtain⟨b,J,a,rfl,L⟩:=j.back G;obtain⟨g,U,Z⟩:=r i b J;have T:=(oW.mp J).1;refine⟨t1,_,rfl,aJ.of zC,rfl,_,_,rfl,_,_,rfl,rfl,_,rfl,_,rfl,_,rfl,_,rfl,t,_,rfl,aJ.of (W _ _ ht),(by rw[HT.iJ];omega),fun D e=>?_⟩;rw[Wv B (by omega)]at *;have m:=zF e (.tup (B.take i));exact⟨.ref a,D,b,_,(bs.map (·.nm)).take i,rfl,⟨a,rfl,(W.trans m) _ _ L⟩,zC,(gP.fst (gP.mono j (aB.of (W.trans m)))).take i,by rw[iQ,bT];omega,by rw[g];exact mJ _ _,by rw[g];exact vX (VL fun k b h=>(r k b h).nm) (by rw[bT];omega) (by rw[bT];exact T),U,Z,fun _ M=>⟨_,rfl,eE rfl ⟨(l.trans m).trans M,_,_,rfl⟩⟩⟩
 .rintro σ' d ⟨c,O,o,rfl⟩;exact⟨_,rfl,q p _ (S.trans c) u (c _ _ zC)⟩
def eV:aF ["events","told","number","name"] ["events"] (aA O5):=cQ
def Z0(F:bO K "event_faults" "event_faults" O5 f fd)(M:Dp P w K mg base aN n gb db ["name","ahead"] (xj K) "name_has_fault")(u:mg "len" = none)(Y:mg "enumerate" = none)(L:mg "MOST_EVENTS" = some (.int 8 tM)) :
  aL P w K mg base aN (n+1) f fd ["events"] Tj:=by
 refine F.ok eV ?_ ?_
 .rintro _ _ _ _⟨t,b,y,rfl,_⟩;rfl
 intro _ A _ s H _ Q E D h
 obtain⟨t,b,y,rfl,ht,_,m,q⟩:=h
 refine⟨_,(zE (zL (i:=1) eV.nd rfl (bb rfl) (mC (zM cY (zT zO rfl u bj (zA (pv 0) zD)) (bC (v:=.int 8) rfl L ⟨_,rfl⟩) (zS _)) uL (yL zD)))
  (zE (bf PassesOwn.never rfl (uK rfl Y (zA (pv 0) zD)) (vU rfl (cX (yK (i:=2) eV.nd rfl (bb rfl)) (cX (yK (i:=3) eV.nd rfl (bb rfl)) qY)))
  (zG (yE (aY (pC M D (zA (pv 3) (zA (dN rM (pv 0) gA (fu (pv 2))) zD)))) bB zU)))
  (zG (zP (pv 1))))),?_⟩
 have J:(b.map V.str).length=b.length:=bT _;refine⟨_,rfl,t,_,rfl,.inr (aJ.of ht),_,_,rfl,rfl,_,rfl,eE (bp (by omega)) ⟨bo _,fun p r=>?_⟩⟩;have S:=zF r (.lst []);refine⟨_,rfl,t,rfl,⟨_,aJ.of (S _ _ ht)⟩,pY (K:=K) (a:=t) (xs:=b.map V.str) (fun i σ' d=>aH (upd H p (.lst [])) d/\∃ O o,σ'=[some (.ref t),some (.ref p),O,o]) ⟨aH.refl _,none,none,rfl⟩ (fun i σ' d _ z=>aJ.of (z.1 _ _ (S _ _ ht))) ?_ ?_⟩
 .rintro i x σ' d t1 k ⟨c,O,o,rfl⟩ I;have j:=c.trans (zF I (.tup [.int (i:Int),x]));rw[dZ]at k;obtain⟨z,l,rfl⟩:=jI.mp k;have G:=(oW.mp l).1;refine⟨t1,_,rfl,aJ.of zC,rfl,_,_,rfl,_,_,rfl,rfl,_,rfl,_,rfl,_,rfl,_,rfl,t,_,rfl,aJ.of ((S.trans j) _ _ ht),(by rw[HT.iJ];omega),fun B g=>?_⟩;rw[Wv _ (by omega),<-gE]at *;have e:=m i z l;exact⟨z,B,b.take i,rfl,.inr (aJ.of zC),by rw[e];exact mJ _ _,by rw[e];exact vX m (by omega) G,fun _ C=>⟨_,rfl,eE rfl ⟨(j.trans (zF g _)).trans C,_,_,rfl⟩⟩⟩
 .rintro σ' d ⟨c,O,o,rfl⟩;exact⟨_,rfl,q p _ (S.trans c) r (c _ _ zC)⟩
def fV:aF ["rooms","boxes","events","told","number","room"] ["rooms","boxes","events"] (aA xx):=cQ
def XJ(h:0<xs.length):mX xs (-1)=xs[xs.length-1]?:=by unfold mX Su;rw[cK (by decide),cS (by omega)];show xs[((-1:Int)+(xs.length:Int)).toNat]? = _;congr 1;omega
theorem Qi(F:bO K "room_faults" "room_faults" xx f fd)
  (wL:Dp P w K mg base aN n gr dr ["room","ahead","boxes","events"] Ni "room_has_fault")
  (xZ:Dp P w K mg base aN n ge de ["room","behind"] Tn "end_has_fault")
  (aP:mg "len" = none) (bw:mg "enumerate" = none) (nZ:mg "MOST_ROOMS" = some (.int 40 tM)):aL P w K mg base aN (n+1) f fd ["rooms","boxes","events"] IK:=by
 refine F.ok fV ?_ ?_
 .rintro _ _ _ _⟨T,tb,W,R,rs,bs,ne,sd,X,rfl,_⟩;rfl
 intro _ A _ s H _ Q E hr h
 obtain⟨T,tb,W,R,rs,bs,ne,sd,X,rfl,l,d,hB,⟨G,L,_,_,U⟩,q⟩:=h
 refine⟨_,(zE (zL (i:=3) fV.nd rfl (bb rfl) (mC (Av fJ fJ zB (zT zO rfl aP bj (zA (pv 0) zD)) (bC (v:=.int 40) rfl nZ ⟨_,rfl⟩)) (yL zD) uL))
  (zE (bf PassesOwn.never rfl (uK rfl bw (zA (pv 0) zD)) (vU rfl (cX (yK (i:=4) fV.nd rfl (bb rfl)) (cX (yK (i:=5) fV.nd rfl (bb rfl)) qY)))
  (zG (yE (PW.pt (pw_or (aY (pC wL hr (zA (pv 5) (zA (dN rM (pv 0) gA (fu (pv 4))) (zA (pv 1) (zA (pv 2) zD)))))) (pw_or1 (aY (pC xZ hr (zA (pv 5) (zA (dN rM (pv 0) (fu (yD yG (pv 4) zB)) gA) zD))))))) bB zU)))
  (zG (zP (pv 3))))),?_⟩
 have hl:=d.length;have p0:=G.pos;refine⟨_,rfl,T,_,rfl,.inr (aJ.of l),_,_,40,rfl,rfl,⟨rfl,rfl⟩,_,rfl,Hq (dP.mpr ⟨bq (by omega),bq (by omega)⟩) ⟨bo _,fun Y hp=>?_⟩⟩;have t:=zF hp (.lst []);refine⟨_,rfl,T,rfl,⟨_,aJ.of (t _ _ l)⟩,pY (K:=K) (a:=T) (xs:=R) (fun i σ' C=>aH (upd H Y (.lst [])) C/\∃ o2 Z,σ'=[some (.ref T),some (.ref tb),some (.ref W),some (.ref Y),o2,Z]) ⟨aH.refl _,none,none,rfl⟩ (fun i σ' C _ z=>aJ.of (z.1 _ _ (t _ _ l))) ?_ ?_⟩
 .rintro i x σ' C t1 hx ⟨B,o2,Z,rfl⟩ J;have s2:=B.trans (zF J (.tup [.int (i:Int),x]));have s3:=t.trans s2;obtain⟨r,er,hv⟩:=d.back hx;have g:=U i r er;have hi:=(oW.mp er).1
  have D:∀ {k:Nat} {v:V},R[k]? = some v->∀ {m:Hp},aH H m->DpH m v (X.getD k 0):=fun {k v} hk {m} p=>by
   obtain⟨r',e',a',vi,vo,e1,e2,_⟩:=d.back hk;rw[<-(U k r' e').dp];exact⟨a',_,_,_,e1,p _ _ e2⟩
  have I:∀ {m:Hp},aH H m->qA0 m x r:=fun p=>by
   obtain⟨ab,vi,vo,rfl,hab,O,hvo⟩:=hv;exact⟨ab,vi,vo,rfl,p _ _ hab,O.mono (aB.of p),hvo.mono (aB.of p)⟩
  refine⟨t1,_,rfl,aJ.of zC,rfl,_,_,rfl,_,_,rfl,rfl,_,rfl,_,rfl,_,rfl,_,rfl,T,_,rfl,aJ.of (s3 _ _ l),(by rw[HT.iJ];omega),fun p1 N=>?_⟩;rw[Wv R (by omega)]at *;have s4:=zF N (.tup (R.take i));have S:=s3.trans s4
  have ti:(R.take i).length=i:=by rw[iQ];omega
  refine⟨_,rfl,_,rfl,x,p1,tb,W,r,_,(rs.map (·.nm)).take i,bs,ne,sd,X,i,rfl,I S,g,zC,(cL.fst (cL.mono d (aB.of S))).take i,by rw[iQ,bT];omega,?_,?_,hB.mono S,fun _ s6=>⟨_,rfl,eE rfl ?_⟩⟩
  .rw[g.nm];exact vX (VL fun k b h=>(U k b h).nm) (by rw[bT];omega) (by rw[bT];exact hi)
  .rw[g.dp]
   cases i with
   | zero=>exact .inl ⟨rfl,G.first⟩
   | succ j=>
    have z:=G.next j (by omega);have w:=L (j+1) (by omega);have o:=fQ (show j<R.length by omega);exact .inr ⟨_,_,(fun e=>by rw[e]at ti;cases ti),by rw[XJ (by omega),ti,List.getElem?_take,cS (by omega)];exact o,D o S,z.1,z.2,by omega⟩
  have M:=S.trans s6;refine⟨_,rfl,_,rfl,_,rfl,_,_,rfl,rfl,_,rfl,T,_,rfl,aJ.of (M _ _ l),?_,fun p2 hp2=>?_⟩
  .rw[show ((i:Int)+1)=((i+1:Nat):Int) by omega,HT.iJ];omega
  rw[Zh R (by omega)]at *;have s8:=zF hp2 (.tup (R.drop (i+1)));refine⟨x,p2,r,_,rfl,I (M.trans s8),zC,?_,_,rfl,eE rfl ⟨((s2.trans s4).trans s6).trans s8,_,_,rfl⟩⟩;have u:=g.sh
  by_cases c:i+1<R.length
  .have o:=fQ c;refine .inr ⟨_,_,(fun e=>by have:=List.drop_eq_nil_iff.mp e;omega),yR (j:=0) (by rw[List.getElem?_drop];exact o),D o (M.trans s8),?_⟩;rw[g.dp]
   split at u
   .rename_i y
    rw[bq y.2];rcases u with e | e <;> rw[e] <;> decide +kernel
   .rename_i y
    rw[u.1,bp fun z=>y ⟨by omega,z⟩];decide +kernel
  .rw[cK (by omega)]at u;exact .inl ⟨List.drop_eq_nil_of_le (by omega),u.1⟩
 .rintro σ' C ⟨B,o2,Z,rfl⟩;exact⟨_,rfl,q Y _ (t.trans B) hp (B _ _ zC)⟩
def fY:aF ["doors","boxes","events","rooms","told","number","door"] ["doors","boxes","events","rooms"] (aA yh):=cQ
def Qx(F:bO K "door_faults" "door_faults" yh f fd)
  (Z:Dp P w K mg base aN n gd dd ["door","boxes","events","rooms"] Nt "door_has_fault")
  (B:mg "len" = none) (bw:mg "enumerate" = none) (ni:mg "MOST_DOORS" = some (.int 60 tM)):aL P w K mg base aN (n+1) f fd ["doors","boxes","events","rooms"] Ij:=by
 refine F.ok fY ?_ ?_
 .rintro _ _ _ _⟨t,l,j,T,Y,N,bs,ne,R,u,rfl,_⟩;rfl
 intro _ A _ s H _ Q E X h
 obtain⟨t,l,j,T,Y,N,bs,ne,R,u,rfl,I,b,_,D,r,k,dg,q⟩:=h
 refine⟨_,(zE (zL (i:=4) fY.nd rfl (bb rfl) (mC (zM cY (zT zO rfl B bj (zA (pv 0) zD)) (bC (v:=.int 60) rfl ni ⟨_,rfl⟩) (zS _)) uL (yL zD)))
  (zE (bf PassesOwn.never rfl (uK rfl bw (zA (pv 0) zD)) (vU rfl (cX (yK (i:=5) fY.nd rfl (bb rfl)) (cX (yK (i:=6) fY.nd rfl (bb rfl)) qY)))
  (zG (yE (aY (pC Z X (zA (pv 6) (zA (pv 1) (zA (pv 2) (zA (pv 3) zD)))))) bB zU)))
  (zG (zP (pv 4))))),?_⟩
 have hl:=b.length;refine⟨_,rfl,t,_,rfl,.inr (aJ.of I),_,_,rfl,rfl,_,rfl,eE (bp (by omega)) ⟨bo _,fun p y=>?_⟩⟩;have S:=zF y (.lst []);refine⟨_,rfl,t,rfl,⟨_,aJ.of (S _ _ I)⟩,pY (K:=K) (a:=t) (xs:=Y) (fun i σ' e=>aH (upd H p (.lst [])) e/\∃ O o,σ'=[some (.ref t),some (.ref l),some (.ref j),some (.ref T),some (.ref p),O,o]) ⟨aH.refl _,none,none,rfl⟩ (fun i σ' e _ z=>aJ.of (z.1 _ _ (S _ _ I))) ?_ ?_⟩
 .rintro i x σ' e t1 G ⟨c,O,o,rfl⟩ g;have m:=c.trans (zF g (.tup [.int (i:Int),x]));have W:=S.trans m;obtain⟨d,U,a,L,vd,rfl,J,M,hd⟩:=b.back G;exact⟨t1,_,rfl,aJ.of zC,rfl,_,_,rfl,_,_,rfl,rfl,_,rfl,_,rfl,_,rfl,_,rfl,.ref a,l,j,T,d,bs,ne,R,u,rfl,⟨a,L,vd,rfl,W _ _ J,M.mono (aB.of W),hd.mono (aB.of W)⟩,dg d (SX U),D.mono W,W _ _ r,cL.mono k (aB.of W),fun _ C=>⟨_,rfl,eE rfl ⟨m.trans C,_,_,rfl⟩⟩⟩
 .rintro σ' e ⟨c,O,o,rfl⟩;exact⟨_,rfl,q p _ (S.trans c) y (c _ _ zC)⟩
def lW:aF ["chart","boxes","events","rooms","told"] ["chart"] (aA yf):=cQ
def T6(h:H a=some o):upd H a o=H:=funext fun b=>by
 by_cases e:b=a
 .rw[e,zC,h]
 .rw[zR e]
def Qv(F:bO K "faults" "faults" yf f fd)
  (CT:Dp P w K mg base aN n g1 d1 ["chart"] Dn "bound_faults")
  (Hf:Dp P w K mg base aN n g2 d2 ["boxes"] Nx "box_faults")
  (CQ:Dp P w K mg base aN n g3 d3 ["events"] Tj "event_faults")
  (DG:Dp P w K mg base aN n g4 d4 ["rooms","boxes","events"] IK "room_faults")
  (DN:Dp P w K mg base aN n g5 d5 ["doors","boxes","events","rooms"] Ij "door_faults") :
  aL P w K mg base aN (n+1) f fd ["chart"] zy:=by
 refine F.ok lW ?_ ?_
 .rintro _ _ _ _⟨t,c,rfl,_⟩;rfl
 intro _ A _ s H _ Q E r h
 obtain⟨t,c,rfl,ch,g,q⟩:=h;obtain⟨v,T,M,td,N,L,dv,ht,e,m,l,o,k,I,C⟩:=id ch
 refine⟨_,(zE (zL (i:=1) lW.nd rfl (bb rfl) (yC zH (pv 0) zB (fun _ _=>rfl)))
  (zE (zL (i:=2) lW.nd rfl (bb rfl) (yC zH (pv 0) zB (fun _ _=>rfl)))
  (zE (zL (i:=3) lW.nd rfl (bb rfl) (yC zH (pv 0) zB (fun _ _=>rfl)))
  (zE (zL (i:=4) lW.nd rfl (bb rfl) (pC CT r (zA (pv 0) zD)))
  (zE (yJ (dU iu kz kC cG (pv 4) (zA (pC Hf r (zA (pv 1) zD)) zD)))
  (zE (yJ (dU iu kz kC cG (pv 4) (zA (pC CQ r (zA (pv 2) zD)) zD)))
  (zE (yJ (dU iu kz kC cG (pv 4) (zA (pC DG r (zA (pv 3) (zA (pv 1) (zA (pv 2) zD)))) zD)))
  (zE (yJ (dU iu kz kC cG (pv 4) (zA (pC DN r (zA (yC zH (pv 0) zB (fun _ _=>rfl)) (zA (pv 1) (zA (pv 2) (zA (pv 3) zD))))) zD)))
  (zG (zP (pv 4))))))))))),?_⟩
 obtain⟨sb,bx⟩:=g.bx;obtain⟨se,Z⟩:=g.ev;obtain⟨Y,ds,R⟩:=g.ro;have B:Bs H v T c.oX (c.evs.length:Int):=⟨⟨N,e,m⟩,_,l,by rw[bT]⟩;refine⟨_,rfl,t,_,_,_,rfl,rfl,aJ.of ht,rfl,_,rfl,t,_,_,_,rfl,rfl,aJ.of ht,rfl,_,rfl,t,_,_,_,rfl,rfl,aJ.of ht,rfl,_,rfl,t,c,rfl,ch,g,fun p H1 b n1 a=>?_⟩;have up:∀ {u:Hp},aH H1 u->upd u p (.lst ([]++[]))=u:=fun s=>T6 (s _ _ a);refine⟨_,rfl,.inl ⟨rfl,_,aU.of a⟩,_,rfl,v,N,c.oX,sb,rfl,b _ _ e,gP.mono m (aB.of b),g.b6,bx,fun p2 u S _ h2=>⟨p,p2,[],[],rfl,rfl,S _ _ a,h2,bo _,?_⟩⟩;rw[up S];have s3:=b.trans S;refine⟨_,rfl,.inl ⟨rfl,_,aU.of (S _ _ a)⟩,_,rfl,T,c.evs,se,rfl,s3 _ _ l,g.e8,Z,fun p4 _ G _ h4=>⟨p,p4,[],[],rfl,rfl,G _ _ (S _ _ a),h4,bo _,?_⟩⟩;have j:=S.trans G;rw[up j];have O:=b.trans j;refine⟨_,rfl,.inl ⟨rfl,_,aU.of (j _ _ a)⟩,_,rfl,_,rfl,_,rfl,M,v,T,L,c.rooms,c.oX,_,Y,ds,rfl,O _ _ o,cL.mono k (aB.of O),B.mono O,R,fun W _ D _ X=>⟨p,W,[],[],rfl,rfl,D _ _ (j _ _ a),X,bo _,?_⟩⟩;have J:=j.trans D;rw[up J];have d:=b.trans J;refine⟨_,rfl,.inl ⟨rfl,_,aU.of (J _ _ a)⟩,_,rfl,t,_,_,_,rfl,rfl,aJ.of (d _ _ ht),rfl,_,rfl,_,rfl,_,rfl,td,v,T,M,dv,c.mV,c.oX,_,L,c.rooms,rfl,d _ _ I,jx.mono C (aB.of d),g.d12,B.mono d,d _ _ o,cL.mono k (aB.of d),g.dr,fun y _ U _ x=>⟨p,y,[],[],rfl,rfl,U _ _ (J _ _ a),x,bo _,?_⟩⟩;have z:=J.trans U;rw[up z];exact⟨_,rfl,q p _ (b.trans z) n1 (z _ _ a)⟩
end dC
namespace XR
open PySem L2 jP lN vB Q3 xM dC Ru
open DQ (Al)
def qB7(h:H a=some o):upd H a o=H:=funext fun b=>by
 by_cases z:b=a
 .rw[z,zC,h]
 .exact zR z
def nl(s:S4):S4:=⟨s.os,s.bx,s.ks,[]⟩
noncomputable def dz(r:aw Rm)(os:aw Nat):aw Str:=(os.map fun o=>(r.map (·.jn)).getD o ("" : Str)).filter fun z => !decide (z=("" : Str))
inductive Nk(vs:List V)(H:Hp)(Q:VK)(E_:XK):Prop
 | mk (t ux rs os) (_:vs=[.ref t,.ref ux]) (_:dW H t rs) (_:H ux=some (.tup (aC os))) (_:(∀ o∈os,o<rs.length)) (_:os.length<=40) (_:rs.length<=40) (_:∀ p H',aH H H'->H' p=some (.tup ((dz rs os).map V.str))->Q (.ref p) H')
def uR{os:aw Nat}{i o:Nat}{r:Rm}(h:os[i]? = some o)(g:rs[o]? = some r):dz rs (os.take (i+1))=dz rs (os.take i)++(if (!decide (r.jn=("" : Str)))=true then [r.jn] else []):=by
 unfold dz;rw[mq,h,qz,fz];congr 1;show [(rs.map (·.jn)).getD o ("" : Str)].filter _=_
 rw[show (rs.map (·.jn)).getD o ("" : Str)=r.jn by
  rw[jT,dZ,g]
  rfl]
 rw[fA]
 split <;> rfl
def pR(r:aw Rm)(os:aw Nat):(dz r os).length<=os.length:=by unfold dz;refine br (vD _ _) ?_;rw[bT];exact bD _
def Jq(a b:Str):decide (V.str a=V.str b)=decide (a=b):=bS.mpr ⟨fun h=>by injection h,fun h=>by rw[h]⟩
def U0:aF ["rooms","opening"] ["rooms","opening"] (aA Ai):=cQ
def V0{f:ar}{z:af}(F:bO K "lamps" "lamps" Ai f z)(B:mg "tuple" = none):aL P w K mg base aN 1 f z ["rooms","opening"] Nk:=by
 refine F.ok U0 ?_ ?_
 .rintro _ _ _ _⟨t,U,R,os,rfl,_⟩;rfl
 intro _ A _ s H vs Q E _ h
 apply aW;intro _ g_;obtain⟨t,U,R,os,rfl,D,d,m,_,_,q⟩:=h;apply g_;clear g_;refine⟨_,(zG (zP (yB zY rfl B qt (zA (yU (bF:=[(0,"rooms")]) rfl (show bA (aA Ai) ["rooms","opening"] _ _ _ from vA) (nQ (pv 1)) (fun _ _ _ _ _ _=>cW (zM pN (yC (r:=dM K) zH (yC (r:=dM K) zH (pv 1) (pv 0) (fun _ _=>rfl)) zB (fun _ _=>rfl)) zQ (zS _))) (fun _ _ _ _ _ _=>(yC (r:=dM K) zH (yC (r:=dM K) zH (pv 1) (pv 0) (fun _ _=>rfl)) zB (fun _ _=>rfl)))) zD)))),?_⟩;refine⟨_,rfl,U,rfl,⟨_,aJ.of d⟩,?_⟩;refine ig (K:=K) (a:=U) (xs:=aC os) (fun i b k=>k=H/\b=(dz R (os.take i)).map V.str) ⟨rfl,rfl⟩ (fun i b k ⟨e,_⟩=>by subst e;exact aJ.of d) (fun i x b k j ⟨l,o⟩=>?_) (fun b k ⟨l,o⟩ p C=>?_)
 .subst l o
  have y:i<os.length:=by
   have:=(oW.mp j).1;rw[zV]at this;exact this
  have M:=fQ y
  obtain rfl:x = .int ((os[i]:Nat):Int):=by
   unfold aC at j;rw[dZ,M]at j;exact (kJ j).symm
  apply aW;intro _ g_;obtain⟨vs,a,r,ht,_,n,g,v⟩:=D.at (m _ (lQ y));apply g_;clear g_;have L:=pR R (os.take i);rw[iQ]at L;have S:=uR M n;refine⟨_,rfl,_,rfl,t,vs,_,_,rfl,rfl,aJ.of ht,g,aG (aJ.of v) rfl ⟨rfl,_,rfl,?_⟩⟩;refine fO (fun c=>?_) (fun c=>?_)
  .rw[Jq]at c;rw[cS c]at S;refine⟨_,rfl,_,rfl,t,vs,_,_,rfl,rfl,aJ.of ht,g,aG (aJ.of v) rfl ⟨zW (by rw[bT];lia),rfl,?_⟩⟩;rw[S,qz];rfl
  .rw[Jq]at c;rw[cK (by rw[c];decide),oY]at S;exact⟨rfl,by rw[S]⟩
 subst l o;rw[DX (by rw[zV];exact bD _)];refine⟨p,_,rfl,.inl ⟨aU.of zC,fun G u=>?_⟩⟩;exact q G _ ((zF C _).trans (zF u _)) zC
end XR
namespace wH
open PySem L2 jP lN vB Q3 xM dC Ru
open DQ (Al)
open XR (nl dz)
structure NF(fs:List (Str×V))(pc pp pb:Addr):Prop where
 ch:fs.lookup ("chart" : Str)=some (.ref pc)
 pl:fs.lookup ("place" : Str)=some (.ref pp)
 bg:fs.lookup ("beginning" : Str)=some (.ref pb)
 no:∀ x∈[("first" : Str),"run","stand","lamps"],fs.lookup x=none
 le:fs.length<=3
def xY(C:ar)(H:Hp)(p T o B:ar):Prop:=∃ d fs,H p=some (.ins C d fs)/\NF fs T o B
theorem yl(f:Str)(v:V):∀ fs:aw (Str×V),(cP f v fs).length<=fs.length+1
 | []=>bD _
 | (g,x)::fs=>by
  unfold cP
  split
  .exact ip _
  .rw[dG,dG];exact iX (yl f v fs)
def qCC(T o B:ar):NF (cP "beginning" (.ref B) (cP "place" (.ref o) (cP "chart" (.ref T) []))) T o B:=by
 refine⟨?_,?_,?_,?_,br (yl _ _ _) (iX (br (yl _ _ _) (iX (yl _ _ _))))⟩
 .rw[aV,cK (by decide +kernel),aV,cK (by decide +kernel),aV,cS rfl]
 .rw[aV,cK (by decide +kernel),aV,cS rfl]
 .rw[aV,cS rfl]
 .intro x h;rw[aV,aV,aV];simp only[List.mem_cons,List.not_mem_nil,or_false]at h;rcases h with rfl | rfl | rfl | rfl <;> rw[cK (by decide +kernel),cK (by decide +kernel),cK (by decide +kernel)] <;> rfl
theorem Ob(f:Str)(v:V):∀ {fs:aw (Str×V)} {u:V},fs.lookup f=some u->(cP f v fs).length=fs.length
 | (g,x)::fs,u,h=>by
  unfold cP
  by_cases e:g=f
  .rw[cS e];rfl
  .rw[cK e,dG,dG,Ob f v (u:=u) (by
    rw[gy]at h
    have:(f==g)=false:=by simpa using fun z=>e z.symm
    rw[this]at h
    exact h)]
def NF.put(h:NF fs pc pp pb)(p:ar):NF (cP "place" (.ref p) fs) pc p pb:=by
 obtain⟨f,q,b,l,u⟩:=h;refine⟨?_,?_,?_,fun x H=>?_,by rw[Ob _ _ q];exact u⟩
 .rw[aV,cK (by decide +kernel)];exact f
 .rw[aV,cS rfl]
 .rw[aV,cK (by decide +kernel)];exact b
 .rw[aV,cK,l x H];rintro rfl;exact eu H (by decide +kernel)
def xY.mono(h:xY C H p pc pp pb)(s:aH H H'):xY C H' p pc pp pb:=by obtain⟨d,fs,f,q⟩:=h;exact⟨d,fs,s _ _ f,q⟩
inductive Nj(C:Addr)(n:Nat)(vs:List V)(H:Hp)(Q:VK)(E_:XK):Prop
 | mk (p dx pc:Addr) (cc:gW.Ch) (c:mZ) (bs:List (Int×Int)) (ne:Nat) (_:vs=[.ref p,.ref pc]) (_:H p=some (.ins C dx [])) (_:gW.jJ H pc cc) (_:CJ.ChG cc) (_:mj.Sy H pc c bs ne) (_:mj.uw c bs) (_:3<=n)
  (_:∀(ps pw:Addr)(wv:List V)(es:List En)(s:S4)(H':Hp),Xm c bs es s->Jw c s.os s.ks->jG c s->(∀ b o,H b=some o->b≠p->H' b=some o)->xY C H' p pc ps pw->cR H' ps s->H' pw=some (.lst wv)->H pw=none->Al (iz H') wv es->es.length<=1000000->Q .non H')
inductive qAF(C:Addr)(vs:List V)(H:Hp)(Q:VK)(E_:XK):Prop
 | mk (e:Addr) (n:Int) (_:vs=[.ref e,.int n]) (_:H e=some (xQ e C none)) (_:n.natAbs.log2<1920) (_:(Str.empty++("the chart has no event " : Str)++Str.ofString (toString n)).length<=sizeLine) (_:∀ dx:Addr,H dx=none->dx≠e->Q .non (upd (upd H dx (.xd [("event",.int n)])) e (xQ e C (some dx))))
inductive Nq(C:Addr)(vs:List V)(H:Hp)(Q:VK)(E_:XK):Prop
 | mk (p pc pp pb:Addr) (wv:List V) (_:vs=[.ref p]) (_:xY C H p pc pp pb) (_:H pb=some (.lst wv)) (_:∀ q:Addr,H q=none->Q (.ref q) (upd H q (.lst wv)))
inductive Nh(C:Addr)(vs:List V)(H:Hp)(Q:VK)(E_:XK):Prop
 | mk (p pc pp pb:Addr) (_:vs=[.ref p]) (_:xY C H p pc pp pb) (_:Q (.ref pp) H)
inductive Ia(C:Addr)(vs:List V)(H:Hp)(Q:VK)(E_:XK):Prop
 | mk (p pc pp pb:Addr) (c:mZ) (s:S4) (_:vs=[.ref p]) (_:xY C H p pc pp pb) (_:jJ H pc c) (_:DP c) (_:cR H pp s) (_:jG c s) (_:∀ q H',aH H H'->H' q=some (.tup ((dz c.rs s.os).map V.str))->Q (.ref q) H')
inductive Tc(C CN:Addr)(n:Nat)(vs:List V)(H:Hp)(Q:VK)(E:XK):Prop
 | mk (p pc pp pb:Addr) (c:mZ) (bs:List (Int×Int)) (ne:Nat) (ev:Int) (s:S4) (_:vs=[.ref p,.int ev]) (_:xY C H p pc pp pb) (_:mj.Sy H pc c bs ne) (_:mj.uw c bs) (_:3<=n) (_:cR H pp s) (_:jG c s) (_:Jw c s.os s.ks) (_:s.l=[]) (_:ev.natAbs.log2<1920) (_:(Str.empty++("the chart has no event " : Str)++Str.ofString (toString ev)).length<=sizeLine)
  (_:0<=ev->ev<(ne:Int)->∀(ps' pw:Addr)(wv:List V)(es':List En)(s':S4)(H':Hp),qA9 c ev s es' s'->Jw c s'.os s'.ks->jG c s'->(∀ b o,H b=some o->b≠p->H' b=some o)->xY C H' p pc ps' pb->cR H' ps' (nl s')->H' pw=some (.lst wv)->H pw=none->Al (iz H') wv es'->wv.length<=1000000->Q (.ref pw) H')
  (_:¬ (0<=ev/\ev<(ne:Int))->∀(dx:Addr)(H':Hp),aH H H'->H dx=none->H' dx=some (.xd [("event",.int ev)])->E (.ref CN) (some dx) H')
section
variable{P:ag}{w:aI}{K:bV}{mg:Str->aE av}{base:Heap}{C CN CE:ar}
def qBI:aF ["self","event"] ["self","event"] (aA fj):=cQ
def qC2(F:bO K "__init__" "NoEvent.__init__" fj f fd)(C:sE K CN f=true)(q:HR K CN "event")(c:mg "NestError" = some (.ref CE))
  (m:PySem.W.specialIn K (.ref CE) "__getattribute__" = some (some (.builtin "type.__getattribute__"))) (d:PySem.W.readsIn K CE (.type "type")=true) (b:PySem.W.findCls K (.ref CE) (.type "type") "__init__" = some (.val (.builtin "ValueError.__init__"))) :
  aL P w K mg base aN 1 f fd ["self","event"] (qAF CN):=by
 refine F.ok qBI ?_ ?_
 .rintro _ _ _ _⟨e,n,rfl,_⟩;rfl
 intro _ A _ s H _ Q E _ h
 obtain⟨e,n,rfl,g,y,N,k⟩:=h
 refine⟨_,(zE (Yi rfl c m d b (zA (pv 0) (zA (Yl (pv 1)) zD)))
  (zG (Yg (pv 0) (pv 1) rfl))),?_⟩
 refine⟨_,rfl,⟨zJ (by decide +kernel),⟨_,rfl,n,rfl,y,N,e,CN,f,none,_,rfl,(by rw[sizeLine_eq];exact (by decide:1<=16777216)),C,g,?_⟩⟩⟩;rw[XR.qB7 g];exact⟨_,rfl,_,rfl,e,CN,rfl,g,q,fun D x a=>k D x a⟩
def Ad:aF ["self","chart","found","told"] ["self","chart"] (aA kW):=cQ
def Uv(F:bO K "__init__" "Nest.__init__" kW f fd)(y:vC K C)(nC:cA K C "chart")(nP:cA K C "place")(nB:cA K C "beginning")
  (Xj:Dp P w K mg base aN m' g1 d1 ["chart"] dC.zy "faults")
  (yw:Dp P w K mg base aN m' g2 d2 ["chart"] (Fi n) "begun")
  (X:mg "len" = none):aL P w K mg base aN (m'+1) f fd ["self","chart"] (Nj C n):=by
 refine F.ok Ad ?_ ?_
 .rintro _ _ _ _⟨p,d,T,O,c,bs,ne,rfl,_⟩;rfl
 intro _ A _ s H _ Q E L h
 obtain⟨p,d,T,O,c,bs,ne,rfl,hp,N,gg,hX,ok,n3,k⟩:=h
 refine⟨_,(zE (zL (i:=2) Ad.nd rfl (bb rfl) (pC Xj L (zA (pv 1) zD)))
  (zE (yE (zM cY (zT zO rfl X bj (zA (pv 2) zD)) zB (zS _)) (zG Ua) zU)
  (zE (zL (i:=3) Ad.nd rfl (bb rfl) (pC yw L (zA (pv 1) zD)))
  (zE (vP (pv 0) (pv 1) rfl)
  (zE (vP (pv 0) (yC zH (pv 3) zB (fun _ _=>rfl)) rfl)
  (zG (vP (pv 0) (yC zH (pv 3) zB (fun _ _=>rfl)) rfl))))))),?_⟩
 refine⟨_,rfl,T,O,rfl,N,gg,fun _ _ S _ B=>?_⟩;refine⟨_,rfl,xR rfl (.inl (aU.of B)) (eO ⟨_,rfl,eE rfl ?_⟩)⟩;refine⟨_,rfl,T,c,bs,ne,rfl,hX.mono (aB.of S),ok,n3,fun t ps g wv W st m BR j so s2 ht hS I Z7 hA le=>?_⟩;have D:=S.trans s2;have r:=D _ _ hp;have G:H g=none:=S.free Z7;refine⟨_,rfl,_,rfl,p,C,d,[],rfl,r,y,nC,(by show 0<1000;decide),?_⟩;generalize a:upd m p (.ins C d (cP "chart" (.ref T) []))=u
 have p3:u p=some (.ins C d (cP "chart" (.ref T) [])):=by rw[<-a];exact zC
 have J:∀ b,b≠p->u b=m b:=fun b z=>by rw[<-a];exact zR z
 have Y:u t=some (.tup [.ref ps,.ref g]):=(J t (gU ht r nofun)).trans ht;refine⟨_,rfl,aG (aJ.of Y) rfl ⟨_,rfl,p,C,d,_,rfl,p3,y,nP,(by show 1<1000;decide),?_⟩⟩;generalize l:upd u p (.ins C d (cP "place" (.ref ps) (cP "chart" (.ref T) [])))=v
 have p4:v p=some (.ins C d (cP "place" (.ref ps) (cP "chart" (.ref T) []))):=by rw[<-l];exact zC
 have M:∀ b,b≠p->v b=m b:=fun b z=>by rw[<-l,zR z];exact J b z
 have t4:v t=some (.tup [.ref ps,.ref g]):=(M t (gU ht r nofun)).trans ht;refine⟨_,rfl,aG (aJ.of t4) rfl ⟨_,rfl,p,C,d,_,rfl,p4,y,nB,(by show 2<1000;decide),?_⟩⟩;generalize q:upd v p (.ins C d (cP "beginning" (.ref g) (cP "place" (.ref ps) (cP "chart" (.ref T) []))))=x
 have Z:x p=some (.ins C d (cP "beginning" (.ref g) (cP "place" (.ref ps) (cP "chart" (.ref T) [])))):=by rw[<-q];exact zC
 have R:∀ b,b≠p->x b=m b:=fun b z=>by rw[<-q,zR z];exact M b z
 have U:aB m x:=fun b _ e=>(R b (gU e r nofun)).trans e;exact k ps g wv W st x BR j so (fun b o e z=>(R b z).trans (D b o e)) ⟨d,_,Z,qCC T ps g⟩ (hS.mono U) ((R g (gU I r nofun)).trans I) G (hA.mono fun _ _ z=>z.mono U) le
def U3:aF ["self"] ["self"] (aA qP):=cQ
def V3(F:bO K "first" "Nest.first" qP f fd)(l:vC K C)(n:cA K C "beginning")(c:mg "list" = none):aL P w K mg base aN 1 f fd ["self"] (Nq C):=by
 refine F.ok U3 ?_ ?_
 .rintro _ _ _ _⟨p,T,o,B,W,rfl,_⟩;rfl
 intro _ A _ s H _ Q E _ h
 obtain⟨p,T,o,B,W,rfl,⟨d,_,a,b⟩,G,q⟩:=h;refine⟨_,(zG (zP (yB gO rfl c kf (zA (gq (pv 0) rfl) zD)))),?_⟩;exact⟨_,rfl,p,C,d,_,_,rfl,a,l,n,b.bg,xR rfl (.inl (aU.of G)) q⟩
def Tw:aF ["self"] ["self"] (aA qN):=cQ
def Ur(F:bO K "stand" "Nest.stand" qN f fd)(l:vC K C)(n:cA K C "place"):aL P w K mg base aN 1 f fd ["self"] (Nh C):=by
 refine F.ok Tw ?_ ?_
 .rintro _ _ _ _⟨p,T,o,B,rfl,_⟩;rfl
 intro _ A _ s H _ Q E _ h
 obtain⟨p,T,o,B,rfl,⟨d,_,a,b⟩,q⟩:=h;refine⟨_,(zG (zP (gq (pv 0) rfl))),?_⟩;exact⟨_,rfl,p,C,d,_,_,rfl,a,l,n,b.pl,q⟩
end
def QM:aF ["self"] ["self"] (aA qO):=cQ
def Qm(F:bO K "lamps" "Nest.lamps" qO f fd)(l:vC K C)(N:cA K C "chart")(n:cA K C "place")
  (a:Dp P w K mg base aN m' g1 d1 ["rooms","opening"] XR.Nk "lamps_stands"):aL P w K mg base aN (m'+1) f fd ["self"] (Ia C):=by
 refine F.ok QM ?_ ?_
 .rintro _ _ _ _⟨p,T,m,j,c,s,rfl,_⟩;rfl
 intro _ A _ s H _ Q E r h
 obtain⟨p,T,m,j,c,s,rfl,⟨d,_,b,e⟩,X,ok,B,S,q⟩:=h;refine⟨_,(zG (zP (pC a r (zA (yC zH (gq (pv 0) rfl) zB (fun _ _=>rfl)) (zA (yC zH (gq (pv 0) rfl) zB (fun _ _=>rfl)) zD))))),?_⟩;obtain⟨_,t,_,_,_,_,k,_,_,D,_⟩:=X;obtain⟨o,_,_,_,g,i,_⟩:=B;exact⟨_,rfl,p,C,d,_,_,rfl,b,l,N,e.ch,aG (aJ.of k) rfl ⟨_,rfl,p,C,d,_,_,rfl,b,l,n,e.pl,aG (aJ.of g) rfl ⟨t,o,c.rs,s.os,rfl,D,i,S.lt,S.Oi,ok.r40,q⟩⟩⟩
def Tz:aF ["self","event","told"] ["self","event"] (aA xn):=cQ
def qC0(F:bO K "run" "Nest.run" xn f fd)(m:vC K C)(W:cA K C "chart")(O:cA K C "place")
  (hN:sE K CN gi=true) (kN:KI K CN) (vZ:mg "NoEvent" = some (.ref CN)) (qJ:aL P w K mg base (Ke P w) m' gi di ["self","event"] (qAF CN)) (qF:Binds K di ["self","event"] [])
  (aZ:Dp P w K mg base aN (m'+1) g1 d1 ["number","things"] dC.zx "is_number_of")
  (Hh:Dp P w K mg base aN (m'+1) g2 d2 ["chart","stand","event"] (Fj n) "after") :
  aL P w K mg base (Ke P w) (m'+2) f fd ["self","event"] (Tc C CN n):=by
 refine F.okX Tz ?_ ?_
 .rintro _ _ _ _⟨p,T,pp,pb,c,bs,ne,v,s,rfl,_⟩;rfl
 intro _ A _ s H _ Q E J h
 obtain⟨p,T,pp,pb,c,bs,ne,v,st,rfl,⟨D,fs,r,q⟩,X,ok,n3,hS,so,j,l0,f1,f2,q1,q2⟩:=h
 refine⟨_,(zE (yE (bY (aY (pC aZ J (zA (pv 1) (zA (yC zH (gq (pv 0) rfl) zB (fun _ _=>rfl)) zD))))) (zG (QS qCY rfl rfl vZ hN kN qJ J qF .nil (zA (pv 1) zD))) zU)
  (zE (zL (i:=2) Tz.nd rfl (bb rfl) (pC Hh J (zA (gq (pv 0) rfl) (zA (gq (pv 0) rfl) (zA (pv 1) zD)))))
  (zE (vP (pv 0) (yC zH (pv 2) zB (fun _ _=>rfl)) rfl)
  (zG (zP (yC zH (pv 2) zB (fun _ _=>rfl))))))),?_⟩
 obtain⟨_,pn,t,_,_,nv,_,_,c1,_,_,c4,c5,_⟩:=id X;refine⟨_,rfl,_,rfl,p,C,D,_,_,rfl,r,m,W,q.ch,aG (aJ.of c1) rfl ⟨v,pn,nv,rfl,c4,?_⟩⟩;rw[c5]
 by_cases k:0<=v/\v<(ne:Int)
 .refine .inl ⟨k,_,rfl,eE rfl ?_⟩;have I:All c (Jw c) n:=⟨ok.ok,wide ok.ok,fun d hd=>⟨(ok.g d hd).1,br (ok.g d hd).2 n3⟩⟩;refine⟨_,rfl,p,C,D,_,_,rfl,r,m,W,q.ch,_,rfl,p,C,D,_,_,rfl,r,m,O,q.pl,_,rfl,T,pp,c,v,st,rfl,X.ch ok,I,hS,so,j,l0,by have:=ok.t4;lia,fun _ a pw wv G s' y AR j' S M ht B L Z7 hA lw=>?_⟩;have x:=M _ _ r;refine⟨_,rfl,aG (aJ.of ht) rfl ⟨_,rfl,p,C,D,_,rfl,x,m,O,(by have:=q.le;lia),?_⟩⟩;generalize l:upd y p (.ins C D (cP "place" (.ref a) fs))=u
  have p2:u p=some (.ins C D (cP "place" (.ref a) fs)):=by rw[<-l];exact zC
  have R:∀ b,b≠p->u b=y b:=fun b z=>by rw[<-l];exact zR z
  have U:aB y u:=fun b _ e=>(R b (gU e x nofun)).trans e;exact⟨_,rfl,aG (aJ.of (U _ _ ht)) rfl (q1 k.1 k.2 a pw wv G s' u AR j' S (fun b o e z=>(R b z).trans (M b o e)) ⟨D,_,p2,q.put a⟩ ((cR.tail B []).mono U) ((R pw (gU L x nofun)).trans L) Z7 (hA.mono fun _ _ z=>z.mono U) lw)⟩
 .refine .inr ⟨k,_,rfl,Hq rfl ?_⟩;refine⟨_,rfl,(zJ (by show 1<=1000;decide)),fun e he=>⟨e,v,rfl,zC,f1,f2,fun ld g N=>⟨rfl,some ld,zC,?_⟩⟩⟩;rw[zR N]at g
  have e5:del (upd (upd (upd H e (xQ e CN none)) ld (.xd [("event",.int v)])) e (xQ e CN (some ld))) e=upd H ld (.xd [("event",.int v)]):=by
   funext b
   by_cases Z:b=e
   .subst Z;rw[uc,zR (bE N),he]
   .rw[oA Z,zR Z]
    by_cases Y:b=ld
    .subst Y;rw[zC,zC]
    .rw[zR Y,zR Y,zR Z]
  rw[e5];exact q2 k ld _ (zF g _) g zC
end wH
namespace Ru
open PySem L2 jP lN vB Q3 xM dC
open DQ (Al)
inductive DW(H:Hp):Nat->V->V->Prop where
 | str {n:Nat} (z:Str):DW H n (.str z) (.str z)
 | int {n:Nat} (m:Int):DW H n (.int m) (.int m)
 | tup {n:Nat} {a b:Addr} {xs ys:List V}:H a=some (.tup xs)->H b=some (.tup ys)->xs.length=ys.length->xs.length<=2000000->(∀(i:Nat)(x y:V),xs[i]? = some x->ys[i]? = some y->DW H n x y)->DW H (n+1) (.ref a) (.ref b)
 | lst {n:Nat} {a b:Addr} {xs ys:List V}:H a=some (.lst xs)->H b=some (.lst ys)->xs.length=ys.length->xs.length<=2000000->(∀(i:Nat)(x y:V),xs[i]? = some x->ys[i]? = some y->DW H n x y)->DW H (n+1) (.ref a) (.ref b)
theorem DW.up:∀ {n:Nat} {v u:V},DW H n v u->DW H (n+1) v u
 | _,_,_,.str z=>.str z
 | _,_,_,.int k=>.int k
 | _,_,_,.tup f q b l a=>.tup f q b l fun i x y h O=>(a i x y h O).up
 | _,_,_,.lst f q b l a=>.lst f q b l fun i x y h O=>(a i x y h O).up
def nO(v:V):Prop:=(∃ z,v = .str z) ∨ ∃ m,v = .int m
def Ax(os:aw Nat):∀ v∈aC os,nO v:=fun v H=>by
 unfold aC at H;obtain⟨o,_,rfl⟩:=eX.mp H;exact .inr ⟨_,rfl⟩
def Lg(os:aw Int):∀ v∈os.map V.int,nO v:=fun v H=>by
 obtain⟨o,_,rfl⟩:=eX.mp H;exact .inr ⟨_,rfl⟩
theorem QW(e:En):∀ v∈e.row,nO v:=by
 have s:∀ z:Str,nO (.str z):=fun z=>.inl ⟨z,rfl⟩;have i:∀ z:Int,nO (.int z):=fun z=>.inr ⟨z,rfl⟩
 have two:∀(a b:V),nO a->nO b->∀ v∈[a,b],nO v:=fun a b f c v H=>by
  rcases dD.mp H with rfl | H
  .exact f
  .rw[jA.mp H];exact c
 cases e with
 | rc r=>
  cases r with
  | say w=>exact two _ _ (s _) (s _)
  | put b n=>
   intro v H;rcases dD.mp H with rfl | H
   .exact s _
   .exact two _ _ (i _) (i _) v H
  | send e=>exact two _ _ (s _) (i _)
  | lost e=>exact two _ _ (s _) (i _)
 | inn k=>exact two _ _ (s _) (i _)
 | out k=>exact two _ _ (s _) (i _)
 | door k=>exact two _ _ (s _) (i _)
 | thr k=>exact two _ _ (s _) (i _)
 | take k=>exact two _ _ (s _) (i _)
theorem YZ(e:En):e.row.length<=3:=by
 cases e with
 | rc r=>cases r <;> (first | exact (by decide:2<=3) | exact bD 3)
 | _=>exact (by decide:2<=3)
def um(f:H a=some (.tup xs))(d:H b=some (.tup xs))(l:xs.length<=2000000)(h:∀ v∈xs,nO v):DW H 1 (.ref a) (.ref b):=.tup f d rfl l fun i x y c O=>by
 obtain rfl:=kJ (c.symm.trans O);rcases h x (SX c) with ⟨z,rfl⟩ | ⟨z,rfl⟩
 .exact .str z
 .exact .int z
def qDC(D:∀(x y:V)(r:α),R x r->R y r->DW H n x y)(f:Al R xs rs)(q:Al R ys rs):xs.length=ys.length/\∀(i:Nat)(x y:V),xs[i]? = some x->ys[i]? = some y->DW H n x y:=by have l:=f.length;have L:=q.length;refine⟨by omega,fun i x y a O=>?_⟩;have d:i<xs.length:=(oW.mp a).1;have e:=fQ (show i<rs.length by omega);obtain⟨_,h,c⟩:=f.get e;obtain⟨_,b,z⟩:=q.get e;obtain rfl:=kJ (a.symm.trans h);obtain rfl:=kJ (O.symm.trans b);exact D _ _ _ c z
def HJ(i:H a=some (.lst xs))(j:H b=some (.lst ys))(f:Al (iz H) xs es)(g:Al (iz H) ys es)(l:es.length<=2000000):DW H 2 (.ref a) (.ref b):=by
 obtain⟨d,h⟩:=qDC (n:=1) (fun x y r c O=>by
  obtain⟨p,rfl,e⟩:=c;obtain⟨q,rfl,E⟩:=O
  exact um e E (by have:=YZ r;omega) (QW r)) f g
 exact .lst i j d (by rw[f.length];exact l) h
theorem qDB(j:cR H p s)(z:cR H q s)(lo:s.os.length<=40)(I:s.bx.length<=40)(A:s.ks.length<=40)(L:∀ r∈s.ks,r.length<=40):DW H 3 (.ref p) (.ref q):=by
 obtain⟨o,P,J,m,a1,a2,a3,a4,a5⟩:=j;obtain⟨Q,qb,w,_,n,k,f,d,B⟩:=z;have up:∀ {v u:V},DW H 1 v u->DW H 2 v u:=fun h=>h.up;have t:DW H 2 (.ref o) (.ref Q):=up (um a2 k (by rw[zV];omega) (Ax _));have g:DW H 2 (.ref P) (.ref qb):=up (um a3 f (by rw[bT];omega) (Lg _));have D:=a5.length;have F:=B.length
 have C:DW H 2 (.ref J) (.ref w):=by
  refine .tup a4 d (by omega) (by omega) fun i x y a O=>?_;have G:i<m.length:=(oW.mp a).1;have e:=fQ (show i<s.ks.length by omega);obtain⟨_,b,_,rfl,E⟩:=a5.get e;obtain⟨_,c,_,rfl,l⟩:=B.get e;obtain rfl:=kJ (a.symm.trans b);obtain rfl:=kJ (O.symm.trans c);exact um E l (by rw[zV];have:=L _ (SX e);omega) (Ax _)
 refine .tup a1 n rfl (by show 3<=2000000;decide) fun i x y a O=>?_
 match i,a,O with
 | 0,a,O=>cases a;cases O;exact t
 | 1,a,O=>cases a;cases O;exact g
 | 2,a,O=>cases a;cases O;exact C
def ou(m:Nat):Sp:=fun vs H Q _ => ∃(v u:V)(k:Nat),vs=[v,u]/\k<m/\DW H k v u/\Q (.bl true) H
def wW:aF ["_law_found","_law_due","_law_k"] ["_law_found","_law_due"] (aA Iw):=cQ
theorem Uz(F:bO K "_law_same" "_law_same" Iw f fd)(W:Dp P w K mg base aN n f fd ["_law_found","_law_due"] (ou n) "_law_same")
  (X:mg "isinstance" = none) (M:mg "tuple" = none) (N:mg "str" = none) (U:mg "int" = none) (T:mg "bool" = none) (R:mg "list" = none) (C:mg "len" = none) (S:mg "range" = none):aL P w K mg base aN (n+1) f fd ["_law_found","_law_due"] (ou (n+1)):=by
 refine F.ok wW ?_ ?_
 .rintro _ _ _ _⟨v,u,k,rfl,_⟩;rfl
 intro _ A _ s H _ Q E Y h
 obtain⟨v,u,k,rfl,_,Z,q⟩:=h
 refine⟨_,(zE (yE (aY (zT c7 rfl X xN (zA (pv 1) (zA (iK (v:=.ty "str") rfl N PyProof.Rows.boot_str rfl) zD))))
  (zG (zP (pL (rT (zT c7 rfl X xN (zA (pv 0) (zA (iK (v:=.ty "str") rfl N PyProof.Rows.boot_str rfl) zD))) (gB (bK yH (pv 0) (pv 1) (zS _)))))))
  zU)
  (zE (yE (aY (zT c7 rfl X xN (zA (pv 1) (zA (iK (v:=.ty "int") rfl U ke rfl) zD))))
  (zG (zP (pL (rT (zT c7 rfl X xN (zA (pv 0) (zA (iK (v:=.ty "int") rfl U ke rfl) zD))) (rT (gC (zT c7 rfl X xN (zA (pv 0) (zA (iK (v:=.ty "bool") rfl T PyProof.Rows.boot_bool rfl) zD)))) (gB (bK yH (pv 0) (pv 1) (zS _))))))))
  zU)
  (zE (yE (bZ (PW.pt (pw_and (aY (zT c7 rfl X xN (zA (pv 1) (zA (iK (v:=.ty "tuple") rfl M qt rfl) zD)))) (yQ (bY (aY (zT c7 rfl X xN (zA (pv 0) (zA (iK (v:=.ty "tuple") rfl M qt rfl) zD)))))))))
  (zG (zP gG))
  zU)
  (zE (yE (bZ (PW.pt (pw_and (aY (zT c7 rfl X xN (zA (pv 1) (zA (iK (v:=.ty "list") rfl R kf rfl) zD)))) (yQ (bY (aY (zT c7 rfl X xN (zA (pv 0) (zA (iK (v:=.ty "list") rfl R kf rfl) zD)))))))))
  (zG (zP gG))
  zU)
  (zE (yE (zM pN (zT zO rfl C bj (zA (pv 0) zD)) (zT zO rfl C bj (zA (pv 1) zD)) (zS _))
  (zG (zP gG))
  zU)
  (yA (bf PassesOwn.never rfl (cg rfl S (zA (zT zO rfl C bj (zA (pv 1) zD)) zD)) (yK (i:=2) wW.nd rfl (bb rfl))
  (zG (yE (bY (aY (pC W Y (zA (yC Vr (pv 0) (pv 2) (fun _ _=>rfl)) (zA (yC Vr (pv 1) (pv 2) (fun _ _=>rfl)) zD)))))
  (zG (zP gG))
  zU)))
  (zG (zP gG)))))))),?_⟩
 have r:∀ v:V,(!decide (v=v))=false:=fun v=>by simp
 have eqT:∀ v:V,decide (v=v)=true:=fun v=>by simp
 cases Z with
 | str z=>
  refine⟨_,rfl,_,"str",_,true,rfl,.str _,by rfl,_,rfl,MT ?_⟩;refine⟨fun v d=>d=H/\v = .bl true,⟨_,rfl,_,"str",_,true,rfl,.str _,by rfl,_,rfl,MT ⟨_,rfl,_,rfl,rfl,rfl,?_⟩⟩,?_⟩
  .rw[eqT]
  rintro v y ⟨rfl,rfl⟩;exact q
 | int m=>
  refine⟨_,rfl,_,"str",_,false,rfl,.int _,by rfl,_,rfl,Bc ?_⟩;refine⟨_,rfl,_,"int",_,true,rfl,.int _,by rfl,_,rfl,MT ?_⟩;refine⟨fun v d=>d=H/\v = .bl true,⟨_,rfl,_,"int",_,true,rfl,.int _,by rfl,_,rfl,MT ⟨_,rfl,_,"bool",_,false,rfl,.int _,by rfl,_,rfl,_,rfl,MT ⟨_,rfl,_,rfl,rfl,rfl,?_⟩⟩⟩,?_⟩
  .rw[eqT]
  rintro v y ⟨rfl,rfl⟩;exact q
 | @tup j a b xs ys g e I G l=>
  refine⟨_,rfl,_,"str",_,false,rfl,.tup e,by rfl,_,rfl,Bc ?_⟩;refine⟨_,rfl,_,"int",_,false,rfl,.tup e,by rfl,_,rfl,Bc ?_⟩;refine⟨fun c d=>d=H/\c=false,?_,?_⟩
  .exact⟨_,rfl,_,"tuple",_,true,rfl,.tup e,by rfl,_,rfl,MT ⟨_,rfl,_,"tuple",_,true,rfl,.tup g,by rfl,_,rfl,rfl,rfl⟩⟩
  rintro c y ⟨rfl,rfl⟩;refine Bc ?_;refine⟨fun c d=>d=y/\c=false,?_,?_⟩
  .exact⟨_,rfl,_,"list",_,false,rfl,.tup e,by rfl,_,rfl,Bc ⟨rfl,rfl⟩⟩
  rintro c t ⟨rfl,rfl⟩;refine Bc ?_;refine⟨_,rfl,a,_,rfl,.inr (aJ.of g),_,rfl,b,_,rfl,.inr (aJ.of e),rfl,_,rfl,eE (by rw[I];exact r _) ?_⟩;refine⟨fun σ' d=>d=t/\∃ O:aE V,σ'=[some (.ref a),some (.ref b),O],?_,?_⟩
  .refine⟨_,rfl,b,_,rfl,.inr (aJ.of e),(ys.length:Int),rfl,by omega,by omega,?_⟩;refine cI (fun i σ' d=>d=t/\∃ O:aE V,σ'=[some (.ref a),some (.ref b),O]) ⟨rfl,none,rfl⟩ ?_ ?_
   .rintro i σ' p hi ⟨rfl,O,rfl⟩
    have o:i<ys.length:=by omega
    have x:=fQ (show i<xs.length by omega);have B:=fQ o;have J:=l i _ _ x B
    have L:mX xs (0+(i:Int))=some xs[i]:=by
     rw[cf];exact yR x
    have D:mX ys (0+(i:Int))=some ys[i]:=by
     rw[cf];exact yR B
    exact⟨_,rfl,_,rfl,.inr (.inl ⟨a,_,_,_,rfl,rfl,aJ.of g,L,_,rfl,_,rfl,.inr (.inl ⟨b,_,_,_,rfl,rfl,aJ.of e,D,_,_,j,rfl,by omega,J,_,rfl,eE rfl ⟨rfl,_,rfl⟩⟩)⟩)⟩
   .rintro σ' p ⟨rfl,O,rfl⟩;exact⟨rfl,O,rfl⟩
  rintro σ' p ⟨rfl,O,rfl⟩;exact q
 | @lst j a b xs ys g e I G l=>
  refine⟨_,rfl,_,"str",_,false,rfl,.lst e,by rfl,_,rfl,Bc ?_⟩;refine⟨_,rfl,_,"int",_,false,rfl,.lst e,by rfl,_,rfl,Bc ?_⟩;refine⟨fun c d=>d=H/\c=false,?_,?_⟩
  .exact⟨_,rfl,_,"tuple",_,false,rfl,.lst e,by rfl,_,rfl,Bc ⟨rfl,rfl⟩⟩
  rintro c y ⟨rfl,rfl⟩;refine Bc ?_;refine⟨fun c d=>d=y/\c=false,?_,?_⟩
  .exact⟨_,rfl,_,"list",_,true,rfl,.lst e,by rfl,_,rfl,MT ⟨_,rfl,_,"list",_,true,rfl,.lst g,by rfl,_,rfl,rfl,rfl⟩⟩
  rintro c t ⟨rfl,rfl⟩;refine Bc ?_;refine⟨_,rfl,a,_,rfl,.inl (aU.of g),_,rfl,b,_,rfl,.inl (aU.of e),rfl,_,rfl,eE (by rw[I];exact r _) ?_⟩;refine⟨fun σ' d=>d=t/\∃ O:aE V,σ'=[some (.ref a),some (.ref b),O],?_,?_⟩
  .refine⟨_,rfl,b,_,rfl,.inl (aU.of e),(ys.length:Int),rfl,by omega,by omega,?_⟩;refine cI (fun i σ' d=>d=t/\∃ O:aE V,σ'=[some (.ref a),some (.ref b),O]) ⟨rfl,none,rfl⟩ ?_ ?_
   .rintro i σ' p hi ⟨rfl,O,rfl⟩
    have o:i<ys.length:=by omega
    have x:=fQ (show i<xs.length by omega);have B:=fQ o;have J:=l i _ _ x B
    have L:mX xs (0+(i:Int))=some xs[i]:=by
     rw[cf];exact yR x
    have D:mX ys (0+(i:Int))=some ys[i]:=by
     rw[cf];exact yR B
    exact⟨_,rfl,_,rfl,(.inl ⟨a,_,_,_,rfl,rfl,aU.of g,L,_,rfl,_,rfl,(.inl ⟨b,_,_,_,rfl,rfl,aU.of e,D,_,_,j,rfl,by omega,J,_,rfl,eE rfl ⟨rfl,_,rfl⟩⟩)⟩)⟩
   .rintro σ' p ⟨rfl,O,rfl⟩;exact⟨rfl,O,rfl⟩
  rintro σ' p ⟨rfl,O,rfl⟩;exact q
def M5:aL P w K mg base aN 0 f fd ["_law_found","_law_due"] (ou 0):=by
 have n:∀ vs H Q E,¬ ou 0 vs H Q E:=fun vs H Q E h=>by
  obtain⟨v,u,k,_,_,_⟩:=h;omega
 exact⟨fun vs H Q E h=>eu h (n vs H Q E),fun A _ s H _ _ vs Q E _ _ _ _ h=>eu h (n vs H Q E)⟩
theorem Ez(F:bO K "_law_same" "_law_same" Iw f fd)(a:Binds K fd ["_law_found","_law_due"] [])(O:mg "_law_same" = some (.ref f))(X:mg "isinstance" = none)(v:mg "tuple" = none)(N:mg "str" = none)(U:mg "int" = none)(T:mg "bool" = none)(B:mg "list" = none)(p:mg "len" = none)(G:mg "range" = none):∀ n:Nat,aL P w K mg base aN n f fd ["_law_found","_law_due"] (ou n)
 | 0=>M5
 | n+1=>Uz F ⟨Ez F a O X v N U T B p G n,a,F.kp,O⟩ X v N U T B p G
end Ru
namespace wH
open PySem L2 jP lN vB Q3 xM dC Ru
open DQ (Al)
open XR (nl dz)
def gM:Int:=10 ^ 30+100
def WW{n:Int}(h:n.natAbs<10 ^ 31):(Str.ofString (toString n)).length<=40:=by
 have d:=Dig.qB5 31 n.natAbs h
 have z1:(if n<0 then [45] else ([]:aw Nat)).length<=1:=by split <;> decide
 have z2:(if n=0 then [48] else Dig.D n.natAbs).length<=31:=by
  split
  .decide
  .exact d
 rw[Dig.TV];show (Dig.ZX n).toArray.size<=40;rw[CV];unfold Dig.ZX;rw[j8];omega
def Wl{n:Int}(h : -gM<=n)(f:n<=gM):n.natAbs.log2<1920/\(Str.empty++("the chart has no event " : Str)++Str.ofString (toString n)).length<=sizeLine:=by
 have c:n.natAbs<10 ^ 31:=by unfold gM at h f;omega
 refine⟨?_,?_⟩
 .by_cases z:n.natAbs=0
  .rw[z];decide
  .exact (Nat.log2_lt z).mpr (iL c (by decide))
 .rw[strLen_append];refine br (ic (WW c) _) (zJ (by decide +kernel))
inductive Nr(K:bV)(vs:List V)(H:Hp)(Q:VK)(E_:XK):Prop
 | mk (a:Addr) (ns:List Int) (k:Int) (m:Nat) (_:vs=[.ref a,.int k,.int (m:Int)]) (_:aU K H a (ns.map V.int)) (_:ns.length<=63) (_:0<=k/\k<=1000) (_:m<=8) (_:∀(e:Int)(H':Hp),aH H H' -> -gM<=e->e<=gM->Q (.int e) H')
def t6:aF ["_law_script","_law_k","_law_events","_law_number"] ["_law_script","_law_k","_law_events"] (aA qR):=cQ
def V4(F:bO K "_law_event" "_law_event" qR f fd)
  (N:Dp P w K mg base aN m' g1 d1 ["_law_script","_law_k","_law_salt"] (jC K) "_law_mixed")
  (U:Dp P w K mg base aN m' g2 d2 ["_law_script","_law_k"] (sX K) "_law_cell_at"):aL P w K mg base aN (m'+1) f fd ["_law_script","_law_k","_law_events"] (Nr K):=by
 refine F.ok t6 ?_ ?_
 .rintro _ _ _ _⟨a,ns,k,m,rfl,_⟩;rfl
 intro _ A _ s H _ Q E r h
 obtain⟨a,ns,k,m,rfl,B,b,_,_,q⟩:=h
 refine⟨_,(zE (zL (i:=3) t6.nd rfl (bb rfl) (pC N r (zA (pv 0) (zA (pv 1) (zA zB zD)))))
  (zE (yE (bZ (PW.pt (pw_and (zM cY (pv 2) zB (zS _)) (yQ (zM cY (yD zZ (pv 3) zB) zB (zS _))))))
  (zG (zP (yD zZ (yD yM (pv 3) zB) (pv 2))))
  zU)
  (zE (yE (zM yH (yD zZ (yD yM (pv 3) zB) zB) zB (zS _))
  (zG (zP (yD lF (Ay rH zB) (yD zZ (pC U r (zA (pv 0) (zA (pv 1) zD))) (yD GP zB zB)))))
  zU)
  (zE (yE (zM yH (yD zZ (yD yM (pv 3) zB) zB) zB (zS _))
  (zG (zP (yD yG (pv 2) (yD zZ (pC U r (zA (pv 0) (zA (pv 1) zD))) (yD GP zB zB)))))
  zU)
  (zG (zP (yC yV (yL (zA (Ay rH zB) (zA (pv 2) zD))) (yD zZ (yD yM (pv 3) zB) zB) (fun _ _=>rfl)))))))),?_⟩
 have big:(10:Int) ^ (30:Int).toNat=10 ^ 30:=rfl;have C:=j7 (eF ns k) (show (10:Int) ^ 30≠0 by decide);have t:=jR (eF ns k) (show (0:Int)<10 ^ 30 by decide);refine⟨_,rfl,_,rfl,a,ns,_,_,rfl,B,b,⟨by lia,by lia⟩,⟨by decide,by decide⟩,fun x _ _=>?_⟩;refine⟨fun c n=>n=H/\(c=true->0<m),⟨_,rfl,eO ⟨_,rfl,fO (fun c=>⟨_,rfl,eO ⟨(by show (0:Int)<6;decide),eO ⟨_,rfl,rfl,fun _=>by have:=ba c;lia⟩⟩⟩) (fun c=>⟨rfl,fun z=>by cases z⟩)⟩⟩,?_⟩;rintro c _ ⟨rfl,e⟩;refine fO (fun T=>?_) (fun _=>?_)
 .have M:=e T;have u:=j7 (x/6) (show (m:Int)≠0 by lia);have o:=jR (x/6) (show (0:Int)<(m:Int) by lia);exact⟨_,rfl,eO ⟨⟨by decide,by decide⟩,_,rfl,eO ⟨(by show (0:Int)<(m:Int);lia),q _ _ (aH.refl _) (by unfold gM;omega) (by unfold gM;omega)⟩⟩⟩
 refine⟨_,rfl,eO ⟨⟨by decide,by decide⟩,eO ⟨(by show (0:Int)<3;decide),rfl,_,rfl,fO (fun _=>?_) (fun _=>?_)⟩⟩⟩
 .exact⟨_,rfl,_,rfl,_,rfl,a,ns,_,rfl,B,b,eO ⟨⟨by decide,by decide,by decide⟩,eO ⟨(by show (0:Int)<10 ^ 30;decide),eO (q _ _ (aH.refl _) (by show -gM <= -1-eF ns k%10 ^ 30;unfold gM;omega) (by show -1-eF ns k%10 ^ 30<=gM;unfold gM;omega))⟩⟩⟩
 refine⟨_,rfl,eO ⟨⟨by decide,by decide⟩,eO ⟨(by show (0:Int)<3;decide),rfl,_,rfl,fO (fun _=>?_) (fun _=>?_)⟩⟩⟩
 .exact⟨_,rfl,_,rfl,_,rfl,a,ns,_,rfl,B,b,eO ⟨⟨by decide,by decide,by decide⟩,eO ⟨(by show (0:Int)<10 ^ 30;decide),eO (q _ _ (aH.refl _) (by show -gM<=(m:Int)+eF ns k%10 ^ 30;unfold gM;omega) (by show (m:Int)+eF ns k%10 ^ 30<=gM;unfold gM;omega))⟩⟩⟩
 obtain⟨v,d,g⟩:=mj.int_at (zs:=[-1,(m:Int)]) (i:=x/18%2) (by lia) (by show _<(2:Int);lia)
 have j:v = -1∨v=(m:Int):=by simpa using d
 refine⟨_,rfl,_,rfl,zJ (by show 2<=1000;decide),fun p l=>⟨_,rfl,eO ⟨⟨by decide,by decide⟩,eO ⟨(by show (0:Int)<2;decide),gJ (aU.of zC) g (q _ _ (zF l _) (by unfold gM;omega) (by unfold gM;omega))⟩⟩⟩⟩
inductive Hv(C:Addr)(vs:List V)(H:Hp)(Q:VK)(E_:XK):Prop
 | mk (Qc p ps pc pp pb:Addr) (c0 c:mZ) (s:S4) (_:vs=[.ref Qc,.ref p,.ref ps]) (_:xY C H p pc pp pb) (_:jJ H Qc c0) (_:jJ H pc c) (_:DP c) (_:c0.rs=c.rs) (_:cR H pp s) (_:cR H ps s) (_:jG c s) (_:Jw c s.os s.ks) (_:∀ H',aH H H'->Q (.bl true) H')
def Ce:aF ["_law_chart_here","_law_nest","_law_stand"] ["_law_chart_here","_law_nest","_law_stand"] (aA jc):=cQ
def Qg(F:bO K "_law_stands" "_law_stands" jc f fd)(cl:vC K C)
  (mS:Meth K C "stand" g1) (J:aL P w K mg base aN m' g1 d1 ["self"] (Nh C)) (Zu:Binds K d1 ["self"] [])
  (mL:Meth K C "lamps" g2) (X:aL P w K mg base aN m' g2 d2 ["self"] (Ia C)) (Zv:Binds K d2 ["self"] [])
  (cB:Dp P w K mg base aN m' g3 d3 ["_law_found","_law_due"] (ou 4) "_law_same")
  (aj:mg "tuple" = none):aL P w K mg base aN (m'+1) f fd ["_law_chart_here","_law_nest","_law_stand"] (Hv C):=by
 refine F.ok Ce ?_ ?_
 .rintro _ _ _ _⟨Qc,p,ps,T,I,U,c0,c,st,rfl,_⟩;rfl
 intro _ A _ s H vs Q E g h
 obtain⟨Qc,p,ps,T,I,U,c0,c,st,rfl,Z,O,hX,ok,er,y,l,S,j,q⟩:=h
 refine⟨_,(zE (yE (bY (aY (pC cB g (zA (jg (pv 1) cl mS J g Zu .nil yF) (zA (pv 2) zD)))))
  (zG (zP gG))
  zU)
  (zG (zP (pC cB g (zA (jg (pv 1) cl mL X g Zv .nil yF) (zA (yB zY rfl aj qt (zA (yU (bF:=[(0,"_law_chart_here")]) rfl (show bA (aA jc) ["_law_chart_here","_law_nest","_law_stand"] _ _ _ from vA) (nQ (yC zH (pv 2) zB (fun _ _=>rfl))) (fun _ _ _ _ _ _=>cW (zM pN (yC (r:=dM K) zH (yC (r:=dM K) zH (yC (r:=dM K) zH (pv 1) zB (fun _ _=>rfl)) (pv 0) (fun _ _=>rfl)) zB (fun _ _=>rfl)) zQ (zS _))) (fun _ _ _ _ _ _=>(yC (r:=dM K) zH (yC (r:=dM K) zH (yC (r:=dM K) zH (pv 1) zB (fun _ _=>rfl)) (pv 0) (fun _ _=>rfl)) zB (fun _ _=>rfl)))) zD)) zD)))))),?_⟩
 obtain⟨dx,fs,h1,h2⟩:=id Z;have no:∀ x∈[("first" : Str),"run","stand","lamps"],fs.lookup x=none:=h2.no;have a1:DW H 3 (.ref I) (.ref ps):=qDB y l S.Oi (by rw[S.bx];have:=ok.b6;lia) (by rw[j.len];exact ok.r40) fun r g=>(j.row r g).2;refine⟨_,rfl,p,dx,fs,rfl,h1,no _ (by decide +kernel),p,T,I,U,rfl,Z,_,rfl,_,_,3,rfl,by decide,a1,_,rfl,eE rfl ?_⟩;refine⟨_,rfl,p,dx,fs,rfl,h1,no _ (by decide +kernel),p,T,I,U,c,st,rfl,Z,hX,ok,y,S,fun _ H1 d R=>?_⟩;obtain⟨_,t,_,_,_,_,c1,_,_,⟨rv,M,W⟩,_⟩:=O;obtain⟨po,_,_,_,k,n,_⟩:=l;have lno:=zV st.os
 have hR:dW H1 t c.rs:=by rw[<-er];exact⟨rv,d _ _ M,W.mono (aB.of d)⟩
 have u:=d _ _ c1;have o:=d _ _ n;refine⟨_,rfl,aG (aJ.of (d _ _ k)) rfl ⟨po,rfl,⟨_,aJ.of o⟩,?_⟩⟩;refine ig (K:=K) (a:=po) (xs:=aC st.os) (fun i b G=>G=H1/\b=(dz c.rs (st.os.take i)).map V.str) ⟨rfl,rfl⟩ (fun i b G ⟨e,_⟩=>by subst e;exact aJ.of o) (fun i x b G D ⟨k,n⟩=>?_) (fun b G ⟨k,n⟩ p1 L=>?_)
 .subst k n
  have hi:i<st.os.length:=by
   have:=(oW.mp D).1;rw[zV]at this;exact this
  have eo:=fQ hi
  obtain rfl:x = .int ((st.os[i]:Nat):Int):=by
   unfold aC at D;rw[dZ,eo]at D;exact (kJ D).symm
  obtain⟨vs,a,r,ht,_,N,m,ha⟩:=hR.at (S.lt _ (lQ hi));have ll:=XR.pR c.rs (st.os.take i);rw[iQ]at ll;have B:=XR.uR eo N;have Oi:=S.Oi;refine⟨_,rfl,aG (aJ.of u) rfl ⟨_,rfl,t,vs,_,_,rfl,rfl,aJ.of ht,m,aG (aJ.of ha) rfl ⟨rfl,_,rfl,?_⟩⟩⟩;refine fO (fun c=>?_) (fun c=>?_)
  .rw[XR.Jq]at c;rw[cS c]at B;refine⟨_,rfl,aG (aJ.of u) rfl ⟨_,rfl,t,vs,_,_,rfl,rfl,aJ.of ht,m,aG (aJ.of ha) rfl ⟨zW (by rw[bT];lia),rfl,?_⟩⟩⟩;rw[B,qz];rfl
  .rw[XR.Jq]at c;rw[cK (by rw[c];decide),oY]at B;exact⟨rfl,by rw[B]⟩
 subst k n;rw[lno,ib];have s2:=zF L (.lst ((dz c.rs st.os).map V.str));refine⟨p1,_,rfl,.inl ⟨aU.of zC,fun _ Y=>?_⟩⟩;have s3:=s2.trans (zF Y (.tup ((dz c.rs st.os).map V.str)));have ll:=XR.pR c.rs st.os;have Oi:=S.Oi;refine⟨_,_,1,rfl,by decide,um (s3 _ _ R) zC (by rw[bT];lia) fun v hv=>?_,q _ (d.trans s3)⟩;obtain⟨z,_,rfl⟩:=eX.mp hv;exact .inl ⟨z,rfl⟩
inductive Dj(C:Addr)(vs:List V)(H:Hp)(Q:VK)(E_:XK):Prop
 | mk (p pc pp pb:Addr) (c:mZ) (bs:List (Int×Int)) (ne:Nat) (ev:Int) (w:V) (s:S4) (_:vs=[.ref p,.int ev,w]) (_:xY C H p pc pp pb) (_:mj.Sy H pc c bs ne) (_:mj.uw c bs) (_:cR H pp s) (_:jG c s) (_:Jw c s.os s.ks) (_:s.l=[]) (_ : -gM<=ev) (_:ev<=gM) (_:¬ (0<=ev/\ev<(ne:Int))) (_:∀ H',aH H H'->Q (.bl true) H')
section
variable{P:ag}{w:aI}{K:bV}{mg:Str->aE av}{base:Heap}{C CN CE cb ct cw cu cr cn:ar}
def fW:aF ["_law_nest","_law_event_here","_law_way","_law_bad","e"] ["_law_nest","_law_event_here","_law_way"] (aA kY):=cQ
def Ln(F:bO K "_law_refused" "_law_refused" kY f fd)(G:vC K C)
  (mR:Meth K C "run" g1) (z:aL P w K mg base (Ke P w) m' g1 d1 ["self","event"] (Tc C CN 3)) (Pu:Binds K d1 ["self","event"] [])
  (cB:Dp P w K mg base aN m' g2 d2 ["_law_found","_law_due"] (ou 4) "_law_same")
  (vZ:mg "NoEvent" = some (.ref CN)) (kh:mg "NestError" = some (.ref CE)) (MK:mg "BadChart" = some (.ref cb)) (Vi:mg "NoName" = some (.ref cn)) (ZC:mg "NoRow" = some (.ref cr)) (RJ:mg "NoWords" = some (.ref cw)) (RG:mg "TooWide" = some (.ref ct)) (Vh:mg "Unread" = some (.ref cu)) (X:mg "isinstance" = none) (Gh:mg "ValueError" = none)
  (Q9:PySem.W.exmOne K (.ref CN) (.ref CN)=some true) (Hs:PySem.W.exmOne K (.ref CN) (.ref CE)=some true) (b:wJ K CN) (qS:HR K CN "event") (kt:PySem.W.kitOne K (.ref CN) (.ref CE)=some true) (kv:PySem.W.kitOne K (.ref CN) (.type "ValueError")=some true) (ka:PySem.W.kitAny K (.ref CN) ([cb,cn,cr,cw,ct,cu].map Value.ref)=some false) :
  aL P w K mg base aN (m'+1) f fd ["_law_nest","_law_event_here","_law_way"] (Dj C):=by
 refine F.ok fW ?_ ?_
 .rintro _ _ _ _⟨p,T,y,B,c,bs,ne,a,w',st,rfl,_⟩;rfl
 intro _ A _ s H _ Q E t h
 obtain⟨p,T,y,B,c,bs,ne,a,w',st,rfl,N,M,ok,L,D,j,l0,b0,b1,n,q⟩:=h
 refine⟨_,(zE (zL (i:=3) fW.nd rfl (bb rfl) iw)
  (zE (UW (i:=4) (JG (JH (pv 0) G mR z t Pu .nil (zA (pv 1) zD))) rfl vZ fW.nd rfl rfl (fun _=>(zG (zL (i:=3) fW.nd rfl (bb rfl) (pv 4)))))
  (zE (yE (bZ (PW.pt (pw_or (zM Li (pv 3) iw (zS _)) (pw_or (bY (aY (zT (r:=qAJ K) Rt rfl X xN (zA (pv 3) (zA (bC (v:=.ref CE) rfl kh rfl) zD))))) (pw_or1 (bY (aY (zT (r:=qER K) X6 rfl X xN (zA (pv 3) (zA (iK (v:=.ty "ValueError") rfl Gh PyProof.Rows.Boot.«ValueError» rfl) zD))))))))))
  (zG (zP gG))
  zU)
  (zE (yE (bZ (PW.pt (pw_or (aY (zT (r:=qAI K) Rr rfl X xN (zA (pv 3) (zA (zX (zA (bC (v:=.ref cb) rfl MK rfl) (zA (bC (v:=.ref cn) rfl Vi rfl) (zA (bC (v:=.ref cr) rfl ZC rfl) (zA (bC (v:=.ref cw) rfl RJ rfl) (zA (bC (v:=.ref ct) rfl RG rfl) (zA (bC (v:=.ref cu) rfl Vh rfl) zD))))))) zD)))) (pw_or1 (bY (aY (pC cB t (zA (show PE _ _ (qAC K (qB9 3) "event") from Ym (pv 3) rfl) (zA (pv 1) zD)))))))))
  (zG (zP gG))
  zU)
  (zE (qBT (JG (JH (pv 0) G mR z t Pu .nil (zA (pv 1) zD))) rfl kh (fun _=>(zG (zP gG))))
  (zG (zP gG))))))),?_⟩
 obtain⟨dx,fs,R,h2⟩:=id N;obtain⟨O,Z⟩:=Wl b0 b1;have J:fs.lookup ("run" : Str)=none:=h2.no _ (by decide +kernel);refine⟨_,rfl,p,dx,fs,rfl,R,J,_,rfl,p,T,y,B,c,bs,ne,a,st,rfl,N,M,ok,bD _,L,D,j,l0,O,Z,fun u g=>eu ⟨u,g⟩ n,fun _ d H1 s1 nd l=>⟨CN,rfl,Q9,fun e o=>?_⟩⟩;have S:=zF o (wD e CN (some d));have I:upd H1 e (wD e CN (some d)) e=some (wD e CN (some d)):=zC;generalize upd H1 e (wD e CN (some d))=U at S I ⊢;have m:=s1.trans S;refine⟨_,rfl,?_⟩;refine⟨fun cx x=>U=x/\cx=false,⟨_,rfl,rfl,_,rfl,eE rfl ⟨_,rfl,e,CN,CE,_,true,rfl,I,b,kt,_,rfl,eE rfl ⟨_,rfl,e,CN,_,"ValueError",true,rfl,I,b,kv,_,rfl,rfl,rfl⟩⟩⟩,?_⟩;rintro cx _ ⟨rfl,rfl⟩;refine eE rfl ?_;refine⟨fun cx x=>aH U x/\cx=false,⟨_,rfl,zJ (by show 6<=1000;decide),fun tp k=>?_⟩,?_⟩
 .have W:=zF k (.tup ([cb,cn,cr,cw,ct,cu].map V.ref));exact⟨e,CN,tp,_,[cb,cn,cr,cw,ct,cu],false,rfl,W _ _ I,b,zC,ka,_,rfl,eE rfl ⟨_,rfl,e,CN,d,_,V.int a,rfl,W _ _ I,b,qS,(S.trans W) _ _ l,rfl,_,rfl,_,_,0,rfl,by decide,.int a,_,rfl,W,rfl⟩⟩
 rintro cx _ ⟨W,rfl⟩;refine eE rfl ?_;have Y:=m.trans W;refine⟨_,rfl,p,dx,fs,rfl,Y _ _ R,J,_,rfl,p,T,y,B,c,bs,ne,a,st,rfl,N.mono Y,M.mono (aB.of Y),ok,bD _,L.mono (aB.of Y),D,j,l0,O,Z,fun u g=>eu ⟨u,g⟩ n,fun _ _ _ s4 nd _=>⟨Hs,q _ (Y.trans s4)⟩⟩
end
def qEU:Passes (Ke P w) X E0:=fun _ _ _ _ _ _ _ h=>by
 obtain⟨_,_,_,_,_,_,_,_,_,_,_,_,_,_,_,h⟩:=h;exact h.elim
def Kx(x:ar)(H h:Hp):Prop:=∀ b o,H b=some o->b≠x->h b=some o
def Kx.tup(k:Kx x H H')(N:∀ xs,H x≠some (.tup xs)):aB H H':=fun b xs e=>k b _ e fun z=>N xs (z▸e)
def VM(h:jG c s):jG c (nl s):=⟨h.inc,h.lt,h.Oi,h.bx,h.ks,bo _⟩
def NW(C:ar)(H:Hp)(T n ps B:ar)(c:mZ)(I:aw En)(s:S4):Prop:=∃ o b,xY C H n T o B/\H B=some (.lst b)/\Al (iz H) b I/\cR H o s/\cR H ps s/\jG c s/\Jw c s.os s.ks/\s.l=[]
def NW.mono(h:NW C H pc np ps pb c ie s)(k:Kx x H H')(n:∀ xs,H x≠some (.tup xs))(N:np≠x)(g:pb≠x):NW C H' pc np ps pb c ie s:=by obtain⟨o,B,⟨d,fs,e,q⟩,b,l,u,f,a⟩:=h;have U:=k.tup n;exact⟨o,B,⟨d,fs,k _ _ e N,q⟩,k _ _ b g,l.mono fun _ _ z=>z.mono U,u.mono U,f.mono U,a⟩
def NW.same(h:NW C H pc np ps pb c ie s)(k:aH H H'):NW C H' pc np ps pb c ie s:=by obtain⟨o,B,d,b,l,u,f,a⟩:=h;have U:=aB.of k;exact⟨o,B,d.mono k,k _ _ b,l.mono fun _ _ z=>z.mono U,u.mono U,f.mono U,a⟩
structure W2(C:Addr)(pc np pb:Nat->Addr)(c:Nat->mZ)(bs:List (Int×Int))(ne:Nat)(ie:Nat->List En)(s0:Nat->S4)(ps:Nat->Addr)(s:Nat->S4)(H:Hp):Prop where
 X4:∀ w,w<2->mj.Sy H (pc w) (c w) bs ne
 ok:∀ w,w<2->mj.uw (c w) bs
 rs:∀ w,w<2->(c w).rs=(c 0).rs
 beg:∀ w,w<2->Xm (c w) bs (ie w) (s0 w)/\(ie w).length<=1000000
 nw:∀ w,w<2->NW C H (pc w) (np w) (ps w) (pb w) (c w) (ie w) (s w)
 dif:np 0≠np 1
def W2.mono(h:W2 C pc np pb c bs ne ie s0 ps s H)(k:Kx x H H')(N:∀ xs,H x≠some (.tup xs))(b:∀ w,w<2->np w≠x)(n:∀ w,w<2->pb w≠x):W2 C pc np pb c bs ne ie s0 ps s H':=
 ⟨fun w a=>(h.X4 w a).mono (k.tup N),h.ok,h.rs,h.beg,fun w a=>(h.nw w a).mono k N (b w a) (n w a),h.dif⟩
def W2.same(h:W2 C pc np pb c bs ne ie s0 ps s H)(k:aH H H'):W2 C pc np pb c bs ne ie s0 ps s H':=
 ⟨fun w a=>(h.X4 w a).mono (aB.of k),h.ok,h.rs,h.beg,fun w a=>(h.nw w a).same k,h.dif⟩
def W2.lst(h:W2 C pc np pb c bs ne ie s0 ps s H)(a:H x=some (.lst xs))(N:∀ w,w<2->pb w≠x):W2 C pc np pb c bs ne ie s0 ps s (upd H x o):=by
 refine h.mono (x:=x) (fun b o e z=>by rw[zR z];exact e) (fun _ e=>by rw[a]at e;cases e) (fun w d z=>?_) N;obtain⟨_,_,⟨_,_,f,_⟩,_⟩:=h.nw w d;rw[z,a]at f
 cases f
def W2.bl(h:W2 C pc np pb c bs ne ie s0 ps s H)(a:w<2)(O:H y=none):pb w≠y:=by obtain⟨_,_,_,f,_⟩:=h.nw w a;exact zN f O
def W2.put(h:W2 C pc np pb c bs ne ie s0 ps s H)(x:NW C H (pc i) (np i) p' (pb i) (c i) (ie i) s'):W2 C pc np pb c bs ne ie s0 (fun k=>if k=i then p' else ps k) (fun k=>if k=i then s' else s k) H:=by
 refine⟨h.X4,h.ok,h.rs,h.beg,fun w a=>?_,h.dif⟩
 by_cases e:w=i
 .subst e;rw[cS rfl,cS rfl];exact x
 .rw[cK e,cK e];exact h.nw w a
theorem two{P:Nat->Prop}(c:P 0)(f:P 1):∀ w,w<2->P w:=fun w h=>by
 match w,h with
 | 0,_=>exact c
 | 1,_=>exact f
def sel{α:Type}(a b:α):Nat->α
 | 0=>a
 | _+1=>b
def cC(f:Nat->ar):aw V:=[.ref (f 0),.ref (f 1)]
theorem nR(f:Nat->ar){w:Nat}(h:w<2):mX (cC f) (w:Int)=some (.ref (f w)):=by
 match w,h with
 | 0,_=>rfl
 | 1,_=>rfl
def mD(f:Nat->ar){w:Nat}(h:w<2):mX (cC f) (0+(w:Int))=some (.ref (f w)):=by rw[cf];exact nR f h
theorem qD2{f:Nat->ar}{v u:Nat}(d:f 0≠f 1)(H:v<2)(h:u<2)(z:v≠u):f v≠f u:=
 match v,u,H,h,z with
 | 0,0,_,_,z=>eu rfl z
 | 0,1,_,_,_=>d
 | 1,0,_,_,_=>bE d
 | 1,1,_,_,z=>eu rfl z
theorem Yp(f:Nat->ar){u:Nat}(h:u<2):Su (cC f).length (u:Int)=some u:=
 match u,h with
 | 0,_=>rfl
 | 1,_=>rfl
theorem Uk(f:Nat->ar)(h:w<2)(p:ar):(cC f).set w (.ref p)=cC fun k=>if k=w then p else f k:=by
 match w,h with
 | 0,_=>rfl
 | 1,_=>rfl
def U9(f:Nat->ar)(i:Nat)(p:ar):((List.range i).map fun w=>V.ref (f w))++[.ref p]=(List.range (i+1)).map fun w=>V.ref (if w=i then p else f w):=by
 rw[List.range_succ,qz];congr 1
 .refine List.map_congr_left fun w h=>?_;have:=hJ.mp h;rw[cK (by omega)]
 .show [V.ref p]=[V.ref (if i=i then p else f i)];rw[cS rfl]
inductive Tg(K:bV)(vs:List V)(H:Hp)(Q:VK)(E_:XK):Prop
 | mk (a:Addr) (ns:List Int) (_:vs=[.ref a]) (_:aU K H a (ns.map V.int)) (_:ns.length<=63) (_:∀ H',Q (.bl true) H')
def eZ:aF ["_law_script","_law_chart_here","_law_other","_law_charts","_law_nests","_law_stands_here","_law_who","_law_due","_law_told","_law_k","_law_event_here"] ["_law_script"] (aA wX):=cQ
def qC3{f gi g1 g2 g3 g4 g5 g6 g7 g8 gF gR:ar}{fd di d1 d2 d3 d4 d5 d6 d7 d8 dF dR:af}(F:bO K "law" "law" wX f fd)(cl:vC K C)(MkN:Mk K C gi)
  (qJ:aL P w K mg base aN m' gi di ["self","chart"] (Nj C 3)) (qF:Binds K di ["self","chart"] []) (Vj:mg "Nest" = some (.ref C))
  (mF:Meth K C "first" gF) (Q7:aL P w K mg base aN (m'+1) gF dF ["self"] (Nq C)) (Px:Binds K dF ["self"] [])
  (mR:Meth K C "run" gR) (Q6:aL P w K mg base (Ke P w) (m'+1) gR dR ["self","event"] (Tc C CN 3)) (Pu:Binds K dR ["self","event"] [])
  (KH:Dp P w K mg base aN (m'+1) g1 d1 ["_law_script"] (CJ.Io K) "_law_chart")
  (yw:Dp P w K mg base aN (m'+1) g2 d2 ["chart"] (Fi 3) "begun")
  (Hh:Dp P w K mg base aN (m'+1) g3 d3 ["chart","stand","event"] (Fj 3) "after")
  (cB:Dp P w K mg base aN (m'+1) g4 d4 ["_law_found","_law_due"] (ou 4) "_law_same")
  (uo:Dp P w K mg base aN (m'+1) g5 d5 ["_law_chart_here","_law_nest","_law_stand"] (Hv C) "_law_stands")
  (aM:Dp P w K mg base aN (m'+1) g6 d6 ["_law_script","_law_k","_law_salt"] (jC K) "_law_mixed")
  (KC:Dp P w K mg base aN (m'+1) g7 d7 ["_law_script","_law_k","_law_events"] (Nr K) "_law_event")
  (DK:Dp P w K mg base aN (m'+1) g8 d8 ["_law_nest","_law_event_here","_law_way"] (Dj C) "_law_refused")
  (uQ:mg "int" = none) (aP:mg "len" = none) (Vg:mg "min" = none) (az:mg "range" = none):aL P w K mg base aN (m'+2) f fd ["_law_script"] (Tg K):=by
 refine F.ok eZ ?_ ?_
 .rintro _ _ _ _⟨a,ns,rfl,_⟩;rfl
 intro _ A _ s H _ Q E hr h
 obtain⟨a,ns,rfl,hS,h63,q⟩:=h
 refine⟨_,(zE (zL (i:=1) eZ.nd rfl (bb rfl) (pC KH hr (zA (pv 0) zD)))
  (zE (zL (i:=2) eZ.nd rfl (bb rfl) (pL (yD GR (zX (zA (yC yV (yL (zA zQ (zA zQ zD))) (yB Er rfl uQ ke (zA (bK yH (yC zH (pv 1) zB (fun _ _=>rfl)) zQ (zS _)) zD)) (fun _ _=>rfl)) (zA (yC zH (pv 1) zB (fun _ _=>rfl)) (zA (yD yG zB (yD zZ (yC zH (pv 1) zB (fun _ _=>rfl)) zB)) zD)))) (dN rM (pv 1) (fu zB) gA))))
  (zE (zL (i:=3) eZ.nd rfl (bb rfl) (yL (zA (pv 1) (zA (pv 2) zD))))
  (zE (zL (i:=4) eZ.nd rfl (bb rfl) (yL (zA (ym MkN qJ hr rfl Vj qF .nil yF (zA (pv 1) zD)) (zA (ym MkN qJ hr rfl Vj qF .nil yF (zA (pv 2) zD)) zD))))
  (zE (zL (i:=5) eZ.nd rfl (bb rfl) (yL zD))
  (yA (bf PassesOwn.never rfl (cg rfl az (zA zB zD)) (yK (i:=6) eZ.nd rfl (bb rfl))
  (zE (zL (i:=7) eZ.nd rfl (bb rfl) (pC yw hr (zA (yC yV (pv 3) (pv 6) (fun _ _=>rfl)) zD)))
  (zE (yJ (dU iu yz yx yI (pv 5) (zA (yC zH (pv 7) zB (fun _ _=>rfl)) zD)))
  (zE (zL (i:=8) eZ.nd rfl (bb rfl) (jg (yC yV (pv 4) (pv 6) (fun _ _=>rfl)) cl mF Q7 hr Px .nil yF))
  (zE (yE (bZ (PW.pt (pw_or (bY (aY (pC cB hr (zA (pv 8) (zA (yC zH (pv 7) zB (fun _ _=>rfl)) zD))))) (pw_or1 (bY (aY (pC uo hr (zA (yC yV (pv 3) (pv 6) (fun _ _=>rfl)) (zA (yC yV (pv 4) (pv 6) (fun _ _=>rfl)) (zA (yC zH (pv 7) zB (fun _ _=>rfl)) zD))))))))))
  (zG (zP gG))
  zU)
  (zG (yJ (dU iu yz yx yI (pv 8) (zA (zX (zA zQ (zA zQ zD))) zD)))))))))
  (yA (bf PassesOwn.never rfl (cg rfl az (zA (zT (Ep rfl) rfl Vg PyProof.Rows.boot_min (zA (zT zO rfl aP bj (zA (pv 0) zD)) (zA zB zD))) zD)) (yK (i:=9) eZ.nd rfl (bb rfl))
  (zE (zL (i:=6) eZ.nd rfl (bb rfl) (pL (yD zZ (pC aM hr (zA (pv 0) (zA (pv 9) (zA zB zD)))) zB)))
  (zE (zL (i:=10) eZ.nd rfl (bb rfl) (pC KC hr (zA (pv 0) (zA (pv 9) (zA (zT zO rfl aP bj (zA (yC zH (pv 1) zB (fun _ _=>rfl)) zD)) zD)))))
  (yA (yE (Av fJ mH zB (pv 10) (zT zO rfl aP bj (zA (yC zH (pv 1) zB (fun _ _=>rfl)) zD)))
  (zE (zL (i:=7) eZ.nd rfl (bb rfl) (pC Hh hr (zA (yC yV (pv 3) (pv 6) (fun _ _=>rfl)) (zA (yC yV (pv 5) (pv 6) (fun _ _=>rfl)) (zA (pv 10) zD)))))
  (zE (zL (i:=8) eZ.nd rfl (bb rfl) (Od (yC yV (pv 4) (pv 6) (fun _ _=>rfl)) cl mR Q6 hr Pu .nil qEU (zA (pv 10) zD)))
  (zE (yE (bY (aY (pC cB hr (zA (pv 8) (zA (yC zH (pv 7) zB (fun _ _=>rfl)) zD)))))
  (zG (zP gG))
  zU)
  (zE (yJ (Uh iu PySem.F.slot_list_clear PySem.F.type_list_clear Vd (pv 8)))
  (zG (Ub (yC zH (pv 7) zB (fun _ _=>rfl)) (Ud (pv 5) (pv 6) set_list)))))))
  (zG (yE (bY (aY (pC DK hr (zA (yC yV (pv 4) (pv 6) (fun _ _=>rfl)) (zA (pv 10) (zA (pv 9) zD))))))
  (zG (zP gG))
  zU)))
  (zG (yE (bY (aY (pC uo hr (zA (pv 1) (zA (yC yV (pv 4) (pv 6) (fun _ _=>rfl)) (zA (yC yV (pv 5) (pv 6) (fun _ _=>rfl)) zD))))))
  (zG (zP gG))
  zU))))))
  (yA (bf PassesOwn.never rfl (cg rfl az (zA zB zD)) (yK (i:=6) eZ.nd rfl (bb rfl))
  (zG (yE (bY (aY (pC cB hr (zA (jg (yC yV (pv 4) (pv 6) (fun _ _=>rfl)) cl mF Q7 hr Px .nil yF) (zA (yC zH (pC yw hr (zA (yC yV (pv 3) (pv 6) (fun _ _=>rfl)) zD)) zB (fun _ _=>rfl)) zD)))))
  (zG (zP gG))
  zU)))
  (zG (zP gG)))))))))),?_⟩
 refine⟨_,rfl,a,ns,rfl,hS,h63,fun Qc cc H1 s1 hcc gg t4=>?_⟩;obtain⟨c0,bs,hX0,rn⟩:=gg.runs hcc;have ok0:=rn.ok;obtain⟨tb,te,tr,td,J,rv,dv,i1,i2,i3,i4,i5,i6,i7,i8⟩:=id hcc;refine⟨fun v Hx=>aH H1 Hx/\∃(X:ar)(od:Str)(tn:Nat),v = .ref X/\Hx X=some (.tup [.str od,.int cc.letters,.int (tn:Int),.ref tb,.ref te,.ref tr,.ref td])/\(od = "inner" ∨ od = "outer")/\1<=tn/\tn<=5,?_,?_⟩
 .obtain⟨n,_,_⟩:=t4;obtain⟨_,_,_,_⟩:=gg.tn
  obtain⟨od,hat,hod⟩:∃ od:Str,mX [V.str "inner",V.str "outer"] (if decide (V.str cc.order=V.str "inner")=true then 1 else 0)=some (.str od)/\(od = "inner" ∨ od = "outer"):=by
   rcases gg.od with z | z
   .rw[z];exact⟨"outer",rfl,.inr rfl⟩
   .rw[z];exact⟨"inner",rfl,.inl rfl⟩
  refine⟨zJ (by show 2<=1000;decide),fun p1 hp1=>?_⟩;have s3:=zF hp1 (.lst [V.str "inner",V.str "outer"]);have i3':=s3 _ _ i1;have j3:upd H1 p1 (.lst [V.str "inner",V.str "outer"]) p1=some (.lst [V.str "inner",V.str "outer"]):=zC;generalize upd H1 p1 (.lst [V.str "inner",V.str "outer"])=H3 at s3 i3' j3 ⊢;refine⟨_,rfl,aG (aJ.of i3') rfl ⟨rfl,.inr ⟨_,rfl,gJ (aU.of j3) hat ⟨_,rfl,aG (aJ.of i3') rfl ⟨_,rfl,aG (aJ.of i3') rfl (eO ⟨(by show (0:Int)<20;decide),eO ⟨zJ (by show 3<=1000;decide),fun p2 hp2=>?_⟩⟩)⟩⟩⟩⟩⟩
  have et:1+cc.turns%20=((n+1:Nat):Int):=by omega
  have s4:=zF hp2 (.tup [.str od,.int cc.letters,.int (1+cc.turns%20)]);have i4':=s4 _ _ i3';have j4:upd H3 p2 (.tup [.str od,.int cc.letters,.int (1+cc.turns%20)]) p2=some (.tup [.str od,.int cc.letters,.int (1+cc.turns%20)]):=zC;refine⟨_,rfl,_,rfl,Qc,_,rfl,aJ.of i4',(by show ¬ (HT.gj 7 0 (some 3)=0/\HT.gj 7 7 none=7);decide),fun p3 hp3=>?_⟩;have s5:=zF hp3 (.tup [.ref tb,.ref te,.ref tr,.ref td]);refine⟨p2,p3,_,_,rfl,rfl,aJ.of (s5 _ _ j4),aJ.of zC,nofun,zJ (by show 7<=1000;decide),nofun,fun _ p4 hp4=>?_⟩;have s6:=zF hp4 (.tup ([.str od,.int cc.letters,.int (1+cc.turns%20)]++[.ref tb,.ref te,.ref tr,.ref td]));refine⟨((s3.trans s4).trans s5).trans s6,p4,od,n+1,rfl,?_,hod,by omega,by omega⟩;rw[<-et];exact zC
 rintro _ H2 ⟨s2,X,od2,tn2,rfl,hpo,hod,tn1,tn5⟩;have qGG:gW.jJ H2 X { cc with order:=od2,turns:=(tn2:Int) }:=⟨tb,te,tr,td,J,rv,dv,hpo,s2 _ _ i2,gW.gP.mono i3 (aB.of s2),s2 _ _ i4,s2 _ _ i5,gW.cL.mono i6 (aB.of s2),s2 _ _ i7,gW.jx.mono i8 (aB.of s2)⟩;have gg2:=gg.other hod tn1 tn5;obtain⟨ne,ene⟩:∃ ne,ne=cc.evs.length:=⟨_,rfl⟩
 have e8:ne<=8:=by rw[ene];exact gg.e8
 rw[<-ene]at hX0
 have hX2:mj.Sy H2 X { c0 with od:=od2,tn:=tn2 } bs ne:=by
  obtain⟨Oe,pn,t,pd,bv',nv',rv',dv',z1,z2,z3,z4,z5,z6,z7,z8,z9,z10⟩:=hX0;have z:=kJ (i1.symm.trans z1);simp only[HO.tup.injEq,List.cons.injEq,V.str.injEq,V.int.injEq,V.ref.injEq,and_true]at z;obtain⟨_,y2,_,rfl,rfl,rfl,rfl⟩:=z;have kt:=aB.of s2;exact⟨tb,te,tr,td,bv',nv',rv',dv',by rw[hpo,y2],kt _ _ z2,z3.mono fun _ _ y=>y.mono kt,kt _ _ z4,z5,kt _ _ z6,z7.mono kt,z8.mono kt,kt _ _ z9,z10.mono fun _ _ y=>y.mono kt⟩
 have ok2:=CJ.Um (od:=od2) ok0 tn1 tn5;have hX1:=hX0.mono (aB.of s2);have qGH:=hcc.mono (aB.of s2);have s02:=s1.trans s2;clear i1 i2 i3 i4 i5 i6 i7 i8 hX0 hcc rn;refine⟨_,rfl,_,rfl,zJ (by show 2<=1000;decide),fun JK qL7=>?_⟩;have s3:=zF qL7 (.lst [.ref Qc,.ref X]);have i3:upd H2 JK (.lst [.ref Qc,.ref X]) JK=some (.lst (cC (sel Qc X))):=zC;generalize upd H2 JK (.lst [.ref Qc,.ref X])=H3 at s3 i3 ⊢;have YT:=s02.trans s3
 have made:∀ {Hz:Hp} {x dx:ar},Hz x=none->Hz dx=none->aH Hz (upd (upd Hz dx (.own x)) x (.ins C dx [])):=fun nx nd b o e=>by rw[zR (zN e nx),zR (zN e nd)];exact e
 refine⟨_,rfl,fun x1 dx1 nx1 qKR _=>?_⟩;have m1:=made nx1 qKR;refine⟨x1,dx1,Qc,cc,c0,bs,ne,rfl,zC,qGH.mono (aB.of (s3.trans m1)),gg,hX1.mono (aB.of (s3.trans m1)),ok0,bD _,fun ps1 pw1 wv1 es1 st1 H4 BR1 j1 so1 k1 ns1 l qG3 qF0 hA1 le1=>⟨rfl,?_⟩⟩;have s4:aH H3 H4:=fun b o e=>k1 b o (m1 b o e) (zN e nx1);have qEZ:H3 pw1=none:=m1.free qF0;have s24:=s3.trans s4;refine⟨_,rfl,fun x2 dx2 nx2 qKQ _=>?_⟩;have m2:=made nx2 qKQ;refine⟨x2,dx2,X,_,_,bs,ne,rfl,zC,qGG.mono (aB.of (s24.trans m2)),gg2,hX2.mono (aB.of (s24.trans m2)),ok2,bD _,fun ps2 pw2 wv2 es2 st2 H5 BR2 j2 so2 k2 ns2 D qG0 qEY W4 le2=>⟨rfl,zJ (by show 2<=1000;decide),fun Ka qG6=>?_⟩⟩;have s5:aH H4 H5:=fun b o e=>k2 b o (m2 b o e) (zN e nx2);have qEX:H4 pw2=none:=m2.free qEY;have s25:=s24.trans s5
 have W0:W2 C (sel Qc X) (sel x1 x2) (sel pw1 pw2) (sel c0 { c0 with od:=od2,tn:=tn2 }) bs ne (sel es1 es2) (sel st1 st2) (sel ps1 ps2) (fun w=>nl (sel st1 st2 w)) H5:=by
  refine⟨two (hX1.mono (aB.of s25)) (hX2.mono (aB.of s25)),two ok0 ok2,two rfl rfl,two ⟨BR1,le1⟩ ⟨BR2,le2⟩,two ?_ ?_,fun z=>?_⟩
  .exact NW.same ⟨ps1,wv1,ns1,qG3,hA1,cR.tail l [],cR.tail l [],VM so1,j1,rfl⟩ s5
  .exact⟨ps2,wv2,ns2,qG0,W4,cR.tail D [],cR.tail D [],VM so2,j2,rfl⟩
  .obtain⟨dx,fs,y1,_⟩:=ns1;have z':x1=x2:=z;rw[z',nx2]at y1
   cases y1
 have s05:=(YT.trans s4).trans s5;obtain⟨T,N,W,c,ie,s0,ps,W5,qCV,ex,n0,ep0⟩:∃(T N W:Nat->ar)(c:Nat->mZ)(ie:Nat->aw En)(s0:Nat->S4)(ps:Nat->ar),W2 C T N W c bs ne ie s0 ps (fun w=>nl (s0 w)) H5/\H5 JK=some (.lst (cC T))/\cC N=[.ref x1,.ref x2]/\(∀ w,w<2->H (N w)=none)/\T 0=Qc:=⟨_,_,_,_,_,_,_,W0,(s4.trans s5) _ _ i3,rfl,two (YT.free nx1) ((YT.trans s4).free nx2),rfl⟩;clear W0;subst ep0;clear i3 qGH qGG hX1 hX2 ok2 gg2 made m1 k1 ns1 l qG3 qF0 hA1 qEZ m2 k2 ns2 D qG0 qEY W4 qEX BR1 BR2 so1 so2 j1 j2 ok0;have s6:=zF qG6 (.lst [.ref x1,.ref x2])
 have i6:upd H5 Ka (.lst [.ref x1,.ref x2]) Ka=some (.lst (cC N)):=by rw[ex];exact zC
 generalize upd H5 Ka (.lst [.ref x1,.ref x2])=H6 at s6 i6 ⊢;have W6:=W5.same s6;refine⟨bo _,fun I Jm=>?_⟩;have s7:=zF Jm (.lst []);have i7:upd H6 I (.lst []) I=some (.lst []):=zC;have nst:H I=none:=(s05.trans s6).free Jm;have qF6:∀ w,w<2->W w≠I:=fun w hw=>W6.bl hw Jm;have ncs:JK≠I:=zN (s6 _ _ qCV) Jm;have nns:Ka≠I:=zN i6 Jm;generalize upd H6 I (.lst [])=H7 at s7 i7 ⊢;have W7:=W6.same s7;have s07:=(s05.trans s6).trans s7;have qGE:=(s6.trans s7) _ _ qCV;have qGA:=s7 _ _ i6;clear W5 W6 qCV i6 s5 s6 s7 Jm qG6 s4 s24 s25 s3;refine⟨fun σ' g=>∃(ps:Nat->ar)(S:Nat->S4),W2 C T N W c bs ne ie s0 ps S g/\aH H g/\g JK=some (.lst (cC T))/\g Ka=some (.lst (cC N))/\g I=some (.lst (cC ps))/\∃ o6 U O:aE V,σ'=[some (.ref a),some (.ref (T 0)),some (.ref X),some (.ref JK),some (.ref Ka),some (.ref I),o6,U,O,none,none],?_,?_⟩
 .refine⟨_,rfl,by decide,by decide,?_⟩;refine cI (fun i σ' g=>∃(ps:Nat->ar)(S:Nat->S4),W2 C T N W c bs ne ie s0 ps S g/\(∀ w,w<2->S w=nl (s0 w))/\aH H g/\g JK=some (.lst (cC T))/\g Ka=some (.lst (cC N))/\g I=some (.lst ((List.range i).map fun w=>V.ref (ps w)))/\∃ o6 U O:aE V,σ'=[some (.ref a),some (.ref (T 0)),some (.ref X),some (.ref JK),some (.ref Ka),some (.ref I),o6,U,O,none,none]) ⟨ps,_,W7,fun _ _=>rfl,s07,qGE,qGA,i7,none,none,none,rfl⟩ ?_ (fun _ _ ⟨ps,S,h1,_,h2,h3,h4,h5,h6⟩=>⟨ps,S,h1,h2,h3,h4,h5,h6⟩);rintro i _ H8 m ⟨ps,S,W8,esv,s08,p,r,B,o6,U,O,rfl⟩;have m:i<2:=m;refine⟨_,rfl,_,rfl,gJ (aU.of p) (mD T m) ⟨T i,c i,bs,ne,rfl,W8.X4 i m,W8.ok i m,bD _,fun t G pw wv es st H9 BR j9 so9 s9 ht hS9 Ek Z7 hA9 le9=>?_⟩⟩;obtain⟨rfl,rfl⟩:=Pq BR (W8.beg i m).1;have ZK:=s9 _ _ B;have qKE:I≠pw:=zN B Z7;refine⟨_,rfl,.inl ⟨rfl,_,aU.of ZK⟩,_,rfl,aG (aJ.of ht) rfl ⟨I,_,_,rfl,rfl,ZK,iA (by rw[bT,List.length_range];lia:_<=2) (by rw[sizeLine_eq];decide),?_⟩⟩;rw[U9];have K1:=(W8.same s9).lst (o:=.lst ((List.range (i+1)).map fun w=>V.ref (if w=i then G else ps w))) ZK qF6;have GD:=bW nst (s08.trans s9) (.lst ((List.range (i+1)).map fun w=>V.ref (if w=i then G else ps w)));have qBF:upd H9 I (.lst ((List.range (i+1)).map fun w=>V.ref (if w=i then G else ps w))) I=some (.lst ((List.range (i+1)).map fun w=>V.ref (if w=i then G else ps w))):=zC;have r10:∀ b,b≠I->upd H9 I (.lst ((List.range (i+1)).map fun w=>V.ref (if w=i then G else ps w))) b=H9 b:=fun b z=>zR z;generalize upd H9 I (.lst ((List.range (i+1)).map fun w=>V.ref (if w=i then G else ps w)))=HQ at K1 GD qBF r10 ⊢;have Vn:aB H9 HQ:=fun b xs e=>(r10 b fun z=>by rw[z,ZK]at e;cases e).trans e;have uW:=(r10 _ ncs).trans (s9 _ _ p);have pW:=(r10 _ nns).trans (s9 _ _ r);have qG2:=(r10 _ (bE qKE)).trans Ek;obtain⟨pp,J,hN,R,L,l,D,so,j,l0⟩:=K1.nw i m;rw[esv i m]at l so j;obtain⟨dx,fs,h1,h2⟩:=id hN;refine⟨_,rfl,_,rfl,gJ (aU.of pW) (mD N m) ⟨N i,dx,fs,rfl,h1,h2.no _ (by decide +kernel),N i,T i,pp,W i,J,rfl,hN,R,fun qf M=>?_⟩⟩;have Z:=zF M (.lst J);have Y:upd HQ qf (.lst J) qf=some (.lst J):=zC;generalize upd HQ qf (.lst J)=Kd at Z Y ⊢;have MN:=aB.of Z;have qGL:=(K1.X4 i m).mono MN;have ok:=K1.ok i m;refine⟨fun cx Hx=>aH Kd Hx/\cx=false,⟨_,rfl,_,rfl,aG (aJ.of (MN _ _ (Vn _ _ ht))) rfl ⟨_,_,2,rfl,by decide,HJ Y (Z _ _ qG2) (L.mono fun _ _ z=>z.mono MN) (hA9.mono fun _ _ z=>(z.mono Vn).mono MN) (br le9 (by decide)),true,rfl,eE rfl ⟨_,rfl,_,rfl,gJ (aU.of (Z _ _ uW)) (mD T m) ⟨_,rfl,_,rfl,gJ (aU.of (Z _ _ pW)) (mD N m) ⟨_,rfl,aG (aJ.of (MN _ _ (Vn _ _ ht))) rfl ⟨T i,N i,G,T i,pp,W i,c i,c i,nl (s0 i),rfl,hN.mono Z,qGL.ch ok,qGL.ch ok,ok.ok,rfl,l.mono MN,((cR.tail hS9 []).mono Vn).mono MN,so,j,fun Hy sy=>⟨true,rfl,sy,rfl⟩⟩⟩⟩⟩⟩⟩,?_⟩;rintro cx K5 ⟨s12,rfl⟩;refine eE rfl ?_;have wY:=Z.trans s12
  have lbv:J.length<=1000000:=by rw[L.length];exact (K1.beg i m).2
  refine⟨_,rfl,.inl ⟨rfl,_,aU.of (s12 _ _ Y)⟩,zJ (by show 2<=1000;decide),fun pm hpm=>⟨qf,_,_,rfl,rfl,(zF hpm _) _ _ (s12 _ _ Y),iA lbv (by rw[sizeLine_eq];decide),?_⟩⟩;have uF:=wY.trans (zF hpm (.tup [.str "say",.str "more"]));have q13:=(s12.trans (zF hpm (.tup [.str "say",.str "more"]))) _ _ Y;generalize upd K5 pm (.tup [.str "say",.str "more"])=H13 at uF q13 ⊢;have W13:=(K1.same uF).put (i:=i) (p':=G) (s':=nl (s0 i)) ⟨pp,J,hN.mono uF,uF _ _ R,L.mono fun _ _ z=>z.mono (aB.of uF),l.mono (aB.of uF),((cR.tail hS9 []).mono Vn).mono (aB.of uF),so,j,rfl⟩;have nq:H qf=none:=GD.free M;refine⟨_,_,W13.lst q13 fun w hw=>K1.bl hw M,fun w hw=>?_,bW nq (GD.trans uF) _,?_,?_,?_,_,_,_,rfl⟩
  .show (if w=i then nl (s0 i) else S w)=_
   split
   .subst_vars;rfl
   .exact esv w hw
  .rw[zR (zN uW M)];exact uF _ _ uW
  .rw[zR (zN pW M)];exact uF _ _ pW
  .rw[zR (zN qBF M)];exact uF _ _ qBF
 rintro _ H8 ⟨ps1,sv1,W8,s08,qLH,qLD,qKY,o6,U,O,rfl⟩;clear W7 i7 qGE qGA;refine⟨fun σ' g=>∃(ps:Nat->ar)(S:Nat->S4),W2 C T N W c bs ne ie s0 ps S g/\aH H g/\g JK=some (.lst (cC T))/\g Ka=some (.lst (cC N))/\g I=some (.lst (cC ps))/\∃ o6 U O o9 vV:aE V,σ'=[some (.ref a),some (.ref (T 0)),some (.ref X),some (.ref JK),some (.ref Ka),some (.ref I),o6,U,O,o9,vV],?_,?_⟩
 .have hl:(ns.map V.int).length=ns.length:=bT _;refine⟨_,rfl,xR rfl (.inl (s08.seq hS)) ⟨_,_,rfl,_,rfl,?_,?_,?_⟩⟩
  .split <;> lia
  .split <;> lia
  refine cI (fun i σ' g=>∃(ps:Nat->ar)(S:Nat->S4),W2 C T N W c bs ne ie s0 ps S g/\aH H g/\g JK=some (.lst (cC T))/\g Ka=some (.lst (cC N))/\g I=some (.lst (cC ps))/\∃ o6 U O o9 vV:aE V,σ'=[some (.ref a),some (.ref (T 0)),some (.ref X),some (.ref JK),some (.ref Ka),some (.ref I),o6,U,O,o9,vV]) ⟨ps1,sv1,W8,s08,qLH,qLD,qKY,o6,U,O,none,none,rfl⟩ ?_ (fun _ _ y=>y);rintro i _ H9 m ⟨ps,S,W9,s09,p,r,B,o6,U,O,o9,vV,rfl⟩
  have hi16:i<1000:=by
   rw[hl]at m
   split at m <;> omega
  refine⟨fun v Hx=>H9=Hx/\∃ u:Nat,v = .int (u:Int)/\u<2,⟨_,rfl,_,rfl,a,ns,_,_,rfl,s09.seq hS,h63,⟨by lia,by lia⟩,⟨by decide,by decide⟩,fun x _ x1=>eO ⟨(by show (0:Int)<2;decide),rfl,(x%2).toNat,congrArg V.int (by lia),by lia⟩⟩,?_⟩;rintro _ _ ⟨rfl,u,rfl,hu⟩;obtain⟨Oe,pn,t,pd,_,nv,_,_,c1,_,_,c4,c5,_⟩:=id (W9.X4 0 (by decide));refine⟨_,rfl,_,rfl,_,rfl,aG (aJ.of c1) rfl (xR rfl (.inr (aJ.of c4)) ⟨a,ns,_,nv.length,rfl,s09.seq hS,h63,⟨by lia,by lia⟩,by rw[c5];exact e8,fun e HQ uz b0 b1=>?_⟩)⟩;have K1:=W9.same uz;have GD:=s09.trans uz;have uW:=uz _ _ p;have pW:=uz _ _ r;have Jl:=uz _ _ B;refine⟨fun σ' g=>∃(ps:Nat->ar)(S:Nat->S4),W2 C T N W c bs ne ie s0 ps S g/\aH H g/\g JK=some (.lst (cC T))/\g Ka=some (.lst (cC N))/\g I=some (.lst (cC ps))/\∃ U O:aE V,σ'=[some (.ref a),some (.ref (T 0)),some (.ref X),some (.ref JK),some (.ref Ka),some (.ref I),some (.int (u:Int)),U,O,some (.int (0+(i:Int))),some (.int e)],?_,?_⟩
  .refine⟨_,rfl,_,_,_,rfl,rfl,⟨_,rfl,aG (aJ.of (uz _ _ c1)) rfl (xR rfl (.inr (aJ.of (uz _ _ c4))) ⟨rfl,rfl⟩)⟩,_,rfl,?_⟩;rw[c5];obtain⟨pp,J,hN,R,L,l,D,so,j,l0⟩:=K1.nw u hu;obtain⟨dx,fs,h1,h2⟩:=id hN;have ok:=K1.ok u hu;have hX:=K1.X4 u hu
   by_cases ce:0<=e/\e<(ne:Int)
   .refine Hq (by show (decide (0<=e)&&decide (e<(ne:Int)))=true;rw[bq ce.1,bq ce.2];rfl) ?_;have alc:All (c u) (Jw (c u)) 3:=⟨ok.ok,wide ok.ok,fun d hd=>⟨(ok.g d hd).1,(ok.g d hd).2⟩⟩;refine⟨_,rfl,_,rfl,gJ (aU.of uW) (nR T hu) ⟨_,rfl,_,rfl,gJ (aU.of Jl) (nR ps hu) ⟨_,rfl,T u,ps u,c u,e,S u,rfl,hX.ch ok,alc,D,so,j,l0,by have:=ok.t4;lia,fun _ psn pw wv _ s' Kd AR _ _ Z ht hSn Ek Z7 hA _=>?_⟩⟩⟩;obtain⟨f1,f2⟩:=Wl b0 b1;have Sx:=K1.same Z;have k11:=aB.of Z;refine⟨_,rfl,_,rfl,gJ (aU.of (Z _ _ pW)) (nR N hu) ⟨N u,dx,fs,rfl,Z _ _ h1,h2.no _ (by decide +kernel),_,rfl,N u,T u,pp,W u,c u,bs,ne,e,S u,rfl,hN.mono Z,hX.mono k11,ok,bD _,l.mono k11,so,j,l0,f1,f2,fun _ _ psr pwr wvr _ sr K5 AR2 jr sor k12 nsr hSr ZL qC6 hAr _=>?_,fun z=>eu ⟨ce.1,ce.2⟩ z⟩⟩;obtain⟨rfl,rfl⟩:=Zz AR2 AR;have h11:=Z _ _ h1
    have nt:∀ xs,Kd (N u)≠some (.tup xs):=fun xs z=>by rw[h11]at z;cases z
    have kx:Kx (N u) Kd K5:=k12;have kt:=kx.tup nt
    have RB:∀ {b:ar} {xs:aw V},Kd b=some (.lst xs)->b≠N u:=fun z y=>by rw[y,h11]at z;cases z
    have W12:W2 C T N W c bs ne ie s0 (fun k=>if k=u then psn else ps k) (fun k=>if k=u then nl sr else S k) K5:=by
     refine⟨fun v hv=>(Sx.X4 v hv).mono kt,Sx.ok,Sx.rs,Sx.beg,fun v hv=>?_,Sx.dif⟩
     by_cases z:v=u
     .subst z;rw[cS rfl,cS rfl];exact⟨psr,J,nsr,kx _ _ (Z _ _ R) (RB (Z _ _ R)),(L.mono fun _ _ z=>z.mono k11).mono fun _ _ z=>z.mono kt,hSr,(cR.tail hSn []).mono kt,VM sor,jr,rfl⟩
     .rw[cK z,cK z];have nv':=Sx.nw v hv
      have nb':W v≠N u:=by
       obtain⟨_,_,_,y1,_⟩:=nv';exact RB y1
      refine nv'.mono kx nt ?_ nb';have d:=Sx.dif;exact qD2 d hv hu z
    have qG1:=kx _ _ Ek (RB Ek);have qGF:=kx _ _ (Z _ _ uW) (RB (Z _ _ uW));have qGB:=kx _ _ (Z _ _ pW) (RB (Z _ _ pW));have qFY:=kx _ _ (Z _ _ Jl) (RB (Z _ _ Jl));have qK4:aH H K5:=fun b o z=>kx _ _ ((GD.trans Z) _ _ z) (zN z (n0 u hu));refine⟨_,rfl,_,rfl,aG (aJ.of (kt _ _ ht)) rfl ⟨_,_,2,rfl,by decide,HJ ZL qG1 hAr (hA.mono fun _ _ z=>z.mono kt) (by rw[<-hAr.length];lia),true,rfl,eE rfl ?_⟩⟩;have R7:H pwr=none:=(GD.trans Z).free qC6;refine⟨_,rfl,.inl ⟨rfl,_,aU.of ZL⟩,pwr,wvr,rfl,rfl,ZL,?_⟩;have W13:=W12.lst (o:=.lst []) ZL fun v hv=>Sx.bl hv qC6;have qEL:=bW R7 qK4 (.lst []);have r13:∀ {b:ar} {o:HO},Kd b=some o->upd K5 pwr (.lst []) b=K5 b:=fun z=>zR (zN z qC6);have qFX:=(r13 ht).trans (kt _ _ ht);have qAS:=(r13 (Z _ _ uW)).trans qGF;have qAR:=(r13 (Z _ _ pW)).trans qGB;have Vw:=(r13 (Z _ _ Jl)).trans qFY;generalize upd K5 pwr (.lst [])=H13 at W13 qEL qFX qAS qAR Vw ⊢;have ix:Su (cC ps).length (u:Int)=some u:=Yp ps hu;refine⟨_,rfl,aG (aJ.of qFX) rfl ⟨_,rfl,_,rfl,I,cC ps,(u:Int),u,rfl,rfl,Vw,ix,?_⟩⟩;rw[Uk ps hu];refine⟨_,_,W13.lst Vw qF6,bW nst qEL _,?_,?_,zC,_,_,rfl⟩
    .rw[zR ncs];exact qAS
    .rw[zR nns];exact qAR
   .refine eE (by show (decide (0<=e)&&decide (e<(ne:Int)))=false;rw[<-eI];exact bp ce) ?_;exact⟨_,rfl,_,rfl,gJ (aU.of pW) (nR N hu) ⟨_,rfl,_,rfl,N u,T u,pp,W u,c u,bs,ne,e,_,S u,rfl,hN,hX,ok,l,so,j,l0,b0,b1,ce,fun Hy sy=>⟨true,rfl,eE rfl ⟨ps,S,K1.same sy,GD.trans sy,sy _ _ uW,sy _ _ pW,sy _ _ Jl,_,_,rfl⟩⟩⟩⟩
  rintro _ _ ⟨ps,S,W15,QR,p,r,B,U,O,rfl⟩;obtain⟨pp,J,hN,R,L,l,D,so,j,l0⟩:=W15.nw u hu;have ok:=W15.ok u hu;exact⟨_,rfl,_,rfl,_,rfl,gJ (aU.of r) (nR N hu) ⟨_,rfl,_,rfl,gJ (aU.of B) (nR ps hu) ⟨T 0,N u,ps u,T u,pp,W u,c 0,c u,S u,rfl,hN,(W15.X4 0 (by decide)).ch (W15.ok 0 (by decide)),(W15.X4 u hu).ch ok,ok.ok,(W15.rs u hu).symm,l,D,so,j,fun Hy sy=>⟨true,rfl,eE rfl ⟨ps,S,W15.same sy,QR.trans sy,sy _ _ p,sy _ _ r,sy _ _ B,_,_,_,_,_,rfl⟩⟩⟩⟩⟩
 rintro _ H9 ⟨ps,S,W9,s09,p,r,B,o6,U,O,o9,vV,rfl⟩;refine⟨fun σ' g=>True,?_,fun σ' g _=>q g⟩;refine⟨_,rfl,by decide,by decide,?_⟩;refine cI (fun i σ' g=>∃(ps:Nat->ar)(S:Nat->S4),W2 C T N W c bs ne ie s0 ps S g/\aH H g/\g JK=some (.lst (cC T))/\g Ka=some (.lst (cC N))/\g I=some (.lst (cC ps))/\∃ o6 U O o9 vV:aE V,σ'=[some (.ref a),some (.ref (T 0)),some (.ref X),some (.ref JK),some (.ref Ka),some (.ref I),o6,U,O,o9,vV]) ⟨ps,S,W9,s09,p,r,B,o6,U,O,o9,vV,rfl⟩ ?_ (fun _ _ _=>trivial);rintro i _ HQ m ⟨ps,S,K1,GD,p,r,B,o6,U,O,o9,vV,rfl⟩;have m:i<2:=m;obtain⟨pp,J,hN,R,L,l,D,so,j,l0⟩:=K1.nw i m;obtain⟨dx,fs,h1,h2⟩:=id hN;refine⟨_,rfl,_,rfl,gJ (aU.of r) (mD N m) ⟨N i,dx,fs,rfl,h1,h2.no _ (by decide +kernel),N i,T i,pp,W i,J,rfl,hN,R,fun qf M=>?_⟩⟩;have Z:=zF M (.lst J);have Y:upd HQ qf (.lst J) qf=some (.lst J):=zC;generalize upd HQ qf (.lst J)=Kd at Z Y ⊢;have Sx:=K1.same Z;refine⟨_,rfl,_,rfl,gJ (aU.of (Z _ _ p)) (mD T m) ⟨T i,c i,bs,ne,rfl,Sx.X4 i m,Sx.ok i m,bD _,fun t G pw wv es st K5 BR j9 so9 s12 ht hS9 Ek Z7 hA9 le9=>?_⟩⟩;obtain⟨rfl,rfl⟩:=Pq BR (Sx.beg i m).1;have wY:=Z.trans s12;exact aG (aJ.of ht) rfl ⟨_,_,2,rfl,by decide,HJ (s12 _ _ Y) Ek (L.mono fun _ _ z=>z.mono (aB.of wY)) hA9 (br le9 (by decide)),true,rfl,eE rfl ⟨ps,S,K1.same wY,GD.trans wY,wY _ _ p,wY _ _ r,wY _ _ B,_,_,_,_,_,rfl⟩⟩
end wH
namespace L2
open PySem
theorem aL.cx{P:ag}{w:aI}{K:bV}{mg:Str->aE av}{base:Heap}{CX:KQ}{k:Nat}{f:ar}{d:af}{ps:aw Str}{sp:Sp}(F:aL P w K mg base aN k f d ps sp):aL P w K mg base CX k f d ps sp:=
 ⟨F.len,fun A o s H a us vs Q E r e b v h=>codeAny_mono (F.run A o s H a us vs Q E r e b v h) fun R _ z=>by
  cases R with
  | error e=>exact z.elim
  | ok f=>cases f <;> exact z⟩
end L2
namespace wH
open PySem L2 jP lN vB Q3 xM dC Ru
section
variable{P:ag}{w:aI}{K:bV}{mg:Str->aE av}{base:Heap}
def Qp{f:ar}{d:af}(F:bO K "holds" "holds" pJ f d)(y:Binds K d ["guard","opening","boxes"] [])(Y:mg "holds" = some (.ref f)):aL P w K mg base aN 3 f d ["guard","opening","boxes"] (K02.n6 3):=by exact K02.FJ F y Y 3
def Qu{f:ar}{d:af}(F:bO K "_law_guard" "_law_guard" jL f d)(U:Binds K d ["_law_number","_law_rooms_here","_law_boxes","_law_high"] [])(u:mg "_law_guard" = some (.ref f)):aL P w K mg base aN 3 f d ["_law_number","_law_rooms_here","_law_boxes","_law_high"] (CJ.jV 3):=by exact CJ.By F U u 3
def Qn{f g:ar}{b d:af}(F:bO K "_law_mixed" "_law_mixed" Ah f b)(G:aL P w K mg base aN 1 g d ["_law_script","_law_k"] (sX K))(j:Binds K d ["_law_script","_law_k"] [])(u:KI K g)(n:mg "_law_cell_at" = some (.ref g))
  (m:mg "len" = none) (M:mg "max" = none):aL P w K mg base aN 2 f b ["_law_script","_law_k","_law_salt"] (jC K):=by
 exact Uy F (G.imp fun _ H Q E h=>by
  obtain⟨a,ns,k,e,c,i,q⟩:=h
  exact⟨a,ns,k,e,c,i,q _⟩) j u n m M
end
end wH
namespace wH
open PySem L2 jP lN vB Q3 xM Ru dC
def Mm(P:Params):wJ (KO P) 235:=⟨by kernel_rfl,by kernel_rfl,by kernel_rfl,by kernel_rfl,by kernel_rfl,by kernel_rfl⟩
def Bh(P:Params):sE (KO P) 235 232=true:=by kernel_rfl
def Bg(P:Params):HR (KO P) 235 "event" := ⟨by kernel_rfl,by kernel_rfl,by kernel_rfl,by kernel_rfl⟩
def law_ok{w:aI}{mg:Str->aE av}{h base:Heap}(X:(KO w.params).In h)(G:h.Ns mainGlobals mg):aL PW w (KO w.params) mg base aN 29 683 ZZ ["_law_script"] (Tg (KO w.params)):=by have ap {CX:KQ} {k:Nat} {f:ar} {fd:af} {ps:aw Str} {sp:Sp} (h:aL PW w (KO w.params) mg base CX k f fd ps sp):=h;have mo {x:Str} {a:ar} (h:NS x a):=cE X G (h w.params);have mz {x:Str} (h:NZ x):=PySem.W.mg_none_of X G (h w.params);have F1:=u1 w.params;have b1:=F1.binds (ps:=["_law_script","_law_k"]) fun _ _ _ _ _ _=>jl fun _ _=>rfl;have m1:=mo a1;have F2:=u2 w.params;have b2:=F2.binds (ps:=["_law_script","_law_k","_law_salt"]) fun _ _ _ _ _ _=>iW fun _ _ _=>rfl;have m2:=mo a2;have k2:=F2.kp;have F3:=u3 w.params;have b3:=F3.binds (ps:=["guard","opening","boxes"]) fun _ _ _ _ _ _=>iW fun _ _ _=>rfl;have m3:=mo a3;have F4:=u4 w.params;have b4:=F4.binds (ps:=["guard"]) fun _ _ _ _ _ _=>lG fun _=>rfl;have m4:=mo a4;have F5:=u5 w.params;have b5:=F5.binds (ps:=["guard"]) fun _ _ _ _ _ _=>lG fun _=>rfl;have m5:=mo a5;have F6:=u6 w.params;have b6:=F6.binds (ps:=["guard"]) fun _ _ _ _ _ _=>lG fun _=>rfl;have m6:=mo a6;have F7:=u7 w.params;have b7:=F7.binds (ps:=["guard"]) fun _ _ _ _ _ _=>lG fun _=>rfl;have m7:=mo a7;have F8:=u8 w.params;have b8:=F8.binds (ps:=["text"]) fun _ _ _ _ _ _=>lG fun _=>rfl;have m8:=mo a8;have F9:=u9 w.params;have b9:=F9.binds (ps:=["number","things"]) fun _ _ _ _ _ _=>jl fun _ _=>rfl;have m9:=mo a9;have k9:=F9.kp;have s:=u10 w.params;have b10:=s.binds (ps:=["number"]) fun _ _ _ _ _ _=>lG fun _=>rfl;have m10:=mo a10;have e:=u11 w.params;have b11:=e.binds (ps:=["name","ahead"]) fun _ _ _ _ _ _=>jl fun _ _=>rfl;have m11:=mo a11;have D:=u12 w.params;have b12:=D.binds (ps:=["things"]) fun _ _ _ _ _ _=>lG fun _=>rfl;have m12:=mo a12;have F13:=u13 w.params;have b13:=F13.binds (ps:=["box","ahead"]) fun _ _ _ _ _ _=>jl fun _ _=>rfl;have m13:=mo a13;have F14:=u14 w.params;have b14:=F14.binds (ps:=["deed","boxes","events"]) fun _ _ _ _ _ _=>iW fun _ _ _=>rfl;have m14:=mo a14;have n:=u15 w.params;have b15:=n.binds (ps:=["deeds","boxes","events"]) fun _ _ _ _ _ _=>iW fun _ _ _=>rfl;have m15:=mo a15;have F16:=u16 w.params;have b16:=F16.binds (ps:=["depth","ahead"]) fun _ _ _ _ _ _=>jl fun _ _=>rfl;have m16:=mo a16;have R:=u17 w.params;have b17:=R.binds (ps:=["keeps","kind"]) fun _ _ _ _ _ _=>jl fun _ _=>rfl;have m17:=mo a17;have F18:=u18 w.params;have b18:=F18.binds (ps:=["room","ahead","boxes","events"]) fun _ _ _ _ _ _=>xT fun _ _ _ _=>rfl;have m18:=mo a18;have F19:=u19 w.params;have b19:=F19.binds (ps:=["room","behind"]) fun _ _ _ _ _ _=>jl fun _ _=>rfl;have m19:=mo a19;have F20:=u20 w.params;have b20:=F20.binds (ps:=["guard","boxes","rooms"]) fun _ _ _ _ _ _=>iW fun _ _ _=>rfl;have m20:=mo a20;have S:=u21 w.params;have b21:=S.binds (ps:=["way","goal","rooms"]) fun _ _ _ _ _ _=>iW fun _ _ _=>rfl;have m21:=mo a21;have F22:=u22 w.params;have b22:=F22.binds (ps:=["door","boxes","events","rooms"]) fun _ _ _ _ _ _=>xT fun _ _ _ _=>rfl;have m22:=mo a22;have F23:=u23 w.params;have b23:=F23.binds (ps:=["chart"]) fun _ _ _ _ _ _=>lG fun _=>rfl;have m23:=mo a23;have J:=u24 w.params;have b24:=J.binds (ps:=["boxes"]) fun _ _ _ _ _ _=>lG fun _=>rfl;have m24:=mo a24;have F25:=u25 w.params;have b25:=F25.binds (ps:=["events"]) fun _ _ _ _ _ _=>lG fun _=>rfl;have m25:=mo a25;have F26:=u26 w.params;have b26:=F26.binds (ps:=["rooms","boxes","events"]) fun _ _ _ _ _ _=>iW fun _ _ _=>rfl;have m26:=mo a26;have F27:=u27 w.params;have b27:=F27.binds (ps:=["doors","boxes","events","rooms"]) fun _ _ _ _ _ _=>xT fun _ _ _ _=>rfl;have m27:=mo a27;have F28:=u28 w.params;have b28:=F28.binds (ps:=["chart"]) fun _ _ _ _ _ _=>lG fun _=>rfl;have m28:=mo a28;have F29:=u29 w.params;have b29:=F29.binds (ps:=["chart","stand","event"]) fun _ _ _ _ _ _=>iW fun _ _ _=>rfl;have m29:=mo a29;have F:=u30 w.params;have B:=F.binds (ps:=["rooms","room"]) fun _ _ _ _ _ _=>jl fun _ _=>rfl;have M:=mo a30;have Z:=u31 w.params;have b31:=Z.binds (ps:=["rooms","room"]) fun _ _ _ _ _ _=>jl fun _ _=>rfl;have m31:=mo a31;have u:=u32 w.params;have b32:=u.binds (ps:=["rooms","one","other"]) fun _ _ _ _ _ _=>iW fun _ _ _=>rfl;have m32:=mo a32;have F33:=u33 w.params;have b33:=F33.binds (ps:=["rooms","one","other"]) fun _ _ _ _ _ _=>iW fun _ _ _=>rfl;have m33:=mo a33;have F34:=u34 w.params;have b34:=F34.binds (ps:=["rooms","room"]) fun _ _ _ _ _ _=>jl fun _ _=>rfl;have m34:=mo a34;have F35:=u35 w.params;have b35:=F35.binds (ps:=["rooms","room","goals"]) fun _ _ _ _ _ _=>iW fun _ _ _=>rfl;have m35:=mo a35;have N:=u36 w.params;have b36:=N.binds (ps:=["rooms","room","goals"]) fun _ _ _ _ _ _=>iW fun _ _ _=>rfl;have m36:=mo a36;have p:=u37 w.params;have b37:=p.binds (ps:=["rooms","under","goals"]) fun _ _ _ _ _ _=>iW fun _ _ _=>rfl;have m37:=mo a37;have q:=u38 w.params;have b38:=q.binds (ps:=["rooms","under","opening"]) fun _ _ _ _ _ _=>iW fun _ _ _=>rfl;have m38:=mo a38;have F39:=u39 w.params;have b39:=F39.binds (ps:=["rooms","told"]) fun _ _ _ _ _ _=>jl fun _ _=>rfl;have m39:=mo a39;have F40:=u40 w.params;have b40:=F40.binds (ps:=["rooms","opening","room"]) fun _ _ _ _ _ _=>iW fun _ _ _=>rfl;have m40:=mo a40;have F41:=u41 w.params;have b41:=F41.binds (ps:=["rooms","opening","left","kept"]) fun _ _ _ _ _ _=>xT fun _ _ _ _=>rfl;have m41:=mo a41;have F42:=u42 w.params;have b42:=F42.binds (ps:=["chart","room","others"]) fun _ _ _ _ _ _=>iW fun _ _ _=>rfl;have m42:=mo a42;have F43:=u43 w.params;have b43:=F43.binds (ps:=["chart","stand","event"]) fun _ _ _ _ _ _=>iW fun _ _ _=>rfl;have m43:=mo a43;have F44:=u44 w.params;have b44:=F44.binds (ps:=["deed","boxes","sizes"]) fun _ _ _ _ _ _=>iW fun _ _ _=>rfl;have m44:=mo a44;have L:=u45 w.params;have b45:=L.binds (ps:=["deed","boxes","letters"]) fun _ _ _ _ _ _=>iW fun _ _ _=>rfl;have m45:=mo a45;have I:=u46 w.params;have b46:=I.binds (ps:=["deeds","boxes","sizes","letters"]) fun _ _ _ _ _ _=>xT fun _ _ _ _=>rfl;have m46:=mo a46;have r:=u47 w.params;have b47:=r.binds (ps:=["chart"]) fun _ _ _ _ _ _=>lG fun _=>rfl;have m47:=mo a47;have F48:=u48 w.params;have b48:=F48.binds (ps:=["record"]) fun _ _ _ _ _ _=>lG fun _=>rfl;have m48:=mo a48;have t:=u49 w.params;have b49:=t.binds (ps:=["rooms","entered"]) fun _ _ _ _ _ _=>jl fun _ _=>rfl;have m49:=mo a49;have F50:=u50 w.params;have b50:=F50.binds (ps:=["rooms","left"]) fun _ _ _ _ _ _=>jl fun _ _=>rfl;have m50:=mo a50;have y:=u51 w.params;have b51:=y.binds (ps:=["steps","boxes","sizes","letters"]) fun _ _ _ _ _ _=>xT fun _ _ _ _=>rfl;have m51:=mo a51;have O:=u52 w.params;have b52:=O.binds (ps:=["chart","kept","door"]) fun _ _ _ _ _ _=>iW fun _ _ _=>rfl;have m52:=mo a52;have F53:=u53 w.params;have b53:=F53.binds (ps:=["chart","stand","door","letters"]) fun _ _ _ _ _ _=>xT fun _ _ _ _=>rfl;have m53:=mo a53;have z:=u54 w.params;have b54:=z.binds (ps:=["chart","stand","event","letters"]) fun _ _ _ _ _ _=>xT fun _ _ _ _=>rfl;have m54:=mo a54;have l:=u55 w.params;have b55:=l.binds (ps:=["chart","stand","record","letters"]) fun _ _ _ _ _ _=>xT fun _ _ _ _=>rfl;have m55:=mo a55;have m:=u56 w.params;have b56:=m.binds (ps:=["chart"]) fun _ _ _ _ _ _=>lG fun _=>rfl;have m56:=mo a56;have j:=u57 w.params;have b57:=j.binds (ps:=["chart","stand","event"]) fun _ _ _ _ _ _=>iW fun _ _ _=>rfl;have m57:=mo a57;have U:=u58 w.params;have b58:=U.binds (ps:=["rooms","opening"]) fun _ _ _ _ _ _=>jl fun _ _=>rfl;have m58:=mo a58;have b:=u59 w.params;have b59:=b.binds (ps:=["_law_k","_law_number"]) fun _ _ _ _ _ _=>jl fun _ _=>rfl;have m59:=mo a59;have F60:=u60 w.params;have b60:=F60.binds (ps:=["_law_number","_law_sizes","_law_events"]) fun _ _ _ _ _ _=>iW fun _ _ _=>rfl;have m60:=mo a60;have v:=u61 w.params;have b61:=v.binds (ps:=["_law_script","_law_k","_law_salt","_law_sizes","_law_events"]) fun _ _ _ _ _ _=>qFI fun _ _ _ _ _=>rfl;have m61:=mo a61;have W:=u62 w.params;have b62:=W.binds (ps:=["_law_number","_law_rooms_here","_law_boxes","_law_high"]) fun _ _ _ _ _ _=>xT fun _ _ _ _=>rfl;have m62:=mo a62;have F63:=u63 w.params;have b63:=F63.binds (ps:=["_law_script","_law_many"]) fun _ _ _ _ _ _=>jl fun _ _=>rfl;have m63:=mo a63;have F64:=u64 w.params;have b64:=F64.binds (ps:=["_law_script","_law_depths_here","_law_sizes","_law_events"]) fun _ _ _ _ _ _=>xT fun _ _ _ _=>rfl;have m64:=mo a64;have F65:=u65 w.params;have b65:=F65.binds (ps:=["_law_script","_law_many","_law_rooms_here","_law_sizes","_law_events"]) fun _ _ _ _ _ _=>qFI fun _ _ _ _ _=>rfl;have m65:=mo a65;have F66:=u66 w.params;have b66:=F66.binds (ps:=["_law_script"]) fun _ _ _ _ _ _=>lG fun _=>rfl;have m66:=mo a66;have g:=u67 w.params;have A:=g.binds (ps:=["_law_found","_law_due"]) fun _ _ _ _ _ _=>jl fun _ _=>rfl;have C:=mo a67;have Y:=u68 w.params;have b68:=Y.binds (ps:=["_law_script","_law_k","_law_events"]) fun _ _ _ _ _ _=>iW fun _ _ _=>rfl;have m68:=mo a68;have T:=u69 w.params;have b69:=T.binds (ps:=["_law_nest","_law_event_here","_law_way"]) fun _ _ _ _ _ _=>iW fun _ _ _=>rfl;have m69:=mo a69;have F70:=u70 w.params;have b70:=F70.binds (ps:=["_law_chart_here","_law_nest","_law_stand"]) fun _ _ _ _ _ _=>iW fun _ _ _=>rfl;have m70:=mo a70;have F71:=u71 w.params;have qB4:=qDR w.params;have qAX:=qB4.binds (ps:=["self","most"]) fun _ _ _ _ _ _=>jl fun _ _=>rfl;have qJ9:Mk (KO w.params) 406 382:=⟨(qFA w.params).1,qJ4 w.params,qFT w.params,(qFA w.params).2⟩;have Xg:=qDQ w.params;have qIU:=Xg.binds (ps:=["self","event"]) fun _ _ _ _ _ _=>jl fun _ _=>rfl;have qFG:Meth (KO w.params) 406 "add" 389:=⟨qJ3 w.params,qFS w.params,Xg.kp⟩;have Xf:=qDP w.params;have qIT:=Xf.binds (ps:=["self"]) fun _ _ _ _ _ _=>lG fun _=>rfl;have qFF:Meth (KO w.params) 406 "taken" 396:=⟨qJ2 w.params,qFR w.params,Xf.kp⟩;have Xe:=qDO w.params;have qIS:=Xe.binds (ps:=["self"]) fun _ _ _ _ _ _=>lG fun _=>rfl;have qFE:Meth (KO w.params) 406 "waiting" 403:=⟨qJ1 w.params,qFQ w.params,Xe.kp⟩;have qB3:=qDN w.params;have qIR:=qB3.binds (ps:=["self","chart"]) fun _ _ _ _ _ _=>jl fun _ _=>rfl;have qLZ:Mk (KO w.params) 580 549:=⟨(qF9 w.params).1,qJ0 w.params,qFP w.params,(qF9 w.params).2⟩;have Xd:=qDM w.params;have qIQ:=Xd.binds (ps:=["self"]) fun _ _ _ _ _ _=>lG fun _=>rfl;have qFD:Meth (KO w.params) 580 "first" 556:=⟨qIZ w.params,qFO w.params,Xd.kp⟩;have Xc:=qDL w.params;have qAW:=Xc.binds (ps:=["self","event"]) fun _ _ _ _ _ _=>jl fun _ _=>rfl;have qAQ:Meth (KO w.params) 580 "run" 563:=⟨qIY w.params,qFN w.params,Xc.kp⟩;have Xb:=qDK w.params;have qIP:=Xb.binds (ps:=["self"]) fun _ _ _ _ _ _=>lG fun _=>rfl;have qFC:Meth (KO w.params) 580 "stand" 570:=⟨qIX w.params,qFM w.params,Xb.kp⟩;have Xa:=qDJ w.params;have qIO:=Xa.binds (ps:=["self"]) fun _ _ _ _ _ _=>lG fun _=>rfl;have qFB:Meth (KO w.params) 580 "lamps" 577:=⟨qIW w.params,qFL w.params,Xa.kp⟩;have qB2:=qDI w.params;have qIN:=qB2.binds (ps:=["self","event"]) fun _ _ _ _ _ _=>jl fun _ _=>rfl;have HB:=HB w.params;have mC0:=mo aC0;have qZ:=qZ w.params;have fK:=fK w.params;have Cv:=Cv w.params;have mC1:=mo aC1;have jh:=jh w.params;have iD:=iD w.params;have gH:=gH w.params;have mC2:=mo aC2;have mC3:=mo aC3;have mC4:=mo aC4;have mC5:=mo aC5;have mC6:=mo aC6;have mC7:=mo aC7;have mC8:=mo aC8;have mC9:=mo aC9;have c:=mz z1;have qAL:=mz z2;have qAK:=mz z3;have i:=mz z4;have vY:=mz z5;have d:=mz z6;have uN:=mz z7;have Va:=mz z8;have qCE:=mz z9;have mK:=mz z10;have Vb:=mz z11;have iV:=mz z12;have qF7:=mz z13;have qAM:=mz z14;have qF8:=mz z15;have Gf:=mz z16;have Be:=mo vT1;have Ar:∀ H:Hp,aJ (KO w.params) H 51 [.str "inner",.str "outer"]:=fun H=>.inr ⟨_,_,_,show (KO w.params).lookup 51=some (Obj.mk (.type "tuple") none (.seq #[.str "inner" 242,.str "outer" 243] 0) #[]) by kernel_rfl,rfl,rfl,zJ (by show 2<=1000;decide),(.cons ⟨_,rfl⟩ (.cons ⟨_,rfl⟩ .nil))⟩;have Gv:=mo vT2;have GJ:∀ H:Hp,aJ (KO w.params) H 52 [.str "plain",.str "one",.str "all"]:=fun H=>.inr ⟨_,_,_,show (KO w.params).lookup 52=some (Obj.mk (.type "tuple") none (.seq #[.str "plain" 245,.str "one" 246,.str "all" 247] 0) #[]) by kernel_rfl,rfl,rfl,zJ (by show 3<=1000;decide),(.cons ⟨_,rfl⟩ (.cons ⟨_,rfl⟩ (.cons ⟨_,rfl⟩ .nil)))⟩;have iy:=cE X G (v1 w.params);have w6:=cE X G (v2 w.params);have jo:=cE X G (v3 w.params);have nY:=cE X G (v4 w.params);have nu:=cE X G (v5 w.params);have lH:=cE X G (v6 w.params);have nZ:=cE X G (v7 w.params);have ni:=cE X G (v8 w.params);have nj:=cE X G (v9 w.params);have wB:=cE X G (v10 w.params);have wA:=cE X G (v11 w.params);have fG:=cE X G (v12 w.params);have mLS:=mo fLS;have qB0:=ap (dC.Yy qB4 HB qZ fK);have qJJ:=ap (dC.qC5 Xg HB qZ fK c);have qJI:=ap (dC.Uq Xf HB fK c);have qJH:=ap (dC.Lj Xe HB fK vY);have qJC:=ap (wH.qC2 qB2 (Bh w.params) (Bg w.params) mC3 (fE1 w.params) (fE2 w.params) (fE3 w.params));have G1:=ap (V8 F1 c);have G2:=ap (Qn F2 G1 b1 F1.kp m1 c qAL);have G3:=ap (Qp F3 b3 m3);have G4:=ap (FP.Qf F4);have GA5:=FP.Bw (P:=PW) (w:=w) (base:=base) (mg:=mg) F5 b5 m5 ⟨G4,b4,F4.kp,m4⟩ qAL;have G5:=GA5 20;have GA6:=FP.all_plain (P:=PW) (w:=w) (base:=base) (mg:=mg) F6 b6 m6 ⟨G4,b4,F4.kp,m4⟩ c;have G6:=GA6 20;have G7:=ap (FP.VF F7 ⟨G6,b6,F6.kp,m6⟩ mK qF8);have G8:=ap (dC.Lw F8 c qAM w6 iy);have G9:=ap (dC.qC1 F9 c);have G10:=ap (dC.Ut s fG);have Q:=ap (dC.Yv e ⟨G8,b8,F8.kp,m8⟩);have G12:=ap (dC.Uw D);have G13:=ap (dC.Z3 F13 ⟨(G12.mono (show 1<=2 by decide)),b12,D.kp,m12⟩ ⟨Q,b11,e.kp,m11⟩ fG);have G14:=ap (dC.V7 F14 ⟨G8,b8,F8.kp,m8⟩ ⟨G9,b9,k9,m9⟩ ⟨G10,b10,s.kp,m10⟩);have G15:=ap (dC.R1 n ⟨G14,b14,F14.kp,m14⟩ c Vb nj);have G16:=ap (dC.Qz F16 c wB);have G17:=ap (dC.Qo R);have G18:=ap (dC.Us F18 ⟨(G12.mono (show 1<=3 by decide)),b12,D.kp,m12⟩ ⟨(Q.mono (show 2<=3 by decide)),b11,e.kp,m11⟩ ⟨(G16.mono (show 1<=3 by decide)),b16,F16.kp,m16⟩ ⟨(G17.mono (show 1<=3 by decide)),b17,R.kp,m17⟩ ⟨(G8.mono (show 1<=3 by decide)),b8,F8.kp,m8⟩ ⟨G15,b15,n.kp,m15⟩ Gv GJ);have G19:=ap (dC.Z1 F19 c);have G20:=ap (dC.Qt F20 ⟨(G5.mono (show 21<=22 by decide)),b5,F5.kp,m5⟩ ⟨G7,b7,F7.kp,m7⟩ ⟨(G9.mono (show 1<=22 by decide)),b9,k9,m9⟩ ⟨(G6.mono (show 21<=22 by decide)),b6,F6.kp,m6⟩ ⟨(G10.mono (show 1<=22 by decide)),b10,s.kp,m10⟩ qAM wA);have G21:=ap (dC.V2 S ⟨G9,b9,k9,m9⟩);have G22:=ap (dC.V5 F22 ⟨(G9.mono (show 1<=23 by decide)),b9,k9,m9⟩ ⟨G20,b20,F20.kp,m20⟩ ⟨(G15.mono (show 3<=23 by decide)),b15,n.kp,m15⟩ ⟨(G21.mono (show 2<=23 by decide)),b21,S.kp,m21⟩);have G23:=ap (dC.Ly F23 Be Ar jo nY);have G24:=ap (dC.V9 J ⟨G13,b13,F13.kp,m13⟩ c iV nu);have G25:=ap (dC.Z0 F25 ⟨Q,b11,e.kp,m11⟩ c iV lH);have G26:=ap (dC.Qi F26 ⟨G18,b18,F18.kp,m18⟩ ⟨(G19.mono (show 1<=4 by decide)),b19,F19.kp,m19⟩ c iV nZ);have G27:=ap (dC.Qx F27 ⟨G22,b22,F22.kp,m22⟩ c iV ni);have G28:=ap (dC.Qv F28 ⟨(G23.mono (show 1<=25 by decide)),b23,F23.kp,m23⟩ ⟨(G24.mono (show 4<=25 by decide)),b24,J.kp,m24⟩ ⟨(G25.mono (show 3<=25 by decide)),b25,F25.kp,m25⟩ ⟨(G26.mono (show 5<=25 by decide)),b26,F26.kp,m26⟩ ⟨G27,b27,F27.kp,m27⟩);have G29:=ap (DQ.Lz F29 ⟨G3,b3,F3.kp,m3⟩ iV);have o:=ap (dC.qC4 F i c);have G31:=ap (dC.Ql Z i);have G32:=ap (dC.Yw u ⟨o,B,F.kp,M⟩);have G33:=ap (dC.Yz F33 ⟨(G31.mono (show 1<=2 by decide)),b31,Z.kp,m31⟩ ⟨G32,b32,u.kp,m32⟩);have G34:=ap (dC.Yx F34 ⟨o,B,F.kp,M⟩ i);have G35:=ap (dC.Cp F35 ⟨o,B,F.kp,M⟩ Vb);have G36:=ap (dC.Lq N ⟨G34,b34,F34.kp,m34⟩ ⟨G35,b35,F35.kp,m35⟩);have G37:=ap (dC.Ga p ⟨G36,b36,N.kp,m36⟩ c mK);have G38:=ap (dC.Cm q ⟨o,B,F.kp,M⟩ mK);have G39:=ap (dC.Ck F39 d);have G40:=ap (dC.Lr F40 ⟨G38,b38,q.kp,m38⟩ ⟨(G39.mono (show 1<=2 by decide)),b39,F39.kp,m39⟩ mK d);have G41:=ap (dC.Ls F41 ⟨G40,b40,F40.kp,m40⟩ vY d);have G42:=ap (DQ.Lp F42 ⟨G32,b32,u.kp,m32⟩ Vb);have G43:=ap (DQ.R3 F43 ⟨G29,b29,F29.kp,m29⟩ ⟨(G42.mono (show 3<=4 by decide)),b42,F42.kp,m42⟩ mK);have G44:=ap (dC.Lx F44);have G45:=ap (dC.JP L HB qFG qJJ qIU);have G46:=ap (dC.Z2 I ⟨(G44.mono (show 1<=2 by decide)),b44,F44.kp,m44⟩ ⟨G45,b45,L.kp,m45⟩);have G47:=ap (Ru.JN r d);have G48:=ap (Ru.Cj F48);have G49:=ap (Ru.JM t);have G50:=ap (Ru.GZ F50);have G51:=ap (Ru.Lk y ⟨G46,b46,I.kp,m46⟩);have G52:=ap (Ru.JQ O c vY);have G53:=ap (Ru.Qk F53 ⟨(G33.mono (show 3<=4 by decide)),b33,F33.kp,m33⟩ ⟨(G38.mono (show 2<=4 by decide)),b38,q.kp,m38⟩ ⟨G41,b41,F41.kp,m41⟩ ⟨G37,b37,p.kp,m37⟩ ⟨(G52.mono (show 1<=4 by decide)),b52,O.kp,m52⟩ ⟨(G50.mono (show 1<=4 by decide)),b50,F50.kp,m50⟩ ⟨(G49.mono (show 1<=4 by decide)),b49,t.kp,m49⟩ ⟨G51,b51,y.kp,m51⟩ ⟨(G47.mono (show 1<=4 by decide)),b47,r.kp,m47⟩ d mK);have G54:=ap (Ru.Yu z ⟨G43,b43,F43.kp,m43⟩ ⟨G53,b53,F53.kp,m53⟩ ⟨(G48.mono (show 1<=5 by decide)),b48,F48.kp,m48⟩);have G55:=ap (Ru.Qj l HB qFF (qJI.mono (show 1<=6 by decide)) qIT qFE (qJH.mono (show 1<=6 by decide)) qIS ⟨G54,b54,z.kp,m54⟩ c vY);have G56:=ap (Ru.VD m qJ9 (qB0.mono (show 1<=6 by decide)) qAX mC0 ⟨(G37.mono (show 4<=7 by decide)),b37,p.kp,m37⟩ ⟨(G51.mono (show 4<=7 by decide)),b51,y.kp,m51⟩ ⟨(G49.mono (show 1<=7 by decide)),b49,t.kp,m49⟩ ⟨(G47.mono (show 1<=7 by decide)),b47,r.kp,m47⟩ ⟨G55,b55,l.kp,m55⟩ d c);have G57:=ap (Ru.VG j HB qJ9 (qB0.mono (show 1<=6 by decide)) qAX mC0 ⟨(G54.mono (show 6<=7 by decide)),b54,z.kp,m54⟩ ⟨G55,b55,l.kp,m55⟩);have G58:=ap (XR.V0 U d);have G59:=ap (CJ.Ux b c);have G60:=ap (CJ.V6 F60 ⟨G59,b59,b.kp,m59⟩ c);have G61:=ap (CJ.R0 v ⟨G2,b2,k2,m2⟩ ⟨G60,b60,F60.kp,m60⟩ i d);have G62:=ap (Qu W b62 m62);have G63:=ap (mj.Qy F63 ⟨G2,b2,k2,m2⟩ i qAK);have G64:=ap (CJ.Qh F64 ⟨(G2.mono (show 2<=3 by decide)),b2,k2,m2⟩ ⟨(G59.mono (show 1<=3 by decide)),b59,b.kp,m59⟩ ⟨G61,b61,v.kp,m61⟩ ⟨(G1.mono (show 1<=3 by decide)),b1,F1.kp,m1⟩ i c d);have G65:=ap (CJ.Qw F65 ⟨(G2.mono (show 2<=3 by decide)),b2,k2,m2⟩ ⟨G62,b62,W.kp,m62⟩ ⟨G61,b61,v.kp,m61⟩ i c d Va);have G66:=ap (CJ.R4 F66 ⟨(G2.mono (show 2<=4 by decide)),b2,k2,m2⟩ ⟨(G1.mono (show 1<=4 by decide)),b1,F1.kp,m1⟩ ⟨(G59.mono (show 1<=4 by decide)),b59,b.kp,m59⟩ ⟨(G63.mono (show 3<=4 by decide)),b63,F63.kp,m63⟩ ⟨G64,b64,F64.kp,m64⟩ ⟨G65,b65,F65.kp,m65⟩ i d);have qJG:=ap (wH.Uv qB3 Cv jh iD gH ⟨G28,b28,F28.kp,m28⟩ ⟨(G56.mono (show 8<=26 by decide)),b56,m.kp,m56⟩ c);have qJF:=ap (wH.V3 Xd Cv gH vY);have qJE:=ap (wH.Ur Xb Cv iD);have qJD:=ap (wH.Qm Xa Cv jh iD ⟨G58,b58,U.kp,mLS⟩);have qAZ:=ap (wH.qC0 Xc Cv jh iD (Bh w.params) (Mp w.params) mC2 (qJC.mono (show 1<=7 by decide)).cx qIN ⟨(G9.mono (show 1<=8 by decide)),b9,k9,m9⟩ ⟨G57,b57,j.kp,m57⟩);have qM0:=Ru.Ez (P:=PW) (w:=w) (base:=base) (mg:=mg) g A C uN d qF7 Va qCE vY c i;have E:=qM0 4;have G68:=ap (V4 Y ⟨G2,b2,k2,m2⟩ ⟨(G1.mono (show 1<=2 by decide)),b1,F1.kp,m1⟩);have G69:=ap (Ln T Cv qAQ qAZ qAW ⟨(E.mono (show 4<=9 by decide)),A,g.kp,C⟩ mC2 mC3 mC4 mC5 mC6 mC7 mC8 mC9 uN Gf (Ml w.params) (Gy w.params) (Mm w.params) (Bg w.params) (fV2 w.params) (fV1 w.params) (fV3 w.params));have G70:=ap (Qg F70 Cv qFC (qJE.mono (show 1<=4 by decide)) qIP qFB (qJD.mono (show 2<=4 by decide)) qIO ⟨E,A,g.kp,C⟩ d);exact qC3 (m':=27) F71 Cv qLZ qJG qIR mC1 qFD (qJF.mono (show 1<=28 by decide)) qIQ qAQ (qAZ.mono (show 9<=28 by decide)) qAW ⟨(G66.mono (show 5<=28 by decide)),b66,F66.kp,m66⟩ ⟨(G56.mono (show 8<=28 by decide)),b56,m.kp,m56⟩ ⟨(G57.mono (show 8<=28 by decide)),b57,j.kp,m57⟩ ⟨(E.mono (show 4<=28 by decide)),A,g.kp,C⟩ ⟨(G70.mono (show 5<=28 by decide)),b70,F70.kp,m70⟩ ⟨(G2.mono (show 2<=28 by decide)),b2,k2,m2⟩ ⟨(G68.mono (show 3<=28 by decide)),b68,Y.kp,m68⟩ ⟨(G69.mono (show 10<=28 by decide)),b69,T.kp,m69⟩ Va c qAK i
def walk:PySem.W.WalkO QV LS (PySem.W.XL QV []) HK.says PySem.Challenge.rw_nesthall_k30_a_nest_keeps_its_stand.row.toRowW Mu [] (fun f vs=>PySem.call f vs):=by
 refine L2.Xz (l:=PySem.Challenge.rw_nesthall_k30_a_nest_keeps_its_stand) (n:=63) (k:=29) (x := "_law_script") (K:=KO) (CX:=fun _=>aN) (sp:=fun w=>Tg (KO w.params)) rfl (by decide) rfl ⟨rfl,by decide,by decide⟩ (fun w h Y=>Y) ?_ (fun _ _ a ns b _ B=>⟨a,ns,rfl,B,b,fun _=>rfl⟩) fun _ _ _ _ _ z=>z;intro w _ _ h X G H;have e:=H.symm.trans (cE X G (a71 w.params))
 cases e
 exact⟨ZZ,fun s v=>.of_eq rfl,fun _ _ _=>law_ok X G⟩
end wH
open PySem PySem.W PyProof.Rows
theorem PySem.Challenge.cw_nesthall_k30_a_nest_keeps_its_stand_holds : PySem.Challenge.rw_nesthall_k30_a_nest_keeps_its_stand.Holds := by
 refine holds_law wH.said fun said=>?_;refine PySem.W.holds_open (r:=PySem.Challenge.rw_nesthall_k30_a_nest_keeps_its_stand.row) wH.left wH.HK.of wH.HK.keeps
  (fun s e=>xl_of s (dP.mp e).1) XL.keeps wH.hdef wH.hthe wH.hkw
  (fun s e=>recFacts_of (dP.mp e).2) rfl said wH.hok wH.hbare ?hw wH.walk
 case hw=>w_witness2
