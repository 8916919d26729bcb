import PyProof.Rows.All
import Wide.All
import OpenK.AllK
import Wide.FinOn
import Lean
import PyProof.EqAt
import PyProof.EqKinds
import PyProof.TupleCall
import PySem.Challenge.RW_nesthall_k35_what_is_seen
set_option Elab.async false
set_option linter.all false
set_option maxRecDepth 100000
set_option maxHeartbeats 0
set_option genSizeOf false
set_option genSizeOfSpec false
set_option hygiene false
local macro_rules|`(tactic|ext y)=>`(tactic|(decide +kernel))|`(tactic|ext w)=>`(tactic|(exact⟨by decide,by decide⟩))|`(tactic|ext z)=>`(tactic|(first | exact .inl rfl | exact .inr rfl | assumption))|`(tactic|ext a)=>`(tactic|(apply aJ;intro _ g_))|`(tactic|ext b)=>`(tactic|(apply g_;clear g_))|`(tactic|ext c)=>`(tactic|(refine aK ?_;clear aK;refine bD fun _ aK=>?_))|`(tactic|ext d)=>`(tactic|(intro _ A _ s H _ Q E hr h))|`(tactic|ext e)=>`(tactic|(refine x_1 ?_;clear x_1;refine bD fun _ x_1=>?_))|`(tactic|ext f)=>`(tactic|(refine bD fun _ aK=>?_))|`(tactic|ext g)=>`(tactic|(refine aK ?_;clear aK))
noncomputable section
noncomputable section
abbrev ae:=PySem.Shared
abbrev af:=PySem.FuncData
abbrev ag:=PySem.Program
abbrev ai:=PySem.Around
abbrev av:=PySem.Addr
abbrev ax:=PySem.Value
abbrev ay:=@List
abbrev aE:=@Option
abbrev aI:=PySem.World
abbrev aS:=@PySem.wpAny_bind
abbrev aT:=@PySem.wpAny_pure
abbrev ba:=@of_decide_eq_true
abbrev bb:=@Or.inl
abbrev bg:=@Nat.zero_le
abbrev bo:=@decide_eq_false
abbrev bp:=@decide_eq_true
abbrev bq:=@Nat.le_trans
abbrev br:=@List.map_cons
abbrev bt:=@Ne.symm
abbrev bE:=@of_decide_eq_false
abbrev bP:=@decide_eq_decide
abbrev bS:=@List.append_assoc
abbrev bX:=@PySem.wpAny_mono
abbrev c8:=@False.elim
abbrev c9:=@Int.zero_add
abbrev cb:=@List.length_range
abbrev cf:=@PySem.Heap.get?_update_other
abbrev ck:=@PySem.Heap.get?_update_self
abbrev cm:=@PySem.wpAny_holding
abbrev cn:=@PySem.W.kia_one
abbrev cq:=@PySem.mem_of_lookup
abbrev cy:=@if_neg
abbrev cE:=@if_pos
abbrev cK:=@List.getElem?_set_ne
abbrev cS:=@List.getElem?_set_self
abbrev d0:=@List.length_replicate
abbrev df:=@Bool.and_eq_true_iff
abbrev dy:=@beq_eq_false_iff_ne
abbrev dA:=@List.replicate_succ
abbrev dE:=@True.intro
abbrev dP:=@absurd
abbrev dQ:=@Array.getElem?_eq_some_iff
abbrev dS:=@Bool.and_eq_true
abbrev e7:=@Bool.eq_false_iff
abbrev e9:=@Bool.eq_iff_iff
abbrev eu:=@Bool.false_and
abbrev eA:=@Bool.true_and
abbrev eB:=@PySem.Heap.get?_none_of_le
abbrev eC:=@PySem.Heap.size_push
abbrev eD:=@Int.fdiv_eq_ediv_of_nonneg
abbrev eI:=@Int.toNat_of_nonneg
abbrev eJ:=@List.all_eq_true
abbrev eK:=@List.any_cons
abbrev eL:=@List.any_eq_true
abbrev eM:=@List.any_map
abbrev eP:=@List.append_inj'
abbrev eR:=@List.eq_nil_of_length_eq_zero
abbrev eS:=@List.eraseIdxIfInBounds_toArray
abbrev eT:=@List.filterMap_cons
abbrev eW:=@List.filter_append
abbrev f6:=@List.filter_cons
abbrev f7:=@List.find?_cons
abbrev fb:=@List.flatten_cons
abbrev fe:=@List.foldl_append
abbrev ff:=@List.foldl_cons
abbrev fg:=@List.getElem?_eq_none
abbrev fh:=@List.length_drop
abbrev fi:=@List.length_nil
abbrev fk:=@List.length_set
abbrev fm:=@List.lookup_cons
abbrev fo:=@List.map_map
abbrev fq:=@List.map_nil
abbrev ft:=@List.mem_append_left
abbrev fw:=@List.mem_append_right
abbrev fz:=@List.mem_of_find?_eq_some
abbrev fA:=@List.mem_of_mem_take
abbrev fE:=@List.mem_reverse
abbrev fF:=@List.nodup_cons
abbrev fN:=@List.of_mem_zip
abbrev fR:=@List.pairwise_cons
abbrev fS:=@List.pairwise_iff_getElem
abbrev fT:=@List.pairwise_singleton
abbrev gu:=@List.range_succ
abbrev gy:=@List.replicate_succ'
abbrev gz:=@List.size_toArray
abbrev gE:=@List.take_append_drop
abbrev gL:=@List.take_length
abbrev gN:=@Nat.add_le_add_left
abbrev gS:=@Nat.add_mul
abbrev gT:=@Nat.add_zero
abbrev gX:=@Nat.div_add_mod
abbrev hJ:=@Nat.div_eq_of_lt
abbrev hU:=@Nat.le_of_lt
abbrev hV:=@Nat.le_succ
abbrev i0:=@Nat.lt_irrefl
abbrev ia:=@Nat.lt_of_le_of_lt
abbrev ib:=@Nat.lt_succ_of_lt
abbrev ic:=@Nat.lt_succ_self
abbrev ij:=@Nat.min_eq_left
abbrev ip:=@Nat.mod_eq_of_lt
abbrev ix:=@Nat.mod_lt
abbrev iA:=@Nat.mul_add_div
abbrev iE:=@Nat.mul_add_mod
abbrev iF:=@Nat.mul_comm
abbrev iL:=@Nat.mul_le_mul_right
abbrev iN:=@Nat.ne_of_gt
abbrev iO:=@Nat.one_mul
abbrev iP:=@Nat.sub_self
abbrev iS:=@Nat.zero_add
abbrev iX:=@Nat.zero_mul
abbrev jv:=@Option.isSome_iff_exists
abbrev jI:=@Option.map_eq_some_iff
abbrev jS:=@Option.map_some
abbrev kb:=@PyProof.Rows.boot_any
abbrev kc:=@PyProof.Rows.boot_list
abbrev ke:=@PyProof.Rows.boot_sorted
abbrev kf:=@PyProof.Rows.callWith_type1
abbrev kg:=@PyProof.Rows.slot_tuple_getitem
abbrev ki:=@PySem.F.args_dict_get_2
abbrev kn:=@PySem.F.args_tuple_add_2
abbrev kq:=@PySem.F.entry_dict_get
abbrev kr:=@PySem.F.entry_tuple_add
abbrev ku:=@PySem.F.excBase_ValueError
abbrev kx:=@PySem.F.plainAttrs_dict
abbrev ky:=@PySem.F.slot_dict_get
abbrev kz:=@PySem.F.slot_dict_setdefault
abbrev kB:=@PySem.F.slot_list_extend
abbrev kC:=@PySem.F.slot_tuple_add
abbrev kD:=@PySem.F.type_list_extend
abbrev cL:=PySem.W.Frag
abbrev j8:=@PySem.Heap.get?_push_of_some
abbrev iU:=@PySem.Heap.lt_size
abbrev zr:=@PySem.Heap.get?_push_size
abbrev vY:=@List.getElem?_append_left
abbrev R0:=@List.getElem?_append_right
abbrev wO:=@List.mem_cons_self
abbrev zp:=@List.mem_of_getElem?
abbrev zm:=@Nat.lt_of_lt_of_le
abbrev lO:=@Nat.ne_of_lt
abbrev Fj:=@List.mem_cons_of_mem
abbrev bU:=@PySem.boot_len
abbrev il:=@PySem.F.plainAttrs_list
abbrev rO:=@PySem.F.slot_list_append
abbrev rN:=@PySem.F.type_list_append
abbrev nF:=@PyProof.Rows.boot_tuple
abbrev R1:=@PyProof.Rows.boot_isinstance
abbrev qe:=@Int.emod_nonneg
abbrev rM:=@Int.emod_lt_of_pos
abbrev Oq:=@List.getElem?_range
abbrev bh:=@List.length_map
abbrev gM:=@List.getElem?_eq_getElem
abbrev dj:=@List.length_append
abbrev bN:=@Nat.le_refl
abbrev fO:=@List.getElem?_eq_some_iff
abbrev Aa:=@List.size_toArray
abbrev qg:=@Bool.false_ne_true
abbrev jX:=@Option.some.inj
abbrev iz:=@List.map_append
abbrev vK:=@List.take_of_length_le
abbrev bJ:=@List.mem_singleton
abbrev jU:=@List.getD_eq_getElem?_getD
abbrev cY:=@List.length_cons
abbrev iW:=@List.length_take
abbrev iV:=@List.take_add_one
abbrev gK:=@List.length_singleton
abbrev bL:=@List.mem_cons
abbrev iB:=@List.append_nil
abbrev cH:=@List.mem_append
abbrev dU:=@List.mem_map
abbrev dD:=@List.getElem?_map
abbrev uN:=@List.length_filter_le
abbrev jT:=@List.getElem_mem
abbrev nH:=@List.mem_filter
abbrev JT:=@Int.toNat_natCast
abbrev KI(K:PySem.W.Frag)(a:PySem.Addr):Prop:=PySem.W.keepIn K (.ref a)=true
namespace L2
open PySem
def inClass(s:Stmt)(j:Nat):Stmt:=match s with
 | .ClassDef _ _ _ body _ _ _ _ _ _ _=>body.getD j (.Pass ⟨0,0,0,0⟩)
 | _=>.Pass ⟨0,0,0,0⟩
def qD(s:Stmt):Arguments:=match s with
 | .FunctionDef _ a _ _ _ _ _ _ _ _=>a
 | _=>{ posonlyargs:=[],args:=[],vararg:=none,kwonlyargs:=[],kw_defaults:=[],kwarg:=none,defaults:=[] }
def iy(s:Stmt):ay Stmt:=match s with
 | .FunctionDef _ _ b _ _ _ _ _ _ _=>b
 | _=>[]
def aC(s:Stmt):Scope:=match s with
 | .FunctionDef _ _ _ _ _ _ sc _ _ _=>sc
 | _=>{ kind:=.function,names:=[],isGenerator:=false,isCoroutine:=false }
end L2
namespace qH
open PySem L2
def top(i:Nat):Stmt:=PySem.Challenge.pw_nesthall_k35_what_is_seen.main.body.getD i (.Pass ⟨0,0,0,0⟩)
abbrev w6:Stmt:=top 1
abbrev Dv:Stmt:=top 2
abbrev Ga:Stmt:=top 3
abbrev wA:Stmt:=top 4
abbrev pN:Stmt:=top 5
abbrev xO:Stmt:=top 7
abbrev Ml:Stmt:=top 8
abbrev sIn:Stmt:=top 9
abbrev Rp:Stmt:=top 10
abbrev sX:Stmt:=top 14
abbrev pM:Stmt:=top 15
abbrev Mp:Stmt:=top 16
abbrev oE:Stmt:=top 18
abbrev sY:Stmt:=top 20
abbrev kW:Stmt:=top 21
abbrev sW:Stmt:=top 22
abbrev sV:Stmt:=top 23
abbrev xM:Stmt:=top 25
abbrev wB:Stmt:=top 26
abbrev sU:Stmt:=top 27
abbrev xN:Stmt:=top 28
abbrev jC:Stmt:=top 30
abbrev jB:Stmt:=top 31
abbrev iC:Stmt:=top 32
abbrev pK:Stmt:=top 33
abbrev oA:Stmt:=top 34
abbrev fV:Stmt:=top 35
abbrev Dm:Stmt:=top 36
abbrev nu:Stmt:=top 38
abbrev rn:Stmt:=top 39
abbrev w5:Stmt:=top 40
abbrev xJ:Stmt:=top 41
abbrev Dq:Stmt:=top 47
abbrev xK:Stmt:=top 48
abbrev xH:Stmt:=top 49
abbrev Dn:Stmt:=top 51
abbrev uZ:Stmt:=top 52
abbrev Mq:Stmt:=top 54
abbrev Du:Stmt:=top 55
abbrev sI:Stmt:=top 56
abbrev sO:Stmt:=top 57
abbrev pL:Stmt:=top 58
abbrev j5:Stmt:=top 59
abbrev lY:Stmt:=top 60
abbrev Dt:Stmt:=top 61
abbrev kJ:Stmt:=top 62
abbrev kO:Stmt:=top 63
abbrev Dr:Stmt:=top 64
abbrev lZ:Stmt:=top 65
abbrev sG:Stmt:=top 66
abbrev sE:Stmt:=top 67
abbrev sJ:Stmt:=top 68
abbrev dX:Stmt:=top 69
abbrev qW:Stmt:=top 70
abbrev Mm:Stmt:=inClass (top 12) 0
abbrev Wi:Stmt:=inClass (top 12) 1
abbrev Ds:Stmt:=inClass (top 12) 2
abbrev sS:Stmt:=inClass (top 12) 3
abbrev fW:Stmt:=inClass (top 44) 0
abbrev iu:Stmt:=inClass (top 46) 0
abbrev fX:Stmt:=inClass (top 46) 1
abbrev qCU:Str := "_law_near"
end qH
namespace Av
open PySem L2 qH
def eQ(x q:Str)(st:Stmt)(pm cd:ax):af:=PySem.W.fnOf x q (qD st) (iy st) (aC st) .none .none .none pm none cd .none
def eZ(d:af):Obj:=⟨.type "function",none,.func d,#[]⟩
def n0_:PySem.Value:=.str "law_nesthall_k35_what_is_seen" 672
def n1_:PySem.Value:=.str "nesthall.doors" 374
def n2_:PySem.Value:=.str "nesthall.nesting" 187
def n3_:PySem.Value:=.str "nesthall.goings" 234
def n4_:PySem.Value:=.str "nesthall.stands" 413
def n5_:PySem.Value:=.str "nesthall.deeds" 325
def n6_:PySem.Value:=.str "nesthall.passing" 449
def n7_:PySem.Value:=.str "nesthall.runs" 511
def n8_:PySem.Value:=.str "nesthall.tables" 587
def n9_:PySem.Value:=.str "nesthall.letters" 271
def fd1:af:=eQ "_law_cell_at" "_law_cell_at" Mq n0_ (.ref 345)
def fd2:af:=eQ "_law_mixed" "_law_mixed" Du n0_ (.ref 352)
def fd3:af:=eQ "holds" "holds" oE (.str "nesthall.guards" 362) (.ref 140)
def fd4:af:=eQ "answers" "answers" sY n1_ (.ref 147)
def fd5:af:=eQ "end_of" "end_of" Dv n2_ (.ref 27)
def fd6:af:=eQ "parent" "parent" w6 n2_ (.ref 20)
def fd7:af:=eQ "lies_in" "lies_in" wA n2_ (.ref 39)
def fd8:af:=eQ "hall_over" "hall_over" pN n2_ (.ref 46)
def fd9:af:=eQ "kids" "kids" Ga n2_ (.ref 32)
def qFS:af:=eQ "bears_goal" "bears_goal" xO n3_ (.ref 51)
def qFR:af:=eQ "next_in" "next_in" Ml n3_ (.ref 58)
def qFQ:af:=eQ "goings_in" "goings_in" sIn n3_ (.ref 65)
def qFP:af:=eQ "goings_out" "goings_out" Rp n3_ (.ref 70)
def qFO:af:=eQ "plain_ones" "plain_ones" xM n4_ (.ref 169)
def qFN:af:=eQ "kept_of" "kept_of" wB n4_ (.ref 176)
def qFM:af:=eQ "keeping" "keeping" sU n4_ (.ref 183)
def qFL:af:=eQ "is_outdone" "is_outdone" kW n1_ (.ref 152)
def qFK:af:=eQ "chosen" "chosen" sW n1_ (.ref 157)
def qFJ:af:=eQ "changed" "changed" sX n5_ (.ref 119)
def qFI:af:=eQ "recorded" "recorded" pM n5_ (.ref 126)
def qFH:af:=eQ "done" "done" Mp n5_ (.ref 133)
def qFG:af:=eQ "sizes_of" "sizes_of" jC n6_ (.ref 193)
def qFF:af:=eQ "rooms_left" "rooms_left" fV n6_ (.ref 220)
def qFE:af:=eQ "steps_in" "steps_in" jB n6_ (.ref 198)
def qFD:af:=eQ "steps_out" "steps_out" iC n6_ (.ref 203)
def qFC:af:=eQ "stepped" "stepped" pK n6_ (.ref 210)
def qFB:af:=eQ "goals_of" "goals_of" sV n1_ (.ref 164)
def qFA:af:=eQ "passed" "passed" oA n6_ (.ref 215)
def qF9:af:=eQ "turn" "turn" Dm n6_ (.ref 227)
def qF8:af:=eQ "rested" "rested" nu n7_ (.ref 232)
def qF7:af:=eQ "begun" "begun" rn n7_ (.ref 237)
def qF6:af:=eQ "after" "after" w5 n7_ (.ref 244)
def qF5:af:=eQ "said" "said" xJ n7_ (.ref 249)
def qF4:af:=eQ "lamps" "lamps" xN n4_ (.ref 188)
def qF3:af:=eQ "move" "move" Dq n8_ (.ref 316)
def qF2:af:=eQ "flat" "flat" xK n8_ (.ref 321)
def qF1:af:=eQ "note" "note" Dn (.str "nesthall.sights" 654) (.ref 333)
def qF0:af:=eQ "seen" "seen" uZ (.str "nesthall.sights" 654) (.ref 338)
def qEZ:af:=eQ "_law_name" "_law_name" sI n0_ (.ref 359)
def qEY:af:=eQ "_law_deed" "_law_deed" sO n0_ (.ref 366)
def qEX:af:=eQ "_law_deeds" "_law_deeds" pL n0_ (.ref 373)
def qEW:af:=eQ "_law_guard" "_law_guard" j5 n0_ (.ref 380)
def qEV:af:=eQ "_law_depths" "_law_depths" lY n0_ (.ref 387)
def qEU:af:=eQ "_law_rooms" "_law_rooms" Dt n0_ (.ref 394)
def qET:af:=eQ "_law_doors" "_law_doors" kJ n0_ (.ref 399)
def qES:af:=eQ "_law_chart" "_law_chart" kO n0_ (.ref 404)
def qER:af:=eQ "ways" "ways" xH n8_ (.ref 326)
def qEQ:af:=eQ "_law_whole" "_law_whole" Dr n0_ (.ref 411)
def qEP:af:=eQ "_law_behind" "_law_behind" lZ n0_ (.ref 418)
def qEO:af:=eQ "_law_note" "_law_note" sG n0_ (.ref 425)
def qEN:af:=eQ "_law_told" "_law_told" sE n0_ (.ref 432)
def qEM:af:=eQ "_law_flat" "_law_flat" sJ n0_ (.ref 439)
def qEL:af:=eQ "_law_seen_refused" "_law_seen_refused" dX n0_ (.ref 446)
def YJ:af:=eQ "law" "law" qW n0_ (.ref 451)
def Uw:af:=eQ "__init__" "Letters.__init__" Mm n9_ (.ref 84)
def Uv:af:=eQ "add" "Letters.add" Wi n9_ (.ref 91)
def Uu:af:=eQ "taken" "Letters.taken" Ds n9_ (.ref 98)
def Ut:af:=eQ "waiting" "Letters.waiting" sS n9_ (.ref 105)
def Us:af:=eQ "__init__" "Finds.__init__" iu n8_ (.ref 295)
def Ur:af:=eQ "row_of" "Finds.row_of" fX n8_ (.ref 302)
noncomputable def Uq:af:=eQ "__init__" "TooWide.__init__" fW (.str "nesthall.errors" 542) (.ref 276)
def kE(P:Params)(x:Str)(n:Nat)(v:ax):DictEntry:=⟨PyData.keyHash P x,.str x n,v⟩
noncomputable def cO(x q:Str)(a:Nat)(l n:Int)(r:Nat)(k:Int):Obj:=⟨.type "code",none,.fields #[.str x a,.str q (a+1),.str "/claim/cut.py" (a+2),.int l 0,.int n 0,.int 0 0,.int 0 0,.int 3 0,.ref r,.bool true,.int 181 0,.ref (r+1),.none,.ref (r+2),.ref (r+3),.ref (r+4),.int k 0,.int l 0,.str "/claim/cut.py" (k.toNat+1)],#[]⟩
noncomputable def cN(x q:Str)(a:Nat)(l n:Int)(r:Nat)(k:Int):Obj:=⟨.type "code",none,.fields #[.str x a,.str q (a+1),.str "/claim/cut.py" (a+2),.int l 0,.int n 0,.int 0 0,.int 0 0,.int 3 0,.ref r,.bool true,.int 181 0,.ref (r+1),.none,.none,.none,.ref (r+2),.int k 0,.int l 0,.str "/claim/cut.py" (k.toNat+1)],#[]⟩
noncomputable def KO(P:Params):cL:=[
 (3,⟨.type "dict",none,.dict #[kE P "__name__" 165 (.str "law_nesthall_k35_what_is_seen" 672),kE P "__doc__" 166 .none,kE P "__package__" 167 .none,kE P "__loader__" 168 (.builtin "__main__.__loader__#opaque"),kE P "__spec__" 169 .none,kE P "__annotations__" 170 (.ref 6),kE P "__builtins__" 171 (.ref 4),kE P "__file__" 173 (.str "/claim/cut.py" 172),kE P "__cached__" 174 .none,kE P "parent" 198 (.ref 21),kE P "end_of" 208 (.ref 28),kE P "kids" 214 (.ref 33),kE P "lies_in" 223 (.ref 40),kE P "hall_over" 233 (.ref 47),kE P "bears_goal" 241 (.ref 52),kE P "next_in" 252 (.ref 59),kE P "goings_in" 264 (.ref 66),kE P "goings_out" 270 (.ref 71),kE P "Letters" 324 (.ref 109),kE P "changed" 338 (.ref 120),kE P "recorded" 348 (.ref 127),kE P "done" 361 (.ref 134),kE P "holds" 373 (.ref 141),kE P "answers" 389 (.ref 148),kE P "is_outdone" 395 (.ref 153),kE P "chosen" 401 (.ref 158),kE P "goals_of" 412 (.ref 165),kE P "plain_ones" 420 (.ref 170),kE P "kept_of" 430 (.ref 177),kE P "keeping" 442 (.ref 184),kE P "lamps" 448 (.ref 189),kE P "sizes_of" 456 (.ref 194),kE P "steps_in" 462 (.ref 199),kE P "steps_out" 468 (.ref 204),kE P "stepped" 483 (.ref 211),kE P "passed" 489 (.ref 216),kE P "rooms_left" 495 (.ref 221),kE P "turn" 510 (.ref 228),kE P "rested" 518 (.ref 233),kE P "begun" 524 (.ref 238),kE P "after" 535 (.ref 245),kE P "said" 541 (.ref 250),kE P "NestError" 561 (.ref 260),kE P "TooWide" 586 (.ref 280),kE P "Finds" 630 (.ref 306),kE P "move" 641 (.ref 317),kE P "flat" 647 (.ref 322),kE P "ways" 653 (.ref 327),kE P "note" 665 (.ref 334),kE P "seen" 671 (.ref 339),kE P "_law_cell_at" 681 (.ref 346),kE P "_law_mixed" 693 (.ref 353),kE P "_law_name" 703 (.ref 360),kE P "_law_deed" 715 (.ref 367),kE P "_law_deeds" 730 (.ref 374),kE P "_law_guard" 742 (.ref 381),kE P "_law_depths" 752 (.ref 388),kE P "_law_rooms" 770 (.ref 395),kE P "_law_doors" 776 (.ref 400),kE P "_law_chart" 782 (.ref 405),kE P "_law_whole" 789 (.ref 412),kE P "_law_behind" 798 (.ref 419),kE P "_law_note" 809 (.ref 426),kE P "_law_told" 819 (.ref 433),kE P "_law_flat" 829 (.ref 440),kE P "_law_seen_refused" 838 (.ref 447),kE P "law" 844 (.ref 452)] 67,#[]⟩),
 (345,cO "_law_cell_at" "_law_cell_at" 674 300 2 340 679),
 (346,eZ fd1),
 (352,cO "_law_mixed" "_law_mixed" 682 304 3 347 691),
 (353,eZ fd2),
 (140,cO "holds" "holds" 364 96 3 135 371),
 (141,eZ fd3),
 (147,cO "answers" "answers" 376 112 3 142 387),
 (148,eZ fd4),
 (27,cO "end_of" "end_of" 199 8 2 22 206),
 (28,eZ fd5),
 (20,cO "parent" "parent" 189 2 2 15 196),
 (21,eZ fd6),
 (39,cO "lies_in" "lies_in" 215 17 3 34 221),
 (40,eZ fd7),
 (46,cO "hall_over" "hall_over" 224 19 3 41 231),
 (47,eZ fd8),
 (32,cN "kids" "kids" 209 14 2 29 212),
 (33,eZ fd9),
 (51,cN "bears_goal" "bears_goal" 236 27 3 48 239),
 (52,eZ qFS),
 (58,cO "next_in" "next_in" 242 30 3 53 250),
 (59,eZ qFR),
 (65,cO "goings_in" "goings_in" 253 38 3 60 262),
 (66,eZ qFQ),
 (70,cN "goings_out" "goings_out" 265 46 3 67 268),
 (71,eZ qFP),
 (169,cN "plain_ones" "plain_ones" 415 138 2 166 418),
 (170,eZ qFO),
 (176,cO "kept_of" "kept_of" 421 140 3 171 428),
 (177,eZ qFN),
 (183,cO "keeping" "keeping" 431 145 4 178 440),
 (184,eZ qFM),
 (152,cN "is_outdone" "is_outdone" 390 120 3 149 393),
 (153,eZ qFL),
 (157,cN "chosen" "chosen" 396 125 3 154 399),
 (158,eZ qFK),
 (119,cO "changed" "changed" 327 72 3 114 336),
 (120,eZ qFJ),
 (126,cO "recorded" "recorded" 339 81 3 121 346),
 (127,eZ qFI),
 (133,cO "done" "done" 349 88 4 128 359),
 (134,eZ qFH),
 (193,cN "sizes_of" "sizes_of" 451 154 1 190 454),
 (194,eZ qFG),
 (220,cN "rooms_left" "rooms_left" 490 186 1 217 493),
 (221,eZ qFF),
 (198,cN "steps_in" "steps_in" 457 156 2 195 460),
 (199,eZ qFE),
 (203,cN "steps_out" "steps_out" 463 158 2 200 466),
 (204,eZ qFD),
 (210,cO "stepped" "stepped" 469 160 4 205 481),
 (211,eZ qFC),
 (164,cO "goals_of" "goals_of" 402 129 3 159 410),
 (165,eZ qFB),
 (215,cN "passed" "passed" 484 169 4 212 487),
 (216,eZ qFA),
 (227,cO "turn" "turn" 496 188 4 222 508),
 (228,eZ qF9),
 (232,cN "rested" "rested" 513 200 4 229 516),
 (233,eZ qF8),
 (237,cN "begun" "begun" 519 211 1 234 522),
 (238,eZ qF7),
 (244,cO "after" "after" 525 219 3 239 533),
 (245,eZ qF6),
 (249,cN "said" "said" 536 223 1 246 539),
 (250,eZ qF5),
 (188,cN "lamps" "lamps" 443 151 2 185 446),
 (189,eZ qF4),
 (316,cO "move" "move" 631 252 4 311 639),
 (317,eZ qF3),
 (321,cN "flat" "flat" 642 255 2 318 645),
 (322,eZ qF2),
 (333,cO "note" "note" 656 278 3 328 663),
 (334,eZ qF1),
 (338,cN "seen" "seen" 666 282 2 335 669),
 (339,eZ qF0),
 (359,cO "_law_name" "_law_name" 694 311 2 354 701),
 (360,eZ qEZ),
 (366,cO "_law_deed" "_law_deed" 704 315 3 361 713),
 (367,eZ qEY),
 (373,cO "_law_deeds" "_law_deeds" 716 330 5 368 728),
 (374,eZ qEX),
 (380,cO "_law_guard" "_law_guard" 731 337 4 375 740),
 (381,eZ qEW),
 (387,cO "_law_depths" "_law_depths" 743 353 2 382 750),
 (388,eZ qEV),
 (394,cO "_law_rooms" "_law_rooms" 753 358 4 389 768),
 (395,eZ qEU),
 (399,cN "_law_doors" "_law_doors" 771 376 5 396 774),
 (400,eZ qET),
 (404,cN "_law_chart" "_law_chart" 777 396 1 401 780),
 (405,eZ qES),
 (326,cN "ways" "ways" 648 265 1 323 651),
 (327,eZ qER),
 (411,cO "_law_whole" "_law_whole" 783 414 1 406 787),
 (412,eZ qEQ),
 (418,cO "_law_behind" "_law_behind" 790 416 2 413 796),
 (419,eZ qEP),
 (425,cO "_law_note" "_law_note" 799 423 4 420 807),
 (426,eZ qEO),
 (432,cO "_law_told" "_law_told" 810 429 2 427 817),
 (433,eZ qEN),
 (439,cO "_law_flat" "_law_flat" 820 442 2 434 827),
 (440,eZ qEM),
 (446,cO "_law_seen_refused" "_law_seen_refused" 830 448 2 441 836),
 (447,eZ qEL),
 (451,cN "law" "law" 839 454 1 448 842),
 (452,eZ YJ),
 (109,⟨.type "type",none,.cls ⟨"Letters",[.type "object"],[.ref 109,.type "object"],108,"Letters",true,[],[],false,none,false⟩,#[none,none,some (.str "Letters" 273),some (.str "Letters" 281),some (.builtin "object.__new__"),some (.bool true)]⟩),
 (108,⟨.type "dict",none,.dict #[kE P "__module__" 280 (.str "nesthall.letters" 271),kE P "__firstlineno__" 284 (.int (52) 283),kE P "__init__" 292 (.ref 85),kE P "add" 300 (.ref 92),kE P "taken" 307 (.ref 99),kE P "waiting" 314 (.ref 106),kE P "__static_attributes__" 317 (.ref 107),kE P "__dict__" 319 (.ref 110),kE P "__weakref__" 321 (.ref 111),kE P "__doc__" 322 .none] 4,#[]⟩),
 (84,cO "__init__" "Letters.__init__" 285 54 2 79 290),
 (85,eZ Uw),
 (91,cO "add" "Letters.add" 293 58 2 86 298),
 (92,eZ Uv),
 (98,cO "taken" "Letters.taken" 301 64 1 93 305),
 (99,eZ Uu),
 (105,cO "waiting" "Letters.waiting" 308 69 1 100 312),
 (106,eZ Ut),
 (306,⟨.type "type",none,.cls ⟨"Finds",[.type "object"],[.ref 306,.type "object"],305,"Finds",true,[],[],false,none,false⟩,#[none,none,some (.str "Finds" 589),some (.str "Finds" 597),some (.builtin "object.__new__"),some (.bool true)]⟩),
 (305,⟨.type "dict",none,.dict #[kE P "__module__" 596 (.str "nesthall.tables" 587),kE P "__firstlineno__" 600 (.int (234) 599),kE P "__init__" 608 (.ref 296),kE P "row_of" 618 (.ref 303),kE P "__static_attributes__" 623 (.ref 304),kE P "__dict__" 625 (.ref 307),kE P "__weakref__" 627 (.ref 308),kE P "__doc__" 628 .none] 4,#[]⟩),
 (295,cO "__init__" "Finds.__init__" 601 236 2 290 606),
 (296,eZ Us),
 (302,cO "row_of" "Finds.row_of" 609 242 3 297 616),
 (303,eZ Ur),
 (280,⟨.type "type",none,.cls ⟨"TooWide",[.ref 260],[.ref 280,.ref 260,.type "ValueError",.type "Exception",.type "BaseException",.type "object"],279,"TooWide",true,[],[],false,none,false⟩,#[some (.ref 264),none,some (.str "TooWide" 562),some (.str "TooWide" 570),some (.builtin "ValueError.__new__"),some (.bool true)]⟩),
 (279,⟨.type "dict",none,.dict #[kE P "__module__" 569 (.str "nesthall.errors" 542),kE P "__firstlineno__" 573 (.int (228) 572),kE P "__init__" 581 (.ref 277),kE P "__static_attributes__" 583 (.ref 278),kE P "__doc__" 584 .none] 2,#[]⟩),
 (276,cO "__init__" "TooWide.__init__" 574 230 2 271 579),
 (277,eZ Uq),
 (260,⟨.type "type",none,.cls ⟨"NestError",[.type "ValueError"],[.ref 260,.type "ValueError",.type "Exception",.type "BaseException",.type "object"],259,"NestError",true,[],[.ref 280],false,none,false⟩,#[some (.ref 251),none,some (.str "NestError" 544),some (.str "NestError" 552),some (.builtin "ValueError.__new__"),some (.bool true)]⟩),
 (259,⟨.type "dict",none,.dict #[kE P "__module__" 551 (.str "nesthall.errors" 542),kE P "__firstlineno__" 555 (.int (226) 554),kE P "__static_attributes__" 556 (.ref 258),kE P "__weakref__" 558 (.ref 261),kE P "__doc__" 559 .none] 3,#[]⟩),
 (2,⟨.none,none,.dict #[] 0,#[]⟩)]
noncomputable def KA:ay av:=[3,345,346,352,353,140,141,147,148,27,28,20,21,39,40,46,47,32,33,51,52,58,59,65,66,70,71,169,170,176,177,183,184,152,153,157,158,119,120,126,127,133,134,193,194,220,221,198,199,203,204,210,211,164,165,215,216,227,228,232,233,237,238,244,245,249,250,188,189,316,317,321,322,333,334,338,339,359,360,366,367,373,374,380,381,387,388,394,395,399,400,404,405,326,327,411,412,418,419,425,426,432,433,439,440,446,447,451,452,109,108,84,85,91,92,98,99,105,106,306,305,295,296,302,303,280,279,276,277,260,259,2]
def PW:ag:=PySem.Challenge.pw_nesthall_k35_what_is_seen
def QV:ag:=PySem.W.view PW [70]
noncomputable def LS:ay Str:=[Str.ofString "__name__",Str.ofString "parent",Str.ofString "end_of",Str.ofString "kids",Str.ofString "lies_in",Str.ofString "hall_over",Str.ofString "bears_goal",Str.ofString "next_in",Str.ofString "goings_in",Str.ofString "goings_out",Str.ofString "Letters",Str.ofString "changed",Str.ofString "recorded",Str.ofString "done",Str.ofString "holds",Str.ofString "answers",Str.ofString "is_outdone",Str.ofString "chosen",Str.ofString "goals_of",Str.ofString "plain_ones",Str.ofString "kept_of",Str.ofString "keeping",Str.ofString "lamps",Str.ofString "sizes_of",Str.ofString "steps_in",Str.ofString "steps_out",Str.ofString "stepped",Str.ofString "passed",Str.ofString "rooms_left",Str.ofString "turn",Str.ofString "rested",Str.ofString "begun",Str.ofString "after",Str.ofString "said",Str.ofString "NestError",Str.ofString "TooWide",Str.ofString "Finds",Str.ofString "move",Str.ofString "flat",Str.ofString "ways",Str.ofString "note",Str.ofString "seen",Str.ofString "_law_cell_at",Str.ofString "_law_mixed",Str.ofString "_law_name",Str.ofString "_law_deed",Str.ofString "_law_deeds",Str.ofString "_law_guard",Str.ofString "_law_depths",Str.ofString "_law_rooms",Str.ofString "_law_doors",Str.ofString "_law_chart",Str.ofString "_law_whole",Str.ofString "_law_behind",Str.ofString "_law_note",Str.ofString "_law_told",Str.ofString "_law_flat",Str.ofString "_law_seen_refused"]
def HK:PySem.W.Hook:=PySem.W.kHook KO KA fun _=>by kernel_rfl
def qBM:Stmt->Pos
 | .FunctionDef _ _ _ _ _ _ _ _ _ p=>p
 | _=>⟨0,0,0,0⟩
def LR:DefRec:=⟨"law",qD qW,iy qW,aC qW,qBM qW⟩
theorem qCT:PySem.Challenge.rw_nesthall_k35_what_is_seen.row.wellSaid=true:=by kernel_rfl
theorem said:PySem.Challenge.rw_nesthall_k35_what_is_seen.wellSaid=true:=by
 unfold PySem.W.OpenLaw.wellSaid;rw[qCT]
 kernel_rfl
theorem left:PySem.W.LeftO PW QV LS (fun s=>PySem.W.xlAt QV [] s&&PySem.W.recOk [] s) HK.obs HK.val 6656:=fun w=>by kernel_rfl
end Av
namespace L2
open PySem PySem.Spec PyProof.Rows
abbrev Key:=Sum Int Str
noncomputable def CJ:Key->ax->Bool
 | .inl k,v=>Value.isInt k v
 | .inr x,v=>Value.isStrOf x v
def qHO(w:aI):Key->Int
 | .inl k=>hashInt k
 | .inr x=>hashStr w x
theorem cI:∀ {k:Key} {v:ax},CJ k v=true->(∃ i t,k=Sum.inl i/\v=Value.int i t)∨(∃ x t,k=Sum.inr x/\v=Value.str x t)
 | .inl i,v,h=>by
  obtain⟨t,e⟩:=Value.isInt_shape (k:=i) (v:=v) h;exact .inl ⟨i,t,rfl,e⟩
 | .inr x,v,h=>by
  obtain⟨t,e⟩:=Value.isStrOf_shape (x:=x) (v:=v) h;exact .inr ⟨x,t,rfl,e⟩
theorem Q7(i:Int)(t:Tok):CJ (.inl i) (.int i t)=true:=by simp [CJ,Value.isInt]
theorem Q6(x:Str)(t:Tok):CJ (.inr x) (.str x t)=true:=by simp [CJ,Value.isStrOf]
theorem qAZ(a b:Int):decide ((Sum.inl a:Key)=Sum.inl b)=(a==b):=by
 by_cases e:a=b
 .subst e;simp
 .have h:¬ (Sum.inl a:Key)=Sum.inl b:=fun q=>e (Sum.inl.inj q);rw[bo h];exact (dy.mpr e).symm
theorem qAW(a b:Str):decide ((Sum.inr a:Key)=Sum.inr b)=decide (a=b):=by
 by_cases e:a=b
 .subst e;simp
 .have h:¬ (Sum.inr a:Key)=Sum.inr b:=fun q=>e (Sum.inr.inj q);rw[bo h,bo e]
theorem qAY(a:Int)(b:Str):decide ((Sum.inl a:Key)=Sum.inr b)=false:=bo (fun q=>nomatch q)
theorem qAX(a:Str)(b:Int):decide ((Sum.inr a:Key)=Sum.inl b)=false:=bo (fun q=>nomatch q)
def bQ(prog:ag)(w:aI):PySem.KeyKind prog w Key where
 is:=CJ
 hash:=qHO w
 inj:=fun v a b ha hb=>by
  rcases cI ha with ⟨i,t,rfl,rfl⟩ | ⟨x,t,rfl,rfl⟩
  .rcases cI hb with ⟨j,u,rfl,e⟩ | ⟨y,u,rfl,e⟩
   .injection e with e1 _;rw[e1]
   .exact nomatch e
  .rcases cI hb with ⟨j,u,rfl,e⟩ | ⟨y,u,rfl,e⟩
   .exact nomatch e
   .injection e with e1 _;rw[e1]
 byValue:=fun k v h=>by
  rcases cI h with ⟨i,t,rfl,rfl⟩ | ⟨x,t,rfl,rfl⟩ <;> rfl
 pyHash:=fun hv h=>by
  rcases cI hv with ⟨i,t,rfl,rfl⟩ | ⟨x,t,rfl,rfl⟩
  .exact wpAny_pyHash_int h
  .exact wpAny_pyHash_str h
 eqBool:=fun hu hv h=>by
  rcases cI hu with ⟨i,t,rfl,rfl⟩ | ⟨x,t,rfl,rfl⟩
  .rcases cI hv with ⟨j,u,rfl,rfl⟩ | ⟨y,u,rfl,rfl⟩
   .rw[qAZ]at h;exact wpAny_eqBool_int h
   .rw[qAY]at h;exact SeqAt.EqAt.int_str i t y u _ _ _ _ h
  .rcases cI hv with ⟨j,u,rfl,rfl⟩ | ⟨y,u,rfl,rfl⟩
   .rw[qAX]at h;exact SeqAt.EqAt.str_int x t j u _ _ _ _ h
   .rw[qAW]at h;exact wpAny_eqBool_str h
 «strs»:=fun k x t v h=>by
  rcases cI h with ⟨i,u,rfl,e⟩ | ⟨y,u,rfl,e⟩
  .exact nomatch e
  .injection e with e1 _;subst e1
   cases v <;> rfl
theorem Hg(prog:ag)(w:aI)(i:Int)(t:Tok):(bQ prog w).is (.inl i) (.int i t)=true:=Q7 i t
theorem Hf(prog:ag)(w:aI)(x:Str)(t:Tok):(bQ prog w).is (.inr x) (.str x t)=true:=Q6 x t
inductive V where
 | non | bl (b:Bool) | int (i:Int) | str (x:Str) | Qx (b:Array UInt8) | flt (b:UInt64) | ref (a:Addr) | ty (n:String)
 deriving DecidableEq
def RelV:V->ax->Prop
 | .non,u=>u=Value.none
 | .bl b,u=>u=Value.bool b
 | .int i,u => ∃ t,u=Value.int i t
 | .str x,u => ∃ t,u=Value.str x t
 | .Qx b,u => ∃ t,u=Value.bytes b t
 | .flt b,u => ∃ t,u=Value.float b t
 | .ref a,u=>u=Value.ref a
 | .ty n,u=>u=Value.type n
abbrev Vals:ay V->ay ax->Prop:=Paired RelV
theorem Vals.length(r:Vals xs us):xs.length=us.length:=Paired.length r
theorem Vals.get:∀ {xs:ay V} {us:ay ax} {i:Nat} {x:V},Vals xs us->xs[i]? = some x->∃ u,us[i]? = some u/\RelV x u
 | _,_,_,_,.nil,e=>by simp at e
 | _,_,0,_,.cons r _,e=>by simp at e;subst e;exact⟨_,rfl,r⟩
 | _,_,i+1,x,.cons _ t,e=>by
  obtain⟨u,h1,h2⟩:=Vals.get (i:=i) (x:=x) t (by simpa using e);exact⟨u,by simpa using h1,h2⟩
theorem Vals.set(r:RelV x u):∀ {xs:ay V} {us:ay ax} (i:Nat),Vals xs us->Vals (xs.set i x) (us.set i u)
 | _,_,_,.nil=>.nil
 | _,_,0,.cons _ t=>.cons r t
 | _,_,i+1,.cons q t=>.cons q (Vals.set r i t)
theorem Vals.append:∀ {xs ys:ay V} {us ws:ay ax},Vals xs us->Vals ys ws->Vals (xs++ys) (us++ws)
 | _,_,_,_,.nil,s=>s
 | _,_,_,_,.cons r t,s=>.cons r (Vals.append t s)
theorem Vals.take:∀ {xs:ay V} {us:ay ax} (n:Nat),Vals xs us->Vals (xs.take n) (us.take n)
 | _,_,0,_=>.nil
 | _,_,_+1,.nil=>.nil
 | _,_,n+1,.cons r t=>.cons r (Vals.take n t)
theorem Vals.drop:∀ {xs:ay V} {us:ay ax} (n:Nat),Vals xs us->Vals (xs.drop n) (us.drop n)
 | _,_,0,r=>r
 | _,_,_+1,.nil=>.nil
 | _,_,n+1,.cons _ t=>Vals.drop n t
def jr:aE V->aE ax->Prop
 | some v,some u=>RelV v u
 | none,none=>True
 | _,_=>False
def KV{κ:Type}:ay (κ×V)->ay (κ×ax)->Prop:=Paired fun (p:κ×V) (q:κ×ax)=>p.1=q.1/\RelV p.2 q.2
def kV:Key->V
 | .inl i=>.int i
 | .inr x=>.str x
inductive HO where
 | lst (xs:List V)
 | tup (xs:List V)
 | dK (kvs:List (Key×V)) | dT (kvs:List (List Key×V))
 | set (S:Int->Bool) (n:Nat)
 | ins (C dx:Addr) (fs:List (Str×V))
 | own (x:Addr)
 | xd (fs:List (Str×V))
 | met (f x:Addr)
 | JP (lo hi:Int)
 | Ku (o:Obj) (u:HO)
 | Yn (ps:Array Value)
 | ext (φ:Heap->Prop)
abbrev Hp:=av->aE HO
noncomputable def upd(H:Hp)(a:av)(o:HO):Hp:=fun b=>if b=a then some o else H b
theorem zC:upd H a o a=some o:=by unfold upd;rw[cE rfl]
theorem zQ(h:b≠a):upd H a o b=H b:=by unfold upd;rw[cy h]
theorem cJ{H:Hp}{a b:av}{o u:HO}(h:H a=some o)(h':H b=some u)(d:o≠u):a≠b:=by intro e;subst e;rw[h]at h';exact d (jX h')
theorem zM{H:Hp}{a b:av}{o:HO}(h:H a=some o)(h':H b=none):a≠b:=by intro e;subst e;rw[h]at h';cases h'
section
variable(P:ag)(w:aI)
def bW(H:Hp)(h:Heap)(a:av):HO->Prop
 | .lst xs=>xs.length<=sizeLine/\∃(its:ay ax)(n:Nat),Vals xs its/\h.get? a=some { cls:=.type "list",data:=.seq its.toArray n }
 | .tup xs=>xs.length<=sizeLine/\∃ its:ay ax,Vals xs its/\IsTup h a its.toArray
 | .dK kvs=>kvs.length<=sizeLine/\(a==sysModules)=false/\∃ vs,KV kvs vs/\h.DictOf (bQ P w) a vs
 | .dT kvs=>kvs.length<=sizeLine/\(a==sysModules)=false/\∃ xs:ay (ay Key×av×ax),
   Paired (fun (p:ay Key×V) (q:ay Key×av×ax)=>p.1=q.1/\H q.2.1=some (.tup (p.1.map kV))/\RelV p.2 q.2.2) kvs xs ∧
   ∃ o es ep,h.get? a=some o/\o.ExactDict/\o.data = .dict es ep/\es.toList=xs.map (entryOfKey (tupleKind (bQ P w)))/\(xs.map (·.1)).Nodup
 | .set S n=>h.SetOf (intKind P w) a S n
 | .ins C dx fs=>H dx=some (.own a)/\fs.length<=1000/\dx≠a/\h.get? a=some (PySem.W.instObj C dx) ∧
   ∃ mA,h.Ns1 dx mA/\(∀ f,jr (fs.lookup f) (mA f))/\PySem.Within mA (fs.map (·.1))
 | .own _ => ∃ o,h.get? a=some o
 | .xd fs => ∃ mA,h.Ns1 a mA/\∀ f,jr (fs.lookup f) (mA f)
 | .JP lo hi => ∃ t u v,h.get? a=some { cls:=.type "range",data:=.fields #[.int lo t,.int hi u,.int 1 v] }
 | .Ku o u=>h.get? a=some o/\bW H h a u
 | .Yn ps=>h.get? a=some { cls:=.none,data:=.fields ps }
 | .met f x=>h.get? a=some (PySem.W.methodObj (.ref f) (.ref x))
 | .ext φ=>φ h/\(∃ o,h.get? a=some o)/\∀ h1 h2:Heap,φ h1->(∀ o,h1.get? a=some o->h2.get? a=some o)->φ h2
def jO(H:Hp)(h:Heap):Prop:=∀ a o,H a=some o->bW P w H h a o
end
section
variable{P:ag}{w:aI}{H H':Hp}{h h':Heap}{a:av}{o:HO}
theorem bW.lt(x:bW P w H h a o):a<h.objs.size:=by
 cases o with
 | lst xs=>obtain⟨_,_,_,_,e⟩:=x;exact iU e
 | tup xs=>obtain⟨_,_,_,p⟩:=x;exact p.lt
 | dK kvs=>obtain⟨_,_,_,_,o,_,_,e,_⟩:=x;exact iU e
 | dT kvs=>obtain⟨_,_,_,_,o,_,_,e,_⟩:=x;exact iU e
 | set S n=>obtain⟨o,_,_,_,e,_⟩:=x;exact iU e
 | ins C dx fs=>obtain⟨_,_,_,e,_⟩:=x;exact iU e
 | own y=>obtain⟨_,e⟩:=x;exact iU e
 | xd fs=>obtain⟨_,⟨_,_,_,e,_⟩,_⟩:=x;exact iU e
 | JP lo hi=>obtain⟨_,_,_,e⟩:=x;exact iU e
 | Ku ob u=>obtain⟨e,_⟩:=x;exact iU e
 | Yn ps=>exact iU (show h.get? a=some _ from x)
 | met f y=>exact iU (show h.get? a=some _ from x)
 | ext φ=>obtain⟨_,⟨_,e⟩,_⟩:=x;exact iU e
theorem Paired.qAP:∀ {l₁:ay α} {l₂:ay β},Paired F l₁ l₂->(∀ a b,F a b->G a b)->Paired G l₁ l₂
 | _,_,.nil,_=>.nil
 | _,_,.cons r t,f=>.cons (f _ _ r) (Paired.qAP t f)
theorem bW.stay(x:bW P w H h a o)(k:∀ b u,(b=a∨H b=some (.own a))->h.get? b=some u->h'.get? b=some u)
  (ho:∀ b,H b=some (.own a)->H' b=some (.own a)) (ht:∀ b xs,H b=some (.tup xs)->H' b=some (.tup xs)):bW P w H' h' a o:=by
 induction o with
 | lst xs=>obtain⟨z,its,n,r,e⟩:=x;exact⟨z,its,n,r,k _ _ (.inl rfl) e⟩
 | tup xs=>obtain⟨z,its,r,ob,e,c⟩:=x;exact⟨z,its,r,ob,k _ _ (.inl rfl) e,c⟩
 | dK kvs=>obtain⟨z,y,vs,r,ob,es,ep,e,c⟩:=x;exact⟨z,y,vs,r,ob,es,ep,k _ _ (.inl rfl) e,c⟩
 | dT kvs=>
  obtain⟨z,y,xs,r,ob,es,ep,e,c⟩:=x;exact⟨z,y,xs,Paired.qAP r fun p q z=>⟨z.1,ht _ _ z.2.1,z.2.2⟩,ob,es,ep,k _ _ (.inl rfl) e,c⟩
 | set S n=>obtain⟨ob,es,ep,t,e,c⟩:=x;exact⟨ob,es,ep,t,k _ _ (.inl rfl) e,c⟩
 | ins C dx fs=>
  obtain⟨d,z,ne,e,mA,⟨od,es,ep,e2,c⟩,r⟩:=x;exact⟨ho _ d,z,ne,k _ _ (.inl rfl) e,mA,⟨od,es,ep,k _ _ (.inr d) e2,c⟩,r⟩
 | own y=>obtain⟨ob,e⟩:=x;exact⟨ob,k _ _ (.inl rfl) e⟩
 | xd fs=>obtain⟨mA,⟨od,es,ep,e,c⟩,r⟩:=x;exact⟨mA,⟨od,es,ep,k _ _ (.inl rfl) e,c⟩,r⟩
 | JP lo hi=>obtain⟨t,u,v,e⟩:=x;exact⟨t,u,v,k _ _ (.inl rfl) e⟩
 | Ku ob u ih=>obtain⟨e,q⟩:=x;exact⟨k _ _ (.inl rfl) e,ih q⟩
 | Yn ps=>
  have e:h.get? a=some { cls:=.none,data:=.fields ps }:=x;show h'.get? a=some { cls:=.none,data:=.fields ps };exact k a _ (.inl rfl) e
 | met f y=>
  have e:h.get? a=some (PySem.W.methodObj (.ref f) (.ref y)):=x;show h'.get? a=some (PySem.W.methodObj (.ref f) (.ref y));exact k a _ (.inl rfl) e
 | ext φ=>obtain⟨p,⟨o,e⟩,st⟩:=x;exact⟨st _ _ p fun o q=>k _ _ (.inl rfl) q,⟨o,k _ _ (.inl rfl) e⟩,st⟩
theorem jO.lt(x:jO P w H h)(e:H a=some o):a<h.objs.size:=(x a o e).lt
theorem jO.fresh(x:jO P w H h)(e:h.objs.size<=a):H a=none:=by
 cases q:H a with
 | none=>rfl
 | some u=>exact dP (zm (x.lt q) e) (i0 _)
theorem jO.kept(x:jO P w H h)(k:∀ b u,h.get? b=some u->h'.get? b=some u):jO P w H h':=fun a o e=>
 (x a o e).stay (fun b u _ q=>k b u q) (fun _ q=>q) fun _ _ q=>q
theorem jO.laid(x:jO P w H h)(k:∀ b u,h.get? b=some u->h'.get? b=some u)(hp:h.objs.size<=a)(new:bW P w (upd H a o) h' a o):jO P w (upd H a o) h':=fun b u e=>by
 have hn:=x.fresh hp
 by_cases hb:b=a
 .subst hb;rw[zC]at e;cases e;exact new
 .rw[zQ hb]at e
  exact (x b u e).stay (fun c v _ q=>k c v q) (fun c q=>by rw[zQ (zM q hn)];exact q) fun c _ q=>by rw[zQ (zM q hn)];exact q
end
def Rd(H:Hp)(a:av)(u:HO):Prop:=H a=some u ∨ ∃ o,H a=some (.Ku o u)
theorem Rd.ok(r:Rd H a u)(x:jO P w H h):bW P w H h a u:=by
 rcases r with r | ⟨o,r⟩
 .exact x a u r
 .obtain⟨_,q⟩:=x a _ r;exact q
def Mut:aE HO->Prop
 | some (.lst _)=>True
 | some (.dK _)=>True
 | some (.dT _)=>True
 | some (.set _ _)=>True
 | some (.ins _ _ _)=>True
 | some (.ext _)=>True
 | _=>False
section
variable{P:ag}{w:aI}{H:Hp}{h h':Heap}{x e:av}{o':HO}
theorem jO.write(ok:jO P w H h)(mu:Mut (H x))(he:e=x∨H e=some (.own x))(k:∀ b u,b≠e->h.get? b=some u->h'.get? b=some u)(heo:∃ u,h'.get? e=some u)
  (new:bW P w (upd H x o') h' x o'):jO P w (upd H x o') h':=fun b u q=>by
 have qDC:∀ c y,H c=some (.own y)->c≠x:=fun c y r z=>by subst z;rw[r]at mu;exact mu
 have qH7:∀ c xs,H c=some (.tup xs)->c≠x:=fun c xs r z=>by subst z;rw[r]at mu;exact mu
 by_cases hb:b=x
 .subst hb;rw[zC]at q;cases q;exact new
 .rw[zQ hb]at q
  by_cases hbe:b=e
  .have q':H b=some (.own x):=by
    rcases he with z | z
    .exact dP (hbe.trans z) hb
    .rw[hbe];exact z
   rw[q]at q';cases q';obtain⟨v,hv⟩:=heo;exact⟨v,by rw[hbe];exact hv⟩
  .refine (ok b u q).stay (fun c v hc r=>k c v ?_ r) (fun c r=>by rw[zQ (qDC c b r)];exact r) fun c xs r=>by rw[zQ (qH7 c xs r)];exact r
   rcases hc with rfl | hc
   .exact hbe
   .rintro rfl;rcases he with z | z
    .exact qDC c b hc z
    .rw[hc]at z;cases z;exact hb rfl
end
structure Un(fs ex:List Addr)(H H':Hp)(h h':Heap):Prop where
 keep:∀ b o,h.get? b=some o->H b=none->b∉fs->b∉ex->h'.get? b=some o
 slot:∀ b o,h.get? b=some o->H b=none->b∈fs->b∉ex->∃ sl,h'.get? b=some { o with slots:=sl }
 free:∀ b o,h.get? b=some o->H b=none->b∉ex->H' b=none
 there:∀ b o,h.get? b=some o->b∉ex->∃ o',h'.get? b=some o'
 tups:∀ b xs,H b=some (.tup xs)->H' b=some (.tup xs)
 qy:∀ b o u,H b=some (.Ku o u)->H' b=some (.Ku o u)
 rR:∀ b ps,H b=some (.Yn ps)->∃ more,H' b=some (.Yn (ps++more))
section
variable{fs fs' ex ex':ay av}{H H1 H2:Hp}{h h1 h2 h':Heap}{a x e:av}{o:HO}
theorem Un.any(u:Un fs ex H H1 h h1)(q:h.get? b=some ob)(n:H b=none)(hx:b∉ex):∃ sl,h1.get? b=some { ob with slots:=sl }:=by
 by_cases hb:b∈fs
 .exact u.slot b ob q n hb hx
 .exact⟨ob.slots,u.keep b ob q n hb hx⟩
theorem Un.kept(k:∀ b u,h.get? b=some u->h'.get? b=some u):Un fs ex H H h h':=
 ⟨fun b ob q _ _ _=>k b ob q,fun b ob q _ _ _=>⟨ob.slots,k b ob q⟩,fun _ _ _ n _=>n,fun b ob q _=>⟨ob,k b ob q⟩,fun _ _ q=>q,fun _ _ _ q=>q,fun _ _ q=>⟨#[],by rw[q];simp⟩⟩
theorem Un.refl:Un fs ex H H h h:=Un.kept fun _ _ q=>q
theorem Un.laid(k:∀ b u,h.get? b=some u->h'.get? b=some u)(hp:h.objs.size<=a)(hn:H a=none):Un fs ex H (upd H a o) h h' where
 keep:=fun b u q _ _ _=>k b u q
 slot:=fun b u q _ _ _=>⟨u.slots,k b u q⟩
 free:=fun b u q n _=>by rw[zQ (lO (zm (iU q) hp))];exact n
 there:=fun b u q _=>⟨u,k b u q⟩
 tups:=fun b xs q=>by rw[zQ (zM q hn)];exact q
 qy:=fun b u xs q=>by rw[zQ (zM q hn)];exact q
 rR:=fun b _ q=>⟨#[],by rw[zQ (zM q hn),q];simp⟩
theorem Un.write(mu:Mut (H x))(he:e=x∨H e=some (.own x))(k:∀ b u,b≠e->h.get? b=some u->h'.get? b=some u)(heo:∃ u,h'.get? e=some u):Un fs ex H (upd H x o) h h':=by
 have hx:∀ b,H b=none->b≠x:=fun b n z=>by subst z;rw[n]at mu;exact mu
 have hb:∀ b,H b=none->b≠e:=fun b n z=>by
  subst z;rcases he with r | r
  .exact hx b n r
  .rw[n]at r;cases r
 have hm:∀ b u,H b=some u->¬ Mut (some u)->b≠x:=fun b u q nm z=>by subst z;rw[q]at mu;exact nm mu
 refine⟨fun b u q n _ _=>k b u (hb b n) q,fun b u q n _ _=>⟨u.slots,k b u (hb b n) q⟩,fun b u q n _=>by rw[zQ (hx b n)];exact n,fun b u q _=>?_,
  fun b xs q=>by rw[zQ (hm b _ q fun z=>z)];exact q,fun b u xs q=>by rw[zQ (hm b _ q fun z=>z)];exact q,fun b _ q=>⟨#[],by rw[zQ (hm b _ q fun z=>z),q];simp⟩⟩
 by_cases hbe:b=e
 .subst hbe;exact heo
 .exact⟨u,k b u hbe q⟩
end
noncomputable def trk(h:Heap)(H:Hp):ay av:=(List.range h.objs.size).filter fun a=>(H a).isSome
def Em(h:Heap)(H:Hp):Heap:=PySem.W.hideAll h (trk h H)
theorem QH(h:Heap)(H:Hp):(Em h H).objs.size=h.objs.size:=PySem.W.hideAll_size _ _
theorem Ud(e:h.get? b=some o)(n:H b=none):(Em h H).get? b=some o:=
 PySem.W.hideAll_get _ e fun hm=>by
  have q:(H b).isSome=true:=(nH.mp hm).2;rw[n]at q;simp at q
theorem Xm(e:(Em h H).get? b=some o):h.get? b=some o/\H b=none:=by
 have e':h.get? b=some o:=PySem.W.of_hideAll (trk h H) e;refine⟨e',?_⟩
 cases q:H b with
 | none=>rfl
 | some x=>
  have hm:b∈trk h H:=List.mem_filter.mpr ⟨List.mem_range.mpr (Heap.lt_size e'),by simp [q]⟩;have z:(Em h H).get? b=none:=PySem.W.hideAll_none (trk h H) hm;rw[z]at e;cases e
noncomputable def Yc(g h:Heap)(L:av):ay (av×Obj):=(List.range h.objs.size).filterMap fun a=>if a=L∨(g.get? a).isSome=true then none else (h.get? a).map fun o=>(a,o)
noncomputable def rest(g h:Heap)(L d:av):ay (av×Obj):=(Yc g h L).filter fun p=>decide (p.1≠d)
structure Mod(K:cL)(mg:Str->Option Value)(base:Heap):Prop where
 kin:K.In base
 glob:base.Ns mainGlobals mg
 blt:∃ mb,base.Ns builtinsNs mb/\∀ x:Str,x ≠ "__name__" -> mb x=bootBuiltins x
 nolimit:base.NoLimit
structure Cx where
 prog:Program
 w:World
 K:cL
 mg:Str->Option Value
 base:Heap
 A:Around
 N:List Str
 s₀:Shared
 H₀:Hp
 env:Env
 outer:List Env
 stack:List Env
 ex:List Addr
 fn:Str->Bool
 calm:Bool
 pn:List (Addr×Obj)
 xe:Value->Shared->Prop
def frs(l:ay Env):ay av:=l.filterMap (·.frame)
abbrev Cx.fs(X:Cx):ay av:=frs X.outer
def Vis(sc:Scope)(x:Str):Prop:=sc.names.lookup x=some .local∨sc.names.lookup x=some .cell∨sc.names.lookup x=some .free
def Loc(sc:Scope)(x:Str):Prop:=sc.names.lookup x=some .local∨sc.names.lookup x=some .cell
def Look(env:Env)(h:Heap)(m:Str->aE ax)(x:Str)(u:ax):Prop:=
 (env.kindOf x=some .local/\m x=some u)∨((env.kindOf x=some .cell∨env.kindOf x=some .free)/\∃ c,env.cells.lookup x=some c/\h.IsCell c (some u))
structure Cx.Ok(X:Cx):Prop where
 mod:Mod X.K X.mg X.base
 kind:X.env.scope.kind = .function
 glob:X.env.globals=mainGlobals
 blt:X.env.builtins=builtinsNs
 above:X.s₀.heap.objs.size<=X.env.locals
 inj:∀ x y c,X.env.cells.lookup x=some c->X.env.cells.lookup y=some c->x=y
 has:∀ x,(X.env.kindOf x=some .cell∨X.env.kindOf x=some .free)->∃ c,X.env.cells.lookup x=some c
 cab:∀ x c,X.fn x=true->X.env.cells.lookup x=some c->X.s₀.heap.objs.size<=c
 hd:X.calm=true->X.A.handled=none
 frames:X.A.frames=some X.stack
 WY:X.stack=X.outer∨(X.stack=X.env::X.outer/\X.env.frame=some X.env.locals)
 exf:∀ b∈X.ex,b≠X.env.locals/\∀ x c,X.env.cells.lookup x=some c->c≠b
 bs:∀ b o,X.base.get? b=some o->X.s₀.heap.get? b=some o/\X.H₀ b=none
 Qy:X.base.objs.size<=X.s₀.heap.objs.size
 KZ:∀ b o,X.base.get? b=some o->b∉X.ex
 Ux:∀ b∈X.ex,b∉X.fs
 tU:X.s₀.heap.FunFrames X.base X.outer
 YD:∀ b∈X.fs,X.H₀ b=none
structure Inv(X:Cx)(pins:List (Addr×Obj))(σ:List (Option V))(H:Hp)(s:Shared):Prop where
 ok:X.Ok
 os:s.os=X.s₀.os
 bare:AllBare s.gens
 base:Un X.fs X.ex X.H₀ H X.s₀.heap s.heap
 loc:∃ m,s.heap.Ns X.env.locals m/\∀(i:Nat)(x:Str)(v:V),X.N[i]? = some x->σ[i]? = some (some v)->Vis X.env.scope x->∃ u,RelV v u/\Look X.env s.heap m x u
 cell:∀ x c,X.env.cells.lookup x=some c->∃ v,s.heap.IsCell c v
 free:H X.env.locals=none
 jH:∀ x c,X.env.cells.lookup x=some c->H c=none
 pin:∀ p∈X.pn++pins,s.heap.get? p.1=some p.2/\H p.1=none/\p.1≠X.env.locals/\p.1∉X.fs/\∀ v,p.2.data≠.cell v
 hok:jO X.prog X.w H s.heap
 len:σ.length=X.N.length
section
variable{X:Cx}{pins:ay (av×Obj)}{σ:ay (aE V)}{H H':Hp}{s:ae}{h':Heap}
theorem Cx.Ok.qHG(ok:X.Ok)(e:X.base.get? b=some o):b∉X.fs:=fun hb=>by
 have:=(ok.tU.mem hb).1;rw[e]at this;cases this
theorem Inv.bs(I:Inv X pins σ H s):∀ b o,X.base.get? b=some o->s.heap.get? b=some o/\H b=none:=fun b o e=>
 ⟨I.base.keep b o (I.ok.bs b o e).1 (I.ok.bs b o e).2 (I.ok.qHG e) (I.ok.KZ b o e),I.base.free b o (I.ok.bs b o e).1 (I.ok.bs b o e).2 (I.ok.KZ b o e)⟩
theorem Inv.bk(I:Inv X pins σ H s):∀ b o,X.base.get? b=some o->s.heap.get? b=some o:=fun b o e=>(I.bs b o e).1
theorem Inv.mod(I:Inv X pins σ H s):Mod X.K X.mg X.base:=I.ok.mod
theorem Inv.nR(I:Inv X pins σ H s):X.K.In s.heap:=I.ok.mod.kin.keeps I.bk
theorem Inv.lt(I:Inv X pins σ H s):X.env.locals<s.heap.objs.size:=let ⟨_,hn,_⟩:=I.loc;hn.lt
theorem Inv.sz(I:Inv X pins σ H s):X.s₀.heap.objs.size<=s.heap.objs.size:=bq I.ok.above (hU I.lt)
theorem Inv.qHF(I:Inv X pins σ H s)(h:s.heap.objs.size<=a):a∉X.fs:=fun hb=>by
 obtain⟨_,o,ho,_⟩:=I.ok.tU.mem hb;exact dP (zm (iU ho) (bq I.sz h)) (i0 _)
theorem Inv.YS(I:Inv X pins σ H s):∀ x c,X.env.cells.lookup x=some c->c≠X.env.locals:=fun x c e z=>by
 obtain⟨v,o,ho,hd⟩:=I.cell x c e;obtain⟨m,⟨_,_,_,ho',hd',_⟩,_⟩:=I.loc;rw[z,ho']at ho;cases ho;rw[hd']at hd;cases hd
theorem Inv.tU(I:Inv X pins σ H s):s.heap.FunFrames X.base X.outer:=by
 have all:∀(l:ay Env),(∀ b∈frs l,b∈X.fs)->X.s₀.heap.FunFrames X.base l->s.heap.FunFrames X.base l:=by
  intro l
  induction l with
  | nil=>intro _ _;trivial
  | cons env r ih=>
   intro hs hl;obtain⟨hk,⟨L,o,hf,hn,ho,hd⟩,hr⟩:=hl;have hL:L∈X.fs:=hs L (by unfold frs;rw[eT,hf];exact wO);obtain⟨_,e⟩:=I.base.slot L o ho (I.ok.YD L hL) hL fun z=>I.ok.Ux L z hL;exact⟨hk,⟨L,_,hf,hn,e,hd⟩,ih (fun b hb=>hs b (by unfold frs;rw[eT,hf];exact Fj _ hb)) hr⟩
 exact all X.outer (fun _ hb=>hb) I.ok.tU
theorem Inv.stack(I:Inv X pins σ H s):s.heap.FunFrames X.base X.stack:=by
 rcases I.ok.WY with e | ⟨e,hf⟩
 .rw[e];exact I.tU
 .rw[e];obtain⟨m,hn,_⟩:=I.loc;refine .cons (by rw[I.ok.kind];decide) hf hn ?_ I.tU;exact eB (bq I.ok.Qy I.ok.above)
theorem Inv.Jd(I:Inv X pins σ H s):∀ b∈frs X.stack,b∈X.env.locals::X.fs:=fun b hb=>by
 rcases I.ok.WY with e | ⟨e,hf⟩
 .rw[e]at hb;exact Fj _ hb
 .rw[e]at hb;unfold frs at hb;rw[eT,hf]at hb;exact hb
theorem Inv.rW(I:Inv X pins σ H s):∀ b∈frs X.stack,H b=none:=fun b hb=>by
 rcases bL.mp (I.Jd b hb) with e | hb
 .rw[e];exact I.free
 .obtain⟨_,o,ho,_⟩:=I.ok.tU.mem hb;exact I.base.free b o ho (I.ok.YD b hb) fun z=>I.ok.Ux b z hb
theorem Inv.step{g':Array GenState}{t':Nat}{d':Drawn}{ch:ay av}(I:Inv X pins σ H s)
  (hch:∀ b∈ch,(b∈X.ex∨X.s₀.heap.objs.size<=b)/\b≠X.env.locals/\(∀ x c,X.env.cells.lookup x=some c->c≠b)/\∀ p∈X.pn++pins,p.1≠b)
  (keep:∀ b o,b≠X.env.locals->b∉X.fs->b∉ch->s.heap.get? b=some o->H b=none->h'.get? b=some o)
  (slot:∀ b o,b≠X.env.locals->b∈X.fs->b∉ch->s.heap.get? b=some o->H b=none->∃ sl,h'.get? b=some { o with slots:=sl }) (free:∀ b o,b∉ch->s.heap.get? b=some o->H b=none->H' b=none)
  (there:∀ b o,b∉ch->s.heap.get? b=some o->∃ o',h'.get? b=some o')
  (tups:∀ b xs,H b=some (.tup xs)->H' b=some (.tup xs)) (qy:∀ b o u,H b=some (.Ku o u)->H' b=some (.Ku o u)) (rR:∀ b ps,H b=some (.Yn ps)->∃ more,H' b=some (.Yn (ps++more)))
  (ns:∀ m,s.heap.Ns X.env.locals m->h'.Ns X.env.locals m) (hok:jO X.prog X.w H' h') (hg:AllBare g') :
  Inv X pins σ H' { s with heap:=h',gens:=g',drawn:=d',toks:=t' }:=by
 have neL:∀ b o,X.s₀.heap.get? b=some o->b≠X.env.locals:=fun b o e=>lO (zm (iU e) I.ok.above)
 have neC:∀ b o,X.s₀.heap.get? b=some o->b∉X.ex->b∉ch:=fun b o e hx hb=>by
  rcases (hch b hb).1 with z | z
  .exact hx z
  .exact dP (zm (iU e) z) (i0 _)
 have cellK:∀ x c,X.env.cells.lookup x=some c->∀ v,s.heap.IsCell c v->h'.IsCell c v:=fun x c e v ⟨o,ho,hd⟩=>by
  have nch:c∉ch:=fun z=>(hch c z).2.2.1 x c e rfl
  by_cases hc:c∈X.fs
  .obtain⟨sl,q⟩:=slot c o (I.YS x c e) hc nch ho (I.jH x c e);exact⟨_,q,hd⟩
  .exact⟨o,keep c o (I.YS x c e) hc nch ho (I.jH x c e),hd⟩
 refine⟨I.ok,I.os,hg,⟨fun b o e n hb hx=>?_,fun b o e n hb hx=>?_,fun b o e n hx=>?_,fun b o e hx=>?_,fun b xs e=>tups b xs (I.base.tups b xs e),fun b o xs e=>qy b o xs (I.base.qy b o xs e),fun b ps e=>?_⟩,?_,fun x c e=>?_,?_,fun x c e=>?_,fun p hp=>?_,hok,I.len⟩
 .exact keep b o (neL b o e) hb (neC b o e hx) (I.base.keep b o e n hb hx) (I.base.free b o e n hx)
 .obtain⟨sl,e1⟩:=I.base.slot b o e n hb hx;obtain⟨sl',e2⟩:=slot b _ (neL b o e) hb (neC b o e hx) e1 (I.base.free b o e n hx);exact⟨sl',e2⟩
 .obtain⟨o',e1⟩:=I.base.there b o e hx;exact free b o' (neC b o e hx) e1 (I.base.free b o e n hx)
 .obtain⟨o',e1⟩:=I.base.there b o e hx;exact there b o' (neC b o e hx) e1
 .obtain⟨m1,e1⟩:=I.base.rR b ps e;obtain⟨m2,e2⟩:=rR b _ e1;exact⟨m1++m2,by rw[e2,Array.append_assoc]⟩
 .obtain⟨m,hn,hl⟩:=I.loc;refine⟨m,ns m hn,fun i x v e1 e2 e3=>?_⟩;obtain⟨u,r,l⟩:=hl i x v e1 e2 e3;refine⟨u,r,?_⟩;rcases l with l | ⟨k,c,e,z⟩
  .exact .inl l
  .exact .inr ⟨k,c,e,cellK x c e _ z⟩
 .obtain⟨v,z⟩:=I.cell x c e;exact⟨v,cellK x c e v z⟩
 .obtain⟨m,⟨o,_,_,ho,_⟩,_⟩:=I.loc;exact free _ o (fun z=>(hch _ z).2.1 rfl) ho I.free
 .obtain⟨v,o,ho,hd⟩:=I.cell x c e;exact free c o (fun z=>(hch c z).2.2.1 x c e rfl) ho (I.jH x c e)
 .obtain⟨e,n,ne,nf,d⟩:=I.pin p hp;have nch:p.1∉ch:=fun z=>(hch p.1 z).2.2.2 p hp rfl;exact⟨keep p.1 p.2 ne nf nch e n,free p.1 p.2 nch e n,ne,nf,d⟩
theorem Inv.un{t':Nat}(I:Inv X pins σ H s)(u:Un X.fs [] H H' s.heap h')(hok:jO X.prog X.w H' h'):Inv X pins σ H' { s with heap:=h',toks:=t' }:=by
 obtain⟨m,⟨o,_,_,ho,r⟩,_⟩:=id I.loc;obtain⟨_,hL⟩:=u.any ho I.free (by simp)
 exact I.step (g':=s.gens) (d':=s.drawn) (ch:=[]) (fun _ z=>nomatch z) (fun b o _ hb _ e n=>u.keep b o e n hb (by simp)) (fun b o _ hb _ e n=>u.slot b o e n hb (by simp)) (fun b o _ e n=>u.free b o e n (by simp)) (fun b o _ e=>u.there b o e (by simp)) u.tups u.qy u.rR (fun _ hm=>by
  obtain⟨_,es',ep',ho',r'⟩:=hm;rw[ho]at ho';cases ho'
  exact⟨_,es',ep',hL,r'⟩) hok I.bare
theorem Inv.call{g':Array GenState}{t':Nat}{d':Drawn}{ch:ay av}(I:Inv X pins σ H s)(u:Un (frs X.stack) ch H H' s.heap h')(hok:jO X.prog X.w H' h')(hg:AllBare g')
  (hch:∀ b∈ch,(b∈X.ex∨X.s₀.heap.objs.size<=b)/\b≠X.env.locals/\(∀ x c,X.env.cells.lookup x=some c->c≠b)/\∀ p∈X.pn++pins,p.1≠b) :
  Inv X pins σ H' { s with heap:=h',gens:=g',drawn:=d',toks:=t' }:=by
 obtain⟨m,⟨o,_,_,ho,r⟩,_⟩:=id I.loc;obtain⟨_,hL⟩:=u.any ho I.free fun z=>(hch _ z).2.1 rfl
 exact I.step (ch:=ch) hch (fun b o hL hb hc e n=>u.keep b o e n (fun z=>(bL.mp (I.Jd b z)).elim hL hb) hc) (fun b o _ _ hc e n=>u.any e n hc) (fun b o hc e n=>u.free b o e n hc) (fun b o hc e=>u.there b o e hc) u.tups u.qy u.rR (fun _ hm=>by
  obtain⟨_,es',ep',ho',r'⟩:=hm;rw[ho]at ho';cases ho'
  exact⟨_,es',ep',hL,r'⟩) hok hg
theorem Inv.turned{t':Nat}{it:av}(I:Inv X pins σ H s)(k:∀ b o,b≠it->s.heap.get? b=some o->h'.get? b=some o)(hn:H it=none)(hL:it≠X.env.locals)
  (h1:it∈X.ex∨X.s₀.heap.objs.size<=it) (h2:∀ x c,X.env.cells.lookup x=some c->c≠it) (h3:∀ p∈X.pn++pins,p.1≠it):Inv X pins σ H { s with heap:=h',toks:=t' }:=by
 have nit:∀ b u,H b=some u->b≠it:=fun b u e z=>by rw[z,hn]at e;cases e
 refine I.step (g':=s.gens) (d':=s.drawn) (ch:=[it]) (fun b hb=>?_) (fun b o _ _ hc e _=>k b o (fun z=>hc (by simp [z])) e) (fun b o _ _ hc e _=>⟨o.slots,k b o (fun z=>hc (by simp [z])) e⟩) (fun _ _ _ _ n=>n)
  (fun b o hc e=>⟨o,k b o (fun z=>hc (by simp [z])) e⟩) (fun _ _ e=>e) (fun _ _ _ e=>e) (fun b _ e=>⟨#[],by rw[e];simp⟩) (fun m hm=>?_) (fun b u e=>?_) I.bare
 .have e:b=it:=by simpa using hb
  subst e;exact⟨h1,hL,h2,h3⟩
 .obtain⟨o,es,ep,ho,r⟩:=hm;exact⟨o,es,ep,k _ o (bt hL) ho,r⟩
 .refine (I.hok b u e).stay (fun c v hc q=>k c v ?_ q) (fun _ q=>q) fun _ _ q=>q;rcases hc with z | z
  .rw[z];exact nit b u e
  .exact nit c _ z
theorem Inv.tok(I:Inv X pins σ H s)(t:Nat):Inv X pins σ H { s with toks:=t }:=I.un (h':=s.heap) (t':=t) Un.refl I.hok
theorem Inv.kept(I:Inv X pins σ H s)(k:∀ b u,s.heap.get? b=some u->h'.get? b=some u):Inv X pins σ H { s with heap:=h',toks:=t' }:=I.un (Un.kept k) (I.hok.kept k)
theorem Inv.laid(I:Inv X pins σ H s)(k:∀ b u,s.heap.get? b=some u->h'.get? b=some u)(hp:s.heap.objs.size<=a)(new:bW X.prog X.w (upd H a o) h' a o) :
  Inv X pins σ (upd H a o) { s with heap:=h',toks:=t' }:=I.un (Un.laid k hp (I.hok.fresh hp)) (I.hok.laid k hp new)
theorem Inv.write(I:Inv X pins σ H s)(mu:Mut (H x))(he:e=x∨H e=some (.own x))(k:∀ b u,b≠e->s.heap.get? b=some u->h'.get? b=some u)(heo:∃ u,h'.get? e=some u)
  (new:bW X.prog X.w (upd H x o) h' x o):Inv X pins σ (upd H x o) { s with heap:=h',toks:=t' }:=I.un (Un.write mu he k heo) (I.hok.write mu he k heo new)
theorem Inv.t6(I:Inv X pins σ H s)(h:∀ p∈qD6,s.heap.get? p.1=some p.2/\H p.1=none/\p.1≠X.env.locals/\p.1∉X.fs/\∀ v,p.2.data≠.cell v):Inv X qD6 σ H s:=
 ⟨I.ok,I.os,I.bare,I.base,I.loc,I.cell,I.free,I.jH,fun p hp=>(cH.mp hp).elim (fun z=>I.pin p (ft _ z)) (h p),I.hok,I.len⟩
theorem xm{N:ay Str}(hN:N.Nodup){i j:Nat}{x:Str}(a:N[i]? = some x)(b:N[j]? = some x):i=j:=by obtain⟨_,e1⟩:=fO.mp a;obtain⟨_,e2⟩:=fO.mp b;exact (List.getElem_inj hN).mp (e1.trans e2.symm)
theorem uQ{M:Model}{A:ai}{E:ax->ae->Prop}{i:Nat}{x:Str}{v:V}{u:ax}{Q:Unit->ae->Prop}(I:Inv X pins σ H s)(hN:X.N.Nodup)(hi:X.N[i]? = some x)(hx:Loc X.env.scope x)(r:RelV v u)
  (h:∀ s',Inv X pins (σ.set i (some v)) H s'->(∃ a,Heap.SameBut a s.heap s'.heap/\(a=X.env.locals∨X.env.cells.lookup x=some a))->Q () s') (hf:X.fn x=true∨X.env.scope.names.lookup x=some .local:=by ext z):wpAny M A (storeName X.env x u) Q E s:=by
 obtain⟨m,hn,hl⟩:=id I.loc
 have hcls:(X.env.scope.kind==.class||(X.env.scope.kind==.module&&X.env.locals != X.env.globals))=false:=by rw[I.ok.kind];rfl
 have hiσ:i<σ.length:=by rw[I.len];exact (fO.mp hi).1
 have YS:=I.YS
 have tracked:∀ {a:av} {h':Heap},(∃ o,s.heap.get? a=some o/\H a=none)->Heap.SameBut a s.heap h'->jO X.prog X.w H h':=fun {a h'} ha hs b ob e=>by
  obtain⟨_,_,hfree⟩:=ha;refine (I.hok b ob e).stay (fun c w' hc q=>(hs.2 c ?_).trans q) (fun _ q=>q) fun _ _ q=>q;rintro rfl;rcases hc with rfl | hc
  .rw[hfree]at e;cases e
  .rw[hfree]at hc;cases hc
 rcases hx with hk | hk
 .refine wpAny_storeName_local hk hn (fun h' hn' hs=>?_) hcls;obtain⟨oL,_,_,hoL,_⟩:=id hn;refine h _ ⟨I.ok,I.os,I.bare,⟨fun b o e n hb hx=>?_,fun b o e n hb hx=>?_,I.base.free,fun b o e hx=>?_,I.base.tups,I.base.qy,I.base.rR⟩,⟨_,hn',fun j y v' e1 e2 e3=>?_⟩,fun y c e=>?_,I.free,I.jH,fun p hp=>?_,tracked ⟨oL,hoL,I.free⟩ hs,by simpa using I.len⟩ ⟨_,hs,.inl rfl⟩
  .exact (hs.2 b (lO (zm (iU e) I.ok.above))).trans (I.base.keep b o e n hb hx)
  .obtain⟨sl,e1⟩:=I.base.slot b o e n hb hx;exact⟨sl,(hs.2 b (lO (zm (iU e) I.ok.above))).trans e1⟩
  .obtain⟨o',e1⟩:=I.base.there b o e hx;exact⟨o',(hs.2 b (lO (zm (iU e) I.ok.above))).trans e1⟩
  .by_cases hj:j=i
   .subst hj;rw[hi]at e1;cases e1;rw[cS hiσ]at e2
    cases e2
    exact⟨u,r,.inl ⟨hk,by simp⟩⟩
   .rw[cK (bt hj)]at e2;obtain⟨u',r',q⟩:=hl j y v' e1 e2 e3;refine⟨u',r',?_⟩;rcases q with ⟨k,e⟩ | ⟨k,c,e,z⟩
    .refine .inl ⟨k,?_⟩;have:y≠x:=fun e=>hj (xm hN e1 (e▸hi));simp [this,e]
    .exact .inr ⟨k,c,e,z.sameBut hs (YS y c e)⟩
  .obtain⟨w',z⟩:=I.cell y c e;exact⟨w',z.sameBut hs (YS y c e)⟩
  .obtain⟨e,n,ne,nf,d⟩:=I.pin p hp;exact⟨(hs.2 p.1 ne).trans e,n,ne,nf,d⟩
 .have hfn:X.fn x=true:=by
   rcases hf with z | z
   .exact z
   .rw[z]at hk;cases hk
  obtain⟨c,hc⟩:=I.ok.has x (.inl hk);obtain⟨w',z⟩:=I.cell x c hc;refine wpAny_storeName_cell I.ok.kind hk hc z (fun h' hc' hs=>?_);obtain⟨oc,hoc,qIJ⟩:=id z;refine h { s with heap:=h' } ⟨I.ok,I.os,I.bare,⟨fun b o e n hb hx=>?_,fun b o e n hb hx=>?_,I.base.free,fun b o e hx=>?_,I.base.tups,I.base.qy,I.base.rR⟩,⟨m,hn.sameBut hs (Ne.symm (YS x c hc)),fun j y v' e1 e2 e3=>?_⟩,fun y c' e=>?_,I.free,I.jH,fun p hp=>?_,tracked ⟨oc,hoc,I.jH x c hc⟩ hs,by simpa using I.len⟩ ⟨c,hs,.inr hc⟩
  .exact (hs.2 b (lO (zm (iU e) (I.ok.cab x c hfn hc)))).trans (I.base.keep b o e n hb hx)
  .obtain⟨sl,e1⟩:=I.base.slot b o e n hb hx;exact⟨sl,(hs.2 b (lO (zm (iU e) (I.ok.cab x c hfn hc)))).trans e1⟩
  .obtain⟨o',e1⟩:=I.base.there b o e hx;exact⟨o',(hs.2 b (lO (zm (iU e) (I.ok.cab x c hfn hc)))).trans e1⟩
  .by_cases hj:j=i
   .subst hj;rw[hi]at e1;cases e1;rw[cS hiσ]at e2
    cases e2
    exact⟨u,r,.inr ⟨.inl hk,c,hc,hc'⟩⟩
   .rw[cK (bt hj)]at e2;obtain⟨u',r',q⟩:=hl j y v' e1 e2 e3;refine⟨u',r',?_⟩;rcases q with q | ⟨k,c',e,z'⟩
    .exact .inl q
    .refine .inr ⟨k,c',e,z'.sameBut hs ?_⟩;rintro rfl;exact hj (xm hN e1 (I.ok.inj _ _ _ e hc▸hi))
  .by_cases hcc:c'=c
   .subst hcc;exact⟨_,hc'⟩
   .obtain⟨w2,z2⟩:=I.cell y c' e;exact⟨w2,z2.sameBut hs hcc⟩
  .obtain⟨e,n,ne,nf,d⟩:=I.pin p hp;refine⟨(hs.2 p.1 ?_).trans e,n,ne,nf,d⟩;intro q;rw[q,hoc]at e;have q':oc=p.2:=jX e;exact d w' (by rw[<-q'];exact qIJ)
theorem jz(I:Inv X pins σ H s)(hN:X.N.Nodup)(hi:X.N[i]? = some x)(hx:Loc X.env.scope x)(r:RelV v u)
  (h:∀ s',Inv X pins (σ.set i (some v)) H s'->Q () s') (hf:X.fn x=true∨X.env.scope.names.lookup x=some .local:=by ext z):wpAny M A (storeName X.env x u) Q E s:=
 uQ I hN hi hx r (fun s' I' _=>h s' I') hf
theorem Inv.call'(I:Inv X pins σ H s)(ho:s'.os=s.os)(u:Un (frs X.stack) ch H H' s.heap s'.heap)(hok:jO X.prog X.w H' s'.heap)(hg:AllBare s'.gens)
  (hch:∀ b∈ch,(b∈X.ex∨X.s₀.heap.objs.size<=b)/\b≠X.env.locals/\(∀ x c,X.env.cells.lookup x=some c->c≠b)/\∀ p∈X.pn++pins,p.1≠b):Inv X pins σ H' s':=by obtain⟨_,g',d',t',o'⟩:=s';have e:o'=s.os:=ho;subst e;exact I.call (g':=g') (t':=t') (d':=d') u hok hg hch
end
abbrev XK:=ax->aE av->Hp->Prop
abbrev St:=ay (aE V)
abbrev VK:=V->Hp->Prop
abbrev TE:=St->Hp->VK->Prop
abbrev TT:=St->Hp->(Bool->Hp->Prop)->Prop
abbrev TA:=St->Hp->(ay V->Hp->Prop)->Prop
structure Ends where
 nx:St->Hp->Prop
 rt:VK
 bk:St->Hp->Prop:=fun _ _=>False
 ct:St->Hp->Prop:=fun _ _=>False
abbrev TS:=Ends->St->Hp->Prop
def EP(X:Cx)(pins:ay (av×Obj))(σ:St)(Q:VK)(u:ax)(s':ae):Prop:=∃ v H',Inv X pins σ H' s'/\RelV v u/\Q v H'
def TP(X:Cx)(pins:ay (av×Obj))(σ:St)(Q:Bool->Hp->Prop)(b:Bool)(s':ae):Prop:=∃ H',Inv X pins σ H' s'/\Q b H'
def AP(X:Cx)(pins:ay (av×Obj))(σ:St)(Q:ay V->Hp->Prop)(us:ay ax)(s':ae):Prop:=∃ vs H',Inv X pins σ H' s'/\Vals vs us/\Q vs H'
def SP(X:Cx)(pins:ay (av×Obj))(D:Ends)(f:Flow)(s':ae):Prop:=
 match f with
 | .next => ∃ σ' H',Inv X pins σ' H' s'/\D.nx σ' H'
 | .brk => ∃ σ' H',Inv X pins σ' H' s'/\D.bk σ' H'
 | .cont => ∃ σ' H',Inv X pins σ' H' s'/\D.ct σ' H'
 | .ret u => ∃ v σ' H',Inv X pins σ' H' s'/\RelV v u/\D.rt v H'
def PE(X:Cx)(e:Expr)(t:TE):Prop:=
 ∀(pins:ay (av×Obj))(s:ae)(σ:St)(H:Hp)(Q:VK),Inv X pins σ H s->t σ H Q->wpAny (model X.prog X.w) X.A (eval e X.env) (EP X pins σ Q) X.xe s
def PT(X:Cx)(e:Expr)(t:TT):Prop:=
 ∀(pins:ay (av×Obj))(s:ae)(σ:St)(H:Hp)(Q:Bool->Hp->Prop),Inv X pins σ H s->t σ H Q->wpAny (model X.prog X.w) X.A (isTrue e X.env (eval e X.env)) (TP X pins σ Q) X.xe s
def PW(X:Cx)(e:Expr)(t:TT):Prop:=
 ∀(whole:Sem ax)(pins:ay (av×Obj))(s:ae)(σ:St)(H:Hp)(Q:Bool->Hp->Prop),Inv X pins σ H s->t σ H Q->wpAny (model X.prog X.w) X.A (isTrue e X.env whole) (TP X pins σ Q) X.xe s
theorem PW.pt(h:PW X e t):PT X e t:=h _
def PA(X:Cx)(es:ay Expr)(t:TA):Prop:=
 ∀(pos:Pos)(pins:ay (av×Obj))(s:ae)(σ:St)(H:Hp)(Q:ay V->Hp->Prop),Inv X pins σ H s->t σ H Q->wpAny (model X.prog X.w) X.A (spliced (backTo pos (starEach es X.env))) (AP X pins σ Q) X.xe s
def PS(X:Cx)(st:Stmt)(t:TS):Prop:=
 ∀(pins:ay (av×Obj))(s:ae)(σ:St)(H:Hp)(D:Ends),Inv X pins σ H s->t D σ H->wpAny (model X.prog X.w) X.A (exec st X.env) (SP X pins D) X.xe s
def FT(X:Cx)(st:ay Stmt)(t:TS):Prop:=
 ∀(pins:ay (av×Obj))(s:ae)(σ:St)(H:Hp)(D:Ends),Inv X pins σ H s->t D σ H->wpAny (model X.prog X.w) X.A (execs st X.env) (SP X pins D) X.xe s
theorem bI(h:wpAny M A t Q E s)(hQ:∀ a s,Q a s->Q' a s):wpAny M A t Q' E s:=bX h hQ fun _ _ x=>x
section
variable{X:Cx}
inductive Ab(i:Nat)(σ:St)(H:Hp)(Q:VK):Prop
 | mk (v:V) (_:σ[i]? = some (some v)) (_:Q v H)
def tC(v:V):TE:=fun _ H Q=>Q v H
theorem qA6(hN:X.N[i]? = some x)(hv:Vis X.env.scope x)(hd:(x==("__debug__" : Str))=false:=by decide)(hcd:(x==("__classdict__" : Str))=false:=by decide):PE X (.Name x pos) (Ab i):=by
 intro pins s σ H Q I h;obtain⟨v,e,h⟩:=h;obtain⟨m,hn,hl⟩:=I.loc;obtain⟨u,r,l⟩:=hl i x v hN e hv;have fin:EP X pins σ Q u s:=⟨v,H,I,r,h⟩;rcases l with ⟨hk,hm⟩ | ⟨hk,c,hc,hcell⟩
 .exact wpAny_Name (wpAny_loadName_local I.ok.kind hk hn hm fin) hd
 .rcases hk with hk | hk
  .exact wpAny_Name (wpAny_loadName_cell I.ok.kind hk hc hcell fin) hd
  .exact wpAny_Name (wpAny_loadName_free I.ok.kind hk hc hcell fin hcd) hd
theorem zB {i j pos}:PE X (.Constant (.int i) j pos) (tC (.int i)):=fun _ _ _ H _ I h=>wpAny_Constant_int ⟨.int i,H,I.tok _,⟨_,rfl⟩,h⟩
theorem kj {b j pos}:PE X (.Constant (.bool b) j pos) (tC (.bl b)):=fun _ _ _ H _ I h=>Constant_bool ⟨.bl b,H,I,rfl,h⟩
theorem cQ {j pos}:PE X (.Constant .none j pos) (tC .non):=fun _ _ _ H _ I h=>Constant_none ⟨.non,H,I,rfl,h⟩
theorem zP {x j pos}:PE X (.Constant (.str x) j pos) (tC (.str x)):=fun _ _ _ H _ I h=>Calls.Constant_str ⟨.str x,H,I.tok _,⟨_,rfl⟩,h⟩
def Gl(X:Cx)(x:Str):Prop:=X.env.kindOf x=some .globalImplicit
theorem pZ(I:Inv X pins σ H s)(hg:Gl X x)(hm:X.mg x=some u)(h:Q u s)
  (hd:(x==("__debug__" : Str))=false:=by decide):wpAny (model X.prog X.w) X.A (eval (.Name x pos) X.env) Q E s:=
 Calls.Name_function_global I.ok.kind hg (Calls.loadGlobal_global (by rw[I.ok.glob];exact I.mod.glob.keeps I.bk) hm h) hd
theorem oW(I:Inv X pins σ H s)(hg:Gl X x)(hm:X.mg x=none)(hv:bootBuiltins x=some u)(h:Q u s)
  (hn:x ≠ "__name__" := by decide) (hd:(x==("__debug__" : Str))=false:=by decide):wpAny (model X.prog X.w) X.A (eval (.Name x pos) X.env) Q E s:=by obtain⟨_,h1,h2⟩:=I.mod.blt;exact Calls.Name_function_global I.ok.kind hg (Calls.loadGlobal_builtin (by rw[I.ok.glob];exact I.mod.glob.keeps I.bk) hm (by rw[I.ok.blt];exact h1.keeps I.bk) ((h2 x hn).trans hv) h) hd
theorem tD(hg:Gl X x)(hm:X.mg x=none)(hv:bootBuiltins x=some u)(r:RelV v u)(hn:x ≠ "__name__" := by decide)(hd:(x==("__debug__" : Str))=false:=by decide):PE X (.Name x pos) (tC v):=
 fun _ _ _ H _ I h=>oW I hg hm hv ⟨v,H,I,r,h⟩ hn hd
variable{a b:Expr}{ta tb:TE}{pos:Pos}
def PC(X:Cx)(op:CmpOp)(a b:Expr)(t:TE):Prop:=
 ∀(pins:ay (av×Obj))(s:ae)(σ:St)(H:Hp)(Q:VK),Inv X pins σ H s->t σ H Q →
  wpAny (model X.prog X.w) X.A (eval a X.env) (fun v s₁=>wpAny (model X.prog X.w) X.A (eval b X.env) (fun u s₂=>wpAny (model X.prog X.w) X.A (compareOp op v u) (EP X pins σ Q) X.xe s₂) X.xe s₁) X.xe s
inductive isB(x:V)(H:Hp)(Q:Bool->Hp->Prop):Prop
 | mk (c:Bool) (_:x = .bl c) (_:Q c H)
def tB(t:TE):TT:=fun σ H Q=>t σ H fun x H1=>isB x H1 Q
theorem Jx(h:PC X op a b t)(h1:behindInMarks op b=false:=by first | exact nobehind _ (by decide) (by decide) | rfl):PT X (.Compare a [op] [b] pos) (tB t):=by
 intro pins s σ H Q I hw;refine wpAny_isTrue_Compare1 (bI (h pins s σ H _ I hw) fun v _ h1=>bI h1 fun u _ h2=>bI h2 fun c _ ⟨x,H1,I1,r1,q1⟩=>?_) h1;obtain⟨d,rfl,q⟩:=q1
 cases r1
 exact wpAny_truthy_bool ⟨H1,I1,q⟩
theorem fY(h:PE X e t)(he:∀ whole,isTrue e X.env whole=(do let v ← whole;standAt e.pos;holding [v] (truthy v)):=by intro _;rfl):PT X e (tB t):=by
 intro pins s σ H Q I hw;refine isTrue_plain (bI (h pins s σ H _ I hw) fun v _ ⟨x,H1,I1,r1,q1⟩=>?_) (he _);obtain⟨d,rfl,q⟩:=q1
 cases r1
 exact wpAny_truthy_bool ⟨H1,I1,q⟩
variable{tA tB':TT}{rest:ay Expr}
def qGS(t u:TT):TT:=fun σ H Q=>t σ H fun c H1=>if c=true then u σ H1 Q else Q false H1
def tOr(t u:TT):TT:=fun σ H Q=>t σ H fun c H1=>if c=true then Q true H1 else u σ H1 Q
def qGL(t:TT):TT:=fun σ H Q=>t σ H fun c H1=>Q (!c) H1
theorem yP(ha:PT X a tA):PW X (.BoolOp .And [a] pos) tA:=by
 intro _ pins s σ H Q I h;refine isTrue_and (bI (ha pins s σ H Q I h) fun c _ e=>?_)
 cases c with
 | true=>exact isTrue_and_nil e
 | false=>exact e
theorem pw_or1(ha:PT X a tA):PW X (.BoolOp .Or [a] pos) tA:=by
 intro _ pins s σ H Q I h;refine isTrue_or (bI (ha pins s σ H Q I h) fun c _ e=>?_)
 cases c with
 | false=>exact isTrue_or_nil e
 | true=>exact e
theorem pw_and(ha:PT X a tA)(hb:PW X (.BoolOp .And (b::rest) pos) tB'):PW X (.BoolOp .And (a::b::rest) pos) (qGS tA tB'):=by
 intro wh pins s σ H Q I h;refine isTrue_and (bI (ha pins s σ H _ I h) fun c s1 ⟨H1,I1,q1⟩=>?_)
 cases c with
 | true=>exact hb wh pins s1 σ H1 Q I1 q1
 | false=>exact⟨H1,I1,q1⟩
theorem pw_or(ha:PT X a tA)(hb:PW X (.BoolOp .Or (b::rest) pos) tB'):PW X (.BoolOp .Or (a::b::rest) pos) (tOr tA tB'):=by
 intro wh pins s σ H Q I h;refine isTrue_or (bI (ha pins s σ H _ I h) fun c s1 ⟨H1,I1,q1⟩=>?_)
 cases c with
 | true=>exact⟨H1,I1,q1⟩
 | false=>exact hb wh pins s1 σ H1 Q I1 q1
theorem oH(ha:PT X a tA):PT X (.UnaryOp .Not a pos) (qGL tA):=by intro pins s σ H Q I h;exact isTrue_not (ha pins s σ H (fun c H1=>Q (!c) H1) I h)
def qCK(ta tb:TE):TE:=fun σ H Q=>ta σ H fun x H1 => ∃ c,x = .bl c/\if c=true then tb σ H1 Q else Q (.bl false) H1
def qGK(ta tb:TE):TE:=fun σ H Q=>ta σ H fun x H1 => ∃ c,x = .bl c/\if c=true then Q (.bl true) H1 else tb σ H1 Q
def qC7(ta:TE):TE:=fun σ H Q=>ta σ H fun x H1 => ∃ c,x = .bl c/\Q (.bl (!c)) H1
theorem K3 {op} (h:PE X a t):PE X (.BoolOp op [a] pos) t:=fun pins s σ H Q I hw=>BoolOp_one (h pins s σ H Q I hw)
theorem Sg(ha:PE X a ta)(hb:PE X (.BoolOp .And (b::rest) pos) tb):PE X (.BoolOp .And (a::b::rest) pos) (qCK ta tb):=by
 intro pins s σ H Q I h;refine BoolOp_and (bI (ha pins s σ H _ I h) fun v s1 ⟨x,H1,I1,r1,q1⟩=>?_);obtain⟨c,rfl,q1⟩:=q1
 cases r1
 refine wpAny_truthy_bool ?_
 cases c with
 | true=>exact hb pins s1 σ H1 Q I1 q1
 | false=>exact⟨.bl false,H1,I1,rfl,q1⟩
theorem qD7(ha:PE X a ta)(hb:PE X (.BoolOp .Or (b::rest) pos) tb):PE X (.BoolOp .Or (a::b::rest) pos) (qGK ta tb):=by
 intro pins s σ H Q I h;refine BoolOp_or (bI (ha pins s σ H _ I h) fun v s1 ⟨x,H1,I1,r1,q1⟩=>?_);obtain⟨c,rfl,q1⟩:=q1
 cases r1
 refine wpAny_truthy_bool ?_
 cases c with
 | false=>exact hb pins s1 σ H1 Q I1 q1
 | true=>exact⟨.bl true,H1,I1,rfl,q1⟩
theorem SJ(ha:PE X a ta):PE X (.UnaryOp .Not a pos) (qC7 ta):=by
 intro pins s σ H Q I h;refine UnaryOp_ (bI (ha pins s σ H _ I h) fun v _ ⟨x,H1,I1,r1,q1⟩=>?_);obtain⟨c,rfl,q1⟩:=q1
 cases r1
 exact not_of (wpAny_truthy_bool ⟨.bl (!c),H1,I1,rfl,q1⟩)
def tIf(t:TT)(ta tb:TE):TE:=fun σ H Q=>t σ H fun c H1=>if c=true then ta σ H1 Q else tb σ H1 Q
theorem Gx(hc:PT X c tA)(ha:PE X a ta)(hb:PE X b tb):PE X (.IfExp c a b pos) (tIf tA ta tb):=by
 intro pins s σ H Q I h;refine wpAny_IfExp (bI (hc pins s σ H _ I h) fun d s1 ⟨H1,I1,q1⟩=>?_)
 cases d with
 | true=>exact ha pins s1 σ H1 Q I1 q1
 | false=>exact hb pins s1 σ H1 Q I1 q1
end
def aV(K:cL)(H:Hp)(a:av)(xs:ay V):Prop:=
 Rd H a (.lst xs) ∨
  ∃(o:Obj)(its:Array ax)(n:Nat),K.lookup a=some o/\o.cls = .type "list" /\ o.dict=none/\o.data = .seq its n/\its.size<=sizeLine/\Vals xs its.toList
def aM(K:cL)(H:Hp)(a:av)(xs:ay V):Prop:=
 Rd H a (.tup xs) ∨
  ∃(o:Obj)(its:Array ax)(n:Nat),K.lookup a=some o/\o.cls = .type "tuple" /\ o.data = .seq its n/\its.size<=sizeLine/\Vals xs its.toList
noncomputable def qJ8:ax->aE V
 | .none=>some .non
 | .bool b=>some (.bl b)
 | .int i _=>some (.int i)
 | .str x _=>some (.str x)
 | .bytes b _=>some (.Qx b)
 | .float b _=>some (.flt b)
 | .ref a=>some (.ref a)
 | .type n=>some (.ty n)
 | _=>none
theorem RelV.abs(r:RelV x u):qJ8 u=some x:=by
 cases x with
 | non=>cases r;rfl
 | bl _=>cases r;rfl
 | int _=>obtain⟨t,rfl⟩:=r;rfl
 | str _=>obtain⟨t,rfl⟩:=r;rfl
 | Qx _=>obtain⟨t,rfl⟩:=r;rfl
 | flt _=>obtain⟨t,rfl⟩:=r;rfl
 | ref _=>cases r;rfl
 | ty _=>cases r;rfl
theorem RelV.inj(r:RelV x u)(q:RelV y u):x=y:=jX (r.abs.symm.trans q.abs)
theorem Vals.inj:∀ {xs ys:ay V} {us:ay ax},Vals xs us->Vals ys us->xs=ys
 | _,_,_,.nil,.nil=>rfl
 | _,_,_,.cons r t,.cons r' t'=>by rw[r.inj r',Vals.inj t t']
section
variable{X:Cx}{pins:ay (av×Obj)}{σ:St}{H:Hp}{s:ae}{a:av}{xs ys:ay V}
theorem aV.of{K:cL}(h:H a=some (.lst xs)):aV K H a xs:=.inl (.inl h)
theorem aM.of{K:cL}(h:H a=some (.tup xs)):aM K H a xs:=.inl (.inl h)
theorem Inv.list(I:Inv X pins σ H s)(h:aV X.K H a xs):∃ its:ay ax,Vals xs its/\PlainL s.heap a its.toArray/\xs.length<=sizeLine:=by
 rcases h with h | ⟨o,its,n,hk,hc,hd,hs,hz,r⟩
 .obtain⟨z,its,n,r,e⟩:=h.ok I.hok;exact⟨its,r,⟨_,n,e,rfl,rfl,rfl⟩,z⟩
 .refine⟨its.toList,r,⟨o,n,I.nR a o hk,hc,hd,by simpa using hs⟩,?_⟩;have e:=r.length;simp only[Array.length_toList]at e;lia
theorem Inv.tuple(I:Inv X pins σ H s)(h:aM X.K H a xs):∃ its:ay ax,Vals xs its/\IsTup s.heap a its.toArray/\xs.length<=sizeLine:=by
 rcases h with h | ⟨o,its,n,hk,hc,hs,hz,r⟩
 .obtain⟨z,its,r,p⟩:=h.ok I.hok;exact⟨its,r,p,z⟩
 .refine⟨its.toList,r,⟨o,I.nR a o hk,hc,n,by simpa using hs⟩,?_⟩;have e:=r.length;simp only[Array.length_toList]at e;lia
theorem Inv.U0(I:Inv X pins σ H s)(h:aV X.K H a xs)(h':aV X.K H a ys):xs=ys:=by
 obtain⟨its,r,⟨o,n,e,_,_,d⟩,_⟩:=I.list h;obtain⟨its',r',⟨_,_,e',_,_,d'⟩,_⟩:=I.list h';rw[e]at e';cases e';rw[d]at d';injection d' with d1 _
 have:its=its':=by simpa using congrArg Array.toList d1
 subst this;exact r.inj r'
theorem Inv.BL(I:Inv X pins σ H s)(h:aM X.K H a xs)(h':aM X.K H a ys):xs=ys:=by
 obtain⟨its,r,⟨o,e,_,n,d⟩,_⟩:=I.tuple h;obtain⟨its',r',⟨_,e',_,_,d'⟩,_⟩:=I.tuple h';rw[e]at e';cases e';rw[d]at d';injection d' with d1 _
 have:its=its':=by simpa using congrArg Array.toList d1
 subst this;exact r.inj r'
end
abbrev Cx.wish(X:Cx)(E:ax->ae->Prop):Cx:={ X with xe:=E }
abbrev Cx.nox(X:Cx):Cx:=X.wish fun _ _=>False
theorem Cx.Ok.wish{X:Cx}(ok:X.Ok)(E:ax->ae->Prop):(X.wish E).Ok:=
 ⟨ok.mod,ok.kind,ok.glob,ok.blt,ok.above,ok.inj,ok.has,ok.cab,ok.hd,ok.frames,ok.WY,ok.exf,ok.bs,ok.Qy,ok.KZ,ok.Ux,ok.tU,ok.YD⟩
theorem Cx.Ok.gP{X:Cx}{E:ax->ae->Prop}(ok:(X.wish E).Ok):X.Ok:=
 ⟨ok.mod,ok.kind,ok.glob,ok.blt,ok.above,ok.inj,ok.has,ok.cab,ok.hd,ok.frames,ok.WY,ok.exf,ok.bs,ok.Qy,ok.KZ,ok.Ux,ok.tU,ok.YD⟩
section
variable{X:Cx}{pins:ay (av×Obj)}{σ:St}{H:Hp}{s:ae}{E:ax->ae->Prop}
theorem Inv.wish(I:Inv X pins σ H s)(E:ax->ae->Prop):Inv (X.wish E) pins σ H s:=⟨I.ok.wish E,I.os,I.bare,I.base,I.loc,I.cell,I.free,I.jH,I.pin,I.hok,I.len⟩
theorem Inv.gP(I:Inv (X.wish E) pins σ H s):Inv X pins σ H s:=⟨I.ok.gP,I.os,I.bare,I.base,I.loc,I.cell,I.free,I.jH,I.pin,I.hok,I.len⟩
theorem SP.gP(h:SP (X.wish E) pins D f s'):SP X pins D f s':=by
 cases f with
 | next=>obtain⟨σ',H',I,q⟩:=h;exact⟨σ',H',I.gP,q⟩
 | brk=>obtain⟨σ',H',I,q⟩:=h;exact⟨σ',H',I.gP,q⟩
 | cont=>obtain⟨σ',H',I,q⟩:=h;exact⟨σ',H',I.gP,q⟩
 | ret u=>obtain⟨v,σ',H',I,r,q⟩:=h;exact⟨v,σ',H',I.gP,r,q⟩
theorem FT.nox{st:ay Stmt}{t:TS}(h:FT X.nox st t):FT X st t:=fun pins s σ H D I hw=>
 bX (h pins s σ H D (I.wish _) hw) (fun _ _ q=>q.gP) fun _ _ z=>c8 z
end
section
variable{X:Cx}{st:Stmt}{rest:ay Stmt}{t u:TS}{e:Expr}{te:TE}{pos:Pos}
def qC8:TS:=fun D σ H=>D.nx σ H
def WN(t u:TS):TS:=fun D σ H=>t { D with nx:=u D } σ H
theorem zT:FT X [] qC8:=fun _ _ σ H _ I h=>wpAny_execs_nil ⟨σ,H,I,h⟩
theorem zE(h1:PS X st t)(h2:FT X rest u):FT X (st::rest) (WN t u):=by
 intro pins s σ H D I h;refine wpAny_execs_cons (bI (h1 pins s σ H { D with nx:=u D } I h) fun f s1 q=>?_)
 cases f with
 | next=>
  obtain⟨σ',H',I',q⟩:=q;exact h2 pins s1 σ' H' D I' q
 | ret v=>exact q
 | brk=>exact q
 | cont=>exact q
theorem zG(h1:PS X st t):FT X [st] t:=by
 intro pins s σ H D I h;refine wpAny_execs_cons (bI (h1 pins s σ H D I h) fun f _ q=>?_)
 cases f with
 | next=>exact wpAny_execs_nil q
 | ret v=>exact q
 | brk=>exact q
 | cont=>exact q
theorem Inv.quiet(I:Inv X pins σ H s):interactive X.env=false:=by simp [interactive,I.ok.kind]
def qCE(te:TE):TS:=fun D σ H=>te σ H fun _ H1=>D.nx σ H1
theorem yI(he:PE X e te)(hs:swapsWith e none pos.line X.env=pure false:=by rfl):PS X (.Expr e pos) (qCE te):=by intro pins s σ H D I h;exact wpAny_Expr_any (bI (he pins s σ H _ I h) fun v _ ⟨x,H1,I1,_,q1⟩=>⟨σ,H1,I1,q1⟩) I.quiet hs
def qGJ(te:TE):TS:=fun D σ H=>te σ H D.rt
theorem zO(he:PE X e te):PS X (.Return (some e) pos) (qGJ te):=by intro pins s σ H D I h;exact wpAny_Return_some (bI (he pins s σ H _ I h) fun v _ ⟨x,H1,I1,r1,q1⟩=>⟨x,σ,H1,I1,r1,q1⟩)
def qGN(c:TT)(t u:TS):TS:=fun D σ H=>c σ H fun b H1=>if b=true then t D σ H1 else u D σ H1
theorem yD(hc:PT X c tc)(ha:FT X a t)(hb:FT X b u):PS X (.If c a b pos) (qGN tc t u):=by
 intro pins s σ H D I h;refine wpAny_If (bI (hc pins s σ H _ I h) fun d s1 ⟨H1,I1,q1⟩=>?_)
 cases d with
 | true=>exact ha pins s1 σ H1 D I1 q1
 | false=>exact hb pins s1 σ H1 D I1 q1
end
abbrev TG:=V->St->Hp->(St->Hp->Prop)->Prop
abbrev TGs:=ay V->St->Hp->(St->Hp->Prop)->Prop
def PG(X:Cx)(target:Expr)(t:TG):Prop:=
 ∀(pins:ay (av×Obj))(s:ae)(σ:St)(H:Hp)(v:V)(u:ax)(Q:St->Hp->Prop),Inv X pins σ H s->RelV v u->t v σ H Q →
  wpAny (model X.prog X.w) X.A (assign target X.env u) (fun _ s'=>∃ σ' H',Inv X pins σ' H' s'/\Q σ' H') X.xe s
def PGs(X:Cx)(ts:ay Expr)(t:TGs):Prop:=
 ∀(pins:ay (av×Obj))(s:ae)(σ:St)(H:Hp)(vs:ay V)(us:ay ax)(Q:St->Hp->Prop),Inv X pins σ H s->Vals vs us->t vs σ H Q →
  wpAny (model X.prog X.w) X.A (assignInOrder ((assignEach ts X.env).map (·.2)) us) (fun _ s'=>∃ σ' H',Inv X pins σ' H' s'/\Q σ' H') X.xe s
abbrev qG7:=V->V->V->Hp->(Hp->Prop)->Prop
def qG8(X:Cx)(t:qG7):Prop:=
 ∀(pins:ay (av×Obj))(s:ae)(σ:St)(H:Hp)(o i v:V)(ov iv u:ax)(Q:Hp->Prop),Inv X pins σ H s->RelV o ov->RelV i iv->RelV v u->t o i v H Q →
  wpAny (model X.prog X.w) X.A (setItem ov iv u) (fun _ s'=>∃ H',Inv X pins σ H' s'/\Q H') X.xe s
abbrev TIp:=V->V->Hp->VK->Prop
def PIp(X:Cx)(op:Operator)(t:TIp):Prop:=
 ∀(pins:ay (av×Obj))(s:ae)(σ:St)(H:Hp)(x y:V)(v u:ax)(Q:VK),Inv X pins σ H s->RelV x v->RelV y u->t x y H Q →
  wpAny (model X.prog X.w) X.A (inplaceOp op v u) (EP X pins σ Q) X.xe s
section
variable{X:Cx}{pos:Pos}
def Ie(i:Nat):TG:=fun v σ H Q=>Q (σ.set i (some v)) H
theorem yJ(hN:X.N.Nodup)(hi:X.N[i]? = some x)(hx:Loc X.env.scope x)(hf:X.fn x=true∨X.env.scope.names.lookup x=some .local:=by ext z):PG X (.Name x pos) (Ie i):=by intro _ s σ H v u Q I r h;exact wpAny_assign_Name (jz I hN hi hx r (fun _ I'=>⟨_,H,I',h⟩) hf)
def qJ4:TGs:=fun vs σ H Q=>vs=[]/\Q σ H
def qEJ(t:TG)(u:TGs):TGs:=fun vs σ H Q => ∃ v r,vs=v::r/\t v σ H fun σ' H'=>u r σ' H' Q
theorem t7:PGs X [] qJ4:=by
 intro _ s σ H _ _ Q I r h;obtain⟨e,h⟩:=h;subst e
 cases r
 exact assignInOrder_nil ⟨σ,H,I,h⟩
theorem dI(h1:PG X e t)(h2:PGs X es u)
  (hs:(assignEach (e::es) X.env).map (·.2)=assign e X.env::(assignEach es X.env).map (·.2):=by rfl):PGs X (e::es) (qEJ t u):=by
 intro pins s σ H _ _ Q I r h;obtain⟨v,_,e1,h⟩:=h;subst e1
 cases r with
 | cons r rr=>
  rw[hs];refine assignInOrder_cons (bI (h1 pins s σ H _ _ _ I r h) fun _ s1 ⟨σ1,H1,I1,q1⟩=>?_);exact h2 pins s1 σ1 H1 _ _ Q I1 rr q1
def qJ2(K:cL)(n:Nat)(t:TGs):TG:=fun v σ H Q => ∃ a xs,v = .ref a/\aM K H a xs/\xs.length=n/\t xs σ H Q
theorem xX(hc:X.calm=true)(h:PGs X es t)
  (hn:(assignEach es X.env).length=n:=by rfl) (hst:(assignEach es X.env).findIdx? (·.1)=none:=by rfl):PG X (.Tuple es k pos) (qJ2 X.K n t):=by
 intro pins s σ H v u Q I r hw;obtain⟨a,xs,e1,hq,hl,hw⟩:=hw;subst e1
 cases r
 obtain⟨_,rv,ht,_⟩:=I.tuple hq;refine assign_Tuple_tuple (I.ok.hd hc) ht (by simp [hn,<-hl,rv.length]) hst fun h' hx=>?_;have I1:Inv X pins σ H { s with heap:=h' }:=I.kept (t':=s.toks) fun b o e=>hx b o (lO (iU e)) e;exact h pins _ σ H xs _ Q I1 (by simpa using rv) hw
def qJ3(to ti:TE)(t:qG7):TG:=fun v σ H Q=>to σ H fun o H1=>ti σ H1 fun i H2=>t o i v H2 fun H3=>Q σ H3
theorem K1(ho:PE X o to)(hi:PE X i ti)(hs:qG8 X t)
  (ha:∀ v,assign (.Subscript o i pos) X.env v=(do
   let ov ← holding [v] (eval o X.env)
   let iv ← holding [v,ov] (eval i X.env)
   standAt pos
   holding [v,ov,iv] (setItem ov iv v)
   release [v,ov,iv] []):=by intro _;rfl):PG X (.Subscript o i pos) (qJ3 to ti t):=by intro pins s σ H v u Q I r h;rw[ha];refine aS (cm (bI (ho pins s σ H _ I h) fun ov s1 ⟨x,H1,I1,r1,q1⟩=>?_));refine aS (cm (bI (hi pins s1 σ H1 _ I1 q1) fun iv s2 ⟨y,H2,I2,r2,q2⟩=>?_));refine aS (wpAny_standAt (aS (cm (bI (hs pins s2 σ H2 x y v ov iv u _ I2 r1 r2 r q2) fun _ _ ⟨H3,I3,q3⟩=>?_))));exact wpAny_release ⟨σ,H3,I3,q3⟩
def RJ(te:TE)(g:TG):TS:=fun D σ H=>te σ H fun x H1=>g x σ H1 D.nx
theorem xW(he:PE X e te)(hg:PG X tg g)(hs:swapsWithSole [tg] e pos.line X.env=pure false:=by rfl)(hw:swappedStores [tg] e X.env=pure none:=by rfl)
  (h1:(assignEach [tg] X.env).map (·.2)=[assign tg X.env]:=by rfl):PS X (.Assign [tg] e pos) (RJ te g):=by intro pins s σ H D I h;refine wpAny_Assign_stores (bI (he pins s σ H _ I h) fun v s1 ⟨x,H1,I1,r1,q1⟩=>?_) hs hw;rw[h1];exact bI (hg pins s1 σ H1 x v _ I1 r1 q1) fun _ _ q=>q
theorem zK(hN:X.N.Nodup)(hi:X.N[i]? = some x)(hx:Loc X.env.scope x)(he:PE X e te)(hs:swapsWith e (some (.Name x pos')) pos.line X.env=pure false:=by rfl)(hf:X.fn x=true∨X.env.scope.names.lookup x=some .local:=by ext z) :
  PS X (.Assign [.Name x pos'] e pos) (RJ te (Ie i)):=by intro pins s σ H D I h;refine wpAny_Assign_Name (bI (he pins s σ H _ I h) fun v _ ⟨y,H1,I1,r1,q1⟩=>?_) hs;exact jz I1 hN hi hx r1 (fun _ I2=>⟨_,H1,I2,q1⟩) hf
def qGR(i:Nat)(te:TE)(ti:TIp):TS:=fun D σ H => ∃ x,σ[i]? = some (some x)/\te σ H fun y H1=>ti x y H1 fun z H2=>D.nx (σ.set i (some z)) H2
theorem Jy(hN:X.N.Nodup)(hi:X.N[i]? = some x)(hx:Loc X.env.scope x)(he:PE X e te)(ho:PIp X op ti)(hf:X.fn x=true∨X.env.scope.names.lookup x=some .local:=by ext z) :
  PS X (.AugAssign (.Name x pos') op e pos) (qGR i te ti):=by
 intro pins s σ H D I h;obtain⟨v,e1,h⟩:=h;obtain⟨m,hn,hl⟩:=I.loc
 have vis:Vis X.env.scope x:=by rcases hx with k | k;exact .inl k;exact .inr (.inl k)
 obtain⟨u,r,l⟩:=hl i x v hi e1 vis;refine wpAny_AugAssign_Name ?_
 have go:wpAny (model X.prog X.w) X.A (eval e X.env) (fun w s₂=>wpAny (model X.prog X.w) X.A (inplaceOp op u w) (fun r s₃=>wpAny (model X.prog X.w) X.A (storeName X.env x r) (fun _=>SP X pins D .next) X.xe s₃) X.xe s₂) X.xe s:=by
  refine bI (he pins s σ H _ I h) fun w s1 ⟨y,H1,I1,r1,q1⟩=>?_;refine bI (ho pins s1 σ H1 v y u w _ I1 r r1 q1) fun z _ ⟨_,H2,I2,r2,q2⟩=>?_;exact jz I2 hN hi hx r2 (fun _ I3=>⟨_,H2,I3,q2⟩) hf
 rcases l with ⟨hk,hm⟩ | ⟨hk,c,hc,hcell⟩
 .exact wpAny_loadName_local I.ok.kind hk hn hm go
 .rcases hk with hk | hk
  .exact wpAny_loadName_cell I.ok.kind hk hc hcell go
  .rcases hx with k | k
   .have:X.env.scope.names.lookup x=some .free:=hk;rw[k]at this;cases this
   .have:X.env.scope.names.lookup x=some .free:=hk;rw[k]at this;cases this
def ipI(f:Int->Int->Int):TIp:=fun x y H Q => ∃ i j,x = .int i/\y = .int j/\Q (.int (f i j)) H
theorem Km:PIp X .Add (ipI fun i j=>i+j):=by intro _ s σ H x y v u Q I r1 r2 h;obtain⟨i,j,e1,e2,q⟩:=h;subst e1;subst e2;obtain⟨t,rfl⟩:=r1;obtain⟨_,rfl⟩:=r2;exact iadd_int ⟨.int _,H,I.tok _,⟨_,rfl⟩,q⟩
def Zh(c:TT)(tb:TS):TS:=fun D σ H => ∃ W:Nat->St->Hp->Prop,(∃ m,W m σ H)/\∀ m σ H,W m σ H →
 c σ H fun b H1=>if b=true then ∃ N:St->Hp->Prop,(∀ σ' H',N σ' H'->∃ m',m'<m/\W m' σ' H')/\tb { D with nx:=N,ct:=N,bk:=D.nx } σ H1 else D.nx σ H1
theorem kY(hp:PassesOwn (model X.prog X.w) X.A X.env X.xe)(hc:PT X c tc)(hb:FT X body tb):PS X (.While c body [] pos) (Zh tc tb):=by
 intro pins s σ H D I h;obtain⟨W,⟨m0,w0⟩,turn⟩:=h;refine wpAny_While (codeAny_whileLoop (fun n s'=>∃ σ' H',Inv X pins σ' H' s'/\W n σ' H') ?_ m0 ⟨σ,H,I,w0⟩);rintro n s1 ⟨σ1,H1,I1,w1⟩;refine wpAny_passesOwn hp (bI (hc pins s1 σ1 H1 _ I1 (turn n σ1 H1 w1)) fun b s2 ⟨H2,I2,q2⟩=>?_)
 cases b with
 | true=>
  obtain⟨N,hN,q2⟩:=q2;rw[cE rfl];refine wpAny_passesOwn hp (bI (hb pins s2 σ1 H2 _ I2 q2) fun f _ q3=>?_)
  cases f with
  | next=>
   obtain⟨σ3,H3,I3,n3⟩:=q3;obtain⟨m',hm,w3⟩:=hN σ3 H3 n3;exact⟨m',hm,σ3,H3,I3,w3⟩
  | cont=>
   obtain⟨σ3,H3,I3,n3⟩:=q3;obtain⟨m',hm,w3⟩:=hN σ3 H3 n3;exact⟨m',hm,σ3,H3,I3,w3⟩
  | brk=>exact q3
  | ret v=>exact q3
 | false=>
  rw[cy qg];exact wpAny_execs_nil ⟨σ1,H2,I2,q2⟩
end
structure It where
 go:Nat->Hp->Prop
 WD:Nat->Hp->V->Hp->Prop
 stop:Nat->Hp->Prop
def iR(X:Cx)(pins:ay (av×Obj))(H:Hp)(b:av):Prop:=
 H b=none/\b≠X.env.locals/\b∉X.fs/\(b∈X.ex∨X.s₀.heap.objs.size<=b)/\(∀ x c,X.env.cells.lookup x=some c->c≠b)/\∀ p∈X.pn++pins,p.1≠b
theorem Inv.ym(I:Inv X pins σ H s)(hb:s.heap.objs.size<=b)(hn:H' b=none):iR X pins H' b:=by
 refine⟨hn,iN (zm I.lt hb),I.qHF hb,.inr (bq I.sz hb),fun x c e z=>?_,fun p hp z=>?_⟩
 .obtain⟨v,q⟩:=I.cell x c e;exact dP (zm q.lt (by rw[z];exact hb)) (i0 _)
 .exact dP (zm (iU (I.pin p hp).1) (by rw[z];exact hb)) (i0 _)
structure Turn(P:Program)(w:World)(K:cL)(tg:Expr)(J:It)(fp:List Addr)(it:Addr)(tn:Nat->Heap->Prop):Prop where
 mem:it∈fp
 obj:∀ i h,tn i h->∀ b∈fp,∃ o,h.get? b=some o/\∀ v,o.data≠.cell v
 keep:∀ i h h',tn i h->(∀ b∈fp,∀ o,h.get? b=some o->h'.get? b=some o)->tn i h'
 item:∀(X:Cx),X.prog=P->X.w=w->X.K=K->X.calm=true->∀(i:Nat)(pins:List (Addr×Obj))(s:Shared)(σ:St)(H:Hp)(E:Value->Shared->Prop),Inv X pins σ H s->(∀ b∈fp,iR X pins H b)->tn i s.heap->J.go i H →
  wpAny (model P w) X.A (pyNext (.ref it)) (fun r s1 => ∃ u,r=some u ∧
   wpAny (model P w) X.A (letOwnedTupleGo tg (.ref it) u) (fun _ s2 => ∃ x H',Inv X pins σ H' s2/\RelV x u/\J.WD i H x H'/\tn (i+1) s2.heap/\∀ b∈fp,H' b=none) E s1) E s
 done:∀(X:Cx),X.prog=P->X.w=w->X.K=K->X.calm=true->∀(i:Nat)(pins:List (Addr×Obj))(s:Shared)(σ:St)(H:Hp)(E:Value->Shared->Prop),Inv X pins σ H s->(∀ b∈fp,iR X pins H b)->tn i s.heap->J.stop i H →
  wpAny (model P w) X.A (pyNext (.ref it)) (fun r s1=>r=none/\Inv X pins σ H s1) E s
 self:∀(A:Around)(i:Nat)(s:Shared)(Q E:Value->Shared->Prop),tn i s.heap->Q (.ref it) s->wpAny (model P w) A (pyIter (.ref it)) Q E s
abbrev TI:=St->Hp->(It->Hp->Prop)->Prop
def PIE(X:Cx)(pins:ay (av×Obj))(σ:St)(tg:Expr)(R:It->Hp->Prop)(itv:ax)(s2:ae):Prop:=
 ∃(it:av)(fp:ay av)(tn:Nat->Heap->Prop)(J:It)(H':Hp),itv = .ref it/\Inv X pins σ H' s2/\Turn X.prog X.w X.K tg J fp it tn/\tn 0 s2.heap/\(∀ b∈fp,iR X pins H' b)/\R J H'
def PI(X:Cx)(tg iter:Expr)(wi:TI):Prop:=
 ∀(pins:ay (av×Obj))(s:ae)(σ:St)(H:Hp)(R:It->Hp->Prop),Inv X pins σ H s->wi σ H R →
  wpAny (model X.prog X.w) X.A (eval iter X.env) (fun v s1=>wpAny (model X.prog X.w) X.A (pyIter v) (PIE X pins σ tg R) X.xe s1) X.xe s
theorem O4(ho:s.heap.get? it=some o)(hc:o.cls = .type n)(hd:o.data = .fields vs)
  (hn:["enumerate","zip","dict_itemiterator","dict_reverseitemiterator","odict_iterator","itertools.zip_longest","itertools.pairwise"].contains n=false) (hQ:Q () s):wpAny M A (letOwnedTupleGo tg (.ref it) u) Q E s:=by
 unfold letOwnedTupleGo
 cases tg <;> first
  | exact aT hQ
  | (cases u <;> first
    | exact aT hQ
    | (refine aS (wpAny_load ho ?_)
       rw[hc,hd];show wpAny M A (if (["enumerate","zip","dict_itemiterator","dict_reverseitemiterator","odict_iterator","itertools.zip_longest","itertools.pairwise"].contains n&&vs[0]?==some (rawInt _))=true then _ else _) Q E s;rw[cy (by intro h;rw[hn,eu]at h;cases h)]
       exact aT hQ))
def Itl(K:cL)(a:av):It:=
 ⟨fun i H => ∃ xs x,aV K H a xs/\xs[i]? = some x,fun i H x H'=>H'=H/\∀ xs,aV K H a xs->xs[i]? = some x,fun i H => ∃ xs,aV K H a xs/\xs.length<=i⟩
def Itt(K:cL)(a:av):It:=
 ⟨fun i H => ∃ xs x,aM K H a xs/\xs[i]? = some x,fun i H x H'=>H'=H/\∀ xs,aM K H a xs->xs[i]? = some x,fun i H => ∃ xs,aM K H a xs/\xs.length<=i⟩
def Ye(lo:Int)(n:Nat):It:=⟨fun i _=>i<n,fun i H x H'=>H'=H/\x = .int (lo+i),fun i _=>n<=i⟩
theorem Ov{P:ag}{w:aI}{K:cL}{tg:Expr}(a it:av):Turn P w K tg (Itl K a) [it] it (fun i h=>h.IsListIter it a i) where
 mem:=by simp
 obj:=fun i h st b hb=>by
  have e:b=it:=by simpa using hb
  subst e;obtain⟨o,e,c,d⟩:=st;exact⟨o,e,fun v z=>by rw[d]at z;cases z⟩
 keep:=fun i h h' st k=>st.at fun o e=>k it (by simp) o e
 item:=by
  intro X hP hw hK hc i pins s σ H E I hf st hg;subst hP hw hK;obtain⟨xs,x,hq,hx⟩:=hg;obtain⟨its,rv,p,hz⟩:=I.list hq;obtain⟨u,hu,ru⟩:=rv.get hx;obtain⟨f0,f1,f2,f3,f4,f5⟩:=hf it (by simp);refine wpAny_pyNext_list_item st p.isList (x:=u) (by simpa using hu) fun h' st' sb=>?_;have I1:Inv X pins σ H { s with heap:=h' }:=I.turned (t':=s.toks) (fun b o hb e=>(sb.2 b hb).trans e) f0 f1 f3 f4 f5;obtain⟨o,e,c,d⟩:=id st';exact⟨u,rfl,O4 (s:={ s with heap:=h' }) e c d (by decide) ⟨x,H,I1,ru,⟨rfl,fun _ hy=>by rw[I.U0 hy hq];exact hx⟩,st',fun b hb=>(hf b hb).1⟩⟩
 done:=by
  intro X hP hw hK hc i pins s σ H E I hf st hg;subst hP hw hK;obtain⟨xs,hq,hx⟩:=hg;obtain⟨its,rv,p,hz⟩:=I.list hq;obtain⟨f0,f1,f2,f3,f4,f5⟩:=hf it (by simp);have hl:=rv.length;exact wpAny_pyNext_list_end (I.ok.hd hc) st p.isList (by simp;lia) fun h' eb=>⟨rfl,I.turned (t':=s.toks) (fun b o hb e=>eb b o hb e) f0 f1 f3 f4 f5⟩
 self:=fun _ _ _ _ _ st h=>wpAny_pyIter_listiter st h
theorem JZ{P:ag}{w:aI}{K:cL}{tg:Expr}(a it:av):Turn P w K tg (Itt K a) [it] it (fun i h=>h.IsTupleIter it a i) where
 mem:=by simp
 obj:=fun i h st b hb=>by
  have e:b=it:=by simpa using hb
  subst e;obtain⟨o,e,c,d⟩:=st;exact⟨o,e,fun v z=>by rw[d]at z;cases z⟩
 keep:=fun i h h' st k=>st.at fun o e=>k it (by simp) o e
 item:=by
  intro X hP hw hK hc i pins s σ H E I hf st hg;subst hP hw hK;obtain⟨xs,x,hq,hx⟩:=hg;obtain⟨its,rv,p,hz⟩:=I.tuple hq;obtain⟨u,hu,ru⟩:=rv.get hx;obtain⟨f0,f1,f2,f3,f4,f5⟩:=hf it (by simp);refine wpAny_pyNext_tuple_item st (show s.heap.IsTuple a its.toArray from p) (x:=u) (by simpa using hu) fun h' st' sb=>?_;have I1:Inv X pins σ H { s with heap:=h' }:=I.turned (t':=s.toks) (fun b o hb e=>(sb.2 b hb).trans e) f0 f1 f3 f4 f5;obtain⟨o,e,c,d⟩:=id st';exact⟨u,rfl,O4 (s:={ s with heap:=h' }) e c d (by decide) ⟨x,H,I1,ru,⟨rfl,fun _ hy=>by rw[I.BL hy hq];exact hx⟩,st',fun b hb=>(hf b hb).1⟩⟩
 done:=by
  intro X hP hw hK hc i pins s σ H E I hf st hg;subst hP hw hK;obtain⟨xs,hq,hx⟩:=hg;obtain⟨its,rv,p,hz⟩:=I.tuple hq;obtain⟨f0,f1,f2,f3,f4,f5⟩:=hf it (by simp);have hl:=rv.length;exact wpAny_pyNext_tuple_end (I.ok.hd hc) st (show s.heap.IsTuple a its.toArray from p) (by simp;lia) fun h' eb=>⟨rfl,I.turned (t':=s.toks) (fun b o hb e=>eb b o hb e) f0 f1 f3 f4 f5⟩
 self:=fun _ _ _ _ _ st h=>wpAny_pyIter_tupleiter st h
theorem Ja{P:ag}{w:aI}{K:cL}{tg:Expr}(it:av)(lo:Int)(n:Nat):Turn P w K tg (Ye lo n) [it] it (fun i h=>IsRangeIter h it (lo+(i:Nat)*1) ((n:Int)-(i:Nat)) 1) where
 mem:=by simp
 obj:=fun i h st b hb=>by
  have e:b=it:=by simpa using hb
  subst e
  exact⟨_,st,fun v z=>by
   have z':Data.fields _=Data.cell v:=z
   cases z'⟩
 keep:=fun i h h' st k=>k it (by simp) _ st
 item:=by
  intro X hP hw hK hc i pins s σ H E I hf st hg;subst hP hw hK;obtain⟨f0,f1,f2,f3,f4,f5⟩:=hf it (by simp);have W:=Walks.range (prog:=X.prog) (w:=X.w) (I.ok.hd hc) it lo 1 n;refine W.item i s _ _ hg st fun v h' tk hv st' kk=>?_;obtain⟨t,rfl⟩:=hv;have I1:Inv X pins σ H { s with heap:=h',toks:=tk }:=I.turned (fun b o hb e=>kk b o (by simpa using hb) e) f0 f1 f3 f4 f5;refine⟨_,rfl,O4 (s:={ s with heap:=h',toks:=tk }) (n := "range_iterator") st' rfl rfl (by decide) ⟨.int (lo+i),H,I1,⟨t,?_⟩,⟨rfl,rfl⟩,st',fun b hb=>(hf b hb).1⟩⟩;rw[Int.mul_one]
 done:=by
  intro X hP hw hK hc i pins s σ H E I hf st hg;subst hP hw hK;obtain⟨f0,f1,f2,f3,f4,f5⟩:=hf it (by simp);exact wpAny_pyNext_range_end (I.ok.hd hc) st (by have:n<=i:=hg;lia) fun h' eb=>⟨rfl,I.turned (t':=s.toks) (fun b o hb e=>eb b o hb e) f0 f1 f3 f4 f5⟩
 self:=fun _ _ _ _ _ st h=>wpAny_pyIter_rangeiter st h
section
variable{X:Cx}{tg:Expr}
def qE0(K:cL)(tl:TE):TI:=fun σ H R=>tl σ H fun x H1 => ∃ a,x = .ref a/\(∃ xs,aV K H1 a xs)/\R (Itl K a) H1
def qHP(K:cL)(tl:TE):TI:=fun σ H R=>tl σ H fun x H1 => ∃ a,x = .ref a/\(∃ xs,aM K H1 a xs)/\R (Itt K a) H1
theorem yM{l:Expr}{tl:TE}(hl:PE X l tl):PI X tg l (qE0 X.K tl):=by
 intro pins s σ H R I h;refine bI (hl pins s σ H _ I h) fun v s1 ⟨x,H1,I1,r1,q1⟩=>?_;obtain⟨a,e,⟨_,hq⟩,q⟩:=q1;subst e
 cases r1
 obtain⟨_,_,p,_⟩:=I1.list hq;refine wpAny_pyIter_list p.isList ?_;refine⟨s1.heap.objs.size,[s1.heap.objs.size],_,_,H1,rfl,I1.kept (t':=s1.toks) fun b o e=>j8 _ e,Ov a _,⟨_,zr _ rfl,rfl,rfl⟩,fun b hb=>?_,q⟩
 have e:b=s1.heap.objs.size:=by simpa using hb
 subst e;exact I1.ym (bN _) (I1.hok.fresh (bN _))
theorem oJ{l:Expr}{tl:TE}(hl:PE X l tl):PI X tg l (qHP X.K tl):=by
 intro pins s σ H R I h;refine bI (hl pins s σ H _ I h) fun v s1 ⟨x,H1,I1,r1,q1⟩=>?_;obtain⟨a,e,⟨_,hq⟩,q⟩:=q1;subst e
 cases r1
 obtain⟨its,_,p,_⟩:=I1.tuple hq;refine wpAny_pyIter_tuple (show s1.heap.IsTuple a its.toArray from p) ?_;refine⟨s1.heap.objs.size,[s1.heap.objs.size],_,_,H1,rfl,I1.kept (t':=s1.toks) fun b o e=>j8 _ e,JZ a _,⟨_,zr _ rfl,rfl,rfl⟩,fun b hb=>?_,q⟩
 have e:b=s1.heap.objs.size:=by simpa using hb
 subst e;exact I1.ym (bN _) (I1.hok.fresh (bN _))
theorem Gi{pins:ay (av×Obj)}{σ:St}{H:Hp}{s:ae}{R:It->Hp->Prop}{E:ax->ae->Prop}{lo hi:Int}{t u v:Tok}{tk:Nat}(I:Inv X pins σ H s)(h1 : -(2 ^ 62)<=lo)(h2:lo<2 ^ 62)(h3 : -(2 ^ 62)<=hi)(h4:hi<2 ^ 62)
  (q:R (Ye lo (hi-lo).toNat) H):wpAny (model X.prog X.w) X.A (pyIter (.ref s.heap.objs.size)) (PIE X pins σ tg R) E { s with heap:=s.heap.push { cls:=.type "range",data:=.fields #[.int lo t,.int hi u,.int 1 v] },toks:=tk }:=by
 refine wpAny_pyIter_range (IsRange.new ..) (small_one h1 h2 h3 h4) ?_;have I1:Inv X pins σ H { s with heap:=s.heap.push { cls:=.type "range",data:=.fields #[.int lo t,.int hi u,.int 1 v] },toks:=tk }:=I.kept fun b o e=>j8 _ e
 refine⟨(s.heap.push { cls:=.type "range",data:=.fields #[.int lo t,.int hi u,.int 1 v] }).objs.size,[(s.heap.push { cls:=.type "range",data:=.fields #[.int lo t,.int hi u,.int 1 v] }).objs.size],_,_,H,rfl,
  I1.kept (t':=tk) fun b o e=>j8 _ e,Ja _ lo (hi-lo).toNat,?_,fun b hb=>?_,q⟩
 .have e1:lo+((0:Nat):Int)*1=lo:=by simp
  have e2:(((hi-lo).toNat:Nat):Int)-((0:Nat):Int)=Builtin.Range.rangeSize lo hi 1:=by rw[rangeSize_one];split <;> lia
  show IsRangeIter _ _ (lo+((0:Nat):Int)*1) ((((hi-lo).toNat:Nat):Int)-((0:Nat):Int)) 1;rw[e1,e2];exact zr _ rfl
 .have e:b=(s.heap.push { cls:=.type "range",data:=.fields #[.int lo t,.int hi u,.int 1 v] }).objs.size:=by simpa using hb
  subst e;exact I1.ym (bN _) (I1.hok.fresh (bN _))
def qDT(ta:TA):TI:=fun σ H R=>ta σ H fun vs H1 => ∃ j:Int,vs=[.int j] /\ -(2 ^ 62)<=j/\j<2 ^ 62/\R (Ye 0 j.toNat) H1
def qDS(ta:TA):TI:=fun σ H R=>ta σ H fun vs H1 => ∃ i j:Int,vs=[.int i,.int j]/\(-(2 ^ 62)<=i/\i<2 ^ 62 /\ -(2 ^ 62)<=j/\j<2 ^ 62)/\R (Ye i (j-i).toNat) H1
theorem bM{a:Expr}{ta:TA}{p pos:Pos}(hg:Gl X "range")(hm:X.mg "range" = none)(ha:PA X [a] ta)(hs:starEach [a] X.env=[(false,eval a X.env)]:=by rfl):PI X tg (.Call (.Name "range" p) [a] [] pos) (qDT ta):=by
 intro pins s σ H R I h;refine Call_ (oW I hg hm boot_range (kf (bI (ha pos pins s σ H _ I h) fun _ _ ⟨_,_,I1,r1,q1⟩=>?_) hs rfl));obtain⟨j,e,q1,q2,q⟩:=q1;subst e
 cases r1 with
 | cons r rr=>
  cases rr
  obtain⟨t,rfl⟩:=r;exact call_range_1 (Gi I1 (by lia) (by lia) q1 q2 (by simpa using q))
theorem ue(hg:Gl X "range")(hm:X.mg "range" = none)(ha:PA X [a,b] ta)(hs:starEach [a,b] X.env=[(false,eval a X.env),(false,eval b X.env)]:=by rfl)(hs2:starEach [b] X.env=[(false,eval b X.env)]:=by rfl) :
  PI X tg (.Call (.Name "range" p) [a,b] [] pos) (qDS ta):=by
 intro pins s σ H R I h;refine Call_ (oW I hg hm boot_range (kf (bI (ha pos pins s σ H _ I h) fun _ _ ⟨_,_,I1,r1,q1⟩=>?_) (by rw[hs,hs2]) (by rw[hs2];rfl)));obtain⟨i,j,e,⟨q1,q2,q3,q4⟩,q⟩:=q1;subst e
 cases r1 with
 | cons r rr=>
  cases rr with
  | cons r' rr=>
   cases rr
   obtain⟨t,rfl⟩:=r;obtain⟨_,rfl⟩:=r';exact call_range_2 (Gi I1 q1 q2 q3 q4 q)
def qGO(wi:TI)(g:TG)(tb:TS):TS:=fun D σ H=>wi σ H fun J H1 => ∃ W:Nat->Nat->St->Hp->Prop,(∃ m,W 0 m σ H1)/\∀ i m σ H,W i m σ H →
 (J.stop i H/\D.nx σ H)∨(J.go i H/\∃ N:St->Hp->Prop,(∀ σ' H',N σ' H'->∃ m',m'<m/\W (i+1) m' σ' H')/\∀ x H',J.WD i H x H'->g x σ H' fun σ2 H2=>tb { D with nx:=N,ct:=N,bk:=D.nx } σ2 H2)
def ud(fp:ay av)(h:Heap):ay (av×Obj):=fp.filterMap fun b=>(h.get? b).map fun o=>(b,o)
theorem mK(hb:b∈fp)(e:h.get? b=some o):(b,o)∈ud fp h:=List.mem_filterMap.mpr ⟨b,hb,by rw[e];rfl⟩
theorem Py(hp:p∈ud fp h):p.1∈fp/\h.get? p.1=some p.2:=by
 obtain⟨b,hb,e⟩:=List.mem_filterMap.mp hp
 cases q:h.get? b with
 | none=>rw[q]at e;cases e
 | some o=>
  rw[q]at e;have e':(b,o)=p:=jX e;subst e';exact⟨hb,q⟩
theorem Inv.pinned(I:Inv X pins σ H s)(hf:∀ b∈fp,iR X pins H b)(ho:∀ b∈fp,∃ o,s.heap.get? b=some o/\∀ v,o.data≠.cell v):Inv X (pins++ud fp s.heap) σ H s:=
 I.t6 fun p hp=>(cH.mp hp).elim (fun z=>I.pin p (fw _ z)) fun z=>by
  obtain⟨hb,e⟩:=Py z;obtain⟨f0,f1,f2,_⟩:=hf p.1 hb;obtain⟨o,e',d⟩:=ho p.1 hb;rw[e]at e';cases e';exact⟨e,f0,f1,f2,d⟩
theorem Inv.wU(I:Inv X (pins++pl) σ H s):Inv X pins σ H s:=I.t6 fun p hp=>I.pin p (fw _ (ft _ hp))
theorem cC(hp:PassesOwn (model X.prog X.w) X.A X.env X.xe)(hc:X.calm=true)(hi:PI X tg iter wi)(hg:PG X tg g)(hb:FT X body tb)
  (hs:∀ x,foldedSetIterable iter X.env x=pure x:=by intro _;rfl):PS X (.For tg iter body [] pos) (qGO wi g tb):=by
 intro pins s σ H D I h;refine wpAny_For (bI (hi pins s σ H _ I h) fun v _ h1=>bI h1 fun _ _ h2=>?_) hs;obtain⟨_,fp,tn,J,H2,e,I2,T,st2,f2,W,⟨m0,w0⟩,turn⟩:=h2;subst e;have stat:∀ {H':Hp},(∀ b∈fp,H' b=none)->∀ b∈fp,iR X pins H' b:=fun hn b hb=>⟨hn b hb,(f2 b hb).2⟩;refine codeAny_forLoop_any (fun n s'=>∃ i σ' H',Inv X pins σ' H' s'/\tn i s'.heap/\(∀ b∈fp,H' b=none)/\W i n σ' H') ?_ m0 ⟨0,σ,H2,I2,st2,fun b hb=>(f2 b hb).1,w0⟩;rintro n s3 ⟨i,σ3,H3,I3,st3,fr3,w3⟩;rcases turn i n σ3 H3 w3 with ⟨stop,qn⟩ | ⟨go,N,hN,step⟩
 .refine wpAny_passesOwn hp (bI (T.done X rfl rfl rfl hc i pins s3 σ3 H3 X.xe I3 (stat fr3) st3 stop) fun r s4 ⟨hr,I4⟩=>?_);subst hr;exact wpAny_execs_nil ⟨σ3,H3,I4,qn⟩
 .refine wpAny_passesOwn hp (bI (T.item X rfl rfl rfl hc i pins s3 σ3 H3 X.xe I3 (stat fr3) st3 go) fun r s4 ⟨u,hr,h4⟩=>?_);subst hr;refine wpAny_passesOwn hp (bI h4 fun _ s5 ⟨x,H5,I5,r5,y5,rJ,fr5⟩=>?_);have I5':=I5.pinned (stat fr5) (T.obj _ _ rJ);refine wpAny_passesOwn hp (bI (hg _ s5 σ3 H5 x u _ I5' r5 (step x H5 y5)) fun _ s6 ⟨σ6,H6,I6,q6⟩=>?_);refine wpAny_passesOwn hp (bI (hb _ s6 σ6 H6 _ I6 q6) fun f s7 q7=>?_)
  have again:∀ {σ7:St} {H7:Hp},Inv X (pins++ud fp s5.heap) σ7 H7 s7->N σ7 H7->∃ m,m<n/\∃ i σ' H',Inv X pins σ' H' s7/\tn i s7.heap/\(∀ b∈fp,H' b=none)/\W i m σ' H':=fun {σ7 H7} I7 n7=>by
   obtain⟨m',hm,w7⟩:=hN σ7 H7 n7;refine⟨m',hm,i+1,σ7,H7,I7.wU,T.keep _ _ _ rJ fun b hb o e=>(I7.pin (b,o) (fw _ (fw _ (mK hb e)))).1,fun b hb=>?_,w7⟩;obtain⟨o,e,d⟩:=T.obj _ _ rJ b hb;exact (I7.pin (b,o) (fw _ (fw _ (mK hb e)))).2.1
  cases f with
  | next=>obtain⟨σ7,H7,I7,n7⟩:=q7;exact again I7 n7
  | cont=>obtain⟨σ7,H7,I7,n7⟩:=q7;exact again I7 n7
  | brk=>obtain⟨σ7,H7,I7,q7⟩:=q7;exact⟨σ7,H7,I7.wU,q7⟩
  | ret v=>obtain⟨x7,σ7,H7,I7,r7,q7⟩:=q7;exact⟨x7,σ7,H7,I7.wU,r7,q7⟩
end
theorem lH{K:cL}{a:av}{xs:ay V}{g:TG}{tb:TS}{D:Ends}{σ:St}{H:Hp}(Pv:Nat->St->Hp->Prop)(h0:Pv 0 σ H)(hl:∀ i σ H,i<=xs.length->Pv i σ H->aV K H a xs)
  (hs:∀ i x σ H,xs[i]? = some x->Pv i σ H->g x σ H fun σ2 H2=>tb { D with nx:=Pv (i+1),ct:=Pv (i+1),bk:=D.nx } σ2 H2) (hd:∀ σ H,Pv xs.length σ H->D.nx σ H) :
  ∃ W:Nat->Nat->St->Hp->Prop,(∃ m,W 0 m σ H)/\∀ i m σ H,W i m σ H →
   ((Itl K a).stop i H/\D.nx σ H)∨((Itl K a).go i H/\∃ N:St->Hp->Prop,(∀ σ' H',N σ' H'->∃ m',m'<m/\W (i+1) m' σ' H')/\∀ x H',(Itl K a).WD i H x H'->g x σ H' fun σ2 H2=>tb { D with nx:=N,ct:=N,bk:=D.nx } σ2 H2):=by
 refine⟨fun i m σ H=>m=xs.length-i/\i<=xs.length/\Pv i σ H,⟨xs.length,by simp,Nat.zero_le _,h0⟩,?_⟩;rintro i m σ H ⟨rfl,hi,p⟩;have q:=hl i σ H hi p
 by_cases hlt:i<xs.length
 .refine .inr ⟨⟨xs,xs[i],q,by simp [hlt]⟩,Pv (i+1),fun σ' H' p'=>⟨xs.length-(i+1),by lia,rfl,hlt,p'⟩,fun x H' y=>?_⟩;obtain⟨e,y⟩:=y;subst e;exact hs i x σ _ (y xs q) p
 .have e:i=xs.length:=by lia
  subst e;exact .inl ⟨⟨xs,q,bN _⟩,hd σ H p⟩
theorem YF{K:cL}{a:av}{xs:ay V}{g:TG}{tb:TS}{D:Ends}{σ:St}{H:Hp}(Pv:Nat->St->Hp->Prop)(h0:Pv 0 σ H)(hl:∀ i σ H,i<=xs.length->Pv i σ H->aM K H a xs)
  (hs:∀ i x σ H,xs[i]? = some x->Pv i σ H->g x σ H fun σ2 H2=>tb { D with nx:=Pv (i+1),ct:=Pv (i+1),bk:=D.nx } σ2 H2) (hd:∀ σ H,Pv xs.length σ H->D.nx σ H) :
  ∃ W:Nat->Nat->St->Hp->Prop,(∃ m,W 0 m σ H)/\∀ i m σ H,W i m σ H →
   ((Itt K a).stop i H/\D.nx σ H)∨((Itt K a).go i H/\∃ N:St->Hp->Prop,(∀ σ' H',N σ' H'->∃ m',m'<m/\W (i+1) m' σ' H')/\∀ x H',(Itt K a).WD i H x H'->g x σ H' fun σ2 H2=>tb { D with nx:=N,ct:=N,bk:=D.nx } σ2 H2):=by
 refine⟨fun i m σ H=>m=xs.length-i/\i<=xs.length/\Pv i σ H,⟨xs.length,by simp,Nat.zero_le _,h0⟩,?_⟩;rintro i m σ H ⟨rfl,hi,p⟩;have q:=hl i σ H hi p
 by_cases hlt:i<xs.length
 .refine .inr ⟨⟨xs,xs[i],q,by simp [hlt]⟩,Pv (i+1),fun σ' H' p'=>⟨xs.length-(i+1),by lia,rfl,hlt,p'⟩,fun x H' y=>?_⟩;obtain⟨e,y⟩:=y;subst e;exact hs i x σ _ (y xs q) p
 .have e:i=xs.length:=by lia
  subst e;exact .inl ⟨⟨xs,q,bN _⟩,hd σ H p⟩
theorem bu{lo:Int}{n:Nat}{g:TG}{tb:TS}{D:Ends}{σ:St}{H:Hp}(Pv:Nat->St->Hp->Prop)(h0:Pv 0 σ H)
  (hs:∀ i σ H,i<n->Pv i σ H->g (.int (lo+i)) σ H fun σ2 H2=>tb { D with nx:=Pv (i+1),ct:=Pv (i+1),bk:=D.nx } σ2 H2) (hd:∀ σ H,Pv n σ H->D.nx σ H) :
  ∃ W:Nat->Nat->St->Hp->Prop,(∃ m,W 0 m σ H)/\∀ i m σ H,W i m σ H →
   ((Ye lo n).stop i H/\D.nx σ H)∨((Ye lo n).go i H/\∃ N:St->Hp->Prop,(∀ σ' H',N σ' H'->∃ m',m'<m/\W (i+1) m' σ' H')/\∀ x H',(Ye lo n).WD i H x H'->g x σ H' fun σ2 H2=>tb { D with nx:=N,ct:=N,bk:=D.nx } σ2 H2):=by
 refine⟨fun i m σ H=>m=n-i/\i<=n/\Pv i σ H,⟨n,by simp,Nat.zero_le _,h0⟩,?_⟩;rintro i m σ H ⟨rfl,_,p⟩
 by_cases hlt:i<n
 .refine .inr ⟨hlt,Pv (i+1),fun σ' H' p'=>⟨n-(i+1),by lia,rfl,hlt,p'⟩,fun x H' y=>?_⟩;obtain⟨e,y⟩:=y;subst e y;exact hs i σ _ hlt p
 .have e:i=n:=by lia
  subst e;exact .inl ⟨bN _,hd σ H p⟩
abbrev R2:=V->V->Hp->VK->Prop
def jh(X:Cx)(f:ax->ax->Sem ax)(r:R2):Prop:=
 ∀(pins:ay (av×Obj))(s:ae)(σ:St)(H:Hp)(x y:V)(v u:ax)(Q:VK),Inv X pins σ H s->RelV x v->RelV y u->r x y H Q →
  wpAny (model X.prog X.w) X.A (f v u) (EP X pins σ Q) X.xe s
def UnR(X:Cx)(f:ax->Sem ax)(r:V->Hp->VK->Prop):Prop:=
 ∀(pins:ay (av×Obj))(s:ae)(σ:St)(H:Hp)(x:V)(v:ax)(Q:VK),Inv X pins σ H s->RelV x v->r x H Q →
  wpAny (model X.prog X.w) X.A (f v) (EP X pins σ Q) X.xe s
def lN(X:Cx)(f:ax)(r:ay V->Hp->VK->Prop):Prop:=
 ∀(pins:ay (av×Obj))(s:ae)(σ:St)(H:Hp)(xs:ay V)(us:ay ax)(Q:VK),Inv X pins σ H s->Vals xs us->r xs H Q →
  wpAny (model X.prog X.w) X.A (call f us) (EP X pins σ Q) X.xe s
def tOp(r:R2)(ta tb:TE):TE:=fun σ H Q=>ta σ H fun x H1=>tb σ H1 fun y H2=>r x y H2 Q
def tUn(r:V->Hp->VK->Prop)(ta:TE):TE:=fun σ H Q=>ta σ H fun x H1=>r x H1 Q
def rI(C:Int->Int->Prop)(g:Int->Int->V):R2:=fun x y H Q => ∃ i j,x = .int i/\y = .int j/\C i j/\Q (g i j) H
def PQ(g:Int->Int->V):R2:=fun x y H Q => ∃ i j,x = .int i/\y = .int j/\Q (g i j) H
def rU(g:Int->V):V->Hp->VK->Prop:=fun x H Q => ∃ i,x = .int i/\Q (g i) H
section
variable{X:Cx}{a b c:Expr}{ta tb tc:TE}{pos:Pos}
theorem qBR(ha:PE X a ta)(hb:PE X b tb){pins:ay (av×Obj)}{s:ae}{σ:St}{H:Hp}{R:V->V->Hp->Prop}(I:Inv X pins σ H s)
  (h:ta σ H fun x H1=>tb σ H1 fun y H2=>R x y H2) {Q:ax->ae->Prop} {f:ax->ax->Sem ax}
  (hf:∀ v u s2 x y H2,Inv X pins σ H2 s2->RelV x v->RelV y u->R x y H2->wpAny (model X.prog X.w) X.A (f v u) Q X.xe s2) :
  wpAny (model X.prog X.w) X.A (eval a X.env) (fun v s₁=>wpAny (model X.prog X.w) X.A (eval b X.env) (fun u s₂=>wpAny (model X.prog X.w) X.A (f v u) Q X.xe s₂) X.xe s₁) X.xe s:=by refine bI (ha pins s σ H _ I h) fun v s1 ⟨x,H1,I1,r1,q1⟩=>?_;refine bI (hb pins s1 σ H1 _ I1 q1) fun u s2 ⟨y,H2,I2,r2,q2⟩=>?_;exact hf v u s2 x y H2 I2 r1 r2 q2
theorem yC{op:Operator}{r:R2}(ho:jh X (binaryOp op) r)(ha:PE X a ta)(hb:PE X b tb):PE X (.BinOp a op b pos) (tOp r ta tb):=by intro pins s σ H Q I h;exact wpAny_BinOp (qBR ha hb I h fun v u s2 x y H2 I2 rx ry q=>ho pins s2 σ H2 x y v u Q I2 rx ry q)
theorem S9(ho:UnR X (unaryOp op) r)(ha:PE X a ta):PE X (.UnaryOp op a pos) (tUn r ta):=by intro pins s σ H Q I h;exact UnaryOp_ (bI (ha pins s σ H _ I h) fun v s1 ⟨x,H1,I1,r1,q1⟩=>ho pins s1 σ H1 x v Q I1 r1 q1)
theorem opI{f:ax->ax->Sem ax}{C:Int->Int->Prop}{g:Int->Int->Int}
  (rule:∀(i j:Int)(t u:Tok)(s:ae)(Q E:ax->ae->Prop),C i j->Q (.int (g i j) s.toks) { s with toks:=s.toks+1 }->wpAny (model X.prog X.w) X.A (f (.int i t) (.int j u)) Q E s) :
  jh X f (rI C fun i j=>.int (g i j)):=by intro _ s σ H x y v u Q I rx ry h;obtain⟨i,j,rfl,rfl,hc,q⟩:=h;obtain⟨t,rfl⟩:=rx;obtain⟨t',rfl⟩:=ry;exact rule i j t t' s _ _ hc ⟨.int (g i j),H,I.tok _,⟨_,rfl⟩,q⟩
theorem qAC{f:ax->ax->Sem ax}{g:Int->Int->Int}
  (rule:∀(i j:Int)(t u:Tok)(s:ae)(Q E:ax->ae->Prop),Q (.int (g i j) s.toks) { s with toks:=s.toks+1 }->wpAny (model X.prog X.w) X.A (f (.int i t) (.int j u)) Q E s) :
  jh X f (PQ fun i j=>.int (g i j)):=by intro _ s σ H x y v u Q I rx ry h;obtain⟨i,j,rfl,rfl,q⟩:=h;obtain⟨t,rfl⟩:=rx;obtain⟨t',rfl⟩:=ry;exact rule i j t t' s _ _ ⟨.int (g i j),H,I.tok _,⟨_,rfl⟩,q⟩
theorem XM{f:ax->ax->Sem ax}{g:Int->Int->Bool}
  (rule:∀(i j:Int)(t u:Tok)(s:ae)(Q E:ax->ae->Prop),Q (.bool (g i j)) s->wpAny (model X.prog X.w) X.A (f (.int i t) (.int j u)) Q E s) :
  jh X f (PQ fun i j=>.bl (g i j)):=by intro _ s σ H x y v u Q I rx ry h;obtain⟨i,j,rfl,rfl,q⟩:=h;obtain⟨t,rfl⟩:=rx;obtain⟨t',rfl⟩:=ry;exact rule i j t t' s _ _ ⟨.bl (g i j),H,I,rfl,q⟩
def qJC(i j:Int):Prop:=0<j/\j<1073741824
def qJB(i j:Int):Prop:=0<=j/\j<=1000000/\i.natAbs<2 ^ 64
def Yj(i j:Int):Prop:=(-(2 ^ 64)<i/\i<2 ^ 64)∨(-(2 ^ 64)<j/\j<2 ^ 64)
theorem Yj.ok(h:Yj i j):IntMulOk i j:=by
 rcases h with ⟨h1,h2⟩ | ⟨h1,h2⟩
 .exact .of_left (intBits_le_64 h1 h2)
 .exact .of_right (intBits_le_64 h1 h2)
theorem JX(k:Nat):(0:Int)<=2 ^ k:=by rw[two_pow_cast];exact Int.natCast_nonneg _
theorem yF:jh X (binaryOp .Add) (PQ fun i j=>.int (i+j)):=qAC fun _ _ _ _ _ _ _ q=>add_int q
theorem mD:jh X (binaryOp .Sub) (PQ fun i j=>.int (i-j)):=qAC fun _ _ _ _ _ _ _ q=>sub_int q
theorem gU:jh X (binaryOp .Mult) (rI Yj fun i j=>.int (i*j)):=opI fun _ _ _ _ _ _ _ hc q=>mul_int q hc.ok
theorem yL:jh X (binaryOp .FloorDiv) (rI qJC fun i j=>.int (i/j)):=opI fun i j _ _ _ _ _ hc q=>by
 have h1:(0:Int)<j:=hc.1;have h2:j<1073741824:=hc.2;exact floordiv_int (by lia) (by rw[eD i (by lia)];exact q) (.inl (PyProof.noPylong_small (by lia)))
theorem zY:jh X (binaryOp .Mod) (rI (fun _ j=>0<j) fun i j=>.int (i%j)):=opI fun i j _ _ _ _ _ hc q=>by
 have h1:(0:Int)<j:=hc;exact mod_int' (by lia) (by rw[Int.fmod_eq_emod_of_nonneg i (by lia)];exact q)
theorem Sv:jh X (binaryOp .Pow) (rI qJB fun i j=>.int (i ^ j.toNat)):=opI fun _ _ _ _ _ _ _ hc q=>pow_int_small hc.1 hc.2.1 hc.2.2 q
theorem qAB:jh X (binaryOp .RShift) (rI (fun _ j=>0<=j) fun i j=>.int (i/2 ^ j.toNat)):=opI fun i j _ _ _ _ _ hc q=>
 rshift_int hc (by rw[eD i (JX _)];exact q)
theorem Sw:jh X (binaryOp .BitAnd) (PQ fun i j=>.int (Builtin.bitAnd i j)):=qAC fun _ _ _ _ _ _ _ q=>and_int q
theorem unI{f:ax->Sem ax}{g:Int->Int}
  (rule:∀(i:Int)(t:Tok)(s:ae)(Q E:ax->ae->Prop),Q (.int (g i) s.toks) { s with toks:=s.toks+1 }->wpAny (model X.prog X.w) X.A (f (.int i t)) Q E s) :
  UnR X f (rU fun i=>.int (g i)):=by intro _ s σ H x v Q I rx h;obtain⟨i,rfl,q⟩:=h;obtain⟨t,rfl⟩:=rx;exact rule i t s _ _ ⟨.int (g i),H,I.tok _,⟨_,rfl⟩,q⟩
theorem JW:UnR X (unaryOp .USub) (rU fun i=>.int (-i)):=unI fun _ _ _ _ _ q=>neg_int q
noncomputable def qCR:V->V->Bool
 | .non,.non=>true | .non,.int _=>true | .int _,.non=>true | .non,.bl _=>true | .bl _,.non=>true | .non,.str _=>true | .str _,.non=>true
 | .int _,.int _=>true | .bl _,.bl _=>true | .str _,.str _=>true | .Qx _,.Qx _=>true
 | .int _,.str _=>true | .str _,.int _=>true | .bl _,.str _=>true | .str _,.bl _=>true
 | _,_=>false
def rEq:R2:=fun x y H Q=>qCR x y=true/\Q (.bl (decide (x=y))) H
def rNe:R2:=fun x y H Q=>qCR x y=true/\Q (.bl (!decide (x=y))) H
theorem OD:decide (V.int i=V.int j)=(i==j):=by rw[e9];simp
theorem VF:decide (V.bl i=V.bl j)=(i==j):=by rw[e9];simp
theorem O9:decide (V.str i=V.str j)=(i==j):=by rw[e9];simp
theorem OJ:decide (V.Qx i=V.Qx j)=(i.toList==j.toList):=by
 rw[e9]
 cases i
 cases j
 simp
theorem bF(I:Inv X pins σ H s)(q:Q (.bl k) H)(e:k=k'):EP X pins σ Q (.bool k') s:=by subst e;exact⟨.bl k,H,I,rfl,q⟩
theorem yG:jh X (compareOp .Eq) rEq:=by
 intro _ s σ H x y v u Q I rx ry h;obtain⟨hs,q⟩:=h
 cases x with
 | non=>
  cases rx
  cases y with
  | non=>cases ry;exact PySem.EqNone.eq_none_none (bF I q (by simp))
  | bl j=>cases ry;exact PySem.EqNone.eq_none_bool (bF I q (by simp))
  | int j=>obtain⟨t',rfl⟩:=ry;exact PySem.EqNone.eq_none_int (bF I q (by simp))
  | str j=>obtain⟨t',rfl⟩:=ry;exact PySem.EqNone.eq_none_str (bF I q (by simp))
  | _=>exact dP (show false=true from hs) qg
 | bl i=>
  cases rx
  cases y with
  | non=>cases ry;exact PySem.EqNone.eq_bool_none (bF I q (by simp))
  | bl j=>cases ry;exact eq_bool (bF I q VF)
  | str j=>obtain⟨t',rfl⟩:=ry;exact PySem.EqMixed.eq_bool_str (bF I q (by simp))
  | _=>exact dP (show false=true from hs) qg
 | int i=>
  obtain⟨t,rfl⟩:=rx
  cases y with
  | non=>cases ry;exact PySem.EqNone.eq_int_none (bF I q (by simp))
  | int j=>obtain⟨t',rfl⟩:=ry;exact eq_int (bF I q OD)
  | str j=>obtain⟨t',rfl⟩:=ry;exact PySem.EqMixed.eq_int_str (bF I q (by simp))
  | _=>exact dP (show false=true from hs) qg
 | str i=>
  obtain⟨t,rfl⟩:=rx
  cases y with
  | non=>cases ry;exact PySem.EqNone.eq_str_none (bF I q (by simp))
  | bl j=>cases ry;exact PySem.EqMixed.eq_str_bool (bF I q (by simp))
  | int j=>obtain⟨t',rfl⟩:=ry;exact PySem.EqMixed.eq_str_int (bF I q (by simp))
  | str j=>obtain⟨t',rfl⟩:=ry;exact eq_str (bF I q O9)
  | _=>exact dP (show false=true from hs) qg
 | Qx i=>
  obtain⟨t,rfl⟩:=rx
  cases y with
  | Qx j=>obtain⟨t',rfl⟩:=ry;exact PySem.W.eq_bytes (bF I q OJ)
  | _=>exact dP (show false=true from hs) qg
 | _=>cases y <;> exact dP (show false=true from hs) qg
theorem qZ:jh X (compareOp .NotEq) rNe:=by
 intro _ s σ H x y v u Q I rx ry h;obtain⟨hs,q⟩:=h
 cases x with
 | non=>
  cases rx
  cases y with
  | non=>cases ry;exact PySem.EqNone.ne_none_none (bF I q (by simp))
  | bl j=>cases ry;exact PySem.EqNone.ne_none_bool (bF I q (by simp))
  | int j=>obtain⟨t',rfl⟩:=ry;exact PySem.EqNone.ne_none_int (bF I q (by simp))
  | str j=>obtain⟨t',rfl⟩:=ry;exact PySem.EqNone.ne_none_str (bF I q (by simp))
  | _=>exact dP (show false=true from hs) qg
 | bl i=>
  cases rx
  cases y with
  | non=>cases ry;exact PySem.EqNone.ne_bool_none (bF I q (by simp))
  | bl j=>cases ry;exact ne_bool (bF I q (congrArg not VF))
  | str j=>obtain⟨t',rfl⟩:=ry;exact PySem.EqMixed.ne_bool_str (bF I q (by simp))
  | _=>exact dP (show false=true from hs) qg
 | int i=>
  obtain⟨t,rfl⟩:=rx
  cases y with
  | non=>cases ry;exact PySem.EqNone.ne_int_none (bF I q (by simp))
  | int j=>obtain⟨t',rfl⟩:=ry;exact ne_int (bF I q (congrArg not OD))
  | str j=>obtain⟨t',rfl⟩:=ry;exact PySem.EqMixed.ne_int_str (bF I q (by simp))
  | _=>exact dP (show false=true from hs) qg
 | str i=>
  obtain⟨t,rfl⟩:=rx
  cases y with
  | non=>cases ry;exact PySem.EqNone.ne_str_none (bF I q (by simp))
  | bl j=>cases ry;exact PySem.EqMixed.ne_str_bool (bF I q (by simp))
  | int j=>obtain⟨t',rfl⟩:=ry;exact PySem.EqMixed.ne_str_int (bF I q (by simp))
  | str j=>obtain⟨t',rfl⟩:=ry;exact ne_str (bF I q (congrArg not O9))
  | _=>exact dP (show false=true from hs) qg
 | Qx i=>
  obtain⟨t,rfl⟩:=rx
  cases y with
  | Qx j=>obtain⟨t',rfl⟩:=ry;exact PySem.W.ne_bytes (bF I q (congrArg not OJ))
  | _=>exact dP (show false=true from hs) qg
 | _=>cases y <;> exact dP (show false=true from hs) qg
theorem n6:jh X (compareOp .Lt) (PQ fun i j=>.bl (decide (i<j))):=XM fun _ _ _ _ _ _ _ q=>lt_int q
theorem Yy:jh X (compareOp .LtE) (PQ fun i j=>.bl (decide (i<=j))):=XM fun _ _ _ _ _ _ _ q=>le_int q
theorem iH:jh X (compareOp .Gt) (PQ fun i j=>.bl (decide (j<i))):=XM fun _ _ _ _ _ _ _ q=>gt_int q
theorem Yz:jh X (compareOp .GtE) (PQ fun i j=>.bl (decide (j<=i))):=XM fun _ _ _ _ _ _ _ q=>ge_int q
theorem uf:jh X (compareOp .Is) (fun x y H Q=>y = .non/\Q (.bl (decide (x = .non))) H):=by
 intro _ s σ H x y v u Q I rx ry h;obtain⟨rfl,q⟩:=h
 cases ry
 refine is_none_gen (bF I q ?_)
 cases x <;> first
  | (cases rx;rfl)
  | (obtain⟨t,rfl⟩:=rx;rfl)
theorem wF:jh X (compareOp .IsNot) (fun x y H Q=>y = .non/\Q (.bl (!decide (x = .non))) H):=by
 intro _ s σ H x y v u Q I rx ry h;obtain⟨rfl,q⟩:=h
 cases ry
 refine isnot_none_gen (bF I q ?_)
 cases x <;> first
  | (cases rx;rfl)
  | (obtain⟨t,rfl⟩:=rx;rfl)
theorem jh.or(h:jh X f r)(h':jh X f r'):jh X f (fun x y H Q=>r x y H Q∨r' x y H Q):=by
 intro pins s σ H x y v u Q I rx ry q;rcases q with q | q
 .exact h pins s σ H x y v u Q I rx ry q
 .exact h' pins s σ H x y v u Q I rx ry q
theorem zR(b:Expr)(h:op≠.In:=by decide)(h2:op≠.NotIn:=by decide):behindInMarks op b=false:=by
 have e1:(op==CmpOp.In)=false:=by cases op <;> first | rfl | exact dP rfl h
 have e2:(op==CmpOp.NotIn)=false:=by cases op <;> first | rfl | exact dP rfl h2
 cases b <;> simp [behindInMarks,e1,e2]
theorem pQ{op:CmpOp}{r:R2}(ho:jh X (compareOp op) r)(ha:PE X a ta)(hb:PE X b tb)(hm:behindInMarks op b=false):PE X (.Compare a [op] [b] pos) (tOp r ta tb):=by intro pins s σ H Q I h;exact wpAny_Compare1 (qBR ha hb I h fun v u s2 x y H2 I2 rx ry q=>ho pins s2 σ H2 x y v u Q I2 rx ry q) hm
def Yo(t:TE):TT:=fun σ H Q=>t σ H fun x H'=>isB x H' Q
theorem zL(ho:jh X (compareOp op) r)(ha:PE X a ta)(hb:PE X b tb)(hm:behindInMarks op b=false):PT X (.Compare a [op] [b] pos) (Yo (tOp r ta tb)):=by
 intro pins s σ H Q I h
 refine wpAny_isTrue_Compare1 (bI (ha pins s σ H _ I h) fun v s1 ⟨x,H1,I1,r1,q1⟩=>bI (hb pins s1 σ H1 _ I1 q1) fun u s2 ⟨y,H2,I2,r2,q2⟩=>
  bI (ho pins s2 σ H2 x y v u _ I2 r1 r2 q2) fun c _ ⟨z,H3,I3,r3,k,e,q3⟩=>?_) hm
 subst e
 cases r3
 exact wpAny_truthy_bool ⟨H3,I3,q3⟩
def Zn(r r':R2)(ta tb tc:TE):TE:=fun σ H Q=>ta σ H fun x H1=>tb σ H1 fun y H2=>r x y H2 fun z H3 => ∃ k,z = .bl k ∧
 (if k=true then tc σ H3 fun w' H4=>r' y w' H4 Q else Q (.bl false) H3)
theorem SX(ho:jh X (compareOp op) r)(ho':jh X (compareOp op') r')(ha:PE X a ta)(hb:PE X b tb)(hc:PE X c tc)
  (hm:lastMarks [op,op'] [b,c]=false:=by with_unfolding_all rfl):PE X (.Compare a [op,op'] [b,c] pos) (Zn r r' ta tb tc):=by
 intro pins s σ H Q I h
 refine Compare_chain (bI (ha pins s σ H _ I h) fun v s1 ⟨x,H1,I1,r1,q1⟩=>chain_link (bI (hb pins s1 σ H1 _ I1 q1) fun u s2 ⟨y,H2,I2,r2,q2⟩=>
  bI (ho pins s2 σ H2 x y v u _ I2 r1 r2 q2) fun d s3 ⟨z,H3,I3,r3,k,e,q3⟩=>?_)) hm
 subst e
 cases r3
 refine wpAny_truthy_bool ?_
 cases k with
 | false=>exact ite_ff ⟨.bl false,H3,I3,rfl,q3⟩
 | true=>exact ite_tt (chain_last (bI (hc pins s3 σ H3 _ I3 q3) fun w' s4 ⟨z',H4,I4,r4,q4⟩=>ho' pins s4 σ H4 y z' u w' Q I4 r2 r4 q4))
theorem uv:(sizeLine:Nat)<2 ^ 63:=by rw[sizeLine_eq];decide
theorem xj:jh X (binaryOp .Add) (fun x y H Q => ∃ i j,x = .str i/\y = .str j/\i.length+j.length<=sizeLine/\Q (.str (i++j)) H):=by intro _ s σ H x y v u Q I rx ry h;obtain⟨i,j,rfl,rfl,hz,q⟩:=h;obtain⟨t,rfl⟩:=rx;obtain⟨t',rfl⟩:=ry;exact add_str (fun t' _=>⟨.str (i++j),H,I.tok _,⟨_,rfl⟩,q⟩) hz
theorem vals1(r:Vals [x] us):∃ u,us=[u]/\RelV x u:=by
 cases r with
 | cons r1 r2=>cases r2;exact⟨_,rfl,r1⟩
theorem vals2(r:Vals [x,y] us):∃ u w',us=[u,w']/\RelV x u/\RelV y w':=by
 cases r with
 | cons r1 r2=>
  cases r2 with
  | cons r3 r4=>cases r4;exact⟨_,_,rfl,r1,r3⟩
theorem QZ(hc:X.calm=true):lN X (.builtin "max") (fun xs H Q => ∃ i j,xs=[.int i,.int j]/\Q (.int (if j>i then j else i)) H):=by
 intro _ s σ H xs _ Q I r h;obtain⟨i,j,rfl,q⟩:=h;obtain⟨u,_,rfl,⟨t,rfl⟩,⟨_,rfl⟩⟩:=vals2 r;refine max_two_ints (I.ok.hd hc) fun _ _ k=>⟨_,H,I.kept k,?_,q⟩
 by_cases hj:j>i
 .rw[cE hj,cE hj];exact⟨_,rfl⟩
 .rw[cy hj,cy hj];exact⟨_,rfl⟩
theorem Cg(hc:X.calm=true):lN X (.builtin "min") (fun xs H Q => ∃ i j,xs=[.int i,.int j]/\Q (.int (if j<i then j else i)) H):=by
 intro _ s σ H xs _ Q I r h;obtain⟨i,j,rfl,q⟩:=h;obtain⟨u,_,rfl,⟨t,rfl⟩,⟨_,rfl⟩⟩:=vals2 r;refine min_two_ints (I.ok.hd hc) fun _ _ k=>⟨_,H,I.kept k,?_,q⟩
 by_cases hj:j<i
 .rw[cE hj,cE hj];exact⟨_,rfl⟩
 .rw[cy hj,cy hj];exact⟨_,rfl⟩
theorem Qa:lN X (.type "int") (fun xs H Q=>(∃ i,xs=[.int i]/\Q (.int i) H) ∨ ∃ k,xs=[.bl k]/\Q (.int (if k then 1 else 0)) H):=by
 intro _ s σ H xs _ Q I r h;rcases h with ⟨i,rfl,q⟩ | ⟨k,rfl,q⟩
 .obtain⟨u,rfl,t,rfl⟩:=vals1 r;exact call_int_int ⟨.int i,H,I,⟨_,rfl⟩,q⟩
 .obtain⟨u,rfl,r1⟩:=vals1 r
  cases r1
  exact call_int_bool ⟨.int (if k then 1 else 0),H,I.tok _,⟨_,rfl⟩,q⟩
end
structure Lf(h:Heap)(x dx C:Addr)(mA:Str->Option Value):Prop where
 obj:h.get? x=some (PySem.W.instObj C dx)
 ns:h.Ns1 dx mA
 ne:dx≠x
theorem Bx{h:Heap}{dx:av}{mA:Str->aE ax}(n:h.Ns1 dx mA):∃ od,h.get? dx=some od/\∀ name,PySem.W.lookIn name od=some (mA name):=by
 obtain⟨o,es,_,ho,hd,hk,_,hm⟩:=n;refine⟨o,ho,fun name=>?_⟩;have e:=hm name;unfold nsFind findBy at e;rw[<-Array.find?_toList]at e;unfold PySem.W.lookIn;rw[hd]
 dsimp only
 split
 .rename_i y q
  rw[q]at e;exact congrArg some e
 .rename_i q
  rw[q]at e
  have a:es.toList.any (·.refKey)=false:=by
   rw[List.any_eq_false];intro y hy;obtain⟨z,t,hkey⟩:=hk y (Array.mem_toList_iff.mp hy);simp [DictEntry.refKey,hkey]
  have a':¬ es.toList.any (·.refKey)=true:=by rw[a];exact qg
  rw[cy a'];exact congrArg some e
theorem Lf.look(I:Lf h x dx C mA):∃ od,PySem.W.InstAt h x (PySem.W.instObj C dx) C (some od)/\∀ name,PySem.W.lookIn name od=some (mA name):=
 let ⟨od,ho,hl⟩:=Bx I.ns
 ⟨od,⟨I.obj,rfl,rfl,ho⟩,hl⟩
section
variable{prog:ag}{w:aI}{A:ai}{E:ax->ae->Prop}{s:ae}{K:cL}{x dx C f:av}{mA:Str->aE ax}{name:Str}{v:ax}
theorem get_map(X:K.In s.heap)(I:Lf s.heap x dx C mA)(hg:PySem.W.plainGet K C name=true)(hh:PySem.W.hasDictIn K C=true)
  (ha:PySem.W.findIn K (.ref C) name=some none) (hv:mA name=some v) (hv':PySem.W.handedIn v=true) (h:Q v { s with toks:=s.toks+1 }) :
  wpAny (model prog w) A (getAttr (.ref x) name expr) Q E s:=by obtain⟨_,J,hl⟩:=I.look;exact PySem.W.get_value X J (PySem.W.plainGet_of hg).1 (PySem.W.findObj_own hh ha rfl (by rw[hl,hv])) hv' h
theorem Uk(X:K.In s.heap)(I:Lf s.heap x dx C mA)(hg:PySem.W.plainGet K C name=true)
  (hf:PySem.W.findIn K (.ref C) name=some (some (.ref f))) (ht:PySem.W.isFn K (.ref f)=true) (hv:mA name=none) (h:Q (.ref f,[.ref x]) s) :
  wpAny (model prog w) A (getMethod (.ref x) name pl) Q E s:=by obtain⟨od,J,hl⟩:=I.look;exact PySem.W.method_fn X J (PySem.W.plainGet_of hg).1 (PySem.W.plainGet_of hg).2 hf (beq_iff_eq.mp ht) (by show (PySem.W.lookIn name od).map (·.isSome)=some false;rw[hl,hv];rfl) h
theorem Wc(X:K.In s.heap)(I:Lf s.heap x dx C mA)
  (hs:PySem.W.findIn K (.ref C) "__setattr__" = some (some (.builtin "object.__setattr__"))) (hp:PySem.W.plainOver K C=true) (ht:PySem.W.takerIn K C name=some none) (hh:PySem.W.hasDictIn K C=true)
  (hw:PySem.Within mA ns) (hsz:ns.length<=sizeLine)
  (h:∀ h',Lf h' x dx C (fun y=>if y=name then some v else mA y)->Heap.SameBut dx s.heap h'->Q () { s with heap:=h',toks:=s.toks+2 }) :
  wpAny (model prog w) A (setAttr (.ref x) name v) Q E s:=by obtain⟨_,J,_⟩:=I.look;refine PySem.W.set_plain X J hs (PySem.W.osa_open (s:={ s with toks:=s.toks+1 }) (r:=none) X J hp ht fun b=>?_);obtain⟨_,hc,hd'⟩:=PySem.W.any_some hh;have hx:s.heap.get? x=some ⟨.ref C,some dx,.plain,#[]⟩:=I.obj;refine aS (aT (aS (aS (wpAny_loadPart hx (aS (PySem.W.Looks.here (s:={ s with toks:=s.toks+1 }) (PySem.W.looks_clsIn X hc) ?_))))));rw[hd'];refine aT (a:=some dx) (aS (aT (aS ?_)));refine wpAny_nsSet1 (s:={ s with toks:=s.toks+1 }) I.ns fun h' hn2 hs2=>?_;obtain⟨_,_,_,hoD,hdD,hcD⟩:=hn2.count (PySem.Within.cons name v hw);refine aS (wpAny_lookBehind hoD (by rw[hdD];exact pastItsLine_dict (bq hcD (by rw[cY];lia))) ?_);exact aT (h _ ⟨(hs2.2 _ (bt I.ne)).trans I.obj,hn2,I.ne⟩ hs2)
theorem Tn(X:K.In s.heap)(hm:PySem.W.makesIn K C=true)
  (hi:PySem.W.findIn K (.ref C) "__init__" = some (some (.ref f))) (hf:PySem.W.typeIn K (.ref f)=some (.type "function"))
  (h:codeAny (model prog w) (A.under (.builtin "type.__call__" ⟨.ref C::vs,kw⟩)) (.call (.ref f) ⟨.ref (s.heap.objs.size+1)::vs,kw⟩) (PySem.W.InitBack (s.heap.objs.size+1) R)
   { s with heap:=(s.heap.push PySem.W.emptyDict).push (PySem.W.instObj C s.heap.objs.size) }) :
  codeAny (model prog w) A (.call (.ref C) ⟨vs,kw⟩) R s:=by obtain⟨_,g,d,t,_⟩:=s;exact PySem.W.make_core (PySem.W.makes_of X hm) (PySem.W.looks_findIn X hi) (fun self=>PySem.W.bind_fn X self hf) (.inl rfl) h
end
noncomputable def cZ(f:Str)(v:V):ay (Str×V)->ay (Str×V)
 | []=>[(f,v)]
 | (g,x)::r=>if g=f then (g,v)::r else (g,x)::cZ f v r
theorem aU(f g:Str)(v:V):∀ fs:ay (Str×V),(cZ f v fs).lookup g=if g=f then some v else fs.lookup g
 | []=>by
  show List.lookup g [(f,v)]=_
  by_cases h:g=f
  .have hb:(g==f)=true:=beq_iff_eq.mpr h;simp only[List.lookup,hb,if_pos h]
  .have hb:(g==f)=false:=dy.mpr h;simp only[List.lookup,hb,if_neg h]
 | (k,x)::r=>by
  have ih:=aU f g v r;rw[show cZ f v ((k,x)::r)=(if k=f then (k,v)::r else (k,x)::cZ f v r) from rfl]
  by_cases hk:k=f
  .rw[cE hk]
   by_cases h:g=k
   .have hb:(g==k)=true:=beq_iff_eq.mpr h;simp only[List.lookup,hb,if_pos (h.trans hk)]
   .have hb:(g==k)=false:=dy.mpr h;simp only[List.lookup,hb,if_neg (fun e:g=f=>h (e.trans hk.symm))]
  .rw[cy hk]
   by_cases h:g=k
   .have hb:(g==k)=true:=beq_iff_eq.mpr h;simp only[List.lookup,hb,if_neg (fun e:g=f=>hk (h.symm.trans e))]
   .have hb:(g==k)=false:=dy.mpr h;simp only[List.lookup,hb];exact ih
theorem uw(f:Str)(v:V):∀ fs:ay (Str×V),f∈(cZ f v fs).map (·.1)/\∀ g,g∈fs.map (·.1)->g∈(cZ f v fs).map (·.1)
 | []=>⟨by simp [cZ],fun g h=>by simp at h⟩
 | (k,x)::r=>by
  obtain⟨i1,i2⟩:=uw f v r;rw[show cZ f v ((k,x)::r)=(if k=f then (k,v)::r else (k,x)::cZ f v r) from rfl]
  by_cases hk:k=f
  .rw[cE hk];subst hk;exact⟨by simp,fun g h=>by simpa using h⟩
  .rw[cy hk];refine⟨?_,fun g h=>?_⟩
   .rw[br];exact Fj _ i1
   .rw[br]at h ⊢;rcases bL.mp h with e | e
    .exact bL.mpr (.inl e)
    .exact Fj _ (i2 g e)
theorem vR(f:Str)(v:V):∀ fs:ay (Str×V),(cZ f v fs).length<=fs.length+1
 | []=>by simp [cZ]
 | (k,x)::r=>by
  have ih:=vR f v r;rw[show cZ f v ((k,x)::r)=(if k=f then (k,v)::r else (k,x)::cZ f v r) from rfl]
  by_cases hk:k=f
  .rw[cE hk,cY,cY];lia
  .rw[cy hk,cY,cY];lia
theorem jr.some_of(r:jr (some v) o):∃ u,o=some u/\RelV v u:=by
 cases o with
 | none=>exact (show False from r).elim
 | some u=>exact⟨u,rfl,r⟩
theorem jr.none_of(r:jr none o):o=none:=by
 cases o with
 | none=>rfl
 | some u=>exact (show False from r).elim
theorem CP(r:RelV v u):PySem.W.handedIn u=true:=by
 cases v with
 | non=>cases (show u=Value.none from r);rfl
 | bl b=>cases (show u=Value.bool b from r);rfl
 | int i=>obtain⟨t,e⟩:=(show ∃ t,u=Value.int i t from r);cases e;rfl
 | str x=>obtain⟨t,e⟩:=(show ∃ t,u=Value.str x t from r);cases e;rfl
 | Qx b=>obtain⟨t,e⟩:=(show ∃ t,u=Value.bytes b t from r);cases e;rfl
 | flt b=>obtain⟨t,e⟩:=(show ∃ t,u=Value.float b t from r);cases e;rfl
 | ref a=>cases (show u=Value.ref a from r);rfl
 | ty n=>cases (show u=Value.type n from r);rfl
section
variable{P:ag}{w:aI}{H H':Hp}{h h':Heap}{a C dx:av}{fs fs':ay (Str×V)}
theorem wH(hok:jO P w H h)(e:H a=some (.ins C dx fs)):∃ mA,Lf h a dx C mA/\(∀ f,jr (fs.lookup f) (mA f))/\PySem.Within mA (fs.map (·.1))/\fs.length<=1000/\H dx=some (.own a):=by obtain⟨d,z,ne,ob,mA,n,r,q⟩:=(show bW P w H h a (.ins C dx fs) from hok a _ e);exact⟨mA,⟨ob,n,ne⟩,r,q,z,d⟩
end
structure wN(K:cL)(C:Addr):Prop where
 pg:PySem.W.plainGet K C Str.empty=true
 hd:PySem.W.hasDictIn K C=true
 po:PySem.W.plainOver K C=true
 sa:PySem.W.findIn K (.ref C) "__setattr__" = some (some (.builtin "object.__setattr__"))
theorem wN.get{K:cL}{C:av}(c:wN K C)(f:Str):PySem.W.plainGet K C f=true:=c.pg
def bZ(K:cL)(C:av)(f:Str):Prop:=PySem.W.findIn K (.ref C) f=some none
theorem bZ.taker{K:cL}{C:av}{f:Str}(n:bZ K C f):PySem.W.takerIn K C f=some none:=by unfold PySem.W.takerIn;rw[show PySem.W.findIn K (.ref C) f=some none from n];rfl
structure Con(K:cL)(C:Addr)(f:Str)(v:V)(u:Value):Prop where
 at_:PySem.W.findIn K (.ref C) f=some (some u)
 rel:RelV v u
 get:PySem.W.specialIn K u "__get__" = some none
 cp:PySem.W.copiedNames.contains f=false
structure Meth(K:cL)(C:Addr)(m:Str)(f:Addr):Prop where
 at_:PySem.W.findIn K (.ref C) m=some (some (.ref f))
 fn:PySem.W.isFn K (.ref f)=true
 kp:KI K f
section
variable{X:Cx}{pins:ay (av×Obj)}{σ:St}{H:Hp}{s:ae}{a C dx:av}{fs:ay (Str×V)}{f:Str}{v:V}{A:ai}{E:ax->ae->Prop}
theorem Ks(I:Inv X pins σ H s)(e:H a=some (.ins C dx fs))(c:wN X.K C)(n:bZ X.K C f)(l:fs.lookup f=some v)
  (h:∀ u s',Inv X pins σ H s'->RelV v u->Q u s'):wpAny (model X.prog X.w) A (getAttr (.ref a) f b) Q E s:=by obtain⟨mA,O,r,_,_,_⟩:=wH I.hok e;obtain⟨u,hu,ru⟩:=jr.some_of (v:=v) (o:=mA f) (by rw[<-l];exact r f);exact get_map I.nR O (c.get f) c.hd n hu (CP ru) (h u _ (I.tok _) ru)
theorem yl(I:Inv X pins σ H s)(e:H a=some (.ins C dx fs))(c:wN X.K C)(k:Meth X.K C m g)(l:fs.lookup m=none)
  (h:Q (.ref g,[.ref a]) s):wpAny (model X.prog X.w) A (getMethod (.ref a) m pl) Q E s:=by obtain⟨mA,O,r,_,_,_⟩:=wH I.hok e;have hn:mA m=none:=jr.none_of (by rw[<-l];exact r m);exact Uk I.nR O (c.get m) k.at_ k.fn hn h
theorem Jo(I:Inv X pins σ H s)(e:H a=some (.ins C dx fs))(c:wN X.K C)(n:bZ X.K C f)(hl:fs.length<1000)(ry:RelV y u)
  (h:∀ s',Inv X pins σ (upd H a (.ins C dx (cZ f y fs))) s'->Q () s'):wpAny (model X.prog X.w) A (setAttr (.ref a) f u) Q E s:=by
 obtain⟨mA,O,r,wi,_,ho⟩:=wH I.hok e
 have hz:(fs.map (·.1)).length<=sizeLine:=by rw[bh,sizeLine_eq];lia
 refine Wc I.nR O c.sa c.po n.taker c.hd wi hz fun h' O' sb=>h _ ?_;have hd:∃ o,h'.get? dx=some o:=let ⟨o,_,_,e',_⟩:=O'.ns;⟨o,e'⟩;refine I.write (x:=a) (e:=dx) (by rw[e];exact dE) (.inr ho) (fun b q hb z=>(sb.2 b hb).trans z) hd ?_;refine⟨by rw[zQ O.ne];exact ho,?_,O.ne,O'.obj,_,O'.ns,fun g=>?_,fun g hg=>?_⟩
 .have:=vR f y fs;lia
 .show jr ((cZ f y fs).lookup g) (if g=f then some u else mA g);rw[aU]
  by_cases q:g=f
  .rw[cE q,cE q];exact ry
  .rw[cy q,cy q];exact r g
 .by_cases q:g=f
  .rw[q];exact (uw f y fs).1
  .refine (uw f y fs).2 g (wi g fun z=>hg ?_);show (if g=f then some u else mA g)=none;rw[cy q];exact z
theorem Inv.made(I:Inv X pins σ H s):Inv X pins σ (upd (upd H s.heap.objs.size (.own (s.heap.objs.size+1))) (s.heap.objs.size+1) (.ins C s.heap.objs.size []))
  { s with heap:=(s.heap.push PySem.W.emptyDict).push (PySem.W.instObj C s.heap.objs.size) }:=by
 have e1:(s.heap.push PySem.W.emptyDict).get? s.heap.objs.size=some PySem.W.emptyDict:=zr s.heap rfl
 have e2:((s.heap.push PySem.W.emptyDict).push (PySem.W.instObj C s.heap.objs.size)).get? (s.heap.objs.size+1)=some (PySem.W.instObj C s.heap.objs.size):=by
  have:=zr (s.heap.push PySem.W.emptyDict) (o:=PySem.W.instObj C s.heap.objs.size) rfl
  rwa [eC]at this
 have e3:(s.heap.push PySem.W.emptyDict).Ns s.heap.objs.size (fun _=>none):=⟨PySem.W.emptyDict,#[],_,e1,rfl,(fun e he=>absurd he (by simp)),fun _=>rfl⟩;have I1:=I.laid (a:=s.heap.objs.size) (o:=.own (s.heap.objs.size+1)) (h':=s.heap.push PySem.W.emptyDict) (t':=s.toks) (fun b u q=>j8 _ q) (bN _) ⟨_,e1⟩;refine I1.laid (a:=s.heap.objs.size+1) (o:=.ins C s.heap.objs.size []) (t':=s.toks) (fun b u q=>j8 _ q) (Nat.le_of_eq (eC _ _)) ?_;have ne:s.heap.objs.size≠s.heap.objs.size+1:=lO (ic _);refine⟨by rw[zQ ne,zC],bg _,ne,e2,fun _=>none,(Heap.Ns1.of_empty e3).at fun o q=>j8 _ q,fun _=>dE,fun y hy=>dP rfl hy⟩
theorem Oh(hb:attributeBase e f env (eval e env)=eval e env)
  (h:wpAny (model prog w) A (eval e env) (fun o s₁=>wpAny (model prog w) A (getAttr o f true) Q E s₁) E s):wpAny (model prog w) A (eval (.Attribute e f pos) env) Q E s:=
 Attribute_any_ h (by rw[arm_eval_Attribute,hb])
end
def qGP(K:cL)(ta:TE)(f:Str):TE:=fun σ H Q=>ta σ H fun x H1 => ∃ a C dx fs v,x = .ref a/\H1 a=some (.ins C dx fs)/\wN K C/\bZ K C f/\fs.lookup f=some v/\Q v H1
def qGW(K:cL)(ta tv:TE)(f:Str):TS:=fun D σ H=>tv σ H fun y H1=>ta σ H1 fun x H2 => ∃ a C dx fs,x = .ref a/\H2 a=some (.ins C dx fs)/\wN K C/\bZ K C f/\fs.length<1000 ∧
 D.nx σ (upd H2 a (.ins C dx (cZ f y fs)))
section
variable{X:Cx}{o e value:Expr}{f:Str}{pos pos' tpos:Pos}{ta tv:TE}
theorem cG(he:PE X e ta)(hb:attributeBase e f X.env (eval e X.env)=eval e X.env):PE X (.Attribute e f pos) (qGP X.K ta f):=by intro pins s σ H Q I h;refine Oh hb (bI (he pins s σ H _ I h) fun u _ ⟨x,H1,I1,rx,a,C,_,_,v,ex,ea,c,n,l,q⟩=>?_);subst ex;obtain rfl:u=Value.ref a:=rx;exact Ks I1 ea c n l fun _ _ I2 ru=>⟨v,H1,I2,ru,q⟩
theorem uc(ha:PE X o ta)(hv:PE X value tv)(hs:swapsWith value (some (.Attribute o f pos')) pos.line X.env=pure false):PS X (.Assign [.Attribute o f pos'] value pos) (qGW X.K ta tv f):=by intro pins s σ H D I h;refine plainObj_wpAny_Assign_Attribute (bI (hv pins s σ H _ I h) fun u s1 ⟨y,H1,I1,ry,q⟩=>bI (ha pins s1 σ H1 _ I1 q) fun ov _ ⟨x,_,I2,rx,a,C,_,_,ex,ea,c,n,l,q2⟩=>?_) hs;subst ex;obtain rfl:ov=Value.ref a:=rx;exact Jo I2 ea c n l ry fun _ I3=>⟨σ,_,I3,q2⟩
end
section
variable{X:Cx}{pins:ay (av×Obj)}{σ:St}{H:Hp}{s:ae}{A:ai}{E:ax->ae->Prop}{Q:ax->ae->Prop}{c:ax}{b:Bool}
inductive vB(K:cL)(H:Hp):V->Value->Prop where
 | non:vB K H .non (.type "NoneType")
 | bl (x:Bool):vB K H (.bl x) (.type "bool")
 | int (i:Int):vB K H (.int i) (.type "int")
 | str (x:Str):vB K H (.str x) (.type "str")
 | flt (x:UInt64):vB K H (.flt x) (.type "float")
 | lst {a:Addr} {xs:List V} (e:H a=some (.lst xs)):vB K H (.ref a) (.type "list")
 | Ku {a:Addr} {o:Obj} {xs:List V} (e:H a=some (.Ku o (.lst xs))):vB K H (.ref a) (.type "list")
 | tup {a:Addr} {xs:List V} (e:H a=some (.tup xs)):vB K H (.ref a) (.type "tuple")
 | dK {a:Addr} {kvs:List (Key×V)} (e:H a=some (.dK kvs)):vB K H (.ref a) (.type "dict")
 | dT {a:Addr} {kvs:List (List Key×V)} (e:H a=some (.dT kvs)):vB K H (.ref a) (.type "dict")
 | ins {a C dx:Addr} {fs:List (Str×V)} (e:H a=some (.ins C dx fs)) (cl:wN K C) (ha:PySem.W.findIn K (.ref C) "__class__" = some (some (.builtin "object.__class__")))
   (hn:PySem.W.specialIn K (.builtin "object.__class__") "__get__" = some (some (.builtin "getset_descriptor.__get__"))) (htk:PySem.W.takesIn K (.builtin "object.__class__")=some true)
   (hm:PySem.W.mroIn K C (.type "object")=some true):vB K H (.ref a) (.ref C)
theorem QB(I:Inv X pins σ H s)(rx:RelV x u)(ty:vB X.K H x t)(e:PySem.W.kitOne X.K t c=some b)(h:∀ tk,Q (.bool b) { s with toks:=tk }) :
  wpAny (model X.prog X.w) A (call (.builtin "isinstance") [u,c]) Q E s:=by
 cases ty with
 | non=>cases (show u=Value.none from rx);exact cn PySem.W.kitx_none I.nR dE e (fun z=>nomatch z) h
 | bl y=>cases (show u=Value.bool y from rx);exact cn PySem.W.kitx_bool I.nR dE e (fun z=>nomatch z) h
 | int i=>obtain⟨t,q⟩:=(show ∃ t,u=Value.int i t from rx);cases q;exact cn PySem.W.kitx_int I.nR dE e (fun z=>nomatch z) h
 | str y=>obtain⟨t,q⟩:=(show ∃ t,u=Value.str y t from rx);cases q;exact cn PySem.W.kitx_str I.nR dE e (fun z=>nomatch z) h
 | flt y=>obtain⟨t,q⟩:=(show ∃ t,u=Value.float y t from rx);cases q;exact cn PySem.W.kitx_float I.nR dE e (fun z=>nomatch z) h
 | @lst a xs ea=>
  cases (show u=Value.ref a from rx)
  obtain⟨_,_,n,_,h1⟩:=(show bW X.prog X.w H s.heap a (.lst xs) from I.hok a _ ea);exact cn PySem.W.kitx_list I.nR ⟨_,h1,rfl⟩ e (fun z=>nomatch z) h
 | @Ku a ob xs ea=>
  cases (show u=Value.ref a from rx)
  obtain⟨_,_,_,n,_,h1⟩:=(show bW X.prog X.w H s.heap a (.Ku ob (.lst xs)) from I.hok a _ ea);exact cn PySem.W.kitx_list I.nR ⟨_,h1,rfl⟩ e (fun z=>nomatch z) h
 | @tup a xs ea=>
  cases (show u=Value.ref a from rx)
  obtain⟨_,_,_,p⟩:=(show bW X.prog X.w H s.heap a (.tup xs) from I.hok a _ ea);obtain⟨o,h1,h2,_⟩:=p;exact cn PySem.W.kitx_tuple I.nR ⟨o,h1,h2⟩ e (fun z=>nomatch z) h
 | @dK a kvs ea=>
  cases (show u=Value.ref a from rx)
  obtain⟨_,_,_,_,p⟩:=(show bW X.prog X.w H s.heap a (.dK kvs) from I.hok a _ ea);obtain⟨o,es,ep,h1,h2,_⟩:=p;exact cn PySem.W.kitx_dict I.nR ⟨o,h1,h2.1⟩ e (fun z=>nomatch z) h
 | @dT a kvs ea=>
  cases (show u=Value.ref a from rx)
  obtain⟨_,_,xs,_,o,es,ep,h1,h2,_⟩:=(show bW X.prog X.w H s.heap a (.dT kvs) from I.hok a _ ea);exact cn PySem.W.kitx_dict I.nR ⟨o,h1,h2.1⟩ e (fun z=>nomatch z) h
 | @ins a C dx fs ea cl ha hn htk hm=>
  cases (show u=Value.ref a from rx)
  obtain⟨_,O,_⟩:=wH I.hok ea;obtain⟨_,J,_⟩:=O.look;exact cn (PySem.W.kitx_own (cl.get _) cl.hd ha hn htk hm) I.nR J e (fun z=>nomatch z) h
end
structure fK(k:Nat)(A:Around):Prop where
 hd:A.handled=none
 dp:A.depth+3*k+5<recursionLimit
 un:A.units+16*k+200<cLine
theorem fK.mono(r:fK k A)(h:j<=k):fK j A:=⟨r.hd,by have:=r.dp;lia,by have:=r.un;lia⟩
theorem fK.deeper(r:fK (k+1) A)(env:Env):fK k (A.deeper env):=
 ⟨r.hd,by have:=r.dp;show A.depth+1+3*k+5<_;lia,by have:=r.un;show A.units+3+16*k+200<_;lia⟩
theorem Kf{A:ai}{C:av}{us:ay ax}{kw:ay (Str×ax)}:(A.under (.builtin "type.__call__" ⟨.ref C::us,kw⟩)).depth=A.depth+1:=by first | rfl | simp [Around.under,Code.weight,Code.isCreation,Code.isGuard,Code.isCaller,Code.frames,Code.isFrame,guardIds]
theorem Ke{A:ai}{C:av}{us:ay ax}{kw:ay (Str×ax)}:(A.under (.builtin "type.__call__" ⟨.ref C::us,kw⟩)).units=A.units+1:=by first | rfl | simp [Around.under,Code.cUnits,Code.frames,Code.isFrame]
theorem fK.make(r:fK (k+1) A)(C:av)(us:ay ax)(kw:ay (Str×ax)):fK k (A.under (.builtin "type.__call__" ⟨.ref C::us,kw⟩)):=
 ⟨r.hd,by have:=r.dp;rw[Kf];lia,by have:=r.un;rw[Ke];lia⟩
theorem fK.depth(r:fK k A):A.depth<recursionLimit:=by have:=r.dp;lia
theorem fK.units(r:fK k A):A.units+64<cLine:=by have:=r.un;lia
def RB:TA:=fun _ H Q=>Q [] H
def qO(ta:TE)(tr:TA):TA:=fun σ H Q=>ta σ H fun x H1=>tr σ H1 fun xs H2=>Q (x::xs) H2
section
variable{X:Cx}{e:Expr}{es:ay Expr}{te:TE}{t:TA}{pos:Pos}
theorem zD:PA X [] RB:=fun _ _ _ _ H Q I h=>Calls.spliced_nil ⟨[],H,I,.nil,h⟩
theorem zA(ha:PE X e te)(hr:PA X es t)(hs:starEach (e::es) X.env=(false,eval e X.env)::starEach es X.env:=by rfl):PA X (e::es) (qO te t):=by intro pos pins s σ H Q I h;rw[hs];show wpAny _ _ (spliced ((false,eval e X.env)::backTo pos (starEach es X.env))) _ _ s;refine Calls.spliced_cons (bI (ha pins s σ H _ I h) fun u s1 ⟨x,H1,I1,r1,q1⟩=>?_);exact bI (hr pos pins s1 σ H1 _ I1 q1) fun _ _ ⟨xs,H2,I2,r2,q2⟩=>⟨x::xs,H2,I2,.cons r1 r2,q2⟩
def WM(t:TA):TE:=fun σ H Q=>t σ H fun xs H1=>xs.length<=sizeLine/\∀ p,H1 p=none->Q (.ref p) (upd H1 p (.tup xs))
def qCD(t:TA):TE:=fun σ H Q=>t σ H fun xs H1=>xs.length<=sizeLine/\∀ p,H1 p=none->Q (.ref p) (upd H1 p (.lst xs))
theorem zW {x1} (h:PA X es t):PE X (.Tuple es x1 pos) (WM t):=by intro pins s σ H Q I hq;refine wpAny_Tuple_spliced (bI (h pos pins s σ H _ I hq) fun us s1 ⟨xs,H1,I1,r,z,q⟩=>⟨by rw[<-r.length];exact z,?_⟩);have hf:H1 s1.heap.objs.size=none:=I1.hok.fresh (bN _);refine⟨.ref s1.heap.objs.size,upd H1 s1.heap.objs.size (.tup xs),I1.laid (t':=s1.toks) (fun b u e=>j8 _ e) (bN _) ?_,rfl,q _ hf⟩;exact⟨z,us,r,⟨_,zr _ rfl,rfl,_,rfl⟩⟩
theorem yK(h:PA X es t):PE X (.List es pos) (qCD t):=by intro pins s σ H Q I hq;refine wpAny_List_spliced (bI (h pos pins s σ H _ I hq) fun us s1 ⟨xs,H1,I1,r,z,q⟩=>⟨by rw[<-r.length];exact z,?_⟩);have hf:H1 s1.heap.objs.size=none:=I1.hok.fresh (bN _);refine⟨.ref s1.heap.objs.size,upd H1 s1.heap.objs.size (.lst xs),I1.laid (t':=s1.toks) (fun b u e=>j8 _ e) (bN _) ?_,rfl,q _ hf⟩;exact⟨z,us,0,r,zr _ rfl⟩
end
abbrev Sp:=ay V->Hp->VK->XK->Prop
abbrev Lw:=ay Env->Hp->ae->XK->ax->ae->Prop
structure Lj(P:Program)(w:World)(K:cL)(mg:Str->Option Value)(base:Heap)(A:Around)(outer:List Env)(s:Shared)(H:Hp):Prop where
 frames:A.frames=some outer
 mod:Mod K mg base
 bs:∀ b o,base.get? b=some o->s.heap.get? b=some o/\H b=none
 Qy:base.objs.size<=s.heap.objs.size
 tU:s.heap.FunFrames base outer
 YD:∀ b∈frs outer,H b=none
 hok:jO P w H s.heap
 bare:AllBare s.gens
def CE(outer:ay Env)(P:ag)(w:aI)(H:Hp)(s:ae)(Q:VK)(u:ax)(s':ae):Prop:=
 ∃ v H',s'.os=s.os/\AllBare s'.gens/\Un (frs outer) [] H H' s.heap s'.heap/\jO P w H' s'.heap/\RelV v u/\Q v H'
def CR(CX:Lw)(outer:ay Env)(P:ag)(w:aI)(H:Hp)(s:ae)(Q:VK)(E:XK)(r:Result)(s':ae):Prop:=
 match r with
 | .ok (.ret u)=>CE outer P w H s Q u s'
 | .ok _=>False
 | .error e=>CX outer H s E e s'
structure aO(P:Program)(w:World)(K:cL)(mg:Str->Option Value)(base:Heap)(CX:Lw)(k:Nat)(f:Addr)(fd:FuncData)(ps:List Str)(sp:Sp):Prop where
 len:∀ vs H Q E,sp vs H Q E->vs.length=ps.length
 run:∀(A:Around)(outer:List Env)(s:Shared)(H:Hp)(args:Args)(us:List Value)(vs:List V)(Q:VK)(E:XK),fK k A->Lj P w K mg base A outer s H->BindsTo s fd args (ps.zip us)->Vals vs us->sp vs H Q E →
  codeAny (model P w) A (.call (.ref f) args) (CR CX outer P w H s Q E) s
theorem aO.mono{P:ag}{w:aI}{K:cL}{mg:Str->aE ax}{base:Heap}{CX:Lw}{j k:Nat}{f:av}{fd:af}{ps:ay Str}{sp:Sp}(F:aO P w K mg base CX j f fd ps sp)(h:j<=k) :
  aO P w K mg base CX k f fd ps sp:=⟨F.len,fun A outer s H args us vs Q E hr=>F.run A outer s H args us vs Q E (hr.mono h)⟩
theorem Lj.make{P:ag}{w:aI}{K:cL}{mg:Str->aE ax}{base:Heap}{A:ai}{outer:ay Env}{s:ae}{H:Hp}(e:Lj P w K mg base A outer s H)(C:av)(us:ay ax)(kw:ay (Str×ax)) :
  Lj P w K mg base (A.under (.builtin "type.__call__" ⟨.ref C::us,kw⟩)) outer s H:=⟨by first | exact e.frames | (simpa [Around.under,Code.envs,Code.isFrame,pushEnvs] using e.frames),e.mod,e.bs,e.Qy,e.tU,e.YD,e.hok,e.bare⟩
section
variable{X:Cx}{pins:ay (av×Obj)}{σ:St}{H:Hp}{s s':ae}
theorem Inv.env0(I:Inv X pins σ H s):Lj X.prog X.w X.K X.mg X.base X.A X.stack s H:=
 ⟨I.ok.frames,I.ok.mod,I.bs,bq I.ok.Qy I.sz,I.stack,I.rW,I.hok,I.bare⟩
theorem Inv.after(I:Inv X pins σ H s)(h:CE X.stack X.prog X.w H s Q u s'):EP X pins σ Q u s':=by obtain⟨v,H',os,bare,un,hok,r,q⟩:=h;obtain⟨hh,g,d,t,os'⟩:=s';obtain rfl:os'=s.os:=os;exact⟨v,H',I.call (h':=hh) (g':=g) (d':=d) (t':=t) (ch:=[]) un hok bare (fun b z=>absurd z (by simp)),r,q⟩
end
def Yr(sp:Sp)(nU:ay V)(E:XK)(t:TA):TE:=fun σ H Q=>t σ H fun vs H1=>sp (vs++nU) H1 Q E
def Yp(C:av)(m:Str)(sp:Sp)(nU:ay V)(E:XK)(ta:TE)(t:TA):TE:=fun σ H Q=>ta σ H fun x H1 => ∃ a dx fs,x = .ref a/\H1 a=some (.ins C dx fs)/\fs.lookup m=none ∧
 t σ H1 fun vs H2=>sp (x::(vs++nU)) H2 Q E
def qCC(C:av)(sp:Sp)(nU:ay V)(E:XK)(t:TA):TE:=fun σ H Q=>t σ H fun vs H1 => ∀ x dx,H1 x=none->H1 dx=none->dx≠x →
 sp (.ref x::(vs++nU)) (upd (upd H1 dx (.own x)) x (.ins C dx [])) (fun v H2=>v = .non/\Q (.ref x) H2) E
def Binds(K:cL)(fd:af)(ps:ay Str)(ds:ay ax):Prop:=
 ∀(s:ae)(us:ay ax),K.In s.heap->(us++ds).length=ps.length->BindsTo s fd ⟨us,[]⟩ (ps.zip (us++ds))
theorem Binds.all{K:cL}{fd:af}{ps:ay Str}(h:∀ us:ay ax,us.length=ps.length->bindArgs fd ⟨us,[]⟩=pure (ps.zip us)):Binds K fd ps []:=fun s us _ hl=>by
 rw[iB]at hl ⊢;exact .of_eq (h us hl)
def Passes(CX:Lw)(X:Cx)(E:XK):Prop:=∀(pins:ay (av×Obj))(σ:St)(H:Hp)(s:ae)(e:ax)(s':ae),Inv X pins σ H s->CX X.stack H s E e s'->X.xe e s'
section
variable{X:Cx}{CX:Lw}{k:Nat}{f C:av}{fd:af}{ps:ay Str}{sp:Sp}{nU:ay V}{ds:ay ax}{E:XK}{x m:Str}{p pos apos:Pos}{e o:Expr}{es:ay Expr}{ta:TE}{t:TA}
theorem Js(F:aO X.prog X.w X.K X.mg X.base CX k f fd ps sp)(hr:fK k X.A)(hb:Binds X.K fd ps ds)(hd:Vals nU ds)(hx:Passes CX X E)
  (I:Inv X pins σ H s) (r:Vals vs us) (h:sp (vs++nU) H Q E):wpAny (model X.prog X.w) X.A (call (.ref f) us) (EP X pins σ Q) X.xe s:=by
 have r2:Vals (vs++nU) (us++ds):=r.append hd
 have hl:(us++ds).length=ps.length:=by rw[<-r2.length];exact F.len _ _ _ _ h
 refine wpAny_call (codeAny_mono (F.run X.A X.stack s H ⟨us,[]⟩ (us++ds) (vs++nU) Q E hr I.env0 (hb s us I.nR hl) r2 h) fun r s' hq=>?_)
 cases r with
 | error e=>exact hx pins σ H s e s' I hq
 | ok fl=>
  cases fl with
  | ret u=>exact I.after hq
  | next=>exact c8 hq
  | brk=>exact c8 hq
  | cont=>exact c8 hq
theorem zJ(F:aO X.prog X.w X.K X.mg X.base CX k f fd ps sp)(hr:fK k X.A)(hg:Gl X x)(hm:X.mg x=some (.ref f))(hk:PySem.W.keepIn X.K (.ref f)=true)(hb:Binds X.K fd ps ds)(hd:Vals nU ds)(hx:Passes CX X E)
  (ha:PA X (e::es) t) (hdb:(x==("__debug__" : Str))=false:=by decide) (he:starEach (e::es) X.env=(false,eval e X.env)::starEach es X.env:=by rfl) (hpl:(backTo pos (starEach es X.env)).any (·.1)=false:=by rfl) :
  PE X (.Call (.Name x p) (e::es) [] pos) (Yr sp nU E t):=by intro pins s σ H Q I h;refine wpAny_Call_Name_kw (pZ I hg hm ?_ hdb);refine PySem.W.callWith_K (h₀:=X.base) I.ok.mod.kin hk (bI (ha pos pins s σ H _ I h) fun _ _ ⟨_,_,I1,r,q⟩=>⟨I1.nR,?_⟩) he hpl;exact Js F hr hb hd hx I1 r q
theorem t8(he:PE X o ta)(c:wN X.K C)(hm:Meth X.K C m f)(F:aO X.prog X.w X.K X.mg X.base CX k f fd ps sp)(hr:fK k X.A)(hb:Binds X.K fd ps ds)(hd:Vals nU ds)(hx:Passes CX X E)(ha:PA X (e::es) t)
  (hst:starEach (e::es) X.env=(false,eval e X.env)::starEach es X.env:=by rfl) (hpl:(backTo pos (starEach es X.env)).any (·.1)=false:=by rfl)
  (ht:eval (.Call (.Attribute o m apos) (e::es) [] pos) X.env=(do
   let ov ← eval o X.env
   standAt apos.atName
   let (f,first) ← holding [ov] (getMethod ov m pl)
   callWith pos f first (backTo pos (starEach (e::es) X.env)) (backToKw pos (keywordEach [] X.env))):=by rfl) :
  PE X (.Call (.Attribute o m apos) (e::es) [] pos) (Yp C m sp nU E ta t):=by intro pins s σ H Q I h;refine PySem.W.methodCall_KW (pl:=pl) (bI (he pins s σ H _ I h) fun u s1 ⟨x,H1,I1,rx,a,_,_,ex,ea,l,q⟩=>?_) ht;subst ex;obtain rfl:u=Value.ref a:=rx;refine yl I1 ea c hm l ?_;refine PySem.W.callWith_K (first:=[.ref a]) (h₀:=X.base) I.ok.mod.kin hm.kp (bI (ha pos pins s1 σ H1 _ I1 q) fun us _ ⟨vs,_,I2,r,q2⟩=>⟨I2.nR,?_⟩) hst hpl;exact Js (us:=.ref a::us) (vs:=.ref a::vs) F hr hb hd hx I2 (.cons rfl r) q2
theorem xZ(he:PE X o ta)(c:wN X.K C)(hm:Meth X.K C m f)(F:aO X.prog X.w X.K X.mg X.base CX k f fd ps sp)(hr:fK k X.A)(hb:Binds X.K fd ps ds)(hd:Vals nU ds)(hx:Passes CX X E)
  (ht:eval (.Call (.Attribute o m apos) [] [] pos) X.env=(do
   let ov ← eval o X.env
   standAt apos.atName
   let (f,first) ← holding [ov] (getMethod ov m pl)
   callWith pos f first (backTo pos (starEach [] X.env)) (backToKw pos (keywordEach [] X.env))):=by rfl) :
  PE X (.Call (.Attribute o m apos) [] [] pos) (Yp C m sp nU E ta RB):=by intro pins s σ H Q I h;refine PySem.W.methodCall_KW (pl:=pl) (bI (he pins s σ H _ I h) fun u _ ⟨x,_,I1,rx,a,_,_,ex,ea,l,q⟩=>?_) ht;subst ex;obtain rfl:u=Value.ref a:=rx;refine yl I1 ea c hm l ?_;exact PySem.W.callWith_K0 (first:=[.ref a]) I1.nR hm.kp (Js (us:=[.ref a]) (vs:=[.ref a]) F hr hb hd hx I1 (.cons rfl .nil) q)
structure Mk(K:cL)(C f:Addr):Prop where
 makes:PySem.W.makesIn K C=true
 init:PySem.W.findIn K (.ref C) "__init__" = some (some (.ref f))
 fn:PySem.W.isFn K (.ref f)=true
 kp:KI K C
theorem Rq(M:Mk X.K C f)(F:aO X.prog X.w X.K X.mg X.base CX k f fd ps sp)(hr:fK (k+1) X.A)(hb:Binds X.K fd ps ds)(hd:Vals nU ds)
  (hx:Passes CX X E) (I:Inv X pins σ H s) (r:Vals vs us)
  (h:∀ x dx,H x=none->H dx=none->dx≠x->sp (.ref x::(vs++nU)) (upd (upd H dx (.own x)) x (.ins C dx [])) (fun v H2=>v = .non/\Q (.ref x) H2) E) :
  wpAny (model X.prog X.w) X.A (call (.ref C) us) (EP X pins σ Q) X.xe s:=by
 have hq:=h (s.heap.objs.size+1) s.heap.objs.size (I.hok.fresh (hV _)) (I.hok.fresh (bN _)) (lO (ic _));have I2:=Inv.made (C:=C) I;have r2:Vals (V.ref (s.heap.objs.size+1)::(vs++nU)) (Value.ref (s.heap.objs.size+1)::(us++ds)):=.cons rfl (r.append hd)
 have hl:(Value.ref (s.heap.objs.size+1)::us++ds).length=ps.length:=by
  have e:=r2.length;rw[F.len _ _ _ _ hq]at e;exact e.symm
 refine wpAny_call (Tn (f:=f) I.nR M.makes M.init (beq_iff_eq.mp M.fn) (codeAny_mono (F.run _ X.stack _ _ ⟨Value.ref (s.heap.objs.size+1)::us,[]⟩ (Value.ref (s.heap.objs.size+1)::(us++ds)) _ _ E (hr.make C us [])
  (I2.env0.make C us []) (hb _ (Value.ref (s.heap.objs.size+1)::us) I2.nR hl) r2 hq) fun r s' hq'=>?_))
 cases r with
 | error e=>exact hx pins σ _ _ e s' I2 hq'
 | ok fl=>
  cases fl with
  | ret u=>
   obtain⟨v,H',I3,rv,ev,q3⟩:=I2.after hq';subst ev;exact⟨rv,⟨V.ref (s.heap.objs.size+1),H',I3,rfl,q3⟩⟩
  | next=>exact c8 hq'
  | brk=>exact c8 hq'
  | cont=>exact c8 hq'
theorem wD(M:Mk X.K C f)(F:aO X.prog X.w X.K X.mg X.base CX k f fd ps sp)(hr:fK (k+1) X.A)(hg:Gl X x)(hm:X.mg x=some (.ref C))(hb:Binds X.K fd ps ds)(hd:Vals nU ds)(hx:Passes CX X E)
  (ha:PA X (e::es) t) (hdb:(x==("__debug__" : Str))=false:=by decide) (he:starEach (e::es) X.env=(false,eval e X.env)::starEach es X.env:=by rfl) (hpl:(backTo pos (starEach es X.env)).any (·.1)=false:=by rfl) :
  PE X (.Call (.Name x p) (e::es) [] pos) (qCC C sp nU E t):=by intro pins s σ H Q I h;refine wpAny_Call_Name_kw (pZ I hg hm ?_ hdb);refine PySem.W.callWith_K (h₀:=X.base) I.ok.mod.kin M.kp (bI (ha pos pins s σ H _ I h) fun _ _ ⟨_,_,I1,r,q⟩=>⟨I1.nR,?_⟩) he hpl;exact Rq M F hr hb hd hx I1 r q
end
section
variable{X:Cx}{CX:Lw}{k:Nat}{f C:av}{fd:af}{ps ks:ay Str}{sp:Sp}{E:XK}{x m:Str}{p pos apos kpos:Pos}{e o:Expr}{es:ay Expr}{kws:ay Keyword}{te ta:TE}{t tk:TA}{nm:aE Str}
structure KBinds(K:cL)(fd:FuncData)(ps ks:List Str)(g:List Value->List Value->List Value)(gV:List V->List V->List V):Prop where
 to:∀(s:Shared)(us ws:List Value),K.In s.heap->(g us ws).length=ps.length->BindsTo s fd ⟨us,ks.zip ws⟩ (ps.zip (g us ws))
 rel:∀ {vs:List V} {us:List Value} {zs:List V} {ws:List Value},Vals vs us->Vals zs ws->Vals (gV vs zs) (g us ws)
variable{g:ay ax->ay ax->ay ax}{gV:ay V->ay V->ay V}
end
structure aH(N P:List Str)(sc:Scope):Prop where
 kind:sc.kind = .function
 co:sc.isCoroutine=false
 gen:sc.isGenerator=false
 nd:N.Nodup
 pre:N.take P.length=P
 par:∀ x∈P,sc.names.lookup x=some .local∨sc.names.lookup x=some .cell
 KY:∀ y∈sc.names,y.2≠.free
theorem Ci{kindOf:Str->aE NameKind}{x:Str}:∀ {binds:ay (Str×ax)} {m:Str->aE ax},(∀ v,(x,v)∉binds)->bindL kindOf binds m x=m x
 | [],_,_=>rfl
 | (n,v)::r,m,h=>by
  unfold bindL;rw[Ci fun w hw=>h w (Fj _ hw)]
  split
  .have:x≠n:=by rintro rfl;exact h v wO
   simp [this]
  .rfl
theorem Ck{kindOf:Str->aE NameKind}{x:Str}:∀ {binds:ay (Str×ax)} {m:Str->aE ax},(∀ v,(x,v)∉binds)->bindC kindOf binds m x=m x
 | [],_,_=>rfl
 | (n,v)::r,m,h=>by
  unfold bindC;rw[Ck fun w hw=>h w (Fj _ hw)]
  split
  .rfl
  .have:x≠n:=by rintro rfl;exact h v wO
   simp [this]
theorem Cj{kindOf:Str->aE NameKind}{x:Str}{v:ax}:∀ {P:ay Str} {vs:ay ax} {i:Nat} {m:Str->aE ax},P.Nodup->P[i]? = some x->vs[i]? = some v->kindOf x=some .local →
  bindL kindOf (P.zip vs) m x=some v
 | [],_,_,_,_,h,_,_=>by simp at h
 | _::_,[],_,_,_,_,h,_=>by simp at h
 | p::P,w::vs,0,m,nd,h1,h2,hk=>by
  simp at h1 h2;subst h1;subst h2;show bindL kindOf ((p,w)::P.zip vs) m p=_;unfold bindL;rw[Ci fun v hv=>(fF.mp nd).1 (fN hv).1,cE hk];simp
 | p::P,w::vs,i+1,m,nd,h1,h2,hk=>by
  show bindL kindOf ((p,w)::P.zip vs) m x=_;unfold bindL;exact Cj (i:=i) (List.nodup_cons.mp nd).2 (by simpa using h1) (by simpa using h2) hk
theorem Cm{kindOf:Str->aE NameKind}{x:Str}{v:ax}:∀ {P:ay Str} {vs:ay ax} {i:Nat} {m:Str->aE ax},P.Nodup->P[i]? = some x->vs[i]? = some v->kindOf x≠some .local →
  bindC kindOf (P.zip vs) m x=some v
 | [],_,_,_,_,h,_,_=>by simp at h
 | _::_,[],_,_,_,_,h,_=>by simp at h
 | p::P,w::vs,0,m,nd,h1,h2,hk=>by
  simp at h1 h2;subst h1;subst h2;show bindC kindOf ((p,w)::P.zip vs) m p=_;unfold bindC;rw[Ck fun v hv=>(fF.mp nd).1 (fN hv).1,cy hk];simp
 | p::P,w::vs,i+1,m,nd,h1,h2,hk=>by
  show bindC kindOf ((p,w)::P.zip vs) m x=_;unfold bindC;exact Cm (i:=i) (List.nodup_cons.mp nd).2 (by simpa using h1) (by simpa using h2) hk
def start(N:ay Str)(vs:ay V):St:=vs.map some++List.replicate (N.length-vs.length) none
noncomputable def qL(CX:Lw)(P:ag)(w:aI)(K:cL)(mg:Str->aE ax)(base:Heap)(N:ay Str)(qual:Str)(scope:Scope)(f:av)(cd:ax)(A:ai)(outer:ay Env)(s:ae)(H:Hp)(E:XK):Cx where
 prog:=P
 w:=w
 K:=K
 mg:=mg
 base:=base
 A:=A.deeper (envOfC qual scope s.heap.objs.size f cd)
 N:=N
 s₀:=s
 H₀:=H
 env:=envOfC qual scope s.heap.objs.size f cd
 outer:=outer
 stack:=envOfC qual scope s.heap.objs.size f cd::outer
 ex:=[]
 calm:=true
 fn:=fun _=>true
 pn:=[]
 xe:=fun e s'=>wpAny (model P w) (A.deeper (envOfC qual scope s.heap.objs.size f cd)) (leaving (envOfC qual scope s.heap.objs.size f cd) e) (fun _ s''=>CX outer H s E e s'') (fun e' s''=>CX outer H s E e' s'') s'
theorem Ir{sc:Scope}{n:Nat}{x:Str}(h:sc.names.lookup x=some .cell):∃ c,(cellsFrom n sc.names []).lookup x=some c:=by have q:=PySem.W.cellsFrom_some sc.names n [] (.inl h);exact jv.mp q
theorem QC{CX:Lw}{P:ag}{w:aI}{K:cL}{mg:Str->aE ax}{base:Heap}{N ps:ay Str}{qual:Str}{scope:Scope}{f:av}{cd:ax}{A:ai}{outer:ay Env}{s s1:ae}{H:Hp}{E:XK}{us:ay ax}{vs:ay V}
  (S:aH N ps scope) (hd:A.handled=none) (e0:Lj P w K mg base A outer s H) (hl:vs.length=ps.length) (r:Vals vs us)
  (x:InCallC s s.heap.objs.size (bindL (envOfC qual scope s.heap.objs.size f cd).kindOf (ps.zip us) fun _=>none) (cellsFrom (s.heap.objs.size+1) scope.names []) (bindC (envOfC qual scope s.heap.objs.size f cd).kindOf (ps.zip us) fun _=>none) s1) :
  Inv (qL CX P w K mg base N qual scope f cd A outer s H E) [] (start N vs) H s1:=by
 have hpl:ps.length<=N.length:=by have:=congrArg List.length S.pre;rw[iW]at this;lia
 obtain⟨h1,_,rfl,hk⟩:=x.done;have noA:∀ b:av,b∉(qL CX P w K mg base N qual scope f cd A outer s H E).ex:=fun b z=>absurd (show b∈([]:ay av) from z) (by simp)
 refine⟨⟨e0.mod,S.kind,rfl,rfl,bN _,fun y z c h1 h2=>?_,fun y hy=>?_,fun y c _ h=>?_,fun _=>hd,Around.frames_deeper e0.frames,.inr ⟨rfl,rfl⟩,fun b z=>dP z (noA b),e0.bs,e0.Qy,fun b _ _=>noA b,fun b z=>dP z (noA b),e0.tU,e0.YD⟩,
  rfl,e0.bare,Un.kept hk,⟨_,x.toInCall.ns,fun i y v h1 h2 _=>?_⟩,fun y c h=>⟨_,x.cell y c h⟩,e0.hok.fresh (Nat.le_refl _),fun y c h=>?_,fun p hp=>absurd (show p∈([]:ay (av×Obj)) from hp) (by simp),e0.hok.kept hk,?_⟩
 .exact name_of_addr x.apart (cq h1) (cq h2)
 .have hy:scope.names.lookup y=some .cell∨scope.names.lookup y=some .free:=hy;rcases hy with hy | hy
  .exact Ir hy
  .exact dP rfl (S.KY _ (cq hy))
 .exact hU (x.above y c (cq h))
 .have hi:i<vs.length:=by
   unfold start at h2
   by_cases hi:i<vs.length
   .exact hi
   .rw[List.getElem?_append_right (by simpa using hi)]at h2;rw[List.getElem?_replicate]at h2
    split at h2 <;> cases h2
  have ha:vs[i]? = some v:=by
   unfold start at h2;rw[List.getElem?_append_left (by simpa using hi),List.getElem?_map]at h2
   cases e:vs[i]? with
   | none=>rw[e]at h2;cases h2
   | some a=>rw[e]at h2;cases h2;rfl
  obtain⟨u,hu,rv⟩:=r.get ha
  have hp:ps[i]? = some y:=by
   rw[<-S.pre,List.getElem?_take_of_lt (by lia)];exact h1
  have ndP:ps.Nodup:=by rw[<-S.pre];exact S.nd.sublist (List.take_sublist _ _)
  refine⟨u,rv,?_⟩;rcases S.par y (zp hp) with k | k
  .exact .inl ⟨k,Cj ndP hp hu k⟩
  .obtain⟨c,e⟩:=Ir (n:=s.heap.objs.size+1) k;refine .inr ⟨.inl k,c,e,?_⟩;have q:=x.cell y c e;rw[Cm ndP hp hu (by show scope.names.lookup y≠_;rw[k];decide)]at q;exact q
 .exact e0.hok.fresh (hU (x.above y c (cq h)))
 .unfold start;show _=N.length;rw[dj,bh,d0];lia
theorem ZF{CX:Lw}{P:ag}{w:aI}{K:cL}{mg:Str->aE ax}{base:Heap}{k:Nat}{f:av}{name qual:Str}{params:Arguments}{body:ay Stmt}{scope:Scope}{dV kV doc pm cdv ct oc:ax}{an od:aE av}
  {osl:Array (aE ax)} {N ps:ay Str} {sp:Sp} (lk:K.lookup f=some ⟨oc,od,.func (PySem.W.fnOf name qual params body scope dV kV doc pm an cdv ct),osl⟩) (hcd:PySem.W.codeIn K cdv qual=true) (S:aH N ps scope)
  (len:∀ vs H Q E,sp vs H Q E->vs.length=ps.length)
  (hbody:∀(A:ai)(outer:ay Env)(s:ae)(H:Hp)(vs:ay V)(Q:VK)(E:XK),fK k (A.deeper (envOfC qual scope s.heap.objs.size f cdv))->sp vs H Q E →
   ∃ t,FT (qL CX P w K mg base N qual scope f cdv A outer s H E) body t/\t { nx:=fun _ H'=>Q .non H',rt:=Q } (start N vs) H) :
  aO P w K mg base CX (k+1) f (PySem.W.fnOf name qual params body scope dV kV doc pm an cdv ct) ps sp:=by
 refine⟨len,fun A outer s H _ us vs Q E hr e0 hb r hsp=>?_⟩;have hl:=len _ _ _ _ hsp;have KX:K.In s.heap:=e0.mod.kin.keeps fun b o e=>(e0.bs b o e).1;have lim:s.heap.NoLimit:=e0.mod.nolimit.keeps fun b o e=>(e0.bs b o e).1
 have hkind:∀ y∈ps.zip us,scope.names.lookup y.1=some .local∨(scope.names.lookup y.1=some .cell/\((cellsFrom (s.heap.objs.size+1) scope.names []).lookup y.1).isSome=true):=fun ⟨n,v⟩ hy=>by
  rcases S.par n (fN hy).1 with q | q
  .exact .inl q
  .exact .inr ⟨q,PySem.W.cellsFrom_some _ _ _ (.inl q)⟩
 refine codeAny_call_function hr.depth (KX _ _ lk) rfl S.co S.gen rfl (PySem.W.codeRec_of KX hcd) (hb _ _ _ _ ?_);refine wpAny_newFunctionEnv_cells S.kind hkind fun _ he s1 x=>?_;subst he;refine⟨lim.keeps x.toInCall.keep,codeAny_func ?_⟩;obtain⟨t,ht,hq⟩:=hbody A outer s H vs Q E (hr.deeper _) hsp;have I:Inv (qL CX P w K mg base N qual scope f cdv A outer s H E) [] (start N vs) H s1:=QC S hr.hd e0 hl r x;refine bX (ht [] s1 (start N vs) H _ I hq) (fun fl s' hs=>?_) fun e s' hs=>hs
 have fin:∀ {σ':St} {H':Hp} {v:V} {u:ax},Inv (qL CX P w K mg base N qual scope f cdv A outer s H E) [] σ' H' s'->RelV v u->Q v H'->CE outer P w H s Q u s':=
  fun {σ' H' v u} J rv q=>⟨v,H',J.os,J.bare,J.base,J.hok,rv,q⟩
 cases fl with
 | ret u=>
  obtain⟨v,σ',H',J,rv,q⟩:=hs;exact fin J rv q
 | next=>
  obtain⟨σ',H',J,q⟩:=hs;exact fin (v:=V.non) (u:=Value.none) J rfl q
 | brk=>
  obtain⟨_,_,_,q⟩:=hs;exact c8 q
 | cont=>
  obtain⟨_,_,_,q⟩:=hs;exact c8 q
section
variable{X:Cx}{x:Str}{p pos:Pos}{e:Expr}{es:ay Expr}{t:TA}{id T:String}{r:ay V->Hp->VK->Prop}
def tCB(r:ay V->Hp->VK->Prop)(t:TA):TE:=fun σ H Q=>t σ H fun vs H1=>r vs H1 Q
theorem zS(hc:lN X (.builtin id) r)(hg:Gl X x)(hm:X.mg x=none)(hv:bootBuiltins x=some (.builtin id))(ha:PA X (e::es) t)(hn:x ≠ "__name__" := by decide)(hdb:(x==("__debug__" : Str))=false:=by decide)
  (he:starEach (e::es) X.env=(false,eval e X.env)::starEach es X.env:=by rfl) (hpl:(backTo pos (starEach es X.env)).any (·.1)=false:=by rfl):PE X (.Call (.Name x p) (e::es) [] pos) (tCB r t):=by intro pins s σ H Q I h;refine wpAny_Call_Name_kw (oW I hg hm hv ?_ hn hdb);exact PyProof.Rows.callWith_builtin1 (bI (ha pos pins s σ H _ I h) fun us s1 ⟨vs,H1,I1,r1,q1⟩=>hc pins s1 σ H1 vs us Q I1 r1 q1) he hpl
theorem yA(hc:lN X (.type T) r)(hg:Gl X x)(hm:X.mg x=none)(hv:bootBuiltins x=some (.type T))(ha:PA X (e::es) t)(hn:x ≠ "__name__" := by decide)(hdb:(x==("__debug__" : Str))=false:=by decide)
  (he:starEach (e::es) X.env=(false,eval e X.env)::starEach es X.env:=by rfl) (hpl:(backTo pos (starEach es X.env)).any (·.1)=false:=by rfl):PE X (.Call (.Name x p) (e::es) [] pos) (tCB r t):=by intro pins s σ H Q I h;refine wpAny_Call_Name_kw (oW I hg hm hv ?_ hn hdb);exact kf (bI (ha pos pins s σ H _ I h) fun us s1 ⟨vs,H1,I1,r1,q1⟩=>hc pins s1 σ H1 vs us Q I1 r1 q1) he hpl
end
end L2
namespace HT
open PySem PyProof.Rows
section
open PySem.SeqAt
open PySem.AutoSeq1 (wpAny_loadPart')
open PySem.MeetsSeq PySem.MeetsSeq2 PySem.MeetsSeq3
end
section
variable{prog:ag}{w:aI}{A:ai}{E:ax->ae->Prop}{s:ae}
theorem YX(ht:IsTup s.heap t vs.toArray)(hb:IsTup s.heap b ws.toArray)(hv:vs≠[])
  (h1:ws=[]->Q (.ref t) s) (h2:ws≠[]->Q (.ref s.heap.objs.size) { s with heap:=s.heap.push { cls:=.type "tuple",data:=.seq (vs++ws).toArray } })
  (hsz:vs.length+ws.length<=sizeLine):wpAny (model prog w) A (binaryOp .Add (.ref t) (.ref b)) Q E s:=by
 obtain⟨⟨cls,dd,data,sl⟩,ho,hc,n,hd⟩:=id ht;obtain⟨⟨_,dd2,_,sl2⟩,ho2,hc2,n2,hd2⟩:=id hb;simp only at hc hd hc2 hd2;subst hc hd hc2 hd2
 have e:vs.toArray++ws.toArray=(vs++ws).toArray:=by simp
 by_cases hw:ws=[]
 .exact concat_meets ⟨_,ho,rfl⟩ ⟨_,ho2,rfl⟩ noFill_tuple_add seq_tuple_add kC kr (kn _ _)
   (tuple_addW1 t b vs.toArray ws.toArray n n2 dd dd2 sl sl2 (by simpa using hv) (by simp [hw])) ⟨ho,ho2,h1 hw⟩
 .refine concat_meets ⟨_,ho,rfl⟩ ⟨_,ho2,rfl⟩ noFill_tuple_add seq_tuple_add kC kr (kn _ _)
   (tuple_addW2 t b vs.toArray ws.toArray n n2 dd dd2 sl sl2 (by simpa using hv) (by simpa using hw) (by rw[List.size_toArray,List.size_toArray];exact hsz)) ⟨ho,ho2,?_⟩
  rw[e];exact h2 hw
noncomputable def iD(n d:Nat):aE Int->Nat
 | none=>d
 | some v=>if v<0 then (v+(n:Int)).toNat else min v.toNat n
theorem Gb(n d:Nat):iD n d none=d:=rfl
theorem wC(n d k:Nat):iD n d (some (k:Int))=min k n:=by show (if (k:Int)<0 then ((k:Int)+(n:Int)).toNat else min (k:Int).toNat n)=min k n;rw[cy (by lia),JT]
theorem Zw(n d:Nat)(hd:d<=n)(o:aE Int):iD n d o<=n:=by
 cases o with
 | none=>exact hd
 | some v=>
  show (if v<0 then (v+(n:Int)).toNat else min v.toNat n)<=n
  by_cases hv:v<0
  .rw[cE hv];lia
  .rw[cy hv];exact Nat.min_le_right _ _
theorem Oe(v:Int)(n d:Nat):(if v<0 then max (v+(n:Int)) 0 else min v (n:Int))=((iD n d (some v):Nat):Int):=by
 show (if v<0 then max (v+(n:Int)) 0 else min v (n:Int))=(((if v<0 then (v+(n:Int)).toNat else min v.toNat n):Nat):Int)
 by_cases hv:v<0
 .simp only[if_pos hv];lia
 .simp only[if_neg hv];lia
theorem Lb(lo hi:aE Int)(n:Nat):Builtin.Slice.sliceAdjust lo hi 1 (n:Int)=(((iD n 0 lo:Nat):Int),((iD n n hi:Nat):Int)):=by
 have h1:¬ ((1:Int)<0):=by lia
 unfold Builtin.Slice.sliceAdjust;simp only[h1,if_false];refine Prod.ext ?_ ?_
 .cases lo with
  | none=>rfl
  | some v=>exact Oe v n 0
 .cases hi with
  | none=>rfl
  | some v=>exact Oe v n n
theorem Jz(i j:Nat):Builtin.Slice.slicePlaces (i:Int) (j:Int) 1=j-i:=by
 unfold Builtin.Slice.slicePlaces
 have h1:(1:Int)>0:=by lia
 simp only[h1,if_true,Int.ediv_one]
 split <;> lia
theorem wz(p:IsPart v o)(h:Q o s):wpAny (model prog w) A (Builtin.Slice.slicePartIndex v) Q E s:=by
 cases p with
 | none=>exact slicePart_none h
 | int i t=>exact slicePart_int h
theorem uV{sl:av}{vl vu:ax}{lo hi:aE Int}{n:Nat}{Q:Int×Int×Nat->ae->Prop}(hs:s.heap.IsSliceOf sl vl vu .none)(pl:IsPart vl lo)(pu:IsPart vu hi)
  (h:Q (((iD n 0 lo:Nat):Int),1,iD n n hi-iD n 0 lo) s):wpAny (model prog w) A (Builtin.Slice.sliceApplied (.ref sl) (pure (n:Int))) Q E s:=by obtain⟨_,hos,_,hds⟩:=id hs;unfold Builtin.Slice.sliceApplied Builtin.Slice.sliceFields;refine aS (aS (wpAny_field hos hds (x:=vl) rfl (aS (wpAny_field hos hds (x:=vu) rfl (aS (wpAny_field hos hds (x:=.none) rfl (aT ?_)))))));refine aS (slicePart_none ?_);show wpAny _ _ (if ((1:Int)==0)=true then _ else _) _ _ s;rw[cy (by decide)];refine aS (wz pl (aS (wz pu (aS (aT ?_)))));show wpAny _ _ (match Builtin.Slice.sliceAdjust lo hi 1 (n:Int) with | (lo,hi)=>pure (lo,(1:Int),Builtin.Slice.slicePlaces lo hi 1)) _ _ s;rw[Lb lo hi n];show wpAny _ _ (pure (((iD n 0 lo:Nat):Int),(1:Int),Builtin.Slice.slicePlaces ((iD n 0 lo:Nat):Int) ((iD n n hi:Nat):Int) 1)) _ _ s;rw[Jz];exact aT h
theorem S8(xs:Array ax)(i k:Nat):((List.range k).filterMap fun (m:Nat)=>xs[((i:Int)+(m:Int)*1).toNat]?).toArray=((xs.toList.drop i).take k).toArray:=by
 have e:(fun (m:Nat)=>xs[((i:Int)+(m:Int)*1).toNat]?)=fun m=>xs[i+m]?:=by
  funext m
  have:((i:Int)+(m:Int)*1).toNat=i+m:=by lia
  rw[this]
 rw[e];have:=pick_run xs i k;rw[List.filterMap_map]at this;have e2:((fun x=>xs[x]?) ∘ fun x=>i+x)=fun m=>xs[i+m]?:=rfl;rw[e2]at this;rw[this]
theorem tR{t sl:av}{items:Array ax}{vl vu:ax}{lo hi:aE Int}{Q:ax->ae->Prop}(ht:IsTup s.heap t items)(hs:s.heap.IsSliceOf sl vl vu .none)(pl:IsPart vl lo)(pu:IsPart vu hi)
  (hw:¬ (iD items.size 0 lo=0/\iD items.size items.size hi=items.size))
  (h:Q (.ref s.heap.objs.size) { s with heap:=s.heap.push { cls:=.type "tuple",data:=.seq ((items.toList.drop (iD items.size 0 lo)).take (iD items.size items.size hi-iD items.size 0 lo)).toArray } })
  (hsz:items.size<=sizeLine):wpAny (model prog w) A (getItem (.ref t) (.ref sl)) Q E s:=by
 have Nx:sizeOk (.seq ((items.toList.drop (iD items.size 0 lo)).take (iD items.size items.size hi-iD items.size 0 lo)).toArray):=by
  show ((items.toList.drop (iD items.size 0 lo)).take (iD items.size items.size hi-iD items.size 0 lo)).toArray.size<=sizeLine;rw[Aa,iW,fh,Array.length_toList];lia
 have hj:iD items.size items.size hi<=items.size:=Zw _ _ (bN _) hi;obtain⟨os,hos,hcs,_⟩:=id hs;have hTs:s.TypeIs (.ref sl) "slice" := ⟨os,hos,hcs⟩;unfold getItem
 try with_reducible refine cm ?_
 first | refine aS (aT ?_) | skip
 refine aS (wpAny_sequenceKey ht.typeIs (by decide) ?_)
 refine aS (wpAny_callSpecial?_slot (name:=Str.ofString "__getitem__") ht.typeIs kg
  (wpAny_call_entry kg ht.typeIs entry_tuple_getitem ?_ (args_tuple_getitem _ _)))
 show wpAny _ _ (Builtin.Tuple.tupleItemsOf (.ref t) >>= _) _ _ s;refine aS (tupleItemsOf_ ht ?_);refine aS (wpAny_typeOf hTs ?_);rw[cE (by decide)];refine aS (uV hs pl pu ?_)
 have hno:¬ ((((iD items.size 0 lo:Nat):Int)==0&&(1:Int)==1&&(iD items.size items.size hi-iD items.size 0 lo)==items.size)=true):=by
  intro q;rw[dS,dS]at q;have q1:((iD items.size 0 lo:Nat):Int)=0:=eq_of_beq q.1.1;have q2:iD items.size items.size hi-iD items.size 0 lo=items.size:=eq_of_beq q.2;exact hw ⟨by lia,by lia⟩
 show wpAny _ _ (if (((iD items.size 0 lo:Nat):Int)==0&&(1:Int)==1&&(iD items.size items.size hi-iD items.size 0 lo)==items.size)=true then _ else _) _ _ s;rw[cy hno,S8]
 first
  | exact aS (m:=Builtin.Tuple.tupleExact _) (wpAny_newObj_type (aT ⟨_,rfl,aT h⟩) Nx)
  | exact aS (m:=Builtin.Tuple.tupleExact _) (wpAny_newObj_type (aS (aT (aT ⟨_,rfl,aT h⟩))) Nx)
  | exact aS (aS (m:=Builtin.Tuple.tupleExact _) (wpAny_newObj_type (aT (aT ⟨_,rfl,aT h⟩)) Nx))
  | exact aS (aS (m:=Builtin.Tuple.tupleExact _) (wpAny_newObj_type (aT ⟨_,rfl,aT h⟩) Nx))
end
end HT
namespace L2
open PySem PySem.Spec PyProof.Rows
abbrev TO:=St->Hp->(aE Int->Hp->Prop)->Prop
def PO(X:Cx)(e:aE Expr)(t:TO):Prop:=
 ∀(pins:ay (av×Obj))(s:ae)(σ:St)(H:Hp)(Q:aE Int->Hp->Prop),Inv X pins σ H s->t σ H Q →
  wpAny (model X.prog X.w) X.A (evalPart e X.env) (fun u s'=>∃ o H',Inv X pins σ H' s'/\IsPart u o/\Q o H') X.xe s
def WR:TO:=fun _ H Q=>Q none H
def qC6(t:TE):TO:=fun σ H Q=>t σ H fun x H1 => ∃ i,x = .int i/\Q (some i) H1
theorem intsAre_of:∀ {us:ay ax},Vals (ns.map V.int) us->IntsAre us ns:=by
 induction ns with
 | nil=>intro us r;rw[fq]at r;cases r;exact .nil
 | cons n ns ih=>
  intro us r;rw[br]at r
  cases r with
  | cons r1 r2=>
   obtain⟨t,e⟩:=r1;subst e;exact .cons n t (ih r2)
section
variable{X:Cx}{e:Expr}{te:TE}{lo hi:aE Expr}{tl th:TO}{pos p2:Pos}
theorem pP:PO X none WR:=by intro _ s σ H Q I h;rw[evalPart_none];exact aT ⟨none,H,I,.none,h⟩
theorem pO(h:PE X e te):PO X (some e) (qC6 te):=by intro pins s σ H Q I hw;rw[evalPart_some];refine bI (h pins s σ H _ I hw) fun u _ ⟨x,H1,I1,r1,q1⟩=>?_;obtain⟨i,rfl,q⟩:=q1;obtain⟨t,rfl⟩:=r1;exact⟨some i,H1,I1,.int i t,q⟩
def SlR(X:Cx)(r:V->aE Int->aE Int->Hp->VK->Prop):Prop:=
 ∀(pins:ay (av×Obj))(s:ae)(σ:St)(H:Hp)(x:V)(v vl vu:ax)(lo hi:aE Int)(sl:av)(Q:VK),Inv X pins σ H s->RelV x v->s.heap.IsSliceOf sl vl vu .none->IsPart vl lo->IsPart vu hi->r x lo hi H Q →
  ∃ T id,typeLookup (.type T) "__getitem__" = pure (some (.builtin id))/\s.TypeIs v T/\wpAny (model X.prog X.w) X.A (getItem v (.ref sl)) (EP X pins σ Q) X.xe s
def tSl(r:V->aE Int->aE Int->Hp->VK->Prop)(te:TE)(tl th:TO):TE:=fun σ H Q=>te σ H fun x H1=>tl σ H1 fun l H2=>th σ H2 fun u H3=>r x l u H3 Q
theorem kh(hr:SlR X r)(he:PE X e te)(hl:PO X lo tl)(hu:PO X hi th):PE X (.Subscript e (.Slice lo hi none p2) pos) (tSl r te tl th):=by intro pins s σ H Q I h;refine Subscript_ (bI (he pins s σ H _ I h) fun v s1 ⟨x,H1,I1,r1,q1⟩=>?_);refine wpAny_Slice (bI (hl pins s1 σ H1 _ I1 q1) fun vl s2 ⟨l,H2,I2,pl,q2⟩=>bI (hu pins s2 σ H2 _ I2 q2) fun vu s3 ⟨u,H3,I3,pu,q3⟩=>?_);rw[evalPart_none];refine aT ?_;have I4:Inv X pins σ H3 { s3 with heap:=s3.heap.push { cls:=.type "slice",data:=.fields #[vl,vu,.none] } }:=I3.kept (t':=s3.toks) fun b _ q=>j8 _ q;obtain⟨T,_,hT,ht,hg⟩:=hr pins { s3 with heap:=s3.heap.push { cls:=.type "slice",data:=.fields #[vl,vu,.none] } } σ H3 x v vl vu l u s3.heap.objs.size Q I4 r1 (Heap.IsSliceOf.new ..) pl pu q3;show wpAny (model X.prog X.w) X.A (subscriptTail e (.Slice lo hi none p2) v (.ref s3.heap.objs.size)) (EP X pins σ Q) X.xe { s3 with heap:=s3.heap.push { cls:=.type "slice",data:=.fields #[vl,vu,.none] } };exact tail_any (ops:=[.ref s3.heap.objs.size,v]) ht hT hg (by with_unfolding_all rfl)
def rB(xs:ay V)(lo hi:aE Int):ay V:=(xs.drop (HT.iD xs.length 0 lo)).take (HT.iD xs.length xs.length hi-HT.iD xs.length 0 lo)
theorem vX(xs:ay V)(lo hi:aE Int):(rB xs lo hi).length<=xs.length:=by unfold rB;rw[iW,fh];lia
def qGX(K:cL):V->aE Int->aE Int->Hp->VK->Prop:=fun x lo hi H Q => ∃ a xs,x = .ref a/\aM K H a xs ∧
 ¬ (HT.iD xs.length 0 lo=0/\HT.iD xs.length xs.length hi=xs.length)/\∀ p,H p=none->Q (.ref p) (upd H p (.tup (rB xs lo hi)))
theorem Rg:SlR X (qGX X.K):=by
 intro _ s σ H x v _ _ lo hi _ Q I rx hs pl pu h;obtain⟨a,xs,rfl,hx,hw,q⟩:=h
 cases rx
 obtain⟨its,r,ht,hz⟩:=I.tuple hx
 have hlen:its.toArray.size=xs.length:=by rw[Aa];exact r.length.symm
 refine⟨"tuple",_,PyProof.Rows.slot_tuple_getitem.lookup,ht.typeIs,?_⟩;refine HT.tR ht hs pl pu (by rw[hlen];exact hw) ?_ (by rw[hlen];exact hz);rw[hlen];refine⟨.ref s.heap.objs.size,_,I.laid (t':=s.toks) (o:=.tup (rB xs lo hi)) (fun b _ q=>j8 _ q) (bN _) ?_,rfl,q _ (I.hok.fresh (bN _))⟩;exact⟨bq (vX xs lo hi) hz,_,(r.drop (HT.iD xs.length 0 lo)).take (HT.iD xs.length xs.length hi-HT.iD xs.length 0 lo),IsTup.new _ _⟩
def qD5(K:cL):R2:=fun x y H Q => ∃ a b xs ys,x = .ref a/\y = .ref b/\aM K H a xs/\aM K H b ys/\xs≠[]/\xs.length+ys.length<=sizeLine ∧
 (ys=[]->Q (.ref a) H)/\(ys≠[]->∀ p,H p=none->Q (.ref p) (upd H p (.tup (xs++ys))))
theorem Vals.tG(r:Vals xs us):us=[]↔xs=[]:=by
 cases r with
 | nil=>simp
 | cons _ _=>simp
theorem pU:jh X (binaryOp .Add) (qD5 X.K):=by
 intro _ s σ H x y v u Q I rx ry h;obtain⟨a,b,xs,ys,rfl,rfl,ha,hb,hx,hz,q1,q2⟩:=h
 cases rx
 cases ry
 obtain⟨_,r1,p1,_⟩:=I.tuple ha;obtain⟨_,r2,p2,_⟩:=I.tuple hb;refine HT.YX p1 p2 (fun z=>hx (r1.tG.mp z)) (fun z=>⟨.ref a,H,I,rfl,q1 (r2.tG.mp z)⟩) (fun z=>?_) (by rw[<-r1.length,<-r2.length];exact hz);refine⟨.ref s.heap.objs.size,_,I.laid (t':=s.toks) (o:=.tup (xs++ys)) (fun b _ q=>j8 _ q) (bN _) ?_,rfl,q2 (fun w=>z (r2.tG.mpr w)) _ (I.hok.fresh (bN _))⟩;exact⟨by rw[dj];exact hz,_,r1.append r2,IsTup.new _ _⟩
end
noncomputable def Vz(n:Nat)(i:Int):aE Nat:=if 0<=i then (if i<n then some i.toNat else none) else if -(n:Int)<=i then some (i+n).toNat else none
def rK{α:Type}(xs:ay α)(i:Int):aE α:=(Vz xs.length i).bind fun j=>xs[j]?
theorem Nr(h:Vz n i=some j):seqIndex? i n=some j/\j<n /\ -(n:Int)<=i/\i<n:=by
 unfold Vz at h
 by_cases h0:0<=i
 .rw[cE h0]at h
  by_cases h1:i<n
  .rw[cE h1]at h;have e:i.toNat=j:=jX h;exact⟨by rw[seqIndex_of h0 h1,e],by lia,by lia,h1⟩
  .rw[cy h1]at h;cases h
 .rw[cy h0]at h
  by_cases h1 : -(n:Int)<=i
  .rw[cE h1]at h;have e:(i+n).toNat=j:=jX h;exact⟨by rw[seqIndex_neg (by lia) h1,e],by lia,h1,by lia⟩
  .rw[cy h1]at h;cases h
theorem FN(h:rK xs i=some v):∃ j,seqIndex? i xs.length=some j/\xs[j]? = some v/\j<xs.length /\ -(xs.length:Int)<=i/\i<xs.length:=by
 unfold rK at h
 cases e:Vz xs.length i with
 | none=>rw[e]at h;cases h
 | some j=>
  rw[e]at h;obtain⟨h1,h2,h3,h4⟩:=Nr e;exact⟨j,h1,h,h2,h3,h4⟩
theorem yQ{α:Type}{xs:ay α}{j:Nat}{v:α}(h:xs[j]? = some v):rK xs (j:Int)=some v:=by
 have hj:j<xs.length:=(fO.mp h).1
 have e:Vz xs.length (j:Int)=some j:=by
  unfold Vz;rw[cE (by lia),cE (by lia)];simp
 unfold rK;rw[e];exact h
def Ol(b:Expr):Prop:=∀ o i,subscripted b false o i=operate [o,i] (getItem o i)
def IxR(X:Cx)(r:R2):Prop:=
 ∀(value slice:Expr)(pins:ay (av×Obj))(s:ae)(σ:St)(H:Hp)(x y:V)(v u:ax)(Q:VK),Inv X pins σ H s->RelV x v->RelV y u->r x y H Q →
  subscripted slice false v u=operate [v,u] (getItem v u)->wpAny (model X.prog X.w) X.A (subscriptTail value slice v u) (EP X pins σ Q) X.xe s
def MtR(X:Cx)(id:String)(r:V->ay V->Hp->VK->Prop):Prop:=
 ∀(pins:ay (av×Obj))(s:ae)(σ:St)(H:Hp)(x:V)(xs:ay V)(v:ax)(us:ay ax)(Q:VK),Inv X pins σ H s->RelV x v->Vals xs us->r x xs H Q →
  wpAny (model X.prog X.w) X.A (call (.builtin id) (v::us)) (EP X pins σ Q) X.xe s
section
variable{X:Cx}{a b:Expr}{ta tb:TE}{pos:Pos}
theorem yB(hr:IxR X r)(ha:PE X a ta)(hb:PE X b tb)(hs:Ol b):PE X (.Subscript a b pos) (tOp r ta tb):=by intro pins s σ H Q I h;exact Subscript_ (qBR ha hb I h fun v u s2 x y H2 I2 rx ry q=>hr a b pins s2 σ H2 x y v u Q I2 rx ry q (hs _ _))
inductive qA3(K:cL)(x y:V)(H:Hp)(Q:VK):Prop
 | mk (p:Addr) (xs:List V) (i:Int) (v:V) (_:x = .ref p) (_:y = .int i) (_:aV K H p xs) (_:rK xs i=some v) (_:Q v H)
inductive jE(K:cL)(x y:V)(H:Hp)(Q:VK):Prop
 | mk (p:Addr) (xs:List V) (i:Int) (v:V) (_:x = .ref p) (_:y = .int i) (_:aM K H p xs) (_:rK xs i=some v) (_:Q v H)
def qH0:R2:=fun x y H Q => ∃ z i c,x = .str z/\y = .int i/\z.length<=sizeLine/\rK z.cps.toList i=some c/\Q (.str ⟨#[c]⟩) H
theorem yU:IxR X (qA3 X.K):=by
 intro _ _ pins s σ H x y v u Q I rx ry h hs;obtain⟨p,_,i,z,rfl,rfl,hq,he,q⟩:=h
 cases rx
 obtain⟨t,rfl⟩:=ry;obtain⟨its,r,pl,_⟩:=I.list hq;obtain⟨j,h1,h2,_,h4,h5⟩:=FN he;obtain⟨w,ew,PB⟩:=r.get h2;have hl:=r.length;have hn:=uv;have fin:EP X pins σ Q w s:=⟨z,H,I,PB,q⟩
 by_cases h0:0<=i
 .have hj:i.toNat=j:=by
   rw[seqIndex_of h0 h5]at h1;exact jX h1
  exact item_listR pl.isList h0 (by lia) (by rw[hj];simpa using ew) fin hs
 .have hj:(i+(its.toArray.size:Int)).toNat=j:=by
   rw[seqIndex_neg (by lia) h4]at h1;rw[Aa,<-hl];exact jX h1
  exact subscriptTail_builtinR (x:=w) pl.isList.typeIs slot_list_getitem.lookup
   (wpAny_getItem_list_neg (Q:=fun r s'=>r=w/\EP X pins σ Q r s') pl.isList (by lia) (by rw[gz] <;> lia) (by lia) (by rw[hj];simpa using ew) ⟨rfl,fin⟩) hs
theorem zH:IxR X (jE X.K):=by
 intro _ _ pins s σ H x y v u Q I rx ry h hs;obtain⟨p,_,i,z,rfl,rfl,hq,he,q⟩:=h
 cases rx
 obtain⟨t,rfl⟩:=ry;obtain⟨_,r,pl,_⟩:=I.tuple hq;obtain⟨j,h1,h2,_,_,_⟩:=FN he;obtain⟨w,ew,PB⟩:=r.get h2;have hl:=r.length;have hn:=uv;have fin:EP X pins σ Q w s:=⟨z,H,I,PB,q⟩;exact subscriptTail_builtinR (x:=w) pl.typeIs slot_tuple_getitem.lookup
  (getItem_tuple (j:=j) (Q:=fun r s'=>r=w/\EP X pins σ Q r s') pl (by lia) (by lia) (by rw[gz,<-hl];exact h1) (by simpa using ew) ⟨rfl,fin⟩) hs
theorem qB0:IxR X qH0:=by
 intro _ _ _ s σ H x y v u Q I rx ry h hs;obtain⟨z,i,c,rfl,rfl,_,he,q⟩:=h;obtain⟨t,rfl⟩:=rx;obtain⟨_,rfl⟩:=ry;obtain⟨j,h1,h2,_,h4,h5⟩:=FN he
 have hl:z.cps.toList.length=z.length:=by simp [Str.length]
 rw[hl]at h1 h4 h5;have hn:=uv
 exact tail_any (typeIs_str s z t) slot_str_getitem.lookup (getItem_str (c:=c) (by
  have e1:decide (i < -(2 ^ 63:Int))=false:=bo (by lia);have e2:decide (i≥2 ^ 63)=false:=bo (by lia)
  rw[e1,e2,Bool.or_false]) (by rw[h1];simpa using h2) ⟨.str ⟨#[c]⟩,H,I.tok _,⟨_,rfl⟩,q⟩) hs
theorem Kd(its:ay ax)(n j:Nat)(u:ax):Obj.mapSeq (·.setIfInBounds j u) { cls:=.type "list",data:=.seq its.toArray n } = { cls:=.type "list",data:=.seq (its.set j u).toArray n }:=by simp [Obj.mapSeq]
theorem Inv.lst(I:Inv X pins σ H s)(h:H p=some (.lst xs)) :
  ∃(its:ay ax)(n:Nat),Vals xs its/\s.heap.get? p=some { cls:=.type "list",data:=.seq its.toArray n }/\xs.length<=sizeLine:=by obtain⟨z,its,n,r,e⟩:=I.hok p _ h;exact⟨its,n,r,e,z⟩
theorem Inv.qAR{pins:ay (av×Obj)}{σ:St}{H:Hp}{s:ae}{p:av}{xs ys:ay V}{its its':ay ax}{n n':Nat}{f:Obj->Obj}(I:Inv X pins σ H s)(h:H p=some (.lst xs))
  (ho:s.heap.get? p=some { cls:=.type "list",data:=.seq its.toArray n }) (hf:f { cls:=.type "list",data:=.seq its.toArray n } = { cls:=.type "list",data:=.seq its'.toArray n' }) (r:Vals ys its') (hz:ys.length<=sizeLine) (t:Nat) :
  Inv X pins σ (upd H p (.lst ys)) { s with heap:=s.heap.update p f,toks:=t }:=by
 have e:(s.heap.update p f).get? p=some { cls:=.type "list",data:=.seq its'.toArray n' }:=by
  rw[ck f ho (by rw[hf] <;> rfl),hf]
 refine I.write (x:=p) (e:=p) (by rw[h];trivial) (.inl rfl) (fun b u hb q=>(cf _ _ (bt hb)).trans q) ⟨_,e⟩ ?_;exact⟨hz,its',n',r,e⟩
inductive qD3(o i v:V)(H:Hp)(Q:Hp->Prop):Prop
 | mk (p:Addr) (xs:List V) (k:Int) (j:Nat) (_:o = .ref p) (_:i = .int k) (_:H p=some (.lst xs)) (_:Vz xs.length k=some j) (_:Q (upd H p (.lst (xs.set j v))))
theorem set_list:qG8 X qD3:=by
 intro pins s σ H o i v _ _ u Q I ro ri rv h;obtain⟨p,xs,k,j,rfl,rfl,hp,hj,q⟩:=h
 cases ro
 obtain⟨t,rfl⟩:=ri;obtain⟨its,n,r,ho,hz⟩:=I.lst hp;obtain⟨h1,_,h3,h4⟩:=Nr hj;have hl:=r.length;have hn:=uv
 have I':Inv X pins σ (upd H p (.lst (xs.set j v))) { s with heap:=s.heap.update p (Obj.mapSeq (·.setIfInBounds j u)) }:=
  I.qAR hp ho (Kd its n j u) (r.set rv j) (by rw[fk];exact hz) s.toks
 by_cases h0:0<=k
 .have hk:k.toNat=j:=by
   rw[seqIndex_of h0 h4]at h1;exact jX h1
  exact PySem.W.ki_setAt ho h0 (by lia) (by rw[Aa,<-hl];exact h4) (by rw[hk];exact⟨_,I',q⟩)
 .have hk:(k+(its.toArray.size:Int)).toNat=j:=by
   rw[seqIndex_neg (by lia) h3]at h1;rw[Aa,<-hl];exact jX h1
  exact PySem.W.ki_setBack ho (by lia) (by rw[Aa,<-hl];exact h3) (by lia) (by rw[hk];exact⟨_,I',q⟩)
theorem Di(lo hi:aE Int)(n:Nat):(sliceBounds lo hi none n).1=((HT.iD n 0 lo:Nat):Int)/\(sliceBounds lo hi none n).2.1=((HT.iD n n hi:Nat):Int)/\(sliceBounds lo hi none n).2.2=1:=by
 refine⟨?_,?_,rfl⟩
 .cases lo with
  | none=>simp [sliceBounds,HT.iD]
  | some i=>
   simp only[sliceBounds,HT.iD,Option.getD_none,show (1:Int)>0 by decide,if_true]
   by_cases h:i<0
   .simp only[h,if_true] <;> lia
   .simp only[h,if_false] <;> lia
 .cases hi with
  | none=>simp [sliceBounds,HT.iD]
  | some i=>
   simp only[sliceBounds,HT.iD,Option.getD_none,show (1:Int)>0 by decide,if_true]
   by_cases h:i<0
   .simp only[h,if_true] <;> lia
   .simp only[h,if_false] <;> lia
theorem Ac(its:ay ax)(lo hi:aE Int):slicePick its.toArray lo hi none=((its.drop (HT.iD its.length 0 lo)).take (HT.iD its.length its.length hi-HT.iD its.length 0 lo)).toArray:=by obtain⟨h1,h2,h3⟩:=Di lo hi its.toArray.size;unfold slicePick;rw[h1,h2,h3];simp only[sliceRange_one,pick_run,List.size_toArray] <;> rfl
def qGY(K:cL):V->aE Int->aE Int->Hp->VK->Prop:=fun x lo hi H Q => ∃ a xs,x = .ref a/\aV K H a xs/\∀ p,H p=none->Q (.ref p) (upd H p (.lst (rB xs lo hi)))
theorem Mg:SlR X (qGY X.K):=by
 intro _ s σ H x v _ _ lo hi _ Q I rx hs pl pu h;obtain⟨a,xs,rfl,hx,q⟩:=h
 cases rx
 obtain⟨_,r,ht,hz⟩:=I.list hx;have hlen:=r.length;refine⟨"list",_,slot_list_getitem.lookup,ht.isList.typeIs,?_⟩;refine wpAny_getItem_list_slice ht.isList hs pl pu .none (by simp) ?_ (by rw[List.size_toArray] <;> lia);rw[Ac,<-hlen];refine⟨.ref s.heap.objs.size,_,I.laid (t':=s.toks) (o:=.lst (rB xs lo hi)) (fun b _ q=>j8 _ q) (bN _) ?_,rfl,q _ (I.hok.fresh (bN _))⟩;exact⟨bq (vX xs lo hi) hz,_,0,(r.drop (HT.iD xs.length 0 lo)).take (HT.iD xs.length xs.length hi-HT.iD xs.length 0 lo),zr _ rfl⟩
def pA:V->Bool
 | .non=>true
 | .bl _=>true
 | .int _=>true
 | .str _=>true
 | _=>false
noncomputable def W6:V->V->Bool
 | .non,.non=>true
 | .bl a,.bl b=>a==b
 | .bl a,.int b=>(if a then 1 else 0)==b
 | .int a,.bl b=>a==(if b then 1 else 0)
 | .int a,.int b=>a==b
 | .str a,.str b=>a==b
 | _,_=>false
theorem qBK(ry:RelV y u)(rx:RelV x v)(fy:pA y=true)(fx:pA x=true):SeqAt.EqAt A s u v (W6 y x):=by
 cases y with
 | non=>
  cases ry
  cases x with
  | non=>cases rx;exact SeqAt.EqAt.same _
  | bl b=>cases rx;exact SeqAt.EqAt.none_bool b
  | int b=>obtain⟨t,rfl⟩:=rx;exact SeqAt.EqAt.none_int b t
  | str b=>obtain⟨t,rfl⟩:=rx;exact SeqAt.EqAt.none_str b t
  | _=>exact dP (show false=true from fx) qg
 | bl a=>
  cases ry
  cases x with
  | non=>cases rx;exact SeqAt.EqAt.bool_none a
  | bl b=>cases rx;exact SeqAt.EqAt.bool_bool a b
  | int b=>obtain⟨t,rfl⟩:=rx;exact SeqAt.EqAt.bool_int a b t
  | str b=>obtain⟨t,rfl⟩:=rx;exact SeqAt.EqAt.bool_str a b t
  | _=>exact dP (show false=true from fx) qg
 | int a=>
  obtain⟨t',rfl⟩:=ry
  cases x with
  | non=>cases rx;exact SeqAt.EqAt.int_none a t'
  | bl b=>cases rx;exact SeqAt.EqAt.int_bool a t' b
  | int b=>obtain⟨t,rfl⟩:=rx;exact SeqAt.EqAt.int_int a t' b t
  | str b=>obtain⟨t,rfl⟩:=rx;exact SeqAt.EqAt.int_str a t' b t
  | _=>exact dP (show false=true from fx) qg
 | str a=>
  obtain⟨t',rfl⟩:=ry
  cases x with
  | non=>cases rx;exact SeqAt.EqAt.str_none a t'
  | bl b=>cases rx;exact SeqAt.EqAt.str_bool a t' b
  | int b=>obtain⟨t,rfl⟩:=rx;exact SeqAt.EqAt.str_int a t' b t
  | str b=>obtain⟨t,rfl⟩:=rx;exact SeqAt.EqAt.str_str a t' b t
  | _=>exact dP (show false=true from fx) qg
 | _=>exact dP (show false=true from fy) qg
def LK(x:V)(u:ax):Bool:=match u with
 | .none=>W6 .non x
 | .bool b=>W6 (.bl b) x
 | .int i _=>W6 (.int i) x
 | .str z _=>W6 (.str z) x
 | _=>false
theorem Uz(r:RelV y u)(f:pA y=true):LK x u=W6 y x:=by
 cases y with
 | non=>cases r;rfl
 | bl b=>cases r;rfl
 | int i=>obtain⟨t,rfl⟩:=r;rfl
 | str z=>obtain⟨t,rfl⟩:=r;rfl
 | _=>exact dP (show false=true from f) qg
theorem uC:∀ {xs:ay V} {us:ay ax},Vals xs us->xs.all pA=true->us.any (LK x)=xs.any fun y=>W6 y x
 | _,_,.nil,_=>rfl
 | y::xs,u::us,.cons r t,f=>by
  rw[List.all_cons,dS]at f;rw[eK,eK,Uz r f.1,uC t f.2]
theorem oR(rx:RelV x v)(fx:pA x=true):∀ {xs:ay V} {us:ay ax},Vals xs us->xs.all pA=true->∀ u∈us,SeqAt.EqAt A s u v (LK x u)
 | _,_,.nil,_=>fun u hu=>by cases hu
 | y::xs,u::us,.cons r t,f=>fun u' hu=>by
  rw[List.all_cons,dS]at f;rcases bL.mp hu with rfl | hu
  .rw[Uz r f.1];exact qBK r rx f.1 fx
  .exact oR rx fx t f.2 u' hu
def inV(x:V)(xs:ay V):Bool:=xs.any fun y=>W6 y x
def rIn(K:cL)(neg:Bool):R2:=fun x y H Q => ∃ p xs,y = .ref p/\(aV K H p xs∨aM K H p xs)/\pA x=true/\xs.all pA=true/\Q (.bl (if neg then !inV x xs else inV x xs)) H
theorem ug:jh X (compareOp .In) (rIn X.K false):=by
 intro _ s σ H x y v u Q I rx ry h;obtain⟨p,_,rfl,hq,fx,fs,q⟩:=h
 cases ry
 rcases hq with hq | hq
 .obtain⟨its,r,pl,hz⟩:=I.list hq;refine SeqAt.in_listAt (LK x) pl.isList (fun w hw=>oR rx fx r fs w (by simpa using hw)) ⟨.bl _,H,I,rfl,?_⟩;rw[show its.toArray.any (LK x)=its.any (LK x) by simp,uC r fs];exact q
 .obtain⟨its,r,pl,hz⟩:=I.tuple hq;refine SeqAt.in_tupleAt (LK x) pl (fun w hw=>oR rx fx r fs w (by simpa using hw)) ⟨.bl _,H,I,rfl,?_⟩;rw[show its.toArray.any (LK x)=its.any (LK x) by simp,uC r fs];exact q
theorem mH:jh X (compareOp .NotIn) (rIn X.K true):=by
 intro _ s σ H x y v u Q I rx ry h;obtain⟨p,_,rfl,hq,fx,fs,q⟩:=h
 cases ry
 rcases hq with hq | hq
 .obtain⟨its,r,pl,hz⟩:=I.list hq;refine SeqAt.notIn_listAt (LK x) pl.isList (fun w hw=>oR rx fx r fs w (by simpa using hw)) ⟨.bl _,H,I,rfl,?_⟩;rw[show its.toArray.any (LK x)=its.any (LK x) by simp,uC r fs];exact q
 .obtain⟨its,r,pl,hz⟩:=I.tuple hq;refine SeqAt.notIn_tupleAt (LK x) pl (fun w hw=>oR rx fx r fs w (by simpa using hw)) ⟨.bl _,H,I,rfl,?_⟩;rw[show its.toArray.any (LK x)=its.any (LK x) by simp,uC r fs];exact q
theorem zN:lN X (.builtin "len") (fun xs H Q => ∃ p ys,xs=[.ref p]/\(aV X.K H p ys∨aM X.K H p ys)/\Q (.int ys.length) H):=by
 intro _ s σ H xs _ Q I r h;obtain⟨p,ys,rfl,hq,q⟩:=h;obtain⟨u,rfl,rx⟩:=vals1 r
 cases rx
 have hn:=uv;rcases hq with hq | hq
 .obtain⟨its,r',pl,hz⟩:=I.list hq;have hlen:=r'.length;exact Calls.call_len_list pl.isList (by simp only[List.size_toArray] <;> lia) ⟨.int ys.length,H,I.tok _,⟨s.toks+1,by rw[gz,hlen]⟩,q⟩
 .obtain⟨its,r',pl,hz⟩:=I.tuple hq;have hlen:=r'.length;exact len_tuple pl (by simp only[List.size_toArray] <;> lia) ⟨.int ys.length,H,I.tok _,⟨s.toks+1,by rw[gz,hlen]⟩,q⟩
theorem FJ:lN X (.builtin "len") (fun xs H Q => ∃ z,xs=[.str z]/\z.length<=sizeLine/\Q (.int z.length) H):=by intro _ s σ H xs _ Q I r h;obtain⟨z,rfl,_,q⟩:=h;obtain⟨u,rfl,t,rfl⟩:=vals1 r;have hn:=uv;exact len_str (by lia) ⟨.int z.length,H,I.tok _,⟨_,rfl⟩,q⟩
theorem gF:lN X (.type "list") (fun xs H Q => ∃ p ys,xs=[.ref p]/\(aV X.K H p ys∨aM X.K H p ys)/\∀ l,H l=none->Q (.ref l) (upd H l (.lst ys))):=by
 intro pins s σ H xs _ Q I r h;obtain⟨p,ys,rfl,hq,q⟩:=h;obtain⟨u,rfl,rx⟩:=vals1 r
 cases rx
 have fin:∀(its:ay ax),Vals ys its->ys.length<=sizeLine->∀(h':Heap)(c':Nat),(∀ b o',s.heap.get? b=some o'->h'.get? b=some o') →
   h'.get? s.heap.objs.size=some { cls:=.type "list",dict:=none,data:=.seq its.toArray c',slots:=#[] }->EP X pins σ Q (.ref s.heap.objs.size) { s with heap:=h' }:=fun its r' hz h' c' kp e=>
  ⟨.ref s.heap.objs.size,_,I.laid (t':=s.toks) kp (bN _) (show bW X.prog X.w _ h' _ (.lst ys) from ⟨hz,its,c',r',e⟩),rfl,q _ (I.hok.fresh (bN _))⟩
 rcases hq with hq | hq
 .obtain⟨its,r',pl,hz⟩:=I.list hq;have hlen:=r'.length;obtain⟨o,ho,hc,n,hd⟩:=pl.isList;exact call_list_seq p (.inl rfl) ho hc hd (fun h' c' kp e=>fin its r' hz h' c' kp e) (by simp only[List.size_toArray] <;> lia)
 .obtain⟨its,r',pl,hz⟩:=I.tuple hq;have hlen:=r'.length;obtain⟨o,ho,hc,n,hd⟩:=pl;exact call_list_seq p (.inr rfl) ho hc hd (fun h' c' kp e=>fin its r' hz h' c' kp e) (by simp only[List.size_toArray] <;> lia)
theorem zX:lN X (.type "tuple") (fun xs H Q => ∃ p ys,xs=[.ref p]/\((aV X.K H p ys/\∀ l,H l=none->Q (.ref l) (upd H l (.tup ys)))∨(aM X.K H p ys/\Q (.ref p) H))):=by
 intro pins s σ H xs _ Q I r h;obtain⟨p,ys,rfl,h⟩:=h;obtain⟨u,rfl,rx⟩:=vals1 r
 cases rx
 rcases h with ⟨hq,q⟩ | ⟨hq,q⟩
 .obtain⟨its,r',pl,hz⟩:=I.list hq;have hlen:=r'.length;refine call_tuple_list pl.isList (fun h' kp=>?_) (by simp only[List.size_toArray] <;> lia);have I1:Inv X pins σ H { s with heap:=h' }:=I.kept (t':=s.toks) kp
  have I2:Inv X pins σ (upd H h'.objs.size (.tup ys)) { s with heap:=h'.push { cls:=.type "tuple",data:=.seq its.toArray } }:=
   I1.laid (t':=s.toks) (fun b o e=>j8 _ e) (bN _) (show bW X.prog X.w _ _ _ (.tup ys) from ⟨hz,its,r',IsTup.new _ _⟩)
  exact⟨.ref h'.objs.size,_,I2,rfl,q _ (I1.hok.fresh (bN _))⟩
 .obtain⟨its,r',pl,hz⟩:=I.tuple hq;exact call_tuple_same pl ⟨.ref p,H,I,rfl,q⟩
def tyV(K:cL)(T:String)(x:V)(H:Hp):Prop:=match x with
 | .str _=>T = "str"
 | .int _=>T = "int"
 | .ref p=>(T = "list" /\ ∃ xs,aV K H p xs)∨(T = "tuple" /\ ∃ o,K.lookup p=some o/\o.cls = .type "tuple" /\ o.dict=none) ∨
   (T = "dict" /\ ((∃ kvs,H p=some (.dK kvs)) ∨ ∃ kvs,H p=some (.dT kvs)))∨(T = "set" /\ ∃ S n,H p=some (.set S n))
 | _=>False
theorem R6(I:Inv X pins σ H s)(r:RelV x v)(ty:tyV X.K T x H) :
  s.TypeIs v T/\∀ a,v = .ref a->∃ ob,s.heap.get? a=some ob/\ob.dict=none:=by
 cases x with
 | str z=>
  obtain⟨t,rfl⟩:=r
  cases (show T = "str" from ty)
  exact⟨typeIs_str s z t,fun _ e=>nomatch e⟩
 | int i=>
  obtain⟨t,rfl⟩:=r
  cases (show T = "int" from ty)
  exact⟨typeIs_int s i t,fun _ e=>nomatch e⟩
 | ref p=>
  cases r
  rcases ty with ⟨rfl,xs,hq⟩ | ⟨rfl,o,hk,hc,hd⟩ | ⟨rfl,hk⟩ | ⟨rfl,S,n,hk⟩
  .obtain⟨_,_,pl,_⟩:=I.list hq;refine⟨pl.isList.typeIs,fun a e=>?_⟩
   cases e
   obtain⟨o,n,e,c,hd,_⟩:=pl;exact⟨o,e,hd⟩
  .refine⟨⟨o,I.nR p o hk,hc⟩,fun a e=>?_⟩
   cases e
   exact⟨o,I.nR _ o hk,hd⟩
  .have z:∃ o,s.heap.get? p=some o/\o.ExactDict:=by
    rcases hk with ⟨kvs,hk⟩ | ⟨kvs,hk⟩
    .obtain⟨_,_,_,_,o,_,_,e,ex,_⟩:=I.hok p _ hk;exact⟨o,e,ex⟩
    .obtain⟨_,_,_,_,o,_,_,e,ex,_⟩:=I.hok p _ hk;exact⟨o,e,ex⟩
   obtain⟨o,e,ex⟩:=z;refine⟨⟨o,e,ex.1⟩,fun a e2=>?_⟩
   cases e2
   exact⟨o,e,ex.2.1⟩
  .obtain⟨o,_,_,_,e,ex,_⟩:=I.hok p _ hk;refine⟨⟨o,e,ex.1⟩,fun a e2=>?_⟩
   cases e2
   exact⟨o,e,ex.2.1⟩
 | _=>exact c8 ty
def qGQ(K:cL)(T:String)(r:V->ay V->Hp->VK->Prop)(to:TE):TE:=fun σ H Q=>to σ H fun x H1=>tyV K T x H1/\r x [] H1 Q
def tBM(K:cL)(T:String)(r:V->ay V->Hp->VK->Prop)(to:TE)(t:TA):TE:=fun σ H Q=>to σ H fun x H1=>tyV K T x H1/\t σ H1 fun xs H2=>r x xs H2 Q
variable{o e:Expr}{es:ay Expr}{to:TE}{t:TA}{name:Str}{apos cpos:Pos}{T id:String}{r:V->ay V->Hp->VK->Prop}
theorem K4(pa:PlainAttrs T)(slot:Slot T name id)(hty:typeOf (.builtin id)=pure (.type "method_descriptor"))(hm:MtR X id r)(ho:PE X o to)
  (hbase:attributeBase o name X.env (eval o X.env)=eval o X.env:=by rfl) (hline:(apos.endLine==cpos.line)=true:=by rfl):PE X (.Call (.Attribute o name apos) [] [] cpos) (qGQ X.K T r to):=by intro pins s σ H Q I h;refine wpAny_Call_method0_late hbase hline (bI (ho pins s σ H _ I h) fun v s1 ⟨x,H1,I1,r1,ty,q1⟩=>?_);obtain⟨h1,h2⟩:=R6 I1 r1 ty;exact⟨T,id,pa,slot,hty,h1,h2,Calls.callWith_builtin rfl (PySem.evalArgs_none (hm pins s1 σ H1 x [] v [] Q I1 r1 .nil q1))⟩
theorem dz(pa:PlainAttrs T)(slot:Slot T name id)(hty:typeOf (.builtin id)=pure (.type "method_descriptor"))(hm:MtR X id r)(ho:PE X o to)(ha:PA X (e::es) t)
  (hbase:attributeBase o name X.env (eval o X.env)=eval o X.env:=by rfl)
  (hfew:((backTo cpos (starEach (e::es) X.env)).all (fun x => !x.1)&&(backToKw cpos (keywordEach [] X.env)).all (fun x=>x.1.isSome)
   && decide ((e::es).length+([]:ay Keyword).length+(if ([]:ay Keyword).isEmpty then 0 else 1)<30))=true:=by rfl)
  (hline:(apos.endLine==cpos.line)=true:=by rfl) (hs:starEach (e::es) X.env=(false,eval e X.env)::starEach es X.env:=by rfl) (hplain:(backTo cpos (starEach es X.env)).any (·.1)=false:=by rfl) :
  PE X (.Call (.Attribute o name apos) (e::es) [] cpos) (tBM X.K T r to t):=by intro pins s σ H Q I h;refine wpAny_Call_method_late hbase hfew hline rfl (bI (ho pins s σ H _ I h) fun v s1 ⟨x,H1,I1,r1,ty,q1⟩=>?_);obtain⟨h1,h2⟩:=R6 I1 r1 ty;refine⟨T,id,pa,slot,hty,h1,h2,?_⟩;have hA:=ha cpos pins s1 σ H1 _ I1 q1;rw[hs]at hA ⊢;refine Calls.callWith_builtin (by show (false||(backTo cpos (starEach es X.env)).any (·.1))=false;rw[hplain] <;> rfl) (Calls.evalArgs_plain ?_);exact bI hA fun us s2 ⟨vs,H2,I2,r2,q2⟩=>hm pins s2 σ H2 x vs v us Q I2 r1 r2 q2
end
def MtM(X:Cx)(id:String)(r:V->ay V->Hp->VK->Prop):Prop:=
 ∀(pins:ay (av×Obj))(s:ae)(σ:St)(H:Hp)(x:V)(xs:ay V)(v:ax)(us:ay ax)(Q:VK),Inv X pins σ H s->RelV x v->Vals xs us->r x xs H Q →
  wpAny (model X.prog X.w) X.A (call (.builtin id) (v::us)) (EP X pins σ Q) X.xe s
theorem Vals.one:∀ {x:V} {us:ay ax},Vals [x] us->∃ u,us=[u]/\RelV x u
 | _,_,.cons r .nil=>⟨_,rfl,r⟩
theorem Vals.zero:∀ {us:ay ax},Vals [] us->us=[]
 | _,.nil=>rfl
theorem Vals.dropLast(h:Vals xs us):Vals xs.dropLast us.dropLast:=by
 induction h with
 | nil=>exact .nil
 | cons r t ih=>
  cases t with
  | nil=>exact .nil
  | cons q t'=>exact .cons r ih
theorem Vals.eraseIdx:∀ {xs:ay V} {us:ay ax} (i:Nat),Vals xs us->Vals (xs.eraseIdx i) (us.eraseIdx i)
 | _,_,_,.nil=>.nil
 | _,_,0,.cons _ t=>t
 | _,_,i+1,.cons r t=>.cons r (Vals.eraseIdx i t)
theorem Vals.rep(h:Vals xs us):∀ k:Nat,Vals (List.replicate k xs).flatten (List.replicate k us).flatten
 | 0=>.nil
 | k+1=>by
  rw[dA,dA,fb,fb];exact Vals.append h (Vals.rep h k)
theorem LC(l:ay α):l.eraseIdx (l.length-1)=l.dropLast:=by
 induction l with
 | nil=>rfl
 | cons a r ih=>
  cases r with
  | nil=>rfl
  | cons b r=>
   have e:(a::b::r).length-1=((b::r).length-1)+1:=by
    have h1:(a::b::r).length=r.length+2:=rfl;have h2:(b::r).length=r.length+1:=rfl;lia
   rw[e,List.eraseIdx_cons_succ,ih]
   all_goals rfl
theorem By:∀(l:ay α)(i:Nat),(l.eraseIdx i).length<=l.length
 | [],_=>bN _
 | _::_,0=>hV _
 | _::r,i+1=>Nat.succ_le_succ (By r i)
theorem foldl_rep(its:ay ax):∀(k:Nat)(acc:ay ax),
  List.foldl (fun x1 x2=>x1++x2) acc.toArray (List.replicate k its.toArray)=(acc++(List.replicate k its).flatten).toArray
 | 0,acc=>by simp
 | k+1,acc=>by
  have e:acc.toArray++its.toArray=(acc++its).toArray:=by simp
  have e2:(acc++its)++(List.replicate k its).flatten=acc++(List.replicate (k+1) its).flatten:=by
   rw[dA,fb,bS]
  rw[<-e2,<-foldl_rep its k (acc++its),<-e,dA,ff]
section
variable{X:Cx}{pins:ay (av×Obj)}{σ:St}{H:Hp}{s:ae}{l b:av}{xs ys zs:ay V}
theorem Inv.Tv{its its':ay ax}{n:Nat}{f:Array ax->Array ax}{t':Nat}(I:Inv X pins σ H s)(hH:H l=some (.lst xs))
  (e:s.heap.get? l=some { cls:=.type "list",data:=.seq its.toArray n }) (hf:f its.toArray=its'.toArray) (hv:Vals ys its') (hz:ys.length<=sizeLine) :
  Inv X pins σ (upd H l (.lst ys)) { s with heap:=s.heap.update l (Obj.mapSeq f),toks:=t' }:=by have q:=PySem.IsL.update e f;rw[hf]at q;refine I.write (x:=l) (e:=l) (by rw[hH];exact trivial) (.inl rfl) (fun _ u hb hu=>(cf s.heap (Obj.mapSeq f) (bt hb)).trans hu) ⟨_,q⟩ ?_;exact⟨hz,its',_,hv,q⟩
theorem Inv.qHK(I:Inv X pins σ H s)(hv:Vals ys its)(hz:ys.length<=sizeLine) :
  Inv X pins σ (upd H s.heap.objs.size (.lst ys)) { s with heap:=s.heap.push { cls:=.type "list",data:=.seq its.toArray },toks:=t' }:=
 I.laid (fun _ _ q=>j8 _ q) (bN _) ⟨hz,its,0,hv,zr _ rfl⟩
theorem Inv.fresh(I:Inv X pins σ H s):H s.heap.objs.size=none:=I.hok.fresh (bN _)
theorem Inv.Hl(I:Inv X pins σ H s)(hH:H l=some (.lst xs)):xs.length<=sizeLine/\∃(its:ay ax)(n:Nat),Vals xs its/\xs.length=its.length/\s.heap.get? l=some { cls:=.type "list",data:=.seq its.toArray n }:=by obtain⟨z,its,n,r,e⟩:=I.hok l _ hH;exact⟨z,its,n,r,r.length,e⟩
theorem Te(h:n<=sizeLine):Builtin.List.listTooLong n=false:=by unfold Builtin.List.listTooLong;exact bo (by lia)
end
section
variable{X:Cx}
inductive Wu(x:V)(vs:List V)(H:Hp)(Q:VK):Prop
 | mk (l:Addr) (xs:List V) (y:V) (_:x = .ref l) (_:vs=[y]) (_:H l=some (.lst xs)) (_:xs.length<sizeLine) (_:Q .non (upd H l (.lst (xs++[y]))))
theorem yH:MtM X "list.append" Wu:=by
 intro _ s σ H x _ v _ Q I rx rv h;obtain⟨l,_,y,rfl,rfl,hH,_,q⟩:=h
 cases rx
 obtain⟨u,rfl,ru⟩:=rv.one;obtain⟨z,its,n,r,_,e⟩:=I.Hl hH;refine call_meets F.slot_list_append ⟨_,e,rfl⟩ F.entry_list_append (F.args_list_append_2 _ _) (PySem.list_append l its.toArray n u (by rw[Aa];lia)) ⟨e,?_⟩;refine⟨.non,_,I.Tv (its':=its++[u]) hH e (by simp) (r.append (.cons ru .nil)) ?_,rfl,q⟩;rw[dj,gK];lia
def Wt:V->ay V->Hp->VK->Prop:=fun x vs H Q => ∃ l b xs zs,x = .ref l/\vs=[.ref b]/\H l=some (.lst xs)/\H b=some (.lst zs)/\xs.length+zs.length<=sizeLine/\Q .non (upd H l (.lst (xs++zs)))
theorem j6:MtM X "list.extend" Wt:=by
 intro _ s σ H x _ v _ Q I rx rv h;obtain⟨l,b,_,_,rfl,rfl,hH,hB,_,q⟩:=h
 cases rx
 obtain⟨u,rfl,ru⟩:=rv.one
 cases ru
 obtain⟨z,its,n,r,_,e⟩:=I.Hl hH;obtain⟨_,its2,n2,r2,_,e2⟩:=I.Hl hB
 have hsz:its.toArray.size+its2.toArray.size<=sizeLine:=by rw[Aa,Aa];lia
 have qEF:¬ (!its.toArray.isEmpty&&Builtin.List.listTooLong (its.toArray.size+its2.toArray.size))=true:=by
  rw[Te hsz,Bool.and_false];exact qg
 refine call_meets F.slot_list_extend ⟨_,e,rfl⟩ F.entry_list_extend (F.args_list_extend_2 _ _)
  (AutoSeq1.list_extend_list_list_0 l its.toArray n b its2.toArray n2 qEF (by rw[Aa];lia) (by lia)) ⟨e,e2,?_⟩
 refine⟨.non,_,I.Tv (its':=its++its2) hH e (by simp) (r.append r2) ?_,rfl,q⟩;rw[dj];lia
def qGZ:V->ay V->Hp->VK->Prop:=fun x vs H Q => ∃ l xs y,x = .ref l/\vs=[]/\H l=some (.lst xs)/\xs[xs.length-1]? = some y/\Q y (upd H l (.lst xs.dropLast))
theorem qAN:MtM X "list.pop" qGZ:=by
 intro _ s σ H x _ v _ Q I rx rv h;obtain⟨l,_,y,rfl,rfl,hH,hy,q⟩:=h
 cases rx
 have hus:=rv.zero;subst hus;obtain⟨z,its,n,r,hl,e⟩:=I.Hl hH;obtain⟨u,hu,ru⟩:=r.get hy
 have hy':its.toArray[its.toArray.size-1]? = some u:=by
  show its.toArray[its.length-1]? = some u;rw[<-Array.getElem?_toList,<-hl];exact hu
 refine call_meets F.slot_list_pop ⟨_,e,rfl⟩ F.entry_list_pop (F.args_list_pop_1 _) (MeetsSeq.list_pop_last l its.toArray n u hy' (by rw[Aa];lia)) ⟨e,?_⟩;refine⟨y,_,I.Tv (its':=its.dropLast) hH e ?_ r.dropLast ?_,ru,q⟩
 .show its.toArray.eraseIdxIfInBounds (its.toArray.size-1)=its.dropLast.toArray;rw[Aa,eS,LC]
 .rw[List.length_dropLast];lia
def qA2:V->ay V->Hp->VK->Prop:=fun x vs H Q => ∃ l xs i k y,x = .ref l/\vs=[.int i]/\H l=some (.lst xs) /\ -(2 ^ 63)<=i/\i<2 ^ 63/\seqIndex? i xs.length=some k/\xs[k]? = some y/\Q y (upd H l (.lst (xs.eraseIdx k)))
theorem Ti:MtM X "list.pop" qA2:=by
 intro _ s σ H x _ v _ Q I rx rv h;obtain⟨l,xs,i,k,y,rfl,rfl,hH,h1,h2,hk,hy,q⟩:=h
 cases rx
 obtain⟨u,rfl,ru⟩:=rv.one;obtain⟨t,rfl⟩:=ru;obtain⟨z,its,n,r,hl,e⟩:=I.Hl hH;obtain⟨w,hw,PB⟩:=r.get hy;refine call_meets F.slot_list_pop ⟨_,e,rfl⟩ F.entry_list_pop (F.args_list_pop_2 _ _)
  (MeetsSeq.list_pop_at l its.toArray n i t k w (fitsIndex_both h1 h2) (by rw[Aa,<-hl];exact hk) (by rw[<-Array.getElem?_toList];exact hw) (by rw[Aa];lia)) ⟨e,?_⟩
 refine⟨y,_,I.Tv (its':=its.eraseIdx k) hH e ?_ (r.eraseIdx k) ?_,PB,q⟩
 .show its.toArray.eraseIdxIfInBounds k=(its.eraseIdx k).toArray;rw[eS]
 .have:=By xs k;lia
def qA4:V->ay V->Hp->VK->Prop:=fun x vs H Q => ∃ l xs,x = .ref l/\vs=[]/\H l=some (.lst xs)/\Q .non (upd H l (.lst []))
theorem HY:MtM X "list.clear" qA4:=by
 intro _ s σ H x _ v _ Q I rx rv h;obtain⟨l,_,rfl,rfl,hH,q⟩:=h
 cases rx
 have hus:=rv.zero;subst hus;obtain⟨z,its,n,r,_,e⟩:=I.Hl hH;refine call_meets F.slot_list_clear ⟨_,e,rfl⟩ F.entry_list_clear (F.args_list_clear_1 _) (AutoSeq1.list_clear_list_0 l its.toArray n (by rw[Aa];lia)) ⟨e,?_⟩;exact⟨.non,_,I.Tv (its':=[]) (ys:=[]) hH e rfl .nil (bg _),rfl,q⟩
def qH1:R2:=fun x y H Q => ∃ l b xs zs,x = .ref l/\y = .ref b/\H l=some (.lst xs)/\H b=some (.lst zs)/\xs.length+zs.length<=sizeLine/\∀ p,H p=none->Q (.ref p) (upd H p (.lst (xs++zs)))
theorem EY:jh X (binaryOp .Add) qH1:=by
 intro _ s σ H x y v u Q I rx ry h;obtain⟨l,b,_,_,rfl,rfl,hH,hB,_,q⟩:=h
 cases rx
 cases ry
 obtain⟨z,its,n,r,_,e⟩:=I.Hl hH;obtain⟨_,its2,_,r2,_,e2⟩:=I.Hl hB;refine PySem.P.add_list e e2 ?_ (by rw[Aa,Aa];lia)
 have ea:its.toArray++its2.toArray=(its++its2).toArray:=by simp
 rw[ea];exact⟨.ref _,_,I.qHK (t':=s.toks) (r.append r2) (by rw[dj];lia),rfl,q _ I.fresh⟩
theorem len_rep(xs:ay α)(k:Nat):(List.replicate k xs).flatten.length=k*xs.length:=by
 induction k with
 | zero=>simp
 | succ k ih=>rw[dA,fb,dj,ih,Nat.succ_mul,Nat.add_comm]
end
section
variable{prog:ag}{w:aI}{A:ai}{E:ax->ae->Prop}{s:ae}
end
section
variable{X:Cx}
end
end L2
namespace Att
open PySem PySem.W PySem.Calls PyProof.Rows
theorem vh:∀(ns:ay Int)(vs:ay ax),WellAll P h vs (ns.map WData.int)->IntsAre vs ns:=by
 intro ns
 induction ns with
 | nil=>
  intro vs w;rw[fq]at w
  cases w
  exact .nil
 | cons n ns ih=>
  intro vs w;rw[br]at w
  cases w with
  | cons a b=>
   cases a
   exact .cons _ _ (ih _ b)
theorem Oz{l:OpenLaw}{n:Nat}(hn:l.most=some n){P:Params}{h:Heap}{args:ay WData}{vals:ay ax}
  (hpre:l.row.toRowW.claim.pre args=true) (hwl:WellAll P h vals args) :
  ∃ a vs ns,vals=[Value.ref a]/\args=[WData.list (ns.map WData.int)]/\h.get? a=some { cls:=.type "list",data:=.seq vs.toArray }/\IntsAre vs ns/\ns.length<=n:=by
 have hsh:WShape.hasAll [] args [.list .int]=true:=(pre_splitW hpre).1;have hc:l.pre.holds [] { args:=args }=true:=(pre_splitW hpre).2;obtain⟨d,r,rfl,h1,h2⟩:=hasAllW_cons hsh;obtain rfl:=hasAllW_nil h2;obtain⟨_,rfl,h3⟩:=hasW_list h1;obtain⟨ns,rfl⟩:=items_int h3
 have hlen:ns.length<=n:=by
  unfold OpenLaw.pre at hc
  have h4:(WTm.not (.lt (.lit (.int (n:Int))) (.len (.arg 0)))).holds [] { args:=[.list (ns.map .int)] }=true:=by
   have h4:=(holds_andW hc).1;rw[hn]at h4;exact h4
  have h5:=condW_of h4 (w_not (w_lt w_lit (w_len_list (w_arg rfl))));rw[bh]at h5;refine Nat.le_of_not_lt fun q=>?_
  have q':(n:Int)<((ns.length:Nat):Int):=by lia
  first
   | (rw[bp q']at h5;exact dP h5 (by decide))
   | (simp at h5;lia)
 cases hwl with
 | cons w1 w2=>
  cases w2
  cases w1 with
  | list ho hall=>exact⟨_,_,ns,rfl,rfl,ho,vh ns _ hall,hlen⟩
theorem Pa(l:OpenLaw)(args:ay WData):l.row.toRowW.claim.post args (.bool true) args=true:=
 postW_of (r:=l.row.toRowW) (X:=(true==true))
  (show WShape.has [] (.bool true) .bool=true by first | rfl | decide | simp [WShape.has,WShape.arms,WShape.armsAll])
  (show (WTm.eq .res (.lit (.bool true))).value [] { args:=args,res:=some (.bool true),after:=args }=some (.bool (true==true)) from w_eq_bool (w_res rfl) w_lit) rfl
theorem Iv{l:OpenLaw}{n:Nat}{q:ag}{loose:ay Str}{XP:(Str->aE ax)->Heap->Prop}{YP:aI->Heap->Prop}{d:DefRec}
  (hn:l.most=some n) (hdf:d.params.defaults=[])
  (call:∀(w:aI)(s₀ s₁:ae)(mg mb:Str->aE ax)(fa:av)(o:Obj)(pm cd doc:ax)(a:av)(vs:ay ax)(ns:ay Int),
   Ground q loose [] XP w s₀ mg mb s₁.heap->YP w s₁.heap →
   s₁.heap.get? fa=some o->o.data = .func (docDef d.name d.params d.body d.scope pm cd doc)->s₁.heap.CodeRec cd d.name->mg d.name=some (.ref fa) →
   s₁.heap.get? a=some { cls:=.type "list",data:=.seq vs.toArray }->IntsAre vs ns->ns.length<=n->s₁.gens = #[] →
   codeAny (model l.prog w) callerA (.call (.ref fa) ⟨[.ref a],[]⟩) (fun r s'=>r = .ok (.ret (.bool true))/\OldK s₁.heap s'.heap/\s'.os=s₁.os/\AllBare s'.gens) s₁) :
  WalkO q loose XP YP l.row.toRowW d [] (fun f vs=>PySem.call f vs):=by intro w s₀ s₁ mg mb G Y fa o pm cd doc dV kV ho hd hcd hD hmg hg _ _ _ hpre _ _ hwl _;obtain rfl:dV = .none:=Dflts.none hD hdf;obtain rfl:kV = .none:=Dflts.noKw hD;obtain⟨a,vs,ns,rfl,rfl,hobj,hints,hlen⟩:=Oz hn hpre hwl;refine enter_call (codeAny_mono (call w s₀ s₁ mg mb fa o pm cd doc a vs ns G Y ho (fd_plain hd) hcd hmg hobj hints hlen hg) fun r s' hq=>?_);obtain⟨rfl,h2,h3,h4⟩:=hq;exact⟨.inl ⟨.bool true,.bool true,[],rfl,fun _=>rfl,.bool true,Pa l _,fun _=>⟨List.Pairwise.nil,fun _ hm=>(nomatch hm)⟩⟩,h2,h3,h4⟩
section
variable{prog:ag}{w:aI}{A:ai}{E:ax->ae->Prop}{s:ae}{K:Frag}
end
end Att
namespace L2
open PySem PySem.Spec PyProof.Rows
theorem jx:∀ {vs:ay ax} {ns:ay Int},IntsAre vs ns->Vals (ns.map V.int) vs
 | _,_,.nil=>.nil
 | _,_,.cons n t h=>.cons ⟨t,rfl⟩ (jx h)
def Only(H:Hp):Prop:=∀ b,H b=none ∨ ∃ o xs,H b=some (.Ku o (.lst xs))
theorem law_call{P:ag}{w:aI}{K:cL}{mg mb:Str->aE ax}{CX:Lw}{k:Nat}{fa a:av}{fd:af}{x:Str}{sp:Sp}{s₁:ae}{vs:ay ax}{ns:ay Int}
  (KX:K.In s₁.heap) (hns:s₁.heap.Ns mainGlobals mg) (hb:s₁.heap.Ns builtinsNs mb) (hbb:∀ x:Str,x ≠ "__name__" -> mb x=bootBuiltins x) (hlim:s₁.heap.NoLimit) (hg:s₁.gens = #[])
  (ha:s₁.heap.get? a=some { cls:=.type "list",data:=.seq vs.toArray }) (hi:IntsAre vs ns) (hl:ns.length<=sizeLine) (hr:fK k callerA)
  (F:∀ base:Heap,K.In base->base.Ns mainGlobals mg->aO P w K mg base CX k fa fd [x] sp) (hbind:∀(s:ae)(u:ax),BindsTo s fd ⟨[u],[]⟩ [(x,u)])
  (hsp:∀ H:Hp,Only H->aV K H a (ns.map V.int)->sp [.ref a] H (fun v _=>v = .bl true) fun _ _ _=>False)
  (hCX:∀ H e s',CX [] H s₁ (fun _ _ _=>False) e s'->False) :
  codeAny (model P w) callerA (.call (.ref fa) ⟨[.ref a],[]⟩) (fun r s'=>r = .ok (.ret (.bool true))/\OldK s₁.heap s'.heap/\s'.os=s₁.os/\AllBare s'.gens) s₁:=by
 have rv:=jx hi;have lenV:=hi.length;have core:∀ H:Hp,Only H->aV K H a (ns.map V.int)->jO P w H s₁.heap->(∀ b,H b≠none->b=a)->(H a≠none->K.lookup a=none) →
   codeAny (model P w) callerA (.call (.ref fa) ⟨[.ref a],[]⟩) (fun r s'=>r = .ok (.ret (.bool true))/\OldK s₁.heap s'.heap/\s'.os=s₁.os/\AllBare s'.gens) s₁:=by
  intro H hO hS hok hA hK;have Og:∀ {b:av} {o:Obj},s₁.heap.get? b=some o->H b=none->(Em s₁.heap H).get? b=some o:=fun e n=>Ud e n
  have noA:∀ {b:av} {o:Obj} {es:Array DictEntry} {ep:Nat},s₁.heap.get? b=some o->o.data = .dict es ep->H b=none:=fun {b o es ep} e d=>by
   cases q:H b with
   | none=>rfl
   | some u=>
    have e':b=a:=hA b (by rw[q];simp);subst e';rw[ha]at e;cases e;have d':Data.seq vs.toArray _=Data.dict es ep:=d
    cases d'
  have nsK:∀ {b:av} {m:Str->aE ax},s₁.heap.Ns b m->(Em s₁.heap H).Ns b m:=fun {b m} ⟨o,es,ep,e,d,r⟩=>⟨o,es,ep,Og e (noA e d),d,r⟩
  have hKb:K.In (Em s₁.heap H):=fun b o e=>Og (KX b o e) (by
   cases q:H b with
   | none=>rfl
   | some u=>
    have e':b=a:=hA b (by rw[q];simp);subst e'
    rw[hK (by rw[q];simp)]at e;cases e)
  have hM:Mod K mg (Em s₁.heap H):=⟨hKb,nsK hns,⟨mb,nsK hb,hbb⟩,let ⟨mc,h1,h2⟩:=hlim;⟨mc,nsK h1,h2⟩⟩;have e0:Lj P w K mg (Em s₁.heap H) callerA [] s₁ H:=⟨rfl,hM,fun b o e=>Xm e,Nat.le_of_eq (QH _ _),trivial,fun b hb=>absurd (show b∈([]:ay av) from hb) (by simp),hok,.of_eq hg⟩;refine codeAny_mono ((F _ hKb (nsK hns)).run callerA [] s₁ H ⟨[.ref a],[]⟩ [.ref a] [.ref a] _ _ hr e0 (hbind s₁ (.ref a)) (.cons rfl .nil) (hsp H hO hS)) fun r s' h=>?_
  cases r with
  | error e=>exact (hCX H e s' h).elim
  | ok fl=>
   cases fl with
   | next=>exact c8 h
   | brk=>exact c8 h
   | cont=>exact c8 h
   | ret u=>
    obtain⟨v,_,os,bare,un,hok',r',q⟩:=h;have q':v = .bl true:=q;subst q';obtain rfl:u=Value.bool true:=r';refine⟨rfl,OldK.of_keep fun b o e=>?_,os,bare⟩
    cases q:H b with
    | none=>exact un.keep b o e q (by intro z;exact absurd (show b∈([]:ay av) from z) (by simp)) (by simp)
    | some u=>
     rcases hO b with z | ⟨ob,xs,z⟩
     .rw[q]at z;cases z
     .have z2:=un.qy b ob _ z;obtain⟨e1,_⟩:=hok b _ z;obtain⟨e2,_⟩:=hok' b _ z2;rw[e]at e1;cases e1;exact e2
 cases hk:K.lookup a with
 | some o=>
  have e:=KX a o hk;rw[ha]at e
  cases e
  refine core (fun _=>none) (fun _=>.inl rfl) (.inr ⟨_,vs.toArray,_,hk,rfl,rfl,rfl,by rw[gz,lenV];exact hl,by simpa using rv⟩) (fun b u z=>by have z':(none:aE HO)=some u:=z;cases z') (fun b z=>dP rfl z) fun z=>dP rfl z
 | none=>
  refine core (fun b=>if b=a then some (.Ku { cls:=.type "list",data:=.seq vs.toArray } (.lst (ns.map V.int))) else none) (fun b=>?_) (.inl (.inr ⟨{ cls:=.type "list",data:=.seq vs.toArray },cE rfl⟩)) (fun b u z=>?_) (fun b z=>?_) fun _=>hk
  .by_cases hb:b=a
   .exact .inr ⟨_,_,cE hb⟩
   .exact .inl (cy hb)
  .by_cases hb:b=a
   .have z':=(cE hb).symm.trans z
    cases z'
    subst hb;exact⟨ha,by rw[bh];exact hl,vs,_,rv,ha⟩
   .have z':=(cy hb).symm.trans z
    cases z'
  .by_cases hb:b=a
   .exact hb
   .exact dP (cy hb) z
theorem WK{l:PySem.W.OpenLaw}{n k:Nat}{q:ag}{loose:ay Str}{XP:(Str->aE ax)->Heap->Prop}{YP:aI->Heap->Prop}{d:DefRec}{K:Params->cL}{CX:aI->Lw}{sp:aI->Sp}{x:Str}
  (hn:l.most=some n) (hn2:n<=sizeLine) (hdf:d.params.defaults=[]) (hr:fK k callerA)
  (hY:∀(w:aI)(h:Heap),YP w h->(K w.params).In h)
  (F:∀(w:aI)(mg:Str->aE ax)(fa:av)(h:Heap),(K w.params).In h->h.Ns mainGlobals mg->mg d.name=some (.ref fa) →
   ∃ fd:af,(∀(s:ae)(u:ax),BindsTo s fd ⟨[u],[]⟩ [(x,u)]) ∧
    ∀ base:Heap,(K w.params).In base->base.Ns mainGlobals mg->aO l.prog w (K w.params) mg base (CX w) k fa fd [x] (sp w))
  (hsp:∀(w:aI)(H:Hp)(a:av)(ns:ay Int),ns.length<=n->Only H->aV (K w.params) H a (ns.map V.int)->sp w [.ref a] H (fun v _=>v = .bl true) fun _ _ _=>False)
  (hCX:∀(w:aI)(H:Hp)(s:ae)(e:ax)(s':ae),CX w [] H s (fun _ _ _=>False) e s'->False) :
  PySem.W.WalkO q loose XP YP l.row.toRowW d [] (fun f vs=>PySem.call f vs):=by refine Att.Iv hn hdf fun w _ s₁ mg _ fa o _ _ _ a vs ns G Y _ _ _ hmg hobj hints hlen hg=>?_;have KX:=hY w _ Y;obtain⟨fd,hb,hF⟩:=F w mg fa _ KX G.T.g hmg;exact law_call KX G.T.g G.T.b G.T.builtins G.T.nolimit hg hobj hints (bq hlen hn2) hr hF hb (fun H hO hS=>hsp w H a ns hlen hO hS) fun H e s'=>hCX w H s₁ e s'
abbrev aa:Lw:=fun _ _ _ _ _ _=>False
abbrev E0:XK:=fun _ _ _=>False
theorem yE:Passes aa X E0:=fun _ _ _ _ _ _ _ h=>h.elim
structure dC(K:cL)(x qual:Str)(st:Stmt)(f:Addr)(fd:FuncData):Prop where
 ex:∃(oc:Value)(od:Option Addr)(kV doc pm:Value)(an:Option Addr)(cdv ct:Value)(osl:Array (Option Value)),
  fd=PySem.W.fnOf x qual (qD st) (iy st) (aC st) .none kV doc pm an cdv ct/\K.lookup f=some ⟨oc,od,.func fd,osl⟩/\PySem.W.codeIn K cdv qual=true
 kp:KI K f
section
variable{P:ag}{w:aI}{K:cL}{mg:Str->aE ax}{base:Heap}
theorem dC.ok{x qual:Str}{st:Stmt}{f:av}{fd:af}{N ps:ay Str}{k:Nat}{sp:Sp}(F:dC K x qual st f fd)(S:aH N ps (aC st))(len:∀ vs H Q E,sp vs H Q E->vs.length=ps.length)
  (hbody:∀(cdv:ax)(A:ai)(outer:ay Env)(s:ae)(H:Hp)(vs:ay V)(Q:VK)(E:XK),fK k (A.deeper (envOfC qual (aC st) s.heap.objs.size f cdv))->sp vs H Q E →
   ∃ t,FT (qL aa P w K mg base N qual (aC st) f cdv A outer s H E).nox (iy st) t/\t { nx:=fun _ H'=>Q .non H',rt:=Q } (start N vs) H):aO P w K mg base aa (k+1) f fd ps sp:=by obtain⟨_,_,_,_,_,_,cdv,_,_,rfl,lk,hcd⟩:=F.ex;refine ZF lk hcd S len fun A outer s H vs Q E hr hsp=>?_;obtain⟨t,h,q⟩:=hbody cdv A outer s H vs Q E hr hsp;exact⟨t,h.nox,q⟩
theorem dC.binds{x qual:Str}{st:Stmt}{f:av}{fd:af}{ps:ay Str}(F:dC K x qual st f fd)
  (h:∀(kV doc pm:ax)(an:aE av)(cdv ct:ax)(us:ay ax),us.length=ps.length->bindArgs (PySem.W.fnOf x qual (qD st) (iy st) (aC st) .none kV doc pm an cdv ct) ⟨us,[]⟩=pure (ps.zip us)):Binds K fd ps []:=by obtain⟨_,_,kV,doc,pm,an,cdv,ct,_,rfl,_,_⟩:=F.ex;exact .all (h kV doc pm an cdv ct)
theorem qBH{x qual:Str}{st:Stmt}{f:av}{oc:ax}{od an:aE av}{osl:Array (aE ax)}{kV doc pm cdv ct:ax}(l:K.lookup f=some ⟨oc,od,.func (PySem.W.fnOf x qual (qD st) (iy st) (aC st) .none kV doc pm an cdv ct),osl⟩)
  (c:PySem.W.codeIn K cdv qual=true) (k:KI K f):dC K x qual st f (PySem.W.fnOf x qual (qD st) (iy st) (aC st) .none kV doc pm an cdv ct):=⟨⟨oc,od,kV,doc,pm,an,cdv,ct,osl,rfl,l,c⟩,k⟩
end
theorem zV(h:n<=1000):n<sizeLine:=ia h (by decide)
section
variable{X:Cx}
theorem pv(i:Nat)(hN:X.N[i]? = some x:=by rfl)(hv:Vis X.env.scope x:=by first | exact bb rfl | exact Or.inr (bb rfl) | exact Or.inr (Or.inr rfl))(hd:(x==("__debug__" : Str))=false:=by decide)
  (hcd:(x==("__classdict__" : Str))=false:=by decide):PE X (.Name x pos) (Ab i):=qA6 hN hv hd hcd
end
theorem oY{c A B:Prop} [Decidable c] (h1:c->A) (h2:¬ c->B):if c then A else B:=by
 by_cases h:c
 .rw[cE h];exact h1 h
 .rw[cy h];exact h2 h
def aG(H H':Hp):Prop:=∀ b o,H b=some o->H' b=some o
theorem aG.refl(H:Hp):aG H H:=fun _ _ h=>h
theorem aG.trans(a:aG H H1)(b:aG H1 H2):aG H H2:=fun c o h=>b c o (a c o h)
theorem aG.free(e:aG H H')(h:H' l=Option.none):H l=Option.none:=by
 cases q:H l with
 | none=>rfl
 | some o=>
  rw[e l o q]at h
  cases h
theorem aG.seq{K:cL}{H H':Hp}{a:av}{xs:ay V}(e:aG H H')(h:aV K H a xs):aV K H' a xs:=by
 rcases h with (h | ⟨o,h⟩) | h
 .exact .inl (.inl (e _ _ h))
 .exact .inl (.inr ⟨o,e _ _ h⟩)
 .exact .inr h
end L2
namespace L2
theorem aJ{T:Prop}(h:∀ G:Prop,(T->G)->G):T:=h T id
theorem aF{K:cL}{H:Hp}{p:PySem.Addr}{xs:ay V}{i:Int}{v:V}{Q:VK}(h1:aM K H p xs)(h2:rK xs i=some v)(h3:Q v H):jE K (.ref p) (.int i) H Q:=⟨p,xs,i,v,rfl,rfl,h1,h2,h3⟩
theorem az{K:cL}{H:Hp}{p:PySem.Addr}{xs:ay V}{i:Int}{v:V}{Q:VK}(h1:aV K H p xs)(h2:rK xs i=some v)(h3:Q v H):qA3 K (.ref p) (.int i) H Q:=⟨p,xs,i,v,rfl,rfl,h1,h2,h3⟩
theorem fL{p:PySem.Addr}{xs:ay V}{E:PySem.Addr->Prop}{D:PySem.Addr->ay V->Prop}{Z:PySem.Addr->ay V->Prop}(e:E p)(d:D p xs)(z:Z p xs):∃ p' xs',E p'/\D p' xs'/\Z p' xs':=⟨p,xs,e,d,z⟩
theorem bB{i j:Int}{P:Int->Int->Prop}(h:P i j):∃ i' j',V.int i = .int i'/\V.int j = .int j'/\P i' j':=⟨i,j,rfl,rfl,h⟩
theorem bD{t u:TS}{N B C:St->Hp->Prop}{R:VK}{σ:St}{H:Hp}(h:∀ X:St->Hp->Prop,(∀ {σ H},u ⟨N,R,B,C⟩ σ H->X σ H)->t ⟨X,R,B,C⟩ σ H):WN t u ⟨N,R,B,C⟩ σ H:=h _ fun z=>z
theorem Q0{t u:TS}{N B:St->Hp->Prop}{R:VK}{σ:St}{H:Hp}(h:∀ Y:St->Hp->Prop,(∀ {σ H},N σ H->Y σ H)->∀ X:St->Hp->Prop,(∀ {σ H},u ⟨Y,R,B,Y⟩ σ H->X σ H)->t ⟨X,R,B,Y⟩ σ H):WN t u ⟨N,R,B,N⟩ σ H:=h _ (fun z=>z) _ fun z=>z
theorem au{α β:Sort _}{P:α->β->Prop} (a b) (h:P a b):∃ a b,P a b:=⟨a,b,h⟩
theorem fM{α β γ:Sort _}{P:α->β->γ->Prop} (a b c) (h:P a b c):∃ a b c,P a b c:=⟨a,b,c,h⟩
theorem jV{α β γ δ:Sort _}{P:α->β->γ->δ->Prop} (a b c d) (h:P a b c d):∃ a b c d,P a b c d:=⟨a,b,c,d,h⟩
theorem uM{α β γ δ ε ζ:Sort _}{P:α->β->γ->δ->ε->ζ->Prop} (a b c d e f) (h:P a b c d e f):∃ a b c d e f,P a b c d e f:=⟨a,b,c,d,e,f,h⟩
end L2
namespace Av
open PySem L2 qH
theorem len0{P:ay ax->Prop}(h:P [])(xs:ay ax)(e:xs.length=0):P xs:=by
 cases xs with
 | nil=>exact h
 | cons a ys=>cases e
theorem U3{n:Nat}{P:ay ax->Prop}(h:∀ a (ys:ay ax),ys.length=n->P (a::ys))(xs:ay ax)(e:xs.length=n+1):P xs:=by
 cases xs with
 | nil=>cases e
 | cons a ys=>exact h a ys (Nat.succ.inj e)
theorem An{P:ay ax->Prop}(h:∀ a,P [a])(xs:ay ax)(e:xs.length=1):P xs:=U3 (fun a=>len0 (h a)) xs e
theorem jo{P:ay ax->Prop}(h:∀ a b,P [a,b])(xs:ay ax)(e:xs.length=2):P xs:=U3 (fun a=>An (h a)) xs e
theorem lC{P:ay ax->Prop}(h:∀ a b c,P [a,b,c])(xs:ay ax)(e:xs.length=3):P xs:=U3 (fun a=>jo (h a)) xs e
theorem yW{P:ay ax->Prop}(h:∀ a b c d,P [a,b,c,d])(xs:ay ax)(e:xs.length=4):P xs:=U3 (fun a=>lC (h a)) xs e
theorem qDP{P:ay ax->Prop}(h:∀ a b c d f,P [a,b,c,d,f])(xs:ay ax)(e:xs.length=5):P xs:=U3 (fun a=>yW (h a)) xs e
theorem hdef:PySem.W.defOf QV "law" = some (LR,[]):=by kernel_rfl
theorem hok:(PySem.W.chainsOk QV&&PySem.W.opensWell PW&&(PySem.W.frees PySem.Challenge.rw_nesthall_k35_what_is_seen.row.toRowW&&PySem.Challenge.rw_nesthall_k35_what_is_seen.row.within.isEmpty))=true:=by kernel_rfl
theorem hbare:PW.bare:=⟨rfl,rfl,rfl,rfl,rfl,by ext y⟩
theorem hkw:PySem.W.kwWritten? LR.params.kwonlyargs LR.params.kw_defaults=some []:=by kernel_rfl
theorem hthe:PW.theDef "law" = some (LR.params,LR.body,LR.scope):=by kernel_rfl
abbrev NS(x:Str)(a:av):Prop:=∀ P:Params,PySem.W.nsIn (KO P) mainGlobals x=some (some (.ref a))
theorem ns_{x:Str}{a:av}(h:NS x a:=by exact fun P=>by kernel_rfl):NS x a:=h
abbrev NZ(x:Str):Prop:=∀ P:Params,PySem.W.nsIn (KO P) mainGlobals x=some none
abbrev FU(x q:Str)(st:Stmt)(a:av)(d:af):Prop:=∀ P:Params,dC (KO P) x q st a d
theorem fH{x q:Str}{st:Stmt}{a:av}{pm cd:ax}(h:∀ P:Params,(KO P).lookup a=some (eZ (eQ x q st pm cd))/\PySem.W.codeIn (KO P) cd q=true/\PySem.W.keepIn (KO P) (.ref a)=true:=by exact fun _=>⟨by kernel_rfl,by kernel_rfl,by kernel_rfl⟩):FU x q st a (eQ x q st pm cd):=fun P=>qBH (h P).1 (h P).2.1 (h P).2.2
theorem a1:NS "_law_cell_at" 346:=ns_
theorem u1:FU "_law_cell_at" "_law_cell_at" Mq 346 fd1:=fH
theorem a2:NS "_law_mixed" 353:=ns_
theorem u2:FU "_law_mixed" "_law_mixed" Du 353 fd2:=fH
theorem a3:NS "holds" 141:=ns_
theorem u3:FU "holds" "holds" oE 141 fd3:=fH
theorem a4:NS "answers" 148:=ns_
theorem u4:FU "answers" "answers" sY 148 fd4:=fH
theorem a5:NS "end_of" 28:=ns_
theorem u5:FU "end_of" "end_of" Dv 28 fd5:=fH
theorem a6:NS "parent" 21:=ns_
theorem u6:FU "parent" "parent" w6 21 fd6:=fH
theorem a7:NS "lies_in" 40:=ns_
theorem u7:FU "lies_in" "lies_in" wA 40 fd7:=fH
theorem a8:NS "hall_over" 47:=ns_
theorem u8:FU "hall_over" "hall_over" pN 47 fd8:=fH
theorem a9:NS "kids" 33:=ns_
theorem u9:FU "kids" "kids" Ga 33 fd9:=fH
theorem a10:NS "bears_goal" 52:=ns_
theorem u10:FU "bears_goal" "bears_goal" xO 52 qFS:=fH
theorem a11:NS "next_in" 59:=ns_
theorem Zf:FU "next_in" "next_in" Ml 59 qFR:=fH
theorem a12:NS "goings_in" 66:=ns_
theorem u12:FU "goings_in" "goings_in" sIn 66 qFQ:=fH
theorem a13:NS "goings_out" 71:=ns_
theorem Ym:FU "goings_out" "goings_out" Rp 71 qFP:=fH
theorem a14:NS "plain_ones" 170:=ns_
theorem u14:FU "plain_ones" "plain_ones" xM 170 qFO:=fH
theorem a15:NS "kept_of" 177:=ns_
theorem u15:FU "kept_of" "kept_of" wB 177 qFN:=fH
theorem a16:NS "keeping" 184:=ns_
theorem u16:FU "keeping" "keeping" sU 184 qFM:=fH
theorem a17:NS "is_outdone" 153:=ns_
theorem u17:FU "is_outdone" "is_outdone" kW 153 qFL:=fH
theorem a18:NS "chosen" 158:=ns_
theorem u18:FU "chosen" "chosen" sW 158 qFK:=fH
theorem a19:NS "changed" 120:=ns_
theorem u19:FU "changed" "changed" sX 120 qFJ:=fH
theorem a20:NS "recorded" 127:=ns_
theorem u20:FU "recorded" "recorded" pM 127 qFI:=fH
theorem a21:NS "done" 134:=ns_
theorem u21:FU "done" "done" Mp 134 qFH:=fH
theorem a22:NS "sizes_of" 194:=ns_
theorem u22:FU "sizes_of" "sizes_of" jC 194 qFG:=fH
theorem a23:NS "rooms_left" 221:=ns_
theorem u23:FU "rooms_left" "rooms_left" fV 221 qFF:=fH
theorem a24:NS "steps_in" 199:=ns_
theorem u24:FU "steps_in" "steps_in" jB 199 qFE:=fH
theorem a25:NS "steps_out" 204:=ns_
theorem u25:FU "steps_out" "steps_out" iC 204 qFD:=fH
theorem a26:NS "stepped" 211:=ns_
theorem u26:FU "stepped" "stepped" pK 211 qFC:=fH
theorem a27:NS "goals_of" 165:=ns_
theorem u27:FU "goals_of" "goals_of" sV 165 qFB:=fH
theorem a28:NS "passed" 216:=ns_
theorem u28:FU "passed" "passed" oA 216 qFA:=fH
theorem a29:NS "turn" 228:=ns_
theorem u29:FU "turn" "turn" Dm 228 qF9:=fH
theorem a30:NS "rested" 233:=ns_
theorem u30:FU "rested" "rested" nu 233 qF8:=fH
theorem a31:NS "begun" 238:=ns_
theorem u31:FU "begun" "begun" rn 238 qF7:=fH
theorem a32:NS "after" 245:=ns_
theorem u32:FU "after" "after" w5 245 qF6:=fH
theorem a33:NS "said" 250:=ns_
theorem u33:FU "said" "said" xJ 250 qF5:=fH
theorem a34:NS "lamps" 189:=ns_
theorem u34:FU "lamps" "lamps" xN 189 qF4:=fH
theorem a35:NS "move" 317:=ns_
theorem Ze:FU "move" "move" Dq 317 qF3:=fH
theorem a36:NS "flat" 322:=ns_
theorem u36:FU "flat" "flat" xK 322 qF2:=fH
theorem a37:NS "note" 334:=ns_
theorem u37:FU "note" "note" Dn 334 qF1:=fH
theorem a38:NS "seen" 339:=ns_
theorem u38:FU "seen" "seen" uZ 339 qF0:=fH
theorem a39:NS "_law_name" 360:=ns_
theorem u39:FU "_law_name" "_law_name" sI 360 qEZ:=fH
theorem a40:NS "_law_deed" 367:=ns_
theorem u40:FU "_law_deed" "_law_deed" sO 367 qEY:=fH
theorem a41:NS "_law_deeds" 374:=ns_
theorem u41:FU "_law_deeds" "_law_deeds" pL 374 qEX:=fH
theorem a42:NS "_law_guard" 381:=ns_
theorem u42:FU "_law_guard" "_law_guard" j5 381 qEW:=fH
theorem a43:NS "_law_depths" 388:=ns_
theorem u43:FU "_law_depths" "_law_depths" lY 388 qEV:=fH
theorem a44:NS "_law_rooms" 395:=ns_
theorem u44:FU "_law_rooms" "_law_rooms" Dt 395 qEU:=fH
theorem a45:NS "_law_doors" 400:=ns_
theorem u45:FU "_law_doors" "_law_doors" kJ 400 qET:=fH
theorem a46:NS "_law_chart" 405:=ns_
theorem u46:FU "_law_chart" "_law_chart" kO 405 qES:=fH
theorem a47:NS "ways" 327:=ns_
theorem u47:FU "ways" "ways" xH 327 qER:=fH
theorem a48:NS "_law_whole" 412:=ns_
theorem u48:FU "_law_whole" "_law_whole" Dr 412 qEQ:=fH
theorem a49:NS "_law_behind" 419:=ns_
theorem u49:FU "_law_behind" "_law_behind" lZ 419 qEP:=fH
theorem a50:NS "_law_note" 426:=ns_
theorem u50:FU "_law_note" "_law_note" sG 426 qEO:=fH
theorem a51:NS "_law_told" 433:=ns_
theorem u51:FU "_law_told" "_law_told" sE 433 qEN:=fH
theorem a52:NS "_law_flat" 440:=ns_
theorem u52:FU "_law_flat" "_law_flat" sJ 440 qEM:=fH
theorem a53:NS "_law_seen_refused" 447:=ns_
theorem u53:FU "_law_seen_refused" "_law_seen_refused" dX 447 qEL:=fH
theorem a54:NS "law" 452:=ns_
theorem u54:FU "law" "law" qW 452 YJ:=fH
theorem qG6(P:Params):PySem.W.findIn (KO P) (.ref 109) "__init__" = some (some (.ref 85)):=by kernel_rfl
theorem qDZ(P:Params):PySem.W.isFn (KO P) (.ref 85)=true:=by kernel_rfl
theorem qC4:FU "__init__" "Letters.__init__" Mm 85 Uw:=fH
theorem qG5(P:Params):PySem.W.findIn (KO P) (.ref 109) "add" = some (some (.ref 92)):=by kernel_rfl
theorem qDY(P:Params):PySem.W.isFn (KO P) (.ref 92)=true:=by kernel_rfl
theorem qC3:FU "add" "Letters.add" Wi 92 Uv:=fH
theorem qG4(P:Params):PySem.W.findIn (KO P) (.ref 109) "taken" = some (some (.ref 99)):=by kernel_rfl
theorem qDX(P:Params):PySem.W.isFn (KO P) (.ref 99)=true:=by kernel_rfl
theorem qC2:FU "taken" "Letters.taken" Ds 99 Uu:=fH
theorem qG3(P:Params):PySem.W.findIn (KO P) (.ref 109) "waiting" = some (some (.ref 106)):=by kernel_rfl
theorem qDW(P:Params):PySem.W.isFn (KO P) (.ref 106)=true:=by kernel_rfl
theorem qC1:FU "waiting" "Letters.waiting" sS 106 Ut:=fH
theorem qG2(P:Params):PySem.W.findIn (KO P) (.ref 306) "__init__" = some (some (.ref 296)):=by kernel_rfl
theorem qDV(P:Params):PySem.W.isFn (KO P) (.ref 296)=true:=by kernel_rfl
theorem qC0:FU "__init__" "Finds.__init__" iu 296 Us:=fH
theorem qG1(P:Params):PySem.W.findIn (KO P) (.ref 306) "row_of" = some (some (.ref 303)):=by kernel_rfl
theorem qDU(P:Params):PySem.W.isFn (KO P) (.ref 303)=true:=by kernel_rfl
theorem qBZ:FU "row_of" "Finds.row_of" fX 303 Ur:=fH
theorem qBY:FU "__init__" "TooWide.__init__" fW 277 Uq:=fH
theorem aC0:NS "Letters" 109:=ns_
theorem Ey(P:Params):wN (KO P) 109:=⟨by kernel_rfl,by kernel_rfl,by kernel_rfl,by kernel_rfl⟩
theorem qDK(P:Params):PySem.W.makesIn (KO P) 109=true/\PySem.W.keepIn (KO P) (.ref 109)=true:=⟨by kernel_rfl,by kernel_rfl⟩
theorem pX(P:Params):PySem.W.findIn (KO P) (.ref 109) "most" = some none:=by kernel_rfl
theorem eX(P:Params):PySem.W.findIn (KO P) (.ref 109) "events" = some none:=by kernel_rfl
theorem aC1:NS "Finds" 306:=ns_
theorem La(P:Params):wN (KO P) 306:=⟨by kernel_rfl,by kernel_rfl,by kernel_rfl,by kernel_rfl⟩
theorem qDJ(P:Params):PySem.W.makesIn (KO P) 306=true/\PySem.W.keepIn (KO P) (.ref 306)=true:=⟨by kernel_rfl,by kernel_rfl⟩
theorem pW(P:Params):PySem.W.findIn (KO P) (.ref 306) "most" = some none:=by kernel_rfl
theorem dJ(P:Params):PySem.W.findIn (KO P) (.ref 306) "stands" = some none:=by kernel_rfl
theorem gY(P:Params):PySem.W.findIn (KO P) (.ref 306) "paths" = some none:=by kernel_rfl
theorem iw(P:Params):PySem.W.findIn (KO P) (.ref 306) "numbers" = some none:=by kernel_rfl
theorem aC2:NS "TooWide" 280:=ns_
theorem aC3:NS "NestError" 260:=ns_
theorem z1:NZ "len" := fun P=>by kernel_rfl
theorem z2:NZ "max" := fun P=>by kernel_rfl
theorem z3:NZ "min" := fun P=>by kernel_rfl
theorem z4:NZ "range" := fun P=>by kernel_rfl
theorem z5:NZ "list" := fun P=>by kernel_rfl
theorem z6:NZ "tuple" := fun P=>by kernel_rfl
theorem z7:NZ "isinstance" := fun P=>by kernel_rfl
theorem z8:NZ "int" := fun P=>by kernel_rfl
theorem z9:NZ "bool" := fun P=>by kernel_rfl
theorem z10:NZ "sorted" := fun P=>by kernel_rfl
theorem z11:NZ "any" := fun P=>by kernel_rfl
theorem z12:NZ "enumerate" := fun P=>by kernel_rfl
theorem z13:NZ "str" := fun P=>by kernel_rfl
theorem Ky(P:Params):PySem.W.keepIn (KO P) (.ref 280)=true:=by kernel_rfl
theorem yq(P:Params):PySem.W.exmOne (KO P) (.ref 280) (.ref 280)=some true:=by kernel_rfl
theorem fE1(P:Params):PySem.W.specialIn (KO P) (.ref 260) "__getattribute__" = some (some (.builtin "type.__getattribute__")):=by kernel_rfl
theorem fE2(P:Params):PySem.W.readsIn (KO P) 260 (.type "type")=true:=by kernel_rfl
theorem fE3(P:Params):PySem.W.findCls (KO P) (.ref 260) (.type "type") "__init__" = some (.val (.builtin "ValueError.__init__")):=by kernel_rfl
end Av
namespace L2
open PySem PyProof.Rows
theorem okS{P:ag}{w:aI}{K:cL}{mg:Str->aE ax}{base:Heap}{x qual:Str}{st:Stmt}{f:av}{fd:af}{N ps:ay Str}{k:Nat}{sp:Sp}(sc:Scope)(hsc:aC st=sc)(F:dC K x qual st f fd)(S:aH N ps sc)(len:∀ vs H Q E,sp vs H Q E->vs.length=ps.length)
  (hbody:∀ cdv A outer s H vs Q E,fK k (A.deeper (envOfC qual sc s.heap.objs.size f cdv))->sp vs H Q E →
   ∃ t,FT (qL aa P w K mg base N qual sc f cdv A outer s H E).nox (iy st) t/\t { nx:=fun _ H'=>Q .non H',rt:=Q } (start N vs) H):aO P w K mg base aa (k+1) f fd ps sp:=by subst hsc;exact F.ok S len hbody
end L2
namespace L2
open PySem PySem.Spec PyProof.Rows
theorem jO.adopt(x:jO P w H h)(hn:H a=none)(new:bW P w (upd H a o) h a o):jO P w (upd H a o) h:=fun b u e=>by
 by_cases hb:b=a
 .subst hb;rw[zC]at e;cases e;exact new
 .rw[zQ hb]at e
  exact (x b u e).stay (fun c v _ q=>q) (fun c q=>by rw[zQ (zM q hn)];exact q) fun c _ q=>by rw[zQ (zM q hn)];exact q
theorem Inv.adopt(I:Inv X pins σ H s)(f:iR X pins H a)(new:bW X.prog X.w (upd H a o) s.heap a o):Inv X pins σ (upd H a o) s:=by
 obtain⟨hn,hL,_,hex,hc,hp⟩:=f;refine⟨I.ok,I.os,I.bare,⟨I.base.keep,I.base.slot,fun b ob e n hx=>?_,I.base.there,fun b xs e=>?_,fun b ob u e=>?_,fun b ps e=>?_⟩,I.loc,I.cell,by rw[zQ (bt hL)];exact I.free,fun x c e=>by rw[zQ (hc x c e)];exact I.jH x c e,fun p q=>?_,jO.adopt I.hok hn new,I.len⟩
 .have nb:b≠a:=fun z=>by
   rcases hex with z' | z'
   .exact hx (z▸z')
   .exact dP (iU e) (by rw[z];exact Nat.not_lt.mpr z')
  rw[zQ nb];exact I.base.free b ob e n hx
 .have q:=I.base.tups b xs e;rw[zQ (zM q hn)];exact q
 .have q:=I.base.qy b ob u e;rw[zQ (zM q hn)];exact q
 .obtain⟨m,q⟩:=I.base.rR b ps e;exact⟨m,by rw[zQ (zM q hn)];exact q⟩
 .obtain⟨e,n,r⟩:=I.pin p q;exact⟨e,by rw[zQ (hp p q)];exact n,r⟩
theorem lJ{α β:Type}{f:α->β->Sem (ForInStep β)}{g:α->β->β}:∀(l:ay α)(c:β),(∀ x∈l,∀ c,f x c=pure (.yield (g x c)))->forIn l c f=pure (l.foldl (fun c x=>g x c) c)
 | [],_,_=>rfl
 | x::l,c,h=>by
  rw[List.forIn_cons,h x wO,pure_bind];exact lJ l (g x c) fun y hy=>h y (Fj _ hy)
noncomputable def clG(env:Env)(x:Str×NameKind)(c:ay (Str×av)):ay (Str×av):=if (x.2==NameKind.free)=true then (x.1,(env.cells.lookup x.1).getD 0)::c else c
def pB(env:Env)(scope:Scope):ay (Str×av):=scope.names.foldl (fun c x=>clG env x c) []
theorem rD{env:Env}{scope:Scope}(h:∀ y∈scope.names,y.2 = .free->∃ c,env.cells.lookup y.1=some c):closureFor scope env=pure (pB env scope):=by
 simp only[closureFor]
 rw[lJ (g:=clG env) scope.names [] (fun x hx c=>by
  obtain⟨n,k⟩:=x;unfold clG
  by_cases hk:(k==NameKind.free)=true
  .obtain⟨a,ha⟩:=h _ hx (by simpa using hk);have ha':env.cells.lookup n=some a:=ha;simp only[hk,if_true,cellOf,ha',pure_bind,Option.getD_some]
  .have hk':(k==NameKind.free)=false:=e7.mpr hk
   simp only[hk',Bool.false_eq_true,if_false])]
 rfl
theorem tu:∀(l:ay (Str×NameKind))(cs:ay (Str×av)),(∀ y∈l,y.2 = .free->∃ c,env.cells.lookup y.1=some c)->(∀ y c,cs.lookup y=some c->env.cells.lookup y=some c) →
  (∀ y c,(l.foldl (fun c x=>clG env x c) cs).lookup y=some c->env.cells.lookup y=some c)/\∀ y,((cs.lookup y).isSome=true∨(y,NameKind.free)∈l)->((l.foldl (fun c x=>clG env x c) cs).lookup y).isSome=true
 | [],cs,_,h=>⟨h,fun y hy=>hy.elim id fun z=>absurd z (by simp)⟩
 | (n,k)::l,cs,hf,h=>by
  have hf':∀ y∈l,y.2 = .free->∃ c,env.cells.lookup y.1=some c:=fun y hy=>hf y (Fj _ hy);rw[ff]
  by_cases hk:k = .free
  .subst hk;obtain⟨a,ha⟩:=hf (n,.free) wO rfl;have ha':=ha
   have e:clG env (n,.free) cs=(n,a)::cs:=by
    unfold clG;rw[cE (by rfl)];rw[ha'];rfl
   rw[e]
   have ih:=tu l ((n,a)::cs) hf' (fun y c hy=>by
    rw[fm]at hy
    cases hb:y==n with
    | true=>
     rw[hb]at hy;rw[eq_of_beq hb];exact ha'.trans hy
    | false=>
     rw[hb]at hy
     exact h y c hy)
   refine⟨ih.1,fun y hy=>ih.2 y ?_⟩;rcases hy with hy | hy
   .left
    rw[fm]
    cases y==n with
    | true=>rfl
    | false=>exact hy
   .rcases bL.mp hy with hy | hy
    .left
     rw[(Prod.mk.inj hy).1,fm];simp
    .exact .inr hy
  .have e:clG env (n,k) cs=cs:=by
    unfold clG;rw[if_neg (by simpa using hk)]
   rw[e];have ih:=tu l cs hf' h;refine⟨ih.1,fun y hy=>ih.2 y ?_⟩;rcases hy with hy | hy
   .exact .inl hy
   .rcases bL.mp hy with hy | hy
    .exact dP (Prod.mk.inj hy).2.symm hk
    .exact .inr hy
theorem dZ{env:Env}:∀ {names:ay (Str×NameKind)} {x:Str},names.lookup x=some .free →
  (names.map fun (n,k)=>if (k==NameKind.free&&env.scope.kind==.function&&env.kindOf n==some .cell) then (n,NameKind.cell) else (n,k)).lookup x≠some .local
 | [],_,h=>by simp at h
 | (n,k)::r,x,h=>by
  have ih:=@dZ env r x;show List.lookup x ((if (k==NameKind.free&&env.scope.kind==.function&&env.kindOf n==some .cell)=true then (n,NameKind.cell) else (n,k))::_)≠_
  cases hx:x==n with
  | true=>
   simp only[List.lookup_cons,hx]at h
   cases h
   split
   .simp [List.lookup_cons,hx]
   .simp [List.lookup_cons,hx]
  | false=>
   simp only[List.lookup_cons,hx]at h
   by_cases hc:(k==NameKind.free&&env.scope.kind==.function&&env.kindOf n==some .cell)=true
   .rw[cE hc];simp only[List.lookup_cons,hx];exact ih h
   .rw[cy hc];simp only[List.lookup_cons,hx];exact ih h
theorem nA(nc:∀ z∈scope.names,z.2≠.cell)(h:(relabel scope env).names.lookup y=some .cell∨(relabel scope env).names.lookup y=some .free):(y,NameKind.free)∈scope.names:=by
 have go:∀ k,(k=NameKind.cell∨k=NameKind.free)->(relabel scope env).names.lookup y=some k->(y,NameKind.free)∈scope.names:=fun k hk e=>by
  have m:=cq e;obtain⟨⟨n,k'⟩,hm,e'⟩:=dU.mp m
  by_cases hc:(k'==NameKind.free&&env.scope.kind==.function&&env.kindOf n==some .cell)=true
  .have e2:(n,NameKind.cell)=(y,k):=by
    rw[<-e'];show _=(if (k'==NameKind.free&&env.scope.kind==.function&&env.kindOf n==some .cell)=true then (n,NameKind.cell) else (n,k'));rw[cE hc]
   have hk':k' = .free:=by
    simp only[Bool.and_eq_true,beq_iff_eq]at hc;exact hc.1.1
   rw[<-(Prod.mk.inj e2).1,<-hk'];exact hm
  .have e2:(n,k')=(y,k):=by
    rw[<-e'];show _=(if (k'==NameKind.free&&env.scope.kind==.function&&env.kindOf n==some .cell)=true then (n,NameKind.cell) else (n,k'));rw[cy hc]
   rcases hk with hk | hk
   .exact dP ((Prod.mk.inj e2).2.trans hk) (nc _ hm)
   .rw[<-(Prod.mk.inj e2).1,<-hk,<-(Prod.mk.inj e2).2];exact hm
 rcases h with h | h
 .exact go _ (.inl rfl) h
 .exact go _ (.inr rfl) h
noncomputable def cW(X:Cx)(N:ay Str)(scope:Scope)(C:av)(s:ae)(H:Hp)(ex:ay av)(pn:ay (av×Obj))(E:ax->ae->Prop):Cx where
 prog:=X.prog
 w:=X.w
 K:=X.K
 mg:=X.mg
 base:=X.base
 A:=X.A
 N:=N
 s₀:=s
 H₀:=H
 env:=compEnvC scope (pB X.env scope) C X.env
 outer:=X.stack
 stack:=X.stack
 ex:=ex
 fn:=fun _=>false
 calm:=X.calm
 pn:=pn
 xe:=E
structure bK(osc:Scope)(N:List Str)(scope:Scope)(x:Str)(aj:List (Nat×Str)):Prop where
 kind:scope.kind = .function
 hx:scope.names.lookup x=some .local
 Bt:∀ y∈scope.names,y.2≠.cell
 Tg:∀ y∈scope.names,y.2 = .local->scope.names.lookup y.1=some .local
 free:∀ y∈scope.names,y.2 = .free->osc.names.lookup y.1=some .cell∨osc.names.lookup y.1=some .free
 cap:∀ p∈aj,N[p.1]? = some p.2/\scope.names.lookup p.2=some .free
 nd:(x::aj.map (·.2)).Nodup
noncomputable def v8(aj:ay (Nat×Str))(σ:St):St:=aj.map fun p=>(σ[p.1]?).getD none
def J0(X:Cx)(ifs:ay Expr)(tc:TT):Prop:=
 ∀ pins s σ H Q,Inv X pins σ H s->tc σ H Q →
  wpAny (model X.prog X.w) X.A (forIn ifs true fun c r=>if r=true then do let ok ← isTrue c X.env (eval c X.env);pure (ForInStep.yield ok) else pure (ForInStep.yield r)) (TP X pins σ Q) X.xe s
def qC5:TT:=fun _ H Q=>Q true H
theorem bc:J0 X [] qC5:=fun _ _ _ H _ I h=>by
 simp only[List.forIn_nil];exact aT ⟨H,I,h⟩
theorem fZ(h:PT X c tc):J0 X [c] tc:=by intro pins s σ H Q I hq;simp only[List.forIn_cons,List.forIn_nil,if_true];exact aS (aS (bX (h pins s σ H Q I hq) (fun b _ hb=>aT (aT hb)) fun _ _ x=>x))
def jm(J:It)(cs:St)(tc:TT)(te:TE)(H1:Hp)(Z:ay V->Hp->Prop):Prop:=
 ∃ W:Nat->Nat->ay V->Hp->Prop,(∃ m,W 0 m [] H1)/\∀ i m acc H,W i m acc H →
  (J.stop i H/\Z acc H)∨(J.go i H/\∃ N:ay V->Hp->Prop,(∀ a H',N a H'->∃ m',m'<m/\W (i+1) m' a H') ∧
   ∀ x H',J.WD i H x H'->tc (some x::cs) H' fun b H2=>if b=true then te (some x::cs) H2 fun v H3=>acc.length<sizeLine/\N (acc++[v]) H3 else N acc H2)
def RG(wi:TI)(aj:ay (Nat×Str))(tc:TT)(te:TE):TE:=fun σ H Q=>wi σ H fun J H1=>jm J (v8 aj σ) tc te H1 fun acc H2 => ∀ p,H2 p=none->Q (.ref p) (upd H2 p (.lst acc))
theorem Cd
  (hc:X.calm=true) (hN:X.N=x::ns) (nd:X.N.Nodup) (hx:X.env.scope.names.lookup x=some .local) (I:Inv X [] (o::cs) H s) (T:Turn X.prog X.w X.K (.Name x px) J fp it tn) (st:tn 0 s.heap) (hf:∀ b∈fp,iR X [] H b)
  (hD:iR X [] H D) (hDf:D∉fp) (pl:s.heap.PlainList D #[]) (yg:J0 X ifs tc) (helt:PE X elt te) (hW:jm J cs tc te H Z) (hxe:X.xe=notedBy (model X.prog X.w) X.A X.env fun e s'=>R (.error e) s')
  (hR:∀ s' H' acc its o',Inv X [] (o'::cs) H' s'->s'.heap.PlainList D its.toArray->Vals acc its->acc.length<=sizeLine->H' D=none->Z acc H'->R (.ok .next) s') :
  codeAny (model X.prog X.w) X.A (.compLoop (.ListComp elt [⟨.Name x px,iter,ifs,0⟩] scope pos) 0 (.ref it) (.ref D) X.env) R s:=by
 obtain⟨W,⟨m0,w0⟩,turn⟩:=hW;refine codeAny_compLoop_tests (fun n s'=>∃ i acc its H' o',Inv X [] (o'::cs) H' s'/\tn i s'.heap/\(∀ b∈fp,H' b=none)/\H' D=none/\s'.heap.PlainList D its.toArray/\Vals acc its/\acc.length<=sizeLine/\W i n acc H') ?_ m0
  ⟨0,[],[],H,o,I,st,fun b hb=>(hf b hb).1,hD.1,pl,.nil,bg _,w0⟩
 rintro n s3 ⟨i,acc,its,H3,o3,I3,st3,fr3,hD3,⟨nD,gD⟩,va,hl,w3⟩;rw[<-hxe]
 have I4:Inv X [(D,{ cls:=.type "list",data:=.seq its.toArray nD })] (o3::cs) H3 s3:=I3.t6 fun p hp=>by
  obtain rfl:p=(D,{ cls:=.type "list",data:=.seq its.toArray nD }):=by simpa using hp
  exact⟨gD,hD3,hD.2.1,hD.2.2.1,fun v z=>by cases (show Data.seq its.toArray nD=Data.cell v from z)⟩
 have stat:∀ {H':Hp},(∀ b∈fp,H' b=none)->∀ b∈fp,iR X [(D,{ cls:=.type "list",data:=.seq its.toArray nD })] H' b:=fun hn b hb=>by
  obtain⟨_,f1,f2,f3,f4,f5⟩:=hf b hb;refine⟨hn b hb,f1,f2,f3,f4,fun p hp=>?_⟩;rcases cH.mp hp with z | z
  .exact f5 p (ft _ z)
  .obtain rfl:p=(D,{ cls:=.type "list",data:=.seq its.toArray nD }):=by simpa using z
   exact fun e=>hDf (by rw[show D=b from e];exact hb)
 rcases turn i n acc H3 w3 with ⟨stop,z⟩ | ⟨go,N,hNn,step⟩
 .refine bI (T.done X rfl rfl rfl hc i _ s3 (o3::cs) H3 X.xe I4 (stat fr3) st3 stop) fun r s4 ⟨hr,I5⟩=>?_;subst hr;exact hR s4 H3 acc its o3 (I5.t6 fun p hp=>absurd hp (by simp)) ⟨nD,(I5.pin _ (List.mem_append_right _ (List.mem_singleton.mpr rfl))).1⟩ va hl hD3 z
 .refine bI (T.item X rfl rfl rfl hc i _ s3 (o3::cs) H3 X.xe I4 (stat fr3) st3 go) fun r s4 ⟨u,hr,h4⟩=>?_;subst hr;have e0:(letOwnedTupleGo (.Name x px) (.ref it) u >>= fun _=>assign (.Name x px) X.env u)=assign (.Name x px) X.env u:=rfl;show wpAny _ _ (assign (.Name x px) X.env u) _ _ s4;rw[<-e0];refine aS (bI h4 fun _ s5 ⟨xv,H5,I5,r5,y5,rJ,fr5⟩=>?_);have I5':=I5.pinned (stat fr5) (T.obj _ _ rJ);refine wpAny_assign_Name (jz (i:=0) I5' nd (by rw[hN] <;> rfl) (.inl hx) r5 (fun s6 I6=>?_) (.inr hx));have I6':Inv X ([(D,{ cls:=.type "list",data:=.seq its.toArray nD })]++ud fp s5.heap) (some xv::cs) H5 s6:=I6;have later:∀ {σ':St} {H':Hp} {s':ae},Inv X ([(D,{ cls:=.type "list",data:=.seq its.toArray nD })]++ud fp s5.heap) σ' H' s' →
    Inv X [] σ' H' s'/\tn (i+1) s'.heap/\(∀ b∈fp,H' b=none)/\H' D=none/\s'.heap.get? D=some { cls:=.type "list",data:=.seq its.toArray nD }:=fun {σ' H' s'} J'=>by
   have pD:=J'.pin (D,{ cls:=.type "list",data:=.seq its.toArray nD }) (fw _ (ft _ (bJ.mpr rfl)));refine⟨J'.t6 fun p hp=>absurd hp (by simp),T.keep _ _ _ rJ fun b hb ob e=>(J'.pin (b,ob) (List.mem_append_right _ (List.mem_append_right _ (mK hb e)))).1,fun b hb=>?_,pD.2.1,pD.1⟩;obtain⟨ob,e,_⟩:=T.obj _ _ rJ b hb;exact (J'.pin (b,ob) (fw _ (fw _ (mK hb e)))).2.1
  refine bI (yg _ s6 (some xv::cs) H5 _ I6' (step xv H5 y5)) fun b s7 ⟨H7,I7,q7⟩=>?_
  cases b with
  | false=>
   obtain⟨m',hm,w7⟩:∃ m',m'<n/\W (i+1) m' acc H7:=hNn acc H7 q7;obtain⟨l1,l2,l3,l4,l5⟩:=later I7;exact⟨m',hm,i+1,acc,its,H7,some xv,l1,l2,l3,l4,⟨nD,l5⟩,va,hl,w7⟩
  | true=>
   have q7':=q7;refine bI (helt _ s7 (some xv::cs) H7 _ I7 q7') fun u8 _ ⟨v,H8,I8,r8,_,n8⟩=>?_;obtain⟨m',hm,w8⟩:=hNn _ _ n8;obtain⟨l1,l2,l3,l4,l5⟩:=later I8;have hlen:=va.length;refine wpAny_list_append_plain ⟨nD,l5⟩ fun _ pl9 sb9=>?_;refine⟨m',hm,i+1,acc++[v],its++[u8],H8,some xv,l1.turned (fun b ob hb e=>(sb9.2 b hb).trans e) l4 hD.2.1 hD.2.2.2.1 hD.2.2.2.2.1 hD.2.2.2.2.2,?_,l3,l4,by simpa using pl9,va.append (.cons r8 .nil),?_,w8⟩
   .exact T.keep _ _ _ l2 fun b hb ob e=>(sb9.2 b (fun z=>hDf (z▸hb))).trans e
   .rw[dj,gK];lia
theorem Inv.wW(I:Inv X pins σ H s)(h1:b≠X.env.locals)(h2:b∉X.fs):b∉frs X.stack:=fun z=>(bL.mp (I.Jd b z)).elim h1 h2
theorem yw{Z:ay V->Hp->Prop}{RR:ax->av->Result->ae->Prop}
  (hc:X.calm=true) (S:bK X.env.scope X.N scope x aj) (I:Inv X pins σ H s) (T:Turn X.prog X.w X.K (.Name x px) J fp it tn) (st:tn 0 s.heap) (hf:∀ b∈fp,iR X pins H b)
  (yg:∀ C s H ex pn E,J0 (cW X (x::aj.map (·.2)) scope C s H ex pn E) ifs tc) (helt:∀ C s H ex pn E,PE (cW X (x::aj.map (·.2)) scope C s H ex pn E) elt te)
  (hW:jm J (v8 aj σ) tc te H Z)
  (hRR:∀ s' H' acc its (D C:av) (m:Str->aE ax),Inv X pins σ H' s'->s'.heap.PlainList D its.toArray->Vals acc its->acc.length<=sizeLine->iR X pins H' D->iR X pins H' C->D≠C->s'.heap.Ns C m->Z acc H'->RR (.ref D) C (.ok .next) s') :
  wpAny (model X.prog X.w) X.A (newList []) (fun acc s₃=>wpAny (model X.prog X.w) X.A (newFunctionEnv scope X.env.globals (pB X.env scope) [] X.env.qual none .none (some X.env)) (fun cenv s₄=>
   codeAny (model X.prog X.w) X.A (.compStart (.ListComp elt [⟨.Name x px,iter,ifs,0⟩] scope pos) 0 (.ref it) acc { cenv with scope:=relabel scope X.env }) (RR acc cenv.locals) s₄) E s₃) E s:=by
 refine wpAny_newObj_type (wpAny_newFunctionEnv S.Bt (by intro y hy;simp at hy) (fun h₁ hns₁ hsb₁=>?_) S.kind)
 dsimp only at hns₁ hsb₁ ⊢
 have hI3:Inv X pins σ H { s with heap:=s.heap.push { cls:=.type "list",dict:=none,data:=.seq ([]:ay ax).toArray } }:=I.kept (t':=s.toks) fun b u e=>j8 _ e;have gD3:(s.heap.push { cls:=.type "list",dict:=none,data:=.seq ([]:ay ax).toArray }).get? s.heap.objs.size=some { cls:=.type "list",dict:=none,data:=.seq ([]:ay ax).toArray }:=zr _ rfl;have Kp:(s.heap.push { cls:=.type "list",dict:=none,data:=.seq ([]:ay ax).toArray }).objs.size=s.heap.objs.size+1:=eC _ _;generalize W5:s.heap.push { cls:=.type "list",dict:=none,data:=.seq ([]:ay ax).toArray }=h3 at hns₁ hsb₁ hI3 gD3 Kp ⊢;have k3:∀ b u,s.heap.get? b=some u->h3.get? b=some u:=fun b u e=>W5▸j8 _ e;have UG:∀ b u,h3.get? b=some u->h₁.get? b=some u:=fun b u e=>(hsb₁.2 b (lO (iU e))).trans (j8 _ e);have k1:∀ b u,s.heap.get? b=some u->h₁.get? b=some u:=fun b u e=>UG b u (k3 b u e)
 have hDC:s.heap.objs.size≠h3.objs.size:=by rw[Kp];exact lO (ic _)
 have fD:iR X pins H s.heap.objs.size:=I.ym (bN _) (I.hok.fresh (bN _));have fC:iR X pins H h3.objs.size:=I.ym (by rw[Kp];exact hV _) (I.hok.fresh (by rw[Kp];exact hV _));have lfp:∀ b∈fp,b<s.heap.objs.size:=fun b hb=>let ⟨_,e,_⟩:=T.obj _ _ st b hb;iU e;have hDf:s.heap.objs.size∉fp:=fun z=>i0 _ (lfp _ z);have hfree:∀ y∈scope.names,y.2 = .free->∃ c,X.env.cells.lookup y.1=some c:=fun y hy e=>I.ok.has y.1 (S.free y hy e);obtain⟨sub,has⟩:=tu scope.names [] hfree (fun y c e=>by simp at e);have qi:=sub;have Ue:∀ y,(y,NameKind.free)∈scope.names->∃ c,(pB X.env scope).lookup y=some c:=fun y hy=>jv.mp (has y (.inr hy));have inj:∀ b∈s.heap.objs.size::fp,iR X pins H b:=fun b hb=>(bL.mp hb).elim (fun z=>z▸fD) (hf b);have ltC:∀ b∈s.heap.objs.size::fp,b≠h3.objs.size:=fun b hb=>(bL.mp hb).elim (fun z=>z▸hDC) fun z=>lO (by rw[Kp];exact ib (lfp b z))
 have I1:Inv (cW X (x::aj.map (·.2)) scope h3.objs.size { s with heap:=h3 } H (s.heap.objs.size::fp) (X.pn++pins)
   (notedBy (model X.prog X.w) X.A (compEnvC scope (pB X.env scope) h3.objs.size X.env) fun e s'=>RR (.ref s.heap.objs.size) h3.objs.size (.error e) s')) [] (none::v8 aj σ) H { s with heap:=h₁,toks:=s.toks+([]:ay (Str×ax)).length }:=by
  refine⟨⟨I.ok.mod,S.kind,I.ok.glob,I.ok.blt,bN _,fun y z c e1 e2=>I.ok.inj y z c (qi _ _ e1) (qi _ _ e2),fun y hy=>Ue y (nA S.Bt hy),fun y c e=>(nomatch e),I.ok.hd,I.ok.frames,.inl rfl,fun b hb=>⟨ltC b hb,fun y c e=>(inj b hb).2.2.2.2.1 y c (qi y c e)⟩,
    fun b ob e=>⟨k3 b ob (I.bs b ob e).1,(I.bs b ob e).2⟩,?_,fun b ob e z=>?_,fun b hb=>I.wW (inj b hb).2.1 (inj b hb).2.2.1,?_,I.rW⟩,
   rfl,I.bare,Un.kept UG,⟨_,hns₁,fun i y v e1 e2 e3=>?_⟩,fun y c e=>?_,fC.1,fun y c e=>I.jH y c (qi y c e),fun p hp=>?_,I.hok.kept k1,?_⟩
  .exact bq I.ok.Qy (bq I.sz (by show s.heap.objs.size<=h3.objs.size;rw[Kp];exact hV _))
  .rcases (inj b z).2.2.2.1 with w1 | w1
   .exact I.ok.KZ b ob e w1
   .exact dP (zm (iU e) I.ok.Qy) (Nat.not_lt.mpr w1)
  .exact Heap.FunFrames.of_keeps (fun b ob e _=>⟨ob,k3 b ob e,rfl⟩) I.stack
  .cases i with
   | zero=>cases e2
   | succ i=>
    have e1':(aj.map (·.2))[i]? = some y:=e1;have e2':(v8 aj σ)[i]? = some (some v):=e2;unfold v8 at e2';rw[dD]at e1' e2'
    cases ep:aj[i]? with
    | none=>rw[ep]at e1';cases e1'
    | some p=>
     rw[ep]at e1' e2';obtain rfl:p.2=y:=jX e1';have Eu:(σ[p.1]?).getD none=some v:=jX e2'
     have hσ:σ[p.1]? = some (some v):=by
      cases es:σ[p.1]? with
      | none=>rw[es]at Eu;cases Eu
      | some w1=>rw[es]at Eu;exact congrArg some Eu
     obtain⟨cN,cF⟩:=S.cap p (zp ep);have mF:(p.2,NameKind.free)∈scope.names:=cq cF;have oF:=S.free _ mF rfl;obtain⟨m,hn,hlook⟩:=I.loc;obtain⟨u,ru,lk⟩:=hlook p.1 p.2 v cN hσ (.inr oF);refine⟨u,ru,.inr ⟨?_,?_⟩⟩
     .rcases e3 with z | z
      .exact dP z (dZ cF)
      .exact z
     .obtain⟨c,ec⟩:=Ue p.2 mF;refine⟨c,ec,?_⟩;rcases lk with ⟨z,_⟩ | ⟨_,c',ec',ob,ho,hd⟩
      .have z':X.env.scope.names.lookup p.2=some .local:=z;rw[z']at oF;rcases oF with q | q <;> cases q
      .have ee:=(qi _ _ ec).symm.trans ec'
       cases ee
       exact⟨ob,k1 _ _ ho,hd⟩
  .obtain⟨v,ob,ho,hd⟩:=I.cell y c (qi y c e);exact⟨v,ob,k1 _ _ ho,hd⟩
  .have hp':p∈X.pn++pins:=by
    rcases cH.mp hp with z | z
    .exact z
    .exact absurd z (by simp)
   obtain⟨e,n,ne,nf,d⟩:=I.pin p hp';refine⟨k1 _ _ e,n,lO ?_,I.wW ne nf,d⟩;rw[Kp];exact ib (iU e)
  .show (none::v8 aj σ).length=(x::aj.map (·.2)).length;simp [v8]
 have hf1:∀ b∈s.heap.objs.size::fp,iR (cW X (x::aj.map (·.2)) scope h3.objs.size { s with heap:=h3 } H (s.heap.objs.size::fp) (X.pn++pins)
   (notedBy (model X.prog X.w) X.A (compEnvC scope (pB X.env scope) h3.objs.size X.env) fun e s'=>RR (.ref s.heap.objs.size) h3.objs.size (.error e) s')) [] H b:=fun b hb=>by
  obtain⟨f0,f1,f2,f3,f4,f5⟩:=inj b hb;refine⟨f0,ltC b hb,I.wW f1 f2,.inl hb,fun y c e=>f4 y c (qi y c e),fun p hp=>f5 p ?_⟩;rcases cH.mp hp with z | z
  .exact z
  .exact absurd z (by simp)
 have st1:=T.keep _ _ _ st fun b _ ob e=>k1 b ob e
 have loop:codeAny (model X.prog X.w) X.A (.compLoop (.ListComp elt [⟨.Name x px,iter,ifs,0⟩] scope pos) 0 (.ref it) (.ref s.heap.objs.size) (compEnvC scope (pB X.env scope) h3.objs.size X.env)) (RR (.ref s.heap.objs.size) h3.objs.size) { s with heap:=h₁,toks:=s.toks+([]:ay (Str×ax)).length }:=by
  refine Cd (X:=cW X (x::aj.map (·.2)) scope h3.objs.size { s with heap:=h3 } H (s.heap.objs.size::fp) (X.pn++pins) (notedBy (model X.prog X.w) X.A (compEnvC scope (pB X.env scope) h3.objs.size X.env) fun e s'=>RR (.ref s.heap.objs.size) h3.objs.size (.error e) s'))
   hc rfl S.nd (lookup_relabel_local S.hx) I1 T st1 (fun b hb=>hf1 b (Fj _ hb)) (hf1 _ wO) hDf ⟨0,UG _ _ gD3⟩ (yg _ _ _ _ _ _) (helt _ _ _ _ _ _) hW rfl ?_
  intro s' H' acc its _ J1 X4 va hlen nD z;have u1:Un (frs X.stack) (s.heap.objs.size::fp) H H' h3 s'.heap:=J1.base
  have J2:Inv X pins σ H' s':=Inv.call' (s:={ s with heap:=h3 }) hI3 J1.os u1 J1.hok J1.bare fun b hb=>by
   obtain⟨_,f1,_,f3,f4,f5⟩:=inj b hb;exact⟨f3,f1,f4,f5⟩
  obtain⟨m,hn,_⟩:=J1.loc;exact hRR s' H' acc its _ _ m J2 X4 va hlen ⟨nD,fD.2⟩ ⟨J1.free,fC.2⟩ hDC hn z
 exact codeAny_compStart_list loop (T.self _ 0 _ _ _ st1 loop)
theorem yT(hc:X.calm=true)(S:bK X.env.scope X.N scope x aj)(hi:PI X (.Name x px) iter wi)
  (yg:∀ C s H ex pn E,J0 (cW X (x::aj.map (·.2)) scope C s H ex pn E) ifs tc) (helt:∀ C s H ex pn E,PE (cW X (x::aj.map (·.2)) scope C s H ex pn E) elt te)
  (hs:∀ x,foldedSetIterable iter X.env x=pure x:=by intro _;rfl):PE X (.ListComp elt [⟨.Name x px,iter,ifs,0⟩] scope pos) (RG wi aj tc te):=by intro pins s σ H Q I h;have hfree:∀ y∈scope.names,y.2 = .free->∃ c,X.env.cells.lookup y.1=some c:=fun y hy e=>I.ok.has y.1 (S.free y hy e);rw[eval_ListComp];refine wpAny_comprehension_free (use:=none) rfl hs (rD hfree) S.kind S.Tg (bI (hi pins s σ H _ I h) fun v _ h1=>bI h1 fun _ _ h2=>?_);obtain⟨_,_,_,J,_,e,I2,T,st2,f2,hW⟩:=h2;subst e;refine yw (RR:=fun acc C=>compPost (model X.prog X.w) X.A X.xe none (EP X pins σ Q) acc C) hc S I2 T st2 f2 yg helt hW ?_;intro s' H' acc its D C m J2 X4 va hlen fD fC hDC hn z;obtain⟨nD,gD⟩:=X4;refine⟨m,hn,fun h'' sb=>?_⟩;have J3:Inv X pins σ H' { s' with heap:=h'' }:=J2.turned (fun b _ hb e=>(sb.2 b hb).trans e) fC.1 fC.2.1 fC.2.2.2.1 fC.2.2.2.2.1 fC.2.2.2.2.2;exact⟨.ref D,upd H' D (.lst acc),J3.adopt fD ⟨hlen,its,nD,va,(sb.2 D hDC).trans gD⟩,rfl,z D fD.1⟩
theorem lg(hc:X.calm=true)(hN:X.N.Nodup)(hi':X.N[i]? = some y)(hy:Loc X.env.scope y)(S:bK X.env.scope X.N scope x aj)(hi:PI X (.Name x px) iter wi)
  (yg:∀ C s H ex pn E,J0 (cW X (x::aj.map (·.2)) scope C s H ex pn E) ifs tc) (helt:∀ C s H ex pn E,PE (cW X (x::aj.map (·.2)) scope C s H ex pn E) elt te)
  (hsw:swapsWith (.ListComp elt [⟨.Name x px,iter,ifs,0⟩] scope pos) (some (.Name y py)) spos.line X.env=pure true:=by rfl) (hs:∀ x,foldedSetIterable iter X.env x=pure x:=by intro _;rfl)
  (hfn:X.fn y=true∨X.env.scope.names.lookup y=some .local:=by ext z):PS X (.Assign [.Name y py] (.ListComp elt [⟨.Name x px,iter,ifs,0⟩] scope pos) spos) (RJ (RG wi aj tc te) (Ie i)):=by
 intro pins s σ H D0 I h;have hfree:∀ y∈scope.names,y.2 = .free->∃ c,X.env.cells.lookup y.1=some c:=fun y hy e=>I.ok.has y.1 (S.free y hy e);rw[exec_Assign_Name_used _ _ _ _ hsw];refine aS (wpAny_standAt (aS ?_));show wpAny _ _ (do let _ ← comprehension (.ListComp elt [⟨.Name x px,iter,ifs,0⟩] scope pos) scope X.env _ (newList []) false (eval iter X.env) (some (assign (.Name y py) X.env))) _ _ s
 refine aS (bX (wpAny_comprehension_free (use:=some (assign (.Name y py) X.env)) (Q:=fun _ s'=>SP X pins D0 .next s') rfl hs (rD hfree) S.kind S.Tg
  (bI (hi pins s σ H _ I h) fun v _ h1=>bI h1 fun _ _ h2=>?_)) (fun _ s' hq=>aT (aT hq)) fun _ _ e=>e)
 obtain⟨_,_,_,J,_,e,I2,T,st2,f2,hW⟩:=h2;subst e;refine yw (RR:=fun acc C=>compPost (model X.prog X.w) X.A X.xe (some (assign (.Name y py) X.env)) (fun _ s'=>SP X pins D0 .next s') acc C) hc S I2 T st2 f2 yg helt hW ?_;intro s' H' acc its D C m J2 X4 va hlen fD fC hDC hn z;obtain⟨nD,gD⟩:=X4;have J3:Inv X pins σ (upd H' D (.lst acc)) s':=J2.adopt fD ⟨hlen,its,nD,va,gD⟩;show wpAny _ _ (assign (.Name y py) X.env (.ref D)) _ _ s';refine wpAny_assign_Name (uQ J3 hN hi' hy (show RelV (.ref D) (.ref D) from rfl) (fun _ J4 ⟨a,sa,ha⟩=>?_) hfn)
 have hCa:C≠a:=by
  rcases ha with q | q
  .rw[q];exact fC.2.1
  .exact (fC.2.2.2.2.1 y a q).symm
 refine⟨m,hn.sameBut sa hCa,fun _ sb=>?_⟩;exact⟨_,_,J4.turned (fun b _ hb e=>(sb.2 b hb).trans e) (by rw[zQ (bt hDC)];exact fC.1) fC.2.1 fC.2.2.2.1 fC.2.2.2.2.1 fC.2.2.2.2.2,z D fD.1⟩
theorem Ex(n:Nat)(Pv:Nat->ay V->Hp->Prop)(h0:Pv 0 [] H1)(hd:∀ acc H,Pv n acc H->J.stop n H/\Z acc H)
  (hs:∀ i acc H,i<n->Pv i acc H->J.go i H/\∀ x H',J.WD i H x H'->tc (some x::cs) H' fun b H2=>if b=true then te (some x::cs) H2 fun v H3=>acc.length<sizeLine/\Pv (i+1) (acc++[v]) H3 else Pv (i+1) acc H2) :
  jm J cs tc te H1 Z:=by
 refine⟨fun i m acc H=>m=n-i/\i<=n/\Pv i acc H,⟨n,by simp,Nat.zero_le _,h0⟩,?_⟩;rintro i m acc H ⟨rfl,_,p⟩
 by_cases hlt:i<n
 .obtain⟨g,y⟩:=hs i acc H hlt p;exact .inr ⟨g,Pv (i+1),fun a H' q=>⟨n-(i+1),by lia,rfl,hlt,q⟩,y⟩
 .have e:i=n:=by lia
  subst e;exact .inl (hd acc H p)
theorem gq{lo:Int}{n:Nat}{cs:St}{tc:TT}{te:TE}{H1:Hp}{Z:ay V->Hp->Prop}(Pv:Nat->ay V->Hp->Prop)(h0:Pv 0 [] H1)
  (hs:∀ i acc H,i<n->Pv i acc H->tc (some (.int (lo+i))::cs) H fun b H2=>if b=true then te (some (.int (lo+i))::cs) H2 fun v H3=>acc.length<sizeLine/\Pv (i+1) (acc++[v]) H3 else Pv (i+1) acc H2)
  (hd:∀ acc H,Pv n acc H->Z acc H):jm (Ye lo n) cs tc te H1 Z:=
 Ex n Pv h0 (fun acc H p=>⟨bN _,hd acc H p⟩) fun i acc H hi p=>⟨hi,fun x _ y=>by
  obtain⟨e,y⟩:=y;subst e y
  exact hs i acc _ hi p⟩
theorem yS{K:cL}{a:av}{xs:ay V}{cs:St}{tc:TT}{te:TE}{H1:Hp}{Z:ay V->Hp->Prop}(Pv:Nat->ay V->Hp->Prop)(h0:Pv 0 [] H1)(hl:∀ i acc H,Pv i acc H->aV K H a xs)
  (hs:∀ i x acc H,xs[i]? = some x->Pv i acc H->tc (some x::cs) H fun b H2=>if b=true then te (some x::cs) H2 fun v H3=>acc.length<sizeLine/\Pv (i+1) (acc++[v]) H3 else Pv (i+1) acc H2)
  (hd:∀ acc H,Pv xs.length acc H->Z acc H):jm (Itl K a) cs tc te H1 Z:=
 Ex xs.length Pv h0 (fun acc H p=>⟨⟨xs,hl _ _ _ p,Nat.le_refl _⟩,hd acc H p⟩) fun i acc H hi p=>⟨⟨xs,xs[i],hl _ _ _ p,by simp [hi]⟩,fun x _ y=>by
  obtain⟨e,y⟩:=y;subst e
  exact hs i x acc _ (y xs (hl _ _ _ p)) p⟩
theorem jJ{K:cL}{a:av}{xs:ay V}{cs:St}{tc:TT}{te:TE}{H1:Hp}{Z:ay V->Hp->Prop}(Pv:Nat->ay V->Hp->Prop)(h0:Pv 0 [] H1)(hl:∀ i acc H,Pv i acc H->aM K H a xs)
  (hs:∀ i x acc H,xs[i]? = some x->Pv i acc H->tc (some x::cs) H fun b H2=>if b=true then te (some x::cs) H2 fun v H3=>acc.length<sizeLine/\Pv (i+1) (acc++[v]) H3 else Pv (i+1) acc H2)
  (hd:∀ acc H,Pv xs.length acc H->Z acc H):jm (Itt K a) cs tc te H1 Z:=
 Ex xs.length Pv h0 (fun acc H p=>⟨⟨xs,hl _ _ _ p,Nat.le_refl _⟩,hd acc H p⟩) fun i acc H hi p=>⟨⟨xs,xs[i],hl _ _ _ p,by simp [hi]⟩,fun x _ y=>by
  obtain⟨e,y⟩:=y;subst e
  exact hs i x acc _ (y xs (hl _ _ _ p)) p⟩
def JR(z:Str):It:=⟨fun i _=>i<z.cps.size,fun i H x H'=>H'=H/\∃ c,z.cps[i]? = some c/\x = .str ⟨#[c]⟩,fun i _=>z.cps.size<=i⟩
theorem Rh:SlR X (fun x lo hi H Q => ∃ z,x = .str z/\z.length<=sizeLine/\Q (.str (Txt.slice z lo hi)) H):=by
 intro pins s σ H x v _ _ lo hi sl Q I rx hs pl pu h;obtain⟨z,rfl,hz,q⟩:=h;obtain⟨t,rfl⟩:=rx
 have fin:∀ l u,s.heap.IsSlice sl l u none->l.map (·.1)=lo->u.map (·.1)=hi->wpAny (model X.prog X.w) X.A (getItem (.str z t) (.ref sl)) (EP X pins σ Q) X.xe s:=fun l u h1 h2 h3=>by
  subst h2 h3;exact wpAny_getItem_str_slice h1 rfl (post_val_or_str ⟨bq (Txt.slice_le z _ _) hz,fun _ k=>⟨.str _,H,I.tok _,⟨_,rfl⟩,q⟩⟩)
 refine⟨"str",_,F.slot_str_getitem.lookup,typeIs_str _ _ _,?_⟩
 cases pl with
 | none=>
  cases pu with
  | none=>exact fin none none hs rfl rfl
  | int j uj=>exact fin none (some (j,uj)) hs rfl rfl
 | int i ui=>
  cases pu with
  | none=>exact fin (some (i,ui)) none hs rfl rfl
  | int j uj=>exact fin (some (i,ui)) (some (j,uj)) hs rfl rfl
theorem lM(h0:0<=i)(h1:i<(xs.length:Int)):∃ v∈xs,rK xs i=some v:=by
 have hk:i.toNat<xs.length:=by lia
 have e:=gM hk;refine⟨xs[i.toNat],jT hk,?_⟩;have q:=yQ e;rw[eI h0]at q;exact q
theorem Oi{ns:ay Int}{i:Int}(h0:0<=i)(h1:i<(ns.length:Int)):∃ v:Int,rK (ns.map V.int) i=some (.int v):=by obtain⟨v,hv,e⟩:=lM (xs:=ns.map V.int) h0 (by rw[bh];exact h1);obtain⟨n,_,rfl⟩:=dU.mp hv;exact⟨n,e⟩
theorem zI(h:n<=1000):n<=sizeLine:=hU (zV h)
theorem qAO(x:Int):Builtin.bitAnd x 2147483647=x%2147483648:=PySem.W.kbt_mask x 31
theorem Z4(x:Int):0<=Builtin.bitAnd x 2147483647/\Builtin.bitAnd x 2147483647<2147483648:=by rw[qAO];lia
section
variable{X:Cx}{st:Stmt}{rest:ay Stmt}{t u:TS}
def qCI(t u:TS):TS:=fun D σ H => ∃ M:St->Hp->Prop,t { D with nx:=M } σ H/\∀ σ' H',M σ' H'->u D σ' H'
theorem zZ(h1:PS X st t)(h2:FT X rest u):FT X (st::rest) (qCI t u):=by
 intro pins s σ H D I h;obtain⟨M,h,hM⟩:=h;refine wpAny_execs_cons (bI (h1 pins s σ H { D with nx:=M } I h) fun f s1 q=>?_)
 cases f with
 | next=>
  obtain⟨σ',H',I',q⟩:=q;exact h2 pins s1 σ' H' D I' (hM σ' H' q)
 | ret v=>exact q
 | brk=>exact q
 | cont=>exact q
end
theorem zF(h:H p=none)(o:HO):aG H (upd H p o):=fun b u q=>by rw[zQ (zM q h)];exact q
def qCH(t:TE):TE:=fun σ H Q => ∃ M:VK,t σ H M/\∀ v H',M v H'->Q v H'
theorem oK(h:PE X e t):PE X e (qCH t):=by intro pins s σ H Q I ⟨M,hM,hQ⟩;exact bI (h pins s σ H M I hM) fun u _ ⟨v,H',I',r,m⟩=>⟨v,H',I',r,hQ v H' m⟩
def qCG(t:TT):TT:=fun σ H Q => ∃ M:Bool->Hp->Prop,t σ H M/\∀ b H',M b H'->Q b H'
theorem bj(h:PT X e t):PT X e (qCG t):=by intro pins s σ H Q I ⟨M,hM,hQ⟩;exact bI (h pins s σ H M I hM) fun b _ ⟨H',I',m⟩=>⟨H',I',hQ b H' m⟩
end L2
namespace L2
open PySem
theorem fJ(kind:sc.kind = .function:=by rfl)(co:sc.isCoroutine=false:=by rfl)(gen:sc.isGenerator=false:=by rfl)(nd:N.Nodup:=by ext y)(pre:N.take P.length=P:=by rfl)
  (par:∀ x∈P,sc.names.lookup x=some .local∨sc.names.lookup x=some .cell:=by ext y) (KY:∀ y∈sc.names,y.2≠.free:=by ext y):aH N P sc:=⟨kind,co,gen,nd,pre,par,KY⟩
theorem vm(kind:scope.kind = .function:=by rfl)(hx:scope.names.lookup x=some .local:=by rfl)(Bt:∀ y∈scope.names,y.2≠.cell:=by ext y)
  (Tg:∀ y∈scope.names,y.2 = .local->scope.names.lookup y.1=some .local:=by ext y) (free:∀ y∈scope.names,y.2 = .free->osc.names.lookup y.1=some .cell∨osc.names.lookup y.1=some .free:=by ext y)
  (cap:∀ p∈aj,N[p.1]? = some p.2/\scope.names.lookup p.2=some .free:=by ext y) (nd:(x::aj.map (·.2)).Nodup:=by ext y):bK osc N scope x aj:=⟨kind,hx,Bt,Tg,free,cap,nd⟩
structure Dp(P:Program)(w:World)(K:cL)(mg:Str->Option Value)(base:Heap)(CX:Lw)(n:Nat)(f:Addr)(d:FuncData)(ps:List Str)(sp:Sp)(x:Str):Prop where
 G:aO P w K mg base CX n f d ps sp
 b:Binds K d ps []
 k:KI K f
 m:mg x=some (.ref f)
theorem pC(D:Dp X.prog X.w X.K X.mg X.base aa k f fd ps sp x)(hr:fK k X.A)(ha:PA X (e::es) t)(hg:Gl X x:=by rfl)(hdb:(x==("__debug__" : Str))=false:=by decide)(he:starEach (e::es) X.env=(false,eval e X.env)::starEach es X.env:=by rfl)(hpl:(backTo pos (starEach es X.env)).any (·.1)=false:=by rfl) :
  PE X (.Call (.Name x p) (e::es) [] pos) (Yr sp [] E0 t):=zJ D.G hr hg D.m D.k D.b .nil yE ha hdb he hpl
end L2
namespace HT
open PySem PySem.Spec PyProof.Rows
end HT
namespace L2
open PySem PySem.Spec PyProof.Rows
section
variable{κ:Type} [DecidableEq κ]
noncomputable def cM(kvs:ay (κ×V))(k:κ):aE V:=(kvs.find? fun kv=>decide (kv.1=k)).map (·.2)
noncomputable def putK(kvs:ay (κ×V))(k:κ)(v:V):ay (κ×V):=
 if (kvs.any fun kv=>decide (kv.1=k))=true then kvs.map (fun kv=>if kv.1=k then (kv.1,v) else kv) else kvs++[(k,v)]
theorem c7{p:κ×V}{r:ay (κ×V)}{k:κ}(e:p.1=k):cM (p::r) k=some p.2:=by simp [cM,List.find?_cons,e]
theorem cA{p:κ×V}{r:ay (κ×V)}{k:κ}(e:¬ p.1=k):cM (p::r) k=cM r k:=by simp [cM,List.find?_cons,e]
theorem jy(k:κ):∀ kvs:ay (κ×V),(kvs.any fun kv=>decide (kv.1=k))=(cM kvs k).isSome
 | []=>rfl
 | p::r=>by
  rw[eK]
  by_cases e:p.1=k
  .simp only[c7 e,decide_eq_true e,Bool.true_or,Option.isSome_some]
  .rw[cA e,bo e,Bool.false_or];exact jy k r
theorem Fy(k j:κ)(y:V):∀ kvs:ay (κ×V),cM (kvs.map fun kv=>if kv.1=k then (kv.1,y) else kv) j=(cM kvs j).map fun x=>if j=k then y else x
 | []=>rfl
 | p::r=>by
  have ih:=Fy k j y r;rw[br]
  by_cases h:p.1=k
  .rw[cE h]
   by_cases e:p.1=j
   .rw[c7 (p:=(p.1,y)) e,c7 e,jS,cE (e.symm.trans h)]
   .rw[cA (p:=(p.1,y)) e,cA e,ih]
  .rw[cy h]
   by_cases e:p.1=j
   .rw[c7 (p:=p) e,c7 e,jS,cy (fun z=>h (e.trans z))]
   .rw[cA (p:=p) e,cA e,ih]
theorem BJ(k j:κ)(y:V):∀ kvs:ay (κ×V),cM kvs k=none->cM (kvs++[(k,y)]) j=if j=k then some y else cM kvs j
 | [],_=>by
  by_cases e:k=j
  .rw[cE e.symm];exact c7 (p:=(k,y)) e
  .rw[cy (fun z=>e z.symm)];exact cA (p:=(k,y)) e
 | p::r,hn=>by
  rw[List.cons_append]
  have hk:¬ p.1=k:=fun z=>by rw[c7 z]at hn;cases hn
  rw[cA hk]at hn;have ih:=BJ k j y r hn
  by_cases e:p.1=j
  .rw[c7 e,c7 e,cy (fun z=>hk (e.trans z))]
  .rw[cA e,cA e,ih]
theorem R3(kvs:ay (κ×V))(k j:κ)(y:V):cM (putK kvs k y) j=if j=k then some y else cM kvs j:=by
 unfold putK
 by_cases a:(kvs.any fun kv=>decide (kv.1=k))=true
 .rw[cE a,Fy];rw[jy]at a
  by_cases e:j=k
  .obtain⟨x,hx⟩:=jv.mp a;rw[cE e,e,hx,jS,cE rfl]
  .rw[cy e]
   cases cM kvs j with
   | none=>rfl
   | some x=>rw[jS,cy e]
 .rw[cy a];refine BJ k j y kvs ?_;rw[jy]at a
  cases q:cM kvs k with
  | none=>rfl
  | some x=>rw[q]at a;exact (a rfl).elim
theorem oV(kvs:ay (κ×V))(k:κ)(v:V):(putK kvs k v).length<=kvs.length+1:=by
 unfold putK
 split
 .rw[bh];omega
 .rw[dj,cY,fi];omega
theorem Gq{kvs:ay (κ×V)}{k:κ}(v:V)(h:cM kvs k=none):putK kvs k v=kvs++[(k,v)]:=by unfold putK;rw[jy,h];exact cy (by decide)
theorem jr.uy{o:aE V}{u:aE ax}(r:jr o u):o.isSome=u.isSome:=by
 cases o with
 | none=>cases u with
  | none=>rfl
  | some _=>exact (show False from r).elim
 | some _=>cases u with
  | none=>exact (show False from r).elim
  | some _=>rfl
theorem jr.getD{o:aE V}{u:aE ax}{d:V}{d':ax}(r:jr o u)(rd:RelV d d'):RelV (o.getD d) (u.getD d'):=by
 cases o with
 | none=>cases u with
  | none=>exact rd
  | some _=>exact (show False from r).elim
 | some _=>cases u with
  | none=>exact (show False from r).elim
  | some _=>exact r
theorem KV.val{kvs:ay (κ×V)}{vs:ay (κ×ax)}(r:KV kvs vs)(k:κ):jr (cM kvs k) (valueAt vs k):=by
 unfold KV at r
 induction r with
 | nil=>exact dE
 | @cons p q ps qs h t ih=>
  obtain⟨h1,h2⟩:=h
  by_cases e:p.1=k
  .have e':q.1=k:=h1.symm.trans e
   have b:valueAt (q::qs) k=some q.2:=by simp [valueAt,List.find?_cons,e']
   rw[c7 e,b];exact h2
  .have e':¬ q.1=k:=fun z=>e (h1.trans z)
   have b:valueAt (q::qs) k=valueAt qs k:=by simp [valueAt,List.find?_cons,e']
   rw[cA e,b];exact ih
theorem KV.any{kvs:ay (κ×V)}{vs:ay (κ×ax)}(r:KV kvs vs)(k:κ):(kvs.any fun kv=>decide (kv.1=k))=vs.any fun kv=>decide (kv.1=k):=by
 unfold KV at r
 induction r with
 | nil=>rfl
 | cons h t ih=>rw[eK,eK,ih,h.1]
theorem KV.repl{kvs:ay (κ×V)}{vs:ay (κ×ax)}(r:KV kvs vs)(k:κ){y:V}{u:ax}(ry:RelV y u) :
  KV (kvs.map fun kv=>if kv.1=k then (kv.1,y) else kv) (vs.map fun kv=>if kv.1=k then (kv.1,u) else kv):=by
 unfold KV at r ⊢
 induction r with
 | nil=>exact .nil
 | @cons p q ps qs h t ih=>
  rw[br,br];refine .cons ?_ ih;obtain⟨h1,h2⟩:=h
  by_cases e:p.1=k
  .rw[cE e,cE (h1.symm.trans e)];exact⟨h1,ry⟩
  .rw[cy e,cy (fun z=>e (h1.trans z))];exact⟨h1,h2⟩
theorem KV.put{kvs:ay (κ×V)}{vs:ay (κ×ax)}(r:KV kvs vs)(k:κ){y:V}{u:ax}(ry:RelV y u):KV (putK kvs k y) (stored vs k u):=by
 unfold putK stored;rw[r.any k]
 by_cases e:(vs.any fun kv=>decide (kv.1=k))=true
 .rw[cE e,cE e];exact r.repl k ry
 .rw[cy e,cy e];exact Paired.snoc r ⟨rfl,ry⟩
theorem KV.keys{kvs:ay (κ×V)}{vs:ay (κ×ax)}(r:KV kvs vs):kvs.map (·.1)=vs.map (·.1):=by
 unfold KV at r
 induction r with
 | nil=>rfl
 | cons h t ih=>rw[br,br,ih,h.1]
theorem KV.length{kvs:ay (κ×V)}{vs:ay (κ×ax)}(r:KV kvs vs):kvs.length=vs.length:=Paired.length r
end
theorem yc{P:ag}{w:aI}{k:Key}{u:ax}(r:RelV (kV k) u):(bQ P w).is k u=true:=by
 cases k with
 | inl i=>obtain⟨t,e⟩:=(show ∃ t,u=Value.int i t from r);subst e;exact Hg P w i t
 | inr x=>obtain⟨t,e⟩:=(show ∃ t,u=Value.str x t from r);subst e;exact Hf P w x t
theorem CN{P:ag}{w:aI}:∀ {ks:ay Key} {us:ay ax},Vals (ks.map kV) us->ItemsAre (bQ P w) ks us
 | [],_,r=>by rw[fq]at r;cases r;exact .nil
 | k::ks,_,r=>by
  rw[br]at r
  cases r with
  | cons h t=>exact .cons (yc h) (CN t)
abbrev KT(H:Hp):ay (ay Key×V)->ay (ay Key×av×ax)->Prop:=Paired fun p q=>p.1=q.1/\H q.2.1=some (.tup (p.1.map kV))/\RelV p.2 q.2.2
theorem KT.val{H:Hp}{kvs:ay (ay Key×V)}{xs:ay (ay Key×av×ax)}(r:KT H kvs xs)(k:ay Key):jr (cM kvs k) ((atKey xs k).map (·.2)):=by
 induction r with
 | nil=>exact dE
 | @cons p q ps qs h t ih=>
  obtain⟨h1,_,h2⟩:=h
  by_cases e:p.1=k
  .have e':q.1=k:=h1.symm.trans e
   have b:atKey (q::qs) k=some q.2:=by simp [atKey,List.find?_cons,e']
   rw[c7 e,b];exact h2
  .have e':¬ q.1=k:=fun z=>e (h1.trans z)
   have b:atKey (q::qs) k=atKey qs k:=by simp [atKey,List.find?_cons,e']
   rw[cA e,b];exact ih
theorem KT.repl{H:Hp}{kvs:ay (ay Key×V)}{xs:ay (ay Key×av×ax)}(r:KT H kvs xs)(k:ay Key){y:V}{u:ax}(ry:RelV y u) :
  KT H (kvs.map fun kv=>if kv.1=k then (kv.1,y) else kv) (xs.map (putAt k u)):=by
 induction r with
 | nil=>exact .nil
 | @cons p q ps qs h t ih=>
  rw[br,br];refine .cons ?_ ih;obtain⟨h1,h2,h3⟩:=h;unfold putAt
  by_cases e:p.1=k
  .rw[cE e,cE (h1.symm.trans e)];exact⟨h1,h2,ry⟩
  .rw[cy e,cy (fun z=>e (h1.trans z))];exact⟨h1,h2,h3⟩
theorem KT.put{H:Hp}{kvs:ay (ay Key×V)}{xs:ay (ay Key×av×ax)}(r:KT H kvs xs)(k:ay Key){b:av}{y:V}{u:ax}(hb:H b=some (.tup (k.map kV)))(ry:RelV y u) :
  KT H (putK kvs k y) (storedH xs k b u):=by
 have e:(kvs.any fun kv=>decide (kv.1=k))=(atKey xs k).isSome:=by
  rw[jy,(r.val k).uy,Option.isSome_map]
 unfold putK storedH;rw[e]
 by_cases q:(atKey xs k).isSome=true
 .rw[cE q,cE q];exact r.repl k ry
 .rw[cy q,cy q];exact Paired.snoc r ⟨rfl,hb,ry⟩
theorem KT.keeps{H H':Hp}{kvs:ay (ay Key×V)}{xs:ay (ay Key×av×ax)}(r:KT H kvs xs)(ht:∀ b ys,H b=some (.tup ys)->H' b=some (.tup ys)):KT H' kvs xs:=
 Paired.qAP r fun _ _ z=>⟨z.1,ht _ _ z.2.1,z.2.2⟩
section
variable{P:ag}{w:aI}{H:Hp}{h:Heap}{a:av}
theorem Yv{u:HO}(ok:jO P w H h)(e:Rd H a u):bW P w H h a u:=e.ok ok
theorem Ca{kvs:ay (Key×V)}(ok:jO P w H h)(e:Rd H a (.dK kvs)):kvs.length<=sizeLine/\(a==sysModules)=false/\∃ vs,KV kvs vs/\h.DictOf (bQ P w) a vs:=
 show bW P w H h a (.dK kvs) from Yv ok e
theorem V7{kvs:ay (Key×V)}(ok:jO P w H h)(e:H a=some (.dK kvs)):kvs.length<=sizeLine/\(a==sysModules)=false/\∃ vs,KV kvs vs/\h.DictOf (bQ P w) a vs:=Ca ok (.inl e)
theorem yZ{ks:ay Key}(ok:jO P w H h)(e:H a=some (.tup (ks.map kV))):(tupleKind (bQ P w)).is h ks a:=by obtain⟨_,its,r,o,h1,h2,n,h3⟩:=(show bW P w H h a (.tup (ks.map kV)) from ok a _ e);exact⟨o,its.toArray,n,h1,h2,h3,by simpa using CN r⟩
theorem CZ{kvs:ay (ay Key×V)}(ok:jO P w H h)(e:Rd H a (.dT kvs)):kvs.length<=sizeLine/\(a==sysModules)=false ∧
  ∃ xs,KT H kvs xs/\h.DictOfH (tupleKind (bQ P w)) a xs:=by
 obtain⟨z,y,xs,r,o,es,ep,h1,h2,h3,h4,h5⟩:=(show bW P w H h a (.dT kvs) from Yv ok e);refine⟨z,y,xs,r,o,es,ep,h1,h2,h3,h4,fun x hx=>?_,h5⟩
 have all:∀ {l:ay (ay Key×V)} {m:ay (ay Key×av×ax)},KT H l m->∀ x∈m,(tupleKind (bQ P w)).is h x.1 x.2.1:=by
  intro l m q
  induction q with
  | nil=>intro x hx;exact nomatch hx
  | @cons p q ps qs hq t ih=>
   intro x hx;rcases bL.mp hx with e | hx
   .subst e;exact yZ ok (by rw[<-hq.1];exact hq.2.1)
   .exact ih x hx
 exact all r x hx
theorem qFU{kvs:ay (ay Key×V)}(ok:jO P w H h)(e:H a=some (.dT kvs)):kvs.length<=sizeLine/\(a==sysModules)=false ∧
  ∃ xs,KT H kvs xs/\h.DictOfH (tupleKind (bQ P w)) a xs:=CZ ok (.inl e)
end
def uI(H:Hp)(a:av)(y:V)(r:aE V):Prop:=
 (∃ kvs k,Rd H a (.dK kvs)/\y=kV k/\r=cM kvs k) ∨ ∃ kvs k b,Rd H a (.dT kvs)/\y = .ref b/\H b=some (.tup (k.map kV))/\r=cM kvs k
def Qp(H:Hp)(a:av)(y v:V)(H':Hp):Prop:=
 (∃ kvs k,H a=some (.dK kvs)/\y=kV k/\kvs.length<sizeLine/\H'=upd H a (.dK (putK kvs k v))) ∨
 ∃ kvs k b,H a=some (.dT kvs)/\y = .ref b/\H b=some (.tup (k.map kV))/\kvs.length<sizeLine/\H'=upd H a (.dT (putK kvs k v))
theorem uI.k{H:Hp}{a:av}{kvs:ay (Key×V)}{k:Key}(e:H a=some (.dK kvs)):uI H a (kV k) (cM kvs k):=.inl ⟨kvs,k,.inl e,rfl,rfl⟩
theorem Qp.k{H:Hp}{a:av}{kvs:ay (Key×V)}{k:Key}{v:V}(e:H a=some (.dK kvs))(hl:kvs.length<sizeLine):Qp H a (kV k) v (upd H a (.dK (putK kvs k v))):=.inl ⟨kvs,k,e,rfl,hl,rfl⟩
section
variable{X:Cx}{pins:ay (av×Obj)}{σ:St}{H:Hp}{s:ae}{a:av}{y v:V}{u r:ax}{o:aE V}{A:ai}{E:ax->ae->Prop}
theorem Inv.big(I:Inv X pins σ H s):sysModules<s.heap.objs.size:=by have h:mainGlobals<s.heap.objs.size:=(I.mod.glob.keeps I.bk).lt;exact Nat.lt_trans (by decide) h
theorem QS{Q:ax->ae->Prop}(hu:A.units+1<cLine)(I:Inv X pins σ H s)(g:uI H a y (some v))(ry:RelV y u)(h:∀ w' s',Inv X pins σ H s'->RelV v w'->Q w' s') :
  wpAny (model X.prog X.w) A (getItem (.ref a) u) Q E s:=by
 rcases g with ⟨kvs,k,e,ey,l⟩ | ⟨kvs,k,b,e,ey,eb,l⟩
 .subst ey;obtain⟨z,hd,vs,rel,dd⟩:=Ca I.hok e;obtain⟨w',hw,PB⟩:=jr.some_of (v:=v) (o:=valueAt vs k) (by rw[l];exact rel.val k);exact wpAny_getItem_of (yc ry) dd.mapOf hw (h w' _ (I.tok _) PB)
 .subst ey
  cases (show u=Value.ref b from ry)
  obtain⟨z,hd,xs,rel,dd⟩:=CZ I.hok e;obtain⟨w',hw,PB⟩:=jr.some_of (v:=v) (o:=(atKey xs k).map (·.2)) (by rw[l];exact rel.val k);obtain⟨p,hp,hp2⟩:=jI.mp hw;refine wpAny_getItem_heap (tupleKind_room_in1 hu) (yZ I.hok eb) dd hp ?_;rw[hp2];exact h w' _ (I.tok _) PB
theorem YM{Q:ax->ae->Prop}(hu:A.units+1<cLine)(I:Inv X pins σ H s)(g:uI H a y o)(ry:RelV y u)(h:∀ s',Inv X pins σ H s'->Q (.bool (!o.isSome)) s') :
  wpAny (model X.prog X.w) A (compareOp .NotIn u (.ref a)) Q E s:=by
 rcases g with ⟨kvs,k,e,ey,l⟩ | ⟨kvs,k,b,e,ey,eb,l⟩
 .subst ey;obtain⟨z,hd,_,rel,dd⟩:=Ca I.hok e;refine wpAny_notIn_of (yc ry) hd dd.mapOf ?_;rw[<-(rel.val k).uy,<-l];exact h _ (I.tok _)
 .subst ey
  cases (show u=Value.ref b from ry)
  obtain⟨z,hd,_,rel,dd⟩:=CZ I.hok e;refine wpAny_notIn_heap (tupleKind_room_in1 hu) (yZ I.hok eb) hd dd ?_;have q:=(rel.val k).uy;rw[Option.isSome_map]at q;rw[<-q,<-l];exact h _ (I.tok _)
theorem tX{h':Heap}{t':Nat}{ob:HO}(I:Inv X pins σ H s)(mu:Mut (H a))(hs:Heap.SameBut a s.heap h')(he:∃ q,h'.get? a=some q)(new:bW X.prog X.w (upd H a ob) h' a ob) :
  Inv X pins σ (upd H a ob) { s with heap:=h',toks:=t' }:=
 I.write (x:=a) (e:=a) mu (.inl rfl) (fun b q hb z=>(hs.2 b hb).trans z) he new
theorem V8{P:ag}{w:aI}{H':Hp}{h':Heap}{kvs:ay (Key×V)}{vs:ay (Key×ax)}(z:kvs.length<=sizeLine)(hd:(a==sysModules)=false)(rel:KV kvs vs)(dd:h'.DictOf (bQ P w) a vs) :
  bW P w H' h' a (.dK kvs):=⟨z,hd,vs,rel,dd⟩
theorem QR{H':Hp}{Q:Unit->ae->Prop}(hu:A.units+1<cLine)(I:Inv X pins σ H s)(g:Qp H a y v H')(ry:RelV y u)(rv:RelV v r)(h:∀ s',Inv X pins σ H' s'->Q () s') :
  wpAny (model X.prog X.w) A (setItem (.ref a) u r) Q E s:=by
 rcases g with ⟨kvs,k,e,ey,l,eH⟩ | ⟨kvs,k,b,e,ey,eb,l,eH⟩
 .subst ey eH;obtain⟨z,hd,vs,rel,dd⟩:=V7 I.hok e
  have hz:vs.length<=sizeLine:=by rw[<-rel.length];exact z
  have hl:(putK kvs k v).length<=sizeLine:=by have:=oV kvs k v;omega
  refine wpAny_setItem_pairs (hsz:=hz) (yc ry) dd fun h' Oa hs=>h _ ?_;have he:∃ q,h'.get? a=some q:=let ⟨q,_,_,hq,_⟩:=Oa;⟨q,hq⟩;exact tX I (by rw[e];exact dE) hs he (V8 hl hd (rel.put k rv) Oa)
 .subst ey eH
  cases (show u=Value.ref b from ry)
  obtain⟨z,hd,xs,rel,dd⟩:=qFU I.hok e
  have hz:xs.length<=sizeLine:=by rw[<-Paired.length rel];exact z
  have hl:(putK kvs k v).length<=sizeLine:=by have:=oV kvs k v;omega
  refine wpAny_setItem_heap (hsz:=hz) (tupleKind_room_in1 hu) (yZ I.hok eb) dd fun h' Oa hs=>h _ ?_;obtain⟨q,es,ep,hq,h2,h3,h4,_,h5⟩:=Oa;refine tX I (by rw[e];exact dE) hs ⟨q,hq⟩ ⟨hl,hd,_,(rel.put k eb rv).keeps fun c _ ec=>?_,q,es,ep,hq,h2,h3,h4,h5⟩;rw[zQ (cJ ec e (fun z=>nomatch z))];exact ec
end
section
variable{X:Cx}{pins:ay (av×Obj)}{σ:St}{H:Hp}{s:ae}{a:av}{kvs:ay (Key×V)}{k:Key}{u:ax}{A:ai}{E:ax->ae->Prop}
end
def qBT(i:Expr):Prop:=∀ ov iv,subscripted i false ov iv=operate [ov,iv] (getItem ov iv)
theorem M4{prog:ag}{w:aI}{A:ai}{E:ax->ae->Prop}{s:ae}{env:Env}{value slice:Expr}{pos:Pos}{T id:String}{Q:ax->ae->Prop}
  (hl:typeLookup (.type T) "__getitem__" = pure (some (.builtin id))) (hs:qBT slice)
  (h:wpAny (model prog w) A (eval value env) (fun o s₁=>wpAny (model prog w) A (eval slice env) (fun i s₂=>s₂.TypeIs o T/\wpAny (model prog w) A (getItem o i) Q E s₂) E s₁) E s) :
  wpAny (model prog w) A (eval (.Subscript value slice pos) env) Q E s:=by
 refine Subscript_ (bX h (fun o s₁ h₁=>bX h₁ (fun i s₂ h₂=>?_) fun _ _ x=>x) fun _ _ x=>x);obtain⟨hT,h₂⟩:=h₂;unfold subscriptTail;refine aS ?_;rw[getitemInPython_of_ne hT.not_modules];refine aS (wpAny_specialOf hT hl ?_)
 have fin:wpAny (model prog w) A (subscripted slice false o i) (fun r s₃=>wpAny (model prog w) A (letTemporaryGo value o r >>= fun _=>pure r) Q E s₃) E s₂:=by
  rw[hs o i];exact wpAny_operating (bX h₂ (fun r s₃ h₃=>aS (wpAny_letTemporaryGo (aT h₃))) fun _ _ x=>x)
 first
  | exact aT (aS fin)
  | exact aS (aT (aS fin))
  | exact aS fin
theorem Ik{X:Cx}{pins:ay (av×Obj)}{σ:St}{H:Hp}{s:ae}{a:av}{y:V}{o:aE V}(I:Inv X pins σ H s)(g:uI H a y o):s.TypeIs (.ref a) "dict" := by
 rcases g with ⟨kvs,k,e,_,_⟩ | ⟨kvs,k,b,e,_,_,_⟩
 .obtain⟨_,_,_,_,dd⟩:=Ca I.hok e;exact dd.typeIs
 .obtain⟨_,_,_,_,dd⟩:=CZ I.hok e;exact dd.typeIs
def qCF(td ty:TE):TE:=fun σ H Q=>td σ H fun x H1=>ty σ H1 fun y H2 => ∃ a v,x = .ref a/\uI H2 a y (some v)/\Q v H2
def WT(ty td:TE):TE:=fun σ H Q=>ty σ H fun y H1=>td σ H1 fun x H2 => ∃ a o,x = .ref a/\uI H2 a y o/\Q (.bl (!o.isSome)) H2
def qCX(td ty tv:TE):TS:=fun D σ H=>tv σ H fun v H1=>td σ H1 fun x H2=>ty σ H2 fun y H3 => ∃ a H4,x = .ref a/\Qp H3 a y v H4/\D.nx σ H4
section
variable{X:Cx}{o i e value:Expr}{pos pos' tpos:Pos}{td ty tv:TE}
theorem NB(hu:X.A.units+1<cLine)(ho:PE X o td)(hi:PE X i ty)(hs:qBT i):PE X (.Subscript o i pos) (qCF td ty):=by intro pins s σ H Q I h;refine M4 PySem.F.slot_dict_getitem.lookup hs (bI (ho pins s σ H _ I h) fun u s1 ⟨x,H1,I1,rx,q1⟩=>bI (hi pins s1 σ H1 _ I1 q1) fun _ _ ⟨y,H2,I2,ry,a,v,ex,g,q2⟩=>?_);subst ex;obtain rfl:u=Value.ref a:=rx;exact⟨Ik I2 g,QS hu I2 g ry fun _ _ I3 PB=>⟨v,H2,I3,PB,q2⟩⟩
theorem Bk(hu:X.A.units+1<cLine)(hi:PE X i ty)(ho:PE X o td):PC X .NotIn i o (WT ty td):=by intro pins s σ H Q I h;refine bI (hi pins s σ H _ I h) fun _ s1 ⟨y,H1,I1,ry,q1⟩=>bI (ho pins s1 σ H1 _ I1 q1) fun u _ ⟨x,H2,I2,rx,a,ov,ex,g,q2⟩=>?_;subst ex;obtain rfl:u=Value.ref a:=rx;exact YM hu I2 g ry fun _ I3=>⟨.bl (!ov.isSome),H2,I3,rfl,q2⟩
theorem Mz(hu:X.A.units+1<cLine)(ho:PE X o td)(hi:PE X i ty)(hv:PE X value tv)(hs:swapsWith value (some (.Subscript o i pos')) pos.line X.env=pure false) :
  PS X (.Assign [.Subscript o i pos'] value pos) (qCX td ty tv):=by intro pins s σ H D I h;refine wpAny_Assign_Subscript (bI (hv pins s σ H _ I h) fun r s1 ⟨v,H1,I1,rv,q1⟩=>bI (ho pins s1 σ H1 _ I1 q1) fun u s2 ⟨x,H2,I2,rx,q2⟩=>bI (hi pins s2 σ H2 _ I2 q2) fun _ _ ⟨y,_,I3,ry,a,H4,ex,g,q3⟩=>?_) hs;subst ex;obtain rfl:u=Value.ref a:=rx;exact QR hu I3 g ry rv fun _ I4=>⟨σ,H4,I4,q3⟩
end
theorem Ii{P:ag}{w:aI}{H:Hp}(h:Heap)(hb:sysModules<h.objs.size):bW P w H (h.push { cls:=.type "dict",data:=.dict #[] }) h.objs.size (.dK []):=
 ⟨bg _,dy.mpr (bt (lO hb)),[],.nil,Heap.DictOf.new h⟩
def Zk:TE:=fun _ H Q => ∀ p,H p=none->Q (.ref p) (upd H p (.dK []))
section
variable{X:Cx}{pos:Pos}
theorem SM:PE X (.Dict [] [] pos) Zk:=fun _ s σ H Q I h=>
 wpAny_Dict_empty ⟨.ref s.heap.objs.size,_,I.laid (a:=s.heap.objs.size) (o:=.dK []) (t':=s.toks) (fun _ _ q=>j8 _ q) (bN _) (Ii s.heap I.big),rfl,h _ (I.hok.fresh (bN _))⟩
end
def Jb:ay (TE×TE)->St->Hp->(ay (V×V)->Hp->Prop)->Prop
 | [],_,H,Q=>Q [] H
 | (tk,tv)::r,σ,H,Q=>tk σ H fun x H1=>tv σ H1 fun y H2=>Jb r σ H2 fun ps H3=>Q ((x,y)::ps) H3
abbrev VV:ay (V×V)->ay (ax×ax)->Prop:=Paired fun p q=>RelV p.1 q.1/\RelV p.2 q.2
def PPs(X:Cx)(pos:Pos)(keys:ay (aE Expr))(values:ay Expr)(WL:ay (TE×TE)):Prop:=
 ∀(pins:ay (av×Obj))(s:ae)(σ:St)(H:Hp)(Q:ay (V×V)->Hp->Prop),Inv X pins σ H s->Jb WL σ H Q →
  wpAny (model X.prog X.w) X.A (evalPairs (pairTrees keys values X.env pos)) (fun vs s'=>∃ ps H',Inv X pins σ H' s'/\VV ps vs/\Q ps H') X.xe s
theorem X3{X:Cx}{pos:Pos}:PPs X pos [] [] []:=fun _ s σ H Q I h=>pairTrees_nil_walk ⟨[],H,I,.nil,h⟩
theorem S7{X:Cx}{pos:Pos}{k v:Expr}{ks:ay (aE Expr)}{vs:ay Expr}{tk tv:TE}{WL:ay (TE×TE)}(hk:PE X k tk)(hv:PE X v tv)(hr:PPs X pos ks vs WL) :
  PPs X pos (some k::ks) (v::vs) ((tk,tv)::WL):=fun pins s σ H Q I h=>
 pairTrees_cons_walk (bI (hk pins s σ H _ I h) fun u s1 ⟨x,H1,I1,rx,q1⟩=>bI (hv pins s1 σ H1 _ I1 q1) fun _ s2 ⟨y,H2,I2,ry,q2⟩=>
  bI (hr pins s2 σ H2 _ I2 q2) fun _ _ ⟨ps,H3,I3,rel,q3⟩=>⟨(x,y)::ps,H3,I3,.cons ⟨rx,ry⟩ rel,q3⟩)
noncomputable def uo(kvs more:ay (Key×V)):ay (Key×V):=more.foldl (fun acc kv=>putK acc kv.1 kv.2) kvs
theorem KV.merge:∀ {more:ay (Key×V)} {rs:ay (Key×ax)} {kvs:ay (Key×V)} {vs:ay (Key×ax)},KV more rs->KV kvs vs->KV (uo kvs more) (merged vs rs):=by
 intro more rs kvs vs r;unfold KV at r
 induction r generalizing kvs vs with
 | nil=>intro q;exact q
 | @cons p q ps qs h t ih=>
  intro r0
  have e:KV (putK kvs p.1 p.2) (stored vs q.1 q.2):=by
   have:=r0.put p.1 h.2;rw[<-h.1];exact this
  exact ih e
theorem qd:∀(more kvs:ay (Key×V)),(uo kvs more).length<=kvs.length+more.length
 | [],kvs=>by show kvs.length<=kvs.length+0;omega
 | p::r,kvs=>by
  have h1:=qd r (putK kvs p.1 p.2);have h2:=oV kvs p.1 p.2;show (uo (putK kvs p.1 p.2) r).length<=_;rw[cY];omega
theorem yz{P:ag}{w:aI}:∀ {kvs:ay (Key×V)} {ws:ay (ax×ax)},VV (kvs.map fun kv=>(kV kv.1,kv.2)) ws->∃ rs,Carries (bQ P w) ws rs/\KV kvs rs
 | [],_,r=>by rw[fq]at r;cases r;exact⟨[],dE,.nil⟩
 | p::kvs,_,r=>by
  rw[br]at r
  cases r with
  | @cons a b as bs h t=>
   obtain⟨rs,c,q⟩:=yz (P:=P) (w:=w) t;obtain⟨_,b2⟩:=b;exact⟨(p.1,b2)::rs,⟨yc h.1,rfl,c⟩,.cons ⟨rfl,h.2⟩ q⟩
def Yq(WL:ay (TE×TE)):TE:=fun σ H Q => ∀ p,H p=none->Jb WL σ (upd H p (.dK [])) fun ps H2=>H2 p=some (.dK [])/\∃ kvs:ay (Key×V),ps=kvs.map (fun kv=>(kV kv.1,kv.2))/\kvs.length<=15/\Q (.ref p) (upd H2 p (.dK (uo [] kvs)))
theorem X8{X:Cx}{pos:Pos}{keys:ay (aE Expr)}{values:ay Expr}{WL:ay (TE×TE)}(h:PPs X pos keys values WL)(hall:keys.all (·.isSome)=true)(hl:keys.length=values.length)(h0:keys≠[])
  (h15:keys.length<=15):PE X (.Dict keys values pos) (Yq WL):=by
 intro pins s σ H Q I q;have hn:=I.hok.fresh (bN s.heap.objs.size);have I1:=I.laid (a:=s.heap.objs.size) (o:=.dK []) (h':=s.heap.push { cls:=.type "dict",data:=.dict #[] }) (t':=s.toks) (fun _ _ q=>j8 _ q) (bN _) (Ii s.heap I.big);refine wpAny_Dict_walk (knd:=bQ X.prog X.w) hall hl h0 h15 (bI (h pins _ σ _ _ I1 (q _ hn)) fun _ _ ⟨_,_,I2,rel,e,kvs,ep,_,q2⟩=>?_);subst ep;obtain⟨rs,c,rk⟩:=yz (P:=X.prog) (w:=X.w) rel;obtain⟨z,hd,_,r0,dd⟩:=V7 I2.hok e
 cases r0
 refine⟨rs,c,dd,fun h' Oa hs=>⟨.ref s.heap.objs.size,_,?_,rfl,q2⟩⟩
 have hz:(uo [] kvs).length<=sizeLine:=by
  have h1:=qd kvs [];rw[fi]at h1;rw[sizeLine_eq];omega
 have he:∃ q,h'.get? s.heap.objs.size=some q:=let ⟨q,_,_,hq,_⟩:=Oa;⟨q,hq⟩;exact tX I2 (by rw[e];exact dE) hs he (V8 hz hd (rk.merge .nil) Oa)
structure M1(X:Cx)(o:Expr)(m:Str)(apos:Pos)(e:Expr)(cpos:Pos):Prop where
 base:attributeBase o m X.env (eval o X.env)=eval o X.env
 few:((backTo cpos (starEach [e] X.env)).all (fun x => !x.1)&&(backToKw cpos (keywordEach [] X.env)).all (fun x=>x.1.isSome)
  && decide (([e]:List Expr).length+([]:List Keyword).length+(if ([]:List Keyword).isEmpty then 0 else 1)<30))=true
 line:(apos.endLine==cpos.line)=true
 trees:backTo cpos (starEach [e] X.env)=[(false,eval e X.env)]
structure M2(X:Cx)(o:Expr)(m:Str)(apos:Pos)(e f:Expr)(cpos:Pos):Prop where
 base:attributeBase o m X.env (eval o X.env)=eval o X.env
 few:((backTo cpos (starEach [e,f] X.env)).all (fun x => !x.1)&&(backToKw cpos (keywordEach [] X.env)).all (fun x=>x.1.isSome)
  && decide (([e,f]:List Expr).length+([]:List Keyword).length+(if ([]:List Keyword).isEmpty then 0 else 1)<30))=true
 line:(apos.endLine==cpos.line)=true
 trees:backTo cpos (starEach [e,f] X.env)=[(false,eval e X.env),(false,eval f X.env)]
def IsD(H:Hp)(a:av):Prop:=(∃ kvs,Rd H a (.dK kvs)) ∨ ∃ kvs,Rd H a (.dT kvs)
theorem qB1{X:Cx}{pins:ay (av×Obj)}{σ:St}{H:Hp}{s:ae}{a:av}(I:Inv X pins σ H s)(d:IsD H a) :
  s.TypeIs (.ref a) "dict" /\ (∀ b,Value.ref a = .ref b->∃ ob,s.heap.get? b=some ob/\ob.dict=none)/\(a==sysModules)=false:=by
 rcases d with ⟨kvs,e⟩ | ⟨kvs,e⟩
 .obtain⟨_,hd,_,_,dd⟩:=Ca I.hok e;refine⟨dd.typeIs,fun b q=>?_,hd⟩
  cases q
  obtain⟨ob,_,_,h1,h2,_⟩:=dd;exact⟨ob,h1,h2.2.1⟩
 .obtain⟨_,hd,_,_,dd⟩:=CZ I.hok e;refine⟨dd.typeIs,fun b q=>?_,hd⟩
  cases q
  obtain⟨ob,_,_,h1,h2,_⟩:=dd;exact⟨ob,h1,h2.2.1⟩
section
variable{X:Cx}{pins:ay (av×Obj)}{σ:St}{H:Hp}{s:ae}{a:av}{y d:V}{u r:ax}{o:aE V}{A:ai}{E:ax->ae->Prop}
theorem qBN{Q:ax->ae->Prop}(hu:A.units+1<cLine)(I:Inv X pins σ H s)(g:uI H a y o)(ry:RelV y u)(h:∀ w' s',Inv X pins σ H s'->RelV (o.getD .non) w'->Q w' s') :
  wpAny (model X.prog X.w) A (call (.builtin "dict.get") [.ref a,u]) Q E s:=by
 rcases g with ⟨kvs,k,e,ey,l⟩ | ⟨kvs,k,b,e,ey,eb,l⟩
 .subst ey;obtain⟨z,hd,_,rel,dd⟩:=Ca I.hok e;refine call_meetsIn ky dd.typeIs kq (ki _ _) (meets_dict_get (bQ X.prog X.w) a (yc ry) hd) ⟨_,dd.mapOf,h _ _ (I.tok _) ?_⟩;rw[l];exact (rel.val k).getD rfl
 .subst ey
  cases (show u=Value.ref b from ry)
  obtain⟨z,hd,xs,rel,dd⟩:=CZ I.hok e;refine call_meetsIn ky dd.typeIs kq (ki _ _) (meetsH_dict_get (tupleKind (bQ X.prog X.w)) a b hd) ⟨tupleKind_room_in1 hu,k,xs,yZ I.hok eb,dd,h _ _ (I.tok _) ?_⟩;rw[l];exact (rel.val k).getD rfl
end
def Zm(td ty:TE):TE:=fun σ H Q=>td σ H fun x H1 => ∃ a,x = .ref a/\IsD H1 a/\ty σ H1 fun y H2 => ∃ o,uI H2 a y o/\Q (o.getD .non) H2
section
variable{X:Cx}{o e f:Expr}{apos cpos:Pos}{td ty tx:TE}
theorem SQ(hu:X.A.units+1<cLine)(ho:PE X o td)(he:PE X e ty)(m:M1 X o "get" apos e cpos):PE X (.Call (.Attribute o "get" apos) [e] [] cpos) (Zm td ty):=by intro pins s σ H Q I h;refine wpAny_Call_method m.base m.few m.line kx ky PySem.F.type_dict_get (bI (ho pins s σ H _ I h) fun u s1 ⟨x,H1,I1,rx,a,ex,d,q1⟩=>?_);subst ex;obtain rfl:u=Value.ref a:=rx;obtain⟨t1,t2,_⟩:=qB1 I1 d;refine⟨t1,t2,?_⟩;rw[m.trees];refine Calls.callWith_builtin rfl (Calls.evalArgs_plain (Calls.spliced_cons (bI (he pins s1 σ H1 _ I1 q1) fun _ _ ⟨y,H2,I2,ry,_,g,q2⟩=>Calls.spliced_nil ?_)));exact qBN hu I2 g ry fun _ _ I3 PB=>⟨_,H2,I3,PB,q2⟩
end
section
variable{X:Cx}{pins:ay (av×Obj)}{σ:St}{H:Hp}{s:ae}{a:av}{kvs:ay (Key×V)}{A:ai}{E:ax->ae->Prop}
end
section
variable{X:Cx}{pins:ay (av×Obj)}{σ:St}{H:Hp}{s:ae}{a:av}{y:V}{u:ax}{A:ai}{E:ax->ae->Prop}
end
end L2
namespace So
open PySem PyProof.Rows
theorem Jl(hT:T = "list" ∨ T = "tuple")(ho:s.heap.get? p=some o)(hc:o.cls = .type T)(hd:o.data = .seq its.toArray n)(hI:IntsAre its ns)(h64:its.length<64)
  (fin:∀(h1 h':Heap)(q:av)(out:Array ax)(rs:ay Int)(e:Nat),IntsAre out.toList rs->rs.Perm ns->rs.Pairwise (· <= ·)->h1.objs.size<=q->h'.get? q=some (seqObj "list" out e)->(∀ b o,s.heap.get? b=some o->h1.get? b=some o)->(∀ b o,h1.get? b=some o->h'.get? b=some o)->Q (.ref q) { s with heap:=h' }) :
  wpAny (model prog w) A (call (.builtin "sorted") [.ref p]) Q E s:=by refine Calls.call_function_entry kind_sorted plain_sorted entry_sorted (args_sorted1 _) ?_;unfold Builtin.«sorted»;refine aS (aT ?_);refine aS (wpAny_collect_seq p hT ho hc hd (fun h1 k1=>?_) (by rw[Aa,sizeLine_eq];lia));refine aS (wpAny_newList ?_ (by show its.length<=_;rw[sizeLine_eq];lia));have g1:(h1.push (seqObj "list" its.toArray 0)).get? h1.objs.size=some (seqObj "list" its.toArray 0):=zr _ rfl;refine aS (cm (wpAny_call_entry slot_list_sort ⟨_,g1,rfl⟩ entry_list_sort (list_sort_tree (s:={ s with heap:=h1.push (seqObj "list" its.toArray 0) }) g1 hI h64 fun out ns' a1 a2 a3=>⟨_,rfl,?_⟩) (args_list_sort _)));obtain⟨e,he⟩:=sortedHeap_at (out:=out) g1;refine aT ⟨_,rfl,fin h1 _ h1.objs.size out ns' e a1 a2 a3 (bN _) he k1 fun b _ hb=>?_⟩;have lb:b<h1.objs.size:=iU hb;rw[sortedHeap_old (lO lb) (by rw[eC];exact ib lb)];exact j8 _ hb
theorem wu(hT:T = "list" ∨ T = "tuple")(ho:s.heap.get? p=some o)(hc:o.cls = .type T)(hd:o.data = .seq its.toArray n)(hI:IntsAre its ns)(h64:its.length<64)
  (fin:∀(h1 h':Heap)(q:av)(out:Array ax)(rs:ay Int)(e:Nat),IntsAre out.toList rs->rs.Perm ns->rs.Pairwise (· ≥ ·)->h1.objs.size<=q->h'.get? q=some (seqObj "list" out e)->(∀ b o,s.heap.get? b=some o->h1.get? b=some o)->(∀ b o,h1.get? b=some o->h'.get? b=some o)->Q (.ref q) { s with heap:=h' }) :
  wpAny (model prog w) A (call (.builtin "sorted") [.ref p] [(Str.ofString "reverse",.bool true)]) Q E s:=by refine call_function_entry_kw kind_sorted plain_sorted entry_sorted (args_sorted_rev _ _) ?_;unfold Builtin.«sorted»;refine aS (aT ?_);refine aS (wpAny_collect_seq p hT ho hc hd (fun h1 k1=>?_) (by rw[Aa,sizeLine_eq];lia));refine aS (wpAny_newList ?_ (by show its.length<=_;rw[sizeLine_eq];lia));have g1:(h1.push (seqObj "list" its.toArray 0)).get? h1.objs.size=some (seqObj "list" its.toArray 0):=zr _ rfl;refine aS (cm (wpAny_call_entry_kw slot_list_sort ⟨_,g1,rfl⟩ entry_list_sort (list_sort_tree_rev (b:=true) (s:={ s with heap:=h1.push (seqObj "list" its.toArray 0) }) g1 hI h64 fun out ns' a1 a2 a3=>⟨_,rfl,?_⟩) (args_list_sort_rev _ _)));obtain⟨e,he⟩:=sortedHeap_at (out:=out) g1;refine aT ⟨_,rfl,fin h1 _ h1.objs.size out ns' e a1 a2 a3 (bN _) he k1 fun b _ hb=>?_⟩;have lb:b<h1.objs.size:=iU hb;rw[sortedHeap_old (lO lb) (by rw[eC];exact ib lb)];exact j8 _ hb
end So
namespace L2
open PySem PySem.Spec PyProof.Rows
def My(K:cL)(le:Int->Int->Prop):ay V->Hp->VK->Prop:=fun xs H Q => ∃(p:av)(ns:ay Int),xs=[.ref p]/\(aV K H p (ns.map V.int)∨aM K H p (ns.map V.int))/\ns.length<64/\∀(q:av)(rs:ay Int),H q=none->rs.Perm ns->rs.Pairwise le->Q (.ref q) (upd H q (.lst (rs.map V.int)))
theorem Inv.Ri(I:Inv X pins σ H s)(h:aV X.K H p (ns.map V.int)∨aM X.K H p (ns.map V.int)) :
  ∃ T o its n,(T = "list" ∨ T = "tuple")/\s.heap.get? p=some o/\o.cls = .type T/\o.data = .seq its.toArray n/\IntsAre its ns:=by
 rcases h with h | h
 .obtain⟨its,r,pl,_⟩:=I.list h;obtain⟨o,ho,hc,n,hd⟩:=pl.isList;exact⟨"list",o,its,n,.inl rfl,ho,hc,hd,intsAre_of r⟩
 .obtain⟨its,r,pl,_⟩:=I.tuple h;obtain⟨o,ho,hc,n,hd⟩:=pl;exact⟨"tuple",o,its,n,.inr rfl,ho,hc,hd,intsAre_of r⟩
theorem pG:lN X (.builtin "sorted") (My X.K (· <= ·)):=by
 intro pins s σ H _ _ Q I r h;obtain⟨p,_,rfl,hq,_,q⟩:=h;obtain⟨u,rfl,rx⟩:=vals1 r
 cases rx
 obtain⟨T,o,_,n,hT,ho,hc,hd,hI⟩:=I.Ri hq;have hl:=hI.length;refine So.Jl hT ho hc hd hI (by lia) fun h1 h' q' out rs e i1 i2 i3 i4 i5 i6 i7=>?_;have J:Inv X pins σ H { s with heap:=h1 }:=I.kept (t':=s.toks) i6;have lr:=i2.length_eq
 have Z6:h'.get? q'=some { cls:=.type "list",data:=.seq out.toList.toArray e }:=by
  rw[i5]
 exact⟨.ref q',_,J.laid (h':=h') (t':=s.toks) (o:=.lst (rs.map V.int)) i7 i4 ⟨by rw[bh];exact zI (by lia),out.toList,e,jx i1,Z6⟩,rfl,q q' rs (J.hok.fresh i4) i2 i3⟩
def Zj(K:cL)(t:TA):TE:=fun σ H Q=>t σ H fun vs H1=>My K (· ≥ ·) vs H1 Q
theorem xY(hg:Gl X "sorted")(hm:X.mg "sorted" = none)(ha:PA X [a] t)(he:starEach [a] X.env=[(false,eval a X.env)]:=by rfl) :
  PE X (.Call (.Name "sorted" p1) [a] [⟨some "reverse",.Constant (.bool true) j pd,kp⟩] pos) (Zj X.K t):=by
 intro pins s σ H Q I h;refine wpAny_Call_Name_kw (oW I hg hm ke ?_);refine PyProof.Rows.callWith_kw (bI (ha pos pins s σ H _ I h) fun _ s1 ⟨_,H1,I1,r1,q1⟩=>?_) (by rw[he];rfl) (by rw[he];rfl) rfl rfl;refine PyProof.Rows.kws_cons (wpAny_Constant_bool (PyProof.Rows.kws_nil ?_));obtain⟨p,_,rfl,hq,_,q⟩:=q1;obtain⟨u,rfl,rx⟩:=vals1 r1
 cases rx
 obtain⟨T,o,_,n,hT,ho,hc,hd,hI⟩:=I1.Ri hq;have hl:=hI.length;refine So.wu hT ho hc hd hI (by lia) fun h1 h' q' out rs e i1 i2 i3 i4 i5 i6 i7=>?_;have J:Inv X pins σ H1 { s1 with heap:=h1 }:=I1.kept (t':=s1.toks) i6;have lr:=i2.length_eq
 have Z6:h'.get? q'=some { cls:=.type "list",data:=.seq out.toList.toArray e }:=by
  rw[i5]
 exact⟨.ref q',_,J.laid (h':=h') (t':=s1.toks) (o:=.lst (rs.map V.int)) i7 i4 ⟨by rw[bh];exact zI (by lia),out.toList,e,jx i1,Z6⟩,rfl,q q' rs (J.hok.fresh i4) i2 i3⟩
theorem iG:∀(a b:ay Nat),a.Pairwise (· < ·)->b.Pairwise (· < ·)->(∀ k,k∈a↔k∈b)->a=b
 | [],[],_,_,_=>rfl
 | [],y::b,_,_,h=>absurd ((h y).mpr List.mem_cons_self) (by simp)
 | x::a,[],_,_,h=>absurd ((h x).mp List.mem_cons_self) (by simp)
 | x::a,y::b,ha,hb,h=>by
  obtain⟨a1,a2⟩:=fR.mp ha;obtain⟨b1,b2⟩:=fR.mp hb
  have e:x=y:=by
   have h1:=(h x).mp wO;have h2:=(h y).mpr wO;rcases bL.mp h1 with e | h1
   .exact e
   .rcases bL.mp h2 with e | h2
    .exact e.symm
    .have:=a1 y h2;have:=b1 x h1;lia
  subst e;congr 1;refine iG a b a2 b2 fun k=>?_;have hk:=h k;rw[bL,bL]at hk;constructor
  .intro z;rcases hk.mp (.inr z) with e | z'
   .subst e;have:=a1 k z;lia
   .exact z'
  .intro z;rcases hk.mpr (.inr z) with e | z'
   .subst e;have:=b1 k z;lia
   .exact z'
theorem Bv:∀ os:ay Nat,os.map (Int.toNat ∘ fun j:Nat=>(j:Int))=os
 | []=>rfl
 | x::l=>by
  rw[br,Bv l];rfl
theorem Bj{rs:ay Int}{os:ay Nat}(h:rs.Perm (os.map fun j:Nat=>(j:Int))):∃ ms:ay Nat,rs=ms.map (fun j:Nat=>(j:Int))/\ms.Perm os:=by
 refine⟨rs.map Int.toNat,?_,?_⟩
 .rw[fo]
  have:∀ x∈rs,((fun j:Nat=>(j:Int)) ∘ Int.toNat) x=x:=fun x hx=>by
   obtain⟨o,_,rfl⟩:=dU.mp (h.mem_iff.mp hx);rfl
  rw[List.map_congr_left this,List.map_id']
 .have:=h.map Int.toNat;rw[fo]at this;rw[Bv]at this;exact this
theorem cj(os:ay Nat):(os.map fun j:Nat=>V.int (j:Int))=(os.map fun j:Nat=>(j:Int)).map V.int:=by rw[fo];rfl
theorem nW{rs:ay Int}{os:ay Nat}(h:rs.Perm (os.map fun j:Nat=>(j:Int)))(hs:rs.Pairwise (· <= ·))(hn:os.Nodup):∃ ms:ay Nat,rs=ms.map (fun j:Nat=>(j:Int))/\ms.Pairwise (· < ·)/\ms.Perm os:=by
 obtain⟨ms,rfl,hp⟩:=Bj h;refine⟨ms,rfl,?_,hp⟩;have nd:=hp.nodup_iff.mpr hn;rw[List.pairwise_map]at hs
 exact (hs.and nd).imp fun ⟨_,_⟩=>by lia
theorem vL{rs:ay Int}{os:ay Nat}(h:rs.Perm (os.map fun j:Nat=>(j:Int)))(hs:rs.Pairwise (· ≥ ·))(hn:os.Pairwise (· < ·)):rs=os.reverse.map (fun j:Nat=>(j:Int)):=by
 obtain⟨ms,rfl,hp⟩:=Bj h;congr 1;have nd:=hp.nodup_iff.mpr (hn.imp fun z=>lO z);rw[List.pairwise_map]at hs
 have hm:ms.reverse.Pairwise (· < ·):=by
  rw[List.pairwise_reverse]
  exact (hs.and nd).imp fun ⟨_,_⟩=>by lia
 have e:=iG ms.reverse os hm hn fun k=>by rw[fE];exact hp.mem_iff
 rw[<-e,List.reverse_reverse]
end L2
namespace So
open PySem PyProof.Rows
theorem Y7:typeLookup (.type "dict") "__len__" = pure (some (.builtin "dict.__len__")):=by rw[typeLookup_type,builtinLookup_eq_fast];kernel_rfl
theorem vV:∀ {vs:ay ax} {ns:ay Int},vs.length=ns.length->(∀(i:Nat)(n:Int),ns[i]? = some n->∃ t,vs[i]? = some (Value.int n t))->IntsAre vs ns
 | [],[],_,_=>.nil
 | [],n::ns,h,_=>by simp at h
 | v::vs,[],h,_=>by simp at h
 | v::vs,n::ns,h,k=>by
  obtain⟨t,ht⟩:=k 0 n rfl
  have e:v=Value.int n t:=by simpa using ht
  subst e;exact .cons n t (vV (by simpa using h) fun i m hi=>by simpa using k (i+1) m (by simpa using hi))
theorem Io(hh:A.handled=none)(hd:(a==sysModules)=false)(hD:s.heap.DictOf (L2.bQ prog w) a kvs)(hk:kvs.map (·.1)=ns.map Sum.inl)(hn:ns.length<=1000)
  (fin:∀ h' (vs:ay ax) (tk:Nat),IntsAre vs ns->(∀ b o,s.heap.get? b=some o->h'.get? b=some o)->Q vs { s with heap:=h',toks:=tk }) :
  wpAny (model prog w) A (collect (.ref a)) Q E s:=by
 have lk:kvs.length=ns.length:=by
  have:=congrArg List.length hk
  simpa using this
 obtain⟨o,es,ep,ho,rest⟩:=hD;have hc:=rest.1;have la:a<s.heap.objs.size:=iU ho;have hA:s.heap.DictAt (L2.bQ prog w) a kvs ep:=⟨o,es,ho,rest⟩;unfold collect;refine aS (wpAny_runValue (codeAny_builtin F.entry_proto_collect ?_));rw[Around.under_plainId F.plain_proto_collect _];show wpAny _ A.in1 (newList [] >>= fun l=>again (.builtin "list.__iadd__" ⟨[l,.ref a],[]⟩)) _ _ s;refine aS (wpAny_newObj_type ?_);refine aT ⟨plainId_quiet F.plain_list_iadd _,codeAny_builtin F.entry_list_iadd ?_⟩;rw[Around.under_plainId F.plain_list_iadd _];have g0:(s.heap.push { cls:=.type "list",data:=.seq ([]:ay ax).toArray }).get? s.heap.objs.size=some { cls:=.type "list",data:=.seq ([]:ay ax).toArray }:=zr s.heap rfl
 have other:Builtin.List.listSameRef (.ref s.heap.objs.size) (.ref a)=false:=by simp [Builtin.List.listSameRef];exact iN la
 have hA1:=hA.at' (h':=s.heap.push { cls:=.type "list",data:=.seq ([]:ay ax).toArray }) fun o e=>j8 _ e;have ty1:Shared.TypeIs { s with heap:=s.heap.push { cls:=.type "list",data:=.seq ([]:ay ax).toArray } } (.ref a) "dict" := hA1.dictOf.typeIs;show wpAny _ A.in1 (Builtin.List.listExtendWith (.ref s.heap.objs.size) (.ref a) (.ref s.heap.objs.size)) _ _ _;unfold Builtin.List.listExtendWith;refine aS (wpAny_typeOf ty1 ?_);rw[cy (by rw[other];decide)];refine aS (wpAny_pyIter_dict hd hA1 ?_);generalize eo:({ cls:=.type "dict_keyiterator",data:=.fields #[.ref a,.int 0 0,.int kvs.length 0,.int ep 0] }:Obj)=oi;generalize eh:(s.heap.push { cls:=.type "list",data:=.seq ([]:ay ax).toArray }).push oi=h2;have sz1:(s.heap.push { cls:=.type "list",data:=.seq ([]:ay ax).toArray }).objs.size=s.heap.objs.size+1:=eC _ _
 have U9:∀ b ob,(s.heap.push { cls:=.type "list",data:=.seq ([]:ay ax).toArray }).get? b=some ob->h2.get? b=some ob:=fun b ob e=>by
  rw[<-eh];exact j8 _ e
 have gI:h2.get? (s.heap.push { cls:=.type "list",data:=.seq ([]:ay ax).toArray }).objs.size=some oi:=by
  rw[<-eh,<-eo];exact zr _ rfl
 rw[show (s.heap.push { cls:=.type "list",data:=.seq ([]:ay ax).toArray }).objs.size=s.heap.objs.size+1 from sz1]at gI ⊢;have g2:=U9 _ _ g0;have ZD:=hA1.at' (h':=h2) fun o e=>U9 _ _ e;have ty2:Shared.TypeIs { s with heap:=h2 } (.ref a) "dict" := ZD.dictOf.typeIs;refine aS (cm ?_);unfold Builtin.List.listLengthHint;refine aS (wpAny_specialOf ty2 Y7 ?_)
 (generalize hid:("dict.__len__" : String)=id0;(fail_if_success (clear hid id0));wp_delta;rw[show splitId id0=some ("dict","__len__") from by subst hid;decide +kernel])
 refine aS (wpAny_isInstance (b:=true) ty2 (by rw[isSubtype_type];kernel_rfl) ?_);subst hid;show wpAny _ A.in1 (typeOf (.ref a) >>= _) _ _ _;refine aS (wpAny_typeOf ty2 ?_);refine aT ?_;rw[cE (by decide)];refine aS (wpAny_rule (aS ?_));show wpAny _ A.in1 (updateSeq s.heap.objs.size (·.push .none) >>= fun _=>updateSeq s.heap.objs.size (·.pop)) _ _ _;refine aS (wpAny_updateSeq g2 rfl ?_);have g3:=ck (Obj.mapSeq (·.push Value.none)) g2 rfl;refine wpAny_updateSeq g3 rfl ?_;have g4:=ck (Obj.mapSeq (·.pop)) g3 rfl;have Z5:∀ b ob,b≠s.heap.objs.size->h2.get? b=some ob->((h2.update s.heap.objs.size (Obj.mapSeq (·.push Value.none))).update s.heap.objs.size (Obj.mapSeq (·.pop))).get? b=some ob:=fun b ob hb e=>(cf _ _ (bt hb)).trans ((cf _ _ (bt hb)).trans e)
 have qDD:s.heap.objs.size∉[s.heap.objs.size+1,a]:=by
  simp only[List.mem_cons,List.not_mem_nil,or_false,not_or];exact⟨by lia,iN la⟩
 have W:=(Walks.dictKeys (prog:=prog) (w:=w) (knd:=L2.bQ prog w) (A:=A.in1) (by simp [hh]) (s.heap.objs.size+1) a (Nat.ne_of_lt (Nat.lt_succ_of_lt la)) kvs ep).toS;have it2:h2.IsKeyIter (s.heap.objs.size+1) a 0 kvs.length ep:=⟨oi,gI,by rw[<-eo],by rw[<-eo];rfl⟩;have zu:=W.frame 0 { s with heap:=h2 } ((h2.update s.heap.objs.size (Obj.mapSeq (·.push Value.none))).update s.heap.objs.size (Obj.mapSeq (·.pop))) s.toks ⟨it2,ZD⟩ (bN _) fun b hb ob e=>Z5 b ob (fun z=>qDD (z▸hb)) e;refine aT ⟨plainId_quiet F.plain_extend_loop _,codeAny_extend_loopS W (by rw[lk,sizeLine_eq];lia) _ qDD _ kvs.length 0 _ _ _ rfl (bg _) zu g4 (ItemsOf.nil _) fun s' acc' _ hm hS' hacc=>?_⟩;show wpAny _ A (load s.heap.objs.size >>= _) _ _ s';refine aS (wpAny_load hS' ?_);have e1:s'.gens=s.gens:=hm.gens;have e2:s'.drawn=s.drawn:=hm.drawn;have e3:s'.os=s.os:=hm.os;obtain⟨h',g',d',tk',os'⟩:=s';have e1':g'=s.gens:=e1;have e2':d'=s.drawn:=e2;have e3':os'=s.os:=e3;subst e1' e2' e3';refine aT ?_;refine fin h' acc'.toList tk' (vV (by rw[Array.length_toList,hacc.1,lk]) fun i n hi=>?_) fun b ob e=>?_
 .have li:i<acc'.size:=by
   have:=(fO.mp hi).1;rw[hacc.1,lk];exact this
  obtain⟨k,x,hx,his⟩:=hacc.2 i acc'[i] (by simp [li])
  have hk':(kvs.map (·.1))[i]? = some k:=by rw[dD,hx];rfl
  rw[hk,dD,hi]at hk';have ek:=jX hk';subst ek;obtain⟨tk,e5⟩:=Value.isInt_shape his;exact⟨tk,by simp [li,e5]⟩
 .have lb:=iU e;refine hm.heap b ob ?_ (Z5 b ob (lO lb) (U9 b ob (j8 _ e)));simp only[List.mem_cons,List.not_mem_nil,or_false,not_or];exact⟨lO lb,lO (ib lb)⟩
theorem Jm(hh:A.handled=none)(hd:(a==sysModules)=false)(hD:s.heap.DictOf (L2.bQ prog w) a kvs)(hk:kvs.map (·.1)=ns.map Sum.inl)(h64:ns.length<64)
  (fin:∀(h1 h':Heap)(tk:Nat)(q:av)(out:Array ax)(rs:ay Int)(e:Nat),IntsAre out.toList rs->rs.Perm ns->rs.Pairwise (· <= ·)->h1.objs.size<=q->h'.get? q=some (seqObj "list" out e)->(∀ b o,s.heap.get? b=some o->h1.get? b=some o)->(∀ b o,h1.get? b=some o->h'.get? b=some o)->Q (.ref q) { s with heap:=h',toks:=tk }) :
  wpAny (model prog w) A (call (.builtin "sorted") [.ref a]) Q E s:=by refine Calls.call_function_entry kind_sorted plain_sorted entry_sorted (args_sorted1 _) ?_;unfold Builtin.«sorted»;refine aS (m:=checkCount "sorted" 1 1 _) (aT ?_);refine wpAny_bind (Io (by first | exact hh | simp [hh]) hd hD hk (by lia) fun h1 vs tk i1 k1=>?_);have hl:=i1.length;refine aS (wpAny_newList ?_ (by rw[hl,sizeLine_eq];lia));have g1:(h1.push (seqObj "list" vs.toArray 0)).get? h1.objs.size=some (seqObj "list" vs.toArray 0):=zr _ rfl;refine aS (cm (wpAny_call_entry slot_list_sort ⟨_,g1,rfl⟩ entry_list_sort (list_sort_tree (s:={ s with heap:=h1.push (seqObj "list" vs.toArray 0),toks:=tk }) g1 i1 (by lia) fun out ns' a1 a2 a3=>⟨_,rfl,?_⟩) (args_list_sort _)));obtain⟨e,he⟩:=sortedHeap_at (out:=out) g1;refine aT ⟨_,rfl,fin h1 _ tk h1.objs.size out ns' e a1 a2 a3 (bN _) he k1 fun b _ hb=>?_⟩;have lb:b<h1.objs.size:=iU hb;rw[sortedHeap_old (lO lb) (by rw[eC];exact ib lb)];exact j8 _ hb
end So
namespace L2
open PySem PySem.Spec PyProof.Rows
def Ry:ay V->Hp->VK->Prop:=fun xs H Q => ∃(p:av)(kvs:ay (Key×V))(ns:ay Int),xs=[.ref p]/\H p=some (.dK kvs)/\kvs.map (·.1)=ns.map Sum.inl/\ns.length<64/\∀(q:av)(rs:ay Int),H q=none->ns.Nodup->rs.Perm ns->rs.Pairwise (· <= ·)->Q (.ref q) (upd H q (.lst (rs.map V.int)))
theorem Ez(hca:X.calm=true):lN X (.builtin "sorted") Ry:=by
 intro pins s σ H _ _ Q I r h;obtain⟨p,_,ns,rfl,hq,hk,h64,q⟩:=h;obtain⟨u,rfl,rx⟩:=vals1 r
 cases rx
 obtain⟨z,hd,vs,rel,dd⟩:=V7 I.hok hq
 have hk':vs.map (·.1)=ns.map Sum.inl:=by rw[<-rel.keys,hk]
 have nd:ns.Nodup:=by
  obtain⟨_,hA⟩:=dd.dictAt;have h1:=hA.nodup;rw[hk']at h1;exact (List.pairwise_map.mp h1).imp fun z e=>z (by rw[e])
 refine So.Jm (I.ok.hd hca) hd dd hk' h64 fun h1 h' tk q' out rs e i1 i2 i3 i4 i5 i6 i7=>?_;have J:Inv X pins σ H { s with heap:=h1 }:=I.kept (t':=s.toks) i6;have lr:=i2.length_eq
 have Z6:h'.get? q'=some { cls:=.type "list",data:=.seq out.toList.toArray e }:=by
  rw[i5]
 exact⟨.ref q',_,J.laid (h':=h') (t':=tk) (o:=.lst (rs.map V.int)) i7 i4 ⟨by rw[bh];exact zI (by lia),out.toList,e,jx i1,Z6⟩,rfl,q q' rs (J.hok.fresh i4) nd i2 i3⟩
end L2
namespace PySem
open Sem (wp)
open AutoSeq1 (wpAny_loadPart')
theorem Ec(g:s.heap.IsTupleIter q tt i)(gt:s.heap.IsTuple tt vs)(gx:vs[i]? = some x)
  (hQ:∀ h',h'.IsTupleIter q tt (i+1)->Heap.SameBut q s.heap h'->Q x { s with heap:=h' }):wpAny (model prog w) A (Builtin.SmallTypes.nextOf (.ref q)) Q E s:=by obtain⟨_,go,gc,gd⟩:=id g;obtain⟨_,got,_,_,gdt⟩:=gt;unfold Builtin.SmallTypes.nextOf;refine aS (wpAny_callSpecial?_slot g.typeIs F.slot_tuple_iterator_next (wpAny_call_entry F.slot_tuple_iterator_next g.typeIs F.entry_tuple_iterator_next ?_ (F.args_tuple_iterator_next_1 _)));show wpAny _ _ (field (.ref q) 0 >>= _) _ _ s;refine aS (wpAny_field go gd (x:=.ref tt) rfl ?_);show wpAny _ _ (if (Value.ref tt==Value.none)=true then _ else _) _ _ s;rw[cy (show ¬ ((Value.ref tt==Value.none)=true) from qg)];show wpAny _ _ (field (.ref q) 1 >>= _) _ _ s;refine aS (wpAny_field go gd (x:=.int i 0) rfl ?_);show wpAny _ _ (seqItems? (.ref tt) >>= _) _ _ s;refine aS (wpAny_seqItems got gdt ?_);simp only[Int.toNat_natCast,gx];refine wpAny_bind (wpAny_setField go gd (by simp) (wpAny_pure ⟨x,rfl,wpAny_pure (hQ _ ?_ (Heap.SameBut.update ..))⟩));exact⟨_,ck _ go (Obj.isFreed_of_fields (Obj.data_mapFields gd _)),(Obj.cls_mapFields ..).trans gc,by rw[Obj.data_mapFields gd];simp [rawInt]⟩
theorem vP(hh:A.handled=none)(g:s.heap.IsTupleIter q tt i)(gt:s.heap.IsTuple tt vs)(gx:vs[i]? = none)
  (hE:∀ h' e,Heap.ExtBut q s.heap h'->(∃ o,h'.get? e=some o/\o.cls = .type "StopIteration")->E (.ref e) { s with heap:=h' }):wpAny (model prog w) A (Builtin.SmallTypes.nextOf (.ref q)) Q E s:=by
 obtain⟨_,go,_,gd⟩:=id g;obtain⟨_,got,_,_,gdt⟩:=gt;unfold Builtin.SmallTypes.nextOf;refine aS (wpAny_callSpecial?_slot g.typeIs F.slot_tuple_iterator_next (wpAny_call_entry F.slot_tuple_iterator_next g.typeIs F.entry_tuple_iterator_next ?_ (F.args_tuple_iterator_next_1 _)));show wpAny _ _ (field (.ref q) 0 >>= _) _ _ s;refine aS (wpAny_field go gd (x:=.ref tt) rfl ?_);show wpAny _ _ (if (Value.ref tt==Value.none)=true then _ else _) _ _ s;rw[cy (show ¬ ((Value.ref tt==Value.none)=true) from qg)];show wpAny _ _ (field (.ref q) 1 >>= _) _ _ s;refine aS (wpAny_field go gd (x:=.int i 0) rfl ?_);show wpAny _ _ (seqItems? (.ref tt) >>= _) _ _ s;refine aS (wpAny_seqItems got gdt ?_);simp only[Int.toNat_natCast,gx];refine wpAny_bind (wpAny_rule (wpAny_bind (wpAny_setField go gd (by simp) ?_)));show wpAny _ _ ((newExc (.type "StopIteration") []) >>= _) _ _ _;refine aS ?_;simp only[newExc,newTuple];refine (aS (wpAny_newObj_type ?_ (by size_fits)));refine (wpAny_bind (wpAny_of_eq (by first | rfl | (simp only[firstArgMember];rfl)) ?_));refine (wpAny_newObj_type ?_ (by size_fits));simp only[raiseNew];refine aS (wpAny_handled ?_)
 (first | rw[show A.in1.handled=none from hh] | rw[hh])
 refine (aS (aT (wpAny_throw ?_)));exact (hE _ _ (((Heap.SameBut.update ..).extBut.push _).push _) ⟨_,zr _ rfl,rfl⟩)
theorem V3(hh:A.handled=none)(q tt:av)(hne:tt≠q)(vs:Array ax) :
  Draws prog w A q [q,tt] vs.size (fun i v=>vs[i]? = some v) (fun i h=>h.IsTupleIter q tt i/\h.IsTuple tt vs) where
 live:=fun _ _ st=>let ⟨o,ho,_⟩:=st.1;⟨o,ho⟩
 frame:=fun _ _ _ st hk=>⟨st.1.at fun o e=>hk q (by simp) o e,st.2.at fun o e=>hk tt (by simp) o e⟩
 item:=fun i s Q E hi st hQ=>by
  refine Ec st.1 st.2 (x:=vs[i]) (by simp [hi]) fun h' hit' hs'=>?_;exact hQ _ h' s.toks (by simp [hi]) ⟨hit',st.2.extBut hs'.extBut hne⟩ hs'
 done:=fun s Q E st hE=>vP hh st.1 st.2 (by simp) hE
theorem V0(l:av)(vs:Array ax)(n:Nat)(dct:aE av)(sl:Array (aE ax)) :
  Meets (Builtin.«enumerate.__new__» ⟨[.type "enumerate",.ref l],[]⟩) (fun _ R s=>s.heap.get? l=some { cls:=.type "tuple",dict:=dct,data:=.seq vs n,slots:=sl } ∧
   R (.ok (.ret (.ref (s.heap.push { cls:=.type "tuple_iterator",data:=.fields #[.ref l,.int 0 0] }).objs.size)))
    { s with heap:=(s.heap.push { cls:=.type "tuple_iterator",data:=.fields #[.ref l,.int 0 0] }).push { cls:=.type "enumerate",data:=.fields #[.none,.bool false,.ref s.heap.objs.size,rawInt 0,.none,.none] } }):=
 .of_wp fun _ w A R s h=>by
  obtain⟨hp,g,d,tk,os⟩:=s;obtain⟨hl,h⟩:=h;have hsub:=sub_enumerate;have hL:Heap.IsTuple (Shared.heap ⟨hp,g,d,tk,os⟩) l vs:=⟨_,hl,rfl,n,rfl⟩
  wp_walk using wpAny_loadPart' hl
  refine wpAny_stack_any fun _=>aT ?_
  split
  .rename_i c _ _ _ _ _
   cases (c==Value.type "enumerate")
   .wp_walk using wpAny_loadPart' hl,wpAny_pyIter_tuple hL
    exact⟨_,rfl,h⟩
   .wp_walk using wpAny_loadPart' hl,wpAny_pyIter_tuple hL
    exact⟨_,rfl,h⟩
  .wp_walk using wpAny_loadPart' hl,wpAny_pyIter_tuple hL
   exact⟨_,rfl,h⟩
theorem Qd(hL:s.heap.IsTuple l vs)
  (h:∀ h',IsEnum h' (s.heap.objs.size+1) s.heap.objs.size 0 .none->h'.IsTupleIter s.heap.objs.size l 0->h'.objs.size=s.heap.objs.size+2 →
   (∀ b o,s.heap.get? b=some o->h'.get? b=some o)->Q (.ref (s.heap.objs.size+1)) { s with heap:=h' }) :
  wpAny (model prog w) A (call (.type "enumerate") [.ref l]) Q E s:=by
 obtain⟨⟨c,dct,dt,sl⟩,hl,hc,n,hd⟩:=hL
 replace hc:c = .type "tuple" := hc
 replace hd:dt = .seq vs n:=hd
 subst hc hd;refine callType_new F.called_enumerate (by decide) (F.typeCall_enumerate_1 _) (F.newCall_enumerate_1 _) (fun obj=>F.args_object_init_2 obj _) F.entry_enumerate_new (V0 l vs n dct sl) ⟨hl,?_⟩;have hz:(s.heap.push { cls:=.type "tuple_iterator",data:=.fields #[.ref l,.int 0 0] }).objs.size=s.heap.objs.size+1:=eC ..;show _/\_;rw[hz]
 have he:IsEnum ((s.heap.push { cls:=.type "tuple_iterator",data:=.fields #[.ref l,.int 0 0] }).push
   { cls:=.type "enumerate",data:=.fields #[.none,.bool false,.ref s.heap.objs.size,rawInt 0,.none,.none] }) (s.heap.objs.size+1) s.heap.objs.size 0 .none:=by
  have:=zr (s.heap.push { cls:=.type "tuple_iterator",data:=.fields #[.ref l,.int 0 0] })
   (o:={ cls:=.type "enumerate",data:=.fields #[.none,.bool false,.ref s.heap.objs.size,rawInt 0,.none,.none] }) rfl
  rw[hz]at this;exact this
 exact⟨⟨_,he,rfl⟩,h _ he ⟨_,j8 _ (zr _ rfl),rfl,rfl⟩ (by rw[eC,hz]) fun b o x=>j8 _ (j8 _ x)⟩
theorem V1(hh:A.handled=none)(he:IsEnum s.heap e q j old)(g:s.heap.IsTupleIter q tt i)(gt:s.heap.IsTuple tt vs)(gx:vs[i]? = none)
  (hQ:∀ h',Heap.ExtBut q s.heap h'->Q none { s with heap:=h' }):wpAny (model prog w) A (pyNext (.ref e)) Q E s:=by have hT:s.TypeIs (.ref e) "enumerate" := ⟨_,he,rfl⟩;unfold pyNext;refine aS (wpAny_attempt (wpAny_callSpecial?_slot hT F.slot_enumerate_next (wpAny_call_entry F.slot_enumerate_next hT F.entry_enumerate_next ?_ (F.args_enumerate_next_1 _))));show wpAny _ _ (field (.ref e) 2 >>= _) _ _ _;refine aS (wpAny_field he rfl (x:=.ref q) rfl ?_);refine aS (vP (A:=A.in1) hh g gt gx fun h' x he' hx'=>?_);obtain⟨o,ho,hc⟩:=hx';refine (aS (wpAny_isInstance (T := "StopIteration") (b:=true) ⟨o,ho,hc⟩ isSubtype_stop ?_));exact aT (hQ _ he')
end PySem
namespace L2
open PySem PySem.Spec PyProof.Rows
theorem Inv.Lz{t':Nat}{ts:ay av}(I:Inv X pins σ H s)(k:∀ b o,b∉ts->s.heap.get? b=some o->h'.get? b=some o)(hf:∀ b∈ts,iR X pins H b):Inv X pins σ H { s with heap:=h',toks:=t' }:=by
 have nit:∀ b u,H b=some u->b∉ts:=fun b u e z=>by
  rw[(hf b z).1]at e
  cases e
 refine I.step (fun b hb=>?_) (fun b o _ _ hc e _=>k b o hc e) (fun b o _ _ hc e _=>⟨o.slots,k b o hc e⟩) (fun _ _ _ _ n=>n) (fun b o hc e=>⟨o,k b o hc e⟩) (fun _ _ e=>e) (fun _ _ _ e=>e) (fun b _ e=>⟨#[],by rw[e];simp⟩) (fun m hm=>?_) (fun b u e=>?_) I.bare
 .obtain⟨_,f1,_,f3,f4,f5⟩:=hf b hb;exact⟨f3,f1,f4,f5⟩
 .obtain⟨o,es,ep,ho,r⟩:=hm;exact⟨o,es,ep,k _ o (fun z=>(hf _ z).2.1 rfl) ho,r⟩
 .refine (I.hok b u e).stay (fun c v hc q=>k c v ?_ q) (fun _ q=>q) fun _ _ q=>q;rcases hc with z | z
  .rw[z];exact nit b u e
  .exact nit c _ z
def Ite(K:cL)(a:av):It:=
 ⟨fun i H => ∃ xs x,aM K H a xs/\xs[i]? = some x,fun i H v H'=>∃ t x,v = .ref t/\H t=none/\(∀ xs,aM K H a xs->xs[i]? = some x)/\H'=upd H t (.tup [.int (i:Int),x]),fun i H => ∃ xs,aM K H a xs/\xs.length<=i⟩
theorem Ow{P:ag}{w:aI}{K:cL}{es:ay Expr}{k:Nat}{pos:Pos}(a e q:av):Turn P w K (.Tuple es k pos) (Ite K a) [e,q] e (fun i h=>(∃ old,IsEnum h e q (i:Nat) old)/\h.IsTupleIter q a i) where
 mem:=by simp
 obj:=fun i h st b hb=>by
  obtain⟨⟨old,he⟩,o,ho,hc,hd⟩:=st;rcases bL.mp hb with rfl | hb
  .refine⟨_,he,fun v z=>?_⟩;have z2:Data.fields _=Data.cell v:=z
   cases z2
  .rw[bJ.mp hb];exact⟨o,ho,fun v z=>by rw[hd]at z;cases z⟩
 keep:=fun i h _ st k=>by
  obtain⟨⟨old,he⟩,hq⟩:=st;exact⟨⟨old,k e (by simp) _ he⟩,hq.at fun o z=>k q (by simp) o z⟩
 item:=by
  intro X hP hw hK hc i pins s σ H E I hf st hg;subst hP hw hK;obtain⟨xs,x,hq,hx⟩:=hg;obtain⟨its,rv,p,hz⟩:=I.tuple hq;obtain⟨u,hu,ru⟩:=rv.get hx;obtain⟨⟨old,he⟩,hit⟩:=st;have pt:s.heap.IsTuple a its.toArray:=p
  have naq:a≠q:=fun z=>by
   obtain⟨o1,g1,c1,_⟩:=pt;obtain⟨o2,g2,c2,_⟩:=hit;rw[z,g2]at g1
   cases g1
   rw[c2]at c1;injection c1 with c1;exact dP c1 (by decide)
  have neq:e≠q:=fun z=>by
   obtain⟨o2,g2,c2,_⟩:=hit;rw[<-z]at g2;have g3:=g2.symm.trans he
   cases g3
   have c3:Value.type "enumerate" = Value.type "tuple_iterator" := c2;injection c3 with c3;exact dP c3 (by decide)
  have nea:e≠a:=fun z=>by
   obtain⟨o1,g1,c1,_⟩:=pt;rw[<-z]at g1;have g3:=g1.symm.trans he
   cases g3
   have c3:Value.type "enumerate" = Value.type "tuple" := c1;injection c3 with c3;exact dP c3 (by decide)
  have D:=V3 (prog:=X.prog) (w:=X.w) (A:=X.A.in1) (I.ok.hd hc) q a naq its.toArray
  have hlt:i<its.toArray.size:=by
   have:=(fO.mp hu).1
   simpa using this
  have hnew:H s.heap.objs.size=none:=I.hok.fresh (bN _);refine wpAny_pyNext_enum_itemD D he ⟨hit,pt⟩ hlt neq (by simp [neq,nea]) fun y _ tk hy ho hs1 hT _ hk=>?_
  obtain rfl:y=u:=by
   rw[List.getElem?_toArray,hu]at hy;exact (jX hy).symm
  refine⟨_,rfl,wpAny_letOwnedTupleGo_enum ho fun h2 he2 sb=>?_⟩;have nse:s.heap.objs.size≠e:=iN (iU he)
  have nsq:s.heap.objs.size≠q:=by
   obtain⟨o2,g2,_⟩:=hit;exact iN (iU g2)
  have kk:∀ b o,b∉[e,q]->s.heap.get? b=some o->h2.get? b=some o:=fun b o hb g=>by
   have b1:b≠e:=fun z=>hb (by simp [z]);have b2:b≠q:=fun z=>hb (by simp [z]);exact (sb.2 b b1).trans (hk b o b1 b2 g)
  have I1:Inv X pins σ H { s with heap:=h2,toks:=tk+1 }:=I.Lz kk hf
  have I2:Inv X pins σ (upd H s.heap.objs.size (.tup [.int (i:Int),x])) { s with heap:=h2,toks:=tk+1 }:=by
   refine Inv.adopt I1 (I.ym (bN _) hnew) ⟨by show 2<=sizeLine;decide,[.int i tk,y],.cons ⟨tk,rfl⟩ (.cons ru .nil),?_⟩;exact⟨_,(sb.2 _ nse).trans hT,rfl,_,rfl⟩
  refine⟨.ref s.heap.objs.size,_,I2,rfl,⟨_,x,rfl,hnew,fun _ hy=>by rw[I.BL hy hq];exact hx,rfl⟩,⟨⟨y,by have:=he2;simpa using this⟩,hs1.1.at fun o g=>(sb.2 q (Ne.symm neq)).trans g⟩,fun b hb=>?_⟩
  have nb:b≠s.heap.objs.size:=by
   rcases bL.mp hb with rfl | hb
   .exact bt nse
   .rw[bJ.mp hb];exact bt nsq
  rw[zQ nb];exact (hf b hb).1
 done:=by
  intro X hP hw hK hc i pins s σ H E I hf st hg;subst hP hw hK;obtain⟨xs,hq,hx⟩:=hg;obtain⟨its,rv,p,hz⟩:=I.tuple hq;obtain⟨⟨old,he⟩,hit⟩:=st;have pt:=p;have hl:=rv.length
  have hnone:its.toArray[i]? = none:=by simp;lia
  refine V1 (I.ok.hd hc) he hit pt hnone fun h2 eb=>⟨rfl,?_⟩;exact I.Lz (fun b o hb g=>eb b o (fun z=>hb (by simp [z])) g) hf
 self:=fun _ _ _ _ _ st h=>by
  obtain⟨⟨old,he⟩,_⟩:=st;exact wpAny_pyIter_enum he h
def qE1(K:cL)(ta:TA):TI:=fun σ H R=>ta σ H fun vs H1 => ∃ a,vs=[.ref a]/\(∃ xs,aM K H1 a xs)/\R (Ite K a) H1
theorem N5{l:Expr}{ta:TA}{p pos:Pos}(hg:Gl X "enumerate")(hm:X.mg "enumerate" = none)(ha:PA X [l] ta)(hs:starEach [l] X.env=[(false,eval l X.env)]:=by rfl):PI X (.Tuple es k tpos) (.Call (.Name "enumerate" p) [l] [] pos) (qE1 X.K ta):=by
 intro pins s σ H R I h;refine Call_ (oW I hg hm boot_enumerate (kf (bI (ha pos pins s σ H _ I h) fun _ s1 ⟨_,H1,I1,r1,q1⟩=>?_) hs rfl));obtain⟨a,e,⟨_,hq⟩,q⟩:=q1;subst e
 cases r1 with
 | cons r rr=>
  cases rr
  cases r
  obtain⟨_,_,p,_⟩:=I1.tuple hq;refine Qd p fun h' he hit _ hk=>?_;refine wpAny_pyIter_enum he ?_;have I2:Inv X pins σ H1 { s1 with heap:=h' }:=I1.kept (t':=s1.toks) hk;refine⟨s1.heap.objs.size+1,[s1.heap.objs.size+1,s1.heap.objs.size],_,_,H1,rfl,I2,Ow a _ _,⟨⟨.none,by simpa using he⟩,hit⟩,fun b hb=>?_,q⟩;rcases bL.mp hb with rfl | hb
  .exact I1.ym (hV _) (I1.hok.fresh (hV _))
  .rw[bJ.mp hb];exact I1.ym (bN _) (I1.hok.fresh (bN _))
theorem Ih{K:cL}{a:av}{xs:ay V}{g:TG}{tb:TS}{D:Ends}{σ:St}{H:Hp}(Pv:Nat->St->Hp->Prop)(h0:Pv 0 σ H)(hl:∀ i σ H,i<=xs.length->Pv i σ H->aM K H a xs)
  (hs:∀ i x σ H t,xs[i]? = some x->Pv i σ H->H t=none->g (.ref t) σ (upd H t (.tup [.int (i:Int),x])) fun σ2 H2=>tb { D with nx:=Pv (i+1),ct:=Pv (i+1),bk:=D.nx } σ2 H2) (hd:∀ σ H,Pv xs.length σ H->D.nx σ H) :
  ∃ W:Nat->Nat->St->Hp->Prop,(∃ m,W 0 m σ H)/\∀ i m σ H,W i m σ H →
   ((Ite K a).stop i H/\D.nx σ H)∨((Ite K a).go i H/\∃ N:St->Hp->Prop,(∀ σ' H',N σ' H'->∃ m',m'<m/\W (i+1) m' σ' H')/\∀ x H',(Ite K a).WD i H x H'->g x σ H' fun σ2 H2=>tb { D with nx:=N,ct:=N,bk:=D.nx } σ2 H2):=by
 refine⟨fun i m σ H=>m+i=xs.length/\Pv i σ H,⟨xs.length,rfl,h0⟩,?_⟩;rintro i m σ H ⟨_,p⟩;have hq:=hl i σ H (by lia) p
 by_cases hlt:i<xs.length
 .refine .inr ⟨⟨xs,xs[i],hq,by simp [hlt]⟩,Pv (i+1),fun σ' H' p'=>⟨m-1,by lia,by lia,p'⟩,fun v H' y=>?_⟩;obtain⟨t,x,rfl,ht,hx,rfl⟩:=y;exact hs i x σ H t (hx xs hq) p ht
 .obtain rfl:i=xs.length:=by lia
  exact .inl ⟨⟨xs,hq,bN _⟩,hd σ H p⟩
end L2
namespace L2
open PySem
noncomputable def qBP:Expr->aE V
 | .Constant (.int i) _ _=>some (.int i)
 | .Constant (.str z) _ _=>some (.str z)
 | .UnaryOp .USub (.Constant (.int i) _ _) _=>some (.int (-i))
 | _=>none
noncomputable def Oc:ay Expr->aE (ay V)
 | []=>some []
 | e::es=>match qBP e,Oc es with
  | some v,some vs=>some (v::vs)
  | _,_=>none
section
variable{X:Cx}
theorem qBO(h:qBP e=some v):PE X e (fun _ H Q=>Q v H)/\∀ es,starEach (e::es) X.env=(false,eval e X.env)::starEach es X.env:=by
 unfold qBP at h
 split at h
 .cases h;exact⟨zB,fun _=>rfl⟩
 .cases h;exact⟨zP,fun _=>rfl⟩
 .cases h;refine⟨fun pins s σ H Q I h=>?_,fun _=>rfl⟩;exact (S9 JW zB) pins s σ H Q I ⟨_,rfl,h⟩
 .cases h
theorem Bl:∀ {es:ay Expr} {vs:ay V},Oc es=some vs->PA X es (fun _ H Q=>Q vs H)
 | [],vs,h=>by
  cases h
  exact zD
 | e::es,vs,h=>by
  unfold Oc at h
  split at h
  .rename_i v vs' h1 h2
   cases h
   obtain⟨a,b⟩:=qBO h1;exact zA a (Bl h2) (b es)
  .cases h
end
structure RE(X:Cx)(e:Expr)(t:TE):Prop where
 p:PE X e t
structure RS(X:Cx)(st:Stmt)(t:TS):Prop where
 p:PS X st t
structure RSs(X:Cx)(st:List Stmt)(t:TS):Prop where
 p:FT X st t
structure RA(X:Cx)(es:List Expr)(t:TA):Prop where
 p:PA X es t
section
variable{X:Cx}{e a b c:Expr}{es:ay Expr}{te ta tb:TE}{tc:TT}{tr:TA}{pos:Pos}{st:Stmt}{ss rest:ay Stmt}{t u:TS}
theorem qD1(h:RS X st t):RSs X [st] t:=⟨zG h.p⟩
theorem jD(h:RS X st t)(h2:RSs X rest u):RSs X (st::rest) (WN t u):=⟨zE h.p h2.p⟩
theorem qD2(h:RS X st t)(h2:RSs X rest u):RSs X (st::rest) (qCI t u):=⟨zZ h.p h2.p⟩
theorem Gk(h:PS X st t):RS X st t:=⟨h⟩
theorem Gm(hN:X.N.Nodup)(hi:X.N[i]? = some x)(hx:Loc X.env.scope x)(he:RE X e te)(hs:swapsWith e (some (.Name x pos')) pos.line X.env=pure false:=by rfl)(hf:X.fn x=true∨X.env.scope.names.lookup x=some .local:=by ext z):RS X (.Assign [.Name x pos'] e pos) (RJ te (Ie i)):=⟨zK hN hi hx he.p hs hf⟩
theorem Gp(ha:RE X a ta)(hb:PE X b tb)(hs:Ol b):RE X (.Subscript a b pos) (tOp (qA3 X.K) ta tb):=⟨yB yU ha.p hb hs⟩
theorem Gn(h:RA X es tr):RE X (.List es pos) (qCD tr):=⟨yK h.p⟩
theorem xV(h:Oc es=some vs):RA X es (fun _ H Q=>Q vs H):=⟨Bl h⟩
theorem Gj(ha:PE X e te)(hr:RA X es tr)(hs:∀ es,starEach (e::es) X.env=(false,eval e X.env)::starEach es X.env:=by intro _;rfl):RA X (e::es) (qO te tr):=⟨zA ha hr.p (hs es)⟩
end
end L2
namespace L2
open PySem PySem.Spec PyProof.Rows
theorem range_any(n:Nat)(f:Nat->Bool)(bs:ay Bool)(hl:bs.length=n)(hf:∀ i b,bs[i]? = some b->f i=b):(List.range n).any f=bs.any id:=by
 rw[e9,eL,eL];constructor
 .rintro⟨i,hi,h⟩
  have hi':i<bs.length:=by rw[hl];exact List.mem_range.mp hi
  rw[hf i _ (gM hi')]at h;exact⟨_,jT hi',h⟩
 .rintro⟨b,hb,h⟩;obtain⟨i,e⟩:=List.mem_iff_getElem?.mp hb;have hi:=(fO.mp e).1;exact⟨i,List.mem_range.mpr (by lia),by rw[hf i b e];exact h⟩
theorem v9(hc:X.calm=true):lN X (.builtin "any") (fun xs H Q => ∃(p:av)(bs:ay Bool),xs=[.ref p]/\aV X.K H p (bs.map V.bl)/\Q (.bl (bs.any id)) H):=by
 intro _ s σ H xs _ Q I r h;obtain⟨p,bs,rfl,hq,q⟩:=h;obtain⟨u,rfl,rx⟩:=vals1 r
 cases rx
 obtain⟨its,rv,pl,_⟩:=I.list hq;have hlen:=rv.length;rw[bh]at hlen
 have hlt:p<s.heap.objs.size:=by
  obtain⟨o,ho,_⟩:=pl.isList;exact iU ho
 refine call_any_walk (wpAny_pyIter_list pl.isList ?_)
 refine⟨s.heap.objs.size,[s.heap.objs.size,p],[s.heap.objs.size],its.toArray.size,fun i v=>its.toArray[i]? = some v,fun i h=>h.IsListIter s.heap.objs.size p i/\h.IsList p its.toArray,fun i=>(bs[i]?).getD true,rfl,
  Walks.list (A:=X.A.in1) (I.ok.hd hc) _ _ (lO hlt) _,⟨⟨_,zr _ rfl,rfl,rfl⟩,pl.isList.at fun o e=>j8 _ e⟩,?_,?_⟩
 .intro i v s' Q' _ hv hQ'
  have hi:i<bs.length:=by
   have:=(dQ.mp hv).1;simp only[List.size_toArray]at this;lia
  have e:bs[i]? = some bs[i]:=gM hi;obtain⟨u,hu,ru⟩:=rv.get (i:=i) (x:=V.bl bs[i]) (by rw[dD,e];rfl)
  have hv':its[i]? = some v:=by simpa using hv
  rw[hu]at hv'
  cases hv'
  cases ru
  have hQ2:Q' ((bs[i]?).getD true) s':=hQ';rw[e]at hQ2;exact wpAny_truthy_bool hQ2
 .intro h' tk k;refine⟨.bl (bs.any id),H,I.kept (t':=tk) (h':=h') fun b u e=>k b u (fun z=>?_) (j8 _ e),?_,q⟩
  .have z':b=s.heap.objs.size:=by simpa using z
   exact dP (iU e) (by rw[z'];exact i0 _)
  .show Value.bool _=Value.bool _;rw[range_any its.toArray.size _ bs (by simp only[List.size_toArray];exact hlen) fun i b e=>by rw[e];rfl]
def Itd(top:Int)(n:Nat):It:=⟨fun i _=>i<n,fun i H x H'=>H'=H/\x = .int (top-i),fun i _=>n<=i⟩
theorem Ox{w:aI}{K:cL}{tg:Expr}(it:av)(top:Int)(n:Nat):Turn P w K tg (Itd top n) [it] it (fun i h=>IsRangeIter h it (top+(i:Nat)*(-1)) ((n:Int)-(i:Nat)) (-1)) where
 mem:=by simp
 obj:=fun i h st b hb=>by
  obtain rfl:b=it:=by simpa using hb
  refine⟨_,st,fun v z=>?_⟩;have z2:=z
  cases z2
 keep:=fun i h h' st k=>k it (by simp) _ st
 item:=by
  intro X hP hw hK hc i pins s σ H E I hf st hg;subst hP hw hK;obtain⟨f0,f1,_,f3,f4,f5⟩:=hf it (by simp);refine (Walks.range (prog:=X.prog) (w:=X.w) (I.ok.hd hc) it top (-1) n).item i s _ _ hg st fun v h' tk hv st' kk=>?_;obtain⟨t,rfl⟩:=hv;have I1:Inv X pins σ H { s with heap:=h',toks:=tk }:=I.turned (fun b o hb e=>kk b o (by simpa using hb) e) f0 f1 f3 f4 f5
  have ev:top+(i:Int)*(-1)=top-i:=by lia
  refine⟨_,rfl,O4 (n := "range_iterator") st' rfl rfl (by decide) ⟨.int (top-i),H,I1,⟨t,by rw[<-ev]⟩,⟨rfl,rfl⟩,st',fun b hb=>(hf b hb).1⟩⟩
 done:=by
  intro X hP hw hK hc i pins s σ H E I hf st hg;subst hP hw hK;obtain⟨f0,f1,_,f3,f4,f5⟩:=hf it (by simp);have hn:n<=i:=hg;exact wpAny_pyNext_range_end (I.ok.hd hc) st (by lia) fun h' eb=>⟨rfl,I.turned (t':=s.toks) (fun b o hb e=>eb b o hb e) f0 f1 f3 f4 f5⟩
 self:=fun _ _ _ _ _ st h=>wpAny_pyIter_rangeiter st h
theorem YL(I:Inv X pins σ H s)(h1 : -(2 ^ 62)<=x)(h2:x<2 ^ 62)(h3 : -(2 ^ 62)<=y)(h4:y<2 ^ 62)
  (q:R (Itd x (x-y).toNat) H):wpAny (model X.prog X.w) X.A (pyIter (.ref s.heap.objs.size)) (PIE X pins σ tg R) E { s with heap:=s.heap.push { cls:=.type "range",data:=.fields #[.int x t,.int y u,.int (-1) v] },toks:=tk }:=by
 refine wpAny_pyIter_range (IsRange.new ..) (PySem.W.small_down h1 h2 h3 h4) ?_;have I1:Inv X pins σ H { s with heap:=s.heap.push { cls:=.type "range",data:=.fields #[.int x t,.int y u,.int (-1) v] },toks:=tk }:=I.kept fun b o e=>j8 _ e
 refine⟨(s.heap.push { cls:=.type "range",data:=.fields #[.int x t,.int y u,.int (-1) v] }).objs.size,[(s.heap.push { cls:=.type "range",data:=.fields #[.int x t,.int y u,.int (-1) v] }).objs.size],_,_,H,rfl,
  I1.kept (t':=tk) fun b o e=>j8 _ e,Ox _ x (x-y).toNat,?_,fun b hb=>?_,q⟩
 .have e1:x+((0:Nat):Int)*(-1)=x:=by simp
  have e2:(((x-y).toNat:Nat):Int)-((0:Nat):Int)=Builtin.Range.rangeSize x y (-1):=by rw[PySem.W.rangeSize_downNat];simp
  rw[e1,e2];exact zr _ rfl
 .obtain rfl:b=(s.heap.push { cls:=.type "range",data:=.fields #[.int x t,.int y u,.int (-1) v] }).objs.size:=by simpa using hb
  exact I1.ym (bN _) (I1.hok.fresh (bN _))
def qE2(ta:TA):TI:=fun σ H R=>ta σ H fun vs H1 => ∃ i:Int,vs=[.int i,.int (-1),.int (-1)] /\ -1<=i/\i<2 ^ 62/\R (Itd i (i-(-1)).toNat) H1
theorem X5(hg:Gl X "range")(hm:X.mg "range" = none)(ha:PA X [a,b,c] ta)(hs:starEach [a,b,c] X.env=[(false,eval a X.env),(false,eval b X.env),(false,eval c X.env)]:=by rfl)(hs2:starEach [b,c] X.env=[(false,eval b X.env),(false,eval c X.env)]:=by rfl) :
  PI X tg (.Call (.Name "range" p) [a,b,c] [] pos) (qE2 ta):=by
 intro pins s σ H R I h;refine Call_ (oW I hg hm boot_range (kf (bI (ha pos pins s σ H _ I h) fun _ _ ⟨_,_,I1,r1,q1⟩=>?_) (by rw[hs,hs2]) (by rw[hs2];rfl)));obtain⟨i,e,q1,q2,q⟩:=q1;subst e
 cases r1 with
 | cons r rr=>
  cases rr with
  | cons r' rr=>
   cases rr with
   | cons r2 rr=>
    cases rr
    obtain⟨t,rfl⟩:=r;obtain⟨_,rfl⟩:=r';obtain⟨_,rfl⟩:=r2;exact call_range_3 (by decide) (YL I1 (by lia) q2 (by decide) (by decide) q) (.inl (PyProof.noPylong_small (by decide)))
theorem Uo{n:Nat}{g:TG}{tb:TS}{D:Ends}{σ:St}{H:Hp}(Pv:Nat->St->Hp->Prop)(h0:Pv 0 σ H)
  (hs:∀ i σ H,i<n->Pv i σ H->g (.int (top-i)) σ H fun σ2 H2=>tb { D with nx:=Pv (i+1),ct:=Pv (i+1),bk:=D.nx } σ2 H2) (hd:∀ σ H,Pv n σ H->D.nx σ H) :
  ∃ W:Nat->Nat->St->Hp->Prop,(∃ m,W 0 m σ H)/\∀ i m σ H,W i m σ H →
   ((Itd top n).stop i H/\D.nx σ H)∨((Itd top n).go i H/\∃ N:St->Hp->Prop,(∀ σ' H',N σ' H'->∃ m',m'<m/\W (i+1) m' σ' H')/\∀ x H',(Itd top n).WD i H x H'->g x σ H' fun σ2 H2=>tb { D with nx:=N,ct:=N,bk:=D.nx } σ2 H2):=by
 refine⟨fun i m σ H=>m+i=n/\Pv i σ H,⟨n,rfl,h0⟩,?_⟩;rintro i m σ H ⟨_,p⟩
 by_cases hlt:i<n
 .refine .inr ⟨hlt,Pv (i+1),fun σ' H' p'=>⟨m-1,by lia,by lia,p'⟩,fun x H' y=>?_⟩;obtain⟨rfl,rfl⟩:=y;exact hs i σ _ hlt p
 .obtain rfl:i=n:=by lia
  exact .inl ⟨bN _,hd σ H p⟩
end L2
namespace PySem
open Sem (wp)
namespace Rv
end Rv
end PySem
namespace L2
open PySem PySem.Spec PyProof.Rows
theorem oN:jh X (binaryOp .Add) (fun x y H Q => ∃ a b ys,x = .ref a/\y = .ref b/\aM X.K H a []/\aM X.K H b ys/\Q (.ref b) H):=by
 intro _ s σ H x y v u Q I rx ry h;obtain⟨a,b,ys,rfl,rfl,ha,hb,q⟩:=h
 cases rx
 cases ry
 obtain⟨_,r1,p1,_⟩:=I.tuple ha;obtain⟨_,_,p2,_⟩:=I.tuple hb;have e0:=r1.tG.mpr rfl;subst e0;obtain⟨⟨_,dd,_,sl⟩,ho,hc,n,hd⟩:=id p1;obtain⟨⟨_,dd2,_,sl2⟩,ho2,hc2,n2,hd2⟩:=id p2;simp only at hc hd hc2 hd2;subst hc hd hc2 hd2;exact concat_meets ⟨_,ho,rfl⟩ ⟨_,ho2,rfl⟩ noFill_tuple_add seq_tuple_add PySem.F.slot_tuple_add PySem.F.entry_tuple_add (PySem.F.args_tuple_add_2 _ _) (tuple_addW0 a b _ _ n n2 dd dd2 sl sl2 (by simp)) ⟨ho,ho2,⟨.ref b,H,I,rfl,q⟩⟩
end L2
namespace L2
open PySem
end L2
namespace Tr
noncomputable def qY(ds:ay Int)(d:Int):Nat->aE Nat
 | 0=>none
 | j+1=>if ds.getD j 0<d then some j else qY ds d j
def par(ds:ay Int)(k:Nat):aE Nat:=qY ds (ds.getD k 0) k
theorem qt:∀ {k j:Nat},j<k->ds.getD j 0<d->(∀ i,j<i->i<k->d<=ds.getD i 0)->qY ds d k=some j
 | 0,j,h,_,_=>by lia
 | k+1,j,h,hd,ha=>by
  unfold qY
  by_cases e:j=k
  .subst e;rw[cE hd]
  .have:=ha k (by lia) (by lia);rw[cy (by lia)];exact qt (by lia) hd fun i h1 _=>ha i h1 (by lia)
theorem xf:∀ {k:Nat},(∀ i,i<k->d<=ds.getD i 0)->qY ds d k=none
 | 0,_=>rfl
 | k+1,h=>by
  unfold qY;have:=h k (by lia);rw[cy (by lia)];exact xf fun i _=>h i (by lia)
theorem xg:∀ {k j:Nat},qY ds d k=some j->j<k/\ds.getD j 0<d/\∀ i,j<i->i<k->d<=ds.getD i 0
 | 0,j,h=>by cases h
 | k+1,j,h=>by
  unfold qY at h
  split at h
  .cases h;exact⟨by lia,by assumption,fun i h1 h2=>by lia⟩
  .rename_i hn
   obtain⟨a,b,c⟩:=xg h;refine⟨by lia,b,fun i h1 h2=>?_⟩
   by_cases e:i=k
   .subst e;lia
   .exact c i h1 (by lia)
theorem oM(h:par ds k=some j):j<k:=(xg h).1
structure Good(ds:List Int):Prop where
 pos:0<ds.length
 first:ds.getD 0 0=0
 next:∀ k,k+1<ds.length->1<=ds.getD (k+1) 0/\ds.getD (k+1) 0<=ds.getD k 0+1
theorem Good.nonneg(g:Good ds):∀ k,k<ds.length->0<=ds.getD k 0
 | 0,_=>by rw[g.first];exact Int.le_refl _
 | k+1,h=>by have:=g.next k h;lia
theorem Good.snoc(g:Good ds)(h1:1<=v)(h2:v<=ds.getD (ds.length-1) 0+1):Good (ds++[v]):=by
 have hp:=g.pos
 have old:∀ k,k<ds.length->(ds++[v]).getD k 0=ds.getD k 0:=fun k hk=>by
  rw[jU,jU,vY hk]
 have new:(ds++[v]).getD ds.length 0=v:=by
  rw[jU,R0 (bN _)];simp
 refine⟨by simp,by rw[old 0 hp];exact g.first,fun k hk=>?_⟩;rw[dj,gK]at hk
 by_cases e:k+1<ds.length
 .rw[old _ e,old k (by lia)];exact g.next k e
 .have e':k+1=ds.length:=by lia
  rw[old k (by lia),e',new,show k=ds.length-1 by lia];exact⟨h1,h2⟩
theorem Good.one:Good [0]:=⟨by decide,rfl,fun k h=>by simp at h⟩
structure Above(ds:List Int)(k:Nat)(s:List Nat):Prop where
 len:(s.length:Int)=ds.getD k 0+1
 top:s[(ds.getD k 0).toNat]? = some k
 le:∀(i v:Nat),s[i]? = some v->v<=k/\ds.getD v 0=(i:Int)/\∀ j,v<j->j<=k->(i:Int)<ds.getD j 0
noncomputable def gf(ds:ay Int)(r n:Nat):ay Nat:=(List.range n).filter fun j=>par ds j==some r
def kids(ds:ay Int)(r:Nat):ay Nat:=gf ds r ds.length
theorem jd(ds:ay Int)(r n:Nat):gf ds r (n+1)=gf ds r n++if par ds n==some r then [n] else []:=by unfold gf;rw[gu,eW];congr 1;rw[f6];simp
theorem Kl(ds:ay Int)(r n:Nat):(gf ds r n).length<=n:=by unfold gf;refine bq (uN _ _) ?_;simp
def R5(ds:ay Int):Nat->Nat->ay Nat
 | 0,_=>[]
 | f+1,k=>match par ds k with
  | none=>[]
  | some j=>j::R5 ds f j
def ups(ds:ay Int)(k:Nat):ay Nat:=R5 ds k k
theorem wR(ds:ay Int):∀ f k,k<=f->R5 ds f k=R5 ds k k
 | f,0,_=>by
  cases f with
  | zero=>rfl
  | succ f=>rfl
 | 0,k+1,h=>by lia
 | f+1,k+1,h=>by
  show (match par ds (k+1) with | none=>[] | some j=>j::R5 ds f j)=(match par ds (k+1) with | none=>[] | some j=>j::R5 ds k j)
  cases e:par ds (k+1) with
  | none=>rfl
  | some j=>
   have hj:=oM e;show j::R5 ds f j=j::R5 ds k j;rw[wR ds f j (by lia),wR ds k j (by lia)]
theorem wQ(h:par ds k=none):ups ds k=[]:=by
 unfold ups
 cases k with
 | zero=>rfl
 | succ k=>
  show (match par ds (k+1) with | none=>[] | some j=>j::R5 ds k j)=[];rw[h]
theorem rQ(h:par ds k=some j):ups ds k=j::ups ds j:=by
 have hj:=oM h;unfold ups
 cases k with
 | zero=>lia
 | succ k=>
  show (match par ds (k+1) with | none=>[] | some j=>j::R5 ds k j)=_;rw[h];show j::R5 ds k j=_;rw[wR ds k j (by lia)]
theorem R4:∀ {k v:Nat},v∈ups ds k->v<k:=by
 intro k
 induction k using Nat.strongRecOn with
 | ind k ih=>
  intro v hv
  cases e:par ds k with
  | none=>
   rw[wQ e]at hv
   cases hv
  | some j=>
   have hj:=oM e;rw[rQ e]at hv;rcases bL.mp hv with rfl | h
   .exact hj
   .have:=ih j hj h;lia
noncomputable def hall(ds:ay Int)(isOne:Nat->Bool)(a b:Nat):aE Nat:=(ups ds a).find? fun x=>(ups ds b).contains x&&isOne x
def bV(ds:ay Int)(a b:Nat):Bool:=(ups ds a).contains b
theorem Hm(h:par ds a=some j):bV ds a b=(j==b||bV ds j b):=by unfold bV;rw[rQ h,List.contains_cons];congr 1;exact Bool.eq_iff_iff.mpr ⟨fun z=>by simpa using (eq_of_beq z).symm,fun z=>by simpa using (eq_of_beq z).symm⟩
structure DG(ds:List Int)(k e:Nat):Prop where
 lt:k<e
 le:e<=ds.length
 ins:∀ j,k<j->j<e->ds.getD k 0<ds.getD j 0
 out:e<ds.length->ds.getD e 0<=ds.getD k 0
theorem Gy:∀ {k:Nat},qY ds d k=none->∀ i,i<k->d<=ds.getD i 0
 | 0,_,i,h=>by lia
 | k+1,e,i,h=>by
  unfold qY at e
  split at e
  .cases e
  .rename_i hn
   by_cases q:i=k
   .subst q;lia
   .exact Gy e i (by lia)
theorem NK:par ds j=some k↔k<j/\ds.getD k 0<ds.getD j 0/\∀ i,k<i->i<j->ds.getD j 0<=ds.getD i 0:=
 ⟨fun h=>xg h,fun ⟨a,b,c⟩=>qt a b c⟩
theorem Xu:∀ a b,b∈ups ds a↔b<a/\∀ j,b<j->j<=a->ds.getD b 0<ds.getD j 0:=by
 intro a
 induction a using Nat.strongRecOn with
 | ind a ih=>
  intro b
  cases e:par ds a with
  | none=>
   rw[wQ e];refine⟨fun z=>(by cases z),fun ⟨h1,h2⟩=>?_⟩;have:=Gy e b h1;have:=h2 a h1 (bN _);lia
  | some p=>
   obtain⟨hp,hd,ha⟩:=NK.mp e;rw[rQ e,bL,ih p hp b];constructor
   .rintro (rfl | ⟨h1,h2⟩)
    .refine⟨hp,fun j j1 j2=>?_⟩
     by_cases q:j=a
     .rw[q];exact hd
     .have:=ha j j1 (by lia);lia
    .refine⟨by lia,fun j j1 j2=>?_⟩
     by_cases q:j<=p
     .exact h2 j j1 q
     .have z:=h2 p h1 (bN _)
      by_cases q2:j=a
      .rw[q2];lia
      .have:=ha j (by lia) (by lia);lia
   .rintro⟨h1,h2⟩
    by_cases q:b=p
    .exact .inl q
    .right
     have z:=h2 a h1 (bN _)
     by_cases q2:p<b
     .have:=ha b q2 h1;lia
     .exact⟨by lia,fun j j1 j2=>h2 j j1 (by lia)⟩
theorem xu(h:DG ds b e)(ha:a<ds.length):bV ds a b=(decide (b<a)&&decide (a<e)):=by
 unfold bV;rw[e9,List.contains_iff_mem,Xu,dS,decide_eq_true_iff,decide_eq_true_iff];constructor
 .rintro⟨h1,h2⟩;refine⟨h1,?_⟩
  by_cases q:a<e
  .exact q
  .have:=h2 e h.lt (by lia);have:=h.out (by lia);lia
 .rintro⟨h1,h2⟩;exact⟨h1,fun j j1 _=>h.ins j j1 (by lia)⟩
theorem NP(g:Good ds)(h:DG ds k e)(hj:j<ds.length):(par ds j=some k)↔(k<j/\j<e/\ds.getD j 0=ds.getD k 0+1):=by
 rw[NK];constructor
 .rintro⟨h1,h2,h3⟩;refine⟨h1,?_,?_⟩
  .by_cases q:j<e
   .exact q
   .have:=h.out (by have:=h.lt;lia)
    by_cases q2:j=e
    .subst q2;lia
    .have:=h3 e h.lt (by lia);lia
  .have n:=g.next k (by lia)
   by_cases q:j=k+1
   .subst q;lia
   .have:=h3 (k+1) (by lia) (by lia);lia
 .rintro⟨h1,h2,h3⟩;refine⟨h1,by lia,fun i i1 _=>?_⟩;have:=h.ins i i1 (by lia);lia
theorem yX(ds:ay Int)(k:Nat):∀ n,n<=k+1->gf ds k n=[]
 | 0,_=>rfl
 | n+1,h=>by
  rw[jd,yX ds k n (by lia),cy]
  .rfl
  .intro z;have:=oM (eq_of_beq z);lia
theorem vU(g:Good ds)(h:DG ds k e):∀ n,e+n<=ds.length->gf ds k (e+n)=gf ds k e
 | 0,_=>rfl
 | n+1,hn=>by
  rw[show e+(n+1)=(e+n)+1 by lia,jd,vU g h n (by lia),cy,iB];intro z;have:=(NP g h (by lia)).mp (eq_of_beq z);lia
theorem U6(g:Good ds)(h:DG ds k e):kids ds k=gf ds k e:=by have q:=vU g h (ds.length-e) (by have:=h.le;lia);rw[show e+(ds.length-e)=ds.length by have:=h.le;lia]at q;exact q
def bears(ds:ay Int)(gs:ay Nat)(k:Nat):Bool:=gs.any fun g=>g==k||bV ds g k
noncomputable def next(ds:ay Int)(al:Nat->Bool)(gs:ay Nat)(p:Nat):ay Nat:=
 if al p=true then kids ds p else match (kids ds p).find? (bears ds gs) with
  | some k=>[k]
  | none=>(kids ds p).take 1
inductive qN(ds:List Int)(al:Nat->Bool)(gs:List Nat)(un:Option Nat):Nat->Prop where
 | top:un=none->qN ds al gs un 0
 | root {p k:Nat}:k∈next ds al gs p->un=some p->qN ds al gs un k
 | low {p k:Nat}:k∈next ds al gs p->qN ds al gs un p->qN ds al gs un k
theorem qN.kid(h:k∈next ds al gs p)(h':un=some p∨qN ds al gs un p):qN ds al gs un k:=by
 rcases h' with e | g
 .exact .root h e
 .exact .low h g
theorem xq:k∈kids ds r↔k<ds.length/\par ds k=some r:=by unfold kids gf;rw[nH,List.mem_range];exact⟨fun ⟨a,b⟩=>⟨a,eq_of_beq b⟩,fun ⟨a,b⟩=>⟨a,by rw[b];exact beq_self_eq_true _⟩⟩
theorem CG(ds:ay Int)(p:Nat):(kids ds p).Pairwise (· < ·):=by unfold kids gf;exact List.pairwise_lt_range.filter _
theorem HW(h:k∈next ds al gs p):k∈kids ds p:=by
 unfold next at h
 split at h
 .exact h
 .split at h
  .rename_i k' e
   rw[bJ.mp h];exact fz e
  .exact fA h
theorem jF(h:k∈next ds al gs p):par ds k=some p:=(xq.mp (HW h)).2
theorem Nf(h:k∈next ds al gs p):k<ds.length:=(xq.mp (HW h)).1
theorem Br(ds:ay Int)(al:Nat->Bool)(gs:ay Nat)(p:Nat):(next ds al gs p).Pairwise (· < ·):=by
 unfold next
 split
 .exact CG ds p
 .split
  .exact fT _ _
  .exact (CG ds p).sublist (List.take_sublist _ _)
theorem qN.lt(pos:0<ds.length)(h:qN ds al gs un k):k<ds.length:=by
 cases h with
 | top=>exact pos
 | root h _=>exact Nf h
 | low h _=>exact Nf h
theorem qN.over(h:qN ds al gs un k):∀ u,un=some u->u<k:=by
 induction h with
 | top e=>intro u e';rw[e]at e';cases e'
 | root h hp=>
  intro u e;rw[e]at hp
  cases hp
  exact oM (jF h)
 | low h _ ih=>
  intro u e;have:=oM (jF h);have:=ih u e;lia
structure pH(ds:List Int)(al:Nat->Bool)(gs:List Nat)(un:Option Nat)(gone ahead:List Nat):Prop where
 nd:(gone++ahead).Nodup
 ok:∀ x∈gone++ahead,qN ds al gs un x
 fr:∀ x∈gone++ahead,par ds x=un ∨ ∃ g∈gone,par ds x=some g
 st:un=none->0∈gone++ahead
 su:∀ u,un=some u->∀ x∈next ds al gs u,x∈gone++ahead
 cl:∀ g∈gone,∀ x∈next ds al gs g,x∈gone++ahead
theorem gW{l:ay Nat}(h:l.Pairwise (· < ·)):l.Nodup:=h.imp fun z=>lO z
theorem pH.none(ds:ay Int)(al:Nat->Bool)(gs:ay Nat):pH ds al gs none [] [0]:=
 ⟨by simp,fun x hx=>by rw[List.mem_singleton.mp hx];exact .top rfl,fun x hx=>by rw[List.mem_singleton.mp hx];exact .inl rfl,fun _=>List.mem_singleton.mpr rfl,fun u e=>(by cases e),fun g hg=>(by cases hg)⟩
theorem pH.some(ds:ay Int)(al:Nat->Bool)(gs:ay Nat)(u:Nat):pH ds al gs (some u) [] (next ds al gs u):=
 ⟨gW (Br ds al gs u),fun x hx=>.kid hx (.inl rfl),fun x hx=>.inl (jF hx),fun e=>(by cases e),fun v e x hx=>by cases e;exact hx,fun g hg=>(by cases hg)⟩
theorem pH.step(w:pH ds al gs un gone (a++[r])):pH ds al gs un (gone++[r]) (a++next ds al gs r):=by
 have gr:=w.ok r (by simp)
 have sub:∀ x,x∈gone++(a++[r])->x∈(gone++[r])++(a++next ds al gs r):=fun x hx=>by
  simp only[List.mem_append,List.mem_singleton]at hx ⊢;rcases hx with h | h | h
  .exact .inl (.inl h)
  .exact .inr (.inl h)
  .exact .inl (.inr h)
 have nr:r∉gone:=fun z=>by
  have:=(List.nodup_append.mp w.nd).2.2 r z r (by simp);exact this rfl
 have new:∀ x∈next ds al gs r,x∉gone++(a++[r]):=fun x hx z=>by
  have e:=jF hx;rcases w.fr x z with h | ⟨g,hg,h⟩
  .rw[e]at h;exact dP (gr.over r h.symm) (i0 _)
  .rw[e]at h
   cases h
   exact nr hg
 have p1:((gone++[r])++(a++next ds al gs r)).Perm ((gone++(a++[r]))++next ds al gs r):=by
  rw[bS,bS];refine List.Perm.append_left gone ?_;rw[<-bS];refine List.Perm.append_right _ ?_;exact List.perm_append_comm
 refine⟨?_,fun x hx=>?_,fun x hx=>?_,fun e=>sub _ (w.st e),fun u e x hx=>sub _ (w.su u e x hx),fun g hg x hx=>?_⟩
 .refine p1.nodup_iff.mpr (List.nodup_append.mpr ⟨w.nd,gW (Br ds al gs r),fun x hx y hy e=>?_⟩);subst e;exact new x hy hx
 .rcases cH.mp (p1.mem_iff.mp hx) with h | h
  .exact w.ok x h
  .exact .kid h (.inr gr)
 .rcases cH.mp (p1.mem_iff.mp hx) with h | h
  .rcases w.fr x h with h | ⟨g,hg,h⟩
   .exact .inl h
   .exact .inr ⟨g,ft _ hg,h⟩
  .exact .inr ⟨r,by simp,jF h⟩
 .rcases cH.mp hg with h | h
  .exact sub _ (w.cl g h x hx)
  .rw[bJ.mp h]at hx;simp [hx]
theorem pH.done(w:pH ds al gs un gone [])(k:Nat):k∈gone↔qN ds al gs un k:=by
 constructor
 .intro h;exact w.ok k (by simpa using h)
 .intro h
  induction h with
  | top e=>simpa using w.st e
  | root hk hp=>simpa using w.su _ hp _ hk
  | low hk _ ih=>simpa using w.cl _ ih _ hk
theorem fj:∀(n:Nat)(l:ay Nat),l.Nodup->(∀ k∈l,k<n)->l.length<=n
 | 0,l,_,h=>by
  cases l with
  | nil=>exact bN _
  | cons x l=>exact dP (h x wO) (Nat.not_lt_zero _)
 | n+1,l,hd,h=>by
  have e:=fj n (l.filter (· ≠ n)) (hd.filter _) fun k hk=>by
   obtain⟨a,b⟩:=nH.mp hk;have:=h k a
   have:k≠n:=by simpa using b
   lia
  have:l.length<=(l.filter (· ≠ n)).length+1:=by
   clear e h
   induction l with
   | nil=>exact bg _
   | cons x l ih=>
    obtain⟨h1,h2⟩:=fF.mp hd
    by_cases c:x=n
    .subst c
     have:l.filter (· ≠ x)=l:=by
      rw[List.filter_eq_self];intro a ha;have:a≠x:=fun z=>h1 (z▸ha)
      simpa using this
     rw[List.filter_cons,if_neg (by simp),this];exact bN _
    .rw[List.filter_cons,if_pos (by simpa using c),List.length_cons,List.length_cons];have:=ih h2;lia
  lia
theorem pH.len(pos:0<ds.length)(w:pH ds al gs un gone ahead):gone.length+ahead.length<=ds.length:=by rw[<-dj];exact fj _ _ w.nd fun k hk=>(w.ok k hk).lt pos
def W8(ds:ay Int)(al:Nat->Bool)(gs:ay Nat)(un:aE Nat)(os:ay Nat):Prop:=os.Pairwise (· < ·)/\∀ k,k∈os↔qN ds al gs un k
theorem W8.unique(h1:W8 ds al gs un a)(h2:W8 ds al gs un b):a=b:=
 L2.iG a b h1.1 h2.1 fun k=>(h1.2 k).trans (h2.2 k).symm
theorem W8.lt(pos:0<ds.length)(h:W8 ds al gs un os):∀ o∈os,o<ds.length:=fun o ho=>((h.2 o).mp ho).lt pos
theorem W8.len(pos:0<ds.length)(h:W8 ds al gs un os):os.length<=ds.length:=fj _ _ (gW h.1) (h.lt pos)
theorem Th(h:al p=true):next ds al gs p=kids ds p:=by unfold next;rw[cE h]
def under(ds:ay Int)(k:Nat):aE Nat->Bool
 | none=>true
 | some u=>bV ds k u
theorem BK(h:par ds k=some p)(hu:un=some p∨under ds p un=true):under ds k un=true:=by
 cases un with
 | none=>rfl
 | some u=>
  show bV ds k u=true;rw[Hm h,Bool.or_eq_true];rcases hu with e | e
  .injection e with e
   left
   rw[e];exact beq_self_eq_true _
  .exact .inr e
theorem qN.under(h:qN ds al gs un k):under ds k un=true:=by
 induction h with
 | top e=>
  subst e;rfl
 | root hk hp=>exact BK (jF hk) (.inl hp)
 | low hk _ ih=>exact BK (jF hk) (.inr ih)
end Tr
namespace L2
open PySem PySem.Spec PyProof.Rows
theorem iM:lN X (.builtin "isinstance") (fun xs H Q => ∃ x T t b,xs=[x,.ty T]/\vB X.K H x t/\PySem.W.kitOne X.K t (.type T)=some b/\Q (.bl b) H):=by
 intro _ s σ H xs _ Q I r h;obtain⟨x,T,t,b,rfl,ty,e,q⟩:=h;obtain⟨u,_,rfl,r1,r2⟩:=vals2 r
 cases r2
 exact QB I r1 ty e fun tk=>⟨.bl b,H,I.tok tk,rfl,q⟩
theorem qAU(K:cL):PySem.W.kitOne K (.type "int") (.type "int")=some true:=by rfl
theorem qAV(K:cL):PySem.W.kitOne K (.type "int") (.type "bool")=some false:=by rfl
end L2
namespace L2
open PySem
theorem zx{c:Bool}{A B:Prop}(h:c=true)(a:A):if c=true then A else B:=by rw[cE h];exact a
theorem nT{c:Bool}{A B:Prop}(h:c=false)(b:B):if c=true then A else B:=by rw[cy (by rw[h];decide)];exact b
end L2
namespace rF
open PySem L2
inductive Gd where
 | yes
 | is (b n:Int)
 | under (b n:Int)
 | inn (r:Int)
 | neg (g:Gd)
 | both (g h:Gd)
 | either (g h:Gd)
def Gd.ht:Gd->Nat
 | .yes=>1
 | .is _ _=>1
 | .under _ _=>1
 | .inn _=>1
 | .neg g=>g.ht+1
 | .both g h=>1+max g.ht h.ht
 | .either g h=>1+max g.ht h.ht
theorem Gd.qB4:∀ g:Gd,1<=g.ht
 | .yes=>bN _
 | .is _ _=>bN _
 | .under _ _=>bN _
 | .inn _=>bN _
 | .neg _=>Nat.succ_le_succ (bg _)
 | .both _ _=>Nat.le_add_right _ _
 | .either _ _=>Nat.le_add_right _ _
def at0(bx:ay Int)(b:Int):Int:=bx.getD b.toNat 0
noncomputable def Gd.holds(op bx:ay Int):Gd->Bool
 | .yes=>true
 | .is b n=>decide (V.int (at0 bx b)=V.int n)
 | .under b n=>decide (at0 bx b<n)
 | .inn r=>inV (.int r) (op.map V.int)
 | .neg g => !(g.holds op bx)
 | .both g h=>g.holds op bx&&h.holds op bx
 | .either g h=>g.holds op bx||h.holds op bx
def Gd.ok(nb:Nat):Gd->Prop
 | .yes=>True
 | .is b _=>0<=b/\b<(nb:Int)
 | .under b _=>0<=b/\b<(nb:Int)
 | .inn _=>True
 | .neg g=>g.ok nb
 | .both g h=>g.ok nb/\h.ok nb
 | .either g h=>g.ok nb/\h.ok nb
def aA(H H':Hp):Prop:=∀ b xs,H b=some (.tup xs)->H' b=some (.tup xs)
theorem aA.refl(H:Hp):aA H H:=fun _ _ h=>h
theorem aA.trans(a:aA H H1)(b:aA H1 H2):aA H H2:=fun c xs h=>b c xs (a c xs h)
theorem aA.of(s:aG H H'):aA H H':=fun b _ h=>s b _ h
theorem aA.lst(h:H p=some (.lst xs))(o:HO):aA H (upd H p o):=fun b _ e=>by
 rw[zQ (cJ e h (by intro z;cases z))];exact e
theorem aA.new(h:H p=none)(o:HO):aA H (upd H p o):=.of (zF h o)
theorem cB(hp:H p=none)(s:aG H H')(o:HO):aG H (upd H' p o):=fun b u e=>by
 rw[zQ (zM e hp)];exact s b u e
inductive jt(H:Hp):V->Gd->Prop where
 | yes {a:Addr}:H a=some (.tup [.str "yes"])->jt H (.ref a) .yes
 | is {a:Addr} {b n:Int}:H a=some (.tup [.str "is",.int b,.int n])->jt H (.ref a) (.is b n)
 | under {a:Addr} {b n:Int}:H a=some (.tup [.str "under",.int b,.int n])->jt H (.ref a) (.under b n)
 | inn {a:Addr} {r:Int}:H a=some (.tup [.str "in",.int r])->jt H (.ref a) (.inn r)
 | neg {a:Addr} {v:V} {g:Gd}:H a=some (.tup [.str "not",v])->jt H v g->jt H (.ref a) (.neg g)
 | both {a:Addr} {v u:V} {g h:Gd}:H a=some (.tup [.str "both",v,u])->jt H v g->jt H u h->jt H (.ref a) (.both g h)
 | either {a:Addr} {v u:V} {g h:Gd}:H a=some (.tup [.str "either",v,u])->jt H v g->jt H u h->jt H (.ref a) (.either g h)
theorem jt.mono(x:jt H v g)(k:aA H H'):jt H' v g:=by
 induction x with
 | yes e=>exact .yes (k _ _ e)
 | is e=>exact .is (k _ _ e)
 | under e=>exact .under (k _ _ e)
 | inn e=>exact .inn (k _ _ e)
 | neg e _ i=>exact .neg (k _ _ e) i
 | both e _ _ i j=>exact .both (k _ _ e) i j
 | either e _ _ i j=>exact .either (k _ _ e) i j
theorem yN{x y:Str}{A B:Prop}(h:¬ x=y)(b:B):if decide (V.str x=V.str y)=true then A else B:=by
 rw[cy]
 .exact b
 .intro z;have z':=ba z;injection z' with z'';exact h z''
theorem yO{x:Str}{A B:Prop}(a:A):if decide (V.str x=V.str x)=true then A else B:=by rw[cE (bp rfl)];exact a
theorem za{bx:ay Int}{b:Int}(h0:0<=b)(h1:b<(bx.length:Int)):rK (bx.map V.int) b=some (.int (at0 bx b)):=by
 have hk:b.toNat<bx.length:=by lia
 have e:(bx.map V.int)[b.toNat]? = some (.int (at0 bx b)):=by
  rw[dD,gM hk];unfold at0;rw[jU,gM hk];rfl
 have q:=yQ e;rw[eI h0]at q;exact q
theorem uz(op:ay Int):(op.map V.int).all pA=true:=by rw[eJ];intro x hx;obtain⟨n,_,rfl⟩:=dU.mp hx;rfl
end rF
namespace Cv
open PySem L2 rF
structure Rm where
 nm:Str
 kind:Str
 depth:Int
 keeps:Str
 Hy:Str
 ins:V
 outs:V
def Le(H:Hp)(v:V)(r:Rm):Prop:=∃ a:av,v = .ref a/\H a=some (.tup [.str r.nm,.str r.kind,.int r.depth,.str r.keeps,.str r.Hy,r.ins,r.outs])
inductive iZ(H:Hp):List V->List Rm->Prop where
 | nil:iZ H [] []
 | cons {v:V} {r:Rm} {vs:List V} {rs:List Rm}:Le H v r->iZ H vs rs->iZ H (v::vs) (r::rs)
theorem Le.mono(x:Le H v r)(k:aA H H'):Le H' v r:=by obtain⟨a,e,h⟩:=x;exact⟨a,e,k _ _ h⟩
theorem iZ.mono(x:iZ H vs rs)(k:aA H H'):iZ H' vs rs:=by
 induction x with
 | nil=>exact .nil
 | cons h _ ih=>exact .cons (h.mono k) ih
theorem iZ.length(x:iZ H vs rs):vs.length=rs.length:=by
 induction x with
 | nil=>rfl
 | cons _ _ ih=>rw[cY,cY,ih]
theorem iZ.snoc(x:iZ H vs rs)(y:Le H v r):iZ H (vs++[v]) (rs++[r]):=by
 induction x with
 | nil=>exact .cons y .nil
 | cons h _ ih=>exact .cons h ih
theorem iZ.get(x:iZ H vs rs):∀ {k:Nat} {r:Rm},rs[k]? = some r->∃ v,vs[k]? = some v/\Le H v r:=by
 induction x with
 | nil=>intro k r h;simp at h
 | cons h _ ih=>
  intro k r e
  cases k with
  | zero=>
   simp at e;subst e;exact⟨_,rfl,h⟩
  | succ k=>exact ih (by simpa using e)
def dB(H:Hp)(t:av)(rs:ay Rm):Prop:=∃ vs,H t=some (.tup vs)/\iZ H vs rs
theorem dB.mono(x:dB H t rs)(k:aA H H'):dB H' t rs:=by obtain⟨vs,h,r⟩:=x;exact⟨vs,k _ _ h,r.mono k⟩
def aD(rs:ay Rm):ay Int:=rs.map (·.depth)
theorem yV(rs:ay Rm):(aD rs).length=rs.length:=bh _
theorem j7(h:rs[k]? = some r):(aD rs).getD k 0=r.depth:=by unfold aD;rw[jU,dD,h];rfl
theorem dB.at(x:dB H t rs)(h:k<rs.length):∃ vs a r,H t=some (.tup vs)/\vs.length=rs.length/\rs[k]? = some r/\rK vs ((k:Nat):Int)=some (.ref a)/\H a=some (.tup [.str r.nm,.str r.kind,.int r.depth,.str r.keeps,.str r.Hy,r.ins,r.outs]):=by obtain⟨vs,hv,hr⟩:=x;have e:=gM h;obtain⟨v,h1,a,rfl,h2⟩:=hr.get e;exact⟨vs,a,rs[k],hv,hr.length,e,yQ h1,h2⟩
def Fit(rs:ay Rm):Prop:=∀(k:Nat)(r:Rm),rs[k]? = some r->if k+1<rs.length/\(aD rs).getD k 0<(aD rs).getD (k+1) 0 then (r.kind = "one" ∨ r.kind = "all") else r.kind = "plain"
end Cv
namespace JS
open PySem L2 rF
inductive Dd where
 | say (w:Str)
 | set (b n:Int)
 | add (b n:Int)
 | send (e:Int)
inductive vG(H:Hp):V->Dd->Prop where
 | say {a:Addr} {w:Str}:H a=some (.tup [.str "say",.str w])->vG H (.ref a) (.say w)
 | set {a:Addr} {b n:Int}:H a=some (.tup [.str "set",.int b,.int n])->vG H (.ref a) (.set b n)
 | add {a:Addr} {b n:Int}:H a=some (.tup [.str "add",.int b,.int n])->vG H (.ref a) (.add b n)
 | send {a:Addr} {e:Int}:H a=some (.tup [.str "send",.int e])->vG H (.ref a) (.send e)
theorem vG.mono(x:vG H v d)(k:aA H H'):vG H' v d:=by
 cases x with
 | say e=>exact .say (k _ _ e)
 | set e=>exact .set (k _ _ e)
 | add e=>exact .add (k _ _ e)
 | send e=>exact .send (k _ _ e)
noncomputable def Dd.upd(sz bx:ay Int):Dd->ay Int
 | .set b n=>bx.set b.toNat n
 | .add b n=>bx.set b.toNat ((at0 bx b+n)%at0 sz b)
 | _=>bx
def Dd.box:Dd->aE Int
 | .set b _=>some b
 | .add b _=>some b
 | _=>none
def Dd.ok(nb:Nat)(d:Dd):Prop:=∀ b,d.box=some b->0<=b/\b<(nb:Int)
theorem Dd.Ly(sz bx:ay Int)(d:Dd):(d.upd sz bx).length=bx.length:=by cases d <;> simp [Dd.upd]
theorem Yb(h0:0<=b)(h1:b<(xs.length:Int)):at0 xs b∈xs:=by
 unfold at0
 have hk:b.toNat<xs.length:=by lia
 rw[jU,gM hk];exact jT hk
def BX:Sp:=fun vs H Q _ => ∃ vd tb ts d bx sz,vs=[vd,.ref tb,.ref ts]/\vG H vd d/\H tb=some (.tup (bx.map V.int))/\H ts=some (.tup (sz.map V.int))/\d.ok bx.length/\bx.length=sz.length/\bx.length<=6/\(∀ z∈sz,0<z) ∧
 ∀ t H',aG H H'->H' t=some (.tup ((d.upd sz bx).map V.int))->Q (.ref t) H'
end JS
namespace Qz
open PySem L2 rF
abbrev LA:=Hp->av->ay av->Nat->ay Int->Prop
structure qGD(C:Addr)(L:LA):Prop where
 keep:∀ {H H':Hp} {p:Addr} {fp:List Addr} {m:Nat} {l:List Int},L H p fp m l->(∀ b∈fp,∀ o,H b=some o->H' b=some o)->L H' p fp m l
 there:∀ {H:Hp} {p:Addr} {fp:List Addr} {m:Nat} {l:List Int},L H p fp m l->∀ b∈fp,H b≠none
 obj:∀ {H:Hp} {p:Addr} {fp:List Addr} {m:Nat} {l:List Int},L H p fp m l->∃ dx fs,H p=some (.ins C dx fs)/\fs.lookup ("add" : Str)=none/\fs.lookup ("taken" : Str)=none/\fs.lookup ("waiting" : Str)=none
structure bH(H H':Hp)(fp fp':List Addr):Prop where
 own:∀ b∈fp',b∈fp∨H b=none
 rest:∀ b o,H b=some o->b∉fp->H' b=some o
def added(m:Nat)(l:ay Int)(e:Int):ay Int:=if l.length<m then l++[e] else l
theorem Qh(h:l.length<=m):(added m l e).length<=m:=by
 unfold added
 split
 .rw[dj,gK];lia
 .exact h
def first:ay Int->V
 | []=>.non
 | e::_=>.int e
def Jk(C:av)(L:LA):Sp:=fun vs H Q _ => ∃(p dx:av)(m:Nat),vs=[.ref p,.int (m:Int)]/\H p=some (.ins C dx [])/\m<=12/\∀(fp:ay av)(H':Hp),L H' p fp m []->(∀ b∈fp,b=p∨H b=none)->(∀ b o,H b=some o->b≠p->H' b=some o)->Q .non H'
def Yt(L:LA):Sp:=fun vs H Q _ => ∃ p fp m l e,vs=[.ref p,.int e]/\L H p fp m l/\l.length<=m/\m<=12/\∀ fp' H',L H' p fp' m (added m l e)->bH H H' fp fp'->Q (.bl (decide (l.length<m))) H'
def M8(L:LA):Sp:=fun vs H Q _ => ∃ p fp m l,vs=[.ref p]/\L H p fp m l/\l.length<=m/\m<=12/\∀ fp' H',L H' p fp' m l.tail->bH H H' fp fp'->Q (first l) H'
def BP(L:LA):Sp:=fun vs H Q _ => ∃ p fp m l,vs=[.ref p]/\L H p fp m l/\l.length<=m/\m<=12/\∀ q fp' H',L H' p fp' m l->bH H H' fp fp'->H q=none->q∉fp'->H' q=some (.lst (l.map V.int))->Q (.ref q) H'
end Qz
namespace JS
open PySem L2 rF Qz
inductive Rc where
 | say (w:Str)
 | put (b v:Int)
 | send (e:Int)
 | lost (e:Int)
noncomputable def Rc.row:Rc->ay V
 | .say w=>[.str "say",.str w]
 | .put b v=>[.str "put",.int b,.int v]
 | .send e=>[.str "send",.int e]
 | .lost e=>[.str "lost",.int e]
inductive jN(H:Hp):List V->List Rc->Prop where
 | nil:jN H [] []
 | cons {a:Addr} {r:Rc} {vs:List V} {rs:List Rc}:H a=some (.tup r.row)->jN H vs rs->jN H (.ref a::vs) (r::rs)
theorem jN.mono(x:jN H vs rs)(k:aA H H'):jN H' vs rs:=by
 induction x with
 | nil=>exact .nil
 | cons h _ ih=>exact .cons (k _ _ h) ih
theorem jN.length(x:jN H vs rs):vs.length=rs.length:=by
 induction x with
 | nil=>rfl
 | cons _ _ ih=>rw[cY,cY,ih]
theorem jN.snoc(x:jN H vs rs)(y:H a=some (.tup r.row)):jN H (vs++[.ref a]) (rs++[r]):=by
 induction x with
 | nil=>exact .cons y .nil
 | cons h _ ih=>exact .cons h ih
inductive iT(H:Hp):List V->List Dd->Prop where
 | nil:iT H [] []
 | cons {v:V} {d:Dd} {vs:List V} {ds:List Dd}:vG H v d->iT H vs ds->iT H (v::vs) (d::ds)
theorem iT.mono(x:iT H vs ds)(k:aA H H'):iT H' vs ds:=by
 induction x with
 | nil=>exact .nil
 | cons h _ ih=>exact .cons (h.mono k) ih
theorem iT.length(x:iT H vs ds):vs.length=ds.length:=by
 induction x with
 | nil=>rfl
 | cons _ _ ih=>rw[cY,cY,ih]
theorem iT.snoc(x:iT H vs ds)(y:vG H v d):iT H (vs++[v]) (ds++[d]):=by
 induction x with
 | nil=>exact .cons y .nil
 | cons h _ ih=>exact .cons h ih
theorem iT.get(x:iT H vs ds):∀ {k:Nat} {v:V},vs[k]? = some v->∃ d,ds[k]? = some d/\vG H v d:=by
 induction x with
 | nil=>intro k v h;simp at h
 | cons h _ ih=>
  intro k v e
  cases k with
  | zero=>
   simp at e;subst e;exact⟨_,rfl,h⟩
  | succ k=>exact ih (by simpa using e)
def Dd.lin(m:Nat)(l:ay Int):Dd->ay Int
 | .send e=>added m l e
 | _=>l
noncomputable def Dd.rc(sz:ay Int)(m:Nat)(bx l:ay Int):Dd->Rc
 | .say w=>.say w
 | .set b n=>.put b (at0 ((Dd.set b n).upd sz bx) b)
 | .add b n=>.put b (at0 ((Dd.add b n).upd sz bx) b)
 | .send e=>if l.length<m then .send e else .lost e
def xT(sz:ay Int):ay Dd->ay Int->ay Int
 | [],bx=>bx
 | d::ds,bx=>xT sz ds (d.upd sz bx)
def Ag(m:Nat):ay Dd->ay Int->ay Int
 | [],l=>l
 | d::ds,l=>Ag m ds (d.lin m l)
def vZ(sz:ay Int)(m:Nat):ay Dd->ay Int->ay Int->ay Rc
 | [],_,_=>[]
 | d::ds,bx,l=>d.rc sz m bx l::vZ sz m ds (d.upd sz bx) (d.lin m l)
theorem Bd(sz:ay Int)(d:Dd):∀ ds bx,xT sz (ds++[d]) bx=d.upd sz (xT sz ds bx)
 | [],bx=>rfl
 | x::ds,bx=>Bd sz d ds _
theorem Bc(m:Nat)(d:Dd):∀ ds l,Ag m (ds++[d]) l=d.lin m (Ag m ds l)
 | [],l=>rfl
 | x::ds,l=>Bc m d ds _
theorem Bb(sz:ay Int)(m:Nat)(d:Dd):∀ ds bx l,vZ sz m (ds++[d]) bx l=vZ sz m ds bx l++[d.rc sz m (xT sz ds bx) (Ag m ds l)]
 | [],bx,l=>rfl
 | x::ds,bx,l=>by
  show _::vZ sz m (ds++[d]) _ _=_::(vZ sz m ds _ _++_);rw[Bb sz m d ds];rfl
theorem xR(sz:ay Int):∀ ds bx,(xT sz ds bx).length=bx.length
 | [],bx=>rfl
 | d::ds,bx=>by
  show (xT sz ds (d.upd sz bx)).length=_;rw[xR sz ds,d.Ly]
theorem xQ:∀ ds l,l.length<=m->(Ag m ds l).length<=m
 | [],l,h=>h
 | d::ds,l,h=>by
  refine xQ ds _ ?_
  cases d with
  | send e=>exact Qh h
  | _=>exact h
theorem sZ(sz:ay Int)(m:Nat):∀ ds bx l,(vZ sz m ds bx l).length=ds.length
 | [],_,_=>rfl
 | d::ds,bx,l=>by
  show (vZ sz m ds _ _).length+1=ds.length+1;rw[sZ sz m ds]
def yu(fp:ay av)(H:Hp):Hp:=fun b=>if b∈fp then none else H b
theorem qF(h:yu fp H b=some o):H b=some o/\b∉fp:=by
 unfold yu at h
 split at h
 .cases h
 .exact⟨h,by assumption⟩
theorem tY(h:H b=some o)(n:b∉fp):yu fp H b=some o:=by unfold yu;rw[cy n];exact h
theorem Ob(h:b∈fp):yu fp H b=none:=by unfold yu;rw[cE h]
def Rb(L:LA):Sp:=fun vs H Q _ => ∃ td tb ts p ds bx sz l dv fp m G,vs=[.ref td,.ref tb,.ref ts,.ref p]/\aG G H/\(∀ b∈fp,G b=none)/\G td=some (.tup dv)/\iT G dv ds/\G tb=some (.tup (bx.map V.int))/\G ts=some (.tup (sz.map V.int))/\L H p fp m l ∧
 (∀ d∈ds,d.ok bx.length)/\ds.length<=8/\bx.length=sz.length/\bx.length<=6/\(∀ z∈sz,0<z)/\l.length<=m/\m<=12 ∧
 ∀ t tb' pr rv fp' H',L H' p fp' m (Ag m ds l)->bH H H' fp fp'->H' t=some (.tup [.ref tb',.ref pr])->H' tb'=some (.tup ((xT sz ds bx).map V.int))->tb'∉fp'->H' pr=some (.lst rv)->H pr=none->jN H' rv (vZ sz m ds bx l)->Q (.ref t) H'
end JS
namespace L2
open PySem
theorem qD9(ha:PE X (.UnaryOp o e p) te)(hr:PA X es t):PA X (.UnaryOp o e p::es) (qO te t):=zA ha hr rfl
theorem qH5(ha:PE X (.BinOp a o b p) te)(hr:PA X es t):PA X (.BinOp a o b p::es) (qO te t):=zA ha hr rfl
end L2
namespace L2
open PySem PySem.Spec PyProof.Rows
def qCJ(p p':Int->Int->Bool)(ta tb tc:TE):TE:=fun σ H Q=>ta σ H fun x H1=>tb σ H1 fun y H2 => ∃ i j k,x = .int i/\y = .int j/\tc σ H2 (fun z H3=>z = .int k/\H3=H2)/\Q (.bl (p i j&&p' j k)) H2
theorem qA7(ho:jh X (compareOp op) (PQ fun i j=>.bl (p i j)))(ho':jh X (compareOp op') (PQ fun i j=>.bl (p' i j)))(ha:PE X a ta)(hb:PE X b tb)(hc:PE X c tc)
  (hm:lastMarks [op,op'] [b,c]=false:=by with_unfolding_all rfl):PE X (.Compare a [op,op'] [b,c] pos) (qCJ p p' ta tb tc):=by
 intro pins s σ H Q I h;refine Compare_chain (bI (ha pins s σ H _ I h) fun v s1 ⟨x,H1,I1,r1,q1⟩=>chain_link (bI (hb pins s1 σ H1 _ I1 q1) fun u s2 ⟨y,H2,I2,r2,q2⟩=>?_)) hm;obtain⟨i,j,k,rfl,rfl,tq,q⟩:=q2;refine bI (ho pins s2 σ H2 _ _ v u (fun z H3=>z = .bl (p i j)/\H3=H2) I2 r1 r2 ⟨i,j,rfl,rfl,rfl,rfl⟩) fun d s3 ⟨z,H3,I3,r3,e1,e2⟩=>?_;subst e1 e2
 cases r3
 refine wpAny_truthy_bool ?_
 cases e:p i j with
 | false=>
  rw[e,eu]at q;exact ite_ff ⟨.bl false,_,I3,rfl,q⟩
 | true=>
  rw[e,eA]at q
  exact ite_tt (chain_last (bI (hc pins s3 σ _ _ I3 tq) fun w' s4 ⟨_,_,I4,r4,e3,e4⟩=>by
   subst e3 e4
   exact ho' pins s4 σ _ _ _ u w' Q I4 r2 r4 ⟨j,k,rfl,rfl,q⟩))
theorem qA5(ho:jh X (compareOp op) (PQ fun i j=>.bl (p i j)))(ho':jh X (compareOp op') (PQ fun i j=>.bl (p' i j)))(ha:PE X a ta)(hb:PE X b tb)(hc:PE X c tc)
  (hm:lastMarks [op,op'] [b,c]=false:=by with_unfolding_all rfl):PT X (.Compare a [op,op'] [b,c] pos) (Yo (qCJ p p' ta tb tc)):=by
 intro pins s σ H Q I h;refine isTrue_chain (bI (ha pins s σ H _ I h) fun v s1 ⟨x,H1,I1,r1,q1⟩=>test_link (bI (hb pins s1 σ H1 _ I1 q1) fun u s2 ⟨y,H2,I2,r2,q2⟩=>?_)) hm;obtain⟨i,j,k,rfl,rfl,tq,_,ek,q⟩:=q2
 cases ek
 refine bI (ho pins s2 σ H2 _ _ v u (fun z H3=>z = .bl (p i j)/\H3=H2) I2 r1 r2 ⟨i,j,rfl,rfl,rfl,rfl⟩) fun d s3 ⟨z,H3,I3,r3,e1,e2⟩=>?_;subst e1 e2
 cases r3
 refine wpAny_truthy_bool ?_
 cases e:p i j with
 | false=>
  rw[e,eu]at q;exact ite_ff ⟨_,I3,q⟩
 | true=>
  rw[e,eA]at q;refine ite_tt (test_last (bI (hc pins s3 σ _ _ I3 tq) fun w' s4 ⟨_,H4,I4,r4,e3,e4⟩=>?_));subst e3 e4;refine bI (ho' pins s4 σ _ _ _ u w' (fun z H5=>z = .bl (p' j k)/\H5=H4) I4 r2 r4 ⟨j,k,rfl,rfl,rfl,rfl⟩) fun _ _ ⟨_,H5,I5,r5,e5,e6⟩=>?_;subst e5 e6
  cases r5
  exact wpAny_truthy_bool ⟨_,I5,q⟩
theorem fu{c:Bool}{A B:Prop}(h1:c=true->A)(h2:c=false->B):if c=true then A else B:=by
 cases c with
 | true=>
  rw[cE rfl];exact h1 rfl
 | false=>
  rw[cy qg];exact h2 rfl
theorem uh:fillsNumberSlot (.type "tuple") "mul" = pure false:=
 PySem.fillsNumberSlot_seq F.slot_tuple_mul.lookup (by ext y) F.slot_tuple_rmul.lookup (by ext y)
theorem Dw:seqRepeat? (.type "tuple")=pure (some (.builtin "tuple.__mul__")):=by unfold seqRepeat?;rw[PySem.seqSlot_of (T := "tuple") (name := "__mul__") (id := "tuple.__mul__") F.slot_tuple_mul.lookup (by ext y),PySem.seqSlot_of (T := "tuple") (name := "__rmul__") (id := "tuple.__rmul__") F.slot_tuple_rmul.lookup (by ext y)];rfl
theorem Ju(a:Int)(t:Tok)(l:av)(items:Array ax)(n:Nat)(dd:aE av)(sl:Array (aE ax)) :
  Meets (Builtin.«int.__rmul__» ⟨[.int a t,.ref l],[]⟩) (fun _ R s=>s.heap.get? l=some { cls:=.type "tuple",dict:=dd,data:=.seq items n,slots:=sl }/\R (.ok (.ret Value.notImplemented)) s):=
 .of_wp fun _ w A R s h=>by obtain⟨_,g,d,_,_⟩:=s;obtain⟨_,h⟩:=h;wp_walk;exact⟨_,rfl,h⟩
theorem R8(l:av)(items:Array ax)(n:Nat)(dd:aE av)(sl:Array (aE ax))(x:Int)(u:Tok)(hx:x=1) :
  Meets (Builtin.«tuple.__mul__» ⟨[.ref l,.int x u],[]⟩) (fun _ R s=>s.heap.get? l=some { cls:=.type "tuple",dict:=dd,data:=.seq items n,slots:=sl }/\R (.ok (.ret (Value.ref l))) { s with heap:=s.heap,toks:=s.toks }):=
 .of_wp fun _ w A R s h=>by
  subst hx;obtain⟨_,g,d,_,_⟩:=s;obtain⟨hl,h⟩:=h;have f1:=AutoSeq1.idx_int
  wp_walk using wpAny_loadPart' hl
  exact⟨_,rfl,h⟩
theorem R7(l:av)(items:Array ax)(n:Nat)(dd:aE av)(sl:Array (aE ax))(x:Int)(u:Tok)(h2:2<=x)(hc:¬ items.isEmpty=true)(hz:items.size*x<=(sizeLine:Int))(hf:((List.replicate x.toNat items).foldl (· ++ ·) #[]).size<=sizeLine) :
  Meets (Builtin.«tuple.__mul__» ⟨[.ref l,.int x u],[]⟩) (fun _ R s=>s.heap.get? l=some { cls:=.type "tuple",dict:=dd,data:=.seq items n,slots:=sl }/\R (.ok (.ret (Value.ref s.heap.objs.size))) { s with heap:=s.heap.push { cls:=Value.type "tuple",data:=Data.seq ((List.replicate x.toNat items).foldl (· ++ ·) #[]) },toks:=s.toks }):=
 .of_wp fun _ w A R s h=>by
  obtain⟨_,g,d,_,_⟩:=s;obtain⟨hl,h⟩:=h;have f1:=AutoSeq1.idx_int
  have hp0:1<=items.size:=by
   refine Nat.pos_of_ne_zero fun z=>hc ?_;rw[Array.isEmpty_iff];exact Array.eq_empty_of_size_eq_zero z
  have hxs:x<=(sizeLine:Int):=by
   have:(1:Int)*x<=items.size*x:=Int.mul_le_mul_of_nonneg_right (by lia) (by lia);lia
  have e1:(sizeLine:Int)<2 ^ 62:=by decide
  have c1:¬ (decide (x < -(2 ^ 63))||decide (x≥2 ^ 63))=true:=by
   rw[bo (by lia),bo (by lia)];decide
  have c2:¬ (items.isEmpty||x==1)=true:=by
   intro z;rcases Bool.or_eq_true_iff.mp z with z | z
   .exact hc z
   .have:=eq_of_beq z;lia
  have c3:¬ (decide (x<=0)||items.isEmpty)=true:=by
   intro z;rcases Bool.or_eq_true_iff.mp z with z | z
   .have:=ba z;lia
   .exact hc z
  have e2:(sizeLine:Int)<(2 ^ 63-1)/8:=by decide
  have c4:¬ ((items.size:Int)*x>(2 ^ 63-1)/8):=by lia
  have c5:¬ Builtin.Tuple.tupleTooMany ((items.size:Int)*x)=true:=by
   unfold Builtin.Tuple.tupleTooMany;intro z;have:=ba z;lia
  wp_walk using wpAny_loadPart' hl
  refine wpAny_ite_false (bo c1) ?_
  wp_walk using wpAny_loadPart' hl
  refine wpAny_ite_false (bo c2) ?_
  wp_walk using wpAny_loadPart' hl
  refine wpAny_ite_false (bo c3) ?_
  wp_walk using wpAny_loadPart' hl
  refine wpAny_ite_false (bo c4) ?_
  wp_walk using wpAny_loadPart' hl
  exact⟨_,rfl,h⟩
def qD4(K:cL):R2:=fun x y H Q => ∃ a k xs,x = .ref a/\y = .int k/\aM K H a xs/\xs≠[]/\1<=k/\xs.length*k<=(sizeLine:Int)/\(k=1->Q (.ref a) H)/\(2<=k->∀ p,H p=none->Q (.ref p) (upd H p (.tup (List.replicate k.toNat xs).flatten)))
theorem XJ:jh X (binaryOp .Mult) (qD4 X.K):=by
 intro _ s σ H x y v u Q I rx ry h;obtain⟨a,k,xs,rfl,rfl,ha,hne,_,hz,q1,q2⟩:=h
 cases rx
 obtain⟨t,rfl⟩:=ry;obtain⟨its,r1,p1,_⟩:=I.tuple ha;have hl:=r1.length;have hni:its≠[]:=fun z=>hne (r1.tG.mp z);obtain⟨⟨_,dd,_,sl⟩,ho,hc,n,hd⟩:=id p1;simp only at hc hd;subst hc hd
 have f0:∀ m:Nat,List.foldl (fun x1 x2=>x1++x2) #[] (List.replicate m its.toArray)=(List.replicate m its).flatten.toArray:=fun m=>by
  have:=foldl_rep its m [];rw[List.nil_append]at this;exact this
 have hmul:(List.replicate k.toNat xs).flatten.length<=sizeLine:=by
  rw[len_rep]
  have e:((k.toNat*xs.length:Nat):Int)=xs.length*k:=by
   rw[Int.natCast_mul,eI (by lia),Int.mul_comm]
  lia
 refine wpAny_binaryOp_repeat_ref (by decide) ⟨_,ho,rfl⟩ (fun s'=>typeIs_int s' k t) uh F.fills_int_mul F.slot_int_rmul Dw F.slot_int_index.lookup
  (call_meets F.slot_int_rmul (typeIs_int s k t) F.entry_int_rmul (F.args_int_rmul_2 _ _) (Ju k t a its.toArray n dd sl) ⟨ho,rfl,⟨_,ho,rfl⟩,?_⟩)
 by_cases h1:k=1
 .exact call_meets F.slot_tuple_mul ⟨_,ho,rfl⟩ F.entry_tuple_mul (F.args_tuple_mul_2 _ _) (R8 a its.toArray n dd sl k t h1) ⟨ho,⟨.ref a,H,I,rfl,q1 h1⟩⟩
 .have h2:2<=k:=by lia
  refine call_meets F.slot_tuple_mul ⟨_,ho,rfl⟩ F.entry_tuple_mul (F.args_tuple_mul_2 _ _) (R7 a its.toArray n dd sl k t h2 (by simpa using hni) (by rw[List.size_toArray,<-hl];exact hz) ?_) ⟨ho,?_⟩
  .rw[f0,Aa,len_rep,<-hl,<-len_rep];exact hmul
  .rw[f0];refine⟨.ref s.heap.objs.size,_,I.laid (fun b _ q=>j8 _ q) (bN _) ?_,rfl,q2 h2 _ (I.hok.fresh (bN _))⟩;exact⟨hmul,_,r1.rep k.toNat,IsTup.new _ _⟩
end L2
namespace PySem
structure jM(prog:Program)(w:World)(K:Type) [DecidableEq K] (d:Nat) where
 has:Nat->Heap->K->Value->Prop
 hsh:K->Int
 O8:K->Nat
 one:∀ {i:Nat} {h:Heap} {v:Value} {x y:K},has i h x v->has i h y v->x=y
 stay:∀ {i:Nat} {h h':Heap} {v:Value} {x:K},has i h x v->(∀ a o its n,h.get? a=some o->o.data = .seq its n->h'.get? a=some o)->has i h' x v
 hashed:∀ {i:Nat} {A:Around} {E:Value->Shared->Prop} {s:Shared} {x:K} {v:Value} {Q:Int->Shared->Prop},A.units+d<cLine->has i s.heap x v->Q (hsh x) { s with toks:=s.toks+O8 x }->wpAny (model prog w) A (pyHash v) Q E s
 same:∀ {i:Nat} {A:Around} {E:Value->Shared->Prop} {s:Shared} {x y:K} {u v:Value} {Q:Bool->Shared->Prop},A.units+d<cLine->has i s.heap x u->has i s.heap y v->Q (decide (x=y)) s->wpAny (model prog w) A (eqBool u v) Q E s
 still:∀ {i:Nat} {A:Around} {E:Value->Shared->Prop} {s:Shared} {x:K} {v:Value} {Q:Bool->Shared->Prop} (n:Nat),d<=n->has i s.heap x v->Q true s->wpAny (model prog w) A (eqIsQuiet n v) Q E s
def jM.leaf{prog:ag}{w:aI}{K:Type} [DecidableEq K] (knd:KeyKind prog w K):jM prog w K 0 where
 has:=fun _ _ k v=>knd.is k v=true
 hsh:=knd.hash
 O8:=fun _=>1
 one:=fun hx hy=>knd.inj _ _ _ hx hy
 stay:=fun hx _=>hx
 hashed:=fun _ hx q=>knd.pyHash hx q
 same:=fun _ hx hy q=>knd.eqBool hx hy q
 still:=fun n _ hx q=>by
  rw[eqIsQuiet_byValue n (knd.byValue _ _ hx)];exact aT q
noncomputable def jM.two{prog:ag}{w:aI}{K L:Type} [DecidableEq K] [DecidableEq L] {d:Nat} (F:jM prog w K d) (G:jM prog w L d):jM prog w (K ⊕ L) d where
 has:=fun i h k v=>match k with
  | .inl x=>i=0/\F.has 0 h x v
  | .inr y=>i≠0/\G.has i h y v
 hsh:=fun k=>match k with
  | .inl x=>F.hsh x
  | .inr y=>G.hsh y
 O8:=fun k=>match k with
  | .inl x=>F.O8 x
  | .inr y=>G.O8 y
 one:=by
  rintro i h v (x | x) (y | y) ⟨e1,hx⟩ ⟨e2,hy⟩
  .rw[F.one hx hy]
  .exact dP e1 e2
  .exact dP e2 e1
  .rw[G.one hx hy]
 stay:=by
  rintro i h h' v (x | x) ⟨e1,hx⟩ k
  .exact⟨e1,F.stay hx k⟩
  .exact⟨e1,G.stay hx k⟩
 hashed:=by
  rintro i A E s (x | x) v Q hu ⟨e1,hx⟩ q
  .exact F.hashed hu hx q
  .exact G.hashed hu hx q
 same:=by
  rintro i A E s (x | x) (y | y) u v Q hu ⟨e1,hx⟩ ⟨e2,hy⟩ q
  .refine F.same hu hx hy ?_;rw[show decide (x=y)=decide ((Sum.inl x:K ⊕ L)=Sum.inl y) from bP.mpr ⟨fun z=>by rw[z],fun z=>Sum.inl.inj z⟩];exact q
  .exact dP e1 e2
  .exact dP e2 e1
  .refine G.same hu hx hy ?_;rw[show decide (x=y)=decide ((Sum.inr x:K ⊕ L)=Sum.inr y) from bP.mpr ⟨fun z=>by rw[z],fun z=>Sum.inr.inj z⟩];exact q
 still:=by
  rintro i A E s (x | x) v Q n hn ⟨e1,hx⟩ q
  .exact F.still n hn hx q
  .exact G.still n hn hx q
noncomputable def jM.up{prog:ag}{w:aI}{K:Type} [DecidableEq K] {d:Nat} (F:jM prog w K d) (e:Nat) (le:d<=e):jM prog w K e where
 has:=F.has
 hsh:=F.hsh
 O8:=F.O8
 one:=F.one
 stay:=F.stay
 hashed:=fun hu hx q=>F.hashed (by lia) hx q
 same:=fun hu hx hy q=>F.same (by lia) hx hy q
 still:=fun n hn hx q=>F.still n (by lia) hx q
section
variable{prog:ag}{w:aI}{K:Type} [DecidableEq K] {d:Nat} (F:jM prog w K d)
inductive JR(h:Heap):Nat->List K->List Value->Prop
 | nil {i:Nat}:JR h i [] []
 | cons {i:Nat} {k:K} {v:Value} {ks:List K} {vs:List Value}:F.has i h k v->JR h (i+1) ks vs->JR h i (k::ks) (v::vs)
def Ar(h:Heap)(ks:ay K)(v:ax):Prop:=∃ a o its n,v = .ref a/\h.get? a=some o/\o.cls = .type "tuple" /\ o.data = .seq its n/\JR F h 0 ks its.toList
variable {F}
theorem JR.one(hx:JR F h i x vs)(hy:JR F h i y vs):x=y:=by
 induction hx generalizing y with
 | nil=>
  cases hy
  rfl
 | cons a _ ih=>
  cases hy with
  | cons b t=>rw[F.one a b,ih t]
theorem JR.stay(hx:JR F h i x vs)(k:∀ a o its n,h.get? a=some o->o.data = .seq its n->h'.get? a=some o):JR F h' i x vs:=by
 induction hx with
 | nil=>exact .nil
 | cons a _ ih=>exact .cons (F.stay a k) ih
def qB6(F:jM prog w K d)(ks:ay K):Int:=reduceHash (Builtin.Tuple.tupleHashOf (ks.map F.hsh))
def qBL(F:jM prog w K d)(ks:ay K):Nat:=(ks.map F.O8).sum+1
theorem Y6(hu:A.units+(d+1)<cLine)(hk:Ar F s.heap ks v)(h:Q (qB6 F ks) { s with toks:=s.toks+qBL F ks }):wpAny (model prog w) A (pyHash v) Q E s:=by
 obtain⟨a,o,_,n,rfl,ho,oc,od,hi⟩:=hk;have ty:s.TypeIs (.ref a) "tuple" := ⟨o,ho,oc⟩;unfold pyHash
 (first | unfold pyHashByItsType | skip)
 (first | refine aS (wpAny_cRoomFor_or (.inr (by lia)) ?_) | skip)
 refine aS (wpAny_specialOf ty PySem.F.slot_tuple_hash.lookup ?_);rw[cy (by rw[beq_builtin_none];simp)];refine aS (wpAny_specialOf ty PySem.F.slot_tuple_hash.lookup ?_);refine aS (wpAny_callSpecialIfBoundUnlessNone?_slot ty PySem.F.slot_tuple_hash (wpAny_call_entry PySem.F.slot_tuple_hash ty PySem.F.entry_tuple_hash ?_ (PySem.F.args_tuple_hash_1 _)));show wpAny _ _ (Builtin.Tuple.tupleItemsOf (Value.ref a) >>= _) _ _ s;refine aS (wpAny_tupleItemsOf ho od (aS ?_));rw[<-Array.forIn_toList];refine wpAny_forIn_list _
  (fun rest (b:Array Int) s'=>∃ i dn left,ks=dn++left/\JR F s.heap i left rest/\b.toList=dn.map F.hsh/\s' = { s with toks:=s.toks+(dn.map F.O8).sum }) _ ?_ ?_ _ _ ⟨0,[],ks,rfl,hi,rfl,rfl⟩
 .rintro x rest b s' ⟨i,dn,left,rfl,hl,hb,rfl⟩
  cases hl with
  | @cons _ k _ ks' _ h1 hl'=>
   refine aS (F.hashed (by show A.units+1+d<cLine;lia) h1 ?_)
   (first
    | exact wpAny_pure ⟨i+1,dn++[k],ks',by simp,hl',by simp [hb],by simp [Nat.add_assoc]⟩
    | exact wpAny_bind (wpAny_pure (wpAny_pure ⟨i+1,dn++[k],ks',by simp,hl',by simp [hb],by simp [Nat.add_assoc]⟩)))
 .rintro b s' ⟨i,dn,left,rfl,hl,hb,rfl⟩
  cases hl
  rw[iB]at h;show wpAny _ _ (retInt (Builtin.Tuple.tupleHashOf b.toList)) _ _ _;rw[hb];refine wpAny_ret_mkInt ?_;show wpAny _ _ (if (decide (-(2:Int) ^ 63<=Builtin.Tuple.tupleHashOf (dn.map F.hsh))&&decide (Builtin.Tuple.tupleHashOf (dn.map F.hsh)<2 ^ 63))=true then _ else _) Q E _;unfold qB6 reduceHash qBL at h
  by_cases hr:(decide (-(2:Int) ^ 63<=Builtin.Tuple.tupleHashOf (dn.map F.hsh))&&decide (Builtin.Tuple.tupleHashOf (dn.map F.hsh)<2 ^ 63))=true
  .rw[cE hr]at h ⊢;exact wpAny_pure (by simpa [Nat.add_assoc] using h)
  .rw[cy hr]at h ⊢;exact wpAny_bind (wpAny_rule (wpAny_pure (by simpa [Nat.add_assoc] using h)))
theorem Uy(hu:A.units+d<cLine)(hx:Ar F s.heap x (.ref a))(hy:Ar F s.heap y (.ref b))(h:P (.done (.ret (.bool (decide (x=y))))) s):wpAny (model prog w) A (Builtin.«tuple.__eq__» ⟨[.ref a,.ref b],[]⟩) P E s:=by
 obtain⟨_,_,xs,_,ea,hoa,_,hda,hia⟩:=hx;obtain⟨_,ob,ys,_,eb,hob,hcb,hdb,hib⟩:=hy
 cases ea
 cases eb
 have tb:s.TypeIs (.ref b) "tuple" := ⟨ob,hob,hcb⟩;show wpAny _ _ (isInstance (Value.ref b) (.type "tuple") >>= _) _ _ s;refine aS (wpAny_isInstance tb isSubtype_tuple_tuple ?_);simp only[Bool.not_true,Bool.false_eq_true,if_false];refine aS (wpAny_tupleItemsOf hoa hda (aS (wpAny_tupleItemsOf hob hdb (aS ?_))));refine wpAny_forIn_list _
  (fun rest r s'=>r.1=none/\s'=s/\∃ i x' y' xs' ys',rest=List.zip xs' ys'/\JR F s.heap i x' xs'/\JR F s.heap i y' ys'/\decide (x'=y')=decide (x=y)/\(xs'.length==ys'.length)=(xs.size==ys.size))
  _ ?_ ?_ _ _ ⟨rfl,rfl,0,x,y,xs.toList,ys.toList,rfl,hia,hib,rfl,by simp⟩
 .rintro⟨u,v⟩ rest r s' ⟨hr,rfl,i,x',y',xs',ys',hz,hx',hy',hdec,hlen⟩
  cases hx' with
  | nil=>simp at hz
  | @cons _ k1 u' x'' xs'' h1 hx''=>
   cases hy' with
   | nil=>simp at hz
   | @cons _ k2 v' y'' ys'' h2 hy''=>
    simp only[List.zip_cons_cons,List.cons.injEq,Prod.mk.injEq]at hz;obtain⟨⟨rfl,rfl⟩,rfl⟩:=hz;refine aS (F.same hu h1 h2 ?_)
    by_cases hk:k1=k2
    .subst hk;rw[bp rfl];simp only[Bool.not_true,Bool.false_eq_true,if_false];refine wpAny_pure ⟨rfl,rfl,i+1,x'',y'',xs'',ys'',rfl,hx'',hy'',?_,by simpa using hlen⟩;rw[<-hdec]
     by_cases hxy:x''=y''
     .simp [hxy]
     .simp [hxy]
    .rw[bo hk];simp only[Bool.not_false,if_true]
     have hf:decide (x=y)=false:=by
      rw[<-hdec];simp [hk]
     rw[hf]at h;exact aS (aT (aT (aT h)))
 .rintro⟨_,_⟩ s' ⟨hr,rfl,i,x',y',xs',ys',hz,hx',hy',hdec,hlen⟩;simp only at hr;subst hr;refine aT ?_
  have fin:(xs.size==ys.size)=decide (x=y):=by
   rw[<-hdec,<-hlen]
   cases hx' with
   | nil=>
    cases hy' with
    | nil=>simp
    | cons _ _=>simp
   | cons _ _=>
    cases hy' with
    | nil=>simp
    | cons _ _=>simp at hz
  show P (.done (.ret (.bool (xs.size==ys.size)))) s';rw[fin];exact h
theorem qCS(hu:A.units+(d+1)<cLine)(hx:Ar F s.heap x u)(hy:Ar F s.heap y v)(h:Q (decide (x=y)) s):wpAny (model prog w) A (eqBool u v) Q E s:=by
 obtain⟨a,oa,_,_,rfl,hoa,hca,hda,hia⟩:=id hx;obtain⟨b,ob,_,_,rfl,hob,hcb,hdb,hib⟩:=id hy;have ta:s.TypeIs (.ref a) "tuple" := ⟨oa,hoa,hca⟩;have tb:s.TypeIs (.ref b) "tuple" := ⟨ob,hob,hcb⟩;unfold eqBool
 (try with_reducible refine cm ?_)
 by_cases hab:(Value.ref a==Value.ref b)=true
 .rw[cE hab]
  have e:a=b:=by
   have:=eq_of_beq hab;injection this
  subst e;rw[hoa]at hob
  cases hob
  rw[hda]at hdb
  cases hdb
  obtain rfl:=hia.one hib;exact wpAny_bind (wpAny_rule (wpAny_pure (by simpa using h)))
 .rw[cy hab]
  exact aS (wpAny_richCompare_same_room ta tb PySem.F.slot_tuple_eq
   (wpAny_call_entry PySem.F.slot_tuple_eq ta PySem.F.entry_tuple_eq (Uy (by show A.units+1+d<cLine;lia) hx hy ⟨_,rfl,(fun e=>nomatch e),wpAny_truthy_bool h⟩) (PySem.F.args_tuple_eq_2 _ _)) (by lia))
theorem Zq(n:Nat)(hn:d+1<=n)(hk:Ar F s.heap ks v)(h:Q true s):wpAny (model prog w) A (eqIsQuiet n v) Q E s:=by
 obtain⟨a,o,_,m,rfl,ho,hc,hd,hi⟩:=hk;have ty:s.TypeIs (.ref a) "tuple" := ⟨o,ho,hc⟩;obtain⟨n,rfl⟩:∃ k,n=k+1:=⟨n-1,by lia⟩;unfold eqIsQuiet;refine aS (wpAny_specialOf ty PySem.F.slot_tuple_eq.lookup ?_);refine aS (wpAny_isInstance ty isSubtype_tuple_tuple ?_);simp only[Bool.not_true,Bool.false_eq_true,if_false];refine aS (wpAny_seqItems ho hd (aS ?_));rw[<-Array.forIn_toList];refine wpAny_forIn_list _ (fun rest r s'=>r.1=none/\s'=s/\∃ i left,JR F s.heap i left rest) _ ?_ ?_ _ _ ⟨rfl,rfl,0,ks,hi⟩
 .rintro v rest r s' ⟨hr,rfl,i,left,hl⟩
  cases hl with
  | @cons _ k _ ks' _ h1 hl'=>
   refine aS (F.still n (by lia) h1 ?_);simp only[Bool.not_true,Bool.false_eq_true,if_false];exact aT ⟨rfl,rfl,i+1,ks',hl'⟩
 .rintro⟨_,_⟩ s' ⟨hr,rfl,_⟩;simp only at hr;subst hr;exact aT h
theorem Ar.one(hx:Ar F h x v)(hy:Ar F h y v):x=y:=by
 obtain⟨a,o,_,n,rfl,ho,_,hd,hi⟩:=hx;obtain⟨_,_,_,_,e,ho',_,hd',hi'⟩:=hy
 cases e
 rw[ho]at ho'
 cases ho'
 rw[hd]at hd'
 cases hd'
 exact hi.one hi'
def jM.tup(F:jM prog w K d):jM prog w (ay K) (d+1) where
 has:=fun _ h ks v=>Ar F h ks v
 hsh:=qB6 F
 O8:=qBL F
 one:=fun hx hy=>hx.one hy
 stay:=fun hx k=>by
  obtain⟨a,o,its,n,e,ho,hc,hd,hi⟩:=hx;exact⟨a,o,its,n,e,k _ _ _ _ ho hd,hc,hd,hi.stay k⟩
 hashed:=fun hu hx q=>Y6 hu hx q
 same:=fun hu hx hy q=>qCS hu hx hy q
 still:=fun n hn hx q=>Zq n hn hx q
def jM.heap(F:jM prog w K d)(le:d<=8):HeapKind prog w K where
 is:=fun h k a=>F.has 0 h k (.ref a)
 hash:=F.hsh
 draws:=F.O8
 room:=fun A=>A.units+d<cLine
 inj:=fun hx hy=>F.one hx hy
 keeps:=fun hx ho hd hs=>F.stay hx fun a o its n ha hs'=>by
  refine (hs.2 a ?_).trans ha;rintro rfl;rw[ha]at ho
  cases ho
  rw[hs']at hd;exact nomatch hd
 pyHash:=fun hu hx q=>F.hashed hu hx q
 eqBool:=fun hu hx hy q=>F.same hu hx hy q
 quiet:=fun hx q=>F.still 8 le hx q
end
end PySem
namespace L2
open PySem PySem.Spec PyProof.Rows
structure cP(K:Type) [DecidableEq K] (d:Nat) where
 inn:Nat->Hp->K->V->Prop
 mono:∀ {i:Nat} {H H':Hp} {k:K} {v:V},inn i H k v->(∀ b xs,H b=some (.tup xs)->H' b=some (.tup xs))->inn i H' k v
 fam:∀ P w,jM P w K d
 ok:∀ {P:Program} {w:World} {H:Hp} {h:Heap} {i:Nat} {k:K} {v:V} {u:Value},jO P w H h->inn i H k v->RelV v u->(fam P w).has i h k u
noncomputable def cP.leaf:cP Key 0 where
 inn:=fun _ _ k v=>v=kV k
 mono:=fun x _=>x
 fam:=fun P w=>jM.leaf (bQ P w)
 ok:=fun _ x r=>by
  subst x;exact yc r
section
variable{K L:Type} [DecidableEq K] [DecidableEq L] {d:Nat}
def cP.up(F:cP K d)(e:Nat)(le:d<=e):cP K e where
 inn:=F.inn
 mono:=F.mono
 fam:=fun P w=>(F.fam P w).up e le
 ok:=fun a b c=>F.ok a b c
noncomputable def cP.two(F:cP K d)(G:cP L d):cP (K ⊕ L) d where
 inn:=fun i H k v=>match k with
  | .inl x=>i=0/\F.inn 0 H x v
  | .inr y=>i≠0/\G.inn i H y v
 mono:=by
  rintro i H H' (k | k) v ⟨e,x⟩ h
  .exact⟨e,F.mono x h⟩
  .exact⟨e,G.mono x h⟩
 fam:=fun P w=>(F.fam P w).two (G.fam P w)
 ok:=by
  rintro P w H h i (k | k) v u hk ⟨e,x⟩ r
  .exact⟨e,F.ok hk x r⟩
  .exact⟨e,G.ok hk x r⟩
inductive vp(F:cP K d)(H:Hp):Nat->List K->List V->Prop
 | nil {i:Nat}:vp F H i [] []
 | cons {i:Nat} {k:K} {v:V} {ks:List K} {vs:List V}:F.inn i H k v->vp F H (i+1) ks vs->vp F H i (k::ks) (v::vs)
theorem vp.mono{i:Nat}{ks:ay K}{vs:ay V}(x:vp F H i ks vs)(h:∀ b xs,H b=some (.tup xs)->H' b=some (.tup xs)):vp F H' i ks vs:=by
 induction x with
 | nil=>exact .nil
 | cons a _ ih=>exact .cons (F.mono a h) ih
theorem vp.ok(hk:jO P w H h){i:Nat}{ks:ay K}{vs:ay V}(x:vp F H i ks vs):∀ {us:ay ax},Vals vs us->PySem.JR (F.fam P w) h i ks us:=by
 induction x with
 | nil=>
  intro us r
  cases r
  exact .nil
 | cons a _ ih=>
  intro us r
  cases r with
  | cons r1 r2=>exact .cons (F.ok hk a r1) (ih r2)
def cP.tup(F:cP K d):cP (ay K) (d+1) where
 inn:=fun _ H ks v => ∃ a vs,v = .ref a/\H a=some (.tup vs)/\vp F H 0 ks vs
 mono:=by
  rintro i H H' k v ⟨a,vs,e,h1,h2⟩ h;exact⟨a,vs,e,h _ _ h1,h2.mono h⟩
 fam:=fun P w=>(F.fam P w).tup
 ok:=by
  rintro P w H h i k v u hk ⟨a,vs,rfl,h1,h2⟩ r
  cases (show u=Value.ref a from r)
  obtain⟨_,its,rv,o,g1,g2,n,g3⟩:=(show bW P w H h a (.tup vs) from hk a _ h1);exact⟨a,o,its.toArray,n,rfl,g1,g2,g3,by simpa using h2.ok hk rv⟩
def W7(P:ag)(w:aI)(F:cP K d)(le:d<=8)(a:av)(xs:ay (K×av×V))(h:Heap):Prop:=
 xs.length<=sizeLine/\(a==sysModules)=false/\∃ ys:ay (K×av×ax),Paired (fun p q=>p.1=q.1/\p.2.1=q.2.1/\RelV p.2.2 q.2.2) xs ys ∧
  ∃ o es ep,h.get? a=some o/\o.ExactDict/\o.data = .dict es ep/\es.toList=ys.map (entryOfKey ((F.fam P w).heap le))/\(ys.map (·.1)).Nodup
def DN(P:ag)(w:aI)(F:cP K d)(le:d<=8)(H:Hp)(a:av)(kvs:ay (K×V)):Prop:=
 ∃ xs:ay (K×av×V),kvs=xs.map (fun x=>(x.1,x.2.2))/\H a=some (.ext (W7 P w F le a xs))/\∀ x∈xs,F.inn 0 H x.1 (.ref x.2.1)
theorem DN.mono{H H':Hp}{a:av}{kvs:ay (K×V)}(x:DN P w F le H a kvs)(h:∀ b xs,H b=some (.tup xs)->H' b=some (.tup xs))(e:H' a=H a):DN P w F le H' a kvs:=by obtain⟨xs,h1,h2,h3⟩:=x;exact⟨xs,h1,by rw[e];exact h2,fun y hy=>F.mono (h3 y hy) h⟩
abbrev Yd(p:K×av×V)(q:K×av×ax):Prop:=p.1=q.1/\p.2.1=q.2.1/\RelV p.2.2 q.2.2
theorem kZ(r:Paired Yd xs ys)(k:K):(cM (xs.map fun x=>(x.1,x.2.2)) k=none/\atKey ys k=none) ∨ ∃ v p,cM (xs.map fun x=>(x.1,x.2.2)) k=some v/\atKey ys k=some p/\RelV v p.2:=by
 induction r with
 | nil=>exact .inl ⟨rfl,rfl⟩
 | @cons p q ps qs h _ ih=>
  obtain⟨e1,_,e3⟩:=h
  by_cases e:p.1=k
  .refine .inr ⟨p.2.2,q.2,c7 e,?_,e3⟩;unfold atKey;rw[f7,show decide (q.1=k)=true from bp (by rw[<-e1];exact e)];rfl
  .have e':atKey (q::qs) k=atKey qs k:=by
    unfold atKey;rw[f7,show decide (q.1=k)=false from bo (by rw[<-e1];exact e)]
   rw[br,cA e,e'];exact ih
theorem DN.at(x:DN P w F le H a kvs)(hk:jO P w H h) :
  ∃(xs:ay (K×av×V))(ys:ay (K×av×ax)),kvs=xs.map (fun x=>(x.1,x.2.2))/\H a=some (.ext (W7 P w F le a xs))/\(∀ x∈xs,F.inn 0 H x.1 (.ref x.2.1))/\xs.length<=sizeLine/\(a==sysModules)=false/\Paired Yd xs ys/\h.DictOfH ((F.fam P w).heap le) a ys:=by
 obtain⟨xs,h1,h2,h3⟩:=x;obtain⟨⟨z,y,ys,r,o,es,ep,g1,g2,g3,g4,g5⟩,_⟩:=(hk a _ h2);refine⟨xs,ys,h1,h2,h3,z,y,r,o,es,ep,g1,g2,g3,g4,?_,g5⟩
 have all:∀ {l:ay (K×av×V)} {m:ay (K×av×ax)},Paired Yd l m->(∀ x∈l,F.inn 0 H x.1 (.ref x.2.1))->∀ x∈m,((F.fam P w).heap le).is h x.1 x.2.1:=by
  intro l m q
  induction q with
  | nil=>intro _ x hx;exact nomatch hx
  | @cons p q ps qs hq t ih=>
   intro hl x hx;rcases bL.mp hx with e | hx
   .subst e;have:=F.ok hk (hl p wO) rfl;rw[hq.1,hq.2.1]at this;exact this
   .exact ih (fun y hy=>hl y (Fj _ hy)) x hx
 exact all r h3
theorem V6{le:d<=8}{a:av}{xs:ay (K×av×V)}:∀ h1 h2:Heap,W7 P w F le a xs h1->(∀ o,h1.get? a=some o->h2.get? a=some o)->W7 P w F le a xs h2:=by rintro h1 h2 ⟨z,y,ys,r,o,es,ep,g1,g⟩ k;exact⟨z,y,ys,r,o,es,ep,k _ g1,g⟩
theorem LQ{a:av}{xs:ay (K×av×V)}{ys:ay (K×av×ax)}(z:xs.length<=sizeLine)(y:(a==sysModules)=false)(r:Paired Yd xs ys)(dd:h.DictOfH ((F.fam P w).heap le) a ys):bW P w H h a (.ext (W7 P w F le a xs)):=by obtain⟨o,es,ep,g1,g2,g3,g4,_,g5⟩:=dd;exact⟨⟨z,y,ys,r,o,es,ep,g1,g2,g3,g4,g5⟩,⟨o,g1⟩,V6⟩
end
section
variable{X:Cx}{K:Type} [DecidableEq K] {d:Nat} {F:cP K d} {le:d<=8}
def qCA(P:ag)(w:aI)(F:cP K d)(le:d<=8):TE:=fun _ H Q => ∀ p H',H p=none->H'=upd H p (.ext (W7 P w F le p []))->DN P w F le H' p []->Q (.ref p) H'
theorem N7{pos:Pos}(F:cP K d)(le:d<=8):PE X (.Dict [] [] pos) (qCA X.prog X.w F le):=fun _ s σ H Q I h=>
 wpAny_Dict_empty ⟨.ref s.heap.objs.size,_,I.laid (fun _ _ q=>j8 _ q) (bN _) (LQ (bg _) (dy.mpr (bt (lO I.big))) .nil (Heap.DictOfH.new s.heap)),rfl,h _ _ (I.hok.fresh (bN _)) rfl ⟨[],rfl,zC,fun x hx=>by cases hx⟩⟩
def qCB(P:ag)(w:aI)(F:cP K d)(le:d<=8)(td ty:TE):TE:=fun σ H Q=>td σ H fun x H1=>ty σ H1 fun y H2 => ∃ a b kvs k v,x = .ref a/\y = .ref b/\DN P w F le H2 a kvs/\F.inn 0 H2 k (.ref b)/\cM kvs k=some v/\Q v H2
theorem X7(hu:X.A.units+64<cLine)(F:cP K d)(le:d<=8)(ho:PE X o td)(hi:PE X i ty)(hs:qBT i):PE X (.Subscript o i pos) (qCB X.prog X.w F le td ty):=by
 intro pins s σ H Q I h;refine M4 PySem.F.slot_dict_getitem.lookup hs (bI (ho pins s σ H _ I h) fun u s1 ⟨x,H1,I1,rx,q1⟩=>bI (hi pins s1 σ H1 _ I1 q1) fun iv _ ⟨y,H2,I2,ry,a,b,_,k,v,ex,ey,D,hk,l,q2⟩=>?_);subst ex;subst ey;obtain rfl:u=Value.ref a:=rx;obtain rfl:iv=Value.ref b:=ry;obtain⟨_,_,e1,_,_,z,_,r,dd⟩:=D.at I2.hok;rcases kZ r k with ⟨h1,_⟩ | ⟨v',p,h1,h2,h3⟩
 .rw[e1,h1]at l
  cases l
 .rw[e1,h1]at l
  cases l
  exact⟨dd.typeIs,wpAny_getItem_heap (show X.A.units+1+d<cLine by lia) (F.ok I2.hok hk rfl) dd h2 ⟨_,H2,I2.tok _,h3,q2⟩⟩
end
section
variable{prog:ag}{w:aI}{K:Type} [DecidableEq K] {knd:HeapKind prog w K} {A:ai} {E:ax->ae->Prop} {s:ae}
theorem Wb(hu:knd.room A)(hd:(d==sysModules)=false)(hkey:knd.is s.heap k a)(hm:s.heap.DictOfH knd d xs)
  (h1:∀ p,atKey xs k=some p->Q p.2 { s with toks:=s.toks+knd.draws k })
  (h2:atKey xs k=none->∀ h',h'.DictOfH knd d (xs++[(k,a,v)])->Heap.SameBut d s.heap h'->Q v { s with heap:=h',toks:=s.toks+knd.draws k }) (hsz:xs.length<=sizeLine) :
  wpAny (model prog w) A (dictSetDefault d (.ref a) v) Q E s:=by
 obtain⟨o,_,ep,ho,hc,hdat,he,his,hn⟩:=hm;unfold dictSetDefault
 (try with_reducible refine cm ?_)
 refine aS (knd.pyHash hu hkey (aS (wpAny_dictFind_heap hu hkey ho hdat he his hn ?_ ?_)))
 .intro hno;have hnot:=not_mem_keys_of_get hno
  refine aS (wpAny_rule (aS (wpAny_updateDictKeys (hz:=by have e:=size_of_entries he;lia) (s:={ s with toks:=s.toks+knd.draws k }) ho hdat (aT (h2 (atKey_none_of_get hno) _ ⟨_,_,ep+1,ck _ ho (Obj.isFreed_of_dict (Obj.data_mapDictKeys hdat _)),
   hc.mapDictKeys _,Obj.data_mapDictKeys hdat _,?_,?_,?_⟩ (Heap.SameBut.update ..))))))
  .simp [he,entryOfKey]
  .intro x hx;rcases cH.mp hx with hx | hx
   .exact knd.keeps (his x hx) ho hdat (Heap.SameBut.update ..)
   .rw[bJ.mp hx];exact knd.keeps hkey ho hdat (Heap.SameBut.update ..)
  .rw[iz,List.nodup_append];refine⟨hn,by simp,fun x hx y hy=>?_⟩;rw[br,fq,bJ]at hy;subst hy;exact fun e=>hnot (e▸hx)
 .intro j p hj;refine aS (wpAny_dictEntries ho hdat ?_);rw[entry_at he j,hj];exact aS (wpAny_rule (aT (h1 p (atKey_of_get hn hj))))
theorem Iu(hu:knd.room A.in1)(hd:(d==sysModules)=false)(hkey:knd.is s.heap k a)(hm:s.heap.DictOfH knd d xs)
  (h1:∀ p,atKey xs k=some p->Q p.2 { s with toks:=s.toks+knd.draws k })
  (h2:atKey xs k=none->∀ h',h'.DictOfH knd d (xs++[(k,a,v)])->Heap.SameBut d s.heap h'->Q v { s with heap:=h',toks:=s.toks+knd.draws k }) (hsz:xs.length<=sizeLine) :
  wpAny (model prog w) A (call (.builtin "dict.setdefault") [.ref d,.ref a,v]) Q E s:=by refine wpAny_call_entry kz hm.typeIs PySem.F.entry_dict_setdefault ?_ (PySem.F.args_dict_setdefault_3 _ _ _);unfold Builtin.«dict.setdefault» Builtin.Dict.keyAndDefault;refine aS (aS (wpAny_notOrdered_dict hm.typeIs ?_));refine aT ?_;show wpAny _ _ (if (d==sysModules)=true then _ else (dictSetDefault d (.ref a) v >>= _)) _ _ s;rw[cy (by rw[hd];simp)];exact aS (Wb hu hd hkey hm (fun p hp=>aT ⟨_,rfl,h1 p hp⟩) (fun hn h' hm' hs=>aT ⟨_,rfl,h2 hn h' hm' hs⟩) hsz)
end
section
variable{X:Cx}{K:Type} [DecidableEq K] {d:Nat}
def qC9(P:ag)(w:aI)(F:cP K d)(le:d<=8)(td ty tz:TE):TE:=fun σ H Q=>td σ H fun x H1 => ∃ a U5,x = .ref a/\DN P w F le H1 a U5/\ty σ H1 fun y H2=>tz σ H2 fun v H3 => ∃ b kvs k,y = .ref b/\DN P w F le H3 a kvs/\F.inn 0 H3 k (.ref b)/\kvs.length<sizeLine ∧
 (∀ v',cM kvs k=some v'->Q v' H3)/\(cM kvs k=none->∀ o,DN P w F le (upd H3 a o) a (kvs++[(k,v)])->Q v (upd H3 a o))
theorem X6{apos cpos:Pos}{td ty tz:TE}(hu:X.A.units+64<cLine)(F:cP K d)(le:d<=8)(ho:PE X o td)(he:PE X e ty)(hf:PE X f tz)(m:M2 X o "setdefault" apos e f cpos):PE X (.Call (.Attribute o "setdefault" apos) [e,f] [] cpos) (qC9 X.prog X.w F le td ty tz):=by
 intro pins s σ H Q I h;refine wpAny_Call_method m.base m.few m.line kx kz PySem.F.type_dict_setdefault (bI (ho pins s σ H _ I h) fun u s1 ⟨x,H1,I1,rx,a,_,ex,D0,q1⟩=>?_);subst ex;obtain rfl:u=Value.ref a:=rx;obtain⟨_,_,_,_,_,_,_,_,dd0⟩:=D0.at I1.hok;refine⟨dd0.typeIs,fun b q=>?_,?_⟩
 .cases q;obtain⟨ob,_,_,g1,g2,_⟩:=dd0;exact⟨ob,g1,g2.2.1⟩
 rw[m.trees]
 refine Calls.callWith_builtin rfl (Calls.evalArgs_plain (Calls.spliced_cons (bI (he pins s1 σ H1 _ I1 q1) fun iv s2 ⟨y,H2,I2,ry,q2⟩=>
  Calls.spliced_cons (bI (hf pins s2 σ H2 _ I2 q2) fun _ s3 ⟨v,H3,I3,rz,b,kvs,k,ey,D,hk,_,qa,qb⟩=>Calls.spliced_nil ?_))))
 subst ey;obtain rfl:iv=Value.ref b:=ry;obtain⟨xs,_,e1,e2,e3,z,hd,r,dd⟩:=D.at I3.hok;have lr:=r.length
 have lk:kvs.length=xs.length:=by rw[e1,bh]
 refine Iu (show X.A.units+1+d<cLine by lia) hd (F.ok I3.hok hk rfl) dd (fun p hp=>?_) (fun hn h' Oa hs=>?_) (by lia)
 .rcases kZ r k with ⟨_,h2⟩ | ⟨v',p',h1,h2,h3⟩
  .rw[hp]at h2
   cases h2
  .rw[hp]at h2
   cases h2
   exact⟨v',H3,I3.tok _,h3,qa v' (by rw[e1];exact h1)⟩
 .have hv:cM kvs k=none:=by
   rcases kZ r k with ⟨h1,_⟩ | ⟨v',p',h1,h2,h3⟩
   .rw[e1];exact h1
   .rw[hn]at h2
    cases h2
  have hq:∃ q,h'.get? a=some q:=by
   obtain⟨q,_,_,g,_⟩:=Oa;exact⟨q,g⟩
  have I4:Inv X pins σ (upd H3 a (.ext (W7 X.prog X.w F le a (xs++[(k,b,v)])))) { s3 with heap:=h',toks:=s3.toks+((F.fam X.prog X.w).heap le).draws k }:=
   tX I3 (by rw[e2];exact dE) hs hq (LQ (by rw[dj,gK];lia) hd (r.snoc ⟨rfl,rfl,rz⟩) Oa)
  have kt:∀ c zs,H3 c=some (.tup zs)->upd H3 a (.ext (W7 X.prog X.w F le a (xs++[(k,b,v)]))) c=some (.tup zs):=fun c zs g=>by
   rw[zQ (cJ g e2 (fun z=>by cases z))];exact g
  refine⟨v,_,I4,rz,qb hv _ ⟨xs++[(k,b,v)],by rw[iz,e1];rfl,zC,fun x hx=>?_⟩⟩;rcases cH.mp hx with hx | hx
  .exact F.mono (e3 x hx) kt
  .rw[bJ.mp hx];exact F.mono hk kt
end
end L2
namespace PySem
noncomputable def jM.sw{prog:ag}{w:aI}{K L:Type} [DecidableEq K] [DecidableEq L] {d:Nat} (p:Nat->Bool) (F:jM prog w K d) (G:jM prog w L d):jM prog w (K ⊕ L) d where
 has:=fun i h k v=>match k with
  | .inl x=>p i=true/\F.has i h x v
  | .inr y=>p i=false/\G.has i h y v
 hsh:=fun k=>match k with
  | .inl x=>F.hsh x
  | .inr y=>G.hsh y
 O8:=fun k=>match k with
  | .inl x=>F.O8 x
  | .inr y=>G.O8 y
 one:=by
  rintro i h v (x | x) (y | y) ⟨e1,hx⟩ ⟨e2,hy⟩
  .rw[F.one hx hy]
  .rw[e1]at e2;cases e2
  .rw[e1]at e2;cases e2
  .rw[G.one hx hy]
 stay:=by
  rintro i h h' v (x | x) ⟨e1,hx⟩ k
  .exact⟨e1,F.stay hx k⟩
  .exact⟨e1,G.stay hx k⟩
 hashed:=by
  rintro i A E s (x | x) v Q hu ⟨e1,hx⟩ q
  .exact F.hashed hu hx q
  .exact G.hashed hu hx q
 same:=by
  rintro i A E s (x | x) (y | y) u v Q hu ⟨e1,hx⟩ ⟨e2,hy⟩ q
  .refine F.same hu hx hy ?_;rw[show decide (x=y)=decide ((Sum.inl x:K ⊕ L)=Sum.inl y) from bP.mpr ⟨fun z=>by rw[z],fun z=>Sum.inl.inj z⟩];exact q
  .rw[e1]at e2;cases e2
  .rw[e1]at e2;cases e2
  .refine G.same hu hx hy ?_;rw[show decide (x=y)=decide ((Sum.inr x:K ⊕ L)=Sum.inr y) from bP.mpr ⟨fun z=>by rw[z],fun z=>Sum.inr.inj z⟩];exact q
 still:=by
  rintro i A E s (x | x) v Q n hn ⟨e1,hx⟩ q
  .exact F.still n hn hx q
  .exact G.still n hn hx q
end PySem
namespace L2
open PySem PySem.Spec PyProof.Rows
section
variable{K L:Type} [DecidableEq K] [DecidableEq L] {d:Nat}
def cP.sw(p:Nat->Bool)(F:cP K d)(G:cP L d):cP (K ⊕ L) d where
 inn:=fun i H k v=>match k with
  | .inl x=>p i=true/\F.inn i H x v
  | .inr y=>p i=false/\G.inn i H y v
 mono:=by
  rintro i H H' (k | k) v ⟨e,x⟩ h
  .exact⟨e,F.mono x h⟩
  .exact⟨e,G.mono x h⟩
 fam:=fun P w=>(F.fam P w).sw p (G.fam P w)
 ok:=by
  rintro P w H h i (k | k) v u hk ⟨e,x⟩ r
  .exact⟨e,F.ok hk x r⟩
  .exact⟨e,G.ok hk x r⟩
end
section
variable{X:Cx}{K:Type} [DecidableEq K] {d:Nat}
def qGM(P:ag)(w:aI)(F:cP K d)(le:d<=8)(ty td:TE):TE:=fun σ H Q=>ty σ H fun y H1=>td σ H1 fun x H2 => ∃ a b kvs k,x = .ref a/\y = .ref b/\DN P w F le H2 a kvs/\F.inn 0 H2 k (.ref b)/\Q (.bl (cM kvs k).isSome) H2
theorem qA8(hu:X.A.units+64<cLine)(F:cP K d)(le:d<=8)(hi:PE X i ty)(ho:PE X o td):PC X .In i o (qGM X.prog X.w F le ty td):=by
 intro pins s σ H Q I h;refine bI (hi pins s σ H _ I h) fun iv s1 ⟨y,H1,I1,ry,q1⟩=>bI (ho pins s1 σ H1 _ I1 q1) fun u _ ⟨x,H2,I2,rx,a,b,kvs,k,ex,ey,D,hk,q2⟩=>?_;subst ex ey;obtain rfl:u=Value.ref a:=rx;obtain rfl:iv=Value.ref b:=ry;obtain⟨_,_,e1,_,_,z,hd,r,dd⟩:=D.at I2.hok;refine wpAny_in_heap (show X.A.units+1+d<cLine by lia) (F.ok I2.hok hk rfl) hd dd ⟨.bl (cM kvs k).isSome,H2,I2.tok _,?_,q2⟩;rcases kZ r k with ⟨h1,h2⟩ | ⟨v',p,h1,h2,h3⟩
 .rw[h2,e1,h1];rfl
 .rw[h2,e1,h1];rfl
def qCV(P:ag)(w:aI)(F:cP K d)(le:d<=8)(td ty tv:TE):TS:=fun D σ H=>tv σ H fun v H1=>td σ H1 fun x H2=>ty σ H2 fun y H3 => ∃ a b kvs k,x = .ref a/\y = .ref b/\DN P w F le H3 a kvs/\F.inn 0 H3 k (.ref b) ∧
 kvs.length<sizeLine/\cM kvs k=none/\∀ o,(∃ φ,o=HO.ext φ)->DN P w F le (upd H3 a o) a (kvs++[(k,v)])->D.nx σ (upd H3 a o)
theorem storedH_new{k:K}{a:av}{v:ax}(h:atKey xs k=none):storedH xs k a v=xs++[(k,a,v)]:=by unfold storedH;rw[h];exact cy (by decide)
theorem Ww(hu:X.A.units+64<cLine)(F:cP K d)(le:d<=8)(ho:PE X o td)(hi:PE X i ty)(hv:PE X value tv)(hs:swapsWith value (some (.Subscript o i pos')) pos.line X.env=pure false) :
  PS X (.Assign [.Subscript o i pos'] value pos) (qCV X.prog X.w F le td ty tv):=by
 intro pins s σ H D I h;refine wpAny_Assign_Subscript (bI (hv pins s σ H _ I h) fun r s1 ⟨v,H1,I1,rv,q1⟩=>bI (ho pins s1 σ H1 _ I1 q1) fun u s2 ⟨x,H2,I2,rx,q2⟩=>bI (hi pins s2 σ H2 _ I2 q2) fun iv s3 ⟨y,H3,I3,ry,a,b,kvs,k,ex,ey,dn,hk,_,hn,q3⟩=>?_) hs;subst ex ey;obtain rfl:u=Value.ref a:=rx;obtain rfl:iv=Value.ref b:=ry;obtain⟨xs,ys,e1,e2,e3,z,hd,rr,dd⟩:=dn.at I3.hok;have lr:=rr.length
 have lk:kvs.length=xs.length:=by rw[e1,bh]
 have hy:atKey ys k=none:=by
  rcases kZ rr k with ⟨_,h2⟩ | ⟨v',p',h1,h2,h3⟩
  .exact h2
  .rw[<-e1,hn]at h1
   cases h1
 refine wpAny_setItem_heap (show X.A.units+1+d<cLine by lia) (F.ok I3.hok hk rfl) dd fun h' Oa hs'=>?_;rw[storedH_new hy]at Oa
 have hq:∃ q,h'.get? a=some q:=by
  obtain⟨q,_,_,g,_⟩:=Oa;exact⟨q,g⟩
 have I4:Inv X pins σ (upd H3 a (.ext (W7 X.prog X.w F le a (xs++[(k,b,v)])))) { s3 with heap:=h',toks:=s3.toks+((F.fam X.prog X.w).heap le).draws k }:=
  tX I3 (by rw[e2];exact dE) hs' hq (LQ (by rw[dj,gK];lia) hd (rr.snoc ⟨rfl,rfl,rv⟩) Oa)
 have kt:∀ c zs,H3 c=some (.tup zs)->upd H3 a (.ext (W7 X.prog X.w F le a (xs++[(k,b,v)]))) c=some (.tup zs):=fun c zs g=>by
  rw[zQ (cJ g e2 (fun z=>by cases z))];exact g
 refine⟨σ,_,I4,q3 _ ⟨_,rfl⟩ ⟨xs++[(k,b,v)],by rw[iz,e1];rfl,zC,fun x hx=>?_⟩⟩;rcases cH.mp hx with hx | hx
 .exact F.mono (e3 x hx) kt
 .rw[bJ.mp hx];exact F.mono hk kt
def DW(P:ag)(w:aI)(F:cP K d)(le:d<=8)(td ty:TE):TE:=fun σ H Q=>td σ H fun x H1 => ∃ a U5,x = .ref a/\DN P w F le H1 a U5/\ty σ H1 fun y H2 => ∃ b kvs k,y = .ref b/\DN P w F le H2 a kvs/\F.inn 0 H2 k (.ref b)/\Q ((cM kvs k).getD .non) H2
theorem Gw(hu:X.A.units+64<cLine)(F:cP K d)(le:d<=8)(ho:PE X o td)(he:PE X e ty)(m:M1 X o "get" apos e cpos):PE X (.Call (.Attribute o "get" apos) [e] [] cpos) (DW X.prog X.w F le td ty):=by
 intro pins s σ H Q I h;refine wpAny_Call_method m.base m.few m.line kx ky PySem.F.type_dict_get (bI (ho pins s σ H _ I h) fun u s1 ⟨x,H1,I1,rx,a,_,ex,D0,q1⟩=>?_);subst ex;obtain rfl:u=Value.ref a:=rx;obtain⟨_,_,_,_,_,_,_,_,dd0⟩:=D0.at I1.hok;refine⟨dd0.typeIs,fun b q=>?_,?_⟩
 .cases q;obtain⟨ob,_,_,g1,g2,_⟩:=dd0;exact⟨ob,g1,g2.2.1⟩
 rw[m.trees];refine Calls.callWith_builtin rfl (Calls.evalArgs_plain (Calls.spliced_cons (bI (he pins s1 σ H1 _ I1 q1) fun iv _ ⟨y,H2,I2,ry,b,_,k,ey,D,hk,q2⟩=>Calls.spliced_nil ?_)));subst ey;obtain rfl:iv=Value.ref b:=ry;obtain⟨_,ys,e1,_,_,z,hd,r,dd⟩:=D.at I2.hok;refine call_meetsIn ky dd.typeIs kq (ki _ _) (meetsH_dict_get ((F.fam X.prog X.w).heap le) a b hd) ⟨show X.A.units+1+d<cLine by lia,k,ys,F.ok I2.hok hk rfl,dd,_,H2,I2.tok _,?_,q2⟩;rcases kZ r k with ⟨h1,h2⟩ | ⟨v',p,h1,h2,h3⟩
 .rw[h2,e1,h1];rfl
 .rw[h2,e1,h1];exact h3
end
end L2
namespace L2
open PySem
def qJA(M:Model)(Γ:Ctx)(p:Pos)(t:Sem Fin)(fs:ay Frame)(s:ae)(e:End)(s':ae):Prop:=match fs with
 | F::fs => ∃ e1 s1,Runs M (Γ.over (F::fs)) p t [] s e1 s1/\(match e1 with
  | .ret r=>(match F with
   | .ret k _ _ _ c₁ p₁ _=>Runs M (Γ.goto c₁) p₁ (k r) fs s1 e s'
   | .gen g k _ c₁ p₁=>Runs M (Γ.goto c₁) p₁ (k (End.ret r).result) fs (s1.setGen g .finished) e s')
  | .susp v g₀ l₀ k₀ c₀ p₀ fs₀=>(match splitAtGen (F::fs) with
   | none=>e = .susp v g₀ l₀ k₀ c₀ p₀ (fs₀++F::fs)/\s'=s1
   | some (pre,(g,k,c₁,p₁),rest)=>Runs M (Γ.goto c₁) p₁ (k (.yielded v)) rest (s1.setGen g (End.susp v g₀ l₀ k₀ c₀ p₀ (fs₀++pre)).genState) e s'))
 | []=>match t with
  | .pure (.done f)=>e = .ret (.ok f)/\s'=s
  | .pure (.again c)=>Runs M (Γ.goto c) p (M.den c) [] s e s'
  | .raise x=>e = .ret (.error x)/\s'=s
  | .rule _ k=>Runs M Γ p (k ()) [] s e s'
  | .at p' k=>Runs M Γ p' (k ()) [] s e s'
  | .load a _ k => ∃ o,s.heap.get? a=some o/\Runs M Γ p (k o) [] s e s'
  | .update a _ f k=>Runs M Γ p (k ()) [] { s with heap:=s.heap.update a f } e s'
  | .loadIfAlive a k=>Runs M Γ p (k (s.heap.get? a)) [] s e s'
  | .point _ k=>Runs M Γ p (k ()) [] s e s'
  | .alloc o k=>Runs M Γ p (k s.heap.objs.size) [] { s with heap:=s.heap.push o } e s'
  | .fresh k=>Runs M Γ p (k s.toks) [] { s with toks:=s.toks+1 } e s'
  | .ask k=>Runs M Γ p (k { program:=M.prog,params:=M.w.params }) [] s e s'
  | .choose src n k=>Runs M Γ p (k (M.w.draws src (s.drawn.get src)%n)) [] { s with drawn:=s.drawn.bump src } e s'
  | .os q _ k=>Runs M Γ p (k (Os.step s.os q).snd) [] { s with os:=(Os.step s.os q).fst } e s'
  | .handled own k=>Runs M Γ p (k (if own=true then Γ.own else Γ.handled)) [] s e s'
  | .genState g k => ∃ st,s.gens[g]? = some st/\Runs M Γ p (k st.seen) [] s e s'
  | .stack k=>Runs M Γ p (k ((Γ.code,p)::Γ.below)) [] s e s'
  | .thread k=>Runs M Γ p (k 0) [] s e s'
  | .newGen c k=>Runs M Γ p (k s.gens.size) [] { s with gens:=s.gens.push (.fresh c) } e s'
  | .call c h g l k => ∃ e1 s1,Runs M (Γ.enter c h p) p (M.den c) [] s e1 s1/\(match e1 with
   | .ret r=>Runs M Γ p (k r) [] s1 e s'
   | .susp v g₀ l₀ k₀ c₀ p₀ fs=>e = .susp v g₀ l₀ k₀ c₀ p₀ (fs++[Frame.ret k h g l Γ.code p []])/\s'=s1)
  | .yield v g l k=>e = .susp v g l k Γ.code p []/\s'=s
  | .resume g r _ k => ∃ st,s.gens[g]? = some st/\(match st with
   | .fresh c=>(match r with
    | .send v=>(v = .none/\∃ e1 s1,Runs M (Γ.wake c p) p (M.den c) [] (s.setGen g .running) e1 s1/\Runs M Γ p (k e1.result) [] (s1.setGen g e1.genState) e s')∨(v≠.none/\Runs M Γ p (k .justStarted) [] s e s')
    | .throw x=>Runs M Γ p (k (.raised x)) [] (s.setGen g .finished) e s')
   | .suspended k₀ _ c₀ p₀ fs _ => ∃ e1 s1,Runs M (Γ.wake c₀ p) p₀ (k₀ r) fs (s.setGen g .running) e1 s1/\Runs M Γ p (k e1.result) [] (s1.setGen g e1.genState) e s'
   | .running=>Runs M Γ p (k .running) [] s e s'
   | .finished=>Runs M Γ p (k .finished) [] s e s')
  | _=>True
theorem aR(h:Runs M Γ p t fs s e s'):qJA M Γ p t fs s e s':=by
 cases h with
 | done=>exact⟨rfl,rfl⟩
 | raise=>exact⟨rfl,rfl⟩
 | again _ h=>exact h
 | load h1 h2=>exact⟨_,h1,h2⟩
 | update _ h=>exact h
 | choose _ h=>exact h
 | genState h1 h2=>exact⟨_,h1,h2⟩
 | call h1 h2=>exact⟨_,_,h1,h2⟩
 | callSusp h1=>exact⟨_,_,h1,rfl,rfl⟩
 | yield=>exact⟨rfl,rfl⟩
 | resumeFresh h1 h2 _ h4=>exact⟨_,h1,.inl ⟨rfl,_,_,h2,h4⟩⟩
 | resumeSuspended h1 h2 _ h4=>exact⟨_,h1,_,_,h2,h4⟩
 | resumeJustStarted h1 h2 h3=>exact⟨_,h1,.inr ⟨h2,h3⟩⟩
 | resumeThrowFresh h1 h2=>exact⟨_,h1,h2⟩
 | resumeRunning h1 h2=>exact⟨_,h1,h2⟩
 | resumeFinished h1 h2=>exact⟨_,h1,h2⟩
 | segRet h1 h2=>exact⟨_,_,h1,h2⟩
 | segGen h1 h2=>exact⟨_,_,h1,h2⟩
 | segSuspOut h1 h2=>
  refine⟨_,_,h2,?_⟩;rw[h1];exact⟨rfl,rfl⟩
 | segSuspGen h1 h2 _ h4=>
  refine⟨_,_,h2,?_⟩;rw[h1];exact h4
 | rule h=>exact h
 | «at» h=>exact h
 | loadIfAlive h=>exact h
 | point h=>exact h
 | alloc h=>exact h
 | fresh h=>exact h
 | ask h=>exact h
 | os h=>exact h
 | handled h=>exact h
 | stack h=>exact h
 | thread h=>exact h
 | newGen h=>exact h
theorem xP(h:Runs M Γ p t fs s e s') :
  ∀ {e2:End} {s2:ae},Runs M Γ p t fs s e2 s2->e=e2/\s'=s2:=by
 induction h with
 | done=>intro e2 s2 h2;obtain⟨rfl,rfl⟩:=aR h2;exact⟨rfl,rfl⟩
 | raise=>intro e2 s2 h2;obtain⟨rfl,rfl⟩:=aR h2;exact⟨rfl,rfl⟩
 | again _ _ ih=>intro e2 s2 h2;exact ih (aR h2)
 | load h1 _ ih=>
  intro e2 s2 h2;obtain⟨o,ho,h⟩:=aR h2
  cases h1.symm.trans ho
  exact ih h
 | update _ _ ih=>intro e2 s2 h2;exact ih (aR h2)
 | choose _ _ ih=>intro e2 s2 h2;exact ih (aR h2)
 | genState h1 _ ih=>
  intro e2 s2 h2;obtain⟨o,ho,h⟩:=aR h2
  cases h1.symm.trans ho
  exact ih h
 | call _ _ ih1 ih2=>
  intro e2 s2 h2;obtain⟨e1,s1,h,h'⟩:=aR h2;obtain⟨rfl,rfl⟩:=ih1 h;exact ih2 h'
 | callSusp _ ih=>
  intro e2 s2 h2;obtain⟨e1,s1,h,h'⟩:=aR h2;obtain⟨rfl,rfl⟩:=ih h;exact⟨h'.1.symm,h'.2.symm⟩
 | yield=>intro e2 s2 h2;obtain⟨rfl,rfl⟩:=aR h2;exact⟨rfl,rfl⟩
 | resumeFresh h1 _ _ _ ih1 ih2=>
  intro e2 s2 h2;obtain⟨st,ho,h⟩:=aR h2
  cases h1.symm.trans ho
  rcases h with ⟨_,e1,s1,h,h'⟩ | ⟨z,_⟩
  .obtain⟨rfl,rfl⟩:=ih1 h;exact ih2 h'
  .exact dP rfl z
 | resumeSuspended h1 _ _ _ ih1 ih2=>
  intro e2 s2 h2;obtain⟨st,ho,h⟩:=aR h2
  cases h1.symm.trans ho
  obtain⟨e1,s1,h,h'⟩:=h;obtain⟨rfl,rfl⟩:=ih1 h;exact ih2 h'
 | resumeJustStarted h1 nz _ ih=>
  intro e2 s2 h2;obtain⟨st,ho,h⟩:=aR h2
  cases h1.symm.trans ho
  rcases h with ⟨z,_⟩ | ⟨_,h⟩
  .exact dP z nz
  .exact ih h
 | resumeThrowFresh h1 _ ih=>
  intro e2 s2 h2;obtain⟨st,ho,h⟩:=aR h2
  cases h1.symm.trans ho
  exact ih h
 | resumeRunning h1 _ ih=>
  intro e2 s2 h2;obtain⟨st,ho,h⟩:=aR h2
  cases h1.symm.trans ho
  exact ih h
 | resumeFinished h1 _ ih=>
  intro e2 s2 h2;obtain⟨st,ho,h⟩:=aR h2
  cases h1.symm.trans ho
  exact ih h
 | segRet _ _ ih1 ih2=>
  intro e2 s2 h2;obtain⟨e1,s1,h,h'⟩:=aR h2;obtain⟨rfl,rfl⟩:=ih1 h;exact ih2 h'
 | segGen _ _ ih1 ih2=>
  intro e2 s2 h2;obtain⟨e1,s1,h,h'⟩:=aR h2;obtain⟨rfl,rfl⟩:=ih1 h;exact ih2 h'
 | segSuspOut hs _ ih=>
  intro e2 s2 h2;obtain⟨e1,s1,h,h'⟩:=aR h2;obtain⟨rfl,rfl⟩:=ih h;simp only[hs]at h';exact⟨h'.1.symm,h'.2.symm⟩
 | segSuspGen hs _ _ _ ih1 ih2=>
  intro e2 s2 h2;obtain⟨e1,s1,h,h'⟩:=aR h2;obtain⟨rfl,rfl⟩:=ih1 h;simp only[hs]at h';exact ih2 h'
 | rule _ ih=>intro e2 s2 h2;exact ih (aR h2)
 | «at» _ ih=>intro e2 s2 h2;exact ih (aR h2)
 | loadIfAlive _ ih=>intro e2 s2 h2;exact ih (aR h2)
 | point _ ih=>intro e2 s2 h2;exact ih (aR h2)
 | alloc _ ih=>intro e2 s2 h2;exact ih (aR h2)
 | fresh _ ih=>intro e2 s2 h2;exact ih (aR h2)
 | ask _ ih=>intro e2 s2 h2;exact ih (aR h2)
 | os _ ih=>intro e2 s2 h2;exact ih (aR h2)
 | handled _ ih=>intro e2 s2 h2;exact ih (aR h2)
 | stack _ ih=>intro e2 s2 h2;exact ih (aR h2)
 | thread _ ih=>intro e2 s2 h2;exact ih (aR h2)
 | newGen _ ih=>intro e2 s2 h2;exact ih (aR h2)
theorem Zc(M:Model)(Γ:Ctx)(t:Sem α):∀ Q Q' E E' p s,Sem.wp M Γ t Q E p s->Sem.wp M Γ t Q' E' p s →
  Sem.wp M Γ t (fun a p' s'=>Q a p' s'/\Q' a p' s') (fun e p' s'=>E e p' s'/\E' e p' s') p s:=by
 induction t with
 | pure a=>intro Q Q' E E' p s h h';exact⟨h,h'⟩
 | raise e=>intro Q Q' E E' p s h h';exact⟨h,h'⟩
 | load a _ k ih=>intro Q Q' E E' p s h h';obtain⟨o,ho,h⟩:=h;obtain⟨o',ho',h'⟩:=h';cases ho.symm.trans ho';exact⟨o,ho,ih o _ _ _ _ p s h h'⟩
 | update a _ f k ih=>intro Q Q' E E' p s h h';exact⟨h.1,ih () _ _ _ _ p _ h.2 h'.2⟩
 | choose src m k ih=>intro Q Q' E E' p s h h';exact⟨h.1,ih _ _ _ _ _ p _ h.2 h'.2⟩
 | call c hd g l k ih=>
  intro Q Q' E E' p s h h';obtain⟨r,s1,x,h⟩:=h;obtain⟨r',Yu,x',h'⟩:=h';obtain⟨q1,q2⟩:=xP x x'
  cases q1;cases q2
  exact⟨r,s1,x,ih _ _ _ _ _ p _ h h'⟩
 | genState g k ih=>intro Q Q' E E' p s h h';obtain⟨o,ho,h⟩:=h;obtain⟨o',ho',h'⟩:=h';cases ho.symm.trans ho';exact⟨o,ho,ih _ _ _ _ _ p s h h'⟩
 | resume g r l k ih=>
  intro Q Q' E E' p s h h';obtain⟨r1,s1,x,h⟩:=h;obtain⟨r',Yu,x',h'⟩:=h'
  have q:r1=r'/\s1=Yu:=by
   unfold Wakes at x x';revert x x';generalize s.gens[g]? = gg;intro x x'
   cases gg with
   | none=>exact x.elim
   | some st=>
    cases st with
    | fresh c=>
     cases r with
     | throw y=>exact⟨x.1.trans x'.1.symm,x.2.trans x'.2.symm⟩
     | send v=>
      cases v with
      | none=>
       obtain⟨e1,t1,y1,_,rfl,rfl⟩:=x;obtain⟨e2,t2,y2,_,rfl,rfl⟩:=x';obtain⟨rfl,rfl⟩:=xP y1 y2;exact⟨rfl,rfl⟩
      | _=>exact⟨x.1.trans x'.1.symm,x.2.trans x'.2.symm⟩
    | suspended=>
     obtain⟨e1,t1,y1,_,rfl,rfl⟩:=x;obtain⟨e2,t2,y2,_,rfl,rfl⟩:=x';obtain⟨rfl,rfl⟩:=xP y1 y2;exact⟨rfl,rfl⟩
    | running=>exact⟨x.1.trans x'.1.symm,x.2.trans x'.2.symm⟩
    | finished=>exact⟨x.1.trans x'.1.symm,x.2.trans x'.2.symm⟩
  obtain⟨rfl,rfl⟩:=q;exact⟨_,_,x,ih _ _ _ _ _ p _ h h'⟩
 | _=>intros;first | assumption | (rename_i ih _ _ _ _ _ _ h h';exact ih _ _ _ _ _ _ _ h h')
theorem JV(h:wpAny M A t Q E s)(h':wpAny M A t Q' E' s) :
  wpAny M A t (fun a s'=>Q a s'/\Q' a s') (fun e s'=>E e s'/\E' e s') s:=fun Γ p hΓ=>Zc M Γ t _ _ _ _ p s (h Γ p hΓ) (h' Γ p hΓ)
theorem dW(h:wpAny M A t Q E s)(h':wpAny M A t Q' E s):wpAny M A t (fun a s'=>Q a s'/\Q' a s') E s:=
 bX (JV h h') (fun _ _ z=>z) fun _ _ z=>z.1
end L2
namespace L2
open PySem PySem.Spec PyProof.Rows
def qGA(ob:Obj):Prop:=∃ vs,ob.data = .fields vs/\vs[2]? = some .none
def DictAt(h:Heap)(e:av)(dd:aE av):Prop:=∃ ob,h.get? e=some ob/\ob.dict=dd/\(dd=none->qGA ob)
theorem V9(o:Obj)(f:Array ax->Array ax):(o.mapFields f).dict=o.dict:=by
 obtain⟨c,d,dt,_⟩:=o
 cases dt <;> rfl
theorem DictAt.upd(x:DictAt h e dd)(ha:h.get? a=some o)(hd:o.data = .fields vs)(hf:∀ ws:Array ax,(f ws)[2]? = ws[2]?:=by intro ws;simp):DictAt (h.update a (Obj.mapFields f)) e dd:=by
 obtain⟨ob,q,r,c⟩:=x
 by_cases z:a=e
 .subst z;rw[ha]at q
  cases q
  exact⟨_,ck _ ha (Obj.isFreed_of_fields (Obj.data_mapFields hd f)),(V9 _ _).trans r,fun y=>let ⟨ws,c1,c2⟩:=c y;⟨_,Obj.data_mapFields c1 f,(hf ws).trans c2⟩⟩
 .exact⟨ob,(cf _ _ z).trans q,r,c⟩
theorem DictAt.push(x:DictAt h e dd)(o:Obj):DictAt (h.push o) e dd:=
 let ⟨ob,q,r⟩:=x;⟨ob,j8 _ q,r⟩
theorem ou(ht:s.heap.TracedAtW base e cls a0 fl)(x:DictAt s.heap e dd):wpAny M A (setFlight (.ref e) none) (fun _ s'=>DictAt s'.heap e dd) E s:=by obtain⟨_,_,T,_,_,he,_,hd,h1,_,_,hT,hdT,h3⟩:=ht;unfold setFlight;refine aS (wpAny_field he hd h1 ?_);rw[if_pos (show (Value.ref T != Value.none)=true by simp)];exact wpAny_setField hT hdT (dQ.mp h3).1 (x.upd hT hdT)
theorem mO(hfr:A.frames=some (env::outer))(hl:s.heap.FunFrames base (env::outer))(hf:env.frame=some L)
  (he:s.heap.get? e=some oe) (hd:oe.data = .fields vs) (hsz:1<vs.size) (x:DictAt s.heap e dd)
  (hq:∀ h1 T oT ts,DictAt h1 e dd->(∃ oe' vs',h1.get? e=some oe'/\oe'.data = .fields vs'/\vs'[1]? = some (.ref T))->h1.get? T=some oT->oT.data = .fields ts->3<ts.size->Q () { s with heap:=h1 }) :
  wpAny M A (do let a ← frameOf env;let pl ← entryPlaceOf L b;let c ← EntryCells.newEntry head a .none (rawInt L) .none pl;setField (.ref e) 1 c) Q E s:=by
 refine aS (wpAny_frameOf_fun hfr hl hf fun h1 hs=>?_);refine aS (wpAny_entryPlaceOf fun pl hpl=>?_);unfold EntryCells.newEntry newFields;refine aS (wpAny_newObj_type ?_ (hpl.sizeOk5 _ _ _ _ _));obtain⟨sl,e1⟩:=hs.2.2 e oe he
 have x1:DictAt h1 e dd:=by
  obtain⟨_,q,r⟩:=x;rw[he]at q
  cases q
  exact⟨_,e1,r⟩
 have e2:=j8 { cls:=.type "traceback",dict:=none,data:=.fields ([head,.ref L,.none,rawInt L,.none]++(if pl.isEmpty then List.replicate 6 Value.none else pl)).toArray } e1;have hd2:({ oe with slots:=sl }:Obj).data = .fields vs:=hd;have ne:e≠h1.objs.size:=lO (iU e1);refine wpAny_setField e2 hd2 hsz (hq _ h1.objs.size { cls:=.type "traceback",dict:=none,data:=.fields ([head,.ref L,.none,rawInt L,.none]++(if pl.isEmpty then List.replicate 6 Value.none else pl)).toArray } _ ((x1.push _).upd e2 hd2) ?_ ?_ rfl ?_)
 .exact⟨_,_,Heap.get?_update_self _ e2 (Obj.isFreed_of_fields (Obj.data_mapFields hd2 _)),Obj.data_mapFields hd2 _,by simp [hsz]⟩
 .exact (cf _ _ ne).trans (zr h1 rfl)
 .simp only[List.size_toArray,List.length_append,List.length_cons,List.length_nil];lia
theorem Bq(hfr:A.frames=some (env::outer))(hf:env.frame=some L)(hfl:Heap.FlyingW base (env::outer) e cls a0 s.heap)(x:DictAt s.heap e dd):wpAny M A (noteFrame (.ref e) env) (fun _ s'=>DictAt s'.heap e dd) E s:=by
 obtain⟨_,_,hl,_,_,T,_,ts,he,_,hd,h1,_,hTe,hT,hdT,h3⟩:=hfl;unfold noteFrame;simp only[hf];refine aS (wpAny_field he hd h1 ?_);rw[if_pos (show (Value.ref T != Value.none)=true by simp)];refine aS (wpAny_field hT hdT h3 ?_);rw[if_neg (show ¬ ((Value.none==rawInt L)=true) by simp [rawInt])];refine aS (wpAny_setField hT hdT (dQ.mp h3).1 ?_);refine mO hfr (hl.of_keeps fun b o hb hnf=>⟨o,(cf _ _ fun z=>?_).trans hb,rfl⟩) hf ((cf _ _ hTe).trans he) hd (dQ.mp h1).1 (x.upd hT hdT) fun _ _ _ _ z _ _ _ _=>z;rw[<-z,hT]at hb
 cases hb
 exact hnf ts hdT
theorem Kh(hfr:A.frames=some (env::outer))(hf:env.frame=some L)(hfl:Heap.FlyingW base (env::outer) e cls a0 s.heap)(x:DictAt s.heap e dd):wpAny M A (leaving env (.ref e)) (fun _ s'=>DictAt s'.heap e dd) E s:=by unfold leaving;refine aS (bX (dW (wpAny_looks_onW (Q:=fun _ s'=>Heap.HeldW base (env::outer) e cls a0 L s'.heap) hfr hf hfl fun _ k _=>k) (Bq hfr hf hfl x)) (fun _ _ z=>?_) fun _ _ z=>z);exact ou z.1.2.2.2 z.2
theorem Kw(hfr:A.frames=some (env::outer))(hl:s.heap.FunFrames base (env::outer))(hf:env.frame=some L)(he:s.heap.get? e=some oe)(hd:oe.data = .fields vs)(h1:vs[1]? = some .none)
  (x:DictAt s.heap e dd):wpAny M A (leaving env (.ref e)) (fun _ s'=>DictAt s'.heap e dd) E s:=by unfold leaving noteFrame;simp only[hf];refine aS (aS (wpAny_field he hd h1 ?_));rw[cy (by decide)];refine mO hfr hl hf he hd (dQ.mp h1).1 x fun _ T _ _ x2 ⟨_,_,q1,q2,q3⟩ q4 q5 q6=>?_;unfold setFlight;refine aS (wpAny_field q1 q2 q3 ?_);rw[if_pos (show (Value.ref T != Value.none)=true by simp)];exact wpAny_setField q4 q5 q6 (x2.upd q4 q5)
theorem Kg(hfr:A.frames=some (env::outer))(hf:env.frame=some L)(hfl:Heap.FlyingW base (env::outer) e cls a0 s.heap)(x:DictAt s.heap e dd)
  (hQ:∀ h',Heap.FlyingW base outer e cls a0 h'->s.heap.UpToSlots h'->DictAt h' e dd->Q () { s with heap:=h' }):wpAny M A (leaving env (.ref e)) Q E s:=
 bX (dW (wpAny_leaves_onW (Q:=fun _ s'=>∃ h',s' = { s with heap:=h' }/\Heap.FlyingW base outer e cls a0 h'/\s.heap.UpToSlots h') hfr hf hfl fun h' k1 k2=>⟨h',rfl,k1,k2⟩) (Kh hfr hf hfl x))
  (fun _ _ ⟨⟨h',z,k1,k2⟩,k3⟩=>by subst z;exact hQ h' k1 k2 k3) fun _ _ z=>z
theorem Bw(hfr:A.frames=some (env::outer))(hf:env.frame=some L)(hfl:Heap.FlyingW base (env::outer) e cls a0 s.heap)(x:DictAt s.heap e dd)
  (hQ:∀ h',Heap.HeldW base (env::outer) e cls a0 L h'->s.heap.UpToSlots h'->DictAt h' e dd->Q () { s with heap:=h' }):wpAny M A (noteFrame (.ref e) env) Q E s:=
 bX (dW (wpAny_looks_onW (Q:=fun _ s'=>∃ h',s' = { s with heap:=h' }/\Heap.HeldW base (env::outer) e cls a0 L h'/\s.heap.UpToSlots h') hfr hf hfl fun h' k1 k2=>⟨h',rfl,k1,k2⟩) (Bq hfr hf hfl x))
  (fun _ _ ⟨⟨h',z,k1,k2⟩,k3⟩=>by subst z;exact hQ h' k1 k2 k3) fun _ _ z=>z
theorem U4(hh:Heap.HeldW base l e cls a0 L s.heap)(x:DictAt s.heap e dd)(hQ:∀ h',Heap.FlyingW base l e cls a0 h'->s.heap.UpToSlots h'->DictAt h' e dd->Q () { s with heap:=h' }):wpAny M A (setFlight (.ref e) none) Q E s:=
 bX (dW (wpAny_landsW (Q:=fun _ s'=>∃ h',s' = { s with heap:=h' }/\Heap.FlyingW base l e cls a0 h'/\s.heap.UpToSlots h') hh fun h' k1 k2=>⟨h',rfl,k1,k2⟩) (ou hh.2.2.2 x))
  (fun _ _ ⟨⟨h',z,k1,k2⟩,k3⟩=>by subst z;exact hQ h' k1 k2 k3) fun _ _ z=>z
theorem Ei(hh:Heap.FlyingW base l e cls a0 s.heap)(x:DictAt s.heap e dd)(hQ:∀ h',Heap.FlyingW base l e cls a0 h'->s.heap.UpToSlots h'->DictAt h' e dd->Q () { s with heap:=h' }):wpAny M A (setFlight (.ref e) none) Q E s:=
 bX (dW (lands_againW (Q:=fun _ s'=>∃ h',s' = { s with heap:=h' }/\Heap.FlyingW base l e cls a0 h'/\s.heap.UpToSlots h') hh fun h' k1 k2=>⟨h',rfl,k1,k2⟩) (ou hh.2.2.2.at x))
  (fun _ _ ⟨⟨h',z,k1,k2⟩,k3⟩=>by subst z;exact hQ h' k1 k2 k3) fun _ _ z=>z
theorem Ho(hfr:A.frames=some (env::outer))(hf:env.frame=some L)(hkb:base.StaysIn s.heap)(hl:s.heap.FunFrames base (env::outer))(hb:base.get? e=none)
  (he:s.heap.get? e=some oe) (hd:oe.data = .fields vs) (h1:vs[1]? = some .none) (h0:vs[0]? = some a0) (h2:oe.dict=none->vs[2]? = some .none)
  (hQ:∀ h',Heap.FlyingW base outer e oe.cls a0 h'->s.heap.UpToSlots h'->DictAt h' e oe.dict->Q () { s with heap:=h' }):wpAny M A (leaving env (.ref e)) Q E s:=
 bX (dW (wpAny_leaving_firstW (Q:=fun _ s'=>∃ h',s' = { s with heap:=h' }/\Heap.LeftW base (env::outer) e oe.cls a0 s.heap h') hfr hl hf he hkb hb hd h1 h0 fun h' k=>⟨h',rfl,k⟩) (Kw hfr hl hf he hd h1 ⟨oe,he,rfl,fun y=>⟨vs,hd,h2 y⟩⟩))
  (fun _ _ ⟨⟨h',z,k1,⟨_,_,k2⟩,k3,k4⟩,k5⟩=>by subst z;exact hQ h' ⟨k1,hb,k2,k3⟩ k4 k5) fun _ _ z=>z
def qK(P:ag)(w:aI):Lw:=fun outer H s E e s'=>
 ∃ ea cls a0 H' B,e = .ref ea/\s'.os=s.os/\AllBare s'.gens/\Heap.FlyingW B outer ea cls a0 s'.heap ∧
  jO P w H' s'.heap/\Un (frs outer) [] H H' s.heap s'.heap/\(∀ b,(H' b).isSome=true->∃ o,s'.heap.get? b=some o/\B.get? b=some o) ∧
  (∀ b o,s.heap.get? b=some o->b∉frs outer->∃ o',s'.heap.get? b=some o'/\B.get? b=some o')/\∃ dd,DictAt s'.heap ea dd/\E cls dd H'
section
variable{P:ag}{w:aI}{H H':Hp}{h h0 h1 h2 B:Heap}{a:av}{o:HO}{fs:ay av}
theorem bW.there(x:bW P w H h a o):∃ ob,h.get? a=some ob:=by
 cases o with
 | lst xs=>obtain⟨_,_,_,_,e⟩:=x;exact⟨_,e⟩
 | tup xs=>obtain⟨_,_,_,ob,e,_⟩:=x;exact⟨ob,e⟩
 | dK kvs=>obtain⟨_,_,_,_,ob,_,_,e,_⟩:=x;exact⟨ob,e⟩
 | dT kvs=>obtain⟨_,_,_,_,ob,_,_,e,_⟩:=x;exact⟨ob,e⟩
 | set S n=>obtain⟨ob,_,_,_,e,_⟩:=x;exact⟨ob,e⟩
 | ins C dx fs=>obtain⟨_,_,_,e,_⟩:=x;exact⟨_,e⟩
 | own y=>exact x
 | xd fs=>obtain⟨_,⟨ob,_,_,e,_⟩,_⟩:=x;exact⟨ob,e⟩
 | JP lo hi=>obtain⟨_,_,_,e⟩:=x;exact⟨_,e⟩
 | Ku ob u=>obtain⟨e,_⟩:=x;exact⟨_,e⟩
 | Yn ps=>exact⟨_,x⟩
 | met f y=>exact⟨_,x⟩
 | ext φ=>obtain⟨_,e,_⟩:=x;exact e
theorem jO.flown(hok:jO P w H h)(hB:∀ b,(H b).isSome=true->∃ ob,h.get? b=some ob/\B.get? b=some ob)(st:B.StaysIn h2):jO P w H h2:=fun a o e=>
 (hok a o e).stay (fun b u hb q=>by
  have hs:(H b).isSome=true:=by
   rcases hb with z | z
   .rw[z,e];rfl
   .rw[z];rfl
  obtain⟨ob,e1,e2⟩:=hB b hs;rw[q]at e1
  cases e1
  exact st b _ e2) (fun _ q=>q) fun _ _ q=>q
theorem Un.flown(un:Un fs [] H H' h0 h1)(hC:∀ b ob,h0.get? b=some ob->b∉fs->∃ o',h1.get? b=some o'/\B.get? b=some o')(st:B.StaysIn h2)(sl:h1.UpToSlots h2)
  (fr:∀ b∈fs,H b=none/\∃ ob,h0.get? b=some ob/\∀ vs,ob.data≠.fields vs):Un fs [] H H' h0 h2:=by
 have slot:∀ b ob,h0.get? b=some ob->H b=none->b∈fs->∃ sl,h2.get? b=some { ob with slots:=sl }:=fun b ob q n hb=>by
  obtain⟨_,_,e1,nf⟩:=fr b hb;rw[q]at e1
  cases e1
  obtain⟨_,e2⟩:=un.slot b ob q n hb (by simp);obtain⟨s2,e3⟩:=sl b _ e2 nf;exact⟨s2,e3⟩
 refine⟨fun b ob q n hb hx=>?_,fun b ob q n hb _=>slot b ob q n hb,fun b ob q n hx=>un.free b ob q n hx,fun b ob q hx=>?_,un.tups,un.qy,un.rR⟩
 .obtain⟨o',e1,e2⟩:=hC b ob q hb;rw[un.keep b ob q n hb hx]at e1
  cases e1
  exact st b _ e2
 .by_cases hb:b∈fs
  .obtain⟨s2,e⟩:=slot b ob q (fr b hb).1 hb;exact⟨_,e⟩
  .obtain⟨o',_,e2⟩:=hC b ob q hb;exact⟨o',st b _ e2⟩
end
section
variable{P:ag}{w:aI}{K:cL}{mg:Str->aE ax}{base:Heap}{N:ay Str}{qual:Str}{scope:Scope}{f:av}{cd:ax}{A:ai}{outer:ay Env}{s:ae}{H:Hp}{E E':XK}
theorem iI(h:env.frame=some L):frs (env::l)=L::frs l:=by unfold frs;rw[eT,h]
theorem Inv.frames(I:Inv X pins σ H s):∀ b∈frs X.stack,H b=none/\∃ ob,s.heap.get? b=some ob/\∀ vs,ob.data≠.fields vs:=
 fun b hb=>⟨I.rW b hb,let ⟨_,ob,e,nf⟩:=I.stack.mem hb;⟨ob,e,nf⟩⟩
theorem Inv.qu(I:Inv X pins σ H s):∀ b∈frs X.outer,X.H₀ b=none/\∃ ob,X.s₀.heap.get? b=some ob/\∀ vs,ob.data≠.fields vs:=
 fun b hb=>⟨I.ok.YD b hb,let ⟨_,ob,e,nf⟩:=I.ok.tU.mem hb;⟨ob,e,nf⟩⟩
theorem Ss(hE:∀ c d H,E' c d H->E c d H):Passes (qK P w) (qL (qK P w) P w K mg base N qual scope f cd A outer s H E) E':=by
 intro _ σ _ _ e s' I h;obtain⟨ea,cls,a0,H',B,rfl,ho,hg,fl,hok,un,hB,hC,dd,hdd,hq⟩:=h;have nL:∀ b ob,s.heap.get? b=some ob->b≠s.heap.objs.size:=fun b ob q=>lO (iU q);have J:=I.call' ho un hok hg (fun _ z=>nomatch z);have ub:=J.base
 have ZC:∀ b ob,s.heap.get? b=some ob->b∉frs outer->∃ o',s'.heap.get? b=some o'/\B.get? b=some o':=fun b ob q hb=>by
  obtain⟨o1,e1⟩:=I.base.there b ob q (by show b∉([]:ay av);simp);refine hC b o1 e1 fun z=>?_;rw[show frs (qL (qK P w) P w K mg base N qual scope f cd A outer s H E).stack=s.heap.objs.size::frs outer from iI rfl]at z;exact (bL.mp z).elim (nL b ob q) hb
 refine Kg I.ok.frames rfl fl hdd fun _ Ft sl dk=>?_;refine⟨ea,cls,a0,H',B,rfl,ho.trans I.os,hg,Ft,hok.flown hB Ft.1,ub.flown ZC Ft.1 sl I.qu,fun b hb=>?_,fun b ob q hb=>?_,dd,dk,hE _ _ _ hq⟩
 .obtain⟨ob,_,e2⟩:=hB b hb;exact⟨ob,Ft.1 b _ e2,e2⟩
 .obtain⟨o',_,e2⟩:=ZC b ob q hb;exact⟨o',Ft.1 b _ e2,e2⟩
def del(H:Hp)(e:av):Hp:=fun b=>if b=e then none else H b
theorem tW:del H e e=none:=cE rfl
theorem mQ(h:b≠e):del H e b=H b:=cy h
def Loose(o:aE HO):Prop:=o=none ∨ ∃ φ,o=some (.ext φ)
section
variable{P:ag}{w:aI}{H H':Hp}{h h':Heap}{e:av}{fs ex:ay av}
theorem Loose.ne(l:Loose (H e))(q:H b=some o)(n:∀ φ,o≠.ext φ):b≠e:=fun z=>by
 subst z;rcases l with y | ⟨φ,y⟩
 .rw[q]at y;cases y
 .rw[q]at y;cases y;exact n φ rfl
theorem jO.del(x:jO P w H h)(l:Loose (H e)):jO P w (L2.del H e) h:=fun a o q=>by
 by_cases z:a=e
 .subst z;rw[tW]at q
  cases q
 .rw[mQ z]at q;refine (x a o q).stay (fun _ _ _ y=>y) (fun b y=>?_) fun b _ y=>?_
  .rw[mQ (l.ne y fun _=>nofun)];exact y
  .rw[mQ (l.ne y fun _=>nofun)];exact y
theorem Un.del(u:Un fs ex H H' h h')(l:Loose (H' e)):Un fs ex H (L2.del H' e) h h':=by
 refine⟨u.keep,u.slot,fun b o q n x=>?_,u.there,fun b xs q=>?_,fun b o v q=>?_,fun b ps q=>?_⟩
 .by_cases z:b=e
  .rw[z,tW]
  .rw[mQ z];exact u.free b o q n x
 .have y:=u.tups b xs q;rw[mQ (l.ne y fun _=>nofun)];exact y
 .have y:=u.qy b o v q;rw[mQ (l.ne y fun _=>nofun)];exact y
 .obtain⟨m,y⟩:=u.rR b ps q;exact⟨m,by rw[mQ (l.ne y fun _=>nofun)];exact y⟩
end
def Vh(X:Cx)(E:XK):Prop:=∀ pins σ H s e C a0 oe vs,Inv X pins σ H s->X.s₀.heap.get? e=none->Loose (H e)->s.heap.get? e=some oe->oe.cls = .ref C →
 oe.data = .fields vs->vs[0]? = some a0->vs[1]? = some .none->(oe.dict=none->vs[2]? = some .none)->E (.ref C) oe.dict (del H e)->X.xe (.ref e) s
theorem qBI:Vh (qL (qK P w) P w K mg base N qual scope f cd A outer s H E) E:=by
 intro _ σ H1 s1 e C a0 _ _ I en hl he hc hd h0 h1 h2 hq;have es:frs (qL (qK P w) P w K mg base N qual scope f cd A outer s H E).stack=s.heap.objs.size::frs outer:=iI rfl;generalize hS:e::frs (qL (qK P w) P w K mg base N qual scope f cd A outer s H E).stack=S
 have hin:∀ env∈(qL (qK P w) P w K mg base N qual scope f cd A outer s H E).stack,∀ b,env.frame=some b->b∈S:=
  fun env he b hb=>hS▸Fj _ (List.mem_filterMap.mpr ⟨env,he,hb⟩)
 have inB:∀ b ob,s1.heap.get? b=some ob->b≠e->b∉frs (qL (qK P w) P w K mg base N qual scope f cd A outer s H E).stack->(PySem.W.hideAll s1.heap S).get? b=some ob:=
  fun b ob q z hb=>PySem.W.hideAll_get _ q (by rw[<-hS];exact fun y=>(bL.mp y).elim z hb)
 have hB:∀ b,(del H1 e b).isSome=true->∃ ob,s1.heap.get? b=some ob/\(PySem.W.hideAll s1.heap S).get? b=some ob:=fun b hb=>by
  obtain⟨u,hu⟩:=jv.mp hb
  have z:b≠e:=fun z=>by rw[z,tW]at hu;cases hu
  rw[mQ z]at hu;obtain⟨ob,q⟩:=(I.hok b u hu).there;exact⟨ob,q,inB b ob q z fun y=>by rw[I.rW b y]at hu;cases hu⟩
 have ZC:∀ b ob,s.heap.get? b=some ob->b∉frs outer->∃ o',s1.heap.get? b=some o'/\(PySem.W.hideAll s1.heap S).get? b=some o':=fun b ob q hb=>by
  obtain⟨o1,e1⟩:=I.base.there b ob q (by show b∉([]:ay av);simp);refine⟨o1,e1,inB b o1 e1 (fun z=>?_) fun z=>?_⟩
  .subst z;have en':s.heap.get? b=none:=en;rw[q]at en'
   cases en'
  .rw[es]at z;exact (bL.mp z).elim (lO (iU q)) hb
 have ub:Un (frs outer) [] H (del H1 e) s.heap s1.heap:=Un.del I.base hl;show wpAny _ _ (leaving _ (.ref e)) _ _ _;refine Ho (L:=s.heap.objs.size) (base:=PySem.W.hideAll s1.heap S) I.ok.frames rfl (fun b ob q=>PySem.W.of_hideAll _ q) (PySem.W.funFrames_hide I.stack hin) (PySem.W.hideAll_none _ (by rw[<-hS];exact wO)) he hd h1 h0 h2 fun h2 fl sl dk=>?_;rw[hc]at fl;refine⟨e,.ref C,a0,del H1 e,_,rfl,I.os,I.bare,fl,(I.hok.del hl).flown hB fl.1,ub.flown ZC fl.1 sl I.qu,fun b hb=>?_,fun b ob q hb=>?_,_,dk,hq⟩
 .obtain⟨ob,_,e2⟩:=hB b hb;exact⟨ob,fl.1 b _ e2,e2⟩
 .obtain⟨o',_,e2⟩:=ZC b ob q hb;exact⟨o',fl.1 b _ e2,e2⟩
end
noncomputable abbrev VB:ay ax:=[.type "ValueError",.type "Exception",.type "BaseException",.type "object"]
theorem Inv.qDE(I:Inv X pins σ H s)(hx:X.ex=[])(q:s.heap.get? e=none):X.s₀.heap.get? e=none:=by
 cases z:X.s₀.heap.get? e with
 | none=>rfl
 | some o=>
  obtain⟨_,y⟩:=I.base.there e o z (by rw[hx];simp);rw[q]at y
  cases y
theorem Inv.Tf(I:Inv X pins σ H s)(q:s.heap.get? e=none):H e=none:=by
 cases z:H e with
 | none=>rfl
 | some o=>
  obtain⟨_,y⟩:=(I.hok e o z).there;rw[q]at y
  cases y
def XP(X:Cx)(pins:ay (av×Obj))(E:St->XK)(e:ax)(s':ae):Prop:=∃ σ1 H1 s1,Inv X pins σ1 H1 s1/\qK X.prog X.w X.stack H1 s1 (E σ1) e s'
abbrev TEX:=St->Hp->VK->XK->Prop
abbrev TSX:=Ends->(St->XK)->St->Hp->Prop
def PEX(X:Cx)(e:Expr)(t:TEX):Prop:=∀ pins s σ H Q E,Inv X pins σ H s->t σ H Q (E σ)->wpAny (model X.prog X.w) X.A (eval e X.env) (EP X pins σ Q) (XP X pins E) s
def PSX(X:Cx)(st:ay Stmt)(t:TSX):Prop:=∀ pins s σ H D E,Inv X pins σ H s->t D E σ H->wpAny (model X.prog X.w) X.A (execs st X.env) (SP X pins D) (XP X pins E) s
def Zo(sp:Sp)(nU:ay V)(t:TA):TEX:=fun σ H Q E=>t σ H fun vs H1=>sp (vs++nU) H1 Q E
theorem Wo(F:aO X.prog X.w X.K X.mg X.base (qK X.prog X.w) k f fd ps sp)(hr:fK k X.A)(hb:Binds X.K fd ps ds)(hd:Vals nU ds)
  (I:Inv X pins σ H s) (r:Vals vs us) (h:sp (vs++nU) H Q (E σ)):wpAny (model X.prog X.w) X.A (call (.ref f) us) (EP X pins σ Q) (XP X pins E) s:=by
 have r2:=r.append hd
 have hl:(us++ds).length=ps.length:=by
  rw[<-r2.length];exact F.len _ _ _ _ h
 refine wpAny_call (codeAny_mono (F.run X.A X.stack s H ⟨us,[]⟩ (us++ds) (vs++nU) Q (E σ) hr I.env0 (hb s us I.nR hl) r2 h) fun r _ z=>?_)
 cases r with
 | error e=>exact⟨σ,H,s,I,z⟩
 | ok fl=>
  cases fl with
  | ret u=>exact I.after z
  | next=>exact c8 z
  | brk=>exact c8 z
  | cont=>exact c8 z
theorem Gv(F:aO X.prog X.w X.K X.mg X.base (qK X.prog X.w) k f fd ps sp)(hr:fK k X.A)(hg:Gl X x)(hm:X.mg x=some (.ref f))(hk:PySem.W.keepIn X.K (.ref f)=true)(hb:Binds X.K fd ps ds)(hd:Vals nU ds)
  (ha:PA X.nox (e::es) t) (hdb:(x==("__debug__" : Str))=false:=by decide) (he:starEach (e::es) X.env=(false,eval e X.env)::starEach es X.env:=by rfl) (hpl:(backTo pos (starEach es X.env)).any (·.1)=false:=by rfl) :
  PEX X (.Call (.Name x p) (e::es) [] pos) (Zo sp nU t):=by intro pins s σ H Q E I h;refine wpAny_Call_Name_kw (pZ I hg hm ?_ hdb);refine PySem.W.callWith_K I.ok.mod.kin hk (bX (ha pos pins s σ H _ (I.wish _) h) (fun _ _ z=>?_) fun _ _ z=>z.elim) he hpl;ext a;obtain⟨_,_,I1,r,q⟩:=z;ext b;exact⟨I1.gP.nR,Wo F hr hb hd I1.gP r q⟩
theorem Wv(hN:X.N.Nodup)(hi:X.N[i]? = some x)(hx:Loc X.env.scope x)(he:PEX X e tx)(hs:swapsWith e (some (.Name x pos')) pos.line X.env=pure false:=by rfl)(hf:X.fn x=true∨X.env.scope.names.lookup x=some .local:=by ext z) :
  PSX X [.Assign [.Name x pos'] e pos] (fun D E σ H=>tx σ H (fun v H1=>D.nx (σ.set i (some v)) H1) (E σ)):=by intro pins s σ H D E I h;refine wpAny_execs_cons (wpAny_Assign_Name (bI (he pins s σ H _ E I h) fun v _ ⟨y,H1,I1,r1,q1⟩=>?_) hs);exact jz I1 hN hi hx r1 (fun _ I2=>wpAny_execs_nil ⟨_,H1,I2,q1⟩) hf
theorem Rz(he:PEX X e tx)(hs:swapsWith e none pos.line X.env=pure false:=by rfl):PSX X [.Expr e pos] (fun D E σ H=>tx σ H (fun _ H1=>D.nx σ H1) (E σ)):=by intro pins s σ H D E I h;exact wpAny_execs_cons (wpAny_Expr_any (bI (he pins s σ H _ E I h) fun v _ ⟨y,H1,I1,_,q1⟩=>wpAny_execs_nil ⟨σ,H1,I1,q1⟩) I.quiet hs)
abbrev Cx.inH(X:Cx)(e:av):Cx:={ X with A:=X.A.mark (some (.ref e)),calm:=false,xe:=fun _ _=>False }
theorem Inv.inH(I:Inv X pins σ H s)(ea:av):Inv (X.inH ea) pins σ H s:=
 ⟨⟨I.ok.mod,I.ok.kind,I.ok.glob,I.ok.blt,I.ok.above,I.ok.inj,I.ok.has,I.ok.cab,(fun z=>Bool.noConfusion z),I.ok.frames,I.ok.WY,I.ok.exf,I.ok.bs,I.ok.Qy,I.ok.KZ,I.ok.Ux,I.ok.tU,I.ok.YD⟩,I.os,I.bare,I.base,I.loc,I.cell,I.free,I.jH,I.pin,I.hok,I.len⟩
theorem Inv.unH(I:Inv (X.inH ea) pins σ H s)(ok:X.Ok):Inv X pins σ H s:=⟨ok,I.os,I.bare,I.base,I.loc,I.cell,I.free,I.jH,I.pin,I.hok,I.len⟩
end L2
namespace L2
open PySem PySem.Spec PyProof.Rows PySem.W
structure Qk(K:Frag)(C:Addr):Prop where
 ga:findIn K (.ref C) "__getattribute__" = some (some (.builtin "BaseException.__getattribute__"))
 no:findIn K (.ref C) "__getattr__" = some none
 cl:findIn K (.ref C) "__class__" = some (some (.builtin "object.__class__"))
 ob:mroIn K C (.type "object")=some true
 be:mroIn K C (.type "BaseException")=some true
 is:(clsIn K C).isSome=true
section
variable{prog:ag}{w:aI}{A:ai}{E:ax->ae->Prop}{h:Heap}{g:Array GenState}{d:Drawn}{t:Nat}{os:OsState}{a C:av}{o:Obj}{K:Frag}
theorem Kz(X:K.In h)(q:Qk K C)(hx:h.get? a=some o)(hc:o.cls = .ref C)(hq:Q () ⟨h,g,d,t,os⟩) :
  wpAny M A (checkBuiltinCall "BaseException.__getattribute__" ⟨[.ref a,nameV],[]⟩) Q E ⟨h,g,d,t,os⟩:=by
 have h1:builtinKind "BaseException.__getattribute__" = some .slot:=by ext y
 have h2:splitId "BaseException.__getattribute__" = some ("BaseException","__getattribute__"):=by ext y
 have h3:=F.args_bexc_ga (.ref a) nameV;have LS:=looks_mroIn (M:=M) X q.be;simp only[checkBuiltinCall,h1,h2];refine aS ?_;unfold isInstance
 repeat (first | (with_reducible refine wpAny_loadPart_at hx ?_;rw[hc]) | with_reducible refine LS.at ?_ | wp_step)
 exact hq
def ExcAt(a C:av)(dd:aE av)(h:Heap):Prop:=∃ ob,h.get? a=some ob/\ob.cls = .ref C/\ob.dict=dd/\notCls ob=true
end
def tV(a C:av)(dd:aE av):HO:=.ext (ExcAt a C dd)
theorem qBJ(I:Inv X pins σ H s)(e:H a=some (tV a C dd)):ExcAt a C dd s.heap:=(I.hok a _ e).1
end L2
namespace L2
open PySem PySem.Spec PyProof.Rows
theorem Inv.gone(I:Inv X pins σ H s)(hN:X.N.Nodup)(hi:X.N[i]? = some n)
  (hm:∀(j:Nat)(y:Str)(v:V),X.N[j]? = some y->σ[j]? = some (some v)->Vis X.env.scope y->∃ u,RelV v u/\Look X.env s.heap m y u)
  (hn':h'.Ns X.env.locals fun y=>if y=n then v' else m y) (hs:Heap.SameBut X.env.locals s.heap h'):Inv X pins (σ.set i none) H { s with heap:=h',toks:=t' }:=by
 have old:∀ b ob,X.s₀.heap.get? b=some ob->b≠X.env.locals:=fun b ob q=>lO (zm (iU q) I.ok.above)
 have hiσ:i<σ.length:=by rw[I.len];exact (fO.mp hi).1
 refine⟨I.ok,I.os,I.bare,⟨fun b ob q z1 z2 z3=>?_,fun b ob q z1 z2 z3=>?_,I.base.free,fun b ob q z=>?_,I.base.tups,I.base.qy,I.base.rR⟩,⟨_,hn',fun j y v e1 e2 e3=>?_⟩,fun y c q=>?_,I.free,I.jH,fun p hp=>?_,fun b ob q=>?_,by simpa using I.len⟩
 .exact (hs.2 b (old b ob q)).trans (I.base.keep b ob q z1 z2 z3)
 .obtain⟨sl,e⟩:=I.base.slot b ob q z1 z2 z3;exact⟨sl,(hs.2 b (old b ob q)).trans e⟩
 .obtain⟨o',e⟩:=I.base.there b ob q z;exact⟨o',(hs.2 b (old b ob q)).trans e⟩
 .by_cases hj:j=i
  .subst hj;rw[cS hiσ]at e2
   cases e2
  .rw[cK (bt hj)]at e2;obtain⟨u,r,l⟩:=hm j y v e1 e2 e3;refine⟨u,r,?_⟩;rcases l with ⟨k,e⟩ | ⟨k,c,e,z⟩
   .have:y≠n:=fun e=>hj (xm hN e1 (e▸hi));exact .inl ⟨k,(cy this).trans e⟩
   .exact .inr ⟨k,c,e,z.sameBut hs (I.YS y c e)⟩
 .obtain⟨v,z⟩:=I.cell y c q;exact⟨v,z.sameBut hs (I.YS y c q)⟩
 .obtain⟨e,z1,z2,z3,z4⟩:=I.pin p hp;exact⟨(hs.2 p.1 z2).trans e,z1,z2,z3,z4⟩
 .refine (I.hok b ob q).stay (fun c u hc e=>(hs.2 c fun z=>?_).trans e) (fun _ z=>z) fun _ _ z=>z;rcases hc with y | y
  .rw[<-y,z,I.free]at q
   cases q
  .rw[z,I.free]at y
   cases y
def Zi(K:cL)(C:av)(i:Nat)(tb:TSX)(th:TS):TS:=fun D σ H=>tb D (fun σ' cls dd H'=>∃ C1:av,cls = .ref C1/\PySem.W.exmOne K cls (.ref C)=some true ∧
 ∀ ea,H' ea=none->th { nx:=fun σ2 H2=>D.nx (σ2.set i none) H2,rt:=D.rt,bk:=fun σ2 H2=>D.bk (σ2.set i none) H2,ct:=fun σ2 H2=>D.ct (σ2.set i none) H2 } (σ'.set i (some (.ref ea))) (upd H' ea (tV ea C1 dd))) σ H
theorem Gu(hb:PSX X body tb)(hg:Gl X x)(hm:X.mg x=some (.ref C))(hN:X.N.Nodup)(hi:X.N[i]? = some n)(hl:X.env.scope.names.lookup n=some .local)(hh:∀ e:av,FT (X.inH e) (b0::suite) th)
  (hst:X.stack=X.env::X.outer:=by rfl) (hfr:X.env.frame=some X.env.locals:=by rfl) (hdb:(x==("__debug__" : Str))=false:=by decide) :
  PS X (.Try body [.ExceptHandler (some (.Name x np)) (some n) (b0::suite) hpos] [] [] pos) (Zi X.K C i tb th):=by
 intro pins s σ H D I h;refine wpAny_Try_except (bX (hb pins s σ H D _ I h) (fun f s1 q=>?_) fun e s1 q=>?_)
 .cases f with
  | next=>exact wpAny_execs_nil q
  | brk=>exact q
  | cont=>exact q
  | ret u=>exact q
 obtain⟨σ1,H1,s0,I1,ea,_,_,H',B,rfl,ho,hgn,fl,hok,un,hB,hC,dd,hdd,C1,rfl,hmt,hth⟩:=q;have Um:=I1.ok.frames;rw[hst]at fl Um;refine Bw Um hfr fl hdd fun _ O1 sl4 dk4=>U4 O1 dk4 fun h5 fl5 sl5 dk5=>?_;have u5:=un.flown hC fl5.1 (sl4.trans sl5) I1.frames;have J5:Inv X pins σ1 H' { s1 with heap:=h5 }:=I1.call' ho u5 (hok.flown hB fl5.1) hgn (fun _ z=>nomatch z);obtain⟨_,hob,hoc⟩:=fl5.there;refine wpAny_handleBy_cons (codeAny_handlers_test (pZ (J5.inH ea) hg hm ?_ hdb)) (by intro z;cases z)
 have LT:PySem.W.Looks (model X.prog X.w) h5 (typeOf (.ref ea)) (.ref C1):=by
  rw[<-hoc];exact (PySem.W.Looks.ld hob).andThen .now
 refine (PySem.W.exm_one J5.nR LT hmt).here (codeAny_handlers_suite_as ?_);refine Ei fl5 dk5 fun h6 fl6 sl6 dk6=>?_;have u6:=un.flown hC fl6.1 ((sl4.trans sl5).trans sl6) I1.frames;obtain⟨oe,ws,e6,c6,d6,_⟩:=fl6.first
 have q6:oe.dict=dd:=by
  obtain⟨o1,z1,z2⟩:=dk6;rw[show h6.get? ea=some oe from e6]at z1
  cases z1
  exact z2.1
 have hH:H' ea=none:=by
  cases q:H' ea with
  | none=>rfl
  | some z=>
   obtain⟨o1,_,e2⟩:=hB ea (by rw[q];rfl);rw[fl.2.1]at e2
   cases e2
 have nea:∀ b o1,s0.heap.get? b=some o1->b≠ea:=fun b o1 q z=>by
  subst z
  by_cases hb:b∈frs X.stack
  .obtain⟨z1,o2,q2,nf⟩:=I1.frames b hb;rw[q]at q2
   cases q2
   obtain⟨_,q3⟩:=u6.slot b o1 q z1 hb (by simp);rw[e6]at q3
   cases q3
   exact nf ws d6
  .obtain⟨_,_,q2⟩:=hC b o1 q hb;rw[fl.2.1]at q2
   cases q2
 have u7:Un (frs X.stack) [] H1 (upd H' ea (tV ea C1 dd)) s0.heap h6:=by
  refine⟨u6.keep,u6.slot,fun b o1 q z1 z2=>?_,u6.there,fun b xs q=>?_,fun b o1 u q=>?_,fun b ps q=>?_⟩
  .rw[zQ (nea b o1 q)];exact u6.free b o1 q z1 z2
  .have q':=u6.tups b xs q;rw[zQ (zM q' hH)];exact q'
  .have q':=u6.qy b o1 u q;rw[zQ (zM q' hH)];exact q'
  .obtain⟨more,q'⟩:=u6.rR b ps q;exact⟨more,by rw[zQ (zM q' hH)];exact q'⟩
 have hk6:=hok.flown hB fl6.1
 have hk7:jO X.prog X.w (upd H' ea (tV ea C1 dd)) h6:=fun b o1 q=>by
  by_cases hb:b=ea
  .subst hb;rw[zC]at q
   cases q
   exact⟨⟨oe,e6,c6,q6,by unfold PySem.W.notCls;rw[d6]⟩,⟨oe,e6⟩,fun _ _ ⟨o2,z1,z2⟩ k=>⟨o2,k o2 z1,z2⟩⟩
  .rw[zQ hb]at q;refine (hk6 b o1 q).stay (fun _ _ _ z=>z) (fun c z=>?_) fun c xs z=>?_
   .rw[zQ (zM z hH)];exact z
   .rw[zQ (zM z hH)];exact z
 have J6:Inv X pins σ1 (upd H' ea (tV ea C1 dd)) { s1 with heap:=h6 }:=I1.call' ho u7 hk7 hgn (fun _ z=>nomatch z);refine jz (v:=.ref ea) J6 hN hi (.inl hl) rfl (fun _ I8=>?_) (.inr hl);refine bX (hh ea pins _ _ _ _ (I8.inH ea) (hth ea hH)) (fun f _ q=>?_) fun _ _ z=>z.elim
 have hp:(X.env.scope.kind==.class||(X.env.scope.kind==.module&&X.env.locals != X.env.globals))=false:=by
  rw[I.ok.kind];rfl
 cases f with
 | next=>
  obtain⟨σ9,H9,I9,q9⟩:=q;have K9:=I9.unH I1.ok;obtain⟨m9,n9,l9⟩:=id K9.loc;exact wpAny_nameGoes_keeps hl n9 hp fun h' v' hn' hs=>⟨_,H9,K9.gone hN hi l9 hn' hs,q9⟩
 | brk=>
  obtain⟨σ9,H9,I9,q9⟩:=q;have K9:=I9.unH I1.ok;obtain⟨m9,n9,l9⟩:=id K9.loc;exact wpAny_nameGoes_keeps hl n9 hp fun h' v' hn' hs=>⟨_,H9,K9.gone hN hi l9 hn' hs,q9⟩
 | cont=>
  obtain⟨σ9,H9,I9,q9⟩:=q;have K9:=I9.unH I1.ok;obtain⟨m9,n9,l9⟩:=id K9.loc;exact wpAny_nameGoes_keeps hl n9 hp fun h' v' hn' hs=>⟨_,H9,K9.gone hN hi l9 hn' hs,q9⟩
 | ret u=>
  obtain⟨v,σ9,H9,I9,r9,q9⟩:=q;have K9:=I9.unH I1.ok;obtain⟨m9,n9,l9⟩:=id K9.loc;exact wpAny_nameGoes_keeps hl n9 hp fun h' v' hn' hs=>⟨v,_,H9,K9.gone hN hi l9 hn' hs,r9,q9⟩
section
variable{P:ag}{w:aI}{K:cL}{mg:Str->aE ax}{base:Heap}
theorem dC.okX{st:Stmt}{f:av}{fd:af}{N ps:ay Str}{k:Nat}{sp:Sp}(F:dC K x qual st f fd)(S:aH N ps (aC st))(len:∀ vs H Q E,sp vs H Q E->vs.length=ps.length)
  (hbody:∀ cdv A outer s H vs Q E,fK k (A.deeper (envOfC qual (aC st) s.heap.objs.size f cdv))->sp vs H Q E →
   ∃ t,FT (qL (qK P w) P w K mg base N qual (aC st) f cdv A outer s H E) (iy st) t/\t { nx:=fun _ H'=>Q .non H',rt:=Q } (start N vs) H):aO P w K mg base (qK P w) (k+1) f fd ps sp:=by apply aJ;intro _ g_;obtain⟨_,_,_,_,_,_,cdv,_,_,rfl,lk,hcd⟩:=F.ex;apply g_;clear g_;exact ZF lk hcd S len fun A outer s H vs Q E hr hsp=>hbody cdv A outer s H vs Q E hr hsp
end
end L2
namespace L2
open PySem PySem.Spec PyProof.Rows PySem.W
noncomputable def rA(K:Frag)(C fI:av):Bool:=match K.lookup C with
 | some ⟨.type "type",_,.cls cd,sl⟩=>(match cd.mro,sl.toList with
  | .ref C1::bm,[_,_,_,_,some (.builtin n),_]=>C1==C&&(n == "ValueError.__new__" && (!cd.hasDel&&(cd.hasDict&&(tailIn K VB bm&&(nsOkIn K cd.ns&&(nsIn K cd.ns "__init__" == some (some (.ref fI))&&isFn K (.ref fI)))))))
  | _,_=>false)
 | _=>false
def JG(h:Heap)(C fI:av):Prop:=∃ bm N nm qn bs sn sub ab col dd k0 k1 k2 k3 k5 mN oI,h.get? C=some (excClassObj nm qn C N bs bm true sn sub ab col dd k0 k1 k2 k3 k5 "ValueError.__new__")/\h.Ns N mN ∧
 mN "__init__" = some (.ref fI)/\OwnTail h VB bm/\h.get? fI=some oI/\oI.cls = .type "function"
theorem Xo{K:Frag}{h:Heap}{N:av}{mg:Str->aE ax}{n:Str}{v:ax}(X:K.In h)(G:h.Ns N mg)(e:nsIn K N n=some (some v)):mg n=some v:=by
 obtain⟨o,_,_,ho,hd,_,hf⟩:=G;unfold nsIn at e
 split at e
 .rename_i c d es1 n1 sl q
  have z:=X _ _ q;rw[ho]at z
  cases z
  cases hd
  split at e
  .rename_i he
   cases e
   rw[<-hf];unfold nsFind findBy;rw[<-Array.find?_toList,he];rfl
  .split at e <;> cases e
 .cases e
theorem JG.of{K:Frag}{h:Heap}{C fI:av}(q:rA K C fI=true)(X:K.In h):JG h C fI:=by
 unfold rA at q
 split at q
 .rename_i ddc cdc slc lk
  split at q
  .rename_i C1 bm k0 k1 k2 k3 n k5 em es
   simp only[Bool.and_eq_true,beq_iff_eq,Bool.not_eq_true']at q;obtain⟨q1,q2,q3,q3d,q4,q5,q6,q7⟩:=q;subst q1 q2;obtain⟨nm,bs,_,ns,qn,_,sn,sub,ab,col,_⟩:=cdc;simp only at em q3 q5 q6 q3d;subst em q3 q3d;obtain⟨l⟩:=slc;simp only at es;subst es
   have z:∃ oI,h.get? fI=some oI/\oI.cls = .type "function" := by
    unfold isFn at q7;have q8:=beq_iff_eq.mp q7;simp only[typeIn]at q8
    cases lf:K.lookup fI with
    | none=>rw[lf]at q8;cases q8
    | some ob=>rw[lf]at q8;exact⟨ob,X _ _ lf,jX q8⟩
   obtain⟨oI,z1,z2⟩:=z;exact⟨bm,ns,nm,qn,bs,sn,sub,ab,col,ddc,k0,k1,k2,k3,k5,_,oI,X _ _ lk,.of_isNs (isNs_of_in X q5),Xo X (.of_isNs (isNs_of_in X q5)) q6,tail_of_in X q4,z1,z2⟩
  .cases q
 .cases q
section
variable{prog:ag}{w:aI}{A:ai}{E:ax->ae->Prop}{h:Heap}{g:Array GenState}{d:Drawn}{t:Nat}{os:OsState}{C fI:av}
theorem Qc{rest:ay ax}{Q:ax->ae->Prop}(c:JG h C fI)(hrest:rest.length<=sizeLine)
  (hq:∀ h' e,Heap.MadeExcOf h h' e (.ref C) rest->wpAny (model prog w) (A.under (.builtin "type.__call__" ⟨.ref C::rest,[]⟩)) (call (.ref fI) (.ref e::rest)) (fun r s'=>r = .none/\Q (.ref e) s') E ⟨h',g,d,t,os⟩) :
  wpAny (model prog w) A (call (.ref C) rest) Q E ⟨h,g,d,t,os⟩:=by
 obtain⟨bm,N,_,_,_,_,_,_,_,_,_,_,k2,_,_,_,_,hC,hn,hi,T,hfI,hfc⟩:=c;have F:=ku;have f1:=tc_lookup;have f2:=tc_bind (.ref C);have hT:(⟨h,g,d,t,os⟩:ae).TypeIs (.ref C) "type" := ⟨_,hC,rfl⟩;refine wpAny_call (codeAny_of_tree ?_);show wpAny _ _ (callAny (.ref C) _) _ _ _
 repeat (any_goals (first | assumption | with_reducible refine wpAny_loadPart_at hC ?_ | wp_step))
 refine⟨rfl,codeAny_call_builtin_at (Code.quiet_builtin _ (by ext y)) entry_typeCall (wpAny_check_type_call_sub hC ?_)⟩
 repeat (first | with_reducible refine wpAny_loadPart_at hC ?_ | with_reducible refine wpAny_madeBy_exc hC ?_ | wp_step)
 refine codeAny_call_builtin_code (Code.quiet_builtin _ F.quiet) (wpAny_check_new_subT F T hC (codeAny_exc_new_subT F T hC ?_ hrest));show wpAny _ _ _ _ _ ⟨(h.push { cls:=.type "tuple",data:=.seq rest.toArray }).push { cls:=.ref C,data:=.fields #[.ref h.objs.size,.none,.none,.none,.bool false,.none] },g,d,t,os⟩;generalize hh2:(h.push { cls:=.type "tuple",data:=.seq rest.toArray }).push { cls:=.ref C,data:=.fields #[.ref h.objs.size,.none,.none,.none,.bool false,.none] }=h2
 have k2:∀ b o,h.get? b=some o->h2.get? b=some o:=fun b o e=>by rw[<-hh2];exact j8 _ (j8 _ e)
 have hget:h2.get? (h.objs.size+1)=some { cls:=.ref C,data:=.fields #[.ref h.objs.size,.none,.none,.none,.bool false,.none] }:=by rw[<-hh2];heap_get
 have htup:h2.get? h.objs.size=some { cls:=.type "tuple",data:=.seq rest.toArray }:=by rw[<-hh2];exact j8 _ (Heap.get?_push_at rfl rfl)
 have hcC:(Value.ref C::bm).contains (.ref C)=true:=by simp
 have hC2:=k2 _ _ hC;unfold isInstance
 repeat (first | with_reducible refine wpAny_loadPart_at hget ?_ | (with_reducible refine wpAny_isSubtype_exc hC2 ?_;rw[hcC]) | wp_step)
 show wpAny _ _ (typeLookup (.ref C) _) _ _ _;refine wpAny_typeLookup_tail hC2 (hn.keeps k2) (T.keeps k2) F.mroIs F.init.lookup ?_;rw[hi];refine cm (aS ?_);unfold bindSpecial;refine aS (wpAny_typeOf (T := "function") ⟨_,k2 _ _ hfI,hfc⟩ ?_);rw[cE (by decide)];refine aT (aS (bX (hq _ (h.objs.size+1) ⟨k2,eB (hV _),h.objs.size,hget,eB (bN _),htup⟩) (fun r s' hr=>?_) fun _ _ x=>x));obtain⟨rfl,hQ⟩:=hr
 wp_walk
 exact hQ
end
theorem Jv(hh:A.handled=none)
  (h:wpAny M A x (fun v s₁ => ∃ e oe vs,v = .ref e/\JG s₁.heap C fI/\s₁.heap.get? e=some oe/\oe.cls = .ref C/\oe.data = .fields vs/\vs[1]? = some .none/\E (.ref e) s₁) E s) :
  wpAny M A (raiseStmt env (some x) none) Q E s:=by
 unfold raiseStmt;refine aS (bX h (fun v s₁ h₁=>?_) fun _ _ x=>x);obtain⟨e,oe,vs,rfl,⟨bm,N,_,_,_,_,_,_,_,_,_,_,_,_,_,_,_,hC,_,_,T,_,_⟩,he,hc,hd,h1,hE⟩:=h₁
 have hcB:(Value.ref C::bm).contains (.type "BaseException")=true:=by rw[List.contains_cons,T.hasType PySem.F.excBase_ValueError.hasBase,Bool.or_true]
 obtain⟨hp,g,d,tk,os⟩:=s₁;obtain⟨_,_,_,_⟩:=oe;simp only at hc hd;subst hc hd;have fld:∀ {Q':ax->ae->Prop},Q' .none ⟨hp,g,d,tk,os⟩->wpAny M A (field (.ref e) 1) Q' E ⟨hp,g,d,tk,os⟩:=fun z=>wpAny_field he rfl h1 z
 repeat (first | with_reducible refine wpAny_loadPart_at he ?_ | with_reducible refine wpAny_loadPart_at hC ?_ | (with_reducible refine wpAny_isSubtype_exc hC ?_;rw[hcB]) | with_reducible refine fld ?_ | wp_step)
 exact wpAny_raiseNew_none hh hE
def qBU(e C:av)(dd:aE av)(h:Heap):Prop:=∃ t0:av,h.get? e=some { cls:=.ref C,dict:=dd,data:=.fields #[.ref t0,.none,.none,.none,.bool false,.none] }
def vf(e C:av)(dd:aE av):HO:=.ext (qBU e C dd)
theorem Ed(x:qBU e C dd h):bW P w H h e (vf e C dd):=
 ⟨x,let ⟨_,q⟩:=x;⟨_,q⟩,fun _ _ ⟨t0,q⟩ k=>⟨t0,k _ q⟩⟩
theorem Inv.laidN(I:Inv X pins σ H s)(k:∀ b u,s.heap.get? b=some u->h'.get? b=some u)(hp:s.heap.get? a=none)(new:bW X.prog X.w (upd H a o) h' a o) :
  Inv X pins σ (upd H a o) { s with heap:=h',toks:=t' }:=by
 have hn:H a=none:=I.Tf hp;refine I.un ⟨fun b u q _ _ _=>k b u q,fun b u q _ _ _=>⟨u.slots,k b u q⟩,fun b u q n _=>?_,fun b u q _=>⟨u,k b u q⟩,fun b xs q=>?_,fun b u xs q=>?_,fun b _ q=>⟨#[],?_⟩⟩ fun b u q=>?_
 .rw[zQ (fun z=>by subst z;rw[hp]at q;cases q)];exact n
 .rw[zQ (zM q hn)];exact q
 .rw[zQ (zM q hn)];exact q
 .rw[zQ (zM q hn),q];simp
 .by_cases hb:b=a
  .subst hb;rw[zC]at q
   cases q
   exact new
  .rw[zQ hb]at q
   exact (I.hok b u q).stay (fun c v _ z=>k c v z) (fun c z=>by rw[zQ (zM z hn)];exact z) fun c xs z=>by rw[zQ (zM z hn)];exact z
def WQ(C:av)(sp:Sp)(nU:ay V)(E:XK)(t:TA):TS:=fun _ σ H=>t σ H fun vs H1=>vs.length<=sizeLine/\∀ e,H1 e=none →
 sp (.ref e::(vs++nU)) (upd H1 e (vf e C none)) (fun v H2=>v = .non/\∃ dd,H2 e=some (vf e C dd)/\E (.ref C) dd (del H2 e)) E0
theorem PX{e0:Expr}{rest:ay Expr}{t:TA}{E:XK}(hx:Vh X E)(hc:X.calm=true)(hg:Gl X x)
  (hm:X.mg x=some (.ref C)) (hC:rA X.K C fI=true) (hk:keepIn X.K (.ref C)=true) (F:aO X.prog X.w X.K X.mg X.base (qK X.prog X.w) k fI fd ps sp) (hr:fK (k+1) X.A) (hb:Binds X.K fd ps ds) (hd:Vals nU ds)
  (ha:PA X (e0::rest) t) (hex:X.ex=[]:=by rfl) (hdb:(x==("__debug__" : Str))=false:=by decide)
  (he:starEach (e0::rest) X.env=(false,eval e0 X.env)::starEach rest X.env:=by rfl) (hpl:(backTo cpos (starEach rest X.env)).any (·.1)=false:=by rfl) :
  PS X (.Raise (some (.Call (.Name x np) (e0::rest) [] cpos)) none pos) (WQ C sp nU E t):=by
 intro pins s σ H D I h;rw[arm_exec_Raise];simp only[evalOpt,Option.map];refine aS (wpAny_standAt (Jv (C:=C) (fI:=fI) (I.ok.hd hc) (aS (bX ?_ (fun v _ h₃=>aS (wpAny_standAt (aT h₃))) fun _ _ x=>x))));refine wpAny_Call_Name_kw (pZ I hg hm ?_ hdb);refine callWith_K (h₀:=X.base) I.ok.mod.kin hk (bI (ha cpos pins s σ H _ I h) fun us s1 ⟨vs,H1,I1,r,q1,q⟩=>⟨I1.nR,?_⟩) he hpl;obtain⟨_,g,d,tk,_⟩:=s1;refine Qc (JG.of hC I1.nR) (by rw[List.nil_append,<-r.length];exact q1) fun _ e hm=>?_;obtain⟨t0,z1,_,_⟩:=hm.there;have hH:H1 e=none:=I1.Tf hm.new;have I2:=I1.laidN (o:=vf e C none) (t':=tk) hm.keeps hm.new (Ed ⟨t0,z1⟩);have hq:=q e hH;have r2:Vals (V.ref e::(vs++nU)) (Value.ref e::(us++ds)):=.cons rfl (r.append hd)
 have hl:(Value.ref e::us++ds).length=ps.length:=by
  have z:=r2.length;rw[F.len _ _ _ _ hq]at z;exact z.symm
 refine wpAny_call (codeAny_mono (F.run _ X.stack _ _ ⟨Value.ref e::us,[]⟩ (Value.ref e::(us++ds)) _ _ E0 (hr.make C us []) (I2.env0.make C us []) (hb _ (Value.ref e::us) I2.nR hl) r2 hq) fun r s' z=>?_)
 cases r with
 | error e=>obtain⟨_,_,_,_,_,_,_,_,_,_,_,_,_,_,_,y⟩:=z;exact y.elim
 | ok fl=>
  cases fl with
  | ret u=>
   obtain⟨v,H',I3,rv,ev,_,y1,y2⟩:=I2.after z;subst ev;obtain⟨⟨t1,y3⟩,_⟩:=I3.hok e _ y1;exact⟨rv,e,_,_,rfl,JG.of hC I3.nR,y3,rfl,rfl,rfl,hx pins σ H' s' e C (.ref t1) _ _ I3 (I1.qDE hex hm.new) (.inr ⟨_,y1⟩) y3 rfl rfl rfl rfl (fun _=>rfl) y2⟩
  | next=>exact c8 z
  | brk=>exact c8 z
  | cont=>exact c8 z
theorem Qe{rest:ay ax}{Q:ax->ae->Prop}(c:JG s.heap C fI)(he:s.heap.get? e=some { cls:=.ref C,dict:=dd,data:=.fields #[.ref t0,.none,.none,.none,.bool false,.none] })(hrest:rest.length<=sizeLine)
  (h:∀ h',qBU e C dd h'->(∀ b o,b≠e->s.heap.get? b=some o->h'.get? b=some o)->Q .none { s with heap:=h' }):wpAny (model prog w) A (call (.builtin "ValueError.__init__") (.ref e::rest)) Q E s:=by
 obtain⟨_,N,_,_,_,_,_,_,_,_,_,_,_,_,_,_,_,hC,_,_,T,_,_⟩:=c;have F:=ku;obtain⟨hp,g,d,_,_⟩:=s;refine wpAny_call (codeAny_call_builtin F.init.plain F.initEntry (wpAny_check_init_subT F T hC he rfl ?_));unfold Builtin.«BaseException.__init__»
 dsimp only
 rw[if_neg (by simp)];unfold newTuple Builtin.BaseException.bexcPut;have O2:=j8 (h:=hp) { cls:=.type "tuple",data:=.seq rest.toArray } he;refine aS (wpAny_newObj_type (aS (aS (wpAny_field O2 rfl rfl (aS (wpAny_setField O2 rfl (by show 0<6;decide) ?_))))) (by show rest.toArray.size<=sizeLine;rw[Aa];exact hrest));refine wpAny_letGo (aT (h _ ⟨hp.objs.size,?_⟩ fun b o hb ho=>?_))
 .rw[ck _ O2 rfl];rfl
 .rw[cf _ _ (bt hb)];exact j8 _ ho
def tBase(K:Frag)(t:TA):TS:=fun D σ H=>t σ H fun vs H1 => ∃ e C fI dd xs,vs = .ref e::xs/\xs.length<=sizeLine/\rA K C fI=true/\H1 e=some (vf e C dd)/\D.nx σ (upd H1 e (vf e C dd))
theorem Wz{e0:Expr}{rest:ay Expr}{t:TA}{pl:Sem Bool}(hg:Gl X x)(hm:X.mg x=some (.ref B))(hsp:specialIn X.K (.ref B) "__getattribute__" = some (some (.builtin "type.__getattribute__")))
  (hrd:readsIn X.K B (.type "type")=true) (hf:findCls X.K (.ref B) (.type "type") "__init__" = some (.val (.builtin "ValueError.__init__"))) (ha:PA X (e0::rest) t) (hdb:(x==("__debug__" : Str))=false:=by decide)
  (he:starEach (e0::rest) X.env=(false,eval e0 X.env)::starEach rest X.env:=by rfl) (hpl:(backTo cpos (starEach rest X.env)).any (·.1)=false:=by rfl)
  (ht:eval (.Call (.Attribute (.Name x np) "__init__" ap) (e0::rest) [] cpos) X.env=(do
   let ov ← eval (.Name x np) X.env
   standAt ap.atName
   let (f,first) ← holding [ov] (getMethod ov "__init__" pl)
   callWith cpos f first (backTo cpos (starEach (e0::rest) X.env)) (backToKw cpos (keywordEach [] X.env))):=by rfl)
  (hs:swapsWith (.Call (.Attribute (.Name x np) "__init__" ap) (e0::rest) [] cpos) none pos.line X.env=pure false:=by rfl) :
  PS X (.Expr (.Call (.Attribute (.Name x np) "__init__" ap) (e0::rest) [] cpos) pos) (tBase X.K t):=by
 intro pins s σ H D I h;refine wpAny_Expr_any (Q:=SP X pins D) ?_ I.quiet hs;refine methodCall_KW (pl:=pl) (pZ I hg hm ?_ hdb) ht;refine method_cls I.nR hsp (cls_value I.nR hrd hf rfl ?_);refine callWith_builtin1 (bI (ha cpos pins _ σ H _ (I.tok _) h) fun us s1 ⟨_,_,I1,r,z⟩=>?_) he hpl;obtain⟨e,C,_,_,xs,rfl,q1,q2,q3,q4⟩:=z
 obtain⟨u,ws,rfl,r1,r2⟩:∃ u ws,us=u::ws/\RelV (.ref e) u/\Vals xs ws:=by
  cases r with
  | cons a b=>exact⟨_,_,rfl,a,b⟩
 cases (show u=Value.ref e from r1)
 obtain⟨⟨_,y⟩,_⟩:=I1.hok e _ q3;refine Qe (JG.of q2 I1.nR) y (by rw[<-r2.length];exact q1) fun _ nx k=>?_;exact⟨σ,_,I1.write (x:=e) (e:=e) (t':=s1.toks) (by rw[q3];exact dE) (.inl rfl) k (let ⟨_,z⟩:=nx;⟨_,z⟩) (Ed nx),q4⟩
end L2
namespace L2
open PySem PySem.Spec PyProof.Rows PySem.W
open Builtin Builtin.ObjectAttr
def Sq:ay ax->Bool
 | .ref _::r=>Sq r
 | l=>l==VB
theorem vO(self:ax):∀ {l:ay ax},Sq l=true->refuseLoop self "__setattr__" l=pure ()
 | .ref c::r,e=>by rw[refuseLoop_ref];exact vO self (l:=r) e
 | [],e=>by cases e
 | .none::r,e=>by cases e
 | .bool b::r,e=>by cases e
 | .int i t::r,e=>by cases e
 | .float _ _::r,e=>by cases e
 | .str _ _::r,e=>by cases e
 | .type n::r,e=>by
  rw[show (Value.type n::r)=VB from beq_iff_eq.mp e];exact PySem.F.store_ValueError.passes self
 | .builtin n::r,e=>by cases e
 | .notImplemented::r,e=>by cases e
 | .ellipsis::r,e=>by cases e
structure Aw(K:Frag)(C:Addr)(f:Str):Prop where
 sa:findIn K (.ref C) "__setattr__" = some (some (.builtin "object.__setattr__"))
 no:findIn K (.ref C) f=some none
 ok:((clsIn K C).any fun cd=>Sq cd.mro&&cd.hasDict)=true
 ob:mroIn K C (.type "object")=some true
section
variable{prog:ag}{w:aI}{A:ai}{E:ax->ae->Prop}{s:ae}{K:Frag}{e C:av}{f:Str}{v:ax}{vs:Array ax}
theorem Wd(X:K.In s.heap)(q:Aw K C f)(he:s.heap.get? e=some { cls:=.ref C,dict:=none,data:=.fields vs })
  (h:∀ h' t',h'.get? e=some { cls:=.ref C,dict:=some s.heap.objs.size,data:=.fields vs }->h'.Ns1 s.heap.objs.size (fun y=>if y=f then some v else none)->(∀ b o,b≠e->s.heap.get? b=some o->h'.get? b=some o) →
   Q () { s with heap:=h',toks:=t' }):wpAny (model prog w) A (setAttr (.ref e) f v) Q E s:=by
 have I:InstAt s.heap e { cls:=.ref C,dict:=none,data:=.fields vs } C none:=⟨he,rfl,rfl,dE⟩;refine set_plain X I q.sa ?_;have SF:=PySem.F.store_object;obtain⟨cd,hc,ho⟩:=any_some q.ok;obtain⟨hp,hd⟩:=df.mp ho;have sub:Looks (model prog w) s.heap (isInstance (.ref e) (.type "object")) true:=I.type.andThen (looks_mroIn X q.ob);refine codeAny_call_builtin SF.slot.plain SF.entry (@check_slot (model prog w) _ _ { s with toks:=s.toks+1 } "object.__setattr__" "object" "__setattr__" (.ref e) [.str f s.toks,v] [] _ SF.kind SF.split sub (SF.args (.ref e) (.str f s.toks) v) ?_);have hm:Looks (model prog w) s.heap (mroOf (.ref C)) cd.mro:=(looks_clsIn X hc).andThen .now;rw[osa_eq,refuse_eq];refine aS (aS (Looks.here (s:={ s with toks:=s.toks+1 }) I.type (aS (Looks.here (s:={ s with toks:=s.toks+1 }) hm ?_))));rw[vO _ hp];refine aT (aS (Looks.here (s:={ s with toks:=s.toks+1 }) I.type (aS (Looks.here (s:={ s with toks:=s.toks+1 }) (looks_findIn X q.no) (aS (aT ?_))))));show wpAny _ _ (storeInOwnDict (.ref e) (.ref C) (.str f s.toks) f v false) _ _ _;refine aS (aT (aS (aS (wpAny_loadPart he (aS (Looks.here (s:={ s with toks:=s.toks+1 }) (looks_clsIn X hc) ?_))))));rw[hd];have hxs:e≠s.heap.objs.size:=lO (iU he);have O2:(s.heap.push { cls:=.type "dict",data:=.dict #[] }).get? e=some { cls:=.ref C,dict:=none,data:=.fields vs }:=j8 _ he;refine aS (wpAny_alloc' (aS (wpAny_update' O2 (aT ?_))))
 have e2:((s.heap.push { cls:=.type "dict",data:=.dict #[] }).update e fun o=>{ cls:=o.cls,dict:=some s.heap.objs.size,data:=o.data,slots:=o.slots }).get? s.heap.objs.size=some { cls:=.type "dict",data:=.dict #[] }:=
  (Heap.get?_update_ne _ _ _ _ hxs.symm).trans (Heap.get?_push_at rfl rfl)
 have e3:((s.heap.push { cls:=.type "dict",data:=.dict #[] }).update e fun o=>{ cls:=o.cls,dict:=some s.heap.objs.size,data:=o.data,slots:=o.slots }).get? e=some { cls:=.ref C,dict:=some s.heap.objs.size,data:=.fields vs }:=
  ck _ O2 rfl
 have hnd:((s.heap.push { cls:=.type "dict",data:=.dict #[] }).update e fun o=>{ cls:=o.cls,dict:=some s.heap.objs.size,data:=o.data,slots:=o.slots }).Ns s.heap.objs.size (fun _=>none):=
  ⟨_,#[],_,e2,rfl,fun e he=>absurd he (by simp),fun _=>rfl⟩
 refine aS (aT (aS ?_));refine wpAny_nsSet1 (Heap.Ns1.of_empty hnd) fun h' hn' hs=>?_;obtain⟨_,_,_,hoD,hdD,hcD⟩:=hn'.count (Within.cons f v Within.nil);refine aS (wpAny_lookBehind hoD (by rw[hdD];exact pastItsLine_dict (bq hcD (by rw[cY,fi,sizeLine_eq];lia))) ?_);refine aT (h h' _ ((hs.2 e hxs).trans e3) hn' fun b o hb ho=>?_);exact (hs.2 b (lO (iU ho))).trans ((Heap.get?_update_ne _ _ _ _ hb).trans (j8 _ ho))
end
theorem Aw.dict{K:Frag}{C:av}{f:Str}(q:Aw K C f):hasDictIn K C=true:=by obtain⟨_,hc,ho⟩:=any_some q.ok;unfold hasDictIn;rw[hc];exact (df.mp ho).2
section
variable{prog:ag}{w:aI}{A:ai}{E:ax->ae->Prop}{K:Frag}{a C dx:av}{f:Str}{v:ax}{o:Obj}{mA:Str->aE ax}
theorem YC{t:Nat}{os:OsState}{expr:Bool}{Q:ax->ae->Prop}(X:K.In h)(q:Qk K C)(q2:Aw K C f)(he:h.get? a=some o)(hc:o.cls = .ref C)(hno:notCls o=true)(hd:o.dict=some dx)(hn:h.Ns1 dx mA)
  (hv:mA f=some v) (hh:handedIn v=true) (hq:Q v ⟨h,g,d,t+1,os⟩):wpAny (model prog w) A (getAttr (.ref a) f expr) Q E ⟨h,g,d,t,os⟩:=by
 obtain⟨od,ho,hl⟩:=Bx hn;have I:InstAt h a o C (some od):=⟨he,hc,hno,by rw[hd];exact ho⟩;have LF:=looks_find (M:=model prog w) X I (findObj_own q2.dict q2.no rfl ((hl f).trans (congrArg some hv)))
 have x2:(Value.builtin "BaseException.__getattribute__" == Value.builtin "object.__getattribute__")=false:=by ext y
 have x1:(onTheHeap (Value.ref C)&&Value.builtin "BaseException.__getattribute__" == Value.builtin "object.__getattribute__")=false:=by rw[x2];rfl
 refine aS (wpAny_mkText (cm (aS (I.type _ _ _ _ (fun _ _ e=>e) (aS (looks_findIn X q.ga _ _ _ _ (fun _ _ e=>e) ?_))))))
 dsimp only
 rw[x1,cy qg];refine aS ((looks_hook (mc:=.ref C) X (r:=none) (by rw[cE (show onTheHeap (Value.ref C)=true from rfl)];exact q.no)) _ _ _ _ (fun _ _ e=>e) (aS (wpAny_attempt (cm ?_))));unfold callGetattribute;rw[show (expr&&onTheHeap (Value.builtin "BaseException.__getattribute__"))=false from Bool.and_false _,cy qg];unfold boundAndCalled;rw[F.excAttr_ValueError.ga.bind];refine aS (aT ?_);show wpAny _ _ (call (.builtin "BaseException.__getattribute__") [.ref a,.str f t]) _ _ _;refine wpAny_call (codeAny_call_builtin F.excAttr_ValueError.ga.plain F.entry_bexc_ga (Kz X q he hc ?_))
 repeat (any_goals (first | assumption | (with_reducible refine wpAny_loadPart_at he ?_;rw[hc]) | with_reducible refine LF.at ?_ | wp_step))
 show wpAny _ _ (handedOut v) _ _ _;rw[handedOut_of hh];exact aT hq
end
def RD(K:Frag)(ta:TE)(f:Str):TE:=fun σ H Q=>ta σ H fun x H1 => ∃ a C dx fs v,x = .ref a/\H1 a=some (tV a C (some dx))/\Qk K C/\Aw K C f/\H1 dx=some (.xd fs)/\fs.lookup f=some v/\Q v H1
def qCW(K:Frag)(ta tv:TE)(f:Str):TS:=fun D σ H=>tv σ H fun y H1=>ta σ H1 fun x H2 => ∃ e C,x = .ref e/\H2 e=some (vf e C none)/\Aw K C f/\∀ dx,H2 dx=none->dx≠e->D.nx σ (upd (upd H2 dx (.xd [(f,y)])) e (vf e C (some dx)))
theorem N8(he:PE X e ta)(hb:attributeBase e f X.env (eval e X.env)=eval e X.env):PE X (.Attribute e f pos) (RD X.K ta f):=by intro pins s σ H Q I h;refine Oh hb (bI (he pins s σ H _ I h) fun u s1 ⟨x,H1,I1,rx,a,C,dx,_,v,ex,ea,c,n,ed,l,q⟩=>?_);subst ex;obtain rfl:u=Value.ref a:=rx;obtain⟨mA,hn,r⟩:=I1.hok dx _ ed;obtain⟨_,z1,z2,z3,z4⟩:=qBJ I1 ea;obtain⟨_,hw,rw1⟩:=jr.some_of (v:=v) (o:=mA f) (by rw[<-l];exact r f);obtain⟨_,g,d,t,_⟩:=s1;exact YC I1.nR c n z1 z2 z4 z3 hn hw (CP rw1) ⟨v,H1,I1.tok _,rw1,q⟩
theorem Wx(ha:PE X o ta)(hv:PE X value tv)(hs:swapsWith value (some (.Attribute o f pos')) pos.line X.env=pure false):PS X (.Assign [.Attribute o f pos'] value pos) (qCW X.K ta tv f):=by
 intro pins s σ H D I h;refine plainObj_wpAny_Assign_Attribute (bI (hv pins s σ H _ I h) fun u s1 ⟨y,H1,I1,ry,q⟩=>bI (ha pins s1 σ H1 _ I1 q) fun ov s2 ⟨x,H2,I2,rx,e,C,ex,ea,n,q2⟩=>?_) hs;subst ex;obtain rfl:ov=Value.ref e:=rx;obtain⟨⟨t0,z⟩,_⟩:=I2.hok e _ ea;have hf:H2 s2.heap.objs.size=none:=I2.fresh;have ne:s2.heap.objs.size≠e:=iN (iU z);refine Wd I2.nR n z fun h' _ z1 z2 z3=>⟨σ,_,?_,q2 _ hf ne⟩;have d1:∃ ob,h'.get? s2.heap.objs.size=some ob:=let ⟨ob,_,_,e,_⟩:=z2;⟨ob,e⟩;have hnew:s2.heap.get? s2.heap.objs.size=none:=eB (bN _);refine I2.un ⟨fun b u q n _ _=>z3 b u (fun y=>by subst y;rw[n]at ea;cases ea) q,fun b u q n _ _=>⟨u.slots,z3 b u (fun y=>by subst y;rw[n]at ea;cases ea) q⟩,fun b u q n _=>?_,fun b u q _=>?_,fun b xs q=>?_,fun b u xs q=>?_,fun b _ q=>⟨#[],?_⟩⟩ fun b u q=>?_
 .rw[zQ (fun y=>by subst y;rw[n]at ea;cases ea),zQ (fun y=>by subst y;rw[hnew]at q;cases q)];exact n
 .by_cases hb:b=e
  .subst hb;exact⟨_,z1⟩
  .exact⟨u,z3 b u hb q⟩
 .rw[zQ (cJ q ea nofun),zQ (zM q hf)];exact q
 .rw[zQ (cJ q ea nofun),zQ (zM q hf)];exact q
 .rw[zQ (cJ q ea nofun),zQ (zM q hf),q];simp
 .by_cases hb:b=e
  .subst hb;rw[zC]at q
   cases q
   exact Ed ⟨t0,z1⟩
  .rw[zQ hb]at q
   by_cases hx:b=s2.heap.objs.size
   .subst hx;rw[zC]at q
    cases q
    refine⟨_,z2,fun y=>?_⟩
    by_cases k:y=f
    .subst k;show jr (List.lookup y [(y,_)]) (if y=y then some u else none);rw[cE rfl,List.lookup_cons_self];exact ry
    .show jr (List.lookup y [(f,_)]) (if y=f then some u else none)
     have z5:(y==f)=false:=by simpa using k
     rw[cy k,fm,z5];exact dE
   .rw[zQ hx]at q;refine (I2.hok b u q).stay (fun c v hc y=>z3 c v (fun k=>?_) y) (fun c y=>?_) fun c xs y=>?_
    .rcases hc with k2 | k2
     .exact hb (k2.symm.trans k)
     .rw[k,ea]at k2;cases k2
    .rw[zQ (cJ y ea nofun),zQ (zM y hf)];exact y
    .rw[zQ (cJ y ea nofun),zQ (zM y hf)];exact y
end L2
namespace L2
open PySem PySem.Spec PyProof.Rows
theorem Q4(hfr:A.frames=some (env::outer))(hf:env.frame=some L)(hkb:base.StaysIn s.heap)(hb:base.get? e=none)(hl:s.heap.FunFrames base (env::outer))(ht:s.heap.TracedAtW base e cls a0 fl)(x:DictAt s.heap e dd)
  (hQ:∀ h',Heap.FlyingW base outer e cls a0 h'->s.heap.UpToSlots h'->DictAt h' e dd->Q () { s with heap:=h' }):wpAny M A (leaving env (.ref e)) Q E s:=by
 by_cases hfl:fl=rawInt L
 .subst hfl;unfold leaving;refine aS (wpAny_noteFrame_againW hf ht (U4 ⟨hkb,hb,hl,ht⟩ x fun h' ⟨k1,k2,⟨_,_,k3⟩,k4⟩ sl dk=>hQ h' ⟨k1,k2,k3,k4⟩ sl dk))
 .obtain⟨oe,vs,T,_,ts,he,⟨hc,h0⟩,hd,h1,hnT,hTe,hT,hdT,h3⟩:=ht;subst hc;unfold leaving noteFrame;simp only[hf];refine aS (aS (wpAny_field he hd h1 ?_));rw[if_pos (show (Value.ref T != Value.none)=true by simp)];refine aS (wpAny_field hT hdT h3 ?_);rw[if_neg (show ¬ ((fl==rawInt L)=true) by simpa using hfl)];refine aS (wpAny_setField hT hdT (dQ.mp h3).1 ?_);have other:∀ b,b≠T->(s.heap.update T (Obj.mapFields (·.setIfInBounds 3 Value.none))).get? b=s.heap.get? b:=fun b z=>cf _ _ (bt z)
  have HS:∀ b o,s.heap.get? b=some o->(∀ vs,o.data≠.fields vs)->b≠T:=fun b o z1 z2 z=>by
   subst z;rw[hT]at z1
   cases z1
   exact z2 ts hdT
  have hl1:(s.heap.update T (Obj.mapFields (·.setIfInBounds 3 Value.none))).FunFrames base (env::outer):=hl.of_keeps fun b o z1 z2=>⟨o,(other b (HS b o z1 z2)).trans z1,rfl⟩;have O2:=(other e (bt hTe)).trans he;have x1:DictAt (s.heap.update T (Obj.mapFields (·.setIfInBounds 3 Value.none))) e dd:=x.upd hT hdT;have hsz:=(dQ.mp h1).1
  refine bX (dW (wpAny_newEntryW (s:={ s with heap:=s.heap.update T (Obj.mapFields (·.setIfInBounds 3 Value.none)) }) (Q:=fun _ s'=>∃ h',s' = { s with heap:=h' }/\Heap.LeftW base (env::outer) e oe.cls a0 (s.heap.update T (Obj.mapFields (·.setIfInBounds 3 Value.none))) h') hfr hl1 hf O2
   (fun b o z=>(other b fun q=>by rw[q,hnT]at z;cases z).trans (hkb b o z)) hb hd hsz h0 fun h' k=>⟨h',rfl,k⟩)
   (mO (s:={ s with heap:=s.heap.update T (Obj.mapFields (·.setIfInBounds 3 Value.none)) }) (Q:=fun _ s'=>wpAny M A (setFlight (.ref e) none) (fun _ s2=>DictAt s2.heap e dd) E s') hfr hl1 hf O2 hd hsz x1 fun _ T2 _ _ y1 ⟨_,_,q1,q2,q3⟩ q4 q5 q6=>?_))
   (fun _ s2 z=>bX (dW z.1 z.2) (fun _ _ ⟨⟨h',y,k1,⟨_,_,k2⟩,k3,k4⟩,k5⟩=>by subst y;exact hQ h' ⟨k1,hb,k2,k3⟩ (fun b o z1 z2=>k4 b o ((other b (HS b o z1 z2)).trans z1) z2) k5) fun _ _ y=>y) fun _ _ y=>y
  unfold setFlight;refine aS (wpAny_field q1 q2 q3 ?_);rw[if_pos (show (Value.ref T2 != Value.none)=true by simp)];exact wpAny_setField q4 q5 q6 (y1.upd q4 q5)
def uD(X:Cx)(E:XK):Prop:=∀ pins σ H1 s1 ea cls a0 fl dd H' B s',Inv X pins σ H1 s1->s'.os=X.s₀.os->AllBare s'.gens →
 B.StaysIn s'.heap->B.get? ea=none->s'.heap.FunFrames B X.stack->s'.heap.TracedAtW B ea cls a0 fl->jO X.prog X.w H' s'.heap->Un (frs X.outer) [] X.H₀ H' X.s₀.heap s'.heap->(∀ b,(H' b).isSome=true->∃ o,s'.heap.get? b=some o/\B.get? b=some o) →
 (∀ b o,X.s₀.heap.get? b=some o->b∉frs X.outer->∃ o',s'.heap.get? b=some o'/\B.get? b=some o')->DictAt s'.heap ea dd->E cls dd H'->X.xe (.ref ea) s'
section
variable{P:ag}{w:aI}{K:cL}{mg:Str->aE ax}{base:Heap}{N:ay Str}{qual:Str}{scope:Scope}{f:av}{cd:ax}{A:ai}{outer:ay Env}{s:ae}{H:Hp}{E E':XK}
theorem Yw(hE:∀ c d H,E' c d H->E c d H):uD (qL (qK P w) P w K mg base N qual scope f cd A outer s H E) E':=by
 intro _ σ _ _ ea cls a0 _ dd H' B s' I ho hg st hb hl ht hok un hB hC hdd hq;show wpAny _ _ (leaving _ (.ref ea)) _ _ s';refine Q4 (L:=s.heap.objs.size) I.ok.frames rfl st hb hl ht hdd fun _ Ft sl dk=>?_;refine⟨ea,cls,a0,H',B,rfl,ho,hg,Ft,hok.flown hB Ft.1,un.flown hC Ft.1 sl I.qu,fun b hb=>?_,fun b ob q hb=>?_,dd,dk,hE _ _ _ hq⟩
 .obtain⟨ob,_,e2⟩:=hB b hb;exact⟨ob,Ft.1 b _ e2,e2⟩
 .obtain⟨o',_,e2⟩:=hC b ob q hb;exact⟨o',Ft.1 b _ e2,e2⟩
end
theorem VG(hp:uD X EX)(hex:X.ex=[])(I:Inv X pins σ H2 s2)(hn:s2.heap.Ns C m)(hC:H2 C=none)(hCs:C∉frs X.stack)(ZC:X.s₀.heap.get? C=none)
  (hst:X.stack=X.env::X.outer) (hfr:X.env.frame=some X.env.locals)
  (h:qK X.prog X.w X.stack H2 s2 EX e s'):notedBy (model X.prog X.w) X.A (compEnvC sc cl C X.env) (fun e s3=>compPost (model X.prog X.w) X.A X.xe use Qv acc C (.error e) s3) e s':=by
 obtain⟨ea,cls,a0,H',B,rfl,ho,hgn,fl,hok,un,hB,hCc,dd,hdd,hq⟩:=h;have Um:=I.ok.frames;rw[hst]at fl Um;show wpAny _ _ (noteFrame (.ref ea) X.env) _ _ s';refine Bw Um hfr fl hdd fun h4 O1 sl4 dk4=>?_;obtain⟨oC,esC,epC,gC,rC⟩:=id hn
 have bC:B.get? C=some oC:=by
  obtain⟨o',z1,z2⟩:=hCc C oC gC hCs;rw[un.keep C oC gC hC hCs (by simp)]at z1
  cases z1
  exact z2
 have hC1:H' C=none:=un.free C oC gC hC (by simp);refine⟨m,⟨oC,esC,epC,O1.1 _ _ bC,rC⟩,fun h5 sb cenv _=>?_⟩;obtain⟨k1,k2,k3,oe,vs,T,oT,ts,he,hcl,hd,h1,hnT,hTe,hT,hdT,h3⟩:=O1
 have neC:ea≠C:=fun z=>by rw[z,bC]at k2;cases k2
 have nTC:T≠C:=fun z=>by rw[z,bC]at hnT;cases hnT
 have e5:h5.get? ea=some oe:=(sb.2 ea neC).trans he;have T5:h5.get? T=some oT:=(sb.2 T nTC).trans hT;have sz3:=(dQ.mp h3).1;unfold PySem.passOn;refine aS (wpAny_field e5 hd h1 ?_);rw[if_neg (show ¬ ((Value.ref T==Value.none)=true) by simp)];refine aS (m:=setFlight (.ref ea) cenv.frame) ?_;unfold setFlight;refine aS (wpAny_field e5 hd h1 ?_);rw[if_pos (show (Value.ref T != Value.none)=true by simp)];refine wpAny_setField T5 hdT sz3 (wpAny_throw ?_);generalize hfv:(cenv.frame.elim Value.none fun f=>rawInt f)=fv;generalize hh6:h5.update T (Obj.mapFields (·.setIfInBounds 3 fv))=h6
 have o6:∀ b,b≠T->h6.get? b=h5.get? b:=fun b z=>by rw[<-hh6];exact cf _ _ (bt z)
 have T6:h6.get? T=some (oT.mapFields (·.setIfInBounds 3 fv)):=by rw[<-hh6];exact ck _ T5 (Obj.isFreed_of_fields (Obj.data_mapFields hdT _))
 have e6:h6.get? ea=some oe:=(o6 ea (bt hTe)).trans e5;have J3:=I.call' ho un hok hgn (fun _ z=>nomatch z);have zu:∀ b o,B.get? b=some o->b≠C->h6.get? b=some o:=fun b o z1 z2=>(o6 b (fun y=>by rw[y,hnT]at z1;cases z1)).trans ((sb.2 b z2).trans (k1 b o z1));have gB:∀ b o,B.get? b=some o->b≠C->(PySem.W.hideAll B [C]).get? b=some o:=fun b o z1 z2=>PySem.W.hideAll_get _ z1 (by simpa using z2)
 have hBn:∀ b,B.get? b=none->(PySem.W.hideAll B [C]).get? b=none:=fun b z=>by
  cases q:(PySem.W.hideAll B [C]).get? b with
  | none=>rfl
  | some o=>have:=PySem.W.of_hideAll _ q;rw[z]at this;cases this
 have nC:∀ b,(PySem.W.hideAll B [C]).get? b≠none->b≠C:=fun b z y=>z (by rw[y];exact PySem.W.hideAll_none _ (by simp))
 have keep6:∀ b o,b≠C->b≠T->s'.heap.get? b=some o->(∀ vs,o.data≠.fields vs)->∃ sl,h6.get? b=some { o with slots:=sl }:=fun b o z1 z2 z3 z4=>by
  obtain⟨sl,y⟩:=sl4 b o z3 z4;exact⟨sl,(o6 b z2).trans ((sb.2 b z1).trans y)⟩
 have noT:∀ b o,h4.get? b=some o->(∀ vs,o.data≠.fields vs)->b≠T:=fun b o z1 z2 z=>by
  subst z;rw[hT]at z1
  cases z1
  exact z2 ts hdT
 have fr6:h6.FunFrames (PySem.W.hideAll B [C]) X.stack:=by
  rw[hst]at hCs ⊢
  have go:∀ l:ay Env,C∉frs l->h4.FunFrames B l->h6.FunFrames (PySem.W.hideAll B [C]) l:=by
   intro l
   induction l with
   | nil=>exact fun _ z=>z
   | cons env l ih=>
    intro hc ⟨hcl,⟨L,o,q1,q2,q3,q4⟩,hr⟩;have hne:L≠C:=fun z=>hc (by rw[iI q1,z];exact wO);refine⟨hcl,⟨L,o,q1,hBn L q2,?_,q4⟩,ih (fun z=>hc (by rw[iI q1];exact Fj _ z)) hr⟩;exact (o6 L (noT L o q3 q4)).trans ((sb.2 L hne).trans q3)
  exact go _ hCs k3
 refine hp pins σ H2 s2 ea cls a0 fv dd H' (PySem.W.hideAll B [C]) { s' with heap:=h6 } I (ho.trans I.os) hgn (fun b o z=>zu b o (PySem.W.of_hideAll _ z) (nC b (by rw[z];simp))) (hBn _ k2) fr6
  ⟨oe,vs,T,_,_,e6,hcl,hd,h1,hBn _ hnT,hTe,T6,Obj.data_mapFields hdT _,by simp [sz3]⟩ ?_ ?_ (fun b z=>?_) (fun b o z1 z2=>?_) ?_ hq
 .refine hok.flown (B:=PySem.W.hideAll B [C]) (fun b z=>?_) fun b o z=>zu b o (PySem.W.of_hideAll _ z) (nC b (by rw[z];simp));obtain⟨o,y1,y2⟩:=hB b z
  have hne:b≠C:=fun k=>by rw[k,hC1]at z;cases z
  exact⟨o,y1,gB b o y2 hne⟩
 .have ub:Un (frs X.outer) [] X.H₀ H' X.s₀.heap s'.heap:=by
   have:=J3.base;rw[hex]at this;exact this
  have sub:∀ b,b∈frs X.outer->b∈frs X.stack:=fun b z=>by rw[hst,iI hfr];exact Fj _ z
  have c0:∀ b o,X.s₀.heap.get? b=some o->b≠C:=fun b o z y=>by rw[y,ZC]at z;cases z
  have slot:∀ b o,X.s₀.heap.get? b=some o->X.H₀ b=none->b∈frs X.outer->∃ sl,h6.get? b=some { o with slots:=sl }:=fun b o z1 z2 z3=>by
   obtain⟨_,y1⟩:=ub.slot b o z1 z2 z3 (by simp);obtain⟨_,o1,y2,nf⟩:=I.qu b z3;rw[z1]at y2
   cases y2
   obtain⟨s2,y3⟩:=sl4 b _ y1 nf;have y4:b≠T:=noT b _ y3 nf;exact⟨s2,(o6 b y4).trans ((sb.2 b (c0 b _ z1)).trans y3)⟩
  have old:∀ b o,X.s₀.heap.get? b=some o->b∉frs X.outer->∃ o',s'.heap.get? b=some o'/\B.get? b=some o':=fun b o z1 z2=>by
   obtain⟨o1,y1⟩:=I.base.there b o z1 (by rw[hex];simp);refine hCc b o1 y1 fun y=>?_;rw[hst,iI hfr]at y;rcases bL.mp y with k | k
   .exact lO (zm (iU z1) I.ok.above) k
   .exact z2 k
  refine⟨fun b o z1 z2 z3 z4=>?_,fun b o z1 z2 z3 _=>slot b o z1 z2 z3,ub.free,fun b o z1 _=>?_,ub.tups,ub.qy,ub.rR⟩
  .obtain⟨o',y1,y2⟩:=old b o z1 z3;rw[ub.keep b o z1 z2 z3 z4]at y1
   cases y1
   exact zu b _ y2 (c0 b _ z1)
  .by_cases z3:b∈frs X.outer
   .obtain⟨_,y⟩:=slot b o z1 (I.qu b z3).1 z3;exact⟨_,y⟩
   .obtain⟨o',_,y2⟩:=old b o z1 z3;exact⟨o',zu b _ y2 (c0 b _ z1)⟩
 .obtain⟨o,y1,y2⟩:=hB b z
  have hne:b≠C:=fun k=>by rw[k,hC1]at z;cases z
  exact⟨o,zu b o y2 hne,gB b o y2 hne⟩
 .obtain⟨o1,y1⟩:=I.base.there b o z1 (by rw[hex];simp)
  have hne:b≠C:=fun y=>by rw[y,ZC]at z1;cases z1
  obtain⟨o',_,y2⟩:=hCc b o1 y1 fun y=>by
   rw[hst,iI hfr]at y;rcases bL.mp y with k | k
   .exact lO (zm (iU z1) I.ok.above) k
   .exact z2 k
  exact⟨o',zu b _ y2 hne,gB b _ y2 hne⟩
 .obtain⟨o1,y1,y2⟩:=dk4;have:h4.get? ea=some o1:=y1;rw[he]at this
  cases this
  exact⟨_,e6,y2⟩
theorem Im{Z:ay V->Hp->Prop}{RR:ax->av->Result->ae->Prop}
  (hc:X.calm=true) (S:bK X.env.scope X.N scope x aj) (I:Inv X pins σ H s) (T:Turn X.prog X.w X.K (.Name x px) J fp it tn) (st:tn 0 s.heap) (hf:∀ b∈fp,iR X pins H b)
  (yg:∀ C s H ex pn E,J0 (cW X (x::aj.map (·.2)) scope C s H ex pn E) ifs tc) (helt:∀ C s H ex pn E,Passes (qK X.prog X.w) (cW X (x::aj.map (·.2)) scope C s H ex pn E) EX->PE (cW X (x::aj.map (·.2)) scope C s H ex pn E) elt te)
  (hER:∀ D C H2 s2 m e s',Inv X pins σ H2 s2->s2.heap.Ns C m->iR X pins H2 C->qK X.prog X.w X.stack H2 s2 EX e s'->notedBy (model X.prog X.w) X.A (compEnvC scope (pB X.env scope) C X.env) (fun e s'=>RR (.ref D) C (.error e) s') e s')
  (hW:jm J (v8 aj σ) tc te H Z)
  (hRR:∀ s' H' acc its D C m,Inv X pins σ H' s'->s'.heap.PlainList D its.toArray->Vals acc its->acc.length<=sizeLine->iR X pins H' D->iR X pins H' C->D≠C->s'.heap.Ns C m->Z acc H'->RR (.ref D) C (.ok .next) s') :
  wpAny (model X.prog X.w) X.A (newList []) (fun acc s₃=>wpAny (model X.prog X.w) X.A (newFunctionEnv scope X.env.globals (pB X.env scope) [] X.env.qual none .none (some X.env)) (fun cenv s₄=>
   codeAny (model X.prog X.w) X.A (.compStart (.ListComp elt [⟨.Name x px,iter,ifs,0⟩] scope pos) 0 (.ref it) acc { cenv with scope:=relabel scope X.env }) (RR acc cenv.locals) s₄) E s₃) E s:=by
 refine wpAny_newObj_type (wpAny_newFunctionEnv S.Bt (by intro y hy;simp at hy) (fun h₁ hns₁ hsb₁=>?_) S.kind)
 dsimp only at hns₁ hsb₁ ⊢
 have hI3:Inv X pins σ H { s with heap:=s.heap.push { cls:=.type "list",dict:=none,data:=.seq ([]:ay ax).toArray } }:=I.kept (t':=s.toks) fun b u e=>j8 _ e;have gD3:(s.heap.push { cls:=.type "list",dict:=none,data:=.seq ([]:ay ax).toArray }).get? s.heap.objs.size=some { cls:=.type "list",dict:=none,data:=.seq ([]:ay ax).toArray }:=zr _ rfl;have Kp:(s.heap.push { cls:=.type "list",dict:=none,data:=.seq ([]:ay ax).toArray }).objs.size=s.heap.objs.size+1:=eC _ _;generalize W5:s.heap.push { cls:=.type "list",dict:=none,data:=.seq ([]:ay ax).toArray }=h3 at hns₁ hsb₁ hI3 gD3 Kp ⊢;have k3:∀ b u,s.heap.get? b=some u->h3.get? b=some u:=fun b u e=>W5▸j8 _ e;have UG:∀ b u,h3.get? b=some u->h₁.get? b=some u:=fun b u e=>(hsb₁.2 b (lO (iU e))).trans (j8 _ e);have k1:∀ b u,s.heap.get? b=some u->h₁.get? b=some u:=fun b u e=>UG b u (k3 b u e)
 have hDC:s.heap.objs.size≠h3.objs.size:=by rw[Kp];exact lO (ic _)
 have fD:iR X pins H s.heap.objs.size:=I.ym (bN _) (I.hok.fresh (bN _));have fC:iR X pins H h3.objs.size:=I.ym (by rw[Kp];exact hV _) (I.hok.fresh (by rw[Kp];exact hV _));have lfp:∀ b∈fp,b<s.heap.objs.size:=fun b hb=>let ⟨_,e,_⟩:=T.obj _ _ st b hb;iU e;have hDf:s.heap.objs.size∉fp:=fun z=>i0 _ (lfp _ z);have hfree:∀ y∈scope.names,y.2 = .free->∃ c,X.env.cells.lookup y.1=some c:=fun y hy e=>I.ok.has y.1 (S.free y hy e);obtain⟨sub,has⟩:=tu scope.names [] hfree (fun y c e=>by simp at e);have qi:∀ y c,(pB X.env scope).lookup y=some c->X.env.cells.lookup y=some c:=sub;have Ue:∀ y,(y,NameKind.free)∈scope.names->∃ c,(pB X.env scope).lookup y=some c:=fun y hy=>jv.mp (has y (.inr hy));have inj:∀ b∈s.heap.objs.size::fp,iR X pins H b:=fun b hb=>(bL.mp hb).elim (fun z=>z▸fD) (hf b);have ltC:∀ b∈s.heap.objs.size::fp,b≠h3.objs.size:=fun b hb=>(bL.mp hb).elim (fun z=>z▸hDC) fun z=>lO (by rw[Kp];exact ib (lfp b z))
 have I1:Inv (cW X (x::aj.map (·.2)) scope h3.objs.size { s with heap:=h3 } H (s.heap.objs.size::fp) (X.pn++pins)
   (notedBy (model X.prog X.w) X.A (compEnvC scope (pB X.env scope) h3.objs.size X.env) fun e s'=>RR (.ref s.heap.objs.size) h3.objs.size (.error e) s')) [] (none::v8 aj σ) H { s with heap:=h₁,toks:=s.toks+([]:ay (Str×ax)).length }:=by
  refine⟨⟨I.ok.mod,S.kind,I.ok.glob,I.ok.blt,bN _,fun y z c e1 e2=>I.ok.inj y z c (qi _ _ e1) (qi _ _ e2),fun y hy=>Ue y (nA S.Bt hy),fun y c e=>(nomatch e),I.ok.hd,I.ok.frames,.inl rfl,fun b hb=>⟨ltC b hb,fun y c e=>(inj b hb).2.2.2.2.1 y c (qi y c e)⟩,
    fun b ob e=>⟨k3 b ob (I.bs b ob e).1,(I.bs b ob e).2⟩,?_,fun b ob e z=>?_,fun b hb=>I.wW (inj b hb).2.1 (inj b hb).2.2.1,?_,I.rW⟩,
   rfl,I.bare,Un.kept UG,⟨_,hns₁,fun i y v e1 e2 e3=>?_⟩,fun y c e=>?_,fC.1,fun y c e=>I.jH y c (qi y c e),fun p hp=>?_,I.hok.kept k1,?_⟩
  .exact bq I.ok.Qy (bq I.sz (by show s.heap.objs.size<=h3.objs.size;rw[Kp];exact hV _))
  .rcases (inj b z).2.2.2.1 with w1 | w1
   .exact I.ok.KZ b ob e w1
   .exact dP (zm (iU e) I.ok.Qy) (Nat.not_lt.mpr w1)
  .exact Heap.FunFrames.of_keeps (fun b ob e _=>⟨ob,k3 b ob e,rfl⟩) I.stack
  .cases i with
   | zero=>cases e2
   | succ i=>
    have e1':(aj.map (·.2))[i]? = some y:=e1;have e2':(v8 aj σ)[i]? = some (some v):=e2;unfold v8 at e2';rw[dD]at e1' e2'
    cases ep:aj[i]? with
    | none=>rw[ep]at e1';cases e1'
    | some p=>
     rw[ep]at e1' e2';obtain rfl:p.2=y:=jX e1';have Eu:(σ[p.1]?).getD none=some v:=jX e2'
     have hσ:σ[p.1]? = some (some v):=by
      cases es:σ[p.1]? with
      | none=>rw[es]at Eu;cases Eu
      | some w1=>rw[es]at Eu;exact congrArg some Eu
     obtain⟨cN,cF⟩:=S.cap p (zp ep);have mF:(p.2,NameKind.free)∈scope.names:=cq cF;have oF:=S.free _ mF rfl;obtain⟨m,hn,hlook⟩:=I.loc;obtain⟨u,ru,lk⟩:=hlook p.1 p.2 v cN hσ (.inr oF);refine⟨u,ru,.inr ⟨?_,?_⟩⟩
     .rcases e3 with z | z
      .exact dP z (dZ cF)
      .exact z
     .obtain⟨c,ec⟩:=Ue p.2 mF;refine⟨c,ec,?_⟩;rcases lk with ⟨z,_⟩ | ⟨_,c',ec',ob,ho,hd⟩
      .have z':X.env.scope.names.lookup p.2=some .local:=z;rw[z']at oF;rcases oF with q | q <;> cases q
      .have ee:=(qi _ _ ec).symm.trans ec'
       cases ee
       exact⟨ob,k1 _ _ ho,hd⟩
  .obtain⟨v,ob,ho,hd⟩:=I.cell y c (qi y c e);exact⟨v,ob,k1 _ _ ho,hd⟩
  .have hp':p∈X.pn++pins:=by
    rcases cH.mp hp with z | z
    .exact z
    .exact absurd z (by simp)
   obtain⟨e,n,ne,nf,d⟩:=I.pin p hp';refine⟨k1 _ _ e,n,lO ?_,I.wW ne nf,d⟩;show p.1<h3.objs.size;rw[Kp];exact ib (iU e)
  .show (none::v8 aj σ).length=(x::aj.map (·.2)).length;simp [v8]
 have hf1:∀ b∈s.heap.objs.size::fp,iR (cW X (x::aj.map (·.2)) scope h3.objs.size { s with heap:=h3 } H (s.heap.objs.size::fp) (X.pn++pins)
   (notedBy (model X.prog X.w) X.A (compEnvC scope (pB X.env scope) h3.objs.size X.env) fun e s'=>RR (.ref s.heap.objs.size) h3.objs.size (.error e) s')) [] H b:=fun b hb=>by
  obtain⟨f0,f1,f2,f3,f4,f5⟩:=inj b hb;refine⟨f0,ltC b hb,I.wW f1 f2,.inl hb,fun y c e=>f4 y c (qi y c e),fun p hp=>f5 p ?_⟩;rcases cH.mp hp with z | z
  .exact z
  .exact absurd z (by simp)
 have st1:tn 0 h₁:=T.keep _ _ _ st fun b _ ob e=>k1 b ob e
 have hpass:Passes (qK X.prog X.w) (cW X (x::aj.map (·.2)) scope h3.objs.size { s with heap:=h3 } H (s.heap.objs.size::fp) (X.pn++pins)
   (notedBy (model X.prog X.w) X.A (compEnvC scope (pB X.env scope) h3.objs.size X.env) fun e s'=>RR (.ref s.heap.objs.size) h3.objs.size (.error e) s')) EX:=by
  intro _ σ2 H2 s2 e s' J1 hcx;have u1:Un (frs X.stack) (s.heap.objs.size::fp) H H2 h3 s2.heap:=J1.base
  have J2:Inv X pins σ H2 s2:=Inv.call' (s:={ s with heap:=h3 }) hI3 J1.os u1 J1.hok J1.bare fun b hb=>by
   obtain⟨_,f1,_,f3,f4,f5⟩:=inj b hb;exact⟨f3,f1,f4,f5⟩
  obtain⟨m,hn,_⟩:=J1.loc;exact hER s.heap.objs.size h3.objs.size H2 s2 m e s' J2 hn ⟨J1.free,fC.2⟩ hcx
 have loop:codeAny (model X.prog X.w) X.A (.compLoop (.ListComp elt [⟨.Name x px,iter,ifs,0⟩] scope pos) 0 (.ref it) (.ref s.heap.objs.size) (compEnvC scope (pB X.env scope) h3.objs.size X.env)) (RR (.ref s.heap.objs.size) h3.objs.size) { s with heap:=h₁,toks:=s.toks+([]:ay (Str×ax)).length }:=by
  refine Cd (X:=cW X (x::aj.map (·.2)) scope h3.objs.size { s with heap:=h3 } H (s.heap.objs.size::fp) (X.pn++pins) (notedBy (model X.prog X.w) X.A (compEnvC scope (pB X.env scope) h3.objs.size X.env) fun e s'=>RR (.ref s.heap.objs.size) h3.objs.size (.error e) s'))
   hc rfl S.nd (lookup_relabel_local S.hx) I1 T st1 (fun b hb=>hf1 b (Fj _ hb)) (hf1 _ wO) hDf ⟨0,UG _ _ gD3⟩ (yg _ _ _ _ _ _) (helt _ _ _ _ _ _ hpass) hW rfl ?_
  intro s' H' acc its _ J1 X4 va hlen nD z;have u1:Un (frs X.stack) (s.heap.objs.size::fp) H H' h3 s'.heap:=J1.base
  have J2:Inv X pins σ H' s':=Inv.call' (s:={ s with heap:=h3 }) hI3 J1.os u1 J1.hok J1.bare fun b hb=>by
   obtain⟨_,f1,_,f3,f4,f5⟩:=inj b hb;exact⟨f3,f1,f4,f5⟩
  obtain⟨m,hn,_⟩:=J1.loc;exact hRR s' H' acc its _ _ m J2 X4 va hlen ⟨nD,fD.2⟩ ⟨J1.free,fC.2⟩ hDC hn z
 exact codeAny_compStart_list loop (T.self _ 0 _ _ _ st1 loop)
theorem S5(hpa:uD X EX)(hc:X.calm=true)(hN:X.N.Nodup)(hi':X.N[i]? = some y)(hy:Loc X.env.scope y)(S:bK X.env.scope X.N scope x aj)(hi:PI X (.Name x px) iter wi)
  (yg:∀ C s H ex pn E,J0 (cW X (x::aj.map (·.2)) scope C s H ex pn E) ifs tc) (helt:∀ C s H ex pn E,Passes (qK X.prog X.w) (cW X (x::aj.map (·.2)) scope C s H ex pn E) EX->PE (cW X (x::aj.map (·.2)) scope C s H ex pn E) elt te)
  (hsw:swapsWith (.ListComp elt [⟨.Name x px,iter,ifs,0⟩] scope pos) (some (.Name y py)) spos.line X.env=pure true:=by rfl) (hs:∀ x,foldedSetIterable iter X.env x=pure x:=by intro _;rfl) (hex:X.ex=[]:=by rfl) (hst:X.stack=X.env::X.outer:=by rfl) (hfr:X.env.frame=some X.env.locals:=by rfl)
  (hfn:X.fn y=true∨X.env.scope.names.lookup y=some .local:=by ext z):PS X (.Assign [.Name y py] (.ListComp elt [⟨.Name x px,iter,ifs,0⟩] scope pos) spos) (RJ (RG wi aj tc te) (Ie i)):=by
 intro pins s σ H D0 I h;have hfree:∀ y∈scope.names,y.2 = .free->∃ c,X.env.cells.lookup y.1=some c:=fun y hy e=>I.ok.has y.1 (S.free y hy e);rw[exec_Assign_Name_used _ _ _ _ hsw];refine aS (wpAny_standAt (aS ?_));show wpAny _ _ (do let _ ← comprehension (.ListComp elt [⟨.Name x px,iter,ifs,0⟩] scope pos) scope X.env _ (newList []) false (eval iter X.env) (some (assign (.Name y py) X.env))) _ _ s
 refine aS (bX (wpAny_comprehension_free (use:=some (assign (.Name y py) X.env)) (Q:=fun _ s'=>SP X pins D0 .next s') rfl hs (rD hfree) S.kind S.Tg
  (bI (hi pins s σ H _ I h) fun v _ h1=>bI h1 fun _ s2 h2=>?_)) (fun _ s' hq=>aT (aT hq)) fun _ _ e=>e)
 obtain⟨_,_,_,J,H2,e,I2,T,st2,f2,hW⟩:=h2;subst e;refine Im (RR:=fun acc C=>compPost (model X.prog X.w) X.A X.xe (some (assign (.Name y py) X.env)) (fun _ s'=>SP X pins D0 .next s') acc C) hc S I2 T st2 f2 yg helt (fun D C H2 s2 m e s' J hn f hcx=>VG hpa hex J hn f.1 (J.wW f.2.1 f.2.2.1) (eB (f.2.2.2.1.elim (fun z=>by rw[hex]at z;cases z) id)) hst hfr hcx) hW ?_;intro s' H' acc its D C m J2 X4 va hlen fD fC hDC hn z;obtain⟨nD,gD⟩:=X4;have J3:Inv X pins σ (upd H' D (.lst acc)) s':=J2.adopt fD ⟨hlen,its,nD,va,gD⟩;show wpAny _ _ (assign (.Name y py) X.env (.ref D)) _ _ s';refine wpAny_assign_Name (uQ J3 hN hi' hy (show RelV (.ref D) (.ref D) from rfl) (fun s4 J4 ⟨a,sa,ha⟩=>?_) hfn)
 have hCa:C≠a:=by
  rcases ha with q | q
  .rw[q];exact fC.2.1
  .exact (fC.2.2.2.2.1 y a q).symm
 refine⟨m,hn.sameBut sa hCa,fun _ sb=>?_⟩;exact⟨_,_,J4.turned (t':=s4.toks) (fun b _ hb e=>(sb.2 b hb).trans e) (by rw[zQ (bt hDC)];exact fC.1) fC.2.1 fC.2.2.2.1 fC.2.2.2.2.1 fC.2.2.2.2.2,z D fD.1⟩
section
variable{M:Model}{A:ai}{E:ax->ae->Prop}{s:ae}{base:Heap}{env:Env}{outer:ay Env}{L e:av}{cls a0 fl:ax}{dd:aE av}{Q:Unit->ae->Prop}
theorem Td(hfr:A.frames=some (env::outer))(hf:env.frame=some L)(hkb:base.StaysIn s.heap)(hb:base.get? e=none)(hl:s.heap.FunFrames base (env::outer))(ht:s.heap.TracedAtW base e cls a0 fl)(x:DictAt s.heap e dd)
  (hQ:∀ h',Heap.HeldW base (env::outer) e cls a0 L h'->s.heap.UpToSlots h'->DictAt h' e dd->Q () { s with heap:=h' }):wpAny M A (noteFrame (.ref e) env) Q E s:=by
 by_cases hfl:fl=rawInt L
 .subst hfl;exact wpAny_noteFrame_againW hf ht (hQ s.heap ⟨hkb,hb,hl,ht⟩ (Heap.UpToSlots.refl _) x)
 .obtain⟨oe,vs,T,_,ts,he,⟨hc,h0⟩,hd,h1,hnT,hTe,hT,hdT,h3⟩:=ht;subst hc;unfold noteFrame;simp only[hf];refine aS (wpAny_field he hd h1 ?_);rw[if_pos (show (Value.ref T != Value.none)=true by simp)];refine aS (wpAny_field hT hdT h3 ?_);rw[if_neg (show ¬ ((fl==rawInt L)=true) by simpa using hfl)];refine aS (wpAny_setField hT hdT (dQ.mp h3).1 ?_);have other:∀ b,b≠T->(s.heap.update T (Obj.mapFields (·.setIfInBounds 3 Value.none))).get? b=s.heap.get? b:=fun b z=>cf _ _ (bt z)
  have HS:∀ b o,s.heap.get? b=some o->(∀ vs,o.data≠.fields vs)->b≠T:=fun b o z1 z2 z=>by
   subst z;rw[hT]at z1
   cases z1
   exact z2 ts hdT
  have hl1:(s.heap.update T (Obj.mapFields (·.setIfInBounds 3 Value.none))).FunFrames base (env::outer):=hl.of_keeps fun b o z1 z2=>⟨o,(other b (HS b o z1 z2)).trans z1,rfl⟩;have O2:=(other e (bt hTe)).trans he;have hsz:=(dQ.mp h1).1
  refine bX (dW (wpAny_entryW (s:={ s with heap:=s.heap.update T (Obj.mapFields (·.setIfInBounds 3 Value.none)) }) (Q:=fun _ s'=>∃ h',s' = { s with heap:=h' }/\Heap.NotedW base (env::outer) e oe.cls a0 (rawInt L) (s.heap.update T (Obj.mapFields (·.setIfInBounds 3 Value.none))) h') hfr hl1 hf O2
   (fun b o z=>(other b fun q=>by rw[q,hnT]at z;cases z).trans (hkb b o z)) hb hd hsz h0 fun h' k=>⟨h',rfl,k⟩)
   (mO (s:={ s with heap:=s.heap.update T (Obj.mapFields (·.setIfInBounds 3 Value.none)) }) (Q:=fun _ s'=>DictAt s'.heap e dd) hfr hl1 hf O2 hd hsz (x.upd hT hdT) fun _ _ _ _ z _ _ _ _=>z))
   (fun _ _ ⟨⟨h',y,k1,k2,k3,k4⟩,k5⟩=>by subst y;exact hQ h' ⟨k1,hb,k2,k3⟩ (fun b o z1 z2=>k4 b o ((other b (HS b o z1 z2)).trans z1) z2) k5) fun _ _ y=>y
end
def Vg(X:Cx)(E:XK)(e:ax)(s':ae):Prop:=∃ ea cls a0 fl dd H' B,e = .ref ea/\X.A.frames=some X.stack/\(∀ b∈frs X.outer,X.H₀ b=none/\∃ ob,X.s₀.heap.get? b=some ob/\∀ vs,ob.data≠.fields vs)/\s'.os=X.s₀.os/\AllBare s'.gens ∧
 B.StaysIn s'.heap/\B.get? ea=none/\s'.heap.FunFrames B X.stack/\s'.heap.TracedAtW B ea cls a0 fl/\jO X.prog X.w H' s'.heap/\Un (frs X.outer) [] X.H₀ H' X.s₀.heap s'.heap/\(∀ b,(H' b).isSome=true->∃ o,s'.heap.get? b=some o/\B.get? b=some o) ∧
 (∀ b o,X.s₀.heap.get? b=some o->b∉frs X.outer->∃ o',s'.heap.get? b=some o'/\B.get? b=some o')/\DictAt s'.heap ea dd/\E cls dd H'
section
variable{X:Cx}{E:XK}
theorem Es(hst:X.stack=X.env::X.outer)(hfr:X.env.frame=some X.env.locals):PassesOwn (model X.prog X.w) X.A X.env (Vg X E):=by
 rintro e s' ⟨ea,cls,a0,_,dd,H',B,rfl,hA,hO,ho,hg,st,hb,hl,ht,hok,un,hB,hC,hdd,hq⟩;have hA':=hA;rw[hst]at hA' hl;refine Td hA' hfr st hb hl ht hdd fun h' held sl dk=>?_;obtain⟨k1,_,k3,oe,vs,T,oT,ts,he,hcl,hd,h1,hnT,hTe,hT,hdT,h3⟩:=held;have sz3:=(dQ.mp h3).1;refine aS (wpAny_field he hd h1 ?_);rw[if_neg (show ¬ ((Value.ref T==Value.none)=true) by simp)];show wpAny _ _ (setFlight (.ref ea) X.env.frame) _ _ _;unfold setFlight;refine aS (wpAny_field he hd h1 ?_);rw[if_pos (show (Value.ref T != Value.none)=true by simp)];refine wpAny_setField hT hdT sz3 ?_;generalize hfv:(X.env.frame.elim Value.none fun f=>rawInt f)=fv;generalize hh6:h'.update T (Obj.mapFields (·.setIfInBounds 3 fv))=h6
 have o6:∀ b,b≠T->h6.get? b=h'.get? b:=fun b z=>by rw[<-hh6];exact cf _ _ (bt z)
 have T6:h6.get? T=some (oT.mapFields (·.setIfInBounds 3 fv)):=by rw[<-hh6];exact ck _ hT (Obj.isFreed_of_fields (Obj.data_mapFields hdT _))
 have noT:∀ b o,h'.get? b=some o->(∀ vs,o.data≠.fields vs)->b≠T:=fun b o z1 z2 z=>by
  subst z;rw[hT]at z1
  cases z1
  exact z2 ts hdT
 have JL:B.StaysIn h6:=fun b o z=>(o6 b (fun y=>by rw[y,hnT]at z;cases z)).trans (k1 b o z)
 have sl6:s'.heap.UpToSlots h6:=fun b o z1 z2=>by
  obtain⟨sl1,y⟩:=sl b o z1 z2;exact⟨sl1,(o6 b (noT b _ y z2)).trans y⟩
 refine⟨ea,cls,a0,fv,dd,H',B,rfl,hA,hO,ho,hg,JL,hb,?_,⟨oe,vs,T,_,_,(o6 ea (Ne.symm hTe)).trans he,hcl,hd,h1,hnT,hTe,T6,Obj.data_mapFields hdT _,by simp [sz3]⟩,hok.flown hB JL,un.flown hC JL sl6 hO,fun b z=>?_,fun b o z1 z2=>?_,?_,hq⟩
 .rw[hst];exact k3.of_keeps fun b o z1 z2=>⟨o,(o6 b (noT b o z1 z2)).trans z1,rfl⟩
 .obtain⟨o,_,y⟩:=hB b z;exact⟨o,JL b o y,y⟩
 .obtain⟨o',_,y⟩:=hC b o z1 z2;exact⟨o',JL b _ y,y⟩
 .obtain⟨o1,y1,y2⟩:=dk;have:h'.get? ea=some o1:=y1;rw[he]at this
  cases this
  exact⟨_,(o6 ea (bt hTe)).trans he,y2⟩
theorem qAA(hE:∀ c d H,E' c d H->E c d H)(hex:X.ex=[]:=by rfl)(hst:X.stack=X.env::X.outer:=by rfl)(hfr:X.env.frame=some X.env.locals:=by rfl):Passes (qK X.prog X.w) (X.wish (Vg X E)) E':=by
 intro pins σ H1 s1 e s' I h;obtain⟨ea,cls,a0,H',B,rfl,ho,hg,fl,hok,un,hB,hC,dd,hdd,hq⟩:=h;have I0:Inv X pins σ H1 s1:=I.gP;have J:=I0.call' ho un hok hg (fun _ z=>nomatch z)
 have ub:Un (frs X.outer) [] X.H₀ H' X.s₀.heap s'.heap:=by
  have:=J.base;rw[hex]at this;exact this
 obtain⟨f1,f2,f3,f4⟩:=fl;refine⟨ea,cls,a0,.none,dd,H',B,rfl,I0.ok.frames,I0.qu,ho.trans I0.os,hg,f1,f2,f3,f4.at,hok,ub,hB,fun b o z1 z2=>?_,hdd,hE _ _ _ hq⟩;obtain⟨o1,y1⟩:=I0.base.there b o z1 (by rw[hex];simp);refine hC b o1 y1 fun y=>?_;rw[show (X.wish (Vg X E)).stack=X.env::X.outer from hst,iI hfr]at y;rcases bL.mp y with k | k
 .exact lO (zm (iU z1) I0.ok.above) k
 .exact z2 k
theorem qA9(hE:∀ c d H,E' c d H->E c d H):uD (X.wish (Vg X E)) E':=by intro pins σ H1 s1 ea cls a0 fl dd H' B _ I ho hg st hb hl ht hok un hB hC hdd hq;have I0:Inv X pins σ H1 s1:=I.gP;exact⟨ea,cls,a0,fl,dd,H',B,rfl,I0.ok.frames,I0.qu,ho,hg,st,hb,hl,ht,hok,un,hB,hC,hdd,hE _ _ _ hq⟩
theorem S6{st:Stmt}{t:TS}(hp:uD X E)(h:PS (X.wish (Vg X E)) st t):PS X st t:=fun pins s σ H D I hw=>
 bX (h pins s σ H D (I.wish _) hw) (fun _ _ q=>q.gP) fun e s' ⟨ea,cls,a0,fl,dd,H',B,z,_,_,k1,k2,k3,k4,k5,k6,k7,k8,k9,k10,k11,k12⟩=>by
  subst z;exact hp pins σ H s ea cls a0 fl dd H' B s' I k1 k2 k3 k4 k5 k6 k7 k8 k9 k10 k11 k12
end
end L2
namespace Wy
def gO(a:Nat)(p:ay Nat):Nat:=p.foldl (fun c x=>8*c+(x+1)) a
def code(p:ay Nat):Nat:=gO 0 p
theorem dN(a x:Nat)(p:ay Nat):gO a (x::p)=gO (8*a+(x+1)) p:=rfl
theorem qG(a:Nat)(p q:ay Nat):gO a (p++q)=gO (gO a p) q:=by unfold gO;rw[fe]
theorem fG(p:ay Nat)(x:Nat):code (p++[x])=8*code p+(x+1):=qG 0 p [x]
theorem yx:∀ s t a b,a<b->s.length=t.length->(∀ x∈s,x<8)->gO a s<gO b t
 | [],[],a,b,h,_,_=>h
 | [],_::_,_,_,_,h,_=>by simp at h
 | _::_,[],_,_,_,h,_=>by simp at h
 | x::s,y::t,a,b,h,hl,hs=>by
  rw[dN,dN];have hx:=hs x wO;exact yx s t _ _ (by lia) (by simpa using hl) fun z hz=>hs z (List.mem_cons_of_mem _ hz)
theorem Ce:∀ s t a b,s.length=t.length->(∀ x∈s,x<8)->(∀ x∈t,x<8)->gO a s=gO b t->a=b/\s=t
 | [],[],a,b,_,_,_,h=>⟨h,rfl⟩
 | [],_::_,_,_,h,_,_,_=>by simp at h
 | _::_,[],_,_,h,_,_,_=>by simp at h
 | x::s,y::t,a,b,hl,hs,ht,h=>by
  rw[dN,dN]at h;obtain⟨_,h2⟩:=Ce s t _ _ (by simpa using hl) (fun z hz=>hs z (List.mem_cons_of_mem _ hz)) (fun z hz=>ht z (List.mem_cons_of_mem _ hz)) h;have hx:=hs x wO;have hy:=ht y wO
  have e:x=y:=by lia
  subst e h2;exact⟨by lia,rfl⟩
theorem VH(p:ay Nat):∀ a:Nat,a<=gO a p:=by
 induction p with
 | nil=>exact fun a=>bN _
 | cons x p ih=>
  intro a;have:=ih (8*a+(x+1));rw[dN];lia
theorem tZ(h:p.length<q.length)(hp:∀ x∈p,x<8):code p<code q:=by
 have e:q=q.take (q.length-p.length)++q.drop (q.length-p.length):=(gE _ _).symm
 have l1:(q.take (q.length-p.length)).length=q.length-p.length:=by
  rw[iW];lia
 have l2:(q.drop (q.length-p.length)).length=p.length:=by
  rw[fh];lia
 generalize q.take (q.length-p.length)=u at e l1;generalize q.drop (q.length-p.length)=v at e l2;rw[e];show gO 0 p<gO 0 (u++v);rw[qG];refine yx p v 0 _ ?_ l2.symm hp
 cases u with
 | nil=>
  simp at l1;lia
 | cons x u=>
  have:=VH u (8*0+(x+1));rw[dN];lia
theorem code_inj(hp:∀ x∈p,x<8)(hq:∀ x∈q,x<8)(h:code p=code q):p=q:=by
 by_cases l:p.length=q.length
 .exact (Ce p q 0 0 l hp hq h).2
 .by_cases l2:p.length<q.length
  .have:=tZ l2 hp;lia
  .have:=tZ (show q.length<p.length by lia) hq;lia
def goal(tb:ay (ay Nat))(k x:Nat):Nat:=(tb.getD k []).getD x 0
def Ht(tb:ay (ay Nat))(k:Nat)(p:ay Nat):Nat:=p.foldl (fun r x=>goal tb r x) k
def lead(tb:ay (ay Nat))(p:ay Nat):Nat:=Ht tb 0 p
theorem Q5(tb:ay (ay Nat))(p:ay Nat)(x:Nat):lead tb (p++[x])=goal tb (lead tb p) x:=by unfold lead Ht;rw[fe];rfl
structure Vd(tb:List (List Nat))(n e:Nat):Prop where
 len:tb.length=n
 pos:1<=n
 row:∀ k,k<n->(tb.getD k []).length=e
 to:∀ k x,k<n->x<e->goal tb k x<n
structure gG(tb:List (List Nat))(n e:Nat)(ws:List (Option (List Nat))):Prop where
 len:ws.length=n
 zero:ws[0]? = some (some [])
 lead:∀ k p,ws[k]? = some (some p)->lead tb p=k/\∀ x∈p,x<e
 short:∀(k:Nat)(p:List Nat),ws[k]? = some (some p)->p.length<=n
 clo:∀(k:Nat)(p:List Nat),ws[k]? = some (some p)->∀ x,x<e->∃ p',ws[goal tb k x]? = some (some p')/\code p'<=8*code p+(x+1)
theorem gG.reach(W:gG tb n e ws):∀(p:ay Nat)(k c:Nat)(p1:ay Nat),(∀ x∈p,x<e)->ws[k]? = some (some p1)->code p1<=c->∃ p',ws[Ht tb k p]? = some (some p')/\code p'<=gO c p
 | [],k,c,p1,_,h,hc=>⟨p1,h,hc⟩
 | x::p,k,c,p1,hp,h,hc=>by
  obtain⟨p2,h2,_⟩:=W.clo k p1 h x (hp x wO);exact W.reach p (goal tb k x) (8*c+(x+1)) p2 (fun z hz=>hp z (Fj _ hz)) h2 (by lia)
theorem gG.least(W:gG tb n e ws)(hp:∀ x∈p,x<e)(h:Wy.lead tb p=k):∃ p',ws[k]? = some (some p')/\code p'<=code p:=by subst h;exact W.reach p 0 0 [] hp W.zero (bN _)
theorem gG.unique(he:e<=8)(W:gG tb n e ws)(U:gG tb n e vs):ws=vs:=by
 have one:∀ {ws vs:ay (aE (ay Nat))},gG tb n e ws->gG tb n e vs->∀(k:Nat)(p:ay Nat),ws[k]? = some (some p)->vs[k]? = some (some p):=fun {ws vs} W U k p h=>by
  obtain⟨h1,h2⟩:=W.lead k p h;obtain⟨p2,h3,_⟩:=U.least h2 h1;obtain⟨h5,h6⟩:=U.lead k p2 h3;obtain⟨_,h7,_⟩:=W.least h6 h5;rw[h]at h7
  cases h7
  rw[h3,code_inj (fun x hx=>zm (h6 x hx) he) (fun x hx=>zm (h2 x hx) he) (show code p2=code p by lia)]
 apply List.ext_getElem?;intro k;have lw:=W.len;have lu:=U.len
 by_cases hk:k<n
 .have e1:ws[k]? = some ws[k]:=gM (by lia);have e2:vs[k]? = some vs[k]:=gM (by lia)
  cases z1:ws[k] with
  | some p=>
   rw[z1]at e1;rw[e1,one W U k p e1]
  | none=>
   cases z2:vs[k] with
   | none=>rw[e1,e2,z1,z2]
   | some p=>
    rw[z2]at e2;have:=one U W k p e2;rw[e1,z1]at this
    cases this
 .rw[fg (by lia),fg (by lia)]
noncomputable def lk(pm:ay (Nat×ay Nat))(k:Nat):aE (ay Nat):=(pm.find? fun kp=>kp.1==k).map (·.2)
theorem pY(kp:Nat×ay Nat)(pm:ay (Nat×ay Nat))(k:Nat):lk (kp::pm) k=if kp.1=k then some kp.2 else lk pm k:=by
 unfold lk;rw[f7]
 by_cases h:kp.1=k
 .rw[cE h,show (kp.1==k)=true from beq_iff_eq.mpr h];rfl
 .rw[cy h,show (kp.1==k)=false from dy.mpr h]
theorem xr:∀ {pm:ay (Nat×ay Nat)},lk pm k=some p->(k,p)∈pm
 | [],h=>by cases h
 | kp::pm,h=>by
  rw[pY]at h
  by_cases e:kp.1=k
  .rw[cE e]at h
   cases h
   subst e;exact wO
  .rw[cy e]at h;exact Fj _ (xr h)
theorem Nk:∀ {pm:ay (Nat×ay Nat)},(pm.map (·.1)).Nodup->(k,p)∈pm->lk pm k=some p
 | [],_,h=>by cases h
 | kp::pm,nd,h=>by
  rw[pY];rw[br,List.nodup_cons]at nd;rcases bL.mp h with e | h
  .subst e;rw[cE rfl]
  .by_cases e:kp.1=k
   .exfalso;exact nd.1 (dU.mpr ⟨_,h,e.symm⟩)
   .rw[cy e];exact Nk nd.2 h
theorem Eg:∀ {pm:ay (Nat×ay Nat)},lk pm k=none->k∉pm.map (·.1)
 | [],_=>by simp
 | kp::pm,h=>by
  rw[pY]at h
  by_cases e:kp.1=k
  .rw[cE e]at h
   cases h
  .rw[cy e]at h;rw[br,bL];rintro (z | z)
   .exact e z.symm
   .exact Eg h z
theorem Tz(kp:Nat×ay Nat):∀ {pm:ay (Nat×ay Nat)},lk pm k=some p->lk (pm++[kp]) k=some p
 | [],h=>by cases h
 | x::pm,h=>by
  rw[pY]at h;rw[List.cons_append,pY]
  by_cases e:x.1=k
  .rw[cE e]at h ⊢;exact h
  .rw[cy e]at h ⊢;exact Tz kp h
theorem fj:∀(n:Nat)(l:ay Nat),l.Nodup->(∀ x∈l,x<n)->l.length<=n
 | 0,[],_,_=>bN _
 | 0,x::l,_,h=>dP (h x wO) (Nat.not_lt_zero _)
 | n+1,l,nd,h=>by
  have h1:=fj n (l.erase n) (nd.erase n) fun x hx=>by
   have h2:=(nd.mem_erase_iff).mp hx;have h3:=h x h2.2;lia
  have h4:=List.length_erase (a:=n) (l:=l)
  split at h4 <;> lia
structure Bf(tb:List (List Nat))(n e:Nat)(pm:List (Nat×List Nat))(i x:Nat):Prop where
 head:pm[0]? = some (0,[])
 nodup:(pm.map (·.1)).Nodup
 JP:∀ kp∈pm,kp.1<n/\lead tb kp.2=kp.1/\∀ y∈kp.2,y<e
 uT:pm.Pairwise fun a b=>code a.2<code b.2
 len:∀ j (kp:Nat×List Nat),pm[j]? = some kp->kp.2.length<=j
 clo:∀(j:Nat)(kp:Nat×List Nat),pm[j]? = some kp->∀ y,y<e->(j<i∨(j=i/\y<x))->∃ p',lk pm (goal tb kp.1 y)=some p'/\code p'<=8*code kp.2+(y+1)
 bnd:∀ c:Nat×List Nat,pm[i]? = some c->∀ kp∈pm,code kp.2<=8*code c.2+x
theorem Bf.init(T:Vd tb n e):Bf tb n e [(0,[])] 0 0 where
 head:=rfl
 nodup:=by simp
 JP:=fun kp h=>by
  rw[bJ.mp h];exact⟨T.pos,rfl,fun y hy=>by cases hy⟩
 uT:=fT _ _
 len:=fun j kp h=>by
  cases j with
  | zero=>
   cases h
   exact bN _
  | succ j=>simp at h
 clo:=fun j kp h y _ z=>by lia
 bnd:=fun c h kp hk=>by
  rw[bJ.mp hk];exact bg _
theorem Bf.size(B:Bf tb n e pm i x):pm.length<=n:=by
 have:=fj n (pm.map (·.1)) B.nodup fun k hk=>by
  obtain⟨kp,h,rfl⟩:=dU.mp hk;exact (B.JP kp h).1
 rwa [bh]at this
theorem Bf.hit(B:Bf tb n e pm i x)(hc:pm[i]? = some c)(h:lk pm (goal tb c.1 x)=some p):Bf tb n e pm i (x+1) where
 head:=B.head
 nodup:=B.nodup
 JP:=B.JP
 uT:=B.uT
 len:=B.len
 clo:=fun j kp hj y hy z=>by
  by_cases w:j=i/\y=x
  .obtain⟨rfl,rfl⟩:=w;rw[hc]at hj
   cases hj
   refine⟨p,h,?_⟩;have:=B.bnd c hc _ (xr h);show code p<=_;have this:code p<=8*code c.2+y:=this;lia
  .exact B.clo j kp hj y hy (by lia)
 bnd:=fun c hc kp hk=>by
  have:=B.bnd c hc kp hk;lia
theorem Bf.new(T:Vd tb n e)(B:Bf tb n e pm i x)(hc:pm[i]? = some c)(hx:x<e)(h:lk pm (goal tb c.1 x)=none):Bf tb n e (pm++[(goal tb c.1 x,c.2++[x])]) i (x+1) where
 head:=by
  rw[vY (fO.mp B.head).1];exact B.head
 nodup:=by
  rw[iz];refine List.nodup_append.mpr ⟨B.nodup,by simp,fun a ha b hb=>?_⟩;rw[br,fq,bJ]at hb;subst hb;intro z;subst z;exact Eg h ha
 JP:=fun kp hk=>by
  rcases cH.mp hk with hk | hk
  .exact B.JP kp hk
  .rw[bJ.mp hk];have hm:=zp hc;obtain⟨h1,h2,h3⟩:=B.JP c hm;refine⟨T.to _ _ h1 hx,?_,fun y hy=>?_⟩
   .rw[Q5,h2]
   .rcases cH.mp hy with hy | hy
    .exact h3 y hy
    .rw[bJ.mp hy];exact hx
 uT:=by
  refine List.pairwise_append.mpr ⟨B.uT,fT _ _,fun a ha b hb=>?_⟩;rw[bJ.mp hb];have:=B.bnd c hc a ha;show code a.2<code (c.2++[x]);rw[fG];lia
 len:=fun j kp hj=>by
  by_cases w:j<pm.length
  .rw[vY w]at hj;exact B.len j kp hj
  .have hi:=(fO.mp hc).1;have l1:=B.len i c hc;rw[R0 (by lia)]at hj;have hj':=(fO.mp hj).1
   have ej:j-pm.length=0:=by simpa using hj'
   rw[ej]at hj
   cases hj
   show (c.2++[x]).length<=j;rw[dj,gK];lia
 clo:=fun j kp hj y hy z=>by
  have hi:=(fO.mp hc).1
  have hj2:j<pm.length:=by lia
  rw[vY hj2]at hj
  by_cases w:j=i/\y=x
  .obtain⟨rfl,rfl⟩:=w;rw[hc]at hj
   cases hj
   refine⟨c.2++[y],?_,by rw[fG];exact bN _⟩
   have nd:((pm++[(goal tb c.1 y,c.2++[y])]).map (·.1)).Nodup:=by
    rw[iz];refine List.nodup_append.mpr ⟨B.nodup,by simp,fun a ha b hb=>?_⟩;rw[br,fq,bJ]at hb;subst hb;intro z;subst z;exact Eg h ha
   exact Nk nd (fw _ (bJ.mpr rfl))
  .obtain⟨p',h1,h2⟩:=B.clo j kp hj y hy (by lia);exact⟨p',Tz _ h1,h2⟩
 bnd:=fun _ hc' kp hk=>by
  have hi:=(fO.mp hc).1;rw[vY hi,hc]at hc'
  cases hc'
  rcases cH.mp hk with hk | hk
  .have:=B.bnd c hc kp hk;lia
  .rw[bJ.mp hk];show code (c.2++[x])<=_;rw[fG];lia
theorem Bf.next(B:Bf tb n e pm i e)(he:e<=8)(hc:pm[i]? = some c):Bf tb n e pm (i+1) 0 where
 head:=B.head
 nodup:=B.nodup
 JP:=B.JP
 uT:=B.uT
 len:=B.len
 clo:=fun j kp hj y hy z=>B.clo j kp hj y hy (by lia)
 bnd:=fun _ hc' kp hk=>by
  have h1:=B.bnd c hc kp hk;obtain⟨hi,e1⟩:=fO.mp hc;obtain⟨hi',e2⟩:=fO.mp hc';have h2:=fS.mp B.uT i (i+1) hi hi' (ic _);rw[e1,e2]at h2;lia
theorem Bf.done(T:Vd tb n e)(B:Bf tb n e pm i 0)(hi:pm.length<=i):gG tb n e ((List.range n).map (lk pm)):=by
 have at':∀ k p,((List.range n).map (lk pm))[k]? = some (some p)↔k<n/\lk pm k=some p:=fun k p=>by
  rw[dD]
  by_cases hk:k<n
  .rw[Oq hk];simp [hk]
  .rw[List.getElem?_eq_none (by simpa using hk)];simp [hk]
 refine⟨by simp,(at' 0 []).mpr ⟨T.pos,?_⟩,fun k p h=>?_,fun k p h=>?_,fun k p h y hy=>?_⟩
 .exact Nk B.nodup (zp B.head)
 .obtain⟨h1,h2⟩:=(at' k p).mp h;exact (B.JP _ (xr h2)).2
 .obtain⟨h1,h2⟩:=(at' k p).mp h;obtain⟨j,hj⟩:=List.getElem?_of_mem (xr h2);have:=B.len j _ hj;have h3:=(fO.mp hj).1;have h4:=B.size;show p.length<=n;have this:p.length<=j:=this;lia
 .obtain⟨h1,h2⟩:=(at' k p).mp h;obtain⟨j,hj⟩:=List.getElem?_of_mem (xr h2);have h3:=(fO.mp hj).1;obtain⟨p',h4,h5⟩:=B.clo j _ hj y hy (.inl (by lia));exact⟨p',(at' _ _).mpr ⟨T.to k y h1 hy,h4⟩,h5⟩
end Wy
namespace qH
open PySem L2
inductive Dh(K:cL)(vs:List V)(H:Hp)(Q:VK)(E_:XK):Prop
 | mk (a:Addr) (ns:List Int) (k:Int) (_:vs=[.ref a,.int k]) (_:aV K H a (ns.map V.int)) (_:ns.length<=63) (_:∀ v:Int,Q (.int v) H)
inductive lQ(K:cL)(vs:List V)(H:Hp)(Q:VK)(E_:XK):Prop
 | mk (a:Addr) (ns:List Int) (k salt:Int) (_:vs=[.ref a,.int k,.int salt]) (_:aV K H a (ns.map V.int)) (_:ns.length<=63) (_:(0<=k/\k<=1000000)) (_:(0<=salt/\salt<=1000)) (_:∀ r:Int,0<=r->r<2147483648->Q (.int r) H)
theorem scC:aH ["_law_script","_law_k"] ["_law_script","_law_k"] (aC Mq):=fJ
theorem Xl(F:dC K "_law_cell_at" "_law_cell_at" Mq f fd)(ml:mg "len" = none):aO P w K mg base aa 1 f fd ["_law_script","_law_k"] (Dh K):=by
 refine F.ok scC ?_ ?_
 .rintro _ _ _ _⟨a,ns,k,rfl,_⟩;rfl
 intro _ A _ s H _ Q E _ h
 ext a;obtain⟨a,ns,k,rfl,hS,_,q⟩:=h;ext b
 refine⟨_,zE (yD (zL yG (zS zN rfl ml bU (zA (pv 0) zD)) zB (zR _)) (zG (zO zB)) zT)
  (zG (zO (yB yU (pv 0) (yC zY (pv 1) (zS zN rfl ml bU (zA (pv 0) zD))) (fun _ _=>rfl)))),?_⟩
 have hl:(ns.map V.int).length=ns.length:=bh _;refine⟨_,rfl,a,_,rfl,.inl hS,rfl,_,rfl,?_⟩;refine oY (fun c=>?_) (fun c=>?_)
 .exact q 0
 .have c':¬ V.int (((ns.map V.int).length:Nat):Int)=V.int 0:=bE (e7.mpr c)
  have hp:(0:Int)<(((ns.map V.int).length:Nat):Int):=by
   rw[hl]at c' ⊢;have:ns.length≠0:=fun z=>c' (by rw[z];rfl);lia
  obtain⟨v,hv⟩:=Oi (ns:=ns) (i:=k%(((ns.map V.int).length:Nat):Int)) (qe _ (by lia)) (by have:=rM k hp;rw[hl]at this ⊢;exact this);exact⟨_,rfl,_,rfl,_,rfl,a,_,rfl,.inl hS,_,_,rfl,rfl,hp,a,_,_,_,rfl,rfl,hS,hv,q v⟩
theorem scM:aH ["_law_script","_law_k","_law_salt","_law_cell","_law_lap",qCU] ["_law_script","_law_k","_law_salt"] (aC Du):=fJ
theorem tH(h0:0<=i)(h1:i<18446744073709551616):Yj i j:=.inl ⟨by lia,by lia⟩
theorem T7(F:dC K "_law_mixed" "_law_mixed" Du f fd)(G:aO P w K mg base aa 1 g gd ["_law_script","_law_k"] (Dh K))(bG:Binds K gd ["_law_script","_law_k"] [])(kG:KI K g)(mG:mg "_law_cell_at" = some (.ref g))
  (ml:mg "len" = none) (mm:mg "max" = none):aO P w K mg base aa 2 f fd ["_law_script","_law_k","_law_salt"] (lQ K):=by
 refine F.ok scM ?_ ?_
 .rintro _ _ _ _⟨a,ns,k,salt,rfl,_⟩;rfl
 ext d
 ext a;obtain⟨a,ns,k,salt,rfl,hS,h63,hk,_,q⟩:=h;ext b
 refine⟨_,zE (zK (i:=3) scM.nd rfl (bb rfl) (zJ G hr rfl mG kG bG .nil yE (zA (pv 0) (zA (pv 1) zD))))
  (zE (zK (i:=4) scM.nd rfl (bb rfl) (yC yL (pv 1) (zS (QZ rfl) rfl mm PyProof.Rows.boot_max (zA zB (zA (zS zN rfl ml bU (zA (pv 0) zD)) zD)))))
  (zE (zK (i:=5) scM.nd rfl (bb rfl) (yC yF (yC yF (yC yF (yC Sw (pv 3) zB) (yC gU (yC gU zB (pv 1)) (pv 1))) (yC gU (yC gU zB (pv 2)) (pv 2))) zB))
  (zE (zK (i:=5) scM.nd rfl (bb rfl) (yC zY (yC gU (pv 5) zB) zB))
  (zE (zK (i:=5) scM.nd rfl (bb rfl) (yC zY (yC gU (pv 5) (pv 5)) zB))
  (zG (zO (yC Sw (yC yF (yC qAB (pv 3) (yC gU zB (yC yF (pv 2) (yC gU zB (pv 4))))) (pv 5)) zB))))))),?_⟩
 have hl:(ns.map V.int).length=ns.length:=bh _;refine⟨_,rfl,_,rfl,a,ns,k,rfl,hS,h63,fun v=>?_⟩;refine⟨_,rfl,_,rfl,a,_,rfl,.inl hS,_,_,rfl,bB ?_⟩
 have hM:0<(if (((ns.map V.int).length:Nat):Int)>1 then (((ns.map V.int).length:Nat):Int) else 1)/\(if (((ns.map V.int).length:Nat):Int)>1 then (((ns.map V.int).length:Nat):Int) else 1)<1073741824:=by
  rw[hl]
  split <;> lia
 refine⟨hM,?_⟩;have qIL:=Int.ediv_nonneg hk.1 (Int.le_of_lt hM.1);refine⟨_,rfl,bB ⟨_,rfl,bB ⟨tH (by decide) (by decide),_,rfl,bB ⟨tH (by lia) (by lia),_,_,rfl,rfl,_,rfl,bB ⟨tH (by decide) (by decide),_,rfl,bB ⟨tH (by lia) (by lia),_,_,rfl,rfl,bB ?_⟩⟩⟩⟩⟩⟩;refine⟨_,rfl,bB ⟨.inr (by ext w),_,_,rfl,rfl,(by show (0:Int)<2147483647;decide),?_⟩⟩;have b1:=qe ((Builtin.bitAnd v 2147483647+1009*k*k+7919*salt*salt+12)*48271) (show (2147483647:Int)≠0 by decide);have b2:=rM ((Builtin.bitAnd v 2147483647+1009*k*k+7919*salt*salt+12)*48271) (show (0:Int)<2147483647 by decide);refine⟨_,rfl,_,rfl,bB ⟨tH b1 (Int.lt_trans b2 (by decide)),_,_,rfl,rfl,(by show (0:Int)<2147483629;decide),?_⟩⟩;refine⟨_,rfl,_,rfl,_,rfl,bB ⟨tH (by decide) (by decide),_,_,rfl,rfl,bB ⟨tH (by decide) (by decide),_,_,rfl,rfl,?_,_,rfl,bB (bB ?_)⟩⟩⟩
 .have nn:∀ lap:Int,0<=lap->0<=31*(salt+128*lap):=fun lap h=>by lia
  exact nn _ qIL
 .exact q _ (Z4 _).1 (Z4 _).2
def M5:Sp:=fun vs H Q _ => ∃ n:Int,vs=[.int n]/\Q (.bl true) H
theorem Dl:aH ["_law_found"] ["_law_found"] (aC Dr):=fJ
theorem Sx(F:dC K "_law_whole" "_law_whole" Dr f fd)(cV:mg "isinstance" = none)(Tq:mg "int" = none)(qAQ:mg "bool" = none):aO P w K mg base aa 1 f fd ["_law_found"] M5:=by
 refine F.ok Dl ?_ ?_
 .rintro _ _ _ _⟨n,rfl,_⟩;rfl
 intro _ A _ s H _ Q E _ h
 ext a;obtain⟨n,rfl,q⟩:=h;ext b;refine⟨_,(zG (zO (Sg (zS iM rfl cV R1 (zA (pv 0) (zA (tD (v:=.ty "int") rfl Tq PyProof.Rows.boot_int rfl) zD))) (K3 (SJ (zS iM rfl cV R1 (zA (pv 0) (zA (tD (v:=.ty "bool") rfl qAQ PyProof.Rows.boot_bool rfl) zD)))))))),?_⟩;refine⟨_,rfl,jV _ ("int") _ true ⟨rfl,.int n,qAU K,_,rfl,zx rfl ?_⟩⟩;exact⟨_,rfl,jV _ ("bool") _ false ⟨rfl,.int n,qAV K,_,rfl,q⟩⟩
end qH
namespace qH
open PySem L2 rF
def pV:aE Nat->V
 | none=>.non
 | some j=>.int (j:Int)
def aB(s:ay Nat):ay V:=s.map fun j:Nat=>V.int (j:Int)
theorem Il(xs:ay V)(h:0<=d):rB xs none (some d)=xs.take d.toNat:=by show (xs.drop 0).take ((if d<0 then (d+(xs.length:Int)).toNat else min d.toNat xs.length)-0)=_;rw[cy (by lia),List.drop_zero,Nat.sub_zero,List.take_eq_take_iff];lia
end qH
namespace qH
open PySem L2 rF Cv
theorem Bu(os:ay Nat):(aB os).all pA=true:=by rw[eJ];intro x hx;obtain⟨n,_,rfl⟩:=dU.mp hx;rfl
theorem Ng{os:ay Nat}{j:Int}(h:inV (.int j) (aB os)=true):∃ o∈os,(o:Int)=j:=by unfold inV aB at h;rw[eM,eL]at h;obtain⟨o,ho,e⟩:=h;exact⟨o,ho,by simpa [W6] using e⟩
theorem HX{os:ay Nat}{i:Int}(h0:0<=i)(h1:i<(os.length:Int)):∃ o∈os,rK (aB os) i=some (.int (o:Int)):=by obtain⟨v,hv,e⟩:=lM (xs:=aB os) (i:=i) h0 (by unfold aB;rw[bh];exact h1);obtain⟨o,ho,rfl⟩:=dU.mp hv;exact⟨o,ho,e⟩
theorem zU(os:ay Nat):(aB os).length=os.length:=bh _
theorem gZ(os:ay Nat)(k:Nat):aB os++[.int (k:Int)]=aB (os++[k]):=by unfold aB;rw[iz];rfl
end qH
namespace jg
open PySem L2 qH rF Cv
theorem iK{os:ay Nat}{f:Nat->Bool}{i o:Nat}(h:os[i]? = some o):(os.take (i+1)).filter f=(os.take i).filter f++(if f o=true then [o] else []):=by
 rw[iV,h,eW];congr 1;show [o].filter f=_;rw[f6]
 split <;> rfl
theorem yR{os:ay Nat}{i:Nat}{x:V}(h:(aB os)[i]? = some x):∃ hi:i<os.length,x = .int ((os[i]:Nat):Int):=by
 have hi:i<os.length:=by
  have:=(fO.mp h).1;rw[zU]at this;exact this
 refine⟨hi,?_⟩;unfold aB at h;rw[dD,gM hi]at h;exact (jX h).symm
end jg
namespace K02
open PySem L2 qH rF
abbrev oE:Stmt:=qH.oE
inductive lR(n:Nat)(vs:List V)(H:Hp)(Q:VK)(E_:XK):Prop
 | mk (vg o b g op bx) (_:vs=[vg,.ref o,.ref b]) (_:jt H vg g) (_:H o=some (.tup (op.map V.int))) (_:H b=some (.tup (bx.map V.int))) (_:g.ok bx.length) (_:g.ht<=n) (_:Q (.bl (g.holds op bx)) H)
theorem GZ:aH ["guard","opening","boxes","kind"] ["guard","opening","boxes"] (aC oE):=fJ
theorem TF(F:dC K "holds" "holds" oE f fd)(mq:Dp P w K mg base aa n f fd ["guard","opening","boxes"] (lR n) "holds") :
  aO P w K mg base aa (n+1) f fd ["guard","opening","boxes"] (lR (n+1)):=by
 refine F.ok GZ ?_ ?_
 .rintro _ _ _ _⟨vg,o,b,g,op,bx,rfl,_⟩;rfl
 ext d
 ext a;obtain⟨vg,o,b,g,op,bx,rfl,hg,ho,hb,hok,hht,q⟩:=h;ext b
 refine⟨_,(zE (zK (i:=3) GZ.nd rfl (bb rfl) (yB zH (pv 0) zB (fun _ _=>rfl)))
  (zE (yD (zL yG (pv 3) zP (zR _))
  (zG (zO kj))
  zT)
  (zE (yD (zL yG (pv 3) zP (zR _))
  (zG (zO (pQ yG (yB zH (pv 2) (yB zH (pv 0) zB (fun _ _=>rfl)) (fun _ _=>rfl)) (yB zH (pv 0) zB (fun _ _=>rfl)) (zR _))))
  zT)
  (zE (yD (zL yG (pv 3) zP (zR _))
  (zG (zO (pQ n6 (yB zH (pv 2) (yB zH (pv 0) zB (fun _ _=>rfl)) (fun _ _=>rfl)) (yB zH (pv 0) zB (fun _ _=>rfl)) (zR _))))
  zT)
  (zE (yD (zL yG (pv 3) zP (zR _))
  (zG (zO (pQ ug (yB zH (pv 0) zB (fun _ _=>rfl)) (pv 1) rfl)))
  zT)
  (zE (yD (zL yG (pv 3) zP (zR _))
  (zG (zO (SJ (pC mq hr (zA (yB zH (pv 0) zB (fun _ _=>rfl)) (zA (pv 1) (zA (pv 2) zD)))))))
  zT)
  (zE (yD (zL yG (pv 3) zP (zR _))
  (zG (zO (Sg (pC mq hr (zA (yB zH (pv 0) zB (fun _ _=>rfl)) (zA (pv 1) (zA (pv 2) zD)))) (K3 (pC mq hr (zA (yB zH (pv 0) zB (fun _ _=>rfl)) (zA (pv 1) (zA (pv 2) zD))))))))
  zT)
  (zG (zO (qD7 (pC mq hr (zA (yB zH (pv 0) zB (fun _ _=>rfl)) (zA (pv 1) (zA (pv 2) zD)))) (K3 (pC mq hr (zA (yB zH (pv 0) zB (fun _ _=>rfl)) (zA (pv 1) (zA (pv 2) zD))))))))))))))),?_⟩
 cases hg with
 | @yes a e=>
  exact⟨_,rfl,aF (aM.of e) rfl ⟨_,rfl,rfl,_,rfl,yO q⟩⟩
 | @is a c m e=>
  refine⟨_,rfl,aF (aM.of e) rfl ⟨_,rfl,rfl,_,rfl,yN (by ext y) ⟨_,rfl,rfl,_,rfl,yO ?_⟩⟩⟩;exact⟨_,rfl,_,rfl,aF (aM.of e) rfl (aF (aM.of hb) (za hok.1 hok.2) ⟨_,rfl,aF (aM.of e) rfl ⟨rfl,q⟩⟩)⟩
 | @under a c m e=>
  refine⟨_,rfl,aF (aM.of e) rfl ⟨_,rfl,rfl,_,rfl,yN (by ext y) ⟨_,rfl,rfl,_,rfl,yN (by ext y) ⟨_,rfl,rfl,_,rfl,yO ?_⟩⟩⟩⟩;exact⟨_,rfl,_,rfl,aF (aM.of e) rfl (aF (aM.of hb) (za hok.1 hok.2) ⟨_,rfl,aF (aM.of e) rfl (bB q)⟩)⟩
 | @inn a r e=>
  refine⟨_,rfl,aF (aM.of e) rfl ⟨_,rfl,rfl,_,rfl,yN (by ext y) ⟨_,rfl,rfl,_,rfl,yN (by ext y) ⟨_,rfl,rfl,_,rfl,yN (by ext y) ⟨_,rfl,rfl,_,rfl,yO ?_⟩⟩⟩⟩⟩;exact⟨_,rfl,aF (aM.of e) rfl ⟨_,rfl,fL rfl (.inr (aM.of ho)) ⟨rfl,uz op,q⟩⟩⟩
 | @neg a v g e hg=>
  have h1:g.ht+1<=n+1:=hht;refine⟨_,rfl,aF (aM.of e) rfl ⟨_,rfl,rfl,_,rfl,yN (by ext y) ⟨_,rfl,rfl,_,rfl,yN (by ext y) ⟨_,rfl,rfl,_,rfl,yN (by ext y) ⟨_,rfl,rfl,_,rfl,yN (by ext y) ⟨_,rfl,rfl,_,rfl,yO ?_⟩⟩⟩⟩⟩⟩;exact⟨_,rfl,aF (aM.of e) rfl ⟨_,rfl,_,rfl,v,o,b,g,op,bx,rfl,hg,ho,hb,hok,by lia,_,rfl,q⟩⟩
 | @both a v u g h e hg hh=>
  have h1:1+max g.ht h.ht<=n+1:=hht;refine⟨_,rfl,aF (aM.of e) rfl ⟨_,rfl,rfl,_,rfl,yN (by ext y) ⟨_,rfl,rfl,_,rfl,yN (by ext y) ⟨_,rfl,rfl,_,rfl,yN (by ext y) ⟨_,rfl,rfl,_,rfl,yN (by ext y) ⟨_,rfl,rfl,_,rfl,yN (by ext y) ⟨_,rfl,rfl,_,rfl,yO ?_⟩⟩⟩⟩⟩⟩⟩;refine⟨_,rfl,aF (aM.of e) rfl ⟨_,rfl,_,rfl,v,o,b,g,op,bx,rfl,hg,ho,hb,hok.1,by lia,_,rfl,?_⟩⟩;have q':Q (.bl (g.holds op bx&&h.holds op bx)) H:=q;refine oY (fun c=>?_) (fun c=>?_)
  .rw[c,eA]at q';exact⟨_,rfl,aF (aM.of e) rfl ⟨_,rfl,_,rfl,u,o,b,h,op,bx,rfl,hh,ho,hb,hok.2,by lia,q'⟩⟩
  .rw[e7.mpr c,eu]at q';exact q'
 | @either a v u g h e hg hh=>
  have h1:1+max g.ht h.ht<=n+1:=hht;refine⟨_,rfl,aF (aM.of e) rfl ⟨_,rfl,rfl,_,rfl,yN (by ext y) ⟨_,rfl,rfl,_,rfl,yN (by ext y) ⟨_,rfl,rfl,_,rfl,yN (by ext y) ⟨_,rfl,rfl,_,rfl,yN (by ext y) ⟨_,rfl,rfl,_,rfl,yN (by ext y) ⟨_,rfl,rfl,_,rfl,yN (by ext y) ?_⟩⟩⟩⟩⟩⟩⟩;refine⟨_,rfl,aF (aM.of e) rfl ⟨_,rfl,_,rfl,v,o,b,g,op,bx,rfl,hg,ho,hb,hok.1,by lia,_,rfl,?_⟩⟩;have q':Q (.bl (g.holds op bx||h.holds op bx)) H:=q;refine oY (fun c=>?_) (fun c=>?_)
  .rw[c,Bool.true_or]at q';exact q'
  .rw[e7.mpr c,Bool.false_or]at q';exact⟨_,rfl,aF (aM.of e) rfl ⟨_,rfl,_,rfl,u,o,b,h,op,bx,rfl,hh,ho,hb,hok.2,by lia,q'⟩⟩
theorem KQ:aO P w K mg base aa 0 f fd ["guard","opening","boxes"] (lR 0):=by
 have no:∀ vs H Q E,¬ lR 0 vs H Q E:=fun vs H Q E h=>by
  ext a;obtain⟨_,o,b,g,_,_,_,_,_,_,_,_,_⟩:=h;ext b;have:=g.qB4;lia
 exact⟨fun vs H Q E h=>dP h (no vs H Q E),fun A _ s H _ _ vs Q E _ _ _ _ h=>dP h (no vs H Q E)⟩
theorem Cr(F:dC K "holds" "holds" oE f fd)(wM:Binds K fd ["guard","opening","boxes"] [])(wG:mg "holds" = some (.ref f)):∀ n:Nat,aO P w K mg base aa n f fd ["guard","opening","boxes"] (lR n)
 | 0=>KQ
 | n+1=>TF F ⟨Cr F wM wG n,wM,F.kp,wG⟩
end K02
namespace Fw
open PySem L2 qH rF
inductive Al{α:Type}(R:V->α->Prop):List V->List α->Prop where
 | nil:Al R [] []
 | cons {v:V} {r:α} {vs:List V} {rs:List α}:R v r->Al R vs rs->Al R (v::vs) (r::rs)
theorem Al.mono(x:Al R vs rs)(k:∀ v r,R v r->R' v r):Al R' vs rs:=by
 induction x with
 | nil=>exact .nil
 | cons h _ ih=>exact .cons (k _ _ h) ih
theorem Al.length(x:Al R vs rs):vs.length=rs.length:=by
 induction x with
 | nil=>rfl
 | cons _ _ ih=>rw[cY,cY,ih]
theorem Al.snoc(x:Al R vs rs)(y:R v r):Al R (vs++[v]) (rs++[r]):=by
 induction x with
 | nil=>exact .cons y .nil
 | cons h _ ih=>exact .cons h ih
theorem Al.get{R:V->α->Prop}{vs:ay V}{rs:ay α}(x:Al R vs rs):∀ {k:Nat} {r:α},rs[k]? = some r->∃ v,vs[k]? = some v/\R v r:=by
 induction x with
 | nil=>intro k r h;simp at h
 | cons h _ ih=>
  intro k r e
  cases k with
  | zero=>
   simp at e;subst e;exact⟨_,rfl,h⟩
  | succ k=>exact ih (by simpa using e)
structure Dg where
 room:Int
 ev:Int
 g:Gd
def Yh(H:Hp)(v:V)(d:Dg):Prop:=∃ a gv x3 x4 x5,v = .ref a/\H a=some (.tup [.int d.room,.int d.ev,gv,x3,x4,x5])/\jt H gv d.g
def hit(op bx:ay Int)(room ev:Int)(d:Dg):Bool:=decide (V.int d.room=V.int room)&&(decide (V.int d.ev=V.int ev)&&d.g.holds op bx)
def fst(op bx:ay Int)(room ev:Int):ay Dg->Nat->aE Nat
 | [],_=>none
 | d::r,b=>if hit op bx room ev d=true then some b else fst op bx room ev r (b+1)
theorem Ig(op bx:ay Int)(room ev:Int)(d:Dg):∀ ds b,fst op bx room ev (ds++[d]) b=match fst op bx room ev ds b with
  | some k=>some k
  | none=>if hit op bx room ev d=true then some (b+ds.length) else none
 | [],b=>by
  rfl
 | x::ds,b=>by
  show (if hit op bx room ev x=true then some b else fst op bx room ev (ds++[d]) (b+1))=match (if hit op bx room ev x=true then some b else fst op bx room ev ds (b+1)) with
   | some k=>some k
   | none=>if hit op bx room ev d=true then some (b+(ds.length+1)) else none
  by_cases h:hit op bx room ev x=true
  .rw[cE h,cE h]
  .rw[cy h,cy h,Ig op bx room ev d ds (b+1),show b+1+ds.length=b+(ds.length+1) by lia];try rfl
def dY(op bx:ay Int)(ds:ay Dg)(room ev:Int):aE Nat:=if inV (.int room) (op.map V.int)=true then fst op bx room ev ds 0 else none
theorem Iw(op bx:ay Int)(ds:ay Dg)(d:Dg)(room ev:Int):dY op bx (ds++[d]) room ev=if inV (.int room) (op.map V.int)=true/\dY op bx ds room ev=none/\hit op bx room ev d=true then some ds.length else dY op bx ds room ev:=by
 unfold dY
 by_cases h:inV (.int room) (op.map V.int)=true
 .rw[cE h,cE h,Ig,iS]
  cases fst op bx room ev ds 0 with
  | some k=>
   show some k=if _ then _ else some k;rw[cy (fun z=>by cases z.2.1)]
  | none=>
   show (if hit op bx room ev d=true then some ds.length else none)=if (inV (.int room) (op.map V.int)=true/\(none:aE Nat)=none/\hit op bx room ev d=true) then some ds.length else none
   by_cases y:hit op bx room ev d=true
   .rw[cE y,cE ⟨h,rfl,y⟩]
   .rw[cy y,cy (fun z=>y z.2.2)]
 .rw[cy h,cy h,cy (fun z=>h z.1)]
theorem uz(os:ay Int):(os.map V.int).all pA=true:=by rw[eJ];intro x hx;obtain⟨n,_,rfl⟩:=dU.mp hx;rfl
def BZ(n:Nat):Sp:=fun vs H Q _ => ∃ pc Gs pd o b op bx ds dv x0 x1 x2 x3 x4 x5 x ev,vs=[.ref pc,.ref Gs,.int ev]/\H pc=some (.tup [x0,x1,x2,x3,x4,x5,.ref pd])/\H pd=some (.tup dv)/\Al (Yh H) dv ds/\H Gs=some (.tup [.ref o,.ref b,x])/\H o=some (.tup (op.map V.int))/\H b=some (.tup (bx.map V.int))/\(∀ d∈ds,d.g.ok bx.length/\d.g.ht<=n)/\ds.length<=1000 ∧
 ∀ p kvs H',aG H H'->H' p=some (.dK kvs)->(∀ r:Int,cM kvs (Sum.inl r)=(dY op bx ds r ev).map fun k:Nat=>V.int (k:Int))->(∃ ks:ay Int,kvs.map (·.1)=ks.map Sum.inl/\ks.length<=ds.length)->H p=none->Q (.ref p) H'
theorem gR:aH ["chart","stand","event","opening","by_room","number","door","room"] ["chart","stand","event"] (aC sY):=fJ
theorem KJ{f gh:av}{fd dh:af}(F:dC K "answers" "answers" sY f fd)(mq:Dp P w K mg base aa n gh dh ["guard","opening","boxes"] (K02.lR n) "holds")
  (oU:mg "enumerate" = none):aO P w K mg base aa (n+1) f fd ["chart","stand","event"] (BZ n):=by
 refine F.ok gR ?_ ?_
 .rintro _ _ _ _⟨pc,Gs,pd,o,b,op,bx,ds,dv,x0,x1,x2,x3,x4,x5,x,ev,rfl,_⟩;rfl
 ext d
 ext a;obtain⟨pc,Gs,pd,o,b,op,bx,ds,dv,x0,x1,x2,x3,x4,x5,x,ev,rfl,Uc,hpd,hds,hst,ho,hb,hok,_,q⟩:=h;ext b;have hu:=ia (gN (show 1<=64 by decide) _) hr.units
 refine⟨_,(zE (zK (i:=3) gR.nd rfl (bb rfl) (yB zH (pv 1) zB (fun _ _=>rfl)))
  (zE (zK (i:=4) gR.nd rfl (bb rfl) SM)
  (zZ (cC PassesOwn.never rfl (N5 rfl oU (zA (yB zH (pv 0) zB (fun _ _=>rfl)) zD)) (xX rfl (dI (yJ (i:=5) gR.nd rfl (bb rfl)) (dI (yJ (i:=6) gR.nd rfl (bb rfl)) t7)))
  (zE (zK (i:=7) gR.nd rfl (bb rfl) (yB zH (pv 6) zB (fun _ _=>rfl)))
  (zG (yD (bj (PW.pt (pw_and (zL yG (yB zH (pv 6) zB (fun _ _=>rfl)) (pv 2) (zR _)) (pw_and (zL ug (pv 7) (pv 3) rfl) (pw_and (Jx (Bk hu (pv 7) (pv 4))) (yP (fY (pC mq hr (zA (yB zH (pv 6) zB (fun _ _=>rfl)) (zA (pv 3) (zA (yB zH (pv 1) zB (fun _ _=>rfl)) zD)))))))))))
  (zG (Mz hu (pv 4) (pv 7) (pv 5) rfl))
  zT))))
  (zG (zO (pv 4)))))),?_⟩
 have ldv:=hds.length;refine⟨_,rfl,aF (aM.of hst) rfl (fun pb hpb=>?_)⟩;have s1:=zF hpb (.dK []);refine⟨fun σ' H'=>∃ kvs:ay (Key×V),aG H H'/\H' pb=some (.dK kvs)/\(∀ r:Int,cM kvs (Sum.inl r)=(dY op bx ds r ev).map fun k:Nat=>V.int (k:Int))/\(∃ ks:ay Int,kvs.map (·.1)=ks.map Sum.inl/\ks.length<=ds.length)/\∃ o5 o6 o7:aE V,σ'=[some (.ref pc),some (.ref Gs),some (.int ev),some (.ref o),some (.ref pb),o5,o6,o7],?_,?_⟩
 .refine⟨_,rfl,aF (aM.of (s1 _ _ Uc)) rfl ⟨pd,rfl,⟨_,aM.of (s1 _ _ hpd)⟩,?_⟩⟩;refine Ih (xs:=dv) (fun i σ' H'=>∃ kvs:ay (Key×V),aG H H'/\H' pb=some (.dK kvs)/\(∃ ks:ay Int,kvs.map (·.1)=ks.map Sum.inl/\ks.length<=i)/\(∀ r:Int,cM kvs (Sum.inl r)=(dY op bx (ds.take i) r ev).map fun k:Nat=>V.int (k:Int))/\∃ o5 o6 o7:aE V,σ'=[some (.ref pc),some (.ref Gs),some (.int ev),some (.ref o),some (.ref pb),o5,o6,o7])
   ⟨[],s1,zC,⟨[],rfl,bN _⟩,(fun r=>by
    unfold dY;rw[List.take_zero]
    split <;> rfl),_,_,_,rfl⟩ (fun i σ' H' _ ⟨_,s',_⟩=>aM.of (s' _ _ hpd)) ?_ ?_
  .rintro i _ σ' H3 t1 hx ⟨kvs,s3,h3,⟨ks,hks,lks⟩,W0,o5,o6,o7,rfl⟩ ht1
   have l3:kvs.length<=i:=by
    have:=congrArg List.length hks;rw[bh,bh]at this;lia
   have hi:i<ds.length:=by
    have:=(fO.mp hx).1;lia
   have ed:=gM hi;ext a;obtain⟨v,hv,ad,gv,y3,y4,_,rfl,had,hgd⟩:=hds.get ed;ext b;rw[hv]at hx;obtain rfl:=jX hx;have hgk:=hok _ (jT hi);generalize hdd:ds[i]=d at had hgd hgk ed
   have et:ds.take (i+1)=ds.take i++[d]:=by
    rw[iV,ed];rfl
   have elt:(ds.take i).length=i:=by
    rw[iW];lia
   have s4:=s3.trans (zF ht1 (.tup [.int (i:Int),.ref ad]));have h4:=(zF ht1 (.tup [.int (i:Int),.ref ad])) _ _ h3;refine⟨t1,_,rfl,aM.of zC,rfl,_,_,rfl,_,_,rfl,rfl,?_⟩;generalize upd H3 t1 (.tup [.int (i:Int),.ref ad])=H4 at s4 h4 ⊢;refine⟨_,rfl,aF (aM.of (s4 _ _ had)) rfl ?_⟩;refine⟨fun c H'=>H'=H4/\c=(decide (V.int d.ev=V.int ev)&&(inV (.int d.room) (op.map V.int)&&(!(cM kvs (Sum.inl d.room)).isSome&&d.g.holds op bx))),?_,?_⟩
   .refine⟨_,rfl,aF (aM.of (s4 _ _ had)) rfl ⟨_,rfl,rfl,_,rfl,fu (fun c1=>?_) (fun c1=>⟨rfl,?_⟩)⟩⟩
    .have c1:decide (V.int d.ev=V.int ev)=true:=c1;rw[c1,eA];refine⟨_,rfl,_,rfl,fL rfl (.inr (aM.of (s4 _ _ ho))) ⟨rfl,uz op,_,rfl,fu (fun c2=>?_) (fun c2=>⟨rfl,?_⟩)⟩⟩
     .have c2:inV (.int d.room) (op.map V.int)=true:=c2;rw[c2,eA];refine⟨_,rfl,_,rfl,pb,_,rfl,uI.k (k:=Sum.inl d.room) h4,_,rfl,fu (fun c3=>?_) (fun c3=>⟨rfl,?_⟩)⟩
      .rw[c3,eA];exact⟨_,rfl,aF (aM.of (s4 _ _ had)) rfl ⟨_,rfl,_,rfl,aF (aM.of (s4 _ _ hst)) rfl ⟨gv,o,b,d.g,op,bx,rfl,hgd.mono (aA.of s4),s4 _ _ ho,s4 _ _ hb,hgk.1,hgk.2,_,rfl,rfl,rfl⟩⟩⟩
      .rw[c3];rfl
     .have c2:inV (.int d.room) (op.map V.int)=false:=c2;rw[c2];rfl
    .have c1:decide (V.int d.ev=V.int ev)=false:=c1;rw[c1];rfl
   rintro c _ ⟨rfl,hc⟩;refine fu (fun c1=>?_) (fun c1=>?_)
   .rw[c1]at hc;have hc':=hc.symm;simp only[Bool.and_eq_true,Bool.not_eq_true']at hc';ext a;obtain⟨e1,e2,e3,e4⟩:=hc';ext b
    have e5:dY op bx (ds.take i) d.room ev=none:=by
     have:=W0 d.room
     cases z:dY op bx (ds.take i) d.room ev with
     | none=>rfl
     | some k=>
      rw[z]at this;rw[this]at e3
      cases e3
    refine⟨_,rfl,_,rfl,_,rfl,pb,_,rfl,Qp.k (k:=Sum.inl d.room) h4 (zV (by lia)),putK kvs (Sum.inl d.room) (.int (i:Int)),cB hpb s4 _,zC,⟨ks++[d.room],by rw[Gq _ (by have:=W0 d.room;rw[e5]at this;exact this),List.map_append,List.map_append,hks];rfl,by rw[List.length_append];simp;lia⟩,fun r=>?_,_,_,_,rfl⟩;rw[R3,et,Iw,elt]
    by_cases z:(Sum.inl r:Key)=Sum.inl d.room
    .have z':r=d.room:=by injection z
     subst z'
     rw[cE rfl,cE ⟨e2,e5,by
      unfold hit;rw[bp rfl,e1,e4]
      rfl⟩]
     rfl
    .rw[cy z,cy (fun y=>z (by
      have y2:=y.2.2;unfold hit at y2;simp only[Bool.and_eq_true]at y2;have y3:=ba y2.1;injection y3 with y4
      rw[y4]))]
     exact W0 r
   .rw[c1]at hc;refine⟨kvs,s4,h4,⟨ks,hks,by lia⟩,fun r=>?_,_,_,_,rfl⟩;rw[et,Iw,cy (fun y=>?_)]
    .exact W0 r
    .ext a;obtain⟨y1,y2,y3⟩:=y;ext b;unfold hit at y3;simp only[Bool.and_eq_true]at y3;ext a;obtain⟨z1,z2,z3⟩:=y3;ext b;have z4:=ba z1;injection z4 with z5;subst z5;have:=W0 d.room;rw[y2]at this;rw[z2,y1,this,z3]at hc
     cases hc
  .rintro σ' H3 aQ;ext a;obtain⟨kvs,s3,h3,⟨ks,hks,lks⟩,W0,r⟩:=aQ;ext b;rw[vK (by lia)]at W0;exact⟨kvs,s3,h3,W0,⟨ks,hks,by lia⟩,r⟩
 rintro σ' H3 aQ;ext a;obtain⟨kvs,s3,h3,W0,hks,o5,o6,o7,rfl⟩:=aQ;ext b;exact⟨_,rfl,q pb kvs H3 s3 h3 W0 hks hpb⟩
end Fw
namespace jg
open PySem L2 qH rF Cv
inductive GJ(vs:List V)(H:Hp)(Q:VK)(E_:XK):Prop
 | mk (t:Addr) (rs:List Rm) (k:Nat) (_:vs=[.ref t,.int (k:Int)]) (_:dB H t rs) (_:rs.length<=40) (_:k<rs.length) (_:∀ e:Nat,Tr.DG (aD rs) k e->Q (.int (e:Int)) H)
theorem uX:aH ["rooms","room","depth","other"] ["rooms","room"] (aC Dv):=fJ
theorem qAH(F:dC K "end_of" "end_of" Dv f fd)(aW:mg "range" = none)(aP:mg "len" = none):aO P w K mg base aa 1 f fd ["rooms","room"] GJ:=by
 refine F.ok uX ?_ ?_
 .rintro _ _ _ _⟨t,rs,k,rfl,_⟩;rfl
 intro _ A _ s H vs Q E _ h
 ext a;obtain⟨t,rs,k,rfl,hR,_,hk,q⟩:=h;ext b
 refine⟨_,(zE (zK (i:=2) uX.nd rfl (bb rfl) (yB zH (yB zH (pv 0) (pv 1) (fun _ _=>rfl)) zB (fun _ _=>rfl)))
  (zZ (cC PassesOwn.never rfl (ue rfl aW (zA (yC yF (pv 1) zB) (zA (zS zN rfl aP bU (zA (pv 0) zD)) zD))) (yJ (i:=3) uX.nd rfl (bb rfl))
  (zG (yD (zL Yy (yB zH (yB zH (pv 0) (pv 3) (fun _ _=>rfl)) zB (fun _ _=>rfl)) (pv 2) (zR _))
  (zG (zO (pv 3)))
  zT)))
  (zG (zO (zS zN rfl aP bU (zA (pv 0) zD)))))),?_⟩
 ext a;obtain⟨vs,a,r,ht,hl,hr0,hat,ha⟩:=hR.at hk;ext b;have ed:=j7 hr0;have dl:=yV rs;refine⟨_,rfl,_,rfl,t,vs,_,_,rfl,rfl,aM.of ht,hat,aF (aM.of ha) rfl ?_⟩;refine⟨fun σ' H'=>H'=H/\Tr.DG (aD rs) k rs.length/\∃ o3:aE V,σ'=[some (.ref t),some (.int (k:Int)),some (.int r.depth),o3],?_,?_⟩
 .refine⟨_,rfl,bB ⟨_,rfl,fL rfl (.inr (aM.of ht)) ⟨_,_,rfl,⟨by lia,by lia,by lia,by lia⟩,?_⟩⟩⟩;refine bu (fun i σ' H'=>H'=H/\(∀ j,k<j->j<k+1+i->(aD rs).getD k 0<(aD rs).getD j 0)/\∃ o3:aE V,σ'=[some (.ref t),some (.int (k:Int)),some (.int r.depth),o3]) ⟨rfl,fun j j1 j2=>by lia,none,rfl⟩ ?_ ?_
  .rintro i σ' H' _ aQ;ext a;obtain⟨rfl,hin,o3,rfl⟩:=aQ
   have hj:k+1+i<rs.length:=by lia
   obtain⟨_,_,r2,zy,_,hr2,yh,ha2⟩:=hR.at hj;ext b;rw[ht]at zy
   cases zy
   have ZG:=j7 hr2
   have ej:(k:Int)+1+(i:Int)=((k+1+i:Nat):Int):=by lia
   refine⟨_,rfl,_,rfl,t,vs,_,_,rfl,rfl,aM.of ht,(by rw[ej];exact yh),aF (aM.of ha2) rfl ⟨_,rfl,bB ⟨_,rfl,?_⟩⟩⟩;refine oY (fun c=>?_) (fun c=>?_)
   .have c':=ba c;refine⟨_,rfl,?_⟩;have z:=q (k+1+i) ⟨by lia,by lia,hin,fun _=>by rw[ZG,ed];exact c'⟩;rw[<-ej]at z;exact z
   .have c':¬ r2.depth<=r.depth:=fun z=>c (bp z);refine⟨rfl,fun j j1 j2=>?_,_,rfl⟩
    by_cases y:j=k+1+i
    .rw[y,ZG,ed];lia
    .exact hin j j1 (by lia)
  .rintro σ' H' aQ;ext a;obtain⟨rfl,hin,o3,rfl⟩:=aQ;ext b;exact⟨rfl,⟨hk,by lia,fun j j1 j2=>hin j j1 (by lia),fun z=>by lia⟩,o3,rfl⟩
 rintro σ' H' aQ;ext a;obtain⟨rfl,he,o3,rfl⟩:=aQ;ext b;refine⟨_,rfl,fL rfl (.inr (aM.of ht)) ?_⟩;have z:=q _ he;rw[<-hl]at z;exact z
inductive GD(vs:List V)(H:Hp)(Q:VK)(E_:XK):Prop
 | mk (t:Addr) (rs:List Rm) (k:Nat) (_:vs=[.ref t,.int (k:Int)]) (_:dB H t rs) (_:Tr.Good (aD rs)) (_:rs.length<=40) (_:k<rs.length) (_:∀ H',aG H H'->Q (pV (Tr.par (aD rs) k)) H')
theorem uW:aH ["rooms","room","depth","other"] ["rooms","room"] (aC w6):=fJ
theorem Pk(F:dC K "parent" "parent" w6 f fd)(aW:mg "range" = none):aO P w K mg base aa 1 f fd ["rooms","room"] GD:=by
 refine F.ok uW ?_ ?_
 .rintro _ _ _ _⟨t,rs,k,rfl,_⟩;rfl
 intro _ A _ s H vs Q E _ h
 ext a;obtain⟨t,rs,k,rfl,hR,_,_,hk,q⟩:=h;ext b
 refine⟨_,(zE (zK (i:=2) uW.nd rfl (bb rfl) (yB zH (yB zH (pv 0) (pv 1) (fun _ _=>rfl)) zB (fun _ _=>rfl)))
  (zZ (cC PassesOwn.never rfl (X5 rfl aW (qH5 (yC mD (pv 1) zB) (qD9 (S9 JW zB) (qD9 (S9 JW zB) zD)))) (yJ (i:=3) uW.nd rfl (bb rfl))
  (zG (yD (zL n6 (yB zH (yB zH (pv 0) (pv 3) (fun _ _=>rfl)) zB (fun _ _=>rfl)) (pv 2) (zR _))
  (zG (zO (pv 3)))
  zT)))
  (zG (zO cQ)))),?_⟩
 ext a;obtain⟨vs,a,r,ht,_,hr0,hat,ha⟩:=hR.at hk;ext b;have ed:=j7 hr0;refine⟨_,rfl,_,rfl,t,vs,_,_,rfl,rfl,aM.of ht,hat,aF (aM.of ha) rfl ?_⟩;refine⟨fun σ' H'=>H'=H/\Tr.par (aD rs) k=none,?_,?_⟩
 .refine⟨_,rfl,bB ⟨_,rfl,_,rfl,(k:Int)-1,rfl,by lia,by lia,?_⟩⟩;refine Uo (fun i σ' H'=>H'=H/\(∀ j,k<=j+i->j<k->(aD rs).getD k 0<=(aD rs).getD j 0)/\∃ o3:aE V,σ'=[some (.ref t),some (.int (k:Int)),some (.int r.depth),o3]) ⟨rfl,fun j j1 j2=>by lia,none,rfl⟩ ?_ ?_
  .rintro i σ' H' _ aQ;ext a;obtain⟨rfl,hin,o3,rfl⟩:=aQ
   have hi':i<k:=by lia
   have hj:k-1-i<rs.length:=by lia
   obtain⟨_,_,r2,zy,_,hr2,yh,ha2⟩:=hR.at hj;ext b;rw[ht]at zy
   cases zy
   have ZG:=j7 hr2
   have ej:(k:Int)-1-(i:Int)=((k-1-i:Nat):Int):=by lia
   refine⟨_,rfl,_,rfl,t,vs,_,_,rfl,rfl,aM.of ht,(by rw[ej];exact yh),aF (aM.of ha2) rfl ⟨_,rfl,bB ⟨_,rfl,?_⟩⟩⟩;refine oY (fun c=>?_) (fun c=>?_)
   .have c':=ba c;refine⟨_,rfl,?_⟩;have e:Tr.par (aD rs) k=some (k-1-i):=Tr.qt (by lia) (by rw[ZG,ed];exact c') fun j j1 j2=>hin j (by lia) j2;have z:=q _ (aG.refl _);rw[e]at z;rw[ej];exact z
   .have c':¬ r2.depth<r.depth:=fun z=>c (bp z);refine⟨rfl,fun j j1 j2=>?_,_,rfl⟩
    by_cases y:j=k-1-i
    .rw[y,ZG,ed];lia
    .exact hin j (by lia) j2
  .rintro σ' H' aQ;ext a;obtain⟨rfl,hin,o3,rfl⟩:=aQ;ext b;exact⟨rfl,Tr.xf fun j hj=>hin j (by lia) hj⟩
 rintro σ' H' ⟨rfl,e⟩;have z:=q _ (aG.refl _);rw[e]at z;exact z
inductive Jj(vs:List V)(H:Hp)(Q:VK)(E_:XK):Prop
 | mk (t:Addr) (rs:List Rm) (one other:Nat) (_:vs=[.ref t,.int (one:Int),.int (other:Int)]) (_:dB H t rs) (_:Tr.Good (aD rs)) (_:rs.length<=40) (_:one<rs.length) (_:other<rs.length) (_:∀ H',aG H H'->Q (.bl (Tr.bV (aD rs) one other)) H')
theorem Jq:aH ["rooms","one","other"] ["rooms","one","other"] (aC wA):=fJ
theorem Xe(F:dC K "lies_in" "lies_in" wA f fd)(jR:Dp P w K mg base aa n ge de ["rooms","room"] GJ "end_of") :
  aO P w K mg base aa (n+1) f fd ["rooms","one","other"] Jj:=by
 refine F.ok Jq ?_ ?_
 .rintro _ _ _ _⟨t,rs,one,other,rfl,_⟩;rfl
 ext d
 ext a;obtain⟨t,rs,one,other,rfl,hR,_,oZ,_,h2,q⟩:=h;ext b;have q':=q H (aG.refl _);have dl:=yV rs;refine⟨_,(zG (zO (SX n6 n6 (pv 2) (pv 1) (pC jR hr (zA (pv 0) (zA (pv 2) zD)))))),?_⟩;refine⟨_,rfl,_,rfl,bB ⟨_,rfl,?_⟩⟩;refine oY (fun c=>?_) (fun c=>?_)
 .have c':=ba c;refine⟨_,rfl,_,rfl,t,rs,other,rfl,hR,oZ,h2,fun e he=>(bB ?_)⟩;rw[Tr.xu he (by lia),bp (show other<one by lia),eA]at q';have e2:decide (one<e)=decide ((one:Int)<(e:Int)):=bP.mpr (by lia);rw[e2]at q';exact q'
 .have c':¬ (other:Int)<(one:Int):=fun z=>c (bp z)
  have e1:Tr.bV (aD rs) one other=false:=by
   unfold Tr.bV;rw[Bool.eq_false_iff];intro z;have:=Tr.R4 (List.contains_iff_mem.mp z);lia
  rw[e1]at q';exact q'
end jg
namespace Li
open PySem L2 qH rF Cv
def isOne(rs:ay Rm)(x:Nat):Bool:=match rs[x]? with
 | some r=>decide (V.str r.kind=V.str "one")
 | none=>false
def RX:Sp:=fun vs H Q _ => ∃(t:av)(rs:ay Rm)(one other:Nat),vs=[.ref t,.int (one:Int),.int (other:Int)]/\dB H t rs/\Tr.Good (aD rs)/\rs.length<=40/\one<rs.length/\other<rs.length/\∀ H',aG H H'->Q (pV (Tr.hall (aD rs) (isOne rs) one other)) H'
def hgt:aE Nat->Nat
 | none=>0
 | some j=>j+1
end Li
namespace jg
open PySem L2 qH rF Cv
theorem QJ(ds:ay Int)(f:Nat->Bool)(b k:Nat):Tr.hall ds f k b=match Tr.par ds k with
  | none=>none
  | some j=>if ((Tr.ups ds b).contains j&&f j)=true then some j else Tr.hall ds f j b:=by
 unfold Tr.hall
 cases e:Tr.par ds k with
 | none=>
  rw[Tr.wQ e];rfl
 | some j=>
  rw[Tr.rQ e,f7];show _=if ((Tr.ups ds b).contains j&&f j)=true then some j else _
  cases h:((Tr.ups ds b).contains j&&f j) with
  | true=>rfl
  | false=>rfl
theorem lX:aH ["rooms","one","other","hall"] ["rooms","one","other"] (aC pN):=fJ
theorem Xh(F:dC K "hall_over" "hall_over" pN f fd)(J8:Dp P w K mg base aa n gp dp ["rooms","room"] GD "parent")
  (qJ:Dp P w K mg base aa n gl dl' ["rooms","one","other"] Jj "lies_in") :
  aO P w K mg base aa (n+1) f fd ["rooms","one","other"] Li.RX:=by
 refine F.ok lX ?_ ?_
 .rintro _ _ _ _⟨t,rs,one,other,rfl,_⟩;rfl
 intro _ A _ s H vs Q E hr h
 ext a;obtain⟨t,rs,one,other,rfl,hR,good,oZ,h1,h2,q⟩:=h;ext b
 refine⟨_,(zE (zK (i:=3) lX.nd rfl (bb rfl) (pC J8 hr (zA (pv 0) (zA (pv 1) zD))))
  (zZ (kY PassesOwn.never (zL wF (pv 3) cQ (zR _))
  (zE (yD (bj (PW.pt (pw_and (zL yG (yB zH (yB zH (pv 0) (pv 3) (fun _ _=>rfl)) zB (fun _ _=>rfl)) zP (zR _)) (yP (fY (pC qJ hr (zA (pv 0) (zA (pv 2) (zA (pv 3) zD)))))))))
  (zG (zO (pv 3)))
  zT)
  (zG (zK (i:=3) lX.nd rfl (bb rfl) (pC J8 hr (zA (pv 0) (zA (pv 3) zD)))))))
  (zG (zO cQ)))),?_⟩
 refine⟨_,rfl,_,rfl,t,rs,one,rfl,hR,good,oZ,h1,fun _ s1=>?_⟩;refine⟨fun σ' H'=>aG H H'/\Tr.hall (aD rs) (Li.isOne rs) one other=none,?_,?_⟩
 .refine⟨fun m σ' H'=>∃ k:Nat,k<rs.length/\m=Li.hgt (Tr.par (aD rs) k)/\aG H H'/\Tr.hall (aD rs) (Li.isOne rs) one other=Tr.hall (aD rs) (Li.isOne rs) k other/\σ'=[some (.ref t),some (.int (one:Int)),some (.int (other:Int)),some (pV (Tr.par (aD rs) k))],⟨_,one,h1,rfl,s1,rfl,rfl⟩,?_⟩;rintro m σ' H' aQ;ext a;obtain⟨k,hk,rfl,s2,hh,rfl⟩:=aQ;ext b;have hs:=QJ (aD rs) (Li.isOne rs) other k
  cases e:Tr.par (aD rs) k with
  | none=>
   rw[e]at hs;exact⟨_,rfl,rfl,_,rfl,nT rfl ⟨s2,hh.trans hs⟩⟩
  | some j=>
   rw[e]at hs;have hj:=Nat.lt_trans (Tr.oM e) hk;have hR2:=hR.mono (aA.of s2);ext a;obtain⟨vs,a,r,ht,_,hr0,hat,ha⟩:=hR2.at hj;ext b
   have io:Li.isOne rs j=decide (V.str r.kind=V.str "one"):=by
    unfold Li.isOne;rw[hr0]
   refine⟨_,rfl,rfl,_,rfl,zx rfl ?_⟩;refine⟨fun σ' H2=>aG H H2/\Tr.hall (aD rs) (Li.isOne rs) one other=Tr.hall (aD rs) (Li.isOne rs) j other/\σ'=[some (.ref t),some (.int (one:Int)),some (.int (other:Int)),some (pV (Tr.par (aD rs) j))],?_,?_⟩
   .rintro σ' H2 aQ;ext a;obtain⟨s3,hh2,rfl⟩:=aQ;ext b;refine⟨Li.hgt (Tr.par (aD rs) j),?_,j,hj,rfl,s3,hh2,rfl⟩
    cases e2:Tr.par (aD rs) j with
    | none=>show 0<j+1;lia
    | some i=>have:=Tr.oM e2;show i+1<j+1;lia
   .refine⟨fun b H2=>aG H' H2/\b=((Tr.ups (aD rs) other).contains j&&Li.isOne rs j),?_,?_⟩
    .refine⟨_,rfl,_,rfl,t,vs,_,_,rfl,rfl,aM.of ht,hat,aF (aM.of ha) rfl ⟨rfl,_,rfl,?_⟩⟩;refine oY (fun c=>?_) (fun c=>?_)
     .refine⟨_,rfl,_,rfl,_,rfl,t,rs,other,j,rfl,hR2,good,oZ,h2,hj,fun H2 s3=>⟨_,rfl,s3,?_⟩⟩;rw[io,c,Bool.and_true];rfl
     .refine⟨aG.refl _,?_⟩;rw[io,e7.mpr c,Bool.and_false]
    .rintro b H2 ⟨s3,rfl⟩;refine oY (fun c=>?_) (fun c=>?_)
     .refine⟨_,rfl,?_⟩;have z:=q H2 (s2.trans s3);rw[hh,hs]at z;simp only[c,if_true]at z;exact z
     .refine⟨_,rfl,_,rfl,t,rs,j,rfl,hR.mono (aA.of (s2.trans s3)),good,oZ,hj,fun _ s4=>⟨(s2.trans s3).trans s4,?_,rfl⟩⟩;rw[hh,hs];simp only[c,if_false];rfl
 rintro σ' H' ⟨s2,e⟩;have z:=q _ s2;rw[e]at z;exact z
def RW:Sp:=fun vs H Q _ => ∃(t:av)(rs:ay Rm)(k:Nat),vs=[.ref t,.int (k:Int)]/\dB H t rs/\Tr.Good (aD rs)/\rs.length<=40/\k<rs.length/\∀(p:av)(H':Hp),aG H H'->H p=none->H' p=some (.lst (aB (Tr.kids (aD rs) k)))->Q (.ref p) H'
theorem Mj:aH ["rooms","room","depth"] ["rooms","room"] (aC Ga):=fJ
theorem Xf(F:dC K "kids" "kids" Ga f fd)(jR:Dp P w K mg base aa n ge de ["rooms","room"] GJ "end_of")(aW:mg "range" = none) :
  aO P w K mg base aa (n+1) f fd ["rooms","room"] RW:=by
 refine F.ok Mj ?_ ?_
 .rintro _ _ _ _⟨t,rs,k,rfl,_⟩;rfl
 intro _ A _ s H vs Q E hr h
 ext a;obtain⟨t,rs,k,rfl,hR,good,oZ,hk,q⟩:=h;ext b
 refine⟨_,(zE (zK (i:=2) Mj.nd rfl (Or.inr rfl) (yC yF (yB zH (yB zH (pv 0) (pv 1) (fun _ _=>rfl)) zB (fun _ _=>rfl)) zB))
  (zG (zO (yT (aj:=[(2,"depth"),(0,"rooms")]) rfl (show bK (aC Ga) ["rooms","room","depth"] _ _ _ from vm) (ue rfl aW (zA (yC yF (pv 1) zB) (zA (pC jR hr (zA (pv 0) (zA (pv 1) zD))) zD))) (fun _ _ _ _ _ _=>fZ (zL yG (yB (r:=jE K) zH (yB (r:=jE K) zH (pv 2) (pv 0) (fun _ _=>rfl)) zB (fun _ _=>rfl)) (pv 1) (zR _))) (fun _ _ _ _ _ _=>(pv 0)))))),?_⟩
 ext a;obtain⟨vs,a,r,ht,_,hr0,hat,ha⟩:=hR.at hk;ext b;have ed:=j7 hr0;have dl:=yV rs;refine⟨_,rfl,_,rfl,t,vs,_,_,rfl,rfl,aM.of ht,hat,aF (aM.of ha) rfl (bB ?_)⟩;refine⟨_,rfl,bB ⟨_,rfl,_,rfl,t,rs,k,rfl,hR,oZ,hk,fun e he=>?_⟩⟩;have O2:=he.lt;have he2:=he.le;refine⟨_,_,rfl,⟨by lia,by lia,by lia,by lia⟩,?_⟩;refine gq (fun i acc H'=>H'=H/\acc=aB (Tr.gf (aD rs) k (k+1+i))) ⟨rfl,by rw[Tr.yX _ _ _ (by lia)];rfl⟩ (fun i acc H' _ ⟨e1,e2⟩=>?_) (fun acc H' ⟨e1,e2⟩ p hp=>?_)
 .subst e1 e2
  have hj:k+1+i<rs.length:=by lia
  ext a;obtain⟨_,_,_,zy,_,hr2,yh,ha2⟩:=hR.at hj;ext b;rw[ht]at zy
  cases zy
  have ZG:=j7 hr2
  have ej:(k:Int)+1+(i:Int)=((k+1+i:Nat):Int):=by lia
  have pe:=Tr.NP good he (j:=k+1+i) (by lia);refine⟨_,rfl,_,rfl,t,vs,_,_,rfl,rfl,aM.of ht,(by rw[ej];exact yh),aF (aM.of ha2) rfl ⟨_,rfl,rfl,_,rfl,?_⟩⟩;refine oY (fun c=>?_) (fun c=>?_)
  .have c':=ba c;injection c' with c';refine⟨_,rfl,?_,rfl,?_⟩
   .unfold aB;have:=Tr.Kl (aD rs) k (k+1+i);exact zV (by rw[bh];lia)
   .rw[show k+1+(i+1)=(k+1+i)+1 by lia,Tr.jd,cE (by rw[pe.mpr ⟨by lia,by lia,by rw[ZG,ed];exact c'⟩];simp),ej];unfold aB;rw[iz];rfl
  .refine⟨rfl,?_⟩;rw[show k+1+(i+1)=(k+1+i)+1 by lia,Tr.jd,cy,iB];intro z;have y:=(pe.mp (eq_of_beq z)).2.2;rw[ZG,ed]at y;exact c (bp (by rw[y]))
 .subst e1 e2;refine q p _ (zF hp _) hp ?_;rw[zC,Tr.U6 good he,show k+1+((e:Int)-((k:Int)+1)).toNat=e by lia]
end jg
namespace Oo
open PySem L2 qH rF Cv
def under(ds:ay Int)(o:Nat):aE Nat->Bool
 | none=>true
 | some u=>Tr.bV ds o u
def mC(ds:ay Int)(un:aE Nat)(os:ay Nat):ay Nat:=(os.filter fun o=>under ds o un).reverse
inductive RN(vs:List V)(H:Hp)(Q:VK)(E_:XK):Prop
 | mk (t uK rs un os) (_:vs=[.ref t,pV un,.ref uK]) (_:dB H t rs) (_:Tr.Good (aD rs)) (_:rs.length<=40) (_:(∀ u,un=some u->u<rs.length)) (_:H uK=some (.tup (aB os))) (_:(∀ o∈os,o<rs.length)) (_:os.length<=40) (_:os.Pairwise (· < ·)) (_:∀ p H',aG H H'->H p=none->H' p=some (.lst (aB (mC (aD rs) un os)))->Q (.ref p) H')
theorem Xx(k:Nat)(os:ay Nat):inV (.int (k:Int)) (aB os)=decide (k∈os):=by
 rw[e9,decide_eq_true_iff];constructor
 .intro h;obtain⟨o,ho,e⟩:=Ng h;rw[show k=o by lia];exact ho
 .intro h;unfold inV aB;rw[eM,eL];exact⟨k,h,by simp [W6]⟩
end Oo
namespace jg
open PySem L2 qH rF Cv
theorem qT:aH ["rooms","under","opening","end"] ["rooms","under","opening"] (aC Rp):=fJ
theorem Ak(F:dC K "goings_out" "goings_out" Rp f fd)(jR:Dp P w K mg base aa n ge de ["rooms","room"] GJ "end_of")(eE:mg "sorted" = none) :
  aO P w K mg base aa (n+1) f fd ["rooms","under","opening"] Oo.RN:=by
 refine F.ok qT ?_ ?_
 .rintro _ _ _ _⟨t,uK,rs,un,os,rfl,_⟩;rfl
 ext d
 ext a;obtain⟨t,uK,rs,un,os,rfl,hR,_,oZ,hun,hto,hos,_,inc,q⟩:=h;ext b
 refine⟨_,(zE (yD (zL uf (pv 1) cQ (zR _))
  (zG (zO (xY rfl eE (zA (pv 2) zD))))
  zT)
  (zE (zK (i:=3) qT.nd rfl (Or.inr rfl) (pC jR hr (zA (pv 0) (zA (pv 1) zD))))
  (zG (zO (xY rfl eE (zA (yT (aj:=[(1,"under"),(3,"end")]) rfl (show bK (aC Rp) ["rooms","under","opening","end"] _ _ _ from vm) (oJ (pv 2)) (fun _ _ _ _ _ _=>fZ (qA5 n6 n6 (pv 1) (pv 0) (pv 2))) (fun _ _ _ _ _ _=>(pv 0))) zD)))))),?_⟩
 have dl:=yV rs
 cases un with
 | none=>
  refine⟨_,rfl,rfl,_,rfl,zx rfl ⟨_,rfl,uK,_,rfl,.inr (aM.of (by rw[<-cj];exact hto)),by rw[bh];lia,fun p rs' hp perm uT=>?_⟩⟩;have e:=vL perm uT inc;subst e;refine q p _ (zF hp _) hp ?_;rw[zC]
  rw[show Oo.mC (aD rs) none os=os.reverse by
   unfold Oo.mC
   rw[(List.filter_eq_self (p:=fun o=>Oo.under (aD rs) o none)).mpr fun _ _=>rfl],<-cj]
  rfl
 | some u=>
  have hu:=hun u rfl;refine⟨_,rfl,rfl,_,rfl,nT rfl ⟨_,rfl,_,rfl,t,rs,u,rfl,hR,oZ,hu,fun e he=>?_⟩⟩;refine⟨_,rfl,uK,rfl,⟨_,aM.of hto⟩,?_⟩;refine jJ (K:=K) (a:=uK) (xs:=aB os) (fun i acc H'=>H'=H/\acc=aB ((os.take i).filter fun o=>Tr.bV (aD rs) o u)) ⟨rfl,rfl⟩ (fun i acc H' ⟨e,_⟩=>by subst e;exact aM.of hto) (fun i x acc H' hx ⟨e1,e2⟩=>?_) (fun acc H' ⟨e1,e2⟩ p hp=>?_)
  .subst e1 e2;obtain⟨hi,rfl⟩:=yR hx;have ho:=hos _ (jT hi);have el:=Tr.xu he (a:=os[i]) (by lia);refine⟨_,rfl,_,rfl,_,_,(e:Int),rfl,rfl,⟨_,rfl,rfl,rfl⟩,_,rfl,?_⟩
   have ec:(decide ((u:Int)<((os[i]:Nat):Int))&&decide (((os[i]:Nat):Int)<(e:Int)))=Tr.bV (aD rs) os[i] u:=by
    rw[el];congr 1
    .exact bP.mpr (by lia)
    .exact bP.mpr (by lia)
   rw[iK (gM hi)];have ll:=uN (fun o=>Tr.bV (aD rs) o u) (os.take i);rw[iW]at ll;refine fu (fun c=>?_) (fun c=>?_)
   .have c':=ec.symm.trans c;rw[cE c',<-gZ];exact⟨_,rfl,zV (by rw[zU];lia),rfl,rfl⟩
   .have c':=ec.symm.trans c;rw[cy (by rw[c'];exact qg),iB];exact⟨rfl,rfl⟩
  subst e1 e2;rw[vK (by rw[zU];exact bN _)];have ll:=uN (fun o=>Tr.bV (aD rs) o u) os;refine⟨p,_,rfl,.inl (aV.of (by rw[zC];unfold aB;rw[cj])),by rw[bh];lia,fun p2 rs' hp2 perm uT=>?_⟩;have e:=vL perm uT (inc.filter _);subst e;refine q p2 _ ((zF hp _).trans (zF hp2 _)) ((zF hp _).free hp2) ?_;rw[zC,<-cj];rfl
def kindAt(rs:ay Rm)(p:Nat):Str:=(rs.map (·.kind)).getD p ("" : Str)
theorem Np(h:rs[p]? = some r):kindAt rs p=r.kind:=by unfold kindAt;rw[jU,dD,h];rfl
def Qg(rs:ay Rm)(p:Nat):Bool:=decide (kindAt rs p=("all" : Str))
def qI(H:Hp)(pg:av)(rs:ay Rm)(gs:ay Nat):Prop:=H pg=some (.lst (aB gs))/\(∀ g∈gs,g<rs.length)/\gs.length<=100
theorem qI.mono(h:qI H pg rs gs)(s:aG H H'):qI H' pg rs gs:=⟨s _ _ h.1,h.2⟩
def Mf:Sp:=fun vs H Q _ => ∃(t pg:av)(rs:ay Rm)(k:Nat)(gs:ay Nat),vs=[.ref t,.int (k:Int),.ref pg]/\dB H t rs/\rs.length<=40/\k<rs.length/\qI H pg rs gs/\∀ H',aG H H'->Q (.bl (Tr.bears (aD rs) gs k)) H'
inductive RP(vs:List V)(H:Hp)(Q:VK)(E_:XK):Prop
 | mk (t pg:Addr) (rs:List Rm) (k:Nat) (gs:List Nat) (_:vs=[.ref t,.int (k:Int),.ref pg]) (_:dB H t rs) (_:Tr.Good (aD rs)) (_:rs.length<=40) (_:k<rs.length) (_:qI H pg rs gs) (_:∀(p:Addr)(H':Hp),aG H H'->H p=none->H' p=some (.lst (aB (Tr.next (aD rs) (Qg rs) gs k)))->Q (.ref p) H')
inductive Zr(vs:List V)(H:Hp)(Q:VK)(E_:XK):Prop
 | mk (t pg rs un gs) (_:vs=[.ref t,pV un,.ref pg]) (_:dB H t rs) (_:Tr.Good (aD rs)) (_:rs.length<=40) (_:(∀ u,un=some u->u<rs.length)) (_:qI H pg rs gs) (_:∀ p ms H',aG H H'->H p=none->H' p=some (.lst (aB ms))->Tr.W8 (aD rs) (Qg rs) gs un ms->Q (.ref p) H')
theorem qU:aH ["rooms","room","goals","end"] ["rooms","room","goals"] (aC xO):=fJ
theorem Am(F:dC K "bears_goal" "bears_goal" xO f fd)(jR:Dp P w K mg base aa n ge de ["rooms","room"] GJ "end_of")(Nh:mg "any" = none) :
  aO P w K mg base aa (n+1) f fd ["rooms","room","goals"] Mf:=by
 refine F.ok qU ?_ ?_
 .rintro _ _ _ _⟨t,pg,rs,k,gs,rfl,_⟩;rfl
 ext d
 ext a;obtain⟨t,pg,rs,k,gs,rfl,hR,oZ,hk,hG,q⟩:=h;ext b
 refine⟨_,(zE (zK (i:=3) qU.nd rfl (Or.inr rfl) (pC jR hr (zA (pv 0) (zA (pv 1) zD))))
  (zG (zO (zS (v9 rfl) rfl Nh kb (zA (yT (aj:=[(1,"room"),(3,"end")]) rfl (show bK (aC xO) ["rooms","room","goals","end"] _ _ _ from vm) (yM (pv 2)) (fun _ _ _ _ _ _=>bc) (fun _ _ _ _ _ _=>(qA7 Yy n6 (pv 1) (pv 0) (pv 2)))) zD))))),?_⟩
 ext f;ext a;obtain⟨hg,hgl,_⟩:=hG;ext b;have dl:=yV rs;refine⟨_,rfl,_,rfl,t,rs,k,rfl,hR,oZ,hk,fun e he=>?_⟩;ext g;refine⟨_,rfl,pg,rfl,⟨_,aV.of hg⟩,?_⟩;refine yS (K:=K) (a:=pg) (xs:=aB gs) (fun i acc H'=>H'=H/\acc=((gs.take i).map fun g:Nat=>(decide ((k:Int)<=(g:Int))&&decide ((g:Int)<(e:Int)))).map V.bl) ⟨rfl,rfl⟩ (fun i acc H' ⟨e,_⟩=>by subst e;exact aV.of hg) (fun i x acc H' hx ⟨e1,e2⟩=>?_) (fun acc H' ⟨e1,e2⟩ p hp=>?_)
 .subst e1 e2;obtain⟨hi,rfl⟩:=yR hx;refine⟨_,rfl,_,rfl,fM _ _ (e:Int) ⟨rfl,rfl,⟨_,rfl,rfl,rfl⟩,zV (by rw[bh,bh,iW];lia),rfl,?_⟩⟩;rw[iV,gM hi,iz,iz];rfl
 subst e1 e2;rw[vK (by rw[zU];exact bN _)];refine au p _ ⟨rfl,aV.of zC,?_⟩;have z:=q (upd H' p (.lst ((gs.map fun g:Nat=>(decide ((k:Int)<=(g:Int))&&decide ((g:Int)<(e:Int)))).map V.bl))) (zF hp _)
 have ee:(gs.map fun g:Nat=>(decide ((k:Int)<=(g:Int))&&decide ((g:Int)<(e:Int)))).any id=Tr.bears (aD rs) gs k:=by
  unfold Tr.bears;rw[eM,e9,eL,eL];have O2:=he.lt
  have pt:∀ g∈gs,((id ∘ fun g:Nat=>(decide ((k:Int)<=(g:Int))&&decide ((g:Int)<(e:Int)))) g=true↔(g==k||Tr.bV (aD rs) g k)=true):=fun g hg'=>by
   have:=hgl g hg';rw[Tr.xu he (by lia)];show (decide ((k:Int)<=(g:Int))&&decide ((g:Int)<(e:Int)))=true↔_;rw[Bool.or_eq_true,dS,dS,decide_eq_true_iff,decide_eq_true_iff,decide_eq_true_iff,decide_eq_true_iff,beq_iff_eq];lia
  exact⟨fun ⟨g,a,b⟩=>⟨g,a,(pt g a).mp b⟩,fun ⟨g,a,b⟩=>⟨g,a,(pt g a).mpr b⟩⟩
 rw[ee];exact z
theorem ql:aH ["rooms","room","goals","own","kid"] ["rooms","room","goals"] (aC Ml):=fJ
theorem K8(F:dC K "next_in" "next_in" Ml f fd)
  (qBW:Dp P w K mg base aa n gk dk ["rooms","room"] RW "kids")
  (Fg:Dp P w K mg base aa n gb db ["rooms","room","goals"] Mf "bears_goal") :
  aO P w K mg base aa (n+1) f fd ["rooms","room","goals"] RP:=by
 refine F.ok ql ?_ ?_
 .rintro _ _ _ _⟨t,pg,rs,k,gs,rfl,_⟩;rfl
 intro _ A _ s H vs Q E hr h
 ext a;obtain⟨t,pg,rs,k,gs,rfl,hR,good,oZ,hk,hG,q⟩:=h;ext b
 refine⟨_,(zE (zK (i:=3) ql.nd rfl (bb rfl) (pC qBW hr (zA (pv 0) (zA (pv 1) zD))))
  (zE (yD (zL yG (yB zH (yB zH (pv 0) (pv 1) (fun _ _=>rfl)) zB (fun _ _=>rfl)) zP (zR _))
  (zG (zO (pv 3)))
  zT)
  (zZ (cC PassesOwn.never rfl (yM (pv 3)) (yJ (i:=4) ql.nd rfl (bb rfl))
  (zG (yD (fY (pC Fg hr (zA (pv 0) (zA (pv 4) (zA (pv 2) zD)))))
  (zG (zO (yK (zA (pv 4) zD))))
  zT)))
  (zG (zO (kh Mg (pv 3) pP (pO zB))))))),?_⟩
 ext f;ext a;obtain⟨vs,a,r,ht,_,hr0,hat,ha⟩:=hR.at hk;ext b;have dl:=yV rs;refine⟨_,rfl,_,rfl,t,rs,k,rfl,hR,good,oZ,hk,fun po H1 s1 npo hpo=>?_⟩;ext c;refine⟨_,rfl,_,rfl,t,vs,_,_,rfl,rfl,aM.of (s1 _ _ ht),hat,aF (aM.of (s1 _ _ ha)) rfl ⟨rfl,_,rfl,?_⟩⟩
 have eal:Qg rs k=decide (V.str r.kind=V.str ("all" : Str)):=by
  unfold Qg;rw[Np hr0];exact bP.mpr ⟨fun z=>by rw[z],fun z=>by injection z⟩
 refine fu (fun c=>?_) (fun c=>?_)
 .refine⟨_,rfl,q po H1 s1 npo ?_⟩;rw[Tr.Th (eal.trans c)];exact hpo
 ext g;have nal:Qg rs k=false:=eal.trans c
 have kl:∀ x∈Tr.kids (aD rs) k,x<rs.length:=fun x hx=>by
  have:=(Tr.xq.mp hx).1;lia
 have eN:Tr.next (aD rs) (Qg rs) gs k=match (Tr.kids (aD rs) k).find? (Tr.bears (aD rs) gs) with
   | some j=>[j]
   | none=>(Tr.kids (aD rs) k).take 1:=by
  unfold Tr.next;rw[cy (by rw[nal];exact qg)]
  all_goals (cases (Tr.kids (aD rs) k).find? (Tr.bears (aD rs) gs) <;> rfl)
 generalize hks:Tr.kids (aD rs) k=ks at hpo kl eN;refine⟨fun σ' H'=>aG H1 H'/\(∀ x∈ks,Tr.bears (aD rs) gs x=false)/\∃ o4:aE V,σ'=[some (.ref t),some (.int (k:Int)),some (.ref pg),some (.ref po),o4],?_,?_⟩
 .refine⟨_,rfl,po,rfl,⟨_,aV.of hpo⟩,?_⟩;refine lH (K:=K) (a:=po) (xs:=aB ks) (fun i σ' H'=>aG H1 H'/\(∀ x∈ks.take i,Tr.bears (aD rs) gs x=false)/\∃ o4:aE V,σ'=[some (.ref t),some (.int (k:Int)),some (.ref pg),some (.ref po),o4])
   ⟨aG.refl _,fun x hx=>(by rw[List.take_zero]at hx;cases hx),_,rfl⟩ (fun i σ' H' _ ⟨s2,_⟩=>aV.of (s2 _ _ hpo)) ?_ ?_
  .rintro j x σ' H2 hx aQ;ext a;obtain⟨s2,hno,o4,rfl⟩:=aQ;obtain⟨hj,rfl⟩:=yR hx;ext b;have hlt:=kl _ (jT hj);refine⟨_,rfl,_,rfl,_,rfl,t,pg,rs,ks[j],gs,rfl,hR.mono (aA.of (s1.trans s2)),oZ,hlt,hG.mono (s1.trans s2),fun _ s3=>⟨_,rfl,?_⟩⟩;refine fu (fun c=>?_) (fun c=>?_)
   .refine⟨_,rfl,zI (by show 1<=1000;decide),fun p hp=>q p _ ((s1.trans (s2.trans s3)).trans (zF hp _)) ((s1.trans (s2.trans s3)).free hp) ?_⟩
    have ef:ks.find? (Tr.bears (aD rs) gs)=some ks[j]:=by
     rw[List.find?_eq_some_iff_getElem];exact⟨c,j,hj,rfl,fun i _=>by rw[hno _ (by rw[List.mem_take_iff_getElem];exact⟨i,by lia,rfl⟩)];rfl⟩
    rw[zC,eN,ef];rfl
   .refine⟨s2.trans s3,fun x hx=>?_,_,rfl⟩;rw[iV,gM hj]at hx;rcases cH.mp hx with h | h
    .exact hno x h
    .rw[bJ.mp h];exact c
  .rintro σ' H2 aQ;ext a;obtain⟨s2,hno,o4,rfl⟩:=aQ;ext b;rw[vK (by rw[zU];exact bN _)]at hno;exact⟨s2,hno,_,rfl⟩
 rintro σ' H2 aQ;ext a;obtain⟨s2,hno,o4,rfl⟩:=aQ;ext b;refine⟨_,rfl,_,rfl,po,_,rfl,aV.of (s2 _ _ hpo),fun p hp=>q p _ ((s1.trans s2).trans (zF hp _)) ((s1.trans s2).free hp) ?_⟩
 have ef:ks.find? (Tr.bears (aD rs) gs)=none:=by
  rw[List.find?_eq_none];intro x hx;rw[hno x hx];exact qg
 rw[zC,eN,ef,Il _ (by decide)];show some (HO.lst ((aB ks).take 1))=some (HO.lst (aB (ks.take 1)));unfold aB;rw[List.map_take]
theorem ir:aH ["rooms","under","goals","ahead","gone","room"] ["rooms","under","goals"] (aC sIn):=fJ
theorem Eb(F:dC K "goings_in" "goings_in" sIn f fd)
  (DK:Dp P w K mg base aa n gn dn ["rooms","room","goals"] RP "next_in")
  (aP:mg "len" = none) (eE:mg "sorted" = none):aO P w K mg base aa (n+1) f fd ["rooms","under","goals"] Zr:=by
 refine F.ok ir ?_ ?_
 .rintro _ _ _ _⟨t,pg,rs,un,gs,rfl,_⟩;rfl
 ext d
 ext a;obtain⟨t,pg,rs,un,gs,rfl,hR,good,oZ,hun,hG,q⟩:=h;ext b
 refine⟨_,(zE (zK (i:=3) ir.nd rfl (bb rfl) (oK (Gx (zL uf (pv 1) cQ (zR _)) (yK (zA zB zD)) (pC DK hr (zA (pv 0) (zA (pv 1) (zA (pv 2) zD)))))))
  (zE (zK (i:=4) ir.nd rfl (bb rfl) (yK zD))
  (zZ (kY PassesOwn.never (zL iH (zS zN rfl aP bU (zA (pv 3) zD)) zB (zR _))
  (zE (zK (i:=5) ir.nd rfl (bb rfl) (K4 il PySem.F.slot_list_pop PySem.F.type_list_pop qAN (pv 3)))
  (zE (yI (dz il rO rN yH (pv 4) (zA (pv 5) zD)))
  (zG (yI (dz il kB kD j6 (pv 3) (zA (pC DK hr (zA (pv 0) (zA (pv 5) (zA (pv 2) zD)))) zD)))))))
  (zG (zO (zS pG rfl eE ke (zA (pv 4) zD))))))),?_⟩
 ext f;have dl:=yV rs;have pos:=good.pos;refine⟨fun v H'=>∃(pa:av)(ah:ay Nat),v = .ref pa/\aG H H'/\H pa=none/\H' pa=some (.lst (aB ah))/\Tr.pH (aD rs) (Qg rs) gs un [] ah,?_,?_⟩
 .cases un with
  | none=>exact⟨_,rfl,rfl,_,rfl,zx rfl ⟨zI (by show 1<=1000;decide),fun p hp=>au p [0] ⟨rfl,zF hp _,hp,zC,Tr.pH.none _ _ _⟩⟩⟩
  | some u=>exact⟨_,rfl,rfl,_,rfl,nT rfl ⟨_,rfl,_,rfl,_,rfl,t,pg,rs,u,gs,rfl,hR,good,oZ,hun u rfl,hG,fun p H1 s1 np hp=>au p _ ⟨rfl,s1,np,hp,Tr.pH.some _ _ _ u⟩⟩⟩
 rintro _ H1 aQ;ext c;ext a;obtain⟨pa,ah,rfl,s1,npa,hpa,wk⟩:=aQ;ext b;refine⟨bg _,fun pn hpn=>?_⟩;ext g;have npn:=s1.free hpn
 have ne:pn≠pa:=fun e=>by
  rw[e,hpa]at hpn
  cases hpn
 refine⟨fun σ' H'=>∃ gone:ay Nat,aG H H'/\H' pn=some (.lst (aB gone))/\Tr.pH (aD rs) (Qg rs) gs un gone []/\∃ o5:aE V,σ'=[some (.ref t),some (pV un),some (.ref pg),some (.ref pa),some (.ref pn),o5],?_,?_⟩
 .refine⟨fun m σ' H'=>∃(gone ahead:ay Nat),m=rs.length-gone.length/\aG H H'/\H' pa=some (.lst (aB ahead))/\H' pn=some (.lst (aB gone))/\Tr.pH (aD rs) (Qg rs) gs un gone ahead/\∃ o5:aE V,σ'=[some (.ref t),some (pV un),some (.ref pg),some (.ref pa),some (.ref pn),o5],
   ⟨_,au [] ah ⟨rfl,s1.trans (zF hpn _),(zF hpn _) _ _ hpa,zC,wk,_,rfl⟩⟩,?_⟩
  rintro m σ' H2 aQ;ext a;obtain⟨gone,ahead,rfl,s2,ha2,hn2,Yl,o5,rfl⟩:=aQ;ext b;refine⟨_,rfl,fL rfl (.inl (aV.of ha2)) (bB ⟨_,rfl,?_⟩)⟩;refine fu (fun c=>?_) (fun c=>?_)
  .have c':=ba c;rw[zU]at c';have wl:=Yl.len pos;refine aJ fun G_ g_=>?_
   obtain⟨a,r,rfl⟩:∃ a r,ahead=a++[r]:=by
    refine au ahead.dropLast (ahead.getLast (fun z=>by rw[z]at c';exact dP c' (by decide))) ((List.dropLast_concat_getLast _).symm)
   ext b
   have hrl:r<rs.length:=by
    have:=(Yl.ok r (by simp)).lt pos;lia
   rw[dj,gK]at wl;refine⟨fun σ' H'=>∃(Ui VR:ay Nat),Ui.length=gone.length+1/\aG H H'/\H' pa=some (.lst (aB VR))/\H' pn=some (.lst (aB Ui))/\Tr.pH (aD rs) (Qg rs) gs un Ui VR/\∃ o5:aE V,σ'=[some (.ref t),some (pV un),some (.ref pg),some (.ref pa),some (.ref pn),o5],?_,?_⟩
   .rintro σ' H3 aQ;ext a;obtain⟨g2,a2,_,rest⟩:=aQ;ext b;exact⟨rs.length-g2.length,by lia,au g2 a2 ⟨rfl,rest⟩⟩
   refine Q0 fun _ aK _ x_1=>?_;refine⟨_,rfl,.inl ⟨rfl,_,aV.of ha2⟩,fM pa _ (.int (r:Int)) ⟨rfl,rfl,ha2,?_,?_⟩⟩
   .rw[<-gZ,dj,gK,Nat.add_sub_cancel,R0 (bN _),iP];rfl
   ext e
   have hn3:(upd H2 pa (.lst (aB (a++[r])).dropLast)) pn=some (.lst (aB gone)):=by
    rw[zQ ne];exact hn2
   refine⟨_,rfl,.inl ⟨rfl,_,aV.of hn3⟩,_,rfl,pn,_,_,rfl,rfl,hn3,zV (by rw[zU];lia),?_⟩;refine x_1 ?_;clear x_1;have s3:aG H (upd (upd H2 pa (.lst (aB (a++[r])).dropLast)) pn (.lst (aB gone++[.int (r:Int)]))):=cB npn (cB npa s2 _) _
   have ha3:(upd (upd H2 pa (.lst (aB (a++[r])).dropLast)) pn (.lst (aB gone++[.int (r:Int)]))) pa=some (.lst (aB a)):=by
    rw[zQ (bt ne),zC,<-gZ,List.dropLast_concat]
   have hn4:(upd (upd H2 pa (.lst (aB (a++[r])).dropLast)) pn (.lst (aB gone++[.int (r:Int)]))) pn=some (.lst (aB (gone++[r]))):=by
    rw[zC,gZ]
   generalize upd (upd H2 pa (.lst (aB (a++[r])).dropLast)) pn (.lst (aB gone++[.int (r:Int)]))=H3 at s3 ha3 hn4 ⊢;refine⟨_,rfl,.inl ⟨rfl,_,aV.of ha3⟩,_,rfl,_,rfl,_,rfl,t,pg,rs,r,gs,rfl,hR.mono (aA.of s3),good,oZ,hrl,hG.mono s3,fun px _ s4 _ hpx=>?_⟩;have wk3:=Yl.step;have wl3:=wk3.len pos;rw[dj]at wl3;refine jV pa px _ _ ⟨rfl,rfl,s4 _ _ ha3,hpx,zI (by rw[zU,zU];rw[dj]at wl3;lia),aK (au (gone++[r]) (a++Tr.next (aD rs) (Qg rs) gs r) ⟨by rw[dj];rfl,cB npa (s3.trans s4) _,?_,?_,wk3,_,rfl⟩)⟩
   .rw[zC];unfold aB;rw[iz]
   .rw[zQ ne];exact s4 _ _ hn4
  .have c':=bE c;rw[zU]at c';have e:ahead=[]:=eR (by lia);subst e;exact⟨gone,s2,hn2,Yl,_,rfl⟩
 rintro σ' H2 aQ;ext a;obtain⟨gone,s2,hn2,Yl,o5,rfl⟩:=aQ;ext b;have wl:=Yl.len pos;refine⟨_,rfl,au pn _ ⟨rfl,.inl (aV.of (by rw[hn2];unfold aB;rw[cj])),by rw[bh];lia,fun p _ hp perm uT=>?_⟩⟩
 have nd:gone.Nodup:=by
  have:=Yl.nd;rw[iB]at this;exact this
 ext a;obtain⟨ms,rfl,rise,hpm⟩:=nW perm uT nd;ext b;refine q p ms _ (s2.trans (zF hp _)) (s2.free hp) ?_ ⟨rise,fun k=>(hpm.mem_iff).trans (Yl.done k)⟩;rw[zC,<-cj];rfl
def cg(H:Hp)(v:V)(k:ay Nat):Prop:=∃ a:av,v = .ref a/\H a=some (.tup (aB k))
inductive cD(H:Hp):List V->List (List Nat)->Prop where
 | nil:cD H [] []
 | cons {v:V} {k:List Nat} {vs:List V} {ks:List (List Nat)}:cg H v k->cD H vs ks->cD H (v::vs) (k::ks)
theorem cg.mono(x:cg H v k)(s:aA H H'):cg H' v k:=by obtain⟨a,e,h⟩:=x;exact⟨a,e,s _ _ h⟩
theorem cD.mono(x:cD H vs ks)(s:aA H H'):cD H' vs ks:=by
 induction x with
 | nil=>exact .nil
 | cons h _ ih=>exact .cons (h.mono s) ih
theorem cD.length(x:cD H vs ks):vs.length=ks.length:=by
 induction x with
 | nil=>rfl
 | cons _ _ ih=>rw[cY,cY,ih]
theorem cD.get(x:cD H vs ks):∀ {i:Nat} {k:ay Nat},ks[i]? = some k->∃ v,vs[i]? = some v/\cg H v k:=by
 induction x with
 | nil=>intro i k h;simp at h
 | cons h _ ih=>
  intro i k e
  cases i with
  | zero=>
   simp at e;subst e;exact⟨_,rfl,h⟩
  | succ i=>exact ih (by simpa using e)
theorem cD.set(x:cD H vs ks)(h:cg H v k):∀ i:Nat,cD H (vs.set i v) (ks.set i k):=by
 induction x with
 | nil=>intro i;exact .nil
 | cons h' hs ih=>
  intro i
  cases i with
  | zero=>exact .cons h hs
  | succ i=>exact .cons h' (ih i)
noncomputable def cz(rs:ay Rm)(p:Nat):Str:=(rs.map (·.keeps)).getD p ("" : Str)
theorem IV(h:rs[p]? = some r):cz rs p=r.keeps:=by unfold cz;rw[jU,dD,h];rfl
def plB(rs:ay Rm)(p:Nat):Bool:=decide (kindAt rs p=("plain" : Str))
def gA(ds:ay Int)(os:ay Nat)(r:Nat):ay Nat:=os.filter fun o=>Tr.bV ds o r
noncomputable def lG(rs:ay Rm)(os:ay Nat)(r:Nat):ay Nat:=if cz rs r=("near" : Str) then (gA (aD rs) os r).take 1 else (gA (aD rs) os r).filter (plB rs)
noncomputable def bR(rs:ay Rm)(os ls:ay Nat)(ks:ay (ay Nat)):ay (ay Nat):=ls.foldl (fun k r=>if cz rs r=("" : Str) then k else k.set r (lG rs os r)) ks
theorem tM(rs:ay Rm)(os:ay Nat):∀ ls ks,(bR rs os ls ks).length=ks.length
 | [],_=>rfl
 | r::ls,ks=>by
  show (bR rs os ls (if cz rs r=("" : Str) then ks else ks.set r (lG rs os r))).length=_;rw[tM rs os ls]
  split
  .rfl
  .rw[fk]
theorem Ao(rs:ay Rm)(os ls:ay Nat)(r:Nat)(ks:ay (ay Nat)):bR rs os (ls++[r]) ks=if cz rs r=("" : Str) then bR rs os ls ks else (bR rs os ls ks).set r (lG rs os r):=by unfold bR;rw[fe];rfl
def MJ:Sp:=fun vs H Q _ => ∃ t pt rs os,vs=[.ref t,.ref pt]/\dB H t rs/\rs.length<=40/\H pt=some (.lst (aB os))/\(∀ o∈os,o<rs.length)/\os.length<=100 ∧
 ∀ p H',aG H H'->H' p=some (.tup (aB (os.filter (plB rs))))->Q (.ref p) H'
def GF:Sp:=fun vs H Q _ => ∃(t uK:av)(rs:ay Rm)(os:ay Nat)(r:Nat),vs=[.ref t,.ref uK,.int (r:Int)]/\dB H t rs/\Tr.Good (aD rs)/\rs.length<=40/\H uK=some (.tup (aB os))/\(∀ o∈os,o<rs.length)/\os.length<=40/\os.Pairwise (· < ·)/\r<rs.length ∧
 ∀(p:av)(H':Hp),aG H H'->H' p=some (.tup (aB (lG rs os r)))->Q (.ref p) H'
def BW:Sp:=fun vs H Q _ => ∃ t uK pl pk rs os ls kv ks,vs=[.ref t,.ref uK,.ref pl,.ref pk]/\dB H t rs/\Tr.Good (aD rs)/\rs.length<=40/\H uK=some (.tup (aB os))/\(∀ o∈os,o<rs.length)/\os.length<=40/\os.Pairwise (· < ·)/\H pl=some (.lst (aB ls))/\(∀ l∈ls,l<rs.length)/\H pk=some (.tup kv)/\cD H kv ks/\ks.length=rs.length ∧
 ∀ p Hz H',aG H H'->H' p=some (.tup Hz)->cD H' Hz (bR rs os ls ks)->Q (.ref p) H'
theorem Ae:aH ["rooms","told"] ["rooms","told"] (aC xM):=fJ
theorem Aj(F:dC K "plain_ones" "plain_ones" xM f fd)(aY:mg "tuple" = none):aO P w K mg base aa 1 f fd ["rooms","told"] MJ:=by
 refine F.ok Ae ?_ ?_
 .rintro _ _ _ _⟨t,pt,rs,os,rfl,_⟩;rfl
 intro _ A _ s H vs Q E _ h
 ext a;obtain⟨t,pt,rs,os,rfl,hR,_,Ny,hos,_,q⟩:=h;ext b;refine⟨_,(zG (zO (yA zX rfl aY nF (zA (yT (aj:=[(0,"rooms")]) rfl (show bK (aC xM) ["rooms","told"] _ _ _ from vm) (yM (pv 1)) (fun _ _ _ _ _ _=>fZ (zL yG (yB (r:=jE K) zH (yB (r:=jE K) zH (pv 1) (pv 0) (fun _ _=>rfl)) zB (fun _ _=>rfl)) zP (zR _))) (fun _ _ _ _ _ _=>(pv 0))) zD)))),?_⟩;refine⟨_,rfl,pt,rfl,⟨_,aV.of Ny⟩,?_⟩;refine yS (K:=K) (a:=pt) (xs:=aB os) (fun i acc H'=>H'=H/\acc=aB ((os.take i).filter (plB rs))) ⟨rfl,rfl⟩ (fun i acc H' ⟨e,_⟩=>by subst e;exact aV.of Ny) (fun i x acc H' hx ⟨e1,e2⟩=>?_) (fun acc H' ⟨e1,e2⟩ p hp=>?_)
 .subst e1 e2;ext a;obtain⟨hi,rfl⟩:=yR hx;obtain⟨vs,a,r,ht,_,hr0,hat,ha⟩:=hR.at (hos _ (jT hi));ext b;refine⟨_,rfl,_,rfl,t,vs,_,_,rfl,rfl,aM.of ht,hat,aF (aM.of ha) rfl ⟨rfl,_,rfl,?_⟩⟩
  have ep:plB rs os[i]=decide (V.str r.kind=V.str ("plain" : Str)):=by
   unfold plB;rw[Np hr0];exact bP.mpr ⟨fun z=>by rw[z],fun z=>by injection z⟩
  rw[iK (gM hi)];have ll:=uN (plB rs) (os.take i);rw[iW]at ll;refine fu (fun c=>?_) (fun c=>?_)
  .rw[cE (ep.trans c),<-gZ];exact⟨_,rfl,zV (by rw[zU];lia),rfl,rfl⟩
  .rw[cy (by rw[show plB rs os[i]=false from ep.trans c];exact qg),iB];exact⟨rfl,rfl⟩
 subst e1 e2;rw[vK (by rw[zU];exact bN _)];exact⟨p,_,rfl,.inl ⟨aV.of zC,fun p2 hp2=>q p2 _ ((zF hp _).trans (zF hp2 _)) zC⟩⟩
theorem xF:aH ["rooms","opening","room","inside"] ["rooms","opening","room"] (aC wB):=fJ
theorem KC(F:dC K "kept_of" "kept_of" wB f fd)
  (my:Dp P w K mg base aa n gg dg ["rooms","under","opening"] Oo.RN "goings_out")
  (FZ:Dp P w K mg base aa n gp dp ["rooms","told"] MJ "plain_ones")
  (eE:mg "sorted" = none) (aY:mg "tuple" = none):aO P w K mg base aa (n+1) f fd ["rooms","opening","room"] GF:=by
 refine F.ok xF ?_ ?_
 .rintro _ _ _ _⟨t,uK,rs,os,r,rfl,_⟩;rfl
 intro _ A _ s H vs Q E hr h
 ext a;obtain⟨t,uK,rs,os,r,rfl,hR,good,oZ,hto,hos,los,inc,hr',q⟩:=h;ext b
 refine⟨_,(zE (zK (i:=3) xF.nd rfl (bb rfl) (zS pG rfl eE ke (zA (pC my hr (zA (pv 0) (zA (pv 2) (zA (pv 1) zD)))) zD)))
  (zE (yD (zL yG (yB zH (yB zH (pv 0) (pv 2) (fun _ _=>rfl)) zB (fun _ _=>rfl)) zP (zR _))
  (zG (zO (yA zX rfl aY nF (zA (kh Mg (pv 3) pP (pO zB)) zD))))
  zT)
  (zG (zO (pC FZ hr (zA (pv 0) (zA (pv 3) zD))))))),?_⟩
 ext a;obtain⟨vs,a,r0,ht,_,hr0,hat,ha⟩:=hR.at hr';ext b;refine⟨_,rfl,_,rfl,_,rfl,t,uK,rs,some r,os,rfl,hR,good,oZ,fun u e=>(by cases e;exact hr'),hto,hos,los,inc,fun pf H1 s1 _ hpf=>?_⟩;have eo:Oo.mC (aD rs) (some r) os=(gA (aD rs) os r).reverse:=rfl;have li:=uN (fun o=>Tr.bV (aD rs) o r) os;have li':(gA (aD rs) os r).length<=os.length:=li;have ri:(gA (aD rs) os r).Pairwise (· < ·):=inc.filter _;have mi:∀ o∈gA (aD rs) os r,o<rs.length:=fun o ho=>hos o (nH.mp ho).1;unfold lG at q;generalize gA (aD rs) os r=xs at eo li' ri mi q;rw[eo]at hpf;refine⟨pf,_,rfl,.inl (aV.of (by rw[hpf];unfold aB;rw[cj])),by rw[bh,List.length_reverse];lia,fun p1 _ hp1 perm uT=>?_⟩;ext a;obtain⟨ms,rfl,rise,hpm⟩:=nW perm uT (by unfold List.Nodup;rw[List.pairwise_reverse];exact ri.imp fun z=>bt (lO z));ext b
 obtain rfl:ms=xs:=iG _ _ rise ri fun k=>by rw[hpm.mem_iff,fE]
 rw[<-cj];have s2:=s1.trans (zF hp1 (.lst (aB ms)));have h2:(upd H1 p1 (.lst (aB ms))) p1=some (.lst (aB ms)):=zC
 change _ at s2
 refine⟨_,rfl,_,rfl,t,vs,_,_,rfl,rfl,aM.of (s2 _ _ ht),hat,aF (aM.of (s2 _ _ ha)) rfl ⟨rfl,_,rfl,?_⟩⟩
 have ek:(cz rs r=("near" : Str))↔V.str r0.keeps=V.str ("near" : Str):=by
  rw[IV hr0];exact⟨fun z=>by rw[z],fun z=>by injection z⟩
 refine fu (fun c=>?_) (fun c=>?_)
 .have c':=ek.mpr (ba c);refine⟨_,rfl,_,rfl,p1,_,rfl,aV.of h2,fun p2 hp2=>?_⟩;rw[Il _ (by decide)]
  have e2:(aB ms).take (1:Int).toNat=aB (ms.take 1):=by
   unfold aB;rw[List.map_take];rfl
  rw[e2];refine⟨p2,_,rfl,.inl ⟨aV.of zC,fun p3 hp3=>?_⟩⟩;refine q p3 _ ((s2.trans (zF hp2 _)).trans (zF hp3 _)) ?_;rw[zC,cE c']
 .have c':¬ cz rs r=("near" : Str):=fun z=>bE c (ek.mp z);refine⟨_,rfl,_,rfl,t,p1,rs,ms,rfl,hR.mono (aA.of s2),oZ,h2,mi,by lia,fun p2 H3 s3 hp2=>?_⟩;refine q p2 H3 (s2.trans s3) ?_;rw[cy c'];exact hp2
theorem qm:aH ["rooms","opening","left","kept","told","room"] ["rooms","opening","left","kept"] (aC sU):=fJ
theorem KD(F:dC K "keeping" "keeping" sU f fd)
  (Ql:Dp P w K mg base aa n gk dk ["rooms","opening","room"] GF "kept_of")
  (jG:mg "list" = none) (aY:mg "tuple" = none):aO P w K mg base aa (n+1) f fd ["rooms","opening","left","kept"] BW:=by
 refine F.ok qm ?_ ?_
 .rintro _ _ _ _⟨t,uK,pl,pk,rs,os,ls,kv,ks,rfl,_⟩;rfl
 intro _ A _ s H vs Q E hr h
 ext a;obtain⟨t,uK,pl,pk,rs,os,ls,kv,ks,rfl,hR,good,oZ,hto,hos,los,inc,hpl,hls,Z7,hks,_,q⟩:=h;ext b
 refine⟨_,(zE (zK (i:=4) qm.nd rfl (bb rfl) (yA gF rfl jG kc (zA (pv 3) zD)))
  (zZ (cC PassesOwn.never rfl (yM (pv 2)) (yJ (i:=5) qm.nd rfl (bb rfl))
  (zG (yD (zL qZ (yB zH (yB zH (pv 0) (pv 5) (fun _ _=>rfl)) zB (fun _ _=>rfl)) zP (zR _))
  (zG (xW (pC Ql hr (zA (pv 0) (zA (pv 1) (zA (pv 5) zD)))) (K1 (pv 4) (pv 5) set_list)))
  zT)))
  (zG (zO (yA zX rfl aY nF (zA (pv 4) zD)))))),?_⟩
 refine⟨_,rfl,fL rfl (.inr (aM.of Z7)) (fun pt Ny=>?_)⟩;have s1:=zF Ny (.lst kv);refine⟨fun σ' H'=>∃ Hz:ay V,aG H H'/\H' pt=some (.lst Hz)/\cD H' Hz (bR rs os ls ks)/\∃ o5:aE V,σ'=[some (.ref t),some (.ref uK),some (.ref pl),some (.ref pk),some (.ref pt),o5],?_,?_⟩
 .refine⟨_,rfl,pl,rfl,⟨_,aV.of (s1 _ _ hpl)⟩,?_⟩;refine lH (fun i σ' H'=>∃ Hz:ay V,aG H H'/\H' pt=some (.lst Hz)/\cD H' Hz (bR rs os (ls.take i) ks)/\∃ o5:aE V,σ'=[some (.ref t),some (.ref uK),some (.ref pl),some (.ref pk),some (.ref pt),o5])
   ⟨kv,s1,zC,hks.mono (aA.of s1),_,rfl⟩ (fun i σ' H' _ ⟨_,s2,_⟩=>aV.of (s2 _ _ hpl)) ?_ ?_
  .rintro i x σ' H2 hx aQ;ext a;obtain⟨kv2,s2,h2,hk2,o5,rfl⟩:=aQ;obtain⟨hi,rfl⟩:=yR hx;have hlt:=hls _ (jT hi);obtain⟨vs,a,r0,ht,_,hr0,hat,ha⟩:=hR.at hlt;ext b;have lk2:=hk2.length;rw[tM]at lk2
   have es:bR rs os (ls.take (i+1)) ks=if cz rs ls[i]=("" : Str) then bR rs os (ls.take i) ks else (bR rs os (ls.take i) ks).set ls[i] (lG rs os ls[i]):=by
    rw[iV,gM hi];exact Ao rs os _ _ ks
   refine⟨_,rfl,_,rfl,t,vs,_,_,rfl,rfl,aM.of (s2 _ _ ht),hat,aF (aM.of (s2 _ _ ha)) rfl ⟨rfl,_,rfl,?_⟩⟩
   have ek:cz rs ls[i]=("" : Str)↔V.str r0.keeps=V.str ("" : Str):=by
    rw[IV hr0];exact⟨fun z=>by rw[z],fun z=>by injection z⟩
   refine fu (fun c=>?_) (fun c=>?_)
   .have c':¬ cz rs ls[i]=("" : Str):=fun z=>by
     have c:=c;rw[bp (ek.mp z)]at c
     cases c
    rw[cy c']at es;refine⟨_,rfl,_,rfl,_,rfl,t,uK,rs,os,ls[i],rfl,hR.mono (aA.of s2),good,oZ,s2 _ _ hto,hos,los,inc,hlt,fun p H3 s3 hp=>?_⟩;refine⟨_,rfl,_,rfl,pt,_,_,ls[i],rfl,rfl,s3 _ _ h2,?_,?_⟩
    .unfold Vz;rw[cE (by lia),cE (by lia)];simp
    have kt:aA H3 (upd H3 pt (.lst (kv2.set ls[i] (.ref p)))):=aA.lst (s3 _ _ h2) _;refine⟨kv2.set ls[i] (.ref p),cB Ny (s2.trans s3) _,zC,?_,_,rfl⟩;rw[es];exact ((hk2.mono (aA.of s3)).mono kt).set ⟨p,rfl,kt _ _ hp⟩ _
   .have c':cz rs ls[i]=("" : Str):=by
     have c:(!decide (V.str r0.keeps=V.str ("" : Str)))=false:=c;rw[Bool.not_eq_false']at c;exact ek.mpr (ba c)
    rw[cE c']at es;exact⟨kv2,s2,h2,by rw[es];exact hk2,_,rfl⟩
  .rintro σ' H2 aQ;ext a;obtain⟨kv2,s2,h2,hk2,o5,rfl⟩:=aQ;ext b;rw[vK (by rw[zU];exact bN _)]at hk2;exact⟨kv2,s2,h2,hk2,_,rfl⟩
 rintro σ' H2 aQ;ext a;obtain⟨kv2,s2,h2,hk2,o5,rfl⟩:=aQ;ext b;refine⟨_,rfl,pt,_,rfl,.inl ⟨aV.of h2,fun p hp=>?_⟩⟩;exact q p kv2 _ (s2.trans (zF hp _)) zC (hk2.mono (aA.of (zF hp _)))
end jg
namespace Fw
open PySem L2 qH rF Cv
theorem sy:∀(a b:ay Int),a.Pairwise (· < ·)->b.Pairwise (· < ·)->(∀ k,k∈a↔k∈b)->a=b
 | [],[],_,_,_=>rfl
 | [],y::b,_,_,h=>absurd ((h y).mpr List.mem_cons_self) (by simp)
 | x::a,[],_,_,h=>absurd ((h x).mp List.mem_cons_self) (by simp)
 | x::a,y::b,ha,hb,h=>by
  obtain⟨a1,a2⟩:=fR.mp ha;obtain⟨b1,b2⟩:=fR.mp hb
  have e:x=y:=by
   rcases bL.mp ((h x).mp wO) with e | h1
   .exact e
   .rcases bL.mp ((h y).mpr wO) with e | h2
    .exact e.symm
    .have:=a1 y h2;have:=b1 x h1;lia
  subst e;congr 1;refine sy a b a2 b2 fun k=>?_;have hk:=h k;rw[bL,bL]at hk;constructor
  .intro z;rcases hk.mp (.inr z) with e | z'
   .subst e;have:=a1 k z;lia
   .exact z'
  .intro z;rcases hk.mpr (.inr z) with e | z'
   .subst e;have:=b1 k z;lia
   .exact z'
def inter(os:ay Nat):ay Int:=os.map fun j:Nat=>(j:Int)
theorem Ek(os:ay Nat):(inter os).map V.int=aB os:=by unfold inter aB;rw[fo];rfl
theorem Ka(a b:ay Nat):aB a++aB b=aB (a++b):=(iz ..).symm
noncomputable def jL(os:ay Nat)(bx:ay Int)(ds:ay Dg)(ev:Int):ay Nat:=os.filter fun r=>(dY (inter os) bx ds (r:Int) ev).isSome
def Ah(inn:Bool)(dp:ay Int)(room:Nat)(Fo:ay Nat):Bool:=Fo.any fun o=>if inn=true then Tr.bV dp o room else Tr.bV dp room o
noncomputable def pF(inn:Bool)(dp:ay Int)(os:ay Nat)(bx:ay Int)(ds:ay Dg)(ev:Int):ay Nat:=
 ((jL os bx ds ev).filter fun r => !Ah inn dp r (jL os bx ds ev)).map fun r:Nat=>(dY (inter os) bx ds (r:Int) ev).getD 0
def tO(od:Str):Bool:=decide (V.str od=V.str ("inner" : Str))
def BV:Sp:=fun vs H Q _ => ∃(pc t pl:av)(od:Str)(x1 x2 x3 x4 x6:V)(rs:ay Rm)(room:Nat)(Fo:ay Nat),vs=[.ref pc,.int (room:Int),.ref pl]/\H pc=some (.tup [.str od,x1,x2,x3,x4,.ref t,x6])/\dB H t rs/\Tr.Good (aD rs)/\rs.length<=40/\room<rs.length/\H pl=some (.lst (aB Fo))/\(∀ o∈Fo,o<rs.length)/\Fo.length<=1000 ∧
 ∀ H':Hp,aG H H'->Q (.bl (Ah (tO od) (aD rs) room Fo)) H'
def GP(n:Nat):Sp:=fun vs H Q _ => ∃ pc Gs t pd o b od os bx rs ds dv x1 x2 x3 x4 x ev,vs=[.ref pc,.ref Gs,.int ev]/\H pc=some (.tup [.str od,x1,x2,x3,x4,.ref t,.ref pd])/\dB H t rs/\Tr.Good (aD rs)/\rs.length<=40/\H pd=some (.tup dv)/\Al (Yh H) dv ds/\H Gs=some (.tup [.ref o,.ref b,x])/\H o=some (.tup (aB os))/\(∀ o∈os,o<rs.length)/\os.Pairwise (· < ·)/\H b=some (.tup (bx.map V.int))/\(∀ d∈ds,d.g.ok bx.length/\d.g.ht<=n)/\ds.length<=63 ∧
 ∀ p H',aG H H'->H p=none->H' p=some (.lst (aB (pF (tO od) (aD rs) os bx ds ev)))->Q (.ref p) H'
theorem qR:aH ["chart","room","others","rooms"] ["chart","room","others"] (aC kW):=fJ
theorem K7(F:dC K "is_outdone" "is_outdone" kW f fd)(qJ:Dp P w K mg base aa n gl dl ["rooms","one","other"] jg.Jj "lies_in")(Nh:mg "any" = none) :
  aO P w K mg base aa (n+1) f fd ["chart","room","others"] BV:=by
 refine F.ok qR ?_ ?_
 .rintro _ _ _ _⟨pc,t,pl,od,x1,x2,x3,x4,x6,rs,room,Fo,rfl,_⟩;rfl
 ext d
 ext a;obtain⟨pc,t,pl,od,x1,x2,x3,x4,x6,rs,room,Fo,rfl,Uc,hR,good,oZ,hroom,hpl,qEE,_,q⟩:=h;ext b
 refine⟨_,(zE (zK (i:=3) qR.nd rfl (Or.inr rfl) (yB zH (pv 0) zB (fun _ _=>rfl)))
  (zE (yD (zL yG (yB zH (pv 0) zB (fun _ _=>rfl)) zP (zR _))
  (zG (zO (zS (v9 rfl) rfl Nh kb (zA (yT (aj:=[(3,"rooms"),(1,"room")]) rfl (show bK (aC kW) ["chart","room","others","rooms"] _ _ _ from vm) (yM (pv 2)) (fun _ _ _ _ _ _=>bc) (fun _ _ _ _ _ _=>(pC qJ hr (zA (pv 1) (zA (pv 0) (zA (pv 2) zD)))))) zD))))
  zT)
  (zG (zO (zS (v9 rfl) rfl Nh kb (zA (yT (aj:=[(3,"rooms"),(1,"room")]) rfl (show bK (aC kW) ["chart","room","others","rooms"] _ _ _ from vm) (yM (pv 2)) (fun _ _ _ _ _ _=>bc) (fun _ _ _ _ _ _=>(pC qJ hr (zA (pv 1) (zA (pv 2) (zA (pv 0) zD)))))) zD)))))),?_⟩
 refine⟨_,rfl,aF (aM.of Uc) rfl ?_⟩;refine⟨_,rfl,aF (aM.of Uc) rfl ⟨rfl,_,rfl,?_⟩⟩
 have go:∀(fl:Nat->Bool)(H':Hp)(p:av),aG H H'->(∀ o∈Fo,fl o=if tO od=true then Tr.bV (aD rs) o room else Tr.bV (aD rs) room o)->Q (.bl ((Fo.map fl).any id)) H':=fun fl H' p s' hfl=>by
  have e:(Fo.map fl).any id=Ah (tO od) (aD rs) room Fo:=by
   unfold Ah;rw[eM,e9,eL,eL];exact⟨fun ⟨o,a,b⟩=>⟨o,a,(hfl o a)▸b⟩,fun ⟨o,a,b⟩=>⟨o,a,show fl o=true from (hfl o a).trans b⟩⟩
  rw[e];exact q H' s'
 refine fu (fun c=>?_) (fun c=>?_)
 .have ci:tO od=true:=c;refine⟨_,rfl,pl,rfl,⟨_,aV.of hpl⟩,?_⟩;refine yS (K:=K) (a:=pl) (xs:=aB Fo) (fun i acc H'=>aG H H'/\acc=((Fo.take i).map fun o:Nat=>Tr.bV (aD rs) o room).map V.bl) ⟨aG.refl _,rfl⟩ (fun i acc H' ⟨e,_⟩=>aV.of (e _ _ hpl)) (fun i x acc H' hx ⟨e1,e2⟩=>?_) (fun acc H' ⟨e1,e2⟩ p hp=>?_)
  .subst e2;obtain⟨hi,rfl⟩:=jg.yR hx;refine⟨_,rfl,_,rfl,_,rfl,t,rs,Fo[i],room,rfl,hR.mono (aA.of e1),good,oZ,qEE _ (jT hi),hroom,fun H2 s2=>⟨zV (by rw[bh,bh,iW];lia),e1.trans s2,?_⟩⟩;rw[iV,gM hi,iz,iz];rfl
  .subst e2;rw[vK (by rw[zU];exact bN _)];exact⟨p,_,rfl,aV.of zC,go _ _ p (e1.trans (zF hp _)) fun o _=>by rw[cE ci]⟩
 .have ci:tO od=false:=c;refine⟨_,rfl,pl,rfl,⟨_,aV.of hpl⟩,?_⟩;refine yS (K:=K) (a:=pl) (xs:=aB Fo) (fun i acc H'=>aG H H'/\acc=((Fo.take i).map fun o:Nat=>Tr.bV (aD rs) room o).map V.bl) ⟨aG.refl _,rfl⟩ (fun i acc H' ⟨e,_⟩=>aV.of (e _ _ hpl)) (fun i x acc H' hx ⟨e1,e2⟩=>?_) (fun acc H' ⟨e1,e2⟩ p hp=>?_)
  .subst e2;obtain⟨hi,rfl⟩:=jg.yR hx;refine⟨_,rfl,_,rfl,_,rfl,t,rs,room,Fo[i],rfl,hR.mono (aA.of e1),good,oZ,hroom,qEE _ (jT hi),fun H2 s2=>⟨zV (by rw[bh,bh,iW];lia),e1.trans s2,?_⟩⟩;rw[iV,gM hi,iz,iz];rfl
  .subst e2;rw[vK (by rw[zU];exact bN _)];exact⟨p,_,rfl,aV.of zC,go _ _ p (e1.trans (zF hp _)) fun o _=>by rw[ci];rfl⟩
theorem uY:aH ["chart","stand","event","by_room","answering"] ["chart","stand","event"] (aC sW):=fJ
theorem Pu(F:dC K "chosen" "chosen" sW f fd)(Qo:Dp P w K mg base aa m ga da ["chart","stand","event"] (BZ n) "answers")
  (Fe:Dp P w K mg base aa m go do' ["chart","room","others"] BV "is_outdone") (eE:mg "sorted" = none) :
  aO P w K mg base aa (m+1) f fd ["chart","stand","event"] (GP n):=by
 refine F.ok uY ?_ ?_
 .rintro _ _ _ _⟨pc,Gs,t,pd,o,b,od,os,bx,rs,ds,dv,x1,x2,x3,x4,x,ev,rfl,_⟩;rfl
 ext d
 ext a;obtain⟨pc,Gs,t,pd,o,b,od,os,bx,rs,ds,dv,x1,x2,x3,x4,x,ev,rfl,Uc,hR,good,oZ,hpd,hds,hst,ho,hos,inc,hb,hok,_,q⟩:=h;ext b;have hu:=ia (gN (show 1<=64 by decide) _) hr.units
 refine⟨_,(zE (zK (i:=3) uY.nd rfl (Or.inr rfl) (pC Qo hr (zA (pv 0) (zA (pv 1) (zA (pv 2) zD)))))
  (zE (zK (i:=4) uY.nd rfl (Or.inr rfl) (zS (Ez rfl) rfl eE ke (zA (pv 3) zD)))
  (zG (zO (yT (aj:=[(0,"chart"),(4,"answering"),(3,"by_room")]) rfl (show bK (aC sW) ["chart","stand","event","by_room","answering"] _ _ _ from vm) (yM (pv 4)) (fun _ _ _ _ _ _=>fZ (oH (fY (pC Fe hr (zA (pv 1) (zA (pv 0) (zA (pv 2) zD))))))) (fun _ _ _ _ _ _=>(NB hu (pv 3) (pv 0) (fun _ _=>rfl)))))))),?_⟩
 refine⟨_,rfl,_,rfl,_,rfl,pc,Gs,pd,o,b,inter os,bx,ds,dv,_,_,_,_,_,_,_,ev,rfl,Uc,hpd,hds,hst,(by rw[Ek];exact ho),hb,hok,by lia,fun pb kvs H1 s1 h1 hv ⟨ks,hks,_⟩ _=>?_⟩;refine⟨_,rfl,pb,kvs,ks,rfl,h1,hks,by lia,fun pq zs npq nd perm uT=>?_⟩
 have mk:∀ k:Int,k∈ks↔(dY (inter os) bx ds k ev).isSome=true:=fun k=>by
  have e1:(cM kvs (Sum.inl k)).isSome=(dY (inter os) bx ds k ev).isSome:=by
   rw[hv k]
   cases dY (inter os) bx ds k ev <;> rfl
  rw[<-e1,<-jy,eL];constructor
  .intro z
   have:(Sum.inl k:Key)∈kvs.map (·.1):=by rw[hks];exact dU.mpr ⟨k,z,rfl⟩
   ext a;obtain⟨kv,hkv,e⟩:=dU.mp this;ext b;exact⟨kv,hkv,bp e⟩
  .rintro aQ;ext a;obtain⟨kv,hkv,e⟩:=aQ;ext b;have:(Sum.inl k:Key)∈kvs.map (·.1):=dU.mpr ⟨kv,hkv,ba e⟩;rw[hks]at this;ext a;obtain⟨j,hj,e⟩:=dU.mp this;ext b;injection e with e;exact e▸hj
 have ez:zs=inter (jL os bx ds ev):=by
  refine sy _ _ ((uT.and (perm.nodup_iff.mpr nd)).imp fun ⟨_,_⟩=>by lia) (List.pairwise_map.mpr ((inc.filter _).imp fun z=>by lia)) fun k=>?_;rw[perm.mem_iff,mk k];constructor
  .intro z
   have hin:inV (.int k) ((inter os).map V.int)=true:=by
    unfold dY at z
    by_cases y:inV (.int k) ((inter os).map V.int)=true
    .exact y
    .rw[cy y]at z
     cases z
   rw[Ek]at hin;ext a;obtain⟨j,hj,rfl⟩:=Ng hin;ext b;exact dU.mpr ⟨j,nH.mpr ⟨hj,z⟩,rfl⟩
  .intro z;ext a;obtain⟨j,hj,rfl⟩:=dU.mp z;ext b;exact (nH.mp hj).2
 subst ez;rw[Ek]
 have la:(jL os bx ds ev).length<=63:=by
  have:=perm.length_eq;unfold inter at this;rw[bh]at this;lia
 have hA:∀ r∈jL os bx ds ev,r<rs.length/\(dY (inter os) bx ds (r:Int) ev).isSome=true:=fun r hr'=>⟨hos r (nH.mp hr').1,(nH.mp hr').2⟩;have s2:=s1.trans (zF npq (.lst (aB (jL os bx ds ev))));have h2:upd H1 pq (.lst (aB (jL os bx ds ev))) pq=some (.lst (aB (jL os bx ds ev))):=zC;have hb2:=(zF npq (.lst (aB (jL os bx ds ev)))) _ _ h1;generalize upd H1 pq (.lst (aB (jL os bx ds ev)))=H2 at s2 h2 hb2 ⊢;refine⟨_,rfl,pq,rfl,⟨_,aV.of h2⟩,?_⟩;refine yS (K:=K) (fun i acc H'=>aG H2 H'/\acc=aB ((((jL os bx ds ev).take i).filter fun r => !Ah (tO od) (aD rs) r (jL os bx ds ev)).map fun r:Nat=>(dY (inter os) bx ds (r:Int) ev).getD 0)) ⟨aG.refl _,rfl⟩ (fun i acc H' ⟨e,_⟩=>aV.of (e _ _ h2)) (fun i y acc H' hy ⟨e1,e2⟩=>?_) (fun acc H' ⟨e1,e2⟩ p hp=>?_)
 .subst e2;obtain⟨hi,rfl⟩:=jg.yR hy;have hm:=hA _ (jT hi);have et:=jg.iK (f:=fun r => !Ah (tO od) (aD rs) r (jL os bx ds ev)) (gM hi);generalize (jL os bx ds ev)[i]=r at hm et
  have lt':(aB ((((jL os bx ds ev).take i).filter fun r => !Ah (tO od) (aD rs) r (jL os bx ds ev)).map fun r:Nat=>(dY (inter os) bx ds (r:Int) ev).getD 0)).length<=63:=by
   rw[zU,bh];have:=uN (fun r => !Ah (tO od) (aD rs) r (jL os bx ds ev)) ((jL os bx ds ev).take i);rw[iW]at this;lia
  have s3:=s2.trans e1;refine⟨_,rfl,_,rfl,_,rfl,pc,t,pq,od,_,_,_,_,_,rs,r,jL os bx ds ev,rfl,s3 _ _ Uc,hR.mono (aA.of s3),good,oZ,hm.1,e1 _ _ h2,(fun o ho=>(hA o ho).1),by lia,fun _ s4=>?_⟩;refine⟨_,rfl,?_⟩;rw[et];refine fu (fun c=>?_) (fun c=>?_)
  .have c':=c;obtain⟨k,hk⟩:=jv.mp hm.2;have hv':=hv (r:Int);rw[hk]at hv';have g:=uI.k (k:=Sum.inl (r:Int)) ((e1.trans s4) _ _ hb2);rw[hv']at g;refine⟨_,rfl,_,rfl,pb,_,rfl,g,zV (by lia),e1.trans s4,?_⟩;rw[cE c',iz,<-Ka];show _=_++aB [(dY (inter os) bx ds (r:Int) ev).getD 0];rw[hk];rfl
  .have c':¬ (!Ah (tO od) (aD rs) r (jL os bx ds ev))=true:=fun z=>by
    have c:(!Ah (tO od) (aD rs) r (jL os bx ds ev))=false:=c;rw[c]at z
    cases z
   rw[cy c',iB];exact⟨e1.trans s4,rfl⟩
 .subst e2;rw[vK (by rw[zU];exact bN _)];exact q p _ (s2.trans (e1.trans (zF hp _))) ((s2.trans e1).free hp) zC
end Fw
namespace jg
open PySem L2 qH rF JS
theorem YQ(xs:ay V)(h:k<=xs.length):rB xs none (some (k:Int))=xs.take k:=by unfold rB;rw[HT.Gb,HT.wC,List.drop_zero,Nat.sub_zero,ij h]
theorem QT(xs:ay V)(h:k+1<=xs.length):rB xs (some ((k:Int)+1)) none=xs.drop (k+1):=by
 have e:(k:Int)+1=((k+1:Nat):Int):=by lia
 unfold rB;rw[e,HT.Gb,HT.wC,ij h,vK (by rw[fh];exact bN _)]
theorem We{α:Type}{xs:ay α}{k:Nat}(v:α)(h:k<xs.length):xs.take k++[v]++xs.drop (k+1)=xs.set k v:=by rw[List.set_eq_take_append_cons_drop,cE h,bS];rfl
theorem j9:aH ["deed","boxes","sizes","kind","box","number"] ["deed","boxes","sizes"] (aC sX):=fJ
theorem KH{f:av}{fd:af}(F:dC K "changed" "changed" sX f fd):aO P w K mg base aa 1 f fd ["deed","boxes","sizes"] BX:=by
 refine F.ok j9 ?_ ?_
 .rintro _ _ _ _⟨vd,tb,ts,d,bx,sz,rfl,_⟩;rfl
 intro _ A _ s H _ Q E _ h
 ext a;obtain⟨vd,tb,ts,d,bx,sz,rfl,hd,hb,hs,hok,_,_,hpos,q⟩:=h;ext b
 refine⟨_,(zE (zK (i:=3) j9.nd rfl (bb rfl) (yB zH (pv 0) zB (fun _ _=>rfl)))
  (zE (yD (zL mH (pv 3) (zW (zA zP (zA zP zD))) rfl)
  (zG (zO (pv 1)))
  zT)
  (zE (zK (i:=4) j9.nd rfl (bb rfl) (yB zH (pv 0) zB (fun _ _=>rfl)))
  (zE (zK (i:=5) j9.nd rfl (bb rfl) (yB zH (pv 0) zB (fun _ _=>rfl)))
  (zZ (yD (zL yG (pv 3) zP (zR _))
  (zG (zK (i:=5) j9.nd rfl (bb rfl) (yC zY (yC yF (yB zH (pv 1) (pv 4) (fun _ _=>rfl)) (pv 5)) (yB zH (pv 2) (pv 4) (fun _ _=>rfl)))))
  zT)
  (zG (zO (yC pU (oK (yC (jh.or pU oN) (kh Rg (pv 1) pP (pO (pv 4))) (zW (zA (pv 5) zD)))) (kh Rg (pv 1) (pO (yC yF (pv 4) zB)) pP))))))))),?_⟩
 ext f;have two:(∃ a kd b n,vd = .ref a/\H a=some (.tup [.str kd,.int b,.int n])/\((kd = "set" /\ d = .set b n)∨(kd = "add" /\ d = .add b n))) ∨
   (∃ a kd u,vd = .ref a/\H a=some (.tup [.str kd,u])/\(kd = "say" ∨ kd = "send")/\d.upd sz bx=bx):=by
  cases hd with
  | say e=>exact .inr (fM _ _ _ ⟨rfl,e,.inl rfl,rfl⟩)
  | send e=>exact .inr (fM _ _ _ ⟨rfl,e,.inr rfl,rfl⟩)
  | set e=>exact .inl (jV _ _ _ _ ⟨rfl,e,.inl ⟨rfl,rfl⟩⟩)
  | add e=>exact .inl (jV _ _ _ _ ⟨rfl,e,.inr ⟨rfl,rfl⟩⟩)
 rcases two with ⟨a,kd,b,n,rfl,e,hk⟩ | ⟨a,kd,u,rfl,e,hk,hu⟩
 .refine⟨_,rfl,aF (aM.of e) rfl (aK ⟨_,rfl,zI (by show 2<=1000;decide),fun p hp=>?_⟩)⟩;have s1:aG H (upd H p (.tup [.str "set",.str "add"])):=zF hp _;have e1:=s1 _ _ e;refine (fL rfl (.inr (aM.of zC)) ⟨rfl,rfl,_,rfl,nT (by rcases hk with ⟨rfl,_⟩ | ⟨rfl,_⟩ <;> decide +kernel) ?_⟩);refine bD fun _ x_1=>?_;refine x_1 ⟨_,rfl,aF (aM.of e1) rfl ⟨_,rfl,aF (aM.of e1) rfl ?_⟩⟩
  have qIP:0<=b/\b<(bx.length:Int):=by
   rcases hk with ⟨_,rfl⟩ | ⟨_,rfl⟩ <;> exact hok b rfl
  ext a;obtain⟨hb0,hb1⟩:=qIP;obtain⟨k,rfl⟩:∃ k:Nat,b=(k:Int):=⟨b.toNat,by lia⟩;ext b
  have hkl:k<bx.length:=by lia
  refine⟨fun σ' H'=>H'=upd H p (.tup [.str "set",.str "add"])/\∃ v:Int,σ'=[some (.ref a),some (.ref tb),some (.ref ts),some (.str kd),some (.int (k:Int)),some (.int v)]/\d.upd sz bx=bx.set k v,?_,?_⟩
  .refine⟨_,rfl,rfl,_,rfl,?_⟩;rcases hk with ⟨rfl,rfl⟩ | ⟨rfl,rfl⟩
   .refine yN (by ext y) ?_;refine⟨rfl,n,rfl,?_⟩;show bx.set (k:Int).toNat n=_;rw[JT]
   .refine yO ?_;refine⟨_,rfl,_,rfl,aF (aM.of (s1 _ _ hb)) (za hb0 hb1) ⟨_,rfl,bB ⟨_,rfl,_,rfl,aF (aM.of (s1 _ _ hs)) (za hb0 (by lia)) (bB ⟨hpos _ (Yb hb0 (by lia)),?_⟩)⟩⟩⟩;refine⟨rfl,_,rfl,?_⟩;show bx.set (k:Int).toNat _=_;rw[JT]
  rintro σ' H' aQ;ext a;obtain⟨rfl,v,rfl,hv⟩:=aQ;ext b;have hb':=s1 _ _ hb;refine⟨fun x H'=>∃ t:av,x = .ref t/\aG (upd H p (.tup [.str "set",.str "add"])) H'/\H' t=some (.tup ((bx.take k++[v]).map V.int)),?_,?_⟩
  .refine⟨_,rfl,_,rfl,_,rfl,au tb _ ⟨rfl,aM.of hb',?_,fun p1 hp1=>?_⟩⟩
   .rw[HT.wC,bh];lia
   have s2:=zF hp1 (.tup (rB (bx.map V.int) none (some (k:Int))));refine⟨_,rfl,zI (by show 1<=1000;decide),fun p2 hp2=>?_⟩
   have e1':rB (bx.map V.int) none (some (k:Int))=(bx.take k).map V.int:=by
    rw[YQ _ (by rw[bh];lia),List.map_take]
   have s3:=zF hp2 (.tup [.int v])
   by_cases hk0:k=0
   .subst hk0;refine .inr (fM p1 p2 _ ⟨rfl,rfl,aM.of (s3 _ _ (by rw[zC,e1'];rfl)),aM.of zC,?_⟩);exact⟨p2,rfl,s2.trans s3,by rw[zC];rfl⟩
   .refine .inl (jV p1 p2 _ _ ⟨rfl,rfl,aM.of (s3 _ _ zC),aM.of zC,?_,?_,fun z=>(by cases z),fun _ p3 hp3=>?_⟩)
    .intro z;have:=congrArg List.length z;rw[e1',bh,iW,fi]at this;lia
    .rw[e1',bh,iW];exact zI (by show _+1<=1000;lia)
    .refine⟨p3,rfl,(s2.trans s3).trans (zF hp3 _),?_⟩;rw[zC,e1',iz];rfl
  rintro x _ aQ;ext a;obtain⟨t,rfl,s4,ht⟩:=aQ;ext b;refine⟨_,rfl,_,rfl,bB ⟨_,rfl,au tb _ ⟨rfl,aM.of (s4 _ _ hb'),?_,fun p4 hp4=>?_⟩⟩⟩
  .rw[show ((k:Int)+1)=((k+1:Nat):Int) by lia,HT.wC,bh];lia
  have e2':rB (bx.map V.int) (some ((k:Int)+1)) none=(bx.drop (k+1)).map V.int:=by
   rw[QT _ (by rw[bh];lia),List.map_drop]
  have s5:=zF hp4 (.tup (rB (bx.map V.int) (some ((k:Int)+1)) none))
  have all:(bx.take k++[v]).map V.int++(bx.drop (k+1)).map V.int=(d.upd sz bx).map V.int:=by
   rw[<-iz,We v hkl,hv]
  refine jV t p4 _ _ ⟨rfl,rfl,aM.of (s5 _ _ ht),aM.of zC,?_,?_,fun z=>?_,fun _ p5 Nz=>?_⟩
  .intro z;have:=congrArg List.length z;simp at this
  .rw[e2',bh,bh,dj,iW,fh];exact zI (by show min k bx.length+1+_<=1000;lia)
  .refine q t _ ((s1.trans s4).trans s5) ?_;rw[s5 _ _ ht,<-all];rw[e2']at z;rw[z,iB]
  .refine q p5 _ (((s1.trans s4).trans s5).trans (zF Nz _)) ?_;rw[zC,e2',all]
 .refine⟨_,rfl,aF (aM.of e) rfl (aK ⟨_,rfl,zI (by show 2<=1000;decide),fun p hp=>?_⟩)⟩;refine (fL rfl (.inr (aM.of zC)) ⟨rfl,rfl,_,rfl,zx (by rcases hk with rfl | rfl <;> decide +kernel) ?_⟩);refine⟨_,rfl,q tb _ (zF hp _) ?_⟩;rw[hu];exact zF hp _ _ _ hb
end jg
namespace jg
open PySem L2 qH rF Qz
theorem qDG:¬ (("most" : Str) = "events"):=by ext y
def Kv(m:Nat)(d:av):ay (Str×V):=cZ "events" (.ref d) (cZ "most" (.int (m:Int)) [])
theorem iJ(m:Nat)(d:av):(Kv m d).lookup ("events" : Str)=some (.ref d):=by unfold Kv;rw[aU,cE rfl]
theorem QM(m:Nat)(d:av):(Kv m d).lookup ("most" : Str)=some (.int (m:Int)):=by unfold Kv;rw[aU,cy qDG,aU,cE rfl]
theorem Et(m:Nat)(d:av){x:Str}(h1:¬ x = "events")(h2:¬ x = "most"):(Kv m d).lookup x=none:=by
 unfold Kv;rw[aU,cy h1,aU,cy h2]
 all_goals rfl
def LL(C:av):LA:=fun H p fp m l => ∃ dx d:av,fp=[p,d]/\H p=some (.ins C dx (Kv m d))/\H d=some (.lst (l.map V.int))
theorem ie(C:av):qGD C (LL C) where
 keep:=by
  rintro H _ p fp m l ⟨dx,d,rfl,h1,h2⟩ k;exact au dx d ⟨rfl,k p (by simp) _ h1,k d (by simp) _ h2⟩
 there:=by
  rintro H p fp m l ⟨dx,d,rfl,h1,h2⟩ b hb;rcases bL.mp hb with rfl | hb
  .rw[h1];intro z
   cases z
  .rw[bJ.mp hb,h2];intro z
   cases z
 obj:=by  rintro H p fp m l ⟨dx,d,rfl,h1,h2⟩;exact au dx _ ⟨h1,Et _ _ (by ext y) (by ext y),Et _ _ (by ext y) (by ext y),Et _ _ (by ext y) (by ext y)⟩
theorem Wh:aH ["self","most"] ["self","most"] (aC Mm):=fJ
theorem Xg(F:dC K "__init__" "Letters.__init__" Mm f fd)(cl:wN K C)(nM:bZ K C "most")(nE:bZ K C "events"):aO P w K mg base aa 1 f fd ["self","most"] (Jk C (LL C)):=by
 refine F.ok Wh ?_ ?_
 .rintro _ _ _ _⟨p,dx,m,rfl,_⟩;rfl
 intro _ A _ s H _ Q E _ h
 ext a;obtain⟨p,dx,m,rfl,hp,_,k⟩:=h;ext b;refine⟨_,(zE (uc (pv 0) (pv 1) rfl) (zG (uc (pv 0) (yK zD) rfl))),?_⟩;ext f;refine⟨_,rfl,_,rfl,jV p C dx [] ⟨rfl,hp,cl,nM,(by show 0<1000;decide),aK ⟨bg _,fun d hd=>?_⟩⟩⟩
 have Vx:p≠d:=fun z=>by
  rw[<-z,zC]at hd
  cases hd
 have hd0:H d=none:=by
  rw[zQ (bt Vx)]at hd;exact hd
 refine⟨_,rfl,jV p C dx _ ⟨rfl,(by rw[zQ Vx];exact zC),cl,nE,(by show 1<1000;decide),?_⟩⟩;refine k [p,d] _ (au dx d ⟨rfl,zC,by rw[zQ (bt Vx),zC];rfl⟩) (fun b hb=>?_) fun b o e hb=>?_
 .rcases bL.mp hb with rfl | hb
  .exact .inl rfl
  .rw[bJ.mp hb];exact .inr hd0
 .rw[zQ hb,zQ (zM e hd0),zQ hb];exact e
theorem Zu:aH ["self","event"] ["self","event"] (aC Wi):=fJ
theorem qAI(F:dC K "add" "Letters.add" Wi f fd)(cl:wN K C)(nM:bZ K C "most")(nE:bZ K C "events")(aP:mg "len" = none):aO P w K mg base aa 1 f fd ["self","event"] (Yt (LL C)):=by
 refine F.ok Zu ?_ ?_
 .rintro _ _ _ _⟨p,fp,m,l,e,rfl,_⟩;rfl
 intro _ A _ s H _ Q E _ h
 ext a;obtain⟨p,fp,m,l,e,rfl,⟨dx,d,rfl,h1,h2⟩,_,_,k⟩:=h;ext b
 refine⟨_,(zE (yD (zL Yz (zS zN rfl aP bU (zA (cG (pv 0) rfl) zD)) (cG (pv 0) rfl) (zR _))
  (zG (zO kj))
  zT)
  (zE (yI (dz il rO rN yH (cG (pv 0) rfl) (zA (pv 1) zD)))
  (zG (zO kj)))),?_⟩
 ext f;refine⟨_,rfl,fM p C dx (au _ _ ⟨rfl,h1,cl,nE,iJ _ _,fL rfl (.inl (aV.of h2)) ⟨_,rfl,fM p C dx (au _ _ ⟨rfl,h1,cl,nM,QM _ _,au _ _ ⟨rfl,rfl,_,rfl,?_⟩⟩)⟩⟩)⟩;have Vx:=cJ h1 h2 (by intro z;cases z);refine oY (fun c=>?_) (fun c=>?_)
 .have c':=ba c;rw[bh]at c'
  have c2:¬ l.length<m:=by lia
  have r:=k [p,d] H (au dx d ⟨rfl,h1,by unfold added;rw[cy c2];exact h2⟩) ⟨fun b hb=>.inl hb,fun b o eb _=>eb⟩;rw[bo c2]at r;exact r
 ext c
 .have c':¬ ((m:Int)<=(((l.map V.int).length:Nat):Int)):=fun z=>c (bp z);rw[bh]at c'
  have c2:l.length<m:=by lia
  refine⟨_,rfl,fM p C dx (au _ _ ⟨rfl,h1,cl,nE,iJ _ _,.inl ⟨rfl,_,aV.of h2⟩,_,rfl,d,_,_,rfl,rfl,h2,zV (by rw[bh];lia),?_⟩)⟩;ext g
  have r:=k [p,d] (upd H d (.lst (l.map V.int++[.int e]))) (au dx d ⟨rfl,by rw[zQ Vx];exact h1,by unfold added;rw[cE c2,zC,iz];rfl⟩) ⟨fun b hb=>.inl hb,fun b o eb nb=>by
   rw[zQ (fun z:b=d=>nb (by rw[z];simp))]
   exact eb⟩
  rw[bp c2]at r;exact r
theorem Jp:aH ["self"] ["self"] (aC sS):=fJ
theorem K5(F:dC K "waiting" "Letters.waiting" sS f fd)(cl:wN K C)(nE:bZ K C "events")(jG:mg "list" = none):aO P w K mg base aa 1 f fd ["self"] (BP (LL C)):=by
 refine F.ok Jp ?_ ?_
 .rintro _ _ _ _⟨p,fp,m,l,rfl,_⟩;rfl
 intro _ A _ s H _ Q E _ h
 ext a;obtain⟨p,fp,m,l,rfl,⟨dx,d,rfl,h1,h2⟩,_,_,k⟩:=h;ext b;refine⟨_,(zG (zO (yA gF rfl jG kc (zA (cG (pv 0) rfl) zD)))),?_⟩;refine⟨_,rfl,fM p C dx (au _ _ ⟨rfl,h1,cl,nE,iJ _ _,fL rfl (.inl (aV.of h2)) (fun q hq=>?_)⟩)⟩;refine k q [p,d] _ (au dx d ⟨rfl,by rw[zQ (zM h1 hq)];exact h1,by rw[zQ (zM h2 hq)];exact h2⟩) ⟨fun b hb=>.inl hb,fun b o eb _=>zF hq _ b o eb⟩ hq (fun z=>?_) zC;rcases bL.mp z with z | z
 .exact zM h1 hq z.symm
 .exact zM h2 hq (bJ.mp z).symm
theorem Rj:aH ["self"] ["self"] (aC Ds):=fJ
theorem Sy(F:dC K "taken" "Letters.taken" Ds f fd)(cl:wN K C)(nE:bZ K C "events")(aP:mg "len" = none):aO P w K mg base aa 1 f fd ["self"] (M8 (LL C)):=by
 refine F.ok Rj ?_ ?_
 .rintro _ _ _ _⟨p,fp,m,l,rfl,_⟩;rfl
 intro _ A _ s H _ Q E _ h
 ext a;obtain⟨p,fp,m,l,rfl,⟨dx,d,rfl,h1,h2⟩,_,_,k⟩:=h;ext b
 refine⟨_,(zE (yD (zL yG (zS zN rfl aP bU (zA (cG (pv 0) rfl) zD)) zB (zR _))
  (zG (zO cQ))
  zT)
  (zG (zO (dz il PySem.F.slot_list_pop PySem.F.type_list_pop Ti (cG (pv 0) rfl) (zA zB zD))))),?_⟩
 ext f;refine⟨_,rfl,fM p C dx (au _ _ ⟨rfl,h1,cl,nE,iJ _ _,fL rfl (.inl (aV.of h2)) ⟨rfl,_,rfl,?_⟩⟩)⟩;have Vx:=cJ h1 h2 (by intro z;cases z)
 cases l with
 | nil=>exact zx rfl (k [p,d] H (au dx d ⟨rfl,h1,h2⟩) ⟨fun b hb=>.inl hb,fun b o eb _=>eb⟩)
 | cons e l=>
  refine nT ?_ ?_
  .rw[bh];refine bo fun z=>?_;injection z with z;rw[cY]at z;lia
  ext g;refine⟨_,rfl,fM p C dx (au _ _ ⟨rfl,h1,cl,nE,iJ _ _,.inl ⟨rfl,_,aV.of h2⟩,fM d _ 0 (au 0 (.int e) ⟨rfl,rfl,h2,by decide,by decide,?_,rfl,?_⟩)⟩)⟩
  .rw[bh,cY];unfold seqIndex?;simp
  .exact k [p,d] _ (au dx d ⟨rfl,by rw[zQ Vx];exact h1,zC⟩) ⟨fun b hb=>.inl hb,fun b o eb nb=>by
    rw[zQ (fun z:b=d=>nb (by rw[z];simp))]
    exact eb⟩
end jg
namespace jg
open PySem L2 qH rF JS Qz
theorem Lh(h:LL C H p fp m l)(ht:H t=some (.tup xs)):t∉fp:=by
 obtain⟨_,d,rfl,h1,h2⟩:=h;intro z;rcases bL.mp z with z | z
 .rw[z,h1]at ht
  cases ht
 .rw[bJ.mp z,h2]at ht
  cases ht
def wj(L:LA):Sp:=fun vs H Q _ => ∃ vd tb p d bx sz l fp m G,vs=[vd,.ref tb,.ref p]/\aG G H/\(∀ b∈fp,G b=none)/\vG G vd d/\G tb=some (.tup ((d.upd sz bx).map V.int))/\L H p fp m l/\d.ok bx.length/\bx.length<=6/\l.length<=m/\m<=12 ∧
 ∀ t fp' H',L H' p fp' m (d.lin m l)->bH H H' fp fp'->H' t=some (.tup (d.rc sz m bx l).row)->t∉fp'->Q (.ref t) H'
theorem vM:aH ["deed","boxes","letters","kind"] ["deed","boxes","letters"] (aC pM):=fJ
theorem HF(F:dC K "recorded" "recorded" pM f fd)(cl:wN K C)(mA:Meth K C "add" ga)(qGE:aO P w K mg base aa n ga da ["self","event"] (Yt (LL C)))(qFW:Binds K da ["self","event"] []) :
  aO P w K mg base aa (n+1) f fd ["deed","boxes","letters"] (wj (LL C)):=by
 refine F.ok vM ?_ ?_
 .rintro _ _ _ _⟨vd,tb,p,d,bx,sz,l,fp,m,G,rfl,_⟩;rfl
 ext d
 ext a;obtain⟨vd,tb,p,d,bx,sz,l,fp,m,G,rfl,sg,ng,hd,hb,hL,hok,_,hl,hm,k⟩:=h;ext b
 refine⟨_,(zE (zK (i:=3) vM.nd rfl (bb rfl) (yB zH (pv 0) zB (fun _ _=>rfl)))
  (zE (yD (zL yG (pv 3) zP (zR _))
  (zG (zO (zW (zA zP (zA (yB zH (pv 0) zB (fun _ _=>rfl)) zD)))))
  zT)
  (zE (yD (zL yG (pv 3) zP (zR _))
  (zG (zO (zW (zA (Gx (fY (t8 (pv 2) cl mA qGE hr qFW .nil yE (zA (yB zH (pv 0) zB (fun _ _=>rfl)) zD))) zP zP) (zA (yB zH (pv 0) zB (fun _ _=>rfl)) zD)))))
  zT)
  (zG (zO (zW (zA zP (zA (yB zH (pv 0) zB (fun _ _=>rfl)) (zA (yB zH (pv 1) (yB zH (pv 0) zB (fun _ _=>rfl)) (fun _ _=>rfl)) zD))))))))),?_⟩
 ext f
 have nG:∀ b o,G b=some o->b∉fp:=fun b o e z=>by
  rw[ng b z]at e
  cases e
 have fin:∀ t:av,H t=none->∀ row:ay V,row=(d.rc sz m bx l).row->d.lin m l=l->Q (.ref t) (upd H t (.tup row)):=fun t ht row e1 e2=>by
  have s1:=zF ht (.tup row);refine k t fp _ (by rw[e2];exact (ie C).keep hL fun b _ o e=>s1 b o e) ⟨fun b hb=>.inl hb,fun b o e _=>s1 b o e⟩ (by rw[zC,e1]) (fun z=>(ie C).there hL t z ht)
 have two:(∃ a kd b n,vd = .ref a/\G a=some (.tup [.str kd,.int b,.int n])/\(kd = "set" ∨ kd = "add")/\d.box=some b/\d.rc sz m bx l = .put b (at0 (d.upd sz bx) b)/\d.lin m l=l) ∨
   (∃ a wd,vd = .ref a/\G a=some (.tup [.str "say",.str wd])/\d = .say wd)∨(∃ a ev,vd = .ref a/\G a=some (.tup [.str "send",.int ev])/\d = .send ev):=by
  cases hd with
  | say e=>exact .inr (.inl (au _ _ ⟨rfl,e,rfl⟩))
  | send e=>exact .inr (.inr (au _ _ ⟨rfl,e,rfl⟩))
  | set e=>exact .inl (jV _ _ _ _ ⟨rfl,e,.inl rfl,rfl,rfl,rfl⟩)
  | add e=>exact .inl (jV _ _ _ _ ⟨rfl,e,.inr rfl,rfl,rfl,rfl⟩)
 rcases two with ⟨a,kd,b,n',rfl,e,hk,hbx,UW,qIK⟩ | ⟨a,wd,rfl,e,rfl⟩ | ⟨a,ev,rfl,e,rfl⟩
 .have e':=sg _ _ e;have hb':=sg _ _ hb;obtain⟨b0,_⟩:=hok b hbx;have ul:=d.Ly sz bx;refine⟨_,rfl,aF (aM.of e') rfl ?_⟩;ext c;refine⟨_,rfl,rfl,_,rfl,yN (by rcases hk with rfl | rfl <;> decide +kernel) ?_⟩;ext c;refine⟨_,rfl,rfl,_,rfl,yN (by rcases hk with rfl | rfl <;> decide +kernel) ?_⟩;ext g;refine⟨_,rfl,aF (aM.of e') rfl ⟨_,rfl,_,rfl,aF (aM.of e') rfl (aF (aM.of hb') (za b0 (by lia)) ⟨zI (by show 3<=1000;decide),fun t ht=>?_⟩)⟩⟩;exact fin t ht _ (by rw[UW];rfl) qIK
 .have e':=sg _ _ e;refine⟨_,rfl,aF (aM.of e') rfl ?_⟩;ext c;refine⟨_,rfl,rfl,_,rfl,yO ?_⟩;exact⟨_,rfl,aF (aM.of e') rfl ⟨zI (by show 2<=1000;decide),fun t ht=>fin t ht _ rfl rfl⟩⟩
 .have e':=sg _ _ e;ext a;obtain⟨dx,fs,ho,n1,_,_⟩:=(ie C).obj hL;ext b;refine⟨_,rfl,aF (aM.of e') rfl ?_⟩;ext c;refine⟨_,rfl,rfl,_,rfl,yN (by ext y) ?_⟩;ext c;refine⟨_,rfl,rfl,_,rfl,yO ?_⟩;refine⟨_,rfl,fM p dx fs ⟨rfl,ho,n1,_,rfl,aF (aM.of e') rfl ⟨p,fp,m,l,ev,rfl,hL,hl,hm,fun fp' H1 hL1 st=>⟨_,rfl,?_⟩⟩⟩⟩;have e1:=st.rest _ _ e' (nG _ _ e)
  have fin2:∀ t:av,H1 t=none->∀ row:ay V,row=((Dd.send ev).rc sz m bx l).row->Q (.ref t) (upd H1 t (.tup row)):=fun t ht row er=>by
   have s1:=zF ht (.tup row);refine k t fp' _ ((ie C).keep hL1 fun b _ o e=>s1 b o e) ⟨st.own,fun b o e nb=>s1 b o (st.rest b o e nb)⟩ (by rw[zC,er]) (fun z=>(ie C).there hL1 t z ht)
  refine oY (fun c=>?_) (fun c=>?_)
  .refine⟨_,rfl,aF (aM.of e1) rfl ⟨zI (by show 2<=1000;decide),fun t ht=>fin2 t ht _ ?_⟩⟩;show _=(if l.length<m then Rc.send ev else Rc.lost ev).row;rw[cE (ba c)];rfl
  .refine⟨_,rfl,aF (aM.of e1) rfl ⟨zI (by show 2<=1000;decide),fun t ht=>fin2 t ht _ ?_⟩⟩;show _=(if l.length<m then Rc.send ev else Rc.lost ev).row;rw[cy fun z=>c (bp z)];rfl
theorem rY:aH ["deeds","boxes","sizes","letters","held","record","deed"] ["deeds","boxes","sizes","letters"] (aC Mp):=fJ
theorem Xj(F:dC K "done" "done" Mp f fd)(Qn:Dp P w K mg base aa n gc dc ["deed","boxes","sizes"] BX "changed")
  (Lp:Dp P w K mg base aa n gr dr ["deed","boxes","letters"] (wj (LL C)) "recorded") :
  aO P w K mg base aa (n+1) f fd ["deeds","boxes","sizes","letters"] (Rb (LL C)):=by
 refine F.ok rY ?_ ?_
 .rintro _ _ _ _⟨td,tb,ts,p,ds,bx,sz,l,dv,fp,m,G,rfl,_⟩;rfl
 ext d
 ext a;obtain⟨td,tb,ts,p,ds,bx,sz,l,dv,fp,m,G,rfl,sg,ng,htd,hds,htb,hts,hL,hok,_,hbs,h6,hpos,hl,hm,q⟩:=h;ext b
 refine⟨_,(zE (zK (i:=4) rY.nd rfl (bb rfl) (pv 1))
  (zE (zK (i:=5) rY.nd rfl (bb rfl) (yK zD))
  (zZ (cC PassesOwn.never rfl (oJ (pv 0)) (yJ (i:=6) rY.nd rfl (bb rfl))
  (zE (zK (i:=4) rY.nd rfl (bb rfl) (pC Qn hr (zA (pv 6) (zA (pv 4) (zA (pv 2) zD)))))
  (zG (yI (dz il rO rN yH (pv 5) (zA (pC Lp hr (zA (pv 6) (zA (pv 4) (zA (pv 3) zD)))) zD))))))
  (zG (zO (zW (zA (pv 4) (zA (pv 5) zD)))))))),?_⟩
 ext f
 have nG:∀ b o,G b=some o->b∉fp:=fun b o e z=>by
  rw[ng b z]at e
  cases e
 refine⟨_,rfl,aK ⟨bg _,fun pr hpr=>?_⟩⟩;have s0:=zF hpr (.lst []);have Nb:pr∉fp:=fun z=>(ie C).there hL pr z hpr;have nds:=hds.length
 refine⟨fun σ' Hi => ∃ uL cX rv o6,σ'=[some (.ref td),some (.ref tb),some (.ref ts),some (.ref p),some (.ref uL),some (.ref pr),o6]/\LL C Hi p cX m (Ag m ds l)/\bH H Hi fp cX ∧
   Hi uL=some (.tup ((xT sz ds bx).map V.int))/\uL∉cX/\Hi pr=some (.lst rv)/\pr∉cX/\jN (yu cX Hi) rv (vZ sz m ds bx l),?_,?_⟩
 .refine⟨_,rfl,td,rfl,⟨_,aM.of (s0 _ _ (sg _ _ htd))⟩,?_⟩
  refine YF (K:=K) (a:=td) (xs:=dv) (fun i σ' Hi => ∃ uL cX rv o6,σ'=[some (.ref td),some (.ref tb),some (.ref ts),some (.ref p),some (.ref uL),some (.ref pr),o6]/\LL C Hi p cX m (Ag m (ds.take i) l)/\bH H Hi fp cX ∧
   Hi uL=some (.tup ((xT sz (ds.take i) bx).map V.int))/\uL∉cX/\Hi pr=some (.lst rv)/\pr∉cX/\jN (yu cX Hi) rv (vZ sz m (ds.take i) bx l))
   (jV tb fp [] none ⟨rfl,(ie C).keep hL fun b _ o e=>s0 b o e,⟨fun b hb=>.inl hb,fun b o e _=>s0 b o e⟩,s0 _ _ (sg _ _ htb),nG _ _ htb,zC,Nb,.nil⟩) ?_ ?_ ?_
  .rintro i σ' Hi _ aQ;ext a;obtain⟨uL,cX,rv,o6,rfl,_,st,_⟩:=aQ;ext b;exact aM.of (st.rest _ _ (sg _ _ htd) (nG _ _ htd))
  .rintro i x σ' Hi hx aQ;refine Q0 fun _ x_1 _ nJ=>?_;ext a;obtain⟨uL,cX,rv,o6,rfl,hLi,st,hbi,nbi,JQ,Pz,UW⟩:=aQ;obtain⟨d,hd,hdi⟩:=hds.get hx;ext b;have hdm:=zp hd;have hil:=(fO.mp hd).1
   have gi:∀ b o,G b=some o->Hi b=some o/\b∉cX:=fun b o e=>by
    refine⟨st.rest b o (sg b o e) (nG b o e),fun z=>?_⟩;rcases st.own b z with y | y
    .exact nG b o e y
    .rw[sg b o e]at y
     cases y
   have lb:=xR sz (ds.take i) bx;have ll:=xQ (ds.take i) l hl;refine⟨_,rfl,_,rfl,_,rfl,x,uL,ts,d,_,sz,rfl,hdi.mono (fun b xs e=>(gi b _ e).1),hbi,(gi _ _ hts).1,(by rw[lb];exact hok d hdm),(by rw[lb];exact hbs),(by rw[lb];exact h6),hpos,fun t H1 s1 ht=>?_⟩;refine nJ ?_;clear nJ;have hL1:=(ie C).keep hLi fun b _ o e=>s1 b o e;have nt:=Lh hL1 ht;have hr1:=s1 _ _ JQ;refine⟨_,rfl,.inl ⟨rfl,_,aV.of hr1⟩,_,rfl,_,rfl,_,rfl,x,t,p,d,xT sz (ds.take i) bx,sz,Ag m (ds.take i) l,cX,m,yu cX H1,rfl,fun b o e=>(qF e).1,fun b hb=>Ob hb,?_,tY ht nt,hL1,(by rw[lb];exact hok d hdm),(by rw[lb];exact h6),ll,hm,fun t2 zz H2 hL2 st2 zy nt2=>?_⟩
   .exact hdi.mono fun b xs e=>tY (s1 _ _ (gi b _ e).1) (gi b _ e).2
   have hr2:=st2.rest _ _ hr1 Pz
   have WX:∀ b o,H1 b=some o->b∉cX->H2 b=some o/\b∉zz:=fun b o e nb=>⟨st2.rest b o e nb,fun z=>by
    rcases st2.own b z with y | y
    .exact nb y
    .rw[e]at y
     cases y⟩
   have nr2:=(WX _ _ hr1 Pz).2;have rl:=UW.length;rw[sZ,iW]at rl;refine⟨pr,_,_,rfl,rfl,hr2,zV (by lia),?_⟩;refine x_1 ?_;clear x_1
   have Fv:ds.take (i+1)=ds.take i++[d]:=by
    rw[iV,hd];rfl
   refine jV t zz (rv++[.ref t2]) _ ⟨rfl,?_,⟨fun b hb=>?_,fun b o e nb=>?_⟩,?_,(WX _ _ ht nt).2,zC,nr2,?_⟩
   .rw[Fv,Bc];refine (ie C).keep hL2 fun b hb o e=>?_;rw[zQ (fun z:b=pr=>nr2 (by rw[<-z];exact hb))];exact e
   .by_cases z:b∈fp
    .exact .inl z
    .rcases st2.own b hb with y | y
     .exact st.own b y
     .right
      cases w':H b with
      | none=>rfl
      | some o=>
       have:=s1 _ _ (st.rest b o w' z);rw[y]at this
       cases this
   .have bi:b∉cX:=fun z=>by
     rcases st.own b z with y | y
     .exact nb y
     .rw[e]at y
      cases y
    rw[zQ (zM e hpr)];exact st2.rest b o (s1 _ _ (st.rest b o e nb)) bi
   .rw[zQ (cJ ht hr1 (by intro z;cases z)),Fv,Bd];exact (WX _ _ ht nt).1
   .rw[Fv,Bb];refine (UW.mono fun b xs e=>?_).snoc (tY ?_ nt2)
    .ext a;obtain⟨e1,e2⟩:=qF e;obtain⟨e3,e4⟩:=WX _ _ (s1 _ _ e1) e2;ext b;refine tY ?_ e4;rw[zQ (cJ e1 JQ (by intro z;cases z))];exact e3
    .rw[zQ (cJ zy hr2 (by intro z;cases z))];exact zy
  .rintro σ' Hi aQ;ext a;obtain⟨uL,cX,rv,o6,h1,h2,h3,h4,h5,h6',h7,h8'⟩:=aQ;ext b;rw[nds,gL]at h2 h4 h8';exact jV uL cX rv o6 ⟨h1,h2,h3,h4,h5,h6',h7,h8'⟩
 rintro σ' Hi aQ;ext a;obtain⟨uL,cX,rv,o6,rfl,hLi,st,hbi,nbi,JQ,Pz,UW⟩:=aQ;ext b;refine⟨_,rfl,_,rfl,zI (by show 2<=1000;decide),fun t ht=>?_⟩;have s1:=zF ht (.tup [.ref uL,.ref pr]);exact q t uL pr rv cX _ ((ie C).keep hLi fun b _ o e=>s1 b o e) ⟨st.own,fun b o e nb=>s1 b o (st.rest b o e nb)⟩ zC (s1 _ _ hbi) nbi (s1 _ _ JQ) hpr (UW.mono fun b xs e=>s1 _ _ (qF e).1)
end jg
namespace Ru
open PySem L2 qH rF Cv Qz JS jg
open Fw (Al)
inductive En where
 | rc (r:Rc)
 | inn (k:Nat)
 | out (k:Nat)
 | door (k:Nat)
 | thr (k:Nat)
 | take (e:Int)
noncomputable def En.row:En->ay V
 | .rc r=>r.row
 | .inn k=>[.str "in",.int (k:Int)]
 | .out k=>[.str "out",.int (k:Int)]
 | .door k=>[.str "door",.int (k:Int)]
 | .thr k=>[.str "through",.int (k:Int)]
 | .take e=>[.str "take",.int e]
def gJ(H:Hp)(v:V)(e:En):Prop:=∃ a:av,v = .ref a/\H a=some (.tup e.row)
theorem gJ.mono(x:gJ H v e)(k:aA H H'):gJ H' v e:=by obtain⟨a,h1,h2⟩:=x;exact⟨a,h1,k _ _ h2⟩
def uE(H:Hp)(v:V)(ds:ay Dd):Prop:=∃ a dv,v = .ref a/\H a=some (.tup dv)/\iT H dv ds
theorem uE.mono(x:uE H v ds)(k:aA H H'):uE H' v ds:=by obtain⟨a,dv,h1,h2,h3⟩:=x;exact⟨a,dv,h1,k _ _ h2,h3.mono k⟩
abbrev Sd:=En×ay Dd
def rE(H:Hp)(v:V)(s:Sd):Prop:=∃ a am dv,v = .ref a/\H a=some (.tup [.ref am,dv])/\H am=some (.tup s.1.row)/\uE H dv s.2
theorem rE.mono(x:rE H v s)(k:aA H H'):rE H' v s:=by obtain⟨a,am,dv,h1,h2,h3,h4⟩:=x;exact⟨a,am,dv,h1,k _ _ h2,k _ _ h3,h4.mono k⟩
noncomputable def sstep(sz:ay Int)(m:Nat)(s:ay Int×ay Int×ay En)(x:Sd):ay Int×ay Int×ay En:=(xT sz x.2 s.1,Ag m x.2 s.2.1,s.2.2++(x.1::(vZ sz m x.2 s.1 s.2.1).map En.rc))
def cT(sz:ay Int)(m:Nat)(ss:ay Sd)(bx l:ay Int):ay Int×ay Int×ay En:=ss.foldl (sstep sz m) (bx,l,[])
theorem qj(sz:ay Int)(m:Nat)(ss:ay Sd)(x:Sd)(bx l:ay Int):cT sz m (ss++[x]) bx l=sstep sz m (cT sz m ss bx l) x:=by unfold cT;rw[fe];rfl
theorem v7(sz:ay Int)(m:Nat):∀(ss:ay Sd)(s:ay Int×ay Int×ay En),(ss.foldl (sstep sz m) s).1.length=s.1.length/\(s.2.1.length<=m->(ss.foldl (sstep sz m) s).2.1.length<=m)
 | [],s=>⟨rfl,fun h=>h⟩
 | x::ss,s=>by
  have ih:=v7 sz m ss (sstep sz m s x);rw[ff];refine⟨by rw[ih.1];exact xR sz x.2 s.1,fun h=>ih.2 (xQ x.2 s.2.1 h)⟩
theorem wZ(sz:ay Int)(m:Nat)(ss:ay Sd)(bx l:ay Int):(cT sz m ss bx l).1.length=bx.length:=(v7 sz m ss _).1
theorem DY(h:l.length<=m):(cT sz m ss bx l).2.1.length<=m:=(v7 sz m ss (bx,l,[])).2 h
theorem O5(sz:ay Int)(m:Nat):∀(ss:ay Sd)(s:ay Int×ay Int×ay En),(∀ x∈ss,x.2.length<=8)->(ss.foldl (sstep sz m) s).2.2.length<=s.2.2.length+9*ss.length
 | [],s,_=>by simp
 | x::ss,s,h=>by
  have ih:=O5 sz m ss (sstep sz m s x) fun y hy=>h y (Fj _ hy);have hx:=h x (wO ..)
  have e:(sstep sz m s x).2.2.length=s.2.2.length+(1+x.2.length):=by
   show (s.2.2++(x.1::(vZ sz m x.2 s.1 s.2.1).map En.rc)).length=_;rw[dj,cY,bh,sZ];lia
  rw[ff,cY];lia
theorem wY(h:∀ x∈ss,x.2.length<=8):(cT sz m ss bx l).2.2.length<=9*ss.length:=by have:=O5 sz m ss (bx,l,[]) h;have e:(bx,l,([]:ay En)).2.2.length=0:=rfl;rw[e,iS]at this;exact this
theorem qA1(x:jN H rv rs):Al (gJ H) rv (rs.map En.rc):=by
 induction x with
 | nil=>exact .nil
 | cons h _ ih=>exact .cons ⟨_,rfl,h⟩ ih
theorem Al.app(x:Al R vs rs)(y:Al R ws ss):Al R (vs++ws) (rs++ss):=by
 induction x with
 | nil=>exact y
 | cons h _ ih=>exact .cons h ih
theorem Al.cast(e:vs=ws)(x:Al R ws rs):Al R vs rs:=by rw[e];exact x
theorem bH.trans(a:bH H H1 fp fp1)(b:bH H1 H2 fp1 zz):bH H H2 fp zz where
 own:=fun c hc=>by
  by_cases z:c∈fp
  .exact .inl z
  .rcases b.own c hc with y | y
   .exact a.own c y
   .right
    cases w':H c with
    | none=>rfl
    | some o=>
     have:=a.rest c o w' z;rw[y]at this
     cases this
 rest:=fun c o e nb=>b.rest c o (a.rest c o e nb) fun z=>by
  rcases a.own c z with y | y
  .exact nb y
  .rw[e]at y
   cases y
theorem bH.same(fp:ay av)(s:aG H H'):bH H H' fp fp:=⟨fun _ h=>.inl h,fun b o e _=>s b o e⟩
theorem bH.apart(a:bH H H' fp fp')(e:H b=some o)(n:b∉fp):H' b=some o/\b∉fp':=⟨a.rest b o e n,fun z=>by
 rcases a.own b z with y | y
 .exact n y
 .rw[e]at y
  cases y⟩
theorem bH.keep(a:bH H H' fp fp')(h:LL C H p fp m l):aA H H':=fun b _ e=>a.rest b _ e (Lh h e)
theorem bH.upd(a:bH H H' fp fp')(n:H b=none)(o:HO):bH H (upd H' b o) fp fp':=⟨a.own,fun c u e nc=>by
 rw[zQ (zM e n)]
 exact a.rest c u e nc⟩
theorem LL.same(h:LL C H p fp m l)(s:aG H H'):LL C H' p fp m l:=(ie C).keep h fun b _ o e=>s b o e
theorem LL.upd(h:LL C H p fp m l)(n:b∉fp)(o:HO):LL C (upd H b o) p fp m l:=(ie C).keep h fun c hc u e=>by
 rw[zQ (fun z:c=b=>n (by rw[<-z];exact hc))];exact e
theorem LL.new(h:LL C H p fp m l)(n:H b=none):b∉fp:=fun z=>(ie C).there h b z n
def Qq(H:Hp)(v:V)(z:Int):Prop:=∃ a n s,v = .ref a/\H a=some (.tup [n,.int z,s])
theorem Qq.mono(x:Qq H v z)(k:aA H H'):Qq H' v z:=by obtain⟨a,n,s,h1,h2⟩:=x;exact⟨a,n,s,h1,k _ _ h2⟩
inductive Dc(vs:List V)(H:Hp)(Q:VK)(E_:XK):Prop
 | mk (pc pb x0 x1 x2 x4 x5 x6 bv sz) (_:vs=[.ref pc]) (_:H pc=some (.tup [x0,x1,x2,.ref pb,x4,x5,x6])) (_:H pb=some (.tup bv)) (_:Al (Qq H) bv sz) (_:sz.length<=100) (_:∀ t H',aG H H'->H' t=some (.tup (sz.map V.int))->Q (.ref t) H')
def ZP(H:Hp)(rs:ay Rm)(di dO:Nat->ay Dd):Prop:=∀ k r,rs[k]? = some r->uE H r.ins (di k)/\uE H r.outs (dO k)
theorem ZP.mono(x:ZP H rs di dO)(k:aA H H'):ZP H' rs di dO:=fun j r h=>⟨(x j r h).1.mono k,(x j r h).2.mono k⟩
inductive kI(f:Nat->En)(ins:Bool)(vs:List V)(H:Hp)(Q:VK)(E_:XK):Prop
 | mk (t pe rs di dO es) (_:vs=[.ref t,.ref pe]) (_:dB H t rs) (_:ZP H rs di dO) (_:H pe=some (.lst (aB es))) (_:(∀ k∈es,k<rs.length)) (_:es.length<=100) (_:∀ p sv H',aG H H'->H p=none->H' p=some (.lst sv)->Al (rE H') sv (es.map fun k=>(f k,if ins=true then di k else dO k))->Q (.ref p) H')
def outs(es:ay En):ay Nat:=es.filterMap fun e=>match e with
 | .out k=>some k
 | _=>none
def RT:Sp:=fun vs H Q _ => ∃ pr rv es,vs=[.ref pr]/\H pr=some (.lst rv)/\Al (gJ H) rv es/\es.length<=1000/\∀ p H',aG H H'->H p=none->H' p=some (.lst (aB (outs es)))->Q (.ref p) H'
inductive uU(C:Addr)(vs:List V)(H:Hp)(Q:VK)(E_:XK):Prop
 | mk (ps tb ts p sv ss bx sz l fp m) (_:vs=[.ref ps,.ref tb,.ref ts,.ref p]) (_:H ps=some (.lst sv)) (_:ps∉fp) (_:Al (rE H) sv ss) (_:H tb=some (.tup (bx.map V.int))) (_:H ts=some (.tup (sz.map V.int))) (_:LL C H p fp m l) (_:(∀ s∈ss,(∀ d∈s.2,d.ok bx.length)/\s.2.length<=8)) (_:ss.length<=110) (_:bx.length=sz.length) (_:bx.length<=6) (_:(∀ z∈sz,0<z)) (_:l.length<=m) (_:m<=12) (_:∀ t tb' pr rv fp' H',LL C H' p fp' m (cT sz m ss bx l).2.1->bH H H' fp fp'->H' t=some (.tup [.ref tb',.ref pr])->H' tb'=some (.tup ((cT sz m ss bx l).1.map V.int))->H' pr=some (.lst rv)->H pr=none->pr∉fp'->Al (gJ H') rv (cT sz m ss bx l).2.2->Q (.ref t) H')
theorem GX:aH ["chart"] ["chart"] (aC jC):=fJ
theorem HD(F:dC K "sizes_of" "sizes_of" jC f fd)(aY:mg "tuple" = none):aO P w K mg base aa 1 f fd ["chart"] Dc:=by
 refine F.ok GX ?_ ?_
 .rintro _ _ _ _⟨pc,pb,x0,x1,x2,x4,x5,x6,bv,sz,rfl,_⟩;rfl
 intro _ A _ s H _ Q E _ h
 ext a;obtain⟨pc,pb,x0,x1,x2,x4,x5,x6,bv,sz,rfl,Uc,hpb,hA,_,q⟩:=h;ext b;refine⟨_,(zG (zO (yA zX rfl aY nF (zA (yT (aj:=[]) rfl (show bK (aC jC) ["chart"] _ _ _ from vm) (oJ (yB zH (pv 0) zB (fun _ _=>rfl))) (fun _ _ _ _ _ _=>bc) (fun _ _ _ _ _ _=>yB (r:=jE K) zH (pv 0) zB (fun _ _=>rfl))) zD)))),?_⟩;have lb:=hA.length;refine⟨_,rfl,aF (aM.of Uc) rfl ⟨pb,rfl,⟨_,aM.of hpb⟩,?_⟩⟩;refine jJ (K:=K) (a:=pb) (xs:=bv) (fun i acc H'=>H'=H/\acc=(sz.take i).map V.int) ⟨rfl,rfl⟩ (fun i acc H' z=>by rw[z.1];exact aM.of hpb) ?_ ?_
 .rintro i x acc H' hx ⟨rfl,rfl⟩
  have hi:i<sz.length:=by
   have:=(fO.mp hx).1;lia
  have hk:=gM hi;ext a;obtain⟨v,hv,a,n,s,rfl,h1⟩:=hA.get hk;ext b;rw[hv]at hx;obtain rfl:=jX hx;refine⟨_,rfl,aF (aM.of h1) rfl ⟨by rw[bh,iW,sizeLine_eq];lia,rfl,?_⟩⟩;rw[iV,hk,iz];rfl
 .rintro acc H' ⟨rfl,rfl⟩ pl hpl;rw[vK (by lia)]at *;refine au pl _ ⟨rfl,.inl ⟨aV.of zC,fun p hp=>q p _ ((zF hpl _).trans (zF hp _)) zC⟩⟩
theorem Ad:aH ["record"] ["record"] (aC fV):=fJ
theorem Rw(e:En):∃ s x r,e.row = .str s::x::r/\(decide (V.str s=V.str ("out" : Str))=true->∃ k:Nat,e = .out k/\x = .int (k:Int))/\(decide (V.str s=V.str ("out" : Str))=false->∀ k,e≠.out k):=by
 cases e with
 | rc r=>cases r <;> exact fM _ _ _ ⟨rfl,(fun z=>dP z (by ext y)),fun _ k z=>by cases z⟩
 | inn k=>exact⟨_,_,_,rfl,(fun z=>dP z (by ext y)),fun _ k z=>by cases z⟩
 | out k=>exact⟨_,_,_,rfl,fun _=>⟨k,rfl,rfl⟩,fun z=>dP z (by ext y)⟩
 | door k=>exact⟨_,_,_,rfl,(fun z=>dP z (by ext y)),fun _ k z=>by cases z⟩
 | thr k=>exact⟨_,_,_,rfl,(fun z=>dP z (by ext y)),fun _ k z=>by cases z⟩
 | take e=>exact⟨_,_,_,rfl,(fun z=>dP z (by ext y)),fun _ k z=>by cases z⟩
theorem Bm(es:ay En)(e:En):outs (es++[e])=outs es++(match e with
  | .out k=>[k]
  | _=>[]):=by
 unfold outs;rw[List.filterMap_append]
 cases e <;> rfl
theorem Ai(F:dC K "rooms_left" "rooms_left" fV f fd):aO P w K mg base aa 1 f fd ["record"] RT:=by
 refine F.ok Ad ?_ ?_
 .rintro _ _ _ _⟨pr,rv,es,rfl,_⟩;rfl
 intro _ A _ s H _ Q E _ h
 ext a;obtain⟨pr,rv,es,rfl,hpr,hA,_,q⟩:=h;ext b;refine⟨_,(zG (zO (yT (aj:=[]) rfl (show bK (aC fV) ["record"] _ _ _ from vm) (yM (pv 0)) (fun _ _ _ _ _ _=>fZ (zL (r:=rEq) yG (yB (r:=jE K) zH (pv 0) zB (fun _ _=>rfl)) zP (zR _))) (fun _ _ _ _ _ _=>yB (r:=jE K) zH (pv 0) zB (fun _ _=>rfl))))),?_⟩;have lr:=hA.length;refine⟨_,rfl,pr,rfl,⟨_,aV.of hpr⟩,?_⟩;refine yS (K:=K) (a:=pr) (xs:=rv) (fun i acc H'=>H'=H/\acc.length<=i/\acc=aB (outs (es.take i))) ⟨rfl,bN _,rfl⟩ (fun i acc H' z=>by rw[z.1];exact aV.of hpr) ?_ ?_
 .rintro i x acc H' hx aQ;ext a;obtain⟨rfl,_,rfl⟩:=aQ
  have hi:i<es.length:=by
   have:=(fO.mp hx).1;lia
  have hk:=gM hi;obtain⟨v,hv,a,rfl,h1⟩:=hA.get hk;ext b;rw[hv]at hx;obtain rfl:=jX hx
  have Fv:es.take (i+1)=es.take i++[es[i]]:=by
   rw[iV,hk];rfl
  ext a;obtain⟨s',_,_,e1,e2,e3⟩:=Rw es[i];ext b;rw[e1]at h1;refine⟨_,rfl,a,_,_,V.str s',rfl,rfl,aM.of h1,(yQ rfl),rfl,_,rfl,fu (fun c=>?_) (fun c=>?_)⟩
  .ext a;obtain⟨k,ek,rfl⟩:=e2 c;ext b;refine⟨_,rfl,aF (aM.of h1) ((yQ rfl)) ⟨by rw[sizeLine_eq];lia,rfl,by rw[dj,gK];lia,?_⟩⟩;rw[Fv,Bm,ek];unfold aB;rw[iz];rfl
  .refine⟨rfl,by lia,?_⟩;rw[Fv,Bm];have e3:=e3 c;generalize es[i]=e at e3
   cases e with
   | out k=>exact dP rfl (e3 k)
   | rc r=>rw[iB]
   | inn k=>rw[iB]
   | door k=>rw[iB]
   | thr k=>rw[iB]
   | take k=>rw[iB]
 .rintro acc H' ⟨rfl,_,rfl⟩ pl hpl;rw[vK (by lia)];exact q pl _ (zF hpl _) hpl zC
theorem GR:aH ["rooms","entered"] ["rooms","entered"] (aC jB):=fJ
theorem HB(F:dC K "steps_in" "steps_in" jB f fd):aO P w K mg base aa 1 f fd ["rooms","entered"] (kI En.inn true):=by
 refine F.ok GR ?_ ?_
 .rintro _ _ _ _⟨t,pe,rs,di,dO,es,rfl,_⟩;rfl
 intro _ A _ s H vs Q E _ h
 ext a;obtain⟨t,pe,rs,di,dO,es,rfl,hR,hD,hpe,hlt,_,q⟩:=h;ext b;refine⟨_,(zG (zO (yT (aj:=[(0,"rooms")]) rfl (show bK (aC jB) ["rooms","entered"] _ _ _ from vm) (yM (pv 1)) (fun _ _ _ _ _ _=>bc) (fun _ _ _ _ _ _=>(zW (zA (zW (zA zP (zA (pv 0) zD))) (zA (yB (r:=jE K) zH (yB (r:=jE K) zH (pv 1) (pv 0) (fun _ _=>rfl)) zB (fun _ _=>rfl)) zD))))))),?_⟩;refine⟨_,rfl,pe,rfl,⟨_,aV.of hpe⟩,?_⟩;refine yS (K:=K) (a:=pe) (xs:=aB es) (fun i acc H'=>aG H H'/\acc.length=i/\Al (rE H') acc ((es.take i).map fun k=>(En.inn k,di k))) ⟨aG.refl _,rfl,.nil⟩ (fun i acc H' z=>aV.of (z.1 _ _ hpe)) ?_ ?_
 .rintro i x acc H' hx aQ;ext a;obtain⟨s1,la,hA⟩:=aQ;obtain⟨hi,rfl⟩:=yR hx;ext b;have hk:=gM hi;have hm:=hlt _ (jT hi);generalize es[i]=k at hk hm;ext a;obtain⟨vs,a,r,hv,_,hr',hat,ha⟩:=(hR.mono (aA.of s1)).at hm;ext b;have hd:=(hD k r hr').1;refine⟨_,rfl,zI (by show 2<=1000;decide),fun p hp=>?_⟩;have u2:=zF hp (.tup [V.str ("in" : Str),V.int (k:Int)]);have h2p:upd H' p (.tup [V.str ("in" : Str),V.int (k:Int)]) p=some (.tup (En.inn k).row):=zC;generalize upd H' p (.tup [V.str ("in" : Str),V.int (k:Int)])=H2 at u2 h2p ⊢;refine⟨_,rfl,_,rfl,aF (aM.of (u2 _ _ hv)) hat (aF (aM.of (u2 _ _ ha)) rfl ⟨zI (by show 2<=1000;decide),fun p2 hp2=>⟨by rw[sizeLine_eq];lia,s1.trans (u2.trans (zF hp2 _)),by rw[dj,gK,la],?_⟩⟩)⟩;have u3:=zF hp2 (.tup [V.ref p,r.ins]);rw[iV,hk,iz];exact (hA.mono fun _ _ z=>z.mono (aA.of (u2.trans u3))).snoc (fM p2 p r.ins ⟨rfl,zC,u3 _ _ h2p,hd.mono (aA.of (s1.trans (u2.trans u3)))⟩)
 .rintro acc H' ⟨s1,la,hA⟩ pl hpl;rw[zU]at hA;rw[vK (bN _)]at hA;exact q pl acc _ (s1.trans (zF hpl _)) (s1.free hpl) zC (hA.mono fun _ _ z=>z.mono (aA.of (zF hpl _)))
theorem Dk:aH ["rooms","left"] ["rooms","left"] (aC iC):=fJ
theorem Ea(F:dC K "steps_out" "steps_out" iC f fd):aO P w K mg base aa 1 f fd ["rooms","left"] (kI En.out false):=by
 refine F.ok Dk ?_ ?_
 .rintro _ _ _ _⟨t,pe,rs,di,dO,es,rfl,_⟩;rfl
 intro _ A _ s H vs Q E _ h
 ext a;obtain⟨t,pe,rs,di,dO,es,rfl,hR,hD,hpe,hlt,_,q⟩:=h;ext b;refine⟨_,(zG (zO (yT (aj:=[(0,"rooms")]) rfl (show bK (aC iC) ["rooms","left"] _ _ _ from vm) (yM (pv 1)) (fun _ _ _ _ _ _=>bc) (fun _ _ _ _ _ _=>(zW (zA (zW (zA zP (zA (pv 0) zD))) (zA (yB (r:=jE K) zH (yB (r:=jE K) zH (pv 1) (pv 0) (fun _ _=>rfl)) zB (fun _ _=>rfl)) zD))))))),?_⟩;refine⟨_,rfl,pe,rfl,⟨_,aV.of hpe⟩,?_⟩;refine yS (K:=K) (a:=pe) (xs:=aB es) (fun i acc H'=>aG H H'/\acc.length=i/\Al (rE H') acc ((es.take i).map fun k=>(En.out k,dO k))) ⟨aG.refl _,rfl,.nil⟩ (fun i acc H' z=>aV.of (z.1 _ _ hpe)) ?_ ?_
 .rintro i x acc H' hx aQ;ext a;obtain⟨s1,la,hA⟩:=aQ;obtain⟨hi,rfl⟩:=yR hx;ext b;have hk:=gM hi;have hm:=hlt _ (jT hi);generalize es[i]=k at hk hm;ext a;obtain⟨vs,a,r,hv,_,hr',hat,ha⟩:=(hR.mono (aA.of s1)).at hm;ext b;have hd:=(hD k r hr').2;refine⟨_,rfl,zI (by show 2<=1000;decide),fun p hp=>?_⟩;have u2:=zF hp (.tup [V.str ("out" : Str),V.int (k:Int)]);have h2p:upd H' p (.tup [V.str ("out" : Str),V.int (k:Int)]) p=some (.tup (En.out k).row):=zC;generalize upd H' p (.tup [V.str ("out" : Str),V.int (k:Int)])=H2 at u2 h2p ⊢;refine⟨_,rfl,_,rfl,aF (aM.of (u2 _ _ hv)) hat (aF (aM.of (u2 _ _ ha)) rfl ⟨zI (by show 2<=1000;decide),fun p2 hp2=>⟨by rw[sizeLine_eq];lia,s1.trans (u2.trans (zF hp2 _)),by rw[dj,gK,la],?_⟩⟩)⟩;have u3:=zF hp2 (.tup [V.ref p,r.outs]);rw[iV,hk,iz];exact (hA.mono fun _ _ z=>z.mono (aA.of (u2.trans u3))).snoc (fM p2 p r.outs ⟨rfl,zC,u3 _ _ h2p,hd.mono (aA.of (s1.trans (u2.trans u3)))⟩)
 .rintro acc H' ⟨s1,la,hA⟩ pl hpl;rw[zU]at hA;rw[vK (bN _)]at hA;exact q pl acc _ (s1.trans (zF hpl _)) (s1.free hpl) zC (hA.mono fun _ _ z=>z.mono (aA.of (zF hpl _)))
theorem eO:aH ["steps","boxes","sizes","letters","held","record","mark","deeds","told"] ["steps","boxes","sizes","letters"] (aC pK):=fJ
theorem K6(F:dC K "stepped" "stepped" pK f fd)(qBX:Dp P w K mg base aa n gd dd ["deeds","boxes","sizes","letters"] (Rb (LL C)) "done") :
  aO P w K mg base aa (n+1) f fd ["steps","boxes","sizes","letters"] (uU C):=by
 refine F.ok eO ?_ ?_
 .rintro _ _ _ _⟨ps,tb,ts,p,sv,ss,bx,sz,l,fp,m,rfl,_⟩;rfl
 ext d
 ext a;obtain⟨ps,tb,ts,p,sv,ss,bx,sz,l,fp,m,rfl,hps,nps,hA,htb,hts,hL,hok,_,hbs,h6,hpos,hl,hm,q⟩:=h;ext b
 refine⟨_,(zE (zK (i:=4) eO.nd rfl (bb rfl) (pv 1))
  (zE (zK (i:=5) eO.nd rfl (bb rfl) (yK zD))
  (zZ (cC PassesOwn.never rfl (yM (pv 0)) (xX rfl (dI (yJ (i:=6) eO.nd rfl (bb rfl)) (dI (yJ (i:=7) eO.nd rfl (bb rfl)) t7)))
  (zE (zK (i:=8) eO.nd rfl (bb rfl) (pC qBX hr (zA (pv 7) (zA (pv 4) (zA (pv 2) (zA (pv 3) zD))))))
  (zE (zK (i:=4) eO.nd rfl (bb rfl) (yB zH (pv 8) zB (fun _ _=>rfl)))
  (zE (yI (dz il rO rN yH (pv 5) (zA (pv 6) zD)))
  (zG (yI (dz il kB kD j6 (pv 5) (zA (yB zH (pv 8) zB (fun _ _=>rfl)) zD))))))))
  (zG (zO (zW (zA (pv 4) (zA (pv 5) zD)))))))),?_⟩
 ext f;have lsv:=hA.length;refine⟨_,rfl,aK ⟨bg _,fun pr hpr=>?_⟩⟩;have u0:=zF hpr (.lst []);have Nb:=LL.new hL hpr;refine⟨fun σ' Hi => ∃ uL cX rv o6 o7 o8,σ'=[some (.ref ps),some (.ref tb),some (.ref ts),some (.ref p),some (.ref uL),some (.ref pr),o6,o7,o8]/\LL C Hi p cX m (cT sz m ss bx l).2.1/\bH H Hi fp cX/\Hi uL=some (.tup ((cT sz m ss bx l).1.map V.int))/\Hi pr=some (.lst rv)/\pr∉cX/\Al (gJ Hi) rv (cT sz m ss bx l).2.2,?_,?_⟩
 .refine⟨_,rfl,ps,rfl,⟨_,aV.of (u0 _ _ hps)⟩,?_⟩;refine lH (fun i σ' Hi => ∃ uL cX rv o6 o7 o8,σ'=[some (.ref ps),some (.ref tb),some (.ref ts),some (.ref p),some (.ref uL),some (.ref pr),o6,o7,o8]/\LL C Hi p cX m (cT sz m (ss.take i) bx l).2.1/\bH H Hi fp cX/\Hi uL=some (.tup ((cT sz m (ss.take i) bx l).1.map V.int))/\Hi pr=some (.lst rv)/\pr∉cX/\Al (gJ Hi) rv (cT sz m (ss.take i) bx l).2.2)
   (uM tb fp [] _ _ _ ⟨rfl,LL.same hL u0,bH.same fp u0,u0 _ _ htb,zC,Nb,.nil⟩) (fun i σ' Hi _ ⟨_,_,_,_,_,_,_,_,st,_⟩=>aV.of (st.rest _ _ hps nps)) ?_ ?_
  .rintro i x σ' Hi hx aQ;ext a;obtain⟨uL,cX,rv,o6,o7,o8,rfl,hLi,st,hbi,JQ,Pz,UW⟩:=aQ
   have hi:i<ss.length:=by
    have:=(fO.mp hx).1;lia
   have hk:=gM hi;have hmem:=jT hi
   have Fv:ss.take (i+1)=ss.take i++[ss[i]]:=by
    rw[iV,hk];rfl
   obtain⟨v,hv,a,am,_,rfl,h1,h2,ad,dv,rfl,h3,h4⟩:=hA.get hk;ext b;rw[hv]at hx;obtain rfl:=jX hx;have kt:=bH.keep st hL;obtain⟨ok1,ok2⟩:=hok _ hmem;have lb:=wZ sz m (ss.take i) bx l;have ll:=DY (sz:=sz) (ss:=ss.take i) (bx:=bx) hl;have les:=wY (sz:=sz) (m:=m) (ss:=ss.take i) (bx:=bx) (l:=l) fun y hy=>(hok y (fA hy)).2;have Tw:=UW.length;rw[iW]at les;generalize ss[i]=sd at Fv h2 h4 ok1 ok2;have gk:aA Hi (yu cX Hi):=fun b _ e=>tY e (Lh hLi e);refine au a _ ⟨rfl,aM.of (kt _ _ h1),rfl,au _ _ ⟨rfl,au _ _ ⟨rfl,rfl,?_⟩⟩⟩;refine Q0 fun _ x_1 _ nJ=>?_;refine⟨_,rfl,_,rfl,_,rfl,_,rfl,ad,uL,ts,p,sd.2,_,sz,_,dv,cX,m,yu cX Hi,rfl,fun b o e=>(qF e).1,fun b hb=>Ob hb,gk _ _ (kt _ _ h3),h4.mono (kt.trans gk),gk _ _ hbi,gk _ _ (kt _ _ hts),hLi,(by rw[lb];exact ok1),ok2,(by rw[lb];exact hbs),(by rw[lb];exact h6),hpos,ll,hm,fun t tb2 Qs qX zz H2 hL2 st2 zy hb2 _ hr2 KN qE6=>?_⟩;refine nJ ?_;clear nJ;refine bD fun _ nJ=>?_;have hr3:=(bH.apart st2 JQ Pz).1;have nr3:=(bH.apart st2 JQ Pz).2;have k2:=bH.keep st2 hLi
   have ne2:Qs≠pr:=fun z=>by
    rw[z,JQ]at KN
    cases KN
   refine⟨_,rfl,aF (aM.of zy) rfl ?_⟩;refine nJ ?_;clear nJ;refine bD fun _ nJ=>?_;refine⟨_,rfl,.inl ⟨rfl,_,aV.of hr3⟩,_,rfl,pr,rv,_,rfl,rfl,hr3,(by rw[sizeLine_eq];lia),?_⟩;refine nJ ?_;clear nJ;have k3:=aA.lst hr3 (.lst (rv++[.ref am]));have h3r:upd H2 pr (.lst (rv++[.ref am])) pr=some (.lst (rv++[.ref am])):=zC
   have h3p:upd H2 pr (.lst (rv++[.ref am])) Qs=some (.lst qX):=by
    rw[zQ ne2];exact hr2
   have st3:bH H (upd H2 pr (.lst (rv++[.ref am]))) fp zz:=bH.upd (bH.trans st st2) hpr _;have hL3:=LL.upd hL2 nr3 (.lst (rv++[.ref am]));generalize upd H2 pr (.lst (rv++[.ref am]))=H3 at k3 h3r h3p st3 hL3 ⊢;have lr2:=qE6.length;rw[sZ]at lr2;refine⟨_,rfl,.inl ⟨rfl,_,aV.of h3r⟩,_,rfl,aF (aM.of (k3 _ _ zy)) rfl (jV pr Qs _ _ ⟨rfl,rfl,h3r,h3p,(by rw[dj,gK,sizeLine_eq];lia),?_⟩)⟩;refine x_1 ?_;clear x_1;have k4:=aA.lst h3r (.lst (rv++[.ref am]++qX));have IW:=k2.trans (k3.trans k4);refine uM tb2 zz _ _ _ _ ⟨rfl,?_,bH.upd st3 hpr _,?_,zC,nr3,?_⟩
   .rw[Fv,qj];exact LL.upd hL3 nr3 _
   .rw[Fv,qj];exact (k3.trans k4) _ _ hb2
   .rw[Fv,qj];refine Al.cast (show rv++[V.ref am]++qX=rv++(V.ref am::qX) by rw[bS];rfl) ?_;exact Al.app (UW.mono fun _ _ z=>z.mono IW) (.cons ⟨am,rfl,IW _ _ (kt _ _ h2)⟩ (qA1 (qE6.mono (k3.trans k4))))
  .rintro σ' Hi aQ;ext a;obtain⟨uL,cX,rv,o6,o7,o8,z1,z2,z3,z4,z5,z6,z7⟩:=aQ;ext b;rw[lsv,gL]at z2 z4 z7;exact uM uL cX rv o6 o7 o8 ⟨z1,z2,z3,z4,z5,z6,z7⟩
 rintro σ' Hi aQ;ext a;obtain⟨uL,cX,rv,o6,o7,o8,rfl,hLi,st,hbi,JQ,Pz,UW⟩:=aQ;ext b;refine⟨_,rfl,_,rfl,zI (by show 2<=1000;decide),fun t ht=>?_⟩;have u1:=zF ht (.tup [.ref uL,.ref pr]);exact q t uL pr rv cX _ (LL.same hLi u1) (bH.trans st (bH.same cX u1)) zC (u1 _ _ hbi) (u1 _ _ JQ) hpr Pz (UW.mono fun _ _ z=>z.mono (aA.of u1))
inductive Wy where
 | to (g:Nat)
 | back (g:Nat)
 | stay
def Wy.tx:Wy->Str
 | .to _ => "to"
 | .back _ => "back"
 | .stay => "stay"
def Wy.gv:Wy->V
 | .to g=>.int (g:Int)
 | .back g=>.int (g:Int)
 | .stay=>.non
def Wy.gl:Wy->Nat
 | .to g=>g
 | .back g=>g
 | .stay=>0
structure Dx where
 room:Nat
 ev:Int
 g:Gd
 dd:List Dd
 way:Wy
def zc(H:Hp)(v:V)(d:Dx):Prop:=∃(a:av)(gv dv:V),v = .ref a/\H a=some (.tup [.int (d.room:Int),.int d.ev,gv,dv,.str d.way.tx,d.way.gv])/\jt H gv d.g/\uE H dv d.dd
theorem zc.mono{H H':Hp}{v:V}{d:Dx}(x:zc H v d)(k:aA H H'):zc H' v d:=by obtain⟨a,gv,dv,h1,h2,h3,h4⟩:=x;exact⟨a,gv,dv,h1,k _ _ h2,h3.mono k,h4.mono k⟩
structure jl where
 od:Str
 lb:Nat
 tn:Nat
 sz:List Int
 rs:List Rm
 di:Nat->List Dd
 dO:Nat->List Dd
 ds:List Dx
def vJ(H:Hp)(pc:av)(c:jl):Prop:=∃(pb t pd:av)(x4:V)(bv dv:ay V),H pc=some (.tup [.str c.od,.int (c.lb:Int),.int (c.tn:Int),.ref pb,x4,.ref t,.ref pd])/\H pb=some (.tup bv)/\Al (Qq H) bv c.sz/\dB H t c.rs/\ZP H c.rs c.di c.dO/\H pd=some (.tup dv)/\Al (zc H) dv c.ds
theorem vJ.mono{H H':Hp}{pc:av}{c:jl}(x:vJ H pc c)(k:aA H H'):vJ H' pc c:=by obtain⟨pb,t,pd,x4,bv,dv,h1,h2,h3,h4,h5,h6,h7⟩:=x;exact⟨pb,t,pd,x4,bv,dv,k _ _ h1,k _ _ h2,h3.mono fun _ _ z=>z.mono k,h4.mono k,h5.mono k,k _ _ h6,h7.mono fun _ _ z=>z.mono k⟩
structure uJ(c:jl):Prop where
 good:Tr.Good (aD c.rs)
 r40:c.rs.length<=40
 b6:c.sz.length<=6
 pos:∀ z∈c.sz,0<z
 Vy:c.lb<=12
 ins:∀ k:Nat,(∀ d∈c.di k,d.ok c.sz.length)/\(c.di k).length<=8
 outs:∀ k:Nat,(∀ d∈c.dO k,d.ok c.sz.length)/\(c.dO k).length<=8
 d63:c.ds.length<=63
 door:∀ d∈c.ds,d.room<c.rs.length/\d.way.gl<c.rs.length/\(∀ x∈d.dd,x.ok c.sz.length)/\d.dd.length<=8
structure S4 where
 os:List Nat
 bx:List Int
 ks:List (List Nat)
 l:List Int
def gH(H:Hp)(ps:av)(s:S4):Prop:=∃(po pb pk:av)(kv:ay V),H ps=some (.tup [.ref po,.ref pb,.ref pk])/\H po=some (.tup (aB s.os))/\H pb=some (.tup (s.bx.map V.int))/\H pk=some (.tup kv)/\cD H kv s.ks
theorem gH.mono{H H':Hp}{ps:av}{s:S4}(x:gH H ps s)(k:aA H H'):gH H' ps s:=by obtain⟨po,pb,pk,kv,h1,h2,h3,h4,h5⟩:=x;exact⟨po,pb,pk,kv,k _ _ h1,k _ _ h2,k _ _ h3,k _ _ h4,h5.mono k⟩
structure jq(c:jl)(s:S4):Prop where
 inc:s.os.Pairwise (· < ·)
 lt:∀ o∈s.os,o<c.rs.length
 Xn:s.os.length<=40
 bx:s.bx.length=c.sz.length
 ks:s.ks.length=c.rs.length
 l:s.l.length<=c.lb
def je(w:Wy)(ks:ay (ay Nat)):ay Nat:=match w with
 | .to g=>[g]
 | .back g=>if ks.getD g []=[] then [g] else ks.getD g []
 | .stay=>[]
def ux:Wy->Bool
 | .stay=>true
 | _=>false
def qx(c:jl)(d:Dx):aE Nat:=Tr.hall (aD c.rs) (Li.isOne c.rs) d.room d.way.gl
def bY(c:jl)(d:Dx)(os:ay Nat):ay Nat:=if ux d.way=true then [] else Oo.mC (aD c.rs) (qx c d) os
def oX(c:jl)(d:Dx)(os:ay Nat)(ks:ay (ay Nat)):ay (ay Nat):=if ux d.way=true then ks else bR c.rs os (bY c d os) ks
def vD(c:jl)(d:Dx)(ks:ay (ay Nat))(ms:ay Nat):Prop:=if ux d.way=true then ms=[] else Tr.W8 (aD c.rs) (Qg c.rs) (je d.way ks) (qx c d) ms
noncomputable def dF(c:jl)(d:Dx)(os:ay Nat):ay Nat:=os.filter fun o => !inV (.int (o:Int)) (aB (bY c d os))
noncomputable def fP(c:jl)(k:Nat)(d:Dx)(os ms:ay Nat):ay Sd:=[(En.door k,[])]++((bY c d os).map fun r=>(En.out r,c.dO r))++[(En.thr k,d.dd)]++ms.map fun r=>(En.inn r,c.di r)
def Cw(c:jl)(k:Nat)(s:S4)(es:ay En)(s':S4):Prop:=∃(d:Dx)(ms:ay Nat),c.ds[k]? = some d/\vD c d (oX c d s.os s.ks) ms/\s'.os.Perm (dF c d s.os++ms)/\s'.os.Pairwise (· < ·)/\s'.ks=oX c d s.os s.ks/\(s'.bx,s'.l,es)=cT c.sz c.lb (fP c k d s.os ms) s.bx s.l
def Om(c:jl)(d:Dx)(os:ay Nat)(ks:ay (ay Nat)):Prop:=(∀ g∈je d.way (oX c d os ks),g<c.rs.length)/\(je d.way (oX c d os ks)).length<=100/\∀ ms:ay Nat,vD c d (oX c d os ks) ms->(dF c d os++ms).Nodup/\(dF c d os++ms).length<=40/\∀ k∈ms,k<c.rs.length
def MN:Sp:=fun vs H Q _ => ∃(pc pk:av)(kv:ay V)(ks:ay (ay Nat))(c:jl)(k:Nat)(d:Dx),vs=[.ref pc,.ref pk,.int (k:Int)]/\vJ H pc c/\c.ds[k]? = some d/\H pk=some (.tup kv)/\cD H kv ks/\d.way.gl<ks.length/\(je d.way ks).length<=100/\∀(p:av)(H':Hp),aG H H'->H p=none->H' p=some (.lst (aB (je d.way ks)))->Q (.ref p) H'
def GC(C:av):Sp:=fun vs H Q _ => ∃(pc ps p:av)(c:jl)(k:Nat)(ik:Int)(s:S4)(fp:ay av)(d:Dx),vs=[.ref pc,.ref ps,.int ik,.ref p]/\ik=(k:Int)/\vJ H pc c/\uJ c/\gH H ps s/\jq c s/\c.ds[k]? = some d/\Om c d s.os s.ks/\LL C H p fp c.lb s.l ∧
 ∀(t ps' pr:av)(rv:ay V)(s':S4)(es:ay En)(fp':ay av)(H':Hp),Cw c k s es s'->LL C H' p fp' c.lb s'.l->bH H H' fp fp'->H' t=some (.tup [.ref ps',.ref pr])->gH H' ps' s'->jq c s'->H' pr=some (.lst rv)->H pr=none->pr∉fp'->Al (gJ H') rv es->es.length<=1000->Q (.ref t) H'
theorem tL(rs:ay Rm)(os:ay Nat):∀(ls:ay Nat)(ks:ay (ay Nat)),(bR rs os ls ks).length=ks.length
 | [],ks=>rfl
 | r::ls,ks=>by
  show (bR rs os ls (if cz rs r=("" : Str) then ks else ks.set r (lG rs os r))).length=_;rw[tL rs os ls]
  split
  .rfl
  .rw[fk]
theorem wI{ds:ay Int}{f:Nat->Bool}{a b u:Nat}(h:Tr.hall ds f a b=some u):u<a:=Tr.R4 (fz h)
theorem Su(ds:ay Int)(un:aE Nat)(os:ay Nat):(Oo.mC ds un os).length<=os.length:=by unfold Oo.mC;rw[List.length_reverse];exact uN _ _
section
variable{P:ag}{w:aI}{K:cL}{mg:Str->aE ax}{base:Heap}{C:av}
theorem nj:aH ["chart","kept","door","way","goal"] ["chart","kept","door"] (aC sV):=fJ
theorem HH{f:av}{fd:af}(F:dC K "goals_of" "goals_of" sV f fd)(aP:mg "len" = none)(jG:mg "list" = none):aO P w K mg base aa 1 f fd ["chart","kept","door"] MN:=by
 refine F.ok nj ?_ ?_
 .rintro _ _ _ _⟨pc,pk,kv,ks,c,k,d,rfl,_⟩;rfl
 intro _ A _ s H _ Q E _ h
 ext a;obtain⟨pc,pk,kv,ks,c,k,d,rfl,⟨_,t,_,_,_,_,h1,_,_,_,_,h6,h7⟩,hd,Z7,hks,hgl,_,q⟩:=h;ext b
 refine⟨_,(zE (zK (i:=3) nj.nd rfl (bb rfl) (yB zH (yB zH (yB zH (pv 0) zB (fun _ _=>rfl)) (pv 2) (fun _ _=>rfl)) zB (fun _ _=>rfl)))
  (zE (zK (i:=4) nj.nd rfl (bb rfl) (yB zH (yB zH (yB zH (pv 0) zB (fun _ _=>rfl)) (pv 2) (fun _ _=>rfl)) zB (fun _ _=>rfl)))
  (zE (yD (zL yG (pv 3) zP (zR _))
  (zG (zO (yK zD)))
  zT)
  (zE (yD (PW.pt (pw_and (zL yG (pv 3) zP (zR _)) (yP (zL iH (zS zN rfl aP bU (zA (yB zH (pv 1) (pv 4) (fun _ _=>rfl)) zD)) zB (zR _)))))
  (zG (zO (yA gF rfl jG kc (zA (yB zH (pv 1) (pv 4) (fun _ _=>rfl)) zD))))
  zT)
  (zG (zO (yK (zA (pv 4) zD)))))))),?_⟩
 ext f;ext a;obtain⟨v,hv,a,_,_,rfl,g1,_,_⟩:=h7.get hd;ext b;have hat:=yQ hv;refine⟨_,rfl,aF (aM.of h1) rfl ⟨_,rfl,aF (aM.of h6) hat (aF (aM.of g1) rfl ?_)⟩⟩;ext c;refine⟨_,rfl,aF (aM.of h1) rfl ⟨_,rfl,aF (aM.of h6) hat (aF (aM.of g1) rfl ?_)⟩⟩;ext c;clear g1 hd;ext a;obtain⟨_,_,_,_,wy⟩:=d;ext b
 cases wy with
 | stay=>exact⟨_,rfl,rfl,_,rfl,zx (by show decide (V.str ("stay" : Str)=V.str "stay")=true;decide +kernel) ⟨bg _,fun p hp=>q p _ (zF hp _) hp zC⟩⟩
 | to g=>
  refine⟨_,rfl,rfl,_,rfl,nT (by show decide (V.str ("to" : Str)=V.str "stay")=false;decide +kernel) ?_⟩;ext c;refine⟨_,rfl,rfl,_,rfl,nT (by show decide (V.str ("to" : Str)=V.str "back")=false;decide +kernel) ?_⟩;exact nT rfl (aK ⟨_,rfl,zI (by show 1<=1000;decide),fun p hp=>q p _ (zF hp _) hp zC⟩)
 | back g=>
  have hg:g<ks.length:=hgl;ext a;obtain⟨_,hv2,_,rfl,hak⟩:=hks.get (gM hg);ext b;have Y5:=yQ hv2
  have eg:ks.getD g []=ks[g]:=by rw[jU,gM hg];rfl
  have q':∀(p:av)(H':Hp),aG H H'->H p=none->H' p=some (.lst (aB (if ks[g]=[] then [g] else ks[g])))->Q (.ref p) H':=fun p H' s1 hp h=>q p H' s1 hp (by
   show H' p=some (.lst (aB (if ks.getD g []=[] then [g] else ks.getD g [])));rw[eg]
   exact h)
  refine⟨_,rfl,rfl,_,rfl,nT (by show decide (V.str ("back" : Str)=V.str "stay")=false;decide +kernel) ?_⟩;ext c;refine⟨_,rfl,rfl,_,rfl,zx (by show decide (V.str ("back" : Str)=V.str "back")=true;decide +kernel) ?_⟩;refine⟨_,rfl,_,rfl,pk,kv,_,_,rfl,rfl,aM.of Z7,Y5,fL rfl (.inr (aM.of hak)) (bB ⟨_,rfl,fu (fun z=>?_) (fun z=>?_)⟩)⟩
  .have z':(0:Int)<((aB ks[g]).length:Int):=ba z;rw[zU]at z'
   have hne:ks[g]≠[]:=fun e=>by
    rw[e]at z';exact dP z' (by decide)
   rw[cy hne]at q';exact⟨_,rfl,_,rfl,pk,kv,_,_,rfl,rfl,aM.of Z7,Y5,fL rfl (.inr (aM.of hak)) (fun p hp=>q' p _ (zF hp _) hp zC)⟩
  ext g
  .have z':¬ (0:Int)<((aB ks[g]).length:Int):=bE z;rw[zU]at z';have he:ks[g]=[]:=List.length_eq_zero_iff.mp (by lia);rw[cE he]at q';exact⟨_,rfl,zI (by show 1<=1000;decide),fun p hp=>q' p _ (zF hp _) hp zC⟩
noncomputable abbrev Dz:Scope:=⟨.function,[("chart",.local),("stand",.local),("door",.local),("letters",.local),("rooms",.local),("parts",.local),("opening",.local),("kept",.local),("left",.cell),("entered",.local),("hall",.local),("through",.local),("steps",.local),("told",.local),("staying",.local),("hall_over",.globalImplicit),("goings_out",.globalImplicit),("keeping",.globalImplicit),("goings_in",.globalImplicit),("goals_of",.globalImplicit),("steps_out",.globalImplicit),("steps_in",.globalImplicit),("stepped",.globalImplicit),("sizes_of",.globalImplicit),("tuple",.globalImplicit),("sorted",.globalImplicit)],false,false,(aC oA).more⟩
theorem Pg:aC oA=Dz:=by rfl
theorem bT:aH ["chart","stand","door","letters","rooms","parts","opening","kept","left","entered","hall","through","steps","told","staying"] ["chart","stand","door","letters"] Dz:=fJ
theorem Pj{n:Nat}{f g1 g2 g3 g4 g5 g6 g7 g8 g9:av}{fd d1 d2 d3 d4 d5 d6 d7 d8 d9:af}(F:dC K "passed" "passed" oA f fd)
  (JF:Dp P w K mg base aa n g1 d1 ["rooms","one","other"] Li.RX "hall_over")
  (my:Dp P w K mg base aa n g2 d2 ["rooms","under","opening"] Oo.RN "goings_out")
  (Qm:Dp P w K mg base aa n g3 d3 ["rooms","opening","left","kept"] BW "keeping")
  (pI:Dp P w K mg base aa n g4 d4 ["rooms","under","goals"] Zr "goings_in")
  (Ls:Dp P w K mg base aa n g5 d5 ["chart","kept","door"] MN "goals_of")
  (J7:Dp P w K mg base aa n g6 d6 ["rooms","left"] (kI En.out false) "steps_out")
  (rG:Dp P w K mg base aa n g7 d7 ["rooms","entered"] (kI En.inn true) "steps_in")
  (vH:Dp P w K mg base aa n g8 d8 ["steps","boxes","sizes","letters"] (uU C) "stepped")
  (rH:Dp P w K mg base aa n g9 d9 ["chart"] Dc "sizes_of")
  (aY:mg "tuple" = none) (eE:mg "sorted" = none):aO P w K mg base aa (n+1) f fd ["chart","stand","door","letters"] (GC C):=by
 refine okS Dz Pg F bT ?_ ?_
 .rintro _ _ _ _⟨pc,ps,p,c,k,ik,s,fp,d,rfl,_⟩;rfl
 ext d
 ext a;obtain⟨pc,ps,p,c,k,ik,st,fp,d,rfl,rfl,hC,ok,hS,so,hd,mp,hL,q⟩:=h;ext b
 refine⟨_,(zE (zK (i:=4) bT.nd rfl (bb rfl) (yB zH (pv 0) zB (fun _ _=>rfl)))
  (zE (zK (i:=5) bT.nd rfl (bb rfl) (yB zH (yB zH (pv 0) zB (fun _ _=>rfl)) (pv 2) (fun _ _=>rfl)))
  (zE (zK (i:=6) bT.nd rfl (bb rfl) (yB zH (pv 1) zB (fun _ _=>rfl)))
  (zE (zK (i:=7) bT.nd rfl (bb rfl) (yB zH (pv 1) zB (fun _ _=>rfl)))
  (zE (zK (i:=8) bT.nd rfl (Or.inr rfl) (yK zD))
  (zE (zK (i:=9) bT.nd rfl (bb rfl) (yK zD))
  (zZ (yD (zL qZ (yB zH (pv 5) zB (fun _ _=>rfl)) zP (zR _))
  (zE (zK (i:=10) bT.nd rfl (bb rfl) (pC JF hr (zA (pv 4) (zA (yB zH (pv 5) zB (fun _ _=>rfl)) (zA (yB zH (pv 5) zB (fun _ _=>rfl)) zD)))))
  (zE (zK (i:=8) bT.nd rfl (Or.inr rfl) (pC my hr (zA (pv 4) (zA (pv 10) (zA (pv 6) zD)))))
  (zE (zK (i:=7) bT.nd rfl (bb rfl) (pC Qm hr (zA (pv 4) (zA (pv 6) (zA (pv 8) (zA (pv 7) zD))))))
  (zG (zK (i:=9) bT.nd rfl (bb rfl) (pC pI hr (zA (pv 4) (zA (pv 10) (zA (pC Ls hr (zA (pv 0) (zA (pv 7) (zA (pv 2) zD)))) zD)))))))))
  zT)
  (zE (zK (i:=11) bT.nd rfl (bb rfl) (yK (zA (zW (zA (zW (zA zP (zA (pv 2) zD))) (zA (yB zH (pv 5) zB (fun _ _=>rfl)) zD))) zD)))
  (zE (zK (i:=12) bT.nd rfl (bb rfl) (yC EY (yC EY (yC EY (yK (zA (zW (zA (zW (zA zP (zA (pv 2) zD))) (zA (zW zD) zD))) zD)) (pC J7 hr (zA (pv 4) (zA (pv 8) zD)))) (pv 11)) (pC rG hr (zA (pv 4) (zA (pv 9) zD)))))
  (zE (zK (i:=13) bT.nd rfl (bb rfl) (pC vH hr (zA (pv 12) (zA (yB zH (pv 1) zB (fun _ _=>rfl)) (zA (pC rH hr (zA (pv 0) zD)) (zA (pv 3) zD))))))
  (zE (lg (i:=14) (aj:=[(8,"left")]) rfl bT.nd rfl (bb rfl) (show bK Dz ["chart","stand","door","letters","rooms","parts","opening","kept","left","entered","hall","through","steps","told","staying"] _ _ _ from vm) (oJ (pv 6)) (fun _ _ _ _ _ _=>fZ (zL (r:=rIn K true) mH (pv 0) (pv 1) rfl)) (fun _ _ _ _ _ _=>(pv 0)))
  (zG (zO (zW (zA (zW (zA (yA zX rfl aY nF (zA (zS pG rfl eE ke (zA (yC EY (pv 14) (pv 9)) zD)) zD)) (zA (yB zH (pv 13) zB (fun _ _=>rfl)) (zA (pv 7) zD)))) (zA (yB zH (pv 13) zB (fun _ _=>rfl)) zD)))))))))))))))),?_⟩
 ext f;ext a;obtain⟨pb,t,_,_,bv,_,h1,h2,h3,h4,h5,h6,h7⟩:=id hC;obtain⟨po,XD,pk,kv,e1,e2,e3,e4,e5⟩:=id hS;obtain⟨v,hv,a,gv,YK,rfl,y1,_,y3⟩:=h7.get hd;ext b;have hat:=yQ hv;have od:=ok.door d (zp hd);refine⟨_,rfl,aF (aM.of h1) rfl ?_⟩;ext c;refine⟨_,rfl,aF (aM.of h1) rfl ⟨_,rfl,aF (aM.of h6) hat ?_⟩⟩;ext c;refine⟨_,rfl,aF (aM.of e1) rfl ?_⟩;ext c;refine⟨_,rfl,aF (aM.of e1) rfl ?_⟩;ext g;refine⟨bg _,fun pl0 qBB=>⟨bg _,fun pe0 qBC=>?_⟩⟩;have u1:=(zF qBB (.lst [])).trans (zF qBC (.lst []));have hl0:(upd (upd H pl0 (.lst [])) pe0 (.lst [])) pl0=some (.lst (aB [])):=zF qBC _ _ _ zC;have he0:(upd (upd H pl0 (.lst [])) pe0 (.lst [])) pe0=some (.lst (aB [])):=zC;generalize upd (upd H pl0 (.lst [])) pe0 (.lst [])=H1 at u1 hl0 he0 ⊢;refine⟨fun σ' H'=>∃(Qt pf pe:av)(Hz:ay V)(ms:ay Nat)(HN:aE V),H pf=none/\H pe=none/\aG H H'/\H' pf=some (.lst (aB (bY c d st.os)))/\H' pe=some (.lst (aB ms))/\vD c d (oX c d st.os st.ks) ms/\H' Qt=some (.tup Hz)/\cD H' Hz (oX c d st.os st.ks)/\σ'=[some (.ref pc),some (.ref ps),some (.int (k:Int)),some (.ref p),some (.ref t),some (.ref a),some (.ref po),some (.ref Qt),some (.ref pf),some (.ref pe),HN,none,none,none,none],?_,?_⟩
 .refine⟨_,rfl,aF (aM.of (u1 _ _ y1)) rfl ⟨rfl,_,rfl,fu (fun cw=>?_) (fun cw=>?_)⟩⟩;ext f
  rotate_left
  .have hs:ux d.way=true:=by
    cases hw:d.way with
    | stay=>rfl
    | to g=>rw[hw]at cw;exact dP cw (by show ¬ (!decide (V.str ("to" : Str)=V.str "stay"))=false;decide +kernel)
    | back g=>rw[hw]at cw;exact dP cw (by show ¬ (!decide (V.str ("back" : Str)=V.str "stay"))=false;decide +kernel)
   have el:bY c d st.os=[]:=cE hs;have ek:oX c d st.os st.ks=st.ks:=cE hs;rw[el,ek];exact uM pk pl0 pe0 kv [] _ ⟨qBB,(zF qBB _).free qBC,u1,hl0,he0,(show vD c d st.ks [] from (cE hs).mpr rfl),u1 _ _ e4,e5.mono (aA.of u1),rfl⟩
  have hs:ux d.way=false:=by
   cases hw:d.way with
   | stay=>rw[hw]at cw;exact dP cw (by show ¬ (!decide (V.str ("stay" : Str)=V.str "stay"))=true;decide +kernel)
   | to g=>rfl
   | back g=>rfl
  have hs':¬ ux d.way=true:=by rw[hs];decide
  have el:bY c d st.os=Oo.mC (aD c.rs) (qx c d) st.os:=cy hs';have ek:oX c d st.os st.ks=bR c.rs st.os (bY c d st.os) st.ks:=cy hs'
  have egv:d.way.gv = .int ((d.way.gl:Nat):Int):=by
   cases hw:d.way with
   | stay=>rw[hw]at hs;cases hs
   | to g=>rfl
   | back g=>rfl
  rw[egv]at y1;refine⟨_,rfl,_,rfl,aF (aM.of (u1 _ _ y1)) rfl ⟨_,rfl,aF (aM.of (u1 _ _ y1)) rfl ⟨t,c.rs,d.room,d.way.gl,rfl,h4.mono (aA.of u1),ok.good,ok.r40,od.1,od.2.1,fun H2 s2=>?_⟩⟩⟩;ext c;have s12:=u1.trans s2
  have wI:∀ u,qx c d=some u->u<c.rs.length:=fun u hu=>by
   have:=wI hu;have:=od.1;lia
  refine⟨_,rfl,_,rfl,_,rfl,t,po,c.rs,qx c d,st.os,rfl,h4.mono (aA.of s12),ok.good,ok.r40,wI,s12 _ _ e2,so.lt,so.Xn,so.inc,fun pf H3 s3 Vw hpf=>?_⟩;ext c;rw[<-el]at hpf;have Af:=s12.trans s3
  have llt:∀ o∈bY c d st.os,o<c.rs.length:=fun o ho=>by
   rw[el]at ho;have:=List.mem_reverse.mp ho;exact so.lt o (nH.mp this).1
  refine⟨_,rfl,_,rfl,_,rfl,_,rfl,t,po,pf,pk,c.rs,st.os,bY c d st.os,kv,st.ks,rfl,h4.mono (aA.of Af),ok.good,ok.r40,Af _ _ e2,so.lt,so.Xn,so.inc,hpf,llt,Af _ _ e4,e5.mono (aA.of Af),so.ks,fun Qt Hz H4 s4 qEB qEG=>?_⟩;ext g;have Jr:=Af.trans s4;refine⟨_,rfl,_,rfl,_,rfl,_,rfl,_,rfl,pc,Qt,Hz,oX c d st.os st.ks,c,k,d,rfl,hC.mono (aA.of Jr),hd,qEB,(by rw[ek];exact qEG),(by rw[ek,tL,so.ks];exact od.2.1),mp.2.1,fun pg H5 s5 _ hpg=>?_⟩;have JM:=Jr.trans s5;refine⟨t,pg,c.rs,qx c d,je d.way (oX c d st.os st.ks),rfl,h4.mono (aA.of JM),ok.good,ok.r40,wI,⟨hpg,mp.1,mp.2.1⟩,fun pe ms H6 s6 npe hpe hms=>?_⟩;exact uM Qt pf pe Hz ms _ ⟨s12.free Vw,JM.free npe,JM.trans s6,s6 _ _ (s5 _ _ (s4 _ _ hpf)),hpe,(cy hs').mpr hms,s6 _ _ (s5 _ _ qEB),(by rw[ek];exact qEG.mono (aA.of (s5.trans s6))),rfl⟩
 rintro σ' H2 aQ;ext f;ext a;obtain⟨Qt,pf,pe,Hz,ms,HN,Vw,npe,s2,h2f,h2e,hms,h2k,qIM,rfl⟩:=aQ;obtain⟨nd,l40,mlt⟩:=mp.2.2 ms hms;ext b
 have lm:ms.length<=40:=by
  rw[dj]at l40;lia
 have ll:(bY c d st.os).length<=40:=by
  unfold bY
  split
  .exact bg _
  .exact bq (Su _ _ _) so.Xn
 have llt:∀ o∈bY c d st.os,o<c.rs.length:=fun o ho=>by
  unfold bY at ho
  split at ho
  .cases ho
  have:=List.mem_reverse.mp ho;exact so.lt o (nH.mp this).1
 refine⟨_,rfl,zI (by show 2<=1000;decide),fun p1 hp1=>?_⟩;have v1:=zF hp1 (.tup [V.str ("through" : Str),V.int (k:Int)]);have i1:upd H2 p1 (.tup [V.str ("through" : Str),V.int (k:Int)]) p1=some (.tup (En.thr k).row):=zC;generalize upd H2 p1 (.tup [V.str ("through" : Str),V.int (k:Int)])=H3 at v1 i1 ⊢;refine⟨_,rfl,aF (aM.of (v1 _ _ (s2 _ _ y1))) rfl ⟨zI (by show 2<=1000;decide),fun p2 hp2=>?_⟩⟩;have v2:=zF hp2 (.tup [V.ref p1,YK]);have i2:upd H3 p2 (.tup [V.ref p1,YK]) p2=some (.tup [V.ref p1,YK]):=zC;generalize upd H3 p2 (.tup [V.ref p1,YK])=H4 at v2 i2 ⊢;refine⟨zI (by show 1<=1000;decide),fun pth qI1=>?_⟩;ext c;have v3:=zF qI1 (.lst [V.ref p2]);have i3:upd H4 pth (.lst [V.ref p2]) pth=some (.lst [V.ref p2]):=zC;generalize upd H4 pth (.lst [V.ref p2])=H5 at v3 i3 ⊢;have s5:=s2.trans (v1.trans (v2.trans v3));have at5:Al (rE H5) [V.ref p2] [(En.thr k,d.dd)]:=.cons ⟨p2,p1,YK,rfl,v3 _ _ i2,v3 _ _ (v2 _ _ i1),y3.mono (aA.of s5)⟩ .nil;refine⟨_,rfl,zI (by show 2<=1000;decide),fun q1 hq1=>?_⟩;have w1:=zF hq1 (.tup [V.str ("door" : Str),V.int (k:Int)]);have j1:upd H5 q1 (.tup [V.str ("door" : Str),V.int (k:Int)]) q1=some (.tup (En.door k).row):=zC;generalize upd H5 q1 (.tup [V.str ("door" : Str),V.int (k:Int)])=H6 at w1 j1 ⊢;refine⟨bg _,fun q2 hq2=>?_⟩;have w2:=zF hq2 (.tup []);have j2:upd H6 q2 (.tup []) q2=some (.tup []):=zC;generalize upd H6 q2 (.tup [])=H7 at w2 j2 ⊢;refine⟨zI (by show 2<=1000;decide),fun q3 hq3=>?_⟩;have w3:=zF hq3 (.tup [V.ref q1,V.ref q2]);have j3:upd H7 q3 (.tup [V.ref q1,V.ref q2]) q3=some (.tup [V.ref q1,V.ref q2]):=zC;generalize upd H7 q3 (.tup [V.ref q1,V.ref q2])=H8 at w3 j3 ⊢;refine⟨zI (by show 1<=1000;decide),fun q4 W3=>?_⟩;have w4:=zF W3 (.lst [V.ref q3]);have j4:upd H8 q4 (.lst [V.ref q3]) q4=some (.lst [V.ref q3]):=zC;generalize upd H8 q4 (.lst [V.ref q3])=H9 at w4 j4 ⊢;have w59:=w1.trans (w2.trans (w3.trans w4));have s9:=s5.trans w59;have at9:Al (rE H9) [V.ref q3] [(En.door k,([]:ay Dd))]:=.cons ⟨q3,q1,V.ref q2,rfl,w4 _ _ j3,w4 _ _ (w3 _ _ (w2 _ _ j1)),q2,[],rfl,w4 _ _ (w3 _ _ j2),.nil⟩ .nil;have f9:aG H2 H9:=v1.trans (v2.trans (v3.trans w59));refine⟨_,rfl,_,rfl,t,pf,c.rs,c.di,c.dO,bY c d st.os,rfl,h4.mono (aA.of s9),h5.mono (aA.of s9),f9 _ _ h2f,llt,by lia,fun pso Jc Ve Ge _ qI7 hAo=>?_⟩
 have lo:Jc.length=(bY c d st.os).length:=by
  have:=hAo.length;rw[bh]at this;exact this
 refine⟨q4,pso,_,_,rfl,rfl,Ge _ _ j4,qI7,(by rw[sizeLine_eq,lo];show 1+_<=_;lia),fun c1 hc1=>?_⟩;have z1:=zF hc1 (.lst ([V.ref q3]++Jc));have k1:upd Ve c1 (.lst ([V.ref q3]++Jc)) c1=some (.lst ([V.ref q3]++Jc)):=zC;generalize upd Ve c1 (.lst ([V.ref q3]++Jc))=ZS at z1 k1 ⊢;have f11:aG H5 ZS:=w59.trans (Ge.trans z1);refine⟨_,rfl,c1,pth,_,_,rfl,rfl,k1,f11 _ _ i3,(by rw[sizeLine_eq,dj,lo];show 1+_+1<=_;lia),fun c2 hc2=>?_⟩;have z2:=zF hc2 (.lst ([V.ref q3]++Jc++[V.ref p2]));have k2:upd ZS c2 (.lst ([V.ref q3]++Jc++[V.ref p2])) c2=some (.lst ([V.ref q3]++Jc++[V.ref p2])):=zC;generalize upd ZS c2 (.lst ([V.ref q3]++Jc++[V.ref p2]))=H12 at z2 k2 ⊢;have s12:=s9.trans (Ge.trans (z1.trans z2));have f12:aG H2 H12:=f9.trans (Ge.trans (z1.trans z2));refine⟨_,rfl,_,rfl,t,pe,c.rs,c.di,c.dO,ms,rfl,h4.mono (aA.of s12),h5.mono (aA.of s12),f12 _ _ h2e,mlt,by lia,fun nO WW H13 Af _ qB8 wJ=>?_⟩
 have li:WW.length=ms.length:=by
  have:=wJ.length;rw[bh]at this;exact this
 refine⟨c2,nO,_,_,rfl,rfl,Af _ _ k2,qB8,(by rw[sizeLine_eq,dj,dj,lo,li];show 1+_+1+_<=_;lia),fun c3 hc3=>?_⟩;ext c;have z3:=zF hc3 (.lst ([V.ref q3]++Jc++[V.ref p2]++WW));have k3:upd H13 c3 (.lst ([V.ref q3]++Jc++[V.ref p2]++WW)) c3=some (.lst ([V.ref q3]++Jc++[V.ref p2]++WW)):=zC;generalize upd H13 c3 (.lst ([V.ref q3]++Jc++[V.ref p2]++WW))=ZR at z3 k3 ⊢;have Jr:=s12.trans (Af.trans z3);have f14:aG H2 ZR:=f12.trans (Af.trans z3)
 have qJ7:Al (rE ZR) ([V.ref q3]++Jc++[V.ref p2]++WW) (fP c k d st.os ms):=by
  have a1:Al (rE ZR) [V.ref q3] [(En.door k,([]:ay Dd))]:=at9.mono fun _ _ z=>z.mono (aA.of (Ge.trans (z1.trans (z2.trans (Af.trans z3)))));have a2:Al (rE ZR) Jc ((bY c d st.os).map fun r=>(En.out r,c.dO r)):=hAo.mono fun _ _ z=>z.mono (aA.of (z1.trans (z2.trans (Af.trans z3))));have a3:Al (rE ZR) [V.ref p2] [(En.thr k,d.dd)]:=at5.mono fun _ _ z=>z.mono (aA.of (f11.trans (z2.trans (Af.trans z3))));have a4:Al (rE ZR) WW (ms.map fun r=>(En.inn r,c.di r)):=wJ.mono fun _ _ z=>z.mono (aA.of z3);exact Al.app (Al.app (Al.app a1 a2) a3) a4
 refine⟨_,rfl,_,rfl,aF (aM.of (Jr _ _ e1)) rfl ⟨_,rfl,pc,pb,_,_,_,_,_,_,bv,c.sz,rfl,Jr _ _ h1,Jr _ _ h2,h3.mono (fun _ _ z=>z.mono (aA.of Jr)),(by have:=ok.b6;lia),fun tz H15 JM htz=>?_⟩⟩;have Wm:=Jr.trans JM;have qEI:=LL.same hL Wm
 have nc3:c3∉fp:=fun z=>by
  have e0:=(s12.trans Af).free hc3;exact LL.new hL e0 z
 have lens:(fP c k d st.os ms).length<=110:=by
  unfold fP;rw[dj,dj,dj,bh,bh];show 1+_+1+_<=110;lia
 have oks:∀ s∈fP c k d st.os ms,(∀ d∈s.2,d.ok st.bx.length)/\s.2.length<=8:=fun s hs=>by
  rw[so.bx];unfold fP at hs;rcases cH.mp hs with hs | hs
  .rcases cH.mp hs with hs | hs
   .rcases cH.mp hs with hs | hs
    .rw[bJ.mp hs];exact⟨(fun d hd=>by cases hd),bg _⟩
    .ext a;obtain⟨r,_,rfl⟩:=dU.mp hs;ext b;exact ok.outs r
   .rw[bJ.mp hs];exact od.2.2
  .ext a;obtain⟨r,_,rfl⟩:=dU.mp hs;ext b;exact ok.ins r
 refine⟨_,rfl,c3,XD,tz,p,_,_,st.bx,c.sz,st.l,fp,c.lb,rfl,JM _ _ k3,nc3,qJ7.mono (fun _ _ z=>z.mono (aA.of JM)),Wm _ _ e3,htz,qEI,oks,lens,so.bx,(by rw[so.bx];exact ok.b6),ok.pos,so.l,ok.Vy,fun _ tb' pr rv fp' ZQ qJ0 Wa htt htb hpr Nb qAK hes=>?_⟩;ext c;have k16:aA H15 ZQ:=bH.keep Wa qEI;have stA:bH H ZQ fp fp':=bH.trans (bH.same fp Wm) Wa;have kA:aA H ZQ:=bH.keep stA hL;have qH3:ZQ pf=some (.lst (aB (bY c d st.os))):=Wa.rest _ _ (JM _ _ (f14 _ _ h2f)) (LL.new hL Vw);have qH4:ZQ pe=some (.lst (aB ms)):=Wa.rest _ _ (JM _ _ (f14 _ _ h2e)) (LL.new hL npe);have qH2:ZQ Qt=some (.tup Hz):=k16 _ _ (JM _ _ (f14 _ _ h2k));have qHN:=qIM.mono (aA.trans (aA.of (f14.trans JM)) k16);refine⟨_,rfl,po,rfl,⟨_,aM.of (kA _ _ e2)⟩,?_⟩;refine jJ (K:=K) (a:=po) (xs:=aB st.os) (fun i acc H'=>H'=ZQ/\acc=aB ((st.os.take i).filter fun o => !inV (.int (o:Int)) (aB (bY c d st.os)))) ⟨rfl,rfl⟩ (fun i acc H' z=>by rw[z.1];exact aM.of (kA _ _ e2)) ?_ ?_
 .rintro i x acc H' hx ⟨rfl,rfl⟩;obtain⟨hi,rfl⟩:=yR hx;have hk:=gM hi;generalize st.os[i]=o at hk;refine⟨_,rfl,_,rfl,fL rfl (.inl (aV.of qH3)) ⟨rfl,Bu _,_,rfl,fu (fun z=>?_) (fun z=>?_)⟩⟩
  .refine⟨_,rfl,?_,rfl,?_⟩
   .rw[zU,sizeLine_eq];have:=uN (fun o:Nat => !inV (.int (o:Int)) (aB (bY c d st.os))) (st.os.take i);rw[iW]at this;have:=so.Xn;lia
   .have z2:(!inV (.int (o:Int)) (aB (bY c d st.os)))=true:=z;rw[iK hk,cE z2];unfold aB;rw[iz];rfl
  .refine⟨rfl,?_⟩;have z2:(!inV (.int (o:Int)) (aB (bY c d st.os)))=false:=z
   have z':¬ (!inV (.int (o:Int)) (aB (bY c d st.os)))=true:=fun y=>by
    rw[z2]at y
    cases y
   rw[iK hk,cy z',iB]
 rintro acc H17 ⟨rfl,qFT⟩ Gs qI4;ext g
 have ea:(st.os.take (aB st.os).length).filter (fun o:Nat => !inV (.int (o:Int)) (aB (bY c d st.os)))=dF c d st.os:=by
  rw[zU,vK (bN _)];rfl
 rw[ea]at qFT;subst qFT;have u17:=zF qI4 (.lst (aB (dF c d st.os)));have h17:upd H17 Gs (.lst (aB (dF c d st.os))) Gs=some (.lst (aB (dF c d st.os))):=zC;generalize upd H17 Gs (.lst (aB (dF c d st.os)))=H18 at u17 h17 ⊢;rw[dj]at l40;refine⟨_,rfl,_,rfl,Gs,pe,_,_,rfl,rfl,h17,u17 _ _ qH4,(by rw[zU,zU,sizeLine_eq];lia),fun XC qED=>?_⟩;have u18:=zF qED (.lst (aB (dF c d st.os)++aB ms))
 have h18:upd H18 XC (.lst (aB (dF c d st.os)++aB ms)) XC=some (.lst ((dF c d st.os++ms).map fun j:Nat=>V.int (j:Int))):=by
  rw[zC];unfold aB;rw[iz]
 generalize upd H18 XC (.lst (aB (dF c d st.os)++aB ms))=H19 at u18 h18 ⊢;refine⟨XC,(dF c d st.os++ms).map fun j:Nat=>(j:Int),rfl,.inl (aV.of (by rw[h18,cj])),(by rw[bh,dj];lia),fun psr _ qI6 perm uT=>?_⟩;ext a;obtain⟨os',rfl,rise,hpm⟩:=nW perm uT nd;ext b;have u19:=zF qI6 (.lst ((os'.map fun j:Nat=>(j:Int)).map V.int));have h19:upd H19 psr (.lst ((os'.map fun j:Nat=>(j:Int)).map V.int)) psr=some (.lst ((os'.map fun j:Nat=>(j:Int)).map V.int)):=zC;generalize upd H19 psr (.lst ((os'.map fun j:Nat=>(j:Int)).map V.int))=H20 at u19 h19 ⊢;refine⟨psr,_,rfl,.inl ⟨aV.of h19,fun Gr qB7=>?_⟩⟩;have u20:=zF qB7 (.tup ((os'.map fun j:Nat=>(j:Int)).map V.int))
 have h20:upd H20 Gr (.tup ((os'.map fun j:Nat=>(j:Int)).map V.int)) Gr=some (.tup (aB os')):=by
  rw[zC,<-cj];rfl
 generalize upd H20 Gr (.tup ((os'.map fun j:Nat=>(j:Int)).map V.int))=H21 at u20 h20 ⊢;have r21:aG H17 H21:=u17.trans (u18.trans (u19.trans u20));refine⟨_,rfl,aF (aM.of (r21 _ _ htt)) rfl ⟨_,rfl,zI (by show 3<=1000;decide),fun pss qI5=>?_⟩⟩;have u21:=zF qI5 (.tup [V.ref Gr,V.ref tb',V.ref Qt]);have h21:upd H21 pss (.tup [V.ref Gr,V.ref tb',V.ref Qt]) pss=some (.tup [V.ref Gr,V.ref tb',V.ref Qt]):=zC;generalize upd H21 pss (.tup [V.ref Gr,V.ref tb',V.ref Qt])=H22 at u21 h21 ⊢;have r22:=r21.trans u21;refine⟨_,rfl,aF (aM.of (r22 _ _ htt)) rfl ⟨zI (by show 2<=1000;decide),fun pot qI9=>?_⟩⟩;have u22:=zF qI9 (.tup [V.ref pss,V.ref pr]);have r23:=r22.trans u22
 have ksl:(oX c d st.os st.ks).length=c.rs.length:=by
  unfold oX
  split
  .exact so.ks
  .rw[tL];exact so.ks
 have les:=wY (sz:=c.sz) (m:=c.lb) (bx:=st.bx) (l:=st.l) fun y hy=>(oks y hy).2;have ko:=hpm.length_eq;rw[dj]at ko;refine q pot pss pr rv ⟨os',(cT c.sz c.lb (fP c k d st.os ms) st.bx st.l).1,oX c d st.os st.ks,(cT c.sz c.lb (fP c k d st.os ms) st.bx st.l).2.1⟩ (cT c.sz c.lb (fP c k d st.os ms) st.bx st.l).2.2 fp' _ ⟨d,ms,hd,hms,hpm,rise,rfl,rfl⟩ (LL.same qJ0 r23) (bH.trans stA (bH.same fp' r23)) zC
  ⟨Gr,tb',Qt,Hz,u22 _ _ h21,(u21.trans u22) _ _ h20,r23 _ _ htb,r23 _ _ qH2,qHN.mono (aA.of r23)⟩ ⟨rise,fun o ho=>?_,by show os'.length<=40;lia,by show (cT _ _ _ _ _).1.length=_;rw[wZ];exact so.bx,ksl,DY so.l⟩ (r23 _ _ hpr) (Wm.free Nb) qAK (hes.mono fun _ _ z=>z.mono (aA.of r23)) (by lia)
 rcases cH.mp (hpm.mem_iff.mp ho) with z | z
 .exact so.lt o (nH.mp z).1
 .exact mlt o z
end
end Ru
namespace Ru
open PySem L2 qH rF Cv Qz JS jg
open Fw (Al Dg Yh pF tO jL dY inter)
def Dx.dg(d:Dx):Dg:=⟨(d.room:Int),d.ev,d.g⟩
def QX(c:jl)(s:S4)(ev:Int):ay Nat:=pF (tO c.od) (aD c.rs) s.os s.bx (c.ds.map Dx.dg) ev
theorem Ul(op bx:ay Int)(room ev:Int):∀ ds b k,Fw.fst op bx room ev ds b=some k->k<b+ds.length
 | [],b,k,h=>by cases h
 | d::ds,b,k,h=>by
  have h:(if Fw.hit op bx room ev d=true then some b else Fw.fst op bx room ev ds (b+1))=some k:=h;rw[cY]
  split at h
  .have:=jX h;lia
  .have:=Ul op bx room ev ds (b+1) k h;lia
theorem qBQ(h:k∈QX c s ev):k<c.ds.length:=by
 unfold QX pF at h;obtain⟨r,hr,rfl⟩:=dU.mp h;have h1:=(nH.mp (nH.mp hr).1).2;obtain⟨k,hk⟩:=jv.mp h1;rw[hk];show k<_;unfold dY at hk
 split at hk
 .have:=Ul _ _ _ _ _ _ _ hk;rw[bh]at this;lia
 .cases hk
theorem YT(c:jl)(s:S4)(ev:Int):(QX c s ev).length<=s.os.length:=by unfold QX pF jL;rw[bh];exact bq (uN _ _) (uN _ _)
structure JOk(c:jl)(J:List Nat->List (List Nat)->Prop):Prop where
 may:∀ os ks,J os ks->∀ d∈c.ds,Om c d os ks
 pass:∀ k s es s',J s.os s.ks->Cw c k s es s'->J s'.os s'.ks
inductive jP(c:jl)(s:S4):List Nat->List Nat->List En->S4->Prop where
 | nil:jP c s [] [] [] s
 | skip {ks lf:List Nat} {es:List En} {s1:S4} {k:Nat} {d:Dx}:jP c s ks lf es s1->c.ds[k]? = some d->inV (.int (d.room:Int)) (aB lf)=true->jP c s (ks++[k]) lf es s1
 | go {ks lf:List Nat} {es e1:List En} {s1 s2:S4} {k:Nat} {d:Dx}:jP c s ks lf es s1->c.ds[k]? = some d->inV (.int (d.room:Int)) (aB lf)=false->Cw c k s1 e1 s2->jP c s (ks++[k]) (lf++outs e1) (es++e1) s2
def Cu(c:jl)(ev:Int)(s:S4)(es:ay En)(s':S4):Prop:=∃ lf e2,jP c s (QX c s ev) lf e2 s'/\es = .take ev::e2
structure All(c:jl)(J:List Nat->List (List Nat)->Prop)(n:Nat):Prop where
 ok:uJ c
 j:JOk c J
 g:∀ d∈c.ds,d.g.ok c.sz.length/\d.g.ht<=n
inductive Jf(C:Addr)(n:Nat)(vs:List V)(H:Hp)(Q:VK)(E_:XK):Prop
 | mk (pc ps p c ev s fp J) (_:vs=[.ref pc,.ref ps,.int ev,.ref p]) (_:vJ H pc c) (_:All c J n) (_:gH H ps s) (_:jq c s) (_:J s.os s.ks) (_:LL C H p fp c.lb s.l) (_:∀ t ps' pr rv s' es fp' H',Cu c ev s es s'->J s'.os s'.ks->LL C H' p fp' c.lb s'.l->bH H H' fp fp'->H' t=some (.tup [.ref ps',.ref pr])->gH H' ps' s'->jq c s'->H' pr=some (.lst rv)->H pr=none->pr∉fp'->Al (gJ H') rv es->es.length<=40001->Q (.ref t) H')
theorem dgs(x:Al (zc H) dv ds):Al (Yh H) dv (ds.map Dx.dg):=by
 induction x with
 | nil=>exact .nil
 | cons h _ ih=>
  obtain⟨a,gv,_,h1,h2,h3,_⟩:=h;exact .cons ⟨a,gv,_,_,_,h1,h2,h3⟩ ih
theorem XH(es:ay En):(outs es).length<=es.length:=List.length_filterMap_le _ _
theorem lV:aH ["chart","stand","event","letters","now","record","left","door","told"] ["chart","stand","event","letters"] (aC Dm):=fJ
theorem XQ(F:dC K "turn" "turn" Dm f fd)
  (Vp:Dp P w K mg base aa m g1 d1 ["chart","stand","event"] (Fw.GP n) "chosen")
  (Vn:Dp P w K mg base aa m g2 d2 ["chart","stand","door","letters"] (GC C) "passed")
  (FW:Dp P w K mg base aa m g3 d3 ["record"] RT "rooms_left") :
  aO P w K mg base aa (m+1) f fd ["chart","stand","event","letters"] (Jf C n):=by
 refine F.ok lV ?_ ?_
 .rintro _ _ _ _⟨pc,ps,p,c,ev,s,fp,J,rfl,_⟩;rfl
 ext d
 ext a;obtain⟨pc,ps,p,c,ev,st,fp,J,rfl,hC,al,hS,so,js,hL,q⟩:=h;ext b
 refine⟨_,(zE (zK (i:=4) lV.nd rfl (bb rfl) (pv 1))
  (zE (zK (i:=5) lV.nd rfl (bb rfl) (yK (zA (zW (zA zP (zA (pv 2) zD))) zD)))
  (zE (zK (i:=6) lV.nd rfl (bb rfl) (yK zD))
  (zZ (cC PassesOwn.never rfl (yM (pC Vp hr (zA (pv 0) (zA (pv 1) (zA (pv 2) zD))))) (yJ (i:=7) lV.nd rfl (bb rfl))
  (zG (yD (zL mH (yB zH (yB zH (yB zH (pv 0) zB (fun _ _=>rfl)) (pv 7) (fun _ _=>rfl)) zB (fun _ _=>rfl)) (pv 6) rfl)
  (zE (zK (i:=8) lV.nd rfl (bb rfl) (pC Vn hr (zA (pv 0) (zA (pv 4) (zA (pv 7) (zA (pv 3) zD))))))
  (zE (zK (i:=4) lV.nd rfl (bb rfl) (yB zH (pv 8) zB (fun _ _=>rfl)))
  (zE (yI (dz il kB kD j6 (pv 5) (zA (yB zH (pv 8) zB (fun _ _=>rfl)) zD)))
  (zG (yI (dz il kB kD j6 (pv 6) (zA (pC FW hr (zA (yB zH (pv 8) zB (fun _ _=>rfl)) zD)) zD)))))))
  zT)))
  (zG (zO (zW (zA (pv 4) (zA (pv 5) zD))))))))),?_⟩
 ext f;refine⟨_,rfl,aK ⟨_,rfl,zI (by show 2<=1000;decide),fun p1 hp1=>⟨zI (by show 1<=1000;decide),fun pr hpr=>?_⟩⟩⟩;refine bD fun _ x_1=>?_;have u1:=zF hp1 (.tup [V.str ("take" : Str),V.int ev]);ext e;have i1:upd H p1 (.tup [V.str ("take" : Str),V.int ev]) p1=some (.tup (En.take ev).row):=zC;generalize upd H p1 (.tup [V.str ("take" : Str),V.int ev])=H1 at u1 i1 hpr ⊢;have Nb:H pr=none:=u1.free hpr;have u2:=zF hpr (.lst [V.ref p1]);have i2:upd H1 pr (.lst [V.ref p1]) pr=some (.lst [V.ref p1]):=zC;generalize upd H1 pr (.lst [V.ref p1])=H2 at u2 i2 ⊢;refine⟨bg _,fun pl hpl=>?_⟩;refine x_1 ?_;clear x_1;have npl:H pl=none:=(u1.trans u2).free hpl;have qDF:pr≠pl:=zM i2 hpl;have u3:=zF hpl (.lst []);have i3:upd H2 pl (.lst []) pl=some (.lst (aB [])):=zC;generalize upd H2 pl (.lst [])=H3 at u3 i3 ⊢;have s3:=u1.trans (u2.trans u3);ext a;obtain⟨_,t,pd,_,_,dv,h1,_,_,h4,_,h6,h7⟩:=id hC;obtain⟨po,XD,_,_,e1,e2,e3,_,_⟩:=id hS;ext b;refine⟨fun σ' Hi => ∃ nO cX rv lf es si o7 o8,σ'=[some (.ref pc),some (.ref ps),some (.int ev),some (.ref p),some (.ref nO),some (.ref pr),some (.ref pl),o7,o8]/\bH H Hi fp cX/\LL C Hi p cX c.lb si.l/\gH Hi nO si/\jq c si/\J si.os si.ks/\jP c st (QX c st ev) lf es si/\Hi pr=some (.lst rv)/\pr∉cX/\Al (gJ Hi) rv (.take ev::es)/\es.length<=40000,?_,?_⟩
 .refine⟨_,rfl,_,rfl,_,rfl,pc,ps,t,pd,po,XD,c.od,st.os,st.bx,c.rs,c.ds.map Dx.dg,dv,_,_,_,_,_,ev,rfl,s3 _ _ h1,h4.mono (aA.of s3),al.ok.good,al.ok.r40,s3 _ _ h6,dgs (h7.mono fun _ _ z=>z.mono (aA.of s3)),s3 _ _ e1,s3 _ _ e2,so.lt,so.inc,s3 _ _ e3,fun d hd=>?_,(by rw[bh];exact al.ok.d63),fun pq _ s4 npq hpq=>?_⟩
  .ext a;obtain⟨x,hx,rfl⟩:=dU.mp hd;ext b;have:=al.g x hx;rw[so.bx];exact this
  have JN:=s3.trans s4;have qHD:=LL.new hL (s3.free npq);have lch:=YT c st ev;have Xn:=so.Xn;refine⟨pq,rfl,⟨_,aV.of hpq⟩,?_⟩;refine lH (fun i σ' Hi => ∃ nO cX rv lf es si o7 o8,σ'=[some (.ref pc),some (.ref ps),some (.int ev),some (.ref p),some (.ref nO),some (.ref pr),some (.ref pl),o7,o8]/\bH H Hi fp cX/\Hi pq=some (.lst (aB (QX c st ev)))/\pq∉cX/\LL C Hi p cX c.lb si.l/\gH Hi nO si/\jq c si/\J si.os si.ks/\jP c st ((QX c st ev).take i) lf es si/\Hi pr=some (.lst rv)/\pr∉cX/\Al (gJ Hi) rv (.take ev::es)/\es.length<=1000*i/\Hi pl=some (.lst (aB lf))/\pl∉cX/\lf.length<=1000*i)
   (uM ps fp _ [] [] st (au _ _ ⟨rfl,bH.same fp JN,hpq,qHD,LL.same hL JN,hS.mono (aA.of JN),so,js,.nil,s4 _ _ (u3 _ _ i2),LL.new hL Nb,.cons ⟨p1,rfl,s4 _ _ (u3 _ _ (u2 _ _ i1))⟩ .nil,bN _,s4 _ _ i3,LL.new hL npl,bN _⟩)) (fun i σ' Hi _ ⟨_,_,_,_,_,_,_,_,_,_,z,_⟩=>aV.of z) ?_ ?_
  .rintro i x σ' Hi hx aQ;ext a;obtain⟨nO,cX,rv,lf,es,si,o7,o8,rfl,Vs,hqi,nqi,hLi,hSi,Fl,ji,DR,JQ,Pz,wJ,lei,hli,nli,_⟩:=aQ;obtain⟨hi,rfl⟩:=yR hx;ext b;have hk:=gM hi;have hkl:=qBQ (jT hi)
   have Fv:(QX c st ev).take (i+1)=(QX c st ev).take i++[(QX c st ev)[i]]:=by
    rw[iV,hk];rfl
   generalize (QX c st ev)[i]=k at Fv hkl;have hd:=gM hkl;have hdm:=jT hkl;generalize c.ds[k]=d at hd hdm;have kt:=bH.keep Vs hL;ext a;obtain⟨v,hv,a,_,_,rfl,y1,_,_⟩:=h7.get hd;ext b;refine⟨_,rfl,aF (aM.of (kt _ _ h1)) rfl ⟨_,rfl,aF (aM.of (kt _ _ h6)) (yQ hv) (aF (aM.of (kt _ _ y1)) rfl ⟨_,rfl,fL rfl (.inl (aV.of hli)) ⟨rfl,Bu _,_,rfl,fu (fun z=>?_) (fun z=>?_)⟩⟩)⟩⟩;refine Q0 fun _ x_1 _ nJ=>?_
   .have z2:inV (.int (d.room:Int)) (aB lf)=false:=by
     have:(!inV (.int (d.room:Int)) (aB lf))=true:=z
     simpa using this
    refine⟨_,rfl,_,rfl,_,rfl,_,rfl,pc,nO,p,c,k,_,si,cX,d,rfl,rfl,hC.mono kt,al.ok,hSi,Fl,hd,al.j.may _ _ ji d hdm,hLi,fun tt ps2 Qs qX s2 es2 zz H5 PR hL5 rJ htt hS5 so5 QG KN _ ZD le2=>?_⟩;refine nJ ?_;clear nJ;refine bD fun _ nJ=>?_;have k5:=bH.keep rJ hLi;have hr5:=bH.apart rJ JQ Pz;have hl5:=bH.apart rJ hli nli;have hq5:=bH.apart rJ hqi nqi;have qGU:=bH.trans Vs rJ
    have qHH:Qs≠pr:=fun z=>by rw[z,JQ]at KN;cases KN
    have nell:Qs≠pl:=fun z=>by rw[z,hli]at KN;cases KN
    have qHI:pq≠pr:=fun z=>by
     have a1:=JN pr;rw[<-z]at Nb;have:=s3.free npq
     exact dP (s4 _ _ (u3 _ _ i2)) (by
      rw[<-z];intro y;have n3:=npq;rw[z,u3 _ _ i2]at n3
      cases n3)
    have qHJ:pq≠pl:=fun z=>by
     have n3:=npq;rw[z,i3]at n3
     cases n3
    have lA:=wJ.length;have lA2:=ZD.length;rw[cY]at lA;refine⟨_,rfl,aF (aM.of htt) rfl ?_⟩;refine nJ ?_;clear nJ;refine bD fun _ nJ=>?_;refine⟨_,rfl,.inl ⟨rfl,_,aV.of hr5.1⟩,_,rfl,aF (aM.of htt) rfl (jV pr Qs _ _ ⟨rfl,rfl,hr5.1,QG,(by rw[sizeLine_eq];lia),?_⟩)⟩;refine nJ ?_;clear nJ;have k6:=aA.lst hr5.1 (.lst (rv++qX));have JL:bH H (upd H5 pr (.lst (rv++qX))) fp zz:=bH.upd qGU Nb _;have hL6:=LL.upd hL5 hr5.2 (.lst (rv++qX));have r6:upd H5 pr (.lst (rv++qX)) pr=some (.lst (rv++qX)):=zC
    have r6b:upd H5 pr (.lst (rv++qX)) Qs=some (.lst qX):=by
     rw[zQ qHH];exact QG
    have r6l:upd H5 pr (.lst (rv++qX)) pl=some (.lst (aB lf)):=by
     rw[zQ qDF.symm];exact hl5.1
    have r6q:upd H5 pr (.lst (rv++qX)) pq=some (.lst (aB (QX c st ev))):=by
     rw[zQ qHI];exact hq5.1
    generalize upd H5 pr (.lst (rv++qX))=H6 at k6 JL hL6 r6 r6b r6l r6q ⊢;refine⟨_,rfl,.inl ⟨rfl,_,aV.of r6l⟩,_,rfl,aF (aM.of (k6 _ _ htt)) rfl ⟨Qs,qX,es2,rfl,r6b,ZD.mono (fun _ _ z=>z.mono k6),le2,fun po7 _ s7 _ qIA=>?_⟩⟩;have lo:=XH es2;refine jV pl po7 _ _ ⟨rfl,rfl,s7 _ _ r6l,qIA,(by rw[zU,zU,sizeLine_eq];lia),?_⟩;refine x_1 ?_;clear x_1;have k8:=aA.lst (s7 _ _ r6l) (.lst (aB lf++aB (outs es2)));have IW:=k6.trans ((aA.of s7).trans k8);refine uM ps2 zz (rv++qX) (lf++outs es2) (es++es2) s2 (au _ _ ⟨rfl,bH.upd (bH.trans JL (bH.same zz s7)) npl _,?_,hq5.2,LL.upd (LL.same hL6 s7) hl5.2 _,hS5.mono IW,so5,al.j.pass k si es2 s2 ji PR,?_,?_,hr5.2,Al.app (wJ.mono fun _ _ z=>z.mono (k5.trans IW)) (ZD.mono fun _ _ z=>z.mono IW),by rw[dj];lia,?_,hl5.2,by rw[dj];lia⟩)
    .rw[zQ qHJ];exact s7 _ _ r6q
    .rw[Fv];exact .go DR hd z2 PR
    .rw[zQ qDF];exact s7 _ _ r6
    .rw[zC];unfold aB;rw[iz]
   .have z2:inV (.int (d.room:Int)) (aB lf)=true:=by
     have:(!inV (.int (d.room:Int)) (aB lf))=false:=z
     simpa using this
    refine uM nO cX rv lf es si (au _ _ ⟨rfl,Vs,hqi,nqi,hLi,hSi,Fl,ji,?_,JQ,Pz,wJ,by lia,hli,nli,by lia⟩);rw[Fv];exact .skip DR hd z2
  .rintro σ' Hi aQ;ext a;obtain⟨nO,cX,rv,lf,es,si,o7,o8,z1,z2,_,_,z3,z4,z5,z6,z7,z8,z9,z10,z11,_⟩:=aQ;ext b;rw[zU]at z7 z11;rw[gL]at z7;exact uM nO cX rv lf es si (au o7 o8 ⟨z1,z2,z3,z4,z5,z6,z7,z8,z9,z10,by lia⟩)
 rintro σ' Hi aQ;ext a;obtain⟨nO,cX,rv,lf,es,si,o7,o8,rfl,Vs,hLi,hSi,Fl,ji,DR,JQ,Pz,wJ,lei⟩:=aQ;ext b;refine⟨_,rfl,_,rfl,zI (by show 2<=1000;decide),fun tt htt=>?_⟩;have u9:=zF htt (.tup [V.ref nO,V.ref pr]);exact q tt nO pr rv si _ cX _ (au lf es ⟨DR,rfl⟩) ji (LL.same hLi u9) (bH.trans Vs (bH.same cX u9)) zC (hSi.mono (aA.of u9)) Fl (u9 _ _ JQ) Nb Pz (wJ.mono fun _ _ z=>z.mono (aA.of u9)) (by rw[cY];lia)
end Ru
namespace Ru
open PySem L2 qH rF Cv Qz JS jg
open Fw (Al)
structure Jw(c:jl)(os:List Nat)(ks:List (List Nat)):Prop where
 inc:os.Pairwise (· < ·)
 lt:∀ o∈os,o<c.rs.length
 len:ks.length=c.rs.length
 row:∀ r∈ks,(∀ g∈r,g<c.rs.length)/\r.length<=40
theorem Q8{rs:ay Rm}{os:ay Nat}{r g:Nat}(h:g∈lG rs os r):g∈os:=by
 unfold lG gA at h
 split at h
 .exact (nH.mp (fA h)).1
 .exact (nH.mp (nH.mp h).1).1
theorem Q9(rs:ay Rm)(os:ay Nat)(r:Nat):(lG rs os r).length<=os.length:=by
 unfold lG gA;have:=uN (fun o=>Tr.bV (aD rs) o r) os
 split
 .rw[iW];lia
 .exact bq (uN _ _) this
theorem IK{rs:ay Rm}{os:ay Nat}:∀ ls ks r,r∈bR rs os ls ks->r∈ks ∨ ∃ x,r=lG rs os x
 | [],ks,r,h=>.inl h
 | x::ls,ks,r,h=>by
  have h:r∈bR rs os ls (if cz rs x=("" : Str) then ks else ks.set x (lG rs os x)):=h;rcases IK ls _ r h with h | h
  .split at h
   .exact .inl h
   .rcases List.mem_or_eq_of_mem_set h with h | h
    .exact .inl h
    .exact .inr ⟨x,h⟩
  .exact .inr h
section
variable{c:jl}{os:ay Nat}{ks:ay (ay Nat)}
theorem Jw.qH6(j:Jw c os ks)(ok:uJ c):os.length<=40:=bq (Tr.fj _ _ (Tr.gW j.inc) j.lt) ok.r40
theorem Jw.kept(j:Jw c os ks)(ok:uJ c)(d:Dx):(oX c d os ks).length=c.rs.length/\∀ r∈oX c d os ks,(∀ g∈r,g<c.rs.length)/\r.length<=40:=by
 unfold oX
 split
 .exact⟨j.len,j.row⟩
 .refine⟨by rw[tL];exact j.len,fun r hr=>?_⟩;rcases IK _ _ r hr with h | ⟨x,rfl⟩
  .exact j.row r h
  .exact⟨fun g hg=>j.lt g (Q8 hg),bq (Q9 _ _ _) (j.qH6 ok)⟩
theorem Uj(w:Wy)(ks:ay (ay Nat))(hw:w.gl<n)(hk:∀ r∈ks,(∀ g∈r,g<n)/\r.length<=40):(∀ g∈je w ks,g<n)/\(je w ks).length<=100:=by
 cases w with
 | to g=>exact⟨fun x hx=>by rw[bJ.mp hx];exact hw,by show 1<=100;decide⟩
 | stay=>exact⟨(fun x hx=>by cases hx),by show 0<=100;decide⟩
 | back g=>
  show (∀ x∈(if ks.getD g []=[] then [g] else ks.getD g []),x<n)/\(if ks.getD g []=[] then [g] else ks.getD g []).length<=100
  split
  .exact⟨fun x hx=>by rw[bJ.mp hx];exact hw,by show 1<=100;decide⟩
  .rename_i z
   by_cases q:g<ks.length
   .have e:ks.getD g []=ks[g]:=by rw[jU,gM q];rfl
    have:=hk _ (jT q);rw[e];exact⟨this.1,by lia⟩
   .exact dP (by rw[jU,fg (by lia)];rfl) z
theorem wX(h:k∈dF c d os):k∈os/\k∉bY c d os:=by unfold dF at h;obtain⟨h1,h2⟩:=nH.mp h;rw[Oo.Xx]at h2;exact⟨h1,by simpa using h2⟩
theorem QD(h:vD c d ks ms)(hk:k∈dF c d os):k∉ms:=by
 intro hm;obtain⟨h1,h2⟩:=wX hk;unfold vD at h
 split at h
 .rw[h]at hm
  cases hm
 .rename_i z
  refine h2 ?_;unfold bY;rw[cy z];unfold Oo.mC;rw[fE,nH];refine⟨h1,?_⟩;have:=((h.2 k).mp hm).under
  cases hh:qx c d with
  | none=>rfl
  | some u=>
   rw[hh]at this;exact this
theorem UJ(h:vD c d ks ms):ms.Pairwise (· < ·):=by
 unfold vD at h
 split at h
 .rw[h];exact .nil
 .exact h.1
theorem Ko(ok:uJ c)(h:vD c d ks ms):∀ k∈ms,k<c.rs.length:=by
 intro k hk;unfold vD at h
 split at h
 .rw[h]at hk
  cases hk
 .have:=((h.2 k).mp hk).lt (by have:=ok.good.pos;lia);rw[yV]at this;exact this
theorem Xw(h1:vD c d ks a)(h2:vD c d ks b):a=b:=by
 unfold vD at h1 h2
 split at h1
 .rename_i z
  rw[cE z]at h2;rw[h1,h2]
 .rename_i z
  rw[cy z]at h2;exact h1.unique h2
theorem wide(ok:uJ c):JOk c (Jw c) where
 may:=fun os _ j d hd=>by
  have jk:=j.kept ok d;have g:=Uj d.way _ (ok.door d hd).2.1 jk.2;refine⟨g.1,g.2,fun ms hms=>?_⟩;have ml:=Ko ok hms;have sl:∀ k∈dF c d os,k<c.rs.length:=fun k hk=>j.lt k (wX hk).1;have nd:=List.nodup_append.mpr ⟨Tr.gW (j.inc.filter _),Tr.gW (UJ hms),fun a ha b hb e=>QD hms ha (by rw[e];exact hb)⟩;refine⟨nd,bq (Tr.fj _ _ nd fun k hk=>?_) ok.r40,ml⟩;rcases cH.mp hk with h | h
  .exact sl k h
  .exact ml k h
 pass:=fun k s _ _ j ⟨d,ms,hd,hms,perm,rise,eks,_⟩=>by
  have jk:=j.kept ok d;refine⟨rise,fun o ho=>?_,by rw[eks];exact jk.1,by rw[eks];exact jk.2⟩;rcases cH.mp (perm.mem_iff.mp ho) with h | h
  .exact j.lt o (wX h).1
  .exact Ko ok hms o h
theorem Sh(h1:Cw c k s e1 s1)(h2:Cw c k s e2 s2):e1=e2/\s1=s2:=by
 obtain⟨d,_,hd,hm,p1,r1,k1,q1⟩:=h1;obtain⟨d',_,hd',hm',p2,r2,k2,q2⟩:=h2;obtain rfl:d=d':=jX (hd.symm.trans hd');obtain rfl:=Xw hm hm'
 have eo:=iG _ _ r1 r2 fun k=>by rw[p1.mem_iff,p2.mem_iff]
 have eq:=q1.trans q2.symm;obtain⟨_,_,_,_⟩:=s1;obtain⟨_,_,_,_⟩:=s2
 cases k1
 cases k2
 cases eo
 cases eq
 exact⟨rfl,rfl⟩
theorem QQ{ks lf:ay Nat}{es:ay En}{s1:S4}(h1:jP c s ks lf es s1):∀ {ks' lf':ay Nat} {es':ay En} {Yu:S4},jP c s ks' lf' es' Yu->ks=ks'->lf=lf'/\es=es'/\s1=Yu:=by
 induction h1 with
 | nil=>
  intro ks' lf' es' Yu h2 e
  cases h2 with
  | nil=>exact⟨rfl,rfl,rfl⟩
  | skip h hd hi=>exact absurd e.symm (by simp)
  | go h hd hi hp=>exact absurd e.symm (by simp)
 | @skip ks lf es s1 k d h hd hi ih=>
  intro ks' lf' es' Yu h2 e
  cases h2 with
  | nil=>exact absurd e (by simp)
  | @skip ks2 _ _ _ k2 d2 h' hd' hi'=>
   obtain⟨ea,eb⟩:=eP e rfl;exact ih h' ea
  | @go ks2 lf2 es2 e2 s2 s3 k2 d2 h' hd' hi' hp'=>
   obtain⟨ea,eb⟩:=eP e rfl;obtain⟨rfl,rfl,rfl⟩:=ih h' ea
   cases eb
   obtain rfl:=jX (hd.symm.trans hd');rw[hi]at hi'
   cases hi'
 | @go ks lf es e1 s1 s2 k d h hd hi hp ih=>
  intro ks' lf' es' Yu h2 e
  cases h2 with
  | nil=>exact absurd e (by simp)
  | @skip ks2 _ _ _ k2 d2 h' hd' hi'=>
   obtain⟨ea,eb⟩:=eP e rfl;obtain⟨rfl,rfl,rfl⟩:=ih h' ea
   cases eb
   obtain rfl:=jX (hd.symm.trans hd');rw[hi]at hi'
   cases hi'
  | @go ks2 lf2 es2 e2 s2 s3 k2 d2 h' hd' hi' hp'=>
   obtain⟨ea,eb⟩:=eP e rfl;obtain⟨rfl,rfl,rfl⟩:=ih h' ea
   cases eb
   obtain⟨rfl,rfl⟩:=Sh hp hp';exact⟨rfl,rfl,rfl⟩
theorem Fz(h1:Cu c ev s e1 s1)(h2:Cu c ev s e2 s2):e1=e2/\s1=s2:=by obtain⟨_,x,d1,rfl⟩:=h1;obtain⟨_,_,d2,rfl⟩:=h2;obtain⟨_,rfl,rfl⟩:=QQ d1 d2 rfl;exact⟨rfl,rfl⟩
end
structure Qi(nb:Nat)(H:Hp)(rv:List V)(rs:List Rm)(dis wK:List (List Dd)):Prop where
 inn:iZ H rv rs
 l1:dis.length=rs.length
 l2:wK.length=rs.length
 dd:ZP H rs (fun k=>dis.getD k []) (fun k=>wK.getD k [])
 say:∀ k:Nat,((∀ d∈dis.getD k [],d.ok nb)/\(dis.getD k []).length<=8)/\(∀ d∈wK.getD k [],d.ok nb)/\(wK.getD k []).length<=8
theorem Qi.mono(x:Qi nb H rv rs dis wK)(k:aA H H'):Qi nb H' rv rs dis wK:=⟨x.inn.mono k,x.l1,x.l2,x.dd.mono k,x.say⟩
theorem Qi.nil(H:Hp):Qi nb H [] [] [] []:=⟨.nil,rfl,rfl,(fun k r h=>by simp at h),fun k=>⟨⟨(fun d h=>by simp at h),by simp⟩,(fun d h=>by simp at h),by simp⟩⟩
theorem getD_snoc(l:ay α)(x d:α)(k:Nat):(l++[x]).getD k d=if k<l.length then l.getD k d else if k=l.length then x else d:=by
 rw[jU]
 by_cases h:k<l.length
 .rw[cE h,vY h,jU]
 .rw[cy h]
  by_cases h2:k=l.length
  .rw[cE h2,h2,R0 (bN _),iP];rfl
  .rw[cy h2,fg (by rw[dj,gK];lia)];rfl
theorem Qi.snoc(x:Qi nb H rv rs dis wK)(hr:Le H v r)(h1:uE H r.ins di)(h2:uE H r.outs dO)
  (s1:(∀ d∈di,d.ok nb)/\di.length<=8) (s2:(∀ d∈dO,d.ok nb)/\dO.length<=8):Qi nb H (rv++[v]) (rs++[r]) (dis++[di]) (wK++[dO]):=by
 have a1:=x.l1;have a2:=x.l2;refine⟨x.inn.snoc hr,by rw[dj,dj,a1];rfl,by rw[dj,dj,a2];rfl,fun k q h=>?_,fun k=>?_⟩
 .show uE H q.ins ((dis++[di]).getD k [])/\uE H q.outs ((wK++[dO]).getD k [])
  by_cases z:k<rs.length
  .rw[vY z]at h;rw[getD_snoc,getD_snoc,cE (show k<dis.length by lia),cE (show k<wK.length by lia)];exact x.dd k q h
  .have hk:=(fO.mp h).1;rw[dj,gK]at hk
   have z2:k=rs.length:=by lia
   subst z2;rw[R0 (bN _),iP]at h;obtain rfl:=jX h;rw[getD_snoc,getD_snoc,cy (by lia),cE (by lia),cy (by lia),cE (by lia)];exact⟨h1,h2⟩
 .rw[getD_snoc,getD_snoc];have xs:=x.say k;have no:((∀ d∈([]:ay Dd),d.ok nb)/\([]:ay Dd).length<=8):=⟨(fun d h=>by cases h),by decide⟩;refine⟨?_,?_⟩
  .split
   .exact xs.1
   .split
    .exact s1
    .exact no
  .split
   .exact xs.2
   .split
    .exact s2
    .exact no
end Ru
namespace vI
open PySem L2 qH rF Cv JS
theorem wV{zs:ay Str}{i:Int}(h0:0<=i)(h1:i<(zs.length:Int)):∃ z∈zs,rK (zs.map V.str) i=some (.str z):=by obtain⟨v,hv,e⟩:=lM (xs:=zs.map V.str) (i:=i) h0 (by rw[bh];exact h1);obtain⟨z,hz,rfl⟩:=dU.mp hv;exact⟨z,hz,e⟩
inductive De(vs:List V)(H:Hp)(Q:VK)(E_:XK):Prop
 | mk (k n:Int) (_:vs=[.int k,.int n]) (_:∀ z H',aG H H'->Q (.str z) H')
def jf(H:Hp)(ps:av)(sz:ay Int):Prop:=H ps=some (.lst (sz.map V.int))/\(∀ z∈sz,0<z)/\sz.length<=6
theorem jf.mono(h:jf H ps sz)(s:aG H H'):jf H' ps sz:=⟨s _ _ h.1,h.2⟩
def Rf:Sp:=fun vs H Q _ => ∃ n e ps sz,vs=[.int n,.ref ps,.int e]/\0<=n/\n<2147483648/\jf H ps sz/\∀ v d H',aG H H'->vG H' v d->d.ok sz.length->Q v H'
inductive Df(K:cL)(vs:List V)(H:Hp)(Q:VK)(E_:XK):Prop
 | mk (a ps:Addr) (ns sz:List Int) (k salt e:Int) (_:vs=[.ref a,.int k,.int salt,.ref ps,.int e]) (_:aV K H a (ns.map V.int)) (_:ns.length<=63) (_:(0<=k/\k<=1000)) (_:(0<=salt/\salt<=100)) (_:jf H ps sz) (_:∀(v:V)(ds:List Dd)(H':Hp),aG H H'->Ru.uE H' v ds->(∀ d∈ds,d.ok sz.length)->ds.length<=8->Q v H')
inductive lU(h:Nat)(vs:List V)(H:Hp)(Q:VK)(E_:XK):Prop
 | mk (n r hi:Int) (nb:Nat) (_:vs=[.int n,.int r,.int (nb:Int),.int hi]) (_:0<r) (_:1<=hi) (_:hi<=(h:Int)) (_:∀(v:V)(g:Gd)(H':Hp),aG H H'->jt H' v g->g.ok nb->(g.ht:Int)<=hi->Q v H')
theorem nZ:aH ["_law_k","_law_number","_law_rest","_law_at"] ["_law_k","_law_number"] (aC sI):=fJ
theorem Xc{f:av}{fd:af}(F:dC K "_law_name" "_law_name" sI f fd)(aP:mg "len" = none):aO P w K mg base aa 1 f fd ["_law_k","_law_number"] De:=by
 refine F.ok nZ ?_ ?_
 .rintro _ _ _ _⟨k,n,rfl,_⟩;rfl
 intro _ A _ s H _ Q E _ h
 ext a;obtain⟨k,n,rfl,q⟩:=h;ext b
 refine⟨_,(zE (zK (i:=2) nZ.nd rfl (bb rfl) (yB yU (yK (zA zP (zA zP (zA zP (zA zP zD))))) (yC zY (pv 1) zB) (fun _ _=>rfl)))
  (zE (zK (i:=3) nZ.nd rfl (bb rfl) (oK (yC zY (yC yL (pv 1) zB) (yC yF (zS FJ rfl aP bU (zA (pv 2) zD)) zB))))
  (zG (zO (yC xj (yC xj (kh Rh (pv 2) pP (pO (pv 3))) (yB qB0 zP (yC zY (pv 0) zB) (fun _ _=>rfl))) (kh Rh (pv 2) (pO (pv 3)) pP)))))),?_⟩
 ext a;obtain⟨z,hz,hat⟩:=wV (zs:=[("" : Str),"hall","quiet","aaaaaaaaaaa"]) (i:=n%4) (by lia) (by show _<(4:Int);lia);ext b
 have lz:z.length<=11:=by
  simp only[List.mem_cons,List.not_mem_nil,or_false]at hz;rcases hz with rfl | rfl | rfl | rfl <;> decide +kernel
 have hz':z.length<=sizeLine:=zI (by lia);have sl:∀ lo hi,(Txt.slice z lo hi).length<=11:=fun lo hi=>bq (Txt.slice_le z lo hi) lz;refine⟨zI (by show 4<=1000;decide),fun p hp=>⟨_,rfl,bB ⟨(by show (0:Int)<4;decide),az (aV.of zC) hat ?_⟩⟩⟩;have s1:=zF hp (.lst [V.str "",V.str "hall",V.str "quiet",V.str "aaaaaaaaaaa"]);refine⟨fun v H'=>aG H H'/\∃ t:Int,v = .int t,?_,?_⟩
 .exact⟨_,rfl,bB ⟨by ext w,_,rfl,z,rfl,hz',_,_,rfl,rfl,bB ⟨(by show (0:Int)<(z.length:Int)+1;lia),s1,_,rfl⟩⟩⟩
 rintro _ H2 aQ;ext a;obtain⟨s2,t,rfl⟩:=aQ;obtain⟨c1,_,h1⟩:=lM (xs:=("abcdefghijklmnopqrstuvwxyz" : Str).cps.toList) (i:=k%26) (by lia) (by show k%26<26;lia);ext b
 have la:∀ x y:Str,(x++y).length=x.length+y.length:=fun x y=>by
  show (x.cps++y.cps).size=_;rw[Array.size_append];rfl
 have lo:∀ c:Nat,(⟨#[c]⟩:Str).length=1:=fun c=>rfl;have l1:=sl none (some t);have l2:=sl (some t) none;exact⟨_,rfl,_,rfl,_,rfl,z,rfl,hz',_,rfl,bB ⟨(by show (0:Int)<26;decide),_,_,c1,rfl,rfl,zI (by ext y),h1,_,_,rfl,rfl,zI (by rw[lo];lia),_,rfl,_,rfl,_,rfl,z,rfl,hz',_,_,rfl,rfl,zI (by rw[la,lo];lia),q _ H2 s2⟩⟩
theorem jZ:aH ["_law_number","_law_sizes","_law_events","_law_way","_law_rest","_law_b"] ["_law_number","_law_sizes","_law_events"] (aC sO):=fJ
theorem Xk(F:dC K "_law_deed" "_law_deed" sO f fd)(eU:Dp P w K mg base aa 1 gn dn ["_law_k","_law_number"] De "_law_name")
  (aP:mg "len" = none):aO P w K mg base aa 2 f fd ["_law_number","_law_sizes","_law_events"] Rf:=by
 refine F.ok jZ ?_ ?_
 .rintro _ _ _ _⟨n,e,ps,sz,rfl,_⟩;rfl
 ext d
 ext a;obtain⟨n,e,ps,sz,rfl,_,_,hsz,q⟩:=h;ext b
 refine⟨_,(zE (zK (i:=3) jZ.nd rfl (bb rfl) (yB yU (yK (zA zB (zA zB (zA zB (zA zB (zA zB zD)))))) (yC zY (pv 0) zB) (fun _ _=>rfl)))
  (zE (zK (i:=4) jZ.nd rfl (bb rfl) (yC yL (pv 0) zB))
  (zE (yD (bj (PW.pt (pw_and (zL yG (pv 3) zB (zR _)) (yP (zL iH (pv 2) zB (zR _))))))
  (zG (zO (zW (zA zP (zA (yC zY (pv 4) (pv 2)) zD)))))
  zT)
  (zE (yD (bj (PW.pt (pw_and (zL yG (pv 3) zB (zR _)) (yP (zL iH (zS zN rfl aP bU (zA (pv 1) zD)) zB (zR _))))))
  (zE (zK (i:=5) jZ.nd rfl (bb rfl) (yC zY (pv 4) (zS zN rfl aP bU (zA (pv 1) zD))))
  (zG (zO (zW (zA zP (zA (pv 5) (zA (yC zY (yC yL (pv 4) zB) (yB yU (pv 1) (pv 5) (fun _ _=>rfl))) zD)))))))
  zT)
  (zE (yD (bj (PW.pt (pw_and (zL yG (pv 3) zB (zR _)) (pw_and (zL iH (zS zN rfl aP bU (zA (pv 1) zD)) zB (zR _)) (yP (zL yG (yC zY (yC yL (pv 4) zB) zB) zB (zR _)))))))
  (zG (zO (zW (zA zP (zA (yC zY (pv 4) (zS zN rfl aP bU (zA (pv 1) zD))) (zA (yC gU (yC yF (yC gU (pv 4) (yC Sv zB zB)) (pv 4)) (yC mD zB (yC gU zB (yC zY (yC yL (pv 4) zB) zB)))) zD))))))
  zT)
  (zE (yD (bj (PW.pt (pw_and (zL yG (pv 3) zB (zR _)) (yP (zL iH (zS zN rfl aP bU (zA (pv 1) zD)) zB (zR _))))))
  (zG (zO (zW (zA zP (zA (yC zY (pv 4) (zS zN rfl aP bU (zA (pv 1) zD))) (zA (yC mD (yC zY (yC yL (pv 4) zB) zB) zB) zD))))))
  zT)
  (zE (yD (zL yG (yC zY (pv 4) zB) zB (zR _))
  (zG (zO (zW (zA zP (zA zP zD)))))
  zT)
  (zG (zO (zW (zA zP (zA (pC eU hr (zA (yC zY (yC yL (pv 4) zB) zB) (zA (yC yL (pv 4) zB) zD))) zD)))))))))))),?_⟩
 obtain⟨v,hat⟩:=Oi (ns:=[0,1,1,2,3]) (i:=n%5) (by lia) (by show _<(5:Int);lia);have hl:(sz.map V.int).length=sz.length:=bh _;refine⟨zI (by show 5<=1000;decide),fun p0 hp0=>⟨_,rfl,bB ⟨(by show (0:Int)<5;decide),az (aV.of zC) hat ?_⟩⟩⟩;have s1:=zF hp0 (.lst [V.int 0,V.int 1,V.int 1,V.int 2,V.int 3]);have hz1:=hsz.mono s1;generalize upd H p0 (.lst [V.int 0,V.int 1,V.int 1,V.int 2,V.int 3])=H1 at s1 hz1 ⊢;refine⟨_,rfl,bB ⟨by ext w,?_⟩⟩
 have r0:0<=n/5:=by lia
 have r1:n/5<2147483648:=by lia
 refine⟨fun c H'=>H'=H1/\(c=true->0<e),?_,?_⟩
 .refine⟨_,rfl,rfl,_,rfl,?_⟩;refine fu (fun c=>?_) (fun c=>⟨rfl,fun z=>(by cases z)⟩);exact⟨_,rfl,bB ⟨_,rfl,rfl,fun z=>ba z⟩⟩
 rintro _ H' ⟨rfl,hc1⟩;refine fu (fun c=>?_) (fun c=>?_)
 .have he:=hc1 c;exact⟨_,rfl,_,rfl,bB ⟨(by show (0:Int)<e;exact he),zI (by show 2<=1000;decide),fun p hp=>q _ (.send _) _ (s1.trans (zF hp _)) (.send zC) (fun b hb=>by cases hb)⟩⟩
 refine⟨fun c H2=>H2=H'/\(c=true->0<sz.length),?_,?_⟩
 .exact⟨_,rfl,rfl,_,rfl,fu (fun c=>⟨_,rfl,fL rfl (.inl (aV.of hz1.1)) (bB ⟨_,rfl,rfl,fun z=>(by have:=ba z;rw[hl]at this;lia)⟩)⟩) (fun c=>⟨rfl,fun z=>(by cases z)⟩)⟩
 rintro _ H2 ⟨rfl,hc2⟩;refine fu (fun c=>?_) (fun c=>?_)
 .have he:=hc2 c;have h0:=qe (n/5) (show (((sz.map V.int).length:Nat):Int)≠0 by lia);have h1:=rM (n/5) (show (0:Int)<(((sz.map V.int).length:Nat):Int) by lia);ext a;obtain⟨_,hvz,qIQ⟩:=lM (xs:=sz.map V.int) (i:=n/5%(((sz.map V.int).length:Nat):Int)) h0 h1;obtain⟨z,hzm,rfl⟩:=dU.mp hvz;ext b;refine⟨_,rfl,_,rfl,fL rfl (.inl (aV.of hz1.1)) (bB ⟨(by show (0:Int)<(((sz.map V.int).length:Nat):Int);lia),?_⟩)⟩;exact⟨_,rfl,_,rfl,bB ⟨by ext w,_,rfl,_,rfl,az (aV.of hz1.1) qIQ (bB ⟨(by show (0:Int)<z;exact hz1.2.1 z hzm),zI (by show 3<=1000;decide),fun p hp=>q _ (.set _ _) _ (s1.trans (zF hp _)) (.set zC) (fun b hb=>by cases hb;exact⟨qe _ (by lia),by rw[<-hl];exact rM _ (by lia)⟩)⟩)⟩⟩
 refine⟨fun c H3=>H3=H2/\(c=true->0<sz.length),?_,?_⟩
 .refine⟨_,rfl,rfl,_,rfl,fu (fun c=>?_) (fun c=>⟨rfl,fun z=>(by cases z)⟩)⟩;refine⟨_,rfl,fL rfl (.inl (aV.of hz1.1)) (bB ⟨_,rfl,fu (fun c=>?_) (fun c=>⟨rfl,fun z=>(by cases z)⟩)⟩)⟩
  .have:=ba c;rw[hl]at this;exact⟨_,rfl,bB ⟨by ext w,_,_,rfl,rfl,(by show (0:Int)<5;decide),rfl,_,rfl,rfl,fun _=>by lia⟩⟩
 rintro _ H3 ⟨rfl,hc3⟩;refine fu (fun c=>?_) (fun c=>?_)
 .have he:=hc3 c;exact⟨_,rfl,_,rfl,fL rfl (.inl (aV.of hz1.1)) (bB ⟨(by show (0:Int)<(((sz.map V.int).length:Nat):Int);lia),_,rfl,bB ⟨⟨by decide,by decide,by decide⟩,_,_,rfl,rfl,.inl ⟨by lia,by lia⟩,_,rfl,bB ⟨_,rfl,bB ⟨by ext w,_,_,rfl,rfl,(by show (0:Int)<2;decide),_,_,rfl,rfl,.inl (by ext w),_,_,rfl,rfl,bB ⟨.inr ⟨by lia,by lia⟩,zI (by show 3<=1000;decide),fun p hp=>q _ (.add _ _) _ (s1.trans (zF hp _)) (.add zC) (fun b hb=>by cases hb;exact⟨qe _ (by lia),by rw[<-hl];exact rM _ (by lia)⟩)⟩⟩⟩⟩⟩)⟩
 refine⟨fun c H4=>H4=H3/\(c=true->0<sz.length),?_,?_⟩
 .exact⟨_,rfl,rfl,_,rfl,fu (fun c=>⟨_,rfl,fL rfl (.inl (aV.of hz1.1)) (bB ⟨_,rfl,rfl,fun z=>(by have:=ba z;rw[hl]at this;lia)⟩)⟩) (fun c=>⟨rfl,fun z=>(by cases z)⟩)⟩
 rintro _ H4 ⟨rfl,hc4⟩;refine fu (fun c=>?_) (fun c=>?_)
 .have he:=hc4 c;exact⟨_,rfl,_,rfl,fL rfl (.inl (aV.of hz1.1)) (bB ⟨(by show (0:Int)<(((sz.map V.int).length:Nat):Int);lia),_,rfl,bB ⟨by ext w,_,_,rfl,rfl,(by show (0:Int)<9;decide),_,_,rfl,rfl,zI (by show 3<=1000;decide),fun p hp=>q _ (.add _ _) _ (s1.trans (zF hp _)) (.add zC) (fun b hb=>by cases hb;exact⟨qe _ (by lia),by rw[<-hl];exact rM _ (by lia)⟩)⟩⟩)⟩
 refine⟨_,rfl,bB ⟨(by show (0:Int)<2;decide),rfl,_,rfl,fu (fun c=>?_) (fun c=>?_)⟩⟩
 .exact⟨zI (by show 2<=1000;decide),fun p hp=>q _ (.say _) _ (s1.trans (zF hp _)) (.say zC) (fun b hb=>by cases hb)⟩
 .exact⟨_,rfl,bB ⟨by ext w,_,_,rfl,rfl,(by show (0:Int)<3;decide),_,rfl,bB ⟨by ext w,_,_,rfl,fun z _ s5=>⟨zI (by show 2<=1000;decide),fun p hp=>q _ (.say _) _ ((s1.trans s5).trans (zF hp _)) (.say zC) (fun b hb=>by cases hb)⟩⟩⟩⟩
theorem fU:aH ["_law_script","_law_k","_law_salt","_law_sizes","_law_events","_law_number","_law_many","_law_deeds_here","_law_j"] ["_law_script","_law_k","_law_salt","_law_sizes","_law_events"] (aC pL):=fJ
theorem TV(F:dC K "_law_deeds" "_law_deeds" pL f fd)
  (aN:Dp P w K mg base aa 2 gm dm ["_law_script","_law_k","_law_salt"] (lQ K) "_law_mixed")
  (Lr:Dp P w K mg base aa 2 gd dd ["_law_number","_law_sizes","_law_events"] Rf "_law_deed")
  (aW:mg "range" = none) (aY:mg "tuple" = none):aO P w K mg base aa 3 f fd ["_law_script","_law_k","_law_salt","_law_sizes","_law_events"] (Df K):=by
 refine F.ok fU ?_ ?_
 .rintro _ _ _ _⟨a,ps,ns,sz,k,salt,e,rfl,_⟩;rfl
 ext d
 ext a;obtain⟨a,ps,ns,sz,k,salt,e,rfl,hS,h63,⟨_,_⟩,⟨_,_⟩,hsz,q⟩:=h;ext b
 refine⟨_,(zE (zK (i:=5) fU.nd rfl (bb rfl) (pC aN hr (zA (pv 0) (zA (pv 1) (zA (pv 2) zD)))))
  (zE (zK (i:=6) fU.nd rfl (bb rfl) (yB yU (yK (zA zB (zA zB (zA zB (zA zB (zA zB (zA zB (zA zB (zA zB zD))))))))) (yC zY (pv 5) zB) (fun _ _=>rfl)))
  (zE (zK (i:=7) fU.nd rfl (bb rfl) (yK zD))
  (zZ (cC PassesOwn.never rfl (bM rfl aW (zA (pv 6) zD)) (yJ (i:=8) fU.nd rfl (bb rfl))
  (zG (yI (dz il rO rN yH (pv 7) (zA (pC Lr hr (zA (pC aN hr (zA (pv 0) (zA (pv 1) (zA (yC yF (yC yF (pv 2) zB) (pv 8)) zD)))) (zA (pv 3) (zA (pv 4) zD)))) zD)))))
  (zG (zO (yA zX rfl aY nF (zA (pv 7) zD)))))))),?_⟩
 refine⟨_,rfl,_,rfl,_,rfl,a,ns,_,_,rfl,hS,h63,⟨by lia,by lia⟩,⟨by lia,by lia⟩,fun x _ _=>?_⟩;refine aJ fun G_ g_=>?_
 obtain⟨m,hm,hat⟩:∃ m:Nat,m<=3/\rK [V.int 0,V.int 0,V.int 1,V.int 1,V.int 1,V.int 2,V.int 2,V.int 3] (x%8)=some (.int (m:Int)):=by
  obtain⟨o,ho,e⟩:=HX (os:=[0,0,1,1,1,2,2,3]) (i:=x%8) (by lia) (by show _<(8:Int);lia);refine⟨o,?_,e⟩;simp only[List.mem_cons,List.not_mem_nil,or_false]at ho;lia
 ext b;refine⟨zI (by show 8<=1000;decide),fun p0 hp0=>⟨_,rfl,bB ⟨(by show (0:Int)<8;decide),az (aV.of zC) hat ?_⟩⟩⟩;have s1:=zF hp0 (.lst [V.int 0,V.int 0,V.int 1,V.int 1,V.int 1,V.int 2,V.int 2,V.int 3]);generalize upd H p0 (.lst [V.int 0,V.int 0,V.int 1,V.int 1,V.int 1,V.int 2,V.int 2,V.int 3])=H1 at s1 ⊢;refine⟨bg _,fun pd hpd=>?_⟩;have Vx:H pd=none:=s1.free hpd;have s2:=s1.trans (zF hpd (.lst []));refine⟨fun σ' H'=>∃ xs ds,aG H H'/\H' pd=some (.lst xs)/\iT H' xs ds/\(∀ d∈ds,d.ok sz.length)/\ds.length<=8/\∃ o8:aE V,σ'=[some (.ref a),some (.int k),some (.int salt),some (.ref ps),some (.int e),some (.int x),some (.int (m:Int)),some (.ref pd),o8],?_,?_⟩
 .refine⟨_,rfl,_,rfl,by lia,by lia,?_⟩;refine bu (fun i σ' H'=>∃ xs ds,aG H H'/\H' pd=some (.lst xs)/\iT H' xs ds/\(∀ d∈ds,d.ok sz.length)/\ds.length<=i/\∃ o8:aE V,σ'=[some (.ref a),some (.int k),some (.int salt),some (.ref ps),some (.int e),some (.int x),some (.int (m:Int)),some (.ref pd),o8])
   ⟨[],[],s2,zC,.nil,(fun d h=>by cases h),bN _,_,rfl⟩ ?_ (fun σ' H' ⟨xs,ds,s3,h3,hD,ok,l,r⟩=>⟨xs,ds,s3,h3,hD,ok,by lia,r⟩)
  rintro i σ' H3 _ aQ;ext a;obtain⟨xs,ds,s3,h3,hD,ok,_,o8,rfl⟩:=aQ;ext b;have lx2:=hD.length;refine⟨_,rfl,.inl ⟨rfl,_,aV.of h3⟩,_,rfl,_,rfl,_,rfl,bB ⟨_,rfl,bB ⟨a,ns,_,_,rfl,s3.seq hS,h63,⟨by lia,by lia⟩,⟨by lia,by lia⟩,fun y y0 y1=>?_⟩⟩⟩;refine⟨_,rfl,_,rfl,y,e,ps,sz,rfl,y0,y1,hsz.mono s3,fun v d _ s4 hd okd=>?_⟩;have k5:=aA.lst (s4 _ _ h3) (.lst (xs++[v]));refine⟨pd,_,_,rfl,rfl,s4 _ _ h3,zV (by lia),xs++[v],ds++[d],cB Vx (s3.trans s4) _,zC,(hD.mono ((aA.of s4).trans k5)).snoc (hd.mono k5),fun x hx=>?_,by rw[dj,gK];lia,_,rfl⟩;rcases cH.mp hx with hx | hx
  .exact ok x hx
  .rw[bJ.mp hx];exact okd
 rintro σ' H3 aQ;ext a;obtain⟨xs,ds,s3,h3,hD,ok,l,o8,rfl⟩:=aQ;ext b;exact⟨_,rfl,pd,_,rfl,.inl ⟨aV.of h3,fun p hp=>q _ ds _ (s3.trans (zF hp _)) ⟨p,xs,rfl,zC,hD.mono (aA.new hp _)⟩ ok l⟩⟩
theorem lW:aH ["_law_number","_law_rooms_here","_law_boxes","_law_high","_law_way","_law_rest"] ["_law_number","_law_rooms_here","_law_boxes","_law_high"] (aC j5):=fJ
theorem TJ(F:dC K "_law_guard" "_law_guard" j5 f fd)(dR:Dp P w K mg base aa n f fd ["_law_number","_law_rooms_here","_law_boxes","_law_high"] (lU n) "_law_guard") :
  aO P w K mg base aa (n+1) f fd ["_law_number","_law_rooms_here","_law_boxes","_law_high"] (lU (n+1)):=by
 refine F.ok lW ?_ ?_
 .rintro _ _ _ _⟨m,r,hi,b,rfl,_⟩;rfl
 ext d
 ext a;obtain⟨m,r,hi,b,rfl,r0,_,_,q⟩:=h;ext b
 refine⟨_,(zE (zK (i:=4) lW.nd rfl (bb rfl) (yC zY (pv 0) zB))
  (zE (zK (i:=5) lW.nd rfl (bb rfl) (yC yL (pv 0) zB))
  (zE (yD (bj (PW.pt (pw_and (zL iH (pv 3) zB (zR _)) (yP (zL yG (pv 4) zB (zR _))))))
  (zG (zO (zW (zA zP (zA (pC dR hr (zA (pv 5) (zA (pv 1) (zA (pv 2) (zA (yC mD (pv 3) zB) zD))))) zD)))))
  zT)
  (zE (yD (bj (PW.pt (pw_and (zL iH (pv 3) zB (zR _)) (yP (zL yG (pv 4) zB (zR _))))))
  (zG (zO (zW (zA zP (zA (pC dR hr (zA (pv 5) (zA (pv 1) (zA (pv 2) (zA (yC mD (pv 3) zB) zD))))) (zA (pC dR hr (zA (yC yL (pv 5) zB) (zA (pv 1) (zA (pv 2) (zA (yC mD (pv 3) zB) zD))))) zD))))))
  zT)
  (zE (yD (bj (PW.pt (pw_and (zL iH (pv 3) zB (zR _)) (yP (zL yG (pv 4) zB (zR _))))))
  (zG (zO (zW (zA zP (zA (pC dR hr (zA (pv 5) (zA (pv 1) (zA (pv 2) (zA (yC mD (pv 3) zB) zD))))) (zA (pC dR hr (zA (yC yL (pv 5) zB) (zA (pv 1) (zA (pv 2) (zA (yC mD (pv 3) zB) zD))))) zD))))))
  zT)
  (zE (yD (bj (PW.pt (pw_or (zL yG (pv 4) zB (zR _)) (pw_or1 (zL yG (pv 4) zB (zR _))))))
  (zG (zO (zW (zA zP (zA (yC zY (pv 5) (pv 1)) zD)))))
  zT)
  (zE (yD (bj (PW.pt (pw_and (zL yG (pv 4) zB (zR _)) (yP (zL iH (pv 2) zB (zR _))))))
  (zG (zO (zW (zA zP (zA (yC zY (pv 5) (pv 2)) (zA (yC zY (yC yL (pv 5) zB) zB) zD))))))
  zT)
  (zE (yD (bj (PW.pt (pw_and (zL yG (pv 4) zB (zR _)) (yP (zL iH (pv 2) zB (zR _))))))
  (zG (zO (zW (zA zP (zA (yC zY (pv 5) (pv 2)) (zA (yC zY (yC yL (pv 5) zB) zB) zD))))))
  zT)
  (zG (zO (zW (zA zP zD)))))))))))),?_⟩
 refine⟨_,rfl,bB ⟨(by show (0:Int)<9;decide),?_⟩⟩;refine⟨_,rfl,bB ⟨by ext w,?_⟩⟩;refine⟨fun c H'=>H'=H/\(c=true->1<hi),?_,?_⟩
 .refine⟨_,rfl,bB ⟨_,rfl,fu (fun c=>?_) (fun c=>⟨rfl,fun z=>(by cases z)⟩)⟩⟩;exact⟨_,rfl,rfl,_,rfl,rfl,fun _=>ba c⟩
 rintro _ H ⟨rfl,hc1⟩;refine fu (fun c=>?_) (fun c=>?_)
 .have hh:=hc1 c;exact⟨_,rfl,_,rfl,_,rfl,_,rfl,bB ⟨_,_,_,_,rfl,r0,by lia,by lia,fun v g H2 s2 hg YB ght=>⟨zI (by show 2<=1000;decide),fun p hp=>q _ (.neg g) _ (s2.trans (zF hp _)) (.neg zC (hg.mono (aA.new hp _))) YB (by show ((g.ht+1:Nat):Int)<=hi;lia)⟩⟩⟩
 refine⟨fun c H'=>H'=H/\(c=true->1<hi),?_,?_⟩
 .refine⟨_,rfl,bB ⟨_,rfl,fu (fun c=>?_) (fun c=>⟨rfl,fun z=>(by cases z)⟩)⟩⟩;exact⟨_,rfl,rfl,_,rfl,rfl,fun _=>ba c⟩
 rintro _ H ⟨rfl,hc2⟩;refine fu (fun c=>?_) (fun c=>?_)
 .have hh:=hc2 c;exact⟨_,rfl,_,rfl,_,rfl,_,rfl,bB ⟨_,_,_,_,rfl,r0,by lia,by lia,fun v g H2 s2 hg YB ght=>⟨_,rfl,bB ⟨by ext w,_,rfl,_,rfl,_,rfl,bB ⟨_,_,_,_,rfl,r0,by lia,by lia,fun v3 g3 H3 s3 hg3 qBG qJ1=>⟨zI (by show 3<=1000;decide),fun p hp=>q _ (.both g g3) _ ((s2.trans s3).trans (zF hp _)) (.both zC (hg.mono (aA.of (s3.trans (zF hp _)))) (hg3.mono (aA.new hp _))) ⟨YB,qBG⟩ (by show ((1+max g.ht g3.ht:Nat):Int)<=hi;lia)⟩⟩⟩⟩⟩⟩
 refine⟨fun c H'=>H'=H/\(c=true->1<hi),?_,?_⟩
 .refine⟨_,rfl,bB ⟨_,rfl,fu (fun c=>?_) (fun c=>⟨rfl,fun z=>(by cases z)⟩)⟩⟩;exact⟨_,rfl,rfl,_,rfl,rfl,fun _=>ba c⟩
 rintro _ H ⟨rfl,hc3⟩;refine fu (fun c=>?_) (fun c=>?_)
 .have hh:=hc3 c;exact⟨_,rfl,_,rfl,_,rfl,_,rfl,bB ⟨_,_,_,_,rfl,r0,by lia,by lia,fun v g H2 s2 hg YB ght=>⟨_,rfl,bB ⟨by ext w,_,rfl,_,rfl,_,rfl,bB ⟨_,_,_,_,rfl,r0,by lia,by lia,fun v3 g3 H3 s3 hg3 qBG qJ1=>⟨zI (by show 3<=1000;decide),fun p hp=>q _ (.either g g3) _ ((s2.trans s3).trans (zF hp _)) (.either zC (hg.mono (aA.of (s3.trans (zF hp _)))) (hg3.mono (aA.new hp _))) ⟨YB,qBG⟩ (by show ((1+max g.ht g3.ht:Nat):Int)<=hi;lia)⟩⟩⟩⟩⟩⟩
 refine⟨fun c H'=>H'=H,?_,?_⟩
 .exact⟨_,rfl,rfl,_,rfl,fu (fun c=>rfl) (fun c=>⟨_,rfl,rfl,_,rfl,rfl⟩)⟩
 rintro _ H rfl;refine fu (fun c=>?_) (fun c=>?_)
 .exact⟨_,rfl,_,rfl,bB ⟨(by show (0:Int)<r;exact r0),zI (by show 2<=1000;decide),fun p hp=>q _ (.inn _) _ (zF hp _) (.inn zC) trivial (by show (1:Int)<=hi;lia)⟩⟩
 refine⟨fun c H'=>H'=H/\(c=true->0<(b:Int)),?_,?_⟩
 .refine⟨_,rfl,rfl,_,rfl,fu (fun c=>⟨_,rfl,bB ⟨_,rfl,rfl,fun z=>ba z⟩⟩) (fun c=>⟨rfl,fun z=>(by cases z)⟩)⟩
 rintro _ H ⟨rfl,hc5⟩;refine fu (fun c=>?_) (fun c=>?_)
 .have hh:=hc5 c;exact⟨_,rfl,_,rfl,bB ⟨(by show (0:Int)<(b:Int);exact hh),_,rfl,bB ⟨by ext w,_,_,rfl,rfl,(by show (0:Int)<4;decide),zI (by show 3<=1000;decide),fun p hp=>q _ (.is _ _) _ (zF hp _) (.is zC) ⟨qe _ (by lia),rM _ hh⟩ (by show (1:Int)<=hi;lia)⟩⟩⟩
 refine⟨fun c H'=>H'=H/\(c=true->0<(b:Int)),?_,?_⟩
 .refine⟨_,rfl,rfl,_,rfl,fu (fun c=>⟨_,rfl,bB ⟨_,rfl,rfl,fun z=>ba z⟩⟩) (fun c=>⟨rfl,fun z=>(by cases z)⟩)⟩
 rintro _ H ⟨rfl,hc6⟩;refine fu (fun c=>?_) (fun c=>?_)
 .have hh:=hc6 c;exact⟨_,rfl,_,rfl,bB ⟨(by show (0:Int)<(b:Int);exact hh),_,rfl,bB ⟨by ext w,_,_,rfl,rfl,(by show (0:Int)<5;decide),zI (by show 3<=1000;decide),fun p hp=>q _ (.under _ _) _ (zF hp _) (.under zC) ⟨qe _ (by lia),rM _ hh⟩ (by show (1:Int)<=hi;lia)⟩⟩⟩
 exact⟨zI (by show 1<=1000;decide),fun p hp=>q _ .yes _ (zF hp _) (.yes zC) trivial (by show (1:Int)<=hi;lia)⟩
theorem KR:aO P w K mg base aa 0 f fd ["_law_number","_law_rooms_here","_law_boxes","_law_high"] (lU 0):=by
 have no:∀ vs H Q E,¬ lU 0 vs H Q E:=fun vs H Q E h=>by
  ext a;obtain⟨m,r,_,b,_,_,_,_,_⟩:=h;ext b;lia
 exact⟨fun vs H Q E h=>dP h (no vs H Q E),fun A _ s H _ _ vs Q E _ _ _ _ h=>dP h (no vs H Q E)⟩
theorem all_guard(F:dC K "_law_guard" "_law_guard" j5 f fd)(uA:Binds K fd ["_law_number","_law_rooms_here","_law_boxes","_law_high"] [])(tK:mg "_law_guard" = some (.ref f)):∀ n:Nat,aO P w K mg base aa n f fd ["_law_number","_law_rooms_here","_law_boxes","_law_high"] (lU n)
 | 0=>KR
 | n+1=>TJ F ⟨all_guard F uA tK n,uA,F.kp,tK⟩
theorem Eh{ds:ay Int}{k:Nat}(h:k<ds.length):rK (ds.map V.int) ((k:Nat):Int)=some (.int (ds.getD k 0)):=by refine yQ ?_;rw[dD,gM h,jU,gM h];rfl
def Low(ds:ay Int):Prop:=∀ k,k<ds.length->ds.getD k 0<=4
theorem Low.snoc(h:Low ds)(hv:v<=4):Low (ds++[v]):=fun k hk=>by
 rw[jU]
 by_cases e:k<ds.length
 .rw[vY e,<-jU];exact h k e
 .have:k=ds.length:=by
   rw[dj,gK]at hk;lia
  subst this;rw[R0 (bN _),iP];exact hv
def GK(K:cL):Sp:=fun vs H Q _ => ∃(a:av)(ns:ay Int)(m:Nat),vs=[.ref a,.int (m:Int)]/\aV K H a (ns.map V.int)/\ns.length<=63/\1<=m/\m<=12 ∧
 ∀(p:av)(ds:ay Int)(H':Hp),aG H H'->H p=none->H' p=some (.lst (ds.map V.int))->Tr.Good ds->Low ds->ds.length=m->Q (.ref p) H'
theorem jn:aH ["_law_script","_law_many","_law_depths_here","_law_k"] ["_law_script","_law_many"] (aC lY):=fJ
theorem Pr(F:dC K "_law_depths" "_law_depths" lY f fd)(aN:Dp P w K mg base aa 2 gm dm ["_law_script","_law_k","_law_salt"] (lQ K) "_law_mixed")
  (aW:mg "range" = none) (Tp:mg "min" = none):aO P w K mg base aa 3 f fd ["_law_script","_law_many"] (GK K):=by
 refine F.ok jn ?_ ?_
 .rintro _ _ _ _⟨a,ns,m,rfl,_⟩;rfl
 ext d
 ext a;obtain⟨a,ns,m,rfl,hS,h63,_,_,q⟩:=h;ext b
 refine⟨_,(zE (zK (i:=2) jn.nd rfl (bb rfl) (yK (zA zB zD)))
  (zZ (cC PassesOwn.never rfl (ue rfl aW (zA zB (zA (pv 1) zD))) (yJ (i:=3) jn.nd rfl (bb rfl))
  (zG (yI (dz il rO rN yH (pv 2) (zA (yC yF zB (yC zY (pC aN hr (zA (pv 0) (zA (yC yF zB (pv 3)) (zA zB zD)))) (yC yF (zS (Cg rfl) rfl Tp PyProof.Rows.boot_min (zA (yB yU (pv 2) (yC mD (pv 3) zB) (fun _ _=>rfl)) (zA zB zD))) zB))) zD)))))
  (zG (zO (pv 2))))),?_⟩
 ext f;refine⟨zI (by show 1<=1000;decide),fun pd hpd=>?_⟩;ext g;refine⟨fun σ' H'=>∃ dl:ay Int,aG H H'/\H' pd=some (.lst (dl.map V.int))/\Tr.Good dl/\Low dl/\dl.length=m/\∃ o3:aE V,σ'=[some (.ref a),some (.int (m:Int)),some (.ref pd),o3],?_,?_⟩
 .refine⟨_,rfl,au 1 (m:Int) ⟨rfl,⟨by decide,by decide,by lia,by lia⟩,?_⟩⟩;refine bu (fun i σ' H'=>∃ dl:ay Int,aG H H'/\H' pd=some (.lst (dl.map V.int))/\Tr.Good dl/\Low dl/\dl.length=i+1/\∃ o3:aE V,σ'=[some (.ref a),some (.int (m:Int)),some (.ref pd),o3])
   ⟨[0],zF hpd _,zC,.one,(fun k hk=>by (have:k=0:=by simpa using hk);subst this;decide),rfl,none,rfl⟩ ?_ ?_
  .rintro i σ' H2 _ aQ;ext a;obtain⟨dl,s2,h2,good,low,hl,o3,rfl⟩:=aQ;ext b;have gn:=good.nonneg i (by lia)
   have hat:rK (dl.map V.int) (1+(i:Int)-1)=some (.int (dl.getD i 0)):=by
    rw[show (1+(i:Int))-1=(i:Int) by lia];exact Eh (by lia)
   refine⟨_,rfl,.inl ⟨rfl,_,aV.of h2⟩,_,rfl,_,rfl,bB ⟨a,ns,_,_,rfl,s2.seq hS,h63,⟨by lia,by lia⟩,by ext w,fun y _ _=>?_⟩⟩
   have tp:0<=(if (3:Int)<dl.getD i 0 then 3 else dl.getD i 0)/\(if (3:Int)<dl.getD i 0 then 3 else dl.getD i 0)<=dl.getD i 0/\(if (3:Int)<dl.getD i 0 then 3 else dl.getD i 0)<=3:=by split <;> lia
   have hy0:=qe y (show (if (3:Int)<dl.getD i 0 then 3 else dl.getD i 0)+1≠0 by lia);have hy1:=rM y (show 0<(if (3:Int)<dl.getD i 0 then 3 else dl.getD i 0)+1 by lia);refine⟨_,rfl,_,rfl,bB (az (aV.of h2) hat (au _ _ ⟨rfl,bB (bB ⟨(by show (0:Int)<(if (3:Int)<dl.getD i 0 then 3 else dl.getD i 0)+1;lia),au _ _ ⟨rfl,rfl,pd,_,_,rfl,rfl,h2,zV (by rw[bh];lia),?_⟩⟩)⟩))⟩;refine⟨dl++[1+y%((if (3:Int)<dl.getD i 0 then 3 else dl.getD i 0)+1)],cB hpd s2 _,?_,good.snoc (by lia) (by rw[hl,Nat.add_sub_cancel];lia),low.snoc (by lia),by simp [hl],_,rfl⟩;rw[zC,iz];rfl
  .rintro σ' H2 aQ;ext a;obtain⟨dl,s2,h2,good,low,hl,o3,rfl⟩:=aQ;ext b;exact⟨dl,s2,h2,good,low,by lia,o3,rfl⟩
 rintro σ' H2 aQ;ext a;obtain⟨dl,s2,h2,good,low,hl,o3,rfl⟩:=aQ;ext b;exact⟨_,rfl,q pd dl H2 s2 hpd h2 good low hl⟩
inductive MF(K:cL)(vs:List V)(H:Hp)(Q:VK)(E_:XK):Prop
 | mk (a pd ps:Addr) (ns ds sz:List Int) (e:Int) (_:vs=[.ref a,.ref pd,.ref ps,.int e]) (_:aV K H a (ns.map V.int)) (_:ns.length<=63) (_:H pd=some (.lst (ds.map V.int))) (_:ds.length<=12) (_:jf H ps sz) (_:∀(t:Addr)(rv:List V)(rs:List Rm)(dis wK:List (List Dd))(H':Hp),aG H H'->H' t=some (.tup rv)->Ru.Qi sz.length H' rv rs dis wK->aD rs=ds->Fit rs->Q (.ref t) H')
theorem bA:aH ["_law_script","_law_depths_here","_law_sizes","_law_events","_law_rooms_here","_law_k","_law_number","_law_kind","_law_keeps","_law_lamp","_law_ins","_law_outs"] ["_law_script","_law_depths_here","_law_sizes","_law_events"] (aC Dt):=fJ
theorem T4(F:dC K "_law_rooms" "_law_rooms" Dt f fd)(aN:Dp P w K mg base aa 3 gm dm ["_law_script","_law_k","_law_salt"] (lQ K) "_law_mixed")
  (eU:Dp P w K mg base aa 3 gn dn ["_law_k","_law_number"] De "_law_name")
  (jj:Dp P w K mg base aa 3 gd dd ["_law_script","_law_k","_law_salt","_law_sizes","_law_events"] (Df K) "_law_deeds")
  (eG:Dp P w K mg base aa 3 gc dc ["_law_script","_law_k"] (Dh K) "_law_cell_at")
  (aW:mg "range" = none) (aP:mg "len" = none) (aY:mg "tuple" = none):aO P w K mg base aa 4 f fd ["_law_script","_law_depths_here","_law_sizes","_law_events"] (MF K):=by
 refine F.ok bA ?_ ?_
 .rintro _ _ _ _⟨a,pd,ps,ns,ds,sz,e,rfl,_⟩;rfl
 intro _ A _ s H vs Q E hr h
 ext a;obtain⟨a,pd,ps,ns,ds,sz,e,rfl,hS,h63,hd,_,hsz,q⟩:=h;ext b
 refine⟨_,(zE (zK (i:=4) bA.nd rfl (bb rfl) (yK zD))
  (zZ (cC PassesOwn.never rfl (bM rfl aW (zA (zS zN rfl aP bU (zA (pv 1) zD)) zD)) (yJ (i:=5) bA.nd rfl (bb rfl))
  (zE (zK (i:=6) bA.nd rfl (bb rfl) (pC aN hr (zA (pv 0) (zA (yC yF zB (pv 5)) (zA zB zD)))))
  (zE (zK (i:=7) bA.nd rfl (bb rfl) zP)
  (zE (zK (i:=8) bA.nd rfl (bb rfl) zP)
  (zZ (yD (bj (PW.pt (pw_and (zL n6 (yC yF (pv 5) zB) (zS zN rfl aP bU (zA (pv 1) zD)) (zR _)) (yP (zL iH (yB yU (pv 1) (yC yF (pv 5) zB) (fun _ _=>rfl)) (yB yU (pv 1) (pv 5) (fun _ _=>rfl)) (zR _))))))
  (zE (zK (i:=7) bA.nd rfl (bb rfl) (yB yU (yK (zA zP (zA zP (zA zP zD)))) (yC zY (pv 6) zB) (fun _ _=>rfl)))
  (zG (zK (i:=8) bA.nd rfl (bb rfl) (yB yU (yK (zA zP (zA zP (zA zP zD)))) (yC zY (yC yL (pv 6) zB) zB) (fun _ _=>rfl)))))
  zT)
  (zZ (yD (bj (PW.pt (pw_and (zL yG (pv 7) zP (zR _)) (yP (zL yG (pv 8) zP (zR _))))))
  (zG (zK (i:=8) bA.nd rfl (bb rfl) zP))
  zT)
  (zE (zK (i:=9) bA.nd rfl (bb rfl) zP)
  (zZ (yD (zL yG (yC zY (yC yL (pv 6) zB) zB) zB (zR _))
  (zG (zK (i:=9) bA.nd rfl (bb rfl) (pC eU hr (zA (yC zY (yC yL (pv 6) zB) zB) (zA (yC yL (pv 6) zB) zD)))))
  zT)
  (zE (zK (i:=10) bA.nd rfl (bb rfl) (pC jj hr (zA (pv 0) (zA (yC yF zB (pv 5)) (zA zB (zA (pv 2) (zA (pv 3) zD)))))))
  (zE (zK (i:=11) bA.nd rfl (bb rfl) (pC jj hr (zA (pv 0) (zA (yC yF zB (pv 5)) (zA zB (zA (pv 2) (zA (pv 3) zD)))))))
  (zG (yI (dz il rO rN yH (pv 4) (zA (zW (zA (pC eU hr (zA (pv 5) (zA (yC zY (pC eG hr (zA (pv 0) (zA zB zD))) zB) zD))) (zA (pv 7) (zA (yB yU (pv 1) (pv 5) (fun _ _=>rfl)) (zA (pv 8) (zA (pv 9) (zA (pv 10) (zA (pv 11) zD)))))))) zD))))))))))))))
  (zG (zO (yA zX rfl aY nF (zA (pv 4) zD)))))),?_⟩
 ext f;have lds:(ds.map V.int).length=ds.length:=bh _;refine⟨bg _,fun pr hpr=>?_⟩;ext g;have s1:=zF hpr (.lst []);refine⟨fun σ' H'=>∃ vs rs dis wK,aG H H'/\H' pr=some (.lst vs)/\Ru.Qi sz.length H' vs rs dis wK/\aD rs=ds/\Fit rs/\∃ o5 o6 o7 o8 o9 HN HJ:aE V,σ'=[some (.ref a),some (.ref pd),some (.ref ps),some (.int e),some (.ref pr),o5,o6,o7,o8,o9,HN,HJ],?_,?_⟩
 .refine⟨_,rfl,fL rfl (.inl (aV.of (s1 _ _ hd))) ⟨_,rfl,by lia,by rw[lds];lia,?_⟩⟩
  refine bu (fun i σ' H'=>∃(vs:ay V)(rs:ay Rm)(dis wK:ay (ay Dd)),aG H H'/\H' pr=some (.lst vs)/\Ru.Qi sz.length H' vs rs dis wK/\aD rs=ds.take i/\rs.length=i/\(∀(k:Nat)(x:Rm),rs[k]? = some x->if k+1<ds.length/\ds.getD k 0<ds.getD (k+1) 0 then (x.kind = "one" ∨ x.kind = "all") else x.kind = "plain") ∧
   ∃ o5 o6 o7 o8 o9 HN HJ:aE V,σ'=[some (.ref a),some (.ref pd),some (.ref ps),some (.int e),some (.ref pr),o5,o6,o7,o8,o9,HN,HJ]) (jV [] [] [] [] ⟨s1,zC,Ru.Qi.nil _,rfl,rfl,(fun k x h=>by simp at h),uM none none none none none none ⟨none,rfl⟩⟩) ?_ ?_
  .rintro i σ' H3 hi aQ;refine Q0 fun _ aK _ x_1=>?_;ext a;obtain⟨vs,rs,dis,wK,s3,h3,hI,Eo,hlen,hkd,o5,o6,o7,o8,o9,HN,HJ,rfl⟩:=aQ;ext b
   have hi':i<ds.length:=by
    simp only[List.length_map,Int.toNat_natCast]at hi;exact hi
   have hd3:=s3 _ _ hd
   have hat:rK (ds.map V.int) (0+(i:Int))=some (.int (ds.getD i 0)):=by
    rw[c9];exact Eh hi'
   refine⟨_,rfl,_,rfl,bB ⟨a,ns,_,_,rfl,s3.seq hS,h63,⟨by lia,by lia⟩,by ext w,fun x _ _=>?_⟩⟩;ext e;refine x_1 ⟨fun σ' H4=>aG H3 H4/\∃ kd kp:Str,(if i+1<ds.length/\ds.getD i 0<ds.getD (i+1) 0 then (kd = "one" ∨ kd = "all") else kd = "plain")/\σ'=[some (.ref a),some (.ref pd),some (.ref ps),some (.int e),some (.ref pr),some (.int (0+(i:Int))),some (.int x),some (.str kd),some (.str kp),o9,HN,HJ],?_,?_⟩
   .refine⟨fun c H4=>H4=H3/\c=decide (i+1<ds.length/\ds.getD i 0<ds.getD (i+1) 0),?_,?_⟩
    .refine⟨_,rfl,bB ⟨_,rfl,fL rfl (.inl (aV.of hd3)) (bB ⟨_,rfl,?_⟩)⟩⟩;refine oY (fun c=>?_) (fun c=>⟨rfl,?_⟩)
     .have c':(0:Int)+(i:Int)+1<(((ds.map V.int).length:Nat):Int):=ba c;rw[lds]at c'
      have yh:rK (ds.map V.int) (0+(i:Int)+1)=some (.int (ds.getD (i+1) 0)):=by
       rw[show (0:Int)+(i:Int)+1=((i+1:Nat):Int) by lia];exact Eh (by lia)
      refine⟨_,rfl,_,rfl,bB (az (aV.of hd3) yh ⟨_,rfl,_,rfl,az (aV.of hd3) hat (bB ⟨_,rfl,rfl,?_⟩)⟩)⟩
      have e:i+1<ds.length:=by lia
      simp [e]
     .have c':¬ (0:Int)+(i:Int)+1<(((ds.map V.int).length:Nat):Int):=fun z=>c (bp z);rw[lds]at c'
      have e:¬ i+1<ds.length:=by lia
      simp [e]
    rintro c H4 ⟨rfl,hc⟩;refine oY (fun c1=>?_) (fun c1=>?_);refine bD fun _ nJ=>?_
    .rw[c1]at hc;have hc':=ba hc.symm;ext a;obtain⟨kd,hkm,hk1⟩:=wV (zs:=[("one" : Str),"one","all"]) (i:=x%3) (by lia) (by show _<(3:Int);lia);obtain⟨kp,_,hk2⟩:=wV (zs:=[("" : Str),"near","deep"]) (i:=x/3%3) (by lia) (by show _<(3:Int);lia);ext b;refine⟨zI (by show 3<=1000;decide),fun _ Nz=>?_⟩;have s5:=zF Nz (.lst [V.str "one",V.str "one",V.str "all"]);refine⟨_,rfl,bB ⟨(by show (0:Int)<3;decide),az (aV.of zC) hk1 ?_⟩⟩;refine nJ ?_;clear nJ;refine⟨zI (by show 3<=1000;decide),fun p6 hp6=>?_⟩;have s6:=s5.trans (zF hp6 (.lst [V.str "",V.str "near",V.str "deep"]))
     refine⟨_,rfl,au _ _ ⟨rfl,rfl,by ext w,au _ _ ⟨rfl,rfl,(by show (0:Int)<3;decide),p6,_,_,_,rfl,rfl,aV.of zC,hk2,s6,au kd kp ⟨(by
      rw[cE hc'];simp only[List.mem_cons,List.not_mem_nil,or_false]at hkm;rcases hkm with h | h | h
      .exact .inl h
      .exact .inl h
      .exact .inr h),rfl⟩⟩⟩⟩
    .rw[e7.mpr c1]at hc;have hc':=bE hc.symm;exact⟨aG.refl _,au _ _ ⟨(by rw[cy hc']),rfl⟩⟩
   rintro σ5 H5 aQ;ext a;obtain⟨s4,kd,_,qIN,rfl⟩:=aQ;ext b;refine⟨fun σ' H6=>H6=H5/\∃ kp:Str,σ'=[some (.ref a),some (.ref pd),some (.ref ps),some (.int e),some (.ref pr),some (.int (0+(i:Int))),some (.int x),some (.str kd),some (.str kp),o9,HN,HJ],?_,?_⟩
   .refine⟨fun c H6=>H6=H5,?_,?_⟩
    .exact⟨_,rfl,rfl,_,rfl,fu (fun c=>⟨_,rfl,rfl,_,rfl,rfl⟩) (fun c=>rfl)⟩
    rintro c H6 rfl;exact fu (fun c=>⟨rfl,_,rfl⟩) (fun c=>⟨rfl,_,rfl⟩)
   rintro σ6 H6 aQ;refine bD fun _ nJ=>?_;refine nJ (aJ fun G_ g_=>?_);obtain⟨rfl,kp,rfl⟩:=aQ;ext b;refine⟨fun σ' H7=>aG H6 H7/\∃ lp:Str,σ'=[some (.ref a),some (.ref pd),some (.ref ps),some (.int e),some (.ref pr),some (.int (0+(i:Int))),some (.int x),some (.str kd),some (.str kp),some (.str lp),HN,HJ],?_,?_⟩
   .refine⟨_,rfl,bB ⟨by ext w,au _ _ ⟨rfl,rfl,(by show (0:Int)<3;decide),rfl,_,rfl,fu (fun c=>?_) (fun c=>⟨aG.refl _,_,rfl⟩)⟩⟩⟩;exact⟨_,rfl,bB ⟨by ext w,au _ _ ⟨rfl,rfl,(by show (0:Int)<3;decide),_,rfl,bB ⟨by ext w,_,_,rfl,fun z H7 s7=>⟨s7,z,rfl⟩⟩⟩⟩⟩
   rintro σ7 H7 aQ;refine bD fun _ x_3=>?_;ext a;obtain⟨s7,lp,rfl⟩:=aQ;ext b;have s37:=(s3.trans s4).trans s7;refine⟨_,rfl,_,rfl,bB ⟨_,rfl,_,rfl,a,ps,ns,sz,_,_,_,rfl,s37.seq hS,h63,⟨by lia,by lia⟩,by ext w,hsz.mono s37,fun vi di _ s8 hdi oki ldi=>?_⟩⟩;refine x_3 ?_;clear x_3;refine bD fun _ x_3=>?_;have s38:=s37.trans s8;refine⟨_,rfl,_,rfl,bB ⟨_,rfl,_,rfl,a,ps,ns,sz,_,_,_,rfl,s38.seq hS,h63,⟨by lia,by lia⟩,by ext w,hsz.mono s38,fun vo dO _ s9 hdo oko ldo=>?_⟩⟩;refine x_3 ?_;clear x_3;have s39:=s38.trans s9;have h9:=((s4.trans s7).trans (s8.trans s9)) _ _ h3;refine⟨_,rfl,.inl ⟨rfl,_,aV.of h9⟩,_,rfl,_,rfl,a,ns,_,rfl,s39.seq hS,h63,fun _=>?_⟩;refine (bB ⟨(by show (0:Int)<997;decide),_,_,rfl,fun y _ Ge=>?_⟩);have t10:=((s4.trans s7).trans (s8.trans s9)).trans Ge;have h10:=t10 _ _ h3;refine⟨_,rfl,_,rfl,_,rfl,az (aV.of (t10 _ _ hd3)) hat ⟨_,rfl,_,rfl,_,rfl,_,rfl,zI (by show 7<=1000;decide),fun p7 hp7=>?_⟩⟩;have u3:=zF hp7 (.tup [.str y,.str kd,.int (ds.getD i 0),.str kp,.str lp,vi,vo]);have h7:=u3 _ _ h10;have lv:=hI.inn.length;have kl:=aA.lst h7 (.lst (vs++[.ref p7]));refine⟨pr,_,_,rfl,rfl,h7,zV (by lia),aK (jV (vs++[.ref p7]) (rs++[⟨y,kd,ds.getD i 0,kp,lp,vi,vo⟩]) (dis++[di]) (wK++[dO]) ⟨cB hpr ((s3.trans t10).trans u3) _,zC,Ru.Qi.snoc (hI.mono ((aA.of (t10.trans u3)).trans kl)) (r:=⟨y,kd,ds.getD i 0,kp,lp,vi,vo⟩) ⟨p7,rfl,kl _ _ zC⟩ (hdi.mono ((aA.of ((s9.trans Ge).trans u3)).trans kl)) (hdo.mono ((aA.of (Ge.trans u3)).trans kl)) ⟨oki,ldi⟩ ⟨oko,ldo⟩,?_,by simp [hlen],fun k x hx=>?_,uM _ _ _ _ _ _ ⟨_,rfl⟩⟩)⟩
   .unfold aD at Eo ⊢;rw[iz,Eo,iV,gM hi',jU,gM hi'];rfl
   .by_cases hk:k<rs.length
    .rw[vY hk]at hx;exact hkd k x hx
    .have hk':k=rs.length:=by
      have:=(fO.mp hx).1;simp only[List.length_append,List.length_singleton]at this;lia
     subst hk';rw[R0 (bN _)]at hx;simp at hx;subst hx;rw[hlen];exact qIN
  .rintro σ' H3 aQ;ext a;obtain⟨vs,rs,dis,wK,s3,h3,hI,Eo,hlen,hkd,r⟩:=aQ;ext b
   have e:(((ds.map V.int).length:Nat):Int).toNat=ds.length:=by simp
   rw[e]at Eo hlen;rw[vK (bN _)]at Eo;refine jV vs rs dis wK ⟨s3,h3,hI,Eo,fun k x hx=>?_,r⟩;rw[Eo,hlen];exact hkd k x hx
 rintro σ' H3 aQ;ext a;obtain⟨vs,rs,dis,wK,s3,h3,hI,Eo,hfit,o5,o6,o7,o8,o9,HN,HJ,rfl⟩:=aQ;ext b;refine⟨_,rfl,au pr _ ⟨rfl,.inl ⟨aV.of h3,fun t ht=>?_⟩⟩⟩;exact q t vs rs dis wK _ (s3.trans (zF ht _)) zC (hI.mono (aA.new ht _)) Eo hfit
end vI
namespace vI
open PySem L2 qH rF Cv JS Fw
open Ru (Wy Dx zc uE)
def gV:aE Int->V
 | none=>.non
 | some j=>.int j
def Ld(n:Nat)(wy:Str)(g:aE Int):Prop:=(wy=("stay" : Str)/\g=none)∨((wy=("to" : Str)∨wy=("back" : Str))/\∃ j:Int,g=some j/\0<=j/\j<(n:Int))
def Vm(n nb:Nat)(d:Dx):Prop:=d.room<n/\d.way.gl<n/\d.g.ok nb/\d.g.ht<=3/\(∀ x∈d.dd,x.ok nb)/\d.dd.length<=8
theorem Ld.wy(h:Ld n w g)(n0:0<n):∃ y:Wy,y.tx=w/\y.gv=gV g/\y.gl<n:=by
 rcases h with ⟨rfl,rfl⟩ | ⟨h,j,rfl,j0,j1⟩
 .exact⟨.stay,rfl,rfl,n0⟩
 .have e:((j.toNat:Nat):Int)=j:=eI j0;rcases h with rfl | rfl
  .exact⟨.to j.toNat,rfl,by show V.int ((j.toNat:Nat):Int)=V.int j;rw[e],by show j.toNat<n;lia⟩
  .exact⟨.back j.toNat,rfl,by show V.int ((j.toNat:Nat):Int)=V.int j;rw[e],by show j.toNat<n;lia⟩
inductive MT(K:cL)(vs:List V)(H:Hp)(Q:VK)(E_:XK):Prop
 | mk (a t ps:Addr) (ns sz:List Int) (rs:List Rm) (m:Nat) (e:Int) (_:vs=[.ref a,.int (m:Int),.ref t,.ref ps,.int e]) (_:aV K H a (ns.map V.int)) (_:ns.length<=63) (_:m<=12) (_:dB H t rs) (_:1<=rs.length) (_:rs.length<=12) (_:jf H ps sz) (_:0<=e) (_:∀(p:Addr)(dv:List V)(ds:List Dx)(H':Hp),aG H H'->H' p=some (.tup dv)->Al (zc H') dv ds->(∀ d∈ds,Vm rs.length sz.length d)->ds.length<=12->Q (.ref p) H')
theorem ao:aH ["_law_script","_law_many","_law_rooms_here","_law_sizes","_law_events","_law_doors_here","_law_k","_law_number","_law_goal","_law_way","_law_keepers","_law_guard_here","_law_deeds_here","_law_place"] ["_law_script","_law_many","_law_rooms_here","_law_sizes","_law_events"] (aC kJ):=fJ
theorem TQ(F:dC K "_law_doors" "_law_doors" kJ f fd)(aN:Dp P w K mg base aa 3 gm dm ["_law_script","_law_k","_law_salt"] (lQ K) "_law_mixed")
  (dR:Dp P w K mg base aa 3 gg dg ["_law_number","_law_rooms_here","_law_boxes","_law_high"] (lU 3) "_law_guard")
  (jj:Dp P w K mg base aa 3 gd dd ["_law_script","_law_k","_law_salt","_law_sizes","_law_events"] (Df K) "_law_deeds")
  (aW:mg "range" = none) (aP:mg "len" = none) (aY:mg "tuple" = none) (Tq:mg "int" = none):aO P w K mg base aa 4 f fd ["_law_script","_law_many","_law_rooms_here","_law_sizes","_law_events"] (MT K):=by
 refine F.ok ao ?_ ?_
 .rintro _ _ _ _⟨a,t,ps,ns,sz,rs,m,e,rfl,_⟩;rfl
 intro _ A _ s H vs Q E hr h
 ext a;obtain⟨a,t,ps,ns,sz,rs,m,e,rfl,hS,h63,_,hR,_,_,hsz,_,q⟩:=h;ext b
 refine⟨_,(zE (zK (i:=5) ao.nd rfl (bb rfl) (yK zD))
  (zZ (cC PassesOwn.never rfl (bM rfl aW (zA (yC gU (pv 1) (yA Qa rfl Tq PyProof.Rows.boot_int (zA (pQ iH (pv 4) zB (zR _)) zD))) zD)) (yJ (i:=6) ao.nd rfl (bb rfl))
  (zE (zK (i:=7) ao.nd rfl (bb rfl) (pC aN hr (zA (pv 0) (zA (yC yF zB (pv 6)) (zA zB zD)))))
  (zE (zK (i:=8) ao.nd rfl (bb rfl) (yC zY (yC yL (pv 7) zB) (zS zN rfl aP bU (zA (pv 2) zD))))
  (zE (zK (i:=9) ao.nd rfl (bb rfl) (yB yU (yK (zA zP (zA zP (zA zP (zA zP (zA zP zD)))))) (yC zY (pv 7) zB) (fun _ _=>rfl)))
  (zE (lg (i:=10) (aj:=[(2,"_law_rooms_here")]) rfl ao.nd rfl (bb rfl) (show bK (aC kJ) ["_law_script","_law_many","_law_rooms_here","_law_sizes","_law_events","_law_doors_here","_law_k","_law_number","_law_goal","_law_way","_law_keepers","_law_guard_here","_law_deeds_here","_law_place"] _ _ _ from vm) (bM rfl aW (zA (zS zN rfl aP bU (zA (pv 2) zD)) zD)) (fun _ _ _ _ _ _=>fZ (zL qZ (yB (r:=jE K) zH (yB (r:=jE K) zH (pv 1) (pv 0) (fun _ _=>rfl)) zB (fun _ _=>rfl)) zP (zR _))) (fun _ _ _ _ _ _=>(pv 0)))
  (zZ (yD (bj (PW.pt (pw_and (zL yG (pv 9) zP (zR _)) (yP (zL yG (zS zN rfl aP bU (zA (pv 10) zD)) zB (zR _))))))
  (zG (zK (i:=9) ao.nd rfl (bb rfl) zP))
  zT)
  (zZ (yD (zL yG (pv 9) zP (zR _))
  (zG (zK (i:=8) ao.nd rfl (bb rfl) (yB yU (pv 10) (yC zY (pv 8) (zS zN rfl aP bU (zA (pv 10) zD))) (fun _ _=>rfl))))
  zT)
  (zZ (yD (zL yG (pv 9) zP (zR _))
  (zG (zK (i:=8) ao.nd rfl (bb rfl) cQ))
  zT)
  (zE (zK (i:=11) ao.nd rfl (bb rfl) (zW (zA zP zD)))
  (zZ (yD (zL yG (yC zY (yC yL (pv 7) zB) zB) zB (zR _))
  (zG (zK (i:=11) ao.nd rfl (bb rfl) (pC dR hr (zA (pC aN hr (zA (pv 0) (zA (yC yF zB (pv 6)) (zA zB zD)))) (zA (zS zN rfl aP bU (zA (pv 2) zD)) (zA (zS zN rfl aP bU (zA (pv 3) zD)) (zA zB zD)))))))
  zT)
  (zE (zK (i:=12) ao.nd rfl (bb rfl) (pC jj hr (zA (pv 0) (zA (yC yF zB (pv 6)) (zA zB (zA (pv 3) (zA (pv 4) zD)))))))
  (zE (zK (i:=13) ao.nd rfl (bb rfl) (yC zY (pC aN hr (zA (pv 0) (zA (yC yF zB (pv 6)) (zA zB zD)))) (zS zN rfl aP bU (zA (pv 2) zD))))
  (zG (yI (dz il rO rN yH (pv 5) (zA (zW (zA (pv 13) (zA (yC zY (pC aN hr (zA (pv 0) (zA (yC yF zB (pv 6)) (zA zB zD)))) (pv 4)) (zA (pv 11) (zA (pv 12) (zA (pv 9) (zA (pv 8) zD))))))) zD))))))))))))))))
  (zG (zO (yA zX rfl aY nF (zA (pv 5) zD)))))),?_⟩
 ext f;ext a;obtain⟨rv,htr,hrs⟩:=hR;ext b;have Tw:=hrs.length;refine⟨bg _,fun pr hpr=>?_⟩;ext g;have s1:=zF hpr (.lst []);refine⟨fun σ' H'=>∃ vs ds,aG H H'/\H' pr=some (.lst vs)/\Al (zc H') vs ds/\(∀ d∈ds,Vm rs.length sz.length d)/\ds.length<=12/\∃ o6 o7 o8 o9 HN HJ Fp Bo:aE V,σ'=[some (.ref a),some (.int (m:Int)),some (.ref t),some (.ref ps),some (.int e),some (.ref pr),o6,o7,o8,o9,HN,HJ,Fp,Bo],?_,?_⟩
 .have hN:((m:Int)*(if decide (0<e)=true then 1 else 0)).toNat<=m/\(0<((m:Int)*(if decide (0<e)=true then 1 else 0)).toNat->0<e)/\((m:Int)*(if decide (0<e)=true then 1 else 0))<=12/\0<=((m:Int)*(if decide (0<e)=true then 1 else 0)):=by
   by_cases c:0<e
   .rw[cE (bp c)];exact⟨by lia,fun _=>c,by lia,by lia⟩
   .rw[cy (by rw[bo c];exact qg)];exact⟨by lia,fun z=>by lia,by lia,by lia⟩
  refine⟨_,rfl,_,rfl,bB (.inr ⟨_,rfl,bB ⟨tH (by lia) (by lia),_,rfl,by lia,?_,?_⟩⟩)⟩
  .exact Int.lt_of_le_of_lt hN.2.2.1 (by decide)
  refine bu (fun i σ' H'=>∃ vs ds,aG H H'/\H' pr=some (.lst vs)/\Al (zc H') vs ds/\(∀ d∈ds,Vm rs.length sz.length d)/\ds.length=i/\∃ o6 o7 o8 o9 HN HJ Fp Bo:aE V,σ'=[some (.ref a),some (.int (m:Int)),some (.ref t),some (.ref ps),some (.int e),some (.ref pr),o6,o7,o8,o9,HN,HJ,Fp,Bo])
   (au [] [] ⟨s1,zC,.nil,(fun d h=>by cases h),rfl,uM none none none none none none (au none none rfl)⟩) ?_ (fun σ' H' ⟨vs,ds,h1,h2,h3,h4,_,h6⟩=>au vs ds ⟨h1,h2,h3,h4,by have:=hN.1;lia,h6⟩)
  rintro i σ' H3 _ aQ;refine Q0 fun _ aK _ x_1=>?_;ext a;obtain⟨vs,ds,s3,h3,hA,hfit,hlen,o6,o7,o8,o9,HN,HJ,Fp,Bo,rfl⟩:=aQ;ext b
  have him:i<12:=by
   have:=hN.1;lia
  have ep:0<e:=hN.2.1 (by lia);refine⟨_,rfl,_,rfl,bB ⟨a,ns,_,_,rfl,s3.seq hS,h63,⟨by lia,by lia⟩,by ext w,fun x _ _=>?_⟩⟩;ext e
  have lp:(0:Int)<((rv.length:Nat):Int):=by lia
  have g00:=qe (x/15) (show ((rv.length:Nat):Int)≠0 by lia);have g01:=rM (x/15) lp;refine⟨_,rfl,bB ⟨by ext w,_,rfl,fL rfl (.inr (aM.of (s3 _ _ htr))) (bB ⟨lp,?_⟩)⟩⟩;ext e;ext a;obtain⟨w0,hw0,qBF⟩:=wV (zs:=[("to" : Str),"to","back","back","stay"]) (i:=x%5) (by lia) (by show _<(5:Int);lia);ext b;refine⟨zI (by show 5<=1000;decide),fun p5 Nz=>⟨_,rfl,bB ⟨(by show (0:Int)<5;decide),az (aV.of zC) qBF ?_⟩⟩⟩;ext e;have s5:=zF Nz (.lst [V.str "to",V.str "to",V.str "back",V.str "back",V.str "stay"]);generalize Z9:upd H3 p5 (.lst [V.str "to",V.str "to",V.str "back",V.str "back",V.str "stay"])=H5 at s5 ⊢;have Zx:=s3.trans s5;refine⟨_,rfl,fL rfl (.inr (aM.of (Zx _ _ htr))) ⟨_,rfl,by lia,by lia,?_⟩⟩;refine gq (fun i' acc H'=>H'=H5/\∃ js:ay Nat,acc=aB js/\js.length<=i'/\(∀ j∈js,j<rs.length)) ⟨rfl,[],rfl,bN _,fun j z=>by cases z⟩ (fun i' acc H' _ ⟨e1,js,e2,e3,e4⟩=>?_) (fun acc H' ⟨e1,js,e2,e3,e4⟩ p2 hp2=>?_)
  .subst e1 e2
   have hj:i'<rs.length:=by lia
   ext a;obtain⟨_,hv2,a2,rfl,ha2⟩:=hrs.get (gM hj);ext b
   have yh:rK rv (0+(i':Int))=some (.ref a2):=by
    rw[c9];exact yQ hv2
   refine⟨_,rfl,_,rfl,aF (aM.of (Zx _ _ htr)) yh (aF (aM.of (Zx _ _ ha2)) rfl ⟨rfl,_,rfl,?_⟩)⟩;refine fu (fun c=>?_) (fun c=>⟨rfl,js,rfl,by lia,e4⟩);refine⟨_,rfl,zV (by rw[zU];lia),rfl,js++[i'],?_,by simp;lia,fun j z=>?_⟩
   .rw[<-gZ,c9]
   .rcases cH.mp z with z | z
    .exact e4 j z
    .rw[bJ.mp z];exact hj
  refine x_1 ?_;clear x_1;subst e1 e2;have s6:=zF hp2 (.lst (aB js));have h6:upd H' p2 (.lst (aB js)) p2=some (.lst (aB js)):=zC;generalize hH6:upd H' p2 (.lst (aB js))=H6 at s6 h6 ⊢;have s36:=Zx.trans s6;have ln:=zU js;refine⟨fun σ' H'=>H'=H6/\∃ wy:Str,(wy = "to" ∨ wy = "back" ∨ wy = "stay")/\(wy = "back" -> js≠[])/\σ'=[some (.ref a),some (.int (m:Int)),some (.ref t),some (.ref ps),some (.int e),some (.ref pr),some (.int (0+(i:Int))),some (.int x),some (.int (x/15%((rv.length:Nat):Int))),some (.str wy),some (.ref p2),HJ,Fp,Bo],?_,?_⟩
  .refine⟨fun c H'=>H'=H6/\(c=false->w0 = "back" -> js≠[]),?_,?_⟩
   .refine⟨_,rfl,rfl,_,rfl,fu (fun c=>?_) (fun c=>⟨rfl,fun _ z=>?_⟩)⟩
    .exact⟨_,rfl,au p2 _ ⟨rfl,.inl (aV.of h6),rfl,_,rfl,rfl,fun z _ z2=>by
      subst z2
      exact bE z rfl⟩⟩
    .exact dP (by rw[z]) (bE c)
   rintro c H' ⟨rfl,hc⟩;refine fu (fun c=>?_) (fun c=>?_)
   .exact⟨rfl,_,.inl rfl,fun z=>dP z (by decide),rfl⟩
   .refine⟨rfl,w0,?_,hc c,rfl⟩;simp only[List.mem_cons,List.not_mem_nil,or_false]at hw0;rcases hw0 with h | h | h | h | h
    .exact .inl h
    .exact .inl h
    .exact .inr (.inl h)
    .exact .inr (.inl h)
    .exact .inr (.inr h)
  rintro σ7 H7 aQ;ext a;obtain⟨rfl,wy,hwy,hne,rfl⟩:=aQ;ext b;refine⟨fun σ' H'=>H'=H7/\∃ g:Int,0<=g/\g<(rs.length:Int)/\σ'=[some (.ref a),some (.int (m:Int)),some (.ref t),some (.ref ps),some (.int e),some (.ref pr),some (.int (0+(i:Int))),some (.int x),some (.int g),some (.str wy),some (.ref p2),HJ,Fp,Bo],?_,?_⟩
  .refine⟨_,rfl,rfl,_,rfl,fu (fun c=>?_) (fun c=>⟨rfl,_,g00,by lia,rfl⟩)⟩;have c':V.str wy=V.str "back" := ba c
   have wb:wy = "back" := by injection c'
   have ljs:0<js.length:=List.length_pos_iff.mpr (hne wb);refine aJ fun G_ g_=>?_
   obtain⟨pk,hpm,Z7⟩:=HX (os:=js) (i:=(x/15%((rv.length:Nat):Int))%(((aB js).length:Nat):Int)) (qe _ (by lia)) (by
     have:=rM (x/15%((rv.length:Nat):Int)) (show (0:Int)<(((aB js).length:Nat):Int) by lia)
     lia)
   ext b;refine⟨_,rfl,_,rfl,_,rfl,fL rfl (.inl (aV.of h6)) (bB ⟨(by show (0:Int)<(((aB js).length:Nat):Int);lia),az (aV.of h6) Z7 ⟨rfl,_,by lia,?_,rfl⟩⟩)⟩;have:=e4 pk hpm;lia
  rintro σ8 H8 aQ;ext a;obtain⟨rfl,g,g0,g1,rfl⟩:=aQ;ext b;refine⟨fun σ' H'=>H'=H8/\∃ gv:aE Int,Ld rs.length wy gv/\σ'=[some (.ref a),some (.int (m:Int)),some (.ref t),some (.ref ps),some (.int e),some (.ref pr),some (.int (0+(i:Int))),some (.int x),some (gV gv),some (.str wy),some (.ref p2),HJ,Fp,Bo],?_,?_⟩
  .refine⟨_,rfl,rfl,_,rfl,fu (fun c=>?_) (fun c=>?_)⟩
   .have c':V.str wy=V.str "stay" := ba c;exact⟨rfl,none,.inl ⟨by injection c',rfl⟩,rfl⟩
   .refine⟨rfl,some g,.inr ⟨?_,g,rfl,g0,g1⟩,rfl⟩;rcases hwy with h | h | h
    .exact .inl h
    .exact .inr h
    .exact dP (by rw[h]) (bE c)
  rintro σ9 H9 aQ;refine bD fun _ x_1=>?_;ext a;obtain⟨rfl,gv,hgv,rfl⟩:=aQ;ext b;refine⟨zI (by show 1<=1000;decide),fun p9 hp9=>?_⟩;refine x_1 ?_;clear x_1;have s9:=zF hp9 (.tup [V.str "yes"]);have g9:jt (upd H9 p9 (.tup [V.str "yes"])) (.ref p9) .yes:=.yes zC;generalize hH10:upd H9 p9 (.tup [V.str "yes"])=Ve at s9 g9 ⊢;have s39:=s36.trans s9;refine⟨fun σ' H'=>aG Ve H'/\∃ gd g,jt H' gd g/\g.ok sz.length/\g.ht<=3/\σ'=[some (.ref a),some (.int (m:Int)),some (.ref t),some (.ref ps),some (.int e),some (.ref pr),some (.int (0+(i:Int))),some (.int x),some (gV gv),some (.str wy),some (.ref p2),some gd,Fp,Bo],?_,?_⟩
  .refine⟨_,rfl,bB ⟨by ext w,au _ _ ⟨rfl,rfl,(by show (0:Int)<2;decide),rfl,_,rfl,fu (fun c=>?_) (fun c=>⟨aG.refl _,au _ _ ⟨g9,trivial,(by show 1<=3;decide),rfl⟩⟩)⟩⟩⟩;refine⟨_,rfl,_,rfl,bB ⟨a,ns,_,_,rfl,s39.seq hS,h63,⟨by lia,by lia⟩,by ext w,fun y y0 y1=>?_⟩⟩;exact⟨_,rfl,fL rfl (.inr (aM.of (s39 _ _ htr))) ⟨_,rfl,fL rfl (.inl (aV.of (hsz.mono s39).1)) ⟨_,_,_,sz.length,(by rw[bh];rfl),lp,by decide,by decide,fun v g H' s' hg YB ght=>⟨s',au v g ⟨hg,YB,(by lia),rfl⟩⟩⟩⟩⟩
  rintro σ10 _ aQ;refine bD fun _ x_1=>?_;ext a;obtain⟨Ge,gd,gg,hgd,YB,ght,rfl⟩:=aQ;ext b;have qD0:=s39.trans Ge;refine⟨_,rfl,_,rfl,bB ⟨_,rfl,_,rfl,a,ps,ns,sz,_,_,_,rfl,qD0.seq hS,h63,⟨by lia,by lia⟩,by ext w,hsz.mono qD0,fun vd dd H12 s12 hdd okd ldd=>?_⟩⟩;ext e;have t12:aG H3 H12:=(((s5.trans s6).trans s9).trans Ge).trans s12;have Wk:=s3.trans t12;have h12:=t12 _ _ h3;refine⟨_,rfl,_,rfl,bB ⟨a,ns,_,_,rfl,Wk.seq hS,h63,⟨by lia,by lia⟩,by ext w,fun y y0 y1=>?_⟩⟩;refine⟨_,rfl,fL rfl (.inr (aM.of (Wk _ _ htr))) (bB ⟨lp,?_⟩)⟩;refine x_1 ?_;clear x_1;refine⟨_,rfl,.inl ⟨rfl,_,aV.of h12⟩,_,rfl,_,rfl,_,rfl,bB ⟨a,ns,_,_,rfl,Wk.seq hS,h63,⟨by lia,by lia⟩,by ext w,fun ye _ _=>?_⟩⟩;refine⟨_,rfl,bB ⟨(by show (0:Int)<e;exact ep),_,rfl,_,rfl,_,rfl,_,rfl,zI (by show 6<=1000;decide),fun Yx qBE=>?_⟩⟩;ext a;obtain⟨wy2,w1,w2,w3⟩:=hgv.wy (show 0<rs.length by lia);ext b;have y2:=qe y (show ((rv.length:Nat):Int)≠0 by lia);have y3:=rM y lp;have Ym:=zF qBE (.tup [.int (y%((rv.length:Nat):Int)),.int (ye%e),gd,vd,.str wy,gV gv])
  have i13:upd H12 Yx (.tup [.int (y%((rv.length:Nat):Int)),.int (ye%e),gd,vd,.str wy,gV gv]) Yx=some (.tup [.int (((y%((rv.length:Nat):Int)).toNat:Nat):Int),.int (ye%e),gd,vd,.str wy2.tx,wy2.gv]):=by
   rw[zC,w1,w2,eI y2]
  have h13:=Ym _ _ h12;generalize upd H12 Yx (.tup [.int (y%((rv.length:Nat):Int)),.int (ye%e),gd,vd,.str wy,gV gv])=H13 at Ym i13 h13 ⊢;have lv:=hA.length;have kl:=aA.lst h13 (.lst (vs++[.ref Yx]));refine⟨pr,_,_,rfl,rfl,h13,zV (by lia),aK (au (vs++[.ref Yx]) (ds++[⟨(y%((rv.length:Nat):Int)).toNat,ye%e,gg,dd,wy2⟩]) ⟨cB hpr (Wk.trans Ym) _,zC,Al.snoc (hA.mono fun _ _ z=>z.mono ((aA.of (t12.trans Ym)).trans kl)) (fM Yx gd vd ⟨rfl,kl _ _ i13,hgd.mono ((aA.of (s12.trans Ym)).trans kl),hdd.mono ((aA.of Ym).trans kl)⟩),fun d hd=>?_,by simp [hlen],uM _ _ _ _ _ _ (au _ _ rfl)⟩)⟩;rcases cH.mp hd with hd | hd
  .exact hfit d hd
  .rw[bJ.mp hd];exact⟨by show (y%((rv.length:Nat):Int)).toNat<rs.length;lia,w3,YB,ght,okd,ldd⟩
 rintro σ' H3 aQ;ext a;obtain⟨vs,ds,s3,h3,hA,hfit,hlen,o6,o7,o8,o9,HN,HJ,Fp,Bo,rfl⟩:=aQ;ext b;refine⟨_,rfl,au pr _ ⟨rfl,.inl ⟨aV.of h3,fun p hp=>?_⟩⟩⟩;exact q p vs ds _ (s3.trans (zF hp _)) zC (hA.mono fun _ _ z=>z.mono (aA.new hp _)) hfit hlen
end vI
namespace vI
open PySem L2 qH rF Cv JS Fw
open Ru (Wy Dx zc uE jl vJ uJ ZP)
theorem int_at{zs:ay Int}{i:Int}(h0:0<=i)(h1:i<(zs.length:Int)):∃ z∈zs,rK (zs.map V.int) i=some (.int z):=by obtain⟨v,hv,e⟩:=lM (xs:=zs.map V.int) (i:=i) h0 (by rw[bh];exact h1);obtain⟨z,hz,rfl⟩:=dU.mp hv;exact⟨z,hz,e⟩
def Lx(H:Hp)(v:V)(z:Int×Int):Prop:=∃ a nm,v = .ref a/\H a=some (.tup [.str nm,.int z.1,.int z.2])
theorem Lx.mono(x:Lx H v r)(k:aA H H'):Lx H' v r:=by obtain⟨a,nm,e,h⟩:=x;exact⟨a,nm,e,k _ _ h⟩
theorem ZM(x:Al (Lx H) vs bs):Al (Ru.Qq H) vs (bs.map (·.1)):=by
 induction x with
 | nil=>exact .nil
 | cons h _ ih=>
  obtain⟨a,_,e,h⟩:=h;exact .cons ⟨a,_,_,e,h⟩ ih
def Vq(H:Hp)(p:av)(c:jl)(bs:ay (Int×Int))(ne:Nat):Prop:=∃ pb pn t pd bv nv rv dv,H p=some (.tup [.str c.od,.int (c.lb:Int),.int (c.tn:Int),.ref pb,.ref pn,.ref t,.ref pd])/\H pb=some (.tup bv)/\Al (Lx H) bv bs/\H pn=some (.tup nv)/\nv.length=ne/\H t=some (.tup rv)/\iZ H rv c.rs/\ZP H c.rs c.di c.dO/\H pd=some (.tup dv)/\Al (zc H) dv c.ds
theorem Vq.mono(x:Vq H p c bs ne)(k:aA H H'):Vq H' p c bs ne:=by obtain⟨pb,pn,t,pd,bv,nv,rv,dv,h1,h2,h3,h4,h5,h6,h7,h8,h9,h10⟩:=x;exact⟨pb,pn,t,pd,bv,nv,rv,dv,k _ _ h1,k _ _ h2,h3.mono fun _ _ z=>z.mono k,k _ _ h4,h5,k _ _ h6,h7.mono k,h8.mono k,k _ _ h9,h10.mono fun _ _ z=>z.mono k⟩
structure zj(c:jl)(bs:List (Int×Int)):Prop where
 ok:uJ c
 sz:c.sz=bs.map (·.1)
 st:∀ b∈bs,0<=b.2/\b.2<b.1
 fit:Fit c.rs
 low:Low (aD c.rs)
 l10:c.rs.length<=10
 g:∀ d∈c.ds,d.g.ok c.sz.length/\d.g.ht<=3
 l5:c.lb<=5
 t4:1<=c.tn/\c.tn<=4
theorem Vq.ch(x:Vq H p c bs ne)(o:zj c bs):vJ H p c:=by obtain⟨pb,_,t,pd,bv,_,rv,dv,h1,h2,h3,_,_,h6,h7,h8,h9,h10⟩:=x;exact⟨pb,t,pd,_,bv,dv,h1,h2,by rw[o.sz];exact ZM h3,⟨rv,h6,h7⟩,h8,h9,h10⟩
inductive Ma(K:cL)(vs:List V)(H:Hp)(Q:VK)(E_:XK):Prop
 | mk (a:Addr) (ns:List Int) (_:vs=[.ref a]) (_:aV K H a (ns.map V.int)) (_:ns.length<=63) (_:∀(p:Addr)(c:jl)(bs:List (Int×Int))(ne:Nat)(H':Hp),aG H H'->Vq H' p c bs ne->zj c bs->ne<=8->Q (.ref p) H')
noncomputable abbrev VJ:Scope:=⟨.function,[("_law_script",.cell),("_law_many",.local),("_law_events",.local),("_law_boxes",.local),("_law_k",.local),("_law_size",.local),("_law_sizes",.local),("_law_names",.local),("_law_rooms_here",.local),("_law_count",.local),("_law_doors_here",.local),("_law_order",.local),("_law_letters",.local),("_law_turns",.local),("_law_mixed",.globalImplicit),("range",.globalImplicit),("_law_cell_at",.globalImplicit),("_law_name",.globalImplicit),("tuple",.globalImplicit),("_law_rooms",.globalImplicit),("_law_depths",.globalImplicit),("_law_doors",.globalImplicit)],false,false,(aC kO).more⟩
theorem YW:aC kO=VJ:=by rfl
theorem aZ:aH ["_law_script","_law_many","_law_events","_law_boxes","_law_k","_law_size","_law_sizes","_law_names","_law_rooms_here","_law_count","_law_doors_here","_law_order","_law_letters","_law_turns"] ["_law_script"] VJ:=fJ
theorem TX{f gm gc gn ge gr gd:av}{fd dm dc dn de dr dd:af}(F:dC K "_law_chart" "_law_chart" kO f fd)(aN:Dp P w K mg base aa n gm dm ["_law_script","_law_k","_law_salt"] (lQ K) "_law_mixed")
  (eG:Dp P w K mg base aa n gc dc ["_law_script","_law_k"] (Dh K) "_law_cell_at")
  (eU:Dp P w K mg base aa n gn dn ["_law_k","_law_number"] De "_law_name")
  (Fd:Dp P w K mg base aa n ge de ["_law_script","_law_many"] (GK K) "_law_depths")
  (JB:Dp P w K mg base aa n gr dr ["_law_script","_law_depths_here","_law_sizes","_law_events"] (MF K) "_law_rooms")
  (JC:Dp P w K mg base aa n gd dd ["_law_script","_law_many","_law_rooms_here","_law_sizes","_law_events"] (MT K) "_law_doors")
  (aW:mg "range" = none) (aY:mg "tuple" = none):aO P w K mg base aa (n+1) f fd ["_law_script"] (Ma K):=by
 refine okS VJ YW F aZ ?_ ?_
 .rintro _ _ _ _⟨a,ns,rfl,_⟩;rfl
 intro _ A _ s H vs Q E hr h
 ext a;obtain⟨a,ns,rfl,hS,h63,q⟩:=h;ext b
 refine⟨_,RSs.p (jD (Gk (zK (i:=1) aZ.nd rfl (bb rfl) (yC yF zB (yC yL (yC yF (yC gU (yC zY (pC aN hr (zA (pv 0) (zA zB (zA zB zD)))) zB) zB) zB) zB))))
  (jD (Gm (i:=2) aZ.nd rfl (bb rfl) (Gp (Gn (Gj zB (Gj zB (Gj zB (Gj zB (Gj zB (Gj zB (Gj zB (Gj (yC yF zB (yC zY (pC aN hr (zA (pv 0) (zA zB (zA zB zD)))) zB)) (xV (vs:=[]) (by rfl))))))))))) (yC zY (pC aN hr (zA (pv 0) (zA zB (zA zB zD)))) zB) (fun _ _=>rfl)))
  (jD (Gk (zK (i:=3) aZ.nd rfl (bb rfl) (yK zD)))
  (qD2 (Gk (cC PassesOwn.never rfl (bM rfl aW (zA (yC zY (pC aN hr (zA (pv 0) (zA zB (zA zB zD)))) (yB yU (yK (zA zB (zA zB (zA zB (zA zB zD))))) (yC zY (pC aN hr (zA (pv 0) (zA zB (zA zB zD)))) zB) (fun _ _=>rfl))) zD)) (yJ (i:=4) aZ.nd rfl (bb rfl))
  (zE (zK (i:=5) aZ.nd rfl (bb rfl) (yC yF zB (yC zY (pC aN hr (zA (pv 0) (zA zB (zA (yC yF zB (pv 4)) zD)))) zB)))
  (zZ (yD (zL yG (yC zY (pC aN hr (zA (pv 0) (zA zB (zA (yC yF zB (pv 4)) zD)))) zB) zB (zR _))
  (zG (zK (i:=5) aZ.nd rfl (bb rfl) (yC yF zB (yC zY (pC eG hr (zA (pv 0) (zA zB zD))) (yC Sv zB zB)))))
  zT)
  (zG (yI (dz il rO rN yH (pv 3) (zA (zW (zA (pC eU hr (zA (pv 4) (zA (yC zY (pC eG hr (zA (pv 0) (zA zB zD))) zB) zD))) (zA (pv 5) (zA (yC zY (pC aN hr (zA (pv 0) (zA zB (zA (yC yF zB (pv 4)) zD)))) (pv 5)) zD)))) zD))))))))
  (jD (Gk (lg (i:=6) (aj:=[]) rfl aZ.nd rfl (bb rfl) (show bK VJ ["_law_script","_law_many","_law_events","_law_boxes","_law_k","_law_size","_law_sizes","_law_names","_law_rooms_here","_law_count","_law_doors_here","_law_order","_law_letters","_law_turns"] _ _ _ from vm) (yM (pv 3)) (fun _ _ _ _ _ _=>bc) (fun _ _ _ _ _ _=>(yB (r:=jE K) zH (pv 0) zB (fun _ _=>rfl)))))
  (jD (Gk (zK (i:=7) aZ.nd rfl (bb rfl) (yA zX rfl aY nF (zA (yT (aj:=[(0,"_law_script")]) rfl (show bK VJ ["_law_script","_law_many","_law_events","_law_boxes","_law_k","_law_size","_law_sizes","_law_names","_law_rooms_here","_law_count","_law_doors_here","_law_order","_law_letters","_law_turns"] _ _ _ from vm) (bM rfl aW (zA (pv 2) zD)) (fun _ _ _ _ _ _=>bc) (fun _ _ _ _ _ _=>(pC eU hr (zA (pv 0) (zA (yC zY (pC eG hr (zA (pv 1) (zA zB zD))) zB) zD))))) zD))))
  (jD (Gk (zK (i:=8) aZ.nd rfl (bb rfl) (pC JB hr (zA (pv 0) (zA (pC Fd hr (zA (pv 0) (zA (pv 1) zD))) (zA (pv 6) (zA (pv 2) zD)))))))
  (jD (Gm (i:=9) aZ.nd rfl (bb rfl) (Gp (Gn (xV (vs:=[.int 4,.int 5,.int 6,.int 7,.int 8,.int 9,.int 10,.int 6,.int 7,.int 8,.int 2,.int 0]) (by rfl))) (yC zY (pC aN hr (zA (pv 0) (zA zB (zA zB zD)))) zB) (fun _ _=>rfl)))
  (jD (Gk (zK (i:=10) aZ.nd rfl (bb rfl) (pC JC hr (zA (pv 0) (zA (pv 9) (zA (pv 8) (zA (pv 6) (zA (pv 2) zD))))))))
  (jD (Gm (i:=11) aZ.nd rfl (bb rfl) (Gp (Gn (xV (vs:=[.str "inner",.str "outer"]) (by rfl))) (yC zY (pC aN hr (zA (pv 0) (zA zB (zA zB zD)))) zB) (fun _ _=>rfl)))
  (jD (Gm (i:=12) aZ.nd rfl (bb rfl) (Gp (Gn (xV (vs:=[.int 0,.int 1,.int 2,.int 3,.int 2,.int 4,.int 3,.int 5]) (by rfl))) (yC zY (pC aN hr (zA (pv 0) (zA zB (zA zB zD)))) zB) (fun _ _=>rfl)))
  (jD (Gm (i:=13) aZ.nd rfl (bb rfl) (Gp (Gn (xV (vs:=[.int 1,.int 2,.int 3,.int 4,.int 3,.int 4,.int 2,.int 4]) (by rfl))) (yC zY (pC aN hr (zA (pv 0) (zA zB (zA zB zD)))) zB) (fun _ _=>rfl)))
  (qD1 (Gk (zO (zW (zA (pv 11) (zA (pv 12) (zA (pv 13) (zA (yA zX rfl aY nF (zA (pv 3) zD)) (zA (pv 7) (zA (pv 8) (zA (pv 10) zD))))))))))))))))))))))),?_⟩
 ext f;refine⟨_,rfl,a,ns,_,_,rfl,hS,h63,by ext w,by ext w,fun x _ _=>(bB ⟨(by show (0:Int)<16;decide),au _ _ ⟨rfl,rfl,tH (by lia) (by lia),au _ _ ⟨rfl,rfl,bB ⟨by ext w,au _ _ ⟨rfl,rfl,?_⟩⟩⟩⟩⟩)⟩;ext c;ext a;obtain⟨m,hm,m1,m10⟩:∃ m:Nat,1+(x%16*9+14)/16=(m:Int)/\1<=m/\m<=10:=⟨(1+(x%16*9+14)/16).toNat,by lia,by lia,by lia⟩;ext b;refine⟨_,rfl,a,ns,_,_,rfl,hS,h63,by ext w,by ext w,fun xe _ _=>(bB ⟨(by show (0:Int)<5;decide),au _ _ ⟨rfl,rfl,zI (by show 8<=1000;decide),fun p1 hp1=>?_⟩⟩)⟩;have s1:=zF hp1 (.lst [V.int 0,V.int 1,V.int 1,V.int 2,V.int 2,V.int 2,V.int 3,V.int (4+xe%5)]);refine⟨_,rfl,a,ns,_,_,rfl,s1.seq hS,h63,by ext w,by ext w,fun x2 _ _=>?_⟩;ext a;obtain⟨e,he,qIV⟩:=int_at (zs:=[0,1,1,2,2,2,3,4+xe%5]) (i:=x2%8) (by lia) (by show _<(8:Int);lia);ext b
 have e03:0<=e/\e<=8:=by
  simp only[List.mem_cons,List.not_mem_nil,or_false]at he;lia
 refine (bB ⟨(by show (0:Int)<8;decide),az (aV.of zC) qIV ?_⟩);ext c;generalize upd H p1 (.lst [V.int 0,V.int 1,V.int 1,V.int 2,V.int 2,V.int 2,V.int 3,V.int (4+xe%5)])=H1 at s1 ⊢;refine⟨bg _,fun pb hpb=>?_⟩;ext g;have npb:H pb=none:=s1.free hpb;have s2:=s1.trans (zF hpb (.lst []));refine⟨fun σ' H'=>∃ vs sz,aG H H'/\H' pb=some (.lst vs)/\Al (Lx H') vs sz/\(∀ z∈sz,0<=z.2/\z.2<z.1)/\sz.length<=6/\∃ o4 o5:aE V,σ'=[some (.ref a),some (.int (1+(x%16*9+14)/16)),some (.int e),some (.ref pb),o4,o5,none,none,none,none,none,none,none,none],?_,?_⟩
 .refine⟨_,rfl,a,ns,_,_,rfl,s2.seq hS,h63,by ext w,by ext w,fun x3 _ _=>⟨zI (by show 4<=1000;decide),fun pq hpq=>?_⟩⟩;have s2:=s2.trans (zF hpq (.lst [V.int 3,V.int 3,V.int 3,V.int 7]));refine⟨_,rfl,a,ns,_,_,rfl,s2.seq hS,h63,by ext w,by ext w,fun x4 _ _=>?_⟩;ext a;obtain⟨zq,hzq,qIS⟩:=int_at (zs:=[3,3,3,7]) (i:=x4%4) (by lia) (by show _<(4:Int);lia);ext b
  have zq3:3<=zq/\zq<=7:=by
   simp only[List.mem_cons,List.not_mem_nil,or_false]at hzq;lia
  have x5:=qe x3 (show zq≠0 by lia);have x6:=rM x3 (show 0<zq by lia);refine (bB ⟨(by show (0:Int)<4;decide),az (aV.of zC) qIS (bB ⟨(by show (0:Int)<zq;lia),_,rfl,by lia,by lia,?_⟩)⟩);have ipb:upd (upd H1 pb (.lst [])) pq (.lst [V.int 3,V.int 3,V.int 3,V.int 7]) pb=some (.lst []):=(zF hpq _) _ _ zC;generalize upd (upd H1 pb (.lst [])) pq (.lst [V.int 3,V.int 3,V.int 3,V.int 7])=H2 at s2 ipb ⊢;refine bu (fun i σ' H'=>∃ vs sz,aG H H'/\H' pb=some (.lst vs)/\Al (Lx H') vs sz/\(∀ z∈sz,0<=z.2/\z.2<z.1)/\sz.length=i/\∃ o4 o5:aE V,σ'=[some (.ref a),some (.int (1+(x%16*9+14)/16)),some (.int e),some (.ref pb),o4,o5,none,none,none,none,none,none,none,none])
   (au [] [] ⟨s2,ipb,.nil,(fun d h=>by cases h),rfl,au none none rfl⟩) ?_ (fun σ' H' ⟨vs,sz,h1,h2,h3,h4,h5,h6⟩=>au vs sz ⟨h1,h2,h3,h4,by lia,h6⟩)
  rintro i σ' H3 hi aQ;refine Q0 fun _ aK _ x_1=>?_;ext a;obtain⟨vs,sz,s3,h3,hA,hpos,hlen,o4,o5,rfl⟩:=aQ;ext b
  have hi3:i<7:=by lia
  refine⟨_,rfl,_,rfl,bB ⟨a,ns,_,_,rfl,s3.seq hS,h63,by ext w,⟨by lia,by lia⟩,fun y _ _=>(bB ⟨(by show (0:Int)<3;decide),au _ _ ⟨rfl,rfl,?_⟩⟩)⟩⟩;refine x_1 ?_;clear x_1;refine⟨fun σ' H'=>H'=H3/\∃ z:Int,0<z/\σ'=[some (.ref a),some (.int (1+(x%16*9+14)/16)),some (.int e),some (.ref pb),some (.int (0+(i:Int))),some (.int z),none,none,none,none,none,none,none,none],?_,?_⟩
  .refine⟨_,rfl,_,rfl,bB ⟨a,ns,_,_,rfl,s3.seq hS,h63,by ext w,⟨by lia,by lia⟩,fun y2 y20 y21=>(bB ⟨(by show (0:Int)<6;decide),rfl,_,rfl,fu (fun c=>?_) (fun c=>⟨rfl,1+y%3,by lia,rfl⟩)⟩)⟩⟩;refine⟨_,rfl,a,ns,_,rfl,s3.seq hS,h63,fun v=>(bB ⟨⟨by decide,by decide,by decide⟩,au _ _ ⟨rfl,rfl,(by show (0:Int)<10 ^ 30;decide),au _ _ ⟨rfl,rfl,rfl,1+v%10 ^ 30,?_,rfl⟩⟩⟩)⟩;have:=qe v (show (10:Int) ^ 30≠0 by decide);lia
  rintro σ4 _ aQ;ext a;obtain⟨rfl,z,z0,rfl⟩:=aQ;ext b;refine⟨_,rfl,.inl ⟨rfl,_,aV.of h3⟩,_,rfl,_,rfl,a,ns,_,rfl,s3.seq hS,h63,fun cv=>(bB ⟨(by show (0:Int)<991;decide),_,_,rfl,fun nm H5 s5=>?_⟩)⟩;have Zx:=s3.trans s5;refine⟨_,rfl,_,rfl,_,rfl,bB ⟨a,ns,_,_,rfl,Zx.seq hS,h63,by ext w,⟨by lia,by lia⟩,fun y3 y30 y31=>?_⟩⟩;refine⟨_,rfl,bB ⟨(by show (0:Int)<z;exact z0),zI (by show 3<=1000;decide),fun p6 hp6=>?_⟩⟩;have u6:=zF hp6 (.tup [.str nm,.int z,.int (y3%z)]);have h6:=u6 _ _ (s5 _ _ h3);have lv:=hA.length;have kl:=aA.lst h6 (.lst (vs++[.ref p6]));refine⟨pb,_,_,rfl,rfl,h6,zV (by lia),aK (au (vs++[.ref p6]) (sz++[(z,y3%z)]) ⟨cB npb (Zx.trans u6) _,zC,Al.snoc (hA.mono fun _ _ b=>b.mono ((aA.of (s5.trans u6)).trans kl)) (au p6 nm ⟨rfl,kl _ _ zC⟩),fun d hd=>?_,by simp [hlen],au _ _ rfl⟩)⟩;rcases cH.mp hd with hd | hd
  .exact hpos d hd
  .rw[bJ.mp hd];exact⟨qe _ (by lia),rM _ z0⟩
 rintro σ5 H5 aQ;ext f;ext a;obtain⟨vs,bs,s5,h5,hA,hst,_,o4,o5,rfl⟩:=aQ;obtain⟨sz,hsz0⟩:∃ sz:ay Int,sz=bs.map (·.1):=⟨_,rfl⟩;ext b
 have lsz:sz.length=bs.length:=by rw[hsz0,bh]
 have hpos:∀ z∈sz,0<z:=fun z hz=>by
  rw[hsz0]at hz;ext a;obtain⟨b,hb,rfl⟩:=dU.mp hz;ext b;have:=hst b hb;lia
 have lv:=hA.length;refine⟨_,rfl,pb,rfl,⟨_,aV.of h5⟩,?_⟩;refine yS (K:=K) (a:=pb) (xs:=vs) (fun i acc H'=>H'=H5/\acc=(sz.take i).map V.int) ⟨rfl,rfl⟩ (fun i acc H' ⟨e,_⟩=>by subst e;exact aV.of h5) (fun i y acc H' hx ⟨e1,e2⟩=>?_) (fun acc H' ⟨e1,e2⟩ ps hps=>?_)
 .subst e1 e2
  have hi:i<sz.length:=by
   have:=(fO.mp hx).1;lia
  have hib:i<bs.length:=by lia
  have erb:=gM hib
  have er:sz[i]? = some (bs[i]).1:=by rw[hsz0,dD,erb];rfl
  ext a;obtain⟨v,hv,_,nm,rfl,ha2⟩:=hA.get erb;ext b;rw[hv]at hx;obtain rfl:=jX hx;refine⟨_,rfl,aF (aM.of ha2) rfl ⟨zV (by rw[bh,iW];lia),rfl,?_⟩⟩;rw[iV,er,iz];rfl
 ext c;subst e1 e2;rw[show sz.take vs.length=sz from vK (by lia)];have s6:=zF hps (.lst (sz.map V.int));have h6:(upd H' ps (.lst (sz.map V.int))) ps=some (.lst (sz.map V.int)):=zC;generalize upd H' ps (.lst (sz.map V.int))=H6 at s6 h6 ⊢;have s56:=s5.trans s6;have hsz:jf H6 ps sz:=⟨h6,hpos,by lia⟩;refine⟨_,rfl,_,rfl,by lia,by lia,?_⟩;refine gq (fun i acc H'=>aG H6 H'/\acc.length=i) ⟨aG.refl _,rfl⟩ (fun i acc H' hi ⟨e1,e2⟩=>?_) (fun acc Hn ⟨e1,e2⟩ pl hpl=>?_)
 .refine⟨_,rfl,_,rfl,a,ns,_,rfl,(s56.trans e1).seq hS,h63,fun cv=>(bB ⟨(by show (0:Int)<983;decide),_,_,rfl,fun z _ s''=>⟨zV (by lia),e1.trans s'',by simp [e2]⟩⟩)⟩
 have s7:=e1.trans (zF hpl (.lst acc));refine au pl _ ⟨rfl,.inl ⟨aV.of zC,fun pn hpn=>?_⟩⟩;ext c;have s8:=s7.trans (zF hpn (.tup acc));have h8n:upd (upd Hn pl (.lst acc)) pn (.tup acc) pn=some (.tup acc):=zC
 have qHM:acc.length<=8:=by lia
 generalize upd (upd Hn pl (.lst acc)) pn (.tup acc)=H8 at s8 h8n ⊢;have s58:=s56.trans s8;refine⟨_,rfl,_,rfl,_,rfl,a,ns,m,(by show [V.ref a,V.int (1+(x%16*9+14)/16)]=[V.ref a,V.int (m:Int)];rw[hm]),s58.seq hS,h63,m1,by lia,fun pd dl _ s9 _ hpd good low ldl=>?_⟩;have s59:=s58.trans s9;refine⟨_,rfl,_,rfl,a,pd,ps,ns,dl,sz,e,rfl,s59.seq hS,h63,hpd,by lia,hsz.mono (s8.trans s9),fun t rv rs dis wK Ve Ge hrv rb edp fit=>?_⟩;ext c;have hR:dB Ve t rs:=⟨rv,hrv,rb.inn⟩;have qCZ:=s59.trans Ge;have ld:=yV rs
 have lr:rs.length=m:=by rw[<-ld,edp,ldl]
 rw[<-edp]at good low;refine⟨zI (by show 12<=1000;decide),fun p11 qII=>?_⟩;have Vu:=zF qII (.lst [V.int 4,V.int 5,V.int 6,V.int 7,V.int 8,V.int 9,V.int 10,V.int 6,V.int 7,V.int 8,V.int 2,V.int 0]);refine⟨_,rfl,a,ns,_,_,rfl,(qCZ.trans Vu).seq hS,h63,by ext w,by ext w,fun y2 y20 y21=>?_⟩;obtain⟨ct,hct,yh⟩:=int_at (zs:=[4,5,6,7,8,9,10,6,7,8,2,0]) (i:=y2%12) (by lia) (by show _<(12:Int);lia);refine aJ fun G_ g_=>?_
 obtain⟨c,rfl,c12⟩:∃ c:Nat,ct=(c:Int)/\c<=12:=by
  simp only[List.mem_cons,List.not_mem_nil,or_false]at hct;exact⟨ct.toNat,by omega,by omega⟩
 ext b;refine (bB ⟨(by show (0:Int)<12;decide),az (aV.of zC) yh ?_⟩);ext c;generalize upd Ve p11 (.lst [V.int 4,V.int 5,V.int 6,V.int 7,V.int 8,V.int 9,V.int 10,V.int 6,V.int 7,V.int 8,V.int 2,V.int 0])=ZS at Vu ⊢;have qCY:=qCZ.trans Vu;refine⟨_,rfl,_,rfl,_,rfl,_,rfl,_,rfl,a,t,ps,ns,sz,rs,c,e,rfl,qCY.seq hS,h63,c12,hR.mono (aA.of Vu),by lia,by lia,hsz.mono (((s8.trans s9).trans Ge).trans Vu),e03.1,fun pdo dv ds H12 s12 hdv hDv VD _=>?_⟩;ext c;have Wj:=qCY.trans s12;refine⟨zI (by show 2<=1000;decide),fun Yx qBE=>?_⟩;have Af:=zF qBE (.lst [V.str "inner",V.str "outer"]);refine⟨_,rfl,a,ns,_,_,rfl,(Wj.trans Af).seq hS,h63,by ext w,by ext w,fun y3 y30 y31=>?_⟩;ext a;obtain⟨od,_,hat3⟩:=wV (zs:=[("inner" : Str),"outer"]) (i:=y3%2) (by lia) (by show _<(2:Int);lia);ext b;refine (bB ⟨(by show (0:Int)<2;decide),az (aV.of zC) hat3 ?_⟩);ext c;generalize upd H12 Yx (.lst [V.str "inner",V.str "outer"])=H13 at Af ⊢;refine⟨zI (by show 8<=1000;decide),fun p14 qIH=>?_⟩;have Jr:=Af.trans (zF qIH (.lst [V.int 0,V.int 1,V.int 2,V.int 3,V.int 2,V.int 4,V.int 3,V.int 5]));refine⟨_,rfl,a,ns,_,_,rfl,(Wj.trans Jr).seq hS,h63,by ext w,by ext w,fun y4 _ _=>?_⟩;ext a;obtain⟨lt,hlt,qIU⟩:=int_at (zs:=[0,1,2,3,2,4,3,5]) (i:=y4%8) (by lia) (by show _<(8:Int);lia);ext b;refine (bB ⟨(by show (0:Int)<8;decide),az (aV.of zC) qIU ?_⟩);ext c;generalize upd H13 p14 (.lst [V.int 0,V.int 1,V.int 2,V.int 3,V.int 2,V.int 4,V.int 3,V.int 5])=ZR at Jr ⊢;refine⟨zI (by show 8<=1000;decide),fun p15 qIG=>?_⟩;have JM:=Jr.trans (zF qIG (.lst [V.int 1,V.int 2,V.int 3,V.int 4,V.int 3,V.int 4,V.int 2,V.int 4]));refine⟨_,rfl,a,ns,_,_,rfl,(Wj.trans JM).seq hS,h63,by ext w,by ext w,fun y5 _ _=>?_⟩;ext a;obtain⟨tn,htn,qIT⟩:=int_at (zs:=[1,2,3,4,3,4,2,4]) (i:=y5%8) (by lia) (by show _<(8:Int);lia);ext b;refine (bB ⟨(by show (0:Int)<8;decide),az (aV.of zC) qIT ?_⟩);ext g;generalize upd ZR p15 (.lst [V.int 1,V.int 2,V.int 3,V.int 4,V.int 3,V.int 4,V.int 2,V.int 4])=H15 at JM ⊢;have qCL:aG H' H15:=((((((s6.trans s8).trans s9).trans Ge).trans Vu).trans s12)).trans JM;refine⟨_,rfl,_,rfl,_,rfl,_,rfl,au pb _ ⟨rfl,.inl ⟨aV.of (qCL _ _ h5),fun XD qIF=>?_⟩⟩⟩;have s16:=zF qIF (.tup vs);have i16:upd H15 XD (.tup vs) XD=some (.tup vs):=zC;generalize upd H15 XD (.tup vs)=ZQ at s16 i16 ⊢;refine⟨_,rfl,_,rfl,_,rfl,zI (by show 7<=1000;decide),fun pc Uc=>?_⟩;refine aJ fun G_ g_=>?_
 obtain⟨lb,rfl,lb5⟩:∃ lb:Nat,lt=(lb:Int)/\lb<=5:=by
  simp only[List.mem_cons,List.not_mem_nil,or_false]at hlt;exact⟨lt.toNat,by lia,by lia⟩
 obtain⟨tm,rfl,tm1,tm4⟩:∃ tm:Nat,tn=(tm:Int)/\1<=tm/\tm<=4:=by
  simp only[List.mem_cons,List.not_mem_nil,or_false]at htn;exact⟨tn.toNat,by lia,by lia,by lia⟩
 ext b;have s17:=zF Uc (.tup [.str od,.int (lb:Int),.int (tm:Int),.ref XD,.ref pn,.ref t,.ref pdo]);have Mr:=(JM.trans s16).trans s17;have Ms:=((Vu.trans s12)).trans Mr;refine q pc ⟨od,lb,tm,sz,rs,(fun k=>dis.getD k []),(fun k=>wK.getD k []),ds⟩ bs acc.length _ (Wj.trans Mr) (uM XD pn t pdo vs acc (au rv dv ⟨zC,s17 _ _ i16,hA.mono (fun _ _ b=>b.mono (aA.of ((qCL.trans s16).trans s17))),((s9.trans Ge).trans Ms) _ _ h8n,rfl,Ms _ _ hrv,rb.inn.mono (aA.of Ms),rb.dd.mono (aA.of Ms),Mr _ _ hdv,hDv.mono fun _ _ z=>z.mono (aA.of Mr)⟩)) ?_ qHM;exact⟨⟨good,by show rs.length<=40;lia,by show sz.length<=6;lia,hpos,by show lb<=12;lia,fun k=>(rb.say k).1,fun k=>(rb.say k).2,by show ds.length<=63;lia,fun d hd=>⟨(VD d hd).1,(VD d hd).2.1,(VD d hd).2.2.2.2⟩⟩,hsz0,hst,fit,low,by show rs.length<=10;lia,fun d hd=>⟨(VD d hd).2.2.1,(VD d hd).2.2.2.1⟩,lb5,⟨tm1,tm4⟩⟩
end vI
namespace Ru
open PySem L2 qH rF Cv Qz JS jg
open Fw (Al)
inductive mX(c:jl)(bf:List En)(s0:S4):Nat->List En->S4->Prop where
 | one:mX c bf s0 1 bf s0
 | more {n:Nat} {es e2:List En} {s s2:S4} {e:Int} {l:List Int}:mX c bf s0 n es s->n<c.tn->s.l=e::l->Cu c e ⟨s.os,s.bx,s.ks,l⟩ e2 s2->mX c bf s0 (n+1) (es++e2) s2
def ur(l:ay Int):ay En:=l.map fun e=>En.rc (.lost e)
inductive wg(C:Addr)(n:Nat)(vs:List V)(H:Hp)(Q:VK)(E_:XK):Prop
 | mk (pc ps pr p c s es rv fp J) (_:vs=[.ref pc,.ref ps,.ref pr,.ref p]) (_:vJ H pc c) (_:All c J n) (_:gH H ps s) (_:jq c s) (_:J s.os s.ks) (_:LL C H p fp c.lb s.l) (_:H pr=some (.lst rv)) (_:Al (gJ H) rv es) (_:es.length<=40001) (_:c.tn<=20) (_:∀ t ps' pw wv n' es' s' fp' H',mX c es s n' es' s'->(c.tn<=n'∨s'.l=[])->J s'.os s'.ks->jq c s'->bH H H' fp fp'->H' t=some (.tup [.ref ps',.ref pw])->gH H' ps' s'->H' pw=some (.lst wv)->H pw=none->pw∉fp'->Al (gJ H') wv (es'++ur s'.l)->wv.length<=1000000->Q (.ref t) H')
theorem gH.tail(x:gH H ps s)(l:ay Int):gH H ps ⟨s.os,s.bx,s.ks,l⟩:=x
theorem gQ:aH ["chart","stand","record","letters","now","whole","turns","told"] ["chart","stand","record","letters"] (aC nu):=fJ
theorem Ph(F:dC K "rested" "rested" nu f fd)(cl:wN K C)
  (mT:Meth K C "taken" gt) (Yg:aO P w K mg base aa m gt dt ["self"] (M8 (LL C))) (YZ:Binds K dt ["self"] [])
  (mW:Meth K C "waiting" gw) (Cy:aO P w K mg base aa m gw dw ["self"] (BP (LL C))) (Cp:Binds K dw ["self"] [])
  (Lk:Dp P w K mg base aa m g1 d1 ["chart","stand","event","letters"] (Jf C n) "turn")
  (aP:mg "len" = none) (jG:mg "list" = none):aO P w K mg base aa (m+1) f fd ["chart","stand","record","letters"] (wg C n):=by
 refine F.ok gQ ?_ ?_
 .rintro _ _ _ _⟨pc,ps,pr,p,c,s,es,rv,fp,J,rfl,_⟩;rfl
 ext d
 ext a;obtain⟨pc,ps,pr,p,c,st,bf,Vv,fp,J,rfl,hC,al,hS,so,js,hL,hpr,hA,_,_,q⟩:=h;ext b
 refine⟨_,(zE (zK (i:=4) gQ.nd rfl (bb rfl) (pv 1))
  (zE (zK (i:=5) gQ.nd rfl (bb rfl) (yA gF rfl jG kc (zA (pv 2) zD)))
  (zE (zK (i:=6) gQ.nd rfl (bb rfl) zB)
  (zZ (kY PassesOwn.never (bj (PW.pt (pw_and (zL n6 (pv 6) (yB zH (pv 0) zB (fun _ _=>rfl)) (zR _)) (yP (zL iH (zS zN rfl aP bU (zA (xZ (pv 3) cl mW Cy hr Cp .nil yE) zD)) zB (zR _))))))
  (zE (zK (i:=7) gQ.nd rfl (bb rfl) (pC Lk hr (zA (pv 0) (zA (pv 4) (zA (xZ (pv 3) cl mT Yg hr YZ .nil yE) (zA (pv 3) zD))))))
  (zE (zK (i:=4) gQ.nd rfl (bb rfl) (yB zH (pv 7) zB (fun _ _=>rfl)))
  (zE (yI (dz il kB kD j6 (pv 5) (zA (yB zH (pv 7) zB (fun _ _=>rfl)) zD)))
  (zG (Jy (i:=6) gQ.nd rfl (bb rfl) zB Km))))))
  (zE (yI (dz il kB kD j6 (pv 5) (zA (yT (aj:=[]) rfl (show bK (aC nu) ["chart","stand","record","letters","now","whole","turns","told"] _ _ _ from vm) (yM (xZ (pv 3) cl mW Cy hr Cp .nil yE)) (fun _ _ _ _ _ _=>bc) (fun _ _ _ _ _ _=>zW (zA zP (zA (pv 0) zD)))) zD)))
  (zG (zO (zW (zA (pv 4) (zA (pv 5) zD)))))))))),?_⟩
 ext f;have lA:=hA.length;refine⟨_,rfl,aK ⟨_,rfl,fL rfl (.inl (aV.of hpr)) (fun pw Aq=>?_)⟩⟩;refine bD fun _ x_1=>?_;have u1:=zF Aq (.lst Vv);ext e;have i1:upd H pw (.lst Vv) pw=some (.lst Vv):=zC;refine x_1 ?_;clear x_1;generalize upd H pw (.lst Vv)=H1 at u1 i1 ⊢;ext a;obtain⟨_,t,_,_,_,_,h1,_,_,_,_,_,_⟩:=id hC;ext b;refine⟨fun σ' Hi => ∃ nt nO cX rv es si o6 o7,σ'=[some (.ref pc),some (.ref ps),some (.ref pr),some (.ref p),some (.ref nO),some (.ref pw),o6,o7]/\bH H Hi fp cX/\LL C Hi p cX c.lb si.l/\gH Hi nO si/\jq c si/\J si.os si.ks/\mX c bf st nt es si/\(c.tn<=nt∨si.l=[])/\Hi pw=some (.lst rv)/\pw∉cX/\Al (gJ Hi) rv es/\es.length<=900000,?_,?_⟩
 .refine⟨fun ms σ' Hi => ∃ nt nO cX rv es si o7,ms=20-nt/\σ'=[some (.ref pc),some (.ref ps),some (.ref pr),some (.ref p),some (.ref nO),some (.ref pw),some (.int (nt:Int)),o7]/\bH H Hi fp cX/\LL C Hi p cX c.lb si.l/\gH Hi nO si/\jq c si/\J si.os si.ks/\mX c bf st nt es si/\Hi pw=some (.lst rv)/\pw∉cX/\Al (gJ Hi) rv es/\es.length<=40001*nt/\nt<=20,
   ⟨_,uM 1 ps fp Vv bf st ⟨_,rfl,rfl,bH.same fp u1,LL.same hL u1,hS.mono (aA.of u1),so,js,.one,i1,LL.new hL Aq,hA.mono fun _ _ z=>z.mono (aA.of u1),by lia,by decide⟩⟩,?_⟩
  rintro ms σ' Hi aQ;ext a;obtain⟨nt,nO,cX,rv,es,si,o7,rfl,rfl,Vs,hLi,hSi,Fl,ji,RR,hwi,nwi,wJ,lei,_⟩:=aQ;ext b;have kt:=bH.keep Vs hL;refine⟨fun b H'=>∃ fp':ay av,bH Hi H' cX fp'/\LL C H' p fp' c.lb si.l/\(b=true->nt<c.tn/\si.l≠[])/\(b=false->c.tn<=nt∨si.l=[]),?_,?_⟩
  .refine⟨_,rfl,_,rfl,aF (aM.of (kt _ _ h1)) rfl (bB ⟨_,rfl,fu (fun z=>?_) (fun z=>?_)⟩)⟩
   .have z1:=ba z;ext a;obtain⟨dx,fs,ho,n1,n2,n3⟩:=(ie C).obj hLi;ext b;refine⟨_,rfl,fM p dx fs ⟨rfl,ho,n3,p,cX,c.lb,si.l,rfl,hLi,Fl.l,al.ok.Vy,fun qa fp' H' hL' st' nq nqf hqa=>?_⟩⟩;refine (fL rfl (.inl (aV.of hqa)) (bB ⟨_,rfl,fp',st',hL',fun z2=>⟨by lia,fun z3=>?_⟩,fun z2=>.inr ?_⟩))
    .rw[z3]at z2
     cases z2
    .have z2:=bE z2;rw[bh]at z2;exact eR (by lia)
   .have z1:=bE z;exact⟨cX,bH.same cX (aG.refl _),hLi,(fun z=>by cases z),fun _=>.inl (by lia)⟩
  rintro b H2 aQ;ext a;obtain⟨zz,st2,hL2,ht,hf⟩:=aQ;ext b;have k2:=bH.keep st2 hLi;have hw2:=bH.apart st2 hwi nwi;have qCP:=bH.trans Vs st2;refine fu (fun z=>?_) (fun z=>?_)
  .ext a;obtain⟨lt,ne⟩:=ht z
   obtain⟨e,l',el⟩:∃ e l',si.l=e::l':=by
    cases hl:si.l with
    | nil=>exact dP hl ne
    | cons e l'=>exact au e l' rfl
   ext b;refine⟨fun σ' H'=>∃ nO cX rv es si o7,σ'=[some (.ref pc),some (.ref ps),some (.ref pr),some (.ref p),some (.ref nO),some (.ref pw),some (.int ((nt+1:Nat):Int)),o7]/\bH H H' fp cX/\LL C H' p cX c.lb si.l/\gH H' nO si/\jq c si/\J si.os si.ks/\mX c bf st (nt+1) es si/\H' pw=some (.lst rv)/\pw∉cX/\Al (gJ H') rv es/\es.length<=40001*(nt+1),?_,?_⟩
   .rintro σ' H' aQ;ext a;obtain⟨nO,cX,rv,es,si,o7,z1,z2,z3,z4,z5,z6,z7,z8,z9,z10,z11⟩:=aQ;ext b;exact⟨20-(nt+1),by lia,uM (nt+1) nO cX rv es si ⟨o7,rfl,z1,z2,z3,z4,z5,z6,z7,z8,z9,z10,z11,by lia⟩⟩
   refine Q0 fun _ x_1 _ nJ=>?_;ext a;obtain⟨dx,fs,ho,n1,n2,n3⟩:=(ie C).obj hL2;ext b;refine⟨_,rfl,_,rfl,_,rfl,fM p dx fs ⟨rfl,ho,n2,p,zz,c.lb,si.l,rfl,hL2,Fl.l,al.ok.Vy,fun fp3 H3 hL3 st3=>?_⟩⟩;have k3:=bH.keep st3 hL2;have hw3:=bH.apart st3 hw2.1 hw2.2;have qCO:=bH.trans qCP st3;have k03:=bH.keep qCO hL;rw[el]at hL3 ⊢;have ll:=Fl.l;rw[el,cY]at ll;refine⟨_,rfl,pc,nO,p,c,e,⟨si.os,si.bx,si.ks,l'⟩,fp3,J,rfl,hC.mono k03,al,(hSi.mono (k2.trans k3)).tail l',⟨Fl.inc,Fl.lt,Fl.Xn,Fl.bx,Fl.ks,by show l'.length<=_;lia⟩,ji,hL3,fun tt ps2 Qs qX s2 es2 fp4 H4 TR j4 hL4 zu htt hS4 so4 hr4 nr4 _ hA4 _=>?_⟩;refine nJ ?_;clear nJ;refine bD fun _ nJ=>?_;have k4:=bH.keep zu hL3;have hw4:=bH.apart zu hw3.1 hw3.2;have qGV:=bH.trans qCO zu
   have nerw:Qs≠pw:=fun z=>by rw[z,hw3.1]at nr4;cases nr4
   have lAi:=wJ.length;have lA4:=hA4.length;refine⟨_,rfl,aF (aM.of htt) rfl ?_⟩;refine nJ ?_;clear nJ;refine bD fun _ nJ=>?_;refine⟨_,rfl,.inl ⟨rfl,_,aV.of hw4.1⟩,_,rfl,aF (aM.of htt) rfl (jV pw Qs _ _ ⟨rfl,rfl,hw4.1,hr4,(by rw[sizeLine_eq];lia),?_⟩)⟩;refine nJ ?_;clear nJ;have k5:=aA.lst hw4.1 (.lst (rv++qX));have IW:=k2.trans (k3.trans (k4.trans k5));refine⟨_,rfl,bB (x_1 (uM ps2 fp4 (rv++qX) (es++es2) s2 _ ⟨rfl,bH.upd qGV Aq _,LL.upd hL4 hw4.2 _,hS4.mono k5,so4,j4,.more RR lt el TR,zC,hw4.2,Al.app (wJ.mono fun _ _ z=>z.mono IW) (hA4.mono fun _ _ z=>z.mono k5),by rw[dj];lia⟩))⟩
  .exact uM nt nO zz rv es si (au _ _ ⟨rfl,qCP,hL2,hSi.mono k2,Fl,ji,RR,hf z,hw2.1,hw2.2,wJ.mono fun _ _ z=>z.mono k2,by lia⟩)
 rintro σ' Hi aQ;refine bD fun _ x_1=>?_;ext a;obtain⟨nt,nO,cX,rv,es,si,o6,o7,rfl,Vs,hLi,hSi,Fl,ji,RR,dn,hwi,nwi,wJ,lei⟩:=aQ;obtain⟨dx,fs,ho,n1,n2,n3⟩:=(ie C).obj hLi;ext b;refine⟨_,rfl,.inl ⟨rfl,_,aV.of hwi⟩,_,rfl,fM p dx fs ⟨rfl,ho,n3,p,cX,c.lb,si.l,rfl,hLi,Fl.l,al.ok.Vy,fun qa zz H2 hL2 st2 nq nqf hqa=>?_⟩⟩;have k2:=bH.keep st2 hLi;have hw2:=bH.apart st2 hwi nwi
 have newq:qa≠pw:=fun z=>by rw[z,hwi]at nq;cases nq
 have Vy:=al.ok.Vy;have sil:=Fl.l;refine⟨qa,rfl,⟨_,aV.of hqa⟩,?_⟩;refine yS (K:=K) (a:=qa) (xs:=si.l.map V.int) (fun i acc H'=>aG H2 H'/\acc.length=i/\Al (gJ H') acc (ur (si.l.take i))) ⟨aG.refl _,rfl,.nil⟩ (fun i acc H' z=>aV.of (z.1 _ _ hqa)) ?_ ?_
 .rintro i x acc H' hx aQ;ext a;obtain⟨s1,la,hB⟩:=aQ;ext b;rw[dD]at hx
  cases hk:si.l[i]? with
  | none=>rw[hk]at hx;cases hx
  | some e=>
   rw[hk]at hx;obtain rfl:=jX hx;have hi:=(fO.mp hk).1;refine⟨_,rfl,zI (by show 2<=1000;decide),fun p5 Nz=>⟨by rw[sizeLine_eq];lia,s1.trans (zF Nz _),by rw[dj,gK,la],?_⟩⟩;unfold ur at hB ⊢;rw[iV,hk,iz];exact (hB.mono fun _ _ z=>z.mono (aA.of (zF Nz _))).snoc ⟨p5,rfl,zC⟩
 rintro acc H3 ⟨s3,la,hB⟩ pz hpz;rw[bh,vK (bN _)]at hB;rw[bh]at la;have u4:=zF hpz (.lst acc);have i4:upd H3 pz (.lst acc) pz=some (.lst acc):=zC;have s4:=s3.trans u4;have w4:=s4 _ _ hw2.1;generalize upd H3 pz (.lst acc)=H4 at u4 i4 s4 w4 ⊢;have lAi:=wJ.length;have nzw:pw≠pz:=zM (s3 _ _ hw2.1) hpz;refine jV pw pz _ _ ⟨rfl,rfl,w4,i4,(by rw[sizeLine_eq];lia),?_⟩;refine x_1 ?_;clear x_1;have k5:=aA.lst w4 (.lst (rv++acc));have hL5:LL C (upd H4 pw (.lst (rv++acc))) p zz c.lb si.l:=LL.upd (LL.same hL2 s4) hw2.2 _;have rJ:bH H (upd H4 pw (.lst (rv++acc))) fp zz:=bH.upd (bH.trans (bH.trans Vs st2) (bH.same zz s4)) Aq _;have r5:upd H4 pw (.lst (rv++acc)) pw=some (.lst (rv++acc)):=zC;generalize upd H4 pw (.lst (rv++acc))=H5 at k5 hL5 rJ r5 ⊢;refine⟨_,rfl,_,rfl,zI (by show 2<=1000;decide),fun tt htt=>?_⟩;have u6:=zF htt (.tup [V.ref nO,V.ref pw]);have k26:aA H2 (upd H5 tt (.tup [V.ref nO,V.ref pw])):=(aA.of s4).trans (k5.trans (aA.of u6));exact q tt nO pw (rv++acc) nt es si zz _ RR dn ji Fl (bH.trans rJ (bH.same zz u6)) zC (hSi.mono (k2.trans k26)) (u6 _ _ r5) Aq hw2.2 (Al.app (wJ.mono fun _ _ z=>z.mono (k2.trans k26)) (hB.mono fun _ _ z=>z.mono ((aA.of u4).trans (k5.trans (aA.of u6))))) (by rw[dj];lia)
theorem made{H H1:Hp}{x dx:av}{fp:ay av}(nx:H x=none)(ndx:H dx=none)(own:∀ b∈fp,b=x∨upd (upd H dx (.own x)) x (.ins C dx []) b=none)(rest:∀ b o,upd (upd H dx (.own x)) x (.ins C dx []) b=some o->b≠x->H1 b=some o):aG H H1/\∀ b∈fp,H b=none:=by
 refine⟨fun b o e=>?_,fun b hb=>?_⟩
 .have nb:=zM e nx;refine rest b o ?_ nb;rw[zQ nb,zQ (zM e ndx)];exact e
 .rcases own b hb with z | z
  .rw[z];exact nx
  .by_cases y:b=x
   .rw[y];exact nx
   .rw[zQ y]at z
    by_cases y2:b=dx
    .rw[y2];exact ndx
    .rw[zQ y2]at z;exact z
theorem Gf(h:H p=some (.tup [])):∀ k:Nat,cD H (List.replicate k [V.ref p]).flatten (List.replicate k [])
 | 0=>.nil
 | k+1=>.cons ⟨p,rfl,h⟩ (Gf h k)
noncomputable def uR(c:jl)(bs:ay (Int×Int))(ms:ay Nat):S4:=⟨ms,(cT c.sz c.lb (ms.map fun r=>(En.inn r,c.di r)) (bs.map (·.2)) []).1,List.replicate c.rs.length [],(cT c.sz c.lb (ms.map fun r=>(En.inn r,c.di r)) (bs.map (·.2)) []).2.1⟩
def DX(c:jl)(bs:ay (Int×Int))(ms:ay Nat):ay En:=(cT c.sz c.lb (ms.map fun r=>(En.inn r,c.di r)) (bs.map (·.2)) []).2.2
def JH(c:jl)(bs:ay (Int×Int))(es:ay En)(s:S4):Prop:=∃ ms n e1,Tr.W8 (aD c.rs) (Qg c.rs) [] none ms/\mX c (DX c bs ms) (uR c bs ms) n e1 s/\(c.tn<=n∨s.l=[])/\es=e1++ur s.l
theorem Mv:∀ {n:Nat} {e1:ay En} {s1:S4},mX c bf s0 n e1 s1->∀ {e2:ay En} {s2:S4},mX c bf s0 n e2 s2->e1=e2/\s1=s2:=by
 intro n e1 s1 h1
 induction h1 with
 | one=>
  intro e2 s2 h2;generalize hm:1=m at h2
  cases h2 with
  | one=>exact⟨rfl,rfl⟩
  | @more n _ _ _ _ _ _ h _ _ _=>
   have:n=0:=by lia
   subst this
   exact dP h (by
    intro z;generalize hz:(0:Nat)=q at z
    cases z with
    | one=>lia
    | more=>lia)
 | @more n es e2' s s2' e l h lt el tr ih=>
  intro e2 s2 h2;generalize hm:n+1=m at h2
  cases h2 with
  | one=>
   have:n=0:=by lia
   subst this
   exact dP h (by
    intro z;generalize hz:(0:Nat)=q at z
    cases z with
    | one=>lia
    | more=>lia)
  | @more n' es' e3 s' s3 e' l' h' lt' el' tr'=>
   obtain rfl:n=n':=by lia
   obtain⟨rfl,rfl⟩:=ih h';rw[el]at el';injection el' with a b;subst a;subst b;obtain⟨rfl,rfl⟩:=Fz tr tr';exact⟨rfl,rfl⟩
theorem Mu(h:mX c bf s0 n e1 s1):1<=n:=by
 cases h with
 | one=>exact bN _
 | more=>lia
theorem Rt:∀ {n:Nat} {e1:ay En} {s1:S4},mX c bf s0 n e1 s1->∀ m:Nat,1<=m->m<n->∃ e2 s2,mX c bf s0 m e2 s2/\m<c.tn/\s2.l≠[]:=by
 intro n e1 s1 h1
 induction h1 with
 | one=>
  intro m m1 m2;lia
 | @more n es e2' s s2' e l h lt el tr ih=>
  intro m m1 m2
  by_cases z:m<n
  .exact ih m m1 z
  .have:m=n:=by lia
   subst this;exact⟨es,s,h,lt,by rw[el];simp⟩
theorem Mw(h1:mX c bf s0 n e1 s1)(h2:mX c bf s0 m e2 s2)(d1:c.tn<=n∨s1.l=[])(d2:c.tn<=m∨s2.l=[]):e1=e2/\s1=s2:=by
 have p1:=Mu h1;have p2:=Mu h2
 have key:∀ {n m:Nat} {e1:ay En} {s1:S4} {e2:ay En} {s2:S4},mX c bf s0 n e1 s1->mX c bf s0 m e2 s2->1<=n->(c.tn<=n∨s1.l=[])->¬ n<m:=fun {n m e1 s1 e2 s2} h1 h2 p1 d1 z=>by
  obtain⟨_,_,h3,a,b⟩:=Rt h2 n p1 z;obtain⟨_,rfl⟩:=Mv h1 h3;rcases d1 with y | y
  .lia
  .exact b y
 have:n=m:=by
  have a:=key h1 h2 p1 d1;have b:=key h2 h1 p2 d2;lia
 subst this;exact Mv h1 h2
theorem uB(h1:JH c bs e1 s1)(h2:JH c bs e2 s2):e1=e2/\s1=s2:=by obtain⟨_,n,x,i1,r1,d1,rfl⟩:=h1;obtain⟨_,_,_,i2,r2,d2,rfl⟩:=h2;obtain rfl:=i1.unique i2;obtain⟨rfl,rfl⟩:=Mw r1 r2 d1 d2;exact⟨rfl,rfl⟩
def dH(es:ay En):ay Str:=es.filterMap fun e=>match e with
 | .rc (.say w)=>some w
 | _=>none
theorem Ba(es:ay En)(e:En):dH (es++[e])=dH es++(match e with | .rc (.say w)=>[w] | _=>[]):=by
 unfold dH;rw[List.filterMap_append];congr 1
 cases e with
 | rc r=>cases r <;> rfl
 | _=>rfl
theorem P0(e:En):∃ s' x' r',e.row = .str s'::x'::r'/\(decide (V.str s'=V.str ("say" : Str))=true->∃ w,e = .rc (.say w)/\x' = .str w)/\(decide (V.str s'=V.str ("say" : Str))=false->∀ w,e≠.rc (.say w)):=by
 have no:∀ {s':Str},¬ s' = "say" -> decide (V.str s'=V.str ("say" : Str))=true->False:=fun h z=>h (by
  have:=ba z
  injection this)
 cases e with
 | rc r=>
  cases r with
  | say w=>exact⟨"say",_,_,rfl,fun _=>⟨w,rfl,rfl⟩,fun z=>dP rfl (bE z)⟩
  | put a b=>exact⟨"put",_,_,rfl,fun z=>(no (by ext y) z).elim,fun _ w z=>by cases z⟩
  | send a=>exact⟨"send",_,_,rfl,fun z=>(no (by ext y) z).elim,fun _ w z=>by cases z⟩
  | lost a=>exact⟨"lost",_,_,rfl,fun z=>(no (by ext y) z).elim,fun _ w z=>by cases z⟩
 | inn k=>exact⟨"in",_,_,rfl,fun z=>(no (by ext y) z).elim,fun _ w z=>by cases z⟩
 | out k=>exact⟨"out",_,_,rfl,fun z=>(no (by ext y) z).elim,fun _ w z=>by cases z⟩
 | door k=>exact⟨"door",_,_,rfl,fun z=>(no (by ext y) z).elim,fun _ w z=>by cases z⟩
 | thr k=>exact⟨"through",_,_,rfl,fun z=>(no (by ext y) z).elim,fun _ w z=>by cases z⟩
 | take k=>exact⟨"take",_,_,rfl,fun z=>(no (by ext y) z).elim,fun _ w z=>by cases z⟩
theorem QW(hpr:H pr=some (.lst rv))(hA:Al (gJ H) rv es)(hz:es.length<=2000000)
  (h1:∀ a s' x' r',H a=some (.tup (.str s'::x'::r'))->∀ Zb:Bool->Hp->Prop,Zb (decide (V.str s'=V.str ("say" : Str))) H->tc (some (.ref a)::cs) H Zb)
  (h2:∀ a s' x' r',H a=some (.tup (.str s'::x'::r'))->∀ Zv:V->Hp->Prop,Zv x' H->te (some (.ref a)::cs) H Zv)
  (h3:Z ((dH es).map V.str) H):jm (Itl K pr) cs tc te H Z:=by
 have lr:=hA.length;refine yS (fun i acc H'=>H'=H/\acc.length<=i/\acc=(dH (es.take i)).map V.str) ⟨rfl,bN _,rfl⟩ (fun i acc H' z=>by rw[z.1];exact aV.of hpr) ?_ ?_
 .rintro i x acc H' hx ⟨rfl,_,rfl⟩
  have hi:i<es.length:=by
   have:=(fO.mp hx).1;lia
  have hk:=gM hi;obtain⟨v,hv,a,rfl,ha⟩:=hA.get hk;rw[hv]at hx;obtain rfl:=jX hx
  have Fv:es.take (i+1)=es.take i++[es[i]]:=by
   rw[iV,hk];rfl
  obtain⟨s',x',r',e1,e2,e3⟩:=P0 es[i];rw[e1]at ha;refine h1 a s' x' r' ha _ ?_
  cases c:decide (V.str s'=V.str ("say" : Str)) with
  | true=>
   obtain⟨w,ew,rfl⟩:=e2 c;refine zx rfl (h2 a s' _ r' ha _ ⟨by rw[sizeLine_eq];lia,rfl,by rw[dj,gK];lia,?_⟩);rw[Fv,Ba,ew,iz];rfl
  | false=>
   refine nT rfl ⟨rfl,by lia,?_⟩;rw[Fv,Ba];have e3:=e3 c;generalize es[i]=e at e3
   cases e with
   | rc r=>
    cases r with
    | say w=>exact dP rfl (e3 w)
    | put a b=>rw[iB]
    | send a=>rw[iB]
    | lost a=>rw[iB]
   | inn k=>rw[iB]
   | out k=>rw[iB]
   | door k=>rw[iB]
   | thr k=>rw[iB]
   | take k=>rw[iB]
 .rintro acc H' ⟨rfl,_,rfl⟩;rw[vK (by lia)];exact h3
inductive Jh(vs:List V)(H:Hp)(Q:VK)(E_:XK):Prop
 | mk (pr rv es) (_:vs=[.ref pr]) (_:H pr=some (.lst rv)) (_:Al (gJ H) rv es) (_:es.length<=2000000) (_:∀ p H',aG H H'->H p=none->H' p=some (.lst ((dH es).map V.str))->Q (.ref p) H')
inductive vq(n:Nat)(vs:List V)(H:Hp)(Q:VK)(E_:XK):Prop
 | mk (pc c bs ne) (_:vs=[.ref pc]) (_:vI.Vq H pc c bs ne) (_:vI.zj c bs) (_:3<=n) (_:∀ t ps pw wv es s H',JH c bs es s->Jw c s.os s.ks->jq c s->aG H H'->H' t=some (.tup [.ref ps,.ref pw])->gH H' ps s->H' pw=some (.lst wv)->H pw=none->Al (gJ H') wv es->es.length<=1000000->Q (.ref t) H')
theorem Wg:aH ["record"] ["record"] (aC xJ):=fJ
theorem Xa(F:dC K "said" "said" xJ f fd):aO P w K mg base aa 1 f fd ["record"] Jh:=by
 refine F.ok Wg ?_ ?_
 .rintro _ _ _ _⟨pr,rv,es,rfl,_⟩;rfl
 intro _ A _ s H _ Q E _ h
 ext a;obtain⟨pr,rv,es,rfl,hpr,hA,hz,q⟩:=h;ext b;refine⟨_,(zG (zO (yT (aj:=[]) rfl (show bK (aC xJ) ["record"] _ _ _ from vm) (yM (pv 0)) (fun _ _ _ _ _ _=>fZ (zL (r:=rEq) yG (yB (r:=jE K) zH (pv 0) zB (fun _ _=>rfl)) zP (zR _))) (fun _ _ _ _ _ _=>yB (r:=jE K) zH (pv 0) zB (fun _ _=>rfl))))),?_⟩;refine⟨_,rfl,pr,rfl,⟨_,aV.of hpr⟩,?_⟩;refine QW hpr hA hz (fun a s' x' r' ha _ hz=>?_) (fun a s' x' r' ha _ hz=>?_) (fun pl hpl=>q pl _ (zF hpl _) hpl zC)
 .exact⟨_,rfl,a,_,_,V.str s',rfl,rfl,aM.of ha,(yQ rfl),rfl,_,rfl,hz⟩
 .exact⟨_,rfl,aF (aM.of ha) ((yQ rfl)) hz⟩
theorem jA:aH ["chart","rooms","letters","entered","starts","told","stand"] ["chart"] (aC rn):=fJ
theorem TY{f gi g1 g2 g3 g4 g5:av}{fd di d1 d2 d3 d4 d5:af}(F:dC K "begun" "begun" rn f fd)(Mk':Mk K C gi)
  (mY:aO P w K mg base aa m gi di ["self","most"] (Jk C (LL C))) (mU:Binds K di ["self","most"] []) (uq:mg "Letters" = some (.ref C))
  (pI:Dp P w K mg base aa (m+1) g1 d1 ["rooms","under","goals"] Zr "goings_in")
  (vH:Dp P w K mg base aa (m+1) g2 d2 ["steps","boxes","sizes","letters"] (uU C) "stepped")
  (rG:Dp P w K mg base aa (m+1) g3 d3 ["rooms","entered"] (kI En.inn true) "steps_in")
  (rH:Dp P w K mg base aa (m+1) g4 d4 ["chart"] Dc "sizes_of")
  (zf:Dp P w K mg base aa (m+1) g5 d5 ["chart","stand","record","letters"] (wg C n) "rested")
  (aY:mg "tuple" = none) (aP:mg "len" = none):aO P w K mg base aa (m+2) f fd ["chart"] (vq n):=by
 refine F.ok jA ?_ ?_
 .rintro _ _ _ _⟨pc,c,bs,ne,rfl,_⟩;rfl
 ext d
 ext a;obtain⟨pc,c,bs,ne,rfl,hX,ok,n3,q⟩:=h;ext b
 refine⟨_,(zE (zK (i:=1) jA.nd rfl (bb rfl) (yB zH (pv 0) zB (fun _ _=>rfl)))
  (zE (zK (i:=2) jA.nd rfl (bb rfl) (wD Mk' mY hr rfl uq mU .nil yE (zA (yB zH (pv 0) zB (fun _ _=>rfl)) zD)))
  (zE (zK (i:=3) jA.nd rfl (bb rfl) (pC pI hr (zA (pv 1) (zA cQ (zA (yK zD) zD)))))
  (zE (zK (i:=4) jA.nd rfl (bb rfl) (yA zX rfl aY nF (zA (yT (aj:=[]) rfl (show bK (aC rn) ["chart","rooms","letters","entered","starts","told","stand"] _ _ _ from vm) (oJ (yB zH (pv 0) zB (fun _ _=>rfl))) (fun _ _ _ _ _ _=>bc) (fun _ _ _ _ _ _=>(yB (r:=jE K) zH (pv 0) zB (fun _ _=>rfl)))) zD)))
  (zE (zK (i:=5) jA.nd rfl (bb rfl) (pC vH hr (zA (pC rG hr (zA (pv 1) (zA (pv 3) zD))) (zA (pv 4) (zA (pC rH hr (zA (pv 0) zD)) (zA (pv 2) zD))))))
  (zE (zK (i:=6) jA.nd rfl (bb rfl) (zW (zA (yA zX rfl aY nF (zA (pv 3) zD)) (zA (yB zH (pv 5) zB (fun _ _=>rfl)) (zA (oK (yC XJ (zW (zA (zW zD) zD)) (zS zN rfl aP bU (zA (pv 1) zD)))) zD)))))
  (zG (zO (pC zf hr (zA (pv 0) (zA (pv 6) (zA (yB zH (pv 5) zB (fun _ _=>rfl)) (zA (pv 2) zD))))))))))))),?_⟩
 ext f;ext a;obtain⟨pb,_,t,_,bv,_,rv,_,h1,h2,h3,_,_,h6,h7,h8,_,_⟩:=id hX;ext b;have hC:=hX.ch ok;have Tw:=h7.length;have lbv:=h3.length;have good:=ok.ok.good;have npos:=good.pos;have ld:=yV c.rs;have l10:=ok.l10;have b6:=ok.ok.b6
 have lsz:c.sz.length=bs.length:=by rw[ok.sz,bh]
 refine⟨_,rfl,aF (aM.of h1) rfl ?_⟩;ext c;refine⟨_,rfl,aF (aM.of h1) rfl (fun x dx nx ndx _=>⟨x,dx,c.lb,rfl,zC,ok.ok.Vy,fun fp H1 hL1 own rest=>⟨rfl,?_⟩⟩)⟩;ext c;obtain⟨s1,nfp⟩:=made nx ndx own rest;clear own rest;refine⟨_,rfl,bg _,fun pg hpg=>?_⟩;have u2:=zF hpg (.lst []);have i2:upd H1 pg (.lst []) pg=some (.lst (aB [])):=zC;generalize upd H1 pg (.lst [])=H2 at u2 i2 ⊢;have s2:=s1.trans u2;refine⟨t,pg,c.rs,none,[],rfl,⟨rv,s2 _ _ h6,h7.mono (aA.of s2)⟩,good,ok.ok.r40,(fun u hu=>by cases hu),⟨i2,(fun g hg=>by cases hg),by decide⟩,fun pe ms H3 u3 npe hpe hms=>?_⟩;ext c;have s3:=s2.trans u3
 have mlt:∀ k∈ms,k<c.rs.length:=fun k hk=>by
  have:=hms.lt npos k hk;lia
 have ml:ms.length<=10:=by
  have:=hms.len npos;lia
 refine⟨_,rfl,aF (aM.of (s3 _ _ h1)) rfl ⟨pb,rfl,⟨_,aM.of (s3 _ _ h2)⟩,?_⟩⟩;refine jJ (K:=K) (a:=pb) (xs:=bv) (fun i acc H'=>H'=H3/\acc=((bs.map (·.2)).take i).map V.int) ⟨rfl,rfl⟩ (fun i acc H' z=>by rw[z.1];exact aM.of (s3 _ _ h2)) ?_ ?_
 .rintro i y acc H' hy ⟨rfl,rfl⟩
  have hi:i<bs.length:=by
   have:=(fO.mp hy).1;lia
  have er:=gM hi;ext a;obtain⟨v,hv,a,_,rfl,ha⟩:=h3.get er;ext b;rw[hv]at hy;obtain rfl:=jX hy;refine⟨_,rfl,aF (aM.of (s3 _ _ ha)) rfl ⟨zV (by rw[bh,iW,bh];lia),rfl,?_⟩⟩;rw[iV,dD,er,iz];rfl
 rintro acc H' ⟨rfl,rfl⟩ pl4 qIC;rw[show (bs.map (·.2)).take bv.length=bs.map (·.2) from vK (by rw[bh];lia)];have u4:=zF qIC (.lst ((bs.map (·.2)).map V.int));have i4:upd H' pl4 (.lst ((bs.map (·.2)).map V.int)) pl4=some (.lst ((bs.map (·.2)).map V.int)):=zC;generalize upd H' pl4 (.lst ((bs.map (·.2)).map V.int))=H4 at u4 i4 ⊢;refine⟨pl4,_,rfl,.inl ⟨aV.of i4,fun ptb qI2=>?_⟩⟩;ext c;have u5:=zF qI2 (.tup ((bs.map (·.2)).map V.int));have i5:upd H4 ptb (.tup ((bs.map (·.2)).map V.int)) ptb=some (.tup ((bs.map (·.2)).map V.int)):=zC;generalize upd H4 ptb (.tup ((bs.map (·.2)).map V.int))=H5 at u5 i5 ⊢;have Ze:=u4.trans u5;have s5:=s3.trans Ze;refine⟨_,rfl,_,rfl,t,pe,c.rs,c.di,c.dO,ms,rfl,⟨rv,s5 _ _ h6,h7.mono (aA.of s5)⟩,h8.mono (aA.of s5),Ze _ _ hpe,mlt,by lia,fun nO WW H6 u6 qAJ qB8 wJ=>?_⟩;have s6:=s5.trans u6;have wJ:Al (rE H6) WW (ms.map fun r=>(En.inn r,c.di r)):=wJ;refine⟨_,rfl,_,rfl,pc,pb,_,_,_,_,_,_,bv,c.sz,rfl,s6 _ _ h1,s6 _ _ h2,(by rw[ok.sz];exact vI.ZM (h3.mono fun _ _ z=>z.mono (aA.of s6))),(by lia),fun tz H7 u7 htz=>?_⟩;have s17:aG H1 H7:=u2.trans (u3.trans (Ze.trans (u6.trans u7)));have s7:=s1.trans s17;have hL7:=LL.same hL1 s17
 have qHA:nO∉fp:=fun z=>by
  have e0:H nO=none:=s5.free qAJ;exact LL.new hL1 ((u2.trans (u3.trans Ze)).free qAJ) z
 have oks:∀ s∈ms.map (fun r=>(En.inn r,c.di r)),(∀ d∈s.2,d.ok (bs.map (·.2)).length)/\s.2.length<=8:=fun s hs=>by
  ext a;obtain⟨r,_,rfl⟩:=dU.mp hs;ext b;rw[bh,<-lsz];exact ok.ok.ins r
 refine⟨_,rfl,nO,ptb,tz,x,_,_,bs.map (·.2),c.sz,[],fp,c.lb,rfl,u7 _ _ qB8,qHA,wJ.mono (fun _ _ z=>z.mono (aA.of u7)),(u6.trans u7) _ _ i5,htz,hL7,oks,(by rw[bh];lia),(by rw[bh];lia),(by rw[bh];lia),ok.ok.pos,bg _,ok.ok.Vy,fun _ tb' pr rv8 fp8 H8 hL8 st8 htt htb hpr _ _ hes=>?_⟩;ext c
 have toS:∀ {Hx:Hp} {fpx:ay av},bH H7 Hx fp fpx->aG H Hx:=fun st b o e=>st.rest b o (s7 b o e) fun z=>by
  rw[nfp b z]at e
  cases e
 have s8:=toS st8;have pe8:H8 pe=some (.lst (aB ms)):=st8.rest _ _ ((Ze.trans (u6.trans u7)) _ _ hpe) (LL.new hL1 (u2.free npe));refine⟨_,rfl,pe,_,rfl,.inl ⟨aV.of pe8,fun Gr qB7=>?_⟩⟩;have u9:=zF qB7 (.tup (aB ms));have i9:upd H8 Gr (.tup (aB ms)) Gr=some (.tup (aB ms)):=zC;generalize upd H8 Gr (.tup (aB ms))=H9 at u9 i9 ⊢;refine⟨_,rfl,aF (aM.of (u9 _ _ htt)) rfl ?_⟩;refine⟨fun v H'=>∃ pk kv,v = .ref pk/\aG H9 H'/\H' pk=some (.tup kv)/\cD H' kv (List.replicate c.rs.length []),?_,?_⟩
 .refine⟨bg _,fun q1 hq1=>⟨zI (by show 1<=1000;decide),fun q2 hq2=>?_⟩⟩;have w1:=zF hq1 (.tup []);have j1:upd H9 q1 (.tup []) q1=some (.tup []):=zC;generalize upd H9 q1 (.tup [])=Ha at w1 j1 hq2 ⊢;have w2:=zF hq2 (.tup [V.ref q1]);have j2:upd Ha q2 (.tup [V.ref q1]) q2=some (.tup [V.ref q1]):=zC;generalize upd Ha q2 (.tup [V.ref q1])=Hb at w2 j2 ⊢;refine⟨_,rfl,fL rfl (.inr (aM.of ((s8.trans (u9.trans (w1.trans w2))) _ _ h6))) (fM q2 _ [V.ref q1] ⟨rfl,rfl,aM.of j2,by simp,by lia,?_,fun _=>?_,fun _ p3 hp3=>?_⟩)⟩
  .show ((1:Nat):Int)*(rv.length:Int)<=_;rw[sizeLine_eq];lia
  .refine au q2 _ ⟨rfl,w1.trans w2,j2,?_⟩
   have e1:c.rs.length=1:=by lia
   rw[e1];exact .cons ⟨q1,rfl,w2 _ _ j1⟩ .nil
  .have w3:=zF hp3 (.tup (List.replicate (rv.length:Int).toNat [V.ref q1]).flatten);have j3:upd Hb p3 (.tup (List.replicate (rv.length:Int).toNat [V.ref q1]).flatten) p3=some (.tup (List.replicate (rv.length:Int).toNat [V.ref q1]).flatten):=zC;generalize upd Hb p3 (.tup (List.replicate (rv.length:Int).toNat [V.ref q1]).flatten)=Hc at w3 j3 ⊢;refine au p3 _ ⟨rfl,w1.trans (w2.trans w3),j3,?_⟩;rw[JT,Tw];exact Gf ((w2.trans w3) _ _ j1) _
 rintro _ Ve aQ;ext a;obtain⟨pk,kv,rfl,u10,Z7,hkv⟩:=aQ;ext b;refine⟨zI (by show 3<=1000;decide),fun ps hps=>?_⟩;ext g;have Zf:=zF hps (.tup [V.ref Gr,V.ref tb',V.ref pk]);have i11:upd Ve ps (.tup [V.ref Gr,V.ref tb',V.ref pk]) ps=some (.tup [V.ref Gr,V.ref tb',V.ref pk]):=zC;generalize upd Ve ps (.tup [V.ref Gr,V.ref tb',V.ref pk])=ZS at Zf i11 ⊢;have Ou:=u9.trans (u10.trans Zf);have qCN:bH H7 ZS fp fp8:=bH.trans st8 (bH.same fp8 Ou);have Vu:=toS qCN;have hSd:gH ZS ps (uR c bs ms):=⟨Gr,tb',pk,kv,i11,(u10.trans Zf) _ _ i9,Ou _ _ htb,Zf _ _ Z7,hkv.mono (aA.of Zf)⟩;have les:=wY (sz:=c.sz) (m:=c.lb) (bx:=bs.map (·.2)) (l:=[]) fun y hy=>(oks y hy).2;rw[bh]at les;have sok:jq c (uR c bs ms):=⟨hms.1,mlt,by show ms.length<=40;lia,by show (cT _ _ _ _ _).1.length=_;rw[wZ,bh,lsz],d0,DY (bg _)⟩
 have jw:Jw c (uR c bs ms).os (uR c bs ms).ks:=⟨hms.1,mlt,d0,fun r hr=>by
  rw[List.eq_of_mem_replicate hr]
  exact⟨(fun g hg=>by cases hg),by decide⟩⟩
 refine⟨_,rfl,_,rfl,_,rfl,aF (aM.of (Ou _ _ htt)) rfl ⟨_,rfl,pc,ps,pr,x,c,uR c bs ms,DX c bs ms,rv8,fp8,Jw c,rfl,hC.mono (aA.of Vu),⟨ok.ok,wide ok.ok,fun d hd=>⟨(ok.g d hd).1,Nat.le_trans (ok.g d hd).2 n3⟩⟩,hSd,sok,jw,LL.same hL8 Ou,Ou _ _ hpr,hes.mono (fun _ _ z=>z.mono (aA.of Ou)),(by unfold DX;lia),(by have:=ok.t4;lia),fun tr ps' pw wv n' es' s' _ H' RR dn j' so' st' htr hS' Aq Xr _ hA' lw=>?_⟩⟩;exact q tr ps' pw wv _ s' H' ⟨ms,n',es',hms,RR,dn,rfl⟩ j' so' (toS (bH.trans qCN st')) htr hS' Aq (Vu.free Xr) hA' (by rw[<-hA'.length];exact lw)
def JK(c:jl)(ev:Int)(s:S4)(es:ay En)(s':S4):Prop:=∃ e1 e2 s1 n,Cu c ev s e1 s1/\mX c e1 s1 n e2 s'/\(c.tn<=n∨s'.l=[])/\es=e2++ur s'.l
theorem Oj(h1:JK c ev s e1 s1)(h2:JK c ev s e2 s2):e1=e2/\s1=s2:=by obtain⟨_,_,_,_,x1,y1,z1,rfl⟩:=h1;obtain⟨_,_,_,_,x2,y2,z2,rfl⟩:=h2;obtain⟨rfl,rfl⟩:=Fz x1 x2;obtain⟨rfl,rfl⟩:=Mw y1 y2 z1 z2;exact⟨rfl,rfl⟩
inductive vy(n:Nat)(vs:List V)(H:Hp)(Q:VK)(E_:XK):Prop
 | mk (pc ps c ev s) (_:vs=[.ref pc,.ref ps,.int ev]) (_:vJ H pc c) (_:All c (Jw c) n) (_:gH H ps s) (_:jq c s) (_:Jw c s.os s.ks) (_:s.l=[]) (_:c.tn<=20) (_:∀ t ps' pw wv es' s' H',JK c ev s es' s'->Jw c s'.os s'.ks->jq c s'->aG H H'->H' t=some (.tup [.ref ps',.ref pw])->gH H' ps' s'->H' pw=some (.lst wv)->H pw=none->Al (gJ H') wv es'->wv.length<=1000000->Q (.ref t) H')
theorem xG:aH ["chart","stand","event","letters","told"] ["chart","stand","event"] (aC w5):=fJ
theorem Tc(F:dC K "after" "after" w5 f fd)(cl:wN K C)(Mk':Mk K C gi)
  (mY:aO P w K mg base aa m gi di ["self","most"] (Jk C (LL C))) (mU:Binds K di ["self","most"] []) (uq:mg "Letters" = some (.ref C))
  (Lk:Dp P w K mg base aa (m+1) g1 d1 ["chart","stand","event","letters"] (Jf C n) "turn")
  (zf:Dp P w K mg base aa (m+1) g2 d2 ["chart","stand","record","letters"] (wg C n) "rested") :
  aO P w K mg base aa (m+2) f fd ["chart","stand","event"] (vy n):=by
 refine F.ok xG ?_ ?_
 .rintro _ _ _ _⟨pc,ps,c,ev,s,rfl,_⟩;rfl
 ext d
 ext a;obtain⟨pc,ps,c,ev,st,rfl,hC,al,hS,so,js,l0,Vr,q⟩:=h;ext b
 refine⟨_,(zE (zK (i:=3) xG.nd rfl (bb rfl) (wD Mk' mY hr rfl uq mU .nil yE (zA (yB zH (pv 0) zB (fun _ _=>rfl)) zD)))
  (zE (zK (i:=4) xG.nd rfl (bb rfl) (pC Lk hr (zA (pv 0) (zA (pv 1) (zA (pv 2) (zA (pv 3) zD))))))
  (zG (zO (pC zf hr (zA (pv 0) (zA (yB zH (pv 4) zB (fun _ _=>rfl)) (zA (yB zH (pv 4) zB (fun _ _=>rfl)) (zA (pv 3) zD))))))))),?_⟩
 ext f;ext a;obtain⟨_,t,_,_,_,_,h1,_,_,_,_,_,_⟩:=id hC;ext b;refine⟨_,rfl,aF (aM.of h1) rfl (fun x dx nx ndx _=>?_)⟩;refine⟨x,dx,c.lb,rfl,zC,al.ok.Vy,fun fp H1 hL1 own rest=>⟨rfl,?_⟩⟩;ext c;obtain⟨s1,nfp⟩:=made nx ndx own rest
 have toS:∀ {H':Hp} {fp':ay av},bH H1 H' fp fp'->aG H H':=fun st b o e=>st.rest b o (s1 b o e) fun z=>by
  rw[nfp b z]at e
  cases e
 refine⟨_,rfl,_,rfl,_,rfl,_,rfl,pc,ps,x,c,ev,st,fp,Jw c,rfl,hC.mono (aA.of s1),al,hS.mono (aA.of s1),so,js,(by rw[l0];exact hL1),fun _ ps2 pr rv s2 es zz _ TR j2 hL2 st2 htt hS2 so2 hr2 _ _ ZD le2=>?_⟩;ext g;have k2:=bH.keep st2 hL1;refine⟨_,rfl,_,rfl,aF (aM.of htt) rfl ⟨_,rfl,aF (aM.of htt) rfl ⟨_,rfl,pc,ps2,pr,x,c,s2,es,rv,zz,Jw c,rfl,hC.mono ((aA.of s1).trans k2),al,hS2,so2,j2,hL2,hr2,ZD,le2,Vr,fun t3 ps3 pw wv n' es' s' _ H3 RR dn j3 so3 st3 ht3 hS3 hw3 nw3 _ hA3 lw=>?_⟩⟩⟩;have qGT:=bH.trans st2 st3;exact q t3 ps3 pw wv _ s' H3 (jV es es' s2 n' ⟨TR,RR,dn,rfl⟩) j3 so3 (toS qGT) ht3 hS3 hw3 ((toS st2).free nw3) hA3 lw
end Ru
namespace Av
open PySem L2 qH rF Cv Qz JS jg Ru
open Fw (Al)
abbrev KS:=ay Key ⊕ ay (ay Key)
noncomputable def T3:cP (ay KS) 3:=(cP.sw (fun i=>decide (i<2)) (cP.leaf.tup.up 2 (by decide)) cP.leaf.tup.tup).tup
theorem le3:3<=8:=by decide
noncomputable def nQ(s:S4):ay KS:=[.inl (s.os.map fun n:Nat=>(.inl (n:Int):Key)),.inl (s.bx.map fun n:Int=>(.inl n:Key)),.inr (s.ks.map fun r:ay Nat=>r.map fun n:Nat=>(.inl (n:Int):Key))]
theorem El:∀ {a b:ay Nat},a.map (fun n:Nat=>(.inl (n:Int):Key))=b.map (fun n:Nat=>(.inl (n:Int):Key))->a=b
 | [],[],_=>rfl
 | [],_::_,h=>by cases h
 | _::_,[],h=>by cases h
 | x::a,y::b,h=>by
  rw[br,br,List.cons.injEq]at h;obtain⟨h1,h2⟩:=h;have h3:=Sum.inl.inj h1;rw[El h2,show x=y by lia]
theorem Nu:∀ {a b:ay Int},a.map (fun n:Int=>(.inl n:Key))=b.map (fun n:Int=>(.inl n:Key))->a=b
 | [],[],_=>rfl
 | [],_::_,h=>by cases h
 | _::_,[],h=>by cases h
 | x::a,y::b,h=>by
  rw[br,br,List.cons.injEq]at h;rw[Nu h.2,show x=y from Sum.inl.inj h.1]
theorem Ib:∀ {a b:ay (ay Nat)},a.map (fun r:ay Nat=>r.map fun n:Nat=>(.inl (n:Int):Key))=b.map (fun r:ay Nat=>r.map fun n:Nat=>(.inl (n:Int):Key))->a=b
 | [],[],_=>rfl
 | [],_::_,h=>by cases h
 | _::_,[],h=>by cases h
 | x::a,y::b,h=>by
  rw[br,br,List.cons.injEq]at h;rw[Ib h.2,El h.1]
def nl(s:S4):S4:=⟨s.os,s.bx,s.ks,[]⟩
theorem U7(h:nQ s=nQ t):nl s=nl t:=by unfold nQ at h;simp only[List.cons.injEq,Sum.inl.injEq,Sum.inr.injEq,and_true]at h;obtain⟨h1,h2,h3⟩:=h;unfold nl;rw[El h1,Nu h2,Ib h3]
theorem yd(H:Hp):∀ i xs,vp cP.leaf H i (xs.map fun n:Nat=>(.inl (n:Int):Key)) (aB xs)
 | _,[]=>.nil
 | i,_::xs=>.cons rfl (yd H (i+1) xs)
theorem Ia(H:Hp):∀(i:Nat)(xs:ay Int),vp cP.leaf H i (xs.map fun n:Int=>(.inl n:Key)) (xs.map V.int)
 | _,[]=>.nil
 | i,_::xs=>.cons rfl (Ia H (i+1) xs)
theorem UL(x:cD H kv ks):∀ i:Nat,vp cP.leaf.tup H i (ks.map fun r:ay Nat=>r.map fun n:Nat=>(.inl (n:Int):Key)) kv:=by
 induction x with
 | nil=>exact fun _=>.nil
 | cons h _ ih=>
  intro i;obtain⟨a,rfl,ha⟩:=h;exact .cons ⟨a,_,rfl,ha,yd H 0 _⟩ (ih (i+1))
theorem qB2(x:gH H ps s):T3.inn 0 H (nQ s) (.ref ps):=by obtain⟨po,pb,pk,kv,h1,h2,h3,h4,h5⟩:=x;exact⟨ps,_,rfl,h1,.cons ⟨rfl,po,_,rfl,h2,yd H 0 _⟩ (.cons ⟨rfl,pb,_,rfl,h3,Ia H 0 _⟩ (.cons ⟨rfl,pk,kv,rfl,h4,UL h5 0⟩ .nil))⟩
abbrev Fs:=ay (S4×ay Nat)
noncomputable def rowOf(fs:Fs)(s:S4):aE Nat:=fs.findIdx? fun x=>decide (nQ x.1=nQ s)
noncomputable def nums:Nat->Fs->ay (ay KS×V)
 | _,[]=>[]
 | i,x::fs=>(nQ x.1,.int (i:Int))::nums (i+1) fs
theorem Fx(s:S4):∀ i fs,cM (nums i fs) (nQ s)=(rowOf fs s).map fun j=>V.int ((i+j:Nat):Int)
 | _,[]=>rfl
 | i,x::fs=>by
  unfold nums rowOf;rw[List.findIdx?_cons]
  by_cases h:nQ x.1=nQ s
  .rw[c7 h,bp h];rfl
  .rw[cA (p:=(nQ x.1,V.int (i:Int))) h,bo h,Fx s (i+1) fs];unfold rowOf;rw[cy (by decide),Option.map_map];congr 1
   funext j
   show V.int ((i+1+j:Nat):Int)=V.int ((i+(j+1):Nat):Int);rw[show i+1+j=i+(j+1) by lia]
theorem Bp(x:S4×ay Nat):∀ i fs,nums i (fs++[x])=nums i fs++[(nQ x.1,V.int ((i+fs.length:Nat):Int))]
 | _,[]=>rfl
 | i,y::fs=>by
  show (nQ y.1,V.int (i:Int))::nums (i+1) (fs++[x])=(nQ y.1,V.int (i:Int))::(nums (i+1) fs++_);rw[Bp x (i+1) fs,cY,show i+1+fs.length=i+(fs.length+1) by lia]
theorem HQ:∀ i fs,(nums i fs).length=fs.length
 | _,[]=>rfl
 | i,x::fs=>by
  show (nums (i+1) fs).length+1=fs.length+1;rw[HQ (i+1) fs]
theorem xU(h:rowOf fs s=some i):∃ t p,fs[i]? = some (t,p)/\nl t=nl s:=by unfold rowOf at h;rw[List.findIdx?_eq_some_iff_getElem]at h;obtain⟨hi,h1,_⟩:=h;exact⟨fs[i].1,fs[i].2,by rw[gM hi],U7 (ba h1)⟩
theorem Gh(h:rowOf fs s=some i):i<fs.length:=by obtain⟨t,p,h1,_⟩:=xU h;exact (fO.mp h1).1
def mV(fs:Fs)(s:S4)(p:ay Nat):Fs:=match rowOf fs s with
 | some _=>fs
 | none=>fs++[(s,p)]
def vA(fs:Fs)(s:S4):Nat:=match rowOf fs s with
 | some i=>i
 | none=>fs.length
theorem bz(h:rowOf fs s=some i):mV fs s p=fs/\vA fs s=i:=by unfold mV vA;rw[h];exact⟨rfl,rfl⟩
theorem bO(h:rowOf fs s=none):mV fs s p=fs++[(s,p)]/\vA fs s=fs.length:=by unfold mV vA;rw[h];exact⟨rfl,rfl⟩
theorem iQ(fs:Fs)(s:S4)(p:ay Nat):∃ more,mV fs s p=fs++more/\more.length<=1:=by
 cases h:rowOf fs s with
 | some i=>exact⟨[],by rw[(bz h).1,iB],bg _⟩
 | none=>exact⟨[(s,p)],(bO h).1,bN _⟩
inductive aX(c:jl)(ne:Nat)(s0:S4):Nat->Fs->List (List En×Nat)->Prop where
 | nil:aX c ne s0 0 [(nl s0,[])] []
 | cell {i:Nat} {fs:Fs} {ms:List (List En×Nat)} {s s':S4} {p:List Nat} {es:List En}:aX c ne s0 i fs ms->0<ne->fs[i/ne]? = some (s,p)->JK c ((i%ne:Nat):Int) s es s' →
   aX c ne s0 (i+1) (mV fs (nl s') (p++[i%ne])) (ms++[(es,vA fs (nl s'))])
theorem eF(h:aX c ne s0 i fs ms):ms.length=i:=by
 induction h with
 | nil=>rfl
 | cell _ _ _ _ ih=>rw[dj,ih];rfl
theorem yo(h:aX c ne s0 i fs ms):∃ more,fs=(nl s0,[])::more:=by
 induction h with
 | nil=>exact⟨[],rfl⟩
 | @cell i fs ms s s' p es h h0 h1 h2 ih=>
  obtain⟨more,e⟩:=ih;obtain⟨m2,e2,_⟩:=iQ fs (nl s') (p++[i%ne]);exact⟨more++m2,by rw[e2,e];rfl⟩
theorem CV(h:aX c ne s0 i fs ms):∀ x∈fs,x.2.length<=i:=by
 induction h with
 | nil=>
  intro x hx;rw[bJ.mp hx];exact bN _
 | @cell i fs ms s s' p es h h0 h1 h2 ih=>
  intro x hx;have h3:=ih _ (zp h1)
  cases e:rowOf fs (nl s') with
  | some j=>
   rw[(bz e).1]at hx;have:=ih x hx;lia
  | none=>
   rw[(bO e).1]at hx;rcases cH.mp hx with hx | hx
   .have:=ih x hx;lia
   .rw[bJ.mp hx,dj,gK];simp only at h3;lia
theorem Er(h:aX c ne s0 i fs ms):∀ x∈fs,x.1.l=[]:=by
 induction h with
 | nil=>
  intro x hx;rw[bJ.mp hx];rfl
 | @cell i fs ms s s' p es h h0 h1 h2 ih=>
  intro x hx
  cases e:rowOf fs (nl s') with
  | some j=>
   rw[(bz e).1]at hx;exact ih x hx
  | none=>
   rw[(bO e).1]at hx;rcases cH.mp hx with hx | hx
   .exact ih x hx
   .rw[bJ.mp hx];rfl
theorem oh(h:aX c ne s0 i fs ms):∀ {fs':Fs} {xn:ay (ay En×Nat)},aX c ne s0 i fs' xn->fs=fs'/\ms=xn:=by
 induction h with
 | nil=>
  intro fs' xn h';generalize hz:(0:Nat)=z at h'
  cases h' with
  | nil=>exact⟨rfl,rfl⟩
  | cell=>lia
 | @cell i fs ms s s' p es h h0 h1 h2 ih=>
  intro fs' xn h';generalize hz:i+1=z at h'
  cases h' with
  | nil=>lia
  | @cell j dq km t t' q es2 g g0 g1 g2=>
   obtain rfl:i=j:=by lia
   obtain⟨rfl,rfl⟩:=ih g;rw[h1]at g1;obtain⟨rfl,rfl⟩:=Prod.mk.inj (jX g1);obtain⟨rfl,rfl⟩:=Oj h2 g2;exact⟨rfl,rfl⟩
theorem lL(h:aX c ne s0 i fs ms):∀ j,j<=i->∃ fs' xn more km,aX c ne s0 j fs' xn/\fs=fs'++more/\ms=xn++km/\(j<i->∃ x,fs'[j/ne]? = some x):=by
 induction h with
 | nil=>
  intro j hj
  obtain rfl:j=0:=by lia
  exact⟨_,_,[],[],.nil,by simp,rfl,fun z=>absurd z (Nat.lt_irrefl _)⟩
 | @cell i fs ms s s' p es h h0 h1 h2 ih=>
  intro j hj
  by_cases e:j=i+1
  .subst e;exact⟨_,_,[],[],.cell h h0 h1 h2,by simp,by simp,fun z=>absurd z (Nat.lt_irrefl _)⟩
  .obtain⟨fs',xn,more,km,g1,g2,g3,g4⟩:=ih j (by lia);obtain⟨m2,e2,_⟩:=iQ fs (nl s') (p++[i%ne]);refine⟨fs',xn,more++m2,km++[(es,vA fs (nl s'))],g1,by rw[e2,g2,bS],by rw[g3,bS],fun _=>?_⟩
   by_cases k:j<i
   .exact g4 k
   .obtain rfl:j=i:=by lia
    obtain⟨rfl,_⟩:=oh h g1;exact⟨_,h1⟩
theorem yp(h:aX c ne s0 (n*ne) fs ms)(e:fs.length=n)(h':aX c ne s0 m fs' xn):m<=n*ne:=by
 by_cases k:m<=n*ne
 .exact k
 .obtain⟨_,_,_,_,g1,_,_,g4⟩:=lL h' (n*ne) (by lia);obtain⟨rfl,rfl⟩:=oh h g1;obtain⟨x,hx⟩:=g4 (by lia)
  have hne:0<ne:=by
   cases h' with
   | nil=>lia
   | cell _ q _ _=>exact q
  rw[Nat.mul_div_cancel _ hne]at hx;have:=(fO.mp hx).1;lia
theorem Zd(h:H a=some o):upd H a o=H:=funext fun b=>by
 by_cases z:b=a
 .rw[z,zC,h]
 .exact zQ z
def vC(H:Hp)(v:V)(s:S4):Prop:=∃ q:av,v = .ref q/\gH H q s
def qM(H:Hp)(v:V)(p:ay Nat):Prop:=∃ q:av,v = .ref q/\H q=some (.tup (aB p))
theorem vC.mono(x:vC H v s)(k:aA H H'):vC H' v s:=by obtain⟨q,e,h⟩:=x;exact⟨q,e,h.mono k⟩
theorem qM.mono(x:qM H v p)(k:aA H H'):qM H' v p:=by obtain⟨q,e,h⟩:=x;exact⟨q,e,k _ _ h⟩
noncomputable def Qu(m:Int)(as ap an:av):ay (Str×V):=cZ "numbers" (.ref an) (cZ "paths" (.ref ap) (cZ "stands" (.ref as) (cZ "most" (.int m) [])))
theorem Up(m:Int)(as ap an:av):(Qu m as ap an).lookup ("numbers" : Str)=some (.ref an):=by unfold Qu;rw[aU,cE rfl]
theorem O7(m:Int)(as ap an:av):(Qu m as ap an).lookup ("paths" : Str)=some (.ref ap):=by unfold Qu;rw[aU,cy (by ext y),aU,cE rfl]
theorem vW(m:Int)(as ap an:av):(Qu m as ap an).lookup ("stands" : Str)=some (.ref as):=by unfold Qu;rw[aU,cy (by ext y),aU,cy (by ext y),aU,cE rfl]
theorem qEK(m:Int)(as ap an:av):(Qu m as ap an).lookup ("most" : Str)=some (.int m):=by unfold Qu;rw[aU,cy (by ext y),aU,cy (by ext y),aU,cy (by ext y),aU,cE rfl]
theorem O6(m:Int)(as ap an:av):(Qu m as ap an).lookup ("row_of" : Str)=none:=by
 unfold Qu;rw[aU,cy (by ext y),aU,cy (by ext y),aU,cy (by ext y),aU,cy (by ext y)]
 all_goals rfl
structure FD(P:Program)(w:World)(C:Addr)(H:Hp)(p as ap an:Addr)(m:Int)(fs:Fs):Prop where
 ins:∃ dx,H p=some (.ins C dx (Qu m as ap an))
 sts:∃ sv,H as=some (.lst sv)/\Al (vC H) sv (fs.map (·.1))
 pts:∃ pv,H ap=some (.lst pv)/\Al (qM H) pv (fs.map (·.2))
 num:DN P w T3 le3 H an (nums 0 fs)
 ne:as≠ap
theorem gj [DecidableEq K] {d:Nat} {F:cP K d} {le:d<=8} {H:Hp} {a:av} {kvs:ay (K×V)} (x:DN P w F le H a kvs):∃ φ,H a=some (.ext φ):=by obtain⟨_,_,h,_⟩:=x;exact⟨_,h⟩
theorem FD.mono(x:FD PP w C H p as ap an m fs)(s:aG H H'):FD PP w C H' p as ap an m fs:=by obtain⟨⟨dx,h1⟩,⟨sv,h2,h3⟩,⟨pv,h4,h5⟩,h6,h7⟩:=x;have k:=aA.of s;obtain⟨φ,h8⟩:=gj h6;exact⟨⟨dx,s _ _ h1⟩,⟨sv,s _ _ h2,h3.mono fun _ _ z=>z.mono k⟩,⟨pv,s _ _ h4,h5.mono fun _ _ z=>z.mono k⟩,h6.mono (fun b _ z=>s _ _ z) (by rw[h8];exact s _ _ h8),h7⟩
theorem FD.tup(x:FD PP w C H p as ap an m fs){b:av}{xs:ay V}(h:H b=some (.tup xs)):b∉[as,ap,an]:=by
 obtain⟨_,⟨_,h2,_⟩,⟨_,h4,_⟩,h6,_⟩:=x;obtain⟨φ,h8⟩:=gj h6;intro z;rcases bL.mp z with rfl | z
 .rw[h]at h2;cases h2
 .rcases bL.mp z with rfl | z
  .rw[h]at h4;cases h4
  .rw[bJ.mp z,h8]at h;cases h
theorem FD.keep(x:FD PP w C H p as ap an m fs)(s:bH H H' [as,ap,an] [as,ap,an]):aA H H':=fun b _ h=>s.rest b _ h (x.tup h)
theorem FD.there(x:FD PP w C H p as ap an m fs):∀ b∈[as,ap,an],H b≠none:=by
 obtain⟨_,⟨_,h2,_⟩,⟨_,h4,_⟩,h6,_⟩:=x;obtain⟨φ,h8⟩:=gj h6;intro b hb;rcases bL.mp hb with rfl | hb
 .rw[h2];exact nofun
 .rcases bL.mp hb with rfl | hb
  .rw[h4];exact nofun
  .rw[bJ.mp hb,h8];exact nofun
def RL(C:av):Sp:=fun vs H Q _ => ∃ e a xs,vs=[.ref e,.ref a]/\H e=some (vf e C none)/\H a=some (.lst xs) ∧
 ∀ la dx,H la=none->H dx=none->la≠dx->la≠e->dx≠e->Q .non (upd (upd (upd H la (.lst xs)) dx (.xd [("ways",.ref la)])) e (vf e C (some dx)))
def Ra(P:ag)(w:aI)(C:av):Sp:=fun vs H Q _ => ∃ p dx m,vs=[.ref p,.int m]/\H p=some (.ins C dx []) ∧
 ∀ as ap an H',FD P w C H' p as ap an m []->H as=none->H ap=none->H an=none->(∀ b o,H b=some o->b≠p->H' b=some o)->Q .non H'
inductive M9(P:Program)(w:World)(C CT:Addr)(vs:List V)(H:Hp)(Q:VK)(E:XK):Prop
 | mk (p ps pt as ap an m fs s path) (_:vs=[.ref p,.ref ps,.ref pt]) (_:FD P w C H p as ap an m fs) (_:gH H ps s) (_:H pt=some (.tup (aB path))) (_:fs.length<=1000) (_:(∀ i,rowOf fs s=some i->Q (.int (i:Int)) H)) (_:(rowOf fs s=none->(fs.length:Int)<m->∀ H',FD P w C H' p as ap an m (fs++[(s,path)])->bH H H' [as,ap,an] [as,ap,an]->Q (.int (fs.length:Int)) H')) (_:(rowOf fs s=none->m<=(fs.length:Int)->∀ dx pl pv H',bH H H' [as,ap,an] [as,ap,an]->H dx=none->H pl=none->H' dx=some (.xd [("ways",.ref pl)])->H' pl=some (.lst pv)->Al (qM H') pv ((fs++[(s,path)]).map (·.2))->E (.ref CT) (some dx) H'))
section
variable{P:ag}{w:aI}{K:cL}{mg:Str->aE ax}{base:Heap}{C CT CE:av}
theorem Wf:aH ["self","ways"] ["self","ways"] (aC fW):=fJ
theorem XR(F:dC K "__init__" "TooWide.__init__" fW f fd)(hC:rA K C f=true)(q:Aw K C "ways")(Hh:mg "NestError" = some (.ref CE))
  (hsp:PySem.W.specialIn K (.ref CE) "__getattribute__" = some (some (.builtin "type.__getattribute__"))) (hrd:PySem.W.readsIn K CE (.type "type")=true) (hf:PySem.W.findCls K (.ref CE) (.type "type") "__init__" = some (.val (.builtin "ValueError.__init__")))
  (jG:mg "list" = none):aO P w K mg base aa 1 f fd ["self","ways"] (RL C):=by
 refine F.ok Wf ?_ ?_
 .rintro _ _ _ _⟨e,a,xs,rfl,_⟩;rfl
 intro _ A _ s H _ Q E _ h
 ext a;obtain⟨e,a,xs,rfl,he,ha,k⟩:=h;ext b
 refine⟨_,(zE (Wz rfl Hh hsp hrd hf (zA (pv 0) (zA zP zD)))
  (zG (Wx (pv 0) (yA gF rfl jG kc (zA (pv 1) zD)) rfl))),?_⟩
 ext f;refine⟨_,rfl,fM e C f (au none _ ⟨rfl,(by rw[sizeLine_eq];decide),hC,he,?_⟩)⟩;ext g;rw[Zd he];refine⟨_,rfl,fL rfl (.inl (aV.of ha)) (fun la hla=>?_)⟩;have hle:la≠e:=bt (zM he hla);refine⟨_,rfl,au e C ⟨rfl,(by rw[zQ (bt hle)];exact he),q,fun dx hdx hde=>?_⟩⟩
 have hld:la≠dx:=fun z=>by rw[<-z,zC]at hdx;cases hdx
 rw[zQ (bt hld)]at hdx;exact k la dx hla hdx hld hle hde
theorem Zt:aH ["self","most"] ["self","most"] (aC iu):=fJ
theorem qAG(F:dC K "__init__" "Finds.__init__" iu f fd)(cl:wN K C)(nM:bZ K C "most")(nS:bZ K C "stands")(nP:bZ K C "paths")(nN:bZ K C "numbers") :
  aO P w K mg base aa 1 f fd ["self","most"] (Ra P w C):=by
 refine F.ok Zt ?_ ?_
 .rintro _ _ _ _⟨p,dx,m,rfl,_⟩;rfl
 intro _ A _ s H _ Q E _ h
 ext a;obtain⟨p,dx,m,rfl,hp,k⟩:=h;ext b;refine⟨_,(zE (uc (pv 0) (pv 1) rfl) (zE (uc (pv 0) (yK zD) rfl) (zE (uc (pv 0) (yK zD) rfl) (zG (uc (pv 0) (N7 T3 le3) rfl))))),?_⟩;ext f;refine⟨_,rfl,_,rfl,jV p C dx [] ⟨rfl,hp,cl,nM,(by show 0<1000;decide),?_⟩⟩;ext c;generalize hH1:upd H p (.ins C dx (cZ "most" (.int m) []))=H1
 have p1:H1 p=some (.ins C dx (cZ "most" (.int m) [])):=by rw[<-hH1];exact zC
 have r1:∀ b,b≠p->H1 b=H b:=fun b z=>by rw[<-hH1];exact zQ z
 refine⟨bg _,fun as has=>?_⟩;have Fq:p≠as:=zM p1 has;refine⟨_,rfl,jV p C dx _ ⟨rfl,(by rw[zQ Fq];exact p1),cl,nS,(by show 1<1000;decide),?_⟩⟩;ext c;generalize hH2:upd (upd H1 as (.lst [])) p (.ins C dx (cZ "stands" (.ref as) (cZ "most" (.int m) [])))=H2
 have p2:H2 p=some (.ins C dx (cZ "stands" (.ref as) (cZ "most" (.int m) []))):=by rw[<-hH2];exact zC
 have s2:H2 as=some (.lst []):=by rw[<-hH2,zQ (bt Fq)];exact zC
 have r2:∀ b,b≠p->b≠as->H2 b=H1 b:=fun b z1 z2=>by rw[<-hH2,zQ z1,zQ z2]
 refine⟨bg _,fun ap hap=>?_⟩;have Kc:p≠ap:=zM p2 hap;have nsp:as≠ap:=zM s2 hap;refine⟨_,rfl,jV p C dx _ ⟨rfl,(by rw[zQ Kc];exact p2),cl,nP,(by show 2<1000;decide),?_⟩⟩;ext g;generalize W5:upd (upd H2 ap (.lst [])) p (.ins C dx (cZ "paths" (.ref ap) (cZ "stands" (.ref as) (cZ "most" (.int m) []))))=H3
 have p3:H3 p=some (.ins C dx (cZ "paths" (.ref ap) (cZ "stands" (.ref as) (cZ "most" (.int m) [])))):=by rw[<-W5];exact zC
 have a3:H3 ap=some (.lst []):=by rw[<-W5,zQ (bt Kc)];exact zC
 have r3:∀ b,b≠p->b≠ap->H3 b=H2 b:=fun b z1 z2=>by rw[<-W5,zQ z1,zQ z2]
 have s3:H3 as=some (.lst []):=(r3 as (bt Fq) nsp).trans s2;intro an H4 han e4 dn4;have nan:p≠an:=zM p3 han;have nsn:as≠an:=zM s3 han;have npn:ap≠an:=zM a3 han
 have r4:∀ b,b≠an->H4 b=H3 b:=fun b z=>by rw[e4];exact zQ z
 refine⟨_,rfl,jV p C dx _ ⟨rfl,(by rw[r4 p nan];exact p3),cl,nN,(by show 3<1000;decide),?_⟩⟩;generalize Z9:upd H4 p (.ins C dx (cZ "numbers" (.ref an) (cZ "paths" (.ref ap) (cZ "stands" (.ref as) (cZ "most" (.int m) [])))))=H5
 have p5:H5 p=some (.ins C dx (Qu m as ap an)):=by rw[<-Z9];exact zC
 have r5:∀ b,b≠p->H5 b=H4 b:=fun b z=>by rw[<-Z9];exact zQ z
 have k5:∀ b o,H b=some o->b≠p->H5 b=some o:=fun b o e z=>by
  have e1:=(r1 b z).trans e;have z1:=zM e1 has;have e2:=(r2 b z z1).trans e1;have z2:=zM e2 hap;have e3:=(r3 b z z2).trans e2;have z3:=zM e3 han;exact (r5 b z).trans ((r4 b z3).trans e3)
 have kt:∀ b xs,H4 b=some (.tup xs)->H5 b=some (.tup xs):=fun b xs e=>(r5 b (fun z=>by rw[z,r4 p nan,p3]at e;cases e)).trans e;refine k as ap an H5 ⟨⟨dx,p5⟩,⟨[],?_,.nil⟩,⟨[],?_,.nil⟩,dn4.mono kt (r5 an (bt nan)),nsp⟩ ?_ ?_ ?_ k5
 .exact (r5 as (bt Fq)).trans ((r4 as nsn).trans s3)
 .exact (r5 ap (bt Kc)).trans ((r4 ap npn).trans a3)
 .exact (r1 as (bt Fq)).symm.trans has
 .exact (r1 ap (bt Kc)).symm.trans ((r2 ap (bt Kc) (bt nsp)).symm.trans hap)
 .exact (r1 an (bt nan)).symm.trans ((r2 an (bt nan) (bt nsn)).symm.trans ((r3 an (bt nan) (bt npn)).symm.trans han))
theorem Rk:aH ["self","stand","path","row"] ["self","stand","path"] (aC fX):=fJ
theorem qAD{n:Nat}{f gi:av}{fd di:af}(F:dC K "row_of" "Finds.row_of" fX f fd)(cl:wN K C)(nM:bZ K C "most")(nS:bZ K C "stands")(nP:bZ K C "paths")(nN:bZ K C "numbers")
  (hT:rA K CT gi=true) (kT:KI K CT) (lB:mg "TooWide" = some (.ref CT)) (mY:aO P w K mg base (qK P w) n gi di ["self","ways"] (RL CT)) (mU:Binds K di ["self","ways"] []) (aP:mg "len" = none) :
  aO P w K mg base (qK P w) (n+2) f fd ["self","stand","path"] (M9 P w C CT):=by
 refine F.okX Rk ?_ ?_
 .rintro _ _ _ _⟨p,ps,pt,as,ap,an,m,fs,s,path,rfl,_⟩;rfl
 ext d
 ext a;obtain⟨p,ps,pt,as,ap,an,m,fs,st,path,rfl,hF,hS,Ny,_,q1,q2,q3⟩:=h;ext b
 refine⟨_,(zE (yD (Jx (qA8 hr.units T3 le3 (pv 1) (cG (pv 0) rfl))) (zG (zO (X7 hr.units T3 le3 (cG (pv 0) rfl) (pv 1) (fun _ _=>rfl)))) zT)
  (zE (zK (i:=3) Rk.nd rfl (bb rfl) (zS zN rfl aP bU (zA (cG (pv 0) rfl) zD)))
  (zE (Ww hr.units T3 le3 (cG (pv 0) rfl) (pv 1) (pv 3) rfl)
  (zE (yI (dz il rO rN yH (cG (pv 0) rfl) (zA (pv 1) zD)))
  (zE (yI (dz il rO rN yH (cG (pv 0) rfl) (zA (pv 2) zD)))
  (zE (yD (zL Yz (pv 3) (cG (pv 0) rfl) (zR _)) (zG (PX qBI rfl rfl lB hT kT mY hr mU .nil (zA (cG (pv 0) rfl) zD))) zT)
  (zG (zO (pv 3))))))))),?_⟩
 ext f;ext a;obtain⟨⟨dx,h1⟩,⟨sv,h2,h3⟩,⟨pv',h4,h5⟩,h6,h7⟩:=id hF;ext b;have ik:=qB2 hS;have hv:=Fx st 0 fs;refine⟨_,rfl,_,rfl,fM p C dx (au _ _ ⟨rfl,h1,cl,nN,Up _ _ _ _,jV an ps _ (nQ st) ⟨rfl,rfl,h6,ik,_,rfl,?_⟩⟩)⟩;rw[hv]
 cases hrow:rowOf fs st with
 | some i=>
  rw[hrow]at hv
  have hv':cM (nums 0 fs) (nQ st)=some (.int (i:Int)):=by
   rw[hv];show some (V.int ((0+i:Nat):Int))=_;rw[iS]
  refine oY (fun _=>?_) (fun z=>aK (dP rfl z));exact⟨_,rfl,fM p C dx (au _ _ ⟨rfl,h1,cl,nN,Up _ _ _ _,_,rfl,fM an ps _ (au (nQ st) _ ⟨rfl,rfl,h6,ik,hv',q1 i hrow⟩)⟩)⟩
 | none=>
  rw[hrow]at hv;refine oY (fun z=>(by cases z)) (fun _=>?_);ext c;have ls:=h3.length;have lp:=h5.length;rw[bh]at ls lp;refine⟨_,rfl,fM p C dx (au _ _ ⟨rfl,h1,cl,nS,vW _ _ _ _,fL rfl (.inl (aV.of h2)) ?_⟩)⟩;ext c;rw[ls];obtain⟨φ,h8⟩:=gj h6;have nsn:as≠an:=cJ h2 h8 nofun;have npn:ap≠an:=cJ h4 h8 nofun;have npi:p≠an:=cJ h1 h8 nofun;refine⟨_,rfl,_,rfl,fM p C dx (au _ _ ⟨rfl,h1,cl,nN,Up _ _ _ _,_,rfl,jV an ps _ (nQ st) ⟨rfl,rfl,h6,ik,zV (by rw[HQ];lia),hv,fun o ho dn1=>?_⟩⟩)⟩;ext c;obtain⟨ψ,rfl⟩:=ho;generalize hH1:upd H an (.ext ψ)=H1 at dn1 ⊢
  have r1:∀ b,b≠an->H1 b=H b:=fun b z=>by rw[<-hH1];exact zQ z
  have n1:H1 an=some (.ext ψ):=by rw[<-hH1];exact zC
  have p1:=(r1 p npi).trans h1;refine⟨_,rfl,fM p C dx (au _ _ ⟨rfl,p1,cl,nS,vW _ _ _ _,.inl ⟨rfl,_,aV.of ((r1 as nsn).trans h2)⟩,_,rfl,as,_,_,rfl,rfl,(r1 as nsn).trans h2,zV (by lia),?_⟩)⟩;ext c;have nps:p≠as:=cJ h1 h2 nofun;have npp:p≠ap:=cJ h1 h4 nofun;generalize hH2:upd H1 as (.lst (sv++[.ref ps]))=H2
  have r2:∀ b,b≠as->H2 b=H1 b:=fun b z=>by rw[<-hH2];exact zQ z
  have s2:H2 as=some (.lst (sv++[.ref ps])):=by rw[<-hH2];exact zC
  have p2:=(r2 p nps).trans p1;have a2:H2 ap=some (.lst pv'):=(r2 ap (bt h7)).trans ((r1 ap npn).trans h4);refine⟨_,rfl,fM p C dx (au _ _ ⟨rfl,p2,cl,nP,O7 _ _ _ _,.inl ⟨rfl,_,aV.of a2⟩,_,rfl,ap,_,_,rfl,rfl,a2,zV (by lia),?_⟩)⟩;ext c;generalize W5:upd H2 ap (.lst (pv'++[.ref pt]))=H3
  have r3:∀ b,b≠ap->H3 b=H2 b:=fun b z=>by rw[<-W5];exact zQ z
  have p3:=(r3 p npp).trans p2
  have a3:H3 ap=some (.lst (pv'++[.ref pt])):=by rw[<-W5];exact zC
  have s3:H3 as=some (.lst (sv++[.ref ps])):=(r3 as h7).trans s2;have n3:H3 an=some (.ext ψ):=(r3 an (bt npn)).trans ((r2 an (bt nsn)).trans n1)
  have st3:bH H H3 [as,ap,an] [as,ap,an]:=⟨fun b hb=>.inl hb,fun b o e nb=>by
   rw[r3 b (fun z=>nb (by rw[z];simp)),r2 b (fun z=>nb (by rw[z];simp)),r1 b (fun z=>nb (by rw[z];simp))]
   exact e⟩
  have kt:=hF.keep st3
  have kt1:∀ b xs,H1 b=some (.tup xs)->H3 b=some (.tup xs):=fun b xs e=>by
   have z1:b≠an:=fun z=>by rw[z,n1]at e;cases e
   rw[r1 b z1]at e;exact kt b xs e
  have F3:FD P w C H3 p as ap an m (fs++[(st,path)]):=by
   refine⟨⟨dx,p3⟩,⟨_,s3,?_⟩,⟨_,a3,?_⟩,?_,h7⟩
   .rw[iz];exact (h3.mono fun _ _ z=>z.mono kt).snoc ⟨ps,rfl,hS.mono kt⟩
   .rw[iz];exact (h5.mono fun _ _ z=>z.mono kt).snoc ⟨pt,rfl,kt _ _ Ny⟩
   .rw[Bp,iS];exact dn1.mono kt1 (by rw[n3,n1])
  refine⟨_,rfl,_,rfl,fM p C dx (au _ _ ⟨rfl,p3,cl,nM,qEK _ _ _ _,au _ _ ⟨rfl,rfl,_,rfl,?_⟩⟩)⟩;refine oY (fun z=>?_) (fun z=>?_)
  .have z':=ba z;refine⟨_,rfl,fM p C dx (au _ _ ⟨rfl,p3,cl,nP,O7 _ _ _ _,(zI (by show 1<=1000;decide)),fun e he=>?_⟩)⟩;refine⟨e,ap,_,rfl,zC,(by rw[zQ (zM a3 he)];exact a3),fun la ld hla hld n1 n2 n3=>⟨rfl,some ld,zC,?_⟩⟩;rw[zQ n2]at hla;rw[zQ n3]at hld;generalize Z9:upd (upd H3 la (.lst (pv'++[.ref pt]))) ld (.xd [("ways",.ref la)])=H5
   have e5:del (upd (upd (upd (upd H3 e (vf e CT none)) la (.lst (pv'++[.ref pt]))) ld (.xd [("ways",.ref la)])) e (vf e CT (some ld))) e=H5:=by
    rw[<-Z9]
    funext b
    by_cases zb:b=e
    .subst zb;rw[tW,zQ (bt n3),zQ (bt n2),he]
    .rw[mQ zb,zQ zb]
     by_cases y1:b=ld
     .subst y1;rw[zC,zC]
     .rw[zQ y1,zQ y1]
      by_cases y2:b=la
      .subst y2;rw[zC,zC]
      .rw[zQ y2,zQ y2,zQ zb]
   rw[e5]
   have s5:aG H3 H5:=fun b o eb=>by rw[<-Z9,zQ (zM eb hld),zQ (zM eb hla)];exact eb
   have Z0:∀ b,H3 b=none->H b=none:=fun b e=>by
    cases hb:H b with
    | none=>rfl
    | some o=>
     by_cases y:b∈[as,ap,an]
     .exact dP e (F3.there b y)
     .rw[st3.rest b o hb y]at e;cases e
   refine q3 hrow z' ld la (pv'++[.ref pt]) H5 ⟨fun b hb=>.inl hb,fun b o eb nb=>s5 b o (st3.rest b o eb nb)⟩ (Z0 ld hld) (Z0 la hla) (by rw[<-Z9];exact zC) (by rw[<-Z9,zQ n1];exact zC) ?_;rw[iz];exact (h5.mono fun _ _ y=>(y.mono kt).mono (aA.of s5)).snoc ⟨pt,rfl,s5 _ _ (kt _ _ Ny)⟩
  ext g
  .have z':¬ m<=(fs.length:Int):=fun y=>z (bp y);exact⟨_,rfl,q2 hrow (by lia) H3 F3 st3⟩
end
noncomputable def jc(rs:ay Rm)(os:ay Nat):ay Str:=(os.map fun o=>(rs.map (·.Hy)).getD o ("" : Str)).filter fun z => !decide (z=("" : Str))
def MK:Sp:=fun vs H Q _ => ∃ t uK rs os,vs=[.ref t,.ref uK]/\dB H t rs/\H uK=some (.tup (aB os))/\(∀ o∈os,o<rs.length)/\os.length<=40/\rs.length<=40 ∧
 ∀ p H',aG H H'->H' p=some (.tup ((jc rs os).map V.str))->Q (.ref p) H'
theorem Ej{os:ay Nat}{i o:Nat}{r:Rm}(h:os[i]? = some o)(hr:rs[o]? = some r):jc rs (os.take (i+1))=jc rs (os.take i)++(if (!decide (r.Hy=("" : Str)))=true then [r.Hy] else []):=by
 unfold jc;rw[iV,h,iz,eW];congr 1;show [(rs.map (·.Hy)).getD o ("" : Str)].filter _=_
 rw[show (rs.map (·.Hy)).getD o ("" : Str)=r.Hy by
  rw[jU,dD,hr]
  rfl]
 rw[f6]
 split <;> rfl
theorem Hw(rs:ay Rm)(os:ay Nat):(jc rs os).length<=os.length:=by unfold jc;refine bq (uN _ _) ?_;rw[bh];exact bN _
theorem qFV(a b:Str):decide (V.str a=V.str b)=decide (a=b):=bP.mpr ⟨fun h=>by injection h,fun h=>by rw[h]⟩
def Wide(CT:av)(fp:ay av)(H:Hp)(E:XK)(ps:ay (ay Nat)):Prop:=∀ dx pl pv H',bH H H' fp fp->H dx=none->H pl=none->H' dx=some (.xd [("ways",.ref pl)])->H' pl=some (.lst pv)->Al (qM H') pv ps->E (.ref CT) (some dx) H'
def Lg(H:Hp)(v:V)(m:ay En×Nat):Prop:=∃ a aw,v = .ref a/\H a=some (.tup [.ref aw,.int (m.2:Int)])/\H aw=some (.tup ((dH m.1).map V.str))
theorem Lg.mono(x:Lg H v m)(k:aA H H'):Lg H' v m:=by obtain⟨a,aw,h1,h2,h3⟩:=x;exact⟨a,aw,h1,k _ _ h2,k _ _ h3⟩
def RQ(P:ag)(w:aI)(C CT:av)(n:Nat):Sp:=fun vs H Q E => ∃(pc p as ap an:av)(r e:Nat)(m:Int)(c:jl)(fs:Fs)(s:S4)(path:ay Nat),vs=[.ref pc,.ref p,.int (r:Int),.int (e:Int)]/\vJ H pc c/\All c (Jw c) n/\c.tn<=20 ∧
 FD P w C H p as ap an m fs/\fs.length<=1000/\fs[r]? = some (s,path)/\jq c s/\Jw c s.os s.ks/\s.l=[]/\path.length<=100000 ∧
 ∀(es:ay En)(s':S4),JK c (e:Int) s es s'->jq c s'->Jw c s'.os s'.ks →
  (((mV fs (nl s') (path++[e])).length:Int)<=m∨mV fs (nl s') (path++[e])=fs->∀(v:V)(H':Hp),Lg H' v (es,vA fs (nl s'))->FD P w C H' p as ap an m (mV fs (nl s') (path++[e]))->bH H H' [as,ap,an] [as,ap,an]->Q v H') ∧
  (rowOf fs (nl s')=none->m<=(fs.length:Int)->Wide CT [as,ap,an] H E ((fs++[(nl s',path++[e])]).map (·.2)))
theorem Rn:aH ["rooms","opening"] ["rooms","opening"] (aC xN):=fJ
theorem T9{f:av}{fd:af}(F:dC K "lamps" "lamps" xN f fd)(aY:mg "tuple" = none):aO P w K mg base aa 1 f fd ["rooms","opening"] MK:=by
 refine F.ok Rn ?_ ?_
 .rintro _ _ _ _⟨t,uK,rs,os,rfl,_⟩;rfl
 intro _ A _ s H vs Q E _ h
 ext a;obtain⟨t,uK,rs,os,rfl,hR,hto,hos,_,_,q⟩:=h;ext b;refine⟨_,(zG (zO (yA zX rfl aY nF (zA (yT (aj:=[(0,"rooms")]) rfl (show bK (aC xN) ["rooms","opening"] _ _ _ from vm) (oJ (pv 1)) (fun _ _ _ _ _ _=>fZ (zL qZ (yB (r:=jE K) zH (yB (r:=jE K) zH (pv 1) (pv 0) (fun _ _=>rfl)) zB (fun _ _=>rfl)) zP (zR _))) (fun _ _ _ _ _ _=>(yB (r:=jE K) zH (yB (r:=jE K) zH (pv 1) (pv 0) (fun _ _=>rfl)) zB (fun _ _=>rfl)))) zD)))),?_⟩;refine⟨_,rfl,uK,rfl,⟨_,aM.of hto⟩,?_⟩;refine jJ (K:=K) (a:=uK) (xs:=aB os) (fun i acc H'=>H'=H/\acc=(jc rs (os.take i)).map V.str) ⟨rfl,rfl⟩ (fun i acc H' ⟨e,_⟩=>by subst e;exact aM.of hto) (fun i x acc H' hx ⟨e1,e2⟩=>?_) (fun acc H' ⟨e1,e2⟩ p hp=>?_)
 .subst e1 e2
  have hi:i<os.length:=by
   have:=(fO.mp hx).1;rw[zU]at this;exact this
  have eo:=gM hi
  obtain rfl:x = .int ((os[i]:Nat):Int):=by
   unfold aB at hx;rw[dD,eo]at hx;exact (jX hx).symm
  ext a;obtain⟨vs,a,r,ht,_,hr0,hat,ha⟩:=hR.at (hos _ (jT hi));ext b;have ll:=Hw rs (os.take i);rw[iW]at ll;have sc:=Ej eo hr0;refine⟨_,rfl,_,rfl,t,vs,_,_,rfl,rfl,aM.of ht,hat,aF (aM.of ha) rfl ⟨rfl,_,rfl,?_⟩⟩;refine fu (fun c=>?_) (fun c=>?_)
  .rw[qFV]at c;rw[cE c]at sc;refine⟨_,rfl,_,rfl,t,vs,_,_,rfl,rfl,aM.of ht,hat,aF (aM.of ha) rfl ⟨zV (by rw[bh];lia),rfl,?_⟩⟩;rw[sc,iz];rfl
  .rw[qFV]at c;rw[cy (by rw[c];decide),iB]at sc;exact⟨rfl,by rw[sc]⟩
 subst e1 e2;rw[vK (by rw[zU];exact bN _)];refine au p _ ⟨rfl,.inl ⟨aV.of zC,fun p2 hp2=>?_⟩⟩;exact q p2 _ ((zF hp _).trans (zF hp2 _)) zC
theorem Mi:aH ["chart","finds","row","event","told"] ["chart","finds","row","event"] (aC Dq):=fJ
theorem Xd(F:dC K "move" "move" Dq f fd)(cl:wN K C)(nS:bZ K C "stands")(nP:bZ K C "paths")(mR:Meth K C "row_of" g3)
  (uH:Dp P w K mg base aa m' g1 d1 ["chart","stand","event"] (vy n) "after")
  (Ln:Dp P w K mg base aa m' g2 d2 ["record"] Jh "said")
  (Cz:aO P w K mg base (qK P w) m' g3 d3 ["self","stand","path"] (M9 P w C CT)) (Cq:Binds K d3 ["self","stand","path"] [])
  (aY:mg "tuple" = none):aO P w K mg base (qK P w) (m'+1) f fd ["chart","finds","row","event"] (RQ P w C CT n):=by
 refine F.okX Mi ?_ ?_
 .rintro _ _ _ _⟨pc,p,as,ap,an,r,e,m,c,fs,s,path,rfl,_⟩;rfl
 ext d
 ext a;obtain⟨pc,p,as,ap,an,r,e,m,c,fs,st,path,rfl,hC,al,Vr,hF,l1,hr0,so,js,l0,lp,q⟩:=h;ext b
 refine⟨_,(zE (zK (i:=4) Mi.nd rfl (bb rfl) (pC uH hr (zA (pv 0) (zA (yB yU (cG (pv 1) rfl) (pv 2) (fun _ _=>rfl)) (zA (pv 3) zD)))))
  (zG (zO (zW (zA (yA zX rfl aY nF (zA (pC Ln hr (zA (yB zH (pv 4) zB (fun _ _=>rfl)) zD)) zD))
   (zA (t8 (pv 1) cl mR Cz hr Cq .nil (Ss fun _ _ _ z=>z) (zA (yB zH (pv 4) zB (fun _ _=>rfl)) (zA (oK (yC (jh.or pU oN) (yB yU (cG (pv 1) rfl) (pv 2) (fun _ _=>rfl)) (zW (zA (pv 3) zD)))) zD))) zD)))))),?_⟩
 ext f;ext a;obtain⟨⟨dx,h1⟩,⟨_,h2,h3⟩,⟨_,h4,h5⟩,_,_⟩:=id hF;obtain⟨_,hv0,q0,rfl,hq0⟩:=h3.get (k:=r) (r:=st) (by rw[dD,hr0];rfl);obtain⟨_,hv1,q1,rfl,hq1⟩:=h5.get (k:=r) (r:=path) (by rw[dD,hr0];rfl);ext b;refine⟨_,rfl,_,rfl,p,C,dx,_,_,rfl,h1,cl,nS,vW _ _ _ _,_,rfl,az (aV.of h2) (yQ hv0) ⟨_,rfl,pc,q0,c,(e:Int),st,rfl,hC,al,hq0,so,js,l0,Vr,fun t ps' pw wv es s' _ AR j' so' s1 ht hS' Aq _ hA _=>?_⟩⟩;ext g;obtain⟨k1,k2⟩:=q es s' AR so' j';have F1:=hF.mono s1
 have leS:es.length<=2000000:=by rw[<-hA.length];lia
 refine⟨_,rfl,aF (aM.of ht) rfl ⟨pw,wv,es,rfl,Aq,hA,leS,fun pl2 H2 s2 _ qID=>?_⟩⟩;refine⟨pl2,_,rfl,.inl ⟨aV.of qID,fun tw htw=>?_⟩⟩;have s3:=zF htw (.tup ((dH es).map V.str));have i3:upd H2 tw (.tup ((dH es).map V.str)) tw=some (.tup ((dH es).map V.str)):=zC;generalize upd H2 tw (.tup ((dH es).map V.str))=H3 at s3 i3 ⊢;have Af:=s2.trans s3;have Wl:=s1.trans Af;have F3:=hF.mono Wl;refine⟨_,rfl,p,dx,_,rfl,Wl _ _ h1,O6 _ _ _ _,_,rfl,aF (aM.of (Af _ _ ht)) rfl ?_⟩;refine⟨fun v H'=>∃ q:av,v = .ref q/\aG H3 H'/\H' q=some (.tup (aB (path++[e]))),?_,?_⟩
 .refine⟨_,rfl,fM p C dx (au _ _ ⟨rfl,Wl _ _ h1,cl,nP,O7 _ _ _ _,_,rfl,az (aV.of (Wl _ _ h4)) (yQ hv1) ⟨_,rfl,(zI (by show 1<=1000;decide)),fun pe hpe=>?_⟩⟩)⟩;have s4:=zF hpe (.tup [V.int (e:Int)]);have i4:upd H3 pe (.tup [V.int (e:Int)]) pe=some (.tup [V.int (e:Int)]):=zC;generalize upd H3 pe (.tup [V.int (e:Int)])=H4 at s4 i4 ⊢;have W3:=s4 _ _ (Wl _ _ hq1)
  cases path with
  | nil=>exact .inr (fM q1 pe _ ⟨rfl,rfl,aM.of W3,aM.of i4,pe,rfl,s4,i4⟩)
  | cons x path=>
   refine .inl (jV q1 pe _ _ ⟨rfl,rfl,aM.of W3,aM.of i4,(by intro z;cases z),?_,(fun z=>by cases z),fun _ p5 Nz=>?_⟩)
   .rw[sizeLine_eq,zU];simp only[List.length_cons,List.length_nil]at lp ⊢;lia
   .exact⟨p5,rfl,s4.trans (zF Nz _),by rw[zC];unfold aB;rw[iz];rfl⟩
 rintro _ H4 aQ;ext a;obtain⟨pq,rfl,s4,hpq⟩:=aQ;ext b;have Jr:=Af.trans s4;have JN:=s1.trans Jr;have F4:=hF.mono JN;refine⟨p,ps',pq,as,ap,an,m,fs,nl s',path++[e],rfl,F4,(gH.tail hS' []).mono (aA.of Jr),hpq,l1,fun i hi=>?_,fun hn _ H5 F5 rJ=>?_,fun hn hle dx2 pl pv H5 rJ z1 z2 z3 z4 z5=>?_⟩
 .obtain⟨e1,e2⟩:=bz (p:=path++[e]) hi;refine⟨zI (by show 2<=1000;decide),fun pt Ny=>?_⟩;have s5:=zF Ny (.tup [V.ref tw,V.int (i:Int)]);refine k1 (.inr e1) _ _ (au pt tw ⟨rfl,by rw[e2];exact zC,s5 _ _ (s4 _ _ i3)⟩) (by rw[e1];exact F4.mono s5) ⟨fun b hb=>.inl hb,fun b o eb _=>s5 _ _ (JN _ _ eb)⟩
 .obtain⟨e1,e2⟩:=bO (p:=path++[e]) hn;refine⟨zI (by show 2<=1000;decide),fun pt Ny=>?_⟩;have s5:=zF Ny (.tup [V.ref tw,V.int (fs.length:Int)]);have tw5:H5 tw=some (.tup ((dH es).map V.str)):=F4.keep rJ _ _ (s4 _ _ i3);refine k1 (.inl (by rw[e1,dj,gK];lia)) _ _ (au pt tw ⟨rfl,by rw[e2];exact zC,s5 _ _ tw5⟩) (by rw[e1];exact F5.mono s5) ⟨fun b hb=>.inl hb,fun b o eb nb=>s5 _ _ (rJ.rest b o (JN _ _ eb) nb)⟩
 .exact k2 hn hle dx2 pl pv H5 ⟨fun b hb=>.inl hb,fun b o eb nb=>rJ.rest b o (JN _ _ eb) nb⟩ (JN.free z1) (JN.free z2) z3 z4 z5
def cg(H:Hp)(v:V)(x:ay Str×ay (ay En×Nat)):Prop:=∃(a al am:av)(mv:ay V),v = .ref a/\H a=some (.tup [.ref al,.ref am])/\H al=some (.tup (x.1.map V.str))/\H am=some (.tup mv)/\Al (Lg H) mv x.2
theorem cg.mono(y:cg H v x)(k:aA H H'):cg H' v x:=by obtain⟨a,al,am,mv,h1,h2,h3,h4,h5⟩:=y;exact⟨a,al,am,mv,h1,k _ _ h2,k _ _ h3,k _ _ h4,h5.mono fun _ _ z=>z.mono k⟩
noncomputable def rowAt(c:jl)(ne:Nat)(fs:Fs)(ms:ay (ay En×Nat))(k:Nat):ay Str×ay (ay En×Nat):=(jc c.rs (fs[k]?.elim [] (·.1.os)),(ms.drop (k*ne)).take ne)
noncomputable def rowsOf(c:jl)(ne:Nat)(fs:Fs)(ms:ay (ay En×Nat))(n:Nat):ay (ay Str×ay (ay En×Nat)):=(List.range n).map (rowAt c ne fs ms)
theorem PK(h1:k<fs.length)(h2:(k+1)*ne<=ms.length):rowAt c ne (fs++more) (ms++km) k=rowAt c ne fs ms k:=by unfold rowAt;rw[vY h1];rw[gS,iO]at h2;congr 1;rw[List.drop_append_of_le_length (by lia),List.take_append_of_le_length (by rw[fh];lia)]
theorem Jt(h1:n<=fs.length)(h2:n*ne<=ms.length):rowsOf c ne (fs++more) (ms++km) n=rowsOf c ne fs ms n:=by unfold rowsOf;refine List.map_congr_left fun k hk=>?_;have hk:=List.mem_range.mp hk;exact PK (by lia) (bq (iL _ hk) h2)
theorem Gg:rowsOf c ne fs ms (n+1)=rowsOf c ne fs ms n++[rowAt c ne fs ms n]:=by unfold rowsOf;rw[gu,iz];rfl
def ig(c:jl)(fs:Fs):Prop:=∀ x∈fs,jq c x.1/\Jw c x.1.os x.1.ks
theorem Dj(h:jq c s):jq c (nl s):=⟨h.inc,h.lt,h.Xn,h.bx,h.ks,bg _⟩
theorem ig.add(h:ig c fs)(h1:jq c s)(h2:Jw c s.os s.ks):ig c (mV fs (nl s) p):=by
 cases e:rowOf fs (nl s) with
 | some i=>rw[(bz e).1];exact h
 | none=>
  rw[(bO e).1];intro x hx;rcases cH.mp hx with hx | hx
  .exact h x hx
  .rw[bJ.mp hx];exact⟨Dj h1,h2⟩
inductive RZ(CT:Addr)(n:Nat)(vs:List V)(H:Hp)(Q:VK)(E:XK):Prop
 | mk (pc:Addr) (m:Nat) (c:jl) (bs:List (Int×Int)) (ne:Nat) (_:vs=[.ref pc,.int (m:Int)]) (_:vI.Vq H pc c bs ne) (_:vI.zj c bs) (_:3<=n) (_:1<=m) (_:m<=300) (_:ne<=8) (_:∀(bf:List En)(s0:S4),JH c bs bf s0->bf.length<=1000000->(∀(N:Nat)(fs:Fs)(ms:List (List En×Nat))(t tw pr as:Addr)(rv sv:List V)(H':Hp),aX c ne s0 (N*ne) fs ms->fs.length=N->N<=m->ig c fs->H' t=some (.tup [.ref tw,.ref pr,.ref as])->H' tw=some (.tup ((dH bf).map V.str))->H' pr=some (.lst rv)->Al (cg H') rv (rowsOf c ne fs ms N)->H' as=some (.lst sv)->Al (vC H') sv (fs.map (·.1))->aG H H'->H pr=none->H as=none->pr≠as->Q (.ref t) H')/\(∀(i:Nat)(fs:Fs)(ms:List (List En×Nat)),aX c ne s0 i fs ms->fs.length=m+1->Wide CT [] H E (fs.map (·.2))))
theorem pJ:aH ["chart","most","finds","told","rows","row","moves"] ["chart","most"] (aC xK):=fJ
theorem Xi(F:dC K "flat" "flat" xK f fd)(cl:wN K C)(nS:bZ K C "stands")(mR:Meth K C "row_of" g3)(MkF:Mk K C gi)
  (mY:aO P w K mg base aa m' gi di ["self","most"] (Ra P w C)) (mU:Binds K di ["self","most"] []) (Ef:mg "Finds" = some (.ref C))
  (uG:Dp P w K mg base aa (m'+1) g1 d1 ["chart"] (vq n) "begun")
  (Ln:Dp P w K mg base aa (m'+1) g2 d2 ["record"] Jh "said")
  (Cz:aO P w K mg base (qK P w) (m'+1) g3 d3 ["self","stand","path"] (M9 P w C CT)) (Cq:Binds K d3 ["self","stand","path"] [])
  (Fb:Dp P w K mg base (qK P w) (m'+1) g4 d4 ["chart","finds","row","event"] (RQ P w C CT n) "move")
  (Yi:Dp P w K mg base aa (m'+1) g5 d5 ["rooms","opening"] MK "lamps")
  (aP:mg "len" = none) (aW:mg "range" = none) (aY:mg "tuple" = none):aO P w K mg base (qK P w) (m'+2) f fd ["chart","most"] (RZ CT n):=by
 refine F.okX pJ ?_ ?_
 .rintro _ _ _ _⟨pc,m,c,bs,ne,rfl,_⟩;rfl
 ext d
 ext a;obtain⟨pc,m,c,bs,ne,rfl,hX,ok,n3,m1,_,Bs,q⟩:=h;ext b
 refine⟨_,(zE (zK (i:=2) pJ.nd rfl (Or.inr rfl) (wD MkF mY hr rfl Ef mU .nil yE (zA (pv 1) zD)))
  (zE (zK (i:=3) pJ.nd rfl (bb rfl) (pC uG hr (zA (pv 0) zD)))
  (zE (yI (t8 (pv 2) cl mR Cz hr Cq .nil (Ss fun _ _ _ z=>z) (zA (yB zH (pv 3) zB (fun _ _=>rfl)) (zA (zW zD) zD))))
  (zE (zK (i:=4) pJ.nd rfl (bb rfl) (yK zD))
  (zZ (S6 (Yw fun _ _ _ z=>z) (kY (Es rfl rfl) (zL n6 (zS zN rfl aP bU (zA (pv 4) zD)) (zS zN rfl aP bU (zA (cG (pv 2) rfl) zD)) (zR _))
  (zE (zK (i:=5) pJ.nd rfl (Or.inr rfl) (zS zN rfl aP bU (zA (pv 4) zD)))
  (zE (S5 (i:=6) (aj:=[(0,"chart"),(2,"finds"),(5,"row")]) (qA9 fun _ _ _ z=>z) rfl pJ.nd rfl (bb rfl) (show bK (aC xK) ["chart","most","finds","told","rows","row","moves"] _ _ _ from vm)
    (bM rfl aW (zA (zS zN rfl aP bU (zA (yB zH (pv 0) zB (fun _ _=>rfl)) zD)) zD)) (fun _ _ _ _ _ _=>bc) (fun _ _ _ _ _ _ hp=>zJ (E:=E) Fb.G hr rfl Fb.m Fb.k Fb.b .nil hp (zA (pv 1) (zA (pv 2) (zA (pv 3) (zA (pv 0) zD))))))
  (zG (yI (dz il rO rN yH (pv 4) (zA (zW (zA (pC Yi hr (zA (yB zH (pv 0) zB (fun _ _=>rfl)) (zA (yB zH (yB yU (cG (pv 2) rfl) (pv 5) (fun _ _=>rfl)) zB (fun _ _=>rfl)) zD)))
    (zA (yA zX rfl aY nF (zA (pv 6) zD)) zD))) zD))))))))
  (zG (zO (zW (zA (yA zX rfl aY nF (zA (pC Ln hr (zA (yB zH (pv 3) zB (fun _ _=>rfl)) zD)) zD)) (zA (pv 4) (zA (cG (pv 2) rfl) zD))))))))))),?_⟩
 ext f;ext a;obtain⟨_,_,t0,_,_,_,Vv,_,h1,_,_,h4,h5,h6,h7,_,_,_⟩:=id hX;ext b;refine⟨_,rfl,fun x dx nx ndx _=>⟨x,dx,(m:Int),rfl,zC,fun as ap an H1 F1 Fq Kc nan keep=>⟨rfl,?_⟩⟩⟩;ext c
 have s1:aG H H1:=fun b o e=>by
  have z1:b≠x:=zM e nx;have z2:b≠dx:=zM e ndx;exact keep b o (by rw[zQ z1,zQ z2];exact e) z1
 have un:∀ b,upd (upd H dx (.own x)) x (.ins C dx []) b=none->H b=none:=fun b e=>by
  cases hb:H b with
  | none=>rfl
  | some o=>
   rw[zQ (zM hb nx),zQ (zM hb ndx),hb]at e
   cases e
 have Fq:=un as Fq;have Kc:=un ap Kc;have nan:=un an nan;clear keep un;refine⟨_,rfl,pc,c,bs,ne,rfl,hX.mono (aA.of s1),ok,n3,fun t ps pw wv bf s0 H2 BR j0 so0 s2 ht hS0 Aq Xr hA Xv=>?_⟩;ext c;ext a;obtain⟨qa,qb⟩:=q bf s0 BR Xv;have s02:=s1.trans s2;have F2:=F1.mono s2;obtain⟨⟨dx',hx2⟩,_⟩:=id F2;ext b;refine⟨_,rfl,fM x dx' _ ⟨rfl,hx2,O6 _ _ _ _,_,rfl,aF (aM.of ht) rfl ⟨bg _,fun pe hpe=>?_⟩⟩⟩;have s3:=zF hpe (.tup []);have i3:upd H2 pe (.tup []) pe=some (.tup (aB [])):=zC;generalize upd H2 pe (.tup [])=H3 at s3 i3 ⊢;have Wl:=s02.trans s3;refine⟨x,ps,pe,as,ap,an,(m:Int),[],nl s0,[],rfl,F2.mono s3,(gH.tail hS0 []).mono (aA.of s3),i3,bg _,(fun i z=>by cases z),fun _ _ H4 F4 zu=>?_,fun _ z=>dP z (by show ¬ ((m:Int)<=((0:Nat):Int));lia)⟩;ext c
 have JN:aG H H4:=fun b o e=>zu.rest b o (Wl b o e) fun z=>by
  rcases bL.mp z with z | z
  .rw[z,Fq]at e;cases e
  .rcases bL.mp z with z | z
   .rw[z,Kc]at e;cases e
   .rw[bJ.mp z,nan]at e;cases e
 have nfp:∀ {b:av} {o:HO},H2 b=some o->H1 b=none->b∉[as,ap,an]:=fun e e1 z=>(F1.there _ z) e1;have ht4:H4 t=some (.tup [.ref ps,.ref pw]):=(F2.mono s3).keep zu _ _ (s3 _ _ ht);have Ua:H4 pw=some (.lst wv):=zu.rest _ _ (s3 _ _ Aq) (nfp Aq Xr);have hA4:Al (gJ H4) wv bf:=hA.mono fun _ _ z=>(z.mono (aA.of s3)).mono ((F2.mono s3).keep zu);refine⟨bg _,fun pr hpr=>?_⟩;ext g;have s5:=zF hpr (.lst []);have i5:upd H4 pr (.lst []) pr=some (.lst []):=zC;generalize upd H4 pr (.lst [])=H5 at s5 i5 ⊢;have Nb:H pr=none:=JN.free hpr;have prf:pr∉[as,ap,an]:=fun z=>F4.there _ z hpr;have s05:=JN.trans s5;have hC5:∀ {Hi:Hp},aG H Hi->vJ Hi pc c:=fun z=>(hX.ch ok).mono (aA.of z);have alc:All c (Jw c) n:=⟨ok.ok,wide ok.ok,fun d hd=>⟨(ok.g d hd).1,bq (ok.g d hd).2 n3⟩⟩
 have Vr:c.tn<=20:=by have:=ok.t4;lia
 refine⟨fun σ' Hi => ∃(N:Nat)(fs:Fs)(ms:ay (ay En×Nat))(rv:ay V)(o5 o6:aE V),σ'=[some (.ref pc),some (.int (m:Int)),some (.ref x),some (.ref t),some (.ref pr),o5,o6]/\aX c ne s0 (N*ne) fs ms/\fs.length=N/\N<=m/\ig c fs/\FD P w C Hi x as ap an (m:Int) fs/\aG H Hi/\Hi t=some (.tup [.ref ps,.ref pw])/\Hi pw=some (.lst wv)/\Al (gJ Hi) wv bf/\Hi pr=some (.lst rv)/\Al (cg Hi) rv (rowsOf c ne fs ms N),?_,?_⟩
 .refine⟨fun μ σ' Hi => ∃(r:Nat)(fs:Fs)(ms:ay (ay En×Nat))(rv:ay V)(o5 o6:aE V),μ=m-r/\σ'=[some (.ref pc),some (.int (m:Int)),some (.ref x),some (.ref t),some (.ref pr),o5,o6]/\aX c ne s0 (r*ne) fs ms/\r<=fs.length/\fs.length<=m/\ig c fs/\FD P w C Hi x as ap an (m:Int) fs/\aG H Hi/\Hi t=some (.tup [.ref ps,.ref pw])/\Hi pw=some (.lst wv)/\Al (gJ Hi) wv bf/\Hi pr=some (.lst rv)/\Al (cg Hi) rv (rowsOf c ne fs ms r),
   ⟨_,uM 0 [(nl s0,[])] [] [] none none ⟨rfl,rfl,by rw[iX];exact .nil,bg _,m1,fun y hy=>by rw[bJ.mp hy];exact⟨Dj so0,j0⟩,F4.mono s5,s05,s5 _ _ ht4,s5 _ _ Ua,hA4.mono fun _ _ z=>z.mono (aA.of s5),i5,.nil⟩⟩,?_⟩
  rintro μ σ' Hi aQ;ext a;obtain⟨r,fs,ms,rv,o5,o6,rfl,rfl,FR,rl,flm,Qf,Fi,si,hti,Xy,wJ,QF,hRi⟩:=aQ;ext b;have Tw:=hRi.length;unfold rowsOf at Tw;rw[bh,cb]at Tw;ext a;obtain⟨⟨dxi,hxi⟩,⟨_,hsv,qB5⟩,_⟩:=id Fi;ext b;have lsv:=qB5.length;rw[bh]at lsv;refine⟨_,rfl,fL rfl (.inl (aV.of QF)) ⟨_,rfl,fM x C dxi (au _ _ ⟨rfl,hxi,cl,nS,vW _ _ _ _,fL rfl (.inl (aV.of hsv)) (bB ⟨_,rfl,?_⟩)⟩)⟩⟩;rw[Tw,lsv];refine fu (fun z=>?_) (fun z=>?_)
  .have z:=ba z
   have rlt:r<fs.length:=by lia
   refine⟨fun σ2 H2 => ∃(dq:Fs)(km:ay (ay En×Nat))(qX:ay V)(o5 o6:aE V),σ2=[some (.ref pc),some (.int (m:Int)),some (.ref x),some (.ref t),some (.ref pr),o5,o6]/\aX c ne s0 ((r+1)*ne) dq km/\r+1<=dq.length/\dq.length<=m/\ig c dq/\FD P w C H2 x as ap an (m:Int) dq/\aG H H2/\H2 t=some (.tup [.ref ps,.ref pw])/\H2 pw=some (.lst wv)/\Al (gJ H2) wv bf/\H2 pr=some (.lst qX)/\Al (cg H2) qX (rowsOf c ne dq km (r+1)),?_,?_⟩
   .rintro σ2 H2 aQ;ext a;obtain⟨dq,km,qX,p5,p6,y1,y2,y3,y4,y5⟩:=aQ;ext b;exact⟨m-(r+1),by lia,uM (r+1) dq km qX p5 p6 ⟨rfl,y1,y2,y3,y4,y5⟩⟩
   refine Q0 fun _ aK _ x_1=>?_;refine⟨_,rfl,fL rfl (.inl (aV.of QF)) ?_⟩;ext e;rw[Tw];ext a;obtain⟨⟨sr,eV⟩,W2⟩:∃ y,fs[r]? = some y:=⟨_,gM rlt⟩;ext b;have Gz:=Qf _ (zp W2);have l0r:=Er FR _ (zp W2);have lms:=eF FR;have rne:r*ne<=2400:=bq (Nat.mul_le_mul (hU (show r<300 by lia)) Bs) (by decide);refine⟨_,rfl,aF (aM.of (si _ _ h1)) rfl (fL rfl (.inr (aM.of (si _ _ h4))) ⟨_,rfl,?_⟩)⟩;rw[h5];refine⟨by lia,by lia,?_⟩;refine gq (lo:=0) (n:=ne) (fun i acc H'=>∃(dq more:Fs)(km mm:ay (ay En×Nat)),aX c ne s0 (r*ne+i) dq km/\dq=fs++more/\km=ms++mm/\dq.length<=m/\ig c dq/\FD P w C H' x as ap an (m:Int) dq/\bH Hi H' [as,ap,an] [as,ap,an]/\Al (Lg H') acc mm)
    (jV fs [] ms [] ⟨FR,by simp,by simp,flm,Qf,Fi,bH.same _ (aG.refl _),.nil⟩) ?_ ?_
   .rintro i acc H' hi aQ;ext a;obtain⟨dq,more,km,mm,Qj,e1,e2,YH,FP,F2,st2,Y9⟩:=aQ;ext b;have lm2:=eF Qj
    have yf:dq[r]? = some (sr,eV):=by rw[e1,vY rlt];exact W2
    have hdiv:(r*ne+i)/ne=r:=by
     rw[iF,iA (by lia),hJ hi,gT]
    have hmod:(r*ne+i)%ne=i:=by
     rw[iF,iE,ip hi]
    have sH:aG H H':=fun b o e=>st2.rest b o (si b o e) fun z=>by
     rcases bL.mp z with z | z
     .rw[z,Fq]at e;cases e
     .rcases bL.mp z with z | z
      .rw[z,Kc]at e;cases e
      .rw[bJ.mp z,nan]at e;cases e
    refine⟨_,rfl,_,rfl,_,rfl,_,rfl,pc,x,as,ap,an,r,i,(m:Int),c,dq,sr,eV,(by rw[c9];rfl),hC5 sH,alc,Vr,F2,by lia,yf,Gz.1,Gz.2,l0r,?_,fun es s' AR so' j'=>⟨fun hle v H3 hv F3 st3=>?_,fun hn hle=>?_⟩⟩
    .have:=CV FR _ (zp W2);simp only at this;lia
    .have W9:=aX.cell Qj (by lia) (by rw[hdiv];exact yf) (by rw[hmod];exact AR);rw[hmod]at W9;ext a;obtain⟨m3,em3,_⟩:=iQ dq (nl s') (eV++[i]);ext b;refine⟨zI (by rw[Y9.length];(have:km.length=ms.length+mm.length:=by rw[e2,dj]);lia),jV _ (more++m3) _ (mm++[(es,vA dq (nl s'))]) ⟨W9,by rw[em3,e1,bS],by rw[e2,bS],?_,FP.add so' j',F3,bH.trans st2 st3,(Y9.mono fun _ _ z=>z.mono (F2.keep st3)).snoc hv⟩⟩;rcases hle with hle | hle
     .lia
     .rw[hle];exact YH
    .have W9:=aX.cell Qj (by lia) (by rw[hdiv];exact yf) (by rw[hmod];exact AR);rw[hmod,(bO (p:=eV++[i]) hn).1]at W9;have:=qb _ _ _ W9 (by rw[dj,gK];lia);intro dx2 pl pv H3 st3 z1 z2 z3 z4 z5
     exact this dx2 pl pv H3 ⟨(fun b hb=>by cases hb),fun b o e _=>by
      refine st3.rest b o (sH b o e) fun z=>?_;rcases bL.mp z with z | z
      .rw[z,Fq]at e;cases e
      .rcases bL.mp z with z | z
       .rw[z,Kc]at e;cases e
       .rw[bJ.mp z,nan]at e;cases e⟩ (sH.free z1) (sH.free z2) z3 z4 z5
   rintro acc H' ⟨dq,more,km,mm,Qj,e1,e2,YH,FP,F2,st2,Y9⟩ pl hpl;refine x_1 ?_;clear x_1;have lm2:=eF Qj
   have lmm:mm.length=ne:=by
    rw[e2,dj]at lm2;lia
   have s6:=zF hpl (.lst acc);have i6:upd H' pl (.lst acc) pl=some (.lst acc):=zC;generalize upd H' pl (.lst acc)=H6 at s6 i6 ⊢;have F6:=F2.mono s6;have JL:bH Hi H6 [as,ap,an] [as,ap,an]:=bH.trans st2 (bH.same _ s6);have k6:=Fi.keep JL
   have sH6:aG H H6:=fun b o e=>JL.rest b o (si b o e) fun z=>by
    rcases bL.mp z with z | z
    .rw[z,Fq]at e;cases e
    .rcases bL.mp z with z | z
     .rw[z,Kc]at e;cases e
     .rw[bJ.mp z,nan]at e;cases e
   ext a;obtain⟨⟨dx6,hx6⟩,⟨_,qHR,qE5⟩,_⟩:=id F6
   have yf:dq[r]? = some (sr,eV):=by rw[e1,vY rlt];exact W2
   obtain⟨_,hv6,_,rfl,po6,_,_,_,hq6,ho6,_⟩:=qE5.get (k:=r) (r:=sr) (by rw[dD,yf];rfl);ext b;have qE7:H6 pr=some (.lst rv):=JL.rest _ _ QF prf;refine⟨_,rfl,.inl ⟨rfl,_,aV.of qE7⟩,_,rfl,aF (aM.of (sH6 _ _ h1)) rfl ⟨_,rfl,fM x C dx6 (au _ _ ⟨rfl,hx6,cl,nS,vW _ _ _ _,_,rfl,az (aV.of qHR) (yQ hv6) (aF (aM.of hq6) rfl ⟨t0,po6,c.rs,sr.os,rfl,⟨Vv,sH6 _ _ h6,h7.mono (aA.of sH6)⟩,ho6,Gz.1.lt,Gz.1.Xn,ok.ok.r40,fun tl H7 s7 htl=>?_⟩)⟩)⟩⟩;have i7:=s7 _ _ i6;refine⟨_,rfl,au pl _ ⟨rfl,.inl ⟨aV.of i7,fun tm htm=>?_⟩⟩⟩;have s8:=zF htm (.tup acc);have i8:upd H7 tm (.tup acc) tm=some (.tup acc):=zC;generalize upd H7 tm (.tup acc)=H8 at s8 i8 ⊢;refine⟨zI (by show 2<=1000;decide),fun tr htr=>?_⟩;have s9:=zF htr (.tup [V.ref tl,V.ref tm]);have i9:upd H8 tr (.tup [V.ref tl,V.ref tm]) tr=some (.tup [V.ref tl,V.ref tm]):=zC;generalize upd H8 tr (.tup [V.ref tl,V.ref tm])=H9 at s9 i9 ⊢;have s69:=s7.trans (s8.trans s9);have qB9:H9 pr=some (.lst rv):=s69 _ _ qE7;refine⟨pr,_,_,rfl,rfl,qB9,zI (by lia),?_⟩;ext g;generalize hHa:upd H9 pr (.lst (rv++[.ref tr]))=Ha
   have ra:∀ b,b≠pr->Ha b=H9 b:=fun b z=>by rw[<-hHa];exact zQ z
   have pa:Ha pr=some (.lst (rv++[.ref tr])):=by rw[<-hHa];exact zC
   have ka:aA H9 Ha:=fun b xs e=>(ra b (fun z=>by rw[z,qB9]at e;cases e)).trans e;have k69:=(aA.of s69).trans ka;have k0a:aA Hi Ha:=k6.trans k69;have sa:aG H Ha:=fun b o e=>(ra b (fun z=>by rw[z,Nb]at e;cases e)).trans ((sH6.trans s69) _ _ e)
   have Fa:FD P w C Ha x as ap an (m:Int) dq:=by
    ext a;obtain⟨⟨dx9,y1⟩,⟨sv9,y2,y3⟩,⟨pv9,y4,y5⟩,y6,y7⟩:=F6.mono s69;ext b;have z1:as≠pr:=fun z=>prf (by rw[<-z];simp);have z2:ap≠pr:=fun z=>prf (by rw[<-z];simp);have z3:an≠pr:=fun z=>prf (by rw[<-z];simp);exact⟨⟨dx9,(ra x (cJ y1 qB9 nofun)).trans y1⟩,⟨sv9,(ra as z1).trans y2,y3.mono fun _ _ z=>z.mono ka⟩,⟨pv9,(ra ap z2).trans y4,y5.mono fun _ _ z=>z.mono ka⟩,y6.mono (fun b xs e=>ka b xs e) (ra an z3),y7⟩
   have qHW:pw∉[as,ap,an]:=nfp Aq Xr
   have npp:pw≠pr:=fun z=>by rw[z,hpr]at Ua;cases Ua
   refine fM dq km (rv++[.ref tr]) (au _ _ ⟨rfl,(by rw[gS,iO];exact Qj),(by rw[e1,dj];lia),YH,FP,Fa,sa,k0a _ _ hti,(ra pw npp).trans (s69 _ _ (JL.rest _ _ Xy qHW)),wJ.mono fun _ _ z=>z.mono k0a,pa,?_⟩);rw[Gg,e1,e2,Jt rl (by lia)];refine (hRi.mono fun _ _ z=>z.mono k0a).snoc (jV tr tl tm acc ⟨rfl,ka _ _ i9,?_,(aA.of s9).trans ka _ _ i8,?_⟩)
   .have hl:(fs++more)[r]? = some (sr,eV):=by rw[<-e1];exact yf
    unfold rowAt;rw[hl];exact ((aA.of (s8.trans s9)).trans ka) _ _ htl
   .unfold rowAt;show Al (Lg Ha) acc (((ms++mm).drop (r*ne)).take ne);rw[<-lms,List.drop_left,vK (by lia)];exact Y9.mono fun _ _ z=>(z.mono (aA.of s6)).mono k69
  .have z:=bE z;exact uM r fs ms rv o5 o6 ⟨rfl,FR,by lia,by lia,Qf,Fi,si,hti,Xy,wJ,QF,hRi⟩
 rintro _ Hi aQ;ext a;obtain⟨N,fs,ms,rv,o5,o6,rfl,FR,fl,Nm,Qf,Fi,si,hti,Xy,wJ,QF,hRi⟩:=aQ;ext b;refine⟨_,rfl,aF (aM.of hti) rfl ⟨pw,wv,bf,rfl,Xy,wJ,by lia,fun pl H6 s6 _ hpl=>?_⟩⟩;refine au pl _ ⟨rfl,.inl ⟨aV.of hpl,fun tw htw=>?_⟩⟩;have s7:=zF htw (.tup ((dH bf).map V.str));have i7:upd H6 tw (.tup ((dH bf).map V.str)) tw=some (.tup ((dH bf).map V.str)):=zC;generalize upd H6 tw (.tup ((dH bf).map V.str))=H7 at s7 i7 ⊢;have s67:=s6.trans s7;ext a;obtain⟨⟨dx7,hx7⟩,⟨sv7,qHQ,qE4⟩,_⟩:=id (Fi.mono s67);ext b;refine⟨_,rfl,_,rfl,fM x C dx7 (au _ _ ⟨rfl,hx7,cl,nS,vW _ _ _ _,zI (by show 3<=1000;decide),fun tr htr=>?_⟩)⟩;have s8:=zF htr (.tup [V.ref tw,V.ref pr,V.ref as]);exact qa N fs ms tr tw pr as rv sv7 _ FR fl Nm Qf zC (s8 _ _ i7) ((s67.trans s8) _ _ QF) (hRi.mono fun _ _ z=>z.mono (aA.of (s67.trans s8))) (s8 _ _ qHQ) (qE4.mono fun _ _ z=>z.mono (aA.of s8)) (si.trans (s67.trans s8)) Nb Fq (fun z=>prf (by rw[z];simp))
def Ax(c:jl):En->Prop
 | .inn r=>r<c.rs.length
 | .door k=>k<c.ds.length
 | _=>True
theorem Je(e:En):∀(ss:ay Sd)(s:ay Int×ay Int×ay En),e∈(ss.foldl (Ru.sstep sz m) s).2.2->e∈s.2.2∨(∃ x∈ss,e=x.1) ∨ ∃ r,e = .rc r
 | [],_,h=>.inl h
 | x::ss,s,h=>by
  rcases Je e ss _ h with z | ⟨y,hy,z⟩ | z
  .unfold Ru.sstep at z;simp only at z;rcases cH.mp z with z | z
   .exact .inl z
   .rcases bL.mp z with z | z
    .exact .inr (.inl ⟨x,wO,z⟩)
    .obtain⟨r,_,rfl⟩:=dU.mp z;exact .inr (.inr ⟨r,rfl⟩)
  .exact .inr (.inl ⟨y,Fj _ hy,z⟩)
  .exact .inr (.inr z)
theorem XF(ok:uJ c)(h:Cw c k s es s'):∀ e∈es,Ax c e:=by
 obtain⟨d,ms,h1,h2,_,_,_,h6⟩:=h
 have e6:es=(cT c.sz c.lb (fP c k d s.os ms) s.bx s.l).2.2:=by rw[<-h6]
 intro e he;rw[e6]at he;rcases Je e _ _ he with z | ⟨x,hx,rfl⟩ | ⟨r,rfl⟩
 .cases z
 .unfold fP at hx;rcases cH.mp hx with hx | hx
  .rcases cH.mp hx with hx | hx
   .rcases cH.mp hx with hx | hx
    .rw[bJ.mp hx];exact (fO.mp h1).1
    .obtain⟨r,_,rfl⟩:=dU.mp hx;exact dE
   .rw[bJ.mp hx];exact dE
  .obtain⟨r,hr,rfl⟩:=dU.mp hx;exact Ko ok h2 r hr
 .exact dE
theorem V4(ok:uJ c)(h:jP c s ks lf es s'):∀ e∈es,Ax c e:=by
 induction h with
 | nil=>intro e he;cases he
 | skip _ _ _ ih=>exact ih
 | go _ _ _ hp ih=>
  intro e he;rcases cH.mp he with he | he
  .exact ih e he
  .exact XF ok hp e he
theorem M3(ok:uJ c)(h:Cu c ev s es s'):∀ e∈es,Ax c e:=by
 obtain⟨_,_,h1,rfl⟩:=h;intro e he;rcases bL.mp he with rfl | he
 .exact dE
 .exact V4 ok h1 e he
theorem Rr(ok:uJ c)(h0:∀ e∈bf,Ax c e)(h:mX c bf s0 n es s'):∀ e∈es,Ax c e:=by
 induction h with
 | one=>exact h0
 | more _ _ _ ht ih=>
  intro e he;rcases cH.mp he with he | he
  .exact ih e he
  .exact M3 ok ht e he
theorem Ni:∀ e∈ur l,Ax c e:=by intro e he;obtain⟨x,_,rfl⟩:=dU.mp he;exact dE
theorem Va(ok:uJ c)(h:JK c ev s es s'):∀ e∈es,Ax c e:=by
 obtain⟨_,_,_,n,h1,h2,_,rfl⟩:=h;intro e he;rcases cH.mp he with he | he
 .exact Rr ok (M3 ok h1) h2 e he
 .exact Ni e he
theorem VM(ok:uJ c)(h:JH c bs es s):∀ e∈es,Ax c e:=by
 obtain⟨_,n,_,h1,h2,_,rfl⟩:=h;have npos:=ok.good.pos;have ld:=yV c.rs;intro e he;rcases cH.mp he with he | he
 .refine Rr ok (fun e he=>?_) h2 e he;unfold DX cT at he;rcases Je e _ _ he with z | ⟨x,hx,rfl⟩ | ⟨r,rfl⟩
  .cases z
  .obtain⟨r,hr,rfl⟩:=dU.mp hx;have:=h1.lt npos r hr;show r<c.rs.length;lia
  .exact dE
 .exact Ni e he
def jK:En->aE Nat
 | .inn r=>some (2*r)
 | .door k=>some (2*k+1)
 | _=>none
def mL(x:Nat):ay Key:=[.inr (if x%2=0 then ("in" : Str) else ("door" : Str)),.inl ((x/2:Nat):Int)]
theorem Nv:¬ (("in" : Str)=("door" : Str)):=by ext y
theorem U8(h:mL x=mL y):x=y:=by
 unfold mL at h;simp only[List.cons.injEq,Sum.inr.injEq,Sum.inl.injEq,and_true]at h;obtain⟨h1,_⟩:=h
 have h3:x/2=y/2:=by lia
 by_cases a:x%2=0
 .by_cases b:y%2=0
  .lia
  .rw[cE a,cy b]at h1;exact dP h1 Nv
 .by_cases b:y%2=0
  .rw[cy a,cE b]at h1;exact dP h1.symm Nv
  .lia
def yj(es:ay En)(x:Nat):Bool:=es.any fun e=>decide (jK e=some x)
abbrev Iz:=ay (ay En×ay Nat)
def aL(R:Iz)(x:Nat):aE (ay Nat):=(R.find? fun y=>yj y.1 x).map (·.2)
theorem dM(R:Iz)(es:ay En)(p:ay Nat)(x:Nat):aL (R++[(es,p)]) x=match aL R x with
 | some q=>some q
 | none=>if yj es x=true then some p else none:=by
 unfold aL;rw[List.find?_append]
 cases h:R.find? fun y=>yj y.1 x with
 | some y=>rfl
 | none=>
  simp only[Option.map_none,Option.none_or];rw[f7]
  cases yj es x with
  | true=>rfl
  | false=>rfl
theorem tQ(es:ay En)(e:En)(x:Nat):yj (es++[e]) x=(yj es x||decide (jK e=some x)):=by unfold yj;rw[List.any_append];simp
abbrev Mt:=ay (Nat×V)
def lE(M:Mt):ay (ay Key×V):=M.map fun x=>(mL x.1,x.2)
theorem DQ(x:Nat):∀ M:Mt,cM (lE M) (mL x)=M.lookup x
 | []=>rfl
 | (y,v)::M=>by
  show cM ((mL y,v)::lE M) (mL x)=_;rw[fm]
  by_cases h:x=y
  .subst h;rw[c7 (p:=(mL x,v)) rfl,show (x==x)=true by simp]
  .rw[cA (p:=(mL y,v)) (fun z=>h (U8 z).symm),DQ x M,show (x==y)=false by simpa using h]
structure jW(H:Hp)(M:Mt)(R:Iz):Prop where
 nd:(M.map (·.1)).Nodup
 lt:∀ x∈M,x.1<400
 at_:∀ x,match M.lookup x,aL R x with
  | some v,some p=>qM H v p
  | none,none=>True
  | _,_=>False
theorem jW.mono(h:jW H M R)(k:aA H H'):jW H' M R:=by
 refine⟨h.nd,h.lt,fun x=>?_⟩;have z:=h.at_ x;revert z
 cases M.lookup x <;> cases aL R x <;> simp only[] <;> intro z
 .trivial
 .exact z
 .exact z
 .exact z.mono k
theorem jW.len(h:jW H M R):M.length<=400:=by
 have:=Tr.fj 400 (M.map (·.1)) h.nd fun x hx=>by
  obtain⟨y,hy,rfl⟩:=dU.mp hx;exact h.lt y hy
 rw[bh]at this;exact this
theorem Q3(M:Mt)(y:Nat)(v:V)(x:Nat):(M++[(y,v)]).lookup x=match M.lookup x with
 | some u=>some u
 | none=>if x=y then some v else none:=by
 induction M with
 | nil=>
  show List.lookup x [(y,v)]=_;rw[fm]
  by_cases h:x=y
  .subst h;simp
  .rw[show (x==y)=false by simpa using h];simp [h]
 | cons a M ih=>
  obtain⟨b,u⟩:=a;show List.lookup x ((b,u)::(M++[(y,v)]))=_;rw[fm,fm]
  cases x==b with
  | true=>rfl
  | false=>exact ih
theorem jW.nothing(h:jW H M (R++[(es,p)]))(hc:∀ x,jK e=some x->(M.lookup x).isSome=true):jW H M (R++[(es++[e],p)]):=by
 refine⟨h.nd,h.lt,fun x=>?_⟩;have z:=h.at_ x
 have e1:aL (R++[(es++[e],p)]) x=aL (R++[(es,p)]) x:=by
  rw[dM,dM]
  cases hf:aL R x with
  | some q=>rfl
  | none=>
   simp only[];rw[tQ]
   by_cases he:jK e=some x
   .have y:=hc x he;rw[dM,hf]at z;simp only[]at z
    cases hh:yj es x with
    | true=>rfl
    | false=>
     rw[hh]at z;revert z y
     cases M.lookup x with
     | none=>intro z y;cases y
     | some v=>intro z y;exact z.elim
   .rw[bo he,Bool.or_false]
 rw[e1];exact z
theorem jW.one(h:jW H M (R++[(es,p)]))(hc:jK e=some y)(hl:y<400)(hn:M.lookup y=none)(hv:qM H v p):jW H (M++[(y,v)]) (R++[(es++[e],p)]):=by
 have hny:y∉M.map (·.1):=fun z=>by
  obtain⟨a,ha,e⟩:=dU.mp z
  have:∀ M:Mt,a∈M->(M.lookup a.1).isSome=true:=by
   intro M
   induction M with
   | nil=>intro z;cases z
   | cons b M ih=>
    intro hz;obtain⟨b1,_⟩:=b;rw[fm]
    cases hb:a.1==b1 with
    | true=>rfl
    | false=>
     rcases bL.mp hz with k | k
     .rw[k]at hb;simp at hb
     .exact ih k
  have w:=this M ha;rw[e,hn]at w
  cases w
 refine⟨?_,fun x hx=>?_,fun x=>?_⟩
 .rw[iz,List.nodup_append];refine⟨h.nd,by simp,fun a ha b hb=>?_⟩;rw[br,fq,bJ]at hb;subst hb;exact fun z=>hny (z▸ha)
 .rcases cH.mp hx with hx | hx
  .exact h.lt x hx
  .rw[bJ.mp hx];exact hl
 .have z:=h.at_ x;rw[Q3];rw[dM]at z ⊢
  by_cases hx:x=y
  .subst hx;rw[hn]at z ⊢
   cases hf:aL R x with
   | some q=>rw[hf]at z;exact z.elim
   | none=>
    simp only[];rw[tQ,bp hc,Bool.or_true,cE rfl]
    first
     | exact hv
     | (rw[cE rfl];exact hv)
     | (simp only[if_true];exact hv)
  .have e2:yj (es++[e]) x=yj es x:=by
    rw[tQ,bo (fun k=>hx (jX (k.symm.trans hc))),Bool.or_false]
   rw[e2]
   cases hm:M.lookup x with
   | some u=>rw[hm]at z;exact z
   | none=>rw[hm]at z;rw[cy hx];exact z
def TP:cP (ay Key) 1:=cP.leaf.tup
theorem le1:1<=8:=by decide
theorem Nq(r:Nat):mL (2*r)=[.inr ("in" : Str),.inl (r:Int)]:=by unfold mL;rw[cE (by lia),show 2*r/2=r by lia]
theorem CK(k:Nat):mL (2*k+1)=[.inr ("door" : Str),.inl (k:Int)]:=by unfold mL;rw[cy (by lia),show (2*k+1)/2=k by lia]
theorem qB3{H:Hp}{a:av}{r:Nat}(h:H a=some (.tup [.str "in",.int (r:Int)])):TP.inn 0 H (mL (2*r)) (.ref a):=by rw[Nq];exact⟨a,_,rfl,h,.cons rfl (.cons rfl .nil)⟩
theorem UT{H:Hp}{a:av}{k:Nat}(h:H a=some (.tup [.str "door",.int (k:Int)])):TP.inn 0 H (mL (2*k+1)) (.ref a):=by rw[CK];exact⟨a,_,rfl,h,.cons rfl (.cons rfl .nil)⟩
inductive Ji(P:Program)(w:World)(vs:List V)(H:Hp)(Q:VK)(E_:XK):Prop
 | mk (pm pr pt M R rv es p) (_:vs=[.ref pm,.ref pr,.ref pt]) (_:DN P w TP le1 H pm (lE M)) (_:H pr=some (.lst rv)) (_:Al (gJ H) rv es) (_:es.length<=1000000) (_:(∀ e∈es,∀ x,jK e=some x->x<400)) (_:H pt=some (.tup (aB p))) (_:jW H M R) (_:∀ M' H',DN P w TP le1 H' pm (lE M')->jW H' M' (R++[(es,p)])->bH H H' [pm] [pm]->Q .non H')
theorem Wr(e:En):∃ s x r,e.row = .str s::x::r/\(inV (.str s) [.str ("in" : Str),.str ("door" : Str)]=true->(∃ k:Nat,e = .inn k) ∨ ∃ k:Nat,e = .door k)/\(inV (.str s) [.str ("in" : Str),.str ("door" : Str)]=false->jK e=none):=by
 cases e with
 | inn k=>exact⟨_,_,_,rfl,fun _=>.inl ⟨k,rfl⟩,fun z=>dP z (by ext y)⟩
 | out k=>exact⟨_,_,_,rfl,fun z=>dP z (by ext y),fun _=>rfl⟩
 | door k=>exact⟨_,_,_,rfl,fun _=>.inr ⟨k,rfl⟩,fun z=>dP z (by ext y)⟩
 | thr k=>exact⟨_,_,_,rfl,fun z=>dP z (by ext y),fun _=>rfl⟩
 | take e=>exact⟨_,_,_,rfl,fun z=>dP z (by ext y),fun _=>rfl⟩
 | rc r=>
  cases r
  all_goals exact⟨_,_,_,rfl,fun z=>dP z (by ext y),fun _=>rfl⟩
theorem Mh:aH ["met","record","path","part"] ["met","record","path"] (aC Dn):=fJ
theorem Xb(F:dC K "note" "note" Dn f fd):aO P w K mg base aa 1 f fd ["met","record","path"] (Ji P w):=by
 refine F.ok Mh ?_ ?_
 .rintro _ _ _ _⟨pm,pr,pt,M,R,rv,es,p,rfl,_⟩;rfl
 ext d
 ext a;obtain⟨pm,pr,pt,M,R,rv,es,p,rfl,hD,hpr,hA,_,lt,Ny,hM,q⟩:=h;ext b
 refine⟨_,(zG (cC PassesOwn.never rfl (yM (pv 1)) (yJ (i:=3) Mh.nd rfl (bb rfl)) (zG (yD (zL ug (yB zH (pv 3) zB (fun _ _=>rfl)) (zW (zA zP (zA zP zD))) rfl)
  (zG (yI (X6 hr.units TP le1 (pv 0) (pv 3) (pv 2) ⟨rfl,rfl,rfl,rfl⟩))) zT)))),?_⟩
 have lA:=hA.length
 have nm:pm≠pr:=by
  obtain⟨φ,z⟩:=gj hD;exact cJ z hpr nofun
 refine⟨_,rfl,pr,rfl,⟨_,aV.of hpr⟩,?_⟩;refine lH (K:=K) (a:=pr) (xs:=rv) (fun i σ' H'=>∃ M' o,σ'=[some (.ref pm),some (.ref pr),some (.ref pt),o]/\DN P w TP le1 H' pm (lE M')/\jW H' M' (R++[(es.take i,p)])/\bH H H' [pm] [pm]) ?_ ?_ ?_ ?_
 .refine au M none ⟨rfl,hD,?_,bH.same _ (aG.refl _)⟩;refine⟨hM.nd,hM.lt,fun x=>?_⟩;rw[dM];have z:=hM.at_ x
  cases hf:aL R x with
  | some y=>rw[hf]at z;exact z
  | none=>rw[hf]at z;exact z
 .rintro i σ' H' _ aQ;ext a;obtain⟨M',o,_,_,_,st⟩:=aQ;ext b;exact aV.of (st.rest _ _ hpr (by simpa using Ne.symm nm))
 .rintro i x σ' H' hx aQ;ext a;obtain⟨M',o,rfl,hD',hM',st⟩:=aQ
  have kt:aA H H':=fun b xs e=>st.rest _ _ e (by
   obtain⟨φ,z⟩:=gj hD;have:=cJ e z nofun
   simpa using this)
  have hi:i<es.length:=by
   have:=(fO.mp hx).1;lia
  have ei:=gM hi;obtain⟨v,hv,a,rfl,ha⟩:=hA.get ei;ext b;rw[hv]at hx;obtain rfl:=jX hx;have ha:=kt _ _ ha
  have et:es.take (i+1)=es.take i++[es[i]]:=by rw[iV,ei];rfl
  ext a;obtain⟨sx,_,_,er,hin,hnot⟩:=Wr es[i];ext b;have ha':=ha;rw[er]at ha';refine⟨_,rfl,a,_,_,V.str sx,rfl,rfl,aM.of ha',yQ (j:=0) (v:=V.str sx) rfl,zI (by show 2<=1000;decide),fun pq hpq=>?_⟩;have sq:=zF hpq (.tup [V.str ("in" : Str),V.str ("door" : Str)]);have iq:upd H' pq (.tup [V.str ("in" : Str),V.str ("door" : Str)]) pq=some (.tup [V.str ("in" : Str),V.str ("door" : Str)]):=zC;generalize upd H' pq (.tup [V.str ("in" : Str),V.str ("door" : Str)])=H2 at sq iq ⊢;have hD2:DN P w TP le1 H2 pm (lE M'):=hD'.mono (fun b xs e=>sq _ _ e) (by obtain⟨φ,z⟩:=gj hD';rw[z];exact sq _ _ z);have Y9:=hM'.mono (aA.of sq);have st2:bH H H2 [pm] [pm]:=bH.trans st (bH.same _ sq);have ha2:=sq _ _ ha;have qI3:H2 pt=some (.tup (aB p)):=sq _ _ (kt _ _ Ny);refine (fL rfl (.inr (aM.of iq)) ⟨rfl,rfl,_,rfl,fu (fun z=>?_) (fun z=>?_)⟩)
  .refine aJ fun G_ g_=>?_
   obtain⟨y,hy,hk⟩:∃ y,jK es[i]=some y/\TP.inn 0 H2 (mL y) (.ref a):=by
    rcases hin z with ⟨k,ek⟩ | ⟨k,ek⟩
    .rw[ek]at ha2;exact⟨2*k,by rw[ek];rfl,qB3 ha2⟩
    .rw[ek]at ha2;exact⟨2*k+1,by rw[ek];rfl,UT ha2⟩
   ext b;have ylt:=lt _ (jT hi) y hy;have hv2:=DQ y M';refine⟨_,rfl,au pm _ ⟨rfl,hD2,_,rfl,_,rfl,fM a _ (mL y) ⟨rfl,hD2,hk,zI (by unfold lE;rw[bh];have:=Y9.len;lia),fun _ hv'=>?_,fun hn o dn=>?_⟩⟩⟩
   .refine au M' _ ⟨rfl,hD2,?_,st2⟩;rw[et];refine Y9.nothing fun x hx=>?_;rw[hy]at hx
    cases hx
    rw[<-hv2,hv'];rfl
   .rw[hv2]at hn
    have hne:∀ b xs,H2 b=some (.tup xs)->upd H2 pm o b=some (.tup xs):=fun b xs e=>by
     obtain⟨φ,z⟩:=gj hD2;rw[zQ (cJ e z nofun)];exact e
    refine au (M'++[(y,.ref pt)]) _ ⟨rfl,?_,?_,?_⟩
    .unfold lE;rw[iz];exact dn
    .rw[et];exact (Y9.mono hne).one hy ylt hn ⟨pt,rfl,hne _ _ qI3⟩
    .exact⟨fun b hb=>.inl hb,fun b o' e nb=>by
      rw[zQ (fun z=>nb (by rw[z];simp))]
      exact st2.rest b o' e nb⟩
  .refine au M' _ ⟨rfl,hD2,?_,st2⟩;rw[et]
   exact Y9.nothing fun x hx=>by rw[hnot z]at hx;cases hx
 .rintro σ' H' aQ;ext a;obtain⟨M',o,rfl,hD',hM',st⟩:=aQ;ext b;rw[lA,gL]at hM';exact q M' H' hD' hM' st
def fc(fs:Fs)(ne k:Nat):ay Nat:=fs[k/ne]?.elim [] (·.2)++[k%ne]
noncomputable def oG(ne:Nat)(fs:Fs):Nat->ay (ay En×Nat)->Iz
 | _,[]=>[]
 | k,m::ms=>(m.1,fc fs ne k)::oG ne fs (k+1) ms
def du(bf:ay En)(ne:Nat)(fs:Fs)(ms:ay (ay En×Nat)):Iz:=(bf,[])::oG ne fs 0 ms
theorem qp(ne:Nat)(fs:Fs)(m:ay En×Nat):∀(k:Nat)(ms:ay (ay En×Nat)),oG ne fs k (ms++[m])=oG ne fs k ms++[(m.1,fc fs ne (k+ms.length))]
 | _,[]=>rfl
 | k,x::ms=>by
  show (x.1,fc fs ne k)::oG ne fs (k+1) (ms++[m])=_;rw[qp ne fs m (k+1) ms,cY,show k+1+ms.length=k+(ms.length+1) by lia];rfl
theorem Bh:∀(ms:ay (ay En×Nat))(k:Nat),(∀ j,k<=j->j<k+ms.length->j/ne<fs.length)->oG ne (fs++more) k ms=oG ne fs k ms
 | [],_,_=>rfl
 | x::ms,k,h=>by
  show (x.1,fc (fs++more) ne k)::oG ne (fs++more) (k+1) ms=(x.1,fc fs ne k)::oG ne fs (k+1) ms;rw[Bh ms (k+1) fun j _ _=>h j (by lia) (by rw[cY];lia)];unfold fc;rw[vY (h k (bN _) (by rw[cY];lia))]
theorem ph(h:aX c ne s0 i fs ms):∀ j,j<i->j/ne<fs.length:=by intro j hj;obtain⟨_,_,_,_,_,g2,_,g4⟩:=lL h j (by lia);obtain⟨x,hx⟩:=g4 hj;have:=(fO.mp hx).1;rw[g2,dj];lia
theorem PN(h:aX c ne s0 i fs ms)(h1:fs[i/ne]? = some (s,p)) :
  du bf ne (mV fs s' (p++[i%ne])) (ms++[(es,j)])=du bf ne fs ms++[(es,p++[i%ne])]:=by obtain⟨_,e,_⟩:=iQ fs s' (p++[i%ne]);have lm:=eF h;have hl:=(fO.mp h1).1;unfold du;rw[qp,iS,lm,e,Bh ms 0 fun k _ _=>ph h k (by lia)];unfold fc;rw[vY hl,h1];rfl
def cR(H:Hp)(v:V)(o:aE (ay Nat)):Prop:=match o with
 | none=>v = .non
 | some p=>qM H v p
theorem cR.mono(x:cR H v o)(k:aA H H'):cR H' v o:=by
 cases o with
 | none=>exact x
 | some p=>exact qM.mono x k
theorem jW.get(h:jW H M R)(x:Nat):cR H ((M.lookup x).getD .non) (aL R x):=by
 have z:=h.at_ x;revert z
 cases M.lookup x with
 | none=>
  cases aL R x with
  | none=>intro _;rfl
  | some p=>intro z;exact z.elim
 | some v=>
  cases aL R x with
  | none=>intro z;exact z.elim
  | some p=>intro z;exact z
inductive Jg(CT:Addr)(n:Nat)(vs:List V)(H:Hp)(Q:VK)(E:XK):Prop
 | mk (pc:Addr) (m:Nat) (c:jl) (bs:List (Int×Int)) (ne:Nat) (_:vs=[.ref pc,.int (m:Int)]) (_:vI.Vq H pc c bs ne) (_:vI.zj c bs) (_:3<=n) (_:1<=m) (_:m<=300) (_:ne<=8) (_:∀(bf:List En)(s0:S4),JH c bs bf s0->bf.length<=1000000->(∀(N:Nat)(fs:Fs)(ms:List (List En×Nat))(t pr pd:Addr)(rv dv:List V)(H':Hp),aX c ne s0 (N*ne) fs ms->fs.length=N->N<=m->ig c fs->H' t=some (.tup [.ref pr,.ref pd])->H' pr=some (.lst rv)->H' pd=some (.lst dv)->Al (cR H') rv ((List.range c.rs.length).map fun r=>aL (du bf ne fs ms) (2*r))->Al (cR H') dv ((List.range c.ds.length).map fun k=>aL (du bf ne fs ms) (2*k+1))->aG H H'->H pr=none->H pd=none->pr≠pd->Q (.ref t) H')/\(∀(i:Nat)(fs:Fs)(ms:List (List En×Nat)),aX c ne s0 i fs ms->fs.length=m+1->Wide CT [] H E (fs.map (·.2))))
theorem rZ(si:aG H Hi)(st:bH Hi H' fp fp)(nf:∀ b∈fp,H b=none):aG H H':=fun b o e=>st.rest b o (si b o e) fun z=>by
 rw[nf b z]at e
 cases e
theorem FD.note(x:FD P w C H p as ap an m fs)(st:bH H H' [pm] [pm])(hm:H pm=some (.ext φ))(ne:an≠pm):FD P w C H' p as ap an m fs:=by obtain⟨⟨dx,h1⟩,⟨sv,h2,h3⟩,⟨pv,h4,h5⟩,h6,h7⟩:=x;have r:∀ b o,H b=some o->b≠pm->H' b=some o:=fun b o e z=>st.rest b o e (by simpa using z);have k:aA H H':=fun b xs e=>r _ _ e (cJ e hm nofun);obtain⟨ψ,h8⟩:=gj h6;exact⟨⟨dx,r _ _ h1 (cJ h1 hm nofun)⟩,⟨sv,r _ _ h2 (cJ h2 hm nofun),h3.mono fun _ _ z=>z.mono k⟩,⟨pv,r _ _ h4 (cJ h4 hm nofun),h5.mono fun _ _ z=>z.mono k⟩,h6.mono (fun b xs e=>k _ _ e) (by rw[r _ _ h8 ne,h8]),h7⟩
theorem V5(x:FD P w C H p as ap an m fs)(st:bH H H' [as,ap,an] [as,ap,an])(ne:pm∉[as,ap,an])(d:DN P w TP le1 H pm (lE M)):DN P w TP le1 H' pm (lE M):=by obtain⟨φ,h⟩:=gj d;exact d.mono (fun b _ e=>x.keep st _ _ e) (by rw[h];exact st.rest _ _ h ne)
theorem qC(s:aG H H')(d:DN P w TP le1 H pm (lE M)):DN P w TP le1 H' pm (lE M):=by obtain⟨φ,h⟩:=gj d;exact d.mono (fun b _ e=>s _ _ e) (by rw[h];exact s _ _ h)
theorem Od{c:jl}{es:ay En}(h:∀ e∈es,Ax c e)(r40:c.rs.length<=40)(d60:c.ds.length<=63):∀ e∈es,∀ x,jK e=some x->x<400:=by
 intro e he x hx;have:=h e he
 cases e with
 | inn r=>
  cases hx
  have:r<c.rs.length:=this;lia
 | door k=>
  cases hx
  have:k<c.ds.length:=this;lia
 | _=>cases hx
theorem fQ:aH ["chart","most","finds","met","told","row","event","path","rooms","doors"] ["chart","most"] (aC uZ):=fJ
theorem XX{f gi g1 g2 g3 g4:av}{fd di d1 d2 d3 d4:af}(F:dC K "seen" "seen" uZ f fd)(cl:wN K C)(nS:bZ K C "stands")(nP:bZ K C "paths")(mR:Meth K C "row_of" g3)(MkF:Mk K C gi)
  (mY:aO P w K mg base aa m' gi di ["self","most"] (Ra P w C)) (mU:Binds K di ["self","most"] []) (Ef:mg "Finds" = some (.ref C))
  (uG:Dp P w K mg base aa (m'+1) g1 d1 ["chart"] (vq n) "begun")
  (uH:Dp P w K mg base aa (m'+1) g2 d2 ["chart","stand","event"] (vy n) "after")
  (Cz:aO P w K mg base (qK P w) (m'+1) g3 d3 ["self","stand","path"] (M9 P w C CT)) (Cq:Binds K d3 ["self","stand","path"] [])
  (Vo:Dp P w K mg base aa (m'+1) g4 d4 ["met","record","path"] (Ji P w) "note")
  (aP:mg "len" = none) (aW:mg "range" = none):aO P w K mg base (qK P w) (m'+2) f fd ["chart","most"] (Jg CT n):=by
 refine F.okX fQ ?_ ?_
 .rintro _ _ _ _⟨pc,m,c,bs,ne,rfl,_⟩;rfl
 ext d
 ext a;obtain⟨pc,m,c,bs,ne,rfl,hX,ok,n3,m1,_,Bs,q⟩:=h;ext b
 refine⟨_,(zE (zK (i:=2) fQ.nd rfl (bb rfl) (wD MkF mY hr rfl Ef mU .nil yE (zA (pv 1) zD)))
  (zE (zK (i:=3) fQ.nd rfl (Or.inr rfl) (N7 TP le1))
  (zE (zK (i:=4) fQ.nd rfl (bb rfl) (pC uG hr (zA (pv 0) zD)))
  (zE (yI (t8 (pv 2) cl mR Cz hr Cq .nil (Ss fun _ _ _ z=>z) (zA (yB zH (pv 4) zB (fun _ _=>rfl)) (zA (zW zD) zD))))
  (zE (yI (pC Vo hr (zA (pv 3) (zA (yB zH (pv 4) zB (fun _ _=>rfl)) (zA (zW zD) zD)))))
  (zE (zK (i:=5) fQ.nd rfl (bb rfl) zB)
  (zZ (S6 (Yw fun _ _ _ z=>z) (kY (Es rfl rfl) (zL n6 (pv 5) (zS zN rfl aP bU (zA (cG (pv 2) rfl) zD)) (zR _))
  (zZ (cC (Es rfl rfl) rfl (bM rfl aW (zA (zS zN rfl aP bU (zA (yB zH (pv 0) zB (fun _ _=>rfl)) zD)) zD)) (yJ (i:=6) fQ.nd rfl (bb rfl))
  (zE (zK (i:=7) fQ.nd rfl (bb rfl) (oK (yC (jh.or pU oN) (yB yU (cG (pv 2) rfl) (pv 5) (fun _ _=>rfl)) (zW (zA (pv 6) zD)))))
  (zE (zK (i:=4) fQ.nd rfl (bb rfl) (pC uH hr (zA (pv 0) (zA (yB yU (cG (pv 2) rfl) (pv 5) (fun _ _=>rfl)) (zA (pv 6) zD)))))
  (zE (yI (t8 (pv 2) cl mR Cz hr Cq .nil (qAA fun _ _ _ z=>z) (zA (yB zH (pv 4) zB (fun _ _=>rfl)) (zA (pv 7) zD))))
  (zG (yI (pC Vo hr (zA (pv 3) (zA (yB zH (pv 4) zB (fun _ _=>rfl)) (zA (pv 7) zD))))))))))
  (zG (Jy (i:=5) fQ.nd rfl (bb rfl) zB Km)))))
  (zE (lg (i:=8) (aj:=[(3,"met")]) rfl fQ.nd rfl (bb rfl) (show bK (aC uZ) ["chart","most","finds","met","told","row","event","path","rooms","doors"] _ _ _ from vm)
   (bM rfl aW (zA (zS zN rfl aP bU (zA (yB zH (pv 0) zB (fun _ _=>rfl)) zD)) zD)) (fun _ _ _ _ _ _=>bc) (fun _ _ _ _ _ _=>(show PE _ _ (DW P w TP le1 (Ab 1) (WM (qO (tC (.str "in")) (qO (Ab 0) RB)))) from Gw hr.units TP le1 (pv 1) (zW (zA zP (zA (pv 0) zD))) ⟨rfl,rfl,rfl,rfl⟩)))
  (zE (lg (i:=9) (aj:=[(3,"met")]) rfl fQ.nd rfl (bb rfl) (show bK (aC uZ) ["chart","most","finds","met","told","row","event","path","rooms","doors"] _ _ _ from vm)
   (bM rfl aW (zA (zS zN rfl aP bU (zA (yB zH (pv 0) zB (fun _ _=>rfl)) zD)) zD)) (fun _ _ _ _ _ _=>bc) (fun _ _ _ _ _ _=>(show PE _ _ (DW P w TP le1 (Ab 1) (WM (qO (tC (.str "door")) (qO (Ab 0) RB)))) from Gw hr.units TP le1 (pv 1) (zW (zA zP (zA (pv 0) zD))) ⟨rfl,rfl,rfl,rfl⟩)))
  (zG (zO (zW (zA (pv 8) (zA (pv 9) zD)))))))))))))),?_⟩
 ext f;ext a;obtain⟨_,_,_,_,_,_,_,_,h1,_,_,h4,h5,h6,h7,_,h9,h10⟩:=id hX;ext b;have qAS:=h7.length;have qAT:=h10.length;have r40:=ok.ok.r40;have d60:=ok.ok.d63;refine⟨_,rfl,fun x dx nx ndx _=>⟨x,dx,(m:Int),rfl,zC,fun as ap an H1 F1 Fq Kc nan keep=>⟨rfl,?_⟩⟩⟩;ext c
 have s1:aG H H1:=fun b o e=>by
  have z1:b≠x:=zM e nx;have z2:b≠dx:=zM e ndx;exact keep b o (by rw[zQ z1,zQ z2];exact e) z1
 have un:∀ b,upd (upd H dx (.own x)) x (.ins C dx []) b=none->H b=none:=fun b e=>by
  cases hb:H b with
  | none=>rfl
  | some o=>
   rw[zQ (zM hb nx),zQ (zM hb ndx),hb]at e
   cases e
 have nf:∀ b∈[as,ap,an],H b=none:=fun b z=>by
  rcases bL.mp z with z | z
  .rw[z];exact un as Fq
  .rcases bL.mp z with z | z
   .rw[z];exact un ap Kc
   .rw[bJ.mp z];exact un an nan
 clear keep un Fq Kc nan;intro pm H1b hpm qJ6 dn1;ext c
 have s1b:aG H1 H1b:=fun b o e=>by rw[qJ6,zQ (zM e hpm)];exact e
 have pmf:pm∉[as,ap,an]:=fun z=>F1.there _ z hpm;have npm:H pm=none:=s1.free hpm
 have nf1:∀ b∈[pm],H b=none:=fun b z=>by rw[bJ.mp z];exact npm
 have qDH:an≠pm:=fun z=>pmf (by rw[<-z];simp);have s01:=s1.trans s1b;have F1b:=F1.mono s1b;refine⟨_,rfl,pc,c,bs,ne,rfl,hX.mono (aA.of s01),ok,n3,fun t ps pw wv bf s0 H2 BR j0 so0 s2 ht hS0 Aq Xr hA Xv=>?_⟩;ext c;ext a;obtain⟨qa,qb⟩:=q bf s0 BR Xv;have s02:=s01.trans s2;have F2:=F1b.mono s2;obtain⟨⟨dx',hx2⟩,_⟩:=id F2;ext b;refine⟨_,rfl,fM x dx' _ ⟨rfl,hx2,O6 _ _ _ _,_,rfl,aF (aM.of ht) rfl ⟨bg _,fun pe hpe=>?_⟩⟩⟩;have s3:=zF hpe (.tup []);have i3:upd H2 pe (.tup []) pe=some (.tup (aB [])):=zC;generalize upd H2 pe (.tup [])=H3 at s3 i3 ⊢;have Wl:=s02.trans s3;have F3:=F2.mono s3;have dn1:DN P w TP le1 H1b pm (lE []):=dn1;have dn3:=qC (s2.trans s3) dn1;refine⟨x,ps,pe,as,ap,an,(m:Int),[],nl s0,[],rfl,F3,(gH.tail hS0 []).mono (aA.of s3),i3,bg _,(fun i z=>by cases z),fun _ _ H4 F4 zu=>?_,fun _ z=>dP z (by show ¬ ((m:Int)<=((0:Nat):Int));lia)⟩;ext c;have JN:=rZ Wl zu nf;have k34:=F3.keep zu;have dn4:=V5 F3 zu pmf dn3;have ht4:=k34 _ _ (s3 _ _ ht);have Ua:H4 pw=some (.lst wv):=zu.rest _ _ (s3 _ _ Aq) fun z=>F1b.there _ z Xr;have hA4:Al (gJ H4) wv bf:=hA.mono fun _ _ z=>(z.mono (aA.of s3)).mono k34;refine⟨_,rfl,_,rfl,aF (aM.of ht4) rfl ⟨bg _,fun pe2 qIE=>?_⟩⟩;have s5:=zF qIE (.tup []);have i5:upd H4 pe2 (.tup []) pe2=some (.tup (aB [])):=zC;generalize upd H4 pe2 (.tup [])=H5 at s5 i5 ⊢;refine⟨pm,pw,pe2,[],[],wv,bf,[],rfl,qC s5 dn4,s5 _ _ Ua,hA4.mono fun _ _ z=>z.mono (aA.of s5),Xv,Od (VM ok.ok BR) r40 d60,i5,⟨List.nodup_nil,(fun _ z=>by cases z),fun _=>dE⟩,fun M6 _ dn6 mt6 JL=>?_⟩;ext c;obtain⟨φ5,qBA⟩:=gj (qC s5 dn4);ext g;have F6:=(F4.mono s5).note JL qBA qDH;have s06:=rZ (JN.trans s5) JL nf1;have hC5:∀ {Hi:Hp},aG H Hi->vJ Hi pc c:=fun z=>(hX.ch ok).mono (aA.of z);have alc:All c (Jw c) n:=⟨ok.ok,wide ok.ok,fun d hd=>⟨(ok.g d hd).1,bq (ok.g d hd).2 n3⟩⟩
 have Vr:c.tn<=20:=by have:=ok.t4;lia
 refine⟨fun σ' Hi => ∃(N:Nat)(fs:Fs)(ms:ay (ay En×Nat))(M:Mt)(o4 o5 o6 o7:aE V),σ'=[some (.ref pc),some (.int (m:Int)),some (.ref x),some (.ref pm),o4,o5,o6,o7,none,none]/\aX c ne s0 (N*ne) fs ms/\fs.length=N/\N<=m/\ig c fs/\DN P w TP le1 Hi pm (lE M)/\jW Hi M (du bf ne fs ms)/\aG H Hi,?_,?_⟩
 .refine⟨fun μ σ' Hi => ∃(r:Nat)(fs:Fs)(ms:ay (ay En×Nat))(M:Mt)(o4 o6 o7:aE V),μ=m-r/\σ'=[some (.ref pc),some (.int (m:Int)),some (.ref x),some (.ref pm),o4,some (.int (r:Int)),o6,o7,none,none]/\aX c ne s0 (r*ne) fs ms/\r<=fs.length/\fs.length<=m/\ig c fs/\FD P w C Hi x as ap an (m:Int) fs/\DN P w TP le1 Hi pm (lE M)/\jW Hi M (du bf ne fs ms)/\aG H Hi,
   ⟨_,uM 0 [(nl s0,[])] [] M6 _ none ⟨none,rfl,rfl,by rw[iX];exact .nil,bg _,m1,fun y hy=>by rw[bJ.mp hy];exact⟨Dj so0,j0⟩,F6,dn6,mt6,s06⟩⟩,?_⟩
  rintro μ σ' Hi aQ;ext a;obtain⟨r,fs,ms,M,o4,o6,o7,rfl,rfl,FR,_,flm,Qf,Fi,dni,mti,si⟩:=aQ;obtain⟨⟨dxi,hxi⟩,⟨_,hsv,qB5⟩,_⟩:=id Fi;ext b;have lsv:=qB5.length;rw[bh]at lsv;refine⟨_,rfl,_,rfl,fM x C dxi (au _ _ ⟨rfl,hxi,cl,nS,vW _ _ _ _,fL rfl (.inl (aV.of hsv)) (bB ⟨_,rfl,?_⟩)⟩)⟩;rw[lsv];refine fu (fun z=>?_) (fun z=>?_)
  .have z:=ba z
   have rlt:r<fs.length:=by lia
   refine⟨fun σ2 H2 => ∃(dq:Fs)(km:ay (ay En×Nat))(M2:Mt)(o4 o6 o7:aE V),σ2=[some (.ref pc),some (.int (m:Int)),some (.ref x),some (.ref pm),o4,some (.int ((r+1:Nat):Int)),o6,o7,none,none]/\aX c ne s0 ((r+1)*ne) dq km/\r+1<=dq.length/\dq.length<=m/\ig c dq/\FD P w C H2 x as ap an (m:Int) dq/\DN P w TP le1 H2 pm (lE M2)/\jW H2 M2 (du bf ne dq km)/\aG H H2,?_,?_⟩
   .rintro σ2 H2 aQ;ext a;obtain⟨dq,km,M2,p4,p6,p7,y1,y2,y3,y4,y5⟩:=aQ;ext b;exact⟨m-(r+1),by lia,uM (r+1) dq km M2 p4 p6 ⟨p7,rfl,y1,y2,y3,y4,y5⟩⟩
   ext a;obtain⟨⟨sr,eV⟩,W2⟩:∃ y,fs[r]? = some y:=⟨_,gM rlt⟩;ext b;have Gz:=Qf _ (zp W2);have l0r:=Er FR _ (zp W2);have lpr:=CV FR _ (zp W2);simp only at lpr Gz l0r;have rne:r*ne<=2400:=bq (Nat.mul_le_mul (hU (show r<300 by lia)) Bs) (by decide);refine⟨fun σ2 H2 => ∃(dq:Fs)(km:ay (ay En×Nat))(M2:Mt)(o4 o6 o7:aE V),σ2=[some (.ref pc),some (.int (m:Int)),some (.ref x),some (.ref pm),o4,some (.int (r:Int)),o6,o7,none,none]/\aX c ne s0 ((r+1)*ne) dq km/\r+1<=dq.length/\dq.length<=m/\ig c dq/\FD P w C H2 x as ap an (m:Int) dq/\DN P w TP le1 H2 pm (lE M2)/\jW H2 M2 (du bf ne dq km)/\aG H H2,?_,?_⟩
   .refine⟨_,rfl,aF (aM.of (si _ _ h1)) rfl (fL rfl (.inr (aM.of (si _ _ h4))) ⟨_,rfl,?_⟩)⟩;rw[h5];refine⟨by lia,by lia,?_⟩;refine bu (lo:=0) (n:=ne) (fun i σ2 H'=>∃(dq more:Fs)(km:ay (ay En×Nat))(M2:Mt)(o4 o6 o7:aE V),σ2=[some (.ref pc),some (.int (m:Int)),some (.ref x),some (.ref pm),o4,some (.int (r:Int)),o6,o7,none,none]/\aX c ne s0 (r*ne+i) dq km/\dq=fs++more/\dq.length<=m/\ig c dq/\FD P w C H' x as ap an (m:Int) dq/\DN P w TP le1 H' pm (lE M2)/\jW H' M2 (du bf ne dq km)/\aG H H')
     (uM fs [] ms M _ _ ⟨_,rfl,FR,by simp,flm,Qf,Fi,dni,mti,si⟩) ?_ ?_
    .rintro i σ2 H' hi aQ;ext f;ext a;obtain⟨dq,more,km,M2,p4,p6,p7,rfl,Qj,e1,YH,FP,F2,dn2,mt2,sH⟩:=aQ
     have yf:dq[r]? = some (sr,eV):=by rw[e1,vY rlt];exact W2
     have hdiv:(r*ne+i)/ne=r:=by
      rw[iF,iA (by lia),hJ hi,gT]
     have hmod:(r*ne+i)%ne=i:=by
      rw[iF,iE,ip hi]
     obtain⟨⟨dx3,hx3⟩,⟨_,qHT,qHS⟩,⟨_,qI0,Xz⟩,_⟩:=id F2;obtain⟨_,hv0,q0,rfl,hq0⟩:=qHS.get (k:=r) (r:=sr) (by rw[dD,yf];rfl);obtain⟨v1,hv1,q1,rfl,hq1⟩:=Xz.get (k:=r) (r:=eV) (by rw[dD,yf];rfl);ext b;refine⟨fun v H2 => ∃ q:av,v = .ref q/\aG H' H2/\H2 q=some (.tup (aB (eV++[i]))),?_,?_⟩
     .refine⟨_,rfl,fM x C dx3 (au _ _ ⟨rfl,hx3,cl,nP,O7 _ _ _ _,_,rfl,az (aV.of qI0) (yQ hv1) ⟨_,rfl,(zI (by show 1<=1000;decide)),fun pe hpe=>?_⟩⟩)⟩;rw[c9];have s4:=zF hpe (.tup [V.int (i:Int)]);have i4:upd H' pe (.tup [V.int (i:Int)]) pe=some (.tup [V.int (i:Int)]):=zC;generalize upd H' pe (.tup [V.int (i:Int)])=H4 at s4 i4 ⊢;have W3:=s4 _ _ hq1
      cases eV with
      | nil=>exact .inr (fM q1 pe _ ⟨rfl,rfl,aM.of W3,aM.of i4,pe,rfl,s4,i4⟩)
      | cons y eV=>
       refine .inl (jV q1 pe _ _ ⟨rfl,rfl,aM.of W3,aM.of i4,(by intro z;cases z),?_,(fun z=>by cases z),fun _ p5 Nz=>?_⟩)
       .rw[sizeLine_eq,zU];simp only[List.length_cons,List.length_nil]at lpr ⊢;lia
       .exact⟨p5,rfl,s4.trans (zF Nz _),by rw[zC];unfold aB;rw[iz];rfl⟩
     rintro _ H3 aQ;ext c;ext a;obtain⟨pq,rfl,s3,hpq⟩:=aQ;ext b;refine⟨_,rfl,_,rfl,fM x C dx3 (au _ _ ⟨rfl,s3 _ _ hx3,cl,nS,vW _ _ _ _,_,rfl,az (aV.of (s3 _ _ qHT)) (yQ hv0) ⟨_,rfl,pc,q0,c,(i:Int),sr,(by rw[c9];rfl),hC5 (sH.trans s3),alc,hq0.mono (aA.of s3),Gz.1,Gz.2,l0r,Vr,fun t ps' pw wv es s' H4 AR j' so' s4 ht hS' Aq Xr hA lw=>?_⟩⟩)⟩;ext c;have Vt:=s3.trans s4;have F4:=F2.mono Vt;have dn4:=qC Vt dn2;have mt4:=mt2.mono (aA.of Vt);have qE8:=s4 _ _ hpq
     have leS:es.length<=1000000:=by rw[<-hA.length];exact lw
     have clt:=Od (Va ok.ok AR) r40 d60;ext a;obtain⟨⟨dx4,hx4⟩,_⟩:=id F4;ext b;have W9:=aX.cell Qj (by lia) (by rw[hdiv];exact yf) (by rw[hmod];exact AR);have RC:=PN (bf:=bf) (es:=es) (s':=nl s') (j:=vA dq (nl s')) Qj (by rw[hdiv];exact yf);rw[hmod]at W9 RC;have fin:∀(H5:Hp),FD P w C H5 x as ap an (m:Int) (mV dq (nl s') (eV++[i]))->DN P w TP le1 H5 pm (lE M2)->aA H4 H5->H5 pw=some (.lst wv)->aG H H5->(mV dq (nl s') (eV++[i])).length<=m →
       ∃ v,[some (V.ref pc),some (.int (m:Int)),some (.ref x),some (.ref pm),some (.ref t),some (.int (r:Int)),some (.int (0+(i:Int))),some (.ref pq),none,none][3]? = some (some v)/\∃ v1,[some (V.ref pc),some (.int (m:Int)),some (.ref x),some (.ref pm),some (.ref t),some (.int (r:Int)),some (.int (0+(i:Int))),some (.ref pq),none,none][7]? = some (some v1)/\v = .ref pm/\v1 = .ref pq/\Ji P w [.ref pm,.ref pw,.ref pq] H5 (fun _ H7 => ∃(dq more:Fs)(km:ay (ay En×Nat))(M2:Mt)(o4 o6 o7:aE V),[some (V.ref pc),some (.int (m:Int)),some (.ref x),some (.ref pm),some (.ref t),some (.int (r:Int)),some (.int (0+(i:Int))),some (.ref pq),none,none]=[some (.ref pc),some (.int (m:Int)),some (.ref x),some (.ref pm),o4,some (.int (r:Int)),o6,o7,none,none]/\aX c ne s0 (r*ne+(i+1)) dq km/\dq=fs++more/\dq.length<=m/\ig c dq/\FD P w C H7 x as ap an (m:Int) dq/\DN P w TP le1 H7 pm (lE M2)/\jW H7 M2 (du bf ne dq km)/\aG H H7) E0:=by
      intro H5 F5 dn5 k5 qHZ s5 fl5;refine⟨_,rfl,_,rfl,rfl,rfl,pm,pw,pq,M2,du bf ne dq km,wv,es,eV++[i],rfl,dn5,qHZ,hA.mono fun _ _ z=>z.mono k5,leS,clt,k5 _ _ qE8,mt4.mono k5,fun M7 H7 dn7 mt7 st7=>?_⟩;ext a;obtain⟨φ5,qBA⟩:=gj dn5;obtain⟨m3,em3,_⟩:=iQ dq (nl s') (eV++[i]);ext b;exact uM _ (more++m3) _ M7 _ _ ⟨_,rfl,W9,by rw[em3,e1,bS],fl5,FP.add so' j',F5.note st7 qBA qDH,dn7,by rw[RC];exact mt7,rZ s5 st7 nf1⟩
     refine⟨_,rfl,fM x dx4 _ ⟨rfl,hx4,O6 _ _ _ _,_,rfl,aF (aM.of ht) rfl ⟨_,rfl,x,ps',pq,as,ap,an,(m:Int),dq,nl s',eV++[i],rfl,F4,gH.tail hS' [],qE8,by lia,fun j hj=>?_,fun hn _ H5 F5 rJ=>?_,fun hn _ dx2 pl pv H5 rJ z1 z2 z3 z4 z5=>?_⟩⟩⟩;ext g
     .ext a;obtain⟨ea,_⟩:=bz (p:=eV++[i]) hj;obtain⟨_,_,_,_,_,_,gg⟩:=fin H4 (by rw[ea];exact F4) dn4 (fun _ _ z=>z) Aq (sH.trans Vt) (by rw[ea];exact YH);ext b;exact⟨_,rfl,_,rfl,aF (aM.of ht) rfl ⟨_,rfl,gg⟩⟩
     ext g
     .ext a;obtain⟨ea,_⟩:=bO (p:=eV++[i]) hn;have pwf:pw∉[as,ap,an]:=fun z=>(F2.mono s3).there _ z Xr;have k45:=F4.keep rJ;obtain⟨_,_,_,_,_,_,gg⟩:=fin H5 (by rw[ea];exact F5) (V5 F4 rJ pmf dn4) k45 (rJ.rest _ _ Aq pwf) (rZ (sH.trans Vt) rJ nf) (by rw[ea,dj,gK];lia);ext b;exact⟨_,rfl,_,rfl,aF (aM.of (k45 _ _ ht)) rfl ⟨_,rfl,gg⟩⟩
     .rw[(bO (p:=eV++[i]) hn).1]at W9;have sH4:=sH.trans Vt;exact qb _ _ _ W9 (by rw[dj,gK];lia) dx2 pl pv H5 ⟨(fun b hb=>by cases hb),fun b o e _=>rZ sH4 rJ nf b o e⟩ (sH4.free z1) (sH4.free z2) z3 z4 z5
    .rintro σ2 H' aQ;ext a;obtain⟨dq,more,km,M2,p4,p6,p7,rfl,Qj,e1,YH,FP,F2,dn2,mt2,sH⟩:=aQ;ext b;exact uM dq km M2 p4 p6 p7 ⟨rfl,by rw[gS,iO];exact Qj,by rw[e1,dj];lia,YH,FP,F2,dn2,mt2,sH⟩
   .rintro _ H' aQ;ext a;obtain⟨dq,km,M2,p4,p6,p7,rfl,Qj,e1,YH,FP,F2,dn2,mt2,sH⟩:=aQ;ext b;refine⟨_,rfl,bB ?_⟩;exact uM dq km M2 p4 p6 p7 ⟨rfl,Qj,e1,YH,FP,F2,dn2,mt2,sH⟩
  .have z:=bE z;exact uM r fs ms M o4 _ (au o6 o7 ⟨rfl,FR,by lia,by lia,Qf,dni,mti,si⟩)
 rintro _ Hi aQ;ext f;ext a;obtain⟨N,fs,ms,M,o4,o5,o6,o7,rfl,FR,fl,Nm,Qf,dni,mti,si⟩:=aQ;ext b;have comp:∀(Hj:Hp)(cd:Nat->Nat)(k:Nat)(wd:Str)(cs:St)(Z:ay V->Hp->Prop),cs=[some (.ref pm)]->k<=100->(∀ j,mL (cd j)=[.inr wd,.inl (j:Int)])->aG Hi Hj->(∀(acc:ay V)(H':Hp),aG Hj H'->Al (cR H') acc ((List.range k).map fun j=>aL (du bf ne fs ms) (cd j))->Z acc H') →
   jm (Ye 0 k) cs qC5 (DW P w TP le1 (Ab 1) (WM (qO (tC (.str wd)) (qO (Ab 0) RB)))) Hj Z:=by
  intro Hj cd k wd cs Z ec _ hcd sj hZ;subst ec;refine gq (fun i acc H'=>aG Hj H'/\Al (cR H') acc ((List.range i).map fun j=>aL (du bf ne fs ms) (cd j))) ⟨aG.refl _,.nil⟩ ?_ ?_
  .rintro i acc H' hi ⟨sH,hA⟩;have la:=hA.length;rw[bh,cb]at la;have dn':=qC (sj.trans sH) dni;refine⟨_,rfl,au pm _ ⟨rfl,dn',_,rfl,zI (by show 2<=1000;decide),fun pq hpq=>?_⟩⟩;rw[c9];have s4:=zF hpq (.tup [V.str wd,V.int (i:Int)]);have i4:upd H' pq (.tup [V.str wd,V.int (i:Int)]) pq=some (.tup [V.str wd,V.int (i:Int)]):=zC;generalize upd H' pq (.tup [V.str wd,V.int (i:Int)])=H4 at s4 i4 ⊢;refine fM pq _ (mL (cd i)) ⟨rfl,qC s4 dn',au pq _ ⟨rfl,i4,by rw[hcd];exact .cons rfl (.cons rfl .nil)⟩,zI (by lia),sH.trans s4,?_⟩;rw[gu,iz,DQ];exact (hA.mono fun _ _ z=>z.mono (aA.of s4)).snoc ((mti.mono (aA.of (sj.trans (sH.trans s4)))).get _)
  .rintro acc H' ⟨sH,hA⟩;exact hZ acc H' sH hA
 refine⟨_,rfl,aF (aM.of (si _ _ h1)) rfl (fL rfl (.inr (aM.of (si _ _ h6))) ⟨_,rfl,?_⟩)⟩;rw[qAS];refine⟨by lia,by lia,comp Hi (fun j=>2*j) c.rs.length "in" _ _ rfl (by lia) Nq (aG.refl _) fun Vb Hr sr hr' pr hpr=>?_⟩;ext c;have s7:=zF hpr (.lst Vb);have i7:upd Hr pr (.lst Vb) pr=some (.lst Vb):=zC;generalize upd Hr pr (.lst Vb)=H7 at s7 i7 ⊢;have si7:=sr.trans s7;refine⟨_,rfl,aF (aM.of ((si.trans si7) _ _ h1)) rfl (fL rfl (.inr (aM.of ((si.trans si7) _ _ h9))) ⟨_,rfl,?_⟩)⟩;rw[qAT];refine⟨by lia,by lia,comp H7 (fun j=>2*j+1) c.ds.length "door" _ _ rfl (by lia) CK si7 fun Vc Hd sd hd' pd hpd=>?_⟩;ext g;have s8:=zF hpd (.lst Vc);have i8:upd Hd pd (.lst Vc) pd=some (.lst Vc):=zC;generalize upd Hd pd (.lst Vc)=H8 at s8 i8 ⊢;have s78:=sd.trans s8;refine⟨_,rfl,_,rfl,zI (by show 2<=1000;decide),fun tr htr=>?_⟩;have s9:=zF htr (.tup [V.ref pr,V.ref pd]);have i78:=s78 _ _ i7
 have hne:pr≠pd:=fun z=>by rw[<-z,sd _ _ i7]at hpd;cases hpd
 exact qa N fs ms tr pr pd Vb Vc _ FR fl Nm Qf zC (s9 _ _ i78) (s9 _ _ i8) (hr'.mono fun _ _ z=>z.mono (aA.of (s7.trans (s78.trans s9)))) (hd'.mono fun _ _ z=>z.mono (aA.of (s8.trans s9))) (si.trans (si7.trans (s78.trans s9))) ((si.trans sr).free hpr) ((si.trans (si7.trans sd)).free hpd) hne
theorem PJ(h:rowOf fs s=some j):rowOf (fs++more) s=some j:=by unfold rowOf at h ⊢;rw[List.findIdx?_append,h];rfl
theorem Be(fs:Fs)(s:S4)(p:ay Nat):rowOf (mV fs s p) s=some (vA fs s):=by
 cases h:rowOf fs s with
 | some i=>rw[(bz h).1,(bz (p:=p) h).2];exact h
 | none=>
  rw[(bO h).1,(bO (p:=p) h).2];unfold rowOf at h ⊢;rw[List.findIdx?_append,h];simp
theorem v5(h:aX c ne s0 i fs ms):∀ k,k<i->∃ s p es s' j,fs[k/ne]? = some (s,p)/\JK c ((k%ne:Nat):Int) s es s'/\ms[k]? = some (es,j)/\rowOf fs s'=some j:=by
 induction h with
 | nil=>intro k hk;lia
 | @cell i fs ms s s' p es h h0 h1 h2 ih=>
  intro k hk;obtain⟨_,em,_⟩:=iQ fs (nl s') (p++[i%ne]);have lm:=eF h
  by_cases e:k=i
  .subst e;refine⟨s,p,es,s',_,?_,h2,?_,Be fs (nl s') _⟩
   .rw[em,vY (fO.mp h1).1];exact h1
   .rw[List.getElem?_append_right (by lia),lm];simp
  .obtain⟨a,b,d,f,j,g1,g2,g3,g4⟩:=ih k (by lia);refine⟨a,b,d,f,j,?_,g2,?_,?_⟩
   .rw[em,vY (fO.mp g1).1];exact g1
   .rw[vY (by lia)];exact g3
   .rw[em];exact PJ g4
noncomputable def ju(ne:Nat)(ms:ay (ay En×Nat)):Nat->ay En->ay Nat->aE (Nat×ay En)
 | pl,es,[]=>some (pl,es)
 | pl,_,e::p=>if e<ne then match ms[pl*ne+e]? with
  | some (es',i)=>ju ne ms i es' p
  | none=>none else none
theorem uP(h:ju ne ms pl es (e::p)=some y):e<ne/\∃ es' i,ms[pl*ne+e]? = some (es',i)/\ju ne ms i es' p=some y:=by
 unfold ju at h
 by_cases z:e<ne
 .rw[cE z]at h
  cases hm:ms[pl*ne+e]? with
  | none=>rw[hm]at h;cases h
  | some w=>rw[hm]at h;exact⟨z,w.1,w.2,rfl,h⟩
 .rw[cy z]at h;cases h
theorem DP(h0:e<ne)(h1:ms[pl*ne+e]? = some (es',i))(h2:ju ne ms i es' p=some y):ju ne ms pl es (e::p)=some y:=by unfold ju;rw[cE h0,h1];exact h2
theorem rP:∀ p pl es y,ju ne ms pl es p=some y->ju ne (ms++more) pl es p=some y
 | [],_,_,_,h=>h
 | e::p,pl,es,y,h=>by
  obtain⟨z,_,i,hm,hw⟩:=uP h;exact DP z (by rw[vY (fO.mp hm).1];exact hm) (rP p _ _ y hw)
theorem Ay(e:Nat)(z:e<ne):∀ p pl es q es1 es2 j,ju ne ms pl es p=some (q,es1)->ms[q*ne+e]? = some (es2,j)->ju ne ms pl es (p++[e])=some (j,es2)
 | [],pl,es,q,es1,es2,j,h,hm=>by
  cases h
  exact DP z hm rfl
 | f::p,pl,es,q,es1,es2,j,h,hm=>by
  obtain⟨y,_,i,hk,hw⟩:=uP h;exact DP y hk (Ay e z p _ _ q es1 es2 j hw hm)
theorem CQ(h:aX c ne s0 i fs ms)(hi:0<i):0<ne:=by
 cases h with
 | nil=>lia
 | cell _ h0 _ _=>exact h0
theorem Ew(i ne:Nat):i/ne*ne+i%ne=i:=by rw[iF];exact gX i ne
theorem QL(bf:ay En)(h:aX c ne s0 i fs ms):∀ r s p,fs[r]? = some (s,p)->∃ es,ju ne ms 0 bf p=some (r,es):=by
 induction h with
 | nil=>
  intro r s p hr
  cases r with
  | zero=>
   cases hr
   exact⟨bf,rfl⟩
  | succ r=>cases hr
 | @cell i fs ms s s' p es h h0 h1 h2 ih=>
  intro r t q hr;have lm:=eF h
  cases hrow:rowOf fs (nl s') with
  | some j=>
   rw[(bz hrow).1]at hr;obtain⟨es',w⟩:=ih r t q hr;exact⟨es',rP _ _ _ _ w⟩
  | none=>
   rw[(bO hrow).1]at hr
   by_cases k:r<fs.length
   .rw[vY k]at hr;obtain⟨es',w⟩:=ih r t q hr;exact⟨es',rP _ _ _ _ w⟩
   .have hl:=(fO.mp hr).1;rw[dj,gK]at hl
    obtain rfl:r=fs.length:=by lia
    rw[R0 (bN _),iP]at hr
    cases hr
    obtain⟨es',w⟩:=ih _ _ _ h1;refine⟨es,Ay (i%ne) (ix _ h0) p 0 bf (i/ne) es' es _ (rP _ _ _ _ w) ?_⟩;rw[Ew,R0 (by lia),lm,iP,(bO (p:=p++[i%ne]) hrow).2];rfl
theorem HR(h:aX c ne s0 (N*ne) fs ms)(e:fs.length=N)(l:N<=m)(h':aX c ne s0 i fs' xn)(e':fs'.length=m+1):False:=by have hi:=yp h e h';obtain⟨_,_,_,_,g1,g2,_,_⟩:=lL h i hi;obtain⟨rfl,rfl⟩:=oh h' g1;have:=congrArg List.length g2;rw[dj]at this;lia
theorem Ro(h:aX c ne s0 (N*ne) fs ms)(e:fs.length=N)(h':aX c ne s0 (N'*ne) fs' xn)(e':fs'.length=N'):N=N'/\fs=fs'/\ms=xn:=by
 have a:=yp h e h';have b:=yp h' e' h
 have z:N*ne=N'*ne:=by lia
 obtain⟨rfl,rfl⟩:=oh (z▸h) h';exact⟨by lia,rfl,rfl⟩
end Av
namespace Wy
open PySem L2 qH rF
inductive Al{α:Type}(R:V->α->Prop):List V->List α->Prop where
 | nil:Al R [] []
 | cons {v:V} {r:α} {vs:List V} {rs:List α}:R v r->Al R vs rs->Al R (v::vs) (r::rs)
theorem Al.mono{α:Type}{R R':V->α->Prop}{vs:ay V}{rs:ay α}(x:Al R vs rs)(k:∀ v r,R v r->R' v r):Al R' vs rs:=by
 induction x with
 | nil=>exact .nil
 | cons h _ ih=>exact .cons (k _ _ h) ih
theorem Al.length{α:Type}{R:V->α->Prop}{vs:ay V}{rs:ay α}(x:Al R vs rs):vs.length=rs.length:=by
 induction x with
 | nil=>rfl
 | cons _ _ ih=>rw[cY,cY,ih]
theorem Al.snoc{α:Type}{R:V->α->Prop}{vs:ay V}{rs:ay α}{v:V}{r:α}(x:Al R vs rs)(y:R v r):Al R (vs++[v]) (rs++[r]):=by
 induction x with
 | nil=>exact .cons y .nil
 | cons h _ ih=>exact .cons h ih
theorem Al.get{α:Type}{R:V->α->Prop}{vs:ay V}{rs:ay α}(x:Al R vs rs):∀ {k:Nat} {r:α},rs[k]? = some r->∃ v,vs[k]? = some v/\R v r:=by
 induction x with
 | nil=>intro k r h;simp at h
 | cons h _ ih=>
  intro k r e
  cases k with
  | zero=>
   simp at e;subst e;exact⟨_,rfl,h⟩
  | succ k=>exact ih (by simpa using e)
def vC(H:Hp)(v:V)(g:Nat):Prop:=∃(a:av)(w:V),v = .ref a/\H a=some (.tup [w,.int (g:Int)])
def cg(H:Hp)(v:V)(gs:ay Nat):Prop:=∃(a m:av)(l:V)(mv:ay V),v = .ref a/\H a=some (.tup [l,.ref m])/\H m=some (.tup mv)/\Al (vC H) mv gs
def cR(H:Hp)(v:V)(o:aE (ay Nat)):Prop:=match o with
 | none=>v = .non
 | some p => ∃ a:av,v = .ref a/\H a=some (.tup (aB p))
theorem vC.mono{H H':Hp}{v:V}{g:Nat}(x:vC H v g)(k:aA H H'):vC H' v g:=by obtain⟨a,w,e,h⟩:=x;exact⟨a,w,e,k _ _ h⟩
theorem cg.mono{H H':Hp}{v:V}{g:ay Nat}(x:cg H v g)(k:aA H H'):cg H' v g:=by obtain⟨a,m,l,mv,e,h,h2,h3⟩:=x;exact⟨a,m,l,mv,e,k _ _ h,k _ _ h2,h3.mono fun _ _ z=>z.mono k⟩
theorem cR.mono{H H':Hp}{v:V}{o:aE (ay Nat)}(x:cR H v o)(k:aA H H'):cR H' v o:=by
 cases o with
 | none=>exact x
 | some p=>
  obtain⟨a,e,h⟩:=x;exact⟨a,e,k _ _ h⟩
theorem qA0{H:Hp}{rv:ay V}{tb:ay (ay Nat)}(T:Al (cg H) rv tb){k:Nat}(hk:k<tb.length):∃(a m:av)(l:V)(mv:ay V),rK rv ((k:Nat):Int)=some (.ref a)/\H a=some (.tup [l,.ref m])/\H m=some (.tup mv)/\Al (vC H) mv (tb.getD k []):=by have e:=gM hk;obtain⟨v,hv,a,m,l,mv,rfl,h1,h2,h3⟩:=T.get e;refine⟨a,m,l,mv,yQ hv,h1,h2,?_⟩;rw[jU,e];exact h3
theorem qCM{H:Hp}{mv:ay V}{gs:ay Nat}(T:Al (vC H) mv gs){x:Nat}(hx:x<gs.length):∃(a:av)(w:V),mv[x]? = some (.ref a)/\H a=some (.tup [w,.int ((gs.getD x 0:Nat):Int)]):=by have e:=gM hx;obtain⟨v,hv,a,w,rfl,h⟩:=T.get e;refine⟨a,w,hv,?_⟩;rw[jU,e];exact h
theorem aA.dk{H:Hp}{p:av}{xs:ay (Key×V)}(h:H p=some (.dK xs))(o:HO):aA H (upd H p o):=fun b _ e=>by
 rw[zQ (cJ e h (by intro z;cases z))];exact e
inductive PM(H:Hp):List (Key×V)->List (Nat×List Nat)->Prop where
 | nil:PM H [] []
 | cons {k:Nat} {p:List Nat} {a:Addr} {kvs:List (Key×V)} {pm:List (Nat×List Nat)}:H a=some (.tup (aB p))->PM H kvs pm->PM H ((Sum.inl (k:Int),.ref a)::kvs) ((k,p)::pm)
theorem PM.mono{H H':Hp}{kvs:ay (Key×V)}{pm:ay (Nat×ay Nat)}(x:PM H kvs pm)(k:aA H H'):PM H' kvs pm:=by
 induction x with
 | nil=>exact .nil
 | cons h _ ih=>exact .cons (k _ _ h) ih
theorem PM.length{H:Hp}{kvs:ay (Key×V)}{pm:ay (Nat×ay Nat)}(x:PM H kvs pm):kvs.length=pm.length:=by
 induction x with
 | nil=>rfl
 | cons _ _ ih=>rw[cY,cY,ih]
theorem PM.snoc{H:Hp}{kvs:ay (Key×V)}{pm:ay (Nat×ay Nat)}{k:Nat}{p:ay Nat}{a:av}(x:PM H kvs pm)(h:H a=some (.tup (aB p))):PM H (kvs++[(Sum.inl (k:Int),.ref a)]) (pm++[(k,p)]):=by
 induction x with
 | nil=>exact .cons h .nil
 | cons h' _ ih=>exact .cons h' ih
theorem PM.val{H:Hp}{kvs:ay (Key×V)}{pm:ay (Nat×ay Nat)}(x:PM H kvs pm)(k:Nat):(lk pm k=none/\cM kvs (Sum.inl (k:Int))=none) ∨ ∃(p:ay Nat)(a:av),lk pm k=some p/\cM kvs (Sum.inl (k:Int))=some (.ref a)/\H a=some (.tup (aB p)):=by
 induction x with
 | nil=>exact .inl ⟨rfl,rfl⟩
 | @cons k' p a kvs pm h _ ih=>
  rw[pY]
  by_cases e:k'=k
  .subst e;rw[cE rfl,c7 rfl];exact .inr ⟨p,a,rfl,rfl,h⟩
  .have e':¬ (Sum.inl (k':Int):Key)=Sum.inl (k:Int):=fun z=>by
    injection z with z;lia
   rw[cy e,cA e'];exact ih
theorem SN{X:Cx}{pos:Pos}{k v:Expr}{tk tv:TE}(hk:PE X k tk)(hv:PE X v tv):PE X (.Dict [some k] [v] pos) (Yq [(tk,tv)]):=X8 (S7 hk hv X3) rfl rfl (by intro z;cases z) (by show 1<=15;decide)
inductive RK(vs:List V)(H:Hp)(Q:VK)(E_:XK):Prop
 | mk (p:Addr) (rv:List V) (tb:List (List Nat)) (n e:Nat) (_:vs=[.ref p]) (_:H p=some (.lst rv)) (_:Al (cg H) rv tb) (_:Vd tb n e) (_:e<=8) (_:n<=100) (_:∀(q:Addr)(ws:List (Option (List Nat)))(wv:List V)(H':Hp),aG H H'->H q=none->H' q=some (.lst wv)->Al (cR H') wv ws->gG tb n e ws->Q (.ref q) H')
section
variable{P:ag}{w:aI}{K:cL}{mg:Str->aE ax}{base:Heap}
theorem jY:aH ["rows","paths","found","place","row","event","step"] ["rows"] (aC xH):=fJ
theorem XN{f:av}{fd:af}(F:dC K "ways" "ways" xH f fd)(aP:mg "len" = none)(oU:mg "enumerate" = none)(aW:mg "range" = none):aO P w K mg base aa 1 f fd ["rows"] RK:=by
 refine F.ok jY ?_ ?_
 .rintro _ _ _ _⟨p,rv,tb,n,e,rfl,_⟩;rfl
 ext d
 ext a;obtain⟨pr,rv,tb,n,e,rfl,hpr,hT,T,e8,_,q⟩:=h;ext b;have hu:=ia (gN (show 1<=64 by decide) _) hr.units
 refine⟨_,(zE (zK (i:=1) jY.nd rfl (Or.inr rfl) (SN zB (zW zD)))
  (zE (zK (i:=2) jY.nd rfl (bb rfl) (yK (zA zB zD)))
  (zE (zK (i:=3) jY.nd rfl (bb rfl) zB)
  (zZ (kY PassesOwn.never (zL n6 (pv 3) (zS zN rfl aP bU (zA (pv 2) zD)) (zR _))
  (zE (zK (i:=4) jY.nd rfl (bb rfl) (yB yU (pv 2) (pv 3) (fun _ _=>rfl)))
  (zZ (cC PassesOwn.never rfl (N5 rfl oU (zA (yB zH (yB yU (pv 0) (pv 4) (fun _ _=>rfl)) zB (fun _ _=>rfl)) zD)) (xX rfl (dI (yJ (i:=5) jY.nd rfl (bb rfl)) (dI (yJ (i:=6) jY.nd rfl (bb rfl)) t7)))
  (zG (yD (Jx (Bk hu (yB zH (pv 6) zB (fun _ _=>rfl)) (pv 1)))
  (zE (Mz hu (pv 1) (yB zH (pv 6) zB (fun _ _=>rfl)) (oK (yC (jh.or pU oN) (NB hu (pv 1) (pv 4) (fun _ _=>rfl)) (zW (zA (pv 5) zD)))) rfl)
  (zG (yI (dz il rO rN yH (pv 2) (zA (yB zH (pv 6) zB (fun _ _=>rfl)) zD)))))
  zT)))
  (zG (Jy (i:=3) jY.nd rfl (bb rfl) zB Km)))))
  (zG (zO (yT (aj:=[(1,"paths")]) rfl (show bK (aC xH) ["rows","paths","found","place","row","event","step"] _ _ _ from vm) (bM rfl aW (zA (zS zN rfl aP bU (zA (pv 0) zD)) zD)) (fun _ _ _ _ _ _=>bc) (fun _ _ _ _ _ _=>(SQ hu (pv 1) (pv 0) ⟨rfl,rfl,rfl,rfl⟩))))))))),?_⟩
 ext f;have ltb:=T.len;have Tw:=hT.length;refine fun pp hpp=>⟨bg _,fun p0 hp0=>⟨?_,[(Sum.inl 0,.ref p0)],rfl,(by show 1<=15;decide),?_⟩⟩
 .rw[zQ (fun z=>by rw[<-z,zC]at hp0;cases hp0),zC]
 ext c;have s3:aG H (upd (upd (upd H pp (.dK [])) p0 (.tup [])) pp (.dK [(Sum.inl 0,.ref p0)])):=cB hpp ((zF hpp _).trans (zF hp0 _)) _
 have ne0:p0≠pp:=fun z=>by rw[z,zC]at hp0;cases hp0
 have h3:upd (upd (upd H pp (.dK [])) p0 (.tup [])) pp (.dK [(Sum.inl 0,.ref p0)]) pp=some (.dK [(Sum.inl ((0:Nat):Int),.ref p0)]):=zC
 have h30:upd (upd (upd H pp (.dK [])) p0 (.tup [])) pp (.dK [(Sum.inl 0,.ref p0)]) p0=some (.tup (aB [])):=by
  rw[zQ ne0,zC];rfl
 have e1:uo [] [((Sum.inl 0:Key),V.ref p0)]=[(Sum.inl 0,.ref p0)]:=rfl;rw[e1];generalize upd (upd (upd H pp (.dK [])) p0 (.tup [])) pp (.dK [(Sum.inl 0,V.ref p0)])=H3 at s3 h3 h30 ⊢;refine⟨zI (by show 1<=1000;decide),fun pf hpf=>?_⟩;ext c;have Vw:H pf=none:=s3.free hpf;ext g;have s4:=s3.trans (zF hpf (.lst [V.int 0]));have h4p:=(zF hpf (.lst [V.int 0])) _ _ h3;have oZ:=(zF hpf (.lst [V.int 0])) _ _ h30;have h4f:upd H3 pf (.lst [V.int 0]) pf=some (.lst (aB [0])):=zC;generalize upd H3 pf (.lst [V.int 0])=H4 at s4 h4p oZ h4f ⊢
 have nef:pp≠pf:=fun z=>by rw[z,h4f]at h4p;cases h4p
 refine⟨fun σ' H'=>∃(pm:ay (Nat×ay Nat))(kvs:ay (Key×V)),aG H H'/\H' pp=some (.dK kvs)/\PM H' kvs pm/\gG tb n e ((List.range n).map (lk pm))/\∃ o3 o4 o5 o6:aE V,σ'=[some (.ref pr),some (.ref pp),some (.ref pf),o3,o4,o5,o6],?_,?_⟩
 .refine⟨fun m σ' H'=>∃(i:Nat)(pm:ay (Nat×ay Nat))(kvs:ay (Key×V)),m=n-i/\aG H H'/\H' pp=some (.dK kvs)/\H' pf=some (.lst (aB (pm.map (·.1))))/\PM H' kvs pm/\Bf tb n e pm i 0/\∃ o4 o5 o6:aE V,σ'=[some (.ref pr),some (.ref pp),some (.ref pf),some (.int (i:Int)),o4,o5,o6],
   ⟨_,fM 0 [(0,[])] _ ⟨rfl,s4,h4p,h4f,.cons oZ .nil,Bf.init T,fM _ _ _ rfl⟩⟩,?_⟩
  rintro m σ' H5 aQ;ext a;obtain⟨i,pm,kvs,rfl,s5,h5p,h5f,W4,B,o4,o5,o6,rfl⟩:=aQ;ext b;have hsz:=B.size
  have lpm:(aB (pm.map (·.1))).length=pm.length:=by rw[zU,bh]
  refine⟨_,rfl,_,rfl,fL rfl (.inl (aV.of h5f)) (bB ⟨_,rfl,oY (fun c=>?_) (fun c=>?_)⟩)⟩
  .have c':(i:Int)<(((aB (pm.map (·.1))).length:Nat):Int):=ba c;rw[lpm]at c'
   have hi:i<pm.length:=by lia
   have hc:=gM hi;generalize pm[i]=cc at hc;have hcr:=B.JP cc (zp hc);refine⟨fun σ' H'=>∃(pm:ay (Nat×ay Nat))(kvs:ay (Key×V)),aG H H'/\H' pp=some (.dK kvs)/\H' pf=some (.lst (aB (pm.map (·.1))))/\PM H' kvs pm/\Bf tb n e pm (i+1) 0/\∃ o4 o5 o6:aE V,σ'=[some (.ref pr),some (.ref pp),some (.ref pf),some (.int ((i+1:Nat):Int)),o4,o5,o6],?_,?_⟩
   .rintro σ' H' aQ;ext a;obtain⟨pm',kvs',z1,z2,z3,z4,z5,z6⟩:=aQ;ext b;exact⟨n-(i+1),by lia,fM (i+1) pm' kvs' ⟨rfl,z1,z2,z3,z4,z5,z6⟩⟩
   refine Q0 fun _ aK _ x_1=>?_
   have hat:rK (aB (pm.map (·.1))) (i:Int)=some (.int (cc.1:Int)):=yQ (by
    unfold aB;rw[dD,dD,hc]
    rfl)
   refine⟨_,rfl,_,rfl,az (aV.of h5f) hat ?_⟩;refine x_1 ?_;clear x_1;ext a;obtain⟨_,am,l,mv,qIR,har,ham,hmv⟩:=qA0 (hT.mono fun _ _ z=>z.mono (aA.of s5)) (k:=cc.1) (by lia);ext b;have lmv:=hmv.length;rw[T.row cc.1 hcr.1]at lmv;refine⟨fun σ' H'=>∃(pm:ay (Nat×ay Nat))(kvs:ay (Key×V)),aG H H'/\H' pp=some (.dK kvs)/\H' pf=some (.lst (aB (pm.map (·.1))))/\PM H' kvs pm/\Bf tb n e pm i e/\pm[i]? = some cc/\∃ o5 o6:aE V,σ'=[some (.ref pr),some (.ref pp),some (.ref pf),some (.int (i:Int)),some (.int (cc.1:Int)),o5,o6],?_,?_⟩
   .refine⟨_,rfl,_,rfl,az (aV.of (s5 _ _ hpr)) qIR (aF (aM.of har) rfl ⟨am,rfl,⟨_,aM.of ham⟩,?_⟩)⟩;refine Ih (K:=K) (a:=am) (xs:=mv) (fun x σ' H'=>∃(pm:ay (Nat×ay Nat))(kvs:ay (Key×V)),aG H H'/\H' pp=some (.dK kvs)/\H' pf=some (.lst (aB (pm.map (·.1))))/\PM H' kvs pm/\Bf tb n e pm i x/\pm[i]? = some cc/\aA H5 H'/\∃ o5 o6:aE V,σ'=[some (.ref pr),some (.ref pp),some (.ref pf),some (.int (i:Int)),some (.int (cc.1:Int)),o5,o6])
     (au pm kvs ⟨s5,h5p,h5f,W4,B,hc,aA.refl _,au _ _ rfl⟩) (fun x σ' H' _ ⟨_,_,_,_,_,_,_,_,k',_⟩=>aM.of (k' _ _ ham)) ?_ ?_
    .rintro x v σ' H6 t1 hx ⟨pm,kvs,s6,h6p,h6f,W4,B,hc,k6,o5,o6,rfl⟩ ht1;have hsz:=B.size
     have hx':x<e:=by
      have:=(fO.mp hx).1;lia
     ext a;obtain⟨as,_,hsv,has⟩:=qCM hmv (x:=x) (by rw[T.row cc.1 hcr.1];exact hx');ext b;rw[hsv]at hx;obtain rfl:=jX hx;have qIY:=k6 _ _ has;have u7:=zF ht1 (.tup [.int (x:Int),.ref as]);refine au t1 _ ⟨rfl,aM.of zC,rfl,au _ _ ⟨rfl,au _ _ ⟨rfl,rfl,?_⟩⟩⟩;generalize upd H6 t1 (.tup [.int (x:Int),.ref as])=H7 at u7 ⊢;have s7:=s6.trans u7;have k7:=k6.trans (aA.of u7);have h7p:=u7 _ _ h6p;have h7f:=u7 _ _ h6f;have Uh:=W4.mono (aA.of u7);have Y8:=u7 _ _ qIY;have eg:((tb.getD cc.1 []).getD x 0:Nat)=goal tb cc.1 x:=rfl;rw[eg]at Y8;refine⟨_,rfl,aF (aM.of Y8) rfl ⟨_,rfl,au pp _ ⟨rfl,uI.k (k:=Sum.inl ((goal tb cc.1 x:Nat):Int)) h7p,_,rfl,?_⟩⟩⟩;rcases Uh.val (goal tb cc.1 x) with ⟨hn,hv⟩ | ⟨p,ap,hn,hv,hap⟩
     .rw[hv];refine zx rfl ?_;refine Q0 fun _ x_1 _ nJ=>?_;have hck:=Nk B.nodup (zp hc);rcases Uh.val cc.1 with ⟨hn2,_⟩ | ⟨p2,ap2,hn2,hv2,qEH⟩
      .rw[hn2]at hck
       cases hck
      rw[hn2]at hck;obtain rfl:=jX hck;have g2:=uI.k (k:=Sum.inl ((cc.1:Nat):Int)) h7p;rw[hv2]at g2;have lp2:=B.len i _ hc
      have lp3:cc.2.length<=100:=by
       have:=(fO.mp hc).1;lia
      refine⟨fun v H'=>∃ aq:av,v = .ref aq/\aG H7 H'/\H' aq=some (.tup (aB (cc.2++[x]))),?_,?_⟩
      .refine⟨_,rfl,_,rfl,au pp _ ⟨rfl,g2,_,rfl,zI (by show 1<=1000;decide),fun p3 hp3=>?_⟩⟩;have u8:=zF hp3 (.tup [V.int (x:Int)]);have h83:upd H7 p3 (.tup [V.int (x:Int)]) p3=some (.tup (aB [x])):=zC;generalize upd H7 p3 (.tup [V.int (x:Int)])=H8 at u8 h83 ⊢
       by_cases z:cc.2=[]
       .refine .inr (fM ap2 p3 _ ⟨rfl,rfl,aM.of (by rw[u8 _ _ qEH,z];rfl),aM.of h83,p3,rfl,u8,?_⟩);rw[z];exact h83
       .refine .inl (jV ap2 p3 (aB cc.2) (aB [x]) ⟨rfl,rfl,aM.of (u8 _ _ qEH),aM.of h83,?_,?_,?_,?_⟩)
        .intro y;exact z (List.map_eq_nil_iff.mp y)
        .rw[zU];exact zI (by show cc.2.length+1<=1000;lia)
        .intro y
         cases y
        .intro _ p4 hp4;refine⟨p4,rfl,u8.trans (zF hp4 _),?_⟩;rw[zC];unfold aB;rw[iz]
      rintro v H8 aQ;ext a;obtain⟨aq,rfl,u8,haq⟩:=aQ;ext b;have h8p:=u8 _ _ h7p;have h8f:=u8 _ _ h7f;have lk':=(Uh.mono (aA.of u8)).length;refine⟨_,rfl,_,rfl,aF (aM.of (u8 _ _ Y8)) rfl (au pp _ ⟨rfl,Qp.k (k:=Sum.inl ((goal tb cc.1 x:Nat):Int)) h8p (zV (by lia)),?_⟩)⟩;refine nJ ?_;clear nJ;rw[Gq _ hv];have kd:=aA.dk h8p (.dK (kvs++[(Sum.inl ((goal tb cc.1 x:Nat):Int),V.ref aq)]))
      have h9f:upd H8 pp (.dK (kvs++[(Sum.inl ((goal tb cc.1 x:Nat):Int),V.ref aq)])) pf=some (.lst (aB (pm.map (·.1)))):=by
       rw[zQ nef.symm];exact h8f
      have h9p:upd H8 pp (.dK (kvs++[(Sum.inl ((goal tb cc.1 x:Nat):Int),V.ref aq)])) pp=some (.dK (kvs++[(Sum.inl ((goal tb cc.1 x:Nat):Int),V.ref aq)])):=zC;have s9:aG H (upd H8 pp (.dK (kvs++[(Sum.inl ((goal tb cc.1 x:Nat):Int),V.ref aq)]))):=cB hpp (s7.trans u8) _;generalize upd H8 pp (.dK (kvs++[(Sum.inl ((goal tb cc.1 x:Nat):Int),V.ref aq)]))=H9 at kd h9f h9p s9 ⊢;have kl:=aA.lst h9f (.lst (aB (pm.map (·.1))++[.int ((goal tb cc.1 x:Nat):Int)]));have qDR:=(aA.of u8).trans (kd.trans kl);refine⟨_,rfl,.inl ⟨rfl,_,aV.of h9f⟩,_,rfl,aF (aM.of (kd _ _ (u8 _ _ Y8))) rfl ⟨pf,_,_,rfl,rfl,h9f,zV (by rw[zU,bh];lia),?_⟩⟩;refine x_1 ?_;clear x_1;refine au (pm++[(goal tb cc.1 x,cc.2++[x])]) _ ⟨cB Vw s9 _,?_,?_,(Uh.mono qDR).snoc ((kd.trans kl) _ _ haq),B.new T hc hx' hn,?_,k7.trans qDR,au _ _ rfl⟩
      .rw[zQ nef];exact h9p
      .rw[zC,gZ,iz];rfl
      .rw[vY (fO.mp hc).1];exact hc
     .rw[hv];refine nT rfl ?_;exact au pm kvs ⟨s7,h7p,h7f,Uh,B.hit hc hn,hc,k7,au _ _ rfl⟩
    .rintro σ' H6 aQ;ext a;obtain⟨pm,kvs,s6,h6p,h6f,W4,B,hc,k6,r⟩:=aQ;ext b;rw[lmv]at B;exact au pm kvs ⟨s6,h6p,h6f,W4,B,hc,r⟩
   rintro σ6 H6 aQ;ext a;obtain⟨pm,kvs,s6,h6p,h6f,W4,B,hc,_,_,rfl⟩:=aQ;ext b;exact⟨_,rfl,bB (aK (au pm kvs ⟨s6,h6p,h6f,W4,B.next e8 hc,fM _ _ _ rfl⟩))⟩
  .have c':¬ (i:Int)<(((aB (pm.map (·.1))).length:Nat):Int):=fun z=>c (bp z);rw[lpm]at c';exact au pm kvs ⟨s5,h5p,W4,B.done T (by lia),jV _ _ _ _ rfl⟩
 rintro σ' H5 aQ;ext a;obtain⟨pm,kvs,s5,h5p,W4,W,o3,o4,o5,o6,rfl⟩:=aQ;ext b;refine⟨_,rfl,fL rfl (.inl (aV.of (s5 _ _ hpr))) ⟨_,rfl,by lia,by lia,?_⟩⟩;refine gq (fun i acc H'=>H'=H5/\Al (cR H5) acc ((List.range i).map (lk pm))) ⟨rfl,.nil⟩ (fun i acc H' hi ⟨e1,e2⟩=>?_) (fun acc H' ⟨e1,e2⟩ q1 hq1=>?_)
 .subst e1
  have hi':i<rv.length:=by
   simp only[Int.toNat_natCast]at hi;exact hi
  have la:=e2.length;rw[bh,cb]at la;refine⟨_,rfl,pp,rfl,.inl ⟨kvs,.inl h5p⟩,_,rfl,_,uI.k (k:=Sum.inl (0+(i:Int))) h5p,zV (by lia),rfl,?_⟩;rw[gu,iz,c9];refine e2.snoc ?_;rcases W4.val i with ⟨hn,hv⟩ | ⟨p,ap,hn,hv,hap⟩
  .rw[hn,hv];rfl
  .rw[hn,hv];exact⟨ap,rfl,hap⟩
 subst e1;rw[JT,Tw,ltb]at e2;exact q q1 _ acc _ (s5.trans (zF hq1 _)) (s5.free hq1) zC (e2.mono fun _ _ z=>z.mono (aA.new hq1 _)) W
end
inductive GQ(vs:List V)(H:Hp)(Q:VK)(E_:XK):Prop
 | mk (a b p q) (_:vs=[.ref a,.ref b]) (_:H a=some (.tup (aB p))) (_:H b=some (.tup (aB q))) (_:(∀ x∈p,x<8)) (_:(∀ x∈q,x<8)) (_:p.length<=1000) (_:Q (.bl (decide (code q<code p))) H)
theorem NT{os:ay Nat}{i:Nat}(hi:i<os.length):rK (aB os) (0+(i:Int))=some (.int ((os[i]:Nat):Int)):=by rw[c9];refine yQ ?_;unfold aB;rw[dD,gM hi];rfl
theorem code_at(hp:i<p.length)(hq:i<q.length)(hl:p.length=q.length)(ht:p.take i=q.take i)(p8:∀ x∈p,x<8)(h:p[i]<q[i]):code p<code q:=by
 have e1:p=p.take i++p[i]::p.drop (i+1):=by rw[<-List.drop_eq_getElem_cons hp,gE]
 have e2:q=q.take i++q[i]::q.drop (i+1):=by rw[<-List.drop_eq_getElem_cons hq,gE]
 have hx:p[i]<8:=p8 _ (jT hp);have hd:∀ x∈p.drop (i+1),x<8:=fun x hx=>p8 x (List.mem_of_mem_drop hx)
 have l1:(p.drop (i+1)).length=(q.drop (i+1)).length:=by rw[fh,fh,hl]
 generalize p[i]=x at e1 h hx;generalize q[i]=y at e2 h;generalize p.drop (i+1)=u at e1 hd l1;generalize q.drop (i+1)=v at e2 l1;rw[e1,e2,ht];show gO 0 (q.take i++x::u)<gO 0 (q.take i++y::v);rw[qG,qG,dN,dN];exact yx u v _ _ (by lia) l1 hd
theorem qP:aH ["_law_one","_law_other","_law_k"] ["_law_one","_law_other"] (aC lZ):=fJ
theorem Px{f:av}{fd:af}(F:dC K "_law_behind" "_law_behind" lZ f fd)(aP:mg "len" = none)(aW:mg "range" = none):aO P w K mg base aa 1 f fd ["_law_one","_law_other"] GQ:=by
 refine F.ok qP ?_ ?_
 .rintro _ _ _ _⟨a,b,p,q,rfl,_⟩;rfl
 intro _ A _ s H _ Q E _ h
 ext a;obtain⟨a,b,p,q,rfl,ha,hb,p8,q8,_,qq⟩:=h;ext b
 refine⟨_,(zE (yD (zL qZ (zS zN rfl aP bU (zA (pv 0) zD)) (zS zN rfl aP bU (zA (pv 1) zD)) (zR _))
  (zG (zO (pQ iH (zS zN rfl aP bU (zA (pv 0) zD)) (zS zN rfl aP bU (zA (pv 1) zD)) (zR _))))
  zT)
  (zZ (cC PassesOwn.never rfl (bM rfl aW (zA (zS zN rfl aP bU (zA (pv 0) zD)) zD)) (yJ (i:=2) qP.nd rfl (bb rfl))
  (zG (yD (zL qZ (yB zH (pv 0) (pv 2) (fun _ _=>rfl)) (yB zH (pv 1) (pv 2) (fun _ _=>rfl)) (zR _))
  (zG (zO (pQ iH (yB zH (pv 0) (pv 2) (fun _ _=>rfl)) (yB zH (pv 1) (pv 2) (fun _ _=>rfl)) (zR _))))
  zT)))
  (zG (zO kj)))),?_⟩
 ext f;have lp:=zU p;have lq:=zU q;refine⟨_,rfl,fL rfl (.inr (aM.of ha)) ⟨_,rfl,fL rfl (.inr (aM.of hb)) ⟨rfl,_,rfl,fu (fun c=>?_) (fun c=>?_)⟩⟩⟩
 .have c':¬ V.int (((aB p).length:Nat):Int)=V.int (((aB q).length:Nat):Int):=by simpa using c
  have ne:p.length≠q.length:=fun z=>c' (by rw[lp,lq,z]);refine⟨_,rfl,fL rfl (.inr (aM.of ha)) ⟨_,rfl,fL rfl (.inr (aM.of hb)) (bB ?_)⟩⟩
  have e:decide ((((aB p).length:Nat):Int)>(((aB q).length:Nat):Int))=decide (code q<code p):=by
   rw[lp,lq];refine bP.mpr ⟨fun z=>tZ (by lia) q8,fun z=>?_⟩
   by_cases y:p.length<q.length
   .have:=tZ y p8;lia
   .lia
  rw[<-e]at qq;exact qq
 ext g
 have c':V.int (((aB p).length:Nat):Int)=V.int (((aB q).length:Nat):Int):=by simpa using c
 have hl:p.length=q.length:=by
  rw[lp,lq]at c';injection c' with c';lia
 refine⟨fun σ' H'=>H'=H/\p=q,?_,?_⟩
 .refine⟨_,rfl,fL rfl (.inr (aM.of ha)) ⟨_,rfl,by lia,by lia,?_⟩⟩;refine bu (fun i σ' H'=>H'=H/\p.take i=q.take i/\∃ o2:aE V,σ'=[some (.ref a),some (.ref b),o2]) ⟨rfl,rfl,_,rfl⟩ ?_ ?_
  .rintro i σ' H' hi aQ;ext a;obtain⟨rfl,ht,o2,rfl⟩:=aQ;ext b
   have hip:i<p.length:=by
    simp only[Int.toNat_natCast]at hi;lia
   have hiq:i<q.length:=by lia
   refine⟨_,rfl,_,rfl,aF (aM.of ha) (NT hip) ⟨_,rfl,_,rfl,aF (aM.of hb) (NT hiq) ⟨rfl,_,rfl,fu (fun c=>?_) (fun c=>?_)⟩⟩⟩
   .have ne:¬ V.int ((p[i]:Nat):Int)=V.int ((q[i]:Nat):Int):=by simpa using c
    have ne':p[i]≠q[i]:=fun z=>ne (by rw[z]);refine⟨_,rfl,_,rfl,aF (aM.of ha) (NT hip) ⟨_,rfl,_,rfl,aF (aM.of hb) (NT hiq) (bB ?_)⟩⟩
    have e:decide (((p[i]:Nat):Int)>((q[i]:Nat):Int))=decide (code q<code p):=by
     refine bP.mpr ⟨fun z=>code_at hiq hip hl.symm ht.symm q8 (by lia),fun z=>?_⟩
     by_cases y:p[i]<q[i]
     .have:=code_at hip hiq hl ht p8 y;lia
     .lia
    rw[<-e]at qq;exact qq
   .have eq:V.int ((p[i]:Nat):Int)=V.int ((q[i]:Nat):Int):=by simpa using c
    have eq':p[i]=q[i]:=by
     injection eq with eq;lia
    refine⟨rfl,?_,_,rfl⟩;rw[iV,iV,ht,gM hip,gM hiq,eq']
  .rintro σ' H' aQ;ext a;obtain⟨rfl,ht,_⟩:=aQ;ext b;refine⟨rfl,?_⟩;rw[JT,lp,vK (bN _),vK (by lia)]at ht;exact ht
 rintro σ' H' ⟨rfl,e⟩;have e2:decide (code q<code p)=false:=bo (by rw[e];lia);rw[e2]at qq;exact qq
end Wy
namespace Av
open PySem L2 qH rF Cv Qz JS jg Ru
open Fw (Al)
theorem fG(p:ay Nat)(x:Nat):Wy.code (p++[x])=8*Wy.code p+(x+1):=by unfold Wy.code Wy.gO;rw[fe];rfl
section
variable{c:jl}{ne:Nat}{s0:S4}
theorem Tj(h:0<ne):((i+1)/ne=i/ne/\(i+1)%ne=i%ne+1)∨((i+1)/ne=i/ne+1/\(i+1)%ne=0/\i%ne+1=ne):=by
 have h1:=gX i ne;have h2:=ix i h
 by_cases z:i%ne+1=ne
 .refine .inr ⟨?_,?_,z⟩
  .have:i+1=ne*(i/ne+1):=by rw[Nat.mul_add,Nat.mul_one];lia
   rw[this,Nat.mul_div_cancel_left _ h]
  .have:i+1=ne*(i/ne+1):=by rw[Nat.mul_add,Nat.mul_one];lia
   rw[this,Nat.mul_mod_right]
 .have e:ne*(i/ne)+(i%ne+1)=i+1:=by lia
  refine .inl ⟨?_,?_⟩
  .calc (i+1)/ne=(ne*(i/ne)+(i%ne+1))/ne:=by rw[e]
    _=i/ne:=by rw[iA h,hJ (show i%ne+1<ne by lia),gT]
  .calc (i+1)%ne=(ne*(i/ne)+(i%ne+1))%ne:=by rw[e]
    _=i%ne+1:=by rw[iE,ip (show i%ne+1<ne by lia)]
structure qG9(ne i:Nat)(fs:Fs):Prop where
 uT:fs.Pairwise fun a b=>Wy.code a.2<Wy.code b.2
 ev:∀ x∈fs,∀ y∈x.2,y<ne
 len:∀(r:Nat)(x:S4×List Nat),fs[r]? = some x->x.2.length<=r
 bnd:∀ x:S4×List Nat,fs[i/ne]? = some x->∀ y∈fs,Wy.code y.2<=8*Wy.code x.2+i%ne
theorem NQ{fs:Fs}(h:fs.Pairwise fun a b=>Wy.code a.2<Wy.code b.2){j k:Nat}{x y:S4×ay Nat}(hj:fs[j]? = some x)(hk:fs[k]? = some y)(lt:j<k):Wy.code x.2<Wy.code y.2:=by obtain⟨h1,e1⟩:=fO.mp hj;obtain⟨h2,e2⟩:=fO.mp hk;have:=fS.mp h j k h1 h2 lt;rw[e1,e2]at this;exact this
theorem Ip(O:qG9 ne i fs)(h1:fs[i/ne]? = some (s,p)):∀ y∈mV fs s' (p++[i%ne]),Wy.code y.2<=8*Wy.code p+(i%ne+1):=by
 intro y hy;have b:=O.bnd _ h1
 cases hr:rowOf fs s' with
 | some j=>
  rw[(bz hr).1]at hy;have:=b y hy;simp only at this;lia
 | none=>
  rw[(bO hr).1]at hy;rcases cH.mp hy with hy | hy
  .have:=b y hy;simp only at this;lia
  .rw[bJ.mp hy];show Wy.code (p++[i%ne])<=_;rw[fG];lia
theorem lK(e8:ne<=8){fs:Fs}{ms:ay (ay En×Nat)}(h:aX c ne s0 i fs ms):qG9 ne i fs:=by
 induction h with
 | nil=>
  refine⟨fT _ _,fun x hx y hy=>?_,fun r x hx=>?_,fun x _ y hy=>?_⟩
  .rw[bJ.mp hx]at hy
   cases hy
  .cases r with
   | zero=>cases hx;exact bN _
   | succ r=>cases hx
  .rw[bJ.mp hy];exact bg _
 | @cell i fs ms s s' p es h h0 h1 h2 O=>
  have top:=Ip (s':=nl s') O h1
  have uT:(mV fs (nl s') (p++[i%ne])).Pairwise fun a b=>Wy.code a.2<Wy.code b.2:=by
   cases hr:rowOf fs (nl s') with
   | some j=>rw[(bz hr).1];exact O.uT
   | none=>
    rw[(bO hr).1,List.pairwise_append];refine⟨O.uT,fT _ _,fun a ha b hb=>?_⟩;rw[bJ.mp hb];have:=O.bnd _ h1 a ha;show Wy.code a.2<Wy.code (p++[i%ne]);rw[fG];simp only at this;lia
  refine⟨uT,?_,?_,?_⟩
  .cases hr:rowOf fs (nl s') with
   | some j=>rw[(bz hr).1];exact O.ev
   | none=>
    rw[(bO hr).1];intro x hx y hy;rcases cH.mp hx with hx | hx
    .exact O.ev x hx y hy
    .rw[bJ.mp hx]at hy;rcases cH.mp hy with hy | hy
     .exact O.ev _ (zp h1) y hy
     .rw[bJ.mp hy];exact ix _ h0
  .cases hr:rowOf fs (nl s') with
   | some j=>rw[(bz hr).1];exact O.len
   | none=>
    rw[(bO hr).1];intro r x hx
    by_cases z:r<fs.length
    .rw[vY z]at hx;exact O.len r x hx
    .have hl:=(fO.mp hx).1;rw[dj,gK]at hl
     obtain rfl:r=fs.length:=by lia
     rw[R0 (bN _),iP]at hx
     cases hx
     have a:=O.len _ _ h1;have b:=(fO.mp h1).1;show (p++[i%ne]).length<=_;rw[dj,gK];simp only at a;lia
  .intro x hx y hy;have t:=top y hy;obtain⟨_,em,_⟩:=iQ fs (nl s') (p++[i%ne]);have hk:=(fO.mp h1).1
   have h1':(mV fs (nl s') (p++[i%ne]))[i/ne]? = some (s,p):=by rw[em,vY hk];exact h1
   rcases Tj (i:=i) h0 with ⟨e1,e2⟩ | ⟨e1,e2,e3⟩
   .rw[e1,h1']at hx
    cases hx
    rw[e2];exact t
   .rw[e1]at hx;have:=NQ uT h1' hx (by lia);simp only at this;rw[e2];lia
noncomputable def rT(ne N:Nat)(ms:ay (ay En×Nat)):ay (ay Nat):=(List.range N).map fun k=>((ms.drop (k*ne)).take ne).map (·.2)
theorem Zg:(rT ne N ms).length=N:=by unfold rT;rw[bh,cb]
theorem R9(hk:k<N):(rT ne N ms).getD k []=((ms.drop (k*ne)).take ne).map (·.2):=by unfold rT;rw[jU,dD,Oq hk];rfl
theorem VL{k e:Nat}{ms:ay (ay En×Nat)}(he:e<ne):((ms.drop (k*ne)).take ne)[e]? = ms[k*ne+e]?:=by rw[List.getElem?_take,cE he,List.getElem?_drop]
theorem Ep{N k e j:Nat}{ms:ay (ay En×Nat)}{es:ay En}(hk:k<N)(he:e<ne)(hm:ms[k*ne+e]? = some (es,j)):Wy.goal (rT ne N ms) k e=j:=by unfold Wy.goal;rw[R9 hk,jU,dD,VL he,hm];rfl
theorem Az(to:∀ k e es j,k<N->e<ne->ms[k*ne+e]? = some (es,j)->j<N):∀ p k es y,k<N->ju ne ms k es p=some y->Wy.Ht (rT ne N ms) k p=y.1
 | [],k,es,y,_,h=>by cases h;rfl
 | e::p,k,es,y,hk,h=>by
  obtain⟨he,es',j,hm,hw⟩:=uP h;have:=Az to p j es' y (to k e es' j hk he hm) hw;show Wy.Ht (rT ne N ms) (Wy.goal (rT ne N ms) k e) p=_;rw[Ep hk he hm];exact this
theorem wL(hk:k<N)(he:e<ne):k*ne+e<N*ne:=by have:(k+1)*ne<=N*ne:=iL _ hk;rw[gS,iO]at this;lia
theorem Ij(he:e<ne):(k*ne+e)/ne=k/\(k*ne+e)%ne=e:=
 ⟨by rw[iF,iA (by lia),hJ he,gT],by rw[iF,iE,ip he]⟩
theorem YG(h:aX c ne s0 (N*ne) fs ms)(hl:fs.length=N):Wy.Vd (rT ne N ms) N ne:=by
 have N1:1<=N:=by
  obtain⟨_,e⟩:=yo h;rw[e,cY]at hl;lia
 refine⟨Zg,N1,fun k hk=>?_,fun k x hk hx=>?_⟩
 .rw[R9 hk,bh,iW,fh,eF h];have:(k+1)*ne<=N*ne:=iL _ hk;rw[gS,iO]at this;lia
 .obtain⟨s,p,_,_,j,_,_,g3,g4⟩:=v5 h _ (wL hk hx);rw[Ep hk hx g3,<-hl];exact Gh g4
theorem QK(e8:ne<=8)(h:aX c ne s0 (N*ne) fs ms)(hl:fs.length=N):Wy.gG (rT ne N ms) N ne (fs.map fun x=>some x.2):=by
 have O:=lK e8 h
 have at_:∀ k p,(fs.map fun x=>some x.2)[k]? = some (some p)->∃ s,fs[k]? = some (s,p):=fun k p z=>by
  rw[dD]at z;obtain⟨x,hx,e⟩:=jI.mp z
  cases e
  exact⟨x.1,hx⟩
 have to:∀ k e es j,k<N->e<ne->ms[k*ne+e]? = some (es,j)->j<N:=fun k e es j hk he hm=>by
  obtain⟨s,p,_,s',_,g1,g2,g3,g4⟩:=v5 h _ (wL hk he);rw[hm]at g3
  cases g3
  rw[<-hl];exact Gh g4
 have N1:0<N:=by
  obtain⟨tl,e⟩:=yo h;rw[e,cY]at hl;lia
 refine⟨by rw[bh,hl],?_,fun k p z=>?_,fun k p z=>?_,fun k p z x hx=>?_⟩
 .obtain⟨tl,e⟩:=yo h;rw[e];rfl
 .obtain⟨s,hs⟩:=at_ k p z;refine⟨?_,O.ev _ (zp hs)⟩;obtain⟨es,hw⟩:=QL [] h k s p hs;exact Az to p 0 [] _ N1 hw
 .obtain⟨s,hs⟩:=at_ k p z;have a:=O.len _ _ hs;have b:=(fO.mp hs).1;simp only at a;lia
 .obtain⟨s,hs⟩:=at_ k p z;have hk:=(fO.mp hs).1
  have hkN:k<N:=by lia
  obtain⟨f2,m2,_,_,g1,g2,g3,_⟩:=lL h (k*ne+x+1) (wL hkN hx)
  obtain⟨f3,m3,s3,s3',p3,es3,k1,k2,k3,k4,rfl,rfl⟩:∃ f3 m3 s s' p es,aX c ne s0 (k*ne+x) f3 m3/\0<ne/\f3[(k*ne+x)/ne]? = some (s,p)/\JK c (((k*ne+x)%ne:Nat):Int) s es s'/\f2=mV f3 (nl s') (p++[(k*ne+x)%ne])/\m2=m3++[(es,vA f3 (nl s'))]:=by
   cases g1 with
   | cell a b c d=>exact⟨_,_,_,_,_,_,a,b,c,d,rfl,rfl⟩
  have O3:=lK e8 k1;have top:=Ip (s':=nl s3') O3 k3;obtain⟨d1,d2⟩:=Ij (ne:=ne) (k:=k) hx
  have top:∀ y∈mV f3 (nl s3') (p3++[(k*ne+x)%ne]),Wy.code y.2<=8*Wy.code p3+(x+1):=fun y hy=>by
   have:=top y hy;rw[d2]at this;exact this
  have hs3:f3[k]? = some (s3,p3):=by rw[<-d1];exact k3
  obtain⟨_,em3,_⟩:=iQ f3 (nl s3') (p3++[(k*ne+x)%ne])
  have hs':fs[k]? = some (s3,p3):=by
   rw[g2,em3,bS,vY (fO.mp hs3).1];exact hs3
  rw[hs]at hs'
  cases hs'
  have lm:=eF k1
  have hm:ms[k*ne+x]? = some (es3,vA f3 (nl s3')):=by
   rw[g3,bS,R0 (by lia),lm,iP];rfl
  rw[Ep hkN hx hm];have hrow:=Be f3 (nl s3') (p++[(k*ne+x)%ne]);obtain⟨t,q,hq,_⟩:=xU hrow
  have hq':fs[vA f3 (nl s3')]? = some (t,q):=by
   rw[g2,vY (fO.mp hq).1];exact hq
  refine⟨q,by rw[dD,hq'];rfl,?_⟩;have:=top _ (zp hq)
  simpa using this
theorem Pb(e8:ne<=8){ms:ay (ay En×Nat)}(h:aX c ne s0 i fs ms){a b:Nat}(hb:b<i)(lt:a<b):Wy.code (fc fs ne a)<Wy.code (fc fs ne b):=by
 have O:=lK e8 h;have n0:=CQ h (by lia);obtain⟨x,hx⟩:∃ x,fs[a/ne]? = some x:=⟨_,gM (ph h a (by lia))⟩;obtain⟨y,hy⟩:∃ y,fs[b/ne]? = some y:=⟨_,gM (ph h b hb)⟩;unfold fc;rw[hx,hy];show Wy.code (x.2++[a%ne])<Wy.code (y.2++[b%ne]);rw[fG,fG];have e1:=gX a ne;have e2:=gX b ne;have m1:=ix a n0;have m2:=ix b n0
 by_cases z:a/ne=b/ne
 .rw[z]at hx e1;rw[hx]at hy
  cases hy
  lia
 .have le:a/ne<=b/ne:=Nat.div_le_div_right (by lia);have:=NQ O.uT hx hy (by lia);lia
end
def wdB:Bool->Str
 | false => "in"
 | true => "door"
def cdB:Bool->Nat->Nat
 | false,n=>2*n
 | true,n=>2*n+1
def qJ9(H:Hp)(pw:av)(es:ay En):Prop:=∃ wv:ay V,H pw=some (.lst wv)/\Al (gJ H) wv es
theorem V2(e:En)(b:Bool)(n:Nat):∃(s:Str)(x:V)(r:ay V),e.row = .str s::x::r/\((decide (V.str s=V.str (wdB b)))=false->jK e≠some (cdB b n))/\((decide (V.str s=V.str (wdB b)))=true->∃ k:Nat,x = .int (k:Int)/\(k=n↔jK e=some (cdB b n))):=by
 cases e with
 | inn k=>
  refine⟨_,_,_,rfl,?_,?_⟩
  .cases b
   .exact fun z=>dP z (by ext y)
   .exact fun _ z=>by have:=Option.some.inj z;simp only[cdB]at this;lia
  .cases b
   .exact fun _=>⟨k,rfl,by simp only[jK,cdB,Option.some.injEq];lia⟩
   .exact fun z=>dP z (by ext y)
 | door k=>
  refine⟨_,_,_,rfl,?_,?_⟩
  .cases b
   .exact fun _ z=>by have:=Option.some.inj z;simp only[cdB]at this;lia
   .exact fun z=>dP z (by ext y)
  .cases b
   .exact fun z=>dP z (by ext y)
   .exact fun _=>⟨k,rfl,by simp only[jK,cdB,Option.some.injEq];lia⟩
 | out k=>cases b <;> exact⟨_,_,_,rfl,(fun _ z=>nomatch z),fun z=>dP z (by ext y)⟩
 | thr k=>cases b <;> exact⟨_,_,_,rfl,(fun _ z=>nomatch z),fun z=>dP z (by ext y)⟩
 | take k=>cases b <;> exact⟨_,_,_,rfl,(fun _ z=>nomatch z),fun z=>dP z (by ext y)⟩
 | rc r=>cases r <;> cases b <;> exact⟨_,_,_,rfl,(fun _ z=>nomatch z),fun z=>dP z (by ext y)⟩
theorem Nt(h1:j<n):Vz n (j:Int)=some j:=by unfold Vz;rw[cE (by lia),cE (by lia),JT]
theorem VP(x:Al Rl vs rs)(h:Rl v o):∀ j:Nat,Al Rl (vs.set j v) (rs.set j o):=by
 induction x with
 | nil=>intro j;exact .nil
 | cons h1 h2 ih=>
  intro j
  cases j with
  | zero=>exact .cons h h2
  | succ j=>exact .cons h1 (ih j)
theorem map_set(h1:r<n->g r=o)(h2:∀ k,k≠r->g k=f k):((List.range n).map f).set r o=(List.range n).map g:=by
 apply List.ext_getElem?;intro j;rw[List.getElem?_set]
 by_cases e:r=j
 .subst e;rw[cE rfl,bh,cb]
  by_cases z:r<n
  .rw[cE z,dD,Oq z];show some o=some (g r);rw[h1 z]
  .rw[cy z,fg (by rw[bh,cb];lia)]
 .rw[cy e,dD,dD]
  by_cases z:j<n
  .rw[Oq z];show some (f j)=some (g j);rw[h2 j (fun y=>e y.symm)]
  .rw[fg (by rw[cb];lia)];rfl
theorem fB(R:Iz)(es:ay En)(e:En)(p:ay Nat)(x:Nat):aL (R++[(es++[e],p)]) x=match aL (R++[(es,p)]) x with
  | some q=>some q
  | none=>if jK e=some x then some p else none:=by
 rw[dM,dM]
 cases hf:aL R x with
 | some q=>rfl
 | none=>
  simp only[];rw[tQ]
  cases hh:yj es x with
  | true=>rfl
  | false=>
   by_cases z:jK e=some x
   .rw[bp z,cE z];rfl
   .rw[bo z,cy z];rfl
theorem CW(h:aL R x=some q):∃ y∈R,y.2=q:=by unfold aL at h;obtain⟨y,hy,e⟩:=jI.mp h;exact⟨y,fz hy,e⟩
theorem Ot(h:aX c ne s0 i fs ms)(h':aX c ne s0 j fs' xn)(e:fs.length=fs'.length):fs=fs':=by
 have one:∀ {i j:Nat} {fs fs':Fs} {ms xn:ay (ay En×Nat)},aX c ne s0 i fs ms->aX c ne s0 j fs' xn->fs.length=fs'.length->i<=j->fs=fs':=fun h h' e le=>by
  obtain⟨_,_,more,_,g1,g2,_,_⟩:=lL h' _ le;obtain⟨rfl,rfl⟩:=oh g1 h;have:=congrArg List.length g2;rw[dj]at this;rw[g2,eR (l:=more) (by lia),iB]
 rcases Nat.le_total i j with z | z
 .exact one h h' e z
 .exact (one h' h e.symm z).symm
def qBS(R:Iz)(p:ay Nat):Prop:=(∀ y∈R,Wy.code y.2<=Wy.code p/\(∀ z∈y.2,z<8)/\y.2.length<=1000)/\(∀ z∈p,z<8)/\p.length<=1000
inductive qCQ(vs:List V)(H:Hp)(Q:VK)(E_:XK):Prop
 | mk (pw pq pr pd:Addr) (es:List En) (p:List Nat) (rv dv:List V) (R:Iz) (c:jl) (_:vs=[.ref pw,.ref pq,.ref pr,.ref pd]) (_:qJ9 H pw es) (_:H pq=some (.tup (aB p))) (_:H pr=some (.lst rv)) (_:H pd=some (.lst dv)) (_:pr≠pd) (_:pw≠pr) (_:pw≠pd) (_:Al (cR H) rv ((List.range c.rs.length).map fun r=>aL R (2*r))) (_:Al (cR H) dv ((List.range c.ds.length).map fun k=>aL R (2*k+1))) (_:(∀ e∈es,Ax c e)) (_:qBS R p) (_:∀(rv' dv':List V)(H':Hp),H' pr=some (.lst rv')->H' pd=some (.lst dv')->Al (cR H') rv' ((List.range c.rs.length).map fun r=>aL (R++[(es,p)]) (2*r))->Al (cR H') dv' ((List.range c.ds.length).map fun k=>aL (R++[(es,p)]) (2*k+1))->bH H H' [pr,pd] [pr,pd]->Q .non H')
theorem Rx(rm:qBS R p)(h:aL (R++[(es,p)]) x=some q):Wy.code q<=Wy.code p/\(∀ z∈q,z<8)/\q.length<=1000:=by
 obtain⟨y,hy,rfl⟩:=CW h;rcases cH.mp hy with hy | hy
 .exact rm.1 y hy
 .rw[bJ.mp hy];exact⟨bN _,rm.2.1,rm.2.2⟩
section
variable{P:ag}{w:aI}{K:cL}{mg:Str->aE ax}{base:Heap}{C CT:av}
theorem vN:aH ["_law_record","_law_way","_law_rooms_here","_law_doors_here","_law_entry"] ["_law_record","_law_way","_law_rooms_here","_law_doors_here"] (aC sG):=fJ
theorem qDA(F:dC K "_law_note" "_law_note" sG f fd)
  (uF:Dp P w K mg base aa m' g1 d1 ["_law_one","_law_other"] Wy.GQ "_law_behind"):aO P w K mg base aa (m'+1) f fd ["_law_record","_law_way","_law_rooms_here","_law_doors_here"] qCQ:=by
 refine F.ok vN ?_ ?_
 .rintro _ _ _ _⟨pw,pq,pr,pd,es,p,rv,dv,R,c,rfl,_⟩;rfl
 ext d
 ext a;obtain⟨pw,pq,pr,pd,es,p,rv,dv,R,c,rfl,⟨wv,Aq,hA⟩,hpq,hpr,hpd,nrd,nwr,nwd,hR,hD,en,rm,q⟩:=h;ext b
 refine⟨_,(zG (cC PassesOwn.never rfl (yM (pv 0)) (yJ (i:=4) vN.nd rfl (bb rfl))
  (zZ (yD (bj (PW.pt (pw_and (zL yG (yB zH (pv 4) zB (fun _ _=>rfl)) zP (zR _)) (yP (PW.pt (pw_or (zL uf (yB yU (pv 2) (yB zH (pv 4) zB (fun _ _=>rfl)) (fun _ _=>rfl)) cQ (zR _)) (pw_or1 (fY (pC uF hr (zA (yB yU (pv 2) (yB zH (pv 4) zB (fun _ _=>rfl)) (fun _ _=>rfl)) (zA (pv 1) zD)))))))))))
  (zG (xW (pv 1) (K1 (pv 2) (yB zH (pv 4) zB (fun _ _=>rfl)) set_list)))
  zT)
  (zG (yD (bj (PW.pt (pw_and (zL yG (yB zH (pv 4) zB (fun _ _=>rfl)) zP (zR _)) (yP (PW.pt (pw_or (zL uf (yB yU (pv 3) (yB zH (pv 4) zB (fun _ _=>rfl)) (fun _ _=>rfl)) cQ (zR _)) (pw_or1 (fY (pC uF hr (zA (yB yU (pv 3) (yB zH (pv 4) zB (fun _ _=>rfl)) (fun _ _=>rfl)) (zA (pv 1) zD)))))))))))
  (zG (xW (pv 1) (K1 (pv 3) (yB zH (pv 4) zB (fun _ _=>rfl)) set_list)))
  zT))))),?_⟩
 have lA:=hA.length
 have nt:∀ {b:av} {xs:ay V},H b=some (.tup xs)->b∉[pr,pd]:=fun e z=>by
  rcases bL.mp z with z | z
  .rw[z,hpr]at e;cases e
  .rw[bJ.mp z,hpd]at e;cases e
 have kt:∀ {H':Hp},bH H H' [pr,pd] [pr,pd]->aA H H':=fun st b xs e=>st.rest b _ e (nt e)
 have e0:∀ x,aL (R++[([],p)]) x=aL R x:=fun x=>by
  rw[dM]
  cases aL R x with
  | some q=>rfl
  | none=>rfl
 have nw:pw∉[pr,pd]:=fun z=>by
  rcases bL.mp z with z | z
  .exact nwr z
  .exact nwd (bJ.mp z)
 refine⟨_,rfl,pw,rfl,⟨_,aV.of Aq⟩,?_⟩;refine lH (K:=K) (a:=pw) (xs:=wv) (fun i σ' H'=>∃(rv' dv':ay V)(o:aE V),σ'=[some (.ref pw),some (.ref pq),some (.ref pr),some (.ref pd),o]/\H' pr=some (.lst rv')/\H' pd=some (.lst dv')/\Al (cR H') rv' ((List.range c.rs.length).map fun r=>aL (R++[(es.take i,p)]) (2*r))/\Al (cR H') dv' ((List.range c.ds.length).map fun k=>aL (R++[(es.take i,p)]) (2*k+1))/\bH H H' [pr,pd] [pr,pd])
  (fM rv dv none ⟨rfl,hpr,hpd,?_,?_,bH.same _ (aG.refl _)⟩) ?_ ?_ ?_
 .rw[show (fun r=>aL (R++[(es.take 0,p)]) (2*r))=fun r=>aL R (2*r) from funext fun r=>e0 _];exact hR
 .rw[show (fun r=>aL (R++[(es.take 0,p)]) (2*r+1))=fun r=>aL R (2*r+1) from funext fun r=>e0 _];exact hD
 .rintro i σ' H' _ aQ;ext a;obtain⟨_,_,_,_,_,_,_,_,st⟩:=aQ;ext b;exact aV.of (st.rest _ _ Aq nw)
 .rintro i x σ' H1 hx aQ;ext a;obtain⟨Wn,dv1,o,rfl,Kq,qBD,hR1,hD1,st1⟩:=aQ
  have hi:i<es.length:=by
   have:=(fO.mp hx).1;lia
  have ei:=gM hi;obtain⟨v,hv,a,rfl,ha⟩:=hA.get ei;ext b;rw[hv]at hx;obtain rfl:=jX hx
  have et:es.take (i+1)=es.take i++[es[i]]:=by rw[iV,ei];rfl
  have ok:=en _ (jT hi);have ha1:=kt st1 _ _ ha;have qEA:=kt st1 _ _ hpq;refine⟨fun σ2 H2 => ∃(qX Qw:ay V),σ2=[some (.ref pw),some (.ref pq),some (.ref pr),some (.ref pd),some (.ref a)]/\H2 pr=some (.lst qX)/\H2 pd=some (.lst Qw)/\Al (cR H2) qX ((List.range c.rs.length).map fun r=>aL (R++[(es.take (i+1),p)]) (2*r))/\Al (cR H2) Qw ((List.range c.ds.length).map fun k=>aL (R++[(es.take i,p)]) (2*k+1))/\bH H H2 [pr,pd] [pr,pd],?_,?_⟩
  .by_cases hc:∃ k,es[i] = .inn k
   · obtain⟨k,ek⟩:=hc
     have hk:k<c.rs.length:=by rw[ek]at ok;exact ok
     have Ug:=ha1;rw[ek]at Ug;have hrow:H1 a=some (.tup [V.str ("in" : Str),.int (k:Int)]):=Ug;ext a;obtain⟨v,hv,ho⟩:=hR1.get (k:=k) (r:=aL (R++[(es.take i,p)]) (2*k)) (by rw[dD,Oq hk];rfl);ext b;have hat:=yQ hv
     cases hf:aL (R++[(es.take i,p)]) (2*k) with
     | none=>
     rw[hf]at ho;obtain rfl:v = .non:=ho;refine⟨fun c' H'=>H1=H'/\c'=true,⟨_,rfl,a,_,_,V.str ("in" : Str),rfl,rfl,aM.of hrow,rfl,rfl,_,rfl,zx rfl ⟨_,rfl,_,rfl,a,_,_,V.int (k:Int),rfl,rfl,aM.of hrow,rfl,az (aV.of Kq) hat ⟨rfl,_,rfl,zx rfl ⟨rfl,rfl⟩⟩⟩⟩,?_⟩;rintro c' _ ⟨rfl,rfl⟩;refine zx rfl ?_;have lk:k<Wn.length:=(fO.mp hv).1;refine⟨_,rfl,_,rfl,_,rfl,a,_,_,V.int (k:Int),rfl,rfl,aM.of hrow,rfl,pr,Wn,(k:Int),k,rfl,rfl,Kq,Nt lk,?_⟩;have kl:=aA.lst Kq (.lst (Wn.set k (.ref pq)));have r9:∀ b,b≠pr->upd H1 pr (.lst (Wn.set k (.ref pq))) b=H1 b:=fun b z=>zQ z;have i9:upd H1 pr (.lst (Wn.set k (.ref pq))) pr=some (.lst (Wn.set k (.ref pq))):=zC;generalize upd H1 pr (.lst (Wn.set k (.ref pq)))=H9 at kl r9 i9 ⊢
     have st9:bH H H9 [pr,pd] [pr,pd]:=⟨fun b hb=>.inl hb,fun b o' e nb=>by
      rw[r9 b fun z=>nb (by rw[z];simp)]
      exact st1.rest b o' e nb⟩
     have al9:=VP (hR1.mono fun _ _ z=>cR.mono z kl) (v:=.ref pq) (o:=some p) ⟨pq,rfl,kl _ _ qEA⟩ k
     rw[map_set (g:=fun r=>aL (R++[(es.take (i+1),p)]) (2*r)) (fun _=>by
      show aL (R++[(es.take (i+1),p)]) (2*k)=some p;rw[et,fB,hf,ek]
      exact cE rfl) (fun r hr=>by
      show aL (R++[(es.take (i+1),p)]) (2*r)=aL (R++[(es.take i,p)]) (2*r);rw[et,fB]
      cases aL (R++[(es.take i,p)]) (2*r) with
      | some q=>rfl
      | none=>
       rw[ek]
       exact cy fun z=>hr (by have:=jX z;lia))]at al9
     exact au _ dv1 ⟨rfl,i9,by rw[r9 _ (bt nrd)];exact qBD,al9,hD1.mono fun _ _ z=>cR.mono z kl,st9⟩
     | some q0=>
     rw[hf]at ho;ext a;obtain⟨b0,rfl,hb0⟩:=ho;obtain⟨w1,w2,w3⟩:=Rx rm hf;ext b
     have same:(fun r=>aL (R++[(es.take (i+1),p)]) (2*r))=fun r=>aL (R++[(es.take i,p)]) (2*r):=funext fun r=>by
      rw[et,fB]
      by_cases z:r=k
      .subst z;rw[hf]
      .cases aL (R++[(es.take i,p)]) (2*r) with
       | some q=>rfl
       | none=>
        rw[ek];exact cy fun y=>z (by have:=jX y;lia)
     refine⟨fun c' H'=>H1=H'/\c'=false,⟨_,rfl,a,_,_,V.str ("in" : Str),rfl,rfl,aM.of hrow,rfl,rfl,_,rfl,zx rfl ⟨_,rfl,_,rfl,a,_,_,V.int (k:Int),rfl,rfl,aM.of hrow,rfl,az (aV.of Kq) hat ⟨rfl,_,rfl,nT rfl ⟨_,rfl,_,rfl,a,_,_,V.int (k:Int),rfl,rfl,aM.of hrow,rfl,az (aV.of Kq) hat ⟨_,rfl,b0,pq,q0,p,rfl,hb0,qEA,w2,rm.2.1,w3,_,rfl,rfl,bo (by lia)⟩⟩⟩⟩⟩,?_⟩;rintro c' _ ⟨rfl,rfl⟩;refine nT rfl ?_;exact au Wn dv1 ⟨rfl,Kq,qBD,by rw[same];exact hR1,hD1,st1⟩
   .have same:(fun r=>aL (R++[(es.take (i+1),p)]) (2*r))=fun r=>aL (R++[(es.take i,p)]) (2*r):=funext fun r=>by
     rw[et,fB]
     cases aL (R++[(es.take i,p)]) (2*r) with
     | some q=>rfl
     | none=>
      refine cy fun z=>hc ?_;revert z
      cases es[i] with
      | inn k=>exact fun _=>⟨k,rfl⟩
      | door k=>exact fun z=>dP (jX z) (by lia)
      | out k=>exact nofun
      | thr k=>exact nofun
      | take k=>exact nofun
      | rc k=>exact nofun
    ext a;obtain⟨s1,x1,r1,er,_,y1⟩:=V2 es[i] false 0;ext b;have Ug:=ha1;rw[er]at Ug
    have ns:decide (V.str s1=V.str ("in" : Str))=false:=by
     cases z:decide (V.str s1=V.str ("in" : Str)) with
     | false=>rfl
     | true=>
      exfalso;apply hc;revert er z
      cases es[i] with
      | inn k=>exact fun _ _=>⟨k,rfl⟩
      | door k=>exact fun er z=>by cases er;exact dP z (by ext y)
      | out k=>exact fun er z=>by cases er;exact dP z (by ext y)
      | thr k=>exact fun er z=>by cases er;exact dP z (by ext y)
      | take k=>exact fun er z=>by cases er;exact dP z (by ext y)
      | rc k=>cases k <;> exact fun er z=>by cases er;exact dP z (by ext y)
    refine⟨fun c' H'=>H1=H'/\c'=false,⟨_,rfl,a,_,_,V.str s1,rfl,rfl,aM.of Ug,yQ (j:=0) (v:=V.str s1) rfl,rfl,_,rfl,nT ns ⟨rfl,rfl⟩⟩,?_⟩;rintro c' _ ⟨rfl,rfl⟩;refine nT rfl ?_;exact au Wn dv1 ⟨rfl,Kq,qBD,by rw[same];exact hR1,hD1,st1⟩
  rintro _ H2 aQ;ext a;obtain⟨qX,Qw,rfl,QG,Kr,hR2,hD2,st2⟩:=aQ;ext b;have ha2:=kt st2 _ _ ha;have qE9:=kt st2 _ _ hpq
  by_cases hc:∃ k,es[i] = .door k
  · obtain⟨k,ek⟩:=hc
    have hk:k<c.ds.length:=by rw[ek]at ok;exact ok
    have Ug:=ha2;rw[ek]at Ug;have hrow:H2 a=some (.tup [V.str ("door" : Str),.int (k:Int)]):=Ug;ext a;obtain⟨v,hv,ho⟩:=hD2.get (k:=k) (r:=aL (R++[(es.take i,p)]) (2*k+1)) (by rw[dD,Oq hk];rfl);ext b;have hat:=yQ hv
    cases hf:aL (R++[(es.take i,p)]) (2*k+1) with
    | none=>
    rw[hf]at ho;obtain rfl:v = .non:=ho;refine⟨fun c' H'=>H2=H'/\c'=true,⟨_,rfl,a,_,_,V.str ("door" : Str),rfl,rfl,aM.of hrow,rfl,rfl,_,rfl,zx rfl ⟨_,rfl,_,rfl,a,_,_,V.int (k:Int),rfl,rfl,aM.of hrow,rfl,az (aV.of Kr) hat ⟨rfl,_,rfl,zx rfl ⟨rfl,rfl⟩⟩⟩⟩,?_⟩;rintro c' _ ⟨rfl,rfl⟩;refine zx rfl ?_;have lk:k<Qw.length:=(fO.mp hv).1;refine⟨_,rfl,_,rfl,_,rfl,a,_,_,V.int (k:Int),rfl,rfl,aM.of hrow,rfl,pd,Qw,(k:Int),k,rfl,rfl,Kr,Nt lk,?_⟩;have kl:=aA.lst Kr (.lst (Qw.set k (.ref pq)));have r9:∀ b,b≠pd->upd H2 pd (.lst (Qw.set k (.ref pq))) b=H2 b:=fun b z=>zQ z;have i9:upd H2 pd (.lst (Qw.set k (.ref pq))) pd=some (.lst (Qw.set k (.ref pq))):=zC;generalize upd H2 pd (.lst (Qw.set k (.ref pq)))=H9 at kl r9 i9 ⊢
    have st9:bH H H9 [pr,pd] [pr,pd]:=⟨fun b hb=>.inl hb,fun b o' e nb=>by
     rw[r9 b fun z=>nb (by rw[z];simp)]
     exact st2.rest b o' e nb⟩
    have al9:=VP (hD2.mono fun _ _ z=>cR.mono z kl) (v:=.ref pq) (o:=some p) ⟨pq,rfl,kl _ _ qE9⟩ k
    rw[map_set (g:=fun r=>aL (R++[(es.take (i+1),p)]) (2*r+1)) (fun _=>by
     show aL (R++[(es.take (i+1),p)]) (2*k+1)=some p;rw[et,fB,hf,ek]
     exact cE rfl) (fun r hr=>by
     show aL (R++[(es.take (i+1),p)]) (2*r+1)=aL (R++[(es.take i,p)]) (2*r+1);rw[et,fB]
     cases aL (R++[(es.take i,p)]) (2*r+1) with
     | some q=>rfl
     | none=>
      rw[ek]
      exact cy fun z=>hr (by have:=jX z;lia))]at al9
    exact fM qX _ _ ⟨rfl,by rw[r9 _ nrd];exact QG,i9,hR2.mono fun _ _ z=>cR.mono z kl,al9,st9⟩
    | some q0=>
    rw[hf]at ho;ext a;obtain⟨b0,rfl,hb0⟩:=ho;obtain⟨w1,w2,w3⟩:=Rx rm hf;ext b
    have same:(fun r=>aL (R++[(es.take (i+1),p)]) (2*r+1))=fun r=>aL (R++[(es.take i,p)]) (2*r+1):=funext fun r=>by
     rw[et,fB]
     by_cases z:r=k
     .subst z;rw[hf]
     .cases aL (R++[(es.take i,p)]) (2*r+1) with
      | some q=>rfl
      | none=>
       rw[ek];exact cy fun y=>z (by have:=jX y;lia)
    refine⟨fun c' H'=>H2=H'/\c'=false,⟨_,rfl,a,_,_,V.str ("door" : Str),rfl,rfl,aM.of hrow,rfl,rfl,_,rfl,zx rfl ⟨_,rfl,_,rfl,a,_,_,V.int (k:Int),rfl,rfl,aM.of hrow,rfl,az (aV.of Kr) hat ⟨rfl,_,rfl,nT rfl ⟨_,rfl,_,rfl,a,_,_,V.int (k:Int),rfl,rfl,aM.of hrow,rfl,az (aV.of Kr) hat ⟨_,rfl,b0,pq,q0,p,rfl,hb0,qE9,w2,rm.2.1,w3,_,rfl,rfl,bo (by lia)⟩⟩⟩⟩⟩,?_⟩;rintro c' _ ⟨rfl,rfl⟩;refine nT rfl ?_;exact fM qX Qw _ ⟨rfl,QG,Kr,hR2,by rw[same];exact hD2,st2⟩
  .have same:(fun r=>aL (R++[(es.take (i+1),p)]) (2*r+1))=fun r=>aL (R++[(es.take i,p)]) (2*r+1):=funext fun r=>by
    rw[et,fB]
    cases aL (R++[(es.take i,p)]) (2*r+1) with
    | some q=>rfl
    | none=>
     refine cy fun z=>hc ?_;revert z
     cases es[i] with
     | inn k=>exact fun z=>dP (jX z) (by lia)
     | door k=>exact fun _=>⟨k,rfl⟩
     | out k=>exact nofun
     | thr k=>exact nofun
     | take k=>exact nofun
     | rc k=>exact nofun
   ext a;obtain⟨s1,x1,r1,er,_,y1⟩:=V2 es[i] true 0;ext b;have Ug:=ha2;rw[er]at Ug
   have ns:decide (V.str s1=V.str ("door" : Str))=false:=by
    cases z:decide (V.str s1=V.str ("door" : Str)) with
    | false=>rfl
    | true=>
     exfalso;apply hc;revert er z
     cases es[i] with
     | inn k=>exact fun er z=>by cases er;exact dP z (by ext y)
     | door k=>exact fun _ _=>⟨k,rfl⟩
     | out k=>exact fun er z=>by cases er;exact dP z (by ext y)
     | thr k=>exact fun er z=>by cases er;exact dP z (by ext y)
     | take k=>exact fun er z=>by cases er;exact dP z (by ext y)
     | rc k=>cases k <;> exact fun er z=>by cases er;exact dP z (by ext y)
   refine⟨fun c' H'=>H2=H'/\c'=false,⟨_,rfl,a,_,_,V.str s1,rfl,rfl,aM.of Ug,yQ (j:=0) (v:=V.str s1) rfl,rfl,_,rfl,nT ns ⟨rfl,rfl⟩⟩,?_⟩;rintro c' _ ⟨rfl,rfl⟩;refine nT rfl ?_;exact fM qX Qw _ ⟨rfl,QG,Kr,hR2,by rw[same];exact hD2,st2⟩
 .rintro σ' H' aQ;ext a;obtain⟨rv',dv',o,rfl,h1,h2,h3,h4,st⟩:=aQ;ext b;rw[lA,gL]at h3 h4;exact q rv' dv' H' h1 h2 h3 h4 st
end
def Lo(os:ay (aE (ay Nat))):Prop:=∀ p,some p∈os->p.length<=100000
inductive RM(vs:List V)(H:Hp)(Q:VK)(E_:XK):Prop
 | mk (pf pd:Addr) (fv dv:List V) (os:List (Option (List Nat))) (_:vs=[.ref pf,.ref pd]) (_:H pf=some (.lst fv)) (_:H pd=some (.lst dv)) (_:Al (cR H) fv os) (_:Al (cR H) dv os) (_:os.length<=1000) (_:Lo os) (_:Q (.bl true) H)
inductive MP(n:Nat)(vs:List V)(H:Hp)(Q:VK)(E_:XK):Prop
 | mk (pc:Addr) (m:Nat) (c:jl) (bs:List (Int×Int)) (ne:Nat) (_:vs=[.ref pc,.int (m:Int)]) (_:vI.Vq H pc c bs ne) (_:vI.zj c bs) (_:3<=n) (_:1<=m) (_:m<=300) (_:ne<=8) (_:∀(bf:List En)(s0:S4),JH c bs bf s0->bf.length<=1000000->(∀(N:Nat)(fs:Fs)(ms:List (List En×Nat))(t2 t tw pr as:Addr)(rv sv:List V)(H':Hp),H' t2=some (.tup [.ref t,.non])->aX c ne s0 (N*ne) fs ms->fs.length=N->N<=m->ig c fs->H' t=some (.tup [.ref tw,.ref pr,.ref as])->H' pr=some (.lst rv)->Al (cg H') rv (rowsOf c ne fs ms N)->H' as=some (.lst sv)->Al (vC H') sv (fs.map (·.1))->aG H H'->Q (.ref t2) H')/\(∀(i:Nat)(fs:Fs)(ms:List (List En×Nat))(t2 pl:Addr)(pv:List V)(H':Hp),aX c ne s0 i fs ms->fs.length=m+1->H' t2=some (.tup [.non,.ref pl])->H' pl=some (.lst pv)->Al (qM H') pv (fs.map (·.2))->aG H H'->H pl=none->Q (.ref t2) H'))
inductive Ys(n:Nat)(vs:List V)(H:Hp)(Q:VK)(E_:XK):Prop
 | mk (pc:Addr) (m:Nat) (c:jl) (bs:List (Int×Int)) (ne:Nat) (bf:List En) (s0:S4) (i:Nat) (fs:Fs) (ms:List (List En×Nat)) (_:vs=[.ref pc,.int (m:Int)]) (_:vI.Vq H pc c bs ne) (_:vI.zj c bs) (_:3<=n) (_:1<=m) (_:m<=300) (_:ne<=8) (_:JH c bs bf s0) (_:aX c ne s0 i fs ms) (_:fs.length=m+1) (_:∀(pl:Addr)(pv:List V)(H':Hp),H' pl=some (.lst pv)->Al (qM H') pv (fs.map (·.2))->aG H H'->H pl=none->Q (.ref pl) H')
theorem nY:aH ["_law_found","_law_due","_law_k","_law_j"] ["_law_found","_law_due"] (aC sE):=fJ
theorem XS(F:dC K "_law_told" "_law_told" sE f fd)
  (J9:Dp P w K mg base aa m' g1 d1 ["_law_found"] M5 "_law_whole")
  (aP:mg "len" = none) (aW:mg "range" = none) (cV:mg "isinstance" = none) (aY:mg "tuple" = none) (jG:mg "list" = none):aO P w K mg base aa (m'+1) f fd ["_law_found","_law_due"] RM:=by
 refine F.ok nY ?_ ?_
 .rintro _ _ _ _⟨pf,pd,fv,dv,os,rfl,_⟩;rfl
 ext d
 ext a;obtain⟨pf,pd,fv,dv,os,rfl,hpf,hpd,hF,hD,lo,sh,q⟩:=h;ext b
 refine⟨_,(zE (yD (bj (PW.pt (pw_or (oH (fY (zS iM rfl cV R1 (zA (pv 0) (zA (tD (v:=.ty "list") rfl jG kc rfl) zD))))) (pw_or1 (zL qZ (zS zN rfl aP bU (zA (pv 0) zD)) (zS zN rfl aP bU (zA (pv 1) zD)) (zR _))))))
  (zG (zO kj))
  zT)
  (zZ (cC PassesOwn.never rfl (bM rfl aW (zA (zS zN rfl aP bU (zA (pv 1) zD)) zD)) (yJ (i:=2) nY.nd rfl (bb rfl))
  (zE (yD (bj (PW.pt (pw_and (zL uf (yB yU (pv 1) (pv 2) (fun _ _=>rfl)) cQ (zR _)) (yP (zL wF (yB yU (pv 0) (pv 2) (fun _ _=>rfl)) cQ (zR _))))))
  (zG (zO kj))
  zT)
  (zE (yD (bj (PW.pt (pw_and (zL wF (yB yU (pv 1) (pv 2) (fun _ _=>rfl)) cQ (zR _)) (yP (PW.pt (pw_or (oH (fY (zS iM rfl cV R1 (zA (yB yU (pv 0) (pv 2) (fun _ _=>rfl)) (zA (tD (v:=.ty "tuple") rfl aY nF rfl) zD))))) (pw_or1 (zL qZ (zS zN rfl aP bU (zA (yB yU (pv 0) (pv 2) (fun _ _=>rfl)) zD)) (zS zN rfl aP bU (zA (yB yU (pv 1) (pv 2) (fun _ _=>rfl)) zD)) (zR _)))))))))
  (zG (zO kj))
  zT)
  (zG (yD (zL wF (yB yU (pv 1) (pv 2) (fun _ _=>rfl)) cQ (zR _))
  (zG (cC PassesOwn.never rfl (bM rfl aW (zA (zS zN rfl aP bU (zA (yB yU (pv 1) (pv 2) (fun _ _=>rfl)) zD)) zD)) (yJ (i:=3) nY.nd rfl (bb rfl))
  (zG (yD (bj (PW.pt (pw_or (oH (fY (pC J9 hr (zA (yB zH (yB yU (pv 0) (pv 2) (fun _ _=>rfl)) (pv 3) (fun _ _=>rfl)) zD)))) (pw_or1 (zL qZ (yB zH (yB yU (pv 0) (pv 2) (fun _ _=>rfl)) (pv 3) (fun _ _=>rfl)) (yB zH (yB yU (pv 1) (pv 2) (fun _ _=>rfl)) (pv 3) (fun _ _=>rfl)) (zR _))))))
  (zG (zO kj))
  zT))))
  zT)))))
  (zG (zO kj)))),?_⟩
 ext f;have lF:=hF.length;have lD:=hD.length;refine⟨fun c' H'=>H=H'/\c'=false,⟨_,rfl,jV _ ("list") _ true ⟨rfl,.lst hpf,by rfl,_,rfl,nT rfl ⟨_,rfl,fL rfl (.inl (aV.of hpf)) ⟨_,rfl,fL rfl (.inl (aV.of hpd)) ⟨rfl,_,rfl,rfl,by rw[lF,lD];simp⟩⟩⟩⟩⟩,?_⟩;rintro c' _ ⟨rfl,rfl⟩;refine nT rfl ?_;ext g;refine⟨fun σ' H'=>H=H',?_,?_⟩
 .refine⟨_,rfl,fL rfl (.inl (aV.of hpd)) ⟨_,rfl,by lia,by lia,?_⟩⟩;refine bu (lo:=0) (fun i σ' H'=>H=H'/\∃ o2 o3:aE V,σ'=[some (.ref pf),some (.ref pd),o2,o3]) ⟨rfl,au _ _ rfl⟩ ?_ (fun σ' H' z=>z.1);rintro i σ' _ hi aQ;refine Q0 fun _ aK _ x_1=>?_;ext a;obtain⟨rfl,o2,o3,rfl⟩:=aQ
  have hi:i<os.length:=by lia
  have ei:=gM hi;obtain⟨v,hv,ho⟩:=hF.get ei;obtain⟨u,hu,ho'⟩:=hD.get ei;ext b
  have hat:rK fv (0+(i:Int))=some v:=by rw[c9];exact yQ hv
  have Y4:rK dv (0+(i:Int))=some u:=by rw[c9];exact yQ hu
  cases hoi:os[i] with
  | none=>
   rw[hoi]at ho ho';obtain rfl:v = .non:=ho;obtain rfl:u = .non:=ho';refine⟨fun c' H'=>H=H'/\c'=false,⟨_,rfl,_,rfl,az (aV.of hpd) Y4 ⟨rfl,_,rfl,zx rfl ⟨_,rfl,_,rfl,az (aV.of hpf) hat ⟨rfl,_,rfl,rfl,rfl⟩⟩⟩⟩,?_⟩;rintro c' _ ⟨rfl,rfl⟩;refine nT rfl ?_;ext e;refine⟨fun c' H'=>H=H'/\c'=false,⟨_,rfl,_,rfl,az (aV.of hpd) Y4 ⟨rfl,_,rfl,nT rfl ⟨rfl,rfl⟩⟩⟩,?_⟩;rintro c' _ ⟨rfl,rfl⟩;refine nT rfl ?_;refine x_1 ?_;clear x_1;exact⟨_,rfl,_,rfl,az (aV.of hpd) Y4 ⟨rfl,_,rfl,nT rfl (aK ⟨rfl,au _ _ rfl⟩)⟩⟩
  | some p=>
   have lp:=sh p (by rw[<-hoi];exact jT hi);rw[hoi]at ho ho';ext a;obtain⟨a,rfl,ha⟩:=ho;obtain⟨b,rfl,hb⟩:=ho';ext b;refine⟨fun c' H'=>H=H'/\c'=false,⟨_,rfl,_,rfl,az (aV.of hpd) Y4 ⟨rfl,_,rfl,nT rfl ⟨rfl,rfl⟩⟩⟩,?_⟩;rintro c' _ ⟨rfl,rfl⟩;refine nT rfl ?_;ext e;refine⟨fun c' H'=>H=H'/\c'=false,⟨_,rfl,_,rfl,az (aV.of hpd) Y4 ⟨rfl,_,rfl,zx rfl ⟨_,rfl,_,rfl,az (aV.of hpf) hat (jV _ ("tuple") _ true ⟨rfl,.tup ha,by rfl,_,rfl,nT rfl ⟨_,rfl,_,rfl,az (aV.of hpf) hat (fL rfl (.inr (aM.of ha)) ⟨_,rfl,_,rfl,az (aV.of hpd) Y4 (fL rfl (.inr (aM.of hb)) ⟨rfl,_,rfl,rfl,by simp⟩)⟩)⟩⟩)⟩⟩⟩,?_⟩;rintro c' _ ⟨rfl,rfl⟩;refine nT rfl ?_;refine x_1 ?_;clear x_1;refine⟨_,rfl,_,rfl,az (aV.of hpd) Y4 ⟨rfl,_,rfl,zx rfl ?_⟩⟩;refine⟨_,rfl,_,rfl,az (aV.of hpd) Y4 (fL rfl (.inr (aM.of hb)) ⟨_,rfl,by lia,by rw[zU];lia,?_⟩)⟩;refine bu (lo:=0) (fun j σ' H'=>H=H'/\∃ o3:aE V,σ'=[some (.ref pf),some (.ref pd),some (.int (0+(i:Int))),o3]) ⟨rfl,_,rfl⟩ ?_ (fun σ' H' ⟨z,o,y⟩=>aK ⟨z,au _ o y⟩);rintro j σ' _ hj aQ;ext a;obtain⟨rfl,o3,rfl⟩:=aQ;ext b;rw[zU]at hj
   have hj:j<p.length:=by lia
   have ej:(aB p)[j]? = some (.int ((p[j]:Nat):Int)):=by unfold aB;rw[dD,gM hj];rfl
   have haj:rK (aB p) (0+(j:Int))=some (.int ((p[j]:Nat):Int)):=by rw[c9];exact yQ ej
   refine⟨fun c' H'=>H=H'/\c'=false,⟨_,rfl,_,rfl,az (aV.of hpf) hat ⟨_,rfl,aF (aM.of ha) haj ⟨_,rfl,_,rfl,nT rfl ⟨_,rfl,_,rfl,az (aV.of hpf) hat ⟨_,rfl,aF (aM.of ha) haj ⟨_,rfl,_,rfl,az (aV.of hpd) Y4 ⟨_,rfl,aF (aM.of hb) haj ⟨rfl,_,rfl,rfl,by simp⟩⟩⟩⟩⟩⟩⟩⟩,?_⟩;rintro c' _ ⟨rfl,rfl⟩;exact nT rfl ⟨rfl,_,rfl⟩
 .rintro _ _ rfl;exact q
theorem ni:aH ["_law_chart_here","_law_most","_law_found","e"] ["_law_chart_here","_law_most"] (aC sJ):=fJ
theorem T8(F:dC K "_law_flat" "_law_flat" sJ f fd)
  (Ff:Dp P w K mg base (qK P w) m' g1 d1 ["chart","most"] (RZ CT n) "flat")
  (lB:mg "TooWide" = some (.ref CT)) (uO:PySem.W.exmOne K (.ref CT) (.ref CT)=some true) (qQ:Qk K CT) (q:Aw K CT "ways"):aO P w K mg base aa (m'+1) f fd ["_law_chart_here","_law_most"] (MP n):=by
 refine F.ok ni ?_ ?_
 .rintro _ _ _ _⟨pc,m,c,bs,ne,rfl,_⟩;rfl
 ext d
 ext a;obtain⟨pc,m,c,bs,ne,rfl,hX,ok,n3,m1,Tu,Bs,qq⟩:=h;ext b
 refine⟨_,(zE (Gu (i:=3) (Wv (i:=2) ni.nd rfl (bb rfl) (Gv Ff.G hr rfl Ff.m Ff.k Ff.b .nil (zA (pv 0) (zA (pv 1) zD)))) rfl lB ni.nd rfl rfl
   (fun _=>(zG (zO (zW (zA cQ (zA (show PE _ _ (RD K (Ab 3) "ways") from N8 (pv 3) rfl) zD)))))))
  (zG (zO (zW (zA (pv 2) (zA cQ zD)))))),?_⟩
 ext f;refine⟨_,rfl,_,rfl,pc,m,c,bs,ne,rfl,hX,ok,n3,m1,Tu,Bs,fun bf s0 BR Xv=>⟨fun N fs ms t tw pr as rv sv _ a1 a2 a3 a4 a5 _ a7 a8 a9 a10 a11 _ _ _=>?_,fun i fs ms FR fl dx pl pv H2 st _ z2 z3 z4 z5=>⟨CT,rfl,uO,fun ea hea=>?_⟩⟩⟩;ext g
 .refine⟨_,rfl,zI (by show 2<=1000;decide),fun t2 zy=>?_⟩;have s2:=zF zy (.tup [V.ref t,V.non]);exact (qq bf s0 BR Xv).1 N fs ms t2 t tw pr as rv sv _ zC a1 a2 a3 a4 (s2 _ _ a5) (s2 _ _ a7) (a8.mono fun _ _ z=>cg.mono z (aA.of s2)) (s2 _ _ a9) (a10.mono fun _ _ z=>z.mono (aA.of s2)) (a11.trans s2)
 .have s2:aG H H2:=fun b o e=>st.rest b o e (by simp);have s3:=zF hea (tV ea CT (some dx));have i3:upd H2 ea (tV ea CT (some dx)) ea=some (tV ea CT (some dx)):=zC;generalize upd H2 ea (tV ea CT (some dx))=H3 at s3 i3 ⊢;refine⟨_,rfl,fM ea CT dx (au _ (V.ref pl) ⟨rfl,i3,qQ,q,s3 _ _ z3,rfl,zI (by show 2<=1000;decide),fun t2 zy=>?_⟩)⟩;have s4:=zF zy (.tup [V.non,V.ref pl]);have Vt:=s3.trans s4;exact (qq bf s0 BR Xv).2 i fs ms t2 pl pv _ FR fl zC (Vt _ _ z4) (z5.mono fun _ _ z=>z.mono (aA.of Vt)) (s2.trans Vt) z2
theorem iY:aH ["_law_chart_here","_law_most","e"] ["_law_chart_here","_law_most"] (aC dX):=fJ
theorem qAE(F:dC K "_law_seen_refused" "_law_seen_refused" dX f fd)
  (mZ:Dp P w K mg base (qK P w) m' g1 d1 ["chart","most"] (Jg CT n) "seen")
  (lB:mg "TooWide" = some (.ref CT)) (uO:PySem.W.exmOne K (.ref CT) (.ref CT)=some true) (qQ:Qk K CT) (q:Aw K CT "ways"):aO P w K mg base aa (m'+1) f fd ["_law_chart_here","_law_most"] (Ys n):=by
 refine F.ok iY ?_ ?_
 .rintro _ _ _ _⟨pc,m,c,bs,ne,bf,s0,i,fs,ms,rfl,_⟩;rfl
 ext d
 ext a;obtain⟨pc,m,c,bs,ne,bf,s0,i,fs,ms,rfl,hX,ok,n3,m1,Tu,Bs,BR,FR,fl,qq⟩:=h;ext b
 refine⟨_,(zE (Gu (i:=2) (Rz (Gv mZ.G hr rfl mZ.m mZ.k mZ.b .nil (zA (pv 0) (zA (pv 1) zD)))) rfl lB iY.nd rfl rfl
   (fun _=>(zG (zO (show PE _ _ (RD K (Ab 2) "ways") from N8 (pv 2) rfl)))))
  (zG (zO cQ))),?_⟩
 refine bD fun _ _=>?_;refine⟨_,rfl,_,rfl,pc,m,c,bs,ne,rfl,hX,ok,n3,m1,Tu,Bs,fun _ _ BR' _=>⟨fun N fs' xn t _ _ _ _ _ FR' Ft Nm=>?_,fun _ fs' xn FR' Ft dx pl pv H2 st _ z2 z3 z4 z5=>⟨CT,rfl,uO,fun ea hea=>?_⟩⟩⟩
 .obtain⟨rfl,rfl⟩:=uB BR BR';exact (HR FR' Ft Nm FR fl).elim
 .obtain⟨rfl,rfl⟩:=uB BR BR';have e:=Ot FR FR' (by lia);have s2:aG H H2:=fun b o e=>st.rest b o e (by simp);have s3:=zF hea (tV ea CT (some dx));have i3:upd H2 ea (tV ea CT (some dx)) ea=some (tV ea CT (some dx)):=zC;generalize upd H2 ea (tV ea CT (some dx))=H3 at s3 i3 ⊢;exact⟨_,rfl,fM ea CT dx (au _ (V.ref pl) ⟨rfl,i3,qQ,q,s3 _ _ z3,rfl,qq pl pv H3 (s3 _ _ z4) (by rw[e];exact z5.mono fun _ _ z=>z.mono (aA.of s3)) (s2.trans s3) z2⟩)⟩
theorem qD8:Passes (qK P w) X E0:=fun _ _ _ _ _ _ _ h=>by
 obtain⟨_,_,_,_,_,_,_,_,_,_,_,_,_,_,_,h⟩:=h;exact h.elim
theorem ZL(h:∀ v r,R v r->R' v (f r))(x:Al R vs rs):Wy.Al R' vs (rs.map f):=by
 induction x with
 | nil=>exact .nil
 | cons a _ ih=>exact .cons (h _ _ a) ih
theorem Yk{R:V->α->Prop}{R':V->β->Prop}{f:β->α}(h:∀ v r,R v (f r)->R' v r):∀ {rs:ay β} {vs:ay V},Wy.Al R vs (rs.map f)->Al R' vs rs
 | [],_,.nil=>.nil
 | _::_,_,.cons a b=>.cons (h _ _ a) (Yk h b)
theorem Zz(h:cg H v x):Wy.cg H v (x.2.map (·.2)):=by obtain⟨a,_,am,mv,rfl,h1,_,h3,h4⟩:=h;refine⟨a,am,_,mv,rfl,h1,h3,ZL (fun v r z=>?_) h4⟩;obtain⟨b,_,rfl,k1,_⟩:=z;exact⟨b,_,rfl,k1⟩
theorem Wq:(rowsOf c ne fs ms N).map (fun x=>x.2.map (·.2))=rT ne N ms:=by unfold rowsOf rT;rw[fo];rfl
theorem PL{fs:Fs}{ms:ay (ay En×Nat)}{m:ay En×Nat}(h:ms[i]? = some m):du bf ne fs (ms.take (i+1))=du bf ne fs (ms.take i)++[(m.1,fc fs ne i)]:=by have hi:=(fO.mp h).1;unfold du;rw[iV,h,show (some m).toList=[m] from rfl,qp,iS,iW,ij (by lia)];rfl
theorem Bg:∀ ms k y,y∈oG ne fs k ms->∃ j,k<=j/\j<k+ms.length/\y.2=fc fs ne j
 | [],_,_,h=>by cases h
 | m::ms,k,y,h=>by
  unfold oG at h;rcases bL.mp h with rfl | h
  .exact⟨k,bN _,by rw[cY];lia,rfl⟩
  .obtain⟨j,a,b,e⟩:=Bg ms (k+1) y h;exact⟨j,by lia,by rw[cY];lia,e⟩
theorem Dy(e8:ne<=8)(h:aX c ne s0 (N*ne) fs ms)(hl:fs.length=N)(N6:N<=300)(hi:i<N*ne):(∀ z∈fc fs ne i,z<8)/\(fc fs ne i).length<=1000:=by
 have O:=lK e8 h;have n0:=CQ h (by lia);obtain⟨x,hx⟩:∃ x,fs[i/ne]? = some x:=⟨_,gM (ph h i hi)⟩;have hl2:=(fO.mp hx).1;unfold fc;rw[hx];show (∀ z∈x.2++[i%ne],z<8)/\(x.2++[i%ne]).length<=1000;refine⟨fun z hz=>?_,?_⟩
 .rcases cH.mp hz with hz | hz
  .have:=O.ev x (zp hx) z hz;lia
  .rw[bJ.mp hz];have:=ix i n0;lia
 .rw[dj,gK];have:=O.len _ _ hx;lia
theorem Mx(e8:ne<=8)(h:aX c ne s0 (N*ne) fs ms)(hl:fs.length=N)(N6:N<=300)(bf:ay En)(hi:i<=N*ne):∀ y∈du bf ne fs (ms.take i),y.2=[] ∨ ∃ j,j<i/\y.2=fc fs ne j:=by
 intro y hy;unfold du at hy;rcases bL.mp hy with rfl | hy
 .exact .inl rfl
 .obtain⟨j,_,b,e⟩:=Bg _ _ _ hy;rw[iW]at b;exact .inr ⟨j,by lia,e⟩
theorem Ws(e8:ne<=8)(h:aX c ne s0 (N*ne) fs ms)(hl:fs.length=N)(N6:N<=300)(bf:ay En)(hi:i<N*ne):qBS (du bf ne fs (ms.take i)) (fc fs ne i):=by
 refine⟨fun y hy=>?_,Dy e8 h hl N6 hi⟩;rcases Mx e8 h hl N6 bf (hU hi) y hy with e | ⟨j,hj,e⟩
 .rw[e];exact⟨bg _,(fun z hz=>nomatch hz),bg _⟩
 .rw[e];exact⟨hU (Pb e8 h hi hj),Dy e8 h hl N6 (by lia)⟩
theorem Nj(e8:ne<=8)(h:aX c ne s0 (N*ne) fs ms)(hl:fs.length=N)(N6:N<=300)(bf:ay En)(n:Nat)(g:Nat->Nat):Lo ((List.range n).map fun r=>aL (du bf ne fs ms) (g r)):=by
 intro p hp;obtain⟨r,_,e⟩:=dU.mp hp;obtain⟨y,hy,rfl⟩:=CW e;have lm:=eF h;have:=Mx e8 h hl N6 bf (i:=N*ne) (bN _) y (by rw[vK (by lia)];exact hy);rcases this with e | ⟨j,hj,e⟩
 .rw[e];exact bg _
 .rw[e];have:=(Dy e8 h hl N6 hj).2;lia
theorem tE(h:Al (qM H) vs ps):Al (cR H) vs (ps.map some):=by
 induction h with
 | nil=>exact .nil
 | cons a _ ih=>exact .cons a ih
theorem FQ(g:Nat->Nat):∀ n:Nat,Al (cR H) (List.replicate n V.non) ((List.range n).map fun r=>aL [] (g r))
 | 0=>.nil
 | n+1=>by
  rw[gy,gu,iz];exact (FQ g n).snoc rfl
def RV(K:cL):Sp:=fun vs H Q _ => ∃(a:av)(ns:ay Int),vs=[.ref a]/\aV K H a (ns.map V.int)/\ns.length<=63/\∀ H',Q (.bl true) H'
theorem dG:aH ["_law_script","_law_chart_here","_law_most","_law_table","_law_wide","_law_found","_law_said_first","_law_rows","_law_stands","_law_roads","_law_rooms_here","_law_doors_here","_law_k","_law_event","_law_lap"] ["_law_script"] (aC qW):=fJ
theorem qAF{f g1 g2 g3 g4 g5 g6 g7 g8 g9 g10:av}{fd d1 d2 d3 d4 d5 d6 d7 d8 d9 d10:af}(F:dC K "law" "law" qW f fd)
  (JD:Dp P w K mg base aa m' g1 d1 ["_law_script"] (vI.Ma K) "_law_chart")
  (aN:Dp P w K mg base aa m' g2 d2 ["_law_script","_law_k","_law_salt"] (lQ K) "_law_mixed")
  (Lq:Dp P w K mg base aa m' g3 d3 ["_law_chart_here","_law_most"] (MP 3) "_law_flat")
  (jQ:Dp P w K mg base aa m' g4 d4 ["_law_chart_here","_law_most"] (Ys 3) "_law_seen_refused")
  (mj:Dp P w K mg base aa m' g5 d5 ["_law_found","_law_due"] RM "_law_told")
  (qBV:Dp P w K mg base aa m' g6 d6 ["rows"] Wy.RK "ways")
  (zg:Dp P w K mg base aa m' g7 d7 ["_law_record","_law_way","_law_rooms_here","_law_doors_here"] qCQ "_law_note")
  (uG:Dp P w K mg base aa m' g8 d8 ["chart"] (vq 3) "begun")
  (uH:Dp P w K mg base aa m' g9 d9 ["chart","stand","event"] (vy 3) "after")
  (mZ:Dp P w K mg base (qK P w) m' g10 d10 ["chart","most"] (Jg CT 3) "seen")
  (aP:mg "len" = none) (aW:mg "range" = none) (cV:mg "isinstance" = none) (aY:mg "tuple" = none) (Tp:mg "min" = none):aO P w K mg base aa (m'+1) f fd ["_law_script"] (RV K):=by
 refine F.ok dG ?_ ?_
 .rintro _ _ _ _⟨a,ns,rfl,_⟩;rfl
 ext d
 ext a;obtain⟨a,ns,rfl,hS,h63,q⟩:=h;ext b
 refine⟨_,(zE (zK (i:=1) dG.nd rfl (bb rfl) (pC JD hr (zA (pv 0) zD)))
  (zE (zK (i:=2) dG.nd rfl (bb rfl) (yB yU (yK (zA zB (zA zB (zA zB (zA (yC yF zB (yC zY (pC aN hr (zA (pv 0) (zA zB (zA zB zD)))) zB)) zD))))) (yC zY (pC aN hr (zA (pv 0) (zA zB (zA zB zD)))) zB) (fun _ _=>rfl)))
  (zZ (yD (zL iH (zS zN rfl aP bU (zA (yB zH (pv 1) zB (fun _ _=>rfl)) zD)) zB (zR _))
  (zG (zK (i:=2) dG.nd rfl (bb rfl) (zS (Cg rfl) rfl Tp PyProof.Rows.boot_min (zA (pv 2) (zA zB zD)))))
  zT)
  (zE (xW (pC Lq hr (zA (pv 1) (zA (pv 2) zD))) (xX rfl (dI (yJ (i:=3) dG.nd rfl (bb rfl)) (dI (yJ (i:=4) dG.nd rfl (bb rfl)) t7))))
  (zE (yD (zL uf (pv 3) cQ (zR _))
  (zE (zK (i:=5) dG.nd rfl (bb rfl) (pC jQ hr (zA (pv 1) (zA (pv 2) zD))))
  (zE (yD (oH (fY (pC mj hr (zA (pv 5) (zA (pv 4) zD)))))
  (zG (zO kj))
  zT)
  (zE (yI (K4 il PySem.F.slot_list_clear PySem.F.type_list_clear HY (pv 5)))
  (zG (zO (pC mj hr (zA (pC jQ hr (zA (pv 1) (zA (pv 2) zD))) (zA (pv 4) zD))))))))
  zT)
  (zE (xW (pv 3) (xX rfl (dI (yJ (i:=6) dG.nd rfl (bb rfl)) (dI (yJ (i:=7) dG.nd rfl (bb rfl)) (dI (yJ (i:=8) dG.nd rfl (bb rfl)) t7)))))
  (zE (zK (i:=9) dG.nd rfl (bb rfl) (pC qBV hr (zA (pv 7) zD)))
  (zE (lg (i:=10) (aj:=[]) rfl dG.nd rfl (bb rfl) (show bK (aC qW) ["_law_script","_law_chart_here","_law_most","_law_table","_law_wide","_law_found","_law_said_first","_law_rows","_law_stands","_law_roads","_law_rooms_here","_law_doors_here","_law_k","_law_event","_law_lap"] _ _ _ from vm) (oJ (yB zH (pv 1) zB (fun _ _=>rfl))) (fun _ _ _ _ _ _=>bc) (fun _ _ _ _ _ _=>cQ))
  (zE (lg (i:=11) (aj:=[]) rfl dG.nd rfl (bb rfl) (show bK (aC qW) ["_law_script","_law_chart_here","_law_most","_law_table","_law_wide","_law_found","_law_said_first","_law_rows","_law_stands","_law_roads","_law_rooms_here","_law_doors_here","_law_k","_law_event","_law_lap"] _ _ _ from vm) (oJ (yB zH (pv 1) zB (fun _ _=>rfl))) (fun _ _ _ _ _ _=>bc) (fun _ _ _ _ _ _=>cQ))
  (zE (yI (pC zg hr (zA (yB zH (pC uG hr (zA (pv 1) zD)) zB (fun _ _=>rfl)) (zA (zW zD) (zA (pv 10) (zA (pv 11) zD))))))
  (zZ (cC PassesOwn.never rfl (bM rfl aW (zA (zS zN rfl aP bU (zA (pv 7) zD)) zD)) (yJ (i:=12) dG.nd rfl (bb rfl))
  (zG (cC PassesOwn.never rfl (bM rfl aW (zA (zS zN rfl aP bU (zA (yB zH (pv 1) zB (fun _ _=>rfl)) zD)) zD)) (yJ (i:=13) dG.nd rfl (bb rfl))
  (zG (yI (pC zg hr (zA (yB zH (pC uH hr (zA (pv 1) (zA (yB yU (pv 8) (pv 12) (fun _ _=>rfl)) (zA (pv 13) zD)))) zB (fun _ _=>rfl)) (zA (oK (yC (jh.or pU oN) (yB yU (pv 9) (pv 12) (fun _ _=>rfl)) (zW (zA (pv 13) zD)))) (zA (pv 10) (zA (pv 11) zD))))))))))
  (zZ (cC PassesOwn.never rfl (bM rfl aW (zA zB zD)) (yJ (i:=14) dG.nd rfl (bb rfl))
  (zE (zK (i:=5) dG.nd rfl (bb rfl) (zJ mZ.G hr rfl mZ.m mZ.k mZ.b .nil qD8 (zA (pv 1) (zA (pv 2) zD))))
  (zE (yD (bj (PW.pt (pw_or (oH (fY (zS iM rfl cV R1 (zA (pv 5) (zA (tD (v:=.ty "tuple") rfl aY nF rfl) zD))))) (pw_or1 (zL qZ (zS zN rfl aP bU (zA (pv 5) zD)) zB (zR _))))))
  (zG (zO kj))
  zT)
  (zE (yD (bj (PW.pt (pw_or (oH (fY (pC mj hr (zA (yB zH (pv 5) zB (fun _ _=>rfl)) (zA (pv 10) zD))))) (pw_or1 (oH (fY (pC mj hr (zA (yB zH (pv 5) zB (fun _ _=>rfl)) (zA (pv 11) zD)))))))))
  (zG (zO kj))
  zT)
  (zE (yI (dz il rO rN yH (yB zH (pv 5) zB (fun _ _=>rfl)) (zA (zW zD) zD)))
  (zG (yI (K4 il PySem.F.slot_list_clear PySem.F.type_list_clear HY (yB zH (pv 5) zB (fun _ _=>rfl))))))))))
  (zG (zO kj)))))))))))))),?_⟩
 ext f;refine⟨_,rfl,a,ns,rfl,hS,h63,fun pc c bs ne H1 s1 hX ok Bs=>?_⟩;ext c;refine⟨_,rfl,a,ns,5,7,rfl,s1.seq hS,h63,by ext w,by ext w,fun y _ _=>(bB ⟨(by show (0:Int)<6;decide),au _ _ ⟨rfl,rfl,zI (by show 4<=1000;decide),fun pm hpm=>?_⟩⟩)⟩;have s2:=zF hpm (.lst [V.int 6,V.int 6,V.int 6,V.int (1+y%6)]);have s12:=s1.trans s2;refine⟨_,rfl,a,ns,5,6,rfl,s12.seq hS,h63,by ext w,by ext w,fun z _ _=>?_⟩;ext a;obtain⟨e,he,hat⟩:=vI.int_at (zs:=[6,6,6,1+y%6]) (i:=z%4) (by lia) (by show _<(4:Int);lia);ext b
 have e16:1<=e/\e<=6:=by
  simp only[List.mem_cons,List.not_mem_nil,or_false]at he;lia
 refine (bB ⟨(by show (0:Int)<4;decide),az (aV.of zC) hat ?_⟩);ext g;generalize upd H1 pm (.lst [V.int 6,V.int 6,V.int 6,V.int (1+y%6)])=H2 at s2 ⊢;have hX2:=hX.mono (aA.of s2);ext a;obtain⟨_,_,t0,pd0,_,_,Vv,dv0,h1,_,_,h4,h5,h6,h7,_,h9,h10⟩:=id hX2;ext b;have qAS:=h7.length;have qAT:=h10.length;have r40:=ok.ok.r40;have d60:=ok.ok.d63;refine⟨fun σ' H'=>H2=H'/\∃ m:Nat,1<=m/\m<=6/\σ'=[some (.ref a),some (.ref pc),some (.int (m:Int)),none,none,none,none,none,none,none,none,none,none,none,none],?_,?_⟩
 .ext a;obtain⟨m,rfl,m1,m6⟩:∃ m:Nat,e=(m:Int)/\1<=m/\m<=6:=⟨e.toNat,by lia,by lia,by lia⟩;ext b;refine⟨_,rfl,aF (aM.of h1) rfl (fL rfl (.inr (aM.of h4)) (bB ⟨_,rfl,fu (fun _=>?_) (fun _=>⟨rfl,m,m1,m6,rfl⟩)⟩))⟩;refine⟨_,rfl,au _ _ ⟨rfl,rfl,?_⟩⟩
  by_cases z:(2:Int)<(m:Int)
  .exact⟨2,by decide,by decide,by rw[cE z];rfl⟩
  .exact⟨m,m1,m6,by rw[cy z];rfl⟩
 rintro _ _ aQ;ext f;ext a;obtain⟨rfl,m,m1,m6,rfl⟩:=aQ;ext b;refine⟨_,rfl,_,rfl,pc,m,c,bs,ne,rfl,hX2,ok,bN _,m1,by lia,Bs,fun bf s0 BR _=>⟨fun N fs ms t2 t tw pr as rv sv H3 zy FR fl Nm Qf ht hpr hRw has hSt s3=>?_,fun i fs ms t2 pl pv H3 FR fl zy hpl hpv s3 _=>?_⟩⟩
 .refine au t2 _ ⟨rfl,aM.of zy,rfl,au _ _ ⟨rfl,au _ _ ⟨rfl,rfl,?_⟩⟩⟩;ext c;refine⟨_,rfl,rfl,_,rfl,nT rfl ?_⟩;ext c;refine⟨_,rfl,au t _ ⟨rfl,aM.of ht,rfl,au _ _ ⟨rfl,au _ _ ⟨rfl,au _ _ ⟨rfl,rfl,?_⟩⟩⟩⟩⟩;ext c
  have hTb:Wy.Al (Wy.cg H3) rv (rT ne N ms):=by
   rw[<-Wq (c:=c) (fs:=fs)];exact ZL (fun _ _ z=>Zz z) hRw
  refine⟨_,rfl,pr,rv,rT ne N ms,N,ne,rfl,hpr,hTb,YG FR fl,Bs,by lia,fun qw _ wvw H4 s4 _ hqw hW W=>?_⟩;ext c;rw[Wy.gG.unique Bs W (QK Bs FR fl)]at hW;have hWy:Al (fun v (x:S4×ay Nat)=>qM H4 v x.2) wvw fs:=Yk (R:=Wy.cR H4) (f:=fun x:S4×ay Nat=>some x.2) (fun v r z=>z) hW;have Zy:=s3.trans s4;have hX4:=hX2.mono (aA.of Zy);refine⟨_,rfl,pc,_,_,V.ref t0,rfl,rfl,aM.of (Zy _ _ h1),rfl,t0,rfl,⟨_,aM.of (Zy _ _ h6)⟩,?_⟩;refine jJ (K:=K) (a:=t0) (xs:=Vv) (fun i acc H'=>H4=H'/\acc=List.replicate i V.non) ⟨rfl,rfl⟩ (fun i acc H' ⟨e,_⟩=>by subst e;exact aM.of (Zy _ _ h6)) (fun i x acc H' hx ⟨e1,e2⟩=>?_) (fun acc H' ⟨e1,e2⟩ pR hpR=>?_)
  .subst e1 e2;have:=(fO.mp hx).1;exact⟨zV (by rw[d0];lia),rfl,(gy ..).symm⟩
  ext c;subst e1 e2;rw[qAS];have s5:=zF hpR (.lst (List.replicate c.rs.length V.non));have i5:upd H4 pR (.lst (List.replicate c.rs.length V.non)) pR=some (.lst (List.replicate c.rs.length V.non)):=zC;generalize upd H4 pR (.lst (List.replicate c.rs.length V.non))=H5 at s5 i5 ⊢;have s25:=Zy.trans s5;refine⟨_,rfl,pc,_,_,V.ref pd0,rfl,rfl,aM.of (s25 _ _ h1),rfl,pd0,rfl,⟨_,aM.of (s25 _ _ h9)⟩,?_⟩;refine jJ (K:=K) (a:=pd0) (xs:=dv0) (fun i acc H'=>H5=H'/\acc=List.replicate i V.non) ⟨rfl,rfl⟩ (fun i acc H' ⟨e,_⟩=>by subst e;exact aM.of (s25 _ _ h9)) (fun i x acc H' hx ⟨e1,e2⟩=>?_) (fun acc H' ⟨e1,e2⟩ pD hpD=>?_)
  .subst e1 e2;have:=(fO.mp hx).1;exact⟨zV (by rw[d0];lia),rfl,(gy ..).symm⟩
  ext c;subst e1 e2;rw[qAT];have s6:=zF hpD (.lst (List.replicate c.ds.length V.non));have i6:upd H5 pD (.lst (List.replicate c.ds.length V.non)) pD=some (.lst (List.replicate c.ds.length V.non)):=zC
  have nRD:pR≠pD:=fun z=>by rw[<-z,i5]at hpD;cases hpD
  generalize upd H5 pD (.lst (List.replicate c.ds.length V.non))=H6 at s6 i6 ⊢;have Z6:=s6 _ _ i5;have s46:=s5.trans s6;have s26:=Zy.trans s46;have hX6:=hX2.mono (aA.of s26);refine⟨_,rfl,pc,c,bs,ne,rfl,hX6,ok,bN _,fun tb _ pwb wvb _ _ H7 BRb _ _ s7 htb _ qHX Xp hAb _=>?_⟩;obtain⟨rfl,rfl⟩:=uB BR BRb;refine⟨tb,_,_,V.ref pwb,rfl,rfl,aM.of htb,rfl,bg _,fun pe hpe=>?_⟩;have s8:=zF hpe (.tup []);have i8:upd H7 pe (.tup []) pe=some (.tup (aB [])):=zC;generalize upd H7 pe (.tup [])=H8 at s8 i8 ⊢;have s68:=s7.trans s8;have hR8:=s68 _ _ Z6;have hD8:=s68 _ _ i6;have s48:=s46.trans s68;have s28:=Zy.trans s48;have hX8:=hX2.mono (aA.of s28)
  have nt:∀ {b:av} {o:HO},H4 b=some o->b∉[pR,pD]:=fun e z=>by
   rcases bL.mp z with z | z
   .rw[z,hpR]at e;cases e
   .rw[bJ.mp z,s5.free hpD]at e;cases e
  have nt8:∀ {b:av} {xs:ay V},H8 b=some (.tup xs)->b∉[pR,pD]:=fun e z=>by
   rcases bL.mp z with z | z
   .rw[z,hR8]at e;cases e
   .rw[bJ.mp z,hD8]at e;cases e
  have kt:∀ {H':Hp},bH H8 H' [pR,pD] [pR,pD]->aA H8 H':=fun st b xs e=>st.rest b _ e (nt8 e);refine⟨_,rfl,_,rfl,pwb,pe,pR,pD,bf,[],_,_,[],c,rfl,⟨wvb,s8 _ _ qHX,hAb.mono fun _ _ z=>z.mono (aA.of s8)⟩,i8,hR8,hD8,nRD,(fun z=>by rw[z,Z6]at Xp;cases Xp),(fun z=>by rw[z,i6]at Xp;cases Xp),FQ _ _,FQ _ _,VM ok.ok BR,⟨(fun y hy=>nomatch hy),(fun z hz=>nomatch hz),bg _⟩,fun rv9 dv9 _ hR9 hD9 aR9 aD9 st9=>?_⟩;ext g;have qIX:H8 as=some (.lst sv):=(s4.trans s48) _ _ has;have Fq:as∉[pR,pD]:=nt (s4 _ _ has);have qHV:H8 qw=some (.lst wvw):=s48 _ _ hqw;have qH9:qw∉[pR,pD]:=nt hqw;have qI8:H8 pr=some (.lst rv):=(s4.trans s48) _ _ hpr;have qHC:pr∉[pR,pD]:=nt (s4 _ _ hpr)
  have Tw:rv.length=N:=by
   rw[hRw.length];unfold rowsOf;rw[bh,cb]
  have alc:All c (Jw c) 3:=⟨ok.ok,wide ok.ok,fun d hd=>⟨(ok.g d hd).1,(ok.g d hd).2⟩⟩
  have Vr:c.tn<=20:=by have:=ok.t4;lia
  refine⟨fun σ' H'=>∃ rv' dv' Fp Bo,σ'=[some (.ref a),some (.ref pc),some (.int (m:Int)),some (.ref t),some .non,none,some (.ref tw),some (.ref pr),some (.ref as),some (.ref qw),some (.ref pR),some (.ref pD),Fp,Bo,none]/\H' pR=some (.lst rv')/\H' pD=some (.lst dv')/\Al (cR H') rv' ((List.range c.rs.length).map fun r=>aL (du bf ne fs ms) (2*r))/\Al (cR H') dv' ((List.range c.ds.length).map fun r=>aL (du bf ne fs ms) (2*r+1))/\bH H8 H' [pR,pD] [pR,pD],?_,?_⟩
  .refine⟨_,rfl,fL rfl (.inl (aV.of (st9.rest _ _ qI8 qHC))) ⟨_,rfl,by lia,by lia,?_⟩⟩;refine bu (lo:=0) (fun k σ' H'=>∃ rv' dv' Fp Bo,σ'=[some (.ref a),some (.ref pc),some (.int (m:Int)),some (.ref t),some .non,none,some (.ref tw),some (.ref pr),some (.ref as),some (.ref qw),some (.ref pR),some (.ref pD),Fp,Bo,none]/\H' pR=some (.lst rv')/\H' pD=some (.lst dv')/\Al (cR H') rv' ((List.range c.rs.length).map fun r=>aL (du bf ne fs (ms.take (k*ne))) (2*r))/\Al (cR H') dv' ((List.range c.ds.length).map fun r=>aL (du bf ne fs (ms.take (k*ne))) (2*r+1))/\bH H8 H' [pR,pD] [pR,pD])
    (jV rv9 dv9 _ _ ⟨rfl,hR9,hD9,by rw[iX];exact aR9,by rw[iX];exact aD9,st9⟩) ?_ ?_
   .rintro k σ' _ _ aQ;ext a;obtain⟨rvk,dvk,Fp,Bo,rfl,hRk,hDk,aRk,aDk,WY⟩:=aQ;ext b
    have hkN:k<N:=by lia
    refine⟨_,rfl,aF (aM.of (kt WY _ _ (s28 _ _ h1))) rfl (fL rfl (.inr (aM.of (kt WY _ _ (s28 _ _ h4)))) ⟨_,rfl,?_⟩)⟩;rw[h5];refine⟨by lia,by lia,?_⟩;refine bu (lo:=0) (n:=ne) (fun e σ' H'=>∃ rv' dv' Bo,σ'=[some (.ref a),some (.ref pc),some (.int (m:Int)),some (.ref t),some .non,none,some (.ref tw),some (.ref pr),some (.ref as),some (.ref qw),some (.ref pR),some (.ref pD),some (.int (0+(k:Int))),Bo,none]/\H' pR=some (.lst rv')/\H' pD=some (.lst dv')/\Al (cR H') rv' ((List.range c.rs.length).map fun r=>aL (du bf ne fs (ms.take (k*ne+e))) (2*r))/\Al (cR H') dv' ((List.range c.ds.length).map fun r=>aL (du bf ne fs (ms.take (k*ne+e))) (2*r+1))/\bH H8 H' [pR,pD] [pR,pD])
     (fM rvk dvk _ ⟨rfl,hRk,hDk,aRk,aDk,WY⟩) ?_ ?_
    .rintro e σ' He he' aQ;ext a;obtain⟨rve,dve,qDB,rfl,hRe,hDe,aRe,aDe,ste⟩:=aQ;have hcell:=wL (ne:=ne) hkN he';obtain⟨sk,pk,_,_,j,f1,f2,f3,_⟩:=v5 FR _ hcell;obtain⟨dv1,md1⟩:=Ij (ne:=ne) (k:=k) he';ext b;rw[dv1]at f1;rw[md1]at f2;have okk:=Qf _ (zp f1);have l0k:=Er FR _ (zp f1);simp only at okk l0k
     have Z8:fc fs ne (k*ne+e)=pk++[e]:=by
      unfold fc;rw[dv1,md1,f1];rfl
     have kte:=kt ste;ext a;obtain⟨_,hvk,ak,rfl,hak⟩:=hSt.get (k:=k) (r:=sk) (by rw[dD,f1];rfl);ext b
     have Y5:rK sv (0+(k:Int))=some (.ref ak):=by rw[c9];exact yQ hvk
     have qIW:=ste.rest _ _ qIX Fq;have qIZ:gH He ak sk:=(hak.mono (aA.of (s4.trans s48))).mono kte;refine⟨_,rfl,_,rfl,_,rfl,az (aV.of qIW) Y5 ⟨_,rfl,pc,ak,c,(e:Int),sk,(by rw[c9];rfl),(hX8.ch ok).mono kte,alc,qIZ,okk.1,okk.2,l0k,Vr,fun ta _ pwa wva esa _ Ha ARa _ _ sha hta _ qHY Xq hAa _=>?_⟩⟩;obtain⟨rfl,rfl⟩:=Oj ARa f2;refine⟨ta,_,_,V.ref pwa,rfl,rfl,aM.of hta,rfl,?_⟩;ext a;obtain⟨_,hvw,bw,rfl,hbw⟩:=hWy.get f1;ext b
     have qBF:rK wvw (0+(k:Int))=some (.ref bw):=by rw[c9];exact yQ hvw
     have qIO:=sha _ _ (kte _ _ (s48 _ _ hbw));have qHU:=sha _ _ (ste.rest _ _ qHV qH9)
     have lpk:pk.length<=300:=by
      have a:=(lK Bs FR).len _ _ f1;simp only at a;lia
     refine⟨fun v H2 => ∃ q:av,v = .ref q/\aG Ha H2/\H2 q=some (.tup (aB (pk++[e]))),?_,?_⟩
     .refine⟨_,rfl,_,rfl,az (aV.of qHU) qBF ⟨_,rfl,(zI (by show 1<=1000;decide)),fun px hpx=>?_⟩⟩;rw[c9];have u4:=zF hpx (.tup [V.int (e:Int)]);have v4:upd Ha px (.tup [V.int (e:Int)]) px=some (.tup [V.int (e:Int)]):=zC;generalize upd Ha px (.tup [V.int (e:Int)])=H4' at u4 v4 ⊢;have W3:=u4 _ _ qIO
      cases pk with
      | nil=>exact .inr (fM bw px _ ⟨rfl,rfl,aM.of W3,aM.of v4,px,rfl,u4,v4⟩)
      | cons y0' pk=>
       refine .inl (jV bw px _ _ ⟨rfl,rfl,aM.of W3,aM.of v4,(by intro z;cases z),?_,(fun z=>by cases z),fun _ p5 Nz=>?_⟩)
       .rw[sizeLine_eq,zU];simp only[List.length_cons,List.length_nil]at lpk ⊢;lia
       .exact⟨p5,rfl,u4.trans (zF Nz _),by rw[zC];unfold aB;rw[iz];rfl⟩
     rintro _ _ aQ;ext a;obtain⟨pq,rfl,shq,hpq⟩:=aQ;ext b;have she:=sha.trans shq;refine⟨_,rfl,_,rfl,pwa,pq,pR,pD,esa,pk++[e],rve,dve,du bf ne fs (ms.take (k*ne+e)),c,rfl,⟨wva,shq _ _ qHY,hAa.mono fun _ _ z=>z.mono (aA.of shq)⟩,hpq,she _ _ hRe,she _ _ hDe,nRD,(fun z=>by rw[z,hRe]at Xq;cases Xq),(fun z=>by rw[z,hDe]at Xq;cases Xq),aRe.mono (fun _ _ z=>cR.mono z (aA.of she)),aDe.mono (fun _ _ z=>cR.mono z (aA.of she)),Va ok.ok ARa,(by rw[<-Z8];exact Ws Bs FR fl (by lia) bf hcell),fun rv5 dv5 _ hR5 hD5 aR5 aD5 rJ=>?_⟩
     have hrt:du bf ne fs (ms.take (k*ne+e))++[(esa,pk++[e])]=du bf ne fs (ms.take (k*ne+(e+1))):=by
      rw[<-Nat.add_assoc,PL f3,Z8]
     rw[hrt]at aR5 aD5;exact fM rv5 dv5 _ ⟨rfl,hR5,hD5,aR5,aD5,bH.trans ste (bH.trans (bH.same _ she) rJ)⟩
    .rintro σ' H' aQ;ext a;obtain⟨rv',dv',qDB,rfl,a1,a2,a3,a4,a5⟩:=aQ;ext b;exact jV rv' dv' _ _ ⟨rfl,a1,a2,by rw[gS,iO];exact a3,by rw[gS,iO];exact a4,a5⟩
   .rintro σ' H' aQ;ext a;obtain⟨rv',dv',Fp,Bo,rfl,a1,a2,a3,a4,a5⟩:=aQ;ext b;have lm:=eF FR;rw[show ((rv.length:Nat):Int).toNat=N by lia,vK (by lia)]at a3 a4;exact jV rv' dv' _ _ ⟨rfl,a1,a2,a3,a4,a5⟩
  rintro _ Hc aQ;ext a;obtain⟨rvc,dvc,Fp,Bo,rfl,hRc,hDc,aRc,aDc,stc⟩:=aQ;ext b;have hXc:=hX8.mono (kt stc);have lo1:=Nj Bs FR fl (by lia) bf c.rs.length (fun r=>2*r);have lo2:=Nj Bs FR fl (by lia) bf c.ds.length (fun r=>2*r+1)
  have ll1:((List.range c.rs.length).map fun r=>aL (du bf ne fs ms) (2*r)).length<=1000:=by rw[bh,cb];lia
  have ll2:((List.range c.ds.length).map fun r=>aL (du bf ne fs ms) (2*r+1)).length<=1000:=by rw[bh,cb];lia
  refine⟨fun σ' H'=>True,?_,?_⟩
  .refine⟨2,rfl,by decide,by decide,?_⟩;refine bu (fun i σ' H'=>aG Hc H'/\∃ o5 Fp Bo o14:aE V,σ'=[some (.ref a),some (.ref pc),some (.int (m:Int)),some (.ref t),some .non,o5,some (.ref tw),some (.ref pr),some (.ref as),some (.ref qw),some (.ref pR),some (.ref pD),Fp,Bo,o14]) ⟨aG.refl _,jV _ _ _ _ rfl⟩ ?_ (fun _ _ _=>trivial);rintro i σ' Hi _ aQ;refine Q0 fun _ aK _ x_1=>?_;ext a;obtain⟨sci,o5,_,qDB,_,rfl⟩:=aQ;ext b;refine⟨_,rfl,_,rfl,pc,m,c,bs,ne,rfl,hXc.mono (aA.of sci),ok,bN _,m1,by lia,Bs,fun _ _ BR' _=>⟨fun _ fs' xn ts prs pds rvs nU Hs FR' Ft _ _ hts Y0 qEC aRs aDs ss qHB qHE qH8=>?_,fun _ fs' xn FR' Ft=>?_⟩⟩;ext e
   .ext a;obtain⟨rfl,rfl⟩:=uB BR BR';obtain⟨rfl,rfl,rfl⟩:=Ro FR fl FR' Ft;ext b;have scs:=sci.trans ss;refine⟨fun c' H'=>Hs=H'/\c'=false,⟨_,rfl,jV _ ("tuple") _ true ⟨rfl,.tup hts,by rfl,_,rfl,nT rfl ⟨_,rfl,fL rfl (.inr (aM.of hts)) ⟨rfl,_,rfl,rfl,rfl⟩⟩⟩⟩,?_⟩;rintro c' _ ⟨rfl,rfl⟩;refine nT rfl ?_;ext e;refine⟨fun c' H'=>Hs=H'/\c'=false,⟨_,rfl,ts,_,_,V.ref prs,rfl,rfl,aM.of hts,rfl,_,rfl,prs,pR,rvs,rvc,_,rfl,Y0,scs _ _ hRc,aRs,aRc.mono (fun _ _ z=>cR.mono z (aA.of scs)),ll1,lo1,_,rfl,nT rfl ⟨_,rfl,ts,_,_,V.ref pds,rfl,rfl,aM.of hts,rfl,_,rfl,pds,pD,nU,dvc,_,rfl,qEC,scs _ _ hDc,aDs,aDc.mono (fun _ _ z=>cR.mono z (aA.of scs)),ll2,lo2,_,rfl,rfl,rfl⟩⟩,?_⟩;rintro c' _ ⟨rfl,rfl⟩;refine nT rfl ?_;ext e;refine⟨_,rfl,ts,_,_,V.ref prs,rfl,rfl,aM.of hts,rfl,.inl ⟨rfl,_,aV.of Y0⟩,bg _,fun pu hpu=>?_⟩;have su:=zF hpu (.tup []);generalize upd Hs pu (.tup [])=Hu at su ⊢;have lrs:=aRs.length;rw[bh,cb]at lrs;refine⟨prs,_,_,rfl,rfl,su _ _ Y0,zV (by lia),?_⟩;refine x_1 ?_;clear x_1;have kl:=aA.lst (su _ _ Y0) (.lst (rvs++[.ref pu]));have sv1:aG Hi (upd Hu prs (.lst (rvs++[.ref pu]))):=cB qHB (ss.trans su) _
    have Ub:upd Hu prs (.lst (rvs++[.ref pu])) pds=some (.lst nU):=by rw[zQ (bt qH8)];exact su _ _ qEC
    have qE3:=kl _ _ (su _ _ hts);generalize upd Hu prs (.lst (rvs++[.ref pu]))=Hv at kl sv1 Ub qE3 ⊢;exact⟨_,rfl,ts,_,_,V.ref pds,rfl,rfl,aM.of qE3,rfl,.inl ⟨rfl,_,aV.of Ub⟩,au pds _ ⟨rfl,rfl,Ub,aK ⟨sci.trans (cB qHE sv1 _),jV _ _ _ _ rfl⟩⟩⟩
   .obtain⟨rfl,rfl⟩:=uB BR BR';exact (HR FR fl Nm FR' Ft).elim
  .intro σ' H' _;exact q _
 .refine au t2 _ ⟨rfl,aM.of zy,rfl,au _ _ ⟨rfl,au _ _ ⟨rfl,rfl,?_⟩⟩⟩;ext c;refine⟨_,rfl,rfl,_,rfl,zx rfl ?_⟩;refine bD fun _ x_1=>?_
  have qDO:Lo ((fs.map (·.2)).map some):=fun p hp=>by
   ext a;obtain⟨x,hx,e⟩:=dU.mp hp;ext b
   cases e
   ext a;obtain⟨y,hy,rfl⟩:=dU.mp hx;obtain⟨r,hr,e⟩:=List.mem_iff_getElem.mp hy;ext b;have:=(lK Bs FR).len r y (by rw[gM hr,e]);lia
  have llo:((fs.map (·.2)).map some).length<=1000:=by rw[bh,bh];lia
  refine⟨_,rfl,_,rfl,pc,m,c,bs,ne,bf,s0,i,fs,ms,rfl,hX2.mono (aA.of s3),ok,bN _,m1,by lia,Bs,BR,FR,fl,fun pf fv H4 hpf hfv s4 Vw=>?_⟩;ext e;have Xz:=hpv.mono fun _ _ z=>qM.mono z (aA.of s4);refine⟨_,rfl,_,rfl,pf,pl,fv,pv,_,rfl,hpf,s4 _ _ hpl,tE hfv,tE Xz,llo,qDO,_,rfl,nT rfl ?_⟩;ext e
  have npp:pf≠pl:=fun z=>by rw[z,hpl]at Vw;cases Vw
  refine⟨_,rfl,.inl ⟨rfl,_,aV.of hpf⟩,au pf _ ⟨rfl,rfl,hpf,?_⟩⟩;refine x_1 ?_;clear x_1;have k5:=aA.lst hpf (.lst []);have r5:∀ b,b≠pf->upd H4 pf (.lst []) b=H4 b:=fun b z=>zQ z;generalize upd H4 pf (.lst [])=H5 at k5 r5 ⊢;refine⟨_,rfl,_,rfl,pc,m,c,bs,ne,bf,s0,i,fs,ms,rfl,(hX2.mono (aA.of (s3.trans s4))).mono k5,ok,bN _,m1,by lia,Bs,BR,FR,fl,fun pg gv H6 hpg hgv s6 _=>?_⟩;have qIB:H6 pl=some (.lst pv):=s6 _ _ (by rw[r5 _ (bt npp)];exact s4 _ _ hpl);exact⟨_,rfl,pg,pl,gv,pv,_,rfl,hpg,qIB,tE hgv,tE (Xz.mono fun _ _ z=>qM.mono z (k5.trans (aA.of s6))),llo,qDO,q _⟩
end Av
namespace L2
open PySem
theorem aO.cx(F:aO P w K mg base aa k f fd ps sp):aO P w K mg base CX k f fd ps sp:=
 ⟨F.len,fun A outer s H args us vs Q E r e b v h=>codeAny_mono (F.run A outer s H args us vs Q E r e b v h) fun res _ z=>by
  cases res with
  | error e=>exact z.elim
  | ok f=>cases f <;> exact z⟩
end L2
namespace Av
open PySem L2 qH rF Cv Qz JS jg Ru
theorem Pn(F:dC K "holds" "holds" oE f fd)(wM:Binds K fd ["guard","opening","boxes"] [])(wG:mg "holds" = some (.ref f)):aO P w K mg base aa 3 f fd ["guard","opening","boxes"] (K02.lR 3):=by exact K02.Cr F wM wG 3
theorem Pq(F:dC K "_law_guard" "_law_guard" j5 f fd)(uA:Binds K fd ["_law_number","_law_rooms_here","_law_boxes","_law_high"] [])(tK:mg "_law_guard" = some (.ref f)):aO P w K mg base aa 3 f fd ["_law_number","_law_rooms_here","_law_boxes","_law_high"] (vI.lU 3):=by exact vI.all_guard F uA tK 3
end Av
namespace Av
open PySem L2 qH rF Cv Qz JS Ru
theorem yr(P:Params):Qk (KO P) 280:=⟨by kernel_rfl,by kernel_rfl,by kernel_rfl,by kernel_rfl,by kernel_rfl,by kernel_rfl⟩
theorem yt(P:Params):rA (KO P) 280 277=true:=by kernel_rfl
theorem qz(P:Params):Aw (KO P) 280 "ways" := ⟨by kernel_rfl,by kernel_rfl,by kernel_rfl,by kernel_rfl⟩
theorem law_ok{w:aI}{mg:Str->aE ax}{h base:Heap}(X:(KO w.params).In h)(G:h.Ns mainGlobals mg):aO PW w (KO w.params) mg base aa 12 452 YJ ["_law_script"] (RV (KO w.params)):=by have ap {CX:Lw} {k:Nat} {f:av} {fd:af} {ps:ay Str} {sp:Sp} (h:aO PW w (KO w.params) mg base CX k f fd ps sp):=h;have mo {x:Str} {a:av} (h:NS x a):=PySem.W.mg_of X G (h w.params);have mz {x:Str} (h:NZ x):=PySem.W.mg_none_of X G (h w.params);have F1:=u1 w.params;have b1:=F1.binds (ps:=["_law_script","_law_k"]) fun _ _ _ _ _ _=>jo fun _ _=>rfl;have m1:=mo a1;have k1:=F1.kp;have F2:=u2 w.params;have b2:=F2.binds (ps:=["_law_script","_law_k","_law_salt"]) fun _ _ _ _ _ _=>lC fun _ _ _=>rfl;have m2:=mo a2;have k2:=F2.kp;have F3:=u3 w.params;have b3:=F3.binds (ps:=["guard","opening","boxes"]) fun _ _ _ _ _ _=>lC fun _ _ _=>rfl;have m3:=mo a3;have k3:=F3.kp;have F4:=u4 w.params;have b4:=F4.binds (ps:=["chart","stand","event"]) fun _ _ _ _ _ _=>lC fun _ _ _=>rfl;have m4:=mo a4;have k4:=F4.kp;have F5:=u5 w.params;have b5:=F5.binds (ps:=["rooms","room"]) fun _ _ _ _ _ _=>jo fun _ _=>rfl;have m5:=mo a5;have k5:=F5.kp;have F6:=u6 w.params;have b6:=F6.binds (ps:=["rooms","room"]) fun _ _ _ _ _ _=>jo fun _ _=>rfl;have m6:=mo a6;have k6:=F6.kp;have F7:=u7 w.params;have b7:=F7.binds (ps:=["rooms","one","other"]) fun _ _ _ _ _ _=>lC fun _ _ _=>rfl;have m7:=mo a7;have k7:=F7.kp;have F8:=u8 w.params;have b8:=F8.binds (ps:=["rooms","one","other"]) fun _ _ _ _ _ _=>lC fun _ _ _=>rfl;have m8:=mo a8;have k8:=F8.kp;have F9:=u9 w.params;have b9:=F9.binds (ps:=["rooms","room"]) fun _ _ _ _ _ _=>jo fun _ _=>rfl;have m9:=mo a9;have k9:=F9.kp;have F10:=u10 w.params;have b10:=F10.binds (ps:=["rooms","room","goals"]) fun _ _ _ _ _ _=>lC fun _ _ _=>rfl;have m10:=mo a10;have k10:=F10.kp;have F11:=Zf w.params;have b11:=F11.binds (ps:=["rooms","room","goals"]) fun _ _ _ _ _ _=>lC fun _ _ _=>rfl;have m11:=mo a11;have k11:=F11.kp;have F12:=u12 w.params;have b12:=F12.binds (ps:=["rooms","under","goals"]) fun _ _ _ _ _ _=>lC fun _ _ _=>rfl;have m12:=mo a12;have k12:=F12.kp;have F13:=Ym w.params;have b13:=F13.binds (ps:=["rooms","under","opening"]) fun _ _ _ _ _ _=>lC fun _ _ _=>rfl;have m13:=mo a13;have k13:=F13.kp;have F14:=u14 w.params;have b14:=F14.binds (ps:=["rooms","told"]) fun _ _ _ _ _ _=>jo fun _ _=>rfl;have m14:=mo a14;have k14:=F14.kp;have F15:=u15 w.params;have b15:=F15.binds (ps:=["rooms","opening","room"]) fun _ _ _ _ _ _=>lC fun _ _ _=>rfl;have m15:=mo a15;have k15:=F15.kp;have F16:=u16 w.params;have b16:=F16.binds (ps:=["rooms","opening","left","kept"]) fun _ _ _ _ _ _=>yW fun _ _ _ _=>rfl;have m16:=mo a16;have k16:=F16.kp;have F17:=u17 w.params;have b17:=F17.binds (ps:=["chart","room","others"]) fun _ _ _ _ _ _=>lC fun _ _ _=>rfl;have m17:=mo a17;have k17:=F17.kp;have F18:=u18 w.params;have b18:=F18.binds (ps:=["chart","stand","event"]) fun _ _ _ _ _ _=>lC fun _ _ _=>rfl;have m18:=mo a18;have k18:=F18.kp;have F19:=u19 w.params;have b19:=F19.binds (ps:=["deed","boxes","sizes"]) fun _ _ _ _ _ _=>lC fun _ _ _=>rfl;have m19:=mo a19;have k19:=F19.kp;have F20:=u20 w.params;have b20:=F20.binds (ps:=["deed","boxes","letters"]) fun _ _ _ _ _ _=>lC fun _ _ _=>rfl;have m20:=mo a20;have k20:=F20.kp;have F21:=u21 w.params;have b21:=F21.binds (ps:=["deeds","boxes","sizes","letters"]) fun _ _ _ _ _ _=>yW fun _ _ _ _=>rfl;have m21:=mo a21;have k21:=F21.kp;have F22:=u22 w.params;have b22:=F22.binds (ps:=["chart"]) fun _ _ _ _ _ _=>An fun _=>rfl;have m22:=mo a22;have k22:=F22.kp;have F23:=u23 w.params;have b23:=F23.binds (ps:=["record"]) fun _ _ _ _ _ _=>An fun _=>rfl;have m23:=mo a23;have k23:=F23.kp;have F24:=u24 w.params;have b24:=F24.binds (ps:=["rooms","entered"]) fun _ _ _ _ _ _=>jo fun _ _=>rfl;have m24:=mo a24;have k24:=F24.kp;have F25:=u25 w.params;have b25:=F25.binds (ps:=["rooms","left"]) fun _ _ _ _ _ _=>jo fun _ _=>rfl;have m25:=mo a25;have k25:=F25.kp;have F26:=u26 w.params;have b26:=F26.binds (ps:=["steps","boxes","sizes","letters"]) fun _ _ _ _ _ _=>yW fun _ _ _ _=>rfl;have m26:=mo a26;have k26:=F26.kp;have F27:=u27 w.params;have b27:=F27.binds (ps:=["chart","kept","door"]) fun _ _ _ _ _ _=>lC fun _ _ _=>rfl;have m27:=mo a27;have k27:=F27.kp;have F28:=u28 w.params;have b28:=F28.binds (ps:=["chart","stand","door","letters"]) fun _ _ _ _ _ _=>yW fun _ _ _ _=>rfl;have m28:=mo a28;have k28:=F28.kp;have F29:=u29 w.params;have b29:=F29.binds (ps:=["chart","stand","event","letters"]) fun _ _ _ _ _ _=>yW fun _ _ _ _=>rfl;have m29:=mo a29;have k29:=F29.kp;have F30:=u30 w.params;have b30:=F30.binds (ps:=["chart","stand","record","letters"]) fun _ _ _ _ _ _=>yW fun _ _ _ _=>rfl;have m30:=mo a30;have k30:=F30.kp;have F31:=u31 w.params;have b31:=F31.binds (ps:=["chart"]) fun _ _ _ _ _ _=>An fun _=>rfl;have m31:=mo a31;have UG:=F31.kp;have F32:=u32 w.params;have b32:=F32.binds (ps:=["chart","stand","event"]) fun _ _ _ _ _ _=>lC fun _ _ _=>rfl;have m32:=mo a32;have k32:=F32.kp;have F33:=u33 w.params;have b33:=F33.binds (ps:=["record"]) fun _ _ _ _ _ _=>An fun _=>rfl;have m33:=mo a33;have k33:=F33.kp;have F34:=u34 w.params;have b34:=F34.binds (ps:=["rooms","opening"]) fun _ _ _ _ _ _=>jo fun _ _=>rfl;have m34:=mo a34;have k34:=F34.kp;have F35:=Ze w.params;have b35:=F35.binds (ps:=["chart","finds","row","event"]) fun _ _ _ _ _ _=>yW fun _ _ _ _=>rfl;have m35:=mo a35;have k35:=F35.kp;have F36:=u36 w.params;have b36:=F36.binds (ps:=["chart","most"]) fun _ _ _ _ _ _=>jo fun _ _=>rfl;have m36:=mo a36;have k36:=F36.kp;have F37:=u37 w.params;have b37:=F37.binds (ps:=["met","record","path"]) fun _ _ _ _ _ _=>lC fun _ _ _=>rfl;have m37:=mo a37;have k37:=F37.kp;have F38:=u38 w.params;have b38:=F38.binds (ps:=["chart","most"]) fun _ _ _ _ _ _=>jo fun _ _=>rfl;have m38:=mo a38;have k38:=F38.kp;have F39:=u39 w.params;have b39:=F39.binds (ps:=["_law_k","_law_number"]) fun _ _ _ _ _ _=>jo fun _ _=>rfl;have m39:=mo a39;have k39:=F39.kp;have F40:=u40 w.params;have b40:=F40.binds (ps:=["_law_number","_law_sizes","_law_events"]) fun _ _ _ _ _ _=>lC fun _ _ _=>rfl;have m40:=mo a40;have k40:=F40.kp;have F41:=u41 w.params;have b41:=F41.binds (ps:=["_law_script","_law_k","_law_salt","_law_sizes","_law_events"]) fun _ _ _ _ _ _=>qDP fun _ _ _ _ _=>rfl;have m41:=mo a41;have k41:=F41.kp;have F42:=u42 w.params;have b42:=F42.binds (ps:=["_law_number","_law_rooms_here","_law_boxes","_law_high"]) fun _ _ _ _ _ _=>yW fun _ _ _ _=>rfl;have m42:=mo a42;have k42:=F42.kp;have F43:=u43 w.params;have b43:=F43.binds (ps:=["_law_script","_law_many"]) fun _ _ _ _ _ _=>jo fun _ _=>rfl;have m43:=mo a43;have k43:=F43.kp;have F44:=u44 w.params;have b44:=F44.binds (ps:=["_law_script","_law_depths_here","_law_sizes","_law_events"]) fun _ _ _ _ _ _=>yW fun _ _ _ _=>rfl;have m44:=mo a44;have k44:=F44.kp;have F45:=u45 w.params;have b45:=F45.binds (ps:=["_law_script","_law_many","_law_rooms_here","_law_sizes","_law_events"]) fun _ _ _ _ _ _=>qDP fun _ _ _ _ _=>rfl;have m45:=mo a45;have k45:=F45.kp;have F46:=u46 w.params;have b46:=F46.binds (ps:=["_law_script"]) fun _ _ _ _ _ _=>An fun _=>rfl;have m46:=mo a46;have k46:=F46.kp;have F47:=u47 w.params;have b47:=F47.binds (ps:=["rows"]) fun _ _ _ _ _ _=>An fun _=>rfl;have m47:=mo a47;have k47:=F47.kp;have F48:=u48 w.params;have b48:=F48.binds (ps:=["_law_found"]) fun _ _ _ _ _ _=>An fun _=>rfl;have m48:=mo a48;have k48:=F48.kp;have F49:=u49 w.params;have b49:=F49.binds (ps:=["_law_one","_law_other"]) fun _ _ _ _ _ _=>jo fun _ _=>rfl;have m49:=mo a49;have k49:=F49.kp;have F50:=u50 w.params;have b50:=F50.binds (ps:=["_law_record","_law_way","_law_rooms_here","_law_doors_here"]) fun _ _ _ _ _ _=>yW fun _ _ _ _=>rfl;have m50:=mo a50;have k50:=F50.kp;have F51:=u51 w.params;have b51:=F51.binds (ps:=["_law_found","_law_due"]) fun _ _ _ _ _ _=>jo fun _ _=>rfl;have m51:=mo a51;have k51:=F51.kp;have F52:=u52 w.params;have b52:=F52.binds (ps:=["_law_chart_here","_law_most"]) fun _ _ _ _ _ _=>jo fun _ _=>rfl;have m52:=mo a52;have k52:=F52.kp;have F53:=u53 w.params;have b53:=F53.binds (ps:=["_law_chart_here","_law_most"]) fun _ _ _ _ _ _=>jo fun _ _=>rfl;have m53:=mo a53;have k53:=F53.kp;have F54:=u54 w.params;have Za:=qC4 w.params;have ZK:=Za.binds (ps:=["self","most"]) fun _ _ _ _ _ _=>jo fun _ _=>rfl;have qGC:Mk (KO w.params) 109 85:=⟨(qDK w.params).1,qG6 w.params,qDZ w.params,(qDK w.params).2⟩;have Vl:=qC3 w.params;have qG0:=Vl.binds (ps:=["self","event"]) fun _ _ _ _ _ _=>jo fun _ _=>rfl;have qDN:Meth (KO w.params) 109 "add" 92:=⟨qG5 w.params,qDY w.params,Vl.kp⟩;have Vk:=qC2 w.params;have qFZ:=Vk.binds (ps:=["self"]) fun _ _ _ _ _ _=>An fun _=>rfl;have qDM:Meth (KO w.params) 109 "taken" 99:=⟨qG4 w.params,qDX w.params,Vk.kp⟩;have Vj:=qC1 w.params;have qFY:=Vj.binds (ps:=["self"]) fun _ _ _ _ _ _=>An fun _=>rfl;have qDL:Meth (KO w.params) 109 "waiting" 106:=⟨qG3 w.params,qDW w.params,Vj.kp⟩;have ZZ:=qC0 w.params;have ZJ:=ZZ.binds (ps:=["self","most"]) fun _ _ _ _ _ _=>jo fun _ _=>rfl;have qGB:Mk (KO w.params) 306 296:=⟨(qDJ w.params).1,qG2 w.params,qDV w.params,(qDJ w.params).2⟩;have Vi:=qBZ w.params;have VN:=Vi.binds (ps:=["self","stand","path"]) fun _ _ _ _ _ _=>lC fun _ _ _=>rfl;have Tt:Meth (KO w.params) 306 "row_of" 303:=⟨qG1 w.params,qDU w.params,Vi.kp⟩;have ZX:=qBY w.params;have qFX:=ZX.binds (ps:=["self","ways"]) fun _ _ _ _ _ _=>jo fun _ _=>rfl;have Ey:=Ey w.params;have mC0:=mo aC0;have pX:=pX w.params;have eX:=eX w.params;have La:=La w.params;have mC1:=mo aC1;have pW:=pW w.params;have dJ:=dJ w.params;have gY:=gY w.params;have iw:=iw w.params;have mC2:=mo aC2;have mC3:=mo aC3;have eY:=mz z1;have qDI:=mz z2;have Z1:=mz z3;have cu:=mz z4;have um:=mz z5;have cU:=mz z6;have mJ:=mz z7;have Z2:=mz z8;have qAM:=mz z9;have oO:=mz z10;have Z3:=mz z11;have vQ:=mz z12;have n_str:=mz z13;have ZW:=ap (jg.Xg Za Ey pX eX);have qGI:=ap (jg.qAI Vl Ey pX eX eY);have qGH:=ap (jg.Sy Vk Ey eX eY);have qGG:=ap (jg.K5 Vj Ey eX um);have qGF:=ap (XR ZX (yt w.params) (qz w.params) mC3 (fE1 w.params) (fE2 w.params) (fE3 w.params) um);have ZV:=ap (qAG ZZ La pW dJ gY iw);have Vf:=ap (qAD Vi La pW dJ gY iw (yt w.params) (Ky w.params) mC2 qGF.cx qFX eY);have G1:=ap (Xl F1 eY);have G2:=ap (T7 F2 G1 b1 k1 m1 eY qDI);have G3:=ap (Pn F3 b3 m3);have G4:=ap (Fw.KJ F4 ⟨G3,b3,k3,m3⟩ vQ);have G5:=ap (jg.qAH F5 cu eY);have G6:=ap (jg.Pk F6 cu);have G7:=ap (jg.Xe F7 ⟨G5,b5,k5,m5⟩);have G8:=ap (jg.Xh F8 ⟨(G6.mono (show 1<=2 by decide)),b6,k6,m6⟩ ⟨G7,b7,k7,m7⟩);have G9:=ap (jg.Xf F9 ⟨G5,b5,k5,m5⟩ cu);have G10:=ap (jg.Am F10 ⟨G5,b5,k5,m5⟩ Z3);have G11:=ap (jg.K8 F11 ⟨G9,b9,k9,m9⟩ ⟨G10,b10,k10,m10⟩);have G12:=ap (jg.Eb F12 ⟨G11,b11,k11,m11⟩ eY oO);have G13:=ap (jg.Ak F13 ⟨G5,b5,k5,m5⟩ oO);have G14:=ap (jg.Aj F14 cU);have G15:=ap (jg.KC F15 ⟨G13,b13,k13,m13⟩ ⟨(G14.mono (show 1<=2 by decide)),b14,k14,m14⟩ oO cU);have G16:=ap (jg.KD F16 ⟨G15,b15,k15,m15⟩ um cU);have G17:=ap (Fw.K7 F17 ⟨G7,b7,k7,m7⟩ Z3);have G18:=ap (Fw.Pu F18 ⟨G4,b4,k4,m4⟩ ⟨(G17.mono (show 3<=4 by decide)),b17,k17,m17⟩ oO);have G19:=ap (jg.KH F19);have G20:=ap (jg.HF F20 Ey qDN qGI qG0);have G21:=ap (jg.Xj F21 ⟨(G19.mono (show 1<=2 by decide)),b19,k19,m19⟩ ⟨G20,b20,k20,m20⟩);have G22:=ap (Ru.HD F22 cU);have G23:=ap (Ru.Ai F23);have G24:=ap (Ru.HB F24);have G25:=ap (Ru.Ea F25);have G26:=ap (Ru.K6 F26 ⟨G21,b21,k21,m21⟩);have G27:=ap (Ru.HH F27 eY um);have G28:=ap (Ru.Pj F28 ⟨(G8.mono (show 3<=4 by decide)),b8,k8,m8⟩ ⟨(G13.mono (show 2<=4 by decide)),b13,k13,m13⟩ ⟨G16,b16,k16,m16⟩ ⟨G12,b12,k12,m12⟩ ⟨(G27.mono (show 1<=4 by decide)),b27,k27,m27⟩ ⟨(G25.mono (show 1<=4 by decide)),b25,k25,m25⟩ ⟨(G24.mono (show 1<=4 by decide)),b24,k24,m24⟩ ⟨G26,b26,k26,m26⟩ ⟨(G22.mono (show 1<=4 by decide)),b22,k22,m22⟩ cU oO);have G29:=ap (Ru.XQ F29 ⟨G18,b18,k18,m18⟩ ⟨G28,b28,k28,m28⟩ ⟨(G23.mono (show 1<=5 by decide)),b23,k23,m23⟩);have G30:=ap (Ru.Ph F30 Ey qDM (qGH.mono (show 1<=6 by decide)) qFZ qDL (qGG.mono (show 1<=6 by decide)) qFY ⟨G29,b29,k29,m29⟩ eY um);have G31:=ap (Ru.TY F31 qGC (ZW.mono (show 1<=6 by decide)) ZK mC0 ⟨(G12.mono (show 4<=7 by decide)),b12,k12,m12⟩ ⟨(G26.mono (show 4<=7 by decide)),b26,k26,m26⟩ ⟨(G24.mono (show 1<=7 by decide)),b24,k24,m24⟩ ⟨(G22.mono (show 1<=7 by decide)),b22,k22,m22⟩ ⟨G30,b30,k30,m30⟩ cU eY);have G32:=ap (Ru.Tc F32 Ey qGC (ZW.mono (show 1<=6 by decide)) ZK mC0 ⟨(G29.mono (show 6<=7 by decide)),b29,k29,m29⟩ ⟨G30,b30,k30,m30⟩);have G33:=ap (Ru.Xa F33);have G34:=ap (T9 F34 cU);have G35:=ap (Xd F35 La dJ gY Tt ⟨G32,b32,k32,m32⟩ ⟨(G33.mono (show 1<=8 by decide)),b33,k33,m33⟩ (Vf.mono (show 3<=8 by decide)) VN cU);have G36:=ap (Xi F36 La dJ Tt qGB (ZV.mono (show 1<=8 by decide)) ZJ mC1 ⟨(G31.mono (show 8<=9 by decide)),b31,UG,m31⟩ ⟨(G33.mono (show 1<=9 by decide)),b33,k33,m33⟩ (Vf.mono (show 3<=9 by decide)) VN ⟨G35,b35,k35,m35⟩ ⟨(G34.mono (show 1<=9 by decide)),b34,k34,m34⟩ eY cu cU);have G37:=ap (Xb F37);have G38:=ap (XX F38 La dJ gY Tt qGB (ZV.mono (show 1<=8 by decide)) ZJ mC1 ⟨(G31.mono (show 8<=9 by decide)),b31,UG,m31⟩ ⟨(G32.mono (show 8<=9 by decide)),b32,k32,m32⟩ (Vf.mono (show 3<=9 by decide)) VN ⟨(G37.mono (show 1<=9 by decide)),b37,k37,m37⟩ eY cu);have G39:=ap (vI.Xc F39 eY);have G40:=ap (vI.Xk F40 ⟨G39,b39,k39,m39⟩ eY);have G41:=ap (vI.TV F41 ⟨G2,b2,k2,m2⟩ ⟨G40,b40,k40,m40⟩ cu cU);have G42:=ap (Pq F42 b42 m42);have G43:=ap (vI.Pr F43 ⟨G2,b2,k2,m2⟩ cu Z1);have G44:=ap (vI.T4 F44 ⟨(G2.mono (show 2<=3 by decide)),b2,k2,m2⟩ ⟨(G39.mono (show 1<=3 by decide)),b39,k39,m39⟩ ⟨G41,b41,k41,m41⟩ ⟨(G1.mono (show 1<=3 by decide)),b1,k1,m1⟩ cu eY cU);have G45:=ap (vI.TQ F45 ⟨(G2.mono (show 2<=3 by decide)),b2,k2,m2⟩ ⟨G42,b42,k42,m42⟩ ⟨G41,b41,k41,m41⟩ cu eY cU Z2);have G46:=ap (vI.TX F46 ⟨(G2.mono (show 2<=4 by decide)),b2,k2,m2⟩ ⟨(G1.mono (show 1<=4 by decide)),b1,k1,m1⟩ ⟨(G39.mono (show 1<=4 by decide)),b39,k39,m39⟩ ⟨(G43.mono (show 3<=4 by decide)),b43,k43,m43⟩ ⟨G44,b44,k44,m44⟩ ⟨G45,b45,k45,m45⟩ cu cU);have G47:=ap (Wy.XN F47 eY vQ cu);have G48:=ap (Sx F48 mJ Z2 qAM);have G49:=ap (Wy.Px F49 eY cu);have G50:=ap (qDA F50 ⟨G49,b49,k49,m49⟩);have G51:=ap (XS F51 ⟨G48,b48,k48,m48⟩ eY cu mJ cU um);have G52:=ap (T8 F52 ⟨G36,b36,k36,m36⟩ mC2 (yq w.params) (yr w.params) (qz w.params));have G53:=ap (qAE F53 ⟨G38,b38,k38,m38⟩ mC2 (yq w.params) (yr w.params) (qz w.params));exact qAF (m':=11) F54 ⟨(G46.mono (show 5<=11 by decide)),b46,k46,m46⟩ ⟨(G2.mono (show 2<=11 by decide)),b2,k2,m2⟩ ⟨G52,b52,k52,m52⟩ ⟨G53,b53,k53,m53⟩ ⟨(G51.mono (show 2<=11 by decide)),b51,k51,m51⟩ ⟨(G47.mono (show 1<=11 by decide)),b47,k47,m47⟩ ⟨(G50.mono (show 2<=11 by decide)),b50,k50,m50⟩ ⟨(G31.mono (show 8<=11 by decide)),b31,UG,m31⟩ ⟨(G32.mono (show 8<=11 by decide)),b32,k32,m32⟩ ⟨(G38.mono (show 10<=11 by decide)),b38,k38,m38⟩ eY cu mJ cU Z1
theorem walk:PySem.W.WalkO QV LS (PySem.W.XL QV []) HK.says PySem.Challenge.rw_nesthall_k35_what_is_seen.row.toRowW LR [] (fun f vs=>PySem.call f vs):=by
 refine L2.WK (l:=PySem.Challenge.rw_nesthall_k35_what_is_seen) (n:=63) (k:=12) (x := "_law_script") (K:=KO) (CX:=fun _=>aa) (sp:=fun w=>RV (KO w.params)) rfl (by decide) rfl ⟨rfl,by decide,by decide⟩ (fun w h Y=>Y) ?_ (fun _ _ a ns hl _ hS=>⟨a,ns,rfl,hS,hl,fun _=>rfl⟩) fun _ _ _ _ _ z=>z;intro w _ _ h KX G hmg;have e:=hmg.symm.trans (PySem.W.mg_of KX G (a54 w.params))
 cases e
 exact⟨YJ,fun s v=>.of_eq rfl,fun _ _ _=>law_ok KX G⟩
end Av
open PySem PySem.W PyProof.Rows
theorem PySem.Challenge.cw_nesthall_k35_what_is_seen_holds : PySem.Challenge.rw_nesthall_k35_what_is_seen.Holds := by
 refine holds_law Av.said fun said=>?_;refine PySem.W.holds_open (r:=PySem.Challenge.rw_nesthall_k35_what_is_seen.row) Av.left Av.HK.of Av.HK.keeps
  (fun s e=>xl_of s (df.mp e).1) XL.keeps Av.hdef Av.hthe Av.hkw
  (fun s e=>recFacts_of (df.mp e).2) rfl said Av.hok Av.hbare ?hw Av.walk
 case hw=>w_witness2
