import PyProof.Rows.All
import KE.KBits
import KE.KTryMore
import KE.KStateDown
import PySem.Challenge.RW_nesthall_k44_charts_read_back
set_option Elab.async false
set_option linter.all false
set_option maxRecDepth 100000
set_option maxHeartbeats 0
set_option genSizeOf false
set_option genSizeOfSpec false
set_option hygiene false
local macro_rules|`(tactic|ext y)=>`(tactic|(decide +kernel))|`(tactic|ext w)=>`(tactic|(exact⟨by decide,by decide⟩))|`(tactic|ext z)=>`(tactic|(first | exact .inl rfl | exact .inr rfl | assumption))|`(tactic|ext a)=>`(tactic|(refine⟨_,rfl,rfl,_,rfl,sNe hw ?_⟩;refine⟨_,rfl,1,rfl,p,us,-1,v,rfl,rfl,jx.of Z,ev,?_⟩;refine⟨_,rfl,k,_,rfl,li,_,rfl,_,rfl,a,aO,O,G,_,rfl,N,bM,cZ,mv,_,rfl,a,aO,O,G,_,rfl,N,bM,cW,nv,?_⟩;refine lE (B:=seen fs G B H1) (ds:=[.str t,.lst m,.lst n]) rfl z2 ⟨_,_,rfl,rfl,_,_,rfl,mR,_,_,rfl,nR,rfl⟩ e1 fun v2 B2 H2 T I W g2 r2=>?_;refine lE (B:=B2) (ds:=[d,.int i,g]) rfl W ⟨_,_,rfl,rv.mono (z1.trans I),_,_,rfl,rfl,_,_,rfl,r2,rfl⟩ X fun v3 B3 H3 S U R g3 r3=>?_;refine⟨_,rfl,1,rfl,p,us,-1,us.length-1,rfl,rfl,S _ _ (T _ _ Z),ei,?_⟩))|`(tactic|ext b)=>`(tactic|(exact h.elim))|`(tactic|ext c)=>`(tactic|(intro B H ρ σ Q o h))|`(tactic|ext d)=>`(tactic|(exact Fo YM Y N ba nd el pv Z pr _ (T.trans S) (I.trans U) R (fun b o e=>(g3 b o e).elim (g2 b o) fun y=>.inr (T.free y)) r3 hn q))|`(tactic|ext e)=>`(tactic|(simp only[List.mem_cons,List.not_mem_nil,or_false]at hd))|`(tactic|ext f)=>`(tactic|(refine d.then o (P:=eZ G B H ρ σ Q) h (fun z=>z) (fun z=>z) fun _ z _ _ _ O x a=>?_))|`(tactic|ext g)=>`(tactic|(intro B H ρ σ D o h))|`(tactic|ext h)=>`(tactic|(rw[show lR f v ((k,x)::r)=(if k=f then (k,v)::r else (k,x)::lR f v r) from rfl]))|`(tactic|ext i)=>`(tactic|(intro _ s σ H x y v u Q I f R h))|`(tactic|ext j)=>`(tactic|(exact i.LK (jC _) (i.hok.fresh (jC _))))|`(tactic|ext k)=>`(tactic|(intro X C m y u i p s σ H E I j st Q;subst C m y))|`(tactic|ext l)=>`(tactic|(subst e))|`(tactic|ext m)=>`(tactic|(subst z))|`(tactic|ext n)=>`(tactic|(rw[show (⟨(model prog w).prog,(model prog w).w.params⟩:Setting).params.followText "set-order" = true from hb,cq rfl]))|`(tactic|ext o)=>`(tactic|(rw[Std.Legacy.Range.forIn_eq_forIn_range'];simp only[Std.Legacy.Range.size,Nat.sub_zero,Nat.add_sub_cancel,Nat.div_one]))|`(tactic|ext p)=>`(tactic|(intro B H ρ σ x d _ _ Q o b a h))|`(tactic|ext q)=>`(tactic|(refine⟨_,rfl,_,rfl,_,_,rfl,rfl,_,rfl,_,rfl,G.tak hT ei rfl (S.mono G.sb) (Y.mono G.sb) et fun v B6 H6 u s6 R=>?_⟩))|`(tactic|ext r)=>`(tactic|(intro B H ρ σ _ _ Q o a h))|`(tactic|ext s)=>`(tactic|(rw[cv (bE y)]at z))|`(tactic|ext t)=>`(tactic|(intro B H ρ σ R o p;refine h.then o (P:=PI1 G f B H ρ σ R) p (fun z=>z) (fun z=>z) fun _ z _ e b O x a=>?_))|`(tactic|ext u)=>`(tactic|(simp only[List.foldl_cons,List.foldl_nil,Nat.zero_add]))|`(tactic|ext v)=>`(tactic|(intro p s σ H Q I h))|`(tactic|ext x)=>`(tactic|(exact this))|`(tactic|ext aa)=>`(tactic|(intro _ s σ H xs _ Q I r h))|`(tactic|ext ab)=>`(tactic|(rw[VJ (by rw[fH];exact c),jf]at e))|`(tactic|ext ac)=>`(tactic|(refine b.then o (P:=eZ G B H ρ σ Q) h (fun z=>z) (fun z=>z) fun ws z _ _ _ O x a=>?_))|`(tactic|ext ad)=>`(tactic|(refine d.then o (P:=eZ G B H ρ σ Q) h (fun z=>z) (fun z=>z) fun w z v f b O x a=>?_))|`(tactic|ext ae)=>`(tactic|(refine h B H ρ σ Q o ?_))|`(tactic|ext af)=>`(tactic|(refine d.then o (P:=PT1 G B H ρ σ Q) h (fun z=>z) (fun z=>z) fun c z e a O x=>?_))|`(tactic|ext ag)=>`(tactic|(rw[YX (by rw[fH];omega),fq]at e))|`(tactic|ext ah)=>`(tactic|(refine G.call c y rfl ⟨_,_,rfl,rfl,_,_,rfl,r5,rfl⟩ fun v6 B6 H6 u s6 R=>?_))|`(tactic|ext ai)=>`(tactic|(refine (I.hok b u e).stay (fun c v f q=>k c v ?_ q) (fun _ q=>q) fun _ _ q=>q))|`(tactic|ext aj)=>`(tactic|(refine PyProof.Rows.kws_cons (wpAny_Constant_int (PyProof.Rows.kws_nil ?_))))|`(tactic|ext ak)=>`(tactic|(refine⟨"tuple",_,PyProof.Rows.slot_tuple_getitem.lookup,g.typeIs,?_⟩))|`(tactic|ext al)=>`(tactic|(exact k _ (by simp)))|`(tactic|ext am)=>`(tactic|(rw[w5,<-P,l3]at this;rw[o,Nat.min_self,cy,Bool.and_true];rw[o]at this))|`(tactic|ext an)=>`(tactic|(exact cc PySem.W.kitx_list I.BX ⟨_,g,rfl⟩ e (fun z=>nomatch z) h))|`(tactic|ext ao)=>`(tactic|(exact cc PySem.W.kitx_dict I.BX ⟨o,g,j.1⟩ e (fun z=>nomatch z) h))|`(tactic|ext ap)=>`(tactic|(exact z.elim))|`(tactic|ext aq)=>`(tactic|(rw[cv (bE z)]at e ⊢))|`(tactic|ext ar)=>`(tactic|(exact (rP.mp c).elim (Gu.wd H hr n g h.1 w) (Gu.wd H hr n j h.2 w)))|`(tactic|ext au)=>`(tactic|(rw[tY c i j b];refine Eq.trans w ?_))|`(tactic|ext av)=>`(tactic|(intro p s σ H D I h))|`(tactic|ext aw)=>`(tactic|(subst y;rw[cw h]at z))|`(tactic|ext ax)=>`(tactic|(rw[ea]at z;refine f i g ρ σ _ O ?_;rw[ea];intro vs M J t X j))|`(tactic|ext ay)=>`(tactic|(rw[bI (k ++ " " ++ _ ++ " "),eY,eY,eY,jB,jB,jB,<-bI,<-bI,<-bI]))|`(tactic|ext az)=>`(tactic|(exact⟨.ref p,E,h _ B H o (Ext.refl _ _) ⟨p,vs,rfl,r⟩⟩))|`(tactic|ext ba)=>`(tactic|(refine aE (wpAny_newObj_type ?_)))|`(tactic|ext bb)=>`(tactic|(rw[e];intro v c a g x q))|`(tactic|ext bc)=>`(tactic|(simp only[List.mem_cons,List.not_mem_nil,or_false,not_or]))|`(tactic|ext bd)=>`(tactic|(rw[w5,w5,<-P,<-l2,l3,l4]at this))|`(tactic|ext bf)=>`(tactic|(rw[cq (by omega),cq (by omega)]))|`(tactic|ext bg)=>`(tactic|(rw[cn (ne _ t (fun _=>nofun) fun _ _ _=>nofun)];exact t))
noncomputable section
noncomputable section
abbrev ae:=PySem.Shared
abbrev af:=PySem.FuncData
abbrev ag:=PySem.Program
abbrev ah:=PySem.Around
abbrev ar:=PySem.Addr
abbrev av:=PySem.Value
abbrev aw:=@List
abbrev ax:=@Option
abbrev ay:=PySem.World
abbrev aE:=@PySem.wpAny_bind
abbrev aI:=@PySem.wpAny_pure
abbrev aS:=@of_decide_eq_true
abbrev aT:=@Or.inl
abbrev bb:=@Nat.zero_le
abbrev bg:=@decide_eq_false
abbrev bq:=@decide_eq_true
abbrev br:=@Nat.le_trans
abbrev bt:=@List.map_cons
abbrev bE:=@Ne.symm
abbrev bP:=@decide_eq_decide
abbrev bS:=@List.append_assoc
abbrev bX:=@PySem.wpAny_mono
abbrev c0:=@False.elim
abbrev c4:=@List.length_range
abbrev c6:=@PySem.Heap.get?_update_other
abbrev c8:=@PySem.Heap.get?_update_self
abbrev c9:=@PySem.wpAny_holding
abbrev cc:=@PySem.W.kia_one
abbrev cf:=@PySem.mem_of_lookup
abbrev ck:=@PySem.W.mg_of
abbrev cn:=@if_neg
abbrev cq:=@if_pos
abbrev cv:=@List.getElem?_set_ne
abbrev cw:=@List.getElem?_set_self
abbrev cx:=@List.length_replicate
abbrev cy:=@beq_self_eq_true
abbrev cE:=@beq_eq_false_iff_ne
abbrev cK:=@List.replicate_succ
abbrev cS:=@Array.length_toList
abbrev d3:=@PySem.F.plainAttrs_str
abbrev d5:=@True.intro
abbrev d6:=@absurd
abbrev de:=@Array.getElem?_eq_some_iff
abbrev dk:=@Array.getElem?_toList
abbrev dv:=@Bool.and_eq_true
abbrev dA:=@Bool.and_false
abbrev dP:=@Bool.bne_false
abbrev dQ:=@Bool.eq_iff_iff
abbrev dS:=@PySem.Heap.size_push
abbrev eh:=@Int.fdiv_eq_ediv_of_nonneg
abbrev eA:=@Int.le_refl
abbrev eB:=@List.all_cons
abbrev eC:=@List.all_eq_true
abbrev eD:=@List.any_cons
abbrev eI:=@List.concat_eq_append
abbrev eJ:=@List.cons_append
abbrev eK:=@List.contains_iff_mem
abbrev eL:=@List.drop_eq_getElem_cons
abbrev eM:=@List.drop_of_length_le
abbrev eP:=@List.drop_zero
abbrev eR:=@List.eq_nil_of_length_eq_zero
abbrev eS:=@List.eq_nil_or_concat
abbrev ff:=@List.filterMap_cons
abbrev fg:=@List.flatMap_cons
abbrev fk:=@List.foldl_append
abbrev fo:=@List.foldl_cons
abbrev fq:=@List.getElem?_replicate
abbrev fv:=@List.getElem_take
abbrev fw:=@List.getLast?_concat
abbrev fA:=@List.length_append
abbrev fE:=@List.length_drop
abbrev fF:=@List.length_map
abbrev fN:=@List.length_set
abbrev fR:=@List.lookup_cons
abbrev fS:=@List.map_congr_left
abbrev fT:=@List.map_map
abbrev gc:=@List.mem_append_left
abbrev gp:=@List.mem_append_right
abbrev gx:=@List.mem_iff_getElem
abbrev gy:=@List.mem_iff_getElem?
abbrev gz:=@List.mem_range
abbrev gE:=@List.mem_singleton
abbrev gL:=@List.nil_append
abbrev gN:=@List.nodup_cons
abbrev gT:=@List.of_mem_zip
abbrev gX:=@List.pairwise_iff_getElem
abbrev h7:=@List.range'_1_concat
abbrev hG:=@List.range_succ
abbrev hI:=@List.size_toArray
abbrev hJ:=@Nat.add_right_cancel
abbrev hU:=@Nat.le_add_right
abbrev hV:=@Nat.le_of_ble_eq_true
abbrev hX:=@Nat.le_of_lt
abbrev hZ:=@Nat.le_refl
abbrev i0:=@Nat.le_succ
abbrev ia:=@Nat.lt_irrefl
abbrev ic:=@Nat.lt_succ_of_lt
abbrev ij:=@Nat.lt_succ_self
abbrev ip:=@Nat.min_eq_left
abbrev iq:=@Nat.min_le_right
abbrev iA:=@Nat.mod_lt
abbrev iE:=@Nat.mul_comm
abbrev iF:=@Nat.mul_le_mul_left
abbrev iL:=@Nat.ne_of_gt
abbrev iN:=@Nat.not_lt_zero
abbrev iO:=@Nat.pow_succ
abbrev iP:=@Nat.sub_self
abbrev iS:=@Nat.sub_zero
abbrev iX:=@Nat.succ_le_succ
abbrev j2:=@Nat.zero_add
abbrev j3:=@Option.isSome_iff_exists
abbrev ja:=@PyProof.Rows.boot_all
abbrev js:=@PyProof.Rows.boot_min
abbrev jv:=@PyProof.Rows.boot_str
abbrev jI:=@PyProof.Rows.callWith_builtin1
abbrev jS:=@PyProof.Rows.callWith_type1
abbrev ka:=@PyProof.Rows.slot_tuple_getitem
abbrev kb:=@PySem.F.args_tuple_add_2
abbrev kc:=@PySem.F.entry_tuple_add
abbrev ke:=@PySem.F.slot_str_partition
abbrev kf:=@PySem.F.slot_str_startswith
abbrev kg:=@PySem.F.slot_tuple_add
abbrev kn:=@PySem.F.type_str_partition
abbrev ko:=@PySem.F.type_str_startswith
abbrev dN:=PySem.W.Frag
abbrev tO:=@PySem.Heap.get?_push_of_some
abbrev rN:=@PySem.Heap.lt_size
abbrev Ab:=@PySem.Heap.get?_push_size
abbrev VJ:=@List.getElem?_append_left
abbrev YX:=@List.getElem?_append_right
abbrev qK:=@List.mem_cons_self
abbrev Jb:=@List.mem_of_getElem?
abbrev M7:=@Nat.lt_of_lt_of_le
abbrev Aa:=@Nat.ne_of_lt
abbrev rM:=@List.mem_cons_of_mem
abbrev gA:=@PySem.boot_len
abbrev tM:=@PySem.F.plainAttrs_list
abbrev uZ:=@PySem.F.slot_list_append
abbrev uY:=@PySem.F.type_list_append
abbrev Ac:=@PyProof.Rows.boot_tuple
abbrev TX:=@PyProof.Rows.boot_isinstance
abbrev Yb:=@Int.emod_nonneg
abbrev YZ:=@Int.emod_lt_of_pos
abbrev VV:=@List.getElem?_range
abbrev fH:=@List.length_map
abbrev wF:=@List.getElem?_eq_getElem
abbrev jB:=@List.length_append
abbrev jC:=@Nat.le_refl
abbrev rO:=@List.getElem?_eq_some_iff
abbrev w5:=@List.size_toArray
abbrev xf:=@Bool.false_ne_true
abbrev Jc:=@Option.some.inj
abbrev vd:=@List.map_append
abbrev zl9:=@List.take_of_length_le
abbrev vf:=@List.mem_singleton
abbrev xg:=@List.getD_eq_getElem?_getD
abbrev gH:=@List.length_cons
abbrev pF:=@List.length_take
abbrev qD2:=@List.take_add_one
abbrev qD1:=@List.length_singleton
abbrev jL:=@List.mem_cons
abbrev qH:=@List.append_nil
abbrev rP:=@List.mem_append
abbrev rA:=@List.mem_map
abbrev jf:=@List.getElem?_map
abbrev qGB:=@List.length_filter_le
abbrev TY:=@List.getElem_mem
abbrev qGA:=@List.mem_filter
abbrev Va:=@Int.toNat_natCast
abbrev KI(K:PySem.W.Frag)(a:PySem.Addr):Prop:=PySem.W.keepIn K (.ref a)=true
namespace L2
open PySem
def inClass(s:Stmt)(j:Nat):Stmt:=match s with
 | .ClassDef _ _ _ b _ _ _ _ _ _ _=>b.getD j (.Pass ⟨0,0,0,0⟩)
 | _=>.Pass ⟨0,0,0,0⟩
def vY(s:Stmt):Arguments:=match s with
 | .FunctionDef _ a _ _ _ _ _ _ _ _=>a
 | _=>{ posonlyargs:=[],args:=[],vararg:=none,kwonlyargs:=[],kw_defaults:=[],kwarg:=none,defaults:=[] }
def oX(s:Stmt):aw Stmt:=match s with
 | .FunctionDef _ _ b _ _ _ _ _ _ _=>b
 | _=>[]
def aV(s:Stmt):Scope:=match s with
 | .FunctionDef _ _ _ _ _ _ S _ _ _=>S
 | _=>{ kind:=.function,names:=[],isGenerator:=false,isCoroutine:=false }
end L2
namespace YW
open PySem L2
def top(i:Nat):Stmt:=PySem.Challenge.pw_nesthall_k44_charts_read_back.main.body.getD i (.Pass ⟨0,0,0,0⟩)
abbrev jo:Stmt:=top 1
abbrev ug:Stmt:=top 2
abbrev lK:Stmt:=top 3
abbrev vN:Stmt:=top 4
abbrev rZ:Stmt:=top 8
abbrev lM:Stmt:=top 22
abbrev mX:Stmt:=top 23
abbrev pH:Stmt:=top 24
abbrev jR:Stmt:=top 25
abbrev jr:Stmt:=top 26
abbrev jV:Stmt:=top 27
abbrev gC:Stmt:=top 28
abbrev j6:Stmt:=top 29
abbrev j5:Stmt:=top 30
abbrev jQ:Stmt:=top 31
abbrev jq:Stmt:=top 32
abbrev eG:Stmt:=top 33
abbrev jT:Stmt:=top 34
abbrev jU:Stmt:=top 35
abbrev jg:Stmt:=top 42
abbrev Js:Stmt:=top 46
abbrev tV:Stmt:=top 47
abbrev lL:Stmt:=top 48
abbrev oH:Stmt:=top 49
abbrev ik:Stmt:=top 50
abbrev oK:Stmt:=top 51
abbrev vM:Stmt:=top 52
abbrev qQ:Stmt:=top 53
abbrev vL:Stmt:=top 54
abbrev qU:Stmt:=top 55
abbrev tX:Stmt:=top 56
abbrev oN:Stmt:=top 57
abbrev yS:Stmt:=top 58
abbrev lJ:Stmt:=top 59
abbrev qP:Stmt:=top 60
abbrev qW:Stmt:=top 61
abbrev oJ:Stmt:=top 62
abbrev qO:Stmt:=top 63
abbrev Jr:Stmt:=top 65
abbrev Rh:Stmt:=top 67
abbrev Ju:Stmt:=top 68
abbrev yU:Stmt:=top 69
abbrev yV:Stmt:=top 70
abbrev vO:Stmt:=top 71
abbrev yW:Stmt:=top 72
abbrev sE:Stmt:=top 73
abbrev oh:Stmt:=top 74
abbrev vQ:Stmt:=top 75
abbrev Jt:Stmt:=top 76
abbrev rz:Stmt:=top 77
abbrev vP:Stmt:=top 78
abbrev oO:Stmt:=top 79
abbrev ir:Stmt:=top 80
abbrev pI:Stmt:=top 81
abbrev J0:Stmt:=top 82
abbrev lN:Stmt:=top 83
abbrev CG:Stmt:=top 84
abbrev Rf:Stmt:=inClass (top 64) 0
abbrev Yl:Stmt:=inClass (top 64) 1
abbrev oM:Stmt:=inClass (top 64) 2
abbrev qR:Stmt:=inClass (top 64) 3
abbrev vK:Stmt:=inClass (top 64) 4
end YW
namespace zq
open PySem L2 YW
def ju(x q:Str)(st:Stmt)(p cd:av):af:=PySem.W.fnOf x q (vY st) (oX st) (aV st) .none .none .none p none cd .none
def jz(d:af):Obj:=⟨.type "function",none,.func d,#[]⟩
def n0_:PySem.Value:=.str "nesthall.charts" 230
def n1_:PySem.Value:=.str "nesthall.guards" 187
def n2_:PySem.Value:=.str "nesthall.reading" 448
def n3_:PySem.Value:=.str "law_nesthall_k44_charts_read_back" 759
def fd1:af:=ju "is_number_of" "is_number_of" lM n0_ (.ref 51)
def fd2:af:=ju "is_in_reach" "is_in_reach" mX n0_ (.ref 58)
def fd3:af:=ju "names_of" "names_of" pH n0_ (.ref 63)
def fd4:af:=ju "is_word" "is_word" rZ (.str "nesthall.words" 218) (.ref 42)
def fd5:af:=ju "name_has_fault" "name_has_fault" jR n0_ (.ref 70)
def fd6:af:=ju "box_has_fault" "box_has_fault" jr n0_ (.ref 77)
def fd7:af:=ju "depth_has_fault" "depth_has_fault" j6 n0_ (.ref 96)
def fd8:af:=ju "keeps_has_fault" "keeps_has_fault" j5 n0_ (.ref 103)
def fd9:af:=ju "end_has_fault" "end_has_fault" jq n0_ (.ref 117)
def qFV:af:=ju "deed_has_fault" "deed_has_fault" jV n0_ (.ref 84)
def qFU:af:=ju "deeds_have_fault" "deeds_have_fault" gC n0_ (.ref 89)
def qFT:af:=ju "room_has_fault" "room_has_fault" jQ n0_ (.ref 110)
def qFS:af:=ju "goal_has_fault" "goal_has_fault" jT n0_ (.ref 129)
def qFR:af:=ju "guards_within" "guards_within" jo n1_ (.ref 20)
def qFQ:af:=ju "height" "height" ug n1_ (.ref 25)
def qFP:af:=ju "plain_guards" "plain_guards" lK n1_ (.ref 32)
def qFO:af:=ju "asked" "asked" vN n1_ (.ref 37)
def qFN:af:=ju "guard_has_fault" "guard_has_fault" eG n0_ (.ref 122)
def qFM:af:=ju "door_has_fault" "door_has_fault" jU n0_ (.ref 136)
def qFL:af:=ju "need" "need" Js n2_ (.ref 206)
def qFK:af:=ju "words_of" "words_of" tV n2_ (.ref 213)
def qFJ:af:=ju "read_number" "read_number" jg (.str "nesthall.figures" 438) (.ref 185)
def qFI:af:=ju "head_told" "head_told" qU n2_ (.ref 269)
def qFH:af:=ju "marked" "marked" yS n2_ (.ref 290)
def qFG:af:=ju "room_written" "room_written" lJ n2_ (.ref 297)
def qFF:af:=ju "kind_of" "kind_of" vL n2_ (.ref 262)
def qFE:af:=ju "number_named" "number_named" lL n2_ (.ref 220)
def qFD:af:=ju "deed_of" "deed_of" vM n2_ (.ref 248)
def qFC:af:=ju "with_guard" "with_guard" oJ n2_ (.ref 318)
def qFB:af:=ju "with_deed" "with_deed" qO n2_ (.ref 325)
def qFA:af:=ju "read_deed" "read_deed" qQ n2_ (.ref 255)
def qF9:af:=ju "box_told" "box_told" tX n2_ (.ref 276)
def qF8:af:=ju "event_told" "event_told" oN n2_ (.ref 283)
def qF7:af:=ju "word_taken" "word_taken" oH n2_ (.ref 227)
def qF6:af:=ju "guard_taken" "guard_taken" ik n2_ (.ref 234)
def qF5:af:=ju "read_guard" "read_guard" oK n2_ (.ref 241)
def qF4:af:=ju "room_told" "room_told" qP n2_ (.ref 304)
def qF3:af:=ju "door_told" "door_told" qW n2_ (.ref 311)
def qF2:af:=ju "read" "read" Jr n2_ (.ref 381)
def qF1:af:=ju "_law_cell_at" "_law_cell_at" Rh n3_ (.ref 388)
def qF0:af:=ju "_law_mixed" "_law_mixed" Ju n3_ (.ref 395)
def qEZ:af:=ju "_law_word" "_law_word" yU n3_ (.ref 402)
def qEY:af:=ju "_law_name" "_law_name" yV n3_ (.ref 409)
def qEX:af:=ju "_law_names" "_law_names" vO n3_ (.ref 416)
def qEW:af:=ju "_law_deed" "_law_deed" yW n3_ (.ref 423)
def qEV:af:=ju "_law_deeds" "_law_deeds" sE n3_ (.ref 428)
def qEU:af:=ju "_law_guard" "_law_guard" oh n3_ (.ref 435)
def qET:af:=ju "_law_boxes" "_law_boxes" vQ n3_ (.ref 442)
def qES:af:=ju "_law_rooms" "_law_rooms" Jt n3_ (.ref 449)
def qER:af:=ju "_law_doors" "_law_doors" rz n3_ (.ref 454)
def qEQ:af:=ju "_law_chart" "_law_chart" vP n3_ (.ref 461)
def qEP:af:=ju "_law_deed_row" "_law_deed_row" oO n3_ (.ref 468)
def qEO:af:=ju "_law_guard_row" "_law_guard_row" ir n3_ (.ref 475)
def qEN:af:=ju "_law_rows" "_law_rows" pI n3_ (.ref 480)
def qEM:af:=ju "_law_same" "_law_same" J0 n3_ (.ref 487)
def qEL:af:=ju "_law_one_name" "_law_one_name" lN n3_ (.ref 492)
def ZZ:af:=ju "law" "law" CG n3_ (.ref 499)
def qEK:af:=ju "__init__" "Draft.__init__" Rf n2_ (.ref 339)
def qEJ:af:=ju "add" "Draft.add" Yl n2_ (.ref 346)
def qEI:af:=ju "add_part" "Draft.add_part" oM n2_ (.ref 353)
def qEH:af:=ju "may_end" "Draft.may_end" qR n2_ (.ref 360)
def qEG:af:=ju "whole" "Draft.whole" vK n2_ (.ref 367)
def kE(P:Params)(x:Str)(n:Nat)(v:av):DictEntry:=⟨PyData.keyHash P x,.str x n,v⟩
def cO(x q:Str)(a:Nat)(l n:Int)(r:Nat)(k:Int):Obj:=⟨.type "code",none,.fields #[.str x a,.str q (a+1),.str "/claim/cut.py" (a+2),.int l 0,.int n 0,.int 0 0,.int 0 0,.int 3 0,.ref r,.bool true,.int 181 0,.ref (r+1),.none,.ref (r+2),.ref (r+3),.ref (r+4),.int k 0,.int l 0,.str "/claim/cut.py" (k.toNat+1)],#[]⟩
def cN(x q:Str)(a:Nat)(l n:Int)(r:Nat)(k:Int):Obj:=⟨.type "code",none,.fields #[.str x a,.str q (a+1),.str "/claim/cut.py" (a+2),.int l 0,.int n 0,.int 0 0,.int 0 0,.int 3 0,.ref r,.bool true,.int 181 0,.ref (r+1),.none,.none,.none,.ref (r+2),.int k 0,.int l 0,.str "/claim/cut.py" (k.toNat+1)],#[]⟩
def KO(P:Params):dN:=[
 (3,⟨.type "dict",none,.dict #[kE P "__name__" 165 (.str "law_nesthall_k44_charts_read_back" 759),kE P "__doc__" 166 .none,kE P "__package__" 167 .none,kE P "__loader__" 168 (.builtin "__main__.__loader__#opaque"),kE P "__spec__" 169 .none,kE P "__annotations__" 170 (.ref 6),kE P "__builtins__" 171 (.ref 4),kE P "__file__" 173 (.str "/claim/cut.py" 172),kE P "__cached__" 174 .none,kE P "guards_within" 195 (.ref 21),kE P "height" 201 (.ref 26),kE P "plain_guards" 211 (.ref 33),kE P "asked" 217 (.ref 38),kE P "SMALL_LETTERS" 221 (.str "abcdefghijklmnopqrstuvwxyz" 220),kE P "LONGEST" 223 (.int (12) 222),kE P "is_word" 229 (.ref 43),kE P "ORDERS" 234 (.ref 44),kE P "KINDS" 238 (.ref 45),kE P "MOST_LETTERS" 240 (.int (12) 239),kE P "MOST_TURNS" 242 (.int (20) 241),kE P "MOST_BOXES" 244 (.int (6) 243),kE P "MOST_EVENTS" 246 (.int (8) 245),kE P "MOST_ROOMS" 248 (.int (40) 247),kE P "MOST_DOORS" 250 (.int (60) 249),kE P "MOST_DEEDS" 252 (.int (8) 251),kE P "DEEPEST" 254 (.int (12) 253),kE P "HIGHEST" 256 (.int (6) 255),kE P "GREATEST" 258 (.int (1000000000000000000000000000000) 257),kE P "is_number_of" 266 (.ref 52),kE P "is_in_reach" 273 (.ref 59),kE P "names_of" 279 (.ref 64),kE P "name_has_fault" 287 (.ref 71),kE P "box_has_fault" 297 (.ref 78),kE P "deed_has_fault" 308 (.ref 85),kE P "deeds_have_fault" 314 (.ref 90),kE P "depth_has_fault" 322 (.ref 97),kE P "keeps_has_fault" 330 (.ref 104),kE P "room_has_fault" 342 (.ref 111),kE P "end_has_fault" 351 (.ref 118),kE P "guard_has_fault" 357 (.ref 123),kE P "goal_has_fault" 366 (.ref 130),kE P "door_has_fault" 376 (.ref 137),kE P "NestError" 396 (.ref 147),kE P "NoWords" 412 (.ref 160),kE P "Unread" 437 (.ref 179),kE P "FIGURES" 441 (.str "0123456789" 440),kE P "read_number" 447 (.ref 186),kE P "BEHIND" 503 (.ref 187),kE P "DEED_PLACES" 513 (.ref 200),kE P "need" 520 (.ref 207),kE P "words_of" 528 (.ref 214),kE P "number_named" 536 (.ref 221),kE P "word_taken" 543 (.ref 228),kE P "guard_taken" 557 (.ref 235),kE P "read_guard" 568 (.ref 242),kE P "deed_of" 578 (.ref 249),kE P "read_deed" 588 (.ref 256),kE P "kind_of" 595 (.ref 263),kE P "head_told" 604 (.ref 270),kE P "box_told" 613 (.ref 277),kE P "event_told" 621 (.ref 284),kE P "marked" 629 (.ref 291),kE P "room_written" 641 (.ref 298),kE P "room_told" 651 (.ref 305),kE P "door_told" 662 (.ref 312),kE P "with_guard" 670 (.ref 319),kE P "with_deed" 679 (.ref 326),kE P "Draft" 746 (.ref 371),kE P "read" 758 (.ref 382),kE P "_law_cell_at" 768 (.ref 389),kE P "_law_mixed" 780 (.ref 396),kE P "_law_word" 791 (.ref 403),kE P "_law_name" 802 (.ref 410),kE P "_law_names" 815 (.ref 417),kE P "_law_deed" 832 (.ref 424),kE P "_law_deeds" 838 (.ref 429),kE P "_law_guard" 855 (.ref 436),kE P "_law_boxes" 868 (.ref 443),kE P "_law_rooms" 888 (.ref 450),kE P "_law_doors" 894 (.ref 455),kE P "_law_chart" 909 (.ref 462),kE P "_law_deed_row" 918 (.ref 469),kE P "_law_guard_row" 929 (.ref 476),kE P "_law_rows" 935 (.ref 481),kE P "_law_same" 944 (.ref 488),kE P "_law_one_name" 950 (.ref 493),kE P "law" 959 (.ref 500)] 87,#[]⟩),
 (51,cO "is_number_of" "is_number_of" 259 41 2 46 264),
 (52,jz fd1),
 (58,cO "is_in_reach" "is_in_reach" 267 43 1 53 271),
 (59,jz fd2),
 (63,cN "names_of" "names_of" 274 45 1 60 277),
 (64,jz fd3),
 (42,cN "is_word" "is_word" 224 26 1 39 227),
 (43,jz fd4),
 (70,cO "name_has_fault" "name_has_fault" 280 47 2 65 285),
 (71,jz fd5),
 (77,cO "box_has_fault" "box_has_fault" 288 49 2 72 295),
 (78,jz fd6),
 (96,cO "depth_has_fault" "depth_has_fault" 315 69 2 91 320),
 (97,jz fd7),
 (103,cO "keeps_has_fault" "keeps_has_fault" 323 73 2 98 328),
 (104,jz fd8),
 (117,cO "end_has_fault" "end_has_fault" 343 89 2 112 349),
 (118,jz fd9),
 (84,cO "deed_has_fault" "deed_has_fault" 298 55 3 79 306),
 (85,jz qFV),
 (89,cN "deeds_have_fault" "deeds_have_fault" 309 67 3 86 312),
 (90,jz qFU),
 (110,cO "room_has_fault" "room_has_fault" 331 79 4 105 340),
 (111,jz qFT),
 (129,cO "goal_has_fault" "goal_has_fault" 358 103 3 124 364),
 (130,jz qFS),
 (20,cO "guards_within" "guards_within" 189 2 1 15 193),
 (21,jz qFR),
 (25,cN "height" "height" 196 8 1 22 199),
 (26,jz qFQ),
 (32,cO "plain_guards" "plain_guards" 202 10 1 27 209),
 (33,jz qFP),
 (37,cN "asked" "asked" 212 18 1 34 215),
 (38,jz qFO),
 (122,cN "guard_has_fault" "guard_has_fault" 352 94 3 119 355),
 (123,jz qFN),
 (136,cO "door_has_fault" "door_has_fault" 367 109 4 131 374),
 (137,jz qFM),
 (206,cO "need" "need" 514 140 1 201 518),
 (207,jz qFL),
 (213,cO "words_of" "words_of" 521 143 1 208 526),
 (214,jz qFK),
 (185,cN "read_number" "read_number" 442 127 1 182 445),
 (186,jz qFJ),
 (269,cO "head_told" "head_told" 596 192 2 264 602),
 (270,jz qFI),
 (290,cO "marked" "marked" 622 212 2 285 627),
 (291,jz qFH),
 (297,cO "room_written" "room_written" 630 217 1 292 639),
 (298,jz qFG),
 (262,cO "kind_of" "kind_of" 589 188 1 257 593),
 (263,jz qFF),
 (220,cO "number_named" "number_named" 529 147 2 215 534),
 (221,jz qFE),
 (248,cO "deed_of" "deed_of" 569 175 3 243 576),
 (249,jz qFD),
 (318,cO "with_guard" "with_guard" 663 238 2 313 668),
 (319,jz qFC),
 (325,cO "with_deed" "with_deed" 671 241 3 320 677),
 (326,jz qFB),
 (255,cO "read_deed" "read_deed" 579 184 3 250 586),
 (256,jz qFA),
 (276,cO "box_told" "box_told" 605 203 2 271 611),
 (277,jz qF9),
 (283,cO "event_told" "event_told" 614 208 2 278 619),
 (284,jz qF8),
 (227,cO "word_taken" "word_taken" 537 150 1 222 541),
 (228,jz qF7),
 (234,cO "guard_taken" "guard_taken" 544 153 4 229 555),
 (235,jz qF6),
 (241,cO "read_guard" "read_guard" 558 170 3 236 566),
 (242,jz qF5),
 (304,cO "room_told" "room_told" 642 225 2 299 649),
 (305,jz qF4),
 (311,cO "door_told" "door_told" 652 231 2 306 660),
 (312,jz qF3),
 (381,cO "read" "read" 747 284 1 376 756),
 (382,jz qF2),
 (388,cO "_law_cell_at" "_law_cell_at" 761 296 2 383 766),
 (389,jz qF1),
 (395,cO "_law_mixed" "_law_mixed" 769 300 3 390 778),
 (396,jz qF0),
 (402,cO "_law_word" "_law_word" 781 307 1 397 789),
 (403,jz qEZ),
 (409,cO "_law_name" "_law_name" 792 314 2 404 800),
 (410,jz qEY),
 (416,cO "_law_names" "_law_names" 803 319 3 411 813),
 (417,jz qEX),
 (423,cO "_law_deed" "_law_deed" 816 333 5 418 830),
 (424,jz qEW),
 (428,cN "_law_deeds" "_law_deeds" 833 347 5 425 836),
 (429,jz qEV),
 (435,cO "_law_guard" "_law_guard" 839 350 6 430 853),
 (436,jz qEU),
 (442,cO "_law_boxes" "_law_boxes" 856 365 2 437 866),
 (443,jz qET),
 (449,cO "_law_rooms" "_law_rooms" 869 373 4 444 886),
 (450,jz qES),
 (454,cN "_law_doors" "_law_doors" 889 398 5 451 892),
 (455,jz qER),
 (461,cO "_law_chart" "_law_chart" 895 418 1 456 907),
 (462,jz qEQ),
 (468,cO "_law_deed_row" "_law_deed_row" 910 432 3 463 916),
 (469,jz qEP),
 (475,cO "_law_guard_row" "_law_guard_row" 919 438 3 470 927),
 (476,jz qEO),
 (480,cN "_law_rows" "_law_rows" 930 447 1 477 933),
 (481,jz qEN),
 (487,cO "_law_same" "_law_same" 936 474 2 482 942),
 (488,jz qEM),
 (492,cN "_law_one_name" "_law_one_name" 945 487 1 489 948),
 (493,jz qEL),
 (499,cO "law" "law" 951 493 1 494 957),
 (500,jz ZZ),
 (371,⟨.type "type",none,.cls ⟨"Draft",[.type "object"],[.ref 371,.type "object"],370,"Draft",true,[],[],false,none,false⟩,#[none,none,some (.str "Draft" 680),some (.str "Draft" 688),some (.builtin "object.__new__"),some (.bool true)]⟩),
 (370,⟨.type "dict",none,.dict #[kE P "__module__" 687 (.str "nesthall.reading" 448),kE P "__firstlineno__" 691 (.int (244) 690),kE P "__init__" 698 (.ref 340),kE P "add" 707 (.ref 347),kE P "add_part" 717 (.ref 354),kE P "may_end" 724 (.ref 361),kE P "whole" 732 (.ref 368),kE P "__static_attributes__" 739 (.ref 369),kE P "__dict__" 741 (.ref 372),kE P "__weakref__" 743 (.ref 373),kE P "__doc__" 744 .none] 4,#[]⟩),
 (339,cO "__init__" "Draft.__init__" 692 246 1 334 696),
 (340,jz qEK),
 (346,cO "add" "Draft.add" 699 254 2 341 705),
 (347,jz qEJ),
 (353,cO "add_part" "Draft.add_part" 708 271 3 348 715),
 (354,jz qEI),
 (360,cO "may_end" "Draft.may_end" 718 278 1 355 722),
 (361,jz qEH),
 (367,cO "whole" "Draft.whole" 725 281 1 362 730),
 (368,jz qEG),
 (45,⟨.type "tuple",none,.seq #[.str "plain" 235,.str "one" 236,.str "all" 237] 0,#[]⟩),
 (44,⟨.type "tuple",none,.seq #[.str "inner" 232,.str "outer" 233] 0,#[]⟩),
 (187,⟨.type "dict",none,.dict #[kE P "" 450 (.ref 188),kE P "order" 452 (.ref 189),kE P "letters" 454 (.ref 190),kE P "turns" 456 (.ref 191),kE P "box" 460 (.ref 192),kE P "event" 464 (.ref 193),kE P "room" 467 (.ref 194),kE P "in" 472 (.ref 195),kE P "out" 477 (.ref 196),kE P "door" 481 (.ref 197),kE P "when" 485 (.ref 198),kE P "do" 488 (.ref 199)] 12,#[]⟩),
 (200,⟨.type "dict",none,.dict #[kE P "in" 504 (.int (5) 505),kE P "out" 506 (.int (6) 507),kE P "do" 508 (.int (3) 509)] 3,#[]⟩),
 (188,⟨.type "tuple",none,.seq #[.str "order" 451] 0,#[]⟩),
 (189,⟨.type "tuple",none,.seq #[.str "letters" 453] 0,#[]⟩),
 (190,⟨.type "tuple",none,.seq #[.str "turns" 455] 0,#[]⟩),
 (191,⟨.type "tuple",none,.seq #[.str "box" 457,.str "event" 458,.str "room" 459] 0,#[]⟩),
 (192,⟨.type "tuple",none,.seq #[.str "box" 461,.str "event" 462,.str "room" 463] 0,#[]⟩),
 (193,⟨.type "tuple",none,.seq #[.str "event" 465,.str "room" 466] 0,#[]⟩),
 (194,⟨.type "tuple",none,.seq #[.str "in" 468,.str "out" 469,.str "room" 470,.str "door" 471] 0,#[]⟩),
 (195,⟨.type "tuple",none,.seq #[.str "in" 473,.str "out" 474,.str "room" 475,.str "door" 476] 0,#[]⟩),
 (196,⟨.type "tuple",none,.seq #[.str "out" 478,.str "room" 479,.str "door" 480] 0,#[]⟩),
 (197,⟨.type "tuple",none,.seq #[.str "when" 482,.str "do" 483,.str "door" 484] 0,#[]⟩),
 (198,⟨.type "tuple",none,.seq #[.str "do" 486,.str "door" 487] 0,#[]⟩),
 (199,⟨.type "tuple",none,.seq #[.str "do" 489,.str "door" 490] 0,#[]⟩),
 (2,⟨.none,none,.dict #[] 0,#[]⟩)]
def KA:aw ar:=[3,51,52,58,59,63,64,42,43,70,71,77,78,96,97,103,104,117,118,84,85,89,90,110,111,129,130,20,21,25,26,32,33,37,38,122,123,136,137,206,207,213,214,185,186,269,270,290,291,297,298,262,263,220,221,248,249,318,319,325,326,255,256,276,277,283,284,227,228,234,235,241,242,304,305,311,312,381,382,388,389,395,396,402,403,409,410,416,417,423,424,428,429,435,436,442,443,449,450,454,455,461,462,468,469,475,476,480,481,487,488,492,493,499,500,371,370,339,340,346,347,353,354,360,361,367,368,45,44,187,200,188,189,190,191,192,193,194,195,196,197,198,199,2]
def PW:ag:=PySem.Challenge.pw_nesthall_k44_charts_read_back
def QV:ag:=PySem.W.view PW [84]
def LS:aw Str:=[Str.ofString "__name__",Str.ofString "guards_within",Str.ofString "height",Str.ofString "plain_guards",Str.ofString "asked",Str.ofString "SMALL_LETTERS",Str.ofString "LONGEST",Str.ofString "is_word",Str.ofString "ORDERS",Str.ofString "KINDS",Str.ofString "MOST_LETTERS",Str.ofString "MOST_TURNS",Str.ofString "MOST_BOXES",Str.ofString "MOST_EVENTS",Str.ofString "MOST_ROOMS",Str.ofString "MOST_DOORS",Str.ofString "MOST_DEEDS",Str.ofString "DEEPEST",Str.ofString "HIGHEST",Str.ofString "GREATEST",Str.ofString "is_number_of",Str.ofString "is_in_reach",Str.ofString "names_of",Str.ofString "name_has_fault",Str.ofString "box_has_fault",Str.ofString "deed_has_fault",Str.ofString "deeds_have_fault",Str.ofString "depth_has_fault",Str.ofString "keeps_has_fault",Str.ofString "room_has_fault",Str.ofString "end_has_fault",Str.ofString "guard_has_fault",Str.ofString "goal_has_fault",Str.ofString "door_has_fault",Str.ofString "NestError",Str.ofString "NoWords",Str.ofString "Unread",Str.ofString "FIGURES",Str.ofString "read_number",Str.ofString "BEHIND",Str.ofString "DEED_PLACES",Str.ofString "need",Str.ofString "words_of",Str.ofString "number_named",Str.ofString "word_taken",Str.ofString "guard_taken",Str.ofString "read_guard",Str.ofString "deed_of",Str.ofString "read_deed",Str.ofString "kind_of",Str.ofString "head_told",Str.ofString "box_told",Str.ofString "event_told",Str.ofString "marked",Str.ofString "room_written",Str.ofString "room_told",Str.ofString "door_told",Str.ofString "with_guard",Str.ofString "with_deed",Str.ofString "Draft",Str.ofString "read",Str.ofString "_law_cell_at",Str.ofString "_law_mixed",Str.ofString "_law_word",Str.ofString "_law_name",Str.ofString "_law_names",Str.ofString "_law_deed",Str.ofString "_law_deeds",Str.ofString "_law_guard",Str.ofString "_law_boxes",Str.ofString "_law_rooms",Str.ofString "_law_doors",Str.ofString "_law_chart",Str.ofString "_law_deed_row",Str.ofString "_law_guard_row",Str.ofString "_law_rows",Str.ofString "_law_same",Str.ofString "_law_one_name"]
def HK:PySem.W.Hook:=PySem.W.kHook KO KA fun _=>by kernel_rfl
def qCR:Stmt->Pos
 | .FunctionDef _ _ _ _ _ _ _ _ _ p=>p
 | _=>⟨0,0,0,0⟩
def R9:DefRec:=⟨"law",vY CG,oX CG,aV CG,qCR CG⟩
def qDG:PySem.Challenge.rw_nesthall_k44_charts_read_back.row.wellSaid=true:=by kernel_rfl
def said:PySem.Challenge.rw_nesthall_k44_charts_read_back.wellSaid=true:=by
 unfold PySem.W.OpenLaw.wellSaid;rw[qDG]
 kernel_rfl
def ZJ(w:ay):Option.map (fun s=>PySem.W.openSeen QV LS (importedModules PW.main.body) (fun s=>PySem.W.xlAt QV [] s&&PySem.W.recOk [] s) true s) (PySem.W.openEnds treeTable PW (w.withFollow "special-get-raises" true) 7644)=some (PySem.W.openGood QV LS):=by kernel_rfl
def ZG(w:ay):Option.map (fun s=>HK.obs s) (PySem.W.openEnds treeTable PW (w.withFollow "special-get-raises" true) 7644)=some (HK.val (w.withFollow "special-get-raises" true)):=by kernel_rfl
def ZL(w:ay):Option.map (fun s=>PySem.W.openSeen QV LS (importedModules PW.main.body) (fun s=>PySem.W.xlAt QV [] s&&PySem.W.recOk [] s) true s) (PySem.W.openEnds treeTable PW (w.withFollow "special-get-raises" false) 7644)=some (PySem.W.openGood QV LS):=by kernel_rfl
def ZK(w:ay):Option.map (fun s=>HK.obs s) (PySem.W.openEnds treeTable PW (w.withFollow "special-get-raises" false) 7644)=some (HK.val (w.withFollow "special-get-raises" false)):=by kernel_rfl
theorem map_two{α β γ:Type}{f:α->β}{g:α->γ}{x:ax α}{a:β}{b:γ}(h:x.map f=some a)(H:x.map g=some b):x.map (fun s=>(f s,g s))=some (a,b):=by
 cases x with
 | none=>cases h
 | some y=>cases h;cases H;rfl
def JN(w:ay)(b:Bool)(h:w.params.followText "special-get-raises" = b):w.withFollow "special-get-raises" b=w:=by
 obtain⟨d,p⟩:=w
 cases p
 subst h;unfold World.withFollow;simp only[World.mk.injEq,true_and,Params.mk.injEq,and_true]
 funext r
 split
 .rename_i e;rw[e]
 .rfl
theorem left:PySem.W.LeftO PW QV LS (fun s=>PySem.W.xlAt QV [] s&&PySem.W.recOk [] s) HK.obs HK.val 7644:=fun w=>by
 cases h:w.params.followText "special-get-raises" with
 | true=>have z:=ZJ w;have z2:=ZG w;rw[JN w _ h]at z z2;exact map_two z z2
 | false=>have z:=ZL w;have z2:=ZK w;rw[JN w _ h]at z z2;exact map_two z z2
end zq
namespace L2
open PySem PySem.Spec PyProof.Rows
abbrev Key:=Sum Int Str
def JH:Key->av->Bool
 | .inl k,v=>Value.isInt k v
 | .inr x,v=>Value.isStrOf x v
def qGS(w:ay):Key->Int
 | .inl k=>hashInt k
 | .inr x=>hashStr w x
theorem gP:∀ {k:Key} {v:av},JH k v=true->(∃ i t,k=Sum.inl i/\v=Value.int i t)∨(∃ x t,k=Sum.inr x/\v=Value.str x t)
 | .inl i,v,h=>by
  obtain⟨t,e⟩:=Value.isInt_shape (k:=i) (v:=v) h;exact .inl ⟨i,t,rfl,e⟩
 | .inr x,v,h=>by
  obtain⟨t,e⟩:=Value.isStrOf_shape (x:=x) (v:=v) h;exact .inr ⟨x,t,rfl,e⟩
def Ui(i:Int)(t:Tok):JH (.inl i) (.int i t)=true:=by simp [JH,Value.isInt]
def Uh(x:Str)(t:Tok):JH (.inr x) (.str x t)=true:=by simp [JH,Value.isStrOf]
def qCF(a b:Int):decide ((Sum.inl a:Key)=Sum.inl b)=(a==b):=by
 by_cases e:a=b
 .ext l;simp
 .have h:¬ (Sum.inl a:Key)=Sum.inl b:=fun q=>e (Sum.inl.inj q);rw[bg h];exact (cE.mpr e).symm
def qCC(a b:Str):decide ((Sum.inr a:Key)=Sum.inr b)=decide (a=b):=by
 by_cases e:a=b
 .ext l;simp
 .have h:¬ (Sum.inr a:Key)=Sum.inr b:=fun q=>e (Sum.inr.inj q);rw[bg h,bg e]
def qCE(a:Int)(b:Str):decide ((Sum.inl a:Key)=Sum.inr b)=false:=bg (fun q=>nomatch q)
def qCD(a:Str)(b:Int):decide ((Sum.inr a:Key)=Sum.inl b)=false:=bg (fun q=>nomatch q)
def qg(prog:ag)(w:ay):PySem.KeyKind prog w Key where
 is:=JH
 hash:=qGS w
 inj:=fun v a b d c=>by
  rcases gP d with ⟨i,t,rfl,rfl⟩ | ⟨x,t,rfl,rfl⟩
  .rcases gP c with ⟨j,u,rfl,e⟩ | ⟨y,u,rfl,e⟩
   .injection e with E _;rw[E]
   .exact nomatch e
  .rcases gP c with ⟨j,u,rfl,e⟩ | ⟨y,u,rfl,e⟩
   .exact nomatch e
   .injection e with E _;rw[E]
 byValue:=fun k v h=>by
  rcases gP h with ⟨i,t,rfl,rfl⟩ | ⟨x,t,rfl,rfl⟩ <;> rfl
 pyHash:=fun H h=>by
  rcases gP H with ⟨i,t,rfl,rfl⟩ | ⟨x,t,rfl,rfl⟩
  .exact wpAny_pyHash_int h
  .exact wpAny_pyHash_str h
 eqBool:=fun f H h=>by
  rcases gP f with ⟨i,t,rfl,rfl⟩ | ⟨x,t,rfl,rfl⟩
  .rcases gP H with ⟨j,u,rfl,rfl⟩ | ⟨y,u,rfl,rfl⟩
   .rw[qCF]at h;exact wpAny_eqBool_int h
   .rw[qCE]at h;exact SeqAt.EqAt.int_str i t y u _ _ _ _ h
  .rcases gP H with ⟨j,u,rfl,rfl⟩ | ⟨y,u,rfl,rfl⟩
   .rw[qCD]at h;exact SeqAt.EqAt.str_int x t j u _ _ _ _ h
   .rw[qCC]at h;exact wpAny_eqBool_str h
 «strs»:=fun k x t v h=>by
  rcases gP h with ⟨i,u,rfl,e⟩ | ⟨y,u,rfl,e⟩
  .exact nomatch e
  .injection e with E _;subst E
   cases v <;> rfl
def Ni(prog:ag)(w:ay)(i:Int)(t:Tok):(qg prog w).is (.inl i) (.int i t)=true:=Ui i t
def Nh(prog:ag)(w:ay)(x:Str)(t:Tok):(qg prog w).is (.inr x) (.str x t)=true:=Uh x t
inductive V where
 | non | bl (b:Bool) | int (i:Int) | str (x:Str) | YT (b:Array UInt8) | flt (b:UInt64) | ref (a:Addr) | ty (n:String)
 deriving DecidableEq
def RelV:V->av->Prop
 | .non,u=>u=Value.none
 | .bl b,u=>u=Value.bool b
 | .int i,u => ∃ t,u=Value.int i t
 | .str x,u => ∃ t,u=Value.str x t
 | .YT b,u => ∃ t,u=Value.bytes b t
 | .flt b,u => ∃ t,u=Value.float b t
 | .ref a,u=>u=Value.ref a
 | .ty n,u=>u=Value.type n
abbrev Vals:aw V->aw av->Prop:=Paired RelV
def Vals.length(r:Vals xs us):xs.length=us.length:=Paired.length r
theorem Vals.get:∀ {xs:aw V} {us:aw av} {i:Nat} {x:V},Vals xs us->xs[i]? = some x->∃ u,us[i]? = some u/\RelV x u
 | _,_,_,_,.nil,e=>by simp at e
 | _,_,0,_,.cons r _,e=>by simp at e;subst e;exact⟨_,rfl,r⟩
 | _,_,i+1,x,.cons _ t,e=>by
  obtain⟨u,h,H⟩:=Vals.get (i:=i) (x:=x) t (by simpa using e);exact⟨u,by simpa using h,H⟩
theorem Vals.set(r:RelV x u):∀ {xs:aw V} {us:aw av} (i:Nat),Vals xs us->Vals (xs.set i x) (us.set i u)
 | _,_,_,.nil=>.nil
 | _,_,0,.cons _ t=>.cons r t
 | _,_,i+1,.cons q t=>.cons q (Vals.set r i t)
theorem Vals.append:∀ {xs ys:aw V} {us ws:aw av},Vals xs us->Vals ys ws->Vals (xs++ys) (us++ws)
 | _,_,_,_,.nil,s=>s
 | _,_,_,_,.cons r t,s=>.cons r (Vals.append t s)
theorem Vals.take:∀ {xs:aw V} {us:aw av} (n:Nat),Vals xs us->Vals (xs.take n) (us.take n)
 | _,_,0,_=>.nil
 | _,_,_+1,.nil=>.nil
 | _,_,n+1,.cons r t=>.cons r (Vals.take n t)
theorem Vals.drop:∀ {xs:aw V} {us:aw av} (n:Nat),Vals xs us->Vals (xs.drop n) (us.drop n)
 | _,_,0,r=>r
 | _,_,_+1,.nil=>.nil
 | _,_,n+1,.cons _ t=>Vals.drop n t
def EY:ax V->ax av->Prop
 | some v,some u=>RelV v u
 | none,none=>True
 | _,_=>False
def KV{κ:Type}:aw (κ×V)->aw (κ×av)->Prop:=Paired fun (p:κ×V) (q:κ×av)=>p.1=q.1/\RelV p.2 q.2
def kV:Key->V
 | .inl i=>.int i
 | .inr x=>.str x
inductive HO where
 | lst (xs:List V)
 | tup (xs:List V)
 | dK (kvs:List (Key×V)) | dT (kvs:List (List Key×V))
 | set (S:Int->Bool) (n:Nat)
 | ins (C dx:Addr) (fs:List (Str×V))
 | own (x:Addr)
 | xd (fs:List (Str×V))
 | met (f x:Addr)
 | rng (lo hi:Int)
 | Qy (o:Obj) (u:HO)
 | Ti (ps:Array Value)
 | ext (φ:Heap->Prop)
abbrev Hp:=ar->ax HO
def upd(H:Hp)(a:ar)(o:HO):Hp:=fun b=>if b=a then some o else H b
def zC:upd H a o a=some o:=by unfold upd;rw[cq rfl]
def zR(h:b≠a):upd H a o b=H b:=by unfold upd;rw[cn h]
def zN{H:Hp}{a b:ar}{o:HO}(h:H a=some o)(h':H b=none):a≠b:=by intro e;subst e;rw[h]at h';cases h'
section
variable(P:ag)(w:ay)
def jm(H:Hp)(h:Heap)(a:ar):HO->Prop
 | .lst xs=>xs.length<=sizeLine/\∃(i:aw av)(n:Nat),Vals xs i/\h.get? a=some { cls:=.type "list",data:=.seq i.toArray n }
 | .tup xs=>xs.length<=sizeLine/\∃ i:aw av,Vals xs i/\IsTup h a i.toArray
 | .dK k=>k.length<=sizeLine/\(a==sysModules)=false/\∃ vs,KV k vs/\h.DictOf (qg P w) a vs
 | .dT k=>k.length<=sizeLine/\(a==sysModules)=false/\∃ xs:aw (aw Key×ar×av),
   Paired (fun (p:aw Key×V) (q:aw Key×ar×av)=>p.1=q.1/\H q.2.1=some (.tup (p.1.map kV))/\RelV p.2 q.2.2) k xs ∧
   ∃ o es ep,h.get? a=some o/\o.ExactDict/\o.data = .dict es ep/\es.toList=xs.map (entryOfKey (tupleKind (qg P w)))/\(xs.map (·.1)).Nodup
 | .set S n=>h.SetOf (intKind P w) a S n
 | .ins C d fs=>H d=some (.own a)/\fs.length<=1000/\d≠a/\h.get? a=some (PySem.W.instObj C d) ∧
   ∃ m,h.Ns1 d m/\(∀ f,EY (fs.lookup f) (m f))/\PySem.Within m (fs.map (·.1))
 | .own _ => ∃ o,h.get? a=some o
 | .xd fs => ∃ m,h.Ns1 a m/\∀ f,EY (fs.lookup f) (m f)
 | .rng lo e => ∃ t u v,h.get? a=some { cls:=.type "range",data:=.fields #[.int lo t,.int e u,.int 1 v] }
 | .Qy o u=>h.get? a=some o/\jm H h a u
 | .Ti ps=>h.get? a=some { cls:=.none,data:=.fields ps }
 | .met f x=>h.get? a=some (PySem.W.methodObj (.ref f) (.ref x))
 | .ext φ=>φ h/\(∃ o,h.get? a=some o)/\∀ b c:Heap,φ b->(∀ o,b.get? a=some o->c.get? a=some o)->φ c
def zr(H:Hp)(h:Heap):Prop:=∀ a o,H a=some o->jm P w H h a o
end
section
variable{P:ag}{w:ay}{H H':Hp}{h h':Heap}{a:ar}{o:HO}
theorem jm.lt(x:jm P w H h a o):a<h.objs.size:=by
 cases o with
 | lst xs=>obtain⟨_,_,_,_,e⟩:=x;exact rN e
 | tup xs=>obtain⟨_,_,_,p⟩:=x;exact p.lt
 | dK k=>obtain⟨_,_,_,_,o,_,_,e,_⟩:=x;exact rN e
 | dT k=>obtain⟨_,_,_,_,o,_,_,e,_⟩:=x;exact rN e
 | set S n=>obtain⟨o,_,_,_,e,_⟩:=x;exact rN e
 | ins C d fs=>obtain⟨_,_,_,e,_⟩:=x;exact rN e
 | own y=>obtain⟨_,e⟩:=x;exact rN e
 | xd fs=>obtain⟨_,⟨_,_,_,e,_⟩,_⟩:=x;exact rN e
 | rng lo i=>obtain⟨_,_,_,e⟩:=x;exact rN e
 | Qy ob u=>obtain⟨e,_⟩:=x;exact rN e
 | Ti ps=>exact rN (show h.get? a=some _ from x)
 | met f y=>exact rN (show h.get? a=some _ from x)
 | ext φ=>obtain⟨_,⟨_,e⟩,_⟩:=x;exact rN e
theorem Paired.qDY:∀ {l:aw α} {L:aw β},Paired F l L->(∀ a b,F a b->G a b)->Paired G l L
 | _,_,.nil,_=>.nil
 | _,_,.cons r t,f=>.cons (f _ _ r) (Paired.qDY t f)
theorem jm.stay(x:jm P w H h a o)(k:∀ b u,(b=a∨H b=some (.own a))->h.get? b=some u->h'.get? b=some u)
  (j:∀ b,H b=some (.own a)->H' b=some (.own a)) (g:∀ b xs,H b=some (.tup xs)->H' b=some (.tup xs)):jm P w H' h' a o:=by
 induction o with
 | lst xs=>obtain⟨z,i,n,r,e⟩:=x;exact⟨z,i,n,r,k _ _ (.inl rfl) e⟩
 | tup xs=>obtain⟨z,i,r,ob,e,c⟩:=x;exact⟨z,i,r,ob,k _ _ (.inl rfl) e,c⟩
 | dK s=>obtain⟨z,y,vs,r,ob,es,ep,e,c⟩:=x;exact⟨z,y,vs,r,ob,es,ep,k _ _ (.inl rfl) e,c⟩
 | dT s=>
  obtain⟨z,y,xs,r,ob,es,ep,e,c⟩:=x;exact⟨z,y,xs,Paired.qDY r fun p q z=>⟨z.1,g _ _ z.2.1,z.2.2⟩,ob,es,ep,k _ _ (.inl rfl) e,c⟩
 | set S n=>obtain⟨ob,es,ep,t,e,c⟩:=x;exact⟨ob,es,ep,t,k _ _ (.inl rfl) e,c⟩
 | ins C D fs=>
  obtain⟨d,z,ne,e,m,⟨O,es,ep,E,c⟩,r⟩:=x;exact⟨j _ d,z,ne,k _ _ (.inl rfl) e,m,⟨O,es,ep,k _ _ (.inr d) E,c⟩,r⟩
 | own y=>obtain⟨ob,e⟩:=x;exact⟨ob,k _ _ (.inl rfl) e⟩
 | xd fs=>obtain⟨m,⟨O,es,ep,e,c⟩,r⟩:=x;exact⟨m,⟨O,es,ep,k _ _ (.inl rfl) e,c⟩,r⟩
 | rng lo l=>obtain⟨t,u,v,e⟩:=x;exact⟨t,u,v,k _ _ (.inl rfl) e⟩
 | Qy ob u I=>obtain⟨e,q⟩:=x;exact⟨k _ _ (.inl rfl) e,I q⟩
 | Ti ps=>
  have e:h.get? a=some { cls:=.none,data:=.fields ps }:=x;show h'.get? a=some { cls:=.none,data:=.fields ps };exact k a _ (.inl rfl) e
 | met f y=>
  have e:h.get? a=some (PySem.W.methodObj (.ref f) (.ref y)):=x;show h'.get? a=some (PySem.W.methodObj (.ref f) (.ref y));exact k a _ (.inl rfl) e
 | ext φ=>obtain⟨p,⟨o,e⟩,st⟩:=x;exact⟨st _ _ p fun o q=>k _ _ (.inl rfl) q,⟨o,k _ _ (.inl rfl) e⟩,st⟩
def zr.lt(x:zr P w H h)(e:H a=some o):a<h.objs.size:=(x a o e).lt
theorem zr.fresh(x:zr P w H h)(e:h.objs.size<=a):H a=none:=by
 cases q:H a with
 | none=>rfl
 | some u=>exact d6 (M7 (x.lt q) e) (ia _)
def zr.kept(x:zr P w H h)(k:∀ b u,h.get? b=some u->h'.get? b=some u):zr P w H h':=fun a o e=>
 (x a o e).stay (fun b u _ q=>k b u q) (fun _ q=>q) fun _ _ q=>q
def zr.laid(x:zr P w H h)(k:∀ b u,h.get? b=some u->h'.get? b=some u)(p:h.objs.size<=a)(n:jm P w (upd H a o) h' a o):zr P w (upd H a o) h':=fun b u e=>by
 have d:=x.fresh p
 by_cases f:b=a
 .subst f;rw[zC]at e;cases e;exact n
 .rw[zR f]at e
  exact (x b u e).stay (fun c v _ q=>k c v q) (fun c q=>by rw[zR (zN q d)];exact q) fun c _ q=>by rw[zR (zN q d)];exact q
end
def Rd(H:Hp)(a:ar)(u:HO):Prop:=H a=some u ∨ ∃ o,H a=some (.Qy o u)
def Rd.ok(r:Rd H a u)(x:zr P w H h):jm P w H h a u:=by
 rcases r with r | ⟨o,r⟩
 .exact x a u r
 .obtain⟨_,q⟩:=x a _ r;exact q
def Mut:ax HO->Prop
 | some (.lst _)=>True
 | some (.dK _)=>True
 | some (.dT _)=>True
 | some (.set _ _)=>True
 | some (.ins _ _ _)=>True
 | some (.ext _)=>True
 | _=>False
section
variable{P:ag}{w:ay}{H:Hp}{h h':Heap}{x e:ar}{o':HO}
def zr.write(ok:zr P w H h)(m:Mut (H x))(i:e=x∨H e=some (.own x))(k:∀ b u,b≠e->h.get? b=some u->h'.get? b=some u)(o:∃ u,h'.get? e=some u)
  (n:jm P w (upd H x o') h' x o'):zr P w (upd H x o') h':=fun b u q=>by
 have Q:∀ c y,H c=some (.own y)->c≠x:=fun c y r z=>by subst z;rw[r]at m;exact m
 have L:∀ c xs,H c=some (.tup xs)->c≠x:=fun c xs r z=>by subst z;rw[r]at m;exact m
 by_cases d:b=x
 .subst d;rw[zC]at q;cases q;exact n
 .rw[zR d]at q
  by_cases a:b=e
  .have g:H b=some (.own x):=by
    rcases i with z | z
    .exact d6 (a.trans z) d
    .rw[a];exact z
   rw[q]at g;cases g;obtain⟨v,j⟩:=o;exact⟨v,by rw[a];exact j⟩
  .refine (ok b u q).stay (fun c v f r=>k c v ?_ r) (fun c r=>by rw[zR (Q c b r)];exact r) fun c xs r=>by rw[zR (L c xs r)];exact r
   rcases f with rfl | f
   .exact a
   .rintro rfl;rcases i with z | z
    .exact Q c b f z
    .rw[f]at z;cases z;exact d rfl
end
structure Un(fs ex:List Addr)(H H':Hp)(h h':Heap):Prop where
 keep:∀ b o,h.get? b=some o->H b=none->b∉fs->b∉ex->h'.get? b=some o
 slot:∀ b o,h.get? b=some o->H b=none->b∈fs->b∉ex->∃ sl,h'.get? b=some { o with slots:=sl }
 free:∀ b o,h.get? b=some o->H b=none->b∉ex->H' b=none
 there:∀ b o,h.get? b=some o->b∉ex->∃ o',h'.get? b=some o'
 tups:∀ b xs,H b=some (.tup xs)->H' b=some (.tup xs)
 Ig:∀ b o u,H b=some (.Qy o u)->H' b=some (.Qy o u)
 Jj:∀ b ps,H b=some (.Ti ps)->∃ more,H' b=some (.Ti (ps++more))
section
variable{fs fs' ex ex':aw ar}{H H1 H2:Hp}{h h1 h2 h':Heap}{a x e:ar}{o:HO}
def Un.any(u:Un fs ex H H1 h h1)(q:h.get? b=some ob)(n:H b=none)(x:b∉ex):∃ sl,h1.get? b=some { ob with slots:=sl }:=by
 by_cases c:b∈fs
 .exact u.slot b ob q n c x
 .exact⟨ob.slots,u.keep b ob q n c x⟩
def Un.kept(k:∀ b u,h.get? b=some u->h'.get? b=some u):Un fs ex H H h h':=
 ⟨fun b ob q _ _ _=>k b ob q,fun b ob q _ _ _=>⟨ob.slots,k b ob q⟩,fun _ _ _ n _=>n,fun b ob q _=>⟨ob,k b ob q⟩,fun _ _ q=>q,fun _ _ _ q=>q,fun _ _ q=>⟨#[],by rw[q];simp⟩⟩
def Un.refl:Un fs ex H H h h:=Un.kept fun _ _ q=>q
def Un.laid(k:∀ b u,h.get? b=some u->h'.get? b=some u)(p:h.objs.size<=a)(d:H a=none):Un fs ex H (upd H a o) h h' where
 keep:=fun b u q _ _ _=>k b u q
 slot:=fun b u q _ _ _=>⟨u.slots,k b u q⟩
 free:=fun b u q n _=>by rw[zR (Aa (M7 (rN q) p))];exact n
 there:=fun b u q _=>⟨u,k b u q⟩
 tups:=fun b xs q=>by rw[zR (zN q d)];exact q
 Ig:=fun b u xs q=>by rw[zR (zN q d)];exact q
 Jj:=fun b _ q=>⟨#[],by rw[zR (zN q d),q];simp⟩
def Un.write(m:Mut (H x))(i:e=x∨H e=some (.own x))(k:∀ b u,b≠e->h.get? b=some u->h'.get? b=some u)(d:∃ u,h'.get? e=some u):Un fs ex H (upd H x o) h h':=by
 have f:∀ b,H b=none->b≠x:=fun b n z=>by subst z;rw[n]at m;exact m
 have g:∀ b,H b=none->b≠e:=fun b n z=>by
  ext m;rcases i with r | r
  .exact f b n r
  .rw[n]at r;cases r
 have c:∀ b u,H b=some u->¬ Mut (some u)->b≠x:=fun b u q N z=>by subst z;rw[q]at m;exact N m
 refine⟨fun b u q n _ _=>k b u (g b n) q,fun b u q n _ _=>⟨u.slots,k b u (g b n) q⟩,fun b u q n _=>by rw[zR (f b n)];exact n,fun b u q _=>?_,
  fun b xs q=>by rw[zR (c b _ q fun z=>z)];exact q,fun b u xs q=>by rw[zR (c b _ q fun z=>z)];exact q,fun b _ q=>⟨#[],by rw[zR (c b _ q fun z=>z),q];simp⟩⟩
 by_cases a:b=e
 .subst a;exact d
 .exact⟨u,k b u a q⟩
end
def trk(h:Heap)(H:Hp):aw ar:=(List.range h.objs.size).filter fun a=>(H a).isSome
def Kv(h:Heap)(H:Hp):Heap:=PySem.W.hideAll h (trk h H)
def Ul(h:Heap)(H:Hp):(Kv h H).objs.size=h.objs.size:=PySem.W.hideAll_size _ _
def X7(e:h.get? b=some o)(n:H b=none):(Kv h H).get? b=some o:=
 PySem.W.hideAll_get _ e fun c=>by
  have q:(H b).isSome=true:=(qGA.mp c).2;rw[n]at q;simp at q
theorem Z3(e:(Kv h H).get? b=some o):h.get? b=some o/\H b=none:=by
 have E:h.get? b=some o:=PySem.W.of_hideAll (trk h H) e;refine⟨E,?_⟩
 cases q:H b with
 | none=>rfl
 | some x=>
  have c:b∈trk h H:=List.mem_filter.mpr ⟨List.mem_range.mpr (Heap.lt_size E),by simp [q]⟩;have z:(Kv h H).get? b=none:=PySem.W.hideAll_none (trk h H) c;rw[z]at e;cases e
def qA4(g h:Heap)(L:ar):aw (ar×Obj):=(List.range h.objs.size).filterMap fun a=>if a=L∨(g.get? a).isSome=true then none else (h.get? a).map fun o=>(a,o)
def rest(g h:Heap)(L d:ar):aw (ar×Obj):=(qA4 g h L).filter fun p=>decide (p.1≠d)
structure Mod(K:dN)(mg:Str->Option Value)(base:Heap):Prop where
 kin:K.In base
 glob:base.Ns mainGlobals mg
 blt:∃ mb,base.Ns builtinsNs mb/\∀ x:Str,x ≠ "__name__" -> mb x=bootBuiltins x
 nolimit:base.NoLimit
structure Cx where
 prog:Program
 w:World
 K:dN
 mg:Str->Option Value
 base:Heap
 A:Around
 N:List Str
 s₀:Shared
 H₀:Hp
 env:Env
 outer:List Env
 stack:List Env
 ex:List Addr
 fn:Str->Bool
 calm:Bool
 pn:List (Addr×Obj)
 xe:Value->Shared->Prop
def frs(l:aw Env):aw ar:=l.filterMap (·.frame)
abbrev Cx.fs(X:Cx):aw ar:=frs X.outer
def Vis(S:Scope)(x:Str):Prop:=S.names.lookup x=some .local∨S.names.lookup x=some .cell∨S.names.lookup x=some .free
def Loc(S:Scope)(x:Str):Prop:=S.names.lookup x=some .local∨S.names.lookup x=some .cell
def Look(e:Env)(h:Heap)(m:Str->ax av)(x:Str)(u:av):Prop:=
 (e.kindOf x=some .local/\m x=some u)∨((e.kindOf x=some .cell∨e.kindOf x=some .free)/\∃ c,e.cells.lookup x=some c/\h.IsCell c (some u))
structure Cx.Ok(X:Cx):Prop where
 mod:Mod X.K X.mg X.base
 kind:X.env.scope.kind = .function
 glob:X.env.globals=mainGlobals
 blt:X.env.builtins=builtinsNs
 above:X.s₀.heap.objs.size<=X.env.locals
 inj:∀ x y c,X.env.cells.lookup x=some c->X.env.cells.lookup y=some c->x=y
 has:∀ x,(X.env.kindOf x=some .cell∨X.env.kindOf x=some .free)->∃ c,X.env.cells.lookup x=some c
 cab:∀ x c,X.fn x=true->X.env.cells.lookup x=some c->X.s₀.heap.objs.size<=c
 hd:X.calm=true->X.A.handled=none
 frames:X.A.frames=some X.stack
 stk:X.stack=X.outer∨(X.stack=X.env::X.outer/\X.env.frame=some X.env.locals)
 exf:∀ b∈X.ex,b≠X.env.locals/\∀ x c,X.env.cells.lookup x=some c->c≠b
 bs:∀ b o,X.base.get? b=some o->X.s₀.heap.get? b=some o/\X.H₀ b=none
 Zy:X.base.objs.size<=X.s₀.heap.objs.size
 WX:∀ b o,X.base.get? b=some o->b∉X.ex
 Za:∀ b∈X.ex,b∉X.fs
 Dl:X.s₀.heap.FunFrames X.base X.outer
 frf:∀ b∈X.fs,X.H₀ b=none
structure Inv(X:Cx)(pins:List (Addr×Obj))(σ:List (Option V))(H:Hp)(s:Shared):Prop where
 ok:X.Ok
 os:s.os=X.s₀.os
 bare:AllBare s.gens
 base:Un X.fs X.ex X.H₀ H X.s₀.heap s.heap
 loc:∃ m,s.heap.Ns X.env.locals m/\∀(i:Nat)(x:Str)(v:V),X.N[i]? = some x->σ[i]? = some (some v)->Vis X.env.scope x->∃ u,RelV v u/\Look X.env s.heap m x u
 cell:∀ x c,X.env.cells.lookup x=some c->∃ v,s.heap.IsCell c v
 free:H X.env.locals=none
 vC:∀ x c,X.env.cells.lookup x=some c->H c=none
 pin:∀ p∈X.pn++pins,s.heap.get? p.1=some p.2/\H p.1=none/\p.1≠X.env.locals/\p.1∉X.fs/\∀ v,p.2.data≠.cell v
 hok:zr X.prog X.w H s.heap
 len:σ.length=X.N.length
section
variable{X:Cx}{pins:aw (ar×Obj)}{σ:aw (ax V)}{H H':Hp}{s:ae}{h':Heap}
def Cx.Ok.qGN(ok:X.Ok)(e:X.base.get? b=some o):b∉X.fs:=fun c=>by
 have:=(ok.Dl.mem c).1;rw[e]at this;cases this
def Inv.bs(I:Inv X pins σ H s):∀ b o,X.base.get? b=some o->s.heap.get? b=some o/\H b=none:=fun b o e=>
 ⟨I.base.keep b o (I.ok.bs b o e).1 (I.ok.bs b o e).2 (I.ok.qGN e) (I.ok.WX b o e),I.base.free b o (I.ok.bs b o e).1 (I.ok.bs b o e).2 (I.ok.WX b o e)⟩
def Inv.bk(I:Inv X pins σ H s):∀ b o,X.base.get? b=some o->s.heap.get? b=some o:=fun b o e=>(I.bs b o e).1
def Inv.mod(I:Inv X pins σ H s):Mod X.K X.mg X.base:=I.ok.mod
def Inv.BX(I:Inv X pins σ H s):X.K.In s.heap:=I.ok.mod.kin.keeps I.bk
def Inv.lt(I:Inv X pins σ H s):X.env.locals<s.heap.objs.size:=let ⟨_,d,_⟩:=I.loc;d.lt
def Inv.sz(I:Inv X pins σ H s):X.s₀.heap.objs.size<=s.heap.objs.size:=br I.ok.above (hX I.lt)
def Inv.qGM(I:Inv X pins σ H s)(h:s.heap.objs.size<=a):a∉X.fs:=fun c=>by
 obtain⟨_,o,j,_⟩:=I.ok.Dl.mem c;exact d6 (M7 (rN j) (br I.sz h)) (ia _)
def Inv.cne(I:Inv X pins σ H s):∀ x c,X.env.cells.lookup x=some c->c≠X.env.locals:=fun x c e z=>by
 obtain⟨v,o,j,hd⟩:=I.cell x c e;obtain⟨m,⟨_,_,_,h,a,_⟩,_⟩:=I.loc;rw[z,h]at j;cases j;rw[a]at hd;cases hd
theorem Inv.Dl(I:Inv X pins σ H s):s.heap.FunFrames X.base X.outer:=by
 have all:∀(l:aw Env),(∀ b∈frs l,b∈X.fs)->X.s₀.heap.FunFrames X.base l->s.heap.FunFrames X.base l:=by
  intro l
  induction l with
  | nil=>intro _ _;trivial
  | cons E r i=>
   intro hs f;obtain⟨k,⟨L,o,h,d,j,hd⟩,hr⟩:=f;have a:L∈X.fs:=hs L (by unfold frs;rw[ff,h];exact qK);obtain⟨_,e⟩:=I.base.slot L o j (I.ok.frf L a) a fun z=>I.ok.Za L z a;exact⟨k,⟨L,_,h,d,e,hd⟩,i (fun b c=>hs b (by unfold frs;rw[ff,h];exact rM _ c)) hr⟩
 exact all X.outer (fun _ c=>c) I.ok.Dl
def Inv.stack(I:Inv X pins σ H s):s.heap.FunFrames X.base X.stack:=by
 rcases I.ok.stk with e | ⟨e,h⟩
 .rw[e];exact I.Dl
 .rw[e];obtain⟨m,d,_⟩:=I.loc;refine .cons (by rw[I.ok.kind];decide) h d ?_ I.Dl;exact Heap.get?_none_of_le (br I.ok.Zy I.ok.above)
def Inv.Q7(I:Inv X pins σ H s):∀ b∈frs X.stack,b∈X.env.locals::X.fs:=fun b c=>by
 rcases I.ok.stk with e | ⟨e,h⟩
 .rw[e]at c;exact rM _ c
 .rw[e]at c;unfold frs at c;rw[ff,h]at c;exact c
def Inv.Rb(I:Inv X pins σ H s):∀ b∈frs X.stack,H b=none:=fun b c=>by
 rcases jL.mp (I.Q7 b c) with e | c
 .rw[e];exact I.free
 .obtain⟨_,o,j,_⟩:=I.ok.Dl.mem c;exact I.base.free b o j (I.ok.frf b c) fun z=>I.ok.Za b z c
def Inv.step{g':Array GenState}{t':Nat}{d':Drawn}{ch:aw ar}(I:Inv X pins σ H s)
  (a:∀ b∈ch,(b∈X.ex∨X.s₀.heap.objs.size<=b)/\b≠X.env.locals/\(∀ x c,X.env.cells.lookup x=some c->c≠b)/\∀ p∈X.pn++pins,p.1≠b)
  (keep:∀ b o,b≠X.env.locals->b∉X.fs->b∉ch->s.heap.get? b=some o->H b=none->h'.get? b=some o)
  (S:∀ b o,b≠X.env.locals->b∈X.fs->b∉ch->s.heap.get? b=some o->H b=none->∃ sl,h'.get? b=some { o with slots:=sl }) (free:∀ b o,b∉ch->s.heap.get? b=some o->H b=none->H' b=none)
  (t:∀ b o,b∉ch->s.heap.get? b=some o->∃ O,h'.get? b=some O)
  (T:∀ b xs,H b=some (.tup xs)->H' b=some (.tup xs)) (W:∀ b o u,H b=some (.Qy o u)->H' b=some (.Qy o u)) (J:∀ b ps,H b=some (.Ti ps)->∃ M,H' b=some (.Ti (ps++M)))
  (ns:∀ m,s.heap.Ns X.env.locals m->h'.Ns X.env.locals m) (hok:zr X.prog X.w H' h') (Q:AllBare g') :
  Inv X pins σ H' { s with heap:=h',gens:=g',drawn:=d',toks:=t' }:=by
 have L:∀ b o,X.s₀.heap.get? b=some o->b≠X.env.locals:=fun b o e=>Aa (M7 (rN e) I.ok.above)
 have f:∀ b o,X.s₀.heap.get? b=some o->b∉X.ex->b∉ch:=fun b o e h g=>by
  rcases (a b g).1 with z | z
  .exact h z
  .exact d6 (M7 (rN e) z) (ia _)
 have C:∀ x c,X.env.cells.lookup x=some c->∀ v,s.heap.IsCell c v->h'.IsCell c v:=fun x c e v ⟨o,j,hd⟩=>by
  have N:c∉ch:=fun z=>(a c z).2.2.1 x c e rfl
  by_cases A:c∈X.fs
  .obtain⟨sl,q⟩:=S c o (I.cne x c e) A N j (I.vC x c e);exact⟨_,q,hd⟩
  .exact⟨o,keep c o (I.cne x c e) A N j (I.vC x c e),hd⟩
 refine⟨I.ok,I.os,Q,⟨fun b o e n g h=>?_,fun b o e n g h=>?_,fun b o e n h=>?_,fun b o e h=>?_,fun b xs e=>T b xs (I.base.tups b xs e),fun b o xs e=>W b o xs (I.base.Ig b o xs e),fun b ps e=>?_⟩,?_,fun x c e=>?_,?_,fun x c e=>?_,fun p D=>?_,hok,I.len⟩
 .exact keep b o (L b o e) g (f b o e h) (I.base.keep b o e n g h) (I.base.free b o e n h)
 .obtain⟨sl,E⟩:=I.base.slot b o e n g h;obtain⟨y,w⟩:=S b _ (L b o e) g (f b o e h) E (I.base.free b o e n h);exact⟨y,w⟩
 .obtain⟨O,E⟩:=I.base.there b o e h;exact free b O (f b o e h) E (I.base.free b o e n h)
 .obtain⟨O,E⟩:=I.base.there b o e h;exact t b O (f b o e h) E
 .obtain⟨R,E⟩:=I.base.Jj b ps e;obtain⟨G,w⟩:=J b _ E;exact⟨R++G,by rw[w,Array.append_assoc]⟩
 .obtain⟨m,P,F⟩:=I.loc;refine⟨m,ns m P,fun i x v E w U=>?_⟩;obtain⟨u,r,l⟩:=F i x v E w U;refine⟨u,r,?_⟩;rcases l with l | ⟨k,c,e,z⟩
  .exact .inl l
  .exact .inr ⟨k,c,e,C x c e _ z⟩
 .obtain⟨v,z⟩:=I.cell x c e;exact⟨v,C x c e v z⟩
 .obtain⟨m,⟨o,_,_,j,_⟩,_⟩:=I.loc;exact free _ o (fun z=>(a _ z).2.1 rfl) j I.free
 .obtain⟨v,o,j,hd⟩:=I.cell x c e;exact free c o (fun z=>(a c z).2.2.1 x c e rfl) j (I.vC x c e)
 .obtain⟨e,n,ne,B,d⟩:=I.pin p D;have N:p.1∉ch:=fun z=>(a p.1 z).2.2.2 p D rfl;exact⟨keep p.1 p.2 ne B N e n,free p.1 p.2 N e n,ne,B,d⟩
def Inv.un{t':Nat}(I:Inv X pins σ H s)(u:Un X.fs [] H H' s.heap h')(hok:zr X.prog X.w H' h'):Inv X pins σ H' { s with heap:=h',toks:=t' }:=by
 obtain⟨m,⟨o,_,_,j,r⟩,_⟩:=id I.loc;obtain⟨_,L⟩:=u.any j I.free (by simp)
 exact I.step (g':=s.gens) (d':=s.drawn) (ch:=[]) (fun _ z=>nomatch z) (fun b o _ c _ e n=>u.keep b o e n c (by simp)) (fun b o _ c _ e n=>u.slot b o e n c (by simp)) (fun b o _ e n=>u.free b o e n (by simp)) (fun b o _ e=>u.there b o e (by simp)) u.tups u.Ig u.Jj (fun _ d=>by
  obtain⟨_,a,E,h,R⟩:=d;rw[j]at h;cases h
  exact⟨_,a,E,L,R⟩) hok I.bare
def Inv.call{g':Array GenState}{t':Nat}{d':Drawn}{ch:aw ar}(I:Inv X pins σ H s)(u:Un (frs X.stack) ch H H' s.heap h')(hok:zr X.prog X.w H' h')(Q:AllBare g')
  (a:∀ b∈ch,(b∈X.ex∨X.s₀.heap.objs.size<=b)/\b≠X.env.locals/\(∀ x c,X.env.cells.lookup x=some c->c≠b)/\∀ p∈X.pn++pins,p.1≠b) :
  Inv X pins σ H' { s with heap:=h',gens:=g',drawn:=d',toks:=t' }:=by
 obtain⟨m,⟨o,_,_,j,r⟩,_⟩:=id I.loc;obtain⟨_,L⟩:=u.any j I.free fun z=>(a _ z).2.1 rfl
 exact I.step (ch:=ch) a (fun b o L g f e n=>u.keep b o e n (fun z=>(jL.mp (I.Q7 b z)).elim L g) f) (fun b o _ _ f e n=>u.any e n f) (fun b o f e n=>u.free b o e n f) (fun b o f e=>u.there b o e f) u.tups u.Ig u.Jj (fun _ i=>by
  obtain⟨_,d,E,h,R⟩:=i;rw[j]at h;cases h
  exact⟨_,d,E,L,R⟩) hok Q
def Inv.turned{t':Nat}{i:ar}(I:Inv X pins σ H s)(k:∀ b o,b≠i->s.heap.get? b=some o->h'.get? b=some o)(d:H i=none)(a:i≠X.env.locals)
  (l:i∈X.ex∨X.s₀.heap.objs.size<=i) (w:∀ x c,X.env.cells.lookup x=some c->c≠i) (h:∀ p∈X.pn++pins,p.1≠i):Inv X pins σ H { s with heap:=h',toks:=t' }:=by
 have N:∀ b u,H b=some u->b≠i:=fun b u e z=>by rw[z,d]at e;cases e
 refine I.step (g':=s.gens) (d':=s.drawn) (ch:=[i]) (fun b g=>?_) (fun b o _ _ f e _=>k b o (fun z=>f (by simp [z])) e) (fun b o _ _ f e _=>⟨o.slots,k b o (fun z=>f (by simp [z])) e⟩) (fun _ _ _ _ n=>n)
  (fun b o f e=>⟨o,k b o (fun z=>f (by simp [z])) e⟩) (fun _ _ e=>e) (fun _ _ _ e=>e) (fun b _ e=>⟨#[],by rw[e];simp⟩) (fun m j=>?_) (fun b u e=>?_) I.bare
 .have e:b=i:=by simpa using g
  ext l;exact⟨l,a,w,h⟩
 .obtain⟨o,es,ep,t,r⟩:=j;exact⟨o,es,ep,k _ o (bE a) t,r⟩
 .ext ai;rcases f with z | z
  .rw[z];exact N b u e
  .exact N c _ z
def Inv.tok(I:Inv X pins σ H s)(t:Nat):Inv X pins σ H { s with toks:=t }:=I.un (h':=s.heap) (t':=t) Un.refl I.hok
def Inv.kept(I:Inv X pins σ H s)(k:∀ b u,s.heap.get? b=some u->h'.get? b=some u):Inv X pins σ H { s with heap:=h',toks:=t' }:=I.un (Un.kept k) (I.hok.kept k)
def Inv.laid(I:Inv X pins σ H s)(k:∀ b u,s.heap.get? b=some u->h'.get? b=some u)(p:s.heap.objs.size<=a)(n:jm X.prog X.w (upd H a o) h' a o) :
  Inv X pins σ (upd H a o) { s with heap:=h',toks:=t' }:=I.un (Un.laid k p (I.hok.fresh p)) (I.hok.laid k p n)
def Inv.write(I:Inv X pins σ H s)(m:Mut (H x))(i:e=x∨H e=some (.own x))(k:∀ b u,b≠e->s.heap.get? b=some u->h'.get? b=some u)(h:∃ u,h'.get? e=some u)
  (n:jm X.prog X.w (upd H x o) h' x o):Inv X pins σ (upd H x o) { s with heap:=h',toks:=t' }:=I.un (Un.write m i k h) (I.hok.write m i k h n)
def Inv.yd(I:Inv X pins σ H s)(h:∀ p∈qDP,s.heap.get? p.1=some p.2/\H p.1=none/\p.1≠X.env.locals/\p.1∉X.fs/\∀ v,p.2.data≠.cell v):Inv X qDP σ H s:=
 ⟨I.ok,I.os,I.bare,I.base,I.loc,I.cell,I.free,I.vC,fun p a=>(rP.mp a).elim (fun z=>I.pin p (gc _ z)) (h p),I.hok,I.len⟩
def NT{N:aw Str}(h:N.Nodup){i j:Nat}{x:Str}(a:N[i]? = some x)(b:N[j]? = some x):i=j:=by obtain⟨_,E⟩:=rO.mp a;obtain⟨_,e⟩:=rO.mp b;exact (List.getElem_inj h).mp (E.trans e.symm)
def Iw{M:Model}{A:ah}{E:av->ae->Prop}{i:Nat}{x:Str}{v:V}{u:av}{Q:Unit->ae->Prop}(I:Inv X pins σ H s)(hN:X.N.Nodup)(R:X.N[i]? = some x)(l:Loc X.env.scope x)(r:RelV v u)
  (h:∀ s',Inv X pins (σ.set i (some v)) H s'->(∃ a,Heap.SameBut a s.heap s'.heap/\(a=X.env.locals∨X.env.cells.lookup x=some a))->Q () s') (hf:X.fn x=true∨X.env.scope.names.lookup x=some .local:=by ext z):wpAny M A (storeName X.env x u) Q E s:=by
 obtain⟨m,hn,hl⟩:=id I.loc
 have O:(X.env.scope.kind==.class||(X.env.scope.kind==.module&&X.env.locals != X.env.globals))=false:=by rw[I.ok.kind];rfl
 have D:i<σ.length:=by rw[I.len];exact (rO.mp R).1
 have cne:=I.cne
 have t:∀ {a:ar} {h':Heap},(∃ o,s.heap.get? a=some o/\H a=none)->Heap.SameBut a s.heap h'->zr X.prog X.w H h':=fun {a h'} ha hs b ob e=>by
  obtain⟨_,_,w⟩:=ha;refine (I.hok b ob e).stay (fun c W g q=>(hs.2 c ?_).trans q) (fun _ q=>q) fun _ _ q=>q;rintro rfl;rcases g with rfl | g
  .rw[w]at e;cases e
  .rw[w]at g;cases g
 rcases l with C | C
 .refine wpAny_storeName_local C hn (fun h' Z hs=>?_) O;obtain⟨oL,_,_,Y,_⟩:=id hn;refine h _ ⟨I.ok,I.os,I.bare,⟨fun b o e n F l=>?_,fun b o e n F l=>?_,I.base.free,fun b o e l=>?_,I.base.tups,I.base.Ig,I.base.Jj⟩,⟨_,Z,fun j y T f B e3=>?_⟩,fun y c e=>?_,I.free,I.vC,fun p hp=>?_,t ⟨oL,Y,I.free⟩ hs,by simpa using I.len⟩ ⟨_,hs,.inl rfl⟩
  .exact (hs.2 b (Aa (M7 (rN e) I.ok.above))).trans (I.base.keep b o e n F l)
  .obtain⟨sl,f⟩:=I.base.slot b o e n F l;exact⟨sl,(hs.2 b (Aa (M7 (rN e) I.ok.above))).trans f⟩
  .obtain⟨o',f⟩:=I.base.there b o e l;exact⟨o',(hs.2 b (Aa (M7 (rN e) I.ok.above))).trans f⟩
  .by_cases J:j=i
   .subst J;rw[R]at f;cases f;rw[cw D]at B
    cases B
    exact⟨u,r,.inl ⟨C,by simp⟩⟩
   .rw[cv (bE J)]at B;obtain⟨u',r',q⟩:=hl j y T f B e3;refine⟨u',r',?_⟩;rcases q with ⟨k,e⟩ | ⟨k,c,e,z⟩
    .refine .inl ⟨k,?_⟩;have:y≠x:=fun e=>J (NT hN f (e▸R));simp [this,e]
    .exact .inr ⟨k,c,e,z.sameBut hs (cne y c e)⟩
  .obtain⟨W,z⟩:=I.cell y c e;exact⟨W,z.sameBut hs (cne y c e)⟩
  .obtain⟨e,n,ne,nf,d⟩:=I.pin p hp;exact⟨(hs.2 p.1 ne).trans e,n,ne,nf,d⟩
 .have G:X.fn x=true:=by
   rcases hf with z | z
   .exact z
   .rw[z]at C;cases C
  obtain⟨c,g⟩:=I.ok.has x (.inl C);obtain⟨W,z⟩:=I.cell x c g;refine wpAny_storeName_cell I.ok.kind C g z (fun h' L hs=>?_);obtain⟨oc,N,U⟩:=id z;refine h { s with heap:=h' } ⟨I.ok,I.os,I.bare,⟨fun b o e n F l=>?_,fun b o e n F l=>?_,I.base.free,fun b o e l=>?_,I.base.tups,I.base.Ig,I.base.Jj⟩,⟨m,hn.sameBut hs (Ne.symm (cne x c g)),fun j y T f B e3=>?_⟩,fun y S e=>?_,I.free,I.vC,fun p hp=>?_,t ⟨oc,N,I.vC x c g⟩ hs,by simpa using I.len⟩ ⟨c,hs,.inr g⟩
  .exact (hs.2 b (Aa (M7 (rN e) (I.ok.cab x c G g)))).trans (I.base.keep b o e n F l)
  .obtain⟨sl,f⟩:=I.base.slot b o e n F l;exact⟨sl,(hs.2 b (Aa (M7 (rN e) (I.ok.cab x c G g)))).trans f⟩
  .obtain⟨o',f⟩:=I.base.there b o e l;exact⟨o',(hs.2 b (Aa (M7 (rN e) (I.ok.cab x c G g)))).trans f⟩
  .by_cases J:j=i
   .subst J;rw[R]at f;cases f;rw[cw D]at B
    cases B
    exact⟨u,r,.inr ⟨.inl C,c,g,L⟩⟩
   .rw[cv (bE J)]at B;obtain⟨u',r',q⟩:=hl j y T f B e3;refine⟨u',r',?_⟩;rcases q with q | ⟨k,S,e,z'⟩
    .exact .inl q
    .refine .inr ⟨k,S,e,z'.sameBut hs ?_⟩;rintro rfl;exact J (NT hN f (I.ok.inj _ _ _ e g▸R))
  .by_cases P:S=c
   .subst P;exact⟨_,L⟩
   .obtain⟨w2,z2⟩:=I.cell y S e;exact⟨w2,z2.sameBut hs P⟩
  .obtain⟨e,n,ne,nf,d⟩:=I.pin p hp;refine⟨(hs.2 p.1 ?_).trans e,n,ne,nf,d⟩;intro q;rw[q,N]at e;have q':oc=p.2:=Jc e;exact d W (by rw[<-q'];exact U)
def Eu(I:Inv X pins σ H s)(N:X.N.Nodup)(e:X.N[i]? = some x)(a:Loc X.env.scope x)(r:RelV v u)
  (h:∀ s',Inv X pins (σ.set i (some v)) H s'->Q () s') (f:X.fn x=true∨X.env.scope.names.lookup x=some .local:=by ext z):wpAny M A (storeName X.env x u) Q E s:=
 Iw I N e a r (fun s' b _=>h s' b) f
def Inv.call'(I:Inv X pins σ H s)(j:s'.os=s.os)(u:Un (frs X.stack) ch H H' s.heap s'.heap)(hok:zr X.prog X.w H' s'.heap)(Q:AllBare s'.gens)
  (a:∀ b∈ch,(b∈X.ex∨X.s₀.heap.objs.size<=b)/\b≠X.env.locals/\(∀ x c,X.env.cells.lookup x=some c->c≠b)/\∀ p∈X.pn++pins,p.1≠b):Inv X pins σ H' s':=by obtain⟨_,g',d',t',O⟩:=s';have e:O=s.os:=j;ext l;exact I.call (g':=g') (t':=t') (d':=d') u hok Q a
end
abbrev XK:=av->ax ar->Hp->Prop
abbrev St:=aw (ax V)
abbrev VK:=V->Hp->Prop
abbrev TE:=St->Hp->VK->Prop
abbrev TT:=St->Hp->(Bool->Hp->Prop)->Prop
abbrev TA:=St->Hp->(aw V->Hp->Prop)->Prop
structure Ends where
 nx:St->Hp->Prop
 rt:VK
 bk:St->Hp->Prop:=fun _ _=>False
 ct:St->Hp->Prop:=fun _ _=>False
abbrev TS:=Ends->St->Hp->Prop
def EP(X:Cx)(p:aw (ar×Obj))(σ:St)(Q:VK)(u:av)(s':ae):Prop:=∃ v H,Inv X p σ H s'/\RelV v u/\Q v H
def TP(X:Cx)(p:aw (ar×Obj))(σ:St)(Q:Bool->Hp->Prop)(b:Bool)(s':ae):Prop:=∃ H,Inv X p σ H s'/\Q b H
def AP(X:Cx)(p:aw (ar×Obj))(σ:St)(Q:aw V->Hp->Prop)(us:aw av)(s':ae):Prop:=∃ vs H,Inv X p σ H s'/\Vals vs us/\Q vs H
def SP(X:Cx)(p:aw (ar×Obj))(D:Ends)(f:Flow)(s':ae):Prop:=
 match f with
 | .next => ∃ σ' H,Inv X p σ' H s'/\D.nx σ' H
 | .brk => ∃ σ' H,Inv X p σ' H s'/\D.bk σ' H
 | .cont => ∃ σ' H,Inv X p σ' H s'/\D.ct σ' H
 | .ret u => ∃ v σ' H,Inv X p σ' H s'/\RelV v u/\D.rt v H
def PE(X:Cx)(e:Expr)(t:TE):Prop:=
 ∀(p:aw (ar×Obj))(s:ae)(σ:St)(H:Hp)(Q:VK),Inv X p σ H s->t σ H Q->wpAny (model X.prog X.w) X.A (eval e X.env) (EP X p σ Q) X.xe s
def PT(X:Cx)(e:Expr)(t:TT):Prop:=
 ∀(p:aw (ar×Obj))(s:ae)(σ:St)(H:Hp)(Q:Bool->Hp->Prop),Inv X p σ H s->t σ H Q->wpAny (model X.prog X.w) X.A (isTrue e X.env (eval e X.env)) (TP X p σ Q) X.xe s
def PW(X:Cx)(e:Expr)(t:TT):Prop:=
 ∀(w:Sem av)(p:aw (ar×Obj))(s:ae)(σ:St)(H:Hp)(Q:Bool->Hp->Prop),Inv X p σ H s->t σ H Q->wpAny (model X.prog X.w) X.A (isTrue e X.env w) (TP X p σ Q) X.xe s
def PW.pt(h:PW X e t):PT X e t:=h _
def PA(X:Cx)(es:aw Expr)(t:TA):Prop:=
 ∀(P:Pos)(p:aw (ar×Obj))(s:ae)(σ:St)(H:Hp)(Q:aw V->Hp->Prop),Inv X p σ H s->t σ H Q->wpAny (model X.prog X.w) X.A (spliced (backTo P (starEach es X.env))) (AP X p σ Q) X.xe s
def PS(X:Cx)(st:Stmt)(t:TS):Prop:=
 ∀(p:aw (ar×Obj))(s:ae)(σ:St)(H:Hp)(D:Ends),Inv X p σ H s->t D σ H->wpAny (model X.prog X.w) X.A (exec st X.env) (SP X p D) X.xe s
def Pq(X:Cx)(st:aw Stmt)(t:TS):Prop:=
 ∀(p:aw (ar×Obj))(s:ae)(σ:St)(H:Hp)(D:Ends),Inv X p σ H s->t D σ H->wpAny (model X.prog X.w) X.A (execs st X.env) (SP X p D) X.xe s
def iw(h:wpAny M A t Q E s)(H:∀ a s,Q a s->Q' a s):wpAny M A t Q' E s:=bX h H fun _ _ x=>x
section
variable{X:Cx}
inductive Jk(i:Nat)(σ:St)(H:Hp)(Q:VK):Prop
 | mk (v) (_:σ[i]? = some (some v)) (_:Q v H)
def tC(v:V):TE:=fun _ H Q=>Q v H
def qBS(N:X.N[i]? = some x)(b:Vis X.env.scope x)(hd:(x==("__debug__" : Str))=false:=by decide)(d:(x==("__classdict__" : Str))=false:=by decide):PE X (.Name x pos) (Jk i):=by
 ext v;obtain⟨v,e,h⟩:=h;obtain⟨m,n,j⟩:=I.loc;obtain⟨u,r,l⟩:=j i x v N e b;have fin:EP X p σ Q u s:=⟨v,H,I,r,h⟩;rcases l with ⟨k,g⟩ | ⟨k,c,f,a⟩
 .exact wpAny_Name (wpAny_loadName_local I.ok.kind k n g fin) hd
 .rcases k with k | k
  .exact wpAny_Name (wpAny_loadName_cell I.ok.kind k f a fin) hd
  .exact wpAny_Name (wpAny_loadName_free I.ok.kind k f a fin d) hd
def zB {i j P}:PE X (.Constant (.int i) j P) (tC (.int i)):=fun _ _ _ H _ I h=>wpAny_Constant_int ⟨.int i,H,I.tok _,⟨_,rfl⟩,h⟩
def qd {b j P}:PE X (.Constant (.bool b) j P) (tC (.bl b)):=fun _ _ _ H _ I h=>Constant_bool ⟨.bl b,H,I,rfl,h⟩
def wO {j P}:PE X (.Constant .none j P) (tC .non):=fun _ _ _ H _ I h=>Constant_none ⟨.non,H,I,rfl,h⟩
def zQ {x j P}:PE X (.Constant (.str x) j P) (tC (.str x)):=fun _ _ _ H _ I h=>Calls.Constant_str ⟨.str x,H,I.tok _,⟨_,rfl⟩,h⟩
def Gl(X:Cx)(x:Str):Prop:=X.env.kindOf x=some .globalImplicit
def Ks(I:Inv X pins σ H s)(g:Gl X x)(c:X.mg x=some u)(h:Q u s)
  (hd:(x==("__debug__" : Str))=false:=by decide):wpAny (model X.prog X.w) X.A (eval (.Name x pos) X.env) Q E s:=
 Calls.Name_function_global I.ok.kind g (Calls.loadGlobal_global (by rw[I.ok.glob];exact I.mod.glob.keeps I.bk) c h) hd
def uG(I:Inv X pins σ H s)(g:Gl X x)(c:X.mg x=none)(v:bootBuiltins x=some u)(h:Q u s)
  (d:x ≠ "__name__" := by decide) (hd:(x==("__debug__" : Str))=false:=by decide):wpAny (model X.prog X.w) X.A (eval (.Name x pos) X.env) Q E s:=by obtain⟨_,a,b⟩:=I.mod.blt;exact Calls.Name_function_global I.ok.kind g (Calls.loadGlobal_builtin (by rw[I.ok.glob];exact I.mod.glob.keeps I.bk) c (by rw[I.ok.blt];exact a.keeps I.bk) ((b x d).trans v) h) hd
def fB(Q:Gl X x)(c:X.mg x=some u)(r:RelV v u)(hd:(x==("__debug__" : Str))=false:=by decide):PE X (.Name x pos) (tC v):=
 fun _ _ _ H _ I h=>Ks I Q c ⟨v,H,I,r,h⟩ hd
def vR(Q:Gl X x)(c:X.mg x=none)(a:bootBuiltins x=some u)(r:RelV v u)(d:x ≠ "__name__" := by decide)(hd:(x==("__debug__" : Str))=false:=by decide):PE X (.Name x pos) (tC v):=
 fun _ _ _ H _ I h=>uG I Q c a ⟨v,H,I,r,h⟩ d hd
variable{a b:Expr}{ta tb:TE}{pos:Pos}
inductive JK(x:V)(H:Hp)(Q:Bool->Hp->Prop):Prop
 | mk (c:Bool) (_:x = .bl c) (_:Q c H)
def tB(t:TE):TT:=fun σ H Q=>t σ H fun x h=>JK x h Q
def gF(h:PE X e t)(f:∀ w,isTrue e X.env w=(do let v ← w;standAt e.pos;holding [v] (truthy v)):=by intro _;rfl):PT X e (tB t):=by
 intro p s σ H Q I c;refine isTrue_plain (iw (h p s σ H _ I c) fun v _ ⟨x,b,i,r,a⟩=>?_) (f _);obtain⟨d,rfl,q⟩:=a
 cases r
 exact wpAny_truthy_bool ⟨b,i,q⟩
variable{tA tB':TT}{rest:aw Expr}
def qDD(t u:TT):TT:=fun σ H Q=>t σ H fun c h=>if c=true then u σ h Q else Q false h
def tOr(t u:TT):TT:=fun σ H Q=>t σ H fun c h=>if c=true then Q true h else u σ h Q
def qDA(t:TT):TT:=fun σ H Q=>t σ H fun c h=>Q (!c) h
theorem yL(d:PT X a tA):PW X (.BoolOp .And [a] pos) tA:=by
 intro _ p s σ H Q I h;refine isTrue_and (iw (d p s σ H Q I h) fun c _ e=>?_)
 cases c with
 | true=>exact isTrue_and_nil e
 | false=>exact e
theorem pw_or1(d:PT X a tA):PW X (.BoolOp .Or [a] pos) tA:=by
 intro _ p s σ H Q I h;refine isTrue_or (iw (d p s σ H Q I h) fun c _ e=>?_)
 cases c with
 | false=>exact isTrue_or_nil e
 | true=>exact e
theorem pw_and(e:PT X a tA)(f:PW X (.BoolOp .And (b::rest) pos) tB'):PW X (.BoolOp .And (a::b::rest) pos) (qDD tA tB'):=by
 intro w p s σ H Q I h;refine isTrue_and (iw (e p s σ H _ I h) fun c S ⟨d,i,q⟩=>?_)
 cases c with
 | true=>exact f w p S σ d Q i q
 | false=>exact⟨d,i,q⟩
theorem pw_or(e:PT X a tA)(f:PW X (.BoolOp .Or (b::rest) pos) tB'):PW X (.BoolOp .Or (a::b::rest) pos) (tOr tA tB'):=by
 intro w p s σ H Q I h;refine isTrue_or (iw (e p s σ H _ I h) fun c S ⟨d,i,q⟩=>?_)
 cases c with
 | true=>exact⟨d,i,q⟩
 | false=>exact f w p S σ d Q i q
def nT(d:PT X a tA):PT X (.UnaryOp .Not a pos) (qDA tA):=by intro p s σ H Q I h;exact isTrue_not (d p s σ H (fun c b=>Q (!c) b) I h)
def qAI(ta tb:TE):TE:=fun σ H Q=>ta σ H fun x h => ∃ c,x = .bl c/\if c=true then tb σ h Q else Q (.bl false) h
def qD9(ta tb:TE):TE:=fun σ H Q=>ta σ H fun x h => ∃ c,x = .bl c/\if c=true then Q (.bl true) h else tb σ h Q
def qAE(ta:TE):TE:=fun σ H Q=>ta σ H fun x h => ∃ c,x = .bl c/\Q (.bl (!c)) h
def gb {o} (h:PE X a t):PE X (.BoolOp o [a] pos) t:=fun p s σ H Q I c=>BoolOp_one (h p s σ H Q I c)
theorem jy(e:PE X a ta)(f:PE X (.BoolOp .And (b::rest) pos) tb):PE X (.BoolOp .And (a::b::rest) pos) (qAI ta tb):=by
 ext v;refine BoolOp_and (iw (e p s σ H _ I h) fun v S ⟨x,d,i,r,q⟩=>?_);obtain⟨c,rfl,q⟩:=q
 cases r
 refine wpAny_truthy_bool ?_
 cases c with
 | true=>exact f p S σ d Q i q
 | false=>exact⟨.bl false,d,i,rfl,q⟩
theorem CJ(e:PE X a ta)(f:PE X (.BoolOp .Or (b::rest) pos) tb):PE X (.BoolOp .Or (a::b::rest) pos) (qD9 ta tb):=by
 ext v;refine BoolOp_or (iw (e p s σ H _ I h) fun v S ⟨x,d,i,r,q⟩=>?_);obtain⟨c,rfl,q⟩:=q
 cases r
 refine wpAny_truthy_bool ?_
 cases c with
 | false=>exact f p S σ d Q i q
 | true=>exact⟨.bl true,d,i,rfl,q⟩
def gh(d:PE X a ta):PE X (.UnaryOp .Not a pos) (qAE ta):=by
 ext v;refine UnaryOp_ (iw (d p s σ H _ I h) fun v _ ⟨x,b,i,r,q⟩=>?_);obtain⟨c,rfl,q⟩:=q
 cases r
 exact not_of (wpAny_truthy_bool ⟨.bl (!c),b,i,rfl,q⟩)
def tIf(t:TT)(ta tb:TE):TE:=fun σ H Q=>t σ H fun c h=>if c=true then ta σ h Q else tb σ h Q
theorem yg(j:PT X c tA)(f:PE X a ta)(g:PE X b tb):PE X (.IfExp c a b pos) (tIf tA ta tb):=by
 ext v;refine wpAny_IfExp (iw (j p s σ H _ I h) fun d S ⟨e,i,q⟩=>?_)
 cases d with
 | true=>exact f p S σ e Q i q
 | false=>exact g p S σ e Q i q
end
def jx(K:dN)(H:Hp)(a:ar)(xs:aw V):Prop:=
 Rd H a (.lst xs) ∨
  ∃(o:Obj)(i:Array av)(n:Nat),K.lookup a=some o/\o.cls = .type "list" /\ o.dict=none/\o.data = .seq i n/\i.size<=sizeLine/\Vals xs i.toList
def tH(K:dN)(H:Hp)(a:ar)(xs:aw V):Prop:=
 Rd H a (.tup xs) ∨
  ∃(o:Obj)(i:Array av)(n:Nat),K.lookup a=some o/\o.cls = .type "tuple" /\ o.data = .seq i n/\i.size<=sizeLine/\Vals xs i.toList
def qH5:av->ax V
 | .none=>some .non
 | .bool b=>some (.bl b)
 | .int i _=>some (.int i)
 | .str x _=>some (.str x)
 | .bytes b _=>some (.YT b)
 | .float b _=>some (.flt b)
 | .ref a=>some (.ref a)
 | .type n=>some (.ty n)
 | _=>none
theorem RelV.abs(r:RelV x u):qH5 u=some x:=by
 cases x with
 | non=>cases r;rfl
 | bl _=>cases r;rfl
 | int _=>obtain⟨t,rfl⟩:=r;rfl
 | str _=>obtain⟨t,rfl⟩:=r;rfl
 | YT _=>obtain⟨t,rfl⟩:=r;rfl
 | flt _=>obtain⟨t,rfl⟩:=r;rfl
 | ref _=>cases r;rfl
 | ty _=>cases r;rfl
def RelV.inj(r:RelV x u)(q:RelV y u):x=y:=Jc (r.abs.symm.trans q.abs)
theorem Vals.inj:∀ {xs ys:aw V} {us:aw av},Vals xs us->Vals ys us->xs=ys
 | _,_,_,.nil,.nil=>rfl
 | _,_,_,.cons r t,.cons R t'=>by rw[r.inj R,Vals.inj t t']
section
variable{X:Cx}{pins:aw (ar×Obj)}{σ:St}{H:Hp}{s:ae}{a:ar}{xs ys:aw V}
def jx.of{K:dN}(h:H a=some (.lst xs)):jx K H a xs:=.inl (.inl h)
def tH.of{K:dN}(h:H a=some (.tup xs)):tH K H a xs:=.inl (.inl h)
def Inv.list(I:Inv X pins σ H s)(h:jx X.K H a xs):∃ i:aw av,Vals xs i/\PlainL s.heap a i.toArray/\xs.length<=sizeLine:=by
 rcases h with h | ⟨o,i,n,k,f,hd,hs,b,r⟩
 .obtain⟨z,i,n,r,e⟩:=h.ok I.hok;exact⟨i,r,⟨_,n,e,rfl,rfl,rfl⟩,z⟩
 .refine⟨i.toList,r,⟨o,n,I.BX a o k,f,hd,by simpa using hs⟩,?_⟩;have e:=r.length;simp only[Array.length_toList]at e;lia
def Inv.tuple(I:Inv X pins σ H s)(h:tH X.K H a xs):∃ i:aw av,Vals xs i/\IsTup s.heap a i.toArray/\xs.length<=sizeLine:=by
 rcases h with h | ⟨o,i,n,k,f,hs,b,r⟩
 .obtain⟨z,i,r,p⟩:=h.ok I.hok;exact⟨i,r,p,z⟩
 .refine⟨i.toList,r,⟨o,I.BX a o k,f,n,by simpa using hs⟩,?_⟩;have e:=r.length;simp only[Array.length_toList]at e;lia
def Inv.Nr(I:Inv X pins σ H s)(h:jx X.K H a xs)(h':jx X.K H a ys):xs=ys:=by
 obtain⟨i,r,⟨o,n,e,_,_,d⟩,_⟩:=I.list h;obtain⟨its',R,⟨_,_,E,_,_,d'⟩,_⟩:=I.list h';rw[e]at E;cases E;rw[d]at d';injection d' with D _
 have:i=its':=by simpa using congrArg Array.toList D
 subst this;exact r.inj R
def Inv.Th(I:Inv X pins σ H s)(h:tH X.K H a xs)(h':tH X.K H a ys):xs=ys:=by
 obtain⟨i,r,⟨o,e,_,n,d⟩,_⟩:=I.tuple h;obtain⟨its',R,⟨_,E,_,_,d'⟩,_⟩:=I.tuple h';rw[e]at E;cases E;rw[d]at d';injection d' with D _
 have:i=its':=by simpa using congrArg Array.toList D
 subst this;exact r.inj R
end
abbrev Cx.wish(X:Cx)(E:av->ae->Prop):Cx:={ X with xe:=E }
abbrev Cx.nox(X:Cx):Cx:=X.wish fun _ _=>False
def Cx.Ok.wish{X:Cx}(ok:X.Ok)(E:av->ae->Prop):(X.wish E).Ok:=
 ⟨ok.mod,ok.kind,ok.glob,ok.blt,ok.above,ok.inj,ok.has,ok.cab,ok.hd,ok.frames,ok.stk,ok.exf,ok.bs,ok.Zy,ok.WX,ok.Za,ok.Dl,ok.frf⟩
def Cx.Ok.uc{X:Cx}{E:av->ae->Prop}(ok:(X.wish E).Ok):X.Ok:=
 ⟨ok.mod,ok.kind,ok.glob,ok.blt,ok.above,ok.inj,ok.has,ok.cab,ok.hd,ok.frames,ok.stk,ok.exf,ok.bs,ok.Zy,ok.WX,ok.Za,ok.Dl,ok.frf⟩
section
variable{X:Cx}{pins:aw (ar×Obj)}{σ:St}{H:Hp}{s:ae}{E:av->ae->Prop}
def Inv.wish(I:Inv X pins σ H s)(E:av->ae->Prop):Inv (X.wish E) pins σ H s:=⟨I.ok.wish E,I.os,I.bare,I.base,I.loc,I.cell,I.free,I.vC,I.pin,I.hok,I.len⟩
def Inv.uc(I:Inv (X.wish E) pins σ H s):Inv X pins σ H s:=⟨I.ok.uc,I.os,I.bare,I.base,I.loc,I.cell,I.free,I.vC,I.pin,I.hok,I.len⟩
theorem SP.uc(h:SP (X.wish E) pins D f s'):SP X pins D f s':=by
 cases f with
 | next=>obtain⟨σ',H,I,q⟩:=h;exact⟨σ',H,I.uc,q⟩
 | brk=>obtain⟨σ',H,I,q⟩:=h;exact⟨σ',H,I.uc,q⟩
 | cont=>obtain⟨σ',H,I,q⟩:=h;exact⟨σ',H,I.uc,q⟩
 | ret u=>obtain⟨v,σ',H,I,r,q⟩:=h;exact⟨v,σ',H,I.uc,r,q⟩
def Pq.nox{st:aw Stmt}{t:TS}(h:Pq X.nox st t):Pq X st t:=fun pins s σ H D I c=>
 bX (h pins s σ H D (I.wish _) c) (fun _ _ q=>q.uc) fun _ _ z=>c0 z
end
section
variable{X:Cx}{st:Stmt}{rest:aw Stmt}{t u:TS}{e:Expr}{te:TE}{pos:Pos}
def qAF:TS:=fun D σ H=>D.nx σ H
def Vi(t u:TS):TS:=fun D σ H=>t { D with nx:=u D } σ H
def zU:Pq X [] qAF:=fun _ _ σ H _ I h=>wpAny_execs_nil ⟨σ,H,I,h⟩
theorem zE(b:PS X st t)(c:Pq X rest u):Pq X (st::rest) (Vi t u):=by
 ext av;refine wpAny_execs_cons (iw (b p s σ H { D with nx:=u D } I h) fun f S q=>?_)
 cases f with
 | next=>
  obtain⟨σ',a,i,q⟩:=q;exact c p S σ' a D i q
 | ret v=>exact q
 | brk=>exact q
 | cont=>exact q
theorem zG(a:PS X st t):Pq X [st] t:=by
 ext av;refine wpAny_execs_cons (iw (a p s σ H D I h) fun f _ q=>?_)
 cases f with
 | next=>exact wpAny_execs_nil q
 | ret v=>exact q
 | brk=>exact q
 | cont=>exact q
def Inv.quiet(I:Inv X pins σ H s):interactive X.env=false:=by simp [interactive,I.ok.kind]
def Ma(te:TE):TS:=fun D σ H=>te σ H fun _ h=>D.nx σ h
def yG(c:PE X e te)(hs:swapsWith e none pos.line X.env=pure false:=by rfl):PS X (.Expr e pos) (Ma te):=by intro p s σ H D I h;exact wpAny_Expr_any (iw (c p s σ H _ I h) fun v _ ⟨x,b,i,_,a⟩=>⟨σ,b,i,a⟩) I.quiet hs
def qBH(te:TE):TS:=fun D σ H=>te σ H D.rt
def zP(c:PE X e te):PS X (.Return (some e) pos) (qBH te):=by intro p s σ H D I h;exact wpAny_Return_some (iw (c p s σ H _ I h) fun v _ ⟨x,b,i,r,a⟩=>⟨x,σ,b,i,r,a⟩)
def qBI(c:TT)(t u:TS):TS:=fun D σ H=>c σ H fun b h=>if b=true then t D σ h else u D σ h
theorem yB(j:PT X c tc)(f:Pq X a t)(g:Pq X b u):PS X (.If c a b pos) (qBI tc t u):=by
 ext av;refine wpAny_If (iw (j p s σ H _ I h) fun d S ⟨e,i,q⟩=>?_)
 cases d with
 | true=>exact f p S σ e D i q
 | false=>exact g p S σ e D i q
def Vj:TS:=fun _ _ _=>False
def uo:PS X st Vj:=fun _ _ _ _ _ _ h=>h.elim
end
abbrev TG:=V->St->Hp->(St->Hp->Prop)->Prop
abbrev TGs:=aw V->St->Hp->(St->Hp->Prop)->Prop
def PG(X:Cx)(T:Expr)(t:TG):Prop:=
 ∀(p:aw (ar×Obj))(s:ae)(σ:St)(H:Hp)(v:V)(u:av)(Q:St->Hp->Prop),Inv X p σ H s->RelV v u->t v σ H Q →
  wpAny (model X.prog X.w) X.A (assign T X.env u) (fun _ s'=>∃ σ' h,Inv X p σ' h s'/\Q σ' h) X.xe s
def PGs(X:Cx)(T:aw Expr)(t:TGs):Prop:=
 ∀(p:aw (ar×Obj))(s:ae)(σ:St)(H:Hp)(vs:aw V)(us:aw av)(Q:St->Hp->Prop),Inv X p σ H s->Vals vs us->t vs σ H Q →
  wpAny (model X.prog X.w) X.A (assignInOrder ((assignEach T X.env).map (·.2)) us) (fun _ s'=>∃ σ' h,Inv X p σ' h s'/\Q σ' h) X.xe s
abbrev qG1:=V->V->V->Hp->(Hp->Prop)->Prop
def qG2(X:Cx)(t:qG1):Prop:=
 ∀(p:aw (ar×Obj))(s:ae)(σ:St)(H:Hp)(o i v:V)(O I u:av)(Q:Hp->Prop),Inv X p σ H s->RelV o O->RelV i I->RelV v u->t o i v H Q →
  wpAny (model X.prog X.w) X.A (setItem O I u) (fun _ s'=>∃ h,Inv X p σ h s'/\Q h) X.xe s
section
variable{X:Cx}{pos:Pos}
def Ck(i:Nat):TG:=fun v σ H Q=>Q (σ.set i (some v)) H
def yH(N:X.N.Nodup)(e:X.N[i]? = some x)(a:Loc X.env.scope x)(f:X.fn x=true∨X.env.scope.names.lookup x=some .local:=by ext z):PG X (.Name x pos) (Ck i):=by intro _ s σ H v u Q I r h;exact wpAny_assign_Name (Eu I N e a r (fun _ b=>⟨_,H,b,h⟩) f)
def qEE:TGs:=fun vs σ H Q=>vs=[]/\Q σ H
def qB3(t:TG)(u:TGs):TGs:=fun vs σ H Q => ∃ v r,vs=v::r/\t v σ H fun σ' h=>u r σ' h Q
def Yv:PGs X [] qEE:=by
 intro _ s σ H _ _ Q I r h;obtain⟨e,h⟩:=h;ext l
 cases r
 exact assignInOrder_nil ⟨σ,H,I,h⟩
theorem Mt(c:PG X e t)(d:PGs X es u)
  (hs:(assignEach (e::es) X.env).map (·.2)=assign e X.env::(assignEach es X.env).map (·.2):=by rfl):PGs X (e::es) (qB3 t u):=by
 intro p s σ H _ _ Q I r h;obtain⟨v,_,E,h⟩:=h;subst E
 cases r with
 | cons r R=>
  rw[hs];refine assignInOrder_cons (iw (c p s σ H _ _ _ I r h) fun _ S ⟨σ1,b,i,a⟩=>?_);exact d p S σ1 b _ _ Q i R a
def qEC(K:dN)(n:Nat)(t:TGs):TG:=fun v σ H Q => ∃ a xs,v = .ref a/\tH K H a xs/\xs.length=n/\t xs σ H Q
def qBR(j:X.calm=true)(h:PGs X es t)
  (f:(assignEach es X.env).length=n:=by rfl) (d:(assignEach es X.env).findIdx? (·.1)=none:=by rfl):PG X (.Tuple es k pos) (qEC X.K n t):=by
 intro p s σ H v u Q I r c;obtain⟨a,xs,E,q,l,c⟩:=c;subst E
 cases r
 obtain⟨_,R,g,_⟩:=I.tuple q;refine assign_Tuple_tuple (I.ok.hd j) g (by simp [f,<-l,R.length]) d fun h' x=>?_;have i:Inv X p σ H { s with heap:=h' }:=I.kept (t':=s.toks) fun b o e=>x b o (Aa (rN e)) e;exact h p _ σ H xs _ Q i (by simpa using R) c
def qED(T c:TE)(t:qG1):TG:=fun v σ H Q=>T σ H fun o a=>c σ a fun i h=>t o i v h fun b=>Q σ b
def Qc(k:PE X o to)(w:PE X i ti)(hs:qG2 X t)
  (d:∀ v,assign (.Subscript o i pos) X.env v=(do
   let O ← holding [v] (eval o X.env)
   let a ← holding [v,O] (eval i X.env)
   standAt pos
   holding [v,O,a] (setItem O a v)
   release [v,O,a] []):=by intro _;rfl):PG X (.Subscript o i pos) (qED to ti t):=by intro p s σ H v u Q I r h;rw[d];refine aE (c9 (iw (k p s σ H _ I h) fun O z ⟨x,m,j,R,e⟩=>?_));refine aE (c9 (iw (w p z σ m _ j e) fun a S ⟨y,f,b,g,q⟩=>?_));refine aE (wpAny_standAt (aE (c9 (iw (hs p S σ f x y v O a u _ b R g r q) fun _ _ ⟨l,n,c⟩=>?_))));exact wpAny_release ⟨σ,l,n,c⟩
def Q4(t:TE)(g:TG):TS:=fun D σ H=>t σ H fun x h=>g x σ h D.nx
def QZ(f:PE X e te)(Q:PG X tg g)(hs:swapsWithSole [tg] e pos.line X.env=pure false:=by rfl)(c:swappedStores [tg] e X.env=pure none:=by rfl)
  (d:(assignEach [tg] X.env).map (·.2)=[assign tg X.env]:=by rfl):PS X (.Assign [tg] e pos) (Q4 te g):=by intro p s σ H D I h;refine wpAny_Assign_stores (iw (f p s σ H _ I h) fun v S ⟨x,b,i,r,a⟩=>?_) hs c;rw[d];exact iw (Q p S σ b x v _ i r a) fun _ _ q=>q
def zK(N:X.N.Nodup)(j:X.N[i]? = some x)(c:Loc X.env.scope x)(k:PE X e te)(hs:swapsWith e (some (.Name x pos')) pos.line X.env=pure false:=by rfl)(f:X.fn x=true∨X.env.scope.names.lookup x=some .local:=by ext z) :
  PS X (.Assign [.Name x pos'] e pos) (Q4 te (Ck i)):=by intro p s σ H D I h;refine wpAny_Assign_Name (iw (k p s σ H _ I h) fun v _ ⟨y,b,d,r,a⟩=>?_) hs;exact Eu d N j c r (fun _ g=>⟨_,b,g,a⟩) f
end
structure It where
 go:Nat->Hp->Prop
 yld:Nat->Hp->V->Hp->Prop
 stop:Nat->Hp->Prop
def uM(X:Cx)(P:aw (ar×Obj))(H:Hp)(b:ar):Prop:=
 H b=none/\b≠X.env.locals/\b∉X.fs/\(b∈X.ex∨X.s₀.heap.objs.size<=b)/\(∀ x c,X.env.cells.lookup x=some c->c≠b)/\∀ p∈X.pn++P,p.1≠b
def Inv.LK(I:Inv X pins σ H s)(h:s.heap.objs.size<=b)(d:H' b=none):uM X pins H' b:=by
 refine⟨d,iL (M7 I.lt h),I.qGM h,.inr (br I.sz h),fun x c e z=>?_,fun p a z=>?_⟩
 .obtain⟨v,q⟩:=I.cell x c e;exact d6 (M7 q.lt (by rw[z];exact h)) (ia _)
 .exact d6 (M7 (rN (I.pin p a).1) (by rw[z];exact h)) (ia _)
structure Turn(P:Program)(w:World)(K:dN)(tg:Expr)(J:It)(fp:List Addr)(it:Addr)(tn:Nat->Heap->Prop):Prop where
 mem:it∈fp
 obj:∀ i h,tn i h->∀ b∈fp,∃ o,h.get? b=some o/\∀ v,o.data≠.cell v
 keep:∀ i h h',tn i h->(∀ b∈fp,∀ o,h.get? b=some o->h'.get? b=some o)->tn i h'
 item:∀(X:Cx),X.prog=P->X.w=w->X.K=K->X.calm=true->∀(i:Nat)(pins:List (Addr×Obj))(s:Shared)(σ:St)(H:Hp)(E:Value->Shared->Prop),Inv X pins σ H s->(∀ b∈fp,uM X pins H b)->tn i s.heap->J.go i H →
  wpAny (model P w) X.A (pyNext (.ref it)) (fun r s1 => ∃ u,r=some u ∧
   wpAny (model P w) X.A (letOwnedTupleGo tg (.ref it) u) (fun _ s2 => ∃ x H',Inv X pins σ H' s2/\RelV x u/\J.yld i H x H'/\tn (i+1) s2.heap/\∀ b∈fp,H' b=none) E s1) E s
 done:∀(X:Cx),X.prog=P->X.w=w->X.K=K->X.calm=true->∀(i:Nat)(pins:List (Addr×Obj))(s:Shared)(σ:St)(H:Hp)(E:Value->Shared->Prop),Inv X pins σ H s->(∀ b∈fp,uM X pins H b)->tn i s.heap->J.stop i H →
  wpAny (model P w) X.A (pyNext (.ref it)) (fun r s1=>r=none/\Inv X pins σ H s1) E s
 self:∀(A:Around)(i:Nat)(s:Shared)(Q E:Value->Shared->Prop),tn i s.heap->Q (.ref it) s->wpAny (model P w) A (pyIter (.ref it)) Q E s
abbrev TI:=St->Hp->(It->Hp->Prop)->Prop
def PIE(X:Cx)(p:aw (ar×Obj))(σ:St)(t:Expr)(R:It->Hp->Prop)(i:av)(S:ae):Prop:=
 ∃(I:ar)(f:aw ar)(tn:Nat->Heap->Prop)(J:It)(H:Hp),i = .ref I/\Inv X p σ H S/\Turn X.prog X.w X.K t J f I tn/\tn 0 S.heap/\(∀ b∈f,uM X p H b)/\R J H
def PI(X:Cx)(t iter:Expr)(w:TI):Prop:=
 ∀(p:aw (ar×Obj))(s:ae)(σ:St)(H:Hp)(R:It->Hp->Prop),Inv X p σ H s->w σ H R →
  wpAny (model X.prog X.w) X.A (eval iter X.env) (fun v S=>wpAny (model X.prog X.w) X.A (pyIter v) (PIE X p σ t R) X.xe S) X.xe s
theorem O2(j:s.heap.get? it=some o)(f:o.cls = .type n)(hd:o.data = .fields vs)
  (d:["enumerate","zip","dict_itemiterator","dict_reverseitemiterator","odict_iterator","itertools.zip_longest","itertools.pairwise"].contains n=false) (H:Q () s):wpAny M A (letOwnedTupleGo tg (.ref it) u) Q E s:=by
 unfold letOwnedTupleGo
 cases tg <;> first
  | exact aI H
  | (cases u <;> first
    | exact aI H
    | (refine aE (wpAny_load j ?_)
       rw[f,hd];show wpAny M A (if (["enumerate","zip","dict_itemiterator","dict_reverseitemiterator","odict_iterator","itertools.zip_longest","itertools.pairwise"].contains n&&vs[0]?==some (rawInt _))=true then _ else _) Q E s;rw[cn (by intro h;rw[d,Bool.false_and]at h;cases h)]
       exact aI H))
def Itl(K:dN)(a:ar):It:=
 ⟨fun i H => ∃ xs x,jx K H a xs/\xs[i]? = some x,fun i H x h=>h=H/\∀ xs,jx K H a xs->xs[i]? = some x,fun i H => ∃ xs,jx K H a xs/\xs.length<=i⟩
def Itt(K:dN)(a:ar):It:=
 ⟨fun i H => ∃ xs x,tH K H a xs/\xs[i]? = some x,fun i H x h=>h=H/\∀ xs,tH K H a xs->xs[i]? = some x,fun i H => ∃ xs,tH K H a xs/\xs.length<=i⟩
def Itr(lo:Int)(n:Nat):It:=⟨fun i _=>i<n,fun i H x h=>h=H/\x = .int (lo+i),fun i _=>n<=i⟩
def Tg{P:ag}{w:ay}{K:dN}{W:Expr}(a t:ar):Turn P w K W (Itl K a) [t] t (fun i h=>h.IsListIter t a i) where
 mem:=by simp
 obj:=fun i h st b g=>by
  have e:b=t:=by simpa using g
  ext l;obtain⟨o,e,c,d⟩:=st;exact⟨o,e,fun v z=>by rw[d]at z;cases z⟩
 keep:=fun i h h' st k=>st.at fun o e=>k t (by simp) o e
 item:=by
  intro X C n y G i f s σ H E I j st Q;subst C n y;obtain⟨xs,x,q,m⟩:=Q;obtain⟨D,R,p,U⟩:=I.list q;obtain⟨u,O,Y⟩:=R.get m;obtain⟨A,F,L,r,B,l⟩:=j t (by simp);refine wpAny_pyNext_list_item st p.isList (x:=u) (by simpa using O) fun h' S M=>?_;have N:Inv X f σ H { s with heap:=h' }:=I.turned (t':=s.toks) (fun b o g e=>(M.2 b g).trans e) A F r B l;obtain⟨o,e,c,d⟩:=id S;exact⟨u,rfl,O2 (s:={ s with heap:=h' }) e c d (by decide) ⟨x,H,N,Y,⟨rfl,fun _ T=>by rw[I.Nr T q];exact m⟩,S,fun b g=>(j b g).1⟩⟩
 done:=by
  intro X C n y G i f s σ H E I j st Q;subst C n y;obtain⟨xs,q,m⟩:=Q;obtain⟨D,R,p,U⟩:=I.list q;obtain⟨A,F,L,r,B,l⟩:=j t (by simp);have Z:=R.length;exact wpAny_pyNext_list_end (I.ok.hd G) st p.isList (by simp;lia) fun h' J=>⟨rfl,I.turned (t':=s.toks) (fun b o g e=>J b o g e) A F r B l⟩
 self:=fun _ _ _ _ _ st h=>wpAny_pyIter_listiter st h
def Py{P:ag}{w:ay}{K:dN}{W:Expr}(a t:ar):Turn P w K W (Itt K a) [t] t (fun i h=>h.IsTupleIter t a i) where
 mem:=by simp
 obj:=fun i h st b g=>by
  have e:b=t:=by simpa using g
  ext l;obtain⟨o,e,c,d⟩:=st;exact⟨o,e,fun v z=>by rw[d]at z;cases z⟩
 keep:=fun i h h' st k=>st.at fun o e=>k t (by simp) o e
 item:=by
  intro X D r A G i f s σ H E I l st Q;subst D r A;obtain⟨xs,x,q,n⟩:=Q;obtain⟨j,R,p,U⟩:=I.tuple q;obtain⟨u,O,Y⟩:=R.get n;obtain⟨B,F,L,y,C,m⟩:=l t (by simp);refine wpAny_pyNext_tuple_item st (show s.heap.IsTuple a j.toArray from p) (x:=u) (by simpa using O) fun h' S M=>?_;have N:Inv X f σ H { s with heap:=h' }:=I.turned (t':=s.toks) (fun b o g e=>(M.2 b g).trans e) B F y C m;obtain⟨o,e,c,d⟩:=id S;exact⟨u,rfl,O2 (s:={ s with heap:=h' }) e c d (by decide) ⟨x,H,N,Y,⟨rfl,fun _ T=>by rw[I.Th T q];exact n⟩,S,fun b g=>(l b g).1⟩⟩
 done:=by
  intro X D r A G i f s σ H E I l st Q;subst D r A;obtain⟨xs,q,n⟩:=Q;obtain⟨j,R,p,U⟩:=I.tuple q;obtain⟨B,F,L,y,C,m⟩:=l t (by simp);have Z:=R.length;exact wpAny_pyNext_tuple_end (I.ok.hd G) st (show s.heap.IsTuple a j.toArray from p) (by simp;lia) fun h' J=>⟨rfl,I.turned (t':=s.toks) (fun b o g e=>J b o g e) B F y C m⟩
 self:=fun _ _ _ _ _ st h=>wpAny_pyIter_tupleiter st h
def Pz{P:ag}{w:ay}{K:dN}{u:Expr}(a:ar)(lo:Int)(n:Nat):Turn P w K u (Itr lo n) [a] a (fun i h=>IsRangeIter h a (lo+(i:Nat)*1) ((n:Int)-(i:Nat)) 1) where
 mem:=by simp
 obj:=fun i h st b c=>by
  have e:b=a:=by simpa using c
  ext l
  exact⟨_,st,fun v z=>by
   have Z:Data.fields _=Data.cell v:=z
   cases Z⟩
 keep:=fun i h h' st k=>k a (by simp) _ st
 item:=by
  intro X C d y g i p s σ H E I f st Q;subst C d y;obtain⟨A,F,L,r,B,l⟩:=f a (by simp);have W:=Walks.range (prog:=X.prog) (w:=X.w) (I.ok.hd g) a lo 1 n;refine W.item i s _ _ Q st fun v h' T j S q=>?_;obtain⟨t,rfl⟩:=j;have m:Inv X p σ H { s with heap:=h',toks:=T }:=I.turned (fun b o c e=>q b o (by simpa using c) e) A F r B l;refine⟨_,rfl,O2 (s:={ s with heap:=h',toks:=T }) (n := "range_iterator") S rfl rfl (by decide) ⟨.int (lo+i),H,m,⟨t,?_⟩,⟨rfl,rfl⟩,S,fun b c=>(f b c).1⟩⟩;rw[Int.mul_one]
 done:=by
  intro X C d y g i p s σ H E I f st Q;subst C d y;obtain⟨A,F,L,r,B,l⟩:=f a (by simp);exact wpAny_pyNext_range_end (I.ok.hd g) st (by have:n<=i:=Q;lia) fun h' J=>⟨rfl,I.turned (t':=s.toks) (fun b o c e=>J b o c e) A F r B l⟩
 self:=fun _ _ _ _ _ st h=>wpAny_pyIter_rangeiter st h
section
variable{X:Cx}{tg:Expr}
def qB1(K:dN)(t:TE):TI:=fun σ H R=>t σ H fun x h => ∃ a,x = .ref a/\(∃ xs,jx K h a xs)/\R (Itl K a) h
def qE6(K:dN)(t:TE):TI:=fun σ H R=>t σ H fun x h => ∃ a,x = .ref a/\(∃ xs,tH K h a xs)/\R (Itt K a) h
def yK{l:Expr}{t:TE}(g:PE X l t):PI X tg l (qB1 X.K t):=by
 intro P s σ H R I h;refine iw (g P s σ H _ I h) fun v S ⟨x,c,i,r,Q⟩=>?_;obtain⟨a,e,⟨_,d⟩,q⟩:=Q;ext l
 cases r
 obtain⟨_,_,p,_⟩:=i.list d;refine wpAny_pyIter_list p.isList ?_;refine⟨S.heap.objs.size,[S.heap.objs.size],_,_,c,rfl,i.kept (t':=S.toks) fun b o e=>tO _ e,Tg a _,⟨_,Ab _ rfl,rfl,rfl⟩,fun b f=>?_,q⟩
 have e:b=S.heap.objs.size:=by simpa using f
 ext l;ext j
def qBP{l:Expr}{t:TE}(j:PE X l t):PI X tg l (qE6 X.K t):=by
 intro P s σ H R I h;refine iw (j P s σ H _ I h) fun v S ⟨x,d,i,r,Q⟩=>?_;obtain⟨a,e,⟨_,f⟩,q⟩:=Q;ext l
 cases r
 obtain⟨c,_,p,_⟩:=i.tuple f;refine wpAny_pyIter_tuple (show S.heap.IsTuple a c.toArray from p) ?_;refine⟨S.heap.objs.size,[S.heap.objs.size],_,_,d,rfl,i.kept (t':=S.toks) fun b o e=>tO _ e,Py a _,⟨_,Ab _ rfl,rfl,rfl⟩,fun b g=>?_,q⟩
 have e:b=S.heap.objs.size:=by simpa using g
 ext l;ext j
def Mp{p:aw (ar×Obj)}{σ:St}{H:Hp}{s:ae}{R:It->Hp->Prop}{E:av->ae->Prop}{lo h:Int}{t u v:Tok}{T:Nat}(I:Inv X p σ H s)(j : -(2 ^ 62)<=lo)(k:lo<2 ^ 62)(d : -(2 ^ 62)<=h)(c:h<2 ^ 62)
  (q:R (Itr lo (h-lo).toNat) H):wpAny (model X.prog X.w) X.A (pyIter (.ref s.heap.objs.size)) (PIE X p σ tg R) E { s with heap:=s.heap.push { cls:=.type "range",data:=.fields #[.int lo t,.int h u,.int 1 v] },toks:=T }:=by
 refine wpAny_pyIter_range (IsRange.new ..) (small_one j k d c) ?_;have i:Inv X p σ H { s with heap:=s.heap.push { cls:=.type "range",data:=.fields #[.int lo t,.int h u,.int 1 v] },toks:=T }:=I.kept fun b o e=>tO _ e
 refine⟨(s.heap.push { cls:=.type "range",data:=.fields #[.int lo t,.int h u,.int 1 v] }).objs.size,[(s.heap.push { cls:=.type "range",data:=.fields #[.int lo t,.int h u,.int 1 v] }).objs.size],_,_,H,rfl,
  i.kept (t':=T) fun b o e=>tO _ e,Pz _ lo (h-lo).toNat,?_,fun b f=>?_,q⟩
 .have a:lo+((0:Nat):Int)*1=lo:=by simp
  have g:(((h-lo).toNat:Nat):Int)-((0:Nat):Int)=Builtin.Range.rangeSize lo h 1:=by rw[rangeSize_one];split <;> lia
  show IsRangeIter _ _ (lo+((0:Nat):Int)*1) ((((h-lo).toNat:Nat):Int)-((0:Nat):Int)) 1;rw[a,g];exact Ab _ rfl
 .have e:b=(s.heap.push { cls:=.type "range",data:=.fields #[.int lo t,.int h u,.int 1 v] }).objs.size:=by simpa using f
  ext l;ext j
def qB0(t:TA):TI:=fun σ H R=>t σ H fun vs h => ∃ j:Int,vs=[.int j] /\ -(2 ^ 62)<=j/\j<2 ^ 62/\R (Itr 0 j.toNat) h
def qAZ(t:TA):TI:=fun σ H R=>t σ H fun vs h => ∃ i j:Int,vs=[.int i,.int j]/\(-(2 ^ 62)<=i/\i<2 ^ 62 /\ -(2 ^ 62)<=j/\j<2 ^ 62)/\R (Itr i (j-i).toNat) h
theorem jX{a:Expr}{T:TA}{p P:Pos}(g:Gl X "range")(m:X.mg "range" = none)(d:PA X [a] T)(hs:starEach [a] X.env=[(false,eval a X.env)]:=by rfl):PI X tg (.Call (.Name "range" p) [a] [] P) (qB0 T):=by
 intro b s σ H R I h;refine Call_ (uG I g m boot_range (jS (iw (d P b s σ H _ I h) fun _ _ ⟨_,_,i,c,Q⟩=>?_) hs rfl));obtain⟨j,e,Q,f,q⟩:=Q;ext l
 cases c with
 | cons r k=>
  cases k
  obtain⟨t,rfl⟩:=r;exact call_range_1 (Mp i (by lia) (by lia) Q f (by simpa using q))
theorem Tv(k:Gl X "range")(n:X.mg "range" = none)(g:PA X [a,b] ta)(hs:starEach [a,b] X.env=[(false,eval a X.env),(false,eval b X.env)]:=by rfl)(c:starEach [b] X.env=[(false,eval b X.env)]:=by rfl) :
  PI X tg (.Call (.Name "range" p) [a,b] [] pos) (qAZ ta):=by
 intro P s σ H R I h;refine Call_ (uG I k n boot_range (jS (iw (g pos P s σ H _ I h) fun _ _ ⟨_,_,o,f,Q⟩=>?_) (by rw[hs,c]) (by rw[c];rfl)));obtain⟨i,j,e,⟨Q,m,u,l⟩,q⟩:=Q;ext l
 cases f with
 | cons r d=>
  cases d with
  | cons v d=>
   cases d
   obtain⟨t,rfl⟩:=r;obtain⟨_,rfl⟩:=v;exact call_range_2 (Mp o Q m u l q)
def qDC(w:TI)(g:TG)(t:TS):TS:=fun D σ H=>w σ H fun J b => ∃ W:Nat->Nat->St->Hp->Prop,(∃ m,W 0 m σ b)/\∀ i m σ H,W i m σ H →
 (J.stop i H/\D.nx σ H)∨(J.go i H/\∃ N:St->Hp->Prop,(∀ σ' h,N σ' h->∃ M,M<m/\W (i+1) M σ' h)/\∀ x h,J.yld i H x h->g x σ h fun σ2 a=>t { D with nx:=N,ct:=N,bk:=D.nx } σ2 a)
def Al(f:aw ar)(h:Heap):aw (ar×Obj):=f.filterMap fun b=>(h.get? b).map fun o=>(b,o)
def uC(c:b∈fp)(e:h.get? b=some o):(b,o)∈Al fp h:=List.mem_filterMap.mpr ⟨b,c,by rw[e];rfl⟩
theorem U6(H:p∈Al fp h):p.1∈fp/\h.get? p.1=some p.2:=by
 obtain⟨b,c,e⟩:=List.mem_filterMap.mp H
 cases q:h.get? b with
 | none=>rw[q]at e;cases e
 | some o=>
  rw[q]at e;have E:(b,o)=p:=Jc e;subst E;exact⟨c,q⟩
def Inv.pinned(I:Inv X pins σ H s)(h:∀ b∈fp,uM X pins H b)(j:∀ b∈fp,∃ o,s.heap.get? b=some o/\∀ v,o.data≠.cell v):Inv X (pins++Al fp s.heap) σ H s:=
 I.yd fun p a=>(rP.mp a).elim (fun z=>I.pin p (gp _ z)) fun z=>by
  obtain⟨c,e⟩:=U6 z;obtain⟨A,F,L,_⟩:=h p.1 c;obtain⟨o,E,d⟩:=j p.1 c;rw[e]at E;cases E;exact⟨e,A,F,L,d⟩
def Inv.Er(I:Inv X (pins++pl) σ H s):Inv X pins σ H s:=I.yd fun p h=>I.pin p (gp _ (gc _ h))
theorem je(B:PassesOwn (model X.prog X.w) X.A X.env X.xe)(Y:X.calm=true)(hi:PI X tg iter wi)(hg:PG X tg g)(c:Pq X body tb)
  (hs:∀ x,foldedSetIterable iter X.env x=pure x:=by intro _;rfl):PS X (.For tg iter body [] pos) (qDC wi g tb):=by
 ext av;refine wpAny_For (iw (hi p s σ H _ I h) fun v _ h1=>iw h1 fun _ _ h2=>?_) hs;obtain⟨_,C,tn,J,H2,e,I2,T,M,R,W,⟨m0,w0⟩,w⟩:=h2;ext l;have S:∀ {l:Hp},(∀ b∈C,l b=none)->∀ b∈C,uM X p l b:=fun hn b c=>⟨hn b c,(R b c).2⟩;refine codeAny_forLoop_any (fun n s'=>∃ i σ' l,Inv X p σ' l s'/\tn i s'.heap/\(∀ b∈C,l b=none)/\W i n σ' l) ?_ m0 ⟨0,σ,H2,I2,M,fun b c=>(R b c).1,w0⟩;rintro n Q ⟨i,σ3,E,U,z,F,w3⟩;rcases w i n σ3 E w3 with ⟨A,qn⟩ | ⟨go,N,hN,step⟩
 .refine wpAny_passesOwn B (iw (T.done X rfl rfl rfl Y i p Q σ3 E X.xe U (S F) z A) fun r s4 ⟨hr,I4⟩=>?_);subst hr;exact wpAny_execs_nil ⟨σ3,E,I4,qn⟩
 .refine wpAny_passesOwn B (iw (T.item X rfl rfl rfl Y i p Q σ3 E X.xe U (S F) z go) fun r s4 ⟨u,hr,h4⟩=>?_);subst hr;refine wpAny_passesOwn B (iw h4 fun _ P ⟨x,Z,I5,r5,y5,t,L⟩=>?_);have O:=I5.pinned (S L) (T.obj _ _ t);refine wpAny_passesOwn B (iw (hg _ P σ3 Z x u _ O r5 (step x Z y5)) fun _ s6 ⟨σ6,H6,I6,q6⟩=>?_);refine wpAny_passesOwn B (iw (c _ s6 σ6 H6 _ I6 q6) fun f G q=>?_)
  have again:∀ {a:St} {j:Hp},Inv X (p++Al C P.heap) a j G->N a j->∃ m,m<n/\∃ i σ' l,Inv X p σ' l G/\tn i G.heap/\(∀ b∈C,l b=none)/\W i m σ' l:=fun {a j} k y=>by
   obtain⟨m',hm,w7⟩:=hN a j y;refine⟨m',hm,i+1,a,j,k.Er,T.keep _ _ _ t fun b c o e=>(k.pin (b,o) (gp _ (gp _ (uC c e)))).1,fun b c=>?_,w7⟩;obtain⟨o,e,d⟩:=T.obj _ _ t b c;exact (k.pin (b,o) (gp _ (gp _ (uC c e)))).2.1
  cases f with
  | next=>obtain⟨a,j,k,y⟩:=q;exact again k y
  | cont=>obtain⟨a,j,k,y⟩:=q;exact again k y
  | brk=>obtain⟨a,j,k,q⟩:=q;exact⟨a,j,k.Er,q⟩
  | ret v=>obtain⟨x7,a,j,k,r7,q⟩:=q;exact⟨x7,a,j,k.Er,r7,q⟩
end
def XN{K:dN}{a:ar}{xs:aw V}{g:TG}{T:TS}{D:Ends}{σ:St}{H:Hp}(Pv:Nat->St->Hp->Prop)(c:Pv 0 σ H)(f:∀ i σ H,i<=xs.length->Pv i σ H->jx K H a xs)
  (hs:∀ i x σ H,xs[i]? = some x->Pv i σ H->g x σ H fun σ2 b=>T { D with nx:=Pv (i+1),ct:=Pv (i+1),bk:=D.nx } σ2 b) (hd:∀ σ H,Pv xs.length σ H->D.nx σ H) :
  ∃ W:Nat->Nat->St->Hp->Prop,(∃ m,W 0 m σ H)/\∀ i m σ H,W i m σ H →
   ((Itl K a).stop i H/\D.nx σ H)∨((Itl K a).go i H/\∃ N:St->Hp->Prop,(∀ σ' h,N σ' h->∃ M,M<m/\W (i+1) M σ' h)/\∀ x h,(Itl K a).yld i H x h->g x σ h fun σ2 b=>T { D with nx:=N,ct:=N,bk:=D.nx } σ2 b):=by
 refine⟨fun i m σ H=>m=xs.length-i/\i<=xs.length/\Pv i σ H,⟨xs.length,by simp,Nat.zero_le _,c⟩,?_⟩;rintro i m σ H ⟨rfl,d,p⟩;have q:=f i σ H d p
 by_cases t:i<xs.length
 .refine .inr ⟨⟨xs,xs[i],q,by simp [t]⟩,Pv (i+1),fun σ' h P=>⟨xs.length-(i+1),by lia,rfl,t,P⟩,fun x h y=>?_⟩;obtain⟨e,y⟩:=y;ext l;exact hs i x σ _ (y xs q) p
 .have e:i=xs.length:=by lia
  ext l;exact .inl ⟨⟨xs,q,jC _⟩,hd σ H p⟩
def ZV{K:dN}{a:ar}{xs:aw V}{g:TG}{T:TS}{D:Ends}{σ:St}{H:Hp}(Pv:Nat->St->Hp->Prop)(c:Pv 0 σ H)(f:∀ i σ H,i<=xs.length->Pv i σ H->tH K H a xs)
  (hs:∀ i x σ H,xs[i]? = some x->Pv i σ H->g x σ H fun σ2 b=>T { D with nx:=Pv (i+1),ct:=Pv (i+1),bk:=D.nx } σ2 b) (hd:∀ σ H,Pv xs.length σ H->D.nx σ H) :
  ∃ W:Nat->Nat->St->Hp->Prop,(∃ m,W 0 m σ H)/\∀ i m σ H,W i m σ H →
   ((Itt K a).stop i H/\D.nx σ H)∨((Itt K a).go i H/\∃ N:St->Hp->Prop,(∀ σ' h,N σ' h->∃ M,M<m/\W (i+1) M σ' h)/\∀ x h,(Itt K a).yld i H x h->g x σ h fun σ2 b=>T { D with nx:=N,ct:=N,bk:=D.nx } σ2 b):=by
 refine⟨fun i m σ H=>m=xs.length-i/\i<=xs.length/\Pv i σ H,⟨xs.length,by simp,Nat.zero_le _,c⟩,?_⟩;rintro i m σ H ⟨rfl,d,p⟩;have q:=f i σ H d p
 by_cases t:i<xs.length
 .refine .inr ⟨⟨xs,xs[i],q,by simp [t]⟩,Pv (i+1),fun σ' h P=>⟨xs.length-(i+1),by lia,rfl,t,P⟩,fun x h y=>?_⟩;obtain⟨e,y⟩:=y;ext l;exact hs i x σ _ (y xs q) p
 .have e:i=xs.length:=by lia
  ext l;exact .inl ⟨⟨xs,q,jC _⟩,hd σ H p⟩
def Uu{lo:Int}{n:Nat}{g:TG}{T:TS}{D:Ends}{σ:St}{H:Hp}(Pv:Nat->St->Hp->Prop)(c:Pv 0 σ H)
  (hs:∀ i σ H,i<n->Pv i σ H->g (.int (lo+i)) σ H fun σ2 a=>T { D with nx:=Pv (i+1),ct:=Pv (i+1),bk:=D.nx } σ2 a) (hd:∀ σ H,Pv n σ H->D.nx σ H) :
  ∃ W:Nat->Nat->St->Hp->Prop,(∃ m,W 0 m σ H)/\∀ i m σ H,W i m σ H →
   ((Itr lo n).stop i H/\D.nx σ H)∨((Itr lo n).go i H/\∃ N:St->Hp->Prop,(∀ σ' h,N σ' h->∃ M,M<m/\W (i+1) M σ' h)/\∀ x h,(Itr lo n).yld i H x h->g x σ h fun σ2 a=>T { D with nx:=N,ct:=N,bk:=D.nx } σ2 a):=by
 refine⟨fun i m σ H=>m=n-i/\i<=n/\Pv i σ H,⟨n,by simp,Nat.zero_le _,c⟩,?_⟩;rintro i m σ H ⟨rfl,_,p⟩
 by_cases t:i<n
 .refine .inr ⟨t,Pv (i+1),fun σ' h P=>⟨n-(i+1),by lia,rfl,t,P⟩,fun x h y=>?_⟩;obtain⟨e,y⟩:=y;subst e y;exact hs i σ _ t p
 .have e:i=n:=by lia
  ext l;exact .inl ⟨jC _,hd σ H p⟩
abbrev R2:=V->V->Hp->VK->Prop
def o6(X:Cx)(f:av->av->Sem av)(r:R2):Prop:=
 ∀(p:aw (ar×Obj))(s:ae)(σ:St)(H:Hp)(x y:V)(v u:av)(Q:VK),Inv X p σ H s->RelV x v->RelV y u->r x y H Q →
  wpAny (model X.prog X.w) X.A (f v u) (EP X p σ Q) X.xe s
def UnR(X:Cx)(f:av->Sem av)(r:V->Hp->VK->Prop):Prop:=
 ∀(p:aw (ar×Obj))(s:ae)(σ:St)(H:Hp)(x:V)(v:av)(Q:VK),Inv X p σ H s->RelV x v->r x H Q →
  wpAny (model X.prog X.w) X.A (f v) (EP X p σ Q) X.xe s
def nP(X:Cx)(f:av)(r:aw V->Hp->VK->Prop):Prop:=
 ∀(p:aw (ar×Obj))(s:ae)(σ:St)(H:Hp)(xs:aw V)(us:aw av)(Q:VK),Inv X p σ H s->Vals xs us->r xs H Q →
  wpAny (model X.prog X.w) X.A (call f us) (EP X p σ Q) X.xe s
def tOp(r:R2)(t T:TE):TE:=fun σ H Q=>t σ H fun x a=>T σ a fun y h=>r x y h Q
def tUn(r:V->Hp->VK->Prop)(t:TE):TE:=fun σ H Q=>t σ H fun x h=>r x h Q
def rI(C:Int->Int->Prop)(g:Int->Int->V):R2:=fun x y H Q => ∃ i j,x = .int i/\y = .int j/\C i j/\Q (g i j) H
def YQ(g:Int->Int->V):R2:=fun x y H Q => ∃ i j,x = .int i/\y = .int j/\Q (g i j) H
def rU(g:Int->V):V->Hp->VK->Prop:=fun x H Q => ∃ i,x = .int i/\Q (g i) H
section
variable{X:Cx}{a b c:Expr}{ta tb tc:TE}{pos:Pos}
def qCX(i:PE X a ta)(l:PE X b tb){p:aw (ar×Obj)}{s:ae}{σ:St}{H:Hp}{R:V->V->Hp->Prop}(I:Inv X p σ H s)
  (h:ta σ H fun x g=>tb σ g fun y c=>R x y c) {Q:av->ae->Prop} {f:av->av->Sem av}
  (m:∀ v u e x y c,Inv X p σ c e->RelV x v->RelV y u->R x y c->wpAny (model X.prog X.w) X.A (f v u) Q X.xe e) :
  wpAny (model X.prog X.w) X.A (eval a X.env) (fun v d=>wpAny (model X.prog X.w) X.A (eval b X.env) (fun u S=>wpAny (model X.prog X.w) X.A (f v u) Q X.xe S) X.xe d) X.xe s:=by refine iw (i p s σ H _ I h) fun v t ⟨x,g,n,r,q⟩=>?_;refine iw (l p t σ g _ n q) fun u e ⟨y,c,o,j,k⟩=>?_;exact m v u e x y c o r j k
def yA{o:Operator}{r:R2}(j:o6 X (binaryOp o) r)(d:PE X a ta)(e:PE X b tb):PE X (.BinOp a o b pos) (tOp r ta tb):=by intro p s σ H Q I h;exact wpAny_BinOp (qCX d e I h fun v u S x y c i f R q=>j p S σ c x y v u Q i f R q)
def uO(j:UnR X (unaryOp op) r)(d:PE X a ta):PE X (.UnaryOp op a pos) (tUn r ta):=by intro p s σ H Q I h;exact UnaryOp_ (iw (d p s σ H _ I h) fun v S ⟨x,b,i,R,q⟩=>j p S σ b x v Q i R q)
def opI{f:av->av->Sem av}{C:Int->Int->Prop}{g:Int->Int->Int}
  (rule:∀(i j:Int)(t u:Tok)(s:ae)(Q E:av->ae->Prop),C i j->Q (.int (g i j) s.toks) { s with toks:=s.toks+1 }->wpAny (model X.prog X.w) X.A (f (.int i t) (.int j u)) Q E s) :
  o6 X f (rI C fun i j=>.int (g i j)):=by intro _ s σ H x y v u Q I r R h;obtain⟨i,j,rfl,rfl,c,q⟩:=h;obtain⟨t,rfl⟩:=r;obtain⟨t',rfl⟩:=R;exact rule i j t t' s _ _ c ⟨.int (g i j),H,I.tok _,⟨_,rfl⟩,q⟩
def qBX{f:av->av->Sem av}{g:Int->Int->Int}
  (rule:∀(i j:Int)(t u:Tok)(s:ae)(Q E:av->ae->Prop),Q (.int (g i j) s.toks) { s with toks:=s.toks+1 }->wpAny (model X.prog X.w) X.A (f (.int i t) (.int j u)) Q E s) :
  o6 X f (YQ fun i j=>.int (g i j)):=by intro _ s σ H x y v u Q I r R h;obtain⟨i,j,rfl,rfl,q⟩:=h;obtain⟨t,rfl⟩:=r;obtain⟨t',rfl⟩:=R;exact rule i j t t' s _ _ ⟨.int (g i j),H,I.tok _,⟨_,rfl⟩,q⟩
def qBY{f:av->av->Sem av}{g:Int->Int->Bool}
  (rule:∀(i j:Int)(t u:Tok)(s:ae)(Q E:av->ae->Prop),Q (.bool (g i j)) s->wpAny (model X.prog X.w) X.A (f (.int i t) (.int j u)) Q E s) :
  o6 X f (YQ fun i j=>.bl (g i j)):=by intro _ s σ H x y v u Q I r R h;obtain⟨i,j,rfl,rfl,q⟩:=h;obtain⟨t,rfl⟩:=r;obtain⟨t',rfl⟩:=R;exact rule i j t t' s _ _ ⟨.bl (g i j),H,I,rfl,q⟩
def YH(i j:Int):Prop:=0<j/\j<1073741824
def qA9(i j:Int):Prop:=0<=j/\j<=1000000/\i.natAbs<2 ^ 64
def M6(i j:Int):Prop:=(-(2 ^ 64)<i/\i<2 ^ 64)∨(-(2 ^ 64)<j/\j<2 ^ 64)
def M6.ok(h:M6 i j):IntMulOk i j:=by
 rcases h with ⟨H,a⟩ | ⟨H,a⟩
 .exact .of_left (intBits_le_64 H a)
 .exact .of_right (intBits_le_64 H a)
def Px(k:Nat):(0:Int)<=2 ^ k:=by rw[two_pow_cast];exact Int.natCast_nonneg _
def yD:o6 X (binaryOp .Add) (YQ fun i j=>.int (i+j)):=qBX fun _ _ _ _ _ _ _ q=>add_int q
def jH:o6 X (binaryOp .Sub) (YQ fun i j=>.int (i-j)):=qBX fun _ _ _ _ _ _ _ q=>sub_int q
def qBU:o6 X (binaryOp .Mult) (rI M6 fun i j=>.int (i*j)):=opI fun _ _ _ _ _ _ _ f q=>mul_int q f.ok
def yJ:o6 X (binaryOp .FloorDiv) (rI YH fun i j=>.int (i/j)):=opI fun i j _ _ _ _ _ f q=>by
 have h:(0:Int)<j:=f.1;have H:j<1073741824:=f.2;exact floordiv_int (by lia) (by rw[eh i (by lia)];exact q) (.inl (PyProof.noPylong_small (by lia)))
def zY:o6 X (binaryOp .Mod) (rI (fun _ j=>0<j) fun i j=>.int (i%j)):=opI fun i j _ _ _ _ _ f q=>by
 have h:(0:Int)<j:=f;exact mod_int' (by lia) (by rw[Int.fmod_eq_emod_of_nonneg i (by lia)];exact q)
def rE:o6 X (binaryOp .Pow) (rI qA9 fun i j=>.int (i ^ j.toNat)):=opI fun _ _ _ _ _ _ _ f q=>pow_int_small f.1 f.2.1 f.2.2 q
def qBT:o6 X (binaryOp .RShift) (rI (fun _ j=>0<=j) fun i j=>.int (i/2 ^ j.toNat)):=opI fun i j _ _ _ _ _ f q=>
 rshift_int f (by rw[eh i (Px _)];exact q)
def WM:o6 X (binaryOp .BitAnd) (YQ fun i j=>.int (Builtin.bitAnd i j)):=qBX fun _ _ _ _ _ _ _ q=>and_int q
def unI{f:av->Sem av}{g:Int->Int}
  (rule:∀(i:Int)(t:Tok)(s:ae)(Q E:av->ae->Prop),Q (.int (g i) s.toks) { s with toks:=s.toks+1 }->wpAny (model X.prog X.w) X.A (f (.int i t)) Q E s) :
  UnR X f (rU fun i=>.int (g i)):=by intro _ s σ H x v Q I r h;obtain⟨i,rfl,q⟩:=h;obtain⟨t,rfl⟩:=r;exact rule i t s _ _ ⟨.int (g i),H,I.tok _,⟨_,rfl⟩,q⟩
def nQ:UnR X (unaryOp .USub) (rU fun i=>.int (-i)):=unI fun _ _ _ _ _ q=>neg_int q
def qGG:V->V->Bool
 | .non,.non=>true | .non,.int _=>true | .int _,.non=>true | .non,.bl _=>true | .bl _,.non=>true | .non,.str _=>true | .str _,.non=>true
 | .int _,.int _=>true | .bl _,.bl _=>true | .str _,.str _=>true | .YT _,.YT _=>true
 | .int _,.str _=>true | .str _,.int _=>true | .bl _,.str _=>true | .str _,.bl _=>true
 | _,_=>false
def rEq:R2:=fun x y H Q=>qGG x y=true/\Q (.bl (decide (x=y))) H
def Zo:decide (V.int i=V.int j)=(i==j):=by rw[dQ];simp
def qCS:decide (V.bl i=V.bl j)=(i==j):=by rw[dQ];simp
def Zn:decide (V.str i=V.str j)=(i==j):=by rw[dQ];simp
def Zq:decide (V.YT i=V.YT j)=(i.toList==j.toList):=by
 rw[dQ]
 cases i
 cases j
 simp
def iz(I:Inv X pins σ H s)(q:Q (.bl k) H)(e:k=k'):EP X pins σ Q (.bool k') s:=by subst e;exact⟨.bl k,H,I,rfl,q⟩
theorem yE:o6 X (compareOp .Eq) rEq:=by
 ext i;obtain⟨hs,q⟩:=h
 cases x with
 | non=>
  cases f
  cases y with
  | non=>cases R;exact PySem.EqNone.eq_none_none (iz I q (by simp))
  | bl j=>cases R;exact PySem.EqNone.eq_none_bool (iz I q (by simp))
  | int j=>obtain⟨t',rfl⟩:=R;exact PySem.EqNone.eq_none_int (iz I q (by simp))
  | str j=>obtain⟨t',rfl⟩:=R;exact PySem.EqNone.eq_none_str (iz I q (by simp))
  | _=>exact d6 (show false=true from hs) xf
 | bl i=>
  cases f
  cases y with
  | non=>cases R;exact PySem.EqNone.eq_bool_none (iz I q (by simp))
  | bl j=>cases R;exact eq_bool (iz I q qCS)
  | str j=>obtain⟨t',rfl⟩:=R;exact PySem.EqMixed.eq_bool_str (iz I q (by simp))
  | _=>exact d6 (show false=true from hs) xf
 | int i=>
  obtain⟨t,rfl⟩:=f
  cases y with
  | non=>cases R;exact PySem.EqNone.eq_int_none (iz I q (by simp))
  | int j=>obtain⟨t',rfl⟩:=R;exact eq_int (iz I q Zo)
  | str j=>obtain⟨t',rfl⟩:=R;exact PySem.EqMixed.eq_int_str (iz I q (by simp))
  | _=>exact d6 (show false=true from hs) xf
 | str i=>
  obtain⟨t,rfl⟩:=f
  cases y with
  | non=>cases R;exact PySem.EqNone.eq_str_none (iz I q (by simp))
  | bl j=>cases R;exact PySem.EqMixed.eq_str_bool (iz I q (by simp))
  | int j=>obtain⟨t',rfl⟩:=R;exact PySem.EqMixed.eq_str_int (iz I q (by simp))
  | str j=>obtain⟨t',rfl⟩:=R;exact eq_str (iz I q Zn)
  | _=>exact d6 (show false=true from hs) xf
 | YT i=>
  obtain⟨t,rfl⟩:=f
  cases y with
  | YT j=>obtain⟨t',rfl⟩:=R;exact PySem.W.eq_bytes (iz I q Zq)
  | _=>exact d6 (show false=true from hs) xf
 | _=>cases y <;> exact d6 (show false=true from hs) xf
def ur:o6 X (compareOp .Lt) (YQ fun i j=>.bl (decide (i<j))):=qBY fun _ _ _ _ _ _ _ q=>lt_int q
def pK:o6 X (compareOp .LtE) (YQ fun i j=>.bl (decide (i<=j))):=qBY fun _ _ _ _ _ _ _ q=>le_int q
def pL:o6 X (compareOp .Gt) (YQ fun i j=>.bl (decide (j<i))):=qBY fun _ _ _ _ _ _ _ q=>gt_int q
def Tz:o6 X (compareOp .In) (fun x y H Q => ∃ i j,x = .str i/\y = .str j/\Q (.bl (!(Builtin.Str.occurrences j i 0 j.length 1).isEmpty)) H):=by intro _ s σ H x y v u Q I f R h;obtain⟨i,j,rfl,rfl,q⟩:=h;obtain⟨t,rfl⟩:=f;obtain⟨_,rfl⟩:=R;exact in_str (iz I q rfl)
theorem qBV:o6 X (compareOp .Is) (fun x y H Q=>y = .non/\Q (.bl (decide (x = .non))) H):=by
 ext i;obtain⟨rfl,q⟩:=h
 cases R
 refine is_none_gen (iz I q ?_)
 cases x <;> first
  | (cases f;rfl)
  | (obtain⟨t,rfl⟩:=f;rfl)
theorem Yy:o6 X (compareOp .IsNot) (fun x y H Q=>y = .non/\Q (.bl (!decide (x = .non))) H):=by
 ext i;obtain⟨rfl,q⟩:=h
 cases R
 refine isnot_none_gen (iz I q ?_)
 cases x <;> first
  | (cases f;rfl)
  | (obtain⟨t,rfl⟩:=f;rfl)
def o6.or(h:o6 X f r)(h':o6 X f r'):o6 X f (fun x y H Q=>r x y H Q∨r' x y H Q):=by
 intro p s σ H x y v u Q I a R q;rcases q with q | q
 .exact h p s σ H x y v u Q I a R q
 .exact h' p s σ H x y v u Q I a R q
def zS(b:Expr)(h:op≠.In:=by decide)(H:op≠.NotIn:=by decide):behindInMarks op b=false:=by
 have E:(op==CmpOp.In)=false:=by cases op <;> first | rfl | exact d6 rfl h
 have e:(op==CmpOp.NotIn)=false:=by cases op <;> first | rfl | exact d6 rfl H
 cases b <;> simp [behindInMarks,E,e]
def bV{o:CmpOp}{r:R2}(j:o6 X (compareOp o) r)(d:PE X a ta)(e:PE X b tb)(m:behindInMarks o b=false):PE X (.Compare a [o] [b] pos) (tOp r ta tb):=by intro p s σ H Q I h;exact wpAny_Compare1 (qCX d e I h fun v u S x y c i f R q=>j p S σ c x y v u Q i f R q) m
def Vh(t:TE):TT:=fun σ H Q=>t σ H fun x h=>JK x h Q
def zM(t:o6 X (compareOp op) r)(d:PE X a ta)(f:PE X b tb)(C:behindInMarks op b=false):PT X (.Compare a [op] [b] pos) (Vh (tOp r ta tb)):=by
 ext v
 refine wpAny_isTrue_Compare1 (iw (d p s σ H _ I h) fun v D ⟨x,A,n,R,j⟩=>iw (f p D σ A _ n j) fun u S ⟨y,l,i,m,q⟩=>
  iw (t p S σ l x y v u _ i R m q) fun c _ ⟨z,w,B,o,k,e,g⟩=>?_) C
 ext l
 cases o
 exact wpAny_truthy_bool ⟨w,B,g⟩
def Vl(r R:R2)(ta tb tc:TE):TE:=fun σ H Q=>ta σ H fun x a=>tb σ a fun y h=>r x y h fun z b => ∃ k,z = .bl k ∧
 (if k=true then tc σ b fun W c=>R y W c Q else Q (.bl false) b)
theorem lU(F:o6 X (compareOp O) r)(f:o6 X (compareOp o) L)(j:PE X a ta)(t:PE X b tb)(M:PE X c tc)
  (N:lastMarks [O,o] [b,c]=false:=by with_unfolding_all rfl):PE X (.Compare a [O,o] [b,c] pos) (Vl r L ta tb tc):=by
 ext v
 refine Compare_chain (iw (j p s σ H _ I h) fun v T ⟨x,G,E,R,B⟩=>chain_link (iw (t p T σ G _ E B) fun u P ⟨y,C,w,g,m⟩=>
  iw (F p P σ C x y v u _ w R g m) fun d S ⟨z,i,n,U,k,e,q⟩=>?_)) N
 ext l
 cases U
 refine wpAny_truthy_bool ?_
 cases k with
 | false=>exact ite_ff ⟨.bl false,i,n,rfl,q⟩
 | true=>exact ite_tt (chain_last (iw (M p S σ i _ n q) fun W A ⟨Z,D,J,l,Y⟩=>f p A σ D y Z u W Q J g l Y))
def BR:(sizeLine:Nat)<2 ^ 63:=by rw[sizeLine_eq];decide
def Qe:o6 X (binaryOp .Add) (fun x y H Q => ∃ i j,x = .str i/\y = .str j/\i.length+j.length<=sizeLine/\Q (.str (i++j)) H):=by intro _ s σ H x y v u Q I f R h;obtain⟨i,j,rfl,rfl,b,q⟩:=h;obtain⟨t,rfl⟩:=f;obtain⟨t',rfl⟩:=R;exact add_str (fun t' _=>⟨.str (i++j),H,I.tok _,⟨_,rfl⟩,q⟩) b
theorem vals1(r:Vals [x] us):∃ u,us=[u]/\RelV x u:=by
 cases r with
 | cons R g=>cases g;exact⟨_,rfl,R⟩
theorem vals2(r:Vals [x,y] us):∃ u W,us=[u,W]/\RelV x u/\RelV y W:=by
 cases r with
 | cons R g=>
  cases g with
  | cons o l=>cases l;exact⟨_,_,rfl,R,o⟩
def V5(f:X.calm=true):nP X (.builtin "max") (fun xs H Q => ∃ i j,xs=[.int i,.int j]/\Q (.int (if j>i then j else i)) H):=by
 ext aa;obtain⟨i,j,rfl,q⟩:=h;obtain⟨u,_,rfl,⟨t,rfl⟩,⟨_,rfl⟩⟩:=vals2 r;refine max_two_ints (I.ok.hd f) fun _ _ k=>⟨_,H,I.kept k,?_,q⟩
 by_cases J:j>i
 .rw[cq J,cq J];exact⟨_,rfl⟩
 .rw[cn J,cn J];exact⟨_,rfl⟩
def Bg(f:X.calm=true):nP X (.builtin "min") (fun xs H Q => ∃ i j,xs=[.int i,.int j]/\Q (.int (if j<i then j else i)) H):=by
 ext aa;obtain⟨i,j,rfl,q⟩:=h;obtain⟨u,_,rfl,⟨t,rfl⟩,⟨_,rfl⟩⟩:=vals2 r;refine min_two_ints (I.ok.hd f) fun _ _ k=>⟨_,H,I.kept k,?_,q⟩
 by_cases J:j<i
 .rw[cq J,cq J];exact⟨_,rfl⟩
 .rw[cn J,cn J];exact⟨_,rfl⟩
end
structure RJ(h:Heap)(x dx C:Addr)(mA:Str->Option Value):Prop where
 obj:h.get? x=some (PySem.W.instObj C dx)
 ns:h.Ns1 dx mA
 ne:dx≠x
def Ud{h:Heap}{d:ar}{m:Str->ax av}(n:h.Ns1 d m):∃ O,h.get? d=some O/\∀ name,PySem.W.lookIn name O=some (m name):=by
 obtain⟨o,es,_,j,hd,k,_,c⟩:=n;refine⟨o,j,fun name=>?_⟩;have e:=c name;unfold nsFind findBy at e;rw[<-Array.find?_toList]at e;unfold PySem.W.lookIn;rw[hd]
 dsimp only
 split
 .rename_i y q
  rw[q]at e;exact congrArg some e
 .rename_i q
  rw[q]at e
  have a:es.toList.any (·.refKey)=false:=by
   rw[List.any_eq_false];intro y T;obtain⟨z,t,H⟩:=k y (Array.mem_toList_iff.mp T);simp [DictEntry.refKey,H]
  have A:¬ es.toList.any (·.refKey)=true:=by rw[a];exact xf
  rw[cn A];exact congrArg some e
def RJ.look(I:RJ h x dx C mA):∃ O,PySem.W.InstAt h x (PySem.W.instObj C dx) C (some O)/\∀ name,PySem.W.lookIn name O=some (mA name):=
 let ⟨O,j,f⟩:=Ud I.ns
 ⟨O,⟨I.obj,rfl,rfl,j⟩,f⟩
section
variable{prog:ag}{w:ay}{A:ah}{E:av->ae->Prop}{s:ae}{K:dN}{x dx C f:ar}{mA:Str->ax av}{name:Str}{v:av}
def get_map(X:K.In s.heap)(I:RJ s.heap x dx C mA)(g:PySem.W.plainGet K C name=true)(a:PySem.W.hasDictIn K C=true)
  (d:PySem.W.findIn K (.ref C) name=some none) (b:mA name=some v) (H:PySem.W.handedIn v=true) (h:Q v { s with toks:=s.toks+1 }) :
  wpAny (model prog w) A (getAttr (.ref x) name expr) Q E s:=by obtain⟨_,J,f⟩:=I.look;exact PySem.W.get_value X J (PySem.W.plainGet_of g).1 (PySem.W.findObj_own a d rfl (by rw[f,b])) H h
def XC(X:K.In s.heap)(I:RJ s.heap x dx C mA)(H:PySem.W.plainGet K C name=true)
  (a:PySem.W.findIn K (.ref C) name=some (some (.ref f))) (g:PySem.W.isFn K (.ref f)=true) (v:mA name=none) (h:Q (.ref f,[.ref x]) s) :
  wpAny (model prog w) A (getMethod (.ref x) name pl) Q E s:=by obtain⟨O,J,l⟩:=I.look;exact PySem.W.method_fn X J (PySem.W.plainGet_of H).1 (PySem.W.plainGet_of H).2 a (beq_iff_eq.mp g) (by show (PySem.W.lookIn name O).map (·.isSome)=some false;rw[l,v];rfl) h
def Yj(X:K.In s.heap)(I:RJ s.heap x dx C mA)
  (hs:PySem.W.findIn K (.ref C) "__setattr__" = some (some (.builtin "object.__setattr__"))) (p:PySem.W.plainOver K C=true) (t:PySem.W.takerIn K C name=some none) (i:PySem.W.hasDictIn K C=true)
  (j:PySem.Within mA ns) (z:ns.length<=sizeLine)
  (h:∀ h',RJ h' x dx C (fun y=>if y=name then some v else mA y)->Heap.SameBut dx s.heap h'->Q () { s with heap:=h',toks:=s.toks+2 }) :
  wpAny (model prog w) A (setAttr (.ref x) name v) Q E s:=by obtain⟨_,J,_⟩:=I.look;refine PySem.W.set_plain X J hs (PySem.W.osa_open (s:={ s with toks:=s.toks+1 }) (r:=none) X J p t fun b=>?_);obtain⟨_,k,f⟩:=PySem.W.any_some i;have g:s.heap.get? x=some ⟨.ref C,some dx,.plain,#[]⟩:=I.obj;refine aE (aI (aE (aE (wpAny_loadPart g (aE (PySem.W.Looks.here (s:={ s with toks:=s.toks+1 }) (PySem.W.looks_clsIn X k) ?_))))));rw[f];refine aI (a:=some dx) (aE (aI (aE ?_)));refine wpAny_nsSet1 (s:={ s with toks:=s.toks+1 }) I.ns fun h' H c=>?_;obtain⟨_,_,_,D,d,e⟩:=H.count (PySem.Within.cons name v j);refine aE (wpAny_lookBehind D (by rw[d];exact pastItsLine_dict (br e (by rw[gH];lia))) ?_);exact aI (h _ ⟨(c.2 _ (bE I.ne)).trans I.obj,H,I.ne⟩ c)
def Wn(X:K.In s.heap)(c:PySem.W.makesIn K C=true)
  (e:PySem.W.findIn K (.ref C) "__init__" = some (some (.ref f))) (H:PySem.W.typeIn K (.ref f)=some (.type "function"))
  (h:codeAny (model prog w) (A.under (.builtin "type.__call__" ⟨.ref C::vs,kw⟩)) (.call (.ref f) ⟨.ref (s.heap.objs.size+1)::vs,kw⟩) (PySem.W.InitBack (s.heap.objs.size+1) R)
   { s with heap:=(s.heap.push PySem.W.emptyDict).push (PySem.W.instObj C s.heap.objs.size) }) :
  codeAny (model prog w) A (.call (.ref C) ⟨vs,kw⟩) R s:=by obtain⟨_,g,d,t,_⟩:=s;exact PySem.W.make_core (PySem.W.makes_of X c) (PySem.W.looks_findIn X e) (fun S=>PySem.W.bind_fn X S H) (.inl rfl) h
end
def lR(f:Str)(v:V):aw (Str×V)->aw (Str×V)
 | []=>[(f,v)]
 | (g,x)::r=>if g=f then (g,v)::r else (g,x)::lR f v r
theorem CN(f g:Str)(v:V):∀ fs:aw (Str×V),(lR f v fs).lookup g=if g=f then some v else fs.lookup g
 | []=>by
  show List.lookup g [(f,v)]=_
  by_cases h:g=f
  .have c:(g==f)=true:=beq_iff_eq.mpr h;simp only[List.lookup,c,if_pos h]
  .have c:(g==f)=false:=cE.mpr h;simp only[List.lookup,c,if_neg h]
 | (k,x)::r=>by
  have I:=CN f g v r;ext h
  by_cases H:k=f
  .rw[cq H]
   by_cases h:g=k
   .have c:(g==k)=true:=beq_iff_eq.mpr h;simp only[List.lookup,c,if_pos (h.trans H)]
   .have c:(g==k)=false:=cE.mpr h;simp only[List.lookup,c,if_neg (fun e:g=f=>h (e.trans H.symm))]
  .rw[cn H]
   by_cases h:g=k
   .have c:(g==k)=true:=beq_iff_eq.mpr h;simp only[List.lookup,c,if_neg (fun e:g=f=>H (h.symm.trans e))]
   .have c:(g==k)=false:=cE.mpr h;simp only[List.lookup,c];exact I
theorem BW(f:Str)(v:V):∀ fs:aw (Str×V),f∈(lR f v fs).map (·.1)/\∀ g,g∈fs.map (·.1)->g∈(lR f v fs).map (·.1)
 | []=>⟨by simp [lR],fun g h=>by simp at h⟩
 | (k,x)::r=>by
  obtain⟨I,i⟩:=BW f v r;ext h
  by_cases H:k=f
  .rw[cq H];subst H;exact⟨by simp,fun g h=>by simpa using h⟩
  .rw[cn H];refine⟨?_,fun g h=>?_⟩
   .rw[bt];exact rM _ I
   .rw[bt]at h ⊢;rcases jL.mp h with e | e
    .exact jL.mpr (.inl e)
    .exact rM _ (i g e)
theorem CP(f:Str)(v:V):∀ fs:aw (Str×V),(lR f v fs).length<=fs.length+1
 | []=>by simp [lR]
 | (k,x)::r=>by
  have I:=CP f v r;ext h
  by_cases h:k=f
  .rw[cq h,gH,gH];lia
  .rw[cn h,gH,gH];lia
theorem EY.some_of(r:EY (some v) o):∃ u,o=some u/\RelV v u:=by
 cases o with
 | none=>exact (show False from r).elim
 | some u=>exact⟨u,rfl,r⟩
theorem EY.none_of(r:EY none o):o=none:=by
 cases o with
 | none=>rfl
 | some u=>exact (show False from r).elim
theorem Um(r:RelV v u):PySem.W.handedIn u=true:=by
 cases v with
 | non=>cases (show u=Value.none from r);rfl
 | bl b=>cases (show u=Value.bool b from r);rfl
 | int i=>obtain⟨t,e⟩:=(show ∃ t,u=Value.int i t from r);cases e;rfl
 | str x=>obtain⟨t,e⟩:=(show ∃ t,u=Value.str x t from r);cases e;rfl
 | YT b=>obtain⟨t,e⟩:=(show ∃ t,u=Value.bytes b t from r);cases e;rfl
 | flt b=>obtain⟨t,e⟩:=(show ∃ t,u=Value.float b t from r);cases e;rfl
 | ref a=>cases (show u=Value.ref a from r);rfl
 | ty n=>cases (show u=Value.type n from r);rfl
section
variable{P:ag}{w:ay}{H H':Hp}{h h':Heap}{a C dx:ar}{fs fs':aw (Str×V)}
def Em(hok:zr P w H h)(e:H a=some (.ins C dx fs)):∃ m,RJ h a dx C m/\(∀ f,EY (fs.lookup f) (m f))/\PySem.Within m (fs.map (·.1))/\fs.length<=1000/\H dx=some (.own a):=by obtain⟨d,z,ne,ob,m,n,r,q⟩:=(show jm P w H h a (.ins C dx fs) from hok a _ e);exact⟨m,⟨ob,n,ne⟩,r,q,z,d⟩
end
structure Hk(K:dN)(C:Addr):Prop where
 pg:PySem.W.plainGet K C Str.empty=true
 hd:PySem.W.hasDictIn K C=true
 po:PySem.W.plainOver K C=true
 sa:PySem.W.findIn K (.ref C) "__setattr__" = some (some (.builtin "object.__setattr__"))
def Hk.get{K:dN}{C:ar}(c:Hk K C)(f:Str):PySem.W.plainGet K C f=true:=c.pg
def cz(K:dN)(C:ar)(f:Str):Prop:=PySem.W.findIn K (.ref C) f=some none
def cz.taker{K:dN}{C:ar}{f:Str}(n:cz K C f):PySem.W.takerIn K C f=some none:=by unfold PySem.W.takerIn;rw[show PySem.W.findIn K (.ref C) f=some none from n];rfl
structure Con(K:dN)(C:Addr)(f:Str)(v:V)(u:Value):Prop where
 at_:PySem.W.findIn K (.ref C) f=some (some u)
 rel:RelV v u
 get:PySem.W.specialIn K u "__get__" = some none
 cp:PySem.W.copiedNames.contains f=false
structure Meth(K:dN)(C:Addr)(m:Str)(f:Addr):Prop where
 at_:PySem.W.findIn K (.ref C) m=some (some (.ref f))
 fn:PySem.W.isFn K (.ref f)=true
 kp:KI K f
section
variable{X:Cx}{pins:aw (ar×Obj)}{σ:St}{H:Hp}{s:ae}{a C dx:ar}{fs:aw (Str×V)}{f:Str}{v:V}{A:ah}{E:av->ae->Prop}
def Qw(I:Inv X pins σ H s)(e:H a=some (.ins C dx fs))(c:Hk X.K C)(n:cz X.K C f)(l:fs.lookup f=some v)
  (h:∀ u s',Inv X pins σ H s'->RelV v u->Q u s'):wpAny (model X.prog X.w) A (getAttr (.ref a) f b) Q E s:=by obtain⟨m,O,r,_,_,_⟩:=Em I.hok e;obtain⟨u,d,Y⟩:=EY.some_of (v:=v) (o:=m f) (by rw[<-l];exact r f);exact get_map I.BX O (c.get f) c.hd n d (Um Y) (h u _ (I.tok _) Y)
def Ga(I:Inv X pins σ H s)(e:H a=some (.ins C dx fs))(c:Hk X.K C)(k:Meth X.K C m g)(l:fs.lookup m=none)
  (h:Q (.ref g,[.ref a]) s):wpAny (model X.prog X.w) A (getMethod (.ref a) m pl) Q E s:=by obtain⟨M,O,r,_,_,_⟩:=Em I.hok e;have d:M m=none:=EY.none_of (by rw[<-l];exact r m);exact XC I.BX O (c.get m) k.at_ k.fn d h
def QF(I:Inv X pins σ H s)(e:H a=some (.ins C dx fs))(c:Hk X.K C)(n:cz X.K C f)(t:fs.length<1000)(R:RelV y u)
  (h:∀ s',Inv X pins σ (upd H a (.ins C dx (lR f y fs))) s'->Q () s'):wpAny (model X.prog X.w) A (setAttr (.ref a) f u) Q E s:=by
 obtain⟨m,O,r,w,_,j⟩:=Em I.hok e
 have p:(fs.map (·.1)).length<=sizeLine:=by rw[fH,sizeLine_eq];lia
 refine Yj I.BX O c.sa c.po n.taker c.hd w p fun h' d M=>h _ ?_;have hd:∃ o,h'.get? dx=some o:=let ⟨o,_,_,i,_⟩:=d.ns;⟨o,i⟩;refine I.write (x:=a) (e:=dx) (by rw[e];exact d5) (.inr j) (fun b q l z=>(M.2 b l).trans z) hd ?_;refine⟨by rw[zR O.ne];exact j,?_,O.ne,d.obj,_,d.ns,fun g=>?_,fun g k=>?_⟩
 .have:=CP f y fs;lia
 .show EY ((lR f y fs).lookup g) (if g=f then some u else m g);rw[CN]
  by_cases q:g=f
  .rw[cq q,cq q];exact R
  .rw[cn q,cn q];exact r g
 .by_cases q:g=f
  .rw[q];exact (BW f y fs).1
  .refine (BW f y fs).2 g (w g fun z=>k ?_);show (if g=f then some u else m g)=none;rw[cn q];exact z
def Inv.made(I:Inv X pins σ H s):Inv X pins σ (upd (upd H s.heap.objs.size (.own (s.heap.objs.size+1))) (s.heap.objs.size+1) (.ins C s.heap.objs.size []))
  { s with heap:=(s.heap.push PySem.W.emptyDict).push (PySem.W.instObj C s.heap.objs.size) }:=by
 have E:(s.heap.push PySem.W.emptyDict).get? s.heap.objs.size=some PySem.W.emptyDict:=Ab s.heap rfl
 have c:((s.heap.push PySem.W.emptyDict).push (PySem.W.instObj C s.heap.objs.size)).get? (s.heap.objs.size+1)=some (PySem.W.instObj C s.heap.objs.size):=by
  have:=Ab (s.heap.push PySem.W.emptyDict) (o:=PySem.W.instObj C s.heap.objs.size) rfl
  rwa [dS]at this
 have U:(s.heap.push PySem.W.emptyDict).Ns s.heap.objs.size (fun _=>none):=⟨PySem.W.emptyDict,#[],_,E,rfl,(fun e h=>absurd h (by simp)),fun _=>rfl⟩;have i:=I.laid (a:=s.heap.objs.size) (o:=.own (s.heap.objs.size+1)) (h':=s.heap.push PySem.W.emptyDict) (t':=s.toks) (fun b u q=>tO _ q) (jC _) ⟨_,E⟩;refine i.laid (a:=s.heap.objs.size+1) (o:=.ins C s.heap.objs.size []) (t':=s.toks) (fun b u q=>tO _ q) (Nat.le_of_eq (dS _ _)) ?_;have ne:s.heap.objs.size≠s.heap.objs.size+1:=Aa (ij _);refine⟨by rw[zR ne,zC],bb _,ne,c,fun _=>none,(Heap.Ns1.of_empty U).at fun o q=>tO _ q,fun _=>d5,fun y T=>d6 rfl T⟩
def qA3(c:attributeBase e f env (eval e env)=eval e env)
  (h:wpAny (model prog w) A (eval e env) (fun o d=>wpAny (model prog w) A (getAttr o f true) Q E d) E s):wpAny (model prog w) A (eval (.Attribute e f pos) env) Q E s:=
 Attribute_any_ h (by rw[arm_eval_Attribute,c])
end
def qBJ(K:dN)(t:TE)(f:Str):TE:=fun σ H Q=>t σ H fun x h => ∃ a C d fs v,x = .ref a/\h a=some (.ins C d fs)/\Hk K C/\cz K C f/\fs.lookup f=some v/\Q v h
def qDH(K:dN)(T t:TE)(f:Str):TS:=fun D σ H=>t σ H fun y b=>T σ b fun x h => ∃ a C d fs,x = .ref a/\h a=some (.ins C d fs)/\Hk K C/\cz K C f/\fs.length<1000 ∧
 D.nx σ (upd h a (.ins C d (lR f y fs)))
section
variable{X:Cx}{o e value:Expr}{f:Str}{pos pos' tpos:Pos}{ta tv:TE}
def dq(j:PE X e ta)(d:attributeBase e f X.env (eval e X.env)=eval e X.env):PE X (.Attribute e f pos) (qBJ X.K ta f):=by intro p s σ H Q I h;refine qA3 d (iw (j p s σ H _ I h) fun u _ hz_=>?_);obtain⟨x,b,i,r,a,C,_,_,v,ex,E,c,n,l,q⟩:=hz_;subst ex;obtain rfl:u=Value.ref a:=r;exact Qw i E c n l fun _ _ g Y=>⟨v,b,g,Y,q⟩
def wN(d:PE X o ta)(v:PE X value tv)(hs:swapsWith value (some (.Attribute o f pos')) pos.line X.env=pure false):PS X (.Assign [.Attribute o f pos'] value pos) (qDH X.K ta tv f):=by intro p s σ H D I h;refine plainObj_wpAny_Assign_Attribute (iw (v p s σ H _ I h) fun u S ⟨y,b,e,R,q⟩=>iw (d p S σ b _ e q) fun O _ hz_=>?_) hs;obtain⟨x,_,g,r,a,C,_,_,ex,E,c,n,l,Q⟩:=hz_;subst ex;obtain rfl:O=Value.ref a:=r;exact QF g E c n l R fun _ i=>⟨σ,_,i,Q⟩
end
section
variable{X:Cx}{pins:aw (ar×Obj)}{σ:St}{H:Hp}{s:ae}{A:ah}{E:av->ae->Prop}{Q:av->ae->Prop}{c:av}{b:Bool}
inductive Dy(K:dN)(H:Hp):V->Value->Prop where
 | non:Dy K H .non (.type "NoneType")
 | bl (x:Bool):Dy K H (.bl x) (.type "bool")
 | int (i:Int):Dy K H (.int i) (.type "int")
 | str (x:Str):Dy K H (.str x) (.type "str")
 | flt (x:UInt64):Dy K H (.flt x) (.type "float")
 | lst {a:Addr} {xs:List V} (e:H a=some (.lst xs)):Dy K H (.ref a) (.type "list")
 | Qy {a:Addr} {o:Obj} {xs:List V} (e:H a=some (.Qy o (.lst xs))):Dy K H (.ref a) (.type "list")
 | tup {a:Addr} {xs:List V} (e:H a=some (.tup xs)):Dy K H (.ref a) (.type "tuple")
 | dK {a:Addr} {kvs:List (Key×V)} (e:H a=some (.dK kvs)):Dy K H (.ref a) (.type "dict")
 | dT {a:Addr} {kvs:List (List Key×V)} (e:H a=some (.dT kvs)):Dy K H (.ref a) (.type "dict")
 | ins {a C dx:Addr} {fs:List (Str×V)} (e:H a=some (.ins C dx fs)) (cl:Hk K C) (ha:PySem.W.findIn K (.ref C) "__class__" = some (some (.builtin "object.__class__")))
   (hn:PySem.W.specialIn K (.builtin "object.__class__") "__get__" = some (some (.builtin "getset_descriptor.__get__"))) (htk:PySem.W.takesIn K (.builtin "object.__class__")=some true)
   (hm:PySem.W.mroIn K C (.type "object")=some true):Dy K H (.ref a) (.ref C)
theorem sO(I:Inv X pins σ H s)(f:RelV x u)(ty:Dy X.K H x t)(e:PySem.W.kitOne X.K t c=some b)(h:∀ T,Q (.bool b) { s with toks:=T }) :
  wpAny (model X.prog X.w) A (call (.builtin "isinstance") [u,c]) Q E s:=by
 cases ty with
 | non=>cases (show u=Value.none from f);exact cc PySem.W.kitx_none I.BX d5 e (fun z=>nomatch z) h
 | bl y=>cases (show u=Value.bool y from f);exact cc PySem.W.kitx_bool I.BX d5 e (fun z=>nomatch z) h
 | int i=>obtain⟨t,q⟩:=(show ∃ t,u=Value.int i t from f);cases q;exact cc PySem.W.kitx_int I.BX d5 e (fun z=>nomatch z) h
 | str y=>obtain⟨t,q⟩:=(show ∃ t,u=Value.str y t from f);cases q;exact cc PySem.W.kitx_str I.BX d5 e (fun z=>nomatch z) h
 | flt y=>obtain⟨t,q⟩:=(show ∃ t,u=Value.float y t from f);cases q;exact cc PySem.W.kitx_float I.BX d5 e (fun z=>nomatch z) h
 | @lst a xs d=>
  cases (show u=Value.ref a from f)
  obtain⟨_,_,n,_,g⟩:=(show jm X.prog X.w H s.heap a (.lst xs) from I.hok a _ d);ext an
 | @Qy a ob xs d=>
  cases (show u=Value.ref a from f)
  obtain⟨_,_,_,n,_,g⟩:=(show jm X.prog X.w H s.heap a (.Qy ob (.lst xs)) from I.hok a _ d);ext an
 | @tup a xs d=>
  cases (show u=Value.ref a from f)
  obtain⟨_,_,_,p⟩:=(show jm X.prog X.w H s.heap a (.tup xs) from I.hok a _ d);obtain⟨o,g,j,_⟩:=p;exact cc PySem.W.kitx_tuple I.BX ⟨o,g,j⟩ e (fun z=>nomatch z) h
 | @dK a k d=>
  cases (show u=Value.ref a from f)
  obtain⟨_,_,_,_,p⟩:=(show jm X.prog X.w H s.heap a (.dK k) from I.hok a _ d);obtain⟨o,es,ep,g,j,_⟩:=p;ext ao
 | @dT a k d=>
  cases (show u=Value.ref a from f)
  obtain⟨_,_,xs,_,o,es,ep,g,j,_⟩:=(show jm X.prog X.w H s.heap a (.dT k) from I.hok a _ d);ext ao
 | @ins a C D fs d m v r l w=>
  cases (show u=Value.ref a from f)
  obtain⟨_,O,_⟩:=Em I.hok d;obtain⟨_,J,_⟩:=O.look;exact cc (PySem.W.kitx_own (m.get _) m.hd v r l w) I.BX J e (fun z=>nomatch z) h
end
structure mV(k:Nat)(A:Around):Prop where
 hd:A.handled=none
 dp:A.depth+3*k+5<recursionLimit
 un:A.units+16*k+200<cLine
def mV.mono(r:mV k A)(h:j<=k):mV j A:=⟨r.hd,by have:=r.dp;lia,by have:=r.un;lia⟩
def mV.deeper(r:mV (k+1) A)(e:Env):mV k (A.deeper e):=
 ⟨r.hd,by have:=r.dp;show A.depth+1+3*k+5<_;lia,by have:=r.un;show A.units+3+16*k+200<_;lia⟩
def Qs{A:ah}{C:ar}{us:aw av}{kw:aw (Str×av)}:(A.under (.builtin "type.__call__" ⟨.ref C::us,kw⟩)).depth=A.depth+1:=by first | rfl | simp [Around.under,Code.weight,Code.isCreation,Code.isGuard,Code.isCaller,Code.frames,Code.isFrame,guardIds]
def Qq{A:ah}{C:ar}{us:aw av}{kw:aw (Str×av)}:(A.under (.builtin "type.__call__" ⟨.ref C::us,kw⟩)).units=A.units+1:=by first | rfl | simp [Around.under,Code.cUnits,Code.frames,Code.isFrame]
def mV.make(r:mV (k+1) A)(C:ar)(us:aw av)(kw:aw (Str×av)):mV k (A.under (.builtin "type.__call__" ⟨.ref C::us,kw⟩)):=
 ⟨r.hd,by have:=r.dp;rw[Qs];lia,by have:=r.un;rw[Qq];lia⟩
def mV.depth(r:mV k A):A.depth<recursionLimit:=by have:=r.dp;lia
def mV.units(r:mV k A):A.units+64<cLine:=by have:=r.un;lia
def Hq:TA:=fun _ H Q=>Q [] H
def Et(t:TE)(tr:TA):TA:=fun σ H Q=>t σ H fun x a=>tr σ a fun xs h=>Q (x::xs) h
section
variable{X:Cx}{e:Expr}{es:aw Expr}{te:TE}{t:TA}{pos:Pos}
def zD:PA X [] Hq:=fun _ _ _ _ H Q I h=>Calls.spliced_nil ⟨[],H,I,.nil,h⟩
def zA(d:PE X e te)(hr:PA X es t)(hs:starEach (e::es) X.env=(false,eval e X.env)::starEach es X.env:=by rfl):PA X (e::es) (Et te t):=by intro pos p s σ H Q I h;rw[hs];show wpAny _ _ (spliced ((false,eval e X.env)::backTo pos (starEach es X.env))) _ _ s;refine Calls.spliced_cons (iw (d p s σ H _ I h) fun u S ⟨x,b,i,r,a⟩=>?_);exact iw (hr pos p S σ b _ i a) fun _ _ ⟨xs,c,f,g,q⟩=>⟨x::xs,c,f,.cons r g,q⟩
def qD8(t:TA):TE:=fun σ H Q=>t σ H fun xs h=>xs.length<=sizeLine/\∀ p,h p=none->Q (.ref p) (upd h p (.tup xs))
def qDB(t:TA):TE:=fun σ H Q=>t σ H fun xs h=>xs.length<=sizeLine/\∀ p,h p=none->Q (.ref p) (upd h p (.lst xs))
def zW {x} (h:PA X es t):PE X (.Tuple es x pos) (qD8 t):=by intro p s σ H Q I c;refine wpAny_Tuple_spliced (iw (h pos p s σ H _ I c) fun us S ⟨xs,a,i,r,z,q⟩=>⟨by rw[<-r.length];exact z,?_⟩);have f:a S.heap.objs.size=none:=i.hok.fresh (jC _);refine⟨.ref S.heap.objs.size,upd a S.heap.objs.size (.tup xs),i.laid (t':=S.toks) (fun b u e=>tO _ e) (jC _) ?_,rfl,q _ f⟩;exact⟨z,us,r,⟨_,Ab _ rfl,rfl,_,rfl⟩⟩
def yI(h:PA X es t):PE X (.List es pos) (qDB t):=by intro p s σ H Q I c;refine wpAny_List_spliced (iw (h pos p s σ H _ I c) fun us S ⟨xs,a,i,r,z,q⟩=>⟨by rw[<-r.length];exact z,?_⟩);have f:a S.heap.objs.size=none:=i.hok.fresh (jC _);refine⟨.ref S.heap.objs.size,upd a S.heap.objs.size (.lst xs),i.laid (t':=S.toks) (fun b u e=>tO _ e) (jC _) ?_,rfl,q _ f⟩;exact⟨z,us,0,r,Ab _ rfl⟩
end
abbrev Sp:=aw V->Hp->VK->XK->Prop
abbrev Pr:=aw Env->Hp->ae->XK->av->ae->Prop
structure RL(P:Program)(w:World)(K:dN)(mg:Str->Option Value)(base:Heap)(A:Around)(outer:List Env)(s:Shared)(H:Hp):Prop where
 frames:A.frames=some outer
 mod:Mod K mg base
 bs:∀ b o,base.get? b=some o->s.heap.get? b=some o/\H b=none
 Zy:base.objs.size<=s.heap.objs.size
 Dl:s.heap.FunFrames base outer
 frf:∀ b∈frs outer,H b=none
 hok:zr P w H s.heap
 bare:AllBare s.gens
def CE(o:aw Env)(P:ag)(w:ay)(H:Hp)(s:ae)(Q:VK)(u:av)(s':ae):Prop:=
 ∃ v h,s'.os=s.os/\AllBare s'.gens/\Un (frs o) [] H h s.heap s'.heap/\zr P w h s'.heap/\RelV v u/\Q v h
def CR(CX:Pr)(o:aw Env)(P:ag)(w:ay)(H:Hp)(s:ae)(Q:VK)(E:XK)(r:Result)(s':ae):Prop:=
 match r with
 | .ok (.ret u)=>CE o P w H s Q u s'
 | .ok _=>False
 | .error e=>CX o H s E e s'
structure cM(P:Program)(w:World)(K:dN)(mg:Str->Option Value)(base:Heap)(CX:Pr)(k:Nat)(f:Addr)(fd:FuncData)(ps:List Str)(sp:Sp):Prop where
 len:∀ vs H Q E,sp vs H Q E->vs.length=ps.length
 run:∀(A:Around)(outer:List Env)(s:Shared)(H:Hp)(args:Args)(us:List Value)(vs:List V)(Q:VK)(E:XK),mV k A->RL P w K mg base A outer s H->BindsTo s fd args (ps.zip us)->Vals vs us->sp vs H Q E →
  codeAny (model P w) A (.call (.ref f) args) (CR CX outer P w H s Q E) s
def cM.mono{P:ag}{w:ay}{K:dN}{m:Str->ax av}{b:Heap}{CX:Pr}{j k:Nat}{f:ar}{d:af}{ps:aw Str}{sp:Sp}(F:cM P w K m b CX j f d ps sp)(h:j<=k) :
  cM P w K m b CX k f d ps sp:=⟨F.len,fun A o s H a us vs Q E hr=>F.run A o s H a us vs Q E (hr.mono h)⟩
def cM.imp{P:ag}{w:ay}{K:dN}{m:Str->ax av}{b:Heap}{CX:Pr}{k:Nat}{f:ar}{d:af}{ps:aw Str}{sp S:Sp}(F:cM P w K m b CX k f d ps sp)
  (h:∀ vs H Q E,S vs H Q E->sp vs H Q E):cM P w K m b CX k f d ps S:=
 ⟨fun vs H Q E q=>F.len vs H Q E (h _ _ _ _ q),fun A o s H a us vs Q E hr i c v hs=>F.run A o s H a us vs Q E hr i c v (h _ _ _ _ hs)⟩
def RL.make{P:ag}{w:ay}{K:dN}{m:Str->ax av}{b:Heap}{A:ah}{o:aw Env}{s:ae}{H:Hp}(e:RL P w K m b A o s H)(C:ar)(us:aw av)(kw:aw (Str×av)) :
  RL P w K m b (A.under (.builtin "type.__call__" ⟨.ref C::us,kw⟩)) o s H:=⟨by first | exact e.frames | (simpa [Around.under,Code.envs,Code.isFrame,pushEnvs] using e.frames),e.mod,e.bs,e.Zy,e.Dl,e.frf,e.hok,e.bare⟩
section
variable{X:Cx}{pins:aw (ar×Obj)}{σ:St}{H:Hp}{s s':ae}
def Inv.env0(I:Inv X pins σ H s):RL X.prog X.w X.K X.mg X.base X.A X.stack s H:=
 ⟨I.ok.frames,I.ok.mod,I.bs,br I.ok.Zy I.sz,I.stack,I.Rb,I.hok,I.bare⟩
def Inv.after(I:Inv X pins σ H s)(h:CE X.stack X.prog X.w H s Q u s'):EP X pins σ Q u s':=by obtain⟨v,c,os,bare,un,hok,r,q⟩:=h;obtain⟨a,g,d,t,o⟩:=s';obtain rfl:o=s.os:=os;exact⟨v,c,I.call (h':=a) (g':=g) (d':=d) (t':=t) (ch:=[]) un hok bare (fun b z=>absurd z (by simp)),r,q⟩
end
def RZ(sp:Sp)(I:aw V)(E:XK)(t:TA):TE:=fun σ H Q=>t σ H fun vs h=>sp (vs++I) h Q E
def MT(C:ar)(m:Str)(sp:Sp)(I:aw V)(E:XK)(T:TE)(t:TA):TE:=fun σ H Q=>T σ H fun x h => ∃ a d fs,x = .ref a/\h a=some (.ins C d fs)/\fs.lookup m=none ∧
 t σ h fun vs b=>sp (x::(vs++I)) b Q E
def qAH(C:ar)(sp:Sp)(I:aw V)(E:XK)(t:TA):TE:=fun σ H Q=>t σ H fun vs h => ∀ x d,h x=none->h d=none->d≠x →
 sp (.ref x::(vs++I)) (upd (upd h d (.own x)) x (.ins C d [])) (fun v a=>v = .non/\Q (.ref x) a) E
def Binds(K:dN)(d:af)(ps:aw Str)(ds:aw av):Prop:=
 ∀(s:ae)(us:aw av),K.In s.heap->(us++ds).length=ps.length->BindsTo s d ⟨us,[]⟩ (ps.zip (us++ds))
def Binds.all{K:dN}{d:af}{ps:aw Str}(h:∀ us:aw av,us.length=ps.length->bindArgs d ⟨us,[]⟩=pure (ps.zip us)):Binds K d ps []:=fun s us _ f=>by
 rw[qH]at f ⊢;exact .of_eq (h us f)
def Passes(CX:Pr)(X:Cx)(E:XK):Prop:=∀(p:aw (ar×Obj))(σ:St)(H:Hp)(s:ae)(e:av)(s':ae),Inv X p σ H s->CX X.stack H s E e s'->X.xe e s'
section
variable{X:Cx}{CX:Pr}{k:Nat}{f C:ar}{fd:af}{ps:aw Str}{sp:Sp}{Ik:aw V}{ds:aw av}{E:XK}{x m:Str}{p pos apos:Pos}{e o:Expr}{es:aw Expr}{ta:TE}{t:TA}
theorem QR(F:cM X.prog X.w X.K X.mg X.base CX k f fd ps sp)(hr:mV k X.A)(c:Binds X.K fd ps ds)(hd:Vals Ik ds)(x:Passes CX X E)
  (I:Inv X pins σ H s) (r:Vals vs us) (h:sp (vs++Ik) H Q E):wpAny (model X.prog X.w) X.A (call (.ref f) us) (EP X pins σ Q) X.xe s:=by
 have g:Vals (vs++Ik) (us++ds):=r.append hd
 have l:(us++ds).length=ps.length:=by rw[<-g.length];exact F.len _ _ _ _ h
 refine wpAny_call (codeAny_mono (F.run X.A X.stack s H ⟨us,[]⟩ (us++ds) (vs++Ik) Q E hr I.env0 (c s us I.BX l) g h) fun r s' q=>?_)
 cases r with
 | error e=>exact x pins σ H s e s' I q
 | ok a=>
  cases a with
  | ret u=>exact I.after q
  | next=>exact c0 q
  | brk=>exact c0 q
  | cont=>exact c0 q
def zJ(F:cM X.prog X.w X.K X.mg X.base CX k f fd ps sp)(hr:mV k X.A)(g:Gl X x)(m:X.mg x=some (.ref f))(j:PySem.W.keepIn X.K (.ref f)=true)(c:Binds X.K fd ps ds)(hd:Vals Ik ds)(a:Passes CX X E)
  (d:PA X (e::es) t) (b:(x==("__debug__" : Str))=false:=by decide) (n:starEach (e::es) X.env=(false,eval e X.env)::starEach es X.env:=by rfl) (l:(backTo pos (starEach es X.env)).any (·.1)=false:=by rfl) :
  PE X (.Call (.Name x p) (e::es) [] pos) (RZ sp Ik E t):=by intro P s σ H Q I h;refine wpAny_Call_Name_kw (Ks I g m ?_ b);refine PySem.W.callWith_K (h₀:=X.base) I.ok.mod.kin j (iw (d pos P s σ H _ I h) fun _ _ ⟨_,_,i,r,q⟩=>⟨i.BX,?_⟩) n l;exact QR F hr c hd a i r q
def Rr(D:PE X o ta)(c:Hk X.K C)(g:Meth X.K C m f)(F:cM X.prog X.w X.K X.mg X.base CX k f fd ps sp)(hr:mV k X.A)(A:Binds X.K fd ps ds)(hd:Vals Ik ds)(w:Passes CX X E)(v:PA X (e::es) t)
  (d:starEach (e::es) X.env=(false,eval e X.env)::starEach es X.env:=by rfl) (b:(backTo pos (starEach es X.env)).any (·.1)=false:=by rfl)
  (B:eval (.Call (.Attribute o m apos) (e::es) [] pos) X.env=(do
   let ov ← eval o X.env
   standAt apos.atName
   let (f,first) ← holding [ov] (getMethod ov m pl)
   callWith pos f first (backTo pos (starEach (e::es) X.env)) (backToKw pos (keywordEach [] X.env))):=by rfl) :
  PE X (.Call (.Attribute o m apos) (e::es) [] pos) (MT C m sp Ik E ta t):=by intro p s σ H Q I h;refine PySem.W.methodCall_KW (pl:=pl) (iw (D p s σ H _ I h) fun u S hz_=>?_) B;obtain⟨x,n,i,R,a,_,_,ex,y,l,q⟩:=hz_;subst ex;obtain rfl:u=Value.ref a:=R;refine Ga i y c g l ?_;refine PySem.W.callWith_K (first:=[.ref a]) (h₀:=X.base) I.ok.mod.kin g.kp (iw (v pos p S σ n _ i q) fun us _ ⟨vs,_,j,r,z⟩=>⟨j.BX,?_⟩) d b;exact QR (us:=.ref a::us) (vs:=.ref a::vs) F hr A hd w j (.cons rfl r) z
def Fj(j:PE X o ta)(c:Hk X.K C)(b:Meth X.K C m f)(F:cM X.prog X.w X.K X.mg X.base CX k f fd ps sp)(hr:mV k X.A)(g:Binds X.K fd ps ds)(hd:Vals Ik ds)(d:Passes CX X E)
  (t:eval (.Call (.Attribute o m apos) [] [] pos) X.env=(do
   let ov ← eval o X.env
   standAt apos.atName
   let (f,first) ← holding [ov] (getMethod ov m pl)
   callWith pos f first (backTo pos (starEach [] X.env)) (backToKw pos (keywordEach [] X.env))):=by rfl) :
  PE X (.Call (.Attribute o m apos) [] [] pos) (MT C m sp Ik E ta Hq):=by intro p s σ H Q I h;refine PySem.W.methodCall_KW (pl:=pl) (iw (j p s σ H _ I h) fun u _ hz_=>?_) t;obtain⟨x,_,i,r,a,_,_,ex,e,l,q⟩:=hz_;subst ex;obtain rfl:u=Value.ref a:=r;refine Ga i e c b l ?_;exact PySem.W.callWith_K0 (first:=[.ref a]) i.BX b.kp (QR (us:=[.ref a]) (vs:=[.ref a]) F hr g hd d i (.cons rfl .nil) q)
structure Mk(K:dN)(C f:Addr):Prop where
 makes:PySem.W.makesIn K C=true
 init:PySem.W.findIn K (.ref C) "__init__" = some (some (.ref f))
 fn:PySem.W.isFn K (.ref f)=true
 kp:KI K C
theorem Vy(M:Mk X.K C f)(F:cM X.prog X.w X.K X.mg X.base CX k f fd ps sp)(hr:mV (k+1) X.A)(l:Binds X.K fd ps ds)(hd:Vals Ik ds)
  (i:Passes CX X E) (I:Inv X pins σ H s) (r:Vals vs us)
  (h:∀ x d,H x=none->H d=none->d≠x->sp (.ref x::(vs++Ik)) (upd (upd H d (.own x)) x (.ins C d [])) (fun v c=>v = .non/\Q (.ref x) c) E) :
  wpAny (model X.prog X.w) X.A (call (.ref C) us) (EP X pins σ Q) X.xe s:=by
 have q:=h (s.heap.objs.size+1) s.heap.objs.size (I.hok.fresh (i0 _)) (I.hok.fresh (jC _)) (Aa (ij _));have b:=Inv.made (C:=C) I;have g:Vals (V.ref (s.heap.objs.size+1)::(vs++Ik)) (Value.ref (s.heap.objs.size+1)::(us++ds)):=.cons rfl (r.append hd)
 have m:(Value.ref (s.heap.objs.size+1)::us++ds).length=ps.length:=by
  have e:=g.length;rw[F.len _ _ _ _ q]at e;exact e.symm
 refine wpAny_call (Wn (f:=f) I.BX M.makes M.init (beq_iff_eq.mp M.fn) (codeAny_mono (F.run _ X.stack _ _ ⟨Value.ref (s.heap.objs.size+1)::us,[]⟩ (Value.ref (s.heap.objs.size+1)::(us++ds)) _ _ E (hr.make C us [])
  (b.env0.make C us []) (l _ (Value.ref (s.heap.objs.size+1)::us) b.BX m) g q) fun r s' a=>?_))
 cases r with
 | error e=>exact i pins σ _ _ e s' b a
 | ok o=>
  cases o with
  | ret u=>
   obtain⟨v,p,n,R,j,t⟩:=b.after a;subst j;exact⟨R,⟨V.ref (s.heap.objs.size+1),p,n,rfl,t⟩⟩
  | next=>exact c0 a
  | brk=>exact c0 a
  | cont=>exact c0 a
def W8(M:Mk X.K C f)(F:cM X.prog X.w X.K X.mg X.base CX k f fd ps sp)(hr:mV (k+1) X.A)(g:Gl X x)(m:X.mg x=some (.ref C))(c:Binds X.K fd ps ds)(hd:Vals Ik ds)(a:Passes CX X E)
  (b:(x==("__debug__" : Str))=false:=by decide):PE X (.Call (.Name x p) [] [] pos) (qAH C sp Ik E Hq):=by intro _ s σ H Q I h;refine wpAny_Call_Name_kw (Ks I g m ?_ b);exact PySem.W.callWith_K0 I.BX M.kp (Vy (us:=[]) M F hr c hd a I .nil h)
end
section
variable{X:Cx}{CX:Pr}{k:Nat}{f C:ar}{fd:af}{ps ks:aw Str}{sp:Sp}{E:XK}{x m:Str}{p pos apos kpos:Pos}{e o:Expr}{es:aw Expr}{kws:aw Keyword}{te ta:TE}{t tk:TA}{nm:ax Str}
structure KBinds(K:dN)(fd:FuncData)(ps ks:List Str)(g:List Value->List Value->List Value)(gV:List V->List V->List V):Prop where
 to:∀(s:Shared)(us ws:List Value),K.In s.heap->(g us ws).length=ps.length->BindsTo s fd ⟨us,ks.zip ws⟩ (ps.zip (g us ws))
 rel:∀ {vs:List V} {us:List Value} {zs:List V} {ws:List Value},Vals vs us->Vals zs ws->Vals (gV vs zs) (g us ws)
variable{g:aw av->aw av->aw av}{gV:aw V->aw V->aw V}
end
structure au(N P:List Str)(sc:Scope):Prop where
 kind:sc.kind = .function
 co:sc.isCoroutine=false
 gen:sc.isGenerator=false
 nd:N.Nodup
 pre:N.take P.length=P
 par:∀ x∈P,sc.names.lookup x=some .local∨sc.names.lookup x=some .cell
 Qj:∀ y∈sc.names,y.2≠.free
theorem JV{kindOf:Str->ax NameKind}{x:Str}:∀ {binds:aw (Str×av)} {m:Str->ax av},(∀ v,(x,v)∉binds)->bindL kindOf binds m x=m x
 | [],_,_=>rfl
 | (n,v)::r,m,h=>by
  unfold bindL;rw[JV fun w c=>h w (rM _ c)]
  split
  .have:x≠n:=by rintro rfl;exact h v qK
   simp [this]
  .rfl
theorem JX{kindOf:Str->ax NameKind}{x:Str}:∀ {binds:aw (Str×av)} {m:Str->ax av},(∀ v,(x,v)∉binds)->bindC kindOf binds m x=m x
 | [],_,_=>rfl
 | (n,v)::r,m,h=>by
  unfold bindC;rw[JX fun w c=>h w (rM _ c)]
  split
  .rfl
  .have:x≠n:=by rintro rfl;exact h v qK
   simp [this]
theorem JW{kindOf:Str->ax NameKind}{x:Str}{v:av}:∀ {P:aw Str} {vs:aw av} {i:Nat} {m:Str->ax av},P.Nodup->P[i]? = some x->vs[i]? = some v->kindOf x=some .local →
  bindL kindOf (P.zip vs) m x=some v
 | [],_,_,_,_,h,_,_=>by simp at h
 | _::_,[],_,_,_,_,h,_=>by simp at h
 | p::P,w::vs,0,m,n,H,a,k=>by
  simp at H a;subst H;subst a;show bindL kindOf ((p,w)::P.zip vs) m p=_;unfold bindL;rw[JV fun v b=>(gN.mp n).1 (gT b).1,cq k];simp
 | p::P,w::vs,i+1,m,n,H,a,k=>by
  show bindL kindOf ((p,w)::P.zip vs) m x=_;unfold bindL;exact JW (i:=i) (List.nodup_cons.mp n).2 (by simpa using H) (by simpa using a) k
theorem JZ{kindOf:Str->ax NameKind}{x:Str}{v:av}:∀ {P:aw Str} {vs:aw av} {i:Nat} {m:Str->ax av},P.Nodup->P[i]? = some x->vs[i]? = some v->kindOf x≠some .local →
  bindC kindOf (P.zip vs) m x=some v
 | [],_,_,_,_,h,_,_=>by simp at h
 | _::_,[],_,_,_,_,h,_=>by simp at h
 | p::P,w::vs,0,m,n,H,a,k=>by
  simp at H a;subst H;subst a;show bindC kindOf ((p,w)::P.zip vs) m p=_;unfold bindC;rw[JX fun v b=>(gN.mp n).1 (gT b).1,cn k];simp
 | p::P,w::vs,i+1,m,n,H,a,k=>by
  show bindC kindOf ((p,w)::P.zip vs) m x=_;unfold bindC;exact JZ (i:=i) (List.nodup_cons.mp n).2 (by simpa using H) (by simpa using a) k
def start(N:aw Str)(vs:aw V):St:=vs.map some++List.replicate (N.length-vs.length) none
def Oj(CX:Pr)(P:ag)(w:ay)(K:dN)(mg:Str->ax av)(base:Heap)(N:aw Str)(q:Str)(S:Scope)(f:ar)(cd:av)(A:ah)(outer:aw Env)(s:ae)(H:Hp)(E:XK):Cx where
 prog:=P
 w:=w
 K:=K
 mg:=mg
 base:=base
 A:=A.deeper (envOfC q S s.heap.objs.size f cd)
 N:=N
 s₀:=s
 H₀:=H
 env:=envOfC q S s.heap.objs.size f cd
 outer:=outer
 stack:=envOfC q S s.heap.objs.size f cd::outer
 ex:=[]
 calm:=true
 fn:=fun _=>true
 pn:=[]
 xe:=fun e s'=>wpAny (model P w) (A.deeper (envOfC q S s.heap.objs.size f cd)) (leaving (envOfC q S s.heap.objs.size f cd) e) (fun _ a=>CX outer H s E e a) (fun b a=>CX outer H s E b a) s'
def Oo{S:Scope}{n:Nat}{x:Str}(h:S.names.lookup x=some .cell):∃ c,(cellsFrom n S.names []).lookup x=some c:=by have q:=PySem.W.cellsFrom_some S.names n [] (.inl h);exact j3.mp q
theorem Uk{CX:Pr}{P:ag}{w:ay}{K:dN}{M:Str->ax av}{B:Heap}{N ps:aw Str}{Q:Str}{d:Scope}{f:ar}{cd:av}{A:ah}{o:aw Env}{s I:ae}{H:Hp}{E:XK}{us:aw av}{vs:aw V}
  (S:au N ps d) (hd:A.handled=none) (j:RL P w K M B A o s H) (O:vs.length=ps.length) (r:Vals vs us)
  (x:InCallC s s.heap.objs.size (bindL (envOfC Q d s.heap.objs.size f cd).kindOf (ps.zip us) fun _=>none) (cellsFrom (s.heap.objs.size+1) d.names []) (bindC (envOfC Q d s.heap.objs.size f cd).kindOf (ps.zip us) fun _=>none) I) :
  Inv (Oj CX P w K M B N Q d f cd A o s H E) [] (start N vs) H I:=by
 have L:ps.length<=N.length:=by have:=congrArg List.length S.pre;rw[pF]at this;lia
 obtain⟨C,_,rfl,G⟩:=x.done;have l:∀ b:ar,b∉(Oj CX P w K M B N Q d f cd A o s H E).ex:=fun b z=>absurd (show b∈([]:aw ar) from z) (by simp)
 refine⟨⟨j.mod,S.kind,rfl,rfl,jC _,fun y z c C g=>?_,fun y T=>?_,fun y c _ h=>?_,fun _=>hd,Around.frames_deeper j.frames,.inr ⟨rfl,rfl⟩,fun b z=>d6 z (l b),j.bs,j.Zy,fun b _ _=>l b,fun b z=>d6 z (l b),j.Dl,j.frf⟩,
  rfl,j.bare,Un.kept G,⟨_,x.toInCall.ns,fun i y v C g _=>?_⟩,fun y c h=>⟨_,x.cell y c h⟩,j.hok.fresh (Nat.le_refl _),fun y c h=>?_,fun p t=>absurd (show p∈([]:aw (ar×Obj)) from t) (by simp),j.hok.kept G,?_⟩
 .exact name_of_addr x.apart (cf C) (cf g)
 .have T:d.names.lookup y=some .cell∨d.names.lookup y=some .free:=T;rcases T with T | T
  .exact Oo T
  .exact d6 rfl (S.Qj _ (cf T))
 .exact hX (x.above y c (cf h))
 .have D:i<vs.length:=by
   unfold start at g
   by_cases D:i<vs.length
   .exact D
   .rw[List.getElem?_append_right (by simpa using D)]at g;rw[fq]at g
    split at g <;> cases g
  have J:vs[i]? = some v:=by
   unfold start at g;rw[List.getElem?_append_left (by simpa using D),List.getElem?_map]at g
   cases e:vs[i]? with
   | none=>rw[e]at g;cases g
   | some a=>rw[e]at g;cases g;rfl
  obtain⟨u,F,R⟩:=r.get J
  have t:ps[i]? = some y:=by
   rw[<-S.pre,List.getElem?_take_of_lt (by lia)];exact C
  have m:ps.Nodup:=by rw[<-S.pre];exact S.nd.sublist (List.take_sublist _ _)
  refine⟨u,R,?_⟩;rcases S.par y (Jb t) with k | k
  .exact .inl ⟨k,JW m t F k⟩
  .obtain⟨c,e⟩:=Oo (n:=s.heap.objs.size+1) k;refine .inr ⟨.inl k,c,e,?_⟩;have q:=x.cell y c e;rw[JZ m t F (by show d.names.lookup y≠_;rw[k];decide)]at q;exact q
 .exact j.hok.fresh (hX (x.above y c (cf h)))
 .unfold start;show _=N.length;rw[jB,fH,cx];lia
theorem qEF{CX:Pr}{P:ag}{w:ay}{K:dN}{M:Str->ax av}{B:Heap}{k:Nat}{f:ar}{name l:Str}{p:Arguments}{d:aw Stmt}{a:Scope}{U kV D T c ct Z:av}{G Y:ax ar}
  {C:Array (ax av)} {N ps:aw Str} {sp:Sp} (lk:K.lookup f=some ⟨Z,Y,.func (PySem.W.fnOf name l p d a U kV D T G c ct),C⟩) (F:PySem.W.codeIn K c l=true) (S:au N ps a)
  (len:∀ vs H Q E,sp vs H Q E->vs.length=ps.length)
  (j:∀(A:ah)(O:aw Env)(s:ae)(H:Hp)(vs:aw V)(Q:VK)(E:XK),mV k (A.deeper (envOfC l a s.heap.objs.size f c))->sp vs H Q E →
   ∃ t,Pq (Oj CX P w K M B N l a f c A O s H E) d t/\t { nx:=fun _ h=>Q .non h,rt:=Q } (start N vs) H) :
  cM P w K M B CX (k+1) f (PySem.W.fnOf name l p d a U kV D T G c ct) ps sp:=by
 refine⟨len,fun A O s H _ us vs Q E hr m hb r z=>?_⟩;have hl:=len _ _ _ _ z;have X:K.In s.heap:=m.mod.kin.keeps fun b o e=>(m.bs b o e).1;have L:s.heap.NoLimit:=m.mod.nolimit.keeps fun b o e=>(m.bs b o e).1
 have i:∀ y∈ps.zip us,a.names.lookup y.1=some .local∨(a.names.lookup y.1=some .cell/\((cellsFrom (s.heap.objs.size+1) a.names []).lookup y.1).isSome=true):=fun ⟨n,v⟩ hy=>by
  rcases S.par n (gT hy).1 with q | q
  .exact .inl q
  .exact .inr ⟨q,PySem.W.cellsFrom_some _ _ _ (.inl q)⟩
 refine codeAny_call_function hr.depth (X _ _ lk) rfl S.co S.gen rfl (PySem.W.codeRec_of X F) (hb _ _ _ _ ?_);refine wpAny_newFunctionEnv_cells S.kind i fun _ he W x=>?_;subst he;refine⟨L.keeps x.toInCall.keep,codeAny_func ?_⟩;obtain⟨t,ht,hq⟩:=j A O s H vs Q E (hr.deeper _) z;have I:Inv (Oj CX P w K M B N l a f c A O s H E) [] (start N vs) H W:=Uk S hr.hd m hl r x;refine bX (ht [] W (start N vs) H _ I hq) (fun fl s' hs=>?_) fun e s' hs=>hs
 have fin:∀ {g:St} {h:Hp} {v:V} {u:av},Inv (Oj CX P w K M B N l a f c A O s H E) [] g h s'->RelV v u->Q v h->CE O P w H s Q u s':=
  fun {g h v u} J R q=>⟨v,h,J.os,J.bare,J.base,J.hok,R,q⟩
 cases fl with
 | ret u=>
  obtain⟨v,g,h,J,R,q⟩:=hs;exact fin J R q
 | next=>
  obtain⟨g,h,J,q⟩:=hs;exact fin (v:=V.non) (u:=Value.none) J rfl q
 | brk=>
  obtain⟨_,_,_,q⟩:=hs;exact c0 q
 | cont=>
  obtain⟨_,_,_,q⟩:=hs;exact c0 q
section
variable{X:Cx}{x:Str}{p pos:Pos}{e:Expr}{es:aw Expr}{t:TA}{id T:String}{r:aw V->Hp->VK->Prop}
def tCB(r:aw V->Hp->VK->Prop)(t:TA):TE:=fun σ H Q=>t σ H fun vs h=>r vs h Q
def zT(j:nP X (.builtin id) r)(g:Gl X x)(m:X.mg x=none)(v:bootBuiltins x=some (.builtin id))(d:PA X (e::es) t)(n:x ≠ "__name__" := by decide)(b:(x==("__debug__" : Str))=false:=by decide)
  (f:starEach (e::es) X.env=(false,eval e X.env)::starEach es X.env:=by rfl) (l:(backTo pos (starEach es X.env)).any (·.1)=false:=by rfl):PE X (.Call (.Name x p) (e::es) [] pos) (tCB r t):=by intro P s σ H Q I h;refine wpAny_Call_Name_kw (uG I g m v ?_ n b);exact jI (iw (d pos P s σ H _ I h) fun us S ⟨vs,c,i,R,a⟩=>j P S σ c vs us Q i R a) f l
def zZ(j:nP X (.type T) r)(g:Gl X x)(m:X.mg x=none)(v:bootBuiltins x=some (.type T))(d:PA X (e::es) t)(n:x ≠ "__name__" := by decide)(b:(x==("__debug__" : Str))=false:=by decide)
  (f:starEach (e::es) X.env=(false,eval e X.env)::starEach es X.env:=by rfl) (l:(backTo pos (starEach es X.env)).any (·.1)=false:=by rfl):PE X (.Call (.Name x p) (e::es) [] pos) (tCB r t):=by intro P s σ H Q I h;refine wpAny_Call_Name_kw (uG I g m v ?_ n b);exact jS (iw (d pos P s σ H _ I h) fun us S ⟨vs,c,i,R,a⟩=>j P S σ c vs us Q i R a) f l
end
end L2
namespace HT
open PySem PyProof.Rows
section
open PySem.SeqAt
open PySem.AutoSeq1 (wpAny_loadPart')
open PySem.MeetsSeq PySem.MeetsSeq2 PySem.MeetsSeq3
end
section
variable{prog:ag}{w:ay}{A:ah}{E:av->ae->Prop}{s:ae}
def Zx(l:IsTup s.heap t vs.toArray)(g:IsTup s.heap b ws.toArray)(v:vs≠[])
  (i:ws=[]->Q (.ref t) s) (k:ws≠[]->Q (.ref s.heap.objs.size) { s with heap:=s.heap.push { cls:=.type "tuple",data:=.seq (vs++ws).toArray } })
  (z:vs.length+ws.length<=sizeLine):wpAny (model prog w) A (binaryOp .Add (.ref t) (.ref b)) Q E s:=by
 obtain⟨⟨cls,D,data,sl⟩,j,f,n,hd⟩:=id l;obtain⟨⟨_,d,_,S⟩,h,a,N,H⟩:=id g;simp only at f hd a H;subst f hd a H
 have e:vs.toArray++ws.toArray=(vs++ws).toArray:=by simp
 by_cases c:ws=[]
 .exact concat_meets ⟨_,j,rfl⟩ ⟨_,h,rfl⟩ noFill_tuple_add seq_tuple_add kg kc (kb _ _)
   (tuple_addW1 t b vs.toArray ws.toArray n N D d sl S (by simpa using v) (by simp [c])) ⟨j,h,i c⟩
 .refine concat_meets ⟨_,j,rfl⟩ ⟨_,h,rfl⟩ noFill_tuple_add seq_tuple_add kg kc (kb _ _)
   (tuple_addW2 t b vs.toArray ws.toArray n N D d sl S (by simpa using v) (by simpa using c) (by rw[List.size_toArray,List.size_toArray];exact z)) ⟨j,h,?_⟩
  rw[e];exact k c
def iy(n d:Nat):ax Int->Nat
 | none=>d
 | some v=>if v<0 then (v+(n:Int)).toNat else min v.toNat n
def yX(n d:Nat):iy n d none=d:=rfl
def Ec(n d k:Nat):iy n d (some (k:Int))=min k n:=by show (if (k:Int)<0 then ((k:Int)+(n:Int)).toNat else min (k:Int).toNat n)=min k n;rw[cn (by lia),Va]
theorem qBN(n d:Nat)(hd:d<=n)(o:ax Int):iy n d o<=n:=by
 cases o with
 | none=>exact hd
 | some v=>
  show (if v<0 then (v+(n:Int)).toNat else min v.toNat n)<=n
  by_cases H:v<0
  .rw[cq H];lia
  .rw[cn H];exact iq _ _
def T8(v:Int)(n d:Nat):(if v<0 then max (v+(n:Int)) 0 else min v (n:Int))=((iy n d (some v):Nat):Int):=by
 show (if v<0 then max (v+(n:Int)) 0 else min v (n:Int))=(((if v<0 then (v+(n:Int)).toNat else min v.toNat n):Nat):Int)
 by_cases H:v<0
 .simp only[if_pos H];lia
 .simp only[if_neg H];lia
theorem RG(lo e:ax Int)(n:Nat):Builtin.Slice.sliceAdjust lo e 1 (n:Int)=(((iy n 0 lo:Nat):Int),((iy n n e:Nat):Int)):=by
 have h:¬ ((1:Int)<0):=by lia
 unfold Builtin.Slice.sliceAdjust;simp only[h,if_false];refine Prod.ext ?_ ?_
 .cases lo with
  | none=>rfl
  | some v=>exact T8 v n 0
 .cases e with
  | none=>rfl
  | some v=>exact T8 v n n
def Qa(i j:Nat):Builtin.Slice.slicePlaces (i:Int) (j:Int) 1=j-i:=by
 unfold Builtin.Slice.slicePlaces
 have h:(1:Int)>0:=by lia
 simp only[h,if_true,Int.ediv_one]
 split <;> lia
theorem FJ(p:IsPart v o)(h:Q o s):wpAny (model prog w) A (Builtin.Slice.slicePartIndex v) Q E s:=by
 cases p with
 | none=>exact slicePart_none h
 | int i t=>exact slicePart_int h
def rT{sl:ar}{v u:av}{lo e:ax Int}{n:Nat}{Q:Int×Int×Nat->ae->Prop}(hs:s.heap.IsSliceOf sl v u .none)(pl:IsPart v lo)(p:IsPart u e)
  (h:Q (((iy n 0 lo:Nat):Int),1,iy n n e-iy n 0 lo) s):wpAny (model prog w) A (Builtin.Slice.sliceApplied (.ref sl) (pure (n:Int))) Q E s:=by obtain⟨_,H,_,a⟩:=id hs;unfold Builtin.Slice.sliceApplied Builtin.Slice.sliceFields;refine aE (aE (wpAny_field H a (x:=v) rfl (aE (wpAny_field H a (x:=u) rfl (aE (wpAny_field H a (x:=.none) rfl (aI ?_)))))));refine aE (slicePart_none ?_);show wpAny _ _ (if ((1:Int)==0)=true then _ else _) _ _ s;rw[cn (by decide)];refine aE (FJ pl (aE (FJ p (aE (aI ?_)))));show wpAny _ _ (match Builtin.Slice.sliceAdjust lo e 1 (n:Int) with | (lo,e)=>pure (lo,(1:Int),Builtin.Slice.slicePlaces lo e 1)) _ _ s;rw[RG lo e n];show wpAny _ _ (pure (((iy n 0 lo:Nat):Int),(1:Int),Builtin.Slice.slicePlaces ((iy n 0 lo:Nat):Int) ((iy n n e:Nat):Int) 1)) _ _ s;rw[Qa];exact aI h
def W6(xs:Array av)(i k:Nat):((List.range k).filterMap fun (m:Nat)=>xs[((i:Int)+(m:Int)*1).toNat]?).toArray=((xs.toList.drop i).take k).toArray:=by
 have e:(fun (m:Nat)=>xs[((i:Int)+(m:Int)*1).toNat]?)=fun m=>xs[i+m]?:=by
  funext m
  have:((i:Int)+(m:Int)*1).toNat=i+m:=by lia
  rw[this]
 rw[e];have:=pick_run xs i k;rw[List.filterMap_map]at this;have E:((fun x=>xs[x]?) ∘ fun x=>i+x)=fun m=>xs[i+m]?:=rfl;rw[E]at this;rw[this]
theorem yw{t sl:ar}{items:Array av}{v u:av}{lo e:ax Int}{Q:av->ae->Prop}(g:IsTup s.heap t items)(hs:s.heap.IsSliceOf sl v u .none)(pl:IsPart v lo)(p:IsPart u e)
  (c:¬ (iy items.size 0 lo=0/\iy items.size items.size e=items.size))
  (h:Q (.ref s.heap.objs.size) { s with heap:=s.heap.push { cls:=.type "tuple",data:=.seq ((items.toList.drop (iy items.size 0 lo)).take (iy items.size items.size e-iy items.size 0 lo)).toArray } })
  (z:items.size<=sizeLine):wpAny (model prog w) A (getItem (.ref t) (.ref sl)) Q E s:=by
 have S:sizeOk (.seq ((items.toList.drop (iy items.size 0 lo)).take (iy items.size items.size e-iy items.size 0 lo)).toArray):=by
  show ((items.toList.drop (iy items.size 0 lo)).take (iy items.size items.size e-iy items.size 0 lo)).toArray.size<=sizeLine;rw[w5,pF,fE,cS];lia
 have J:iy items.size items.size e<=items.size:=qBN _ _ (jC _) e;obtain⟨os,a,H,_⟩:=id hs;have b:s.TypeIs (.ref sl) "slice" := ⟨os,a,H⟩;unfold getItem
 try with_reducible refine c9 ?_
 first | refine aE (aI ?_) | skip
 refine aE (wpAny_sequenceKey g.typeIs (by decide) ?_)
 refine aE (wpAny_callSpecial?_slot (name:=Str.ofString "__getitem__") g.typeIs ka
  (wpAny_call_entry ka g.typeIs entry_tuple_getitem ?_ (args_tuple_getitem _ _)))
 show wpAny _ _ (Builtin.Tuple.tupleItemsOf (.ref t) >>= _) _ _ s;refine aE (tupleItemsOf_ g ?_);refine aE (wpAny_typeOf b ?_);rw[cq (by decide)];refine aE (rT hs pl p ?_)
 have o:¬ ((((iy items.size 0 lo:Nat):Int)==0&&(1:Int)==1&&(iy items.size items.size e-iy items.size 0 lo)==items.size)=true):=by
  intro q;rw[dv,dv]at q;have d:((iy items.size 0 lo:Nat):Int)=0:=eq_of_beq q.1.1;have f:iy items.size items.size e-iy items.size 0 lo=items.size:=eq_of_beq q.2;exact c ⟨by lia,by lia⟩
 show wpAny _ _ (if (((iy items.size 0 lo:Nat):Int)==0&&(1:Int)==1&&(iy items.size items.size e-iy items.size 0 lo)==items.size)=true then _ else _) _ _ s;rw[cn o,W6]
 first
  | exact aE (m:=Builtin.Tuple.tupleExact _) (wpAny_newObj_type (aI ⟨_,rfl,aI h⟩) S)
  | exact aE (m:=Builtin.Tuple.tupleExact _) (wpAny_newObj_type (aE (aI (aI ⟨_,rfl,aI h⟩))) S)
  | exact aE (aE (m:=Builtin.Tuple.tupleExact _) (wpAny_newObj_type (aI (aI ⟨_,rfl,aI h⟩)) S))
  | exact aE (aE (m:=Builtin.Tuple.tupleExact _) (wpAny_newObj_type (aI ⟨_,rfl,aI h⟩) S))
end
end HT
namespace L2
open PySem PySem.Spec PyProof.Rows
abbrev TO:=St->Hp->(ax Int->Hp->Prop)->Prop
def PO(X:Cx)(e:ax Expr)(t:TO):Prop:=
 ∀(p:aw (ar×Obj))(s:ae)(σ:St)(H:Hp)(Q:ax Int->Hp->Prop),Inv X p σ H s->t σ H Q →
  wpAny (model X.prog X.w) X.A (evalPart e X.env) (fun u s'=>∃ o h,Inv X p σ h s'/\IsPart u o/\Q o h) X.xe s
def RX:TO:=fun _ H Q=>Q none H
def qAD(t:TE):TO:=fun σ H Q=>t σ H fun x h => ∃ i,x = .int i/\Q (some i) h
section
variable{X:Cx}{e:Expr}{te:TE}{lo hi:ax Expr}{tl th:TO}{pos p2:Pos}
def fW:PO X none RX:=by intro _ s σ H Q I h;rw[evalPart_none];exact aI ⟨none,H,I,.none,h⟩
def fV(h:PE X e te):PO X (some e) (qAD te):=by intro p s σ H Q I c;rw[evalPart_some];refine iw (h p s σ H _ I c) fun u _ ⟨x,b,d,r,a⟩=>?_;obtain⟨i,rfl,q⟩:=a;obtain⟨t,rfl⟩:=r;exact⟨some i,b,d,.int i t,q⟩
def VR(X:Cx)(r:V->ax Int->ax Int->Hp->VK->Prop):Prop:=
 ∀(p:aw (ar×Obj))(s:ae)(σ:St)(H:Hp)(x:V)(v l u:av)(lo hi:ax Int)(sl:ar)(Q:VK),Inv X p σ H s->RelV x v->s.heap.IsSliceOf sl l u .none->IsPart l lo->IsPart u hi->r x lo hi H Q →
  ∃ T id,typeLookup (.type T) "__getitem__" = pure (some (.builtin id))/\s.TypeIs v T/\wpAny (model X.prog X.w) X.A (getItem v (.ref sl)) (EP X p σ Q) X.xe s
def VR.or(h:VR X r)(h':VR X r'):VR X (fun x lo hi H Q=>r x lo hi H Q∨r' x lo hi H Q):=by
 intro p s σ H x v l u lo hi sl Q I f hs pl P q;rcases q with q | q
 .exact h p s σ H x v l u lo hi sl Q I f hs pl P q
 .exact h' p s σ H x v l u lo hi sl Q I f hs pl P q
def tSl(r:V->ax Int->ax Int->Hp->VK->Prop)(te:TE)(tl th:TO):TE:=fun σ H Q=>te σ H fun x a=>tl σ a fun l h=>th σ h fun u b=>r x l u b Q
def eH(hr:VR X r)(k:PE X e te)(g:PO X lo tl)(y:PO X hi th):PE X (.Subscript e (.Slice lo hi none p2) pos) (tSl r te tl th):=by intro p s σ H Q I h;refine Subscript_ (iw (k p s σ H _ I h) fun v D ⟨x,t,o,R,m⟩=>?_);refine wpAny_Slice (iw (g p D σ t _ o m) fun c B ⟨l,n,i,pl,f⟩=>iw (y p B σ n _ i f) fun a S ⟨u,d,z,P,j⟩=>?_);rw[evalPart_none];refine aI ?_;have J:Inv X p σ d { S with heap:=S.heap.push { cls:=.type "slice",data:=.fields #[c,a,.none] } }:=z.kept (t':=S.toks) fun b _ q=>tO _ q;obtain⟨T,_,A,C,w⟩:=hr p { S with heap:=S.heap.push { cls:=.type "slice",data:=.fields #[c,a,.none] } } σ d x v c a l u S.heap.objs.size Q J R (Heap.IsSliceOf.new ..) pl P j;show wpAny (model X.prog X.w) X.A (subscriptTail e (.Slice lo hi none p2) v (.ref S.heap.objs.size)) (EP X p σ Q) X.xe { S with heap:=S.heap.push { cls:=.type "slice",data:=.fields #[c,a,.none] } };exact tail_any (ops:=[.ref S.heap.objs.size,v]) C A w (by with_unfolding_all rfl)
def Ld(xs:aw V)(lo hi:ax Int):aw V:=(xs.drop (HT.iy xs.length 0 lo)).take (HT.iy xs.length xs.length hi-HT.iy xs.length 0 lo)
def Cy(xs:aw V)(lo hi:ax Int):(Ld xs lo hi).length<=xs.length:=by unfold Ld;rw[pF,fE];lia
def qGJ(K:dN):V->ax Int->ax Int->Hp->VK->Prop:=fun x lo hi H Q => ∃ a xs,x = .ref a/\tH K H a xs ∧
 ¬ (HT.iy xs.length 0 lo=0/\HT.iy xs.length xs.length hi=xs.length)/\∀ p,H p=none->Q (.ref p) (upd H p (.tup (Ld xs lo hi)))
def qBL:VR X (qGJ X.K):=by
 intro _ s σ H x v _ _ lo hi _ Q I f hs pl p h;obtain⟨a,xs,rfl,c,w,q⟩:=h
 cases f
 obtain⟨i,r,g,z⟩:=I.tuple c
 have n:i.toArray.size=xs.length:=by rw[w5];exact r.length.symm
 ext ak;refine HT.yw g hs pl p (by rw[n];exact w) ?_ (by rw[n];exact z);rw[n];refine⟨.ref s.heap.objs.size,_,I.laid (t':=s.toks) (o:=.tup (Ld xs lo hi)) (fun b _ q=>tO _ q) (jC _) ?_,rfl,q _ (I.hok.fresh (jC _))⟩;exact⟨br (Cy xs lo hi) z,_,(r.drop (HT.iy xs.length 0 lo)).take (HT.iy xs.length xs.length hi-HT.iy xs.length 0 lo),IsTup.new _ _⟩
def qAL(K:dN):R2:=fun x y H Q => ∃ a b xs ys,x = .ref a/\y = .ref b/\tH K H a xs/\tH K H b ys/\xs≠[]/\xs.length+ys.length<=sizeLine ∧
 (ys=[]->Q (.ref a) H)/\(ys≠[]->∀ p,H p=none->Q (.ref p) (upd H p (.tup (xs++ys))))
theorem Vals.El(r:Vals xs us):us=[]↔xs=[]:=by
 cases r with
 | nil=>simp
 | cons _ _=>simp
def Yz:o6 X (binaryOp .Add) (qAL X.K):=by
 intro _ s σ H x y v u Q I k R h;obtain⟨a,b,xs,ys,rfl,rfl,e,j,f,c,d,i⟩:=h
 cases k
 cases R
 obtain⟨_,r,p,_⟩:=I.tuple e;obtain⟨_,g,p2,_⟩:=I.tuple j;refine HT.Zx p p2 (fun z=>f (r.El.mp z)) (fun z=>⟨.ref a,H,I,rfl,d (g.El.mp z)⟩) (fun z=>?_) (by rw[<-r.length,<-g.length];exact c);refine⟨.ref s.heap.objs.size,_,I.laid (t':=s.toks) (o:=.tup (xs++ys)) (fun b _ q=>tO _ q) (jC _) ?_,rfl,i (fun w=>z (g.El.mpr w)) _ (I.hok.fresh (jC _))⟩;exact⟨by rw[jB];exact c,_,r.append g,IsTup.new _ _⟩
end
def Nz(n:Nat)(i:Int):ax Nat:=if 0<=i then (if i<n then some i.toNat else none) else if -(n:Int)<=i then some (i+n).toNat else none
def xZ{α:Type}(xs:aw α)(i:Int):ax α:=(Nz xs.length i).bind fun j=>xs[j]?
def Sd(h:Nz n i=some j):seqIndex? i n=some j/\j<n /\ -(n:Int)<=i/\i<n:=by
 unfold Nz at h
 by_cases c:0<=i
 .rw[cq c]at h
  by_cases H:i<n
  .rw[cq H]at h;have e:i.toNat=j:=Jc h;exact⟨by rw[seqIndex_of c H,e],by lia,by lia,H⟩
  .rw[cn H]at h;cases h
 .rw[cn c]at h
  by_cases H : -(n:Int)<=i
  .rw[cq H]at h;have e:(i+n).toNat=j:=Jc h;exact⟨by rw[seqIndex_neg (by lia) H,e],by lia,H,by lia⟩
  .rw[cn H]at h;cases h
theorem Li(h:xZ xs i=some v):∃ j,seqIndex? i xs.length=some j/\xs[j]? = some v/\j<xs.length /\ -(xs.length:Int)<=i/\i<xs.length:=by
 unfold xZ at h
 cases e:Nz xs.length i with
 | none=>rw[e]at h;cases h
 | some j=>
  rw[e]at h;obtain⟨b,H,a,c⟩:=Sd e;exact⟨j,b,h,H,a,c⟩
def TQ(b:Expr):Prop:=∀ o i,subscripted b false o i=operate [o,i] (getItem o i)
def YC(X:Cx)(r:R2):Prop:=
 ∀(e slice:Expr)(p:aw (ar×Obj))(s:ae)(σ:St)(H:Hp)(x y:V)(v u:av)(Q:VK),Inv X p σ H s->RelV x v->RelV y u->r x y H Q →
  subscripted slice false v u=operate [v,u] (getItem v u)->wpAny (model X.prog X.w) X.A (subscriptTail e slice v u) (EP X p σ Q) X.xe s
def MtR(X:Cx)(id:String)(r:V->aw V->Hp->VK->Prop):Prop:=
 ∀(p:aw (ar×Obj))(s:ae)(σ:St)(H:Hp)(x:V)(xs:aw V)(v:av)(us:aw av)(Q:VK),Inv X p σ H s->RelV x v->Vals xs us->r x xs H Q →
  wpAny (model X.prog X.w) X.A (call (.builtin id) (v::us)) (EP X p σ Q) X.xe s
section
variable{X:Cx}{a b:Expr}{ta tb:TE}{pos:Pos}
def z0(hr:YC X r)(d:PE X a ta)(e:PE X b tb)(hs:TQ b):PE X (.Subscript a b pos) (tOp r ta tb):=by intro p s σ H Q I h;exact Subscript_ (qCX d e I h fun v u S x y c i f R q=>hr a b p S σ c x y v u Q i f R q (hs _ _))
inductive qDN(K:dN)(x y:V)(H:Hp)(Q:VK):Prop
 | mk (p xs i v) (_:x = .ref p) (_:y = .int i) (_:jx K H p xs) (_:xZ xs i=some v) (_:Q v H)
inductive qDL(K:dN)(x y:V)(H:Hp)(Q:VK):Prop
 | mk (p xs i v) (_:x = .ref p) (_:y = .int i) (_:tH K H p xs) (_:xZ xs i=some v) (_:Q v H)
def qDM:R2:=fun x y H Q => ∃ z i c,x = .str z/\y = .int i/\z.length<=sizeLine/\xZ z.cps.toList i=some c/\Q (.str ⟨#[c]⟩) H
def yO:YC X (qDN X.K):=by
 intro _ _ P s σ H x y v u Q I o n h hs;obtain⟨p,_,i,z,rfl,rfl,g,k,q⟩:=h
 cases o
 obtain⟨t,rfl⟩:=n;obtain⟨b,r,pl,_⟩:=I.list g;obtain⟨j,a,d,_,f,m⟩:=Li k;obtain⟨w,e,R⟩:=r.get d;have l:=r.length;have A:=BR;have fin:EP X P σ Q w s:=⟨z,H,I,R,q⟩
 by_cases c:0<=i
 .have J:i.toNat=j:=by
   rw[seqIndex_of c m]at a;exact Jc a
  exact item_listR pl.isList c (by lia) (by rw[J];simpa using e) fin hs
 .have J:(i+(b.toArray.size:Int)).toNat=j:=by
   rw[seqIndex_neg (by lia) f]at a;rw[w5,<-l];exact Jc a
  exact subscriptTail_builtinR (x:=w) pl.isList.typeIs slot_list_getitem.lookup
   (wpAny_getItem_list_neg (Q:=fun r s'=>r=w/\EP X P σ Q r s') pl.isList (by lia) (by rw[hI] <;> lia) (by lia) (by rw[J];simpa using e) ⟨rfl,fin⟩) hs
def zH:YC X (qDL X.K):=by
 intro _ _ P s σ H x y v u Q I f d h hs;obtain⟨p,_,i,z,rfl,rfl,a,b,q⟩:=h
 cases f
 obtain⟨t,rfl⟩:=d;obtain⟨_,r,pl,_⟩:=I.tuple a;obtain⟨j,c,g,_,_,_⟩:=Li b;obtain⟨w,e,R⟩:=r.get g;have l:=r.length;have n:=BR;have fin:EP X P σ Q w s:=⟨z,H,I,R,q⟩;exact subscriptTail_builtinR (x:=w) pl.typeIs slot_tuple_getitem.lookup
  (getItem_tuple (j:=j) (Q:=fun r s'=>r=w/\EP X P σ Q r s') pl (by lia) (by lia) (by rw[hI,<-l];exact c) (by simpa using e) ⟨rfl,fin⟩) hs
def qCG:YC X qDM:=by
 intro _ _ _ s σ H x y v u Q I f R h hs;obtain⟨z,i,c,rfl,rfl,_,d,q⟩:=h;obtain⟨t,rfl⟩:=f;obtain⟨_,rfl⟩:=R;obtain⟨j,a,g,_,b,m⟩:=Li d
 have l:z.cps.toList.length=z.length:=by simp [Str.length]
 rw[l]at a b m;have n:=BR
 exact tail_any (typeIs_str s z t) slot_str_getitem.lookup (getItem_str (c:=c) (by
  have E:decide (i < -(2 ^ 63:Int))=false:=bg (by lia);have e:decide (i≥2 ^ 63)=false:=bg (by lia)
  rw[E,e,Bool.or_false]) (by rw[a];simpa using g) ⟨.str ⟨#[c]⟩,H,I.tok _,⟨_,rfl⟩,q⟩) hs
def Qp(i:aw av)(n j:Nat)(u:av):Obj.mapSeq (·.setIfInBounds j u) { cls:=.type "list",data:=.seq i.toArray n } = { cls:=.type "list",data:=.seq (i.set j u).toArray n }:=by simp [Obj.mapSeq]
def Inv.lst(I:Inv X pins σ H s)(h:H p=some (.lst xs)) :
  ∃(i:aw av)(n:Nat),Vals xs i/\s.heap.get? p=some { cls:=.type "list",data:=.seq i.toArray n }/\xs.length<=sizeLine:=by obtain⟨z,i,n,r,e⟩:=I.hok p _ h;exact⟨i,n,r,e,z⟩
def Inv.qCA{P:aw (ar×Obj)}{σ:St}{H:Hp}{s:ae}{p:ar}{xs ys:aw V}{i its':aw av}{n N:Nat}{f:Obj->Obj}(I:Inv X P σ H s)(h:H p=some (.lst xs))
  (j:s.heap.get? p=some { cls:=.type "list",data:=.seq i.toArray n }) (a:f { cls:=.type "list",data:=.seq i.toArray n } = { cls:=.type "list",data:=.seq its'.toArray N }) (r:Vals ys its') (z:ys.length<=sizeLine) (t:Nat) :
  Inv X P σ (upd H p (.lst ys)) { s with heap:=s.heap.update p f,toks:=t }:=by
 have e:(s.heap.update p f).get? p=some { cls:=.type "list",data:=.seq its'.toArray N }:=by
  rw[c8 f j (by rw[a] <;> rfl),a]
 refine I.write (x:=p) (e:=p) (by rw[h];trivial) (.inl rfl) (fun b u c q=>(c6 _ _ (bE c)).trans q) ⟨_,e⟩ ?_;exact⟨z,its',N,r,e⟩
inductive qAK(o i v:V)(H:Hp)(Q:(Hp->Prop)):Prop
 | mk (p xs k j) (_:o = .ref p) (_:i = .int k) (_:H p=some (.lst xs)) (_:Nz xs.length k=some j) (_:Q (upd H p (.lst (xs.set j v))))
def set_list:qG2 X qAK:=by
 intro P s σ H o i v _ _ u Q I y x R h;obtain⟨p,xs,k,j,rfl,rfl,m,J,q⟩:=h
 cases y
 obtain⟨t,rfl⟩:=x;obtain⟨a,n,r,d,z⟩:=I.lst m;obtain⟨b,_,l,e⟩:=Sd J;have f:=r.length;have A:=BR
 have w:Inv X P σ (upd H p (.lst (xs.set j v))) { s with heap:=s.heap.update p (Obj.mapSeq (·.setIfInBounds j u)) }:=
  I.qCA m d (Qp a n j u) (r.set R j) (by rw[fN];exact z) s.toks
 by_cases g:0<=k
 .have c:k.toNat=j:=by
   rw[seqIndex_of g e]at b;exact Jc b
  exact PySem.W.ki_setAt d g (by lia) (by rw[w5,<-f];exact e) (by rw[c];exact⟨_,w,q⟩)
 .have c:(k+(a.toArray.size:Int)).toNat=j:=by
   rw[seqIndex_neg (by lia) l]at b;rw[w5,<-f];exact Jc b
  exact PySem.W.ki_setBack d (by lia) (by rw[w5,<-f];exact l) (by lia) (by rw[c];exact⟨_,w,q⟩)
theorem Jo(lo e:ax Int)(n:Nat):(sliceBounds lo e none n).1=((HT.iy n 0 lo:Nat):Int)/\(sliceBounds lo e none n).2.1=((HT.iy n n e:Nat):Int)/\(sliceBounds lo e none n).2.2=1:=by
 refine⟨?_,?_,rfl⟩
 .cases lo with
  | none=>simp [sliceBounds,HT.iy]
  | some i=>
   simp only[sliceBounds,HT.iy,Option.getD_none,show (1:Int)>0 by decide,if_true]
   by_cases h:i<0
   .simp only[h,if_true] <;> lia
   .simp only[h,if_false] <;> lia
 .cases e with
  | none=>simp [sliceBounds,HT.iy]
  | some i=>
   simp only[sliceBounds,HT.iy,Option.getD_none,show (1:Int)>0 by decide,if_true]
   by_cases h:i<0
   .simp only[h,if_true] <;> lia
   .simp only[h,if_false] <;> lia
def Hs(i:aw av)(lo e:ax Int):slicePick i.toArray lo e none=((i.drop (HT.iy i.length 0 lo)).take (HT.iy i.length i.length e-HT.iy i.length 0 lo)).toArray:=by obtain⟨H,a,h⟩:=Jo lo e i.toArray.size;unfold slicePick;rw[H,a,h];simp only[sliceRange_one,pick_run,List.size_toArray] <;> rfl
def qDJ(K:dN):V->ax Int->ax Int->Hp->VK->Prop:=fun x lo e H Q => ∃ a xs,x = .ref a/\jx K H a xs/\∀ p,H p=none->Q (.ref p) (upd H p (.lst (Ld xs lo e)))
def Yi:VR X (qDJ X.K):=by
 intro _ s σ H x v _ _ lo e _ Q I f hs pl p h;obtain⟨a,xs,rfl,c,q⟩:=h
 cases f
 obtain⟨_,r,g,z⟩:=I.list c;have n:=r.length;refine⟨"list",_,slot_list_getitem.lookup,g.isList.typeIs,?_⟩;refine wpAny_getItem_list_slice g.isList hs pl p .none (by simp) ?_ (by rw[List.size_toArray] <;> lia);rw[Hs,<-n];refine⟨.ref s.heap.objs.size,_,I.laid (t':=s.toks) (o:=.lst (Ld xs lo e)) (fun b _ q=>tO _ q) (jC _) ?_,rfl,q _ (I.hok.fresh (jC _))⟩;exact⟨br (Cy xs lo e) z,_,0,(r.drop (HT.iy xs.length 0 lo)).take (HT.iy xs.length xs.length e-HT.iy xs.length 0 lo),Ab _ rfl⟩
def uT:V->Bool
 | .non=>true
 | .bl _=>true
 | .int _=>true
 | .str _=>true
 | _=>false
def Zb:V->V->Bool
 | .non,.non=>true
 | .bl a,.bl b=>a==b
 | .bl a,.int b=>(if a then 1 else 0)==b
 | .int a,.bl b=>a==(if b then 1 else 0)
 | .int a,.int b=>a==b
 | .str a,.str b=>a==b
 | _,_=>false
theorem HB(R:RelV y u)(f:RelV x v)(c:uT y=true)(F:uT x=true):SeqAt.EqAt A s u v (Zb y x):=by
 cases y with
 | non=>
  cases R
  cases x with
  | non=>cases f;exact SeqAt.EqAt.same _
  | bl b=>cases f;exact SeqAt.EqAt.none_bool b
  | int b=>obtain⟨t,rfl⟩:=f;exact SeqAt.EqAt.none_int b t
  | str b=>obtain⟨t,rfl⟩:=f;exact SeqAt.EqAt.none_str b t
  | _=>exact d6 (show false=true from F) xf
 | bl a=>
  cases R
  cases x with
  | non=>cases f;exact SeqAt.EqAt.bool_none a
  | bl b=>cases f;exact SeqAt.EqAt.bool_bool a b
  | int b=>obtain⟨t,rfl⟩:=f;exact SeqAt.EqAt.bool_int a b t
  | str b=>obtain⟨t,rfl⟩:=f;exact SeqAt.EqAt.bool_str a b t
  | _=>exact d6 (show false=true from F) xf
 | int a=>
  obtain⟨t',rfl⟩:=R
  cases x with
  | non=>cases f;exact SeqAt.EqAt.int_none a t'
  | bl b=>cases f;exact SeqAt.EqAt.int_bool a t' b
  | int b=>obtain⟨t,rfl⟩:=f;exact SeqAt.EqAt.int_int a t' b t
  | str b=>obtain⟨t,rfl⟩:=f;exact SeqAt.EqAt.int_str a t' b t
  | _=>exact d6 (show false=true from F) xf
 | str a=>
  obtain⟨t',rfl⟩:=R
  cases x with
  | non=>cases f;exact SeqAt.EqAt.str_none a t'
  | bl b=>cases f;exact SeqAt.EqAt.str_bool a t' b
  | int b=>obtain⟨t,rfl⟩:=f;exact SeqAt.EqAt.str_int a t' b t
  | str b=>obtain⟨t,rfl⟩:=f;exact SeqAt.EqAt.str_str a t' b t
  | _=>exact d6 (show false=true from F) xf
 | _=>exact d6 (show false=true from c) xf
def R4(x:V)(u:av):Bool:=match u with
 | .none=>Zb .non x
 | .bool b=>Zb (.bl b) x
 | .int i _=>Zb (.int i) x
 | .str z _=>Zb (.str z) x
 | _=>false
theorem XS(r:RelV y u)(f:uT y=true):R4 x u=Zb y x:=by
 cases y with
 | non=>cases r;rfl
 | bl b=>cases r;rfl
 | int i=>obtain⟨t,rfl⟩:=r;rfl
 | str z=>obtain⟨t,rfl⟩:=r;rfl
 | _=>exact d6 (show false=true from f) xf
theorem zm:∀ {xs:aw V} {us:aw av},Vals xs us->xs.all uT=true->us.any (R4 x)=xs.any fun y=>Zb y x
 | _,_,.nil,_=>rfl
 | y::xs,u::us,.cons r t,f=>by
  rw[eB,dv]at f;rw[eD,eD,XS r f.1,zm t f.2]
theorem ux(R:RelV x v)(F:uT x=true):∀ {xs:aw V} {us:aw av},Vals xs us->xs.all uT=true->∀ u∈us,SeqAt.EqAt A s u v (R4 x u)
 | _,_,.nil,_=>fun u h=>by cases h
 | y::xs,u::us,.cons r t,f=>fun U h=>by
  rw[eB,dv]at f;rcases jL.mp h with rfl | h
  .rw[XS r f.1];exact HB r R f.1 F
  .exact ux R F t f.2 U h
def inV(x:V)(xs:aw V):Bool:=xs.any fun y=>Zb y x
def rIn(K:dN)(neg:Bool):R2:=fun x y H Q => ∃ p xs,y = .ref p/\(jx K H p xs∨tH K H p xs)/\uT x=true/\xs.all uT=true/\Q (.bl (if neg then !inV x xs else inV x xs)) H
def vU:o6 X (compareOp .In) (rIn X.K false):=by
 ext i;obtain⟨p,_,rfl,a,F,fs,q⟩:=h
 cases R
 rcases a with a | a
 .obtain⟨i,r,pl,b⟩:=I.list a;refine SeqAt.in_listAt (R4 x) pl.isList (fun w c=>ux f F r fs w (by simpa using c)) ⟨.bl _,H,I,rfl,?_⟩;rw[show i.toArray.any (R4 x)=i.any (R4 x) by simp,zm r fs];exact q
 .obtain⟨i,r,pl,b⟩:=I.tuple a;refine SeqAt.in_tupleAt (R4 x) pl (fun w c=>ux f F r fs w (by simpa using c)) ⟨.bl _,H,I,rfl,?_⟩;rw[show i.toArray.any (R4 x)=i.any (R4 x) by simp,zm r fs];exact q
def K5:o6 X (compareOp .NotIn) (rIn X.K true):=by
 ext i;obtain⟨p,_,rfl,a,F,fs,q⟩:=h
 cases R
 rcases a with a | a
 .obtain⟨i,r,pl,b⟩:=I.list a;refine SeqAt.notIn_listAt (R4 x) pl.isList (fun w c=>ux f F r fs w (by simpa using c)) ⟨.bl _,H,I,rfl,?_⟩;rw[show i.toArray.any (R4 x)=i.any (R4 x) by simp,zm r fs];exact q
 .obtain⟨i,r,pl,b⟩:=I.tuple a;refine SeqAt.notIn_tupleAt (R4 x) pl (fun w c=>ux f F r fs w (by simpa using c)) ⟨.bl _,H,I,rfl,?_⟩;rw[show i.toArray.any (R4 x)=i.any (R4 x) by simp,zm r fs];exact q
def K4:o6 X (compareOp .NotIn) (fun x y H Q => ∃ i j,x = .str i/\y = .str j/\Q (.bl (!(!(Builtin.Str.occurrences j i 0 j.length 1).isEmpty))) H):=by intro _ s σ H x y v u Q I f R h;obtain⟨i,j,rfl,rfl,q⟩:=h;obtain⟨t,rfl⟩:=f;obtain⟨_,rfl⟩:=R;exact notIn_str ⟨.bl _,H,I,rfl,q⟩
def zO:nP X (.builtin "len") (fun xs H Q => ∃ p ys,xs=[.ref p]/\(jx X.K H p ys∨tH X.K H p ys)/\Q (.int ys.length) H):=by
 ext aa;obtain⟨p,ys,rfl,a,q⟩:=h;obtain⟨u,rfl,f⟩:=vals1 r
 cases f
 have d:=BR;rcases a with a | a
 .obtain⟨i,R,pl,b⟩:=I.list a;have n:=R.length;exact Calls.call_len_list pl.isList (by simp only[List.size_toArray] <;> lia) ⟨.int ys.length,H,I.tok _,⟨s.toks+1,by rw[hI,n]⟩,q⟩
 .obtain⟨i,R,pl,b⟩:=I.tuple a;have n:=R.length;exact len_tuple pl (by simp only[List.size_toArray] <;> lia) ⟨.int ys.length,H,I.tok _,⟨s.toks+1,by rw[hI,n]⟩,q⟩
def Lf:nP X (.builtin "len") (fun xs H Q => ∃ z,xs=[.str z]/\z.length<=sizeLine/\Q (.int z.length) H):=by intro _ s σ H xs _ Q I r h;obtain⟨z,rfl,_,q⟩:=h;obtain⟨u,rfl,t,rfl⟩:=vals1 r;have d:=BR;exact len_str (by lia) ⟨.int z.length,H,I.tok _,⟨_,rfl⟩,q⟩
def zX:nP X (.type "tuple") (fun xs H Q => ∃ p ys,xs=[.ref p]/\((jx X.K H p ys/\∀ l,H l=none->Q (.ref l) (upd H l (.tup ys)))∨(tH X.K H p ys/\Q (.ref p) H))):=by
 intro P s σ H xs _ Q I r h;obtain⟨p,ys,rfl,h⟩:=h;obtain⟨u,rfl,f⟩:=vals1 r
 cases f
 rcases h with ⟨a,q⟩ | ⟨a,q⟩
 .obtain⟨i,R,pl,z⟩:=I.list a;have n:=R.length;refine call_tuple_list pl.isList (fun h' k=>?_) (by simp only[List.size_toArray] <;> lia);have c:Inv X P σ H { s with heap:=h' }:=I.kept (t':=s.toks) k
  have d:Inv X P σ (upd H h'.objs.size (.tup ys)) { s with heap:=h'.push { cls:=.type "tuple",data:=.seq i.toArray } }:=
   c.laid (t':=s.toks) (fun b o e=>tO _ e) (jC _) (show jm X.prog X.w _ _ _ (.tup ys) from ⟨z,i,R,IsTup.new _ _⟩)
  exact⟨.ref h'.objs.size,_,d,rfl,q _ (c.hok.fresh (jC _))⟩
 .obtain⟨i,R,pl,z⟩:=I.tuple a;exact call_tuple_same pl ⟨.ref p,H,I,rfl,q⟩
def tyV(K:dN)(T:String)(x:V)(H:Hp):Prop:=match x with
 | .str _=>T = "str"
 | .int _=>T = "int"
 | .ref p=>(T = "list" /\ ∃ xs,jx K H p xs)∨(T = "tuple" /\ ∃ o,K.lookup p=some o/\o.cls = .type "tuple" /\ o.dict=none) ∨
   (T = "dict" /\ ((∃ k,H p=some (.dK k)) ∨ ∃ k,H p=some (.dT k)))∨(T = "set" /\ ∃ S n,H p=some (.set S n))
 | _=>False
theorem qBF(I:Inv X pins σ H s)(r:RelV x v)(ty:tyV X.K T x H) :
  s.TypeIs v T/\∀ a,v = .ref a->∃ ob,s.heap.get? a=some ob/\ob.dict=none:=by
 cases x with
 | str z=>
  obtain⟨t,rfl⟩:=r
  cases (show T = "str" from ty)
  exact⟨typeIs_str s z t,fun _ e=>nomatch e⟩
 | int i=>
  obtain⟨t,rfl⟩:=r
  cases (show T = "int" from ty)
  exact⟨typeIs_int s i t,fun _ e=>nomatch e⟩
 | ref p=>
  cases r
  rcases ty with ⟨rfl,xs,q⟩ | ⟨rfl,o,k,f,hd⟩ | ⟨rfl,k⟩ | ⟨rfl,S,n,k⟩
  .obtain⟨_,_,pl,_⟩:=I.list q;refine⟨pl.isList.typeIs,fun a e=>?_⟩
   cases e
   obtain⟨o,n,e,c,hd,_⟩:=pl;exact⟨o,e,hd⟩
  .refine⟨⟨o,I.BX p o k,f⟩,fun a e=>?_⟩
   cases e
   exact⟨o,I.BX _ o k,hd⟩
  .have z:∃ o,s.heap.get? p=some o/\o.ExactDict:=by
    rcases k with ⟨b,k⟩ | ⟨b,k⟩
    .obtain⟨_,_,_,_,o,_,_,e,ex,_⟩:=I.hok p _ k;exact⟨o,e,ex⟩
    .obtain⟨_,_,_,_,o,_,_,e,ex,_⟩:=I.hok p _ k;exact⟨o,e,ex⟩
   obtain⟨o,e,ex⟩:=z;refine⟨⟨o,e,ex.1⟩,fun a E=>?_⟩
   cases E
   exact⟨o,e,ex.2.1⟩
  .obtain⟨o,_,_,_,e,ex,_⟩:=I.hok p _ k;refine⟨⟨o,e,ex.1⟩,fun a E=>?_⟩
   cases E
   exact⟨o,e,ex.2.1⟩
 | _=>exact c0 ty
def tBM(K:dN)(T:String)(r:V->aw V->Hp->VK->Prop)(o:TE)(t:TA):TE:=fun σ H Q=>o σ H fun x h=>tyV K T x h/\t σ h fun xs a=>r x xs a Q
variable{o e:Expr}{es:aw Expr}{to:TE}{t:TA}{name:Str}{apos cpos:Pos}{T id:String}{r:V->aw V->Hp->VK->Prop}
def fu(P:PlainAttrs T)(S:Slot T name id)(y:typeOf (.builtin id)=pure (.type "method_descriptor"))(z:MtR X id r)(l:PE X o to)(d:PA X (e::es) t)
  (a:attributeBase o name X.env (eval o X.env)=eval o X.env:=by rfl)
  (w:((backTo cpos (starEach (e::es) X.env)).all (fun x => !x.1)&&(backToKw cpos (keywordEach [] X.env)).all (fun x=>x.1.isSome)
   && decide ((e::es).length+([]:aw Keyword).length+(if ([]:aw Keyword).isEmpty then 0 else 1)<30))=true:=by rfl)
  (b:(apos.endLine==cpos.line)=true:=by rfl) (hs:starEach (e::es) X.env=(false,eval e X.env)::starEach es X.env:=by rfl) (n:(backTo cpos (starEach es X.env)).any (·.1)=false:=by rfl) :
  PE X (.Call (.Attribute o name apos) (e::es) [] cpos) (tBM X.K T r to t):=by intro p s σ H Q I h;refine wpAny_Call_method_late a w b rfl (iw (l p s σ H _ I h) fun v C ⟨x,m,i,R,ty,g⟩=>?_);obtain⟨f,u⟩:=qBF i R ty;refine⟨T,id,P,S,y,f,u,?_⟩;have A:=d cpos p C σ m _ i g;rw[hs]at A ⊢;refine Calls.callWith_builtin (by show (false||(backTo cpos (starEach es X.env)).any (·.1))=false;rw[n] <;> rfl) (Calls.evalArgs_plain ?_);exact iw A fun us B ⟨vs,j,c,k,q⟩=>z p B σ j x vs v us Q c R k q
end
def MtM(X:Cx)(id:String)(r:V->aw V->Hp->VK->Prop):Prop:=
 ∀(p:aw (ar×Obj))(s:ae)(σ:St)(H:Hp)(x:V)(xs:aw V)(v:av)(us:aw av)(Q:VK),Inv X p σ H s->RelV x v->Vals xs us->r x xs H Q →
  wpAny (model X.prog X.w) X.A (call (.builtin id) (v::us)) (EP X p σ Q) X.xe s
theorem Vals.one:∀ {x:V} {us:aw av},Vals [x] us->∃ u,us=[u]/\RelV x u
 | _,_,.cons r .nil=>⟨_,rfl,r⟩
theorem Vals.eraseIdx:∀ {xs:aw V} {us:aw av} (i:Nat),Vals xs us->Vals (xs.eraseIdx i) (us.eraseIdx i)
 | _,_,_,.nil=>.nil
 | _,_,0,.cons _ t=>t
 | _,_,i+1,.cons r t=>.cons r (Vals.eraseIdx i t)
theorem JF:∀(l:aw α)(i:Nat),(l.eraseIdx i).length<=l.length
 | [],_=>jC _
 | _::_,0=>i0 _
 | _::r,i+1=>iX (JF r i)
section
variable{X:Cx}{pins:aw (ar×Obj)}{σ:St}{H:Hp}{s:ae}{l b:ar}{xs ys zs:aw V}
def Inv.qE0{i its':aw av}{n:Nat}{f:Array av->Array av}{t':Nat}(I:Inv X pins σ H s)(d:H l=some (.lst xs))
  (e:s.heap.get? l=some { cls:=.type "list",data:=.seq i.toArray n }) (b:f i.toArray=its'.toArray) (h:Vals ys its') (z:ys.length<=sizeLine) :
  Inv X pins σ (upd H l (.lst ys)) { s with heap:=s.heap.update l (Obj.mapSeq f),toks:=t' }:=by have q:=PySem.IsL.update e f;rw[b]at q;refine I.write (x:=l) (e:=l) (by rw[d];exact trivial) (.inl rfl) (fun _ u c a=>(c6 s.heap (Obj.mapSeq f) (bE c)).trans a) ⟨_,q⟩ ?_;exact⟨z,its',_,h,q⟩
def Inv.qCB(I:Inv X pins σ H s)(h:Vals ys its)(b:ys.length<=sizeLine) :
  Inv X pins σ (upd H s.heap.objs.size (.lst ys)) { s with heap:=s.heap.push { cls:=.type "list",data:=.seq its.toArray },toks:=t' }:=
 I.laid (fun _ _ q=>tO _ q) (jC _) ⟨b,its,0,h,Ab _ rfl⟩
def Inv.fresh(I:Inv X pins σ H s):H s.heap.objs.size=none:=I.hok.fresh (jC _)
def Inv.Wt(I:Inv X pins σ H s)(d:H l=some (.lst xs)):xs.length<=sizeLine/\∃(i:aw av)(n:Nat),Vals xs i/\xs.length=i.length/\s.heap.get? l=some { cls:=.type "list",data:=.seq i.toArray n }:=by obtain⟨z,i,n,r,e⟩:=I.hok l _ d;exact⟨z,i,n,r,r.length,e⟩
end
section
variable{X:Cx}
inductive fQ(x:V)(vs:List V)(H:Hp)(Q:VK):Prop
 | mk (l xs y) (_:x = .ref l) (_:vs=[y]) (_:H l=some (.lst xs)) (_:xs.length<sizeLine) (_:Q .non (upd H l (.lst (xs++[y]))))
def yF:MtM X "list.append" fQ:=by
 intro _ s σ H x _ v _ Q I f R h;obtain⟨l,_,y,rfl,rfl,d,_,q⟩:=h
 cases f
 obtain⟨u,rfl,Y⟩:=R.one;obtain⟨z,i,n,r,_,e⟩:=I.Wt d;refine call_meets F.slot_list_append ⟨_,e,rfl⟩ F.entry_list_append (F.args_list_append_2 _ _) (PySem.list_append l i.toArray n u (by rw[w5];lia)) ⟨e,?_⟩;refine⟨.non,_,I.qE0 (its':=i++[u]) d e (by simp) (r.append (.cons Y .nil)) ?_,rfl,q⟩;rw[jB,qD1];lia
def qBO:V->aw V->Hp->VK->Prop:=fun x vs H Q => ∃ l xs i k y,x = .ref l/\vs=[.int i]/\H l=some (.lst xs) /\ -(2 ^ 63)<=i/\i<2 ^ 63/\seqIndex? i xs.length=some k/\xs[k]? = some y/\Q y (upd H l (.lst (xs.eraseIdx k)))
def Wh:MtM X "list.pop" qBO:=by
 intro _ s σ H x _ v _ Q I g b h;obtain⟨l,xs,i,k,y,rfl,rfl,d,m,o,f,T,q⟩:=h
 cases g
 obtain⟨u,rfl,Y⟩:=b.one;obtain⟨t,rfl⟩:=Y;obtain⟨z,a,n,r,j,e⟩:=I.Wt d;obtain⟨w,c,R⟩:=r.get T;refine call_meets F.slot_list_pop ⟨_,e,rfl⟩ F.entry_list_pop (F.args_list_pop_2 _ _)
  (MeetsSeq.list_pop_at l a.toArray n i t k w (fitsIndex_both m o) (by rw[w5,<-j];exact f) (by rw[<-dk];exact c) (by rw[w5];lia)) ⟨e,?_⟩
 refine⟨y,_,I.qE0 (its':=a.eraseIdx k) d e ?_ (r.eraseIdx k) ?_,R,q⟩
 .show a.toArray.eraseIdxIfInBounds k=(a.eraseIdx k).toArray;rw[List.eraseIdxIfInBounds_toArray]
 .have:=JF xs k;lia
def qDO:R2:=fun x y H Q => ∃ l b xs z,x = .ref l/\y = .ref b/\H l=some (.lst xs)/\H b=some (.lst z)/\xs.length+z.length<=sizeLine/\∀ p,H p=none->Q (.ref p) (upd H p (.lst (xs++z)))
def qBW:o6 X (binaryOp .Add) qDO:=by
 ext i;obtain⟨l,b,_,_,rfl,rfl,d,B,_,q⟩:=h
 cases f
 cases R
 obtain⟨z,a,n,r,_,e⟩:=I.Wt d;obtain⟨_,i,_,g,_,c⟩:=I.Wt B;refine PySem.P.add_list e c ?_ (by rw[w5,w5];lia)
 have E:a.toArray++i.toArray=(a++i).toArray:=by simp
 rw[E];exact⟨.ref _,_,I.qCB (t':=s.toks) (r.append g) (by rw[jB];lia),rfl,q _ I.fresh⟩
end
section
variable{prog:ag}{w:ay}{A:ah}{E:av->ae->Prop}{s:ae}
end
section
variable{X:Cx}
end
end L2
namespace Att
open PySem PySem.W PySem.Calls PyProof.Rows
theorem Di:∀(ns:aw Int)(vs:aw av),WellAll P h vs (ns.map WData.int)->IntsAre vs ns:=by
 intro ns
 induction ns with
 | nil=>
  intro vs w;rw[List.map_nil]at w
  cases w
  exact .nil
 | cons n ns I=>
  intro vs w;rw[bt]at w
  cases w with
  | cons a b=>
   cases a
   exact .cons _ _ (I _ b)
theorem Tj{l:OpenLaw}{n:Nat}(j:l.most=some n){P:Params}{h:Heap}{args:aw WData}{v:aw av}
  (H:l.row.toRowW.claim.pre args=true) (f:WellAll P h v args) :
  ∃ a vs ns,v=[Value.ref a]/\args=[WData.list (ns.map WData.int)]/\h.get? a=some { cls:=.type "list",data:=.seq vs.toArray }/\IntsAre vs ns/\ns.length<=n:=by
 have g:WShape.hasAll [] args [.list .int]=true:=(pre_splitW H).1;have i:l.pre.holds [] { args:=args }=true:=(pre_splitW H).2;obtain⟨d,r,rfl,o,s⟩:=hasAllW_cons g;obtain rfl:=hasAllW_nil s;obtain⟨_,rfl,k⟩:=hasW_list o;obtain⟨ns,rfl⟩:=items_int k
 have b:ns.length<=n:=by
  unfold OpenLaw.pre at i
  have e:(WTm.not (.lt (.lit (.int (n:Int))) (.len (.arg 0)))).holds [] { args:=[.list (ns.map .int)] }=true:=by
   have e:=(holds_andW i).1;rw[j]at e;exact e
  have m:=condW_of e (w_not (w_lt w_lit (w_len_list (w_arg rfl))));rw[fH]at m;refine Nat.le_of_not_lt fun q=>?_
  have Q:(n:Int)<((ns.length:Nat):Int):=by lia
  first
   | (rw[bq Q]at m;exact d6 m (by decide))
   | (simp at m;lia)
 cases f with
 | cons w W=>
  cases W
  cases w with
  | list p c=>exact⟨_,_,ns,rfl,rfl,p,Di ns _ c,b⟩
def Tu(l:OpenLaw)(args:aw WData):l.row.toRowW.claim.post args (.bool true) args=true:=
 postW_of (r:=l.row.toRowW) (X:=(true==true))
  (show WShape.has [] (.bool true) .bool=true by first | rfl | decide | simp [WShape.has,WShape.arms,WShape.armsAll])
  (show (WTm.eq .res (.lit (.bool true))).value [] { args:=args,res:=some (.bool true),after:=args }=some (.bool (true==true)) from w_eq_bool (w_res rfl) w_lit) rfl
def Ov{l:OpenLaw}{n:Nat}{q:ag}{L:aw Str}{XP:(Str->ax av)->Heap->Prop}{y:ay->Heap->Prop}{d:DefRec}
  (x:l.most=some n) (i:d.params.defaults=[])
  (call:∀(w:ay)(S s:ae)(m M:Str->ax av)(F:ar)(o:Obj)(p cd D:av)(a:ar)(vs:aw av)(ns:aw Int),
   Ground q L [] XP w S m M s.heap->y w s.heap →
   s.heap.get? F=some o->o.data = .func (docDef d.name d.params d.body d.scope p cd D)->s.heap.CodeRec cd d.name->m d.name=some (.ref F) →
   s.heap.get? a=some { cls:=.type "list",data:=.seq vs.toArray }->IntsAre vs ns->ns.length<=n->s.gens = #[] →
   codeAny (model l.prog w) callerA (.call (.ref F) ⟨[.ref a],[]⟩) (fun r s'=>r = .ok (.ret (.bool true))/\OldK s.heap s'.heap/\s'.os=s.os/\AllBare s'.gens) s) :
  WalkO q L XP y l.row.toRowW d [] (fun f vs=>PySem.call f vs):=by intro w S s m M G Y F o p cd D U kV v hd c k g Q _ _ _ e _ _ j _;obtain rfl:U = .none:=Dflts.none k i;obtain rfl:kV = .none:=Dflts.noKw k;obtain⟨a,vs,ns,rfl,rfl,H,h,b⟩:=Tj x e j;refine enter_call (codeAny_mono (call w S s m M F o p cd D a vs ns G Y v (fd_plain hd) c g H h b Q) fun r s' u=>?_);obtain⟨rfl,z,A,t⟩:=u;exact⟨.inl ⟨.bool true,.bool true,[],rfl,fun _=>rfl,.bool true,Tu l _,fun _=>⟨List.Pairwise.nil,fun _ B=>(nomatch B)⟩⟩,z,A,t⟩
section
variable{prog:ag}{w:ay}{A:ah}{E:av->ae->Prop}{s:ae}{K:Frag}
end
end Att
namespace L2
open PySem PySem.Spec PyProof.Rows
theorem Iv:∀ {vs:aw av} {ns:aw Int},IntsAre vs ns->Vals (ns.map V.int) vs
 | _,_,.nil=>.nil
 | _,_,.cons n t h=>.cons ⟨t,rfl⟩ (Iv h)
def Only(H:Hp):Prop:=∀ b,H b=none ∨ ∃ o xs,H b=some (.Qy o (.lst xs))
theorem law_call{P:ag}{w:ay}{K:dN}{M I:Str->ax av}{CX:Pr}{k:Nat}{G a:ar}{O:af}{x:Str}{sp:Sp}{S:ae}{vs:aw av}{ns:aw Int}
  (W:K.In S.heap) (g:S.heap.Ns mainGlobals M) (c:S.heap.Ns builtinsNs I) (y:∀ x:Str,x ≠ "__name__" -> I x=bootBuiltins x) (i:S.heap.NoLimit) (hg:S.gens = #[])
  (t:S.heap.get? a=some { cls:=.type "list",data:=.seq vs.toArray }) (U:IntsAre vs ns) (L:ns.length<=sizeLine) (hr:mV k callerA)
  (F:∀ B:Heap,K.In B->B.Ns mainGlobals M->cM P w K M B CX k G O [x] sp) (f:∀(s:ae)(u:av),BindsTo s O ⟨[u],[]⟩ [(x,u)])
  (A:∀ H:Hp,Only H->jx K H a (ns.map V.int)->sp [.ref a] H (fun v _=>v = .bl true) fun _ _ _=>False)
  (X:∀ H e s',CX [] H S (fun _ _ _=>False) e s'->False) :
  codeAny (model P w) callerA (.call (.ref G) ⟨[.ref a],[]⟩) (fun r s'=>r = .ok (.ret (.bool true))/\OldK S.heap s'.heap/\s'.os=S.os/\AllBare s'.gens) S:=by
 have R:=Iv U;have l:=U.length;have C:∀ H:Hp,Only H->jx K H a (ns.map V.int)->zr P w H S.heap->(∀ b,H b≠none->b=a)->(H a≠none->K.lookup a=none) →
   codeAny (model P w) callerA (.call (.ref G) ⟨[.ref a],[]⟩) (fun r s'=>r = .ok (.ret (.bool true))/\OldK S.heap s'.heap/\s'.os=S.os/\AllBare s'.gens) S:=by
  intro H Y hS hok Q hK;have T:∀ {b:ar} {o:Obj},S.heap.get? b=some o->H b=none->(Kv S.heap H).get? b=some o:=fun e n=>X7 e n
  have D:∀ {b:ar} {o:Obj} {es:Array DictEntry} {ep:Nat},S.heap.get? b=some o->o.data = .dict es ep->H b=none:=fun {b o es ep} e d=>by
   cases q:H b with
   | none=>rfl
   | some u=>
    have E:b=a:=Q b (by rw[q];simp);subst E;rw[t]at e;cases e;have d':Data.seq vs.toArray _=Data.dict es ep:=d
    cases d'
  have N:∀ {b:ar} {m:Str->ax av},S.heap.Ns b m->(Kv S.heap H).Ns b m:=fun {b m} ⟨o,es,ep,e,d,r⟩=>⟨o,es,ep,T e (D e d),d,r⟩
  have p:K.In (Kv S.heap H):=fun b o e=>T (W b o e) (by
   cases q:H b with
   | none=>rfl
   | some u=>
    have E:b=a:=Q b (by rw[q];simp);subst E
    rw[hK (by rw[q];simp)]at e;cases e)
  have hM:Mod K M (Kv S.heap H):=⟨p,N g,⟨I,N c,y⟩,let ⟨mc,h1,h2⟩:=i;⟨mc,N h1,h2⟩⟩;have e0:RL P w K M (Kv S.heap H) callerA [] S H:=⟨rfl,hM,fun b o e=>Z3 e,Nat.le_of_eq (Ul _ _),trivial,fun b c=>absurd (show b∈([]:aw ar) from c) (by simp),hok,.of_eq hg⟩;refine codeAny_mono ((F _ p (N g)).run callerA [] S H ⟨[.ref a],[]⟩ [.ref a] [.ref a] _ _ hr e0 (f S (.ref a)) (.cons rfl .nil) (A H Y hS)) fun r s' h=>?_
  cases r with
  | error e=>exact (X H e s' h).elim
  | ok fl=>
   cases fl with
   | next=>exact c0 h
   | brk=>exact c0 h
   | cont=>exact c0 h
   | ret u=>
    obtain⟨v,_,os,bare,un,j,r',q⟩:=h;have q':v = .bl true:=q;subst q';obtain rfl:u=Value.bool true:=r';refine⟨rfl,OldK.of_keep fun b o e=>?_,os,bare⟩
    cases q:H b with
    | none=>exact un.keep b o e q (by intro z;exact absurd (show b∈([]:aw ar) from z) (by simp)) (by simp)
    | some u=>
     rcases Y b with z | ⟨ob,xs,z⟩
     .rw[q]at z;cases z
     .have z2:=un.Ig b ob _ z;obtain⟨J,_⟩:=hok b _ z;obtain⟨e2,_⟩:=j b _ z2;rw[e]at J;cases J;exact e2
 cases hk:K.lookup a with
 | some o=>
  have e:=W a o hk;rw[t]at e
  cases e
  refine C (fun _=>none) (fun _=>.inl rfl) (.inr ⟨_,vs.toArray,_,hk,rfl,rfl,rfl,by rw[hI,l];exact L,by simpa using R⟩) (fun b u z=>by have Z:(none:ax HO)=some u:=z;cases Z) (fun b z=>d6 rfl z) fun z=>d6 rfl z
 | none=>
  refine C (fun b=>if b=a then some (.Qy { cls:=.type "list",data:=.seq vs.toArray } (.lst (ns.map V.int))) else none) (fun b=>?_) (.inl (.inr ⟨{ cls:=.type "list",data:=.seq vs.toArray },cq rfl⟩)) (fun b u z=>?_) (fun b z=>?_) fun _=>hk
  .by_cases c:b=a
   .exact .inr ⟨_,_,cq c⟩
   .exact .inl (cn c)
  .by_cases c:b=a
   .have Z:=(cq c).symm.trans z
    cases Z
    subst c;exact⟨t,by rw[fH];exact L,vs,_,R,t⟩
   .have Z:=(cn c).symm.trans z
    cases Z
  .by_cases c:b=a
   .exact c
   .exact d6 (cn c) z
def Yc{l:PySem.W.OpenLaw}{n k:Nat}{q:ag}{L:aw Str}{XP:(Str->ax av)->Heap->Prop}{P:ay->Heap->Prop}{d:DefRec}{K:Params->dN}{CX:ay->Pr}{sp:ay->Sp}{x:Str}
  (C:l.most=some n) (r:n<=sizeLine) (y:d.params.defaults=[]) (hr:mV k callerA)
  (E:∀(w:ay)(h:Heap),P w h->(K w.params).In h)
  (F:∀(w:ay)(m:Str->ax av)(i:ar)(h:Heap),(K w.params).In h->h.Ns mainGlobals m->m d.name=some (.ref i) →
   ∃ p:af,(∀(s:ae)(u:av),BindsTo s p ⟨[u],[]⟩ [(x,u)]) ∧
    ∀ b:Heap,(K w.params).In b->b.Ns mainGlobals m->cM l.prog w (K w.params) m b (CX w) k i p [x] (sp w))
  (z:∀(w:ay)(H:Hp)(a:ar)(ns:aw Int),ns.length<=n->Only H->jx (K w.params) H a (ns.map V.int)->sp w [.ref a] H (fun v _=>v = .bl true) fun _ _ _=>False)
  (X:∀(w:ay)(H:Hp)(s:ae)(e:av)(s':ae),CX w [] H s (fun _ _ _=>False) e s'->False) :
  PySem.W.WalkO q L XP P l.row.toRowW d [] (fun f vs=>PySem.call f vs):=by refine Att.Ov C y fun w _ S m _ i o _ _ _ a vs ns G Y _ _ _ t j g c Q=>?_;have A:=E w _ Y;obtain⟨p,B,D⟩:=F w m i _ A G.T.g t;exact law_call A G.T.g G.T.b G.T.builtins G.T.nolimit Q j g (br c r) hr D B (fun H O I=>z w H a ns c O I) fun H e s'=>X w H S e s'
abbrev bZ:Pr:=fun _ _ _ _ _ _=>False
abbrev E0:XK:=fun _ _ _=>False
def yC:Passes bZ X E0:=fun _ _ _ _ _ _ _ h=>h.elim
structure iU(K:dN)(x qual:Str)(st:Stmt)(f:Addr)(fd:FuncData):Prop where
 ex:∃(oc:Value)(od:Option Addr)(kV doc pm:Value)(an:Option Addr)(cdv ct:Value)(osl:Array (Option Value)),
  fd=PySem.W.fnOf x qual (vY st) (oX st) (aV st) .none kV doc pm an cdv ct/\K.lookup f=some ⟨oc,od,.func fd,osl⟩/\PySem.W.codeIn K cdv qual=true
 kp:KI K f
section
variable{P:ag}{w:ay}{K:dN}{mg:Str->ax av}{base:Heap}
def iU.ok{x l:Str}{st:Stmt}{f:ar}{a:af}{N ps:aw Str}{k:Nat}{sp:Sp}(F:iU K x l st f a)(S:au N ps (aV st))(len:∀ vs H Q E,sp vs H Q E->vs.length=ps.length)
  (j:∀(c:av)(A:ah)(o:aw Env)(s:ae)(H:Hp)(vs:aw V)(Q:VK)(E:XK),mV k (A.deeper (envOfC l (aV st) s.heap.objs.size f c))->sp vs H Q E →
   ∃ t,Pq (Oj bZ P w K mg base N l (aV st) f c A o s H E).nox (oX st) t/\t { nx:=fun _ b=>Q .non b,rt:=Q } (start N vs) H):cM P w K mg base bZ (k+1) f a ps sp:=by obtain⟨_,_,_,_,_,_,c,_,_,rfl,L,d⟩:=F.ex;refine qEF L d S len fun A o s H vs Q E hr z=>?_;obtain⟨t,h,q⟩:=j c A o s H vs Q E hr z;exact⟨t,h.nox,q⟩
def iU.binds{x q:Str}{st:Stmt}{f:ar}{d:af}{ps:aw Str}(F:iU K x q st f d)
  (h:∀(kV D p:av)(G:ax ar)(c ct:av)(us:aw av),us.length=ps.length->bindArgs (PySem.W.fnOf x q (vY st) (oX st) (aV st) .none kV D p G c ct) ⟨us,[]⟩=pure (ps.zip us)):Binds K d ps []:=by obtain⟨_,_,kV,D,p,G,c,ct,_,rfl,_,_⟩:=F.ex;exact .all (h kV D p G c ct)
def qCN{x q:Str}{st:Stmt}{f:ar}{Z:av}{O G:ax ar}{o:Array (ax av)}{kV D p C ct:av}(l:K.lookup f=some ⟨Z,O,.func (PySem.W.fnOf x q (vY st) (oX st) (aV st) .none kV D p G C ct),o⟩)
  (c:PySem.W.codeIn K C q=true) (k:KI K f):iU K x q st f (PySem.W.fnOf x q (vY st) (oX st) (aV st) .none kV D p G C ct):=⟨⟨Z,O,kV,D,p,G,C,ct,o,rfl,l,c⟩,k⟩
end
def zV(h:n<=1000):n<sizeLine:=Nat.lt_of_le_of_lt h (by decide)
section
variable{X:Cx}
def pv(i:Nat)(h:X.N[i]? = some x:=by rfl)(H:Vis X.env.scope x:=by first | exact aT rfl | exact Or.inr (aT rfl) | exact Or.inr (Or.inr rfl))(hd:(x==("__debug__" : Str))=false:=by decide)
  (d:(x==("__classdict__" : Str))=false:=by decide):PE X (.Name x pos) (Jk i):=qBS h H hd d
end
def bD(H h:Hp):Prop:=∀ b o,H b=some o->h b=some o
def bD.refl(H:Hp):bD H H:=fun _ _ h=>h
def bD.trans(a:bD H H1)(b:bD H1 H2):bD H H2:=fun c o h=>b c o (a c o h)
theorem bD.free(e:bD H H')(h:H' l=Option.none):H l=Option.none:=by
 cases q:H l with
 | none=>rfl
 | some o=>
  rw[e l o q]at h
  cases h
def bD.seq{K:dN}{H b:Hp}{a:ar}{xs:aw V}(e:bD H b)(h:jx K H a xs):jx K b a xs:=by
 rcases h with (h | ⟨o,h⟩) | h
 .exact .inl (.inl (e _ _ h))
 .exact .inl (.inr ⟨o,e _ _ h⟩)
 .exact .inr h
end L2
namespace L2
def sq_{t u:TS}{N B C:St->Hp->Prop}{R:VK}{σ:St}{H:Hp}(h:∀ X:St->Hp->Prop,(∀ {σ H},u ⟨N,R,B,C⟩ σ H->X σ H)->t ⟨X,R,B,C⟩ σ H):Vi t u ⟨N,R,B,C⟩ σ H:=h _ fun z=>z
def lq_{t u:TS}{N B:St->Hp->Prop}{R:VK}{σ:St}{H:Hp}(h:∀ Y:St->Hp->Prop,(∀ {σ H},N σ H->Y σ H)->∀ X:St->Hp->Prop,(∀ {σ H},u ⟨Y,R,B,Y⟩ σ H->X σ H)->t ⟨X,R,B,Y⟩ σ H):Vi t u ⟨N,R,B,N⟩ σ H:=h _ (fun z=>z) _ fun z=>z
def ex2{α β:Sort _}{P:α->β->Prop} (a b) (h:P a b):∃ a b,P a b:=⟨a,b,h⟩
def ex3{α β γ:Sort _}{P:α->β->γ->Prop} (a b c) (h:P a b c):∃ a b c,P a b c:=⟨a,b,c,h⟩
def ex4{α β γ δ:Sort _}{P:α->β->γ->δ->Prop} (a b c d) (h:P a b c d):∃ a b c d,P a b c d:=⟨a,b,c,d,h⟩
def ex6{α β γ δ ε ζ:Sort _}{P:α->β->γ->δ->ε->ζ->Prop} (a b c d e f) (h:P a b c d e f):∃ a b c d e f,P a b c d e f:=⟨a,b,c,d,e,f,h⟩
end L2
namespace zq
open PySem L2 YW
theorem len0{P:aw av->Prop}(h:P [])(xs:aw av)(e:xs.length=0):P xs:=by
 cases xs with
 | nil=>exact h
 | cons a ys=>cases e
theorem Ue{n:Nat}{P:aw av->Prop}(h:∀ a (ys:aw av),ys.length=n->P (a::ys))(xs:aw av)(e:xs.length=n+1):P xs:=by
 cases xs with
 | nil=>cases e
 | cons a ys=>exact h a ys (Nat.succ.inj e)
def qI{P:aw av->Prop}(h:∀ a,P [a])(xs:aw av)(e:xs.length=1):P xs:=Ue (fun a=>len0 (h a)) xs e
def sJ{P:aw av->Prop}(h:∀ a b,P [a,b])(xs:aw av)(e:xs.length=2):P xs:=Ue (fun a=>qI (h a)) xs e
def yt{P:aw av->Prop}(h:∀ a b c,P [a,b,c])(xs:aw av)(e:xs.length=3):P xs:=Ue (fun a=>sJ (h a)) xs e
def Wu{P:aw av->Prop}(h:∀ a b c d,P [a,b,c,d])(xs:aw av)(e:xs.length=4):P xs:=Ue (fun a=>yt (h a)) xs e
def ZF{P:aw av->Prop}(h:∀ a b c d f,P [a,b,c,d,f])(xs:aw av)(e:xs.length=5):P xs:=Ue (fun a=>Wu (h a)) xs e
def qGP{P:aw av->Prop}(h:∀ a b c d f g,P [a,b,c,d,f,g])(xs:aw av)(e:xs.length=6):P xs:=Ue (fun a=>ZF (h a)) xs e
def hdef:PySem.W.defOf QV "law" = some (R9,[]):=by kernel_rfl
def hok:(PySem.W.chainsOk QV&&PySem.W.opensWell PW&&(PySem.W.frees PySem.Challenge.rw_nesthall_k44_charts_read_back.row.toRowW&&PySem.Challenge.rw_nesthall_k44_charts_read_back.row.within.isEmpty))=true:=by kernel_rfl
def hbare:PW.bare:=⟨rfl,rfl,rfl,rfl,rfl,by ext y⟩
def hkw:PySem.W.kwWritten? R9.params.kwonlyargs R9.params.kw_defaults=some []:=by kernel_rfl
def hthe:PW.theDef "law" = some (R9.params,R9.body,R9.scope):=by kernel_rfl
abbrev NS(x:Str)(a:ar):Prop:=∀ P:Params,PySem.W.nsIn (KO P) mainGlobals x=some (some (.ref a))
def ns_{x:Str}{a:ar}(h:NS x a:=by exact fun P=>by kernel_rfl):NS x a:=h
abbrev NZ(x:Str):Prop:=∀ P:Params,PySem.W.nsIn (KO P) mainGlobals x=some none
abbrev FU(x q:Str)(st:Stmt)(a:ar)(d:af):Prop:=∀ P:Params,iU (KO P) x q st a d
def kj{x q:Str}{st:Stmt}{a:ar}{p cd:av}(h:∀ P:Params,(KO P).lookup a=some (jz (ju x q st p cd))/\PySem.W.codeIn (KO P) cd q=true/\PySem.W.keepIn (KO P) (.ref a)=true:=by exact fun _=>⟨by kernel_rfl,by kernel_rfl,by kernel_rfl⟩):FU x q st a (ju x q st p cd):=fun P=>qCN (h P).1 (h P).2.1 (h P).2.2
def a1:NS "is_number_of" 52:=ns_
def u1:FU "is_number_of" "is_number_of" lM 52 fd1:=kj
def a2:NS "is_in_reach" 59:=ns_
def u2:FU "is_in_reach" "is_in_reach" mX 59 fd2:=kj
def a3:NS "names_of" 64:=ns_
def u3:FU "names_of" "names_of" pH 64 fd3:=kj
def a4:NS "is_word" 43:=ns_
def u4:FU "is_word" "is_word" rZ 43 fd4:=kj
def a5:NS "name_has_fault" 71:=ns_
def u5:FU "name_has_fault" "name_has_fault" jR 71 fd5:=kj
def a6:NS "box_has_fault" 78:=ns_
def u6:FU "box_has_fault" "box_has_fault" jr 78 fd6:=kj
def a7:NS "depth_has_fault" 97:=ns_
def u7:FU "depth_has_fault" "depth_has_fault" j6 97 fd7:=kj
def a8:NS "keeps_has_fault" 104:=ns_
def u8:FU "keeps_has_fault" "keeps_has_fault" j5 104 fd8:=kj
def a9:NS "end_has_fault" 118:=ns_
def u9:FU "end_has_fault" "end_has_fault" jq 118 fd9:=kj
def a10:NS "deed_has_fault" 85:=ns_
def u10:FU "deed_has_fault" "deed_has_fault" jV 85 qFV:=kj
def a11:NS "deeds_have_fault" 90:=ns_
def u11:FU "deeds_have_fault" "deeds_have_fault" gC 90 qFU:=kj
def a12:NS "room_has_fault" 111:=ns_
def u12:FU "room_has_fault" "room_has_fault" jQ 111 qFT:=kj
def a13:NS "goal_has_fault" 130:=ns_
def u13:FU "goal_has_fault" "goal_has_fault" jT 130 qFS:=kj
def a14:NS "guards_within" 21:=ns_
def u14:FU "guards_within" "guards_within" jo 21 qFR:=kj
def a15:NS "height" 26:=ns_
def u15:FU "height" "height" ug 26 qFQ:=kj
def a16:NS "plain_guards" 33:=ns_
def u16:FU "plain_guards" "plain_guards" lK 33 qFP:=kj
def a17:NS "asked" 38:=ns_
def u17:FU "asked" "asked" vN 38 qFO:=kj
def a18:NS "guard_has_fault" 123:=ns_
def u18:FU "guard_has_fault" "guard_has_fault" eG 123 qFN:=kj
def a19:NS "door_has_fault" 137:=ns_
def u19:FU "door_has_fault" "door_has_fault" jU 137 qFM:=kj
def a20:NS "need" 207:=ns_
def u20:FU "need" "need" Js 207 qFL:=kj
def a21:NS "words_of" 214:=ns_
def u21:FU "words_of" "words_of" tV 214 qFK:=kj
def a22:NS "read_number" 186:=ns_
def u22:FU "read_number" "read_number" jg 186 qFJ:=kj
def a23:NS "head_told" 270:=ns_
def u23:FU "head_told" "head_told" qU 270 qFI:=kj
def a24:NS "marked" 291:=ns_
def u24:FU "marked" "marked" yS 291 qFH:=kj
def a25:NS "room_written" 298:=ns_
def u25:FU "room_written" "room_written" lJ 298 qFG:=kj
def a26:NS "kind_of" 263:=ns_
def u26:FU "kind_of" "kind_of" vL 263 qFF:=kj
def a27:NS "number_named" 221:=ns_
def u27:FU "number_named" "number_named" lL 221 qFE:=kj
def a28:NS "deed_of" 249:=ns_
def u28:FU "deed_of" "deed_of" vM 249 qFD:=kj
def a29:NS "with_guard" 319:=ns_
def u29:FU "with_guard" "with_guard" oJ 319 qFC:=kj
def a30:NS "with_deed" 326:=ns_
def u30:FU "with_deed" "with_deed" qO 326 qFB:=kj
def a31:NS "read_deed" 256:=ns_
def u31:FU "read_deed" "read_deed" qQ 256 qFA:=kj
def a32:NS "box_told" 277:=ns_
def u32:FU "box_told" "box_told" tX 277 qF9:=kj
def a33:NS "event_told" 284:=ns_
def u33:FU "event_told" "event_told" oN 284 qF8:=kj
def a34:NS "word_taken" 228:=ns_
def u34:FU "word_taken" "word_taken" oH 228 qF7:=kj
def a35:NS "guard_taken" 235:=ns_
def u35:FU "guard_taken" "guard_taken" ik 235 qF6:=kj
def a36:NS "read_guard" 242:=ns_
def u36:FU "read_guard" "read_guard" oK 242 qF5:=kj
def a37:NS "room_told" 305:=ns_
def u37:FU "room_told" "room_told" qP 305 qF4:=kj
def a38:NS "door_told" 312:=ns_
def u38:FU "door_told" "door_told" qW 312 qF3:=kj
def a39:NS "read" 382:=ns_
def u39:FU "read" "read" Jr 382 qF2:=kj
def a40:NS "_law_cell_at" 389:=ns_
def u40:FU "_law_cell_at" "_law_cell_at" Rh 389 qF1:=kj
def a41:NS "_law_mixed" 396:=ns_
def u41:FU "_law_mixed" "_law_mixed" Ju 396 qF0:=kj
def a42:NS "_law_word" 403:=ns_
def u42:FU "_law_word" "_law_word" yU 403 qEZ:=kj
def a43:NS "_law_name" 410:=ns_
def u43:FU "_law_name" "_law_name" yV 410 qEY:=kj
def a44:NS "_law_names" 417:=ns_
def u44:FU "_law_names" "_law_names" vO 417 qEX:=kj
def a45:NS "_law_deed" 424:=ns_
def u45:FU "_law_deed" "_law_deed" yW 424 qEW:=kj
def a46:NS "_law_deeds" 429:=ns_
def u46:FU "_law_deeds" "_law_deeds" sE 429 qEV:=kj
def a47:NS "_law_guard" 436:=ns_
def u47:FU "_law_guard" "_law_guard" oh 436 qEU:=kj
def a48:NS "_law_boxes" 443:=ns_
def u48:FU "_law_boxes" "_law_boxes" vQ 443 qET:=kj
def a49:NS "_law_rooms" 450:=ns_
def u49:FU "_law_rooms" "_law_rooms" Jt 450 qES:=kj
def a50:NS "_law_doors" 455:=ns_
def u50:FU "_law_doors" "_law_doors" rz 455 qER:=kj
def a51:NS "_law_chart" 462:=ns_
def u51:FU "_law_chart" "_law_chart" vP 462 qEQ:=kj
def a52:NS "_law_deed_row" 469:=ns_
def u52:FU "_law_deed_row" "_law_deed_row" oO 469 qEP:=kj
def a53:NS "_law_guard_row" 476:=ns_
def u53:FU "_law_guard_row" "_law_guard_row" ir 476 qEO:=kj
def a54:NS "_law_rows" 481:=ns_
def u54:FU "_law_rows" "_law_rows" pI 481 qEN:=kj
def a55:NS "_law_same" 488:=ns_
def u55:FU "_law_same" "_law_same" J0 488 qEM:=kj
def a56:NS "_law_one_name" 493:=ns_
def u56:FU "_law_one_name" "_law_one_name" lN 493 qEL:=kj
def a57:NS "law" 500:=ns_
def u57:FU "law" "law" CG 500 ZZ:=kj
def aM1(P:Params):PySem.W.findIn (KO P) (.ref 371) "__init__" = some (some (.ref 340)):=by kernel_rfl
def iM1(P:Params):PySem.W.isFn (KO P) (.ref 340)=true:=by kernel_rfl
def uM1:FU "__init__" "Draft.__init__" Rf 340 qEK:=kj
def aM2(P:Params):PySem.W.findIn (KO P) (.ref 371) "add" = some (some (.ref 347)):=by kernel_rfl
def iM2(P:Params):PySem.W.isFn (KO P) (.ref 347)=true:=by kernel_rfl
def uM2:FU "add" "Draft.add" Yl 347 qEJ:=kj
def aM3(P:Params):PySem.W.findIn (KO P) (.ref 371) "add_part" = some (some (.ref 354)):=by kernel_rfl
def iM3(P:Params):PySem.W.isFn (KO P) (.ref 354)=true:=by kernel_rfl
def uM3:FU "add_part" "Draft.add_part" oM 354 qEI:=kj
def aM4(P:Params):PySem.W.findIn (KO P) (.ref 371) "may_end" = some (some (.ref 361)):=by kernel_rfl
def iM4(P:Params):PySem.W.isFn (KO P) (.ref 361)=true:=by kernel_rfl
def uM4:FU "may_end" "Draft.may_end" qR 361 qEH:=kj
def aM5(P:Params):PySem.W.findIn (KO P) (.ref 371) "whole" = some (some (.ref 368)):=by kernel_rfl
def iM5(P:Params):PySem.W.isFn (KO P) (.ref 368)=true:=by kernel_rfl
def uM5:FU "whole" "Draft.whole" vK 368 qEG:=kj
def aC:NS "Draft" 371:=ns_
def clC(P:Params):Hk (KO P) 371:=⟨by kernel_rfl,by kernel_rfl,by kernel_rfl,by kernel_rfl⟩
def mkC(P:Params):PySem.W.makesIn (KO P) 371=true/\PySem.W.keepIn (KO P) (.ref 371)=true:=⟨by kernel_rfl,by kernel_rfl⟩
def WY(P:Params):PySem.W.findIn (KO P) (.ref 371) "last" = some none:=by kernel_rfl
def U8(P:Params):PySem.W.findIn (KO P) (.ref 371) "heads" = some none:=by kernel_rfl
def UG(P:Params):PySem.W.findIn (KO P) (.ref 371) "boxes" = some none:=by kernel_rfl
def Ql(P:Params):PySem.W.findIn (KO P) (.ref 371) "events" = some none:=by kernel_rfl
def U7(P:Params):PySem.W.findIn (KO P) (.ref 371) "rooms" = some none:=by kernel_rfl
def U9(P:Params):PySem.W.findIn (KO P) (.ref 371) "doors" = some none:=by kernel_rfl
def z1:NZ "all" := fun P=>by kernel_rfl
def z2:NZ "any" := fun P=>by kernel_rfl
def z3:NZ "bool" := fun P=>by kernel_rfl
def z4:NZ "enumerate" := fun P=>by kernel_rfl
def z5:NZ "int" := fun P=>by kernel_rfl
def z6:NZ "isinstance" := fun P=>by kernel_rfl
def z7:NZ "len" := fun P=>by kernel_rfl
def z8:NZ "max" := fun P=>by kernel_rfl
def z9:NZ "min" := fun P=>by kernel_rfl
def z10:NZ "range" := fun P=>by kernel_rfl
def z11:NZ "set" := fun P=>by kernel_rfl
def z12:NZ "sorted" := fun P=>by kernel_rfl
def z13:NZ "str" := fun P=>by kernel_rfl
def z14:NZ "tuple" := fun P=>by kernel_rfl
def v1(P:Params):PySem.W.nsIn (KO P) mainGlobals "GREATEST" = some (some (.int (1000000000000000000000000000000) 257)):=by kernel_rfl
def v2(P:Params):PySem.W.nsIn (KO P) mainGlobals "LONGEST" = some (some (.int (12) 222)):=by kernel_rfl
def v3(P:Params):PySem.W.nsIn (KO P) mainGlobals "SMALL_LETTERS" = some (some (.str "abcdefghijklmnopqrstuvwxyz" 220)):=by kernel_rfl
def v4(P:Params):PySem.W.nsIn (KO P) mainGlobals "DEEPEST" = some (some (.int (12) 253)):=by kernel_rfl
def v5(P:Params):PySem.W.nsIn (KO P) mainGlobals "MOST_DEEDS" = some (some (.int (8) 251)):=by kernel_rfl
def v6:NS "KINDS" 45:=ns_
def v7(P:Params):PySem.W.nsIn (KO P) mainGlobals "HIGHEST" = some (some (.int (6) 255)):=by kernel_rfl
def v8(P:Params):PySem.W.nsIn (KO P) mainGlobals "FIGURES" = some (some (.str "0123456789" 440)):=by kernel_rfl
def v9(P:Params):PySem.W.nsIn (KO P) mainGlobals "MOST_LETTERS" = some (some (.int (12) 239)):=by kernel_rfl
def v10(P:Params):PySem.W.nsIn (KO P) mainGlobals "MOST_TURNS" = some (some (.int (20) 241)):=by kernel_rfl
def v11:NS "ORDERS" 44:=ns_
def v12(P:Params):PySem.W.nsIn (KO P) mainGlobals "MOST_EVENTS" = some (some (.int (8) 245)):=by kernel_rfl
def v13(P:Params):PySem.W.nsIn (KO P) mainGlobals "MOST_ROOMS" = some (some (.int (40) 247)):=by kernel_rfl
def v14(P:Params):PySem.W.nsIn (KO P) mainGlobals "MOST_DOORS" = some (some (.int (60) 249)):=by kernel_rfl
def v15(P:Params):PySem.W.nsIn (KO P) mainGlobals "MOST_BOXES" = some (some (.int (6) 243)):=by kernel_rfl
def v16:NS "BEHIND" 187:=ns_
def v17:NS "DEED_PLACES" 200:=ns_
end zq
namespace L2
open PySem PySem.Spec PyProof.Rows
def zr.adopt(x:zr P w H h)(d:H a=none)(n:jm P w (upd H a o) h a o):zr P w (upd H a o) h:=fun b u e=>by
 by_cases f:b=a
 .subst f;rw[zC]at e;cases e;exact n
 .rw[zR f]at e
  exact (x b u e).stay (fun c v _ q=>q) (fun c q=>by rw[zR (zN q d)];exact q) fun c _ q=>by rw[zR (zN q d)];exact q
def Inv.adopt(I:Inv X pins σ H s)(f:uM X pins H a)(N:jm X.prog X.w (upd H a o) s.heap a o):Inv X pins σ (upd H a o) s:=by
 obtain⟨d,L,_,hex,i,g⟩:=f;refine⟨I.ok,I.os,I.bare,⟨I.base.keep,I.base.slot,fun b ob e n h=>?_,I.base.there,fun b xs e=>?_,fun b ob u e=>?_,fun b ps e=>?_⟩,I.loc,I.cell,by rw[zR (bE L)];exact I.free,fun x c e=>by rw[zR (i x c e)];exact I.vC x c e,fun p q=>?_,zr.adopt I.hok d N,I.len⟩
 .have nb:b≠a:=fun z=>by
   rcases hex with Z | Z
   .exact h (z▸Z)
   .exact d6 (rN e) (by rw[z];exact Nat.not_lt.mpr Z)
  rw[zR nb];exact I.base.free b ob e n h
 .have q:=I.base.tups b xs e;rw[zR (zN q d)];exact q
 .have q:=I.base.Ig b ob u e;rw[zR (zN q d)];exact q
 .obtain⟨m,q⟩:=I.base.Jj b ps e;exact⟨m,by rw[zR (zN q d)];exact q⟩
 .obtain⟨e,n,r⟩:=I.pin p q;exact⟨e,by rw[zR (g p q)];exact n,r⟩
theorem sZ{α β:Type}{f:α->β->Sem (ForInStep β)}{g:α->β->β}:∀(l:aw α)(c:β),(∀ x∈l,∀ c,f x c=pure (.yield (g x c)))->forIn l c f=pure (l.foldl (fun c x=>g x c) c)
 | [],_,_=>rfl
 | x::l,c,h=>by
  rw[List.forIn_cons,h x qK,pure_bind];exact sZ l (g x c) fun y T=>h y (rM _ T)
def clG(e:Env)(x:Str×NameKind)(c:aw (Str×ar)):aw (Str×ar):=if (x.2==NameKind.free)=true then (x.1,(e.cells.lookup x.1).getD 0)::c else c
def Ol(e:Env)(S:Scope):aw (Str×ar):=S.names.foldl (fun c x=>clG e x c) []
def HX{e:Env}{S:Scope}(h:∀ y∈S.names,y.2 = .free->∃ c,e.cells.lookup y.1=some c):closureFor S e=pure (Ol e S):=by
 simp only[closureFor]
 rw[sZ (g:=clG e) S.names [] (fun x i c=>by
  obtain⟨n,k⟩:=x;unfold clG
  by_cases d:(k==NameKind.free)=true
  .obtain⟨a,f⟩:=h _ i (by simpa using d);have b:e.cells.lookup n=some a:=f;simp only[d,if_true,cellOf,b,pure_bind,Option.getD_some]
  .have H:(k==NameKind.free)=false:=Bool.eq_false_iff.mpr d
   simp only[H,Bool.false_eq_true,if_false])]
 rfl
theorem HY:∀(l:aw (Str×NameKind))(cs:aw (Str×ar)),(∀ y∈l,y.2 = .free->∃ c,env.cells.lookup y.1=some c)->(∀ y c,cs.lookup y=some c->env.cells.lookup y=some c) →
  (∀ y c,(l.foldl (fun c x=>clG env x c) cs).lookup y=some c->env.cells.lookup y=some c)/\∀ y,((cs.lookup y).isSome=true∨(y,NameKind.free)∈l)->((l.foldl (fun c x=>clG env x c) cs).lookup y).isSome=true
 | [],cs,_,h=>⟨h,fun y T=>T.elim id fun z=>absurd z (by simp)⟩
 | (n,k)::l,cs,f,h=>by
  have H:∀ y∈l,y.2 = .free->∃ c,env.cells.lookup y.1=some c:=fun y T=>f y (rM _ T);rw[fo]
  by_cases d:k = .free
  .subst d;obtain⟨a,g⟩:=f (n,.free) qK rfl;have b:=g
   have e:clG env (n,.free) cs=(n,a)::cs:=by
    unfold clG;rw[cq (by rfl)];rw[b];rfl
   rw[e]
   have I:=HY l ((n,a)::cs) H (fun y c T=>by
    rw[fR]at T
    cases hb:y==n with
    | true=>
     rw[hb]at T;rw[eq_of_beq hb];exact b.trans T
    | false=>
     rw[hb]at T
     exact h y c T)
   refine⟨I.1,fun y T=>I.2 y ?_⟩;rcases T with T | T
   .left
    rw[fR]
    cases y==n with
    | true=>rfl
    | false=>exact T
   .rcases jL.mp T with T | T
    .left
     rw[(Prod.mk.inj T).1,fR];simp
    .exact .inr T
  .have e:clG env (n,k) cs=cs:=by
    unfold clG;rw[if_neg (by simpa using d)]
   rw[e];have I:=HY l cs H h;refine⟨I.1,fun y T=>I.2 y ?_⟩;rcases T with T | T
   .exact .inl T
   .rcases jL.mp T with T | T
    .exact d6 (Prod.mk.inj T).2.symm d
    .exact .inr T
theorem nq{e:Env}:∀ {N:aw (Str×NameKind)} {x:Str},N.lookup x=some .free →
  (N.map fun (n,k)=>if (k==NameKind.free&&e.scope.kind==.function&&e.kindOf n==some .cell) then (n,NameKind.cell) else (n,k)).lookup x≠some .local
 | [],_,h=>by simp at h
 | (n,k)::r,x,h=>by
  have I:=@nq e r x;show List.lookup x ((if (k==NameKind.free&&e.scope.kind==.function&&e.kindOf n==some .cell)=true then (n,NameKind.cell) else (n,k))::_)≠_
  cases hx:x==n with
  | true=>
   simp only[List.lookup_cons,hx]at h
   cases h
   split
   .simp [List.lookup_cons,hx]
   .simp [List.lookup_cons,hx]
  | false=>
   simp only[List.lookup_cons,hx]at h
   by_cases f:(k==NameKind.free&&e.scope.kind==.function&&e.kindOf n==some .cell)=true
   .rw[cq f];simp only[List.lookup_cons,hx];exact I h
   .rw[cn f];simp only[List.lookup_cons,hx];exact I h
def Dm(N:∀ z∈scope.names,z.2≠.cell)(h:(relabel scope env).names.lookup y=some .cell∨(relabel scope env).names.lookup y=some .free):(y,NameKind.free)∈scope.names:=by
 have go:∀ k,(k=NameKind.cell∨k=NameKind.free)->(relabel scope env).names.lookup y=some k->(y,NameKind.free)∈scope.names:=fun k H e=>by
  have m:=cf e;obtain⟨⟨n,a⟩,c,d⟩:=rA.mp m
  by_cases f:(a==NameKind.free&&env.scope.kind==.function&&env.kindOf n==some .cell)=true
  .have E:(n,NameKind.cell)=(y,k):=by
    rw[<-d];show _=(if (a==NameKind.free&&env.scope.kind==.function&&env.kindOf n==some .cell)=true then (n,NameKind.cell) else (n,a));rw[cq f]
   have b:a = .free:=by
    simp only[Bool.and_eq_true,beq_iff_eq]at f;exact f.1.1
   rw[<-(Prod.mk.inj E).1,<-b];exact c
  .have E:(n,a)=(y,k):=by
    rw[<-d];show _=(if (a==NameKind.free&&env.scope.kind==.function&&env.kindOf n==some .cell)=true then (n,NameKind.cell) else (n,a));rw[cn f]
   rcases H with H | H
   .exact d6 ((Prod.mk.inj E).2.trans H) (N _ c)
   .rw[<-(Prod.mk.inj E).1,<-H,<-(Prod.mk.inj E).2];exact c
 rcases h with h | h
 .exact go _ (.inl rfl) h
 .exact go _ (.inr rfl) h
def uI(X:Cx)(N:aw Str)(S:Scope)(C:ar)(s:ae)(H:Hp)(ex:aw ar)(pn:aw (ar×Obj))(E:av->ae->Prop):Cx where
 prog:=X.prog
 w:=X.w
 K:=X.K
 mg:=X.mg
 base:=X.base
 A:=X.A
 N:=N
 s₀:=s
 H₀:=H
 env:=compEnvC S (Ol X.env S) C X.env
 outer:=X.stack
 stack:=X.stack
 ex:=ex
 fn:=fun _=>false
 calm:=X.calm
 pn:=pn
 xe:=E
structure iB(osc:Scope)(N:List Str)(scope:Scope)(x:Str)(cX:List (Nat×Str)):Prop where
 kind:scope.kind = .function
 hx:scope.names.lookup x=some .local
 S8:∀ y∈scope.names,y.2≠.cell
 Z7:∀ y∈scope.names,y.2 = .local->scope.names.lookup y.1=some .local
 free:∀ y∈scope.names,y.2 = .free->osc.names.lookup y.1=some .cell∨osc.names.lookup y.1=some .free
 cap:∀ p∈cX,N[p.1]? = some p.2/\scope.names.lookup p.2=some .free
 nd:(x::cX.map (·.2)).Nodup
def vz(cX:aw (Nat×Str))(σ:St):St:=cX.map fun p=>(σ[p.1]?).getD none
def V8(X:Cx)(i:aw Expr)(t:TT):Prop:=
 ∀ p s σ H Q,Inv X p σ H s->t σ H Q →
  wpAny (model X.prog X.w) X.A (forIn i true fun c r=>if r=true then do let ok ← isTrue c X.env (eval c X.env);pure (ForInStep.yield ok) else pure (ForInStep.yield r)) (TP X p σ Q) X.xe s
def qD7:TT:=fun _ H Q=>Q true H
def iY:V8 X [] qD7:=fun _ _ _ H _ I h=>by
 simp only[List.forIn_nil];exact aI ⟨H,I,h⟩
def ye(h:PT X c tc):V8 X [c] tc:=by intro p s σ H Q I q;simp only[List.forIn_cons,List.forIn_nil,if_true];exact aE (aE (bX (h p s σ H Q I q) (fun b _ a=>aI (aI a)) fun _ _ x=>x))
def ud(J:It)(cs:St)(T:TT)(t:TE)(d:Hp)(Z:aw V->Hp->Prop):Prop:=
 ∃ W:Nat->Nat->aw V->Hp->Prop,(∃ m,W 0 m [] d)/\∀ i m A H,W i m A H →
  (J.stop i H/\Z A H)∨(J.go i H/\∃ N:aw V->Hp->Prop,(∀ a h,N a h->∃ M,M<m/\W (i+1) M a h) ∧
   ∀ x h,J.yld i H x h->T (some x::cs) h fun b c=>if b=true then t (some x::cs) c fun v e=>A.length<sizeLine/\N (A++[v]) e else N A c)
def Vk(w:TI)(cX:aw (Nat×Str))(T:TT)(t:TE):TE:=fun σ H Q=>w σ H fun J a=>ud J (vz cX σ) T t a fun A h => ∀ p,h p=none->Q (.ref p) (upd h p (.lst A))
theorem V4
  (hc:X.calm=true) (hN:X.N=x::ns) (nd:X.N.Nodup) (hx:X.env.scope.names.lookup x=some .local) (I:Inv X [] (o::cs) H s) (T:Turn X.prog X.w X.K (.Name x px) J fp it tn) (st:tn 0 s.heap) (hf:∀ b∈fp,uM X [] H b)
  (k:uM X [] H D) (q:D∉fp) (pl:s.heap.PlainList D #[]) (Qt:V8 X ifs tc) (y:PE X elt te) (hW:ud J cs tc te H Z) (hxe:X.xe=notedBy (model X.prog X.w) X.A X.env fun e s'=>R (.error e) s')
  (hR:∀ s' h A a o',Inv X [] (o'::cs) h s'->s'.heap.PlainList D a.toArray->Vals A a->A.length<=sizeLine->h D=none->Z A h->R (.ok .next) s') :
  codeAny (model X.prog X.w) X.A (.compLoop (.ListComp elt [⟨.Name x px,iter,ifs,0⟩] scope pos) 0 (.ref it) (.ref D) X.env) R s:=by
 obtain⟨W,⟨m0,w0⟩,w⟩:=hW;refine codeAny_compLoop_tests (fun n s'=>∃ i A a h o',Inv X [] (o'::cs) h s'/\tn i s'.heap/\(∀ b∈fp,h b=none)/\h D=none/\s'.heap.PlainList D a.toArray/\Vals A a/\A.length<=sizeLine/\W i n A h) ?_ m0
  ⟨0,[],[],H,o,I,st,fun b c=>(hf b c).1,k.1,pl,.nil,bb _,w0⟩
 rintro n s3 ⟨i,A,a,G,Q,I3,C,F,m,⟨d,gD⟩,va,hl,w3⟩;rw[<-hxe]
 have I4:Inv X [(D,{ cls:=.type "list",data:=.seq a.toArray d })] (Q::cs) G s3:=I3.yd fun p f=>by
  obtain rfl:p=(D,{ cls:=.type "list",data:=.seq a.toArray d }):=by simpa using f
  exact⟨gD,m,k.2.1,k.2.2.1,fun v z=>by cases (show Data.seq a.toArray d=Data.cell v from z)⟩
 have S:∀ {h:Hp},(∀ b∈fp,h b=none)->∀ b∈fp,uM X [(D,{ cls:=.type "list",data:=.seq a.toArray d })] h b:=fun hn b c=>by
  obtain⟨_,f1,f2,f3,f4,f5⟩:=hf b c;refine⟨hn b c,f1,f2,f3,f4,fun p f=>?_⟩;rcases rP.mp f with z | z
  .exact f5 p (gc _ z)
  .obtain rfl:p=(D,{ cls:=.type "list",data:=.seq a.toArray d }):=by simpa using z
   exact fun e=>q (by rw[show D=b from e];exact c)
 rcases w i n A G w3 with ⟨E,z⟩ | ⟨go,N,L,step⟩
 .refine iw (T.done X rfl rfl rfl hc i _ s3 (Q::cs) G X.xe I4 (S F) C E) fun r s4 ⟨hr,U⟩=>?_;subst hr;exact hR s4 G A a Q (U.yd fun p f=>absurd f (by simp)) ⟨d,(U.pin _ (List.mem_append_right _ (List.mem_singleton.mpr rfl))).1⟩ va hl m z
 .refine iw (T.item X rfl rfl rfl hc i _ s3 (Q::cs) G X.xe I4 (S F) C go) fun r s4 ⟨u,hr,h4⟩=>?_;subst hr;have e0:(letOwnedTupleGo (.Name x px) (.ref it) u >>= fun _=>assign (.Name x px) X.env u)=assign (.Name x px) X.env u:=rfl;show wpAny _ _ (assign (.Name x px) X.env u) _ _ s4;rw[<-e0];refine aE (iw h4 fun _ s5 ⟨j,H5,U,r5,y5,t,fr5⟩=>?_);have I5':=U.pinned (S fr5) (T.obj _ _ t);refine wpAny_assign_Name (Eu (i:=0) I5' nd (by rw[hN] <;> rfl) (.inl hx) r5 (fun s6 I6=>?_) (.inr hx));have I6':Inv X ([(D,{ cls:=.type "list",data:=.seq a.toArray d })]++Al fp s5.heap) (some j::cs) H5 s6:=I6;have l:∀ {g:St} {h:Hp} {s':ae},Inv X ([(D,{ cls:=.type "list",data:=.seq a.toArray d })]++Al fp s5.heap) g h s' →
    Inv X [] g h s'/\tn (i+1) s'.heap/\(∀ b∈fp,h b=none)/\h D=none/\s'.heap.get? D=some { cls:=.type "list",data:=.seq a.toArray d }:=fun {g h s'} P=>by
   have pD:=P.pin (D,{ cls:=.type "list",data:=.seq a.toArray d }) (gp _ (gc _ (vf.mpr rfl)));refine⟨P.yd fun p f=>absurd f (by simp),T.keep _ _ _ t fun b c ob e=>(P.pin (b,ob) (List.mem_append_right _ (List.mem_append_right _ (uC c e)))).1,fun b c=>?_,pD.2.1,pD.1⟩;obtain⟨ob,e,_⟩:=T.obj _ _ t b c;exact (P.pin (b,ob) (gp _ (gp _ (uC c e)))).2.1
  refine iw (Qt _ s6 (some j::cs) H5 _ I6' (step j H5 y5)) fun b s7 ⟨O,I7,q7⟩=>?_
  cases b with
  | false=>
   obtain⟨M,hm,w7⟩:∃ M,M<n/\W (i+1) M A O:=L A O q7;obtain⟨l1,l2,l3,Y,l5⟩:=l I7;exact⟨M,hm,i+1,A,a,O,some j,l1,l2,l3,Y,⟨d,l5⟩,va,hl,w7⟩
  | true=>
   have q7':=q7;refine iw (y _ s7 (some j::cs) O _ I7 q7') fun u8 _ ⟨v,H8,I8,r8,_,n8⟩=>?_;obtain⟨M,hm,w8⟩:=L _ _ n8;obtain⟨l1,l2,l3,Y,l5⟩:=l I8;have hlen:=va.length;refine wpAny_list_append_plain ⟨d,l5⟩ fun _ pl9 B=>?_;refine⟨M,hm,i+1,A++[v],a++[u8],H8,some j,l1.turned (fun b ob c e=>(B.2 b c).trans e) Y k.2.1 k.2.2.2.1 k.2.2.2.2.1 k.2.2.2.2.2,?_,l3,Y,by simpa using pl9,va.append (.cons r8 .nil),?_,w8⟩
   .exact T.keep _ _ _ l2 fun b c ob e=>(B.2 b (fun z=>q (z▸c))).trans e
   .rw[jB,qD1];lia
def Inv.Vo(I:Inv X pins σ H s)(h:b≠X.env.locals)(a:b∉X.fs):b∉frs X.stack:=fun z=>(jL.mp (I.Q7 b z)).elim h a
theorem HW{Z:aw V->Hp->Prop}{RR:av->ar->Result->ae->Prop}
  (hc:X.calm=true) (S:iB X.env.scope X.N scope x cX) (I:Inv X pins σ H s) (T:Turn X.prog X.w X.K (.Name x px) J fp it tn) (st:tn 0 s.heap) (hf:∀ b∈fp,uM X pins H b)
  (Qt:∀ C s H ex pn E,V8 (uI X (x::cX.map (·.2)) scope C s H ex pn E) ifs tc) (O:∀ C s H ex pn E,PE (uI X (x::cX.map (·.2)) scope C s H ex pn E) elt te)
  (hW:ud J (vz cX σ) tc te H Z)
  (hRR:∀ s' t A o (D C:ar) (m:Str->ax av),Inv X pins σ t s'->s'.heap.PlainList D o.toArray->Vals A o->A.length<=sizeLine->uM X pins t D->uM X pins t C->D≠C->s'.heap.Ns C m->Z A t->RR (.ref D) C (.ok .next) s') :
  wpAny (model X.prog X.w) X.A (newList []) (fun A s₃=>wpAny (model X.prog X.w) X.A (newFunctionEnv scope X.env.globals (Ol X.env scope) [] X.env.qual none .none (some X.env)) (fun r s₄=>
   codeAny (model X.prog X.w) X.A (.compStart (.ListComp elt [⟨.Name x px,iter,ifs,0⟩] scope pos) 0 (.ref it) A { r with scope:=relabel scope X.env }) (RR A r.locals) s₄) E s₃) E s:=by
 refine wpAny_newObj_type (wpAny_newFunctionEnv S.S8 (by intro y F;simp at F) (fun j f a=>?_) S.kind)
 dsimp only at f a ⊢
 have U:Inv X pins σ H { s with heap:=s.heap.push { cls:=.type "list",dict:=none,data:=.seq ([]:aw av).toArray } }:=I.kept (t':=s.toks) fun b u e=>tO _ e;have N:(s.heap.push { cls:=.type "list",dict:=none,data:=.seq ([]:aw av).toArray }).get? s.heap.objs.size=some { cls:=.type "list",dict:=none,data:=.seq ([]:aw av).toArray }:=Ab _ rfl;have g:(s.heap.push { cls:=.type "list",dict:=none,data:=.seq ([]:aw av).toArray }).objs.size=s.heap.objs.size+1:=dS _ _;generalize hH3:s.heap.push { cls:=.type "list",dict:=none,data:=.seq ([]:aw av).toArray }=h3 at f a U N g ⊢;have k3:∀ b u,s.heap.get? b=some u->h3.get? b=some u:=fun b u e=>hH3▸tO _ e;have G:∀ b u,h3.get? b=some u->j.get? b=some u:=fun b u e=>(a.2 b (Aa (rN e))).trans (tO _ e);have k1:∀ b u,s.heap.get? b=some u->j.get? b=some u:=fun b u e=>G b u (k3 b u e)
 have P:s.heap.objs.size≠h3.objs.size:=by rw[g];exact Aa (ij _)
 have fD:uM X pins H s.heap.objs.size:=I.LK (jC _) (I.hok.fresh (jC _));have fC:uM X pins H h3.objs.size:=I.LK (by rw[g];exact i0 _) (I.hok.fresh (by rw[g];exact i0 _));have R:∀ b∈fp,b<s.heap.objs.size:=fun b h=>let ⟨_,e,_⟩:=T.obj _ _ st b h;rN e;have hDf:s.heap.objs.size∉fp:=fun z=>ia _ (R _ z);have B:∀ y∈scope.names,y.2 = .free->∃ c,X.env.cells.lookup y.1=some c:=fun y F e=>I.ok.has y.1 (S.free y F e);obtain⟨sub,has⟩:=HY scope.names [] B (fun y c e=>by simp at e);have Q:=sub;have qEA:∀ y,(y,NameKind.free)∈scope.names->∃ c,(Ol X.env scope).lookup y=some c:=fun y F=>j3.mp (has y (.inr F));have inj:∀ b∈s.heap.objs.size::fp,uM X pins H b:=fun b h=>(jL.mp h).elim (fun z=>z▸fD) (hf b);have W:∀ b∈s.heap.objs.size::fp,b≠h3.objs.size:=fun b h=>(jL.mp h).elim (fun z=>z▸P) fun z=>Aa (by rw[g];exact ic (R b z))
 have I1:Inv (uI X (x::cX.map (·.2)) scope h3.objs.size { s with heap:=h3 } H (s.heap.objs.size::fp) (X.pn++pins)
   (notedBy (model X.prog X.w) X.A (compEnvC scope (Ol X.env scope) h3.objs.size X.env) fun e s'=>RR (.ref s.heap.objs.size) h3.objs.size (.error e) s')) [] (none::vz cX σ) H { s with heap:=j,toks:=s.toks+([]:aw (Str×av)).length }:=by
  refine⟨⟨I.ok.mod,S.kind,I.ok.glob,I.ok.blt,jC _,fun y z c e1 e2=>I.ok.inj y z c (Q _ _ e1) (Q _ _ e2),fun y F=>qEA y (Dm S.S8 F),fun y c e=>(nomatch e),I.ok.hd,I.ok.frames,.inl rfl,fun b h=>⟨W b h,fun y c e=>(inj b h).2.2.2.2.1 y c (Q y c e)⟩,
    fun b ob e=>⟨k3 b ob (I.bs b ob e).1,(I.bs b ob e).2⟩,?_,fun b ob e z=>?_,fun b h=>I.Vo (inj b h).2.1 (inj b h).2.2.1,?_,I.Rb⟩,
   rfl,I.bare,Un.kept G,⟨_,f,fun i y v e1 e2 e3=>?_⟩,fun y c e=>?_,fC.1,fun y c e=>I.vC y c (Q y c e),fun p hp=>?_,I.hok.kept k1,?_⟩
  .exact br I.ok.Zy (br I.sz (by show s.heap.objs.size<=h3.objs.size;rw[g];exact i0 _))
  .rcases (inj b z).2.2.2.1 with w1 | w1
   .exact I.ok.WX b ob e w1
   .exact d6 (M7 (rN e) I.ok.Zy) (Nat.not_lt.mpr w1)
  .exact Heap.FunFrames.of_keeps (fun b ob e _=>⟨ob,k3 b ob e,rfl⟩) I.stack
  .cases i with
   | zero=>cases e2
   | succ i=>
    have k:(cX.map (·.2))[i]? = some y:=e1;have l:(vz cX σ)[i]? = some (some v):=e2;unfold vz at l;rw[jf]at k l
    cases ep:cX[i]? with
    | none=>rw[ep]at k;cases k
    | some p=>
     rw[ep]at k l;obtain rfl:p.2=y:=Jc k;have Zf:(σ[p.1]?).getD none=some v:=Jc l
     have hσ:σ[p.1]? = some (some v):=by
      cases es:σ[p.1]? with
      | none=>rw[es]at Zf;cases Zf
      | some w1=>rw[es]at Zf;exact congrArg some Zf
     obtain⟨cN,cF⟩:=S.cap p (Jb ep);have mF:(p.2,NameKind.free)∈scope.names:=cf cF;have oF:=S.free _ mF rfl;obtain⟨m,hn,w⟩:=I.loc;obtain⟨u,ru,lk⟩:=w p.1 p.2 v cN hσ (.inr oF);refine⟨u,ru,.inr ⟨?_,?_⟩⟩
     .rcases e3 with z | z
      .exact d6 z (nq cF)
      .exact z
     .obtain⟨c,ec⟩:=qEA p.2 mF;refine⟨c,ec,?_⟩;rcases lk with ⟨z,_⟩ | ⟨_,c',ec',ob,ho,hd⟩
      .have z':X.env.scope.names.lookup p.2=some .local:=z;rw[z']at oF;rcases oF with q | q <;> cases q
      .have ee:=(Q _ _ ec).symm.trans ec'
       cases ee
       exact⟨ob,k1 _ _ ho,hd⟩
  .obtain⟨v,ob,ho,hd⟩:=I.cell y c (Q y c e);exact⟨v,ob,k1 _ _ ho,hd⟩
  .have hp':p∈X.pn++pins:=by
    rcases rP.mp hp with z | z
    .exact z
    .exact absurd z (by simp)
   obtain⟨e,n,ne,nf,d⟩:=I.pin p hp';refine⟨k1 _ _ e,n,Aa ?_,I.Vo ne nf,d⟩;rw[g];exact ic (rN e)
  .show (none::vz cX σ).length=(x::cX.map (·.2)).length;simp [vz]
 have Y:∀ b∈s.heap.objs.size::fp,uM (uI X (x::cX.map (·.2)) scope h3.objs.size { s with heap:=h3 } H (s.heap.objs.size::fp) (X.pn++pins)
   (notedBy (model X.prog X.w) X.A (compEnvC scope (Ol X.env scope) h3.objs.size X.env) fun e s'=>RR (.ref s.heap.objs.size) h3.objs.size (.error e) s')) [] H b:=fun b h=>by
  obtain⟨f0,f1,f2,f3,f4,f5⟩:=inj b h;refine⟨f0,W b h,I.Vo f1 f2,.inl h,fun y c e=>f4 y c (Q y c e),fun p hp=>f5 p ?_⟩;rcases rP.mp hp with z | z
  .exact z
  .exact absurd z (by simp)
 have st1:=T.keep _ _ _ st fun b _ ob e=>k1 b ob e
 have L:codeAny (model X.prog X.w) X.A (.compLoop (.ListComp elt [⟨.Name x px,iter,ifs,0⟩] scope pos) 0 (.ref it) (.ref s.heap.objs.size) (compEnvC scope (Ol X.env scope) h3.objs.size X.env)) (RR (.ref s.heap.objs.size) h3.objs.size) { s with heap:=j,toks:=s.toks+([]:aw (Str×av)).length }:=by
  refine V4 (X:=uI X (x::cX.map (·.2)) scope h3.objs.size { s with heap:=h3 } H (s.heap.objs.size::fp) (X.pn++pins) (notedBy (model X.prog X.w) X.A (compEnvC scope (Ol X.env scope) h3.objs.size X.env) fun e s'=>RR (.ref s.heap.objs.size) h3.objs.size (.error e) s'))
   hc rfl S.nd (lookup_relabel_local S.hx) I1 T st1 (fun b h=>Y b (rM _ h)) (Y _ qK) hDf ⟨0,G _ _ N⟩ (Qt _ _ _ _ _ _) (O _ _ _ _ _ _) hW rfl ?_
  intro s' t A o _ M plD va hlen nD z;have u1:Un (frs X.stack) (s.heap.objs.size::fp) H t h3 s'.heap:=M.base
  have J2:Inv X pins σ t s':=Inv.call' (s:={ s with heap:=h3 }) U M.os u1 M.hok M.bare fun b h=>by
   obtain⟨_,f1,_,f3,f4,f5⟩:=inj b h;exact⟨f3,f1,f4,f5⟩
  obtain⟨m,hn,_⟩:=M.loc;exact hRR s' t A o _ _ m J2 plD va hlen ⟨nD,fD.2⟩ ⟨M.free,fC.2⟩ P hn z
 exact codeAny_compStart_list L (T.self _ 0 _ _ _ st1 L)
def yN(O:X.calm=true)(S:iB X.env.scope X.N scope x cX)(Y:PI X (.Name x px) iter wi)
  (r:∀ C s H ex P E,V8 (uI X (x::cX.map (·.2)) scope C s H ex P E) ifs tc) (t:∀ C s H ex P E,PE (uI X (x::cX.map (·.2)) scope C s H ex P E) elt te)
  (hs:∀ x,foldedSetIterable iter X.env x=pure x:=by intro _;rfl):PE X (.ListComp elt [⟨.Name x px,iter,ifs,0⟩] scope pos) (Vk wi cX tc te):=by intro p s σ H Q I h;have w:∀ y∈scope.names,y.2 = .free->∃ c,X.env.cells.lookup y.1=some c:=fun y B e=>I.ok.has y.1 (S.free y B e);rw[eval_ListComp];refine wpAny_comprehension_free (use:=none) rfl hs (HX w) S.kind S.Z7 (iw (Y p s σ H _ I h) fun v _ q=>iw q fun _ _ N=>?_);obtain⟨_,_,_,J,_,e,o,T,M,L,W⟩:=N;ext l;refine HW (RR:=fun A C=>compPost (model X.prog X.w) X.A X.xe none (EP X p σ Q) A C) O S o T M L r t W ?_;intro s' j A i D C m k d va n F fC a u z;obtain⟨R,G⟩:=d;refine⟨m,u,fun f g=>?_⟩;have U:Inv X p σ j { s' with heap:=f }:=k.turned (fun b _ l e=>(g.2 b l).trans e) fC.1 fC.2.1 fC.2.2.2.1 fC.2.2.2.2.1 fC.2.2.2.2.2;exact⟨.ref D,upd j D (.lst A),U.adopt F ⟨n,i,R,va,(g.2 D a).trans G⟩,rfl,z D F.1⟩
def K1(hc:X.calm=true)(hN:X.N.Nodup)(f:X.N[i]? = some y)(l:Loc X.env.scope y)(S:iB X.env.scope X.N scope x cX)(hi:PI X (.Name x px) iter wi)
  (Y:∀ C s H ex P E,V8 (uI X (x::cX.map (·.2)) scope C s H ex P E) ifs tc) (t:∀ C s H ex P E,PE (uI X (x::cX.map (·.2)) scope C s H ex P E) elt te)
  (g:swapsWith (.ListComp elt [⟨.Name x px,iter,ifs,0⟩] scope pos) (some (.Name y py)) spos.line X.env=pure true:=by rfl) (hs:∀ x,foldedSetIterable iter X.env x=pure x:=by intro _;rfl)
  (G:X.fn y=true∨X.env.scope.names.lookup y=some .local:=by ext z):PS X (.Assign [.Name y py] (.ListComp elt [⟨.Name x px,iter,ifs,0⟩] scope pos) spos) (Q4 (Vk wi cX tc te) (Ck i)):=by
 intro p s σ H r I h;have w:∀ y∈scope.names,y.2 = .free->∃ c,X.env.cells.lookup y.1=some c:=fun y l e=>I.ok.has y.1 (S.free y l e);rw[exec_Assign_Name_used _ _ _ _ g];refine aE (wpAny_standAt (aE ?_));show wpAny _ _ (do let _ ← comprehension (.ListComp elt [⟨.Name x px,iter,ifs,0⟩] scope pos) scope X.env _ (newList []) false (eval iter X.env) (some (assign (.Name y py) X.env))) _ _ s
 refine aE (bX (wpAny_comprehension_free (use:=some (assign (.Name y py) X.env)) (Q:=fun _ s'=>SP X p r .next s') rfl hs (HX w) S.kind S.Z7
  (iw (hi p s σ H _ I h) fun v _ U=>iw U fun _ _ h2=>?_)) (fun _ s' L=>aI (aI L)) fun _ _ e=>e)
 obtain⟨_,_,_,J,_,e,R,T,M,Z,W⟩:=h2;ext l;refine HW (RR:=fun A C=>compPost (model X.prog X.w) X.A X.xe (some (assign (.Name y py) X.env)) (fun _ s'=>SP X p r .next s') A C) hc S R T M Z Y t W ?_;intro s' H' A o D C m B k va n F fC d hn z;obtain⟨nD,gD⟩:=k;have J3:Inv X p σ (upd H' D (.lst A)) s':=B.adopt F ⟨n,o,nD,va,gD⟩;show wpAny _ _ (assign (.Name y py) X.env (.ref D)) _ _ s';refine wpAny_assign_Name (Iw J3 hN f l (show RelV (.ref D) (.ref D) from rfl) (fun _ O ⟨a,sa,u⟩=>?_) G)
 have j:C≠a:=by
  rcases u with q | q
  .rw[q];exact fC.2.1
  .exact (fC.2.2.2.2.1 y a q).symm
 refine⟨m,hn.sameBut sa j,fun _ sb=>?_⟩;exact⟨_,_,O.turned (fun b _ N e=>(sb.2 b N).trans e) (by rw[zR (bE d)];exact fC.1) fC.2.1 fC.2.2.2.1 fC.2.2.2.2.1 fC.2.2.2.2.2,z D F.1⟩
def En(n:Nat)(Pv:Nat->aw V->Hp->Prop)(d:Pv 0 [] H1)(hd:∀ A H,Pv n A H->J.stop n H/\Z A H)
  (hs:∀ i A H,i<n->Pv i A H->J.go i H/\∀ x h,J.yld i H x h->tc (some x::cs) h fun b c=>if b=true then te (some x::cs) c fun v f=>A.length<sizeLine/\Pv (i+1) (A++[v]) f else Pv (i+1) A c) :
  ud J cs tc te H1 Z:=by
 refine⟨fun i m A H=>m=n-i/\i<=n/\Pv i A H,⟨n,by simp,Nat.zero_le _,d⟩,?_⟩;rintro i m A H ⟨rfl,_,p⟩
 by_cases t:i<n
 .obtain⟨g,y⟩:=hs i A H t p;exact .inr ⟨g,Pv (i+1),fun a h q=>⟨n-(i+1),by lia,rfl,t,q⟩,y⟩
 .have e:i=n:=by lia
  ext l;exact .inl (hd A H p)
def RB{lo:Int}{n:Nat}{cs:St}{T:TT}{t:TE}{a:Hp}{Z:aw V->Hp->Prop}(Pv:Nat->aw V->Hp->Prop)(d:Pv 0 [] a)
  (hs:∀ i A H,i<n->Pv i A H->T (some (.int (lo+i))::cs) H fun b h=>if b=true then t (some (.int (lo+i))::cs) h fun v f=>A.length<sizeLine/\Pv (i+1) (A++[v]) f else Pv (i+1) A h)
  (hd:∀ A H,Pv n A H->Z A H):ud (Itr lo n) cs T t a Z:=
 En n Pv d (fun A H p=>⟨jC _,hd A H p⟩) fun i A H c p=>⟨c,fun x _ y=>by
  obtain⟨e,y⟩:=y;subst e y
  exact hs i A _ c p⟩
def yM{K:dN}{a:ar}{xs:aw V}{cs:St}{T:TT}{t:TE}{c:Hp}{Z:aw V->Hp->Prop}(Pv:Nat->aw V->Hp->Prop)(d:Pv 0 [] c)(f:∀ i A H,Pv i A H->jx K H a xs)
  (hs:∀ i x A H,xs[i]? = some x->Pv i A H->T (some x::cs) H fun b h=>if b=true then t (some x::cs) h fun v j=>A.length<sizeLine/\Pv (i+1) (A++[v]) j else Pv (i+1) A h)
  (hd:∀ A H,Pv xs.length A H->Z A H):ud (Itl K a) cs T t c Z:=
 En xs.length Pv d (fun A H p=>⟨⟨xs,f _ _ _ p,Nat.le_refl _⟩,hd A H p⟩) fun i A H g p=>⟨⟨xs,xs[i],f _ _ _ p,by simp [g]⟩,fun x _ y=>by
  obtain⟨e,y⟩:=y;ext l
  exact hs i x A _ (y xs (f _ _ _ p)) p⟩
def Xg{K:dN}{a:ar}{xs:aw V}{cs:St}{T:TT}{t:TE}{c:Hp}{Z:aw V->Hp->Prop}(Pv:Nat->aw V->Hp->Prop)(d:Pv 0 [] c)(f:∀ i A H,Pv i A H->tH K H a xs)
  (hs:∀ i x A H,xs[i]? = some x->Pv i A H->T (some x::cs) H fun b h=>if b=true then t (some x::cs) h fun v j=>A.length<sizeLine/\Pv (i+1) (A++[v]) j else Pv (i+1) A h)
  (hd:∀ A H,Pv xs.length A H->Z A H):ud (Itt K a) cs T t c Z:=
 En xs.length Pv d (fun A H p=>⟨⟨xs,f _ _ _ p,Nat.le_refl _⟩,hd A H p⟩) fun i A H g p=>⟨⟨xs,xs[i],f _ _ _ p,by simp [g]⟩,fun x _ y=>by
  obtain⟨e,y⟩:=y;ext l
  exact hs i x A _ (y xs (f _ _ _ p)) p⟩
def Its(z:Str):It:=⟨fun i _=>i<z.cps.size,fun i H x h=>h=H/\∃ c,z.cps[i]? = some c/\x = .str ⟨#[c]⟩,fun i _=>z.cps.size<=i⟩
def Q3{w:ay}{K:dN}{T:Expr}(f:ar)(z:Str)(t:Tok):Turn P w K T (Its z) [f] f (fun i h=>h.IsStrIter f "str_ascii_iterator" z t i) where
 mem:=by simp
 obj:=fun i h st b a=>by
  have e:b=f:=by simpa using a
  ext l;obtain⟨o,e,c,d⟩:=st;exact⟨o,e,fun v z=>by rw[d]at z;cases z⟩
 keep:=fun i h h' st k=>by
  obtain⟨o,e,r⟩:=st;exact⟨o,k f (by simp) o e,r⟩
 item:=by
  ext k;obtain⟨A,F,L,n,B,l⟩:=j f (by simp);have g:i<z.cps.size:=Q;refine wpAny_pyNext_ascii_item st (c:=z.cps[i]) (by simp [g]) fun h' S M=>?_;have x:Inv X p σ H { s with heap:=h',toks:=s.toks+1 }:=I.turned (fun b o a e=>(M.2 b a).trans e) A F n B l;obtain⟨o,e,c,d⟩:=id S;exact⟨_,rfl,O2 (s:={ s with heap:=h',toks:=s.toks+1 }) e c d (by decide) ⟨.str ⟨#[z.cps[i]]⟩,H,x,⟨_,rfl⟩,⟨rfl,_,by simp [g],rfl⟩,S,fun b a=>(j b a).1⟩⟩
 done:=by
  ext k;obtain⟨A,F,L,n,B,l⟩:=j f (by simp);have q:z.cps.size<=i:=Q;exact wpAny_pyNext_ascii_end (I.ok.hd u) st (by simp [q]) fun h' J=>⟨rfl,I.turned (t':=s.toks) (fun b o a e=>J b o a e) A F n B l⟩
 self:=fun _ _ _ _ _ st h=>wpAny_pyIter_striter_ascii st h
def Tf{w:ay}{K:dN}{T:Expr}(f:ar)(z:Str)(t:Tok):Turn P w K T (Its z) [f] f (fun i h=>h.IsStrIter f "str_iterator" z t i) where
 mem:=by simp
 obj:=fun i h st b a=>by
  have e:b=f:=by simpa using a
  ext l;obtain⟨o,e,c,d⟩:=st;exact⟨o,e,fun v z=>by rw[d]at z;cases z⟩
 keep:=fun i h h' st k=>by
  obtain⟨o,e,r⟩:=st;exact⟨o,k f (by simp) o e,r⟩
 item:=by
  ext k;obtain⟨A,F,L,n,B,l⟩:=j f (by simp);have g:i<z.cps.size:=Q;refine wpAny_pyNext_wide_item st (c:=z.cps[i]) (by simp [g]) fun h' S M=>?_;have x:Inv X p σ H { s with heap:=h',toks:=s.toks+1 }:=I.turned (fun b o a e=>(M.2 b a).trans e) A F n B l;obtain⟨o,e,c,d⟩:=id S;exact⟨_,rfl,O2 (s:={ s with heap:=h',toks:=s.toks+1 }) e c d (by decide) ⟨.str ⟨#[z.cps[i]]⟩,H,x,⟨_,rfl⟩,⟨rfl,_,by simp [g],rfl⟩,S,fun b a=>(j b a).1⟩⟩
 done:=by
  ext k;obtain⟨A,F,L,n,B,l⟩:=j f (by simp);have q:z.cps.size<=i:=Q;exact wpAny_pyNext_wide_end (I.ok.hd u) st (by simp [q]) fun h' J=>⟨rfl,I.turned (t':=s.toks) (fun b o a e=>J b o a e) A F n B l⟩
 self:=fun _ _ _ _ _ st h=>wpAny_pyIter_striter_wide st h
def qE7(t:TE):TI:=fun σ H R=>t σ H fun x h => ∃ z,x = .str z/\R (Its z) h
def qBQ{l:Expr}{T:TE}(d:PE X l T):PI X tg l (qE7 T):=by
 intro p s σ H R I h;refine iw (d p s σ H _ I h) fun v S ⟨x,a,i,r,Q⟩=>?_;obtain⟨z,e,q⟩:=Q;ext l;obtain⟨t,rfl⟩:=r
 have f:∀ b∈[S.heap.objs.size],uM X p a b:=fun b c=>by
  have e:b=S.heap.objs.size:=by simpa using c
  ext l;ext j
 cases ha:z.cps.all (· < 128)
 .refine wpAny_pyIter_wide ha ?_;exact⟨S.heap.objs.size,[S.heap.objs.size],_,_,a,rfl,i.kept fun b o e=>tO _ e,Tf _ z t,⟨_,Ab _ rfl,rfl,rfl⟩,f,q⟩
 .refine wpAny_pyIter_ascii ha ?_;exact⟨S.heap.objs.size,[S.heap.objs.size],_,_,a,rfl,i.kept fun b o e=>tO _ e,Q3 _ z t,⟨_,Ab _ rfl,rfl,rfl⟩,f,q⟩
def ZW{z:Str}{g:TG}{T:TS}{D:Ends}{σ:St}{H:Hp}(Pv:Nat->St->Hp->Prop)(b:Pv 0 σ H)
  (hs:∀ i c σ H,z.cps[i]? = some c->Pv i σ H->g (.str ⟨#[c]⟩) σ H fun σ2 a=>T { D with nx:=Pv (i+1),ct:=Pv (i+1),bk:=D.nx } σ2 a) (hd:∀ σ H,Pv z.cps.size σ H->D.nx σ H) :
  ∃ W:Nat->Nat->St->Hp->Prop,(∃ m,W 0 m σ H)/\∀ i m σ H,W i m σ H →
   ((Its z).stop i H/\D.nx σ H)∨((Its z).go i H/\∃ N:St->Hp->Prop,(∀ σ' h,N σ' h->∃ M,M<m/\W (i+1) M σ' h)/\∀ x h,(Its z).yld i H x h->g x σ h fun σ2 a=>T { D with nx:=N,ct:=N,bk:=D.nx } σ2 a):=by
 refine⟨fun i m σ H=>m=z.cps.size-i/\i<=z.cps.size/\Pv i σ H,⟨z.cps.size,by simp,Nat.zero_le _,b⟩,?_⟩;rintro i m σ H ⟨rfl,_,p⟩
 by_cases t:i<z.cps.size
 .refine .inr ⟨t,Pv (i+1),fun σ' h P=>⟨z.cps.size-(i+1),by lia,rfl,t,P⟩,fun x h y=>?_⟩;obtain⟨e,c,E,ex⟩:=y;subst e ex;exact hs i c σ _ E p
 .have e:i=z.cps.size:=by lia
  ext l;exact .inl ⟨jC _,hd σ H p⟩
def Xh(Pv:Nat->aw V->Hp->Prop)(a:Pv 0 [] H1)
  (hs:∀ i c A H,z.cps[i]? = some c->Pv i A H->tc (some (.str ⟨#[c]⟩)::cs) H fun b h=>if b=true then te (some (.str ⟨#[c]⟩)::cs) h fun v f=>A.length<sizeLine/\Pv (i+1) (A++[v]) f else Pv (i+1) A h)
  (hd:∀ A H,Pv z.cps.size A H->Z A H):ud (Its z) cs tc te H1 Z:=
 En z.cps.size Pv a (fun A H p=>⟨jC _,hd A H p⟩) fun i A H d p=>⟨d,fun x _ y=>by
  obtain⟨e,c,E,ex⟩:=y;subst e ex
  exact hs i c A _ E p⟩
theorem Q6:∀ {us:aw av},Vals (ys.map V.str) us->StrsAre us ys:=by
 induction ys with
 | nil=>intro us r;rw[List.map_nil]at r;cases r;exact .nil
 | cons n ns I=>
  intro us r;rw[bt]at r
  cases r with
  | cons R g=>
   obtain⟨t,e⟩:=R;ext l;exact .cons n t (I g)
def SJ:MtR X "str.join" (fun x xs H Q => ∃ a p ys,x = .str a/\xs=[.ref p]/\jx X.K H p (ys.map V.str)/\(ys.map (·.length)).sum+ys.length*a.length<=16777216/\Q (.str (Txt.join a ys)) H):=by
 intro _ s σ H x xs v _ Q I f rs h;obtain⟨a,p,ys,rfl,rfl,b,z,q⟩:=h;obtain⟨t,rfl⟩:=f;obtain⟨u,rfl,g⟩:=vals1 rs
 cases g
 obtain⟨_,R,pl,_⟩:=I.list b;exact join_list pl.isList (by simpa using Q6 R) z fun _ k=>⟨.str _,H,I.tok _,⟨_,rfl⟩,q⟩
theorem qBM:VR X (fun x lo e H Q => ∃ z,x = .str z/\z.length<=sizeLine/\Q (.str (Txt.slice z lo e)) H):=by
 intro p s σ H x v _ _ lo e sl Q I f hs pl P h;obtain⟨z,rfl,b,q⟩:=h;obtain⟨t,rfl⟩:=f
 have fin:∀ l u,s.heap.IsSlice sl l u none->l.map (·.1)=lo->u.map (·.1)=e->wpAny (model X.prog X.w) X.A (getItem (.str z t) (.ref sl)) (EP X p σ Q) X.xe s:=fun l u d g c=>by
  subst g c;exact wpAny_getItem_str_slice d rfl (post_val_or_str ⟨br (Txt.slice_le z _ _) b,fun _ k=>⟨.str _,H,I.tok _,⟨_,rfl⟩,q⟩⟩)
 refine⟨"str",_,F.slot_str_getitem.lookup,typeIs_str _ _ _,?_⟩
 cases pl with
 | none=>
  cases P with
  | none=>exact fin none none hs rfl rfl
  | int j U=>exact fin none (some (j,U)) hs rfl rfl
 | int i a=>
  cases P with
  | none=>exact fin (some (i,a)) none hs rfl rfl
  | int j U=>exact fin (some (i,a)) (some (j,U)) hs rfl rfl
def range_all:∀(n:Nat)(f:Nat->Bool)(bs:aw Bool),bs.length=n->(∀ i b,bs[i]? = some b->f i=b)->(List.range n).all f=bs.all id:=by
 intro n f bs l c;rw[dQ,eC,eC];constructor
 .intro h b d;obtain⟨i,e⟩:=gy.mp d
  have a:i<n:=by
   have:=(rO.mp e).1;lia
  have:=h i (gz.mpr a);rw[c i b e]at this;ext x
 .intro h i a
  have H:i<bs.length:=by rw[l];exact gz.mp a
  have e:=wF H;rw[c i _ e];exact h _ (TY H)
def t8(B:X.calm=true):nP X (.builtin "all") (fun xs H Q => ∃(p:ar)(bs:aw Bool),xs=[.ref p]/\jx X.K H p (bs.map V.bl)/\Q (.bl (bs.all id)) H):=by
 ext aa;obtain⟨p,bs,rfl,l,q⟩:=h;obtain⟨u,rfl,C⟩:=vals1 r
 cases C
 obtain⟨a,R,pl,_⟩:=I.list l;have n:=R.length;rw[fH]at n
 have t:p<s.heap.objs.size:=by
  obtain⟨o,y,_⟩:=pl.isList;exact rN y
 refine call_all_walk (wpAny_pyIter_list pl.isList ?_)
 refine⟨s.heap.objs.size,[s.heap.objs.size,p],[s.heap.objs.size],a.toArray.size,fun i v=>a.toArray[i]? = some v,fun i h=>h.IsListIter s.heap.objs.size p i/\h.IsList p a.toArray,fun i=>(bs[i]?).getD true,rfl,
  Walks.list (A:=X.A.in1) (I.ok.hd B) _ _ (Aa t) _,⟨⟨_,Ab _ rfl,rfl,rfl⟩,pl.isList.at fun o e=>tO _ e⟩,?_,?_⟩
 .intro i v s' m _ g f
  have w:i<bs.length:=by
   have:=(de.mp g).1;simp only[List.size_toArray]at this;lia
  have e:bs[i]? = some bs[i]:=wF w;obtain⟨u,j,Y⟩:=R.get (i:=i) (x:=V.bl bs[i]) (by rw[jf,e];rfl)
  have c:a[i]? = some v:=by simpa using g
  rw[j]at c
  cases c
  cases Y
  have d:m ((bs[i]?).getD true) s':=f;rw[e]at d;exact wpAny_truthy_bool d
 .intro h' T k;refine⟨.bl (bs.all id),H,I.kept (t':=T) (h':=h') fun b u e=>k b u (fun z=>?_) (tO _ e),?_,q⟩
  .have Z:b=s.heap.objs.size:=by simpa using z
   exact d6 (rN e) (by rw[Z];exact ia _)
  .show Value.bool _=Value.bool _;rw[range_all a.toArray.size _ bs (by simp only[List.size_toArray];exact n) fun i b e=>by rw[e];rfl]
def zI(h:n<=1000):n<=sizeLine:=hX (zV h)
def qC9(x:Int):Builtin.bitAnd x 2147483647=x%2147483648:=PySem.W.kbt_mask x 31
def qDX(x:Int):0<=Builtin.bitAnd x 2147483647/\Builtin.bitAnd x 2147483647<2147483648:=by rw[qC9];lia
section
variable{X:Cx}{st:Stmt}{rest:aw Stmt}{t u:TS}
end
def zF(h:H p=none)(o:HO):bD H (upd H p o):=fun b u q=>by rw[zR (zN q h)];exact q
end L2
namespace DL
open PySem L2
inductive D where
 | non | bl (b:Bool) | int (i:Int) | str (x:Str) | tup (l:List D) | lst (l:List D)
 | dZ (l:List Int)
 | obj (C:Addr) (fs:List (Str×D))
mutual
def Rp(K:dN)(B:Hp):D->V->Prop
 | .non,v=>v = .non
 | .bl b,v=>v = .bl b
 | .int i,v=>v = .int i
 | .str x,v=>v = .str x
 | .tup l,v => ∃ p vs,v = .ref p/\tH K B p vs/\fj K B l vs
 | .lst l,v => ∃ p vs,v = .ref p/\B p=some (.lst vs)/\fj K B l vs
 | .dZ l,v => ∃ p,v = .ref p/\jx K B p (l.map V.int)
 | .obj C fs,v => ∃ p d Q,v = .ref p/\B p=some (.ins C d Q)/\Pn K B fs Q
def Pn(K:dN)(B:Hp):aw (Str×D)->aw (Str×V)->Prop
 | [],Q=>Q=[]
 | (x,d)::fs,Q => ∃ v ws,Q=(x,v)::ws/\Rp K B d v/\Pn K B fs ws
def fj(K:dN)(B:Hp):aw D->aw V->Prop
 | [],vs=>vs=[]
 | d::ds,vs => ∃ v ws,vs=v::ws/\Rp K B d v/\fj K B ds ws
end
section
variable{K:dN}{B B':Hp}
def rY{a:ar}{xs:aw V}(e:bD B B')(h:tH K B a xs):tH K B' a xs:=by
 rcases h with (h | ⟨o,h⟩) | h
 .exact .inl (.inl (e _ _ h))
 .exact .inl (.inr ⟨o,e _ _ h⟩)
 .exact .inr h
mutual
theorem Rp.mono(s:bD B B'):∀ {d:D} {v:V},Rp K B d v->Rp K B' d v
 | .non,_,h=>h
 | .bl _,_,h=>h
 | .int _,_,h=>h
 | .str _,_,h=>h
 | .tup _,_,⟨p,vs,e,q,r⟩=>⟨p,vs,e,rY s q,fj.mono s r⟩
 | .lst _,_,⟨p,vs,e,q,r⟩=>⟨p,vs,e,s _ _ q,fj.mono s r⟩
 | .dZ _,_,⟨p,e,q⟩=>⟨p,e,s.seq q⟩
 | .obj _ _,_,⟨p,x,Q,e,q,r⟩=>⟨p,x,Q,e,s _ _ q,Pn.mono s r⟩
theorem Pn.mono(s:bD B B'):∀ {fs:aw (Str×D)} {Q:aw (Str×V)},Pn K B fs Q->Pn K B' fs Q
 | [],_,h=>h
 | (_,_)::_,_,⟨v,ws,e,q,r⟩=>⟨v,ws,e,Rp.mono s q,Pn.mono s r⟩
theorem fj.mono(s:bD B B'):∀ {l:aw D} {vs:aw V},fj K B l vs->fj K B' l vs
 | [],_,h=>h
 | _::_,_,⟨v,ws,e,q,r⟩=>⟨v,ws,e,Rp.mono s q,fj.mono s r⟩
end
theorem fj.len:∀ {l:aw D} {vs:aw V},fj K B l vs->vs.length=l.length
 | [],_,h=>by cases h;rfl
 | _::_,_,⟨v,ws,e,_,r⟩=>by rw[e,gH,gH,fj.len r]
theorem fj.get:∀ {l:aw D} {vs:aw V} {i:Nat} {d:D},fj K B l vs->l[i]? = some d->∃ v,vs[i]? = some v/\Rp K B d v
 | [],_,_,_,_,h=>by simp at h
 | _::_,_,0,_,⟨v,ws,e,q,_⟩,h=>by
  rw[e]
  cases (show some _=some _ from h)
  exact⟨v,rfl,q⟩
 | _::_,_,i+1,d,⟨v,ws,e,_,r⟩,h=>by
  rw[e];exact fj.get (i:=i) (d:=d) r h
theorem fj.app:∀ {l m:aw D} {vs ws:aw V},fj K B l vs->fj K B m ws->fj K B (l++m) (vs++ws)
 | [],_,_,_,h,q=>by cases h;exact q
 | _::_,_,_,_,⟨v,us,e,q,r⟩,h=>by rw[e];exact⟨v,us++_,rfl,q,fj.app r h⟩
theorem fj.take:∀ {l:aw D} {vs:aw V} (n:Nat),fj K B l vs->fj K B (l.take n) (vs.take n)
 | _,_,0,_=>rfl
 | [],_,_+1,h=>by cases h;rfl
 | _::_,_,n+1,⟨v,ws,e,q,r⟩=>by rw[e];exact⟨v,ws.take n,rfl,q,fj.take n r⟩
theorem fj.drop:∀ {l:aw D} {vs:aw V} (n:Nat),fj K B l vs->fj K B (l.drop n) (vs.drop n)
 | _,_,0,h=>h
 | [],_,_+1,h=>by cases h;rfl
 | _::_,_,n+1,⟨v,ws,e,_,r⟩=>by rw[e];exact fj.drop n r
def fj.cons{d:D}{l:aw D}{v:V}{vs:aw V}(h:Rp K B d v)(r:fj K B l vs):fj K B (d::l) (v::vs):=⟨v,vs,rfl,h,r⟩
def fj.one{d:D}{v:V}(h:Rp K B d v):fj K B [d] [v]:=⟨v,[],rfl,h,rfl⟩
end
structure Gm where
 K:dN
 H0:Hp
 E:XK
 C:Addr
 sf:Option (Nat×Addr):=none
inductive Fm where
 | va (d:D) | li (l:List D)
def Fm.d:Fm->D
 | .va d=>d
 | .li l=>.lst l
inductive Sl where
 | no | fr (d:D) | ow (l:List D)
 | bo (l:List D)
 | ob (C:Addr) (fs:List (Str×Fm))
inductive W where
 | fr (d:D) | ow (l:List D) | bw (l:List D) | bj (C:Addr) (fs:List (Str×Fm))
def W.d:W->D
 | .fr d=>d
 | .ow l=>.lst l
 | .bw l=>.lst l
 | .bj C fs=>.obj C (fs.map fun x=>(x.1,x.2.d))
inductive Rz(α:Type) where
 | ok (a:α) | ex | st
def Rz.bind{α β:Type}:Rz α->(α->Rz β)->Rz β
 | .ok a,f=>f a
 | .ex,_=>.ex
 | .st,_=>.st
def oZ(G:Gm)(B H:Hp):aw (Str×Fm)->aw (Str×V)->Prop
 | [],Q=>Q=[]
 | (x,.va d)::fs,Q => ∃ v ws,Q=(x,v)::ws/\Rp G.K B d v/\oZ G B H fs ws
 | (x,.li l)::fs,Q => ∃ p ws vs,Q=(x,.ref p)::ws/\H p=some (.lst vs)/\B p=none/\G.H0 p=none/\fj G.K B l vs/\oZ G B H fs ws
def adr:aw (Str×Fm)->aw (Str×V)->aw ar
 | (_,.li _)::fs,(_,.ref p)::ws=>p::adr fs ws
 | _::fs,_::ws=>adr fs ws
 | _,_=>[]
def Ob(G:Gm)(B H:Hp)(C:ar)(fs:aw (Str×Fm))(a:ar):Prop:=∃ d Q,H a=some (.ins C d Q)/\B a=none/\G.H0 a=none/\oZ G B H fs Q/\(adr fs Q).Nodup
def Oa(H:Hp)(ρ:aw Sl)(σ:St)(i:Nat)(a:ar):Prop:=(∃ l,ρ[i]? = some (Sl.ow l)/\σ[i]? = some (some (V.ref a))) ∨
 ∃ C fs A d Q,ρ[i]? = some (Sl.ob C fs)/\σ[i]? = some (some (V.ref A))/\H A=some (.ins C d Q)/\(a=A∨a∈adr fs Q)
structure Own(G:Gm)(B H:Hp)(ρ:List Sl)(σ:St):Prop where
 sb:bD B H
 s0:bD G.H0 H
 len:σ.length=ρ.length
 fr:∀(i:Nat)(d:D),ρ[i]? = some (Sl.fr d)->∃ v,σ[i]? = some (some v)/\Rp G.K B d v
 ow:∀(i:Nat)(l:List D),ρ[i]? = some (Sl.ow l)->∃ p vs,σ[i]? = some (some (V.ref p))/\H p=some (.lst vs)/\B p=none/\G.H0 p=none/\fj G.K B l vs
 bo:∀(i:Nat)(l:List D),ρ[i]? = some (Sl.bo l)->∃ p vs,σ[i]? = some (some (V.ref p))/\H p=some (.lst vs)/\B p=none/\G.H0 p=none/\fj G.K B l vs
 ob:∀(i:Nat)(C:Addr)(fs:List (Str×Fm)),ρ[i]? = some (Sl.ob C fs)->∃ a,σ[i]? = some (some (V.ref a))/\Ob G B H C fs a
 ap:∀(i j:Nat)(a:Addr),Oa H ρ σ i a->Oa H ρ σ j a->i=j
 sf:∀(j:Nat)(a C:Addr)(fs:List (Str×Fm)),G.sf=some (j,a)->ρ[j]? = some (Sl.ob C fs)->σ[j]? = some (some (V.ref a))
structure Ext(B H B' H':Hp):Prop where
 sb:bD B B'
 sh:bD H H'
 gr:∀ a o,B' a=some o->B a=some o∨H a=none
def Ext.refl(B H:Hp):Ext B H B H:=⟨bD.refl _,bD.refl _,fun _ _ h=>.inl h⟩
def Ext.trans{B H e d f c:Hp}(a:Ext B H e d)(b:Ext e d f c):Ext B H f c:=
 ⟨a.sb.trans b.sb,a.sh.trans b.sh,fun x o h=>(b.gr x o h).elim (fun q=>a.gr x o q) fun q=>.inr (a.sh.free q)⟩
def Hr(K:dN)(B H:Hp):W->V->Prop
 | .fr d,v=>Rp K B d v
 | .ow l,v => ∃ p vs,v = .ref p/\H p=some (.lst vs)/\fj K B l vs
 | .bw l,v => ∃ p vs,v = .ref p/\H p=some (.lst vs)/\fj K B l vs
 | .bj _ _,v => ∃ a,v = .ref a
def xV(G:Gm)(H B h:Hp):W->V->Prop
 | .fr d,v=>Rp G.K B d v
 | .ow l,v => ∃ p vs,v = .ref p/\H p=none/\h p=some (.lst vs)/\B p=none/\fj G.K B l vs
 | .bw l,v => ∃ p vs,v = .ref p/\h p=some (.lst vs)/\B p=none/\G.H0 p=none/\fj G.K B l vs
 | .bj C fs,v => ∃ a,v = .ref a/\Ob G B h C fs a
theorem xV.hr{G:Gm}{H B b:Hp}:∀ {w:W} {v:V},xV G H B b w v->Hr G.K B b w v
 | .fr _,_,h=>h
 | .ow _,_,⟨p,vs,e,_,q,_,r⟩=>⟨p,vs,e,q,r⟩
 | .bw _,_,⟨p,vs,e,q,_,_,r⟩=>⟨p,vs,e,q,r⟩
 | .bj _ _,_,⟨a,e,_⟩=>⟨a,e⟩
theorem Hr.mono{K:dN}{B H b a:Hp}(M:bD B b)(s:bD H a):∀ {w:W} {v:V},Hr K B H w v->Hr K b a w v
 | .fr _,_,h=>Rp.mono M h
 | .ow _,_,⟨p,vs,e,q,r⟩=>⟨p,vs,e,s _ _ q,r.mono M⟩
 | .bw _,_,⟨p,vs,e,q,r⟩=>⟨p,vs,e,s _ _ q,r.mono M⟩
 | .bj _ _,_,h=>h
theorem xV.back{G:Gm}{B H f c a d:Hp}(x:Ext B H f c):∀ {w:W} {v:V},xV G c a d w v->xV G H a d w v
 | .fr _,_,h=>h
 | .ow _,_,⟨p,vs,e,n,q,b,r⟩=>⟨p,vs,e,x.sh.free n,q,b,r⟩
 | .bw _,_,h=>h
 | .bj _ _,_,h=>h
abbrev FE:=aw Sl->Rz W
abbrev FT:=aw Sl->Rz Bool
abbrev FA:=aw Sl->Rz (aw W)
def eZ(G:Gm)(B H:Hp)(ρ:aw Sl)(σ:St)(Q:VK):Rz W->Prop
 | .ok w => ∀ v b h,Own G b h ρ σ->Ext B H b h->xV G H b h w v->Q v h
 | .ex => ∀ h,bD G.H0 h->bD B h->G.E (.ref G.C) none h
 | .st=>False
def PT1(G:Gm)(B H:Hp)(ρ:aw Sl)(σ:St)(Q:Bool->Hp->Prop):Rz Bool->Prop
 | .ok b => ∀ a h,Own G a h ρ σ->Ext B H a h->Q b h
 | .ex => ∀ h,bD G.H0 h->bD B h->G.E (.ref G.C) none h
 | .st=>False
def Hz(G:Gm)(B H:Hp):W->V->Prop
 | .fr d,v=>Rp G.K B d v
 | .ow _,_=>False
 | .bw l,v => ∃ p vs,v = .ref p/\H p=some (.lst vs)/\B p=none/\G.H0 p=none/\fj G.K B l vs
 | .bj C fs,v => ∃ a,v = .ref a/\Ob G B H C fs a
def Ip(G:Gm)(B H:Hp):aw W->aw V->Prop
 | [],vs=>vs=[]
 | w::ws,vs => ∃ v us,vs=v::us/\Hz G B H w v/\Ip G B H ws us
def PA1(G:Gm)(B H:Hp)(ρ:aw Sl)(σ:St)(Q:aw V->Hp->Prop):Rz (aw W)->Prop
 | .ok ws => ∀ vs b h,Own G b h ρ σ->Ext B H b h->Ip G b h ws vs->Q vs h
 | .ex => ∀ h,bD G.H0 h->bD B h->G.E (.ref G.C) none h
 | .st=>False
def DE(G:Gm)(t:TE)(f:FE):Prop:=∀ B H ρ σ Q,Own G B H ρ σ->eZ G B H ρ σ Q (f ρ)->t σ H Q
def DT(G:Gm)(t:TT)(f:FT):Prop:=∀ B H ρ σ Q,Own G B H ρ σ->PT1 G B H ρ σ Q (f ρ)->t σ H Q
def DA(G:Gm)(t:TA)(f:FA):Prop:=∀ B H ρ σ Q,Own G B H ρ σ->PA1 G B H ρ σ Q (f ρ)->t σ H Q
section
variable{G:Gm}{B H B1 H1:Hp}{ρ:aw Sl}{σ:St}
theorem eZ.on{Q:VK}(x:Ext B H B1 H1):∀ {r:Rz W},eZ G B H ρ σ Q r->eZ G B1 H1 ρ σ Q r
 | .ok _,h=>fun v d c o y q=>h v d c o (x.trans y) (q.back x)
 | .ex,h=>fun c a b=>h c a (x.sb.trans b)
 | .st,h=>h
theorem PT1.on{Q:Bool->Hp->Prop}(x:Ext B H B1 H1):∀ {r:Rz Bool},PT1 G B H ρ σ Q r->PT1 G B1 H1 ρ σ Q r
 | .ok _,h=>fun d c o y=>h d c o (x.trans y)
 | .ex,h=>fun c a b=>h c a (x.sb.trans b)
 | .st,h=>h
theorem PA1.on{Q:aw V->Hp->Prop}(x:Ext B H B1 H1):∀ {r:Rz (aw W)},PA1 G B H ρ σ Q r->PA1 G B1 H1 ρ σ Q r
 | .ok _,h=>fun vs d c o y q=>h vs d c o (x.trans y) q
 | .ex,h=>fun c a b=>h c a (x.sb.trans b)
 | .st,h=>h
theorem DE.go{t:TE}{f:FE}(h:DE G t f)(o:Own G B H ρ σ){Q:VK}{r:Rz W}(e:f ρ=r)(x:r = .ex->∀ a,bD G.H0 a->bD B a->G.E (.ref G.C) none a)(hs:r≠.st)
  (q:∀ w,r = .ok w->∀ v b a,Own G b a ρ σ->Ext B H b a->xV G H b a w v->Q v a):t σ H Q:=by
 ext ae;rw[e]
 cases r with
 | ok w=>exact q w rfl
 | ex=>exact x rfl
 | st=>exact (hs rfl).elim
theorem DE.then{t:TE}{f:FE}(h:DE G t f)(o:Own G B H ρ σ){Q:VK}{β:Type}{k:W->Rz β}{P:Rz β->Prop}(p:P ((f ρ).bind k))(x:P .ex->∀ a,bD G.H0 a->bD B a->G.E (.ref G.C) none a)(hs:P .st->False)
  (q:∀ w,P (k w)->∀ v b a,Own G b a ρ σ->Ext B H b a->xV G H b a w v->Q v a):t σ H Q:=by
 ext ae
 cases e:f ρ with
 | ok w=>rw[e]at p;exact q w p
 | ex=>rw[e]at p;exact x p
 | st=>rw[e]at p;exact (hs p).elim
theorem DT.then{t:TT}{f:FT}(h:DT G t f)(o:Own G B H ρ σ){Q:Bool->Hp->Prop}{β:Type}{k:Bool->Rz β}{P:Rz β->Prop}(p:P ((f ρ).bind k))(x:P .ex->∀ a,bD G.H0 a->bD B a->G.E (.ref G.C) none a)(hs:P .st->False)
  (q:∀ b,P (k b)->∀ c a,Own G c a ρ σ->Ext B H c a->Q b a):t σ H Q:=by
 ext ae
 cases e:f ρ with
 | ok w=>rw[e]at p;exact q w p
 | ex=>rw[e]at p;exact x p
 | st=>rw[e]at p;exact (hs p).elim
theorem DA.then{t:TA}{f:FA}(h:DA G t f)(o:Own G B H ρ σ){Q:aw V->Hp->Prop}{β:Type}{k:aw W->Rz β}{P:Rz β->Prop}(p:P ((f ρ).bind k))(x:P .ex->∀ a,bD G.H0 a->bD B a->G.E (.ref G.C) none a)(hs:P .st->False)
  (q:∀ w,P (k w)->∀ vs b a,Own G b a ρ σ->Ext B H b a->Ip G b a w vs->Q vs a):t σ H Q:=by
 ext ae
 cases e:f ρ with
 | ok w=>rw[e]at p;exact q w p
 | ex=>rw[e]at p;exact x p
 | st=>rw[e]at p;exact (hs p).elim
theorem yp{p:ar}{o:HO}(g:∀ a o,B1 a=some o->B a=some o∨H a=none)(E:H p=some o)(e:B p=none):B1 p=none:=by
 cases z:B1 p with
 | none=>rfl
 | some u=>
  rcases g p u z with y | y
  .rw[e]at y;cases y
  .rw[E]at y;cases y
theorem oZ.mono(M:bD B B1)(s:bD H H1)(g:∀ a o,B1 a=some o->B a=some o∨H a=none):∀ {fs:aw (Str×Fm)} {Q:aw (Str×V)},oZ G B H fs Q->oZ G B1 H1 fs Q
 | [],_,h=>h
 | (_,.va _)::_,_,⟨v,ws,e,q,r⟩=>⟨v,ws,e,q.mono M,oZ.mono M s g r⟩
 | (_,.li _)::_,_,⟨p,ws,vs,e,h,n,N,q,r⟩=>⟨p,ws,vs,e,s _ _ h,yp g h n,N,q.mono M,oZ.mono M s g r⟩
def Ob.mono(M:bD B B1)(s:bD H H1)(g:∀ a o,B1 a=some o->B a=some o∨H a=none){C a:ar}{fs:aw (Str×Fm)}(h:Ob G B H C fs a):Ob G B1 H1 C fs a:=by obtain⟨D,Q,e,n,N,r,d⟩:=h;exact⟨D,Q,s _ _ e,yp g e n,N,r.mono M s g,d⟩
def Own.oa(o:Own G B H ρ σ)(s:bD H H1){i:Nat}{a:ar}(h:Oa H1 ρ σ i a):Oa H ρ σ i a:=by
 rcases h with h | ⟨C,fs,A,d,Q,E,e,U,h⟩
 .exact .inl h
 .obtain⟨_,z1,_,_,z2,_⟩:=o.ob i C fs E;rw[e]at z1
  cases z1
  have z3:=s _ _ z2;rw[U]at z3
  cases z3
  exact .inr ⟨C,fs,A,d,Q,E,e,z2,h⟩
def Own.apS(o:Own G B H ρ σ)(s:bD H H1):∀(i j:Nat)(a:ar),Oa H1 ρ σ i a->Oa H1 ρ σ j a->i=j:=fun i j a x y=>o.ap i j a (o.oa s x) (o.oa s y)
def Own.lay(o:Own G B H ρ σ){p:ar}(h:H p=none)(u:HO):Own G (upd B p u) (upd H p u) ρ σ/\Ext B H (upd B p u) (upd H p u):=by
 have f:B p=none:=o.sb.free h
 have S:bD H (upd H p u):=fun a q e=>by rw[zR (zN e h)];exact e
 have s:bD B (upd B p u):=fun a q e=>by rw[zR (zN e f)];exact e
 have g:∀ a o,upd B p u a=some o->B a=some o∨H a=none:=fun a q e=>by
  by_cases z:a=p
  .ext m;exact .inr h
  .rw[zR z]at e;exact .inl e
 refine⟨⟨fun a q e=>?_,o.s0.trans S,o.len,fun i d e=>?_,fun i l e=>?_,fun i l e=>?_,fun i C fs e=>?_,o.apS S,o.sf⟩,⟨s,S,g⟩⟩
 .by_cases z:a=p
  .ext m;rw[zC]at e ⊢;exact e
  .rw[zR z]at e ⊢;exact o.sb _ _ e
 .obtain⟨v,E,r⟩:=o.fr i d e;exact⟨v,E,r.mono s⟩
 .obtain⟨a,vs,E,b,U,c,r⟩:=o.ow i l e;exact⟨a,vs,E,S _ _ b,by rw[zR (zN b h)];exact U,c,r.mono s⟩
 .obtain⟨a,vs,E,b,U,c,r⟩:=o.bo i l e;exact⟨a,vs,E,S _ _ b,by rw[zR (zN b h)];exact U,c,r.mono s⟩
 .obtain⟨a,E,r⟩:=o.ob i C fs e;exact⟨a,E,r.mono s S g⟩
def Own.own(o:Own G B H ρ σ){p:ar}(h:H p=none)(u:HO):Own G B (upd H p u) ρ σ/\Ext B H B (upd H p u)/\B p=none:=by
 have S:bD H (upd H p u):=fun a q e=>by rw[zR (zN e h)];exact e
 refine⟨⟨o.sb.trans S,o.s0.trans S,o.len,o.fr,fun i l e=>?_,fun i l e=>?_,fun i C fs e=>?_,o.apS S,o.sf⟩,⟨bD.refl _,S,fun a q e=>.inl e⟩,o.sb.free h⟩
 .obtain⟨a,vs,E,b,r⟩:=o.ow i l e;exact⟨a,vs,E,S _ _ b,r⟩
 .obtain⟨a,vs,E,b,r⟩:=o.bo i l e;exact⟨a,vs,E,S _ _ b,r⟩
 .obtain⟨a,E,r⟩:=o.ob i C fs e;exact⟨a,E,r.mono (bD.refl _) S fun a q e=>.inl e⟩
def Own.rest(o:Own G B1 H1 ρ σ)(x:Ext B H B1 H1)(O:Own G B H ρ σ){p:ar}{vs:aw V}(h:H p=none)(m:H1 p=some (.lst vs))(j:B1 p=none):Own G (upd B1 p (.lst vs)) H1 ρ σ/\Ext B H (upd B1 p (.lst vs)) H1:=by
 have S:bD B1 (upd B1 p (.lst vs)):=fun a q e=>by rw[zR (zN e j)];exact e
 have g:∀ a q,upd B1 p (.lst vs) a=some q->B a=some q∨H a=none:=fun a q e=>by
  by_cases z:a=p
  .ext m;exact .inr h
  .rw[zR z]at e;exact x.gr _ _ e
 refine⟨⟨fun a q e=>?_,o.s0,o.len,fun i d e=>?_,fun i l e=>?_,fun i l e=>?_,fun i C fs e=>?_,o.ap,o.sf⟩,⟨x.sb.trans S,x.sh,g⟩⟩
 .by_cases z:a=p
  .ext m;rw[zC]at e;rw[<-e];exact m
  .rw[zR z]at e;exact o.sb _ _ e
 .obtain⟨v,b,r⟩:=o.fr i d e;exact⟨v,b,r.mono S⟩
 .obtain⟨a,us,b,f,U,c,r⟩:=o.ow i l e;obtain⟨A,u,k,E,_⟩:=O.ow i l e;rw[b]at k
  cases k
  have:a≠p:=fun z=>by subst z;rw[h]at E;cases E
  exact⟨a,us,b,f,by rw[zR this];exact U,c,r.mono S⟩
 .obtain⟨a,us,b,f,U,c,r⟩:=o.bo i l e;obtain⟨A,u,k,E,_⟩:=O.bo i l e;rw[b]at k
  cases k
  have:a≠p:=fun z=>by subst z;rw[h]at E;cases E
  exact⟨a,us,b,f,by rw[zR this];exact U,c,r.mono S⟩
 .obtain⟨a,b,r⟩:=O.ob i C fs e;exact⟨a,b,r.mono (x.sb.trans S) x.sh g⟩
theorem Own.ext{G:Gm}{B H c h:Hp}{ρ:aw Sl}{σ:St}(o:Own G B H ρ σ)(x:Ext B H c h)(M:bD c h):Own G c h ρ σ:=by
 have no:∀ p us,H p=some us->B p=none->c p=none:=fun p us E b=>by
  cases z:c p with
  | none=>rfl
  | some u=>
   rcases x.gr p u z with y | y
   .rw[b]at y;cases y
   .rw[E]at y;cases y
 refine⟨M,o.s0.trans x.sh,o.len,fun i d e=>?_,fun i l e=>?_,fun i l e=>?_,fun i C fs e=>?_,o.apS x.sh,o.sf⟩
 .obtain⟨v,E,r⟩:=o.fr i d e;exact⟨v,E,r.mono x.sb⟩
 .obtain⟨p,us,E,b,U,f,r⟩:=o.ow i l e;exact⟨p,us,E,x.sh _ _ b,no p _ b U,f,r.mono x.sb⟩
 .obtain⟨p,us,E,b,U,f,r⟩:=o.bo i l e;exact⟨p,us,E,x.sh _ _ b,no p _ b U,f,r.mono x.sb⟩
 .obtain⟨a,E,r⟩:=o.ob i C fs e;exact⟨a,E,r.mono x.sb x.sh x.gr⟩
def W.z:W->Rz D
 | .fr d=>.ok d
 | .ow l=>.ok (.lst l)
 | _=>.st
def W.a:W->W
 | .fr d=>.fr d
 | .ow l=>.fr (.lst l)
 | .bw l=>.bw l
 | .bj C fs=>.bj C fs
theorem Own.toArg(O:Own G B H ρ σ)(o:Own G B1 H1 ρ σ)(x:Ext B H B1 H1):∀ {w:W} {v:V},xV G H B1 H1 w v->∃ f,Own G f H1 ρ σ/\Ext B H f H1/\bD B1 f/\Hz G f H1 w.a v
 | .fr _,_,h=>⟨B1,o,x,bD.refl _,h⟩
 | .ow l,v,⟨p,vs,e,n,q,b,r⟩=>by
  obtain⟨c,X⟩:=o.rest x O n q b
  have S:bD B1 (upd B1 p (.lst vs)):=fun a y e=>by rw[zR (zN e b)];exact e
  exact⟨_,c,X,S,p,vs,e,zC,r.mono S⟩
 | .bw _,_,h=>⟨B1,o,x,bD.refl _,h⟩
 | .bj _ _,_,h=>⟨B1,o,x,bD.refl _,h⟩
theorem Own.Ad(O:Own G B H ρ σ)(o:Own G B1 H1 ρ σ)(x:Ext B H B1 H1){w:W}{v:V}{d:D}(h:xV G H B1 H1 w v)(e:w.z = .ok d):∃ f,Own G f H1 ρ σ/\Ext B H f H1/\Rp G.K f d v:=by
 obtain⟨f,c,X,_,z⟩:=Own.toArg O o x h
 cases w with
 | fr d'=>cases e;exact⟨f,c,X,z⟩
 | ow l=>cases e;exact⟨f,c,X,z⟩
 | bw l=>cases e
 | bj _ _=>cases e
end
def Rq(K:dN)(B H:Hp):D->V->Prop
 | .lst l,v => ∃ p vs,v = .ref p/\H p=some (.lst vs)/\fj K B l vs
 | .obj _ _,v => ∃ a,v = .ref a
 | d,v=>Rp K B d v
theorem Rp.rq{K:dN}{B H:Hp}(s:bD B H):∀ {d:D} {v:V},Rp K B d v->Rq K B H d v
 | .lst _,_,⟨p,vs,e,q,r⟩=>⟨p,vs,e,s _ _ q,r⟩
 | .non,_,h=>h
 | .bl _,_,h=>h
 | .int _,_,h=>h
 | .str _,_,h=>h
 | .tup _,_,h=>h
 | .dZ _,_,h=>h
 | .obj _ _,_,⟨p,_,_,e,_⟩=>⟨p,e⟩
theorem Hr.rq{K:dN}{B H:Hp}(s:bD B H):∀ {w:W} {v:V},Hr K B H w v->Rq K B H w.d v
 | .fr _,_,h=>Rp.rq s h
 | .ow _,_,h=>h
 | .bw _,_,h=>h
 | .bj _ _,_,h=>h
def xV.rq{G:Gm}{B H a:Hp}(s:bD B a){w:W}{v:V}(h:xV G H B a w v):Rq G.K B a w.d v:=h.hr.rq s
theorem Hz.rq{G:Gm}{B H:Hp}(s:bD B H):∀ {w:W} {v:V},Hz G B H w v->Rq G.K B H w.d v
 | .fr _,_,h=>Rp.rq s h
 | .bw _,_,⟨p,vs,e,q,_,_,r⟩=>⟨p,vs,e,q,r⟩
 | .bj _ _,_,⟨a,e,_⟩=>⟨a,e⟩
def aF(i:Nat):FE:=fun ρ=>match ρ[i]? with
 | some (.fr d)=>.ok (.fr d)
 | some (.ow l)=>.ok (.bw l)
 | some (.bo l)=>.ok (.bw l)
 | some (.ob C fs)=>.ok (.bj C fs)
 | _=>.st
def fC(d:D):FE:=fun _=>.ok (.fr d)
def OD(G:Gm)(r:R2)(g:D->D->Rz W):Prop:=∀ B H ρ σ x y d a Q,Own G B H ρ σ->Rq G.K B H d x->Rq G.K B H a y->eZ G B H ρ σ Q (g d a)->r x y H Q
def aK(g:D->D->Rz W)(F f:FE):FE:=fun ρ=>(F ρ).bind fun x=>(f ρ).bind fun y=>g x.d y.d
def UD(G:Gm)(r:V->Hp->VK->Prop)(g:D->Rz W):Prop:=∀ B H ρ σ x d Q,Own G B H ρ σ->Rq G.K B H d x->eZ G B H ρ σ Q (g d)->r x H Q
def VN(g:D->Rz W)(F:FE):FE:=fun ρ=>(F ρ).bind fun x=>g x.d
section
variable{G:Gm}{ta tb:TE}{fa fb:FE}{r:R2}{g:D->D->Rz W}
def aB(i:Nat):DE G (Jk i) (aF i):=by
 ext c;unfold aF at h
 split at h
 .rename_i d e
  obtain⟨v,E,r⟩:=o.fr i d e;exact⟨v,E,h v B H o (Ext.refl _ _) r⟩
 .rename_i l e
  obtain⟨p,vs,E,r⟩:=o.ow i l e;ext az
 .rename_i l e
  obtain⟨p,vs,E,r⟩:=o.bo i l e;ext az
 .rename_i C fs e
  obtain⟨a,E,r⟩:=o.ob i C fs e;exact⟨.ref a,E,h _ B H o (Ext.refl _ _) ⟨a,rfl,r⟩⟩
 .ext b
def fZ{v:V}{d:D}(k:∀ B,Rp G.K B d v):DE G (tC v) (fC d):=fun B H ρ σ Q o h=>h v B H o (Ext.refl _ _) (k B)
def aH{i:Int}:DE G (tC (.int i)) (fC (.int i)):=fZ fun _=>rfl
def aZ{x:Str}:DE G (tC (.str x)) (fC (.str x)):=fZ fun _=>rfl
def qw{b:Bool}:DE G (tC (.bl b)) (fC (.bl b)):=fZ fun _=>rfl
def xP:DE G (tC .non) (fC .non):=fZ fun _=>rfl
def aG(l:OD G r g)(e:DE G ta fa)(j:DE G tb fb):DE G (tOp r ta tb) (aK g fa fb):=by intro B H ρ σ Q o h;refine e.then o (P:=eZ G B H ρ σ Q) h (fun z=>z) (fun z=>z) fun _ z v1 _ _ O x q=>?_;refine j.then O (P:=eZ G B H ρ σ Q) z (fun y k a b=>y k a (x.sb.trans b)) (fun y=>y) fun _ z2 v2 f d c X i=>?_;exact l f d ρ σ v1 v2 _ _ Q c ((q.hr.mono X.sb X.sh).rq c.sb) (i.rq c.sb) (z2.on (x.trans X))
def HJ{r:V->Hp->VK->Prop}{g:D->Rz W}(j:UD G r g)(d:DE G ta fa):DE G (tUn r ta) (VN g fa):=by intro B H ρ σ Q o h;refine d.then o (P:=eZ G B H ρ σ Q) h (fun z=>z) (fun z=>z) fun _ z v1 e b O x a=>?_;exact j e b ρ σ v1 _ Q O (a.rq O.sb) (z.on x)
def eZ.now{B H:Hp}{ρ:aw Sl}{σ:St}{Q:VK}{d:D}{v:V}(o:Own G B H ρ σ)(h:eZ G B H ρ σ Q (.ok (.fr d)))(r:Rp G.K B d v):Q v H:=h v B H o (Ext.refl _ _) r
def eZ.tup{B H:Hp}{ρ:aw Sl}{σ:St}{Q:VK}{l:aw D}{vs:aw V}(o:Own G B H ρ σ)(h:eZ G B H ρ σ Q (.ok (.fr (.tup l))))(r:fj G.K B l vs){p:ar}(a:H p=none):Q (.ref p) (upd H p (.tup vs)):=by obtain⟨O,x⟩:=o.lay a (.tup vs);exact h _ _ _ O x ⟨p,vs,rfl,tH.of zC,r.mono x.sb⟩
def eZ.own{B H:Hp}{ρ:aw Sl}{σ:St}{Q:VK}{l:aw D}{vs:aw V}(o:Own G B H ρ σ)(h:eZ G B H ρ σ Q (.ok (.ow l)))(r:fj G.K B l vs){p:ar}(a:H p=none):Q (.ref p) (upd H p (.lst vs)):=by obtain⟨O,x,c⟩:=o.own a (.lst vs);exact h _ _ _ O x ⟨p,vs,rfl,a,zC,c,r⟩
def iiD(c:Int->Int->Bool)(g:Int->Int->D):D->D->Rz W
 | .int i,.int j=>if c i j=true then .ok (.fr (g i j)) else .st
 | _,_=>.st
def bH{C:Int->Int->Prop}{c:Int->Int->Bool}{v:Int->Int->V}{g:Int->Int->D}(f:∀ i j,c i j=true->C i j)(a:∀ K B i j,Rp K B (g i j) (v i j)):OD G (rI C v) (iiD c g):=by
 intro B H ρ σ x y _ _ Q o b T h;unfold iiD at h
 split at h
 .rename_i i j
  split at h
  .rename_i e
   exact⟨i,j,b,T,f i j e,eZ.now o h (a _ _ i j)⟩
  .ext b
 .ext b
def iD(g:Int->Int->D):D->D->Rz W
 | .int i,.int j=>.ok (.fr (g i j))
 | _,_=>.st
def fJ{v:Int->Int->V}{g:Int->Int->D}(a:∀ K B i j,Rp K B (g i j) (v i j)):OD G (YQ v) (iD g):=by
 intro B H ρ σ x y _ _ Q o b T h;unfold iD at h
 split at h
 .rename_i i j
  exact⟨i,j,b,T,eZ.now o h (a _ _ i j)⟩
 .ext b
instance (i j:Int):Decidable (M6 i j):=by unfold M6;exact inferInstance
instance (i j:Int):Decidable (YH i j):=by unfold YH;exact inferInstance
instance (i j:Int):Decidable (qA9 i j):=by unfold qA9;exact inferInstance
abbrev iJ:=iD fun i j=>.int (i-j)
abbrev cC:=iiD (fun i j=>decide (YH i j)) fun i j=>.int (i/j)
abbrev bL:=iiD (fun _ j=>decide (0<j)) fun i j=>.int (i%j)
abbrev lY:=iiD (fun i j=>decide (qA9 i j)) fun i j=>.int (i ^ j.toNat)
abbrev qGF:=iiD (fun _ j=>decide (0<=j)) fun i j=>.int (i/2 ^ j.toNat)
abbrev qFZ:=iD fun i j=>.int (Builtin.bitAnd i j)
abbrev Kr:=iD fun i j=>.bl (decide (i<j))
abbrev JG:=iD fun i j=>.bl (decide (i<=j))
abbrev GZ:=iD fun i j=>.bl (decide (j<i))
end
mutual
def su:D->D->Bool
 | .tup l,.tup m=>R5 l m
 | .lst l,.lst m=>R5 l m
 | .non,.non=>true
 | .bl a,.bl b=>a==b
 | .bl a,.int b=>(if a then 1 else 0)==b
 | .int a,.bl b=>a==(if b then 1 else 0)
 | .int a,.int b=>a==b
 | .str a,.str b=>a==b
 | _,_=>false
def R5:aw D->aw D->Bool
 | a::l,b::m=>su a b&&R5 l m
 | [],[]=>true
 | _,_=>false
end
mutual
def D.pl:D->Bool
 | .tup l=>W5 l
 | .lst l=>W5 l
 | .dZ _=>false
 | .obj _ _=>false
 | _=>true
def W5:aw D->Bool
 | []=>true
 | d::l=>d.pl&&W5 l
end
mutual
def D.dep:D->Nat
 | .tup l=>Od l+1
 | .lst l=>Od l+1
 | _=>0
def Od:aw D->Nat
 | []=>0
 | d::l=>max d.dep (Od l)
end
mutual
theorem vG:∀ d:D,d.pl=true->su d d=true
 | .non,_=>rfl
 | .bl b,_=>by show (b==b)=true;exact cy _
 | .int i,_=>by show (i==i)=true;exact cy _
 | .str x,_=>by show (x==x)=true;exact cy _
 | .tup l,h=>by rw[su];exact Gz l h
 | .lst l,h=>by rw[su];exact Gz l h
theorem Gz:∀ l:aw D,W5 l=true->R5 l l=true
 | [],_=>rfl
 | d::l,h=>by
  rw[W5,dv]at h;rw[R5,vG d h.1,Gz l h.2];rfl
end
theorem xM:∀ l m:aw D,((List.range (min l.length m.length)).all (fun j=>su (l.getD j .non) (m.getD j .non))&&l.length==m.length)=R5 l m
 | [],[]=>rfl
 | [],_::_=>by simp [R5]
 | _::_,[]=>by simp [R5]
 | a::l,b::m=>by
  have:=xM l m;rw[R5,<-this,gH,gH,show min (l.length+1) (m.length+1)=min l.length m.length+1 by omega,List.range_succ_eq_map,eB,List.all_map]
  have e:((l.length+1==m.length+1)=(l.length==m.length)):=by simp
  rw[e,Bool.and_assoc];rfl
theorem mJ:∀ {l:aw D} {i:Nat} {d:D},W5 l=true->l[i]? = some d->d.pl=true
 | [],_,_,_,h=>by simp at h
 | _::_,0,_,p,h=>by
  rw[W5,dv]at p
  cases (show some _=some _ from h)
  exact p.1
 | _::_,i+1,d,p,h=>by
  rw[W5,dv]at p;exact mJ (i:=i) p.2 h
theorem qt:∀ {l:aw D} {i:Nat} {d:D},l[i]? = some d->d.dep<=Od l
 | [],_,_,h=>by simp at h
 | a::l,0,_,h=>by
  cases (show some _=some _ from h)
  rw[Od];exact Nat.le_max_left _ _
 | a::l,i+1,d,h=>by
  have:=qt (l:=l) (i:=i) (d:=d) h;rw[Od];omega
section
variable{X:Cx}{pins:aw (ar×Obj)}{σ:St}{H:Hp}{s:ae}
def fj.at{K:dN}{l:aw D}{vs:aw V}(r:fj K H l vs){j:Nat}{x:V}(h:vs[j]? = some x):∃ d,l[j]? = some d/\Rp K H d x:=by
 have f:=r.len;have J:=(rO.mp h).1;obtain⟨v,e,q⟩:=r.get (i:=j) (d:=l[j]'(by omega)) (wF (by omega));rw[h]at e
 cases e
 exact⟨_,wF (by omega),q⟩
def valAt{xs:aw V}{us:aw av}(r:Vals xs us){j:Nat}(h:j<us.length):∃ x,xs[j]? = some x/\RelV x us[j]:=by
 have f:=r.length;obtain⟨u,e,q⟩:=r.get (i:=j) (x:=xs[j]'(by omega)) (wF (by omega));rw[wF h]at e
 cases e
 exact⟨_,wF (by omega),q⟩
def GP(I:Inv X pins σ H s){p:ar}{vs:aw V}(h:H p=some (.lst vs)):∃ i:aw av,Vals vs i/\s.heap.IsList p i.toArray:=by obtain⟨i,r,pl,_⟩:=I.list (jx.of h);exact⟨i,r,pl.isList⟩
def wZ(I:Inv X pins σ H s){p:ar}{vs:aw V}(h:tH X.K H p vs):∃ i:aw av,Vals vs i/\s.heap.IsTuple p i.toArray:=by obtain⟨i,r,pl,_⟩:=I.tuple h;exact⟨i,r,pl⟩
def qDR{h:Heap}{p:ar}{a b:Array av}(x:h.IsList p a)(y:h.IsTuple p b):False:=by
 obtain⟨o,e,c,_⟩:=x;obtain⟨_,E,S,_⟩:=y;rw[e]at E
 cases E
 rw[c]at S;exact absurd S (by simp)
def qD6{h:Heap}{p:ar}{a b:Array av}(x:h.IsTuple p a)(y:h.IsTuple p b):a=b:=by
 obtain⟨o,e,c,n,d⟩:=x;obtain⟨_,E,_,_,d'⟩:=y;rw[e]at E
 cases E
 rw[d]at d'
 cases d'
 rfl
mutual
theorem Rp.inj(I:Inv X pins σ H s):∀ {d e:D} {v:V},d.pl=true->e.pl=true->Rp X.K H d v->Rp X.K H e v->d=e
 | .non,e,_,_,i,h,q=>by
  cases (show _=_ from h)
  cases e with
  | non=>rfl
  | dZ _=>cases i
  | obj _ _=>cases i
  | tup _=>obtain⟨_,_,z,_⟩:=q;cases z
  | lst _=>obtain⟨_,_,z,_⟩:=q;cases z
  | _=>cases (show _=_ from q)
 | .bl b,e,_,_,i,h,q=>by
  cases (show _=_ from h)
  cases e with
  | bl _=>cases (show _=_ from q);rfl
  | dZ _=>cases i
  | obj _ _=>cases i
  | tup _=>obtain⟨_,_,z,_⟩:=q;cases z
  | lst _=>obtain⟨_,_,z,_⟩:=q;cases z
  | _=>cases (show _=_ from q)
 | .int b,e,_,_,i,h,q=>by
  cases (show _=_ from h)
  cases e with
  | int _=>cases (show _=_ from q);rfl
  | dZ _=>cases i
  | obj _ _=>cases i
  | tup _=>obtain⟨_,_,z,_⟩:=q;cases z
  | lst _=>obtain⟨_,_,z,_⟩:=q;cases z
  | _=>cases (show _=_ from q)
 | .str b,e,_,_,i,h,q=>by
  cases (show _=_ from h)
  cases e with
  | str _=>cases (show _=_ from q);rfl
  | dZ _=>cases i
  | obj _ _=>cases i
  | tup _=>obtain⟨_,_,z,_⟩:=q;cases z
  | lst _=>obtain⟨_,_,z,_⟩:=q;cases z
  | _=>cases (show _=_ from q)
 | .tup l,e,_,hd,i,⟨p,vs,z,t,r⟩,q=>by
  ext m
  cases e with
  | tup m=>
   obtain⟨P,ws,z,t',R⟩:=q
   cases z
   obtain⟨f,v1,a⟩:=wZ I t;obtain⟨c,v2,x⟩:=wZ I t';have:=qD6 a x
   have:f=c:=by simpa using this
   subst this
   cases v1.inj v2
   rw[fj.inj I hd i r R]
  | lst m=>
   obtain⟨P,ws,z,t',R⟩:=q
   cases z
   obtain⟨f,v1,a⟩:=wZ I t;obtain⟨c,v2,x⟩:=GP I t';exact (qDR x a).elim
  | dZ _=>cases i
  | obj _ _=>cases i
  | _=>cases (show _=_ from q)
 | .lst l,e,_,hd,i,⟨p,vs,z,t,r⟩,q=>by
  ext m
  cases e with
  | tup m=>
   obtain⟨P,ws,z,t',R⟩:=q
   cases z
   obtain⟨f,v1,a⟩:=GP I t;obtain⟨c,v2,x⟩:=wZ I t';exact (qDR a x).elim
  | lst m=>
   obtain⟨P,ws,z,t',R⟩:=q
   cases z
   rw[t]at t'
   cases t'
   rw[fj.inj I hd i r R]
  | dZ _=>cases i
  | obj _ _=>cases i
  | _=>cases (show _=_ from q)
theorem fj.inj(I:Inv X pins σ H s):∀ {l m:aw D} {vs:aw V},W5 l=true->W5 m=true->fj X.K H l vs->fj X.K H m vs->l=m
 | [],[],_,_,_,_,_=>rfl
 | [],_::_,_,_,_,h,⟨_,_,e,_⟩=>by rw[h]at e;cases e
 | _::_,[],_,_,_,⟨_,_,e,_⟩,h=>by rw[h]at e;cases e
 | a::l,b::m,_,hd,i,⟨v,ws,e,q,r⟩,⟨T,w,E,g,R⟩=>by
  rw[e]at E
  cases E
  rw[W5,dv]at hd i;rw[Rp.inj I hd.1 i.1 q g,fj.inj I hd.2 i.2 r R]
end
theorem qB7(I:Inv X pins σ H s){d e:D}{A:ah}{x y:V}{u v:av}(k:d.dep=0)(hd:d.pl=true)(i:e.pl=true)(j:Rp X.K H d x)(h:Rp X.K H e y)(Y:RelV x u)(R:RelV y v)(f:A.units<cLine):SeqAt.EqAt A s u v (su d e):=by
 cases d with
 | non  =>
  cases (show _=_ from j)
  cases e with
  | tup m=>
   obtain⟨q,ws,z,T,g⟩:=h;ext m
   cases R
   obtain⟨c,v2,b⟩:=wZ I T
   cases Y
   exact SeqAt.EqAt.none_tuple b f
  | lst m=>
   obtain⟨q,ws,z,T,g⟩:=h;ext m
   cases R
   obtain⟨c,v2,b⟩:=GP I T
   cases Y
   exact SeqAt.EqAt.none_list b f
  | dZ _=>cases i
  | obj _ _=>cases i
  | _=>cases (show _=_ from h);exact HB Y R rfl rfl
 | bl a=>
  cases (show _=_ from j)
  cases e with
  | tup m=>
   obtain⟨q,ws,z,T,g⟩:=h;ext m
   cases R
   obtain⟨c,v2,b⟩:=wZ I T
   cases Y
   exact SeqAt.EqAt.bool_tuple a b f
  | lst m=>
   obtain⟨q,ws,z,T,g⟩:=h;ext m
   cases R
   obtain⟨c,v2,b⟩:=GP I T
   cases Y
   exact SeqAt.EqAt.bool_list a b f
  | dZ _=>cases i
  | obj _ _=>cases i
  | _=>cases (show _=_ from h);exact HB Y R rfl rfl
 | int a=>
  cases (show _=_ from j)
  cases e with
  | tup m=>
   obtain⟨q,ws,z,T,g⟩:=h;ext m
   cases R
   obtain⟨c,v2,b⟩:=wZ I T;obtain⟨t,rfl⟩:=Y;exact SeqAt.EqAt.int_tuple a t b f
  | lst m=>
   obtain⟨q,ws,z,T,g⟩:=h;ext m
   cases R
   obtain⟨c,v2,b⟩:=GP I T;obtain⟨t,rfl⟩:=Y;exact SeqAt.EqAt.int_list a t b f
  | dZ _=>cases i
  | obj _ _=>cases i
  | _=>cases (show _=_ from h);exact HB Y R rfl rfl
 | str a=>
  cases (show _=_ from j)
  cases e with
  | tup m=>
   obtain⟨q,ws,z,T,g⟩:=h;ext m
   cases R
   obtain⟨c,v2,b⟩:=wZ I T;obtain⟨t,rfl⟩:=Y;exact SeqAt.EqAt.str_tuple a t b f
  | lst m=>
   obtain⟨q,ws,z,T,g⟩:=h;ext m
   cases R
   obtain⟨c,v2,b⟩:=GP I T;obtain⟨t,rfl⟩:=Y;exact SeqAt.EqAt.str_list a t b f
  | dZ _=>cases i
  | obj _ _=>cases i
  | _=>cases (show _=_ from h);exact HB Y R rfl rfl
 | tup l=>rw[D.dep]at k;cases k
 | lst l=>rw[D.dep]at k;cases k
 | dZ _=>cases hd
 | obj _ _=>cases hd
theorem Sy(I:Inv X pins σ H s):∀(n:Nat)(d e:D)(A:ah)(x y:V)(u v:av),d.dep<=n->d.pl=true->e.pl=true->Rp X.K H d x->Rp X.K H e y->RelV x u->RelV y v->A.units+n<cLine->SeqAt.EqAt A s u v (su d e):=by
 intro n
 induction n with
 | zero=>exact fun d e A x y u v Z hd i L T Y R hu=>qB7 I (by omega) hd i L T Y R hu
 | succ n ih=>
 intro d e A x y u v Z hd i L T Y R hu
 by_cases h0:d.dep=0
 .exact qB7 I h0 hd i L T Y R (by omega)
 cases d with
 | tup l=>
  obtain⟨p,vs,z,N,o⟩:=L;ext m
  cases Y
  obtain⟨w,v1,c⟩:=wZ I N
  cases e with
  | tup m=>
   obtain⟨q,ws,z,g,r⟩:=T;ext m
   cases R
   obtain⟨f,v2,k⟩:=wZ I g
   by_cases E:p=q
   .subst E;have:D.tup l=D.tup m:=Rp.inj I hd i ⟨p,vs,rfl,N,o⟩ ⟨p,ws,rfl,g,r⟩;rw[this,vG _ i];exact SeqAt.EqAt.same _
   refine SeqAt.EqAt.of_refs E ?_;have P:=v1.length;have l2:=v2.length;have l3:=o.len;have l4:=r.len
   have hz:∀ j (G:j<w.toArray.size) (M:j<f.toArray.size),SeqAt.EqAt A.in1 s w.toArray[j] f.toArray[j] ((fun j=>su (l.getD j .non) (m.getD j .non)) j):=fun j G M=>by
    have B:j<w.length:=by simpa using G
    have C:j<f.length:=by simpa using M
    obtain⟨a,O,U⟩:=valAt v1 B;obtain⟨b,Q,rb⟩:=valAt v2 C;obtain⟨da,F,S⟩:=o.at O;obtain⟨W,J,qb⟩:=r.at Q;have:=ih da W A.in1 a b _ _ (by have:=qt F;rw[D.dep]at Z;omega) (mJ hd F) (mJ i J) S qb U rb (by show A.in1.units+n<cLine;simp;omega);show SeqAt.EqAt _ _ _ _ (su (l.getD j .non) (m.getD j .non));rw[xg,xg,F,J]
    simpa using this
   rw[show su (D.tup l) (D.tup m)=R5 l m from by rw[su],<-xM];have:=SeqAt.RcAt.tuples (A:=A) (s:=s) c k (by omega) hz;ext bd;ext x
  | lst m=>
   obtain⟨q,ws,z,g,r⟩:=T;ext m
   cases R
   obtain⟨f,v2,k⟩:=GP I g;exact SeqAt.EqAt.tuple_list c k (by omega)
  | dZ _=>cases i
  | obj _ _=>cases i
  | non=>cases (show _=_ from T);cases R;exact SeqAt.EqAt.tuple_none c (by omega)
  | bl b=>cases (show _=_ from T);cases R;exact SeqAt.EqAt.tuple_bool b c (by omega)
  | int b=>cases (show _=_ from T);obtain⟨t,rfl⟩:=R;exact SeqAt.EqAt.tuple_int b t c (by omega)
  | str b=>cases (show _=_ from T);obtain⟨t,rfl⟩:=R;exact SeqAt.EqAt.tuple_str b t c (by omega)
 | lst l=>
  obtain⟨p,vs,z,N,o⟩:=L;ext m
  cases Y
  obtain⟨w,v1,c⟩:=GP I N
  cases e with
  | lst m=>
   obtain⟨q,ws,z,g,r⟩:=T;ext m
   cases R
   obtain⟨f,v2,k⟩:=GP I g
   by_cases E:p=q
   .subst E;have:D.lst l=D.lst m:=Rp.inj I hd i ⟨p,vs,rfl,N,o⟩ ⟨p,ws,rfl,g,r⟩;rw[this,vG _ i];exact SeqAt.EqAt.same _
   refine SeqAt.EqAt.of_refs E ?_;have P:=v1.length;have l2:=v2.length;have l3:=o.len;have l4:=r.len
   have hz:∀ j (G:j<w.toArray.size) (M:j<f.toArray.size),SeqAt.EqAt A.in1 s w.toArray[j] f.toArray[j] ((fun j=>su (l.getD j .non) (m.getD j .non)) j):=fun j G M=>by
    have B:j<w.length:=by simpa using G
    have C:j<f.length:=by simpa using M
    obtain⟨a,O,U⟩:=valAt v1 B;obtain⟨b,Q,rb⟩:=valAt v2 C;obtain⟨da,F,S⟩:=o.at O;obtain⟨W,J,qb⟩:=r.at Q;have:=ih da W A.in1 a b _ _ (by have:=qt F;rw[D.dep]at Z;omega) (mJ hd F) (mJ i J) S qb U rb (by show A.in1.units+n<cLine;simp;omega);show SeqAt.EqAt _ _ _ _ (su (l.getD j .non) (m.getD j .non));rw[xg,xg,F,J]
    simpa using this
   rw[show su (D.lst l) (D.lst m)=R5 l m from by rw[su],<-xM]
   by_cases h:l.length=m.length
   .have:=SeqAt.RcAt.lists (A:=A) (s:=s) c k (by rw[w5,w5];omega) (by omega) hz;rw[w5,<-P,l3]at this;rw[h,Nat.min_self,cy,Bool.and_true];rw[h]at this;ext x
   .have:=SeqAt.RcAt.lists_lengths (A:=A) (s:=s) c k (by rw[hI,hI];simp;omega) (by omega);rw[show (l.length==m.length)=false by simpa using h,Bool.and_false];ext x
  | tup m=>
   obtain⟨q,ws,z,g,r⟩:=T;ext m
   cases R
   obtain⟨f,v2,k⟩:=wZ I g;exact SeqAt.EqAt.list_tuple c k (by omega)
  | dZ _=>cases i
  | obj _ _=>cases i
  | non=>cases (show _=_ from T);cases R;exact SeqAt.EqAt.list_none c (by omega)
  | bl b=>cases (show _=_ from T);cases R;exact SeqAt.EqAt.list_bool b c (by omega)
  | int b=>cases (show _=_ from T);obtain⟨t,rfl⟩:=R;exact SeqAt.EqAt.list_int b t c (by omega)
  | str b=>cases (show _=_ from T);obtain⟨t,rfl⟩:=R;exact SeqAt.EqAt.list_str b t c (by omega)
 | _=>exact (h0 rfl).elim
end
section
variable{X:Cx}{pins:aw (ar×Obj)}{σ:St}{H:Hp}{s:ae}
theorem rcD(I:Inv X pins σ H s){d e:D}{A:ah}{x y:V}{u v:av}(hn:d.dep<=60)(hd:d.pl=true)(k:e.pl=true)(t:Rp X.K H d x)(c:Rp X.K H e y)(Y:RelV x u)(R:RelV y v)(hu:A.units+64<cLine):SeqAt.RcAt A s u v (su d e):=by
 have h:A.units<cLine:=by omega
 cases d with
 | non=>
  cases (show _=_ from t)
  cases Y
  cases e with
  | non=>
   cases (show _=_ from c)
   cases R
   exact SeqAt.RcAt.none_none
  | bl b=>
   cases (show _=_ from c)
   cases R
   exact SeqAt.RcAt.none_bool b
  | int b=>
   cases (show _=_ from c)
   obtain⟨T,rfl⟩:=R;exact SeqAt.RcAt.none_int b T
  | str b=>
   cases (show _=_ from c)
   obtain⟨T,rfl⟩:=R;exact SeqAt.RcAt.none_str b T
  | tup m=>
   obtain⟨q,ws,z,T,g⟩:=c;ext m
   cases R
   obtain⟨i,v2,f⟩:=wZ I T;exact SeqAt.RcAt.none_tuple f h
  | lst m=>
   obtain⟨q,ws,z,T,g⟩:=c;ext m
   cases R
   obtain⟨i,v2,f⟩:=GP I T;exact SeqAt.RcAt.none_list f h
  | dZ _=>cases k
  | obj _ _=>cases k
 | bl a=>
  cases (show _=_ from t)
  cases Y
  cases e with
  | non=>
   cases (show _=_ from c)
   cases R
   exact SeqAt.RcAt.bool_none a
  | bl b=>
   cases (show _=_ from c)
   cases R
   exact SeqAt.RcAt.bool_bool a b
  | int b=>
   cases (show _=_ from c)
   obtain⟨T,rfl⟩:=R;exact SeqAt.RcAt.bool_int a b T
  | str b=>
   cases (show _=_ from c)
   obtain⟨T,rfl⟩:=R;exact SeqAt.RcAt.bool_str a b T
  | tup m=>
   obtain⟨q,ws,z,T,g⟩:=c;ext m
   cases R
   obtain⟨i,v2,f⟩:=wZ I T;exact SeqAt.RcAt.bool_tuple a f h
  | lst m=>
   obtain⟨q,ws,z,T,g⟩:=c;ext m
   cases R
   obtain⟨i,v2,f⟩:=GP I T;exact SeqAt.RcAt.bool_list a f h
  | dZ _=>cases k
  | obj _ _=>cases k
 | int a=>
  cases (show _=_ from t)
  obtain⟨N,rfl⟩:=Y
  cases e with
  | non=>
   cases (show _=_ from c)
   cases R
   exact SeqAt.RcAt.int_none a N
  | bl b=>
   cases (show _=_ from c)
   cases R
   exact SeqAt.RcAt.int_bool a N b
  | int b=>
   cases (show _=_ from c)
   obtain⟨T,rfl⟩:=R;exact SeqAt.RcAt.int_int a N b T
  | str b=>
   cases (show _=_ from c)
   obtain⟨T,rfl⟩:=R;exact SeqAt.RcAt.int_str a N b T
  | tup m=>
   obtain⟨q,ws,z,T,g⟩:=c;ext m
   cases R
   obtain⟨i,v2,f⟩:=wZ I T;exact SeqAt.RcAt.int_tuple a N f h
  | lst m=>
   obtain⟨q,ws,z,T,g⟩:=c;ext m
   cases R
   obtain⟨i,v2,f⟩:=GP I T;exact SeqAt.RcAt.int_list a N f h
  | dZ _=>cases k
  | obj _ _=>cases k
 | str a=>
  cases (show _=_ from t)
  obtain⟨N,rfl⟩:=Y
  cases e with
  | non=>
   cases (show _=_ from c)
   cases R
   exact SeqAt.RcAt.str_none a N
  | bl b=>
   cases (show _=_ from c)
   cases R
   exact SeqAt.RcAt.str_bool a N b
  | int b=>
   cases (show _=_ from c)
   obtain⟨T,rfl⟩:=R;exact SeqAt.RcAt.str_int a N b T
  | str b=>
   cases (show _=_ from c)
   obtain⟨T,rfl⟩:=R;exact SeqAt.RcAt.str_str a N b T
  | tup m=>
   obtain⟨q,ws,z,T,g⟩:=c;ext m
   cases R
   obtain⟨i,v2,f⟩:=wZ I T;exact SeqAt.RcAt.str_tuple a N f h
  | lst m=>
   obtain⟨q,ws,z,T,g⟩:=c;ext m
   cases R
   obtain⟨i,v2,f⟩:=GP I T;exact SeqAt.RcAt.str_list a N f h
  | dZ _=>cases k
  | obj _ _=>cases k
 | tup l=>
  obtain⟨p,vs,z,N,w⟩:=t;ext m
  cases Y
  obtain⟨r,v1,n⟩:=wZ I N
  cases e with
  | non=>
   cases (show _=_ from c)
   cases R
   exact SeqAt.RcAt.tuple_none n h
  | bl b=>
   cases (show _=_ from c)
   cases R
   exact SeqAt.RcAt.tuple_bool b n h
  | int b=>
   cases (show _=_ from c)
   obtain⟨T,rfl⟩:=R;exact SeqAt.RcAt.tuple_int b T n h
  | str b=>
   cases (show _=_ from c)
   obtain⟨T,rfl⟩:=R;exact SeqAt.RcAt.tuple_str b T n h
  | lst m=>
   obtain⟨q,ws,z,T,g⟩:=c;ext m
   cases R
   obtain⟨i,v2,f⟩:=GP I T;exact SeqAt.RcAt.tuple_list n f h
  | dZ _=>cases k
  | obj _ _=>cases k
  | tup m=>
   obtain⟨q,ws,z,T,g⟩:=c;ext m
   cases R
   obtain⟨i,v2,f⟩:=wZ I T;have P:=v1.length;have l2:=v2.length;have l3:=w.len;have l4:=g.len
   have Z:∀ j (F:j<r.toArray.size) (G:j<i.toArray.size),SeqAt.EqAt A.in1 s r.toArray[j] i.toArray[j] ((fun j=>su (l.getD j .non) (m.getD j .non)) j):=fun j F G=>by
    have B:j<r.length:=by simpa using F
    have C:j<i.length:=by simpa using G
    obtain⟨a,L,U⟩:=valAt v1 B;obtain⟨b,M,O⟩:=valAt v2 C;obtain⟨Q,E,S⟩:=w.at L;obtain⟨W,J,qb⟩:=g.at M;have:=Sy I 60 Q W A.in1 a b _ _ (by have:=qt E;rw[D.dep]at hn;omega) (mJ hd E) (mJ k J) S qb U O (by show A.in1.units+60<cLine;simp;omega);show SeqAt.EqAt _ _ _ _ (su (l.getD j .non) (m.getD j .non));rw[xg,xg,E,J]
    simpa using this
   rw[show su (D.tup l) (D.tup m)=R5 l m from by rw[su],<-xM];have:=SeqAt.RcAt.tuples (A:=A) (s:=s) n f h Z;ext bd;ext x
 | lst l=>
  obtain⟨p,vs,z,N,w⟩:=t;ext m
  cases Y
  obtain⟨r,v1,n⟩:=GP I N
  cases e with
  | non=>
   cases (show _=_ from c)
   cases R
   exact SeqAt.RcAt.list_none n h
  | bl b=>
   cases (show _=_ from c)
   cases R
   exact SeqAt.RcAt.list_bool b n h
  | int b=>
   cases (show _=_ from c)
   obtain⟨T,rfl⟩:=R;exact SeqAt.RcAt.list_int b T n h
  | str b=>
   cases (show _=_ from c)
   obtain⟨T,rfl⟩:=R;exact SeqAt.RcAt.list_str b T n h
  | tup m=>
   obtain⟨q,ws,z,T,g⟩:=c;ext m
   cases R
   obtain⟨i,v2,f⟩:=wZ I T;exact SeqAt.RcAt.list_tuple n f h
  | dZ _=>cases k
  | obj _ _=>cases k
  | lst m=>
   obtain⟨q,ws,z,T,g⟩:=c;ext m
   cases R
   obtain⟨i,v2,f⟩:=GP I T;have P:=v1.length;have l2:=v2.length;have l3:=w.len;have l4:=g.len
   have Z:∀ j (F:j<r.toArray.size) (G:j<i.toArray.size),SeqAt.EqAt A.in1 s r.toArray[j] i.toArray[j] ((fun j=>su (l.getD j .non) (m.getD j .non)) j):=fun j F G=>by
    have B:j<r.length:=by simpa using F
    have C:j<i.length:=by simpa using G
    obtain⟨a,L,U⟩:=valAt v1 B;obtain⟨b,M,O⟩:=valAt v2 C;obtain⟨Q,E,S⟩:=w.at L;obtain⟨W,J,qb⟩:=g.at M;have:=Sy I 60 Q W A.in1 a b _ _ (by have:=qt E;rw[D.dep]at hn;omega) (mJ hd E) (mJ k J) S qb U O (by show A.in1.units+60<cLine;simp;omega);show SeqAt.EqAt _ _ _ _ (su (l.getD j .non) (m.getD j .non));rw[xg,xg,E,J]
    simpa using this
   rw[show su (D.lst l) (D.lst m)=R5 l m from by rw[su],<-xM]
   by_cases o:l.length=m.length
   .have:=SeqAt.RcAt.lists (A:=A) (s:=s) n f (by rw[w5,w5];omega) h Z;ext am;ext x
   .have:=SeqAt.RcAt.lists_lengths (A:=A) (s:=s) n f (by rw[hI,hI];simp;omega) h;rw[show (l.length==m.length)=false by simpa using o,Bool.and_false];ext x
 | dZ _=>cases hd
 | obj _ _=>cases hd
theorem qDI(I:Inv X pins σ H s){d e:D}{A:ah}{x y:V}{u v:av}(hn:d.dep<=60)(hd:d.pl=true)(k:e.pl=true)(t:Rp X.K H d x)(c:Rp X.K H e y)(Y:RelV x u)(R:RelV y v)(hu:A.units+64<cLine):SeqAt.RcNeAt A s u v (!su d e):=by
 have h:A.units<cLine:=by omega
 cases d with
 | non=>
  cases (show _=_ from t)
  cases Y
  cases e with
  | non=>
   cases (show _=_ from c)
   cases R
   exact SeqAt.RcNeAt.none_none
  | bl b=>
   cases (show _=_ from c)
   cases R
   exact SeqAt.RcNeAt.none_bool b
  | int b=>
   cases (show _=_ from c)
   obtain⟨T,rfl⟩:=R;exact SeqAt.RcNeAt.none_int b T
  | str b=>
   cases (show _=_ from c)
   obtain⟨T,rfl⟩:=R;exact SeqAt.RcNeAt.none_str b T
  | tup m=>
   obtain⟨q,ws,z,T,g⟩:=c;ext m
   cases R
   obtain⟨i,v2,f⟩:=wZ I T;exact SeqAt.RcNeAt.none_tuple f h
  | lst m=>
   obtain⟨q,ws,z,T,g⟩:=c;ext m
   cases R
   obtain⟨i,v2,f⟩:=GP I T;exact SeqAt.RcNeAt.none_list f h
  | dZ _=>cases k
  | obj _ _=>cases k
 | bl a=>
  cases (show _=_ from t)
  cases Y
  cases e with
  | non=>
   cases (show _=_ from c)
   cases R
   exact SeqAt.RcNeAt.bool_none a
  | bl b=>
   cases (show _=_ from c)
   cases R
   exact SeqAt.RcNeAt.bool_bool a b
  | int b=>
   cases (show _=_ from c)
   obtain⟨T,rfl⟩:=R;exact SeqAt.RcNeAt.bool_int a b T
  | str b=>
   cases (show _=_ from c)
   obtain⟨T,rfl⟩:=R;exact SeqAt.RcNeAt.bool_str a b T
  | tup m=>
   obtain⟨q,ws,z,T,g⟩:=c;ext m
   cases R
   obtain⟨i,v2,f⟩:=wZ I T;exact SeqAt.RcNeAt.bool_tuple a f h
  | lst m=>
   obtain⟨q,ws,z,T,g⟩:=c;ext m
   cases R
   obtain⟨i,v2,f⟩:=GP I T;exact SeqAt.RcNeAt.bool_list a f h
  | dZ _=>cases k
  | obj _ _=>cases k
 | int a=>
  cases (show _=_ from t)
  obtain⟨N,rfl⟩:=Y
  cases e with
  | non=>
   cases (show _=_ from c)
   cases R
   exact SeqAt.RcNeAt.int_none a N
  | bl b=>
   cases (show _=_ from c)
   cases R
   exact SeqAt.RcNeAt.int_bool a N b
  | int b=>
   cases (show _=_ from c)
   obtain⟨T,rfl⟩:=R;exact SeqAt.RcNeAt.int_int a N b T
  | str b=>
   cases (show _=_ from c)
   obtain⟨T,rfl⟩:=R;exact SeqAt.RcNeAt.int_str a N b T
  | tup m=>
   obtain⟨q,ws,z,T,g⟩:=c;ext m
   cases R
   obtain⟨i,v2,f⟩:=wZ I T;exact SeqAt.RcNeAt.int_tuple a N f h
  | lst m=>
   obtain⟨q,ws,z,T,g⟩:=c;ext m
   cases R
   obtain⟨i,v2,f⟩:=GP I T;exact SeqAt.RcNeAt.int_list a N f h
  | dZ _=>cases k
  | obj _ _=>cases k
 | str a=>
  cases (show _=_ from t)
  obtain⟨N,rfl⟩:=Y
  cases e with
  | non=>
   cases (show _=_ from c)
   cases R
   exact SeqAt.RcNeAt.str_none a N
  | bl b=>
   cases (show _=_ from c)
   cases R
   exact SeqAt.RcNeAt.str_bool a N b
  | int b=>
   cases (show _=_ from c)
   obtain⟨T,rfl⟩:=R;exact SeqAt.RcNeAt.str_int a N b T
  | str b=>
   cases (show _=_ from c)
   obtain⟨T,rfl⟩:=R;exact SeqAt.RcNeAt.str_str a N b T
  | tup m=>
   obtain⟨q,ws,z,T,g⟩:=c;ext m
   cases R
   obtain⟨i,v2,f⟩:=wZ I T;exact SeqAt.RcNeAt.str_tuple a N f h
  | lst m=>
   obtain⟨q,ws,z,T,g⟩:=c;ext m
   cases R
   obtain⟨i,v2,f⟩:=GP I T;exact SeqAt.RcNeAt.str_list a N f h
  | dZ _=>cases k
  | obj _ _=>cases k
 | tup l=>
  obtain⟨p,vs,z,N,w⟩:=t;ext m
  cases Y
  obtain⟨r,v1,n⟩:=wZ I N
  cases e with
  | non=>
   cases (show _=_ from c)
   cases R
   exact SeqAt.RcNeAt.tuple_none n h
  | bl b=>
   cases (show _=_ from c)
   cases R
   exact SeqAt.RcNeAt.tuple_bool b n h
  | int b=>
   cases (show _=_ from c)
   obtain⟨T,rfl⟩:=R;exact SeqAt.RcNeAt.tuple_int b T n h
  | str b=>
   cases (show _=_ from c)
   obtain⟨T,rfl⟩:=R;exact SeqAt.RcNeAt.tuple_str b T n h
  | lst m=>
   obtain⟨q,ws,z,T,g⟩:=c;ext m
   cases R
   obtain⟨i,v2,f⟩:=GP I T;exact SeqAt.RcNeAt.tuple_list n f h
  | dZ _=>cases k
  | obj _ _=>cases k
  | tup m=>
   obtain⟨q,ws,z,T,g⟩:=c;ext m
   cases R
   obtain⟨i,v2,f⟩:=wZ I T;have P:=v1.length;have l2:=v2.length;have l3:=w.len;have l4:=g.len
   have Z:∀ j (F:j<r.toArray.size) (G:j<i.toArray.size),SeqAt.EqAt A.in1 s r.toArray[j] i.toArray[j] ((fun j=>su (l.getD j .non) (m.getD j .non)) j):=fun j F G=>by
    have B:j<r.length:=by simpa using F
    have C:j<i.length:=by simpa using G
    obtain⟨a,L,U⟩:=valAt v1 B;obtain⟨b,M,O⟩:=valAt v2 C;obtain⟨Q,E,S⟩:=w.at L;obtain⟨W,J,qb⟩:=g.at M;have:=Sy I 60 Q W A.in1 a b _ _ (by have:=qt E;rw[D.dep]at hn;omega) (mJ hd E) (mJ k J) S qb U O (by show A.in1.units+60<cLine;simp;omega);show SeqAt.EqAt _ _ _ _ (su (l.getD j .non) (m.getD j .non));rw[xg,xg,E,J]
    simpa using this
   rw[show su (D.tup l) (D.tup m)=R5 l m from by rw[su],<-xM];have:=SeqAt.RcNeAt.tuples (A:=A) (s:=s) n f h Z;ext bd;ext x
 | lst l=>
  obtain⟨p,vs,z,N,w⟩:=t;ext m
  cases Y
  obtain⟨r,v1,n⟩:=GP I N
  cases e with
  | non=>
   cases (show _=_ from c)
   cases R
   exact SeqAt.RcNeAt.list_none n h
  | bl b=>
   cases (show _=_ from c)
   cases R
   exact SeqAt.RcNeAt.list_bool b n h
  | int b=>
   cases (show _=_ from c)
   obtain⟨T,rfl⟩:=R;exact SeqAt.RcNeAt.list_int b T n h
  | str b=>
   cases (show _=_ from c)
   obtain⟨T,rfl⟩:=R;exact SeqAt.RcNeAt.list_str b T n h
  | tup m=>
   obtain⟨q,ws,z,T,g⟩:=c;ext m
   cases R
   obtain⟨i,v2,f⟩:=wZ I T;exact SeqAt.RcNeAt.list_tuple n f h
  | dZ _=>cases k
  | obj _ _=>cases k
  | lst m=>
   obtain⟨q,ws,z,T,g⟩:=c;ext m
   cases R
   obtain⟨i,v2,f⟩:=GP I T;have P:=v1.length;have l2:=v2.length;have l3:=w.len;have l4:=g.len
   have Z:∀ j (F:j<r.toArray.size) (G:j<i.toArray.size),SeqAt.EqAt A.in1 s r.toArray[j] i.toArray[j] ((fun j=>su (l.getD j .non) (m.getD j .non)) j):=fun j F G=>by
    have B:j<r.length:=by simpa using F
    have C:j<i.length:=by simpa using G
    obtain⟨a,L,U⟩:=valAt v1 B;obtain⟨b,M,O⟩:=valAt v2 C;obtain⟨Q,E,S⟩:=w.at L;obtain⟨W,J,qb⟩:=g.at M;have:=Sy I 60 Q W A.in1 a b _ _ (by have:=qt E;rw[D.dep]at hn;omega) (mJ hd E) (mJ k J) S qb U O (by show A.in1.units+60<cLine;simp;omega);show SeqAt.EqAt _ _ _ _ (su (l.getD j .non) (m.getD j .non));rw[xg,xg,E,J]
    simpa using this
   rw[show su (D.lst l) (D.lst m)=R5 l m from by rw[su],<-xM]
   by_cases o:l.length=m.length
   .have:=SeqAt.RcNeAt.lists (A:=A) (s:=s) n f (by rw[w5,w5];omega) h Z;ext am;ext x
   .have:=SeqAt.RcNeAt.lists_lengths (A:=A) (s:=s) n f (by rw[hI,hI];simp;omega) h;rw[show (l.length==m.length)=false by simpa using o,Bool.and_false];ext x
 | dZ _=>cases hd
 | obj _ _=>cases hd
end
def dD(K:dN)(ng:Bool):R2:=fun x y H Q => ∃ d e:D,Rp K H d x/\Rp K H e y/\d.dep<=60/\d.pl=true/\e.pl=true/\Q (.bl (su d e != ng)) H
section
variable{X:Cx}
def bW(f:X.A.units+64<cLine):o6 X (compareOp .Eq) (dD X.K false):=by intro _ s σ H x y v u Q I r R h;obtain⟨d,e,a,T,n,hd,i,q⟩:=h;exact rcD I n hd i a T r R f X.prog X.w X.xe _ ⟨.bl _,H,I,rfl,by simpa using q⟩
def mK(f:X.A.units+64<cLine):o6 X (compareOp .NotEq) (dD X.K true):=by intro _ s σ H x y v u Q I r R h;obtain⟨d,e,a,T,n,hd,i,q⟩:=h;exact qDI I n hd i a T r R f X.prog X.w X.xe _ ⟨.bl _,H,I,rfl,by simpa using q⟩
end
end DL
namespace PySem
open Sem (wp)
namespace Rv
end Rv
end PySem
namespace L2
open PySem PySem.Spec PyProof.Rows
def WK:o6 X (binaryOp .Add) (fun x y H Q => ∃ a b ys,x = .ref a/\y = .ref b/\tH X.K H a []/\tH X.K H b ys/\Q (.ref b) H):=by
 intro _ s σ H x y v u Q I l R h;obtain⟨a,b,ys,rfl,rfl,g,k,q⟩:=h
 cases l
 cases R
 obtain⟨_,r,P,_⟩:=I.tuple g;obtain⟨_,_,p,_⟩:=I.tuple k;have E:=r.El.mpr rfl;subst E;obtain⟨⟨_,i,_,sl⟩,j,f,n,hd⟩:=id P;obtain⟨⟨_,D,_,S⟩,e,c,N,d⟩:=id p;simp only at f hd c d;subst f hd c d;exact concat_meets ⟨_,j,rfl⟩ ⟨_,e,rfl⟩ noFill_tuple_add seq_tuple_add PySem.F.slot_tuple_add PySem.F.entry_tuple_add (PySem.F.args_tuple_add_2 _ _) (tuple_addW0 a b _ _ n N i D sl S (by simp)) ⟨j,e,⟨.ref b,H,I,rfl,q⟩⟩
end L2
namespace DL
open PySem L2
def aa:D->D->Rz W
 | .int i,.int j=>.ok (.fr (.int (i+j)))
 | .str a,.str b=>if a.length+b.length<=sizeLine then .ok (.fr (.str (a++b))) else .st
 | .lst l,.lst m=>if l.length+m.length<=sizeLine then .ok (.ow (l++m)) else .st
 | .tup l,.tup m=>if l.length+m.length<=sizeLine then .ok (.fr (.tup (l++m))) else .st
 | _,_=>.st
def bC(K:dN):R2:=fun x y H Q=>(YQ (fun i j=>.int (i+j))) x y H Q∨(∃ i j,x = .str i/\y = .str j/\i.length+j.length<=sizeLine/\Q (.str (i++j)) H)∨qDO x y H Q∨qAL K x y H Q ∨
 (∃(a b:ar)(ys:aw V),x = .ref a/\y = .ref b/\tH K H a []/\tH K H b ys/\Q (.ref b) H)
def aY{X:Cx}:o6 X (binaryOp .Add) (bC X.K):=o6.or yD (o6.or Qe (o6.or qBW (o6.or Yz WK)))
def dJ(ng:Bool)(d e:D):Rz W:=if d.dep<=60/\d.pl=true/\e.pl=true then .ok (.fr (.bl (su d e != ng))) else .st
def D.flat:D->Bool
 | .non=>true
 | .bl _=>true
 | .int _=>true
 | .str _=>true
 | _=>false
def X4(ng:Bool)(d:D)(l:aw D):Rz W:=if d.flat=true/\l.all D.flat=true then .ok (.fr (.bl ((l.any fun e=>su e d) != ng))) else .st
def inD(ng:Bool):D->D->Rz W
 | d,.lst l=>X4 ng d l
 | d,.tup l=>X4 ng d l
 | .str i,.str j=>.ok (.fr (.bl ((!(Builtin.Str.occurrences j i 0 j.length 1).isEmpty) != ng)))
 | _,_=>.st
def Uj(o:ax D):Rz W:=match o with
 | some d=>.ok (.fr d)
 | none=>.st
def bF:D->D->Rz W
 | .lst l,.int i=>Uj (xZ l i)
 | .tup l,.int i=>Uj (xZ l i)
 | .dZ l,.int i=>Uj ((xZ l i).map D.int)
 | .str z,.int i=>if z.length<=sizeLine then Uj ((xZ z.cps.toList i).map fun c=>D.str ⟨#[c]⟩) else .st
 | _,_=>.st
def az(K:dN):R2:=fun x y H Q=>qDN K x y H Q∨qDL K x y H Q∨qDM x y H Q
def YC.or{X:Cx}{r a:R2}(h:YC X r)(h':YC X a):YC X (fun x y H Q=>r x y H Q∨a x y H Q):=by
 intro e slice p s σ H x y v u Q I f R q hs;rcases q with q | q
 .exact h e slice p s σ H x y v u Q I f R q hs
 .exact h' e slice p s σ H x y v u Q I f R q hs
def bB{X:Cx}:YC X (az X.K):=YC.or yO (YC.or zH qCG)
def sH(K:dN)(ng:Bool):R2:=fun x y H Q=>rIn K ng x y H Q ∨ ∃ i j,x = .str i/\y = .str j/\Q (.bl ((!(Builtin.Str.occurrences j i 0 j.length 1).isEmpty) != ng)) H
def lV{X:Cx}:o6 X (compareOp .In) (sH X.K false):=by refine o6.or vU ?_;intro p s σ H x y v u Q I f R ⟨i,j,E,e,q⟩;exact Tz p s σ H x y v u Q I f R ⟨i,j,E,e,by simpa using q⟩
def An{X:Cx}:o6 X (compareOp .NotIn) (sH X.K true):=by refine o6.or K5 ?_;intro p s σ H x y v u Q I f R ⟨i,j,E,e,q⟩;exact K4 p s σ H x y v u Q I f R ⟨i,j,E,e,by simpa using q⟩
def VM(ng:Bool):D->D->Rz W
 | .non,.non=>.ok (.fr (.bl (!ng)))
 | _,.non=>.ok (.fr (.bl ng))
 | _,_=>.st
theorem Su{K:dN}{B:Hp}:∀ {d e:D} {x y:V},d.flat=true->e.flat=true->Rp K B d x->Rp K B e y->uT x=true/\uT y=true/\Zb x y=su d e:=by
 intro d e x y hd i h T
 cases d with
 | tup _=>cases hd
 | lst _=>cases hd
 | dZ _=>cases hd
 | obj _ _=>cases hd
 | _=>
  cases (show _=_ from h)
  cases e with
  | tup _=>cases i
  | lst _=>cases i
  | dZ _=>cases i
  | obj _ _=>cases i
  | _=>cases (show _=_ from T);exact⟨rfl,rfl,rfl⟩
theorem Xx{K:dN}{B:Hp}{l:aw D}{vs:aw V}(r:fj K B l vs){i:Int}{d:D}(h:xZ l i=some d):∃ v,xZ vs i=some v/\Rp K B d v:=by
 unfold xZ at h ⊢;rw[r.len]
 cases e:Nz l.length i with
 | none=>rw[e]at h;cases h
 | some j=>rw[e]at h;exact r.get h
theorem any_eq{K:dN}{B:Hp}{d:D}{x:V}(hd:d.flat=true)(H:Rp K B d x):∀ {l:aw D} {vs:aw V},fj K B l vs->l.all D.flat=true->vs.all uT=true/\inV x vs=l.any fun e=>su e d
 | [],_,h,_=>by cases h;exact⟨rfl,rfl⟩
 | a::l,_,⟨v,ws,e,q,r⟩,h=>by
  rw[eB,dv]at h;obtain⟨c,b⟩:=any_eq hd H r h.2;obtain⟨F,_,f⟩:=Su h.1 hd q H;ext l;refine⟨by rw[eB,F,c];rfl,?_⟩;unfold inV at b ⊢;rw[eD,eD,f,b]
section
variable{G:Gm}{ta tb:TE}{fa fb:FE}
theorem Rq.rp{K:dN}{B H:Hp}(s:bD B H):∀ {d:D} {v:V},(∀ C fs,d≠.obj C fs)->Rq K B H d v->Rp K H d v
 | .lst _,_,_,⟨p,vs,e,q,r⟩=>⟨p,vs,e,q,r.mono s⟩
 | .non,_,_,h=>h
 | .bl _,_,_,h=>h
 | .int _,_,_,h=>h
 | .str _,_,_,h=>h
 | .tup _,_,_,h=>Rp.mono (d:=.tup _) s h
 | .dZ _,_,_,h=>Rp.mono (d:=.dZ _) s h
 | .obj _ _,_,n,_=>(n _ _ rfl).elim
def qAM{d:D}(h:d.pl=true):∀ C fs,d≠.obj C fs:=fun C fs e=>by rw[e]at h;cases h
def ZX{d:D}(h:d.flat=true):∀ C fs,d≠.obj C fs:=fun C fs e=>by rw[e]at h;cases h
def ak:OD G (bC G.K) aa:=by
 intro B H ρ σ x y _ _ Q o c T h;unfold aa at h
 split at h
 .rename_i i j
  exact .inl ⟨i,j,c,T,eZ.now o h (by exact rfl)⟩
 .rename_i a b
  split at h
  .rename_i e
   exact .inr (.inl ⟨a,b,c,T,e,eZ.now o h (by exact rfl)⟩)
  .ext b
 .rename_i l m
  split at h
  .rename_i e
   obtain⟨p,vs,rfl,d,r⟩:=c;obtain⟨q,ws,rfl,f,g⟩:=T;exact .inr (.inr (.inl ⟨p,q,vs,ws,rfl,rfl,d,f,by rw[r.len,g.len];exact e,fun a k=>eZ.own o h (r.app g) k⟩))
  .ext b
 .rename_i l m
  split at h
  .rename_i e
   obtain⟨p,vs,rfl,d,r⟩:=c;obtain⟨q,ws,rfl,f,g⟩:=T;have s:=rY o.sb d;have S:=rY o.sb f
   by_cases v:vs=[]
   .subst v
    have:l=[]:=by have:=r.len;cases l with | nil=>rfl | cons a b=>cases this
    subst this;exact .inr (.inr (.inr (.inr ⟨p,q,ws,rfl,rfl,s,S,eZ.now o h ⟨q,ws,rfl,f,g⟩⟩)))
   .refine .inr (.inr (.inr (.inl ⟨p,q,vs,ws,rfl,rfl,s,S,v,by rw[r.len,g.len];exact e,fun w=>?_,fun _ a k=>eZ.tup o h (r.app g) k⟩)));subst w
    have:m=[]:=by have:=g.len;cases m with | nil=>rfl | cons a b=>cases this
    subst this;rw[qH]at h;exact eZ.now o h ⟨p,vs,rfl,d,r⟩
  .ext b
 .ext b
def bc{ng:Bool}:OD G (dD G.K ng) (dJ ng):=by
 intro B H ρ σ x y d a Q o b T h;unfold dJ at h
 split at h
 .rename_i e
  exact⟨d,a,b.rp o.sb (qAM e.2.1),T.rp o.sb (qAM e.2.2),e.1,e.2.1,e.2.2,eZ.now o h (by exact rfl)⟩
 .ext b
def nG{ng:Bool}:OD G (sH G.K ng) (inD ng):=by
 intro B H ρ σ x y d _ Q o a T h
 have k:∀(l:aw D)(vs:aw V)(q:ar),eZ G B H ρ σ Q (X4 ng d l)->fj G.K B l vs->(jx G.K H q vs∨tH G.K H q vs)->rIn G.K ng x (.ref q) H Q:=fun l vs q h r hs=>by
  unfold X4 at h
  split at h
  .rename_i e
   have F:Rp G.K H d x:=a.rp o.sb (ZX e.1);obtain⟨b,L⟩:=any_eq e.1 F (r.mono o.sb) e.2;obtain⟨f,_,_⟩:=Su e.1 e.1 F F;refine⟨q,vs,rfl,hs,f,b,?_⟩;rw[L];refine eZ.now o h ?_
   cases ng <;> simp [Rp]
  .ext b
 unfold inD at h
 split at h
 .obtain⟨q,vs,rfl,e,r⟩:=T;exact .inl (k _ vs q h r (.inl (jx.of e)))
 .obtain⟨q,vs,rfl,e,r⟩:=T;exact .inl (k _ vs q h r (.inr (rY o.sb e)))
 .exact .inr ⟨_,_,a,T,eZ.now o h (by exact rfl)⟩
 .ext b
theorem qC1{ng:Bool}{r:R2}(hr:∀ x H Q,Q (.bl (decide (x=V.non) != ng)) H->r x .non H Q):OD G r (VM ng):=by
 intro B H ρ σ x y c _ Q o b T h
 have k:∀ d:D,d≠.non->Rq G.K B H d x->x≠.non:=fun d hd q z=>by
  ext m
  cases d with
  | non=>exact hd rfl
  | tup _=>obtain⟨_,_,z,_⟩:=q;cases z
  | lst _=>obtain⟨_,_,z,_⟩:=q;cases z
  | dZ _=>obtain⟨_,z,_⟩:=q;cases z
  | obj _ _=>obtain⟨_,z⟩:=q;cases z
  | _=>cases (show _=_ from q)
 unfold VM at h
 split at h
 .cases (show _=_ from b)
  cases (show _=_ from T)
  refine hr _ _ _ (eZ.now o h ?_)
  cases ng <;> rfl
 .rename_i e
  cases (show _=_ from T)
  refine hr _ _ _ (eZ.now o h ?_);have a:=k c (fun z=>e z) b;rw[bg a]
  cases ng <;> rfl
 .ext b
theorem aX:OD G (az G.K) bF:=by
 intro B H ρ σ x y _ _ Q o c T h
 have a:∀ {O:ax D},eZ G B H ρ σ Q (Uj O)->∃ d,O=some d/\eZ G B H ρ σ Q (.ok (.fr d)):=fun {O} h=>by
  cases O with
  | none=>exact h.elim
  | some d=>exact⟨d,rfl,h⟩
 unfold bF at h
 split at h
 .rename_i l i
  obtain⟨d,e,h⟩:=a h;obtain⟨p,vs,rfl,b,r⟩:=c;obtain⟨v,E,q⟩:=Xx r e;exact .inl ⟨p,vs,i,v,rfl,T,jx.of b,E,eZ.now o h q⟩
 .rename_i l i
  obtain⟨d,e,h⟩:=a h;obtain⟨p,vs,rfl,b,r⟩:=c;obtain⟨v,E,q⟩:=Xx r e;exact .inr (.inl ⟨p,vs,i,v,rfl,T,rY o.sb b,E,eZ.now o h q⟩)
 .rename_i l i
  obtain⟨d,e,h⟩:=a h;obtain⟨p,rfl,b⟩:=c
  cases e2:xZ l i with
  | none=>rw[e2]at e;cases e
  | some k=>
   rw[e2]at e
   cases e
   refine .inl ⟨p,_,i,.int k,rfl,T,o.sb.seq b,?_,eZ.now o h (by exact rfl)⟩;unfold xZ at e2 ⊢;rw[fH]
   cases e3:Nz l.length i with
   | none=>rw[e3]at e2;cases e2
   | some j=>
    rw[e3]at e2;have f:l[j]? = some k:=e2;show (l.map V.int)[j]? = _;rw[jf,f];rfl
 .rename_i z i
  split at h
  .rename_i g
   obtain⟨d,e,h⟩:=a h
   cases e2:xZ z.cps.toList i with
   | none=>rw[e2]at e;cases e
   | some k=>
    rw[e2]at e
    cases e
    exact .inr (.inr ⟨z,i,k,c,T,g,e2,eZ.now o h (by exact rfl)⟩)
  .ext b
 .ext b
end
def D.b?:D->Rz Bool
 | .bl b=>.ok b
 | _=>.st
def aQ(f:FE):FT:=fun ρ=>(f ρ).bind fun w=>w.d.b?
def jK(a b:FT):FT:=fun ρ=>(a ρ).bind fun c=>if c=true then b ρ else .ok false
def Sx(a b:FT):FT:=fun ρ=>(a ρ).bind fun c=>if c=true then .ok true else b ρ
def vD(a:FT):FT:=fun ρ=>(a ρ).bind fun c=>.ok (!c)
def lq(a b:FE):FE:=fun ρ=>(a ρ).bind fun w=>w.d.b?.bind fun c=>if c=true then b ρ else .ok (.fr (.bl false))
def Gy(a b:FE):FE:=fun ρ=>(a ρ).bind fun w=>w.d.b?.bind fun c=>if c=true then .ok (.fr (.bl true)) else b ρ
def ie(a:FE):FE:=fun ρ=>(a ρ).bind fun w=>w.d.b?.bind fun c=>.ok (.fr (.bl (!c)))
def YS(c:FT)(a b:FE):FE:=fun ρ=>(c ρ).bind fun k=>if k=true then a ρ else b ρ
def aL:FA:=fun _=>.ok []
def aD(a:FE)(r:FA):FA:=fun ρ=>(a ρ).bind fun w=>(r ρ).bind fun ws=>.ok (w.a::ws)
def zL:aw W->Rz (aw D)
 | []=>.ok []
 | .fr d::ws=>(zL ws).bind fun l=>.ok (d::l)
 | _::_=>.st
def dR(a:FA):FE:=fun ρ=>(a ρ).bind fun ws=>(zL ws).bind fun l=>if l.length<=sizeLine then .ok (.fr (.tup l)) else .st
def eX(a:FA):FE:=fun ρ=>(a ρ).bind fun ws=>(zL ws).bind fun l=>if l.length<=sizeLine then .ok (.ow l) else .st
mutual
def D.nl:D->Bool
 | .tup l=>Qo l
 | .lst _=>false
 | .dZ _=>false
 | .obj _ _=>false
 | _=>true
def Qo:aw D->Bool
 | []=>true
 | d::l=>d.nl&&Qo l
end
def W.rst:W->Bool
 | .fr _=>true
 | _=>false
def aP(F:aw D->Rz D)(n:Nat)(a:FA):FE:=fun ρ=>(a ρ).bind fun ws=>if ws.length=n then (F (ws.map W.d)).bind fun d=>if ws.all W.rst=true∨d.nl=true then .ok (.fr d) else .st else .st
def bU(F:aw D->Rz D):aw D->Rz D:=fun ds=>match F ds with
 | .ex=>.st
 | r=>r
def cI(K:dN)(C:ar)(F:aw D->Rz D)(n:Nat):Sp:=fun vs H Q E=>vs.length=n/\∃ B ds,bD B H/\fj K B ds vs/\match F ds with
 | .ok d => ∀ v b h,bD H h->bD B b->bD b h->(∀ a o,b a=some o->B a=some o∨H a=none)->Rp K b d v->Q v h
 | .ex => ∀ h,bD H h->E (.ref C) none h
 | .st=>False
section
variable{G:Gm}{ta tb:TE}{fa fb:FE}{tc td:TT}{fc fd:FT}{tr:TA}{fr:FA}
theorem Xu{K:dN}{B H:Hp}{w:W}{v:V}{α:Type}{P:Rz α->Prop}{k:Bool->Rz α}(h:P (w.d.b?.bind k))(hs:P .st->False)(q:Rq K B H w.d v):∃ c,v = .bl c/\P (k c):=by
 cases e:w.d with
 | bl c=>
  rw[e]at h q;exact⟨c,q,h⟩
 | _=>rw[e]at h;exact (hs h).elim
theorem aq(d:DE G ta fa):DT G (Vh ta) (aQ fa):=by
 ext c;refine d.then o (P:=PT1 G B H ρ σ Q) h (fun z=>z) (fun z=>z) fun w z v f b O x a=>?_
 have Z:PT1 G B H ρ σ Q (w.d.b?.bind fun c=>.ok c):=by
  cases e:w.d with
  | _=>rw[e]at z;exact z
 obtain⟨c,e,z2⟩:=Xu Z (fun y=>y) (a.rq O.sb);exact⟨c,e,z2 f b O x⟩
def pU(d:DE G ta fa):DT G (tB ta) (aQ fa):=aq d
theorem pW(d:DT G tc fc)(b:DT G td fd):DT G (qDD tc td) (jK fc fd):=by
 ext c;ext af
 cases c with
 | true=>
  rw[cq rfl]at z ⊢;exact b e a ρ σ Q O (z.on x)
 | false=>
  rw[cn xf]at z ⊢;exact z e a O x
theorem Cq(d:DT G tc fc)(b:DT G td fd):DT G (tOr tc td) (Sx fc fd):=by
 ext c;ext af
 cases c with
 | true=>
  rw[cq rfl]at z ⊢;exact z e a O x
 | false=>
  rw[cn xf]at z ⊢;exact b e a ρ σ Q O (z.on x)
def nW(d:DT G tc fc):DT G (qDA tc) (vD fc):=by intro B H ρ σ Q o h;exact d.then o (P:=PT1 G B H ρ σ Q) h (fun z=>z) (fun z=>z) fun c z e a O x=>z e a O x
theorem kO(d:DE G ta fa)(g:DE G tb fb):DE G (qAI ta tb) (lq fa fb):=by
 ext c;ext ad;obtain⟨c,e,z2⟩:=Xu z (fun y=>y) (a.rq O.sb);refine⟨c,e,?_⟩
 cases c with
 | true=>
  rw[cq rfl]at z2 ⊢;exact g f b ρ σ Q O (z2.on x)
 | false=>
  rw[cn xf]at z2 ⊢;exact eZ.now O (z2.on x) (by exact rfl)
theorem Cr(d:DE G ta fa)(g:DE G tb fb):DE G (qD9 ta tb) (Gy fa fb):=by
 ext c;ext ad;obtain⟨c,e,z2⟩:=Xu z (fun y=>y) (a.rq O.sb);refine⟨c,e,?_⟩
 cases c with
 | true=>
  rw[cq rfl]at z2 ⊢;exact eZ.now O (z2.on x) (by exact rfl)
 | false=>
  rw[cn xf]at z2 ⊢;exact g f b ρ σ Q O (z2.on x)
def gk(d:DE G ta fa):DE G (qAE ta) (ie fa):=by intro B H ρ σ Q o h;refine d.then o (P:=eZ G B H ρ σ Q) h (fun z=>z) (fun z=>z) fun w z v _ _ O x a=>?_;obtain⟨c,e,z2⟩:=Xu z (fun y=>y) (a.rq O.sb);exact⟨c,e,eZ.now O (z2.on x) (by exact rfl)⟩
theorem Xe(f:DT G tc fc)(d:DE G ta fa)(b:DE G tb fb):DE G (tIf tc ta tb) (YS fc fa fb):=by
 ext c;refine f.then o (P:=eZ G B H ρ σ Q) h (fun z=>z) (fun z=>z) fun c z e a O x=>?_
 cases c with
 | true=>
  rw[cq rfl]at z ⊢;exact d e a ρ σ Q O (z.on x)
 | false=>
  rw[cn xf]at z ⊢;exact b e a ρ σ Q O (z.on x)
def aJ:DA G Hq aL:=fun B H ρ σ Q o h=>h [] B H o (Ext.refl _ _) rfl
theorem Hz.mono{B H c d:Hp}(M:bD B c)(s:bD H d)(g:∀ a o,c a=some o->B a=some o∨H a=none):∀ {w:W} {v:V},Hz G B H w v->Hz G c d w v
 | .fr _,_,h=>Rp.mono M h
 | .bw _,_,⟨p,vs,e,q,b,n,r⟩=>⟨p,vs,e,s _ _ q,by
   cases z:c p with
   | none=>rfl
   | some o=>rcases g _ _ z with y | y <;> simp_all,n,r.mono M⟩
 | .bj _ _,_,⟨a,e,r⟩=>⟨a,e,r.mono M s g⟩
def aA(d:DE G ta fa)(hr:DA G tr fr):DA G (Et ta tr) (aD fa fr):=by intro B H ρ σ Q o h;refine d.then o (P:=PA1 G B H ρ σ Q) h (fun z=>z) (fun z=>z) fun w z v _ _ O g q=>?_;obtain⟨_,c,X,_,z2⟩:=Own.toArg o O g q;refine hr.then c (P:=PA1 G B H ρ σ Q) z (fun y i a b=>y i a (X.sb.trans b)) (fun y=>y) fun _ y vs f k e x j=>?_;exact y (v::vs) f k e (X.trans x) ⟨v,vs,rfl,z2.mono x.sb x.sh x.gr,j⟩
theorem MF{B H:Hp}{α:Type}{P:Rz α->Prop}(hs:P .st->False):∀ {ws:aw W} {vs:aw V} {k:aw D->Rz α},P ((zL ws).bind k)->Ip G B H ws vs->∃ l,fj G.K B l vs/\P (k l)
 | [],_,_,h,q=>⟨[],q,h⟩
 | .fr d::ws,_,k,h,⟨v,us,e,q,r⟩=>by
  have h':P ((zL ws).bind fun l=>k (d::l)):=by
   rw[zL]at h
   cases e:zL ws <;> rw[e]at h <;> exact h
  obtain⟨l,R,p⟩:=MF hs (k:=fun l=>k (d::l)) h' r;exact⟨d::l,⟨v,us,e,q,R⟩,p⟩
 | .ow _::_,_,_,h,_=>(hs h).elim
 | .bw _::_,_,_,h,_=>(hs h).elim
 | .bj _ _::_,_,_,h,_=>(hs h).elim
def cU(d:DA G tr fr):DE G (qD8 tr) (dR fr):=by
 ext c;ext f;obtain⟨l,R,z2⟩:=MF (fun y=>y) z a
 split at z2
 .rename_i e
  exact⟨by rw[R.len];exact e,fun p b=>eZ.tup O (z2.on x) R b⟩
 .exact z2.elim
def dG(d:DA G tr fr):DE G (qDB tr) (eX fr):=by
 ext c;ext f;obtain⟨l,R,z2⟩:=MF (fun y=>y) z a
 split at z2
 .rename_i e
  exact⟨by rw[R.len];exact e,fun p b=>eZ.own O (z2.on x) R b⟩
 .exact z2.elim
mutual
theorem S7{K:dN}{B b:Hp}(s:∀ a xs,tH K B a xs->tH K b a xs):∀ {d:D} {v:V},d.nl=true->Rp K B d v->Rp K b d v
 | .non,_,_,h=>h
 | .bl _,_,_,h=>h
 | .int _,_,_,h=>h
 | .str _,_,_,h=>h
 | .tup _,_,n,⟨p,vs,e,q,r⟩=>⟨p,vs,e,s _ _ q,We s n r⟩
theorem We{K:dN}{B b:Hp}(s:∀ a xs,tH K B a xs->tH K b a xs):∀ {l:aw D} {vs:aw V},Qo l=true->fj K B l vs->fj K b l vs
 | [],_,_,h=>h
 | _::_,_,n,⟨v,ws,e,q,r⟩=>by
  rw[Qo,dv]at n;exact⟨v,ws,e,S7 s n.1 q,We s n.2 r⟩
end
theorem oZ.rpf{B H f:Hp}(S:bD B f):∀ {fs:aw (Str×Fm)} {Q:aw (Str×V)},oZ G B H fs Q->(∀ a∈adr fs Q,∀ o,H a=some o->f a=some o)->Pn G.K f (fs.map fun x=>(x.1,x.2.d)) Q
 | [],_,h,_=>h
 | (_,.va _)::_,_,⟨v,ws,e,q,r⟩,k=>by
  ext l;refine⟨v,ws,rfl,q.mono S,oZ.rpf S r fun a d=>k a ?_⟩
  cases v <;> exact d
 | (_,.li _)::_,_,⟨p,ws,vs,e,h,n,N,q,r⟩,k=>by
  ext l;exact⟨.ref p,ws,rfl,⟨p,vs,rfl,k p qK _ h,q.mono S⟩,oZ.rpf S r fun a d=>k a (rM _ d)⟩
theorem oZ.lies{B H:Hp}:∀ {fs:aw (Str×Fm)} {Q:aw (Str×V)},oZ G B H fs Q->∀ a∈adr fs Q,B a=none/\G.H0 a=none/\∃ us,H a=some (.lst us)
 | [],_,h,a,d=>by cases (show _=_ from h);cases d
 | (_,.va _)::_,_,⟨v,ws,e,q,r⟩,a,d=>by
  ext l;refine oZ.lies r a ?_
  cases v <;> exact d
 | (_,.li _)::_,_,⟨p,ws,vs,e,h,n,N,q,r⟩,a,d=>by
  ext l;rcases jL.mp d with rfl | d
  .exact⟨n,N,vs,h⟩
  .exact oZ.lies r a d
theorem Ep{B H:Hp}(M:bD B H):∀ {ws:aw W} {vs:aw V},Ip G B H ws vs->∃ P:ar->Prop,(∀ a,P a->B a=none/\G.H0 a=none/\((∃ us,H a=some (.lst us)) ∨ ∃ C D fs,H a=some (.ins C D fs)))/\(ws.all W.rst=true->∀ a,¬ P a) ∧
  ∀ g,bD B g->(∀ a o,P a->H a=some o->g a=some o)->fj G.K g (ws.map W.d) vs
 | [],_,h=>⟨fun _=>False,fun _ h=>h.elim,fun _ _ h=>h,fun _ _ _=>h⟩
 | .fr d::ws,_,⟨v,us,e,q,r⟩=>by
  obtain⟨P,p,j,i⟩:=Ep M r;refine⟨P,p,fun h=>j ?_,fun g S f=>⟨v,us,e,Rp.mono S q,i g S f⟩⟩;rw[eB,dv]at h;exact h.2
 | .bw l::ws,_,⟨v,us,e,⟨a,vs,E,Q,k,n,U⟩,r⟩=>by
  obtain⟨P,p,j,i⟩:=Ep M r;refine⟨fun b=>b=a∨P b,fun b c=>?_,fun h=>?_,fun g S f=>⟨v,us,e,⟨a,vs,E,f a _ (.inl rfl) Q,U.mono S⟩,i g S fun b o c=>f b o (.inr c)⟩⟩
  .rcases c with rfl | c
   .exact⟨k,n,.inl ⟨vs,Q⟩⟩
   .exact p b c
  .rw[eB,dv]at h;exact d6 h.1 xf
 | .bj C fs::ws,_,⟨v,us,e,⟨a,E,D,m,Q,k,n,U,_⟩,r⟩=>by
  obtain⟨P,p,j,i⟩:=Ep M r;refine⟨fun b=>(b=a∨b∈adr fs m)∨P b,fun b c=>?_,fun h=>?_,fun g S f=>⟨v,us,e,⟨a,D,m,E,f a _ (.inl (.inl rfl)) Q,U.rpf S fun b c o u=>f b o (.inl (.inr c)) u⟩,i g S fun b o c=>f b o (.inr c)⟩⟩
  .rcases c with (rfl | c) | c
   .exact⟨k,n,.inr ⟨_,_,_,Q⟩⟩
   .obtain⟨t,f,s⟩:=U.lies b c;exact⟨t,f,.inl s⟩
   .exact p b c
  .rw[eB,dv]at h;exact d6 h.1 xf
theorem Ip.len{B H:Hp}:∀ {ws:aw W} {vs:aw V},Ip G B H ws vs->vs.length=ws.length
 | [],_,h=>by cases h;rfl
 | _::_,_,⟨v,us,e,_,r⟩=>by rw[e,gH,gH,Ip.len r]
open Classical in
theorem Lg{F:aw D->Rz D}{n:Nat}{B H c b:Hp}{ρ:aw Sl}{σ:St}{Q:VK}{E:XK}{ws:aw W}{vs:aw V}(O:Own G c b ρ σ)(X:Ext B H c b)(q:Ip G c b ws vs)(w:ws.length=n)
  (y:F (ws.map W.d) = .ex->∀ j,bD b j->E (.ref G.C) none j)
  (h:eZ G B H ρ σ Q ((F (ws.map W.d)).bind fun d=>if ws.all W.rst=true∨d.nl=true then .ok (.fr d) else .st)):cI G.K G.C F n (vs++[]) b Q E:=by
 obtain⟨P,p,J,L⟩:=Ep O.sb q
 have o:bD c (fun a=>if P a then b a else c a):=fun a u e=>by
  show (if P a then b a else c a)=_;rw[cn fun z=>by rw[(p a z).1]at e;cases e];exact e
 rw[qH];refine⟨by rw[q.len];exact w,fun a=>if P a then b a else c a,ws.map W.d,fun a u e=>?_,L _ o fun a u z e=>?_,?_⟩
 .have g:(if P a then b a else c a)=some u:=e
  split at g
  .exact g
  .exact O.sb _ _ g
 .show (if P a then b a else c a)=some u;rw[cq z];exact e
 cases ef:F (ws.map W.d) with
 | st=>rw[ef]at h;exact h
 | ex=>exact y ef
 | ok d=>
  rw[ef]at h;intro v f j m M T A r;have h':eZ G B H ρ σ Q (if ws.all W.rst=true∨d.nl=true then .ok (.fr d) else .st):=h
  split at h'
  .rename_i i
   have S:bD c (fun a=>if P a then none else f a):=fun a u e=>by
    show (if P a then none else f a)=some u;rw[cn fun z=>by rw[(p a z).1]at e;cases e];exact M _ _ (o _ _ e)
   have l:∀ a u,(if P a then none else f a)=some u->c a=some u∨b a=none:=fun a u e=>by
    split at e
    .cases e
    .rename_i N
     rcases A a u e with z | z
     .have Z:(if P a then b a else c a)=some u:=z;rw[cn N]at Z;exact .inl Z
     .exact .inr z
   have s:bD (fun a=>if P a then none else f a) j:=fun a u e=>by
    have g:(if P a then none else f a)=some u:=e
    split at g
    .cases g
    .exact T _ _ g
   refine h' v (fun a=>if P a then none else f a) j (O.ext ⟨S,m,l⟩ s) (X.trans ⟨S,m,l⟩) ?_
   .rcases i with i | i
    .refine Rp.mono (fun a u e=>?_) r;show (if P a then none else f a)=some u;rw[cn (J i a)];exact e
    .refine S7 (fun a _ t=>?_) i r
     have ne:∀ u,f a=some u->(∀ ys,u≠.lst ys)->(∀ C x fs,u≠.ins C x fs)->¬ P a:=fun u e I k z=>by
      obtain⟨_,_,U⟩:=p a z;rcases U with ⟨us,U⟩ | ⟨C,x,fs,U⟩
      .have:=M a _ (by show (if P a then b a else c a)=_;rw[cq z];exact U);rw[e]at this
       cases this
       exact I us rfl
      .have:=M a _ (by show (if P a then b a else c a)=_;rw[cq z];exact U);rw[e]at this
       cases this
       exact k _ _ _ rfl
     rcases t with (t | ⟨ob,t⟩) | t
     .refine .inl (.inl ?_);show (if P a then none else f a)=_;ext bg
     .refine .inl (.inr ⟨ob,?_⟩);show (if P a then none else f a)=_;ext bg
     .exact .inr t
  .exact h'.elim
def eU{α:Type}{P:Rz α->Prop}{c:Prop} [Decidable c] {a:Rz α} (h:P (if c then a else .st)) (hs:P .st->False):c/\P a:=by
 split at h
 .rename_i e
  exact⟨e,h⟩
 .exact (hs h).elim
def de_call{F:aw D->Rz D}{n:Nat}(d:DA G tr fr):DE G (RZ (cI G.K G.C F n) [] G.E tr) (aP F n fr):=by intro B H ρ σ Q o h;refine d.then o (P:=eZ G B H ρ σ Q) h (fun z=>z) (fun z=>z) fun _ z _ _ _ O x a=>?_;obtain⟨f,z⟩:=eU z (fun y=>y);refine Lg O x a f (fun e b s=>?_) z;rw[e]at z;exact z b (O.s0.trans s) ((x.sb.trans O.sb).trans s)
def aM{F:aw D->Rz D}{n:Nat}{C:ar}(b:C=G.C)(d:DA G tr fr):DE G (RZ (cI G.K C F n) [] E0 tr) (aP (bU F) n fr):=by
 ext c;ext f;obtain⟨f,z⟩:=eU z (fun y=>y);subst b;refine Lg O x a f (fun e=>?_) ?_
 .unfold bU at z;rw[e]at z;ext ap
 .unfold bU at z
  split at z
  .ext ap
  .exact z
end
inductive Fl where
 | nx (ρ:List Sl) | ret (d:D) (ρ:Option (List Sl)) | bk (ρ:List Sl) | ct (ρ:List Sl)
abbrev FS:=aw Sl->Rz Fl
structure Hn(G:Gm)(B B':Hp):Prop where
 sb:bD B B'
 gr:∀ a o,B' a=some o->B a=some o∨G.H0 a=none
def Hn.refl(G:Gm)(B:Hp):Hn G B B:=⟨bD.refl _,fun _ _ h=>.inl h⟩
def Hn.trans{G:Gm}{B e f:Hp}(a:Hn G B e)(b:Hn G e f):Hn G B f:=⟨a.sb.trans b.sb,fun x o h=>(b.gr x o h).elim (a.gr x o) .inr⟩
def Ext.s{G:Gm}{B H b c:Hp}{ρ:aw Sl}{σ:St}(o:Own G B H ρ σ)(x:Ext B H b c):Hn G B b:=⟨x.sb,fun a u h=>(x.gr a u h).imp id fun z=>o.s0.free z⟩
def uX(G:Gm)(B:Hp)(D:Ends):Rz Fl->Prop
 | .ok (.nx ρ) => ∀ σ' b H,Own G b H ρ σ'->Hn G B b->D.nx σ' H
 | .ok (.bk ρ) => ∀ σ' b H,Own G b H ρ σ'->Hn G B b->D.bk σ' H
 | .ok (.ct ρ) => ∀ σ' b H,Own G b H ρ σ'->Hn G B b->D.ct σ' H
 | .ok (.ret d r) => ∀ v b H,bD G.H0 H->bD b H->Hn G B b->(∀ ρ,r=some ρ->∃ σ',Own G b H ρ σ')->Rp G.K b d v->D.rt v H
 | .ex => ∀ H,bD G.H0 H->bD B H->G.E (.ref G.C) none H
 | .st=>False
theorem uX.on{G:Gm}{B e:Hp}{D:Ends}(x:Hn G B e):∀ {r:Rz Fl},uX G B D r->uX G e D r
 | .ok (.nx _),h=>fun σ' c H o y=>h σ' c H o (x.trans y)
 | .ok (.bk _),h=>fun σ' c H o y=>h σ' c H o (x.trans y)
 | .ok (.ct _),h=>fun σ' c H o y=>h σ' c H o (x.trans y)
 | .ok (.ret _ _),h=>fun v c H a b y=>h v c H a b (x.trans y)
 | .ex,h=>fun H a b=>h H a (x.sb.trans b)
 | .st,h=>h
def DS(G:Gm)(t:TS)(g:FS):Prop:=∀ B H ρ σ D,Own G B H ρ σ->uX G B D (g ρ)->t D σ H
def aU(a b:FS):FS:=fun ρ=>(a ρ).bind fun f=>match f with
 | .nx ρ'=>b ρ'
 | f=>.ok f
def bJ:FS:=fun ρ=>.ok (.nx ρ)
def Fd:FS:=fun _=>.st
def eV(c:FT)(a b:FS):FS:=fun ρ=>(c ρ).bind fun k=>if k=true then a ρ else b ρ
def W.out:W->Rz D
 | .bj _ _=>.st
 | w=>.ok w.d
def W.rs:W->aw Sl->ax (aw Sl)
 | .bw _,_=>none
 | _,ρ=>some ρ
def bO(f:FE):FS:=fun ρ=>(f ρ).bind fun w=>w.out.bind fun d=>.ok (.ret d (w.rs ρ))
def iW(f:FE):FS:=fun ρ=>(f ρ).bind fun _=>.ok (.nx ρ)
def W.sl:W->Rz Sl
 | .fr d=>.ok (.fr d)
 | .ow l=>.ok (.ow l)
 | _=>.st
def uW(i:Nat)(f:FE):FS:=fun ρ=>(f ρ).bind fun w=>w.sl.bind fun s=>.ok (.nx (ρ.set i s))
section
variable{G:Gm}{ta tb:TE}{fa fb:FE}{tc td:TT}{fc fd:FT}{t u:TS}{a b:FS}
theorem aN(i:DS G t a)(j:DS G u b):DS G (Vi t u) (aU a b):=by
 ext g;refine i B H ρ σ { D with nx:=u D } o ?_;unfold aU at h
 cases e:a ρ with
 | st=>rw[e]at h;exact h
 | ex=>rw[e]at h;exact h
 | ok f=>
  rw[e]at h
  cases f with
  | nx ρ'=>exact fun σ' c g O y=>j c g ρ' σ' D O (uX.on y h)
  | bk ρ'=>exact h
  | ct ρ'=>exact h
  | ret d r=>exact h
def bG:DS G qAF bJ:=fun B H _ σ _ o h=>h σ B H o (Hn.refl _ _)
def zf:DS G Vj Fd:=fun _ _ _ _ _ _ h=>h
theorem cD(i:DT G tc fc)(f:DS G t a)(g:DS G u b):DS G (qBI tc t u) (eV fc a b):=by
 ext g;refine i.then o (P:=uX G B D) h (fun z=>z) (fun z=>z) fun c z e d O x=>?_
 cases c with
 | true=>
  rw[cq rfl]at z ⊢;exact f e d ρ σ D O (uX.on (x.s o) z)
 | false=>
  rw[cn xf]at z ⊢;exact g e d ρ σ D O (uX.on (x.s o) z)
theorem told{B H c f:Hp}{ρ:aw Sl}{σ:St}{D:Ends}{w:W}{v:V}(o:Own G B H ρ σ)(O:Own G c f ρ σ)(x:Ext B H c f)(q:xV G H c f w v)(h:uX G B D (w.out.bind fun d=>.ok (.ret d (w.rs ρ)))):D.rt v f:=by
 cases w with
 | fr d=>exact h v c f O.s0 O.sb (x.s o) (fun r e=>by cases e;exact⟨σ,O⟩) q
 | ow l=>
  obtain⟨p,vs,e,n,Q,b,r⟩:=q;obtain⟨g,X⟩:=O.rest x o n Q b
  have S:bD c (upd c p (.lst vs)):=fun a y e=>by rw[zR (zN e b)];exact e
  exact h v _ f g.s0 g.sb (X.s o) (fun r e=>by cases e;exact⟨σ,g⟩) ⟨p,vs,e,zC,r.mono S⟩
 | bw l=>
  obtain⟨p,vs,e,Q,b,n,r⟩:=q
  have S:bD c (upd c p (.lst vs)):=fun a y e=>by rw[zR (zN e b)];exact e
  refine h v (upd c p (.lst vs)) f O.s0 (fun a u z=>?_) ⟨x.sb.trans S,fun a u z=>?_⟩ (fun r e=>by cases e) ⟨p,vs,e,zC,r.mono S⟩
  .by_cases y:a=p
   .subst y;rw[zC]at z;rw[<-z];exact Q
   .rw[zR y]at z;exact O.sb _ _ z
  .by_cases y:a=p
   .subst y;exact .inr n
   .rw[zR y]at z;exact (x.s o).gr _ _ z
 | bj C fs=>exact h.elim
def ao(d:DE G ta fa):DS G (qBH ta) (bO fa):=by intro B H ρ σ D o h;exact d.then o (P:=uX G B D) h (fun z=>z) (fun z=>z) fun w z v _ _ O x a=>told o O x a z
def fG(d:DE G ta fa):DS G (Ma ta) (iW fa):=by intro B H ρ σ D o h;exact d.then o (P:=uX G B D) h (fun z=>z) (fun z=>z) fun w z v e a O x _=>z σ e a O (x.s o)
def Kd{H:Hp}{ρ:aw Sl}{σ:St}{i j:Nat}{s:Sl}{v:V}{a:ar}(b:j≠i)(h:Oa H (ρ.set i s) (σ.set i (some v)) j a):Oa H ρ σ j a:=by
 rcases h with ⟨l,E,e⟩ | ⟨C,fs,A,d,Q,E,e,U,c⟩
 .rw[cv (bE b)]at E e;exact .inl ⟨l,E,e⟩
 .rw[cv (bE b)]at E e;exact .inr ⟨C,fs,A,d,Q,E,e,U,c⟩
def Own.set{B H:Hp}{ρ:aw Sl}{σ:St}(o:Own G B H ρ σ){i:Nat}{s:Sl}{v:V}(n:∀ l,s≠.bo l)(F:∀ d,s = .fr d->Rp G.K B d v)
  (w:∀ l,s = .ow l->∃ p vs,v = .ref p/\H p=some (.lst vs)/\B p=none/\G.H0 p=none/\fj G.K B l vs) (J:∀ C fs,s = .ob C fs->G.sf=none/\∃ p,v = .ref p/\Ob G B H C fs p)
  (m:∀ a,Oa H [s] [some v] 0 a->∀ j,j≠i->¬ Oa H ρ σ j a):Own G B H (ρ.set i s) (σ.set i (some v)):=by
 have r:=o.len
 have f:∀ {s':Sl},(ρ.set i s)[i]? = some s'->s'=s/\i<ρ.length:=fun {s'} e=>by
  by_cases c:i<ρ.length
  .rw[cw c]at e
   cases e
   exact⟨rfl,c⟩
  .rw[List.getElem?_eq_none (by rw[fN];omega)]at e
   cases e
 have S:i<ρ.length->(σ.set i (some v))[i]? = some (some v):=fun c=>cw (by omega);refine⟨o.sb,o.s0,by rw[fN,fN];exact r,fun j d e=>?_,fun j l e=>?_,fun j l e=>?_,fun j C fs e=>?_,fun j k a b g=>?_,fun j a C fs Q e=>?_⟩
 .by_cases z:j=i
  .ext m;obtain⟨E,c⟩:=f e;exact⟨v,S c,F d E.symm⟩
  .ext aq;exact o.fr j d e
 .by_cases z:j=i
  .ext m;obtain⟨E,c⟩:=f e;obtain⟨p,vs,b,q⟩:=w l E.symm;subst b;exact⟨p,vs,S c,q⟩
  .ext aq;exact o.ow j l e
 .by_cases z:j=i
  .ext m;obtain⟨E,c⟩:=f e;exact (n l E.symm).elim
  .ext aq;exact o.bo j l e
 .by_cases z:j=i
  .ext m;obtain⟨E,c⟩:=f e;obtain⟨_,p,b,q⟩:=J C fs E.symm;subst b;exact⟨p,S c,q⟩
  .ext aq;exact o.ob j C fs e
 .have one:Oa H (ρ.set i s) (σ.set i (some v)) i a->Oa H [s] [some v] 0 a:=fun h=>by
   rcases h with ⟨l,x,X⟩ | ⟨C,fs,A,D,I,x,X,t,u⟩
   .obtain⟨E,c⟩:=f x;rw[S c]at X;subst E;exact .inl ⟨l,rfl,X⟩
   .obtain⟨E,c⟩:=f x;rw[S c]at X;subst E;exact .inr ⟨C,fs,A,D,I,rfl,X,t,u⟩
  by_cases z:j=i
  .ext m
   by_cases y:k=j
   .exact y.symm
   .exact (m a (one b) k y (Kd y g)).elim
  .by_cases y:k=i
   .subst y;exact (m a (one g) j z (Kd z b)).elim
   .exact o.ap j k a (Kd z b) (Kd y g)
 .by_cases z:j=i
  .ext m;obtain⟨E,c⟩:=f e;rw[(J C fs E.symm).1]at Q
   cases Q
  .ext aq;exact o.sf j a C fs Q e
def qAP{H:Hp}{d:D}{v:V}{a:ar}(h:Oa H [.fr d] [some v] 0 a):False:=by
 rcases h with ⟨l,E,_⟩ | ⟨C,fs,A,x,Q,E,_⟩
 .cases (show some _=some _ from E)
 .cases (show some _=some _ from E)
def Own.oaH{B H:Hp}{ρ:aw Sl}{σ:St}(o:Own G B H ρ σ){j:Nat}{a:ar}(h:Oa H ρ σ j a):∃ u,H a=some u:=by
 rcases h with ⟨l,E,e⟩ | ⟨C,fs,A,d,Q,E,e,U,c⟩
 .obtain⟨p,_,z1,z2,_⟩:=o.ow j l E;rw[e]at z1
  cases z1
  exact⟨_,z2⟩
 .rcases c with rfl | c
  .exact⟨_,U⟩
  .obtain⟨_,z1,_,_,z2,_,_,r,_⟩:=o.ob j C fs E;rw[e]at z1
   cases z1
   rw[U]at z2
   cases z2
   obtain⟨_,_,_,z⟩:=r.lies a c;exact⟨_,z⟩
theorem Own.put{B H f c:Hp}{ρ:aw Sl}{σ:St}(o:Own G B H ρ σ)(O:Own G f c ρ σ)(x:Ext B H f c){w:W}{v:V}(q:xV G H f c w v){i:Nat}{s:Sl}(e:w.sl = .ok s):Own G f c (ρ.set i s) (σ.set i (some v)):=by
 cases w with
 | fr d=>
  cases e
  exact O.set (fun _=>nofun) (fun d' z=>by cases z;exact q) (fun l z=>by cases z) (fun _ _ z=>by cases z) fun a h=>(qAP h).elim
 | ow l=>
  cases e
  obtain⟨p,vs,e,n,Q,b,r⟩:=q;refine O.set (fun _=>nofun) (fun d' z=>by cases z) (fun l z=>by cases z;exact⟨p,vs,e,Q,b,o.s0.free n,r⟩) (fun _ _ z=>by cases z) fun a h j _ m=>?_
  have g:a=p:=by
   rcases h with ⟨l,E,k⟩ | ⟨C,fs,A,D,t,E,_⟩
   .ext l
    cases (show some _=some _ from k)
    rfl
   .cases (show some _=some _ from E)
  obtain⟨u,z⟩:=o.oaH (o.oa x.sh m);rw[g,n]at z
  cases z
 | bw l=>cases e
 | bj _ _=>cases e
theorem rJ{i:Nat}(d:DE G ta fa):DS G (Q4 ta (Ck i)) (uW i fa):=by
 ext g;refine d.then o (P:=uX G B D) h (fun z=>z) (fun z=>z) fun w z v c b O x a=>?_
 cases e:w.sl with
 | ok s=>
  rw[e]at z;exact z _ c b (o.put O x a e) (x.s o)
 | ex=>rw[e]at z;cases w <;> cases e
 | st=>rw[e]at z;exact z.elim
end
def fin:Rz Fl->Rz D
 | .ok (.nx _)=>.ok .non
 | .ok (.ret d _)=>.ok d
 | .ok _=>.st
 | .ex=>.ex
 | .st=>.st
def start(n:Nat)(ds:aw D):aw Sl:=ds.map Sl.fr++List.replicate (n-ds.length) .no
def dj(n:Nat)(g:FS)(ds:aw D):Rz D:=fin (g (start n ds))
theorem Ah{K:dN}{H B:Hp}{E:XK}{C:ar}{N:aw Str}{ds:aw D}{vs:aw V}(M:bD B H)(r:fj K B ds vs)(h:vs.length<=N.length):Own ⟨K,H,E,C,none⟩ B H (start N.length ds) (L2.start N vs):=by
 have f:=r.len;refine⟨M,bD.refl _,?_,fun i d e=>?_,fun i l e=>?_,fun i l e=>?_,fun i C fs e=>?_,fun i j a h _=>?_,fun _ _ _ _ Q=>by cases Q⟩
 .unfold start L2.start;rw[jB,jB,fH,fH,cx,cx];omega
 .unfold start at e;unfold L2.start
  by_cases c:i<ds.length
  .ext ab;rw[VJ (by rw[fH];omega),jf]
   cases e2:ds[i]? with
   | none=>rw[e2]at e;cases e
   | some d'=>
    rw[e2]at e
    cases e
    obtain⟨v,U,q⟩:=r.get e2;exact⟨v,by rw[U];rfl,q⟩
  .ext ag
   split at e <;> cases e
 rotate_right
 .have no:∀ s',(start N.length ds)[i]? = some s'->(∃ d,s' = .fr d)∨s' = .no:=fun s' e=>by
   unfold start at e
   by_cases c:i<ds.length
   .ext ab
    cases e2:ds[i]? with
    | none=>rw[e2]at e;cases e
    | some d'=>rw[e2]at e;cases e;exact .inl ⟨_,rfl⟩
   .ext ag
    split at e <;> cases e
    exact .inr rfl
  rcases h with ⟨l,b,_⟩ | ⟨C,fs,A,x,g,b,_⟩
  .rcases no _ b with ⟨d,z⟩ | z <;> cases z
  .rcases no _ b with ⟨d,z⟩ | z <;> cases z
 all_goals
  unfold start at e
  by_cases c:i<ds.length
  .ext ab
   cases e2:ds[i]? with
   | none=>rw[e2]at e;cases e
   | some d'=>rw[e2]at e;cases e
  .ext ag
   split at e <;> cases e
theorem qCW{K:dN}{H:Hp}{E:XK}{C:ar}{N ps:aw Str}{g:FS}{t:TS}{vs:aw V}{Q:VK}(p:N.take ps.length=ps)(h:cI K C (dj N.length g) ps.length vs H Q E)(hd:DS ⟨K,H,E,C,none⟩ t g) :
  t { nx:=fun _ c=>Q .non c,rt:=Q } (L2.start N vs) H:=by
 obtain⟨_,B,ds,M,r,q⟩:=h
 have j:ps.length<=N.length:=by
  have:=congrArg List.length p;rw[pF]at this;omega
 refine hd B H _ _ _ (Ah M r (by omega)) ?_;unfold dj at q
 cases e:g (start N.length ds) with
 | st=>rw[e]at q;exact q
 | ex=>rw[e]at q;exact fun c a _=>q c a
 | ok f=>
  rw[e]at q
  cases f with
  | nx ρ=>exact fun σ' i c o x=>q .non i c o.s0 x.sb o.sb x.gr (by exact rfl)
  | ret d r=>exact fun v i c a b x _ y=>q v i c a x.sb b x.gr y
  | bk ρ=>exact q.elim
  | ct ρ=>exact q.elim
section
variable{P:ag}{w:ay}{K:dN}{mg:Str->ax av}{base:Heap}
def mL{x q:Str}{st:Stmt}{f:ar}{d:af}{N ps:aw Str}{k:Nat}{C:ar}{g:FS}(F:iU K x q st f d)(S:au N ps (aV st))
  (b:∀(c:av)(A:ah)(o:aw Env)(s:ae)(H:Hp)(E:XK),mV k (A.deeper (PyProof.Rows.envOfC q (aV st) s.heap.objs.size f c)) →
   ∃ t,Pq (Oj bZ P w K mg base N q (aV st) f c A o s H E).nox (oX st) t/\DS ⟨K,H,E,C,none⟩ t g):cM P w K mg base bZ (k+1) f d ps (cI K C (dj N.length g) ps.length):=by refine F.ok S (fun vs H Q E h=>h.1) fun c A o s H vs Q E hr h=>?_;obtain⟨t,a,e⟩:=b c A o s H E hr;exact⟨t,a,qCW S.pre h e⟩
end
end DL
namespace HT
open PySem PySem.Spec PyProof.Rows
def vp{v u:av}{lo e:ax Int}{Q:av->ae->Prop}(g:IsTup s.heap t items)(hs:s.heap.IsSliceOf sl v u .none)(pl:IsPart v lo)(p:IsPart u e)
  (d:iy items.size 0 lo=0/\iy items.size items.size e=items.size) (h:Q (.ref t) s):wpAny (model prog w) A (getItem (.ref t) (.ref sl)) Q E s:=by
 obtain⟨os,a,H,_⟩:=id hs;have c:s.TypeIs (.ref sl) "slice" := ⟨os,a,H⟩;unfold getItem
 try with_reducible refine c9 ?_
 first | refine aE (aI ?_) | skip
 refine aE (wpAny_sequenceKey g.typeIs (by decide) ?_)
 refine aE (wpAny_callSpecial?_slot g.typeIs ka
  (wpAny_call_entry ka g.typeIs entry_tuple_getitem ?_ (args_tuple_getitem _ _)))
 show wpAny _ _ (Builtin.Tuple.tupleItemsOf (.ref t) >>= _) _ _ s;refine aE (tupleItemsOf_ g ?_);refine aE (wpAny_typeOf c ?_);rw[cq (by decide)];refine aE (rT hs pl p ?_)
 have q:(((iy items.size 0 lo:Nat):Int)==0&&(1:Int)==1&&(iy items.size items.size e-iy items.size 0 lo)==items.size)=true:=by
  rw[d.1,d.2];simp
 show wpAny _ _ (if (((iy items.size 0 lo:Nat):Int)==0&&(1:Int)==1&&(iy items.size items.size e-iy items.size 0 lo)==items.size)=true then _ else _) _ _ s;rw[cq q]
 have x:wpAny (model prog w) A.in1 (Builtin.Tuple.tupleIsExact (Value.ref t)) (fun b s'=>b=true/\s'=s) (fun _ _=>False) s:=by
  unfold Builtin.Tuple.tupleIsExact;exact aE (wpAny_typeOf g.typeIs (aI ⟨by decide,rfl⟩))
 refine aE (bX x (fun b s' ⟨f,i⟩=>?_) (fun _ _ z=>z.elim));subst f i;rw[cq rfl];exact aE (wpAny_rule (aI ⟨_,rfl,aI h⟩))
end HT
namespace L2
open PySem PySem.Spec PyProof.Rows
def qDK(K:dN):V->ax Int->ax Int->Hp->VK->Prop:=fun x lo e H Q => ∃ a xs,x = .ref a/\tH K H a xs ∧
 ((HT.iy xs.length 0 lo=0/\HT.iy xs.length xs.length e=xs.length)->Q (.ref a) H)/\(¬ (HT.iy xs.length 0 lo=0/\HT.iy xs.length xs.length e=xs.length)->∀ p,H p=none->Q (.ref p) (upd H p (.tup (Ld xs lo e))))
def Yh:VR X (qDK X.K):=by
 intro p s σ H x v l u lo e sl Q I f hs pl P h;obtain⟨a,xs,rfl,b,j,d⟩:=h
 by_cases c:HT.iy xs.length 0 lo=0/\HT.iy xs.length xs.length e=xs.length
 .cases f;obtain⟨i,r,g,_⟩:=I.tuple b
  have n:i.toArray.size=xs.length:=by rw[w5];exact r.length.symm
  ext ak;exact HT.vp g hs pl P (by rw[n];exact c) ⟨.ref a,_,I,rfl,j c⟩
 .exact qBL p s σ H _ v l u lo e sl Q I f hs pl P ⟨a,xs,rfl,b,c,d c⟩
def range_any(n:Nat)(f:Nat->Bool)(bs:aw Bool)(l:bs.length=n)(c:∀ i b,bs[i]? = some b->f i=b):(List.range n).any f=bs.any id:=by
 rw[dQ,List.any_eq_true,List.any_eq_true];constructor
 .rintro⟨i,a,h⟩
  have H:i<bs.length:=by rw[l];exact gz.mp a
  rw[c i _ (wF H)]at h;exact⟨_,TY H,h⟩
 .rintro⟨b,hb,h⟩;obtain⟨i,e⟩:=gy.mp hb;have a:=(rO.mp e).1;exact⟨i,gz.mpr (by lia),by rw[c i b e];exact h⟩
def V6(B:X.calm=true):nP X (.builtin "any") (fun xs H Q => ∃(p:ar)(bs:aw Bool),xs=[.ref p]/\jx X.K H p (bs.map V.bl)/\Q (.bl (bs.any id)) H):=by
 ext aa;obtain⟨p,bs,rfl,l,q⟩:=h;obtain⟨u,rfl,C⟩:=vals1 r
 cases C
 obtain⟨a,R,pl,_⟩:=I.list l;have n:=R.length;rw[fH]at n
 have t:p<s.heap.objs.size:=by
  obtain⟨o,y,_⟩:=pl.isList;exact rN y
 refine call_any_walk (wpAny_pyIter_list pl.isList ?_)
 refine⟨s.heap.objs.size,[s.heap.objs.size,p],[s.heap.objs.size],a.toArray.size,fun i v=>a.toArray[i]? = some v,fun i h=>h.IsListIter s.heap.objs.size p i/\h.IsList p a.toArray,fun i=>(bs[i]?).getD true,rfl,
  Walks.list (A:=X.A.in1) (I.ok.hd B) _ _ (Aa t) _,⟨⟨_,Ab _ rfl,rfl,rfl⟩,pl.isList.at fun o e=>tO _ e⟩,?_,?_⟩
 .intro i v s' m _ g f
  have w:i<bs.length:=by
   have:=(de.mp g).1;simp only[List.size_toArray]at this;lia
  have e:bs[i]? = some bs[i]:=wF w;obtain⟨u,j,Y⟩:=R.get (i:=i) (x:=V.bl bs[i]) (by rw[jf,e];rfl)
  have c:a[i]? = some v:=by simpa using g
  rw[j]at c
  cases c
  cases Y
  have d:m ((bs[i]?).getD true) s':=f;rw[e]at d;exact wpAny_truthy_bool d
 .intro h' T k;refine⟨.bl (bs.any id),H,I.kept (t':=T) (h':=h') fun b u e=>k b u (fun z=>?_) (tO _ e),?_,q⟩
  .have Z:b=s.heap.objs.size:=by simpa using z
   exact d6 (rN e) (by rw[Z];exact ia _)
  .show Value.bool _=Value.bool _;rw[range_any a.toArray.size _ bs (by simp only[List.size_toArray];exact n) fun i b e=>by rw[e];rfl]
theorem itB{c:Bool}{A B:Prop}(h:c=true->A)(H:c=false->B):if c=true then A else B:=by
 cases c with
 | true=>
  rw[cq rfl];exact h rfl
 | false=>
  rw[cn xf];exact H rfl
def Ku(z:Str)(Z:aw Str):inV (.str z) (Z.map V.str)=Z.contains z:=by
 unfold inV;rw[List.any_map,List.contains_eq_any_beq];congr 1
 funext y
 rw[dQ];exact⟨fun h=>by rw[eq_of_beq h];exact cy z,fun h=>by rw[eq_of_beq h];exact cy y⟩
def Af(z:aw Str):(z.map V.str).all uT=true:=by rw[eC];intro x h;obtain⟨n,_,rfl⟩:=rA.mp h;rfl
end L2
namespace PySem
open Sem (wp)
open AutoSeq1 (wpAny_loadPart')
end PySem
namespace L2
open PySem PySem.Spec PyProof.Rows
end L2
namespace L2
open PySem
section
variable{X:Cx}
def Qd:o6 X (binaryOp .Mult) (fun x y H Q => ∃(i:Str)(n:Int),x = .str i/\y = .int n/\MulOk i n/\Q (.str (Txt.mul i n)) H):=by intro _ s σ H x y v u Q I f R h;obtain⟨i,n,rfl,rfl,b,q⟩:=h;obtain⟨t,rfl⟩:=f;obtain⟨t',rfl⟩:=R;exact SB.mul b fun t' _=>⟨.str (Txt.mul i n),H,I.tok _,⟨_,rfl⟩,q⟩
end
end L2
namespace L2
open PySem PySem.Spec PyProof.Rows
section
variable{X:Cx}{pins:aw (ar×Obj)}{σ:St}{H:Hp}{s:ae}{h':Heap}
def Inv.RW{t':Nat}{T:aw ar}(I:Inv X pins σ H s)(k:∀ b o,b∉T->s.heap.get? b=some o->h'.get? b=some o)(h:∀ b∈T,uM X pins H b):Inv X pins σ H { s with heap:=h',toks:=t' }:=by
 have N:∀ b u,H b=some u->b∉T:=fun b u e z=>by
  rw[(h b z).1]at e
  cases e
 refine I.step (g':=s.gens) (d':=s.drawn) (ch:=T) (fun b a=>?_) (fun b o _ _ f e _=>k b o f e) (fun b o _ _ f e _=>⟨o.slots,k b o f e⟩) (fun _ _ _ _ n=>n) (fun b o f e=>⟨o,k b o f e⟩) (fun _ _ e=>e) (fun _ _ _ e=>e) (fun b _ e=>⟨#[],by rw[e];simp⟩) (fun m g=>?_) (fun b u e=>?_) I.bare
 .obtain⟨_,d,_,F,B,l⟩:=h b a;exact⟨F,d,B,l⟩
 .obtain⟨o,es,ep,j,r⟩:=g;exact⟨o,es,ep,k _ o (fun z=>(h _ z).2.1 rfl) j,r⟩
 .ext ai;rcases f with z | z
  .rw[z];exact N b u e
  .exact N c _ z
end
section
variable{X:Cx}{es:aw Expr}{k:Nat}{tpos:Pos}
end
end L2
namespace DL
open PySem L2
def chars(z:Str):aw D:=z.cps.toList.map fun c=>D.str ⟨#[c]⟩
def nu(lo:Int)(n:Nat):aw D:=(List.range n).map fun k:Nat=>D.int (lo+(k:Int))
def itD:D->Rz (aw D)
 | .lst l=>.ok l
 | .tup l=>.ok l
 | .dZ l=>.ok (l.map D.int)
 | .str z=>.ok (chars z)
 | _=>.st
def Src(K:dN)(B Z:Hp)(J:It)(ds:aw D):Prop:=
 (∃ a xs,J=Itl K a/\jx K Z a xs/\fj K B ds xs)∨(∃ a xs,J=Itt K a/\tH K Z a xs/\fj K B ds xs)∨(∃ lo n,J=Itr lo n/\ds=nu lo n) ∨ ∃ z,J=Its z/\ds=chars z
abbrev FI:=aw Sl->Rz (aw D)
def PI1(G:Gm)(f:Bool)(B H:Hp)(ρ:aw Sl)(σ:St)(R:It->Hp->Prop):Rz (aw D)->Prop
 | .ok ds => ∀ J b h,Own G b h ρ σ->Ext B H b h->Src G.K b (if f=true then b else h) J ds->R J h
 | .ex => ∀ h,bD G.H0 h->bD B h->G.E (.ref G.C) none h
 | .st=>False
def DI(G:Gm)(F:Bool)(t:TI)(f:FI):Prop:=∀ B H ρ σ R,Own G B H ρ σ->PI1 G F B H ρ σ R (f ρ)->t σ H R
def W.r(f:Bool)(w:W):Rz D:=if f=true then w.z else .ok w.d
def qE8(K:dN)(t:TE):TI:=fun σ H R=>qB1 K t σ H R∨qE6 K t σ H R∨qE7 t σ H R
def PI.or{X:Cx}{t i:Expr}{a b:TI}(c:PI X t i a)(d:PI X t i b):PI X t i (fun σ H R=>a σ H R∨b σ H R):=fun p s σ H R I h=>h.elim (c p s σ H R I) (d p s σ H R I)
def gR{X:Cx}{T l:Expr}{t:TE}(f:PE X l t):PI X T l (qE8 X.K t):=PI.or (yK f) (PI.or (qBP f) (qBQ f))
def jA(F:Bool)(f:FE):FI:=fun ρ=>(f ρ).bind fun w=>(w.r F).bind fun d=>itD d
def lA(a:FA):FI:=fun ρ=>(a ρ).bind fun ws=>match ws with
 | [.fr (.int j)]=>if -(2 ^ 62)<=j/\j<2 ^ 62 then .ok (nu 0 j.toNat) else .st
 | _=>.st
def Gx(a:FA):FI:=fun ρ=>(a ρ).bind fun ws=>match ws with
 | [.fr (.int i),.fr (.int j)]=>if (-(2 ^ 62)<=i/\i<2 ^ 62) /\ -(2 ^ 62)<=j/\j<2 ^ 62 then .ok (nu i (j-i).toNat) else .st
 | _=>.st
section
variable{G:Gm}{tl:TE}{fl:FE}{tr:TA}{fr:FA}
theorem fj.ints:∀ {K:dN} {B:Hp} (l:aw Int),fj K B (l.map D.int) (l.map V.int)
 | _,_,[]=>rfl
 | _,_,_::l=>⟨_,_,rfl,rfl,fj.ints l⟩
theorem gU{F:Bool}(h:DE G tl fl):DI G F (qE8 G.K tl) (jA F fl):=by
 intro B H ρ σ R o j;unfold jA at j
 cases e:fl ρ with
 | st=>rw[e]at j;exact j.elim
 | ex=>
  rw[e]at j;exact .inl (h B H ρ σ _ o (by rw[e];exact j))
 | ok w=>
  rw[e]at j;have b:PI1 G F B H ρ σ R ((w.r F).bind fun d=>itD d):=j;clear j
  have y:∀ v c a,Own G c a ρ σ->Ext B H c a->xV G H c a w v->∃ f,Own G f a ρ σ/\Ext B H f a/\(∀ d,w.r F = .ok d->Rq G.K f (if F=true then f else a) d v):=fun v c a g x q=>by
   cases F with
   | false=>exact⟨c,g,x,fun d m=>by cases m;exact q.rq g.sb⟩
   | true=>
    cases ez:w.z with
    | ok d=>
     obtain⟨f,O,X,r⟩:=Own.Ad o g x q ez;refine⟨f,O,X,fun d' m=>?_⟩;have E:w.z = .ok d':=m;rw[ez]at E
     cases E
     exact Rp.rq (bD.refl _) r
    | st=>exact⟨c,g,x,fun d m=>by have E:w.z = .ok d:=m;rw[ez]at E;cases E⟩
    | ex=>exact⟨c,g,x,fun d m=>by have E:w.z = .ok d:=m;rw[ez]at E;cases E⟩
  cases er:w.r F with
  | st=>rw[er]at b;exact b.elim
  | ex=>
   exfalso
   cases F <;> cases w <;> cases er
  | ok d=>
   rw[er]at b
   cases d with
   | lst l=>
    refine .inl (h B H ρ σ _ o ?_);ext bb;obtain⟨f,O,X,k⟩:=y v c a g x q;obtain⟨p,vs,rfl,i,r⟩:=k _ er
    have n:a p=some (.lst vs):=by cases F with | false=>exact i | true=>exact O.sb _ _ i
    exact⟨p,rfl,⟨vs,jx.of n⟩,b _ f a O X (.inl ⟨p,vs,rfl,jx.of i,r⟩)⟩
   | dZ l=>
    refine .inl (h B H ρ σ _ o ?_);ext bb;obtain⟨f,O,X,k⟩:=y v c a g x q;obtain⟨p,rfl,i⟩:=k _ er;refine⟨p,rfl,⟨_,O.sb.seq i⟩,b _ f a O X (.inl ⟨p,_,rfl,?_,fj.ints l⟩)⟩
    cases F with
    | false=>exact O.sb.seq i
    | true=>exact i
   | tup l=>
    refine .inr (.inl (h B H ρ σ _ o ?_));ext bb;obtain⟨f,O,X,k⟩:=y v c a g x q;obtain⟨p,vs,rfl,i,r⟩:=k _ er;refine⟨p,rfl,⟨_,rY O.sb i⟩,b _ f a O X (.inr (.inl ⟨p,vs,rfl,?_,r⟩))⟩
    cases F with
    | false=>exact rY O.sb i
    | true=>exact i
   | str z=>
    refine .inr (.inr (h B H ρ σ _ o ?_));ext bb;obtain⟨f,O,X,k⟩:=y v c a g x q
    cases (show _=_ from k _ er)
    exact⟨z,rfl,b _ f a O X (.inr (.inr (.inr ⟨z,rfl,rfl⟩)))⟩
   | _=>exact b.elim
def Ip.one{B H:Hp}{d:D}{vs:aw V}(h:Ip G B H [.fr d] vs):∃ v,vs=[v]/\Rp G.K B d v:=by
 obtain⟨v,_,e,q,r⟩:=h
 cases (show _=_ from r)
 exact⟨v,e,q⟩
def Ip.two{B H:Hp}{d e:D}{vs:aw V}(h:Ip G B H [.fr d,.fr e] vs):∃ v u,vs=[v,u]/\Rp G.K B d v/\Rp G.K B e u:=by obtain⟨v,_,z,q,r⟩:=h;obtain⟨u,rfl,Q⟩:=Ip.one r;exact⟨v,u,z,q,Q⟩
def oW{f:Bool}(h:DA G tr fr):DI G f (qB0 tr) (lA fr):=by
 ext t
 split at z
 .rename_i j
  split at z
  .rename_i J
   obtain⟨v,rfl,r⟩:=Ip.one a
   cases (show _=_ from r)
   exact⟨j,rfl,J.1,J.2,z _ e b O x (.inr (.inr (.inl ⟨0,j.toNat,rfl,rfl⟩)))⟩
  .ext ap
 .ext ap
def Zk{f:Bool}(h:DA G tr fr):DI G f (qAZ tr) (Gx fr):=by
 ext t
 split at z
 .rename_i i j
  split at z
  .rename_i J
   obtain⟨v,u,rfl,r,Y⟩:=Ip.two a
   cases (show _=_ from r)
   cases (show _=_ from Y)
   exact⟨i,j,rfl,⟨J.1.1,J.1.2,J.2.1,J.2.2⟩,z _ e b O x (.inr (.inr (.inl ⟨i,(j-i).toNat,rfl,rfl⟩)))⟩
  .ext ap
 .ext ap
end
abbrev FB:=D->aw Sl->ax (aw Sl)
def bN(i:Nat):FB:=fun d ρ=>some (ρ.set i (.fr d))
def bNs:aw Nat->aw D->aw Sl->ax (aw Sl)
 | [],[],ρ=>some ρ
 | i::is,d::ds,ρ=>bNs is ds (ρ.set i (.fr d))
 | _,_,_=>none
def bT(is:aw Nat):FB:=fun d ρ=>match d with
 | .tup l=>bNs is l ρ
 | _=>none
def DB(G:Gm)(g:TG)(b:FB):Prop:=∀ B H ρ σ d v ρ' Q,Own G B H ρ σ->Rp G.K B d v->b d ρ=some ρ'->(∀ σ',Own G B H ρ' σ'->Q σ' H)->g v σ H Q
def gNs:aw Nat->TGs
 | []=>qEE
 | i::is=>qB3 (Ck i) (gNs is)
section
variable{G:Gm}
def Own.bind{B H:Hp}{ρ:aw Sl}{σ:St}(o:Own G B H ρ σ){d:D}{v:V}(r:Rp G.K B d v)(i:Nat):Own G B H (ρ.set i (.fr d)) (σ.set i (some v)):=
 o.set (s:=.fr d) (fun _=>nofun) (fun _ z=>by cases z;exact r) (fun l z=>by cases z) (fun _ _ z=>by cases z) fun a h=>(qAP h).elim
def xQ{i:Nat}:DB G (Ck i) (bN i):=by
 intro B H ρ σ d v ρ' Q o r e h
 cases e
 exact h _ (o.bind r i)
theorem Xw{B H:Hp}{Q:St->Hp->Prop}:∀ {is:aw Nat} {ds:aw D} {vs:aw V} {ρ ρ':aw Sl} {σ:St},Own G B H ρ σ->fj G.K B ds vs->bNs is ds ρ=some ρ'->(∀ σ',Own G B H ρ' σ'->Q σ' H)->gNs is vs σ H Q
 | [],[],_,_,_,_,o,r,e,h=>by
  cases e
  exact⟨r,h _ o⟩
 | i::is,d::ds,_,_,_,_,o,⟨v,ws,z,q,r⟩,e,h=>⟨v,ws,z,Xw (o.bind q i) r e h⟩
 | [],_::_,_,_,_,_,_,_,e,_=>by cases e
 | _::_,[],_,_,_,_,_,_,e,_=>by cases e
theorem TF:∀ {is:aw Nat} {ds:aw D} {ρ ρ':aw Sl},bNs is ds ρ=some ρ'->ds.length=is.length
 | [],[],_,_,_=>rfl
 | i::is,d::ds,ρ,ρ',e=>congrArg (· + 1) (TF (show bNs is ds (ρ.set i (.fr d))=some ρ' from e))
 | [],_::_,_,_,e=>by cases e
 | _::_,[],_,_,e=>by cases e
theorem qH1{is:aw Nat}:DB G (qEC G.K is.length (gNs is)) (bT is):=by
 intro B H ρ σ d v ρ' Q o r e h;unfold bT at e
 cases d with
 | tup l=>
  obtain⟨p,vs,rfl,t,r⟩:=r;exact⟨p,vs,rfl,rY o.sb t,by rw[r.len,TF e],Xw o r e h⟩
 | _=>cases e
def vq(b:FB)(g:FS):aw D->aw Sl->Rz Fl
 | [],ρ=>.ok (.nx ρ)
 | d::ds,ρ=>match b d ρ with
  | none=>.st
  | some ρ1=>(g ρ1).bind fun f=>match f with
   | .nx ρ2=>vq b g ds ρ2
   | .ct ρ2=>vq b g ds ρ2
   | .bk ρ2=>.ok (.nx ρ2)
   | .ret d r=>.ok (.ret d r)
def rC(f:FI)(b:FB)(g:FS):FS:=fun ρ=>(f ρ).bind fun ds=>vq b g ds ρ
theorem kJ{ti:TI}{N:FI}{S:TG}{b:FB}{T:TS}{g:FS}(A:DI G true ti N)(hb:DB G S b)(hg:DS G T g):DS G (qDC ti S T) (rC N b g):=by
 ext g;unfold rC at h;refine A B H ρ σ _ o ?_
 cases e:N ρ with
 | st=>rw[e]at h;exact h
 | ex=>rw[e]at h;exact h
 | ok ds=>
 rw[e]at h;have h1:uX G B D (vq b g ds ρ):=h;intro J u H1 o1 x1 U;have I:Src G.K u u J ds:=U
 let Pv:Nat->St->Hp->Prop:=fun i j k=>∃ l ρ2,Own G l k ρ2 j/\Hn G u l/\uX G B D (vq b g (ds.drop i) ρ2)
 have X:Hn G B u:=x1.s o;have F:Pv 0 σ H1:=⟨u,ρ,o1,Hn.refl _ _,h1⟩
 have P:∀ j k,Pv ds.length j k->D.nx j k:=fun j k ⟨l,ρ2,O,y,m⟩=>by
  rw[List.drop_length]at m;exact m j l k O (X.trans y)
 have step:∀(i:Nat)(d:DL.D)(v:V)(j:St)(k:Hp),ds[i]? = some d->Pv i j k->(∀ l,bD u l->Rp G.K l d v)->S v j k fun σ2 H2=>T { D with nx:=Pv (i+1),ct:=Pv (i+1),bk:=D.nx } σ2 H2:=fun i d v j k E ⟨l,ρ2,O,y,m⟩ rv=>by
  have M:=(rO.mp E).1
  have L:ds.drop i=d::ds.drop (i+1):=by
   rw[eL M];congr 1;exact (rO.mp E).2
  rw[L,vq]at m
  cases eb:b d ρ2 with
  | none=>rw[eb]at m;exact m.elim
  | some ρ3=>
   rw[eb]at m;refine hb l k ρ2 j d v ρ3 _ O (rv l y.sb) eb fun σ3 o3=>hg l k ρ3 σ3 _ o3 ?_
   have Q:uX G B D ((g ρ3).bind fun f=>match f with
    | .nx ρ2=>vq b g (ds.drop (i+1)) ρ2
    | .ct ρ2=>vq b g (ds.drop (i+1)) ρ2
    | .bk ρ2=>.ok (.nx ρ2)
    | .ret d r=>.ok (.ret d r)):=m
   cases eg:g ρ3 with
   | st=>rw[eg]at Q;exact Q
   | ex=>rw[eg]at Q;exact fun k a c=>Q k a ((X.trans y).sb.trans c)
   | ok f=>
    rw[eg]at Q
    cases f with
    | nx ρ4=>exact fun σ4 t w C Y=>⟨t,ρ4,C,y.trans Y,Q⟩
    | ct ρ4=>exact fun σ4 t w C Y=>⟨t,ρ4,C,y.trans Y,Q⟩
    | bk ρ4=>exact fun σ4 t w C Y=>Q σ4 t w C ((X.trans y).trans Y)
    | ret d4 Z=>exact fun v4 t w a4 b4 Y z4 Z=>Q v4 t w a4 b4 ((X.trans y).trans Y) z4 Z
 rcases I with ⟨a,xs,rfl,R,r⟩ | ⟨a,xs,rfl,R,r⟩ | ⟨lo,n,rfl,rfl⟩ | ⟨z,rfl,rfl⟩
 .have s:=r.len;refine XN Pv F (fun i j k _ ⟨l,ρ2,O,y,_⟩=>(y.sb.trans O.sb).seq R) (fun i x j k ex p=>?_) (by rw[s];exact P);obtain⟨d,E,q⟩:=r.at ex;exact step i d x j k E p fun l W=>q.mono W
 .have s:=r.len;refine ZV Pv F (fun i j k _ ⟨l,ρ2,O,y,_⟩=>rY (y.sb.trans O.sb) R) (fun i x j k ex p=>?_) (by rw[s];exact P);obtain⟨d,E,q⟩:=r.at ex;exact step i d x j k E p fun l W=>q.mono W
 .have s:(nu lo n).length=n:=by unfold nu;rw[fH,c4]
  refine Uu Pv F (fun i j k A p=>?_) (by rw[s]at P;exact P);refine step i (.int (lo+i)) _ j k ?_ p fun _ _=>rfl;unfold nu;rw[jf,VV A];rfl
 .have s:(chars z).length=z.cps.size:=by unfold chars;rw[fF];simp
  refine ZW Pv F (fun i c j k A p=>?_) (by rw[s]at P;exact P);refine step i (.str ⟨#[c]⟩) _ j k ?_ p fun _ _=>rfl;unfold chars;rw[jf,dk,A];rfl
def Sl.cap:Sl->Sl
 | .ow l=>.bo l
 | .ob _ _=>.no
 | s=>s
def rK(cX:aw (Nat×Str))(ρ:aw Sl):aw Sl:=cX.map fun p=>((ρ[p.1]?).getD .no).cap
def ig(c:FT)(e:FE)(cs:aw Sl):aw D->Rz (aw D)
 | []=>.ok []
 | d::ds=>(c (.fr d::cs)).bind fun b=>if b=true then (e (.fr d::cs)).bind fun w=>w.z.bind fun x=>(ig c e cs ds).bind fun l=>.ok (x::l) else ig c e cs ds
def gQ(N:FI)(cX:aw (Nat×Str))(c:FT)(e:FE):FE:=fun ρ=>(N ρ).bind fun ds=>if ds.length<=sizeLine then (ig c e (rK cX ρ) ds).bind fun l=>.ok (.ow l) else .st
def nJ:FT:=fun _=>.ok true
def nU:DT G qD7 nJ:=fun B H _ _ _ o h=>h B H o (Ext.refl _ _)
theorem Own.comp{B H:Hp}{ρ:aw Sl}{σ:St}(o:Own G B H ρ σ)(cX:aw (Nat×Str)){d:D}{v:V}(r:Rp G.K B d v):Own G B H (.fr d::rK cX ρ) (some v::vz cX σ):=by
 have look:∀(i:Nat)(s:Sl),(rK cX ρ)[i]? = some s->s≠.no->∃(j:Nat)(S:Sl),ρ[j]? = some S/\s=S.cap/\(vz cX σ)[i]? = some ((σ[j]?).getD none):=fun i s e hs=>by
  unfold rK at e;unfold vz;rw[jf]at e ⊢
  cases ec:cX[i]? with
  | none=>rw[ec]at e;cases e
  | some p=>
   rw[ec]at e
   cases e
   cases ej:ρ[p.1]? with
   | none=>exact (hs (by show (((ρ[p.1]?).getD .no).cap)=_;rw[ej];rfl)).elim
   | some S=>exact⟨p.1,S,ej,by show (((ρ[p.1]?).getD .no).cap)=_;rw[ej];rfl,rfl⟩
 have Q:∀(i:Nat)(s:Sl),((Sl.fr d::rK cX ρ):aw Sl)[i]? = some s->(∀ l,s≠.ow l)/\∀ C fs,s≠.ob C fs:=fun i s e=>by
  cases i with
  | zero=>cases (show some _=some _ from e);exact⟨fun _=>nofun,fun _ _=>nofun⟩
  | succ i=>
   by_cases hs:s = .no
   .subst hs;exact⟨fun _=>nofun,fun _ _=>nofun⟩
   .obtain⟨j,S,E,b,U⟩:=look i _ e hs;subst b
    cases S <;> exact⟨fun _=>nofun,fun _ _=>nofun⟩
 refine⟨o.sb,o.s0,by simp [rK,vz],fun i d' e=>?_,fun i l e=>((Q i _ e).1 l rfl).elim,fun i l e=>?_,fun i C fs e=>((Q i _ e).2 C fs rfl).elim,fun i j a h _=>?_,fun j a C fs _ e=>((Q j _ e).2 C fs rfl).elim⟩
 .cases i with
  | zero=>cases (show some _=some _ from e);exact⟨v,rfl,r⟩
  | succ i=>
   obtain⟨j,S,E,b,U⟩:=look i _ e nofun
   cases S with
   | fr f=>
    cases b
    obtain⟨T,c,q⟩:=o.fr j d' E;exact⟨T,by show (vz cX σ)[i]? = _;rw[U,c];rfl,q⟩
   | _=>cases b
 .cases i with
  | zero=>cases (show some _=some _ from e)
  | succ i=>
   obtain⟨j,S,E,b,U⟩:=look i _ e nofun
   cases S with
   | ow L=>
    cases b
    obtain⟨p,vs,c,q⟩:=o.ow j l E;exact⟨p,vs,by show (vz cX σ)[i]? = _;rw[U,c];rfl,q⟩
   | bo L=>
    cases b
    obtain⟨p,vs,c,q⟩:=o.bo j l E;exact⟨p,vs,by show (vz cX σ)[i]? = _;rw[U,c];rfl,q⟩
   | _=>cases b
 .rcases h with ⟨l,E,_⟩ | ⟨C,fs,A,x,g,E,_⟩
  .exact ((Q i _ E).1 l rfl).elim
  .exact ((Q i _ E).2 C fs rfl).elim
theorem gZ{ti:TI}{W:FI}{cX:aw (Nat×Str)}{tc:TT}{c:FT}{X:TE}{e:FE}(I:DI G false ti W)(hc:DT G tc c)(he:DE G X e):DE G (Vk ti cX tc X) (gQ W cX c e):=by
 ext c;unfold gQ at h;refine I B H ρ σ _ o ?_
 cases ef:W ρ with
 | st=>rw[ef]at h;exact h
 | ex=>rw[ef]at h;exact h
 | ok ds=>
 rw[ef]at h;obtain⟨hn,h1⟩:ds.length<=sizeLine/\eZ G B H ρ σ Q ((ig c e (rK cX ρ) ds).bind fun l=>.ok (.ow l)):=eU (P:=eZ G B H ρ σ Q) h (fun y=>y);intro J M H1 o1 Z src;have N:Src G.K M H1 J ds:=src
 let Pv:Nat->aw V->Hp->Prop:=fun i A f=>∃ j l,Own G j f ρ σ/\Ext M H1 j f/\fj G.K j l A/\l.length<=i/\eZ G B H ρ σ Q ((ig c e (rK cX ρ) (ds.drop i)).bind fun m=>.ok (.ow (l++m)))
 have L:Pv 0 [] H1:=⟨M,[],o1,Ext.refl _ _,rfl,jC _,h1⟩
 have g:∀ A f,Pv ds.length A f->∀ p,f p=none->Q (.ref p) (upd f p (.lst A)):=fun A f ⟨j,l,O,Y,R,_,k⟩ p hp=>by
  rw[List.drop_length]at k
  have t:eZ G B H ρ σ Q (.ok (.ow l)):=by
   have:=k;rw[ig]at this;rw[show l=l++[] from (qH l).symm];ext x
  exact eZ.own O (t.on (Z.trans Y)) R hp
 have step:∀(i:Nat)(d:D)(v:V)(A:aw V)(f:Hp),ds[i]? = some d->Pv i A f->(∀ j,bD M j->Rp G.K j d v) →
   tc (some v::vz cX σ) f fun b H2=>if b=true then X (some v::vz cX σ) H2 fun x H3=>A.length<sizeLine/\Pv (i+1) (A++[x]) H3 else Pv (i+1) A H2:=fun i d v A f E ⟨j,l,O,Y,R,u,k⟩ rv=>by
  have T:=(rO.mp E).1
  have S:ds.drop i=d::ds.drop (i+1):=by
   rw[eL T];congr 1;exact (rO.mp E).2
  rw[S,ig]at k;have oc:=O.comp cX (rv j Y.sb);refine hc j f _ _ _ oc ?_
  cases eb:c (.fr d::rK cX ρ) with
  | st=>rw[eb]at k;exact k
  | ex=>rw[eb]at k;exact fun f a z=>k f a ((Z.trans Y).sb.trans z)
  | ok b=>
  rw[eb]at k;intro B3 H3 o3 C;have F:=O.ext C o3.sb
  cases b with
  | false=>
   rw[cn xf];exact⟨B3,l,F,Y.trans C,R.mono C.sb,by omega,k⟩
  | true=>
   rw[cq rfl];have t:eZ G B H ρ σ Q (((e (.fr d::rK cX ρ)).bind fun w=>w.z.bind fun x=>(ig c e (rK cX ρ) (ds.drop (i+1))).bind fun l=>.ok (x::l)).bind fun m=>.ok (.ow (l++m))):=k;refine he B3 H3 _ _ _ o3 ?_
   cases ee:e (.fr d::rK cX ρ) with
   | st=>rw[ee]at t;exact t
   | ex=>rw[ee]at t;exact fun f a z=>t f a (((Z.trans Y).trans C).sb.trans z)
   | ok w=>
   rw[ee]at t;intro x _ _ o4 y4 q4
   cases ez:w.z with
   | st=>have s:=t;rw[show (Rz.ok w).bind (fun w=>w.z.bind fun x=>(ig c e (rK cX ρ) (ds.drop (i+1))).bind fun l=>.ok (x::l)) = .st by show w.z.bind _=_;rw[ez];rfl]at s;exact s.elim
   | ex=>exact (by cases w <;> cases ez)
   | ok z=>
   obtain⟨B5,o5,U,r5⟩:=Own.Ad o3 o4 y4 q4 ez;have s:=t;rw[show (Rz.ok w).bind (fun w=>w.z.bind fun x=>(ig c e (rK cX ρ) (ds.drop (i+1))).bind fun l=>Rz.ok (x::l))=((ig c e (rK cX ρ) (ds.drop (i+1))).bind fun l=>.ok (z::l)) by show w.z.bind _=_;rw[ez];rfl]at s;refine⟨by rw[R.len];omega,B5,l++[z],F.ext U o5.sb,(Y.trans C).trans U,(R.mono (C.trans U).sb).app (.one r5),by rw[fA];simp;omega,?_⟩
   cases em:ig c e (rK cX ρ) (ds.drop (i+1)) with
   | st=>rw[em]at s;exact s
   | ex=>rw[em]at s;exact s
   | ok m=>
    rw[em]at s;show eZ G B H ρ σ Q (.ok (.ow (l++[z]++m)));rw[bS];exact s
 rcases N with ⟨a,xs,rfl,hz,r⟩ | ⟨a,xs,rfl,hz,r⟩ | ⟨lo,n,rfl,rfl⟩ | ⟨z,rfl,rfl⟩
 .have u:=r.len;refine yM Pv L (fun i A f ⟨j,l,O,Y,_⟩=>Y.sh.seq hz) (fun i x A f ex p=>?_) (by rw[u];exact g);obtain⟨d,E,q⟩:=r.at ex;exact step i d x A f E p fun j s2=>q.mono s2
 .have u:=r.len;refine Xg Pv L (fun i A f ⟨j,l,O,Y,_⟩=>rY Y.sh hz) (fun i x A f ex p=>?_) (by rw[u];exact g);obtain⟨d,E,q⟩:=r.at ex;exact step i d x A f E p fun j s2=>q.mono s2
 .have u:(nu lo n).length=n:=by unfold nu;rw[fH,c4]
  refine RB Pv L (fun i A f I p=>?_) (by rw[u]at g;exact g);refine step i (.int (lo+i)) _ A f ?_ p fun _ _=>rfl;unfold nu;rw[jf,VV I];rfl
 .have u:(chars z).length=z.cps.size:=by unfold chars;rw[fF];simp
  refine Xh Pv L (fun i c A f I p=>?_) (by rw[u]at g;exact g);refine step i (.str ⟨#[c]⟩) _ A f ?_ p fun _ _=>rfl;unfold chars;rw[jf,dk,I];rfl
end
def CD(G:Gm)(r:aw V->Hp->VK->Prop)(g:aw D->Rz W):Prop:=∀ B H ρ σ vs ds Q,Own G B H ρ σ->(∃ ws:aw W,ds=ws.map W.d/\Ip G B H ws vs)->eZ G B H ρ σ Q (g ds)->r vs H Q
def dY(g:aw D->Rz W)(a:FA):FE:=fun ρ=>(a ρ).bind fun ws=>g (ws.map W.d)
def nP.or{X:Cx}{f:av}{r R:aw V->Hp->VK->Prop}(h:nP X f r)(h':nP X f R):nP X f (fun xs H Q=>r xs H Q∨R xs H Q):=by intro p s σ H xs us Q I x q;exact q.elim (h p s σ H xs us Q I x) (h' p s σ H xs us Q I x)
def cY:aw D->Rz W
 | [.lst l]=>.ok (.fr (.int l.length))
 | [.tup l]=>.ok (.fr (.int l.length))
 | [.dZ l]=>.ok (.fr (.int l.length))
 | [.str z]=>if z.length<=sizeLine then .ok (.fr (.int z.length)) else .st
 | _=>.st
def dC(K:dN):aw V->Hp->VK->Prop:=fun xs H Q=>(∃ p ys,xs=[.ref p]/\(jx K H p ys∨tH K H p ys)/\Q (.int ys.length) H) ∨ ∃ z,xs=[.str z]/\z.length<=sizeLine/\Q (.int z.length) H
def bA{X:Cx}:nP X (.builtin "len") (dC X.K):=nP.or zO Lf
def Wm:aw D->Rz W
 | [.int i,.int j]=>.ok (.fr (.int (if j>i then j else i)))
 | _=>.st
def uP:aw D->Rz W
 | [.int i,.int j]=>.ok (.fr (.int (if j<i then j else i)))
 | _=>.st
def vg:aw D->Rz W
 | [.lst l]=>.ok (.fr (.tup l))
 | [.tup l]=>.ok (.fr (.tup l))
 | _=>.st
def bools:aw D->ax (aw Bool)
 | []=>some []
 | .bl b::l=>(bools l).map (b :: ·)
 | _=>none
def Zz(f:aw Bool->Bool):aw D->Rz W
 | [.lst l]=>match bools l with
  | some bs=>.ok (.fr (.bl (f bs)))
  | none=>.st
 | _=>.st
section
variable{G:Gm}{tr:TA}{fr:FA}
def bY{r:aw V->Hp->VK->Prop}{g:aw D->Rz W}(c:CD G r g)(d:DA G tr fr):DE G (tCB r tr) (dY g fr):=by intro B H ρ σ Q o h;refine d.then o (P:=eZ G B H ρ σ Q) h (fun z=>z) (fun z=>z) fun ws z vs e b O x a=>?_;exact c e b ρ σ vs _ Q O ⟨ws,rfl,a⟩ (z.on x)
theorem arg1{B H:Hp}(M:bD B H){d:D}{vs:aw V}(h:∃ ws:aw W,[d]=ws.map W.d/\Ip G B H ws vs):∃ v,vs=[v]/\Rq G.K B H d v:=by
 obtain⟨ws,e,q⟩:=h
 match ws,e,q with
 | [w],e,⟨v,us,z,q,r⟩=>
  cases e
  cases (show _=_ from r)
  exact⟨v,z,q.rq M⟩
theorem arg2{B H:Hp}(M:bD B H){d e:D}{vs:aw V}(h:∃ ws:aw W,[d,e]=ws.map W.d/\Ip G B H ws vs):∃ v u,vs=[v,u]/\Rq G.K B H d v/\Rq G.K B H e u:=by
 obtain⟨ws,z,q⟩:=h
 match ws,z,q with
 | [w,a],z,⟨v,us,y,q,u,_,Y,g,r⟩=>
  cases z
  cases (show _=_ from r)
  subst Y;exact⟨v,u,y,q.rq M,g.rq M⟩
def cP:CD G (dC G.K) cY:=by
 ext r;unfold cY at h
 split at h
 .obtain⟨v,rfl,p,ws,rfl,b,r⟩:=arg1 o.sb a;exact .inl ⟨p,ws,rfl,.inl (jx.of b),eZ.now o h (by rw[r.len];exact rfl)⟩
 .obtain⟨v,rfl,p,ws,rfl,b,r⟩:=arg1 o.sb a;exact .inl ⟨p,ws,rfl,.inr (rY o.sb b),eZ.now o h (by rw[r.len];exact rfl)⟩
 .obtain⟨v,rfl,p,rfl,b⟩:=arg1 o.sb a;exact .inl ⟨p,_,rfl,.inl (o.sb.seq b),eZ.now o h (by rw[fH];exact rfl)⟩
 .obtain⟨v,rfl,q⟩:=arg1 o.sb a
  cases (show _=_ from q)
  split at h
  .rename_i e
   exact .inr ⟨_,rfl,e,eZ.now o h (by exact rfl)⟩
  .ext b
 .ext b
def Zw:CD G (fun xs H Q => ∃ i j,xs=[.int i,.int j]/\Q (.int (if j>i then j else i)) H) Wm:=by
 ext r;unfold Wm at h
 split at h
 .obtain⟨v,u,rfl,q,g⟩:=arg2 o.sb a
  cases (show _=_ from q)
  cases (show _=_ from g)
  exact⟨_,_,rfl,eZ.now o h (by exact rfl)⟩
 .ext b
def Le:CD G (fun xs H Q => ∃ i j,xs=[.int i,.int j]/\Q (.int (if j<i then j else i)) H) uP:=by
 ext r;unfold uP at h
 split at h
 .obtain⟨v,u,rfl,q,g⟩:=arg2 o.sb a
  cases (show _=_ from q)
  cases (show _=_ from g)
  exact⟨_,_,rfl,eZ.now o h (by exact rfl)⟩
 .ext b
def pq:CD G (fun xs H Q => ∃ p ys,xs=[.ref p]/\((jx G.K H p ys/\∀ l,H l=none->Q (.ref l) (upd H l (.tup ys)))∨(tH G.K H p ys/\Q (.ref p) H))) vg:=by
 ext r;unfold vg at h
 split at h
 .obtain⟨v,rfl,p,ws,rfl,b,r⟩:=arg1 o.sb a;exact⟨p,ws,rfl,.inl ⟨jx.of b,fun l f=>eZ.tup o h r f⟩⟩
 .obtain⟨v,rfl,p,ws,rfl,b,r⟩:=arg1 o.sb a;exact⟨p,ws,rfl,.inr ⟨rY o.sb b,eZ.now o h ⟨p,ws,rfl,b,r⟩⟩⟩
 .ext b
theorem Oq{K:dN}{B:Hp}:∀ {l:aw D} {bs:aw Bool} {vs:aw V},bools l=some bs->fj K B l vs->vs=bs.map V.bl
 | [],_,_,e,r=>by cases e;exact r
 | .bl b::l,_,_,e,⟨v,ws,z,q,r⟩=>by
  rw[bools]at e
  cases e2:bools l with
  | none=>rw[e2]at e;cases e
  | some bs=>
   rw[e2]at e
   cases e
   cases (show _=_ from q)
   rw[z,Oq e2 r];rfl
def JT{f:aw Bool->Bool}:CD G (fun xs H Q => ∃(p:ar)(bs:aw Bool),xs=[.ref p]/\jx G.K H p (bs.map V.bl)/\Q (.bl (f bs)) H) (Zz f):=by
 ext r;unfold Zz at h
 split at h
 .obtain⟨v,rfl,p,_,rfl,b,r⟩:=arg1 o.sb a
  split at h
  .rename_i bs e
   rw[Oq e r]at b;exact⟨p,bs,rfl,jx.of b,eZ.now o h (by exact rfl)⟩
  .ext b
 .ext b
end
def cutD(l:aw D)(lo e:ax Int):aw D:=(l.drop (HT.iy l.length 0 lo)).take (HT.iy l.length l.length e-HT.iy l.length 0 lo)
def slD:D->ax Int->ax Int->Rz W
 | .lst l,lo,e=>.ok (.ow (cutD l lo e))
 | .tup l,lo,e=>.ok (.fr (.tup (cutD l lo e)))
 | .str z,lo,e=>if z.length<=sizeLine then .ok (.fr (.str (Txt.slice z lo e))) else .st
 | _,_,_=>.st
def rD(K:dN):V->ax Int->ax Int->Hp->VK->Prop:=fun x lo e H Q=>qDJ K x lo e H Q∨qDK K x lo e H Q ∨ ∃ z,x = .str z/\z.length<=sizeLine/\Q (.str (Txt.slice z lo e)) H
def tR{X:Cx}:VR X (rD X.K):=VR.or Yi (VR.or Yh qBM)
abbrev FO:=aw Sl->Rz (ax Int)
def xJ:FO:=fun _=>.ok none
def gG(f:FE):FO:=fun ρ=>(f ρ).bind fun w=>match w.d with
 | .int i=>.ok (some i)
 | _=>.st
def PO1(G:Gm)(B H:Hp)(ρ:aw Sl)(σ:St)(Q:ax Int->Hp->Prop):Rz (ax Int)->Prop
 | .ok b => ∀ a h,Own G a h ρ σ->Ext B H a h->Q b h
 | .ex => ∀ h,bD G.H0 h->bD B h->G.E (.ref G.C) none h
 | .st=>False
def DO(G:Gm)(t:TO)(f:FO):Prop:=∀ B H ρ σ Q,Own G B H ρ σ->PO1 G B H ρ σ Q (f ρ)->t σ H Q
def vy(f:FE)(l h:FO):FE:=fun ρ=>(f ρ).bind fun w=>(l ρ).bind fun lo=>(h ρ).bind fun e=>slD w.d lo e
section
variable{G:Gm}{te:TE}{fe:FE}{tl th:TO}{fl fh:FO}
def lX:DO G RX xJ:=fun B H _ _ _ o h=>h B H o (Ext.refl _ _)
theorem fY(d:DE G te fe):DO G (qAD te) (gG fe):=by
 ext c;refine d.then o (P:=PO1 G B H ρ σ Q) h (fun z=>z) (fun z=>z) fun w z v c b O x a=>?_;have q:=a.rq O.sb
 cases e:w.d with
 | int i=>
  rw[e]at z q;exact⟨i,q,z c b O x⟩
 | _=>rw[e]at z;exact z.elim
theorem DO.then{t:TO}{f:FO}(h:DO G t f){B H:Hp}{ρ:aw Sl}{σ:St}(o:Own G B H ρ σ){Q:ax Int->Hp->Prop}{β:Type}{k:ax Int->Rz β}{P:Rz β->Prop}(p:P ((f ρ).bind k))(x:P .ex->∀ a,bD G.H0 a->bD B a->G.E (.ref G.C) none a)(hs:P .st->False)
  (q:∀ b,P (k b)->∀ c a,Own G c a ρ σ->Ext B H c a->Q b a):t σ H Q:=by
 ext ae
 cases e:f ρ with
 | ok w=>rw[e]at p;exact q w p
 | ex=>rw[e]at p;exact x p
 | st=>rw[e]at p;exact (hs p).elim
def Xf{K:dN}{B:Hp}{l:aw D}{vs:aw V}(r:fj K B l vs)(lo e:ax Int):fj K B (cutD l lo e) (Ld vs lo e):=by unfold cutD Ld;rw[r.len];exact (r.drop _).take _
def Zt{l:aw D}{lo e:ax Int}(h:HT.iy l.length 0 lo=0/\HT.iy l.length l.length e=l.length):cutD l lo e=l:=by unfold cutD;rw[h.1,h.2];simp
def eQ(t:DE G te fe)(s:DO G tl fl)(m:DO G th fh):DE G (tSl (rD G.K) te tl th) (vy fe fl fh):=by
 ext c;refine t.then o (P:=eZ G B H ρ σ Q) h (fun z=>z) (fun z=>z) fun w z v _ _ u f k=>?_;refine s.then u (P:=eZ G B H ρ σ Q) z (fun y g a b=>y g a (f.sb.trans b)) (fun y=>y) fun lo z2 _ _ n X=>?_;refine m.then n (P:=eZ G B H ρ σ Q) z2 (fun y g a b=>y g a ((f.trans X).sb.trans b)) (fun y=>y) fun i z3 _ _ O x=>?_;have q:=(k.hr.mono (X.trans x).sb (X.trans x).sh).rq O.sb;have z4:=z3.on ((f.trans X).trans x);unfold slD at z4
 split at z4
 .rename_i l lo i e
  rw[e]at q;obtain⟨p,vs,rfl,c,r⟩:=q;exact .inl ⟨p,vs,rfl,jx.of c,fun a d=>eZ.own O z4 (Xf r _ _) d⟩
 .rename_i l lo i e
  rw[e]at q;obtain⟨p,vs,rfl,c,r⟩:=q;refine .inr (.inl ⟨p,vs,rfl,rY O.sb c,fun j=>?_,fun _ a d=>eZ.tup O z4 (Xf r _ _) d⟩);rw[r.len]at j;rw[Zt j]at z4;exact eZ.now O z4 ⟨p,vs,rfl,c,r⟩
 .rename_i z lo i e
  rw[e]at q
  split at z4
  .rename_i E
   exact .inr (.inr ⟨_,q,E,eZ.now O z4 (by exact rfl)⟩)
  .exact z4.elim
 .exact z4.elim
end
def Sl.nb:Sl->Bool
 | .bo _=>false
 | _=>true
def jd(i:Nat)(f:FE):FS:=fun ρ=>match ρ[i]? with
 | some (.ow l)=>(f ρ).bind fun w=>w.z.bind fun d=>if l.length<sizeLine/\ρ.all Sl.nb=true then .ok (.nx (ρ.set i (.ow (l++[d])))) else .st
 | _=>.st
def Qy(i:Nat)(ρ:aw Sl):aw Sl:=match ρ[i]? with
 | some (.ow l)=>ρ.set i (.fr (.lst l))
 | _=>ρ
def aW(i:Nat)(f:FE):FS:=fun ρ=>(f ρ).bind fun w=>w.z.bind fun d=>.ok (.nx (ρ.set i (.fr d)))
section
variable{G:Gm}{ta:TE}{fa:FE}{t:TS}{g:FS}
def oaP{H:Hp}{ρ:aw Sl}{σ:St}{i:Nat}{l l':aw D}{p:ar}{u:HO}(f:∀ C d fs,u≠.ins C d fs)(k:∀ C d fs,H p≠some (.ins C d fs))(e:ρ[i]? = some (Sl.ow l)){j:Nat}{a:ar}(h:Oa (upd H p u) (ρ.set i (.ow l')) σ j a):Oa H ρ σ j a:=by
 have g:i<ρ.length:=(rO.mp e).1;rcases h with ⟨m,E,b⟩ | ⟨C,fs,A,d,Q,E,b,U,c⟩
 .by_cases y:j=i
  .subst y;exact .inl ⟨l,e,b⟩
  .rw[cv (bE y)]at E;exact .inl ⟨m,E,b⟩
 .by_cases y:j=i
  .subst y;rw[cw g]at E;cases E
  .rw[cv (bE y)]at E
   by_cases z:A=p
   .ext m;rw[zC]at U;cases U;exact (f _ _ _ rfl).elim
   .rw[zR z]at U;exact .inr ⟨C,fs,A,d,Q,E,b,U,c⟩
theorem oZ.away{B H:Hp}{p:ar}{u:HO}:∀ {fs:aw (Str×Fm)} {Q:aw (Str×V)},oZ G B H fs Q->p∉adr fs Q->oZ G B (upd H p u) fs Q
 | [],_,h,_=>h
 | (_,.va _)::_,_,⟨v,ws,e,q,r⟩,n=>by
  ext l;refine⟨v,ws,rfl,q,oZ.away r fun z=>n ?_⟩
  cases v <;> exact z
 | (_,.li _)::_,_,⟨q,ws,vs,e,h,n,a,R,r⟩,N=>by
  ext l;have:q≠p:=fun z=>N (by subst z;exact qK);exact⟨q,ws,vs,rfl,by rw[zR this];exact h,n,a,R,oZ.away r fun z=>N (rM _ z)⟩
def Ob.away{B H:Hp}{C a p:ar}{fs:aw (Str×Fm)}{u:HO}(h:Ob G B H C fs a)(n:∀ D Q,H a=some (.ins C D Q)->p≠a/\p∉adr fs Q):Ob G B (upd H p u) C fs a:=by obtain⟨D,Q,e,N,b,r,d⟩:=h;obtain⟨z1,z2⟩:=n D Q e;exact⟨D,Q,by rw[zR (bE z1)];exact e,N,b,r.away z2,d⟩
def Own.chg{B H:Hp}{ρ:aw Sl}{σ:St}(o:Own G B H ρ σ){i:Nat}{l l':aw D}{p:ar}{vs:aw V}(e:ρ[i]? = some (Sl.ow l))(ep:σ[i]? = some (some (V.ref p)))(nb:ρ.all Sl.nb=true)(r:fj G.K B l' vs):Own G B (upd H p (.lst vs)) (ρ.set i (.ow l')) σ:=by
 obtain⟨_,_,E,g,U,c,_⟩:=o.ow i l e;rw[ep]at E
 cases E
 have h:i<ρ.length:=(rO.mp e).1;have O:Oa H ρ σ i p:=.inl ⟨l,e,ep⟩;refine⟨fun a u z=>?_,fun a u z=>?_,by rw[fN];exact o.len,fun j d z=>?_,fun j m z=>?_,fun j m z=>?_,fun j C fs z=>?_,fun j k a z1 z2=>o.ap j k a (oaP (u:=.lst vs) (fun _ _ _=>nofun) (fun _ _ _ z=>by rw[g]at z;cases z) e z1) (oaP (u:=.lst vs) (fun _ _ _=>nofun) (fun _ _ _ z=>by rw[g]at z;cases z) e z2),fun j a C fs n z=>?_⟩
 .rw[zR fun y=>by subst y;rw[U]at z;cases z];exact o.sb _ _ z
 .rw[zR fun y=>by subst y;rw[c]at z;cases z];exact o.s0 _ _ z
 .by_cases y:j=i
  .ext aw;cases z
  .ext s;exact o.fr j d z
 .by_cases y:j=i
  .ext aw
   cases z
   exact⟨p,vs,ep,zC,U,c,r⟩
  .ext s;obtain⟨q,ws,F,L,f⟩:=o.ow j m z
   have:q≠p:=fun x=>by subst x;exact y (o.ap j i q (.inl ⟨m,z,F⟩) O)
   exact⟨q,ws,F,by rw[zR this];exact L,f⟩
 .by_cases y:j=i
  .ext aw;cases z
  .ext s;have:=List.all_eq_true.mp nb _ (Jb z)
   cases this
 .by_cases y:j=i
  .ext aw;cases z
  .ext s;obtain⟨a,F,L⟩:=o.ob j C fs z;refine⟨a,F,L.away fun b Q f=>⟨fun x=>?_,fun x=>?_⟩⟩
   .subst x;exact y (o.ap j i p (.inr ⟨C,fs,p,b,Q,z,F,f,.inl rfl⟩) O)
   .exact y (o.ap j i p (.inr ⟨C,fs,a,b,Q,z,F,f,.inr x⟩) O)
 .by_cases y:j=i
  .ext aw;cases z
  .ext s;exact o.sf j a C fs n z
theorem nY{i:Nat}(b:DE G ta fa):DS G (Ma (tBM G.K "list" fQ (Jk i) (Et ta Hq))) (jd i fa):=by
 ext g;unfold jd at h
 split at h
 .rename_i l e
  obtain⟨p,vs,E,a,_,_,r⟩:=o.ow i l e;refine⟨.ref p,E,.inl ⟨rfl,vs,jx.of a⟩,?_⟩;refine b.then o (P:=uX G B D) h (fun z=>z) (fun z=>z) fun w z v _ _ O x q=>?_
  cases ez:w.z with
  | st=>rw[ez]at z;exact z.elim
  | ex=>exact (by cases w <;> cases ez)
  | ok d=>
  rw[ez]at z;obtain⟨⟨g,nb⟩,z2⟩:=eU (P:=uX G B D) z (fun y=>y);obtain⟨f,c,X,R⟩:=Own.Ad o O x q ez;refine⟨p,vs,v,rfl,rfl,X.sh _ _ a,by rw[r.len];exact g,?_⟩;exact z2 σ f _ (c.chg e E nb ((r.mono X.sb).app (.one R))) (X.s o)
 .ext b
theorem aR{i:Nat}(c:DE G ta fa):DS G (Q4 ta (Ck i)) (aW i fa):=by
 ext g;refine c.then o (P:=uX G B D) h (fun z=>z) (fun z=>z) fun w z v _ b e x a=>?_
 cases ez:w.z with
 | st=>rw[ez]at z;exact z.elim
 | ex=>exact (by cases w <;> cases ez)
 | ok d=>
 rw[ez]at z;obtain⟨f,O,X,R⟩:=Own.Ad o e x a ez;exact z _ f b (O.bind R i) (X.s o)
end
end DL
namespace L2
open PySem
end L2
namespace L2
open PySem PySem.Spec PyProof.Rows
def qG4(ob:Obj):Prop:=∃ vs,ob.data = .fields vs/\vs[2]? = some .none
def DictAt(h:Heap)(e:ar)(D:ax ar):Prop:=∃ ob,h.get? e=some ob/\ob.dict=D/\(D=none->qG4 ob)
def CX1(P:ag)(w:ay):Pr:=fun O H s E e s'=>
 ∃ a c A h B,e = .ref a/\s'.os=s.os/\AllBare s'.gens/\Heap.FlyingW B O a c A s'.heap ∧
  zr P w h s'.heap/\Un (frs O) [] H h s.heap s'.heap/\(∀ b,(h b).isSome=true->∃ o,s'.heap.get? b=some o/\B.get? b=some o) ∧
  (∀ b o,s.heap.get? b=some o->b∉frs O->∃ d,s'.heap.get? b=some d/\B.get? b=some d)/\∃ D,DictAt s'.heap a D/\E c D h
section
variable{P:ag}{w:ay}{H H':Hp}{h h0 h1 h2 B:Heap}{a:ar}{o:HO}{fs:aw ar}
end
section
variable{P:ag}{w:ay}{K:dN}{mg:Str->ax av}{base:Heap}{N:aw Str}{qual:Str}{scope:Scope}{f:ar}{cd:av}{A:ah}{outer:aw Env}{s:ae}{H:Hp}{E E':XK}
section
variable{P:ag}{w:ay}{H H':Hp}{h h':Heap}{e:ar}{fs ex:aw ar}
end
end
abbrev VB:aw av:=[.type "ValueError",.type "Exception",.type "BaseException",.type "object"]
def XP(X:Cx)(p:aw (ar×Obj))(E:St->XK)(e:av)(s':ae):Prop:=∃ σ1 h S,Inv X p σ1 h S/\CX1 X.prog X.w X.stack h S (E σ1) e s'
end L2
namespace L2
open PySem PySem.Spec PyProof.Rows PySem.W
structure ExcQ(K:Frag)(C:Addr):Prop where
 ga:findIn K (.ref C) "__getattribute__" = some (some (.builtin "BaseException.__getattribute__"))
 no:findIn K (.ref C) "__getattr__" = some none
 cl:findIn K (.ref C) "__class__" = some (some (.builtin "object.__class__"))
 ob:mroIn K C (.type "object")=some true
 be:mroIn K C (.type "BaseException")=some true
 is:(clsIn K C).isSome=true
section
variable{prog:ag}{w:ay}{A:ah}{E:av->ae->Prop}{h:Heap}{g:Array GenState}{d:Drawn}{t:Nat}{os:OsState}{a C:ar}{o:Obj}{K:Frag}
end
end L2
namespace L2
open PySem PySem.Spec PyProof.Rows
def rF:MtR X "str.startswith" (fun x xs H Q => ∃ a b,x = .str a/\xs=[.str b]/\Q (.bl (Txt.startswith a b)) H):=by intro _ s σ H x xs v _ Q I f rs h;obtain⟨a,b,rfl,rfl,q⟩:=h;obtain⟨t,rfl⟩:=f;obtain⟨u,rfl,_,rfl⟩:=vals1 rs;exact SC.startswith ⟨.bl _,H,I,rfl,q⟩
def UL:MtR X "str.index" (fun x xs H Q => ∃ a b i rest,x = .str a/\xs=[.str b]/\Builtin.Str.occurrences a b 0 a.length 1=i::rest/\Q (.int ((i:Nat):Int)) H):=by intro _ s σ H x xs v _ Q I f rs h;obtain⟨a,b,i,rest,rfl,rfl,j,q⟩:=h;obtain⟨t,rfl⟩:=f;obtain⟨u,rfl,_,rfl⟩:=vals1 rs;exact SC.index j ⟨.int _,H,I.tok _,⟨_,rfl⟩,q⟩
def pA:nP X (.type "str") (fun xs H Q => ∃ i:Int,xs=[.int i]/\i.natAbs.log2<1920/\Q (.str (Str.ofString (toString i))) H):=by intro _ s σ H xs _ Q I r h;obtain⟨i,rfl,e,q⟩:=h;obtain⟨u,rfl,t,rfl⟩:=vals1 r;exact P.str_of_int e ⟨.str _,H,I.tok _,⟨_,rfl⟩,q⟩
section
variable{P:ag}{w:ay}{K:dN}{mg:Str->ax av}{base:Heap}
end
end L2
namespace PySem.MeetsSeq
open PySem PySem.Spec PyProof.Rows
end PySem.MeetsSeq
namespace L2
open PySem PySem.Spec PyProof.Rows
theorem Iu:∀ l:aw (Str×Tok),Vals ((l.map (·.1)).map V.str) (strValues l)
 | []=>.nil
 | p::l=>.cons ⟨p.2,rfl⟩ (Iu l)
section
variable{X:Cx}
def Ng:MtM X "str.split" (fun x xs H Q => ∃ a b:Str,x = .str a/\xs=[.str b]/\(b.length==0)=false/\a.length<=sizeLine/\(Txt.split a b).length<=sizeLine/\∀ p,H p=none->Q (.ref p) (upd H p (.lst ((Txt.split a b).map V.str)))):=by
 intro P s σ H x xs v _ Q I R rs h;obtain⟨a,b,rfl,rfl,c,f,d,q⟩:=h;obtain⟨t,rfl⟩:=R;obtain⟨u,rfl,t',rfl⟩:=vals1 rs;have g:=q _ I.fresh
 have one:(Txt.split a b)=[a]->EP X P σ Q (.ref s.heap.objs.size) { s with heap:=s.heap.push { cls:=.type "list",data:=.seq [Value.str a t].toArray } }:=fun e=>by
  rw[e]at g d;exact⟨.ref _,_,I.qCB (t':=s.toks) (ys:=[.str a]) (.cons ⟨t,rfl⟩ .nil) d,rfl,g⟩
 cases h1:(decide (a.length<b.length)||decide (Builtin.Str.strKind a<Builtin.Str.strKind b))
 .cases hf:(Builtin.Str.occurrences a b 0 a.length (a.length+1)).isEmpty
  .have e:Txt.split a b=Builtin.Str.partsBetween a (Builtin.Str.occurrences a b 0 a.length (a.length+1)) b.length:=(cn (ne_true_of_eq_false h1)).trans (cn (ne_true_of_eq_false hf));rw[e]at g d;refine call_meets F.slot_str_split (typeIs_str _ _ _) F.entry_str_split (F.args_str_split_2 _ _) (meets_str_split_sep a b t t' h1 c hf f d) ?_;show wants (EP X P σ Q) X.xe _ _;rw[strsFrom_eq];have r:=Iu (numbered s.toks (Builtin.Str.partsBetween a (Builtin.Str.occurrences a b 0 a.length (a.length+1)) b.length));rw[numbered_texts]at r;exact⟨.ref _,_,I.qCB (t':=_) r (by rw[fH];exact d),rfl,g⟩
  .exact call_meets F.slot_str_split (typeIs_str _ _ _) F.entry_str_split (F.args_str_split_2 _ _) (meets_str_split_not_found a b t t' h1 c hf) (one ((cn (ne_true_of_eq_false h1)).trans (cq hf)))
 .exact call_meets F.slot_str_split (typeIs_str _ _ _) F.entry_str_split (F.args_str_split_2 _ _) (meets_str_split_cannot_occur a b t t' h1) (one (cq h1))
def W4:V->aw V->Hp->VK->Prop:=fun x vs H Q => ∃(l:ar)(os:aw Str)(k:Str)(j:Nat),x = .ref l/\vs=[.str k]/\H l=some (.lst (os.map V.str))/\(∃ h:j<os.length,os[j]=k)/\(∀(m:Nat)(c:m<os.length),m<j->os[m]≠k)/\os.length<=1000/\Q (.int (j:Int)) H
def qGZ(k:Str):av->Bool
 | .str a _=>a.cps.toList==k.cps.toList
 | _=>false
def Ye{a b:Str}(h:a.cps.toList=b.cps.toList):a=b:=by obtain⟨a⟩:=a;obtain⟨b⟩:=b;congr;exact Array.toList_inj.mp h
def UT:MtM X "list.index" W4:=by
 intro _ s σ H x _ v _ Q I D R h;obtain⟨l,os,k,j,rfl,rfl,p,⟨_,g⟩,B,_,q⟩:=h
 cases D
 obtain⟨u,rfl,Y⟩:=R.one;obtain⟨t,rfl⟩:=Y;obtain⟨z,a,n,r,o,e⟩:=I.Wt p;rw[fH]at o
 have d:∀(m:Nat)(c:m<os.length),∃ t',a[m]? = some (.str os[m] t'):=fun m c=>by
  obtain⟨_,w,t',rfl⟩:=r.get (i:=m) (x:=.str os[m]) (by rw[jf,wF c];rfl);exact⟨t',w⟩
 have A:∀(m:Nat)(c:m<a.toArray.size),∃(b:m<os.length)(t':Tok),a.toArray[m] = .str (os[m]'(b)) t':=fun m c=>by
  have b:m<os.length:=by
   rw[w5]at c;omega
  obtain⟨t',C⟩:=d m b;refine⟨b,t',?_⟩;have:=rO.mp C;obtain⟨_,this⟩:=this
  simpa using this
 refine call_meets PySem.F.slot_list_index ⟨_,e,rfl⟩ PySem.F.entry_list_index (PySem.F.args_list_index_2 _ _) (MeetsSeq.list_index l a.toArray n _ (qGZ k) (fun y T=>?_) j (by rw[w5];omega) (by omega) ?_ (fun m c f=>?_)) ⟨e,?_⟩
 .obtain⟨m,c,rfl⟩:=Array.mem_iff_getElem.mp T;obtain⟨b,t',E⟩:=A m c;rw[E];exact SeqRoads2.EqGives.str _ _ _ _
 .obtain⟨b,t',E⟩:=A j (by rw[w5];omega);rw[E];show ((os[j]).cps.toList==k.cps.toList)=true;rw[g];exact cy _
 .obtain⟨b,t',E⟩:=A m c;rw[E];exact cE.mpr fun h=>B m b f (Ye h)
 .exact⟨.int (j:Int),H,I.tok _,⟨_,rfl⟩,q⟩
end
end L2
namespace L2
open PySem PySem.Spec PyProof.Rows PySem.W
section
variable{prog:ag}{w:ay}{A:ah}{E:av->ae->Prop}{h:Heap}{g:Array GenState}{d:Drawn}{t:Nat}{os:OsState}{C fI:ar}
end
end L2
namespace L2
open PySem PySem.Spec PyProof.Rows PySem.W
open Builtin Builtin.ObjectAttr
def qAO:aw av->Bool
 | .ref _::r=>qAO r
 | l=>l==VB
structure ExcS(K:Frag)(C:Addr)(f:Str):Prop where
 sa:findIn K (.ref C) "__setattr__" = some (some (.builtin "object.__setattr__"))
 no:findIn K (.ref C) f=some none
 ok:((clsIn K C).any fun cd=>qAO cd.mro&&cd.hasDict)=true
 ob:mroIn K C (.type "object")=some true
section
variable{prog:ag}{w:ay}{A:ah}{E:av->ae->Prop}{s:ae}{K:Frag}{e C:ar}{f:Str}{v:av}{vs:Array av}
end
section
variable{prog:ag}{w:ay}{A:ah}{E:av->ae->Prop}{K:Frag}{a C dx:ar}{f:Str}{v:av}{o:Obj}{mA:Str->ax av}
end
end L2
namespace L2
open PySem PySem.Spec PyProof.Rows
section
variable{P:ag}{w:ay}{K:dN}{mg:Str->ax av}{base:Heap}{N:aw Str}{qual:Str}{scope:Scope}{f:ar}{cd:av}{A:ah}{outer:aw Env}{s:ae}{H:Hp}{E E':XK}
end
section
variable{M:Model}{A:ah}{E:av->ae->Prop}{s:ae}{base:Heap}{env:Env}{outer:aw Env}{L e:ar}{cls a0 fl:av}{dd:ax ar}{Q:Unit->ae->Prop}
end
section
variable{X:Cx}{E:XK}
end
end L2
namespace DL
open PySem L2
def xK(g g':D->D->Rz W)(a b c:FE):FE:=fun ρ=>(a ρ).bind fun x=>(b ρ).bind fun y=>(g x.d y.d).bind fun w=>w.d.b?.bind fun k=>if k=true then (c ρ).bind fun z=>g' y.d z.d else .ok (.fr (.bl false))
def Ay:D->Rz W
 | .int i=>.ok (.fr (.int (-i)))
 | _=>.st
def jJ:D->D->Rz W
 | .int i,.int j=>if M6 i j then .ok (.fr (.int (i*j))) else .st
 | .str x,.int n=>if (-1000<=n/\n<=1000)/\x.length<=1000 then .ok (.fr (.str (Txt.mul x n))) else .st
 | _,_=>.st
def jh(_K:dN):R2:=fun x y H Q=>(rI M6 fun i j=>.int (i*j)) x y H Q ∨ ∃(i:Str)(n:Int),x = .str i/\y = .int n/\MulOk i n/\Q (.str (Txt.mul i n)) H
def fX{X:Cx}:o6 X (binaryOp .Mult) (jh X.K):=o6.or qBU Qd
def Mr(ng:Bool):R2:=fun x y H Q=>y = .non/\Q (.bl (decide (x = .non) != ng)) H
def Rt{X:Cx}:o6 X (compareOp .Is) (Mr false):=by intro p s σ H x y v u Q I f R ⟨e,q⟩;exact qBV p s σ H x y v u Q I f R ⟨e,by simpa using q⟩
def wQ{X:Cx}:o6 X (compareOp .IsNot) (Mr true):=by intro p s σ H x y v u Q I f R ⟨e,q⟩;exact Yy p s σ H x y v u Q I f R ⟨e,by simpa using q⟩
def pJ(K:dN):aw V->Hp->VK->Prop:=fun xs H Q => ∃ p ys,xs=[.ref p]/\((jx K H p ys/\∀ l,H l=none->Q (.ref l) (upd H l (.tup ys)))∨(tH K H p ys/\Q (.ref p) H))
def D.tn:D->ax String
 | .non=>some "NoneType"
 | .bl _=>some "bool"
 | .int _=>some "int"
 | .str _=>some "str"
 | .tup _=>some "tuple"
 | .lst _=>some "list"
 | _=>none
def isK(T S:String):ax Bool:=if T = "bool" ∨ T = "int" ∨ T = "tuple" ∨ T = "list" ∨ T = "str" then some (S==T||(S == "bool" && T == "int")) else none
def fIs(T:String)(f:FE):FE:=fun ρ=>(f ρ).bind fun w=>match w.a.d.tn.bind (isK T) with
 | some b=>.ok (.fr (.bl b))
 | none=>.st
def Jz(K:dN)(T:String):aw V->Hp->VK->Prop:=fun xs H Q => ∃(x:V)(d:D)(b:Bool),xs=[x,.ty T]/\Rp K H d x/\d.tn.bind (isK T)=some b/\Q (.bl b) H
def BZ(K:dN){T S:String}{b:Bool}(I:S = "NoneType" ∨ S = "bool" ∨ S = "int" ∨ S = "str" ∨ S = "tuple" ∨ S = "list")(h:isK T S=some b):PySem.W.kitOne K (.type S) (.type T)=some b:=by
 unfold isK at h
 split at h
 .rename_i A
  rcases I with rfl | rfl | rfl | rfl | rfl | rfl <;> rcases A with rfl | rfl | rfl | rfl | rfl <;> (cases h;rfl)
 .cases h
theorem t7{X:Cx}{T:String}:nP X (.builtin "isinstance") (Jz X.K T):=by
 intro _ s σ H _ _ Q I r h;obtain⟨x,d,b,rfl,rp,e,q⟩:=h;obtain⟨u,W,rfl,R,g⟩:=vals2 r
 cases (show W=Value.type T from g)
 cases d with
 | non=>cases (show _=_ from rp);exact sO I R .non (BZ _ (.inl rfl) e) fun t=>⟨.bl b,H,I.tok t,rfl,q⟩
 | bl c=>cases (show _=_ from rp);exact sO I R (.bl c) (BZ _ (.inr (.inl rfl)) e) fun t=>⟨.bl b,H,I.tok t,rfl,q⟩
 | int i=>cases (show _=_ from rp);exact sO I R (.int i) (BZ _ (.inr (.inr (.inl rfl))) e) fun t=>⟨.bl b,H,I.tok t,rfl,q⟩
 | str z=>cases (show _=_ from rp);exact sO I R (.str z) (BZ _ (.inr (.inr (.inr (.inl rfl)))) e) fun t=>⟨.bl b,H,I.tok t,rfl,q⟩
 | lst l=>
  obtain⟨p,vs,rfl,a,_⟩:=rp;exact sO I R (.lst a) (BZ _ (.inr (.inr (.inr (.inr (.inr rfl))))) e) fun t=>⟨.bl b,H,I.tok t,rfl,q⟩
 | tup l=>
  obtain⟨p,vs,rfl,a,_⟩:=rp
  cases (show u=Value.ref p from R)
  obtain⟨_,_,ob,f,j,_⟩:=wZ I a;exact cc PySem.W.kitx_tuple I.BX ⟨ob,f,j⟩ (BZ _ (.inr (.inr (.inr (.inr (.inl rfl))))) e) (fun z=>nomatch z) fun t=>⟨.bl b,H,I.tok t,rfl,q⟩
 | dZ l=>cases e
 | obj C fs=>cases e
def D.wZ:String->D->Bool
 | "str",.str _=>true
 | "list",.lst _=>true
 | _,_=>false
def fM(T:String)(g:D->aw D->Rz W)(o:FE)(a:FA):FE:=fun ρ=>(o ρ).bind fun w=>if w.d.wZ T=true then (a ρ).bind fun ws=>g w.d (ws.map W.d) else .st
def MD(G:Gm)(r:V->aw V->Hp->VK->Prop)(g:D->aw D->Rz W):Prop:=∀ B H ρ σ x d vs ds Q,Own G B H ρ σ->Rq G.K B H d x->(∃ ws:aw W,ds=ws.map W.d/\Ip G B H ws vs)->eZ G B H ρ σ Q (g d ds)->r x vs H Q
def QS:V->aw V->Hp->VK->Prop:=fun x xs H Q => ∃ a b:Str,x = .str a/\xs=[.str b]/\(b.length==0)=false/\a.length<=sizeLine/\(Txt.split a b).length<=sizeLine/\∀ p,H p=none->Q (.ref p) (upd H p (.lst ((Txt.split a b).map V.str)))
def QB:D->aw D->Rz W
 | .str a,[.str b]=>if (b.length==0)=false/\a.length<=sizeLine/\(Txt.split a b).length<=sizeLine then .ok (.ow ((Txt.split a b).map D.str)) else .st
 | _,_=>.st
def ue:aw D->ax (aw Str)
 | []=>some []
 | .str x::l=>(ue l).map (x :: ·)
 | _=>none
def QT(K:dN):V->aw V->Hp->VK->Prop:=fun x xs H Q => ∃(a:Str)(p:ar)(ys:aw Str),x = .str a/\xs=[.ref p]/\jx K H p (ys.map V.str)/\(ys.map (·.length)).sum+ys.length*a.length<=16777216/\Q (.str (Txt.join a ys)) H
def GK:D->aw D->Rz W
 | .str a,[.lst l]=>match ue l with
  | some ys=>if (ys.map (·.length)).sum+ys.length*a.length<=16777216 then .ok (.fr (.str (Txt.join a ys))) else .st
  | none=>.st
 | _,_=>.st
def X5(x:Str)(l:aw Str):Rz W:=match l.findIdx? (· == x) with
 | some j=>if l.length<=1000 then .ok (.fr (.int (j:Int))) else .st
 | none=>.st
def qCH:D->aw D->Rz W
 | .lst l,[.str x]=>match ue l with
  | some ys=>X5 x ys
  | none=>.st
 | _,_=>.st
section
variable{G:Gm}{ta tb tc:TE}{fa fb fc:FE}{tr:TA}{fr:FA}
theorem uH{r R:R2}{g g':D->D->Rz W}(F:OD G r g)(i:OD G R g')(m:DE G ta fa)(n:DE G tb fb)(J:DE G tc fc):DE G (Vl r R ta tb tc) (xK g g' fa fb fc):=by
 ext c;refine m.then o (P:=eZ G B H ρ σ Q) h (fun z=>z) (fun z=>z) fun A z v1 _ _ I l s=>?_;refine n.then I (P:=eZ G B H ρ σ Q) z (fun y c a b=>y c a (l.sb.trans b)) (fun y=>y) fun M z2 v2 L t O f q=>?_;refine F L t ρ σ v1 v2 _ _ _ O ((s.hr.mono f.sb f.sh).rq O.sb) (q.rq O.sb) ?_;have X:=l.trans f
 cases e:g A.d M.d with
 | st=>rw[e]at z2;exact z2
 | ex=>rw[e]at z2;exact fun c a b=>z2 c a (X.sb.trans b)
 | ok S=>
  rw[e]at z2;intro _ _ _ j d p;obtain⟨k,E,z3⟩:=Xu (P:=eZ G B H ρ σ Q) z2 (fun y=>y) (p.rq j.sb);refine⟨k,E,?_⟩
  cases k with
  | false=>
   rw[cn xf]at z3 ⊢;exact eZ.now j (z3.on (X.trans d)) (by exact rfl)
  | true=>
   rw[cq rfl]at z3 ⊢;have x:=X.trans d;refine J.then j (P:=eZ G B H ρ σ Q) z3 (fun y c a b=>y c a (x.sb.trans b)) (fun y=>y) fun _ z4 v4 w v C u N=>?_;exact i w v ρ σ v2 v4 _ _ Q C ((q.hr.mono (d.trans u).sb (d.trans u).sh).rq C.sb) (N.rq C.sb) (z4.on (x.trans u))
def wG:UD G (rU fun i=>.int (-i)) Ay:=by
 intro B H ρ σ x _ Q o a h;unfold Ay at h
 split at h
 .exact⟨_,a,eZ.now o h (by exact rfl)⟩
 .ext b
def qC6{x:Str}{n:Int}(h:(-1000<=n/\n<=1000)/\x.length<=1000):MulOk x n:=by
 obtain⟨⟨_,_⟩,H⟩:=h;refine⟨?_,fun c _=>?_,fun c _=>?_⟩
 .rw[bg (by omega),bg (by omega)];rfl
 .have:(1000:Int)<=(2 ^ 63-1)/n:=Int.le_ediv_of_mul_le (by omega) (by omega);omega
 .have m:x.length*n.toNat<=1000*1000:=Nat.mul_le_mul H (by omega);unfold Builtin.Str.tooLong
  have a:1000*1000<=sizeLine:=by decide
  exact bg (by omega)
def iM:OD G (jh G.K) jJ:=by
 intro B H ρ σ x y _ _ Q o a T h;unfold jJ at h
 split at h
 .split at h
  .rename_i e
   exact .inl ⟨_,_,a,T,e,eZ.now o h (by exact rfl)⟩
  .ext b
 .split at h
  .rename_i e
   exact .inr ⟨_,_,a,T,qC6 e,eZ.now o h (by exact rfl)⟩
  .ext b
 .ext b
def NP{ng:Bool}:OD G (Mr ng) (VM ng):=qC1 fun _ _ _ q=>⟨rfl,q⟩
theorem JR{T:String}(d:DE G ta fa):DE G (tCB (Jz G.K T) (Et ta (Et (tC (.ty T)) Hq))) (fIs T fa):=by
 ext c;refine d.then o (P:=eZ G B H ρ σ Q) h (fun z=>z) (fun z=>z) fun w z v _ c O x a=>?_;show Jz G.K T [v,.ty T] c Q;have Z:=z.on x
 have m:w.a.d=w.d:=by cases w <;> rfl
 rw[m]at Z
 cases e:w.d.tn.bind (isK T) with
 | none=>rw[e]at Z;exact Z.elim
 | some b=>
  rw[e]at Z;exact⟨v,w.d,b,rfl,(a.rq O.sb).rp O.sb (fun C _ E=>by rw[E]at e;cases e),e,eZ.now O Z (by exact rfl)⟩
def qu{T:String}{r:V->aw V->Hp->VK->Prop}{g:D->aw D->Rz W}(m:MD G r g)(i:DE G ta fa)(hr:DA G tr fr):DE G (tBM G.K T r ta tr) (fM T g fa fr):=by
 ext c;refine i.then o (P:=eZ G B H ρ σ Q) h (fun z=>z) (fun z=>z) fun w z v _ _ d x c=>?_;obtain⟨t,z⟩:=eU (P:=eZ G B H ρ σ Q) z (fun y=>y);refine⟨?_,?_⟩
 .have q:=c.rq d.sb;unfold D.wZ at t
  split at t
  .rename_i e
   rw[e]at q
   cases (show _=_ from q)
   rfl
  .rename_i e
   rw[e]at q;obtain⟨p,vs,rfl,l,_⟩:=q;exact .inl ⟨rfl,vs,jx.of l⟩
  .cases t
 .refine hr.then d (P:=eZ G B H ρ σ Q) z (fun y n a b=>y n a (x.sb.trans b)) (fun y=>y) fun ws z2 vs j f O X k=>?_;exact m j f ρ σ v _ vs _ Q O ((c.hr.mono X.sb X.sh).rq O.sb) ⟨ws,rfl,k⟩ (z2.on (x.trans X))
theorem fj.ue:∀ {K:dN} {B:Hp} (l:aw Str),fj K B (l.map D.str) (l.map V.str)
 | _,_,[]=>rfl
 | _,_,_::l=>⟨_,_,rfl,rfl,fj.ue l⟩
theorem Eb{K:dN}{B:Hp}:∀ {l:aw D} {ys:aw Str} {vs:aw V},ue l=some ys->fj K B l vs->vs=ys.map V.str
 | [],_,_,e,r=>by cases e;exact r
 | .str b::l,_,_,e,⟨v,ws,z,q,r⟩=>by
  rw[ue]at e
  cases e2:ue l with
  | none=>rw[e2]at e;cases e
  | some bs=>
   rw[e2]at e
   cases e
   cases (show _=_ from q)
   rw[z,Eb e2 r];rfl
def Nk:MD G QS QB:=by
 ext p;unfold QB at h
 split at h
 .obtain⟨v,rfl,q⟩:=arg1 o.sb a
  cases (show _=_ from b)
  cases (show _=_ from q)
  split at h
  .rename_i e
   exact⟨_,_,rfl,rfl,e.1,e.2.1,e.2.2,fun p c=>eZ.own o h (fj.ue _) c⟩
  .ext b
 .ext b
def SM:MD G (QT G.K) GK:=by
 intro B H ρ σ x d _ _ Q o c a h;unfold GK at h
 split at h
 .obtain⟨v,rfl,p,_,rfl,b,r⟩:=arg1 o.sb a
  cases (show _=_ from c)
  split at h
  .rename_i ys e
   split at h
   .rename_i E
    rw[Eb e r]at b;exact⟨_,p,ys,rfl,rfl,jx.of b,E,eZ.now o h (by exact rfl)⟩
   .ext b
  .ext b
 .ext b
def qC8:MD G W4 qCH:=by
 intro B H ρ σ x d _ _ Q o c a h;unfold qCH at h
 split at h
 .obtain⟨v,rfl,q⟩:=arg1 o.sb a
  cases (show _=_ from q)
  obtain⟨p,_,rfl,b,r⟩:=c
  split at h
  .rename_i ys e
   rw[Eb e r]at b;unfold X5 at h
   split at h
   .rename_i j E
    split at h
    .rename_i g
     obtain⟨J,i,k⟩:=List.findIdx?_eq_some_iff_getElem.mp E;refine⟨p,ys,_,j,rfl,rfl,b,⟨J,by simpa using i⟩,fun m _ f=>by have:=k m f;simpa using this,g,eZ.now o h (by exact rfl)⟩
    .ext b
   .ext b
  .ext b
 .ext b
end
section
variable{P:ag}{w:ay}{K:dN}{mg:Str->ax av}{base:Heap}
end
def Eg:V->aw V->Hp->VK->Prop:=fun x xs H Q => ∃ a b,x = .str a/\xs=[.str b]/\Q (.bl (Txt.startswith a b)) H
def oA:D->aw D->Rz W
 | .str a,[.str b]=>.ok (.fr (.bl (Txt.startswith a b)))
 | _,_=>.st
def Rn:V->aw V->Hp->VK->Prop:=fun x xs H Q => ∃ a b i rest,x = .str a/\xs=[.str b]/\Builtin.Str.occurrences a b 0 a.length 1=i::rest/\Q (.int ((i:Nat):Int)) H
def vJ:D->aw D->Rz W
 | .str a,[.str b]=>match Builtin.Str.occurrences a b 0 a.length 1 with
  | i::_=>.ok (.fr (.int ((i:Nat):Int)))
  | []=>.st
 | _,_=>.st
def Eh:V->aw V->Hp->VK->Prop:=fun x xs H Q => ∃ a b,x = .str a/\xs=[.str b]/\a.length<=sizeLine/\Q (.str (Txt.lstripChars a b)) H
def qi:D->aw D->Rz W
 | .str a,[.str b]=>if a.length<=sizeLine then .ok (.fr (.str (Txt.lstripChars a b))) else .st
 | _,_=>.st
def Mu(a b:Str):aw Str:=match Builtin.Str.occurrences a b 0 a.length 1 with
 | i::_=>[Builtin.Str.strSub a 0 i,b,Builtin.Str.strSub a (i+b.length) a.length]
 | []=>[a,Str.empty,Str.empty]
def Mq:V->aw V->Hp->VK->Prop:=fun x xs H Q => ∃ a b,x = .str a/\xs=[.str b]/\(b.length==0)=false/\a.length<=sizeLine/\∀ p,H p=none->Q (.ref p) (upd H p (.tup ((Mu a b).map V.str)))
def uq:D->aw D->Rz W
 | .str a,[.str b]=>if (b.length==0)=false/\a.length<=sizeLine then .ok (.fr (.tup ((Mu a b).map D.str))) else .st
 | _,_=>.st
def Ag:aw D->Rz W
 | [.int i]=>if i.natAbs.log2<1920 then .ok (.fr (.str (Str.ofString (toString i)))) else .st
 | _=>.st
section
variable{X:Cx}
def J9:MtR X "str.lstrip" Eh:=by intro _ s σ H x _ v _ Q I f rs h;obtain⟨a,b,rfl,rfl,z,q⟩:=h;obtain⟨t,rfl⟩:=f;obtain⟨u,rfl,_,rfl⟩:=vals1 rs;exact SC.lstripChars (fun _ k=>⟨.str _,H,I.tok k,⟨_,rfl⟩,q⟩) z
theorem uB:MtR X "str.partition" Mq:=by
 intro _ s σ H x _ v _ Q I f rs h;obtain⟨a,b,rfl,rfl,c,z,q⟩:=h;obtain⟨t,rfl⟩:=f;obtain⟨u,rfl,t',rfl⟩:=vals1 rs;refine call_meets F.slot_str_partition (typeIs_str _ _ _) F.entry_str_partition (F.args_str_partition_2 _ _) (meets_str_partition a b t t' c z) ?_;have g:=q _ I.fresh;unfold Mu at g
 cases e:Builtin.Str.occurrences a b 0 a.length 1 with
 | nil=>
  rw[e]at g
  dsimp only
  refine⟨.ref _,_,I.laid (t':=_) (o:=.tup ([a,Str.empty,Str.empty].map V.str)) (fun b u e=>tO _ e) (jC _) ?_,rfl,g⟩;exact⟨by show 3<=sizeLine;decide,_,.cons ⟨_,rfl⟩ (.cons ⟨_,rfl⟩ (.cons ⟨_,rfl⟩ .nil)),⟨_,Ab _ rfl,rfl,_,rfl⟩⟩
 | cons i r=>
  rw[e]at g
  dsimp only
  refine⟨.ref _,_,I.laid (t':=_) (o:=.tup ([Builtin.Str.strSub a 0 i,b,Builtin.Str.strSub a (i+b.length) a.length].map V.str)) (fun b u e=>tO _ e) (jC _) ?_,rfl,g⟩;exact⟨by show 3<=sizeLine;decide,_,.cons ⟨_,rfl⟩ (.cons ⟨_,rfl⟩ (.cons ⟨_,rfl⟩ .nil)),⟨_,Ab _ rfl,rfl,_,rfl⟩⟩
end
def lC(C:ar)(f:Str)(a:FE):FE:=fun ρ=>(a ρ).bind fun w=>match w with
 | .fr (.obj c fs)=>if c=C then Uj (fs.lookup f) else .st
 | .bj c fs=>if c=C then (match fs.lookup f with
  | some (.va d)=>.ok (.fr d)
  | some (.li l)=>.ok (.bw l)
  | none=>.st) else .st
 | _=>.st
def OJ(C:ar)(m:Str)(F:aw D->Rz D)(n:Nat)(o:FE)(a:FA):FE:=fun ρ=>(o ρ).bind fun w=>match w with
 | .fr (.obj c fs)=>if c=C/\fs.lookup m=none then aP F n (fun ρ=>(a ρ).bind fun ws=>.ok (.fr (.obj c fs)::ws)) ρ else .st
 | .bj c fs=>if c=C/\fs.lookup m=none then aP F n (fun ρ=>(a ρ).bind fun ws=>.ok (.bj c fs::ws)) ρ else .st
 | _=>.st
section
variable{G:Gm}{ta:TE}{fa:FE}{tr:TA}{fr:FA}
def BK:MD G Eg oA:=by
 ext p;unfold oA at h
 split at h
 .obtain⟨v,rfl,q⟩:=arg1 o.sb a
  cases (show _=_ from b)
  cases (show _=_ from q)
  exact⟨_,_,rfl,rfl,eZ.now o h (by exact rfl)⟩
 .ext b
def UW:MD G Rn vJ:=by
 ext p;unfold vJ at h
 split at h
 .obtain⟨v,rfl,q⟩:=arg1 o.sb a
  cases (show _=_ from b)
  cases (show _=_ from q)
  split at h
  .rename_i e
   exact⟨_,_,_,_,rfl,rfl,e,eZ.now o h (by exact rfl)⟩
  .ext b
 .ext b
def JB:MD G Eh qi:=by
 ext p;unfold qi at h
 split at h
 .obtain⟨v,rfl,q⟩:=arg1 o.sb a
  cases (show _=_ from b)
  cases (show _=_ from q)
  split at h
  .rename_i e
   exact⟨_,_,rfl,rfl,e,eZ.now o h (by exact rfl)⟩
  .ext b
 .ext b
def Kh:MD G Mq uq:=by
 ext p;unfold uq at h
 split at h
 .obtain⟨v,rfl,q⟩:=arg1 o.sb a
  cases (show _=_ from b)
  cases (show _=_ from q)
  split at h
  .rename_i e
   exact⟨_,_,rfl,rfl,e.1,e.2,fun p c=>eZ.tup o h (fj.ue _) c⟩
  .ext b
 .ext b
def Be:CD G (fun xs H Q => ∃ i:Int,xs=[.int i]/\i.natAbs.log2<1920/\Q (.str (Str.ofString (toString i))) H) Ag:=by
 ext r;unfold Ag at h
 split at h
 .obtain⟨v,rfl,q⟩:=arg1 o.sb a
  cases (show _=_ from q)
  split at h
  .rename_i e
   exact⟨_,rfl,e,eZ.now o h (by exact rfl)⟩
  .ext b
 .ext b
theorem Pn.look{K:dN}{B:Hp}{x:Str}:∀ {fs:aw (Str×D)} {Q:aw (Str×V)},Pn K B fs Q->(∀ d,fs.lookup x=some d->∃ v,Q.lookup x=some v/\Rp K B d v)/\(fs.lookup x=none->Q.lookup x=none)
 | [],_,h=>by cases (show _=_ from h);exact⟨fun _ e=>(by cases e),fun _=>rfl⟩
 | (y,d)::fs,_,⟨v,ws,e,q,r⟩=>by
  obtain⟨a,H⟩:=Pn.look (x:=x) r;ext l;rw[fR,fR]
  cases x==y with
  | true=>exact⟨fun _ e=>(by cases e;exact⟨v,rfl,q⟩),fun e=>(by cases e)⟩
  | false=>exact⟨a,H⟩
theorem oZ.look{B H:Hp}{x:Str}:∀ {fs:aw (Str×Fm)} {Q:aw (Str×V)},oZ G B H fs Q->(∀ d,fs.lookup x=some (.va d)->∃ v,Q.lookup x=some v/\Rp G.K B d v)/\(∀ l,fs.lookup x=some (.li l)->∃ p vs,Q.lookup x=some (.ref p)/\p∈adr fs Q/\H p=some (.lst vs)/\B p=none/\G.H0 p=none/\fj G.K B l vs)/\(fs.lookup x=none->Q.lookup x=none)
 | [],_,h=>by cases (show _=_ from h);exact⟨fun _ e=>(by cases e),fun _ e=>(by cases e),fun _=>rfl⟩
 | (y,.va d)::fs,_,⟨v,ws,e,q,r⟩=>by
  obtain⟨b,c,a⟩:=oZ.look (x:=x) r;ext l;rw[fR,fR]
  cases x==y with
  | true=>exact⟨fun _ e=>(by cases e;exact⟨v,rfl,q⟩),fun _ e=>(by cases e),fun e=>(by cases e)⟩
  | false=>
   refine⟨b,fun l e=>?_,a⟩;obtain⟨p,vs,z1,z2,z3⟩:=c l e;exact⟨p,vs,z1,(by cases v <;> exact z2),z3⟩
 | (y,.li l)::fs,_,⟨p,ws,vs,e,h,n,N,q,r⟩=>by
  obtain⟨b,c,a⟩:=oZ.look (x:=x) r;ext l;rw[fR,fR]
  cases x==y with
  | true=>exact⟨fun _ e=>(by cases e),fun _ e=>(by cases e;exact⟨p,vs,rfl,qK,h,n,N,q⟩),fun e=>(by cases e)⟩
  | false=>
   refine⟨b,fun l e=>?_,a⟩;obtain⟨P,vs',z1,z2,z3⟩:=c l e;exact⟨P,vs',z1,rM _ z2,z3⟩
theorem iR{C:ar}{f:Str}(g:Hk G.K C)(N:cz G.K C f)(k:DE G ta fa):DE G (qBJ G.K ta f) (lC C f fa):=by
 ext c;refine k.then o (P:=eZ G B H ρ σ Q) h (fun z=>z) (fun z=>z) fun w z v s j O x i=>?_
 split at z
 .rename_i c fs
  obtain⟨e,z9⟩:=eU (P:=eZ G B H ρ σ Q) z (fun y=>y);clear z;have z:=z9;clear z9;ext l;obtain⟨p,D,a,rfl,b,r⟩:=i
  cases el:fs.lookup f with
  | none=>rw[el]at z;exact z.elim
  | some d=>
   rw[el]at z;obtain⟨T,E,q⟩:=r.look.1 d el;exact⟨p,c,D,a,T,rfl,O.sb _ _ b,g,N,E,eZ.now O (z.on x) q⟩
 .rename_i c fs
  obtain⟨e,z9⟩:=eU (P:=eZ G B H ρ σ Q) z (fun y=>y);clear z;have z:=z9;clear z9;ext l;obtain⟨p,rfl,D,a,b,_,_,r,_⟩:=i
  cases el:fs.lookup f with
  | none=>rw[el]at z;exact z.elim
  | some m=>
   rw[el]at z
   cases m with
   | va d=>
    obtain⟨T,E,q⟩:=r.look.1 d el;exact⟨p,c,D,a,T,rfl,b,g,N,E,eZ.now O (z.on x) q⟩
   | li l=>
    obtain⟨n,vs,E,_,q⟩:=r.look.2.1 l el;exact⟨p,c,D,a,_,rfl,b,g,N,E,z _ s j O x ⟨n,vs,rfl,q⟩⟩
 .ext ap
theorem Lb{C Cx:ar}{m:Str}{F:aw D->Rz D}{n:Nat}(I:Cx=G.C)(L:DE G ta fa)(f:DA G tr fr):DE G (MT C m (cI G.K Cx F n) [] E0 ta tr) (OJ C m (bU F) n fa fr):=by
 ext c;refine L.then o (P:=eZ G B H ρ σ Q) h (fun z=>z) (fun z=>z) fun w z v i g O x q=>?_
 split at z
 .rename_i c fs
  obtain⟨⟨e,E⟩,z9⟩:=eU (P:=eZ G B H ρ σ Q) z (fun y=>y);clear z;have z:=z9;clear z9;ext l;subst I;obtain⟨p,s,u,rfl,k,r⟩:=id q;refine⟨p,s,u,rfl,O.sb _ _ k,r.look.2 E,?_⟩;unfold aP at z
  dsimp only at z
  cases ea:fr ρ with
  | st=>rw[ea]at z;exact z.elim
  | ex=>rw[ea]at z;exact f i g ρ σ _ O (by rw[ea];exact fun A a b=>z A a (x.sb.trans b))
  | ok ws=>
   ext ax;obtain⟨l,z9⟩:=eU (P:=eZ G B H ρ σ Q) z (fun y=>y);clear z;have z:=z9;clear z9;have Z:eZ G B H ρ σ Q ((bU F ((W.fr (.obj c fs)::ws).map W.d)).bind fun d=>if (W.fr (.obj c fs)::ws).all W.rst=true∨d.nl=true then .ok (.fr d) else .st):=z;refine Lg (ws:=W.fr (.obj c fs)::ws) (vs:=.ref p::vs) t (x.trans X) ⟨.ref p,vs,rfl,Rp.mono (d:=.obj c fs) X.sb q,j⟩ l (fun e=>?_) ?_
   .unfold bU at Z;rw[e]at Z;exact Z.elim
   .unfold bU at Z
    split at Z
    .exact Z.elim
    .exact Z
 .rename_i c fs
  obtain⟨⟨e,E⟩,z9⟩:=eU (P:=eZ G B H ρ σ Q) z (fun y=>y);clear z;have z:=z9;clear z9;ext l;subst I;obtain⟨p,rfl,s,u,k,_,_,r,_⟩:=id q;refine⟨p,s,u,rfl,k,r.look.2.2 E,?_⟩;unfold aP at z
  dsimp only at z
  cases ea:fr ρ with
  | st=>rw[ea]at z;exact z.elim
  | ex=>rw[ea]at z;exact f i g ρ σ _ O (by rw[ea];exact fun A a b=>z A a (x.sb.trans b))
  | ok ws=>
   ext ax;obtain⟨l,z9⟩:=eU (P:=eZ G B H ρ σ Q) z (fun y=>y);clear z;have z:=z9;clear z9;have Z:eZ G B H ρ σ Q ((bU F ((W.bj c fs::ws).map W.d)).bind fun d=>if (W.bj c fs::ws).all W.rst=true∨d.nl=true then .ok (.fr d) else .st):=z;refine Lg (ws:=W.bj c fs::ws) (vs:=.ref p::vs) t (x.trans X) ⟨.ref p,vs,rfl,Hz.mono (w:=.bj c fs) X.sb X.sh X.gr q,j⟩ l (fun e=>?_) ?_
   .unfold bU at Z;rw[e]at Z;exact Z.elim
   .unfold bU at Z
    split at Z
    .exact Z.elim
    .exact Z
 .ext ap
end
def ji(f:Str)(m:Fm):aw (Str×Fm)->aw (Str×Fm)
 | []=>[(f,m)]
 | (g,x)::r=>if g=f then (g,m)::r else (g,x)::ji f m r
section
variable{G:Gm}{B H B' H':Hp}{ρ:aw Sl}{σ:St}
theorem oZ.keep(M:bD B B'):∀ {fs:aw (Str×Fm)} {Q:aw (Str×V)},oZ G B H fs Q->(∀ b∈adr fs Q,B' b=none/\∀ u,H b=some u->H' b=some u)->oZ G B' H' fs Q
 | [],_,h,_=>h
 | (_,.va _)::_,_,⟨v,ws,e,q,r⟩,k=>by
  ext l;refine⟨v,ws,rfl,q.mono M,oZ.keep M r fun b c=>k b ?_⟩
  cases v <;> exact c
 | (_,.li _)::_,_,⟨p,ws,vs,e,h,n,N,q,r⟩,k=>by
  ext l;exact⟨p,ws,vs,rfl,(k p qK).2 _ h,(k p qK).1,N,q.mono M,oZ.keep M r fun b c=>k b (rM _ c)⟩
theorem Own.mut(o:Own G B H ρ σ){j:Nat}{C a dx V0:ar}{fs f:aw (Str×Fm)}{Q N:aw (Str×V)}(I:ρ[j]? = some (Sl.ob C fs))(S:σ[j]? = some (some (V.ref a)))(e0:H a=some (.ins C dx Q))(nb:ρ.all Sl.nb=true)
  (U:bD B B') (Tr:bD B' H') (gr:∀ b o,B' b=some o->B b=some o∨H b=none∨b=a∨b∈adr fs Q) (na':B' a=none) (s0:bD G.H0 H') (keep:∀ b u,H b=some u->b≠a->b∉adr fs Q->H' b=some u)
  (E:H' a=some (.ins C V0 N)) (r:oZ G B' H' f N) (nd:(adr f N).Nodup) (fr:∀ b∈adr f N,b∈adr fs Q ∨ ∀ k,k≠j->¬ Oa H ρ σ k b):Own G B' H' (ρ.set j (.ob C f)) σ:=by
 have J:j<ρ.length:=(rO.mp I).1;have n:∀ b,(b=a∨b∈adr fs Q)->Oa H ρ σ j b:=fun b c=>.inr ⟨C,fs,a,dx,Q,I,S,e0,c⟩;obtain⟨_,z1,_,_,z2,_,n0,_,_⟩:=o.ob j C fs I;rw[S]at z1
 cases z1
 rw[e0]at z2
 cases z2
 have O:∀ k b,k≠j->Oa H ρ σ k b->∀ u,H b=some u->H' b=some u:=fun k b e c u hu=>
  keep b u hu (fun z=>e (o.ap k j b c (n b (.inl z)))) fun z=>e (o.ap k j b c (n b (.inr z)))
 have Qk:∀ k b,k≠j->Oa H ρ σ k b->B b=none->B' b=none:=fun k b e c hn=>by
  cases z:B' b with
  | none=>rfl
  | some u=>
   rcases gr b u z with y | y | y | y
   .rw[hn]at y;cases y
   .obtain⟨w,hw⟩:=o.oaH c;rw[hw]at y;cases y
   .exact (e (o.ap k j b c (n b (.inl y)))).elim
   .exact (e (o.ap k j b c (n b (.inr y)))).elim
 have back:∀ k b,k≠j->Oa H' (ρ.set j (.ob C f)) σ k b->Oa H ρ σ k b:=fun k b e h=>by
  rcases h with ⟨m,E,q⟩ | ⟨l,F,P,t,v1,E,q,e3,e4⟩
  .rw[cv (bE e)]at E;exact .inl ⟨m,E,q⟩
  .rw[cv (bE e)]at E;obtain⟨a2,A,D,v2,Y,_⟩:=o.ob k l F E;rw[q]at A
   cases A
   have L:=O k P e (.inr ⟨l,F,P,D,v2,E,q,Y,.inl rfl⟩) _ Y;rw[e3]at L
   cases L
   exact .inr ⟨l,F,P,t,v1,E,q,Y,e4⟩
 refine⟨Tr,s0,by rw[fN];exact o.len,fun k d z=>?_,fun k m z=>?_,fun k m z=>?_,fun k l F z=>?_,fun k i b M R=>?_,fun k b l F hg z=>?_⟩
 .by_cases y:k=j
  .subst y;rw[cw J]at z;cases z
  .ext s;obtain⟨v,s,T⟩:=o.fr k d z;exact⟨v,s,T.mono U⟩
 .by_cases y:k=j
  .subst y;rw[cw J]at z;cases z
  .ext s;obtain⟨p,vs,s,T,q3,q4,q5⟩:=o.ow k m z;exact⟨p,vs,s,O k p y (.inl ⟨m,z,s⟩) _ T,Qk k p y (.inl ⟨m,z,s⟩) q3,q4,q5.mono U⟩
 .by_cases y:k=j
  .subst y;rw[cw J]at z;cases z
  .ext s;have:=List.all_eq_true.mp nb _ (Jb z)
   cases this
 .by_cases y:k=j
  .subst y;rw[cw J]at z
   cases z
   exact⟨a,S,V0,N,E,na',n0,r,nd⟩
  .ext s;obtain⟨a2,A,D,v2,Y,L,y4,y5,y6⟩:=o.ob k l F z;have g:∀ b,(b=a2∨b∈adr F v2)->Oa H ρ σ k b:=fun b c=>.inr ⟨l,F,a2,D,v2,z,A,Y,c⟩;exact⟨a2,A,D,v2,O k a2 y (g a2 (.inl rfl)) _ Y,Qk k a2 y (g a2 (.inl rfl)) L,y4,y5.keep U fun b c=>⟨Qk k b y (g b (.inr c)) (y5.lies b c).1,O k b y (g b (.inr c))⟩,y6⟩
 .have one:∀ b,Oa H' (ρ.set j (.ob C f)) σ j b->(Oa H ρ σ j b) ∨ ∀ k,k≠j->¬ Oa H ρ σ k b:=fun b h=>by
   rcases h with ⟨m,X,W⟩ | ⟨l,F,P,t,v1,X,W,x3,Z⟩
   .rw[cw J]at X;cases X
   .rw[cw J]at X
    cases X
    rw[S]at W
    cases W
    rw[E]at x3
    cases x3
    rcases Z with rfl | Z
    .exact .inl (n _ (.inl rfl))
    .rcases fr b Z with x | x
     .exact .inl (n b (.inr x))
     .exact .inr x
  by_cases y:k=j
  .subst y
   by_cases Y:i=k
   .exact Y.symm
   .rcases one b M with x | x
    .exact o.ap k i b x (back i b Y R)
    .exact (x i Y (back i b Y R)).elim
  .by_cases Y:i=j
   .subst Y;rcases one b R with x | x
    .exact o.ap k i b (back k b y M) x
    .exact (x k y (back k b y M)).elim
   .exact o.ap k i b (back k b y M) (back i b Y R)
 .by_cases y:k=j
  .subst y;exact o.sf k b C fs hg I
  .ext s;exact o.sf k b l F hg z
theorem QW{f:Str}{d:D}{y:V}(q:Rp G.K B d y):∀ {fs:aw (Str×Fm)} {Q:aw (Str×V)},oZ G B H fs Q->oZ G B H (ji f (.va d) fs) (lR f y Q)/\(adr (ji f (.va d) fs) (lR f y Q)).Sublist (adr fs Q)
 | [],_,h=>by
  cases (show _=_ from h)
  refine⟨⟨y,[],rfl,q,rfl⟩,?_⟩
  cases y <;> exact List.Sublist.refl _
 | (g,.va j)::fs,_,⟨v,ws,e,b,r⟩=>by
  ext l;obtain⟨a,i⟩:=QW (f:=f) q r;unfold ji lR
  by_cases c:g=f
  .rw[cq c,cq c];refine⟨⟨y,ws,rfl,q,r⟩,?_⟩
   cases y <;> cases v <;> exact List.Sublist.refl _
  .rw[cn c,cn c];refine⟨⟨v,_,rfl,b,a⟩,?_⟩
   cases v <;> exact i
 | (g,.li L)::fs,_,⟨p,ws,vs,e,h,n,N,b,r⟩=>by
  ext l;obtain⟨a,i⟩:=QW (f:=f) q r;unfold ji lR
  by_cases c:g=f
  .rw[cq c,cq c];refine⟨⟨y,ws,rfl,q,r⟩,?_⟩
   cases y <;> exact List.Sublist.cons _ (List.Sublist.refl _)
  .rw[cn c,cn c];exact⟨⟨p,_,vs,rfl,h,n,N,b,a⟩,List.Sublist.cons_cons _ i⟩
theorem QX{f:Str}{l:aw D}{p:ar}{vs:aw V}(E:H p=some (.lst vs))(b:B p=none)(U:G.H0 p=none)(q:fj G.K B l vs):∀ {fs:aw (Str×Fm)} {Q:aw (Str×V)},oZ G B H fs Q->p∉adr fs Q->(adr fs Q).Nodup →
  oZ G B H (ji f (.li l) fs) (lR f (.ref p) Q)/\(∀ a∈adr (ji f (.li l) fs) (lR f (.ref p) Q),a=p∨a∈adr fs Q)/\(adr (ji f (.li l) fs) (lR f (.ref p) Q)).Nodup
 | [],_,h,_,_=>by
  cases (show _=_ from h)
  exact⟨⟨p,[],vs,rfl,E,b,U,q,rfl⟩,fun a d=>.inl (vf.mp d),gN.mpr ⟨List.not_mem_nil,List.nodup_nil⟩⟩
 | (g,.va J)::fs,_,⟨v,ws,e,w,r⟩,m,o=>by
  ext l;have N:p∉adr fs ws:=fun z=>m (by cases v <;> exact z)
  have j:(adr fs ws).Nodup:=by cases v <;> exact o
  obtain⟨s,k,x⟩:=QX (f:=f) E b U q r N j;unfold ji lR
  by_cases c:g=f
  .rw[cq c,cq c];refine⟨⟨p,ws,vs,rfl,E,b,U,q,r⟩,fun a d=>?_,gN.mpr ⟨N,j⟩⟩;rcases jL.mp d with z | z
   .exact .inl z
   .exact .inr (by cases v <;> exact z)
  .rw[cn c,cn c];refine⟨⟨v,_,rfl,w,s⟩,fun a d=>?_,?_⟩
   .have C:a∈adr (ji f (.li l) fs) (lR f (.ref p) ws):=by cases v <;> exact d
    rcases k a C with z | z
    .exact .inl z
    .exact .inr (by cases v <;> exact z)
   .cases v <;> exact x
 | (g,.li L)::fs,_,⟨F,ws,A,e,h,n,I,w,r⟩,m,o=>by
  ext l;obtain⟨t,i⟩:=gN.mp (show (F::adr fs ws).Nodup from o);have N:p∉adr fs ws:=fun z=>m (rM _ z);have u:p≠F:=fun z=>m (by subst z;exact qK);obtain⟨s,k,x⟩:=QX (f:=f) E b U q r N i;unfold ji lR
  by_cases c:g=f
  .rw[cq c,cq c];refine⟨⟨p,ws,vs,rfl,E,b,U,q,r⟩,fun a d=>?_,gN.mpr ⟨N,i⟩⟩;rcases jL.mp d with z | z
   .exact .inl z
   .exact .inr (rM _ z)
  .rw[cn c,cn c];refine⟨⟨F,_,A,rfl,h,n,I,w,s⟩,fun a d=>?_,gN.mpr ⟨fun z=>?_,x⟩⟩
   .rcases jL.mp d with z | z
    .exact .inr (by rw[z];exact qK)
    .rcases k a z with y | y
     .exact .inl y
     .exact .inr (rM _ y)
   .rcases k F z with y | y
    .exact u y.symm
    .exact t y
end
def W.fm:W->Rz Fm
 | .fr d=>.ok (.va d)
 | .ow l=>.ok (.li l)
 | _=>.st
def w6(C:ar)(j:Nat)(f:Str)(e:FE):FS:=fun ρ=>(e ρ).bind fun w=>w.fm.bind fun m=>match ρ[j]? with
 | some (.ob c fs)=>if c=C/\fs.length<1000/\ρ.all Sl.nb=true then .ok (.nx (ρ.set j (.ob c (ji f m fs)))) else .st
 | _=>.st
def qX(C:ar)(j:Nat)(f:Str)(e:FE):FS:=fun ρ=>match ρ[j]? with
 | some (.ob c fs)=>if c=C then (match fs.lookup f with
  | some (.li l)=>(e ρ).bind fun w=>w.z.bind fun d=>if l.length<sizeLine/\ρ.all Sl.nb=true then .ok (.nx (ρ.set j (.ob c (ji f (.li (l++[d])) fs)))) else .st
  | _=>.st) else .st
 | _=>.st
section
variable{G:Gm}{ta:TE}{fa:FE}
theorem oZ.len{B H:Hp}:∀ {fs:aw (Str×Fm)} {Q:aw (Str×V)},oZ G B H fs Q->Q.length=fs.length
 | [],_,h=>by cases (show _=_ from h);rfl
 | (_,.va _)::_,_,⟨v,ws,e,q,r⟩=>by rw[e,gH,gH,oZ.len r]
 | (_,.li _)::_,_,⟨p,ws,vs,e,h,n,N,q,r⟩=>by rw[e,gH,gH,oZ.len r]
theorem xN{C:ar}{j:Nat}{f:Str}(hC:Hk G.K C)(U:cz G.K C f)(L:DE G ta fa):DS G (qDH G.K (Jk j) ta f) (w6 C j f fa):=by
 ext g;refine L.then o (P:=uX G B D) h (fun z=>z) (fun z=>z) fun w z v I g O X F=>?_
 cases em:w.fm with
 | st=>rw[em]at z;exact z.elim
 | ex=>cases w <;> cases em
 | ok m=>
 rw[em]at z
 have z1:uX G B D (match ρ[j]? with
  | some (.ob c fs)=>if c=C/\fs.length<1000/\ρ.all Sl.nb=true then .ok (.nx (ρ.set j (.ob c (ji f m fs)))) else .st
  | _=>.st):=z
 clear z
 split at z1
 .rename_i c fs e
  obtain⟨⟨Y,M,nb⟩,z2⟩:=eU (P:=uX G B D) z1 (fun y=>y);subst Y;obtain⟨a,i,x,Q,E,N,n0,r,A⟩:=O.ob j c fs e;refine⟨.ref a,i,a,c,x,Q,rfl,E,hC,U,by rw[r.len];exact M,?_⟩;refine z2 σ I _ ?_ (X.s o)
  have T:bD I (upd g a (.ins c x (lR f v Q))):=fun b u z=>by
   rw[zR fun y=>by subst y;rw[N]at z;cases z];exact O.sb _ _ z
  have s:bD G.H0 (upd g a (.ins c x (lR f v Q))):=fun b u z=>by
   rw[zR fun y=>by subst y;rw[n0]at z;cases z];exact O.s0 _ _ z
  have keep:∀ b u,g b=some u->b≠a->b∉adr fs Q->upd g a (.ins c x (lR f v Q)) b=some u:=fun b u z y _=>by rw[zR y];exact z
  cases w with
  | fr d=>
   cases em
   obtain⟨R,sl⟩:=QW (f:=f) F r;refine O.mut e i E nb (bD.refl _) T (fun _ _ z=>.inl z) N s keep zC (R.away fun z=>?_) (A.sublist sl) fun b q=>.inl (sl.subset q);obtain⟨_,_,us,y⟩:=R.lies a z;rw[E]at y
   cases y
  | ow l=>
   cases em
   obtain⟨p,_,S,J,hp,Z,rp⟩:=F;subst S
   have n:∀ k,¬ Oa g ρ σ k p:=fun k z=>by
    obtain⟨u,y⟩:=o.oaH (o.oa X.sh z);rw[J]at y
    cases y
   obtain⟨R,W,t⟩:=QX (f:=f) hp Z (o.s0.free J) rp r (fun z=>n j (.inr ⟨c,fs,a,x,Q,e,i,E,.inr z⟩)) A;refine O.mut e i E nb (bD.refl _) T (fun _ _ z=>.inl z) N s keep zC (R.away fun z=>?_) t fun b q=>(W b q).elim (fun z=>.inr fun k _=>by rw[z];exact n k) .inl;obtain⟨_,_,us,y⟩:=R.lies a z;rw[E]at y
   cases y
  | bw l=>cases em
  | bj _ _=>cases em
 .exact z1.elim
theorem Lp{B H:Hp}{f:Str}{l l':aw D}{p:ar}{vs':aw V}(q:fj G.K B l' vs'):∀ {fs:aw (Str×Fm)} {Q:aw (Str×V)},oZ G B H fs Q->(adr fs Q).Nodup->fs.lookup f=some (.li l)->Q.lookup f=some (.ref p) →
  oZ G B (upd H p (.lst vs')) (ji f (.li l') fs) Q/\adr (ji f (.li l') fs) Q=adr fs Q
 | [],_,_,_,e,_=>by cases e
 | (g,.va s)::fs,_,⟨v,ws,e,d,r⟩,N,E,j=>by
  ext l;rw[fR]at E j
  cases c:f==g with
  | true=>rw[c]at E;cases E
  | false=>
   rw[c]at E j
   have ne:g≠f:=fun z=>by rw[z,cy]at c;cases c
   obtain⟨b,a⟩:=Lp q r (by cases v <;> exact N) E j;unfold ji;rw[cn ne];refine⟨⟨v,ws,rfl,d,b⟩,?_⟩
   cases v <;> exact a
 | (g,.li L)::fs,_,⟨F,ws,A,e,h,n,k,d,r⟩,N,E,j=>by
  ext l;obtain⟨t,i⟩:=gN.mp (show (F::adr fs ws).Nodup from N);rw[fR]at E j
  cases c:f==g with
  | true=>
   rw[c]at E j
   cases j
   have m:g=f:=(eq_of_beq c).symm;unfold ji;rw[cq m];exact⟨⟨_,ws,vs',rfl,zC,n,k,q,r.away t⟩,rfl⟩
  | false=>
   rw[c]at E j
   have ne:g≠f:=fun z=>by rw[z,cy]at c;cases c
   obtain⟨b,a⟩:=Lp q r i E j;obtain⟨_,_,z1,z2,_⟩:=r.look.2.1 _ E;rw[show ws.lookup f=some (.ref p) from j]at z1
   cases z1
   have o:F≠p:=fun z=>t (by rw[z];exact z2);unfold ji;rw[cn ne];refine⟨⟨F,ws,A,rfl,by rw[zR o];exact h,n,k,d,b⟩,?_⟩;show F::adr (ji f (.li l') fs) ws=F::adr fs ws;rw[a]
theorem zg{C:ar}{j:Nat}{f:Str}(T:Hk G.K C)(J:cz G.K C f)(q:DE G ta fa):DS G (Ma (tBM G.K "list" fQ (qBJ G.K (Jk j) f) (Et ta Hq))) (qX C j f fa):=by
 ext g;unfold qX at h
 split at h
 .rename_i i fs e
  obtain⟨M,c⟩:=eU (P:=uX G B D) h (fun y=>y);clear h;subst M
  split at c
  .rename_i l k
   obtain⟨a,m,L,U,E,t,_,r,N⟩:=o.ob j i fs e;obtain⟨p,vs,z1,z2,z3,z4,z5,z6⟩:=r.look.2.1 l k
   have n:a≠p:=fun z=>by rw[z,z3]at E;cases E
   refine⟨.ref a,m,a,i,L,U,.ref p,rfl,E,T,J,z1,.inl ⟨rfl,vs,jx.of z3⟩,?_⟩;refine q.then o (P:=uX G B D) c (fun z=>z) (fun z=>z) fun w z v _ _ I F Q=>?_
   cases ez:w.z with
   | st=>rw[ez]at z;exact z.elim
   | ex=>exact (by cases w <;> cases ez)
   | ok d=>
   rw[ez]at z;obtain⟨⟨s,nb⟩,Y⟩:=eU (P:=uX G B D) z (fun y=>y);obtain⟨S,O,X,R⟩:=Own.Ad o I F Q ez;refine⟨p,vs,v,rfl,rfl,X.sh _ _ z3,by rw[z6.len];exact s,?_⟩;have A:=r.mono X.sb X.sh X.gr;obtain⟨W,ad⟩:=Lp (l':=l++[d]) (vs':=vs++[v]) ((z6.mono X.sb).app (.one R)) A N k z1;refine Y σ S _ (O.mut e m (X.sh _ _ E) nb (bD.refl _) (fun b u y=>?_) (fun _ _ y=>.inl y) (yp X.gr E t) (fun b u y=>?_) (fun b u y _ Y=>?_) (by rw[zR n];exact X.sh _ _ E) W (by rw[ad];exact N) fun b g=>.inl (by rw[ad]at g;exact g)) (X.s o)
   .rw[zR fun x=>by subst x;rw[yp X.gr z3 z4]at y;cases y];exact O.sb _ _ y
   .rw[zR fun x=>by subst x;rw[z5]at y;cases y];exact O.s0 _ _ y
   .rw[zR fun x=>by subst x;exact Y z2];exact y
  .exact c.elim
 .ext b
end
abbrev Ms:=aw (Str×Fm)
def uJ(K:dN)(B H:Hp)(fs:Ms)(Q:aw (Str×V)):Prop:=oZ ⟨K,fun _=>none,fun _ _ _=>True,0,none⟩ B H fs Q
theorem oZ.to0{G:Gm}{B H:Hp}:∀ {fs:Ms} {Q:aw (Str×V)},oZ G B H fs Q->uJ G.K B H fs Q
 | [],_,h=>h
 | (_,.va _)::_,_,⟨v,ws,e,q,r⟩=>⟨v,ws,e,q,oZ.to0 r⟩
 | (_,.li _)::_,_,⟨p,ws,vs,e,h,n,N,q,r⟩=>⟨p,ws,vs,e,h,n,rfl,q,oZ.to0 r⟩
theorem uJ.of{G:Gm}{B H:Hp}:∀ {fs:Ms} {Q:aw (Str×V)},uJ G.K B H fs Q->(∀ b∈adr fs Q,G.H0 b=none)->oZ G B H fs Q
 | [],_,h,_=>h
 | (_,.va _)::_,_,⟨v,ws,e,q,r⟩,k=>by
  ext l;refine⟨v,ws,rfl,q,uJ.of r fun b c=>k b ?_⟩
  cases v <;> exact c
 | (_,.li _)::_,_,⟨p,ws,vs,e,h,n,N,q,r⟩,k=>by
  ext l;exact⟨p,ws,vs,rfl,h,n,k p qK,q,uJ.of r fun b c=>k b (rM _ c)⟩
def Vr(K:dN)(C O:ar)(F:Ms->aw D->Rz (Ms×D))(n:Nat):Sp:=fun vs H Q E=>vs.length=n/\∃ B a x c fs ds ws,vs = .ref a::ws/\bD B H/\H a=some (.ins O x c)/\B a=none/\uJ K B H fs c/\(adr fs c).Nodup/\fj K B ds ws/\match F fs ds with
 | .ok (f,d) => ∀ v e h g N,(∀ b u,H b=some u->b≠a->b∉adr fs c->h b=some u)->bD B e->bD e h->(∀ b o,e b=some o->B b=some o∨H b=none∨b=a∨b∈adr fs c)->h a=some (.ins O g N)->e a=none->uJ K e h f N->(adr f N).Nodup →
   (∀ b∈adr f N,b∈adr fs c∨H b=none)->Rp K e d v->Q v h
 | .ex => ∀ h,(∀ b u,H b=some u->b≠a->b∉adr fs c->h b=some u)->E (.ref C) none h
 | .st=>False
def startM(n:Nat)(O:ar)(fs:Ms)(ds:aw D):aw Sl:=.ob O fs::start (n-1) ds
def O6(O:ar):Rz Fl->Rz (Ms×D)
 | .ok (.nx (.ob C fs::_))=>if C=O then .ok (fs,.non) else .st
 | .ok (.ret d (some (.ob C fs::_)))=>if C=O then .ok (fs,d) else .st
 | .ex=>.ex
 | _=>.st
def runM(n:Nat)(O:ar)(g:FS)(fs:Ms)(ds:aw D):Rz (Ms×D):=O6 O (g (startM n O fs ds))
def Vx(O:ar)(j:Nat)(m:Str)(F:Ms->aw D->Rz (Ms×D))(n:Nat)(a:FA)(k:Nat->D->aw Sl->aw Sl):FS:=fun ρ=>match ρ[j]? with
 | some (.ob C fs)=>if C=O/\fs.lookup m=none then (a ρ).bind fun ws=>(zL ws).bind fun ds=>if ds.length+1=n/\ρ.all Sl.nb=true then (F fs ds).bind fun r=>.ok (.nx (k j r.2 (ρ.set j (.ob C r.1)))) else .st else .st
 | _=>.st
def u0(F:Ms->aw D->Rz (Ms×D)):Ms->aw D->Rz (Ms×D):=fun fs ds=>match F fs ds with
 | .ex=>.st
 | r=>r
section
variable{G:Gm}{tr:TA}{fr:FA}
theorem qAT{B g p:Hp}{ρ:aw Sl}{σ:St}{C:ar}{j n:Nat}{fs:Ms}{F:Ms->aw D->Rz (Ms×D)}{E:XK}{Q:VK}{ds:aw D}{vs:aw V}{a:ar}(O:Own G g p ρ σ)(X:Hn G B g)(e:ρ[j]? = some (Sl.ob C fs))(A:σ[j]? = some (some (V.ref a)))
  (nb:ρ.all Sl.nb=true) (R:fj G.K g ds vs) (P:ds.length+1=n) (hs:F fs ds≠.st) (S:F fs ds = .ex->∀ H,bD G.H0 H->bD g H->E (.ref G.C) none H)
  (L:∀ f d,F fs ds = .ok (f,d)->∀ v h H,Own G h H (ρ.set j (.ob C f)) σ->Hn G B h->Rp G.K h d v->Q v H):Vr G.K G.C C F n (.ref a::vs) p Q E:=by
 obtain⟨_,z1,W,o,t,w,Z,r,J⟩:=O.ob j C fs e;rw[A]at z1
 cases z1
 have l:∀ b,(b=a∨b∈adr fs o)->G.H0 b=none:=fun b c=>by
  rcases c with rfl | c
  .exact Z
  .exact (r.lies b c).2.1
 have m:∀ b,(b=a∨b∈adr fs o)->g b=none:=fun b c=>by
  rcases c with rfl | c
  .exact w
  .exact (r.lies b c).1
 refine⟨by rw[gH,R.len];exact P,g,a,W,o,fs,ds,vs,rfl,O.sb,t,w,r.to0,J,R,?_⟩
 have s:∀ H,(∀ b u,p b=some u->b≠a->b∉adr fs o->H b=some u)->bD G.H0 H/\bD g H:=fun H k=>by
  refine⟨fun b u z=>k b u (O.s0 _ _ z) (fun y=>?_) fun y=>?_,fun b u z=>k b u (O.sb _ _ z) (fun y=>?_) fun y=>?_⟩
  .rw[l b (.inl y)]at z;cases z
  .rw[l b (.inr y)]at z;cases z
  .rw[m b (.inl y)]at z;cases z
  .rw[m b (.inr y)]at z;cases z
 cases ef:F fs ds with
 | st=>exact hs ef
 | ex=>exact fun H k=>S ef H (s H k).1 (s H k).2
 | ok y=>
  obtain⟨f,d⟩:=y;intro v h H _ _ k M U x I q Y N i T;refine L f d ef v h H (O.mut e A t nb M U x q (s H k).1 k I (uJ.of Y fun b c=>?_) N fun b c=>?_) (X.trans ⟨M,fun b u z=>?_⟩) T
  .rcases i b c with y | y
   .exact l b (.inr y)
   .exact O.s0.free y
  .rcases i b c with y | y
   .exact .inl y
   .exact .inr fun k _ ok=>by obtain⟨u,z⟩:=O.oaH ok;rw[y]at z;cases z
  .rcases x b u z with y | y | y | y
   .exact .inl y
   .exact .inr (O.s0.free y)
   .exact .inr (l b (.inl y))
   .exact .inr (l b (.inr y))
def qA1{α β:Type}{r:Rz α}{k:α->Rz β}{P:Rz β->Prop}(h:P (r.bind k))(hs:P .st->False):r≠.st:=fun e=>by rw[e]at h;exact hs h
def Zh{O Cx:ar}{j n:Nat}{m:Str}{F:Ms->aw D->Rz (Ms×D)}(w:Cx=G.C)(f:DA G tr fr):DS G (Ma (MT O m (Vr G.K Cx O F n) [] E0 (Jk j) tr)) (Vx O j m (u0 F) n fr fun _ _ ρ=>ρ):=by
 ext g;unfold Vx at h;subst w
 split at h
 .rename_i C fs e
  obtain⟨⟨t,A⟩,g⟩:=eU (P:=uX G B D) h (fun y=>y);clear h;subst t;obtain⟨a,b,s,Q,c,_,_,r,_⟩:=o.ob j C fs e;refine⟨.ref a,b,a,s,Q,rfl,c,r.look.2.2 A,?_⟩;refine f.then o (P:=uX G B D) g (fun z=>z) (fun z=>z) fun _ z _ _ _ k x q=>?_;obtain⟨ds,R,z2⟩:=MF (P:=uX G B D) (fun y=>y) z q;obtain⟨⟨l,nb⟩,z3⟩:=eU (P:=uX G B D) z2 (fun y=>y);rw[qH]
  have ne:∀ r,F fs ds=r->r≠.ex->u0 F fs ds=r:=fun r i hr=>by
   unfold u0;rw[i]
   cases r <;> first | rfl | exact (hr rfl).elim
  have nx:F fs ds≠.ex:=fun E=>by
   have:u0 F fs ds = .st:=by unfold u0;rw[E]
   rw[this]at z3;exact z3
  rw[ne _ rfl nx]at z3;refine qAT k (x.s o) e b nb R l (qA1 (P:=uX G B D) z3 fun y=>y) (fun E=>(nx E).elim) fun _ d E v p I u X _=>?_;rw[E]at z3;exact z3 σ p I u X
 .ext b
def D.VM:D->Bool
 | .non=>true
 | _=>false
def qAJ(O:ar)(i:Nat)(F:Ms->aw D->Rz (Ms×D))(n:Nat)(a:FA):FS:=fun ρ=>(a ρ).bind fun ws=>(zL ws).bind fun ds=>if ds.length+1=n then (F [] ds).bind fun r=>if r.2.VM=true then .ok (.nx (ρ.set i (.ob O r.1))) else .st else .st
theorem Zi{c Cx:ar}{i n:Nat}{F:Ms->aw D->Rz (Ms×D)}(hC:Cx=G.C)(M:G.sf=none)(ha:DA G tr fr):DS G (Q4 (qAH c (Vr G.K Cx c F n) [] E0 tr) (Ck i)) (qAJ c i (u0 F) n fr):=by
 ext g;subst hC;refine ha.then o (P:=uX G B D) h (fun z=>z) (fun z=>z) fun _ z vs L m O x1 q1=>?_;obtain⟨ds,rl,z2⟩:=MF (P:=uX G B D) (fun y=>y) z q1;obtain⟨hl,z3⟩:=eU (P:=uX G B D) z2 (fun y=>y)
 have nx:F [] ds≠.ex:=fun E=>by
  have:u0 F [] ds = .st:=by unfold u0;rw[E]
  rw[this]at z3;exact z3
 have en:u0 F [] ds=F [] ds:=by
  unfold u0
  split
  .rename_i e;exact (nx e).elim
  .rfl
 rw[en]at z3;intro x q p J _;rw[qH]
 have s:bD m (upd (upd m q (.own x)) x (.ins c q [])):=fun b u y=>by
  rw[zR (zN y p),zR (zN y J)];exact y
 have bx:L x=none:=O.sb.free p;refine⟨by rw[gH,rl.len];exact hl,L,x,q,[],[],ds,vs,rfl,O.sb.trans s,zC,bx,rfl,List.nodup_nil,rl,?_⟩
 cases E:F [] ds with
 | st=>rw[E]at z3;exact z3
 | ex=>exact (nx E).elim
 | ok y=>
  obtain⟨g,d⟩:=y;rw[E]at z3;obtain⟨hd,z4⟩:=eU (P:=uX G B D) z3 (fun y=>y);intro v r t V0 W k Z Tr gr U T r' N R rd;have Q:∀ b,(upd (upd m q (.own x)) x (.ins c q [])) b=none->m b=none:=fun b y=>s.free y
  have ex:Ext L m r t:=⟨Z,fun b u y=>k b u (s _ _ y) (zN y p) List.not_mem_nil,fun b u y=>by
   rcases gr b u y with z | z | z | z
   .exact .inl z
   .exact .inr (Q b z)
   .rw[z];exact .inr p
   .cases z⟩
  have o2:=O.ext ex Tr;have fresh:∀ b∈adr g W,m b=none:=fun b w=>(R b w).elim (fun y=>by cases y) (Q b);have ob:Ob G r t c g x:=⟨V0,W,U,T,O.s0.free p,uJ.of r' fun b w=>O.s0.free (fresh b w),N⟩
  have ow:Own G r t (ρ.set i (.ob c g)) (σ.set i (some (.ref x))):=by
   refine o2.set (fun _=>nofun) (fun _ y=>by cases y) (fun _ y=>by cases y) (fun C f y=>by cases y;exact⟨M,x,rfl,ob⟩) fun a h j _ h2=>?_
   have A:m a=none:=by
    rcases h with ⟨l,Y,_⟩ | ⟨C,f,a0,dx2,v2,Y,y2,X,S⟩
    .cases (show some _=some _ from Y)
    .cases (show some _=some _ from Y)
     cases (show some _=some _ from y2)
     rw[U]at X
     cases X
     rcases S with rfl | S
     .exact p
     .exact fresh a S
   obtain⟨u,y⟩:=O.oaH (O.oa ex.sh h2);rw[A]at y
   cases y
  have I:d = .non:=by cases d <;> first | rfl | cases hd
  subst I;exact⟨rd,z4 _ r t ow ((x1.s o).trans ⟨Z,fun b u y=>(ex.gr b u y).imp id fun z=>O.s0.free z⟩)⟩
end
theorem Q8{K:dN}{H B:Hp}{E:XK}{C O a x:ar}{N:aw Str}{fs:Ms}{Q:aw (Str×V)}{ds:aw D}{ws:aw V}(M:bD B H)(n:H a=some (.ins O x Q))(t:B a=none)(r:uJ K B H fs Q)(p:(adr fs Q).Nodup)(R:fj K B ds ws)(G:ws.length+1<=N.length) :
  Own ⟨K,fun b=>if b=a∨b∈adr fs Q then none else H b,E,C,some (0,a)⟩ B H (startM N.length O fs ds) (L2.start N (.ref a::ws)):=by
 have e:L2.start N (.ref a::ws)=some (.ref a)::L2.start (N.drop 1) ws:=by
  unfold L2.start;rw[bt,eJ,gH,fE,Nat.sub_add_eq,Nat.sub_right_comm]
 rw[e];have o:=Ah (E:=E) (C:=C) (N:=N.drop 1) M R (by rw[fE];omega);rw[fE]at o;have m:∀ b,(b=a∨b∈adr fs Q)->(fun b=>if b=a∨b∈adr fs Q then none else H b) b=none:=fun b g=>cq g;unfold startM
 have q:∀(i:Nat)(s:Sl),(start (N.length-1) ds)[i]? = some s->(∃ d,s = .fr d)∨s = .no:=fun i _ e=>by
  unfold start at e
  by_cases c:i<ds.length
  .ext ab
   cases e2:ds[i]? with
   | none=>rw[e2]at e;cases e
   | some d'=>rw[e2]at e;cases e;exact .inl ⟨_,rfl⟩
  .ext ag
   split at e <;> cases e
   exact .inr rfl
 have k:∀ i b,Oa H (.ob O fs::start (N.length-1) ds) (some (.ref a)::L2.start (N.drop 1) ws) i b->i=0:=fun i b h=>by
  cases i with
  | zero=>rfl
  | succ i=>
   rcases h with ⟨l,A,_⟩ | ⟨C,f,I,w,v2,A,_⟩
   .rcases q i _ A with ⟨d,z⟩ | z <;> cases z
   .rcases q i _ A with ⟨d,z⟩ | z <;> cases z
 refine⟨M,fun b u z=>?_,by rw[gH,gH,o.len],fun i d z=>?_,fun i l z=>?_,fun i l z=>?_,fun i v F z=>?_,fun i j b z1 z2=>?_,fun j b v F z1 z2=>?_⟩
 .have Z:(if b=a∨b∈adr fs Q then none else H b)=some u:=z
  split at Z
  .cases Z
  .exact Z
 .cases i with
  | zero=>cases (show some _=some _ from z)
  | succ i=>exact o.fr i d z
 .cases i with
  | zero=>cases (show some _=some _ from z)
  | succ i=>rcases q i _ z with ⟨d,y⟩ | y <;> cases y
 .cases i with
  | zero=>cases (show some _=some _ from z)
  | succ i=>rcases q i _ z with ⟨d,y⟩ | y <;> cases y
 .cases i with
  | zero=>
   cases (show some _=some _ from z)
   exact⟨a,rfl,x,Q,n,t,m a (.inl rfl),uJ.of r fun b g=>m b (.inr g),p⟩
  | succ i=>rcases q i _ z with ⟨d,y⟩ | y <;> cases y
 .rw[k i b z1,k j b z2]
 .cases z1;rfl
theorem qCV{K:dN}{H:Hp}{E:XK}{C O:ar}{N ps:aw Str}{g:FS}{t:TS}{vs:aw V}{Q:VK}(hp:N.take ps.length=ps)(h:Vr K C O (runM N.length O g) ps.length vs H Q E)(hd:∀ H0 S,DS ⟨K,H0,E,C,S⟩ t g) :
  t { nx:=fun _ c=>Q .non c,rt:=Q } (L2.start N vs) H:=by
 obtain⟨P,B,a,_,l,fs,ds,_,rfl,X,L,W,r,M,rl,q⟩:=h
 have hN:ps.length<=N.length:=by
  have:=congrArg List.length hp;rw[pF]at this;omega
 rw[gH]at P;refine hd _ _ B H _ _ _ (Q8 (N:=N) X L W r M rl (by omega)) ?_;have fin:∀ {i c:Hp} {j:ar} {F:Ms} {rest:aw Sl} {p:St} {d:D} {v:V},Own ⟨K,fun b=>if b=a∨b∈adr fs l then none else H b,E,C,some (0,a)⟩ i c (.ob j F::rest) p->Hn ⟨K,fun b=>if b=a∨b∈adr fs l then none else H b,E,C,some (0,a)⟩ B i->j=O->Rp K i d v →
   (∀ v i c w n,(∀ b u,H b=some u->b≠a->b∉adr fs l->c b=some u)->bD B i->bD i c->(∀ b o,i b=some o->B b=some o∨H b=none∨b=a∨b∈adr fs l)->c a=some (.ins O w n)->i a=none->uJ K i c F n->(adr F n).Nodup →
   (∀ b∈adr F n,b∈adr fs l∨H b=none)->Rp K i d v->Q v c)->Q v c:=fun {i c j F rest p d v} o x m R k=>by
  subst m;obtain⟨_,Z,w,n,J,T,_,U,y6⟩:=o.ob 0 j F rfl;have Y:=o.sf 0 a j F rfl rfl;rw[Z]at Y
  cases Y
  have split:∀ b,(if b=a∨b∈adr fs l then none else H b)=none->H b=none∨b=a∨b∈adr fs l:=fun b y=>by
   split at y
   .rename_i z;exact .inr z
   .exact .inl y
  refine k v i c w n (fun b u z A G=>o.s0 b u (by show (if b=a∨b∈adr fs l then none else H b)=some u;rw[cn (fun z=>z.elim A G)];exact z)) x.sb o.sb (fun b u z=>(x.gr b u z).imp id fun z=>split b z) J T U.to0 y6 (fun b y=>?_) R;obtain⟨_,z1,_,z2⟩:=U.lies b y;rcases split b z1 with z | z | z
  .exact .inr z
  .rw[z,J]at z2;cases z2
  .exact .inl z
 unfold runM at q
 cases e:g (startM N.length O fs ds) with
 | st=>rw[e]at q;exact q
 | ex=>
  rw[e]at q;exact fun c s0 _=>q c fun b u z A G=>s0 b u (by show (if b=a∨b∈adr fs l then none else H b)=some u;rw[cn (fun z=>z.elim A G)];exact z)
 | ok f=>
  rw[e]at q
  cases f with
  | nx ρ=>
   intro p i c o x
   cases ρ with
   | nil=>exact q.elim
   | cons s rest=>
    cases s with
    | ob j F=>
     by_cases m:j=O
     .have I:(match (if j=O then Rz.ok (F,D.non) else .st:Rz (Ms×D)) with
       | .ok (F,d) => ∀ v i c w n,(∀ b u,H b=some u->b≠a->b∉adr fs l->c b=some u)->bD B i->bD i c->(∀ b o,i b=some o->B b=some o∨H b=none∨b=a∨b∈adr fs l)->c a=some (.ins O w n)->i a=none->uJ K i c F n->(adr F n).Nodup →
   (∀ b∈adr F n,b∈adr fs l∨H b=none)->Rp K i d v->Q v c
       | .ex => ∀ c,(∀ b u,H b=some u->b≠a->b∉adr fs l->c b=some u)->E (.ref C) none c
       | .st=>False):=q
      rw[cq m]at I;exact fin o x m (d:=.non) (by exact rfl) I
     .exfalso;have:O6 O (.ok (.nx (.ob j F::rest))) = .st:=cn m;rw[this]at q;exact q
    | _=>exact q.elim
  | ret d r=>
   intro v i c _ _ x ho R
   cases r with
   | none=>exact q.elim
   | some ρ=>
    obtain⟨p,o⟩:=ho ρ rfl
    cases ρ with
    | nil=>exact q.elim
    | cons s rest=>
     cases s with
     | ob j F=>
      by_cases m:j=O
      .have:O6 O (.ok (.ret d (some (.ob j F::rest)))) = .ok (F,d):=cq m;rw[this]at q;exact fin o x m R q
      .exfalso;have:O6 O (.ok (.ret d (some (.ob j F::rest)))) = .st:=cn m;rw[this]at q;exact q
     | _=>exact q.elim
  | bk ρ=>exact q.elim
  | ct ρ=>exact q.elim
section
variable{P:ag}{w:ay}{K:dN}{mg:Str->ax av}{base:Heap}
def okM{x q:Str}{st:Stmt}{f:ar}{d:af}{N ps:aw Str}{k:Nat}{C O:ar}{g:FS}(F:iU K x q st f d)(S:au N ps (aV st))
  (b:∀(c:av)(A:ah)(o:aw Env)(s:ae)(H:Hp)(E:XK),mV k (A.deeper (PyProof.Rows.envOfC q (aV st) s.heap.objs.size f c)) →
   ∃ t,Pq (Oj bZ P w K mg base N q (aV st) f c A o s H E).nox (oX st) t/\∀ i a,DS ⟨K,i,E,C,a⟩ t g):cM P w K mg base bZ (k+1) f d ps (Vr K C O (runM N.length O g) ps.length):=by refine F.ok S (fun vs H Q E h=>h.1) fun c A o s H vs Q E hr h=>?_;obtain⟨t,e,j⟩:=b c A o s H E hr;exact⟨t,e,qCV S.pre h j⟩
end
end DL
namespace L2
open PySem PySem.Spec PyProof.Rows
section
variable{κ:Type} [DecidableEq κ]
def MN(s:aw (κ×V))(k:κ):ax V:=(s.find? fun v=>decide (v.1=k)).map (·.2)
def Vc{p:κ×V}{r:aw (κ×V)}{k:κ}(e:p.1=k):MN (p::r) k=some p.2:=by simp [MN,List.find?_cons,e]
def Vd{p:κ×V}{r:aw (κ×V)}{k:κ}(e:¬ p.1=k):MN (p::r) k=MN r k:=by simp [MN,List.find?_cons,e]
theorem KV.val{s:aw (κ×V)}{vs:aw (κ×av)}(r:KV s vs)(k:κ):EY (MN s k) (valueAt vs k):=by
 unfold KV at r
 induction r with
 | nil=>exact d5
 | @cons p q ps Q h t I=>
  obtain⟨H,a⟩:=h
  by_cases e:p.1=k
  .have E:q.1=k:=H.symm.trans e
   have b:valueAt (q::Q) k=some q.2:=by simp [valueAt,List.find?_cons,E]
   rw[Vc e,b];exact a
  .have E:¬ q.1=k:=fun z=>e (H.trans z)
   have b:valueAt (q::Q) k=valueAt Q k:=by simp [valueAt,List.find?_cons,E]
   rw[Vd e,b];exact I
end
theorem qE4{P:ag}{w:ay}{k:Key}{u:av}(r:RelV (kV k) u):(qg P w).is k u=true:=by
 cases k with
 | inl i=>obtain⟨t,e⟩:=(show ∃ t,u=Value.int i t from r);subst e;exact Ni P w i t
 | inr x=>obtain⟨t,e⟩:=(show ∃ t,u=Value.str x t from r);subst e;exact Nh P w x t
section
variable{P:ag}{w:ay}{H:Hp}{h:Heap}{a:ar}
end
section
variable{X:Cx}{pins:aw (ar×Obj)}{σ:St}{H:Hp}{s:ae}{a:ar}{y v:V}{u r:av}{o:ax V}{A:ah}{E:av->ae->Prop}
end
section
variable{X:Cx}{pins:aw (ar×Obj)}{σ:St}{H:Hp}{s:ae}{a:ar}{kvs:aw (Key×V)}{k:Key}{u:av}{A:ah}{E:av->ae->Prop}
end
def qG3(i:Expr):Prop:=∀ O I,subscripted i false O I=operate [O,I] (getItem O I)
theorem Yd{prog:ag}{w:ay}{A:ah}{E:av->ae->Prop}{s:ae}{v:Env}{e slice:Expr}{P:Pos}{T id:String}{Q:av->ae->Prop}
  (f:typeLookup (.type T) "__getitem__" = pure (some (.builtin id))) (hs:qG3 slice)
  (h:wpAny (model prog w) A (eval e v) (fun o d=>wpAny (model prog w) A (eval slice v) (fun i S=>S.TypeIs o T/\wpAny (model prog w) A (getItem o i) Q E S) E d) E s) :
  wpAny (model prog w) A (eval (.Subscript e slice P) v) Q E s:=by
 refine Subscript_ (bX h (fun o d j=>bX j (fun i S H=>?_) fun _ _ x=>x) fun _ _ x=>x);obtain⟨c,H⟩:=H;unfold subscriptTail;refine aE ?_;rw[getitemInPython_of_ne c.not_modules];refine aE (wpAny_specialOf c f ?_)
 have fin:wpAny (model prog w) A (subscripted slice false o i) (fun r a=>wpAny (model prog w) A (letTemporaryGo e o r >>= fun _=>pure r) Q E a) E S:=by
  rw[hs o i];exact wpAny_operating (bX H (fun r a b=>aE (wpAny_letTemporaryGo (aI b))) fun _ _ x=>x)
 first
  | exact aI (aE fin)
  | exact aE (aI (aE fin))
  | exact aE fin
section
variable{X:Cx}{o i e value:Expr}{pos pos' tpos:Pos}{td ty tv:TE}
end
section
variable{X:Cx}{pos:Pos}
end
structure M1(X:Cx)(o:Expr)(m:Str)(apos:Pos)(e:Expr)(cpos:Pos):Prop where
 base:attributeBase o m X.env (eval o X.env)=eval o X.env
 few:((backTo cpos (starEach [e] X.env)).all (fun x => !x.1)&&(backToKw cpos (keywordEach [] X.env)).all (fun x=>x.1.isSome)
  && decide (([e]:List Expr).length+([]:List Keyword).length+(if ([]:List Keyword).isEmpty then 0 else 1)<30))=true
 line:(apos.endLine==cpos.line)=true
 trees:backTo cpos (starEach [e] X.env)=[(false,eval e X.env)]
structure M2(X:Cx)(o:Expr)(m:Str)(apos:Pos)(e f:Expr)(cpos:Pos):Prop where
 base:attributeBase o m X.env (eval o X.env)=eval o X.env
 few:((backTo cpos (starEach [e,f] X.env)).all (fun x => !x.1)&&(backToKw cpos (keywordEach [] X.env)).all (fun x=>x.1.isSome)
  && decide (([e,f]:List Expr).length+([]:List Keyword).length+(if ([]:List Keyword).isEmpty then 0 else 1)<30))=true
 line:(apos.endLine==cpos.line)=true
 trees:backTo cpos (starEach [e,f] X.env)=[(false,eval e X.env),(false,eval f X.env)]
section
variable{X:Cx}{pins:aw (ar×Obj)}{σ:St}{H:Hp}{s:ae}{a:ar}{y d:V}{u r:av}{o:ax V}{A:ah}{E:av->ae->Prop}
end
section
variable{X:Cx}{o e f:Expr}{apos cpos:Pos}{td ty tx:TE}
end
section
variable{X:Cx}{pins:aw (ar×Obj)}{σ:St}{H:Hp}{s:ae}{a:ar}{kvs:aw (Key×V)}{A:ah}{E:av->ae->Prop}
end
section
variable{X:Cx}{pins:aw (ar×Obj)}{σ:St}{H:Hp}{s:ae}{a:ar}{y:V}{u:av}{A:ah}{E:av->ae->Prop}
end
end L2
namespace DL
open PySem L2
def kyS(p:Str×V):Key×V:=(Sum.inr p.1,p.2)
def KD(P:ag)(w:ay)(K:dN)(a:ar)(k:aw (Str×V)):Prop:=∀ h,K.In h->∃ vs:aw (Key×av),KV (k.map kyS) vs/\h.DictOf (qg P w) a vs
def tKD(s:aw (Str×V))(ty:TE):TE:=fun σ H Q=>ty σ H fun y h => ∃ k v,y = .str k/\s.lookup k=some v/\Q v h
theorem Ve(k:Str):∀ s:aw (Str×V),MN (s.map kyS) (Sum.inr k:Key)=s.lookup k
 | []=>rfl
 | (x,v)::r=>by
  have I:=Ve k r;unfold MN at I ⊢;rw[bt,List.find?_cons,fR]
  by_cases c:k=x
  .subst c;rw[cy,show decide ((kyS (k,v)).1=Sum.inr k)=true from bq rfl];rfl
  .rw[show (k==x)=false from cE.mpr c,show decide ((kyS (x,v)).1=Sum.inr k)=false from bg fun z=>c (Sum.inr.inj z).symm];exact I
section
variable{X:Cx}{a:ar}{kvs:aw (Str×V)}{x:Str}{i:Expr}{ty:TE}{p pos:Pos}
def qAN(j:KD X.prog X.w X.K a kvs)(z:Gl X x)(A:X.mg x=some (.ref a))(B:PE X i ty)(hs:qG3 i)(hd:(x==("__debug__" : Str))=false:=by decide):PE X (.Subscript (.Name x p) i pos) (tKD kvs ty):=by
 intro P s σ H Q I h;have o:PE X (.Name x p) (tC (.ref a)):=fB z A rfl hd;refine Yd PySem.F.slot_dict_getitem.lookup hs (iw (o P s σ H (fun x d=>x = .ref a/\d=H) I ⟨rfl,rfl⟩) fun u S ⟨x,d,m,t,E,e⟩=>?_);subst E e
 cases t
 refine iw (B P S σ _ _ m h) fun _ _ ⟨y,g,c,f,k,v,n,l,q⟩=>?_;subst n;obtain⟨_,r,D⟩:=j _ c.BX;have b:=r.val (Sum.inr k:Key);rw[Ve,l]at b;obtain⟨_,w,R⟩:=EY.some_of b;exact⟨D.typeIs,wpAny_getItem_of (qE4 (k:=Sum.inr k) f) D.mapOf w ⟨v,g,c.tok _,R,q⟩⟩
end
def fKD(Ti:aw (Str×D))(f:FE):FE:=fun ρ=>(f ρ).bind fun w=>match w.d with
 | .str k=>Uj (Ti.lookup k)
 | _=>.st
theorem qFW{G:Gm}{s:aw (Str×V)}{Ti:aw (Str×D)}{t:TE}{F:FE}(f:∀ B,Pn G.K B Ti s)(b:DE G t F):DE G (tKD s t) (fKD Ti F):=by
 ext c;refine b.then o (P:=eZ G B H ρ σ Q) h (fun z=>z) (fun z=>z) fun w z v c _ O x a=>?_;have q:=a.rq O.sb
 split at z
 .rename_i k e
  rw[e]at q
  cases el:Ti.lookup k with
  | none=>rw[el]at z;exact z.elim
  | some d=>
   rw[el]at z;obtain⟨T,E,r⟩:=(f c).look.1 d el;exact⟨k,T,q,E,eZ.now O (z.on x) r⟩
 .ext ap
end DL
namespace L2
open PySem
def km(kind:sc.kind = .function:=by rfl)(c:sc.isCoroutine=false:=by rfl)(g:sc.isGenerator=false:=by rfl)(n:N.Nodup:=by ext y)(pre:N.take P.length=P:=by rfl)
  (p:∀ x∈P,sc.names.lookup x=some .local∨sc.names.lookup x=some .cell:=by ext y) (Q:∀ y∈sc.names,y.2≠.free:=by ext y):au N P sc:=⟨kind,c,g,n,pre,p,Q⟩
def Pj(kind:scope.kind = .function:=by rfl)(h:scope.names.lookup x=some .local:=by rfl)(S:∀ y∈scope.names,y.2≠.cell:=by ext y)
  (Z:∀ y∈scope.names,y.2 = .local->scope.names.lookup y.1=some .local:=by ext y) (free:∀ y∈scope.names,y.2 = .free->osc.names.lookup y.1=some .cell∨osc.names.lookup y.1=some .free:=by ext y)
  (cap:∀ p∈cX,N[p.1]? = some p.2/\scope.names.lookup p.2=some .free:=by ext y) (n:(x::cX.map (·.2)).Nodup:=by ext y):iB osc N scope x cX:=⟨kind,h,S,Z,free,cap,n⟩
structure Dp(P:Program)(w:World)(K:dN)(mg:Str->Option Value)(base:Heap)(CX:Pr)(n:Nat)(f:Addr)(d:FuncData)(ps:List Str)(sp:Sp)(x:Str):Prop where
 G:cM P w K mg base CX n f d ps sp
 b:Binds K d ps []
 k:KI K f
 m:mg x=some (.ref f)
def pC(D:Dp X.prog X.w X.K X.mg X.base bZ k f fd ps sp x)(hr:mV k X.A)(d:PA X (e::es) t)(Q:Gl X x:=by rfl)(b:(x==("__debug__" : Str))=false:=by decide)(i:starEach (e::es) X.env=(false,eval e X.env)::starEach es X.env:=by rfl)(l:(backTo pos (starEach es X.env)).any (·.1)=false:=by rfl) :
  PE X (.Call (.Name x p) (e::es) [] pos) (RZ sp [] E0 t):=zJ D.G hr Q D.m D.k D.b .nil yC d b i l
end L2
namespace L2
open PySem PyProof.Rows
end L2
namespace DL
open PySem L2
section
variable{X:Cx}{a b e:Expr}{ta tb t:TE}{pos p:Pos}
def Tw(d:PE X a ta)(c:PE X b tb)(hs:TQ b):PE X (.Subscript a b pos) (tOp (az X.K) ta tb):=z0 bB d c hs
def pEq(f:X.A.units+64<cLine)(d:PE X a ta)(c:PE X b tb):PT X (.Compare a [.Eq] [b] pos) (Vh (tOp (dD X.K false) ta tb)):=zM (bW f) d c (zS _)
def pAd(d:PE X a ta)(c:PE X b tb):PE X (.BinOp a .Add b pos) (tOp (bC X.K) ta tb):=yA aY d c
def pLe(Q:Gl X "len")(c:X.mg "len" = none)(d:PE X e t)(i:starEach [e] X.env=(false,eval e X.env)::starEach [] X.env:=by rfl):PE X (.Call (.Name "len" p) [e] [] pos) (tCB (dC X.K) (Et t Hq)):=zT bA Q c gA (zA d zD i) (by decide) (by decide) i
end
end DL
namespace L2
open PySem
def qCU:Expr->ax V
 | .Constant (.int i) _ _=>some (.int i)
 | .Constant (.str z) _ _=>some (.str z)
 | .UnaryOp .USub (.Constant (.int i) _ _) _=>some (.int (-i))
 | _=>none
def T7:aw Expr->ax (aw V)
 | []=>some []
 | e::es=>match qCU e,T7 es with
  | some v,some vs=>some (v::vs)
  | _,_=>none
section
variable{X:Cx}
def qCT(h:qCU e=some v):PE X e (fun _ H Q=>Q v H)/\∀ es,starEach (e::es) X.env=(false,eval e X.env)::starEach es X.env:=by
 unfold qCU at h
 split at h
 .cases h;exact⟨zB,fun _=>rfl⟩
 .cases h;exact⟨zQ,fun _=>rfl⟩
 .cases h;refine⟨fun p s σ H Q I h=>?_,fun _=>rfl⟩;exact (uO nQ zB) p s σ H Q I ⟨_,rfl,h⟩
 .cases h
theorem J7:∀ {es:aw Expr} {vs:aw V},T7 es=some vs->PA X es (fun _ H Q=>Q vs H)
 | [],vs,h=>by
  cases h
  exact zD
 | e::es,vs,h=>by
  unfold T7 at h
  split at h
  .rename_i v vs' d c
   cases h
   obtain⟨a,b⟩:=qCT d;exact zA a (J7 c) (b es)
  .cases h
end
structure RE(X:Cx)(e:Expr)(t:TE):Prop where
 p:PE X e t
structure RS(X:Cx)(st:Stmt)(t:TS):Prop where
 p:PS X st t
structure RSs(X:Cx)(st:List Stmt)(t:TS):Prop where
 p:Pq X st t
structure RA(X:Cx)(es:List Expr)(t:TA):Prop where
 p:PA X es t
section
variable{X:Cx}{e a b c:Expr}{es:aw Expr}{te ta tb:TE}{tc:TT}{tr:TA}{pos:Pos}{st:Stmt}{ss rest:aw Stmt}{t u:TS}
end
end L2
namespace DL
open PySem L2
inductive Cn where
 | i (n:Int)
 | s (z:Str)
def Cn.v:Cn->V
 | .i n=>.int n
 | .s z=>.str z
def Cn.d:Cn->D
 | .i n=>.int n
 | .s z=>.str z
def tCs(cs:aw Cn):TA:=fun _ H Q=>Q (cs.map Cn.v) H
def LQ(cs:aw Cn):FA:=fun _=>.ok (cs.map fun c=>.fr c.d)
section
variable{G:Gm}{X:Cx}{es:aw Expr}{pos:Pos}
theorem X6{B H:Hp}:∀ cs:aw Cn,Ip G B H (cs.map fun c=>.fr c.d) (cs.map Cn.v)
 | []=>rfl
 | .i _::cs=>⟨_,_,rfl,rfl,X6 cs⟩
 | .s _::cs=>⟨_,_,rfl,rfl,X6 cs⟩
def Cu(cs:aw Cn):DA G (tCs cs) (LQ cs):=fun B H ρ σ Q o h=>h (cs.map Cn.v) B H o (Ext.refl _ _) (X6 cs)
def CK(cs:aw Cn)(h:T7 es=some (cs.map Cn.v)):PA X es (tCs cs):=J7 h
end
def Fb(j:Nat)(N f:FE):FS:=fun ρ=>match ρ[j]? with
 | some (.ow l)=>(f ρ).bind fun w=>w.z.bind fun d=>(N ρ).bind fun W=>match W.d with
  | .int k=>match Nz l.length k with
   | some m=>if ρ.all Sl.nb=true then .ok (.nx (ρ.set j (.ow (l.set m d)))) else .st
   | none=>.st
  | _=>.st
 | _=>.st
theorem fj.set{K:dN}{B:Hp}{d:D}{v:V}(q:Rp K B d v):∀ {l:aw D} {vs:aw V} (i:Nat),fj K B l vs->fj K B (l.set i d) (vs.set i v)
 | [],_,_,h=>by cases h;exact rfl
 | _::_,_,0,⟨u,ws,e,_,r⟩=>by rw[e];exact⟨v,ws,rfl,q,r⟩
 | _::_,_,i+1,⟨u,ws,e,g,r⟩=>by rw[e];exact⟨u,ws.set i v,rfl,g,fj.set q i r⟩
section
variable{G:Gm}{ta tb:TE}{fa fb:FE}
theorem Zg{j:Nat}(C:DE G ta fa)(i:DE G tb fb):DS G (Q4 ta (qED (Jk j) tb qAK)) (Fb j fb fa):=by
 ext g;unfold Fb at h
 split at h
 .rename_i l e
  refine C.then o (P:=uX G B D) h (fun z=>z) (fun z=>z) fun w z v _ _ O s f=>?_
  cases ez:w.z with
  | st=>rw[ez]at z;exact z.elim
  | ex=>exact (by cases w <;> cases ez)
  | ok d=>
  rw[ez]at z;obtain⟨_,c,X,R⟩:=Own.Ad o O s f ez;obtain⟨p,vs,E,n,_,_,r⟩:=c.ow j l e;refine⟨.ref p,E,?_⟩;refine i.then c (P:=uX G B D) z (fun y t a b=>y t a (X.sb.trans b)) (fun z=>z) fun _ z2 _ g _ Q x u=>?_;have q:=u.rq Q.sb
  split at z2
  .rename_i k A
   rw[A]at q
   split at z2
   .rename_i m em
    obtain⟨nb,z3⟩:=eU (P:=uX G B D) z2 (fun y=>y);refine⟨p,vs,k,m,rfl,q,x.sh _ _ n,by rw[r.len];exact em,?_⟩;exact z3 σ g _ (Q.chg e E nb (fj.set (R.mono x.sb) m (r.mono x.sb))) ((X.trans x).s o)
   .exact z2.elim
  .exact z2.elim
 .ext b
end
end DL
namespace zq
open PySem L2 YW DL
section
variable{P:ag}{w:ay}{K:dN}{mg:Str->ax av}{base:Heap}
def pP:FS:=
 (bO (lq (aK (VM true) (aF 0) (fC .non)) (xK JG Kr (fC (.int 0)) (aF 0) (dY cY (aD (aF 1) aL)))))
def bh:aw D->Rz D:=dj 2 (pP)
def DQ:au ["number","things"] ["number","things"] (aV lM):=km
def Dd(F:iU K "is_number_of" "is_number_of" lM f fd)(b:mg "len" = none) :
  cM P w K mg base bZ (n+1) f fd ["number","things"] (cI K C (bh) 2):=
 mL F DQ fun _ A _ s H E _=>⟨_,
  (zG (zP (jy (bV (r:=Mr true) wQ (pv 0) wO (zS _)) (gb (lU pK ur zB (pv 0) (zT (r:=dC K) bA rfl b gA (zA (pv 1) zD))))))),
  (ao (kO (aG NP (aB 0) xP) (uH (fJ fun _ _ _ _=>rfl) (fJ fun _ _ _ _=>rfl) aH (aB 0) (bY cP (aA (aB 1) aJ)))))⟩
def Ia:FS:=
 (bO (xK JG JG (VN Ay (fC (.int 1000000000000000000000000000000))) (aF 0) (fC (.int 1000000000000000000000000000000))))
def d7:aw D->Rz D:=dj 1 (Ia)
def FQ:au ["number"] ["number"] (aV mX):=km
def Fv(F:iU K "is_in_reach" "is_in_reach" mX f fd)(U:mg "GREATEST" = some wH)(u:RelV (.int 1000000000000000000000000000000) wH) :
  cM P w K mg base bZ (n+1) f fd ["number"] (cI K C (d7) 1):=
 mL F FQ fun _ A _ s H E _=>⟨_,
  (zG (zP (lU pK pK (uO nQ (fB (v:=(.int 1000000000000000000000000000000)) rfl U u)) (pv 0) (fB (v:=(.int 1000000000000000000000000000000)) rfl U u)))),
  (ao (uH (fJ fun _ _ _ _=>rfl) (fJ fun _ _ _ _=>rfl) (HJ wG (fZ fun _=>rfl)) (aB 0) (fZ fun _=>rfl)))⟩
def Qx:FS:=
 (bO (gQ (jA false (aF 0)) [] nJ (aK bF (aF 0) (fC (.int 0)))))
def cT:aw D->Rz D:=dj 1 (Qx)
def Ml:au ["things"] ["things"] (aV pH):=km
def My(F:iU K "names_of" "names_of" pH f fd) :
  cM P w K mg base bZ (n+1) f fd ["things"] (cI K C (cT) 1):=
 mL F Ml fun _ A _ s H E _=>⟨_,
  (zG (zP (yN (cX:=[]) rfl (show iB (aV pH) ["things"] _ _ _ from Pj) (gR (pv 0)) (fun _ _ _ _ _ _=>iY) (fun _ _ _ _ _ _=>(z0 (r:=az K) bB (pv 0) zB (fun _ _=>rfl)))))),
  (ao (gZ (gU (aB 0)) nU (aG aX (aB 0) aH)))⟩
def Uq:FS:=
 (bO (lq (xK JG JG (fC (.int 1)) (dY cY (aD (aF 0) aL)) (fC (.int 12))) (dY (Zz fun l=>l.all id) (aD (gQ (jA false (aF 0)) [] nJ (aK (inD false) (aF 0) (fC (.str "abcdefghijklmnopqrstuvwxyz")))) aL))))
def kh:aw D->Rz D:=dj 1 (Uq)
def QM:au ["text"] ["text"] (aV rZ):=km
def Qh(F:iU K "is_word" "is_word" rZ f fd)(G:mg "all" = none)(b:mg "len" = none)(U:mg "LONGEST" = some Tc)(a:RelV (.int 12) Tc)(d:mg "SMALL_LETTERS" = some DK)(D:RelV (.str "abcdefghijklmnopqrstuvwxyz") DK) :
  cM P w K mg base bZ (n+1) f fd ["text"] (cI K C (kh) 1):=
 mL F QM fun _ A _ s H E _=>⟨_,
  (zG (zP (jy (lU pK pK zB (zT (r:=dC K) bA rfl b gA (zA (pv 0) zD)) (fB (v:=(.int 12)) rfl U a)) (gb (zT (t8 rfl) rfl G ja (zA (yN (cX:=[]) rfl (show iB (aV rZ) ["text"] _ _ _ from Pj) (gR (pv 0)) (fun _ _ _ _ _ _=>iY) (fun _ _ _ _ _ _=>(bV (r:=sH K false) lV (pv 0) (fB (v:=(.str "abcdefghijklmnopqrstuvwxyz")) rfl d D) rfl))) zD)))))),
  (ao (kO (uH (fJ fun _ _ _ _=>rfl) (fJ fun _ _ _ _=>rfl) aH (bY cP (aA (aB 0) aJ)) (fZ fun _=>rfl)) (bY JT (aA (gZ (gU (aB 0)) nU (aG nG (aB 0) (fZ fun _=>rfl))) aJ))))⟩
def Ba:FS:=
 (bO (Gy (ie (aP (bU kh) 1 (aD (aF 0) aL))) (aK (inD false) (aF 0) (aF 1))))
def dh:aw D->Rz D:=dj 2 (Ba)
def xr:au ["name","ahead"] ["name","ahead"] (aV jR):=km
def yj(F:iU K "name_has_fault" "name_has_fault" jR f fd)
  (t:Dp P w K mg base bZ n JP JS ["text"] (cI K C kh 1) "is_word") :
  cM P w K mg base bZ (n+1) f fd ["name","ahead"] (cI K C (dh) 2):=
 mL F xr fun _ A _ s H E hr=>⟨_,
  (zG (zP (CJ (gh (pC t hr (zA (pv 0) zD))) (gb (bV (r:=sH K false) lV (pv 0) (pv 1) rfl))))),
  (ao (Cr (gk (aM rfl (aA (aB 0) aJ))) (aG nG (aB 0) (aB 1))))⟩
def qm:FS:=
 (aU (eV (aQ (aK (dJ false) (dY cY (aD (aF 1) aL)) (fC (.int 0))))
   (bO (aK (dJ true) (aF 0) (fC (.int 0))))
   bJ)
  (bO (Gy (ie (xK JG JG (fC (.int 1)) (aF 0) (aK aa (aK bF (aK bF (aF 1) (VN Ay (fC (.int 1)))) (fC (.int 2))) (fC (.int 1))))) (aK GZ (aF 0) (fC (.int 12))))))
def j8:aw D->Rz D:=dj 2 (qm)
def wK:au ["depth","ahead"] ["depth","ahead"] (aV j6):=km
def wV(F:iU K "depth_has_fault" "depth_has_fault" j6 f fd)(b:mg "len" = none)(U:mg "DEEPEST" = some Te)(a:RelV (.int 12) Te) :
  cM P w K mg base bZ (n+1) f fd ["depth","ahead"] (cI K C (j8) 2):=
 mL F wK fun _ A _ s H E hr=>⟨_,
  (zE (yB (zM (r:=dD K false) (bW hr.units) (zT (r:=dC K) bA rfl b gA (zA (pv 1) zD)) zB (zS _))
  (zG (zP (bV (r:=dD K true) (mK hr.units) (pv 0) zB (zS _))))
  zU)
  (zG (zP (CJ (gh (lU pK pK zB (pv 0) (yA (r:=bC K) aY (z0 (r:=az K) bB (z0 (r:=az K) bB (pv 1) (uO nQ zB) (fun _ _=>rfl)) zB (fun _ _=>rfl)) zB))) (gb (bV pL (pv 0) (fB (v:=(.int 12)) rfl U a) (zS _))))))),
  (aN (cD (aq (aG bc (bY cP (aA (aB 1) aJ)) aH))
   (ao (aG bc (aB 0) aH))
   bG)
  (ao (Cr (gk (uH (fJ fun _ _ _ _=>rfl) (fJ fun _ _ _ _=>rfl) aH (aB 0) (aG ak (aG aX (aG aX (aB 1) (HJ wG aH)) aH) aH))) (aG (fJ fun _ _ _ _=>rfl) (aB 0) (fZ fun _=>rfl)))))⟩
def yz:FS:=
 (aU (eV (aQ (aK (dJ false) (aF 0) (fC (.str "near"))))
   (bO (aK (dJ true) (aF 1) (fC (.str "one"))))
   bJ)
  (aU (eV (aQ (aK (dJ false) (aF 0) (fC (.str "deep"))))
   (bO (aK (inD true) (aF 1) (dR (aD (fC (.str "one")) (aD (fC (.str "all")) aL)))))
   bJ)
  (bO (aK (dJ true) (aF 0) (fC (.str ""))))))
def j7:aw D->Rz D:=dj 2 (yz)
def wJ:au ["keeps","kind"] ["keeps","kind"] (aV j5):=km
def wR(F:iU K "keeps_has_fault" "keeps_has_fault" j5 f fd) :
  cM P w K mg base bZ (n+1) f fd ["keeps","kind"] (cI K C (j7) 2):=
 mL F wJ fun _ A _ s H E hr=>⟨_,
  (zE (yB (zM (r:=dD K false) (bW hr.units) (pv 0) zQ (zS _))
  (zG (zP (bV (r:=dD K true) (mK hr.units) (pv 1) zQ (zS _))))
  zU)
  (zE (yB (zM (r:=dD K false) (bW hr.units) (pv 0) zQ (zS _))
  (zG (zP (bV (r:=sH K true) An (pv 1) (zW (zA zQ (zA zQ zD))) rfl)))
  zU)
  (zG (zP (bV (r:=dD K true) (mK hr.units) (pv 0) zQ (zS _)))))),
  (aN (cD (aq (aG bc (aB 0) aZ))
   (ao (aG bc (aB 1) aZ))
   bG)
  (aN (cD (aq (aG bc (aB 0) aZ))
   (ao (aG nG (aB 1) (cU (aA aZ (aA aZ aJ)))))
   bG)
  (ao (aG bc (aB 0) aZ))))⟩
def uQ:FS:=
 (aU (aW 2 (lq (aK GZ (dY cY (aD (aF 1) aL)) (fC (.int 0))) (aK GZ (aK bF (aK bF (aF 1) (fC (.int 0))) (fC (.int 2))) (aK bF (aF 0) (fC (.int 2))))))
  (aU (eV (aQ (aK (dJ false) (aK bF (aF 0) (fC (.int 1))) (fC (.str "plain"))))
   (bO (aF 2))
   bJ)
  (bO (ie (aF 2)))))
def gO:aw D->Rz D:=dj 3 (uQ)
def rW:au ["room","behind","has_kids"] ["room","behind"] (aV jq):=km
def Ar(F:iU K "end_has_fault" "end_has_fault" jq f fd)(b:mg "len" = none) :
  cM P w K mg base bZ (n+1) f fd ["room","behind"] (cI K C (gO) 2):=
 mL F rW fun _ A _ s H E hr=>⟨_,
  (zE (zK (i:=2) rW.nd rfl (aT rfl) (jy (bV pL (zT (r:=dC K) bA rfl b gA (zA (pv 1) zD)) zB (zS _)) (gb (bV pL (z0 (r:=az K) bB (z0 (r:=az K) bB (pv 1) zB (fun _ _=>rfl)) zB (fun _ _=>rfl)) (z0 (r:=az K) bB (pv 0) zB (fun _ _=>rfl)) (zS _)))))
  (zE (yB (zM (r:=dD K false) (bW hr.units) (z0 (r:=az K) bB (pv 0) zB (fun _ _=>rfl)) zQ (zS _))
  (zG (zP (pv 2)))
  zU)
  (zG (zP (gh (pv 2)))))),
  (aN (aR (kO (aG (fJ fun _ _ _ _=>rfl) (bY cP (aA (aB 1) aJ)) aH) (aG (fJ fun _ _ _ _=>rfl) (aG aX (aG aX (aB 1) aH) aH) (aG aX (aB 0) aH))))
  (aN (cD (aq (aG bc (aG aX (aB 0) aH) aZ))
   (ao (aB 2))
   bG)
  (ao (gk (aB 2)))))⟩
def dM:FS:=
 (aU (aW 3 (aK bF (aF 0) (fC (.int 0))))
  (aU (eV (aQ (aK (dJ false) (aF 3) (fC (.str "say"))))
   (bO (ie (aP (bU kh) 1 (aD (aK bF (aF 0) (fC (.int 1))) aL))))
   bJ)
  (aU (eV (aQ (aK (dJ false) (aF 3) (fC (.str "send"))))
   (bO (ie (aP (bU bh) 2 (aD (aK bF (aF 0) (fC (.int 1))) (aD (aF 2) aL)))))
   bJ)
  (aU (eV (vD (aQ (aP (bU bh) 2 (aD (aK bF (aF 0) (fC (.int 1))) (aD (aF 1) aL)))))
   (bO (fC (.bl true)))
   bJ)
  (aU (eV (aQ (aK (dJ false) (aF 3) (fC (.str "set"))))
   (aU (aW 4 (aK bF (aK bF (aF 1) (aK bF (aF 0) (fC (.int 1)))) (fC (.int 1))))
   (bO (ie (xK JG Kr (fC (.int 0)) (aK bF (aF 0) (fC (.int 2))) (aF 4)))))
   bJ)
  (bO (ie (aP (bU d7) 1 (aD (aK bF (aF 0) (fC (.int 2))) aL)))))))))
def gB:aw D->Rz D:=dj 5 (dM)
def lH:au ["deed","boxes","events","kind","size"] ["deed","boxes","events"] (aV jV):=km
def yo(F:iU K "deed_has_fault" "deed_has_fault" jV f fd)
  (t:Dp P w K mg base bZ n JP JS ["text"] (cI K C kh 1) "is_word")
  (d:Dp P w K mg base bZ n pQ pZ ["number","things"] (cI K C bh 2) "is_number_of")
  (D:Dp P w K mg base bZ n Ih Il ["number"] (cI K C d7 1) "is_in_reach") :
  cM P w K mg base bZ (n+1) f fd ["deed","boxes","events"] (cI K C (gB) 3):=
 mL F lH fun _ A _ s H E hr=>⟨_,
  (zE (zK (i:=3) lH.nd rfl (aT rfl) (z0 (r:=az K) bB (pv 0) zB (fun _ _=>rfl)))
  (zE (yB (zM (r:=dD K false) (bW hr.units) (pv 3) zQ (zS _))
  (zG (zP (gh (pC t hr (zA (z0 (r:=az K) bB (pv 0) zB (fun _ _=>rfl)) zD)))))
  zU)
  (zE (yB (zM (r:=dD K false) (bW hr.units) (pv 3) zQ (zS _))
  (zG (zP (gh (pC d hr (zA (z0 (r:=az K) bB (pv 0) zB (fun _ _=>rfl)) (zA (pv 2) zD))))))
  zU)
  (zE (yB (nT (gF (pC d hr (zA (z0 (r:=az K) bB (pv 0) zB (fun _ _=>rfl)) (zA (pv 1) zD)))))
  (zG (zP qd))
  zU)
  (zE (yB (zM (r:=dD K false) (bW hr.units) (pv 3) zQ (zS _))
  (zE (zK (i:=4) lH.nd rfl (aT rfl) (z0 (r:=az K) bB (z0 (r:=az K) bB (pv 1) (z0 (r:=az K) bB (pv 0) zB (fun _ _=>rfl)) (fun _ _=>rfl)) zB (fun _ _=>rfl)))
  (zG (zP (gh (lU pK ur zB (z0 (r:=az K) bB (pv 0) zB (fun _ _=>rfl)) (pv 4))))))
  zU)
  (zG (zP (gh (pC D hr (zA (z0 (r:=az K) bB (pv 0) zB (fun _ _=>rfl)) zD)))))))))),
  (aN (aR (aG aX (aB 0) aH))
  (aN (cD (aq (aG bc (aB 3) aZ))
   (ao (gk (aM rfl (aA (aG aX (aB 0) aH) aJ))))
   bG)
  (aN (cD (aq (aG bc (aB 3) aZ))
   (ao (gk (aM rfl (aA (aG aX (aB 0) aH) (aA (aB 2) aJ)))))
   bG)
  (aN (cD (nW (pU (aM rfl (aA (aG aX (aB 0) aH) (aA (aB 1) aJ)))))
   (ao qw)
   bG)
  (aN (cD (aq (aG bc (aB 3) aZ))
   (aN (aR (aG aX (aG aX (aB 1) (aG aX (aB 0) aH)) aH))
   (ao (gk (uH (fJ fun _ _ _ _=>rfl) (fJ fun _ _ _ _=>rfl) aH (aG aX (aB 0) aH) (aB 4)))))
   bG)
  (ao (gk (aM rfl (aA (aG aX (aB 0) aH) aJ)))))))))⟩
def xF:FS:=
 (bO (Gy (aK GZ (dY cY (aD (aF 0) aL)) (fC (.int 8))) (dY (Zz fun l=>l.any id) (aD (gQ (jA false (aF 0)) [(1,"boxes"),(2,"events")] nJ (aP (bU gB) 3 (aD (aF 0) (aD (aF 1) (aD (aF 2) aL))))) aL))))
def fK:aw D->Rz D:=dj 3 (xF)
def vh:au ["deeds","boxes","events"] ["deeds","boxes","events"] (aV gC):=km
def vm(F:iU K "deeds_have_fault" "deeds_have_fault" gC f fd)
  (m:Dp P w K mg base bZ n Bc Bd ["deed","boxes","events"] (cI K C gB 3) "deed_has_fault") (q:mg "any" = none) (b:mg "len" = none) (U:mg "MOST_DEEDS" = some tQ) (u:RelV (.int 8) tQ) :
  cM P w K mg base bZ (n+1) f fd ["deeds","boxes","events"] (cI K C (fK) 3):=
 mL F vh fun _ A _ s H E hr=>⟨_,
  (zG (zP (CJ (bV pL (zT (r:=dC K) bA rfl b gA (zA (pv 0) zD)) (fB (v:=(.int 8)) rfl U u) (zS _)) (gb (zT (V6 rfl) rfl q PyProof.Rows.boot_any (zA (yN (cX:=[(1,"boxes"),(2,"events")]) rfl (show iB (aV gC) ["deeds","boxes","events"] _ _ _ from Pj) (gR (pv 0)) (fun _ _ _ _ _ _=>iY) (fun _ _ _ _ _ _=>(pC m hr (zA (pv 0) (zA (pv 1) (zA (pv 2) zD)))))) zD)))))),
  (ao (Cr (aG (fJ fun _ _ _ _=>rfl) (bY cP (aA (aB 0) aJ)) (fZ fun _=>rfl)) (bY JT (aA (gZ (gU (aB 0)) nU (aM rfl (aA (aB 0) (aA (aB 1) (aA (aB 2) aJ))))) aJ))))⟩
def sV:FS:=
 (aU (aW 4 (aK bF (aF 0) (fC (.int 1))))
  (aU (aW 5 (aK bF (aF 0) (fC (.int 4))))
  (aU (eV (Sx (aQ (aP (bU dh) 2 (aD (aK bF (aF 0) (fC (.int 0))) (aD (aP (bU cT) 1 (aD (aF 1) aL)) aL)))) (aQ (aK (inD true) (aF 4) (fC (.tup [.str "plain",.str "one",.str "all"])))))
   (bO (fC (.bl true)))
   bJ)
  (aU (eV (Sx (aQ (aP (bU j8) 2 (aD (aK bF (aF 0) (fC (.int 2))) (aD (aF 1) aL)))) (aQ (aP (bU j7) 2 (aD (aK bF (aF 0) (fC (.int 3))) (aD (aF 4) aL)))))
   (bO (fC (.bl true)))
   bJ)
  (aU (eV (jK (aQ (aK (dJ true) (aF 5) (fC (.str "")))) (vD (aQ (aP (bU kh) 1 (aD (aF 5) aL)))))
   (bO (fC (.bl true)))
   bJ)
  (bO (Gy (aP (bU fK) 3 (aD (aK bF (aF 0) (fC (.int 5))) (aD (aF 2) (aD (aF 3) aL)))) (aP (bU fK) 3 (aD (aK bF (aF 0) (fC (.int 6))) (aD (aF 2) (aD (aF 3) aL)))))))))))
def jW:aw D->Rz D:=dj 6 (sV)
def lG:au ["room","ahead","boxes","events","kind","lamp"] ["room","ahead","boxes","events"] (aV jQ):=km
def yh(F:iU K "room_has_fault" "room_has_fault" jQ f fd)
  (d:Dp P w K mg base bZ n xG xR ["things"] (cI K C cT 1) "names_of")
  (g:Dp P w K mg base bZ n sr t6 ["name","ahead"] (cI K C dh 2) "name_has_fault")
  (z:Dp P w K mg base bZ n f_depth_has_fault d_depth_has_fault ["depth","ahead"] (cI K C j8 2) "depth_has_fault")
  (Z:Dp P w K mg base bZ n f_keeps_has_fault d_keeps_has_fault ["keeps","kind"] (cI K C j7 2) "keeps_has_fault")
  (t:Dp P w K mg base bZ n JP JS ["text"] (cI K C kh 1) "is_word")
  (I:Dp P w K mg base bZ n xH xT ["deeds","boxes","events"] (cI K C fK 3) "deeds_have_fault") (k:mg "KINDS" = some Ji) (L:RelV (.ref zp) Ji) (l:∀ B,Rp K B (.tup [.str "plain",.str "one",.str "all"]) (.ref zp)) :
  cM P w K mg base bZ (n+1) f fd ["room","ahead","boxes","events"] (cI K C (jW) 4):=
 mL F lG fun _ A _ s H E hr=>⟨_,
  (zE (zK (i:=4) lG.nd rfl (aT rfl) (z0 (r:=az K) bB (pv 0) zB (fun _ _=>rfl)))
  (zE (zK (i:=5) lG.nd rfl (aT rfl) (z0 (r:=az K) bB (pv 0) zB (fun _ _=>rfl)))
  (zE (yB (PW.pt (pw_or (gF (pC g hr (zA (z0 (r:=az K) bB (pv 0) zB (fun _ _=>rfl)) (zA (pC d hr (zA (pv 1) zD)) zD)))) (pw_or1 (zM (r:=sH K true) An (pv 4) (fB (v:=(.ref zp)) rfl k L) rfl))))
  (zG (zP qd))
  zU)
  (zE (yB (PW.pt (pw_or (gF (pC z hr (zA (z0 (r:=az K) bB (pv 0) zB (fun _ _=>rfl)) (zA (pv 1) zD)))) (pw_or1 (gF (pC Z hr (zA (z0 (r:=az K) bB (pv 0) zB (fun _ _=>rfl)) (zA (pv 4) zD)))))))
  (zG (zP qd))
  zU)
  (zE (yB (PW.pt (pw_and (zM (r:=dD K true) (mK hr.units) (pv 5) zQ (zS _)) (yL (nT (gF (pC t hr (zA (pv 5) zD)))))))
  (zG (zP qd))
  zU)
  (zG (zP (CJ (pC I hr (zA (z0 (r:=az K) bB (pv 0) zB (fun _ _=>rfl)) (zA (pv 2) (zA (pv 3) zD)))) (gb (pC I hr (zA (z0 (r:=az K) bB (pv 0) zB (fun _ _=>rfl)) (zA (pv 2) (zA (pv 3) zD))))))))))))),
  (aN (aR (aG aX (aB 0) aH))
  (aN (aR (aG aX (aB 0) aH))
  (aN (cD (Cq (pU (aM rfl (aA (aG aX (aB 0) aH) (aA (aM rfl (aA (aB 1) aJ)) aJ)))) (aq (aG nG (aB 4) (fZ l))))
   (ao qw)
   bG)
  (aN (cD (Cq (pU (aM rfl (aA (aG aX (aB 0) aH) (aA (aB 1) aJ)))) (pU (aM rfl (aA (aG aX (aB 0) aH) (aA (aB 4) aJ)))))
   (ao qw)
   bG)
  (aN (cD (pW (aq (aG bc (aB 5) aZ)) (nW (pU (aM rfl (aA (aB 5) aJ)))))
   (ao qw)
   bG)
  (ao (Cr (aM rfl (aA (aG aX (aB 0) aH) (aA (aB 2) (aA (aB 3) aJ)))) (aM rfl (aA (aG aX (aB 0) aH) (aA (aB 2) (aA (aB 3) aJ)))))))))))⟩
def sW:FS:=
 (aU (eV (aQ (aK (dJ false) (aF 0) (fC (.str "to"))))
   (bO (ie (aP (bU bh) 2 (aD (aF 1) (aD (aF 2) aL)))))
   bJ)
  (aU (eV (aQ (aK (dJ false) (aF 0) (fC (.str "back"))))
   (bO (Gy (ie (aP (bU bh) 2 (aD (aF 1) (aD (aF 2) aL)))) (aK (dJ false) (aK bF (aK bF (aF 2) (aF 1)) (fC (.int 3))) (fC (.str "")))))
   bJ)
  (bO (Gy (aK (dJ true) (aF 0) (fC (.str "stay"))) (aK (VM true) (aF 1) (fC .non))))))
def jY:aw D->Rz D:=dj 3 (sW)
def yP:au ["way","goal","rooms"] ["way","goal","rooms"] (aV jT):=km
def yl(F:iU K "goal_has_fault" "goal_has_fault" jT f fd)
  (d:Dp P w K mg base bZ n pQ pZ ["number","things"] (cI K C bh 2) "is_number_of") :
  cM P w K mg base bZ (n+1) f fd ["way","goal","rooms"] (cI K C (jY) 3):=
 mL F yP fun _ A _ s H E hr=>⟨_,
  (zE (yB (zM (r:=dD K false) (bW hr.units) (pv 0) zQ (zS _))
  (zG (zP (gh (pC d hr (zA (pv 1) (zA (pv 2) zD))))))
  zU)
  (zE (yB (zM (r:=dD K false) (bW hr.units) (pv 0) zQ (zS _))
  (zG (zP (CJ (gh (pC d hr (zA (pv 1) (zA (pv 2) zD)))) (gb (bV (r:=dD K false) (bW hr.units) (z0 (r:=az K) bB (z0 (r:=az K) bB (pv 2) (pv 1) (fun _ _=>rfl)) zB (fun _ _=>rfl)) zQ (zS _))))))
  zU)
  (zG (zP (CJ (bV (r:=dD K true) (mK hr.units) (pv 0) zQ (zS _)) (gb (bV (r:=Mr true) wQ (pv 1) wO (zS _)))))))),
  (aN (cD (aq (aG bc (aB 0) aZ))
   (ao (gk (aM rfl (aA (aB 1) (aA (aB 2) aJ)))))
   bG)
  (aN (cD (aq (aG bc (aB 0) aZ))
   (ao (Cr (gk (aM rfl (aA (aB 1) (aA (aB 2) aJ)))) (aG bc (aG aX (aG aX (aB 2) (aB 1)) aH) aZ)))
   bG)
  (ao (Cr (aG bc (aB 0) aZ) (aG NP (aB 1) xP)))))⟩
def uR:FS:=
 (aU (aW 2 (aK bF (aF 0) (fC (.int 1))))
  (aU (aW 3 (aK bF (aF 0) (fC (.int 2))))
  (aU (eV (aQ (aP (bU dh) 2 (aD (aK bF (aF 0) (fC (.int 0))) (aD (aP (bU cT) 1 (aD (aF 1) aL)) aL))))
   (bO (fC (.bl true)))
   bJ)
  (bO (Gy (ie (xK JG JG (fC (.int 1)) (aF 2) (fC (.int 1000000000000000000000000000000)))) (ie (xK JG Kr (fC (.int 0)) (aF 3) (aF 2))))))))
def jw:aw D->Rz D:=dj 4 (uR)
def mH:au ["box","ahead","size","start"] ["box","ahead"] (aV jr):=km
def Av(F:iU K "box_has_fault" "box_has_fault" jr f fd)
  (d:Dp P w K mg base bZ n xG xR ["things"] (cI K C cT 1) "names_of")
  (g:Dp P w K mg base bZ n sr t6 ["name","ahead"] (cI K C dh 2) "name_has_fault") (U:mg "GREATEST" = some wH) (u:RelV (.int 1000000000000000000000000000000) wH) :
  cM P w K mg base bZ (n+1) f fd ["box","ahead"] (cI K C (jw) 2):=
 mL F mH fun _ A _ s H E hr=>⟨_,
  (zE (zK (i:=2) mH.nd rfl (aT rfl) (z0 (r:=az K) bB (pv 0) zB (fun _ _=>rfl)))
  (zE (zK (i:=3) mH.nd rfl (aT rfl) (z0 (r:=az K) bB (pv 0) zB (fun _ _=>rfl)))
  (zE (yB (gF (pC g hr (zA (z0 (r:=az K) bB (pv 0) zB (fun _ _=>rfl)) (zA (pC d hr (zA (pv 1) zD)) zD))))
  (zG (zP qd))
  zU)
  (zG (zP (CJ (gh (lU pK pK zB (pv 2) (fB (v:=(.int 1000000000000000000000000000000)) rfl U u))) (gb (gh (lU pK ur zB (pv 3) (pv 2)))))))))),
  (aN (aR (aG aX (aB 0) aH))
  (aN (aR (aG aX (aB 0) aH))
  (aN (cD (pU (aM rfl (aA (aG aX (aB 0) aH) (aA (aM rfl (aA (aB 1) aJ)) aJ))))
   (ao qw)
   bG)
  (ao (Cr (gk (uH (fJ fun _ _ _ _=>rfl) (fJ fun _ _ _ _=>rfl) aH (aB 2) (fZ fun _=>rfl))) (gk (uH (fJ fun _ _ _ _=>rfl) (fJ fun _ _ _ _=>rfl) aH (aB 3) (aB 2))))))))⟩
def qCM:FS:=
 (eV (vD (aQ (aF 0)))
   Fd
   bJ)
def cL:aw D->Rz D:=dj 1 (qCM)
def Yk:au ["fits"] ["fits"] (aV Js):=km
def Z2(F:iU K "need" "need" Js f fd) :
  cM P w K mg base bZ (n+1) f fd ["fits"] (cI K C (cL) 1):=
 mL F Yk fun _ A _ s H E _=>⟨_,
  (zG (yB (nT (gF (pv 0)))
  (zG uo)
  zU)),
  (cD (nW (pU (aB 0)))
   zf
   bG)⟩
def wu:FS:=
 (aU (aW 1 (fM "str" QB (aF 0) (aD (fC (.str " ")) aL)))
  (aU (iW (aP (bU cL) 1 (aD (aK (inD true) (fC (.str "")) (aF 1)) aL)))
  (bO (aF 1))))
def cJ:aw D->Rz D:=dj 2 (wu)
def Bu:au ["text","words"] ["text"] (aV tV):=km
def Mx(F:iU K "words_of" "words_of" tV f fd)
  (c:Dp P w K mg base bZ n mO mQ ["fits"] (cI K C cL 1) "need") :
  cM P w K mg base bZ (n+1) f fd ["text"] (cI K C (cJ) 1):=
 mL F Bu fun _ A _ s H E hr=>⟨_,
  (zE (zK (i:=1) Bu.nd rfl (aT rfl) (fu (r:=QS) d3 PySem.F.slot_str_split PySem.F.type_str_split Ng (pv 0) (zA zQ zD)))
  (zE (yG (pC c hr (zA (bV (r:=sH K true) An zQ (pv 1) rfl) zD)))
  (zG (zP (pv 1))))),
  (aN (aR (qu Nk (aB 0) (aA aZ aJ)))
  (aN (fG (aM rfl (aA (aG nG aZ (aB 1)) aJ)))
  (ao (aB 1))))⟩
def rH:FS:=
 (aU (aW 1 (YS (aQ (fM "str" oA (aF 0) (aD (fC (.str "-")) aL))) (vy (aF 0) (gG (fC (.int 1))) xJ) (aF 0)))
  (aU (eV (Sx (aQ (aK (dJ false) (aF 1) (fC (.str "")))) (vD (aQ (dY (Zz fun l=>l.all id) (aD (gQ (jA false (aF 1)) [] nJ (aK (inD false) (aF 0) (fC (.str "0123456789")))) aL)))))
   Fd
   bJ)
  (aU (eV (jK (aQ (fM "str" oA (aF 1) (aD (fC (.str "0")) aL))) (aQ (aK (dJ true) (aF 0) (fC (.str "0")))))
   Fd
   bJ)
  (aU (aW 2 (fC (.int 0)))
  (aU (rC (jA true (aF 1)) (bN 3)
   (aW 2 (aK aa (aK jJ (aF 2) (fC (.int 10))) (fM "str" vJ (fC (.str "0123456789")) (aD (aF 3) aL)))))
  (bO (YS (aQ (fM "str" oA (aF 0) (aD (fC (.str "-")) aL))) (VN Ay (aF 2)) (aF 2))))))))
def cG:aw D->Rz D:=dj 4 (rH)
def jD:au ["text","bare","number","sign"] ["text"] (aV jg):=km
def Fq(F:iU K "read_number" "read_number" jg f fd)(G:mg "all" = none)(J:mg "FIGURES" = some Td)(j:RelV (.str "0123456789") Td) :
  cM P w K mg base bZ (n+1) f fd ["text"] (cI K C (cG) 1):=
 mL F jD fun _ A _ s H E hr=>⟨_,
  (zE (zK (i:=1) jD.nd rfl (aT rfl) (yg (gF (fu (r:=Eg) d3 kf ko rF (pv 0) (zA zQ zD))) (eH (r:=rD K) tR (pv 0) (fV zB) fW) (pv 0)))
  (zE (yB (PW.pt (pw_or (zM (r:=dD K false) (bW hr.units) (pv 1) zQ (zS _)) (pw_or1 (nT (gF (zT (t8 rfl) rfl G ja (zA (yN (cX:=[]) rfl (show iB (aV jg) ["text","bare","number","sign"] _ _ _ from Pj) (gR (pv 1)) (fun _ _ _ _ _ _=>iY) (fun _ _ _ _ _ _=>(bV (r:=sH K false) lV (pv 0) (fB (v:=(.str "0123456789")) rfl J j) rfl))) zD)))))))
  (zG uo)
  zU)
  (zE (yB (PW.pt (pw_and (gF (fu (r:=Eg) d3 kf ko rF (pv 1) (zA zQ zD))) (yL (zM (r:=dD K true) (mK hr.units) (pv 0) zQ (zS _)))))
  (zG uo)
  zU)
  (zE (zK (i:=2) jD.nd rfl (aT rfl) zB)
  (zE (je PassesOwn.never rfl (gR (pv 1)) (yH (i:=3) jD.nd rfl (aT rfl))
  (zG (zK (i:=2) jD.nd rfl (aT rfl) (yA (r:=bC K) aY (yA (r:=jh K) fX (pv 2) zB) (fu (r:=Rn) d3 PySem.F.slot_str_index PySem.F.type_str_index UL (fB (v:=(.str "0123456789")) rfl J j) (zA (pv 3) zD))))))
  (zG (zP (yg (gF (fu (r:=Eg) d3 kf ko rF (pv 0) (zA zQ zD))) (uO nQ (pv 2)) (pv 2))))))))),
  (aN (aR (Xe (pU (qu BK (aB 0) (aA aZ aJ))) (eQ (aB 0) (fY aH) lX) (aB 0)))
  (aN (cD (Cq (aq (aG bc (aB 1) aZ)) (nW (pU (bY JT (aA (gZ (gU (aB 1)) nU (aG nG (aB 0) (fZ fun _=>rfl))) aJ)))))
   zf
   bG)
  (aN (cD (pW (pU (qu BK (aB 1) (aA aZ aJ))) (aq (aG bc (aB 0) aZ)))
   zf
   bG)
  (aN (aR aH)
  (aN (kJ (gU (aB 1)) xQ
   (aR (aG ak (aG iM (aB 2) aH) (qu UW (fZ fun _=>rfl) (aA (aB 3) aJ)))))
  (ao (Xe (pU (qu BK (aB 0) (aA aZ aJ))) (HJ wG (aB 2)) (aB 2))))))))⟩
def Ci:FS:=
 (aU (iW (aP (bU cL) 1 (aD (aK (dJ false) (dY cY (aD (aF 1) aL)) (fC (.int 2))) aL)))
  (aU (eV (aQ (aK (dJ false) (aF 0) (fC (.str "order"))))
   (aU (iW (aP (bU cL) 1 (aD (aK (inD false) (aK bF (aF 1) (fC (.int 1))) (fC (.tup [.str "inner",.str "outer"]))) aL)))
   (bO (aK bF (aF 1) (fC (.int 1)))))
   bJ)
  (aU (aW 2 (aP (bU cG) 1 (aD (aK bF (aF 1) (fC (.int 1))) aL)))
  (aU (eV (aQ (aK (dJ false) (aF 0) (fC (.str "letters"))))
   (iW (aP (bU cL) 1 (aD (xK JG JG (fC (.int 0)) (aF 2) (fC (.int 12))) aL)))
   (iW (aP (bU cL) 1 (aD (xK JG JG (fC (.int 1)) (aF 2) (fC (.int 20))) aL))))
  (bO (aF 2))))))
def iC:aw D->Rz D:=dj 3 (Ci)
def xx:au ["kind","words","number"] ["kind","words"] (aV qU):=km
def Ka(F:iU K "head_told" "head_told" qU f fd)
  (c:Dp P w K mg base bZ n mO mQ ["fits"] (cI K C cL 1) "need")
  (R:Dp P w K mg base bZ n wB wC ["text"] (cI K C cG 1) "read_number") (b:mg "len" = none) (G:mg "MOST_LETTERS" = some Es) (h:RelV (.int 12) Es) (k:mg "MOST_TURNS" = some Je) (L:RelV (.int 20) Je) (W:mg "ORDERS" = some Vg) (y:RelV (.ref Oz) Vg) (Y:∀ B,Rp K B (.tup [.str "inner",.str "outer"]) (.ref Oz)) :
  cM P w K mg base bZ (n+1) f fd ["kind","words"] (cI K C (iC) 2):=
 mL F xx fun _ A _ s H E hr=>⟨_,
  (zE (yG (pC c hr (zA (bV (r:=dD K false) (bW hr.units) (zT (r:=dC K) bA rfl b gA (zA (pv 1) zD)) zB (zS _)) zD)))
  (zE (yB (zM (r:=dD K false) (bW hr.units) (pv 0) zQ (zS _))
  (zE (yG (pC c hr (zA (bV (r:=sH K false) lV (z0 (r:=az K) bB (pv 1) zB (fun _ _=>rfl)) (fB (v:=(.ref Oz)) rfl W y) rfl) zD)))
  (zG (zP (z0 (r:=az K) bB (pv 1) zB (fun _ _=>rfl)))))
  zU)
  (zE (zK (i:=2) xx.nd rfl (aT rfl) (pC R hr (zA (z0 (r:=az K) bB (pv 1) zB (fun _ _=>rfl)) zD)))
  (zE (yB (zM (r:=dD K false) (bW hr.units) (pv 0) zQ (zS _))
  (zG (yG (pC c hr (zA (lU pK pK zB (pv 2) (fB (v:=(.int 12)) rfl G h)) zD))))
  (zG (yG (pC c hr (zA (lU pK pK zB (pv 2) (fB (v:=(.int 20)) rfl k L)) zD)))))
  (zG (zP (pv 2))))))),
  (aN (fG (aM rfl (aA (aG bc (bY cP (aA (aB 1) aJ)) aH) aJ)))
  (aN (cD (aq (aG bc (aB 0) aZ))
   (aN (fG (aM rfl (aA (aG nG (aG aX (aB 1) aH) (fZ Y)) aJ)))
   (ao (aG aX (aB 1) aH)))
   bG)
  (aN (aR (aM rfl (aA (aG aX (aB 1) aH) aJ)))
  (aN (cD (aq (aG bc (aB 0) aZ))
   (fG (aM rfl (aA (uH (fJ fun _ _ _ _=>rfl) (fJ fun _ _ _ _=>rfl) aH (aB 2) (fZ fun _=>rfl)) aJ)))
   (fG (aM rfl (aA (uH (fJ fun _ _ _ _=>rfl) (fJ fun _ _ _ _=>rfl) aH (aB 2) (fZ fun _=>rfl)) aJ))))
  (ao (aB 2))))))⟩
def XD:FS:=
 (aU (eV (aQ (aK (dJ true) (vy (aF 0) xJ (gG (fC (.int 1)))) (eX (aD (aF 1) aL))))
   (bO (dR (aD (fC (.str "")) (aD (aF 0) aL))))
   bJ)
  (aU (iW (aP (bU cL) 1 (aD (aK GZ (dY cY (aD (aF 0) aL)) (fC (.int 1))) aL)))
  (bO (dR (aD (aK bF (aF 0) (fC (.int 1))) (aD (vy (aF 0) (gG (fC (.int 2))) xJ) aL))))))
def uy:aw D->Rz D:=dj 2 (XD)
def Tn:au ["words","mark"] ["words","mark"] (aV yS):=km
def U0(F:iU K "marked" "marked" yS f fd)
  (c:Dp P w K mg base bZ n mO mQ ["fits"] (cI K C cL 1) "need") (b:mg "len" = none) :
  cM P w K mg base bZ (n+1) f fd ["words","mark"] (cI K C (uy) 2):=
 mL F Tn fun _ A _ s H E hr=>⟨_,
  (zE (yB (zM (r:=dD K true) (mK hr.units) (eH (r:=rD K) tR (pv 0) fW (fV zB)) (yI (zA (pv 1) zD)) (zS _))
  (zG (zP (zW (zA zQ (zA (pv 0) zD)))))
  zU)
  (zE (yG (pC c hr (zA (bV pL (zT (r:=dC K) bA rfl b gA (zA (pv 0) zD)) zB (zS _)) zD)))
  (zG (zP (zW (zA (z0 (r:=az K) bB (pv 0) zB (fun _ _=>rfl)) (zA (eH (r:=rD K) tR (pv 0) (fV zB) fW) zD))))))),
  (aN (cD (aq (aG bc (eQ (aB 0) lX (fY aH)) (dG (aA (aB 1) aJ))))
   (ao (cU (aA aZ (aA (aB 0) aJ))))
   bG)
  (aN (fG (aM rfl (aA (aG (fJ fun _ _ _ _=>rfl) (bY cP (aA (aB 0) aJ)) aH) aJ)))
  (ao (cU (aA (aG aX (aB 0) aH) (aA (eQ (aB 0) (fY aH) lX) aJ))))))⟩
def uz:FS:=
 (aU (aW 1 (fM "str" qi (aF 0) (aD (fC (.str " ")) aL)))
  (aU (aW 2 (aK iJ (dY cY (aD (aF 0) aL)) (dY cY (aD (aF 1) aL))))
  (aU (aW 3 (aP (bU cJ) 1 (aD (aF 1) aL)))
  (aU (aW 4 (aP (bU uy) 2 (aD (vy (aF 3) (gG (fC (.int 2))) xJ) (aD (fC (.str "keeps")) aL))))
  (aU (aW 5 (aP (bU uy) 2 (aD (aK bF (aF 4) (fC (.int 1))) (aD (fC (.str "lamp")) aL))))
  (aU (iW (aP (bU cL) 1 (aD (lq (aK (dJ false) (aK bL (aF 2) (fC (.int 2))) (fC (.int 0))) (lq (aK GZ (dY cY (aD (aF 3) aL)) (fC (.int 1))) (aK (dJ false) (dY cY (aD (aK bF (aF 5) (fC (.int 1))) aL)) (fC (.int 0))))) aL)))
  (bO (dR (aD (aK bF (aF 3) (fC (.int 1))) (aD (aK bF (aF 3) (fC (.int 0))) (aD (aK cC (aF 2) (fC (.int 2))) (aD (aK bF (aF 4) (fC (.int 0))) (aD (aK bF (aF 5) (fC (.int 0))) (aD (dR aL) (aD (dR aL) aL)))))))))))))))
def lQ:aw D->Rz D:=dj 6 (uz)
def gK:au ["row","bare","blanks","words","keeps","lamp"] ["row"] (aV lJ):=km
def DR(F:iU K "room_written" "room_written" lJ f fd)
  (g:Dp P w K mg base bZ n Gq HN ["text"] (cI K C cJ 1) "words_of")
  (p:Dp P w K mg base bZ n f_marked d_marked ["words","mark"] (cI K C uy 2) "marked")
  (c:Dp P w K mg base bZ n mO mQ ["fits"] (cI K C cL 1) "need") (b:mg "len" = none) :
  cM P w K mg base bZ (n+1) f fd ["row"] (cI K C (lQ) 1):=
 mL F gK fun _ A _ s H E hr=>⟨_,
  (zE (zK (i:=1) gK.nd rfl (aT rfl) (fu (r:=Eh) d3 PySem.F.slot_str_lstrip PySem.F.type_str_lstrip J9 (pv 0) (zA zQ zD)))
  (zE (zK (i:=2) gK.nd rfl (aT rfl) (yA jH (zT (r:=dC K) bA rfl b gA (zA (pv 0) zD)) (zT (r:=dC K) bA rfl b gA (zA (pv 1) zD))))
  (zE (zK (i:=3) gK.nd rfl (aT rfl) (pC g hr (zA (pv 1) zD)))
  (zE (zK (i:=4) gK.nd rfl (aT rfl) (pC p hr (zA (eH (r:=rD K) tR (pv 3) (fV zB) fW) (zA zQ zD))))
  (zE (zK (i:=5) gK.nd rfl (aT rfl) (pC p hr (zA (z0 (r:=az K) bB (pv 4) zB (fun _ _=>rfl)) (zA zQ zD))))
  (zE (yG (pC c hr (zA (jy (bV (r:=dD K false) (bW hr.units) (yA zY (pv 2) zB) zB (zS _)) (jy (bV pL (zT (r:=dC K) bA rfl b gA (zA (pv 3) zD)) zB (zS _)) (gb (bV (r:=dD K false) (bW hr.units) (zT (r:=dC K) bA rfl b gA (zA (z0 (r:=az K) bB (pv 5) zB (fun _ _=>rfl)) zD)) zB (zS _))))) zD)))
  (zG (zP (zW (zA (z0 (r:=az K) bB (pv 3) zB (fun _ _=>rfl)) (zA (z0 (r:=az K) bB (pv 3) zB (fun _ _=>rfl)) (zA (yA yJ (pv 2) zB) (zA (z0 (r:=az K) bB (pv 4) zB (fun _ _=>rfl)) (zA (z0 (r:=az K) bB (pv 5) zB (fun _ _=>rfl)) (zA (zW zD) (zA (zW zD) zD)))))))))))))))),
  (aN (aR (qu JB (aB 0) (aA aZ aJ)))
  (aN (aR (aG (fJ fun _ _ _ _=>rfl) (bY cP (aA (aB 0) aJ)) (bY cP (aA (aB 1) aJ))))
  (aN (aR (aM rfl (aA (aB 1) aJ)))
  (aN (aR (aM rfl (aA (eQ (aB 3) (fY aH) lX) (aA aZ aJ))))
  (aN (aR (aM rfl (aA (aG aX (aB 4) aH) (aA aZ aJ))))
  (aN (fG (aM rfl (aA (kO (aG bc (aG (bH (fun _ _ h=>aS h) fun _ _ _ _=>rfl) (aB 2) aH) aH) (kO (aG (fJ fun _ _ _ _=>rfl) (bY cP (aA (aB 3) aJ)) aH) (aG bc (bY cP (aA (aG aX (aB 5) aH) aJ)) aH))) aJ)))
  (ao (cU (aA (aG aX (aB 3) aH) (aA (aG aX (aB 3) aH) (aA (aG (bH (fun _ _ h=>aS h) fun _ _ _ _=>rfl) (aB 2) aH) (aA (aG aX (aB 4) aH) (aA (aG aX (aB 5) aH) (aA (cU aJ) (aA (cU aJ) aJ)))))))))))))))⟩
def Bb:FS:=
 (aU (eV (aQ (aK (inD false) (aK bF (fM "str" uq (fM "str" qi (aF 0) (aD (fC (.str " ")) aL)) (aD (fC (.str " ")) aL)) (fC (.int 0))) (fC (.tup [.str "plain",.str "one",.str "all"]))))
   (bO (fC (.str "room")))
   bJ)
  (bO (aK bF (fM "str" uq (aF 0) (aD (fC (.str " ")) aL)) (fC (.int 0)))))
def p6:aw D->Rz D:=dj 1 (Bb)
def QL:au ["row"] ["row"] (aV vL):=km
def Qg(F:iU K "kind_of" "kind_of" vL f fd)(k:mg "KINDS" = some Ji)(L:RelV (.ref zp) Ji)(l:∀ B,Rp K B (.tup [.str "plain",.str "one",.str "all"]) (.ref zp)) :
  cM P w K mg base bZ (n+1) f fd ["row"] (cI K C (p6) 1):=
 mL F QL fun _ A _ s H E _=>⟨_,
  (zE (yB (zM (r:=sH K false) lV (z0 (r:=az K) bB (fu (r:=Mq) d3 ke kn uB (fu (r:=Eh) d3 PySem.F.slot_str_lstrip PySem.F.type_str_lstrip J9 (pv 0) (zA zQ zD)) (zA zQ zD)) zB (fun _ _=>rfl)) (fB (v:=(.ref zp)) rfl k L) rfl)
  (zG (zP zQ))
  zU)
  (zG (zP (z0 (r:=az K) bB (fu (r:=Mq) d3 ke kn uB (pv 0) (zA zQ zD)) zB (fun _ _=>rfl))))),
  (aN (cD (aq (aG nG (aG aX (qu Kh (qu JB (aB 0) (aA aZ aJ)) (aA aZ aJ)) aH) (fZ l)))
   (ao aZ)
   bG)
  (ao (aG aX (qu Kh (aB 0) (aA aZ aJ)) aH)))⟩
def Gd:FS:=
 (aU (iW (aP (bU cL) 1 (aD (aK (inD false) (aF 0) (aF 1)) aL)))
  (bO (fM "list" qCH (aF 1) (aD (aF 0) aL))))
def bf:aw D->Rz D:=dj 2 (Gd)
def DN:au ["name","names"] ["name","names"] (aV lL):=km
def DX(F:iU K "number_named" "number_named" lL f fd)
  (c:Dp P w K mg base bZ n mO mQ ["fits"] (cI K C cL 1) "need") :
  cM P w K mg base bZ (n+1) f fd ["name","names"] (cI K C (bf) 2):=
 mL F DN fun _ A _ s H E hr=>⟨_,
  (zE (yG (pC c hr (zA (bV (r:=sH K false) lV (pv 0) (pv 1) rfl) zD)))
  (zG (zP (fu (r:=W4) tM PySem.F.slot_list_index PySem.F.type_list_index UT (pv 1) (zA (pv 0) zD))))),
  (aN (fG (aM rfl (aA (aG nG (aB 0) (aB 1)) aJ)))
  (ao (qu qC8 (aB 1) (aA (aB 0) aJ))))⟩
def sY:FS:=
 (aU (aW 3 (aK bF (aF 0) (fC (.int 0))))
  (aU (eV (aQ (aK (inD false) (aF 3) (dR (aD (fC (.str "set")) (aD (fC (.str "add")) aL)))))
   (aU (iW (aP (bU cL) 1 (aD (aK (dJ false) (dY cY (aD (aF 0) aL)) (fC (.int 3))) aL)))
   (bO (dR (aD (aF 3) (aD (aP (bU bf) 2 (aD (aK bF (aF 0) (fC (.int 1))) (aD (aP (bU cT) 1 (aD (aF 1) aL)) aL))) (aD (aP (bU cG) 1 (aD (aK bF (aF 0) (fC (.int 2))) aL)) aL))))))
   bJ)
  (aU (iW (aP (bU cL) 1 (aD (lq (aK (inD false) (aF 3) (dR (aD (fC (.str "say")) (aD (fC (.str "send")) aL)))) (aK (dJ false) (dY cY (aD (aF 0) aL)) (fC (.int 2)))) aL)))
  (aU (eV (aQ (aK (dJ false) (aF 3) (fC (.str "say"))))
   (bO (dR (aD (fC (.str "say")) (aD (aK bF (aF 0) (fC (.int 1))) aL))))
   bJ)
  (bO (dR (aD (fC (.str "send")) (aD (aP (bU bf) 2 (aD (aK bF (aF 0) (fC (.int 1))) (aD (aF 2) aL))) aL))))))))
def sy:aw D->Rz D:=dj 4 (sY)
def FW:au ["words","boxes","events","kind"] ["words","boxes","events"] (aV vM):=km
def Qi(F:iU K "deed_of" "deed_of" vM f fd)
  (c:Dp P w K mg base bZ n mO mQ ["fits"] (cI K C cL 1) "need")
  (R:Dp P w K mg base bZ n wB wC ["text"] (cI K C cG 1) "read_number")
  (d:Dp P w K mg base bZ n xG xR ["things"] (cI K C cT 1) "names_of")
  (B:Dp P w K mg base bZ n Gv HR ["name","names"] (cI K C bf 2) "number_named") (b:mg "len" = none) :
  cM P w K mg base bZ (n+1) f fd ["words","boxes","events"] (cI K C (sy) 3):=
 mL F FW fun _ A _ s H E hr=>⟨_,
  (zE (zK (i:=3) FW.nd rfl (aT rfl) (z0 (r:=az K) bB (pv 0) zB (fun _ _=>rfl)))
  (zE (yB (zM (r:=sH K false) lV (pv 3) (zW (zA zQ (zA zQ zD))) rfl)
  (zE (yG (pC c hr (zA (bV (r:=dD K false) (bW hr.units) (zT (r:=dC K) bA rfl b gA (zA (pv 0) zD)) zB (zS _)) zD)))
  (zG (zP (zW (zA (pv 3) (zA (pC B hr (zA (z0 (r:=az K) bB (pv 0) zB (fun _ _=>rfl)) (zA (pC d hr (zA (pv 1) zD)) zD))) (zA (pC R hr (zA (z0 (r:=az K) bB (pv 0) zB (fun _ _=>rfl)) zD)) zD)))))))
  zU)
  (zE (yG (pC c hr (zA (jy (bV (r:=sH K false) lV (pv 3) (zW (zA zQ (zA zQ zD))) rfl) (gb (bV (r:=dD K false) (bW hr.units) (zT (r:=dC K) bA rfl b gA (zA (pv 0) zD)) zB (zS _)))) zD)))
  (zE (yB (zM (r:=dD K false) (bW hr.units) (pv 3) zQ (zS _))
  (zG (zP (zW (zA zQ (zA (z0 (r:=az K) bB (pv 0) zB (fun _ _=>rfl)) zD)))))
  zU)
  (zG (zP (zW (zA zQ (zA (pC B hr (zA (z0 (r:=az K) bB (pv 0) zB (fun _ _=>rfl)) (zA (pv 2) zD))) zD))))))))),
  (aN (aR (aG aX (aB 0) aH))
  (aN (cD (aq (aG nG (aB 3) (cU (aA aZ (aA aZ aJ)))))
   (aN (fG (aM rfl (aA (aG bc (bY cP (aA (aB 0) aJ)) aH) aJ)))
   (ao (cU (aA (aB 3) (aA (aM rfl (aA (aG aX (aB 0) aH) (aA (aM rfl (aA (aB 1) aJ)) aJ))) (aA (aM rfl (aA (aG aX (aB 0) aH) aJ)) aJ))))))
   bG)
  (aN (fG (aM rfl (aA (kO (aG nG (aB 3) (cU (aA aZ (aA aZ aJ)))) (aG bc (bY cP (aA (aB 0) aJ)) aH)) aJ)))
  (aN (cD (aq (aG bc (aB 3) aZ))
   (ao (cU (aA aZ (aA (aG aX (aB 0) aH) aJ))))
   bG)
  (ao (cU (aA aZ (aA (aM rfl (aA (aG aX (aB 0) aH) (aA (aB 2) aJ))) aJ))))))))⟩
def yx:FS:=
 (aU (iW (aP (bU cL) 1 (aD (aK (dJ true) (aF 1) (dR (aD (fC (.str "yes")) aL))) aL)))
  (bO (aK aa (aK aa (vy (aF 0) xJ (gG (fC (.int 2)))) (dR (aD (aF 1) aL))) (vy (aF 0) (gG (fC (.int 3))) xJ))))
def o7:aw D->Rz D:=dj 2 (yx)
def Hu:au ["door","guard"] ["door","guard"] (aV oJ):=km
def Hx(F:iU K "with_guard" "with_guard" oJ f fd)
  (c:Dp P w K mg base bZ n mO mQ ["fits"] (cI K C cL 1) "need") :
  cM P w K mg base bZ (n+1) f fd ["door","guard"] (cI K C (o7) 2):=
 mL F Hu fun _ A _ s H E hr=>⟨_,
  (zE (yG (pC c hr (zA (bV (r:=dD K true) (mK hr.units) (pv 1) (zW (zA zQ zD)) (zS _)) zD)))
  (zG (zP (yA (r:=bC K) aY (yA (r:=bC K) aY (eH (r:=rD K) tR (pv 0) fW (fV zB)) (zW (zA (pv 1) zD))) (eH (r:=rD K) tR (pv 0) (fV zB) fW))))),
  (aN (fG (aM rfl (aA (aG bc (aB 1) (cU (aA aZ aJ))) aJ)))
  (ao (aG ak (aG ak (eQ (aB 0) lX (fY aH)) (cU (aA (aB 1) aJ))) (eQ (aB 0) (fY aH) lX))))⟩
def CQ:FS:=
 (aU (iW (aP (bU cL) 1 (aD (aK Kr (dY cY (aD (aK bF (aF 0) (aF 1)) aL)) (fC (.int 8))) aL)))
  (bO (aK aa (aK aa (vy (aF 0) xJ (gG (aF 1))) (dR (aD (aK aa (aK bF (aF 0) (aF 1)) (dR (aD (aF 2) aL))) aL))) (vy (aF 0) (gG (aK aa (aF 1) (fC (.int 1)))) xJ))))
def qL:aw D->Rz D:=dj 3 (CQ)
def Jq:au ["thing","place","deed"] ["thing","place","deed"] (aV qO):=km
def K7(F:iU K "with_deed" "with_deed" qO f fd)
  (c:Dp P w K mg base bZ n mO mQ ["fits"] (cI K C cL 1) "need") (b:mg "len" = none) (U:mg "MOST_DEEDS" = some tQ) (u:RelV (.int 8) tQ) :
  cM P w K mg base bZ (n+1) f fd ["thing","place","deed"] (cI K C (qL) 3):=
 mL F Jq fun _ A _ s H E hr=>⟨_,
  (zE (yG (pC c hr (zA (bV ur (zT (r:=dC K) bA rfl b gA (zA (z0 (r:=az K) bB (pv 0) (pv 1) (fun _ _=>rfl)) zD)) (fB (v:=(.int 8)) rfl U u) (zS _)) zD)))
  (zG (zP (yA (r:=bC K) aY (yA (r:=bC K) aY (eH (r:=rD K) tR (pv 0) fW (fV (pv 1))) (zW (zA (yA (r:=bC K) aY (z0 (r:=az K) bB (pv 0) (pv 1) (fun _ _=>rfl)) (zW (zA (pv 2) zD))) zD))) (eH (r:=rD K) tR (pv 0) (fV (yA (r:=bC K) aY (pv 1) zB)) fW))))),
  (aN (fG (aM rfl (aA (aG (fJ fun _ _ _ _=>rfl) (bY cP (aA (aG aX (aB 0) (aB 1)) aJ)) (fZ fun _=>rfl)) aJ)))
  (ao (aG ak (aG ak (eQ (aB 0) lX (fY (aB 1))) (cU (aA (aG ak (aG aX (aB 0) (aB 1)) (cU (aA (aB 2) aJ))) aJ))) (eQ (aB 0) (fY (aG ak (aB 1) aH)) lX))))⟩
def vA:FS:=
 (aU (aW 3 (aP (bU sy) 3 (aD (aP (bU cJ) 1 (aD (aF 0) aL)) (aD (aF 1) (aD (aF 2) aL)))))
  (aU (iW (aP (bU cL) 1 (aD (ie (aP (bU gB) 3 (aD (aF 3) (aD (aF 1) (aD (aF 2) aL))))) aL)))
  (bO (aF 3))))
def qZ:aw D->Rz D:=dj 4 (vA)
def xn:au ["text","boxes","events","deed"] ["text","boxes","events"] (aV qQ):=km
def K9(F:iU K "read_deed" "read_deed" qQ f fd)
  (g:Dp P w K mg base bZ n Gq HN ["text"] (cI K C cJ 1) "words_of")
  (v:Dp P w K mg base bZ n f_deed_of d_deed_of ["words","boxes","events"] (cI K C sy 3) "deed_of")
  (m:Dp P w K mg base bZ n Bc Bd ["deed","boxes","events"] (cI K C gB 3) "deed_has_fault")
  (c:Dp P w K mg base bZ n mO mQ ["fits"] (cI K C cL 1) "need") :
  cM P w K mg base bZ (n+1) f fd ["text","boxes","events"] (cI K C (qZ) 3):=
 mL F xn fun _ A _ s H E hr=>⟨_,
  (zE (zK (i:=3) xn.nd rfl (aT rfl) (pC v hr (zA (pC g hr (zA (pv 0) zD)) (zA (pv 1) (zA (pv 2) zD)))))
  (zE (yG (pC c hr (zA (gh (pC m hr (zA (pv 3) (zA (pv 1) (zA (pv 2) zD))))) zD)))
  (zG (zP (pv 3))))),
  (aN (aR (aM rfl (aA (aM rfl (aA (aB 0) aJ)) (aA (aB 1) (aA (aB 2) aJ)))))
  (aN (fG (aM rfl (aA (gk (aM rfl (aA (aB 3) (aA (aB 1) (aA (aB 2) aJ))))) aJ)))
  (ao (aB 3))))⟩
def Gi:FS:=
 (aU (iW (aP (bU cL) 1 (aD (lq (aK (dJ false) (dY cY (aD (aF 0) aL)) (fC (.int 4))) (aK Kr (dY cY (aD (aF 1) aL)) (fC (.int 6)))) aL)))
  (aU (aW 2 (dR (aD (aK bF (aF 0) (fC (.int 1))) (aD (aP (bU cG) 1 (aD (aK bF (aF 0) (fC (.int 2))) aL)) (aD (aP (bU cG) 1 (aD (aK bF (aF 0) (fC (.int 3))) aL)) aL)))))
  (aU (iW (aP (bU cL) 1 (aD (ie (aP (bU jw) 2 (aD (aF 2) (aD (aF 1) aL)))) aL)))
  (bO (aF 2)))))
def mU:aw D->Rz D:=dj 3 (Gi)
def Bw:au ["words","ahead","box"] ["words","ahead"] (aV tX):=km
def NB(F:iU K "box_told" "box_told" tX f fd)
  (c:Dp P w K mg base bZ n mO mQ ["fits"] (cI K C cL 1) "need")
  (R:Dp P w K mg base bZ n wB wC ["text"] (cI K C cG 1) "read_number")
  (e:Dp P w K mg base bZ n f_box_has_fault d_box_has_fault ["box","ahead"] (cI K C jw 2) "box_has_fault") (b:mg "len" = none) (k:mg "MOST_BOXES" = some Jh) (L:RelV (.int 6) Jh) :
  cM P w K mg base bZ (n+1) f fd ["words","ahead"] (cI K C (mU) 2):=
 mL F Bw fun _ A _ s H E hr=>⟨_,
  (zE (yG (pC c hr (zA (jy (bV (r:=dD K false) (bW hr.units) (zT (r:=dC K) bA rfl b gA (zA (pv 0) zD)) zB (zS _)) (gb (bV ur (zT (r:=dC K) bA rfl b gA (zA (pv 1) zD)) (fB (v:=(.int 6)) rfl k L) (zS _)))) zD)))
  (zE (zK (i:=2) Bw.nd rfl (aT rfl) (zW (zA (z0 (r:=az K) bB (pv 0) zB (fun _ _=>rfl)) (zA (pC R hr (zA (z0 (r:=az K) bB (pv 0) zB (fun _ _=>rfl)) zD)) (zA (pC R hr (zA (z0 (r:=az K) bB (pv 0) zB (fun _ _=>rfl)) zD)) zD)))))
  (zE (yG (pC c hr (zA (gh (pC e hr (zA (pv 2) (zA (pv 1) zD)))) zD)))
  (zG (zP (pv 2)))))),
  (aN (fG (aM rfl (aA (kO (aG bc (bY cP (aA (aB 0) aJ)) aH) (aG (fJ fun _ _ _ _=>rfl) (bY cP (aA (aB 1) aJ)) (fZ fun _=>rfl))) aJ)))
  (aN (aR (cU (aA (aG aX (aB 0) aH) (aA (aM rfl (aA (aG aX (aB 0) aH) aJ)) (aA (aM rfl (aA (aG aX (aB 0) aH) aJ)) aJ)))))
  (aN (fG (aM rfl (aA (gk (aM rfl (aA (aB 2) (aA (aB 1) aJ)))) aJ)))
  (ao (aB 2)))))⟩
def za:FS:=
 (aU (iW (aP (bU cL) 1 (aD (lq (aK (dJ false) (dY cY (aD (aF 0) aL)) (fC (.int 2))) (aK Kr (dY cY (aD (aF 1) aL)) (fC (.int 8)))) aL)))
  (aU (iW (aP (bU cL) 1 (aD (ie (aP (bU dh) 2 (aD (aK bF (aF 0) (fC (.int 1))) (aD (aF 1) aL)))) aL)))
  (bO (aK bF (aF 0) (fC (.int 1))))))
def jZ:aw D->Rz D:=dj 2 (za)
def Hv:au ["words","ahead"] ["words","ahead"] (aV oN):=km
def I9(F:iU K "event_told" "event_told" oN f fd)
  (c:Dp P w K mg base bZ n mO mQ ["fits"] (cI K C cL 1) "need")
  (g:Dp P w K mg base bZ n sr t6 ["name","ahead"] (cI K C dh 2) "name_has_fault") (b:mg "len" = none) (i:mg "MOST_EVENTS" = some Ho) (I:RelV (.int 8) Ho) :
  cM P w K mg base bZ (n+1) f fd ["words","ahead"] (cI K C (jZ) 2):=
 mL F Hv fun _ A _ s H E hr=>⟨_,
  (zE (yG (pC c hr (zA (jy (bV (r:=dD K false) (bW hr.units) (zT (r:=dC K) bA rfl b gA (zA (pv 0) zD)) zB (zS _)) (gb (bV ur (zT (r:=dC K) bA rfl b gA (zA (pv 1) zD)) (fB (v:=(.int 8)) rfl i I) (zS _)))) zD)))
  (zE (yG (pC c hr (zA (gh (pC g hr (zA (z0 (r:=az K) bB (pv 0) zB (fun _ _=>rfl)) (zA (pv 1) zD)))) zD)))
  (zG (zP (z0 (r:=az K) bB (pv 0) zB (fun _ _=>rfl)))))),
  (aN (fG (aM rfl (aA (kO (aG bc (bY cP (aA (aB 0) aJ)) aH) (aG (fJ fun _ _ _ _=>rfl) (bY cP (aA (aB 1) aJ)) (fZ fun _=>rfl))) aJ)))
  (aN (fG (aM rfl (aA (gk (aM rfl (aA (aG aX (aB 0) aH) (aA (aB 1) aJ)))) aJ)))
  (ao (aG aX (aB 0) aH))))⟩
def eO:aw D->Rz D
 | [.tup [.str g],_,_]=>if g = "yes" then .ok (.bl false) else .st
 | _=>.st
def qG:aw (Str×D):=[("",.tup [.str "order"]),("order",.tup [.str "letters"]),("letters",.tup [.str "turns"]),("turns",.tup [.str "box",.str "event",.str "room"]),("box",.tup [.str "box",.str "event",.str "room"]),("event",.tup [.str "event",.str "room"]),
 ("room",.tup [.str "in",.str "out",.str "room",.str "door"]),("in",.tup [.str "in",.str "out",.str "room",.str "door"]),("out",.tup [.str "out",.str "room",.str "door"]),("door",.tup [.str "when",.str "do",.str "door"]),("when",.tup [.str "do",.str "door"]),("do",.tup [.str "do",.str "door"])]
def Uo(a:ar):FS:=
 (bO (lq (aK GZ (dY cY (aD (lC a "rooms" (aF 0)) aL)) (fC (.int 0))) (ie (aP (bU gO) 2 (aD (aK bF (lC a "rooms" (aF 0)) (VN Ay (fC (.int 1)))) (aD (eX aL) aL))))))
def iu(a:ar):aw D->Rz D:=dj 1 (Uo a)
def QJ:au ["self"] ["self"] (aV qR):=km
def Qf(F:iU K "may_end" "Draft.may_end" qR f fd)
  (N:Dp P w K mg base bZ n Ds Dv ["room","behind"] (cI K C gO 2) "end_has_fault") (b:Hk K aO) (c:cz K aO "rooms") (B:mg "len" = none) :
  cM P w K mg base bZ (n+1) f fd ["self"] (cI K C (iu aO) 1):=
 mL F QJ fun _ A _ s H E hr=>⟨_,
  (zG (zP (jy (bV pL (zT (r:=dC K) bA rfl B gA (zA (dq (pv 0) rfl) zD)) zB (zS _)) (gb (gh (pC N hr (zA (z0 (r:=az K) bB (dq (pv 0) rfl) (uO nQ zB) (fun _ _=>rfl)) (zA (yI zD) zD)))))))),
  (ao (kO (aG (fJ fun _ _ _ _=>rfl) (bY cP (aA (iR b c (aB 0)) aJ)) aH) (gk (aM rfl (aA (aG aX (iR b c (aB 0)) (HJ wG aH)) (aA (dG aJ) aJ))))))⟩
def CT(a:ar):FS:=
 (aU (aW 2 (lC a "rooms" (aF 1)))
  (aU (aW 3 (aP (bU lQ) 1 (aD (aF 0) aL)))
  (aU (iW (aP (bU cL) 1 (aD (lq (aK Kr (dY cY (aD (aF 2) aL)) (fC (.int 40))) (ie (aP (bU jW) 4 (aD (aF 3) (aD (aF 2) (aD (lC a "boxes" (aF 1)) (aD (lC a "events" (aF 1)) aL))))))) aL)))
  (aU (iW (aP (bU cL) 1 (aD (Gy (aK (dJ false) (dY cY (aD (aF 2) aL)) (fC (.int 0))) (ie (aP (bU gO) 2 (aD (aK bF (aF 2) (VN Ay (fC (.int 1)))) (aD (eX (aD (aF 3) aL)) aL))))) aL)))
  (bO (aF 3))))))
def kY(a:ar):aw D->Rz D:=dj 4 (CT a)
def tU:au ["row","draft","ahead","room"] ["row","draft"] (aV qP):=km
def K8(F:iU K "room_told" "room_told" qP f fd)
  (h:Dp P w K mg base bZ n f_room_written d_room_written ["row"] (cI K C lQ 1) "room_written")
  (m:Dp P w K mg base bZ n f_room_has_fault d_room_has_fault ["room","ahead","boxes","events"] (cI K C jW 4) "room_has_fault")
  (c:Dp P w K mg base bZ n mO mQ ["fits"] (cI K C cL 1) "need")
  (N:Dp P w K mg base bZ n Ds Dv ["room","behind"] (cI K C gO 2) "end_has_fault") (b:Hk K aO) (Z:cz K aO "boxes") (W:cz K aO "events") (Q:cz K aO "rooms") (B:mg "len" = none) (k:mg "MOST_ROOMS" = some Jf) (L:RelV (.int 40) Jf) :
  cM P w K mg base bZ (n+1) f fd ["row","draft"] (cI K C (kY aO) 2):=
 mL F tU fun _ A _ s H E hr=>⟨_,
  (zE (zK (i:=2) tU.nd rfl (aT rfl) (dq (pv 1) rfl))
  (zE (zK (i:=3) tU.nd rfl (aT rfl) (pC h hr (zA (pv 0) zD)))
  (zE (yG (pC c hr (zA (jy (bV ur (zT (r:=dC K) bA rfl B gA (zA (pv 2) zD)) (fB (v:=(.int 40)) rfl k L) (zS _)) (gb (gh (pC m hr (zA (pv 3) (zA (pv 2) (zA (dq (pv 1) rfl) (zA (dq (pv 1) rfl) zD)))))))) zD)))
  (zE (yG (pC c hr (zA (CJ (bV (r:=dD K false) (bW hr.units) (zT (r:=dC K) bA rfl B gA (zA (pv 2) zD)) zB (zS _)) (gb (gh (pC N hr (zA (z0 (r:=az K) bB (pv 2) (uO nQ zB) (fun _ _=>rfl)) (zA (yI (zA (pv 3) zD)) zD)))))) zD)))
  (zG (zP (pv 3))))))),
  (aN (aR (iR b Q (aB 1)))
  (aN (aR (aM rfl (aA (aB 0) aJ)))
  (aN (fG (aM rfl (aA (kO (aG (fJ fun _ _ _ _=>rfl) (bY cP (aA (aB 2) aJ)) (fZ fun _=>rfl)) (gk (aM rfl (aA (aB 3) (aA (aB 2) (aA (iR b Z (aB 1)) (aA (iR b W (aB 1)) aJ))))))) aJ)))
  (aN (fG (aM rfl (aA (Cr (aG bc (bY cP (aA (aB 2) aJ)) aH) (gk (aM rfl (aA (aG aX (aB 2) (HJ wG aH)) (aA (dG (aA (aB 3) aJ)) aJ))))) aJ)))
  (ao (aB 3))))))⟩
def Sq(a:ar):FS:=
 (aU (aW 1 (dR (aD (dY vg (aD (lC a "boxes" (aF 0)) aL)) (aD (dY vg (aD (lC a "events" (aF 0)) aL)) (aD (dY vg (aD (lC a "rooms" (aF 0)) aL)) (aD (dY vg (aD (lC a "doors" (aF 0)) aL)) aL))))))
  (bO (aK aa (dY vg (aD (lC a "heads" (aF 0)) aL)) (aF 1))))
def o9(a:ar):aw D->Rz D:=dj 2 (Sq a)
def Mj:au ["self","parts"] ["self"] (aV vK):=km
def WN(F:iU K "whole" "Draft.whole" vK f fd)(b:Hk K aO)(Z:cz K aO "boxes")(D:cz K aO "doors")(W:cz K aO "events")(j:cz K aO "heads")(c:cz K aO "rooms")(d:mg "tuple" = none) :
  cM P w K mg base bZ (n+1) f fd ["self"] (cI K C (o9 aO) 1):=
 mL F Mj fun _ A _ s H E _=>⟨_,
  (zE (zK (i:=1) Mj.nd rfl (aT rfl) (zW (zA (zZ (r:=pJ K) zX rfl d Ac (zA (dq (pv 0) rfl) zD)) (zA (zZ (r:=pJ K) zX rfl d Ac (zA (dq (pv 0) rfl) zD)) (zA (zZ (r:=pJ K) zX rfl d Ac (zA (dq (pv 0) rfl) zD)) (zA (zZ (r:=pJ K) zX rfl d Ac (zA (dq (pv 0) rfl) zD)) zD))))))
  (zG (zP (yA (r:=bC K) aY (zZ (r:=pJ K) zX rfl d Ac (zA (dq (pv 0) rfl) zD)) (pv 1))))),
  (aN (aR (cU (aA (bY pq (aA (iR b Z (aB 0)) aJ)) (aA (bY pq (aA (iR b W (aB 0)) aJ)) (aA (bY pq (aA (iR b c (aB 0)) aJ)) (aA (bY pq (aA (iR b D (aB 0)) aJ)) aJ))))))
  (ao (aG ak (bY pq (aA (iR b j (aB 0)) aJ)) (aB 1))))⟩
def Gh(a:ar):FS:=
 (aU (w6 a 0 "last" (fC (.str "")))
  (aU (w6 a 0 "heads" (eX aL))
  (aU (w6 a 0 "boxes" (eX aL))
  (aU (w6 a 0 "events" (eX aL))
  (aU (w6 a 0 "rooms" (eX aL))
  (w6 a 0 "doors" (eX aL)))))))
def sU(a:ar):Ms->aw D->Rz (Ms×D):=runM 1 a (Gh a)
def Tp:au ["self"] ["self"] (aV Rf):=km
def U3(F:iU K "__init__" "Draft.__init__" Rf f fd)(b:Hk K aO)(Z:cz K aO "boxes")(D:cz K aO "doors")(W:cz K aO "events")(j:cz K aO "heads")(o:cz K aO "last")(c:cz K aO "rooms") :
  cM P w K mg base bZ (n+1) f fd ["self"] (Vr K C aO (sU aO) 1):=
 okM F Tp fun _ A _ s H E _=>⟨_,
  (zE (wN (pv 0) zQ rfl)
  (zE (wN (pv 0) (yI zD) rfl)
  (zE (wN (pv 0) (yI zD) rfl)
  (zE (wN (pv 0) (yI zD) rfl)
  (zE (wN (pv 0) (yI zD) rfl)
  (zG (wN (pv 0) (yI zD) rfl))))))),
  fun _ _=>(aN (xN b o aZ)
  (aN (xN b j (dG aJ))
  (aN (xN b Z (dG aJ))
  (aN (xN b W (dG aJ))
  (aN (xN b c (dG aJ))
  (xN b D (dG aJ)))))))⟩
def sX:FS:=
 (aU (eV (Sx (vD (aQ (aP (bU bh) 2 (aD (aK bF (aF 0) (fC (.int 0))) (aD (aF 3) aL))))) (vD (aQ (aP (bU bh) 2 (aD (aK bF (aF 0) (fC (.int 1))) (aD (aF 2) aL))))))
   (bO (fC (.bl true)))
   bJ)
  (aU (eV (Sx (aQ (aP (bU eO) 3 (aD (aK bF (aF 0) (fC (.int 2))) (aD (aF 1) (aD (aF 3) aL))))) (aQ (aP (bU fK) 3 (aD (aK bF (aF 0) (fC (.int 3))) (aD (aF 1) (aD (aF 2) aL))))))
   (bO (fC (.bl true)))
   bJ)
  (bO (aP (bU jY) 3 (aD (aK bF (aF 0) (fC (.int 4))) (aD (aK bF (aF 0) (fC (.int 5))) (aD (aF 3) aL)))))))
def jb:aw D->Rz D:=dj 4 (sX)
def yQ:au ["door","boxes","events","rooms"] ["door","boxes","events","rooms"] (aV jU):=km
def ym(F:iU K "door_has_fault" "door_has_fault" jU f fd)
  (d:Dp P w K mg base bZ n pQ pZ ["number","things"] (cI K C bh 2) "is_number_of")
  (z:Dp P w K mg base bZ n f_guard_has_fault d_guard_has_fault ["guard","boxes","rooms"] (cI K C eO 3) "guard_has_fault")
  (I:Dp P w K mg base bZ n xH xT ["deeds","boxes","events"] (cI K C fK 3) "deeds_have_fault")
  (B:Dp P w K mg base bZ n f_goal_has_fault d_goal_has_fault ["way","goal","rooms"] (cI K C jY 3) "goal_has_fault") :
  cM P w K mg base bZ (n+1) f fd ["door","boxes","events","rooms"] (cI K C (jb) 4):=
 mL F yQ fun _ A _ s H E hr=>⟨_,
  (zE (yB (PW.pt (pw_or (nT (gF (pC d hr (zA (z0 (r:=az K) bB (pv 0) zB (fun _ _=>rfl)) (zA (pv 3) zD))))) (pw_or1 (nT (gF (pC d hr (zA (z0 (r:=az K) bB (pv 0) zB (fun _ _=>rfl)) (zA (pv 2) zD))))))))
  (zG (zP qd))
  zU)
  (zE (yB (PW.pt (pw_or (gF (pC z hr (zA (z0 (r:=az K) bB (pv 0) zB (fun _ _=>rfl)) (zA (pv 1) (zA (pv 3) zD))))) (pw_or1 (gF (pC I hr (zA (z0 (r:=az K) bB (pv 0) zB (fun _ _=>rfl)) (zA (pv 1) (zA (pv 2) zD))))))))
  (zG (zP qd))
  zU)
  (zG (zP (pC B hr (zA (z0 (r:=az K) bB (pv 0) zB (fun _ _=>rfl)) (zA (z0 (r:=az K) bB (pv 0) zB (fun _ _=>rfl)) (zA (pv 3) zD)))))))),
  (aN (cD (Cq (nW (pU (aM rfl (aA (aG aX (aB 0) aH) (aA (aB 3) aJ))))) (nW (pU (aM rfl (aA (aG aX (aB 0) aH) (aA (aB 2) aJ))))))
   (ao qw)
   bG)
  (aN (cD (Cq (pU (aM rfl (aA (aG aX (aB 0) aH) (aA (aB 1) (aA (aB 3) aJ))))) (pU (aM rfl (aA (aG aX (aB 0) aH) (aA (aB 1) (aA (aB 2) aJ))))))
   (ao qw)
   bG)
  (ao (aM rfl (aA (aG aX (aB 0) aH) (aA (aG aX (aB 0) aH) (aA (aB 3) aJ)))))))⟩
def Cj(a:ar):FS:=
 (aU (iW (aP (bU cL) 1 (aD (lq (aK (inD false) (dY cY (aD (aF 0) aL)) (dR (aD (fC (.int 4)) (aD (fC (.int 5)) aL)))) (lq (aK Kr (dY cY (aD (lC a "doors" (aF 1)) aL)) (fC (.int 60))) (OJ a "may_end" (bU (iu a)) 1 (aF 1) aL))) aL)))
  (aU (aW 2 (aP (bU cT) 1 (aD (lC a "rooms" (aF 1)) aL)))
  (aU (aW 3 (YS (aQ (aK (dJ false) (dY cY (aD (aF 0) aL)) (fC (.int 5)))) (aP (bU bf) 2 (aD (aK bF (aF 0) (fC (.int 4))) (aD (aF 2) aL))) (fC .non)))
  (aU (aW 4 (dR (aD (aP (bU bf) 2 (aD (aK bF (aF 0) (fC (.int 1))) (aD (aF 2) aL))) (aD (aP (bU bf) 2 (aD (aK bF (aF 0) (fC (.int 2))) (aD (lC a "events" (aF 1)) aL))) (aD (dR (aD (fC (.str "yes")) aL)) (aD (dR aL) (aD (aK bF (aF 0) (fC (.int 3))) (aD (aF 3) aL))))))))
  (aU (iW (aP (bU cL) 1 (aD (ie (aP (bU jb) 4 (aD (aF 4) (aD (lC a "boxes" (aF 1)) (aD (lC a "events" (aF 1)) (aD (lC a "rooms" (aF 1)) aL)))))) aL)))
  (bO (aF 4)))))))
def lB(a:ar):aw D->Rz D:=dj 5 (Cj a)
def oG:au ["words","draft","names","goal","door"] ["words","draft"] (aV qW):=km
def Kc(F:iU K "door_told" "door_told" qW f fd)
  (l:cM P w K mg base bZ n vW vZ ["self"] (cI K C (iu aO) 1)) (h:Binds K vZ ["self"] []) (Y:Meth K aO "may_end" vW)
  (c:Dp P w K mg base bZ n mO mQ ["fits"] (cI K C cL 1) "need")
  (d:Dp P w K mg base bZ n xG xR ["things"] (cI K C cT 1) "names_of")
  (u:Dp P w K mg base bZ n Gv HR ["name","names"] (cI K C bf 2) "number_named")
  (q:Dp P w K mg base bZ n f_door_has_fault d_door_has_fault ["door","boxes","events","rooms"] (cI K C jb 4) "door_has_fault") (b:Hk K aO) (Z:cz K aO "boxes") (D:cz K aO "doors") (W:cz K aO "events") (Q:cz K aO "rooms") (B:mg "len" = none) (k:mg "MOST_DOORS" = some Jg) (L:RelV (.int 60) Jg) :
  cM P w K mg base bZ (n+1) f fd ["words","draft"] (cI K C (lB aO) 2):=
 mL F oG fun _ A _ s H E hr=>⟨_,
  (zE (yG (pC c hr (zA (jy (bV (r:=sH K false) lV (zT (r:=dC K) bA rfl B gA (zA (pv 0) zD)) (zW (zA zB (zA zB zD))) rfl) (jy (bV ur (zT (r:=dC K) bA rfl B gA (zA (dq (pv 1) rfl) zD)) (fB (v:=(.int 60)) rfl k L) (zS _)) (gb (Fj (pv 1) b Y l hr h .nil yC)))) zD)))
  (zE (zK (i:=2) oG.nd rfl (aT rfl) (pC d hr (zA (dq (pv 1) rfl) zD)))
  (zE (zK (i:=3) oG.nd rfl (aT rfl) (yg (zM (r:=dD K false) (bW hr.units) (zT (r:=dC K) bA rfl B gA (zA (pv 0) zD)) zB (zS _)) (pC u hr (zA (z0 (r:=az K) bB (pv 0) zB (fun _ _=>rfl)) (zA (pv 2) zD))) wO))
  (zE (zK (i:=4) oG.nd rfl (aT rfl) (zW (zA (pC u hr (zA (z0 (r:=az K) bB (pv 0) zB (fun _ _=>rfl)) (zA (pv 2) zD))) (zA (pC u hr (zA (z0 (r:=az K) bB (pv 0) zB (fun _ _=>rfl)) (zA (dq (pv 1) rfl) zD))) (zA (zW (zA zQ zD)) (zA (zW zD) (zA (z0 (r:=az K) bB (pv 0) zB (fun _ _=>rfl)) (zA (pv 3) zD))))))))
  (zE (yG (pC c hr (zA (gh (pC q hr (zA (pv 4) (zA (dq (pv 1) rfl) (zA (dq (pv 1) rfl) (zA (dq (pv 1) rfl) zD)))))) zD)))
  (zG (zP (pv 4)))))))),
  (aN (fG (aM rfl (aA (kO (aG nG (bY cP (aA (aB 0) aJ)) (cU (aA aH (aA aH aJ)))) (kO (aG (fJ fun _ _ _ _=>rfl) (bY cP (aA (iR b D (aB 1)) aJ)) (fZ fun _=>rfl)) (Lb rfl (aB 1) aJ))) aJ)))
  (aN (aR (aM rfl (aA (iR b Q (aB 1)) aJ)))
  (aN (aR (Xe (aq (aG bc (bY cP (aA (aB 0) aJ)) aH)) (aM rfl (aA (aG aX (aB 0) aH) (aA (aB 2) aJ))) xP))
  (aN (aR (cU (aA (aM rfl (aA (aG aX (aB 0) aH) (aA (aB 2) aJ))) (aA (aM rfl (aA (aG aX (aB 0) aH) (aA (iR b W (aB 1)) aJ))) (aA (cU (aA aZ aJ)) (aA (cU aJ) (aA (aG aX (aB 0) aH) (aA (aB 3) aJ))))))))
  (aN (fG (aM rfl (aA (gk (aM rfl (aA (aB 4) (aA (iR b Z (aB 1)) (aA (iR b W (aB 1)) (aA (iR b Q (aB 1)) aJ)))))) aJ)))
  (ao (aB 4)))))))⟩
def wX(w:Str)(t:D):Rz D:=(cT [t]).bind fun ns=>bf [.str w,ns]
def lZ(bs rs:D):Nat->aw Str->Rz (D×aw Str)
 | 0,_=>.st
 | _+1,[]=>.st
 | n+1,k::ws=>
  if k = "yes" then .ok (.tup [.str "yes"],ws) else
  if k = "is" ∨ k = "under" then (match ws with
   | b::x::us=>(wX b bs).bind fun j=>(cG [.str x]).bind fun i=>(d7 [i]).bind fun t=>(cL [t]).bind fun _=>.ok (.tup [.str k,j,i],us)
   | _=>.st) else
  if k = "in" then (match ws with
   | b::us=>(wX b rs).bind fun j=>.ok (.tup [.str "in",j],us)
   | _=>.st) else
  if k = "not" then (lZ bs rs n ws).bind fun p=>.ok (.tup [.str "not",p.1],p.2) else
  if k = "both" ∨ k = "either" then (lZ bs rs n ws).bind fun p=>(lZ bs rs n p.2).bind fun q=>.ok (.tup [.str k,p.1,q.1],q.2) else .st
def fU:aw D->Rz D
 | [.str z,bs,rs]=>match cJ [.str z] with
  | .ok (.lst l)=>match ue l with
   | some ws=>match lZ bs rs 6 ws with
    | .ok (g,[])=>.ok g
    | _=>.st
   | none=>.st
  | _=>.st
 | _=>.st
def lg(fs:Ms)(x y z:Str)(f:D->D->D->Rz D):Rz (Ms×D):=match fs.lookup x,fs.lookup y,fs.lookup z with
 | some (.li l),some (.li m),some (.li n)=>match l.getLast? with
  | some d=>match f d (.lst m) (.lst n) with
   | .ok d'=>if d'.nl=true then .ok (ji x (.li (l.set (l.length-1) d')) fs,.non) else .st
   | _=>.st
  | none=>.st
 | _,_,_=>.st
def wj(t d m n:D):Rz D:=match fU [t,m,n] with
 | .ok g=>o7 [d,g]
 | _=>.st
def pY(t:D)(i:Int)(d m n:D):Rz D:=match qZ [t,m,n] with
 | .ok g=>qL [d,.int i,g]
 | _=>.st
def fL(_:ar)(fs:Ms):aw D->Rz (Ms×D)
 | [.str k,.str t]=>
  if k = "when" then lg fs "doors" "boxes" "rooms" (wj (.str t)) else
  if k = "in" then lg fs "rooms" "boxes" "events" (pY (.str t) 5) else
  if k = "out" then lg fs "rooms" "boxes" "events" (pY (.str t) 6) else
  if k = "do" then lg fs "doors" "boxes" "events" (pY (.str t) 3) else .st
 | _=>.st
def XH(a:ar):FS:=
 (aU (aW 2 (aP (bU p6) 1 (aD (aF 1) aL)))
  (aU (iW (aP (bU cL) 1 (aD (aK (inD false) (aF 2) (fKD qG (lC a "last" (aF 0)))) aL)))
  (aU (eV (aQ (aK (dJ false) (aF 2) (fC (.str "room"))))
   (qX a 0 "rooms" (aP (bU (kY a)) 2 (aD (aF 1) (aD (aF 0) aL))))
   (eV (aQ (aK (dJ false) (aF 2) (fC (.str "door"))))
   (qX a 0 "doors" (aP (bU (lB a)) 2 (aD (aP (bU cJ) 1 (aD (aF 1) aL)) (aD (aF 0) aL))))
   (eV (aQ (aK (inD false) (aF 2) (dR (aD (fC (.str "when")) (aD (fC (.str "in")) (aD (fC (.str "out")) (aD (fC (.str "do")) aL)))))))
    (Vx a 0 "add_part" (u0 (fL a)) 3 (aD (aF 2) (aD (aK bF (fM "str" uq (aF 1) (aD (fC (.str " ")) aL)) (fC (.int 2))) aL)) fun _ _ ρ=>ρ)
    (eV (aQ (aK (dJ false) (aF 2) (fC (.str "box"))))
    (qX a 0 "boxes" (aP (bU mU) 2 (aD (aP (bU cJ) 1 (aD (aF 1) aL)) (aD (lC a "boxes" (aF 0)) aL))))
    (eV (aQ (aK (dJ false) (aF 2) (fC (.str "event"))))
     (qX a 0 "events" (aP (bU jZ) 2 (aD (aP (bU cJ) 1 (aD (aF 1) aL)) (aD (lC a "events" (aF 0)) aL))))
     (qX a 0 "heads" (aP (bU iC) 2 (aD (aF 2) (aD (aP (bU cJ) 1 (aD (aF 1) aL)) aL)))))))))
  (w6 a 0 "last" (aF 2)))))
def mD(a:ar):Ms->aw D->Rz (Ms×D):=runM 3 a (XH a)
def Vw:au ["self","row","kind"] ["self","row"] (aV Yl):=km
def qC0(F:iU K "add" "Draft.add" Yl f fd)
  (v:Dp P w K mg base bZ n f_kind_of d_kind_of ["row"] (cI K C p6 1) "kind_of")
  (d:Dp P w K mg base bZ n mO mQ ["fits"] (cI K C cL 1) "need")
  (J:Dp P w K mg base bZ n f_room_told d_room_told ["row","draft"] (cI K C (kY aO) 2) "room_told")
  (g:Dp P w K mg base bZ n Gq HN ["text"] (cI K C cJ 1) "words_of")
  (a:Dp P w K mg base bZ n f_door_told d_door_told ["words","draft"] (cI K C (lB aO) 2) "door_told")
  (R:cM P w K mg base bZ n R0 R8 ["self","kind","text"] (Vr K C aO (fL aO) 3)) (e:Binds K R8 ["self","kind","text"] []) (N:Meth K aO "add_part" R0)
  (h:Dp P w K mg base bZ n f_box_told d_box_told ["words","ahead"] (cI K C mU 2) "box_told")
  (M:Dp P w K mg base bZ n f_event_told d_event_told ["words","ahead"] (cI K C jZ 2) "event_told")
  (p:Dp P w K mg base bZ n f_head_told d_head_told ["kind","words"] (cI K C iC 2) "head_told") (b:Hk K aO) (Z:cz K aO "boxes") (D:cz K aO "doors") (W:cz K aO "events") (j:cz K aO "heads") (o:cz K aO "last") (Q:cz K aO "rooms") (c:mg "BEHIND" = some (.ref Y6)) (y:KD P w K Y6 Vf) (Y:∀ B,Pn K B qG Vf) :
  cM P w K mg base bZ (n+1) f fd ["self","row"] (Vr K C aO (mD aO) 2):=
 okM F Vw fun _ A _ s H E hr=>⟨_,
  (zE (zK (i:=2) Vw.nd rfl (aT rfl) (pC v hr (zA (pv 1) zD)))
  (zE (yG (pC d hr (zA (bV (r:=sH K false) lV (pv 2) (qAN y rfl c (dq (pv 0) rfl) (fun _ _=>rfl)) rfl) zD)))
  (zE (yB (zM (r:=dD K false) (bW hr.units) (pv 2) zQ (zS _))
  (zG (yG (fu (r:=fQ) tM uZ uY yF (dq (pv 0) rfl) (zA (pC J hr (zA (pv 1) (zA (pv 0) zD))) zD))))
  (zG (yB (zM (r:=dD K false) (bW hr.units) (pv 2) zQ (zS _))
  (zG (yG (fu (r:=fQ) tM uZ uY yF (dq (pv 0) rfl) (zA (pC a hr (zA (pC g hr (zA (pv 1) zD)) (zA (pv 0) zD))) zD))))
  (zG (yB (zM (r:=sH K false) lV (pv 2) (zW (zA zQ (zA zQ (zA zQ (zA zQ zD))))) rfl)
  (zG (yG (Rr (pv 0) b N R hr e .nil yC (zA (pv 2) (zA (z0 (r:=az K) bB (fu (r:=Mq) d3 ke kn uB (pv 1) (zA zQ zD)) zB (fun _ _=>rfl)) zD)))))
  (zG (yB (zM (r:=dD K false) (bW hr.units) (pv 2) zQ (zS _))
  (zG (yG (fu (r:=fQ) tM uZ uY yF (dq (pv 0) rfl) (zA (pC h hr (zA (pC g hr (zA (pv 1) zD)) (zA (dq (pv 0) rfl) zD))) zD))))
  (zG (yB (zM (r:=dD K false) (bW hr.units) (pv 2) zQ (zS _))
  (zG (yG (fu (r:=fQ) tM uZ uY yF (dq (pv 0) rfl) (zA (pC M hr (zA (pC g hr (zA (pv 1) zD)) (zA (dq (pv 0) rfl) zD))) zD))))
  (zG (yG (fu (r:=fQ) tM uZ uY yF (dq (pv 0) rfl) (zA (pC p hr (zA (pv 2) (zA (pC g hr (zA (pv 1) zD)) zD))) zD)))))))))))))
  (zG (wN (pv 0) (pv 2) rfl))))),
  fun _ _=>(aN (aR (aM rfl (aA (aB 1) aJ)))
  (aN (fG (aM rfl (aA (aG nG (aB 2) (qFW Y (iR b o (aB 0)))) aJ)))
  (aN (cD (aq (aG bc (aB 2) aZ))
   (zg b Q (aM rfl (aA (aB 1) (aA (aB 0) aJ))))
   (cD (aq (aG bc (aB 2) aZ))
   (zg b D (aM rfl (aA (aM rfl (aA (aB 1) aJ)) (aA (aB 0) aJ))))
   (cD (aq (aG nG (aB 2) (cU (aA aZ (aA aZ (aA aZ (aA aZ aJ)))))))
    (Zh rfl (aA (aB 2) (aA (aG aX (qu Kh (aB 1) (aA aZ aJ)) aH) aJ)))
    (cD (aq (aG bc (aB 2) aZ))
    (zg b Z (aM rfl (aA (aM rfl (aA (aB 1) aJ)) (aA (iR b Z (aB 0)) aJ))))
    (cD (aq (aG bc (aB 2) aZ))
     (zg b W (aM rfl (aA (aM rfl (aA (aB 1) aJ)) (aA (iR b W (aB 0)) aJ))))
     (zg b j (aM rfl (aA (aB 2) (aA (aM rfl (aA (aB 1) aJ)) aJ)))))))))
  (xN b o (aB 2)))))⟩
end
def WW(a:ar)(fs:Ms):D:=.obj a (fs.map fun x=>(x.1,x.2.d))
def ZS:Ms:=[("last",.va (.str "")),("heads",.li []),("boxes",.li []),("events",.li []),("rooms",.li []),("doors",.li [])]
def qj(a:ar):aw D->Ms->Rz Ms
 | [],fs=>.ok fs
 | r::rs,fs=>if fs.lookup ("add" : Str)=none then (match mD a fs [r] with
  | .ok p=>qj a rs p.1
  | _=>.st) else .st
def Xa(a:ar)(fs:Ms):Rz D:=if fs.lookup ("may_end" : Str)=none/\fs.lookup ("whole" : Str)=none then (match iu a [WW a fs] with
 | .ok (.bl true)=>(match o9 a [WW a fs] with | .ok d=>if d.nl=true then .ok d else .st | _=>.st)
 | _=>.st) else .st
def Mm(a:ar)(x:Str):Rz D:=if x.length<=sizeLine/\(Txt.split x "\n").length<=sizeLine then (match qj a ((Txt.split x "\n").map D.str) ZS with
 | .ok fs=>Xa a fs
 | _=>.st) else .st
def tZ(a:ar):aw D->Rz D
 | [.str x]=>match Mm a x with
  | .ok d=>.ok d
  | _=>.st
 | _=>.st
end zq
namespace PySem
open Sem (wp)
open AutoSeq1 (wpAny_loadPart')
def XX(l:ar)(items:Array av)(n:Nat)(D:ax ar)(sl:Array (ax av))(t:Tok) :
  Meets (Builtin.«enumerate.__new__» ⟨[.type "enumerate",.ref l],[("start",.int 1 t)]⟩) (fun _ R s=>s.heap.get? l=some { cls:=.type "list",dict:=D,data:=.seq items n,slots:=sl } ∧
   R (.ok (.ret (.ref (s.heap.push { cls:=.type "list_iterator",data:=.fields #[.ref l,.int 0 0] }).objs.size)))
    { s with heap:=(s.heap.push { cls:=.type "list_iterator",data:=.fields #[.ref l,.int 0 0] }).push { cls:=.type "enumerate",data:=.fields #[.none,.bool false,.ref s.heap.objs.size,rawInt 1,.none,.none] } }):=
 .of_wp fun _ w A R s h=>by
  obtain⟨p,g,d,T,os⟩:=s;obtain⟨f,h⟩:=h;have H:=sub_enumerate;have a:Heap.IsList (Shared.heap ⟨p,g,d,T,os⟩) l items:=⟨_,f,rfl,n,rfl⟩
  wp_walk using wpAny_loadPart' f
  refine wpAny_stack_any fun _=>aI ?_
  split
  .rename_i c _ _ _ _ _
   cases (c==Value.type "enumerate")
   .wp_walk using wpAny_loadPart' f,wpAny_pyIter_list a
    exact⟨_,rfl,h⟩
   .wp_walk using wpAny_loadPart' f,wpAny_pyIter_list a
    exact⟨_,rfl,h⟩
  .wp_walk using wpAny_loadPart' f,wpAny_pyIter_list a
   exact⟨_,rfl,h⟩
section
variable{prog:ag}{w:ay}{A:ah}{E:av->ae->Prop}{s:ae}
theorem Fw{T n:String}{S:av}{rest:aw av}{kw:aw (Str×av)}(f:typeLookup (.type T) "__init__" = pure (some (.builtin "object.__init__")))
  (c:Bind.madeBy (.type T)=pure (some n)) (e:(some n != some "object.__new__")=true) :
  Meets (Builtin.«object.__init__» ⟨S::rest,kw⟩) (fun _ R s=>s.TypeIs S T/\R (.ok (.ret .none)) s):=by
 refine Meets.of_wp fun _ w A R s hs=>?_;obtain⟨_,q⟩:=hs
 cases rest with
 | nil=>
  cases kw with
  | nil=>exact aI ⟨_,rfl,q⟩
  | cons k kw=>
   repeat (any_goals (first | assumption | wp_step))
   exact⟨_,rfl,q⟩
 | cons a rest=>
  repeat (any_goals (first | assumption | wp_step))
  exact⟨_,rfl,q⟩
theorem Im{T n:String}{B:Builtin}{a:aw av}{kw:aw (Str×av)}{S:Spec}{Q:av->ae->Prop}(f:TypeCalled T n "object.__init__")
  (j:(some n != some "object.__new__")=true) (u:checkTypeCall T ⟨a,kw⟩=pure ()) (l:checkBuiltinCall n ⟨.type T::a,kw⟩=pure ())
  (hok:∀ obj,argsOk "object.__init__" ⟨obj::a,kw⟩) (N:entryFor table n=some B) (g:Meets (B ⟨.type T::a,kw⟩) S)
  (h:S A.in1 (wants (fun obj d=>d.TypeIs obj T/\Q obj d) E) s):wpAny (model prog w) A (call (.type T) a kw) Q E s:=by
 obtain⟨c,_,_⟩:=f.mro;have k:=f.made;have o:=f.sub;refine wpAny_call (codeAny_of_tree ?_);show wpAny _ _ (callAny (.type T) _) _ _ _;refine aI ⟨Code.quiet_builtin _ (by ext y),codeAny_builtin F.entry_type_call ?_⟩;rw[Around.under_plain (weight_type_call_type T a kw) (units_type_call_type T a kw)];have x:=f.notType;have y:=f.canCreate
 repeat (any_goals (first | assumption | wp_step))
 refine codeAny_mono (codeAny_call_builtin f.plain N (wpAny_of_eq l (g prog w A.in1 _ s h))) fun r d hr=>?_
 cases r with
 | error e=>exact hr
 | ok p=>
  cases p with
  | ret obj=>
   obtain⟨m,q⟩:=hr;have v:=f.init.lookup;have t:=f.init.bind obj
   repeat (any_goals (first | assumption | wp_step))
   refine codeAny_mono (codeAny_call_builtin f.init.plain F.entry_object_init (f.init.check _ _ _ _ _ _ _ _ m (hok obj) (Fw f.init.lookup f.made j prog w A.in1 (wants (fun r b=>r = .none/\Q obj b) E) d ⟨m,rfl,q⟩))) fun R b H=>?_
   cases R with
   | error e=>exact H
   | ok i=>
    cases i with
    | ret r=>
     obtain⟨rfl,_⟩:=H
     repeat (any_goals (first | assumption | wp_step))
    | _=>exact H.elim
  | _=>exact hr.elim
def Zd(a:av)(t:Tok):checkTypeCall "enumerate" ⟨[a],[("start",.int 1 t)]⟩=pure ():=by kernel_rfl
def Ze(a:av)(t:Tok):checkBuiltinCall "enumerate.__new__" ⟨[.type "enumerate",a],[("start",.int 1 t)]⟩=pure ():=by kernel_rfl
def Zc(a b:av)(t:Tok):argsOk "object.__init__" ⟨[a,b],[("start",.int 1 t)]⟩:=by unfold argsOk;rw[signature?_of (id := "object.__init__") (n:=['_','_','t','i','n','i','_','_']) (o:=['t','c','e','j','b','o']) (by kernel_rfl) F.owner_object];kernel_rfl
def Uz{e I l:ar}{i:Nat}{j:Int}{items:Array av}{O:av}{Q:ax av->ae->Prop}(g:A.handled=none)
  (c:IsEnum s.heap e I j O) (H:s.heap.IsListIter I l i) (m:s.heap.IsList l items) (f:items[i]? = none)
  (k:∀ h',Heap.ExtBut I s.heap h'->Q none { s with heap:=h' }):wpAny (model prog w) A (pyNext (.ref e)) Q E s:=by
 have d:s.TypeIs (.ref e) "enumerate" := ⟨_,c,rfl⟩;unfold pyNext
 refine aE (wpAny_attempt (wpAny_callSpecial?_slot (name:=Str.ofString "__next__") d F.slot_enumerate_next
  (wpAny_call_entry F.slot_enumerate_next d F.entry_enumerate_next ?_ (F.args_enumerate_next_1 _))))
 show wpAny _ _ (field (.ref e) 2 >>= _) _ _ _;refine aE (wpAny_field c rfl (x:=.ref I) rfl ?_);refine aE (wpAny_nextOf_list_end g H m f fun h' x h a=>?_);obtain⟨o,n,p⟩:=a;refine aE (wpAny_isInstance (T := "StopIteration") (b:=true) ⟨o,n,p⟩ isSubtype_stop ?_);exact aI (k _ h)
def Draws.shift{q:ar}{f:aw ar}{n:Nat}{P:Nat->av->Prop}{St:Nat->Heap->Prop}(D:Draws prog w A q f n P St):Draws prog w A q f (n+1) (fun i v => ∃ j,i=j+1/\P j v) (fun i h => ∃ j,i=j+1/\St j h) where
 live:=fun _ _ ⟨_,_,st⟩=>D.live _ _ st
 frame:=fun _ _ _ ⟨j,e,st⟩ k=>⟨j,e,D.frame _ _ _ st k⟩
 item:=fun i s Q E _ ⟨j,e,st⟩ H=>D.item j s Q E (by omega) st fun x h' T a b c=>H x h' T ⟨j,e,a⟩ ⟨j+1,by omega,b⟩ c
 done:=fun s Q E ⟨j,e,st⟩ y=>D.done s Q E (by rw[hJ e];exact st) y
def Ha{M:Model}{P:Pos}{T:String}{b:aw (Bool×Sem av)}{k:aw (ax Str×Sem av)}{Q:av->ae->Prop}
  (n:b.any (·.1)=false) (hkw:k.any (·.1.isNone)=false)
  (h:wpAny M A (evalArgs (.type T) true b k) (fun a d=>wpAny M A (call (.type T) a.pos a.kw) Q E d) E s) :
  wpAny M A (callWith P (.type T) [] b k) Q E s:=by unfold callWith;refine aE (c9 (bX h (fun a d j=>aE (wpAny_standAt ?_)) fun _ _ x=>x));simp only[n,hkw,Bool.or_false];refine aE (aI ?_);exact aE (bX j (fun r _ hr=>aE (c9 (wpAny_point (aI hr)))) fun _ _ x=>x)
def RC{l:ar}{items:Array av}{t:Tok}{Q:av->ae->Prop}(L:s.heap.IsList l items)
  (h:∀ h',IsEnum h' (s.heap.objs.size+1) s.heap.objs.size 1 .none->h'.IsListIter s.heap.objs.size l 0->h'.objs.size=s.heap.objs.size+2 →
   (∀ b o,s.heap.get? b=some o->h'.get? b=some o)->Q (.ref (s.heap.objs.size+1)) { s with heap:=h' }) :
  wpAny (model prog w) A (call (.type "enumerate") [.ref l] [("start",.int 1 t)]) Q E s:=by
 obtain⟨⟨c,D,d,sl⟩,a,f,n,hd⟩:=L
 replace f:c = .type "list" := f
 replace hd:d = .seq items n:=hd
 subst f hd;refine Im F.called_enumerate (by decide) (Zd _ _) (Ze _ _) (fun obj=>Zc obj _ _) F.entry_enumerate_new
  (XX l items n D sl t) ⟨a,?_⟩
 have H:(s.heap.push { cls:=.type "list_iterator",data:=.fields #[.ref l,.int 0 0] }).objs.size=s.heap.objs.size+1:=dS ..;show _/\_;rw[H]
 have i:IsEnum ((s.heap.push { cls:=.type "list_iterator",data:=.fields #[.ref l,.int 0 0] }).push
   { cls:=.type "enumerate",data:=.fields #[.none,.bool false,.ref s.heap.objs.size,rawInt 1,.none,.none] }) (s.heap.objs.size+1) s.heap.objs.size 1 .none:=by
  have:=Ab (s.heap.push { cls:=.type "list_iterator",data:=.fields #[.ref l,.int 0 0] })
   (o:={ cls:=.type "enumerate",data:=.fields #[.none,.bool false,.ref s.heap.objs.size,rawInt 1,.none,.none] }) rfl
  rw[H]at this;ext x
 refine⟨⟨_,i,rfl⟩,h _ i ⟨_,tO _ (Ab _ rfl),rfl,rfl⟩ (by rw[dS,H]) fun b o x=>tO _ (tO _ x)⟩
end
end PySem
namespace L2
open PySem PySem.Spec PyProof.Rows
def qG6(K:dN)(a:ar):It:=
 ⟨fun i H => ∃ xs x,jx K H a xs/\xs[i]? = some x,fun i H v h=>∃(t:ar)(x:V),v = .ref t/\H t=none/\(∀ xs,jx K H a xs->xs[i]? = some x)/\h=upd H t (.tup [.int ((i:Int)+1),x]),fun i H => ∃ xs,jx K H a xs/\xs.length<=i⟩
def Q0{P:ag}{w:ay}{K:dN}{es:aw Expr}{k:Nat}{pos:Pos}(a e q:ar):Turn P w K (.Tuple es k pos) (qG6 K a) [e,q] e (fun i h=>(∃ O,IsEnum h e q ((i+1:Nat):Int) O)/\h.IsListIter q a i) where
 mem:=by simp
 obj:=fun i h st b c=>by
  obtain⟨⟨O,d⟩,o,ho,J,hd⟩:=st;rcases jL.mp c with rfl | c
  .exact⟨_,d,fun v z=>by cases (show Data.fields _=Data.cell v from z)⟩
  .rw[vf.mp c];exact⟨o,ho,fun v z=>by rw[hd]at z;cases z⟩
 keep:=fun i h _ st k=>by
  obtain⟨⟨O,d⟩,m⟩:=st;exact⟨⟨O,k e (by simp) _ d⟩,m.at fun o z=>k q (by simp) o z⟩
 item:=by
  intro X hP Z hK J i f s σ H E I M st hg;subst hP Z hK;obtain⟨xs,x,m,Y⟩:=hg;obtain⟨l,rv,p,hz⟩:=I.list m;obtain⟨u,hu,ru⟩:=rv.get Y;obtain⟨⟨O,d⟩,t⟩:=st;have pt:=p.isList
  have naq:a≠q:=fun z=>by
   obtain⟨o1,B,r,_⟩:=pt;obtain⟨o2,G,c2,_⟩:=t;rw[z,G]at B
   cases B
   rw[c2]at r;injection r with r;exact d6 r (by decide)
  have n:e≠q:=fun z=>by
   obtain⟨o2,G,c2,_⟩:=t;rw[<-z]at G;have g3:=G.symm.trans d
   cases g3
   have C:Value.type "enumerate" = Value.type "list_iterator" := c2;injection C with C;exact d6 C (by decide)
  have nea:e≠a:=fun z=>by
   obtain⟨o1,B,r,_⟩:=pt;rw[<-z]at B;have g3:=B.symm.trans d
   cases g3
   have C:Value.type "enumerate" = Value.type "list" := r;injection C with C;exact d6 C (by decide)
  have D:=(Draws.list (prog:=X.prog) (w:=X.w) (A:=X.A.in1) (I.ok.hd J) q a naq l.toArray).shift
  have R:i<l.toArray.size:=by
   have:=(rO.mp hu).1
   simpa using this
  have j:H s.heap.objs.size=none:=I.hok.fresh (jC _);refine wpAny_pyNext_enum_itemD (i:=i+1) D d ⟨i,rfl,t,pt⟩ (Nat.succ_lt_succ R) n (by simp [n,nea]) fun y _ F hy' ho W hT _ hk=>?_;obtain⟨j0,ej0,T⟩:=hy';obtain rfl:i=j0:=hJ ej0;obtain⟨j1,U,S⟩:=W;obtain rfl:i+1=j1:=hJ U
  obtain rfl:y=u:=by
   rw[List.getElem?_toArray,hu]at T;exact (Jc T).symm
  refine⟨_,rfl,wpAny_letOwnedTupleGo_enum ho fun L Q sb=>?_⟩;have N:s.heap.objs.size≠e:=iL (rN d)
  have nsq:s.heap.objs.size≠q:=by
   obtain⟨o2,G,_⟩:=t;exact iL (rN G)
  have kk:∀ b o,b∉[e,q]->s.heap.get? b=some o->L.get? b=some o:=fun b o c g=>by
   have b1:b≠e:=fun z=>c (by simp [z]);have b2:b≠q:=fun z=>c (by simp [z]);exact (sb.2 b b1).trans (hk b o b1 b2 g)
  have I1:Inv X f σ H { s with heap:=L,toks:=F+1 }:=I.RW kk M
  have I2:Inv X f σ (upd H s.heap.objs.size (.tup [.int ((i:Int)+1),x])) { s with heap:=L,toks:=F+1 }:=by
   refine Inv.adopt I1 (I.LK (jC _) j) ⟨by show 2<=sizeLine;decide,[.int ((i+1:Nat):Int) F,y],.cons ⟨F,rfl⟩ (.cons ru .nil),?_⟩;exact⟨_,(sb.2 _ N).trans hT,rfl,_,rfl⟩
  refine⟨.ref s.heap.objs.size,_,I2,rfl,⟨_,x,rfl,j,fun _ T=>by rw[I.Nr T m];exact Y,rfl⟩,⟨⟨y,by have:=Q;simpa using this⟩,S.1.at fun o g=>(sb.2 q (Ne.symm n)).trans g⟩,fun b c=>?_⟩
  have nb:b≠s.heap.objs.size:=by
   rcases jL.mp c with rfl | c
   .exact bE N
   .rw[vf.mp c];exact bE nsq
  rw[zR nb];exact (M b c).1
 done:=by
  intro X hP Z hK J i f s σ H E I M st hg;subst hP Z hK;obtain⟨xs,m,Y⟩:=hg;obtain⟨l,rv,p,hz⟩:=I.list m;obtain⟨⟨O,d⟩,t⟩:=st;have hl:=rv.length;refine Uz (I.ok.hd J) d t p.isList (by simp;omega) fun L eb=>⟨rfl,?_⟩;exact I.RW (t':=s.toks) (fun b o c g=>eb b o (fun z=>c (by simp [z])) g) M
 self:=fun _ _ _ _ _ st h=>by
  obtain⟨⟨O,d⟩,_⟩:=st;exact wpAny_pyIter_enum d h
section
variable{X:Cx}{es:aw Expr}{k:Nat}{tpos:Pos}
def qCI(K:dN)(t:TA):TI:=fun σ H R=>t σ H fun vs h => ∃ a,vs=[.ref a]/\(∃ xs,jx K h a xs)/\R (qG6 K a) h
def W7{l:Expr}{T:TA}{p c:Pos}{j:Nat}{w A:Pos}(x:Gl X "enumerate")(B:X.mg "enumerate" = none)(n:PA X [l] T)(hs:starEach [l] X.env=[(false,eval l X.env)]:=by rfl):PI X (.Tuple es k tpos) (.Call (.Name "enumerate" p) [l] [⟨some "start",.Constant (.int 1) j A,w⟩] c) (qCI X.K T):=by
 intro P s σ H R I h;refine wpAny_Call_Name_kw (uG I x B boot_enumerate ?_);refine Ha (by rw[hs];rfl) rfl ?_;have g:=n c P s σ H _ I h;rw[hs]at g ⊢;refine PyProof.Rows.evalArgs_kwB rfl (bX g (fun _ S ⟨_,m,C,r,Q⟩=>?_) fun _ _ y=>y);ext aj;have i:=C.tok (S.toks+1);obtain⟨a,e,⟨_,o⟩,q⟩:=Q;ext l;obtain⟨u,rfl,U⟩:=vals1 r
 cases U
 obtain⟨_,_,p,_⟩:=i.list o;refine RC p.isList fun h' f t _ z=>?_;refine wpAny_pyIter_enum f ?_;have v:Inv X P σ m { S with heap:=h',toks:=S.toks+1 }:=i.kept (t':=S.toks+1) z;refine⟨S.heap.objs.size+1,[S.heap.objs.size+1,S.heap.objs.size],_,_,m,rfl,v,Q0 a _ _,⟨⟨.none,by simpa using f⟩,t⟩,fun b d=>?_,q⟩;rcases jL.mp d with rfl | d
 .exact i.LK (i0 _) (i.hok.fresh (i0 _))
 .rw[vf.mp d];ext j
end
section
variable{X:Cx}{body:aw Stmt}{h0:ExceptHandler}{hs:aw ExceptHandler}{pos:Pos}{t:TS}
theorem Yu(c:Pq X body t)(x:∀ e s,X.xe e s->False):PS X (.Try body (h0::hs) [] [] pos) t:=by
 ext av;refine wpAny_Try_except (bX (c p s σ H D I h) (fun f S q=>?_) fun e S q=>(x e S q).elim)
 cases f with
 | next=>exact wpAny_execs_nil q
 | brk=>exact q
 | cont=>exact q
 | ret u=>exact q
end
end L2
namespace zq
open PySem L2 YW DL
def Uv{C:ar}{f:Str}{e:FE}{fs:Ms}{m:Fm}{w:W}(i:e [.ob C fs] = .ok w)(c:w.fm = .ok m)(h:fs.length<1000)(p:ji f m fs=fs++[(f,m)]):w6 C 0 f e [.ob C fs] = .ok (.nx [.ob C (fs++[(f,m)])]):=by unfold w6;rw[i];show (w.fm.bind _)=_;rw[c];show (if C=C/\fs.length<1000/\_ then _ else _)=_;rw[cq ⟨rfl,h,rfl⟩,p];rfl
def lF{a b:FS}{ρ ρ':aw Sl}(h:a ρ = .ok (.nx ρ')):aU a b ρ=b ρ':=by unfold aU;rw[h];rfl
def ZM(a:ar):sU a [] [] = .ok (ZS,.non):=by show O6 a (Gh a [.ob a []])=_;unfold Gh;rw[lF (Uv (m:=.va (.str "")) rfl rfl (by decide) rfl),lF (Uv (m:=.li []) rfl rfl (by decide) (by rfl)),lF (Uv (m:=.li []) rfl rfl (by decide) (by rfl)),lF (Uv (m:=.li []) rfl rfl (by decide) (by rfl)),lF (Uv (m:=.li []) rfl rfl (by decide) (by rfl)),Uv (m:=.li []) rfl rfl (by decide) (by rfl)];show (if a=a then _ else _)=_;rw[cq rfl];rfl
section
variable{P:ag}{w:ay}{K:dN}{mg:Str->ax av}{base:Heap}
def xq:au ["text","draft","rows","number","row","e"] ["text"] (aV Jr):=km
theorem Z1{n:Nat}{C O f O8 M vW Sv:ar}{fd Oi J vZ T5:af}(F:iU K "read" "read" Jr f fd)
  (YD:cM P w K mg base bZ n O8 Oi ["self"] (Vr K C O (sU O) 1)) (Xv:Binds K Oi ["self"] []) (Wj:Mk K O O8) (ZD:mg "Draft" = some (.ref O))
  (qG7:cM P w K mg base bZ (n+1) M J ["self","row"] (Vr K C O (mD O) 2)) (qFX:Binds K J ["self","row"] []) (qC7:Meth K O "add" M)
  (Bl:cM P w K mg base bZ (n+1) vW vZ ["self"] (cI K C (iu O) 1)) (Bh:Binds K vZ ["self"] []) (wY:Meth K O "may_end" vW)
  (qA7:cM P w K mg base bZ (n+1) Sv T5 ["self"] (cI K C (o9 O) 1)) (qA2:Binds K T5 ["self"] []) (Wl:Meth K O "whole" Sv) (bM:Hk K O) (Np:mg "enumerate" = none) :
  cM P w K mg base bZ (n+2) f fd ["text"] (cI K C (tZ O) 1):=by
 refine F.ok xq (fun vs H Q E h=>h.1) fun _ A _ s H vs Q E hr h=>?_;obtain⟨_,B,ds,sb,Z,h⟩:=h
 have h':∃ x d,ds=[.str x]/\Mm O x = .ok d/\∀ v b g,bD H g->bD B b->bD b g->(∀ a o,b a=some o->B a=some o∨H a=none)->Rp K b d v->Q v g:=by
  cases e:tZ O ds with
  | st=>rw[e]at h;exact h.elim
  | ex=>exact absurd e (by unfold tZ;(repeat' split) <;> nofun)
  | ok d=>
   rw[e]at h;unfold tZ at e
   split at e
   .split at e
    .rename_i e1
     cases e
     exact⟨_,_,rfl,e1,h⟩
    .cases e
   .cases e
 clear h;obtain⟨x,dW,rfl,hd,h⟩:=h';obtain⟨v0,_,rfl,r0,rfl⟩:=Z
 cases (show v0=V.str x from r0)
 refine⟨_,(zE (zK (i:=1) xq.nd rfl (aT rfl) (W8 Wj YD hr rfl ZD Xv .nil yC))
  (zE (zK (i:=2) xq.nd rfl (aT rfl) (fu (r:=QS) d3 PySem.F.slot_str_split PySem.F.type_str_split Ng (pv 0) (zA zQ zD)))
  (zE (je PassesOwn.never rfl (W7 rfl Np (zA (pv 2) zD)) (qBR rfl (Mt (yH (i:=3) xq.nd rfl (aT rfl)) (Mt (yH (i:=4) xq.nd rfl (aT rfl)) Yv)))
  (zG (Yu (zG (yG (Rr (pv 1) bM qC7 qG7 hr qFX .nil yC (zA (pv 4) zD)))) fun _ _ z=>z)))
  (zE (yB (nT (gF (Fj (pv 1) bM wY Bl hr Bh .nil yC)))
  (zG uo)
  zU)
  (zG (zP (Fj (pv 1) bM Wl qA7 hr qA2 .nil yC))))))),?_⟩
 unfold Mm at hd
 by_cases hc:x.length<=sizeLine/\(Txt.split x "\n").length<=sizeLine
 rotate_left
 .rw[cn hc]at hd
  cases hd
 rw[cq hc]at hd;obtain⟨hx,hN⟩:=hc;generalize hrs:Txt.split x "\n" = rows at *
 let G:Gm:=⟨K,H,E,C,none⟩
 have o0:Own G (fun _=>none) H (DL.start 6 [.str x]) (L2.start ["text","draft","rows","number","row","e"] [.str x]):=Ah (K:=K) (H:=H) (B:=fun _=>none) (E:=E) (C:=C) (N:=["text","draft","rows","number","row","e"]) (ds:=[.str x]) (vs:=[.str x]) (fun _ _ z=>by cases z) ⟨_,_,rfl,rfl,rfl⟩ (by show 1<=6;decide)
 have e1:qAJ O 1 (u0 (sU O)) 1 aL (DL.start 6 [.str x]) = .ok (.nx [.fr (.str x),.ob O ZS,.no,.no,.no,.no]):=by
  have z:u0 (sU O) [] [] = .ok (ZS,.non):=by unfold u0;rw[ZM]
  show ((u0 (sU O) [] []).bind _)=_;rw[z];rfl
 have e2:aW 2 (fM "str" QB (aF 0) (aD (fC (.str "\n")) aL)) [.fr (.str x),.ob O ZS,.no,.no,.no,.no] = .ok (.nx [.fr (.str x),.ob O ZS,.fr (.lst (rows.map D.str)),.no,.no,.no]):=by
  have z:QB (.str x) [.str "\n"] = .ok (.ow (rows.map D.str)):=by
   show (if _ then _ else _)=_;rw[hrs,cq ⟨by ext y,hx,hN⟩]
  show ((QB (.str x) [.str "\n"]).bind _)=_;rw[z];rfl
 refine Zi (G:=G) rfl rfl aJ _ H _ _ _ o0 ?_;rw[e1];intro σ1 B1 H1 o1 x1;refine aR (G:=G) (qu Nk (aB 0) (aA aZ aJ)) B1 H1 _ σ1 _ o1 ?_;rw[e2];intro σ2 B2 _ o2 x2;obtain⟨_,ev,p,vs,rfl,Bp,Z⟩:=o2.fr 2 (.lst (rows.map D.str)) rfl
 have L:vs.length=rows.length:=by rw[Z.len,fH]
 have h0:∃ fs,qj O (rows.map D.str) ZS = .ok fs/\Xa O fs = .ok dW:=by
  split at hd
  .rename_i fs e
   exact⟨fs,e,hd⟩
  .cases hd
 obtain⟨R,hL,c⟩:=h0
 refine⟨.ref p,ev,p,rfl,⟨vs,jx.of (o2.sb _ _ Bp)⟩,fun i m σ3 H3 => ∃ X fs I l,Own G X H3 [.fr (.str x),.ob O fs,.fr (.lst (rows.map D.str)),I,l,.no] σ3/\Hn G B2 X/\I.nb=true/\l.nb=true/\m+i=rows.length/\qj O ((rows.map D.str).drop i) fs = .ok R,
  ⟨rows.length,B2,ZS,_,_,o2,Hn.refl _ _,rfl,rfl,rfl,hL⟩,fun i m σ3 H3 ⟨X,fs,I,l,W,Y,_,_,hm,j⟩=>?_⟩
 have S:jx K H3 p vs:=jx.of (W.sb _ _ (Y.sb _ _ Bp))
 by_cases hi:i<rows.length
 .refine .inr ⟨?_,_,fun σ' g w=>⟨m-1,by omega,w⟩,?_⟩
  .exact⟨vs,_,S,wF (by rw[L];exact hi)⟩
  rintro _ g ⟨t,y,rfl,ht,hy,rfl⟩;have ey:=hy vs S;obtain⟨d,ed,rd⟩:=Z.at ey
  have hlt:i<(rows.map D.str).length:=by rw[fH];exact hi
  have ed':(rows.map D.str).drop i=d::(rows.map D.str).drop (i+1):=by
   rw[eL hlt];congr 1;exact (rO.mp ed).2
  rw[ed',qj]at j
  split at j
  rotate_left
  .cases j
  rename_i T
  split at j
  rotate_left
  .cases j
  rename_i r er
  obtain⟨o4,x4⟩:=W.lay ht (.tup [.int ((i:Int)+1),y]);refine qH1 (is:=[3,4]) (G:=G) _ _ _ _ (.tup [.int ((i:Int)+1),d]) (.ref t) [.fr (.str x),.ob O fs,.fr (.lst (rows.map D.str)),.fr (.int ((i:Int)+1)),.fr d,.no] _ o4 ⟨t,_,rfl,.inl (.inl zC),_,_,rfl,rfl,_,_,rfl,rd.mono (Y.sb.trans x4.sb),rfl⟩ rfl fun σ4 o5=>?_;obtain⟨a,ea,dx,bQ,e0,_,_,r5,nd⟩:=o5.ob 1 O fs rfl;obtain⟨v4,ev4,rv4⟩:=o5.fr 4 d rfl;refine⟨.ref a,ea,a,dx,bQ,rfl,e0,r5.look.2.2 T,v4,ev4,?_⟩
  dsimp only[Hq,eJ,gL]
  refine qAT (G:=G) (B:=upd X t (.tup [.int ((i:Int)+1),y])) o5 (Hn.refl _ _) rfl ea rfl (ds:=[d]) (vs:=[v4]) ⟨v4,[],rfl,rv4,rfl⟩ rfl (fun k=>?_) (fun k g _ _=>?_) fun fs' _ k v b g o' x' _=>?_
  .rw[er]at k
   cases k
  .rw[er]at k
   cases k
  .rw[er]at k
   cases k
   exact⟨b,fs',_,_,o',(Y.trans (x4.s W)).trans x',rfl,rfl,by omega,j⟩
 .refine .inl ⟨⟨vs,S,by omega⟩,?_⟩;rw[List.drop_eq_nil_of_le (by rw[fH];omega),qj]at j;obtain rfl:fs=R:=Rz.ok.inj j;unfold Xa at c
  split at c
  rotate_left
  .cases c
  rename_i hz
  have em:∀ (m:Str) (F:aw D->Rz D) r,fs.lookup m=none->F [WW O fs] = .ok r->r.nl=true->OJ O m (bU F) 1 (aF 1) aL [.fr (.str x),.ob O fs,.fr (.lst (rows.map D.str)),I,l,.no] = .ok (.fr r):=fun m F r hm e hn=>by
   show (if O=O/\fs.lookup m=none then _ else _)=_;rw[cq ⟨rfl,hm⟩];show ((bU F [WW O fs]).bind _)=_
   have z:bU F [WW O fs] = .ok r:=by unfold bU;rw[e]
   rw[z];show (if _∨r.nl=true then _ else _)=_;rw[cq (.inr hn)]
  split at c
  rotate_left
  .cases c
  rename_i eb
  split at c
  rotate_left
  .cases c
  rename_i dX eW
  split at c
  rotate_left
  .cases c
  rename_i hn
  cases c
  have e8:vD (aQ (OJ O "may_end" (bU (iu O)) 1 (aF 1) aL)) [.fr (.str x),.ob O fs,.fr (.lst (rows.map D.str)),I,l,.no] = .ok false:=by
   show ((OJ O "may_end" (bU (iu O)) 1 (aF 1) aL _).bind _).bind _=_;rw[em "may_end" _ _ hz.1 eb rfl];rfl
  dsimp only[Vi,qBI]
  refine (nW (pU (Lb (G:=G) rfl (aB 1) aJ))) X H3 _ σ3 _ W ?_;rw[e8];intro B4 H4 o4 x4
  have e9:bO (OJ O "whole" (bU (o9 O)) 1 (aF 1) aL) [.fr (.str x),.ob O fs,.fr (.lst (rows.map D.str)),I,l,.no] = .ok (.ret dW (some [.fr (.str x),.ob O fs,.fr (.lst (rows.map D.str)),I,l,.no])):=by
   show ((OJ O "whole" (bU (o9 O)) 1 (aF 1) aL _).bind _)=_;rw[em "whole" _ _ hz.2 eW hn];rfl
  show qBH (MT O "whole" (cI K C (o9 O) 1) [] E0 (Jk 1) Hq) _ σ3 H4;refine ao (G:=G) (Lb rfl (aB 1) aJ) B4 H4 _ σ3 _ o4 ?_;rw[e9];intro v b g s0 Tr xs _ rp
  have sB':bD (fun a=>(B a).or (b a)) g:=fun a o z=>by
   replace z:(B a).or (b a)=some o:=z
   cases e:B a with
   | some u=>rw[show (B a).or (b a)=some u by rw[e];rfl]at z;cases z;exact s0 _ _ (sb _ _ e)
   | none=>rw[show (B a).or (b a)=b a by rw[e];rfl]at z;exact Tr _ _ z
  refine h v (fun a=>(B a).or (b a)) g s0 (fun a o e=>by show (B a).or (b a)=_;rw[e];rfl) sB' (fun a o z=>?_) (S7 (fun a _ t=>?_) hn rp)
  .replace z:(B a).or (b a)=some o:=z
   cases e:B a with
   | some u=>rw[show (B a).or (b a)=some u by rw[e];rfl]at z;cases z;exact .inl rfl
   | none=>
    rw[show (B a).or (b a)=b a by rw[e];rfl]at z;exact .inr ((((x1.trans x2).trans Y).trans (x4.s W) |>.trans xs).gr a o z |>.elim (fun q=>by cases q) id)
  .have U:∀ u,b a=some u->(B a).or (b a)=some u:=fun u e=>by
    cases z:B a with
    | none=>exact e
    | some u'=>
     have:=s0 _ _ (sb _ _ z);rw[Tr _ _ e]at this
     cases this
     rfl
   rcases t with (t | ⟨o,t⟩) | t
   .exact .inl (.inl (U _ t))
   .exact .inl (.inr ⟨o,U _ t⟩)
   .exact .inr t
end
def pB{α β:Type}(a:α)(f:α->Rz β):(Rz.ok a).bind f=f a:=rfl
section
variable{ρ ρ':aw Sl}{d e:D}{w x y:W}{ws:aw W}{f g:FE}{a b:FS}{c c':FT}{r:FA}{p q:Bool}
def dF(h:f ρ = .ok w)(H:r ρ = .ok ws):aD f r ρ = .ok (w.a::ws):=by unfold aD;rw[h,pB,H];rfl
def iQ(h:r ρ = .ok ws)(D:F (ws.map W.d) = .ok d)(H:ws.length=n)(hd:ws.all W.rst=true∨d.nl=true):aP (bU F) n r ρ = .ok (.fr d):=by unfold aP bU;rw[h,pB,cq H,D];show (if _ then _ else _)=_;rw[cq hd]
def zc(h:f ρ = .ok w)(c:w.d = .bl p):aQ f ρ = .ok p:=by unfold aQ;rw[h,pB,c];rfl
def R1(h:c ρ = .ok p):vD c ρ = .ok (!p):=by unfold vD;rw[h];rfl
theorem Uw(h:c ρ = .ok p)(H:p=true->c' ρ = .ok q):jK c c' ρ = .ok (p&&q):=by
 unfold jK;rw[h]
 cases p with
 | true=>exact H rfl
 | false=>rfl
theorem O9(h:c ρ = .ok p)(H:p=false->c' ρ = .ok q):Sx c c' ρ = .ok (p||q):=by
 unfold Sx;rw[h]
 cases p with
 | true=>rfl
 | false=>exact H rfl
def M9(h:f ρ = .ok (.fr (.bl p))):ie f ρ = .ok (.fr (.bl (!p))):=by unfold ie;rw[h];rfl
theorem Ux(h:f ρ = .ok (.fr (.bl p)))(H:p=true->g ρ = .ok (.fr (.bl q))):lq f g ρ = .ok (.fr (.bl (p&&q))):=by
 unfold lq;rw[h]
 cases p with
 | true=>exact H rfl
 | false=>rfl
theorem fOV(h:f ρ = .ok (.fr (.bl p)))(H:p=false->g ρ = .ok (.fr (.bl q))):Gy f g ρ = .ok (.fr (.bl (p||q))):=by
 unfold Gy;rw[h]
 cases p with
 | true=>rfl
 | false=>exact H rfl
def fO(d:f ρ = .ok x)(c:g ρ = .ok y)(h:o x.d y.d=z):aK o f g ρ=z:=by unfold aK;rw[d,pB,c];exact h
def eE(h:f ρ = .ok w)(b:w.z = .ok d):aW i f ρ = .ok (.nx (ρ.set i (.fr d))):=by unfold aW;rw[h,pB,b];rfl
def xY(h:r ρ = .ok ws)(b:zL ws = .ok l)(f:l.length<=1000):dR r ρ = .ok (.fr (.tup l)):=by unfold dR;rw[h,pB,b,pB,cq (zI f)]
def kZ(h:f ρ = .ok w)(c:w.a.d = .bl true):iW (aP (bU cL) 1 (aD f aL)) ρ = .ok (.nx ρ):=by unfold iW;rw[iQ (n:=1) (dF (r:=aL) h rfl) (d:=.non) (by show cL [w.a.d]=_;rw[c];rfl) rfl (.inr rfl)];rfl
def Hl(h:c ρ = .ok true):eV c a b ρ=a ρ:=by unfold eV;rw[h];rfl
def M8(h:c ρ = .ok false):eV c a b ρ=b ρ:=by unfold eV;rw[h];rfl
def ieT(h:c ρ = .ok true):YS c f g ρ=f ρ:=by unfold YS;rw[h];rfl
def ieF(h:c ρ = .ok false):YS c f g ρ=g ρ:=by unfold YS;rw[h];rfl
def j9(h:f ρ = .ok w)(j:w.out = .ok d):fin (bO f ρ) = .ok d:=by unfold bO;rw[h,pB,j];rfl
def QG(h:a ρ = .ok (.ret z o)):aU a b ρ = .ok (.ret z o):=by unfold aU;rw[h];rfl
def JQ(h:f ρ = .ok w)(c:w.a.d = .lst l∨w.a.d = .tup l):dY cY (aD f aL) ρ = .ok (.fr (.int l.length)):=by unfold dY;rw[dF h rfl,pB];show cY [w.a.d]=_;rcases c with e | e <;> rw[e] <;> rfl
def fLs(h:f ρ = .ok w)(c:w.a.d = .str z)(H:z.length<=sizeLine):dY cY (aD f aL) ρ = .ok (.fr (.int z.length)):=by unfold dY;rw[dF h rfl,pB];show cY [w.a.d]=_;rw[c];exact cq H
def XR(h:f ρ = .ok w)(c:w.a.d = .lst l∨w.a.d = .tup l):dY vg (aD f aL) ρ = .ok (.fr (.tup l)):=by unfold dY;rw[dF h rfl,pB];show vg [w.a.d]=_;rcases c with e | e <;> rw[e] <;> rfl
def vo(h:0<j):bL (.int i) (.int j) = .ok (.fr (.int (i%j))):=cq (bq h)
def qH0(h:0<j/\j<1073741824):cC (.int i) (.int j) = .ok (.fr (.int (i/j))):=cq (bq (show YH i j from h))
def pN(h:M6 i j):jJ (.int i) (.int j) = .ok (.fr (.int (i*j))):=cq h
def zz{l:aw D}{i:Nat}(h:l[i]? = some d):bF (.lst l) (.int i) = .ok (.fr d)/\bF (.tup l) (.int i) = .ok (.fr d):=by
 have z:xZ l (i:Int)=some d:=by
  have:=(rO.mp h).1;unfold xZ Nz;ext bf;exact h
 constructor <;> (show Uj (xZ l (i:Int))=_;rw[z];rfl)
def ixE(l:aw D):bF (.lst (l++[d])) (.int (-1)) = .ok (.fr d):=by
 have z:xZ (l++[d]) (-1)=some d:=by
  unfold xZ Nz;rw[cn (by decide),cq (by rw[fA];simp;omega)];show (l++[d])[(-1+((l++[d]).length:Int)).toNat]? = some d;rw[show (-1+((l++[d]).length:Int)).toNat=l.length by rw[fA];simp;omega];simp
 show Uj (xZ (l++[d]) (-1))=_;rw[z];rfl
theorem X3(ng:Bool)(x:Str)(z:aw Str):X4 ng (.str x) (z.map D.str) = .ok (.fr (.bl (z.contains x != ng))):=by
 unfold X4;rw[cq ⟨rfl,by rw[List.all_map,eC];exact fun _ _=>rfl⟩];congr 4;rw[List.any_map]
 induction z with
 | nil=>rfl
 | cons y z I=>
  rw[eD,List.contains_cons,I];congr 1;exact Bool.beq_comm
theorem qBA{c:FT}{e:FE}{cs:aw Sl}{h:D->D}:∀ {ds:aw D},(∀ d∈ds,c (.fr d::cs) = .ok true)->(∀ d∈ds,e (.fr d::cs) = .ok (.fr (h d)))->ig c e cs ds = .ok (ds.map h)
 | [],_,_=>rfl
 | d::ds,b,a=>by
  rw[ig,b d qK,pB,cq rfl,a d qK,pB];show (ig c e cs ds).bind _=_;rw[qBA (fun x H=>b x (rM _ H)) (fun x H=>a x (rM _ H))];rfl
def fCm{i:FI}{cX:aw (Nat×Str)}{h:D->D}{ds:aw D}(e:i ρ = .ok ds)(H:ds.length<=sizeLine)(b:∀ d∈ds,c (.fr d::rK cX ρ) = .ok true)(a:∀ d∈ds,f (.fr d::rK cX ρ) = .ok (.fr (h d))):gQ i cX c f ρ = .ok (.ow (ds.map h)):=by unfold gQ;rw[e,pB,cq H,qBA b a];rfl
end
theorem qCO(st:α->aw Sl)(P:Nat->α->Prop):∀(ds:aw D)(k:Nat)(a:α),P k a->(∀ i d a,ds[i]? = some d->P (k+i) a->∃ ρ1 A,b d (st a)=some ρ1/\g ρ1 = .ok (.nx (st A))/\P (k+i+1) A)->∃ A,vq b g ds (st a) = .ok (.nx (st A))/\P (k+ds.length) A
 | [],k,a,h,_=>⟨a,rfl,h⟩
 | d::ds,k,a,h,s=>by
  obtain⟨ρ1,a1,E,e,f⟩:=s 0 d a rfl h;rw[vq,E]
  dsimp only
  rw[e,pB]
  obtain⟨a2,U,c⟩:=qCO st P ds (k+1) a1 f fun i x a H p=>by
   have:=s (i+1) x a H (by rw[show k+(i+1)=k+1+i by omega];exact p);rw[show k+(i+1)+1=k+1+i+1 by omega]at this;ext x
  exact⟨a2,U,by rw[gH,show k+(ds.length+1)=k+1+ds.length by omega];exact c⟩
end zq
namespace Pk
open PySem L2
def ext{a b:Str}(e:a.cps.toList=b.cps.toList):a=b:=by obtain⟨⟨a⟩⟩:=a;obtain⟨⟨b⟩⟩:=b;simp only at e;rw[e]
theorem picked(l:aw Nat)(a:Nat):∀ n,a+n<=l.length->((List.range n).map fun i=>a+i).filterMap (fun i=>l[i]?)=(l.drop a).take n
 | 0,_=>by simp
 | n+1,h=>by
  rw[hG,vd,List.filterMap_append,picked l a n (by omega),qD2];congr 1;rw[List.getElem?_drop]
  have e:a+n<l.length:=by omega
  simp [List.getElem?_eq_getElem e]
def range_one(a b:Nat):sliceRange (a:Int) (b:Int) 1=(List.range (b-a)).map fun i=>a+i:=by
 unfold sliceRange;simp only[show (1:Int)>0 by decide,if_true]
 have e:(if (a:Int)<(b:Int) then ((b:Int)-a+1-1)/1 else 0).toNat=b-a:=by
  split
  .rw[Int.ediv_one];omega
  .omega
 rw[e];refine fS fun i _=>?_;omega
def qAY(lo e:ax Int)(n a b:Nat)(d:(match lo with | none=>(0:Int) | some i=>max 0 (min (if i<0 then i+(n:Int) else i) (n:Int)):Int)=(a:Int))(c:(match e with | none=>(n:Int) | some i=>max 0 (min (if i<0 then i+(n:Int) else i) (n:Int)):Int)=(b:Int)) :
  Builtin.Str.strSliceIndices lo e 1 n=(List.range (b-a)).map fun i=>a+i:=by
 rw[<-range_one,<-d,<-c];unfold Builtin.Str.strSliceIndices
 cases lo <;> cases e <;> rfl
def Mi(z:Str)(lo h:ax Int)(a b:Nat)(c:a<=b)(H:b<=z.cps.size)(e:Builtin.Str.strSliceIndices lo h 1 z.length=(List.range (b-a)).map fun i=>a+i):(Txt.slice z lo h).cps.toList=(z.cps.toList.drop a).take (b-a):=by
 have f:z.length=z.cps.toList.length:=by simp [Str.length]
 have p:=picked z.cps.toList a (b-a) (by simp;omega);unfold Txt.slice;rw[e]
 split
 .rename_i q
  simp only[BEq.rfl,Bool.true_and,beq_iff_eq,List.length_map,List.length_range]at q;have d:z.length=z.cps.size:=rfl
  have j:a=0:=by omega
  subst j;rw[List.drop_zero,List.take_of_length_le (by simp;omega)]
 .rw[<-p];simp
def QD(z:Str){k:Int}(h:0<=k):(Txt.slice z none (some k)).cps.toList=z.cps.toList.take k.toNat:=by
 have f:z.length=z.cps.size:=rfl;rw[Mi z none (some k) 0 (min k.toNat z.cps.size) (Nat.zero_le _) (Nat.min_le_right _ _) (qAY _ _ _ _ _ rfl (by simp only[if_neg (show ¬ k<0 by omega)];omega))];rw[eP,iS]
 by_cases q:k.toNat<=z.cps.size
 .rw[ip q]
 .rw[Nat.min_eq_right (by omega),List.take_of_length_le (by simp),List.take_of_length_le (by simp;omega)]
def Ez(z:Str){k:Int}(h:0<=k):(Txt.slice z (some k) none).cps.toList=z.cps.toList.drop k.toNat:=by
 have f:z.length=z.cps.size:=rfl;rw[Mi z (some k) none (min k.toNat z.cps.size) z.cps.size (Nat.min_le_right _ _) (Nat.le_refl _) (qAY _ _ _ _ _ (by simp only[if_neg (show ¬ k<0 by omega)];omega) rfl)]
 by_cases q:k.toNat<=z.cps.size
 .rw[Nat.min_eq_left q,List.take_of_length_le (by simp)]
 .rw[Nat.min_eq_right (by omega),List.drop_of_length_le (by simp),List.drop_of_length_le (by simp;omega)];simp
theorem Ex(z:Str)(c:Nat):Txt.startswith z ⟨#[c]⟩=decide (z.cps.toList.head? = some c):=by
 obtain⟨⟨l⟩⟩:=z;unfold Txt.startswith Builtin.Str.subAt
 cases l with
 | nil=>rfl
 | cons d l=>
  have e:(#[c]:Array Nat).size=1:=rfl;simp only[Str.length,e]
  by_cases q:d=c
  .subst q;simp
  .simp [q]
end Pk
namespace qJ
open PySem L2 Pk
def gJ(c:Nat):aw Nat->aw (aw Nat)
 | []=>[[]]
 | x::xs=>if x=c then []::gJ c xs else match gJ c xs with
  | []=>[[x]]
  | w::ws=>(x::w)::ws
def jc(c:Nat):aw (aw Nat)->aw Nat
 | []=>[]
 | w::ws=>w++ws.flatMap fun v=>c::v
def pre(l:aw Nat):aw (aw Nat)->aw (aw Nat)
 | []=>[l]
 | w::ws=>(l++w)::ws
theorem rR(c:Nat)(l:aw Nat):gJ c l≠[]:=by
 cases l with
 | nil=>simp [gJ]
 | cons x xs=>
  unfold gJ
  split
  .simp
  .split <;> simp
def Bt{c x:Nat}(h:x≠c)(l:aw Nat):gJ c (x::l)=pre [x] (gJ c l):=by
 rw[gJ,cn h]
 cases gJ c l <;> rfl
theorem Ro(a b:aw Nat){l:aw (aw Nat)}(h:l≠[]):pre a (pre b l)=pre (a++b) l:=by
 cases l with
 | nil=>exact d6 rfl h
 | cons w ws=>simp [pre]
theorem K3{l:aw (aw Nat)}(h:l≠[]):pre [] l=l:=by
 cases l with
 | nil=>exact d6 rfl h
 | cons w ws=>rfl
theorem Ey{c:Nat}{w:aw Nat}(h:c∉w)(l:aw Nat):gJ c (w++l)=pre w (gJ c l):=by
 induction w with
 | nil=>rw[gL,K3 (rR c l)]
 | cons x w I=>
  have H:x≠c:=fun e=>h (by rw[e];exact qK);rw[eJ,Bt H,I (fun m=>h (rM _ m)),Ro _ _ (rR c l)];rfl
def Q9{c:Nat}{w:aw Nat}(h:c∉w):gJ c w=[w]:=by have:=Ey h [];rw[qH]at this;rw[this];show [w++[]]=[w];rw[qH]
def Iz(c:Nat)(l:aw Nat):gJ c (c::l)=[]::gJ c l:=by rw[gJ,cq rfl]
def Mh{c:Nat}{w:aw Nat}(h:c∉w)(l:aw Nat):gJ c (w++c::l)=w::gJ c l:=by rw[Ey h,Iz];show (w++[])::_=_;rw[qH]
def Ny(c:Nat)(w v:aw Nat)(ws:aw (aw Nat)):jc c (w::v::ws)=w++c::jc c (v::ws):=by show w++((c::v)++ws.flatMap _)=w++c::(v++_);rfl
theorem wI{c:Nat}:∀ {ws:aw (aw Nat)},ws≠[]->(∀ w∈ws,c∉w)->gJ c (jc c ws)=ws
 | [],h,_=>d6 rfl h
 | [w],_,h=>by
  show gJ c (w++[])=[w];rw[qH];exact Q9 (h w qK)
 | w::v::ws,_,h=>by
  rw[Ny,Mh (h w List.mem_cons_self),wI (by simp) (fun x H=>h x (List.mem_cons_of_mem _ H))]
theorem JL(g:Array Nat):∀(ws:aw Str)(a:Array Nat),(ws.foldl (fun A p=>A++g++p.cps) a).toList=a.toList++ws.flatMap fun p=>g.toList++p.cps.toList
 | [],a=>by simp
 | w::ws,a=>by
  rw[fo,JL g ws];simp [List.append_assoc]
theorem join_list{s:Str}{c:Nat}(hs:s.cps.toList=[c])(ws:aw Str):(Txt.join s ws).cps.toList=jc c (ws.map fun z=>z.cps.toList):=by
 show ((ws.drop 1).foldl (fun A p=>A++s.cps++p.cps) (ws.headD Str.empty).cps).toList=_;rw[JL,hs]
 cases ws with
 | nil=>rfl
 | cons w ws=>
  show w.cps.toList++ws.flatMap (fun p=>[c]++p.cps.toList)=w.cps.toList++(ws.map fun z=>z.cps.toList).flatMap fun v=>c::v;congr 1
  induction ws with
  | nil=>rfl
  | cons x ws I=>rw[fg,bt,fg,I];rfl
def jl(l:aw Nat)(c p n:Nat):aw Nat:=(List.range' p n).filter fun i=>l[i]?==some c
def subAt_one(x s:Str)(c:Nat)(hs:s.cps = #[c])(i:Nat)(h:i<x.cps.size):Builtin.Str.subAt x s i=(x.cps.toList[i]?==some c):=by
 unfold Builtin.Str.subAt
 have e:x.cps.extract i (i+s.length) = #[x.cps[i]]:=by
  have:s.length=1:=by show s.cps.size=1;rw[hs];rfl
  rw[this];apply Array.ext';rw[Array.toList_extract];simp [List.extract,List.take_one,List.head?_drop,h]
 rw[e,hs]
 have E:x.cps.toList[i]? = some x.cps[i]:=by simp [h]
 rw[E];rw[dQ];simp
theorem wM{β:Type}(f:Nat->β->β)(g:Nat->β->Id (ForInStep β))(h:∀ i b,g i b=pure (.yield (f i b))):∀(l:aw Nat)(b:β),(forIn (m:=Id) l b g)=pure (l.foldl (fun b i=>f i b) b)
 | [],b=>rfl
 | x::l,b=>by
  rw[List.forIn_cons,h];show forIn l (f x b) g=_;rw[wM f g h l];rfl
def Bs(x s:Str)(i:Nat)(b:Array Nat×Nat):Array Nat×Nat:=if (decide (b.1.size<x.length+1)&&decide (b.2<=i)&&decide (i+s.length<=x.length)&&Builtin.Str.subAt x s i)=true then (b.1.push i,i+s.length) else b
theorem Ru(x s:Str)(c:Nat)(hs:s.cps = #[c]):∀ k,k<=x.length->∃ fr,fr<=k/\(List.range' 0 k).foldl (fun b i=>Bs x s i b) ((#[]:Array Nat),0)=((jl x.cps.toList c 0 k).toArray,fr)
 | 0,_=>⟨0,jC _,rfl⟩
 | k+1,h=>by
  have f:s.length=1:=by show s.cps.size=1;rw[hs];rfl
  have n:x.length=x.cps.size:=rfl;obtain⟨fr,a,d⟩:=Ru x s c hs k (by omega)
  have g:(jl x.cps.toList c 0 k).length<=k:=by
   unfold jl;have:=qGB (fun i=>x.cps.toList[i]?==some c) (List.range' 0 k);rw[List.length_range']at this;ext x
  have q:jl x.cps.toList c 0 (k+1)=jl x.cps.toList c 0 k++(if (x.cps.toList[k]?==some c)=true then [k] else []):=by
   unfold jl;rw[h7,List.filter_append,j2];congr 1;simp only[List.filter_cons,List.filter_nil]
  rw[h7,fk,d,q]
  have e:Bs x s k ((jl x.cps.toList c 0 k).toArray,fr)=if (x.cps.toList[k]?==some c)=true then ((jl x.cps.toList c 0 k).toArray.push k,k+1) else ((jl x.cps.toList c 0 k).toArray,fr):=by
   unfold Bs;rw[subAt_one x s c hs k (by omega),f,w5,bq (show (jl x.cps.toList c 0 k).length<x.length+1 by omega),bq (show fr<=k from a),bq (show k+1<=x.length by omega)];rfl
  ext u;rw[e]
  by_cases H:(x.cps.toList[k]?==some c)=true
  .rw[cq H,cq H];exact⟨k+1,Nat.le_refl _,by simp⟩
  .rw[cn H,cn H];exact⟨fr,by omega,by simp⟩
def occ_eq(x s:Str)(c:Nat)(hs:s.cps = #[c]):Builtin.Str.occurrences x s 0 x.length (x.length+1)=jl x.cps.toList c 0 x.length:=by
 have f:s.length=1:=by show s.cps.size=1;rw[hs];rfl
 show (forIn (m:=Id) [:x.length+1] ((#[]:Array Nat),(0:Nat)) (fun (i:Nat) b=>if (decide (b.1.size<x.length+1)&&decide (b.2<=i)&&decide (i+s.length<=x.length)&&Builtin.Str.subAt x s i)=true then pure (.yield (b.1.push i,i+s.length)) else pure (.yield (b.1,b.2)))).1.toList=_;ext o;rw[wM (Bs x s) _ (fun i b=>by unfold Bs;split <;> rfl)];show ((List.range' 0 (x.length+1)).foldl (fun b i=>Bs x s i b) (#[],0)).1.toList=_;obtain⟨fr,_,H⟩:=Ru x s c hs x.length (jC _);rw[h7,fk,H];ext u
 have e:Bs x s x.length ((jl x.cps.toList c 0 x.length).toArray,fr)=((jl x.cps.toList c 0 x.length).toArray,fr):=by
  unfold Bs;rw[f,bg (show ¬ x.length+1<=x.length by omega),dA,Bool.false_and];rfl
 rw[e]
def mk(l:aw Nat):Str:=⟨l.toArray⟩
def Ae(x:Str)(i j:Nat):Builtin.Str.strSub x i j=mk ((x.cps.toList.drop i).take (j-i)):=by apply Pk.ext;show (x.cps.extract i j).toList=((x.cps.toList.drop i).take (j-i)).toArray.toList;rw[Array.toList_extract]
theorem Am(x:Str)(c:Nat):∀(k p q:Nat),p+k=x.length->q<=p->((q::(jl x.cps.toList c p k).map (· + 1)).zip (jl x.cps.toList c p k++[x.length])).map (fun (i,j)=>Builtin.Str.strSub x i j)=(pre ((x.cps.toList.drop q).take (p-q)) (gJ c (x.cps.toList.drop p))).map mk
 | 0,p,q,h,a=>by
  have d:x.length=x.cps.toList.length:=by simp [Str.length]
  have e:jl x.cps.toList c p 0=[]:=rfl;rw[e,eM (by omega:x.cps.toList.length<=p)];show [Builtin.Str.strSub x q x.length]=[mk (_++[])];rw[Ae,qH,<-h,Nat.add_zero]
 | k+1,p,q,h,a=>by
  have d:x.length=x.cps.toList.length:=by simp [Str.length]
  have H:p<x.cps.toList.length:=by omega
  have m:x.cps.toList.drop p=x.cps.toList[p]::x.cps.toList.drop (p+1):=eL H
  have E:jl x.cps.toList c p (k+1)=if x.cps.toList[p]=c then p::jl x.cps.toList c (p+1) k else jl x.cps.toList c (p+1) k:=by
   unfold jl;rw[List.range'_succ,List.filter_cons,wF H];simp
  rw[E,m]
  by_cases f:x.cps.toList[p]=c
  .rw[cq f,f,Iz];have I:=Am x c k (p+1) (p+1) (by omega) (jC _);rw[iP,List.take_zero,K3 (rR _ _)]at I;show Builtin.Str.strSub x q p::_=mk (_++[])::(gJ c (x.cps.toList.drop (p+1))).map mk;rw[qH,Ae,<-I];rfl
  .rw[cn f,Bt f,Ro _ _ (rR _ _),Am x c k (p+1) q (by omega) (by omega)];congr 2;rw[show p+1-q=(p-q)+1 by omega,qD2,List.getElem?_drop,show q+(p-q)=p by omega,wF H];rfl
def Mg{x s:Str}{c:Nat}(hs:s.cps = #[c])(d:c<256):Txt.split x s=(gJ c x.cps.toList).map mk:=by
 have f:s.length=1:=by show s.cps.size=1;rw[hs];rfl
 have n:x.length=x.cps.toList.length:=by simp [Str.length]
 have k:Builtin.Str.strKind s=1:=by
  unfold Builtin.Str.strKind;rw[hs,if_pos (by simp [d])]
 have b:¬ Builtin.Str.strKind x<1:=by
  unfold Builtin.Str.strKind
  split
  .decide
  .split <;> decide
 have H:=Am x c x.length 0 0 (by omega) (jC _);rw[iP,List.take_zero,eP,K3 (rR _ _)]at H
 have a:mk x.cps.toList=x:=by
  apply Pk.ext;simp [mk]
 unfold Txt.split;rw[occ_eq x s c hs,f,k,bg b,Bool.or_false]
 split
 .rename_i h
  have g:x.length=0:=by
   have:=aS h;omega
  have e:x.cps.toList=[]:=List.length_eq_zero_iff.mp (by omega);rw[e]at a ⊢;rw[<-a];rfl
 .split
  .rename_i h
   have e:jl x.cps.toList c 0 x.length=[]:=List.isEmpty_iff.mp h;rw[e]at H;rw[<-H];show [x]=[Builtin.Str.strSub x 0 x.length];rw[Ae,eP,iS,zl9 (by omega),a]
  .exact H
def QC:(" " : Str).cps = #[32]:=by ext y
def noC(c:Nat)(z:Str):Prop:=c∉z.cps.toList
def Mf{z:Str}{ws:aw Str}(h:z.cps.toList=jc 32 (ws.map fun y=>y.cps.toList))(a:ws≠[])(c:∀ y∈ws,noC 32 y):Txt.split z " " = ws:=by
 rw[Mg QC (by decide),h,wI (by simpa using a) (fun w H=>by
  obtain⟨y,T,rfl⟩:=rA.mp H
  exact c y T),fT]
 have:∀ y:Str,(mk ∘ fun y:Str=>y.cps.toList) y=y:=fun y=>by
  apply Pk.ext;simp [mk]
 rw[fS (g:=id) (fun y _=>this y),List.map_id]
def Ew(x s:Str)(i:Nat)(b:Array Nat×Nat):Array Nat×Nat:=if (decide (b.1.size<1)&&decide (b.2<=i)&&decide (i+s.length<=x.length)&&Builtin.Str.subAt x s i)=true then (b.1.push i,i+s.length) else b
theorem NQ(x s:Str)(c:Nat)(w r:aw Nat)(hs:s.cps = #[c])(H:x.cps.toList=w++c::r)(f:c∉w):∀ k,k<=x.length+1->(List.range' 0 k).foldl (fun b i=>Ew x s i b) ((#[]:Array Nat),0)=if k<=w.length then (#[],0) else (#[w.length],w.length+1)
 | 0,_=>by rw[cq (bb _)];rfl
 | k+1,h=>by
  have l:s.length=1:=by show s.cps.size=1;rw[hs];rfl
  have n:x.length=x.cps.size:=rfl
  have e:x.cps.size=w.length+1+r.length:=by rw[<-cS,H,jB,gH];omega
  rw[h7,fk,NQ x s c w r hs H f k (by omega)];ext u
  by_cases a:k<w.length
  .ext bf;unfold Ew;rw[subAt_one x s c hs k (by omega),H,VJ a]
   have:(w[k]?==some c)=false:=by
    rw[wF a,beq_eq_false_iff_ne];intro z;exact f (Jc z▸TY a)
   rw[this,dA];rfl
  .by_cases d:k=w.length
   .subst d;rw[cq (jC _),cn (by omega)];unfold Ew;rw[subAt_one x s c hs _ (by omega),H,YX (jC _),iP,l,bq (show w.length+1<=x.length by omega)];simp
   .rw[cn (by omega),cn (by omega)];unfold Ew;rfl
def qGK{x s:Str}{c:Nat}{w r:aw Nat}(hs:s.cps = #[c])(h:x.cps.toList=w++c::r)(f:c∉w):Builtin.Str.occurrences x s 0 x.length 1=[w.length]:=by
 show (forIn (m:=Id) [:x.length+1] ((#[]:Array Nat),(0:Nat)) (fun (i:Nat) b=>if (decide (b.1.size<1)&&decide (b.2<=i)&&decide (i+s.length<=x.length)&&Builtin.Str.subAt x s i)=true then pure (.yield (b.1.push i,i+s.length)) else pure (.yield b))).1.toList=_;ext o;rw[wM (Ew x s) _ (fun i b=>by unfold Ew;split <;> rfl)];show ((List.range' 0 (x.length+1)).foldl (fun b i=>Ew x s i b) (#[],0)).1.toList=_
 have H:x.cps.size=w.length+1+r.length:=by rw[<-cS,h,jB,gH];omega
 have d:x.length=x.cps.size:=rfl;rw[NQ x s c w r hs h f _ (jC _),cn (by omega)]
def Yx{x s:Str}{c:Nat}{w r:aw Nat}(hs:s.cps = #[c])(h:x.cps.toList=w++c::r)(H:c∉w):DL.Mu x s=[mk w,s,mk r]:=by
 have f:s.length=1:=by show s.cps.size=1;rw[hs];rfl
 have b:x.cps.size=w.length+1+r.length:=by rw[<-cS,h,jB,gH];omega
 have d:x.length=x.cps.size:=rfl;unfold DL.Mu;rw[qGK hs h H]
 dsimp only
 rw[Ae,Ae,h,f,d,b];simp
theorem qAC{c b0:Nat}{b:aw Nat}(H:b0≠c)(f:Nat->Bool)(h:∀ z,f z=true↔z=c):∀ m,(List.replicate m c++b0::b).takeWhile f=List.replicate m c
 | 0=>by
  show (b0::b).takeWhile f=[];rw[List.takeWhile_cons,cn (fun z=>H ((h b0).mp z))]
 | m+1=>by
  show (c::(List.replicate m c++b0::b)).takeWhile f=_;rw[List.takeWhile_cons,cq ((h c).mpr rfl),qAC H f h m];rfl
def Uc{x s:Str}{c m b0:Nat}{b:aw Nat}(hs:s.cps = #[c])(h:x.cps.toList=List.replicate m c++b0::b)(a:b0≠c):Txt.lstripChars x s=mk (b0::b):=by
 have f:∀ z,s.cps.contains z=true↔z=c:=fun z=>by rw[hs];simp
 have lo:stripLo s.cps.contains true x=m:=by
  unfold stripLo;rw[cq rfl,h,qAC a _ f,cx]
 have e:∀ k,stripHi s.cps.contains false x k=x.length:=fun k=>rfl;unfold Txt.lstripChars Txt.stripBy stripSame stripped;rw[lo,e]
 by_cases H:m=0
 .subst H;rw[if_pos (by simp)];exact Pk.ext h
 .rw[if_neg (by simp [H]),Ae,h]
  have d:x.length=m+1+b.length:=by show x.cps.size=_;rw[<-cS,h,jB,gH,cx];omega
  have hd:(List.replicate m c++b0::b).drop m=b0::b:=by
   conv=>lhs;arg 1;rw[show m=(List.replicate m c).length from (cx ..).symm]
   rw[cx];exact List.drop_left' (cx ..)
  rw[hd,zl9 (by rw[gH];omega)]
def qC3:("\n" : Str).cps = #[10]:=by ext y
def Vp{ws:aw Str}(a:ws≠[])(H:∀ y∈ws,10∉y.cps.toList):Txt.split (Txt.join "\n" ws) "\n" = ws:=by rw[Mg qC3 (by decide),join_list (c:=10) (by ext y),wI (by simpa using a) (fun w h=>by obtain⟨y,T,e⟩:=List.mem_map.mp h;rw[<-e];exact H y T),fT];have:∀ y:Str,(mk ∘ fun z:Str=>z.cps.toList) y=y:=fun y=>Pk.ext rfl;rw[show (mk ∘ fun z:Str=>z.cps.toList)=id from funext this,List.map_id]
end qJ
namespace zq
open PySem L2 YW DL
def cd(z:Str):aw Nat:=z.cps.toList
def eY(a b:Str):cd (a++b)=cd a++cd b:=Array.toList_append ..
def bI(z:Str):z.length=(cd z).length:=(cS ..).symm
def Cz(l:aw Nat):cd (qJ.mk l)=l:=rfl
def xU(h:cd a=cd b):a=b:=Pk.ext h
structure Wd(z:Str):Prop where
 ne:cd z≠[]
 sp:32∉cd z
 nl:10∉cd z
 le:(cd z).length<=40
instance (z:Str):Decidable (Wd z):=decidable_of_iff (cd z≠[]/\32∉cd z/\10∉cd z/\(cd z).length<=40) ⟨fun h=>⟨h.1,h.2.1,h.2.2.1,h.2.2.2⟩,fun h=>⟨h.1,h.2,h.3,h.4⟩⟩
theorem Wy(h:xs≠[])(H:ys≠[]):qJ.jc 32 (xs++ys)=qJ.jc 32 xs++32::qJ.jc 32 ys:=by
 cases xs with
 | nil=>exact d6 rfl h
 | cons x xs=>
  cases ys with
  | nil=>exact d6 rfl H
  | cons y ys=>simp [qJ.jc]
theorem qAX(h:∀ x∈xs,x.length<=40):(qJ.jc 32 xs).length<=41*xs.length:=by
 cases xs with
 | nil=>exact jC _
 | cons x xs=>
  have:∀ l:aw (aw Nat),(∀ x∈l,x.length<=40)->(l.flatMap fun v=>32::v).length<=41*l.length:=fun l=>by
   induction l with
   | nil=>exact fun _=>jC _
   | cons y l I=>
    intro h;have a:=h y qK;have H:=I fun z b=>h z (rM _ b);rw[fg,jB,gH,gH];omega
  have a:=h x qK;have H:=this xs fun z b=>h z (rM _ b);show (x++_).length<=_;rw[jB,gH];omega
structure Rw(b:Nat)(row:Str)(ws:List Str):Prop where
 is:cd row=List.replicate b 32++qJ.jc 32 (ws.map cd)
 ne:ws≠[]
 few:ws.length<=130
 wd:∀ w∈ws,Wd w
section
variable{b:Nat}{row z k:Str}{ws us:aw Str}
def Rw.len(h:Rw b row ws):row.length<=b+5330:=by
 have:=qAX (xs:=ws.map cd) fun x H=>by
  obtain⟨w,c,rfl⟩:=rA.mp H;exact (h.wd w c).le
 rw[fH]at this;have f:=h.few;rw[bI,h.is,jB,cx];omega
def le_size(h:n<=16777216):n<=sizeLine:=by rw[sizeLine_eq];exact h
def Rw.size(h:Rw b row ws)(c:b<=100):row.length<=sizeLine:=le_size (br h.len (by omega))
theorem Rw.nl(h:Rw b row ws):10∉cd row:=by
 rw[h.is];intro m;rcases rP.mp m with m | m
 .exact d6 (List.eq_of_mem_replicate m) (by decide)
 .have:∀ xs:aw (aw Nat),(∀ x∈xs,10∉x)->10∉qJ.jc 32 xs:=fun xs H=>by
   cases xs with
   | nil=>simp [qJ.jc]
   | cons x xs=>
    simp only[qJ.jc,List.mem_append,List.mem_flatMap,List.mem_cons,not_or,not_exists,not_and];exact⟨H x qK,fun y T=>⟨by decide,H y (rM _ T)⟩⟩
  exact this _ (fun x H=>by obtain⟨w,c,rfl⟩:=rA.mp H;exact (h.wd w c).nl) m
def Rw.words(h:Rw 0 row ws):cJ [.str row] = .ok (.lst (ws.map D.str)):=by
 have hs:Txt.split row " " = ws:=qJ.Mf (by have:=h.is;exact this) h.ne fun y T=>(h.wd y T).sp
 have q:QB (.str row) [.str " "] = .ok (.ow (ws.map D.str)):=by
  show (if _ then _ else _)=_;rw[hs,cq ⟨by ext y,h.size (by decide),zI (br h.few (by decide))⟩]
 have c:ws.contains ("" : Str)=false:=by
  rw[Bool.eq_false_iff];intro m;exact (h.wd _ (by simpa using m)).ne rfl
 show fin (wu [.fr (.str row),.no])=_;unfold wu;rw[lF (eE (d:=.lst (ws.map D.str)) (w:=.ow (ws.map D.str)) q rfl)];show fin (aU _ _ [.fr (.str row),.fr (.lst (ws.map D.str))])=_;rw[lF (kZ (w:=.fr (.bl true)) (fO (x:=.fr (.str "")) (y:=.fr (.lst (ws.map D.str))) rfl rfl (by show X4 true (.str "") (ws.map D.str)=_;rw[X3,c];rfl)) rfl)];rfl
def Rw.part(h:Rw 0 row (k::ws))(c:ws≠[]):∃ z,Rw 0 z ws/\uq (.str row) [.str " "] = .ok (.fr (.tup [.str k,.str " ",.str z])):=by
 refine⟨qJ.mk (qJ.jc 32 (ws.map cd)),⟨rfl,c,by have:=h.few;rw[gH]at this;omega,fun w H=>h.wd w (rM _ H)⟩,?_⟩
 have e:row.cps.toList=cd k++32::qJ.jc 32 (ws.map cd):=by
  have:=h.is;rw[List.replicate_zero,List.nil_append,show (k::ws).map cd=[cd k]++ws.map cd from rfl,Wy (by simp) (by simpa using c)]at this;rw[show row.cps.toList=cd row from rfl,this];show (cd k++[])++_=_;rw[qH]
 show (if _ then _ else _)=_;rw[cq ⟨by ext y,h.size (by decide)⟩,qJ.Yx qJ.QC e (h.wd k qK).sp,show qJ.mk (cd k)=k from Pk.ext rfl];rfl
theorem Rw.strip(h:Rw b row ws)(H:b<=100):∃ z,Rw 0 z ws/\row.length=b+z.length/\qi (.str row) [.str " "] = .ok (.fr (.str z)):=by
 refine⟨qJ.mk (qJ.jc 32 (ws.map cd)),⟨rfl,h.ne,h.few,h.wd⟩,?_,?_⟩
 .rw[bI,bI,h.is,jB,cx];rfl
 .cases ws with
  | nil=>exact d6 rfl h.ne
  | cons w ws=>
   have n:=(h.wd w qK).ne;have s:=(h.wd w qK).sp
   cases e:cd w with
   | nil=>exact d6 e n
   | cons c r=>
    have i:=h.is;rw[bt,e]at i;show (if _ then _ else _)=_;rw[cq (h.size H),qJ.Uc (c:=32) (m:=b) (b0:=c) (b:=r++(ws.map cd).flatMap fun v=>32::v) qJ.QC i (fun z=>s (by rw[e,z];exact qK)),bt,e];rfl
def rG(k:Str):Bool:=[("plain" : Str),"one","all"].contains k
theorem Rw.kind(h:Rw b row (k::ws))(d:b<=100)(H:ws≠[])(f:rG k=true∨b=0):p6 [.str row] = .ok (.str (if rG k=true then "room" else k)):=by
 obtain⟨z,a,_,es⟩:=h.strip d;obtain⟨y,_,ep⟩:=a.part H
 have t:aQ (aK (inD false) (aK bF (fM "str" uq (fM "str" qi (aF 0) (aD (fC (.str " ")) aL)) (aD (fC (.str " ")) aL)) (fC (.int 0))) (fC (.tup [.str "plain",.str "one",.str "all"]))) [.fr (.str row)] = .ok (rG k):=by
  have e:fM "str" qi (aF 0) (aD (fC (.str " ")) aL) [.fr (.str row)] = .ok (.fr (.str z)):=es
  have E:fM "str" uq (fM "str" qi (aF 0) (aD (fC (.str " ")) aL)) (aD (fC (.str " ")) aL) [.fr (.str row)] = .ok (.fr (.tup [.str k,.str " ",.str y])):=by
   unfold fM at e ⊢;rw[e];exact ep
  refine zc (w:=.fr (.bl (rG k))) (fO (x:=.fr (.str k)) (y:=.fr (.tup ([("plain" : Str),"one","all"].map D.str))) (fO E rfl rfl) rfl ?_) rfl;show X4 false (.str k) ([("plain" : Str),"one","all"].map D.str)=_;rw[X3,dP];rfl
 show fin (Bb [.fr (.str row)])=_;unfold Bb
 cases c:rG k with
 | true=>
  rw[c]at t;rw[QG (z:=.str "room") (o:=some _) (by rw[Hl t];rfl)];rfl
 | false=>
  have b0:b=0:=f.resolve_left (by rw[c];decide);subst b0;obtain⟨y,_,ep⟩:=h.part H;rw[c]at t;rw[lF (by rw[M8 t];rfl),cn (by decide)];have E:fM "str" uq (aF 0) (aD (fC (.str " ")) aL) [.fr (.str row)] = .ok (.fr (.tup [.str k,.str " ",.str y])):=ep;exact j9 (fO E rfl rfl) rfl
end
end zq
namespace Dig
open PySem L2
def Dg:Nat->Nat->aw Nat
 | 0,_=>[]
 | f+1,n=>if n=0 then [] else Dg f (n/10)++[48+n%10]
theorem TV:∀(f g n:Nat),n<=f->n<=g->Dg f n=Dg g n
 | 0,0,_,_,_=>rfl
 | 0,g+1,n,h,_=>by
  rw[show n=0 by omega];rfl
 | f+1,0,n,_,h=>by
  rw[show n=0 by omega];rfl
 | f+1,g+1,n,a,H=>by
  show (if n=0 then [] else _)=if n=0 then [] else _
  by_cases e:n=0
  .rw[cq e,cq e]
  .rw[cn e,cn e,TV f g (n/10) (by omega) (by omega)]
def D(n:Nat):aw Nat:=Dg n n
def Lz:D 0=[]:=rfl
def DG{n:Nat}(h:n≠0):D n=D (n/10)++[48+n%10]:=by obtain⟨m,rfl⟩:∃ m,n=m+1:=⟨n-1,by omega⟩;show (if m+1=0 then [] else Dg m ((m+1)/10)++_)=Dg _ _++_;rw[cn h,TV m ((m+1)/10) ((m+1)/10) (by omega) (jC _)]
theorem qBE:∀(k n:Nat),n<10 ^ k->(D n).length<=k
 | 0,n,h=>by
  have e:n=0:=by simp at h;exact h
  rw[e,Lz];exact jC _
 | k+1,n,h=>by
  by_cases e:n=0
  .rw[e,Lz];exact bb _
  .rw[DG e,jB];have:=qBE k (n/10) (by rw[iO]at h;omega);simp only[List.length_cons,List.length_nil];omega
def Dt:∀ d,d<10->(Nat.digitChar d).toNat=48+d:=by decide
theorem T6:∀(f n:Nat)(A:aw Char),n<f->n≠0->(Nat.toDigitsCore 10 f n A).map Char.toNat=D n++A.map Char.toNat
 | 0,n,A,h,_=>d6 h (iN _)
 | f+1,n,A,h,c=>by
  rw[Nat.toDigitsCore];have hd:=Dt (n%10) (iA _ (by decide))
  by_cases e:n/10=0
  .simp only[e,if_true];rw[DG c,e,Lz,bt,hd];rfl
  .simp only[e,if_false];rw[T6 f (n/10) _ (by omega) e,bt,hd,DG c,bS];rfl
def Br(m:Nat):(Nat.toDigits 10 m).map Char.toNat=if m=0 then [48] else D m:=by
 by_cases e:m=0
 .ext l;rfl
 .rw[cn e];unfold Nat.toDigits;rw[T6 _ _ _ (ij m) e];exact qH _
def Dn(n:Int):aw Nat:=(if n<0 then [45] else [])++(if n=0 then [48] else D n.natAbs)
theorem Vn(n:Int):Str.ofString (toString n)=⟨(Dn n).toArray⟩:=by
 have ext:∀ a b:Str,a.cps.toList=b.cps.toList->a=b:=fun a b e=>by
  obtain⟨⟨a⟩⟩:=a;obtain⟨⟨b⟩⟩:=b;simp only at e;rw[e]
 apply ext;rw[Str.ofString_eq_toList];simp only;unfold Dn
 cases n with
 | ofNat m=>
  rw[cn (show ¬ Int.ofNat m<0 from Int.not_lt.mpr (Int.natCast_nonneg m))];show List.map Char.toNat (String.toList (Nat.repr m))=_;rw[show Nat.repr m=String.ofList (Nat.toDigits 10 m) from rfl,String.toList_ofList,Br]
  by_cases e:m=0
  .ext l;rfl
  .rw[cn e,cn (show ¬ Int.ofNat m=0 by intro z;exact e (by simpa using z))];rfl
 | negSucc m=>
  rw[cq (Int.negSucc_lt_zero m),cn (by intro z;cases z)];show List.map Char.toNat (String.toList ("-" ++ Nat.repr (m+1)))=_;rw[String.toList_append,show Nat.repr (m+1)=String.ofList (Nat.toDigits 10 (m+1)) from rfl,String.toList_ofList,String.toList_ofList,vd,Br,cn (by omega)];rfl
end Dig
namespace zq
open PySem L2 YW DL Dig
def cu(n:Int):Str:=⟨(Dn n).toArray⟩
theorem qG9:∀ n,∀ c∈Dig.D n,∃ d,d<10/\c=48+d:=by
 intro n
 induction n using Nat.strongRecOn with
 | _ n I=>
  intro c f
  by_cases h:n=0
  .rw[h,Lz]at f
   cases f
  .rw[DG h]at f;rcases rP.mp f with m | m
   .exact I (n/10) (by omega) c m
   .exact⟨n%10,by omega,vf.mp m⟩
def stp(v:Int)(c:Nat):Int:=v*10+((c:Int)-48)
def val(l:aw Nat):Int:=l.foldl stp 0
theorem qG8:∀ n,val (Dig.D n)=(n:Int):=by
 intro n
 induction n using Nat.strongRecOn with
 | _ n I=>
  by_cases h:n=0
  .rw[h];rfl
  .have:=I (n/10) (by omega);unfold val at this ⊢;rw[DG h,fk,this];show ((n/10:Nat):Int)*10+(((48+n%10:Nat):Int)-48)=_;omega
theorem qH7:∀ n,(Dig.D n).head?≠some 48:=by
 intro n
 induction n using Nat.strongRecOn with
 | _ n I=>
  by_cases h:n=0
  .rw[h];decide
  .rw[DG h]
   by_cases H:n/10=0
   .rw[H];show some (48+n%10)≠_;intro e;injection e;omega
   .have:=I (n/10) (by omega)
    cases e:Dig.D (n/10) with
    | nil=>
     rw[DG H]at e;simp at e
    | cons x r=>
     rw[e]at this;ext x
def lu(n:Int):aw Nat:=if n=0 then [48] else Dig.D n.natAbs
def Ot(n:Int):lu n≠[]/\(∀ c∈lu n,∃ d,d<10/\c=48+d)/\val (lu n)=n.natAbs/\((lu n).head? = some 48->n=0):=by
 unfold lu
 by_cases h:n=0
 .rw[cq h,h];exact⟨by simp,fun c f=>⟨0,by decide,List.mem_singleton.mp f⟩,rfl,fun _=>rfl⟩
 .rw[cn h];refine⟨fun e=>?_,qG9 _,qG8 _,fun e=>d6 e (qH7 _)⟩;rw[DG (by omega)]at e;simp at e
def qp(n:Int):Dn n=(if n<0 then [45] else [])++lu n:=rfl
def Gn{n:Int}(h:n.natAbs<10 ^ 31):(cd (cu n)).length<=32:=by
 show (Dn n).length<=32;have:=qBE 31 n.natAbs h;rw[qp,jB];unfold lu
 split <;> split <;> simp <;> omega
def gY(h:n.natAbs<10 ^ 31):Wd (cu n):=by
 obtain⟨B,b,_,_⟩:=Ot n
 have k:∀ c∈Dn n,c=45 ∨ ∃ d,d<10/\c=48+d:=fun c f=>by
  rw[qp]at f;rcases rP.mp f with m | m
  .split at m
   .exact .inl (vf.mp m)
   .cases m
  .exact .inr (b c m)
 refine⟨fun e=>?_,fun m=>?_,fun m=>?_,br (Gn h) (by decide)⟩
 .have E:Dn n=[]:=e;rw[qp]at E;exact B (List.append_eq_nil_iff.mp E).2
 .rcases k 32 m with e | ⟨d,_,e⟩ <;> omega
 .rcases k 10 m with e | ⟨d,_,e⟩ <;> omega
def str_is(h:n.natAbs<10 ^ 31):Ag [.int n] = .ok (.fr (.str (cu n))):=by
 have l:n.natAbs.log2<1920:=by
  by_cases z:n.natAbs=0
  .rw[z];decide
  .rw[Nat.log2_lt z];exact Nat.lt_trans h (by ext y)
 show (if _ then _ else _)=_;rw[cq l,Vn];rfl
def Rx:∀ d,d<10->Builtin.Str.occurrences "0123456789" ⟨#[48+d]⟩ 0 ("0123456789" : Str).length 1=[d]:=by ext y
def qGE{d:Nat}(h:d<10):vJ (.str "0123456789") [.str ⟨#[48+d]⟩] = .ok (.fr (.int d)):=by show (match Builtin.Str.occurrences "0123456789" ⟨#[48+d]⟩ 0 ("0123456789" : Str).length 1 with | i::_=>Rz.ok (W.fr (.int ((i:Nat):Int))) | []=>.st)=_;rw[Rx d h]
def inS{d:Nat}(h:d<10):inD false (.str ⟨#[48+d]⟩) (.str "0123456789") = .ok (.fr (.bl true)):=by show Rz.ok (W.fr (.bl ((!(Builtin.Str.occurrences "0123456789" ⟨#[48+d]⟩ 0 ("0123456789" : Str).length 1).isEmpty) != false)))=_;rw[Rx d h];rfl
theorem O3{ρ0:Sl}{z:Sl}{x:D}:∀(l:aw Nat)(v:Int)(s:Sl),(∀ c∈l,∃ d,d<10/\c=48+d)->∃ s',vq (bN 3) (aW 2 (aK aa (aK jJ (aF 2) (fC (.int 10))) (fM "str" vJ (fC (.str "0123456789")) (aD (aF 3) aL)))) (l.map fun c=>D.str ⟨#[c]⟩) [ρ0,z,.fr (.int v),s] = .ok (.nx [ρ0,z,.fr (.int (l.foldl stp v)),s'])
 | [],v,s,_=>⟨s,rfl⟩
 | c::l,v,s,h=>by
  obtain⟨d,hd,rfl⟩:=h c qK;obtain⟨s',e⟩:=O3 (x:=x) l (v*10+(((48+d:Nat):Int)-48)) (.fr (.str ⟨#[48+d]⟩)) fun c f=>h c (rM _ f);refine⟨s',?_⟩;rw[fo,show stp v (48+d)=v*10+(((48+d:Nat):Int)-48) from rfl,<-e,bt,vq];show (aW 2 _ [ρ0,z,.fr (.int v),.fr (.str ⟨#[48+d]⟩)]).bind _=_;have q:fM "str" vJ (fC (.str "0123456789")) (aD (aF 3) aL) [ρ0,z,.fr (.int v),.fr (.str ⟨#[48+d]⟩)] = .ok (.fr (.int d)):=qGE hd;rw[eE (w:=.fr (.int (v*10+d))) (d:=.int (v*10+d)) (fO (x:=.fr (.int (v*10))) (fO (x:=.fr (.int v)) (y:=.fr (.int 10)) rfl rfl (pN (.inr (by ext w)))) q rfl) rfl,pB,show (((48+d:Nat):Int)-48)=(d:Int) by omega];rfl
def ZC:("-" : Str)=⟨#[45]⟩:=by ext y
def Fx:("0" : Str)=⟨#[48]⟩:=by ext y
theorem sG{n:Int}(h:n.natAbs<10 ^ 31):cG [.str (cu n)] = .ok (.int n):=by
 obtain⟨g,B,u,a⟩:=Ot n
 have s:(cu n).length<=32:=by rw[bI];exact Gn h
 have bl:(lu n).length<=32:=by
  have:=Gn h;rw[show cd (cu n)=Dn n from rfl,qp,jB]at this;omega
 have F:aQ (fM "str" oA (aF 0) (aD (fC (.str "-")) aL))=aQ (fM "str" oA (aF 0) (aD (fC (.str "-")) aL)):=rfl
 have sm:Txt.startswith (cu n) "-" = decide (n<0):=by
  rw[ZC,Pk.Ex,decide_eq_decide,show (cu n).cps.toList=Dn n from rfl,qp]
  by_cases q:n<0
  .rw[cq q];simp [q]
  .rw[cn q];simp only[List.nil_append,q,iff_false];intro e
   cases eb:lu n with
   | nil=>exact g eb
   | cons c r=>
    rw[eb]at e;obtain⟨d,hd,_⟩:=B c (by rw[eb];exact qK);injection e with e;omega
 have t:∀ r:aw Sl,aQ (fM "str" oA (aF 0) (aD (fC (.str "-")) aL)) (.fr (.str (cu n))::r) = .ok (decide (n<0)):=fun r=>by rw[<-sm];rfl
 generalize o:(qJ.mk (lu n):Str)=bare
 have C:cd bare=lu n:=by rw[<-o];rfl
 have j:YS (aQ (fM "str" oA (aF 0) (aD (fC (.str "-")) aL))) (vy (aF 0) (gG (fC (.int 1))) xJ) (aF 0) [.fr (.str (cu n)),.no,.no,.no] = .ok (.fr (.str bare)):=by
  by_cases q:n<0
  .rw[ieT (by rw[t,bq q])];show (if _ then _ else _)=_;rw[cq (zI (br s (by decide)))]
   have:Txt.slice (cu n) (some 1) none=bare:=by
    apply Pk.ext;rw[Pk.Ez _ (by decide),show (cu n).cps.toList=Dn n from rfl,qp,cq q];exact C.symm
   rw[this]
  .rw[ieF (by rw[t,bg q])];have:cu n=bare:=Pk.ext (by show Dn n=cd bare;rw[qp,cn q,C];rfl);rw[this];rfl
 have ch:chars bare=(lu n).map fun c=>D.str ⟨#[c]⟩:=by show (cd bare).map _=_;rw[C]
 have N:bare ≠ "" := fun e=>g (by rw[<-C,e];rfl);have sl:∀ k,k<=32->k<=sizeLine:=fun k v=>zI (br v (by decide))
 have A:∀ r:aw Sl,dY (Zz fun l=>l.all id) (aD (gQ (jA false (aF 1)) [] nJ (aK (inD false) (aF 0) (fC (.str "0123456789")))) aL) (.fr (.str (cu n))::.fr (.str bare)::r) = .ok (.fr (.bl true)):=fun r=>by
  have z:=fCm (ρ:=.fr (.str (cu n))::.fr (.str bare)::r) (i:=jA false (aF 1)) (cX:=[]) (c:=nJ) (f:=aK (inD false) (aF 0) (fC (.str "0123456789"))) (h:=fun _=>.bl true) (ds:=(lu n).map fun c=>D.str ⟨#[c]⟩) (by rw[<-ch];rfl) (by rw[fH];exact sl _ bl) (fun _ _=>rfl) fun d hd=>by
   obtain⟨c,y,rfl⟩:=rA.mp hd;obtain⟨x,H,rfl⟩:=B c y;exact fO rfl rfl (inS H)
  unfold dY;rw[dF z rfl,pB]
  have bs:∀ m:aw D,bools (m.map fun _=>D.bl true)=some (m.map fun _=>true):=fun m=>by
   induction m with
   | nil=>rfl
   | cons _ m I=>rw[bt,bools,I];rfl
  show (match bools _ with | some bs=>Rz.ok (W.fr (.bl (bs.all id))) | none=>.st)=_;rw[bs];simp
 show fin (rH [.fr (.str (cu n)),.no,.no,.no])=_;unfold rH;rw[lF (eE j rfl)];show fin (aU _ _ [.fr (.str (cu n)),.fr (.str bare),.no,.no])=_
 rw[lF (by
  rw[M8 (O9 (p:=false) (q:=false) (zc (w:=.fr (.bl ((bare == "") != false))) rfl (by rw[cE.mpr N];rfl)) fun _=>R1 (p:=true) (zc (A _) rfl))]
  rfl)]
 rw[lF (by
  rw[M8 (c:=jK _ _) ?_]
  .rfl
  .refine Uw (p:=decide ((lu n).head? = some 48)) (q:=decide (n≠0)) ?_ (fun _=>?_) |>.trans ?_
   .refine zc (w:=.fr (.bl (Txt.startswith bare "0"))) rfl ?_;rw[Fx,Pk.Ex];show D.bl (decide ((cd bare).head? = some 48))=_;rw[C]
   .refine zc (w:=.fr (.bl ((cu n == "0") != true))) rfl ?_;show D.bl ((cu n == "0") != true)=_;congr 1;rw[dQ];simp only[bne_iff_ne,ne_eq,decide_eq_true_iff,beq_iff_eq,Bool.not_eq_true,beq_eq_false_iff_ne];refine not_congr ⟨fun e=>?_,fun e=>by rw[e,Fx];rfl⟩;have:Dn n=[48]:=congrArg cd (e.trans Fx);rw[qp]at this
    by_cases q:n<0
    .rw[cq q]at this;simp at this
    .rw[cn q]at this;exact a (by rw[show lu n=[48] from this];rfl)
   .congr 1;rw[Bool.and_eq_false_iff]
    by_cases q:(lu n).head? = some 48
    .exact .inr (by simp [a q])
    .exact .inl (bg q))]
 rw[lF (eE (d:=.int 0) rfl rfl)];obtain⟨s',E⟩:=O3 (ρ0:=.fr (.str (cu n))) (z:=.fr (.str bare)) (x:=.non) (lu n) 0 .no B
 rw[lF (ρ':=[.fr (.str (cu n)),.fr (.str bare),.fr (.int (n.natAbs:Int)),s']) (by
  have b:(lu n).foldl stp 0=(n.natAbs:Int):=u;rw[b,<-ch]at E
  exact E)]
 by_cases q:n<0
 .refine j9 (w:=.fr (.int n)) ?_ rfl;rw[ieT (by rw[t,bq q])];show Rz.ok (W.fr (.int (-(n.natAbs:Int))))=_;rw[show -(n.natAbs:Int)=n by omega]
 .refine j9 (w:=.fr (.int n)) ?_ rfl;rw[ieF (by rw[t,bg q])];show Rz.ok (W.fr (.int (n.natAbs:Int)))=_;rw[show (n.natAbs:Int)=n by omega]
end zq
namespace zq
open PySem L2 YW DL
def Jy{f:FE}{ρ:aw Sl}{d:D}(h:f ρ = .ok (.fr d)):bO f ρ = .ok (.ret d (some ρ)):=by unfold bO;rw[h];rfl
def Jp{c:FT}{a b:FS}{ρ:aw Sl}(h:c ρ = .ok false):aU (eV c a bJ) b ρ=b ρ:=lF (by rw[M8 h];rfl)
section
variable{c:FT}{a a' b:FS}{ρ ρ':aw Sl}{r:Rz D}{d:D}{o:ax (aw Sl)}
def sN(h:a ρ = .ok (.nx ρ'))(k:fin (b ρ')=r):fin (aU a b ρ)=r:=by rw[lF h];exact k
def sF(h:c ρ = .ok false)(k:fin (b ρ)=r):fin (aU (eV c a bJ) b ρ)=r:=by rw[Jp h];exact k
def sT(h:c ρ = .ok true)(k:a ρ = .ok (.ret d o)):fin (aU (eV c a a') b ρ) = .ok d:=by rw[QG (by rw[Hl h];exact k)];rfl
end
structure Wo(z:Str):Prop where
 is:kh [.str z] = .ok (.bl true)
 wd:Wd z
def qC2:∀ c,c<123->97<=c->(Builtin.Str.occurrences "abcdefghijklmnopqrstuvwxyz" ⟨#[c]⟩ 0 ("abcdefghijklmnopqrstuvwxyz" : Str).length 1).isEmpty=false:=by ext y
theorem bls:∀ m:aw D,bools (m.map fun _=>D.bl true)=some (m.map fun _=>true)
 | []=>rfl
 | _::m=>by rw[bt,bools,bls m];rfl
def MJ(a:1<=(cd z).length)(g:(cd z).length<=12)(h:∀ c∈cd z,97<=c/\c<123):Wo z:=by
 have H:z.length<=sizeLine:=zI (by rw[bI];omega);refine⟨?_,⟨fun e=>(by rw[e]at a;cases a),fun m=>(by have:=h _ m;omega),fun m=>(by have:=h _ m;omega),by omega⟩⟩
 have r:xK JG JG (fC (.int 1)) (dY cY (aD (aF 0) aL)) (fC (.int 12)) [.fr (.str z)] = .ok (.fr (.bl true)):=by
  unfold xK;rw[fLs (z:=z) (w:=.fr (.str z)) rfl rfl H];show (if decide ((1:Int)<=z.length)=true then _ else _)=_;rw[cq (bq (by rw[bI];omega))];show Rz.ok (W.fr (.bl (decide ((z.length:Int)<=12))))=_;rw[bq (by rw[bI];omega)]
 have C:=fCm (ρ:=[.fr (.str z)]) (i:=jA false (aF 0)) (cX:=[]) (c:=nJ) (f:=aK (inD false) (aF 0) (fC (.str "abcdefghijklmnopqrstuvwxyz"))) (h:=fun _=>.bl true) (ds:=chars z) rfl (by show ((cd z).map _).length<=_;rw[fH,<-bI];exact H) (fun _ _=>rfl) fun d hd=>by
  obtain⟨c,b,rfl⟩:=rA.mp hd;refine fO rfl rfl (?_:inD false (.str ⟨#[c]⟩) (.str _)=_);show Rz.ok (W.fr (.bl ((!(Builtin.Str.occurrences "abcdefghijklmnopqrstuvwxyz" ⟨#[c]⟩ 0 ("abcdefghijklmnopqrstuvwxyz" : Str).length 1).isEmpty) != false)))=_;rw[qC2 c (h c b).2 (h c b).1];rfl
 show fin (bO _ [.fr (.str z)])=_;refine j9 (w:=.fr (.bl (true&&true))) (Ux r fun _=>?_) rfl;unfold dY;rw[dF C rfl,pB];show (match bools _ with | some bs=>Rz.ok (W.fr (.bl (bs.all id))) | none=>.st)=_;rw[bls];simp
def yr{α:Type}{xs:aw α}{f:α->D}{g:α->Str}(h:∀ x,∃ l,f x = .tup (.str (g x)::l))(H:xs.length<=1000):cT [.lst (xs.map f)] = .ok (.lst ((xs.map g).map D.str)):=by
 have z:=fCm (ρ:=[.fr (.lst (xs.map f))]) (i:=jA false (aF 0)) (cX:=[]) (c:=nJ) (f:=aK bF (aF 0) (fC (.int 0))) (h:=fun d=>match d with | .tup (y::_)=>y | _=>.non) (ds:=xs.map f) rfl (by rw[fH];exact zI H) (fun _ _=>rfl) fun d hd=>by
  obtain⟨x,_,rfl⟩:=rA.mp hd;obtain⟨l,e⟩:=h x;rw[e];exact fO rfl rfl (zz (i:=0) rfl).2
 show fin (bO _ [.fr (.lst (xs.map f))])=_;refine j9 z ?_;show Rz.ok (D.lst _)=_;congr 2;rw[fT,fT];refine fS fun x _=>?_;obtain⟨l,e⟩:=h x;show (match f x with | .tup (y::_)=>y | _=>.non)=_;rw[e];rfl
structure lD(ns:List Str):Prop where
 nd:ns.Nodup
 wo:∀ z∈ns,Wo z
 few:ns.length<=100
section
variable{ns:aw Str}{i:Nat}{z:Str}
theorem Ra:∀ Z:aw Str,ue (Z.map D.str)=some Z
 | []=>rfl
 | z::Z=>by rw[bt,ue,Ra Z];rfl
def uw(h:ns.Nodup)(f:ns.length<=1000)(e:ns[i]? = some z):bf [.str z,.lst (ns.map D.str)] = .ok (.int i):=by
 obtain⟨H,e⟩:=rO.mp e
 have c:ns.contains z=true:=by rw[eK,<-e];exact TY H
 have a:ns.findIdx? (· == z)=some i:=by
  rw[List.findIdx?_eq_some_iff_getElem];refine⟨H,by rw[e];exact cy _,fun j J=>?_⟩;intro q;exact gX.mp h j i (by omega) H J (by rw[e];exact eq_of_beq q)
 show fin (aU _ _ [.fr (.str z),.fr (.lst (ns.map D.str))])=_;rw[lF (kZ (w:=.fr (.bl true)) (fO (x:=.fr (.str z)) (y:=.fr (.lst (ns.map D.str))) rfl rfl (by show X4 false (.str z) (ns.map D.str)=_;rw[X3,c];rfl)) rfl)];refine j9 (w:=.fr (.int i)) ?_ rfl;show (match ue (ns.map D.str) with | some ys=>X5 z ys | none=>.st)=_;rw[Ra];show X5 z ns=_;unfold X5;rw[a];exact cq f
def Gp(c:Wo z)(d:z∉ns):dh [.str z,.lst (ns.map D.str)] = .ok (.bl false):=by show fin (bO _ [.fr (.str z),.fr (.lst (ns.map D.str))])=_;refine j9 (w:=.fr (.bl (!true||false))) (fOV (M9 (iQ (ws:=[.fr (.str z)]) rfl c.is rfl (.inl rfl))) fun _=>fO (x:=.fr (.str z)) (y:=.fr (.lst (ns.map D.str))) rfl rfl ?_) rfl;show X4 false (.str z) (ns.map D.str)=_;rw[X3,show ns.contains z=false by rw[Bool.eq_false_iff];intro q;exact d (List.contains_iff_mem.mp q)];rfl
def Sg(h:i<l.length):bh [.int i,.lst l] = .ok (.bl true):=by show fin (pP [.fr (.int (i:Int)),.fr (.lst l)])=_;unfold pP;refine j9 (w:=.fr (.bl (true&&true))) (Ux rfl fun _=>?_) rfl;show (if decide ((0:Int)<=i)=true then Rz.ok (W.fr (.bl (decide ((i:Int)<l.length)))) else .ok (.fr (.bl false)))=_;rw[cq (bq (by omega)),bq (by omega)]
end
abbrev big:Int:=1000000000000000000000000000000
def Fi(h : -big<=v/\v<=big):d7 [.int v] = .ok (.bl true):=by show fin (bO _ [.fr (.int v)])=_;refine j9 (w:=.fr (.bl true)) ?_ rfl;show ((if decide (-big<=v)=true then _ else _):Rz W)=_;rw[cq (bq h.1)];show Rz.ok (W.fr (.bl (decide (v<=big))))=_;rw[bq h.2]
structure Bx where
 nm:Str
 sz:Int
 st:Int
def Bx.d(b:Bx):D:=.tup [.str b.nm,.int b.sz,.int b.st]
inductive De where
 | say (w:Str) | send (e:Nat) | set (b:Nat) (v:Int) | add (b:Nat) (v:Int)
def De.d:De->D
 | .say w=>.tup [.str "say",.str w]
 | .send e=>.tup [.str "send",.int e]
 | .set b v=>.tup [.str "set",.int b,.int v]
 | .add b v=>.tup [.str "add",.int b,.int v]
def De.Ok(bs:aw Bx)(ne:Nat):De->Prop
 | .say w=>Wo w
 | .send e=>e<ne
 | .set b v => ∃ x,bs[b]? = some x/\0<=v/\v<x.sz/\x.sz<=big
 | .add b v=>b<bs.length /\ -big<=v/\v<=big
def De.ws(nb es:aw Str):De->aw Str
 | .say w=>["say",w]
 | .send e=>["send",es.getD e ""]
 | .set b v=>["set",nb.getD b "",cu v]
 | .add b v=>["add",nb.getD b "",cu v]
section
variable{bs:aw Bx}{es:aw Str}{e:De}
def zj(f:bs.length<=100):cT [.lst (bs.map Bx.d)] = .ok (.lst ((bs.map Bx.nm).map D.str)):=yr (fun _=>⟨_,rfl⟩) (by omega)
def jt{ns:aw Str}{i:Nat}(h:i<ns.length):ns[i]? = some (ns.getD i ""):=by rw[xg,wF h];rfl
def j4{v:Int}(h : -big<=v/\v<=big):v.natAbs<10 ^ 31:=by obtain⟨a,H⟩:=h;unfold big at a H;have:(10:Nat) ^ 31=10000000000000000000000000000000:=rfl;omega
def De.few(nb es:aw Str)(e:De):(e.ws nb es).length<=3:=by cases e <;> exact hV rfl
def T4{k y:Str}{B:D}{ns:aw Str}{b:Nat}{v:Int}(h:k = "set" ∨ k = "add")(a:cT [B] = .ok (.lst (ns.map D.str)))(n:bf [.str y,.lst (ns.map D.str)] = .ok (.int b))(r:v.natAbs<10 ^ 31)(E:D):sy [.lst [.str k,.str y,.str (cu v)],B,E] = .ok (.tup [.str k,.int b,.int v]):=by show fin (sY [.fr (.lst [.str k,.str y,.str (cu v)]),.fr B,.fr E,.no])=_;unfold sY;rw[lF (ρ':=[.fr (.lst [.str k,.str y,.str (cu v)]),.fr B,.fr E,.fr (.str k)]) rfl];rw[QG (z:=.tup [.str k,.int b,.int v]) (o:=some _) (by rw[Hl (by rcases h with rfl | rfl <;> rfl),lF (kZ (w:=.fr (.bl true)) rfl rfl)];exact Jy (xY (l:=[.str k,.int b,.int v]) (dF (w:=.fr (.str k)) rfl (dF (iQ (ws:=[.fr (.str y),.fr (.lst (ns.map D.str))]) (dF (w:=.fr (.str y)) rfl (dF (iQ (ws:=[.fr B]) rfl a rfl (.inl rfl)) rfl)) n rfl (.inl rfl)) (dF (iQ (ws:=[.fr (.str (cu v))]) rfl (sG r) rfl (.inl rfl)) rfl))) rfl (by show 3<=1000;decide)))];rfl
theorem R6(c:lD (bs.map Bx.nm))(i:lD es)(h:e.Ok bs es.length):sy [.lst ((e.ws (bs.map Bx.nm) es).map D.str),.lst (bs.map Bx.d),.lst (es.map D.str)] = .ok e.d:=by
 have bl:bs.length<=100:=by have:=c.few;rwa [fH]at this
 have nb:∀ b,b<bs.length->bf [.str ((bs.map Bx.nm).getD b ""),.lst ((bs.map Bx.nm).map D.str)] = .ok (.int b):=fun b h=>uw c.nd (by have:=c.few;omega) (jt (by rw[fH];exact h))
 cases e with
 | say w=>exact rfl
 | send e=>
  have n:=uw i.nd (by have:=i.few;omega) (jt (show e<es.length from h));generalize H:D.lst (bs.map Bx.d)=B;show fin (sY [.fr (.lst [.str "send",.str (es.getD e "")]),.fr B,.fr (.lst (es.map D.str)),.no])=_;unfold sY;rw[lF (ρ':=[.fr (.lst [.str "send",.str (es.getD e "")]),.fr B,.fr (.lst (es.map D.str)),.fr (.str "send")]) rfl,Jp rfl,lF (kZ (w:=.fr (.bl true)) rfl rfl),Jp rfl];exact j9 (xY (l:=[.str "send",.int e]) (dF (w:=.fr (.str "send")) rfl (dF (iQ (ws:=[.fr (.str (es.getD e "")),.fr (.lst (es.map D.str))]) rfl n rfl (.inl rfl)) rfl)) rfl (by show 2<=1000;decide)) rfl
 | set b v=>
  obtain⟨x,E,_,_,_⟩:=h;exact T4 (.inl rfl) (zj bl) (nb b (rO.mp E).1) (j4 ⟨by unfold big;omega,by omega⟩) _
 | add b v=>exact T4 (.inr rfl) (zj bl) (nb b h.1) (j4 h.2) _
theorem V3(h:e.Ok bs es.length):gB [e.d,.lst (bs.map Bx.d),.lst (es.map D.str)] = .ok (.bl false):=by
 have I:∀ b,b<bs.length->bh [.int b,.lst (bs.map Bx.d)] = .ok (.bl true):=fun b h=>Sg (by rw[fH];exact h)
 have go:∀ k b v,k = "set" ∨ k = "add" -> b<bs.length->∀ E,dM [.fr (.tup [.str k,.int (b:Nat),.int v]),.fr (.lst (bs.map Bx.d)),.fr E,.no,.no]=(aU (eV (aQ (aK (dJ false) (aF 3) (fC (.str "set")))) (aU (aW 4 (aK bF (aK bF (aF 1) (aK bF (aF 0) (fC (.int 1)))) (fC (.int 1)))) (bO (ie (xK JG Kr (fC (.int 0)) (aK bF (aF 0) (fC (.int 2))) (aF 4))))) bJ) (bO (ie (aP (bU d7) 1 (aD (aK bF (aF 0) (fC (.int 2))) aL))))) [.fr (.tup [.str k,.int (b:Nat),.int v]),.fr (.lst (bs.map Bx.d)),.fr E,.fr (.str k),.no]:=fun k b v H c E=>by
  unfold dM;rw[lF (ρ':=[.fr (.tup [.str k,.int (b:Nat),.int v]),.fr (.lst (bs.map Bx.d)),.fr E,.fr (.str k),.no]) rfl,Jp (by rcases H with rfl | rfl <;> rfl),Jp (by rcases H with rfl | rfl <;> rfl),Jp (R1 (p:=true) (zc (iQ (n:=2) (r:=aD (aK bF (aF 0) (fC (.int 1))) (aD (aF 1) aL)) (ws:=[.fr (.int (b:Nat)),.fr (.lst (bs.map Bx.d))]) rfl (I b c) rfl (.inl rfl)) rfl))]
 cases e with
 | say w=>
  show fin (dM [.fr (.tup [.str "say",.str w]),.fr (.lst (bs.map Bx.d)),.fr (.lst (es.map D.str)),.no,.no])=_;unfold dM;rw[lF (ρ':=[.fr (.tup [.str "say",.str w]),.fr (.lst (bs.map Bx.d)),.fr (.lst (es.map D.str)),.fr (.str "say"),.no]) rfl,QG (by rw[Hl rfl];exact Jy (M9 (iQ (ws:=[.fr (.str w)]) rfl (Wo.is h) rfl (.inl rfl))))];rfl
 | send i=>
  show fin (dM [.fr (.tup [.str "send",.int i]),.fr (.lst (bs.map Bx.d)),.fr (.lst (es.map D.str)),.no,.no])=_;unfold dM;rw[lF (ρ':=[.fr (.tup [.str "send",.int i]),.fr (.lst (bs.map Bx.d)),.fr (.lst (es.map D.str)),.fr (.str "send"),.no]) rfl,Jp rfl,QG (by rw[Hl rfl];exact Jy (M9 (iQ (ws:=[.fr (.int i),.fr (.lst (es.map D.str))]) rfl (Sg (by rw[fH];exact h)) rfl (.inl rfl))))];rfl
 | set b v=>
  obtain⟨x,a,d,f,_⟩:=h;show fin (dM [.fr (.tup [.str "set",.int b,.int v]),.fr (.lst (bs.map Bx.d)),.fr (.lst (es.map D.str)),.no,.no])=_
  rw[go _ b v (.inl rfl) (rO.mp a).1,QG (z:=.bl false) (o:=some _) (by
   rw[Hl rfl,lF (eE (w:=.fr (.int x.sz)) (fO (x:=.fr x.d) (y:=.fr (.int 1)) (fO (x:=.fr (.lst (bs.map Bx.d))) (y:=.fr (.int b)) rfl rfl (zz (by rw[jf,a];rfl)).1) rfl rfl) rfl)];refine Jy (M9 (p:=true) ?_);show (if decide ((0:Int)<=v)=true then Rz.ok (W.fr (.bl (decide (v<x.sz)))) else .ok (.fr (.bl false)))=_
   rw[cq (bq d),bq f])]
  rfl
 | add b v=>
  show fin (dM [.fr (.tup [.str "add",.int b,.int v]),.fr (.lst (bs.map Bx.d)),.fr (.lst (es.map D.str)),.no,.no])=_;rw[go _ b v (.inr rfl) h.1,Jp rfl];exact j9 (M9 (iQ (ws:=[.fr (.int v)]) rfl (Fi h.2) rfl (.inl rfl))) rfl
def tY(c:lD (bs.map Bx.nm))(i:lD es)(h:e.Ok bs es.length)(b:Rw 0 z (e.ws (bs.map Bx.nm) es)):qZ [.str z,.lst (bs.map Bx.d),.lst (es.map D.str)] = .ok e.d:=by
 have nl:e.d.nl=true:=by cases e <;> rfl
 show fin (vA [.fr (.str z),.fr (.lst (bs.map Bx.d)),.fr (.lst (es.map D.str)),.no])=_;unfold vA;exact sN (eE (iQ (ws:=[.fr (.lst ((e.ws (bs.map Bx.nm) es).map D.str)),.fr (.lst (bs.map Bx.d)),.fr (.lst (es.map D.str))]) (dF (iQ (ws:=[.fr (.str z)]) rfl b.words rfl (.inl rfl)) rfl) (R6 c i h) rfl (.inl rfl)) rfl)
  (sN (kZ (M9 (iQ (ws:=[.fr e.d,.fr (.lst (bs.map Bx.d)),.fr (.lst (es.map D.str))]) rfl (V3 h) rfl (.inl rfl))) rfl) rfl)
theorem De.wd(j:lD (bs.map Bx.nm))(m:lD es)(h:e.Ok bs es.length):∀ w∈e.ws (bs.map Bx.nm) es,Wd w:=by
 have nb:∀(ns:aw Str)(N:lD ns)(i:Nat),i<ns.length->Wd (ns.getD i ""):=fun ns N i l=>(N.wo _ (Jb (jt l))).wd
 have k:∀ k∈[("say" : Str),"send","set","add"],Wd k:=by ext y
 have two:∀ a b:Str,Wd a->Wd b->∀ w∈[a,b],Wd w:=fun a b d f w H=>by
  rcases jL.mp H with rfl | H
  .exact d
  .rw[vf.mp H];exact f
 have all:∀ a b c:Str,Wd a->Wd b->Wd c->∀ w∈[a,b,c],Wd w:=fun a b c d f g w H=>by
  rcases jL.mp H with rfl | H
  .exact d
  .exact two b c f g w H
 cases e with
 | say w=>exact two _ _ (k _ (by simp)) (Wo.wd h)
 | send i=>exact two _ _ (k _ (by simp)) (nb _ m i h)
 | set b v=>
  obtain⟨y,E,d,f,g⟩:=h;exact all _ _ _ (k _ (by simp)) (nb _ j b (by rw[List.length_map];exact (List.getElem?_eq_some_iff.mp E).1)) (gY (j4 ⟨by unfold big;omega,by omega⟩))
 | add b v=>exact all _ _ _ (k _ (by simp)) (nb _ j b (by rw[List.length_map];exact h.1)) (gY (j4 h.2))
end
structure Rm where
 nm:Str
 kd:Str
 dp:Nat
 kp:Str
 lp:Str
 ins:List De
 outs:List De
def Rm.d(r:Rm):D:=.tup [.str r.nm,.str r.kd,.int r.dp,.str r.kp,.str r.lp,.tup (r.ins.map De.d),.tup (r.outs.map De.d)]
def Rm.bare(r:Rm):Rm:={ r with ins:=[],outs:=[] }
def Df(m z:Str):aw Str:=if z = "" then [] else [m,z]
def Rm.ws(r:Rm):aw Str:=[r.kd,r.nm]++(Df "keeps" r.kp++Df "lamp" r.lp)
def R3(h:f ρ = .ok (.fr (.obj C fs)))(H:fs.lookup x=some d):lC C x f ρ = .ok (.fr d):=by unfold lC;rw[h];show (if C=C then _ else _)=_;rw[cq rfl,H];rfl
def qE1(h:Wo z):z ≠ "" := fun e=>h.wd.ne (by rw[e];rfl)
def SN(m z:Str)(c:m = "keeps" ∨ m = "lamp")(r:aw Str)(h:r=[] ∨ ∃ y:Str,r=[("lamp" : Str),y]/\m = "keeps"):uy [.lst ((Df m z++r).map D.str),.str m] = .ok (.tup [.str z,.lst (r.map D.str)]):=by
 unfold Df
 by_cases b:z = ""
 .rw[cq b,b];rcases h with rfl | ⟨y,rfl,rfl⟩
  .rcases c with rfl | rfl <;> rfl
  .rfl
 .rw[cn b];rcases h with rfl | ⟨y,rfl,rfl⟩
  .rcases c with rfl | rfl <;> rfl
  .rfl
def Pu{r:Rm}{row:Str}(h:Rw (2*r.dp) row r.ws)(hd:r.dp<=40):lQ [.str row] = .ok r.bare.d:=by
 obtain⟨z,b,_,es⟩:=h.strip (by omega);have L:=b.size (by decide);have l:=h.size (by omega);have R:=SN "keeps" r.kp (.inl rfl) (Df "lamp" r.lp) (by unfold Df;split;exact .inl rfl;exact .inr ⟨_,rfl,rfl⟩);have G:=SN "lamp" r.lp (.inr rfl) [] (.inl rfl);rw[qH]at G;have w:cJ [.str z] = .ok (.lst (.str r.kd::.str r.nm::(Df "keeps" r.kp++Df "lamp" r.lp).map D.str)):=b.words;generalize (Df "keeps" r.kp++Df "lamp" r.lp).map D.str=N at R w;generalize (Df "lamp" r.lp).map D.str=T at R G
 have hs:∀ a:aw Sl,vy (aF 3) (gG (fC (.int 2))) xJ (.fr (.str row)::.fr (.str z)::.fr (.int ((2*r.dp:Nat):Int))::.fr (.lst (.str r.kd::.str r.nm::N))::a) = .ok (.ow N):=fun a=>by
  show Rz.ok (W.ow (cutD _ (some 2) none))=_;unfold cutD
  have E:HT.iy (D.str r.kd::.str r.nm::N).length 0 (some 2)=2:=by unfold HT.iy;simp;try omega
  have e:HT.iy (D.str r.kd::.str r.nm::N).length (D.str r.kd::.str r.nm::N).length none=(D.str r.kd::.str r.nm::N).length:=rfl;rw[E,e];simp
 show fin (uz [.fr (.str row),.no,.no,.no,.no,.no])=_;refine sN (eE (w:=.fr (.str z)) es rfl) (sN (eE (w:=.fr (.int ((2*r.dp:Nat):Int))) (fO (x:=.fr (.int row.length)) (y:=.fr (.int z.length)) (fLs rfl rfl l) (fLs rfl rfl L) (by show Rz.ok (W.fr (.int _))=_;rw[show (row.length:Int)-z.length=((2*r.dp:Nat):Int) by omega])) rfl) (sN (eE (iQ (ws:=[.fr (.str z)]) rfl w rfl (.inl rfl)) rfl) (sN (eE (iQ (ws:=[.fr (.lst N),.fr (.str "keeps")]) (dF (hs _) rfl) R rfl (.inl rfl)) rfl) (sN (eE (iQ (ws:=[.fr (.lst T),.fr (.str "lamp")]) rfl G rfl (.inl rfl)) rfl) ?_))))
 have j:((2*r.dp:Nat):Int)%2=0:=by omega
 have E:((2*r.dp:Nat):Int)/2=r.dp:=by omega
 refine sN (kZ (w:=.fr (.bl true)) (Ux (p:=true) (q:=true) (fO (x:=.fr (.int (((2*r.dp:Nat):Int)%2))) (y:=.fr (.int 0)) rfl rfl (by rw[j];rfl)) fun _=>Ux (p:=true) (q:=true) (fO (JQ rfl (.inl rfl)) (y:=.fr (.int 1)) rfl (by
  show Rz.ok (W.fr (.bl (decide ((1:Int)<(N.length+1+1:Nat)))))=_
  rw[bq (by omega)])) fun _=>rfl) rfl) (j9 (w:=.fr r.bare.d) ?_ rfl)
 refine xY (ws:=[.fr (.str r.nm),.fr (.str r.kd),.fr (.int r.dp),.fr (.str r.kp),.fr (.str r.lp),.fr (.tup []),.fr (.tup [])]) ?_ rfl (by show 7<=1000;decide);refine dF (w:=.fr (.str r.nm)) (fO rfl rfl (zz (i:=1) rfl).1) (dF (w:=.fr (.str r.kd)) (fO rfl rfl (zz (i:=0) rfl).1) (dF (w:=.fr (.int r.dp)) ?_ rfl));show Rz.ok (W.fr (.int (((2*r.dp:Nat):Int)/2)))=_;rw[E]
structure Rm.Ir(r:Rm)(rs:List Rm):Prop where
 wo:Wo r.nm
 un:r.nm∉rs.map Rm.nm
 kd:rG r.kd=true
 top:rs=[]->r.dp=0
 dp:∀ l∈rs.getLast?,1<=r.dp/\r.dp<=l.dp+1/\(l.kd = "plain" ↔ r.dp<=l.dp)
 low:r.dp<=12
 kp:r.kp = "" ∨ r.kp = "near" /\ r.kd = "one" ∨ r.kp = "deep" /\ (r.kd = "one" ∨ r.kd = "all")
 lp:r.lp = "" ∨ Wo r.lp
section
variable{r:Rm}{rs:aw Rm}
def Xc(h:r.Ir rs):j8 [.int r.dp,.lst (rs.map Rm.d)] = .ok (.bl false):=by
 rcases eS rs with e | ⟨R,l,e⟩
 .rw[e,h.top e];rfl
 .rw[eI]at e;obtain⟨_,_,_⟩:=h.dp l (by rw[e,fw];rfl);rw[e,vd];show fin (qm [.fr (.int r.dp),.fr (.lst (R.map Rm.d++[l.d]))])=_
  refine sF (zc (fO (JQ rfl (.inl rfl)) (y:=.fr (.int 0)) rfl (by
   show Rz.ok (W.fr (.bl ((((R.map Rm.d++[l.d]).length:Int)==0) != false))) = .ok (.fr (.bl false));rw[cE.mpr (by rw[fA];simp;omega)]
   rfl)) rfl) (j9 (w:=.fr (.bl (!true||false))) (fOV (M9 ?_) fun _=>?_) rfl)
  .unfold xK;rw[fO (x:=.fr (.int l.dp)) (y:=.fr (.int 1)) (z:=.ok (.fr (.int ((l.dp:Int)+1)))) (fO (x:=.fr l.d) (y:=.fr (.int 2)) (fO (x:=.fr (.lst (R.map Rm.d++[l.d]))) (y:=.fr (.int (-1))) rfl rfl (ixE _)) rfl rfl) rfl rfl];show (if decide ((1:Int)<=r.dp)=true then Rz.ok (W.fr (.bl (decide ((r.dp:Int)<=(l.dp:Int)+1)))) else .ok (.fr (.bl false)))=_;rw[cq (bq (by omega)),bq (by omega)]
  .show Rz.ok (W.fr (.bl (decide ((12:Int)<r.dp))))=_;rw[bg (by have:=h.low;omega)]
def end_is(l:Rm)(h:l.kd = "plain" ↔ r.dp<=l.dp):gO [l.d,.lst [r.bare.d]] = .ok (.bl false):=by
 show fin (uQ [.fr l.d,.fr (.lst [r.bare.d]),.no])=_;refine sN (ρ':=[.fr l.d,.fr (.lst [r.bare.d]),.fr (.bl (decide ((l.dp:Int)<r.dp)))]) rfl ?_;have t:aQ (aK (dJ false) (aK bF (aF 0) (fC (.int 1))) (fC (.str "plain"))) [.fr l.d,.fr (.lst [r.bare.d]),.fr (.bl (decide ((l.dp:Int)<r.dp)))] = .ok ((l.kd == "plain") != false):=rfl
 by_cases k:l.kd = "plain"
 .have:=h.mp k;rw[k]at t;refine sT t (Jy (d:=.bl false) ?_);show Rz.ok (W.fr (.bl (decide ((l.dp:Int)<r.dp))))=_;rw[bg (by omega)]
 .have:=mt h.mpr k;rw[cE.mpr k]at t;refine sF t (j9 (M9 (p:=true) ?_) rfl);show Rz.ok (W.fr (.bl (decide ((l.dp:Int)<r.dp))))=_;rw[bq (by omega)]
def Ww(h:r.Ir rs):j7 [.str r.kp,.str r.kd] = .ok (.bl false):=by
 rcases h.kp with e | ⟨e,E⟩ | ⟨e,E | E⟩ <;> rw[e] <;> try rw[E]
 all_goals rfl
def Tt(h:r.Ir rs)(f:rs.length<=100):jW [r.bare.d,.lst (rs.map Rm.d),B,es] = .ok (.bl false):=by
 show fin (sV [.fr r.bare.d,.fr (.lst (rs.map Rm.d)),.fr B,.fr es,.no,.no])=_;refine sN (ρ':=[.fr r.bare.d,.fr (.lst (rs.map Rm.d)),.fr B,.fr es,.fr (.str r.kd),.no]) rfl (sN (ρ':=[.fr r.bare.d,.fr (.lst (rs.map Rm.d)),.fr B,.fr es,.fr (.str r.kd),.fr (.str r.lp)]) rfl (sF (O9 (p:=false) (q:=false) ?_ fun _=>?_) (sF (O9 (p:=false) (q:=false) ?_ fun _=>?_) (sF ?_ rfl))))
 .exact zc (iQ (ws:=[.fr (.str r.nm),.fr (.lst ((rs.map Rm.nm).map D.str))]) (dF (w:=.fr (.str r.nm)) rfl (dF (iQ (ws:=[.fr (.lst (rs.map Rm.d))]) rfl (yr (fun _=>⟨_,rfl⟩) (by omega)) rfl (.inl rfl)) rfl)) (Gp h.wo h.un) rfl (.inl rfl)) rfl
 .refine zc (w:=.fr (.bl false)) (fO (x:=.fr (.str r.kd)) (y:=.fr (.tup ([("plain" : Str),"one","all"].map D.str))) rfl rfl ?_) rfl;show X4 true (.str r.kd) ([("plain" : Str),"one","all"].map D.str)=_;rw[X3,show [("plain" : Str),"one","all"].contains r.kd=true from h.kd];rfl
 .exact zc (iQ (ws:=[.fr (.int r.dp),.fr (.lst (rs.map Rm.d))]) rfl (Xc h) rfl (.inl rfl)) rfl
 .exact zc (iQ (ws:=[.fr (.str r.kp),.fr (.str r.kd)]) rfl (Ww h) rfl (.inl rfl)) rfl
 .rcases h.lp with e | e
  .rw[e];rfl
  .have t:aQ (aK (dJ true) (aF 5) (fC (.str ""))) [.fr r.bare.d,.fr (.lst (rs.map Rm.d)),.fr B,.fr es,.fr (.str r.kd),.fr (.str r.lp)] = .ok ((r.lp == "") != true):=rfl;rw[cE.mpr (qE1 e)]at t;exact Uw (p:=true) (q:=false) t fun _=>R1 (p:=true) (zc (iQ (ws:=[.fr (.str r.lp)]) rfl e.is rfl (.inl rfl)) rfl)
end
inductive Gu where
 | yes | is (b:Nat) (v:Int) | under (b:Nat) (v:Int) | inn (r:Nat) | neg (g:Gu) | both (g h:Gu) | either (g h:Gu)
def Gu.d:Gu->D
 | .yes=>.tup [.str "yes"]
 | .is b v=>.tup [.str "is",.int b,.int v]
 | .under b v=>.tup [.str "under",.int b,.int v]
 | .inn r=>.tup [.str "in",.int r]
 | .neg g=>.tup [.str "not",g.d]
 | .both g h=>.tup [.str "both",g.d,h.d]
 | .either g h=>.tup [.str "either",g.d,h.d]
def Gu.ws(nb nr:aw Str):Gu->aw Str
 | .yes=>["yes"]
 | .is b v=>["is",nb.getD b "",cu v]
 | .under b v=>["under",nb.getD b "",cu v]
 | .inn r=>["in",nr.getD r ""]
 | .neg g => "not" :: g.ws nb nr
 | .both g h => "both" :: (g.ws nb nr++h.ws nb nr)
 | .either g h => "either" :: (g.ws nb nr++h.ws nb nr)
def Gu.Ok(b r:Nat):Nat->Gu->Prop
 | 0,_=>False
 | _+1,.yes=>True
 | _+1,.is i v=>i<b /\ -big<=v/\v<=big
 | _+1,.under i v=>i<b /\ -big<=v/\v<=big
 | _+1,.inn i=>i<r
 | n+1,.neg g=>g.Ok b r n
 | n+1,.both g h=>g.Ok b r n/\h.Ok b r n
 | n+1,.either g h=>g.Ok b r n/\h.Ok b r n
theorem Gu.up:∀ {n m:Nat} {g:Gu},n<=m->g.Ok b r n->g.Ok b r m
 | 0,_,_,_,h=>h.elim
 | n+1,0,_,c,_=>d6 c (by omega)
 | _+1,_+1,.yes,_,h=>h
 | _+1,_+1,.is _ _,_,h=>h
 | _+1,_+1,.under _ _,_,h=>h
 | _+1,_+1,.inn _,_,h=>h
 | n+1,m+1,.neg _,c,h=>Gu.up (n:=n) (m:=m) (by omega) h
 | n+1,m+1,.both _ _,c,h=>⟨Gu.up (n:=n) (m:=m) (by omega) h.1,Gu.up (n:=n) (m:=m) (by omega) h.2⟩
 | n+1,m+1,.either _ _,c,h=>⟨Gu.up (n:=n) (m:=m) (by omega) h.1,Gu.up (n:=n) (m:=m) (by omega) h.2⟩
theorem Gu.few(nb nr:aw Str):∀ {n:Nat} {g:Gu},g.Ok b r n->(g.ws nb nr).length+1<=2*2 ^ n
 | 0,_,h=>h.elim
 | n+1,g,h=>by
  have p:=Nat.one_le_two_pow (n:=n);rw[iO]
  cases g with
  | yes=>show 1+1<=_;omega
  | is _ _=>show 3+1<=_;omega
  | under _ _=>show 3+1<=_;omega
  | inn _=>show 2+1<=_;omega
  | neg g=>have:=Gu.few nb nr (g:=g) h;show (g.ws nb nr).length+1+1<=_;omega
  | both g k=>
   have:=Gu.few nb nr (g:=g) h.1;have:=Gu.few nb nr (g:=k) h.2;show (g.ws nb nr++k.ws nb nr).length+1+1<=_;rw[jB];omega
  | either g k=>
   have:=Gu.few nb nr (g:=g) h.1;have:=Gu.few nb nr (g:=k) h.2;show (g.ws nb nr++k.ws nb nr).length+1+1<=_;rw[jB];omega
theorem Gu.nl:∀ g:Gu,g.d.nl=true
 | .yes=>rfl
 | .is _ _=>rfl
 | .under _ _=>rfl
 | .inn _=>rfl
 | .neg g=>by show (true&&(g.d.nl&&true))=true;rw[g.nl];rfl
 | .both g h=>by show (true&&(g.d.nl&&(h.d.nl&&true)))=true;rw[g.nl,h.nl];rfl
 | .either g h=>by show (true&&(g.d.nl&&(h.d.nl&&true)))=true;rw[g.nl,h.nl];rfl
section
variable{bs:aw Bx}{rs:aw Rm}
theorem rQ{nb nr:aw Str}{B R:D}(c:lD nb)(hr:lD nr)(J:cT [B] = .ok (.lst (nb.map D.str)))(E:cT [R] = .ok (.lst (nr.map D.str))):∀(n:Nat)(g:Gu)(us:aw Str),g.Ok nb.length nr.length n->lZ B R n (g.ws nb nr++us) = .ok (g.d,us)
 | 0,_,_,h=>h.elim
 | n+1,g,us,h=>by
  have m:∀(ns:aw Str)(X:D)(N:lD ns)(e:cT [X] = .ok (.lst (ns.map D.str)))(i:Nat),i<ns.length->wX (ns.getD i "") X = .ok (.int i):=fun ns X N e i H=>by
   unfold wX;rw[e,pB];exact uw N.nd (by have:=N.few;omega) (jt H)
  have ne:∀ k∈[("not" : Str),"both","either","in"],k ≠ "yes" /\ ¬ (k = "is" ∨ k = "under"):=by ext y
  have a:∀ k∈[("not" : Str),"both","either"],k ≠ "in" := by ext y
  have b:∀ k∈[("both" : Str),"either"],k ≠ "not" := by ext y
  cases g with
  | yes=>exact cq rfl
  | is i v=>
   unfold lZ;rw[Gu.ws,eJ];show (if _ then _ else _)=_;rw[cn (by ext y),cq (.inl rfl)];show ((wX (nb.getD i "") B).bind fun j=>(cG [.str (cu v)]).bind fun i=>(d7 [i]).bind fun t=>(cL [t]).bind fun _=>Rz.ok (D.tup [.str "is",j,i],us))=_;rw[m _ _ c J i h.1,pB,sG (j4 h.2),pB,Fi h.2];rfl
  | under i v=>
   unfold lZ;rw[Gu.ws,eJ];show (if _ then _ else _)=_;rw[cn (by ext y),cq (.inr rfl)];show ((wX (nb.getD i "") B).bind fun j=>(cG [.str (cu v)]).bind fun i=>(d7 [i]).bind fun t=>(cL [t]).bind fun _=>Rz.ok (D.tup [.str "under",j,i],us))=_;rw[m _ _ c J i h.1,pB,sG (j4 h.2),pB,Fi h.2];rfl
  | inn i=>
   unfold lZ;rw[Gu.ws,eJ];show (if _ then _ else _)=_;rw[if_neg (ne _ (by simp)).1,if_neg (ne _ (by simp)).2,if_pos rfl];show ((wX (nr.getD i "") R).bind fun j=>Rz.ok (D.tup [.str "in",j],us))=_;rw[m _ _ hr E i h];rfl
  | neg g=>
   unfold lZ;rw[Gu.ws,eJ];show (if _ then _ else _)=_;rw[if_neg (ne _ (by simp)).1,if_neg (ne _ (by simp)).2,if_neg (a _ (by simp)),if_pos rfl,rQ c hr J E n g us h];rfl
  | both g k=>
   unfold lZ;rw[Gu.ws,eJ];show (if _ then _ else _)=_;rw[if_neg (ne _ (by simp)).1,if_neg (ne _ (by simp)).2,if_neg (a _ (by simp)),if_neg (b _ (by simp)),if_pos (.inl rfl),List.append_assoc,rQ c hr J E n g _ h.1,pB,rQ c hr J E n k us h.2];rfl
  | either g k=>
   unfold lZ;rw[Gu.ws,eJ];show (if _ then _ else _)=_;rw[if_neg (ne _ (by simp)).1,if_neg (ne _ (by simp)).2,if_neg (a _ (by simp)),if_neg (b _ (by simp)),if_pos (.inr rfl),List.append_assoc,rQ c hr J E n g _ h.1,pB,rQ c hr J E n k us h.2];rfl
theorem Gu.wd(H:lD nb)(hr:lD nr):∀(n:Nat)(g:Gu),g.Ok nb.length nr.length n->∀ w∈g.ws nb nr,Wd w
 | 0,_,h=>h.elim
 | n+1,g,h=>by
  have m:∀(ns:aw Str)(N:lD ns)(i:Nat),i<ns.length->Wd (ns.getD i ""):=fun ns N i e=>(N.wo _ (Jb (jt e))).wd
  have k:∀ k∈[("yes" : Str),"is","under","in","not","both","either"],Wd k:=by ext y
  intro w c
  cases g with
  | yes=>exact k w (by rw[gE.mp c];simp)
  | is i v=>
   rcases jL.mp c with rfl | c
   .ext al
   rcases jL.mp c with rfl | c
   .exact m _ H i h.1
   rw[vf.mp c];exact gY (j4 h.2)
  | under i v=>
   rcases jL.mp c with rfl | c
   .ext al
   rcases jL.mp c with rfl | c
   .exact m _ H i h.1
   rw[vf.mp c];exact gY (j4 h.2)
  | inn i=>
   rcases jL.mp c with rfl | c
   .ext al
   rw[vf.mp c];exact m _ hr i h
  | neg g=>
   rcases jL.mp c with rfl | c
   .ext al
   exact Gu.wd H hr n g h w c
  | both g j=>
   rcases jL.mp c with rfl | c
   .ext al
   ext ar
  | either g j=>
   rcases jL.mp c with rfl | c
   .ext al
   ext ar
theorem Qv{z:Str}{g:Gu}{nb nr:aw Str}{B R:D}(c:lD nb)(hr:lD nr)(J:cT [B] = .ok (.lst (nb.map D.str)))(i:cT [R] = .ok (.lst (nr.map D.str)))(h:g.Ok nb.length nr.length 6)(b:Rw 0 z (g.ws nb nr)):fU [.str z,B,R] = .ok g.d:=by
 unfold fU
 show (match cJ [.str z] with
  | .ok (.lst l)=>match ue l with
   | some ws=>match lZ B R 6 ws with
    | .ok (g,[])=>Rz.ok g
    | _=>.st
   | none=>.st
  | _=>.st)=_
 rw[b.words]
 show (match ue ((g.ws nb nr).map D.str) with
   | some ws=>match lZ B R 6 ws with
    | .ok (g,[])=>Rz.ok g
    | _=>.st
   | none=>.st)=_
 rw[Ra];have:=rQ c hr J i 6 g [] h;rw[qH]at this
 show (match lZ B R 6 (g.ws nb nr) with
    | .ok (g,[])=>Rz.ok g
    | _=>.st)=_
 rw[this]
end
structure Dr where
 rm:Nat
 ev:Nat
 gu:Gu
 dd:List De
 way:Str
 goal:Option Nat
def nH:ax Nat->D
 | none=>.non
 | some g=>.int g
def Dr.d(x:Dr):D:=.tup [.int x.rm,.int x.ev,x.gu.d,.tup (x.dd.map De.d),.str x.way,nH x.goal]
structure So where
 last:Str
 hs:List D
 bs:List Bx
 es:List Str
 rs:List Rm
 ds:List Dr
def So.m(s:So):Ms:=[("last",.va (.str s.last)),("heads",.li s.hs),("boxes",.li (s.bs.map Bx.d)),("events",.li (s.es.map D.str)),("rooms",.li (s.rs.map Rm.d)),("doors",.li (s.ds.map Dr.d))]
def So.v(s:So):aw (Str×D):=s.m.map fun x=>(x.1,x.2.d)
def Ej(l k:Str):Bool:=match qG.lookup l with
 | some t=>(match inD false (.str k) t with | .ok (.fr (.bl b))=>b | _=>false)
 | none=>false
def brA(C:ar):FS:=
 (eV (aQ (aK (dJ false) (aF 2) (fC (.str "room"))))
   (qX C 0 "rooms" (aP (bU (kY C)) 2 (aD (aF 1) (aD (aF 0) aL))))
   (eV (aQ (aK (dJ false) (aF 2) (fC (.str "door"))))
   (qX C 0 "doors" (aP (bU (lB C)) 2 (aD (aP (bU cJ) 1 (aD (aF 1) aL)) (aD (aF 0) aL))))
   (eV (aQ (aK (inD false) (aF 2) (dR (aD (fC (.str "when")) (aD (fC (.str "in")) (aD (fC (.str "out")) (aD (fC (.str "do")) aL)))))))
    (Vx C 0 "add_part" (u0 (fL C)) 3 (aD (aF 2) (aD (aK bF (fM "str" uq (aF 1) (aD (fC (.str " ")) aL)) (fC (.int 2))) aL)) fun _ _ ρ=>ρ)
    (eV (aQ (aK (dJ false) (aF 2) (fC (.str "box"))))
    (qX C 0 "boxes" (aP (bU mU) 2 (aD (aP (bU cJ) 1 (aD (aF 1) aL)) (aD (lC C "boxes" (aF 0)) aL))))
    (eV (aQ (aK (dJ false) (aF 2) (fC (.str "event"))))
     (qX C 0 "events" (aP (bU jZ) 2 (aD (aP (bU cJ) 1 (aD (aF 1) aL)) (aD (lC C "events" (aF 0)) aL))))
     (qX C 0 "heads" (aP (bU iC) 2 (aD (aF 2) (aD (aP (bU cJ) 1 (aD (aF 1) aL)) aL)))))))))
section
variable{C:ar}{s s':So}{row k:Str}
def Bj(H:p6 [.str row] = .ok (.str k))(c:Ej s.last k=true)(h:brA C [.ob C s.m,.fr (.str row),.fr (.str k)] = .ok (.nx [.ob C s'.m,.fr (.str row),.fr (.str k)])):mD C s.m [.str row] = .ok (So.m { s' with last:=k },.non):=by
 obtain⟨t,E,J⟩:∃ t,qG.lookup s.last=some t/\inD false (.str k) t = .ok (.fr (.bl true)):=by
  unfold Ej at c
  split at c
  .rename_i t E
   split at c
   .rename_i b J
    exact⟨t,E,by rw[J,c]⟩
   .cases c
  .cases c
 have d:fKD qG (lC C "last" (aF 0)) [.ob C s.m,.fr (.str row),.fr (.str k)] = .ok (.fr t):=by
  have a:lC C "last" (aF 0) [.ob C s.m,.fr (.str row),.fr (.str k)] = .ok (.fr (.str s.last)):=by
   show (if C=C then _ else _)=_;rw[cq rfl];rfl
  unfold fKD;rw[a];show Uj (qG.lookup s.last)=_;rw[E];rfl
 show O6 C (XH C [.ob C s.m,.fr (.str row),.no])=_;unfold XH;rw[lF (eE (iQ (n:=1) (r:=aD (aF 1) aL) (ws:=[.fr (.str row)]) rfl H rfl (.inl rfl)) rfl)];show O6 C (aU _ (aU (brA C) _) [.ob C s.m,.fr (.str row),.fr (.str k)])=_;rw[lF (kZ (w:=.fr (.bl true)) (fO (x:=.fr (.str k)) rfl d J) rfl),lF h];show O6 C (if C=C/\s'.m.length<1000/\_ then _ else _)=_;rw[cq ⟨rfl,show 6<1000 by decide,rfl⟩];show (if C=C then _ else _)=_;rw[cq rfl];rfl
def Xz{f:Str}{e:FE}{fs:Ms}{l:aw D}{w:W}{d a b:D}(h:fs.lookup f=some (.li l))(i:e [.ob C fs,.fr a,.fr b] = .ok w)(c:w.z = .ok d)(H:l.length<1000):qX C 0 f e [.ob C fs,.fr a,.fr b] = .ok (.nx [.ob C (ji f (.li (l++[d])) fs),.fr a,.fr b]):=by show (if C=C then _ else _)=_;rw[cq rfl,h];show ((e [.ob C fs,.fr a,.fr b]).bind _)=_;rw[i,pB,c,pB,cq ⟨M7 H (zI (jC _)),rfl⟩];rfl
def fAb{f:Str}{fs:Ms}{l:aw D}{r:aw Sl}(h:fs.lookup f=some (.li l)):lC C f (aF 0) (.ob C fs::r) = .ok (.bw l):=by show (if C=C then _ else _)=_;rw[cq rfl,h]
def Jd{ws:aw Str}{o:Sl}{b:Sl}(h:Rw 0 row ws):aP (bU cJ) 1 (aD (aF 1) aL) [o,.fr (.str row),b] = .ok (.fr (.lst (ws.map D.str))):=iQ (ws:=[.fr (.str row)]) rfl h.words rfl (.inl rfl)
def Nv{ws:aw Str}(h:Rw 0 row (k::ws))(c:ws≠[])(H:rG k=false):p6 [.str row] = .ok (.str k):=by have:=h.kind (by decide) c (.inr rfl);rw[H]at this;exact this
def Hd{v:D}{z:Str}(H:k = "order" ∨ k = "letters" ∨ k = "turns")(h:Rw 0 row [k,z])(a:iC [.str k,.lst [.str k,.str z]] = .ok v)(c:Ej s.last k=true)(f:s.hs.length<=10):mD C s.m [.str row] = .ok (So.m { s with last:=k,hs:=s.hs++[v] },.non):=by
 have e:brA C [.ob C s.m,.fr (.str row),.fr (.str k)]=qX C 0 "heads" (aP (bU iC) 2 (aD (aF 2) (aD (aP (bU cJ) 1 (aD (aF 1) aL)) aL))) [.ob C s.m,.fr (.str row),.fr (.str k)]:=by rcases H with rfl | rfl | rfl <;> rfl
 refine Bj (s':={ s with hs:=s.hs++[v] }) (Nv h (by simp) (by rcases H with rfl | rfl | rfl <;> rfl)) c ?_;rw[e];exact Xz (l:=s.hs) (w:=.fr v) rfl (iQ (ws:=[.fr (.str k),.fr (.lst [.str k,.str z])]) (dF (w:=.fr (.str k)) rfl (dF (Jd h) rfl)) a rfl (.inl rfl)) rfl (by omega)
def Qu{z:Str}(h:z = "inner" ∨ z = "outer"):iC [.str "order",.lst [.str "order",.str z]] = .ok (.str z):=by rcases h with rfl | rfl <;> rfl
def O1{n:Nat}(H:k = "letters" /\ n<=12∨k = "turns" /\ 1<=n/\n<=20):iC [.str k,.lst [.str k,.str (cu n)]] = .ok (.int n):=by
 have r:cG [.str (cu n)] = .ok (.int n):=sG (n:=n) (by have:=(by decide:(20:Nat)<10 ^ 31);omega);show fin (Ci [.fr (.str k),.fr (.lst [.str k,.str (cu n)]),.no])=_;refine sN (kZ (w:=.fr (.bl true)) rfl rfl) (sF (by rcases H with ⟨rfl,_⟩ | ⟨rfl,_⟩ <;> rfl) (sN (eE (iQ (ws:=[.fr (.str (cu n))]) rfl r rfl (.inl rfl)) rfl) (sN (ρ':=[.fr (.str k),.fr (.lst [.str k,.str (cu n)]),.fr (.int n)]) ?_ rfl)))
 have c:∀ a b:Int,a<=n->n<=b->xK JG JG (fC (.int a)) (aF 2) (fC (.int b)) [.fr (.str k),.fr (.lst [.str k,.str (cu n)]),.fr (.int n)] = .ok (.fr (.bl true)):=fun a b e d=>by
  show (if decide (a<=n)=true then Rz.ok (W.fr (.bl (decide ((n:Int)<=b)))) else .ok (.fr (.bl false)))=_;rw[cq (bq e),bq d]
 rcases H with ⟨rfl,h⟩ | ⟨rfl,h⟩
 .rw[Hl rfl];exact kZ (c 0 12 (by omega) (by omega)) rfl
 .rw[M8 rfl];exact kZ (c 1 20 (by omega) (by omega)) rfl
structure Bx.Ir(b:Bx)(bs:List Bx):Prop where
 wo:Wo b.nm
 un:b.nm∉bs.map Bx.nm
 sz:1<=b.sz/\b.sz<=big
 st:0<=b.st/\b.st<b.sz
def Xp{b:Bx}{bs:aw Bx}(h:b.Ir bs)(f:bs.length<=100):jw [b.d,.lst (bs.map Bx.d)] = .ok (.bl false):=by
 show fin (uR [.fr b.d,.fr (.lst (bs.map Bx.d)),.no,.no])=_;refine sN (ρ':=[.fr b.d,.fr (.lst (bs.map Bx.d)),.fr (.int b.sz),.no]) rfl (sN (ρ':=[.fr b.d,.fr (.lst (bs.map Bx.d)),.fr (.int b.sz),.fr (.int b.st)]) rfl (sF (zc (iQ (ws:=[.fr (.str b.nm),.fr (.lst ((bs.map Bx.nm).map D.str))]) (dF (w:=.fr (.str b.nm)) rfl (dF (iQ (ws:=[.fr (.lst (bs.map Bx.d))]) rfl (zj f) rfl (.inl rfl)) rfl)) (Gp h.wo h.un) rfl (.inl rfl)) rfl) (j9 (w:=.fr (.bl (!true||!true))) (fOV (M9 ?_) fun _=>M9 ?_) rfl)))
 .show (if decide (1<=b.sz)=true then Rz.ok (W.fr (.bl (decide (b.sz<=big)))) else .ok (.fr (.bl false)))=_;rw[cq (bq h.sz.1),bq h.sz.2]
 .show (if decide (0<=b.st)=true then Rz.ok (W.fr (.bl (decide (b.st<b.sz)))) else .ok (.fr (.bl false)))=_;rw[cq (bq h.st.1),bq h.st.2]
def qA6{b:Bx}(h:Rw 0 row ["box",b.nm,cu b.sz,cu b.st])(H:b.Ir s.bs)(c:Ej s.last "box" = true)(d:s.bs.length<6):mD C s.m [.str row] = .ok (So.m { s with last := "box",bs:=s.bs++[b] },.non):=by
 have r:cG [.str (cu b.sz)] = .ok (.int b.sz):=sG (j4 ⟨by unfold big;have:=H.sz;omega,H.sz.2⟩);have g:cG [.str (cu b.st)] = .ok (.int b.st):=sG (j4 ⟨by unfold big;have:=H.st;omega,by have:=H.sz;have:=H.st;omega⟩)
 have t:mU [.lst ([("box" : Str),b.nm,cu b.sz,cu b.st].map D.str),.lst (s.bs.map Bx.d)] = .ok b.d:=by
  show fin (Gi [.fr (.lst [.str "box",.str b.nm,.str (cu b.sz),.str (cu b.st)]),.fr (.lst (s.bs.map Bx.d)),.no])=_;refine sN (kZ (Ux (p:=true) (q:=true) rfl fun _=>fO (JQ rfl (.inl rfl)) (y:=.fr (.int 6)) rfl ?_) rfl) (sN (eE (xY (l:=[.str b.nm,.int b.sz,.int b.st]) (dF (w:=.fr (.str b.nm)) rfl (dF (iQ (ws:=[.fr (.str (cu b.sz))]) rfl r rfl (.inl rfl)) (dF (iQ (ws:=[.fr (.str (cu b.st))]) rfl g rfl (.inl rfl)) rfl))) rfl (by show 3<=1000;decide)) rfl) (sN (kZ (M9 (iQ (ws:=[.fr b.d,.fr (.lst (s.bs.map Bx.d))]) rfl (Xp H (by omega)) rfl (.inl rfl))) rfl) rfl));show Rz.ok (W.fr (.bl (decide (((s.bs.map Bx.d).length:Int)<6))))=_;rw[fH,bq (by omega)]
 refine Bj (s':={ s with bs:=s.bs++[b] }) (Nv h (by simp) rfl) c ?_;have z:=Xz (C:=C) (f := "boxes") (e:=aP (bU mU) 2 (aD (aP (bU cJ) 1 (aD (aF 1) aL)) (aD (lC C "boxes" (aF 0)) aL))) (fs:=s.m) (l:=s.bs.map Bx.d) (w:=.fr b.d) (a:=.str row) (b:=.str "box") rfl (iQ (ws:=[.fr (.lst ([("box" : Str),b.nm,cu b.sz,cu b.st].map D.str)),.bw (s.bs.map Bx.d)]) (dF (Jd h) (dF (fAb rfl) rfl)) t rfl (.inr rfl)) rfl (by rw[fH];omega);rw[show s.bs.map Bx.d++[b.d]=(s.bs++[b]).map Bx.d by rw[vd];rfl]at z;exact z
def V7{z:Str}(h:Rw 0 row ["event",z])(c:Wo z)(H:z∉s.es)(d:Ej s.last "event" = true)(g:s.es.length<8):mD C s.m [.str row] = .ok (So.m { s with last := "event",es:=s.es++[z] },.non):=by
 have t:jZ [.lst ([("event" : Str),z].map D.str),.lst (s.es.map D.str)] = .ok (.str z):=by
  show fin (za [.fr (.lst [.str "event",.str z]),.fr (.lst (s.es.map D.str))])=_;refine sN (kZ (Ux (p:=true) (q:=true) rfl fun _=>fO (JQ rfl (.inl rfl)) (y:=.fr (.int 8)) rfl ?_) rfl) (sN (kZ (M9 (iQ (ws:=[.fr (.str z),.fr (.lst (s.es.map D.str))]) rfl (Gp c H) rfl (.inl rfl))) rfl) rfl);show Rz.ok (W.fr (.bl (decide (((s.es.map D.str).length:Int)<8))))=_;rw[fH,bq (by omega)]
 refine Bj (s':={ s with es:=s.es++[z] }) (Nv h (by simp) rfl) d ?_;have q:=Xz (C:=C) (f := "events") (e:=aP (bU jZ) 2 (aD (aP (bU cJ) 1 (aD (aF 1) aL)) (aD (lC C "events" (aF 0)) aL))) (fs:=s.m) (l:=s.es.map D.str) (w:=.fr (.str z)) (a:=.str row) (b:=.str "event") rfl (iQ (ws:=[.fr (.lst ([("event" : Str),z].map D.str)),.bw (s.es.map D.str)]) (dF (Jd h) (dF (fAb rfl) rfl)) t rfl (.inr rfl)) rfl (by rw[fH];omega);rw[show s.es.map D.str++[.str z]=(s.es++[z]).map D.str by rw[vd];rfl]at q;exact q
end
def Hm{r:FA}{ρ:aw Sl}{ws:aw W}{l:aw D}(h:r ρ = .ok ws)(b:zL ws = .ok l)(f:l.length<=1000):eX r ρ = .ok (.ow l):=by unfold eX;rw[h,pB,b,pB,cq (zI f)]
theorem De.nl:∀ l:aw De,Qo (l.map De.d)=true
 | []=>rfl
 | e::l=>by
  show (e.d.nl&&Qo (l.map De.d))=true;rw[De.nl l]
  cases e <;> rfl
def Rm.nl(r:Rm):r.d.nl=true:=by show (true&&(true&&(true&&(true&&(true&&(Qo (r.ins.map De.d)&&(Qo (r.outs.map De.d)&&true)))))))=true;rw[De.nl,De.nl];rfl
def Dr.nl(x:Dr):x.d.nl=true:=by
 show (true&&(true&&(x.gu.d.nl&&(Qo (x.dd.map De.d)&&(true&&((nH x.goal).nl&&true))))))=true;rw[De.nl,Gu.nl]
 cases x.goal <;> rfl
section
variable{C:ar}{s:So}{row:Str}
def Jw{r:Rm}(h:Rw (2*r.dp) row r.ws)(H:r.Ir s.rs)(f:s.rs.length<40):kY C [.str row,.obj C s.v] = .ok r.bare.d:=by
 have v1:∀ a b:Sl,aF 1 [.fr (.str row),.fr (.obj C s.v),a,b] = .ok (.fr (.obj C s.v)):=fun _ _=>rfl;show fin (CT C [.fr (.str row),.fr (.obj C s.v),.no,.no])=_;refine sN (eE (R3 (d:=.lst (s.rs.map Rm.d)) (v1 _ _) rfl) rfl) (sN (eE (iQ (ws:=[.fr (.str row)]) rfl (Pu h (by have:=H.low;omega)) rfl (.inl rfl)) rfl) (sN (ρ':=[.fr (.str row),.fr (.obj C s.v),.fr (.lst (s.rs.map Rm.d)),.fr r.bare.d]) (kZ (Ux (p:=true) (q:=true) (fO (JQ (l:=s.rs.map Rm.d) rfl (.inl rfl)) (y:=.fr (.int 40)) rfl ?_) fun _=>M9 (iQ (ws:=[.fr r.bare.d,.fr (.lst (s.rs.map Rm.d)),.fr (.lst (s.bs.map Bx.d)),.fr (.lst (s.es.map D.str))]) (dF (w:=.fr r.bare.d) rfl (dF (w:=.fr (.lst (s.rs.map Rm.d))) rfl (dF (R3 (v1 _ _) rfl) (dF (R3 (v1 _ _) rfl) rfl)))) (Tt H (by omega)) rfl (.inl rfl))) rfl) (sN (kZ (w:=.fr (.bl true)) ?_ rfl) rfl)))
 .show Rz.ok (W.fr (.bl (decide (((s.rs.map Rm.d).length:Int)<40))))=_;rw[fH,bq (by omega)]
 .rcases eS s.rs with e | ⟨R,l,e⟩
  .rw[e];rfl
  .rw[eI]at e;obtain⟨_,_,c⟩:=H.dp l (by rw[e,fw];rfl);rw[e,vd];refine fOV (p:=false) (q:=true) (fO (JQ (l:=R.map Rm.d++[l.d]) rfl (.inl rfl)) (y:=.fr (.int 0)) rfl ?_) fun _=>M9 (iQ (ws:=[.fr l.d,.fr (.lst [r.bare.d])]) (dF (w:=.fr l.d) (fO (x:=.fr (.lst (R.map Rm.d++[l.d]))) (y:=.fr (.int (-1))) rfl rfl (ixE _)) (dF (w:=.ow [r.bare.d]) ?_ rfl)) (end_is l c) rfl (.inl rfl))
   .show Rz.ok (W.fr (.bl ((((R.map Rm.d++[l.d]).length:Int)==0) != false)))=_;rw[cE.mpr (by rw[fA];simp;omega)];rfl
   .exact Hm (ws:=[.fr r.bare.d]) rfl rfl (hV rfl)
def Y4{r:Rm}(h:Rw (2*r.dp) row r.ws)(H:r.Ir s.rs)(d:Ej s.last "room" = true)(c:s.rs.length<40):mD C s.m [.str row] = .ok (So.m { s with last := "room",rs:=s.rs++[r.bare] },.non):=by have k:=Rw.kind (k:=r.kd) (ws:=r.nm::(Df "keeps" r.kp++Df "lamp" r.lp)) h (by have:=H.low;omega) (by simp) (.inl H.kd);rw[cq H.kd]at k;refine Bj (s':={ s with rs:=s.rs++[r.bare] }) k d ?_;have z:=Xz (C:=C) (f := "rooms") (e:=aP (bU (kY C)) 2 (aD (aF 1) (aD (aF 0) aL))) (fs:=s.m) (l:=s.rs.map Rm.d) (w:=.fr r.bare.d) (a:=.str row) (b:=.str "room") rfl (iQ (ws:=[.fr (.str row),.bj C s.m]) rfl (Jw h H c) rfl (.inr (Rm.nl _))) rfl (by rw[fH];omega);rw[show s.rs.map Rm.d++[r.bare.d]=(s.rs++[r.bare]).map Rm.d by rw[vd];rfl]at z;exact z
def GD{R:aw Rm}{l:Rm}(e:s.rs=R++[l])(h:l.kd = "plain"):iu C [.obj C s.v] = .ok (.bl true):=by
 have a:lC C "rooms" (aF 0) [.fr (.obj C s.v)] = .ok (.fr (.lst (R.map Rm.d++[l.d]))):=R3 (fs:=s.v) rfl (by show some (D.lst (s.rs.map Rm.d))=_;rw[e,vd];rfl);show fin (bO _ [.fr (.obj C s.v)])=_;refine j9 (w:=.fr (.bl (true&&true))) (Ux (fO (JQ a (.inl rfl)) (y:=.fr (.int 0)) rfl ?_) fun _=>M9 (p:=false) (iQ (ws:=[.fr l.d,.fr (.lst [])]) (dF (w:=.fr l.d) (fO a (y:=.fr (.int (-1))) rfl (ixE _)) rfl) ?_ rfl (.inl rfl))) rfl
 .show Rz.ok (W.fr (.bl (decide ((0:Int)<(R.map Rm.d++[l.d]).length))))=_;rw[bq (by rw[fA];simp)]
 .obtain⟨_,d,_,_,_,i,o⟩:=l
  cases (show d = "plain" from h)
  rfl
structure Dr.Ir(x:Dr)(bs:List Bx)(es:List Str)(rs:List Rm):Prop where
 rm:x.rm<rs.length
 ev:x.ev<es.length
 go:x.way = "to" /\ (∃ g,x.goal=some g/\g<rs.length)∨x.way = "back" /\ (∃ g r,x.goal=some g/\rs[g]? = some r/\r.kp ≠ "")∨x.way = "stay" /\ x.goal=none
def Dr.bare(x:Dr):Dr:={ x with gu:=.yes,dd:=[] }
def Dr.ws(nr es:aw Str)(x:Dr):aw Str:=[("door" : Str),nr.getD x.rm "",es.getD x.ev "",x.way]++(match x.goal with
 | none=>[]
 | some g=>[nr.getD g ""])
def ZP{x:Dr}{bs:aw Bx}{es:aw Str}{rs:aw Rm}(h:x.Ir bs es rs):jY [.str x.way,nH x.goal,.lst (rs.map Rm.d)] = .ok (.bl false):=by
 show fin (sW [.fr (.str x.way),.fr (nH x.goal),.fr (.lst (rs.map Rm.d))])=_;have n:∀ g:Nat,g<rs.length->∀ w:D,aP (bU bh) 2 (aD (aF 1) (aD (aF 2) aL)) [.fr w,.fr (.int g),.fr (.lst (rs.map Rm.d))] = .ok (.fr (.bl true)):=fun g Q w=>iQ (ws:=[.fr (.int g),.fr (.lst (rs.map Rm.d))]) rfl (Sg (by rw[fH];exact Q)) rfl (.inl rfl);rcases h.go with ⟨e,g,E,Q⟩ | ⟨e,g,r,E,i,k⟩ | ⟨e,E⟩
 .rw[e,E];exact sT rfl (Jy (M9 (n g Q _)))
 .rw[e,E];refine sF rfl (sT rfl (Jy (d:=.bl false) (fOV (p:=false) (q:=false) (M9 (p:=true) (n g (rO.mp i).1 _)) fun _=>fO (x:=.fr (.str r.kp)) (y:=.fr (.str "")) (fO (x:=.fr r.d) (y:=.fr (.int 3)) (fO (x:=.fr (.lst (rs.map Rm.d))) (y:=.fr (.int g)) rfl rfl (zz (by rw[jf,i];rfl)).1) rfl rfl) rfl ?_)));show Rz.ok (W.fr (.bl ((r.kp == "") != false)))=_;rw[cE.mpr k];rfl
 .rw[e,E];rfl
def V1{x:Dr}{bs:aw Bx}{es:aw Str}{rs:aw Rm}(h:x.Ir bs es rs):jb [x.bare.d,.lst (bs.map Bx.d),.lst (es.map D.str),.lst (rs.map Rm.d)] = .ok (.bl false):=by have n:∀ {α:Type} (f:α->D) (l:aw α) (i:Nat),i<l.length->bh [.int i,.lst (l.map f)] = .ok (.bl true):=fun f l i e=>Sg (by rw[fH];exact e);show fin (sX [.fr x.bare.d,.fr (.lst (bs.map Bx.d)),.fr (.lst (es.map D.str)),.fr (.lst (rs.map Rm.d))])=_;refine sF (O9 (p:=false) (q:=false) (R1 (p:=true) (zc (iQ (ws:=[.fr (.int x.rm),.fr (.lst (rs.map Rm.d))]) rfl (n _ rs _ h.rm) rfl (.inl rfl)) rfl)) fun _=>R1 (p:=true) (zc (iQ (ws:=[.fr (.int x.ev),.fr (.lst (es.map D.str))]) rfl (n _ es _ h.ev) rfl (.inl rfl)) rfl)) (sF (O9 (p:=false) (q:=false) (zc (iQ (ws:=[.fr (.tup [.str "yes"]),.fr (.lst (bs.map Bx.d)),.fr (.lst (rs.map Rm.d))]) rfl (d:=.bl false) ?_ rfl (.inl rfl)) rfl) fun _=>rfl) (j9 (iQ (ws:=[.fr (.str x.way),.fr (nH x.goal),.fr (.lst (rs.map Rm.d))]) rfl (ZP h) rfl (.inl rfl)) rfl));show (if ("yes" : Str) = "yes" then Rz.ok (D.bl false) else .st)=_;exact cq rfl
theorem LR{x:Dr}(hr:lD (s.rs.map Rm.nm))(H:lD s.es)(h:x.Ir s.bs s.es s.rs)(f:s.ds.length<60){R:aw Rm}{l:Rm}(e:s.rs=R++[l])(k:l.kd = "plain"):lB C [.lst ((x.ws (s.rs.map Rm.nm) s.es).map D.str),.obj C s.v] = .ok x.bare.d:=by
 have j:s.rs.length<=100:=by have:=hr.few;rwa [fH]at this
 have nr:∀ i,i<s.rs.length->bf [.str ((s.rs.map Rm.nm).getD i ""),.lst ((s.rs.map Rm.nm).map D.str)] = .ok (.int i):=fun i h=>uw hr.nd (by have:=hr.few;omega) (jt (by rw[fH];exact h));have ne:=uw H.nd (by have:=H.few;omega) (jt h.ev);have N:cT [.lst (s.rs.map Rm.d)] = .ok (.lst ((s.rs.map Rm.nm).map D.str)):=yr (fun _=>⟨_,rfl⟩) (by omega);generalize c:D.lst ((x.ws (s.rs.map Rm.nm) s.es).map D.str)=w;have v1:∀ r:aw Sl,aF 1 (.fr w::.fr (.obj C s.v)::r) = .ok (.fr (.obj C s.v)):=fun _=>rfl
 have m:∀ r:aw Sl,OJ C "may_end" (bU (iu C)) 1 (aF 1) aL (.fr w::.fr (.obj C s.v)::r) = .ok (.fr (.bl true)):=fun r=>by
  show (if C=C/\s.v.lookup ("may_end" : Str)=none then _ else _)=_;rw[cq ⟨rfl,rfl⟩];exact iQ (ws:=[.fr (.obj C s.v)]) rfl (GD e k) rfl (.inl rfl)
 show fin (Cj C [.fr w,.fr (.obj C s.v),.no,.no,.no])=_
 have g:YS (aQ (aK (dJ false) (dY cY (aD (aF 0) aL)) (fC (.int 5)))) (aP (bU bf) 2 (aD (aK bF (aF 0) (fC (.int 4))) (aD (aF 2) aL))) (fC .non) [.fr w,.fr (.obj C s.v),.fr (.lst ((s.rs.map Rm.nm).map D.str)),.no,.no] = .ok (.fr (nH x.goal)):=by
  rw[<-c];unfold Dr.ws
  have G:∀ g,x.goal=some g->g<s.rs.length:=fun g a=>by
   rcases h.go with ⟨_,g',E,Q⟩ | ⟨_,g',r,E,d,_⟩ | ⟨_,E⟩ <;> rw[a]at E <;> cases E
   .exact Q
   .exact (rO.mp d).1
  cases a:x.goal with
  | none=>exact ieF rfl
  | some g=>rw[ieT rfl];exact iQ (ws:=[.fr (.str ((s.rs.map Rm.nm).getD g "")),.fr (.lst ((s.rs.map Rm.nm).map D.str))]) rfl (nr g (G g a)) rfl (.inl rfl)
 have I:∀(i:Nat)(z:Str)(r:aw Sl),(x.ws (s.rs.map Rm.nm) s.es)[i]? = some z->aK bF (aF 0) (fC (.int i)) (.fr w::r) = .ok (.fr (.str z)):=fun i z r b=>fO (x:=.fr w) (y:=.fr (.int i)) rfl rfl (by rw[<-c];exact (zz (by rw[jf,b];rfl)).1);refine sN (kZ (Ux (p:=true) (q:=true&&true) (by rw[<-c];unfold Dr.ws;cases x.goal <;> rfl) fun _=>Ux (fO (JQ (l:=s.ds.map Dr.d) (R3 (v1 _) rfl) (.inl rfl)) (y:=.fr (.int 60)) rfl ?_) fun _=>m _) rfl) (sN (eE (iQ (ws:=[.fr (.lst (s.rs.map Rm.d))]) (dF (R3 (v1 _) rfl) rfl) N rfl (.inl rfl)) rfl) (sN (eE g rfl) (sN (ρ':=[.fr w,.fr (.obj C s.v),.fr (.lst ((s.rs.map Rm.nm).map D.str)),.fr (nH x.goal),.fr x.bare.d]) (eE (w:=.fr x.bare.d) (xY (ws:=[.fr (.int x.rm),.fr (.int x.ev),.fr (.tup [.str "yes"]),.fr (.tup []),.fr (.str x.way),.fr (nH x.goal)]) ?_ rfl (by show 6<=1000;decide)) rfl) (sN (kZ (M9 (iQ (ws:=[.fr x.bare.d,.fr (.lst (s.bs.map Bx.d)),.fr (.lst (s.es.map D.str)),.fr (.lst (s.rs.map Rm.d))]) (dF (w:=.fr x.bare.d) rfl (dF (R3 (v1 _) rfl) (dF (R3 (v1 _) rfl) (dF (R3 (v1 _) rfl) rfl)))) (V1 h) rfl (.inl rfl))) rfl) rfl))))
 .show Rz.ok (W.fr (.bl (decide (((s.ds.map Dr.d).length:Int)<60))))=_;rw[fH,bq (by omega)]
 .exact dF (iQ (ws:=[.fr (.str ((s.rs.map Rm.nm).getD x.rm "")),.fr (.lst ((s.rs.map Rm.nm).map D.str))]) (dF (I 1 _ _ (by unfold Dr.ws;cases x.goal <;> rfl)) rfl) (nr _ h.rm) rfl (.inl rfl)) (dF (iQ (ws:=[.fr (.str (s.es.getD x.ev "")),.fr (.lst (s.es.map D.str))]) (dF (I 2 _ _ (by unfold Dr.ws;cases x.goal <;> rfl)) (dF (R3 (v1 _) rfl) rfl)) ne rfl (.inl rfl)) (dF (w:=.fr (.tup [.str "yes"])) (xY (ws:=[.fr (.str "yes")]) rfl rfl (Nat.le_of_ble_eq_true rfl)) (dF (w:=.fr (.tup [])) (xY (ws:=[]) rfl rfl (Nat.le_of_ble_eq_true rfl)) (dF (I 3 _ _ (by unfold Dr.ws;cases x.goal <;> rfl)) rfl))))
def Y5{x:Dr}(hr:lD (s.rs.map Rm.nm))(i:lD s.es)(H:Rw 0 row (x.ws (s.rs.map Rm.nm) s.es))(h:x.Ir s.bs s.es s.rs)(d:s.ds.length<60)(c:Ej s.last "door" = true){R:aw Rm}{l:Rm}(e:s.rs=R++[l])(k:l.kd = "plain"):mD C s.m [.str row] = .ok (So.m { s with last := "door",ds:=s.ds++[x.bare] },.non):=by refine Bj (s':={ s with ds:=s.ds++[x.bare] }) (Nv H (by simp) rfl) c ?_;have z:=Xz (C:=C) (f := "doors") (e:=aP (bU (lB C)) 2 (aD (aP (bU cJ) 1 (aD (aF 1) aL)) (aD (aF 0) aL))) (fs:=s.m) (l:=s.ds.map Dr.d) (w:=.fr x.bare.d) (a:=.str row) (b:=.str "door") rfl (iQ (ws:=[.fr (.lst ((x.ws (s.rs.map Rm.nm) s.es).map D.str)),.bj C s.m]) (dF (Jd H) rfl) (LR hr i h d e k) rfl (.inr (Dr.nl _))) rfl (by rw[fH];omega);rw[show s.ds.map Dr.d++[x.bare.d]=(s.ds++[x.bare]).map Dr.d by rw[vd];rfl]at z;exact z
end
def eqI{ng:Bool}{d e:D}(a:d.dep<=60)(H:d.pl=true)(h:e.pl=true):dJ ng d e = .ok (.fr (.bl (su d e != ng))):=cq ⟨a,H,h⟩
def Dw{l m:aw D}(h:l.length+m.length<=1000):aa (.tup l) (.tup m) = .ok (.fr (.tup (l++m))):=cq (zI h)
def Vb(f:l.length<8)(p:pre.length<=10)(q:post.length<=10):qL [.tup (pre ++ .tup l::post),.int pre.length,e] = .ok (.tup (pre ++ .tup (l++[e])::post)):=by
 have I:aK bF (aF 0) (aF 1) [.fr (.tup (pre ++ .tup l::post)),.fr (.int pre.length),.fr e] = .ok (.fr (.tup l)):=fO (x:=.fr (.tup (pre ++ .tup l::post))) (y:=.fr (.int pre.length)) rfl rfl (zz (by simp)).2
 have r:cutD (pre ++ .tup l::post) none (some (pre.length:Int))=pre:=by
  unfold cutD;rw[HT.yX,HT.Ec,jB,ip (by omega)];simp
 have C:cutD (pre ++ .tup l::post) (some ((pre.length:Int)+1)) none=post:=by
  unfold cutD;rw[HT.yX,show (pre.length:Int)+1=((pre.length+1:Nat):Int) by omega,HT.Ec,jB,gH,ip (by omega)];simp;exact zl9 (by omega)
 show fin (CQ [.fr (.tup (pre ++ .tup l::post)),.fr (.int pre.length),.fr e])=_;refine sN (kZ (fO (JQ I (.inr rfl)) (y:=.fr (.int 8)) (z:=.ok (.fr (.bl true))) rfl ?_) rfl) (j9 (w:=.fr (.tup (pre++[D.tup (l++[e])]++post))) (fO (x:=.fr (.tup (pre++[D.tup (l++[e])]))) (y:=.fr (.tup post)) (fO (x:=.fr (.tup pre)) (y:=.fr (.tup [.tup (l++[e])])) ?_ (xY (ws:=[.fr (.tup (l++[e]))]) (dF (w:=.fr (.tup (l++[e]))) (fO I (y:=.fr (.tup [e])) (xY (ws:=[.fr e]) rfl rfl (hV rfl)) (Dw (l:=l) (m:=[e]) (by show l.length+1<=1000;omega))) rfl) rfl (hV rfl)) (Dw (l:=pre) (m:=[D.tup (l++[e])]) (by show pre.length+1<=1000;omega))) ?_ (Dw (l:=pre++[D.tup (l++[e])]) (m:=post) (by rw[jB];show pre.length+1+post.length<=1000;omega))) (by show Rz.ok (D.tup ((pre++[.tup (l++[e])])++post))=_;rw[bS];rfl))
 .show Rz.ok (W.fr (.bl (decide ((l.length:Int)<8))))=_;rw[bq (by omega)]
 .show Rz.ok (W.fr (.tup (cutD (pre ++ .tup l::post) none (some (pre.length:Int)))))=_;rw[r]
 .show Rz.ok (W.fr (.tup (cutD (pre ++ .tup l::post) (some ((pre.length:Int)+1)) none)))=_;rw[C]
def Gu.isY:Gu->Bool
 | .yes=>true
 | _=>false
theorem Gu.plain{b r:Nat}:∀ {n:Nat} {g:Gu},g.Ok b r n->g.d.dep<=n/\g.d.pl=true
 | 0,_,h=>h.elim
 | n+1,g,h=>by
  cases g with
  | yes=>exact⟨iX (bb _),rfl⟩
  | is _ _=>exact⟨iX (bb _),rfl⟩
  | under _ _=>exact⟨iX (bb _),rfl⟩
  | inn _=>exact⟨iX (bb _),rfl⟩
  | neg g=>
   obtain⟨a,H⟩:=Gu.plain (g:=g) h;exact⟨by show max 0 (max g.d.dep 0)+1<=_;omega,by show (true&&(g.d.pl&&true))=true;rw[H];rfl⟩
  | both g k=>
   obtain⟨a,H⟩:=Gu.plain (g:=g) h.1;obtain⟨d,c⟩:=Gu.plain (g:=k) h.2;exact⟨by show max 0 (max g.d.dep (max k.d.dep 0))+1<=_;omega,by show (true&&(g.d.pl&&(k.d.pl&&true)))=true;rw[H,c];rfl⟩
  | either g k=>
   obtain⟨a,H⟩:=Gu.plain (g:=g) h.1;obtain⟨d,c⟩:=Gu.plain (g:=k) h.2;exact⟨by show max 0 (max g.d.dep (max k.d.dep 0))+1<=_;omega,by show (true&&(g.d.pl&&(k.d.pl&&true)))=true;rw[H,c];rfl⟩
def qD4{a b c d e f:D}{g:Gu}{p q:Nat}(h:g.Ok p q 6)(T:g.isY=false):o7 [.tup [a,b,c,d,e,f],g.d] = .ok (.tup [a,b,g.d,d,e,f]):=by
 obtain⟨_,H⟩:=Gu.plain h
 have ne:su g.d (.tup [.str "yes"])=false:=by cases g <;> first | rfl | cases T
 show fin (yx [.fr (.tup [a,b,c,d,e,f]),.fr g.d])=_;refine sN (kZ (w:=.fr (.bl true)) (fO (x:=.fr g.d) (y:=.fr (.tup [.str "yes"])) rfl (xY (ws:=[.fr (.str "yes")]) rfl rfl (hV rfl)) ?_) rfl) (j9 (fO (fO (x:=.fr (.tup [a,b])) (y:=.fr (.tup [g.d])) rfl (xY (ws:=[.fr g.d]) rfl rfl (hV rfl)) (Dw (hV rfl))) (y:=.fr (.tup [d,e,f])) rfl (Dw (hV rfl))) rfl);rw[show dJ true (W.fr g.d).d (W.fr (.tup [.str "yes"])).d=_ from eqI (by show g.d.dep<=60;omega) H rfl,show su (W.fr g.d).d (W.fr (.tup [.str "yes"])).d=false from ne];rfl
def Ei(E:fs.lookup x=some (.li (l++[d])))(e:fs.lookup y=some (.li m))(U:fs.lookup z=some (.li n))(H:f d (.lst m) (.lst n) = .ok d')(h:d'.nl=true):lg fs x y z f = .ok (ji x (.li (l++[d'])) fs,.non):=by
 unfold lg;rw[E,e,U]
 dsimp only
 rw[fw]
 dsimp only
 rw[H]
 dsimp only
 rw[if_pos h,List.length_append,show l.length+[d].length-1=l.length by simp];simp
section
variable{C:ar}{s s':So}{row k:Str}{ws:aw Str}
def qx(H:k = "when" ∨ k = "in" ∨ k = "out" ∨ k = "do")(h:Rw 0 row (k::ws))(c:ws≠[])(a:Ej s.last k=true)(d:∀ z,Rw 0 z ws->fL C s.m [.str k,.str z] = .ok (s'.m,.non)):mD C s.m [.str row] = .ok (So.m { s' with last:=k },.non):=by
 obtain⟨z,b,ep⟩:=h.part c;refine Bj (s':=s') (Nv h c (by rcases H with rfl | rfl | rfl | rfl <;> rfl)) a ?_
 have e:brA C [.ob C s.m,.fr (.str row),.fr (.str k)]=Vx C 0 "add_part" (u0 (fL C)) 3 (aD (aF 2) (aD (aK bF (fM "str" uq (aF 1) (aD (fC (.str " ")) aL)) (fC (.int 2))) aL)) (fun _ _ ρ=>ρ) [.ob C s.m,.fr (.str row),.fr (.str k)]:=by rcases H with rfl | rfl | rfl | rfl <;> rfl
 rw[e];show (if C=C/\s.m.lookup ("add_part" : Str)=none then _ else _)=_;rw[cq ⟨rfl,rfl⟩,dF (w:=.fr (.str k)) (r:=aD _ aL) (ws:=[.fr (.str z)]) rfl (dF (w:=.fr (.str z)) (fO (x:=.fr (.tup [.str k,.str " ",.str z])) (y:=.fr (.int 2)) ep rfl rfl) rfl)];show ((u0 (fL C) s.m [.str k,.str z]).bind _)=_;unfold u0;rw[d z b];rfl
def qCY(c:lD (s.bs.map Bx.nm))(i:lD s.es)(j:e.Ok s.bs s.es.length)(h:Rw 0 row ("in" :: e.ws (s.bs.map Bx.nm) s.es))(H:Ej s.last "in" = true)(hr:s.rs=rs'++[r])(a:r.ins.length<8):mD C s.m [.str row] = .ok (So.m { s with last := "in",rs:=rs'++[{ r with ins:=r.ins++[e] }] },.non):=by
 refine qx (s':={ s with rs:=rs'++[{ r with ins:=r.ins++[e] }] }) (by simp) h (by cases e <;> simp [De.ws]) H fun z b=>?_;show lg s.m "rooms" "boxes" "events" (pY (.str z) 5)=_;have w:=Vb (pre:=[.str r.nm,.str r.kd,.int r.dp,.str r.kp,.str r.lp]) (l:=r.ins.map De.d) (post:=[.tup (r.outs.map De.d)]) (e:=e.d) (by rw[fH];exact a) (hV rfl) (hV rfl)
 have:=Ei (fs:=s.m) (x := "rooms") (y := "boxes") (z := "events") (f:=pY (.str z) 5) (l:=rs'.map Rm.d) (d:=r.d) (d':=Rm.d { r with ins:=r.ins++[e] }) (by show some (Fm.li (s.rs.map Rm.d))=_;rw[hr,vd];rfl) rfl rfl (by
  unfold pY;ext au;rw[show (r.ins.map De.d)++[e.d]=(r.ins++[e]).map De.d by rw[vd];rfl]
  rfl) (Rm.nl _)
 rw[this];show Rz.ok (ji "rooms" (.li (rs'.map Rm.d++[Rm.d { r with ins:=r.ins++[e] }])) s.m,D.non)=_;rw[show rs'.map Rm.d++[Rm.d { r with ins:=r.ins++[e] }]=(rs'++[{ r with ins:=r.ins++[e] }]).map Rm.d by rw[vd];rfl];rfl
def qA5(c:lD (s.bs.map Bx.nm))(i:lD s.es)(j:e.Ok s.bs s.es.length)(h:Rw 0 row ("out" :: e.ws (s.bs.map Bx.nm) s.es))(H:Ej s.last "out" = true)(hr:s.rs=rs'++[r])(a:r.outs.length<8):mD C s.m [.str row] = .ok (So.m { s with last := "out",rs:=rs'++[{ r with outs:=r.outs++[e] }] },.non):=by
 refine qx (s':={ s with rs:=rs'++[{ r with outs:=r.outs++[e] }] }) (by simp) h (by cases e <;> simp [De.ws]) H fun z b=>?_;show lg s.m "rooms" "boxes" "events" (pY (.str z) 6)=_;have w:=Vb (pre:=[.str r.nm,.str r.kd,.int r.dp,.str r.kp,.str r.lp,.tup (r.ins.map De.d)]) (l:=r.outs.map De.d) (post:=[]) (e:=e.d) (by rw[fH];exact a) (hV rfl) (hV rfl)
 have:=Ei (fs:=s.m) (x := "rooms") (y := "boxes") (z := "events") (f:=pY (.str z) 6) (l:=rs'.map Rm.d) (d:=r.d) (d':=Rm.d { r with outs:=r.outs++[e] }) (by show some (Fm.li (s.rs.map Rm.d))=_;rw[hr,vd];rfl) rfl rfl (by
  unfold pY;ext au;rw[show (r.outs.map De.d)++[e.d]=(r.outs++[e]).map De.d by rw[vd];rfl]
  rfl) (Rm.nl _)
 rw[this];show Rz.ok (ji "rooms" (.li (rs'.map Rm.d++[Rm.d { r with outs:=r.outs++[e] }])) s.m,D.non)=_;rw[show rs'.map Rm.d++[Rm.d { r with outs:=r.outs++[e] }]=(rs'++[{ r with outs:=r.outs++[e] }]).map Rm.d by rw[vd];rfl];rfl
def qCZ(c:lD (s.bs.map Bx.nm))(i:lD s.es)(j:e.Ok s.bs s.es.length)(h:Rw 0 row ("do" :: e.ws (s.bs.map Bx.nm) s.es))(H:Ej s.last "do" = true)(hr:s.ds=ds'++[x])(a:x.dd.length<8):mD C s.m [.str row] = .ok (So.m { s with last := "do",ds:=ds'++[{ x with dd:=x.dd++[e] }] },.non):=by
 refine qx (s':={ s with ds:=ds'++[{ x with dd:=x.dd++[e] }] }) (by simp) h (by cases e <;> simp [De.ws]) H fun z b=>?_;show lg s.m "doors" "boxes" "events" (pY (.str z) 3)=_;have w:=Vb (pre:=[.int x.rm,.int x.ev,x.gu.d]) (l:=x.dd.map De.d) (post:=[.str x.way,nH x.goal]) (e:=e.d) (by rw[fH];exact a) (hV rfl) (hV rfl)
 have:=Ei (fs:=s.m) (x := "doors") (y := "boxes") (z := "events") (f:=pY (.str z) 3) (l:=ds'.map Dr.d) (d:=x.d) (d':=Dr.d { x with dd:=x.dd++[e] }) (by show some (Fm.li (s.ds.map Dr.d))=_;rw[hr,vd];rfl) rfl rfl (by
  unfold pY;ext au;rw[show (x.dd.map De.d)++[e.d]=(x.dd++[e]).map De.d by rw[vd];rfl]
  rfl) (Dr.nl _)
 rw[this];show Rz.ok (ji "doors" (.li (ds'.map Dr.d++[Dr.d { x with dd:=x.dd++[e] }])) s.m,D.non)=_;rw[show ds'.map Dr.d++[Dr.d { x with dd:=x.dd++[e] }]=(ds'++[{ x with dd:=x.dd++[e] }]).map Dr.d by rw[vd];rfl];rfl
def Y0(c:lD (s.bs.map Bx.nm))(hr:lD (s.rs.map Rm.nm))(j:g.Ok s.bs.length s.rs.length 6)(T:g.isY=false)(h:Rw 0 row ("when" :: g.ws (s.bs.map Bx.nm) (s.rs.map Rm.nm)))(H:Ej s.last "when" = true)(hd:s.ds=ds'++[x]):mD C s.m [.str row] = .ok (So.m { s with last := "when",ds:=ds'++[{ x with gu:=g }] },.non):=by
 have bl:=c.few;have R:=hr.few;rw[fH]at bl R;refine qx (s':={ s with ds:=ds'++[{ x with gu:=g }] }) (by simp) h (by cases g <;> simp [Gu.ws]) H fun z b=>?_;show lg s.m "doors" "boxes" "rooms" (wj (.str z))=_
 have:=Ei (fs:=s.m) (x := "doors") (y := "boxes") (z := "rooms") (f:=wj (.str z)) (l:=ds'.map Dr.d) (d:=x.d) (d':=Dr.d { x with gu:=g }) (by show some (Fm.li (s.ds.map Dr.d))=_;rw[hd,vd];rfl) rfl rfl (by
  unfold wj;rw[Qv c hr (zj bl) (yr (f:=Rm.d) (g:=Rm.nm) (fun _=>⟨_,rfl⟩) (by omega)) (by rw[fH,fH];exact j) b]
  exact qD4 j T) (Dr.nl _)
 rw[this];show Rz.ok (ji "doors" (.li (ds'.map Dr.d++[Dr.d { x with gu:=g }])) s.m,D.non)=_;rw[show ds'.map Dr.d++[Dr.d { x with gu:=g }]=(ds'++[{ x with gu:=g }]).map Dr.d by rw[vd];rfl];rfl
def Goes(C:ar)(s:So)(rows:aw Str)(s':So):Prop:=qj C (rows.map D.str) s.m = .ok s'.m
def Goes.cons(h:mD C s.m [.str row] = .ok (s'.m,.non))(H:Goes C s' rows s2):Goes C s (row::rows) s2:=by show (if s.m.lookup ("add" : Str)=none then (match mD C s.m [.str row] with | .ok p=>qj C (rows.map D.str) p.1 | _=>.st) else .st)=_;rw[cq (show s.m.lookup ("add" : Str)=none from rfl),h];exact H
theorem Goes.app:∀ {rows v:aw Str} {s:So},Goes C s rows s'->Goes C s' v s2->Goes C s (rows++v) s2
 | rows,v,s,h,H=>by
  unfold Goes at h H ⊢;rw[vd]
  have:∀ l L fs f r,qj C l fs = .ok f->qj C L f=r->qj C (l++L) fs=r:=fun l=>by
   induction l with
   | nil=>exact fun L fs f r h H=>by cases h;exact H
   | cons d l I=>
    intro L fs f r h H;rw[qj]at h;rw[eJ,qj]
    split at h
    .rename_i c
     rw[cq c]
     split at h
     .exact I _ _ _ _ h H
     .cases h
    .cases h
  exact this _ _ _ _ _ h H
end
section
variable{P:ag}{w:ay}{K:dN}{mg:Str->ax av}{base:Heap}
def wA:FS:=
 (aU (eV (aQ (aK (dJ false) (dY cY (aD (aF 0) aL)) (fC (.int 0))))
   (bO (fC (.int 0)))
   bJ)
  (bO (aK bF (aF 0) (aK bL (aF 1) (dY cY (aD (aF 0) aL))))))
def law_cell_at_F:aw D->Rz D:=dj 2 (wA)
def FP:au ["_law_script","_law_k"] ["_law_script","_law_k"] (aV Rh):=km
def Ft(F:iU K "_law_cell_at" "_law_cell_at" Rh f fd)(b:mg "len" = none) :
  cM P w K mg base bZ (n+1) f fd ["_law_script","_law_k"] (cI K C (law_cell_at_F) 2):=
 mL F FP fun _ A _ s H E hr=>⟨_,
  (zE (yB (zM (r:=dD K false) (bW hr.units) (zT (r:=dC K) bA rfl b gA (zA (pv 0) zD)) zB (zS _))
  (zG (zP zB))
  zU)
  (zG (zP (z0 (r:=az K) bB (pv 0) (yA zY (pv 1) (zT (r:=dC K) bA rfl b gA (zA (pv 0) zD))) (fun _ _=>rfl))))),
  (aN (cD (aq (aG bc (bY cP (aA (aB 0) aJ)) aH))
   (ao aH)
   bG)
  (ao (aG aX (aB 0) (aG (bH (fun _ _ h=>aS h) fun _ _ _ _=>rfl) (aB 1) (bY cP (aA (aB 0) aJ))))))⟩
def CZ:FS:=
 (aU (aW 3 (aP (bU law_cell_at_F) 2 (aD (aF 0) (aD (aF 1) aL))))
  (aU (aW 4 (aK cC (aF 1) (dY Wm (aD (fC (.int 1)) (aD (dY cY (aD (aF 0) aL)) aL)))))
  (aU (aW 5 (aK aa (aK aa (aK aa (aK qFZ (aF 3) (fC (.int 2147483647))) (aK jJ (aK jJ (fC (.int 1009)) (aF 1)) (aF 1))) (aK jJ (aK jJ (fC (.int 7919)) (aF 2)) (aF 2))) (fC (.int 12))))
  (aU (aW 5 (aK bL (aK jJ (aF 5) (fC (.int 48271))) (fC (.int 2147483647))))
  (aU (aW 5 (aK bL (aK jJ (aF 5) (aF 5)) (fC (.int 2147483629))))
  (bO (aK qFZ (aK aa (aK qGF (aF 3) (aK jJ (fC (.int 31)) (aK aa (aF 2) (aK jJ (fC (.int 128)) (aF 4))))) (aF 5)) (fC (.int 2147483647)))))))))
def law_mixed_F:aw D->Rz D:=dj 6 (CZ)
def jM:au ["_law_script","_law_k","_law_salt","_law_cell","_law_lap","_law_near"] ["_law_script","_law_k","_law_salt"] (aV Ju):=km
def KJ(F:iU K "_law_mixed" "_law_mixed" Ju f fd)
  (d:Dp P w K mg base bZ n mZ mj ["_law_script","_law_k"] (cI K C law_cell_at_F 2) "_law_cell_at") (b:mg "len" = none) (W:mg "max" = none) :
  cM P w K mg base bZ (n+1) f fd ["_law_script","_law_k","_law_salt"] (cI K C (law_mixed_F) 3):=
 mL F jM fun _ A _ s H E hr=>⟨_,
  (zE (zK (i:=3) jM.nd rfl (aT rfl) (pC d hr (zA (pv 0) (zA (pv 1) zD))))
  (zE (zK (i:=4) jM.nd rfl (aT rfl) (yA yJ (pv 1) (zT (V5 rfl) rfl W PyProof.Rows.boot_max (zA zB (zA (zT (r:=dC K) bA rfl b gA (zA (pv 0) zD)) zD)))))
  (zE (zK (i:=5) jM.nd rfl (aT rfl) (yA (r:=bC K) aY (yA (r:=bC K) aY (yA (r:=bC K) aY (yA WM (pv 3) zB) (yA (r:=jh K) fX (yA (r:=jh K) fX zB (pv 1)) (pv 1))) (yA (r:=jh K) fX (yA (r:=jh K) fX zB (pv 2)) (pv 2))) zB))
  (zE (zK (i:=5) jM.nd rfl (aT rfl) (yA zY (yA (r:=jh K) fX (pv 5) zB) zB))
  (zE (zK (i:=5) jM.nd rfl (aT rfl) (yA zY (yA (r:=jh K) fX (pv 5) (pv 5)) zB))
  (zG (zP (yA WM (yA (r:=bC K) aY (yA qBT (pv 3) (yA (r:=jh K) fX zB (yA (r:=bC K) aY (pv 2) (yA (r:=jh K) fX zB (pv 4))))) (pv 5)) zB)))))))),
  (aN (aR (aM rfl (aA (aB 0) (aA (aB 1) aJ))))
  (aN (aR (aG (bH (fun _ _ h=>aS h) fun _ _ _ _=>rfl) (aB 1) (bY Zw (aA aH (aA (bY cP (aA (aB 0) aJ)) aJ)))))
  (aN (aR (aG ak (aG ak (aG ak (aG (fJ fun _ _ _ _=>rfl) (aB 3) aH) (aG iM (aG iM aH (aB 1)) (aB 1))) (aG iM (aG iM aH (aB 2)) (aB 2))) aH))
  (aN (aR (aG (bH (fun _ _ h=>aS h) fun _ _ _ _=>rfl) (aG iM (aB 5) aH) aH))
  (aN (aR (aG (bH (fun _ _ h=>aS h) fun _ _ _ _=>rfl) (aG iM (aB 5) (aB 5)) aH))
  (ao (aG (fJ fun _ _ _ _=>rfl) (aG ak (aG (bH (fun _ _ h=>aS h) fun _ _ _ _=>rfl) (aB 3) (aG iM aH (aG ak (aB 2) (aG iM aH (aB 4))))) (aB 5)) aH)))))))⟩
def Ge:FS:=
 (aU (aW 1 (fC (.str "")))
  (aU (aW 2 (aK aa (aK bL (aK cC (aF 0) (fC (.int 300))) (fC (.int 25))) (fC (.int 1))))
  (aU (rC (lA (aD (aK aa (fC (.int 1)) (aK bL (aF 0) (fC (.int 12)))) aL)) (bN 3)
   (aU (aW 4 (aK bL (aK aa (aK cC (aF 0) (fC (.int 12))) (aK jJ (aF 3) (aF 2))) (fC (.int 26))))
   (aW 1 (aK aa (aF 1) (aK bF (fC (.str "abcdefghijklmnopqrstuvwxyz")) (aF 4))))))
  (bO (aF 1)))))
def law_word_F:aw D->Rz D:=dj 5 (Ge)
def kW:au ["_law_number","_law_word_here","_law_step","_law_j","_law_at"] ["_law_number"] (aV yU):=km
def Mz(F:iU K "_law_word" "_law_word" yU f fd)(a:mg "range" = none) :
  cM P w K mg base bZ (n+1) f fd ["_law_number"] (cI K C (law_word_F) 1):=
 mL F kW fun _ A _ s H E _=>⟨_,
  (zE (zK (i:=1) kW.nd rfl (aT rfl) zQ)
  (zE (zK (i:=2) kW.nd rfl (aT rfl) (yA (r:=bC K) aY (yA zY (yA yJ (pv 0) zB) zB) zB))
  (zE (je PassesOwn.never rfl (jX rfl a (zA (yA (r:=bC K) aY zB (yA zY (pv 0) zB)) zD)) (yH (i:=3) kW.nd rfl (aT rfl))
  (zE (zK (i:=4) kW.nd rfl (aT rfl) (yA zY (yA (r:=bC K) aY (yA yJ (pv 0) zB) (yA (r:=jh K) fX (pv 3) (pv 2))) zB))
  (zG (zK (i:=1) kW.nd rfl (aT rfl) (yA (r:=bC K) aY (pv 1) (z0 (r:=az K) bB zQ (pv 4) (fun _ _=>rfl)))))))
  (zG (zP (pv 1)))))),
  (aN (aR aZ)
  (aN (aR (aG ak (aG (bH (fun _ _ h=>aS h) fun _ _ _ _=>rfl) (aG (bH (fun _ _ h=>aS h) fun _ _ _ _=>rfl) (aB 0) aH) aH) aH))
  (aN (kJ (oW (aA (aG ak aH (aG (bH (fun _ _ h=>aS h) fun _ _ _ _=>rfl) (aB 0) aH)) aJ)) xQ
   (aN (aR (aG (bH (fun _ _ h=>aS h) fun _ _ _ _=>rfl) (aG ak (aG (bH (fun _ _ h=>aS h) fun _ _ _ _=>rfl) (aB 0) aH) (aG iM (aB 3) (aB 2))) aH))
   (aR (aG ak (aB 1) (aG aX aZ (aB 4))))))
  (ao (aB 1)))))⟩
def Gg:FS:=
 (aU (aW 2 (aK bF (eX (LQ [.s "",.s "hall",.s "quiet",.s "aaaaaaaaaa"])) (aK bL (aF 1) (fC (.int 4)))))
  (aU (aW 3 (aK bL (aK cC (aF 1) (fC (.int 4))) (aK aa (dY cY (aD (aF 2) aL)) (fC (.int 1)))))
  (aU (aW 4 (aK aa (aK bF (fC (.str "abcdefghijklmnopqrstuvwxyz")) (aK bL (aF 0) (fC (.int 26)))) (aK bF (fC (.str "xy")) (aK bL (aK cC (aF 0) (fC (.int 26))) (fC (.int 2))))))
  (bO (aK aa (aK aa (vy (aF 2) xJ (gG (aF 3))) (aF 4)) (vy (aF 2) (gG (aF 3)) xJ))))))
def law_name_F:aw D->Rz D:=dj 5 (Gg)
def qM:au ["_law_k","_law_number","_law_stem","_law_at","_law_own"] ["_law_k","_law_number"] (aV yV):=km
def N7(F:iU K "_law_name" "_law_name" yV f fd)(b:mg "len" = none) :
  cM P w K mg base bZ (n+1) f fd ["_law_k","_law_number"] (cI K C (law_name_F) 2):=
 mL F qM fun _ A _ s H E _=>⟨_,
  (@zE _ _ _ _ _ (@zK _ _ 2 _ _ _ _ qM.nd rfl (aT rfl) (@z0 _ _ _ _ _ _ (az K) bB (@yI _ _ _ _ (@CK _ _ [.s "",.s "hall",.s "quiet",.s "aaaaaaaaaa"] rfl)) (yA zY (pv 1) zB) (fun _ _=>rfl)) rfl (by ext z)) (zE (zK (i:=3) qM.nd rfl (aT rfl) (yA zY (yA yJ (pv 1) zB) (yA (r:=bC K) aY (zT (r:=dC K) bA rfl b gA (zA (pv 2) zD)) zB))) (zE (zK (i:=4) qM.nd rfl (aT rfl) (yA (r:=bC K) aY (z0 (r:=az K) bB zQ (yA zY (pv 0) zB) (fun _ _=>rfl)) (z0 (r:=az K) bB zQ (yA zY (yA yJ (pv 0) zB) zB) (fun _ _=>rfl)))) (zG (zP (yA (r:=bC K) aY (yA (r:=bC K) aY (eH (r:=rD K) tR (pv 2) fW (fV (pv 3))) (pv 4)) (eH (r:=rD K) tR (pv 2) (fV (pv 3)) fW))))))),
  (aN (aR (aG aX (dG (Cu _)) (aG (bH (fun _ _ h=>aS h) fun _ _ _ _=>rfl) (aB 1) aH)))
  (aN (aR (aG (bH (fun _ _ h=>aS h) fun _ _ _ _=>rfl) (aG (bH (fun _ _ h=>aS h) fun _ _ _ _=>rfl) (aB 1) aH) (aG ak (bY cP (aA (aB 2) aJ)) aH)))
  (aN (aR (aG ak (aG aX aZ (aG (bH (fun _ _ h=>aS h) fun _ _ _ _=>rfl) (aB 0) aH)) (aG aX aZ (aG (bH (fun _ _ h=>aS h) fun _ _ _ _=>rfl) (aG (bH (fun _ _ h=>aS h) fun _ _ _ _=>rfl) (aB 0) aH) aH))))
  (ao (aG ak (aG ak (eQ (aB 2) lX (fY (aB 3))) (aB 4)) (eQ (aB 2) (fY (aB 3)) lX))))))⟩
abbrev A2:FS:=eV (jK (aQ (aK (dJ false) (aK bL (aF 4) (fC (.int 2))) (fC (.int 0)))) (aQ (aK (dJ false) (aK bL (aF 6) (fC (.int 3))) (aK bL (aK cC (aF 4) (fC (.int 2))) (fC (.int 3))))))
   (jd 5 (aK bF (aF 3) (aK bL (aK aa (aK cC (aF 4) (fC (.int 6))) (aK cC (aF 6) (fC (.int 3)))) (fC (.int 30)))))
   (eV (jK (aQ (aK (dJ false) (aK bL (aF 4) (fC (.int 4))) (fC (.int 1)))) (jK (aQ (aK (dJ false) (aK bL (aF 6) (fC (.int 2))) (fC (.int 1)))) (aQ (aK Kr (dY cY (aD (aK bF (aF 5) (aK iJ (aF 6) (fC (.int 1)))) aL)) (fC (.int 12))))))
    (jd 5 (aK aa (aK bF (aF 5) (aK iJ (aF 6) (fC (.int 1)))) (fC (.str "a"))))
    (jd 5 (aP (bU law_name_F) 2 (aD (aF 6) (aD (aK cC (aF 4) (fC (.int 6))) aL)))))
def CW:FS:=
 (aU (aW 3 (eX (LQ [.s "keeps",.s "lamp",.s "near",.s "deep",.s "plain",.s "one",.s "all",.s "in",.s "out",.s "door",.s "to",.s "back",.s "stay"])))
  (aU (aW 3 (aK aa (aF 3) (eX (LQ [.s "when",.s "do",.s "yes",.s "not",.s "both",.s "either",.s "is",.s "under",.s "say",.s "set",.s "add",.s "send"]))))
  (aU (aW 3 (aK aa (aF 3) (eX (LQ [.s "box",.s "event",.s "order",.s "letters",.s "turns"]))))
  (aU (aW 4 (aP (bU law_mixed_F) 3 (aD (aF 0) (aD (fC (.int 0)) (aD (aF 2) aL)))))
  (aU (uW 5 (eX aL))
  (aU (rC (lA (aD (aF 1) aL)) (bN 6)
   A2)
  (bO (dY vg (aD (aF 5) aL)))))))))
def law_names_F:aw D->Rz D:=dj 7 (CW)
def iK:au ["_law_script","_law_many","_law_salt","_law_words","_law_number","_law_names_here","_law_k"] ["_law_script","_law_many","_law_salt"] (aV vO):=km
def KH(F:iU K "_law_names" "_law_names" vO f fd)
  (b:Dp P w K mg base bZ n iG iH ["_law_script","_law_k","_law_salt"] (cI K C law_mixed_F 3) "_law_mixed")
  (R:Dp P w K mg base bZ n f_law_name d_law_name ["_law_k","_law_number"] (cI K C law_name_F 2) "_law_name") (B:mg "len" = none) (a:mg "range" = none) (d:mg "tuple" = none) :
  cM P w K mg base bZ (n+1) f fd ["_law_script","_law_many","_law_salt"] (cI K C (law_names_F) 3):=
 mL F iK fun _ A _ s H E hr=>⟨_,
  (@zE _ _ _ _ _ (@zK _ _ 3 _ _ _ _ iK.nd rfl (aT rfl) (@yI _ _ _ _ (@CK _ _ [.s "keeps",.s "lamp",.s "near",.s "deep",.s "plain",.s "one",.s "all",.s "in",.s "out",.s "door",.s "to",.s "back",.s "stay"] rfl)) rfl (by ext z)) (@zE _ _ _ _ _ (@zK _ _ 3 _ _ _ _ iK.nd rfl (aT rfl) (@yA _ _ _ _ _ _ _ (bC K) aY (pv 3) (@yI _ _ _ _ (@CK _ _ [.s "when",.s "do",.s "yes",.s "not",.s "both",.s "either",.s "is",.s "under",.s "say",.s "set",.s "add",.s "send"] rfl))) rfl (by ext z)) (@zE _ _ _ _ _ (@zK _ _ 3 _ _ _ _ iK.nd rfl (aT rfl) (@yA _ _ _ _ _ _ _ (bC K) aY (pv 3) (@yI _ _ _ _ (@CK _ _ [.s "box",.s "event",.s "order",.s "letters",.s "turns"] rfl))) rfl (by ext z)) (zE (zK (i:=4) iK.nd rfl (aT rfl) (pC b hr (zA (pv 0) (zA zB (zA (pv 2) zD))))) (zE (zK (i:=5) iK.nd rfl (aT rfl) (yI zD)) (zE (je PassesOwn.never rfl (jX rfl a (zA (pv 1) zD)) (yH (i:=6) iK.nd rfl (aT rfl)) (zG (yB (PW.pt (pw_and (zM (r:=dD K false) (bW hr.units) (yA zY (pv 4) zB) zB (zS _)) (yL (zM (r:=dD K false) (bW hr.units) (yA zY (pv 6) zB) (yA zY (yA yJ (pv 4) zB) zB) (zS _))))) (zG (yG (fu (r:=fQ) tM uZ uY yF (pv 5) (zA (z0 (r:=az K) bB (pv 3) (yA zY (yA (r:=bC K) aY (yA yJ (pv 4) zB) (yA yJ (pv 6) zB)) zB) (fun _ _=>rfl)) zD)))) (zG (yB (PW.pt (pw_and (zM (r:=dD K false) (bW hr.units) (yA zY (pv 4) zB) zB (zS _)) (pw_and (zM (r:=dD K false) (bW hr.units) (yA zY (pv 6) zB) zB (zS _)) (yL (zM ur (zT (r:=dC K) bA rfl B gA (zA (z0 (r:=az K) bB (pv 5) (yA jH (pv 6) zB) (fun _ _=>rfl)) zD)) zB (zS _)))))) (zG (yG (fu (r:=fQ) tM uZ uY yF (pv 5) (zA (yA (r:=bC K) aY (z0 (r:=az K) bB (pv 5) (yA jH (pv 6) zB) (fun _ _=>rfl)) zQ) zD)))) (zG (yG (fu (r:=fQ) tM uZ uY yF (pv 5) (zA (pC R hr (zA (pv 6) (zA (yA yJ (pv 4) zB) zD))) zD))))))))) (zG (zP (zZ (r:=pJ K) zX rfl d Ac (zA (pv 5) zD)))))))))),
  (aN (aR (dG (Cu _)))
  (aN (aR (aG ak (aB 3) (dG (Cu _))))
  (aN (aR (aG ak (aB 3) (dG (Cu _))))
  (aN (aR (aM rfl (aA (aB 0) (aA aH (aA (aB 2) aJ)))))
  (aN (rJ (dG aJ))
  (aN (kJ (oW (aA (aB 1) aJ)) xQ
   (cD (pW (aq (aG bc (aG (bH (fun _ _ h=>aS h) fun _ _ _ _=>rfl) (aB 4) aH) aH)) (aq (aG bc (aG (bH (fun _ _ h=>aS h) fun _ _ _ _=>rfl) (aB 6) aH) (aG (bH (fun _ _ h=>aS h) fun _ _ _ _=>rfl) (aG (bH (fun _ _ h=>aS h) fun _ _ _ _=>rfl) (aB 4) aH) aH))))
   (nY (aG aX (aB 3) (aG (bH (fun _ _ h=>aS h) fun _ _ _ _=>rfl) (aG ak (aG (bH (fun _ _ h=>aS h) fun _ _ _ _=>rfl) (aB 4) aH) (aG (bH (fun _ _ h=>aS h) fun _ _ _ _=>rfl) (aB 6) aH)) aH)))
   (cD (pW (aq (aG bc (aG (bH (fun _ _ h=>aS h) fun _ _ _ _=>rfl) (aB 4) aH) aH)) (pW (aq (aG bc (aG (bH (fun _ _ h=>aS h) fun _ _ _ _=>rfl) (aB 6) aH) aH)) (aq (aG (fJ fun _ _ _ _=>rfl) (bY cP (aA (aG aX (aB 5) (aG (fJ fun _ _ _ _=>rfl) (aB 6) aH)) aJ)) aH))))
    (nY (aG ak (aG aX (aB 5) (aG (fJ fun _ _ _ _=>rfl) (aB 6) aH)) aZ))
    (nY (aM rfl (aA (aB 6) (aA (aG (bH (fun _ _ h=>aS h) fun _ _ _ _=>rfl) (aB 4) aH) aJ)))))))
  (ao (bY pq (aA (aB 5) aJ)))))))))⟩
abbrev A3:FS:=aU (eV (jK (aQ (aK (dJ false) (aF 7) (fC (.int 1)))) (aQ (aK GZ (aF 4) (fC (.int 0)))))
   (bO (dR (aD (fC (.str "send")) (aD (aK bL (aK cC (aF 5) (fC (.int 5))) (aF 4)) aL))))
   bJ)
  (aU (eV (jK (aQ (aK GZ (aF 7) (fC (.int 1)))) (aQ (aK GZ (dY cY (aD (aF 3) aL)) (fC (.int 0)))))
   (aU (aW 8 (aK bL (aK cC (aF 5) (fC (.int 5))) (dY cY (aD (aF 3) aL))))
   (aU (aW 9 (aK bF (aK bF (aF 3) (aF 8)) (fC (.int 1))))
   (aU (eV (aQ (aK (dJ false) (aF 7) (fC (.int 2))))
   (bO (dR (aD (fC (.str "set")) (aD (aF 8) (aD (aK bF (eX (aD (fC (.int 0)) (aD (aK iJ (aF 9) (fC (.int 1))) (aD (aK bL (aF 6) (aF 9)) aL)))) (aK bL (aK cC (aF 5) (fC (.int 30))) (fC (.int 3)))) aL)))))
   bJ)
   (aU (aW 10 (aK iJ (aK bL (aF 6) (aK aa (aK jJ (fC (.int 2)) (aK lY (fC (.int 10)) (fC (.int 30)))) (fC (.int 1)))) (aK lY (fC (.int 10)) (fC (.int 30)))))
   (bO (dR (aD (fC (.str "add")) (aD (aF 8) (aD (aK bF (eX (aD (aK iJ (aK bL (aK cC (aF 5) (fC (.int 30))) (fC (.int 25))) (fC (.int 12))) (aD (aK lY (fC (.int 10)) (fC (.int 30))) (aD (VN Ay (aK lY (fC (.int 10)) (fC (.int 30)))) (aD (aF 10) aL))))) (aK bL (aK cC (aF 5) (fC (.int 900))) (fC (.int 4)))) aL)))))))))
   bJ)
  (bO (dR (aD (fC (.str "say")) (aD (aP (bU law_word_F) 1 (aD (aK cC (aF 5) (fC (.int 5))) aL)) aL)))))
def wy:FS:=
 (aU (aW 5 (aP (bU law_mixed_F) 3 (aD (aF 0) (aD (aF 1) (aD (aF 2) aL)))))
  (aU (aW 6 (aK aa (aP (bU law_cell_at_F) 2 (aD (aF 0) (aD (aF 1) aL))) (aF 5)))
  (aU (aW 7 (aK bL (aF 5) (fC (.int 5))))
  A3)))
def law_deed_F:aw D->Rz D:=dj 11 (wy)
def jE:au ["_law_script","_law_k","_law_salt","_law_boxes_here","_law_events","_law_number","_law_some","_law_way","_law_b","_law_size","_law_wide"] ["_law_script","_law_k","_law_salt","_law_boxes_here","_law_events"] (aV yW):=km
def N8(F:iU K "_law_deed" "_law_deed" yW f fd)
  (B:Dp P w K mg base bZ n iG iH ["_law_script","_law_k","_law_salt"] (cI K C law_mixed_F 3) "_law_mixed")
  (d:Dp P w K mg base bZ n mZ mj ["_law_script","_law_k"] (cI K C law_cell_at_F 2) "_law_cell_at")
  (x:Dp P w K mg base bZ n Qz R7 ["_law_number"] (cI K C law_word_F 1) "_law_word") (b:mg "len" = none) :
  cM P w K mg base bZ (n+1) f fd ["_law_script","_law_k","_law_salt","_law_boxes_here","_law_events"] (cI K C (law_deed_F) 5):=
 mL F jE fun _ A _ s H E hr=>⟨_,
  (zE (zK (i:=5) jE.nd rfl (aT rfl) (pC B hr (zA (pv 0) (zA (pv 1) (zA (pv 2) zD)))))
  (zE (zK (i:=6) jE.nd rfl (aT rfl) (yA (r:=bC K) aY (pC d hr (zA (pv 0) (zA (pv 1) zD))) (pv 5)))
  (zE (zK (i:=7) jE.nd rfl (aT rfl) (yA zY (pv 5) zB))
  (zE (yB (PW.pt (pw_and (zM (r:=dD K false) (bW hr.units) (pv 7) zB (zS _)) (yL (zM pL (pv 4) zB (zS _)))))
  (zG (zP (zW (zA zQ (zA (yA zY (yA yJ (pv 5) zB) (pv 4)) zD)))))
  zU)
  (zE (yB (PW.pt (pw_and (zM pL (pv 7) zB (zS _)) (yL (zM pL (zT (r:=dC K) bA rfl b gA (zA (pv 3) zD)) zB (zS _)))))
  (zE (zK (i:=8) jE.nd rfl (aT rfl) (yA zY (yA yJ (pv 5) zB) (zT (r:=dC K) bA rfl b gA (zA (pv 3) zD))))
  (zE (zK (i:=9) jE.nd rfl (aT rfl) (z0 (r:=az K) bB (z0 (r:=az K) bB (pv 3) (pv 8) (fun _ _=>rfl)) zB (fun _ _=>rfl)))
  (zE (yB (zM (r:=dD K false) (bW hr.units) (pv 7) zB (zS _))
  (zG (zP (zW (zA zQ (zA (pv 8) (zA (z0 (r:=az K) bB (yI (zA zB (zA (yA jH (pv 9) zB) (zA (yA zY (pv 6) (pv 9)) zD)))) (yA zY (yA yJ (pv 5) zB) zB) (fun _ _=>rfl)) zD))))))
  zU)
  (zE (zK (i:=10) jE.nd rfl (aT rfl) (yA jH (yA zY (pv 6) (yA (r:=bC K) aY (yA (r:=jh K) fX zB (yA rE zB zB)) zB)) (yA rE zB zB)))
  (zG (zP (zW (zA zQ (zA (pv 8) (zA (z0 (r:=az K) bB (yI (zA (yA jH (yA zY (yA yJ (pv 5) zB) zB) zB) (zA (yA rE zB zB) (zA (uO nQ (yA rE zB zB)) (zA (pv 10) zD))))) (yA zY (yA yJ (pv 5) zB) zB) (fun _ _=>rfl)) zD))))))))))
  zU)
  (zG (zP (zW (zA zQ (zA (pC x hr (zA (yA yJ (pv 5) zB) zD)) zD)))))))))),
  (aN (aR (aM rfl (aA (aB 0) (aA (aB 1) (aA (aB 2) aJ)))))
  (aN (aR (aG ak (aM rfl (aA (aB 0) (aA (aB 1) aJ))) (aB 5)))
  (aN (aR (aG (bH (fun _ _ h=>aS h) fun _ _ _ _=>rfl) (aB 5) aH))
  (aN (cD (pW (aq (aG bc (aB 7) aH)) (aq (aG (fJ fun _ _ _ _=>rfl) (aB 4) aH)))
   (ao (cU (aA aZ (aA (aG (bH (fun _ _ h=>aS h) fun _ _ _ _=>rfl) (aG (bH (fun _ _ h=>aS h) fun _ _ _ _=>rfl) (aB 5) aH) (aB 4)) aJ))))
   bG)
  (aN (cD (pW (aq (aG (fJ fun _ _ _ _=>rfl) (aB 7) aH)) (aq (aG (fJ fun _ _ _ _=>rfl) (bY cP (aA (aB 3) aJ)) aH)))
   (aN (aR (aG (bH (fun _ _ h=>aS h) fun _ _ _ _=>rfl) (aG (bH (fun _ _ h=>aS h) fun _ _ _ _=>rfl) (aB 5) aH) (bY cP (aA (aB 3) aJ))))
   (aN (aR (aG aX (aG aX (aB 3) (aB 8)) aH))
   (aN (cD (aq (aG bc (aB 7) aH))
   (ao (cU (aA aZ (aA (aB 8) (aA (aG aX (dG (aA aH (aA (aG (fJ fun _ _ _ _=>rfl) (aB 9) aH) (aA (aG (bH (fun _ _ h=>aS h) fun _ _ _ _=>rfl) (aB 6) (aB 9)) aJ)))) (aG (bH (fun _ _ h=>aS h) fun _ _ _ _=>rfl) (aG (bH (fun _ _ h=>aS h) fun _ _ _ _=>rfl) (aB 5) aH) aH)) aJ)))))
   bG)
   (aN (aR (aG (fJ fun _ _ _ _=>rfl) (aG (bH (fun _ _ h=>aS h) fun _ _ _ _=>rfl) (aB 6) (aG ak (aG iM aH (aG (bH (fun _ _ h=>aS h) fun _ _ _ _=>rfl) aH aH)) aH)) (aG (bH (fun _ _ h=>aS h) fun _ _ _ _=>rfl) aH aH)))
   (ao (cU (aA aZ (aA (aB 8) (aA (aG aX (dG (aA (aG (fJ fun _ _ _ _=>rfl) (aG (bH (fun _ _ h=>aS h) fun _ _ _ _=>rfl) (aG (bH (fun _ _ h=>aS h) fun _ _ _ _=>rfl) (aB 5) aH) aH) aH) (aA (aG (bH (fun _ _ h=>aS h) fun _ _ _ _=>rfl) aH aH) (aA (HJ wG (aG (bH (fun _ _ h=>aS h) fun _ _ _ _=>rfl) aH aH)) (aA (aB 10) aJ))))) (aG (bH (fun _ _ h=>aS h) fun _ _ _ _=>rfl) (aG (bH (fun _ _ h=>aS h) fun _ _ _ _=>rfl) (aB 5) aH) aH)) aJ)))))))))
   bG)
  (ao (cU (aA aZ (aA (aM rfl (aA (aG (bH (fun _ _ h=>aS h) fun _ _ _ _=>rfl) (aB 5) aH) aJ)) aJ)))))))))⟩
def Cd:FS:=
 (aU (aW 5 (aK bF (eX (LQ [.i 0,.i 0,.i 0,.i 1,.i 1,.i 2,.i 3,.i 8])) (aK bL (aP (bU law_mixed_F) 3 (aD (aF 0) (aD (aF 1) (aD (aF 2) aL)))) (fC (.int 8)))))
  (bO (dY vg (aD (gQ (lA (aD (aF 5) aL)) [(0,"_law_script"),(1,"_law_k"),(3,"_law_boxes_here"),(4,"_law_events"),(2,"_law_salt")] nJ (aP (bU law_deed_F) 5 (aD (aF 1) (aD (aF 2) (aD (aK aa (aK aa (aF 5) (fC (.int 1))) (aF 0)) (aD (aF 3) (aD (aF 4) aL))))))) aL))))
def law_deeds_F:aw D->Rz D:=dj 6 (Cd)
def xu:au ["_law_script","_law_k","_law_salt","_law_boxes_here","_law_events","_law_many"] ["_law_script","_law_k","_law_salt","_law_boxes_here","_law_events"] (aV sE):=km
def KR(F:iU K "_law_deeds" "_law_deeds" sE f fd)
  (b:Dp P w K mg base bZ n iG iH ["_law_script","_law_k","_law_salt"] (cI K C law_mixed_F 3) "_law_mixed")
  (R:Dp P w K mg base bZ n f_law_deed d_law_deed ["_law_script","_law_k","_law_salt","_law_boxes_here","_law_events"] (cI K C law_deed_F 5) "_law_deed") (a:mg "range" = none) (d:mg "tuple" = none) :
  cM P w K mg base bZ (n+1) f fd ["_law_script","_law_k","_law_salt","_law_boxes_here","_law_events"] (cI K C (law_deeds_F) 5):=
 mL F xu fun _ A _ s H E hr=>⟨_,
  (@zE _ _ _ _ _ (@zK _ _ 5 _ _ _ _ xu.nd rfl (aT rfl) (@z0 _ _ _ _ _ _ (az K) bB (@yI _ _ _ _ (@CK _ _ [.i 0,.i 0,.i 0,.i 1,.i 1,.i 2,.i 3,.i 8] rfl)) (yA zY (pC b hr (zA (pv 0) (zA (pv 1) (zA (pv 2) zD)))) zB) (fun _ _=>rfl)) rfl (by ext z)) (zG (zP (zZ (r:=pJ K) zX rfl d Ac (zA (yN (cX:=[(0,"_law_script"),(1,"_law_k"),(3,"_law_boxes_here"),(4,"_law_events"),(2,"_law_salt")]) rfl (show iB (aV sE) ["_law_script","_law_k","_law_salt","_law_boxes_here","_law_events","_law_many"] _ _ _ from Pj) (jX rfl a (zA (pv 5) zD)) (fun _ _ _ _ _ _=>iY) (fun _ _ _ _ _ _=>(pC R hr (zA (pv 1) (zA (pv 2) (zA (yA (r:=bC K) aY (yA (r:=bC K) aY (pv 5) zB) (pv 0)) (zA (pv 3) (zA (pv 4) zD)))))))) zD))))),
  (aN (aR (aG aX (dG (Cu _)) (aG (bH (fun _ _ h=>aS h) fun _ _ _ _=>rfl) (aM rfl (aA (aB 0) (aA (aB 1) (aA (aB 2) aJ)))) aH)))
  (ao (bY pq (aA (gZ (oW (aA (aB 5) aJ)) nU (aM rfl (aA (aB 1) (aA (aB 2) (aA (aG ak (aG ak (aB 5) aH) (aB 0)) (aA (aB 3) (aA (aB 4) aJ))))))) aJ))))⟩
abbrev A6:FS:=aU (aW 5 (aP (bU law_mixed_F) 3 (aD (aF 0) (aD (aF 4) (aD (fC (.int 42)) aL)))))
   (aU (aW 6 (aK bF (eX (aD (fC (.int 1)) (aD (fC (.int 2)) (aD (aK lY (fC (.int 10)) (fC (.int 30))) (aD (aK aa (fC (.int 1)) (aK bL (aK aa (aP (bU law_cell_at_F) 2 (aD (aF 0) (aD (aF 4) aL))) (aK jJ (fC (.int 17)) (aF 4))) (aK lY (fC (.int 10)) (fC (.int 30))))) aL))))) (aK bL (aF 5) (fC (.int 4)))))
   (jd 3 (dR (aD (aK bF (aF 2) (aF 4)) (aD (aF 6) (aD (aK bF (eX (aD (fC (.int 0)) (aD (aK iJ (aF 6) (fC (.int 1))) (aD (aK bL (aK aa (aP (bU law_cell_at_F) 2 (aD (aF 0) (aD (aF 4) aL))) (aF 5)) (aF 6)) aL)))) (aK bL (aK cC (aF 5) (fC (.int 4))) (fC (.int 3)))) aL))))))
def Cg:FS:=
 (aU (aW 2 (aP (bU law_names_F) 3 (aD (aF 0) (aD (aF 1) (aD (fC (.int 41)) aL)))))
  (aU (uW 3 (eX aL))
  (aU (rC (lA (aD (aF 1) aL)) (bN 4)
   A6)
  (bO (dY vg (aD (aF 3) aL))))))
def law_boxes_F:aw D->Rz D:=dj 7 (Cg)
def jP:au ["_law_script","_law_many","_law_names_here","_law_boxes_here","_law_k","_law_number","_law_size"] ["_law_script","_law_many"] (aV vQ):=km
def KZ(F:iU K "_law_boxes" "_law_boxes" vQ f fd)
  (N:Dp P w K mg base bZ n Cm Cv ["_law_script","_law_many","_law_salt"] (cI K C law_names_F 3) "_law_names")
  (b:Dp P w K mg base bZ n iG iH ["_law_script","_law_k","_law_salt"] (cI K C law_mixed_F 3) "_law_mixed")
  (d:Dp P w K mg base bZ n mZ mj ["_law_script","_law_k"] (cI K C law_cell_at_F 2) "_law_cell_at") (a:mg "range" = none) (D:mg "tuple" = none) :
  cM P w K mg base bZ (n+1) f fd ["_law_script","_law_many"] (cI K C (law_boxes_F) 2):=
 mL F jP fun _ A _ s H E hr=>⟨_,
  (zE (zK (i:=2) jP.nd rfl (aT rfl) (pC N hr (zA (pv 0) (zA (pv 1) (zA zB zD)))))
  (zE (zK (i:=3) jP.nd rfl (aT rfl) (yI zD))
  (zE (je PassesOwn.never rfl (jX rfl a (zA (pv 1) zD)) (yH (i:=4) jP.nd rfl (aT rfl))
  (zE (zK (i:=5) jP.nd rfl (aT rfl) (pC b hr (zA (pv 0) (zA (pv 4) (zA zB zD)))))
  (zE (zK (i:=6) jP.nd rfl (aT rfl) (z0 (r:=az K) bB (yI (zA zB (zA zB (zA (yA rE zB zB) (zA (yA (r:=bC K) aY zB (yA zY (yA (r:=bC K) aY (pC d hr (zA (pv 0) (zA (pv 4) zD))) (yA (r:=jh K) fX zB (pv 4))) (yA rE zB zB))) zD))))) (yA zY (pv 5) zB) (fun _ _=>rfl)))
  (zG (yG (fu (r:=fQ) tM uZ uY yF (pv 3) (zA (zW (zA (z0 (r:=az K) bB (pv 2) (pv 4) (fun _ _=>rfl)) (zA (pv 6) (zA (z0 (r:=az K) bB (yI (zA zB (zA (yA jH (pv 6) zB) (zA (yA zY (yA (r:=bC K) aY (pC d hr (zA (pv 0) (zA (pv 4) zD))) (pv 5)) (pv 6)) zD)))) (yA zY (yA yJ (pv 5) zB) zB) (fun _ _=>rfl)) zD)))) zD)))))))
  (zG (zP (zZ (r:=pJ K) zX rfl D Ac (zA (pv 3) zD))))))),
  (aN (aR (aM rfl (aA (aB 0) (aA (aB 1) (aA aH aJ)))))
  (aN (rJ (dG aJ))
  (aN (kJ (oW (aA (aB 1) aJ)) xQ
   (aN (aR (aM rfl (aA (aB 0) (aA (aB 4) (aA aH aJ)))))
   (aN (aR (aG aX (dG (aA aH (aA aH (aA (aG (bH (fun _ _ h=>aS h) fun _ _ _ _=>rfl) aH aH) (aA (aG ak aH (aG (bH (fun _ _ h=>aS h) fun _ _ _ _=>rfl) (aG ak (aM rfl (aA (aB 0) (aA (aB 4) aJ))) (aG iM aH (aB 4))) (aG (bH (fun _ _ h=>aS h) fun _ _ _ _=>rfl) aH aH))) aJ))))) (aG (bH (fun _ _ h=>aS h) fun _ _ _ _=>rfl) (aB 5) aH)))
   (nY (cU (aA (aG aX (aB 2) (aB 4)) (aA (aB 6) (aA (aG aX (dG (aA aH (aA (aG (fJ fun _ _ _ _=>rfl) (aB 6) aH) (aA (aG (bH (fun _ _ h=>aS h) fun _ _ _ _=>rfl) (aG ak (aM rfl (aA (aB 0) (aA (aB 4) aJ))) (aB 5)) (aB 6)) aJ)))) (aG (bH (fun _ _ h=>aS h) fun _ _ _ _=>rfl) (aG (bH (fun _ _ h=>aS h) fun _ _ _ _=>rfl) (aB 5) aH) aH)) aJ))))))))
  (ao (bY pq (aA (aB 3) aJ))))))⟩
abbrev A7:FS:=aU (aW 7 (aP (bU law_mixed_F) 3 (aD (aF 0) (aD (aK aa (fC (.int 2)) (aF 6)) (aD (fC (.int 44)) aL)))))
   (aU (jd 5 (aK aa (fC (.int 1)) (aK bL (aF 7) (aK aa (dY uP (aD (aK bF (aF 5) (aK iJ (aF 6) (fC (.int 1)))) (aD (fC (.int 11)) aL))) (fC (.int 1))))))
   (eV (aQ (aK (dJ false) (aK bL (aK cC (aF 7) (fC (.int 16))) (fC (.int 4))) (fC (.int 0))))
   (Fb 5 (aF 6) (aK aa (fC (.int 1)) (dY uP (aD (aK bF (aF 5) (aK iJ (aF 6) (fC (.int 1)))) (aD (fC (.int 11)) aL)))))
   bJ))
abbrev A8:FS:=aU (aW 7 (aP (bU law_mixed_F) 3 (aD (aF 0) (aD (aK aa (fC (.int 2)) (aF 6)) (aD (fC (.int 45)) aL)))))
   (aU (aW 9 (fC (.str "plain")))
   (aU (aW 10 (fC (.str "")))
   (aU (eV (jK (aQ (aK Kr (aK aa (aF 6) (fC (.int 1))) (aF 1))) (aQ (aK GZ (aK bF (aF 5) (aK aa (aF 6) (fC (.int 1)))) (aK bF (aF 5) (aF 6)))))
   (aU (aW 9 (aK bF (eX (LQ [.s "one",.s "one",.s "all"])) (aK bL (aF 7) (fC (.int 3)))))
   (aW 10 (aK bF (eX (LQ [.s "",.s "near",.s "deep"])) (aK bL (aK cC (aF 7) (fC (.int 3))) (fC (.int 3))))))
   bJ)
   (aU (eV (jK (aQ (aK (dJ false) (aF 9) (fC (.str "all")))) (aQ (aK (dJ false) (aF 10) (fC (.str "near")))))
   (aW 10 (fC (.str "")))
   bJ)
   (aU (aW 11 (fC (.str "")))
   (aU (eV (aQ (aK (dJ false) (aK bL (aK cC (aF 7) (fC (.int 9))) (fC (.int 2))) (fC (.int 0))))
   (aW 11 (aP (bU law_word_F) 1 (aD (aK cC (aF 7) (fC (.int 18))) aL)))
   bJ)
   (aU (aW 12 (aP (bU law_deeds_F) 5 (aD (aF 0) (aD (aK aa (fC (.int 2)) (aF 6)) (aD (fC (.int 50)) (aD (aF 2) (aD (aF 3) aL)))))))
   (aU (aW 13 (aP (bU law_deeds_F) 5 (aD (aF 0) (aD (aK aa (fC (.int 2)) (aF 6)) (aD (fC (.int 60)) (aD (aF 2) (aD (aF 3) aL)))))))
   (jd 8 (dR (aD (aK bF (aF 4) (aF 6)) (aD (aF 9) (aD (aK bF (aF 5) (aF 6)) (aD (aF 10) (aD (aF 11) (aD (aF 12) (aD (aF 13) aL)))))))))))))))))
def CV:FS:=
 (aU (aW 4 (aP (bU law_names_F) 3 (aD (aF 0) (aD (aF 1) (aD (fC (.int 43)) aL)))))
  (aU (uW 5 (eX (aD (fC (.int 0)) aL)))
  (aU (rC (Gx (aD (fC (.int 1)) (aD (aF 1) aL))) (bN 6)
   A7)
  (aU (uW 8 (eX aL))
  (aU (rC (lA (aD (aF 1) aL)) (bN 6)
   A8)
  (bO (dY vg (aD (aF 8) aL))))))))
def law_rooms_F:aw D->Rz D:=dj 14 (CV)
def cV:au ["_law_script","_law_many","_law_boxes_here","_law_events","_law_names_here","_law_depths","_law_k","_law_number","_law_rooms_here","_law_kind","_law_keeps","_law_lamp","_law_ins","_law_outs"] ["_law_script","_law_many","_law_boxes_here","_law_events"] (aV Jt):=km
def KC(F:iU K "_law_rooms" "_law_rooms" Jt f fd)
  (N:Dp P w K mg base bZ n Cm Cv ["_law_script","_law_many","_law_salt"] (cI K C law_names_F 3) "_law_names")
  (b:Dp P w K mg base bZ n iG iH ["_law_script","_law_k","_law_salt"] (cI K C law_mixed_F 3) "_law_mixed")
  (x:Dp P w K mg base bZ n Qz R7 ["_law_number"] (cI K C law_word_F 1) "_law_word")
  (q:Dp P w K mg base bZ n O7 Oh ["_law_script","_law_k","_law_salt","_law_boxes_here","_law_events"] (cI K C law_deeds_F 5) "_law_deeds") (S:mg "min" = none) (a:mg "range" = none) (d:mg "tuple" = none) :
  cM P w K mg base bZ (n+1) f fd ["_law_script","_law_many","_law_boxes_here","_law_events"] (cI K C (law_rooms_F) 4):=
 mL F cV fun _ A _ s H E hr=>⟨_,
  (@zE _ _ _ _ _ (zK (i:=4) cV.nd rfl (aT rfl) (pC N hr (zA (pv 0) (zA (pv 1) (zA zB zD))))) (@zE _ _ _ _ _ (zK (i:=5) cV.nd rfl (aT rfl) (yI (zA zB zD))) (@zE _ _ _ _ _ (je PassesOwn.never rfl (Tv rfl a (zA zB (zA (pv 1) zD))) (yH (i:=6) cV.nd rfl (aT rfl)) (zE (zK (i:=7) cV.nd rfl (aT rfl) (pC b hr (zA (pv 0) (zA (yA (r:=bC K) aY zB (pv 6)) (zA zB zD))))) (zE (yG (fu (r:=fQ) tM uZ uY yF (pv 5) (zA (yA (r:=bC K) aY zB (yA zY (pv 7) (yA (r:=bC K) aY (zT (Bg rfl) rfl S js (zA (z0 (r:=az K) bB (pv 5) (yA jH (pv 6) zB) (fun _ _=>rfl)) (zA zB zD))) zB))) zD))) (zG (yB (zM (r:=dD K false) (bW hr.units) (yA zY (yA yJ (pv 7) zB) zB) zB (zS _)) (zG (QZ (yA (r:=bC K) aY zB (zT (Bg rfl) rfl S js (zA (z0 (r:=az K) bB (pv 5) (yA jH (pv 6) zB) (fun _ _=>rfl)) (zA zB zD)))) (Qc (pv 5) (pv 6) set_list))) zU))))) (@zE _ _ _ _ _ (zK (i:=8) cV.nd rfl (aT rfl) (yI zD)) (@zE _ _ _ _ _ (je PassesOwn.never rfl (jX rfl a (zA (pv 1) zD)) (yH (i:=6) cV.nd rfl (aT rfl)) (@zE _ _ _ _ _ (zK (i:=7) cV.nd rfl (aT rfl) (pC b hr (zA (pv 0) (zA (yA (r:=bC K) aY zB (pv 6)) (zA zB zD))))) (@zE _ _ _ _ _ (zK (i:=9) cV.nd rfl (aT rfl) zQ) (@zE _ _ _ _ _ (zK (i:=10) cV.nd rfl (aT rfl) zQ) (@zE _ _ _ _ _ (@yB _ _ _ _ _ _ _ _ (PW.pt (pw_and (zM ur (yA (r:=bC K) aY (pv 6) zB) (pv 1) (zS _)) (yL (zM pL (z0 (r:=az K) bB (pv 5) (yA (r:=bC K) aY (pv 6) zB) (fun _ _=>rfl)) (z0 (r:=az K) bB (pv 5) (pv 6) (fun _ _=>rfl)) (zS _))))) (@zE _ _ _ _ _ (@zK _ _ 9 _ _ _ _ cV.nd rfl (aT rfl) (@z0 _ _ _ _ _ _ (az K) bB (@yI _ _ _ _ (@CK _ _ [.s "one",.s "one",.s "all"] rfl)) (yA zY (pv 7) zB) (fun _ _=>rfl)) rfl (by ext z)) (@zG _ _ _ (@zK _ _ 10 _ _ _ _ cV.nd rfl (aT rfl) (@z0 _ _ _ _ _ _ (az K) bB (@yI _ _ _ _ (@CK _ _ [.s "",.s "near",.s "deep"] rfl)) (yA zY (yA yJ (pv 7) zB) zB) (fun _ _=>rfl)) rfl (by ext z)))) zU) (zE (yB (PW.pt (pw_and (zM (r:=dD K false) (bW hr.units) (pv 9) zQ (zS _)) (yL (zM (r:=dD K false) (bW hr.units) (pv 10) zQ (zS _))))) (zG (zK (i:=10) cV.nd rfl (aT rfl) zQ)) zU) (zE (zK (i:=11) cV.nd rfl (aT rfl) zQ) (zE (yB (zM (r:=dD K false) (bW hr.units) (yA zY (yA yJ (pv 7) zB) zB) zB (zS _)) (zG (zK (i:=11) cV.nd rfl (aT rfl) (pC x hr (zA (yA yJ (pv 7) zB) zD)))) zU) (zE (zK (i:=12) cV.nd rfl (aT rfl) (pC q hr (zA (pv 0) (zA (yA (r:=bC K) aY zB (pv 6)) (zA zB (zA (pv 2) (zA (pv 3) zD))))))) (zE (zK (i:=13) cV.nd rfl (aT rfl) (pC q hr (zA (pv 0) (zA (yA (r:=bC K) aY zB (pv 6)) (zA zB (zA (pv 2) (zA (pv 3) zD))))))) (zG (yG (fu (r:=fQ) tM uZ uY yF (pv 8) (zA (zW (zA (z0 (r:=az K) bB (pv 4) (pv 6) (fun _ _=>rfl)) (zA (pv 9) (zA (z0 (r:=az K) bB (pv 5) (pv 6) (fun _ _=>rfl)) (zA (pv 10) (zA (pv 11) (zA (pv 12) (zA (pv 13) zD)))))))) zD)))))))))))))) (zG (zP (zZ (r:=pJ K) zX rfl d Ac (zA (pv 8) zD))))))))),
  (aN (aR (aM rfl (aA (aB 0) (aA (aB 1) (aA aH aJ)))))
  (aN (rJ (dG (aA aH aJ)))
  (aN (kJ (Zk (aA aH (aA (aB 1) aJ))) xQ
   (aN (aR (aM rfl (aA (aB 0) (aA (aG ak aH (aB 6)) (aA aH aJ)))))
   (aN (nY (aG ak aH (aG (bH (fun _ _ h=>aS h) fun _ _ _ _=>rfl) (aB 7) (aG ak (bY Le (aA (aG aX (aB 5) (aG (fJ fun _ _ _ _=>rfl) (aB 6) aH)) (aA aH aJ))) aH))))
   (cD (aq (aG bc (aG (bH (fun _ _ h=>aS h) fun _ _ _ _=>rfl) (aG (bH (fun _ _ h=>aS h) fun _ _ _ _=>rfl) (aB 7) aH) aH) aH))
   (Zg (aG ak aH (bY Le (aA (aG aX (aB 5) (aG (fJ fun _ _ _ _=>rfl) (aB 6) aH)) (aA aH aJ)))) (aB 6))
   bG))))
  (aN (rJ (dG aJ))
  (aN (kJ (oW (aA (aB 1) aJ)) xQ
   (aN (aR (aM rfl (aA (aB 0) (aA (aG ak aH (aB 6)) (aA aH aJ)))))
   (aN (aR aZ)
   (aN (aR aZ)
   (aN (cD (pW (aq (aG (fJ fun _ _ _ _=>rfl) (aG ak (aB 6) aH) (aB 1))) (aq (aG (fJ fun _ _ _ _=>rfl) (aG aX (aB 5) (aG ak (aB 6) aH)) (aG aX (aB 5) (aB 6)))))
   (aN (aR (aG aX (dG (Cu _)) (aG (bH (fun _ _ h=>aS h) fun _ _ _ _=>rfl) (aB 7) aH)))
   (aR (aG aX (dG (Cu _)) (aG (bH (fun _ _ h=>aS h) fun _ _ _ _=>rfl) (aG (bH (fun _ _ h=>aS h) fun _ _ _ _=>rfl) (aB 7) aH) aH))))
   bG)
   (aN (cD (pW (aq (aG bc (aB 9) aZ)) (aq (aG bc (aB 10) aZ)))
   (aR aZ)
   bG)
   (aN (aR aZ)
   (aN (cD (aq (aG bc (aG (bH (fun _ _ h=>aS h) fun _ _ _ _=>rfl) (aG (bH (fun _ _ h=>aS h) fun _ _ _ _=>rfl) (aB 7) aH) aH) aH))
   (aR (aM rfl (aA (aG (bH (fun _ _ h=>aS h) fun _ _ _ _=>rfl) (aB 7) aH) aJ)))
   bG)
   (aN (aR (aM rfl (aA (aB 0) (aA (aG ak aH (aB 6)) (aA aH (aA (aB 2) (aA (aB 3) aJ)))))))
   (aN (aR (aM rfl (aA (aB 0) (aA (aG ak aH (aB 6)) (aA aH (aA (aB 2) (aA (aB 3) aJ)))))))
   (nY (cU (aA (aG aX (aB 4) (aB 6)) (aA (aB 9) (aA (aG aX (aB 5) (aB 6)) (aA (aB 10) (aA (aB 11) (aA (aB 12) (aA (aB 13) aJ)))))))))))))))))))
  (ao (bY pq (aA (aB 8) aJ))))))))⟩
def lW:FS:=
 (aU (eV (aQ (aK (dJ false) (aK bF (aF 0) (fC (.int 0))) (fC (.str "say"))))
   (bO (aK aa (fC (.str "say ")) (aK bF (aF 0) (fC (.int 1)))))
   bJ)
  (aU (eV (aQ (aK (dJ false) (aK bF (aF 0) (fC (.int 0))) (fC (.str "send"))))
   (bO (aK aa (fC (.str "send ")) (aK bF (aF 2) (aK bF (aF 0) (fC (.int 1))))))
   bJ)
  (bO (aK aa (aK aa (aK aa (aK aa (aK bF (aF 0) (fC (.int 0))) (fC (.str " "))) (aK bF (aK bF (aF 1) (aK bF (aF 0) (fC (.int 1)))) (fC (.int 0)))) (fC (.str " "))) (dY Ag (aD (aK bF (aF 0) (fC (.int 2))) aL))))))
def law_deed_row_F:aw D->Rz D:=dj 3 (lW)
def DP:au ["_law_deed_here","_law_boxes_here","_law_events"] ["_law_deed_here","_law_boxes_here","_law_events"] (aV oO):=km
def Dc(F:iU K "_law_deed_row" "_law_deed_row" oO f fd)(j:mg "str" = none) :
  cM P w K mg base bZ (n+1) f fd ["_law_deed_here","_law_boxes_here","_law_events"] (cI K C (law_deed_row_F) 3):=
 mL F DP fun _ A _ s H E hr=>⟨_,
  (zE (yB (zM (r:=dD K false) (bW hr.units) (z0 (r:=az K) bB (pv 0) zB (fun _ _=>rfl)) zQ (zS _))
  (zG (zP (yA (r:=bC K) aY zQ (z0 (r:=az K) bB (pv 0) zB (fun _ _=>rfl)))))
  zU)
  (zE (yB (zM (r:=dD K false) (bW hr.units) (z0 (r:=az K) bB (pv 0) zB (fun _ _=>rfl)) zQ (zS _))
  (zG (zP (yA (r:=bC K) aY zQ (z0 (r:=az K) bB (pv 2) (z0 (r:=az K) bB (pv 0) zB (fun _ _=>rfl)) (fun _ _=>rfl)))))
  zU)
  (zG (zP (yA (r:=bC K) aY (yA (r:=bC K) aY (yA (r:=bC K) aY (yA (r:=bC K) aY (z0 (r:=az K) bB (pv 0) zB (fun _ _=>rfl)) zQ) (z0 (r:=az K) bB (z0 (r:=az K) bB (pv 1) (z0 (r:=az K) bB (pv 0) zB (fun _ _=>rfl)) (fun _ _=>rfl)) zB (fun _ _=>rfl))) zQ) (zZ pA rfl j jv (zA (z0 (r:=az K) bB (pv 0) zB (fun _ _=>rfl)) zD))))))),
  (aN (cD (aq (aG bc (aG aX (aB 0) aH) aZ))
   (ao (aG ak aZ (aG aX (aB 0) aH)))
   bG)
  (aN (cD (aq (aG bc (aG aX (aB 0) aH) aZ))
   (ao (aG ak aZ (aG aX (aB 2) (aG aX (aB 0) aH))))
   bG)
  (ao (aG ak (aG ak (aG ak (aG ak (aG aX (aB 0) aH) aZ) (aG aX (aG aX (aB 1) (aG aX (aB 0) aH)) aH)) aZ) (bY Be (aA (aG aX (aB 0) aH) aJ))))))⟩
def vB:FS:=
 (aU (aW 1 (fC (.str "kettledrums")))
  (aU (aW 2 (aK aa (dY vg (aD (gQ (jA false (vy (aK bF (aF 0) (fC (.int 3))) xJ (gG (fC (.int 1))))) [(1,"_law_name_here")] nJ (aK aa (dR (aD (aF 1) aL)) (vy (aF 0) (gG (fC (.int 1))) xJ))) aL)) (vy (aK bF (aF 0) (fC (.int 3))) (gG (fC (.int 1))) xJ)))
  (aU (aW 3 (aK aa (dR (aD (aK aa (dR (aD (aF 1) aL)) (vy (aK bF (aK bF (aF 0) (fC (.int 5))) (fC (.int 0))) (gG (fC (.int 1))) xJ)) aL)) (vy (aK bF (aF 0) (fC (.int 5))) (gG (fC (.int 1))) xJ)))
  (aU (aW 4 (aK aa (vy (dR (aD (aF 1) aL)) xJ (gG (dY cY (aD (aK bF (aF 0) (fC (.int 4))) aL)))) (vy (aK bF (aF 0) (fC (.int 4))) (gG (fC (.int 1))) xJ)))
  (bO (aK aa (vy (aF 0) xJ (gG (fC (.int 3)))) (dR (aD (aF 2) (aD (aF 4) (aD (aF 3) (aD (aK bF (aF 0) (fC (.int 6))) aL)))))))))))
def law_one_name_F:aw D->Rz D:=dj 5 (vB)
def iV:au ["_law_chart_here","_law_name_here","_law_boxes_here","_law_rooms_here","_law_events"] ["_law_chart_here"] (aV lN):=km
def DY(F:iU K "_law_one_name" "_law_one_name" lN f fd)(b:mg "len" = none)(d:mg "tuple" = none) :
  cM P w K mg base bZ (n+1) f fd ["_law_chart_here"] (cI K C (law_one_name_F) 1):=
 mL F iV fun _ A _ s H E _=>⟨_,
  (zE (zK (i:=1) iV.nd rfl (Or.inr rfl) zQ)
  (zE (zK (i:=2) iV.nd rfl (aT rfl) (yA (r:=bC K) aY (zZ (r:=pJ K) zX rfl d Ac (zA (yN (cX:=[(1,"_law_name_here")]) rfl (show iB (aV lN) ["_law_chart_here","_law_name_here","_law_boxes_here","_law_rooms_here","_law_events"] _ _ _ from Pj) (gR (eH (r:=rD K) tR (z0 (r:=az K) bB (pv 0) zB (fun _ _=>rfl)) fW (fV zB))) (fun _ _ _ _ _ _=>iY) (fun _ _ _ _ _ _=>(yA (r:=bC K) aY (zW (zA (pv 1) zD)) (eH (r:=rD K) tR (pv 0) (fV zB) fW)))) zD)) (eH (r:=rD K) tR (z0 (r:=az K) bB (pv 0) zB (fun _ _=>rfl)) (fV zB) fW)))
  (zE (zK (i:=3) iV.nd rfl (aT rfl) (yA (r:=bC K) aY (zW (zA (yA (r:=bC K) aY (zW (zA (pv 1) zD)) (eH (r:=rD K) tR (z0 (r:=az K) bB (z0 (r:=az K) bB (pv 0) zB (fun _ _=>rfl)) zB (fun _ _=>rfl)) (fV zB) fW)) zD)) (eH (r:=rD K) tR (z0 (r:=az K) bB (pv 0) zB (fun _ _=>rfl)) (fV zB) fW)))
  (zE (zK (i:=4) iV.nd rfl (aT rfl) (yA (r:=bC K) aY (eH (r:=rD K) tR (zW (zA (pv 1) zD)) fW (fV (zT (r:=dC K) bA rfl b gA (zA (z0 (r:=az K) bB (pv 0) zB (fun _ _=>rfl)) zD)))) (eH (r:=rD K) tR (z0 (r:=az K) bB (pv 0) zB (fun _ _=>rfl)) (fV zB) fW)))
  (zG (zP (yA (r:=bC K) aY (eH (r:=rD K) tR (pv 0) fW (fV zB)) (zW (zA (pv 2) (zA (pv 4) (zA (pv 3) (zA (z0 (r:=az K) bB (pv 0) zB (fun _ _=>rfl)) zD)))))))))))),
  (aN (aR aZ)
  (aN (aR (aG ak (bY pq (aA (gZ (gU (eQ (aG aX (aB 0) aH) lX (fY aH))) nU (aG ak (cU (aA (aB 1) aJ)) (eQ (aB 0) (fY aH) lX))) aJ)) (eQ (aG aX (aB 0) aH) (fY aH) lX)))
  (aN (aR (aG ak (cU (aA (aG ak (cU (aA (aB 1) aJ)) (eQ (aG aX (aG aX (aB 0) aH) aH) (fY aH) lX)) aJ)) (eQ (aG aX (aB 0) aH) (fY aH) lX)))
  (aN (aR (aG ak (eQ (cU (aA (aB 1) aJ)) lX (fY (bY cP (aA (aG aX (aB 0) aH) aJ)))) (eQ (aG aX (aB 0) aH) (fY aH) lX)))
  (ao (aG ak (eQ (aB 0) lX (fY aH)) (cU (aA (aB 2) (aA (aB 4) (aA (aB 3) (aA (aG aX (aB 0) aH) aJ)))))))))))⟩
abbrev A5:FS:=aU (eV (Sx (aQ (aK (dJ false) (aF 7) (fC (.int 5)))) (aQ (aK (dJ false) (aF 4) (fC (.int 0)))))
   (bO (dR (aD (fC (.str "yes")) aL)))
   bJ)
  (aU (aW 9 (aK iJ (aK bL (aK aa (aP (bU law_cell_at_F) 2 (aD (aF 0) (aD (aF 1) aL))) (aF 6)) (aK aa (aK jJ (fC (.int 2)) (aK lY (fC (.int 10)) (fC (.int 30)))) (fC (.int 1)))) (aK lY (fC (.int 10)) (fC (.int 30)))))
  (aU (aW 10 (aK bF (eX (aD (aK iJ (aK bL (aK cC (aF 6) (fC (.int 8))) (fC (.int 25))) (fC (.int 12))) (aD (aK lY (fC (.int 10)) (fC (.int 30))) (aD (VN Ay (aK lY (fC (.int 10)) (fC (.int 30)))) (aD (aF 9) aL))))) (aK bL (aK cC (aF 6) (fC (.int 200))) (fC (.int 4)))))
  (bO (dR (aD (aK bF (eX (aD (fC (.str "is")) (aD (fC (.str "under")) aL))) (aK bL (aF 7) (fC (.int 2)))) (aD (aK bL (aK cC (aF 6) (fC (.int 8))) (aF 4)) (aD (aF 10) aL)))))))
def ql(law_guard_F:aw D->Rz D):FS:=
 (aU (aW 6 (aP (bU law_mixed_F) 3 (aD (aF 0) (aD (aF 1) (aD (aF 2) aL)))))
  (aU (aW 7 (aK bL (aF 6) (fC (.int 8))))
  (aU (eV (jK (aQ (aK GZ (aF 3) (fC (.int 1)))) (aQ (aK Kr (aF 7) (fC (.int 4)))))
   (aU (aW 8 (aP (bU law_guard_F) 6 (aD (aF 0) (aD (aF 1) (aD (aK aa (aK jJ (fC (.int 2)) (aF 2)) (fC (.int 1))) (aD (aK iJ (aF 3) (fC (.int 1))) (aD (aF 4) (aD (aF 5) aL))))))))
   (aU (eV (aQ (aK (dJ false) (aF 7) (fC (.int 0))))
   (bO (dR (aD (fC (.str "not")) (aD (aF 8) aL))))
   bJ)
   (bO (dR (aD (aK bF (eX (aD (fC (.str "both")) (aD (fC (.str "either")) aL))) (aK bL (aF 7) (fC (.int 2)))) (aD (aF 8) (aD (aP (bU law_guard_F) 6 (aD (aF 0) (aD (aF 1) (aD (aK aa (aK jJ (fC (.int 2)) (aF 2)) (fC (.int 2))) (aD (aK iJ (aF 3) (fC (.int 1))) (aD (aF 4) (aD (aF 5) aL))))))) aL)))))))
   bJ)
  (aU (eV (aQ (aK (dJ false) (aF 7) (fC (.int 4))))
   (bO (dR (aD (fC (.str "in")) (aD (aK bL (aK cC (aF 6) (fC (.int 8))) (aF 5)) aL))))
   bJ)
  A5))))
def law_guard_F:Nat->aw D->Rz D
 | 0=>fun _=>.st
 | n+1=>dj 11 (ql (law_guard_F n))
def jO:au ["_law_script","_law_k","_law_salt","_law_high","_law_boxes_here","_law_rooms_here","_law_number","_law_way","_law_one","_law_some","_law_edge"] ["_law_script","_law_k","_law_salt","_law_high","_law_boxes_here","_law_rooms_here"] (aV oh):=km
def KN{n:Nat}{C f G c M:ar}{d I a m:af}{law_guard_F:aw D->Rz D}(F:iU K "_law_guard" "_law_guard" oh f d)
  (b:Dp P w K mg base bZ n G I ["_law_script","_law_k","_law_salt"] (cI K C law_mixed_F 3) "_law_mixed")
  (q:Dp P w K mg base bZ n c a ["_law_script","_law_k","_law_salt","_law_high","_law_boxes_here","_law_rooms_here"] (cI K C law_guard_F 6) "_law_guard")
  (z:Dp P w K mg base bZ n M m ["_law_script","_law_k"] (cI K C law_cell_at_F 2) "_law_cell_at") :
  cM P w K mg base bZ (n+1) f d ["_law_script","_law_k","_law_salt","_law_high","_law_boxes_here","_law_rooms_here"] (cI K C (dj 11 (ql law_guard_F)) 6):=
 mL F jO fun _ A _ s H E hr=>⟨_,
  (zE (zK (i:=6) jO.nd rfl (aT rfl) (pC b hr (zA (pv 0) (zA (pv 1) (zA (pv 2) zD)))))
  (zE (zK (i:=7) jO.nd rfl (aT rfl) (yA zY (pv 6) zB))
  (zE (yB (PW.pt (pw_and (zM pL (pv 3) zB (zS _)) (yL (zM ur (pv 7) zB (zS _)))))
  (zE (zK (i:=8) jO.nd rfl (aT rfl) (pC q hr (zA (pv 0) (zA (pv 1) (zA (yA (r:=bC K) aY (yA (r:=jh K) fX zB (pv 2)) zB) (zA (yA jH (pv 3) zB) (zA (pv 4) (zA (pv 5) zD))))))))
  (zE (yB (zM (r:=dD K false) (bW hr.units) (pv 7) zB (zS _))
  (zG (zP (zW (zA zQ (zA (pv 8) zD)))))
  zU)
  (zG (zP (zW (zA (z0 (r:=az K) bB (yI (zA zQ (zA zQ zD))) (yA zY (pv 7) zB) (fun _ _=>rfl)) (zA (pv 8) (zA (pC q hr (zA (pv 0) (zA (pv 1) (zA (yA (r:=bC K) aY (yA (r:=jh K) fX zB (pv 2)) zB) (zA (yA jH (pv 3) zB) (zA (pv 4) (zA (pv 5) zD))))))) zD))))))))
  zU)
  (zE (yB (zM (r:=dD K false) (bW hr.units) (pv 7) zB (zS _))
  (zG (zP (zW (zA zQ (zA (yA zY (yA yJ (pv 6) zB) (pv 5)) zD)))))
  zU)
  (zE (yB (PW.pt (pw_or (zM (r:=dD K false) (bW hr.units) (pv 7) zB (zS _)) (pw_or1 (zM (r:=dD K false) (bW hr.units) (pv 4) zB (zS _)))))
  (zG (zP (zW (zA zQ zD))))
  zU)
  (zE (zK (i:=9) jO.nd rfl (aT rfl) (yA jH (yA zY (yA (r:=bC K) aY (pC z hr (zA (pv 0) (zA (pv 1) zD))) (pv 6)) (yA (r:=bC K) aY (yA (r:=jh K) fX zB (yA rE zB zB)) zB)) (yA rE zB zB)))
  (zE (zK (i:=10) jO.nd rfl (aT rfl) (z0 (r:=az K) bB (yI (zA (yA jH (yA zY (yA yJ (pv 6) zB) zB) zB) (zA (yA rE zB zB) (zA (uO nQ (yA rE zB zB)) (zA (pv 9) zD))))) (yA zY (yA yJ (pv 6) zB) zB) (fun _ _=>rfl)))
  (zG (zP (zW (zA (z0 (r:=az K) bB (yI (zA zQ (zA zQ zD))) (yA zY (pv 7) zB) (fun _ _=>rfl)) (zA (yA zY (yA yJ (pv 6) zB) (pv 4)) (zA (pv 10) zD))))))))))))),
  (aN (aR (aM rfl (aA (aB 0) (aA (aB 1) (aA (aB 2) aJ)))))
  (aN (aR (aG (bH (fun _ _ h=>aS h) fun _ _ _ _=>rfl) (aB 6) aH))
  (aN (cD (pW (aq (aG (fJ fun _ _ _ _=>rfl) (aB 3) aH)) (aq (aG (fJ fun _ _ _ _=>rfl) (aB 7) aH)))
   (aN (aR (aM rfl (aA (aB 0) (aA (aB 1) (aA (aG ak (aG iM aH (aB 2)) aH) (aA (aG (fJ fun _ _ _ _=>rfl) (aB 3) aH) (aA (aB 4) (aA (aB 5) aJ))))))))
   (aN (cD (aq (aG bc (aB 7) aH))
   (ao (cU (aA aZ (aA (aB 8) aJ))))
   bG)
   (ao (cU (aA (aG aX (dG (aA aZ (aA aZ aJ))) (aG (bH (fun _ _ h=>aS h) fun _ _ _ _=>rfl) (aB 7) aH)) (aA (aB 8) (aA (aM rfl (aA (aB 0) (aA (aB 1) (aA (aG ak (aG iM aH (aB 2)) aH) (aA (aG (fJ fun _ _ _ _=>rfl) (aB 3) aH) (aA (aB 4) (aA (aB 5) aJ))))))) aJ)))))))
   bG)
  (aN (cD (aq (aG bc (aB 7) aH))
   (ao (cU (aA aZ (aA (aG (bH (fun _ _ h=>aS h) fun _ _ _ _=>rfl) (aG (bH (fun _ _ h=>aS h) fun _ _ _ _=>rfl) (aB 6) aH) (aB 5)) aJ))))
   bG)
  (aN (cD (Cq (aq (aG bc (aB 7) aH)) (aq (aG bc (aB 4) aH)))
   (ao (cU (aA aZ aJ)))
   bG)
  (aN (aR (aG (fJ fun _ _ _ _=>rfl) (aG (bH (fun _ _ h=>aS h) fun _ _ _ _=>rfl) (aG ak (aM rfl (aA (aB 0) (aA (aB 1) aJ))) (aB 6)) (aG ak (aG iM aH (aG (bH (fun _ _ h=>aS h) fun _ _ _ _=>rfl) aH aH)) aH)) (aG (bH (fun _ _ h=>aS h) fun _ _ _ _=>rfl) aH aH)))
  (aN (aR (aG aX (dG (aA (aG (fJ fun _ _ _ _=>rfl) (aG (bH (fun _ _ h=>aS h) fun _ _ _ _=>rfl) (aG (bH (fun _ _ h=>aS h) fun _ _ _ _=>rfl) (aB 6) aH) aH) aH) (aA (aG (bH (fun _ _ h=>aS h) fun _ _ _ _=>rfl) aH aH) (aA (HJ wG (aG (bH (fun _ _ h=>aS h) fun _ _ _ _=>rfl) aH aH)) (aA (aB 9) aJ))))) (aG (bH (fun _ _ h=>aS h) fun _ _ _ _=>rfl) (aG (bH (fun _ _ h=>aS h) fun _ _ _ _=>rfl) (aB 6) aH) aH)))
  (ao (cU (aA (aG aX (dG (aA aZ (aA aZ aJ))) (aG (bH (fun _ _ h=>aS h) fun _ _ _ _=>rfl) (aB 7) aH)) (aA (aG (bH (fun _ _ h=>aS h) fun _ _ _ _=>rfl) (aG (bH (fun _ _ h=>aS h) fun _ _ _ _=>rfl) (aB 6) aH) (aB 4)) (aA (aB 10) aJ))))))))))))⟩
def gM(law_guard_row_F:aw D->Rz D):FS:=
 (aU (eV (aQ (aK (dJ false) (aK bF (aF 0) (fC (.int 0))) (fC (.str "in"))))
   (bO (aK aa (fC (.str "in ")) (aK bF (aK bF (aF 2) (aK bF (aF 0) (fC (.int 1)))) (fC (.int 0)))))
   bJ)
  (aU (eV (Sx (aQ (aK (dJ false) (aK bF (aF 0) (fC (.int 0))) (fC (.str "is")))) (aQ (aK (dJ false) (aK bF (aF 0) (fC (.int 0))) (fC (.str "under")))))
   (bO (aK aa (aK aa (aK aa (aK aa (aK bF (aF 0) (fC (.int 0))) (fC (.str " "))) (aK bF (aK bF (aF 1) (aK bF (aF 0) (fC (.int 1)))) (fC (.int 0)))) (fC (.str " "))) (dY Ag (aD (aK bF (aF 0) (fC (.int 2))) aL))))
   bJ)
  (aU (aW 3 (aK bF (aF 0) (fC (.int 0))))
  (aU (rC (jA true (vy (aF 0) (gG (fC (.int 1))) xJ)) (bN 4)
   (aW 3 (aK aa (aK aa (aF 3) (fC (.str " "))) (aP (bU law_guard_row_F) 3 (aD (aF 4) (aD (aF 1) (aD (aF 2) aL)))))))
  (bO (aF 3))))))
def law_guard_row_F:Nat->aw D->Rz D
 | 0=>fun _=>.st
 | n+1=>dj 5 (gM (law_guard_row_F n))
def jN:au ["_law_guard_here","_law_boxes_here","_law_rooms_here","_law_row","_law_inner"] ["_law_guard_here","_law_boxes_here","_law_rooms_here"] (aV ir):=km
def Ao{n:Nat}{C f u:ar}{d U:af}{law_guard_row_F:aw D->Rz D}(F:iU K "_law_guard_row" "_law_guard_row" ir f d)
  (N:Dp P w K mg base bZ n u U ["_law_guard_here","_law_boxes_here","_law_rooms_here"] (cI K C law_guard_row_F 3) "_law_guard_row") (j:mg "str" = none) :
  cM P w K mg base bZ (n+1) f d ["_law_guard_here","_law_boxes_here","_law_rooms_here"] (cI K C (dj 5 (gM law_guard_row_F)) 3):=
 mL F jN fun _ A _ s H E hr=>⟨_,
  (zE (yB (zM (r:=dD K false) (bW hr.units) (z0 (r:=az K) bB (pv 0) zB (fun _ _=>rfl)) zQ (zS _))
  (zG (zP (yA (r:=bC K) aY zQ (z0 (r:=az K) bB (z0 (r:=az K) bB (pv 2) (z0 (r:=az K) bB (pv 0) zB (fun _ _=>rfl)) (fun _ _=>rfl)) zB (fun _ _=>rfl)))))
  zU)
  (zE (yB (PW.pt (pw_or (zM (r:=dD K false) (bW hr.units) (z0 (r:=az K) bB (pv 0) zB (fun _ _=>rfl)) zQ (zS _)) (pw_or1 (zM (r:=dD K false) (bW hr.units) (z0 (r:=az K) bB (pv 0) zB (fun _ _=>rfl)) zQ (zS _)))))
  (zG (zP (yA (r:=bC K) aY (yA (r:=bC K) aY (yA (r:=bC K) aY (yA (r:=bC K) aY (z0 (r:=az K) bB (pv 0) zB (fun _ _=>rfl)) zQ) (z0 (r:=az K) bB (z0 (r:=az K) bB (pv 1) (z0 (r:=az K) bB (pv 0) zB (fun _ _=>rfl)) (fun _ _=>rfl)) zB (fun _ _=>rfl))) zQ) (zZ pA rfl j jv (zA (z0 (r:=az K) bB (pv 0) zB (fun _ _=>rfl)) zD)))))
  zU)
  (zE (zK (i:=3) jN.nd rfl (aT rfl) (z0 (r:=az K) bB (pv 0) zB (fun _ _=>rfl)))
  (zE (je PassesOwn.never rfl (gR (eH (r:=rD K) tR (pv 0) (fV zB) fW)) (yH (i:=4) jN.nd rfl (aT rfl))
  (zG (zK (i:=3) jN.nd rfl (aT rfl) (yA (r:=bC K) aY (yA (r:=bC K) aY (pv 3) zQ) (pC N hr (zA (pv 4) (zA (pv 1) (zA (pv 2) zD))))))))
  (zG (zP (pv 3))))))),
  (aN (cD (aq (aG bc (aG aX (aB 0) aH) aZ))
   (ao (aG ak aZ (aG aX (aG aX (aB 2) (aG aX (aB 0) aH)) aH)))
   bG)
  (aN (cD (Cq (aq (aG bc (aG aX (aB 0) aH) aZ)) (aq (aG bc (aG aX (aB 0) aH) aZ)))
   (ao (aG ak (aG ak (aG ak (aG ak (aG aX (aB 0) aH) aZ) (aG aX (aG aX (aB 1) (aG aX (aB 0) aH)) aH)) aZ) (bY Be (aA (aG aX (aB 0) aH) aJ))))
   bG)
  (aN (aR (aG aX (aB 0) aH))
  (aN (kJ (gU (eQ (aB 0) (fY aH) lX)) xQ
   (aR (aG ak (aG ak (aB 3) aZ) (aM rfl (aA (aB 4) (aA (aB 1) (aA (aB 2) aJ)))))))
  (ao (aB 3))))))⟩
def pO(law_same_F:aw D->Rz D):FS:=
 (aU (eV (aQ (aK (VM false) (aF 1) (fC .non)))
   (bO (aK (VM false) (aF 0) (fC .non)))
   bJ)
  (aU (eV (aQ (fIs "tuple" (aF 1)))
   (aU (eV (Sx (vD (aQ (fIs "tuple" (aF 0)))) (aQ (aK (dJ true) (dY cY (aD (aF 0) aL)) (dY cY (aD (aF 1) aL)))))
   (bO (fC (.bl false)))
   bJ)
   (aU (rC (lA (aD (dY cY (aD (aF 1) aL)) aL)) (bN 2)
   (eV (vD (aQ (aP (bU law_same_F) 2 (aD (aK bF (aF 0) (aF 2)) (aD (aK bF (aF 1) (aF 2)) aL)))))
    (bO (fC (.bl false)))
    bJ))
   (bO (fC (.bl true)))))
   bJ)
  (aU (eV (aQ (fIs "str" (aF 1)))
   (bO (lq (fIs "str" (aF 0)) (aK (dJ false) (aF 0) (aF 1))))
   bJ)
  (bO (lq (fIs "int" (aF 0)) (lq (ie (fIs "bool" (aF 0))) (aK (dJ false) (aF 0) (aF 1))))))))
def law_same_F:Nat->aw D->Rz D
 | 0=>fun _=>.st
 | n+1=>dj 3 (pO (law_same_F n))
def Bv:au ["_law_found","_law_due","_law_k"] ["_law_found","_law_due"] (aV J0):=km
def N5{n:Nat}{C f G:ar}{a h:af}{law_same_F:aw D->Rz D}(F:iU K "_law_same" "_law_same" J0 f a)
  (u:Dp P w K mg base bZ n G h ["_law_found","_law_due"] (cI K C law_same_F 2) "_law_same") (B:mg "bool" = none) (J:mg "int" = none) (e:mg "isinstance" = none) (b:mg "len" = none) (c:mg "range" = none) (j:mg "str" = none) (d:mg "tuple" = none) :
  cM P w K mg base bZ (n+1) f a ["_law_found","_law_due"] (cI K C (dj 3 (pO law_same_F)) 2):=
 mL F Bv fun _ A _ s H E hr=>⟨_,
  (zE (yB (zM (r:=Mr false) Rt (pv 1) wO (zS _))
  (zG (zP (bV (r:=Mr false) Rt (pv 0) wO (zS _))))
  zU)
  (zE (yB (gF (zT (r:=Jz K "tuple") t7 rfl e TX (zA (pv 1) (zA (vR (v:=.ty "tuple") rfl d Ac rfl) zD))))
  (zE (yB (PW.pt (pw_or (nT (gF (zT (r:=Jz K "tuple") t7 rfl e TX (zA (pv 0) (zA (vR (v:=.ty "tuple") rfl d Ac rfl) zD))))) (pw_or1 (zM (r:=dD K true) (mK hr.units) (zT (r:=dC K) bA rfl b gA (zA (pv 0) zD)) (zT (r:=dC K) bA rfl b gA (zA (pv 1) zD)) (zS _)))))
  (zG (zP qd))
  zU)
  (zE (je PassesOwn.never rfl (jX rfl c (zA (zT (r:=dC K) bA rfl b gA (zA (pv 1) zD)) zD)) (yH (i:=2) Bv.nd rfl (aT rfl))
  (zG (yB (nT (gF (pC u hr (zA (z0 (r:=az K) bB (pv 0) (pv 2) (fun _ _=>rfl)) (zA (z0 (r:=az K) bB (pv 1) (pv 2) (fun _ _=>rfl)) zD)))))
  (zG (zP qd))
  zU)))
  (zG (zP qd))))
  zU)
  (zE (yB (gF (zT (r:=Jz K "str") t7 rfl e TX (zA (pv 1) (zA (vR (v:=.ty "str") rfl j jv rfl) zD))))
  (zG (zP (jy (zT (r:=Jz K "str") t7 rfl e TX (zA (pv 0) (zA (vR (v:=.ty "str") rfl j jv rfl) zD))) (gb (bV (r:=dD K false) (bW hr.units) (pv 0) (pv 1) (zS _))))))
  zU)
  (zG (zP (jy (zT (r:=Jz K "int") t7 rfl e TX (zA (pv 0) (zA (vR (v:=.ty "int") rfl J PyProof.Rows.boot_int rfl) zD))) (jy (gh (zT (r:=Jz K "bool") t7 rfl e TX (zA (pv 0) (zA (vR (v:=.ty "bool") rfl B PyProof.Rows.boot_bool rfl) zD)))) (gb (bV (r:=dD K false) (bW hr.units) (pv 0) (pv 1) (zS _)))))))))),
  (aN (cD (aq (aG NP (aB 1) xP))
   (ao (aG NP (aB 0) xP))
   bG)
  (aN (cD (pU (JR (aB 1)))
   (aN (cD (Cq (nW (pU (JR (aB 0)))) (aq (aG bc (bY cP (aA (aB 0) aJ)) (bY cP (aA (aB 1) aJ)))))
   (ao qw)
   bG)
   (aN (kJ (oW (aA (bY cP (aA (aB 1) aJ)) aJ)) xQ
   (cD (nW (pU (aM rfl (aA (aG aX (aB 0) (aB 2)) (aA (aG aX (aB 1) (aB 2)) aJ)))))
    (ao qw)
    bG))
   (ao qw)))
   bG)
  (aN (cD (pU (JR (aB 1)))
   (ao (kO (JR (aB 0)) (aG bc (aB 0) (aB 1))))
   bG)
  (ao (kO (JR (aB 0)) (kO (gk (JR (aB 0))) (aG bc (aB 0) (aB 1))))))))⟩
abbrev Au:FS:=aU (aW 8 (aK aa (aK aa (aK aa (aK jJ (fC (.str "  ")) (aK bF (aF 7) (fC (.int 2)))) (aK bF (aF 7) (fC (.int 1)))) (fC (.str " "))) (aK bF (aF 7) (fC (.int 0)))))
   (aU (eV (aQ (aK (dJ true) (aK bF (aF 7) (fC (.int 3))) (fC (.str ""))))
   (aW 8 (aK aa (aK aa (aF 8) (fC (.str " keeps "))) (aK bF (aF 7) (fC (.int 3)))))
   bJ)
   (aU (eV (aQ (aK (dJ true) (aK bF (aF 7) (fC (.int 4))) (fC (.str ""))))
   (aW 8 (aK aa (aK aa (aF 8) (fC (.str " lamp "))) (aK bF (aF 7) (fC (.int 4)))))
   bJ)
   (aU (jd 4 (aF 8))
   (aU (uW 4 (aK aa (aF 4) (gQ (jA false (aK bF (aF 7) (fC (.int 5)))) [(1,"_law_boxes_here"),(2,"_law_events")] nJ (aK aa (fC (.str "in ")) (aP (bU law_deed_row_F) 3 (aD (aF 0) (aD (aF 1) (aD (aF 2) aL))))))))
   (uW 4 (aK aa (aF 4) (gQ (jA false (aK bF (aF 7) (fC (.int 6)))) [(1,"_law_boxes_here"),(2,"_law_events")] nJ (aK aa (fC (.str "out ")) (aP (bU law_deed_row_F) 3 (aD (aF 0) (aD (aF 1) (aD (aF 2) aL))))))))))))
abbrev AA:FS:=aU (aW 8 (aK aa (aK aa (aK aa (aK aa (aK aa (fC (.str "door ")) (aK bF (aK bF (aF 3) (aK bF (aF 9) (fC (.int 0)))) (fC (.int 0)))) (fC (.str " "))) (aK bF (aF 2) (aK bF (aF 9) (fC (.int 1))))) (fC (.str " "))) (aK bF (aF 9) (fC (.int 4)))))
   (aU (eV (aQ (aK (VM true) (aK bF (aF 9) (fC (.int 5))) (fC .non)))
   (aW 8 (aK aa (aK aa (aF 8) (fC (.str " "))) (aK bF (aK bF (aF 3) (aK bF (aF 9) (fC (.int 5)))) (fC (.int 0)))))
   bJ)
   (aU (jd 4 (aF 8))
   (aU (eV (aQ (aK (dJ true) (aK bF (aK bF (aF 9) (fC (.int 2))) (fC (.int 0))) (fC (.str "yes"))))
   (jd 4 (aK aa (fC (.str "when ")) (aP (bU (law_guard_row_F 8)) 3 (aD (aK bF (aF 9) (fC (.int 2))) (aD (aF 1) (aD (aF 3) aL))))))
   bJ)
   (uW 4 (aK aa (aF 4) (gQ (jA false (aK bF (aF 9) (fC (.int 3)))) [(1,"_law_boxes_here"),(2,"_law_events")] nJ (aK aa (fC (.str "do ")) (aP (bU law_deed_row_F) 3 (aD (aF 0) (aD (aF 1) (aD (aF 2) aL)))))))))))
def Gf:FS:=
 (aU (aW 1 (aK bF (aF 0) (fC (.int 3))))
  (aU (aW 2 (aK bF (aF 0) (fC (.int 4))))
  (aU (aW 3 (aK bF (aF 0) (fC (.int 5))))
  (aU (uW 4 (eX (aD (aK aa (fC (.str "order ")) (aK bF (aF 0) (fC (.int 0)))) (aD (aK aa (fC (.str "letters ")) (dY Ag (aD (aK bF (aF 0) (fC (.int 1))) aL))) (aD (aK aa (fC (.str "turns ")) (dY Ag (aD (aK bF (aF 0) (fC (.int 2))) aL))) aL)))))
  (aU (rC (jA true (aF 1)) (bN 5)
   (jd 4 (aK aa (aK aa (aK aa (aK aa (aK aa (fC (.str "box ")) (aK bF (aF 5) (fC (.int 0)))) (fC (.str " "))) (dY Ag (aD (aK bF (aF 5) (fC (.int 1))) aL))) (fC (.str " "))) (dY Ag (aD (aK bF (aF 5) (fC (.int 2))) aL)))))
  (aU (rC (jA true (aF 2)) (bN 6)
   (jd 4 (aK aa (fC (.str "event ")) (aF 6))))
  (aU (rC (jA true (aF 3)) (bN 7)
   Au)
  (aU (rC (jA true (aK bF (aF 0) (fC (.int 6)))) (bN 9)
   AA)
  (bO (aF 4))))))))))
def law_rows_F:aw D->Rz D:=dj 10 (Gf)
def cg:au ["_law_chart_here","_law_boxes_here","_law_events","_law_rooms_here","_law_rows_here","_law_box","_law_event","_law_room","_law_row","_law_door"] ["_law_chart_here"] (aV pI):=km
def N6(F:iU K "_law_rows" "_law_rows" pI f fd)
  (q:Dp P w K mg base bZ n f_law_deed_row d_law_deed_row ["_law_deed_here","_law_boxes_here","_law_events"] (cI K C law_deed_row_F 3) "_law_deed_row")
  (N:Dp P w K mg base bZ n uU uV ["_law_guard_here","_law_boxes_here","_law_rooms_here"] (cI K C (law_guard_row_F 8) 3) "_law_guard_row") (j:mg "str" = none) :
  cM P w K mg base bZ (n+1) f fd ["_law_chart_here"] (cI K C (law_rows_F) 1):=
 mL F cg fun _ A _ s H E hr=>⟨_,
  (zE (zK (i:=1) cg.nd rfl (Or.inr rfl) (z0 (r:=az K) bB (pv 0) zB (fun _ _=>rfl)))
  (zE (zK (i:=2) cg.nd rfl (Or.inr rfl) (z0 (r:=az K) bB (pv 0) zB (fun _ _=>rfl)))
  (zE (zK (i:=3) cg.nd rfl (aT rfl) (z0 (r:=az K) bB (pv 0) zB (fun _ _=>rfl)))
  (zE (zK (i:=4) cg.nd rfl (aT rfl) (yI (zA (yA (r:=bC K) aY zQ (z0 (r:=az K) bB (pv 0) zB (fun _ _=>rfl))) (zA (yA (r:=bC K) aY zQ (zZ pA rfl j jv (zA (z0 (r:=az K) bB (pv 0) zB (fun _ _=>rfl)) zD))) (zA (yA (r:=bC K) aY zQ (zZ pA rfl j jv (zA (z0 (r:=az K) bB (pv 0) zB (fun _ _=>rfl)) zD))) zD)))))
  (zE (je PassesOwn.never rfl (gR (pv 1)) (yH (i:=5) cg.nd rfl (aT rfl))
  (zG (yG (fu (r:=fQ) tM uZ uY yF (pv 4) (zA (yA (r:=bC K) aY (yA (r:=bC K) aY (yA (r:=bC K) aY (yA (r:=bC K) aY (yA (r:=bC K) aY zQ (z0 (r:=az K) bB (pv 5) zB (fun _ _=>rfl))) zQ) (zZ pA rfl j jv (zA (z0 (r:=az K) bB (pv 5) zB (fun _ _=>rfl)) zD))) zQ) (zZ pA rfl j jv (zA (z0 (r:=az K) bB (pv 5) zB (fun _ _=>rfl)) zD))) zD)))))
  (zE (je PassesOwn.never rfl (gR (pv 2)) (yH (i:=6) cg.nd rfl (aT rfl))
  (zG (yG (fu (r:=fQ) tM uZ uY yF (pv 4) (zA (yA (r:=bC K) aY zQ (pv 6)) zD)))))
  (zE (je PassesOwn.never rfl (gR (pv 3)) (yH (i:=7) cg.nd rfl (aT rfl))
  (zE (zK (i:=8) cg.nd rfl (aT rfl) (yA (r:=bC K) aY (yA (r:=bC K) aY (yA (r:=bC K) aY (yA (r:=jh K) fX zQ (z0 (r:=az K) bB (pv 7) zB (fun _ _=>rfl))) (z0 (r:=az K) bB (pv 7) zB (fun _ _=>rfl))) zQ) (z0 (r:=az K) bB (pv 7) zB (fun _ _=>rfl))))
  (zE (yB (zM (r:=dD K true) (mK hr.units) (z0 (r:=az K) bB (pv 7) zB (fun _ _=>rfl)) zQ (zS _))
  (zG (zK (i:=8) cg.nd rfl (aT rfl) (yA (r:=bC K) aY (yA (r:=bC K) aY (pv 8) zQ) (z0 (r:=az K) bB (pv 7) zB (fun _ _=>rfl)))))
  zU)
  (zE (yB (zM (r:=dD K true) (mK hr.units) (z0 (r:=az K) bB (pv 7) zB (fun _ _=>rfl)) zQ (zS _))
  (zG (zK (i:=8) cg.nd rfl (aT rfl) (yA (r:=bC K) aY (yA (r:=bC K) aY (pv 8) zQ) (z0 (r:=az K) bB (pv 7) zB (fun _ _=>rfl)))))
  zU)
  (zE (yG (fu (r:=fQ) tM uZ uY yF (pv 4) (zA (pv 8) zD)))
  (zE (zK (i:=4) cg.nd rfl (aT rfl) (yA (r:=bC K) aY (pv 4) (yN (cX:=[(1,"_law_boxes_here"),(2,"_law_events")]) rfl (show iB (aV pI) ["_law_chart_here","_law_boxes_here","_law_events","_law_rooms_here","_law_rows_here","_law_box","_law_event","_law_room","_law_row","_law_door"] _ _ _ from Pj) (gR (z0 (r:=az K) bB (pv 7) zB (fun _ _=>rfl))) (fun _ _ _ _ _ _=>iY) (fun _ _ _ _ _ _=>(yA (r:=bC K) aY zQ (pC q hr (zA (pv 0) (zA (pv 1) (zA (pv 2) zD)))))))))
  (zG (zK (i:=4) cg.nd rfl (aT rfl) (yA (r:=bC K) aY (pv 4) (yN (cX:=[(1,"_law_boxes_here"),(2,"_law_events")]) rfl (show iB (aV pI) ["_law_chart_here","_law_boxes_here","_law_events","_law_rooms_here","_law_rows_here","_law_box","_law_event","_law_room","_law_row","_law_door"] _ _ _ from Pj) (gR (z0 (r:=az K) bB (pv 7) zB (fun _ _=>rfl))) (fun _ _ _ _ _ _=>iY) (fun _ _ _ _ _ _=>(yA (r:=bC K) aY zQ (pC q hr (zA (pv 0) (zA (pv 1) (zA (pv 2) zD))))))))))))))))
  (zE (je PassesOwn.never rfl (gR (z0 (r:=az K) bB (pv 0) zB (fun _ _=>rfl))) (yH (i:=9) cg.nd rfl (aT rfl))
  (zE (zK (i:=8) cg.nd rfl (aT rfl) (yA (r:=bC K) aY (yA (r:=bC K) aY (yA (r:=bC K) aY (yA (r:=bC K) aY (yA (r:=bC K) aY zQ (z0 (r:=az K) bB (z0 (r:=az K) bB (pv 3) (z0 (r:=az K) bB (pv 9) zB (fun _ _=>rfl)) (fun _ _=>rfl)) zB (fun _ _=>rfl))) zQ) (z0 (r:=az K) bB (pv 2) (z0 (r:=az K) bB (pv 9) zB (fun _ _=>rfl)) (fun _ _=>rfl))) zQ) (z0 (r:=az K) bB (pv 9) zB (fun _ _=>rfl))))
  (zE (yB (zM (r:=Mr true) wQ (z0 (r:=az K) bB (pv 9) zB (fun _ _=>rfl)) wO (zS _))
  (zG (zK (i:=8) cg.nd rfl (aT rfl) (yA (r:=bC K) aY (yA (r:=bC K) aY (pv 8) zQ) (z0 (r:=az K) bB (z0 (r:=az K) bB (pv 3) (z0 (r:=az K) bB (pv 9) zB (fun _ _=>rfl)) (fun _ _=>rfl)) zB (fun _ _=>rfl)))))
  zU)
  (zE (yG (fu (r:=fQ) tM uZ uY yF (pv 4) (zA (pv 8) zD)))
  (zE (yB (zM (r:=dD K true) (mK hr.units) (z0 (r:=az K) bB (z0 (r:=az K) bB (pv 9) zB (fun _ _=>rfl)) zB (fun _ _=>rfl)) zQ (zS _))
  (zG (yG (fu (r:=fQ) tM uZ uY yF (pv 4) (zA (yA (r:=bC K) aY zQ (pC N hr (zA (z0 (r:=az K) bB (pv 9) zB (fun _ _=>rfl)) (zA (pv 1) (zA (pv 3) zD))))) zD))))
  zU)
  (zG (zK (i:=4) cg.nd rfl (aT rfl) (yA (r:=bC K) aY (pv 4) (yN (cX:=[(1,"_law_boxes_here"),(2,"_law_events")]) rfl (show iB (aV pI) ["_law_chart_here","_law_boxes_here","_law_events","_law_rooms_here","_law_rows_here","_law_box","_law_event","_law_room","_law_row","_law_door"] _ _ _ from Pj) (gR (z0 (r:=az K) bB (pv 9) zB (fun _ _=>rfl))) (fun _ _ _ _ _ _=>iY) (fun _ _ _ _ _ _=>(yA (r:=bC K) aY zQ (pC q hr (zA (pv 0) (zA (pv 1) (zA (pv 2) zD)))))))))))))))
  (zG (zP (pv 4))))))))))),
  (aN (aR (aG aX (aB 0) aH))
  (aN (aR (aG aX (aB 0) aH))
  (aN (aR (aG aX (aB 0) aH))
  (aN (rJ (dG (aA (aG ak aZ (aG aX (aB 0) aH)) (aA (aG ak aZ (bY Be (aA (aG aX (aB 0) aH) aJ))) (aA (aG ak aZ (bY Be (aA (aG aX (aB 0) aH) aJ))) aJ)))))
  (aN (kJ (gU (aB 1)) xQ
   (nY (aG ak (aG ak (aG ak (aG ak (aG ak aZ (aG aX (aB 5) aH)) aZ) (bY Be (aA (aG aX (aB 5) aH) aJ))) aZ) (bY Be (aA (aG aX (aB 5) aH) aJ)))))
  (aN (kJ (gU (aB 2)) xQ
   (nY (aG ak aZ (aB 6))))
  (aN (kJ (gU (aB 3)) xQ
   (aN (aR (aG ak (aG ak (aG ak (aG iM aZ (aG aX (aB 7) aH)) (aG aX (aB 7) aH)) aZ) (aG aX (aB 7) aH)))
   (aN (cD (aq (aG bc (aG aX (aB 7) aH) aZ))
   (aR (aG ak (aG ak (aB 8) aZ) (aG aX (aB 7) aH)))
   bG)
   (aN (cD (aq (aG bc (aG aX (aB 7) aH) aZ))
   (aR (aG ak (aG ak (aB 8) aZ) (aG aX (aB 7) aH)))
   bG)
   (aN (nY (aB 8))
   (aN (rJ (aG ak (aB 4) (gZ (gU (aG aX (aB 7) aH)) nU (aG ak aZ (aM rfl (aA (aB 0) (aA (aB 1) (aA (aB 2) aJ))))))))
   (rJ (aG ak (aB 4) (gZ (gU (aG aX (aB 7) aH)) nU (aG ak aZ (aM rfl (aA (aB 0) (aA (aB 1) (aA (aB 2) aJ))))))))))))))
  (aN (kJ (gU (aG aX (aB 0) aH)) xQ
   (aN (aR (aG ak (aG ak (aG ak (aG ak (aG ak aZ (aG aX (aG aX (aB 3) (aG aX (aB 9) aH)) aH)) aZ) (aG aX (aB 2) (aG aX (aB 9) aH))) aZ) (aG aX (aB 9) aH)))
   (aN (cD (aq (aG NP (aG aX (aB 9) aH) xP))
   (aR (aG ak (aG ak (aB 8) aZ) (aG aX (aG aX (aB 3) (aG aX (aB 9) aH)) aH)))
   bG)
   (aN (nY (aB 8))
   (aN (cD (aq (aG bc (aG aX (aG aX (aB 9) aH) aH) aZ))
   (nY (aG ak aZ (aM rfl (aA (aG aX (aB 9) aH) (aA (aB 1) (aA (aB 3) aJ))))))
   bG)
   (rJ (aG ak (aB 4) (gZ (gU (aG aX (aB 9) aH)) nU (aG ak aZ (aM rfl (aA (aB 0) (aA (aB 1) (aA (aB 2) aJ)))))))))))))
  (ao (aB 4))))))))))⟩
abbrev A9:FS:=aU (aW 8 (aP (bU law_mixed_F) 3 (aD (aF 0) (aD (aK aa (fC (.int 20)) (aF 7)) (aD (fC (.int 70)) aL)))))
   (aU (aW 9 (aK bF (eX (LQ [.s "to",.s "back",.s "stay"])) (aK bL (aF 8) (fC (.int 3)))))
   (aU (aW 10 (aK bL (aK cC (aF 8) (fC (.int 3))) (dY cY (aD (aF 2) aL))))
   (aU (eV (jK (aQ (aK (dJ false) (aF 9) (fC (.str "back")))) (aQ (aK (dJ false) (dY cY (aD (aF 6) aL)) (fC (.int 0)))))
   (aW 9 (fC (.str "to")))
   bJ)
   (aU (eV (aQ (aK (dJ false) (aF 9) (fC (.str "back"))))
   (aW 10 (aK bF (aF 6) (aK bL (aF 10) (dY cY (aD (aF 6) aL)))))
   bJ)
   (aU (eV (aQ (aK (dJ false) (aF 9) (fC (.str "stay"))))
   (aW 10 (fC .non))
   bJ)
   (aU (aW 11 (aP (bU (law_guard_F 5)) 6 (aD (aF 0) (aD (aK aa (fC (.int 20)) (aF 7)) (aD (fC (.int 3)) (aD (aK aa (fC (.int 1)) (aK bL (aK cC (aF 8) (fC (.int 200))) (fC (.int 4)))) (aD (dY cY (aD (aF 3) aL)) (aD (dY cY (aD (aF 2) aL)) aL))))))))
   (aU (rC (lA (aD (aK bL (aK cC (aF 8) (fC (.int 800))) (fC (.int 3))) aL)) (bN 12)
   (aW 11 (dR (aD (fC (.str "not")) (aD (aF 11) aL)))))
   (aU (aW 13 (aK bL (aP (bU law_mixed_F) 3 (aD (aF 0) (aD (aK aa (fC (.int 20)) (aF 7)) (aD (fC (.int 71)) aL)))) (dY cY (aD (aF 2) aL))))
   (aU (aW 14 (aK bL (aP (bU law_mixed_F) 3 (aD (aF 0) (aD (aK aa (fC (.int 20)) (aF 7)) (aD (fC (.int 72)) aL)))) (aF 4)))
   (jd 5 (dR (aD (aF 13) (aD (aF 14) (aD (aF 11) (aD (aP (bU law_deeds_F) 5 (aD (aF 0) (aD (aK aa (fC (.int 20)) (aF 7)) (aD (fC (.int 80)) (aD (aF 3) (aD (aF 4) aL)))))) (aD (aF 9) (aD (aF 10) aL)))))))))))))))))
def Ca:FS:=
 (aU (uW 5 (eX aL))
  (aU (aW 6 (gQ (lA (aD (dY cY (aD (aF 2) aL)) aL)) [(2,"_law_rooms_here")] (aQ (aK (dJ true) (aK bF (aK bF (aF 1) (aF 0)) (fC (.int 3))) (fC (.str "")))) (aF 0)))
  (aU (rC (lA (aD (aF 1) aL)) (bN 7)
   A9)
  (bO (dY vg (aD (aF 5) aL))))))
def law_doors_F:aw D->Rz D:=dj 15 (Ca)
def cj:au ["_law_script","_law_many","_law_rooms_here","_law_boxes_here","_law_events","_law_doors_here","_law_keepers","_law_k","_law_number","_law_way","_law_goal","_law_guard_here","_law_j","_law_room","_law_event"] ["_law_script","_law_many","_law_rooms_here","_law_boxes_here","_law_events"] (aV rz):=km
def KQ(F:iU K "_law_doors" "_law_doors" rz f fd)
  (B:Dp P w K mg base bZ n iG iH ["_law_script","_law_k","_law_salt"] (cI K C law_mixed_F 3) "_law_mixed")
  (Q:Dp P w K mg base bZ n Cp Cw ["_law_script","_law_k","_law_salt","_law_high","_law_boxes_here","_law_rooms_here"] (cI K C (law_guard_F 5) 6) "_law_guard")
  (q:Dp P w K mg base bZ n O7 Oh ["_law_script","_law_k","_law_salt","_law_boxes_here","_law_events"] (cI K C law_deeds_F 5) "_law_deeds") (b:mg "len" = none) (a:mg "range" = none) (d:mg "tuple" = none) :
  cM P w K mg base bZ (n+1) f fd ["_law_script","_law_many","_law_rooms_here","_law_boxes_here","_law_events"] (cI K C (law_doors_F) 5):=
 mL F cj fun _ A _ s H E hr=>⟨_,
  (@zE _ _ _ _ _ (zK (i:=5) cj.nd rfl (aT rfl) (yI zD)) (@zE _ _ _ _ _ (K1 (i:=6) (cX:=[(2,"_law_rooms_here")]) rfl cj.nd rfl (aT rfl) (show iB (aV rz) ["_law_script","_law_many","_law_rooms_here","_law_boxes_here","_law_events","_law_doors_here","_law_keepers","_law_k","_law_number","_law_way","_law_goal","_law_guard_here","_law_j","_law_room","_law_event"] _ _ _ from Pj) (jX rfl a (zA (zT (r:=dC K) bA rfl b gA (zA (pv 2) zD)) zD)) (fun _ _ _ _ _ _=>ye (zM (r:=dD K true) (mK hr.units) (z0 (r:=az K) bB (z0 (r:=az K) bB (pv 1) (pv 0) (fun _ _=>rfl)) zB (fun _ _=>rfl)) zQ (zS _))) (fun _ _ _ _ _ _=>(pv 0))) (@zE _ _ _ _ _ (je PassesOwn.never rfl (jX rfl a (zA (pv 1) zD)) (yH (i:=7) cj.nd rfl (aT rfl)) (@zE _ _ _ _ _ (zK (i:=8) cj.nd rfl (aT rfl) (pC B hr (zA (pv 0) (zA (yA (r:=bC K) aY zB (pv 7)) (zA zB zD))))) (@zE _ _ _ _ _ (@zK _ _ 9 _ _ _ _ cj.nd rfl (aT rfl) (@z0 _ _ _ _ _ _ (az K) bB (@yI _ _ _ _ (@CK _ _ [.s "to",.s "back",.s "stay"] rfl)) (yA zY (pv 8) zB) (fun _ _=>rfl)) rfl (by ext z)) (zE (zK (i:=10) cj.nd rfl (aT rfl) (yA zY (yA yJ (pv 8) zB) (zT (r:=dC K) bA rfl b gA (zA (pv 2) zD)))) (zE (yB (PW.pt (pw_and (zM (r:=dD K false) (bW hr.units) (pv 9) zQ (zS _)) (yL (zM (r:=dD K false) (bW hr.units) (zT (r:=dC K) bA rfl b gA (zA (pv 6) zD)) zB (zS _))))) (zG (zK (i:=9) cj.nd rfl (aT rfl) zQ)) zU) (zE (yB (zM (r:=dD K false) (bW hr.units) (pv 9) zQ (zS _)) (zG (zK (i:=10) cj.nd rfl (aT rfl) (z0 (r:=az K) bB (pv 6) (yA zY (pv 10) (zT (r:=dC K) bA rfl b gA (zA (pv 6) zD))) (fun _ _=>rfl)))) zU) (zE (yB (zM (r:=dD K false) (bW hr.units) (pv 9) zQ (zS _)) (zG (zK (i:=10) cj.nd rfl (aT rfl) wO)) zU) (zE (zK (i:=11) cj.nd rfl (aT rfl) (pC Q hr (zA (pv 0) (zA (yA (r:=bC K) aY zB (pv 7)) (zA zB (zA (yA (r:=bC K) aY zB (yA zY (yA yJ (pv 8) zB) zB)) (zA (zT (r:=dC K) bA rfl b gA (zA (pv 3) zD)) (zA (zT (r:=dC K) bA rfl b gA (zA (pv 2) zD)) zD)))))))) (zE (je PassesOwn.never rfl (jX rfl a (zA (yA zY (yA yJ (pv 8) zB) zB) zD)) (yH (i:=12) cj.nd rfl (aT rfl)) (zG (zK (i:=11) cj.nd rfl (aT rfl) (zW (zA zQ (zA (pv 11) zD)))))) (zE (zK (i:=13) cj.nd rfl (aT rfl) (yA zY (pC B hr (zA (pv 0) (zA (yA (r:=bC K) aY zB (pv 7)) (zA zB zD)))) (zT (r:=dC K) bA rfl b gA (zA (pv 2) zD)))) (zE (zK (i:=14) cj.nd rfl (aT rfl) (yA zY (pC B hr (zA (pv 0) (zA (yA (r:=bC K) aY zB (pv 7)) (zA zB zD)))) (pv 4))) (zG (yG (fu (r:=fQ) tM uZ uY yF (pv 5) (zA (zW (zA (pv 13) (zA (pv 14) (zA (pv 11) (zA (pC q hr (zA (pv 0) (zA (yA (r:=bC K) aY zB (pv 7)) (zA zB (zA (pv 3) (zA (pv 4) zD)))))) (zA (pv 9) (zA (pv 10) zD))))))) zD))))))))))))))) (zG (zP (zZ (r:=pJ K) zX rfl d Ac (zA (pv 5) zD))))))),
  (aN (rJ (dG aJ))
  (aN (aR (gZ (oW (aA (bY cP (aA (aB 2) aJ)) aJ)) (aq (aG bc (aG aX (aG aX (aB 1) (aB 0)) aH) aZ)) (aB 0)))
  (aN (kJ (oW (aA (aB 1) aJ)) xQ
   (aN (aR (aM rfl (aA (aB 0) (aA (aG ak aH (aB 7)) (aA aH aJ)))))
   (aN (aR (aG aX (dG (Cu _)) (aG (bH (fun _ _ h=>aS h) fun _ _ _ _=>rfl) (aB 8) aH)))
   (aN (aR (aG (bH (fun _ _ h=>aS h) fun _ _ _ _=>rfl) (aG (bH (fun _ _ h=>aS h) fun _ _ _ _=>rfl) (aB 8) aH) (bY cP (aA (aB 2) aJ))))
   (aN (cD (pW (aq (aG bc (aB 9) aZ)) (aq (aG bc (bY cP (aA (aB 6) aJ)) aH)))
   (aR aZ)
   bG)
   (aN (cD (aq (aG bc (aB 9) aZ))
   (aR (aG aX (aB 6) (aG (bH (fun _ _ h=>aS h) fun _ _ _ _=>rfl) (aB 10) (bY cP (aA (aB 6) aJ)))))
   bG)
   (aN (cD (aq (aG bc (aB 9) aZ))
   (aR xP)
   bG)
   (aN (aR (aM rfl (aA (aB 0) (aA (aG ak aH (aB 7)) (aA aH (aA (aG ak aH (aG (bH (fun _ _ h=>aS h) fun _ _ _ _=>rfl) (aG (bH (fun _ _ h=>aS h) fun _ _ _ _=>rfl) (aB 8) aH) aH)) (aA (bY cP (aA (aB 3) aJ)) (aA (bY cP (aA (aB 2) aJ)) aJ))))))))
   (aN (kJ (oW (aA (aG (bH (fun _ _ h=>aS h) fun _ _ _ _=>rfl) (aG (bH (fun _ _ h=>aS h) fun _ _ _ _=>rfl) (aB 8) aH) aH) aJ)) xQ
   (aR (cU (aA aZ (aA (aB 11) aJ)))))
   (aN (aR (aG (bH (fun _ _ h=>aS h) fun _ _ _ _=>rfl) (aM rfl (aA (aB 0) (aA (aG ak aH (aB 7)) (aA aH aJ)))) (bY cP (aA (aB 2) aJ))))
   (aN (aR (aG (bH (fun _ _ h=>aS h) fun _ _ _ _=>rfl) (aM rfl (aA (aB 0) (aA (aG ak aH (aB 7)) (aA aH aJ)))) (aB 4)))
   (nY (cU (aA (aB 13) (aA (aB 14) (aA (aB 11) (aA (aM rfl (aA (aB 0) (aA (aG ak aH (aB 7)) (aA aH (aA (aB 3) (aA (aB 4) aJ)))))) (aA (aB 9) (aA (aB 10) aJ)))))))))))))))))))
  (ao (bY pq (aA (aB 5) aJ))))))⟩
def Ce:FS:=
 (aU (aW 1 (aK bL (aP (bU law_mixed_F) 3 (aD (aF 0) (aD (fC (.int 0)) (aD (fC (.int 1)) aL)))) (fC (.int 8))))
  (aU (aW 2 (aK aa (fC (.int 1)) (aK bL (aP (bU law_mixed_F) 3 (aD (aF 0) (aD (fC (.int 0)) (aD (fC (.int 2)) aL)))) (fC (.int 9)))))
  (aU (eV (aQ (aK (dJ false) (aF 1) (fC (.int 1))))
   (aW 2 (aK iJ (fC (.int 40)) (aK jJ (aK bL (aP (bU law_mixed_F) 3 (aD (aF 0) (aD (fC (.int 0)) (aD (fC (.int 3)) aL)))) (fC (.int 2))) (aK bL (aP (bU law_mixed_F) 3 (aD (aF 0) (aD (fC (.int 0)) (aD (fC (.int 4)) aL)))) (fC (.int 30))))))
   bJ)
  (aU (aW 3 (aP (bU law_names_F) 3 (aD (aF 0) (aD (aK bL (aP (bU law_mixed_F) 3 (aD (aF 0) (aD (fC (.int 1)) (aD (fC (.int 1)) aL)))) (fC (.int 9))) (aD (fC (.int 46)) aL)))))
  (aU (aW 4 (aP (bU law_boxes_F) 2 (aD (aF 0) (aD (aK bL (aP (bU law_mixed_F) 3 (aD (aF 0) (aD (fC (.int 1)) (aD (fC (.int 2)) aL)))) (fC (.int 7))) aL))))
  (aU (aW 5 (aP (bU law_rooms_F) 4 (aD (aF 0) (aD (aF 2) (aD (aF 4) (aD (dY cY (aD (aF 3) aL)) aL))))))
  (aU (aW 6 (aK bL (aP (bU law_mixed_F) 3 (aD (aF 0) (aD (fC (.int 1)) (aD (fC (.int 3)) aL)))) (fC (.int 7))))
  (aU (eV (aQ (aK (dJ false) (aF 1) (fC (.int 2))))
   (aW 6 (aK iJ (fC (.int 60)) (aK jJ (aK bL (aP (bU law_mixed_F) 3 (aD (aF 0) (aD (fC (.int 1)) (aD (fC (.int 4)) aL)))) (fC (.int 2))) (aK bL (aP (bU law_mixed_F) 3 (aD (aF 0) (aD (fC (.int 1)) (aD (fC (.int 5)) aL)))) (fC (.int 50))))))
   bJ)
  (aU (aW 7 (aP (bU law_doors_F) 5 (aD (aF 0) (aD (aK jJ (aF 6) (dY uP (aD (dY cY (aD (aF 3) aL)) (aD (fC (.int 1)) aL)))) (aD (aF 5) (aD (aF 4) (aD (dY cY (aD (aF 3) aL)) aL)))))))
  (aU (aW 8 (aK bF (eX (aD (fC (.str "inner")) (aD (fC (.str "outer")) aL))) (aK bL (aP (bU law_mixed_F) 3 (aD (aF 0) (aD (fC (.int 1)) (aD (fC (.int 6)) aL)))) (fC (.int 2)))))
  (bO (dR (aD (aF 8) (aD (aK bL (aP (bU law_mixed_F) 3 (aD (aF 0) (aD (fC (.int 0)) (aD (fC (.int 7)) aL)))) (fC (.int 13))) (aD (aK aa (fC (.int 1)) (aK bL (aP (bU law_mixed_F) 3 (aD (aF 0) (aD (fC (.int 0)) (aD (fC (.int 8)) aL)))) (fC (.int 20)))) (aD (aF 4) (aD (aF 3) (aD (aF 5) (aD (aF 7) aL)))))))))))))))))))
def law_chart_F:aw D->Rz D:=dj 9 (Ce)
def eF:au ["_law_script","_law_big","_law_many","_law_events","_law_boxes_here","_law_rooms_here","_law_count","_law_doors_here","_law_order"] ["_law_script"] (aV vP):=km
def KY(F:iU K "_law_chart" "_law_chart" vP f fd)
  (b:Dp P w K mg base bZ n iG iH ["_law_script","_law_k","_law_salt"] (cI K C law_mixed_F 3) "_law_mixed")
  (N:Dp P w K mg base bZ n Cm Cv ["_law_script","_law_many","_law_salt"] (cI K C law_names_F 3) "_law_names")
  (a:Dp P w K mg base bZ n f_law_boxes d_law_boxes ["_law_script","_law_many"] (cI K C law_boxes_F 2) "_law_boxes")
  (p:Dp P w K mg base bZ n f_law_rooms d_law_rooms ["_law_script","_law_many","_law_boxes_here","_law_events"] (cI K C law_rooms_F 4) "_law_rooms")
  (Q:Dp P w K mg base bZ n f_law_doors d_law_doors ["_law_script","_law_many","_law_rooms_here","_law_boxes_here","_law_events"] (cI K C law_doors_F 5) "_law_doors") (B:mg "len" = none) (S:mg "min" = none) :
  cM P w K mg base bZ (n+1) f fd ["_law_script"] (cI K C (law_chart_F) 1):=
 mL F eF fun _ A _ s H E hr=>⟨_,
  (zE (zK (i:=1) eF.nd rfl (aT rfl) (yA zY (pC b hr (zA (pv 0) (zA zB (zA zB zD)))) zB))
  (zE (zK (i:=2) eF.nd rfl (aT rfl) (yA (r:=bC K) aY zB (yA zY (pC b hr (zA (pv 0) (zA zB (zA zB zD)))) zB)))
  (zE (yB (zM (r:=dD K false) (bW hr.units) (pv 1) zB (zS _))
  (zG (zK (i:=2) eF.nd rfl (aT rfl) (yA jH zB (yA (r:=jh K) fX (yA zY (pC b hr (zA (pv 0) (zA zB (zA zB zD)))) zB) (yA zY (pC b hr (zA (pv 0) (zA zB (zA zB zD)))) zB)))))
  zU)
  (zE (zK (i:=3) eF.nd rfl (aT rfl) (pC N hr (zA (pv 0) (zA (yA zY (pC b hr (zA (pv 0) (zA zB (zA zB zD)))) zB) (zA zB zD)))))
  (zE (zK (i:=4) eF.nd rfl (aT rfl) (pC a hr (zA (pv 0) (zA (yA zY (pC b hr (zA (pv 0) (zA zB (zA zB zD)))) zB) zD))))
  (zE (zK (i:=5) eF.nd rfl (aT rfl) (pC p hr (zA (pv 0) (zA (pv 2) (zA (pv 4) (zA (zT (r:=dC K) bA rfl B gA (zA (pv 3) zD)) zD))))))
  (zE (zK (i:=6) eF.nd rfl (aT rfl) (yA zY (pC b hr (zA (pv 0) (zA zB (zA zB zD)))) zB))
  (zE (yB (zM (r:=dD K false) (bW hr.units) (pv 1) zB (zS _))
  (zG (zK (i:=6) eF.nd rfl (aT rfl) (yA jH zB (yA (r:=jh K) fX (yA zY (pC b hr (zA (pv 0) (zA zB (zA zB zD)))) zB) (yA zY (pC b hr (zA (pv 0) (zA zB (zA zB zD)))) zB)))))
  zU)
  (zE (zK (i:=7) eF.nd rfl (aT rfl) (pC Q hr (zA (pv 0) (zA (yA (r:=jh K) fX (pv 6) (zT (Bg rfl) rfl S js (zA (zT (r:=dC K) bA rfl B gA (zA (pv 3) zD)) (zA zB zD)))) (zA (pv 5) (zA (pv 4) (zA (zT (r:=dC K) bA rfl B gA (zA (pv 3) zD)) zD)))))))
  (zE (zK (i:=8) eF.nd rfl (aT rfl) (z0 (r:=az K) bB (yI (zA zQ (zA zQ zD))) (yA zY (pC b hr (zA (pv 0) (zA zB (zA zB zD)))) zB) (fun _ _=>rfl)))
  (zG (zP (zW (zA (pv 8) (zA (yA zY (pC b hr (zA (pv 0) (zA zB (zA zB zD)))) zB) (zA (yA (r:=bC K) aY zB (yA zY (pC b hr (zA (pv 0) (zA zB (zA zB zD)))) zB)) (zA (pv 4) (zA (pv 3) (zA (pv 5) (zA (pv 7) zD)))))))))))))))))))),
  (aN (aR (aG (bH (fun _ _ h=>aS h) fun _ _ _ _=>rfl) (aM rfl (aA (aB 0) (aA aH (aA aH aJ)))) aH))
  (aN (aR (aG ak aH (aG (bH (fun _ _ h=>aS h) fun _ _ _ _=>rfl) (aM rfl (aA (aB 0) (aA aH (aA aH aJ)))) aH)))
  (aN (cD (aq (aG bc (aB 1) aH))
   (aR (aG (fJ fun _ _ _ _=>rfl) aH (aG iM (aG (bH (fun _ _ h=>aS h) fun _ _ _ _=>rfl) (aM rfl (aA (aB 0) (aA aH (aA aH aJ)))) aH) (aG (bH (fun _ _ h=>aS h) fun _ _ _ _=>rfl) (aM rfl (aA (aB 0) (aA aH (aA aH aJ)))) aH))))
   bG)
  (aN (aR (aM rfl (aA (aB 0) (aA (aG (bH (fun _ _ h=>aS h) fun _ _ _ _=>rfl) (aM rfl (aA (aB 0) (aA aH (aA aH aJ)))) aH) (aA aH aJ)))))
  (aN (aR (aM rfl (aA (aB 0) (aA (aG (bH (fun _ _ h=>aS h) fun _ _ _ _=>rfl) (aM rfl (aA (aB 0) (aA aH (aA aH aJ)))) aH) aJ))))
  (aN (aR (aM rfl (aA (aB 0) (aA (aB 2) (aA (aB 4) (aA (bY cP (aA (aB 3) aJ)) aJ))))))
  (aN (aR (aG (bH (fun _ _ h=>aS h) fun _ _ _ _=>rfl) (aM rfl (aA (aB 0) (aA aH (aA aH aJ)))) aH))
  (aN (cD (aq (aG bc (aB 1) aH))
   (aR (aG (fJ fun _ _ _ _=>rfl) aH (aG iM (aG (bH (fun _ _ h=>aS h) fun _ _ _ _=>rfl) (aM rfl (aA (aB 0) (aA aH (aA aH aJ)))) aH) (aG (bH (fun _ _ h=>aS h) fun _ _ _ _=>rfl) (aM rfl (aA (aB 0) (aA aH (aA aH aJ)))) aH))))
   bG)
  (aN (aR (aM rfl (aA (aB 0) (aA (aG iM (aB 6) (bY Le (aA (bY cP (aA (aB 3) aJ)) (aA aH aJ)))) (aA (aB 5) (aA (aB 4) (aA (bY cP (aA (aB 3) aJ)) aJ)))))))
  (aN (aR (aG aX (dG (aA aZ (aA aZ aJ))) (aG (bH (fun _ _ h=>aS h) fun _ _ _ _=>rfl) (aM rfl (aA (aB 0) (aA aH (aA aH aJ)))) aH)))
  (ao (cU (aA (aB 8) (aA (aG (bH (fun _ _ h=>aS h) fun _ _ _ _=>rfl) (aM rfl (aA (aB 0) (aA aH (aA aH aJ)))) aH) (aA (aG ak aH (aG (bH (fun _ _ h=>aS h) fun _ _ _ _=>rfl) (aM rfl (aA (aB 0) (aA aH (aA aH aJ)))) aH)) (aA (aB 4) (aA (aB 3) (aA (aB 5) (aA (aB 7) aJ)))))))))))))))))))⟩
end
def Eo(s:aw Int)(k:Nat):∃ c:Int,law_cell_at_F [.dZ s,.int k] = .ok (.int c):=by
 by_cases h:s.length=0
 .rw[eR h];exact⟨0,rfl⟩
 .have H:k%s.length<s.length:=iA _ (by omega);refine⟨s[k%s.length],?_⟩;show fin (wA [.fr (.dZ s),.fr (.int (k:Int))])=_;refine sF ?_ (j9 (w:=.fr (.int s[k%s.length])) (fO (x:=.fr (.dZ s)) (y:=.fr (.int ((k%s.length:Nat):Int))) rfl (fO (x:=.fr (.int (k:Int))) (y:=.fr (.int s.length)) rfl rfl (vo (by omega))) ?_) rfl)
  .show Rz.ok (((s.length:Int)==0) != false)=_;rw[cE.mpr (by omega)];rfl
  .show Uj ((xZ s ((k%s.length:Nat):Int)).map D.int) = .ok (.fr (.int s[k%s.length]))
   have z:xZ s ((k%s.length:Nat):Int)=some s[k%s.length]:=by
    unfold xZ Nz;ext bf;exact wF H
   rw[z];rfl
def mG{i j:Int}(h:0<=i/\i<2 ^ 40):M6 i j:=.inl ⟨by omega,by omega⟩
def Wk(hs:s.length<=63)(k S:Nat)(p:k<=1000)(l:S<=1000):∃ m:Nat,m<2147483648/\law_mixed_F [.dZ s,.int k,.int S] = .ok (.int m):=by
 obtain⟨c,i⟩:=Eo s k;generalize b:(if (s.length:Int)>1 then (s.length:Int) else 1)=q
 have f:0<q/\q<1073741824:=by split at b <;> omega
 have L:0<=(k:Int)/q:=Int.ediv_nonneg (by omega) (by omega);have P:(k:Int)/q<=1000:=Int.le_trans (Int.ediv_le_self _ (by omega)) (by omega);generalize Q:(k:Int)/q=U at *
 have e:(0:Int)<=1009*(k:Int)/\1009*(k:Int)<2 ^ 40:=by omega
 have j:(0:Int)<=7919*(S:Int)/\7919*(S:Int)<2 ^ 40:=by omega
 generalize g:Builtin.bitAnd c 2147483647+1009*(k:Int)*k+7919*(S:Int)*S+12=a;generalize H:a*48271%2147483647=N
 have B:0<=N/\N<2147483647:=by omega
 generalize h:N*N%2147483629=n;generalize d:c/2 ^ (31*((S:Int)+128*U)).toNat+n=v;have o:=qDX v;refine⟨(Builtin.bitAnd v 2147483647).toNat,by omega,?_⟩;rw[show (((Builtin.bitAnd v 2147483647).toNat:Nat):Int)=Builtin.bitAnd v 2147483647 by omega];show fin (CZ [.fr (.dZ s),.fr (.int (k:Int)),.fr (.int (S:Int)),.no,.no,.no])=_;refine sN (eE (iQ (ws:=[.fr (.dZ s),.fr (.int (k:Int))]) rfl i rfl (.inl rfl)) rfl) (sN (ρ':=[.fr (.dZ s),.fr (.int (k:Int)),.fr (.int (S:Int)),.fr (.int c),.fr (.int U),.no]) ?_ (sN (ρ':=[.fr (.dZ s),.fr (.int (k:Int)),.fr (.int (S:Int)),.fr (.int c),.fr (.int U),.fr (.int a)]) ?_ (sN (ρ':=[.fr (.dZ s),.fr (.int (k:Int)),.fr (.int (S:Int)),.fr (.int c),.fr (.int U),.fr (.int N)]) ?_ (sN (ρ':=[.fr (.dZ s),.fr (.int (k:Int)),.fr (.int (S:Int)),.fr (.int c),.fr (.int U),.fr (.int n)]) ?_ (j9 (w:=.fr (.int (Builtin.bitAnd v 2147483647))) ?_ rfl)))))
 .exact eE (fO (x:=.fr (.int (k:Int))) (y:=.fr (.int q)) rfl (by show Rz.ok (W.fr (.int (if (s.length:Int)>1 then (s.length:Int) else 1)))=_;rw[b]) (z:=.ok (.fr (.int U))) (by rw[<-Q];exact qH0 f)) rfl
 .rw[<-g];exact eE (fO (fO (fO (x:=.fr (.int (Builtin.bitAnd c 2147483647))) rfl (fO (fO (x:=.fr (.int 1009)) (y:=.fr (.int (k:Int))) rfl rfl (pN (mG (by omega)))) (y:=.fr (.int (k:Int))) rfl (pN (mG e))) rfl) (fO (fO (x:=.fr (.int 7919)) (y:=.fr (.int (S:Int))) rfl rfl (pN (mG (by omega)))) (y:=.fr (.int (S:Int))) rfl (pN (mG j))) rfl) (y:=.fr (.int 12)) rfl rfl) rfl
 .rw[<-H];exact eE (fO (fO (x:=.fr (.int a)) (y:=.fr (.int 48271)) rfl rfl (pN (.inr ⟨by omega,by omega⟩))) (y:=.fr (.int 2147483647)) rfl rfl) rfl
 .rw[<-h];exact eE (fO (fO (x:=.fr (.int N)) (y:=.fr (.int N)) rfl rfl (pN (mG (by omega)))) (y:=.fr (.int 2147483629)) rfl rfl) rfl
 .rw[<-d];refine fO (x:=.fr (.int (c/2 ^ (31*((S:Int)+128*U)).toNat+n))) (fO (x:=.fr (.int (c/2 ^ (31*((S:Int)+128*U)).toNat))) (fO (x:=.fr (.int c)) (y:=.fr (.int (31*((S:Int)+128*U)))) rfl (fO (x:=.fr (.int 31)) rfl (fO (x:=.fr (.int (S:Int))) rfl (fO (x:=.fr (.int 128)) (y:=.fr (.int U)) rfl rfl (pN (mG (by omega)))) rfl) (pN (mG (by omega)))) ?_) (y:=.fr (.int n)) rfl rfl) (y:=.fr (.int 2147483647)) rfl rfl;show (if decide ((0:Int)<=31*((S:Int)+128*U))=true then Rz.ok (W.fr (.int (c/2 ^ (31*((S:Int)+128*U)).toNat))) else .st)=Rz.ok (W.fr (.int (c/2 ^ (31*((S:Int)+128*U)).toNat)));rw[cq (bq (by omega))]
def Jx{f:FE}{ρ:aw Sl}{n:Nat}(h:f ρ = .ok (.fr (.int n)))(d:n<=100000):lA (aD f aL) ρ = .ok ((List.range n).map fun k:Nat=>D.int k):=by unfold lA;rw[dF h rfl,pB];simp only[W.a];rw[cq ⟨by omega,by omega⟩,Va];unfold nu;simp
def forR{f:FI}{b:FB}{g:FS}{α:Type}(st:α->aw Sl)(P:Nat->α->Prop)(n:Nat)(a:α)(l:f (st a) = .ok ((List.range n).map fun k:Nat=>D.int k))(c:P 0 a)(step:∀ i a,i<n->P i a->∃ ρ1 A,b (.int i) (st a)=some ρ1/\g ρ1 = .ok (.nx (st A))/\P (i+1) A):∃ A,rC f b g (st a) = .ok (.nx (st A))/\P n A:=by
 obtain⟨A,e,h⟩:=qCO (b:=b) (g:=g) st P ((List.range n).map fun k:Nat=>D.int k) 0 a c fun i d a hd p=>by
  rw[jf]at hd;obtain⟨j,J,rfl⟩:=Option.map_eq_some_iff.mp hd;obtain⟨H,J⟩:=rO.mp J;rw[List.getElem_range]at J;subst J;rw[c4]at H;rw[j2]at p;have:=step i a H p;rw[j2];ext x
 refine⟨A,?_,by rw[fH,c4,j2]at h;exact h⟩;unfold rC;rw[l];exact e
def nM{a b:Str}(h:a.length+b.length<=16777216):aa (.str a) (.str b) = .ok (.fr (.str (a++b))):=cq (le_size h)
def qFY:∀ a,a<26->xZ ("abcdefghijklmnopqrstuvwxyz" : Str).cps.toList (a:Nat)=some (97+a):=by ext y
def qBD{a:Nat}(h:a<26):bF (.str "abcdefghijklmnopqrstuvwxyz") (.int a) = .ok (.fr (.str ⟨#[97+a]⟩)):=by show (if ("abcdefghijklmnopqrstuvwxyz" : Str).length<=sizeLine then Uj ((xZ ("abcdefghijklmnopqrstuvwxyz" : Str).cps.toList (a:Nat)).map fun c=>D.str ⟨#[c]⟩) else .st)=_;rw[cq (zI (by ext y)),qFY a h];rfl
def RQ(n:Nat):∃ z,law_word_F [.int n] = .ok (.str z)/\Wo z:=by
 show ∃ z,fin (Ge [.fr (.int (n:Int)),.no,.no,.no,.no])=_/\_
 let t:Nat:=n/300%25+1
 obtain⟨⟨z,a,b⟩,e,h,H⟩:=forR (f:=lA (aD (aK aa (fC (.int 1)) (aK bL (aF 0) (fC (.int 12)))) aL)) (b:=bN 3) (g:=aU (aW 4 (aK bL (aK aa (aK cC (aF 0) (fC (.int 12))) (aK jJ (aF 3) (aF 2))) (fC (.int 26)))) (aW 1 (aK aa (aF 1) (aK bF (fC (.str "abcdefghijklmnopqrstuvwxyz")) (aF 4))))) (fun x:Str×Sl×Sl=>[.fr (.int (n:Int)),.fr (.str x.1),.fr (.int (t:Nat)),x.2.1,x.2.2]) (fun i x=>(cd x.1).length=i/\∀ c∈cd x.1,97<=c/\c<123) (1+n%12) ("",.no,.no)
  (Jx (n:=1+n%12) (fO (x:=.fr (.int 1)) (y:=.fr (.int ((n%12:Nat):Int))) rfl rfl rfl) (by omega)) ⟨rfl,nofun⟩ fun i x _ ⟨h,H⟩=>by
  have J:(n/12+i*t)%26<26:=iA _ (by decide);refine⟨_,(x.1++⟨#[97+(n/12+i*t)%26]⟩,.fr (.int i),.fr (.int ((n/12+i*t)%26:Nat))),rfl,?_,?_,?_⟩
  .rw[lF (eE (w:=.fr (.int ((n/12+i*t)%26:Nat))) (fO (x:=.fr (.int ((n/12:Nat)+(i:Int)*(t:Nat)))) (y:=.fr (.int 26)) (fO (x:=.fr (.int ((n/12:Nat):Int))) rfl (fO (x:=.fr (.int i)) (y:=.fr (.int (t:Nat))) rfl rfl (pN (mG (by omega)))) rfl) rfl rfl) rfl)];exact eE (w:=.fr (.str (x.1++⟨#[97+(n/12+i*t)%26]⟩))) (fO (x:=.fr (.str x.1)) rfl (fO (x:=.fr (.str "abcdefghijklmnopqrstuvwxyz")) (y:=.fr (.int ((n/12+i*t)%26:Nat))) rfl rfl (qBD J)) (nM (by rw[bI x.1,h];show i+1<=_;omega))) rfl
  .rw[eY,jB,h];rfl
  .intro c j;rw[eY]at j;rcases rP.mp j with m | m
   .exact H c m
   .rw[vf.mp (show c∈[97+(n/12+i*t)%26] from m)];omega
 replace h:(cd z).length=1+n%12:=h
 refine⟨z,sN (eE (d:=.str "") rfl rfl) (sN (ρ':=[.fr (.int (n:Int)),.fr (.str ""),.fr (.int (t:Nat)),.no,.no]) rfl (sN e rfl)),MJ (by omega) (by omega) H⟩
def stem:Nat->Str
 | 0 => ""
 | 1 => "hall"
 | 2 => "quiet"
 | _ => "aaaaaaaaaa"
def Ek(n:Nat):Nat:=n/4%((cd (stem (n%4))).length+1)
def wW(k n:Nat):aw Nat:=(cd (stem (n%4))).take (Ek n)++([97+k%26,120+k/26%2]++(cd (stem (n%4))).drop (Ek n))
theorem Jl(i:Nat):(cd (stem i)).length∈[0,4,5,10]/\∀ c∈cd (stem i),97<=c/\c<123:=by
 have:∀ z∈[("" : Str),"hall","quiet","aaaaaaaaaa"],(cd z).length∈[0,4,5,10]/\∀ c∈cd z,97<=c/\c<123:=by ext y
 refine this _ ?_
 match i with
 | 0=>simp [stem]
 | 1=>simp [stem]
 | 2=>simp [stem]
 | _+3=>simp [stem]
def Qn(n:Nat):Ek n<=(cd (stem (n%4))).length:=by have:n/4%((cd (stem (n%4))).length+1)<(cd (stem (n%4))).length+1:=iA _ (Nat.succ_pos _);unfold Ek;omega
def Ke(k n:Nat):(wW k n).length=(cd (stem (n%4))).length+2:=by have:=Qn n;unfold wW;rw[jB,jB,pF,fE];show _+(2+_)=_;omega
def Wc(k n:Nat):∀ c∈wW k n,97<=c/\c<123:=fun c f=>by
 have s:=(Jl (n%4)).2;unfold wW at f;rcases rP.mp f with m | m
 .exact s c (List.mem_of_mem_take m)
 rcases rP.mp m with m | m
 .rcases jL.mp m with rfl | m
  .omega
  .rw[vf.mp m];omega
 .exact s c (List.mem_of_mem_drop m)
def Qm(k n:Nat):(wW k n)[Ek n]? = some (97+k%26)/\(wW k n)[Ek n+1]? = some (120+k/26%2):=by
 have h:=Qn n;unfold wW
 have l:((cd (stem (n%4))).take (Ek n)).length=Ek n:=by rw[pF];omega
 constructor
 .rw[YX (by omega),l,iP];rfl
 .rw[YX (by omega),l,show Ek n+1-Ek n=1 by omega];rfl
def S5(H:i<52)(J:j<52)(h:wW i n=wW j n):i=j:=by have a:=Qm i n;have b:=Qm j n;rw[h]at a;have E:=a.1.symm.trans b.1;have e:=a.2.symm.trans b.2;injection E with E;injection e with e;omega
def qD3:∀ a,a<2->bF (.str "xy") (.int (a:Nat)) = .ok (.fr (.str ⟨#[120+a]⟩)):=fun a h=>by
 have z:∀ a,a<2->xZ ("xy" : Str).cps.toList (a:Nat)=some (120+a):=by ext y
 show (if ("xy" : Str).length<=sizeLine then Uj ((xZ ("xy" : Str).cps.toList (a:Nat)).map fun c=>D.str ⟨#[c]⟩) else .st)=_;rw[cq (zI (by ext y)),z a h];rfl
theorem Z8(k n:Nat):law_name_F [.int k,.int n] = .ok (.str (qJ.mk (wW k n))):=by
 have hs:∀(q:Nat),q<4->bF (.lst [.str "",.str "hall",.str "quiet",.str "aaaaaaaaaa"]) (.int q) = .ok (.fr (.str (stem q)))
  | 0,_=>rfl
  | 1,_=>rfl
  | 2,_=>rfl
  | 3,_=>rfl
  | _+4,h=>d6 h (by omega)
 have sl:=(Jl (n%4)).1
 have sz:(cd (stem (n%4))).length<=10:=by revert sl;generalize (cd (stem (n%4))).length=y;intro h;simp at h;omega
 have f:(stem (n%4)).length<=sizeLine:=by rw[bI];exact zI (by omega)
 have d:=Qn n;generalize j:(⟨#[97+k%26]⟩:Str)++⟨#[120+k/26%2]⟩=own
 have c:cd own=[97+k%26,120+k/26%2]:=by rw[<-j,eY];rfl
 have N:cd (Txt.slice (stem (n%4)) none (some (Ek n:Nat)))=(cd (stem (n%4))).take (Ek n):=by
  have:=Pk.QD (stem (n%4)) (k:=(Ek n:Nat)) (by omega);rw[Va]at this;ext x
 have T:cd (Txt.slice (stem (n%4)) (some (Ek n:Nat)) none)=(cd (stem (n%4))).drop (Ek n):=by
  have:=Pk.Ez (stem (n%4)) (k:=(Ek n:Nat)) (by omega);rw[Va]at this;ext x
 show fin (Gg [.fr (.int (k:Int)),.fr (.int (n:Int)),.no,.no,.no])=_;refine sN (eE (w:=.fr (.str (stem (n%4)))) (fO (x:=.ow [.str "",.str "hall",.str "quiet",.str "aaaaaaaaaa"]) (y:=.fr (.int ((n%4:Nat):Int))) (Hm (ws:=[.fr (.str ""),.fr (.str "hall"),.fr (.str "quiet"),.fr (.str "aaaaaaaaaa")]) rfl rfl (hV rfl)) rfl (hs _ (iA _ (by decide)))) rfl) (sN (ρ':=[.fr (.int (k:Int)),.fr (.int (n:Int)),.fr (.str (stem (n%4))),.fr (.int (Ek n:Nat)),.no]) ?_ (sN (ρ':=[.fr (.int (k:Int)),.fr (.int (n:Int)),.fr (.str (stem (n%4))),.fr (.int (Ek n:Nat)),.fr (.str own)]) ?_ (j9 (w:=.fr (.str (qJ.mk (wW k n)))) ?_ rfl)))
 .refine eE (w:=.fr (.int (Ek n:Nat))) (fO (x:=.fr (.int ((n/4:Nat):Int))) (y:=.fr (.int ((cd (stem (n%4))).length+1:Nat))) rfl (fO (y:=.fr (.int 1)) (fLs (z:=stem (n%4)) (w:=.fr (.str (stem (n%4)))) rfl rfl f) rfl ?_) (vo (by omega))) rfl;rw[bI];rfl
 .rw[<-j];exact eE (fO (x:=.fr (.str ⟨#[97+k%26]⟩)) (y:=.fr (.str ⟨#[120+k/26%2]⟩)) (fO (x:=.fr (.str "abcdefghijklmnopqrstuvwxyz")) (y:=.fr (.int ((k%26:Nat):Int))) rfl rfl (qBD (iA _ (by decide)))) (fO (x:=.fr (.str "xy")) (y:=.fr (.int ((k/26%2:Nat):Int))) rfl rfl (qD3 _ (iA _ (by decide)))) (nM (show 1+1<=16777216 by decide))) rfl
 .have s:vy (aF 2) xJ (gG (aF 3)) [.fr (.int (k:Int)),.fr (.int (n:Int)),.fr (.str (stem (n%4))),.fr (.int (Ek n:Nat)),.fr (.str own)] = .ok (.fr (.str (Txt.slice (stem (n%4)) none (some (Ek n:Nat))))):=cq f;have S:vy (aF 2) (gG (aF 3)) xJ [.fr (.int (k:Int)),.fr (.int (n:Int)),.fr (.str (stem (n%4))),.fr (.int (Ek n:Nat)),.fr (.str own)] = .ok (.fr (.str (Txt.slice (stem (n%4)) (some (Ek n:Nat)) none))):=cq f;refine fO (x:=.fr (.str (Txt.slice (stem (n%4)) none (some (Ek n:Nat))++own))) (fO s (y:=.fr (.str own)) rfl (nM ?_)) S ((nM ?_).trans ?_)
  .rw[bI,bI,N,c,pF];show _+2<=_;omega
  .rw[bI,bI,eY,N,T,c,jB,pF,fE];show _+2+_<=_;omega
  .congr 3;apply xU;rw[eY,eY,N,T,c,bS];rfl
def TJ:aw Str:=["keeps","lamp","near","deep","plain","one","all","in","out","door","to","back","stay","when","do","yes","not","both","either","is","under","say","set","add","send","box","event","order","letters","turns"]
def isA(m k:Nat):Bool:=decide (m%2=0)&&decide (k%3=m/2%3)
def JK(m k:Nat):Bool:=decide (m%4=1)&&(decide (k%2=1)&&decide ((wW (k-1) (m/6)).length<12))
def xX(m k:Nat):Str:=if isA m k=true then TJ.getD ((m/6+k/3)%30) "" else if JK m k=true then qJ.mk (wW (k-1) (m/6)++[97]) else qJ.mk (wW k (m/6))
def Z5(h:isA m k=true):xX m k=TJ.getD ((m/6+k/3)%30) "" := cq h
def Z4(h:isA m k=false)(H:JK m k=true):xX m k=qJ.mk (wW (k-1) (m/6)++[97]):=by unfold xX;rw[h,H];rfl
def UJ(h:isA m k=false)(H:JK m k=false):xX m k=qJ.mk (wW k (m/6)):=by unfold xX;rw[h,H];rfl
def Y8:∀ w∈TJ,Wo w/\¬ ((cd w).length∈[2,6,7,12]/\(120∈cd w∨121∈cd w))/\(cd w).length≠11:=by
 have:∀ w∈TJ,(1<=(cd w).length/\(cd w).length<=12/\∀ c∈cd w,97<=c/\c<123)/\¬ ((cd w).length∈[2,6,7,12]/\(120∈cd w∨121∈cd w))/\(cd w).length≠11:=by ext y
 exact fun w h=>⟨MJ (this w h).1.1 (this w h).1.2.1 (this w h).1.2.2,(this w h).2⟩
def Y7:TJ.Nodup:=by ext y
def Hf(i:Nat):TJ[i%30]? = some (TJ.getD (i%30) ""):=jt (show i%30<30 from iA _ (by decide))
def S6(k n:Nat):(wW k n).length∈[2,6,7,12]:=by rw[Ke];have:=(Jl (n%4)).1;revert this;generalize (cd (stem (n%4))).length=y;intro h;simp at h ⊢;omega
theorem Wb(m k:Nat):Wo (xX m k)/\(cd (xX m k)).length≠11:=by
 have l:=S6 k (m/6);have L:=S6 (k-1) (m/6);unfold xX
 cases hA:isA m k with
 | true=>
  rw[cq rfl];have:=Y8 _ (Jb (Hf (m/6+k/3)));exact⟨this.1,this.2.2⟩
 | false=>
  rw[cn xf]
  cases hB:JK m k with
  | true=>
   rw[cq rfl]
   have:(wW (k-1) (m/6)).length<12:=by unfold JK at hB;simp at hB;exact hB.2.2
   have e:(cd (qJ.mk (wW (k-1) (m/6)++[97]))).length=(wW (k-1) (m/6)).length+1:=by rw[Cz,jB];rfl
   simp at L;exact⟨MJ (by omega) (by omega) fun c f=>(rP.mp f).elim (Wc _ _ c) fun q=>by rw[vf.mp q];omega,by omega⟩
  | false=>
   rw[cn xf];simp at l;have e:(cd (qJ.mk (wW k (m/6)))).length=(wW k (m/6)).length:=rfl;exact⟨MJ (by omega) (by omega) (Wc _ _),by omega⟩
def Z6(H:i<42)(J:j<42)(h:xX m i=xX m j):i=j:=by
 have word:∀ a b,isA m a=true->isA m b=false->xX m a=xX m b->False:=fun a b d c e=>by
  have M:m%2=0:=by unfold isA at d;simp at d;exact d.1
  have nb:JK m b=false:=by unfold JK;rw[bg (by omega)];rfl
  rw[Z5 d,UJ c nb]at e;refine (Y8 _ (Jb (Hf (m/6+a/3)))).2.1 ?_;rw[e];refine⟨S6 b (m/6),?_⟩;have x:=Jb (Qm b (m/6)).2
  have:120+b/26%2=120∨120+b/26%2=121:=by omega
  rcases this with q | q <;> rw[q]at x
  .exact .inl x
  .exact .inr x
 have l:∀ a b,isA m a=false->isA m b=false->JK m a=true->JK m b=false->xX m a=xX m b->False:=fun a b d c N nb e=>by
  rw[Z4 d N,UJ c nb]at e;have:=congrArg (fun z=>(cd z).length) e;rw[Cz,Cz,jB,Ke,Ke]at this;simp at this
 cases ai:isA m i <;> cases aj:isA m j
 .cases bi:JK m i <;> cases bj:JK m j
  .rw[UJ ai bi,UJ aj bj]at h;exact S5 (by omega) (by omega) (congrArg cd h)
  .exact (l j i aj ai bj bi h.symm).elim
  .exact (l i j ai aj bi bj h).elim
  .rw[Z4 ai bi,Z4 aj bj]at h;have:=S5 (i:=i-1) (j:=j-1) (n:=m/6) (by omega) (by omega) (List.append_cancel_right (congrArg cd h));unfold JK at bi bj;simp at bi bj;omega
 .exact (word j i aj ai h.symm).elim
 .exact (word i j ai aj h).elim
 .have e:TJ[(m/6+i/3)%30]? = TJ[(m/6+j/3)%30]?:=by
   rw[Z5 ai,Z5 aj]at h;rw[Hf,Hf,h]
  have f:∀ x,x%30<TJ.length:=fun x=>iA _ (by decide)
  have:(m/6+i/3)%30=(m/6+j/3)%30:=by
   rcases Nat.lt_trichotomy ((m/6+i/3)%30) ((m/6+j/3)%30) with q | q | q
   .rw[wF (f _),wF (f _)]at e;exact d6 (Jc e) (gX.mp Y7 _ _ (f _) (f _) q)
   .exact q
   .rw[wF (f _),wF (f _)]at e;exact d6 (Jc e).symm (gX.mp Y7 _ _ (f _) (f _) q)
  unfold isA at ai aj;simp at ai aj;omega
def nms(m n:Nat):aw Str:=(List.range n).map (xX m)
def oU(h:n<=41):lD (nms m n)/\("kettledrums" : Str)∉nms m n:=by
 unfold nms;refine⟨⟨?_,fun z b=>?_,by rw[fH,c4];omega⟩,fun b=>?_⟩
 .rw[List.nodup_iff_pairwise_ne,List.pairwise_map];refine List.Pairwise.imp_of_mem (fun d c H e=>H (Z6 (by have:=gz.mp d;omega) (by have:=gz.mp c;omega) e)) List.nodup_range
 .obtain⟨k,_,rfl⟩:=rA.mp b;exact (Wb m k).1
 .obtain⟨k,_,e⟩:=rA.mp b;have:=(Wb m k).2;rw[e]at this;exact this (by ext y)
def eqN(a b:Nat):dJ ng (.int a) (.int b) = .ok (.fr (.bl (decide (a=b) != ng))):=by rw[eqI (bb _) rfl rfl];congr 4;show ((a:Int)==(b:Int))=_;rw[dQ,beq_iff_eq,decide_eq_true_iff];omega
def qG0(h:l.length+m.length<=1000):aa (.lst l) (.lst m) = .ok (.ow (l++m)):=cq (zI h)
def QQ(e:ρ[i]? = some (.ow l))(h:f ρ = .ok w)(b:w.z = .ok d)(H:l.length<1000)(nb:ρ.all Sl.nb=true):jd i f ρ = .ok (.nx (ρ.set i (.ow (l++[d])))):=by unfold jd;rw[e];show ((f ρ).bind _)=_;rw[h,pB,b,pB,cq ⟨M7 H (zI (jC _)),nb⟩]
def FZ(h:f ρ = .ok (.ow l)):uW i f ρ = .ok (.nx (ρ.set i (.ow l))):=by unfold uW;rw[h];rfl
def mix{s:aw Int}(hs:s.length<=63){k t:Nat}(b:k<=1000)(g:t<=1000):∃ m:Nat,m<2147483648/\∀(r:FA)(ρ:aw Sl),r ρ = .ok [.fr (.dZ s),.fr (.int k),.fr (.int t)]->aP (bU law_mixed_F) 3 r ρ = .ok (.fr (.int m)):=by obtain⟨m,a,H⟩:=Wk hs k t b g;exact⟨m,a,fun r ρ h=>iQ h H rfl (.inl rfl)⟩
theorem Az{s:aw Int}(hs:s.length<=63)(n t:Nat)(B:n<=41)(E:t<=1000):∃ m,law_names_F [.dZ s,.int n,.int t] = .ok (.tup ((nms m n).map D.str)):=by
 obtain⟨m,_,em⟩:=mix hs (k:=0) (by omega) E;refine⟨m,?_⟩
 have C:(TJ.map D.str).length=30:=by ext y
 generalize o:TJ.map D.str=a at C
 have v:∀ i,a[i%30]? = some (.str (TJ.getD (i%30) "")):=fun i=>by rw[<-o,jf,Hf];rfl
 let S:aw D×Sl->aw Sl:=fun x=>[.fr (.dZ s),.fr (.int n),.fr (.int t),.fr (.lst a),.fr (.int m),.ow x.1,x.2]
 show fin (CW [.fr (.dZ s),.fr (.int n),.fr (.int t),.no,.no,.no,.no])=_;have I:∀ k:Nat,aK bL (aF 6) (fC (.int 3))=aK bL (aF 6) (fC (.int 3)):=fun _=>rfl
 obtain⟨⟨l,z⟩,e,h⟩:=forR (f:=lA (aD (aF 1) aL)) (b:=bN 6) (g:=A2) S (fun i x=>x.1=(nms m i).map D.str) n ([],.no) (Jx rfl (by omega)) rfl fun i x _ c=>by
  obtain⟨l,z⟩:=x
  replace c:l=(nms m i).map D.str:=c
  refine⟨_,(l++[.str (xX m i)],.fr (.int i)),rfl,?_,by show l++[_]=_;rw[c];unfold nms;rw[hG,vd,vd];rfl⟩;show _=Rz.ok (Fl.nx (S (l++[.str (xX m i)],.fr (.int i))))
  have F:l.length=i:=by rw[c,fH];unfold nms;rw[fH,c4]
  have T:jK (aQ (aK (dJ false) (aK bL (aF 4) (fC (.int 2))) (fC (.int 0)))) (aQ (aK (dJ false) (aK bL (aF 6) (fC (.int 3))) (aK bL (aK cC (aF 4) (fC (.int 2))) (fC (.int 3))))) (S (l,.fr (.int i))) = .ok (isA m i):=by
   refine (Uw (p:=decide (m%2=0)) (q:=decide (i%3=m/2%3)) (zc (w:=.fr (.bl (decide (m%2=0) != false))) (fO (x:=.fr (.int ((m%2:Nat):Int))) (y:=.fr (.int ((0:Nat):Int))) rfl rfl (eqN _ _)) (by rw[dP];rfl)) fun _=>zc (w:=.fr (.bl (decide (i%3=m/2%3) != false))) (fO (x:=.fr (.int ((i%3:Nat):Int))) (y:=.fr (.int ((m/2%3:Nat):Int))) rfl rfl (eqN _ _)) (by rw[dP];rfl))
  cases hA:isA m i with
  | true=>
   rw[hA]at T;rw[Z5 hA];refine (Hl T).trans ((QQ (w:=.fr (.str (TJ.getD ((m/6+i/3)%30) ""))) rfl (fO (x:=.fr (.lst a)) (y:=.fr (.int ((((m/6+i/3)%30:Nat)):Int))) rfl rfl (zz (v _)).1) rfl (by show l.length<1000;omega) rfl))
  | false=>
   rw[hA]at T
   have pv:i%2=1->m%4=1->aK bF (aF 5) (aK iJ (aF 6) (fC (.int 1))) (S (l,.fr (.int i))) = .ok (.fr (.str (qJ.mk (wW (i-1) (m/6))))):=fun r u=>by
    have A:isA m (i-1)=false:=by unfold isA;rw[bg (by omega)];rfl
    have b0:JK m (i-1)=false:=by unfold JK;rw[bg (show ¬ (i-1)%2=1 by omega)];simp
    refine fO (x:=.bw l) (y:=.fr (.int ((i-1:Nat):Int))) rfl ?_ (zz ?_).1
    .show Rz.ok (W.fr (.int ((i:Int)-1)))=_;rw[show ((i:Int)-1)=((i-1:Nat):Int) by omega]
    .rw[c,jf];unfold nms;rw[jf,VV (by omega)];show some (D.str (xX m (i-1)))=_;rw[UJ A b0]
   have tB:jK (aQ (aK (dJ false) (aK bL (aF 4) (fC (.int 4))) (fC (.int 1)))) (jK (aQ (aK (dJ false) (aK bL (aF 6) (fC (.int 2))) (fC (.int 1)))) (aQ (aK Kr (dY cY (aD (aK bF (aF 5) (aK iJ (aF 6) (fC (.int 1)))) aL)) (fC (.int 12))))) (S (l,.fr (.int i))) = .ok (JK m i):=by
    refine Uw (p:=decide (m%4=1)) (q:=decide (i%2=1)&&decide ((wW (i-1) (m/6)).length<12)) (zc (w:=.fr (.bl (decide (m%4=1) != false))) (fO (x:=.fr (.int ((m%4:Nat):Int))) (y:=.fr (.int ((1:Nat):Int))) rfl rfl (eqN _ _)) (by rw[dP];rfl)) fun u=>Uw (zc (w:=.fr (.bl (decide (i%2=1) != false))) (fO (x:=.fr (.int ((i%2:Nat):Int))) (y:=.fr (.int ((1:Nat):Int))) rfl rfl (eqN _ _)) (by rw[dP];rfl)) fun r=>?_;have Y:=S6 (i-1) (m/6);simp at Y;refine zc (w:=.fr (.bl (decide ((wW (i-1) (m/6)).length<12)))) (fO (fLs (z:=qJ.mk (wW (i-1) (m/6))) (pv (aS r) (aS u)) rfl (zI (by rw[bI,Cz];omega))) (y:=.fr (.int 12)) rfl ?_) rfl;rw[bI,Cz];show Rz.ok (W.fr (.bl (decide (((wW (i-1) (m/6)).length:Int)<12))))=_;congr 3;exact bP.mpr (by omega)
   cases hB:JK m i with
   | true=>
    rw[hB]at tB;rw[Z4 hA hB];have H:=hB;unfold JK at H;simp at H;refine (M8 T).trans ((Hl tB).trans (QQ (w:=.fr (.str (qJ.mk (wW (i-1) (m/6)) ++ "a"))) rfl (fO (pv H.2.1 H.1) (y:=.fr (.str "a")) rfl (nM ?_)) rfl (by show l.length<1000;omega) rfl |>.trans ?_))
    .rw[bI,Cz];show _+1<=_;omega
    .rw[show qJ.mk (wW (i-1) (m/6)) ++ "a" = qJ.mk (wW (i-1) (m/6)++[97]) from xU (by rw[eY,Cz,Cz,show cd "a" = [97] by ext y])];rfl
   | false=>
    rw[hB]at tB;rw[UJ hA hB];exact (M8 T).trans ((M8 tB).trans (QQ (w:=.fr (.str (qJ.mk (wW i (m/6))))) rfl (iQ (ws:=[.fr (.int i),.fr (.int ((m/6:Nat):Int))]) rfl (Z8 i (m/6)) rfl (.inl rfl)) rfl (by show l.length<1000;omega) rfl))
 replace h:l=(nms m n).map D.str:=h
 obtain⟨P,L,d,j,f1,f2,f3⟩:∃ P L d:aw D,(P++L++d=a/\P.length+L.length+d.length=30)/\(∀ ρ,eX (LQ [.s "keeps",.s "lamp",.s "near",.s "deep",.s "plain",.s "one",.s "all",.s "in",.s "out",.s "door",.s "to",.s "back",.s "stay"]) ρ = .ok (.ow P))/\(∀ ρ,eX (LQ [.s "when",.s "do",.s "yes",.s "not",.s "both",.s "either",.s "is",.s "under",.s "say",.s "set",.s "add",.s "send"]) ρ = .ok (.ow L))/\∀ ρ,eX (LQ [.s "box",.s "event",.s "order",.s "letters",.s "turns"]) ρ = .ok (.ow d):=⟨_,_,_,⟨o▸rfl,rfl⟩,fun _=>Hm rfl rfl (hV rfl),fun _=>Hm rfl rfl (hV rfl),fun _=>Hm rfl rfl (hV rfl)⟩;obtain⟨j,B⟩:=j;refine sN (eE (f1 _) rfl) (sN (ρ':=[.fr (.dZ s),.fr (.int n),.fr (.int t),.fr (.lst (P++L)),.no,.no,.no]) (eE (fO (x:=.fr (.lst P)) (y:=.ow L) rfl (f2 _) (qG0 (by omega))) rfl) (sN (ρ':=[.fr (.dZ s),.fr (.int n),.fr (.int t),.fr (.lst a),.no,.no,.no]) (eE (w:=.ow a) (fO (x:=.fr (.lst (P++L))) (y:=.ow d) rfl (f3 _) ((qG0 (by rw[jB];omega)).trans (by rw[j]))) rfl) (sN (eE (em _ _ rfl) rfl) (sN (ρ':=S ([],.no)) (FZ (l:=[]) (Hm (ws:=[]) rfl rfl (bb _))) (sN e (j9 (XR (w:=.bw l) rfl (.inl rfl)) ?_))))));show Rz.ok (D.tup l)=_;rw[h]
def pw(ρ:aw Sl):aK lY (fC (.int 10)) (fC (.int 30)) ρ = .ok (.fr (.int big)):=rfl
def qBG(ρ:aw Sl):aK aa (aK jJ (fC (.int 2)) (aK lY (fC (.int 10)) (fC (.int 30)))) (fC (.int 1)) ρ = .ok (.fr (.int (2*big+1))):=fO (x:=.fr (.int (2*big))) (y:=.fr (.int 1)) (fO (x:=.fr (.int 2)) rfl (pw ρ) (pN (mG (by omega)))) rfl rfl
def RT{f:FE}{ρ:aw Sl}{i:Int}(h:f ρ = .ok (.fr (.int i))):∃ v:Int,(-big<=v/\v<=big)/\aK iJ (aK bL f (aK aa (aK jJ (fC (.int 2)) (aK lY (fC (.int 10)) (fC (.int 30)))) (fC (.int 1)))) (aK lY (fC (.int 10)) (fC (.int 30))) ρ = .ok (.fr (.int v)):=by
 have b0:(0:Int)<2*big+1:=by unfold big;omega
 have a:=Yb i (show 2*big+1≠0 by omega);have H:=YZ i b0;exact⟨i%(2*big+1)-big,⟨by omega,by omega⟩,fO (x:=.fr (.int (i%(2*big+1)))) (fO h (qBG ρ) (vo b0)) (pw ρ) rfl⟩
def Wz{l:aw D}{q:Nat}(h:q<l.length):∃ d∈l,bF (.lst l) (.int q) = .ok (.fr d)/\bF (.tup l) (.int q) = .ok (.fr d):=
 ⟨l[q],TY h,zz (wF h)⟩
def T3{a v:Int}{f g:FE}{ρ:aw Sl}{q:Nat}(h:f ρ = .ok (.fr (.int a)))(k : -big<=a/\a<=big)(H:g ρ = .ok (.fr (.int v)))(n : -big<=v/\v<=big){i:FE}(m:i ρ = .ok (.fr (.int q)))(c:q<4):∃ u:Int,(-big<=u/\u<=big)/\aK bF (eX (aD f (aD (aK lY (fC (.int 10)) (fC (.int 30))) (aD (VN Ay (aK lY (fC (.int 10)) (fC (.int 30)))) (aD g aL))))) i ρ = .ok (.fr (.int u)):=by
 have j:eX (aD f (aD (aK lY (fC (.int 10)) (fC (.int 30))) (aD (VN Ay (aK lY (fC (.int 10)) (fC (.int 30)))) (aD g aL)))) ρ = .ok (.ow [.int a,.int big,.int (-big),.int v]):=Hm (ws:=[.fr (.int a),.fr (.int big),.fr (.int (-big)),.fr (.int v)]) (dF h (dF (pw ρ) (dF (w:=.fr (.int (-big))) rfl (dF H rfl)))) rfl (hV rfl)
 have b0 : -big<=big:=by unfold big;omega
 obtain⟨d,hd,e,_⟩:=Wz (l:=[.int a,.int big,.int (-big),.int v]) (q:=q) c
 have:∃ u,d = .int u /\ -big<=u/\u<=big:=by
  ext e;rcases hd with rfl | rfl | rfl | rfl
  .exact⟨_,rfl,k⟩
  .exact⟨_,rfl,b0,eA _⟩
  .exact⟨_,rfl,eA _,b0⟩
  .exact⟨_,rfl,n⟩
 obtain⟨u,rfl,b⟩:=this;exact⟨u,b,fO j m e⟩
def tN{ng:Bool}{f g:FE}{ρ:aw Sl}{a b:Nat}(h:f ρ = .ok (.fr (.int a)))(Q:g ρ = .ok (.fr (.int b))):aQ (aK (dJ ng) f g) ρ = .ok (decide (a=b) != ng):=zc (fO h Q (eqN a b)) rfl
def tE{f g:FE}{ρ:aw Sl}{a b:Nat}(h:f ρ = .ok (.fr (.int a)))(Q:g ρ = .ok (.fr (.int b))):aQ (aK (dJ false) f g) ρ = .ok (decide (a=b)):=by rw[tN h Q,dP]
def tG{f g:FE}{ρ:aw Sl}{a b:Nat}(h:f ρ = .ok (.fr (.int a)))(Q:g ρ = .ok (.fr (.int b))):aQ (aK GZ f g) ρ = .ok (decide (b<a)):=by refine zc (w:=.fr (.bl (decide ((b:Int)<a)))) (fO h Q rfl) ?_;show D.bl _=D.bl _;congr 1;exact bP.mpr (by omega)
def tL{f g:FE}{ρ:aw Sl}{a b:Nat}(h:f ρ = .ok (.fr (.int a)))(Q:g ρ = .ok (.fr (.int b))):aQ (aK Kr f g) ρ = .ok (decide (a<b)):=by refine zc (w:=.fr (.bl (decide ((a:Int)<b)))) (fO h Q rfl) ?_;show D.bl _=D.bl _;congr 1;exact bP.mpr (by omega)
section
variable{c:FT}{a a' b:FS}{ρ ρ':aw Sl}{r:Rz Fl}{d:D}{o:ax (aw Sl)}
def qN(h:a ρ = .ok (.nx ρ'))(k:b ρ'=r):aU a b ρ=r:=by rw[lF h];exact k
def qF(h:c ρ = .ok false)(k:b ρ=r):aU (eV c a bJ) b ρ=r:=by rw[Jp h];exact k
def qT(h:c ρ = .ok true)(k:a ρ = .ok (.ret d o)):aU (eV c a a') b ρ = .ok (.ret d o):=QG (by rw[Hl h];exact k)
end
section
variable{s:aw Int}{bs:aw Bx}{ne:Nat}
theorem Zm(hs:s.length<=63){k t:Nat}(J:k<=1000)(Q:t<=1000)(A:∀ b∈bs,1<=b.sz/\b.sz<=big):∃ e:De,law_deed_F [.dZ s,.int k,.int t,.tup (bs.map Bx.d),.int ne] = .ok e.d/\e.Ok bs ne:=by
 obtain⟨m,_,em⟩:=mix hs J Q;obtain⟨c,O⟩:=Eo s k;generalize p:bs.map Bx.d=B
 have bl:B.length=bs.length:=by rw[<-p,fH]
 show ∃ e:De,fin (wy [.fr (.dZ s),.fr (.int k),.fr (.int t),.fr (.tup B),.fr (.int ne),.no,.no,.no,.no,.no,.no])=_/\_
 let R:aw Sl->aw Sl:=fun r=>.fr (.dZ s)::.fr (.int k)::.fr (.int t)::.fr (.tup B)::.fr (.int ne)::.fr (.int m)::.fr (.int (c+m))::.fr (.int ((m%5:Nat):Int))::r
 have go:∀ e:De,fin (A3 (R [.no,.no,.no])) = .ok e.d->fin (wy [.fr (.dZ s),.fr (.int k),.fr (.int t),.fr (.tup B),.fr (.int ne),.no,.no,.no,.no,.no,.no]) = .ok e.d:=fun e h=>
  sN (eE (em _ _ rfl) rfl) (sN (eE (w:=.fr (.int (c+m))) (fO (x:=.fr (.int c)) (y:=.fr (.int m)) (iQ (ws:=[.fr (.dZ s),.fr (.int k)]) rfl O rfl (.inl rfl)) rfl rfl) rfl) (sN (ρ':=R [.no,.no,.no]) rfl h))
 have M:aK cC (aF 5) (fC (.int 5)) (R [.no,.no,.no]) = .ok (.fr (.int ((m/5:Nat):Int))):=rfl;have N:jK (aQ (aK (dJ false) (aF 7) (fC (.int 1)))) (aQ (aK GZ (aF 4) (fC (.int 0)))) (R [.no,.no,.no]) = .ok (decide (m%5=1)&&decide (0<ne)):=Uw (tE (b:=1) rfl rfl) fun _=>tG (b:=0) rfl rfl;have T:jK (aQ (aK GZ (aF 7) (fC (.int 1)))) (aQ (aK GZ (dY cY (aD (aF 3) aL)) (fC (.int 0)))) (R [.no,.no,.no]) = .ok (decide (1<m%5)&&decide (0<B.length)):=Uw (tG (b:=1) rfl rfl) fun _=>tG (b:=0) (JQ rfl (.inr rfl)) rfl
 cases c1:decide (m%5=1)&&decide (0<ne) with
 | true=>
  rw[c1]at N;simp at c1;refine⟨.send (m/5%ne),go _ (sT N (Jy (xY (ws:=[.fr (.str "send"),.fr (.int ((m/5%ne:Nat):Int))]) (dF (w:=.fr (.str "send")) rfl (dF (w:=.fr (.int ((m/5%ne:Nat):Int))) (fO M (y:=.fr (.int ne)) rfl (vo (by omega))) rfl)) rfl (hV rfl)))),iA _ c1.2⟩
 | false=>
 rw[c1]at N
 cases c2:decide (1<m%5)&&decide (0<B.length) with
 | false=>
  rw[c2]at T;obtain⟨z,E,I⟩:=RQ (m/5);exact⟨.say z,go _ (sF N (sF T (j9 (xY (ws:=[.fr (.str "say"),.fr (.str z)]) (dF (w:=.fr (.str "say")) rfl (dF (iQ (ws:=[.fr (.int ((m/5:Nat):Int))]) rfl E rfl (.inl rfl)) rfl)) rfl (hV rfl)) rfl))),I⟩
 | true=>
 rw[c2]at T;simp at c2;have H:m/5%bs.length<bs.length:=iA _ (by omega);obtain⟨x,ex⟩:∃ x,bs[m/5%bs.length]? = some x:=⟨_,wF H⟩;obtain⟨_,z2⟩:=A x (Jb ex);have n:∀ r,aK bL (aK cC (aF 5) (fC (.int 5))) (dY cY (aD (aF 3) aL)) (R r) = .ok (.fr (.int ((m/5%bs.length:Nat):Int))):=fun r=>fO (x:=.fr (.int ((m/5:Nat):Int))) rfl (JQ (l:=B) rfl (.inr rfl)) (by rw[bl];exact vo (by omega));have S:∀ a b,aK bF (aK bF (aF 3) (aF 8)) (fC (.int 1)) (R [.fr (.int ((m/5%bs.length:Nat):Int)),a,b]) = .ok (.fr (.int x.sz)):=fun a b=>fO (x:=.fr x.d) (y:=.fr (.int 1)) (fO (x:=.fr (.tup B)) (y:=.fr (.int ((m/5%bs.length:Nat):Int))) rfl rfl (zz (by rw[<-p,jf,ex];rfl)).2) rfl rfl;have w:(m%5=2∨¬ m%5=2):=Nat.decEq _ _ |>.em;have o:∀ a b c,aQ (aK (dJ false) (aF 7) (fC (.int 2))) (R [a,b,c]) = .ok (decide (m%5=2)):=fun _ _ _=>tE (b:=2) rfl rfl;rcases w with w | w
 .obtain⟨d,hd,F,_⟩:=Wz (l:=[.int 0,.int (x.sz-1),.int ((c+m)%x.sz)]) (q:=m/30%3) (iA _ (by show 0<3;decide))
  have:∃ v,d = .int v/\0<=v/\v<x.sz:=by
   have C:=Yb (c+m) (show x.sz≠0 by omega);have L:=YZ (c+m) (show 0<x.sz by omega);ext e;rcases hd with rfl | rfl | rfl
   .exact⟨_,rfl,eA _,by omega⟩
   .exact⟨_,rfl,by omega,by omega⟩
   .exact⟨_,rfl,C,L⟩
  obtain⟨v,rfl,j⟩:=this;refine⟨.set (m/5%bs.length) v,go _ (sF N (sT T (qN (eE (n _) rfl) (qN (ρ':=R [.fr (.int ((m/5%bs.length:Nat):Int)),.fr (.int x.sz),.no]) (eE (S _ _) rfl) (qT ((o _ _ _).trans (by rw[bq w])) (Jy (xY (ws:=[.fr (.str "set"),.fr (.int ((m/5%bs.length:Nat):Int)),.fr (.int v)]) (dF (w:=.fr (.str "set")) rfl (dF (w:=.fr (.int ((m/5%bs.length:Nat):Int))) rfl (dF (fO (Hm (ws:=[.fr (.int 0),.fr (.int (x.sz-1)),.fr (.int ((c+m)%x.sz))]) (dF (w:=.fr (.int 0)) rfl (dF (w:=.fr (.int (x.sz-1))) rfl (dF (w:=.fr (.int ((c+m)%x.sz))) (fO (x:=.fr (.int (c+m))) (y:=.fr (.int x.sz)) rfl rfl (vo (by omega))) rfl))) rfl (hV rfl)) (y:=.fr (.int ((m/30%3:Nat):Int))) rfl F) rfl))) rfl (hV rfl)))))))),x,ex,j.1,j.2,z2⟩
 .obtain⟨v,j,D⟩:=RT (f:=aF 6) (ρ:=R [.fr (.int ((m/5%bs.length:Nat):Int)),.fr (.int x.sz),.no]) (i:=c+m) rfl;obtain⟨u,G,P⟩:=T3 (f:=aK iJ (aK bL (aK cC (aF 5) (fC (.int 30))) (fC (.int 25))) (fC (.int 12))) (g:=aF 10) (i:=aK bL (aK cC (aF 5) (fC (.int 900))) (fC (.int 4))) (ρ:=R [.fr (.int ((m/5%bs.length:Nat):Int)),.fr (.int x.sz),.fr (.int v)]) (a:=((m/30%25:Nat):Int)-12) (v:=v) (q:=m/900%4) rfl (by unfold big;omega) rfl j rfl (iA _ (by decide));exact⟨.add (m/5%bs.length) u,go _ (sF N (sT T (qN (eE (n _) rfl) (qN (ρ':=R [.fr (.int ((m/5%bs.length:Nat):Int)),.fr (.int x.sz),.no]) (eE (S _ _) rfl) (qF ((o _ _ _).trans (by rw[bg w])) (qN (ρ':=R [.fr (.int ((m/5%bs.length:Nat):Int)),.fr (.int x.sz),.fr (.int v)]) (eE D rfl) (Jy (xY (ws:=[.fr (.str "add"),.fr (.int ((m/5%bs.length:Nat):Int)),.fr (.int u)]) (dF (w:=.fr (.str "add")) rfl (dF (w:=.fr (.int ((m/5%bs.length:Nat):Int))) rfl (dF P rfl))) rfl (hV rfl))))))))),H,G⟩
theorem qBC{α:Type}{c:FT}{e:FE}{cs:aw Sl}{f:α->D}{P:α->Prop}:∀ {ds:aw D},(∀ d∈ds,c (.fr d::cs) = .ok true)->(∀ d∈ds,∃ a,e (.fr d::cs) = .ok (.fr (f a))/\P a)->∃ l:aw α,ig c e cs ds = .ok (l.map f)/\l.length=ds.length/\∀ a∈l,P a
 | [],_,_=>⟨[],rfl,rfl,nofun⟩
 | d::ds,H,b=>by
  obtain⟨a,E,p⟩:=b d qK;obtain⟨l,g,L,pl⟩:=qBC (c:=c) (e:=e) (cs:=cs) (f:=f) (P:=P) (fun x h=>H x (rM _ h)) fun x h=>b x (rM _ h);refine⟨a::l,?_,by rw[gH,L];rfl,fun x h=>(jL.mp h).elim (fun q=>by rw[q];exact p) (pl x)⟩;rw[ig,H d qK,pB,cq rfl,E,pB];show (ig c e cs ds).bind _=_;rw[g];rfl
def HF(hs:s.length<=63){k t:Nat}(H:k<=1000)(x:t<=900)(o:∀ b∈bs,1<=b.sz/\b.sz<=big):∃ l:aw De,law_deeds_F [.dZ s,.int k,.int t,.tup (bs.map Bx.d),.int ne] = .ok (.tup (l.map De.d))/\l.length<=8/\∀ e∈l,e.Ok bs ne:=by
 obtain⟨m,_,em⟩:=mix hs H (show t<=1000 by omega);generalize r:D.tup (bs.map Bx.d)=B
 have a:∀ q,q<8->∃ n:Nat,n<=8/\bF (.lst [.int 0,.int 0,.int 0,.int 1,.int 1,.int 2,.int 3,.int 8]) (.int (q:Nat)) = .ok (.fr (.int n)):=fun q i=>by
  obtain⟨d,hd,e,_⟩:=Wz (l:=[.int 0,.int 0,.int 0,.int 1,.int 1,.int 2,.int 3,.int 8]) (q:=q) i
  have:∃ n:Nat,n<=8/\d = .int n:=by
   ext e;rcases hd with rfl | rfl | rfl | rfl | rfl | rfl | rfl | rfl
   .exact⟨0,by omega,rfl⟩
   .exact⟨0,by omega,rfl⟩
   .exact⟨0,by omega,rfl⟩
   .exact⟨1,by omega,rfl⟩
   .exact⟨1,by omega,rfl⟩
   .exact⟨2,by omega,rfl⟩
   .exact⟨3,by omega,rfl⟩
   .exact⟨8,by omega,rfl⟩
  obtain⟨n,h,rfl⟩:=this;exact⟨n,h,e⟩
 obtain⟨n,_,v⟩:=a (m%8) (iA _ (by decide))
 let ρ:aw Sl:=[.fr (.dZ s),.fr (.int k),.fr (.int t),.fr B,.fr (.int ne),.fr (.int n)]
 obtain⟨l,g,F,p⟩:=qBC (c:=nJ) (e:=aP (bU law_deed_F) 5 (aD (aF 1) (aD (aF 2) (aD (aK aa (aK aa (aF 5) (fC (.int 1))) (aF 0)) (aD (aF 3) (aD (aF 4) aL)))))) (cs:=rK [(0,"_law_script"),(1,"_law_k"),(3,"_law_boxes_here"),(4,"_law_events"),(2,"_law_salt")] ρ) (f:=De.d) (P:=fun e=>e.Ok bs ne) (ds:=(List.range n).map fun k:Nat=>D.int k) (fun _ _=>rfl) fun d hd=>by
  obtain⟨j,J,rfl⟩:=rA.mp hd;have:=gz.mp J;obtain⟨e,E,u⟩:=Zm (bs:=bs) (ne:=ne) (s:=s) hs H (t:=t+1+j) (by omega) o;rw[r]at E;exact⟨e,iQ (ws:=[.fr (.dZ s),.fr (.int k),.fr (.int ((t+1+j:Nat):Int)),.fr B,.fr (.int ne)]) rfl E rfl (.inl rfl),u⟩
 rw[fH,c4]at F;refine⟨l,?_,by omega,p⟩;show fin (Cd [.fr (.dZ s),.fr (.int k),.fr (.int t),.fr B,.fr (.int ne),.no])=_;refine sN (ρ':=ρ) (eE (fO (Hm (ws:=[.fr (.int 0),.fr (.int 0),.fr (.int 0),.fr (.int 1),.fr (.int 1),.fr (.int 2),.fr (.int 3),.fr (.int 8)]) rfl rfl (hV rfl)) (y:=.fr (.int ((m%8:Nat):Int))) (fO (em _ _ rfl) (y:=.fr (.int 8)) rfl rfl) v) rfl) (j9 (XR (w:=.ow (l.map De.d)) ?_ (.inl rfl)) rfl);unfold gQ;rw[Jx (n:=n) rfl (by omega),pB,cq (by rw[fH,c4];exact zI (by omega)),g];rfl
theorem GX(hs:s.length<=63){k nb nr:Nat}(J:k<=1000)(hr:0<nr):∀(n e t:Nat),1<=e->e<=n->(t+2)*2 ^ e<=1000->∃ g:Gu,law_guard_F n [.dZ s,.int k,.int t,.int e,.int nb,.int nr] = .ok g.d/\g.Ok nb nr e
 | 0,e,t,X,N,_=>d6 N (by omega)
 | n+1,e,t,X,N,p=>by
  have p1:1<=2 ^ e:=Nat.one_le_two_pow
  have I:t<=1000:=by have:=Nat.le_mul_of_pos_right (t+2) p1;omega
  obtain⟨m,_,em⟩:=mix hs J I;obtain⟨c,ec⟩:=Eo s k;obtain⟨h,rfl⟩:∃ h,e=h+1:=⟨e-1,by omega⟩;show ∃ g:Gu,fin (ql (law_guard_F n) [.fr (.dZ s),.fr (.int k),.fr (.int t),.fr (.int ((h+1:Nat):Int)),.fr (.int nb),.fr (.int nr),.no,.no,.no,.no,.no])=_/\_
  let R:aw Sl->aw Sl:=fun r=>.fr (.dZ s)::.fr (.int k)::.fr (.int t)::.fr (.int ((h+1:Nat):Int))::.fr (.int nb)::.fr (.int nr)::.fr (.int m)::.fr (.int ((m%8:Nat):Int))::r
  have T:jK (aQ (aK GZ (aF 3) (fC (.int 1)))) (aQ (aK Kr (aF 7) (fC (.int 4)))) (R [.no,.no,.no]) = .ok (decide (1<h+1)&&decide (m%8<4)):=Uw (tG (a:=h+1) (b:=1) rfl rfl) fun _=>tL (a:=m%8) (b:=4) rfl rfl
  cases cA:decide (1<h+1)&&decide (m%8<4) with
  | true=>
   rw[cA]at T;simp at cA
   have p2:2 ^ (h+1)=2 ^ h+2 ^ h:=by rw[iO];omega
   have Y:(2*t+1+2)*2 ^ h<=1000:=br (Nat.mul_le_mul_right _ (show 2*t+1+2<=2*(t+2) by omega)) (by rw[iO,iE (2 ^ h) 2,<-Nat.mul_assoc,iE (t+2) 2]at p;exact p)
   have U:(2*t+2+2)*2 ^ h<=1000:=by rw[iO,iE (2 ^ h) 2,<-Nat.mul_assoc,iE (t+2) 2]at p;exact p
   obtain⟨g,eg,Q⟩:=GX (nb:=nb) (nr:=nr) hs J hr n h (2*t+1) (by omega) (by omega) Y;obtain⟨G,E,H⟩:=GX (nb:=nb) (nr:=nr) hs J hr n h (2*t+2) (by omega) (by omega) U;have call:∀(u:Nat)(x:Gu)(f:FE)(r:aw Sl),f (R r) = .ok (.fr (.int u))->law_guard_F n [.dZ s,.int k,.int u,.int h,.int nb,.int nr] = .ok x.d->aP (bU (law_guard_F n)) 6 (aD (aF 0) (aD (aF 1) (aD f (aD (aK iJ (aF 3) (fC (.int 1))) (aD (aF 4) (aD (aF 5) aL)))))) (R r) = .ok (.fr x.d):=fun u x f r hf j=>iQ (ws:=[.fr (.dZ s),.fr (.int k),.fr (.int u),.fr (.int h),.fr (.int nb),.fr (.int nr)]) (dF (w:=.fr (.dZ s)) rfl (dF (w:=.fr (.int k)) rfl (dF hf (dF (w:=.fr (.int h)) (by show Rz.ok (W.fr (.int (((h+1:Nat):Int)-1)))=_;rw[show ((h+1:Nat):Int)-1=(h:Int) by omega]) rfl)))) j rfl (.inl rfl);have M:∀ r u,u<=2->aK aa (aK jJ (fC (.int 2)) (aF 2)) (fC (.int (u:Nat))) (R r) = .ok (.fr (.int ((2*t+u:Nat):Int))):=fun r u _=>fO (x:=.fr (.int ((2*t:Nat):Int))) (y:=.fr (.int (u:Nat))) (fO (x:=.fr (.int 2)) (y:=.fr (.int t)) rfl rfl (pN (mG (by omega)))) rfl rfl;have S:=eE (i:=8) (call (2*t+1) g _ [.no,.no,.no] (M _ 1 (by decide)) eg) rfl;have o:aQ (aK (dJ false) (aF 7) (fC (.int 0))) (R [.fr g.d,.no,.no]) = .ok (decide (m%8=0)):=tE (b:=0) rfl rfl;rcases Nat.decEq (m%8) 0 |>.em with w | w
   .rw[bq w]at o;exact⟨.neg g,sN (eE (em _ _ rfl) rfl) (sN (ρ':=R [.no,.no,.no]) rfl (sT T (qN S (qT o (Jy (xY (ws:=[.fr (.str "not"),.fr g.d]) rfl rfl (hV rfl))))))),Q⟩
   .rw[bg w]at o;have B:∀ q,q<2->∃ x:Gu,x.Ok nb nr (h+1)/\∃ z,x.d = .tup [.str z,g.d,G.d]/\bF (.lst [.str "both",.str "either"]) (.int (q:Nat)) = .ok (.fr (.str z))
     | 0,_=>⟨.both g G,⟨Q,H⟩,_,rfl,rfl⟩
     | 1,_=>⟨.either g G,⟨Q,H⟩,_,rfl,rfl⟩
     | _+2,h=>d6 h (by omega)
    obtain⟨x,j,z,C,F⟩:=B (m%8%2) (iA _ (by decide))
    refine⟨x,sN (eE (em _ _ rfl) rfl) (sN (ρ':=R [.no,.no,.no]) rfl (sT T (qN (ρ':=R [.fr g.d,.no,.no]) S (qF o (Jy (d:=x.d) (by
     rw[C]
     exact xY (ws:=[.fr (.str z),.fr g.d,.fr G.d]) (dF (w:=.fr (.str z)) (fO (Hm (ws:=[.fr (.str "both"),.fr (.str "either")]) rfl rfl (hV rfl)) (y:=.fr (.int ((m%8%2:Nat):Int))) rfl F) (dF (w:=.fr g.d) rfl (dF (call (2*t+2) G _ [.fr g.d,.no,.no] (M _ 2 (by decide)) E) rfl))) rfl (hV rfl))))))),j⟩
  | false=>
  rw[cA]at T
  have go:∀ d:D,fin (aU (eV (aQ (aK (dJ false) (aF 7) (fC (.int 4))))
   (bO (dR (aD (fC (.str "in")) (aD (aK bL (aK cC (aF 6) (fC (.int 8))) (aF 5)) aL))))
   bJ)
  A5 (R [.no,.no,.no])) = .ok d->fin (ql (law_guard_F n) [.fr (.dZ s),.fr (.int k),.fr (.int t),.fr (.int ((h+1:Nat):Int)),.fr (.int nb),.fr (.int nr),.no,.no,.no,.no,.no]) = .ok d:=fun d hd=>sN (eE (em _ _ rfl) rfl) (sN (ρ':=R [.no,.no,.no]) rfl (sF T hd))
  have l:aQ (aK (dJ false) (aF 7) (fC (.int 4))) (R [.no,.no,.no]) = .ok (decide (m%8=4)):=tE (b:=4) rfl rfl;have O:∀ r,aK cC (aF 6) (fC (.int 8)) (R r) = .ok (.fr (.int ((m/8:Nat):Int))):=fun _=>rfl;rcases Nat.decEq (m%8) 4 |>.em with w | w
  .rw[bq w]at l;exact⟨.inn (m/8%nr),go _ (sT l (Jy (xY (ws:=[.fr (.str "in"),.fr (.int ((m/8%nr:Nat):Int))]) (dF (w:=.fr (.str "in")) rfl (dF (w:=.fr (.int ((m/8%nr:Nat):Int))) (fO (O _) (y:=.fr (.int nr)) rfl (vo (by omega))) rfl)) rfl (hV rfl)))),iA _ hr⟩
  rw[bg w]at l;have A:Sx (aQ (aK (dJ false) (aF 7) (fC (.int 5)))) (aQ (aK (dJ false) (aF 4) (fC (.int 0)))) (R [.no,.no,.no]) = .ok (decide (m%8=5)||decide (nb=0)):=O9 (tE (b:=5) rfl rfl) fun _=>tE (b:=0) rfl rfl
  cases c5:decide (m%8=5)||decide (nb=0) with
  | true=>
   rw[c5]at A;exact⟨.yes,go _ (sF l (sT A (Jy (xY (ws:=[.fr (.str "yes")]) rfl rfl (hV rfl))))),trivial⟩
  | false=>
  rw[c5]at A;simp at c5;obtain⟨v,P,Z⟩:=RT (f:=aK aa (aP (bU law_cell_at_F) 2 (aD (aF 0) (aD (aF 1) aL))) (aF 6)) (ρ:=R [.no,.no,.no]) (i:=c+m) (fO (x:=.fr (.int c)) (y:=.fr (.int m)) (iQ (ws:=[.fr (.dZ s),.fr (.int k)]) rfl ec rfl (.inl rfl)) rfl rfl);obtain⟨u,L,eu⟩:=T3 (f:=aK iJ (aK bL (aK cC (aF 6) (fC (.int 8))) (fC (.int 25))) (fC (.int 12))) (g:=aF 9) (i:=aK bL (aK cC (aF 6) (fC (.int 200))) (fC (.int 4))) (ρ:=R [.no,.fr (.int v),.no]) (a:=((m/8%25:Nat):Int)-12) (v:=v) (q:=m/200%4) rfl (by unfold big;omega) rfl P rfl (iA _ (by decide));have B:∀ q,q<2->∃ x:Gu,x.Ok nb nr (h+1)/\∃ z,x.d = .tup [.str z,.int ((m/8%nb:Nat):Int),.int u]/\bF (.lst [.str "is",.str "under"]) (.int (q:Nat)) = .ok (.fr (.str z))
   | 0,_=>⟨.is (m/8%nb) u,⟨iA _ (by omega),L⟩,_,rfl,rfl⟩
   | 1,_=>⟨.under (m/8%nb) u,⟨iA _ (by omega),L⟩,_,rfl,rfl⟩
   | _+2,h=>d6 h (by omega)
  obtain⟨x,j,z,C,F⟩:=B (m%8%2) (iA _ (by decide))
  refine⟨x,go _ (sF l (sF A (sN (ρ':=R [.no,.fr (.int v),.no]) (eE Z rfl) (sN (ρ':=R [.no,.fr (.int v),.fr (.int u)]) (eE eu rfl) (j9 (w:=.fr x.d) (by
   rw[C]
   exact xY (ws:=[.fr (.str z),.fr (.int ((m/8%nb:Nat):Int)),.fr (.int u)]) (dF (w:=.fr (.str z)) (fO (Hm (ws:=[.fr (.str "is"),.fr (.str "under")]) rfl rfl (hV rfl)) (y:=.fr (.int ((m%8%2:Nat):Int))) rfl F) (dF (w:=.fr (.int ((m/8%nb:Nat):Int))) (fO (O _) (y:=.fr (.int nb)) rfl (vo (by omega))) (dF (w:=.fr (.int u)) rfl rfl))) rfl (hV rfl)) rfl))))),j⟩
def Nb(m n:Nat):nms m (n+1)=nms m n++[xX m n]:=by unfold nms;rw[hG,vd];rfl
def Wa(h:i<n):((nms m n).map D.str)[i]? = some (.str (xX m i)):=by rw[jf];unfold nms;rw[jf,VV h];rfl
def yq(m n:Nat):(nms m n).length=n:=by unfold nms;rw[fH,c4]
def qGI(h:f ρ = .ok (.fr (.int i)))(H:g ρ = .ok (.fr (.int j)))(e:0<=i/\i<=1000)(J:0<=j/\j<=1000):Gx (aD f (aD g aL)) ρ = .ok (nu i (j-i).toNat):=by unfold Gx;rw[dF h (dF H rfl),pB];simp only[W.a];rw[cq ⟨⟨by omega,by omega⟩,by omega,by omega⟩]
def qDW(h:f ρ = .ok (.fr (.int a)))(Q:g ρ = .ok (.fr (.int b))):dY uP (aD f (aD g aL)) ρ = .ok (.fr (.int ((min a b:Nat):Int))):=by
 unfold dY;rw[dF h (dF Q rfl)];show Rz.ok (W.fr (.int (if (b:Int)<a then (b:Int) else a)))=_;congr 3
 split <;> omega
def Xn(hs:s.length<=63)(n:Nat)(O:n<=6):∃ l:aw Bx,law_boxes_F [.dZ s,.int n] = .ok (.tup (l.map Bx.d))/\(∃ m,l.map Bx.nm=nms m n)/\∀ b∈l,(1<=b.sz/\b.sz<=big)/\0<=b.st/\b.st<b.sz:=by
 obtain⟨M,E⟩:=Az hs n 41 (by omega) (by omega);generalize A:(nms M n).map D.str=N at E
 let S:aw Bx×Sl×Sl×Sl->aw Sl:=fun x=>[.fr (.dZ s),.fr (.int n),.fr (.tup N),.ow (x.1.map Bx.d),x.2.1,x.2.2.1,x.2.2.2]
 have L:=forR (f:=lA (aD (aF 1) aL)) (b:=bN 4) (g:=A6) S (fun i x=>x.1.map Bx.nm=nms M i/\∀ b∈x.1,(1<=b.sz/\b.sz<=big)/\0<=b.st/\b.st<b.sz) n ([],.no,.no,.no) (Jx rfl (by omega)) ⟨rfl,nofun⟩ fun i x I r=>by
  obtain⟨l,a4,a5,a6⟩:=x;obtain⟨h,H⟩:=r;obtain⟨m,_,em⟩:=mix hs (k:=i) (t:=42) (by omega) (by omega);obtain⟨c,G⟩:=Eo s i
  have J:l.length=i:=by have:=congrArg List.length h;rwa [fH,yq]at this
  have B:(0:Int)<big:=by unfold big;omega
  have C:∀ a b,aP (bU law_cell_at_F) 2 (aD (aF 0) (aD (aF 4) aL)) (S (l,.fr (.int i),a,b)) = .ok (.fr (.int c)):=fun _ _=>iQ (ws:=[.fr (.dZ s),.fr (.int i)]) rfl G rfl (.inl rfl);obtain⟨d,hd,p,_⟩:=Wz (l:=[.int 1,.int 2,.int big,.int (1+(c+17*i)%big)]) (q:=m%4) (iA _ (by show 0<4;decide))
  have:∃ z,d = .int z/\1<=z/\z<=big:=by
   have j:=Yb (c+17*i) (show big≠0 by omega);have Q:=YZ (c+17*i) B
   have u:(2:Int)<=big:=by unfold big;omega
   ext e;rcases hd with rfl | rfl | rfl | rfl
   .exact⟨_,rfl,eA _,by omega⟩
   .exact⟨_,rfl,by omega,u⟩
   .exact⟨_,rfl,by omega,eA _⟩
   .exact⟨_,rfl,by omega,by omega⟩
  obtain⟨z,rfl,z1,z2⟩:=this;obtain⟨d,hd,F,_⟩:=Wz (l:=[.int 0,.int (z-1),.int ((c+m)%z)]) (q:=m/4%3) (iA _ (by show 0<3;decide))
  have:∃ v,d = .int v/\0<=v/\v<z:=by
   have j:=Yb (c+m) (show z≠0 by omega);have Q:=YZ (c+m) (show 0<z by omega);ext e;rcases hd with rfl | rfl | rfl
   .exact⟨_,rfl,eA _,by omega⟩
   .exact⟨_,rfl,by omega,by omega⟩
   .exact⟨_,rfl,j,Q⟩
  obtain⟨v,rfl,v1,v2⟩:=this;refine⟨_,(l++[(⟨xX M i,z,v⟩:Bx)],.fr (.int i),.fr (.int m),.fr (.int z)),rfl,?_,?_,fun b o=>(rP.mp o).elim (H b) fun q=>by rw[vf.mp q];exact⟨⟨z1,z2⟩,v1,v2⟩⟩
  .have P:=eE (i:=5) (em (aD (aF 0) (aD (aF 4) (aD (fC (.int 42)) aL))) (S (l,.fr (.int i),a5,a6)) rfl) rfl;refine qN (ρ':=S (l,.fr (.int i),.fr (.int m),a6)) P (qN (ρ':=S (l,.fr (.int i),.fr (.int m),.fr (.int z))) (eE (fO (Hm (ws:=[.fr (.int 1),.fr (.int 2),.fr (.int big),.fr (.int (1+(c+17*i)%big))]) (dF (w:=.fr (.int 1)) rfl (dF (w:=.fr (.int 2)) rfl (dF (pw _) (dF (w:=.fr (.int (1+(c+17*i)%big))) (fO (x:=.fr (.int 1)) (y:=.fr (.int ((c+17*i)%big))) rfl (fO (x:=.fr (.int (c+17*i))) (fO (C _ _) (y:=.fr (.int (17*i))) (fO (x:=.fr (.int 17)) (y:=.fr (.int i)) rfl rfl (pN (mG (by omega)))) rfl) (pw _) (vo B)) rfl) rfl)))) rfl (hV rfl)) (y:=.fr (.int ((m%4:Nat):Int))) rfl p) rfl) ?_);refine (QQ (l:=l.map Bx.d) (w:=.fr (Bx.d (Bx.mk (xX M i) z v))) rfl (xY (ws:=[.fr (.str (xX M i)),.fr (.int z),.fr (.int v)]) (dF (w:=.fr (.str (xX M i))) (fO (x:=.fr (.tup N)) (y:=.fr (.int i)) rfl rfl (zz (by rw[<-A];exact Wa I)).2) (dF (w:=.fr (.int z)) rfl (dF (fO (Hm (ws:=[.fr (.int 0),.fr (.int (z-1)),.fr (.int ((c+m)%z))]) (dF (w:=.fr (.int 0)) rfl (dF (w:=.fr (.int (z-1))) rfl (dF (w:=.fr (.int ((c+m)%z))) (fO (x:=.fr (.int (c+m))) (y:=.fr (.int z)) (fO (C _ _) (y:=.fr (.int m)) rfl rfl) rfl (vo (by omega))) rfl))) rfl (hV rfl)) (y:=.fr (.int ((m/4%3:Nat):Int))) rfl F) rfl))) rfl (hV rfl)) rfl (by rw[fH];omega) rfl).trans ?_;rw[show l.map Bx.d++[Bx.d (Bx.mk (xX M i) z v)]=(l++[Bx.mk (xX M i) z v]).map Bx.d by rw[vd];rfl];rfl
  .show (l++[(⟨xX M i,z,v⟩:Bx)]).map Bx.nm=_;rw[vd,h,Nb];rfl
 obtain⟨⟨l,a4,a5,a6⟩,e,h,H⟩:=L;refine⟨l,?_,⟨M,h⟩,H⟩;show fin (Cg [.fr (.dZ s),.fr (.int n),.no,.no,.no,.no,.no])=_;exact sN (eE (iQ (ws:=[.fr (.dZ s),.fr (.int n),.fr (.int 41)]) rfl E rfl (.inl rfl)) rfl) (sN (ρ':=S ([],.no,.no,.no)) (FZ (l:=[]) (Hm (ws:=[]) rfl rfl (bb _))) (sN e (j9 (XR (w:=.bw (l.map Bx.d)) rfl (.inl rfl)) rfl)))
def Up(dl:aw Nat)(j:Nat):Prop:=∃ a b,dl[j]? = some a/\dl[j+1]? = some b/\a<b
structure Rok(dl:List Nat)(bs:List Bx)(ne j:Nat)(r:Rm):Prop where
 dp:dl[j]? = some r.dp
 kd:¬ Up dl j/\r.kd = "plain" /\ r.kp = "" ∨ Up dl j/\(r.kd = "one" /\ (r.kp = "" ∨ r.kp = "near" ∨ r.kp = "deep")∨r.kd = "all" /\ (r.kp = "" ∨ r.kp = "deep"))
 lp:r.lp = "" ∨ Wo r.lp
 i8:r.ins.length<=8/\∀ e∈r.ins,e.Ok bs ne
 o8:r.outs.length<=8/\∀ e∈r.outs,e.Ok bs ne
structure Dps(dl:List Nat):Prop where
 z:dl[0]? = some 0
 s:∀ j a b,dl[j]? = some a->dl[j+1]? = some b->1<=b/\b<=min a 11+1
def V2(hs:s.length<=63)(R:1<=n/\n<=40)(hr:r.all Sl.nb=true):∃(dl:aw Nat)(a b:Sl),dl.length=n/\Dps dl/\(a.nb=true/\b.nb=true)/\rC (Gx (aD (fC (.int 1)) (aD (aF 1) aL))) (bN 6)
   A7 (.fr (.dZ s)::.fr (.int n)::.fr B::.fr (.int ne)::.fr N::.ow [.int 0]::.no::.no::r) = .ok (.nx (.fr (.dZ s)::.fr (.int n)::.fr B::.fr (.int ne)::.fr N::.ow (dl.map fun x:Nat=>D.int x)::a::b::r)):=by
 let S:aw Nat×Sl×Sl->aw Sl:=fun x=>.fr (.dZ s)::.fr (.int n)::.fr B::.fr (.int ne)::.fr N::.ow (x.1.map fun x:Nat=>D.int x)::x.2.1::x.2.2::r
 have rg:Gx (aD (fC (.int 1)) (aD (aF 1) aL)) (S ([0],.no,.no)) = .ok (nu 1 (n-1)):=by
  have:=qGI (f:=fC (.int 1)) (g:=aF 1) (ρ:=S ([0],.no,.no)) (i:=1) (j:=n) rfl rfl (by omega) (by omega);rw[show ((n:Int)-1).toNat=n-1 by omega]at this;ext x
 have P:=qCO (b:=bN 6) (g:=A7) S (fun i x=>x.1.length=i+1/\Dps x.1/\x.2.1.nb=true/\x.2.2.nb=true) (nu 1 (n-1)) 0 ([0],.no,.no) ⟨rfl,⟨rfl,fun j a b H o=>by cases o⟩,rfl,rfl⟩ fun i d x hd h=>by
  obtain⟨l,a6,a7⟩:=x;rw[j2]at h ⊢;obtain⟨F,q,_,_⟩:=h
  replace F:l.length=i+1:=F
  have Q:i<n-1:=by
   have:=(rO.mp hd).1;unfold nu at this
   rwa [fH,c4]at this
  have J:d = .int ((i+1:Nat):Int):=by
   unfold nu at hd;rw[jf,VV Q]at hd;have:=(Jc hd).symm;rw[this];show D.int (1+(i:Int))=_;rw[show (1:Int)+i=((i+1:Nat):Int) by omega]
  subst J;obtain⟨m,_,em⟩:=mix hs (k:=2+(i+1)) (t:=44) (by omega) (by omega);obtain⟨a,ea⟩:∃ a,l[i]? = some a:=⟨_,wF (by omega)⟩;have I:∀(x:aw D)(b:Sl),aK bF (aF 5) (aK iJ (aF 6) (fC (.int 1))) (.fr (.dZ s)::.fr (.int n)::.fr B::.fr (.int ne)::.fr N::.ow ((l.map fun x:Nat=>D.int x)++x)::.fr (.int ((i+1:Nat):Int))::b::r) = .ok (.fr (.int a)):=fun x b=>fO (x:=.bw ((l.map fun x:Nat=>D.int x)++x)) (y:=.fr (.int i)) rfl (by show Rz.ok (W.fr (.int (((i+1:Nat):Int)-1)))=_;rw[show ((i+1:Nat):Int)-1=(i:Int) by omega]) (zz (by rw[VJ (by rw[fH];omega),jf,ea];rfl)).1;have p:∀(x:aw D)(b:Sl),dY uP (aD (aK bF (aF 5) (aK iJ (aF 6) (fC (.int 1)))) (aD (fC (.int 11)) aL)) (.fr (.dZ s)::.fr (.int n)::.fr B::.fr (.int ne)::.fr N::.ow ((l.map fun x:Nat=>D.int x)++x)::.fr (.int ((i+1:Nat):Int))::b::r) = .ok (.fr (.int ((min a 11:Nat):Int))):=fun x b=>qDW (b:=11) (I x b) rfl;have M:=fun b=>p [] b;simp only[List.append_nil]at M
  have nb:∀(x:aw D)(y z:Sl),y.nb=true->z.nb=true->(Sl.fr (.dZ s)::.fr (.int n)::.fr B::.fr (.int ne)::.fr N::.ow x::y::z::r).all Sl.nb=true:=fun x y z T E=>by
   show (y.nb&&(z.nb&&r.all Sl.nb))=true;rw[T,E,hr];rfl
  have G:∀ v,1<=v->v<=min a 11+1->Dps (l++[v]):=fun v v1 v2=>⟨by rw[VJ (by omega)];exact q.z,fun j x y h T=>by
   by_cases L:j+1<l.length
   .rw[VJ (by omega)]at h;rw[VJ L]at T;exact q.s j x y h T
   .have c:=(rO.mp T).1;rw[jB]at c;simp at c
    have:j=i:=by omega
    subst this;rw[VJ (by omega),ea]at h;rw[YX (by omega),show j+1-l.length=0 by omega]at T
    cases h
    cases T
    exact⟨v1,v2⟩⟩
  have v1:m%(min a 11+1)<min a 11+1:=iA _ (by omega);have u:=eE (i:=7) (em (aD (aF 0) (aD (aK aa (fC (.int 2)) (aF 6)) (aD (fC (.int 44)) aL))) (S (l,.fr (.int ((i+1:Nat):Int)),a7)) rfl) rfl;have C:=QQ (i:=5) (l:=l.map fun x:Nat=>D.int x) (ρ:=S (l,.fr (.int ((i+1:Nat):Int)),.fr (.int m))) (f:=aK aa (fC (.int 1)) (aK bL (aF 7) (aK aa (dY uP (aD (aK bF (aF 5) (aK iJ (aF 6) (fC (.int 1)))) (aD (fC (.int 11)) aL))) (fC (.int 1))))) (w:=.fr (.int ((1+m%(min a 11+1):Nat):Int))) rfl (fO (x:=.fr (.int 1)) rfl (fO (x:=.fr (.int m)) (y:=.fr (.int ((min a 11+1:Nat):Int))) rfl (fO (M _) (y:=.fr (.int 1)) rfl rfl) (vo (by omega))) rfl) rfl (by rw[fH];omega) (nb _ _ _ rfl rfl);have A:∀ x:aw D,aQ (aK (dJ false) (aK bL (aK cC (aF 7) (fC (.int 16))) (fC (.int 4))) (fC (.int 0))) (.fr (.dZ s)::.fr (.int n)::.fr B::.fr (.int ne)::.fr N::.ow x::.fr (.int ((i+1:Nat):Int))::.fr (.int m)::r) = .ok (decide (m/16%4=0)):=fun _=>tE (a:=m/16%4) (b:=0) rfl rfl;rcases Nat.decEq (m/16%4) 0 |>.em with w | w
  .refine⟨_,(l++[1+min a 11],.fr (.int ((i+1:Nat):Int)),.fr (.int m)),rfl,qN u (qN C ((Hl ((A _).trans (by rw[bq w]))).trans ?_)),by show (l++[_]).length=_;rw[jB,F];rfl,G _ (by omega) (by omega),rfl,rfl⟩;show Fb 5 (aF 6) _ (.fr (.dZ s)::.fr (.int n)::.fr B::.fr (.int ne)::.fr N::.ow ((l.map fun x:Nat=>D.int x)++[D.int ((1+m%(min a 11+1):Nat):Int)])::.fr (.int ((i+1:Nat):Int))::.fr (.int m)::r)=_;unfold Fb;show (Rz.bind _ _)=_;rw[fO (x:=.fr (.int 1)) (z:=.ok (.fr (.int ((1+min a 11:Nat):Int)))) rfl (p _ _) rfl,pB];show (match Nz ((l.map fun x:Nat=>D.int x)++[D.int ((1+m%(min a 11+1):Nat):Int)]).length ((i+1:Nat):Int) with | some m=>_ | none=>_)=_
   have h:Nz ((l.map fun x:Nat=>D.int x)++[D.int ((1+m%(min a 11+1):Nat):Int)]).length ((i+1:Nat):Int)=some (i+1):=by
    unfold Nz;rw[cq (by omega),cq (by rw[fA,fF];simp;omega)];rfl
   rw[h];show (if _ then _ else _)=_;rw[cq (nb _ _ _ rfl rfl)];show Rz.ok (Fl.nx (.fr (.dZ s)::.fr (.int n)::.fr B::.fr (.int ne)::.fr N::.ow (((l.map fun x:Nat=>D.int x)++[D.int ((1+m%(min a 11+1):Nat):Int)]).set (i+1) (.int ((1+min a 11:Nat):Int)))::.fr (.int ((i+1:Nat):Int))::.fr (.int m)::r))=_;rw[show (i+1)=(l.map fun x:Nat=>D.int x).length by rw[fH,F],List.set_append_right _ _ (jC _),iP,fH,F];show Rz.ok (Fl.nx (.fr (.dZ s)::.fr (.int n)::.fr B::.fr (.int ne)::.fr N::.ow ((l.map fun x:Nat=>D.int x)++[D.int ((1+min a 11:Nat):Int)])::_::_::r))=Rz.ok (Fl.nx (.fr (.dZ s)::.fr (.int n)::.fr B::.fr (.int ne)::.fr N::.ow ((l++[1+min a 11]).map fun x:Nat=>D.int x)::_::_::r));rw[vd];rfl
  .refine⟨_,(l++[1+m%(min a 11+1)],.fr (.int ((i+1:Nat):Int)),.fr (.int m)),rfl,qN u (qN C ((M8 ((A _).trans (by rw[bg w]))).trans ?_)),by show (l++[_]).length=_;rw[jB,F];rfl,G _ (by omega) (by omega),rfl,rfl⟩;show Rz.ok (Fl.nx (.fr (.dZ s)::.fr (.int n)::.fr B::.fr (.int ne)::.fr N::.ow ((l.map fun x:Nat=>D.int x)++[D.int ((1+m%(min a 11+1):Nat):Int)])::_::_::r))=Rz.ok (Fl.nx (.fr (.dZ s)::.fr (.int n)::.fr B::.fr (.int ne)::.fr N::.ow ((l++[1+m%(min a 11+1)]).map fun x:Nat=>D.int x)::_::_::r));rw[vd];rfl
 obtain⟨⟨l,a6,a7⟩,e,H,o,O⟩:=P;refine⟨l,a6,a7,?_,o,O,?_⟩
 .unfold nu at H;rw[fH,c4]at H
  replace H:l.length=0+(n-1)+1:=H
  omega
 .show ((Gx (aD (fC (.int 1)) (aD (aF 1) aL)) (S ([0],.no,.no))).bind _)=_;rw[rg];exact e
def sS{i:Nat}{f:FE}{ρ:aw Sl}{d:D}(h:f ρ = .ok (.fr d)):aW i f ρ = .ok (.nx (ρ.set i (.fr d))):=eE h rfl
def MP{ng:Bool}{f:FE}{ρ:aw Sl}{a b:Str}(h:f ρ = .ok (.fr (.str a))):aQ (aK (dJ ng) f (fC (.str b))) ρ = .ok ((a==b) != ng):=zc (fO h (y:=.fr (.str b)) rfl (eqI (bb _) rfl rfl)) rfl
theorem W0(hs:s.length<=63){n:Nat}(hn:1<=n/\n<=40)(X:∀ b∈bs,1<=b.sz/\b.sz<=big):∃ rs:aw Rm,law_rooms_F [.dZ s,.int n,.tup (bs.map Bx.d),.int ne] = .ok (.tup (rs.map Rm.d))/\(∃ m,rs.map Rm.nm=nms m n)/\∃ dl,dl.length=n/\Dps dl/\∀ j r,rs[j]? = some r->Rok dl bs ne j r:=by
 obtain⟨A,en⟩:=Az hs n 43 (by omega) (by omega);generalize hN:D.tup ((nms A n).map D.str)=N at en;generalize hB:D.tup (bs.map Bx.d)=B;obtain⟨dl,b6,b7,dn,dp,⟨_,_⟩,ed⟩:=V2 (s:=s) (ne:=ne) hs hn (B:=B) (N:=N) (r:=[.no,.no,.no,.no,.no,.no]) rfl
 let T:aw Rm->Sl->Sl->Sl->Sl->Sl->Sl->Sl->aw Sl:=fun l a6 a7 a9 a10 a11 a12 a13=>[.fr (.dZ s),.fr (.int n),.fr B,.fr (.int ne),.fr N,.ow (dl.map fun x:Nat=>D.int x),a6,a7,.ow (l.map Rm.d),a9,a10,a11,a12,a13]
 have lp:=forR (f:=lA (aD (aF 1) aL)) (b:=bN 6) (g:=A8) (fun x:aw Rm×Sl×Sl×Sl×Sl×Sl×Sl×Sl=>T x.1 x.2.1 x.2.2.1 x.2.2.2.1 x.2.2.2.2.1 x.2.2.2.2.2.1 x.2.2.2.2.2.2.1 x.2.2.2.2.2.2.2) (fun i x=>x.1.map Rm.nm=nms A i/\∀ j r,x.1[j]? = some r->Rok dl bs ne j r) n ([],b6,b7,.no,.no,.no,.no,.no) (Jx rfl (by omega)) ⟨rfl,nofun⟩ fun i x hi G=>by
  obtain⟨l,a6,a7,a9,a10,a11,a12,a13⟩:=x;obtain⟨H,E⟩:=G
  replace H:l.map Rm.nm=nms A i:=H
  replace E:∀ j r,l[j]? = some r->Rok dl bs ne j r:=E
  have ll:l.length=i:=by have:=congrArg List.length H;rwa [fH,yq]at this
  obtain⟨m,_,em⟩:=mix hs (k:=2+i) (t:=45) (by omega) (by omega);obtain⟨a,ea⟩:∃ a,dl[i]? = some a:=⟨_,wF (by omega)⟩;have v:∀(j b:Nat)(f:FE)(ρ:aw Sl),f ρ = .ok (.fr (.int j))->aF 5 ρ = .ok (.bw (dl.map fun x:Nat=>D.int x))->dl[j]? = some b->aK bF (aF 5) f ρ = .ok (.fr (.int b)):=fun j b f ρ hf h5 J=>fO h5 hf (zz (by rw[jf,J];rfl)).1
  let I:Sl:=.fr (.int i)
  let M:Sl:=.fr (.int m)
  obtain⟨d,o,L,hk⟩:∃ d o:Str,eV (jK (aQ (aK Kr (aK aa (aF 6) (fC (.int 1))) (aF 1))) (aQ (aK GZ (aK bF (aF 5) (aK aa (aF 6) (fC (.int 1)))) (aK bF (aF 5) (aF 6)))))
   (aU (aW 9 (aK bF (eX (LQ [.s "one",.s "one",.s "all"])) (aK bL (aF 7) (fC (.int 3)))))
   (aW 10 (aK bF (eX (LQ [.s "",.s "near",.s "deep"])) (aK bL (aK cC (aF 7) (fC (.int 3))) (fC (.int 3))))))
   bJ (T l I M (.fr (.str "plain")) (.fr (.str "")) a11 a12 a13) = .ok (.nx (T l I M (.fr (.str d)) (.fr (.str o)) a11 a12 a13))/\(¬ Up dl i/\d = "plain" /\ o = "" ∨ Up dl i/\(d = "one" ∨ d = "all")/\(o = "" ∨ o = "near" ∨ o = "deep")):=by
   have t1:aQ (aK Kr (aK aa (aF 6) (fC (.int 1))) (aF 1)) (T l I M (.fr (.str "plain")) (.fr (.str "")) a11 a12 a13) = .ok (decide (i+1<n)):=tL (a:=i+1) (b:=n) rfl rfl
   by_cases R:Up dl i
   .obtain⟨x,y,G,S,Z⟩:=R;have:=(rO.mp S).1;have k1:∀ q,q<3->∃ z:Str,(z = "one" ∨ z = "all")/\bF (.lst [.str "one",.str "one",.str "all"]) (.int (q:Nat)) = .ok (.fr (.str z))
     | 0,_=>⟨"one",.inl rfl,rfl⟩
     | 1,_=>⟨"one",.inl rfl,rfl⟩
     | 2,_=>⟨"all",.inr rfl,rfl⟩
     | _+3,h=>d6 h (by omega)
    have k2:∀ q,q<3->∃ z:Str,(z = "" ∨ z = "near" ∨ z = "deep")/\bF (.lst [.str "",.str "near",.str "deep"]) (.int (q:Nat)) = .ok (.fr (.str z))
     | 0,_=>⟨"",.inl rfl,rfl⟩
     | 1,_=>⟨"near",.inr (.inl rfl),rfl⟩
     | 2,_=>⟨"deep",.inr (.inr rfl),rfl⟩
     | _+3,h=>d6 h (by omega)
    obtain⟨d,P,L⟩:=k1 (m%3) (iA _ (by decide));obtain⟨o,W,O⟩:=k2 (m/3%3) (iA _ (by decide));refine⟨d,o,(Hl (Uw (p:=true) (q:=true) (t1.trans (by rw[bq (by omega)])) fun _=>(tG (a:=y) (b:=x) (v (i+1) y _ _ rfl rfl S) (v i x _ _ rfl rfl G)).trans (by rw[bq Z]))).trans (qN (ρ':=T l I M (.fr (.str d)) (.fr (.str "")) a11 a12 a13) (sS (fO (Hm (ws:=[.fr (.str "one"),.fr (.str "one"),.fr (.str "all")]) rfl rfl (hV rfl)) (y:=.fr (.int ((m%3:Nat):Int))) rfl L)) (sS (fO (Hm (ws:=[.fr (.str ""),.fr (.str "near"),.fr (.str "deep")]) rfl rfl (hV rfl)) (y:=.fr (.int ((m/3%3:Nat):Int))) rfl O))),.inr ⟨⟨x,y,G,S,Z⟩,P,W⟩⟩
   .refine⟨"plain","",(M8 (Uw (p:=decide (i+1<n)) (q:=false) t1 (fun q=>?_) |>.trans (by rw[dA]))),.inl ⟨R,rfl,rfl⟩⟩;have hin:=aS q;obtain⟨b,eb⟩:∃ b,dl[i+1]? = some b:=⟨_,wF (by omega)⟩;exact (tG (a:=b) (b:=a) (v (i+1) b _ _ rfl rfl eb) (v i a _ _ rfl rfl ea)).trans (by rw[bg fun q=>R ⟨a,b,ea,eb,q⟩])
  obtain⟨u,O,hk2⟩:∃ u:Str,eV (jK (aQ (aK (dJ false) (aF 9) (fC (.str "all")))) (aQ (aK (dJ false) (aF 10) (fC (.str "near")))))
   (aW 10 (fC (.str "")))
   bJ (T l I M (.fr (.str d)) (.fr (.str o)) a11 a12 a13) = .ok (.nx (T l I M (.fr (.str d)) (.fr (.str u)) a11 a12 a13))/\(¬ Up dl i/\d = "plain" /\ u = "" ∨ Up dl i/\(d = "one" /\ (u = "" ∨ u = "near" ∨ u = "deep")∨d = "all" /\ (u = "" ∨ u = "deep"))):=by
   have t:jK (aQ (aK (dJ false) (aF 9) (fC (.str "all")))) (aQ (aK (dJ false) (aF 10) (fC (.str "near")))) (T l I M (.fr (.str d)) (.fr (.str o)) a11 a12 a13) = .ok ((d == "all")&&(o == "near")):=Uw ((MP (a:=d) rfl).trans (by rw[dP])) fun _=>(MP (a:=o) rfl).trans (by rw[dP])
   cases c:((d == "all")&&(o == "near")) with
   | true=>
    rw[c]at t;rw[dv,beq_iff_eq,beq_iff_eq]at c;refine⟨"",(Hl t).trans rfl,?_⟩;rcases hk with ⟨_,q,_⟩ | ⟨q,_,_⟩
    .rw[c.1]at q;exact d6 q (by ext y)
    .exact .inr ⟨q,.inr ⟨c.1,.inl rfl⟩⟩
   | false=>
    rw[c]at t;refine⟨o,(M8 t).trans rfl,?_⟩;rcases hk with q | ⟨q,F | F,Q⟩
    .exact .inl q
    .exact .inr ⟨q,.inl ⟨F,Q⟩⟩
    .refine .inr ⟨q,.inr ⟨F,?_⟩⟩;rcases Q with Q | Q | Q
     .exact .inl Q
     .rw[F,Q]at c;exact d6 c (by ext y)
     .exact .inr Q
  obtain⟨z,e3,U⟩:∃ z:Str,eV (aQ (aK (dJ false) (aK bL (aK cC (aF 7) (fC (.int 9))) (fC (.int 2))) (fC (.int 0))))
   (aW 11 (aP (bU law_word_F) 1 (aD (aK cC (aF 7) (fC (.int 18))) aL)))
   bJ (T l I M (.fr (.str d)) (.fr (.str u)) (.fr (.str "")) a12 a13) = .ok (.nx (T l I M (.fr (.str d)) (.fr (.str u)) (.fr (.str z)) a12 a13))/\(z = "" ∨ Wo z):=by
   have t:aQ (aK (dJ false) (aK bL (aK cC (aF 7) (fC (.int 9))) (fC (.int 2))) (fC (.int 0))) (T l I M (.fr (.str d)) (.fr (.str u)) (.fr (.str "")) a12 a13) = .ok (decide (m/9%2=0)):=tE (a:=m/9%2) (b:=0) rfl rfl;rcases Nat.decEq (m/9%2) 0 |>.em with w | w
   .obtain⟨z,ez,U⟩:=RQ (m/18);exact⟨z,(Hl (t.trans (by rw[bq w]))).trans (sS (iQ (ws:=[.fr (.int ((m/18:Nat):Int))]) rfl ez rfl (.inl rfl))),.inr U⟩
   .exact⟨"",(M8 (t.trans (by rw[bg w]))).trans rfl,.inl rfl⟩
  obtain⟨li,ei,i8⟩:=HF (bs:=bs) (ne:=ne) hs (k:=2+i) (t:=50) (by omega) (by omega) X;obtain⟨lo,Y,o8⟩:=HF (bs:=bs) (ne:=ne) hs (k:=2+i) (t:=60) (by omega) (by omega) X;rw[hB]at ei Y
  let r:Rm:=⟨xX A i,d,a,u,z,li,lo⟩
  have s7:=eE (i:=7) (em (aD (aF 0) (aD (aK aa (fC (.int 2)) (aF 6)) (aD (fC (.int 45)) aL))) (T l I a7 a9 a10 a11 a12 a13) rfl) rfl;refine⟨_,(l++[r],I,M,.fr (.str d),.fr (.str u),.fr (.str z),.fr (.tup (li.map De.d)),.fr (.tup (lo.map De.d))),rfl,qN (ρ':=T l I M a9 a10 a11 a12 a13) s7 (qN (ρ':=T l I M (.fr (.str "plain")) a10 a11 a12 a13) rfl (qN (ρ':=T l I M (.fr (.str "plain")) (.fr (.str "")) a11 a12 a13) rfl (qN L (qN O (qN (ρ':=T l I M (.fr (.str d)) (.fr (.str u)) (.fr (.str "")) a12 a13) rfl (qN e3 (qN (ρ':=T l I M (.fr (.str d)) (.fr (.str u)) (.fr (.str z)) (.fr (.tup (li.map De.d))) a13) (sS (iQ (ws:=[.fr (.dZ s),.fr (.int ((2+i:Nat):Int)),.fr (.int 50),.fr B,.fr (.int ne)]) rfl ei rfl (.inl rfl))) (qN (ρ':=T l I M (.fr (.str d)) (.fr (.str u)) (.fr (.str z)) (.fr (.tup (li.map De.d))) (.fr (.tup (lo.map De.d)))) (sS (iQ (ws:=[.fr (.dZ s),.fr (.int ((2+i:Nat):Int)),.fr (.int 60),.fr B,.fr (.int ne)]) rfl Y rfl (.inl rfl))) ?_)))))))),?_,fun j x J=>?_⟩
  .refine (QQ (l:=l.map Rm.d) (w:=.fr r.d) rfl (xY (ws:=[.fr (.str (xX A i)),.fr (.str d),.fr (.int a),.fr (.str u),.fr (.str z),.fr (.tup (li.map De.d)),.fr (.tup (lo.map De.d))]) (dF (w:=.fr (.str (xX A i))) (fO (x:=.fr N) (y:=.fr (.int i)) rfl rfl (by rw[<-hN];exact (zz (Wa hi)).2)) (dF (w:=.fr (.str d)) rfl (dF (w:=.fr (.int a)) (v i a _ _ rfl rfl ea) rfl))) rfl (hV rfl)) rfl (by rw[fH];omega) rfl).trans ?_;rw[show l.map Rm.d++[r.d]=(l++[r]).map Rm.d by rw[vd];rfl];rfl
  .show (l++[r]).map Rm.nm=_;rw[vd,H,Nb];rfl
  .replace J:(l++[r])[j]? = some x:=J
   by_cases q:j<l.length
   .rw[VJ q]at J;exact E j x J
   .have C:=(rO.mp J).1;rw[jB]at C;simp at C
    have:j=i:=by omega
    subst this;rw[YX (by omega),show j-l.length=0 by omega]at J;rw[<-show r=x from Jc J];exact⟨ea,hk2,U,i8,o8⟩
 obtain⟨⟨l,a6,a7,a9,a10,a11,a12,a13⟩,e,H,E⟩:=lp;refine⟨l,?_,⟨A,H⟩,dl,dn,dp,E⟩;show fin (CV [.fr (.dZ s),.fr (.int n),.fr B,.fr (.int ne),.no,.no,.no,.no,.no,.no,.no,.no,.no,.no])=_;exact sN (eE (iQ (ws:=[.fr (.dZ s),.fr (.int n),.fr (.int 43)]) rfl en rfl (.inl rfl)) rfl) (sN (ρ':=.fr (.dZ s)::.fr (.int n)::.fr B::.fr (.int ne)::.fr N::.ow [.int 0]::.no::.no::[.no,.no,.no,.no,.no,.no]) (FZ (l:=[.int 0]) (Hm (ws:=[.fr (.int 0)]) rfl rfl (hV rfl))) (sN ed (sN (ρ':=T [] b6 b7 .no .no .no .no .no) (FZ (l:=[]) (Hm (ws:=[]) rfl rfl (bb _))) (sN e (j9 (XR (w:=.bw (l.map Rm.d)) rfl (.inl rfl)) rfl)))))
end
theorem qBB{α:Type}{c:FT}{e:FE}{cs:aw Sl}{f:α->D}{P:α->Prop}:∀ {ds:aw D},(∀ d∈ds,∃ b,c (.fr d::cs) = .ok b/\(b=true->∃ a,e (.fr d::cs) = .ok (.fr (f a))/\P a))->∃ l:aw α,ig c e cs ds = .ok (l.map f)/\∀ a∈l,P a
 | [],_=>⟨[],rfl,nofun⟩
 | d::ds,h=>by
  obtain⟨b,g,i⟩:=h d qK;obtain⟨l,E,pl⟩:=qBB (c:=c) (e:=e) (cs:=cs) (f:=f) (P:=P) fun x H=>h x (rM _ H);rw[ig,g,pB]
  cases b with
  | false=>exact⟨l,by rw[cn xf];exact E,pl⟩
  | true=>
   obtain⟨a,U,p⟩:=i rfl;refine⟨a::l,?_,fun x H=>(jL.mp H).elim (fun q=>by rw[q];exact p) (pl x)⟩;rw[cq rfl,U,pB];show (ig c e cs ds).bind _=_;rw[E];rfl
structure Dok(bs:List Bx)(ne:Nat)(rs:List Rm)(x:Dr):Prop where
 rm:x.rm<rs.length
 ev:x.ev<ne
 go:x.way = "to" /\ (∃ g,x.goal=some g/\g<rs.length)∨x.way = "back" /\ (∃ g r,x.goal=some g/\rs[g]? = some r/\r.kp ≠ "")∨x.way = "stay" /\ x.goal=none
 gu:x.gu.Ok bs.length rs.length 6
 d8:x.dd.length<=8/\∀ e∈x.dd,e.Ok bs ne
section
variable{s:aw Int}{bs:aw Bx}{rs:aw Rm}{ne:Nat}
def Xb(hs:s.length<=63){n:Nat}(hn:n<=60)(h0:n=0∨0<ne)(hr:1<=rs.length/\rs.length<=40)(hb:∀ b∈bs,1<=b.sz/\b.sz<=big):∃ ds:aw Dr,law_doors_F [.dZ s,.int n,.tup (rs.map Rm.d),.tup (bs.map Bx.d),.int ne] = .ok (.tup (ds.map Dr.d))/\ds.length=n/\∀ x∈ds,Dok bs ne rs x:=by
 generalize hR:rs.map Rm.d=R
 have N:R.length=rs.length:=by rw[<-hR,fH]
 have bl:(bs.map Bx.d).length=bs.length:=fH ..;have H:=fun (k t:Nat) (hk:k<=1000) (ht:t<=900)=>HF (bs:=bs) (ne:=ne) (s:=s) hs hk ht hb;generalize hB:bs.map Bx.d=B at bl H
 obtain⟨a,ek,hk⟩:=qBB (c:=aQ (aK (dJ true) (aK bF (aK bF (aF 1) (aF 0)) (fC (.int 3))) (fC (.str "")))) (e:=aF 0) (cs:=[.fr (.tup R)]) (f:=fun k:Nat=>D.int k) (P:=fun g:Nat => ∃ r,rs[g]? = some r/\r.kp ≠ "") (ds:=(List.range rs.length).map fun k:Nat=>D.int k) fun d hd=>by
  obtain⟨j,hj,rfl⟩:=rA.mp hd;have:=gz.mp hj;obtain⟨r,O⟩:∃ r,rs[j]? = some r:=⟨_,wF this⟩;refine⟨(r.kp == "") != true,MP (fO (x:=.fr r.d) (y:=.fr (.int 3)) (fO (x:=.fr (.tup R)) (y:=.fr (.int j)) rfl rfl (zz (by rw[<-hR,jf,O];rfl)).2) rfl rfl),fun q=>⟨j,rfl,r,O,fun z=>?_⟩⟩;rw[z]at q;exact d6 q (by ext y)
 let T:aw Dr->Sl->Sl->Sl->Sl->Sl->Sl->Sl->Sl->aw Sl:=fun l a7 a8 a9 a10 a11 a12 a13 a14=>[.fr (.dZ s),.fr (.int n),.fr (.tup R),.fr (.tup B),.fr (.int ne),.ow (l.map Dr.d),.fr (.lst (a.map fun k:Nat=>D.int k)),a7,a8,a9,a10,a11,a12,a13,a14]
 have lp:=forR (f:=lA (aD (aF 1) aL)) (b:=bN 7) (g:=A9) (fun x:aw Dr×Sl×Sl×Sl×Sl×Sl×Sl×Sl×Sl=>T x.1 x.2.1 x.2.2.1 x.2.2.2.1 x.2.2.2.2.1 x.2.2.2.2.2.1 x.2.2.2.2.2.2.1 x.2.2.2.2.2.2.2.1 x.2.2.2.2.2.2.2.2) (fun i x=>x.1.length=i/\(∀ d∈x.1,Dok bs ne rs d)/\x.2.2.2.2.2.2.1.nb=true) n ([],.no,.no,.no,.no,.no,.no,.no,.no) (Jx rfl (by omega)) ⟨rfl,nofun,rfl⟩ fun i x _ Z=>by
  obtain⟨l,a7,a8,a9,a10,a11,a12,a13,a14⟩:=x;obtain⟨X,E,Q⟩:=Z
  replace X:l.length=i:=X
  replace E:∀ d∈l,Dok bs ne rs d:=E
  replace Q:a12.nb=true:=Q
  have ne0:0<ne:=h0.resolve_left (by omega);obtain⟨m,_,em⟩:=mix hs (k:=20+i) (t:=70) (by omega) (by omega);obtain⟨u,_,em2⟩:=mix hs (k:=20+i) (t:=71) (by omega) (by omega);obtain⟨p,_,em3⟩:=mix hs (k:=20+i) (t:=72) (by omega) (by omega)
  let I:Sl:=.fr (.int i)
  let M:Sl:=.fr (.int m)
  have kl:∀ ρ:aw Sl,aF 6 ρ = .ok (.fr (.lst (a.map fun k:Nat=>D.int k)))->dY cY (aD (aF 6) aL) ρ = .ok (.fr (.int a.length)):=fun ρ h=>by
   have:=JQ h (.inl rfl)
   rwa [fH]at this
  obtain⟨W,G,e1,hg⟩:∃(W:Str)(G:ax Nat),(∀ b:FS,aU (aW 9 (aK bF (eX (LQ [.s "to",.s "back",.s "stay"])) (aK bL (aF 8) (fC (.int 3)))))
   (aU (aW 10 (aK bL (aK cC (aF 8) (fC (.int 3))) (dY cY (aD (aF 2) aL))))
   (aU (eV (jK (aQ (aK (dJ false) (aF 9) (fC (.str "back")))) (aQ (aK (dJ false) (dY cY (aD (aF 6) aL)) (fC (.int 0)))))
   (aW 9 (fC (.str "to")))
   bJ)
   (aU (eV (aQ (aK (dJ false) (aF 9) (fC (.str "back"))))
   (aW 10 (aK bF (aF 6) (aK bL (aF 10) (dY cY (aD (aF 6) aL)))))
   bJ)
   (aU (eV (aQ (aK (dJ false) (aF 9) (fC (.str "stay"))))
   (aW 10 (fC .non))
   bJ) b)))) (T l I M a9 a10 a11 a12 a13 a14)=b (T l I M (.fr (.str W)) (.fr (nH G)) a11 a12 a13 a14))/\(W = "to" /\ (∃ g,G=some g/\g<rs.length)∨W = "back" /\ (∃ g r,G=some g/\rs[g]? = some r/\r.kp ≠ "")∨W = "stay" /\ G=none):=by
   have gl:m/3%rs.length<rs.length:=iA _ (by omega);have L:∀ w:Sl,aW 10 (aK bL (aK cC (aF 8) (fC (.int 3))) (dY cY (aD (aF 2) aL))) (T l I M w a10 a11 a12 a13 a14) = .ok (.nx (T l I M w (.fr (.int ((m/3%rs.length:Nat):Int))) a11 a12 a13 a14)):=fun w=>sS (fO (x:=.fr (.int ((m/3:Nat):Int))) rfl (JQ (l:=R) rfl (.inr rfl)) (by rw[N];exact vo (by omega)));have S:∀(q:Nat)(z:Str),m%3=q->bF (.lst [.str "to",.str "back",.str "stay"]) (.int (q:Nat)) = .ok (.fr (.str z))->aW 9 (aK bF (eX (LQ [.s "to",.s "back",.s "stay"])) (aK bL (aF 8) (fC (.int 3)))) (T l I M a9 a10 a11 a12 a13 a14) = .ok (.nx (T l I M (.fr (.str z)) a10 a11 a12 a13 a14)):=fun q z J hz=>sS (fO (Hm (ws:=[.fr (.str "to"),.fr (.str "back"),.fr (.str "stay")]) rfl rfl (hV rfl)) (y:=.fr (.int ((m%3:Nat):Int))) rfl (by rw[J];exact hz))
   have to_:∀ b:FS,(aU (eV (aQ (aK (dJ false) (aF 9) (fC (.str "back"))))
   (aW 10 (aK bF (aF 6) (aK bL (aF 10) (dY cY (aD (aF 6) aL)))))
   bJ)
   (aU (eV (aQ (aK (dJ false) (aF 9) (fC (.str "stay"))))
   (aW 10 (fC .non))
   bJ) b)) (T l I M (.fr (.str "to")) (.fr (.int ((m/3%rs.length:Nat):Int))) a11 a12 a13 a14)=b (T l I M (.fr (.str "to")) (.fr (.int ((m/3%rs.length:Nat):Int))) a11 a12 a13 a14):=fun b=>qF rfl (qF rfl rfl)
   have p:m%3=0∨m%3=1∨m%3=2:=by omega
   rcases p with w | w | w
   .exact⟨"to",some (m/3%rs.length),fun b=>qN (S 0 _ w rfl) (qN (L _) (qF rfl (to_ b))),.inl ⟨rfl,_,rfl,gl⟩⟩
   .by_cases k0:a.length=0
    .have t:jK (aQ (aK (dJ false) (aF 9) (fC (.str "back")))) (aQ (aK (dJ false) (dY cY (aD (aF 6) aL)) (fC (.int 0)))) (T l I M (.fr (.str "back")) (.fr (.int ((m/3%rs.length:Nat):Int))) a11 a12 a13 a14) = .ok (true&&decide (a.length=0)):=Uw rfl fun _=>tE (b:=0) (kl _ rfl) rfl;rw[bq k0]at t;exact⟨"to",some (m/3%rs.length),fun b=>qN (S 1 _ w rfl) (qN (L _) (qN (ρ':=T l I M (.fr (.str "to")) (.fr (.int ((m/3%rs.length:Nat):Int))) a11 a12 a13 a14) ((Hl t).trans rfl) (to_ b))),.inl ⟨rfl,_,rfl,gl⟩⟩
    .have t:jK (aQ (aK (dJ false) (aF 9) (fC (.str "back")))) (aQ (aK (dJ false) (dY cY (aD (aF 6) aL)) (fC (.int 0)))) (T l I M (.fr (.str "back")) (.fr (.int ((m/3%rs.length:Nat):Int))) a11 a12 a13 a14) = .ok (true&&decide (a.length=0)):=Uw rfl fun _=>tE (b:=0) (kl _ rfl) rfl;rw[bg k0]at t;have J:m/3%rs.length%a.length<a.length:=iA _ (by omega);obtain⟨r,O,hr⟩:=hk _ (TY J);refine⟨"back",some a[m/3%rs.length%a.length],fun b=>qN (S 1 _ w rfl) (qN (L _) (qF t (qN (ρ':=T l I M (.fr (.str "back")) (.fr (.int (a[m/3%rs.length%a.length]:Nat))) a11 a12 a13 a14) ((Hl rfl).trans (sS (fO (x:=.fr (.lst (a.map fun k:Nat=>D.int k))) (y:=.fr (.int ((m/3%rs.length%a.length:Nat):Int))) rfl (fO (x:=.fr (.int ((m/3%rs.length:Nat):Int))) rfl (kl _ rfl) (vo (by omega))) (zz (by rw[jf,wF J];rfl)).1))) (qF rfl rfl)))),.inr (.inl ⟨rfl,_,r,rfl,O,hr⟩)⟩
   .exact⟨"stay",none,fun b=>qN (S 2 _ w rfl) (qN (L _) (qF rfl (qF rfl (qN (ρ':=T l I M (.fr (.str "stay")) (.fr .non) a11 a12 a13 a14) ((Hl rfl).trans rfl) rfl)))),.inr (.inr ⟨rfl,rfl⟩)⟩
  let A:Sl:=.fr (.str W)
  let v:Sl:=.fr (nH G)
  obtain⟨g,eg,hgu⟩:=GX (nb:=bs.length) (nr:=rs.length) hs (k:=20+i) (by omega) (by omega) 5 (1+m/200%4) 3 (by omega) (by omega) (br (iF 5 (Nat.pow_le_pow_right (by decide) (show 1+m/200%4<=4 by omega))) (by decide))
  have s11:aW 11 (aP (bU (law_guard_F 5)) 6 (aD (aF 0) (aD (aK aa (fC (.int 20)) (aF 7)) (aD (fC (.int 3)) (aD (aK aa (fC (.int 1)) (aK bL (aK cC (aF 8) (fC (.int 200))) (fC (.int 4)))) (aD (dY cY (aD (aF 3) aL)) (aD (dY cY (aD (aF 2) aL)) aL))))))) (T l I M A v a11 a12 a13 a14) = .ok (.nx (T l I M A v (.fr g.d) a12 a13 a14)):=by
   refine sS (iQ (ws:=[.fr (.dZ s),.fr (.int ((20+i:Nat):Int)),.fr (.int 3),.fr (.int ((1+m/200%4:Nat):Int)),.fr (.int bs.length),.fr (.int rs.length)]) (dF (w:=.fr (.dZ s)) rfl (dF (w:=.fr (.int ((20+i:Nat):Int))) rfl (dF (w:=.fr (.int 3)) rfl (dF (w:=.fr (.int ((1+m/200%4:Nat):Int))) rfl (dF (w:=.fr (.int bs.length)) ?_ (dF (w:=.fr (.int rs.length)) ?_ rfl)))))) eg rfl (.inl rfl))
   .exact (JQ (l:=B) rfl (.inr rfl)).trans (by rw[bl])
   .exact (JQ (l:=R) rfl (.inr rfl)).trans (by rw[N])
  obtain⟨⟨C,o⟩,U,Y,F⟩:=forR (f:=lA (aD (aK bL (aK cC (aF 8) (fC (.int 800))) (fC (.int 3))) aL)) (b:=bN 12) (g:=aW 11 (dR (aD (fC (.str "not")) (aD (aF 11) aL)))) (fun x:Gu×Sl=>T l I M A v (.fr x.1.d) x.2 a13 a14) (fun j x=>x.1.Ok bs.length rs.length (1+m/200%4+j)/\x.2.nb=true) (m/800%3) (g,a12) (Jx (n:=m/800%3) rfl (by omega)) ⟨hgu,Q⟩ fun j x hj Z=>⟨_,(.neg x.1,.fr (.int j)),rfl,sS (xY (ws:=[.fr (.str "not"),.fr x.1.d]) rfl rfl (hV rfl)),Z.1,rfl⟩;obtain⟨dd,ed,hd⟩:=H (20+i) 80 (by omega) (by omega);have q1:u%rs.length<rs.length:=iA _ (by omega);have q2:p%ne<ne:=iA _ ne0
  let x:Dr:=⟨u%rs.length,p%ne,C,dd,W,G⟩
  have s8:=eE (i:=8) (em (aD (aF 0) (aD (aK aa (fC (.int 20)) (aF 7)) (aD (fC (.int 70)) aL))) (T l I a8 a9 a10 a11 a12 a13 a14) rfl) rfl;refine⟨_,(l++[x],I,M,A,v,.fr C.d,o,.fr (.int ((u%rs.length:Nat):Int)),.fr (.int ((p%ne:Nat):Int))),rfl,qN (ρ':=T l I M a9 a10 a11 a12 a13 a14) s8 ((e1 _).trans (qN s11 (qN U (qN (ρ':=T l I M A v (.fr C.d) o (.fr (.int ((u%rs.length:Nat):Int))) a14) (sS (fO (em2 _ _ rfl) (JQ (l:=R) rfl (.inr rfl)) (by rw[N];exact vo (by omega)))) (qN (ρ':=T l I M A v (.fr C.d) o (.fr (.int ((u%rs.length:Nat):Int))) (.fr (.int ((p%ne:Nat):Int)))) (sS (fO (em3 _ _ rfl) (y:=.fr (.int ne)) rfl (vo (by omega)))) ?_))))),?_,fun y hy=>?_,F⟩
  .refine (QQ (l:=l.map Dr.d) (w:=.fr x.d) rfl (xY (ws:=[.fr (.int ((u%rs.length:Nat):Int)),.fr (.int ((p%ne:Nat):Int)),.fr C.d,.fr (.tup (dd.map De.d)),.fr (.str W),.fr (nH G)]) (dF (w:=.fr (.int ((u%rs.length:Nat):Int))) rfl (dF (w:=.fr (.int ((p%ne:Nat):Int))) rfl (dF (w:=.fr C.d) rfl (dF (iQ (ws:=[.fr (.dZ s),.fr (.int ((20+i:Nat):Int)),.fr (.int 80),.fr (.tup B),.fr (.int ne)]) rfl ed rfl (.inl rfl)) rfl)))) rfl (hV rfl)) rfl (by rw[fH];omega) (by show (o.nb&&_)=true;rw[F];rfl)).trans ?_;rw[show l.map Dr.d++[x.d]=(l++[x]).map Dr.d by rw[vd];rfl];rfl
  .show (l++[x]).length=_;rw[jB,X];rfl
  .rcases rP.mp hy with q | q
   .exact E y q
   .rw[vf.mp q];exact⟨q1,q2,hg,Gu.up (by omega) Y,hd⟩
 obtain⟨⟨l,a7,a8,a9,a10,a11,a12,a13,a14⟩,e,h1,E,_⟩:=lp;refine⟨l,?_,h1,E⟩;show fin (Ca [.fr (.dZ s),.fr (.int n),.fr (.tup R),.fr (.tup B),.fr (.int ne),.no,.no,.no,.no,.no,.no,.no,.no,.no,.no])=_;refine sN (ρ':=[.fr (.dZ s),.fr (.int n),.fr (.tup R),.fr (.tup B),.fr (.int ne),.ow [],.no,.no,.no,.no,.no,.no,.no,.no,.no]) (FZ (l:=[]) (Hm (ws:=[]) rfl rfl (bb _))) (sN (ρ':=T [] .no .no .no .no .no .no .no .no) (eE (w:=.ow (a.map fun k:Nat=>D.int k)) ?_ rfl) (sN e (j9 (XR (w:=.bw (l.map Dr.d)) rfl (.inl rfl)) rfl)));unfold gQ;rw[Jx (n:=rs.length) ((JQ (l:=R) rfl (.inr rfl)).trans (by rw[N])) (by omega),pB,cq (by rw[fH,c4];exact zI (by omega))];show ((ig _ _ [.fr (.tup R)] _).bind _)=_;rw[ek];rfl
end
structure Ct where
 od:Str
 lt:Nat
 tn:Nat
 bs:List Bx
 es:List Str
 rs:List Rm
 ds:List Dr
def Ct.d(c:Ct):D:=.tup [.str c.od,.int c.lt,.int c.tn,.tup (c.bs.map Bx.d),.tup (c.es.map D.str),.tup (c.rs.map Rm.d),.tup (c.ds.map Dr.d)]
structure Ct.Ok(c:Ct):Prop where
 od:c.od = "inner" ∨ c.od = "outer"
 lt:c.lt<=12
 tn:1<=c.tn/\c.tn<=20
 bn:lD (c.bs.map Bx.nm)
 b6:c.bs.length<=6
 bz:∀ b∈c.bs,(1<=b.sz/\b.sz<=big)/\0<=b.st/\b.st<b.sz
 en:lD c.es
 e8:c.es.length<=8
 rn:lD (c.rs.map Rm.nm)
 r40:c.rs.length<=40
 rf:∀(i:Nat)(r:Rm),c.rs[i]? = some r->r.Ir (c.rs.take i)
 rd:∀ r∈c.rs,(r.ins.length<=8/\∀ e∈r.ins,e.Ok c.bs c.es.length)/\r.outs.length<=8/\∀ e∈r.outs,e.Ok c.bs c.es.length
 re:∃(rs':List Rm)(l:Rm),c.rs=rs'++[l]/\l.kd = "plain"
 d60:c.ds.length<=60
 df:∀ x∈c.ds,x.Ir c.bs c.es c.rs/\x.gu.Ok c.bs.length c.rs.length 6/\x.dd.length<=8/\∀ e∈x.dd,e.Ok c.bs c.es.length
def cB(b:Nat)(ws:aw Str):Str:=qJ.mk (List.replicate b 32++qJ.jc 32 (ws.map cd))
def Bx.row(b:Bx):Str:=cB 0 ["box",b.nm,cu b.sz,cu b.st]
def pX(k:Str)(nb es:aw Str)(e:De):Str:=cB 0 (k::e.ws nb es)
def Rm.rows(nb es:aw Str)(r:Rm):aw Str:=cB (2*r.dp) r.ws::(r.ins.flatMap (fun e=>[pX "in" nb es e])++r.outs.flatMap fun e=>[pX "out" nb es e])
def xj(nb nr:aw Str)(g:Gu):aw Str:=if g.isY=true then [] else [cB 0 ("when" :: g.ws nb nr)]
def Dr.rows(nb nr es:aw Str)(x:Dr):aw Str:=cB 0 (x.ws nr es)::(xj nb nr x.gu++x.dd.flatMap fun e=>[pX "do" nb es e])
def Ct.rows(c:Ct):aw Str:=cB 0 ["order",c.od]::cB 0 ["letters",cu c.lt]::cB 0 ["turns",cu c.tn]::(c.bs.flatMap (fun b=>[b.row])++(c.es.flatMap (fun e=>[cB 0 ["event",e]])++(c.rs.flatMap (Rm.rows (c.bs.map Bx.nm) c.es)++c.ds.flatMap (Dr.rows (c.bs.map Bx.nm) (c.rs.map Rm.nm) c.es))))
def qY{b:Nat}{ws:aw Str}(c:ws≠[])(f:ws.length<=130)(h:∀ w∈ws,Wd w):Rw b (cB b ws) ws:=⟨rfl,c,f,h⟩
def kw:∀ k∈[("order" : Str),"letters","turns","box","event","in","out","do","when","door","plain","one","all","keeps","lamp","near","deep","inner","outer","to","back","stay"],Wd k:=by ext y
def c7{k:Str}{ws:aw Str}(h:Wd k)(H:∀ w∈ws,Wd w):∀ w∈k::ws,Wd w:=fun w c=>(jL.mp c).elim (fun e=>by rw[e];exact h) (H w)
def iI:∀ w∈([]:aw Str),Wd w:=nofun
section
variable{C:ar}{hs:aw D}{bs:aw Bx}{es:aw Str}{rs:aw Rm}{ds:aw Dr}{la:Str}
def Og(H:Wd k)(c:lD (bs.map Bx.nm))(i:lD es)(h:e.Ok bs es.length):Rw 0 (pX k (bs.map Bx.nm) es e) (k::e.ws (bs.map Bx.nm) es):=
 qY (by simp) (by have:=De.few (bs.map Bx.nm) es e;rw[List.length_cons];omega) (c7 H (De.wd c i h))
def Bx.rw{b:Bx}(h:Wo b.nm)(H:(1<=b.sz/\b.sz<=big)/\0<=b.st/\b.st<b.sz):Rw 0 b.row ["box",b.nm,cu b.sz,cu b.st]:=
 qY (by simp) (by show 4<=130;decide) (c7 (kw _ (by simp)) (c7 h.wd (c7 (gY (j4 ⟨by unfold big;omega,H.1.2⟩)) (c7 (gY (j4 ⟨by unfold big;omega,by omega⟩)) iI))))
def Rm.rw{r:Rm}{rs:aw Rm}(h:r.Ir rs):Rw (2*r.dp) (cB (2*r.dp) r.ws) r.ws:=by
 have k:∀ m z:Str,m = "keeps" ∨ m = "lamp" -> (z = "" ∨ Wd z)->(Df m z).length<=2/\∀ w∈Df m z,Wd w:=fun m z d H=>by
  unfold Df
  by_cases e:z = ""
  .rw[cq e];exact⟨by simp,iI⟩
  .rw[cn e];exact⟨hZ _,c7 (by rcases d with rfl | rfl <;> exact kw _ (by simp)) (c7 (H.resolve_left e) iI)⟩
 have b:=k "keeps" r.kp (.inl rfl) (by rcases h.kp with e | ⟨e,_⟩ | ⟨e,_⟩ <;> rw[e];exact .inl rfl;exact .inr (kw _ (by simp));exact .inr (kw _ (by simp)));have a:=k "lamp" r.lp (.inr rfl) (h.lp.imp id Wo.wd)
 have q:Wd r.kd:=by
  have:=h.kd;unfold rG at this;rw[eK]at this
  have m:r.kd = "plain" ∨ r.kd = "one" ∨ r.kd = "all" := by simpa using this
  rcases m with e | e | e <;> rw[e] <;> exact kw _ (by simp)
 exact qY (by simp [Rm.ws]) (by unfold Rm.ws;rw[fA,fA];exact br (Nat.add_le_add_left (Nat.add_le_add b.1 a.1) _) (hV rfl)) (c7 q (c7 h.wo.wd fun w (c:w∈Df "keeps" r.kp++Df "lamp" r.lp)=>(List.mem_append.mp c).elim (b.2 w) (a.2 w)))
def Dr.rw{x:Dr}(hr:lD (rs.map Rm.nm))(a:lD es)(h:x.Ir bs es rs):Rw 0 (cB 0 (x.ws (rs.map Rm.nm) es)) (x.ws (rs.map Rm.nm) es):=by
 have n:∀(ns:aw Str)(N:lD ns)(i:Nat),i<ns.length->Wd (ns.getD i ""):=fun ns N i H=>(N.wo _ (Jb (jt H))).wd
 have w:∀ l:aw Str,l.length<=1->(∀ w∈l,Wd w)->Wd x.way->Rw 0 (cB 0 ([("door" : Str),(rs.map Rm.nm).getD x.rm "",es.getD x.ev "",x.way]++l)) ([("door" : Str),(rs.map Rm.nm).getD x.rm "",es.getD x.ev "",x.way]++l):=fun l _ c T=>
  qY (by simp) (by rw[List.length_append];simp only[List.length_cons,List.length_nil];omega) (c7 (kw _ (by simp)) (c7 (n _ hr _ (by rw[List.length_map];exact h.rm)) (c7 (n _ a _ h.ev) (c7 T c))))
 unfold Dr.ws;rcases h.go with ⟨e,g,E,Q⟩ | ⟨e,g,r,E,b,_⟩ | ⟨e,E⟩ <;> rw[E]
 .exact w _ (hZ _) (c7 (n _ hr _ (by rw[fF];exact Q)) iI) (by rw[e];exact kw _ (by simp))
 .exact w _ (hZ _) (c7 (n _ hr _ (by rw[fF];exact (List.getElem?_eq_some_iff.mp b).1)) iI) (by rw[e];exact kw _ (by simp))
 .exact w _ (bb _) iI (by rw[e];exact kw _ (by simp))
def RV{g:Gu}(c:lD (bs.map Bx.nm))(hr:lD (rs.map Rm.nm))(h:g.Ok bs.length rs.length 6):Rw 0 (cB 0 ("when" :: g.ws (bs.map Bx.nm) (rs.map Rm.nm))) ("when" :: g.ws (bs.map Bx.nm) (rs.map Rm.nm)):=by have f:=Gu.few (bs.map Bx.nm) (rs.map Rm.nm) h;exact qY (by simp) (by rw[List.length_cons];omega) (c7 (kw _ (by simp)) (Gu.wd c hr 6 g (by rw[List.length_map,List.length_map];exact h)))
theorem blocks{α:Type}(S:Str->aw α->So)(rows:α->aw Str)(Q R:Str->Prop)(P:aw α->α->Prop)(step:∀ la p a,Q la∨R la->P p a->∃ B,R B/\Goes C (S la p) (rows a) (S B (p++[a]))):∀ l p la,Q la∨R la->(∀ i a,l[i]? = some a->P (p++l.take i) a)->∃ B,(l=[]/\B=la∨R B)/\Goes C (S la p) (l.flatMap rows) (S B (p++l))
 | [],p,la,_,_=>⟨la,.inl ⟨rfl,rfl⟩,by rw[qH];rfl⟩
 | a::l,p,la,q,h=>by
  obtain⟨L,r,g⟩:=step la p a q (by have:=h 0 a rfl;rwa [List.take_zero,qH]at this)
  obtain⟨d,c,G⟩:=blocks S rows Q R P step l (p++[a]) L (.inr r) fun i b H=>by
   have:=h (i+1) b H
   rwa [List.take_succ_cons,show p++a::l.take i=(p++[a])++l.take i by simp]at this
  refine⟨d,.inr (c.elim (fun e=>by rw[e.2];exact r) id),?_⟩;rw[List.flatMap_cons,show p++a::l=(p++[a])++l by simp];exact g.app G
def K6{s s':So}{row:Str}(h:mD C s.m [.str row] = .ok (s'.m,.non)):Goes C s [row] s':=Goes.cons h rfl
def Xo(l:aw Bx)(d:lD (l.map Bx.nm))(o:l.length<=6)(H:∀ b∈l,(1<=b.sz/\b.sz<=big)/\0<=b.st/\b.st<b.sz):∃ B,B∈[("turns" : Str),"box"]/\Goes C ⟨"turns",hs,[],es,rs,ds⟩ (l.flatMap fun b=>[b.row]) ⟨B,hs,l,es,rs,ds⟩:=by
 have ok:∀ la∈[("turns" : Str),"box"],Ej la "box" = true:=by ext y
 obtain⟨B,r,g⟩:=blocks (C:=C) (fun la p=>⟨la,hs,p,es,rs,ds⟩) (fun b:Bx=>[b.row]) (· = "turns") (· = "box") (fun p b=>p.length<6/\Wo b.nm/\b.nm∉p.map Bx.nm/\b∈l) (fun la p b q ⟨k,a,f,h⟩=>⟨"box",rfl,K6 (qA6 (s:=⟨la,hs,p,es,rs,ds⟩) (Bx.rw a (H b h)) ⟨a,f,(H b h).1,(H b h).2⟩ (ok _ (by rcases q with rfl | rfl <;> simp)) k)⟩) l [] "turns" (.inl rfl) fun i b c=>by
  have n:=(rO.mp c).1;refine⟨by rw[gL,pF];omega,d.wo _ (rA.mpr ⟨b,Jb c,rfl⟩),fun m=>?_,Jb c⟩;rw[gL,List.map_take]at m;obtain⟨j,J,e⟩:=gx.mp m;rw[pF]at J;rw[fv]at e;exact gX.mp d.nd j i (by omega) (by rw[fH];exact n) (by omega) (by rw[e,List.getElem_map,(rO.mp c).2])
 exact⟨B,by rcases r with ⟨_,rfl⟩ | rfl <;> simp,g⟩
def Uy(l:aw Str)(d:lD l)(n:l.length<=8)(f:la∈[("turns" : Str),"box"]):∃ B,B∈[("turns" : Str),"box","event"]/\Goes C ⟨la,hs,bs,[],rs,ds⟩ (l.flatMap fun e=>[cB 0 ["event",e]]) ⟨B,hs,bs,l,rs,ds⟩:=by
 have ok:∀ la∈[("turns" : Str),"box","event"],Ej la "event" = true:=by ext y
 obtain⟨B,r,g⟩:=blocks (C:=C) (fun la p=>⟨la,hs,bs,p,rs,ds⟩) (fun e:Str=>[cB 0 ["event",e]]) (· ∈ [("turns" : Str),"box"]) (· = "event") (fun p e=>p.length<8/\Wo e/\e∉p) (fun la p e q ⟨k,H,a⟩=>⟨"event",rfl,K6 (V7 (s:=⟨la,hs,bs,p,rs,ds⟩) (qY (by simp) (by show 2<=130;decide) (c7 (kw _ (by simp)) (c7 H.wd iI))) H a (ok _ (by rcases q with q | rfl;exact gc _ q;simp)) k)⟩) l [] la (.inl f) fun i b c=>by
  have h:=(rO.mp c).1;refine⟨by rw[gL,pF];omega,d.wo _ (Jb c),fun m=>?_⟩;rw[gL]at m;obtain⟨j,J,e⟩:=gx.mp m;rw[pF]at J;rw[fv]at e;exact gX.mp d.nd j i (by omega) h (by omega) (by rw[e,(rO.mp c).2])
 exact⟨B,by rcases r with ⟨_,rfl⟩ | rfl;exact gc _ f;simp,g⟩
def HH(S:Str->aw De->So)(Q:aw Str)(c:lD (bs.map Bx.nm))(m:lD es)(a:Wd k)(h:∀ la∈k::Q,Ej la k=true)(l:aw De)(o:l.length<=8)(j:∀ e∈l,e.Ok bs es.length)
  (step:∀ la p e,Ej la k=true->p.length<8->e.Ok bs es.length->Rw 0 (pX k (bs.map Bx.nm) es e) (k::e.ws (bs.map Bx.nm) es)->mD C (S la p).m [.str (pX k (bs.map Bx.nm) es e)] = .ok ((S k (p++[e])).m,.non)) (f:la∈Q):∃ B,B∈k::Q/\Goes C (S la []) (l.flatMap fun e=>[pX k (bs.map Bx.nm) es e]) (S B l):=by
 obtain⟨B,r,g⟩:=blocks (C:=C) S (fun e:De=>[pX k (bs.map Bx.nm) es e]) (· ∈ Q) (· = k) (fun p e=>p.length<8/\e∈l) (fun la p e q ⟨d,H⟩=>⟨k,rfl,K6 (step la p e (h _ (by rcases q with q | rfl;exact rM _ q;exact qK)) d (j e H) (Og a c m (j e H)))⟩) l [] la (.inl f) fun i b c=>by
  have n:=(rO.mp c).1;exact⟨by rw[gL,pF];omega,Jb c⟩
 exact⟨B,by rcases r with ⟨_,rfl⟩ | rfl;exact rM _ f;exact qK,g⟩
def Ct.hd(c:Ct):aw D:=[.str c.od,.int c.lt,.int c.tn]
def Yn{p:aw Rm}{r:Rm}(c:lD (bs.map Bx.nm))(i:lD es)(f:r.Ir p)(a:p.length<40)(hd:(r.ins.length<=8/\∀ e∈r.ins,e.Ok bs es.length)/\r.outs.length<=8/\∀ e∈r.outs,e.Ok bs es.length)(m:Ej la "room" = true):∃ B,B∈[("out" : Str),"in","room"]/\Goes C ⟨la,hs,bs,es,p,ds⟩ (r.rows (bs.map Bx.nm) es) ⟨B,hs,bs,es,p++[r],ds⟩:=by have g:=Y4 (C:=C) (s:=⟨la,hs,bs,es,p,ds⟩) (Rm.rw f) f m a;obtain⟨_,Q,G⟩:=HH (C:=C) (k := "in") (fun la q=>⟨la,hs,bs,es,p++[⟨r.nm,r.kd,r.dp,r.kp,r.lp,q,[]⟩],ds⟩) ["room"] c i (kw _ (by simp)) (by ext y) r.ins hd.1.1 hd.1.2 (fun la q e b d H h=>qCY (s:=⟨la,hs,bs,es,p++[⟨r.nm,r.kd,r.dp,r.kp,r.lp,q,[]⟩],ds⟩) (r:=⟨r.nm,r.kd,r.dp,r.kp,r.lp,q,[]⟩) c i H h b rfl d) (la := "room") (by simp);obtain⟨L,j,l⟩:=HH (C:=C) (k := "out") (fun la q=>⟨la,hs,bs,es,p++[{ r with outs:=q }],ds⟩) ["in","room"] c i (kw _ (by simp)) (by ext y) r.outs hd.2.1 hd.2.2 (fun la q e b d H h=>qA5 (s:=⟨la,hs,bs,es,p++[{ r with outs:=q }],ds⟩) (r:={ r with outs:=q }) c i H h b rfl d) Q;exact⟨L,j,Goes.cons g (Goes.app G l)⟩
theorem Zj{p:aw Dr}{x:Dr}(c:lD (bs.map Bx.nm))(i:lD es)(hr:lD (rs.map Rm.nm))(H:x.Ir bs es rs)(Q:x.gu.Ok bs.length rs.length 6)(h:p.length<60)(j:x.dd.length<=8)(hd:∀ e∈x.dd,e.Ok bs es.length)(f:Ej la "door" = true){R:aw Rm}{l:Rm}(e:rs=R++[l])(m:l.kd = "plain"):∃ B,B∈[("do" : Str),"door","when"]/\Goes C ⟨la,hs,bs,es,rs,p⟩ (x.rows (bs.map Bx.nm) (rs.map Rm.nm) es) ⟨B,hs,bs,es,rs,p++[x]⟩:=by
 have g:=Y5 (C:=C) (s:=⟨la,hs,bs,es,rs,p⟩) hr i (Dr.rw hr i H) H h f e m
 obtain⟨P,q1,g1⟩:∃ P,P∈[("door" : Str),"when"]/\Goes C ⟨"door",hs,bs,es,rs,p++[x.bare]⟩ (xj (bs.map Bx.nm) (rs.map Rm.nm) x.gu) ⟨P,hs,bs,es,rs,p++[{ x with dd:=[] }]⟩:=by
  unfold xj
  cases T:x.gu.isY with
  | true=>
   have:x.gu = .yes:=by
    revert T
    cases x.gu <;> intro T <;> first | rfl | cases T
   have E:x.bare = { x with dd:=[] }:=by
    unfold Dr.bare;rw[<-this]
   rw[cq rfl,E];exact⟨"door",by simp,rfl⟩
  | false=>
   rw[cn xf];exact⟨"when",by simp,K6 (Y0 (s:=⟨"door",hs,bs,es,rs,p++[x.bare]⟩) (x:=x.bare) c hr Q T (RV c hr Q) (show Ej "door" "when" = true by ext y) rfl)⟩
 obtain⟨L,b,G⟩:=HH (C:=C) (k := "do") (fun la q=>⟨la,hs,bs,es,rs,p++[{ x with dd:=q }]⟩) ["door","when"] c i (kw _ (by simp)) (by ext y) x.dd j hd (fun la q e d n o a=>qCZ (s:=⟨la,hs,bs,es,rs,p++[{ x with dd:=q }]⟩) (x:={ x with dd:=q }) c i o a d rfl n) q1;exact⟨L,b,Goes.cons g (Goes.app g1 G)⟩
def Aw{n:Nat}(h:n<=20):(n:Int).natAbs<10 ^ 31:=by
 have:(20:Nat)<10 ^ 31:=by decide
 omega
def Xk{c:Ct}(h:c.Ok):∃ la,Goes C ⟨"",[],[],[],[],[]⟩ c.rows ⟨la,c.hd,c.bs,c.es,c.rs,c.ds⟩:=by
 have W:∀ {a b:Str},Wd a->Wd b->Rw 0 (cB 0 [a,b]) [a,b]:=fun H d=>qY (by simp) (Nat.le_of_ble_eq_true rfl) (c7 H (c7 d iI));have B:=Hd (C:=C) (s:=⟨"",[],[],[],[],[]⟩) (.inl rfl) (W (kw _ (by simp)) (by rcases h.od with e | e <;> rw[e] <;> exact kw _ (by simp))) (Qu h.od) (show Ej "" "order" = true by ext y) (Nat.zero_le _);have I:=Hd (C:=C) (s:=⟨"order",[.str c.od],[],[],[],[]⟩) (.inr (.inl rfl)) (W (kw _ (by simp)) (gY (Aw (by have:=h.lt;omega)))) (O1 (.inl ⟨rfl,h.lt⟩)) (show Ej "order" "letters" = true by ext y) (hV rfl);have M:=Hd (C:=C) (s:=⟨"letters",[.str c.od,.int c.lt],[],[],[],[]⟩) (.inr (.inr rfl)) (W (kw _ (by simp)) (gY (Aw (by have:=h.tn;omega)))) (O1 (.inr ⟨rfl,h.tn⟩)) (show Ej "letters" "turns" = true by ext y) (hV rfl);obtain⟨_,N,g⟩:=Xo (C:=C) (hs:=c.hd) (es:=[]) (rs:=[]) (ds:=[]) c.bs h.bn h.b6 h.bz;obtain⟨t,j,w⟩:=Uy (C:=C) (hs:=c.hd) (bs:=c.bs) (rs:=[]) (ds:=[]) c.es h.en h.e8 N
 have A:∀ la∈[("turns" : Str),"box","event"]++[("out" : Str),"in","room"],Ej la "room" = true:=by ext y
 obtain⟨L,Q,u⟩:=blocks (C:=C) (fun la p=>⟨la,c.hd,c.bs,c.es,p,[]⟩) (Rm.rows (c.bs.map Bx.nm) c.es) (· ∈ [("turns" : Str),"box","event"]) (· ∈ [("out" : Str),"in","room"]) (fun p r=>p.length<40/\r.Ir p/\r∈c.rs) (fun la p r q ⟨H,d,D⟩=>Yn h.bn h.en d H (h.rd r D) (A _ (rP.mpr q))) c.rs [] t (.inl j) fun i r hr=>by
  have J:=(rO.mp hr).1;have:=h.r40;exact⟨by rw[gL,pF];omega,h.rf i r hr,Jb hr⟩
 obtain⟨_,l,E,y⟩:=h.re
 replace Q:L∈[("out" : Str),"in","room"]:=Q.resolve_left fun z=>by rw[z.1]at E;simp at E
 have k:∀ la∈[("out" : Str),"in","room"]++[("do" : Str),"door","when"],Ej la "door" = true:=by ext y
 obtain⟨o,_,G⟩:=blocks (C:=C) (fun la p=>⟨la,c.hd,c.bs,c.es,c.rs,p⟩) (Dr.rows (c.bs.map Bx.nm) (c.rs.map Rm.nm) c.es) (· ∈ [("out" : Str),"in","room"]) (· ∈ [("do" : Str),"door","when"]) (fun p x=>p.length<60/\x∈c.ds) (fun la p x q ⟨H,d⟩=>by
  obtain⟨F,n,m,v⟩:=h.df x d
  exact Zj h.bn h.en h.rn F n H m v (k _ (rP.mpr q)) E y) c.ds [] L (.inl Q) fun i x f=>by
  have J:=(rO.mp f).1;have:=h.d60;exact⟨by rw[gL,pF];omega,Jb f⟩
 exact⟨o,Goes.cons B (Goes.cons I (Goes.cons M (g.app (w.app (u.app G)))))⟩
theorem GC{α:Type}(f:α->D)(h:∀ x,(f x).nl=true):∀ l:aw α,Qo (l.map f)=true
 | []=>rfl
 | x::l=>by
  show ((f x).nl&&Qo (l.map f))=true;rw[h,GC f h l];rfl
theorem qCQ{c:Ct}(h:c.Ok):Xa C (So.m ⟨la,c.hd,c.bs,c.es,c.rs,c.ds⟩) = .ok c.d:=by
 obtain⟨_,l,i,k⟩:=h.re;have v:∀ r:aw Sl,aF 0 (.fr (.obj C (So.v ⟨la,c.hd,c.bs,c.es,c.rs,c.ds⟩))::r) = .ok (.fr (.obj C (So.v ⟨la,c.hd,c.bs,c.es,c.rs,c.ds⟩))):=fun _=>rfl
 have w:o9 C [.obj C (So.v ⟨la,c.hd,c.bs,c.es,c.rs,c.ds⟩)] = .ok c.d:=by
  show fin (Sq C [.fr (.obj C (So.v ⟨la,c.hd,c.bs,c.es,c.rs,c.ds⟩)),.no])=_;exact sN (eE (xY (l:=[.tup (c.bs.map Bx.d),.tup (c.es.map D.str),.tup (c.rs.map Rm.d),.tup (c.ds.map Dr.d)]) (dF (XR (R3 (v _) rfl) (.inl rfl)) (dF (XR (R3 (v _) rfl) (.inl rfl)) (dF (XR (R3 (v _) rfl) (.inl rfl)) (dF (XR (R3 (v _) rfl) (.inl rfl)) rfl)))) rfl (hV rfl)) rfl) (j9 (fO (XR (l:=c.hd) (R3 (v _) rfl) (.inl rfl)) (y:=.fr (.tup [.tup (c.bs.map Bx.d),.tup (c.es.map D.str),.tup (c.rs.map Rm.d),.tup (c.ds.map Dr.d)])) rfl (Dw (hV rfl))) rfl)
 have n:c.d.nl=true:=by
  show (true&&(true&&(true&&(Qo (c.bs.map Bx.d)&&(Qo (c.es.map D.str)&&(Qo (c.rs.map Rm.d)&&(Qo (c.ds.map Dr.d)&&true)))))))=true;rw[GC _ fun _=>rfl,GC _ fun _=>rfl,GC _ Rm.nl,GC _ Dr.nl];rfl
 have m:=GD (C:=C) (s:=⟨la,c.hd,c.bs,c.es,c.rs,c.ds⟩) i k
 show (if _ then (match iu C [.obj C (So.v ⟨la,c.hd,c.bs,c.es,c.rs,c.ds⟩)] with
  | .ok (.bl true)=>(match o9 C [.obj C (So.v ⟨la,c.hd,c.bs,c.es,c.rs,c.ds⟩)] with | .ok d=>if d.nl=true then Rz.ok d else .st | _=>.st)
  | _=>.st) else .st)=_
 rw[cq ⟨rfl,rfl⟩,m];show (match o9 C [.obj C (So.v ⟨la,c.hd,c.bs,c.es,c.rs,c.ds⟩)] with | .ok d=>if d.nl=true then Rz.ok d else .st | _=>.st)=_;rw[w];show (if c.d.nl=true then _ else _)=_;rw[cq n]
def Rg(row:Str):Prop:=(cd row).length<=5430/\10∉cd row
def Rw.rg{b:Nat}{row:Str}{ws:aw Str}(h:Rw b row ws)(c:b<=100):Rg row:=⟨by have:=h.len;rw[bI]at this;omega,h.nl⟩
theorem vV{α:Type}(f:α->aw Str)(k:Nat):∀ l:aw α,(∀ x∈l,(f x).length<=k/\∀ y∈f x,Rg y)->(l.flatMap f).length<=k*l.length/\∀ y∈l.flatMap f,Rg y
 | [],_=>⟨bb _,nofun⟩
 | x::l,h=>by
  obtain⟨_,H⟩:=h x qK;obtain⟨_,c⟩:=vV f k l fun y T=>h y (rM _ T);rw[fg];refine⟨by rw[jB,gH,Nat.mul_succ];omega,fun y T=>(rP.mp T).elim (H y) (c y)⟩
def Hb{a b:aw Str}{m n:Nat}(h:a.length<=m/\∀ y∈a,Rg y)(H:b.length<=n/\∀ y∈b,Rg y):(a++b).length<=m+n/\∀ y∈a++b,Rg y:=⟨by rw[jB];omega,fun y T=>(rP.mp T).elim (h.2 y) (H.2 y)⟩
def oY{a:Str}{b:aw Str}{n:Nat}(h:Rg a)(H:b.length<=n/\∀ y∈b,Rg y):(a::b).length<=n+1/\∀ y∈a::b,Rg y:=⟨by rw[gH];omega,fun y T=>(jL.mp T).elim (fun e=>by rw[e];exact h) (H.2 y)⟩
def nil_le:([]:aw Str).length<=0/\∀ y∈([]:aw Str),Rg y:=⟨jC _,nofun⟩
def qAV{a:aw Str}{m n:Nat}(c:m<=n)(h:a.length<=m/\∀ y∈a,Rg y):a.length<=n/\∀ y∈a,Rg y:=⟨br h.1 c,h.2⟩
def Rj{c:Ct}(h:c.Ok):c.rows.length<=1400/\∀ y∈c.rows,Rg y:=by
 have W:∀ {a b:Str},Wd a->Wd b->Rg (cB 0 [a,b]):=fun s t=>(qY (b:=0) (by simp) (Nat.le_of_ble_eq_true rfl) (c7 s (c7 t iI))).rg (by decide);have D:∀(k:Str)(l:aw De),Wd k->(l.length<=8/\∀ e∈l,e.Ok c.bs c.es.length)->(l.flatMap fun e=>[pX k (c.bs.map Bx.nm) c.es e]).length<=8/\∀ y∈l.flatMap fun e=>[pX k (c.bs.map Bx.nm) c.es e],Rg y:=fun k l p j=>qAV (by have:=j.1;omega) (vV _ 1 l fun e H=>oY ((Og p h.bn h.en (j.2 e H)).rg (by decide)) nil_le);have b:=vV (fun b:Bx=>[b.row]) 1 c.bs fun b g=>oY ((Bx.rw (h.bn.wo _ (rA.mpr ⟨b,g,rfl⟩)) (h.bz b g)).rg (by decide)) nil_le;have e:=vV (fun e:Str=>[cB 0 ["event",e]]) 1 c.es fun e H=>oY (W (kw _ (by simp)) (h.en.wo e H).wd) nil_le
 have r:=vV (Rm.rows (c.bs.map Bx.nm) c.es) 17 c.rs fun r hr=>by
  obtain⟨i,q⟩:=gy.mp hr;have f:=h.rf i r q;exact oY ((Rm.rw f).rg (by have:=f.low;omega)) (Hb (D "in" r.ins (kw _ (by simp)) (h.rd r hr).1) (D "out" r.outs (kw _ (by simp)) (h.rd r hr).2))
 have d:=vV (Dr.rows (c.bs.map Bx.nm) (c.rs.map Rm.nm) c.es) 10 c.ds fun x n=>by
  obtain⟨o,L,F⟩:=h.df x n;refine oY ((Dr.rw h.rn h.en o).rg (by decide)) (Hb (m:=1) ?_ (D "do" x.dd (kw _ (by simp)) F));unfold xj
  split
  .exact⟨bb _,nofun⟩
  .exact oY ((RV h.bn h.rn L).rg (by decide)) nil_le
 have:=h.b6;have:=h.e8;have:=h.r40;have:=h.d60;refine qAV ?_ (oY (W (kw _ (by simp)) (by rcases h.od with e | e <;> rw[e] <;> exact kw _ (by simp))) (oY (W (kw _ (by simp)) (gY (Aw (by have:=h.lt;omega)))) (oY (W (kw _ (by simp)) (gY (Aw (by have:=h.tn;omega)))) (Hb b (Hb e (Hb r d))))));omega
theorem join_le{rows:aw Str}(h:rows.length<=1400/\∀ y∈rows,Rg y):(Txt.join "\n" rows).length<=sizeLine:=by
 rw[bI,show cd (Txt.join "\n" rows)=_ from qJ.join_list (c:=10) (by ext y) rows]
 have:∀ l:aw (aw Nat),(∀ x∈l,x.length<=5430)->(qJ.jc 10 l).length<=5431*l.length:=fun l f=>by
  cases l with
  | nil=>exact jC _
  | cons x l=>
   have q:∀ l:aw (aw Nat),(∀ x∈l,x.length<=5430)->(l.flatMap fun v=>10::v).length<=5431*l.length:=fun l=>by
    induction l with
    | nil=>exact fun _=>jC _
    | cons y l I=>
     intro h;have a:=h y qK;have d:=I fun z b=>h z (rM _ b);rw[fg,jB,gH,gH];omega
   have a:=f x qK;have d:=q l fun z b=>f z (rM _ b);show (x++_).length<=_;rw[jB,gH];omega
 have t:=this (rows.map fun z=>z.cps.toList) fun x H=>by
  obtain⟨y,T,rfl⟩:=rA.mp H;exact (h.2 y T).1
 rw[fH]at t;have:=h.1;exact le_size (by omega)
def Yt{c:Ct}(h:c.Ok):tZ C [.str (Txt.join "\n" c.rows)] = .ok c.d:=by have hr:=Rj h;have sp:Txt.split (Txt.join "\n" c.rows) "\n" = c.rows:=qJ.Vp (by unfold Ct.rows;simp) fun y T=>(hr.2 y T).2;obtain⟨la,g⟩:=Xk (C:=C) h;have g':qj C (c.rows.map D.str) ZS = .ok (So.m ⟨la,c.hd,c.bs,c.es,c.rs,c.ds⟩):=g;show (match Mm C (Txt.join "\n" c.rows) with | .ok d=>Rz.ok d | _=>.st)=_;unfold Mm;rw[sp,cq ⟨join_le hr,le_size (by have:=hr.1;omega)⟩,g'];show (match Xa C (So.m ⟨la,c.hd,c.bs,c.es,c.rs,c.ds⟩) with | .ok d=>Rz.ok d | _=>.st)=_;rw[qCQ h]
end
structure Pre(c:Ct):Prop where
 od:c.od = "inner" ∨ c.od = "outer"
 lt:c.lt<=12
 tn:1<=c.tn/\c.tn<=20
 b6:c.bs.length<=6
 bz:∀ b∈c.bs,(1<=b.sz/\b.sz<=big)/\0<=b.st/\b.st<b.sz
 e8:c.es.length<=8
 r40:1<=c.rs.length/\c.rs.length<=40
 rf:∃ dl,dl.length=c.rs.length/\Dps dl/\∀ j r,c.rs[j]? = some r->Rok dl c.bs c.es.length j r
 d60:c.ds.length<=60
 df:∀ x∈c.ds,Dok c.bs c.es.length c.rs x
theorem Pre.ok(h:Pre c)(H:lD (c.bs.map Bx.nm))(t:lD c.es)(hr:lD (c.rs.map Rm.nm)):c.Ok:=by
 obtain⟨dl,F,D,R⟩:=h.rf
 have k:∀ {j r},Rok dl c.bs c.es.length j r->rG r.kd=true/\(r.kp = "" ∨ r.kp = "near" /\ r.kd = "one" ∨ r.kp = "deep" /\ (r.kd = "one" ∨ r.kd = "all"))/\(r.kd = "plain" ↔ ¬ Up dl j):=fun {j r} q=>by
  have N:¬ ("one" : Str) = "plain" := by ext y
  have o:¬ ("all" : Str) = "plain" := by ext y
  rcases q.kd with ⟨a,b,c⟩ | ⟨a,⟨b,c | c | c⟩ | ⟨b,c | c⟩⟩ <;> rw[b,c]
  .exact⟨rfl,.inl rfl,fun _=>a,fun _=>rfl⟩
  .exact⟨rfl,.inl rfl,fun z=>(N z).elim,fun z=>(z a).elim⟩
  .exact⟨rfl,.inr (.inl ⟨rfl,rfl⟩),fun z=>(N z).elim,fun z=>(z a).elim⟩
  .exact⟨rfl,.inr (.inr ⟨rfl,.inl rfl⟩),fun z=>(N z).elim,fun z=>(z a).elim⟩
  .exact⟨rfl,.inl rfl,fun z=>(o z).elim,fun z=>(z a).elim⟩
  .exact⟨rfl,.inr (.inr ⟨rfl,.inr rfl⟩),fun z=>(o z).elim,fun z=>(z a).elim⟩
 refine⟨h.od,h.lt,h.tn,H,h.b6,h.bz,t,h.e8,hr,h.r40.2,fun i r g=>?_,fun r A=>?_,?_,h.d60,fun x v=>?_⟩
 .have q:=R i r g;obtain⟨y,s,_⟩:=k q;have I:=(rO.mp g).1
  have P:∀ l,(c.rs.take i).getLast? = some l->∃ j,i=j+1/\c.rs[j]? = some l:=fun l f=>by
   rw[List.getLast?_eq_getElem?,pF,ip (by omega)]at f;have:=(rO.mp f).1;rw[pF]at this;refine⟨i-1,by omega,?_⟩
   rwa [List.getElem?_take_of_lt (by omega)]at f
  refine⟨hr.wo _ (rA.mpr ⟨r,Jb g,rfl⟩),fun m=>?_,y,fun e=>?_,fun l f=>?_,?_,s,q.lp⟩
  .rw[List.map_take]at m;obtain⟨j,J,e⟩:=gx.mp m;rw[pF]at J;rw[fv]at e;exact gX.mp hr.nd j i (by omega) (by rw[fH];exact I) (by omega) (by rw[e,List.getElem_map,(rO.mp g).2])
  .have:i=0:=by
    have:=congrArg List.length e;rw[pF,List.length_nil]at this;omega
   subst this;have:=q.dp;rw[D.z]at this;exact (Jc this).symm
  .obtain⟨j,rfl,J⟩:=P l f;have p:=R j l J;have:=D.s j l.dp r.dp p.dp q.dp;refine⟨by omega,by omega,(k p).2.2.trans ⟨fun u=>?_,fun u w=>?_⟩⟩
   .exact Nat.le_of_not_lt fun z=>u ⟨_,_,p.dp,q.dp,z⟩
   .obtain⟨a,b,n,H,_⟩:=w;rw[p.dp]at n;rw[q.dp]at H
    cases n
    cases H
    omega
  .cases i with
   | zero=>have:=q.dp;rw[D.z]at this;have:=Jc this;omega
   | succ j=>
    obtain⟨l,f⟩:∃ l,c.rs[j]? = some l:=⟨_,wF (by omega)⟩;have:=D.s j l.dp r.dp (R j l f).dp q.dp;omega
 .obtain⟨j,J⟩:=gy.mp A;exact⟨(R j r J).i8,(R j r J).o8⟩
 .rcases eS c.rs with e | ⟨d,l,e⟩
  .have:=h.r40.1;rw[e]at this;cases this
  .rw[eI]at e;refine⟨d,l,e,(k (R d.length l (by rw[e];simp))).2.2.mpr fun ⟨a,b,_,H,_⟩=>?_⟩;have:=(rO.mp H).1;rw[F,e,jB]at this;simp at this
 .have q:=h.df x v;exact⟨⟨q.rm,q.ev,q.go⟩,q.gu,q.d8⟩
theorem Xj(hs:s.length<=63):∃ c:Ct,law_chart_F [.dZ s] = .ok c.d/\Pre c/\(∃ a n,n<=41/\c.bs.map Bx.nm=nms a n)/\(∃ a n,n<=41/\c.es=nms a n)/\∃ a n,n<=41/\c.rs.map Rm.nm=nms a n:=by
 have m:=fun (k t:Nat) (H:k<=1) (ht:t<=8)=>mix hs (k:=k) (t:=t) (by omega) (by omega);obtain⟨P,_,e1⟩:=m 0 1 (by decide) (by decide);obtain⟨o,_,e2⟩:=m 0 2 (by decide) (by decide);obtain⟨F,_,e3⟩:=m 0 3 (by decide) (by decide);obtain⟨G,_,e4⟩:=m 0 4 (by decide) (by decide);obtain⟨u,_,e7⟩:=m 0 7 (by decide) (by decide);obtain⟨i,_,e8⟩:=m 0 8 (by decide) (by decide);obtain⟨Q,_,f1⟩:=m 1 1 (by decide) (by decide);obtain⟨v,_,f2⟩:=m 1 2 (by decide) (by decide);obtain⟨A,_,f3⟩:=m 1 3 (by decide) (by decide);obtain⟨I,_,f4⟩:=m 1 4 (by decide) (by decide);obtain⟨C,_,f5⟩:=m 1 5 (by decide) (by decide);obtain⟨q6,_,f6⟩:=m 1 6 (by decide) (by decide)
 let Z:Sl:=.fr (.dZ s)
 have M:∀(p k:Nat)(f:FE)(r:aw Sl),f r = .ok (.fr (.int p))->0<k->aK bL f (fC (.int k)) r = .ok (.fr (.int ((p%k:Nat):Int))):=fun p k f r h H=>fO h (y:=.fr (.int k)) rfl (vo (by omega))
 have less:∀(a p k q l:Nat)(f g:FE)(r:aw Sl),f r = .ok (.fr (.int p))->g r = .ok (.fr (.int q))->0<k->0<l->k<=1000->(p%k)*(q%l)<=a->aK iJ (fC (.int a)) (aK jJ (aK bL f (fC (.int k))) (aK bL g (fC (.int l)))) r = .ok (.fr (.int ((a-(p%k)*(q%l):Nat):Int))):=fun a p k q l f g r hf hg H hl _ ha=>by
  have b:=iA p H;refine fO (x:=.fr (.int a)) (y:=.fr (.int (((p%k)*(q%l):Nat):Int))) rfl (fO (x:=.fr (.int ((p%k:Nat):Int))) (y:=.fr (.int ((q%l:Nat):Int))) (M p k f r hf H) (M q l g r hg hl) ((pN (mG (by omega))).trans rfl)) ?_;show Rz.ok (W.fr (.int ((a:Int)-(((p%k)*(q%l):Nat):Int))))=_;rw[Int.ofNat_sub ha]
 obtain⟨n,hn,s2⟩:∃ n:Nat,(1<=n/\n<=40)/\∀ a3 a4 a5 a6 a7 a8,eV (aQ (aK (dJ false) (aF 1) (fC (.int 1))))
   (aW 2 (aK iJ (fC (.int 40)) (aK jJ (aK bL (aP (bU law_mixed_F) 3 (aD (aF 0) (aD (fC (.int 0)) (aD (fC (.int 3)) aL)))) (fC (.int 2))) (aK bL (aP (bU law_mixed_F) 3 (aD (aF 0) (aD (fC (.int 0)) (aD (fC (.int 4)) aL)))) (fC (.int 30))))))
   bJ [Z,.fr (.int ((P%8:Nat):Int)),.fr (.int ((1+o%9:Nat):Int)),a3,a4,a5,a6,a7,a8] = .ok (.nx [Z,.fr (.int ((P%8:Nat):Int)),.fr (.int n),a3,a4,a5,a6,a7,a8]):=by
  have b1:=iA F (show 0<2 by decide);have b2:=iA G (show 0<30 by decide);have b3:(F%2)*(G%30)<=1*29:=Nat.mul_le_mul (by omega) (by omega);rcases Nat.decEq (P%8) 1 |>.em with w | w
  .exact⟨40-(F%2)*(G%30),by omega,fun a3 a4 a5 a6 a7 a8=>(Hl ((tE (a:=P%8) (b:=1) rfl rfl).trans (by rw[bq w]))).trans (sS (less 40 F 2 G 30 _ _ _ (e3 _ _ rfl) (e4 _ _ rfl) (by decide) (by decide) (by decide) (by omega)))⟩
  .exact⟨1+o%9,by omega,fun a3 a4 a5 a6 a7 a8=>(M8 ((tE (a:=P%8) (b:=1) rfl rfl).trans (by rw[bg w]))).trans rfl⟩
 obtain⟨k,H,s6⟩:∃ k:Nat,k<=60/\∀ a2 a3 a4 a5 a7 a8,eV (aQ (aK (dJ false) (aF 1) (fC (.int 2))))
   (aW 6 (aK iJ (fC (.int 60)) (aK jJ (aK bL (aP (bU law_mixed_F) 3 (aD (aF 0) (aD (fC (.int 1)) (aD (fC (.int 4)) aL)))) (fC (.int 2))) (aK bL (aP (bU law_mixed_F) 3 (aD (aF 0) (aD (fC (.int 1)) (aD (fC (.int 5)) aL)))) (fC (.int 50))))))
   bJ [Z,.fr (.int ((P%8:Nat):Int)),a2,a3,a4,a5,.fr (.int ((A%7:Nat):Int)),a7,a8] = .ok (.nx [Z,.fr (.int ((P%8:Nat):Int)),a2,a3,a4,a5,.fr (.int k),a7,a8]):=by
  have b1:=iA I (show 0<2 by decide);have b2:=iA C (show 0<50 by decide);have b3:(I%2)*(C%50)<=1*49:=Nat.mul_le_mul (by omega) (by omega);rcases Nat.decEq (P%8) 2 |>.em with w | w
  .exact⟨60-(I%2)*(C%50),by omega,fun a2 a3 a4 a5 a7 a8=>(Hl ((tE (a:=P%8) (b:=2) rfl rfl).trans (by rw[bq w]))).trans (sS (less 60 I 2 C 50 _ _ _ (f4 _ _ rfl) (f5 _ _ rfl) (by decide) (by decide) (by decide) (by omega)))⟩
  .exact⟨A%7,by omega,fun a2 a3 a4 a5 a7 a8=>(M8 ((tE (a:=P%8) (b:=2) rfl rfl).trans (by rw[bg w]))).trans rfl⟩
 obtain⟨e,ee⟩:=Az hs (Q%9) 46 (by omega) (by omega);obtain⟨bs,eb,⟨mb,nb⟩,Y⟩:=Xn hs (v%7) (by omega)
 have b6:bs.length=v%7:=by have:=congrArg List.length nb;rwa [fH,yq]at this
 have X:(nms e (Q%9)).length=Q%9:=yq _ _;obtain⟨rs,er,⟨mr,nr⟩,dl,S,T,U⟩:=W0 (bs:=bs) (ne:=Q%9) hs hn fun b J=>(Y b J).1
 have rl:rs.length=n:=by have:=congrArg List.length nr;rwa [fH,yq]at this
 obtain⟨ds,L,dn,N⟩:=Xb (bs:=bs) (rs:=rs) (ne:=Q%9) (n:=k*min (Q%9) 1) hs (by have:k*min (Q%9) 1<=k*1:=iF _ (iq _ _);omega) (by rcases Nat.eq_zero_or_pos (Q%9) with z | z;exact .inl (by rw[z];exact Nat.mul_zero _);exact .inr z) (by omega) fun b J=>(Y b J).1
 obtain⟨O,hod,eo⟩:∃ O:Str,(O = "inner" ∨ O = "outer")/\bF (.lst [.str "inner",.str "outer"]) (.int ((q6%2:Nat):Int)) = .ok (.fr (.str O)):=by
  have:∀ q,q<2->∃ O:Str,(O = "inner" ∨ O = "outer")/\bF (.lst [.str "inner",.str "outer"]) (.int (q:Nat)) = .ok (.fr (.str O))
   | 0,_=>⟨_,.inl rfl,rfl⟩
   | 1,_=>⟨_,.inr rfl,rfl⟩
   | _+2,h=>d6 h (by omega)
  exact this _ (iA _ (by decide))
 have em:(nms e (Q%9)).map D.str=(nms e (Q%9)).map D.str:=rfl;generalize hE:D.tup ((nms e (Q%9)).map D.str)=E at ee;have d:∀(f:FE)(r:aw Sl),f r = .ok (.fr E)->dY cY (aD f aL) r = .ok (.fr (.int ((Q%9:Nat):Int))):=fun f r h=>(JQ (l:=(nms e (Q%9)).map D.str) h (.inr (by rw[<-hE];rfl))).trans (by rw[fH,X]);refine⟨⟨O,u%13,1+i%20,bs,nms e (Q%9),rs,ds⟩,?_,⟨hod,by show u%13<=12;omega,by show 1<=1+i%20/\1+i%20<=20;omega,by show bs.length<=6;omega,Y,by show (nms e (Q%9)).length<=8;omega,by show 1<=rs.length/\rs.length<=40;omega,⟨dl,by rw[S,rl],T,by show ∀ j r,rs[j]? = some r->Rok dl bs (nms e (Q%9)).length j r;rw[X];exact U⟩,by show ds.length<=60;rw[dn];have:k*min (Q%9) 1<=k*1:=iF _ (iq _ _);omega,by show ∀ x∈ds,Dok bs (nms e (Q%9)).length rs x;rw[X];exact N⟩,⟨mb,_,by omega,nb⟩,⟨e,_,by omega,rfl⟩,mr,n,by omega,nr⟩;show fin (Ce [Z,.no,.no,.no,.no,.no,.no,.no,.no])=_
 let B:Sl:=.fr (.tup (bs.map Bx.d))
 let R:Sl:=.fr (.tup (rs.map Rm.d))
 refine sN (ρ':=[Z,.fr (.int ((P%8:Nat):Int)),.no,.no,.no,.no,.no,.no,.no]) (sS (M P 8 _ _ (e1 _ _ rfl) (by decide))) (sN (ρ':=[Z,.fr (.int ((P%8:Nat):Int)),.fr (.int ((1+o%9:Nat):Int)),.no,.no,.no,.no,.no,.no]) (sS (fO (x:=.fr (.int 1)) (y:=.fr (.int ((o%9:Nat):Int))) rfl (M o 9 _ _ (e2 _ _ rfl) (by decide)) rfl)) (sN (s2 _ _ _ _ _ _) (sN (ρ':=[Z,.fr (.int ((P%8:Nat):Int)),.fr (.int n),.fr E,.no,.no,.no,.no,.no]) (sS (iQ (ws:=[.fr (.dZ s),.fr (.int ((Q%9:Nat):Int)),.fr (.int 46)]) (dF (w:=.fr (.dZ s)) rfl (dF (M Q 9 _ _ (f1 _ _ rfl) (by decide)) rfl)) ee rfl (.inl rfl)))
  (sN (ρ':=[Z,.fr (.int ((P%8:Nat):Int)),.fr (.int n),.fr E,B,.no,.no,.no,.no]) (sS (iQ (ws:=[.fr (.dZ s),.fr (.int ((v%7:Nat):Int))]) (dF (w:=.fr (.dZ s)) rfl (dF (M v 7 _ _ (f2 _ _ rfl) (by decide)) rfl)) eb rfl (.inl rfl)))
  (sN (ρ':=[Z,.fr (.int ((P%8:Nat):Int)),.fr (.int n),.fr E,B,R,.no,.no,.no]) (sS (iQ (ws:=[.fr (.dZ s),.fr (.int n),.fr (.tup (bs.map Bx.d)),.fr (.int ((Q%9:Nat):Int))]) (dF (w:=.fr (.dZ s)) rfl (dF (w:=.fr (.int n)) rfl (dF (w:=.fr (.tup (bs.map Bx.d))) rfl (dF (d _ _ rfl) rfl)))) er rfl (.inl rfl)))
  (sN (ρ':=[Z,.fr (.int ((P%8:Nat):Int)),.fr (.int n),.fr E,B,R,.fr (.int ((A%7:Nat):Int)),.no,.no]) (sS (M A 7 _ _ (f3 _ _ rfl) (by decide)))
  (sN (s6 _ _ _ _ _ _)
  (sN (ρ':=[Z,.fr (.int ((P%8:Nat):Int)),.fr (.int n),.fr E,B,R,.fr (.int k),.fr (.tup (ds.map Dr.d)),.no]) (sS (iQ (ws:=[.fr (.dZ s),.fr (.int ((k*min (Q%9) 1:Nat):Int)),.fr (.tup (rs.map Rm.d)),.fr (.tup (bs.map Bx.d)),.fr (.int ((Q%9:Nat):Int))]) (dF (w:=.fr (.dZ s)) rfl (dF (w:=.fr (.int ((k*min (Q%9) 1:Nat):Int))) (fO (x:=.fr (.int k)) rfl (qDW (b:=1) (d _ _ rfl) rfl) ((pN (mG (by omega))).trans rfl)) (dF (w:=.fr (.tup (rs.map Rm.d))) rfl (dF (w:=.fr (.tup (bs.map Bx.d))) rfl (dF (d _ _ rfl) rfl))))) L rfl (.inl rfl)))
  (sN (ρ':=[Z,.fr (.int ((P%8:Nat):Int)),.fr (.int n),.fr E,B,R,.fr (.int k),.fr (.tup (ds.map Dr.d)),.fr (.str O)]) (sS (fO (Hm (ws:=[.fr (.str "inner"),.fr (.str "outer")]) rfl rfl (hV rfl)) (M q6 2 _ _ (f6 _ _ rfl) (by decide)) eo))
  (j9 (xY (ws:=[.fr (.str O),.fr (.int ((u%13:Nat):Int)),.fr (.int ((1+i%20:Nat):Int)),.fr (.tup (bs.map Bx.d)),.fr E,.fr (.tup (rs.map Rm.d)),.fr (.tup (ds.map Dr.d))]) (dF (w:=.fr (.str O)) rfl (dF (w:=.fr (.int ((u%13:Nat):Int))) (M u 13 _ _ (e7 _ _ rfl) (by decide)) (dF (w:=.fr (.int ((1+i%20:Nat):Int))) (fO (x:=.fr (.int 1)) (y:=.fr (.int ((i%20:Nat):Int))) rfl (M i 20 _ _ (e8 _ _ rfl) (by decide)) rfl) rfl))) rfl (hV rfl)) ?_))))))))))
 rw[<-hE];rfl
def qE3:Wo "kettledrums" := by
 have:1<=(cd "kettledrums").length/\(cd "kettledrums").length<=12/\∀ c∈cd "kettledrums",97<=c/\c<123:=by ext y
 exact MJ this.1 this.2.1 this.2.2
def Ff:aw Str->aw Str
 | []=>[]
 | _::l => "kettledrums" :: l
def wL:aw Bx->aw Bx
 | []=>[]
 | b::l=>⟨"kettledrums",b.sz,b.st⟩::l
def yZ:aw Rm->aw Rm
 | []=>[]
 | r::l=>⟨"kettledrums",r.kd,r.dp,r.kp,r.lp,r.ins,r.outs⟩::l
def Ct.W2(c:Ct):Ct:=⟨c.od,c.lt,c.tn,wL c.bs,Ff c.es,yZ c.rs,c.ds⟩
theorem Fe(h:lD ns)(k:("kettledrums" : Str)∉ns):lD (Ff ns):=by
 cases ns with
 | nil=>exact h
 | cons a l=>
  obtain⟨_,H⟩:=gN.mp h.nd;exact⟨gN.mpr ⟨fun m=>k (rM _ m),H⟩,fun z b=>(jL.mp b).elim (fun e=>by rw[e];exact qE3) fun m=>h.wo z (rM _ m),h.few⟩
def Yr(l:aw Bx):(wL l).map Bx.nm=Ff (l.map Bx.nm):=by cases l <;> rfl
def Yp(l:aw Rm):(yZ l).map Rm.nm=Ff (l.map Rm.nm):=by cases l <;> rfl
theorem Ys{l:aw Bx}{i:Nat}{b:Bx}(h:l[i]? = some b):∃ x,(wL l)[i]? = some x/\x.sz=b.sz:=by
 cases l with
 | nil=>cases h
 | cons a l=>
  cases i with
  | zero=>cases h;exact⟨_,rfl,rfl⟩
  | succ i=>exact⟨b,h,rfl⟩
def Fg(l:aw Bx):(wL l).length=l.length:=by cases l <;> rfl
def yc(l:aw Str):(Ff l).length=l.length:=by cases l <;> rfl
def um(l:aw Rm):(yZ l).length=l.length:=by cases l <;> rfl
theorem De.W2{bs:aw Bx}{ne:Nat}{e:De}(h:e.Ok bs ne):e.Ok (wL bs) ne:=by
 cases e with
 | say _=>exact h
 | send _=>exact h
 | set b v=>
  obtain⟨x,d,H⟩:=h;obtain⟨y,a,c⟩:=Ys d;exact⟨y,a,by rw[c];exact H⟩
 | add b v=>exact⟨by rw[Fg];exact h.1,h.2⟩
theorem Yq{l:aw Rm}{i:Nat}{r:Rm}(h:(yZ l)[i]? = some r):∃ x,l[i]? = some x/\r=⟨r.nm,x.kd,x.dp,x.kp,x.lp,x.ins,x.outs⟩:=by
 cases l with
 | nil=>cases h
 | cons a l=>
  cases i with
  | zero=>cases h;exact⟨a,rfl,rfl⟩
  | succ i=>exact⟨r,h,rfl⟩
theorem Yo{l:aw Rm}{i:Nat}{x:Rm}(h:l[i]? = some x):∃ r,(yZ l)[i]? = some r/\r.kp=x.kp:=by
 cases l with
 | nil=>cases h
 | cons a l=>
  cases i with
  | zero=>cases h;exact⟨_,rfl,rfl⟩
  | succ i=>exact⟨x,h,rfl⟩
theorem Pre.W2{c:Ct}(h:Pre c):Pre c.W2:=by
 obtain⟨dl,k,n,f⟩:=h.rf;refine⟨h.od,h.lt,h.tn,by show (wL c.bs).length<=6;rw[Fg];exact h.b6,fun b d=>?_,by show (Ff c.es).length<=8;rw[yc];exact h.e8,by show 1<=(yZ c.rs).length/\(yZ c.rs).length<=40;rw[um];exact h.r40,⟨dl,by show dl.length=(yZ c.rs).length;rw[um];exact k,n,fun j r J=>?_⟩,h.d60,fun x H=>?_⟩
 .have z:=h.bz;revert d;show b∈wL c.bs->_
  cases e:c.bs with
  | nil=>exact nofun
  | cons a l=>
   rw[e]at z;intro d;rcases jL.mp d with rfl | m
   .exact z a qK
   .exact z b (rM _ m)
 .obtain⟨x,H,E⟩:=Yq (show (yZ c.rs)[j]? = some r from J);have q:=f j x H;show Rok dl (wL c.bs) (Ff c.es).length j r;rw[yc,E];exact⟨q.dp,q.kd,q.lp,⟨q.i8.1,fun e i=>De.W2 (q.i8.2 e i)⟩,q.o8.1,fun e i=>De.W2 (q.o8.2 e i)⟩
 .have q:=h.df x H;show Dok (wL c.bs) (Ff c.es).length (yZ c.rs) x;refine⟨by rw[um];exact q.rm,by rw[yc];exact q.ev,?_,by rw[Fg,um];exact q.gu,q.d8.1,fun e i=>by rw[yc];exact De.W2 (q.d8.2 e i)⟩;rw[um];rcases q.go with z | ⟨z,g,r,z1,z2,z3⟩ | z
  .exact .inl z
  .obtain⟨R,A,y⟩:=Yo z2;exact .inr (.inl ⟨z,g,R,z1,A,by rw[y];exact z3⟩)
  .exact .inr (.inr z)
def qH3(l:aw D)(k:Nat):cutD l none (some (k:Int))=l.take k:=by
 unfold cutD;rw[HT.yX,HT.Ec,eP,iS]
 by_cases h:k<=l.length
 .rw[ip h]
 .rw[Nat.min_eq_right (by omega),zl9 (jC _),zl9 (by omega)]
def qH2(l:aw D)(k:Nat):cutD l (some (k:Int)) none=l.drop k:=by
 unfold cutD;rw[HT.yX,HT.Ec]
 by_cases h:k<=l.length
 .rw[ip h,zl9 (by rw[fE];exact jC _)]
 .rw[Nat.min_eq_right (by omega),eM (jC _),eM (by omega),List.take_nil]
def slT{f:FE}{ρ:aw Sl}{w:W}{l:aw D}{k:Nat}(h:f ρ = .ok w)(c:w.d = .tup l){o:FO}(j:o ρ = .ok (some (k:Int))):vy f xJ o ρ = .ok (.fr (.tup (l.take k))):=by unfold vy;rw[h,pB];show ((o ρ).bind _)=_;rw[j];show slD w.d none (some (k:Int))=_;rw[c,<-qH3];rfl
def slW{f:FE}{ρ:aw Sl}{w:W}{l:aw D}{k:Nat}(h:f ρ = .ok w)(c:w.d = .tup l):vy f (gG (fC (.int k))) xJ ρ = .ok (.fr (.tup (l.drop k))):=by unfold vy;rw[h,pB];show slD w.d (some (k:Int)) none=_;rw[c,<-qH2];rfl
theorem Mw{c:Ct}(h:Pre c):law_one_name_F [c.d] = .ok c.W2.d:=by
 have B:=h.b6;have E:=h.e8;have R:=h.r40
 obtain⟨r,rs,er⟩:∃ r rs,c.rs=r::rs:=by
  cases e:c.rs with
  | nil=>rw[e]at R;have:=R.1;cases this
  | cons r rs=>exact⟨r,rs,rfl⟩
 let N:D:=.str "kettledrums"
 have g:∀ x:aw Sl,aK bF (aF 0) (fC (.int 3)) (.fr c.d::x) = .ok (.fr (.tup (c.bs.map Bx.d))):=fun _=>rfl;have j:∀ x:aw Sl,aK bF (aF 0) (fC (.int 4)) (.fr c.d::x) = .ok (.fr (.tup (c.es.map D.str))):=fun _=>rfl;have I:∀ x:aw Sl,aK bF (aF 0) (fC (.int 5)) (.fr c.d::x) = .ok (.fr (.tup (c.rs.map Rm.d))):=fun _=>rfl;have tn:∀ x:aw Sl,dR (aD (aF 1) aL) (.fr c.d::.fr N::x) = .ok (.fr (.tup [N])):=fun _=>xY (ws:=[.fr N]) rfl rfl (hV rfl);show fin (vB [.fr c.d,.no,.no,.no,.no])=_;refine sN (ρ':=[.fr c.d,.fr N,.no,.no,.no]) rfl (sN (ρ':=[.fr c.d,.fr N,.fr (.tup ((wL c.bs).map Bx.d)),.no,.no]) (sS ?_) (sN (ρ':=[.fr c.d,.fr N,.fr (.tup ((wL c.bs).map Bx.d)),.fr (.tup ((yZ c.rs).map Rm.d)),.no]) (sS ?_) (sN (ρ':=[.fr c.d,.fr N,.fr (.tup ((wL c.bs).map Bx.d)),.fr (.tup ((yZ c.rs).map Rm.d)),.fr (.tup ((Ff c.es).map D.str))]) (sS ?_) (j9 (w:=.fr c.W2.d) ?_ rfl))))
 .have C:dY vg (aD (gQ (jA false (vy (aK bF (aF 0) (fC (.int 3))) xJ (gG (fC (.int 1))))) [(1,"_law_name_here")] nJ (aK aa (dR (aD (aF 1) aL)) (vy (aF 0) (gG (fC (.int 1))) xJ))) aL) [.fr c.d,.fr N,.no,.no,.no] = .ok (.fr (.tup ((wL c.bs).take 1 |>.map Bx.d))):=by
   have z:=fCm (ρ:=[.fr c.d,.fr N,.no,.no,.no]) (i:=jA false (vy (aK bF (aF 0) (fC (.int 3))) xJ (gG (fC (.int 1))))) (cX:=[(1,"_law_name_here")]) (c:=nJ) (f:=aK aa (dR (aD (aF 1) aL)) (vy (aF 0) (gG (fC (.int 1))) xJ)) (h:=fun d=>match d with | .tup (_::y)=>.tup (N::y) | _=>.non) (ds:=(c.bs.map Bx.d).take 1) (by unfold jA;rw[slT (k:=1) (g _) rfl rfl];rfl) (by rw[pF];exact zI (by omega)) (fun _ _=>rfl) fun d hd=>by
    obtain⟨b,_,rfl⟩:=rA.mp (List.mem_of_mem_take hd);exact fO (x:=.fr (.tup [N])) (xY (ws:=[.fr N]) rfl rfl (hV rfl)) (slW (k:=1) (w:=.fr b.d) (l:=[.str b.nm,.int b.sz,.int b.st]) rfl rfl) (Dw (hV rfl))
   refine (XR z (.inl rfl)).trans ?_;congr 3
   cases c.bs <;> rfl
  refine fO C (slW (k:=1) (g _) rfl) ((Dw ?_).trans ?_)
  .rw[fH,pF,fE,fH];omega
  .congr 3
   cases c.bs <;> rfl
 .rw[er];refine fO (x:=.fr (.tup [Rm.d ⟨"kettledrums",r.kd,r.dp,r.kp,r.lp,r.ins,r.outs⟩])) (xY (dF (w:=.fr (Rm.d ⟨"kettledrums",r.kd,r.dp,r.kp,r.lp,r.ins,r.outs⟩)) (fO (tn _) (slW (k:=1) (w:=.fr r.d) (l:=[.str r.nm,.str r.kd,.int r.dp,.str r.kp,.str r.lp,.tup (r.ins.map De.d),.tup (r.outs.map De.d)]) (fO (I _) (y:=.fr (.int 0)) rfl (by rw[er];exact (zz (i:=0) rfl).2)) rfl) (Dw (hV rfl))) rfl) rfl (hV rfl)) (slW (k:=1) (I _) rfl) ((Dw ?_).trans (by rw[er];rfl));rw[fE,fH];show 1+_<=_;omega
 .refine fO (slT (k:=c.es.length) (tn _) rfl (by show ((dY cY _ _).bind _)=_;rw[JQ (j _) (.inr rfl),fH];rfl)) (slW (k:=1) (j _) rfl) ((Dw ?_).trans ?_)
  .rw[pF,fE,fH];omega
  .congr 3
   cases c.es with
   | nil=>rfl
   | cons a l=>rw[zl9 (iX (bb _))];rfl
 .refine fO (x:=.fr (.tup [.str c.od,.int c.lt,.int c.tn])) (slT (k:=3) (w:=.fr c.d) rfl rfl rfl) (xY (ws:=[.fr (.tup ((wL c.bs).map Bx.d)),.fr (.tup ((Ff c.es).map D.str)),.fr (.tup ((yZ c.rs).map Rm.d)),.fr (.tup (c.ds.map Dr.d))]) rfl rfl (hV rfl)) (Dw (hV rfl))
mutual
def sm:D->Bool
 | .non=>true
 | .int _=>true
 | .str _=>true
 | .tup l=>decide (l.length<=1000)&&smL l
 | _=>false
def smL:aw D->Bool
 | []=>true
 | d::l=>sm d&&smL l
end
theorem Vt:∀ {l:aw D} {i:Nat} {d:D},smL l=true->l[i]? = some d->sm d=true
 | [],_,_,_,h=>by simp at h
 | _::_,0,_,p,h=>by
  rw[smL,dv]at p
  cases (show some _=some _ from h)
  exact p.1
 | _::_,i+1,d,p,h=>by
  rw[smL,dv]at p;exact Vt (i:=i) p.2 h
theorem Rc:∀ n d,d.dep<n->sm d=true->law_same_F n [d,d] = .ok (.bl true)
 | 0,_,h,_=>d6 h (iN _)
 | n+1,.non,_,_=>rfl
 | n+1,.int i,_,_=>by
  show fin (pO (law_same_F n) [.fr (.int i),.fr (.int i),.no])=_;refine sF rfl (sF rfl (sF rfl (j9 (w:=.fr (.bl (true&&(!false&&(decide (i=i)))))) (Ux rfl fun _=>Ux rfl fun _=>?_) (by rw[bq rfl];rfl))));refine fO (x:=.fr (.int i)) (y:=.fr (.int i)) rfl rfl ((eqI (bb _) rfl rfl).trans ?_);rw[vG _ rfl,bq rfl];rfl
 | n+1,.str z,_,_=>by
  show fin (pO (law_same_F n) [.fr (.str z),.fr (.str z),.no])=_;refine sF rfl (sF rfl (sT rfl (Jy (d:=.bl true) (Ux (p:=true) (q:=true) rfl fun _=>fO (x:=.fr (.str z)) (y:=.fr (.str z)) rfl rfl ((eqI (bb _) rfl rfl).trans ?_)))));rw[vG _ rfl];rfl
 | n+1,.tup l,h,hs=>by
  rw[D.dep]at h;show fin (pO (law_same_F n) [.fr (.tup l),.fr (.tup l),.no])=_;have L:∀ f a,f [.fr (.tup l),.fr (.tup l),a] = .ok (.fr (.tup l))->dY cY (aD f aL) [.fr (.tup l),.fr (.tup l),a] = .ok (.fr (.int l.length)):=fun f a c=>JQ c (.inr rfl);have t:Sx (vD (aQ (fIs "tuple" (aF 0)))) (aQ (aK (dJ true) (dY cY (aD (aF 0) aL)) (dY cY (aD (aF 1) aL)))) [.fr (.tup l),.fr (.tup l),.no] = .ok (false||(decide (l.length=l.length) != true)):=O9 rfl fun _=>tN (L _ _ rfl) (L _ _ rfl);rw[bq rfl]at t;rw[sm,dv]at hs
  obtain⟨a,e,_⟩:=forR (f:=lA (aD (dY cY (aD (aF 1) aL)) aL)) (b:=bN 2) (g:=eV (vD (aQ (aP (bU (law_same_F n)) 2 (aD (aK bF (aF 0) (aF 2)) (aD (aK bF (aF 1) (aF 2)) aL))))) (bO (fC (.bl false))) bJ) (fun a:Sl=>[.fr (.tup l),.fr (.tup l),a]) (fun _ _=>True) l.length .no (Jx (L _ _ rfl) (by have:=aS hs.1;omega)) trivial fun i a H _=>by
   have hd:l[i]? = some l[i]:=wF H;refine⟨_,.fr (.int i),rfl,(M8 (R1 (p:=true) (zc (iQ (ws:=[.fr l[i],.fr l[i]]) (dF (w:=.fr l[i]) (fO (x:=.fr (.tup l)) (y:=.fr (.int i)) rfl rfl (zz hd).2) (dF (w:=.fr l[i]) (fO (x:=.fr (.tup l)) (y:=.fr (.int i)) rfl rfl (zz hd).2) rfl)) (Rc n l[i] (by have:=qt hd;omega) (Vt hs.2 hd)) rfl (.inl rfl)) rfl))).trans rfl,trivial⟩
  exact sF rfl (sT rfl (qF t (qN e rfl)))
 | n+1,.bl _,_,hs=>by cases hs
 | n+1,.lst _,_,hs=>by cases hs
 | n+1,.dZ _,_,hs=>by cases hs
 | n+1,.obj _ _,_,hs=>by cases hs
def Bf(b:Nat)(ws:aw Str):cd (cB b ws)=List.replicate b 32++qJ.jc 32 (ws.map cd):=rfl
def Ef(h:ws≠[])(H:us≠[]):cd (cB b (ws++us))=cd (cB b ws)++32::cd (cB 0 us):=by rw[Bf,Bf,Bf,List.map_append,Wy (by simpa using h) (by simpa using H)];simp
def oR(k:Str):cB 0 [k]=k:=xU (by rw[Bf];simp [qJ.jc])
def Jv(h:cd l=cd k++[32])(c:ws≠[]):l++cB 0 ws=cB 0 (k::ws):=xU (by
 rw[eY,h,show k::ws=[k]++ws from rfl,Ef (by simp) c,oR]
 simp)
def Ed{l k a:Str}(h:cd l=cd k++[32]):l++a=cB 0 [k,a]:=by
 have:=Jv (ws:=[a]) h (by simp)
 rwa [oR]at this
def row_more(h:ws≠[])(H:us≠[]):cB b ws ++ " " ++ cB 0 us=cB b (ws++us):=xU (by
 rw[eY,eY,Ef h H,show cd " " = [32] by ext y]
 simp)
def uh{b:Nat}{ws:aw Str}{a:Str}(h:ws≠[]):cB b ws ++ " " ++ a=cB b (ws++[a]):=by
 have:=row_more (b:=b) (us:=[a]) h (by simp)
 rwa [oR]at this
def Ak(h:∀ w∈ws,Wd w):(cB b ws).length<=b+41*ws.length:=by
 have:=qAX (xs:=ws.map cd) fun x H=>by
  obtain⟨w,c,rfl⟩:=rA.mp H;exact (h w c).le
 rw[fH]at this;rw[bI,Bf,jB,cx];omega
def lit:∀ p∈[(("say " : Str),("say" : Str)),("send ","send"),("in ","in"),("out ","out"),("do ","do"),("when ","when"),("order ","order"),("letters ","letters"),("turns ","turns"),("box ","box"),("event ","event"),("door ","door")],cd p.1=cd p.2++[32]/\p.1.length<=10:=by ext y
def BJ{ns:aw Str}{i:Nat}(h:i<ns.length):ns.getD i "" ∈ ns:=Jb (jt h)
section
variable{bs:aw Bx}{es:aw Str}{rs:aw Rm}
def Fz{α:Type}{f:α->D}{g:α->Str}(H:∀ x,∃ l,f x = .tup (.str (g x)::l)){l:aw α}{i:Nat}(h:i<l.length){a b:FE}{ρ:aw Sl}(d:a ρ = .ok (.fr (.tup (l.map f))))(c:b ρ = .ok (.fr (.int i))):aK bF (aK bF a b) (fC (.int 0)) ρ = .ok (.fr (.str ((l.map g).getD i ""))):=by obtain⟨t,E⟩:=H l[i];refine fO (x:=.fr (f l[i])) (y:=.fr (.int 0)) (fO d c (zz (by rw[jf,wF h];rfl)).2) rfl ?_;show bF (f l[i]) (.int 0)=_;rw[E,xg,jf,wF h];exact (zz (i:=0) rfl).2
theorem Oe{e:De}(d:lD (bs.map Bx.nm))(g:lD es)(h:e.Ok bs es.length):law_deed_row_F [e.d,.tup (bs.map Bx.d),.tup (es.map D.str)] = .ok (.str (cB 0 (e.ws (bs.map Bx.nm) es))):=by
 have o:∀(k:Str)(b:Nat)(v:Int),k = "set" ∨ k = "add" -> b<bs.length->v.natAbs<10 ^ 31->law_deed_row_F [.tup [.str k,.int b,.int v],.tup (bs.map Bx.d),.tup (es.map D.str)] = .ok (.str (cB 0 [k,(bs.map Bx.nm).getD b "",cu v])):=fun k b v H f c=>by
  have W:=(d.wo _ (BJ (i:=b) (by rw[fH];exact f))).wd;have m:=gY c
  have n:k.length<=3:=by rcases H with rfl | rfl <;> decide +kernel
  have P:=W.le;have L:=m.le;rw[<-bI]at P L;show fin (lW [.fr (.tup [.str k,.int b,.int v]),.fr (.tup (bs.map Bx.d)),.fr (.tup (es.map D.str))])=_;refine sF (by rcases H with rfl | rfl <;> rfl) (sF (by rcases H with rfl | rfl <;> rfl) (j9 (w:=.fr (.str (k ++ " " ++ (bs.map Bx.nm).getD b "" ++ " " ++ cu v))) (fO (fO (fO (fO (x:=.fr (.str k)) (y:=.fr (.str " ")) rfl rfl (nM (by have:(" " : Str).length=1:=rfl;omega))) (Fz (fun x=>⟨_,rfl⟩) f rfl rfl) (nM ?_)) (y:=.fr (.str " ")) rfl (nM ?_)) (str_is c) (nM ?_)) ?_))
  .rw[bI,eY,jB,<-bI,<-bI];have:(" " : Str).length=1:=rfl;omega
  .have:(" " : Str).length=1:=rfl;rw[bI (k ++ " " ++ _),eY,eY,jB,jB,<-bI,<-bI,<-bI];omega
  .have:(" " : Str).length=1:=rfl;ext ay;omega
  .show Rz.ok (D.str _)=_;congr 2;have a:=uh (b:=0) (ws:=[k]) (a:=(bs.map Bx.nm).getD b "") (by simp);rw[oR]at a;rw[a,uh (by simp)];rfl
 cases e with
 | say w=>
  have l:=(Wo.wd (show Wo w from h)).le;rw[<-bI]at l;show fin (lW [.fr (.tup [.str "say",.str w]),.fr (.tup (bs.map Bx.d)),.fr (.tup (es.map D.str))])=_;refine sT rfl (Jy (fO (x:=.fr (.str "say ")) (y:=.fr (.str w)) rfl rfl ((nM (by have:("say " : Str).length<=10:=(lit ("say ","say") (by simp)).2;omega)).trans ?_)));rw[Ed (lit ("say ","say") (by simp)).1];rfl
 | send i=>
  have w:=(g.wo _ (BJ (show i<es.length from h))).wd;have l:=w.le;rw[<-bI]at l;show fin (lW [.fr (.tup [.str "send",.int i]),.fr (.tup (bs.map Bx.d)),.fr (.tup (es.map D.str))])=_;refine sF rfl (sT rfl (Jy (fO (x:=.fr (.str "send ")) (y:=.fr (.str (es.getD i ""))) rfl (fO (x:=.fr (.tup (es.map D.str))) (y:=.fr (.int i)) rfl rfl (zz (by rw[List.getElem?_map,jt (show i<es.length from h)];rfl)).2) ((nM (by have:("send " : Str).length<=10:=(lit ("send ","send") (by simp)).2;omega)).trans ?_))));rw[Ed (lit ("send ","send") (by simp)).1];rfl
 | set b v=>
  obtain⟨x,j,_,_,_⟩:=h;exact o _ b v (.inl rfl) (rO.mp j).1 (j4 ⟨by unfold big;omega,by omega⟩)
 | add b v=>exact o _ b v (.inr rfl) h.1 (j4 h.2)
theorem GR{x:Sl}{B R:D}{nb nr:aw Str}{n q m:Nat}(f:m<=64)(h:∀ g:Gu,g.Ok nb.length nr.length q->law_guard_row_F n [g.d,B,R] = .ok (.str (cB 0 (g.ws nb nr)))/\(g.ws nb nr).length<=2*m/\(∀ w∈g.ws nb nr,Wd w)/\g.ws nb nr≠[]):∀(G:aw Gu)(ws:aw Str)(a:Sl),(∀ g∈G,g.Ok nb.length nr.length q)->ws≠[]->(∀ w∈ws,Wd w)->ws.length+128*G.length<=10000->∃ A,vq (bN 4) (aW 3 (aK aa (aK aa (aF 3) (fC (.str " "))) (aP (bU (law_guard_row_F n)) 3 (aD (aF 4) (aD (aF 1) (aD (aF 2) aL)))))) (G.map Gu.d) [x,.fr B,.fr R,.fr (.str (cB 0 ws)),a] = .ok (.nx [x,.fr B,.fr R,.fr (.str (cB 0 (ws++G.flatMap (Gu.ws nb nr)))),A])
 | [],ws,a,_,_,_,_=>⟨a,by rw[List.flatMap_nil,qH];rfl⟩
 | g::G,ws,a,Q,c,d,l=>by
  obtain⟨e,_,W,N⟩:=h g (Q g qK);rw[gH]at l;obtain⟨A,E⟩:=GR f h G (ws++g.ws nb nr) (.fr g.d) (fun y T=>Q y (List.mem_cons_of_mem _ T)) (by simp [c]) (fun w H=>(List.mem_append.mp H).elim (d w) (W w)) (by rw[List.length_append];omega);refine⟨A,?_⟩;have j:=Ak (b:=0) d;have i:=Ak (b:=0) W;have S:(" " : Str).length=1:=rfl;rw[fg,<-bS,<-E,bt,vq];have s:aW 3 (aK aa (aK aa (aF 3) (fC (.str " "))) (aP (bU (law_guard_row_F n)) 3 (aD (aF 4) (aD (aF 1) (aD (aF 2) aL))))) [x,.fr B,.fr R,.fr (.str (cB 0 ws)),.fr g.d] = .ok (.nx [x,.fr B,.fr R,.fr (.str (cB 0 ws ++ " " ++ cB 0 (g.ws nb nr))),.fr g.d]):=eE (w:=.fr (.str (cB 0 ws ++ " " ++ cB 0 (g.ws nb nr)))) (fO (fO (x:=.fr (.str (cB 0 ws))) (y:=.fr (.str " ")) rfl rfl (nM (by omega))) (iQ (ws:=[.fr g.d,.fr B,.fr R]) rfl e rfl (.inl rfl)) (nM (by rw[bI,eY,jB,<-bI,<-bI];omega))) rfl;show (aW 3 _ [x,.fr B,.fr R,.fr (.str (cB 0 ws)),.fr g.d]).bind _=_;rw[s,pB,row_more c N]
def Gu.qAA(nb nr:aw Str)(g:Gu):g.ws nb nr≠[]:=by cases g <;> simp [Gu.ws]
theorem yu(s:lD (bs.map Bx.nm))(hr:lD (rs.map Rm.nm)):∀(n m:Nat)(g:Gu),m<=n->m<=6->g.Ok bs.length rs.length m->law_guard_row_F n [g.d,.tup (bs.map Bx.d),.tup (rs.map Rm.d)] = .ok (.str (cB 0 (g.ws (bs.map Bx.nm) (rs.map Rm.nm))))
 | _,0,_,_,_,h=>h.elim
 | 0,m+1,_,A,_,_=>d6 A (by omega)
 | n+1,m+1,g,A,J,h=>by
  have bl:(bs.map Bx.nm).length=bs.length:=fH ..;have R:(rs.map Rm.nm).length=rs.length:=fH ..
  have O:∀(k:Str)(b:Nat)(v:Int),k = "is" ∨ k = "under" -> b<bs.length->v.natAbs<10 ^ 31->fin (gM (law_guard_row_F n) [.fr (.tup [.str k,.int b,.int v]),.fr (.tup (bs.map Bx.d)),.fr (.tup (rs.map Rm.d)),.no,.no]) = .ok (.str (cB 0 [k,(bs.map Bx.nm).getD b "",cu v])):=fun k b v H t z=>by
   have W:=(s.wo _ (BJ (i:=b) (by rw[bl];exact t))).wd;have I:=gY z
   have N:k.length<=5:=by rcases H with rfl | rfl <;> decide +kernel
   have P:=W.le;have L:=I.le;rw[<-bI]at P L;have S:(" " : Str).length=1:=rfl;refine sF (by rcases H with rfl | rfl <;> rfl) (sT (by rcases H with rfl | rfl <;> rfl) (Jy (d:=.str (cB 0 [k,(bs.map Bx.nm).getD b "",cu v])) (fO (x:=.fr (.str (k ++ " " ++ (bs.map Bx.nm).getD b "" ++ " "))) (fO (fO (fO (x:=.fr (.str k)) (y:=.fr (.str " ")) rfl rfl (nM (by omega))) (Fz (fun x=>⟨_,rfl⟩) t rfl rfl) (nM ?_)) (y:=.fr (.str " ")) rfl (nM ?_)) (str_is z) ((nM ?_).trans ?_))))
   .rw[bI,eY,jB,<-bI,<-bI];omega
   .rw[bI (k ++ " " ++ _),eY,eY,jB,jB,<-bI,<-bI,<-bI];omega
   .ext ay;omega
   .have a:=uh (b:=0) (ws:=[k]) (a:=(bs.map Bx.nm).getD b "") (by simp);rw[oR]at a;rw[a,uh (by simp)];rfl
  have p:2 ^ m<=32:=Nat.pow_le_pow_right (n:=2) (by decide) (show m<=5 by omega)
  have c:∀ g:Gu,g.Ok (bs.map Bx.nm).length (rs.map Rm.nm).length m->law_guard_row_F n [g.d,.tup (bs.map Bx.d),.tup (rs.map Rm.d)] = .ok (.str (cB 0 (g.ws (bs.map Bx.nm) (rs.map Rm.nm))))/\(g.ws (bs.map Bx.nm) (rs.map Rm.nm)).length<=2*32/\(∀ w∈g.ws (bs.map Bx.nm) (rs.map Rm.nm),Wd w)/\g.ws (bs.map Bx.nm) (rs.map Rm.nm)≠[]:=fun g Q=>by
   have f:=Gu.few (bs.map Bx.nm) (rs.map Rm.nm) Q;have w:=Gu.wd s hr m g Q;rw[bl,R]at Q;exact⟨yu s hr n m g (by omega) (by omega) Q,by omega,w,Gu.qAA _ _ g⟩
  have M:∀(k:Str)(G:aw Gu),k = "not" ∨ k = "both" ∨ k = "either" -> G.length<=2->(∀ g∈G,g.Ok bs.length rs.length m)->fin (gM (law_guard_row_F n) [.fr (.tup (.str k::G.map Gu.d)),.fr (.tup (bs.map Bx.d)),.fr (.tup (rs.map Rm.d)),.no,.no]) = .ok (.str (cB 0 (k::G.flatMap (Gu.ws (bs.map Bx.nm) (rs.map Rm.nm))))):=fun k G H t Q=>by
   have o:∀ a b:Sl,aK bF (aF 0) (fC (.int 0)) [.fr (.tup (.str k::G.map Gu.d)),.fr (.tup (bs.map Bx.d)),.fr (.tup (rs.map Rm.d)),a,b] = .ok (.fr (.str k)):=fun _ _=>fO (x:=.fr (.tup (.str k::G.map Gu.d))) (y:=.fr (.int 0)) rfl rfl (zz (i:=0) rfl).2
   have u:∀ k∈[("not" : Str),"both","either"],Wd k/\(k == "in")=false/\(k == "is")=false/\(k == "under")=false:=by ext y
   obtain⟨E,C,F,B⟩:=u k (by rcases H with rfl | rfl | rfl <;> simp);obtain⟨D,e⟩:=GR (n:=n) (q:=m) (m:=32) (x:=.fr (.tup (.str k::G.map Gu.d))) (by decide) c G [k] .no (fun g h=>by rw[bl,R];exact Q g h) (by simp) (c7 E iI) (by show 1+_<=_;omega);rw[oR]at e;refine sF ((MP (o _ _)).trans (by rw[C];rfl)) (sF (O9 (p:=false) (q:=false) ((MP (o _ _)).trans (by rw[F];rfl)) fun _=>(MP (o _ _)).trans (by rw[B];rfl)) (sN (sS (o _ _)) (sN (ρ':=[.fr (.tup (.str k::G.map Gu.d)),.fr (.tup (bs.map Bx.d)),.fr (.tup (rs.map Rm.d)),.fr (.str (cB 0 ([k]++G.flatMap (Gu.ws (bs.map Bx.nm) (rs.map Rm.nm))))),D]) ?_ rfl)));show (((vy (aF 0) (gG (fC (.int (1:Nat)))) xJ [.fr (.tup (.str k::G.map Gu.d)),.fr (.tup (bs.map Bx.d)),.fr (.tup (rs.map Rm.d)),.fr (.str k),.no]).bind _).bind _)=_;rw[slW (k:=1) (w:=.fr (.tup (.str k::G.map Gu.d))) rfl rfl];exact e
  cases g with
  | yes=>
   show fin (gM (law_guard_row_F n) [.fr (.tup [.str "yes"]),.fr (.tup (bs.map Bx.d)),.fr (.tup (rs.map Rm.d)),.no,.no])=_;rw[show (Gu.yes.ws (bs.map Bx.nm) (rs.map Rm.nm))=[("yes" : Str)] from rfl,oR];rfl
  | is b v=>exact O _ b v (.inl rfl) h.1 (j4 h.2)
  | under b v=>exact O _ b v (.inr rfl) h.1 (j4 h.2)
  | inn r=>
   have w:=(hr.wo _ (BJ (i:=r) (by rw[R];exact h))).wd;have l:=w.le;rw[<-bI]at l;show fin (gM (law_guard_row_F n) [.fr (.tup [.str "in",.int r]),.fr (.tup (bs.map Bx.d)),.fr (.tup (rs.map Rm.d)),.no,.no])=_;refine sT rfl (Jy (fO (x:=.fr (.str "in ")) rfl (Fz (fun x=>⟨_,rfl⟩) h rfl rfl) ((nM (by have:("in " : Str).length<=10:=(lit ("in ","in") (by simp)).2;omega)).trans ?_)));rw[Ed (lit ("in ","in") (by simp)).1];rfl
  | neg g=>exact (M "not" [g] (.inl rfl) (hV rfl) (fun y T=>by rw[gE.mp T];exact h)).trans (by simp [Gu.ws])
  | both g j=>exact (M "both" [g,j] (.inr (.inl rfl)) (hZ _) (fun y T=>by rcases List.mem_cons.mp T with rfl | T;exact h.1;rw[gE.mp T];exact h.2)).trans (by simp [Gu.ws])
  | either g j=>exact (M "either" [g,j] (.inr (.inr rfl)) (hZ _) (fun y T=>by rcases List.mem_cons.mp T with rfl | T;exact h.1;rw[gE.mp T];exact h.2)).trans (by simp [Gu.ws])
theorem O4(a:Array Nat):∀ n b,((List.replicate n a).foldl (· ++ ·) b).toList=b.toList++(List.replicate n a.toList).flatten
 | 0,b=>by simp
 | n+1,b=>by
  rw[cK,fo,O4 a n (b++a),cK,List.flatten_cons,Array.toList_append,bS]
def qAB:("  " : Str).cps.toList=[32,32]:=by ext y
theorem O5:∀ n:Nat,(List.replicate n [32,32]).flatten=List.replicate (2*n) 32
 | 0=>rfl
 | n+1=>by
  rw[cK,List.flatten_cons,O5 n,show 2*(n+1)=2*n+1+1 by omega,cK,cK];rfl
def mul_list(d:Nat):cd (Txt.mul "  " (d:Int))=List.replicate (2*d) 32:=by
 unfold Txt.mul
 by_cases c:d=0
 .subst c;rfl
 .rw[cn (by omega)]
  by_cases h:d=1
  .subst h;rw[cq (show (((1:Nat):Int)==1||(("  " : Str)).length==0)=true from rfl)];exact qAB
  .rw[cn (by
    have:((d:Int)==1)=false:=cE.mpr (by omega);rw[this]
    decide +kernel)]
   show ((List.replicate ((d:Int)).toNat ("  " : Str).cps).foldl (· ++ ·) #[]).toList=_;rw[Va,O4,qAB,O5];rfl
def qH4{l m:aw D}(h:l.length+m.length<=100000):aa (.lst l) (.lst m) = .ok (.ow (l++m)):=cq (le_size (by omega))
def qGH{i:Nat}{l:aw D}{f:FE}{ρ:aw Sl}{w:W}{d:D}(e:ρ[i]? = some (.ow l))(h:f ρ = .ok w)(b:w.z = .ok d)(H:l.length<100000)(nb:ρ.all Sl.nb=true):jd i f ρ = .ok (.nx (ρ.set i (.ow (l++[d])))):=by unfold jd;rw[e];show ((f ρ).bind _)=_;rw[h,pB,b,pB,cq ⟨M7 H (le_size (by omega)),nb⟩]
theorem XQ{α β:Type}{b:FB}{g:FS}(f:β->D)(st:aw Str->α->aw Sl)(Q:β->Prop)(rows:β->aw Str)(k:Nat)(H:∀ x,Q x->(rows x).length<=k)(step:∀ x l a,Q x->l.length+k<=100000->∃ ρ1 A,b (f x) (st l a)=some ρ1/\g ρ1 = .ok (.nx (st (l++rows x) A))):∀(xs:aw β)(l:aw Str)(a:α),(∀ x∈xs,Q x)->l.length+k*xs.length<=100000->∃ A,vq b g (xs.map f) (st l a) = .ok (.nx (st (l++xs.flatMap rows) A))
 | [],l,a,_,_=>⟨a,by rw[List.flatMap_nil,qH];rfl⟩
 | x::xs,l,a,h,c=>by
  have q:=h x qK;have r:=H x q;rw[gH,Nat.mul_succ]at c;obtain⟨ρ1,a1,E,e⟩:=step x l a q (by omega);obtain⟨a2,U⟩:=XQ f st Q rows k H step xs (l++rows x) a1 (fun y T=>h y (rM _ T)) (by rw[jB];omega);refine⟨a2,?_⟩;rw[bt,vq,E]
  dsimp only
  rw[e,pB,fg,<-bS];exact U
theorem qB9{β:Type}{e:FE}{cs:aw Sl}{f h:β->D}:∀ {xs:aw β},(∀ x∈xs,e (.fr (f x)::cs) = .ok (.fr (h x)))->ig nJ e cs (xs.map f) = .ok (xs.map h)
 | [],_=>rfl
 | x::xs,H=>by
  rw[bt,ig];show ((e (.fr (f x)::cs)).bind _)=_;rw[H x qK,pB];show (ig nJ e cs (xs.map f)).bind _=_;rw[qB9 fun y T=>H y (rM _ T)];rfl
theorem Ph{α β:Type}(g:α->β):∀ l:aw α,l.flatMap (fun x=>[g x])=l.map g
 | []=>rfl
 | x::l=>by rw[fg,Ph g l];rfl
def one_le{w:Str}(h:Wd w):w.length<=40:=by rw[bI];exact h.le
def xO{k l:Str}(p:(l,k)∈[(("in " : Str),("in" : Str)),("out ","out"),("do ","do")])(a:lD (bs.map Bx.nm))(i:lD es){d:aw De}(hd:d.length<=8/\∀ e∈d,e.Ok bs es.length){f:FE}{ρ:aw Sl}(g:f ρ = .ok (.fr (.tup (d.map De.d))))(m:((ρ[1]?).getD Sl.no).cap = .fr (.tup (bs.map Bx.d)))(o:((ρ[2]?).getD Sl.no).cap = .fr (.tup (es.map D.str))):gQ (jA false f) [(1,"_law_boxes_here"),(2,"_law_events")] nJ (aK aa (fC (.str l)) (aP (bU law_deed_row_F) 3 (aD (aF 0) (aD (aF 1) (aD (aF 2) aL))))) ρ = .ok (.ow ((d.flatMap fun e=>[pX k (bs.map Bx.nm) es e]).map D.str)):=by
 have j:cd l=cd k++[32]/\l.length<=10:=lit (l,k) (by simp at p ⊢;rcases p with ⟨rfl,rfl⟩ | ⟨rfl,rfl⟩ | ⟨rfl,rfl⟩ <;> simp)
 have c:=qB9 (e:=aK aa (fC (.str l)) (aP (bU law_deed_row_F) 3 (aD (aF 0) (aD (aF 1) (aD (aF 2) aL))))) (cs:=[.fr (.tup (bs.map Bx.d)),.fr (.tup (es.map D.str))]) (f:=De.d) (h:=fun e=>D.str (pX k (bs.map Bx.nm) es e)) (xs:=d) fun e H=>by
  have w:=De.wd a i (hd.2 e H);have n:=De.few (bs.map Bx.nm) es e;have b:=Ak (b:=0) w;refine fO (x:=.fr (.str l)) rfl (iQ (ws:=[.fr e.d,.fr (.tup (bs.map Bx.d)),.fr (.tup (es.map D.str))]) rfl (Oe a i (hd.2 e H)) rfl (.inl rfl)) ((nM (by omega)).trans ?_);rw[Jv j.1 (by cases e <;> simp [De.ws])];rfl
 unfold gQ
 have s:jA false f ρ = .ok (d.map De.d):=by unfold jA;rw[g];rfl
 rw[s,pB,cq (by rw[fH];exact zI (by omega)),show rK [(1,"_law_boxes_here"),(2,"_law_events")] ρ=[.fr (.tup (bs.map Bx.d)),.fr (.tup (es.map D.str))] by unfold rK;rw[bt,bt,m,o];rfl,c];show Rz.ok (W.ow _)=_;congr 2;rw[Ph,fT];rfl
def Vu:ax D->Sl
 | none=>.no
 | some d=>.fr d
def FN(o:ax D):(Vu o).nb=true:=by cases o <;> rfl
theorem Ym{c:Ct}(h:c.Ok):law_rows_F [c.d] = .ok (.lst (c.rows.map D.str)):=by
 have b6:=h.b6;have e8:=h.e8;have r40:=h.r40;have d60:=h.d60;have li:∀ k l:Str,(l,k)∈[(("order " : Str),("order" : Str)),("letters ","letters"),("turns ","turns"),("box ","box"),("event ","event"),("door ","door"),("when ","when")]->cd l=cd k++[32]/\l.length<=10:=fun k l hp=>lit (l,k) (by simp at hp ⊢;rcases hp with ⟨rfl,rfl⟩ | ⟨rfl,rfl⟩ | ⟨rfl,rfl⟩ | ⟨rfl,rfl⟩ | ⟨rfl,rfl⟩ | ⟨rfl,rfl⟩ | ⟨rfl,rfl⟩ <;> simp)
 have F:∀(k l a:Str)(f:FE)(ρ:aw Sl),(l,k)∈[(("order " : Str),("order" : Str)),("letters ","letters"),("turns ","turns"),("box ","box"),("event ","event"),("door ","door"),("when ","when")]->f ρ = .ok (.fr (.str a))->a.length<=40->aK aa (fC (.str l)) f ρ = .ok (.fr (.str (cB 0 [k,a]))):=fun k l a f ρ hp H ha=>by
  obtain⟨Q,Z⟩:=li k l hp;rw[<-Ed Q];exact fO (x:=.fr (.str l)) rfl H (nM (by omega))
 have A:∀(b:Nat)(ws:aw Str)(a:Str)(f g:FE)(ρ:aw Sl),f ρ = .ok (.fr (.str (cB b ws)))->g ρ = .ok (.fr (.str a))->ws≠[]->(∀ w∈ws,Wd w)->a.length<=40->b<=100->ws.length<=130->aK aa (aK aa f (fC (.str " "))) g ρ = .ok (.fr (.str (cB b (ws++[a])))):=fun b ws a f g ρ H hg h0 M ha hb o=>by
  have l1:=Ak (b:=b) M;have s1:(" " : Str).length=1:=rfl;rw[<-uh h0];exact fO (x:=.fr (.str (cB b ws ++ " "))) (fO H (y:=.fr (.str " ")) rfl (nM (by omega))) hg (nM (by rw[bI (cB b ws ++ " "),eY,jB,<-bI,<-bI];omega))
 let B:Sl:=.fr (.tup (c.bs.map Bx.d))
 let E:Sl:=.fr (.tup (c.es.map D.str))
 let R:Sl:=.fr (.tup (c.rs.map Rm.d))
 let S:aw Str->ax D->ax D->ax D->ax D->ax D->aw Sl:=fun l a5 a6 a7 a8 a9=>[.fr c.d,B,E,R,.ow (l.map D.str),Vu a5,Vu a6,Vu a7,Vu a8,Vu a9]
 have nb:∀ l a5 a6 a7 a8 a9,(S l a5 a6 a7 a8 a9).all Sl.nb=true:=fun l a5 a6 a7 a8 a9=>by
  show ((Vu a5).nb&&((Vu a6).nb&&((Vu a7).nb&&((Vu a8).nb&&((Vu a9).nb&&true)))))=true;rw[FN,FN,FN,FN,FN];rfl
 have app:∀(l:aw Str)(a5 a6 a7 a8 a9:ax D)(f:FE)(z:Str),f (S l a5 a6 a7 a8 a9) = .ok (.fr (.str z))->l.length<100000->jd 4 f (S l a5 a6 a7 a8 a9) = .ok (.nx (S (l++[z]) a5 a6 a7 a8 a9)):=fun l a5 a6 a7 a8 a9 f z H o=>by
  refine (qGH (l:=l.map D.str) rfl H rfl (by rw[fH];exact o) (nb _ _ _ _ _ _)).trans ?_;rw[show l.map D.str++[.str z]=(l++[z]).map D.str by rw[vd];rfl];rfl
 have C:∀(l m:aw Str)(a5 a6 a7 a8 a9:ax D)(f:FE),f (S l a5 a6 a7 a8 a9) = .ok (.ow (m.map D.str))->l.length+m.length<=100000->uW 4 (aK aa (aF 4) f) (S l a5 a6 a7 a8 a9) = .ok (.nx (S (l++m) a5 a6 a7 a8 a9)):=fun l m a5 a6 a7 a8 a9 f H o=>by
  refine (FZ (fO (x:=.bw (l.map D.str)) rfl H (qH4 (by rw[fH,fH];exact o)))).trans ?_;rw[show l.map D.str++m.map D.str=(l++m).map D.str from vd.symm];rfl
 obtain⟨a5,f1⟩:=XQ (b:=bN 5) (g:=jd 4 (aK aa (aK aa (aK aa (aK aa (aK aa (fC (.str "box ")) (aK bF (aF 5) (fC (.int 0)))) (fC (.str " "))) (dY Ag (aD (aK bF (aF 5) (fC (.int 1))) aL))) (fC (.str " "))) (dY Ag (aD (aK bF (aF 5) (fC (.int 2))) aL)))) Bx.d (fun l a=>S l a none none none none) (· ∈ c.bs) (fun b:Bx=>[b.row]) 1 (fun _ _=>jC _) (fun b l a hb o=>⟨_,some b.d,rfl,by
  have z:=h.bz b hb;have W:=(h.bn.wo _ (rA.mpr ⟨b,hb,rfl⟩)).wd;have N:=j4 (v:=b.sz) ⟨by unfold big;omega,z.1.2⟩;have O:=j4 (v:=b.st) ⟨by unfold big;omega,by omega⟩;have w1:=gY N;have w2:=gY O
  exact app l (some b.d) none none none none _ b.row (A 0 ["box",b.nm,cu b.sz] (cu b.st) _ _ _ (A 0 ["box",b.nm] (cu b.sz) _ _ _ (F "box" "box " b.nm _ _ (by simp) rfl (one_le W)) (str_is N) (by simp) (c7 (kw _ (by simp)) (c7 W iI)) (one_le w1) (by decide) (Nat.le_of_ble_eq_true rfl)) (str_is O) (by simp) (c7 (kw _ (by simp)) (c7 W (c7 w1 iI))) (one_le w2) (by decide) (Nat.le_of_ble_eq_true rfl)) (by omega)⟩) c.bs [cB 0 ["order",c.od],cB 0 ["letters",cu c.lt],cB 0 ["turns",cu c.tn]] none (fun _ h=>h) (by show 3+1*_<=_;omega)
 obtain⟨a6,f2⟩:=XQ (b:=bN 6) (g:=jd 4 (aK aa (fC (.str "event ")) (aF 6))) D.str (fun l a=>S l a5 a none none none) (· ∈ c.es) (fun e:Str=>[cB 0 ["event",e]]) 1 (fun _ _=>Nat.le_refl _) (fun e l a he o=>⟨_,some (.str e),rfl,app l a5 (some (.str e)) none none none _ _ (F "event" "event " e _ _ (by simp) rfl (one_le (h.en.wo e he).wd)) (by omega)⟩) c.es ([cB 0 ["order",c.od],cB 0 ["letters",cu c.lt],cB 0 ["turns",cu c.tn]]++c.bs.flatMap fun b=>[b.row]) none (fun _ h=>h) (by rw[List.length_append,Ph,List.length_map];show 3+_+1*_<=_;omega)
 obtain⟨⟨a7,a8⟩,f3⟩:=XQ (b:=bN 7) (g:=Au) Rm.d (fun l (a:ax D×ax D)=>S l a5 a6 a.1 a.2 none) (fun r=>r∈c.rs/\∃ p,r.Ir p) (Rm.rows (c.bs.map Bx.nm) c.es) 17 (fun r hr=>by
   unfold Rm.rows;rw[gH,jB,Ph,Ph,fH,fH];have:=(h.rd r hr.1).1.1;have:=(h.rd r hr.1).2.1
   omega) (fun r l a ⟨hr,p,H⟩ o=>by
  obtain⟨a7,a8⟩:=a;have low:=H.low;have W:=H.wo.wd
  have kk:Wd r.kd/\r.kd.length<=5:=by
   have:=H.kd;unfold rG at this;rw[eK]at this
   have m:r.kd = "plain" ∨ r.kd = "one" ∨ r.kd = "all" := by simpa using this
   have:∀ k∈[("plain" : Str),"one","all"],k.length<=5:=by ext y
   rcases m with e | e | e <;> rw[e] <;> exact⟨kw _ (by simp),this _ (by simp)⟩
  have I:∀(j:Nat)(d:D)(l:aw Str)(a8:ax D),[D.str r.nm,.str r.kd,.int r.dp,.str r.kp,.str r.lp,.tup (r.ins.map De.d),.tup (r.outs.map De.d)][j]? = some d->aK bF (aF 7) (fC (.int j)) (S l a5 a6 (some r.d) a8 none) = .ok (.fr d):=fun j d l a8 J=>fO (x:=.fr r.d) (y:=.fr (.int j)) rfl rfl (zz J).2
  have cm:cd (Txt.mul "  " (r.dp:Int)++r.kd)=cd (cB (2*r.dp) [r.kd]):=by
   rw[eY,mul_list,Bf];simp [qJ.jc]
  have L:(Txt.mul "  " (r.dp:Int)).length=2*r.dp:=by rw[bI,mul_list,cx]
  have m1:aK aa (aK jJ (fC (.str "  ")) (aK bF (aF 7) (fC (.int 2)))) (aK bF (aF 7) (fC (.int 1))) (S l a5 a6 (some r.d) a8 none) = .ok (.fr (.str (cB (2*r.dp) [r.kd]))):=by
   refine fO (x:=.fr (.str (Txt.mul "  " (r.dp:Int)))) (fO (x:=.fr (.str "  ")) rfl (I 2 _ l a8 rfl) ?_) (I 1 _ l a8 rfl) ((nM (by omega)).trans (by rw[xU cm]));show (if (-1000<=(r.dp:Int)/\(r.dp:Int)<=1000)/\("  " : Str).length<=1000 then _ else _)=_;rw[cq ⟨⟨by omega,by omega⟩,by ext y⟩]
  have s8:aW 8 _ (S l a5 a6 (some r.d) a8 none) = .ok (.nx (S l a5 a6 (some r.d) (some (.str (cB (2*r.dp) [r.kd,r.nm]))) none)):=sS (A (2*r.dp) [r.kd] r.nm _ _ _ m1 (I 0 _ l a8 rfl) (by simp) (c7 kk.1 iI) (one_le W) (by omega) (Nat.le_of_ble_eq_true rfl))
  have mk:∀(j:Nat)(m L z:Str)(ws:aw Str),(L,m)∈[((" keeps " : Str),("keeps" : Str)),(" lamp ","lamp")]->[D.str r.nm,.str r.kd,.int r.dp,.str r.kp,.str r.lp,.tup (r.ins.map De.d),.tup (r.outs.map De.d)][j]? = some (.str z)->(z = "" ∨ Wd z)->ws≠[]->(∀ w∈ws,Wd w)->ws.length<=10->eV (aQ (aK (dJ true) (aK bF (aF 7) (fC (.int j))) (fC (.str "")))) (aW 8 (aK aa (aK aa (aF 8) (fC (.str L))) (aK bF (aF 7) (fC (.int j))))) bJ (S l a5 a6 (some r.d) (some (.str (cB (2*r.dp) ws))) none) = .ok (.nx (S l a5 a6 (some r.d) (some (.str (cB (2*r.dp) (ws++Df m z)))) none)):=fun j m L z ws hm J hz h0 M o=>by
   have t:=MP (ng:=true) (b := "") (I j _ l (some (.str (cB (2*r.dp) ws))) J);unfold Df
   by_cases e:z = ""
   .rw[e]at t;rw[cq e,qH];exact (M8 t).trans rfl
   .rw[cn e];rw[cE.mpr e]at t;have wz:=hz.resolve_left e;have wl:=one_le wz;have l1:=Ak (b:=2*r.dp) M
    have k2:∀ p∈[((" keeps " : Str),("keeps" : Str)),(" lamp ","lamp")],cd p.1=32::cd p.2++[32]/\p.1.length<=10:=by ext y
    obtain⟨Q,Z⟩:=k2 _ hm
    replace Q:cd L=32::cd m++[32]:=Q
    replace Z:L.length<=10:=Z
    refine (Hl t).trans (sS (d:=.str (cB (2*r.dp) (ws++[m,z]))) (fO (x:=.fr (.str (cB (2*r.dp) ws++L))) (fO (x:=.fr (.str (cB (2*r.dp) ws))) (y:=.fr (.str L)) rfl rfl (nM (by omega))) (I j _ l _ J) ((nM (by rw[bI (cB (2*r.dp) ws++L),eY,jB,<-bI,<-bI];omega)).trans ?_)));congr 3;apply xU;rw[eY,eY,Q,Ef h0 (by simp),show [m,z]=[m]++[z] from rfl,Ef (by simp) (by simp),oR,oR];simp
  have wk:r.kp = "" ∨ Wd r.kp:=by rcases H.kp with e | ⟨e,_⟩ | ⟨e,_⟩ <;> rw[e];exact .inl rfl;exact .inr (kw _ (by simp));exact .inr (kw _ (by simp))
  have wl:r.lp = "" ∨ Wd r.lp:=H.lp.imp id Wo.wd;have w2:∀ w∈[r.kd,r.nm],Wd w:=c7 kk.1 (c7 W iI)
  have mw:∀ w∈Df "keeps" r.kp,Wd w:=by
   unfold Df
   split
   .exact iI
   .rename_i e
    exact c7 (kw _ (by simp)) (c7 (wk.resolve_left e) iI)
  have ml:(Df "keeps" r.kp).length<=2:=by unfold Df;split <;> simp
  have s9:=mk 3 "keeps" " keeps " r.kp [r.kd,r.nm] (by simp) rfl wk (by simp) w2 (Nat.le_of_ble_eq_true rfl);have U:=mk 4 "lamp" " lamp " r.lp ([r.kd,r.nm]++Df "keeps" r.kp) (by simp) rfl wl (by simp) (fun w M=>(List.mem_append.mp M).elim (w2 w) (mw w)) (by rw[List.length_append];show 2+_<=10;omega);rw[bS]at U;have d1:=(h.rd r hr).1;have d2:=(h.rd r hr).2;refine⟨_,(some r.d,some (.str (cB (2*r.dp) r.ws))),rfl,qN s8 (qN s9 (qN U (qN (app l a5 a6 (some r.d) (some (.str (cB (2*r.dp) r.ws))) none _ _ rfl (by omega)) (qN (C _ (r.ins.flatMap fun e=>[pX "in" (c.bs.map Bx.nm) c.es e]) _ _ _ _ _ _ (xO (by simp) h.bn h.en d1 (I 5 _ _ _ rfl) rfl rfl) ?_) ((C _ (r.outs.flatMap fun e=>[pX "out" (c.bs.map Bx.nm) c.es e]) _ _ _ _ _ _ (xO (by simp) h.bn h.en d2 (I 6 _ _ _ rfl) rfl rfl) ?_).trans ?_)))))⟩
  .rw[Ph,fH,jB];show l.length+1+_<=_;have:=d1.1;omega
  .rw[Ph,Ph,fH,jB,fH,jB];show l.length+1+_+_<=_;have:=d1.1;have:=d2.1;omega
  .congr 2;unfold Rm.rows;rw[bS,bS]
   rfl) c.rs ([cB 0 ["order",c.od],cB 0 ["letters",cu c.lt],cB 0 ["turns",cu c.tn]]++(c.bs.flatMap fun b=>[b.row])++c.es.flatMap fun e=>[cB 0 ["event",e]]) (none,none) (fun r hr=>by
   obtain⟨i,hi⟩:=gy.mp hr
   exact⟨hr,_,h.rf i r hi⟩) (by rw[jB,jB,Ph,Ph,fH,fH];show 3+_+_+17*_<=_;omega)
 obtain⟨⟨_,a9⟩,f4⟩:=XQ (b:=bN 9) (g:=AA) Dr.d (fun l (a:ax D×ax D)=>S l a5 a6 a7 a.1 a.2) (· ∈ c.ds) (Dr.rows (c.bs.map Bx.nm) (c.rs.map Rm.nm) c.es) 10 (fun x G=>by
   unfold Dr.rows xj;rw[gH,jB,Ph,fH];have:=(h.df x G).2.2.1
   split <;> simp <;> omega) (fun x l a G o=>by
  obtain⟨a8,a9⟩:=a;obtain⟨X,x2,x3⟩:=h.df x G;have nm:∀ i,i<c.rs.length->Wd ((c.rs.map Rm.nm).getD i ""):=fun i hi=>(h.rn.wo _ (BJ (by rw[fH];exact hi))).wd;have wr:=nm _ X.rm;have we:=(h.en.wo _ (BJ X.ev)).wd;have u:∀(j:Nat)(d:D)(l:aw Str)(a8:ax D),[D.int x.rm,.int x.ev,x.gu.d,.tup (x.dd.map De.d),.str x.way,nH x.goal][j]? = some d->aK bF (aF 9) (fC (.int j)) (S l a5 a6 a7 a8 (some x.d)) = .ok (.fr d):=fun j d l a8 J=>fO (x:=.fr x.d) (y:=.fr (.int j)) rfl rfl (zz J).2
  have ww:Wd x.way:=by
   rcases X.go with ⟨e,_⟩ | ⟨e,_⟩ | ⟨e,_⟩ <;> rw[e] <;> exact kw _ (by simp)
  let ws:aw Str:=["door",(c.rs.map Rm.nm).getD x.rm "",c.es.getD x.ev "",x.way]
  have w4:∀ w∈ws,Wd w:=c7 (kw _ (by simp)) (c7 wr (c7 we (c7 ww iI)));have s8:aW 8 (aK aa (aK aa (aK aa (aK aa (aK aa (fC (.str "door ")) (aK bF (aK bF (aF 3) (aK bF (aF 9) (fC (.int 0)))) (fC (.int 0)))) (fC (.str " "))) (aK bF (aF 2) (aK bF (aF 9) (fC (.int 1))))) (fC (.str " "))) (aK bF (aF 9) (fC (.int 4)))) (S l a5 a6 a7 a8 (some x.d)) = .ok (.nx (S l a5 a6 a7 (some (.str (cB 0 ws))) (some x.d))):=sS (A 0 ["door",(c.rs.map Rm.nm).getD x.rm "",c.es.getD x.ev ""] x.way _ _ _ (A 0 ["door",(c.rs.map Rm.nm).getD x.rm ""] (c.es.getD x.ev "") _ _ _ (F "door" "door " _ _ _ (by simp) (Fz (fun x=>⟨_,rfl⟩) X.rm rfl (u 0 _ l a8 rfl)) (one_le wr)) (fO (x:=.fr (.tup (c.es.map D.str))) rfl (u 1 _ l a8 rfl) (zz (by rw[List.getElem?_map,jt X.ev];rfl)).2) (by simp) (c7 (kw _ (by simp)) (c7 wr iI)) (one_le we) (by decide) (Nat.le_of_ble_eq_true rfl)) (u 4 _ l a8 rfl) (by simp) (c7 (kw _ (by simp)) (c7 wr (c7 we iI))) (one_le ww) (by decide) (Nat.le_of_ble_eq_true rfl))
  have s9:eV (aQ (aK (VM true) (aK bF (aF 9) (fC (.int 5))) (fC .non))) (aW 8 (aK aa (aK aa (aF 8) (fC (.str " "))) (aK bF (aK bF (aF 3) (aK bF (aF 9) (fC (.int 5)))) (fC (.int 0))))) bJ (S l a5 a6 a7 (some (.str (cB 0 ws))) (some x.d)) = .ok (.nx (S l a5 a6 a7 (some (.str (cB 0 (x.ws (c.rs.map Rm.nm) c.es)))) (some x.d))):=by
   have P:=u 5 _ l (some (.str (cB 0 ws))) rfl
   have gl:∀ g,x.goal=some g->g<c.rs.length:=fun g s=>by
    rcases X.go with ⟨_,g',Y,hg⟩ | ⟨_,g',r,Y,er,_⟩ | ⟨_,Y⟩ <;> rw[s]at Y <;> cases Y
    .exact hg
    .exact (rO.mp er).1
   unfold Dr.ws
   cases s:x.goal with
   | none=>
    rw[s]at P;exact (M8 (zc (w:=.fr (.bl false)) (fO P (y:=.fr .non) rfl rfl) rfl)).trans rfl
   | some g=>
    rw[s]at P;have wg:=nm g (gl g s);exact (Hl (zc (w:=.fr (.bl true)) (fO P (y:=.fr .non) rfl rfl) rfl)).trans (sS (A 0 ws _ _ _ _ rfl (Fz (fun x=>⟨_,rfl⟩) (gl g s) rfl P) (by simp [ws]) w4 (one_le wg) (by decide) (Nat.le_of_ble_eq_true rfl)))
  have z:ax D:=some (.str (cB 0 (x.ws (c.rs.map Rm.nm) c.es)));have U:=app l a5 a6 a7 (some (.str (cB 0 (x.ws (c.rs.map Rm.nm) c.es)))) (some x.d) (aF 8) (cB 0 (x.ws (c.rs.map Rm.nm) c.es)) rfl (by omega)
  have s11:eV (aQ (aK (dJ true) (aK bF (aK bF (aF 9) (fC (.int 2))) (fC (.int 0))) (fC (.str "yes")))) (jd 4 (aK aa (fC (.str "when ")) (aP (bU (law_guard_row_F 8)) 3 (aD (aK bF (aF 9) (fC (.int 2))) (aD (aF 1) (aD (aF 3) aL)))))) bJ (S (l++[cB 0 (x.ws (c.rs.map Rm.nm) c.es)]) a5 a6 a7 (some (.str (cB 0 (x.ws (c.rs.map Rm.nm) c.es)))) (some x.d)) = .ok (.nx (S (l++[cB 0 (x.ws (c.rs.map Rm.nm) c.es)]++xj (c.bs.map Bx.nm) (c.rs.map Rm.nm) x.gu) a5 a6 a7 (some (.str (cB 0 (x.ws (c.rs.map Rm.nm) c.es)))) (some x.d))):=by
   have i2:=fun l a8=>u 2 _ l a8 rfl
   have ky:∀ g:Gu,∃ k t,g.d = .tup (.str k::t)/\(k == "yes")=g.isY:=fun g=>by cases g <;> exact⟨_,_,rfl,rfl⟩
   obtain⟨k,t,ek,ey⟩:=ky x.gu;have T:=MP (ng:=true) (b := "yes") (f:=aK bF (aK bF (aF 9) (fC (.int 2))) (fC (.int 0))) (fO (i2 (l++[cB 0 (x.ws (c.rs.map Rm.nm) c.es)]) (some (.str (cB 0 (x.ws (c.rs.map Rm.nm) c.es))))) (y:=.fr (.int 0)) rfl (by show bF x.gu.d (.int 0) = .ok (.fr (.str k));rw[ek];exact (zz (i:=0) rfl).2));rw[ey]at T;unfold xj
   cases hy:x.gu.isY with
   | true=>
    rw[hy]at T;rw[cq rfl,qH];exact (M8 T).trans rfl
   | false=>
    rw[hy]at T;rw[cn xf];have gw:=Gu.wd h.bn h.rn 6 x.gu (by rw[fH,fH];exact x2);have gf:=Gu.few (c.bs.map Bx.nm) (c.rs.map Rm.nm) x2;have gl:=Ak (b:=0) gw;obtain⟨Q,Z⟩:=li "when" "when " (by simp);refine (Hl T).trans (app _ a5 a6 a7 _ (some x.d) _ _ (fO (x:=.fr (.str "when ")) rfl (iQ (ws:=[.fr x.gu.d,.fr (.tup (c.bs.map Bx.d)),.fr (.tup (c.rs.map Rm.d))]) (dF (i2 _ _) rfl) (yu h.bn h.rn 8 6 x.gu (by decide) (jC _) x2) rfl (.inl rfl)) ((nM (by omega)).trans (by rw[Jv Q (Gu.qAA _ _ _)]))) (by rw[jB];show l.length+1<_;omega))
  have wl:(xj (c.bs.map Bx.nm) (c.rs.map Rm.nm) x.gu).length<=1:=by unfold xj;split <;> simp
  refine⟨_,(some (.str (cB 0 (x.ws (c.rs.map Rm.nm) c.es))),some x.d),rfl,qN s8 (qN s9 (qN U (qN s11 ((C _ (x.dd.flatMap fun e=>[pX "do" (c.bs.map Bx.nm) c.es e]) _ _ _ _ _ _ (xO (by simp) h.bn h.en x3 (u 3 _ _ _ rfl) rfl rfl) ?_).trans ?_))))⟩
  .rw[Ph,fH,jB,jB];show l.length+1+_+_<=_;have:=x3.1;omega
  .congr 2;unfold Dr.rows;rw[bS,bS]
   rfl) c.ds ([cB 0 ["order",c.od],cB 0 ["letters",cu c.lt],cB 0 ["turns",cu c.tn]]++(c.bs.flatMap fun b=>[b.row])++(c.es.flatMap fun e=>[cB 0 ["event",e]])++c.rs.flatMap (Rm.rows (c.bs.map Bx.nm) c.es)) (a8,none) (fun _ h=>h) (by
   have q:∀ l:aw Rm,(∀ r∈l,r∈c.rs)->(l.flatMap (Rm.rows (c.bs.map Bx.nm) c.es)).length<=17*l.length:=fun l=>by
    induction l with
    | nil=>exact fun _=>jC _
    | cons r l ih=>
     intro o;have:=ih fun x G=>o x (rM _ G);have r1:=(h.rd r (o r qK)).1.1;have r2:=(h.rd r (o r qK)).2.1;rw[fg,jB,gH];unfold Rm.rows at this ⊢;rw[gH,jB,Ph,Ph,fH,fH];omega
   have:=q c.rs fun _ h=>h;rw[jB,jB,jB,Ph,Ph,fH,fH];show 3+_+_+_+10*_<=_
   omega)
 have f0:uW 4 (eX (aD (aK aa (fC (.str "order ")) (aK bF (aF 0) (fC (.int 0)))) (aD (aK aa (fC (.str "letters ")) (dY Ag (aD (aK bF (aF 0) (fC (.int 1))) aL))) (aD (aK aa (fC (.str "turns ")) (dY Ag (aD (aK bF (aF 0) (fC (.int 2))) aL))) aL)))) [.fr c.d,B,E,R,.no,.no,.no,.no,.no,.no] = .ok (.nx (S [cB 0 ["order",c.od],cB 0 ["letters",cu c.lt],cB 0 ["turns",cu c.tn]] none none none none none)):=by
  have N:=Aw (n:=c.lt) (by have:=h.lt;omega);have O:=Aw (n:=c.tn) (by have:=h.tn;omega)
  have ol:c.od.length<=40:=by rcases h.od with e | e <;> rw[e] <;> decide +kernel
  exact FZ (l:=[.str (cB 0 ["order",c.od]),.str (cB 0 ["letters",cu c.lt]),.str (cB 0 ["turns",cu c.tn])]) (Hm (ws:=[.fr (.str (cB 0 ["order",c.od])),.fr (.str (cB 0 ["letters",cu c.lt])),.fr (.str (cB 0 ["turns",cu c.tn]))]) (dF (F "order" "order " c.od _ _ (by simp) rfl ol) (dF (F "letters" "letters " (cu c.lt) _ _ (by simp) (str_is N) (one_le (gY N))) (dF (F "turns" "turns " (cu c.tn) _ _ (by simp) (str_is O) (one_le (gY O))) rfl))) rfl (Nat.le_of_ble_eq_true rfl))
 show fin (Gf [.fr c.d,.no,.no,.no,.no,.no,.no,.no,.no,.no])=_;refine sN (ρ':=[.fr c.d,B,.no,.no,.no,.no,.no,.no,.no,.no]) rfl (sN (ρ':=[.fr c.d,B,E,.no,.no,.no,.no,.no,.no,.no]) rfl (sN (ρ':=[.fr c.d,B,E,R,.no,.no,.no,.no,.no,.no]) rfl (sN f0 (sN f1 (sN f2 (sN f3 (sN f4 (j9 (w:=.bw _) rfl ?_))))))));show Rz.ok (D.lst _)=_;congr 2;unfold Ct.rows;simp only[List.append_assoc,List.cons_append,List.nil_append]
end
section
variable{P:ag}{w:ay}{K:dN}{mg:Str->ax av}{base:Heap}
def qB2(a:ar):FS:=
 (aU (aW 1 (aP (bU law_chart_F) 1 (aD (aF 0) aL)))
  (aU (aW 2 (aP (bU law_one_name_F) 1 (aD (aF 1) aL)))
  (aU (eV (vD (aQ (aP (bU (law_same_F 12)) 2 (aD (aP (bU (tZ a)) 1 (aD (fM "str" GK (fC (.str "\n")) (aD (aP (bU law_rows_F) 1 (aD (aF 2) aL)) aL)) aL)) (aD (aF 2) aL)))))
   (bO (fC (.bl false)))
   bJ)
  (bO (aP (bU (law_same_F 12)) 2 (aD (aP (bU (tZ a)) 1 (aD (fM "str" GK (fC (.str "\n")) (aD (aP (bU law_rows_F) 1 (aD (aF 1) aL)) aL)) aL)) (aD (aF 1) aL)))))))
def law_F(a:ar):aw D->Rz D:=dj 3 (qB2 a)
def QK:au ["_law_script","_law_chart_here","_law_alike"] ["_law_script"] (aV CG):=km
def qBZ(F:iU K "law" "law" CG f fd)
  (p:Dp P w K mg base bZ n f_law_chart d_law_chart ["_law_script"] (cI K C law_chart_F 1) "_law_chart")
  (j:Dp P w K mg base bZ n f_law_one_name d_law_one_name ["_law_chart_here"] (cI K C law_one_name_F 1) "_law_one_name")
  (h:Dp P w K mg base bZ n f_law_rows d_law_rows ["_law_chart_here"] (cI K C law_rows_F 1) "_law_rows")
  (Y:Dp P w K mg base bZ n f_read d_read ["text"] (cI K C (tZ aO) 1) "read")
  (u:Dp P w K mg base bZ n Gw HS ["_law_found","_law_due"] (cI K C (law_same_F 12) 2) "_law_same") (b:Hk K aO) :
  cM P w K mg base bZ (n+1) f fd ["_law_script"] (cI K C (law_F aO) 1):=
 mL F QK fun _ A _ s H E hr=>⟨_,
  (zE (zK (i:=1) QK.nd rfl (aT rfl) (pC p hr (zA (pv 0) zD)))
  (zE (zK (i:=2) QK.nd rfl (aT rfl) (pC j hr (zA (pv 1) zD)))
  (zE (yB (nT (gF (pC u hr (zA (pC Y hr (zA (fu (r:=QT K) d3 PySem.F.slot_str_join PySem.F.type_str_join SJ zQ (zA (pC h hr (zA (pv 2) zD)) zD)) zD)) (zA (pv 2) zD)))))
  (zG (zP qd))
  zU)
  (zG (zP (pC u hr (zA (pC Y hr (zA (fu (r:=QT K) d3 PySem.F.slot_str_join PySem.F.type_str_join SJ zQ (zA (pC h hr (zA (pv 1) zD)) zD)) zD)) (zA (pv 1) zD)))))))),
  (aN (aR (aM rfl (aA (aB 0) aJ)))
  (aN (aR (aM rfl (aA (aB 1) aJ)))
  (aN (cD (nW (pU (aM rfl (aA (aM rfl (aA (qu SM aZ (aA (aM rfl (aA (aB 2) aJ)) aJ)) aJ)) (aA (aB 2) aJ)))))
   (ao qw)
   bG)
  (ao (aM rfl (aA (aM rfl (aA (qu SM aZ (aA (aM rfl (aA (aB 1) aJ)) aJ)) aJ)) (aA (aB 1) aJ)))))))⟩
end
theorem Jm{α:Type}{f:α->D}:∀ {l:aw α},(∀ x∈l,sm (f x)=true)->smL (l.map f)=true
 | [],_=>rfl
 | x::l,h=>by
  rw[bt,smL,h x qK,Jm fun y T=>h y (rM _ T)];rfl
theorem La{α:Type}{f:α->D}{k:Nat}:∀ {l:aw α},(∀ x∈l,(f x).dep<=k)->Od (l.map f)<=k
 | [],_=>bb _
 | x::l,h=>by
  have a:=h x qK;have H:=La fun y T=>h y (rM _ T);rw[bt,Od];omega
def De.plain(e:De):sm e.d=true/\e.d.dep<=1:=by cases e <;> exact⟨rfl,jC _⟩
theorem Gu.sm_{b r:Nat}:∀ {n:Nat} {g:Gu},g.Ok b r n->sm g.d=true
 | 0,_,h=>h.elim
 | n+1,g,h=>by
  cases g with
  | neg g=>show (true&&(true&&(sm g.d&&true)))=true;rw[Gu.sm_ (g:=g) h];rfl
  | both g k=>show (true&&(true&&(sm g.d&&(sm k.d&&true))))=true;rw[Gu.sm_ (g:=g) h.1,Gu.sm_ (g:=k) h.2];rfl
  | either g k=>show (true&&(true&&(sm g.d&&(sm k.d&&true))))=true;rw[Gu.sm_ (g:=g) h.1,Gu.sm_ (g:=k) h.2];rfl
  | _=>rfl
def vH{l:aw De}(h:l.length<=8):sm (.tup (l.map De.d))=true/\(D.tup (l.map De.d)).dep<=2:=by rw[sm,fH,bq (by omega),Jm fun e _=>e.plain.1,D.dep];have:=La (f:=De.d) (l:=l) (k:=1) fun e _=>e.plain.2;exact⟨rfl,by omega⟩
def uD{α:Type}{f:α->D}{l:aw α}{k:Nat}(a:l.length<=1000)(h:∀ x∈l,sm (f x)=true/\(f x).dep<=k):sm (.tup (l.map f))=true/\(D.tup (l.map f)).dep<=k+1:=by rw[sm,fH,bq a,Jm fun x H=>(h x H).1,D.dep];have:=La (f:=f) (l:=l) (k:=k) fun x H=>(h x H).2;exact⟨rfl,by omega⟩
def Om{c:Ct}(h:c.Ok):sm c.d=true/\c.d.dep<12:=by
 have b:=uD (f:=Bx.d) (l:=c.bs) (k:=1) (by have:=h.b6;omega) fun _ _=>⟨rfl,jC _⟩;have e:=uD (f:=D.str) (l:=c.es) (k:=0) (by have:=h.e8;omega) fun _ _=>⟨rfl,jC _⟩
 have r:=uD (f:=Rm.d) (l:=c.rs) (k:=3) (by have:=h.r40;omega) fun r hr=>by
  obtain⟨I,_⟩:=vH (h.rd r hr).1.1;obtain⟨O,_⟩:=vH (h.rd r hr).2.1;constructor
  .show (true&&(true&&(true&&(true&&(true&&(true&&(sm (.tup (r.ins.map De.d))&&(sm (.tup (r.outs.map De.d))&&true))))))))=true;rw[I,O];rfl
  .show max 0 (max 0 (max 0 (max 0 (max 0 (max (D.tup (r.ins.map De.d)).dep (max (D.tup (r.outs.map De.d)).dep 0))))))+1<=3;omega
 have d:=uD (f:=Dr.d) (l:=c.ds) (k:=7) (by have:=h.d60;omega) fun x H=>by
  obtain⟨_,L,F,_⟩:=h.df x H;obtain⟨a,_⟩:=vH F;have g:=Gu.plain L
  have q:sm (nH x.goal)=true/\(nH x.goal).dep=0:=by cases x.goal <;> exact⟨rfl,rfl⟩
  constructor
  .show (true&&(true&&(true&&(sm x.gu.d&&(sm (.tup (x.dd.map De.d))&&(true&&(sm (nH x.goal)&&true)))))))=true;rw[Gu.sm_ L,a,q.1];rfl
  .show max 0 (max 0 (max x.gu.d.dep (max (D.tup (x.dd.map De.d)).dep (max 0 (max (nH x.goal).dep 0)))))+1<=7;omega
 constructor
 .show (true&&(true&&(true&&(true&&(sm (.tup (c.bs.map Bx.d))&&(sm (.tup (c.es.map D.str))&&(sm (.tup (c.rs.map Rm.d))&&(sm (.tup (c.ds.map Dr.d))&&true))))))))=true;rw[b.1,e.1,r.1,d.1];rfl
 .show max 0 (max 0 (max 0 (max (D.tup (c.bs.map Bx.d)).dep (max (D.tup (c.es.map D.str)).dep (max (D.tup (c.rs.map Rm.d)).dep (max (D.tup (c.ds.map Dr.d)).dep 0))))))+1<12;have:=b.2;have:=e.2;have:=r.2;have:=d.2;omega
theorem Vm:∀ {l:aw Str},(∀ y∈l,Rg y)->(l.map (·.length)).sum<=5430*l.length
 | [],_=>jC _
 | x::l,h=>by
  have H:=(h x qK).1;have a:=Vm fun y T=>h y (rM _ T);rw[<-bI]at H;rw[bt,List.sum_cons,gH];omega
def J5{C:ar}{c:Ct}(h:c.Ok){f:FE}{ρ:aw Sl}(H:f ρ = .ok (.fr c.d)):aP (bU (law_same_F 12)) 2 (aD (aP (bU (tZ C)) 1 (aD (fM "str" GK (fC (.str "\n")) (aD (aP (bU law_rows_F) 1 (aD f aL)) aL)) aL)) (aD f aL)) ρ = .ok (.fr (.bl true)):=by
 have p:=Om h;have r:=Rj h;have s:=Vm r.2
 have j:fM "str" GK (fC (.str "\n")) (aD (aP (bU law_rows_F) 1 (aD f aL)) aL) ρ = .ok (.fr (.str (Txt.join "\n" c.rows))):=by
  have a:aD (aP (bU law_rows_F) 1 (aD f aL)) aL ρ = .ok [.fr (.lst (c.rows.map D.str))]:=dF (iQ (ws:=[.fr c.d]) (dF H rfl) (Ym h) rfl (.inl rfl)) rfl;unfold fM;show (if D.wZ "str" (.str "\n")=true then (aD (aP (bU law_rows_F) 1 (aD f aL)) aL ρ).bind (fun ws=>GK (.str "\n") (ws.map W.d)) else .st)=_;rw[cq (show D.wZ "str" (.str "\n")=true from rfl),a];show (match ue (c.rows.map D.str) with | some ys=>if (ys.map fun y:Str=>y.length).sum+ys.length*("\n" : Str).length<=16777216 then Rz.ok (W.fr (.str (Txt.join "\n" ys))) else .st | none=>.st)=_;rw[Ra];show (if (c.rows.map fun y:Str=>y.length).sum+c.rows.length*("\n" : Str).length<=16777216 then Rz.ok (W.fr (.str (Txt.join "\n" c.rows))) else .st)=_;rw[cq (by have:("\n" : Str).length=1:=(by ext y);rw[this];have:=r.1;omega)]
 exact iQ (ws:=[.fr c.d,.fr c.d]) (dF (iQ (ws:=[.fr (.str (Txt.join "\n" c.rows))]) (dF j rfl) (Yt h) rfl (.inl rfl)) (dF H rfl)) (Rc 12 c.d p.2 p.1) rfl (.inl rfl)
def law_is(C:ar)(hs:s.length<=63):law_F C [.dZ s] = .ok (.bl true):=by obtain⟨c,d,h,⟨_,_,b,E⟩,⟨_,_,e,a⟩,_,_,F,U⟩:=Xj hs;have ok:c.Ok:=h.ok (by rw[E];exact (oU b).1) (by rw[a];exact (oU e).1) (by rw[U];exact (oU F).1);have o:c.W2.Ok:=h.W2.ok (by show lD ((wL c.bs).map Bx.nm);rw[Yr,E];exact Fe (oU b).1 (oU b).2) (by show lD (Ff c.es);rw[a];exact Fe (oU e).1 (oU e).2) (by show lD ((yZ c.rs).map Rm.nm);rw[Yp,U];exact Fe (oU F).1 (oU F).2);show fin (qB2 C [.fr (.dZ s),.no,.no])=_;exact sN (ρ':=[.fr (.dZ s),.fr c.d,.no]) (sS (iQ (ws:=[.fr (.dZ s)]) rfl d rfl (.inl rfl))) (sN (ρ':=[.fr (.dZ s),.fr c.d,.fr c.W2.d]) (sS (iQ (ws:=[.fr c.d]) rfl (Mw h) rfl (.inl rfl))) (sF (R1 (p:=true) (zc (J5 (C:=C) o rfl) rfl)) (j9 (J5 (C:=C) ok rfl) rfl)))
end zq
namespace Sw
open PySem PyProof.Rows
def oE:Slot "set_iterator" "__next__" "set_iterator.__next__" := .of (owner := "set_iterator") (n := "__next__") (by rw[typeLookup_type,builtinLookup_eq_fast];kernel_rfl) (by ext y) (by ext y) (by ext y) (by first | exact .inl (by ext y) | exact .inr (by ext y)) (by rw[isSubtype_type];kernel_rfl)
def Ii:entryFor table "set_iterator.__next__" = some Builtin.«set_iterator.__next__»:=entryFor_of_fast (by kernel_rfl)
def Lk(a:av):argsOk "set_iterator.__next__" ⟨[a],[]⟩:=by unfold argsOk;kernel_rfl
def xm:Slot "set_iterator" "__iter__" "set_iterator.__iter__" := .of (owner := "set_iterator") (n := "__iter__") (by rw[typeLookup_type,builtinLookup_eq_fast];kernel_rfl) (by ext y) (by ext y) (by ext y) (by first | exact .inl (by ext y) | exact .inr (by ext y)) (by rw[isSubtype_type];kernel_rfl)
def Ij:entryFor table "set_iterator.__iter__" = some Builtin.«dict_keyiterator.__iter__»:=entryFor_alias (id' := "dict_keyiterator.__iter__") (by kernel_rfl) rfl (by ext y) (by kernel_rfl)
def Ln(a:av):argsOk "set_iterator.__iter__" ⟨[a],[]⟩:=by unfold argsOk;kernel_rfl
def HD:entryFor table "set.__iter__" = some Builtin.«frozenset.__iter__»:=entryFor_alias (id' := "frozenset.__iter__") (by kernel_rfl) rfl (by ext y) (by kernel_rfl)
def qCJ:typeLookup (.type "set") "__len__" = pure (some (.builtin "set.__len__")):=by rw[typeLookup_type,builtinLookup_eq_fast];kernel_rfl
abbrev Nt(w:ay):Bool:=!(w.params.followText "set-order")
abbrev Oc(w:ay):Obj:={ cls:=.type "set",dict:=none,data:=.set #[] 0 (.fresh 0 0 (Nt w)) }
def vX(l:Bool):(SetTable.fresh 0 0 l).fits (#[]:Array (Int×av)).size=true:=by cases l <;> rfl
section
variable{prog:ag}{w:ay}{A:ah}{R:Result->ae->Prop}{I:ar}{fp wr:aw ar}{G:Array GenState->Array GenState->Prop}{P:Nat->av->Prop}{St:Nat->ae->Prop}
def qE2(W:WalksS prog w A.in1 I fp wr G 0 P St)(S:ar){s:ae}(st:St 0 s)(fin:∀ s',Moved wr G s s'->R (.ok (.ret .none)) s'):codeAny (model prog w) A (.builtin "set.update.loop" ⟨[.ref S,.ref I],[]⟩) R s:=by refine codeAny_builtin F.entry_set_update_loop ?_;rw[Around.under_plainId F.plain_set_update_loop _];show wpAny _ A.in1 (pyNext (.ref I) >>= _) _ _ s;refine aE (W.done s _ _ st fun s' c=>?_);exact aI (fin s' c)
end
section
variable{prog:ag}{w:ay}{A:ah}{E:av->ae->Prop}{s:ae}
def Zu(a:av){Q₁:av->ae->Prop}(fin:Q₁ (.ref s.heap.objs.size) { s with heap:=s.heap.push (Oc w) }) :
  codeAny (model prog w) A (.call (.builtin "set.__new__") ⟨[.type "set",a],[]⟩) (wants Q₁ E) s:=by
 refine codeAny_of_tree ?_;show wpAny _ A.in1 (do checkBuiltinCall "set.__new__" ⟨[.type "set",a],[]⟩;again (.builtin "set.__new__" ⟨[.type "set",a],[]⟩)) _ _ s;refine aE (wpAny_of_eq (PySem.F.newCall_set_1 a) (aI ⟨plainId_quiet PySem.F.plain_set_new _,codeAny_builtin PySem.F.entry_set_new ?_⟩));rw[Around.under_plainId PySem.F.plain_set_new _];unfold Builtin.«set.__new__» Builtin.Frozenset.newClass;have h:=sub_set_self;obtain⟨_,g,d,_,_⟩:=s
 dsimp only;wp_walk;refine wpAny_askSetting (aI ?_);dsimp only;simp only[newObj]
 refine aE (wpAny_alloc (aI ?_));exact aI fin
theorem Xl{p:ar}{Q:av->ae->Prop}(C:A.handled=none)(y:s.heap.IsList p #[])
  (fin:∀(h':Heap)(T:Nat),h'.get? s.heap.objs.size=some (Oc w) →
   (∀ b o,b<s.heap.objs.size->s.heap.get? b=some o->h'.get? b=some o)->Q (.ref s.heap.objs.size) { s with heap:=h',toks:=T }):wpAny (model prog w) A (call (.type "set") [.ref p]) Q E s:=by
 obtain⟨c,_,_⟩:=PySem.F.called_set.mro;have P:=PySem.F.called_set.made;have Y:=PySem.F.called_set.sub;refine wpAny_call (codeAny_of_tree ?_);show wpAny _ _ (callAny (.type "set") _) _ _ _;refine aI ⟨Code.quiet_builtin _ (by ext y),codeAny_builtin PySem.F.entry_type_call ?_⟩;rw[Around.under_plain (weight_type_call_type "set" [.ref p] []) rfl];have X:=PySem.F.called_set.notType;have f4:=PySem.F.called_set.canCreate;have W:=PySem.F.typeCall_set_1 (.ref p)
 repeat (any_goals (first | assumption | wp_step))
 refine codeAny_mono (Zu (.ref p) (E:=E) (Q₁:=fun obj d=>obj = .ref s.heap.objs.size/\d = { s with heap:=s.heap.push (Oc w) }) ⟨rfl,rfl⟩) fun r d hr=>?_
 cases r with
 | error e=>exact hr
 | ok F=>
  cases F with
  | ret obj=>
   obtain⟨rfl,rfl⟩:=hr;have G:(s.heap.push (Oc w)).get? s.heap.objs.size=some (Oc w):=Ab s.heap rfl;have D:Shared.TypeIs { s with heap:=s.heap.push (Oc w) } (.ref s.heap.objs.size) "set" := ⟨_,G,rfl⟩;have f6:=PySem.F.called_set.init.lookup;have f7:=PySem.F.called_set.init.bind (.ref s.heap.objs.size)
   repeat (any_goals (first | assumption | wp_step))
   refine codeAny_mono (codeAny_call_builtin (R:=wants (fun r S=>r = .none/\∃ h' T,S = { s with heap:=h',toks:=T }/\h'.get? s.heap.objs.size=some (Oc w) ∧
     (∀ b o,b<s.heap.objs.size->s.heap.get? b=some o->h'.get? b=some o)) E) PySem.F.called_set.init.plain PySem.F.entry_set_init (check_set_init_1 D ?_)) fun g S H=>?_
   .obtain⟨x,f,l,nl,a⟩:=y;obtain⟨_,t,_,O⟩:=x;simp only at l a;subst l a;have h:(s.heap.push (Oc w)).get? p=some { cls:=.type "list",dict:=t,data:=.seq #[] nl,slots:=O }:=tO _ f;have Z:=PySem.F.sub_list_set;have U:=PySem.F.sub_list_frozenset
    have f0:(Value.type "list" == Value.type "dict")=false:=by decide
    have j:(s.heap.push (Oc w)).IsList p #[]:=⟨_,h,rfl,nl,rfl⟩;unfold Builtin.«set.__init__» noKeywords Builtin.Frozenset.updateFrom;generalize I:pyIter=PI;wp_walk;subst I;refine wpAny_pyIter_list j (aE (wpAny_runValue ?_));have L:p<s.heap.objs.size:=rN f
    have M:A.in1.in1.in1.handled=none:=by simp [C]
    have N:p≠(s.heap.push (Oc w)).objs.size:=by
     rw[dS];exact Aa (ic L)
    refine qE2 ((Walks.list M _ p N #[]).toS) s.heap.objs.size ⟨⟨_,Ab _ rfl,rfl,rfl⟩,(j.push _)⟩ ?hRx
    case hRx=>
     intro s' m;obtain⟨h',g',d',u,k⟩:=s';have B:g'=s.gens:=m.gens;have J:d'=s.drawn:=m.drawn;have z:k=s.os:=m.os;subst B J z
     have v:∀ b o,b<s.heap.objs.size+1->(s.heap.push (Oc w)).get? b=some o->h'.get? b=some o:=fun b o lt e=>m.heap b o (by
      simp only[List.mem_cons,List.not_mem_nil,or_false];rw[dS]
      exact Aa lt) (tO _ e)
     show wpAny _ _ _ _ _ _;refine aI ?_;show wpAny _ _ (ret Value.none) _ _ _;exact aI ⟨rfl,h',u,rfl,v _ _ (ij _) G,fun b o lt e=>v b o (ic lt) (tO _ e)⟩
   .cases g with
    | error e=>exact H
    | ok i=>
     cases i with
     | ret r=>
      obtain⟨rfl,h',T,rfl,q,n⟩:=H
      repeat (any_goals (first | assumption | wp_step))
      exact fin _ _ q n
     | _=>exact H.elim
  | _=>exact hr.elim
end
abbrev itO(a:ar):Obj:={ cls:=.type "set_iterator",data:=.fields #[.int 0 0,.int 0 0,.ref a,.int 0 0,.int 0 0] }
section
variable{prog:ag}{w:ay}{A:ah}{E:av->ae->Prop}{s:ae}{I a:ar}
theorem qDS{Q:ax (av×Nat)->ae->Prop}(j:s.heap.get? a=some (Oc w))(h:Q none s):wpAny (model prog w) A (setNext a 0 0 0) Q E s:=by
 unfold setNext;refine aE (wpAny_setState_of j rfl (vX _) ?_);unfold setsByText;refine aE (aE (wpAny_askSetting (aI ?_)))
 dsimp only
 cases hb:w.params.followText "set-order" with
 | true=>
  ext n;simp only[bne_self_eq_false,Bool.false_eq_true,if_false];unfold setWalk;refine aE (aE (wpAny_setState_of j rfl (vX _) ?_));unfold setsByText;refine aE (aE (wpAny_askSetting (aI ?_)))
  dsimp only
  ext n;exact aE (wpAny_askSetting (aI (aI h)))
 | false=>
  rw[show (⟨(model prog w).prog,(model prog w).w.params⟩:Setting).params.followText "set-order" = false from hb,cn (by decide)];refine (show wpAny _ _ (if (!(SetTable.fresh 0 0 (Nt w)).plain&&decide ((#[]:Array (Int×av)).size>1))=true then _ else _) _ _ s from ?_);rw[show (!(SetTable.fresh 0 0 (Nt w)).plain&&decide ((#[]:Array (Int×av)).size>1))=false from by simp,if_neg (by decide)];show wpAny _ _ ((if (!(SetTable.fresh 0 0 (Nt w)).led&&!(#[]:Array (Int×av)).isEmpty)=true then _ else _) >>= _) _ _ s;rw[if_neg (by simp)];exact aE (aI (aI h))
def qD5(f:A.handled=none)(j:a≠I):Walks prog w A I [I,a] [I] 0 (fun _ _=>False) (fun _ h=>h.get? I=some (itO a)/\h.get? a=some (Oc w)) where
 sub:=fun b c=>by simp at c;simp [c]
 frame:=fun i h _ st k=>⟨k I (by simp) _ st.1,k a (by simp) _ st.2⟩
 item:=fun i s Q E g=>d6 g (iN _)
 done:=fun s Q E st d=>by
  obtain⟨H,hs⟩:=st;have ty:s.TypeIs (.ref I) "set_iterator" := ⟨_,H,rfl⟩;unfold pyNext;refine aE (wpAny_attempt (wpAny_callSpecial?_slot (name:=Str.ofString "__next__") ty oE (wpAny_call_entry oE ty Ii ?_ (Lk _))));show wpAny _ _ (fieldsOf (.ref I) >>= _) _ _ s;refine aE (wpAny_fieldsOf H rfl ?_);show wpAny _ _ (setEntries a >>= _) _ _ s;refine aE (wpAny_setEntries_of hs rfl (vX _) ?_);rw[if_neg (by simp)];show wpAny _ _ (setNext a 0 0 0 >>= _) _ _ s;refine aE (qDS hs ?_);show wpAny _ _ (setField (.ref I) 2 .none >>= _) _ _ s;refine wpAny_bind (wpAny_setField H rfl (by simp) ?_);refine aE ?_;simp only[newExc,newTuple];refine aE (wpAny_newObj_type ?_ (by size_fits));refine wpAny_bind (m:=firstArgMember _ _) (wpAny_of_eq (a:=Value.none) (by first | rfl | (simp only[firstArgMember];rfl)) ?_);refine wpAny_newObj_type ?_ (by size_fits);simp only[raiseNew];refine aE (wpAny_handled ?_);rw[show A.in1.handled=none from f];refine aE (aI (wpAny_throw ?_));refine aE (wpAny_isInstance (T := "StopIteration") (b:=true) ⟨_,Ab _ rfl,rfl⟩ isSubtype_stop ?_);exact wpAny_pure (d _ s.toks fun b o c e=>Heap.get?_push_of_some _ (Heap.get?_push_of_some _ ((Heap.get?_update_other _ _ (fun z=>c (by simp [z]))).trans e)))
 self:=fun i s Q E st d=>by
  have ty:s.TypeIs (.ref I) "set_iterator" := ⟨_,st.1,rfl⟩;refine wpAny_pyIter_slot ty xm (wpAny_call_entry xm ty Ij ?_ (Ln _));show wpAny _ _ (ret (.ref I)) _ _ s;exact aI ⟨_,rfl,"set_iterator",_,ty,oE.lookup,d⟩
def qE5{Q:av->ae->Prop}(j:s.heap.get? a=some (Oc w))
  (h:Q (.ref s.heap.objs.size) { s with heap:=s.heap.push (itO a) }):wpAny (model prog w) A (pyIter (.ref a)) Q E s:=by
 have ty:s.TypeIs (.ref a) "set" := ⟨_,j,rfl⟩;refine wpAny_pyIter_slot ty F.slot_set_iter (wpAny_call_entry F.slot_set_iter ty HD ?_ (F.args_set_iter_1 _));show wpAny _ _ (Builtin.Frozenset.sizeOf a >>= _) _ _ s;unfold Builtin.Frozenset.sizeOf;refine aE (aE (wpAny_setEntries_of j rfl (vX _) (aI ?_)));unfold setDrawn setsByText;refine aE (aE (wpAny_setState_of j rfl (vX _) (aE (aE (wpAny_askSetting (aI (aI ?_)))))))
 have z:∀ b c:Bool,(b&&(c&&decide ((#[]:Array (Int×av)).size>1)))=false:=fun b c=>by cases b <;> cases c <;> rfl
 refine (show wpAny _ _ (if (!((model prog w).w.params.followText "set-order")&&(!(SetTable.fresh 0 0 (Nt w)).plain&&decide ((#[]:Array (Int×av)).size>1)))=true then _ else _) _ _ s from ?_);rw[z,cn (by decide)];refine aE (aI ?_);unfold setEpoch;refine aE (aE (wpAny_setState_of j rfl (vX _) (aI ?_)));ext ba;exact aI ⟨_,rfl,"set_iterator",_,⟨_,Ab _ rfl,rfl⟩,oE.lookup,h⟩
def Xi{Q:aw av->ae->Prop}(S:A.handled=none)(B:s.heap.get? a=some (Oc w))
  (fin:∀(h':Heap)(U:Nat),(∀ b o,s.heap.get? b=some o->h'.get? b=some o)->Q [] { s with heap:=h',toks:=U }) :
  wpAny (model prog w) A (collect (.ref a)) Q E s:=by
 have la:a<s.heap.objs.size:=rN B;unfold collect;refine aE (wpAny_runValue (codeAny_builtin F.entry_proto_collect ?_));rw[Around.under_plainId F.plain_proto_collect _];show wpAny _ A.in1 (newList [] >>= fun l=>again (.builtin "list.__iadd__" ⟨[l,.ref a],[]⟩)) _ _ s;ext ba;refine aI ⟨plainId_quiet F.plain_list_iadd _,codeAny_builtin F.entry_list_iadd ?_⟩;rw[Around.under_plainId F.plain_list_iadd _];have J:(s.heap.push { cls:=.type "list",data:=.seq ([]:aw av).toArray }).get? s.heap.objs.size=some { cls:=.type "list",data:=.seq ([]:aw av).toArray }:=Ab s.heap rfl
 have O:Builtin.List.listSameRef (.ref s.heap.objs.size) (.ref a)=false:=by simp [Builtin.List.listSameRef];exact iL la
 have H:(s.heap.push { cls:=.type "list",data:=.seq ([]:aw av).toArray }).get? a=some (Oc w):=tO _ B;show wpAny _ A.in1 (Builtin.List.listExtendWith (.ref s.heap.objs.size) (.ref a) (.ref s.heap.objs.size)) _ _ _;unfold Builtin.List.listExtendWith;refine aE (wpAny_typeOf (T := "set") ⟨_,H,rfl⟩ ?_);rw[cn (by rw[O];decide)];have N:(s.heap.push { cls:=.type "list",data:=.seq ([]:aw av).toArray }).objs.size=s.heap.objs.size+1:=dS ..;refine aE (qE5 H ?_);generalize c:((s.heap.push { cls:=.type "list",data:=.seq ([]:aw av).toArray }).push (itO a))=j
 have v:∀ b o,(s.heap.push { cls:=.type "list",data:=.seq ([]:aw av).toArray }).get? b=some o->j.get? b=some o:=fun b o e=>by rw[<-c];exact tO _ e
 have C:j.get? (s.heap.push { cls:=.type "list",data:=.seq ([]:aw av).toArray }).objs.size=some (itO a):=by rw[<-c];exact Ab _ rfl
 have f:=v _ _ H;have G:=v _ _ J;have t:Shared.TypeIs { s with heap:=j } (.ref a) "set" := ⟨_,f,rfl⟩;refine aE (c9 ?_);unfold Builtin.List.listLengthHint;refine aE (wpAny_specialOf t qCJ ?_)
 (generalize h:("set.__len__" : String)=i;(fail_if_success (clear h i));wp_delta;rw[show splitId i=some ("set","__len__") from by subst h;decide +kernel])
 refine aE (wpAny_isInstance (b:=true) t (by rw[isSubtype_type];kernel_rfl) ?_);subst h;show wpAny _ A.in1 (typeOf (.ref a) >>= _) _ _ _;refine aE (wpAny_typeOf t ?_);refine aI ?_;rw[cq (by decide)];refine aE (wpAny_rule (aE ?_));show wpAny _ A.in1 (updateSeq s.heap.objs.size (·.push .none) >>= fun _=>updateSeq s.heap.objs.size (·.pop)) _ _ _;refine aE (wpAny_updateSeq G rfl ?_);have M:=c8 (Obj.mapSeq (·.push Value.none)) G rfl;refine wpAny_updateSeq M rfl ?_;have R:=c8 (Obj.mapSeq (·.pop)) M rfl;have x:∀ b ob,b≠s.heap.objs.size->j.get? b=some ob->((j.update s.heap.objs.size (Obj.mapSeq (·.push Value.none))).update s.heap.objs.size (Obj.mapSeq (·.pop))).get? b=some ob:=fun b ob z e=>(c6 _ _ (bE z)).trans ((c6 _ _ (bE z)).trans e);rw[N]at C
 have q:s.heap.objs.size∉[s.heap.objs.size+1,a]:=by
  ext bc;exact⟨Aa (ij _),iL la⟩
 have W:=(qD5 (prog:=prog) (w:=w) (A:=A.in1) (I:=s.heap.objs.size+1) (a:=a) (by simp [S]) (Nat.ne_of_lt (Nat.lt_succ_of_lt la))).toS;rw[N];refine aI ⟨plainId_quiet F.plain_extend_loop _,codeAny_extend_loopS W (by rw[sizeLine_eq];decide) _ q _ 0 0 _ _ _ rfl (bb _) ⟨x _ _ (iL (ij _)) C,x _ _ (Aa la) f⟩ R (ItemsOf.nil _) fun s' d _ m r g=>?_⟩;show wpAny _ A (load s.heap.objs.size >>= _) _ _ s';refine aE (wpAny_load r ?_)
 have Y:d.toList=[]:=by
  have Z:=g.1;exact eR (by rw[cS];omega)
 have D:s'.gens=s.gens:=m.gens;have P:s'.drawn=s.drawn:=m.drawn;have X:s'.os=s.os:=m.os;obtain⟨h',g',d',u,n⟩:=s';have p:g'=s.gens:=D;have y:d'=s.drawn:=P;have k:n=s.os:=X;subst p y k;refine aI ?_;rw[Y];refine fin h' u fun b ob e=>?_;have L:b<s.heap.objs.size:=rN e;refine m.heap b ob ?_ (x b ob (Aa L) (v b ob (tO _ e)));ext bc;exact⟨Aa L,Aa (ic L)⟩
def Yg{Q:av->ae->Prop}(H:A.handled=none)(j:s.heap.get? a=some (Oc w))
  (fin:∀(h h':Heap)(T:Nat)(p:ar)(e:Nat),h.objs.size<=p->h'.get? p=some (seqObj "list" #[] e)->(∀ b o,s.heap.get? b=some o->h.get? b=some o)->(∀ b o,h.get? b=some o->h'.get? b=some o)->Q (.ref p) { s with heap:=h',toks:=T }) :
  wpAny (model prog w) A (call (.builtin "sorted") [.ref a]) Q E s:=by
 refine Calls.call_function_entry kind_sorted plain_sorted entry_sorted (args_sorted1 _) ?_;unfold Builtin.«sorted»;refine aE (m:=checkCount "sorted" 1 1 _) (aI ?_);refine wpAny_bind (Xi (by first | exact H | simp [H]) j fun h T k=>?_);refine aE (wpAny_newList ?_ (by rw[sizeLine_eq];decide));have B:(h.push (seqObj "list" ([]:aw av).toArray 0)).get? h.objs.size=some (seqObj "list" ([]:aw av).toArray 0):=Ab _ rfl;refine aE (c9 (wpAny_call_entry slot_list_sort ⟨_,B,rfl⟩ entry_list_sort (list_sort_tree (s:={ s with heap:=h.push (seqObj "list" ([]:aw av).toArray 0),toks:=T }) B (ns:=[]) (by first | exact IntsAre.nil | exact .nil | rfl | trivial) (by decide) fun out n a1 a2 _=>⟨_,rfl,?_⟩) (args_list_sort _)));obtain⟨e,i⟩:=sortedHeap_at (out:=out) B;have N:n=[]:=List.perm_nil.mp a2
 have O:out = #[]:=by
  have:=a1.length;rw[N]at this;exact Array.eq_empty_of_size_eq_zero (by simpa using this)
 subst O;refine aI ⟨_,rfl,fin h _ T h.objs.size e (jC _) i k fun b _ c=>?_⟩;have L:b<h.objs.size:=rN c;rw[sortedHeap_old (Aa L) (by rw[dS];exact ic L)];exact tO _ c
end
def Xy(a d:av):argsOk "max" ⟨[a],[("default",d)]⟩:=by unfold argsOk;kernel_rfl
section
variable{prog:ag}{w:ay}{A:ah}{E:av->ae->Prop}{s:ae}
theorem Zv(a d:av):checkBuiltinCall "max" ⟨[a],[("default",d)]⟩=pure ():=by
 have h:=Xy a d;unfold argsOk at h;simp only[checkBuiltinCall,F.kind_max]
 cases hsig:Manifest.signature? "max" with
 | none=>rfl
 | some s=>
  rw[hsig]at h;exact h
def Xr(d:av):Builtin.Builtins.bindParams "max" ["key","default"] 0 ⟨[],[("default",d)]⟩=pure [none,some d]:=by rfl
def Xm{p:ar}{d:Int}{a:Tok}{Q:av->ae->Prop}(h:A.handled=none)(f:s.heap.IsList p #[])
  (fin:∀(h':Heap)(T:Nat)(t:Tok),(∀ b o,s.heap.get? b=some o->h'.get? b=some o)->Q (.int d t) { s with heap:=h',toks:=T }) :
  wpAny (model prog w) A (call (.builtin "max") [.ref p] [("default",.int d a)]) Q E s:=by
 have N:(toString "max" ++ toString ".loop" : String) = "max.loop" := by decide
 have L:p<s.heap.objs.size:=by
  obtain⟨o,j,_⟩:=f;exact rN j
 refine wpAny_call (codeAny_call_builtin F.plain_max F.entry_max ?_);refine wpAny_of_eq (Zv _ _) ?_;show wpAny _ A.in1 (Builtin.Builtins.bindParams "max" ["key","default"] 0 ⟨[],[("default",.int d a)]⟩ >>= _) _ _ s;refine aE (wpAny_of_eq (Xr _) (aE (aI (aE (wpAny_pyIter_list f ?_)))));ext ba;rw[N]
 have c:A.in1.handled=none:=by simp [h]
 have n:p≠s.heap.objs.size:=Aa L;have W:=Walks.list (prog:=prog) (w:=w) (A:=A.in1) c s.heap.objs.size p n #[];refine aI ⟨plainId_quiet F.plain_max_loop _,?_⟩;refine codeAny_builtin F.entry_max_loop ?_;rw[Around.under_plainId F.plain_max_loop _];refine (show wpAny _ _ (seqItems? (.ref (s.heap.push { cls:=.type "list_iterator",data:=.fields #[.ref p,.int 0 0] }).objs.size) >>= _) _ _ _ from ?_);refine aE (wpAny_seqItems (Ab _ rfl) rfl ?_);show wpAny _ _ (tryCatch (pyNext (.ref s.heap.objs.size)) _ >>= _) _ _ _;refine aE (wpAny_tryCatch (W.done _ _ _ ?hst fun h' T H=>?_))
 case hst=>exact⟨⟨_,tO _ (Ab _ rfl),rfl,rfl⟩,(f.push _).push _⟩
 refine aE (wpAny_rule (aI (fin h' T a fun b o e=>H b o ?_ (tO _ (tO _ e)))));simp only[List.mem_cons,List.not_mem_nil,or_false];exact Aa (rN e)
end
end Sw
namespace L2
open PySem PySem.Spec PyProof.Rows
section
variable{X:Cx}
def tSS(K:dN)(t:TA):TE:=fun σ H Q=>t σ H fun vs h => ∃ p:ar,vs=[.ref p]/\jx K h p []/\∀ q:ar,h q=none->Q (.ref q) (upd h q (.lst []))
def yf{a:Expr}{t:TA}{M f j P:Pos}(v:X.calm=true)(G:Gl X "sorted")(W:X.mg "sorted" = none)(g:Gl X "set")(l:X.mg "set" = none)(y:PA X [a] t)
  (D:starEach [a] X.env=[(false,eval a X.env)]:=by rfl) (d:starEach [.Call (.Name "set" f) [a] [] P] X.env=[(false,eval (.Call (.Name "set" f) [a] [] P) X.env)]:=by rfl) :
  PE X (.Call (.Name "sorted" M) [.Call (.Name "set" f) [a] [] P] [] j) (tSS X.K t):=by
 intro c s σ H Q I h;refine wpAny_Call_Name_kw (uG I G W PyProof.Rows.boot_sorted ?_);refine jI ?_ d rfl;rw[d];show wpAny _ _ (spliced ((false,eval (.Call (.Name "set" f) [a] [] P) X.env)::[])) _ _ s;refine Calls.spliced_cons ?_;refine wpAny_Call_Name_kw (uG I g l PyProof.Rows.boot_set ?_);refine jS (iw (y P c s σ H _ I h) fun _ S ⟨_,n,i,R,E⟩=>?_) D rfl;obtain⟨p,rfl,A,q⟩:=E;obtain⟨u,rfl,F⟩:=vals1 R
 cases F
 obtain⟨_,L,pl,_⟩:=i.list A
 cases L
 refine Sw.Xl (i.ok.hd v) pl.isList fun O T Y N=>Calls.spliced_nil ?_;have m:Inv X c σ n { S with heap:=O,toks:=T }:=i.kept fun b o e=>N b o (rN e) e;refine Sw.Yg (m.ok.hd v) Y fun x z k w e r U C B=>?_;have J:Inv X c σ n { S with heap:=x,toks:=k }:=m.kept (h':=x) (t':=k) C;exact⟨.ref w,_,J.laid (h':=z) (t':=k) (o:=.lst []) B r ⟨zI (by decide),[],e,.nil,U⟩,rfl,q w (J.hok.fresh r)⟩
def qAG(K:dN)(d:Int)(t:TA):TE:=fun σ H Q=>t σ H fun vs h => ∃ p:ar,vs=[.ref p]/\jx K h p []/\Q (.int d) h
def Yw{a:Expr}{t:TA}{w P m A:Pos}{d:Int}{j:Nat}(x:X.calm=true)(o:Gl X "max")(y:X.mg "max" = none)(f:PA X [a] t)(e:starEach [a] X.env=[(false,eval a X.env)]:=by rfl) :
  PE X (.Call (.Name "max" w) [a] [⟨some "default",.Constant (.int d) j A,m⟩] P) (qAG X.K d t):=by
 intro b s σ H Q I h;refine wpAny_Call_Name_kw (uG I o y PyProof.Rows.boot_max ?_);refine PyProof.Rows.callWith_kw (iw (f P b s σ H _ I h) fun _ S ⟨_,n,c,r,l⟩=>?_) (by rw[e];rfl) (by rw[e];rfl) rfl rfl;ext aj;obtain⟨p,rfl,g,q⟩:=l;obtain⟨u,rfl,R⟩:=vals1 r
 cases R
 obtain⟨_,v,pl,_⟩:=c.list g
 cases v
 have i:=c.tok (S.toks+1);exact Sw.Xm (i.ok.hd x) pl.isList fun _ _ t k=>⟨.int _,n,i.kept k,⟨_,rfl⟩,q⟩
end
end L2
namespace DL
open PySem L2
def qB6(d:Int)(a:FA):FE:=fun ρ=>(a ρ).bind fun ws=>match ws.map W.d with
 | [.lst []]=>.ok (.fr (.int d))
 | _=>.st
def qCP(a:FA):FE:=fun ρ=>(a ρ).bind fun ws=>match ws.map W.d with
 | [.lst []]=>.ok (.ow [])
 | _=>.st
section
variable{G:Gm}{tr:TA}{fr:FA}
def Zr{d:Int}(b:DA G tr fr):DE G (qAG G.K d tr) (qB6 d fr):=by
 ext c;ext ac
 split at z
 .rename_i e
  obtain⟨v,rfl,p,us,rfl,c,r⟩:=arg1 (d:=.lst []) O.sb ⟨ws,e.symm,a⟩
  cases (show us=[] from r)
  exact⟨p,rfl,jx.of c,eZ.now O (z.on x) rfl⟩
 .ext ap
def Xd(b:DA G tr fr):DE G (tSS G.K tr) (qCP fr):=by
 ext c;ext ac
 split at z
 .rename_i e
  obtain⟨v,rfl,p,us,rfl,f,r⟩:=arg1 (d:=.lst []) O.sb ⟨ws,e.symm,a⟩
  cases (show us=[] from r)
  refine⟨p,rfl,jx.of f,fun q c=>?_⟩;exact eZ.own (l:=[]) O (z.on x) rfl c
 .ext ap
end
end DL
namespace zq
open PySem L2 YW DL
def Ax:aw D->Rz D:=fun _=>.st
section
variable{P:ag}{w:ay}{K:dN}{mg:Str->ax av}{base:Heap}
def tu:cM P w K mg base CX n f fd ps (cI K C Ax k):=
 ⟨fun vs H Q E h=>by obtain⟨_,B,ds,_,_,q⟩:=h;exact q.elim,fun A _ s H _ _ vs Q E _ _ _ _ h=>by obtain⟨_,B,ds,_,_,q⟩:=h;exact q.elim⟩
def Dj:FS:=
 (aU (eV (aQ (aK (dJ false) (aK bF (aF 0) (fC (.int 0))) (fC (.str "not"))))
   (bO (eX (aD (aK bF (aF 0) (fC (.int 1))) aL)))
   bJ)
  (aU (eV (aQ (aK (inD false) (aK bF (aF 0) (fC (.int 0))) (dR (aD (fC (.str "both")) (aD (fC (.str "either")) aL)))))
   (bO (eX (aD (aK bF (aF 0) (fC (.int 1))) (aD (aK bF (aF 0) (fC (.int 2))) aL))))
   bJ)
  (bO (eX aL))))
def iZ:aw D->Rz D:=dj 1 (Dj)
def Aj:au ["guard"] ["guard"] (aV jo):=km
def Aq(F:iU K "guards_within" "guards_within" jo f fd) :
  cM P w K mg base bZ (n+1) f fd ["guard"] (cI K C (iZ) 1):=
 mL F Aj fun _ A _ s H E hr=>⟨_,
  (zE (yB (pEq hr.units (Tw (pv 0) zB (fun _ _=>rfl)) zQ)
  (zG (zP (yI (zA (Tw (pv 0) zB (fun _ _=>rfl)) zD))))
  zU)
  (zE (yB (zM (r:=sH K false) lV (Tw (pv 0) zB (fun _ _=>rfl)) (zW (zA zQ (zA zQ zD))) rfl)
  (zG (zP (yI (zA (Tw (pv 0) zB (fun _ _=>rfl)) (zA (Tw (pv 0) zB (fun _ _=>rfl)) zD)))))
  zU)
  (zG (zP (yI zD))))),
  (aN (cD (aq (aG bc (aG aX (aB 0) aH) aZ))
   (ao (dG (aA (aG aX (aB 0) aH) aJ)))
   bG)
  (aN (cD (aq (aG nG (aG aX (aB 0) aH) (cU (aA aZ (aA aZ aJ)))))
   (ao (dG (aA (aG aX (aB 0) aH) (aA (aG aX (aB 0) aH) aJ))))
   bG)
  (ao (dG aJ))))⟩
def XF:FS:=
 (bO (aK aa (fC (.int 1)) (qB6 0 (aD (gQ (jA false (aP (bU iZ) 1 (aD (aF 0) aL))) [] nJ (aP (bU Ax) 1 (aD (aF 0) aL))) aL))))
def GQ:aw D->Rz D:=dj 1 (XF)
def Tq:au ["guard"] ["guard"] (aV ug):=km
def U4(F:iU K "height" "height" ug f fd)
  (N:Dp P w K mg base bZ n Dq Du ["guard"] (cI K C iZ 1) "guards_within")
  (v:Dp P w K mg base bZ n f_height0 d_height0 ["guard"] (cI K C Ax 1) "height") (W:mg "max" = none) :
  cM P w K mg base bZ (n+1) f fd ["guard"] (cI K C (GQ) 1):=
 mL F Tq fun _ A _ s H E hr=>⟨_,
  (zG (zP (pAd zB (Yw rfl rfl W (zA (yN (cX:=[]) rfl (show iB (aV ug) ["guard"] _ _ _ from Pj) (gR (pC N hr (zA (pv 0) zD))) (fun _ _ _ _ _ _=>iY) (fun _ _ _ _ _ _=>(pC v hr (zA (pv 0) zD)))) zD))))),
  (ao (aG ak aH (Zr (aA (gZ (gU (aM rfl (aA (aB 0) aJ))) nU (aM rfl (aA (aB 0) aJ))) aJ))))⟩
def Gb:FS:=
 (aU (aW 1 (aP (bU iZ) 1 (aD (aF 0) aL)))
  (aU (eV (aQ (aK (dJ false) (dY cY (aD (aF 1) aL)) (fC (.int 0))))
   (bO (eX (aD (aF 0) aL)))
   bJ)
  (aU (uW 2 (eX aL))
  (aU (rC (jA true (aF 1)) (bN 3)
   Fd)
  (bO (aF 2))))))
def jG:aw D->Rz D:=dj 4 (Gb)
def jn:au ["guard","inner","plain","within"] ["guard"] (aV lK):=km
def DW(F:iU K "plain_guards" "plain_guards" lK f fd)
  (N:Dp P w K mg base bZ n Dq Du ["guard"] (cI K C iZ 1) "guards_within") (b:mg "len" = none) :
  cM P w K mg base bZ (n+1) f fd ["guard"] (cI K C (jG) 1):=
 mL F jn fun _ A _ s H E hr=>⟨_,
  (zE (zK (i:=1) jn.nd rfl (aT rfl) (pC N hr (zA (pv 0) zD)))
  (zE (yB (pEq hr.units (pLe rfl b (pv 1)) zB)
  (zG (zP (yI (zA (pv 0) zD))))
  zU)
  (zE (zK (i:=2) jn.nd rfl (aT rfl) (yI zD))
  (zE (je PassesOwn.never rfl (gR (pv 1)) (yH (i:=3) jn.nd rfl (aT rfl))
  (zG uo))
  (zG (zP (pv 2))))))),
  (aN (aR (aM rfl (aA (aB 0) aJ)))
  (aN (cD (aq (aG bc (bY cP (aA (aB 1) aJ)) aH))
   (ao (dG (aA (aB 0) aJ)))
   bG)
  (aN (rJ (dG aJ))
  (aN (kJ (gU (aB 1)) xQ
   zf)
  (ao (aB 2))))))⟩
def ZR:FS:=
 (aU (aW 1 (aP (bU jG) 1 (aD (aF 0) aL)))
  (aU (aW 2 (gQ (jA false (aF 1)) [] (aQ (aK (inD false) (aK bF (aF 0) (fC (.int 0))) (dR (aD (fC (.str "is")) (aD (fC (.str "under")) aL))))) (aK bF (aF 0) (fC (.int 1)))))
  (aU (aW 3 (gQ (jA false (aF 1)) [] (aQ (aK (dJ false) (aK bF (aF 0) (fC (.int 0))) (fC (.str "in")))) (aK bF (aF 0) (fC (.int 1)))))
  (bO (dR (aD (qCP (aD (aF 2) aL)) (aD (qCP (aD (aF 3) aL)) aL)))))))
def Lj:aw D->Rz D:=dj 4 (ZR)
def yR:au ["guard","plain","boxes","rooms"] ["guard"] (aV vN):=km
def WQ(F:iU K "asked" "asked" vN f fd)
  (Q:Dp P w K mg base bZ n Gs HQ ["guard"] (cI K C jG 1) "plain_guards") (N:mg "sorted" = none) (q:mg "set" = none) :
  cM P w K mg base bZ (n+1) f fd ["guard"] (cI K C (Lj) 1):=
 mL F yR fun _ A _ s H E hr=>⟨_,
  (zE (zK (i:=1) yR.nd rfl (aT rfl) (pC Q hr (zA (pv 0) zD)))
  (zE (K1 (i:=2) (cX:=[]) rfl yR.nd rfl (aT rfl) (show iB (aV vN) ["guard","plain","boxes","rooms"] _ _ _ from Pj) (gR (pv 1)) (fun _ _ _ _ _ _=>ye (zM (r:=sH K false) lV (Tw (pv 0) zB (fun _ _=>rfl)) (zW (zA zQ (zA zQ zD))) rfl)) (fun _ _ _ _ _ _=>(Tw (pv 0) zB (fun _ _=>rfl))))
  (zE (K1 (i:=3) (cX:=[]) rfl yR.nd rfl (aT rfl) (show iB (aV vN) ["guard","plain","boxes","rooms"] _ _ _ from Pj) (gR (pv 1)) (fun _ _ _ _ _ _=>ye (pEq hr.units (Tw (pv 0) zB (fun _ _=>rfl)) zQ)) (fun _ _ _ _ _ _=>(Tw (pv 0) zB (fun _ _=>rfl))))
  (zG (zP (zW (zA (yf rfl rfl N rfl q (zA (pv 2) zD)) (zA (yf rfl rfl N rfl q (zA (pv 3) zD)) zD)))))))),
  (aN (aR (aM rfl (aA (aB 0) aJ)))
  (aN (aR (gZ (gU (aB 1)) (aq (aG nG (aG aX (aB 0) aH) (cU (aA aZ (aA aZ aJ))))) (aG aX (aB 0) aH)))
  (aN (aR (gZ (gU (aB 1)) (aq (aG bc (aG aX (aB 0) aH) aZ)) (aG aX (aB 0) aH)))
  (ao (cU (aA (Xd (aA (aB 2) aJ)) (aA (Xd (aA (aB 3) aJ)) aJ)))))))⟩
def qEB:FS:=
 (aU (eV (aQ (aK GZ (aP (bU GQ) 1 (aD (aF 0) aL)) (fC (.int 6))))
   (bO (fC (.bl true)))
   bJ)
  (aU (aW 3 (aP (bU Lj) 1 (aD (aF 0) aL)))
  (aU (eV (vD (aQ (dY (Zz fun l=>l.all id) (aD (gQ (jA false (aK bF (aF 3) (fC (.int 0)))) [(1,"boxes")] nJ (aP (bU bh) 2 (aD (aF 0) (aD (aF 1) aL)))) aL))))
   (bO (fC (.bl true)))
   bJ)
  (aU (eV (vD (aQ (dY (Zz fun l=>l.all id) (aD (gQ (jA false (aK bF (aF 3) (fC (.int 1)))) [(2,"rooms")] nJ (aP (bU bh) 2 (aD (aF 0) (aD (aF 1) aL)))) aL))))
   (bO (fC (.bl true)))
   bJ)
  (bO (ie (dY (Zz fun l=>l.all id) (aD (gQ (jA false (aP (bU jG) 1 (aD (aF 0) aL))) [] (aQ (aK (inD false) (aK bF (aF 0) (fC (.int 0))) (dR (aD (fC (.str "is")) (aD (fC (.str "under")) aL))))) (aP (bU d7) 1 (aD (aK bF (aF 0) (fC (.int 2))) aL))) aL))))))))
def X8:aw D->Rz D:=dj 4 (qEB)
def pG:au ["guard","boxes","rooms","wanted"] ["guard","boxes","rooms"] (aV eG):=km
def wU(F:iU K "guard_has_fault" "guard_has_fault" eG f fd)
  (Y:Dp P w K mg base bZ n f_height d_height ["guard"] (cI K C GQ 1) "height")
  (q:Dp P w K mg base bZ n f_asked d_asked ["guard"] (cI K C Lj 1) "asked")
  (d:Dp P w K mg base bZ n pQ pZ ["number","things"] (cI K C bh 2) "is_number_of")
  (Q:Dp P w K mg base bZ n Gs HQ ["guard"] (cI K C jG 1) "plain_guards")
  (D:Dp P w K mg base bZ n Ih Il ["number"] (cI K C d7 1) "is_in_reach") (G:mg "all" = none) (b:mg "HIGHEST" = some vI) (B:RelV (.int 6) vI) :
  cM P w K mg base bZ (n+1) f fd ["guard","boxes","rooms"] (cI K C (X8) 3):=
 mL F pG fun _ A _ s H E hr=>⟨_,
  (zE (yB (zM pL (pC Y hr (zA (pv 0) zD)) (fB (v:=(.int 6)) rfl b B) (zS _))
  (zG (zP qd))
  zU)
  (zE (zK (i:=3) pG.nd rfl (aT rfl) (pC q hr (zA (pv 0) zD)))
  (zE (yB (nT (gF (zT (t8 rfl) rfl G ja (zA (yN (cX:=[(1,"boxes")]) rfl (show iB (aV eG) ["guard","boxes","rooms","wanted"] _ _ _ from Pj) (gR (Tw (pv 3) zB (fun _ _=>rfl))) (fun _ _ _ _ _ _=>iY) (fun _ _ _ _ _ _=>(pC d hr (zA (pv 0) (zA (pv 1) zD))))) zD))))
  (zG (zP qd))
  zU)
  (zE (yB (nT (gF (zT (t8 rfl) rfl G ja (zA (yN (cX:=[(2,"rooms")]) rfl (show iB (aV eG) ["guard","boxes","rooms","wanted"] _ _ _ from Pj) (gR (Tw (pv 3) zB (fun _ _=>rfl))) (fun _ _ _ _ _ _=>iY) (fun _ _ _ _ _ _=>(pC d hr (zA (pv 0) (zA (pv 1) zD))))) zD))))
  (zG (zP qd))
  zU)
  (zG (zP (gh (zT (t8 rfl) rfl G ja (zA (yN (cX:=[]) rfl (show iB (aV eG) ["guard","boxes","rooms","wanted"] _ _ _ from Pj) (gR (pC Q hr (zA (pv 0) zD))) (fun _ _ _ _ _ _=>ye (zM (r:=sH K false) lV (Tw (pv 0) zB (fun _ _=>rfl)) (zW (zA zQ (zA zQ zD))) rfl)) (fun _ _ _ _ _ _=>(pC D hr (zA (Tw (pv 0) zB (fun _ _=>rfl)) zD)))) zD))))))))),
  (aN (cD (aq (aG (fJ fun _ _ _ _=>rfl) (aM rfl (aA (aB 0) aJ)) (fZ fun _=>rfl)))
   (ao qw)
   bG)
  (aN (aR (aM rfl (aA (aB 0) aJ)))
  (aN (cD (nW (pU (bY JT (aA (gZ (gU (aG aX (aB 3) aH)) nU (aM rfl (aA (aB 0) (aA (aB 1) aJ)))) aJ))))
   (ao qw)
   bG)
  (aN (cD (nW (pU (bY JT (aA (gZ (gU (aG aX (aB 3) aH)) nU (aM rfl (aA (aB 0) (aA (aB 1) aJ)))) aJ))))
   (ao qw)
   bG)
  (ao (gk (bY JT (aA (gZ (gU (aM rfl (aA (aB 0) aJ))) (aq (aG nG (aG aX (aB 0) aH) (cU (aA aZ (aA aZ aJ))))) (aM rfl (aA (aG aX (aB 0) aH) aJ))) aJ))))))))⟩
def qCL(ds:aw D):eO ds = .st ∨ ∃ b r,ds=[.tup [.str "yes"],b,r]:=by
 unfold eO
 split
 .rename_i g b r
  split
  .rename_i e
   ext l;exact .inr ⟨b,r,rfl⟩
  .exact .inl rfl
 .exact .inl rfl
def qCK(b r:D):X8 [.tup [.str "yes"],b,r] = .ok (.bl false):=by rfl
def ZQ(h:cI K C eO 3 vs H Q E):cI K C X8 3 vs H Q E:=by
 obtain⟨f,B,ds,M,R,q⟩:=h;refine⟨f,B,ds,M,R,?_⟩;rcases qCL ds with z | ⟨b,r,rfl⟩
 .rw[z]at q;exact q.elim
 .have z:eO [.tup [.str "yes"],b,r] = .ok (.bl false):=by unfold eO;simp
  rw[z]at q;rw[qCK];exact q
theorem wD(F:iU K "_law_guard_row" "_law_guard_row" ir f fd)(b:Binds K fd ["_law_guard_here","_law_boxes_here","_law_rooms_here"] [])(m_x:mg "_law_guard_row" = some (.ref f))(j:mg "str" = none) :
  ∀ m:Nat,cM P w K mg base bZ m f fd ["_law_guard_here","_law_boxes_here","_law_rooms_here"] (cI K C (law_guard_row_F m) 3)
 | 0=>tu
 | m+1=>Ao F ⟨wD F b m_x j m,b,F.kp,m_x⟩ j
theorem Ox(F:iU K "_law_same" "_law_same" J0 f fd)(b:Binds K fd ["_law_found","_law_due"] [])(m_x:mg "_law_same" = some (.ref f))(B:mg "bool" = none)(J:mg "int" = none)(e:mg "isinstance" = none)(R:mg "len" = none)(a:mg "range" = none)(j:mg "str" = none)(d:mg "tuple" = none) :
  ∀ m:Nat,cM P w K mg base bZ m f fd ["_law_found","_law_due"] (cI K C (law_same_F m) 2)
 | 0=>tu
 | m+1=>N5 F ⟨Ox F b m_x B J e R a j d m,b,F.kp,m_x⟩ B J e R a j d
theorem all_guard(F:iU K "_law_guard" "_law_guard" oh f fd)(b:Binds K fd ["_law_script","_law_k","_law_salt","_law_high","_law_boxes_here","_law_rooms_here"] [])(m_x:mg "_law_guard" = some (.ref f))
  (d:Dp P w K mg base bZ n fm dm ["_law_script","_law_k","_law_salt"] (cI K C law_mixed_F 3) "_law_mixed")
  (D:Dp P w K mg base bZ n fc dc ["_law_script","_law_k"] (cI K C law_cell_at_F 2) "_law_cell_at") :
  ∀ m:Nat,cM P w K mg base bZ (n+m) f fd ["_law_script","_law_k","_law_salt","_law_high","_law_boxes_here","_law_rooms_here"] (cI K C (law_guard_F m) 6)
 | 0=>tu
 | m+1=>KN F ⟨d.G.mono (hU _ _),d.b,d.k,d.m⟩ ⟨all_guard F b m_x d D m,b,F.kp,m_x⟩ ⟨D.G.mono (hU _ _),D.b,D.k,D.m⟩
def IK(F:iU K "_law_guard_row" "_law_guard_row" ir f fd)(L:Binds K fd ["_law_guard_here","_law_boxes_here","_law_rooms_here"] [])(k:mg "_law_guard_row" = some (.ref f))(j:mg "str" = none) :
  cM P w K mg base bZ (n+8) f fd ["_law_guard_here","_law_boxes_here","_law_rooms_here"] (cI K C (law_guard_row_F 8) 3):=(wD F L k j 8).mono (Nat.le_add_left _ _)
def WT(F:iU K "_law_same" "_law_same" J0 f fd)(q:Binds K fd ["_law_found","_law_due"] [])(Z:mg "_law_same" = some (.ref f))(B:mg "bool" = none)(J:mg "int" = none)(e:mg "isinstance" = none)(b:mg "len" = none)(a:mg "range" = none)(j:mg "str" = none)(d:mg "tuple" = none) :
  cM P w K mg base bZ (n+12) f fd ["_law_found","_law_due"] (cI K C (law_same_F 12) 2):=(Ox F q Z B J e b a j d 12).mono (Nat.le_add_left _ _)
def U5(F:iU K "_law_guard" "_law_guard" oh f fd)(X:Binds K fd ["_law_script","_law_k","_law_salt","_law_high","_law_boxes_here","_law_rooms_here"] [])(W:mg "_law_guard" = some (.ref f))
  (b:Dp P w K mg base bZ n fm dm ["_law_script","_law_k","_law_salt"] (cI K C law_mixed_F 3) "_law_mixed")
  (d:Dp P w K mg base bZ n fc dc ["_law_script","_law_k"] (cI K C law_cell_at_F 2) "_law_cell_at") :
  cM P w K mg base bZ (n+5) f fd ["_law_script","_law_k","_law_salt","_law_high","_law_boxes_here","_law_rooms_here"] (cI K C (law_guard_F 5) 6):=all_guard F X W b d 5
end
end zq
namespace DL
open PySem L2
def Vs(K:dN):Sp:=fun vs H Q _ => ∃(a:ar)(ns:aw Int),vs=[.ref a]/\jx K H a (ns.map V.int)/\ns.length<=63/\∀ h,Q (.bl true) h
theorem MK:∀ xs:aw (Str×Nat),Vals (xs.map fun x=>V.str x.1) (xs.map fun x=>Value.str x.1 x.2)
 | []=>.nil
 | x::xs=>.cons ⟨x.2,rfl⟩ (MK xs)
theorem Ri{K:dN}{B:Hp}:∀ xs:aw (Str×Nat),fj K B (xs.map fun x=>D.str x.1) (xs.map fun x=>V.str x.1)
 | []=>rfl
 | x::xs=>⟨_,_,rfl,rfl,Ri xs⟩
def lO{K:dN}{a:ar}(xs:aw (Str×Nat)){n:Nat}(h:K.lookup a=some ⟨.type "tuple",none,.seq (xs.map fun x=>Value.str x.1 x.2).toArray n,#[]⟩)(f:xs.length<=1000)(B:Hp):Rp K B (.tup (xs.map fun x=>D.str x.1)) (.ref a):=
 ⟨a,xs.map fun x=>V.str x.1,rfl,.inr ⟨_,_,_,h,rfl,rfl,by rw[w5,fH,sizeLine_eq];exact br f (by decide),MK xs⟩,Ri xs⟩
def dE(P:Params)(x:Str×Nat×ar):DictEntry:=⟨PyData.keyHash P x.1,.str x.1 x.2.1,.ref x.2.2⟩
theorem qAW:∀ xs:aw (Str×Nat×ar),KV ((xs.map fun x=>(x.1,V.ref x.2.2)).map kyS) (xs.map fun x=>((Sum.inr x.1:Key),Value.ref x.2.2))
 | []=>.nil
 | x::xs=>.cons ⟨rfl,rfl⟩ (qAW xs)
theorem Mv{P:ag}{w:ay}:∀ xs:aw (Str×Nat×ar),Pairs (qg P w) (xs.map (dE w.params)) (xs.map fun x=>((Sum.inr x.1:Key),Value.ref x.2.2))
 | []=>.nil
 | x::xs=>.cons (show (x.1==x.1)=true from cy _) rfl (Mv xs)
def qG5{P:ag}{w:ay}{K:dN}{a:ar}(xs:aw (Str×Nat×ar)){ep:Nat}(h:K.lookup a=some ⟨.type "dict",none,.dict (xs.map (dE w.params)).toArray ep,#[]⟩)(n:(xs.map (·.1)).Nodup):KD P w K a (xs.map fun x=>(x.1,V.ref x.2.2)):=fun _ X=>
 ⟨xs.map fun x=>((Sum.inr x.1:Key),Value.ref x.2.2),qAW xs,_,_,_,X _ _ h,⟨rfl,rfl,rfl⟩,rfl,fun e i=>by
  obtain⟨x,_,rfl⟩:=rA.mp (List.mem_toArray.mp i)
  exact⟨Sum.inr x.1,show (x.1==x.1)=true from cy _,rfl⟩,Mv xs,by
  rw[fT]
  have e:(xs.map ((fun y:Key×av=>y.1) ∘ fun x:Str×Nat×ar=>((Sum.inr x.1:Key),Value.ref x.2.2)))=(xs.map (·.1)).map Sum.inr:=by
   rw[fT];rfl
  rw[e]
  exact List.Pairwise.map Sum.inr (fun _ _ h z=>h (Sum.inr.inj z)) n⟩
end DL
namespace zq
open PySem L2 DL
def law_sp{K:dN}{C:ar}{F:aw D->Rz D}(b:∀ s:aw Int,s.length<=63->F [.dZ s] = .ok (.bl true))(vs:aw V)(H:Hp)(Q:VK)(E:XK)(h:Vs K vs H Q E):cI K C F 1 vs H Q E:=by
 obtain⟨a,ns,rfl,S,f,q⟩:=h;refine⟨rfl,H,[.dZ ns],fun _ _ z=>z,⟨_,[],rfl,⟨a,rfl,S⟩,rfl⟩,?_⟩;rw[b ns f];intro v _ c _ _ _ _ r
 cases (show v=V.bl true from r)
 exact q c
def dI(P:Params)(x:Str×Nat×Int×Nat):DictEntry:=⟨PyData.keyHash P x.1,.str x.1 x.2.1,.int x.2.2.1 x.2.2.2⟩
theorem Wv:∀ xs:aw (Str×Nat×Int×Nat),KV ((xs.map fun x=>(x.1,V.int x.2.2.1)).map kyS) (xs.map fun x=>((Sum.inr x.1:Key),Value.int x.2.2.1 x.2.2.2))
 | []=>.nil
 | x::xs=>.cons ⟨rfl,_,rfl⟩ (Wv xs)
theorem J6{P:ag}{w:ay}:∀ xs:aw (Str×Nat×Int×Nat),Pairs (qg P w) (xs.map (dI w.params)) (xs.map fun x=>((Sum.inr x.1:Key),Value.int x.2.2.1 x.2.2.2))
 | []=>.nil
 | x::xs=>.cons (show (x.1==x.1)=true from cy _) rfl (J6 xs)
def qD0{P:ag}{w:ay}{K:dN}{a:ar}(xs:aw (Str×Nat×Int×Nat)){ep:Nat}(h:K.lookup a=some ⟨.type "dict",none,.dict (xs.map (dI w.params)).toArray ep,#[]⟩)(n:(xs.map (·.1)).Nodup):KD P w K a (xs.map fun x=>(x.1,V.int x.2.2.1)):=fun _ X=>
 ⟨xs.map fun x=>((Sum.inr x.1:Key),Value.int x.2.2.1 x.2.2.2),Wv xs,_,_,_,X _ _ h,⟨rfl,rfl,rfl⟩,rfl,fun e i=>by
  obtain⟨x,_,rfl⟩:=rA.mp (List.mem_toArray.mp i)
  exact⟨Sum.inr x.1,show (x.1==x.1)=true from cy _,rfl⟩,J6 xs,by
  rw[fT]
  have e:(xs.map ((fun y:Key×av=>y.1) ∘ fun x:Str×Nat×Int×Nat=>((Sum.inr x.1:Key),Value.int x.2.2.1 x.2.2.2)))=(xs.map (·.1)).map Sum.inr:=by
   rw[fT];rfl
  rw[e]
  exact List.Pairwise.map Sum.inr (fun _ _ h z=>h (Sum.inr.inj z)) n⟩
end zq
namespace zq
open PySem L2 YW DL
def lE(c:vs.length=n)(hs:bD B H)(hr:fj K B ds vs)(i:F ds = .ok d)
  (q:∀ v b h,bD H h->bD B b->bD b h->(∀ a o,b a=some o->B a=some o∨H a=none)->Rp K b d v->Q v h):cI K C F n vs H Q E:=
 ⟨c,B,ds,hs,hr,by rw[i];exact q⟩
def J8:cL [.bl true] = .ok .non:=rfl
def Vq:Sp:=fun vs H Q _ => ∃(pw:ar)(x:Str)(r:aw Str),vs=[.ref pw]/\H pw=some (.lst ((x::r).map V.str))/\∀ h,bD H h->Q (.str x) (upd h pw (.lst (r.map V.str)))
section
variable{P:ag}{w:ay}{K:dN}{mg:Str->ax av}{base:Heap}
def Ht:au ["words"] ["words"] (aV oH):=km
def Hw(F:iU K "word_taken" "word_taken" oH f fd)(c:Dp P w K mg base bZ n g dg ["fits"] (cI K C cL 1) "need")(b:mg "len" = none) :
  cM P w K mg base bZ (n+1) f fd ["words"] Vq:=by
 refine F.ok Ht ?_ ?_
 .rintro _ _ _ _⟨pw,x,r,rfl,_⟩;rfl
 intro _ A _ s H _ Q E hr h
 obtain⟨pw,x,r,rfl,a,q⟩:=h
 refine⟨_,(zE (yG (pC c hr (zA (bV pL (zT zO rfl b gA (zA (pv 0) zD)) zB (zS _)) zD)))
  (zG (zP (fu tM PySem.F.slot_list_pop PySem.F.type_list_pop Wh (pv 0) (zA zB zD))))),?_⟩
 refine⟨_,rfl,pw,_,rfl,.inl (jx.of a),_,_,rfl,rfl,?_⟩;refine lE (B:=fun _=>none) rfl (fun _ _ z=>nomatch z) (ds:=[.bl true]) ⟨_,_,rfl,?_,rfl⟩ J8 fun v _ d S _ _ _ _=>?_
 .show V.bl _=V.bl true;exact congrArg V.bl (bq (by show (0:Int)<(((x::r).map V.str).length:Int);simp))
 .exact⟨_,rfl,.inl ⟨rfl,_,jx.of (S _ _ a)⟩,pw,_,0,0,.str x,rfl,rfl,S _ _ a,by decide,by decide,by simp [seqIndex?],rfl,q d S⟩
end
theorem mq{α β:Type}{x:Rz α}{f:α->Rz β}{b:β}(h:x.bind f = .ok b):∃ a,x = .ok a/\f a = .ok b:=by
 cases x with
 | ok a=>exact⟨a,rfl,h⟩
 | ex=>cases h
 | st=>cases h
def sNe{x y:Str}{A B:Prop}(h:¬ x=y)(b:B):if decide (V.str x=V.str y)=true then A else B:=by rw[cn fun z=>h (by injection aS z)];exact b
def sEq{x y:Str}{A B:Prop}(h:x=y)(a:A):if decide (V.str x=V.str y)=true then A else B:=by rw[cq (bq (by rw[h]))];exact a
structure Gr(p:Addr)(B H B' H':Hp)(us:List V):Prop where
 k:∀ a o,a≠p->H a=some o->H' a=some o
 sb:bD B B'
 s:bD B' H'
 n:B' p=none
 l:H' p=some (.lst us)
 gr:∀ a o,B' a=some o->B a=some o∨H a=none
section
variable{K:dN}{C p:ar}{B H B1 H1:Hp}{us:aw V}{Q:VK}{E:XK}
theorem Gr.free(g:Gr p B H B1 H1 us){a:ar}(h:H1 a=none):H a=none:=by
 cases e:H a with
 | none=>rfl
 | some o=>
  by_cases z:a=p
  .rw[z,g.l]at h;cases h
  .rw[g.k a o z e]at h;cases h
def Gr.on(g:Gr p B H B1 H1 us){f h:Hp}(S:bD H1 h)(M:bD B1 f)(s:bD f h)(G:∀ a o,f a=some o->B1 a=some o∨H1 a=none):Gr p B H f h us:=
 ⟨fun a o n e=>S _ _ (g.k a o n e),g.sb.trans M,s,yp G g.l g.n,S _ _ g.l,fun a o e=>(G a o e).elim (g.gr a o) fun z=>.inr (g.free z)⟩
def Gr.tr(g:Gr p B H B1 H1 us){f b:Hp}{ws:aw V}(h:Gr p B1 H1 f b ws):Gr p B H f b ws:=
 ⟨fun a o n e=>h.k a o n (g.k a o n e),g.sb.trans h.sb,h.s,h.n,h.l,fun a o e=>(h.gr a o e).elim (g.gr a o) fun z=>.inr (g.free z)⟩
def Gr.call{T:(aw D->Rz D)->Nat->Sp}(g:Gr p B H B1 H1 us)(e:T=cI K C){F:aw D->Rz D}{n:Nat}{vs:aw V}{ds:aw D}{d:D}(i:F ds = .ok d)(a:vs.length=n)(hr:fj K B1 ds vs)(q:∀ v f h,Gr p B H f h us->bD B1 f->Rp K f d v->Q v h):T F n vs H1 Q E:=e ▸
 lE a g.s hr i fun v f h S M s G r=>q v f h (g.on S M s G) M r
def Gr.need{T:(aw D->Rz D)->Nat->Sp}(g:Gr p B H B1 H1 us)(e:T=cI K C){c:Bool}(a:c=true)(q:∀ v f h,Gr p B H f h us->bD B1 f->Q v h):T cL 1 [.bl c] H1 Q E:=
 g.call e (ds:=[.bl true]) J8 rfl ⟨_,_,rfl,congrArg V.bl a,rfl⟩ fun v f h l S _=>q v f h l S
def Gr.word{T:Sp}{x:Str}{r:aw Str}(g:Gr p B H B1 H1 ((x::r).map V.str))(b:T=Vq)(q:∀ h,Gr p B H B1 h (r.map V.str)->Q (.str x) h):T [.ref p] H1 Q E:=b ▸
 ⟨p,x,r,rfl,g.l,fun h s=>q _ (by
  have l:=g.on s (bD.refl _) (g.s.trans s) fun a o e=>.inl e
  exact⟨fun a o n e=>by rw[zR n];exact l.k a o n e,l.sb,fun a o e=>by rw[zR fun z=>by rw[z,l.n]at e;cases e];exact l.s a o e,l.n,zC,l.gr⟩)⟩
def Gr.tup(g:Gr p B H B1 H1 us){t:ar}(h:H1 t=none){l:aw D}{vs:aw V}(r:fj K B1 l vs)(q:∀ f,Gr p B H f (upd H1 t (.tup vs)) us->Rp K f (.tup l) (.ref t)->Q (.ref t) (upd H1 t (.tup vs))):Q (.ref t) (upd H1 t (.tup vs)):=by
 have c:B1 t=none:=g.s.free h
 have S:bD B1 (upd B1 t (.tup vs)):=fun a o e=>by rw[zR (zN e c)];exact e
 refine q (upd B1 t (.tup vs)) (g.on (zF h _) S (fun a o e=>?_) fun a o e=>?_) ⟨t,vs,rfl,.inl (.inl zC),r.mono S⟩
 .by_cases z:a=t
  .ext m;rw[zC]at e ⊢;exact e
  .rw[zR z]at e ⊢;exact g.s _ _ e
 .by_cases z:a=t
  .ext m;exact .inr h
  .rw[zR z]at e;exact .inl e
def uf(K:dN)(bs rs:D)(m:Nat):Sp:=fun vs H Q _ => ∃(p:ar)(b r:V)(B:Hp)(ws us:aw Str)(g:D),vs=[.ref p,.int m,b,r]/\bD B H/\B p=none/\H p=some (.lst (ws.map V.str))/\Rp K B bs b/\Rp K B rs r/\lZ bs rs m ws = .ok (g,us)/\∀ v a h,Gr p B H a h (us.map V.str)->Rp K a g v->Q v h
def Gr.tak{T:Sp}{bs rs:D}{m:Nat}(g:Gr p B H B1 H1 us)(c:T=uf K bs rs m){d:D}{ws xs:aw Str}{b a:V}{i:Int}(e:i=m)(u:us=ws.map V.str)(O:Rp K B1 bs b)(R:Rp K B1 rs a)(t:lZ bs rs m ws = .ok (d,xs))(q:∀ v f h,Gr p B H f h (xs.map V.str)->bD B1 f->Rp K f d v->Q v h):T [.ref p,.int i,b,a] H1 Q E:=c ▸
 ⟨p,b,a,B1,ws,xs,d,by rw[e],g.s,g.n,by rw[g.l,u],O,R,t,fun v f h l r=>q v f h (g.tr l) l.sb r⟩
end
section
variable{P:ag}{w:ay}{K:dN}{mg:Str->ax av}{base:Heap}
def jF:au ["words","most","boxes","rooms","kind","box","number","first"] ["words","most","boxes","rooms"] (aV ik):=km
theorem Z0{bs rs:D}{m n:Nat}{C f gn gw gm ga gr gi:ar}{fd dn dw dm da dr di:af}{tW tT:Sp}{T:(aw D->Rz D)->Nat->Sp}(F:iU K "guard_taken" "guard_taken" ik f fd)(W:tW=Vq)(c:T=cI K C)(hT:tT=uf K bs rs m)
  (nA:Dp P w K mg base bZ n f fd ["words","most","boxes","rooms"] tT "guard_taken")
  (cH:Dp P w K mg base bZ n gn dn ["fits"] (T cL 1) "need")
  (U:Dp P w K mg base bZ n gw dw ["words"] tW "word_taken")
  (bu:Dp P w K mg base bZ n gm dm ["name","names"] (T bf 2) "number_named")
  (dB:Dp P w K mg base bZ n ga da ["things"] (T cT 1) "names_of")
  (cR:Dp P w K mg base bZ n gr dr ["text"] (T cG 1) "read_number")
  (d9:Dp P w K mg base bZ n gi di ["number"] (T d7 1) "is_in_reach") :
  cM P w K mg base bZ (n+1) f fd ["words","most","boxes","rooms"] (uf K bs rs (m+1)):=by
 refine F.ok jF (fun vs H Q E h=>?_) (fun _ A _ s H vs Q E hr h=>?_)
 .unfold uf at h;obtain⟨_,_,_,_,_,_,_,rfl,_⟩:=h;rfl
 unfold uf at h;obtain⟨p,_,_,B,ws,_,d,rfl,sb,bp,hp,S,Y,a,q⟩:=h
 refine⟨_,(zE (yG (pC cH hr (zA (bV pL (pv 1) zB (zS _)) zD)))
  (zE (zK (i:=4) jF.nd rfl (aT rfl) (pC U hr (zA (pv 0) zD)))
  (zE (yB (zM yE (pv 4) zQ (zS _))
  (zG (zP (zW (zA zQ zD))))
  zU)
  (zE (yB (zM vU (pv 4) (zW (zA zQ (zA zQ zD))) rfl)
  (zE (zK (i:=5) jF.nd rfl (aT rfl) (pC bu hr (zA (pC U hr (zA (pv 0) zD)) (zA (pC dB hr (zA (pv 2) zD)) zD))))
  (zE (zK (i:=6) jF.nd rfl (aT rfl) (pC cR hr (zA (pC U hr (zA (pv 0) zD)) zD)))
  (zE (yG (pC cH hr (zA (pC d9 hr (zA (pv 6) zD)) zD)))
  (zG (zP (zW (zA (pv 4) (zA (pv 5) (zA (pv 6) zD)))))))))
  zU)
  (zE (yB (zM yE (pv 4) zQ (zS _))
  (zG (zP (zW (zA zQ (zA (pC bu hr (zA (pC U hr (zA (pv 0) zD)) (zA (pC dB hr (zA (pv 3) zD)) zD))) zD)))))
  zU)
  (zE (yG (pC cH hr (zA (bV vU (pv 4) (zW (zA zQ (zA zQ (zA zQ zD)))) rfl) zD)))
  (zE (zK (i:=7) jF.nd rfl (aT rfl) (pC nA hr (zA (pv 0) (zA (yA jH (pv 1) zB) (zA (pv 2) (zA (pv 3) zD))))))
  (zE (yB (zM yE (pv 4) zQ (zS _))
  (zG (zP (zW (zA zQ (zA (pv 7) zD)))))
  zU)
  (zG (zP (zW (zA (pv 4) (zA (pv 7) (zA (pC nA hr (zA (pv 0) (zA (yA jH (pv 1) zB) (zA (pv 2) (zA (pv 3) zD))))) zD)))))))))))))),?_⟩
 cases ws with
 | nil=>rw[lZ]at a;cases a
 | cons k r=>
 have ei:((m+1:Nat):Int)-1=(m:Int):=by omega
 refine⟨_,rfl,_,_,rfl,rfl,Gr.need ⟨fun _ _ _ e=>e,bD.refl _,sb,bp,hp,fun _ _ e=>.inl e⟩ c (bq (by show (0:Int)<((m+1:Nat):Int);omega)) fun _ B1 _ g1 _=>?_⟩;refine⟨_,rfl,g1.word W fun H2 g2=>⟨_,rfl,rfl,_,rfl,?_⟩⟩;have rk:∀ {B:Hp},Rp K B (.str k) (.str k):=rfl;unfold lZ at a
 by_cases Z:k = "yes"
 .rw[cq Z]at a
  cases a
  refine sEq Z ⟨zI (hV rfl),fun t a=>g2.tup (l:=[.str "yes"]) a ⟨_,_,rfl,rfl,rfl⟩ fun _ g r=>q _ _ _ g r⟩
 rw[cn Z]at a;refine sNe Z ⟨_,rfl,zI (by decide),fun t2 L=>⟨t2,_,rfl,.inr (tH.of zC),rfl,Af [("is" : Str),"under"],_,rfl,?_⟩⟩;have M:Gr p B H B1 (upd H2 t2 (.tup [.str "is",.str "under"])) (r.map V.str):=g2.on (zF L _) (bD.refl _) (g2.s.trans (zF L _)) fun _ _ e=>.inl e;generalize upd H2 t2 (.tup [.str "is",.str "under"])=H3 at M ⊢;have I:inV (.str k) [.str "is",.str "under"]=[("is" : Str),"under"].contains k:=Ku k ["is","under"];refine itB (fun c2=>?_) (fun c2=>?_)
 .have hk:k = "is" ∨ k = "under" := by
   have:=I.symm.trans c2
   simpa using this
  rw[cq hk]at a
  split at a
  .rename_i b x xs
   obtain⟨j,y,a⟩:=mq a;obtain⟨i,en,a⟩:=mq a;obtain⟨t,er,a⟩:=mq a;obtain⟨_,ew,a⟩:=mq a
   cases a
   obtain⟨ns,z,y⟩:=mq y;refine⟨_,rfl,M.word W fun H4 o=>⟨_,rfl,o.call c z rfl ⟨_,_,rfl,S.mono o.sb,rfl⟩ fun v5 B5 H5 G s5 r5=>?_⟩⟩;ext ah;refine⟨_,rfl,u.word W fun H7 g7=>g7.call c en rfl ⟨_,_,rfl,rfl,rfl⟩ fun _ _ _ g8 s8 r8=>?_⟩;refine⟨_,rfl,g8.call c er rfl ⟨_,_,rfl,r8,rfl⟩ fun _ _ _ g9 s9 r9=>?_⟩;refine g9.call c ew rfl ⟨_,_,rfl,r9,rfl⟩ fun _ _ _ g10 VL _=>?_;refine⟨_,rfl,_,rfl,_,rfl,zI (hV rfl),fun t a=>g10.tup (l:=[.str k,j,i]) a ⟨_,_,rfl,rfl,_,_,rfl,R.mono (((s8.trans s9).trans VL)),_,_,rfl,r8.mono (s9.trans VL),rfl⟩ fun _ g r=>q _ _ _ g r⟩
  .cases a
 have hk:¬ (k = "is" ∨ k = "under"):=by
  have:=I.symm.trans c2
  simpa using this
 rw[cn hk]at a;refine⟨_,rfl,rfl,_,rfl,?_⟩
 by_cases X:k = "in"
 .rw[cq X]at a
  split at a
  .rename_i b xs
   obtain⟨j,y,a⟩:=mq a
   cases a
   obtain⟨ns,z,y⟩:=mq y;refine sEq X ⟨_,rfl,M.word W fun H4 o=>⟨_,rfl,o.call c z rfl ⟨_,_,rfl,Y.mono o.sb,rfl⟩ fun v5 B5 H5 G s5 r5=>?_⟩⟩;ext ah;exact⟨zI (hV rfl),fun t a=>u.tup (l:=[.str "in",j]) a ⟨_,_,rfl,rfl,_,_,rfl,R,rfl⟩ fun _ g r=>q _ _ _ g r⟩
  .cases a
 rw[cn X]at a;refine sNe X ⟨_,rfl,zI (by decide),fun p3 O=>⟨p3,_,rfl,.inr (tH.of zC),rfl,Af [("not" : Str),"both","either"],?_⟩⟩;have o:Gr p B H B1 (upd H3 p3 (.tup [.str "not",.str "both",.str "either"])) (r.map V.str):=M.on (zF O _) (bD.refl _) (M.s.trans (zF O _)) fun _ _ e=>.inl e;generalize upd H3 p3 (.tup [.str "not",.str "both",.str "either"])=H4 at o ⊢;have N:inV (.str k) [.str "not",.str "both",.str "either"]=[("not" : Str),"both","either"].contains k:=Ku k ["not","both","either"]
 by_cases J:k = "not"
 .rw[cq J]at a;obtain⟨⟨d1,xs⟩,et,a⟩:=mq a
  cases a
  refine o.need c (by rw[show inV (.str k) [.str "not",.str "both",.str "either"]=_ from N,J];rfl) fun _ B5 H5 G s5=>?_;ext q;refine⟨_,rfl,rfl,_,rfl,sEq J ⟨_,rfl,zI (hV rfl),fun t a=>u.tup (l:=[.str "not",d1]) a ⟨_,_,rfl,rfl,_,_,rfl,R,rfl⟩ fun _ g r=>q _ _ _ g r⟩⟩
 rw[cn J]at a
 by_cases e6:k = "both" ∨ k = "either"
 .rw[cq e6]at a;obtain⟨⟨d1,xs⟩,et,a⟩:=mq a;obtain⟨⟨d2,_⟩,et2,a⟩:=mq a
  cases a
  refine o.need c (by rw[show inV (.str k) [.str "not",.str "both",.str "either"]=_ from N];rcases e6 with rfl | rfl <;> rfl) fun _ B5 H5 G s5=>?_;ext q;refine⟨_,rfl,rfl,_,rfl,sNe J ⟨_,rfl,_,rfl,_,rfl,_,rfl,_,_,rfl,rfl,_,rfl,_,rfl,u.tak hT ei rfl (S.mono u.sb) (Y.mono u.sb) et2 fun _ _ H7 g7 s7 r7=>?_⟩⟩;exact⟨zI (hV rfl),fun t a=>g7.tup (l:=[.str k,d1,d2]) a ⟨_,_,rfl,rfl,_,_,rfl,R.mono s7,_,_,rfl,r7,rfl⟩ fun _ g r=>q _ _ _ g r⟩
 rw[cn e6]at a
 cases a
theorem Ow{bs rs:D}{n:Nat}{C f k g j q r G:ar}{a e t p i o l:af}(F:iU K "guard_taken" "guard_taken" ik f a)(M:Binds K a ["words","most","boxes","rooms"] [])(Y:mg "guard_taken" = some (.ref f))
  (c:Dp P w K mg base bZ n k e ["fits"] (cI K C cL 1) "need")
  (U:Dp P w K mg base bZ n g t ["words"] Vq "word_taken")
  (b:Dp P w K mg base bZ n j p ["name","names"] (cI K C bf 2) "number_named")
  (B:Dp P w K mg base bZ n q i ["things"] (cI K C cT 1) "names_of")
  (R:Dp P w K mg base bZ n r o ["text"] (cI K C cG 1) "read_number")
  (d:Dp P w K mg base bZ n G l ["number"] (cI K C d7 1) "is_in_reach") :
  ∀ m:Nat,cM P w K mg base bZ (n+m) f a ["words","most","boxes","rooms"] (uf K bs rs m)
 | 0=>by
  have no:∀ vs H Q E,¬ uf K bs rs 0 vs H Q E:=fun vs H Q E h=>by
   obtain⟨_,_,_,_,_,_,_,_,_,_,_,_,_,u,_⟩:=h
   cases u
  exact⟨fun vs H Q E h=>d6 h (no vs H Q E),fun A _ s H _ _ vs Q E _ _ _ _ h=>d6 h (no vs H Q E)⟩
 | m+1=>Z0 F rfl rfl rfl ⟨Ow F M Y c U b B R d m,M,F.kp,Y⟩
  ⟨c.G.mono (hU _ _),c.b,c.k,c.m⟩ ⟨U.G.mono (hU _ _),U.b,U.k,U.m⟩ ⟨b.G.mono (hU _ _),b.b,b.k,b.m⟩ ⟨B.G.mono (hU _ _),B.b,B.k,B.m⟩ ⟨R.G.mono (hU _ _),R.b,R.k,R.m⟩ ⟨d.G.mono (hU _ _),d.b,d.k,d.m⟩
def qDF(K:dN):Sp:=fun vs H Q E => ∃ bs rs,uf K bs rs 6 vs H Q E
def WR{n:Nat}{C f l g m x c i:ar}{d D y u j t q:af}(F:iU K "guard_taken" "guard_taken" ik f d)(M:Binds K d ["words","most","boxes","rooms"] [])(Y:mg "guard_taken" = some (.ref f))
  (k:Dp P w K mg base bZ n l D ["fits"] (cI K C cL 1) "need")
  (U:Dp P w K mg base bZ n g y ["words"] Vq "word_taken")
  (B:Dp P w K mg base bZ n m u ["name","names"] (cI K C bf 2) "number_named")
  (z:Dp P w K mg base bZ n x j ["things"] (cI K C cT 1) "names_of")
  (R:Dp P w K mg base bZ n c t ["text"] (cI K C cG 1) "read_number")
  (p:Dp P w K mg base bZ n i q ["number"] (cI K C d7 1) "is_in_reach") :
  cM P w K mg base bZ (n+6) f d ["words","most","boxes","rooms"] (qDF K):=by have G:=fun bs rs=>Ow (bs:=bs) (rs:=rs) F M Y k U B z R p 6;exact⟨fun vs H Q E ⟨bs,rs,h⟩=>(G bs rs).len vs H Q E h,fun A o s H a us vs Q E r e b v ⟨bs,rs,h⟩=>(G bs rs).run A o s H a us vs Q E r e b v h⟩
def rB:au ["text","boxes","rooms","words","guard"] ["text","boxes","rooms"] (aV oK):=km
theorem Hy{n:Nat}{C f gn t gt:ar}{j U dw D:af}(F:iU K "read_guard" "read_guard" oK f j)
  (cH:Dp P w K mg base bZ n gn U ["fits"] (cI K C cL 1) "need")
  (W:Dp P w K mg base bZ n t dw ["text"] (cI K C cJ 1) "words_of")
  (N:Dp P w K mg base bZ n gt D ["words","most","boxes","rooms"] (qDF K) "guard_taken")
  {I:av} (x:mg "HIGHEST" = some I) (Bk:RelV (.int 6) I) (R:mg "len" = none):cM P w K mg base bZ (n+1) f j ["text","boxes","rooms"] (cI K C fU 3):=by
 refine F.ok rB (fun vs H Q E h=>h.1) (fun _ A _ s H vs Q E hr h=>?_);obtain⟨_,B,ds,k,T,h⟩:=h
 have h':∃ d,fU ds = .ok d/\∀ v b c,bD H c->bD B b->bD b c->(∀ a o,b a=some o->B a=some o∨H a=none)->Rp K b d v->Q v c:=by
  cases e:fU ds with
  | ok d=>rw[e]at h;exact⟨d,rfl,h⟩
  | st=>rw[e]at h;exact h.elim
  | ex=>exact absurd e (by unfold fU;(repeat' split) <;> nofun)
 clear h;obtain⟨d,e,h⟩:=h';unfold fU at e
 split at e
 rotate_left
 .cases e
 rename_i z bs rs
 obtain⟨v0,_,rfl,X,q,_,rfl,rb,vr,_,rfl,rr,rfl⟩:=T
 cases (show v0=V.str z from X)
 refine⟨_,(zE (zK (i:=3) rB.nd rfl (aT rfl) (pC W hr (zA (pv 0) zD)))
  (zE (zK (i:=4) rB.nd rfl (aT rfl) (pC N hr (zA (pv 3) (zA (fB (v:=.int 6) rfl x Bk) (zA (pv 1) (zA (pv 2) zD))))))
  (zE (yG (pC cH hr (zA (bV yE (zT zO rfl R gA (zA (pv 3) zD)) zB (zS _)) zD)))
  (zG (zP (pv 4)))))),?_⟩
 split at e
 rotate_left
 .cases e
 rename_i l el
 split at e
 rotate_left
 .cases e
 rename_i ws ew
 split at e
 rotate_left
 .cases e
 rename_i g et
 cases e
 refine⟨_,rfl,lE (B:=fun _=>none) (ds:=[.str z]) rfl (fun _ _ e=>nomatch e) ⟨_,_,rfl,rfl,rfl⟩ el fun v _ _ S _ s1 O r=>?_⟩;obtain⟨p,_,rfl,Z,ru⟩:=r
 cases Eb ew ru
 have m:H p=none:=(O _ _ Z).elim (fun e=>nomatch e) id;have nb:B p=none:=k.free m;refine⟨_,rfl,_,rfl,_,rfl,bs,rs,p,q,vr,B,ws,[],_,rfl,k.trans S,nb,s1 _ _ Z,rb,rr,et,fun v _ _ G J=>?_⟩;refine⟨_,rfl,p,_,rfl,.inl (jx.of G.l),rfl,G.need rfl rfl fun _ L Y M u=>⟨_,rfl,?_⟩⟩;exact h v L Y (fun a o e=>M.k a o (fun y=>by rw[y,m]at e;cases e) (S _ _ e)) M.sb M.s (fun a o e=>(M.gr a o e).elim .inl fun y=>.inr (S.free y)) (J.mono u)
end
def Fp(h:lg fs x y z f = .ok r):∃ l m n d d',fs.lookup x=some (.li l)/\fs.lookup y=some (.li m)/\fs.lookup z=some (.li n)/\l.getLast? = some d/\f d (.lst m) (.lst n) = .ok d'/\d'.nl=true/\r=(ji x (.li (l.set (l.length-1) d')) fs,.non):=by
 unfold lg at h
 split at h
 .rename_i l m n E e U
  split at h
  .rename_i d c
   split at h
   .rename_i d' J
    split at h
    .rename_i p
     cases h
     exact⟨l,m,n,d,d',E,e,U,c,J,p,rfl⟩
    .cases h
   .cases h
  .cases h
 .cases h
def WD(h:lg fs x y z f = .ex):False:=by
 unfold lg at h
 (repeat' split at h) <;> cases h
def SX(h:l.getLast? = some d)(r:fj K B l us):∃ v,xZ us (-1)=some v/\Rp K B d v/\Nz us.length (-1)=some (us.length-1):=by
 have f:=r.len;rw[List.getLast?_eq_getElem?]at h;obtain⟨v,e,q⟩:=r.get h
 have c:0<l.length:=by
  have:=(rO.mp h).1;omega
 have H:Nz us.length (-1)=some (us.length-1):=by
  unfold Nz;rw[cn (by omega),cq (by omega)];congr 1;omega
 refine⟨v,?_,q,H⟩;unfold xZ;rw[H];show us[us.length-1]? = _;rw[f,e]
def nC:aw (Str×D):=[("in",.int 5),("out",.int 6),("do",.int 3)]
theorem Hc(C:ar)(fs:Ms)(ds:aw D):fL C fs ds = .st ∨ ∃ k t r,ds=[.str k,.str t]/\fL C fs ds = .ok r/\((k = "when" /\ lg fs "doors" "boxes" "rooms" (wj (.str t)) = .ok r)∨k ≠ "when" /\ ∃ x i,(x = "rooms" /\ (k = "in" ∨ k = "out")∨x = "doors" /\ ¬ (k = "in" ∨ k = "out"))/\nC.lookup k=some (.int i)/\lg fs x "boxes" "events" (pY (.str t) i) = .ok r):=by
 by_cases hd:∃ k t,ds=[.str k,.str t]
 .obtain⟨k,t,rfl⟩:=hd
  cases e:fL C fs [.str k,.str t] with
  | st=>exact .inl rfl
  | ex=>
   unfold fL at e
   dsimp only at e
   (repeat' split at e) <;> first | exact (WD e).elim | cases e
  | ok r=>
   refine .inr ⟨k,t,r,rfl,rfl,?_⟩;unfold fL at e
   dsimp only at e
   split at e
   .rename_i a
    exact .inl ⟨a,e⟩
   rename_i a
   refine .inr ⟨a,?_⟩
   split at e
   .rename_i H
    subst H;exact⟨_,5,.inl ⟨rfl,.inl rfl⟩,rfl,e⟩
   rename_i H
   split at e
   .rename_i h
    subst h;exact⟨_,6,.inl ⟨rfl,.inr rfl⟩,rfl,e⟩
   rename_i h
   split at e
   .rename_i c
    subst c;exact⟨_,3,.inr ⟨rfl,fun z=>z.elim H h⟩,rfl,e⟩
   .cases e
 .refine .inl ?_;unfold fL
  split
  .exact d6 ⟨_,_,rfl⟩ hd
  .rfl
section
variable{K:dN}{B H B3 H3:Hp}{a CO p:ar}{dx:ar}{fs:Ms}{bQ:aw (Str×V)}{x:Str}{l:aw D}{us:aw V}{d:D}{v:V}
def seen(fs:Ms)(bQ:aw (Str×V))(B H:Hp):Hp:=fun b=>if b∈adr fs bQ then H b else B b
def QH(r:uJ K B H fs bQ)(M:bD B H):bD B (seen fs bQ B H)/\bD (seen fs bQ B H) H/\∀ b o,seen fs bQ B H b=some o->B b=some o∨b∈adr fs bQ:=by
 refine⟨fun b u e=>?_,fun b u e=>?_,fun b u e=>?_⟩
 .unfold seen
  by_cases z:b∈adr fs bQ
  .rw[(r.lies b z).1]at e;cases e
  .rw[cn z];exact e
 .unfold seen at e
  by_cases z:b∈adr fs bQ
  .rw[cq z]at e;exact e
  .rw[cn z]at e;exact M _ _ e
 .unfold seen at e
  by_cases z:b∈adr fs bQ
  .exact .inr z
  .rw[cn z]at e;exact .inl e
def Ai(R:uJ K B H fs bQ)(M:bD B H)(e:fs.lookup x=some (.li l)):∃ p us,bQ.lookup x=some (.ref p)/\H p=some (.lst us)/\fj K B l us/\Rp K (seen fs bQ B H) (.lst l) (.ref p):=by obtain⟨p,us,E,a,U,_,_,r⟩:=R.look.2.1 l e;exact⟨p,us,E,U,r,p,us,rfl,by unfold seen;rw[cq a];exact U,r.mono (QH R M).1⟩
theorem Fo(r:uJ K B H fs bQ)(T:bD B H)(E:H a=some (.ins CO dx bQ))(L:B a=none)(N:(adr fs bQ).Nodup)(I:fs.lookup x=some (.li l))(F:bQ.lookup x=some (.ref p))(hp:H p=some (.lst us))(ru:fj K B l us)(i:Nat)
  (S:bD H H3) (s1:bD (seen fs bQ B H) B3) (J:bD B3 H3) (W:∀ b o,B3 b=some o->seen fs bQ B H b=some o∨H b=none) (Y:Rp K B3 d v) (X:d.nl=true) {Q:VK}
  (q:∀ f h,(∀ b u,H b=some u->b≠a->b∉adr fs bQ->h b=some u)->bD B f->bD f h->(∀ b o,f b=some o->B b=some o∨H b=none∨b=a∨b∈adr fs bQ)->h a=some (.ins CO dx bQ)->f a=none->uJ K f h (ji x (.li (l.set i d)) fs) bQ->(adr (ji x (.li (l.set i d)) fs) bQ).Nodup->(∀ b∈adr (ji x (.li (l.set i d)) fs) bQ,b∈adr fs bQ∨H b=none)->Q .non h) :
  Q .non (upd H3 p (.lst (us.set i v))):=by
 obtain⟨z1,_,z3⟩:=QH r T
 have P:p∈adr fs bQ:=by
  obtain⟨_,_,C,M,_⟩:=r.look.2.1 l I;rw[F]at C
  cases C
  exact M
 have U:a∉adr fs bQ:=fun z=>by
  obtain⟨_,_,ws,y⟩:=r.lies a z;rw[E]at y
  cases y
 let c:Hp:=fun b=>if b∈adr fs bQ then none else B3 b
 have A:∀ b,b∈adr fs bQ->c b=none:=fun b z=>cq z;have w:∀ b,b∉adr fs bQ->c b=B3 b:=fun b z=>cn z
 have s:∀ b u,c b=some u->b∉adr fs bQ/\B3 b=some u:=fun b u e=>by
  by_cases z:b∈adr fs bQ
  .rw[A b z]at e;cases e
  .rw[w b z]at e;exact⟨z,e⟩
 have j:bD B c:=fun b u e=>by
  rw[w b fun z=>by rw[(r.lies b z).1]at e;cases e];exact s1 _ _ (z1 _ _ e)
 have g:∀ b o,c b=some o->B b=some o∨H b=none:=fun b o e=>by
  obtain⟨n,e⟩:=s b o e;rcases W b o e with y | y
  .exact (z3 b o y).elim .inl fun z=>d6 z n
  .exact .inr y
 have ne:∀ b,b∉adr fs bQ->b≠p:=fun b n z=>n (by rw[z];exact P)
 have R:Rp K c d v:=by
  refine S7 (fun b _ t=>?_) X Y
  have k:∀ u,B3 b=some u->(∀ ys,u≠.lst ys)->c b=some u:=fun u e Z=>by
   rw[w b fun z=>?_]
   .exact e
   .obtain⟨_,_,ws,y⟩:=r.lies b z;have:=S _ _ y;rw[J _ _ e]at this
    cases this
    exact Z ws rfl
  rcases t with (t | ⟨o,t⟩) | t
  .exact .inl (.inl (k _ t fun _=>nofun))
  .exact .inl (.inr ⟨o,k _ t fun _=>nofun⟩)
  .exact .inr t
 obtain⟨O,G⟩:=Lp (vs':=us.set i v) (l':=l.set i d) (fj.set R i (ru.mono j)) (oZ.mono j S g r) N I F;refine q c _ (fun b u e n m=>?_) j (fun b u e=>?_) (fun b o e=>(g b o e).elim .inl fun y=>.inr (.inl y)) ?_ ?_ O (by rw[G];exact N) fun b D=>.inl (by rw[G]at D;exact D)
 .rw[zR (ne b m)];exact S _ _ e
 .obtain⟨n,e⟩:=s b u e;rw[zR (ne b n)];exact J _ _ e
 .rw[zR (ne a U)];exact S _ _ E
 .cases e:c a with
  | none=>rfl
  | some o=>
   rcases g a o e with y | y
   .rw[L]at y;cases y
   .rw[E]at y;cases y
end
section
variable{P:ag}{w:ay}{K:dN}{mg:Str->ax av}{base:Heap}
def By:au ["self","kind","text","things"] ["self","kind","text"] (aV oM):=km
def NK(F:iU K "add_part" "Draft.add_part" oM f fd)
  (M3:Dp P w K mg base bZ n gw dw ["door","guard"] (cI K C o7 2) "with_guard")
  (M4:Dp P w K mg base bZ n gg dg ["text","boxes","rooms"] (cI K C fU 3) "read_guard")
  (PB:Dp P w K mg base bZ n gd dd ["thing","place","deed"] (cI K C qL 3) "with_deed")
  (PK:Dp P w K mg base bZ n gr dr ["text","boxes","events"] (cI K C qZ 3) "read_deed")
  (bM:Hk K aO) (cZ:cz K aO "boxes") (du:cz K aO "doors") (cW:cz K aO "events") (cQ:cz K aO "rooms") (IW:mg "DEED_PLACES" = some (.ref qH6)) (qH9:KD P w K qH6 qGD) (qH8:∀ B,Pn K B nC qGD) :
  cM P w K mg base bZ (n+1) f fd ["self","kind","text"] (Vr K C aO (fL aO) 3):=by
 refine F.ok By (fun vs H Q E h=>h.1) (fun _ A _ s H vs Q E hr h=>?_);obtain⟨_,B,a,O,G,fs,ds,_,rfl,sb,ea,ba,rm,nd,rl,h⟩:=h
 refine⟨_,(zE (zK (i:=3) By.nd rfl (aT rfl) (yg (zM vU (pv 1) (zW (zA zQ (zA zQ zD))) rfl) (dq (pv 0) rfl) (dq (pv 0) rfl)))
  (zG (yB (zM yE (pv 1) zQ (zS _))
  (zG (QZ (pC M3 hr (zA (z0 yO (pv 3) (uO nQ zB) (fun _ _=>rfl)) (zA (pC M4 hr (zA (pv 2) (zA (dq (pv 0) rfl) (zA (dq (pv 0) rfl) zD)))) zD))) (Qc (pv 3) (uO nQ zB) set_list (fun _=>rfl))))
  (zG (QZ (pC PB hr (zA (z0 yO (pv 3) (uO nQ zB) (fun _ _=>rfl)) (zA (qAN qH9 rfl IW (pv 1) (fun _ _=>rfl)) (zA (pC PK hr (zA (pv 2) (zA (dq (pv 0) rfl) (zA (dq (pv 0) rfl) zD)))) zD)))) (Qc (pv 3) (uO nQ zB) set_list (fun _=>rfl))))))),?_⟩
 have h':∃ k t j,ds=[.str k,.str t]/\((k = "when" /\ lg fs "doors" "boxes" "rooms" (wj (.str t)) = .ok (j,.non))∨k ≠ "when" /\ ∃ x i,(x = "rooms" /\ (k = "in" ∨ k = "out")∨x = "doors" /\ ¬ (k = "in" ∨ k = "out"))/\nC.lookup k=some (.int i)/\lg fs x "boxes" "events" (pY (.str t) i) = .ok (j,.non)) ∧
   ∀ L J,(∀ b u,H b=some u->b≠a->b∉adr fs G->J b=some u)->bD B L->bD L J->(∀ b o,L b=some o->B b=some o∨H b=none∨b=a∨b∈adr fs G)->J a=some (.ins aO O G)->L a=none->uJ K L J j G->(adr j G).Nodup->(∀ b∈adr j G,b∈adr fs G∨H b=none)->Q .non J:=by
  rcases Hc aO fs ds with e | ⟨k,t,r,e1,e2,e3⟩
  .rw[e]at h;ext b
  have e4:∃ j,r=(j,.non):=by
   rcases e3 with ⟨_,e⟩ | ⟨_,_,_,_,_,e⟩ <;> obtain⟨_,_,_,_,_,_,_,_,_,_,_,z⟩:=Fp e <;> exact⟨_,z⟩
  obtain⟨j,rfl⟩:=e4;rw[e2]at h;exact⟨k,t,j,e1,e3,fun L J q1 q2 q3 q4 q5 q6 q7 q8 q9=>h .non L J O G q1 q2 q3 q4 q5 q6 q7 q8 q9 rfl⟩
 clear h;obtain⟨k,t,j,rfl,hk,q⟩:=h';obtain⟨v1,_,rfl,r1,v2,_,rfl,r2,rfl⟩:=rl
 cases (show v1=V.str k from r1)
 cases (show v2=V.str t from r2)
 refine⟨_,rfl,zI (hV rfl),fun t0 ht0=>⟨t0,_,rfl,.inr (tH.of zC),rfl,Af [("in" : Str),"out"],_,rfl,?_⟩⟩;have ec:inV (.str k) [.str "in",.str "out"]=[("in" : Str),"out"].contains k:=Ku k ["in","out"];have M:=zF ht0 (.tup [.str "in",.str "out"]);have YM:=oZ.mono (bD.refl B) M (fun _ _ e=>.inl e) rm;have Y:=sb.trans M;have N:=M _ _ ea
 replace q:∀ L J,(∀ b u,upd H t0 (.tup [.str "in",.str "out"]) b=some u->b≠a->b∉adr fs G->J b=some u)->bD B L->bD L J->(∀ b o,L b=some o->B b=some o∨upd H t0 (.tup [.str "in",.str "out"]) b=none∨b=a∨b∈adr fs G)->J a=some (.ins aO O G)->L a=none->uJ K L J j G->(adr j G).Nodup->(∀ b∈adr j G,b∈adr fs G∨upd H t0 (.tup [.str "in",.str "out"]) b=none)->Q .non J:=fun L J q1 q2 q3 q4 q5 q6 q7 q8 q9=>
  q L J (fun b u e=>q1 b u (M _ _ e)) q2 q3 (fun b o e=>(q4 b o e).imp id (.imp M.free id)) q5 q6 q7 q8 fun b e=>(q9 b e).imp id M.free
 generalize upd H t0 (.tup [.str "in",.str "out"])=H1 at *;obtain⟨z1,z2,_⟩:=QH YM Y;rcases hk with ⟨rfl,hk⟩ | ⟨hw,x,i,hx,hi,hk⟩
 .obtain⟨l,m,n,d,d',el,em,en,eg,X,hn,er⟩:=Fp hk
  cases er
  obtain⟨p,us,pv,Z,pr,pR⟩:=Ai YM Y el;obtain⟨pm,_,mv,_,_,mR⟩:=Ai YM Y em;obtain⟨pn,_,nv,_,_,nR⟩:=Ai YM Y en;obtain⟨v,ev,rv,ei⟩:=SX eg pr;unfold wj at X
  split at X
  rotate_left
  .cases X
  rename_i g e1
  have fin:∀ D:Ends,D.nx=(fun _ J=>Q .non J)->True:=fun _ _=>trivial;refine itB (fun c=>d6 (ec.symm.trans c) (by ext y)) fun _=>⟨_,rfl,a,aO,O,G,_,rfl,N,bM,du,pv,?_⟩;refine⟨_,rfl,rfl,_,rfl,sEq rfl ?_⟩;refine⟨_,rfl,1,rfl,p,us,-1,v,rfl,rfl,jx.of Z,ev,?_⟩;refine⟨_,rfl,_,rfl,a,aO,O,G,_,rfl,N,bM,cZ,mv,_,rfl,a,aO,O,G,_,rfl,N,bM,cQ,nv,?_⟩;refine lE (B:=seen fs G B H1) (ds:=[.str t,.lst m,.lst n]) rfl z2 ⟨_,_,rfl,rfl,_,_,rfl,mR,_,_,rfl,nR,rfl⟩ e1 fun v2 B2 H2 T I W g2 r2=>?_;refine lE (B:=B2) (ds:=[d,g]) rfl W ⟨_,_,rfl,rv.mono (z1.trans I),_,_,rfl,r2,rfl⟩ X fun v3 B3 H3 S U R g3 r3=>?_;refine⟨_,rfl,1,rfl,p,us,-1,us.length-1,rfl,rfl,S _ _ (T _ _ Z),ei,?_⟩;rw[show us.length-1=l.length-1 by rw[pr.len]];ext d
 .obtain⟨l,m,n,d,d',el,em,en,eg,X,hn,er⟩:=Fp hk
  cases er
  obtain⟨p,us,pv,Z,pr,pR⟩:=Ai YM Y el;obtain⟨pm,_,mv,_,_,mR⟩:=Ai YM Y em;obtain⟨pn,_,nv,_,_,nR⟩:=Ai YM Y en;obtain⟨v,ev,rv,ei⟩:=SX eg pr;obtain⟨vi,li,ri⟩:=(qH8 B).look.1 _ hi
  cases (show vi=V.int i from ri)
  unfold pY at X
  split at X
  rotate_left
  .cases X
  rename_i g e1
  have hc:[("in" : Str),"out"].contains k=decide (k = "in" ∨ k = "out"):=by
   rw[dQ,decide_eq_true_iff];simp
  rcases hx with ⟨rfl,hx⟩ | ⟨rfl,hx⟩
  .refine itB (fun _=>⟨_,rfl,a,aO,O,G,_,rfl,N,bM,cQ,pv,?_⟩) fun c=>d6 (ec.symm.trans c) (by rw[hc,bq hx];decide);ext a;rw[show us.length-1=l.length-1 by rw[pr.len]];ext d
  .refine itB (fun c=>d6 (ec.symm.trans c) (by rw[hc,bg hx];decide)) fun _=>⟨_,rfl,a,aO,O,G,_,rfl,N,bM,du,pv,?_⟩;ext a;rw[show us.length-1=l.length-1 by rw[pr.len]];ext d
end
def Rk(P:Params):∀ B,Rp (KO P) B (.tup [.str "plain",.str "one",.str "all"]) (.ref 45):=lO (n:=0) [("plain",235),("one",236),("all",237)] (by kernel_rfl) (by decide)
def W3(P:Params):∀ B,Rp (KO P) B (.tup [.str "inner",.str "outer"]) (.ref 44):=lO (n:=0) [("inner",232),("outer",233)] (by kernel_rfl) (by decide)
def kB:aw (Str×Nat×ar):=[("",450,188),("order",452,189),("letters",454,190),("turns",456,191),("box",460,192),("event",464,193),("room",467,194),("in",472,195),("out",477,196),("door",481,197),("when",485,198),("do",488,199)]
def qGU(w:ay):KD PW w (KO w.params) 187 (kB.map fun x=>(x.1,V.ref x.2.2)):=qG5 (ep:=12) kB (by kernel_rfl) (by ext y)
def qGR(P:Params):∀ B,Pn (KO P) B qG (kB.map fun x=>(x.1,V.ref x.2.2)):=fun B=>⟨_,_,rfl,lO (n:=0) [("order",451)] (by kernel_rfl) (by decide) B,⟨_,_,rfl,lO (n:=0) [("letters",453)] (by kernel_rfl) (by decide) B,⟨_,_,rfl,lO (n:=0) [("turns",455)] (by kernel_rfl) (by decide) B,⟨_,_,rfl,lO (n:=0) [("box",457),("event",458),("room",459)] (by kernel_rfl) (by decide) B,⟨_,_,rfl,lO (n:=0) [("box",461),("event",462),("room",463)] (by kernel_rfl) (by decide) B,⟨_,_,rfl,lO (n:=0) [("event",465),("room",466)] (by kernel_rfl) (by decide) B,⟨_,_,rfl,lO (n:=0) [("in",468),("out",469),("room",470),("door",471)] (by kernel_rfl) (by decide) B,⟨_,_,rfl,lO (n:=0) [("in",473),("out",474),("room",475),("door",476)] (by kernel_rfl) (by decide) B,⟨_,_,rfl,lO (n:=0) [("out",478),("room",479),("door",480)] (by kernel_rfl) (by decide) B,⟨_,_,rfl,lO (n:=0) [("when",482),("do",483),("door",484)] (by kernel_rfl) (by decide) B,⟨_,_,rfl,lO (n:=0) [("do",486),("door",487)] (by kernel_rfl) (by decide) B,⟨_,_,rfl,lO (n:=0) [("do",489),("door",490)] (by kernel_rfl) (by decide) B,rfl⟩⟩⟩⟩⟩⟩⟩⟩⟩⟩⟩⟩
def kI:aw (Str×Nat×Int×Nat):=[("in",504,5,505),("out",506,6,507),("do",508,3,509)]
def qGT(w:ay):KD PW w (KO w.params) 200 (kI.map fun x=>(x.1,V.int x.2.2.1)):=qD0 (ep:=3) kI (by kernel_rfl) (by ext y)
def qGQ(P:Params):∀ B,Pn (KO P) B nC (kI.map fun x=>(x.1,V.int x.2.2.1)):=fun B=>⟨_,_,rfl,rfl,⟨_,_,rfl,rfl,⟨_,_,rfl,rfl,rfl⟩⟩⟩
def law_ok{w:ay}{mg:Str->ax av}{h R:Heap}(X:(KO w.params).In h)(G:h.Ns mainGlobals mg):cM PW w (KO w.params) mg R bZ 13 500 ZZ ["_law_script"] (Vs (KO w.params)):=by have ap {CX:Pr} {k:Nat} {f:ar} {fd:af} {ps:aw Str} {sp:Sp} (h:cM PW w (KO w.params) mg R CX k f fd ps sp):=h;have mo {x:Str} {a:ar} (h:NS x a):=ck X G (h w.params);have mz {x:Str} (h:NZ x):=PySem.W.mg_none_of X G (h w.params);have F1:=u1 w.params;have b1:=F1.binds (ps:=["number","things"]) fun _ _ _ _ _ _=>sJ fun _ _=>rfl;have m1:=mo a1;have F2:=u2 w.params;have b2:=F2.binds (ps:=["number"]) fun _ _ _ _ _ _=>qI fun _=>rfl;have m2:=mo a2;have F3:=u3 w.params;have b3:=F3.binds (ps:=["things"]) fun _ _ _ _ _ _=>qI fun _=>rfl;have m3:=mo a3;have k3:=F3.kp;have F4:=u4 w.params;have b4:=F4.binds (ps:=["text"]) fun _ _ _ _ _ _=>qI fun _=>rfl;have m4:=mo a4;have F5:=u5 w.params;have b5:=F5.binds (ps:=["name","ahead"]) fun _ _ _ _ _ _=>sJ fun _ _=>rfl;have m5:=mo a5;have F6:=u6 w.params;have b6:=F6.binds (ps:=["box","ahead"]) fun _ _ _ _ _ _=>sJ fun _ _=>rfl;have m6:=mo a6;have F7:=u7 w.params;have b7:=F7.binds (ps:=["depth","ahead"]) fun _ _ _ _ _ _=>sJ fun _ _=>rfl;have m7:=mo a7;have F8:=u8 w.params;have b8:=F8.binds (ps:=["keeps","kind"]) fun _ _ _ _ _ _=>sJ fun _ _=>rfl;have m8:=mo a8;have F9:=u9 w.params;have b9:=F9.binds (ps:=["room","behind"]) fun _ _ _ _ _ _=>sJ fun _ _=>rfl;have m9:=mo a9;have A:=u10 w.params;have b10:=A.binds (ps:=["deed","boxes","events"]) fun _ _ _ _ _ _=>yt fun _ _ _=>rfl;have m10:=mo a10;have r:=u11 w.params;have b11:=r.binds (ps:=["deeds","boxes","events"]) fun _ _ _ _ _ _=>yt fun _ _ _=>rfl;have m11:=mo a11;have F12:=u12 w.params;have b12:=F12.binds (ps:=["room","ahead","boxes","events"]) fun _ _ _ _ _ _=>Wu fun _ _ _ _=>rfl;have m12:=mo a12;have F13:=u13 w.params;have b13:=F13.binds (ps:=["way","goal","rooms"]) fun _ _ _ _ _ _=>yt fun _ _ _=>rfl;have m13:=mo a13;have J:=u14 w.params;have b14:=J.binds (ps:=["guard"]) fun _ _ _ _ _ _=>qI fun _=>rfl;have m14:=mo a14;have H:=u15 w.params;have b15:=H.binds (ps:=["guard"]) fun _ _ _ _ _ _=>qI fun _=>rfl;have m15:=mo a15;have E:=u16 w.params;have b16:=E.binds (ps:=["guard"]) fun _ _ _ _ _ _=>qI fun _=>rfl;have m16:=mo a16;have F17:=u17 w.params;have b17:=F17.binds (ps:=["guard"]) fun _ _ _ _ _ _=>qI fun _=>rfl;have m17:=mo a17;have F18:=u18 w.params;have b18:=F18.binds (ps:=["guard","boxes","rooms"]) fun _ _ _ _ _ _=>yt fun _ _ _=>rfl;have m18:=mo a18;have Y:=u19 w.params;have b19:=Y.binds (ps:=["door","boxes","events","rooms"]) fun _ _ _ _ _ _=>Wu fun _ _ _ _=>rfl;have m19:=mo a19;have F20:=u20 w.params;have O:=F20.binds (ps:=["fits"]) fun _ _ _ _ _ _=>qI fun _=>rfl;have q:=mo a20;have N:=F20.kp;have F:=u21 w.params;have D:=F.binds (ps:=["text"]) fun _ _ _ _ _ _=>qI fun _=>rfl;have M:=mo a21;have e:=u22 w.params;have L:=e.binds (ps:=["text"]) fun _ _ _ _ _ _=>qI fun _=>rfl;have p:=mo a22;have F23:=u23 w.params;have b23:=F23.binds (ps:=["kind","words"]) fun _ _ _ _ _ _=>sJ fun _ _=>rfl;have m23:=mo a23;have F24:=u24 w.params;have b24:=F24.binds (ps:=["words","mark"]) fun _ _ _ _ _ _=>sJ fun _ _=>rfl;have m24:=mo a24;have F25:=u25 w.params;have b25:=F25.binds (ps:=["row"]) fun _ _ _ _ _ _=>qI fun _=>rfl;have m25:=mo a25;have F26:=u26 w.params;have b26:=F26.binds (ps:=["row"]) fun _ _ _ _ _ _=>qI fun _=>rfl;have m26:=mo a26;have i:=u27 w.params;have b27:=i.binds (ps:=["name","names"]) fun _ _ _ _ _ _=>sJ fun _ _=>rfl;have W:=mo a27;have F28:=u28 w.params;have b28:=F28.binds (ps:=["words","boxes","events"]) fun _ _ _ _ _ _=>yt fun _ _ _=>rfl;have m28:=mo a28;have F29:=u29 w.params;have b29:=F29.binds (ps:=["door","guard"]) fun _ _ _ _ _ _=>sJ fun _ _=>rfl;have m29:=mo a29;have F30:=u30 w.params;have b30:=F30.binds (ps:=["thing","place","deed"]) fun _ _ _ _ _ _=>yt fun _ _ _=>rfl;have m30:=mo a30;have F31:=u31 w.params;have b31:=F31.binds (ps:=["text","boxes","events"]) fun _ _ _ _ _ _=>yt fun _ _ _=>rfl;have m31:=mo a31;have F32:=u32 w.params;have b32:=F32.binds (ps:=["words","ahead"]) fun _ _ _ _ _ _=>sJ fun _ _=>rfl;have m32:=mo a32;have F33:=u33 w.params;have b33:=F33.binds (ps:=["words","ahead"]) fun _ _ _ _ _ _=>sJ fun _ _=>rfl;have m33:=mo a33;have T:=u34 w.params;have b34:=T.binds (ps:=["words"]) fun _ _ _ _ _ _=>qI fun _=>rfl;have m34:=mo a34;have F35:=u35 w.params;have b35:=F35.binds (ps:=["words","most","boxes","rooms"]) fun _ _ _ _ _ _=>Wu fun _ _ _ _=>rfl;have m35:=mo a35;have F36:=u36 w.params;have b36:=F36.binds (ps:=["text","boxes","rooms"]) fun _ _ _ _ _ _=>yt fun _ _ _=>rfl;have m36:=mo a36;have F37:=u37 w.params;have b37:=F37.binds (ps:=["row","draft"]) fun _ _ _ _ _ _=>sJ fun _ _=>rfl;have m37:=mo a37;have F38:=u38 w.params;have b38:=F38.binds (ps:=["words","draft"]) fun _ _ _ _ _ _=>sJ fun _ _=>rfl;have m38:=mo a38;have F39:=u39 w.params;have b39:=F39.binds (ps:=["text"]) fun _ _ _ _ _ _=>qI fun _=>rfl;have m39:=mo a39;have d:=u40 w.params;have o:=d.binds (ps:=["_law_script","_law_k"]) fun _ _ _ _ _ _=>sJ fun _ _=>rfl;have y:=mo a40;have S:=u41 w.params;have B:=S.binds (ps:=["_law_script","_law_k","_law_salt"]) fun _ _ _ _ _ _=>yt fun _ _ _=>rfl;have m:=mo a41;have c:=S.kp;have v:=u42 w.params;have b42:=v.binds (ps:=["_law_number"]) fun _ _ _ _ _ _=>qI fun _=>rfl;have m42:=mo a42;have F43:=u43 w.params;have b43:=F43.binds (ps:=["_law_k","_law_number"]) fun _ _ _ _ _ _=>sJ fun _ _=>rfl;have m43:=mo a43;have j:=u44 w.params;have b44:=j.binds (ps:=["_law_script","_law_many","_law_salt"]) fun _ _ _ _ _ _=>yt fun _ _ _=>rfl;have m44:=mo a44;have F45:=u45 w.params;have b45:=F45.binds (ps:=["_law_script","_law_k","_law_salt","_law_boxes_here","_law_events"]) fun _ _ _ _ _ _=>ZF fun _ _ _ _ _=>rfl;have m45:=mo a45;have t:=u46 w.params;have b46:=t.binds (ps:=["_law_script","_law_k","_law_salt","_law_boxes_here","_law_events"]) fun _ _ _ _ _ _=>ZF fun _ _ _ _ _=>rfl;have m46:=mo a46;have F47:=u47 w.params;have b47:=F47.binds (ps:=["_law_script","_law_k","_law_salt","_law_high","_law_boxes_here","_law_rooms_here"]) fun _ _ _ _ _ _=>qGP fun _ _ _ _ _ _=>rfl;have m47:=mo a47;have F48:=u48 w.params;have b48:=F48.binds (ps:=["_law_script","_law_many"]) fun _ _ _ _ _ _=>sJ fun _ _=>rfl;have m48:=mo a48;have F49:=u49 w.params;have b49:=F49.binds (ps:=["_law_script","_law_many","_law_boxes_here","_law_events"]) fun _ _ _ _ _ _=>Wu fun _ _ _ _=>rfl;have m49:=mo a49;have F50:=u50 w.params;have b50:=F50.binds (ps:=["_law_script","_law_many","_law_rooms_here","_law_boxes_here","_law_events"]) fun _ _ _ _ _ _=>ZF fun _ _ _ _ _=>rfl;have m50:=mo a50;have Z:=u51 w.params;have b51:=Z.binds (ps:=["_law_script"]) fun _ _ _ _ _ _=>qI fun _=>rfl;have m51:=mo a51;have F52:=u52 w.params;have b52:=F52.binds (ps:=["_law_deed_here","_law_boxes_here","_law_events"]) fun _ _ _ _ _ _=>yt fun _ _ _=>rfl;have m52:=mo a52;have F53:=u53 w.params;have b53:=F53.binds (ps:=["_law_guard_here","_law_boxes_here","_law_rooms_here"]) fun _ _ _ _ _ _=>yt fun _ _ _=>rfl;have m53:=mo a53;have F54:=u54 w.params;have b54:=F54.binds (ps:=["_law_chart_here"]) fun _ _ _ _ _ _=>qI fun _=>rfl;have m54:=mo a54;have F55:=u55 w.params;have b55:=F55.binds (ps:=["_law_found","_law_due"]) fun _ _ _ _ _ _=>sJ fun _ _=>rfl;have m55:=mo a55;have F56:=u56 w.params;have b56:=F56.binds (ps:=["_law_chart_here"]) fun _ _ _ _ _ _=>qI fun _=>rfl;have m56:=mo a56;have F57:=u57 w.params;have FM1:=uM1 w.params;have bM1:=FM1.binds (ps:=["self"]) fun _ _ _ _ _ _=>qI fun _=>rfl;have MkC:Mk (KO w.params) 371 340:=⟨(mkC w.params).1,aM1 w.params,iM1 w.params,(mkC w.params).2⟩;have FM2:=uM2 w.params;have bM2:=FM2.binds (ps:=["self","row"]) fun _ _ _ _ _ _=>sJ fun _ _=>rfl;have mM2:Meth (KO w.params) 371 "add" 347:=⟨aM2 w.params,iM2 w.params,FM2.kp⟩;have FM3:=uM3 w.params;have bM3:=FM3.binds (ps:=["self","kind","text"]) fun _ _ _ _ _ _=>yt fun _ _ _=>rfl;have mM3:Meth (KO w.params) 371 "add_part" 354:=⟨aM3 w.params,iM3 w.params,FM3.kp⟩;have FM4:=uM4 w.params;have bM4:=FM4.binds (ps:=["self"]) fun _ _ _ _ _ _=>qI fun _=>rfl;have mM4:Meth (KO w.params) 371 "may_end" 361:=⟨aM4 w.params,iM4 w.params,FM4.kp⟩;have FM5:=uM5 w.params;have bM5:=FM5.binds (ps:=["self"]) fun _ _ _ _ _ _=>qI fun _=>rfl;have mM5:Meth (KO w.params) 371 "whole" 368:=⟨aM5 w.params,iM5 w.params,FM5.kp⟩;have u:=clC w.params;have mC:=mo aC;have Ry:=WY w.params;have Fy:=U8 w.params;have sI:=UG w.params;have ou:=Ql w.params;have U:=U7 w.params;have uv:=U9 w.params;have Wg:=mz z1;have qDV:=mz z2;have qC5:=mz z3;have Nf:=mz z4;have qDU:=mz z5;have Kf:=mz z6;have g:=mz z7;have qAS:=mz z8;have qAR:=mz z9;have uA:=mz z10;have qDT:=mz z11;have Wf:=mz z12;have S9:=mz z13;have Q:=mz z14;have Gk:=ck X G (v1 w.params);have Ur:=ck X G (v2 w.params);have Dk:=ck X G (v3 w.params);have Ut:=ck X G (v4 w.params);have zb:=ck X G (v5 w.params);have Ss:=mo v6;have JM:=ck X G (v7 w.params);have Us:=ck X G (v8 w.params);have Gj:=ck X G (v9 w.params);have Kw:=ck X G (v10 w.params);have XJ:=mo v11;have Ib:=ck X G (v12 w.params);have Ky:=ck X G (v13 w.params);have Kz:=ck X G (v14 w.params);have LC:=ck X G (v15 w.params);have XM:=mo v16;have Ie:=mo v17;have G1:=ap (Dd (n:=0) (C:=371) F1 g);have G2:=ap (Fv (n:=0) (C:=371) F2 Gk ⟨_,rfl⟩);have G3:=ap (My (n:=0) (C:=371) F3);have G4:=ap (Qh (n:=0) (C:=371) F4 Wg g Ur ⟨_,rfl⟩ Dk ⟨_,rfl⟩);have G5:=ap (yj (n:=1) (C:=371) F5 ⟨G4,b4,F4.kp,m4⟩);have G6:=ap (Av (n:=2) (C:=371) F6 ⟨(G3.mono (show 1<=2 by decide)),b3,k3,m3⟩ ⟨G5,b5,F5.kp,m5⟩ Gk ⟨_,rfl⟩);have G7:=ap (wV (n:=0) (C:=371) F7 g Ut ⟨_,rfl⟩);have G8:=ap (wR (n:=0) (C:=371) F8);have G9:=ap (Ar (n:=0) (C:=371) F9 g);have G10:=ap (yo (n:=1) (C:=371) A ⟨G4,b4,F4.kp,m4⟩ ⟨G1,b1,F1.kp,m1⟩ ⟨G2,b2,F2.kp,m2⟩);have G11:=ap (vm (n:=2) (C:=371) r ⟨G10,b10,A.kp,m10⟩ qDV g zb ⟨_,rfl⟩);have G12:=ap (yh (n:=3) (C:=371) F12 ⟨(G3.mono (show 1<=3 by decide)),b3,k3,m3⟩ ⟨(G5.mono (show 2<=3 by decide)),b5,F5.kp,m5⟩ ⟨(G7.mono (show 1<=3 by decide)),b7,F7.kp,m7⟩ ⟨(G8.mono (show 1<=3 by decide)),b8,F8.kp,m8⟩ ⟨(G4.mono (show 1<=3 by decide)),b4,F4.kp,m4⟩ ⟨G11,b11,r.kp,m11⟩ Ss rfl (Rk w.params));have G13:=ap (yl (n:=1) (C:=371) F13 ⟨G1,b1,F1.kp,m1⟩);have G14:=ap (Aq (n:=0) (C:=371) J);have G15:=ap (U4 (n:=1) (C:=371) H ⟨G14,b14,J.kp,m14⟩ ⟨tu,b15,H.kp,m15⟩ qAS);have G16:=ap (DW (n:=1) (C:=371) E ⟨G14,b14,J.kp,m14⟩ g);have G17:=ap (WQ (n:=2) (C:=371) F17 ⟨G16,b16,E.kp,m16⟩ Wf qDT);have G18:=ap (wU (n:=3) (C:=371) F18 ⟨(G15.mono (show 2<=3 by decide)),b15,H.kp,m15⟩ ⟨G17,b17,F17.kp,m17⟩ ⟨(G1.mono (show 1<=3 by decide)),b1,F1.kp,m1⟩ ⟨(G16.mono (show 2<=3 by decide)),b16,E.kp,m16⟩ ⟨(G2.mono (show 1<=3 by decide)),b2,F2.kp,m2⟩ Wg JM ⟨_,rfl⟩);have GH:=G18.imp fun _ _ _ _=>ZQ;have G19:=ap (ym (n:=4) (C:=371) Y ⟨(G1.mono (show 1<=4 by decide)),b1,F1.kp,m1⟩ ⟨GH,b18,F18.kp,m18⟩ ⟨(G11.mono (show 3<=4 by decide)),b11,r.kp,m11⟩ ⟨(G13.mono (show 2<=4 by decide)),b13,F13.kp,m13⟩);have P:=ap (Z2 (n:=0) (C:=371) F20);have I:=ap (Mx (n:=1) (C:=371) F ⟨P,O,N,q⟩);have l:=ap (Fq (n:=0) (C:=371) e Wg Us ⟨_,rfl⟩);have G23:=ap (Ka (n:=1) (C:=371) F23 ⟨P,O,N,q⟩ ⟨l,L,e.kp,p⟩ g Gj ⟨_,rfl⟩ Kw ⟨_,rfl⟩ XJ rfl (W3 w.params));have G24:=ap (U0 (n:=1) (C:=371) F24 ⟨P,O,N,q⟩ g);have G25:=ap (DR (n:=2) (C:=371) F25 ⟨I,D,F.kp,M⟩ ⟨G24,b24,F24.kp,m24⟩ ⟨(P.mono (show 1<=2 by decide)),O,N,q⟩ g);have G26:=ap (Qg (n:=0) (C:=371) F26 Ss rfl (Rk w.params));have G27:=ap (DX (n:=1) (C:=371) i ⟨P,O,N,q⟩);have G28:=ap (Qi (n:=2) (C:=371) F28 ⟨(P.mono (show 1<=2 by decide)),O,N,q⟩ ⟨(l.mono (show 1<=2 by decide)),L,e.kp,p⟩ ⟨(G3.mono (show 1<=2 by decide)),b3,k3,m3⟩ ⟨G27,b27,i.kp,W⟩ g);have G29:=ap (Hx (n:=1) (C:=371) F29 ⟨P,O,N,q⟩);have G30:=ap (K7 (n:=1) (C:=371) F30 ⟨P,O,N,q⟩ g zb ⟨_,rfl⟩);have G31:=ap (K9 (n:=3) (C:=371) F31 ⟨(I.mono (show 2<=3 by decide)),D,F.kp,M⟩ ⟨G28,b28,F28.kp,m28⟩ ⟨(G10.mono (show 2<=3 by decide)),b10,A.kp,m10⟩ ⟨(P.mono (show 1<=3 by decide)),O,N,q⟩);have G32:=ap (NB (n:=3) (C:=371) F32 ⟨(P.mono (show 1<=3 by decide)),O,N,q⟩ ⟨(l.mono (show 1<=3 by decide)),L,e.kp,p⟩ ⟨G6,b6,F6.kp,m6⟩ g LC ⟨_,rfl⟩);have G33:=ap (I9 (n:=2) (C:=371) F33 ⟨(P.mono (show 1<=2 by decide)),O,N,q⟩ ⟨G5,b5,F5.kp,m5⟩ g Ib ⟨_,rfl⟩);have G34:=ap (Hw (n:=1) (C:=371) T ⟨P,O,N,q⟩ g);have G35:=ap (WR (n:=2) (C:=371) F35 b35 m35 ⟨(P.mono (show 1<=2 by decide)),O,N,q⟩ ⟨G34,b34,T.kp,m34⟩ ⟨G27,b27,i.kp,W⟩ ⟨(G3.mono (show 1<=2 by decide)),b3,k3,m3⟩ ⟨(l.mono (show 1<=2 by decide)),L,e.kp,p⟩ ⟨(G2.mono (show 1<=2 by decide)),b2,F2.kp,m2⟩);have G36:=ap (Hy (n:=8) (C:=371) F36 ⟨(P.mono (show 1<=8 by decide)),O,N,q⟩ ⟨(I.mono (show 2<=8 by decide)),D,F.kp,M⟩ ⟨G35,b35,F35.kp,m35⟩ JM ⟨_,rfl⟩ g);have GM4:=ap (Qf (n:=1) (C:=371) FM4 ⟨G9,b9,F9.kp,m9⟩ u U g);have G37:=ap (K8 (n:=4) (C:=371) F37 ⟨(G25.mono (show 3<=4 by decide)),b25,F25.kp,m25⟩ ⟨G12,b12,F12.kp,m12⟩ ⟨(P.mono (show 1<=4 by decide)),O,N,q⟩ ⟨(G9.mono (show 1<=4 by decide)),b9,F9.kp,m9⟩ u sI ou U g Ky ⟨_,rfl⟩);have G38:=ap (Kc (n:=5) (C:=371) F38 (GM4.mono (show 2<=5 by decide)) bM4 mM4 ⟨(P.mono (show 1<=5 by decide)),O,N,q⟩ ⟨(G3.mono (show 1<=5 by decide)),b3,k3,m3⟩ ⟨(G27.mono (show 2<=5 by decide)),b27,i.kp,W⟩ ⟨G19,b19,Y.kp,m19⟩ u sI uv ou U g Kz ⟨_,rfl⟩);have GM5:=ap (WN (n:=0) (C:=371) FM5 u sI uv ou Fy U Q);have GM1:=ap (U3 (n:=0) (C:=371) FM1 u sI uv ou Fy Ry U);have GM3:=ap (NK (n:=9) (C:=371) FM3 ⟨(G29.mono (show 2<=9 by decide)),b29,F29.kp,m29⟩ ⟨G36,b36,F36.kp,m36⟩ ⟨(G30.mono (show 2<=9 by decide)),b30,F30.kp,m30⟩ ⟨(G31.mono (show 4<=9 by decide)),b31,F31.kp,m31⟩ u sI uv ou U Ie (qGT w) (qGQ w.params));have GM2:=ap (qC0 (n:=10) (C:=371) FM2 ⟨(G26.mono (show 1<=10 by decide)),b26,F26.kp,m26⟩ ⟨(P.mono (show 1<=10 by decide)),O,N,q⟩ ⟨(G37.mono (show 5<=10 by decide)),b37,F37.kp,m37⟩ ⟨(I.mono (show 2<=10 by decide)),D,F.kp,M⟩ ⟨(G38.mono (show 6<=10 by decide)),b38,F38.kp,m38⟩ GM3 bM3 mM3 ⟨(G32.mono (show 4<=10 by decide)),b32,F32.kp,m32⟩ ⟨(G33.mono (show 3<=10 by decide)),b33,F33.kp,m33⟩ ⟨(G23.mono (show 2<=10 by decide)),b23,F23.kp,m23⟩ u sI uv ou Fy Ry U XM (qGU w) (qGR w.params));have G39:=ap (Z1 (n:=10) (C:=371) F39 (GM1.mono (show 1<=10 by decide)) bM1 MkC mC GM2 bM2 mM2 (GM4.mono (show 2<=11 by decide)) bM4 mM4 (GM5.mono (show 1<=11 by decide)) bM5 mM5 u Nf);have z:=ap (Ft (n:=0) (C:=371) d g);have b:=ap (KJ (n:=1) (C:=371) S ⟨z,o,d.kp,y⟩ g qAS);have G42:=ap (Mz (n:=0) (C:=371) v uA);have G43:=ap (N7 (n:=0) (C:=371) F43 g);have G44:=ap (KH (n:=2) (C:=371) j ⟨b,B,c,m⟩ ⟨(G43.mono (show 1<=2 by decide)),b43,F43.kp,m43⟩ g uA Q);have G45:=ap (N8 (n:=2) (C:=371) F45 ⟨b,B,c,m⟩ ⟨(z.mono (show 1<=2 by decide)),o,d.kp,y⟩ ⟨(G42.mono (show 1<=2 by decide)),b42,v.kp,m42⟩ g);have G46:=ap (KR (n:=3) (C:=371) t ⟨(b.mono (show 2<=3 by decide)),B,c,m⟩ ⟨G45,b45,F45.kp,m45⟩ uA Q);have G47:=ap (U5 (n:=2) (C:=371) F47 b47 m47 ⟨b,B,c,m⟩ ⟨(z.mono (show 1<=2 by decide)),o,d.kp,y⟩);have G48:=ap (KZ (n:=3) (C:=371) F48 ⟨G44,b44,j.kp,m44⟩ ⟨(b.mono (show 2<=3 by decide)),B,c,m⟩ ⟨(z.mono (show 1<=3 by decide)),o,d.kp,y⟩ uA Q);have G49:=ap (KC (n:=4) (C:=371) F49 ⟨(G44.mono (show 3<=4 by decide)),b44,j.kp,m44⟩ ⟨(b.mono (show 2<=4 by decide)),B,c,m⟩ ⟨(G42.mono (show 1<=4 by decide)),b42,v.kp,m42⟩ ⟨G46,b46,t.kp,m46⟩ qAR uA Q);have G50:=ap (KQ (n:=7) (C:=371) F50 ⟨(b.mono (show 2<=7 by decide)),B,c,m⟩ ⟨G47,b47,F47.kp,m47⟩ ⟨(G46.mono (show 4<=7 by decide)),b46,t.kp,m46⟩ g uA Q);have G51:=ap (KY (n:=8) (C:=371) Z ⟨(b.mono (show 2<=8 by decide)),B,c,m⟩ ⟨(G44.mono (show 3<=8 by decide)),b44,j.kp,m44⟩ ⟨(G48.mono (show 4<=8 by decide)),b48,F48.kp,m48⟩ ⟨(G49.mono (show 5<=8 by decide)),b49,F49.kp,m49⟩ ⟨G50,b50,F50.kp,m50⟩ g qAR);have G52:=ap (Dc (n:=0) (C:=371) F52 S9);have G53:=ap (IK (n:=0) (C:=371) F53 b53 m53 S9);have G54:=ap (N6 (n:=8) (C:=371) F54 ⟨(G52.mono (show 1<=8 by decide)),b52,F52.kp,m52⟩ ⟨G53,b53,F53.kp,m53⟩ S9);have G55:=ap (WT (n:=0) (C:=371) F55 b55 m55 qC5 qDU Kf g uA S9 Q);have G56:=ap (DY (n:=0) (C:=371) F56 g Q);have G57:=ap (qBZ (n:=12) (C:=371) F57 ⟨(G51.mono (show 9<=12 by decide)),b51,Z.kp,m51⟩ ⟨(G56.mono (show 1<=12 by decide)),b56,F56.kp,m56⟩ ⟨(G54.mono (show 9<=12 by decide)),b54,F54.kp,m54⟩ ⟨G39,b39,F39.kp,m39⟩ ⟨G55,b55,F55.kp,m55⟩ u);exact G57.imp (law_sp fun s h=>law_is _ h)
def walk:PySem.W.WalkO QV LS (PySem.W.XL QV []) HK.says PySem.Challenge.rw_nesthall_k44_charts_read_back.row.toRowW R9 [] (fun f vs=>PySem.call f vs):=by
 refine L2.Yc (l:=PySem.Challenge.rw_nesthall_k44_charts_read_back) (n:=63) (k:=13) (x := "_law_script") (K:=KO) (CX:=fun _=>bZ) (sp:=fun w=>Vs (KO w.params)) rfl (by decide) rfl ⟨rfl,by decide,by decide⟩ (fun w h Y=>Y) ?_ (fun _ _ a ns H _ I=>⟨a,ns,rfl,I,H,fun _=>rfl⟩) fun _ _ _ _ _ z=>z;intro w _ _ h X G g;have e:=g.symm.trans (ck X G (a57 w.params))
 cases e
 exact⟨ZZ,fun s v=>.of_eq rfl,fun _ _ _=>law_ok X G⟩
end zq
open PySem PySem.W PyProof.Rows
theorem PySem.Challenge.cw_nesthall_k44_charts_read_back_holds : PySem.Challenge.rw_nesthall_k44_charts_read_back.Holds := by
 refine holds_law zq.said fun said=>?_;refine PySem.W.holds_open (r:=PySem.Challenge.rw_nesthall_k44_charts_read_back.row) zq.left zq.HK.of zq.HK.keeps
  (fun s e=>xl_of s (Bool.and_eq_true_iff.mp e).1) XL.keeps zq.hdef zq.hthe zq.hkw
  (fun s e=>recFacts_of (Bool.and_eq_true_iff.mp e).2) rfl said zq.hok zq.hbare ?hw zq.walk
 case hw=>w_witness2
