import PyProof.Rows.All
import Wide.All
import OpenK.AllK
import Wide.FinOn
import Lean
import PyProof.EqAt
import PyProof.EqKinds
import PyProof.TupleCall
import PySem.Challenge.RW_nesthall_k56_rooms_that_fit
set_option Elab.async false
set_option linter.all false
set_option maxRecDepth 100000
set_option maxHeartbeats 4000000
set_option genSizeOf false
set_option genSizeOfSpec false
noncomputable section
set_option maxHeartbeats 0 in
theorem zz.qCL:PySem.Challenge.rw_nesthall_k56_rooms_that_fit.row.wellSaid=true:=by kernel_rfl
set_option maxHeartbeats 0 in
theorem zz.said:PySem.Challenge.rw_nesthall_k56_rooms_that_fit.wellSaid=true:=by
 unfold PySem.W.OpenLaw.wellSaid;rw[zz.qCL]
 kernel_rfl
noncomputable abbrev cZ:=PySem.W.Frag
noncomputable abbrev mV:=@PySem.Heap.get?_push_of_some
noncomputable abbrev lZ:=@PySem.Heap.lt_size
noncomputable abbrev wj:=@PySem.Heap.get?_push_size
noncomputable abbrev zw3:=@List.getElem?_append_left
noncomputable abbrev zw4:=@List.getElem?_append_right
noncomputable abbrev Aa:=@List.mem_cons_self
noncomputable abbrev zw6:=@List.mem_of_getElem?
noncomputable abbrev Jj:=@Nat.lt_of_lt_of_le
noncomputable abbrev tD:=@Nat.ne_of_lt
noncomputable abbrev wy:=@List.mem_cons_of_mem
noncomputable abbrev qA6:=@PySem.boot_len
noncomputable abbrev Jk:=@PySem.F.plainAttrs_list
noncomputable abbrev MK:=@PySem.F.slot_list_append
noncomputable abbrev MJ:=@PySem.F.type_list_append
noncomputable abbrev MF:=@PyProof.Rows.boot_tuple
noncomputable abbrev qA5:=@PyProof.Rows.boot_isinstance
noncomputable abbrev qA4:=@Int.emod_nonneg
noncomputable abbrev qA3:=@Int.emod_lt_of_pos
noncomputable abbrev qA2:=@List.getElem?_range
noncomputable abbrev jH:=@List.length_map
noncomputable abbrev Az:=@List.getElem?_eq_getElem
noncomputable abbrev rQ:=@List.length_append
noncomputable abbrev jj:=@Nat.le_refl
noncomputable abbrev Fb:=@List.getElem?_eq_some_iff
noncomputable abbrev wk:=@List.size_toArray
noncomputable abbrev pK:=@Bool.false_ne_true
noncomputable abbrev MN:=@Option.some.inj
noncomputable abbrev Wl:=@List.map_append
noncomputable abbrev zl9:=@List.take_of_length_le
noncomputable abbrev MT:=@List.mem_singleton
noncomputable abbrev rN:=@List.getD_eq_getElem?_getD
noncomputable abbrev dJ:=@List.length_cons
noncomputable abbrev Qp:=@List.length_take
noncomputable abbrev qFF:=@List.take_add_one
noncomputable abbrev qC4:=@List.length_singleton
noncomputable abbrev jo:=@List.mem_cons
noncomputable abbrev xF:=@List.append_nil
noncomputable abbrev wz:=@List.mem_append
noncomputable abbrev Qo:=@List.mem_map
noncomputable abbrev uB:=@List.getElem?_map
noncomputable abbrev qFE:=@List.length_filter_le
noncomputable abbrev Qn:=@List.getElem_mem
noncomputable abbrev qFD:=@List.mem_filter
noncomputable abbrev MP:=@Int.toNat_natCast
noncomputable abbrev KI(K:PySem.W.Frag)(a:PySem.Addr):Prop:=PySem.W.keepIn K (.ref a)=true
namespace L2
open PySem
noncomputable def inClass(s:Stmt)(j:Nat):Stmt:=match s with
 | .ClassDef _ _ _ body _ _ _ _ _ _ _=>body.getD j (.Pass ⟨0,0,0,0⟩)
 | _=>.Pass ⟨0,0,0,0⟩
noncomputable def tY(s:Stmt):Arguments:=match s with
 | .FunctionDef _ a _ _ _ _ _ _ _ _=>a
 | _=>{ posonlyargs:=[],args:=[],vararg:=none,kwonlyargs:=[],kw_defaults:=[],kwarg:=none,defaults:=[] }
noncomputable def iT(s:Stmt):List Stmt:=match s with
 | .FunctionDef _ _ b _ _ _ _ _ _ _=>b
 | _=>[]
noncomputable def aP(s:Stmt):Scope:=match s with
 | .FunctionDef _ _ _ _ _ _ sc _ _ _=>sc
 | _=>{ kind:=.function,names:=[],isGenerator:=false,isCoroutine:=false }
end L2
namespace Zv
open PySem L2
noncomputable def top(i:Nat):Stmt:=PySem.Challenge.pw_nesthall_k56_rooms_that_fit.main.body.getD i (.Pass ⟨0,0,0,0⟩)
noncomputable abbrev j7:Stmt:=top 1
noncomputable abbrev rm:Stmt:=top 2
noncomputable abbrev jO:Stmt:=top 3
noncomputable abbrev tL:Stmt:=top 4
noncomputable abbrev pQ:Stmt:=top 8
noncomputable abbrev jQ:Stmt:=top 22
noncomputable abbrev kY:Stmt:=top 23
noncomputable abbrev mq:Stmt:=top 24
noncomputable abbrev iI:Stmt:=top 25
noncomputable abbrev iM:Stmt:=top 27
noncomputable abbrev dj:Stmt:=top 28
noncomputable abbrev gW:Stmt:=top 29
noncomputable abbrev gU:Stmt:=top 30
noncomputable abbrev iH:Stmt:=top 31
noncomputable abbrev j8:Stmt:=top 32
noncomputable abbrev dC:Stmt:=top 33
noncomputable abbrev iJ:Stmt:=top 34
noncomputable abbrev iK:Stmt:=top 35
noncomputable abbrev ik:Stmt:=top 42
noncomputable abbrev HS:Stmt:=top 46
noncomputable abbrev qQ:Stmt:=top 47
noncomputable abbrev jP:Stmt:=top 48
noncomputable abbrev tK:Stmt:=top 54
noncomputable abbrev oK:Stmt:=top 55
noncomputable abbrev mD:Stmt:=top 57
noncomputable abbrev vQ:Stmt:=top 58
noncomputable abbrev jN:Stmt:=top 59
noncomputable abbrev oH:Stmt:=top 60
noncomputable abbrev oM:Stmt:=top 61
noncomputable abbrev HR:Stmt:=top 65
noncomputable abbrev Pr:Stmt:=top 67
noncomputable abbrev HX:Stmt:=top 68
noncomputable abbrev vU:Stmt:=top 69
noncomputable abbrev tO:Stmt:=top 70
noncomputable abbrev tM:Stmt:=top 71
noncomputable abbrev jD:Stmt:=top 72
noncomputable abbrev vV:Stmt:=top 73
noncomputable abbrev Pn:Stmt:=top 74
noncomputable abbrev vR:Stmt:=top 75
noncomputable abbrev Bm:Stmt:=top 76
noncomputable abbrev vW:Stmt:=top 77
noncomputable abbrev Pq:Stmt:=inClass (top 64) 0
noncomputable abbrev XM:Stmt:=inClass (top 64) 1
noncomputable abbrev oJ:Stmt:=inClass (top 64) 3
noncomputable abbrev tH:Stmt:=inClass (top 64) 4
noncomputable abbrev XJ:Stmt:=inClass (top 39) 0
end Zv
namespace zz
open PySem L2 Zv
noncomputable def mY(x q:Str)(st:Stmt)(pm cd:Value):FuncData:=PySem.W.fnOf x q (tY st) (iT st) (aP st) .none .none .none pm none cd .none
noncomputable def nO(d:FuncData):Obj:=⟨.type "function",none,.func d,#[]⟩
noncomputable def fd1:FuncData:=mY "is_number_of" "is_number_of" jQ (.str "nesthall.charts" 230) (.ref 51)
noncomputable def fd2:FuncData:=mY "is_in_reach" "is_in_reach" kY (.str "nesthall.charts" 230) (.ref 58)
noncomputable def fd3:FuncData:=mY "names_of" "names_of" mq (.str "nesthall.charts" 230) (.ref 63)
noncomputable def fd4:FuncData:=mY "is_word" "is_word" pQ (.str "nesthall.words" 218) (.ref 42)
noncomputable def fd5:FuncData:=mY "name_has_fault" "name_has_fault" iI (.str "nesthall.charts" 230) (.ref 70)
noncomputable def fd6:FuncData:=mY "depth_has_fault" "depth_has_fault" gW (.str "nesthall.charts" 230) (.ref 96)
noncomputable def fd7:FuncData:=mY "keeps_has_fault" "keeps_has_fault" gU (.str "nesthall.charts" 230) (.ref 103)
noncomputable def fd8:FuncData:=mY "end_has_fault" "end_has_fault" j8 (.str "nesthall.charts" 230) (.ref 117)
noncomputable def fd9:FuncData:=mY "deed_has_fault" "deed_has_fault" iM (.str "nesthall.charts" 230) (.ref 84)
noncomputable def qEQ:FuncData:=mY "deeds_have_fault" "deeds_have_fault" dj (.str "nesthall.charts" 230) (.ref 89)
noncomputable def qEP:FuncData:=mY "room_has_fault" "room_has_fault" iH (.str "nesthall.charts" 230) (.ref 110)
noncomputable def qEO:FuncData:=mY "goal_has_fault" "goal_has_fault" iJ (.str "nesthall.charts" 230) (.ref 129)
noncomputable def qEN:FuncData:=mY "guards_within" "guards_within" j7 (.str "nesthall.guards" 187) (.ref 20)
noncomputable def qEM:FuncData:=mY "height" "height" rm (.str "nesthall.guards" 187) (.ref 25)
noncomputable def qEL:FuncData:=mY "plain_guards" "plain_guards" jO (.str "nesthall.guards" 187) (.ref 32)
noncomputable def qEK:FuncData:=mY "asked" "asked" tL (.str "nesthall.guards" 187) (.ref 37)
noncomputable def qEJ:FuncData:=mY "guard_has_fault" "guard_has_fault" dC (.str "nesthall.charts" 230) (.ref 122)
noncomputable def qEI:FuncData:=mY "door_has_fault" "door_has_fault" iK (.str "nesthall.charts" 230) (.ref 136)
noncomputable def qEH:FuncData:=mY "need" "need" HS (.str "nesthall.reading" 448) (.ref 206)
noncomputable def qEG:FuncData:=mY "words_of" "words_of" qQ (.str "nesthall.reading" 448) (.ref 213)
noncomputable def qEF:FuncData:=mY "read_number" "read_number" ik (.str "nesthall.figures" 438) (.ref 185)
noncomputable def qEE:FuncData:=mY "head_told" "head_told" oK (.str "nesthall.reading" 448) (.ref 269)
noncomputable def qED:FuncData:=mY "marked" "marked" vQ (.str "nesthall.reading" 448) (.ref 290)
noncomputable def qEC:FuncData:=mY "room_written" "room_written" jN (.str "nesthall.reading" 448) (.ref 297)
noncomputable def qEB:FuncData:=mY "kind_of" "kind_of" tK (.str "nesthall.reading" 448) (.ref 262)
noncomputable def qEA:FuncData:=mY "number_named" "number_named" jP (.str "nesthall.reading" 448) (.ref 220)
noncomputable def qE9:FuncData:=mY "event_told" "event_told" mD (.str "nesthall.reading" 448) (.ref 283)
noncomputable def qE8:FuncData:=mY "room_told" "room_told" oH (.str "nesthall.reading" 448) (.ref 304)
noncomputable def qE7:FuncData:=mY "door_told" "door_told" oM (.str "nesthall.reading" 448) (.ref 311)
noncomputable def qE6:FuncData:=mY "read" "read" HR (.str "nesthall.reading" 448) (.ref 381)
noncomputable def qE5:FuncData:=mY "_law_read" "_law_read" vR (.str "law_nesthall_k56_rooms_that_fit" 759) (.ref 442)
noncomputable def qE4:FuncData:=mY "_law_cell_at" "_law_cell_at" Pr (.str "law_nesthall_k56_rooms_that_fit" 759) (.ref 388)
noncomputable def qE3:FuncData:=mY "_law_mixed" "_law_mixed" HX (.str "law_nesthall_k56_rooms_that_fit" 759) (.ref 395)
noncomputable def qE2:FuncData:=mY "_law_name" "_law_name" vU (.str "law_nesthall_k56_rooms_that_fit" 759) (.ref 402)
noncomputable def qE1:FuncData:=mY "_law_depth" "_law_depth" tO (.str "law_nesthall_k56_rooms_that_fit" 759) (.ref 409)
noncomputable def qE0:FuncData:=mY "_law_fits" "_law_fits" vV (.str "law_nesthall_k56_rooms_that_fit" 759) (.ref 428)
noncomputable def qDZ:FuncData:=mY "_law_due" "_law_due" Pn (.str "law_nesthall_k56_rooms_that_fit" 759) (.ref 435)
noncomputable def qDY:FuncData:=mY "_law_halls" "_law_halls" tM (.str "law_nesthall_k56_rooms_that_fit" 759) (.ref 416)
noncomputable def qDX:FuncData:=mY "_law_entries" "_law_entries" jD (.str "law_nesthall_k56_rooms_that_fit" 759) (.ref 421)
noncomputable def qDW:FuncData:=mY "_law_right" "_law_right" Bm (.str "law_nesthall_k56_rooms_that_fit" 759) (.ref 447)
noncomputable def YT:FuncData:=mY "law" "law" vW (.str "law_nesthall_k56_rooms_that_fit" 759) (.ref 452)
noncomputable def Vl:FuncData:=mY "__init__" "Draft.__init__" Pq (.str "nesthall.reading" 448) (.ref 339)
noncomputable def Vk:FuncData:=mY "add" "Draft.add" XM (.str "nesthall.reading" 448) (.ref 346)
noncomputable def Vj:FuncData:=mY "may_end" "Draft.may_end" oJ (.str "nesthall.reading" 448) (.ref 360)
noncomputable def Vi:FuncData:=mY "whole" "Draft.whole" tH (.str "nesthall.reading" 448) (.ref 367)
noncomputable def Vh:FuncData:=mY "__init__" "Unread.__init__" XJ (.str "nesthall.errors" 377) (.ref 175)
noncomputable def kE(P:Params)(x:Str)(n:Nat)(v:Value):DictEntry:=⟨PyData.keyHash P x,.str x n,v⟩
noncomputable def cO(x q:Str)(a:Nat)(l n:Int)(r:Nat)(k:Int):Obj:=⟨.type "code",none,.fields #[.str x a,.str q (a+1),.str "/claim/cut.py" (a+2),.int l 0,.int n 0,.int 0 0,.int 0 0,.int 3 0,.ref r,.bool true,.int 181 0,.ref (r+1),.none,.ref (r+2),.ref (r+3),.ref (r+4),.int k 0,.int l 0,.str "/claim/cut.py" (k.toNat+1)],#[]⟩
noncomputable def cN(x q:Str)(a:Nat)(l n:Int)(r:Nat)(k:Int):Obj:=⟨.type "code",none,.fields #[.str x a,.str q (a+1),.str "/claim/cut.py" (a+2),.int l 0,.int n 0,.int 0 0,.int 0 0,.int 3 0,.ref r,.bool true,.int 181 0,.ref (r+1),.none,.none,.none,.ref (r+2),.int k 0,.int l 0,.str "/claim/cut.py" (k.toNat+1)],#[]⟩
noncomputable def KO(P:Params):cZ:=[
 (3,⟨.type "dict",none,.dict #[kE P "__name__" 165 (.str "law_nesthall_k56_rooms_that_fit" 759),kE P "__doc__" 166 .none,kE P "__package__" 167 .none,kE P "__loader__" 168 (.builtin "__main__.__loader__#opaque"),kE P "__spec__" 169 .none,kE P "__annotations__" 170 (.ref 6),kE P "__builtins__" 171 (.ref 4),kE P "__file__" 173 (.str "/claim/cut.py" 172),kE P "__cached__" 174 .none,kE P "guards_within" 195 (.ref 21),kE P "height" 201 (.ref 26),kE P "plain_guards" 211 (.ref 33),kE P "asked" 217 (.ref 38),kE P "SMALL_LETTERS" 221 (.str "abcdefghijklmnopqrstuvwxyz" 220),kE P "LONGEST" 223 (.int (12) 222),kE P "is_word" 229 (.ref 43),kE P "ORDERS" 234 (.ref 44),kE P "KINDS" 238 (.ref 45),kE P "MOST_LETTERS" 240 (.int (12) 239),kE P "MOST_TURNS" 242 (.int (20) 241),kE P "MOST_BOXES" 244 (.int (6) 243),kE P "MOST_EVENTS" 246 (.int (8) 245),kE P "MOST_ROOMS" 248 (.int (40) 247),kE P "MOST_DOORS" 250 (.int (60) 249),kE P "MOST_DEEDS" 252 (.int (8) 251),kE P "DEEPEST" 254 (.int (12) 253),kE P "HIGHEST" 256 (.int (6) 255),kE P "GREATEST" 258 (.int (1000000000000000000000000000000) 257),kE P "is_number_of" 266 (.ref 52),kE P "is_in_reach" 273 (.ref 59),kE P "names_of" 279 (.ref 64),kE P "name_has_fault" 287 (.ref 71),kE P "box_has_fault" 297 (.ref 78),kE P "deed_has_fault" 308 (.ref 85),kE P "deeds_have_fault" 314 (.ref 90),kE P "depth_has_fault" 322 (.ref 97),kE P "keeps_has_fault" 330 (.ref 104),kE P "room_has_fault" 342 (.ref 111),kE P "end_has_fault" 351 (.ref 118),kE P "guard_has_fault" 357 (.ref 123),kE P "goal_has_fault" 366 (.ref 130),kE P "door_has_fault" 376 (.ref 137),kE P "NestError" 396 (.ref 147),kE P "NoWords" 412 (.ref 160),kE P "Unread" 437 (.ref 179),kE P "FIGURES" 441 (.str "0123456789" 440),kE P "read_number" 447 (.ref 186),kE P "BEHIND" 503 (.ref 187),kE P "DEED_PLACES" 513 (.ref 200),kE P "need" 520 (.ref 207),kE P "words_of" 528 (.ref 214),kE P "number_named" 536 (.ref 221),kE P "word_taken" 543 (.ref 228),kE P "guard_taken" 557 (.ref 235),kE P "read_guard" 568 (.ref 242),kE P "deed_of" 578 (.ref 249),kE P "read_deed" 588 (.ref 256),kE P "kind_of" 595 (.ref 263),kE P "head_told" 604 (.ref 270),kE P "box_told" 613 (.ref 277),kE P "event_told" 621 (.ref 284),kE P "marked" 629 (.ref 291),kE P "room_written" 641 (.ref 298),kE P "room_told" 651 (.ref 305),kE P "door_told" 662 (.ref 312),kE P "with_guard" 670 (.ref 319),kE P "with_deed" 679 (.ref 326),kE P "Draft" 746 (.ref 371),kE P "read" 758 (.ref 382),kE P "_law_cell_at" 768 (.ref 389),kE P "_law_mixed" 780 (.ref 396),kE P "_law_name" 790 (.ref 403),kE P "_law_depth" 798 (.ref 410),kE P "_law_halls" 812 (.ref 417),kE P "_law_entries" 818 (.ref 422),kE P "_law_fits" 827 (.ref 429),kE P "_law_due" 838 (.ref 436),kE P "_law_read" 848 (.ref 443),kE P "_law_right" 854 (.ref 448),kE P "law" 860 (.ref 453)] 80,#[]⟩),
 (51,cO "is_number_of" "is_number_of" 259 41 2 46 264),
 (52,nO fd1),
 (58,cO "is_in_reach" "is_in_reach" 267 43 1 53 271),
 (59,nO fd2),
 (63,cN "names_of" "names_of" 274 45 1 60 277),
 (64,nO fd3),
 (42,cN "is_word" "is_word" 224 26 1 39 227),
 (43,nO fd4),
 (70,cO "name_has_fault" "name_has_fault" 280 47 2 65 285),
 (71,nO fd5),
 (96,cO "depth_has_fault" "depth_has_fault" 315 69 2 91 320),
 (97,nO fd6),
 (103,cO "keeps_has_fault" "keeps_has_fault" 323 73 2 98 328),
 (104,nO fd7),
 (117,cO "end_has_fault" "end_has_fault" 343 89 2 112 349),
 (118,nO fd8),
 (84,cO "deed_has_fault" "deed_has_fault" 298 55 3 79 306),
 (85,nO fd9),
 (89,cN "deeds_have_fault" "deeds_have_fault" 309 67 3 86 312),
 (90,nO qEQ),
 (110,cO "room_has_fault" "room_has_fault" 331 79 4 105 340),
 (111,nO qEP),
 (129,cO "goal_has_fault" "goal_has_fault" 358 103 3 124 364),
 (130,nO qEO),
 (20,cO "guards_within" "guards_within" 189 2 1 15 193),
 (21,nO qEN),
 (25,cN "height" "height" 196 8 1 22 199),
 (26,nO qEM),
 (32,cO "plain_guards" "plain_guards" 202 10 1 27 209),
 (33,nO qEL),
 (37,cN "asked" "asked" 212 18 1 34 215),
 (38,nO qEK),
 (122,cN "guard_has_fault" "guard_has_fault" 352 94 3 119 355),
 (123,nO qEJ),
 (136,cO "door_has_fault" "door_has_fault" 367 109 4 131 374),
 (137,nO qEI),
 (206,cO "need" "need" 514 140 1 201 518),
 (207,nO qEH),
 (213,cO "words_of" "words_of" 521 143 1 208 526),
 (214,nO qEG),
 (185,cN "read_number" "read_number" 442 127 1 182 445),
 (186,nO qEF),
 (269,cO "head_told" "head_told" 596 192 2 264 602),
 (270,nO qEE),
 (290,cO "marked" "marked" 622 212 2 285 627),
 (291,nO qED),
 (297,cO "room_written" "room_written" 630 217 1 292 639),
 (298,nO qEC),
 (262,cO "kind_of" "kind_of" 589 188 1 257 593),
 (263,nO qEB),
 (220,cO "number_named" "number_named" 529 147 2 215 534),
 (221,nO qEA),
 (283,cO "event_told" "event_told" 614 208 2 278 619),
 (284,nO qE9),
 (304,cO "room_told" "room_told" 642 225 2 299 649),
 (305,nO qE8),
 (311,cO "door_told" "door_told" 652 231 2 306 660),
 (312,nO qE7),
 (381,cO "read" "read" 747 284 1 376 756),
 (382,nO qE6),
 (442,cO "_law_read" "_law_read" 839 376 1 437 846),
 (443,nO qE5),
 (388,cO "_law_cell_at" "_law_cell_at" 761 296 2 383 766),
 (389,nO qE4),
 (395,cO "_law_mixed" "_law_mixed" 769 300 3 390 778),
 (396,nO qE3),
 (402,cO "_law_name" "_law_name" 781 306 2 397 788),
 (403,nO qE2),
 (409,cO "_law_depth" "_law_depth" 791 310 2 404 796),
 (410,nO qE1),
 (428,cO "_law_fits" "_law_fits" 819 352 2 423 825),
 (429,nO qE0),
 (435,cO "_law_due" "_law_due" 828 361 2 430 836),
 (436,nO qDZ),
 (416,cO "_law_halls" "_law_halls" 799 318 1 411 810),
 (417,nO qDY),
 (421,cN "_law_entries" "_law_entries" 813 342 2 418 816),
 (422,nO qDX),
 (447,cN "_law_right" "_law_right" 849 384 4 444 852),
 (448,nO qDW),
 (452,cN "law" "law" 855 392 1 449 858),
 (453,nO YT),
 (371,⟨.type "type",none,.cls ⟨"Draft",[.type "object"],[.ref 371,.type "object"],370,"Draft",true,[],[],false,none,false⟩,#[none,none,some (.str "Draft" 680),some (.str "Draft" 688),some (.builtin "object.__new__"),some (.bool true)]⟩),
 (370,⟨.type "dict",none,.dict #[kE P "__module__" 687 (.str "nesthall.reading" 448),kE P "__firstlineno__" 691 (.int (244) 690),kE P "__init__" 698 (.ref 340),kE P "add" 707 (.ref 347),kE P "add_part" 717 (.ref 354),kE P "may_end" 724 (.ref 361),kE P "whole" 732 (.ref 368),kE P "__static_attributes__" 739 (.ref 369),kE P "__dict__" 741 (.ref 372),kE P "__weakref__" 743 (.ref 373),kE P "__doc__" 744 .none] 4,#[]⟩),
 (339,cO "__init__" "Draft.__init__" 692 246 1 334 696),
 (340,nO Vl),
 (346,cO "add" "Draft.add" 699 254 2 341 705),
 (347,nO Vk),
 (360,cO "may_end" "Draft.may_end" 718 278 1 355 722),
 (361,nO Vj),
 (367,cO "whole" "Draft.whole" 725 281 1 362 730),
 (368,nO Vi),
 (179,⟨.type "type",none,.cls ⟨"Unread",[.ref 147],[.ref 179,.ref 147,.type "ValueError",.type "Exception",.type "BaseException",.type "object"],178,"Unread",true,[],[],false,none,false⟩,#[some (.ref 163),none,some (.str "Unread" 413),some (.str "Unread" 421),some (.builtin "ValueError.__new__"),some (.bool true)]⟩),
 (178,⟨.type "dict",none,.dict #[kE P "__module__" 420 (.str "nesthall.errors" 377),kE P "__firstlineno__" 424 (.int (120) 423),kE P "__init__" 432 (.ref 176),kE P "__static_attributes__" 434 (.ref 177),kE P "__doc__" 435 .none] 2,#[]⟩),
 (175,cO "__init__" "Unread.__init__" 425 122 2 170 430),
 (176,nO Vh),
 (160,⟨.type "type",none,.cls ⟨"NoWords",[.ref 147],[.ref 160,.ref 147,.type "ValueError",.type "Exception",.type "BaseException",.type "object"],159,"NoWords",true,[],[],false,none,false⟩,#[some (.ref 151),none,some (.str "NoWords" 397),some (.str "NoWords" 405),some (.builtin "ValueError.__new__"),some (.bool true)]⟩),
 (159,⟨.type "dict",none,.dict #[kE P "__module__" 404 (.str "nesthall.errors" 377),kE P "__firstlineno__" 408 (.int (118) 407),kE P "__static_attributes__" 409 (.ref 158),kE P "__doc__" 410 .none] 2,#[]⟩),
 (147,⟨.type "type",none,.cls ⟨"NestError",[.type "ValueError"],[.ref 147,.type "ValueError",.type "Exception",.type "BaseException",.type "object"],146,"NestError",true,[],[.ref 160,.ref 179],false,none,false⟩,#[some (.ref 138),none,some (.str "NestError" 379),some (.str "NestError" 387),some (.builtin "ValueError.__new__"),some (.bool true)]⟩),
 (146,⟨.type "dict",none,.dict #[kE P "__module__" 386 (.str "nesthall.errors" 377),kE P "__firstlineno__" 390 (.int (116) 389),kE P "__static_attributes__" 391 (.ref 145),kE P "__weakref__" 393 (.ref 148),kE P "__doc__" 394 .none] 3,#[]⟩),
 (45,⟨.type "tuple",none,.seq #[.str "plain" 235,.str "one" 236,.str "all" 237] 0,#[]⟩),
 (44,⟨.type "tuple",none,.seq #[.str "inner" 232,.str "outer" 233] 0,#[]⟩),
 (187,⟨.type "dict",none,.dict #[kE P "" 450 (.ref 188),kE P "order" 452 (.ref 189),kE P "letters" 454 (.ref 190),kE P "turns" 456 (.ref 191),kE P "box" 460 (.ref 192),kE P "event" 464 (.ref 193),kE P "room" 467 (.ref 194),kE P "in" 472 (.ref 195),kE P "out" 477 (.ref 196),kE P "door" 481 (.ref 197),kE P "when" 485 (.ref 198),kE P "do" 488 (.ref 199)] 12,#[]⟩),
 (188,⟨.type "tuple",none,.seq #[.str "order" 451] 0,#[]⟩),
 (189,⟨.type "tuple",none,.seq #[.str "letters" 453] 0,#[]⟩),
 (190,⟨.type "tuple",none,.seq #[.str "turns" 455] 0,#[]⟩),
 (191,⟨.type "tuple",none,.seq #[.str "box" 457,.str "event" 458,.str "room" 459] 0,#[]⟩),
 (192,⟨.type "tuple",none,.seq #[.str "box" 461,.str "event" 462,.str "room" 463] 0,#[]⟩),
 (193,⟨.type "tuple",none,.seq #[.str "event" 465,.str "room" 466] 0,#[]⟩),
 (194,⟨.type "tuple",none,.seq #[.str "in" 468,.str "out" 469,.str "room" 470,.str "door" 471] 0,#[]⟩),
 (195,⟨.type "tuple",none,.seq #[.str "in" 473,.str "out" 474,.str "room" 475,.str "door" 476] 0,#[]⟩),
 (196,⟨.type "tuple",none,.seq #[.str "out" 478,.str "room" 479,.str "door" 480] 0,#[]⟩),
 (197,⟨.type "tuple",none,.seq #[.str "when" 482,.str "do" 483,.str "door" 484] 0,#[]⟩),
 (198,⟨.type "tuple",none,.seq #[.str "do" 486,.str "door" 487] 0,#[]⟩),
 (199,⟨.type "tuple",none,.seq #[.str "do" 489,.str "door" 490] 0,#[]⟩),
 (2,⟨.none,none,.dict #[] 0,#[]⟩)]
noncomputable def KA:List Addr:=[3,51,52,58,59,63,64,42,43,70,71,96,97,103,104,117,118,84,85,89,90,110,111,129,130,20,21,25,26,32,33,37,38,122,123,136,137,206,207,213,214,185,186,269,270,290,291,297,298,262,263,220,221,283,284,304,305,311,312,381,382,442,443,388,389,395,396,402,403,409,410,428,429,435,436,416,417,421,422,447,448,452,453,371,370,339,340,346,347,360,361,367,368,179,178,175,176,160,159,147,146,45,44,187,188,189,190,191,192,193,194,195,196,197,198,199,2]
noncomputable def PW:Program:=PySem.Challenge.pw_nesthall_k56_rooms_that_fit
noncomputable def QV:Program:=PySem.W.view PW [77]
noncomputable def LS:List Str:=[Str.ofString "__name__",Str.ofString "guards_within",Str.ofString "height",Str.ofString "plain_guards",Str.ofString "asked",Str.ofString "SMALL_LETTERS",Str.ofString "LONGEST",Str.ofString "is_word",Str.ofString "ORDERS",Str.ofString "KINDS",Str.ofString "MOST_LETTERS",Str.ofString "MOST_TURNS",Str.ofString "MOST_BOXES",Str.ofString "MOST_EVENTS",Str.ofString "MOST_ROOMS",Str.ofString "MOST_DOORS",Str.ofString "MOST_DEEDS",Str.ofString "DEEPEST",Str.ofString "HIGHEST",Str.ofString "GREATEST",Str.ofString "is_number_of",Str.ofString "is_in_reach",Str.ofString "names_of",Str.ofString "name_has_fault",Str.ofString "box_has_fault",Str.ofString "deed_has_fault",Str.ofString "deeds_have_fault",Str.ofString "depth_has_fault",Str.ofString "keeps_has_fault",Str.ofString "room_has_fault",Str.ofString "end_has_fault",Str.ofString "guard_has_fault",Str.ofString "goal_has_fault",Str.ofString "door_has_fault",Str.ofString "NestError",Str.ofString "NoWords",Str.ofString "Unread",Str.ofString "FIGURES",Str.ofString "read_number",Str.ofString "BEHIND",Str.ofString "DEED_PLACES",Str.ofString "need",Str.ofString "words_of",Str.ofString "number_named",Str.ofString "word_taken",Str.ofString "guard_taken",Str.ofString "read_guard",Str.ofString "deed_of",Str.ofString "read_deed",Str.ofString "kind_of",Str.ofString "head_told",Str.ofString "box_told",Str.ofString "event_told",Str.ofString "marked",Str.ofString "room_written",Str.ofString "room_told",Str.ofString "door_told",Str.ofString "with_guard",Str.ofString "with_deed",Str.ofString "Draft",Str.ofString "read",Str.ofString "_law_cell_at",Str.ofString "_law_mixed",Str.ofString "_law_name",Str.ofString "_law_depth",Str.ofString "_law_halls",Str.ofString "_law_entries",Str.ofString "_law_fits",Str.ofString "_law_due",Str.ofString "_law_read",Str.ofString "_law_right"]
noncomputable def HK:PySem.W.Hook:=PySem.W.kHook KO KA fun _=>by kernel_rfl
noncomputable def qBW:Stmt->Pos
 | .FunctionDef _ _ _ _ _ _ _ _ _ p=>p
 | _=>⟨0,0,0,0⟩
noncomputable def Oq:DefRec:=⟨"law",tY vW,iT vW,aP vW,qBW vW⟩
set_option maxHeartbeats 0 in
theorem Xy(w:World):Option.map (fun s=>PySem.W.openSeen QV LS (importedModules PW.main.body) (fun s=>PySem.W.xlAt QV [] s&&PySem.W.recOk [] s) true s) (PySem.W.openEnds treeTable PW (w.withFollow "special-get-raises" true) 7142)=some (PySem.W.openGood QV LS):=by kernel_rfl
set_option maxHeartbeats 0 in
theorem Xx(w:World):Option.map (fun s=>HK.obs s) (PySem.W.openEnds treeTable PW (w.withFollow "special-get-raises" true) 7142)=some (HK.val (w.withFollow "special-get-raises" true)):=by kernel_rfl
set_option maxHeartbeats 0 in
theorem Y0(w:World):Option.map (fun s=>PySem.W.openSeen QV LS (importedModules PW.main.body) (fun s=>PySem.W.xlAt QV [] s&&PySem.W.recOk [] s) true s) (PySem.W.openEnds treeTable PW (w.withFollow "special-get-raises" false) 7142)=some (PySem.W.openGood QV LS):=by kernel_rfl
set_option maxHeartbeats 0 in
theorem Xz(w:World):Option.map (fun s=>HK.obs s) (PySem.W.openEnds treeTable PW (w.withFollow "special-get-raises" false) 7142)=some (HK.val (w.withFollow "special-get-raises" false)):=by kernel_rfl
theorem map_two{α β γ:Type}{f:α->β}{g:α->γ}{x:Option α}{a:β}{b:γ}(h1:x.map f=some a)(h2:x.map g=some b):x.map (fun s=>(f s,g s))=some (a,b):=by
 cases x with
 | none=>cases h1
 | some y=>cases h1;cases h2;rfl
theorem Gd(w:World)(b:Bool)(h:w.params.followText "special-get-raises" = b):w.withFollow "special-get-raises" b=w:=by
 obtain⟨d,p⟩:=w
 cases p
 subst h;unfold World.withFollow;simp only[World.mk.injEq,true_and,Params.mk.injEq,and_true]
 funext r
 split
 ·rename_i e;rw[e]
 ·rfl
theorem left:PySem.W.LeftO PW QV LS (fun s=>PySem.W.xlAt QV [] s&&PySem.W.recOk [] s) HK.obs HK.val 7142:=fun w=>by
 cases h:w.params.followText "special-get-raises" with
 | true=>have z:=Xy w;have z2:=Xx w;rw[Gd w _ h]at z z2;exact map_two z z2
 | false=>have z:=Y0 w;have z2:=Xz w;rw[Gd w _ h]at z z2;exact map_two z z2
end zz
namespace L2
open PySem PySem.Spec PyProof.Rows
noncomputable abbrev Key:=Sum Int Str
noncomputable def GQ:Key->Value->Bool
 | .inl k,v=>Value.isInt k v
 | .inr x,v=>Value.isStrOf x v
noncomputable def qFS(w:World):Key->Int
 | .inl k=>hashInt k
 | .inr x=>hashStr w x
theorem eQ:∀ {k:Key} {v:Value},GQ k v=true->(∃ i t,k=Sum.inl i/\v=Value.int i t)∨(∃ x t,k=Sum.inr x/\v=Value.str x t)
 | .inl i,v,h=>by
  obtain⟨t,e⟩:=Value.isInt_shape (k:=i) (v:=v) h;exact .inl ⟨i,t,rfl,e⟩
 | .inr x,v,h=>by
  obtain⟨t,e⟩:=Value.isStrOf_shape (x:=x) (v:=v) h;exact .inr ⟨x,t,rfl,e⟩
theorem Rb(i:Int)(t:Tok):GQ (.inl i) (.int i t)=true:=by simp [GQ,Value.isInt]
theorem Ra(x:Str)(t:Tok):GQ (.inr x) (.str x t)=true:=by simp [GQ,Value.isStrOf]
theorem qBI(a b:Int):decide ((Sum.inl a:Key)=Sum.inl b)=(a==b):=by
 by_cases e:a=b
 ·subst e;simp
 ·have h:¬ (Sum.inl a:Key)=Sum.inl b:=fun q=>e (Sum.inl.inj q);rw[decide_eq_false h];exact (beq_eq_false_iff_ne.mpr e).symm
theorem qBF(a b:Str):decide ((Sum.inr a:Key)=Sum.inr b)=decide (a=b):=by
 by_cases e:a=b
 ·subst e;simp
 ·have h:¬ (Sum.inr a:Key)=Sum.inr b:=fun q=>e (Sum.inr.inj q);rw[decide_eq_false h,decide_eq_false e]
theorem qBH(a:Int)(b:Str):decide ((Sum.inl a:Key)=Sum.inr b)=false:=decide_eq_false (fun q=>nomatch q)
theorem qBG(a:Str)(b:Int):decide ((Sum.inr a:Key)=Sum.inl b)=false:=decide_eq_false (fun q=>nomatch q)
noncomputable def qW(prog:Program)(w:World):PySem.KeyKind prog w Key where
 is:=GQ
 hash:=qFS w
 inj:=fun v a b ha hb=>by
  rcases eQ ha with ⟨i,t,rfl,rfl⟩ | ⟨x,t,rfl,rfl⟩
  ·rcases eQ hb with ⟨j,u,rfl,e⟩ | ⟨y,u,rfl,e⟩
   ·injection e with e1 _;rw[e1]
   ·exact nomatch e
  ·rcases eQ hb with ⟨j,u,rfl,e⟩ | ⟨y,u,rfl,e⟩
   ·exact nomatch e
   ·injection e with e1 _;rw[e1]
 byValue:=fun k v h=>by
  rcases eQ h with ⟨i,t,rfl,rfl⟩ | ⟨x,t,rfl,rfl⟩ <;> rfl
 pyHash:=fun hv h=>by
  rcases eQ hv with ⟨i,t,rfl,rfl⟩ | ⟨x,t,rfl,rfl⟩
  ·exact wpAny_pyHash_int h
  ·exact wpAny_pyHash_str h
 eqBool:=fun hu hv h=>by
  rcases eQ hu with ⟨i,t,rfl,rfl⟩ | ⟨x,t,rfl,rfl⟩
  ·rcases eQ hv with ⟨j,u,rfl,rfl⟩ | ⟨y,u,rfl,rfl⟩
   ·rw[qBI]at h;exact wpAny_eqBool_int h
   ·rw[qBH]at h;exact SeqAt.EqAt.int_str i t y u _ _ _ _ h
  ·rcases eQ hv with ⟨j,u,rfl,rfl⟩ | ⟨y,u,rfl,rfl⟩
   ·rw[qBG]at h;exact SeqAt.EqAt.str_int x t j u _ _ _ _ h
   ·rw[qBF]at h;exact wpAny_eqBool_str h
 «strs»:=fun k x t v h=>by
  rcases eQ h with ⟨i,u,rfl,e⟩ | ⟨y,u,rfl,e⟩
  ·exact nomatch e
  ·injection e with e1 _;subst e1
   cases v <;> rfl
theorem KY(prog:Program)(w:World)(i:Int)(t:Tok):(qW prog w).is (.inl i) (.int i t)=true:=Rb i t
theorem KR(prog:Program)(w:World)(x:Str)(t:Tok):(qW prog w).is (.inr x) (.str x t)=true:=Ra x t
inductive V where
 | non | bl (b:Bool) | int (i:Int) | str (x:Str) | byt (b:Array UInt8) | flt (b:UInt64) | ref (a:Addr) | ty (n:String)
 deriving DecidableEq
noncomputable def RelV:V->Value->Prop
 | .non,u=>u=Value.none
 | .bl b,u=>u=Value.bool b
 | .int i,u => ∃ t,u=Value.int i t
 | .str x,u => ∃ t,u=Value.str x t
 | .byt b,u => ∃ t,u=Value.bytes b t
 | .flt b,u => ∃ t,u=Value.float b t
 | .ref a,u=>u=Value.ref a
 | .ty n,u=>u=Value.type n
noncomputable abbrev Vals:List V->List Value->Prop:=Paired RelV
theorem Vals.length{xs:List V}{us:List Value}(r:Vals xs us):xs.length=us.length:=Paired.length r
theorem Vals.get:∀ {xs:List V} {us:List Value} {i:Nat} {x:V},Vals xs us->xs[i]? = some x->∃ u,us[i]? = some u/\RelV x u
 | _,_,_,_,.nil,e=>by simp at e
 | _,_,0,_,.cons r _,e=>by simp at e;subst e;exact⟨_,rfl,r⟩
 | _,_,i+1,x,.cons _ t,e=>by
  obtain⟨u,h1,h2⟩:=Vals.get (i:=i) (x:=x) t (by simpa using e);exact⟨u,by simpa using h1,h2⟩
theorem Vals.append:∀ {xs ys:List V} {us ws:List Value},Vals xs us->Vals ys ws->Vals (xs++ys) (us++ws)
 | _,_,_,_,.nil,s=>s
 | _,_,_,_,.cons r t,s=>.cons r (Vals.append t s)
theorem Vals.take:∀ {xs:List V} {us:List Value} (n:Nat),Vals xs us->Vals (xs.take n) (us.take n)
 | _,_,0,_=>.nil
 | _,_,_+1,.nil=>.nil
 | _,_,n+1,.cons r t=>.cons r (Vals.take n t)
theorem Vals.drop:∀ {xs:List V} {us:List Value} (n:Nat),Vals xs us->Vals (xs.drop n) (us.drop n)
 | _,_,0,r=>r
 | _,_,_+1,.nil=>.nil
 | _,_,n+1,.cons _ t=>Vals.drop n t
noncomputable def uy:Option V->Option Value->Prop
 | some v,some u=>RelV v u
 | none,none=>True
 | _,_=>False
noncomputable def KV{κ:Type}:List (κ×V)->List (κ×Value)->Prop:=Paired fun (p:κ×V) (q:κ×Value)=>p.1=q.1/\RelV p.2 q.2
noncomputable def kV:Key->V
 | .inl i=>.int i
 | .inr x=>.str x
inductive HO where
 | lst (xs:List V)
 | tup (xs:List V)
 | dK (kvs:List (Key×V)) | dT (kvs:List (List Key×V))
 | set (S:Int->Bool) (n:Nat)
 | ins (C dx:Addr) (fs:List (Str×V))
 | own (x:Addr)
 | xd (fs:List (Str×V))
 | met (f x:Addr)
 | rng (lo hi:Int)
 | M8 (o:Obj) (u:HO)
 | PX (ps:Array Value)
 | ext (φ:Heap->Prop)
noncomputable abbrev Hp:=Addr->Option HO
noncomputable def upd(H:Hp)(a:Addr)(o:HO):Hp:=fun b=>if b=a then some o else H b
theorem zC{H:Hp}{a:Addr}{o:HO}:upd H a o a=some o:=by unfold upd;rw[if_pos rfl]
theorem zQ{H:Hp}{a b:Addr}{o:HO}(h:b≠a):upd H a o b=H b:=by unfold upd;rw[if_neg h]
theorem KJ{H:Hp}{a b:Addr}{o u:HO}(h:H a=some o)(h':H b=some u)(d:o≠u):a≠b:=by
 intro e;subst e;rw[h]at h';exact d (MN h')
theorem zM{H:Hp}{a b:Addr}{o:HO}(h:H a=some o)(h':H b=none):a≠b:=by
 intro e;subst e;rw[h]at h';cases h'
section
variable(P:Program)(w:World)
noncomputable def gJ(H:Hp)(h:Heap)(a:Addr):HO->Prop
 | .lst xs=>xs.length<=sizeLine/\∃(its:List Value)(n:Nat),Vals xs its/\h.get? a=some { cls:=.type "list",data:=.seq its.toArray n }
 | .tup xs=>xs.length<=sizeLine/\∃ its:List Value,Vals xs its/\IsTup h a its.toArray
 | .dK kvs=>kvs.length<=sizeLine/\(a==sysModules)=false/\∃ vs,KV kvs vs/\h.DictOf (qW P w) a vs
 | .dT kvs=>kvs.length<=sizeLine/\(a==sysModules)=false/\∃ xs:List (List Key×Addr×Value),
   Paired (fun (p:List Key×V) (q:List Key×Addr×Value)=>p.1=q.1/\H q.2.1=some (.tup (p.1.map kV))/\RelV p.2 q.2.2) kvs xs ∧
   ∃ o es ep,h.get? a=some o/\o.ExactDict/\o.data = .dict es ep/\es.toList=xs.map (entryOfKey (tupleKind (qW P w)))/\(xs.map (·.1)).Nodup
 | .set S n=>h.SetOf (intKind P w) a S n
 | .ins C dx fs=>H dx=some (.own a)/\fs.length<=1000/\dx≠a/\h.get? a=some (PySem.W.instObj C dx) ∧
   ∃ mA,h.Ns1 dx mA/\(∀ f,uy (fs.lookup f) (mA f))/\PySem.Within mA (fs.map (·.1))
 | .own _ => ∃ o,h.get? a=some o
 | .xd fs => ∃ mA,h.Ns1 a mA/\∀ f,uy (fs.lookup f) (mA f)
 | .rng lo hi => ∃ t u v,h.get? a=some { cls:=.type "range",data:=.fields #[.int lo t,.int hi u,.int 1 v] }
 | .M8 o u=>h.get? a=some o/\gJ H h a u
 | .PX ps=>h.get? a=some { cls:=.none,data:=.fields ps }
 | .met f x=>h.get? a=some (PySem.W.methodObj (.ref f) (.ref x))
 | .ext φ=>φ h/\(∃ o,h.get? a=some o)/\∀ h1 h2:Heap,φ h1->(∀ o,h1.get? a=some o->h2.get? a=some o)->φ h2
noncomputable def qM(H:Hp)(h:Heap):Prop:=∀ a o,H a=some o->gJ P w H h a o
end
section
variable{P:Program}{w:World}{H H':Hp}{h h':Heap}{a:Addr}{o:HO}
theorem gJ.lt(x:gJ P w H h a o):a<h.objs.size:=by
 cases o with
 | lst xs=>obtain⟨_,_,_,_,e⟩:=x;exact lZ e
 | tup xs=>obtain⟨_,_,_,p⟩:=x;exact p.lt
 | dK kvs=>obtain⟨_,_,_,_,o,_,_,e,_⟩:=x;exact lZ e
 | dT kvs=>obtain⟨_,_,_,_,o,_,_,e,_⟩:=x;exact lZ e
 | set S n=>obtain⟨o,_,_,_,e,_⟩:=x;exact lZ e
 | ins C dx fs=>obtain⟨_,_,_,e,_⟩:=x;exact lZ e
 | own y=>obtain⟨_,e⟩:=x;exact lZ e
 | xd fs=>obtain⟨_,⟨_,_,_,e,_⟩,_⟩:=x;exact lZ e
 | rng lo hi=>obtain⟨_,_,_,e⟩:=x;exact lZ e
 | M8 ob u=>obtain⟨e,_⟩:=x;exact lZ e
 | PX ps=>exact lZ (show h.get? a=some _ from x)
 | met f y=>exact lZ (show h.get? a=some _ from x)
 | ext φ=>obtain⟨_,⟨_,e⟩,_⟩:=x;exact lZ e
theorem Paired.qD9{α β:Type}{F G:α->β->Prop}:∀ {l₁:List α} {l₂:List β},Paired F l₁ l₂->(∀ a b,F a b->G a b)->Paired G l₁ l₂
 | _,_,.nil,_=>.nil
 | _,_,.cons r t,f=>.cons (f _ _ r) (Paired.qD9 t f)
theorem gJ.stay(x:gJ P w H h a o)(k:∀ b u,(b=a∨H b=some (.own a))->h.get? b=some u->h'.get? b=some u)
  (ho:∀ b,H b=some (.own a)->H' b=some (.own a)) (ht:∀ b xs,H b=some (.tup xs)->H' b=some (.tup xs)):gJ P w H' h' a o:=by
 induction o with
 | lst xs=>obtain⟨z,its,n,r,e⟩:=x;exact⟨z,its,n,r,k _ _ (.inl rfl) e⟩
 | tup xs=>obtain⟨z,its,r,ob,e,c⟩:=x;exact⟨z,its,r,ob,k _ _ (.inl rfl) e,c⟩
 | dK kvs=>obtain⟨z,y,vs,r,ob,es,ep,e,c⟩:=x;exact⟨z,y,vs,r,ob,es,ep,k _ _ (.inl rfl) e,c⟩
 | dT kvs=>
  obtain⟨z,y,xs,r,ob,es,ep,e,c⟩:=x;exact⟨z,y,xs,Paired.qD9 r fun p q z=>⟨z.1,ht _ _ z.2.1,z.2.2⟩,ob,es,ep,k _ _ (.inl rfl) e,c⟩
 | set S n=>obtain⟨ob,es,ep,t,e,c⟩:=x;exact⟨ob,es,ep,t,k _ _ (.inl rfl) e,c⟩
 | ins C dx fs=>
  obtain⟨d,z,ne,e,mA,⟨od,es,ep,e2,c⟩,r⟩:=x;exact⟨ho _ d,z,ne,k _ _ (.inl rfl) e,mA,⟨od,es,ep,k _ _ (.inr d) e2,c⟩,r⟩
 | own y=>obtain⟨ob,e⟩:=x;exact⟨ob,k _ _ (.inl rfl) e⟩
 | xd fs=>obtain⟨mA,⟨od,es,ep,e,c⟩,r⟩:=x;exact⟨mA,⟨od,es,ep,k _ _ (.inl rfl) e,c⟩,r⟩
 | rng lo hi=>obtain⟨t,u,v,e⟩:=x;exact⟨t,u,v,k _ _ (.inl rfl) e⟩
 | M8 ob u ih=>obtain⟨e,q⟩:=x;exact⟨k _ _ (.inl rfl) e,ih q⟩
 | PX ps=>
  have e:h.get? a=some { cls:=.none,data:=.fields ps }:=x;show h'.get? a=some { cls:=.none,data:=.fields ps };exact k a _ (.inl rfl) e
 | met f y=>
  have e:h.get? a=some (PySem.W.methodObj (.ref f) (.ref y)):=x;show h'.get? a=some (PySem.W.methodObj (.ref f) (.ref y));exact k a _ (.inl rfl) e
 | ext φ=>obtain⟨p,⟨o,e⟩,st⟩:=x;exact⟨st _ _ p fun o q=>k _ _ (.inl rfl) q,⟨o,k _ _ (.inl rfl) e⟩,st⟩
theorem qM.lt(x:qM P w H h)(e:H a=some o):a<h.objs.size:=(x a o e).lt
theorem qM.fresh(x:qM P w H h)(e:h.objs.size<=a):H a=none:=by
 cases q:H a with
 | none=>rfl
 | some u=>exact absurd (Jj (x.lt q) e) (Nat.lt_irrefl _)
theorem qM.kept(x:qM P w H h)(k:∀ b u,h.get? b=some u->h'.get? b=some u):qM P w H h':=fun a o e=>
 (x a o e).stay (fun b u _ q=>k b u q) (fun _ q=>q) fun _ _ q=>q
theorem qM.laid(x:qM P w H h)(k:∀ b u,h.get? b=some u->h'.get? b=some u)(hp:h.objs.size<=a)(new:gJ P w (upd H a o) h' a o):qM P w (upd H a o) h':=fun b u e=>by
 have hn:=x.fresh hp
 by_cases hb:b=a
 ·subst hb;rw[zC]at e;cases e;exact new
 ·rw[zQ hb]at e
  exact (x b u e).stay (fun c v _ q=>k c v q) (fun c q=>by rw[zQ (zM q hn)];exact q) fun c xs q=>by rw[zQ (zM q hn)];exact q
end
noncomputable def Rd(H:Hp)(a:Addr)(u:HO):Prop:=H a=some u ∨ ∃ o,H a=some (.M8 o u)
theorem Rd.ok{P:Program}{w:World}{H:Hp}{h:Heap}{a:Addr}{u:HO}(r:Rd H a u)(x:qM P w H h):gJ P w H h a u:=by
 rcases r with r | ⟨o,r⟩
 ·exact x a u r
 ·obtain⟨_,q⟩:=x a _ r;exact q
noncomputable def Mut:Option HO->Prop
 | some (.lst _)=>True
 | some (.dK _)=>True
 | some (.dT _)=>True
 | some (.set _ _)=>True
 | some (.ins _ _ _)=>True
 | some (.ext _)=>True
 | _=>False
section
variable{P:Program}{w:World}{H:Hp}{h h':Heap}{x e:Addr}{o':HO}
theorem qM.write(ok:qM P w H h)(mu:Mut (H x))(he:e=x∨H e=some (.own x))(k:∀ b u,b≠e->h.get? b=some u->h'.get? b=some u)(heo:∃ u,h'.get? e=some u)
  (new:gJ P w (upd H x o') h' x o'):qM P w (upd H x o') h':=fun b u q=>by
 have qD0:∀ c y,H c=some (.own y)->c≠x:=fun c y r z=>by subst z;rw[r]at mu;exact mu
 have qFM:∀ c xs,H c=some (.tup xs)->c≠x:=fun c xs r z=>by subst z;rw[r]at mu;exact mu
 by_cases hb:b=x
 ·subst hb;rw[zC]at q;cases q;exact new
 ·rw[zQ hb]at q
  by_cases hbe:b=e
  ·have q':H b=some (.own x):=by
    rcases he with z | z
    ·exact absurd (hbe.trans z) hb
    ·rw[hbe];exact z
   rw[q]at q';cases q';obtain⟨v,hv⟩:=heo;exact⟨v,by rw[hbe];exact hv⟩
  ·refine (ok b u q).stay (fun c v hc r=>k c v ?_ r) (fun c r=>by rw[zQ (qD0 c b r)];exact r) fun c xs r=>by rw[zQ (qFM c xs r)];exact r
   rcases hc with rfl | hc
   ·exact hbe
   ·rintro rfl;rcases he with z | z
    ·exact qD0 c b hc z
    ·rw[hc]at z;cases z;exact hb rfl
end
structure Un(fs ex:List Addr)(H H':Hp)(h h':Heap):Prop where
 keep:∀ b o,h.get? b=some o->H b=none->b∉fs->b∉ex->h'.get? b=some o
 slot:∀ b o,h.get? b=some o->H b=none->b∈fs->b∉ex->∃ sl,h'.get? b=some { o with slots:=sl }
 free:∀ b o,h.get? b=some o->H b=none->b∉ex->H' b=none
 there:∀ b o,h.get? b=some o->b∉ex->∃ o',h'.get? b=some o'
 tups:∀ b xs,H b=some (.tup xs)->H' b=some (.tup xs)
 sX:∀ b o u,H b=some (.M8 o u)->H' b=some (.M8 o u)
 uC:∀ b ps,H b=some (.PX ps)->∃ more,H' b=some (.PX (ps++more))
section
variable{fs fs' ex ex':List Addr}{H H1 H2:Hp}{h h1 h2 h':Heap}{a x e:Addr}{o:HO}
theorem Un.any(u:Un fs ex H H1 h h1){b:Addr}{ob:Obj}(q:h.get? b=some ob)(n:H b=none)(hx:b∉ex):∃ sl,h1.get? b=some { ob with slots:=sl }:=by
 by_cases hb:b∈fs
 ·exact u.slot b ob q n hb hx
 ·exact⟨ob.slots,u.keep b ob q n hb hx⟩
theorem Un.kept(k:∀ b u,h.get? b=some u->h'.get? b=some u):Un fs ex H H h h':=
 ⟨fun b ob q _ _ _=>k b ob q,fun b ob q _ _ _=>⟨ob.slots,k b ob q⟩,fun _ _ _ n _=>n,fun b ob q _=>⟨ob,k b ob q⟩,fun _ _ q=>q,fun _ _ _ q=>q,fun _ ps q=>⟨#[],by rw[q];simp⟩⟩
theorem Un.refl:Un fs ex H H h h:=Un.kept fun _ _ q=>q
theorem Un.laid(k:∀ b u,h.get? b=some u->h'.get? b=some u)(hp:h.objs.size<=a)(hn:H a=none):Un fs ex H (upd H a o) h h' where
 keep:=fun b u q _ _ _=>k b u q
 slot:=fun b u q _ _ _=>⟨u.slots,k b u q⟩
 free:=fun b u q n _=>by rw[zQ (tD (Jj (lZ q) hp))];exact n
 there:=fun b u q _=>⟨u,k b u q⟩
 tups:=fun b xs q=>by rw[zQ (zM q hn)];exact q
 sX:=fun b u xs q=>by rw[zQ (zM q hn)];exact q
 uC:=fun b ps q=>⟨#[],by rw[zQ (zM q hn),q];simp⟩
theorem Un.write(mu:Mut (H x))(he:e=x∨H e=some (.own x))(k:∀ b u,b≠e->h.get? b=some u->h'.get? b=some u)(heo:∃ u,h'.get? e=some u):Un fs ex H (upd H x o) h h':=by
 have hx:∀ b,H b=none->b≠x:=fun b n z=>by subst z;rw[n]at mu;exact mu
 have hb:∀ b,H b=none->b≠e:=fun b n z=>by
  subst z;rcases he with r | r
  ·exact hx b n r
  ·rw[n]at r;cases r
 have hm:∀ b u,H b=some u->¬ Mut (some u)->b≠x:=fun b u q nm z=>by subst z;rw[q]at mu;exact nm mu
 refine⟨fun b u q n _ _=>k b u (hb b n) q,fun b u q n _ _=>⟨u.slots,k b u (hb b n) q⟩,fun b u q n _=>by rw[zQ (hx b n)];exact n,fun b u q _=>?_,
  fun b xs q=>by rw[zQ (hm b _ q fun z=>z)];exact q,fun b u xs q=>by rw[zQ (hm b _ q fun z=>z)];exact q,fun b ps q=>⟨#[],by rw[zQ (hm b _ q fun z=>z),q];simp⟩⟩
 by_cases hbe:b=e
 ·subst hbe;exact heo
 ·exact⟨u,k b u hbe q⟩
end
noncomputable def trk(h:Heap)(H:Hp):List Addr:=(List.range h.objs.size).filter fun a=>(H a).isSome
noncomputable def Ik(h:Heap)(H:Hp):Heap:=PySem.W.hideAll h (trk h H)
theorem Rg(h:Heap)(H:Hp):(Ik h H).objs.size=h.objs.size:=PySem.W.hideAll_size _ _
theorem VJ{h:Heap}{H:Hp}{b:Addr}{o:Obj}(e:h.get? b=some o)(n:H b=none):(Ik h H).get? b=some o:=
 PySem.W.hideAll_get _ e fun hm=>by
  have q:(H b).isSome=true:=(qFD.mp hm).2;rw[n]at q;simp at q
theorem Xj{h:Heap}{H:Hp}{b:Addr}{o:Obj}(e:(Ik h H).get? b=some o):h.get? b=some o/\H b=none:=by
 have e':h.get? b=some o:=PySem.W.of_hideAll (trk h H) e;refine⟨e',?_⟩
 cases q:H b with
 | none=>rfl
 | some x=>
  have hm:b∈trk h H:=List.mem_filter.mpr ⟨List.mem_range.mpr (Heap.lt_size e'),by simp [q]⟩;have z:(Ik h H).get? b=none:=PySem.W.hideAll_none (trk h H) hm;rw[z]at e;cases e
noncomputable def Yz(g h:Heap)(L:Addr):List (Addr×Obj):=(List.range h.objs.size).filterMap fun a=>if a=L∨(g.get? a).isSome=true then none else (h.get? a).map fun o=>(a,o)
noncomputable def rest(g h:Heap)(L d:Addr):List (Addr×Obj):=(Yz g h L).filter fun p=>decide (p.1≠d)
structure Mod(K:cZ)(mg:Str->Option Value)(base:Heap):Prop where
 Y4:K.In base
 glob:base.Ns mainGlobals mg
 blt:∃ mb,base.Ns builtinsNs mb/\∀ x:Str,x ≠ "__name__" -> mb x=bootBuiltins x
 nolimit:base.NoLimit
structure Cx where
 prog:Program
 w:World
 K:cZ
 mg:Str->Option Value
 base:Heap
 A:Around
 N:List Str
 s₀:Shared
 H₀:Hp
 env:Env
 outer:List Env
 stack:List Env
 ex:List Addr
 fn:Str->Bool
 calm:Bool
 pn:List (Addr×Obj)
 xe:Value->Shared->Prop
noncomputable def frs(l:List Env):List Addr:=l.filterMap (·.frame)
noncomputable abbrev Cx.fs(X:Cx):List Addr:=frs X.outer
noncomputable def Vis(sc:Scope)(x:Str):Prop:=sc.names.lookup x=some .local∨sc.names.lookup x=some .cell∨sc.names.lookup x=some .free
noncomputable def Loc(sc:Scope)(x:Str):Prop:=sc.names.lookup x=some .local∨sc.names.lookup x=some .cell
noncomputable def Look(env:Env)(h:Heap)(m:Str->Option Value)(x:Str)(u:Value):Prop:=
 (env.kindOf x=some .local/\m x=some u)∨((env.kindOf x=some .cell∨env.kindOf x=some .free)/\∃ c,env.cells.lookup x=some c/\h.IsCell c (some u))
structure Cx.Ok(X:Cx):Prop where
 mod:Mod X.K X.mg X.base
 kind:X.env.scope.kind = .function
 glob:X.env.globals=mainGlobals
 blt:X.env.builtins=builtinsNs
 above:X.s₀.heap.objs.size<=X.env.locals
 inj:∀ x y c,X.env.cells.lookup x=some c->X.env.cells.lookup y=some c->x=y
 has:∀ x,(X.env.kindOf x=some .cell∨X.env.kindOf x=some .free)->∃ c,X.env.cells.lookup x=some c
 cab:∀ x c,X.fn x=true->X.env.cells.lookup x=some c->X.s₀.heap.objs.size<=c
 hd:X.calm=true->X.A.handled=none
 frames:X.A.frames=some X.stack
 ZP:X.stack=X.outer∨(X.stack=X.env::X.outer/\X.env.frame=some X.env.locals)
 exf:∀ b∈X.ex,b≠X.env.locals/\∀ x c,X.env.cells.lookup x=some c->c≠b
 bs:∀ b o,X.base.get? b=some o->X.s₀.heap.get? b=some o/\X.H₀ b=none
 Td:X.base.objs.size<=X.s₀.heap.objs.size
 Nm:∀ b o,X.base.get? b=some o->b∉X.ex
 SJ:∀ b∈X.ex,b∉X.fs
 uG:X.s₀.heap.FunFrames X.base X.outer
 Vb:∀ b∈X.fs,X.H₀ b=none
structure Inv(X:Cx)(pins:List (Addr×Obj))(σ:List (Option V))(H:Hp)(s:Shared):Prop where
 ok:X.Ok
 os:s.os=X.s₀.os
 bare:AllBare s.gens
 base:Un X.fs X.ex X.H₀ H X.s₀.heap s.heap
 loc:∃ m,s.heap.Ns X.env.locals m/\∀(i:Nat)(x:Str)(v:V),X.N[i]? = some x->σ[i]? = some (some v)->Vis X.env.scope x->∃ u,RelV v u/\Look X.env s.heap m x u
 cell:∀ x c,X.env.cells.lookup x=some c->∃ v,s.heap.IsCell c v
 free:H X.env.locals=none
 nM:∀ x c,X.env.cells.lookup x=some c->H c=none
 pin:∀ p∈X.pn++pins,s.heap.get? p.1=some p.2/\H p.1=none/\p.1≠X.env.locals/\p.1∉X.fs/\∀ v,p.2.data≠.cell v
 hok:qM X.prog X.w H s.heap
 len:σ.length=X.N.length
section
variable{X:Cx}{pins:List (Addr×Obj)}{σ:List (Option V)}{H H':Hp}{s:Shared}{h':Heap}
theorem Cx.Ok.qFO(ok:X.Ok){b:Addr}{o:Obj}(e:X.base.get? b=some o):b∉X.fs:=fun hb=>by
 have:=(ok.uG.mem hb).1;rw[e]at this;cases this
theorem Inv.bs(I:Inv X pins σ H s):∀ b o,X.base.get? b=some o->s.heap.get? b=some o/\H b=none:=fun b o e=>
 ⟨I.base.keep b o (I.ok.bs b o e).1 (I.ok.bs b o e).2 (I.ok.qFO e) (I.ok.Nm b o e),I.base.free b o (I.ok.bs b o e).1 (I.ok.bs b o e).2 (I.ok.Nm b o e)⟩
theorem Inv.bk(I:Inv X pins σ H s):∀ b o,X.base.get? b=some o->s.heap.get? b=some o:=fun b o e=>(I.bs b o e).1
theorem Inv.mod(I:Inv X pins σ H s):Mod X.K X.mg X.base:=I.ok.mod
theorem Inv.oA(I:Inv X pins σ H s):X.K.In s.heap:=I.ok.mod.Y4.keeps I.bk
theorem Inv.lt(I:Inv X pins σ H s):X.env.locals<s.heap.objs.size:=let ⟨_,hn,_⟩:=I.loc;hn.lt
theorem Inv.sz(I:Inv X pins σ H s):X.s₀.heap.objs.size<=s.heap.objs.size:=Nat.le_trans I.ok.above (Nat.le_of_lt I.lt)
theorem Inv.qFN(I:Inv X pins σ H s){a:Addr}(h:s.heap.objs.size<=a):a∉X.fs:=fun hb=>by
 obtain⟨_,o,ho,_⟩:=I.ok.uG.mem hb;exact absurd (Jj (lZ ho) (Nat.le_trans I.sz h)) (Nat.lt_irrefl _)
theorem Inv.Yq(I:Inv X pins σ H s):∀ x c,X.env.cells.lookup x=some c->c≠X.env.locals:=fun x c e z=>by
 obtain⟨v,o,ho,hd⟩:=I.cell x c e;obtain⟨m,⟨o',es,ep,ho',hd',_⟩,_⟩:=I.loc;rw[z,ho']at ho;cases ho;rw[hd']at hd;cases hd
theorem Inv.uG(I:Inv X pins σ H s):s.heap.FunFrames X.base X.outer:=by
 have all:∀(l:List Env),(∀ b∈frs l,b∈X.fs)->X.s₀.heap.FunFrames X.base l->s.heap.FunFrames X.base l:=by
  intro l
  induction l with
  | nil=>intro _ _;trivial
  | cons env r ih=>
   intro hs hl;obtain⟨hk,⟨L,o,hf,hn,ho,hd⟩,hr⟩:=hl;have hL:L∈X.fs:=hs L (by unfold frs;rw[List.filterMap_cons,hf];exact Aa);obtain⟨sl,e⟩:=I.base.slot L o ho (I.ok.Vb L hL) hL fun z=>I.ok.SJ L z hL;exact⟨hk,⟨L,_,hf,hn,e,hd⟩,ih (fun b hb=>hs b (by unfold frs;rw[List.filterMap_cons,hf];exact wy _ hb)) hr⟩
 exact all X.outer (fun _ hb=>hb) I.ok.uG
theorem Inv.stack(I:Inv X pins σ H s):s.heap.FunFrames X.base X.stack:=by
 rcases I.ok.ZP with e | ⟨e,hf⟩
 ·rw[e];exact I.uG
 ·rw[e];obtain⟨m,hn,_⟩:=I.loc;refine .cons (by rw[I.ok.kind];decide) hf hn ?_ I.uG;exact Heap.get?_none_of_le (Nat.le_trans I.ok.Td I.ok.above)
theorem Inv.Mp(I:Inv X pins σ H s):∀ b∈frs X.stack,b∈X.env.locals::X.fs:=fun b hb=>by
 rcases I.ok.ZP with e | ⟨e,hf⟩
 ·rw[e]at hb;exact wy _ hb
 ·rw[e]at hb;unfold frs at hb;rw[List.filterMap_cons,hf]at hb;exact hb
theorem Inv.tE(I:Inv X pins σ H s):∀ b∈frs X.stack,H b=none:=fun b hb=>by
 rcases jo.mp (I.Mp b hb) with e | hb
 ·rw[e];exact I.free
 ·obtain⟨_,o,ho,_⟩:=I.ok.uG.mem hb;exact I.base.free b o ho (I.ok.Vb b hb) fun z=>I.ok.SJ b z hb
theorem Inv.step{g':Array GenState}{t':Nat}{d':Drawn}{ch:List Addr}(I:Inv X pins σ H s)
  (hch:∀ b∈ch,(b∈X.ex∨X.s₀.heap.objs.size<=b)/\b≠X.env.locals/\(∀ x c,X.env.cells.lookup x=some c->c≠b)/\∀ p∈X.pn++pins,p.1≠b)
  (keep:∀ b o,b≠X.env.locals->b∉X.fs->b∉ch->s.heap.get? b=some o->H b=none->h'.get? b=some o)
  (slot:∀ b o,b≠X.env.locals->b∈X.fs->b∉ch->s.heap.get? b=some o->H b=none->∃ sl,h'.get? b=some { o with slots:=sl }) (free:∀ b o,b∉ch->s.heap.get? b=some o->H b=none->H' b=none)
  (there:∀ b o,b∉ch->s.heap.get? b=some o->∃ o',h'.get? b=some o')
  (tups:∀ b xs,H b=some (.tup xs)->H' b=some (.tup xs)) (sX:∀ b o u,H b=some (.M8 o u)->H' b=some (.M8 o u)) (uC:∀ b ps,H b=some (.PX ps)->∃ more,H' b=some (.PX (ps++more)))
  (ns:∀ m,s.heap.Ns X.env.locals m->h'.Ns X.env.locals m) (hok:qM X.prog X.w H' h') (hg:AllBare g') :
  Inv X pins σ H' { s with heap:=h',gens:=g',drawn:=d',toks:=t' }:=by
 have neL:∀ b o,X.s₀.heap.get? b=some o->b≠X.env.locals:=fun b o e=>tD (Jj (lZ e) I.ok.above)
 have neC:∀ b o,X.s₀.heap.get? b=some o->b∉X.ex->b∉ch:=fun b o e hx hb=>by
  rcases (hch b hb).1 with z | z
  ·exact hx z
  ·exact absurd (Jj (lZ e) z) (Nat.lt_irrefl _)
 have cellK:∀ x c,X.env.cells.lookup x=some c->∀ v,s.heap.IsCell c v->h'.IsCell c v:=fun x c e v ⟨o,ho,hd⟩=>by
  have nch:c∉ch:=fun z=>(hch c z).2.2.1 x c e rfl
  by_cases hc:c∈X.fs
  ·obtain⟨sl,q⟩:=slot c o (I.Yq x c e) hc nch ho (I.nM x c e);exact⟨_,q,hd⟩
  ·exact⟨o,keep c o (I.Yq x c e) hc nch ho (I.nM x c e),hd⟩
 refine⟨I.ok,I.os,hg,⟨fun b o e n hb hx=>?_,fun b o e n hb hx=>?_,fun b o e n hx=>?_,fun b o e hx=>?_,fun b xs e=>tups b xs (I.base.tups b xs e),fun b o xs e=>sX b o xs (I.base.sX b o xs e),fun b ps e=>?_⟩,?_,fun x c e=>?_,?_,fun x c e=>?_,fun p hp=>?_,hok,I.len⟩
 ·exact keep b o (neL b o e) hb (neC b o e hx) (I.base.keep b o e n hb hx) (I.base.free b o e n hx)
 ·obtain⟨sl,e1⟩:=I.base.slot b o e n hb hx;obtain⟨sl',e2⟩:=slot b _ (neL b o e) hb (neC b o e hx) e1 (I.base.free b o e n hx);exact⟨sl',e2⟩
 ·obtain⟨o',e1⟩:=I.base.there b o e hx;exact free b o' (neC b o e hx) e1 (I.base.free b o e n hx)
 ·obtain⟨o',e1⟩:=I.base.there b o e hx;exact there b o' (neC b o e hx) e1
 ·obtain⟨m1,e1⟩:=I.base.uC b ps e;obtain⟨m2,e2⟩:=uC b _ e1;exact⟨m1++m2,by rw[e2,Array.append_assoc]⟩
 ·obtain⟨m,hn,hl⟩:=I.loc;refine⟨m,ns m hn,fun i x v e1 e2 e3=>?_⟩;obtain⟨u,r,l⟩:=hl i x v e1 e2 e3;refine⟨u,r,?_⟩;rcases l with l | ⟨k,c,e,z⟩
  ·exact .inl l
  ·exact .inr ⟨k,c,e,cellK x c e _ z⟩
 ·obtain⟨v,z⟩:=I.cell x c e;exact⟨v,cellK x c e v z⟩
 ·obtain⟨m,⟨o,_,_,ho,_⟩,_⟩:=I.loc;exact free _ o (fun z=>(hch _ z).2.1 rfl) ho I.free
 ·obtain⟨v,o,ho,hd⟩:=I.cell x c e;exact free c o (fun z=>(hch c z).2.2.1 x c e rfl) ho (I.nM x c e)
 ·obtain⟨e,n,ne,nf,d⟩:=I.pin p hp;have nch:p.1∉ch:=fun z=>(hch p.1 z).2.2.2 p hp rfl;exact⟨keep p.1 p.2 ne nf nch e n,free p.1 p.2 nch e n,ne,nf,d⟩
theorem Inv.un{t':Nat}(I:Inv X pins σ H s)(u:Un X.fs [] H H' s.heap h')(hok:qM X.prog X.w H' h'):Inv X pins σ H' { s with heap:=h',toks:=t' }:=by
 obtain⟨m,⟨o,es,ep,ho,r⟩,_⟩:=id I.loc;obtain⟨sl,hL⟩:=u.any ho I.free (by simp)
 exact I.step (g':=s.gens) (d':=s.drawn) (ch:=[]) (fun _ z=>nomatch z) (fun b o _ hb _ e n=>u.keep b o e n hb (by simp)) (fun b o _ hb _ e n=>u.slot b o e n hb (by simp)) (fun b o _ e n=>u.free b o e n (by simp)) (fun b o _ e=>u.there b o e (by simp)) u.tups u.sX u.uC (fun m' hm=>by
  obtain⟨o',es',ep',ho',r'⟩:=hm;rw[ho]at ho';cases ho'
  exact⟨_,es',ep',hL,r'⟩) hok I.bare
theorem Inv.call{g':Array GenState}{t':Nat}{d':Drawn}{ch:List Addr}(I:Inv X pins σ H s)(u:Un (frs X.stack) ch H H' s.heap h')(hok:qM X.prog X.w H' h')(hg:AllBare g')
  (hch:∀ b∈ch,(b∈X.ex∨X.s₀.heap.objs.size<=b)/\b≠X.env.locals/\(∀ x c,X.env.cells.lookup x=some c->c≠b)/\∀ p∈X.pn++pins,p.1≠b) :
  Inv X pins σ H' { s with heap:=h',gens:=g',drawn:=d',toks:=t' }:=by
 obtain⟨m,⟨o,es,ep,ho,r⟩,_⟩:=id I.loc;obtain⟨sl,hL⟩:=u.any ho I.free fun z=>(hch _ z).2.1 rfl
 exact I.step (ch:=ch) hch (fun b o hL hb hc e n=>u.keep b o e n (fun z=>(jo.mp (I.Mp b z)).elim hL hb) hc) (fun b o _ _ hc e n=>u.any e n hc) (fun b o hc e n=>u.free b o e n hc) (fun b o hc e=>u.there b o e hc) u.tups u.sX u.uC (fun m' hm=>by
  obtain⟨o',es',ep',ho',r'⟩:=hm;rw[ho]at ho';cases ho'
  exact⟨_,es',ep',hL,r'⟩) hok hg
theorem Inv.turned{t':Nat}{it:Addr}(I:Inv X pins σ H s)(k:∀ b o,b≠it->s.heap.get? b=some o->h'.get? b=some o)(hn:H it=none)(hL:it≠X.env.locals)
  (h1:it∈X.ex∨X.s₀.heap.objs.size<=it) (h2:∀ x c,X.env.cells.lookup x=some c->c≠it) (h3:∀ p∈X.pn++pins,p.1≠it):Inv X pins σ H { s with heap:=h',toks:=t' }:=by
 have nit:∀ b u,H b=some u->b≠it:=fun b u e z=>by rw[z,hn]at e;cases e
 refine I.step (g':=s.gens) (d':=s.drawn) (ch:=[it]) (fun b hb=>?_) (fun b o _ _ hc e _=>k b o (fun z=>hc (by simp [z])) e) (fun b o _ _ hc e _=>⟨o.slots,k b o (fun z=>hc (by simp [z])) e⟩) (fun _ _ _ _ n=>n)
  (fun b o hc e=>⟨o,k b o (fun z=>hc (by simp [z])) e⟩) (fun _ _ e=>e) (fun _ _ _ e=>e) (fun b ps e=>⟨#[],by rw[e];simp⟩) (fun m hm=>?_) (fun b u e=>?_) I.bare
 ·have e:b=it:=by simpa using hb
  subst e;exact⟨h1,hL,h2,h3⟩
 ·obtain⟨o,es,ep,ho,r⟩:=hm;exact⟨o,es,ep,k _ o (Ne.symm hL) ho,r⟩
 ·refine (I.hok b u e).stay (fun c v hc q=>k c v ?_ q) (fun _ q=>q) fun _ _ q=>q;rcases hc with z | z
  ·rw[z];exact nit b u e
  ·exact nit c _ z
theorem Inv.tok(I:Inv X pins σ H s)(t:Nat):Inv X pins σ H { s with toks:=t }:=I.un (h':=s.heap) (t':=t) Un.refl I.hok
theorem Inv.kept{t':Nat}(I:Inv X pins σ H s)(k:∀ b u,s.heap.get? b=some u->h'.get? b=some u):Inv X pins σ H { s with heap:=h',toks:=t' }:=I.un (Un.kept k) (I.hok.kept k)
theorem Inv.laid{a:Addr}{o:HO}{t':Nat}(I:Inv X pins σ H s)(k:∀ b u,s.heap.get? b=some u->h'.get? b=some u)(hp:s.heap.objs.size<=a)(new:gJ X.prog X.w (upd H a o) h' a o) :
  Inv X pins σ (upd H a o) { s with heap:=h',toks:=t' }:=I.un (Un.laid k hp (I.hok.fresh hp)) (I.hok.laid k hp new)
theorem Inv.write{x e:Addr}{o:HO}{t':Nat}(I:Inv X pins σ H s)(mu:Mut (H x))(he:e=x∨H e=some (.own x))(k:∀ b u,b≠e->s.heap.get? b=some u->h'.get? b=some u)(heo:∃ u,h'.get? e=some u)
  (new:gJ X.prog X.w (upd H x o) h' x o):Inv X pins σ (upd H x o) { s with heap:=h',toks:=t' }:=I.un (Un.write mu he k heo) (I.hok.write mu he k heo new)
theorem Inv.vZ{ZW:List (Addr×Obj)}(I:Inv X pins σ H s)(h:∀ p∈ZW,s.heap.get? p.1=some p.2/\H p.1=none/\p.1≠X.env.locals/\p.1∉X.fs/\∀ v,p.2.data≠.cell v):Inv X ZW σ H s:=
 ⟨I.ok,I.os,I.bare,I.base,I.loc,I.cell,I.free,I.nM,fun p hp=>(wz.mp hp).elim (fun z=>I.pin p (List.mem_append_left _ z)) (h p),I.hok,I.len⟩
theorem Ca{N:List Str}(hN:N.Nodup){i j:Nat}{x:Str}(a:N[i]? = some x)(b:N[j]? = some x):i=j:=by
 obtain⟨h1,e1⟩:=Fb.mp a;obtain⟨h2,e2⟩:=Fb.mp b;exact (List.getElem_inj hN).mp (e1.trans e2.symm)
theorem Fq{M:Model}{A:Around}{E:Value->Shared->Prop}{i:Nat}{x:Str}{v:V}{u:Value}{Q:Unit->Shared->Prop}(I:Inv X pins σ H s)(hN:X.N.Nodup)(hi:X.N[i]? = some x)(hx:Loc X.env.scope x)(r:RelV v u)
  (h:∀ s',Inv X pins (σ.set i (some v)) H s'->(∃ a,Heap.SameBut a s.heap s'.heap/\(a=X.env.locals∨X.env.cells.lookup x=some a))->Q () s') (hf:X.fn x=true∨X.env.scope.names.lookup x=some .local:=by first | exact .inl rfl | exact .inr rfl | assumption):wpAny M A (storeName X.env x u) Q E s:=by
 obtain⟨m,hn,hl⟩:=id I.loc
 have hcls:(X.env.scope.kind==.class||(X.env.scope.kind==.module&&X.env.locals != X.env.globals))=false:=by rw[I.ok.kind];rfl
 have hiσ:i<σ.length:=by rw[I.len];exact (Fb.mp hi).1
 have Yq:=I.Yq
 have tracked:∀ {a:Addr} {h':Heap},(∃ o,s.heap.get? a=some o/\H a=none)->Heap.SameBut a s.heap h'->qM X.prog X.w H h':=fun {a h'} ha hs b ob e=>by
  obtain⟨_,_,hfree⟩:=ha;refine (I.hok b ob e).stay (fun c w' hc q=>(hs.2 c ?_).trans q) (fun _ q=>q) fun _ _ q=>q;rintro rfl;rcases hc with rfl | hc
  ·rw[hfree]at e;cases e
  ·rw[hfree]at hc;cases hc
 rcases hx with hk | hk
 ·refine wpAny_storeName_local hk hn (fun h' hn' hs=>?_) hcls;obtain⟨oL,_,_,hoL,_⟩:=id hn;refine h _ ⟨I.ok,I.os,I.bare,⟨fun b o e n hb hx=>?_,fun b o e n hb hx=>?_,I.base.free,fun b o e hx=>?_,I.base.tups,I.base.sX,I.base.uC⟩,⟨_,hn',fun j y v' e1 e2 e3=>?_⟩,fun y c e=>?_,I.free,I.nM,fun p hp=>?_,tracked ⟨oL,hoL,I.free⟩ hs,by simpa using I.len⟩ ⟨_,hs,.inl rfl⟩
  ·exact (hs.2 b (tD (Jj (lZ e) I.ok.above))).trans (I.base.keep b o e n hb hx)
  ·obtain⟨sl,e1⟩:=I.base.slot b o e n hb hx;exact⟨sl,(hs.2 b (tD (Jj (lZ e) I.ok.above))).trans e1⟩
  ·obtain⟨o',e1⟩:=I.base.there b o e hx;exact⟨o',(hs.2 b (tD (Jj (lZ e) I.ok.above))).trans e1⟩
  ·by_cases hj:j=i
   ·subst hj;rw[hi]at e1;cases e1;rw[List.getElem?_set_self hiσ]at e2
    cases e2
    exact⟨u,r,.inl ⟨hk,by simp⟩⟩
   ·rw[List.getElem?_set_ne (Ne.symm hj)]at e2;obtain⟨u',r',q⟩:=hl j y v' e1 e2 e3;refine⟨u',r',?_⟩;rcases q with ⟨k,e⟩ | ⟨k,c,e,z⟩
    ·refine .inl ⟨k,?_⟩;have:y≠x:=fun e=>hj (Ca hN e1 (e▸hi));simp [this,e]
    ·exact .inr ⟨k,c,e,z.sameBut hs (Yq y c e)⟩
  ·obtain⟨w',z⟩:=I.cell y c e;exact⟨w',z.sameBut hs (Yq y c e)⟩
  ·obtain⟨e,n,ne,nf,d⟩:=I.pin p hp;exact⟨(hs.2 p.1 ne).trans e,n,ne,nf,d⟩
 ·have hfn:X.fn x=true:=by
   rcases hf with z | z
   ·exact z
   ·rw[z]at hk;cases hk
  obtain⟨c,hc⟩:=I.ok.has x (.inl hk);obtain⟨w',z⟩:=I.cell x c hc;refine wpAny_storeName_cell I.ok.kind hk hc z (fun h' hc' hs=>?_);obtain⟨oc,hoc,qFY⟩:=id z;refine h { s with heap:=h' } ⟨I.ok,I.os,I.bare,⟨fun b o e n hb hx=>?_,fun b o e n hb hx=>?_,I.base.free,fun b o e hx=>?_,I.base.tups,I.base.sX,I.base.uC⟩,⟨m,hn.sameBut hs (Ne.symm (Yq x c hc)),fun j y v' e1 e2 e3=>?_⟩,fun y c' e=>?_,I.free,I.nM,fun p hp=>?_,tracked ⟨oc,hoc,I.nM x c hc⟩ hs,by simpa using I.len⟩ ⟨c,hs,.inr hc⟩
  ·exact (hs.2 b (tD (Jj (lZ e) (I.ok.cab x c hfn hc)))).trans (I.base.keep b o e n hb hx)
  ·obtain⟨sl,e1⟩:=I.base.slot b o e n hb hx;exact⟨sl,(hs.2 b (tD (Jj (lZ e) (I.ok.cab x c hfn hc)))).trans e1⟩
  ·obtain⟨o',e1⟩:=I.base.there b o e hx;exact⟨o',(hs.2 b (tD (Jj (lZ e) (I.ok.cab x c hfn hc)))).trans e1⟩
  ·by_cases hj:j=i
   ·subst hj;rw[hi]at e1;cases e1;rw[List.getElem?_set_self hiσ]at e2
    cases e2
    exact⟨u,r,.inr ⟨.inl hk,c,hc,hc'⟩⟩
   ·rw[List.getElem?_set_ne (Ne.symm hj)]at e2;obtain⟨u',r',q⟩:=hl j y v' e1 e2 e3;refine⟨u',r',?_⟩;rcases q with q | ⟨k,c',e,z'⟩
    ·exact .inl q
    ·refine .inr ⟨k,c',e,z'.sameBut hs ?_⟩;rintro rfl;exact hj (Ca hN e1 (I.ok.inj _ _ _ e hc▸hi))
  ·by_cases hcc:c'=c
   ·subst hcc;exact⟨_,hc'⟩
   ·obtain⟨w2,z2⟩:=I.cell y c' e;exact⟨w2,z2.sameBut hs hcc⟩
  ·obtain⟨e,n,ne,nf,d⟩:=I.pin p hp;refine⟨(hs.2 p.1 ?_).trans e,n,ne,nf,d⟩;intro q;rw[q,hoc]at e;have q':oc=p.2:=MN e;exact d w' (by rw[<-q'];exact qFY)
theorem pL{M:Model}{A:Around}{E:Value->Shared->Prop}{i:Nat}{x:Str}{v:V}{u:Value}{Q:Unit->Shared->Prop}(I:Inv X pins σ H s)(hN:X.N.Nodup)(hi:X.N[i]? = some x)(hx:Loc X.env.scope x)(r:RelV v u)
  (h:∀ s',Inv X pins (σ.set i (some v)) H s'->Q () s') (hf:X.fn x=true∨X.env.scope.names.lookup x=some .local:=by first | exact .inl rfl | exact .inr rfl | assumption):wpAny M A (storeName X.env x u) Q E s:=
 Fq I hN hi hx r (fun s' I' _=>h s' I') hf
theorem Inv.call'{s':Shared}{ch:List Addr}(I:Inv X pins σ H s)(ho:s'.os=s.os)(u:Un (frs X.stack) ch H H' s.heap s'.heap)(hok:qM X.prog X.w H' s'.heap)(hg:AllBare s'.gens)
  (hch:∀ b∈ch,(b∈X.ex∨X.s₀.heap.objs.size<=b)/\b≠X.env.locals/\(∀ x c,X.env.cells.lookup x=some c->c≠b)/\∀ p∈X.pn++pins,p.1≠b):Inv X pins σ H' s':=by
 obtain⟨h',g',d',t',o'⟩:=s';have e:o'=s.os:=ho;subst e;exact I.call (g':=g') (t':=t') (d':=d') u hok hg hch
end
noncomputable abbrev XK:=Value->Option Addr->Hp->Prop
noncomputable abbrev St:=List (Option V)
noncomputable abbrev VK:=V->Hp->Prop
noncomputable abbrev TE:=St->Hp->VK->Prop
noncomputable abbrev TT:=St->Hp->(Bool->Hp->Prop)->Prop
noncomputable abbrev TA:=St->Hp->(List V->Hp->Prop)->Prop
structure Ends where
 nx:St->Hp->Prop
 rt:VK
 bk:St->Hp->Prop:=fun _ _=>False
 ct:St->Hp->Prop:=fun _ _=>False
noncomputable abbrev TS:=Ends->St->Hp->Prop
noncomputable def EP(X:Cx)(pins:List (Addr×Obj))(σ:St)(Q:VK)(u:Value)(s':Shared):Prop:=∃ v H',Inv X pins σ H' s'/\RelV v u/\Q v H'
noncomputable def TP(X:Cx)(pins:List (Addr×Obj))(σ:St)(Q:Bool->Hp->Prop)(b:Bool)(s':Shared):Prop:=∃ H',Inv X pins σ H' s'/\Q b H'
noncomputable def AP(X:Cx)(pins:List (Addr×Obj))(σ:St)(Q:List V->Hp->Prop)(us:List Value)(s':Shared):Prop:=∃ vs H',Inv X pins σ H' s'/\Vals vs us/\Q vs H'
noncomputable def SP(X:Cx)(pins:List (Addr×Obj))(D:Ends)(f:Flow)(s':Shared):Prop:=
 match f with
 | .next => ∃ σ' H',Inv X pins σ' H' s'/\D.nx σ' H'
 | .brk => ∃ σ' H',Inv X pins σ' H' s'/\D.bk σ' H'
 | .cont => ∃ σ' H',Inv X pins σ' H' s'/\D.ct σ' H'
 | .ret u => ∃ v σ' H',Inv X pins σ' H' s'/\RelV v u/\D.rt v H'
noncomputable def PE(X:Cx)(e:Expr)(t:TE):Prop:=
 ∀(pins:List (Addr×Obj))(s:Shared)(σ:St)(H:Hp)(Q:VK),Inv X pins σ H s->t σ H Q->wpAny (model X.prog X.w) X.A (eval e X.env) (EP X pins σ Q) X.xe s
noncomputable def PT(X:Cx)(e:Expr)(t:TT):Prop:=
 ∀(pins:List (Addr×Obj))(s:Shared)(σ:St)(H:Hp)(Q:Bool->Hp->Prop),Inv X pins σ H s->t σ H Q->wpAny (model X.prog X.w) X.A (isTrue e X.env (eval e X.env)) (TP X pins σ Q) X.xe s
noncomputable def PW(X:Cx)(e:Expr)(t:TT):Prop:=
 ∀(whole:Sem Value)(pins:List (Addr×Obj))(s:Shared)(σ:St)(H:Hp)(Q:Bool->Hp->Prop),Inv X pins σ H s->t σ H Q->wpAny (model X.prog X.w) X.A (isTrue e X.env whole) (TP X pins σ Q) X.xe s
theorem PW.pt{X:Cx}{e:Expr}{t:TT}(h:PW X e t):PT X e t:=h _
noncomputable def PA(X:Cx)(es:List Expr)(t:TA):Prop:=
 ∀(pos:Pos)(pins:List (Addr×Obj))(s:Shared)(σ:St)(H:Hp)(Q:List V->Hp->Prop),Inv X pins σ H s->t σ H Q->wpAny (model X.prog X.w) X.A (spliced (backTo pos (starEach es X.env))) (AP X pins σ Q) X.xe s
noncomputable def PS(X:Cx)(st:Stmt)(t:TS):Prop:=
 ∀(pins:List (Addr×Obj))(s:Shared)(σ:St)(H:Hp)(D:Ends),Inv X pins σ H s->t D σ H->wpAny (model X.prog X.w) X.A (exec st X.env) (SP X pins D) X.xe s
noncomputable def JV(X:Cx)(st:List Stmt)(t:TS):Prop:=
 ∀(pins:List (Addr×Obj))(s:Shared)(σ:St)(H:Hp)(D:Ends),Inv X pins σ H s->t D σ H->wpAny (model X.prog X.w) X.A (execs st X.env) (SP X pins D) X.xe s
theorem gO{α:Type}{t:Sem α}{Q Q':α->Shared->Prop}{M:Model}{A:Around}{E:Value->Shared->Prop}{s:Shared}(h:wpAny M A t Q E s)(hQ:∀ a s,Q a s->Q' a s):wpAny M A t Q' E s:=wpAny_mono h hQ fun _ _ x=>x
section
variable{X:Cx}
noncomputable def Gy(i:Nat):TE:=fun σ H Q => ∃ v,σ[i]? = some (some v)/\Q v H
noncomputable def tC(v:V):TE:=fun _ H Q=>Q v H
theorem qAS{i:Nat}{x:Str}{pos:Pos}(hN:X.N[i]? = some x)(hv:Vis X.env.scope x)(hd:(x==("__debug__" : Str))=false:=by decide)(hcd:(x==("__classdict__" : Str))=false:=by decide):PE X (.Name x pos) (Gy i):=by
 intro pins s σ H Q I h;obtain⟨v,e,h⟩:=h;obtain⟨m,hn,hl⟩:=I.loc;obtain⟨u,r,l⟩:=hl i x v hN e hv;have fin:EP X pins σ Q u s:=⟨v,H,I,r,h⟩;rcases l with ⟨hk,hm⟩ | ⟨hk,c,hc,hcell⟩
 ·exact wpAny_Name (wpAny_loadName_local I.ok.kind hk hn hm fin) hd
 ·rcases hk with hk | hk
  ·exact wpAny_Name (wpAny_loadName_cell I.ok.kind hk hc hcell fin) hd
  ·exact wpAny_Name (wpAny_loadName_free I.ok.kind hk hc hcell fin hcd) hd
theorem zB {i j pos}:PE X (.Constant (.int i) j pos) (tC (.int i)):=fun _ _ _ H _ I h=>wpAny_Constant_int ⟨.int i,H,I.tok _,⟨_,rfl⟩,h⟩
theorem rE {b j pos}:PE X (.Constant (.bool b) j pos) (tC (.bl b)):=fun _ _ _ H _ I h=>Constant_bool ⟨.bl b,H,I,rfl,h⟩
theorem CJ {j pos}:PE X (.Constant .none j pos) (tC .non):=fun _ _ _ H _ I h=>Constant_none ⟨.non,H,I,rfl,h⟩
theorem zP {x j pos}:PE X (.Constant (.str x) j pos) (tC (.str x)):=fun _ _ _ H _ I h=>Calls.Constant_str ⟨.str x,H,I.tok _,⟨_,rfl⟩,h⟩
noncomputable def Gl(X:Cx)(x:Str):Prop:=X.env.kindOf x=some .globalImplicit
theorem km{E:Value->Shared->Prop}{pins:List (Addr×Obj)}{s:Shared}{σ:St}{H:Hp}{x:Str}{u:Value}{pos:Pos}{Q:Value->Shared->Prop}(I:Inv X pins σ H s)(hg:Gl X x)(hm:X.mg x=some u)(h:Q u s)
  (hd:(x==("__debug__" : Str))=false:=by decide):wpAny (model X.prog X.w) X.A (eval (.Name x pos) X.env) Q E s:=
 Calls.Name_function_global I.ok.kind hg (Calls.loadGlobal_global (by rw[I.ok.glob];exact I.mod.glob.keeps I.bk) hm h) hd
theorem sH{E:Value->Shared->Prop}{pins:List (Addr×Obj)}{s:Shared}{σ:St}{H:Hp}{x:Str}{u:Value}{pos:Pos}{Q:Value->Shared->Prop}(I:Inv X pins σ H s)(hg:Gl X x)(hm:X.mg x=none)(hv:bootBuiltins x=some u)(h:Q u s)
  (hn:x ≠ "__name__" := by decide) (hd:(x==("__debug__" : Str))=false:=by decide):wpAny (model X.prog X.w) X.A (eval (.Name x pos) X.env) Q E s:=by
 obtain⟨mb,h1,h2⟩:=I.mod.blt;exact Calls.Name_function_global I.ok.kind hg (Calls.loadGlobal_builtin (by rw[I.ok.glob];exact I.mod.glob.keeps I.bk) hm (by rw[I.ok.blt];exact h1.keeps I.bk) ((h2 x hn).trans hv) h) hd
theorem dz{x:Str}{v:V}{u:Value}{pos:Pos}(hg:Gl X x)(hm:X.mg x=some u)(r:RelV v u)(hd:(x==("__debug__" : Str))=false:=by decide):PE X (.Name x pos) (tC v):=
 fun _ _ _ H _ I h=>km I hg hm ⟨v,H,I,r,h⟩ hd
theorem Hf{x:Str}{v:V}{u:Value}{pos:Pos}(hg:Gl X x)(hm:X.mg x=none)(hv:bootBuiltins x=some u)(r:RelV v u)(hn:x ≠ "__name__" := by decide)(hd:(x==("__debug__" : Str))=false:=by decide):PE X (.Name x pos) (tC v):=
 fun _ _ _ H _ I h=>sH I hg hm hv ⟨v,H,I,r,h⟩ hn hd
variable{a b:Expr}{ta tb:TE}{pos:Pos}
noncomputable def tB(t:TE):TT:=fun σ H Q=>t σ H fun x H1 => ∃ c,x = .bl c/\Q c H1
theorem fY{e:Expr}{t:TE}(h:PE X e t)(he:∀ whole,isTrue e X.env whole=(do let v ← whole;standAt e.pos;holding [v] (truthy v)):=by intro _;rfl):PT X e (tB t):=by
 intro pins s σ H Q I hw;refine isTrue_plain (gO (h pins s σ H _ I hw) fun v s1 ⟨x,H1,I1,r1,q1⟩=>?_) (he _);obtain⟨d,rfl,q⟩:=q1
 cases r1
 exact wpAny_truthy_bool ⟨H1,I1,q⟩
variable{tA tB':TT}{rest:List Expr}
noncomputable def qCJ(t u:TT):TT:=fun σ H Q=>t σ H fun c H1=>if c=true then u σ H1 Q else Q false H1
noncomputable def tOr(t u:TT):TT:=fun σ H Q=>t σ H fun c H1=>if c=true then Q true H1 else u σ H1 Q
noncomputable def qCG(t:TT):TT:=fun σ H Q=>t σ H fun c H1=>Q (!c) H1
theorem yK(ha:PT X a tA):PW X (.BoolOp .And [a] pos) tA:=by
 intro wh pins s σ H Q I h;refine isTrue_and (gO (ha pins s σ H Q I h) fun c s1 e=>?_)
 cases c with
 | true=>exact isTrue_and_nil e
 | false=>exact e
theorem pw_or1(ha:PT X a tA):PW X (.BoolOp .Or [a] pos) tA:=by
 intro wh pins s σ H Q I h;refine isTrue_or (gO (ha pins s σ H Q I h) fun c s1 e=>?_)
 cases c with
 | false=>exact isTrue_or_nil e
 | true=>exact e
theorem pw_and(ha:PT X a tA)(hb:PW X (.BoolOp .And (b::rest) pos) tB'):PW X (.BoolOp .And (a::b::rest) pos) (qCJ tA tB'):=by
 intro wh pins s σ H Q I h;refine isTrue_and (gO (ha pins s σ H _ I h) fun c s1 ⟨H1,I1,q1⟩=>?_)
 cases c with
 | true=>exact hb wh pins s1 σ H1 Q I1 q1
 | false=>exact⟨H1,I1,q1⟩
theorem pw_or(ha:PT X a tA)(hb:PW X (.BoolOp .Or (b::rest) pos) tB'):PW X (.BoolOp .Or (a::b::rest) pos) (tOr tA tB'):=by
 intro wh pins s σ H Q I h;refine isTrue_or (gO (ha pins s σ H _ I h) fun c s1 ⟨H1,I1,q1⟩=>?_)
 cases c with
 | true=>exact⟨H1,I1,q1⟩
 | false=>exact hb wh pins s1 σ H1 Q I1 q1
theorem my(ha:PT X a tA):PT X (.UnaryOp .Not a pos) (qCG tA):=by
 intro pins s σ H Q I h;exact isTrue_not (ha pins s σ H (fun c H1=>Q (!c) H1) I h)
noncomputable def ZM(ta tb:TE):TE:=fun σ H Q=>ta σ H fun x H1 => ∃ c,x = .bl c/\if c=true then tb σ H1 Q else Q (.bl false) H1
noncomputable def qCF(ta tb:TE):TE:=fun σ H Q=>ta σ H fun x H1 => ∃ c,x = .bl c/\if c=true then Q (.bl true) H1 else tb σ H1 Q
noncomputable def ZF(ta:TE):TE:=fun σ H Q=>ta σ H fun x H1 => ∃ c,x = .bl c/\Q (.bl (!c)) H1
theorem gP {op} {t:TE} (h:PE X a t):PE X (.BoolOp op [a] pos) t:=fun pins s σ H Q I hw=>BoolOp_one (h pins s σ H Q I hw)
theorem jZ(ha:PE X a ta)(hb:PE X (.BoolOp .And (b::rest) pos) tb):PE X (.BoolOp .And (a::b::rest) pos) (ZM ta tb):=by
 intro pins s σ H Q I h;refine BoolOp_and (gO (ha pins s σ H _ I h) fun v s1 ⟨x,H1,I1,r1,q1⟩=>?_);obtain⟨c,rfl,q1⟩:=q1
 cases r1
 refine wpAny_truthy_bool ?_
 cases c with
 | true=>exact hb pins s1 σ H1 Q I1 q1
 | false=>exact⟨.bl false,H1,I1,rfl,q1⟩
theorem CG(ha:PE X a ta)(hb:PE X (.BoolOp .Or (b::rest) pos) tb):PE X (.BoolOp .Or (a::b::rest) pos) (qCF ta tb):=by
 intro pins s σ H Q I h;refine BoolOp_or (gO (ha pins s σ H _ I h) fun v s1 ⟨x,H1,I1,r1,q1⟩=>?_);obtain⟨c,rfl,q1⟩:=q1
 cases r1
 refine wpAny_truthy_bool ?_
 cases c with
 | false=>exact hb pins s1 σ H1 Q I1 q1
 | true=>exact⟨.bl true,H1,I1,rfl,q1⟩
theorem iW(ha:PE X a ta):PE X (.UnaryOp .Not a pos) (ZF ta):=by
 intro pins s σ H Q I h;refine UnaryOp_ (gO (ha pins s σ H _ I h) fun v s1 ⟨x,H1,I1,r1,q1⟩=>?_);obtain⟨c,rfl,q1⟩:=q1
 cases r1
 exact not_of (wpAny_truthy_bool ⟨.bl (!c),H1,I1,rfl,q1⟩)
noncomputable def tIf(t:TT)(ta tb:TE):TE:=fun σ H Q=>t σ H fun c H1=>if c=true then ta σ H1 Q else tb σ H1 Q
theorem CN{c:Expr}(hc:PT X c tA)(ha:PE X a ta)(hb:PE X b tb):PE X (.IfExp c a b pos) (tIf tA ta tb):=by
 intro pins s σ H Q I h;refine wpAny_IfExp (gO (hc pins s σ H _ I h) fun d s1 ⟨H1,I1,q1⟩=>?_)
 cases d with
 | true=>exact ha pins s1 σ H1 Q I1 q1
 | false=>exact hb pins s1 σ H1 Q I1 q1
end
noncomputable def jk(K:cZ)(H:Hp)(a:Addr)(xs:List V):Prop:=
 Rd H a (.lst xs) ∨
  ∃(o:Obj)(its:Array Value)(n:Nat),K.lookup a=some o/\o.cls = .type "list" /\ o.dict=none/\o.data = .seq its n/\its.size<=sizeLine/\Vals xs its.toList
noncomputable def rM(K:cZ)(H:Hp)(a:Addr)(xs:List V):Prop:=
 Rd H a (.tup xs) ∨
  ∃(o:Obj)(its:Array Value)(n:Nat),K.lookup a=some o/\o.cls = .type "tuple" /\ o.data = .seq its n/\its.size<=sizeLine/\Vals xs its.toList
noncomputable def qGA:Value->Option V
 | .none=>some .non
 | .bool b=>some (.bl b)
 | .int i _=>some (.int i)
 | .str x _=>some (.str x)
 | .bytes b _=>some (.byt b)
 | .float b _=>some (.flt b)
 | .ref a=>some (.ref a)
 | .type n=>some (.ty n)
 | _=>none
theorem RelV.abs{x:V}{u:Value}(r:RelV x u):qGA u=some x:=by
 cases x with
 | non=>cases r;rfl
 | bl _=>cases r;rfl
 | int _=>obtain⟨t,rfl⟩:=r;rfl
 | str _=>obtain⟨t,rfl⟩:=r;rfl
 | byt _=>obtain⟨t,rfl⟩:=r;rfl
 | flt _=>obtain⟨t,rfl⟩:=r;rfl
 | ref _=>cases r;rfl
 | ty _=>cases r;rfl
theorem RelV.inj{x y:V}{u:Value}(r:RelV x u)(q:RelV y u):x=y:=MN (r.abs.symm.trans q.abs)
theorem Vals.inj:∀ {xs ys:List V} {us:List Value},Vals xs us->Vals ys us->xs=ys
 | _,_,_,.nil,.nil=>rfl
 | _,_,_,.cons r t,.cons r' t'=>by rw[r.inj r',Vals.inj t t']
section
variable{X:Cx}{pins:List (Addr×Obj)}{σ:St}{H:Hp}{s:Shared}{a:Addr}{xs ys:List V}
theorem jk.of{K:cZ}(h:H a=some (.lst xs)):jk K H a xs:=.inl (.inl h)
theorem rM.of{K:cZ}(h:H a=some (.tup xs)):rM K H a xs:=.inl (.inl h)
theorem Inv.list(I:Inv X pins σ H s)(h:jk X.K H a xs):∃ its:List Value,Vals xs its/\PlainL s.heap a its.toArray/\xs.length<=sizeLine:=by
 rcases h with h | ⟨o,its,n,hk,hc,hd,hs,hz,r⟩
 ·obtain⟨z,its,n,r,e⟩:=h.ok I.hok;exact⟨its,r,⟨_,n,e,rfl,rfl,rfl⟩,z⟩
 ·refine⟨its.toList,r,⟨o,n,I.oA a o hk,hc,hd,by simpa using hs⟩,?_⟩;have e:=r.length;simp only[Array.length_toList]at e;lia
theorem Inv.tuple(I:Inv X pins σ H s)(h:rM X.K H a xs):∃ its:List Value,Vals xs its/\IsTup s.heap a its.toArray/\xs.length<=sizeLine:=by
 rcases h with h | ⟨o,its,n,hk,hc,hs,hz,r⟩
 ·obtain⟨z,its,r,p⟩:=h.ok I.hok;exact⟨its,r,p,z⟩
 ·refine⟨its.toList,r,⟨o,I.oA a o hk,hc,n,by simpa using hs⟩,?_⟩;have e:=r.length;simp only[Array.length_toList]at e;lia
theorem Inv.Kd(I:Inv X pins σ H s)(h:jk X.K H a xs)(h':jk X.K H a ys):xs=ys:=by
 obtain⟨its,r,⟨o,n,e,_,_,d⟩,_⟩:=I.list h;obtain⟨its',r',⟨o',n',e',_,_,d'⟩,_⟩:=I.list h';rw[e]at e';cases e';rw[d]at d';injection d' with d1 _
 have:its=its':=by simpa using congrArg Array.toList d1
 subst this;exact r.inj r'
theorem Inv.Qv(I:Inv X pins σ H s)(h:rM X.K H a xs)(h':rM X.K H a ys):xs=ys:=by
 obtain⟨its,r,⟨o,e,_,n,d⟩,_⟩:=I.tuple h;obtain⟨its',r',⟨o',e',_,n',d'⟩,_⟩:=I.tuple h';rw[e]at e';cases e';rw[d]at d';injection d' with d1 _
 have:its=its':=by simpa using congrArg Array.toList d1
 subst this;exact r.inj r'
end
noncomputable abbrev Cx.wish(X:Cx)(E:Value->Shared->Prop):Cx:={ X with xe:=E }
noncomputable abbrev Cx.TX(X:Cx):Cx:=X.wish fun _ _=>False
theorem Cx.Ok.wish{X:Cx}(ok:X.Ok)(E:Value->Shared->Prop):(X.wish E).Ok:=
 ⟨ok.mod,ok.kind,ok.glob,ok.blt,ok.above,ok.inj,ok.has,ok.cab,ok.hd,ok.frames,ok.ZP,ok.exf,ok.bs,ok.Td,ok.Nm,ok.SJ,ok.uG,ok.Vb⟩
theorem Cx.Ok.iV{X:Cx}{E:Value->Shared->Prop}(ok:(X.wish E).Ok):X.Ok:=
 ⟨ok.mod,ok.kind,ok.glob,ok.blt,ok.above,ok.inj,ok.has,ok.cab,ok.hd,ok.frames,ok.ZP,ok.exf,ok.bs,ok.Td,ok.Nm,ok.SJ,ok.uG,ok.Vb⟩
section
variable{X:Cx}{pins:List (Addr×Obj)}{σ:St}{H:Hp}{s:Shared}{E:Value->Shared->Prop}
theorem Inv.wish(I:Inv X pins σ H s)(E:Value->Shared->Prop):Inv (X.wish E) pins σ H s:=⟨I.ok.wish E,I.os,I.bare,I.base,I.loc,I.cell,I.free,I.nM,I.pin,I.hok,I.len⟩
theorem Inv.iV(I:Inv (X.wish E) pins σ H s):Inv X pins σ H s:=⟨I.ok.iV,I.os,I.bare,I.base,I.loc,I.cell,I.free,I.nM,I.pin,I.hok,I.len⟩
theorem SP.iV{D:Ends}{f:Flow}{s':Shared}(h:SP (X.wish E) pins D f s'):SP X pins D f s':=by
 cases f with
 | next=>obtain⟨σ',H',I,q⟩:=h;exact⟨σ',H',I.iV,q⟩
 | brk=>obtain⟨σ',H',I,q⟩:=h;exact⟨σ',H',I.iV,q⟩
 | cont=>obtain⟨σ',H',I,q⟩:=h;exact⟨σ',H',I.iV,q⟩
 | ret u=>obtain⟨v,σ',H',I,r,q⟩:=h;exact⟨v,σ',H',I.iV,r,q⟩
theorem JV.TX{st:List Stmt}{t:TS}(h:JV X.TX st t):JV X st t:=fun pins s σ H D I hw=>
 wpAny_mono (h pins s σ H D (I.wish _) hw) (fun _ _ q=>q.iV) fun _ _ z=>False.elim z
end
section
variable{X:Cx}{st:Stmt}{rest:List Stmt}{t u:TS}{e:Expr}{te:TE}{pos:Pos}
noncomputable def ZG:TS:=fun D σ H=>D.nx σ H
noncomputable def qAA(t u:TS):TS:=fun D σ H=>t { D with nx:=u D } σ H
theorem zT:JV X [] ZG:=fun _ _ σ H _ I h=>wpAny_execs_nil ⟨σ,H,I,h⟩
theorem zE(h1:PS X st t)(h2:JV X rest u):JV X (st::rest) (qAA t u):=by
 intro pins s σ H D I h;refine wpAny_execs_cons (gO (h1 pins s σ H { D with nx:=u D } I h) fun f s1 q=>?_)
 cases f with
 | next=>
  obtain⟨σ',H',I',q⟩:=q;exact h2 pins s1 σ' H' D I' q
 | ret v=>exact q
 | brk=>exact q
 | cont=>exact q
theorem zF(h1:PS X st t):JV X [st] t:=by
 intro pins s σ H D I h;refine wpAny_execs_cons (gO (h1 pins s σ H D I h) fun f s1 q=>?_)
 cases f with
 | next=>exact wpAny_execs_nil q
 | ret v=>exact q
 | brk=>exact q
 | cont=>exact q
theorem Inv.quiet{pins:List (Addr×Obj)}{σ:St}{H:Hp}{s:Shared}(I:Inv X pins σ H s):interactive X.env=false:=by simp [interactive,I.ok.kind]
noncomputable def Pg(te:TE):TS:=fun D σ H=>te σ H fun _ H1=>D.nx σ H1
theorem yF(he:PE X e te)(hs:swapsWith e none pos.line X.env=pure false:=by rfl):PS X (.Expr e pos) (Pg te):=by
 intro pins s σ H D I h;exact wpAny_Expr_any (gO (he pins s σ H _ I h) fun v s1 ⟨x,H1,I1,r1,q1⟩=>⟨σ,H1,I1,q1⟩) I.quiet hs
noncomputable def qAB(te:TE):TS:=fun D σ H=>te σ H D.rt
theorem zO(he:PE X e te):PS X (.Return (some e) pos) (qAB te):=by
 intro pins s σ H D I h;exact wpAny_Return_some (gO (he pins s σ H _ I h) fun v s1 ⟨x,H1,I1,r1,q1⟩=>⟨x,σ,H1,I1,r1,q1⟩)
noncomputable def qAD(c:TT)(t u:TS):TS:=fun D σ H=>c σ H fun b H1=>if b=true then t D σ H1 else u D σ H1
theorem yB{c:Expr}{a b:List Stmt}{tc:TT}(hc:PT X c tc)(ha:JV X a t)(hb:JV X b u):PS X (.If c a b pos) (qAD tc t u):=by
 intro pins s σ H D I h;refine wpAny_If (gO (hc pins s σ H _ I h) fun d s1 ⟨H1,I1,q1⟩=>?_)
 cases d with
 | true=>exact ha pins s1 σ H1 D I1 q1
 | false=>exact hb pins s1 σ H1 D I1 q1
noncomputable def Tt:TS:=fun _ _ _=>False
theorem Bx:PS X st Tt:=fun _ _ _ _ _ _ h=>h.elim
end
noncomputable abbrev TG:=V->St->Hp->(St->Hp->Prop)->Prop
noncomputable abbrev Zt:=List V->St->Hp->(St->Hp->Prop)->Prop
noncomputable def PG(X:Cx)(target:Expr)(t:TG):Prop:=
 ∀(pins:List (Addr×Obj))(s:Shared)(σ:St)(H:Hp)(v:V)(u:Value)(Q:St->Hp->Prop),Inv X pins σ H s->RelV v u->t v σ H Q →
  wpAny (model X.prog X.w) X.A (assign target X.env u) (fun _ s'=>∃ σ' H',Inv X pins σ' H' s'/\Q σ' H') X.xe s
noncomputable def PGs(X:Cx)(ts:List Expr)(t:Zt):Prop:=
 ∀(pins:List (Addr×Obj))(s:Shared)(σ:St)(H:Hp)(vs:List V)(us:List Value)(Q:St->Hp->Prop),Inv X pins σ H s->Vals vs us->t vs σ H Q →
  wpAny (model X.prog X.w) X.A (assignInOrder ((assignEach ts X.env).map (·.2)) us) (fun _ s'=>∃ σ' H',Inv X pins σ' H' s'/\Q σ' H') X.xe s
section
variable{X:Cx}{pos:Pos}
noncomputable def zu(i:Nat):TG:=fun v σ H Q=>Q (σ.set i (some v)) H
theorem yG{i:Nat}{x:Str}(hN:X.N.Nodup)(hi:X.N[i]? = some x)(hx:Loc X.env.scope x)(hf:X.fn x=true∨X.env.scope.names.lookup x=some .local:=by first | exact .inl rfl | exact .inr rfl | assumption):PG X (.Name x pos) (zu i):=by
 intro pins s σ H v u Q I r h;exact wpAny_assign_Name (pL I hN hi hx r (fun s' I'=>⟨_,H,I',h⟩) hf)
noncomputable def qDV:Zt:=fun vs σ H Q=>vs=[]/\Q σ H
noncomputable def Zh(t:TG)(u:Zt):Zt:=fun vs σ H Q => ∃ v r,vs=v::r/\t v σ H fun σ' H'=>u r σ' H' Q
theorem Q8:PGs X [] qDV:=by
 intro pins s σ H vs us Q I r h;obtain⟨e,h⟩:=h;subst e
 cases r
 exact assignInOrder_nil ⟨σ,H,I,h⟩
theorem vf{e:Expr}{es:List Expr}{t:TG}{u:Zt}(h1:PG X e t)(h2:PGs X es u)
  (hs:(assignEach (e::es) X.env).map (·.2)=assign e X.env::(assignEach es X.env).map (·.2):=by rfl):PGs X (e::es) (Zh t u):=by
 intro pins s σ H vs us Q I r h;obtain⟨v,vr,e1,h⟩:=h;subst e1
 cases r with
 | cons r rr=>
  rw[hs];refine assignInOrder_cons (gO (h1 pins s σ H _ _ _ I r h) fun _ s1 ⟨σ1,H1,I1,q1⟩=>?_);exact h2 pins s1 σ1 H1 _ _ Q I1 rr q1
noncomputable def qDU(K:cZ)(n:Nat)(t:Zt):TG:=fun v σ H Q => ∃ a xs,v = .ref a/\rM K H a xs/\xs.length=n/\t xs σ H Q
theorem Um{es:List Expr}{k:Nat}{t:Zt}{n:Nat}(hc:X.calm=true)(h:PGs X es t)
  (hn:(assignEach es X.env).length=n:=by rfl) (hst:(assignEach es X.env).findIdx? (·.1)=none:=by rfl):PG X (.Tuple es k pos) (qDU X.K n t):=by
 intro pins s σ H v u Q I r hw;obtain⟨a,xs,e1,hq,hl,hw⟩:=hw;subst e1
 cases r
 obtain⟨its,rv,ht,hz⟩:=I.tuple hq;refine assign_Tuple_tuple (I.ok.hd hc) ht (by simp [hn,<-hl,rv.length]) hst fun h' hx=>?_;have I1:Inv X pins σ H { s with heap:=h' }:=I.kept (t':=s.toks) fun b o e=>hx b o (tD (lZ e)) e;exact h pins _ σ H xs _ Q I1 (by simpa using rv) hw
noncomputable def Tz(te:TE)(g:TG):TS:=fun D σ H=>te σ H fun x H1=>g x σ H1 D.nx
theorem zJ{i:Nat}{x:Str}{e:Expr}{te:TE}{pos':Pos}(hN:X.N.Nodup)(hi:X.N[i]? = some x)(hx:Loc X.env.scope x)(he:PE X e te)(hs:swapsWith e (some (.Name x pos')) pos.line X.env=pure false:=by rfl)(hf:X.fn x=true∨X.env.scope.names.lookup x=some .local:=by first | exact .inl rfl | exact .inr rfl | assumption) :
  PS X (.Assign [.Name x pos'] e pos) (Tz te (zu i)):=by
 intro pins s σ H D I h;refine wpAny_Assign_Name (gO (he pins s σ H _ I h) fun v s1 ⟨y,H1,I1,r1,q1⟩=>?_) hs;exact pL I1 hN hi hx r1 (fun s2 I2=>⟨_,H1,I2,q1⟩) hf
end
structure It where
 go:Nat->Hp->Prop
 Z8:Nat->Hp->V->Hp->Prop
 stop:Nat->Hp->Prop
noncomputable def qz(X:Cx)(pins:List (Addr×Obj))(H:Hp)(b:Addr):Prop:=
 H b=none/\b≠X.env.locals/\b∉X.fs/\(b∈X.ex∨X.s₀.heap.objs.size<=b)/\(∀ x c,X.env.cells.lookup x=some c->c≠b)/\∀ p∈X.pn++pins,p.1≠b
theorem Inv.Iv{X:Cx}{pins:List (Addr×Obj)}{σ:St}{H H':Hp}{s:Shared}{b:Addr}(I:Inv X pins σ H s)(hb:s.heap.objs.size<=b)(hn:H' b=none):qz X pins H' b:=by
 refine⟨hn,Nat.ne_of_gt (Jj I.lt hb),I.qFN hb,.inr (Nat.le_trans I.sz hb),fun x c e z=>?_,fun p hp z=>?_⟩
 ·obtain⟨v,q⟩:=I.cell x c e;exact absurd (Jj q.lt (by rw[z];exact hb)) (Nat.lt_irrefl _)
 ·exact absurd (Jj (lZ (I.pin p hp).1) (by rw[z];exact hb)) (Nat.lt_irrefl _)
structure Turn(P:Program)(w:World)(K:cZ)(tg:Expr)(J:It)(fp:List Addr)(it:Addr)(tn:Nat->Heap->Prop):Prop where
 mem:it∈fp
 obj:∀ i h,tn i h->∀ b∈fp,∃ o,h.get? b=some o/\∀ v,o.data≠.cell v
 keep:∀ i h h',tn i h->(∀ b∈fp,∀ o,h.get? b=some o->h'.get? b=some o)->tn i h'
 item:∀(X:Cx),X.prog=P->X.w=w->X.K=K->X.calm=true->∀(i:Nat)(pins:List (Addr×Obj))(s:Shared)(σ:St)(H:Hp)(E:Value->Shared->Prop),Inv X pins σ H s->(∀ b∈fp,qz X pins H b)->tn i s.heap->J.go i H →
  wpAny (model P w) X.A (pyNext (.ref it)) (fun r s1 => ∃ u,r=some u ∧
   wpAny (model P w) X.A (letOwnedTupleGo tg (.ref it) u) (fun _ s2 => ∃ x H',Inv X pins σ H' s2/\RelV x u/\J.Z8 i H x H'/\tn (i+1) s2.heap/\∀ b∈fp,H' b=none) E s1) E s
 done:∀(X:Cx),X.prog=P->X.w=w->X.K=K->X.calm=true->∀(i:Nat)(pins:List (Addr×Obj))(s:Shared)(σ:St)(H:Hp)(E:Value->Shared->Prop),Inv X pins σ H s->(∀ b∈fp,qz X pins H b)->tn i s.heap->J.stop i H →
  wpAny (model P w) X.A (pyNext (.ref it)) (fun r s1=>r=none/\Inv X pins σ H s1) E s
 self:∀(A:Around)(i:Nat)(s:Shared)(Q:Value->Shared->Prop)(E:Value->Shared->Prop),tn i s.heap->Q (.ref it) s->wpAny (model P w) A (pyIter (.ref it)) Q E s
noncomputable abbrev TI:=St->Hp->(It->Hp->Prop)->Prop
noncomputable def PIE(X:Cx)(pins:List (Addr×Obj))(σ:St)(tg:Expr)(R:It->Hp->Prop)(itv:Value)(s2:Shared):Prop:=
 ∃(it:Addr)(fp:List Addr)(tn:Nat->Heap->Prop)(J:It)(H':Hp),itv = .ref it/\Inv X pins σ H' s2/\Turn X.prog X.w X.K tg J fp it tn/\tn 0 s2.heap/\(∀ b∈fp,qz X pins H' b)/\R J H'
noncomputable def PI(X:Cx)(tg iter:Expr)(wi:TI):Prop:=
 ∀(pins:List (Addr×Obj))(s:Shared)(σ:St)(H:Hp)(R:It->Hp->Prop),Inv X pins σ H s->wi σ H R →
  wpAny (model X.prog X.w) X.A (eval iter X.env) (fun v s1=>wpAny (model X.prog X.w) X.A (pyIter v) (PIE X pins σ tg R) X.xe s1) X.xe s
theorem Km{M:Model}{A:Around}{E:Value->Shared->Prop}{s:Shared}{tg:Expr}{it:Addr}{u:Value}{o:Obj}{n:String}{vs:Array Value}{Q:Unit->Shared->Prop}(ho:s.heap.get? it=some o)(hc:o.cls = .type n)(hd:o.data = .fields vs)
  (hn:["enumerate","zip","dict_itemiterator","dict_reverseitemiterator","odict_iterator","itertools.zip_longest","itertools.pairwise"].contains n=false) (hQ:Q () s):wpAny M A (letOwnedTupleGo tg (.ref it) u) Q E s:=by
 unfold letOwnedTupleGo
 cases tg <;> first
  | exact wpAny_pure hQ
  | (cases u <;> first
    | exact wpAny_pure hQ
    | (refine wpAny_bind (wpAny_load ho ?_)
       rw[hc,hd];show wpAny M A (if (["enumerate","zip","dict_itemiterator","dict_reverseitemiterator","odict_iterator","itertools.zip_longest","itertools.pairwise"].contains n&&vs[0]?==some (rawInt _))=true then _ else _) Q E s;rw[if_neg (by intro h;rw[hn,Bool.false_and]at h;cases h)]
       exact wpAny_pure hQ))
noncomputable def Itl(K:cZ)(a:Addr):It:=
 ⟨fun i H => ∃ xs x,jk K H a xs/\xs[i]? = some x,fun i H x H'=>H'=H/\∀ xs,jk K H a xs->xs[i]? = some x,fun i H => ∃ xs,jk K H a xs/\xs.length<=i⟩
noncomputable def Itt(K:cZ)(a:Addr):It:=
 ⟨fun i H => ∃ xs x,rM K H a xs/\xs[i]? = some x,fun i H x H'=>H'=H/\∀ xs,rM K H a xs->xs[i]? = some x,fun i H => ∃ xs,rM K H a xs/\xs.length<=i⟩
noncomputable def Zx(lo:Int)(n:Nat):It:=⟨fun i _=>i<n,fun i H x H'=>H'=H/\x = .int (lo+i),fun i _=>n<=i⟩
theorem Qu{P:Program}{w:World}{K:cZ}{tg:Expr}(a it:Addr):Turn P w K tg (Itl K a) [it] it (fun i h=>h.IsListIter it a i) where
 mem:=by simp
 obj:=fun i h st b hb=>by
  have e:b=it:=by simpa using hb
  subst e;obtain⟨o,e,c,d⟩:=st;exact⟨o,e,fun v z=>by rw[d]at z;cases z⟩
 keep:=fun i h h' st k=>st.at fun o e=>k it (by simp) o e
 item:=by
  intro X hP hw hK hc i pins s σ H E I hf st hg;subst hP hw hK;obtain⟨xs,x,hq,hx⟩:=hg;obtain⟨its,rv,p,hz⟩:=I.list hq;obtain⟨u,hu,ru⟩:=rv.get hx;obtain⟨f0,f1,f2,f3,f4,f5⟩:=hf it (by simp);refine wpAny_pyNext_list_item st p.isList (x:=u) (by simpa using hu) fun h' st' sb=>?_;have I1:Inv X pins σ H { s with heap:=h' }:=I.turned (t':=s.toks) (fun b o hb e=>(sb.2 b hb).trans e) f0 f1 f3 f4 f5;obtain⟨o,e,c,d⟩:=id st';exact⟨u,rfl,Km (s:={ s with heap:=h' }) e c d (by decide) ⟨x,H,I1,ru,⟨rfl,fun ys hy=>by rw[I.Kd hy hq];exact hx⟩,st',fun b hb=>(hf b hb).1⟩⟩
 done:=by
  intro X hP hw hK hc i pins s σ H E I hf st hg;subst hP hw hK;obtain⟨xs,hq,hx⟩:=hg;obtain⟨its,rv,p,hz⟩:=I.list hq;obtain⟨f0,f1,f2,f3,f4,f5⟩:=hf it (by simp);have hl:=rv.length;exact wpAny_pyNext_list_end (I.ok.hd hc) st p.isList (by simp;lia) fun h' eb=>⟨rfl,I.turned (t':=s.toks) (fun b o hb e=>eb b o hb e) f0 f1 f3 f4 f5⟩
 self:=fun _ _ _ _ _ st h=>wpAny_pyIter_listiter st h
theorem Mg{P:Program}{w:World}{K:cZ}{tg:Expr}(a it:Addr):Turn P w K tg (Itt K a) [it] it (fun i h=>h.IsTupleIter it a i) where
 mem:=by simp
 obj:=fun i h st b hb=>by
  have e:b=it:=by simpa using hb
  subst e;obtain⟨o,e,c,d⟩:=st;exact⟨o,e,fun v z=>by rw[d]at z;cases z⟩
 keep:=fun i h h' st k=>st.at fun o e=>k it (by simp) o e
 item:=by
  intro X hP hw hK hc i pins s σ H E I hf st hg;subst hP hw hK;obtain⟨xs,x,hq,hx⟩:=hg;obtain⟨its,rv,p,hz⟩:=I.tuple hq;obtain⟨u,hu,ru⟩:=rv.get hx;obtain⟨f0,f1,f2,f3,f4,f5⟩:=hf it (by simp);refine wpAny_pyNext_tuple_item st (show s.heap.IsTuple a its.toArray from p) (x:=u) (by simpa using hu) fun h' st' sb=>?_;have I1:Inv X pins σ H { s with heap:=h' }:=I.turned (t':=s.toks) (fun b o hb e=>(sb.2 b hb).trans e) f0 f1 f3 f4 f5;obtain⟨o,e,c,d⟩:=id st';exact⟨u,rfl,Km (s:={ s with heap:=h' }) e c d (by decide) ⟨x,H,I1,ru,⟨rfl,fun ys hy=>by rw[I.Qv hy hq];exact hx⟩,st',fun b hb=>(hf b hb).1⟩⟩
 done:=by
  intro X hP hw hK hc i pins s σ H E I hf st hg;subst hP hw hK;obtain⟨xs,hq,hx⟩:=hg;obtain⟨its,rv,p,hz⟩:=I.tuple hq;obtain⟨f0,f1,f2,f3,f4,f5⟩:=hf it (by simp);have hl:=rv.length;exact wpAny_pyNext_tuple_end (I.ok.hd hc) st (show s.heap.IsTuple a its.toArray from p) (by simp;lia) fun h' eb=>⟨rfl,I.turned (t':=s.toks) (fun b o hb e=>eb b o hb e) f0 f1 f3 f4 f5⟩
 self:=fun _ _ _ _ _ st h=>wpAny_pyIter_tupleiter st h
theorem Mh{P:Program}{w:World}{K:cZ}{tg:Expr}(it:Addr)(lo:Int)(n:Nat):Turn P w K tg (Zx lo n) [it] it (fun i h=>IsRangeIter h it (lo+(i:Nat)*1) ((n:Int)-(i:Nat)) 1) where
 mem:=by simp
 obj:=fun i h st b hb=>by
  have e:b=it:=by simpa using hb
  subst e
  exact⟨_,st,fun v z=>by
   have z':Data.fields _=Data.cell v:=z
   cases z'⟩
 keep:=fun i h h' st k=>k it (by simp) _ st
 item:=by
  intro X hP hw hK hc i pins s σ H E I hf st hg;subst hP hw hK;obtain⟨f0,f1,f2,f3,f4,f5⟩:=hf it (by simp);have W:=Walks.range (prog:=X.prog) (w:=X.w) (I.ok.hd hc) it lo 1 n;refine W.item i s _ _ hg st fun v h' tk hv st' kk=>?_;obtain⟨t,rfl⟩:=hv;have I1:Inv X pins σ H { s with heap:=h',toks:=tk }:=I.turned (fun b o hb e=>kk b o (by simpa using hb) e) f0 f1 f3 f4 f5;refine⟨_,rfl,Km (s:={ s with heap:=h',toks:=tk }) (n := "range_iterator") st' rfl rfl (by decide) ⟨.int (lo+i),H,I1,⟨t,?_⟩,⟨rfl,rfl⟩,st',fun b hb=>(hf b hb).1⟩⟩;rw[Int.mul_one]
 done:=by
  intro X hP hw hK hc i pins s σ H E I hf st hg;subst hP hw hK;obtain⟨f0,f1,f2,f3,f4,f5⟩:=hf it (by simp);exact wpAny_pyNext_range_end (I.ok.hd hc) st (by have:n<=i:=hg;lia) fun h' eb=>⟨rfl,I.turned (t':=s.toks) (fun b o hb e=>eb b o hb e) f0 f1 f3 f4 f5⟩
 self:=fun _ _ _ _ _ st h=>wpAny_pyIter_rangeiter st h
section
variable{X:Cx}{tg:Expr}
noncomputable def Zg(K:cZ)(tl:TE):TI:=fun σ H R=>tl σ H fun x H1 => ∃ a,x = .ref a/\(∃ xs,jk K H1 a xs)/\R (Itl K a) H1
noncomputable def qDI(K:cZ)(tl:TE):TI:=fun σ H R=>tl σ H fun x H1 => ∃ a,x = .ref a/\(∃ xs,rM K H1 a xs)/\R (Itt K a) H1
theorem yJ{l:Expr}{tl:TE}(hl:PE X l tl):PI X tg l (Zg X.K tl):=by
 intro pins s σ H R I h;refine gO (hl pins s σ H _ I h) fun v s1 ⟨x,H1,I1,r1,q1⟩=>?_;obtain⟨a,e,⟨xs,hq⟩,q⟩:=q1;subst e
 cases r1
 obtain⟨its,rv,p,hz⟩:=I1.list hq;refine wpAny_pyIter_list p.isList ?_;refine⟨s1.heap.objs.size,[s1.heap.objs.size],_,_,H1,rfl,I1.kept (t':=s1.toks) fun b o e=>mV _ e,Qu a _,⟨_,wj _ rfl,rfl,rfl⟩,fun b hb=>?_,q⟩
 have e:b=s1.heap.objs.size:=by simpa using hb
 subst e;exact I1.Iv (jj _) (I1.hok.fresh (jj _))
theorem qAQ{l:Expr}{tl:TE}(hl:PE X l tl):PI X tg l (qDI X.K tl):=by
 intro pins s σ H R I h;refine gO (hl pins s σ H _ I h) fun v s1 ⟨x,H1,I1,r1,q1⟩=>?_;obtain⟨a,e,⟨xs,hq⟩,q⟩:=q1;subst e
 cases r1
 obtain⟨its,rv,p,hz⟩:=I1.tuple hq;refine wpAny_pyIter_tuple (show s1.heap.IsTuple a its.toArray from p) ?_;refine⟨s1.heap.objs.size,[s1.heap.objs.size],_,_,H1,rfl,I1.kept (t':=s1.toks) fun b o e=>mV _ e,Mg a _,⟨_,wj _ rfl,rfl,rfl⟩,fun b hb=>?_,q⟩
 have e:b=s1.heap.objs.size:=by simpa using hb
 subst e;exact I1.Iv (jj _) (I1.hok.fresh (jj _))
theorem Ub{pins:List (Addr×Obj)}{σ:St}{H:Hp}{s:Shared}{R:It->Hp->Prop}{E:Value->Shared->Prop}{lo hi:Int}{t u v:Tok}{tk:Nat}(I:Inv X pins σ H s)(h1 : -(2 ^ 62)<=lo)(h2:lo<2 ^ 62)(h3 : -(2 ^ 62)<=hi)(h4:hi<2 ^ 62)
  (q:R (Zx lo (hi-lo).toNat) H):wpAny (model X.prog X.w) X.A (pyIter (.ref s.heap.objs.size)) (PIE X pins σ tg R) E { s with heap:=s.heap.push { cls:=.type "range",data:=.fields #[.int lo t,.int hi u,.int 1 v] },toks:=tk }:=by
 refine wpAny_pyIter_range (IsRange.new ..) (small_one h1 h2 h3 h4) ?_;have I1:Inv X pins σ H { s with heap:=s.heap.push { cls:=.type "range",data:=.fields #[.int lo t,.int hi u,.int 1 v] },toks:=tk }:=I.kept fun b o e=>mV _ e
 refine⟨(s.heap.push { cls:=.type "range",data:=.fields #[.int lo t,.int hi u,.int 1 v] }).objs.size,[(s.heap.push { cls:=.type "range",data:=.fields #[.int lo t,.int hi u,.int 1 v] }).objs.size],_,_,H,rfl,
  I1.kept (t':=tk) fun b o e=>mV _ e,Mh _ lo (hi-lo).toNat,?_,fun b hb=>?_,q⟩
 ·have e1:lo+((0:Nat):Int)*1=lo:=by simp
  have e2:(((hi-lo).toNat:Nat):Int)-((0:Nat):Int)=Builtin.Range.rangeSize lo hi 1:=by rw[rangeSize_one];split <;> lia
  show IsRangeIter _ _ (lo+((0:Nat):Int)*1) ((((hi-lo).toNat:Nat):Int)-((0:Nat):Int)) 1;rw[e1,e2];exact wj _ rfl
 ·have e:b=(s.heap.push { cls:=.type "range",data:=.fields #[.int lo t,.int hi u,.int 1 v] }).objs.size:=by simpa using hb
  subst e;exact I1.Iv (jj _) (I1.hok.fresh (jj _))
noncomputable def Zf(ta:TA):TI:=fun σ H R=>ta σ H fun vs H1 => ∃ j:Int,vs=[.int j] /\ -(2 ^ 62)<=j/\j<2 ^ 62/\R (Zx 0 j.toNat) H1
theorem mW{a:Expr}{ta:TA}{p pos:Pos}(hg:Gl X "range")(hm:X.mg "range" = none)(ha:PA X [a] ta)(hs:starEach [a] X.env=[(false,eval a X.env)]:=by rfl):PI X tg (.Call (.Name "range" p) [a] [] pos) (Zf ta):=by
 intro pins s σ H R I h;refine Call_ (sH I hg hm boot_range (PyProof.Rows.callWith_type1 (gO (ha pos pins s σ H _ I h) fun us s1 ⟨vs,H1,I1,r1,q1⟩=>?_) hs rfl));obtain⟨j,e,q1,q2,q⟩:=q1;subst e
 cases r1 with
 | cons r rr=>
  cases rr
  obtain⟨t,rfl⟩:=r;exact call_range_1 (Ub I1 (by lia) (by lia) q1 q2 (by simpa using q))
noncomputable def qCI(wi:TI)(g:TG)(tb:TS):TS:=fun D σ H=>wi σ H fun J H1 => ∃ W:Nat->Nat->St->Hp->Prop,(∃ m,W 0 m σ H1)/\∀ i m σ H,W i m σ H →
 (J.stop i H/\D.nx σ H)∨(J.go i H/\∃ N:St->Hp->Prop,(∀ σ' H',N σ' H'->∃ m',m'<m/\W (i+1) m' σ' H')/\∀ x H',J.Z8 i H x H'->g x σ H' fun σ2 H2=>tb { D with nx:=N,ct:=N,bk:=D.nx } σ2 H2)
noncomputable def xQ(fp:List Addr)(h:Heap):List (Addr×Obj):=fp.filterMap fun b=>(h.get? b).map fun o=>(b,o)
theorem qX{fp:List Addr}{h:Heap}{b:Addr}{o:Obj}(hb:b∈fp)(e:h.get? b=some o):(b,o)∈xQ fp h:=List.mem_filterMap.mpr ⟨b,hb,by rw[e];rfl⟩
theorem RJ{fp:List Addr}{h:Heap}{p:Addr×Obj}(hp:p∈xQ fp h):p.1∈fp/\h.get? p.1=some p.2:=by
 obtain⟨b,hb,e⟩:=List.mem_filterMap.mp hp
 cases q:h.get? b with
 | none=>rw[q]at e;cases e
 | some o=>
  rw[q]at e;have e':(b,o)=p:=MN e;subst e';exact⟨hb,q⟩
theorem Inv.pinned{pins:List (Addr×Obj)}{σ:St}{H:Hp}{s:Shared}{fp:List Addr}(I:Inv X pins σ H s)(hf:∀ b∈fp,qz X pins H b)(ho:∀ b∈fp,∃ o,s.heap.get? b=some o/\∀ v,o.data≠.cell v):Inv X (pins++xQ fp s.heap) σ H s:=
 I.vZ fun p hp=>(wz.mp hp).elim (fun z=>I.pin p (List.mem_append_right _ z)) fun z=>by
  obtain⟨hb,e⟩:=RJ z;obtain⟨f0,f1,f2,_⟩:=hf p.1 hb;obtain⟨o,e',d⟩:=ho p.1 hb;rw[e]at e';cases e';exact⟨e,f0,f1,f2,d⟩
theorem Inv.Bb{pins pl:List (Addr×Obj)}{σ:St}{H:Hp}{s:Shared}(I:Inv X (pins++pl) σ H s):Inv X pins σ H s:=I.vZ fun p hp=>I.pin p (List.mem_append_right _ (List.mem_append_left _ hp))
theorem uT{iter:Expr}{body:List Stmt}{wi:TI}{g:TG}{tb:TS}{pos:Pos}(hp:PassesOwn (model X.prog X.w) X.A X.env X.xe)(hc:X.calm=true)(hi:PI X tg iter wi)(hg:PG X tg g)(hb:JV X body tb)
  (hs:∀ x,foldedSetIterable iter X.env x=pure x:=by intro _;rfl):PS X (.For tg iter body [] pos) (qCI wi g tb):=by
 intro pins s σ H D I h;refine wpAny_For (gO (hi pins s σ H _ I h) fun v s1 h1=>gO h1 fun itv s2 h2=>?_) hs;obtain⟨it,fp,tn,J,H2,e,I2,T,st2,f2,W,⟨m0,w0⟩,turn⟩:=h2;subst e;have stat:∀ {H':Hp},(∀ b∈fp,H' b=none)->∀ b∈fp,qz X pins H' b:=fun hn b hb=>⟨hn b hb,(f2 b hb).2⟩;refine codeAny_forLoop_any (fun n s'=>∃ i σ' H',Inv X pins σ' H' s'/\tn i s'.heap/\(∀ b∈fp,H' b=none)/\W i n σ' H') ?_ m0 ⟨0,σ,H2,I2,st2,fun b hb=>(f2 b hb).1,w0⟩;rintro n s3 ⟨i,σ3,H3,I3,st3,fr3,w3⟩;rcases turn i n σ3 H3 w3 with ⟨stop,qn⟩ | ⟨go,N,hN,step⟩
 ·refine wpAny_passesOwn hp (gO (T.done X rfl rfl rfl hc i pins s3 σ3 H3 X.xe I3 (stat fr3) st3 stop) fun r s4 ⟨hr,I4⟩=>?_);subst hr;exact wpAny_execs_nil ⟨σ3,H3,I4,qn⟩
 ·refine wpAny_passesOwn hp (gO (T.item X rfl rfl rfl hc i pins s3 σ3 H3 X.xe I3 (stat fr3) st3 go) fun r s4 ⟨u,hr,h4⟩=>?_);subst hr;refine wpAny_passesOwn hp (gO h4 fun _ s5 ⟨x,H5,I5,r5,y5,st5,fr5⟩=>?_);have I5':=I5.pinned (stat fr5) (T.obj _ _ st5);refine wpAny_passesOwn hp (gO (hg _ s5 σ3 H5 x u _ I5' r5 (step x H5 y5)) fun _ s6 ⟨σ6,H6,I6,q6⟩=>?_);refine wpAny_passesOwn hp (gO (hb _ s6 σ6 H6 _ I6 q6) fun f s7 q7=>?_)
  have again:∀ {σ7:St} {H7:Hp},Inv X (pins++xQ fp s5.heap) σ7 H7 s7->N σ7 H7->∃ m,m<n/\∃ i σ' H',Inv X pins σ' H' s7/\tn i s7.heap/\(∀ b∈fp,H' b=none)/\W i m σ' H':=fun {σ7 H7} I7 n7=>by
   obtain⟨m',hm,w7⟩:=hN σ7 H7 n7;refine⟨m',hm,i+1,σ7,H7,I7.Bb,T.keep _ _ _ st5 fun b hb o e=>(I7.pin (b,o) (List.mem_append_right _ (List.mem_append_right _ (qX hb e)))).1,fun b hb=>?_,w7⟩;obtain⟨o,e,d⟩:=T.obj _ _ st5 b hb;exact (I7.pin (b,o) (List.mem_append_right _ (List.mem_append_right _ (qX hb e)))).2.1
  cases f with
  | next=>obtain⟨σ7,H7,I7,n7⟩:=q7;exact again I7 n7
  | cont=>obtain⟨σ7,H7,I7,n7⟩:=q7;exact again I7 n7
  | brk=>obtain⟨σ7,H7,I7,q7⟩:=q7;exact⟨σ7,H7,I7.Bb,q7⟩
  | ret v=>obtain⟨x7,σ7,H7,I7,r7,q7⟩:=q7;exact⟨x7,σ7,H7,I7.Bb,r7,q7⟩
end
theorem Vc{K:cZ}{a:Addr}{xs:List V}{g:TG}{tb:TS}{D:Ends}{σ:St}{H:Hp}(Pv:Nat->St->Hp->Prop)(h0:Pv 0 σ H)(hl:∀ i σ H,i<=xs.length->Pv i σ H->jk K H a xs)
  (hs:∀ i x σ H,xs[i]? = some x->Pv i σ H->g x σ H fun σ2 H2=>tb { D with nx:=Pv (i+1),ct:=Pv (i+1),bk:=D.nx } σ2 H2) (hd:∀ σ H,Pv xs.length σ H->D.nx σ H) :
  ∃ W:Nat->Nat->St->Hp->Prop,(∃ m,W 0 m σ H)/\∀ i m σ H,W i m σ H →
   ((Itl K a).stop i H/\D.nx σ H)∨((Itl K a).go i H/\∃ N:St->Hp->Prop,(∀ σ' H',N σ' H'->∃ m',m'<m/\W (i+1) m' σ' H')/\∀ x H',(Itl K a).Z8 i H x H'->g x σ H' fun σ2 H2=>tb { D with nx:=N,ct:=N,bk:=D.nx } σ2 H2):=by
 refine⟨fun i m σ H=>m=xs.length-i/\i<=xs.length/\Pv i σ H,⟨xs.length,by simp,Nat.zero_le _,h0⟩,?_⟩;rintro i m σ H ⟨rfl,hi,p⟩;have q:=hl i σ H hi p
 by_cases hlt:i<xs.length
 ·refine .inr ⟨⟨xs,xs[i],q,by simp [hlt]⟩,Pv (i+1),fun σ' H' p'=>⟨xs.length-(i+1),by lia,rfl,hlt,p'⟩,fun x H' y=>?_⟩;obtain⟨e,y⟩:=y;subst e;exact hs i x σ _ (y xs q) p
 ·have e:i=xs.length:=by lia
  subst e;exact .inl ⟨⟨xs,q,jj _⟩,hd σ H p⟩
theorem YJ{K:cZ}{a:Addr}{xs:List V}{g:TG}{tb:TS}{D:Ends}{σ:St}{H:Hp}(Pv:Nat->St->Hp->Prop)(h0:Pv 0 σ H)(hl:∀ i σ H,i<=xs.length->Pv i σ H->rM K H a xs)
  (hs:∀ i x σ H,xs[i]? = some x->Pv i σ H->g x σ H fun σ2 H2=>tb { D with nx:=Pv (i+1),ct:=Pv (i+1),bk:=D.nx } σ2 H2) (hd:∀ σ H,Pv xs.length σ H->D.nx σ H) :
  ∃ W:Nat->Nat->St->Hp->Prop,(∃ m,W 0 m σ H)/\∀ i m σ H,W i m σ H →
   ((Itt K a).stop i H/\D.nx σ H)∨((Itt K a).go i H/\∃ N:St->Hp->Prop,(∀ σ' H',N σ' H'->∃ m',m'<m/\W (i+1) m' σ' H')/\∀ x H',(Itt K a).Z8 i H x H'->g x σ H' fun σ2 H2=>tb { D with nx:=N,ct:=N,bk:=D.nx } σ2 H2):=by
 refine⟨fun i m σ H=>m=xs.length-i/\i<=xs.length/\Pv i σ H,⟨xs.length,by simp,Nat.zero_le _,h0⟩,?_⟩;rintro i m σ H ⟨rfl,hi,p⟩;have q:=hl i σ H hi p
 by_cases hlt:i<xs.length
 ·refine .inr ⟨⟨xs,xs[i],q,by simp [hlt]⟩,Pv (i+1),fun σ' H' p'=>⟨xs.length-(i+1),by lia,rfl,hlt,p'⟩,fun x H' y=>?_⟩;obtain⟨e,y⟩:=y;subst e;exact hs i x σ _ (y xs q) p
 ·have e:i=xs.length:=by lia
  subst e;exact .inl ⟨⟨xs,q,jj _⟩,hd σ H p⟩
theorem Ru{lo:Int}{n:Nat}{g:TG}{tb:TS}{D:Ends}{σ:St}{H:Hp}(Pv:Nat->St->Hp->Prop)(h0:Pv 0 σ H)
  (hs:∀ i σ H,i<n->Pv i σ H->g (.int (lo+i)) σ H fun σ2 H2=>tb { D with nx:=Pv (i+1),ct:=Pv (i+1),bk:=D.nx } σ2 H2) (hd:∀ σ H,Pv n σ H->D.nx σ H) :
  ∃ W:Nat->Nat->St->Hp->Prop,(∃ m,W 0 m σ H)/\∀ i m σ H,W i m σ H →
   ((Zx lo n).stop i H/\D.nx σ H)∨((Zx lo n).go i H/\∃ N:St->Hp->Prop,(∀ σ' H',N σ' H'->∃ m',m'<m/\W (i+1) m' σ' H')/\∀ x H',(Zx lo n).Z8 i H x H'->g x σ H' fun σ2 H2=>tb { D with nx:=N,ct:=N,bk:=D.nx } σ2 H2):=by
 refine⟨fun i m σ H=>m=n-i/\i<=n/\Pv i σ H,⟨n,by simp,Nat.zero_le _,h0⟩,?_⟩;rintro i m σ H ⟨rfl,hi,p⟩
 by_cases hlt:i<n
 ·refine .inr ⟨hlt,Pv (i+1),fun σ' H' p'=>⟨n-(i+1),by lia,rfl,hlt,p'⟩,fun x H' y=>?_⟩;obtain⟨e,y⟩:=y;subst e y;exact hs i σ _ hlt p
 ·have e:i=n:=by lia
  subst e;exact .inl ⟨jj _,hd σ H p⟩
noncomputable abbrev R2:=V->V->Hp->VK->Prop
noncomputable def ni(X:Cx)(f:Value->Value->Sem Value)(r:R2):Prop:=
 ∀(pins:List (Addr×Obj))(s:Shared)(σ:St)(H:Hp)(x y:V)(v u:Value)(Q:VK),Inv X pins σ H s->RelV x v->RelV y u->r x y H Q →
  wpAny (model X.prog X.w) X.A (f v u) (EP X pins σ Q) X.xe s
noncomputable def UnR(X:Cx)(f:Value->Sem Value)(r:V->Hp->VK->Prop):Prop:=
 ∀(pins:List (Addr×Obj))(s:Shared)(σ:St)(H:Hp)(x:V)(v:Value)(Q:VK),Inv X pins σ H s->RelV x v->r x H Q →
  wpAny (model X.prog X.w) X.A (f v) (EP X pins σ Q) X.xe s
noncomputable def nu(X:Cx)(f:Value)(r:List V->Hp->VK->Prop):Prop:=
 ∀(pins:List (Addr×Obj))(s:Shared)(σ:St)(H:Hp)(xs:List V)(us:List Value)(Q:VK),Inv X pins σ H s->Vals xs us->r xs H Q →
  wpAny (model X.prog X.w) X.A (call f us) (EP X pins σ Q) X.xe s
noncomputable def X3(r:R2)(ta tb:TE):TE:=fun σ H Q=>ta σ H fun x H1=>tb σ H1 fun y H2=>r x y H2 Q
noncomputable def tUn(r:V->Hp->VK->Prop)(ta:TE):TE:=fun σ H Q=>ta σ H fun x H1=>r x H1 Q
noncomputable def rI(C:Int->Int->Prop)(g:Int->Int->V):R2:=fun x y H Q => ∃ i j,x = .int i/\y = .int j/\C i j/\Q (g i j) H
noncomputable def Ug(g:Int->Int->V):R2:=fun x y H Q => ∃ i j,x = .int i/\y = .int j/\Q (g i j) H
noncomputable def rU(g:Int->V):V->Hp->VK->Prop:=fun x H Q => ∃ i,x = .int i/\Q (g i) H
section
variable{X:Cx}{a b c:Expr}{ta tb tc:TE}{pos:Pos}
theorem qC0(ha:PE X a ta)(hb:PE X b tb){pins:List (Addr×Obj)}{s:Shared}{σ:St}{H:Hp}{R:V->V->Hp->Prop}(I:Inv X pins σ H s)
  (h:ta σ H fun x H1=>tb σ H1 fun y H2=>R x y H2) {Q:Value->Shared->Prop} {f:Value->Value->Sem Value}
  (hf:∀ v u s2 x y H2,Inv X pins σ H2 s2->RelV x v->RelV y u->R x y H2->wpAny (model X.prog X.w) X.A (f v u) Q X.xe s2) :
  wpAny (model X.prog X.w) X.A (eval a X.env) (fun v s₁=>wpAny (model X.prog X.w) X.A (eval b X.env) (fun u s₂=>wpAny (model X.prog X.w) X.A (f v u) Q X.xe s₂) X.xe s₁) X.xe s:=by
 refine gO (ha pins s σ H _ I h) fun v s1 ⟨x,H1,I1,r1,q1⟩=>?_;refine gO (hb pins s1 σ H1 _ I1 q1) fun u s2 ⟨y,H2,I2,r2,q2⟩=>?_;exact hf v u s2 x y H2 I2 r1 r2 q2
theorem yA{op:Operator}{r:R2}(ho:ni X (binaryOp op) r)(ha:PE X a ta)(hb:PE X b tb):PE X (.BinOp a op b pos) (X3 r ta tb):=by
 intro pins s σ H Q I h;exact wpAny_BinOp (qC0 ha hb I h fun v u s2 x y H2 I2 rx ry q=>ho pins s2 σ H2 x y v u Q I2 rx ry q)
theorem rD{op:UnaryOp}{r:V->Hp->VK->Prop}(ho:UnR X (unaryOp op) r)(ha:PE X a ta):PE X (.UnaryOp op a pos) (tUn r ta):=by
 intro pins s σ H Q I h;exact UnaryOp_ (gO (ha pins s σ H _ I h) fun v s1 ⟨x,H1,I1,r1,q1⟩=>ho pins s1 σ H1 x v Q I1 r1 q1)
theorem opI{f:Value->Value->Sem Value}{C:Int->Int->Prop}{g:Int->Int->Int}
  (rule:∀(i j:Int)(t u:Tok)(s:Shared)(Q:Value->Shared->Prop)(E:Value->Shared->Prop),C i j->Q (.int (g i j) s.toks) { s with toks:=s.toks+1 }->wpAny (model X.prog X.w) X.A (f (.int i t) (.int j u)) Q E s) :
  ni X f (rI C fun i j=>.int (g i j)):=by
 intro pins s σ H x y v u Q I rx ry h;obtain⟨i,j,rfl,rfl,hc,q⟩:=h;obtain⟨t,rfl⟩:=rx;obtain⟨t',rfl⟩:=ry;exact rule i j t t' s _ _ hc ⟨.int (g i j),H,I.tok _,⟨_,rfl⟩,q⟩
theorem qAY{f:Value->Value->Sem Value}{g:Int->Int->Int}
  (rule:∀(i j:Int)(t u:Tok)(s:Shared)(Q:Value->Shared->Prop)(E:Value->Shared->Prop),Q (.int (g i j) s.toks) { s with toks:=s.toks+1 }->wpAny (model X.prog X.w) X.A (f (.int i t) (.int j u)) Q E s) :
  ni X f (Ug fun i j=>.int (g i j)):=by
 intro pins s σ H x y v u Q I rx ry h;obtain⟨i,j,rfl,rfl,q⟩:=h;obtain⟨t,rfl⟩:=rx;obtain⟨t',rfl⟩:=ry;exact rule i j t t' s _ _ ⟨.int (g i j),H,I.tok _,⟨_,rfl⟩,q⟩
theorem Xg{f:Value->Value->Sem Value}{g:Int->Int->Bool}
  (rule:∀(i j:Int)(t u:Tok)(s:Shared)(Q:Value->Shared->Prop)(E:Value->Shared->Prop),Q (.bool (g i j)) s->wpAny (model X.prog X.w) X.A (f (.int i t) (.int j u)) Q E s) :
  ni X f (Ug fun i j=>.bl (g i j)):=by
 intro pins s σ H x y v u Q I rx ry h;obtain⟨i,j,rfl,rfl,q⟩:=h;obtain⟨t,rfl⟩:=rx;obtain⟨t',rfl⟩:=ry;exact rule i j t t' s _ _ ⟨.bl (g i j),H,I,rfl,q⟩
noncomputable def M7(i j:Int):Prop:=0<j/\j<1073741824
noncomputable def qFC(i j:Int):Prop:=0<=j/\j<=1000000/\i.natAbs<2 ^ 64
noncomputable def Jg(i j:Int):Prop:=(-(2 ^ 64)<i/\i<2 ^ 64)∨(-(2 ^ 64)<j/\j<2 ^ 64)
theorem Jg.ok{i j:Int}(h:Jg i j):IntMulOk i j:=by
 rcases h with ⟨h1,h2⟩ | ⟨h1,h2⟩
 ·exact .of_left (intBits_le_64 h1 h2)
 ·exact .of_right (intBits_le_64 h1 h2)
theorem Mf(k:Nat):(0:Int)<=2 ^ k:=by
 rw[two_pow_cast];exact Int.natCast_nonneg _
theorem yD:ni X (binaryOp .Add) (Ug fun i j=>.int (i+j)):=qAY fun _ _ _ _ _ _ _ q=>add_int q
theorem rn:ni X (binaryOp .Sub) (Ug fun i j=>.int (i-j)):=qAY fun _ _ _ _ _ _ _ q=>sub_int q
theorem qAW:ni X (binaryOp .Mult) (rI Jg fun i j=>.int (i*j)):=opI fun _ _ _ _ _ _ _ hc q=>mul_int q hc.ok
theorem yI:ni X (binaryOp .FloorDiv) (rI M7 fun i j=>.int (i/j)):=opI fun i j _ _ _ _ _ hc q=>by
 have h1:(0:Int)<j:=hc.1;have h2:j<1073741824:=hc.2;exact floordiv_int (by lia) (by rw[Int.fdiv_eq_ediv_of_nonneg i (by lia)];exact q) (.inl (PyProof.noPylong_small (by lia)))
theorem zX:ni X (binaryOp .Mod) (rI (fun _ j=>0<j) fun i j=>.int (i%j)):=opI fun i j _ _ _ _ _ hc q=>by
 have h1:(0:Int)<j:=hc;exact mod_int' (by lia) (by rw[Int.fmod_eq_emod_of_nonneg i (by lia)];exact q)
theorem qAV:ni X (binaryOp .RShift) (rI (fun _ j=>0<=j) fun i j=>.int (i/2 ^ j.toNat)):=opI fun i j _ _ _ _ _ hc q=>
 rshift_int hc (by rw[Int.fdiv_eq_ediv_of_nonneg i (Mf _)];exact q)
theorem Uu:ni X (binaryOp .BitAnd) (Ug fun i j=>.int (Builtin.bitAnd i j)):=qAY fun _ _ _ _ _ _ _ q=>and_int q
theorem unI{f:Value->Sem Value}{g:Int->Int}
  (rule:∀(i:Int)(t:Tok)(s:Shared)(Q:Value->Shared->Prop)(E:Value->Shared->Prop),Q (.int (g i) s.toks) { s with toks:=s.toks+1 }->wpAny (model X.prog X.w) X.A (f (.int i t)) Q E s) :
  UnR X f (rU fun i=>.int (g i)):=by
 intro pins s σ H x v Q I rx h;obtain⟨i,rfl,q⟩:=h;obtain⟨t,rfl⟩:=rx;exact rule i t s _ _ ⟨.int (g i),H,I.tok _,⟨_,rfl⟩,q⟩
theorem lL:UnR X (unaryOp .USub) (rU fun i=>.int (-i)):=unI fun _ _ _ _ _ q=>neg_int q
theorem Vg{pins:List (Addr×Obj)}{σ:St}{H:Hp}{s:Shared}{Q:VK}{k k':Bool}(I:Inv X pins σ H s)(q:Q (.bl k) H)(e:k=k'):EP X pins σ Q (.bool k') s:=by
 subst e;exact⟨.bl k,H,I,rfl,q⟩
theorem K3:ni X (compareOp .Lt) (Ug fun i j=>.bl (decide (i<j))):=Xg fun _ _ _ _ _ _ _ q=>lt_int q
theorem oO:ni X (compareOp .LtE) (Ug fun i j=>.bl (decide (i<=j))):=Xg fun _ _ _ _ _ _ _ q=>le_int q
theorem jm:ni X (compareOp .Gt) (Ug fun i j=>.bl (decide (j<i))):=Xg fun _ _ _ _ _ _ _ q=>gt_int q
theorem qCY:ni X (compareOp .GtE) (Ug fun i j=>.bl (decide (j<=i))):=Xg fun _ _ _ _ _ _ _ q=>ge_int q
theorem R9:ni X (compareOp .In) (fun x y H Q => ∃ i j,x = .str i/\y = .str j/\Q (.bl (!(Builtin.Str.occurrences j i 0 j.length 1).isEmpty)) H):=by
 intro pins s σ H x y v u Q I rx ry h;obtain⟨i,j,rfl,rfl,q⟩:=h;obtain⟨t,rfl⟩:=rx;obtain⟨t',rfl⟩:=ry;exact in_str (Vg I q rfl)
theorem Xe:ni X (compareOp .IsNot) (fun x y H Q=>y = .non/\Q (.bl (!decide (x = .non))) H):=by
 intro pins s σ H x y v u Q I rx ry h;obtain⟨rfl,q⟩:=h
 cases ry
 refine isnot_none_gen (Vg I q ?_)
 cases x <;> first
  | (cases rx;rfl)
  | (obtain⟨t,rfl⟩:=rx;rfl)
theorem ni.or{f:Value->Value->Sem Value}{r r':R2}(h:ni X f r)(h':ni X f r'):ni X f (fun x y H Q=>r x y H Q∨r' x y H Q):=by
 intro pins s σ H x y v u Q I rx ry q;rcases q with q | q
 ·exact h pins s σ H x y v u Q I rx ry q
 ·exact h' pins s σ H x y v u Q I rx ry q
theorem zR(b:Expr){op:CmpOp}(h:op≠.In:=by decide)(h2:op≠.NotIn:=by decide):behindInMarks op b=false:=by
 have e1:(op==CmpOp.In)=false:=by cases op <;> first | rfl | exact absurd rfl h
 have e2:(op==CmpOp.NotIn)=false:=by cases op <;> first | rfl | exact absurd rfl h2
 cases b <;> simp [behindInMarks,e1,e2]
theorem bQ{op:CmpOp}{r:R2}(ho:ni X (compareOp op) r)(ha:PE X a ta)(hb:PE X b tb)(hm:behindInMarks op b=false):PE X (.Compare a [op] [b] pos) (X3 r ta tb):=by
 intro pins s σ H Q I h;exact wpAny_Compare1 (qC0 ha hb I h fun v u s2 x y H2 I2 rx ry q=>ho pins s2 σ H2 x y v u Q I2 rx ry q) hm
noncomputable def Tq(t:TE):TT:=fun σ H Q=>t σ H fun x H'=>∃ k,x = .bl k/\Q k H'
theorem zK{op:CmpOp}{r:R2}(ho:ni X (compareOp op) r)(ha:PE X a ta)(hb:PE X b tb)(hm:behindInMarks op b=false):PT X (.Compare a [op] [b] pos) (Tq (X3 r ta tb)):=by
 intro pins s σ H Q I h
 refine wpAny_isTrue_Compare1 (gO (ha pins s σ H _ I h) fun v s1 ⟨x,H1,I1,r1,q1⟩=>gO (hb pins s1 σ H1 _ I1 q1) fun u s2 ⟨y,H2,I2,r2,q2⟩=>
  gO (ho pins s2 σ H2 x y v u _ I2 r1 r2 q2) fun c s3 ⟨z,H3,I3,r3,k,e,q3⟩=>?_) hm
 subst e
 cases r3
 exact wpAny_truthy_bool ⟨H3,I3,q3⟩
noncomputable def Tw(r r':R2)(ta tb tc:TE):TE:=fun σ H Q=>ta σ H fun x H1=>tb σ H1 fun y H2=>r x y H2 fun z H3 => ∃ k,z = .bl k ∧
 (if k=true then tc σ H3 fun w' H4=>r' y w' H4 Q else Q (.bl false) H3)
theorem lE{op op':CmpOp}{r r':R2}(ho:ni X (compareOp op) r)(ho':ni X (compareOp op') r')(ha:PE X a ta)(hb:PE X b tb)(hc:PE X c tc)
  (hm:lastMarks [op,op'] [b,c]=false:=by with_unfolding_all rfl):PE X (.Compare a [op,op'] [b,c] pos) (Tw r r' ta tb tc):=by
 intro pins s σ H Q I h
 refine Compare_chain (gO (ha pins s σ H _ I h) fun v s1 ⟨x,H1,I1,r1,q1⟩=>chain_link (gO (hb pins s1 σ H1 _ I1 q1) fun u s2 ⟨y,H2,I2,r2,q2⟩=>
  gO (ho pins s2 σ H2 x y v u _ I2 r1 r2 q2) fun d s3 ⟨z,H3,I3,r3,k,e,q3⟩=>?_)) hm
 subst e
 cases r3
 refine wpAny_truthy_bool ?_
 cases k with
 | false=>exact ite_ff ⟨.bl false,H3,I3,rfl,q3⟩
 | true=>exact ite_tt (chain_last (gO (hc pins s3 σ H3 _ I3 q3) fun w' s4 ⟨z',H4,I4,r4,q4⟩=>ho' pins s4 σ H4 y z' u w' Q I4 r2 r4 q4))
theorem Cp:(sizeLine:Nat)<2 ^ 63:=by rw[sizeLine_eq];decide
theorem NQ:ni X (binaryOp .Add) (fun x y H Q => ∃ i j,x = .str i/\y = .str j/\i.length+j.length<=sizeLine/\Q (.str (i++j)) H):=by
 intro pins s σ H x y v u Q I rx ry h;obtain⟨i,j,rfl,rfl,hz,q⟩:=h;obtain⟨t,rfl⟩:=rx;obtain⟨t',rfl⟩:=ry;exact add_str (fun t' tk=>⟨.str (i++j),H,I.tok _,⟨_,rfl⟩,q⟩) hz
theorem vals1{x:V}{us:List Value}(r:Vals [x] us):∃ u,us=[u]/\RelV x u:=by
 cases r with
 | cons r1 r2=>cases r2;exact⟨_,rfl,r1⟩
theorem vals2{x y:V}{us:List Value}(r:Vals [x,y] us):∃ u w',us=[u,w']/\RelV x u/\RelV y w':=by
 cases r with
 | cons r1 r2=>
  cases r2 with
  | cons r3 r4=>cases r4;exact⟨_,_,rfl,r1,r3⟩
theorem tu(hc:X.calm=true):nu X (.builtin "max") (fun xs H Q => ∃ i j,xs=[.int i,.int j]/\Q (.int (if j>i then j else i)) H):=by
 intro pins s σ H xs us Q I r h;obtain⟨i,j,rfl,q⟩:=h;obtain⟨u,w',rfl,⟨t,rfl⟩,⟨t',rfl⟩⟩:=vals2 r;refine max_two_ints (I.ok.hd hc) fun h' tk k=>⟨_,H,I.kept k,?_,q⟩
 by_cases hj:j>i
 ·rw[if_pos hj,if_pos hj];exact⟨_,rfl⟩
 ·rw[if_neg hj,if_neg hj];exact⟨_,rfl⟩
end
structure P0(h:Heap)(x dx C:Addr)(mA:Str->Option Value):Prop where
 obj:h.get? x=some (PySem.W.instObj C dx)
 ns:h.Ns1 dx mA
 ne:dx≠x
theorem GP{h:Heap}{dx:Addr}{mA:Str->Option Value}(n:h.Ns1 dx mA):∃ od,h.get? dx=some od/\∀ name,PySem.W.lookIn name od=some (mA name):=by
 obtain⟨o,es,ep,ho,hd,hk,_,hm⟩:=n;refine⟨o,ho,fun name=>?_⟩;have e:=hm name;unfold nsFind findBy at e;rw[<-Array.find?_toList]at e;unfold PySem.W.lookIn;rw[hd]
 dsimp only
 split
 ·rename_i y q
  rw[q]at e;exact congrArg some e
 ·rename_i q
  rw[q]at e
  have a:es.toList.any (·.refKey)=false:=by
   rw[List.any_eq_false];intro y hy;obtain⟨z,t,hkey⟩:=hk y (Array.mem_toList_iff.mp hy);simp [DictEntry.refKey,hkey]
  have a':¬ es.toList.any (·.refKey)=true:=by rw[a];exact pK
  rw[if_neg a'];exact congrArg some e
theorem P0.look{h:Heap}{x dx C:Addr}{mA:Str->Option Value}(I:P0 h x dx C mA):∃ od,PySem.W.InstAt h x (PySem.W.instObj C dx) C (some od)/\∀ name,PySem.W.lookIn name od=some (mA name):=
 let ⟨od,ho,hl⟩:=GP I.ns
 ⟨od,⟨I.obj,rfl,rfl,ho⟩,hl⟩
section
variable{prog:Program}{w:World}{A:Around}{E:Value->Shared->Prop}{s:Shared}{K:cZ}{x dx C f:Addr}{mA:Str->Option Value}{name:Str}{v:Value}
theorem get_map{expr:Bool}{Q:Value->Shared->Prop}(X:K.In s.heap)(I:P0 s.heap x dx C mA)(hg:PySem.W.plainGet K C name=true)(hh:PySem.W.hasDictIn K C=true)
  (ha:PySem.W.findIn K (.ref C) name=some none) (hv:mA name=some v) (hv':PySem.W.handedIn v=true) (h:Q v { s with toks:=s.toks+1 }) :
  wpAny (model prog w) A (getAttr (.ref x) name expr) Q E s:=by
 obtain⟨od,J,hl⟩:=I.look;exact PySem.W.get_value X J (PySem.W.plainGet_of hg).1 (PySem.W.findObj_own hh ha rfl (by rw[hl,hv])) hv' h
theorem VM{pl:Sem Bool}{Q:Value×List Value->Shared->Prop}(X:K.In s.heap)(I:P0 s.heap x dx C mA)(hg:PySem.W.plainGet K C name=true)
  (hf:PySem.W.findIn K (.ref C) name=some (some (.ref f))) (ht:PySem.W.isFn K (.ref f)=true) (hv:mA name=none) (h:Q (.ref f,[.ref x]) s) :
  wpAny (model prog w) A (getMethod (.ref x) name pl) Q E s:=by
 obtain⟨od,J,hl⟩:=I.look;exact PySem.W.method_fn X J (PySem.W.plainGet_of hg).1 (PySem.W.plainGet_of hg).2 hf (beq_iff_eq.mp ht) (by show (PySem.W.lookIn name od).map (·.isSome)=some false;rw[hl,hv];rfl) h
theorem XD{ns:List Str}{Q:Unit->Shared->Prop}(X:K.In s.heap)(I:P0 s.heap x dx C mA)
  (hs:PySem.W.findIn K (.ref C) "__setattr__" = some (some (.builtin "object.__setattr__"))) (hp:PySem.W.plainOver K C=true) (ht:PySem.W.takerIn K C name=some none) (hh:PySem.W.hasDictIn K C=true)
  (hw:PySem.Within mA ns) (hsz:ns.length<=sizeLine)
  (h:∀ h',P0 h' x dx C (fun y=>if y=name then some v else mA y)->Heap.SameBut dx s.heap h'->Q () { s with heap:=h',toks:=s.toks+2 }) :
  wpAny (model prog w) A (setAttr (.ref x) name v) Q E s:=by
 obtain⟨od,J,hl⟩:=I.look;refine PySem.W.set_plain X J hs (PySem.W.osa_open (s:={ s with toks:=s.toks+1 }) (r:=none) X J hp ht fun b=>?_);obtain⟨cd,hc,hd'⟩:=PySem.W.any_some hh;have hx:s.heap.get? x=some ⟨.ref C,some dx,.plain,#[]⟩:=I.obj;refine wpAny_bind (wpAny_pure (wpAny_bind (wpAny_bind (wpAny_loadPart hx (wpAny_bind (PySem.W.Looks.here (s:={ s with toks:=s.toks+1 }) (PySem.W.looks_clsIn X hc) ?_))))));rw[hd'];refine wpAny_pure (a:=some dx) (wpAny_bind (wpAny_pure (wpAny_bind ?_)));refine wpAny_nsSet1 (s:={ s with toks:=s.toks+1 }) I.ns fun h' hn2 hs2=>?_;obtain⟨oD,esD,epD,hoD,hdD,hcD⟩:=hn2.count (PySem.Within.cons name v hw);refine wpAny_bind (wpAny_lookBehind hoD (by rw[hdD];exact pastItsLine_dict (Nat.le_trans hcD (by rw[dJ];lia))) ?_);exact wpAny_pure (h _ ⟨(hs2.2 _ (Ne.symm I.ne)).trans I.obj,hn2,I.ne⟩ hs2)
theorem V6{R:Result->Shared->Prop}{vs:List Value}{kw:List (Str×Value)}(X:K.In s.heap)(hm:PySem.W.makesIn K C=true)
  (hi:PySem.W.findIn K (.ref C) "__init__" = some (some (.ref f))) (hf:PySem.W.typeIn K (.ref f)=some (.type "function"))
  (h:codeAny (model prog w) (A.under (.builtin "type.__call__" ⟨.ref C::vs,kw⟩)) (.call (.ref f) ⟨.ref (s.heap.objs.size+1)::vs,kw⟩) (PySem.W.InitBack (s.heap.objs.size+1) R)
   { s with heap:=(s.heap.push PySem.W.emptyDict).push (PySem.W.instObj C s.heap.objs.size) }) :
  codeAny (model prog w) A (.call (.ref C) ⟨vs,kw⟩) R s:=by
 obtain⟨hh,g,d,t,os⟩:=s;exact PySem.W.make_core (PySem.W.makes_of X hm) (PySem.W.looks_findIn X hi) (fun self=>PySem.W.bind_fn X self hf) (.inl rfl) h
end
noncomputable def jV(f:Str)(v:V):List (Str×V)->List (Str×V)
 | []=>[(f,v)]
 | (g,x)::r=>if g=f then (g,v)::r else (g,x)::jV f v r
theorem zm(f g:Str)(v:V):∀ fs:List (Str×V),(jV f v fs).lookup g=if g=f then some v else fs.lookup g
 | []=>by
  show List.lookup g [(f,v)]=_
  by_cases h:g=f
  ·have hb:(g==f)=true:=beq_iff_eq.mpr h;simp only[List.lookup,hb,if_pos h]
  ·have hb:(g==f)=false:=beq_eq_false_iff_ne.mpr h;simp only[List.lookup,hb,if_neg h]
 | (k,x)::r=>by
  have ih:=zm f g v r;rw[show jV f v ((k,x)::r)=(if k=f then (k,v)::r else (k,x)::jV f v r) from rfl]
  by_cases hk:k=f
  ·rw[if_pos hk]
   by_cases h:g=k
   ·have hb:(g==k)=true:=beq_iff_eq.mpr h;simp only[List.lookup,hb,if_pos (h.trans hk)]
   ·have hb:(g==k)=false:=beq_eq_false_iff_ne.mpr h;simp only[List.lookup,hb,if_neg (fun e:g=f=>h (e.trans hk.symm))]
  ·rw[if_neg hk]
   by_cases h:g=k
   ·have hb:(g==k)=true:=beq_iff_eq.mpr h;simp only[List.lookup,hb,if_neg (fun e:g=f=>hk (h.symm.trans e))]
   ·have hb:(g==k)=false:=beq_eq_false_iff_ne.mpr h;simp only[List.lookup,hb];exact ih
theorem xg(f:Str)(v:V):∀ fs:List (Str×V),f∈(jV f v fs).map (·.1)/\∀ g,g∈fs.map (·.1)->g∈(jV f v fs).map (·.1)
 | []=>⟨by simp [jV],fun g h=>by simp at h⟩
 | (k,x)::r=>by
  obtain⟨i1,i2⟩:=xg f v r;rw[show jV f v ((k,x)::r)=(if k=f then (k,v)::r else (k,x)::jV f v r) from rfl]
  by_cases hk:k=f
  ·rw[if_pos hk];subst hk;exact⟨by simp,fun g h=>by simpa using h⟩
  ·rw[if_neg hk];refine⟨?_,fun g h=>?_⟩
   ·rw[List.map_cons];exact wy _ i1
   ·rw[List.map_cons]at h ⊢;rcases jo.mp h with e | e
    ·exact jo.mpr (.inl e)
    ·exact wy _ (i2 g e)
theorem zp(f:Str)(v:V):∀ fs:List (Str×V),(jV f v fs).length<=fs.length+1
 | []=>by simp [jV]
 | (k,x)::r=>by
  have ih:=zp f v r;rw[show jV f v ((k,x)::r)=(if k=f then (k,v)::r else (k,x)::jV f v r) from rfl]
  by_cases hk:k=f
  ·rw[if_pos hk,dJ,dJ];lia
  ·rw[if_neg hk,dJ,dJ];lia
theorem uy.some_of{v:V}{o:Option Value}(r:uy (some v) o):∃ u,o=some u/\RelV v u:=by
 cases o with
 | none=>exact (show False from r).elim
 | some u=>exact⟨u,rfl,r⟩
theorem uy.none_of{o:Option Value}(r:uy none o):o=none:=by
 cases o with
 | none=>rfl
 | some u=>exact (show False from r).elim
theorem GZ{v:V}{u:Value}(r:RelV v u):PySem.W.handedIn u=true:=by
 cases v with
 | non=>cases (show u=Value.none from r);rfl
 | bl b=>cases (show u=Value.bool b from r);rfl
 | int i=>obtain⟨t,e⟩:=(show ∃ t,u=Value.int i t from r);cases e;rfl
 | str x=>obtain⟨t,e⟩:=(show ∃ t,u=Value.str x t from r);cases e;rfl
 | byt b=>obtain⟨t,e⟩:=(show ∃ t,u=Value.bytes b t from r);cases e;rfl
 | flt b=>obtain⟨t,e⟩:=(show ∃ t,u=Value.float b t from r);cases e;rfl
 | ref a=>cases (show u=Value.ref a from r);rfl
 | ty n=>cases (show u=Value.type n from r);rfl
section
variable{P:Program}{w:World}{H H':Hp}{h h':Heap}{a C dx:Addr}{fs fs':List (Str×V)}
theorem BV(hok:qM P w H h)(e:H a=some (.ins C dx fs)):∃ mA,P0 h a dx C mA/\(∀ f,uy (fs.lookup f) (mA f))/\PySem.Within mA (fs.map (·.1))/\fs.length<=1000/\H dx=some (.own a):=by
 obtain⟨d,z,ne,ob,mA,n,r,q⟩:=(show gJ P w H h a (.ins C dx fs) from hok a _ e);exact⟨mA,⟨ob,n,ne⟩,r,q,z,d⟩
end
structure Eb(K:cZ)(C:Addr):Prop where
 pg:PySem.W.plainGet K C Str.empty=true
 hd:PySem.W.hasDictIn K C=true
 po:PySem.W.plainOver K C=true
 sa:PySem.W.findIn K (.ref C) "__setattr__" = some (some (.builtin "object.__setattr__"))
theorem Eb.get{K:cZ}{C:Addr}(c:Eb K C)(f:Str):PySem.W.plainGet K C f=true:=c.pg
noncomputable def cY(K:cZ)(C:Addr)(f:Str):Prop:=PySem.W.findIn K (.ref C) f=some none
theorem cY.taker{K:cZ}{C:Addr}{f:Str}(n:cY K C f):PySem.W.takerIn K C f=some none:=by
 unfold PySem.W.takerIn;rw[show PySem.W.findIn K (.ref C) f=some none from n];rfl
structure Con(K:cZ)(C:Addr)(f:Str)(v:V)(u:Value):Prop where
 at_:PySem.W.findIn K (.ref C) f=some (some u)
 rel:RelV v u
 get:PySem.W.specialIn K u "__get__" = some none
 cp:PySem.W.copiedNames.contains f=false
structure Meth(K:cZ)(C:Addr)(m:Str)(f:Addr):Prop where
 at_:PySem.W.findIn K (.ref C) m=some (some (.ref f))
 fn:PySem.W.isFn K (.ref f)=true
 kp:KI K f
section
variable{X:Cx}{pins:List (Addr×Obj)}{σ:St}{H:Hp}{s:Shared}{a C dx:Addr}{fs:List (Str×V)}{f:Str}{v:V}{A:Around}{E:Value->Shared->Prop}
theorem Nz{b:Bool}{Q:Value->Shared->Prop}(I:Inv X pins σ H s)(e:H a=some (.ins C dx fs))(c:Eb X.K C)(n:cY X.K C f)(l:fs.lookup f=some v)
  (h:∀ u s',Inv X pins σ H s'->RelV v u->Q u s'):wpAny (model X.prog X.w) A (getAttr (.ref a) f b) Q E s:=by
 obtain⟨mA,O,r,_,_,_⟩:=BV I.hok e;obtain⟨u,hu,ru⟩:=uy.some_of (v:=v) (o:=mA f) (by rw[<-l];exact r f);exact get_map I.oA O (c.get f) c.hd n hu (GZ ru) (h u _ (I.tok _) ru)
theorem Cz{m:Str}{g:Addr}{pl:Sem Bool}{Q:Value×List Value->Shared->Prop}(I:Inv X pins σ H s)(e:H a=some (.ins C dx fs))(c:Eb X.K C)(k:Meth X.K C m g)(l:fs.lookup m=none)
  (h:Q (.ref g,[.ref a]) s):wpAny (model X.prog X.w) A (getMethod (.ref a) m pl) Q E s:=by
 obtain⟨mA,O,r,_,_,_⟩:=BV I.hok e;have hn:mA m=none:=uy.none_of (by rw[<-l];exact r m);exact VM I.oA O (c.get m) k.at_ k.fn hn h
theorem Mt{y:V}{u:Value}{Q:Unit->Shared->Prop}(I:Inv X pins σ H s)(e:H a=some (.ins C dx fs))(c:Eb X.K C)(n:cY X.K C f)(hl:fs.length<1000)(ry:RelV y u)
  (h:∀ s',Inv X pins σ (upd H a (.ins C dx (jV f y fs))) s'->Q () s'):wpAny (model X.prog X.w) A (setAttr (.ref a) f u) Q E s:=by
 obtain⟨mA,O,r,wi,_,ho⟩:=BV I.hok e
 have hz:(fs.map (·.1)).length<=sizeLine:=by rw[jH,sizeLine_eq];lia
 refine XD I.oA O c.sa c.po n.taker c.hd wi hz fun h' O' sb=>h _ ?_;have hd:∃ o,h'.get? dx=some o:=let ⟨o,_,_,e',_⟩:=O'.ns;⟨o,e'⟩;refine I.write (x:=a) (e:=dx) (by rw[e];exact True.intro) (.inr ho) (fun b q hb z=>(sb.2 b hb).trans z) hd ?_;refine⟨by rw[zQ O.ne];exact ho,?_,O.ne,O'.obj,_,O'.ns,fun g=>?_,fun g hg=>?_⟩
 ·have:=zp f y fs;lia
 ·show uy ((jV f y fs).lookup g) (if g=f then some u else mA g);rw[zm]
  by_cases q:g=f
  ·rw[if_pos q,if_pos q];exact ry
  ·rw[if_neg q,if_neg q];exact r g
 ·by_cases q:g=f
  ·rw[q];exact (xg f y fs).1
  ·refine (xg f y fs).2 g (wi g fun z=>hg ?_);show (if g=f then some u else mA g)=none;rw[if_neg q];exact z
theorem Inv.made(I:Inv X pins σ H s):Inv X pins σ (upd (upd H s.heap.objs.size (.own (s.heap.objs.size+1))) (s.heap.objs.size+1) (.ins C s.heap.objs.size []))
  { s with heap:=(s.heap.push PySem.W.emptyDict).push (PySem.W.instObj C s.heap.objs.size) }:=by
 have e1:(s.heap.push PySem.W.emptyDict).get? s.heap.objs.size=some PySem.W.emptyDict:=wj s.heap rfl
 have e2:((s.heap.push PySem.W.emptyDict).push (PySem.W.instObj C s.heap.objs.size)).get? (s.heap.objs.size+1)=some (PySem.W.instObj C s.heap.objs.size):=by
  have:=wj (s.heap.push PySem.W.emptyDict) (o:=PySem.W.instObj C s.heap.objs.size) rfl
  rwa [Heap.size_push]at this
 have e3:(s.heap.push PySem.W.emptyDict).Ns s.heap.objs.size (fun _=>none):=⟨PySem.W.emptyDict,#[],_,e1,rfl,(fun e he=>absurd he (by simp)),fun _=>rfl⟩;have I1:=I.laid (a:=s.heap.objs.size) (o:=.own (s.heap.objs.size+1)) (h':=s.heap.push PySem.W.emptyDict) (t':=s.toks) (fun b u q=>mV _ q) (jj _) ⟨_,e1⟩;refine I1.laid (a:=s.heap.objs.size+1) (o:=.ins C s.heap.objs.size []) (t':=s.toks) (fun b u q=>mV _ q) (Nat.le_of_eq (Heap.size_push _ _)) ?_;have ne:s.heap.objs.size≠s.heap.objs.size+1:=tD (Nat.lt_succ_self _);refine⟨by rw[zQ ne,zC],Nat.zero_le _,ne,e2,fun _=>none,(Heap.Ns1.of_empty e3).at fun o q=>mV _ q,fun _=>True.intro,fun y hy=>absurd rfl hy⟩
theorem Qh{prog:Program}{w:World}{env:Env}{e:Expr}{f:Str}{pos:Pos}{s:Shared}{Q:Value->Shared->Prop}(hb:attributeBase e f env (eval e env)=eval e env)
  (h:wpAny (model prog w) A (eval e env) (fun o s₁=>wpAny (model prog w) A (getAttr o f true) Q E s₁) E s):wpAny (model prog w) A (eval (.Attribute e f pos) env) Q E s:=
 Attribute_any_ h (by rw[arm_eval_Attribute,hb])
end
noncomputable def qAE(K:cZ)(ta:TE)(f:Str):TE:=fun σ H Q=>ta σ H fun x H1 => ∃ a C dx fs v,x = .ref a/\H1 a=some (.ins C dx fs)/\Eb K C/\cY K C f/\fs.lookup f=some v/\Q v H1
noncomputable def qCN(K:cZ)(ta tv:TE)(f:Str):TS:=fun D σ H=>tv σ H fun y H1=>ta σ H1 fun x H2 => ∃ a C dx fs,x = .ref a/\H2 a=some (.ins C dx fs)/\Eb K C/\cY K C f/\fs.length<1000 ∧
 D.nx σ (upd H2 a (.ins C dx (jV f y fs)))
section
variable{X:Cx}{o e value:Expr}{f:Str}{pos pos' tpos:Pos}{ta tv:TE}
theorem eN(he:PE X e ta)(hb:attributeBase e f X.env (eval e X.env)=eval e X.env):PE X (.Attribute e f pos) (qAE X.K ta f):=by
 intro pins s σ H Q I h;refine Qh hb (gO (he pins s σ H _ I h) fun u s1 ⟨x,H1,I1,rx,a,C,dx,fs,v,ex,ea,c,n,l,q⟩=>?_);subst ex;obtain rfl:u=Value.ref a:=rx;exact Nz I1 ea c n l fun u' s2 I2 ru=>⟨v,H1,I2,ru,q⟩
theorem uU(ha:PE X o ta)(hv:PE X value tv)(hs:swapsWith value (some (.Attribute o f pos')) pos.line X.env=pure false):PS X (.Assign [.Attribute o f pos'] value pos) (qCN X.K ta tv f):=by
 intro pins s σ H D I h;refine plainObj_wpAny_Assign_Attribute (gO (hv pins s σ H _ I h) fun u s1 ⟨y,H1,I1,ry,q⟩=>gO (ha pins s1 σ H1 _ I1 q) fun ov s2 ⟨x,H2,I2,rx,a,C,dx,fs,ex,ea,c,n,l,q2⟩=>?_) hs;subst ex;obtain rfl:ov=Value.ref a:=rx;exact Mt I2 ea c n l ry fun s3 I3=>⟨σ,_,I3,q2⟩
end
section
variable{X:Cx}{pins:List (Addr×Obj)}{σ:St}{H:Hp}{s:Shared}{A:Around}{E:Value->Shared->Prop}{Q:Value->Shared->Prop}{c:Value}{b:Bool}
inductive Ax(K:cZ)(H:Hp):V->Value->Prop where
 | non:Ax K H .non (.type "NoneType")
 | bl (x:Bool):Ax K H (.bl x) (.type "bool")
 | int (i:Int):Ax K H (.int i) (.type "int")
 | str (x:Str):Ax K H (.str x) (.type "str")
 | flt (x:UInt64):Ax K H (.flt x) (.type "float")
 | lst {a:Addr} {xs:List V} (e:H a=some (.lst xs)):Ax K H (.ref a) (.type "list")
 | M8 {a:Addr} {o:Obj} {xs:List V} (e:H a=some (.M8 o (.lst xs))):Ax K H (.ref a) (.type "list")
 | tup {a:Addr} {xs:List V} (e:H a=some (.tup xs)):Ax K H (.ref a) (.type "tuple")
 | dK {a:Addr} {kvs:List (Key×V)} (e:H a=some (.dK kvs)):Ax K H (.ref a) (.type "dict")
 | dT {a:Addr} {kvs:List (List Key×V)} (e:H a=some (.dT kvs)):Ax K H (.ref a) (.type "dict")
 | ins {a C dx:Addr} {fs:List (Str×V)} (e:H a=some (.ins C dx fs)) (cl:Eb K C) (ha:PySem.W.findIn K (.ref C) "__class__" = some (some (.builtin "object.__class__")))
   (hn:PySem.W.specialIn K (.builtin "object.__class__") "__get__" = some (some (.builtin "getset_descriptor.__get__"))) (htk:PySem.W.takesIn K (.builtin "object.__class__")=some true)
   (hm:PySem.W.mroIn K C (.type "object")=some true):Ax K H (.ref a) (.ref C)
theorem pW{x:V}{u t:Value}(I:Inv X pins σ H s)(rx:RelV x u)(ty:Ax X.K H x t)(e:PySem.W.kitOne X.K t c=some b)(h:∀ tk,Q (.bool b) { s with toks:=tk }) :
  wpAny (model X.prog X.w) A (call (.builtin "isinstance") [u,c]) Q E s:=by
 cases ty with
 | non=>cases (show u=Value.none from rx);exact PySem.W.kia_one PySem.W.kitx_none I.oA True.intro e (fun z=>nomatch z) h
 | bl y=>cases (show u=Value.bool y from rx);exact PySem.W.kia_one PySem.W.kitx_bool I.oA True.intro e (fun z=>nomatch z) h
 | int i=>obtain⟨t,q⟩:=(show ∃ t,u=Value.int i t from rx);cases q;exact PySem.W.kia_one PySem.W.kitx_int I.oA True.intro e (fun z=>nomatch z) h
 | str y=>obtain⟨t,q⟩:=(show ∃ t,u=Value.str y t from rx);cases q;exact PySem.W.kia_one PySem.W.kitx_str I.oA True.intro e (fun z=>nomatch z) h
 | flt y=>obtain⟨t,q⟩:=(show ∃ t,u=Value.float y t from rx);cases q;exact PySem.W.kia_one PySem.W.kitx_float I.oA True.intro e (fun z=>nomatch z) h
 | @lst a xs ea=>
  cases (show u=Value.ref a from rx)
  obtain⟨_,_,n,_,h1⟩:=(show gJ X.prog X.w H s.heap a (.lst xs) from I.hok a _ ea);exact PySem.W.kia_one PySem.W.kitx_list I.oA ⟨_,h1,rfl⟩ e (fun z=>nomatch z) h
 | @M8 a ob xs ea=>
  cases (show u=Value.ref a from rx)
  obtain⟨_,_,_,n,_,h1⟩:=(show gJ X.prog X.w H s.heap a (.M8 ob (.lst xs)) from I.hok a _ ea);exact PySem.W.kia_one PySem.W.kitx_list I.oA ⟨_,h1,rfl⟩ e (fun z=>nomatch z) h
 | @tup a xs ea=>
  cases (show u=Value.ref a from rx)
  obtain⟨_,_,_,p⟩:=(show gJ X.prog X.w H s.heap a (.tup xs) from I.hok a _ ea);obtain⟨o,h1,h2,_⟩:=p;exact PySem.W.kia_one PySem.W.kitx_tuple I.oA ⟨o,h1,h2⟩ e (fun z=>nomatch z) h
 | @dK a kvs ea=>
  cases (show u=Value.ref a from rx)
  obtain⟨_,_,vs,_,p⟩:=(show gJ X.prog X.w H s.heap a (.dK kvs) from I.hok a _ ea);obtain⟨o,es,ep,h1,h2,_⟩:=p;exact PySem.W.kia_one PySem.W.kitx_dict I.oA ⟨o,h1,h2.1⟩ e (fun z=>nomatch z) h
 | @dT a kvs ea=>
  cases (show u=Value.ref a from rx)
  obtain⟨_,_,xs,_,o,es,ep,h1,h2,_⟩:=(show gJ X.prog X.w H s.heap a (.dT kvs) from I.hok a _ ea);exact PySem.W.kia_one PySem.W.kitx_dict I.oA ⟨o,h1,h2.1⟩ e (fun z=>nomatch z) h
 | @ins a C dx fs ea cl ha hn htk hm=>
  cases (show u=Value.ref a from rx)
  obtain⟨mA,O,_⟩:=BV I.hok ea;obtain⟨od,J,_⟩:=O.look;exact PySem.W.kia_one (PySem.W.kitx_own (cl.get _) cl.hd ha hn htk hm) I.oA J e (fun z=>nomatch z) h
end
structure iC(k:Nat)(A:Around):Prop where
 hd:A.handled=none
 dp:A.depth+3*k+5<recursionLimit
 un:A.units+16*k+200<cLine
theorem iC.mono{j k:Nat}{A:Around}(r:iC k A)(h:j<=k):iC j A:=⟨r.hd,by have:=r.dp;lia,by have:=r.un;lia⟩
theorem iC.deeper{k:Nat}{A:Around}(r:iC (k+1) A)(env:Env):iC k (A.deeper env):=
 ⟨r.hd,by have:=r.dp;show A.depth+1+3*k+5<_;lia,by have:=r.un;show A.units+3+16*k+200<_;lia⟩
theorem Ci{A:Around}{C:Addr}{us:List Value}{kw:List (Str×Value)}:(A.under (.builtin "type.__call__" ⟨.ref C::us,kw⟩)).depth=A.depth+1:=by
 first | rfl | simp [Around.under,Code.weight,Code.isCreation,Code.isGuard,Code.isCaller,Code.frames,Code.isFrame,guardIds]
theorem Cg{A:Around}{C:Addr}{us:List Value}{kw:List (Str×Value)}:(A.under (.builtin "type.__call__" ⟨.ref C::us,kw⟩)).units=A.units+1:=by
 first | rfl | simp [Around.under,Code.cUnits,Code.frames,Code.isFrame]
theorem iC.make{k:Nat}{A:Around}(r:iC (k+1) A)(C:Addr)(us:List Value)(kw:List (Str×Value)):iC k (A.under (.builtin "type.__call__" ⟨.ref C::us,kw⟩)):=
 ⟨r.hd,by have:=r.dp;rw[Ci];lia,by have:=r.un;rw[Cg];lia⟩
theorem iC.depth{k:Nat}{A:Around}(r:iC k A):A.depth<recursionLimit:=by have:=r.dp;lia
theorem iC.units{k:Nat}{A:Around}(r:iC k A):A.units+64<cLine:=by have:=r.un;lia
noncomputable def xG:TA:=fun _ H Q=>Q [] H
noncomputable def uJ(ta:TE)(tr:TA):TA:=fun σ H Q=>ta σ H fun x H1=>tr σ H1 fun xs H2=>Q (x::xs) H2
section
variable{X:Cx}{e:Expr}{es:List Expr}{te:TE}{t:TA}{pos:Pos}
theorem zD:PA X [] xG:=fun _ _ _ _ H Q I h=>Calls.spliced_nil ⟨[],H,I,.nil,h⟩
theorem zA(ha:PE X e te)(hr:PA X es t)(hs:starEach (e::es) X.env=(false,eval e X.env)::starEach es X.env:=by rfl):PA X (e::es) (uJ te t):=by
 intro pos pins s σ H Q I h;rw[hs];show wpAny _ _ (spliced ((false,eval e X.env)::backTo pos (starEach es X.env))) _ _ s;refine Calls.spliced_cons (gO (ha pins s σ H _ I h) fun u s1 ⟨x,H1,I1,r1,q1⟩=>?_);exact gO (hr pos pins s1 σ H1 _ I1 q1) fun us s2 ⟨xs,H2,I2,r2,q2⟩=>⟨x::xs,H2,I2,.cons r1 r2,q2⟩
noncomputable def qCD(t:TA):TE:=fun σ H Q=>t σ H fun xs H1=>xs.length<=sizeLine/\∀ p,H1 p=none->Q (.ref p) (upd H1 p (.tup xs))
noncomputable def qCH(t:TA):TE:=fun σ H Q=>t σ H fun xs H1=>xs.length<=sizeLine/\∀ p,H1 p=none->Q (.ref p) (upd H1 p (.lst xs))
theorem zV {x1} (h:PA X es t):PE X (.Tuple es x1 pos) (qCD t):=by
 intro pins s σ H Q I hq;refine wpAny_Tuple_spliced (gO (h pos pins s σ H _ I hq) fun us s1 ⟨xs,H1,I1,r,z,q⟩=>⟨by rw[<-r.length];exact z,?_⟩);have hf:H1 s1.heap.objs.size=none:=I1.hok.fresh (jj _);refine⟨.ref s1.heap.objs.size,upd H1 s1.heap.objs.size (.tup xs),I1.laid (t':=s1.toks) (fun b u e=>mV _ e) (jj _) ?_,rfl,q _ hf⟩;exact⟨z,us,r,⟨_,wj _ rfl,rfl,_,rfl⟩⟩
theorem yH(h:PA X es t):PE X (.List es pos) (qCH t):=by
 intro pins s σ H Q I hq;refine wpAny_List_spliced (gO (h pos pins s σ H _ I hq) fun us s1 ⟨xs,H1,I1,r,z,q⟩=>⟨by rw[<-r.length];exact z,?_⟩);have hf:H1 s1.heap.objs.size=none:=I1.hok.fresh (jj _);refine⟨.ref s1.heap.objs.size,upd H1 s1.heap.objs.size (.lst xs),I1.laid (t':=s1.toks) (fun b u e=>mV _ e) (jj _) ?_,rfl,q _ hf⟩;exact⟨z,us,0,r,wj _ rfl⟩
end
noncomputable abbrev Sp:=List V->Hp->VK->XK->Prop
noncomputable abbrev Ji:=List Env->Hp->Shared->XK->Value->Shared->Prop
structure Je(P:Program)(w:World)(K:cZ)(mg:Str->Option Value)(base:Heap)(A:Around)(outer:List Env)(s:Shared)(H:Hp):Prop where
 frames:A.frames=some outer
 mod:Mod K mg base
 bs:∀ b o,base.get? b=some o->s.heap.get? b=some o/\H b=none
 Td:base.objs.size<=s.heap.objs.size
 uG:s.heap.FunFrames base outer
 Vb:∀ b∈frs outer,H b=none
 hok:qM P w H s.heap
 bare:AllBare s.gens
noncomputable def CE(outer:List Env)(P:Program)(w:World)(H:Hp)(s:Shared)(Q:VK)(u:Value)(s':Shared):Prop:=
 ∃ v H',s'.os=s.os/\AllBare s'.gens/\Un (frs outer) [] H H' s.heap s'.heap/\qM P w H' s'.heap/\RelV v u/\Q v H'
noncomputable def CR(CX:Ji)(outer:List Env)(P:Program)(w:World)(H:Hp)(s:Shared)(Q:VK)(E:XK)(r:Result)(s':Shared):Prop:=
 match r with
 | .ok (.ret u)=>CE outer P w H s Q u s'
 | .ok _=>False
 | .error e=>CX outer H s E e s'
structure bc(P:Program)(w:World)(K:cZ)(mg:Str->Option Value)(base:Heap)(CX:Ji)(k:Nat)(f:Addr)(fd:FuncData)(ps:List Str)(sp:Sp):Prop where
 len:∀ vs H Q E,sp vs H Q E->vs.length=ps.length
 run:∀(A:Around)(outer:List Env)(s:Shared)(H:Hp)(args:Args)(us:List Value)(vs:List V)(Q:VK)(E:XK),iC k A->Je P w K mg base A outer s H->BindsTo s fd args (ps.zip us)->Vals vs us->sp vs H Q E →
  codeAny (model P w) A (.call (.ref f) args) (CR CX outer P w H s Q E) s
theorem bc.mono{P:Program}{w:World}{K:cZ}{mg:Str->Option Value}{base:Heap}{CX:Ji}{j k:Nat}{f:Addr}{fd:FuncData}{ps:List Str}{sp:Sp}(F:bc P w K mg base CX j f fd ps sp)(h:j<=k) :
  bc P w K mg base CX k f fd ps sp:=⟨F.len,fun A outer s H args us vs Q E hr=>F.run A outer s H args us vs Q E (hr.mono h)⟩
theorem bc.imp{P:Program}{w:World}{K:cZ}{mg:Str->Option Value}{base:Heap}{CX:Ji}{k:Nat}{f:Addr}{fd:FuncData}{ps:List Str}{sp sp':Sp}(F:bc P w K mg base CX k f fd ps sp)
  (h:∀ vs H Q E,sp' vs H Q E->sp vs H Q E):bc P w K mg base CX k f fd ps sp':=
 ⟨fun vs H Q E q=>F.len vs H Q E (h _ _ _ _ q),fun A outer s H args us vs Q E hr he hb hv hs=>F.run A outer s H args us vs Q E hr he hb hv (h _ _ _ _ hs)⟩
theorem Je.make{P:Program}{w:World}{K:cZ}{mg:Str->Option Value}{base:Heap}{A:Around}{outer:List Env}{s:Shared}{H:Hp}(e:Je P w K mg base A outer s H)(C:Addr)(us:List Value)(kw:List (Str×Value)) :
  Je P w K mg base (A.under (.builtin "type.__call__" ⟨.ref C::us,kw⟩)) outer s H:=⟨by first | exact e.frames | (simpa [Around.under,Code.envs,Code.isFrame,pushEnvs] using e.frames),e.mod,e.bs,e.Td,e.uG,e.Vb,e.hok,e.bare⟩
section
variable{X:Cx}{pins:List (Addr×Obj)}{σ:St}{H:Hp}{s s':Shared}
theorem Inv.env0(I:Inv X pins σ H s):Je X.prog X.w X.K X.mg X.base X.A X.stack s H:=
 ⟨I.ok.frames,I.ok.mod,I.bs,Nat.le_trans I.ok.Td I.sz,I.stack,I.tE,I.hok,I.bare⟩
theorem Inv.after{Q:VK}{u:Value}(I:Inv X pins σ H s)(h:CE X.stack X.prog X.w H s Q u s'):EP X pins σ Q u s':=by
 obtain⟨v,H',os,bare,un,hok,r,q⟩:=h;obtain⟨hh,g,d,t,os'⟩:=s';obtain rfl:os'=s.os:=os;exact⟨v,H',I.call (h':=hh) (g':=g) (d':=d) (t':=t) (ch:=[]) un hok bare (fun b z=>absurd z (by simp)),r,q⟩
end
noncomputable def Ph(sp:Sp)(oE:List V)(E:XK)(t:TA):TE:=fun σ H Q=>t σ H fun vs H1=>sp (vs++oE) H1 Q E
noncomputable def Tu(C:Addr)(m:Str)(sp:Sp)(oE:List V)(E:XK)(ta:TE)(t:TA):TE:=fun σ H Q=>ta σ H fun x H1 => ∃ a dx fs,x = .ref a/\H1 a=some (.ins C dx fs)/\fs.lookup m=none ∧
 t σ H1 fun vs H2=>sp (x::(vs++oE)) H2 Q E
noncomputable def ZK(C:Addr)(sp:Sp)(oE:List V)(E:XK)(t:TA):TE:=fun σ H Q=>t σ H fun vs H1 => ∀ x dx,H1 x=none->H1 dx=none->dx≠x →
 sp (.ref x::(vs++oE)) (upd (upd H1 dx (.own x)) x (.ins C dx [])) (fun v H2=>v = .non/\Q (.ref x) H2) E
noncomputable def Binds(K:cZ)(fd:FuncData)(ps:List Str)(ds:List Value):Prop:=
 ∀(s:Shared)(us:List Value),K.In s.heap->(us++ds).length=ps.length->BindsTo s fd ⟨us,[]⟩ (ps.zip (us++ds))
theorem Binds.all{K:cZ}{fd:FuncData}{ps:List Str}(h:∀ us:List Value,us.length=ps.length->bindArgs fd ⟨us,[]⟩=pure (ps.zip us)):Binds K fd ps []:=fun s us _ hl=>by
 rw[xF]at hl ⊢;exact .of_eq (h us hl)
noncomputable def Passes(CX:Ji)(X:Cx)(E:XK):Prop:=∀(pins:List (Addr×Obj))(σ:St)(H:Hp)(s:Shared)(e:Value)(s':Shared),Inv X pins σ H s->CX X.stack H s E e s'->X.xe e s'
section
variable{X:Cx}{CX:Ji}{k:Nat}{f C:Addr}{fd:FuncData}{ps:List Str}{sp:Sp}{oE:List V}{ds:List Value}{E:XK}{x m:Str}{p pos apos:Pos}{e o:Expr}{es:List Expr}{ta:TE}{t:TA}
theorem UL{pins:List (Addr×Obj)}{σ:St}{H:Hp}{s:Shared}{Q:VK}{us:List Value}{vs:List V}(F:bc X.prog X.w X.K X.mg X.base CX k f fd ps sp)(hr:iC k X.A)(hb:Binds X.K fd ps ds)(hd:Vals oE ds)(hx:Passes CX X E)
  (I:Inv X pins σ H s) (r:Vals vs us) (h:sp (vs++oE) H Q E):wpAny (model X.prog X.w) X.A (call (.ref f) us) (EP X pins σ Q) X.xe s:=by
 have r2:Vals (vs++oE) (us++ds):=r.append hd
 have hl:(us++ds).length=ps.length:=by rw[<-r2.length];exact F.len _ _ _ _ h
 refine wpAny_call (codeAny_mono (F.run X.A X.stack s H ⟨us,[]⟩ (us++ds) (vs++oE) Q E hr I.env0 (hb s us I.oA hl) r2 h) fun r s' hq=>?_)
 cases r with
 | error e=>exact hx pins σ H s e s' I hq
 | ok fl=>
  cases fl with
  | ret u=>exact I.after hq
  | next=>exact False.elim hq
  | brk=>exact False.elim hq
  | cont=>exact False.elim hq
theorem zI(F:bc X.prog X.w X.K X.mg X.base CX k f fd ps sp)(hr:iC k X.A)(hg:Gl X x)(hm:X.mg x=some (.ref f))(hk:PySem.W.keepIn X.K (.ref f)=true)(hb:Binds X.K fd ps ds)(hd:Vals oE ds)(hx:Passes CX X E)
  (ha:PA X (e::es) t) (hdb:(x==("__debug__" : Str))=false:=by decide) (he:starEach (e::es) X.env=(false,eval e X.env)::starEach es X.env:=by rfl) (hpl:(backTo pos (starEach es X.env)).any (·.1)=false:=by rfl) :
  PE X (.Call (.Name x p) (e::es) [] pos) (Ph sp oE E t):=by
 intro pins s σ H Q I h;refine wpAny_Call_Name_kw (km I hg hm ?_ hdb);refine PySem.W.callWith_K (h₀:=X.base) I.ok.mod.Y4 hk (gO (ha pos pins s σ H _ I h) fun us s1 ⟨vs,H1,I1,r,q⟩=>⟨I1.oA,?_⟩) he hpl;exact UL F hr hb hd hx I1 r q
theorem CK{pl:Sem Bool}(he:PE X o ta)(c:Eb X.K C)(hm:Meth X.K C m f)(F:bc X.prog X.w X.K X.mg X.base CX k f fd ps sp)(hr:iC k X.A)(hb:Binds X.K fd ps ds)(hd:Vals oE ds)(hx:Passes CX X E)
  (ht:eval (.Call (.Attribute o m apos) [] [] pos) X.env=(do
   let ov ← eval o X.env
   standAt apos.atName
   let (f,first) ← holding [ov] (getMethod ov m pl)
   callWith pos f first (backTo pos (starEach [] X.env)) (backToKw pos (keywordEach [] X.env))):=by rfl) :
  PE X (.Call (.Attribute o m apos) [] [] pos) (Tu C m sp oE E ta xG):=by
 intro pins s σ H Q I h;refine PySem.W.methodCall_KW (pl:=pl) (gO (he pins s σ H _ I h) fun u s1 ⟨x,H1,I1,rx,a,dx,fs,ex,ea,l,q⟩=>?_) ht;subst ex;obtain rfl:u=Value.ref a:=rx;refine Cz I1 ea c hm l ?_;exact PySem.W.callWith_K0 (first:=[.ref a]) I1.oA hm.kp (UL (us:=[.ref a]) (vs:=[.ref a]) F hr hb hd hx I1 (.cons rfl .nil) q)
structure Mk(K:cZ)(C f:Addr):Prop where
 makes:PySem.W.makesIn K C=true
 init:PySem.W.findIn K (.ref C) "__init__" = some (some (.ref f))
 fn:PySem.W.isFn K (.ref f)=true
 kp:KI K C
theorem UJ{pins:List (Addr×Obj)}{σ:St}{H:Hp}{s:Shared}{Q:VK}{us:List Value}{vs:List V}(M:Mk X.K C f)(F:bc X.prog X.w X.K X.mg X.base CX k f fd ps sp)(hr:iC (k+1) X.A)(hb:Binds X.K fd ps ds)(hd:Vals oE ds)
  (hx:Passes CX X E) (I:Inv X pins σ H s) (r:Vals vs us)
  (h:∀ x dx,H x=none->H dx=none->dx≠x->sp (.ref x::(vs++oE)) (upd (upd H dx (.own x)) x (.ins C dx [])) (fun v H2=>v = .non/\Q (.ref x) H2) E) :
  wpAny (model X.prog X.w) X.A (call (.ref C) us) (EP X pins σ Q) X.xe s:=by
 have hq:=h (s.heap.objs.size+1) s.heap.objs.size (I.hok.fresh (Nat.le_succ _)) (I.hok.fresh (jj _)) (tD (Nat.lt_succ_self _));have I2:=Inv.made (C:=C) I;have r2:Vals (V.ref (s.heap.objs.size+1)::(vs++oE)) (Value.ref (s.heap.objs.size+1)::(us++ds)):=.cons rfl (r.append hd)
 have hl:(Value.ref (s.heap.objs.size+1)::us++ds).length=ps.length:=by
  have e:=r2.length;rw[F.len _ _ _ _ hq]at e;exact e.symm
 refine wpAny_call (V6 (f:=f) I.oA M.makes M.init (beq_iff_eq.mp M.fn) (codeAny_mono (F.run _ X.stack _ _ ⟨Value.ref (s.heap.objs.size+1)::us,[]⟩ (Value.ref (s.heap.objs.size+1)::(us++ds)) _ _ E (hr.make C us [])
  (I2.env0.make C us []) (hb _ (Value.ref (s.heap.objs.size+1)::us) I2.oA hl) r2 hq) fun r s' hq'=>?_))
 cases r with
 | error e=>exact hx pins σ _ _ e s' I2 hq'
 | ok fl=>
  cases fl with
  | ret u=>
   obtain⟨v,H',I3,rv,ev,q3⟩:=I2.after hq';subst ev;exact⟨rv,⟨V.ref (s.heap.objs.size+1),H',I3,rfl,q3⟩⟩
  | next=>exact False.elim hq'
  | brk=>exact False.elim hq'
  | cont=>exact False.elim hq'
theorem Uq(M:Mk X.K C f)(F:bc X.prog X.w X.K X.mg X.base CX k f fd ps sp)(hr:iC (k+1) X.A)(hg:Gl X x)(hm:X.mg x=some (.ref C))(hb:Binds X.K fd ps ds)(hd:Vals oE ds)(hx:Passes CX X E)
  (hdb:(x==("__debug__" : Str))=false:=by decide):PE X (.Call (.Name x p) [] [] pos) (ZK C sp oE E xG):=by
 intro pins s σ H Q I h;refine wpAny_Call_Name_kw (km I hg hm ?_ hdb);exact PySem.W.callWith_K0 I.oA M.kp (UJ (us:=[]) M F hr hb hd hx I .nil h)
end
section
variable{X:Cx}{CX:Ji}{k:Nat}{f C:Addr}{fd:FuncData}{ps ks:List Str}{sp:Sp}{E:XK}{x m:Str}{p pos apos kpos:Pos}{e o:Expr}{es:List Expr}{kws:List Keyword}{te ta:TE}{t tk:TA}{nm:Option Str}
structure KBinds(K:cZ)(fd:FuncData)(ps ks:List Str)(g:List Value->List Value->List Value)(gV:List V->List V->List V):Prop where
 to:∀(s:Shared)(us ws:List Value),K.In s.heap->(g us ws).length=ps.length->BindsTo s fd ⟨us,ks.zip ws⟩ (ps.zip (g us ws))
 rel:∀ {vs:List V} {us:List Value} {zs:List V} {ws:List Value},Vals vs us->Vals zs ws->Vals (gV vs zs) (g us ws)
variable{g:List Value->List Value->List Value}{gV:List V->List V->List V}
end
structure aq(N P:List Str)(sc:Scope):Prop where
 kind:sc.kind = .function
 co:sc.isCoroutine=false
 gen:sc.isGenerator=false
 nd:N.Nodup
 pre:N.take P.length=P
 par:∀ x∈P,sc.names.lookup x=some .local∨sc.names.lookup x=some .cell
 Nk:∀ y∈sc.names,y.2≠.free
theorem Gp{kindOf:Str->Option NameKind}{x:Str}:∀ {binds:List (Str×Value)} {m:Str->Option Value},(∀ v,(x,v)∉binds)->bindL kindOf binds m x=m x
 | [],_,_=>rfl
 | (n,v)::r,m,h=>by
  unfold bindL;rw[Gp fun w hw=>h w (wy _ hw)]
  split
  ·have:x≠n:=by rintro rfl;exact h v Aa
   simp [this]
  ·rfl
theorem Gr{kindOf:Str->Option NameKind}{x:Str}:∀ {binds:List (Str×Value)} {m:Str->Option Value},(∀ v,(x,v)∉binds)->bindC kindOf binds m x=m x
 | [],_,_=>rfl
 | (n,v)::r,m,h=>by
  unfold bindC;rw[Gr fun w hw=>h w (wy _ hw)]
  split
  ·rfl
  ·have:x≠n:=by rintro rfl;exact h v Aa
   simp [this]
theorem Gq{kindOf:Str->Option NameKind}{x:Str}{v:Value}:∀ {P:List Str} {vs:List Value} {i:Nat} {m:Str->Option Value},P.Nodup->P[i]? = some x->vs[i]? = some v->kindOf x=some .local →
  bindL kindOf (P.zip vs) m x=some v
 | [],_,_,_,_,h,_,_=>by simp at h
 | _::_,[],_,_,_,_,h,_=>by simp at h
 | p::P,w::vs,0,m,nd,h1,h2,hk=>by
  simp at h1 h2;subst h1;subst h2;show bindL kindOf ((p,w)::P.zip vs) m p=_;unfold bindL;rw[Gp fun v hv=>(List.nodup_cons.mp nd).1 (List.of_mem_zip hv).1,if_pos hk];simp
 | p::P,w::vs,i+1,m,nd,h1,h2,hk=>by
  show bindL kindOf ((p,w)::P.zip vs) m x=_;unfold bindL;exact Gq (i:=i) (List.nodup_cons.mp nd).2 (by simpa using h1) (by simpa using h2) hk
theorem Gs{kindOf:Str->Option NameKind}{x:Str}{v:Value}:∀ {P:List Str} {vs:List Value} {i:Nat} {m:Str->Option Value},P.Nodup->P[i]? = some x->vs[i]? = some v->kindOf x≠some .local →
  bindC kindOf (P.zip vs) m x=some v
 | [],_,_,_,_,h,_,_=>by simp at h
 | _::_,[],_,_,_,_,h,_=>by simp at h
 | p::P,w::vs,0,m,nd,h1,h2,hk=>by
  simp at h1 h2;subst h1;subst h2;show bindC kindOf ((p,w)::P.zip vs) m p=_;unfold bindC;rw[Gr fun v hv=>(List.nodup_cons.mp nd).1 (List.of_mem_zip hv).1,if_neg hk];simp
 | p::P,w::vs,i+1,m,nd,h1,h2,hk=>by
  show bindC kindOf ((p,w)::P.zip vs) m x=_;unfold bindC;exact Gs (i:=i) (List.nodup_cons.mp nd).2 (by simpa using h1) (by simpa using h2) hk
noncomputable def start(N:List Str)(vs:List V):St:=vs.map some++List.replicate (N.length-vs.length) none
noncomputable def pI(CX:Ji)(P:Program)(w:World)(K:cZ)(mg:Str->Option Value)(base:Heap)(N:List Str)(qual:Str)(scope:Scope)(f:Addr)(cd:Value)(A:Around)(outer:List Env)(s:Shared)(H:Hp)(E:XK):Cx where
 prog:=P
 w:=w
 K:=K
 mg:=mg
 base:=base
 A:=A.deeper (envOfC qual scope s.heap.objs.size f cd)
 N:=N
 s₀:=s
 H₀:=H
 env:=envOfC qual scope s.heap.objs.size f cd
 outer:=outer
 stack:=envOfC qual scope s.heap.objs.size f cd::outer
 ex:=[]
 calm:=true
 fn:=fun _=>true
 pn:=[]
 xe:=fun e s'=>wpAny (model P w) (A.deeper (envOfC qual scope s.heap.objs.size f cd)) (leaving (envOfC qual scope s.heap.objs.size f cd) e) (fun _ s''=>CX outer H s E e s'') (fun e' s''=>CX outer H s E e' s'') s'
theorem Lq{sc:Scope}{n:Nat}{x:Str}(h:sc.names.lookup x=some .cell):∃ c,(cellsFrom n sc.names []).lookup x=some c:=by
 have q:=PySem.W.cellsFrom_some sc.names n [] (.inl h);exact Option.isSome_iff_exists.mp q
theorem GR{CX:Ji}{P:Program}{w:World}{K:cZ}{mg:Str->Option Value}{base:Heap}{N ps:List Str}{qual:Str}{scope:Scope}{f:Addr}{cd:Value}{A:Around}{outer:List Env}{s s1:Shared}{H:Hp}{E:XK}{us:List Value}{vs:List V}
  (S:aq N ps scope) (hd:A.handled=none) (e0:Je P w K mg base A outer s H) (hl:vs.length=ps.length) (r:Vals vs us)
  (x:InCallC s s.heap.objs.size (bindL (envOfC qual scope s.heap.objs.size f cd).kindOf (ps.zip us) fun _=>none) (cellsFrom (s.heap.objs.size+1) scope.names []) (bindC (envOfC qual scope s.heap.objs.size f cd).kindOf (ps.zip us) fun _=>none) s1) :
  Inv (pI CX P w K mg base N qual scope f cd A outer s H E) [] (start N vs) H s1:=by
 have hpl:ps.length<=N.length:=by have:=congrArg List.length S.pre;rw[Qp]at this;lia
 obtain⟨h1,tk,rfl,hk⟩:=x.done;have noA:∀ b:Addr,b∉(pI CX P w K mg base N qual scope f cd A outer s H E).ex:=fun b z=>absurd (show b∈([]:List Addr) from z) (by simp)
 refine⟨⟨e0.mod,S.kind,rfl,rfl,jj _,fun y z c h1 h2=>?_,fun y hy=>?_,fun y c _ h=>?_,fun _=>hd,Around.frames_deeper e0.frames,.inr ⟨rfl,rfl⟩,fun b z=>absurd z (noA b),e0.bs,e0.Td,fun b _ _=>noA b,fun b z=>absurd z (noA b),e0.uG,e0.Vb⟩,
  rfl,e0.bare,Un.kept hk,⟨_,x.toInCall.ns,fun i y v h1 h2 h3=>?_⟩,fun y c h=>⟨_,x.cell y c h⟩,e0.hok.fresh (Nat.le_refl _),fun y c h=>?_,fun p hp=>absurd (show p∈([]:List (Addr×Obj)) from hp) (by simp),e0.hok.kept hk,?_⟩
 ·exact name_of_addr x.apart (PySem.mem_of_lookup h1) (PySem.mem_of_lookup h2)
 ·have hy:scope.names.lookup y=some .cell∨scope.names.lookup y=some .free:=hy;rcases hy with hy | hy
  ·exact Lq hy
  ·exact absurd rfl (S.Nk _ (PySem.mem_of_lookup hy))
 ·exact Nat.le_of_lt (x.above y c (PySem.mem_of_lookup h))
 ·have hi:i<vs.length:=by
   unfold start at h2
   by_cases hi:i<vs.length
   ·exact hi
   ·rw[List.getElem?_append_right (by simpa using hi)]at h2;rw[List.getElem?_replicate]at h2
    split at h2 <;> cases h2
  have ha:vs[i]? = some v:=by
   unfold start at h2;rw[List.getElem?_append_left (by simpa using hi),List.getElem?_map]at h2
   cases e:vs[i]? with
   | none=>rw[e]at h2;cases h2
   | some a=>rw[e]at h2;cases h2;rfl
  obtain⟨u,hu,rv⟩:=r.get ha
  have hp:ps[i]? = some y:=by
   rw[<-S.pre,List.getElem?_take_of_lt (by lia)];exact h1
  have ndP:ps.Nodup:=by rw[<-S.pre];exact S.nd.sublist (List.take_sublist _ _)
  refine⟨u,rv,?_⟩;rcases S.par y (zw6 hp) with k | k
  ·exact .inl ⟨k,Gq ndP hp hu k⟩
  ·obtain⟨c,e⟩:=Lq (n:=s.heap.objs.size+1) k;refine .inr ⟨.inl k,c,e,?_⟩;have q:=x.cell y c e;rw[Gs ndP hp hu (by show scope.names.lookup y≠_;rw[k];decide)]at q;exact q
 ·exact e0.hok.fresh (Nat.le_of_lt (x.above y c (PySem.mem_of_lookup h)))
 ·unfold start;show _=N.length;rw[rQ,jH,List.length_replicate];lia
theorem Zj{CX:Ji}{P:Program}{w:World}{K:cZ}{mg:Str->Option Value}{base:Heap}{k:Nat}{f:Addr}{name qual:Str}{params:Arguments}{body:List Stmt}{scope:Scope}{dV kV doc pm cdv ct oc:Value}{an od:Option Addr}
  {osl:Array (Option Value)} {N ps:List Str} {sp:Sp} (lk:K.lookup f=some ⟨oc,od,.func (PySem.W.fnOf name qual params body scope dV kV doc pm an cdv ct),osl⟩) (hcd:PySem.W.codeIn K cdv qual=true) (S:aq N ps scope)
  (len:∀ vs H Q E,sp vs H Q E->vs.length=ps.length)
  (hbody:∀(A:Around)(outer:List Env)(s:Shared)(H:Hp)(vs:List V)(Q:VK)(E:XK),iC k (A.deeper (envOfC qual scope s.heap.objs.size f cdv))->sp vs H Q E →
   ∃ t,JV (pI CX P w K mg base N qual scope f cdv A outer s H E) body t/\t { nx:=fun _ H'=>Q .non H',rt:=Q } (start N vs) H) :
  bc P w K mg base CX (k+1) f (PySem.W.fnOf name qual params body scope dV kV doc pm an cdv ct) ps sp:=by
 refine⟨len,fun A outer s H args us vs Q E hr e0 hb r hsp=>?_⟩;have hl:=len _ _ _ _ hsp;have KX:K.In s.heap:=e0.mod.Y4.keeps fun b o e=>(e0.bs b o e).1;have lim:s.heap.NoLimit:=e0.mod.nolimit.keeps fun b o e=>(e0.bs b o e).1
 have hkind:∀ y∈ps.zip us,scope.names.lookup y.1=some .local∨(scope.names.lookup y.1=some .cell/\((cellsFrom (s.heap.objs.size+1) scope.names []).lookup y.1).isSome=true):=fun ⟨n,v⟩ hy=>by
  rcases S.par n (List.of_mem_zip hy).1 with q | q
  ·exact .inl q
  ·exact .inr ⟨q,PySem.W.cellsFrom_some _ _ _ (.inl q)⟩
 refine codeAny_call_function hr.depth (KX _ _ lk) rfl S.co S.gen rfl (PySem.W.codeRec_of KX hcd) (hb _ _ _ _ ?_);refine wpAny_newFunctionEnv_cells S.kind hkind fun env he s1 x=>?_;subst he;refine⟨lim.keeps x.toInCall.keep,codeAny_func ?_⟩;obtain⟨t,ht,hq⟩:=hbody A outer s H vs Q E (hr.deeper _) hsp;have I:Inv (pI CX P w K mg base N qual scope f cdv A outer s H E) [] (start N vs) H s1:=GR S hr.hd e0 hl r x;refine wpAny_mono (ht [] s1 (start N vs) H _ I hq) (fun fl s' hs=>?_) fun e s' hs=>hs
 have fin:∀ {σ':St} {H':Hp} {v:V} {u:Value},Inv (pI CX P w K mg base N qual scope f cdv A outer s H E) [] σ' H' s'->RelV v u->Q v H'->CE outer P w H s Q u s':=
  fun {σ' H' v u} J rv q=>⟨v,H',J.os,J.bare,J.base,J.hok,rv,q⟩
 cases fl with
 | ret u=>
  obtain⟨v,σ',H',J,rv,q⟩:=hs;exact fin J rv q
 | next=>
  obtain⟨σ',H',J,q⟩:=hs;exact fin (v:=V.non) (u:=Value.none) J rfl q
 | brk=>
  obtain⟨_,_,_,q⟩:=hs;exact False.elim q
 | cont=>
  obtain⟨_,_,_,q⟩:=hs;exact False.elim q
section
variable{X:Cx}{x:Str}{p pos:Pos}{e:Expr}{es:List Expr}{t:TA}{id T:String}{r:List V->Hp->VK->Prop}
noncomputable def tCB(r:List V->Hp->VK->Prop)(t:TA):TE:=fun σ H Q=>t σ H fun vs H1=>r vs H1 Q
theorem zS(hc:nu X (.builtin id) r)(hg:Gl X x)(hm:X.mg x=none)(hv:bootBuiltins x=some (.builtin id))(ha:PA X (e::es) t)(hn:x ≠ "__name__" := by decide)(hdb:(x==("__debug__" : Str))=false:=by decide)
  (he:starEach (e::es) X.env=(false,eval e X.env)::starEach es X.env:=by rfl) (hpl:(backTo pos (starEach es X.env)).any (·.1)=false:=by rfl):PE X (.Call (.Name x p) (e::es) [] pos) (tCB r t):=by
 intro pins s σ H Q I h;refine wpAny_Call_Name_kw (sH I hg hm hv ?_ hn hdb);exact PyProof.Rows.callWith_builtin1 (gO (ha pos pins s σ H _ I h) fun us s1 ⟨vs,H1,I1,r1,q1⟩=>hc pins s1 σ H1 vs us Q I1 r1 q1) he hpl
theorem zY(hc:nu X (.type T) r)(hg:Gl X x)(hm:X.mg x=none)(hv:bootBuiltins x=some (.type T))(ha:PA X (e::es) t)(hn:x ≠ "__name__" := by decide)(hdb:(x==("__debug__" : Str))=false:=by decide)
  (he:starEach (e::es) X.env=(false,eval e X.env)::starEach es X.env:=by rfl) (hpl:(backTo pos (starEach es X.env)).any (·.1)=false:=by rfl):PE X (.Call (.Name x p) (e::es) [] pos) (tCB r t):=by
 intro pins s σ H Q I h;refine wpAny_Call_Name_kw (sH I hg hm hv ?_ hn hdb);exact PyProof.Rows.callWith_type1 (gO (ha pos pins s σ H _ I h) fun us s1 ⟨vs,H1,I1,r1,q1⟩=>hc pins s1 σ H1 vs us Q I1 r1 q1) he hpl
end
end L2
namespace HT
open PySem PyProof.Rows
section
open PySem.SeqAt
open PySem.AutoSeq1 (wpAny_loadPart')
open PySem.MeetsSeq PySem.MeetsSeq2 PySem.MeetsSeq3
end
section
variable{prog:Program}{w:World}{A:Around}{E:Value->Shared->Prop}{s:Shared}
theorem Yv{t b:Addr}{vs ws:List Value}{Q:Value->Shared->Prop}(ht:IsTup s.heap t vs.toArray)(hb:IsTup s.heap b ws.toArray)(hv:vs≠[])
  (h1:ws=[]->Q (.ref t) s) (h2:ws≠[]->Q (.ref s.heap.objs.size) { s with heap:=s.heap.push { cls:=.type "tuple",data:=.seq (vs++ws).toArray } })
  (hsz:vs.length+ws.length<=sizeLine):wpAny (model prog w) A (binaryOp .Add (.ref t) (.ref b)) Q E s:=by
 obtain⟨⟨cls,dd,data,sl⟩,ho,hc,n,hd⟩:=id ht;obtain⟨⟨cls2,dd2,data2,sl2⟩,ho2,hc2,n2,hd2⟩:=id hb;simp only at hc hd hc2 hd2;subst hc hd hc2 hd2
 have e:vs.toArray++ws.toArray=(vs++ws).toArray:=by simp
 by_cases hw:ws=[]
 ·exact concat_meets ⟨_,ho,rfl⟩ ⟨_,ho2,rfl⟩ noFill_tuple_add seq_tuple_add PySem.F.slot_tuple_add PySem.F.entry_tuple_add (PySem.F.args_tuple_add_2 _ _)
   (tuple_addW1 t b vs.toArray ws.toArray n n2 dd dd2 sl sl2 (by simpa using hv) (by simp [hw])) ⟨ho,ho2,h1 hw⟩
 ·refine concat_meets ⟨_,ho,rfl⟩ ⟨_,ho2,rfl⟩ noFill_tuple_add seq_tuple_add PySem.F.slot_tuple_add PySem.F.entry_tuple_add (PySem.F.args_tuple_add_2 _ _)
   (tuple_addW2 t b vs.toArray ws.toArray n n2 dd dd2 sl sl2 (by simpa using hv) (by simpa using hw) (by rw[List.size_toArray,List.size_toArray];exact hsz)) ⟨ho,ho2,?_⟩
  rw[e];exact h2 hw
noncomputable def gb(n d:Nat):Option Int->Nat
 | none=>d
 | some v=>if v<0 then (v+(n:Int)).toNat else min v.toNat n
theorem qAJ(n d:Nat)(hd:d<=n)(o:Option Int):gb n d o<=n:=by
 cases o with
 | none=>exact hd
 | some v=>
  show (if v<0 then (v+(n:Int)).toNat else min v.toNat n)<=n
  by_cases hv:v<0
  ·rw[if_pos hv];lia
  ·rw[if_neg hv];exact Nat.min_le_right _ _
theorem Qd(v:Int)(n d:Nat):(if v<0 then max (v+(n:Int)) 0 else min v (n:Int))=((gb n d (some v):Nat):Int):=by
 show (if v<0 then max (v+(n:Int)) 0 else min v (n:Int))=(((if v<0 then (v+(n:Int)).toNat else min v.toNat n):Nat):Int)
 by_cases hv:v<0
 ·simp only[if_pos hv];lia
 ·simp only[if_neg hv];lia
theorem Oz(lo hi:Option Int)(n:Nat):Builtin.Slice.sliceAdjust lo hi 1 (n:Int)=(((gb n 0 lo:Nat):Int),((gb n n hi:Nat):Int)):=by
 have h1:¬ ((1:Int)<0):=by lia
 unfold Builtin.Slice.sliceAdjust;simp only[h1,if_false];refine Prod.ext ?_ ?_
 ·cases lo with
  | none=>rfl
  | some v=>exact Qd v n 0
 ·cases hi with
  | none=>rfl
  | some v=>exact Qd v n n
theorem NK(i j:Nat):Builtin.Slice.slicePlaces (i:Int) (j:Int) 1=j-i:=by
 unfold Builtin.Slice.slicePlaces
 have h1:(1:Int)>0:=by lia
 simp only[h1,if_true,Int.ediv_one]
 split <;> lia
theorem Bj{v:Value}{o:Option Int}{Q:Option Int->Shared->Prop}(p:IsPart v o)(h:Q o s):wpAny (model prog w) A (Builtin.Slice.slicePartIndex v) Q E s:=by
 cases p with
 | none=>exact slicePart_none h
 | int i t=>exact slicePart_int h
theorem pN{sl:Addr}{vl vu:Value}{lo hi:Option Int}{n:Nat}{Q:Int×Int×Nat->Shared->Prop}(hs:s.heap.IsSliceOf sl vl vu .none)(pl:IsPart vl lo)(pu:IsPart vu hi)
  (h:Q (((gb n 0 lo:Nat):Int),1,gb n n hi-gb n 0 lo) s):wpAny (model prog w) A (Builtin.Slice.sliceApplied (.ref sl) (pure (n:Int))) Q E s:=by
 obtain⟨os,hos,hcs,hds⟩:=id hs;unfold Builtin.Slice.sliceApplied Builtin.Slice.sliceFields;refine wpAny_bind (wpAny_bind (wpAny_field hos hds (x:=vl) rfl (wpAny_bind (wpAny_field hos hds (x:=vu) rfl (wpAny_bind (wpAny_field hos hds (x:=.none) rfl (wpAny_pure ?_)))))));refine wpAny_bind (slicePart_none ?_);show wpAny _ _ (if ((1:Int)==0)=true then _ else _) _ _ s;rw[if_neg (by decide)];refine wpAny_bind (Bj pl (wpAny_bind (Bj pu (wpAny_bind (wpAny_pure ?_)))));show wpAny _ _ (match Builtin.Slice.sliceAdjust lo hi 1 (n:Int) with | (lo,hi)=>pure (lo,(1:Int),Builtin.Slice.slicePlaces lo hi 1)) _ _ s;rw[Oz lo hi n];show wpAny _ _ (pure (((gb n 0 lo:Nat):Int),(1:Int),Builtin.Slice.slicePlaces ((gb n 0 lo:Nat):Int) ((gb n n hi:Nat):Int) 1)) _ _ s;rw[NK];exact wpAny_pure h
theorem Uk(xs:Array Value)(i k:Nat):((List.range k).filterMap fun (m:Nat)=>xs[((i:Int)+(m:Int)*1).toNat]?).toArray=((xs.toList.drop i).take k).toArray:=by
 have e:(fun (m:Nat)=>xs[((i:Int)+(m:Int)*1).toNat]?)=fun m=>xs[i+m]?:=by
  funext m
  have:((i:Int)+(m:Int)*1).toNat=i+m:=by lia
  rw[this]
 rw[e];have:=pick_run xs i k;rw[List.filterMap_map]at this;have e2:((fun x=>xs[x]?) ∘ fun x=>i+x)=fun m=>xs[i+m]?:=rfl;rw[e2]at this;rw[this]
theorem wH{t sl:Addr}{items:Array Value}{vl vu:Value}{lo hi:Option Int}{Q:Value->Shared->Prop}(ht:IsTup s.heap t items)(hs:s.heap.IsSliceOf sl vl vu .none)(pl:IsPart vl lo)(pu:IsPart vu hi)
  (hw:¬ (gb items.size 0 lo=0/\gb items.size items.size hi=items.size))
  (h:Q (.ref s.heap.objs.size) { s with heap:=s.heap.push { cls:=.type "tuple",data:=.seq ((items.toList.drop (gb items.size 0 lo)).take (gb items.size items.size hi-gb items.size 0 lo)).toArray } })
  (hsz:items.size<=sizeLine):wpAny (model prog w) A (getItem (.ref t) (.ref sl)) Q E s:=by
 have QR:sizeOk (.seq ((items.toList.drop (gb items.size 0 lo)).take (gb items.size items.size hi-gb items.size 0 lo)).toArray):=by
  show ((items.toList.drop (gb items.size 0 lo)).take (gb items.size items.size hi-gb items.size 0 lo)).toArray.size<=sizeLine;rw[wk,Qp,List.length_drop,Array.length_toList];lia
 have hj:gb items.size items.size hi<=items.size:=qAJ _ _ (jj _) hi;obtain⟨os,hos,hcs,hds⟩:=id hs;have hTs:s.TypeIs (.ref sl) "slice" := ⟨os,hos,hcs⟩;unfold getItem
 try with_reducible refine wpAny_holding ?_
 first | refine wpAny_bind (wpAny_pure ?_) | skip
 refine wpAny_bind (wpAny_sequenceKey ht.typeIs (by decide) ?_)
 refine wpAny_bind (wpAny_callSpecial?_slot (name:=Str.ofString "__getitem__") ht.typeIs PyProof.Rows.slot_tuple_getitem
  (wpAny_call_entry PyProof.Rows.slot_tuple_getitem ht.typeIs entry_tuple_getitem ?_ (args_tuple_getitem _ _)))
 show wpAny _ _ (Builtin.Tuple.tupleItemsOf (.ref t) >>= _) _ _ s;refine wpAny_bind (tupleItemsOf_ ht ?_);refine wpAny_bind (wpAny_typeOf hTs ?_);rw[if_pos (by decide)];refine wpAny_bind (pN hs pl pu ?_)
 have hno:¬ ((((gb items.size 0 lo:Nat):Int)==0&&(1:Int)==1&&(gb items.size items.size hi-gb items.size 0 lo)==items.size)=true):=by
  intro q;rw[Bool.and_eq_true,Bool.and_eq_true]at q;have q1:((gb items.size 0 lo:Nat):Int)=0:=eq_of_beq q.1.1;have q2:gb items.size items.size hi-gb items.size 0 lo=items.size:=eq_of_beq q.2;exact hw ⟨by lia,by lia⟩
 show wpAny _ _ (if (((gb items.size 0 lo:Nat):Int)==0&&(1:Int)==1&&(gb items.size items.size hi-gb items.size 0 lo)==items.size)=true then _ else _) _ _ s;rw[if_neg hno,Uk]
 first
  | exact wpAny_bind (m:=Builtin.Tuple.tupleExact _) (wpAny_newObj_type (wpAny_pure ⟨_,rfl,wpAny_pure h⟩) QR)
  | exact wpAny_bind (m:=Builtin.Tuple.tupleExact _) (wpAny_newObj_type (wpAny_bind (wpAny_pure (wpAny_pure ⟨_,rfl,wpAny_pure h⟩))) QR)
  | exact wpAny_bind (wpAny_bind (m:=Builtin.Tuple.tupleExact _) (wpAny_newObj_type (wpAny_pure (wpAny_pure ⟨_,rfl,wpAny_pure h⟩)) QR))
  | exact wpAny_bind (wpAny_bind (m:=Builtin.Tuple.tupleExact _) (wpAny_newObj_type (wpAny_pure ⟨_,rfl,wpAny_pure h⟩) QR))
end
end HT
namespace L2
open PySem PySem.Spec PyProof.Rows
noncomputable abbrev TO:=St->Hp->(Option Int->Hp->Prop)->Prop
noncomputable def PO(X:Cx)(e:Option Expr)(t:TO):Prop:=
 ∀(pins:List (Addr×Obj))(s:Shared)(σ:St)(H:Hp)(Q:Option Int->Hp->Prop),Inv X pins σ H s->t σ H Q →
  wpAny (model X.prog X.w) X.A (evalPart e X.env) (fun u s'=>∃ o H',Inv X pins σ H' s'/\IsPart u o/\Q o H') X.xe s
noncomputable def Pb:TO:=fun _ H Q=>Q none H
noncomputable def ZD(t:TE):TO:=fun σ H Q=>t σ H fun x H1 => ∃ i,x = .int i/\Q (some i) H1
section
variable{X:Cx}{e:Expr}{te:TE}{lo hi:Option Expr}{tl th:TO}{pos p2:Pos}
theorem mH:PO X none Pb:=by
 intro pins s σ H Q I h;rw[evalPart_none];exact wpAny_pure ⟨none,H,I,.none,h⟩
theorem mG(h:PE X e te):PO X (some e) (ZD te):=by
 intro pins s σ H Q I hw;rw[evalPart_some];refine gO (h pins s σ H _ I hw) fun u s1 ⟨x,H1,I1,r1,q1⟩=>?_;obtain⟨i,rfl,q⟩:=q1;obtain⟨t,rfl⟩:=r1;exact⟨some i,H1,I1,.int i t,q⟩
noncomputable def Te(X:Cx)(r:V->Option Int->Option Int->Hp->VK->Prop):Prop:=
 ∀(pins:List (Addr×Obj))(s:Shared)(σ:St)(H:Hp)(x:V)(v vl vu:Value)(lo hi:Option Int)(sl:Addr)(Q:VK),Inv X pins σ H s->RelV x v->s.heap.IsSliceOf sl vl vu .none->IsPart vl lo->IsPart vu hi->r x lo hi H Q →
  ∃ T id,typeLookup (.type T) "__getitem__" = pure (some (.builtin id))/\s.TypeIs v T/\wpAny (model X.prog X.w) X.A (getItem v (.ref sl)) (EP X pins σ Q) X.xe s
theorem Te.or{r r':V->Option Int->Option Int->Hp->VK->Prop}(h:Te X r)(h':Te X r'):Te X (fun x lo hi H Q=>r x lo hi H Q∨r' x lo hi H Q):=by
 intro pins s σ H x v vl vu lo hi sl Q I rx hs pl pu q;rcases q with q | q
 ·exact h pins s σ H x v vl vu lo hi sl Q I rx hs pl pu q
 ·exact h' pins s σ H x v vl vu lo hi sl Q I rx hs pl pu q
noncomputable def tSl(r:V->Option Int->Option Int->Hp->VK->Prop)(te:TE)(tl th:TO):TE:=fun σ H Q=>te σ H fun x H1=>tl σ H1 fun l H2=>th σ H2 fun u H3=>r x l u H3 Q
theorem jX{r:V->Option Int->Option Int->Hp->VK->Prop}(hr:Te X r)(he:PE X e te)(hl:PO X lo tl)(hu:PO X hi th):PE X (.Subscript e (.Slice lo hi none p2) pos) (tSl r te tl th):=by
 intro pins s σ H Q I h;refine Subscript_ (gO (he pins s σ H _ I h) fun v s1 ⟨x,H1,I1,r1,q1⟩=>?_);refine wpAny_Slice (gO (hl pins s1 σ H1 _ I1 q1) fun vl s2 ⟨l,H2,I2,pl,q2⟩=>gO (hu pins s2 σ H2 _ I2 q2) fun vu s3 ⟨u,H3,I3,pu,q3⟩=>?_);rw[evalPart_none];refine wpAny_pure ?_;have I4:Inv X pins σ H3 { s3 with heap:=s3.heap.push { cls:=.type "slice",data:=.fields #[vl,vu,.none] } }:=I3.kept (t':=s3.toks) fun b ob q=>mV _ q;obtain⟨T,id,hT,ht,hg⟩:=hr pins { s3 with heap:=s3.heap.push { cls:=.type "slice",data:=.fields #[vl,vu,.none] } } σ H3 x v vl vu l u s3.heap.objs.size Q I4 r1 (Heap.IsSliceOf.new ..) pl pu q3;show wpAny (model X.prog X.w) X.A (subscriptTail e (.Slice lo hi none p2) v (.ref s3.heap.objs.size)) (EP X pins σ Q) X.xe { s3 with heap:=s3.heap.push { cls:=.type "slice",data:=.fields #[vl,vu,.none] } };exact tail_any (ops:=[.ref s3.heap.objs.size,v]) ht hT hg (by with_unfolding_all rfl)
noncomputable def JH(xs:List V)(lo hi:Option Int):List V:=(xs.drop (HT.gb xs.length 0 lo)).take (HT.gb xs.length xs.length hi-HT.gb xs.length 0 lo)
theorem zy(xs:List V)(lo hi:Option Int):(JH xs lo hi).length<=xs.length:=by
 unfold JH;rw[Qp,List.length_drop];lia
noncomputable def qFJ(K:cZ):V->Option Int->Option Int->Hp->VK->Prop:=fun x lo hi H Q => ∃ a xs,x = .ref a/\rM K H a xs ∧
 ¬ (HT.gb xs.length 0 lo=0/\HT.gb xs.length xs.length hi=xs.length)/\∀ p,H p=none->Q (.ref p) (upd H p (.tup (JH xs lo hi)))
theorem qAH:Te X (qFJ X.K):=by
 intro pins s σ H x v vl vu lo hi sl Q I rx hs pl pu h;obtain⟨a,xs,rfl,hx,hw,q⟩:=h
 cases rx
 obtain⟨its,r,ht,hz⟩:=I.tuple hx
 have hlen:its.toArray.size=xs.length:=by rw[wk];exact r.length.symm
 refine⟨"tuple",_,PyProof.Rows.slot_tuple_getitem.lookup,ht.typeIs,?_⟩;refine HT.wH ht hs pl pu (by rw[hlen];exact hw) ?_ (by rw[hlen];exact hz);rw[hlen];refine⟨.ref s.heap.objs.size,_,I.laid (t':=s.toks) (o:=.tup (JH xs lo hi)) (fun b ob q=>mV _ q) (jj _) ?_,rfl,q _ (I.hok.fresh (jj _))⟩;exact⟨Nat.le_trans (zy xs lo hi) hz,_,(r.drop (HT.gb xs.length 0 lo)).take (HT.gb xs.length xs.length hi-HT.gb xs.length 0 lo),IsTup.new _ _⟩
noncomputable def ZS(K:cZ):R2:=fun x y H Q => ∃ a b xs ys,x = .ref a/\y = .ref b/\rM K H a xs/\rM K H b ys/\xs≠[]/\xs.length+ys.length<=sizeLine ∧
 (ys=[]->Q (.ref a) H)/\(ys≠[]->∀ p,H p=none->Q (.ref p) (upd H p (.tup (xs++ys))))
theorem Vals.BP{xs:List V}{us:List Value}(r:Vals xs us):us=[]↔xs=[]:=by
 cases r with
 | nil=>simp
 | cons _ _=>simp
theorem Xf:ni X (binaryOp .Add) (ZS X.K):=by
 intro pins s σ H x y v u Q I rx ry h;obtain⟨a,b,xs,ys,rfl,rfl,ha,hb,hx,hz,q1,q2⟩:=h
 cases rx
 cases ry
 obtain⟨its,r1,p1,_⟩:=I.tuple ha;obtain⟨its2,r2,p2,_⟩:=I.tuple hb;refine HT.Yv p1 p2 (fun z=>hx (r1.BP.mp z)) (fun z=>⟨.ref a,H,I,rfl,q1 (r2.BP.mp z)⟩) (fun z=>?_) (by rw[<-r1.length,<-r2.length];exact hz);refine⟨.ref s.heap.objs.size,_,I.laid (t':=s.toks) (o:=.tup (xs++ys)) (fun b ob q=>mV _ q) (jj _) ?_,rfl,q2 (fun w=>z (r2.BP.mpr w)) _ (I.hok.fresh (jj _))⟩;exact⟨by rw[rQ];exact hz,_,r1.append r2,IsTup.new _ _⟩
end
noncomputable def Wn(n:Nat)(i:Int):Option Nat:=if 0<=i then (if i<n then some i.toNat else none) else if -(n:Int)<=i then some (i+n).toNat else none
noncomputable def yj{α:Type}(xs:List α)(i:Int):Option α:=(Wn xs.length i).bind fun j=>xs[j]?
theorem Y9{n:Nat}{i:Int}{j:Nat}(h:Wn n i=some j):seqIndex? i n=some j/\j<n /\ -(n:Int)<=i/\i<n:=by
 unfold Wn at h
 by_cases h0:0<=i
 ·rw[if_pos h0]at h
  by_cases h1:i<n
  ·rw[if_pos h1]at h;have e:i.toNat=j:=MN h;exact⟨by rw[seqIndex_of h0 h1,e],by lia,by lia,h1⟩
  ·rw[if_neg h1]at h;cases h
 ·rw[if_neg h0]at h
  by_cases h1 : -(n:Int)<=i
  ·rw[if_pos h1]at h;have e:(i+n).toNat=j:=MN h;exact⟨by rw[seqIndex_neg (by lia) h1,e],by lia,h1,by lia⟩
  ·rw[if_neg h1]at h;cases h
theorem JQ{α:Type}{xs:List α}{i:Int}{v:α}(h:yj xs i=some v):∃ j,seqIndex? i xs.length=some j/\xs[j]? = some v/\j<xs.length /\ -(xs.length:Int)<=i/\i<xs.length:=by
 unfold yj at h
 cases e:Wn xs.length i with
 | none=>rw[e]at h;cases h
 | some j=>
  rw[e]at h;obtain⟨h1,h2,h3,h4⟩:=Y9 e;exact⟨j,h1,h,h2,h3,h4⟩
noncomputable def Ql(b:Expr):Prop:=∀ o i,subscripted b false o i=operate [o,i] (getItem o i)
noncomputable def Wc(X:Cx)(r:R2):Prop:=
 ∀(value slice:Expr)(pins:List (Addr×Obj))(s:Shared)(σ:St)(H:Hp)(x y:V)(v u:Value)(Q:VK),Inv X pins σ H s->RelV x v->RelV y u->r x y H Q →
  subscripted slice false v u=operate [v,u] (getItem v u)->wpAny (model X.prog X.w) X.A (subscriptTail value slice v u) (EP X pins σ Q) X.xe s
noncomputable def MtR(X:Cx)(id:String)(r:V->List V->Hp->VK->Prop):Prop:=
 ∀(pins:List (Addr×Obj))(s:Shared)(σ:St)(H:Hp)(x:V)(xs:List V)(v:Value)(us:List Value)(Q:VK),Inv X pins σ H s->RelV x v->Vals xs us->r x xs H Q →
  wpAny (model X.prog X.w) X.A (call (.builtin id) (v::us)) (EP X pins σ Q) X.xe s
section
variable{X:Cx}{a b:Expr}{ta tb:TE}{pos:Pos}
theorem zZ{r:R2}(hr:Wc X r)(ha:PE X a ta)(hb:PE X b tb)(hs:Ql b):PE X (.Subscript a b pos) (X3 r ta tb):=by
 intro pins s σ H Q I h;exact Subscript_ (qC0 ha hb I h fun v u s2 x y H2 I2 rx ry q=>hr a b pins s2 σ H2 x y v u Q I2 rx ry q (hs _ _))
noncomputable def qCT(K:cZ):R2:=fun x y H Q => ∃ p xs i v,x = .ref p/\y = .int i/\jk K H p xs/\yj xs i=some v/\Q v H
noncomputable def qCR(K:cZ):R2:=fun x y H Q => ∃ p xs i v,x = .ref p/\y = .int i/\rM K H p xs/\yj xs i=some v/\Q v H
noncomputable def qCS:R2:=fun x y H Q => ∃ z i c,x = .str z/\y = .int i/\z.length<=sizeLine/\yj z.cps.toList i=some c/\Q (.str ⟨#[c]⟩) H
theorem yN:Wc X (qCT X.K):=by
 intro value slice pins s σ H x y v u Q I rx ry h hs;obtain⟨p,xs,i,z,rfl,rfl,hq,he,q⟩:=h
 cases rx
 obtain⟨t,rfl⟩:=ry;obtain⟨its,r,pl,hz⟩:=I.list hq;obtain⟨j,h1,h2,h3,h4,h5⟩:=JQ he;obtain⟨w,ew,rw'⟩:=r.get h2;have hl:=r.length;have hn:=Cp;have fin:EP X pins σ Q w s:=⟨z,H,I,rw',q⟩
 by_cases h0:0<=i
 ·have hj:i.toNat=j:=by
   rw[seqIndex_of h0 h5]at h1;exact MN h1
  exact item_listR pl.isList h0 (by lia) (by rw[hj];simpa using ew) fin hs
 ·have hj:(i+(its.toArray.size:Int)).toNat=j:=by
   rw[seqIndex_neg (by lia) h4]at h1;rw[wk,<-hl];exact MN h1
  exact subscriptTail_builtinR (x:=w) pl.isList.typeIs slot_list_getitem.lookup
   (wpAny_getItem_list_neg (Q:=fun r s'=>r=w/\EP X pins σ Q r s') pl.isList (by lia) (by rw[List.size_toArray] <;> lia) (by lia) (by rw[hj];simpa using ew) ⟨rfl,fin⟩) hs
theorem zG:Wc X (qCR X.K):=by
 intro value slice pins s σ H x y v u Q I rx ry h hs;obtain⟨p,xs,i,z,rfl,rfl,hq,he,q⟩:=h
 cases rx
 obtain⟨t,rfl⟩:=ry;obtain⟨its,r,pl,hz⟩:=I.tuple hq;obtain⟨j,h1,h2,h3,h4,h5⟩:=JQ he;obtain⟨w,ew,rw'⟩:=r.get h2;have hl:=r.length;have hn:=Cp;have fin:EP X pins σ Q w s:=⟨z,H,I,rw',q⟩;exact subscriptTail_builtinR (x:=w) pl.typeIs slot_tuple_getitem.lookup
  (getItem_tuple (j:=j) (Q:=fun r s'=>r=w/\EP X pins σ Q r s') pl (by lia) (by lia) (by rw[List.size_toArray,<-hl];exact h1) (by simpa using ew) ⟨rfl,fin⟩) hs
theorem qBJ:Wc X qCS:=by
 intro value slice pins s σ H x y v u Q I rx ry h hs;obtain⟨z,i,c,rfl,rfl,hz,he,q⟩:=h;obtain⟨t,rfl⟩:=rx;obtain⟨t',rfl⟩:=ry;obtain⟨j,h1,h2,h3,h4,h5⟩:=JQ he
 have hl:z.cps.toList.length=z.length:=by simp [Str.length]
 rw[hl]at h1 h4 h5;have hn:=Cp
 exact tail_any (typeIs_str s z t) slot_str_getitem.lookup (getItem_str (c:=c) (by
  have e1:decide (i < -(2 ^ 63:Int))=false:=decide_eq_false (by lia);have e2:decide (i≥2 ^ 63)=false:=decide_eq_false (by lia)
  rw[e1,e2,Bool.or_false]) (by rw[h1];simpa using h2) ⟨.str ⟨#[c]⟩,H,I.tok _,⟨_,rfl⟩,q⟩) hs
theorem HD(lo hi:Option Int)(n:Nat):(sliceBounds lo hi none n).1=((HT.gb n 0 lo:Nat):Int)/\(sliceBounds lo hi none n).2.1=((HT.gb n n hi:Nat):Int)/\(sliceBounds lo hi none n).2.2=1:=by
 refine⟨?_,?_,rfl⟩
 ·cases lo with
  | none=>simp [sliceBounds,HT.gb]
  | some i=>
   simp only[sliceBounds,HT.gb,Option.getD_none,show (1:Int)>0 by decide,if_true]
   by_cases h:i<0
   ·simp only[h,if_true] <;> lia
   ·simp only[h,if_false] <;> lia
 ·cases hi with
  | none=>simp [sliceBounds,HT.gb]
  | some i=>
   simp only[sliceBounds,HT.gb,Option.getD_none,show (1:Int)>0 by decide,if_true]
   by_cases h:i<0
   ·simp only[h,if_true] <;> lia
   ·simp only[h,if_false] <;> lia
theorem Ec(its:List Value)(lo hi:Option Int):slicePick its.toArray lo hi none=((its.drop (HT.gb its.length 0 lo)).take (HT.gb its.length its.length hi-HT.gb its.length 0 lo)).toArray:=by
 obtain⟨h1,h2,h3⟩:=HD lo hi its.toArray.size;unfold slicePick;rw[h1,h2,h3];simp only[sliceRange_one,pick_run,List.size_toArray] <;> rfl
noncomputable def qCP(K:cZ):V->Option Int->Option Int->Hp->VK->Prop:=fun x lo hi H Q => ∃ a xs,x = .ref a/\jk K H a xs/\∀ p,H p=none->Q (.ref p) (upd H p (.lst (JH xs lo hi)))
theorem XC:Te X (qCP X.K):=by
 intro pins s σ H x v vl vu lo hi sl Q I rx hs pl pu h;obtain⟨a,xs,rfl,hx,q⟩:=h
 cases rx
 obtain⟨its,r,ht,hz⟩:=I.list hx;have hlen:=r.length;refine⟨"list",_,slot_list_getitem.lookup,ht.isList.typeIs,?_⟩;refine wpAny_getItem_list_slice ht.isList hs pl pu .none (by simp) ?_ (by rw[List.size_toArray] <;> lia);rw[Ec,<-hlen];refine⟨.ref s.heap.objs.size,_,I.laid (t':=s.toks) (o:=.lst (JH xs lo hi)) (fun b ob q=>mV _ q) (jj _) ?_,rfl,q _ (I.hok.fresh (jj _))⟩;exact⟨Nat.le_trans (zy xs lo hi) hz,_,0,(r.drop (HT.gb xs.length 0 lo)).take (HT.gb xs.length xs.length hi-HT.gb xs.length 0 lo),wj _ rfl⟩
noncomputable def sZ:V->Bool
 | .non=>true
 | .bl _=>true
 | .int _=>true
 | .str _=>true
 | _=>false
noncomputable def Yc:V->V->Bool
 | .non,.non=>true
 | .bl a,.bl b=>a==b
 | .bl a,.int b=>(if a then 1 else 0)==b
 | .int a,.bl b=>a==(if b then 1 else 0)
 | .int a,.int b=>a==b
 | .str a,.str b=>a==b
 | _,_=>false
theorem Dd{A:Around}{s:Shared}{y x:V}{u v:Value}(ry:RelV y u)(rx:RelV x v)(fy:sZ y=true)(fx:sZ x=true):SeqAt.EqAt A s u v (Yc y x):=by
 cases y with
 | non=>
  cases ry
  cases x with
  | non=>cases rx;exact SeqAt.EqAt.same _
  | bl b=>cases rx;exact SeqAt.EqAt.none_bool b
  | int b=>obtain⟨t,rfl⟩:=rx;exact SeqAt.EqAt.none_int b t
  | str b=>obtain⟨t,rfl⟩:=rx;exact SeqAt.EqAt.none_str b t
  | _=>exact absurd (show false=true from fx) pK
 | bl a=>
  cases ry
  cases x with
  | non=>cases rx;exact SeqAt.EqAt.bool_none a
  | bl b=>cases rx;exact SeqAt.EqAt.bool_bool a b
  | int b=>obtain⟨t,rfl⟩:=rx;exact SeqAt.EqAt.bool_int a b t
  | str b=>obtain⟨t,rfl⟩:=rx;exact SeqAt.EqAt.bool_str a b t
  | _=>exact absurd (show false=true from fx) pK
 | int a=>
  obtain⟨t',rfl⟩:=ry
  cases x with
  | non=>cases rx;exact SeqAt.EqAt.int_none a t'
  | bl b=>cases rx;exact SeqAt.EqAt.int_bool a t' b
  | int b=>obtain⟨t,rfl⟩:=rx;exact SeqAt.EqAt.int_int a t' b t
  | str b=>obtain⟨t,rfl⟩:=rx;exact SeqAt.EqAt.int_str a t' b t
  | _=>exact absurd (show false=true from fx) pK
 | str a=>
  obtain⟨t',rfl⟩:=ry
  cases x with
  | non=>cases rx;exact SeqAt.EqAt.str_none a t'
  | bl b=>cases rx;exact SeqAt.EqAt.str_bool a t' b
  | int b=>obtain⟨t,rfl⟩:=rx;exact SeqAt.EqAt.str_int a t' b t
  | str b=>obtain⟨t,rfl⟩:=rx;exact SeqAt.EqAt.str_str a t' b t
  | _=>exact absurd (show false=true from fx) pK
 | _=>exact absurd (show false=true from fy) pK
noncomputable def Oe(x:V)(u:Value):Bool:=match u with
 | .none=>Yc .non x
 | .bool b=>Yc (.bl b) x
 | .int i _=>Yc (.int i) x
 | .str z _=>Yc (.str z) x
 | _=>false
theorem Vp{x y:V}{u:Value}(r:RelV y u)(f:sZ y=true):Oe x u=Yc y x:=by
 cases y with
 | non=>cases r;rfl
 | bl b=>cases r;rfl
 | int i=>obtain⟨t,rfl⟩:=r;rfl
 | str z=>obtain⟨t,rfl⟩:=r;rfl
 | _=>exact absurd (show false=true from f) pK
theorem wW{x:V}:∀ {xs:List V} {us:List Value},Vals xs us->xs.all sZ=true->us.any (Oe x)=xs.any fun y=>Yc y x
 | _,_,.nil,_=>rfl
 | y::xs,u::us,.cons r t,f=>by
  rw[List.all_cons,Bool.and_eq_true]at f;rw[List.any_cons,List.any_cons,Vp r f.1,wW t f.2]
theorem sG{A:Around}{s:Shared}{x:V}{v:Value}(rx:RelV x v)(fx:sZ x=true):∀ {xs:List V} {us:List Value},Vals xs us->xs.all sZ=true->∀ u∈us,SeqAt.EqAt A s u v (Oe x u)
 | _,_,.nil,_=>fun u hu=>by cases hu
 | y::xs,u::us,.cons r t,f=>fun u' hu=>by
  rw[List.all_cons,Bool.and_eq_true]at f;rcases jo.mp hu with rfl | hu
  ·rw[Vp r f.1];exact Dd r rx f.1 fx
  ·exact sG rx fx t f.2 u' hu
noncomputable def inV(x:V)(xs:List V):Bool:=xs.any fun y=>Yc y x
noncomputable def rIn(K:cZ)(neg:Bool):R2:=fun x y H Q => ∃ p xs,y = .ref p/\(jk K H p xs∨rM K H p xs)/\sZ x=true/\xs.all sZ=true/\Q (.bl (if neg then !inV x xs else inV x xs)) H
theorem RB:ni X (compareOp .In) (rIn X.K false):=by
 intro pins s σ H x y v u Q I rx ry h;obtain⟨p,xs,rfl,hq,fx,fs,q⟩:=h
 cases ry
 rcases hq with hq | hq
 ·obtain⟨its,r,pl,hz⟩:=I.list hq;refine SeqAt.in_listAt (Oe x) pl.isList (fun w hw=>sG rx fx r fs w (by simpa using hw)) ⟨.bl _,H,I,rfl,?_⟩;rw[show its.toArray.any (Oe x)=its.any (Oe x) by simp,wW r fs];exact q
 ·obtain⟨its,r,pl,hz⟩:=I.tuple hq;refine SeqAt.in_tupleAt (Oe x) pl (fun w hw=>sG rx fx r fs w (by simpa using hw)) ⟨.bl _,H,I,rfl,?_⟩;rw[show its.toArray.any (Oe x)=its.any (Oe x) by simp,wW r fs];exact q
theorem Hh:ni X (compareOp .NotIn) (rIn X.K true):=by
 intro pins s σ H x y v u Q I rx ry h;obtain⟨p,xs,rfl,hq,fx,fs,q⟩:=h
 cases ry
 rcases hq with hq | hq
 ·obtain⟨its,r,pl,hz⟩:=I.list hq;refine SeqAt.notIn_listAt (Oe x) pl.isList (fun w hw=>sG rx fx r fs w (by simpa using hw)) ⟨.bl _,H,I,rfl,?_⟩;rw[show its.toArray.any (Oe x)=its.any (Oe x) by simp,wW r fs];exact q
 ·obtain⟨its,r,pl,hz⟩:=I.tuple hq;refine SeqAt.notIn_tupleAt (Oe x) pl (fun w hw=>sG rx fx r fs w (by simpa using hw)) ⟨.bl _,H,I,rfl,?_⟩;rw[show its.toArray.any (Oe x)=its.any (Oe x) by simp,wW r fs];exact q
theorem Hg:ni X (compareOp .NotIn) (fun x y H Q => ∃ i j,x = .str i/\y = .str j/\Q (.bl (!(!(Builtin.Str.occurrences j i 0 j.length 1).isEmpty))) H):=by
 intro pins s σ H x y v u Q I rx ry h;obtain⟨i,j,rfl,rfl,q⟩:=h;obtain⟨t,rfl⟩:=rx;obtain⟨t',rfl⟩:=ry;exact notIn_str ⟨.bl _,H,I,rfl,q⟩
theorem zN:nu X (.builtin "len") (fun xs H Q => ∃ p ys,xs=[.ref p]/\(jk X.K H p ys∨rM X.K H p ys)/\Q (.int ys.length) H):=by
 intro pins s σ H xs us Q I r h;obtain⟨p,ys,rfl,hq,q⟩:=h;obtain⟨u,rfl,rx⟩:=vals1 r
 cases rx
 have hn:=Cp;rcases hq with hq | hq
 ·obtain⟨its,r',pl,hz⟩:=I.list hq;have hlen:=r'.length;exact Calls.call_len_list pl.isList (by simp only[List.size_toArray] <;> lia) ⟨.int ys.length,H,I.tok _,⟨s.toks+1,by rw[List.size_toArray,hlen]⟩,q⟩
 ·obtain⟨its,r',pl,hz⟩:=I.tuple hq;have hlen:=r'.length;exact len_tuple pl (by simp only[List.size_toArray] <;> lia) ⟨.int ys.length,H,I.tok _,⟨s.toks+1,by rw[List.size_toArray,hlen]⟩,q⟩
theorem JM:nu X (.builtin "len") (fun xs H Q => ∃ z,xs=[.str z]/\z.length<=sizeLine/\Q (.int z.length) H):=by
 intro pins s σ H xs us Q I r h;obtain⟨z,rfl,hz,q⟩:=h;obtain⟨u,rfl,t,rfl⟩:=vals1 r;have hn:=Cp;exact len_str (by lia) ⟨.int z.length,H,I.tok _,⟨_,rfl⟩,q⟩
theorem zW:nu X (.type "tuple") (fun xs H Q => ∃ p ys,xs=[.ref p]/\((jk X.K H p ys/\∀ l,H l=none->Q (.ref l) (upd H l (.tup ys)))∨(rM X.K H p ys/\Q (.ref p) H))):=by
 intro pins s σ H xs us Q I r h;obtain⟨p,ys,rfl,h⟩:=h;obtain⟨u,rfl,rx⟩:=vals1 r
 cases rx
 rcases h with ⟨hq,q⟩ | ⟨hq,q⟩
 ·obtain⟨its,r',pl,hz⟩:=I.list hq;have hlen:=r'.length;refine call_tuple_list pl.isList (fun h' kp=>?_) (by simp only[List.size_toArray] <;> lia);have I1:Inv X pins σ H { s with heap:=h' }:=I.kept (t':=s.toks) kp
  have I2:Inv X pins σ (upd H h'.objs.size (.tup ys)) { s with heap:=h'.push { cls:=.type "tuple",data:=.seq its.toArray } }:=
   I1.laid (t':=s.toks) (fun b o e=>mV _ e) (jj _) (show gJ X.prog X.w _ _ _ (.tup ys) from ⟨hz,its,r',IsTup.new _ _⟩)
  exact⟨.ref h'.objs.size,_,I2,rfl,q _ (I1.hok.fresh (jj _))⟩
 ·obtain⟨its,r',pl,hz⟩:=I.tuple hq;exact call_tuple_same pl ⟨.ref p,H,I,rfl,q⟩
noncomputable def tyV(K:cZ)(T:String)(x:V)(H:Hp):Prop:=match x with
 | .str _=>T = "str"
 | .int _=>T = "int"
 | .ref p=>(T = "list" /\ ∃ xs,jk K H p xs)∨(T = "tuple" /\ ∃ o,K.lookup p=some o/\o.cls = .type "tuple" /\ o.dict=none) ∨
   (T = "dict" /\ ((∃ kvs,H p=some (.dK kvs)) ∨ ∃ kvs,H p=some (.dT kvs)))∨(T = "set" /\ ∃ S n,H p=some (.set S n))
 | _=>False
theorem qA8{pins:List (Addr×Obj)}{σ:St}{H:Hp}{s:Shared}{T:String}{x:V}{v:Value}(I:Inv X pins σ H s)(r:RelV x v)(ty:tyV X.K T x H) :
  s.TypeIs v T/\∀ a,v = .ref a->∃ ob,s.heap.get? a=some ob/\ob.dict=none:=by
 cases x with
 | str z=>
  obtain⟨t,rfl⟩:=r
  cases (show T = "str" from ty)
  exact⟨typeIs_str s z t,fun _ e=>nomatch e⟩
 | int i=>
  obtain⟨t,rfl⟩:=r
  cases (show T = "int" from ty)
  exact⟨typeIs_int s i t,fun _ e=>nomatch e⟩
 | ref p=>
  cases r
  rcases ty with ⟨rfl,xs,hq⟩ | ⟨rfl,o,hk,hc,hd⟩ | ⟨rfl,hk⟩ | ⟨rfl,S,n,hk⟩
  ·obtain⟨its,_,pl,_⟩:=I.list hq;refine⟨pl.isList.typeIs,fun a e=>?_⟩
   cases e
   obtain⟨o,n,e,c,hd,_⟩:=pl;exact⟨o,e,hd⟩
  ·refine⟨⟨o,I.oA p o hk,hc⟩,fun a e=>?_⟩
   cases e
   exact⟨o,I.oA _ o hk,hd⟩
  ·have z:∃ o,s.heap.get? p=some o/\o.ExactDict:=by
    rcases hk with ⟨kvs,hk⟩ | ⟨kvs,hk⟩
    ·obtain⟨_,_,_,_,o,_,_,e,ex,_⟩:=I.hok p _ hk;exact⟨o,e,ex⟩
    ·obtain⟨_,_,_,_,o,_,_,e,ex,_⟩:=I.hok p _ hk;exact⟨o,e,ex⟩
   obtain⟨o,e,ex⟩:=z;refine⟨⟨o,e,ex.1⟩,fun a e2=>?_⟩
   cases e2
   exact⟨o,e,ex.2.1⟩
  ·obtain⟨o,_,_,_,e,ex,_⟩:=I.hok p _ hk;refine⟨⟨o,e,ex.1⟩,fun a e2=>?_⟩
   cases e2
   exact⟨o,e,ex.2.1⟩
 | _=>exact False.elim ty
noncomputable def tBM(K:cZ)(T:String)(r:V->List V->Hp->VK->Prop)(to:TE)(t:TA):TE:=fun σ H Q=>to σ H fun x H1=>tyV K T x H1/\t σ H1 fun xs H2=>r x xs H2 Q
variable{o e:Expr}{es:List Expr}{to:TE}{t:TA}{name:Str}{apos cpos:Pos}{T id:String}{r:V->List V->Hp->VK->Prop}
theorem jY(pa:PlainAttrs T)(slot:Slot T name id)(hty:typeOf (.builtin id)=pure (.type "method_descriptor"))(hm:MtR X id r)(ho:PE X o to)(ha:PA X (e::es) t)
  (hbase:attributeBase o name X.env (eval o X.env)=eval o X.env:=by rfl)
  (hfew:((backTo cpos (starEach (e::es) X.env)).all (fun x => !x.1)&&(backToKw cpos (keywordEach [] X.env)).all (fun x=>x.1.isSome)
   && decide ((e::es).length+([]:List Keyword).length+(if ([]:List Keyword).isEmpty then 0 else 1)<30))=true:=by rfl)
  (hline:(apos.endLine==cpos.line)=true:=by rfl) (hs:starEach (e::es) X.env=(false,eval e X.env)::starEach es X.env:=by rfl) (hplain:(backTo cpos (starEach es X.env)).any (·.1)=false:=by rfl) :
  PE X (.Call (.Attribute o name apos) (e::es) [] cpos) (tBM X.K T r to t):=by
 intro pins s σ H Q I h;refine wpAny_Call_method_late hbase hfew hline rfl (gO (ho pins s σ H _ I h) fun v s1 ⟨x,H1,I1,r1,ty,q1⟩=>?_);obtain⟨h1,h2⟩:=qA8 I1 r1 ty;refine⟨T,id,pa,slot,hty,h1,h2,?_⟩;have hA:=ha cpos pins s1 σ H1 _ I1 q1;rw[hs]at hA ⊢;refine Calls.callWith_builtin (by show (false||(backTo cpos (starEach es X.env)).any (·.1))=false;rw[hplain] <;> rfl) (Calls.evalArgs_plain ?_);exact gO hA fun us s2 ⟨vs,H2,I2,r2,q2⟩=>hm pins s2 σ H2 x vs v us Q I2 r1 r2 q2
end
noncomputable def MtM(X:Cx)(id:String)(r:V->List V->Hp->VK->Prop):Prop:=
 ∀(pins:List (Addr×Obj))(s:Shared)(σ:St)(H:Hp)(x:V)(xs:List V)(v:Value)(us:List Value)(Q:VK),Inv X pins σ H s->RelV x v->Vals xs us->r x xs H Q →
  wpAny (model X.prog X.w) X.A (call (.builtin id) (v::us)) (EP X pins σ Q) X.xe s
theorem Vals.one:∀ {x:V} {us:List Value},Vals [x] us->∃ u,us=[u]/\RelV x u
 | _,_,.cons r .nil=>⟨_,rfl,r⟩
section
variable{X:Cx}{pins:List (Addr×Obj)}{σ:St}{H:Hp}{s:Shared}{l b:Addr}{xs ys zs:List V}
theorem Inv.qFQ{its its':List Value}{n:Nat}{f:Array Value->Array Value}{t':Nat}(I:Inv X pins σ H s)(hH:H l=some (.lst xs))
  (e:s.heap.get? l=some { cls:=.type "list",data:=.seq its.toArray n }) (hf:f its.toArray=its'.toArray) (hv:Vals ys its') (hz:ys.length<=sizeLine) :
  Inv X pins σ (upd H l (.lst ys)) { s with heap:=s.heap.update l (Obj.mapSeq f),toks:=t' }:=by
 have q:=PySem.IsL.update e f;rw[hf]at q;refine I.write (x:=l) (e:=l) (by rw[hH];exact trivial) (.inl rfl) (fun b' u hb hu=>(Heap.get?_update_other s.heap (Obj.mapSeq f) (Ne.symm hb)).trans hu) ⟨_,q⟩ ?_;exact⟨hz,its',_,hv,q⟩
theorem Inv.qBC{its:List Value}{t':Nat}(I:Inv X pins σ H s)(hv:Vals ys its)(hz:ys.length<=sizeLine) :
  Inv X pins σ (upd H s.heap.objs.size (.lst ys)) { s with heap:=s.heap.push { cls:=.type "list",data:=.seq its.toArray },toks:=t' }:=
 I.laid (fun _ _ q=>mV _ q) (jj _) ⟨hz,its,0,hv,wj _ rfl⟩
theorem Inv.fresh(I:Inv X pins σ H s):H s.heap.objs.size=none:=I.hok.fresh (jj _)
theorem Inv.Xu(I:Inv X pins σ H s)(hH:H l=some (.lst xs)):xs.length<=sizeLine/\∃(its:List Value)(n:Nat),Vals xs its/\xs.length=its.length/\s.heap.get? l=some { cls:=.type "list",data:=.seq its.toArray n }:=by
 obtain⟨z,its,n,r,e⟩:=I.hok l _ hH;exact⟨z,its,n,r,r.length,e⟩
end
section
variable{X:Cx}
noncomputable def kZ:V->List V->Hp->VK->Prop:=fun x vs H Q => ∃ l xs y,x = .ref l/\vs=[y]/\H l=some (.lst xs)/\xs.length<sizeLine/\Q .non (upd H l (.lst (xs++[y])))
theorem yE:MtM X "list.append" kZ:=by
 intro pins s σ H x vs v us Q I rx rv h;obtain⟨l,xs,y,rfl,rfl,hH,hz,q⟩:=h
 cases rx
 obtain⟨u,rfl,ru⟩:=rv.one;obtain⟨z,its,n,r,hl,e⟩:=I.Xu hH;refine call_meets F.slot_list_append ⟨_,e,rfl⟩ F.entry_list_append (F.args_list_append_2 _ _) (PySem.list_append l its.toArray n u (by rw[wk];lia)) ⟨e,?_⟩;refine⟨.non,_,I.qFQ (its':=its++[u]) hH e (by simp) (r.append (.cons ru .nil)) ?_,rfl,q⟩;rw[rQ,qC4];lia
noncomputable def qCU:R2:=fun x y H Q => ∃ l b xs zs,x = .ref l/\y = .ref b/\H l=some (.lst xs)/\H b=some (.lst zs)/\xs.length+zs.length<=sizeLine/\∀ p,H p=none->Q (.ref p) (upd H p (.lst (xs++zs)))
theorem qAX:ni X (binaryOp .Add) qCU:=by
 intro pins s σ H x y v u Q I rx ry h;obtain⟨l,b,xs,zs,rfl,rfl,hH,hB,hz,q⟩:=h
 cases rx
 cases ry
 obtain⟨z,its,n,r,hl,e⟩:=I.Xu hH;obtain⟨z2,its2,n2,r2,hl2,e2⟩:=I.Xu hB;refine PySem.P.add_list e e2 ?_ (by rw[wk,wk];lia)
 have ea:its.toArray++its2.toArray=(its++its2).toArray:=by simp
 rw[ea];exact⟨.ref _,_,I.qBC (t':=s.toks) (r.append r2) (by rw[rQ];lia),rfl,q _ I.fresh⟩
end
section
variable{prog:Program}{w:World}{A:Around}{E:Value->Shared->Prop}{s:Shared}
end
section
variable{X:Cx}
end
end L2
namespace Att
open PySem PySem.W PySem.Calls PyProof.Rows
theorem An{P:Params}{h:Heap}:∀(ns:List Int)(vs:List Value),WellAll P h vs (ns.map WData.int)->IntsAre vs ns:=by
 intro ns
 induction ns with
 | nil=>
  intro vs w;rw[List.map_nil]at w
  cases w
  exact .nil
 | cons n ns ih=>
  intro vs w;rw[List.map_cons]at w
  cases w with
  | cons a b=>
   cases a
   exact .cons _ _ (ih _ b)
theorem Qx{l:OpenLaw}{n:Nat}(hn:l.most=some n){P:Params}{h:Heap}{args:List WData}{vals:List Value}
  (hpre:l.row.toRowW.claim.pre args=true) (hwl:WellAll P h vals args) :
  ∃ a vs ns,vals=[Value.ref a]/\args=[WData.list (ns.map WData.int)]/\h.get? a=some { cls:=.type "list",data:=.seq vs.toArray }/\IntsAre vs ns/\ns.length<=n:=by
 have hsh:WShape.hasAll [] args [.list .int]=true:=(pre_splitW hpre).1;have hc:l.pre.holds [] { args:=args }=true:=(pre_splitW hpre).2;obtain⟨d,r,rfl,h1,h2⟩:=hasAllW_cons hsh;obtain rfl:=hasAllW_nil h2;obtain⟨xs,rfl,h3⟩:=hasW_list h1;obtain⟨ns,rfl⟩:=items_int h3
 have hlen:ns.length<=n:=by
  unfold OpenLaw.pre at hc
  have h4:(WTm.not (.lt (.lit (.int (n:Int))) (.len (.arg 0)))).holds [] { args:=[.list (ns.map .int)] }=true:=by
   have h4:=(holds_andW hc).1;rw[hn]at h4;exact h4
  have h5:=condW_of h4 (w_not (w_lt w_lit (w_len_list (w_arg rfl))));rw[jH]at h5;refine Nat.le_of_not_lt fun q=>?_
  have q':(n:Int)<((ns.length:Nat):Int):=by lia
  first
   | (rw[decide_eq_true q']at h5;exact absurd h5 (by decide))
   | (simp at h5;lia)
 cases hwl with
 | cons w1 w2=>
  cases w2
  cases w1 with
  | list ho hall=>exact⟨_,_,ns,rfl,rfl,ho,An ns _ hall,hlen⟩
theorem R7(l:OpenLaw)(args:List WData):l.row.toRowW.claim.post args (.bool true) args=true:=
 postW_of (r:=l.row.toRowW) (X:=(true==true))
  (show WShape.has [] (.bool true) .bool=true by first | rfl | decide | simp [WShape.has,WShape.arms,WShape.armsAll])
  (show (WTm.eq .res (.lit (.bool true))).value [] { args:=args,res:=some (.bool true),after:=args }=some (.bool (true==true)) from w_eq_bool (w_res rfl) w_lit) rfl
theorem Lw{l:OpenLaw}{n:Nat}{q:Program}{loose:List Str}{XP:(Str->Option Value)->Heap->Prop}{YP:World->Heap->Prop}{d:DefRec}
  (hn:l.most=some n) (hdf:d.params.defaults=[])
  (call:∀(w:World)(s₀ s₁:Shared)(mg mb:Str->Option Value)(fa:Addr)(o:Obj)(pm cd doc:Value)(a:Addr)(vs:List Value)(ns:List Int),
   Ground q loose [] XP w s₀ mg mb s₁.heap->YP w s₁.heap →
   s₁.heap.get? fa=some o->o.data = .func (docDef d.name d.params d.body d.scope pm cd doc)->s₁.heap.CodeRec cd d.name->mg d.name=some (.ref fa) →
   s₁.heap.get? a=some { cls:=.type "list",data:=.seq vs.toArray }->IntsAre vs ns->ns.length<=n->s₁.gens = #[] →
   codeAny (model l.prog w) callerA (.call (.ref fa) ⟨[.ref a],[]⟩) (fun r s'=>r = .ok (.ret (.bool true))/\OldK s₁.heap s'.heap/\s'.os=s₁.os/\AllBare s'.gens) s₁) :
  WalkO q loose XP YP l.row.toRowW d [] (fun f vs=>PySem.call f vs):=by
 intro w s₀ s₁ mg mb G Y fa o pm cd doc dV kV ho hd hcd hD hmg hg args vals as hpre hlay hrd hwl hlo;obtain rfl:dV = .none:=Dflts.none hD hdf;obtain rfl:kV = .none:=Dflts.noKw hD;obtain⟨a,vs,ns,rfl,rfl,hobj,hints,hlen⟩:=Qx hn hpre hwl;refine enter_call (codeAny_mono (call w s₀ s₁ mg mb fa o pm cd doc a vs ns G Y ho (fd_plain hd) hcd hmg hobj hints hlen hg) fun r s' hq=>?_);obtain⟨rfl,h2,h3,h4⟩:=hq;exact⟨.inl ⟨.bool true,.bool true,[],rfl,fun _=>rfl,.bool true,R7 l _,fun _=>⟨List.Pairwise.nil,fun _ hm=>(nomatch hm)⟩⟩,h2,h3,h4⟩
section
variable{prog:Program}{w:World}{A:Around}{E:Value->Shared->Prop}{s:Shared}{K:Frag}
end
end Att
namespace L2
open PySem PySem.Spec PyProof.Rows
theorem Fe:∀ {vs:List Value} {ns:List Int},IntsAre vs ns->Vals (ns.map V.int) vs
 | _,_,.nil=>.nil
 | _,_,.cons n t h=>.cons ⟨t,rfl⟩ (Fe h)
noncomputable def Only(H:Hp):Prop:=∀ b,H b=none ∨ ∃ o xs,H b=some (.M8 o (.lst xs))
theorem law_call{P:Program}{w:World}{K:cZ}{mg mb:Str->Option Value}{CX:Ji}{k:Nat}{fa a:Addr}{fd:FuncData}{x:Str}{sp:Sp}{s₁:Shared}{vs:List Value}{ns:List Int}
  (KX:K.In s₁.heap) (hns:s₁.heap.Ns mainGlobals mg) (hb:s₁.heap.Ns builtinsNs mb) (hbb:∀ x:Str,x ≠ "__name__" -> mb x=bootBuiltins x) (hlim:s₁.heap.NoLimit) (hg:s₁.gens = #[])
  (ha:s₁.heap.get? a=some { cls:=.type "list",data:=.seq vs.toArray }) (hi:IntsAre vs ns) (hl:ns.length<=sizeLine) (hr:iC k callerA)
  (F:∀ base:Heap,K.In base->base.Ns mainGlobals mg->bc P w K mg base CX k fa fd [x] sp) (hbind:∀(s:Shared)(u:Value),BindsTo s fd ⟨[u],[]⟩ [(x,u)])
  (hsp:∀ H:Hp,Only H->jk K H a (ns.map V.int)->sp [.ref a] H (fun v _=>v = .bl true) fun _ _ _=>False)
  (hCX:∀ H e s',CX [] H s₁ (fun _ _ _=>False) e s'->False) :
  codeAny (model P w) callerA (.call (.ref fa) ⟨[.ref a],[]⟩) (fun r s'=>r = .ok (.ret (.bool true))/\OldK s₁.heap s'.heap/\s'.os=s₁.os/\AllBare s'.gens) s₁:=by
 have rv:=Fe hi;have lenV:=hi.length;have core:∀ H:Hp,Only H->jk K H a (ns.map V.int)->qM P w H s₁.heap->(∀ b,H b≠none->b=a)->(H a≠none->K.lookup a=none) →
   codeAny (model P w) callerA (.call (.ref fa) ⟨[.ref a],[]⟩) (fun r s'=>r = .ok (.ret (.bool true))/\OldK s₁.heap s'.heap/\s'.os=s₁.os/\AllBare s'.gens) s₁:=by
  intro H hO hS hok hA hK;have Qe:∀ {b:Addr} {o:Obj},s₁.heap.get? b=some o->H b=none->(Ik s₁.heap H).get? b=some o:=fun e n=>VJ e n
  have noA:∀ {b:Addr} {o:Obj} {es:Array DictEntry} {ep:Nat},s₁.heap.get? b=some o->o.data = .dict es ep->H b=none:=fun {b o es ep} e d=>by
   cases q:H b with
   | none=>rfl
   | some u=>
    have e':b=a:=hA b (by rw[q];simp);subst e';rw[ha]at e;cases e;have d':Data.seq vs.toArray _=Data.dict es ep:=d
    cases d'
  have nsK:∀ {b:Addr} {m:Str->Option Value},s₁.heap.Ns b m->(Ik s₁.heap H).Ns b m:=fun {b m} ⟨o,es,ep,e,d,r⟩=>⟨o,es,ep,Qe e (noA e d),d,r⟩
  have hKb:K.In (Ik s₁.heap H):=fun b o e=>Qe (KX b o e) (by
   cases q:H b with
   | none=>rfl
   | some u=>
    have e':b=a:=hA b (by rw[q];simp);subst e'
    rw[hK (by rw[q];simp)]at e;cases e)
  have hM:Mod K mg (Ik s₁.heap H):=⟨hKb,nsK hns,⟨mb,nsK hb,hbb⟩,let ⟨mc,h1,h2⟩:=hlim;⟨mc,nsK h1,h2⟩⟩;have e0:Je P w K mg (Ik s₁.heap H) callerA [] s₁ H:=⟨rfl,hM,fun b o e=>Xj e,Nat.le_of_eq (Rg _ _),trivial,fun b hb=>absurd (show b∈([]:List Addr) from hb) (by simp),hok,.of_eq hg⟩;refine codeAny_mono ((F _ hKb (nsK hns)).run callerA [] s₁ H ⟨[.ref a],[]⟩ [.ref a] [.ref a] _ _ hr e0 (hbind s₁ (.ref a)) (.cons rfl .nil) (hsp H hO hS)) fun r s' h=>?_
  cases r with
  | error e=>exact (hCX H e s' h).elim
  | ok fl=>
   cases fl with
   | next=>exact False.elim h
   | brk=>exact False.elim h
   | cont=>exact False.elim h
   | ret u=>
    obtain⟨v,H',os,bare,un,hok',r',q⟩:=h;have q':v = .bl true:=q;subst q';obtain rfl:u=Value.bool true:=r';refine⟨rfl,OldK.of_keep fun b o e=>?_,os,bare⟩
    cases q:H b with
    | none=>exact un.keep b o e q (by intro z;exact absurd (show b∈([]:List Addr) from z) (by simp)) (by simp)
    | some u=>
     rcases hO b with z | ⟨ob,xs,z⟩
     ·rw[q]at z;cases z
     ·have z2:=un.sX b ob _ z;obtain⟨e1,_⟩:=hok b _ z;obtain⟨e2,_⟩:=hok' b _ z2;rw[e]at e1;cases e1;exact e2
 cases hk:K.lookup a with
 | some o=>
  have e:=KX a o hk;rw[ha]at e
  cases e
  refine core (fun _=>none) (fun _=>.inl rfl) (.inr ⟨_,vs.toArray,_,hk,rfl,rfl,rfl,by rw[List.size_toArray,lenV];exact hl,by simpa using rv⟩) (fun b u z=>by have z':(none:Option HO)=some u:=z;cases z') (fun b z=>absurd rfl z) fun z=>absurd rfl z
 | none=>
  refine core (fun b=>if b=a then some (.M8 { cls:=.type "list",data:=.seq vs.toArray } (.lst (ns.map V.int))) else none) (fun b=>?_) (.inl (.inr ⟨{ cls:=.type "list",data:=.seq vs.toArray },if_pos rfl⟩)) (fun b u z=>?_) (fun b z=>?_) fun _=>hk
  ·by_cases hb:b=a
   ·exact .inr ⟨_,_,if_pos hb⟩
   ·exact .inl (if_neg hb)
  ·by_cases hb:b=a
   ·have z':=(if_pos hb).symm.trans z
    cases z'
    subst hb;exact⟨ha,by rw[jH];exact hl,vs,_,rv,ha⟩
   ·have z':=(if_neg hb).symm.trans z
    cases z'
  ·by_cases hb:b=a
   ·exact hb
   ·exact absurd (if_neg hb) z
theorem Ws{l:PySem.W.OpenLaw}{n k:Nat}{q:Program}{loose:List Str}{XP:(Str->Option Value)->Heap->Prop}{YP:World->Heap->Prop}{d:DefRec}{K:Params->cZ}{CX:World->Ji}{sp:World->Sp}{x:Str}
  (hn:l.most=some n) (hn2:n<=sizeLine) (hdf:d.params.defaults=[]) (hr:iC k callerA)
  (hY:∀(w:World)(h:Heap),YP w h->(K w.params).In h)
  (F:∀(w:World)(mg:Str->Option Value)(fa:Addr)(h:Heap),(K w.params).In h->h.Ns mainGlobals mg->mg d.name=some (.ref fa) →
   ∃ fd:FuncData,(∀(s:Shared)(u:Value),BindsTo s fd ⟨[u],[]⟩ [(x,u)]) ∧
    ∀ base:Heap,(K w.params).In base->base.Ns mainGlobals mg->bc l.prog w (K w.params) mg base (CX w) k fa fd [x] (sp w))
  (hsp:∀(w:World)(H:Hp)(a:Addr)(ns:List Int),ns.length<=n->Only H->jk (K w.params) H a (ns.map V.int)->sp w [.ref a] H (fun v _=>v = .bl true) fun _ _ _=>False)
  (hCX:∀(w:World)(H:Hp)(s:Shared)(e:Value)(s':Shared),CX w [] H s (fun _ _ _=>False) e s'->False) :
  PySem.W.WalkO q loose XP YP l.row.toRowW d [] (fun f vs=>PySem.call f vs):=by
 refine Att.Lw hn hdf fun w s₀ s₁ mg mb fa o pm cd doc a vs ns G Y ho hd hcd hmg hobj hints hlen hg=>?_;have KX:=hY w _ Y;obtain⟨fd,hb,hF⟩:=F w mg fa _ KX G.T.g hmg;exact law_call KX G.T.g G.T.b G.T.builtins G.T.nolimit hg hobj hints (Nat.le_trans hlen hn2) hr hF hb (fun H hO hS=>hsp w H a ns hlen hO hS) fun H e s'=>hCX w H s₁ e s'
noncomputable abbrev dw:Ji:=fun _ _ _ _ _ _=>False
noncomputable abbrev E0:XK:=fun _ _ _=>False
theorem yC{X:Cx}:Passes dw X E0:=fun _ _ _ _ _ _ _ h=>h.elim
structure jJ(K:cZ)(x qual:Str)(st:Stmt)(f:Addr)(fd:FuncData):Prop where
 ex:∃(oc:Value)(od:Option Addr)(kV doc pm:Value)(an:Option Addr)(cdv ct:Value)(osl:Array (Option Value)),
  fd=PySem.W.fnOf x qual (tY st) (iT st) (aP st) .none kV doc pm an cdv ct/\K.lookup f=some ⟨oc,od,.func fd,osl⟩/\PySem.W.codeIn K cdv qual=true
 kp:KI K f
section
variable{P:Program}{w:World}{K:cZ}{mg:Str->Option Value}{base:Heap}
theorem jJ.ok{x qual:Str}{st:Stmt}{f:Addr}{fd:FuncData}{N ps:List Str}{k:Nat}{sp:Sp}(F:jJ K x qual st f fd)(S:aq N ps (aP st))(len:∀ vs H Q E,sp vs H Q E->vs.length=ps.length)
  (hbody:∀(cdv:Value)(A:Around)(outer:List Env)(s:Shared)(H:Hp)(vs:List V)(Q:VK)(E:XK),iC k (A.deeper (envOfC qual (aP st) s.heap.objs.size f cdv))->sp vs H Q E →
   ∃ t,JV (pI dw P w K mg base N qual (aP st) f cdv A outer s H E).TX (iT st) t/\t { nx:=fun _ H'=>Q .non H',rt:=Q } (start N vs) H):bc P w K mg base dw (k+1) f fd ps sp:=by
 obtain⟨oc,od,kV,doc,pm,an,cdv,ct,osl,rfl,lk,hcd⟩:=F.ex;refine Zj lk hcd S len fun A outer s H vs Q E hr hsp=>?_;obtain⟨t,h,q⟩:=hbody cdv A outer s H vs Q E hr hsp;exact⟨t,h.TX,q⟩
theorem jJ.binds{x qual:Str}{st:Stmt}{f:Addr}{fd:FuncData}{ps:List Str}(F:jJ K x qual st f fd)
  (h:∀(kV doc pm:Value)(an:Option Addr)(cdv ct:Value)(us:List Value),us.length=ps.length->bindArgs (PySem.W.fnOf x qual (tY st) (iT st) (aP st) .none kV doc pm an cdv ct) ⟨us,[]⟩=pure (ps.zip us)):Binds K fd ps []:=by
 obtain⟨oc,od,kV,doc,pm,an,cdv,ct,osl,rfl,lk,hcd⟩:=F.ex;exact .all (h kV doc pm an cdv ct)
theorem qBP{x qual:Str}{st:Stmt}{f:Addr}{oc:Value}{od an:Option Addr}{osl:Array (Option Value)}{kV doc pm cdv ct:Value}(l:K.lookup f=some ⟨oc,od,.func (PySem.W.fnOf x qual (tY st) (iT st) (aP st) .none kV doc pm an cdv ct),osl⟩)
  (c:PySem.W.codeIn K cdv qual=true) (k:KI K f):jJ K x qual st f (PySem.W.fnOf x qual (tY st) (iT st) (aP st) .none kV doc pm an cdv ct):=⟨⟨oc,od,kV,doc,pm,an,cdv,ct,osl,rfl,l,c⟩,k⟩
end
theorem zU{n:Nat}(h:n<=1000):n<sizeLine:=Nat.lt_of_le_of_lt h (by decide)
section
variable{X:Cx}
theorem pv(i:Nat){x:Str}{pos:Pos}(hN:X.N[i]? = some x:=by rfl)(hv:Vis X.env.scope x:=by first | exact Or.inl rfl | exact Or.inr (Or.inl rfl) | exact Or.inr (Or.inr rfl))(hd:(x==("__debug__" : Str))=false:=by decide)
  (hcd:(x==("__classdict__" : Str))=false:=by decide):PE X (.Name x pos) (Gy i):=qAS hN hv hd hcd
end
noncomputable def bB(H H':Hp):Prop:=∀ b o,H b=some o->H' b=some o
theorem bB.refl(H:Hp):bB H H:=fun _ _ h=>h
theorem bB.trans{H H1 H2:Hp}(a:bB H H1)(b:bB H1 H2):bB H H2:=fun c o h=>b c o (a c o h)
theorem bB.free{H H':Hp}(e:bB H H'){l:Addr}(h:H' l=Option.none):H l=Option.none:=by
 cases q:H l with
 | none=>rfl
 | some o=>
  rw[e l o q]at h
  cases h
theorem bB.seq{K:cZ}{H H':Hp}{a:Addr}{xs:List V}(e:bB H H')(h:jk K H a xs):jk K H' a xs:=by
 rcases h with (h | ⟨o,h⟩) | h
 ·exact .inl (.inl (e _ _ h))
 ·exact .inl (.inr ⟨o,e _ _ h⟩)
 ·exact .inr h
end L2
namespace zz
open PySem L2 Zv
theorem len0{P:List Value->Prop}(h:P [])(xs:List Value)(e:xs.length=0):P xs:=by
 cases xs with
 | nil=>exact h
 | cons a ys=>cases e
theorem Xw{n:Nat}{P:List Value->Prop}(h:∀ a (ys:List Value),ys.length=n->P (a::ys))(xs:List Value)(e:xs.length=n+1):P xs:=by
 cases xs with
 | nil=>cases e
 | cons a ys=>exact h a ys (Nat.succ.inj e)
theorem qZ{P:List Value->Prop}(h:∀ a,P [a])(xs:List Value)(e:xs.length=1):P xs:=Xw (fun a=>len0 (h a)) xs e
theorem pU{P:List Value->Prop}(h:∀ a b,P [a,b])(xs:List Value)(e:xs.length=2):P xs:=Xw (fun a=>qZ (h a)) xs e
theorem RT{P:List Value->Prop}(h:∀ a b c,P [a,b,c])(xs:List Value)(e:xs.length=3):P xs:=Xw (fun a=>pU (h a)) xs e
theorem qBE{P:List Value->Prop}(h:∀ a b c d,P [a,b,c,d])(xs:List Value)(e:xs.length=4):P xs:=Xw (fun a=>RT (h a)) xs e
theorem hdef:PySem.W.defOf QV "law" = some (Oq,[]):=by kernel_rfl
theorem hok:(PySem.W.chainsOk QV&&PySem.W.opensWell PW&&(PySem.W.frees PySem.Challenge.rw_nesthall_k56_rooms_that_fit.row.toRowW&&PySem.Challenge.rw_nesthall_k56_rooms_that_fit.row.within.isEmpty))=true:=by kernel_rfl
theorem hbare:PW.bare:=⟨rfl,rfl,rfl,rfl,rfl,by decide +kernel⟩
theorem hkw:PySem.W.kwWritten? Oq.params.kwonlyargs Oq.params.kw_defaults=some []:=by kernel_rfl
theorem hthe:PW.theDef "law" = some (Oq.params,Oq.body,Oq.scope):=by kernel_rfl
noncomputable abbrev NS(x:Str)(a:Addr):Prop:=∀ P:Params,PySem.W.nsIn (KO P) mainGlobals x=some (some (.ref a))
noncomputable abbrev NZ(x:Str):Prop:=∀ P:Params,PySem.W.nsIn (KO P) mainGlobals x=some none
noncomputable abbrev FU(x q:Str)(st:Stmt)(a:Addr)(d:FuncData):Prop:=∀ P:Params,jJ (KO P) x q st a d
theorem o8{x q:Str}{st:Stmt}{a:Addr}{pm cd:Value}(h:∀ P:Params,(KO P).lookup a=some (nO (mY x q st pm cd))/\PySem.W.codeIn (KO P) cd q=true/\PySem.W.keepIn (KO P) (.ref a)=true:=by exact fun _=>⟨by kernel_rfl,by kernel_rfl,by kernel_rfl⟩):FU x q st a (mY x q st pm cd):=fun P=>qBP (h P).1 (h P).2.1 (h P).2.2
theorem a1:NS "is_number_of" 52:=fun P=>by kernel_rfl
theorem u1:FU "is_number_of" "is_number_of" jQ 52 fd1:=o8
theorem a2:NS "is_in_reach" 59:=fun P=>by kernel_rfl
theorem u2:FU "is_in_reach" "is_in_reach" kY 59 fd2:=o8
theorem a3:NS "names_of" 64:=fun P=>by kernel_rfl
theorem u3:FU "names_of" "names_of" mq 64 fd3:=o8
theorem a4:NS "is_word" 43:=fun P=>by kernel_rfl
theorem u4:FU "is_word" "is_word" pQ 43 fd4:=o8
theorem a5:NS "name_has_fault" 71:=fun P=>by kernel_rfl
theorem u5:FU "name_has_fault" "name_has_fault" iI 71 fd5:=o8
theorem a6:NS "depth_has_fault" 97:=fun P=>by kernel_rfl
theorem u6:FU "depth_has_fault" "depth_has_fault" gW 97 fd6:=o8
theorem a7:NS "keeps_has_fault" 104:=fun P=>by kernel_rfl
theorem u7:FU "keeps_has_fault" "keeps_has_fault" gU 104 fd7:=o8
theorem a8:NS "end_has_fault" 118:=fun P=>by kernel_rfl
theorem u8:FU "end_has_fault" "end_has_fault" j8 118 fd8:=o8
theorem a9:NS "deed_has_fault" 85:=fun P=>by kernel_rfl
theorem u9:FU "deed_has_fault" "deed_has_fault" iM 85 fd9:=o8
theorem a10:NS "deeds_have_fault" 90:=fun P=>by kernel_rfl
theorem u10:FU "deeds_have_fault" "deeds_have_fault" dj 90 qEQ:=o8
theorem a11:NS "room_has_fault" 111:=fun P=>by kernel_rfl
theorem u11:FU "room_has_fault" "room_has_fault" iH 111 qEP:=o8
theorem a12:NS "goal_has_fault" 130:=fun P=>by kernel_rfl
theorem u12:FU "goal_has_fault" "goal_has_fault" iJ 130 qEO:=o8
theorem a13:NS "guards_within" 21:=fun P=>by kernel_rfl
theorem u13:FU "guards_within" "guards_within" j7 21 qEN:=o8
theorem a14:NS "height" 26:=fun P=>by kernel_rfl
theorem u14:FU "height" "height" rm 26 qEM:=o8
theorem a15:NS "plain_guards" 33:=fun P=>by kernel_rfl
theorem u15:FU "plain_guards" "plain_guards" jO 33 qEL:=o8
theorem a16:NS "asked" 38:=fun P=>by kernel_rfl
theorem u16:FU "asked" "asked" tL 38 qEK:=o8
theorem a17:NS "guard_has_fault" 123:=fun P=>by kernel_rfl
theorem u17:FU "guard_has_fault" "guard_has_fault" dC 123 qEJ:=o8
theorem a18:NS "door_has_fault" 137:=fun P=>by kernel_rfl
theorem u18:FU "door_has_fault" "door_has_fault" iK 137 qEI:=o8
theorem a19:NS "need" 207:=fun P=>by kernel_rfl
theorem u19:FU "need" "need" HS 207 qEH:=o8
theorem a20:NS "words_of" 214:=fun P=>by kernel_rfl
theorem u20:FU "words_of" "words_of" qQ 214 qEG:=o8
theorem a21:NS "read_number" 186:=fun P=>by kernel_rfl
theorem u21:FU "read_number" "read_number" ik 186 qEF:=o8
theorem a22:NS "head_told" 270:=fun P=>by kernel_rfl
theorem u22:FU "head_told" "head_told" oK 270 qEE:=o8
theorem a23:NS "marked" 291:=fun P=>by kernel_rfl
theorem u23:FU "marked" "marked" vQ 291 qED:=o8
theorem a24:NS "room_written" 298:=fun P=>by kernel_rfl
theorem u24:FU "room_written" "room_written" jN 298 qEC:=o8
theorem a25:NS "kind_of" 263:=fun P=>by kernel_rfl
theorem u25:FU "kind_of" "kind_of" tK 263 qEB:=o8
theorem a26:NS "number_named" 221:=fun P=>by kernel_rfl
theorem u26:FU "number_named" "number_named" jP 221 qEA:=o8
theorem a27:NS "event_told" 284:=fun P=>by kernel_rfl
theorem u27:FU "event_told" "event_told" mD 284 qE9:=o8
theorem a28:NS "room_told" 305:=fun P=>by kernel_rfl
theorem u28:FU "room_told" "room_told" oH 305 qE8:=o8
theorem a29:NS "door_told" 312:=fun P=>by kernel_rfl
theorem u29:FU "door_told" "door_told" oM 312 qE7:=o8
theorem a30:NS "read" 382:=fun P=>by kernel_rfl
theorem u30:FU "read" "read" HR 382 qE6:=o8
theorem a31:NS "_law_read" 443:=fun P=>by kernel_rfl
theorem u31:FU "_law_read" "_law_read" vR 443 qE5:=o8
theorem a32:NS "_law_cell_at" 389:=fun P=>by kernel_rfl
theorem u32:FU "_law_cell_at" "_law_cell_at" Pr 389 qE4:=o8
theorem a33:NS "_law_mixed" 396:=fun P=>by kernel_rfl
theorem u33:FU "_law_mixed" "_law_mixed" HX 396 qE3:=o8
theorem a34:NS "_law_name" 403:=fun P=>by kernel_rfl
theorem u34:FU "_law_name" "_law_name" vU 403 qE2:=o8
theorem a35:NS "_law_depth" 410:=fun P=>by kernel_rfl
theorem u35:FU "_law_depth" "_law_depth" tO 410 qE1:=o8
theorem a36:NS "_law_fits" 429:=fun P=>by kernel_rfl
theorem u36:FU "_law_fits" "_law_fits" vV 429 qE0:=o8
theorem a37:NS "_law_due" 436:=fun P=>by kernel_rfl
theorem u37:FU "_law_due" "_law_due" Pn 436 qDZ:=o8
theorem a38:NS "_law_halls" 417:=fun P=>by kernel_rfl
theorem u38:FU "_law_halls" "_law_halls" tM 417 qDY:=o8
theorem a39:NS "_law_entries" 422:=fun P=>by kernel_rfl
theorem u39:FU "_law_entries" "_law_entries" jD 422 qDX:=o8
theorem a40:NS "_law_right" 448:=fun P=>by kernel_rfl
theorem u40:FU "_law_right" "_law_right" Bm 448 qDW:=o8
theorem a41:NS "law" 453:=fun P=>by kernel_rfl
theorem u41:FU "law" "law" vW 453 YT:=o8
theorem qF3(P:Params):PySem.W.findIn (KO P) (.ref 371) "__init__" = some (some (.ref 340)):=by kernel_rfl
theorem qDO(P:Params):PySem.W.isFn (KO P) (.ref 340)=true:=by kernel_rfl
theorem qCB:FU "__init__" "Draft.__init__" Pq 340 Vl:=o8
theorem qF2(P:Params):PySem.W.findIn (KO P) (.ref 371) "add" = some (some (.ref 347)):=by kernel_rfl
theorem qDN(P:Params):PySem.W.isFn (KO P) (.ref 347)=true:=by kernel_rfl
theorem qCA:FU "add" "Draft.add" XM 347 Vk:=o8
theorem qF1(P:Params):PySem.W.findIn (KO P) (.ref 371) "may_end" = some (some (.ref 361)):=by kernel_rfl
theorem qDM(P:Params):PySem.W.isFn (KO P) (.ref 361)=true:=by kernel_rfl
theorem qC9:FU "may_end" "Draft.may_end" oJ 361 Vj:=o8
theorem qF0(P:Params):PySem.W.findIn (KO P) (.ref 371) "whole" = some (some (.ref 368)):=by kernel_rfl
theorem qDL(P:Params):PySem.W.isFn (KO P) (.ref 368)=true:=by kernel_rfl
theorem qC8:FU "whole" "Draft.whole" tH 368 Vi:=o8
theorem qC7:FU "__init__" "Unread.__init__" XJ 176 Vh:=o8
theorem aC0:NS "Draft" 371:=fun P=>by kernel_rfl
theorem FJ(P:Params):Eb (KO P) 371:=⟨by kernel_rfl,by kernel_rfl,by kernel_rfl,by kernel_rfl⟩
theorem qD6(P:Params):PySem.W.makesIn (KO P) 371=true/\PySem.W.keepIn (KO P) (.ref 371)=true:=⟨by kernel_rfl,by kernel_rfl⟩
theorem tR(P:Params):PySem.W.findIn (KO P) (.ref 371) "last" = some none:=by kernel_rfl
theorem nA(P:Params):PySem.W.findIn (KO P) (.ref 371) "heads" = some none:=by kernel_rfl
theorem jx(P:Params):PySem.W.findIn (KO P) (.ref 371) "boxes" = some none:=by kernel_rfl
theorem gk(P:Params):PySem.W.findIn (KO P) (.ref 371) "events" = some none:=by kernel_rfl
theorem gj(P:Params):PySem.W.findIn (KO P) (.ref 371) "rooms" = some none:=by kernel_rfl
theorem jw(P:Params):PySem.W.findIn (KO P) (.ref 371) "doors" = some none:=by kernel_rfl
theorem aC1:NS "Unread" 179:=fun P=>by kernel_rfl
theorem aC2:NS "NoWords" 160:=fun P=>by kernel_rfl
theorem aC3:NS "NestError" 147:=fun P=>by kernel_rfl
theorem z1:NZ "all" := fun P=>by kernel_rfl
theorem z2:NZ "any" := fun P=>by kernel_rfl
theorem z3:NZ "bool" := fun P=>by kernel_rfl
theorem z4:NZ "enumerate" := fun P=>by kernel_rfl
theorem z5:NZ "int" := fun P=>by kernel_rfl
theorem z6:NZ "isinstance" := fun P=>by kernel_rfl
theorem z7:NZ "len" := fun P=>by kernel_rfl
theorem z8:NZ "max" := fun P=>by kernel_rfl
theorem z9:NZ "range" := fun P=>by kernel_rfl
theorem z10:NZ "set" := fun P=>by kernel_rfl
theorem z11:NZ "sorted" := fun P=>by kernel_rfl
theorem z12:NZ "tuple" := fun P=>by kernel_rfl
theorem v1(P:Params):PySem.W.nsIn (KO P) mainGlobals "GREATEST" = some (some (.int (1000000000000000000000000000000) 257)):=by kernel_rfl
theorem v2(P:Params):PySem.W.nsIn (KO P) mainGlobals "LONGEST" = some (some (.int (12) 222)):=by kernel_rfl
theorem v3(P:Params):PySem.W.nsIn (KO P) mainGlobals "SMALL_LETTERS" = some (some (.str "abcdefghijklmnopqrstuvwxyz" 220)):=by kernel_rfl
theorem v4(P:Params):PySem.W.nsIn (KO P) mainGlobals "DEEPEST" = some (some (.int (12) 253)):=by kernel_rfl
theorem v5(P:Params):PySem.W.nsIn (KO P) mainGlobals "MOST_DEEDS" = some (some (.int (8) 251)):=by kernel_rfl
theorem v6:NS "KINDS" 45:=fun P=>by kernel_rfl
theorem v7(P:Params):PySem.W.nsIn (KO P) mainGlobals "HIGHEST" = some (some (.int (6) 255)):=by kernel_rfl
theorem v8(P:Params):PySem.W.nsIn (KO P) mainGlobals "FIGURES" = some (some (.str "0123456789" 440)):=by kernel_rfl
theorem v9(P:Params):PySem.W.nsIn (KO P) mainGlobals "MOST_LETTERS" = some (some (.int (12) 239)):=by kernel_rfl
theorem v10(P:Params):PySem.W.nsIn (KO P) mainGlobals "MOST_TURNS" = some (some (.int (20) 241)):=by kernel_rfl
theorem v11:NS "ORDERS" 44:=fun P=>by kernel_rfl
theorem v12(P:Params):PySem.W.nsIn (KO P) mainGlobals "MOST_EVENTS" = some (some (.int (8) 245)):=by kernel_rfl
theorem v13(P:Params):PySem.W.nsIn (KO P) mainGlobals "MOST_ROOMS" = some (some (.int (40) 247)):=by kernel_rfl
theorem v14(P:Params):PySem.W.nsIn (KO P) mainGlobals "MOST_DOORS" = some (some (.int (60) 249)):=by kernel_rfl
theorem v15:NS "BEHIND" 187:=fun P=>by kernel_rfl
theorem O9(P:Params):PySem.W.exmOne (KO P) (.ref 160) (.ref 160)=some true:=by kernel_rfl
theorem S9(P:Params):PySem.W.keepIn (KO P) (.ref 179)=true:=by kernel_rfl
theorem S7(P:Params):PySem.W.exmOne (KO P) (.ref 179) (.ref 179)=some true:=by kernel_rfl
theorem fE1(P:Params):PySem.W.specialIn (KO P) (.ref 147) "__getattribute__" = some (some (.builtin "type.__getattribute__")):=by kernel_rfl
theorem fE2(P:Params):PySem.W.readsIn (KO P) 147 (.type "type")=true:=by kernel_rfl
theorem fE3(P:Params):PySem.W.findCls (KO P) (.ref 147) (.type "type") "__init__" = some (.val (.builtin "ValueError.__init__")):=by kernel_rfl
end zz
namespace L2
open PySem PySem.Spec PyProof.Rows
section
variable{X:Cx}{pins:List (Addr×Obj)}{σ:St}{H:Hp}{s:Shared}{a:Addr}{o:HO}
theorem qM.adopt{P:Program}{w:World}{h:Heap}(x:qM P w H h)(hn:H a=none)(new:gJ P w (upd H a o) h a o):qM P w (upd H a o) h:=fun b u e=>by
 by_cases hb:b=a
 ·subst hb;rw[zC]at e;cases e;exact new
 ·rw[zQ hb]at e
  exact (x b u e).stay (fun c v _ q=>q) (fun c q=>by rw[zQ (zM q hn)];exact q) fun c xs q=>by rw[zQ (zM q hn)];exact q
theorem Inv.adopt(I:Inv X pins σ H s)(f:qz X pins H a)(new:gJ X.prog X.w (upd H a o) s.heap a o):Inv X pins σ (upd H a o) s:=by
 obtain⟨hn,hL,hfs,hex,hc,hp⟩:=f;refine⟨I.ok,I.os,I.bare,⟨I.base.keep,I.base.slot,fun b ob e n hx=>?_,I.base.there,fun b xs e=>?_,fun b ob u e=>?_,fun b ps e=>?_⟩,I.loc,I.cell,by rw[zQ (Ne.symm hL)];exact I.free,fun x c e=>by rw[zQ (hc x c e)];exact I.nM x c e,fun p q=>?_,qM.adopt I.hok hn new,I.len⟩
 ·have nb:b≠a:=fun z=>by
   rcases hex with z' | z'
   ·exact hx (z▸z')
   ·exact absurd (lZ e) (by rw[z];exact Nat.not_lt.mpr z')
  rw[zQ nb];exact I.base.free b ob e n hx
 ·have q:=I.base.tups b xs e;rw[zQ (zM q hn)];exact q
 ·have q:=I.base.sX b ob u e;rw[zQ (zM q hn)];exact q
 ·obtain⟨m,q⟩:=I.base.uC b ps e;exact⟨m,by rw[zQ (zM q hn)];exact q⟩
 ·obtain⟨e,n,r⟩:=I.pin p q;exact⟨e,by rw[zQ (hp p q)];exact n,r⟩
end
theorem ph{α β:Type}{f:α->β->Sem (ForInStep β)}{g:α->β->β}:∀(l:List α)(c:β),(∀ x∈l,∀ c,f x c=pure (.yield (g x c)))->forIn l c f=pure (l.foldl (fun c x=>g x c) c)
 | [],_,_=>rfl
 | x::l,c,h=>by
  rw[List.forIn_cons,h x Aa,pure_bind];exact ph l (g x c) fun y hy=>h y (wy _ hy)
noncomputable def clG(env:Env)(x:Str×NameKind)(c:List (Str×Addr)):List (Str×Addr):=if (x.2==NameKind.free)=true then (x.1,(env.cells.lookup x.1).getD 0)::c else c
noncomputable def JL(env:Env)(scope:Scope):List (Str×Addr):=scope.names.foldl (fun c x=>clG env x c) []
theorem Dn{env:Env}{scope:Scope}(h:∀ y∈scope.names,y.2 = .free->∃ c,env.cells.lookup y.1=some c):closureFor scope env=pure (JL env scope):=by
 simp only[closureFor]
 rw[ph (g:=clG env) scope.names [] (fun x hx c=>by
  obtain⟨n,k⟩:=x;unfold clG
  by_cases hk:(k==NameKind.free)=true
  ·obtain⟨a,ha⟩:=h _ hx (by simpa using hk);have ha':env.cells.lookup n=some a:=ha;simp only[hk,if_true,cellOf,ha',pure_bind,Option.getD_some]
  ·have hk':(k==NameKind.free)=false:=Bool.eq_false_iff.mpr hk
   simp only[hk',Bool.false_eq_true,if_false])]
 rfl
theorem Dq{env:Env}:∀(l:List (Str×NameKind))(cs:List (Str×Addr)),(∀ y∈l,y.2 = .free->∃ c,env.cells.lookup y.1=some c)->(∀ y c,cs.lookup y=some c->env.cells.lookup y=some c) →
  (∀ y c,(l.foldl (fun c x=>clG env x c) cs).lookup y=some c->env.cells.lookup y=some c)/\∀ y,((cs.lookup y).isSome=true∨(y,NameKind.free)∈l)->((l.foldl (fun c x=>clG env x c) cs).lookup y).isSome=true
 | [],cs,_,h=>⟨h,fun y hy=>hy.elim id fun z=>absurd z (by simp)⟩
 | (n,k)::l,cs,hf,h=>by
  have hf':∀ y∈l,y.2 = .free->∃ c,env.cells.lookup y.1=some c:=fun y hy=>hf y (wy _ hy);rw[List.foldl_cons]
  by_cases hk:k = .free
  ·subst hk;obtain⟨a,ha⟩:=hf (n,.free) Aa rfl;have ha':env.cells.lookup n=some a:=ha
   have e:clG env (n,.free) cs=(n,a)::cs:=by
    unfold clG;rw[if_pos (by rfl)];show (n,(env.cells.lookup n).getD 0)::cs=_;rw[ha'];rfl
   rw[e]
   have ih:=Dq l ((n,a)::cs) hf' (fun y c hy=>by
    rw[List.lookup_cons]at hy
    cases hb:y==n with
    | true=>
     rw[hb]at hy;rw[eq_of_beq hb];exact ha'.trans hy
    | false=>
     rw[hb]at hy
     exact h y c hy)
   refine⟨ih.1,fun y hy=>ih.2 y ?_⟩;rcases hy with hy | hy
   ·left
    rw[List.lookup_cons]
    cases y==n with
    | true=>rfl
    | false=>exact hy
   ·rcases jo.mp hy with hy | hy
    ·left
     rw[(Prod.mk.inj hy).1,List.lookup_cons];simp
    ·exact .inr hy
  ·have e:clG env (n,k) cs=cs:=by
    unfold clG;rw[if_neg (by simpa using hk)]
   rw[e];have ih:=Dq l cs hf' h;refine⟨ih.1,fun y hy=>ih.2 y ?_⟩;rcases hy with hy | hy
   ·exact .inl hy
   ·rcases jo.mp hy with hy | hy
    ·exact absurd (Prod.mk.inj hy).2.symm hk
    ·exact .inr hy
theorem lg{env:Env}:∀ {names:List (Str×NameKind)} {x:Str},names.lookup x=some .free →
  (names.map fun (n,k)=>if (k==NameKind.free&&env.scope.kind==.function&&env.kindOf n==some .cell) then (n,NameKind.cell) else (n,k)).lookup x≠some .local
 | [],_,h=>by simp at h
 | (n,k)::r,x,h=>by
  have ih:=@lg env r x;show List.lookup x ((if (k==NameKind.free&&env.scope.kind==.function&&env.kindOf n==some .cell)=true then (n,NameKind.cell) else (n,k))::_)≠_
  cases hx:x==n with
  | true=>
   simp only[List.lookup_cons,hx]at h
   cases h
   split
   ·simp [List.lookup_cons,hx]
   ·simp [List.lookup_cons,hx]
  | false=>
   simp only[List.lookup_cons,hx]at h
   by_cases hc:(k==NameKind.free&&env.scope.kind==.function&&env.kindOf n==some .cell)=true
   ·rw[if_pos hc];simp only[List.lookup_cons,hx];exact ih h
   ·rw[if_neg hc];simp only[List.lookup_cons,hx];exact ih h
theorem Ar{env:Env}{scope:Scope}{y:Str}(nc:∀ z∈scope.names,z.2≠.cell)(h:(relabel scope env).names.lookup y=some .cell∨(relabel scope env).names.lookup y=some .free):(y,NameKind.free)∈scope.names:=by
 have go:∀ k,(k=NameKind.cell∨k=NameKind.free)->(relabel scope env).names.lookup y=some k->(y,NameKind.free)∈scope.names:=fun k hk e=>by
  have m:=PySem.mem_of_lookup e;obtain⟨⟨n,k'⟩,hm,e'⟩:=Qo.mp m
  by_cases hc:(k'==NameKind.free&&env.scope.kind==.function&&env.kindOf n==some .cell)=true
  ·have e2:(n,NameKind.cell)=(y,k):=by
    rw[<-e'];show _=(if (k'==NameKind.free&&env.scope.kind==.function&&env.kindOf n==some .cell)=true then (n,NameKind.cell) else (n,k'));rw[if_pos hc]
   have hk':k' = .free:=by
    simp only[Bool.and_eq_true,beq_iff_eq]at hc;exact hc.1.1
   rw[<-(Prod.mk.inj e2).1,<-hk'];exact hm
  ·have e2:(n,k')=(y,k):=by
    rw[<-e'];show _=(if (k'==NameKind.free&&env.scope.kind==.function&&env.kindOf n==some .cell)=true then (n,NameKind.cell) else (n,k'));rw[if_neg hc]
   rcases hk with hk | hk
   ·exact absurd ((Prod.mk.inj e2).2.trans hk) (nc _ hm)
   ·rw[<-(Prod.mk.inj e2).1,<-hk,<-(Prod.mk.inj e2).2];exact hm
 rcases h with h | h
 ·exact go _ (.inl rfl) h
 ·exact go _ (.inr rfl) h
noncomputable def qu(X:Cx)(N:List Str)(scope:Scope)(C:Addr)(s:Shared)(H:Hp)(ex:List Addr)(pn:List (Addr×Obj))(E:Value->Shared->Prop):Cx where
 prog:=X.prog
 w:=X.w
 K:=X.K
 mg:=X.mg
 base:=X.base
 A:=X.A
 N:=N
 s₀:=s
 H₀:=H
 env:=compEnvC scope (JL X.env scope) C X.env
 outer:=X.stack
 stack:=X.stack
 ex:=ex
 fn:=fun _=>false
 calm:=X.calm
 pn:=pn
 xe:=E
structure gR(osc:Scope)(N:List Str)(scope:Scope)(x:Str)(cG:List (Nat×Str)):Prop where
 kind:scope.kind = .function
 hx:scope.names.lookup x=some .local
 QD:∀ y∈scope.names,y.2≠.cell
 Xl:∀ y∈scope.names,y.2 = .local->scope.names.lookup y.1=some .local
 free:∀ y∈scope.names,y.2 = .free->osc.names.lookup y.1=some .cell∨osc.names.lookup y.1=some .free
 cap:∀ p∈cG,N[p.1]? = some p.2/\scope.names.lookup p.2=some .free
 nd:(x::cG.map (·.2)).Nodup
noncomputable def uH(cG:List (Nat×Str))(σ:St):St:=cG.map fun p=>(σ[p.1]?).getD none
noncomputable def T3(X:Cx)(ifs:List Expr)(tc:TT):Prop:=
 ∀(pins:List (Addr×Obj))(s:Shared)(σ:St)(H:Hp)(Q:Bool->Hp->Prop),Inv X pins σ H s->tc σ H Q →
  wpAny (model X.prog X.w) X.A (forIn ifs true fun c r=>if r=true then do let ok ← isTrue c X.env (eval c X.env);pure (ForInStep.yield ok) else pure (ForInStep.yield r)) (TP X pins σ Q) X.xe s
noncomputable def qCC:TT:=fun _ H Q=>Q true H
theorem ir{X:Cx}:T3 X [] qCC:=fun _ _ _ H _ I h=>by
 simp only[List.forIn_nil];exact wpAny_pure ⟨H,I,h⟩
theorem vd{X:Cx}{c:Expr}{tc:TT}(h:PT X c tc):T3 X [c] tc:=by
 intro pins s σ H Q I hq;simp only[List.forIn_cons,List.forIn_nil,if_true];exact wpAny_bind (wpAny_bind (wpAny_mono (h pins s σ H Q I hq) (fun b s' hb=>wpAny_pure (wpAny_pure hb)) fun _ _ x=>x))
noncomputable def rY(J:It)(cs:St)(tc:TT)(te:TE)(H1:Hp)(Z:List V->Hp->Prop):Prop:=
 ∃ W:Nat->Nat->List V->Hp->Prop,(∃ m,W 0 m [] H1)/\∀ i m acc H,W i m acc H →
  (J.stop i H/\Z acc H)∨(J.go i H/\∃ N:List V->Hp->Prop,(∀ a H',N a H'->∃ m',m'<m/\W (i+1) m' a H') ∧
   ∀ x H',J.Z8 i H x H'->tc (some x::cs) H' fun b H2=>if b=true then te (some x::cs) H2 fun v H3=>acc.length<sizeLine/\N (acc++[v]) H3 else N acc H2)
noncomputable def Tv(wi:TI)(cG:List (Nat×Str))(tc:TT)(te:TE):TE:=fun σ H Q=>wi σ H fun J H1=>rY J (uH cG σ) tc te H1 fun acc H2 => ∀ p,H2 p=none->Q (.ref p) (upd H2 p (.lst acc))
theorem Sq{X:Cx}{elt iter:Expr}{x:Str}{ns:List Str}{px pos:Pos}{ifs:List Expr}{scope:Scope}{it D:Addr}{fp:List Addr}{tn:Nat->Heap->Prop}{J:It}{tc:TT}{te:TE}{Z:List V->Hp->Prop}{R:Result->Shared->Prop}
  {cs:St} {o:Option V} {H:Hp} {s:Shared} (hc:X.calm=true) (hN:X.N=x::ns) (nd:X.N.Nodup) (hx:X.env.scope.names.lookup x=some .local) (I:Inv X [] (o::cs) H s) (T:Turn X.prog X.w X.K (.Name x px) J fp it tn) (st:tn 0 s.heap) (hf:∀ b∈fp,qz X [] H b)
  (hD:qz X [] H D) (hDf:D∉fp) (pl:s.heap.PlainList D #[]) (Ny:T3 X ifs tc) (helt:PE X elt te) (hW:rY J cs tc te H Z) (hxe:X.xe=notedBy (model X.prog X.w) X.A X.env fun e s'=>R (.error e) s')
  (hR:∀(s':Shared)(H':Hp)(acc:List V)(its:List Value)(o':Option V),Inv X [] (o'::cs) H' s'->s'.heap.PlainList D its.toArray->Vals acc its->acc.length<=sizeLine->H' D=none->Z acc H'->R (.ok .next) s') :
  codeAny (model X.prog X.w) X.A (.compLoop (.ListComp elt [⟨.Name x px,iter,ifs,0⟩] scope pos) 0 (.ref it) (.ref D) X.env) R s:=by
 obtain⟨W,⟨m0,w0⟩,turn⟩:=hW;refine codeAny_compLoop_tests (fun n s'=>∃(i:Nat)(acc:List V)(its:List Value)(H':Hp)(o':Option V),Inv X [] (o'::cs) H' s'/\tn i s'.heap/\(∀ b∈fp,H' b=none)/\H' D=none/\s'.heap.PlainList D its.toArray/\Vals acc its/\acc.length<=sizeLine/\W i n acc H') ?_ m0
  ⟨0,[],[],H,o,I,st,fun b hb=>(hf b hb).1,hD.1,pl,.nil,Nat.zero_le _,w0⟩
 rintro n s3 ⟨i,acc,its,H3,o3,I3,st3,fr3,hD3,⟨nD,gD⟩,va,hl,w3⟩;rw[<-hxe]
 have I4:Inv X [(D,{ cls:=.type "list",data:=.seq its.toArray nD })] (o3::cs) H3 s3:=I3.vZ fun p hp=>by
  obtain rfl:p=(D,{ cls:=.type "list",data:=.seq its.toArray nD }):=by simpa using hp
  exact⟨gD,hD3,hD.2.1,hD.2.2.1,fun v z=>by cases (show Data.seq its.toArray nD=Data.cell v from z)⟩
 have stat:∀ {H':Hp},(∀ b∈fp,H' b=none)->∀ b∈fp,qz X [(D,{ cls:=.type "list",data:=.seq its.toArray nD })] H' b:=fun hn b hb=>by
  obtain⟨_,f1,f2,f3,f4,f5⟩:=hf b hb;refine⟨hn b hb,f1,f2,f3,f4,fun p hp=>?_⟩;rcases wz.mp hp with z | z
  ·exact f5 p (List.mem_append_left _ z)
  ·obtain rfl:p=(D,{ cls:=.type "list",data:=.seq its.toArray nD }):=by simpa using z
   exact fun e=>hDf (by rw[show D=b from e];exact hb)
 rcases turn i n acc H3 w3 with ⟨stop,z⟩ | ⟨go,N,hNn,step⟩
 ·refine gO (T.done X rfl rfl rfl hc i _ s3 (o3::cs) H3 X.xe I4 (stat fr3) st3 stop) fun r s4 ⟨hr,I5⟩=>?_;subst hr;exact hR s4 H3 acc its o3 (I5.vZ fun p hp=>absurd hp (by simp)) ⟨nD,(I5.pin _ (List.mem_append_right _ (List.mem_singleton.mpr rfl))).1⟩ va hl hD3 z
 ·refine gO (T.item X rfl rfl rfl hc i _ s3 (o3::cs) H3 X.xe I4 (stat fr3) st3 go) fun r s4 ⟨u,hr,h4⟩=>?_;subst hr;have e0:(letOwnedTupleGo (.Name x px) (.ref it) u >>= fun _=>assign (.Name x px) X.env u)=assign (.Name x px) X.env u:=rfl;show wpAny _ _ (assign (.Name x px) X.env u) _ _ s4;rw[<-e0];refine wpAny_bind (gO h4 fun _ s5 ⟨xv,H5,I5,r5,y5,st5,fr5⟩=>?_);have I5':=I5.pinned (stat fr5) (T.obj _ _ st5);refine wpAny_assign_Name (pL (i:=0) I5' nd (by rw[hN] <;> rfl) (.inl hx) r5 (fun s6 I6=>?_) (.inr hx));have I6':Inv X ([(D,{ cls:=.type "list",data:=.seq its.toArray nD })]++xQ fp s5.heap) (some xv::cs) H5 s6:=I6;have later:∀ {σ':St} {H':Hp} {s':Shared},Inv X ([(D,{ cls:=.type "list",data:=.seq its.toArray nD })]++xQ fp s5.heap) σ' H' s' →
    Inv X [] σ' H' s'/\tn (i+1) s'.heap/\(∀ b∈fp,H' b=none)/\H' D=none/\s'.heap.get? D=some { cls:=.type "list",data:=.seq its.toArray nD }:=fun {σ' H' s'} J'=>by
   have pD:=J'.pin (D,{ cls:=.type "list",data:=.seq its.toArray nD }) (List.mem_append_right _ (List.mem_append_left _ (MT.mpr rfl)));refine⟨J'.vZ fun p hp=>absurd hp (by simp),T.keep _ _ _ st5 fun b hb ob e=>(J'.pin (b,ob) (List.mem_append_right _ (List.mem_append_right _ (qX hb e)))).1,fun b hb=>?_,pD.2.1,pD.1⟩;obtain⟨ob,e,_⟩:=T.obj _ _ st5 b hb;exact (J'.pin (b,ob) (List.mem_append_right _ (List.mem_append_right _ (qX hb e)))).2.1
  refine gO (Ny _ s6 (some xv::cs) H5 _ I6' (step xv H5 y5)) fun b s7 ⟨H7,I7,q7⟩=>?_
  cases b with
  | false=>
   obtain⟨m',hm,w7⟩:∃ m',m'<n/\W (i+1) m' acc H7:=hNn acc H7 q7;obtain⟨l1,l2,l3,l4,l5⟩:=later I7;exact⟨m',hm,i+1,acc,its,H7,some xv,l1,l2,l3,l4,⟨nD,l5⟩,va,hl,w7⟩
  | true=>
   have q7':te (some xv::cs) H7 fun v H3=>acc.length<sizeLine/\N (acc++[v]) H3:=q7;show wpAny _ _ (eval elt X.env) _ _ s7;refine gO (helt _ s7 (some xv::cs) H7 _ I7 q7') fun u8 s8 ⟨v,H8,I8,r8,hlt,n8⟩=>?_;obtain⟨m',hm,w8⟩:=hNn _ _ n8;obtain⟨l1,l2,l3,l4,l5⟩:=later I8;have hlen:=va.length;refine wpAny_list_append_plain (hsz:=by simp only[List.size_toArray];omega) ⟨nD,l5⟩ fun h9 pl9 sb9=>?_;refine⟨m',hm,i+1,acc++[v],its++[u8],H8,some xv,l1.turned (t':=s8.toks) (fun b ob hb e=>(sb9.2 b hb).trans e) l4 hD.2.1 hD.2.2.2.1 hD.2.2.2.2.1 hD.2.2.2.2.2,?_,l3,l4,by simpa using pl9,va.append (.cons r8 .nil),?_,w8⟩
   ·exact T.keep _ _ _ l2 fun b hb ob e=>(sb9.2 b (fun z=>hDf (z▸hb))).trans e
   ·rw[rQ,qC4];omega
section
variable{X:Cx}{elt iter:Expr}{x:Str}{px pos:Pos}{ifs:List Expr}{scope:Scope}{cG:List (Nat×Str)}{wi:TI}{tc:TT}{te:TE}
theorem Inv.U3{pins:List (Addr×Obj)}{σ:St}{H:Hp}{s:Shared}{b:Addr}(I:Inv X pins σ H s)(h1:b≠X.env.locals)(h2:b∉X.fs):b∉frs X.stack:=fun z=>(jo.mp (I.Mp b z)).elim h1 h2
theorem Dm{pins:List (Addr×Obj)}{σ:St}{H:Hp}{s:Shared}{E:Value->Shared->Prop}{it:Addr}{fp:List Addr}{tn:Nat->Heap->Prop}{J:It}{Z:List V->Hp->Prop}{RR:Value->Addr->Result->Shared->Prop}
  (hc:X.calm=true) (S:gR X.env.scope X.N scope x cG) (I:Inv X pins σ H s) (T:Turn X.prog X.w X.K (.Name x px) J fp it tn) (st:tn 0 s.heap) (hf:∀ b∈fp,qz X pins H b)
  (Ny:∀ C s H ex pn E,T3 (qu X (x::cG.map (·.2)) scope C s H ex pn E) ifs tc) (helt:∀ C s H ex pn E,PE (qu X (x::cG.map (·.2)) scope C s H ex pn E) elt te)
  (hW:rY J (uH cG σ) tc te H Z)
  (hRR:∀(s':Shared)(H':Hp)(acc:List V)(its:List Value)(D C:Addr)(m:Str->Option Value),Inv X pins σ H' s'->s'.heap.PlainList D its.toArray->Vals acc its->acc.length<=sizeLine->qz X pins H' D->qz X pins H' C->D≠C->s'.heap.Ns C m->Z acc H'->RR (.ref D) C (.ok .next) s') :
  wpAny (model X.prog X.w) X.A (newList []) (fun acc s₃=>wpAny (model X.prog X.w) X.A (newFunctionEnv scope X.env.globals (JL X.env scope) [] X.env.qual none .none (some X.env)) (fun cenv s₄=>
   codeAny (model X.prog X.w) X.A (.compStart (.ListComp elt [⟨.Name x px,iter,ifs,0⟩] scope pos) 0 (.ref it) acc { cenv with scope:=relabel scope X.env }) (RR acc cenv.locals) s₄) E s₃) E s:=by
 refine wpAny_newObj_type (wpAny_newFunctionEnv S.QD (by intro y hy;simp at hy) (fun h₁ hns₁ hsb₁=>?_) S.kind)
 dsimp only at hns₁ hsb₁ ⊢
 have hI3:Inv X pins σ H { s with heap:=s.heap.push { cls:=.type "list",dict:=none,data:=.seq ([]:List Value).toArray } }:=I.kept (t':=s.toks) fun b u e=>mV _ e;have gD3:(s.heap.push { cls:=.type "list",dict:=none,data:=.seq ([]:List Value).toArray }).get? s.heap.objs.size=some { cls:=.type "list",dict:=none,data:=.seq ([]:List Value).toArray }:=wj _ rfl;have hz3:(s.heap.push { cls:=.type "list",dict:=none,data:=.seq ([]:List Value).toArray }).objs.size=s.heap.objs.size+1:=Heap.size_push _ _;generalize hH3:s.heap.push { cls:=.type "list",dict:=none,data:=.seq ([]:List Value).toArray }=h3 at hns₁ hsb₁ hI3 gD3 hz3 ⊢;have k3:∀ b u,s.heap.get? b=some u->h3.get? b=some u:=fun b u e=>hH3▸mV _ e;have k31:∀ b u,h3.get? b=some u->h₁.get? b=some u:=fun b u e=>(hsb₁.2 b (tD (lZ e))).trans (mV _ e);have k1:∀ b u,s.heap.get? b=some u->h₁.get? b=some u:=fun b u e=>k31 b u (k3 b u e)
 have hDC:s.heap.objs.size≠h3.objs.size:=by rw[hz3];exact tD (Nat.lt_succ_self _)
 have fD:qz X pins H s.heap.objs.size:=I.Iv (jj _) (I.hok.fresh (jj _));have fC:qz X pins H h3.objs.size:=I.Iv (by rw[hz3];exact Nat.le_succ _) (I.hok.fresh (by rw[hz3];exact Nat.le_succ _));have lfp:∀ b∈fp,b<s.heap.objs.size:=fun b hb=>let ⟨_,e,_⟩:=T.obj _ _ st b hb;lZ e;have hDf:s.heap.objs.size∉fp:=fun z=>Nat.lt_irrefl _ (lfp _ z);have hfree:∀ y∈scope.names,y.2 = .free->∃ c,X.env.cells.lookup y.1=some c:=fun y hy e=>I.ok.has y.1 (S.free y hy e);obtain⟨sub,has⟩:=Dq scope.names [] hfree (fun y c e=>by simp at e);have Ml:∀ y c,(JL X.env scope).lookup y=some c->X.env.cells.lookup y=some c:=sub;have qDS:∀ y,(y,NameKind.free)∈scope.names->∃ c,(JL X.env scope).lookup y=some c:=fun y hy=>Option.isSome_iff_exists.mp (has y (.inr hy));have inj:∀ b∈s.heap.objs.size::fp,qz X pins H b:=fun b hb=>(jo.mp hb).elim (fun z=>z▸fD) (hf b);have ltC:∀ b∈s.heap.objs.size::fp,b≠h3.objs.size:=fun b hb=>(jo.mp hb).elim (fun z=>z▸hDC) fun z=>tD (by rw[hz3];exact Nat.lt_succ_of_lt (lfp b z))
 have I1:Inv (qu X (x::cG.map (·.2)) scope h3.objs.size { s with heap:=h3 } H (s.heap.objs.size::fp) (X.pn++pins)
   (notedBy (model X.prog X.w) X.A (compEnvC scope (JL X.env scope) h3.objs.size X.env) fun e s'=>RR (.ref s.heap.objs.size) h3.objs.size (.error e) s')) [] (none::uH cG σ) H { s with heap:=h₁,toks:=s.toks+([]:List (Str×Value)).length }:=by
  refine⟨⟨I.ok.mod,S.kind,I.ok.glob,I.ok.blt,jj _,fun y z c e1 e2=>I.ok.inj y z c (Ml _ _ e1) (Ml _ _ e2),fun y hy=>qDS y (Ar S.QD hy),fun y c e=>(nomatch e),I.ok.hd,I.ok.frames,.inl rfl,fun b hb=>⟨ltC b hb,fun y c e=>(inj b hb).2.2.2.2.1 y c (Ml y c e)⟩,
    fun b ob e=>⟨k3 b ob (I.bs b ob e).1,(I.bs b ob e).2⟩,?_,fun b ob e z=>?_,fun b hb=>I.U3 (inj b hb).2.1 (inj b hb).2.2.1,?_,I.tE⟩,
   rfl,I.bare,Un.kept k31,⟨_,hns₁,fun i y v e1 e2 e3=>?_⟩,fun y c e=>?_,fC.1,fun y c e=>I.nM y c (Ml y c e),fun p hp=>?_,I.hok.kept k1,?_⟩
  ·exact Nat.le_trans I.ok.Td (Nat.le_trans I.sz (by show s.heap.objs.size<=h3.objs.size;rw[hz3];exact Nat.le_succ _))
  ·rcases (inj b z).2.2.2.1 with w1 | w1
   ·exact I.ok.Nm b ob e w1
   ·exact absurd (Jj (lZ e) I.ok.Td) (Nat.not_lt.mpr w1)
  ·exact Heap.FunFrames.of_keeps (fun b ob e _=>⟨ob,k3 b ob e,rfl⟩) I.stack
  ·cases i with
   | zero=>cases e2
   | succ i=>
    have e1':(cG.map (·.2))[i]? = some y:=e1;have e2':(uH cG σ)[i]? = some (some v):=e2;unfold uH at e2';rw[uB]at e1' e2'
    cases ep:cG[i]? with
    | none=>rw[ep]at e1';cases e1'
    | some p=>
     rw[ep]at e1' e2';obtain rfl:p.2=y:=MN e1';have Yi:(σ[p.1]?).getD none=some v:=MN e2'
     have hσ:σ[p.1]? = some (some v):=by
      cases es:σ[p.1]? with
      | none=>rw[es]at Yi;cases Yi
      | some w1=>rw[es]at Yi;exact congrArg some Yi
     obtain⟨cN,cF⟩:=S.cap p (zw6 ep);have mF:(p.2,NameKind.free)∈scope.names:=PySem.mem_of_lookup cF;have oF:=S.free _ mF rfl;obtain⟨m,hn,hlook⟩:=I.loc;obtain⟨u,ru,lk⟩:=hlook p.1 p.2 v cN hσ (.inr oF);refine⟨u,ru,.inr ⟨?_,?_⟩⟩
     ·rcases e3 with z | z
      ·exact absurd z (lg cF)
      ·exact z
     ·obtain⟨c,ec⟩:=qDS p.2 mF;refine⟨c,ec,?_⟩;rcases lk with ⟨z,_⟩ | ⟨_,c',ec',ob,ho,hd⟩
      ·have z':X.env.scope.names.lookup p.2=some .local:=z;rw[z']at oF;rcases oF with q | q <;> cases q
      ·have ee:=(Ml _ _ ec).symm.trans ec'
       cases ee
       exact⟨ob,k1 _ _ ho,hd⟩
  ·obtain⟨v,ob,ho,hd⟩:=I.cell y c (Ml y c e);exact⟨v,ob,k1 _ _ ho,hd⟩
  ·have hp':p∈X.pn++pins:=by
    rcases wz.mp hp with z | z
    ·exact z
    ·exact absurd z (by simp)
   obtain⟨e,n,ne,nf,d⟩:=I.pin p hp';refine⟨k1 _ _ e,n,tD ?_,I.U3 ne nf,d⟩;show p.1<h3.objs.size;rw[hz3];exact Nat.lt_succ_of_lt (lZ e)
  ·show (none::uH cG σ).length=(x::cG.map (·.2)).length;simp [uH]
 have hf1:∀ b∈s.heap.objs.size::fp,qz (qu X (x::cG.map (·.2)) scope h3.objs.size { s with heap:=h3 } H (s.heap.objs.size::fp) (X.pn++pins)
   (notedBy (model X.prog X.w) X.A (compEnvC scope (JL X.env scope) h3.objs.size X.env) fun e s'=>RR (.ref s.heap.objs.size) h3.objs.size (.error e) s')) [] H b:=fun b hb=>by
  obtain⟨f0,f1,f2,f3,f4,f5⟩:=inj b hb;refine⟨f0,ltC b hb,I.U3 f1 f2,.inl hb,fun y c e=>f4 y c (Ml y c e),fun p hp=>f5 p ?_⟩;rcases wz.mp hp with z | z
  ·exact z
  ·exact absurd z (by simp)
 have st1:tn 0 h₁:=T.keep _ _ _ st fun b _ ob e=>k1 b ob e
 have loop:codeAny (model X.prog X.w) X.A (.compLoop (.ListComp elt [⟨.Name x px,iter,ifs,0⟩] scope pos) 0 (.ref it) (.ref s.heap.objs.size) (compEnvC scope (JL X.env scope) h3.objs.size X.env)) (RR (.ref s.heap.objs.size) h3.objs.size) { s with heap:=h₁,toks:=s.toks+([]:List (Str×Value)).length }:=by
  refine Sq (X:=qu X (x::cG.map (·.2)) scope h3.objs.size { s with heap:=h3 } H (s.heap.objs.size::fp) (X.pn++pins) (notedBy (model X.prog X.w) X.A (compEnvC scope (JL X.env scope) h3.objs.size X.env) fun e s'=>RR (.ref s.heap.objs.size) h3.objs.size (.error e) s'))
   hc rfl S.nd (lookup_relabel_local S.hx) I1 T st1 (fun b hb=>hf1 b (wy _ hb)) (hf1 _ Aa) hDf ⟨0,k31 _ _ gD3⟩ (Ny _ _ _ _ _ _) (helt _ _ _ _ _ _) hW rfl ?_
  intro s' H' acc its o' J1 plD va hlen nD z;have u1:Un (frs X.stack) (s.heap.objs.size::fp) H H' h3 s'.heap:=J1.base
  have J2:Inv X pins σ H' s':=Inv.call' (s:={ s with heap:=h3 }) hI3 J1.os u1 J1.hok J1.bare fun b hb=>by
   obtain⟨_,f1,_,f3,f4,f5⟩:=inj b hb;exact⟨f3,f1,f4,f5⟩
  obtain⟨m,hn,_⟩:=J1.loc;exact hRR s' H' acc its _ _ m J2 plD va hlen ⟨nD,fD.2⟩ ⟨J1.free,fC.2⟩ hDC hn z
 exact codeAny_compStart_list loop (T.self _ 0 _ _ _ st1 loop)
theorem yM(hc:X.calm=true)(S:gR X.env.scope X.N scope x cG)(hi:PI X (.Name x px) iter wi)
  (Ny:∀ C s H ex pn E,T3 (qu X (x::cG.map (·.2)) scope C s H ex pn E) ifs tc) (helt:∀ C s H ex pn E,PE (qu X (x::cG.map (·.2)) scope C s H ex pn E) elt te)
  (hs:∀ x,foldedSetIterable iter X.env x=pure x:=by intro _;rfl):PE X (.ListComp elt [⟨.Name x px,iter,ifs,0⟩] scope pos) (Tv wi cG tc te):=by
 intro pins s σ H Q I h;have hfree:∀ y∈scope.names,y.2 = .free->∃ c,X.env.cells.lookup y.1=some c:=fun y hy e=>I.ok.has y.1 (S.free y hy e);rw[eval_ListComp];refine wpAny_comprehension_free (use:=none) rfl hs (Dn hfree) S.kind S.Xl (gO (hi pins s σ H _ I h) fun v s1 h1=>gO h1 fun itv s2 h2=>?_);obtain⟨it,fp,tn,J,H2,e,I2,T,st2,f2,hW⟩:=h2;subst e;refine Dm (RR:=fun acc C=>compPost (model X.prog X.w) X.A X.xe none (EP X pins σ Q) acc C) hc S I2 T st2 f2 Ny helt hW ?_;intro s' H' acc its D C m J2 plD va hlen fD fC hDC hn z;obtain⟨nD,gD⟩:=plD;refine⟨m,hn,fun h'' sb=>?_⟩;have J3:Inv X pins σ H' { s' with heap:=h'' }:=J2.turned (t':=s'.toks) (fun b ob hb e=>(sb.2 b hb).trans e) fC.1 fC.2.1 fC.2.2.2.1 fC.2.2.2.2.1 fC.2.2.2.2.2;exact⟨.ref D,upd H' D (.lst acc),J3.adopt fD ⟨hlen,its,nD,va,(sb.2 D hDC).trans gD⟩,rfl,z D fD.1⟩
theorem tQ{i:Nat}{y:Str}{py spos:Pos}(hc:X.calm=true)(hN:X.N.Nodup)(hi':X.N[i]? = some y)(hy:Loc X.env.scope y)(S:gR X.env.scope X.N scope x cG)(hi:PI X (.Name x px) iter wi)
  (Ny:∀ C s H ex pn E,T3 (qu X (x::cG.map (·.2)) scope C s H ex pn E) ifs tc) (helt:∀ C s H ex pn E,PE (qu X (x::cG.map (·.2)) scope C s H ex pn E) elt te)
  (hsw:swapsWith (.ListComp elt [⟨.Name x px,iter,ifs,0⟩] scope pos) (some (.Name y py)) spos.line X.env=pure true:=by rfl) (hs:∀ x,foldedSetIterable iter X.env x=pure x:=by intro _;rfl)
  (hfn:X.fn y=true∨X.env.scope.names.lookup y=some .local:=by first | exact .inl rfl | exact .inr rfl | assumption):PS X (.Assign [.Name y py] (.ListComp elt [⟨.Name x px,iter,ifs,0⟩] scope pos) spos) (Tz (Tv wi cG tc te) (zu i)):=by
 intro pins s σ H D0 I h;have hfree:∀ y∈scope.names,y.2 = .free->∃ c,X.env.cells.lookup y.1=some c:=fun y hy e=>I.ok.has y.1 (S.free y hy e);rw[exec_Assign_Name_used _ _ _ _ hsw];refine wpAny_bind (wpAny_standAt (wpAny_bind ?_));show wpAny _ _ (do let _ ← comprehension (.ListComp elt [⟨.Name x px,iter,ifs,0⟩] scope pos) scope X.env _ (newList []) false (eval iter X.env) (some (assign (.Name y py) X.env))) _ _ s
 refine wpAny_bind (wpAny_mono (wpAny_comprehension_free (use:=some (assign (.Name y py) X.env)) (Q:=fun _ s'=>SP X pins D0 .next s') rfl hs (Dn hfree) S.kind S.Xl
  (gO (hi pins s σ H _ I h) fun v s1 h1=>gO h1 fun itv s2 h2=>?_)) (fun _ s' hq=>wpAny_pure (wpAny_pure hq)) fun _ _ e=>e)
 obtain⟨it,fp,tn,J,H2,e,I2,T,st2,f2,hW⟩:=h2;subst e;refine Dm (RR:=fun acc C=>compPost (model X.prog X.w) X.A X.xe (some (assign (.Name y py) X.env)) (fun _ s'=>SP X pins D0 .next s') acc C) hc S I2 T st2 f2 Ny helt hW ?_;intro s' H' acc its D C m J2 plD va hlen fD fC hDC hn z;obtain⟨nD,gD⟩:=plD;have J3:Inv X pins σ (upd H' D (.lst acc)) s':=J2.adopt fD ⟨hlen,its,nD,va,gD⟩;show wpAny _ _ (assign (.Name y py) X.env (.ref D)) _ _ s';refine wpAny_assign_Name (Fq J3 hN hi' hy (show RelV (.ref D) (.ref D) from rfl) (fun s4 J4 ⟨a,sa,ha⟩=>?_) hfn)
 have hCa:C≠a:=by
  rcases ha with q | q
  ·rw[q];exact fC.2.1
  ·exact (fC.2.2.2.2.1 y a q).symm
 refine⟨m,hn.sameBut sa hCa,fun h'' sb=>?_⟩;exact⟨_,_,J4.turned (t':=s4.toks) (fun b ob hb e=>(sb.2 b hb).trans e) (by rw[zQ (Ne.symm hDC)];exact fC.1) fC.2.1 fC.2.2.2.1 fC.2.2.2.2.1 fC.2.2.2.2.2,z D fD.1⟩
end
theorem BX{J:It}{cs:St}{tc:TT}{te:TE}{H1:Hp}{Z:List V->Hp->Prop}(n:Nat)(Pv:Nat->List V->Hp->Prop)(h0:Pv 0 [] H1)(hd:∀ acc H,Pv n acc H->J.stop n H/\Z acc H)
  (hs:∀ i acc H,i<n->Pv i acc H->J.go i H/\∀ x H',J.Z8 i H x H'->tc (some x::cs) H' fun b H2=>if b=true then te (some x::cs) H2 fun v H3=>acc.length<sizeLine/\Pv (i+1) (acc++[v]) H3 else Pv (i+1) acc H2) :
  rY J cs tc te H1 Z:=by
 refine⟨fun i m acc H=>m=n-i/\i<=n/\Pv i acc H,⟨n,by simp,Nat.zero_le _,h0⟩,?_⟩;rintro i m acc H ⟨rfl,hi,p⟩
 by_cases hlt:i<n
 ·obtain⟨g,y⟩:=hs i acc H hlt p;exact .inr ⟨g,Pv (i+1),fun a H' q=>⟨n-(i+1),by omega,rfl,hlt,q⟩,y⟩
 ·have e:i=n:=by omega
  subst e;exact .inl (hd acc H p)
theorem Ot{lo:Int}{n:Nat}{cs:St}{tc:TT}{te:TE}{H1:Hp}{Z:List V->Hp->Prop}(Pv:Nat->List V->Hp->Prop)(h0:Pv 0 [] H1)
  (hs:∀ i acc H,i<n->Pv i acc H->tc (some (.int (lo+i))::cs) H fun b H2=>if b=true then te (some (.int (lo+i))::cs) H2 fun v H3=>acc.length<sizeLine/\Pv (i+1) (acc++[v]) H3 else Pv (i+1) acc H2)
  (hd:∀ acc H,Pv n acc H->Z acc H):rY (Zx lo n) cs tc te H1 Z:=
 BX n Pv h0 (fun acc H p=>⟨jj _,hd acc H p⟩) fun i acc H hi p=>⟨hi,fun x H' y=>by
  obtain⟨e,y⟩:=y;subst e y
  exact hs i acc _ hi p⟩
theorem yL{K:cZ}{a:Addr}{xs:List V}{cs:St}{tc:TT}{te:TE}{H1:Hp}{Z:List V->Hp->Prop}(Pv:Nat->List V->Hp->Prop)(h0:Pv 0 [] H1)(hl:∀ i acc H,Pv i acc H->jk K H a xs)
  (hs:∀ i x acc H,xs[i]? = some x->Pv i acc H->tc (some x::cs) H fun b H2=>if b=true then te (some x::cs) H2 fun v H3=>acc.length<sizeLine/\Pv (i+1) (acc++[v]) H3 else Pv (i+1) acc H2)
  (hd:∀ acc H,Pv xs.length acc H->Z acc H):rY (Itl K a) cs tc te H1 Z:=
 BX xs.length Pv h0 (fun acc H p=>⟨⟨xs,hl _ _ _ p,Nat.le_refl _⟩,hd acc H p⟩) fun i acc H hi p=>⟨⟨xs,xs[i],hl _ _ _ p,by simp [hi]⟩,fun x H' y=>by
  obtain⟨e,y⟩:=y;subst e
  exact hs i x acc _ (y xs (hl _ _ _ p)) p⟩
theorem W7{K:cZ}{a:Addr}{xs:List V}{cs:St}{tc:TT}{te:TE}{H1:Hp}{Z:List V->Hp->Prop}(Pv:Nat->List V->Hp->Prop)(h0:Pv 0 [] H1)(hl:∀ i acc H,Pv i acc H->rM K H a xs)
  (hs:∀ i x acc H,xs[i]? = some x->Pv i acc H->tc (some x::cs) H fun b H2=>if b=true then te (some x::cs) H2 fun v H3=>acc.length<sizeLine/\Pv (i+1) (acc++[v]) H3 else Pv (i+1) acc H2)
  (hd:∀ acc H,Pv xs.length acc H->Z acc H):rY (Itt K a) cs tc te H1 Z:=
 BX xs.length Pv h0 (fun acc H p=>⟨⟨xs,hl _ _ _ p,Nat.le_refl _⟩,hd acc H p⟩) fun i acc H hi p=>⟨⟨xs,xs[i],hl _ _ _ p,by simp [hi]⟩,fun x H' y=>by
  obtain⟨e,y⟩:=y;subst e
  exact hs i x acc _ (y xs (hl _ _ _ p)) p⟩
noncomputable def Zw(z:Str):It:=⟨fun i _=>i<z.cps.size,fun i H x H'=>H'=H/\∃ c,z.cps[i]? = some c/\x = .str ⟨#[c]⟩,fun i _=>z.cps.size<=i⟩
theorem Mj{P:Program}{w:World}{K:cZ}{tg:Expr}(it:Addr)(z:Str)(t:Tok):Turn P w K tg (Zw z) [it] it (fun i h=>h.IsStrIter it "str_ascii_iterator" z t i) where
 mem:=by simp
 obj:=fun i h st b hb=>by
  have e:b=it:=by simpa using hb
  subst e;obtain⟨o,e,c,d⟩:=st;exact⟨o,e,fun v z=>by rw[d]at z;cases z⟩
 keep:=fun i h h' st k=>by
  obtain⟨o,e,r⟩:=st;exact⟨o,k it (by simp) o e,r⟩
 item:=by
  intro X hP hw hK hc i pins s σ H E I hf st hg;subst hP hw hK;obtain⟨f0,f1,f2,f3,f4,f5⟩:=hf it (by simp);have hlt:i<z.cps.size:=hg;refine wpAny_pyNext_ascii_item st (c:=z.cps[i]) (by simp [hlt]) fun h' st' sb=>?_;have I1:Inv X pins σ H { s with heap:=h',toks:=s.toks+1 }:=I.turned (fun b o hb e=>(sb.2 b hb).trans e) f0 f1 f3 f4 f5;obtain⟨o,e,c,d⟩:=id st';exact⟨_,rfl,Km (s:={ s with heap:=h',toks:=s.toks+1 }) e c d (by decide) ⟨.str ⟨#[z.cps[i]]⟩,H,I1,⟨_,rfl⟩,⟨rfl,_,by simp [hlt],rfl⟩,st',fun b hb=>(hf b hb).1⟩⟩
 done:=by
  intro X hP hw hK hc i pins s σ H E I hf st hg;subst hP hw hK;obtain⟨f0,f1,f2,f3,f4,f5⟩:=hf it (by simp);have hge:z.cps.size<=i:=hg;exact wpAny_pyNext_ascii_end (I.ok.hd hc) st (by simp [hge]) fun h' eb=>⟨rfl,I.turned (t':=s.toks) (fun b o hb e=>eb b o hb e) f0 f1 f3 f4 f5⟩
 self:=fun _ _ _ _ _ st h=>wpAny_pyIter_striter_ascii st h
theorem Qt{P:Program}{w:World}{K:cZ}{tg:Expr}(it:Addr)(z:Str)(t:Tok):Turn P w K tg (Zw z) [it] it (fun i h=>h.IsStrIter it "str_iterator" z t i) where
 mem:=by simp
 obj:=fun i h st b hb=>by
  have e:b=it:=by simpa using hb
  subst e;obtain⟨o,e,c,d⟩:=st;exact⟨o,e,fun v z=>by rw[d]at z;cases z⟩
 keep:=fun i h h' st k=>by
  obtain⟨o,e,r⟩:=st;exact⟨o,k it (by simp) o e,r⟩
 item:=by
  intro X hP hw hK hc i pins s σ H E I hf st hg;subst hP hw hK;obtain⟨f0,f1,f2,f3,f4,f5⟩:=hf it (by simp);have hlt:i<z.cps.size:=hg;refine wpAny_pyNext_wide_item st (c:=z.cps[i]) (by simp [hlt]) fun h' st' sb=>?_;have I1:Inv X pins σ H { s with heap:=h',toks:=s.toks+1 }:=I.turned (fun b o hb e=>(sb.2 b hb).trans e) f0 f1 f3 f4 f5;obtain⟨o,e,c,d⟩:=id st';exact⟨_,rfl,Km (s:={ s with heap:=h',toks:=s.toks+1 }) e c d (by decide) ⟨.str ⟨#[z.cps[i]]⟩,H,I1,⟨_,rfl⟩,⟨rfl,_,by simp [hlt],rfl⟩,st',fun b hb=>(hf b hb).1⟩⟩
 done:=by
  intro X hP hw hK hc i pins s σ H E I hf st hg;subst hP hw hK;obtain⟨f0,f1,f2,f3,f4,f5⟩:=hf it (by simp);have hge:z.cps.size<=i:=hg;exact wpAny_pyNext_wide_end (I.ok.hd hc) st (by simp [hge]) fun h' eb=>⟨rfl,I.turned (t':=s.toks) (fun b o hb e=>eb b o hb e) f0 f1 f3 f4 f5⟩
 self:=fun _ _ _ _ _ st h=>wpAny_pyIter_striter_wide st h
section
variable{X:Cx}{tg:Expr}
noncomputable def qDJ(tl:TE):TI:=fun σ H R=>tl σ H fun x H1 => ∃ z,x = .str z/\R (Zw z) H1
theorem qAR{l:Expr}{tl:TE}(hl:PE X l tl):PI X tg l (qDJ tl):=by
 intro pins s σ H R I h;refine gO (hl pins s σ H _ I h) fun v s1 ⟨x,H1,I1,r1,q1⟩=>?_;obtain⟨z,e,q⟩:=q1;subst e;obtain⟨t,rfl⟩:=r1
 have fp:∀ b∈[s1.heap.objs.size],qz X pins H1 b:=fun b hb=>by
  have e:b=s1.heap.objs.size:=by simpa using hb
  subst e;exact I1.Iv (jj _) (I1.hok.fresh (jj _))
 cases ha:z.cps.all (· < 128)
 ·refine wpAny_pyIter_wide ha ?_;exact⟨s1.heap.objs.size,[s1.heap.objs.size],_,_,H1,rfl,I1.kept (t':=s1.toks) fun b o e=>mV _ e,Qt _ z t,⟨_,wj _ rfl,rfl,rfl⟩,fp,q⟩
 ·refine wpAny_pyIter_ascii ha ?_;exact⟨s1.heap.objs.size,[s1.heap.objs.size],_,_,H1,rfl,I1.kept (t':=s1.toks) fun b o e=>mV _ e,Mj _ z t,⟨_,wj _ rfl,rfl,rfl⟩,fp,q⟩
end
theorem YK{z:Str}{g:TG}{tb:TS}{D:Ends}{σ:St}{H:Hp}(Pv:Nat->St->Hp->Prop)(h0:Pv 0 σ H)
  (hs:∀ i c σ H,z.cps[i]? = some c->Pv i σ H->g (.str ⟨#[c]⟩) σ H fun σ2 H2=>tb { D with nx:=Pv (i+1),ct:=Pv (i+1),bk:=D.nx } σ2 H2) (hd:∀ σ H,Pv z.cps.size σ H->D.nx σ H) :
  ∃ W:Nat->Nat->St->Hp->Prop,(∃ m,W 0 m σ H)/\∀ i m σ H,W i m σ H →
   ((Zw z).stop i H/\D.nx σ H)∨((Zw z).go i H/\∃ N:St->Hp->Prop,(∀ σ' H',N σ' H'->∃ m',m'<m/\W (i+1) m' σ' H')/\∀ x H',(Zw z).Z8 i H x H'->g x σ H' fun σ2 H2=>tb { D with nx:=N,ct:=N,bk:=D.nx } σ2 H2):=by
 refine⟨fun i m σ H=>m=z.cps.size-i/\i<=z.cps.size/\Pv i σ H,⟨z.cps.size,by simp,Nat.zero_le _,h0⟩,?_⟩;rintro i m σ H ⟨rfl,hi,p⟩
 by_cases hlt:i<z.cps.size
 ·refine .inr ⟨hlt,Pv (i+1),fun σ' H' p'=>⟨z.cps.size-(i+1),by omega,rfl,hlt,p'⟩,fun x H' y=>?_⟩;obtain⟨e,c,ec,ex⟩:=y;subst e ex;exact hs i c σ _ ec p
 ·have e:i=z.cps.size:=by omega
  subst e;exact .inl ⟨jj _,hd σ H p⟩
theorem W8{z:Str}{cs:St}{tc:TT}{te:TE}{H1:Hp}{Z:List V->Hp->Prop}(Pv:Nat->List V->Hp->Prop)(h0:Pv 0 [] H1)
  (hs:∀ i c acc H,z.cps[i]? = some c->Pv i acc H->tc (some (.str ⟨#[c]⟩)::cs) H fun b H2=>if b=true then te (some (.str ⟨#[c]⟩)::cs) H2 fun v H3=>acc.length<sizeLine/\Pv (i+1) (acc++[v]) H3 else Pv (i+1) acc H2)
  (hd:∀ acc H,Pv z.cps.size acc H->Z acc H):rY (Zw z) cs tc te H1 Z:=
 BX z.cps.size Pv h0 (fun acc H p=>⟨jj _,hd acc H p⟩) fun i acc H hi p=>⟨hi,fun x H' y=>by
  obtain⟨e,c,ec,ex⟩:=y;subst e ex
  exact hs i c acc _ ec p⟩
section
variable{X:Cx}
theorem Mm{ys:List Str}:∀ {us:List Value},Vals (ys.map V.str) us->StrsAre us ys:=by
 induction ys with
 | nil=>intro us r;rw[List.map_nil]at r;cases r;exact .nil
 | cons n ns ih=>
  intro us r;rw[List.map_cons]at r
  cases r with
  | cons r1 r2=>
   obtain⟨t,e⟩:=r1;subst e;exact .cons n t (ih r2)
theorem Xn:MtR X "str.join" (fun x xs H Q => ∃(a:Str)(p:Addr)(ys:List Str),x = .str a/\xs=[.ref p]/\jk X.K H p (ys.map V.str)/\(ys.map (·.length)).sum+ys.length*a.length<=16777216/\Q (.str (Txt.join a ys)) H):=by
 intro pins s σ H x xs v us Q I rx rs h;obtain⟨a,p,ys,rfl,rfl,hq,hz,q⟩:=h;obtain⟨t,rfl⟩:=rx;obtain⟨u,rfl,r2⟩:=vals1 rs
 cases r2
 obtain⟨its,r',pl,_⟩:=I.list hq;exact join_list pl.isList (by simpa using Mm r') hz fun t' k=>⟨.str _,H,I.tok _,⟨_,rfl⟩,q⟩
theorem qAI:Te X (fun x lo hi H Q => ∃ z,x = .str z/\z.length<=sizeLine/\Q (.str (Txt.slice z lo hi)) H):=by
 intro pins s σ H x v vl vu lo hi sl Q I rx hs pl pu h;obtain⟨z,rfl,hz,q⟩:=h;obtain⟨t,rfl⟩:=rx
 have fin:∀(l u:Option (Int×Tok)),s.heap.IsSlice sl l u none->l.map (·.1)=lo->u.map (·.1)=hi->wpAny (model X.prog X.w) X.A (getItem (.str z t) (.ref sl)) (EP X pins σ Q) X.xe s:=fun l u h1 h2 h3=>by
  subst h2 h3;exact wpAny_getItem_str_slice (l:=l) (u:=u) (st:=none) h1 rfl (post_val_or_str ⟨Nat.le_trans (Txt.slice_le z _ _) hz,fun t' k=>⟨.str _,H,I.tok _,⟨_,rfl⟩,q⟩⟩)
 refine⟨"str",_,F.slot_str_getitem.lookup,typeIs_str _ _ _,?_⟩
 cases pl with
 | none=>
  cases pu with
  | none=>exact fin none none hs rfl rfl
  | int j uj=>exact fin none (some (j,uj)) hs rfl rfl
 | int i ui=>
  cases pu with
  | none=>exact fin (some (i,ui)) none hs rfl rfl
  | int j uj=>exact fin (some (i,ui)) (some (j,uj)) hs rfl rfl
theorem range_all:∀(n:Nat)(f:Nat->Bool)(bs:List Bool),bs.length=n->(∀ i b,bs[i]? = some b->f i=b)->(List.range n).all f=bs.all id:=by
 intro n f bs hl hf;rw[Bool.eq_iff_iff,List.all_eq_true,List.all_eq_true];constructor
 ·intro h b hb;obtain⟨i,e⟩:=List.mem_iff_getElem?.mp hb
  have hi:i<n:=by
   have:=(Fb.mp e).1;omega
  have:=h i (List.mem_range.mpr hi);rw[hf i b e]at this;exact this
 ·intro h i hi
  have hi':i<bs.length:=by rw[hl];exact List.mem_range.mp hi
  have e:bs[i]? = some bs[i]:=Az hi';rw[hf i _ e];exact h _ (Qn hi')
theorem qI(hc:X.calm=true):nu X (.builtin "all") (fun xs H Q => ∃(p:Addr)(bs:List Bool),xs=[.ref p]/\jk X.K H p (bs.map V.bl)/\Q (.bl (bs.all id)) H):=by
 intro pins s σ H xs us Q I r h;obtain⟨p,bs,rfl,hq,q⟩:=h;obtain⟨u,rfl,rx⟩:=vals1 r
 cases rx
 obtain⟨its,rv,pl,hz⟩:=I.list hq;have hlen:=rv.length;rw[jH]at hlen
 have hlt:p<s.heap.objs.size:=by
  obtain⟨o,ho,_⟩:=pl.isList;exact lZ ho
 refine call_all_walk (wpAny_pyIter_list pl.isList ?_)
 refine⟨s.heap.objs.size,[s.heap.objs.size,p],[s.heap.objs.size],its.toArray.size,fun i v=>its.toArray[i]? = some v,fun i h=>h.IsListIter s.heap.objs.size p i/\h.IsList p its.toArray,fun i=>(bs[i]?).getD true,rfl,
  Walks.list (A:=X.A.in1) (I.ok.hd hc) _ _ (tD hlt) _,⟨⟨_,wj _ rfl,rfl,rfl⟩,pl.isList.at fun o e=>mV _ e⟩,?_,?_⟩
 ·intro i v s' Q' E' hv hQ'
  have hi:i<bs.length:=by
   have:=(Array.getElem?_eq_some_iff.mp hv).1;simp only[List.size_toArray]at this;omega
  have e:bs[i]? = some bs[i]:=Az hi;obtain⟨u,hu,ru⟩:=rv.get (i:=i) (x:=V.bl bs[i]) (by rw[uB,e];rfl)
  have hv':its[i]? = some v:=by simpa using hv
  rw[hu]at hv'
  cases hv'
  cases ru
  have hQ2:Q' ((bs[i]?).getD true) s':=hQ';rw[e]at hQ2;exact wpAny_truthy_bool hQ2
 ·intro h' tk k;refine⟨.bl (bs.all id),H,I.kept (t':=tk) (h':=h') fun b u e=>k b u (fun z=>?_) (mV _ e),?_,q⟩
  ·have z':b=s.heap.objs.size:=by simpa using z
   exact absurd (lZ e) (by rw[z'];exact Nat.lt_irrefl _)
  ·show Value.bool _=Value.bool _;rw[range_all its.toArray.size _ bs (by simp only[List.size_toArray];exact hlen) fun i b e=>by rw[e];rfl]
end
section
variable{X:Cx}{a b c:Expr}{ta tb:TE}{pos:Pos}
end
theorem zH{n:Nat}(h:n<=1000):n<=sizeLine:=Nat.le_of_lt (zU h)
theorem qBA(x:Int):Builtin.bitAnd x 2147483647=x%2147483648:=PySem.W.kbt_mask x 31
theorem qD8(x:Int):0<=Builtin.bitAnd x 2147483647/\Builtin.bitAnd x 2147483647<2147483648:=by
 rw[qBA];omega
section
variable{X:Cx}{st:Stmt}{rest:List Stmt}{t u:TS}
end
end L2
namespace DL
open PySem L2
inductive D where
 | non | bl (b:Bool) | int (i:Int) | str (x:Str) | tup (l:List D) | lst (l:List D)
 | d8 (l:List Int)
 | obj (C:Addr) (fs:List (Str×D))
mutual
noncomputable def Rp(K:cZ)(B:Hp):D->V->Prop
 | .non,v=>v = .non
 | .bl b,v=>v = .bl b
 | .int i,v=>v = .int i
 | .str x,v=>v = .str x
 | .tup l,v => ∃ p vs,v = .ref p/\rM K B p vs/\fL K B l vs
 | .lst l,v => ∃ p vs,v = .ref p/\B p=some (.lst vs)/\fL K B l vs
 | .d8 l,v => ∃ p,v = .ref p/\jk K B p (l.map V.int)
 | .obj C fs,v => ∃ p dx bW,v = .ref p/\B p=some (.ins C dx bW)/\Qk K B fs bW
noncomputable def Qk(K:cZ)(B:Hp):List (Str×D)->List (Str×V)->Prop
 | [],bW=>bW=[]
 | (x,d)::fs,bW => ∃ v ws,bW=(x,v)::ws/\Rp K B d v/\Qk K B fs ws
noncomputable def fL(K:cZ)(B:Hp):List D->List V->Prop
 | [],vs=>vs=[]
 | d::ds,vs => ∃ v ws,vs=v::ws/\Rp K B d v/\fL K B ds ws
end
section
variable{K:cZ}{B B':Hp}
theorem pP{a:Addr}{xs:List V}(e:bB B B')(h:rM K B a xs):rM K B' a xs:=by
 rcases h with (h | ⟨o,h⟩) | h
 ·exact .inl (.inl (e _ _ h))
 ·exact .inl (.inr ⟨o,e _ _ h⟩)
 ·exact .inr h
mutual
theorem Rp.mono(s:bB B B'):∀ {d:D} {v:V},Rp K B d v->Rp K B' d v
 | .non,_,h=>h
 | .bl _,_,h=>h
 | .int _,_,h=>h
 | .str _,_,h=>h
 | .tup _,_,⟨p,vs,e,q,r⟩=>⟨p,vs,e,pP s q,fL.mono s r⟩
 | .lst _,_,⟨p,vs,e,q,r⟩=>⟨p,vs,e,s _ _ q,fL.mono s r⟩
 | .d8 _,_,⟨p,e,q⟩=>⟨p,e,s.seq q⟩
 | .obj _ _,_,⟨p,dx,bW,e,q,r⟩=>⟨p,dx,bW,e,s _ _ q,Qk.mono s r⟩
theorem Qk.mono(s:bB B B'):∀ {fs:List (Str×D)} {bW:List (Str×V)},Qk K B fs bW->Qk K B' fs bW
 | [],_,h=>h
 | (_,_)::_,_,⟨v,ws,e,q,r⟩=>⟨v,ws,e,Rp.mono s q,Qk.mono s r⟩
theorem fL.mono(s:bB B B'):∀ {l:List D} {vs:List V},fL K B l vs->fL K B' l vs
 | [],_,h=>h
 | _::_,_,⟨v,ws,e,q,r⟩=>⟨v,ws,e,Rp.mono s q,fL.mono s r⟩
end
theorem fL.len:∀ {l:List D} {vs:List V},fL K B l vs->vs.length=l.length
 | [],_,h=>by cases h;rfl
 | _::_,_,⟨v,ws,e,_,r⟩=>by rw[e,dJ,dJ,fL.len r]
theorem fL.get:∀ {l:List D} {vs:List V} {i:Nat} {d:D},fL K B l vs->l[i]? = some d->∃ v,vs[i]? = some v/\Rp K B d v
 | [],_,_,_,_,h=>by simp at h
 | _::_,_,0,_,⟨v,ws,e,q,_⟩,h=>by
  rw[e]
  cases (show some _=some _ from h)
  exact⟨v,rfl,q⟩
 | _::_,_,i+1,d,⟨v,ws,e,_,r⟩,h=>by
  rw[e];exact fL.get (i:=i) (d:=d) r h
theorem fL.app:∀ {l m:List D} {vs ws:List V},fL K B l vs->fL K B m ws->fL K B (l++m) (vs++ws)
 | [],_,_,_,h,q=>by cases h;exact q
 | _::_,_,_,_,⟨v,us,e,q,r⟩,h=>by rw[e];exact⟨v,us++_,rfl,q,fL.app r h⟩
theorem fL.take:∀ {l:List D} {vs:List V} (n:Nat),fL K B l vs->fL K B (l.take n) (vs.take n)
 | _,_,0,_=>rfl
 | [],_,_+1,h=>by cases h;rfl
 | _::_,_,n+1,⟨v,ws,e,q,r⟩=>by rw[e];exact⟨v,ws.take n,rfl,q,fL.take n r⟩
theorem fL.drop:∀ {l:List D} {vs:List V} (n:Nat),fL K B l vs->fL K B (l.drop n) (vs.drop n)
 | _,_,0,h=>h
 | [],_,_+1,h=>by cases h;rfl
 | _::_,_,n+1,⟨v,ws,e,_,r⟩=>by rw[e];exact fL.drop n r
theorem fL.cons{d:D}{l:List D}{v:V}{vs:List V}(h:Rp K B d v)(r:fL K B l vs):fL K B (d::l) (v::vs):=⟨v,vs,rfl,h,r⟩
theorem fL.one{d:D}{v:V}(h:Rp K B d v):fL K B [d] [v]:=⟨v,[],rfl,h,rfl⟩
end
structure Gm where
 K:cZ
 H0:Hp
 E:XK
 C:Addr
 sf:Option (Nat×Addr):=none
inductive Fm where
 | va (d:D) | li (l:List D)
noncomputable def Fm.d:Fm->D
 | .va d=>d
 | .li l=>.lst l
inductive Sl where
 | no | fr (d:D) | ow (l:List D)
 | bo (l:List D)
 | ob (C:Addr) (fs:List (Str×Fm))
inductive W where
 | fr (d:D) | ow (l:List D) | bw (l:List D) | bj (C:Addr) (fs:List (Str×Fm))
noncomputable def W.d:W->D
 | .fr d=>d
 | .ow l=>.lst l
 | .bw l=>.lst l
 | .bj C fs=>.obj C (fs.map fun x=>(x.1,x.2.d))
inductive Rz(α:Type) where
 | ok (a:α) | ex | st
noncomputable def Rz.bind{α β:Type}:Rz α->(α->Rz β)->Rz β
 | .ok a,f=>f a
 | .ex,_=>.ex
 | .st,_=>.st
noncomputable def nZ(G:Gm)(B H:Hp):List (Str×Fm)->List (Str×V)->Prop
 | [],bW=>bW=[]
 | (x,.va d)::fs,bW => ∃ v ws,bW=(x,v)::ws/\Rp G.K B d v/\nZ G B H fs ws
 | (x,.li l)::fs,bW => ∃ p ws vs,bW=(x,.ref p)::ws/\H p=some (.lst vs)/\B p=none/\G.H0 p=none/\fL G.K B l vs/\nZ G B H fs ws
noncomputable def adr:List (Str×Fm)->List (Str×V)->List Addr
 | (_,.li _)::fs,(_,.ref p)::ws=>p::adr fs ws
 | _::fs,_::ws=>adr fs ws
 | _,_=>[]
noncomputable def Ob(G:Gm)(B H:Hp)(C:Addr)(fs:List (Str×Fm))(a:Addr):Prop:=∃ dx bW,H a=some (.ins C dx bW)/\B a=none/\G.H0 a=none/\nZ G B H fs bW/\(adr fs bW).Nodup
noncomputable def Oa(H:Hp)(ρ:List Sl)(σ:St)(i:Nat)(a:Addr):Prop:=(∃ l,ρ[i]? = some (Sl.ow l)/\σ[i]? = some (some (V.ref a))) ∨
 ∃ C fs a0 dx bW,ρ[i]? = some (Sl.ob C fs)/\σ[i]? = some (some (V.ref a0))/\H a0=some (.ins C dx bW)/\(a=a0∨a∈adr fs bW)
structure Own(G:Gm)(B H:Hp)(ρ:List Sl)(σ:St):Prop where
 sb:bB B H
 s0:bB G.H0 H
 len:σ.length=ρ.length
 fr:∀(i:Nat)(d:D),ρ[i]? = some (Sl.fr d)->∃ v,σ[i]? = some (some v)/\Rp G.K B d v
 ow:∀(i:Nat)(l:List D),ρ[i]? = some (Sl.ow l)->∃ p vs,σ[i]? = some (some (V.ref p))/\H p=some (.lst vs)/\B p=none/\G.H0 p=none/\fL G.K B l vs
 bo:∀(i:Nat)(l:List D),ρ[i]? = some (Sl.bo l)->∃ p vs,σ[i]? = some (some (V.ref p))/\H p=some (.lst vs)/\B p=none/\G.H0 p=none/\fL G.K B l vs
 ob:∀(i:Nat)(C:Addr)(fs:List (Str×Fm)),ρ[i]? = some (Sl.ob C fs)->∃ a,σ[i]? = some (some (V.ref a))/\Ob G B H C fs a
 ap:∀(i j:Nat)(a:Addr),Oa H ρ σ i a->Oa H ρ σ j a->i=j
 sf:∀(j:Nat)(a C:Addr)(fs:List (Str×Fm)),G.sf=some (j,a)->ρ[j]? = some (Sl.ob C fs)->σ[j]? = some (some (V.ref a))
structure Ext(B H B' H':Hp):Prop where
 sb:bB B B'
 sh:bB H H'
 gr:∀ a o,B' a=some o->B a=some o∨H a=none
theorem Ext.refl(B H:Hp):Ext B H B H:=⟨bB.refl _,bB.refl _,fun _ _ h=>.inl h⟩
theorem Ext.trans{B H B1 H1 B2 H2:Hp}(a:Ext B H B1 H1)(b:Ext B1 H1 B2 H2):Ext B H B2 H2:=
 ⟨a.sb.trans b.sb,a.sh.trans b.sh,fun x o h=>(b.gr x o h).elim (fun q=>a.gr x o q) fun q=>.inr (a.sh.free q)⟩
noncomputable def Hr(K:cZ)(B H:Hp):W->V->Prop
 | .fr d,v=>Rp K B d v
 | .ow l,v => ∃ p vs,v = .ref p/\H p=some (.lst vs)/\fL K B l vs
 | .bw l,v => ∃ p vs,v = .ref p/\H p=some (.lst vs)/\fL K B l vs
 | .bj _ _,v => ∃ a,v = .ref a
noncomputable def uz(G:Gm)(H B' H':Hp):W->V->Prop
 | .fr d,v=>Rp G.K B' d v
 | .ow l,v => ∃ p vs,v = .ref p/\H p=none/\H' p=some (.lst vs)/\B' p=none/\fL G.K B' l vs
 | .bw l,v => ∃ p vs,v = .ref p/\H' p=some (.lst vs)/\B' p=none/\G.H0 p=none/\fL G.K B' l vs
 | .bj C fs,v => ∃ a,v = .ref a/\Ob G B' H' C fs a
theorem uz.hr{G:Gm}{H B' H':Hp}:∀ {w:W} {v:V},uz G H B' H' w v->Hr G.K B' H' w v
 | .fr _,_,h=>h
 | .ow _,_,⟨p,vs,e,_,q,_,r⟩=>⟨p,vs,e,q,r⟩
 | .bw _,_,⟨p,vs,e,q,_,_,r⟩=>⟨p,vs,e,q,r⟩
 | .bj _ _,_,⟨a,e,_⟩=>⟨a,e⟩
theorem Hr.mono{K:cZ}{B H B' H':Hp}(sb:bB B B')(sh:bB H H'):∀ {w:W} {v:V},Hr K B H w v->Hr K B' H' w v
 | .fr _,_,h=>Rp.mono sb h
 | .ow _,_,⟨p,vs,e,q,r⟩=>⟨p,vs,e,sh _ _ q,r.mono sb⟩
 | .bw _,_,⟨p,vs,e,q,r⟩=>⟨p,vs,e,sh _ _ q,r.mono sb⟩
 | .bj _ _,_,h=>h
theorem uz.back{G:Gm}{B H B1 H1 B' H':Hp}(x:Ext B H B1 H1):∀ {w:W} {v:V},uz G H1 B' H' w v->uz G H B' H' w v
 | .fr _,_,h=>h
 | .ow _,_,⟨p,vs,e,n,q,b,r⟩=>⟨p,vs,e,x.sh.free n,q,b,r⟩
 | .bw _,_,h=>h
 | .bj _ _,_,h=>h
noncomputable abbrev FE:=List Sl->Rz W
noncomputable abbrev FT:=List Sl->Rz Bool
noncomputable abbrev FA:=List Sl->Rz (List W)
noncomputable def dH(G:Gm)(B H:Hp)(ρ:List Sl)(σ:St)(Q:VK):Rz W->Prop
 | .ok w => ∀ v B' H',Own G B' H' ρ σ->Ext B H B' H'->uz G H B' H' w v->Q v H'
 | .ex => ∀ H',bB G.H0 H'->bB B H'->G.E (.ref G.C) none H'
 | .st=>False
noncomputable def Z4(G:Gm)(B H:Hp)(ρ:List Sl)(σ:St)(Q:Bool->Hp->Prop):Rz Bool->Prop
 | .ok b => ∀ B' H',Own G B' H' ρ σ->Ext B H B' H'->Q b H'
 | .ex => ∀ H',bB G.H0 H'->bB B H'->G.E (.ref G.C) none H'
 | .st=>False
noncomputable def Hz(G:Gm)(B H:Hp):W->V->Prop
 | .fr d,v=>Rp G.K B d v
 | .ow _,_=>False
 | .bw l,v => ∃ p vs,v = .ref p/\H p=some (.lst vs)/\B p=none/\G.H0 p=none/\fL G.K B l vs
 | .bj C fs,v => ∃ a,v = .ref a/\Ob G B H C fs a
noncomputable def M9(G:Gm)(B H:Hp):List W->List V->Prop
 | [],vs=>vs=[]
 | w::ws,vs => ∃ v us,vs=v::us/\Hz G B H w v/\M9 G B H ws us
noncomputable def PA1(G:Gm)(B H:Hp)(ρ:List Sl)(σ:St)(Q:List V->Hp->Prop):Rz (List W)->Prop
 | .ok ws => ∀ vs B' H',Own G B' H' ρ σ->Ext B H B' H'->M9 G B' H' ws vs->Q vs H'
 | .ex => ∀ H',bB G.H0 H'->bB B H'->G.E (.ref G.C) none H'
 | .st=>False
noncomputable def DE(G:Gm)(t:TE)(f:FE):Prop:=∀ B H ρ σ Q,Own G B H ρ σ->dH G B H ρ σ Q (f ρ)->t σ H Q
noncomputable def DT(G:Gm)(t:TT)(f:FT):Prop:=∀ B H ρ σ Q,Own G B H ρ σ->Z4 G B H ρ σ Q (f ρ)->t σ H Q
noncomputable def DA(G:Gm)(t:TA)(f:FA):Prop:=∀ B H ρ σ Q,Own G B H ρ σ->PA1 G B H ρ σ Q (f ρ)->t σ H Q
section
variable{G:Gm}{B H B1 H1:Hp}{ρ:List Sl}{σ:St}
theorem dH.on{Q:VK}(x:Ext B H B1 H1):∀ {r:Rz W},dH G B H ρ σ Q r->dH G B1 H1 ρ σ Q r
 | .ok _,h=>fun v B' H' o y q=>h v B' H' o (x.trans y) (q.back x)
 | .ex,h=>fun H' a b=>h H' a (x.sb.trans b)
 | .st,h=>h
theorem Z4.on{Q:Bool->Hp->Prop}(x:Ext B H B1 H1):∀ {r:Rz Bool},Z4 G B H ρ σ Q r->Z4 G B1 H1 ρ σ Q r
 | .ok _,h=>fun B' H' o y=>h B' H' o (x.trans y)
 | .ex,h=>fun H' a b=>h H' a (x.sb.trans b)
 | .st,h=>h
theorem PA1.on{Q:List V->Hp->Prop}(x:Ext B H B1 H1):∀ {r:Rz (List W)},PA1 G B H ρ σ Q r->PA1 G B1 H1 ρ σ Q r
 | .ok _,h=>fun vs B' H' o y q=>h vs B' H' o (x.trans y) q
 | .ex,h=>fun H' a b=>h H' a (x.sb.trans b)
 | .st,h=>h
theorem DE.go{t:TE}{f:FE}(h:DE G t f)(o:Own G B H ρ σ){Q:VK}{r:Rz W}(e:f ρ=r)(hx:r = .ex->∀ H',bB G.H0 H'->bB B H'->G.E (.ref G.C) none H')(hs:r≠.st)
  (q:∀ w,r = .ok w->∀ v B' H',Own G B' H' ρ σ->Ext B H B' H'->uz G H B' H' w v->Q v H'):t σ H Q:=by
 refine h B H ρ σ Q o ?_;rw[e]
 cases r with
 | ok w=>exact q w rfl
 | ex=>exact hx rfl
 | st=>exact (hs rfl).elim
theorem DE.then{t:TE}{f:FE}(h:DE G t f)(o:Own G B H ρ σ){Q:VK}{β:Type}{k:W->Rz β}{P:Rz β->Prop}(hp:P ((f ρ).bind k))(hx:P .ex->∀ H',bB G.H0 H'->bB B H'->G.E (.ref G.C) none H')(hs:P .st->False)
  (q:∀ w,P (k w)->∀ v B' H',Own G B' H' ρ σ->Ext B H B' H'->uz G H B' H' w v->Q v H'):t σ H Q:=by
 refine h B H ρ σ Q o ?_
 cases e:f ρ with
 | ok w=>rw[e]at hp;exact q w hp
 | ex=>rw[e]at hp;exact hx hp
 | st=>rw[e]at hp;exact (hs hp).elim
theorem DT.then{t:TT}{f:FT}(h:DT G t f)(o:Own G B H ρ σ){Q:Bool->Hp->Prop}{β:Type}{k:Bool->Rz β}{P:Rz β->Prop}(hp:P ((f ρ).bind k))(hx:P .ex->∀ H',bB G.H0 H'->bB B H'->G.E (.ref G.C) none H')(hs:P .st->False)
  (q:∀ b,P (k b)->∀ B' H',Own G B' H' ρ σ->Ext B H B' H'->Q b H'):t σ H Q:=by
 refine h B H ρ σ Q o ?_
 cases e:f ρ with
 | ok w=>rw[e]at hp;exact q w hp
 | ex=>rw[e]at hp;exact hx hp
 | st=>rw[e]at hp;exact (hs hp).elim
theorem DA.then{t:TA}{f:FA}(h:DA G t f)(o:Own G B H ρ σ){Q:List V->Hp->Prop}{β:Type}{k:List W->Rz β}{P:Rz β->Prop}(hp:P ((f ρ).bind k))(hx:P .ex->∀ H',bB G.H0 H'->bB B H'->G.E (.ref G.C) none H')(hs:P .st->False)
  (q:∀ w,P (k w)->∀ vs B' H',Own G B' H' ρ σ->Ext B H B' H'->M9 G B' H' w vs->Q vs H'):t σ H Q:=by
 refine h B H ρ σ Q o ?_
 cases e:f ρ with
 | ok w=>rw[e]at hp;exact q w hp
 | ex=>rw[e]at hp;exact hx hp
 | st=>rw[e]at hp;exact (hs hp).elim
theorem BL{p:Addr}{o:HO}(gr:∀ a o,B1 a=some o->B a=some o∨H a=none)(e1:H p=some o)(e2:B p=none):B1 p=none:=by
 cases z:B1 p with
 | none=>rfl
 | some u=>
  rcases gr p u z with y | y
  ·rw[e2]at y;cases y
  ·rw[e1]at y;cases y
theorem nZ.mono(sb:bB B B1)(sh:bB H H1)(gr:∀ a o,B1 a=some o->B a=some o∨H a=none):∀ {fs:List (Str×Fm)} {bW:List (Str×V)},nZ G B H fs bW->nZ G B1 H1 fs bW
 | [],_,h=>h
 | (_,.va _)::_,_,⟨v,ws,e,q,r⟩=>⟨v,ws,e,q.mono sb,nZ.mono sb sh gr r⟩
 | (_,.li _)::_,_,⟨p,ws,vs,e,h,n,n0,q,r⟩=>⟨p,ws,vs,e,sh _ _ h,BL gr h n,n0,q.mono sb,nZ.mono sb sh gr r⟩
theorem Ob.mono(sb:bB B B1)(sh:bB H H1)(gr:∀ a o,B1 a=some o->B a=some o∨H a=none){C a:Addr}{fs:List (Str×Fm)}(h:Ob G B H C fs a):Ob G B1 H1 C fs a:=by
 obtain⟨dx,bW,e,n,n0,r,d⟩:=h;exact⟨dx,bW,sh _ _ e,BL gr e n,n0,r.mono sb sh gr,d⟩
theorem Own.oa(o:Own G B H ρ σ)(sh:bB H H1){i:Nat}{a:Addr}(h:Oa H1 ρ σ i a):Oa H ρ σ i a:=by
 rcases h with h | ⟨C,fs,a0,dx,bW,e1,e2,e3,h⟩
 ·exact .inl h
 ·obtain⟨a1,z1,dx1,qFG,z2,_⟩:=o.ob i C fs e1;rw[e2]at z1
  cases z1
  have z3:=sh _ _ z2;rw[e3]at z3
  cases z3
  exact .inr ⟨C,fs,a0,dx,bW,e1,e2,z2,h⟩
theorem Own.apS(o:Own G B H ρ σ)(sh:bB H H1):∀(i j:Nat)(a:Addr),Oa H1 ρ σ i a->Oa H1 ρ σ j a->i=j:=fun i j a x y=>o.ap i j a (o.oa sh x) (o.oa sh y)
theorem Own.lay(o:Own G B H ρ σ){p:Addr}(hp:H p=none)(u:HO):Own G (upd B p u) (upd H p u) ρ σ/\Ext B H (upd B p u) (upd H p u):=by
 have hb:B p=none:=o.sb.free hp
 have s1:bB H (upd H p u):=fun a q e=>by rw[zQ (zM e hp)];exact e
 have s2:bB B (upd B p u):=fun a q e=>by rw[zQ (zM e hb)];exact e
 have gr0:∀ a o,upd B p u a=some o->B a=some o∨H a=none:=fun a q e=>by
  by_cases z:a=p
  ·subst z;exact .inr hp
  ·rw[zQ z]at e;exact .inl e
 refine⟨⟨fun a q e=>?_,o.s0.trans s1,o.len,fun i d e=>?_,fun i l e=>?_,fun i l e=>?_,fun i C fs e=>?_,o.apS s1,o.sf⟩,⟨s2,s1,gr0⟩⟩
 ·by_cases z:a=p
  ·subst z;rw[zC]at e ⊢;exact e
  ·rw[zQ z]at e ⊢;exact o.sb _ _ e
 ·obtain⟨v,e1,r⟩:=o.fr i d e;exact⟨v,e1,r.mono s2⟩
 ·obtain⟨a,vs,e1,e2,e3,e4,r⟩:=o.ow i l e;exact⟨a,vs,e1,s1 _ _ e2,by rw[zQ (zM e2 hp)];exact e3,e4,r.mono s2⟩
 ·obtain⟨a,vs,e1,e2,e3,e4,r⟩:=o.bo i l e;exact⟨a,vs,e1,s1 _ _ e2,by rw[zQ (zM e2 hp)];exact e3,e4,r.mono s2⟩
 ·obtain⟨a,e1,r⟩:=o.ob i C fs e;exact⟨a,e1,r.mono s2 s1 gr0⟩
theorem Own.own(o:Own G B H ρ σ){p:Addr}(hp:H p=none)(u:HO):Own G B (upd H p u) ρ σ/\Ext B H B (upd H p u)/\B p=none:=by
 have s1:bB H (upd H p u):=fun a q e=>by rw[zQ (zM e hp)];exact e
 refine⟨⟨o.sb.trans s1,o.s0.trans s1,o.len,o.fr,fun i l e=>?_,fun i l e=>?_,fun i C fs e=>?_,o.apS s1,o.sf⟩,⟨bB.refl _,s1,fun a q e=>.inl e⟩,o.sb.free hp⟩
 ·obtain⟨a,vs,e1,e2,r⟩:=o.ow i l e;exact⟨a,vs,e1,s1 _ _ e2,r⟩
 ·obtain⟨a,vs,e1,e2,r⟩:=o.bo i l e;exact⟨a,vs,e1,s1 _ _ e2,r⟩
 ·obtain⟨a,e1,r⟩:=o.ob i C fs e;exact⟨a,e1,r.mono (bB.refl _) s1 fun a q e=>.inl e⟩
theorem Own.rest(o:Own G B1 H1 ρ σ)(x:Ext B H B1 H1)(o0:Own G B H ρ σ){p:Addr}{vs:List V}(hp:H p=none)(h1:H1 p=some (.lst vs))(hb:B1 p=none):Own G (upd B1 p (.lst vs)) H1 ρ σ/\Ext B H (upd B1 p (.lst vs)) H1:=by
 have s2:bB B1 (upd B1 p (.lst vs)):=fun a q e=>by rw[zQ (zM e hb)];exact e
 have gr0:∀ a q,upd B1 p (.lst vs) a=some q->B a=some q∨H a=none:=fun a q e=>by
  by_cases z:a=p
  ·subst z;exact .inr hp
  ·rw[zQ z]at e;exact x.gr _ _ e
 refine⟨⟨fun a q e=>?_,o.s0,o.len,fun i d e=>?_,fun i l e=>?_,fun i l e=>?_,fun i C fs e=>?_,o.ap,o.sf⟩,⟨x.sb.trans s2,x.sh,gr0⟩⟩
 ·by_cases z:a=p
  ·subst z;rw[zC]at e;rw[<-e];exact h1
  ·rw[zQ z]at e;exact o.sb _ _ e
 ·obtain⟨v,e1,r⟩:=o.fr i d e;exact⟨v,e1,r.mono s2⟩
 ·obtain⟨a,us,e1,e2,e3,e4,r⟩:=o.ow i l e;obtain⟨a',us',e1',e2',_⟩:=o0.ow i l e;rw[e1]at e1'
  cases e1'
  have:a≠p:=fun z=>by subst z;rw[hp]at e2';cases e2'
  exact⟨a,us,e1,e2,by rw[zQ this];exact e3,e4,r.mono s2⟩
 ·obtain⟨a,us,e1,e2,e3,e4,r⟩:=o.bo i l e;obtain⟨a',us',e1',e2',_⟩:=o0.bo i l e;rw[e1]at e1'
  cases e1'
  have:a≠p:=fun z=>by subst z;rw[hp]at e2';cases e2'
  exact⟨a,us,e1,e2,by rw[zQ this];exact e3,e4,r.mono s2⟩
 ·obtain⟨a,e1,r⟩:=o0.ob i C fs e;exact⟨a,e1,r.mono (x.sb.trans s2) x.sh gr0⟩
theorem Own.ext{G:Gm}{B H B' H':Hp}{ρ:List Sl}{σ:St}(o:Own G B H ρ σ)(x:Ext B H B' H')(sb:bB B' H'):Own G B' H' ρ σ:=by
 have no:∀ p us,H p=some us->B p=none->B' p=none:=fun p us e1 e2=>by
  cases z:B' p with
  | none=>rfl
  | some u=>
   rcases x.gr p u z with y | y
   ·rw[e2]at y;cases y
   ·rw[e1]at y;cases y
 refine⟨sb,o.s0.trans x.sh,o.len,fun i d e=>?_,fun i l e=>?_,fun i l e=>?_,fun i C fs e=>?_,o.apS x.sh,o.sf⟩
 ·obtain⟨v,e1,r⟩:=o.fr i d e;exact⟨v,e1,r.mono x.sb⟩
 ·obtain⟨p,us,e1,e2,e3,e4,r⟩:=o.ow i l e;exact⟨p,us,e1,x.sh _ _ e2,no p _ e2 e3,e4,r.mono x.sb⟩
 ·obtain⟨p,us,e1,e2,e3,e4,r⟩:=o.bo i l e;exact⟨p,us,e1,x.sh _ _ e2,no p _ e2 e3,e4,r.mono x.sb⟩
 ·obtain⟨a,e1,r⟩:=o.ob i C fs e;exact⟨a,e1,r.mono x.sb x.sh x.gr⟩
noncomputable def W.z:W->Rz D
 | .fr d=>.ok d
 | .ow l=>.ok (.lst l)
 | _=>.st
noncomputable def W.a:W->W
 | .fr d=>.fr d
 | .ow l=>.fr (.lst l)
 | .bw l=>.bw l
 | .bj C fs=>.bj C fs
theorem Own.toArg(o0:Own G B H ρ σ)(o:Own G B1 H1 ρ σ)(x:Ext B H B1 H1):∀ {w:W} {v:V},uz G H B1 H1 w v->∃ B2,Own G B2 H1 ρ σ/\Ext B H B2 H1/\bB B1 B2/\Hz G B2 H1 w.a v
 | .fr _,_,h=>⟨B1,o,x,bB.refl _,h⟩
 | .ow l,v,⟨p,vs,e,n,q,b,r⟩=>by
  obtain⟨o2,x2⟩:=o.rest x o0 n q b
  have s2:bB B1 (upd B1 p (.lst vs)):=fun a y e=>by rw[zQ (zM e b)];exact e
  exact⟨_,o2,x2,s2,p,vs,e,zC,r.mono s2⟩
 | .bw _,_,h=>⟨B1,o,x,bB.refl _,h⟩
 | .bj _ _,_,h=>⟨B1,o,x,bB.refl _,h⟩
theorem Own.Bd(o0:Own G B H ρ σ)(o:Own G B1 H1 ρ σ)(x:Ext B H B1 H1){w:W}{v:V}{d:D}(h:uz G H B1 H1 w v)(e:w.z = .ok d):∃ B2,Own G B2 H1 ρ σ/\Ext B H B2 H1/\Rp G.K B2 d v:=by
 obtain⟨B2,o2,x2,_,z⟩:=Own.toArg o0 o x h
 cases w with
 | fr d'=>cases e;exact⟨B2,o2,x2,z⟩
 | ow l=>cases e;exact⟨B2,o2,x2,z⟩
 | bw l=>cases e
 | bj _ _=>cases e
end
noncomputable def Rq(K:cZ)(B H:Hp):D->V->Prop
 | .lst l,v => ∃ p vs,v = .ref p/\H p=some (.lst vs)/\fL K B l vs
 | .obj _ _,v => ∃ a,v = .ref a
 | d,v=>Rp K B d v
theorem Rp.rq{K:cZ}{B H:Hp}(s:bB B H):∀ {d:D} {v:V},Rp K B d v->Rq K B H d v
 | .lst _,_,⟨p,vs,e,q,r⟩=>⟨p,vs,e,s _ _ q,r⟩
 | .non,_,h=>h
 | .bl _,_,h=>h
 | .int _,_,h=>h
 | .str _,_,h=>h
 | .tup _,_,h=>h
 | .d8 _,_,h=>h
 | .obj _ _,_,⟨p,_,_,e,_⟩=>⟨p,e⟩
theorem Hr.rq{K:cZ}{B H:Hp}(s:bB B H):∀ {w:W} {v:V},Hr K B H w v->Rq K B H w.d v
 | .fr _,_,h=>Rp.rq s h
 | .ow _,_,h=>h
 | .bw _,_,h=>h
 | .bj _ _,_,h=>h
theorem uz.rq{G:Gm}{B H H':Hp}(s:bB B H'){w:W}{v:V}(h:uz G H B H' w v):Rq G.K B H' w.d v:=h.hr.rq s
theorem Hz.rq{G:Gm}{B H:Hp}(s:bB B H):∀ {w:W} {v:V},Hz G B H w v->Rq G.K B H w.d v
 | .fr _,_,h=>Rp.rq s h
 | .bw _,_,⟨p,vs,e,q,_,_,r⟩=>⟨p,vs,e,q,r⟩
 | .bj _ _,_,⟨a,e,_⟩=>⟨a,e⟩
noncomputable def aB(i:Nat):FE:=fun ρ=>match ρ[i]? with
 | some (.fr d)=>.ok (.fr d)
 | some (.ow l)=>.ok (.bw l)
 | some (.bo l)=>.ok (.bw l)
 | some (.ob C fs)=>.ok (.bj C fs)
 | _=>.st
noncomputable def fC(d:D):FE:=fun _=>.ok (.fr d)
noncomputable def OD(G:Gm)(r:R2)(g:D->D->Rz W):Prop:=∀ B H ρ σ x y dx dy Q,Own G B H ρ σ->Rq G.K B H dx x->Rq G.K B H dy y->dH G B H ρ σ Q (g dx dy)->r x y H Q
noncomputable def aL(g:D->D->Rz W)(fa fb:FE):FE:=fun ρ=>(fa ρ).bind fun x=>(fb ρ).bind fun y=>g x.d y.d
noncomputable def UD(G:Gm)(r:V->Hp->VK->Prop)(g:D->Rz W):Prop:=∀ B H ρ σ x dx Q,Own G B H ρ σ->Rq G.K B H dx x->dH G B H ρ σ Q (g dx)->r x H Q
noncomputable def vB(g:D->Rz W)(fa:FE):FE:=fun ρ=>(fa ρ).bind fun x=>g x.d
section
variable{G:Gm}{ta tb:TE}{fa fb:FE}{r:R2}{g:D->D->Rz W}
theorem aF(i:Nat):DE G (Gy i) (aB i):=by
 intro B H ρ σ Q o h;unfold aB at h
 split at h
 ·rename_i d e
  obtain⟨v,e1,r⟩:=o.fr i d e;exact⟨v,e1,h v B H o (Ext.refl _ _) r⟩
 ·rename_i l e
  obtain⟨p,vs,e1,r⟩:=o.ow i l e;exact⟨.ref p,e1,h _ B H o (Ext.refl _ _) ⟨p,vs,rfl,r⟩⟩
 ·rename_i l e
  obtain⟨p,vs,e1,r⟩:=o.bo i l e;exact⟨.ref p,e1,h _ B H o (Ext.refl _ _) ⟨p,vs,rfl,r⟩⟩
 ·rename_i C fs e
  obtain⟨a,e1,r⟩:=o.ob i C fs e;exact⟨.ref a,e1,h _ B H o (Ext.refl _ _) ⟨a,rfl,r⟩⟩
 ·exact h.elim
theorem fK{v:V}{d:D}(hk:∀ B,Rp G.K B d v):DE G (tC v) (fC d):=fun B H ρ σ Q o h=>h v B H o (Ext.refl _ _) (hk B)
theorem aG{i:Int}:DE G (tC (.int i)) (fC (.int i)):=fK fun _=>rfl
theorem aV{x:Str}:DE G (tC (.str x)) (fC (.str x)):=fK fun _=>rfl
theorem rK{b:Bool}:DE G (tC (.bl b)) (fC (.bl b)):=fK fun _=>rfl
theorem JD:DE G (tC .non) (fC .non):=fK fun _=>rfl
theorem aH(ho:OD G r g)(ha:DE G ta fa)(hb:DE G tb fb):DE G (X3 r ta tb) (aL g fa fb):=by
 intro B H ρ σ Q o h;refine ha.then o (P:=dH G B H ρ σ Q) h (fun z=>z) (fun z=>z) fun w1 z v1 B1 H1 o1 x1 q1=>?_;refine hb.then o1 (P:=dH G B H ρ σ Q) z (fun y H' a b=>y H' a (x1.sb.trans b)) (fun y=>y) fun w2 z2 v2 B2 H2 o2 x2 q2=>?_;exact ho B2 H2 ρ σ v1 v2 _ _ Q o2 ((q1.hr.mono x2.sb x2.sh).rq o2.sb) (q2.rq o2.sb) (z2.on (x1.trans x2))
theorem rH{r:V->Hp->VK->Prop}{g:D->Rz W}(ho:UD G r g)(ha:DE G ta fa):DE G (tUn r ta) (vB g fa):=by
 intro B H ρ σ Q o h;refine ha.then o (P:=dH G B H ρ σ Q) h (fun z=>z) (fun z=>z) fun w1 z v1 B1 H1 o1 x1 q1=>?_;exact ho B1 H1 ρ σ v1 _ Q o1 (q1.rq o1.sb) (z.on x1)
theorem dH.now{B H:Hp}{ρ:List Sl}{σ:St}{Q:VK}{d:D}{v:V}(o:Own G B H ρ σ)(h:dH G B H ρ σ Q (.ok (.fr d)))(r:Rp G.K B d v):Q v H:=h v B H o (Ext.refl _ _) r
theorem dH.tup{B H:Hp}{ρ:List Sl}{σ:St}{Q:VK}{l:List D}{vs:List V}(o:Own G B H ρ σ)(h:dH G B H ρ σ Q (.ok (.fr (.tup l))))(r:fL G.K B l vs){p:Addr}(hp:H p=none):Q (.ref p) (upd H p (.tup vs)):=by
 obtain⟨o1,x1⟩:=o.lay hp (.tup vs);exact h _ _ _ o1 x1 ⟨p,vs,rfl,rM.of zC,r.mono x1.sb⟩
theorem dH.own{B H:Hp}{ρ:List Sl}{σ:St}{Q:VK}{l:List D}{vs:List V}(o:Own G B H ρ σ)(h:dH G B H ρ σ Q (.ok (.ow l)))(r:fL G.K B l vs){p:Addr}(hp:H p=none):Q (.ref p) (upd H p (.lst vs)):=by
 obtain⟨o1,x1,hb⟩:=o.own hp (.lst vs);exact h _ _ _ o1 x1 ⟨p,vs,rfl,hp,zC,hb,r⟩
noncomputable def iiD(c:Int->Int->Bool)(g:Int->Int->D):D->D->Rz W
 | .int i,.int j=>if c i j=true then .ok (.fr (g i j)) else .st
 | _,_=>.st
theorem d9{C:Int->Int->Prop}{c:Int->Int->Bool}{gv:Int->Int->V}{gd:Int->Int->D}(hc:∀ i j,c i j=true->C i j)(hg:∀ K B i j,Rp K B (gd i j) (gv i j)):OD G (rI C gv) (iiD c gd):=by
 intro B H ρ σ x y dx dy Q o hx hy h;unfold iiD at h
 split at h
 ·rename_i i j
  split at h
  ·rename_i e
   exact⟨i,j,hx,hy,hc i j e,dH.now o h (hg _ _ i j)⟩
  ·exact h.elim
 ·exact h.elim
noncomputable def iD(g:Int->Int->D):D->D->Rz W
 | .int i,.int j=>.ok (.fr (g i j))
 | _,_=>.st
theorem di{gv:Int->Int->V}{gd:Int->Int->D}(hg:∀ K B i j,Rp K B (gd i j) (gv i j)):OD G (Ug gv) (iD gd):=by
 intro B H ρ σ x y dx dy Q o hx hy h;unfold iD at h
 split at h
 ·rename_i i j
  exact⟨i,j,hx,hy,dH.now o h (hg _ _ i j)⟩
 ·exact h.elim
instance (i j:Int):Decidable (Jg i j):=by unfold Jg;exact inferInstance
instance (i j:Int):Decidable (M7 i j):=by unfold M7;exact inferInstance
instance (i j:Int):Decidable (qFC i j):=by unfold qFC;exact inferInstance
noncomputable abbrev lN:=iD fun i j=>.int (i-j)
noncomputable abbrev jn:=iiD (fun i j=>decide (M7 i j)) fun i j=>.int (i/j)
noncomputable abbrev cC:=iiD (fun _ j=>decide (0<j)) fun i j=>.int (i%j)
noncomputable abbrev qCK:=iiD (fun _ j=>decide (0<=j)) fun i j=>.int (i/2 ^ j.toNat)
noncomputable abbrev Yy:=iD fun i j=>.int (Builtin.bitAnd i j)
noncomputable abbrev Xr:=iD fun i j=>.bl (decide (i<j))
noncomputable abbrev zq:=iD fun i j=>.bl (decide (i<=j))
noncomputable abbrev pY:=iD fun i j=>.bl (decide (j<i))
noncomputable abbrev geD:=iD fun i j=>.bl (decide (j<=i))
end
mutual
noncomputable def qL:D->D->Bool
 | .tup l,.tup m=>Jh l m
 | .lst l,.lst m=>Jh l m
 | .non,.non=>true
 | .bl a,.bl b=>a==b
 | .bl a,.int b=>(if a then 1 else 0)==b
 | .int a,.bl b=>a==(if b then 1 else 0)
 | .int a,.int b=>a==b
 | .str a,.str b=>a==b
 | _,_=>false
noncomputable def Jh:List D->List D->Bool
 | a::l,b::m=>qL a b&&Jh l m
 | [],[]=>true
 | _,_=>false
end
mutual
noncomputable def D.pl:D->Bool
 | .tup l=>R8 l
 | .lst l=>R8 l
 | .d8 _=>false
 | .obj _ _=>false
 | _=>true
noncomputable def R8:List D->Bool
 | []=>true
 | d::l=>d.pl&&R8 l
end
mutual
noncomputable def D.dep:D->Nat
 | .tup l=>JC l+1
 | .lst l=>JC l+1
 | _=>0
noncomputable def JC:List D->Nat
 | []=>0
 | d::l=>max d.dep (JC l)
end
mutual
theorem Dc:∀ d:D,d.pl=true->qL d d=true
 | .non,_=>rfl
 | .bl b,_=>by show (b==b)=true;exact beq_self_eq_true _
 | .int i,_=>by show (i==i)=true;exact beq_self_eq_true _
 | .str x,_=>by show (x==x)=true;exact beq_self_eq_true _
 | .tup l,h=>by rw[qL];exact DY l h
 | .lst l,h=>by rw[qL];exact DY l h
theorem DY:∀ l:List D,R8 l=true->Jh l l=true
 | [],_=>rfl
 | d::l,h=>by
  rw[R8,Bool.and_eq_true]at h;rw[Jh,Dc d h.1,DY l h.2];rfl
end
theorem uo:∀ l m:List D,((List.range (min l.length m.length)).all (fun j=>qL (l.getD j .non) (m.getD j .non))&&l.length==m.length)=Jh l m
 | [],[]=>rfl
 | [],_::_=>by simp [Jh]
 | _::_,[]=>by simp [Jh]
 | a::l,b::m=>by
  have:=uo l m;rw[Jh,<-this,dJ,dJ,show min (l.length+1) (m.length+1)=min l.length m.length+1 by omega,List.range_succ_eq_map,List.all_cons,List.all_map]
  have e:((l.length+1==m.length+1)=(l.length==m.length)):=by simp
  rw[e,Bool.and_assoc];rfl
theorem jt:∀ {l:List D} {i:Nat} {d:D},R8 l=true->l[i]? = some d->d.pl=true
 | [],_,_,_,h=>by simp at h
 | _::_,0,_,p,h=>by
  rw[R8,Bool.and_eq_true]at p
  cases (show some _=some _ from h)
  exact p.1
 | _::_,i+1,d,p,h=>by
  rw[R8,Bool.and_eq_true]at p;exact jt (i:=i) p.2 h
theorem qt:∀ {l:List D} {i:Nat} {d:D},l[i]? = some d->d.dep<=JC l
 | [],_,_,h=>by simp at h
 | a::l,0,_,h=>by
  cases (show some _=some _ from h)
  rw[JC];exact Nat.le_max_left _ _
 | a::l,i+1,d,h=>by
  have:=qt (l:=l) (i:=i) (d:=d) h;rw[JC];omega
section
variable{X:Cx}{pins:List (Addr×Obj)}{σ:St}{H:Hp}{s:Shared}
theorem fL.at{K:cZ}{l:List D}{vs:List V}(r:fL K H l vs){j:Nat}{x:V}(h:vs[j]? = some x):∃ d,l[j]? = some d/\Rp K H d x:=by
 have hl:=r.len;have hj:=(Fb.mp h).1;obtain⟨v,e,q⟩:=r.get (i:=j) (d:=l[j]'(by omega)) (Az (by omega));rw[h]at e
 cases e
 exact⟨_,Az (by omega),q⟩
theorem valAt{xs:List V}{us:List Value}(r:Vals xs us){j:Nat}(h:j<us.length):∃ x,xs[j]? = some x/\RelV x us[j]:=by
 have hl:=r.length;obtain⟨u,e,q⟩:=r.get (i:=j) (x:=xs[j]'(by omega)) (Az (by omega));rw[Az h]at e
 cases e
 exact⟨_,Az (by omega),q⟩
theorem Cr(I:Inv X pins σ H s){p:Addr}{vs:List V}(h:H p=some (.lst vs)):∃ its:List Value,Vals vs its/\s.heap.IsList p its.toArray:=by
 obtain⟨its,r,pl,_⟩:=I.list (jk.of h);exact⟨its,r,pl.isList⟩
theorem wF(I:Inv X pins σ H s){p:Addr}{vs:List V}(h:rM X.K H p vs):∃ its:List Value,Vals vs its/\s.heap.IsTuple p its.toArray:=by
 obtain⟨its,r,pl,_⟩:=I.tuple h;exact⟨its,r,pl⟩
theorem qD1{h:Heap}{p:Addr}{a b:Array Value}(x:h.IsList p a)(y:h.IsTuple p b):False:=by
 obtain⟨o,e,c,_⟩:=x;obtain⟨o',e',c',_⟩:=y;rw[e]at e'
 cases e'
 rw[c]at c';exact absurd c' (by simp)
theorem qC6{h:Heap}{p:Addr}{a b:Array Value}(x:h.IsTuple p a)(y:h.IsTuple p b):a=b:=by
 obtain⟨o,e,c,n,d⟩:=x;obtain⟨o',e',c',n',d'⟩:=y;rw[e]at e'
 cases e'
 rw[d]at d'
 cases d'
 rfl
mutual
theorem Rp.inj(I:Inv X pins σ H s):∀ {d e:D} {v:V},d.pl=true->e.pl=true->Rp X.K H d v->Rp X.K H e v->d=e
 | .non,e,_,_,he,h,q=>by
  cases (show _=_ from h)
  cases e with
  | non=>rfl
  | d8 _=>cases he
  | obj _ _=>cases he
  | tup _=>obtain⟨_,_,z,_⟩:=q;cases z
  | lst _=>obtain⟨_,_,z,_⟩:=q;cases z
  | _=>cases (show _=_ from q)
 | .bl b,e,_,_,he,h,q=>by
  cases (show _=_ from h)
  cases e with
  | bl _=>cases (show _=_ from q);rfl
  | d8 _=>cases he
  | obj _ _=>cases he
  | tup _=>obtain⟨_,_,z,_⟩:=q;cases z
  | lst _=>obtain⟨_,_,z,_⟩:=q;cases z
  | _=>cases (show _=_ from q)
 | .int b,e,_,_,he,h,q=>by
  cases (show _=_ from h)
  cases e with
  | int _=>cases (show _=_ from q);rfl
  | d8 _=>cases he
  | obj _ _=>cases he
  | tup _=>obtain⟨_,_,z,_⟩:=q;cases z
  | lst _=>obtain⟨_,_,z,_⟩:=q;cases z
  | _=>cases (show _=_ from q)
 | .str b,e,_,_,he,h,q=>by
  cases (show _=_ from h)
  cases e with
  | str _=>cases (show _=_ from q);rfl
  | d8 _=>cases he
  | obj _ _=>cases he
  | tup _=>obtain⟨_,_,z,_⟩:=q;cases z
  | lst _=>obtain⟨_,_,z,_⟩:=q;cases z
  | _=>cases (show _=_ from q)
 | .tup l,e,_,hd,he,⟨p,vs,z,t,r⟩,q=>by
  subst z
  cases e with
  | tup m=>
   obtain⟨p',ws,z,t',r'⟩:=q
   cases z
   obtain⟨i1,v1,x1⟩:=wF I t;obtain⟨i2,v2,x2⟩:=wF I t';have:=qC6 x1 x2
   have:i1=i2:=by simpa using this
   subst this
   cases v1.inj v2
   rw[fL.inj I hd he r r']
  | lst m=>
   obtain⟨p',ws,z,t',r'⟩:=q
   cases z
   obtain⟨i1,v1,x1⟩:=wF I t;obtain⟨i2,v2,x2⟩:=Cr I t';exact (qD1 x2 x1).elim
  | d8 _=>cases he
  | obj _ _=>cases he
  | _=>cases (show _=_ from q)
 | .lst l,e,_,hd,he,⟨p,vs,z,t,r⟩,q=>by
  subst z
  cases e with
  | tup m=>
   obtain⟨p',ws,z,t',r'⟩:=q
   cases z
   obtain⟨i1,v1,x1⟩:=Cr I t;obtain⟨i2,v2,x2⟩:=wF I t';exact (qD1 x1 x2).elim
  | lst m=>
   obtain⟨p',ws,z,t',r'⟩:=q
   cases z
   rw[t]at t'
   cases t'
   rw[fL.inj I hd he r r']
  | d8 _=>cases he
  | obj _ _=>cases he
  | _=>cases (show _=_ from q)
theorem fL.inj(I:Inv X pins σ H s):∀ {l m:List D} {vs:List V},R8 l=true->R8 m=true->fL X.K H l vs->fL X.K H m vs->l=m
 | [],[],_,_,_,_,_=>rfl
 | [],_::_,_,_,_,h,⟨_,_,e,_⟩=>by rw[h]at e;cases e
 | _::_,[],_,_,_,⟨_,_,e,_⟩,h=>by rw[h]at e;cases e
 | a::l,b::m,_,hd,he,⟨v,ws,e,q,r⟩,⟨v',ws',e',q',r'⟩=>by
  rw[e]at e'
  cases e'
  rw[R8,Bool.and_eq_true]at hd he;rw[Rp.inj I hd.1 he.1 q q',fL.inj I hd.2 he.2 r r']
end
theorem Zo(I:Inv X pins σ H s){d e:D}{A:Around}{x y:V}{u v:Value}(hf:d.dep=0)(hd:d.pl=true)(he:e.pl=true)(hx:Rp X.K H d x)(hy:Rp X.K H e y)(ru:RelV x u)(rv:RelV y v)(hu:A.units<cLine):SeqAt.EqAt A s u v (qL d e):=by
 cases d with
 | non  =>
  cases (show _=_ from hx)
  cases e with
  | tup m=>
   obtain⟨q,ws,z,t2,r2⟩:=hy;subst z
   cases rv
   obtain⟨i2,v2,x2⟩:=wF I t2
   cases ru
   exact SeqAt.EqAt.none_tuple x2 hu
  | lst m=>
   obtain⟨q,ws,z,t2,r2⟩:=hy;subst z
   cases rv
   obtain⟨i2,v2,x2⟩:=Cr I t2
   cases ru
   exact SeqAt.EqAt.none_list x2 hu
  | d8 _=>cases he
  | obj _ _=>cases he
  | _=>cases (show _=_ from hy);exact Dd ru rv rfl rfl
 | bl a=>
  cases (show _=_ from hx)
  cases e with
  | tup m=>
   obtain⟨q,ws,z,t2,r2⟩:=hy;subst z
   cases rv
   obtain⟨i2,v2,x2⟩:=wF I t2
   cases ru
   exact SeqAt.EqAt.bool_tuple a x2 hu
  | lst m=>
   obtain⟨q,ws,z,t2,r2⟩:=hy;subst z
   cases rv
   obtain⟨i2,v2,x2⟩:=Cr I t2
   cases ru
   exact SeqAt.EqAt.bool_list a x2 hu
  | d8 _=>cases he
  | obj _ _=>cases he
  | _=>cases (show _=_ from hy);exact Dd ru rv rfl rfl
 | int a=>
  cases (show _=_ from hx)
  cases e with
  | tup m=>
   obtain⟨q,ws,z,t2,r2⟩:=hy;subst z
   cases rv
   obtain⟨i2,v2,x2⟩:=wF I t2;obtain⟨t,rfl⟩:=ru;exact SeqAt.EqAt.int_tuple a t x2 hu
  | lst m=>
   obtain⟨q,ws,z,t2,r2⟩:=hy;subst z
   cases rv
   obtain⟨i2,v2,x2⟩:=Cr I t2;obtain⟨t,rfl⟩:=ru;exact SeqAt.EqAt.int_list a t x2 hu
  | d8 _=>cases he
  | obj _ _=>cases he
  | _=>cases (show _=_ from hy);exact Dd ru rv rfl rfl
 | str a=>
  cases (show _=_ from hx)
  cases e with
  | tup m=>
   obtain⟨q,ws,z,t2,r2⟩:=hy;subst z
   cases rv
   obtain⟨i2,v2,x2⟩:=wF I t2;obtain⟨t,rfl⟩:=ru;exact SeqAt.EqAt.str_tuple a t x2 hu
  | lst m=>
   obtain⟨q,ws,z,t2,r2⟩:=hy;subst z
   cases rv
   obtain⟨i2,v2,x2⟩:=Cr I t2;obtain⟨t,rfl⟩:=ru;exact SeqAt.EqAt.str_list a t x2 hu
  | d8 _=>cases he
  | obj _ _=>cases he
  | _=>cases (show _=_ from hy);exact Dd ru rv rfl rfl
 | tup l=>rw[D.dep]at hf;cases hf
 | lst l=>rw[D.dep]at hf;cases hf
 | d8 _=>cases hd
 | obj _ _=>cases hd
theorem QZ(I:Inv X pins σ H s):∀(n:Nat)(d e:D)(A:Around)(x y:V)(u v:Value),d.dep<=n->d.pl=true->e.pl=true->Rp X.K H d x->Rp X.K H e y->RelV x u->RelV y v->A.units+n<cLine->SeqAt.EqAt A s u v (qL d e):=by
 intro n
 induction n with
 | zero=>exact fun d e A x y u v hn hd he hx hy ru rv hu=>Zo I (by omega) hd he hx hy ru rv hu
 | succ n ih=>
 intro d e A x y u v hn hd he hx hy ru rv hu
 by_cases h0:d.dep=0
 ·exact Zo I h0 hd he hx hy ru rv (by omega)
 cases d with
 | tup l=>
  obtain⟨p,vs,z,t1,r1⟩:=hx;subst z
  cases ru
  obtain⟨i1,v1,x1⟩:=wF I t1
  cases e with
  | tup m=>
   obtain⟨q,ws,z,t2,r2⟩:=hy;subst z
   cases rv
   obtain⟨i2,v2,x2⟩:=wF I t2
   by_cases epq:p=q
   ·subst epq;have:D.tup l=D.tup m:=Rp.inj I hd he ⟨p,vs,rfl,t1,r1⟩ ⟨p,ws,rfl,t2,r2⟩;rw[this,Dc _ he];exact SeqAt.EqAt.same _
   refine SeqAt.EqAt.of_refs epq ?_;have l1:=v1.length;have l2:=v2.length;have l3:=r1.len;have l4:=r2.len
   have hz:∀ j (h1:j<i1.toArray.size) (h2:j<i2.toArray.size),SeqAt.EqAt A.in1 s i1.toArray[j] i2.toArray[j] ((fun j=>qL (l.getD j .non) (m.getD j .non)) j):=fun j h1 h2=>by
    have h1':j<i1.length:=by simpa using h1
    have h2':j<i2.length:=by simpa using h2
    obtain⟨a,ha,ra⟩:=valAt v1 h1';obtain⟨b,hb,rb⟩:=valAt v2 h2';obtain⟨da,ea,qa⟩:=r1.at ha;obtain⟨db,eb,qb⟩:=r2.at hb;have:=ih da db A.in1 a b _ _ (by have:=qt ea;rw[D.dep]at hn;omega) (jt hd ea) (jt he eb) qa qb ra rb (by show A.in1.units+n<cLine;simp;omega);show SeqAt.EqAt _ _ _ _ (qL (l.getD j .non) (m.getD j .non));rw[rN,rN,ea,eb]
    simpa using this
   rw[show qL (D.tup l) (D.tup m)=Jh l m from by rw[qL],<-uo];have:=SeqAt.RcAt.tuples (A:=A) (s:=s) x1 x2 (by omega) hz;rw[wk,wk,<-l1,<-l2,l3,l4]at this;exact this
  | lst m=>
   obtain⟨q,ws,z,t2,r2⟩:=hy;subst z
   cases rv
   obtain⟨i2,v2,x2⟩:=Cr I t2;exact SeqAt.EqAt.tuple_list x1 x2 (by omega)
  | d8 _=>cases he
  | obj _ _=>cases he
  | non=>cases (show _=_ from hy);cases rv;exact SeqAt.EqAt.tuple_none x1 (by omega)
  | bl b=>cases (show _=_ from hy);cases rv;exact SeqAt.EqAt.tuple_bool b x1 (by omega)
  | int b=>cases (show _=_ from hy);obtain⟨t,rfl⟩:=rv;exact SeqAt.EqAt.tuple_int b t x1 (by omega)
  | str b=>cases (show _=_ from hy);obtain⟨t,rfl⟩:=rv;exact SeqAt.EqAt.tuple_str b t x1 (by omega)
 | lst l=>
  obtain⟨p,vs,z,t1,r1⟩:=hx;subst z
  cases ru
  obtain⟨i1,v1,x1⟩:=Cr I t1
  cases e with
  | lst m=>
   obtain⟨q,ws,z,t2,r2⟩:=hy;subst z
   cases rv
   obtain⟨i2,v2,x2⟩:=Cr I t2
   by_cases epq:p=q
   ·subst epq;have:D.lst l=D.lst m:=Rp.inj I hd he ⟨p,vs,rfl,t1,r1⟩ ⟨p,ws,rfl,t2,r2⟩;rw[this,Dc _ he];exact SeqAt.EqAt.same _
   refine SeqAt.EqAt.of_refs epq ?_;have l1:=v1.length;have l2:=v2.length;have l3:=r1.len;have l4:=r2.len
   have hz:∀ j (h1:j<i1.toArray.size) (h2:j<i2.toArray.size),SeqAt.EqAt A.in1 s i1.toArray[j] i2.toArray[j] ((fun j=>qL (l.getD j .non) (m.getD j .non)) j):=fun j h1 h2=>by
    have h1':j<i1.length:=by simpa using h1
    have h2':j<i2.length:=by simpa using h2
    obtain⟨a,ha,ra⟩:=valAt v1 h1';obtain⟨b,hb,rb⟩:=valAt v2 h2';obtain⟨da,ea,qa⟩:=r1.at ha;obtain⟨db,eb,qb⟩:=r2.at hb;have:=ih da db A.in1 a b _ _ (by have:=qt ea;rw[D.dep]at hn;omega) (jt hd ea) (jt he eb) qa qb ra rb (by show A.in1.units+n<cLine;simp;omega);show SeqAt.EqAt _ _ _ _ (qL (l.getD j .non) (m.getD j .non));rw[rN,rN,ea,eb]
    simpa using this
   rw[show qL (D.lst l) (D.lst m)=Jh l m from by rw[qL],<-uo]
   by_cases hlen:l.length=m.length
   ·have:=SeqAt.RcAt.lists (A:=A) (s:=s) x1 x2 (by rw[wk,wk];omega) (by omega) hz;rw[wk,<-l1,l3]at this;rw[hlen,Nat.min_self,beq_self_eq_true,Bool.and_true];rw[hlen]at this;exact this
   ·have:=SeqAt.RcAt.lists_lengths (A:=A) (s:=s) x1 x2 (by rw[List.size_toArray,List.size_toArray];simp;omega) (by omega);rw[show (l.length==m.length)=false by simpa using hlen,Bool.and_false];exact this
  | tup m=>
   obtain⟨q,ws,z,t2,r2⟩:=hy;subst z
   cases rv
   obtain⟨i2,v2,x2⟩:=wF I t2;exact SeqAt.EqAt.list_tuple x1 x2 (by omega)
  | d8 _=>cases he
  | obj _ _=>cases he
  | non=>cases (show _=_ from hy);cases rv;exact SeqAt.EqAt.list_none x1 (by omega)
  | bl b=>cases (show _=_ from hy);cases rv;exact SeqAt.EqAt.list_bool b x1 (by omega)
  | int b=>cases (show _=_ from hy);obtain⟨t,rfl⟩:=rv;exact SeqAt.EqAt.list_int b t x1 (by omega)
  | str b=>cases (show _=_ from hy);obtain⟨t,rfl⟩:=rv;exact SeqAt.EqAt.list_str b t x1 (by omega)
 | _=>exact (h0 rfl).elim
end
section
variable{X:Cx}{pins:List (Addr×Obj)}{σ:St}{H:Hp}{s:Shared}
theorem rcD(I:Inv X pins σ H s){d e:D}{A:Around}{x y:V}{u v:Value}(hn:d.dep<=60)(hd:d.pl=true)(he:e.pl=true)(hx:Rp X.K H d x)(hy:Rp X.K H e y)(ru:RelV x u)(rv:RelV y v)(hu:A.units+64<cLine):SeqAt.RcAt A s u v (qL d e):=by
 have hu0:A.units<cLine:=by omega
 cases d with
 | non=>
  cases (show _=_ from hx)
  cases ru
  cases e with
  | non=>
   cases (show _=_ from hy)
   cases rv
   exact SeqAt.RcAt.none_none
  | bl b=>
   cases (show _=_ from hy)
   cases rv
   exact SeqAt.RcAt.none_bool b
  | int b=>
   cases (show _=_ from hy)
   obtain⟨t2,rfl⟩:=rv;exact SeqAt.RcAt.none_int b t2
  | str b=>
   cases (show _=_ from hy)
   obtain⟨t2,rfl⟩:=rv;exact SeqAt.RcAt.none_str b t2
  | tup m=>
   obtain⟨q,ws,z,t2,r2⟩:=hy;subst z
   cases rv
   obtain⟨i2,v2,x2⟩:=wF I t2;exact SeqAt.RcAt.none_tuple x2 hu0
  | lst m=>
   obtain⟨q,ws,z,t2,r2⟩:=hy;subst z
   cases rv
   obtain⟨i2,v2,x2⟩:=Cr I t2;exact SeqAt.RcAt.none_list x2 hu0
  | d8 _=>cases he
  | obj _ _=>cases he
 | bl a=>
  cases (show _=_ from hx)
  cases ru
  cases e with
  | non=>
   cases (show _=_ from hy)
   cases rv
   exact SeqAt.RcAt.bool_none a
  | bl b=>
   cases (show _=_ from hy)
   cases rv
   exact SeqAt.RcAt.bool_bool a b
  | int b=>
   cases (show _=_ from hy)
   obtain⟨t2,rfl⟩:=rv;exact SeqAt.RcAt.bool_int a b t2
  | str b=>
   cases (show _=_ from hy)
   obtain⟨t2,rfl⟩:=rv;exact SeqAt.RcAt.bool_str a b t2
  | tup m=>
   obtain⟨q,ws,z,t2,r2⟩:=hy;subst z
   cases rv
   obtain⟨i2,v2,x2⟩:=wF I t2;exact SeqAt.RcAt.bool_tuple a x2 hu0
  | lst m=>
   obtain⟨q,ws,z,t2,r2⟩:=hy;subst z
   cases rv
   obtain⟨i2,v2,x2⟩:=Cr I t2;exact SeqAt.RcAt.bool_list a x2 hu0
  | d8 _=>cases he
  | obj _ _=>cases he
 | int a=>
  cases (show _=_ from hx)
  obtain⟨t1,rfl⟩:=ru
  cases e with
  | non=>
   cases (show _=_ from hy)
   cases rv
   exact SeqAt.RcAt.int_none a t1
  | bl b=>
   cases (show _=_ from hy)
   cases rv
   exact SeqAt.RcAt.int_bool a t1 b
  | int b=>
   cases (show _=_ from hy)
   obtain⟨t2,rfl⟩:=rv;exact SeqAt.RcAt.int_int a t1 b t2
  | str b=>
   cases (show _=_ from hy)
   obtain⟨t2,rfl⟩:=rv;exact SeqAt.RcAt.int_str a t1 b t2
  | tup m=>
   obtain⟨q,ws,z,t2,r2⟩:=hy;subst z
   cases rv
   obtain⟨i2,v2,x2⟩:=wF I t2;exact SeqAt.RcAt.int_tuple a t1 x2 hu0
  | lst m=>
   obtain⟨q,ws,z,t2,r2⟩:=hy;subst z
   cases rv
   obtain⟨i2,v2,x2⟩:=Cr I t2;exact SeqAt.RcAt.int_list a t1 x2 hu0
  | d8 _=>cases he
  | obj _ _=>cases he
 | str a=>
  cases (show _=_ from hx)
  obtain⟨t1,rfl⟩:=ru
  cases e with
  | non=>
   cases (show _=_ from hy)
   cases rv
   exact SeqAt.RcAt.str_none a t1
  | bl b=>
   cases (show _=_ from hy)
   cases rv
   exact SeqAt.RcAt.str_bool a t1 b
  | int b=>
   cases (show _=_ from hy)
   obtain⟨t2,rfl⟩:=rv;exact SeqAt.RcAt.str_int a t1 b t2
  | str b=>
   cases (show _=_ from hy)
   obtain⟨t2,rfl⟩:=rv;exact SeqAt.RcAt.str_str a t1 b t2
  | tup m=>
   obtain⟨q,ws,z,t2,r2⟩:=hy;subst z
   cases rv
   obtain⟨i2,v2,x2⟩:=wF I t2;exact SeqAt.RcAt.str_tuple a t1 x2 hu0
  | lst m=>
   obtain⟨q,ws,z,t2,r2⟩:=hy;subst z
   cases rv
   obtain⟨i2,v2,x2⟩:=Cr I t2;exact SeqAt.RcAt.str_list a t1 x2 hu0
  | d8 _=>cases he
  | obj _ _=>cases he
 | tup l=>
  obtain⟨p,vs,z,t1,r1⟩:=hx;subst z
  cases ru
  obtain⟨i1,v1,x1⟩:=wF I t1
  cases e with
  | non=>
   cases (show _=_ from hy)
   cases rv
   exact SeqAt.RcAt.tuple_none x1 hu0
  | bl b=>
   cases (show _=_ from hy)
   cases rv
   exact SeqAt.RcAt.tuple_bool b x1 hu0
  | int b=>
   cases (show _=_ from hy)
   obtain⟨t2,rfl⟩:=rv;exact SeqAt.RcAt.tuple_int b t2 x1 hu0
  | str b=>
   cases (show _=_ from hy)
   obtain⟨t2,rfl⟩:=rv;exact SeqAt.RcAt.tuple_str b t2 x1 hu0
  | lst m=>
   obtain⟨q,ws,z,t2,r2⟩:=hy;subst z
   cases rv
   obtain⟨i2,v2,x2⟩:=Cr I t2;exact SeqAt.RcAt.tuple_list x1 x2 hu0
  | d8 _=>cases he
  | obj _ _=>cases he
  | tup m=>
   obtain⟨q,ws,z,t2,r2⟩:=hy;subst z
   cases rv
   obtain⟨i2,v2,x2⟩:=wF I t2;have l1:=v1.length;have l2:=v2.length;have l3:=r1.len;have l4:=r2.len
   have hz:∀ j (h1:j<i1.toArray.size) (h2:j<i2.toArray.size),SeqAt.EqAt A.in1 s i1.toArray[j] i2.toArray[j] ((fun j=>qL (l.getD j .non) (m.getD j .non)) j):=fun j h1 h2=>by
    have h1':j<i1.length:=by simpa using h1
    have h2':j<i2.length:=by simpa using h2
    obtain⟨a,ha,ra⟩:=valAt v1 h1';obtain⟨b,hb,rb⟩:=valAt v2 h2';obtain⟨da,ea,qa⟩:=r1.at ha;obtain⟨db,eb,qb⟩:=r2.at hb;have:=QZ I 60 da db A.in1 a b _ _ (by have:=qt ea;rw[D.dep]at hn;omega) (jt hd ea) (jt he eb) qa qb ra rb (by show A.in1.units+60<cLine;simp;omega);show SeqAt.EqAt _ _ _ _ (qL (l.getD j .non) (m.getD j .non));rw[rN,rN,ea,eb]
    simpa using this
   rw[show qL (D.tup l) (D.tup m)=Jh l m from by rw[qL],<-uo];have:=SeqAt.RcAt.tuples (A:=A) (s:=s) x1 x2 hu0 hz;rw[wk,wk,<-l1,<-l2,l3,l4]at this;exact this
 | lst l=>
  obtain⟨p,vs,z,t1,r1⟩:=hx;subst z
  cases ru
  obtain⟨i1,v1,x1⟩:=Cr I t1
  cases e with
  | non=>
   cases (show _=_ from hy)
   cases rv
   exact SeqAt.RcAt.list_none x1 hu0
  | bl b=>
   cases (show _=_ from hy)
   cases rv
   exact SeqAt.RcAt.list_bool b x1 hu0
  | int b=>
   cases (show _=_ from hy)
   obtain⟨t2,rfl⟩:=rv;exact SeqAt.RcAt.list_int b t2 x1 hu0
  | str b=>
   cases (show _=_ from hy)
   obtain⟨t2,rfl⟩:=rv;exact SeqAt.RcAt.list_str b t2 x1 hu0
  | tup m=>
   obtain⟨q,ws,z,t2,r2⟩:=hy;subst z
   cases rv
   obtain⟨i2,v2,x2⟩:=wF I t2;exact SeqAt.RcAt.list_tuple x1 x2 hu0
  | d8 _=>cases he
  | obj _ _=>cases he
  | lst m=>
   obtain⟨q,ws,z,t2,r2⟩:=hy;subst z
   cases rv
   obtain⟨i2,v2,x2⟩:=Cr I t2;have l1:=v1.length;have l2:=v2.length;have l3:=r1.len;have l4:=r2.len
   have hz:∀ j (h1:j<i1.toArray.size) (h2:j<i2.toArray.size),SeqAt.EqAt A.in1 s i1.toArray[j] i2.toArray[j] ((fun j=>qL (l.getD j .non) (m.getD j .non)) j):=fun j h1 h2=>by
    have h1':j<i1.length:=by simpa using h1
    have h2':j<i2.length:=by simpa using h2
    obtain⟨a,ha,ra⟩:=valAt v1 h1';obtain⟨b,hb,rb⟩:=valAt v2 h2';obtain⟨da,ea,qa⟩:=r1.at ha;obtain⟨db,eb,qb⟩:=r2.at hb;have:=QZ I 60 da db A.in1 a b _ _ (by have:=qt ea;rw[D.dep]at hn;omega) (jt hd ea) (jt he eb) qa qb ra rb (by show A.in1.units+60<cLine;simp;omega);show SeqAt.EqAt _ _ _ _ (qL (l.getD j .non) (m.getD j .non));rw[rN,rN,ea,eb]
    simpa using this
   rw[show qL (D.lst l) (D.lst m)=Jh l m from by rw[qL],<-uo]
   by_cases hlen:l.length=m.length
   ·have:=SeqAt.RcAt.lists (A:=A) (s:=s) x1 x2 (by rw[wk,wk];omega) hu0 hz;rw[wk,<-l1,l3]at this;rw[hlen,Nat.min_self,beq_self_eq_true,Bool.and_true];rw[hlen]at this;exact this
   ·have:=SeqAt.RcAt.lists_lengths (A:=A) (s:=s) x1 x2 (by rw[List.size_toArray,List.size_toArray];simp;omega) hu0;rw[show (l.length==m.length)=false by simpa using hlen,Bool.and_false];exact this
 | d8 _=>cases hd
 | obj _ _=>cases hd
theorem qCO(I:Inv X pins σ H s){d e:D}{A:Around}{x y:V}{u v:Value}(hn:d.dep<=60)(hd:d.pl=true)(he:e.pl=true)(hx:Rp X.K H d x)(hy:Rp X.K H e y)(ru:RelV x u)(rv:RelV y v)(hu:A.units+64<cLine):SeqAt.RcNeAt A s u v (!qL d e):=by
 have hu0:A.units<cLine:=by omega
 cases d with
 | non=>
  cases (show _=_ from hx)
  cases ru
  cases e with
  | non=>
   cases (show _=_ from hy)
   cases rv
   exact SeqAt.RcNeAt.none_none
  | bl b=>
   cases (show _=_ from hy)
   cases rv
   exact SeqAt.RcNeAt.none_bool b
  | int b=>
   cases (show _=_ from hy)
   obtain⟨t2,rfl⟩:=rv;exact SeqAt.RcNeAt.none_int b t2
  | str b=>
   cases (show _=_ from hy)
   obtain⟨t2,rfl⟩:=rv;exact SeqAt.RcNeAt.none_str b t2
  | tup m=>
   obtain⟨q,ws,z,t2,r2⟩:=hy;subst z
   cases rv
   obtain⟨i2,v2,x2⟩:=wF I t2;exact SeqAt.RcNeAt.none_tuple x2 hu0
  | lst m=>
   obtain⟨q,ws,z,t2,r2⟩:=hy;subst z
   cases rv
   obtain⟨i2,v2,x2⟩:=Cr I t2;exact SeqAt.RcNeAt.none_list x2 hu0
  | d8 _=>cases he
  | obj _ _=>cases he
 | bl a=>
  cases (show _=_ from hx)
  cases ru
  cases e with
  | non=>
   cases (show _=_ from hy)
   cases rv
   exact SeqAt.RcNeAt.bool_none a
  | bl b=>
   cases (show _=_ from hy)
   cases rv
   exact SeqAt.RcNeAt.bool_bool a b
  | int b=>
   cases (show _=_ from hy)
   obtain⟨t2,rfl⟩:=rv;exact SeqAt.RcNeAt.bool_int a b t2
  | str b=>
   cases (show _=_ from hy)
   obtain⟨t2,rfl⟩:=rv;exact SeqAt.RcNeAt.bool_str a b t2
  | tup m=>
   obtain⟨q,ws,z,t2,r2⟩:=hy;subst z
   cases rv
   obtain⟨i2,v2,x2⟩:=wF I t2;exact SeqAt.RcNeAt.bool_tuple a x2 hu0
  | lst m=>
   obtain⟨q,ws,z,t2,r2⟩:=hy;subst z
   cases rv
   obtain⟨i2,v2,x2⟩:=Cr I t2;exact SeqAt.RcNeAt.bool_list a x2 hu0
  | d8 _=>cases he
  | obj _ _=>cases he
 | int a=>
  cases (show _=_ from hx)
  obtain⟨t1,rfl⟩:=ru
  cases e with
  | non=>
   cases (show _=_ from hy)
   cases rv
   exact SeqAt.RcNeAt.int_none a t1
  | bl b=>
   cases (show _=_ from hy)
   cases rv
   exact SeqAt.RcNeAt.int_bool a t1 b
  | int b=>
   cases (show _=_ from hy)
   obtain⟨t2,rfl⟩:=rv;exact SeqAt.RcNeAt.int_int a t1 b t2
  | str b=>
   cases (show _=_ from hy)
   obtain⟨t2,rfl⟩:=rv;exact SeqAt.RcNeAt.int_str a t1 b t2
  | tup m=>
   obtain⟨q,ws,z,t2,r2⟩:=hy;subst z
   cases rv
   obtain⟨i2,v2,x2⟩:=wF I t2;exact SeqAt.RcNeAt.int_tuple a t1 x2 hu0
  | lst m=>
   obtain⟨q,ws,z,t2,r2⟩:=hy;subst z
   cases rv
   obtain⟨i2,v2,x2⟩:=Cr I t2;exact SeqAt.RcNeAt.int_list a t1 x2 hu0
  | d8 _=>cases he
  | obj _ _=>cases he
 | str a=>
  cases (show _=_ from hx)
  obtain⟨t1,rfl⟩:=ru
  cases e with
  | non=>
   cases (show _=_ from hy)
   cases rv
   exact SeqAt.RcNeAt.str_none a t1
  | bl b=>
   cases (show _=_ from hy)
   cases rv
   exact SeqAt.RcNeAt.str_bool a t1 b
  | int b=>
   cases (show _=_ from hy)
   obtain⟨t2,rfl⟩:=rv;exact SeqAt.RcNeAt.str_int a t1 b t2
  | str b=>
   cases (show _=_ from hy)
   obtain⟨t2,rfl⟩:=rv;exact SeqAt.RcNeAt.str_str a t1 b t2
  | tup m=>
   obtain⟨q,ws,z,t2,r2⟩:=hy;subst z
   cases rv
   obtain⟨i2,v2,x2⟩:=wF I t2;exact SeqAt.RcNeAt.str_tuple a t1 x2 hu0
  | lst m=>
   obtain⟨q,ws,z,t2,r2⟩:=hy;subst z
   cases rv
   obtain⟨i2,v2,x2⟩:=Cr I t2;exact SeqAt.RcNeAt.str_list a t1 x2 hu0
  | d8 _=>cases he
  | obj _ _=>cases he
 | tup l=>
  obtain⟨p,vs,z,t1,r1⟩:=hx;subst z
  cases ru
  obtain⟨i1,v1,x1⟩:=wF I t1
  cases e with
  | non=>
   cases (show _=_ from hy)
   cases rv
   exact SeqAt.RcNeAt.tuple_none x1 hu0
  | bl b=>
   cases (show _=_ from hy)
   cases rv
   exact SeqAt.RcNeAt.tuple_bool b x1 hu0
  | int b=>
   cases (show _=_ from hy)
   obtain⟨t2,rfl⟩:=rv;exact SeqAt.RcNeAt.tuple_int b t2 x1 hu0
  | str b=>
   cases (show _=_ from hy)
   obtain⟨t2,rfl⟩:=rv;exact SeqAt.RcNeAt.tuple_str b t2 x1 hu0
  | lst m=>
   obtain⟨q,ws,z,t2,r2⟩:=hy;subst z
   cases rv
   obtain⟨i2,v2,x2⟩:=Cr I t2;exact SeqAt.RcNeAt.tuple_list x1 x2 hu0
  | d8 _=>cases he
  | obj _ _=>cases he
  | tup m=>
   obtain⟨q,ws,z,t2,r2⟩:=hy;subst z
   cases rv
   obtain⟨i2,v2,x2⟩:=wF I t2;have l1:=v1.length;have l2:=v2.length;have l3:=r1.len;have l4:=r2.len
   have hz:∀ j (h1:j<i1.toArray.size) (h2:j<i2.toArray.size),SeqAt.EqAt A.in1 s i1.toArray[j] i2.toArray[j] ((fun j=>qL (l.getD j .non) (m.getD j .non)) j):=fun j h1 h2=>by
    have h1':j<i1.length:=by simpa using h1
    have h2':j<i2.length:=by simpa using h2
    obtain⟨a,ha,ra⟩:=valAt v1 h1';obtain⟨b,hb,rb⟩:=valAt v2 h2';obtain⟨da,ea,qa⟩:=r1.at ha;obtain⟨db,eb,qb⟩:=r2.at hb;have:=QZ I 60 da db A.in1 a b _ _ (by have:=qt ea;rw[D.dep]at hn;omega) (jt hd ea) (jt he eb) qa qb ra rb (by show A.in1.units+60<cLine;simp;omega);show SeqAt.EqAt _ _ _ _ (qL (l.getD j .non) (m.getD j .non));rw[rN,rN,ea,eb]
    simpa using this
   rw[show qL (D.tup l) (D.tup m)=Jh l m from by rw[qL],<-uo];have:=SeqAt.RcNeAt.tuples (A:=A) (s:=s) x1 x2 hu0 hz;rw[wk,wk,<-l1,<-l2,l3,l4]at this;exact this
 | lst l=>
  obtain⟨p,vs,z,t1,r1⟩:=hx;subst z
  cases ru
  obtain⟨i1,v1,x1⟩:=Cr I t1
  cases e with
  | non=>
   cases (show _=_ from hy)
   cases rv
   exact SeqAt.RcNeAt.list_none x1 hu0
  | bl b=>
   cases (show _=_ from hy)
   cases rv
   exact SeqAt.RcNeAt.list_bool b x1 hu0
  | int b=>
   cases (show _=_ from hy)
   obtain⟨t2,rfl⟩:=rv;exact SeqAt.RcNeAt.list_int b t2 x1 hu0
  | str b=>
   cases (show _=_ from hy)
   obtain⟨t2,rfl⟩:=rv;exact SeqAt.RcNeAt.list_str b t2 x1 hu0
  | tup m=>
   obtain⟨q,ws,z,t2,r2⟩:=hy;subst z
   cases rv
   obtain⟨i2,v2,x2⟩:=wF I t2;exact SeqAt.RcNeAt.list_tuple x1 x2 hu0
  | d8 _=>cases he
  | obj _ _=>cases he
  | lst m=>
   obtain⟨q,ws,z,t2,r2⟩:=hy;subst z
   cases rv
   obtain⟨i2,v2,x2⟩:=Cr I t2;have l1:=v1.length;have l2:=v2.length;have l3:=r1.len;have l4:=r2.len
   have hz:∀ j (h1:j<i1.toArray.size) (h2:j<i2.toArray.size),SeqAt.EqAt A.in1 s i1.toArray[j] i2.toArray[j] ((fun j=>qL (l.getD j .non) (m.getD j .non)) j):=fun j h1 h2=>by
    have h1':j<i1.length:=by simpa using h1
    have h2':j<i2.length:=by simpa using h2
    obtain⟨a,ha,ra⟩:=valAt v1 h1';obtain⟨b,hb,rb⟩:=valAt v2 h2';obtain⟨da,ea,qa⟩:=r1.at ha;obtain⟨db,eb,qb⟩:=r2.at hb;have:=QZ I 60 da db A.in1 a b _ _ (by have:=qt ea;rw[D.dep]at hn;omega) (jt hd ea) (jt he eb) qa qb ra rb (by show A.in1.units+60<cLine;simp;omega);show SeqAt.EqAt _ _ _ _ (qL (l.getD j .non) (m.getD j .non));rw[rN,rN,ea,eb]
    simpa using this
   rw[show qL (D.lst l) (D.lst m)=Jh l m from by rw[qL],<-uo]
   by_cases hlen:l.length=m.length
   ·have:=SeqAt.RcNeAt.lists (A:=A) (s:=s) x1 x2 (by rw[wk,wk];omega) hu0 hz;rw[wk,<-l1,l3]at this;rw[hlen,Nat.min_self,beq_self_eq_true,Bool.and_true];rw[hlen]at this;exact this
   ·have:=SeqAt.RcNeAt.lists_lengths (A:=A) (s:=s) x1 x2 (by rw[List.size_toArray,List.size_toArray];simp;omega) hu0;rw[show (l.length==m.length)=false by simpa using hlen,Bool.and_false];exact this
 | d8 _=>cases hd
 | obj _ _=>cases hd
end
noncomputable def il(K:cZ)(ng:Bool):R2:=fun x y H Q => ∃ d e:D,Rp K H d x/\Rp K H e y/\d.dep<=60/\d.pl=true/\e.pl=true/\Q (.bl (qL d e != ng)) H
section
variable{X:Cx}
theorem ju(hu:X.A.units+64<cLine):ni X (compareOp .Eq) (il X.K false):=by
 intro pins s σ H x y v u Q I rx ry h;obtain⟨d,e,hx,hy,hn,hd,he,q⟩:=h;exact rcD I hn hd he hx hy rx ry hu X.prog X.w X.xe _ ⟨.bl _,H,I,rfl,by simpa using q⟩
theorem iY(hu:X.A.units+64<cLine):ni X (compareOp .NotEq) (il X.K true):=by
 intro pins s σ H x y v u Q I rx ry h;obtain⟨d,e,hx,hy,hn,hd,he,q⟩:=h;exact qCO I hn hd he hx hy rx ry hu X.prog X.w X.xe _ ⟨.bl _,H,I,rfl,by simpa using q⟩
end
end DL
namespace PySem
open Sem (wp)
namespace Rv
section
variable{prog:Program}{w:World}{A:Around}{E:Value->Shared->Prop}{s:Shared}{I:Addr}{fp wr:List Addr}{G:Array GenState->Array GenState->Prop}{n:Nat}{P:Nat->Value->Prop}{St:Nat->Shared->Prop}
end
end Rv
end PySem
namespace L2
open PySem PySem.Spec PyProof.Rows
section
variable{X:Cx}
theorem Ut:ni X (binaryOp .Add) (fun x y H Q => ∃(a b:Addr)(ys:List V),x = .ref a/\y = .ref b/\rM X.K H a []/\rM X.K H b ys/\Q (.ref b) H):=by
 intro pins s σ H x y v u Q I rx ry h;obtain⟨a,b,ys,rfl,rfl,ha,hb,q⟩:=h
 cases rx
 cases ry
 obtain⟨its,r1,p1,_⟩:=I.tuple ha;obtain⟨its2,r2,p2,_⟩:=I.tuple hb;have e0:its=[]:=r1.BP.mpr rfl;subst e0;obtain⟨⟨cls,dd,data,sl⟩,ho,hc,n,hd⟩:=id p1;obtain⟨⟨cls2,dd2,data2,sl2⟩,ho2,hc2,n2,hd2⟩:=id p2;simp only at hc hd hc2 hd2;subst hc hd hc2 hd2;exact concat_meets ⟨_,ho,rfl⟩ ⟨_,ho2,rfl⟩ noFill_tuple_add seq_tuple_add PySem.F.slot_tuple_add PySem.F.entry_tuple_add (PySem.F.args_tuple_add_2 _ _) (tuple_addW0 a b _ _ n n2 dd dd2 sl sl2 (by simp)) ⟨ho,ho2,⟨.ref b,H,I,rfl,q⟩⟩
end
end L2
namespace DL
open PySem L2
noncomputable def bM:D->D->Rz W
 | .int i,.int j=>.ok (.fr (.int (i+j)))
 | .str a,.str b=>if a.length+b.length<=sizeLine then .ok (.fr (.str (a++b))) else .st
 | .lst l,.lst m=>if l.length+m.length<=sizeLine then .ok (.ow (l++m)) else .st
 | .tup l,.tup m=>if l.length+m.length<=sizeLine then .ok (.fr (.tup (l++m))) else .st
 | _,_=>.st
noncomputable def Jw(K:cZ):R2:=fun x y H Q=>(Ug (fun i j=>.int (i+j))) x y H Q∨(∃ i j,x = .str i/\y = .str j/\i.length+j.length<=sizeLine/\Q (.str (i++j)) H)∨qCU x y H Q∨ZS K x y H Q ∨
 (∃(a b:Addr)(ys:List V),x = .ref a/\y = .ref b/\rM K H a []/\rM K H b ys/\Q (.ref b) H)
theorem QB{X:Cx}:ni X (binaryOp .Add) (Jw X.K):=ni.or yD (ni.or NQ (ni.or qAX (ni.or Xf Ut)))
noncomputable def bh(ng:Bool)(d e:D):Rz W:=if d.dep<=60/\d.pl=true/\e.pl=true then .ok (.fr (.bl (qL d e != ng))) else .st
noncomputable def D.flat:D->Bool
 | .non=>true
 | .bl _=>true
 | .int _=>true
 | .str _=>true
 | _=>false
noncomputable def Wo(ng:Bool)(d:D)(l:List D):Rz W:=if d.flat=true/\l.all D.flat=true then .ok (.fr (.bl ((l.any fun e=>qL e d) != ng))) else .st
noncomputable def inD(ng:Bool):D->D->Rz W
 | d,.lst l=>Wo ng d l
 | d,.tup l=>Wo ng d l
 | .str i,.str j=>.ok (.fr (.bl ((!(Builtin.Str.occurrences j i 0 j.length 1).isEmpty) != ng)))
 | _,_=>.st
noncomputable def Rf(o:Option D):Rz W:=match o with
 | some d=>.ok (.fr d)
 | none=>.st
noncomputable def aj:D->D->Rz W
 | .lst l,.int i=>Rf (yj l i)
 | .tup l,.int i=>Rf (yj l i)
 | .d8 l,.int i=>Rf ((yj l i).map D.int)
 | .str z,.int i=>if z.length<=sizeLine then Rf ((yj z.cps.toList i).map fun c=>D.str ⟨#[c]⟩) else .st
 | _,_=>.st
noncomputable def qAO(K:cZ):R2:=fun x y H Q=>qCT K x y H Q∨qCR K x y H Q∨qCS x y H Q
theorem Wc.or{X:Cx}{r r':R2}(h:Wc X r)(h':Wc X r'):Wc X (fun x y H Q=>r x y H Q∨r' x y H Q):=by
 intro value slice pins s σ H x y v u Q I rx ry q hs;rcases q with q | q
 ·exact h value slice pins s σ H x y v u Q I rx ry q hs
 ·exact h' value slice pins s σ H x y v u Q I rx ry q hs
theorem qFU{X:Cx}:Wc X (qAO X.K):=Wc.or yN (Wc.or zG qBJ)
noncomputable def rO(K:cZ)(ng:Bool):R2:=fun x y H Q=>rIn K ng x y H Q ∨ ∃ i j,x = .str i/\y = .str j/\Q (.bl ((!(Builtin.Str.occurrences j i 0 j.length 1).isEmpty) != ng)) H
theorem lO{X:Cx}:ni X (compareOp .In) (rO X.K false):=by
 refine ni.or RB ?_;intro pins s σ H x y v u Q I rx ry ⟨i,j,e1,e2,q⟩;exact R9 pins s σ H x y v u Q I rx ry ⟨i,j,e1,e2,by simpa using q⟩
theorem xU{X:Cx}:ni X (compareOp .NotIn) (rO X.K true):=by
 refine ni.or Hh ?_;intro pins s σ H x y v u Q I rx ry ⟨i,j,e1,e2,q⟩;exact Hg pins s σ H x y v u Q I rx ry ⟨i,j,e1,e2,by simpa using q⟩
noncomputable def Ze(ng:Bool):D->D->Rz W
 | .non,.non=>.ok (.fr (.bl (!ng)))
 | _,.non=>.ok (.fr (.bl ng))
 | _,_=>.st
theorem QT{K:cZ}{B:Hp}:∀ {d e:D} {x y:V},d.flat=true->e.flat=true->Rp K B d x->Rp K B e y->sZ x=true/\sZ y=true/\Yc x y=qL d e:=by
 intro d e x y hd he hx hy
 cases d with
 | tup _=>cases hd
 | lst _=>cases hd
 | d8 _=>cases hd
 | obj _ _=>cases hd
 | _=>
  cases (show _=_ from hx)
  cases e with
  | tup _=>cases he
  | lst _=>cases he
  | d8 _=>cases he
  | obj _ _=>cases he
  | _=>cases (show _=_ from hy);exact⟨rfl,rfl,rfl⟩
theorem WW{K:cZ}{B:Hp}{l:List D}{vs:List V}(r:fL K B l vs){i:Int}{d:D}(h:yj l i=some d):∃ v,yj vs i=some v/\Rp K B d v:=by
 unfold yj at h ⊢;rw[r.len]
 cases e:Wn l.length i with
 | none=>rw[e]at h;cases h
 | some j=>rw[e]at h;exact r.get h
theorem any_eq{K:cZ}{B:Hp}{d:D}{x:V}(hd:d.flat=true)(hx:Rp K B d x):∀ {l:List D} {vs:List V},fL K B l vs->l.all D.flat=true->vs.all sZ=true/\inV x vs=l.any fun e=>qL e d
 | [],_,h,_=>by cases h;exact⟨rfl,rfl⟩
 | a::l,_,⟨v,ws,e,q,r⟩,h=>by
  rw[List.all_cons,Bool.and_eq_true]at h;obtain⟨h1,h2⟩:=any_eq hd hx r h.2;obtain⟨f1,_,f3⟩:=QT h.1 hd q hx;subst e;refine⟨by rw[List.all_cons,f1,h1];rfl,?_⟩;unfold inV at h2 ⊢;rw[List.any_cons,List.any_cons,f3,h2]
section
variable{G:Gm}{ta tb:TE}{fa fb:FE}
theorem Rq.rp{K:cZ}{B H:Hp}(s:bB B H):∀ {d:D} {v:V},(∀ C fs,d≠.obj C fs)->Rq K B H d v->Rp K H d v
 | .lst _,_,_,⟨p,vs,e,q,r⟩=>⟨p,vs,e,q,r.mono s⟩
 | .non,_,_,h=>h
 | .bl _,_,_,h=>h
 | .int _,_,_,h=>h
 | .str _,_,_,h=>h
 | .tup _,_,_,h=>Rp.mono (d:=.tup _) s h
 | .d8 _,_,_,h=>Rp.mono (d:=.d8 _) s h
 | .obj _ _,_,n,_=>(n _ _ rfl).elim
theorem ZV{d:D}(h:d.pl=true):∀ C fs,d≠.obj C fs:=fun C fs e=>by rw[e]at h;cases h
theorem YM{d:D}(h:d.flat=true):∀ C fs,d≠.obj C fs:=fun C fs e=>by rw[e]at h;cases h
theorem bz:OD G (Jw G.K) bM:=by
 intro B H ρ σ x y dx dy Q o hx hy h;unfold bM at h
 split at h
 ·rename_i i j
  exact .inl ⟨i,j,hx,hy,dH.now o h (by exact rfl)⟩
 ·rename_i a b
  split at h
  ·rename_i e
   exact .inr (.inl ⟨a,b,hx,hy,e,dH.now o h (by exact rfl)⟩)
  ·exact h.elim
 ·rename_i l m
  split at h
  ·rename_i e
   obtain⟨p,vs,rfl,h1,r1⟩:=hx;obtain⟨q,ws,rfl,h2,r2⟩:=hy;exact .inr (.inr (.inl ⟨p,q,vs,ws,rfl,rfl,h1,h2,by rw[r1.len,r2.len];exact e,fun a ha=>dH.own o h (r1.app r2) ha⟩))
  ·exact h.elim
 ·rename_i l m
  split at h
  ·rename_i e
   obtain⟨p,vs,rfl,h1,r1⟩:=hx;obtain⟨q,ws,rfl,h2,r2⟩:=hy;have s1:=pP o.sb h1;have s2:=pP o.sb h2
   by_cases hv:vs=[]
   ·subst hv
    have:l=[]:=by have:=r1.len;cases l with | nil=>rfl | cons a b=>cases this
    subst this;exact .inr (.inr (.inr (.inr ⟨p,q,ws,rfl,rfl,s1,s2,dH.now o h ⟨q,ws,rfl,h2,r2⟩⟩)))
   ·refine .inr (.inr (.inr (.inl ⟨p,q,vs,ws,rfl,rfl,s1,s2,hv,by rw[r1.len,r2.len];exact e,fun hw=>?_,fun _ a ha=>dH.tup o h (r1.app r2) ha⟩)));subst hw
    have:m=[]:=by have:=r2.len;cases m with | nil=>rfl | cons a b=>cases this
    subst this;rw[xF]at h;exact dH.now o h ⟨p,vs,rfl,h1,r1⟩
  ·exact h.elim
 ·exact h.elim
theorem bG{ng:Bool}:OD G (il G.K ng) (bh ng):=by
 intro B H ρ σ x y dx dy Q o hx hy h;unfold bh at h
 split at h
 ·rename_i e
  exact⟨dx,dy,hx.rp o.sb (ZV e.2.1),hy.rp o.sb (ZV e.2.2),e.1,e.2.1,e.2.2,dH.now o h (by exact rfl)⟩
 ·exact h.elim
theorem n6{ng:Bool}:OD G (rO G.K ng) (inD ng):=by
 intro B H ρ σ x y dx dy Q o hx hy h
 have key:∀(l:List D)(vs:List V)(q:Addr),dH G B H ρ σ Q (Wo ng dx l)->fL G.K B l vs->(jk G.K H q vs∨rM G.K H q vs)->rIn G.K ng x (.ref q) H Q:=fun l vs q h r hs=>by
  unfold Wo at h
  split at h
  ·rename_i e
   have fx:Rp G.K H dx x:=hx.rp o.sb (YM e.1);obtain⟨f1,f2⟩:=any_eq e.1 fx (r.mono o.sb) e.2;obtain⟨f3,_,_⟩:=QT e.1 e.1 fx fx;refine⟨q,vs,rfl,hs,f3,f1,?_⟩;rw[f2];refine dH.now o h ?_
   cases ng <;> simp [Rp]
  ·exact h.elim
 unfold inD at h
 split at h
 ·obtain⟨q,vs,rfl,e,r⟩:=hy;exact .inl (key _ vs q h r (.inl (jk.of e)))
 ·obtain⟨q,vs,rfl,e,r⟩:=hy;exact .inl (key _ vs q h r (.inr (pP o.sb e)))
 ·exact .inr ⟨_,_,hx,hy,dH.now o h (by exact rfl)⟩
 ·exact h.elim
theorem qB2{ng:Bool}{r:R2}(hr:∀ x H Q,Q (.bl (decide (x=V.non) != ng)) H->r x .non H Q):OD G r (Ze ng):=by
 intro B H ρ σ x y dx dy Q o hx hy h
 have key:∀ d:D,d≠.non->Rq G.K B H d x->x≠.non:=fun d hd hq z=>by
  subst z
  cases d with
  | non=>exact hd rfl
  | tup _=>obtain⟨_,_,z,_⟩:=hq;cases z
  | lst _=>obtain⟨_,_,z,_⟩:=hq;cases z
  | d8 _=>obtain⟨_,z,_⟩:=hq;cases z
  | obj _ _=>obtain⟨_,z⟩:=hq;cases z
  | _=>cases (show _=_ from hq)
 unfold Ze at h
 split at h
 ·cases (show _=_ from hx)
  cases (show _=_ from hy)
  refine hr _ _ _ (dH.now o h ?_)
  cases ng <;> rfl
 ·rename_i hne
  cases (show _=_ from hy)
  refine hr _ _ _ (dH.now o h ?_);have hx':=key dx (fun z=>hne z) hx;rw[decide_eq_false hx']
  cases ng <;> rfl
 ·exact h.elim
theorem aU:OD G (qAO G.K) aj:=by
 intro B H ρ σ x y dx dy Q o hx hy h
 have key:∀ {o':Option D},dH G B H ρ σ Q (Rf o')->∃ d,o'=some d/\dH G B H ρ σ Q (.ok (.fr d)):=fun {o'} h=>by
  cases o' with
  | none=>exact h.elim
  | some d=>exact⟨d,rfl,h⟩
 unfold aj at h
 split at h
 ·rename_i l i
  obtain⟨d,e,h⟩:=key h;obtain⟨p,vs,rfl,h1,r1⟩:=hx;obtain⟨v,e1,q⟩:=WW r1 e;exact .inl ⟨p,vs,i,v,rfl,hy,jk.of h1,e1,dH.now o h q⟩
 ·rename_i l i
  obtain⟨d,e,h⟩:=key h;obtain⟨p,vs,rfl,h1,r1⟩:=hx;obtain⟨v,e1,q⟩:=WW r1 e;exact .inr (.inl ⟨p,vs,i,v,rfl,hy,pP o.sb h1,e1,dH.now o h q⟩)
 ·rename_i l i
  obtain⟨d,e,h⟩:=key h;obtain⟨p,rfl,h1⟩:=hx
  cases e2:yj l i with
  | none=>rw[e2]at e;cases e
  | some k=>
   rw[e2]at e
   cases e
   refine .inl ⟨p,_,i,.int k,rfl,hy,o.sb.seq h1,?_,dH.now o h (by exact rfl)⟩;unfold yj at e2 ⊢;rw[jH]
   cases e3:Wn l.length i with
   | none=>rw[e3]at e2;cases e2
   | some j=>
    rw[e3]at e2;have e2':l[j]? = some k:=e2;show (l.map V.int)[j]? = _;rw[uB,e2'];rfl
 ·rename_i z i
  split at h
  ·rename_i e0
   obtain⟨d,e,h⟩:=key h
   cases e2:yj z.cps.toList i with
   | none=>rw[e2]at e;cases e
   | some k=>
    rw[e2]at e
    cases e
    exact .inr (.inr ⟨z,i,k,hx,hy,e0,e2,dH.now o h (by exact rfl)⟩)
  ·exact h.elim
 ·exact h.elim
end
noncomputable def D.b?:D->Rz Bool
 | .bl b=>.ok b
 | _=>.st
noncomputable def aN(f:FE):FT:=fun ρ=>(f ρ).bind fun w=>w.d.b?
noncomputable def mO(a b:FT):FT:=fun ρ=>(a ρ).bind fun c=>if c=true then b ρ else .ok false
noncomputable def lq(a b:FT):FT:=fun ρ=>(a ρ).bind fun c=>if c=true then .ok true else b ρ
noncomputable def qe(a:FT):FT:=fun ρ=>(a ρ).bind fun c=>.ok (!c)
noncomputable def dO(a b:FE):FE:=fun ρ=>(a ρ).bind fun w=>w.d.b?.bind fun c=>if c=true then b ρ else .ok (.fr (.bl false))
noncomputable def wM(a b:FE):FE:=fun ρ=>(a ρ).bind fun w=>w.d.b?.bind fun c=>if c=true then .ok (.fr (.bl true)) else b ρ
noncomputable def eV(a:FE):FE:=fun ρ=>(a ρ).bind fun w=>w.d.b?.bind fun c=>.ok (.fr (.bl (!c)))
noncomputable def fIf(c:FT)(a b:FE):FE:=fun ρ=>(c ρ).bind fun k=>if k=true then a ρ else b ρ
noncomputable def aJ:FA:=fun _=>.ok []
noncomputable def aA(a:FE)(r:FA):FA:=fun ρ=>(a ρ).bind fun w=>(r ρ).bind fun ws=>.ok (w.a::ws)
noncomputable def zL:List W->Rz (List D)
 | []=>.ok []
 | .fr d::ws=>(zL ws).bind fun l=>.ok (d::l)
 | _::_=>.st
noncomputable def cV(a:FA):FE:=fun ρ=>(a ρ).bind fun ws=>(zL ws).bind fun l=>if l.length<=sizeLine then .ok (.fr (.tup l)) else .st
noncomputable def fH(a:FA):FE:=fun ρ=>(a ρ).bind fun ws=>(zL ws).bind fun l=>if l.length<=sizeLine then .ok (.ow l) else .st
mutual
noncomputable def D.nl:D->Bool
 | .tup l=>Wm l
 | .lst _=>false
 | .d8 _=>false
 | .obj _ _=>false
 | _=>true
noncomputable def Wm:List D->Bool
 | []=>true
 | d::l=>d.nl&&Wm l
end
noncomputable def W.rst:W->Bool
 | .fr _=>true
 | _=>false
noncomputable def aO(F:List D->Rz D)(n:Nat)(a:FA):FE:=fun ρ=>(a ρ).bind fun ws=>if ws.length=n then (F (ws.map W.d)).bind fun d=>if ws.all W.rst=true∨d.nl=true then .ok (.fr d) else .st else .st
noncomputable def c7(F:List D->Rz D):List D->Rz D:=fun ds=>match F ds with
 | .ex=>.st
 | r=>r
noncomputable def dB(K:cZ)(C:Addr)(F:List D->Rz D)(n:Nat):Sp:=fun vs H Q E=>vs.length=n/\∃ B ds,bB B H/\fL K B ds vs/\match F ds with
 | .ok d => ∀ v B' H',bB H H'->bB B B'->bB B' H'->(∀ a o,B' a=some o->B a=some o∨H a=none)->Rp K B' d v->Q v H'
 | .ex => ∀ H',bB H H'->E (.ref C) none H'
 | .st=>False
section
variable{G:Gm}{ta tb:TE}{fa fb:FE}{tc td:TT}{fc fd:FT}{tr:TA}{fr:FA}
theorem WQ{K:cZ}{B H:Hp}{w:W}{v:V}{α:Type}{P:Rz α->Prop}{k:Bool->Rz α}(h:P (w.d.b?.bind k))(hs:P .st->False)(q:Rq K B H w.d v):∃ c,v = .bl c/\P (k c):=by
 cases e:w.d with
 | bl c=>
  rw[e]at h q;exact⟨c,q,h⟩
 | _=>rw[e]at h;exact (hs h).elim
theorem aY(ha:DE G ta fa):DT G (Tq ta) (aN fa):=by
 intro B H ρ σ Q o h;refine ha.then o (P:=Z4 G B H ρ σ Q) h (fun z=>z) (fun z=>z) fun w z v B1 H1 o1 x1 q1=>?_
 have z':Z4 G B H ρ σ Q (w.d.b?.bind fun c=>.ok c):=by
  cases e:w.d with
  | _=>rw[e]at z;exact z
 obtain⟨c,e,z2⟩:=WQ z' (fun y=>y) (q1.rq o1.sb);exact⟨c,e,z2 B1 H1 o1 x1⟩
theorem qi(ha:DE G ta fa):DT G (tB ta) (aN fa):=aY ha
theorem qj(ha:DT G tc fc)(hb:DT G td fd):DT G (qCJ tc td) (mO fc fd):=by
 intro B H ρ σ Q o h;refine ha.then o (P:=Z4 G B H ρ σ Q) h (fun z=>z) (fun z=>z) fun c z B1 H1 o1 x1=>?_
 cases c with
 | true=>
  rw[if_pos rfl]at z ⊢;exact hb B1 H1 ρ σ Q o1 (z.on x1)
 | false=>
  rw[if_neg pK]at z ⊢;exact z B1 H1 o1 x1
theorem nT(ha:DT G tc fc)(hb:DT G td fd):DT G (tOr tc td) (lq fc fd):=by
 intro B H ρ σ Q o h;refine ha.then o (P:=Z4 G B H ρ σ Q) h (fun z=>z) (fun z=>z) fun c z B1 H1 o1 x1=>?_
 cases c with
 | true=>
  rw[if_pos rfl]at z ⊢;exact z B1 H1 o1 x1
 | false=>
  rw[if_neg pK]at z ⊢;exact hb B1 H1 ρ σ Q o1 (z.on x1)
theorem nU(ha:DT G tc fc):DT G (qCG tc) (qe fc):=by
 intro B H ρ σ Q o h;exact ha.then o (P:=Z4 G B H ρ σ Q) h (fun z=>z) (fun z=>z) fun c z B1 H1 o1 x1=>z B1 H1 o1 x1
theorem jh(ha:DE G ta fa)(hb:DE G tb fb):DE G (ZM ta tb) (dO fa fb):=by
 intro B H ρ σ Q o h;refine ha.then o (P:=dH G B H ρ σ Q) h (fun z=>z) (fun z=>z) fun w z v B1 H1 o1 x1 q1=>?_;obtain⟨c,e,z2⟩:=WQ z (fun y=>y) (q1.rq o1.sb);refine⟨c,e,?_⟩
 cases c with
 | true=>
  rw[if_pos rfl]at z2 ⊢;exact hb B1 H1 ρ σ Q o1 (z2.on x1)
 | false=>
  rw[if_neg pK]at z2 ⊢;exact dH.now o1 (z2.on x1) (by exact rfl)
theorem Dj(ha:DE G ta fa)(hb:DE G tb fb):DE G (qCF ta tb) (wM fa fb):=by
 intro B H ρ σ Q o h;refine ha.then o (P:=dH G B H ρ σ Q) h (fun z=>z) (fun z=>z) fun w z v B1 H1 o1 x1 q1=>?_;obtain⟨c,e,z2⟩:=WQ z (fun y=>y) (q1.rq o1.sb);refine⟨c,e,?_⟩
 cases c with
 | true=>
  rw[if_pos rfl]at z2 ⊢;exact dH.now o1 (z2.on x1) (by exact rfl)
 | false=>
  rw[if_neg pK]at z2 ⊢;exact hb B1 H1 ρ σ Q o1 (z2.on x1)
theorem ig(ha:DE G ta fa):DE G (ZF ta) (eV fa):=by
 intro B H ρ σ Q o h;refine ha.then o (P:=dH G B H ρ σ Q) h (fun z=>z) (fun z=>z) fun w z v B1 H1 o1 x1 q1=>?_;obtain⟨c,e,z2⟩:=WQ z (fun y=>y) (q1.rq o1.sb);exact⟨c,e,dH.now o1 (z2.on x1) (by exact rfl)⟩
theorem W0(hc:DT G tc fc)(ha:DE G ta fa)(hb:DE G tb fb):DE G (tIf tc ta tb) (fIf fc fa fb):=by
 intro B H ρ σ Q o h;refine hc.then o (P:=dH G B H ρ σ Q) h (fun z=>z) (fun z=>z) fun c z B1 H1 o1 x1=>?_
 cases c with
 | true=>
  rw[if_pos rfl]at z ⊢;exact ha B1 H1 ρ σ Q o1 (z.on x1)
 | false=>
  rw[if_neg pK]at z ⊢;exact hb B1 H1 ρ σ Q o1 (z.on x1)
theorem aK:DA G xG aJ:=fun B H ρ σ Q o h=>h [] B H o (Ext.refl _ _) rfl
theorem Hz.mono{B H B' H':Hp}(sb:bB B B')(sh:bB H H')(gr:∀ a o,B' a=some o->B a=some o∨H a=none):∀ {w:W} {v:V},Hz G B H w v->Hz G B' H' w v
 | .fr _,_,h=>Rp.mono sb h
 | .bw _,_,⟨p,vs,e,q,b,n,r⟩=>⟨p,vs,e,sh _ _ q,by
   cases z:B' p with
   | none=>rfl
   | some o=>rcases gr _ _ z with y | y <;> simp_all,n,r.mono sb⟩
 | .bj _ _,_,⟨a,e,r⟩=>⟨a,e,r.mono sb sh gr⟩
theorem aD(ha:DE G ta fa)(hr:DA G tr fr):DA G (uJ ta tr) (aA fa fr):=by
 intro B H ρ σ Q o h;refine ha.then o (P:=PA1 G B H ρ σ Q) h (fun z=>z) (fun z=>z) fun w z v B1 H1 o1 x1 q1=>?_;obtain⟨B2,o2,x2,s2,z2⟩:=Own.toArg o o1 x1 q1;refine hr.then o2 (P:=PA1 G B H ρ σ Q) z (fun y H' a b=>y H' a (x2.sb.trans b)) (fun y=>y) fun ws y vs B3 H3 o3 x3 q3=>?_;exact y (v::vs) B3 H3 o3 (x2.trans x3) ⟨v,vs,rfl,z2.mono x3.sb x3.sh x3.gr,q3⟩
theorem PN{B H:Hp}{α:Type}{P:Rz α->Prop}(hs:P .st->False):∀ {ws:List W} {vs:List V} {k:List D->Rz α},P ((zL ws).bind k)->M9 G B H ws vs->∃ l,fL G.K B l vs/\P (k l)
 | [],_,_,h,q=>⟨[],q,h⟩
 | .fr d::ws,_,k,h,⟨v,us,e,q,r⟩=>by
  have h':P ((zL ws).bind fun l=>k (d::l)):=by
   rw[zL]at h
   cases e:zL ws <;> rw[e]at h <;> exact h
  obtain⟨l,rl,hp⟩:=PN hs (k:=fun l=>k (d::l)) h' r;exact⟨d::l,⟨v,us,e,q,rl⟩,hp⟩
 | .ow _::_,_,_,h,_=>(hs h).elim
 | .bw _::_,_,_,h,_=>(hs h).elim
 | .bj _ _::_,_,_,h,_=>(hs h).elim
theorem dD(ha:DA G tr fr):DE G (qCD tr) (cV fr):=by
 intro B H ρ σ Q o h;refine ha.then o (P:=dH G B H ρ σ Q) h (fun z=>z) (fun z=>z) fun ws z vs B1 H1 o1 x1 q1=>?_;obtain⟨l,rl,z2⟩:=PN (fun y=>y) z q1
 split at z2
 ·rename_i e
  exact⟨by rw[rl.len];exact e,fun p hp=>dH.tup o1 (z2.on x1) rl hp⟩
 ·exact z2.elim
theorem fJ(ha:DA G tr fr):DE G (qCH tr) (fH fr):=by
 intro B H ρ σ Q o h;refine ha.then o (P:=dH G B H ρ σ Q) h (fun z=>z) (fun z=>z) fun ws z vs B1 H1 o1 x1 q1=>?_;obtain⟨l,rl,z2⟩:=PN (fun y=>y) z q1
 split at z2
 ·rename_i e
  exact⟨by rw[rl.len];exact e,fun p hp=>dH.own o1 (z2.on x1) rl hp⟩
 ·exact z2.elim
mutual
theorem Za{K:cZ}{B B':Hp}(s:∀ a xs,rM K B a xs->rM K B' a xs):∀ {d:D} {v:V},d.nl=true->Rp K B d v->Rp K B' d v
 | .non,_,_,h=>h
 | .bl _,_,_,h=>h
 | .int _,_,_,h=>h
 | .str _,_,_,h=>h
 | .tup _,_,n,⟨p,vs,e,q,r⟩=>⟨p,vs,e,s _ _ q,Uy s n r⟩
theorem Uy{K:cZ}{B B':Hp}(s:∀ a xs,rM K B a xs->rM K B' a xs):∀ {l:List D} {vs:List V},Wm l=true->fL K B l vs->fL K B' l vs
 | [],_,_,h=>h
 | _::_,_,n,⟨v,ws,e,q,r⟩=>by
  rw[Wm,Bool.and_eq_true]at n;exact⟨v,ws,e,Za s n.1 q,Uy s n.2 r⟩
end
theorem nZ.rpf{B H B2:Hp}(s2:bB B B2):∀ {fs:List (Str×Fm)} {bW:List (Str×V)},nZ G B H fs bW->(∀ a∈adr fs bW,∀ o,H a=some o->B2 a=some o)->Qk G.K B2 (fs.map fun x=>(x.1,x.2.d)) bW
 | [],_,h,_=>h
 | (_,.va _)::_,_,⟨v,ws,e,q,r⟩,k=>by
  subst e;refine⟨v,ws,rfl,q.mono s2,nZ.rpf s2 r fun a ha=>k a ?_⟩
  cases v <;> exact ha
 | (_,.li _)::_,_,⟨p,ws,vs,e,h,n,n0,q,r⟩,k=>by
  subst e;exact⟨.ref p,ws,rfl,⟨p,vs,rfl,k p Aa _ h,q.mono s2⟩,nZ.rpf s2 r fun a ha=>k a (wy _ ha)⟩
theorem nZ.lies{B H:Hp}:∀ {fs:List (Str×Fm)} {bW:List (Str×V)},nZ G B H fs bW->∀ a∈adr fs bW,B a=none/\G.H0 a=none/\∃ us,H a=some (.lst us)
 | [],_,h,a,ha=>by cases (show _=_ from h);cases ha
 | (_,.va _)::_,_,⟨v,ws,e,q,r⟩,a,ha=>by
  subst e;refine nZ.lies r a ?_
  cases v <;> exact ha
 | (_,.li _)::_,_,⟨p,ws,vs,e,h,n,n0,q,r⟩,a,ha=>by
  subst e;rcases jo.mp ha with rfl | ha
  ·exact⟨n,n0,vs,h⟩
  ·exact nZ.lies r a ha
theorem Ba{B H:Hp}(sb:bB B H):∀ {ws:List W} {vs:List V},M9 G B H ws vs->∃ P:Addr->Prop,(∀ a,P a->B a=none/\G.H0 a=none/\((∃ us,H a=some (.lst us)) ∨ ∃ C dx fs,H a=some (.ins C dx fs)))/\(ws.all W.rst=true->∀ a,¬ P a) ∧
  ∀ B2,bB B B2->(∀ a o,P a->H a=some o->B2 a=some o)->fL G.K B2 (ws.map W.d) vs
 | [],_,h=>⟨fun _=>False,fun _ h=>h.elim,fun _ _ h=>h,fun _ _ _=>h⟩
 | .fr d::ws,_,⟨v,us,e,q,r⟩=>by
  obtain⟨P,p1,p2,p3⟩:=Ba sb r;refine⟨P,p1,fun h=>p2 ?_,fun B2 s2 h2=>⟨v,us,e,Rp.mono s2 q,p3 B2 s2 h2⟩⟩;rw[List.all_cons,Bool.and_eq_true]at h;exact h.2
 | .bw l::ws,_,⟨v,us,e,⟨a,vs,ea,qa,ba,na,ra⟩,r⟩=>by
  obtain⟨P,p1,p2,p3⟩:=Ba sb r;refine⟨fun b=>b=a∨P b,fun b hb=>?_,fun h=>?_,fun B2 s2 h2=>⟨v,us,e,⟨a,vs,ea,h2 a _ (.inl rfl) qa,ra.mono s2⟩,p3 B2 s2 fun b o hb=>h2 b o (.inr hb)⟩⟩
  ·rcases hb with rfl | hb
   ·exact⟨ba,na,.inl ⟨vs,qa⟩⟩
   ·exact p1 b hb
  ·rw[List.all_cons,Bool.and_eq_true]at h;exact absurd h.1 pK
 | .bj C fs::ws,_,⟨v,us,e,⟨a,ea,dx,bW,qa,ba,na,ra,_⟩,r⟩=>by
  obtain⟨P,p1,p2,p3⟩:=Ba sb r;refine⟨fun b=>(b=a∨b∈adr fs bW)∨P b,fun b hb=>?_,fun h=>?_,fun B2 s2 h2=>⟨v,us,e,⟨a,dx,bW,ea,h2 a _ (.inl (.inl rfl)) qa,ra.rpf s2 fun b hb o eo=>h2 b o (.inl (.inr hb)) eo⟩,p3 B2 s2 fun b o hb=>h2 b o (.inr hb)⟩⟩
  ·rcases hb with (rfl | hb) | hb
   ·exact⟨ba,na,.inr ⟨_,_,_,qa⟩⟩
   ·obtain⟨h1,h2,h3⟩:=ra.lies b hb;exact⟨h1,h2,.inl h3⟩
   ·exact p1 b hb
  ·rw[List.all_cons,Bool.and_eq_true]at h;exact absurd h.1 pK
theorem M9.len{B H:Hp}:∀ {ws:List W} {vs:List V},M9 G B H ws vs->vs.length=ws.length
 | [],_,h=>by cases h;rfl
 | _::_,_,⟨v,us,e,_,r⟩=>by rw[e,dJ,dJ,M9.len r]
open Classical in
theorem JN{F:List D->Rz D}{n:Nat}{B H B1 H1:Hp}{ρ:List Sl}{σ:St}{Q:VK}{E:XK}{ws:List W}{vs:List V}(o1:Own G B1 H1 ρ σ)(x1:Ext B H B1 H1)(q1:M9 G B1 H1 ws vs)(hl:ws.length=n)
  (hE:F (ws.map W.d) = .ex->∀ H',bB H1 H'->E (.ref G.C) none H')
  (h:dH G B H ρ σ Q ((F (ws.map W.d)).bind fun d=>if ws.all W.rst=true∨d.nl=true then .ok (.fr d) else .st)):dB G.K G.C F n (vs++[]) H1 Q E:=by
 obtain⟨P,p1,p2,p3⟩:=Ba o1.sb q1
 have s1:bB B1 (fun a=>if P a then H1 a else B1 a):=fun a u e=>by
  show (if P a then H1 a else B1 a)=_;rw[if_neg fun z=>by rw[(p1 a z).1]at e;cases e];exact e
 rw[xF];refine⟨by rw[q1.len];exact hl,fun a=>if P a then H1 a else B1 a,ws.map W.d,fun a u e=>?_,p3 _ s1 fun a u z e=>?_,?_⟩
 ·have e':(if P a then H1 a else B1 a)=some u:=e
  split at e'
  ·exact e'
  ·exact o1.sb _ _ e'
 ·show (if P a then H1 a else B1 a)=some u;rw[if_pos z];exact e
 cases ef:F (ws.map W.d) with
 | st=>rw[ef]at h;exact h
 | ex=>exact hE ef
 | ok d=>
  rw[ef]at h;intro v B' H' sh sb TV gr r;have h':dH G B H ρ σ Q (if ws.all W.rst=true∨d.nl=true then .ok (.fr d) else .st):=h
  split at h'
  ·rename_i hc
   have sB:bB B1 (fun a=>if P a then none else B' a):=fun a u e=>by
    show (if P a then none else B' a)=some u;rw[if_neg fun z=>by rw[(p1 a z).1]at e;cases e];exact sb _ _ (s1 _ _ e)
   have g2:∀ a u,(if P a then none else B' a)=some u->B1 a=some u∨H1 a=none:=fun a u e=>by
    split at e
    ·cases e
    ·rename_i hp
     rcases gr a u e with z | z
     ·have z':(if P a then H1 a else B1 a)=some u:=z;rw[if_neg hp]at z';exact .inl z'
     ·exact .inr z
   have sb2:bB (fun a=>if P a then none else B' a) H':=fun a u e=>by
    have e':(if P a then none else B' a)=some u:=e
    split at e'
    ·cases e'
    ·exact TV _ _ e'
   refine h' v (fun a=>if P a then none else B' a) H' (o1.ext ⟨sB,sh,g2⟩ sb2) (x1.trans ⟨sB,sh,g2⟩) ?_
   ·rcases hc with hc | hc
    ·refine Rp.mono (fun a u e=>?_) r;show (if P a then none else B' a)=some u;rw[if_neg (p2 hc a)];exact e
    ·refine Za (fun a xs t=>?_) hc r
     have ne:∀ u,B' a=some u->(∀ ys,u≠.lst ys)->(∀ C dx fs,u≠.ins C dx fs)->¬ P a:=fun u e hu hu2 z=>by
      obtain⟨_,_,e3⟩:=p1 a z;rcases e3 with ⟨us,e3⟩ | ⟨C,dx,fs,e3⟩
      ·have:=sb a _ (by show (if P a then H1 a else B1 a)=_;rw[if_pos z];exact e3);rw[e]at this
       cases this
       exact hu us rfl
      ·have:=sb a _ (by show (if P a then H1 a else B1 a)=_;rw[if_pos z];exact e3);rw[e]at this
       cases this
       exact hu2 _ _ _ rfl
     rcases t with (t | ⟨ob,t⟩) | t
     ·refine .inl (.inl ?_);show (if P a then none else B' a)=_;rw[if_neg (ne _ t (fun _=>nofun) fun _ _ _=>nofun)];exact t
     ·refine .inl (.inr ⟨ob,?_⟩);show (if P a then none else B' a)=_;rw[if_neg (ne _ t (fun _=>nofun) fun _ _ _=>nofun)];exact t
     ·exact .inr t
  ·exact h'.elim
theorem dg{α:Type}{P:Rz α->Prop}{c:Prop} [Decidable c] {a:Rz α} (h:P (if c then a else .st)) (hs:P .st->False):c/\P a:=by
 split at h
 ·rename_i e
  exact⟨e,h⟩
 ·exact (hs h).elim
theorem cI{F:List D->Rz D}{n:Nat}(ha:DA G tr fr):DE G (Ph (dB G.K G.C F n) [] G.E tr) (aO F n fr):=by
 intro B H ρ σ Q o h;refine ha.then o (P:=dH G B H ρ σ Q) h (fun z=>z) (fun z=>z) fun ws z vs B1 H1 o1 x1 q1=>?_;obtain⟨hl,z⟩:=dg z (fun y=>y);refine JN o1 x1 q1 hl (fun e H' s=>?_) z;rw[e]at z;exact z H' (o1.s0.trans s) ((x1.sb.trans o1.sb).trans s)
theorem aW{F:List D->Rz D}{n:Nat}{C:Addr}(hC:C=G.C)(ha:DA G tr fr):DE G (Ph (dB G.K C F n) [] E0 tr) (aO (c7 F) n fr):=by
 intro B H ρ σ Q o h;refine ha.then o (P:=dH G B H ρ σ Q) h (fun z=>z) (fun z=>z) fun ws z vs B1 H1 o1 x1 q1=>?_;obtain⟨hl,z⟩:=dg z (fun y=>y);subst hC;refine JN o1 x1 q1 hl (fun e=>?_) ?_
 ·unfold c7 at z;rw[e]at z;exact z.elim
 ·unfold c7 at z
  split at z
  ·exact z.elim
  ·exact z
end
inductive Fl where
 | nx (ρ:List Sl) | ret (d:D) (ρ:Option (List Sl)) | bk (ρ:List Sl) | ct (ρ:List Sl)
noncomputable abbrev FS:=List Sl->Rz Fl
structure Ea(G:Gm)(B B':Hp):Prop where
 sb:bB B B'
 gr:∀ a o,B' a=some o->B a=some o∨G.H0 a=none
theorem Ea.refl(G:Gm)(B:Hp):Ea G B B:=⟨bB.refl _,fun _ _ h=>.inl h⟩
theorem Ea.trans{G:Gm}{B B1 B2:Hp}(a:Ea G B B1)(b:Ea G B1 B2):Ea G B B2:=⟨a.sb.trans b.sb,fun x o h=>(b.gr x o h).elim (a.gr x o) .inr⟩
theorem Ext.s{G:Gm}{B H B' H':Hp}{ρ:List Sl}{σ:St}(o:Own G B H ρ σ)(x:Ext B H B' H'):Ea G B B':=⟨x.sb,fun a u h=>(x.gr a u h).imp id fun z=>o.s0.free z⟩
noncomputable def wu(G:Gm)(B:Hp)(D:Ends):Rz Fl->Prop
 | .ok (.nx ρ) => ∀ σ' B' H',Own G B' H' ρ σ'->Ea G B B'->D.nx σ' H'
 | .ok (.bk ρ) => ∀ σ' B' H',Own G B' H' ρ σ'->Ea G B B'->D.bk σ' H'
 | .ok (.ct ρ) => ∀ σ' B' H',Own G B' H' ρ σ'->Ea G B B'->D.ct σ' H'
 | .ok (.ret d r) => ∀ v B' H',bB G.H0 H'->bB B' H'->Ea G B B'->(∀ ρ,r=some ρ->∃ σ',Own G B' H' ρ σ')->Rp G.K B' d v->D.rt v H'
 | .ex => ∀ H',bB G.H0 H'->bB B H'->G.E (.ref G.C) none H'
 | .st=>False
theorem wu.on{G:Gm}{B B1:Hp}{D:Ends}(x:Ea G B B1):∀ {r:Rz Fl},wu G B D r->wu G B1 D r
 | .ok (.nx _),h=>fun σ' B' H' o y=>h σ' B' H' o (x.trans y)
 | .ok (.bk _),h=>fun σ' B' H' o y=>h σ' B' H' o (x.trans y)
 | .ok (.ct _),h=>fun σ' B' H' o y=>h σ' B' H' o (x.trans y)
 | .ok (.ret _ _),h=>fun v B' H' a b y=>h v B' H' a b (x.trans y)
 | .ex,h=>fun H' a b=>h H' a (x.sb.trans b)
 | .st,h=>h
noncomputable def DS(G:Gm)(t:TS)(g:FS):Prop:=∀ B H ρ σ D,Own G B H ρ σ->wu G B D (g ρ)->t D σ H
noncomputable def aX(a b:FS):FS:=fun ρ=>(a ρ).bind fun f=>match f with
 | .nx ρ'=>b ρ'
 | f=>.ok f
noncomputable def bO:FS:=fun ρ=>.ok (.nx ρ)
noncomputable def xN:FS:=fun _=>.st
noncomputable def cz(c:FT)(a b:FS):FS:=fun ρ=>(c ρ).bind fun k=>if k=true then a ρ else b ρ
noncomputable def W.out:W->Rz D
 | .bj _ _=>.st
 | w=>.ok w.d
noncomputable def W.rs:W->List Sl->Option (List Sl)
 | .bw _,_=>none
 | _,ρ=>some ρ
noncomputable def az(f:FE):FS:=fun ρ=>(f ρ).bind fun w=>w.out.bind fun d=>.ok (.ret d (w.rs ρ))
noncomputable def gB(f:FE):FS:=fun ρ=>(f ρ).bind fun _=>.ok (.nx ρ)
noncomputable def W.sl:W->Rz Sl
 | .fr d=>.ok (.fr d)
 | .ow l=>.ok (.ow l)
 | _=>.st
noncomputable def Mx(i:Nat)(f:FE):FS:=fun ρ=>(f ρ).bind fun w=>w.sl.bind fun s=>.ok (.nx (ρ.set i s))
section
variable{G:Gm}{ta tb:TE}{fa fb:FE}{tc td:TT}{fc fd:FT}{t u:TS}{a b:FS}
theorem aQ(h1:DS G t a)(h2:DS G u b):DS G (qAA t u) (aX a b):=by
 intro B H ρ σ D o h;refine h1 B H ρ σ { D with nx:=u D } o ?_;unfold aX at h
 cases e:a ρ with
 | st=>rw[e]at h;exact h
 | ex=>rw[e]at h;exact h
 | ok f=>
  rw[e]at h
  cases f with
  | nx ρ'=>exact fun σ' B' H' o' y=>h2 B' H' ρ' σ' D o' (wu.on y h)
  | bk ρ'=>exact h
  | ct ρ'=>exact h
  | ret d r=>exact h
theorem bC:DS G ZG bO:=fun B H _ σ _ o h=>h σ B H o (Ea.refl _ _)
theorem Dh:DS G Tt xN:=fun _ _ _ _ _ _ h=>h
theorem bY(hc:DT G tc fc)(ha:DS G t a)(hb:DS G u b):DS G (qAD tc t u) (cz fc a b):=by
 intro B H ρ σ D o h;refine hc.then o (P:=wu G B D) h (fun z=>z) (fun z=>z) fun c z B1 H1 o1 x1=>?_
 cases c with
 | true=>
  rw[if_pos rfl]at z ⊢;exact ha B1 H1 ρ σ D o1 (wu.on (x1.s o) z)
 | false=>
  rw[if_neg pK]at z ⊢;exact hb B1 H1 ρ σ D o1 (wu.on (x1.s o) z)
theorem told{B H B1 H1:Hp}{ρ:List Sl}{σ:St}{D:Ends}{w:W}{v:V}(o:Own G B H ρ σ)(o1:Own G B1 H1 ρ σ)(x1:Ext B H B1 H1)(q:uz G H B1 H1 w v)(h:wu G B D (w.out.bind fun d=>.ok (.ret d (w.rs ρ)))):D.rt v H1:=by
 cases w with
 | fr d=>exact h v B1 H1 o1.s0 o1.sb (x1.s o) (fun r e=>by cases e;exact⟨σ,o1⟩) q
 | ow l=>
  obtain⟨p,vs,e,n,q1,b,r⟩:=q;obtain⟨o2,x2⟩:=o1.rest x1 o n q1 b
  have s2:bB B1 (upd B1 p (.lst vs)):=fun a y e=>by rw[zQ (zM e b)];exact e
  exact h v _ H1 o2.s0 o2.sb (x2.s o) (fun r e=>by cases e;exact⟨σ,o2⟩) ⟨p,vs,e,zC,r.mono s2⟩
 | bw l=>
  obtain⟨p,vs,e,q1,b,n,r⟩:=q
  have s2:bB B1 (upd B1 p (.lst vs)):=fun a y e=>by rw[zQ (zM e b)];exact e
  refine h v (upd B1 p (.lst vs)) H1 o1.s0 (fun a u z=>?_) ⟨x1.sb.trans s2,fun a u z=>?_⟩ (fun r e=>by cases e) ⟨p,vs,e,zC,r.mono s2⟩
  ·by_cases y:a=p
   ·subst y;rw[zC]at z;rw[<-z];exact q1
   ·rw[zQ y]at z;exact o1.sb _ _ z
  ·by_cases y:a=p
   ·subst y;exact .inr n
   ·rw[zQ y]at z;exact (x1.s o).gr _ _ z
 | bj C fs=>exact h.elim
theorem ao(ha:DE G ta fa):DS G (qAB ta) (az fa):=by
 intro B H ρ σ D o h;exact ha.then o (P:=wu G B D) h (fun z=>z) (fun z=>z) fun w z v B1 H1 o1 x1 q1=>told o o1 x1 q1 z
theorem fu(ha:DE G ta fa):DS G (Pg ta) (gB fa):=by
 intro B H ρ σ D o h;exact ha.then o (P:=wu G B D) h (fun z=>z) (fun z=>z) fun w z v B1 H1 o1 x1 q1=>z σ B1 H1 o1 (x1.s o)
theorem Hs{H:Hp}{ρ:List Sl}{σ:St}{i j:Nat}{s:Sl}{v:V}{a:Addr}(hij:j≠i)(h:Oa H (ρ.set i s) (σ.set i (some v)) j a):Oa H ρ σ j a:=by
 rcases h with ⟨l,e1,e2⟩ | ⟨C,fs,a0,dx,bW,e1,e2,e3,e4⟩
 ·rw[List.getElem?_set_ne (Ne.symm hij)]at e1 e2;exact .inl ⟨l,e1,e2⟩
 ·rw[List.getElem?_set_ne (Ne.symm hij)]at e1 e2;exact .inr ⟨C,fs,a0,dx,bW,e1,e2,e3,e4⟩
theorem Own.set{B H:Hp}{ρ:List Sl}{σ:St}(o:Own G B H ρ σ){i:Nat}{s:Sl}{v:V}(hb:∀ l,s≠.bo l)(hf:∀ d,s = .fr d->Rp G.K B d v)
  (hw:∀ l,s = .ow l->∃ p vs,v = .ref p/\H p=some (.lst vs)/\B p=none/\G.H0 p=none/\fL G.K B l vs) (hj:∀ C fs,s = .ob C fs->G.sf=none/\∃ p,v = .ref p/\Ob G B H C fs p)
  (hp:∀ a,Oa H [s] [some v] 0 a->∀ j,j≠i->¬ Oa H ρ σ j a):Own G B H (ρ.set i s) (σ.set i (some v)):=by
 have hl:=o.len
 have self:∀ {s':Sl},(ρ.set i s)[i]? = some s'->s'=s/\i<ρ.length:=fun {s'} e=>by
  by_cases c:i<ρ.length
  ·rw[List.getElem?_set_self c]at e
   cases e
   exact⟨rfl,c⟩
  ·rw[List.getElem?_eq_none (by rw[List.length_set];omega)]at e
   cases e
 have selfV:i<ρ.length->(σ.set i (some v))[i]? = some (some v):=fun c=>List.getElem?_set_self (by omega);refine⟨o.sb,o.s0,by rw[List.length_set,List.length_set];exact hl,fun j d e=>?_,fun j l e=>?_,fun j l e=>?_,fun j C fs e=>?_,fun j k a e1 e2=>?_,fun j a C fs hg e=>?_⟩
 ·by_cases z:j=i
  ·subst z;obtain⟨e',c⟩:=self e;exact⟨v,selfV c,hf d e'.symm⟩
  ·rw[List.getElem?_set_ne (Ne.symm z)]at e ⊢;exact o.fr j d e
 ·by_cases z:j=i
  ·subst z;obtain⟨e',c⟩:=self e;obtain⟨p,vs,e1,q⟩:=hw l e'.symm;subst e1;exact⟨p,vs,selfV c,q⟩
  ·rw[List.getElem?_set_ne (Ne.symm z)]at e ⊢;exact o.ow j l e
 ·by_cases z:j=i
  ·subst z;obtain⟨e',c⟩:=self e;exact (hb l e'.symm).elim
  ·rw[List.getElem?_set_ne (Ne.symm z)]at e ⊢;exact o.bo j l e
 ·by_cases z:j=i
  ·subst z;obtain⟨e',c⟩:=self e;obtain⟨_,p,e1,q⟩:=hj C fs e'.symm;subst e1;exact⟨p,selfV c,q⟩
  ·rw[List.getElem?_set_ne (Ne.symm z)]at e ⊢;exact o.ob j C fs e
 ·have one:Oa H (ρ.set i s) (σ.set i (some v)) i a->Oa H [s] [some v] 0 a:=fun h=>by
   rcases h with ⟨l,x1,x2⟩ | ⟨C,fs,a0,dx,bW,x1,x2,x3,x4⟩
   ·obtain⟨e',c⟩:=self x1;rw[selfV c]at x2;subst e';exact .inl ⟨l,rfl,x2⟩
   ·obtain⟨e',c⟩:=self x1;rw[selfV c]at x2;subst e';exact .inr ⟨C,fs,a0,dx,bW,rfl,x2,x3,x4⟩
  by_cases z:j=i
  ·subst z
   by_cases y:k=j
   ·exact y.symm
   ·exact (hp a (one e1) k y (Hs y e2)).elim
  ·by_cases y:k=i
   ·subst y;exact (hp a (one e2) j z (Hs z e1)).elim
   ·exact o.ap j k a (Hs z e1) (Hs y e2)
 ·by_cases z:j=i
  ·subst z;obtain⟨e',c⟩:=self e;rw[(hj C fs e'.symm).1]at hg
   cases hg
  ·rw[List.getElem?_set_ne (Ne.symm z)]at e ⊢;exact o.sf j a C fs hg e
theorem ZZ{H:Hp}{d:D}{v:V}{a:Addr}(h:Oa H [.fr d] [some v] 0 a):False:=by
 rcases h with ⟨l,e1,_⟩ | ⟨C,fs,a0,dx,bW,e1,_⟩
 ·cases (show some _=some _ from e1)
 ·cases (show some _=some _ from e1)
theorem Own.oaH{B H:Hp}{ρ:List Sl}{σ:St}(o:Own G B H ρ σ){j:Nat}{a:Addr}(h:Oa H ρ σ j a):∃ u,H a=some u:=by
 rcases h with ⟨l,e1,e2⟩ | ⟨C,fs,a0,dx,bW,e1,e2,e3,e4⟩
 ·obtain⟨p,vs,z1,z2,_⟩:=o.ow j l e1;rw[e2]at z1
  cases z1
  exact⟨_,z2⟩
 ·rcases e4 with rfl | e4
  ·exact⟨_,e3⟩
  ·obtain⟨a1,z1,dx1,qFG,z2,_,_,r,_⟩:=o.ob j C fs e1;rw[e2]at z1
   cases z1
   rw[e3]at z2
   cases z2
   obtain⟨_,_,us,z⟩:=r.lies a e4;exact⟨_,z⟩
theorem Own.put{B H B1 H1:Hp}{ρ:List Sl}{σ:St}(o:Own G B H ρ σ)(o1:Own G B1 H1 ρ σ)(x1:Ext B H B1 H1){w:W}{v:V}(q:uz G H B1 H1 w v){i:Nat}{s:Sl}(e:w.sl = .ok s):Own G B1 H1 (ρ.set i s) (σ.set i (some v)):=by
 cases w with
 | fr d=>
  cases e
  exact o1.set (fun _=>nofun) (fun d' z=>by cases z;exact q) (fun l z=>by cases z) (fun _ _ z=>by cases z) fun a h=>(ZZ h).elim
 | ow l=>
  cases e
  obtain⟨p,vs,e,n,q1,b,r⟩:=q;refine o1.set (fun _=>nofun) (fun d' z=>by cases z) (fun l z=>by cases z;exact⟨p,vs,e,q1,b,o.s0.free n,r⟩) (fun _ _ z=>by cases z) fun a h j _ h2=>?_
  have ea:a=p:=by
   rcases h with ⟨l,e1,e2⟩ | ⟨C,fs,a0,dx,bW,e1,_⟩
   ·subst e
    cases (show some _=some _ from e2)
    rfl
   ·cases (show some _=some _ from e1)
  obtain⟨u,z⟩:=o.oaH (o.oa x1.sh h2);rw[ea,n]at z
  cases z
 | bw l=>cases e
 | bj _ _=>cases e
theorem Oh{i:Nat}(ha:DE G ta fa):DS G (Tz ta (zu i)) (Mx i fa):=by
 intro B H ρ σ D o h;refine ha.then o (P:=wu G B D) h (fun z=>z) (fun z=>z) fun w z v B1 H1 o1 x1 q1=>?_
 cases e:w.sl with
 | ok s=>
  rw[e]at z;exact z _ B1 H1 (o.put o1 x1 q1 e) (x1.s o)
 | ex=>rw[e]at z;cases w <;> cases e
 | st=>rw[e]at z;exact z.elim
end
noncomputable def fin:Rz Fl->Rz D
 | .ok (.nx _)=>.ok .non
 | .ok (.ret d _)=>.ok d
 | .ok _=>.st
 | .ex=>.ex
 | .st=>.st
noncomputable def start(n:Nat)(ds:List D):List Sl:=ds.map Sl.fr++List.replicate (n-ds.length) .no
noncomputable def eG(n:Nat)(g:FS)(ds:List D):Rz D:=fin (g (start n ds))
theorem xK{K:cZ}{H B:Hp}{E:XK}{C:Addr}{N:List Str}{ds:List D}{vs:List V}(sb:bB B H)(r:fL K B ds vs)(h:vs.length<=N.length):Own ⟨K,H,E,C,none⟩ B H (start N.length ds) (L2.start N vs):=by
 have hl:=r.len;refine⟨sb,bB.refl _,?_,fun i d e=>?_,fun i l e=>?_,fun i l e=>?_,fun i C fs e=>?_,fun i j a h _=>?_,fun _ _ _ _ hg=>by cases hg⟩
 ·unfold start L2.start;rw[rQ,rQ,jH,jH,List.length_replicate,List.length_replicate];omega
 ·unfold start at e;unfold L2.start
  by_cases c:i<ds.length
  ·rw[zw3 (by rw[jH];exact c),uB]at e;rw[zw3 (by rw[jH];omega),uB]
   cases e2:ds[i]? with
   | none=>rw[e2]at e;cases e
   | some d'=>
    rw[e2]at e
    cases e
    obtain⟨v,e3,q⟩:=r.get e2;exact⟨v,by rw[e3];rfl,q⟩
  ·rw[zw4 (by rw[jH];omega),List.getElem?_replicate]at e
   split at e <;> cases e
 rotate_right
 ·have no:∀ s',(start N.length ds)[i]? = some s'->(∃ d,s' = .fr d)∨s' = .no:=fun s' e=>by
   unfold start at e
   by_cases c:i<ds.length
   ·rw[zw3 (by rw[jH];exact c),uB]at e
    cases e2:ds[i]? with
    | none=>rw[e2]at e;cases e
    | some d'=>rw[e2]at e;cases e;exact .inl ⟨_,rfl⟩
   ·rw[zw4 (by rw[jH];omega),List.getElem?_replicate]at e
    split at e <;> cases e
    exact .inr rfl
  rcases h with ⟨l,e1,_⟩ | ⟨C,fs,a0,dx,bW,e1,_⟩
  ·rcases no _ e1 with ⟨d,z⟩ | z <;> cases z
  ·rcases no _ e1 with ⟨d,z⟩ | z <;> cases z
 all_goals
  unfold start at e
  by_cases c:i<ds.length
  ·rw[zw3 (by rw[jH];exact c),uB]at e
   cases e2:ds[i]? with
   | none=>rw[e2]at e;cases e
   | some d'=>rw[e2]at e;cases e
  ·rw[zw4 (by rw[jH];omega),List.getElem?_replicate]at e
   split at e <;> cases e
theorem WM{K:cZ}{H:Hp}{E:XK}{C:Addr}{N ps:List Str}{g:FS}{t:TS}{vs:List V}{Q:VK}(hp:N.take ps.length=ps)(h:dB K C (eG N.length g) ps.length vs H Q E)(hd:DS ⟨K,H,E,C,none⟩ t g) :
  t { nx:=fun _ H'=>Q .non H',rt:=Q } (L2.start N vs) H:=by
 obtain⟨hl,B,ds,sb,r,q⟩:=h
 have hN:ps.length<=N.length:=by
  have:=congrArg List.length hp;rw[Qp]at this;omega
 refine hd B H _ _ _ (xK sb r (by omega)) ?_;unfold eG at q
 cases e:g (start N.length ds) with
 | st=>rw[e]at q;exact q
 | ex=>rw[e]at q;exact fun H' a _=>q H' a
 | ok f=>
  rw[e]at q
  cases f with
  | nx ρ=>exact fun σ' B' H' o x=>q .non B' H' o.s0 x.sb o.sb x.gr (by exact rfl)
  | ret d r=>exact fun v B' H' a b x _ y=>q v B' H' a x.sb b x.gr y
  | bk ρ=>exact q.elim
  | ct ρ=>exact q.elim
section
variable{P:Program}{w:World}{K:cZ}{mg:Str->Option Value}{base:Heap}
theorem uY{x qual:Str}{st:Stmt}{f:Addr}{fd:FuncData}{N ps:List Str}{k:Nat}{C:Addr}{g:FS}(F:jJ K x qual st f fd)(S:aq N ps (aP st))
  (hb:∀(cdv:Value)(A:Around)(outer:List Env)(s:Shared)(H:Hp)(E:XK),iC k (A.deeper (PyProof.Rows.envOfC qual (aP st) s.heap.objs.size f cdv)) →
   ∃ t,JV (pI dw P w K mg base N qual (aP st) f cdv A outer s H E).TX (iT st) t/\DS ⟨K,H,E,C,none⟩ t g):bc P w K mg base dw (k+1) f fd ps (dB K C (eG N.length g) ps.length):=by
 refine F.ok S (fun vs H Q E h=>h.1) fun cdv A outer s H vs Q E hr h=>?_;obtain⟨t,h1,h2⟩:=hb cdv A outer s H E hr;exact⟨t,h1,WM S.pre h h2⟩
end
end DL
namespace HT
open PySem PySem.Spec PyProof.Rows
section
variable{prog:Program}{w:World}{A:Around}{E:Value->Shared->Prop}{s:Shared}
theorem uF{t sl:Addr}{items:Array Value}{vl vu:Value}{lo hi:Option Int}{Q:Value->Shared->Prop}(ht:IsTup s.heap t items)(hs:s.heap.IsSliceOf sl vl vu .none)(pl:IsPart vl lo)(pu:IsPart vu hi)
  (hw:gb items.size 0 lo=0/\gb items.size items.size hi=items.size) (h:Q (.ref t) s):wpAny (model prog w) A (getItem (.ref t) (.ref sl)) Q E s:=by
 obtain⟨os,hos,hcs,hds⟩:=id hs;have hTs:s.TypeIs (.ref sl) "slice" := ⟨os,hos,hcs⟩;unfold getItem
 try with_reducible refine wpAny_holding ?_
 first | refine wpAny_bind (wpAny_pure ?_) | skip
 refine wpAny_bind (wpAny_sequenceKey ht.typeIs (by decide) ?_)
 refine wpAny_bind (wpAny_callSpecial?_slot (name:=Str.ofString "__getitem__") ht.typeIs PyProof.Rows.slot_tuple_getitem
  (wpAny_call_entry PyProof.Rows.slot_tuple_getitem ht.typeIs entry_tuple_getitem ?_ (args_tuple_getitem _ _)))
 show wpAny _ _ (Builtin.Tuple.tupleItemsOf (.ref t) >>= _) _ _ s;refine wpAny_bind (tupleItemsOf_ ht ?_);refine wpAny_bind (wpAny_typeOf hTs ?_);rw[if_pos (by decide)];refine wpAny_bind (pN hs pl pu ?_)
 have qFV:(((gb items.size 0 lo:Nat):Int)==0&&(1:Int)==1&&(gb items.size items.size hi-gb items.size 0 lo)==items.size)=true:=by
  rw[hw.1,hw.2];simp
 show wpAny _ _ (if (((gb items.size 0 lo:Nat):Int)==0&&(1:Int)==1&&(gb items.size items.size hi-gb items.size 0 lo)==items.size)=true then _ else _) _ _ s;rw[if_pos qFV]
 have hx:wpAny (model prog w) A.in1 (Builtin.Tuple.tupleIsExact (Value.ref t)) (fun b s'=>b=true/\s'=s) (fun _ _=>False) s:=by
  unfold Builtin.Tuple.tupleIsExact;exact wpAny_bind (wpAny_typeOf ht.typeIs (wpAny_pure ⟨by decide,rfl⟩))
 refine wpAny_bind (wpAny_mono hx (fun b s' ⟨e1,e2⟩=>?_) (fun _ _ z=>z.elim));subst e1 e2;rw[if_pos rfl];exact wpAny_bind (wpAny_rule (wpAny_pure ⟨_,rfl,wpAny_pure h⟩))
end
end HT
namespace L2
open PySem PySem.Spec PyProof.Rows
section
variable{X:Cx}
noncomputable def qCQ(K:cZ):V->Option Int->Option Int->Hp->VK->Prop:=fun x lo hi H Q => ∃ a xs,x = .ref a/\rM K H a xs ∧
 ((HT.gb xs.length 0 lo=0/\HT.gb xs.length xs.length hi=xs.length)->Q (.ref a) H)/\(¬ (HT.gb xs.length 0 lo=0/\HT.gb xs.length xs.length hi=xs.length)->∀ p,H p=none->Q (.ref p) (upd H p (.tup (JH xs lo hi))))
theorem X8:Te X (qCQ X.K):=by
 intro pins s σ H x v vl vu lo hi sl Q I rx hs pl pu h;obtain⟨a,xs,rfl,hx,h1,h2⟩:=h
 by_cases hw:HT.gb xs.length 0 lo=0/\HT.gb xs.length xs.length hi=xs.length
 ·cases rx;obtain⟨its,r,ht,hz⟩:=I.tuple hx
  have hlen:its.toArray.size=xs.length:=by rw[wk];exact r.length.symm
  refine⟨"tuple",_,PyProof.Rows.slot_tuple_getitem.lookup,ht.typeIs,?_⟩;exact HT.uF ht hs pl pu (by rw[hlen];exact hw) ⟨.ref a,_,I,rfl,h1 hw⟩
 ·exact qAH pins s σ H _ v vl vu lo hi sl Q I rx hs pl pu ⟨a,xs,rfl,hx,hw,h2 hw⟩
theorem range_any(n:Nat)(f:Nat->Bool)(bs:List Bool)(hl:bs.length=n)(hf:∀ i b,bs[i]? = some b->f i=b):(List.range n).any f=bs.any id:=by
 rw[Bool.eq_iff_iff,List.any_eq_true,List.any_eq_true];constructor
 ·rintro⟨i,hi,h⟩
  have hi':i<bs.length:=by rw[hl];exact List.mem_range.mp hi
  rw[hf i _ (Az hi')]at h;exact⟨_,Qn hi',h⟩
 ·rintro⟨b,hb,h⟩;obtain⟨i,e⟩:=List.mem_iff_getElem?.mp hb;have hi:=(Fb.mp e).1;exact⟨i,List.mem_range.mpr (by omega),by rw[hf i b e];exact h⟩
theorem Ss(hc:X.calm=true):nu X (.builtin "any") (fun xs H Q => ∃(p:Addr)(bs:List Bool),xs=[.ref p]/\jk X.K H p (bs.map V.bl)/\Q (.bl (bs.any id)) H):=by
 intro pins s σ H xs us Q I r h;obtain⟨p,bs,rfl,hq,q⟩:=h;obtain⟨u,rfl,rx⟩:=vals1 r
 cases rx
 obtain⟨its,rv,pl,hz⟩:=I.list hq;have hlen:=rv.length;rw[jH]at hlen
 have hlt:p<s.heap.objs.size:=by
  obtain⟨o,ho,_⟩:=pl.isList;exact lZ ho
 refine call_any_walk (wpAny_pyIter_list pl.isList ?_)
 refine⟨s.heap.objs.size,[s.heap.objs.size,p],[s.heap.objs.size],its.toArray.size,fun i v=>its.toArray[i]? = some v,fun i h=>h.IsListIter s.heap.objs.size p i/\h.IsList p its.toArray,fun i=>(bs[i]?).getD true,rfl,
  Walks.list (A:=X.A.in1) (I.ok.hd hc) _ _ (tD hlt) _,⟨⟨_,wj _ rfl,rfl,rfl⟩,pl.isList.at fun o e=>mV _ e⟩,?_,?_⟩
 ·intro i v s' Q' E' hv hQ'
  have hi:i<bs.length:=by
   have:=(Array.getElem?_eq_some_iff.mp hv).1;simp only[List.size_toArray]at this;omega
  have e:bs[i]? = some bs[i]:=Az hi;obtain⟨u,hu,ru⟩:=rv.get (i:=i) (x:=V.bl bs[i]) (by rw[uB,e];rfl)
  have hv':its[i]? = some v:=by simpa using hv
  rw[hu]at hv'
  cases hv'
  cases ru
  have hQ2:Q' ((bs[i]?).getD true) s':=hQ';rw[e]at hQ2;exact wpAny_truthy_bool hQ2
 ·intro h' tk k;refine⟨.bl (bs.any id),H,I.kept (t':=tk) (h':=h') fun b u e=>k b u (fun z=>?_) (mV _ e),?_,q⟩
  ·have z':b=s.heap.objs.size:=by simpa using z
   exact absurd (lZ e) (by rw[z'];exact Nat.lt_irrefl _)
  ·show Value.bool _=Value.bool _;rw[range_any its.toArray.size _ bs (by simp only[List.size_toArray];exact hlen) fun i b e=>by rw[e];rfl]
end
section
variable{X:Cx}{a b c:Expr}{ta tb tc:TE}{pos:Pos}
end
end L2
namespace PySem
open Sem (wp)
open AutoSeq1 (wpAny_loadPart')
set_option maxRecDepth 100000
section
variable{prog:Program}{w:World}{A:Around}{E:Value->Shared->Prop}{s:Shared}
end
end PySem
namespace L2
open PySem PySem.Spec PyProof.Rows
section
variable{X:Cx}{pins:List (Addr×Obj)}{σ:St}{H:Hp}{s:Shared}{h':Heap}
end
section
variable{X:Cx}{es:List Expr}{k:Nat}{tpos:Pos}
end
end L2
namespace L2
open PySem
section
variable{X:Cx}
theorem NP:ni X (binaryOp .Mult) (fun x y H Q => ∃(i:Str)(n:Int),x = .str i/\y = .int n/\MulOk i n/\Q (.str (Txt.mul i n)) H):=by
 intro pins s σ H x y v u Q I rx ry h;obtain⟨i,n,rfl,rfl,hz,q⟩:=h;obtain⟨t,rfl⟩:=rx;obtain⟨t',rfl⟩:=ry;exact SB.mul hz fun t' tk=>⟨.str (Txt.mul i n),H,I.tok _,⟨_,rfl⟩,q⟩
end
end L2
namespace L2
open PySem PySem.Spec PyProof.Rows
section
variable{X:Cx}{pins:List (Addr×Obj)}{σ:St}{H:Hp}{s:Shared}{h':Heap}
theorem Inv.PQ{t':Nat}{ts:List Addr}(I:Inv X pins σ H s)(k:∀ b o,b∉ts->s.heap.get? b=some o->h'.get? b=some o)(hf:∀ b∈ts,qz X pins H b):Inv X pins σ H { s with heap:=h',toks:=t' }:=by
 have nit:∀ b u,H b=some u->b∉ts:=fun b u e z=>by
  rw[(hf b z).1]at e
  cases e
 refine I.step (g':=s.gens) (d':=s.drawn) (ch:=ts) (fun b hb=>?_) (fun b o _ _ hc e _=>k b o hc e) (fun b o _ _ hc e _=>⟨o.slots,k b o hc e⟩) (fun _ _ _ _ n=>n) (fun b o hc e=>⟨o,k b o hc e⟩) (fun _ _ e=>e) (fun _ _ _ e=>e) (fun b ps e=>⟨#[],by rw[e];simp⟩) (fun m hm=>?_) (fun b u e=>?_) I.bare
 ·obtain⟨f0,f1,f2,f3,f4,f5⟩:=hf b hb;exact⟨f3,f1,f4,f5⟩
 ·obtain⟨o,es,ep,ho,r⟩:=hm;exact⟨o,es,ep,k _ o (fun z=>(hf _ z).2.1 rfl) ho,r⟩
 ·refine (I.hok b u e).stay (fun c v hc q=>k c v ?_ q) (fun _ q=>q) fun _ _ q=>q;rcases hc with z | z
  ·rw[z];exact nit b u e
  ·exact nit c _ z
end
section
variable{X:Cx}{es:List Expr}{k:Nat}{tpos:Pos}
end
end L2
namespace DL
open PySem L2
noncomputable def chars(z:Str):List D:=z.cps.toList.map fun c=>D.str ⟨#[c]⟩
noncomputable def rG(lo:Int)(n:Nat):List D:=(List.range n).map fun k:Nat=>D.int (lo+(k:Int))
noncomputable def itD:D->Rz (List D)
 | .lst l=>.ok l
 | .tup l=>.ok l
 | .d8 l=>.ok (l.map D.int)
 | .str z=>.ok (chars z)
 | _=>.st
noncomputable def Src(K:cZ)(B Z:Hp)(J:It)(ds:List D):Prop:=
 (∃ a xs,J=Itl K a/\jk K Z a xs/\fL K B ds xs)∨(∃ a xs,J=Itt K a/\rM K Z a xs/\fL K B ds xs)∨(∃ lo n,J=Zx lo n/\ds=rG lo n) ∨ ∃ z,J=Zw z/\ds=chars z
noncomputable abbrev FI:=List Sl->Rz (List D)
noncomputable def PI1(G:Gm)(fz:Bool)(B H:Hp)(ρ:List Sl)(σ:St)(R:It->Hp->Prop):Rz (List D)->Prop
 | .ok ds => ∀ J B' H',Own G B' H' ρ σ->Ext B H B' H'->Src G.K B' (if fz=true then B' else H') J ds->R J H'
 | .ex => ∀ H',bB G.H0 H'->bB B H'->G.E (.ref G.C) none H'
 | .st=>False
noncomputable def DI(G:Gm)(fz:Bool)(t:TI)(f:FI):Prop:=∀ B H ρ σ R,Own G B H ρ σ->PI1 G fz B H ρ σ R (f ρ)->t σ H R
noncomputable def W.r(fz:Bool)(w:W):Rz D:=if fz=true then w.z else .ok w.d
noncomputable def qDK(K:cZ)(tl:TE):TI:=fun σ H R=>Zg K tl σ H R∨qDI K tl σ H R∨qDJ tl σ H R
theorem PI.or{X:Cx}{tg it:Expr}{a b:TI}(h1:PI X tg it a)(h2:PI X tg it b):PI X tg it (fun σ H R=>a σ H R∨b σ H R):=fun pins s σ H R I h=>h.elim (h1 pins s σ H R I) (h2 pins s σ H R I)
theorem jW{X:Cx}{tg l:Expr}{tl:TE}(hl:PE X l tl):PI X tg l (qDK X.K tl):=PI.or (yJ hl) (PI.or (qAQ hl) (qAR hl))
noncomputable def nQ(fz:Bool)(f:FE):FI:=fun ρ=>(f ρ).bind fun w=>(w.r fz).bind fun d=>itD d
noncomputable def iU(a:FA):FI:=fun ρ=>(a ρ).bind fun ws=>match ws with
 | [.fr (.int j)]=>if -(2 ^ 62)<=j/\j<2 ^ 62 then .ok (rG 0 j.toNat) else .st
 | _=>.st
section
variable{G:Gm}{tl:TE}{fl:FE}{tr:TA}{fr:FA}
theorem fL.ints:∀ {K:cZ} {B:Hp} (l:List Int),fL K B (l.map D.int) (l.map V.int)
 | _,_,[]=>rfl
 | _,_,_::l=>⟨_,_,rfl,rfl,fL.ints l⟩
theorem je{fz:Bool}(h:DE G tl fl):DI G fz (qDK G.K tl) (nQ fz fl):=by
 intro B H ρ σ R o hp;unfold nQ at hp
 cases e:fl ρ with
 | st=>rw[e]at hp;exact hp.elim
 | ex=>
  rw[e]at hp;exact .inl (h B H ρ σ _ o (by rw[e];exact hp))
 | ok w=>
  rw[e]at hp;have hp2:PI1 G fz B H ρ σ R ((w.r fz).bind fun d=>itD d):=hp;clear hp
  have key:∀ v B' H',Own G B' H' ρ σ->Ext B H B' H'->uz G H B' H' w v->∃ B2,Own G B2 H' ρ σ/\Ext B H B2 H'/\(∀ d,w.r fz = .ok d->Rq G.K B2 (if fz=true then B2 else H') d v):=fun v B' H' o' x' q=>by
   cases fz with
   | false=>exact⟨B',o',x',fun d ed=>by cases ed;exact q.rq o'.sb⟩
   | true=>
    cases ez:w.z with
    | ok d=>
     obtain⟨B2,o2,x2,r⟩:=Own.Bd o o' x' q ez;refine⟨B2,o2,x2,fun d' ed=>?_⟩;have ed':w.z = .ok d':=ed;rw[ez]at ed'
     cases ed'
     exact Rp.rq (bB.refl _) r
    | st=>exact⟨B',o',x',fun d ed=>by have ed':w.z = .ok d:=ed;rw[ez]at ed';cases ed'⟩
    | ex=>exact⟨B',o',x',fun d ed=>by have ed':w.z = .ok d:=ed;rw[ez]at ed';cases ed'⟩
  cases er:w.r fz with
  | st=>rw[er]at hp2;exact hp2.elim
  | ex=>
   exfalso
   cases fz <;> cases w <;> cases er
  | ok d=>
   rw[er]at hp2
   cases d with
   | lst l=>
    refine .inl (h B H ρ σ _ o ?_);rw[e];intro v B' H' o' x' q;obtain⟨B2,o2,x2,k⟩:=key v B' H' o' x' q;obtain⟨p,vs,rfl,hz,r⟩:=k _ er
    have hz':H' p=some (.lst vs):=by cases fz with | false=>exact hz | true=>exact o2.sb _ _ hz
    exact⟨p,rfl,⟨vs,jk.of hz'⟩,hp2 _ B2 H' o2 x2 (.inl ⟨p,vs,rfl,jk.of hz,r⟩)⟩
   | d8 l=>
    refine .inl (h B H ρ σ _ o ?_);rw[e];intro v B' H' o' x' q;obtain⟨B2,o2,x2,k⟩:=key v B' H' o' x' q;obtain⟨p,rfl,hz⟩:=k _ er;refine⟨p,rfl,⟨_,o2.sb.seq hz⟩,hp2 _ B2 H' o2 x2 (.inl ⟨p,_,rfl,?_,fL.ints l⟩)⟩
    cases fz with
    | false=>exact o2.sb.seq hz
    | true=>exact hz
   | tup l=>
    refine .inr (.inl (h B H ρ σ _ o ?_));rw[e];intro v B' H' o' x' q;obtain⟨B2,o2,x2,k⟩:=key v B' H' o' x' q;obtain⟨p,vs,rfl,hz,r⟩:=k _ er;refine⟨p,rfl,⟨_,pP o2.sb hz⟩,hp2 _ B2 H' o2 x2 (.inr (.inl ⟨p,vs,rfl,?_,r⟩))⟩
    cases fz with
    | false=>exact pP o2.sb hz
    | true=>exact hz
   | str z=>
    refine .inr (.inr (h B H ρ σ _ o ?_));rw[e];intro v B' H' o' x' q;obtain⟨B2,o2,x2,k⟩:=key v B' H' o' x' q
    cases (show _=_ from k _ er)
    exact⟨z,rfl,hp2 _ B2 H' o2 x2 (.inr (.inr (.inr ⟨z,rfl,rfl⟩)))⟩
   | _=>exact hp2.elim
theorem M9.one{B H:Hp}{d:D}{vs:List V}(h:M9 G B H [.fr d] vs):∃ v,vs=[v]/\Rp G.K B d v:=by
 obtain⟨v,us,e,q,r⟩:=h
 cases (show _=_ from r)
 exact⟨v,e,q⟩
theorem tX{fz:Bool}(h:DA G tr fr):DI G fz (Zf tr) (iU fr):=by
 intro B H ρ σ R o hp;refine h.then o (P:=PI1 G fz B H ρ σ R) hp (fun z=>z) (fun z=>z) fun ws z vs B1 H1 o1 x1 q1=>?_
 split at z
 ·rename_i j
  split at z
  ·rename_i hj
   obtain⟨v,rfl,rv⟩:=M9.one q1
   cases (show _=_ from rv)
   exact⟨j,rfl,hj.1,hj.2,z _ B1 H1 o1 x1 (.inr (.inr (.inl ⟨0,j.toNat,rfl,rfl⟩)))⟩
  ·exact z.elim
 ·exact z.elim
end
noncomputable abbrev FB:=D->List Sl->Option (List Sl)
noncomputable def bN(i:Nat):FB:=fun d ρ=>some (ρ.set i (.fr d))
noncomputable def bNs:List Nat->List D->List Sl->Option (List Sl)
 | [],[],ρ=>some ρ
 | i::is,d::ds,ρ=>bNs is ds (ρ.set i (.fr d))
 | _,_,_=>none
noncomputable def bT(is:List Nat):FB:=fun d ρ=>match d with
 | .tup l=>bNs is l ρ
 | _=>none
noncomputable def DB(G:Gm)(g:TG)(b:FB):Prop:=∀ B H ρ σ d v ρ' Q,Own G B H ρ σ->Rp G.K B d v->b d ρ=some ρ'->(∀ σ',Own G B H ρ' σ'->Q σ' H)->g v σ H Q
noncomputable def gNs:List Nat->Zt
 | []=>qDV
 | i::is=>Zh (zu i) (gNs is)
section
variable{G:Gm}
theorem Own.bind{B H:Hp}{ρ:List Sl}{σ:St}(o:Own G B H ρ σ){d:D}{v:V}(r:Rp G.K B d v)(i:Nat):Own G B H (ρ.set i (.fr d)) (σ.set i (some v)):=
 o.set (s:=.fr d) (fun _=>nofun) (fun d' z=>by cases z;exact r) (fun l z=>by cases z) (fun _ _ z=>by cases z) fun a h=>(ZZ h).elim
theorem W2{i:Nat}:DB G (zu i) (bN i):=by
 intro B H ρ σ d v ρ' Q o r e h
 cases e
 exact h _ (o.bind r i)
theorem WT{B H:Hp}{Q:St->Hp->Prop}:∀ {is:List Nat} {ds:List D} {vs:List V} {ρ ρ':List Sl} {σ:St},Own G B H ρ σ->fL G.K B ds vs->bNs is ds ρ=some ρ'->(∀ σ',Own G B H ρ' σ'->Q σ' H)->gNs is vs σ H Q
 | [],[],_,_,_,_,o,r,e,h=>by
  cases e
  exact⟨r,h _ o⟩
 | i::is,d::ds,_,_,_,_,o,⟨v,ws,z,q,r⟩,e,h=>⟨v,ws,z,WT (o.bind q i) r e h⟩
 | [],_::_,_,_,_,_,_,_,e,_=>by cases e
 | _::_,[],_,_,_,_,_,_,e,_=>by cases e
theorem Qg:∀ {is:List Nat} {ds:List D} {ρ ρ':List Sl},bNs is ds ρ=some ρ'->ds.length=is.length
 | [],[],_,_,_=>rfl
 | i::is,d::ds,ρ,ρ',e=>congrArg (· + 1) (Qg (show bNs is ds (ρ.set i (.fr d))=some ρ' from e))
 | [],_::_,_,_,e=>by cases e
 | _::_,[],_,_,e=>by cases e
theorem qEU{is:List Nat}:DB G (qDU G.K is.length (gNs is)) (bT is):=by
 intro B H ρ σ d v ρ' Q o r e h;unfold bT at e
 cases d with
 | tup l=>
  obtain⟨p,vs,rfl,t,r⟩:=r;exact⟨p,vs,rfl,pP o.sb t,by rw[r.len,Qg e],WT o r e h⟩
 | _=>cases e
noncomputable def pB(b:FB)(g:FS):List D->List Sl->Rz Fl
 | [],ρ=>.ok (.nx ρ)
 | d::ds,ρ=>match b d ρ with
  | none=>.st
  | some ρ1=>(g ρ1).bind fun f=>match f with
   | .nx ρ2=>pB b g ds ρ2
   | .ct ρ2=>pB b g ds ρ2
   | .bk ρ2=>.ok (.nx ρ2)
   | .ret d r=>.ok (.ret d r)
noncomputable def qR(f:FI)(b:FB)(g:FS):FS:=fun ρ=>(f ρ).bind fun ds=>pB b g ds ρ
theorem yU{ti:TI}{fi:FI}{tg:TG}{b:FB}{tb:TS}{g:FS}(hi:DI G true ti fi)(hb:DB G tg b)(hg:DS G tb g):DS G (qCI ti tg tb) (qR fi b g):=by
 intro B H ρ σ D o h;unfold qR at h;refine hi B H ρ σ _ o ?_
 cases e:fi ρ with
 | st=>rw[e]at h;exact h
 | ex=>rw[e]at h;exact h
 | ok ds=>
 rw[e]at h;have h1:wu G B D (pB b g ds ρ):=h;intro J B1 H1 o1 x1 src;have qAG:Src G.K B1 B1 J ds:=src
 let Pv:Nat->St->Hp->Prop:=fun i σ' H'=>∃ B2 ρ2,Own G B2 H' ρ2 σ'/\Ea G B1 B2/\wu G B D (pB b g (ds.drop i) ρ2)
 have x0:Ea G B B1:=x1.s o;have p0:Pv 0 σ H1:=⟨B1,ρ,o1,Ea.refl _ _,h1⟩
 have pend:∀ σ' H',Pv ds.length σ' H'->D.nx σ' H':=fun σ' H' ⟨B2,ρ2,o2,y2,q2⟩=>by
  rw[List.drop_length]at q2;exact q2 σ' B2 H' o2 (x0.trans y2)
 have step:∀(i:Nat)(d:DL.D)(v:V)(σ':St)(H':Hp),ds[i]? = some d->Pv i σ' H'->(∀ B2,bB B1 B2->Rp G.K B2 d v)->tg v σ' H' fun σ2 H2=>tb { D with nx:=Pv (i+1),ct:=Pv (i+1),bk:=D.nx } σ2 H2:=fun i d v σ' H' ed ⟨B2,ρ2,o2,y2,q2⟩ rv=>by
  have hlt:=(Fb.mp ed).1
  have ed':ds.drop i=d::ds.drop (i+1):=by
   rw[List.drop_eq_getElem_cons hlt];congr 1;exact (Fb.mp ed).2
  rw[ed',pB]at q2
  cases eb:b d ρ2 with
  | none=>rw[eb]at q2;exact q2.elim
  | some ρ3=>
   rw[eb]at q2;refine hb B2 H' ρ2 σ' d v ρ3 _ o2 (rv B2 y2.sb) eb fun σ3 o3=>hg B2 H' ρ3 σ3 _ o3 ?_
   have q3:wu G B D ((g ρ3).bind fun f=>match f with
    | .nx ρ2=>pB b g (ds.drop (i+1)) ρ2
    | .ct ρ2=>pB b g (ds.drop (i+1)) ρ2
    | .bk ρ2=>.ok (.nx ρ2)
    | .ret d r=>.ok (.ret d r)):=q2
   cases eg:g ρ3 with
   | st=>rw[eg]at q3;exact q3
   | ex=>rw[eg]at q3;exact fun H' a c=>q3 H' a ((x0.trans y2).sb.trans c)
   | ok f=>
    rw[eg]at q3
    cases f with
    | nx ρ4=>exact fun σ4 B4 H4 o4 y4=>⟨B4,ρ4,o4,y2.trans y4,q3⟩
    | ct ρ4=>exact fun σ4 B4 H4 o4 y4=>⟨B4,ρ4,o4,y2.trans y4,q3⟩
    | bk ρ4=>exact fun σ4 B4 H4 o4 y4=>q3 σ4 B4 H4 o4 ((x0.trans y2).trans y4)
    | ret d4 r4=>exact fun v4 B4 H4 a4 b4 y4 z4 r4=>q3 v4 B4 H4 a4 b4 ((x0.trans y2).trans y4) z4 r4
 rcases qAG with ⟨a,xs,rfl,hz,r⟩ | ⟨a,xs,rfl,hz,r⟩ | ⟨lo,n,rfl,rfl⟩ | ⟨z,rfl,rfl⟩
 ·have hl:=r.len;refine Vc Pv p0 (fun i σ' H' _ ⟨B2,ρ2,o2,y2,_⟩=>(y2.sb.trans o2.sb).seq hz) (fun i x σ' H' ex p=>?_) (by rw[hl];exact pend);obtain⟨d,ed,q⟩:=r.at ex;exact step i d x σ' H' ed p fun B2 s2=>q.mono s2
 ·have hl:=r.len;refine YJ Pv p0 (fun i σ' H' _ ⟨B2,ρ2,o2,y2,_⟩=>pP (y2.sb.trans o2.sb) hz) (fun i x σ' H' ex p=>?_) (by rw[hl];exact pend);obtain⟨d,ed,q⟩:=r.at ex;exact step i d x σ' H' ed p fun B2 s2=>q.mono s2
 ·have hl:(rG lo n).length=n:=by unfold rG;rw[jH,List.length_range]
  refine Ru Pv p0 (fun i σ' H' hi p=>?_) (by rw[hl]at pend;exact pend);refine step i (.int (lo+i)) _ σ' H' ?_ p fun _ _=>rfl;unfold rG;rw[uB,qA2 hi];rfl
 ·have hl:(chars z).length=z.cps.size:=by unfold chars;rw[List.length_map];simp
  refine YK Pv p0 (fun i c σ' H' hi p=>?_) (by rw[hl]at pend;exact pend);refine step i (.str ⟨#[c]⟩) _ σ' H' ?_ p fun _ _=>rfl;unfold chars;rw[uB,Array.getElem?_toList,hi];rfl
noncomputable def Sl.cap:Sl->Sl
 | .ow l=>.bo l
 | .ob _ _=>.no
 | s=>s
noncomputable def t7(cG:List (Nat×Str))(ρ:List Sl):List Sl:=cG.map fun p=>((ρ[p.1]?).getD .no).cap
noncomputable def eY(c:FT)(e:FE)(cs:List Sl):List D->Rz (List D)
 | []=>.ok []
 | d::ds=>(c (.fr d::cs)).bind fun b=>if b=true then (e (.fr d::cs)).bind fun w=>w.z.bind fun x=>(eY c e cs ds).bind fun l=>.ok (x::l) else eY c e cs ds
noncomputable def eX(fi:FI)(cG:List (Nat×Str))(c:FT)(e:FE):FE:=fun ρ=>(fi ρ).bind fun ds=>if ds.length<=sizeLine then (eY c e (t7 cG ρ) ds).bind fun l=>.ok (.ow l) else .st
noncomputable def lU:FT:=fun _=>.ok true
theorem pG:DT G qCC lU:=fun B H _ _ _ o h=>h B H o (Ext.refl _ _)
theorem Own.comp{B H:Hp}{ρ:List Sl}{σ:St}(o:Own G B H ρ σ)(cG:List (Nat×Str)){d:D}{v:V}(r:Rp G.K B d v):Own G B H (.fr d::t7 cG ρ) (some v::uH cG σ):=by
 have look:∀(i:Nat)(s:Sl),(t7 cG ρ)[i]? = some s->s≠.no->∃(j:Nat)(s0:Sl),ρ[j]? = some s0/\s=s0.cap/\(uH cG σ)[i]? = some ((σ[j]?).getD none):=fun i s e hs=>by
  unfold t7 at e;unfold uH;rw[uB]at e ⊢
  cases ec:cG[i]? with
  | none=>rw[ec]at e;cases e
  | some p=>
   rw[ec]at e
   cases e
   cases ej:ρ[p.1]? with
   | none=>exact (hs (by show (((ρ[p.1]?).getD .no).cap)=_;rw[ej];rfl)).elim
   | some s0=>exact⟨p.1,s0,ej,by show (((ρ[p.1]?).getD .no).cap)=_;rw[ej];rfl,rfl⟩
 have Np:∀(i:Nat)(s:Sl),((Sl.fr d::t7 cG ρ):List Sl)[i]? = some s->(∀ l,s≠.ow l)/\∀ C fs,s≠.ob C fs:=fun i s e=>by
  cases i with
  | zero=>cases (show some _=some _ from e);exact⟨fun _=>nofun,fun _ _=>nofun⟩
  | succ i=>
   by_cases hs:s = .no
   ·subst hs;exact⟨fun _=>nofun,fun _ _=>nofun⟩
   ·obtain⟨j,s0,e1,e2,e3⟩:=look i _ e hs;subst e2
    cases s0 <;> exact⟨fun _=>nofun,fun _ _=>nofun⟩
 refine⟨o.sb,o.s0,by simp [t7,uH],fun i d' e=>?_,fun i l e=>((Np i _ e).1 l rfl).elim,fun i l e=>?_,fun i C fs e=>((Np i _ e).2 C fs rfl).elim,fun i j a h _=>?_,fun j a C fs _ e=>((Np j _ e).2 C fs rfl).elim⟩
 ·cases i with
  | zero=>cases (show some _=some _ from e);exact⟨v,rfl,r⟩
  | succ i=>
   obtain⟨j,s0,e1,e2,e3⟩:=look i _ e nofun
   cases s0 with
   | fr d0=>
    cases e2
    obtain⟨v',e4,q⟩:=o.fr j d' e1;exact⟨v',by show (uH cG σ)[i]? = _;rw[e3,e4];rfl,q⟩
   | _=>cases e2
 ·cases i with
  | zero=>cases (show some _=some _ from e)
  | succ i=>
   obtain⟨j,s0,e1,e2,e3⟩:=look i _ e nofun
   cases s0 with
   | ow l0=>
    cases e2
    obtain⟨p,vs,e4,q⟩:=o.ow j l e1;exact⟨p,vs,by show (uH cG σ)[i]? = _;rw[e3,e4];rfl,q⟩
   | bo l0=>
    cases e2
    obtain⟨p,vs,e4,q⟩:=o.bo j l e1;exact⟨p,vs,by show (uH cG σ)[i]? = _;rw[e3,e4];rfl,q⟩
   | _=>cases e2
 ·rcases h with ⟨l,e1,_⟩ | ⟨C,fs,a0,dx,bW,e1,_⟩
  ·exact ((Np i _ e1).1 l rfl).elim
  ·exact ((Np i _ e1).2 C fs rfl).elim
theorem gY{ti:TI}{fi:FI}{cG:List (Nat×Str)}{tc:TT}{c:FT}{te:TE}{e:FE}(hi:DI G false ti fi)(hc:DT G tc c)(he:DE G te e):DE G (Tv ti cG tc te) (eX fi cG c e):=by
 intro B H ρ σ Q o h;unfold eX at h;refine hi B H ρ σ _ o ?_
 cases ef:fi ρ with
 | st=>rw[ef]at h;exact h
 | ex=>rw[ef]at h;exact h
 | ok ds=>
 rw[ef]at h;obtain⟨hn,h1⟩:ds.length<=sizeLine/\dH G B H ρ σ Q ((eY c e (t7 cG ρ) ds).bind fun l=>.ok (.ow l)):=dg (P:=dH G B H ρ σ Q) h (fun y=>y);intro J B1 H1 o1 x1 src;have qAG:Src G.K B1 H1 J ds:=src
 let Pv:Nat->List V->Hp->Prop:=fun i acc H'=>∃ B2 l,Own G B2 H' ρ σ/\Ext B1 H1 B2 H'/\fL G.K B2 l acc/\l.length<=i/\dH G B H ρ σ Q ((eY c e (t7 cG ρ) (ds.drop i)).bind fun m=>.ok (.ow (l++m)))
 have p0:Pv 0 [] H1:=⟨B1,[],o1,Ext.refl _ _,rfl,jj _,h1⟩
 have pend:∀ acc H',Pv ds.length acc H'->∀ p,H' p=none->Q (.ref p) (upd H' p (.lst acc)):=fun acc H' ⟨B2,l,o2,y2,r2,_,q2⟩ p hp=>by
  rw[List.drop_length]at q2
  have q3:dH G B H ρ σ Q (.ok (.ow l)):=by
   have:=q2;rw[eY]at this;rw[show l=l++[] from (xF l).symm];exact this
  exact dH.own o2 (q3.on (x1.trans y2)) r2 hp
 have step:∀(i:Nat)(d:D)(v:V)(acc:List V)(H':Hp),ds[i]? = some d->Pv i acc H'->(∀ B2,bB B1 B2->Rp G.K B2 d v) →
   tc (some v::uH cG σ) H' fun b H2=>if b=true then te (some v::uH cG σ) H2 fun x H3=>acc.length<sizeLine/\Pv (i+1) (acc++[x]) H3 else Pv (i+1) acc H2:=fun i d v acc H' ed ⟨B2,l,o2,y2,r2,hl,q2⟩ rv=>by
  have hlt:=(Fb.mp ed).1
  have ed':ds.drop i=d::ds.drop (i+1):=by
   rw[List.drop_eq_getElem_cons hlt];congr 1;exact (Fb.mp ed).2
  rw[ed',eY]at q2;have oc:=o2.comp cG (rv B2 y2.sb);refine hc B2 H' _ _ _ oc ?_
  cases eb:c (.fr d::t7 cG ρ) with
  | st=>rw[eb]at q2;exact q2
  | ex=>rw[eb]at q2;exact fun H' a z=>q2 H' a ((x1.trans y2).sb.trans z)
  | ok b=>
  rw[eb]at q2;intro B3 H3 o3 y3;have o3':=o2.ext y3 o3.sb
  cases b with
  | false=>
   rw[if_neg pK];exact⟨B3,l,o3',y2.trans y3,r2.mono y3.sb,by omega,q2⟩
  | true=>
   rw[if_pos rfl];have q3:dH G B H ρ σ Q (((e (.fr d::t7 cG ρ)).bind fun w=>w.z.bind fun x=>(eY c e (t7 cG ρ) (ds.drop (i+1))).bind fun l=>.ok (x::l)).bind fun m=>.ok (.ow (l++m))):=q2;refine he B3 H3 _ _ _ o3 ?_
   cases ee:e (.fr d::t7 cG ρ) with
   | st=>rw[ee]at q3;exact q3
   | ex=>rw[ee]at q3;exact fun H' a z=>q3 H' a (((x1.trans y2).trans y3).sb.trans z)
   | ok w=>
   rw[ee]at q3;intro x B4 H4 o4 y4 q4
   cases ez:w.z with
   | st=>have q5:=q3;rw[show (Rz.ok w).bind (fun w=>w.z.bind fun x=>(eY c e (t7 cG ρ) (ds.drop (i+1))).bind fun l=>.ok (x::l)) = .st by show w.z.bind _=_;rw[ez];rfl]at q5;exact q5.elim
   | ex=>exact (by cases w <;> cases ez)
   | ok z=>
   obtain⟨B5,o5,y5,r5⟩:=Own.Bd o3 o4 y4 q4 ez;have q5:=q3;rw[show (Rz.ok w).bind (fun w=>w.z.bind fun x=>(eY c e (t7 cG ρ) (ds.drop (i+1))).bind fun l=>Rz.ok (x::l))=((eY c e (t7 cG ρ) (ds.drop (i+1))).bind fun l=>.ok (z::l)) by show w.z.bind _=_;rw[ez];rfl]at q5;refine⟨by rw[r2.len];omega,B5,l++[z],o3'.ext y5 o5.sb,(y2.trans y3).trans y5,(r2.mono (y3.trans y5).sb).app (.one r5),by rw[List.length_append];simp;omega,?_⟩
   cases em:eY c e (t7 cG ρ) (ds.drop (i+1)) with
   | st=>rw[em]at q5;exact q5
   | ex=>rw[em]at q5;exact q5
   | ok m=>
    rw[em]at q5;show dH G B H ρ σ Q (.ok (.ow (l++[z]++m)));rw[List.append_assoc];exact q5
 rcases qAG with ⟨a,xs,rfl,hz,r⟩ | ⟨a,xs,rfl,hz,r⟩ | ⟨lo,n,rfl,rfl⟩ | ⟨z,rfl,rfl⟩
 ·have hl:=r.len;refine yL Pv p0 (fun i acc H' ⟨B2,l,o2,y2,_⟩=>y2.sh.seq hz) (fun i x acc H' ex p=>?_) (by rw[hl];exact pend);obtain⟨d,ed,q⟩:=r.at ex;exact step i d x acc H' ed p fun B2 s2=>q.mono s2
 ·have hl:=r.len;refine W7 Pv p0 (fun i acc H' ⟨B2,l,o2,y2,_⟩=>pP y2.sh hz) (fun i x acc H' ex p=>?_) (by rw[hl];exact pend);obtain⟨d,ed,q⟩:=r.at ex;exact step i d x acc H' ed p fun B2 s2=>q.mono s2
 ·have hl:(rG lo n).length=n:=by unfold rG;rw[jH,List.length_range]
  refine Ot Pv p0 (fun i acc H' hi p=>?_) (by rw[hl]at pend;exact pend);refine step i (.int (lo+i)) _ acc H' ?_ p fun _ _=>rfl;unfold rG;rw[uB,qA2 hi];rfl
 ·have hl:(chars z).length=z.cps.size:=by unfold chars;rw[List.length_map];simp
  refine W8 Pv p0 (fun i c acc H' hi p=>?_) (by rw[hl]at pend;exact pend);refine step i (.str ⟨#[c]⟩) _ acc H' ?_ p fun _ _=>rfl;unfold chars;rw[uB,Array.getElem?_toList,hi];rfl
end
noncomputable def CD(G:Gm)(r:List V->Hp->VK->Prop)(g:List D->Rz W):Prop:=∀ B H ρ σ vs ds Q,Own G B H ρ σ->(∃ ws:List W,ds=ws.map W.d/\M9 G B H ws vs)->dH G B H ρ σ Q (g ds)->r vs H Q
noncomputable def cW(g:List D->Rz W)(a:FA):FE:=fun ρ=>(a ρ).bind fun ws=>g (ws.map W.d)
theorem nu.or{X:Cx}{f:Value}{r r':List V->Hp->VK->Prop}(h:nu X f r)(h':nu X f r'):nu X f (fun xs H Q=>r xs H Q∨r' xs H Q):=by
 intro pins s σ H xs us Q I rx q;exact q.elim (h pins s σ H xs us Q I rx) (h' pins s σ H xs us Q I rx)
noncomputable def bD:List D->Rz W
 | [.lst l]=>.ok (.fr (.int l.length))
 | [.tup l]=>.ok (.fr (.int l.length))
 | [.d8 l]=>.ok (.fr (.int l.length))
 | [.str z]=>if z.length<=sizeLine then .ok (.fr (.int z.length)) else .st
 | _=>.st
noncomputable def Fv(K:cZ):List V->Hp->VK->Prop:=fun xs H Q=>(∃ p ys,xs=[.ref p]/\(jk K H p ys∨rM K H p ys)/\Q (.int ys.length) H) ∨ ∃ z,xs=[.str z]/\z.length<=sizeLine/\Q (.int z.length) H
theorem yf{X:Cx}:nu X (.builtin "len") (Fv X.K):=nu.or zN JM
noncomputable def wA:List D->Rz W
 | [.int i,.int j]=>.ok (.fr (.int (if j>i then j else i)))
 | _=>.st
noncomputable def rW:List D->Rz W
 | [.lst l]=>.ok (.fr (.tup l))
 | [.tup l]=>.ok (.fr (.tup l))
 | _=>.st
noncomputable def bools:List D->Option (List Bool)
 | []=>some []
 | .bl b::l=>(bools l).map (b :: ·)
 | _=>none
noncomputable def Wq(f:List Bool->Bool):List D->Rz W
 | [.lst l]=>match bools l with
  | some bs=>.ok (.fr (.bl (f bs)))
  | none=>.st
 | _=>.st
section
variable{G:Gm}{tr:TA}{fr:FA}
theorem bu{r:List V->Hp->VK->Prop}{g:List D->Rz W}(hg:CD G r g)(ha:DA G tr fr):DE G (tCB r tr) (cW g fr):=by
 intro B H ρ σ Q o h;refine ha.then o (P:=dH G B H ρ σ Q) h (fun z=>z) (fun z=>z) fun ws z vs B1 H1 o1 x1 q1=>?_;exact hg B1 H1 ρ σ vs _ Q o1 ⟨ws,rfl,q1⟩ (z.on x1)
theorem arg1{B H:Hp}(sb:bB B H){d:D}{vs:List V}(h:∃ ws:List W,[d]=ws.map W.d/\M9 G B H ws vs):∃ v,vs=[v]/\Rq G.K B H d v:=by
 obtain⟨ws,e,q⟩:=h
 match ws,e,q with
 | [w],e,⟨v,us,z,q,r⟩=>
  cases e
  cases (show _=_ from r)
  exact⟨v,z,q.rq sb⟩
theorem arg2{B H:Hp}(sb:bB B H){d e:D}{vs:List V}(h:∃ ws:List W,[d,e]=ws.map W.d/\M9 G B H ws vs):∃ v u,vs=[v,u]/\Rq G.K B H d v/\Rq G.K B H e u:=by
 obtain⟨ws,z,q⟩:=h
 match ws,z,q with
 | [w,w'],z,⟨v,us,y,q,u,_,y',q',r⟩=>
  cases z
  cases (show _=_ from r)
  subst y';exact⟨v,u,y,q.rq sb,q'.rq sb⟩
theorem cD:CD G (Fv G.K) bD:=by
 intro B H ρ σ vs ds Q o a h;unfold bD at h
 split at h
 ·obtain⟨v,rfl,p,ws,rfl,hz,r⟩:=arg1 o.sb a;exact .inl ⟨p,ws,rfl,.inl (jk.of hz),dH.now o h (by rw[r.len];exact rfl)⟩
 ·obtain⟨v,rfl,p,ws,rfl,hz,r⟩:=arg1 o.sb a;exact .inl ⟨p,ws,rfl,.inr (pP o.sb hz),dH.now o h (by rw[r.len];exact rfl)⟩
 ·obtain⟨v,rfl,p,rfl,hz⟩:=arg1 o.sb a;exact .inl ⟨p,_,rfl,.inl (o.sb.seq hz),dH.now o h (by rw[jH];exact rfl)⟩
 ·obtain⟨v,rfl,q⟩:=arg1 o.sb a
  cases (show _=_ from q)
  split at h
  ·rename_i e
   exact .inr ⟨_,rfl,e,dH.now o h (by exact rfl)⟩
  ·exact h.elim
 ·exact h.elim
theorem BZ:CD G (fun xs H Q => ∃ i j,xs=[.int i,.int j]/\Q (.int (if j>i then j else i)) H) wA:=by
 intro B H ρ σ vs ds Q o a h;unfold wA at h
 split at h
 ·obtain⟨v,u,rfl,q,q'⟩:=arg2 o.sb a
  cases (show _=_ from q)
  cases (show _=_ from q')
  exact⟨_,_,rfl,dH.now o h (by exact rfl)⟩
 ·exact h.elim
theorem ye:CD G (fun xs H Q => ∃ p ys,xs=[.ref p]/\((jk G.K H p ys/\∀ l,H l=none->Q (.ref l) (upd H l (.tup ys)))∨(rM G.K H p ys/\Q (.ref p) H))) rW:=by
 intro B H ρ σ vs ds Q o a h;unfold rW at h
 split at h
 ·obtain⟨v,rfl,p,ws,rfl,hz,r⟩:=arg1 o.sb a;exact⟨p,ws,rfl,.inl ⟨jk.of hz,fun l hl=>dH.tup o h r hl⟩⟩
 ·obtain⟨v,rfl,p,ws,rfl,hz,r⟩:=arg1 o.sb a;exact⟨p,ws,rfl,.inr ⟨pP o.sb hz,dH.now o h ⟨p,ws,rfl,hz,r⟩⟩⟩
 ·exact h.elim
theorem Ls{K:cZ}{B:Hp}:∀ {l:List D} {bs:List Bool} {vs:List V},bools l=some bs->fL K B l vs->vs=bs.map V.bl
 | [],_,_,e,r=>by cases e;exact r
 | .bl b::l,_,_,e,⟨v,ws,z,q,r⟩=>by
  rw[bools]at e
  cases e2:bools l with
  | none=>rw[e2]at e;cases e
  | some bs=>
   rw[e2]at e
   cases e
   cases (show _=_ from q)
   rw[z,Ls e2 r];rfl
theorem Gk{f:List Bool->Bool}:CD G (fun xs H Q => ∃(p:Addr)(bs:List Bool),xs=[.ref p]/\jk G.K H p (bs.map V.bl)/\Q (.bl (f bs)) H) (Wq f):=by
 intro B H ρ σ vs ds Q o a h;unfold Wq at h
 split at h
 ·obtain⟨v,rfl,p,ws,rfl,hz,r⟩:=arg1 o.sb a
  split at h
  ·rename_i bs e
   rw[Ls e r]at hz;exact⟨p,bs,rfl,jk.of hz,dH.now o h (by exact rfl)⟩
  ·exact h.elim
 ·exact h.elim
end
noncomputable def cutD(l:List D)(lo hi:Option Int):List D:=(l.drop (HT.gb l.length 0 lo)).take (HT.gb l.length l.length hi-HT.gb l.length 0 lo)
noncomputable def slD:D->Option Int->Option Int->Rz W
 | .lst l,lo,hi=>.ok (.ow (cutD l lo hi))
 | .tup l,lo,hi=>.ok (.fr (.tup (cutD l lo hi)))
 | .str z,lo,hi=>if z.length<=sizeLine then .ok (.fr (.str (Txt.slice z lo hi))) else .st
 | _,_,_=>.st
noncomputable def Bv(K:cZ):V->Option Int->Option Int->Hp->VK->Prop:=fun x lo hi H Q=>qCP K x lo hi H Q∨qCQ K x lo hi H Q ∨ ∃ z,x = .str z/\z.length<=sizeLine/\Q (.str (Txt.slice z lo hi)) H
theorem HF{X:Cx}:Te X (Bv X.K):=Te.or XC (Te.or X8 qAI)
noncomputable abbrev FO:=List Sl->Rz (Option Int)
noncomputable def J8:FO:=fun _=>.ok none
noncomputable def jd(f:FE):FO:=fun ρ=>(f ρ).bind fun w=>match w.d with
 | .int i=>.ok (some i)
 | _=>.st
noncomputable def PO1(G:Gm)(B H:Hp)(ρ:List Sl)(σ:St)(Q:Option Int->Hp->Prop):Rz (Option Int)->Prop
 | .ok b => ∀ B' H',Own G B' H' ρ σ->Ext B H B' H'->Q b H'
 | .ex => ∀ H',bB G.H0 H'->bB B H'->G.E (.ref G.C) none H'
 | .st=>False
noncomputable def DO(G:Gm)(t:TO)(f:FO):Prop:=∀ B H ρ σ Q,Own G B H ρ σ->PO1 G B H ρ σ Q (f ρ)->t σ H Q
noncomputable def J7(f:FE)(l h:FO):FE:=fun ρ=>(f ρ).bind fun w=>(l ρ).bind fun lo=>(h ρ).bind fun hi=>slD w.d lo hi
section
variable{G:Gm}{te:TE}{fe:FE}{tl th:TO}{fl fh:FO}
theorem wQ:DO G Pb J8:=fun B H _ _ _ o h=>h B H o (Ext.refl _ _)
theorem mQ(he:DE G te fe):DO G (ZD te) (jd fe):=by
 intro B H ρ σ Q o h;refine he.then o (P:=PO1 G B H ρ σ Q) h (fun z=>z) (fun z=>z) fun w z v B1 H1 o1 x1 q1=>?_;have q:=q1.rq o1.sb
 cases e:w.d with
 | int i=>
  rw[e]at z q;exact⟨i,q,z B1 H1 o1 x1⟩
 | _=>rw[e]at z;exact z.elim
theorem DO.then{t:TO}{f:FO}(h:DO G t f){B H:Hp}{ρ:List Sl}{σ:St}(o:Own G B H ρ σ){Q:Option Int->Hp->Prop}{β:Type}{k:Option Int->Rz β}{P:Rz β->Prop}(hp:P ((f ρ).bind k))(hx:P .ex->∀ H',bB G.H0 H'->bB B H'->G.E (.ref G.C) none H')(hs:P .st->False)
  (q:∀ b,P (k b)->∀ B' H',Own G B' H' ρ σ->Ext B H B' H'->Q b H'):t σ H Q:=by
 refine h B H ρ σ Q o ?_
 cases e:f ρ with
 | ok w=>rw[e]at hp;exact q w hp
 | ex=>rw[e]at hp;exact hx hp
 | st=>rw[e]at hp;exact (hs hp).elim
theorem W6{K:cZ}{B:Hp}{l:List D}{vs:List V}(r:fL K B l vs)(lo hi:Option Int):fL K B (cutD l lo hi) (JH vs lo hi):=by
 unfold cutD JH;rw[r.len];exact (r.drop _).take _
theorem Yo{l:List D}{lo hi:Option Int}(h:HT.gb l.length 0 lo=0/\HT.gb l.length l.length hi=l.length):cutD l lo hi=l:=by
 unfold cutD;rw[h.1,h.2];simp
theorem jg(he:DE G te fe)(hl:DO G tl fl)(hh:DO G th fh):DE G (tSl (Bv G.K) te tl th) (J7 fe fl fh):=by
 intro B H ρ σ Q o h;refine he.then o (P:=dH G B H ρ σ Q) h (fun z=>z) (fun z=>z) fun w z v B1 H1 o1 x1 q1=>?_;refine hl.then o1 (P:=dH G B H ρ σ Q) z (fun y H' a b=>y H' a (x1.sb.trans b)) (fun y=>y) fun lo z2 B2 H2 o2 x2=>?_;refine hh.then o2 (P:=dH G B H ρ σ Q) z2 (fun y H' a b=>y H' a ((x1.trans x2).sb.trans b)) (fun y=>y) fun hi z3 B3 H3 o3 x3=>?_;have q:=(q1.hr.mono (x2.trans x3).sb (x2.trans x3).sh).rq o3.sb;have z4:=z3.on ((x1.trans x2).trans x3);unfold slD at z4
 split at z4
 ·rename_i l lo hi e
  rw[e]at q;obtain⟨p,vs,rfl,hz,r⟩:=q;exact .inl ⟨p,vs,rfl,jk.of hz,fun a ha=>dH.own o3 z4 (W6 r _ _) ha⟩
 ·rename_i l lo hi e
  rw[e]at q;obtain⟨p,vs,rfl,hz,r⟩:=q;refine .inr (.inl ⟨p,vs,rfl,pP o3.sb hz,fun hw=>?_,fun _ a ha=>dH.tup o3 z4 (W6 r _ _) ha⟩);rw[r.len]at hw;rw[Yo hw]at z4;exact dH.now o3 z4 ⟨p,vs,rfl,hz,r⟩
 ·rename_i z lo hi e
  rw[e]at q
  split at z4
  ·rename_i e2
   exact .inr (.inr ⟨_,q,e2,dH.now o3 z4 (by exact rfl)⟩)
  ·exact z4.elim
 ·exact z4.elim
end
noncomputable def Sl.nb:Sl->Bool
 | .bo _=>false
 | _=>true
noncomputable def HY(i:Nat)(f:FE):FS:=fun ρ=>match ρ[i]? with
 | some (.ow l)=>(f ρ).bind fun w=>w.z.bind fun d=>if l.length<sizeLine/\ρ.all Sl.nb=true then .ok (.nx (ρ.set i (.ow (l++[d])))) else .st
 | _=>.st
noncomputable def M8(i:Nat)(ρ:List Sl):List Sl:=match ρ[i]? with
 | some (.ow l)=>ρ.set i (.fr (.lst l))
 | _=>ρ
noncomputable def aR(i:Nat)(f:FE):FS:=fun ρ=>(f ρ).bind fun w=>w.z.bind fun d=>.ok (.nx (ρ.set i (.fr d)))
section
variable{G:Gm}{ta:TE}{fa:FE}{t:TS}{g:FS}
theorem oaP{H:Hp}{ρ:List Sl}{σ:St}{i:Nat}{l l':List D}{p:Addr}{u:HO}(hp:∀ C dx fs,u≠.ins C dx fs)(hu:∀ C dx fs,H p≠some (.ins C dx fs))(e:ρ[i]? = some (Sl.ow l)){j:Nat}{a:Addr}(h:Oa (upd H p u) (ρ.set i (.ow l')) σ j a):Oa H ρ σ j a:=by
 have hi:i<ρ.length:=(Fb.mp e).1;rcases h with ⟨m,e1,e2⟩ | ⟨C,fs,a0,dx,bW,e1,e2,e3,e4⟩
 ·by_cases y:j=i
  ·subst y;exact .inl ⟨l,e,e2⟩
  ·rw[List.getElem?_set_ne (Ne.symm y)]at e1;exact .inl ⟨m,e1,e2⟩
 ·by_cases y:j=i
  ·subst y;rw[List.getElem?_set_self hi]at e1;cases e1
  ·rw[List.getElem?_set_ne (Ne.symm y)]at e1
   by_cases z:a0=p
   ·subst z;rw[zC]at e3;cases e3;exact (hp _ _ _ rfl).elim
   ·rw[zQ z]at e3;exact .inr ⟨C,fs,a0,dx,bW,e1,e2,e3,e4⟩
theorem nZ.away{B H:Hp}{p:Addr}{u:HO}:∀ {fs:List (Str×Fm)} {bW:List (Str×V)},nZ G B H fs bW->p∉adr fs bW->nZ G B (upd H p u) fs bW
 | [],_,h,_=>h
 | (_,.va _)::_,_,⟨v,ws,e,q,r⟩,n=>by
  subst e;refine⟨v,ws,rfl,q,nZ.away r fun z=>n ?_⟩
  cases v <;> exact z
 | (_,.li _)::_,_,⟨q,ws,vs,e,h,n,n0,r0,r⟩,np=>by
  subst e;have:q≠p:=fun z=>np (by subst z;exact Aa);exact⟨q,ws,vs,rfl,by rw[zQ this];exact h,n,n0,r0,nZ.away r fun z=>np (wy _ z)⟩
theorem Ob.away{B H:Hp}{C a p:Addr}{fs:List (Str×Fm)}{u:HO}(h:Ob G B H C fs a)(n:∀ dx bW,H a=some (.ins C dx bW)->p≠a/\p∉adr fs bW):Ob G B (upd H p u) C fs a:=by
 obtain⟨dx,bW,e,n1,n2,r,d⟩:=h;obtain⟨z1,z2⟩:=n dx bW e;exact⟨dx,bW,by rw[zQ (Ne.symm z1)];exact e,n1,n2,r.away z2,d⟩
theorem Own.chg{B H:Hp}{ρ:List Sl}{σ:St}(o:Own G B H ρ σ){i:Nat}{l l':List D}{p:Addr}{vs:List V}(e:ρ[i]? = some (Sl.ow l))(ep:σ[i]? = some (some (V.ref p)))(nb:ρ.all Sl.nb=true)(r:fL G.K B l' vs):Own G B (upd H p (.lst vs)) (ρ.set i (.ow l')) σ:=by
 obtain⟨p',us,e1,e2,e3,e4,_⟩:=o.ow i l e;rw[ep]at e1
 cases e1
 have hi:i<ρ.length:=(Fb.mp e).1;have oi:Oa H ρ σ i p:=.inl ⟨l,e,ep⟩;refine⟨fun a u z=>?_,fun a u z=>?_,by rw[List.length_set];exact o.len,fun j d z=>?_,fun j m z=>?_,fun j m z=>?_,fun j C fs z=>?_,fun j k a z1 z2=>o.ap j k a (oaP (u:=.lst vs) (fun _ _ _=>nofun) (fun _ _ _ z=>by rw[e2]at z;cases z) e z1) (oaP (u:=.lst vs) (fun _ _ _=>nofun) (fun _ _ _ z=>by rw[e2]at z;cases z) e z2),fun j a C fs hg z=>?_⟩
 ·rw[zQ fun y=>by subst y;rw[e3]at z;cases z];exact o.sb _ _ z
 ·rw[zQ fun y=>by subst y;rw[e4]at z;cases z];exact o.s0 _ _ z
 ·by_cases y:j=i
  ·subst y;rw[List.getElem?_set_self hi]at z;cases z
  ·rw[List.getElem?_set_ne (Ne.symm y)]at z;exact o.fr j d z
 ·by_cases y:j=i
  ·subst y;rw[List.getElem?_set_self hi]at z
   cases z
   exact⟨p,vs,ep,zC,e3,e4,r⟩
  ·rw[List.getElem?_set_ne (Ne.symm y)]at z;obtain⟨q,ws,f1,f2,f3⟩:=o.ow j m z
   have:q≠p:=fun x=>by subst x;exact y (o.ap j i q (.inl ⟨m,z,f1⟩) oi)
   exact⟨q,ws,f1,by rw[zQ this];exact f2,f3⟩
 ·by_cases y:j=i
  ·subst y;rw[List.getElem?_set_self hi]at z;cases z
  ·rw[List.getElem?_set_ne (Ne.symm y)]at z;have:=List.all_eq_true.mp nb _ (zw6 z)
   cases this
 ·by_cases y:j=i
  ·subst y;rw[List.getElem?_set_self hi]at z;cases z
  ·rw[List.getElem?_set_ne (Ne.symm y)]at z;obtain⟨a,f1,f2⟩:=o.ob j C fs z;refine⟨a,f1,f2.away fun dx bW f3=>⟨fun x=>?_,fun x=>?_⟩⟩
   ·subst x;exact y (o.ap j i p (.inr ⟨C,fs,p,dx,bW,z,f1,f3,.inl rfl⟩) oi)
   ·exact y (o.ap j i p (.inr ⟨C,fs,a,dx,bW,z,f1,f3,.inr x⟩) oi)
 ·by_cases y:j=i
  ·subst y;rw[List.getElem?_set_self hi]at z;cases z
  ·rw[List.getElem?_set_ne (Ne.symm y)]at z;exact o.sf j a C fs hg z
theorem Oi{i:Nat}(ha:DE G ta fa):DS G (Pg (tBM G.K "list" kZ (Gy i) (uJ ta xG))) (HY i fa):=by
 intro B H ρ σ D o h;unfold HY at h
 split at h
 ·rename_i l e
  obtain⟨p,vs,e1,e2,e3,e4,r⟩:=o.ow i l e;refine⟨.ref p,e1,.inl ⟨rfl,vs,jk.of e2⟩,?_⟩;refine ha.then o (P:=wu G B D) h (fun z=>z) (fun z=>z) fun w z v B1 H1 o1 x1 q1=>?_
  cases ez:w.z with
  | st=>rw[ez]at z;exact z.elim
  | ex=>exact (by cases w <;> cases ez)
  | ok d=>
  rw[ez]at z;obtain⟨⟨hl,nb⟩,z2⟩:=dg (P:=wu G B D) z (fun y=>y);obtain⟨B2,o2,x2,rd⟩:=Own.Bd o o1 x1 q1 ez;refine⟨p,vs,v,rfl,rfl,x2.sh _ _ e2,by rw[r.len];exact hl,?_⟩;exact z2 σ B2 _ (o2.chg e e1 nb ((r.mono x2.sb).app (.one rd))) (x2.s o)
 ·exact h.elim
theorem ak{i:Nat}(ha:DE G ta fa):DS G (Tz ta (zu i)) (aR i fa):=by
 intro B H ρ σ D o h;refine ha.then o (P:=wu G B D) h (fun z=>z) (fun z=>z) fun w z v B1 H1 o1 x1 q1=>?_
 cases ez:w.z with
 | st=>rw[ez]at z;exact z.elim
 | ex=>exact (by cases w <;> cases ez)
 | ok d=>
 rw[ez]at z;obtain⟨B2,o2,x2,rd⟩:=Own.Bd o o1 x1 q1 ez;exact z _ B2 H1 (o2.bind rd i) (x2.s o)
end
end DL
namespace L2
open PySem
noncomputable def qGB(M:Model)(Γ:Ctx)(p:Pos)(t:Sem Fin)(fs:List Frame)(s:Shared)(e:End)(s':Shared):Prop:=match fs with
 | F::fs => ∃ e1 s1,Runs M (Γ.over (F::fs)) p t [] s e1 s1/\(match e1 with
  | .ret r=>(match F with
   | .ret k _ _ _ c₁ p₁ _=>Runs M (Γ.goto c₁) p₁ (k r) fs s1 e s'
   | .gen g k _ c₁ p₁=>Runs M (Γ.goto c₁) p₁ (k (End.ret r).result) fs (s1.setGen g .finished) e s')
  | .susp v g₀ l₀ k₀ c₀ p₀ fs₀=>(match splitAtGen (F::fs) with
   | none=>e = .susp v g₀ l₀ k₀ c₀ p₀ (fs₀++F::fs)/\s'=s1
   | some (pre,(g,k,c₁,p₁),rest)=>Runs M (Γ.goto c₁) p₁ (k (.yielded v)) rest (s1.setGen g (End.susp v g₀ l₀ k₀ c₀ p₀ (fs₀++pre)).genState) e s'))
 | []=>match t with
  | .pure (.done f)=>e = .ret (.ok f)/\s'=s
  | .pure (.again c)=>Runs M (Γ.goto c) p (M.den c) [] s e s'
  | .raise x=>e = .ret (.error x)/\s'=s
  | .rule _ k=>Runs M Γ p (k ()) [] s e s'
  | .at p' k=>Runs M Γ p' (k ()) [] s e s'
  | .load a _ k => ∃ o,s.heap.get? a=some o/\Runs M Γ p (k o) [] s e s'
  | .update a _ f k=>Runs M Γ p (k ()) [] { s with heap:=s.heap.update a f } e s'
  | .loadIfAlive a k=>Runs M Γ p (k (s.heap.get? a)) [] s e s'
  | .point _ k=>Runs M Γ p (k ()) [] s e s'
  | .alloc o k=>Runs M Γ p (k s.heap.objs.size) [] { s with heap:=s.heap.push o } e s'
  | .fresh k=>Runs M Γ p (k s.toks) [] { s with toks:=s.toks+1 } e s'
  | .ask k=>Runs M Γ p (k { program:=M.prog,params:=M.w.params }) [] s e s'
  | .choose src n k=>Runs M Γ p (k (M.w.draws src (s.drawn.get src)%n)) [] { s with drawn:=s.drawn.bump src } e s'
  | .os q _ k=>Runs M Γ p (k (Os.step s.os q).snd) [] { s with os:=(Os.step s.os q).fst } e s'
  | .handled own k=>Runs M Γ p (k (if own=true then Γ.own else Γ.handled)) [] s e s'
  | .genState g k => ∃ st,s.gens[g]? = some st/\Runs M Γ p (k st.seen) [] s e s'
  | .stack k=>Runs M Γ p (k ((Γ.code,p)::Γ.below)) [] s e s'
  | .thread k=>Runs M Γ p (k 0) [] s e s'
  | .newGen c k=>Runs M Γ p (k s.gens.size) [] { s with gens:=s.gens.push (.fresh c) } e s'
  | .call c h g l k => ∃ e1 s1,Runs M (Γ.enter c h p) p (M.den c) [] s e1 s1/\(match e1 with
   | .ret r=>Runs M Γ p (k r) [] s1 e s'
   | .susp v g₀ l₀ k₀ c₀ p₀ fs=>e = .susp v g₀ l₀ k₀ c₀ p₀ (fs++[Frame.ret k h g l Γ.code p []])/\s'=s1)
  | .yield v g l k=>e = .susp v g l k Γ.code p []/\s'=s
  | .resume g r _ k => ∃ st,s.gens[g]? = some st/\(match st with
   | .fresh c=>(match r with
    | .send v=>(v = .none/\∃ e1 s1,Runs M (Γ.wake c p) p (M.den c) [] (s.setGen g .running) e1 s1/\Runs M Γ p (k e1.result) [] (s1.setGen g e1.genState) e s')∨(v≠.none/\Runs M Γ p (k .justStarted) [] s e s')
    | .throw x=>Runs M Γ p (k (.raised x)) [] (s.setGen g .finished) e s')
   | .suspended k₀ _ c₀ p₀ fs _ => ∃ e1 s1,Runs M (Γ.wake c₀ p) p₀ (k₀ r) fs (s.setGen g .running) e1 s1/\Runs M Γ p (k e1.result) [] (s1.setGen g e1.genState) e s'
   | .running=>Runs M Γ p (k .running) [] s e s'
   | .finished=>Runs M Γ p (k .finished) [] s e s')
  | _=>True
theorem bL{M:Model}{Γ:Ctx}{p:Pos}{t:Sem Fin}{fs:List Frame}{s s':Shared}{e:End}(h:Runs M Γ p t fs s e s'):qGB M Γ p t fs s e s':=by
 cases h with
 | done=>exact⟨rfl,rfl⟩
 | raise=>exact⟨rfl,rfl⟩
 | again _ h=>exact h
 | load h1 h2=>exact⟨_,h1,h2⟩
 | update _ h=>exact h
 | choose _ h=>exact h
 | genState h1 h2=>exact⟨_,h1,h2⟩
 | call h1 h2=>exact⟨_,_,h1,h2⟩
 | callSusp h1=>exact⟨_,_,h1,rfl,rfl⟩
 | yield=>exact⟨rfl,rfl⟩
 | resumeFresh h1 h2 _ h4=>exact⟨_,h1,.inl ⟨rfl,_,_,h2,h4⟩⟩
 | resumeSuspended h1 h2 _ h4=>exact⟨_,h1,_,_,h2,h4⟩
 | resumeJustStarted h1 h2 h3=>exact⟨_,h1,.inr ⟨h2,h3⟩⟩
 | resumeThrowFresh h1 h2=>exact⟨_,h1,h2⟩
 | resumeRunning h1 h2=>exact⟨_,h1,h2⟩
 | resumeFinished h1 h2=>exact⟨_,h1,h2⟩
 | segRet h1 h2=>exact⟨_,_,h1,h2⟩
 | segGen h1 h2=>exact⟨_,_,h1,h2⟩
 | segSuspOut h1 h2=>
  refine⟨_,_,h2,?_⟩;show (match splitAtGen _ with | none=>_ | some (pre,(g,k,c₁,p₁),rest)=>_);rw[h1];exact⟨rfl,rfl⟩
 | segSuspGen h1 h2 _ h4=>
  refine⟨_,_,h2,?_⟩;show (match splitAtGen _ with | none=>_ | some (pre,(g,k,c₁,p₁),rest)=>_);rw[h1];exact h4
 | rule h=>exact h
 | «at» h=>exact h
 | loadIfAlive h=>exact h
 | point h=>exact h
 | alloc h=>exact h
 | fresh h=>exact h
 | ask h=>exact h
 | os h=>exact h
 | handled h=>exact h
 | stack h=>exact h
 | thread h=>exact h
 | newGen h=>exact h
theorem Bo{M:Model}{Γ:Ctx}{p:Pos}{t:Sem Fin}{fs:List Frame}{s s':Shared}{e:End}(h:Runs M Γ p t fs s e s') :
  ∀ {e2:End} {s2:Shared},Runs M Γ p t fs s e2 s2->e=e2/\s'=s2:=by
 induction h with
 | done=>intro e2 s2 h2;obtain⟨rfl,rfl⟩:=bL h2;exact⟨rfl,rfl⟩
 | raise=>intro e2 s2 h2;obtain⟨rfl,rfl⟩:=bL h2;exact⟨rfl,rfl⟩
 | again _ _ ih=>intro e2 s2 h2;exact ih (bL h2)
 | load h1 _ ih=>
  intro e2 s2 h2;obtain⟨o,ho,h⟩:=bL h2
  cases h1.symm.trans ho
  exact ih h
 | update _ _ ih=>intro e2 s2 h2;exact ih (bL h2)
 | choose _ _ ih=>intro e2 s2 h2;exact ih (bL h2)
 | genState h1 _ ih=>
  intro e2 s2 h2;obtain⟨o,ho,h⟩:=bL h2
  cases h1.symm.trans ho
  exact ih h
 | call _ _ ih1 ih2=>
  intro e2 s2 h2;obtain⟨e1,s1,h,h'⟩:=bL h2;obtain⟨rfl,rfl⟩:=ih1 h;exact ih2 h'
 | callSusp _ ih=>
  intro e2 s2 h2;obtain⟨e1,s1,h,h'⟩:=bL h2;obtain⟨rfl,rfl⟩:=ih h;exact⟨h'.1.symm,h'.2.symm⟩
 | yield=>intro e2 s2 h2;obtain⟨rfl,rfl⟩:=bL h2;exact⟨rfl,rfl⟩
 | resumeFresh h1 _ _ _ ih1 ih2=>
  intro e2 s2 h2;obtain⟨st,ho,h⟩:=bL h2
  cases h1.symm.trans ho
  rcases h with ⟨_,e1,s1,h,h'⟩ | ⟨z,_⟩
  ·obtain⟨rfl,rfl⟩:=ih1 h;exact ih2 h'
  ·exact absurd rfl z
 | resumeSuspended h1 _ _ _ ih1 ih2=>
  intro e2 s2 h2;obtain⟨st,ho,h⟩:=bL h2
  cases h1.symm.trans ho
  obtain⟨e1,s1,h,h'⟩:=h;obtain⟨rfl,rfl⟩:=ih1 h;exact ih2 h'
 | resumeJustStarted h1 nz _ ih=>
  intro e2 s2 h2;obtain⟨st,ho,h⟩:=bL h2
  cases h1.symm.trans ho
  rcases h with ⟨z,_⟩ | ⟨_,h⟩
  ·exact absurd z nz
  ·exact ih h
 | resumeThrowFresh h1 _ ih=>
  intro e2 s2 h2;obtain⟨st,ho,h⟩:=bL h2
  cases h1.symm.trans ho
  exact ih h
 | resumeRunning h1 _ ih=>
  intro e2 s2 h2;obtain⟨st,ho,h⟩:=bL h2
  cases h1.symm.trans ho
  exact ih h
 | resumeFinished h1 _ ih=>
  intro e2 s2 h2;obtain⟨st,ho,h⟩:=bL h2
  cases h1.symm.trans ho
  exact ih h
 | segRet _ _ ih1 ih2=>
  intro e2 s2 h2;obtain⟨e1,s1,h,h'⟩:=bL h2;obtain⟨rfl,rfl⟩:=ih1 h;exact ih2 h'
 | segGen _ _ ih1 ih2=>
  intro e2 s2 h2;obtain⟨e1,s1,h,h'⟩:=bL h2;obtain⟨rfl,rfl⟩:=ih1 h;exact ih2 h'
 | segSuspOut hs _ ih=>
  intro e2 s2 h2;obtain⟨e1,s1,h,h'⟩:=bL h2;obtain⟨rfl,rfl⟩:=ih h;simp only[hs]at h';exact⟨h'.1.symm,h'.2.symm⟩
 | segSuspGen hs _ _ _ ih1 ih2=>
  intro e2 s2 h2;obtain⟨e1,s1,h,h'⟩:=bL h2;obtain⟨rfl,rfl⟩:=ih1 h;simp only[hs]at h';exact ih2 h'
 | rule _ ih=>intro e2 s2 h2;exact ih (bL h2)
 | «at» _ ih=>intro e2 s2 h2;exact ih (bL h2)
 | loadIfAlive _ ih=>intro e2 s2 h2;exact ih (bL h2)
 | point _ ih=>intro e2 s2 h2;exact ih (bL h2)
 | alloc _ ih=>intro e2 s2 h2;exact ih (bL h2)
 | fresh _ ih=>intro e2 s2 h2;exact ih (bL h2)
 | ask _ ih=>intro e2 s2 h2;exact ih (bL h2)
 | os _ ih=>intro e2 s2 h2;exact ih (bL h2)
 | handled _ ih=>intro e2 s2 h2;exact ih (bL h2)
 | stack _ ih=>intro e2 s2 h2;exact ih (bL h2)
 | thread _ ih=>intro e2 s2 h2;exact ih (bL h2)
 | newGen _ ih=>intro e2 s2 h2;exact ih (bL h2)
theorem qA7{α:Type}(M:Model)(Γ:Ctx)(t:Sem α):∀(Q Q':α->Pos->Shared->Prop)(E E':Value->Pos->Shared->Prop)(p:Pos)(s:Shared),Sem.wp M Γ t Q E p s->Sem.wp M Γ t Q' E' p s →
  Sem.wp M Γ t (fun a p' s'=>Q a p' s'/\Q' a p' s') (fun e p' s'=>E e p' s'/\E' e p' s') p s:=by
 induction t with
 | pure a=>intro Q Q' E E' p s h h';exact⟨h,h'⟩
 | raise e=>intro Q Q' E E' p s h h';exact⟨h,h'⟩
 | load a _ k ih=>intro Q Q' E E' p s h h';obtain⟨o,ho,h⟩:=h;obtain⟨o',ho',h'⟩:=h';cases ho.symm.trans ho';exact⟨o,ho,ih o _ _ _ _ p s h h'⟩
 | update a _ f k ih=>intro Q Q' E E' p s h h';exact⟨h.1,ih () _ _ _ _ p _ h.2 h'.2⟩
 | choose src m k ih=>intro Q Q' E E' p s h h';exact⟨h.1,ih _ _ _ _ _ p _ h.2 h'.2⟩
 | call c hd g l k ih=>
  intro Q Q' E E' p s h h';obtain⟨r,s1,x,h⟩:=h;obtain⟨r',s1',x',h'⟩:=h';obtain⟨q1,q2⟩:=Bo x x'
  cases q1;cases q2
  exact⟨r,s1,x,ih _ _ _ _ _ p _ h h'⟩
 | genState g k ih=>intro Q Q' E E' p s h h';obtain⟨o,ho,h⟩:=h;obtain⟨o',ho',h'⟩:=h';cases ho.symm.trans ho';exact⟨o,ho,ih _ _ _ _ _ p s h h'⟩
 | resume g r l k ih=>
  intro Q Q' E E' p s h h';obtain⟨r1,s1,x,h⟩:=h;obtain⟨r',s1',x',h'⟩:=h'
  have q:r1=r'/\s1=s1':=by
   unfold Wakes at x x';revert x x';generalize s.gens[g]? = gg;intro x x'
   cases gg with
   | none=>exact x.elim
   | some st=>
    cases st with
    | fresh c=>
     cases r with
     | throw y=>exact⟨x.1.trans x'.1.symm,x.2.trans x'.2.symm⟩
     | send v=>
      cases v with
      | none=>
       obtain⟨e1,t1,y1,_,rfl,rfl⟩:=x;obtain⟨e2,t2,y2,_,rfl,rfl⟩:=x';obtain⟨rfl,rfl⟩:=Bo y1 y2;exact⟨rfl,rfl⟩
      | _=>exact⟨x.1.trans x'.1.symm,x.2.trans x'.2.symm⟩
    | suspended=>
     obtain⟨e1,t1,y1,_,rfl,rfl⟩:=x;obtain⟨e2,t2,y2,_,rfl,rfl⟩:=x';obtain⟨rfl,rfl⟩:=Bo y1 y2;exact⟨rfl,rfl⟩
    | running=>exact⟨x.1.trans x'.1.symm,x.2.trans x'.2.symm⟩
    | finished=>exact⟨x.1.trans x'.1.symm,x.2.trans x'.2.symm⟩
  obtain⟨rfl,rfl⟩:=q;exact⟨_,_,x,ih _ _ _ _ _ p _ h h'⟩
 | _=>intros;first | assumption | (rename_i ih _ _ _ _ _ _ h h';exact ih _ _ _ _ _ _ _ h h')
theorem Ma{α:Type}{M:Model}{A:Around}{t:Sem α}{Q Q':α->Shared->Prop}{E E':Value->Shared->Prop}{s:Shared}(h:wpAny M A t Q E s)(h':wpAny M A t Q' E' s) :
  wpAny M A t (fun a s'=>Q a s'/\Q' a s') (fun e s'=>E e s'/\E' e s') s:=fun Γ p hΓ=>qA7 M Γ t _ _ _ _ p s (h Γ p hΓ) (h' Γ p hΓ)
theorem gK{α:Type}{M:Model}{A:Around}{t:Sem α}{Q Q':α->Shared->Prop}{E:Value->Shared->Prop}{s:Shared}(h:wpAny M A t Q E s)(h':wpAny M A t Q' E s):wpAny M A t (fun a s'=>Q a s'/\Q' a s') E s:=
 wpAny_mono (Ma h h') (fun _ _ z=>z) fun _ _ z=>z.1
end L2
namespace L2
open PySem PySem.Spec PyProof.Rows
noncomputable def Zu(ob:Obj):Prop:=∃ vs,ob.data = .fields vs/\vs[2]? = some .none
noncomputable def DictAt(h:Heap)(e:Addr)(dd:Option Addr):Prop:=∃ ob,h.get? e=some ob/\ob.dict=dd/\(dd=none->Zu ob)
theorem Vv(o:Obj)(f:Array Value->Array Value):(o.mapFields f).dict=o.dict:=by
 obtain⟨c,d,dt,sl⟩:=o
 cases dt <;> rfl
theorem DictAt.upd{h:Heap}{a e:Addr}{f:Array Value->Array Value}{dd:Option Addr}{o:Obj}{vs:Array Value}(x:DictAt h e dd)(ha:h.get? a=some o)(hd:o.data = .fields vs)(hf:∀ ws:Array Value,(f ws)[2]? = ws[2]?:=by intro ws;simp):DictAt (h.update a (Obj.mapFields f)) e dd:=by
 obtain⟨ob,q,r,c⟩:=x
 by_cases z:a=e
 ·subst z;rw[ha]at q
  cases q
  exact⟨_,Heap.get?_update_self _ ha (Obj.isFreed_of_fields (Obj.data_mapFields hd f)),(Vv _ _).trans r,fun y=>let ⟨ws,c1,c2⟩:=c y;⟨_,Obj.data_mapFields c1 f,(hf ws).trans c2⟩⟩
 ·exact⟨ob,(Heap.get?_update_other _ _ z).trans q,r,c⟩
theorem DictAt.push{h:Heap}{e:Addr}{dd:Option Addr}(x:DictAt h e dd)(o:Obj):DictAt (h.push o) e dd:=
 let ⟨ob,q,r⟩:=x;⟨ob,mV _ q,r⟩
section
variable{M:Model}{A:Around}{E:Value->Shared->Prop}{s:Shared}{base:Heap}{env:Env}{outer:List Env}{L e:Addr}{cls a0:Value}{dd:Option Addr}
theorem sY{fl:Value}(ht:s.heap.TracedAtW base e cls a0 fl)(x:DictAt s.heap e dd):wpAny M A (setFlight (.ref e) none) (fun _ s'=>DictAt s'.heap e dd) E s:=by
 obtain⟨oe,vs,T,oT,ts,he,_,hd,h1,_,_,hT,hdT,h3⟩:=ht;unfold setFlight;refine wpAny_bind (wpAny_field he hd h1 ?_);rw[if_pos (show (Value.ref T != Value.none)=true by simp)];exact wpAny_setField hT hdT (Array.getElem?_eq_some_iff.mp h3).1 (x.upd hT hdT)
theorem nR{oe:Obj}{vs:Array Value}{head:Value}{b:Bool}{Q:Unit->Shared->Prop}(hfr:A.frames=some (env::outer))(hl:s.heap.FunFrames base (env::outer))(hf:env.frame=some L)
  (he:s.heap.get? e=some oe) (hd:oe.data = .fields vs) (hsz:1<vs.size) (x:DictAt s.heap e dd)
  (hq:∀(h1:Heap)(T:Addr)(oT:Obj)(ts:Array Value),DictAt h1 e dd->(∃ oe' vs',h1.get? e=some oe'/\oe'.data = .fields vs'/\vs'[1]? = some (.ref T))->h1.get? T=some oT->oT.data = .fields ts->3<ts.size->Q () { s with heap:=h1 }) :
  wpAny M A (do let a ← frameOf env;let pl ← entryPlaceOf L b;let c ← EntryCells.newEntry head a .none (rawInt L) .none pl;setField (.ref e) 1 c) Q E s:=by
 refine wpAny_bind (wpAny_frameOf_fun hfr hl hf fun h1 hs=>?_);refine wpAny_bind (wpAny_entryPlaceOf fun pl hpl=>?_);unfold EntryCells.newEntry newFields;refine wpAny_bind (wpAny_newObj_type ?_ (hpl.sizeOk5 _ _ _ _ _));obtain⟨sl,e1⟩:=hs.2.2 e oe he
 have x1:DictAt h1 e dd:=by
  obtain⟨ob,q,r⟩:=x;rw[he]at q
  cases q
  exact⟨_,e1,r⟩
 have e2:=mV (h:=h1) { cls:=.type "traceback",dict:=none,data:=.fields ([head,.ref L,.none,rawInt L,.none]++(if pl.isEmpty then List.replicate 6 Value.none else pl)).toArray } e1;have hd2:({ oe with slots:=sl }:Obj).data = .fields vs:=hd;have ne:e≠h1.objs.size:=tD (lZ e1);refine wpAny_setField e2 hd2 hsz (hq _ h1.objs.size { cls:=.type "traceback",dict:=none,data:=.fields ([head,.ref L,.none,rawInt L,.none]++(if pl.isEmpty then List.replicate 6 Value.none else pl)).toArray } _ ((x1.push _).upd e2 hd2) ?_ ?_ rfl ?_)
 ·exact⟨_,_,Heap.get?_update_self _ e2 (Obj.isFreed_of_fields (Obj.data_mapFields hd2 _)),Obj.data_mapFields hd2 _,by simp [hsz]⟩
 ·exact (Heap.get?_update_other _ _ ne).trans (wj h1 rfl)
 ·simp only[List.size_toArray,List.length_append,List.length_cons,List.length_nil];omega
theorem Fx(hfr:A.frames=some (env::outer))(hf:env.frame=some L)(hfl:Heap.FlyingW base (env::outer) e cls a0 s.heap)(x:DictAt s.heap e dd):wpAny M A (noteFrame (.ref e) env) (fun _ s'=>DictAt s'.heap e dd) E s:=by
 obtain⟨_,_,hl,oe,vs,T,oT,ts,he,_,hd,h1,_,hTe,hT,hdT,h3⟩:=hfl;unfold noteFrame;simp only[hf];refine wpAny_bind (wpAny_field he hd h1 ?_);rw[if_pos (show (Value.ref T != Value.none)=true by simp)];refine wpAny_bind (wpAny_field hT hdT h3 ?_);rw[if_neg (show ¬ ((Value.none==rawInt L)=true) by simp [rawInt])];refine wpAny_bind (wpAny_setField hT hdT (Array.getElem?_eq_some_iff.mp h3).1 ?_);refine nR hfr (hl.of_keeps fun b o hb hnf=>⟨o,(Heap.get?_update_other _ _ fun z=>?_).trans hb,rfl⟩) hf ((Heap.get?_update_other _ _ hTe).trans he) hd (Array.getElem?_eq_some_iff.mp h1).1 (x.upd hT hdT) fun _ _ _ _ z _ _ _ _=>z;rw[<-z,hT]at hb
 cases hb
 exact hnf ts hdT
theorem Nu(hfr:A.frames=some (env::outer))(hf:env.frame=some L)(hfl:Heap.FlyingW base (env::outer) e cls a0 s.heap)(x:DictAt s.heap e dd):wpAny M A (leaving env (.ref e)) (fun _ s'=>DictAt s'.heap e dd) E s:=by
 unfold leaving;refine wpAny_bind (wpAny_mono (gK (wpAny_looks_onW (Q:=fun _ s'=>Heap.HeldW base (env::outer) e cls a0 L s'.heap) hfr hf hfl fun h' k _=>k) (Fx hfr hf hfl x)) (fun _ s1 z=>?_) fun _ _ z=>z);exact sY z.1.2.2.2 z.2
theorem O5{oe:Obj}{vs:Array Value}(hfr:A.frames=some (env::outer))(hl:s.heap.FunFrames base (env::outer))(hf:env.frame=some L)(he:s.heap.get? e=some oe)(hd:oe.data = .fields vs)(h1:vs[1]? = some .none)
  (x:DictAt s.heap e dd):wpAny M A (leaving env (.ref e)) (fun _ s'=>DictAt s'.heap e dd) E s:=by
 unfold leaving noteFrame;simp only[hf];refine wpAny_bind (wpAny_bind (wpAny_field he hd h1 ?_));rw[if_neg (by decide)];refine nR hfr hl hf he hd (Array.getElem?_eq_some_iff.mp h1).1 x fun h2 T oT ts x2 ⟨oe',vs',q1,q2,q3⟩ q4 q5 q6=>?_;unfold setFlight;refine wpAny_bind (wpAny_field q1 q2 q3 ?_);rw[if_pos (show (Value.ref T != Value.none)=true by simp)];exact wpAny_setField q4 q5 q6 (x2.upd q4 q5)
end
section
variable{M:Model}{A:Around}{E:Value->Shared->Prop}{s:Shared}{base:Heap}{env:Env}{outer l:List Env}{L e:Addr}{cls a0:Value}{dd:Option Addr}{Q:Unit->Shared->Prop}
theorem Nt(hfr:A.frames=some (env::outer))(hf:env.frame=some L)(hfl:Heap.FlyingW base (env::outer) e cls a0 s.heap)(x:DictAt s.heap e dd)
  (hQ:∀ h',Heap.FlyingW base outer e cls a0 h'->s.heap.UpToSlots h'->DictAt h' e dd->Q () { s with heap:=h' }):wpAny M A (leaving env (.ref e)) Q E s:=
 wpAny_mono (gK (wpAny_leaves_onW (Q:=fun _ s'=>∃ h',s' = { s with heap:=h' }/\Heap.FlyingW base outer e cls a0 h'/\s.heap.UpToSlots h') hfr hf hfl fun h' k1 k2=>⟨h',rfl,k1,k2⟩) (Nu hfr hf hfl x))
  (fun _ _ ⟨⟨h',z,k1,k2⟩,k3⟩=>by subst z;exact hQ h' k1 k2 k3) fun _ _ z=>z
theorem GK(hfr:A.frames=some (env::outer))(hf:env.frame=some L)(hfl:Heap.FlyingW base (env::outer) e cls a0 s.heap)(x:DictAt s.heap e dd)
  (hQ:∀ h',Heap.HeldW base (env::outer) e cls a0 L h'->s.heap.UpToSlots h'->DictAt h' e dd->Q () { s with heap:=h' }):wpAny M A (noteFrame (.ref e) env) Q E s:=
 wpAny_mono (gK (wpAny_looks_onW (Q:=fun _ s'=>∃ h',s' = { s with heap:=h' }/\Heap.HeldW base (env::outer) e cls a0 L h'/\s.heap.UpToSlots h') hfr hf hfl fun h' k1 k2=>⟨h',rfl,k1,k2⟩) (Fx hfr hf hfl x))
  (fun _ _ ⟨⟨h',z,k1,k2⟩,k3⟩=>by subst z;exact hQ h' k1 k2 k3) fun _ _ z=>z
theorem Nx(hh:Heap.HeldW base l e cls a0 L s.heap)(x:DictAt s.heap e dd)(hQ:∀ h',Heap.FlyingW base l e cls a0 h'->s.heap.UpToSlots h'->DictAt h' e dd->Q () { s with heap:=h' }):wpAny M A (setFlight (.ref e) none) Q E s:=
 wpAny_mono (gK (wpAny_landsW (Q:=fun _ s'=>∃ h',s' = { s with heap:=h' }/\Heap.FlyingW base l e cls a0 h'/\s.heap.UpToSlots h') hh fun h' k1 k2=>⟨h',rfl,k1,k2⟩) (sY hh.2.2.2 x))
  (fun _ _ ⟨⟨h',z,k1,k2⟩,k3⟩=>by subst z;exact hQ h' k1 k2 k3) fun _ _ z=>z
theorem wC(hh:Heap.FlyingW base l e cls a0 s.heap)(x:DictAt s.heap e dd)(hQ:∀ h',Heap.FlyingW base l e cls a0 h'->s.heap.UpToSlots h'->DictAt h' e dd->Q () { s with heap:=h' }):wpAny M A (setFlight (.ref e) none) Q E s:=
 wpAny_mono (gK (lands_againW (Q:=fun _ s'=>∃ h',s' = { s with heap:=h' }/\Heap.FlyingW base l e cls a0 h'/\s.heap.UpToSlots h') hh fun h' k1 k2=>⟨h',rfl,k1,k2⟩) (sY hh.2.2.2.at x))
  (fun _ _ ⟨⟨h',z,k1,k2⟩,k3⟩=>by subst z;exact hQ h' k1 k2 k3) fun _ _ z=>z
theorem Kf{oe:Obj}{vs:Array Value}(hfr:A.frames=some (env::outer))(hf:env.frame=some L)(hkb:base.StaysIn s.heap)(hl:s.heap.FunFrames base (env::outer))(hb:base.get? e=none)
  (he:s.heap.get? e=some oe) (hd:oe.data = .fields vs) (h1:vs[1]? = some .none) (h0:vs[0]? = some a0) (h2:oe.dict=none->vs[2]? = some .none)
  (hQ:∀ h',Heap.FlyingW base outer e oe.cls a0 h'->s.heap.UpToSlots h'->DictAt h' e oe.dict->Q () { s with heap:=h' }):wpAny M A (leaving env (.ref e)) Q E s:=
 wpAny_mono (gK (wpAny_leaving_firstW (Q:=fun _ s'=>∃ h',s' = { s with heap:=h' }/\Heap.LeftW base (env::outer) e oe.cls a0 s.heap h') hfr hl hf he hkb hb hd h1 h0 fun h' k=>⟨h',rfl,k⟩) (O5 hfr hl hf he hd h1 ⟨oe,he,rfl,fun y=>⟨vs,hd,h2 y⟩⟩))
  (fun _ _ ⟨⟨h',z,k1,⟨_,_,k2⟩,k3,k4⟩,k5⟩=>by subst z;exact hQ h' ⟨k1,hb,k2,k3⟩ k4 k5) fun _ _ z=>z
end
noncomputable def lB(P:Program)(w:World):Ji:=fun outer H s E e s'=>
 ∃(ea:Addr)(cls a0:Value)(H':Hp)(B:Heap),e = .ref ea/\s'.os=s.os/\AllBare s'.gens/\Heap.FlyingW B outer ea cls a0 s'.heap ∧
  qM P w H' s'.heap/\Un (frs outer) [] H H' s.heap s'.heap/\(∀ b,(H' b).isSome=true->∃ o,s'.heap.get? b=some o/\B.get? b=some o) ∧
  (∀ b o,s.heap.get? b=some o->b∉frs outer->∃ o',s'.heap.get? b=some o'/\B.get? b=some o')/\∃ dd,DictAt s'.heap ea dd/\E cls dd H'
section
variable{P:Program}{w:World}{H H':Hp}{h h0 h1 h2 B:Heap}{a:Addr}{o:HO}{fs:List Addr}
theorem gJ.there(x:gJ P w H h a o):∃ ob,h.get? a=some ob:=by
 cases o with
 | lst xs=>obtain⟨_,_,_,_,e⟩:=x;exact⟨_,e⟩
 | tup xs=>obtain⟨_,_,_,ob,e,_⟩:=x;exact⟨ob,e⟩
 | dK kvs=>obtain⟨_,_,_,_,ob,_,_,e,_⟩:=x;exact⟨ob,e⟩
 | dT kvs=>obtain⟨_,_,_,_,ob,_,_,e,_⟩:=x;exact⟨ob,e⟩
 | set S n=>obtain⟨ob,_,_,_,e,_⟩:=x;exact⟨ob,e⟩
 | ins C dx fs=>obtain⟨_,_,_,e,_⟩:=x;exact⟨_,e⟩
 | own y=>exact x
 | xd fs=>obtain⟨_,⟨ob,_,_,e,_⟩,_⟩:=x;exact⟨ob,e⟩
 | rng lo hi=>obtain⟨_,_,_,e⟩:=x;exact⟨_,e⟩
 | M8 ob u=>obtain⟨e,_⟩:=x;exact⟨_,e⟩
 | PX ps=>exact⟨_,x⟩
 | met f y=>exact⟨_,x⟩
 | ext φ=>obtain⟨_,e,_⟩:=x;exact e
theorem qM.flown(hok:qM P w H h)(hB:∀ b,(H b).isSome=true->∃ ob,h.get? b=some ob/\B.get? b=some ob)(st:B.StaysIn h2):qM P w H h2:=fun a o e=>
 (hok a o e).stay (fun b u hb q=>by
  have hs:(H b).isSome=true:=by
   rcases hb with z | z
   ·rw[z,e];rfl
   ·rw[z];rfl
  obtain⟨ob,e1,e2⟩:=hB b hs;rw[q]at e1
  cases e1
  exact st b _ e2) (fun _ q=>q) fun _ _ q=>q
theorem Un.flown(un:Un fs [] H H' h0 h1)(hC:∀ b ob,h0.get? b=some ob->b∉fs->∃ o',h1.get? b=some o'/\B.get? b=some o')(st:B.StaysIn h2)(sl:h1.UpToSlots h2)
  (fr:∀ b∈fs,H b=none/\∃ ob,h0.get? b=some ob/\∀ vs,ob.data≠.fields vs):Un fs [] H H' h0 h2:=by
 have slot:∀ b ob,h0.get? b=some ob->H b=none->b∈fs->∃ sl,h2.get? b=some { ob with slots:=sl }:=fun b ob q n hb=>by
  obtain⟨_,o1,e1,nf⟩:=fr b hb;rw[q]at e1
  cases e1
  obtain⟨s1,e2⟩:=un.slot b ob q n hb (by simp);obtain⟨s2,e3⟩:=sl b _ e2 nf;exact⟨s2,e3⟩
 refine⟨fun b ob q n hb hx=>?_,fun b ob q n hb _=>slot b ob q n hb,fun b ob q n hx=>un.free b ob q n hx,fun b ob q hx=>?_,un.tups,un.sX,un.uC⟩
 ·obtain⟨o',e1,e2⟩:=hC b ob q hb;rw[un.keep b ob q n hb hx]at e1
  cases e1
  exact st b _ e2
 ·by_cases hb:b∈fs
  ·obtain⟨s2,e⟩:=slot b ob q (fr b hb).1 hb;exact⟨_,e⟩
  ·obtain⟨o',_,e2⟩:=hC b ob q hb;exact⟨o',st b _ e2⟩
end
section
variable{P:Program}{w:World}{K:cZ}{mg:Str->Option Value}{base:Heap}{N:List Str}{qual:Str}{scope:Scope}{f:Addr}{cd:Value}{A:Around}{outer:List Env}{s:Shared}{H:Hp}{E E':XK}
theorem DQ{env:Env}{L:Addr}{l:List Env}(h:env.frame=some L):frs (env::l)=L::frs l:=by
 unfold frs;rw[List.filterMap_cons,h]
theorem Inv.frames{X:Cx}{pins:List (Addr×Obj)}{σ:St}{H:Hp}{s:Shared}(I:Inv X pins σ H s):∀ b∈frs X.stack,H b=none/\∃ ob,s.heap.get? b=some ob/\∀ vs,ob.data≠.fields vs:=
 fun b hb=>⟨I.tE b hb,let ⟨_,ob,e,nf⟩:=I.stack.mem hb;⟨ob,e,nf⟩⟩
theorem Inv.xT{X:Cx}{pins:List (Addr×Obj)}{σ:St}{H:Hp}{s:Shared}(I:Inv X pins σ H s):∀ b∈frs X.outer,X.H₀ b=none/\∃ ob,X.s₀.heap.get? b=some ob/\∀ vs,ob.data≠.fields vs:=
 fun b hb=>⟨I.ok.Vb b hb,let ⟨_,ob,e,nf⟩:=I.ok.uG.mem hb;⟨ob,e,nf⟩⟩
theorem eE(hE:∀ c d H,E' c d H->E c d H):Passes (lB P w) (pI (lB P w) P w K mg base N qual scope f cd A outer s H E) E':=by
 intro pins σ H1 s1 e s' I h;obtain⟨ea,cls,a0,H',B,rfl,ho,hg,fl,hok,un,hB,hC,dd,hdd,hq⟩:=h;have nL:∀ b ob,s.heap.get? b=some ob->b≠s.heap.objs.size:=fun b ob q=>tD (lZ q);have J:=I.call' ho un hok hg (fun _ z=>nomatch z);have ub:Un (frs outer) [] H H' s.heap s'.heap:=J.base
 have YD:∀ b ob,s.heap.get? b=some ob->b∉frs outer->∃ o',s'.heap.get? b=some o'/\B.get? b=some o':=fun b ob q hb=>by
  obtain⟨o1,e1⟩:=I.base.there b ob q (by show b∉([]:List Addr);simp);refine hC b o1 e1 fun z=>?_;rw[show frs (pI (lB P w) P w K mg base N qual scope f cd A outer s H E).stack=s.heap.objs.size::frs outer from DQ rfl]at z;exact (jo.mp z).elim (nL b ob q) hb
 show wpAny _ _ (leaving _ (.ref ea)) _ _ s';refine Nt (L:=s.heap.objs.size) I.ok.frames rfl fl hdd fun h' Vf sl dk=>?_;refine⟨ea,cls,a0,H',B,rfl,ho.trans I.os,hg,Vf,hok.flown hB Vf.1,ub.flown YD Vf.1 sl I.xT,fun b hb=>?_,fun b ob q hb=>?_,dd,dk,hE _ _ _ hq⟩
 ·obtain⟨ob,_,e2⟩:=hB b hb;exact⟨ob,Vf.1 b _ e2,e2⟩
 ·obtain⟨o',_,e2⟩:=YD b ob q hb;exact⟨o',Vf.1 b _ e2,e2⟩
noncomputable def del(H:Hp)(e:Addr):Hp:=fun b=>if b=e then none else H b
theorem nW{H:Hp}{e:Addr}:del H e e=none:=if_pos rfl
theorem jf{H:Hp}{e b:Addr}(h:b≠e):del H e b=H b:=if_neg h
theorem Vx{H:Hp}{e:Addr}(h:H e=none):del H e=H:=funext fun b=>by
 by_cases z:b=e
 ·rw[z,nW,h]
 ·exact jf z
noncomputable def Loose(o:Option HO):Prop:=o=none ∨ ∃ φ,o=some (.ext φ)
section
variable{P:Program}{w:World}{H H':Hp}{h h':Heap}{e:Addr}{fs ex:List Addr}
theorem Loose.ne{b:Addr}{o:HO}(l:Loose (H e))(q:H b=some o)(n:∀ φ,o≠.ext φ):b≠e:=fun z=>by
 subst z;rcases l with y | ⟨φ,y⟩
 ·rw[q]at y;cases y
 ·rw[q]at y;cases y;exact n φ rfl
theorem qM.del(x:qM P w H h)(l:Loose (H e)):qM P w (L2.del H e) h:=fun a o q=>by
 by_cases z:a=e
 ·subst z;rw[nW]at q
  cases q
 ·rw[jf z]at q;refine (x a o q).stay (fun _ _ _ y=>y) (fun b y=>?_) fun b xs y=>?_
  ·rw[jf (l.ne y fun _=>nofun)];exact y
  ·rw[jf (l.ne y fun _=>nofun)];exact y
theorem Un.del(u:Un fs ex H H' h h')(l:Loose (H' e)):Un fs ex H (L2.del H' e) h h':=by
 refine⟨u.keep,u.slot,fun b o q n x=>?_,u.there,fun b xs q=>?_,fun b o v q=>?_,fun b ps q=>?_⟩
 ·by_cases z:b=e
  ·rw[z,nW]
  ·rw[jf z];exact u.free b o q n x
 ·have y:=u.tups b xs q;rw[jf (l.ne y fun _=>nofun)];exact y
 ·have y:=u.sX b o v q;rw[jf (l.ne y fun _=>nofun)];exact y
 ·obtain⟨m,y⟩:=u.uC b ps q;exact⟨m,by rw[jf (l.ne y fun _=>nofun)];exact y⟩
end
noncomputable def PB(X:Cx)(E:XK):Prop:=∀(pins:List (Addr×Obj))(σ:St)(H:Hp)(s:Shared)(e C:Addr)(a0:Value)(oe:Obj)(vs:Array Value),Inv X pins σ H s->X.s₀.heap.get? e=none->Loose (H e)->s.heap.get? e=some oe->oe.cls = .ref C →
 oe.data = .fields vs->vs[0]? = some a0->vs[1]? = some .none->(oe.dict=none->vs[2]? = some .none)->E (.ref C) oe.dict (del H e)->X.xe (.ref e) s
theorem Iw:PB (pI (lB P w) P w K mg base N qual scope f cd A outer s H E) E:=by
 intro pins σ H1 s1 e C a0 oe vs I en hl he hc hd h0 h1 h2 hq;have es:frs (pI (lB P w) P w K mg base N qual scope f cd A outer s H E).stack=s.heap.objs.size::frs outer:=DQ rfl;generalize hS:e::frs (pI (lB P w) P w K mg base N qual scope f cd A outer s H E).stack=S
 have hin:∀ env∈(pI (lB P w) P w K mg base N qual scope f cd A outer s H E).stack,∀ b,env.frame=some b->b∈S:=
  fun env he b hb=>hS▸wy _ (List.mem_filterMap.mpr ⟨env,he,hb⟩)
 have inB:∀ b ob,s1.heap.get? b=some ob->b≠e->b∉frs (pI (lB P w) P w K mg base N qual scope f cd A outer s H E).stack->(PySem.W.hideAll s1.heap S).get? b=some ob:=
  fun b ob q z hb=>PySem.W.hideAll_get _ q (by rw[<-hS];exact fun y=>(jo.mp y).elim z hb)
 have hB:∀ b,(del H1 e b).isSome=true->∃ ob,s1.heap.get? b=some ob/\(PySem.W.hideAll s1.heap S).get? b=some ob:=fun b hb=>by
  obtain⟨u,hu⟩:=Option.isSome_iff_exists.mp hb
  have z:b≠e:=fun z=>by rw[z,nW]at hu;cases hu
  rw[jf z]at hu;obtain⟨ob,q⟩:=(I.hok b u hu).there;exact⟨ob,q,inB b ob q z fun y=>by rw[I.tE b y]at hu;cases hu⟩
 have YD:∀ b ob,s.heap.get? b=some ob->b∉frs outer->∃ o',s1.heap.get? b=some o'/\(PySem.W.hideAll s1.heap S).get? b=some o':=fun b ob q hb=>by
  obtain⟨o1,e1⟩:=I.base.there b ob q (by show b∉([]:List Addr);simp);refine⟨o1,e1,inB b o1 e1 (fun z=>?_) fun z=>?_⟩
  ·subst z;have en':s.heap.get? b=none:=en;rw[q]at en'
   cases en'
  ·rw[es]at z;exact (jo.mp z).elim (tD (lZ q)) hb
 have ub:Un (frs outer) [] H (del H1 e) s.heap s1.heap:=Un.del I.base hl;show wpAny _ _ (leaving _ (.ref e)) _ _ _;refine Kf (L:=s.heap.objs.size) (base:=PySem.W.hideAll s1.heap S) I.ok.frames rfl (fun b ob q=>PySem.W.of_hideAll _ q) (PySem.W.funFrames_hide I.stack hin) (PySem.W.hideAll_none _ (by rw[<-hS];exact Aa)) he hd h1 h0 h2 fun h2 fl sl dk=>?_;rw[hc]at fl;refine⟨e,.ref C,a0,del H1 e,_,rfl,I.os,I.bare,fl,(I.hok.del hl).flown hB fl.1,ub.flown YD fl.1 sl I.xT,fun b hb=>?_,fun b ob q hb=>?_,_,dk,hq⟩
 ·obtain⟨ob,_,e2⟩:=hB b hb;exact⟨ob,fl.1 b _ e2,e2⟩
 ·obtain⟨o',_,e2⟩:=YD b ob q hb;exact⟨o',fl.1 b _ e2,e2⟩
end
noncomputable abbrev VB:List Value:=[.type "ValueError",.type "Exception",.type "BaseException",.type "object"]
noncomputable def FQ(K:cZ)(C:Addr):Prop:=PySem.W.excIn K C VB "ValueError.__new__" = true
theorem FQ.obj{K:cZ}{C:Addr}{h:Heap}(q:FQ K C)(X:K.In h):∃ bm N nm qn bs hdct sn sub ab col dd k0 k1 k2 k3 k5 mN,
  h.get? C=some (excClassObj nm qn C N bs bm hdct sn sub ab col dd k0 k1 k2 k3 k5 "ValueError.__new__")/\h.Ns N mN/\mN "__init__" = none/\OwnTail h VB bm:=by
 unfold FQ PySem.W.excIn at q
 split at q
 ·rename_i ddc cdc slc lk
  split at q
  ·rename_i C1 bm k0 k1 k2 k3 n k5 em es
   simp only[Bool.and_eq_true,beq_iff_eq,Bool.not_eq_true']at q;obtain⟨⟨⟨⟨⟨q1,q2⟩,q3⟩,q4⟩,q5⟩,q6⟩:=q;subst q1 q2;obtain⟨nm,bs,mro,ns,qn,hd,sn,sub,ab,col,del⟩:=cdc;simp only at em q3 q5 q6;subst em q3;obtain⟨l⟩:=slc;simp only at es;subst es;exact⟨bm,ns,nm,qn,bs,hd,sn,sub,ab,col,ddc,k0,k1,k2,k3,k5,_,X _ _ lk,.of_isNs (PySem.W.isNs_of_in X q5),PySem.W.nsMap_none_of_in X q5 q6,PySem.W.tail_of_in X q4⟩
  ·cases q
 ·cases q
theorem Inv.Uz{X:Cx}{pins:List (Addr×Obj)}{σ:St}{H:Hp}{s:Shared}{e:Addr}(I:Inv X pins σ H s)(hx:X.ex=[])(q:s.heap.get? e=none):X.s₀.heap.get? e=none:=by
 cases z:X.s₀.heap.get? e with
 | none=>rfl
 | some o=>
  obtain⟨o',y⟩:=I.base.there e o z (by rw[hx];simp);rw[q]at y
  cases y
theorem Inv.Ht{X:Cx}{pins:List (Addr×Obj)}{σ:St}{H:Hp}{s:Shared}{e:Addr}(I:Inv X pins σ H s)(q:s.heap.get? e=none):H e=none:=by
 cases z:H e with
 | none=>rfl
 | some o=>
  obtain⟨o',y⟩:=(I.hok e o z).there;rw[q]at y
  cases y
noncomputable def Tr(C:Addr)(E:XK)(t:TA):TS:=fun _ σ H=>t σ H fun vs H1=>vs.length<=sizeLine/\E (.ref C) none H1
theorem Bw{X:Cx}{C:Addr}{x:Str}{np cpos pos:Pos}{e0:Expr}{rest:List Expr}{t:TA}{E:XK}(hx:PB X E)(hc:X.calm=true)(hg:Gl X x)(hm:X.mg x=some (.ref C))(hC:FQ X.K C)(ha:PA X (e0::rest) t)(hex:X.ex=[]:=by rfl)
  (hdb:(x==("__debug__" : Str))=false:=by decide) (he:starEach (e0::rest) X.env=(false,eval e0 X.env)::starEach rest X.env:=by rfl) (hpl:(backTo cpos (starEach rest X.env)).any (·.1)=false:=by rfl) :
  PS X (.Raise (some (.Call (.Name x np) (e0::rest) [] cpos)) none pos) (Tr C E t):=by
 intro pins s σ H D I h;obtain⟨bm,N,nm,qn,bs,hdct,sn,sub,ab,col,dd,k0,k1,k2,k3,k5,mN,oC,oN,oi,oT⟩:=hC.obj I.mod.Y4;have F:=PySem.F.excBase_ValueError
 have hp:(backTo cpos (starEach (e0::rest) X.env)).any (·.1)=false:=by
  rw[he];show (false||(backTo cpos (starEach rest X.env)).any (·.1))=false;rw[hpl];rfl
 refine wpAny_Raise_call_subT (C:=C) (nm:=nm) (q:=qn) (N:=N) (bs:=bs) (bm:=bm) (hdct:=hdct) (sn:=sn) (sub:=sub) (ab:=ab) (col:=col) (dd:=dd) (k0:=k0) (k1:=k1) (k2:=k2) (k3:=k3) (k5:=k5) F (mN:=mN)
  (oT.hasType F.hasBase) (I.ok.hd hc) hp oi (km I hg hm ⟨rfl,?_⟩ hdb)
 have g:=ha cpos pins s σ H _ I h;rw[he]at g ⊢;refine Calls.evalArgs_plain (wpAny_mono g (fun us s2 z=>?_) fun _ _ y=>y);obtain⟨vs,H2,I2,r,q1,q2⟩:=z;refine⟨rfl,by rw[<-r.length];exact q1,I2.bk _ _ oC,oN.keeps I2.bk,oT.keeps I2.bk,fun h' e hm=>?_⟩;obtain⟨t,z1,_,_⟩:=hm.there;have hn:X.s₀.heap.get? e=none:=I2.Uz hex hm.new;have hH:H2 e=none:=I2.Ht hm.new;exact hx pins σ H2 { s2 with heap:=h' } e C (.ref t) _ _ (I2.kept (t':=s2.toks) hm.keeps) hn (.inl hH) z1 rfl rfl rfl rfl (fun _=>rfl) (by rw[Vx hH];exact q2)
noncomputable def XP(X:Cx)(pins:List (Addr×Obj))(E:St->XK)(e:Value)(s':Shared):Prop:=∃ σ1 H1 s1,Inv X pins σ1 H1 s1/\lB X.prog X.w X.stack H1 s1 (E σ1) e s'
noncomputable abbrev TEX:=St->Hp->VK->XK->Prop
noncomputable abbrev TSX:=Ends->(St->XK)->St->Hp->Prop
noncomputable def PEX(X:Cx)(e:Expr)(t:TEX):Prop:=∀(pins:List (Addr×Obj))(s:Shared)(σ:St)(H:Hp)(Q:VK)(E:St->XK),Inv X pins σ H s->t σ H Q (E σ)->wpAny (model X.prog X.w) X.A (eval e X.env) (EP X pins σ Q) (XP X pins E) s
noncomputable def PSX(X:Cx)(st:List Stmt)(t:TSX):Prop:=∀(pins:List (Addr×Obj))(s:Shared)(σ:St)(H:Hp)(D:Ends)(E:St->XK),Inv X pins σ H s->t D E σ H->wpAny (model X.prog X.w) X.A (execs st X.env) (SP X pins D) (XP X pins E) s
section
variable{X:Cx}{k:Nat}{f C:Addr}{fd:FuncData}{ps:List Str}{sp:Sp}{oE:List V}{ds:List Value}{x m:Str}{p pos pos':Pos}{e:Expr}{es:List Expr}{t:TA}{tx:TEX}
noncomputable def qAF(sp:Sp)(oE:List V)(t:TA):TEX:=fun σ H Q E=>t σ H fun vs H1=>sp (vs++oE) H1 Q E
theorem Pu{pins:List (Addr×Obj)}{σ:St}{H:Hp}{s:Shared}{Q:VK}{E:St->XK}{us:List Value}{vs:List V}(F:bc X.prog X.w X.K X.mg X.base (lB X.prog X.w) k f fd ps sp)(hr:iC k X.A)(hb:Binds X.K fd ps ds)(hd:Vals oE ds)
  (I:Inv X pins σ H s) (r:Vals vs us) (h:sp (vs++oE) H Q (E σ)):wpAny (model X.prog X.w) X.A (call (.ref f) us) (EP X pins σ Q) (XP X pins E) s:=by
 have r2:Vals (vs++oE) (us++ds):=r.append hd
 have hl:(us++ds).length=ps.length:=by
  rw[<-r2.length];exact F.len _ _ _ _ h
 refine wpAny_call (codeAny_mono (F.run X.A X.stack s H ⟨us,[]⟩ (us++ds) (vs++oE) Q (E σ) hr I.env0 (hb s us I.oA hl) r2 h) fun r s' z=>?_)
 cases r with
 | error e=>exact⟨σ,H,s,I,z⟩
 | ok fl=>
  cases fl with
  | ret u=>exact I.after z
  | next=>exact False.elim z
  | brk=>exact False.elim z
  | cont=>exact False.elim z
theorem Up(F:bc X.prog X.w X.K X.mg X.base (lB X.prog X.w) k f fd ps sp)(hr:iC k X.A)(hg:Gl X x)(hm:X.mg x=some (.ref f))(hk:PySem.W.keepIn X.K (.ref f)=true)(hb:Binds X.K fd ps ds)(hd:Vals oE ds)
  (ha:PA X.TX (e::es) t) (hdb:(x==("__debug__" : Str))=false:=by decide) (he:starEach (e::es) X.env=(false,eval e X.env)::starEach es X.env:=by rfl) (hpl:(backTo pos (starEach es X.env)).any (·.1)=false:=by rfl) :
  PEX X (.Call (.Name x p) (e::es) [] pos) (qAF sp oE t):=by
 intro pins s σ H Q E I h;refine wpAny_Call_Name_kw (km I hg hm ?_ hdb);refine PySem.W.callWith_K (h₀:=X.base) I.ok.mod.Y4 hk (wpAny_mono (ha pos pins s σ H _ (I.wish _) h) (fun us s1 z=>?_) fun _ _ z=>z.elim) he hpl;obtain⟨vs,H1,I1,r,q⟩:=z;exact⟨I1.iV.oA,Pu F hr hb hd I1.iV r q⟩
theorem XX{i:Nat}(hN:X.N.Nodup)(hi:X.N[i]? = some x)(hx:Loc X.env.scope x)(he:PEX X e tx)(hs:swapsWith e (some (.Name x pos')) pos.line X.env=pure false:=by rfl)(hf:X.fn x=true∨X.env.scope.names.lookup x=some .local:=by first | exact .inl rfl | exact .inr rfl | assumption) :
  PSX X [.Assign [.Name x pos'] e pos] (fun D E σ H=>tx σ H (fun v H1=>D.nx (σ.set i (some v)) H1) (E σ)):=by
 intro pins s σ H D E I h;refine wpAny_execs_cons (wpAny_Assign_Name (gO (he pins s σ H _ E I h) fun v s1 ⟨y,H1,I1,r1,q1⟩=>?_) hs);exact pL I1 hN hi hx r1 (fun s2 I2=>wpAny_execs_nil ⟨_,H1,I2,q1⟩) hf
theorem Ui(he:PEX X e tx)(hs:swapsWith e none pos.line X.env=pure false:=by rfl):PSX X [.Expr e pos] (fun D E σ H=>tx σ H (fun _ H1=>D.nx σ H1) (E σ)):=by
 intro pins s σ H D E I h;exact wpAny_execs_cons (wpAny_Expr_any (gO (he pins s σ H _ E I h) fun v s1 ⟨y,H1,I1,r1,q1⟩=>wpAny_execs_nil ⟨σ,H1,I1,q1⟩) I.quiet hs)
end
noncomputable abbrev Cx.VF(X:Cx)(e:Addr):Cx:={ X with A:=X.A.mark (some (.ref e)),calm:=false,xe:=fun _ _=>False }
section
variable{X:Cx}{pins:List (Addr×Obj)}{σ:St}{H:Hp}{s:Shared}{ea:Addr}
theorem Inv.VF(I:Inv X pins σ H s)(ea:Addr):Inv (X.VF ea) pins σ H s:=
 ⟨⟨I.ok.mod,I.ok.kind,I.ok.glob,I.ok.blt,I.ok.above,I.ok.inj,I.ok.has,I.ok.cab,(fun z=>Bool.noConfusion z),I.ok.frames,I.ok.ZP,I.ok.exf,I.ok.bs,I.ok.Td,I.ok.Nm,I.ok.SJ,I.ok.uG,I.ok.Vb⟩,I.os,I.bare,I.base,I.loc,I.cell,I.free,I.nM,I.pin,I.hok,I.len⟩
theorem Inv.unH(I:Inv (X.VF ea) pins σ H s)(ok:X.Ok):Inv X pins σ H s:=⟨ok,I.os,I.bare,I.base,I.loc,I.cell,I.free,I.nM,I.pin,I.hok,I.len⟩
variable{C:Addr}{x:Str}{np hpos pos:Pos}{body:List Stmt}{b0:Stmt}{suite:List Stmt}{tb:TSX}{th:TS}
end
end L2
namespace L2
open PySem PySem.Spec PyProof.Rows PySem.W
structure Wh(K:Frag)(C:Addr):Prop where
 ga:findIn K (.ref C) "__getattribute__" = some (some (.builtin "BaseException.__getattribute__"))
 no:findIn K (.ref C) "__getattr__" = some none
 cl:findIn K (.ref C) "__class__" = some (some (.builtin "object.__class__"))
 ob:mroIn K C (.type "object")=some true
 be:mroIn K C (.type "BaseException")=some true
 is:(clsIn K C).isSome=true
section
variable{prog:Program}{w:World}{A:Around}{E:Value->Shared->Prop}{h:Heap}{g:Array GenState}{d:Drawn}{t:Nat}{os:OsState}{a C:Addr}{o:Obj}{K:Frag}
theorem Oc{M:Model}{nameV:Value}{Q:Unit->Shared->Prop}(X:K.In h)(q:Wh K C)(hx:h.get? a=some o)(hc:o.cls = .ref C)(hq:Q () ⟨h,g,d,t,os⟩) :
  wpAny M A (checkBuiltinCall "BaseException.__getattribute__" ⟨[.ref a,nameV],[]⟩) Q E ⟨h,g,d,t,os⟩:=by
 have h1:builtinKind "BaseException.__getattribute__" = some .slot:=by decide +kernel
 have h2:splitId "BaseException.__getattribute__" = some ("BaseException","__getattribute__"):=by decide +kernel
 have h3:=F.args_bexc_ga (.ref a) nameV;have LS:=looks_mroIn (M:=M) X q.be;simp only[checkBuiltinCall,h1,h2];refine wpAny_bind ?_;unfold isInstance
 repeat (first | (with_reducible refine wpAny_loadPart_at hx ?_;rw[hc]) | with_reducible refine LS.at ?_ | wp_step)
 exact hq
noncomputable def ExcAt(a C:Addr)(dd:Option Addr)(h:Heap):Prop:=∃ ob,h.get? a=some ob/\ob.cls = .ref C/\ob.dict=dd/\notCls ob=true
end
noncomputable def Od(a C:Addr)(dd:Option Addr):HO:=.ext (ExcAt a C dd)
section
variable{X:Cx}
theorem qBS{pins:List (Addr×Obj)}{σ:St}{H:Hp}{s:Shared}{a C:Addr}{dd:Option Addr}(I:Inv X pins σ H s)(e:H a=some (Od a C dd)):ExcAt a C dd s.heap:=(I.hok a _ e).1
end
end L2
namespace L2
open PySem PySem.Spec PyProof.Rows
section
variable{X:Cx}{pins:List (Addr×Obj)}{σ:St}{H:Hp}{s:Shared}{ea C:Addr}{x n:Str}{np hpos pos:Pos}{body orelse:List Stmt}{b0:Stmt}{suite:List Stmt}{tb:TSX}{th te:TS}
theorem Inv.gone{i:Nat}{h':Heap}{v':Option Value}{m:Str->Option Value}{t':Nat}(I:Inv X pins σ H s)(hN:X.N.Nodup)(hi:X.N[i]? = some n)
  (hm:∀(j:Nat)(y:Str)(v:V),X.N[j]? = some y->σ[j]? = some (some v)->Vis X.env.scope y->∃ u,RelV v u/\Look X.env s.heap m y u)
  (hn':h'.Ns X.env.locals fun y=>if y=n then v' else m y) (hs:Heap.SameBut X.env.locals s.heap h'):Inv X pins (σ.set i none) H { s with heap:=h',toks:=t' }:=by
 have old:∀ b ob,X.s₀.heap.get? b=some ob->b≠X.env.locals:=fun b ob q=>tD (Jj (lZ q) I.ok.above)
 have hiσ:i<σ.length:=by rw[I.len];exact (Fb.mp hi).1
 refine⟨I.ok,I.os,I.bare,⟨fun b ob q z1 z2 z3=>?_,fun b ob q z1 z2 z3=>?_,I.base.free,fun b ob q z=>?_,I.base.tups,I.base.sX,I.base.uC⟩,⟨_,hn',fun j y v e1 e2 e3=>?_⟩,fun y c q=>?_,I.free,I.nM,fun p hp=>?_,fun b ob q=>?_,by simpa using I.len⟩
 ·exact (hs.2 b (old b ob q)).trans (I.base.keep b ob q z1 z2 z3)
 ·obtain⟨sl,e⟩:=I.base.slot b ob q z1 z2 z3;exact⟨sl,(hs.2 b (old b ob q)).trans e⟩
 ·obtain⟨o',e⟩:=I.base.there b ob q z;exact⟨o',(hs.2 b (old b ob q)).trans e⟩
 ·by_cases hj:j=i
  ·subst hj;rw[List.getElem?_set_self hiσ]at e2
   cases e2
  ·rw[List.getElem?_set_ne (Ne.symm hj)]at e2;obtain⟨u,r,l⟩:=hm j y v e1 e2 e3;refine⟨u,r,?_⟩;rcases l with ⟨k,e⟩ | ⟨k,c,e,z⟩
   ·have:y≠n:=fun e=>hj (Ca hN e1 (e▸hi));exact .inl ⟨k,(if_neg this).trans e⟩
   ·exact .inr ⟨k,c,e,z.sameBut hs (I.Yq y c e)⟩
 ·obtain⟨v,z⟩:=I.cell y c q;exact⟨v,z.sameBut hs (I.Yq y c q)⟩
 ·obtain⟨e,z1,z2,z3,z4⟩:=I.pin p hp;exact⟨(hs.2 p.1 z2).trans e,z1,z2,z3,z4⟩
 ·refine (I.hok b ob q).stay (fun c u hc e=>(hs.2 c fun z=>?_).trans e) (fun _ z=>z) fun _ _ z=>z;rcases hc with y | y
  ·rw[<-y,z,I.free]at q
   cases q
  ·rw[z,I.free]at y
   cases y
noncomputable def qA9(K:cZ)(C:Addr)(i:Nat)(tb:TSX)(th:TS):TS:=fun D σ H=>tb D (fun σ' cls dd H'=>∃ C1:Addr,cls = .ref C1/\PySem.W.exmOne K cls (.ref C)=some true ∧
 ∀ ea,H' ea=none->th { nx:=fun σ2 H2=>D.nx (σ2.set i none) H2,rt:=D.rt,bk:=fun σ2 H2=>D.bk (σ2.set i none) H2,ct:=fun σ2 H2=>D.ct (σ2.set i none) H2 } (σ'.set i (some (.ref ea))) (upd H' ea (Od ea C1 dd))) σ H
theorem Uj{i:Nat}(hb:PSX X body tb)(hg:Gl X x)(hm:X.mg x=some (.ref C))(hN:X.N.Nodup)(hi:X.N[i]? = some n)(hl:X.env.scope.names.lookup n=some .local)(hh:∀ e:Addr,JV (X.VF e) (b0::suite) th)
  (hst:X.stack=X.env::X.outer:=by rfl) (hfr:X.env.frame=some X.env.locals:=by rfl) (hdb:(x==("__debug__" : Str))=false:=by decide) :
  PS X (.Try body [.ExceptHandler (some (.Name x np)) (some n) (b0::suite) hpos] [] [] pos) (qA9 X.K C i tb th):=by
 intro pins s σ H D I h;refine wpAny_Try_except (wpAny_mono (hb pins s σ H D _ I h) (fun f s1 q=>?_) fun e s1 q=>?_)
 ·cases f with
  | next=>exact wpAny_execs_nil q
  | brk=>exact q
  | cont=>exact q
  | ret u=>exact q
 obtain⟨σ1,H1,s0,I1,ea,cls,a0,H',B,rfl,ho,hgn,fl,hok,un,hB,hC,dd,hdd,C1,rfl,hmt,hth⟩:=q;have Kr:=I1.ok.frames;rw[hst]at fl Kr;refine GK Kr hfr fl hdd fun h4 GX ZQ dk4=>Nx GX dk4 fun h5 YQ sl5 dk5=>?_;have u5:=un.flown hC YQ.1 (ZQ.trans sl5) I1.frames;have J5:Inv X pins σ1 H' { s1 with heap:=h5 }:=I1.call' ho u5 (hok.flown hB YQ.1) hgn (fun _ z=>nomatch z);obtain⟨ob,hob,hoc⟩:=YQ.there;refine wpAny_handleBy_cons (codeAny_handlers_test (km (J5.VF ea) hg hm ?_ hdb)) (by intro z;cases z)
 have LT:PySem.W.Looks (model X.prog X.w) h5 (typeOf (.ref ea)) (.ref C1):=by
  rw[<-hoc];exact (PySem.W.Looks.ld hob).andThen .now
 refine (PySem.W.exm_one J5.oA LT hmt).here (codeAny_handlers_suite_as ?_);refine wC YQ dk5 fun h6 fl6 sl6 dk6=>?_;have u6:=un.flown hC fl6.1 ((ZQ.trans sl5).trans sl6) I1.frames;obtain⟨oe,ws,e6,c6,d6,_⟩:=fl6.first
 have q6:oe.dict=dd:=by
  obtain⟨o1,z1,z2⟩:=dk6;rw[show h6.get? ea=some oe from e6]at z1
  cases z1
  exact z2.1
 have hH:H' ea=none:=by
  cases q:H' ea with
  | none=>rfl
  | some z=>
   obtain⟨o1,_,e2⟩:=hB ea (by rw[q];rfl);rw[fl.2.1]at e2
   cases e2
 have nea:∀ b o1,s0.heap.get? b=some o1->b≠ea:=fun b o1 q z=>by
  subst z
  by_cases hb:b∈frs X.stack
  ·obtain⟨z1,o2,q2,nf⟩:=I1.frames b hb;rw[q]at q2
   cases q2
   obtain⟨sl,q3⟩:=u6.slot b o1 q z1 hb (by simp);rw[e6]at q3
   cases q3
   exact nf ws d6
  ·obtain⟨o',_,q2⟩:=hC b o1 q hb;rw[fl.2.1]at q2
   cases q2
 have u7:Un (frs X.stack) [] H1 (upd H' ea (Od ea C1 dd)) s0.heap h6:=by
  refine⟨u6.keep,u6.slot,fun b o1 q z1 z2=>?_,u6.there,fun b xs q=>?_,fun b o1 u q=>?_,fun b ps q=>?_⟩
  ·rw[zQ (nea b o1 q)];exact u6.free b o1 q z1 z2
  ·have q':=u6.tups b xs q;rw[zQ (zM q' hH)];exact q'
  ·have q':=u6.sX b o1 u q;rw[zQ (zM q' hH)];exact q'
  ·obtain⟨more,q'⟩:=u6.uC b ps q;exact⟨more,by rw[zQ (zM q' hH)];exact q'⟩
 have hk6:=hok.flown hB fl6.1
 have hk7:qM X.prog X.w (upd H' ea (Od ea C1 dd)) h6:=fun b o1 q=>by
  by_cases hb:b=ea
  ·subst hb;rw[zC]at q
   cases q
   exact⟨⟨oe,e6,c6,q6,by unfold PySem.W.notCls;rw[d6]⟩,⟨oe,e6⟩,fun _ _ ⟨o2,z1,z2⟩ k=>⟨o2,k o2 z1,z2⟩⟩
  ·rw[zQ hb]at q;refine (hk6 b o1 q).stay (fun _ _ _ z=>z) (fun c z=>?_) fun c xs z=>?_
   ·rw[zQ (zM z hH)];exact z
   ·rw[zQ (zM z hH)];exact z
 have J6:Inv X pins σ1 (upd H' ea (Od ea C1 dd)) { s1 with heap:=h6 }:=I1.call' ho u7 hk7 hgn (fun _ z=>nomatch z);refine pL (v:=.ref ea) J6 hN hi (.inl hl) rfl (fun s8 I8=>?_) (.inr hl);refine wpAny_mono (hh ea pins _ _ _ _ (I8.VF ea) (hth ea hH)) (fun f s9 q=>?_) fun _ _ z=>z.elim
 have hp:(X.env.scope.kind==.class||(X.env.scope.kind==.module&&X.env.locals != X.env.globals))=false:=by
  rw[I.ok.kind];rfl
 cases f with
 | next=>
  obtain⟨σ9,H9,I9,q9⟩:=q;have K9:=I9.unH I1.ok;obtain⟨m9,n9,l9⟩:=id K9.loc;exact wpAny_nameGoes_keeps hl n9 hp fun h' v' hn' hs=>⟨_,H9,K9.gone hN hi l9 hn' hs,q9⟩
 | brk=>
  obtain⟨σ9,H9,I9,q9⟩:=q;have K9:=I9.unH I1.ok;obtain⟨m9,n9,l9⟩:=id K9.loc;exact wpAny_nameGoes_keeps hl n9 hp fun h' v' hn' hs=>⟨_,H9,K9.gone hN hi l9 hn' hs,q9⟩
 | cont=>
  obtain⟨σ9,H9,I9,q9⟩:=q;have K9:=I9.unH I1.ok;obtain⟨m9,n9,l9⟩:=id K9.loc;exact wpAny_nameGoes_keeps hl n9 hp fun h' v' hn' hs=>⟨_,H9,K9.gone hN hi l9 hn' hs,q9⟩
 | ret u=>
  obtain⟨v,σ9,H9,I9,r9,q9⟩:=q;have K9:=I9.unH I1.ok;obtain⟨m9,n9,l9⟩:=id K9.loc;exact wpAny_nameGoes_keeps hl n9 hp fun h' v' hn' hs=>⟨v,_,H9,K9.gone hN hi l9 hn' hs,r9,q9⟩
end
section
variable{X:Cx}
theorem PS.TX{st:Stmt}{t:TS}(h:PS X.TX st t):PS X st t:=fun pins s σ H D I hw=>
 wpAny_mono (h pins s σ H D (I.wish _) hw) (fun _ _ q=>q.iV) fun _ _ z=>False.elim z
theorem p7:MtR X "str.startswith" (fun x xs H Q => ∃ a b,x = .str a/\xs=[.str b]/\Q (.bl (Txt.startswith a b)) H):=by
 intro pins s σ H x xs v us Q I rx rs h;obtain⟨a,b,rfl,rfl,q⟩:=h;obtain⟨t,rfl⟩:=rx;obtain⟨u,rfl,t',rfl⟩:=vals1 rs;exact SC.startswith ⟨.bl _,H,I,rfl,q⟩
theorem RK:MtR X "str.index" (fun x xs H Q => ∃ a b i rest,x = .str a/\xs=[.str b]/\Builtin.Str.occurrences a b 0 a.length 1=i::rest/\Q (.int ((i:Nat):Int)) H):=by
 intro pins s σ H x xs v us Q I rx rs h;obtain⟨a,b,i,rest,rfl,rfl,ho,q⟩:=h;obtain⟨t,rfl⟩:=rx;obtain⟨u,rfl,t',rfl⟩:=vals1 rs;exact SC.index ho ⟨.int _,H,I.tok _,⟨_,rfl⟩,q⟩
end
section
variable{P:Program}{w:World}{K:cZ}{mg:Str->Option Value}{base:Heap}
theorem jJ.okX{x qual:Str}{st:Stmt}{f:Addr}{fd:FuncData}{N ps:List Str}{k:Nat}{sp:Sp}(F:jJ K x qual st f fd)(S:aq N ps (aP st))(len:∀ vs H Q E,sp vs H Q E->vs.length=ps.length)
  (hbody:∀(cdv:Value)(A:Around)(outer:List Env)(s:Shared)(H:Hp)(vs:List V)(Q:VK)(E:XK),iC k (A.deeper (envOfC qual (aP st) s.heap.objs.size f cdv))->sp vs H Q E →
   ∃ t,JV (pI (lB P w) P w K mg base N qual (aP st) f cdv A outer s H E) (iT st) t/\t { nx:=fun _ H'=>Q .non H',rt:=Q } (start N vs) H):bc P w K mg base (lB P w) (k+1) f fd ps sp:=by
 obtain⟨oc,od,kV,doc,pm,an,cdv,ct,osl,rfl,lk,hcd⟩:=F.ex;exact Zj lk hcd S len fun A outer s H vs Q E hr hsp=>hbody cdv A outer s H vs Q E hr hsp
end
end L2
namespace PySem.MeetsSeq
open PySem PySem.Spec PyProof.Rows
end PySem.MeetsSeq
namespace L2
open PySem PySem.Spec PyProof.Rows
theorem Fd:∀ l:List (Str×Tok),Vals ((l.map (·.1)).map V.str) (strValues l)
 | []=>.nil
 | p::l=>.cons ⟨p.2,rfl⟩ (Fd l)
section
variable{X:Cx}
theorem KQ:MtM X "str.split" (fun x xs H Q => ∃ a b:Str,x = .str a/\xs=[.str b]/\(b.length==0)=false/\a.length<=sizeLine/\(Txt.split a b).length<=sizeLine/\∀ p,H p=none->Q (.ref p) (upd H p (.lst ((Txt.split a b).map V.str)))):=by
 intro pins s σ H x xs v us Q I rx rs h;obtain⟨a,b,rfl,rfl,hb,ha,hn,q⟩:=h;obtain⟨t,rfl⟩:=rx;obtain⟨u,rfl,t',rfl⟩:=vals1 rs;have q':=q _ I.fresh
 have one:(Txt.split a b)=[a]->EP X pins σ Q (.ref s.heap.objs.size) { s with heap:=s.heap.push { cls:=.type "list",data:=.seq [Value.str a t].toArray } }:=fun e=>by
  rw[e]at q' hn;exact⟨.ref _,_,I.qBC (t':=s.toks) (ys:=[.str a]) (.cons ⟨t,rfl⟩ .nil) hn,rfl,q'⟩
 cases h1:(decide (a.length<b.length)||decide (Builtin.Str.strKind a<Builtin.Str.strKind b))
 ·cases hf:(Builtin.Str.occurrences a b 0 a.length (a.length+1)).isEmpty
  ·have e:Txt.split a b=Builtin.Str.partsBetween a (Builtin.Str.occurrences a b 0 a.length (a.length+1)) b.length:=(if_neg (ne_true_of_eq_false h1)).trans (if_neg (ne_true_of_eq_false hf));rw[e]at q' hn;refine call_meets F.slot_str_split (typeIs_str _ _ _) F.entry_str_split (F.args_str_split_2 _ _) (meets_str_split_sep a b t t' h1 hb hf ha hn) ?_;show wants (EP X pins σ Q) X.xe _ _;rw[strsFrom_eq];have r:=Fd (numbered s.toks (Builtin.Str.partsBetween a (Builtin.Str.occurrences a b 0 a.length (a.length+1)) b.length));rw[numbered_texts]at r;exact⟨.ref _,_,I.qBC (t':=_) r (by rw[jH];exact hn),rfl,q'⟩
  ·exact call_meets F.slot_str_split (typeIs_str _ _ _) F.entry_str_split (F.args_str_split_2 _ _) (meets_str_split_not_found a b t t' h1 hb hf) (one ((if_neg (ne_true_of_eq_false h1)).trans (if_pos hf)))
 ·exact call_meets F.slot_str_split (typeIs_str _ _ _) F.entry_str_split (F.args_str_split_2 _ _) (meets_str_split_cannot_occur a b t t' h1) (one (if_pos h1))
noncomputable def Ue:V->List V->Hp->VK->Prop:=fun x vs H Q => ∃(l:Addr)(os:List Str)(k:Str)(j:Nat),x = .ref l/\vs=[.str k]/\H l=some (.lst (os.map V.str))/\(∃ h:j<os.length,os[j]=k)/\(∀(m:Nat)(hm:m<os.length),m<j->os[m]≠k)/\os.length<=1000/\Q (.int (j:Int)) H
noncomputable def qG2(k:Str):Value->Bool
 | .str a _=>a.cps.toList==k.cps.toList
 | _=>false
theorem X5{a b:Str}(h:a.cps.toList=b.cps.toList):a=b:=by
 obtain⟨a⟩:=a;obtain⟨b⟩:=b;congr;exact Array.toList_inj.mp h
theorem RL:MtM X "list.index" Ue:=by
 intro pins s σ H x vs v us Q I rx rv h;obtain⟨l,os,k,j,rfl,rfl,hH,⟨hj,e1⟩,e2,hz,q⟩:=h
 cases rx
 obtain⟨u,rfl,ru⟩:=rv.one;obtain⟨t,rfl⟩:=ru;obtain⟨z,its,n,r,hl,e⟩:=I.Xu hH;rw[jH]at hl
 have item:∀(m:Nat)(hm:m<os.length),∃ t',its[m]? = some (.str os[m] t'):=fun m hm=>by
  obtain⟨w',hw,t',rfl⟩:=r.get (i:=m) (x:=.str os[m]) (by rw[uB,Az hm];rfl);exact⟨t',hw⟩
 have at':∀(m:Nat)(hm:m<its.toArray.size),∃(hm':m<os.length)(t':Tok),its.toArray[m] = .str (os[m]'hm') t':=fun m hm=>by
  have hm':m<os.length:=by
   rw[wk]at hm;omega
  obtain⟨t',ht⟩:=item m hm';refine⟨hm',t',?_⟩;have:=Fb.mp ht;obtain⟨_,this⟩:=this
  simpa using this
 refine call_meets PySem.F.slot_list_index ⟨_,e,rfl⟩ PySem.F.entry_list_index (PySem.F.args_list_index_2 _ _) (MeetsSeq.list_index l its.toArray n _ (qG2 k) (fun y hy=>?_) j (by rw[wk];omega) (by omega) ?_ (fun m hm hmj=>?_)) ⟨e,?_⟩
 ·obtain⟨m,hm,rfl⟩:=Array.mem_iff_getElem.mp hy;obtain⟨hm',t',et⟩:=at' m hm;rw[et];exact SeqRoads2.EqGives.str _ _ _ _
 ·obtain⟨hm',t',et⟩:=at' j (by rw[wk];omega);rw[et];show ((os[j]).cps.toList==k.cps.toList)=true;rw[e1];exact beq_self_eq_true _
 ·obtain⟨hm',t',et⟩:=at' m hm;rw[et];exact beq_eq_false_iff_ne.mpr fun h=>e2 m hm' hmj (X5 h)
 ·exact⟨.int (j:Int),H,I.tok _,⟨_,rfl⟩,q⟩
end
end L2
namespace L2
open PySem PySem.Spec PyProof.Rows PySem.W
noncomputable def su(K:Frag)(C fI:Addr):Bool:=match K.lookup C with
 | some ⟨.type "type",_,.cls cd,sl⟩=>(match cd.mro,sl.toList with
  | .ref C1::bm,[_,_,_,_,some (.builtin n),_]=>C1==C&&(n == "ValueError.__new__" && (!cd.hasDel&&(cd.hasDict&&(tailIn K VB bm&&(nsOkIn K cd.ns&&(nsIn K cd.ns "__init__" == some (some (.ref fI))&&isFn K (.ref fI)))))))
  | _,_=>false)
 | _=>false
noncomputable def Dz(h:Heap)(C fI:Addr):Prop:=∃ bm N nm qn bs sn sub ab col dd k0 k1 k2 k3 k5 mN oI,h.get? C=some (excClassObj nm qn C N bs bm true sn sub ab col dd k0 k1 k2 k3 k5 "ValueError.__new__")/\h.Ns N mN ∧
 mN "__init__" = some (.ref fI)/\OwnTail h VB bm/\h.get? fI=some oI/\oI.cls = .type "function"
theorem Xk{K:Frag}{h:Heap}{N:Addr}{mg:Str->Option Value}{n:Str}{v:Value}(X:K.In h)(G:h.Ns N mg)(e:nsIn K N n=some (some v)):mg n=some v:=by
 obtain⟨o,es,ep,ho,hd,_,hf⟩:=G;unfold nsIn at e
 split at e
 ·rename_i c d es1 n1 sl q
  have z:=X _ _ q;rw[ho]at z
  cases z
  cases hd
  split at e
  ·rename_i he
   cases e
   rw[<-hf];unfold nsFind findBy;rw[<-Array.find?_toList,he];rfl
  ·split at e <;> cases e
 ·cases e
theorem Dz.of{K:Frag}{h:Heap}{C fI:Addr}(q:su K C fI=true)(X:K.In h):Dz h C fI:=by
 unfold su at q
 split at q
 ·rename_i ddc cdc slc lk
  split at q
  ·rename_i C1 bm k0 k1 k2 k3 n k5 em es
   simp only[Bool.and_eq_true,beq_iff_eq,Bool.not_eq_true']at q;obtain⟨q1,q2,q3,q3d,q4,q5,q6,q7⟩:=q;subst q1 q2;obtain⟨nm,bs,mro,ns,qn,hd,sn,sub,ab,col,del⟩:=cdc;simp only at em q3 q5 q6 q3d;subst em q3 q3d;obtain⟨l⟩:=slc;simp only at es;subst es
   have z:∃ oI,h.get? fI=some oI/\oI.cls = .type "function" := by
    unfold isFn at q7;have q8:=beq_iff_eq.mp q7;simp only[typeIn]at q8
    cases lf:K.lookup fI with
    | none=>rw[lf]at q8;cases q8
    | some ob=>rw[lf]at q8;exact⟨ob,X _ _ lf,MN q8⟩
   obtain⟨oI,z1,z2⟩:=z;exact⟨bm,ns,nm,qn,bs,sn,sub,ab,col,ddc,k0,k1,k2,k3,k5,_,oI,X _ _ lk,.of_isNs (isNs_of_in X q5),Xk X (.of_isNs (isNs_of_in X q5)) q6,tail_of_in X q4,z1,z2⟩
  ·cases q
 ·cases q
section
variable{prog:Program}{w:World}{A:Around}{E:Value->Shared->Prop}{h:Heap}{g:Array GenState}{d:Drawn}{t:Nat}{os:OsState}{C fI:Addr}
theorem Gn{rest:List Value}{Q:Value->Shared->Prop}(c:Dz h C fI)(hrest:rest.length<=sizeLine)
  (hq:∀ h' e,Heap.MadeExcOf h h' e (.ref C) rest->wpAny (model prog w) (A.under (.builtin "type.__call__" ⟨.ref C::rest,[]⟩)) (call (.ref fI) (.ref e::rest)) (fun r s'=>r = .none/\Q (.ref e) s') E ⟨h',g,d,t,os⟩) :
  wpAny (model prog w) A (call (.ref C) rest) Q E ⟨h,g,d,t,os⟩:=by
 obtain⟨bm,N,nm,qn,bs,sn,sub,ab,col,dd,k0,k1,k2,k3,k5,mN,oI,hC,hn,hi,T,hfI,hfc⟩:=c;have F:=PySem.F.excBase_ValueError;have f1:=tc_lookup;have f2:=tc_bind (.ref C);have hT:(⟨h,g,d,t,os⟩:Shared).TypeIs (.ref C) "type" := ⟨_,hC,rfl⟩;refine wpAny_call (codeAny_of_tree ?_);show wpAny _ _ (callAny (.ref C) _) _ _ _
 repeat (any_goals (first | assumption | with_reducible refine wpAny_loadPart_at hC ?_ | wp_step))
 refine⟨rfl,codeAny_call_builtin_at (Code.quiet_builtin _ (by decide +kernel)) entry_typeCall (wpAny_check_type_call_sub hC ?_)⟩
 repeat (first | with_reducible refine wpAny_loadPart_at hC ?_ | with_reducible refine wpAny_madeBy_exc hC ?_ | wp_step)
 refine codeAny_call_builtin_code (Code.quiet_builtin _ F.quiet) (wpAny_check_new_subT F T hC (codeAny_exc_new_subT F T hC ?_ hrest));show wpAny _ _ _ _ _ ⟨(h.push { cls:=.type "tuple",data:=.seq rest.toArray }).push { cls:=.ref C,data:=.fields #[.ref h.objs.size,.none,.none,.none,.bool false,.none] },g,d,t,os⟩;generalize hh2:(h.push { cls:=.type "tuple",data:=.seq rest.toArray }).push { cls:=.ref C,data:=.fields #[.ref h.objs.size,.none,.none,.none,.bool false,.none] }=h2
 have k2:∀ b o,h.get? b=some o->h2.get? b=some o:=fun b o e=>by rw[<-hh2];exact mV _ (mV _ e)
 have hget:h2.get? (h.objs.size+1)=some { cls:=.ref C,data:=.fields #[.ref h.objs.size,.none,.none,.none,.bool false,.none] }:=by rw[<-hh2];heap_get
 have htup:h2.get? h.objs.size=some { cls:=.type "tuple",data:=.seq rest.toArray }:=by rw[<-hh2];exact mV _ (Heap.get?_push_at rfl rfl)
 have hcC:(Value.ref C::bm).contains (.ref C)=true:=by simp
 have hC2:=k2 _ _ hC;unfold isInstance
 repeat (first | with_reducible refine wpAny_loadPart_at hget ?_ | (with_reducible refine wpAny_isSubtype_exc hC2 ?_;rw[hcC]) | wp_step)
 show wpAny _ _ (typeLookup (.ref C) _) _ _ _;refine wpAny_typeLookup_tail hC2 (hn.keeps k2) (T.keeps k2) F.mroIs F.init.lookup ?_;rw[hi];refine wpAny_holding (wpAny_bind ?_);unfold bindSpecial;refine wpAny_bind (wpAny_typeOf (T := "function") ⟨_,k2 _ _ hfI,hfc⟩ ?_);rw[if_pos (by decide)];refine wpAny_pure (wpAny_bind (wpAny_mono (hq _ (h.objs.size+1) ⟨k2,Heap.get?_none_of_le (Nat.le_succ _),h.objs.size,hget,Heap.get?_none_of_le (jj _),htup⟩) (fun r s' hr=>?_) fun _ _ x=>x));obtain⟨rfl,hQ⟩:=hr
 wp_walk
 exact hQ
end
section
variable{M:Model}{A:Around}{E:Value->Shared->Prop}{env:Env}{C fI:Addr}
theorem N5{s:Shared}{x:Sem Value}{Q:Flow->Shared->Prop}(hh:A.handled=none)
  (h:wpAny M A x (fun v s₁ => ∃ e oe vs,v = .ref e/\Dz s₁.heap C fI/\s₁.heap.get? e=some oe/\oe.cls = .ref C/\oe.data = .fields vs/\vs[1]? = some .none/\E (.ref e) s₁) E s) :
  wpAny M A (raiseStmt env (some x) none) Q E s:=by
 unfold raiseStmt;refine wpAny_bind (wpAny_mono h (fun v s₁ h₁=>?_) fun _ _ x=>x);obtain⟨e,oe,vs,rfl,⟨bm,N,nm,qn,bs,sn,sub,ab,col,dd,k0,k1,k2,k3,k5,mN,oI,hC,hn,hi,T,hfI,hfc⟩,he,hc,hd,h1,hE⟩:=h₁
 have hcB:(Value.ref C::bm).contains (.type "BaseException")=true:=by rw[List.contains_cons,T.hasType PySem.F.excBase_ValueError.hasBase,Bool.or_true]
 obtain⟨hp,g,d,tk,os⟩:=s₁;obtain⟨c1,d1,dt,sl⟩:=oe;simp only at hc hd;subst hc hd;have fld:∀ {Q':Value->Shared->Prop},Q' .none ⟨hp,g,d,tk,os⟩->wpAny M A (field (.ref e) 1) Q' E ⟨hp,g,d,tk,os⟩:=fun z=>wpAny_field he rfl h1 z
 repeat (first | with_reducible refine wpAny_loadPart_at he ?_ | with_reducible refine wpAny_loadPart_at hC ?_ | (with_reducible refine wpAny_isSubtype_exc hC ?_;rw[hcB]) | with_reducible refine fld ?_ | wp_step)
 exact wpAny_raiseNew_none hh hE
end
noncomputable def qC1(e C:Addr)(dd:Option Addr)(h:Heap):Prop:=∃ t0:Addr,h.get? e=some { cls:=.ref C,dict:=dd,data:=.fields #[.ref t0,.none,.none,.none,.bool false,.none] }
noncomputable def xZ(e C:Addr)(dd:Option Addr):HO:=.ext (qC1 e C dd)
theorem BR{P:Program}{w:World}{H:Hp}{h:Heap}{e C:Addr}{dd:Option Addr}(x:qC1 e C dd h):gJ P w H h e (xZ e C dd):=
 ⟨x,let ⟨_,q⟩:=x;⟨_,q⟩,fun _ _ ⟨t0,q⟩ k=>⟨t0,k _ q⟩⟩
section
variable{X:Cx}{pins:List (Addr×Obj)}{σ:St}{H:Hp}{s:Shared}
theorem Inv.laidN{a:Addr}{o:HO}{h':Heap}{t':Nat}(I:Inv X pins σ H s)(k:∀ b u,s.heap.get? b=some u->h'.get? b=some u)(hp:s.heap.get? a=none)(new:gJ X.prog X.w (upd H a o) h' a o) :
  Inv X pins σ (upd H a o) { s with heap:=h',toks:=t' }:=by
 have hn:H a=none:=I.Ht hp;refine I.un ⟨fun b u q _ _ _=>k b u q,fun b u q _ _ _=>⟨u.slots,k b u q⟩,fun b u q n _=>?_,fun b u q _=>⟨u,k b u q⟩,fun b xs q=>?_,fun b u xs q=>?_,fun b ps q=>⟨#[],?_⟩⟩ fun b u q=>?_
 ·rw[zQ (fun z=>by subst z;rw[hp]at q;cases q)];exact n
 ·rw[zQ (zM q hn)];exact q
 ·rw[zQ (zM q hn)];exact q
 ·rw[zQ (zM q hn),q];simp
 ·by_cases hb:b=a
  ·subst hb;rw[zC]at q
   cases q
   exact new
  ·rw[zQ hb]at q
   exact (I.hok b u q).stay (fun c v _ z=>k c v z) (fun c z=>by rw[zQ (zM z hn)];exact z) fun c xs z=>by rw[zQ (zM z hn)];exact z
end
noncomputable def Pa(C:Addr)(sp:Sp)(oE:List V)(E:XK)(t:TA):TS:=fun _ σ H=>t σ H fun vs H1=>vs.length<=sizeLine/\∀ e,H1 e=none →
 sp (.ref e::(vs++oE)) (upd H1 e (xZ e C none)) (fun v H2=>v = .non/\∃ dd,H2 e=some (xZ e C dd)/\E (.ref C) dd (del H2 e)) E0
theorem R6{X:Cx}{k:Nat}{C fI:Addr}{fd:FuncData}{ps:List Str}{sp:Sp}{oE:List V}{ds:List Value}{x:Str}{np cpos pos:Pos}{e0:Expr}{rest:List Expr}{t:TA}{E:XK}(hx:PB X E)(hc:X.calm=true)(hg:Gl X x)
  (hm:X.mg x=some (.ref C)) (hC:su X.K C fI=true) (hk:keepIn X.K (.ref C)=true) (F:bc X.prog X.w X.K X.mg X.base (lB X.prog X.w) k fI fd ps sp) (hr:iC (k+1) X.A) (hb:Binds X.K fd ps ds) (hd:Vals oE ds)
  (ha:PA X (e0::rest) t) (hex:X.ex=[]:=by rfl) (hdb:(x==("__debug__" : Str))=false:=by decide)
  (he:starEach (e0::rest) X.env=(false,eval e0 X.env)::starEach rest X.env:=by rfl) (hpl:(backTo cpos (starEach rest X.env)).any (·.1)=false:=by rfl) :
  PS X (.Raise (some (.Call (.Name x np) (e0::rest) [] cpos)) none pos) (Pa C sp oE E t):=by
 intro pins s σ H D I h;rw[arm_exec_Raise];simp only[evalOpt,Option.map];refine wpAny_bind (wpAny_standAt (N5 (C:=C) (fI:=fI) (I.ok.hd hc) (wpAny_bind (wpAny_mono ?_ (fun v s₃ h₃=>wpAny_bind (wpAny_standAt (wpAny_pure h₃))) fun _ _ x=>x))));refine wpAny_Call_Name_kw (km I hg hm ?_ hdb);refine callWith_K (h₀:=X.base) I.ok.mod.Y4 hk (gO (ha cpos pins s σ H _ I h) fun us s1 ⟨vs,H1,I1,r,q1,q⟩=>⟨I1.oA,?_⟩) he hpl;obtain⟨hh,g,d,tk,os⟩:=s1;refine Gn (Dz.of hC I1.oA) (by rw[List.nil_append,<-r.length];exact q1) fun h' e hm=>?_;obtain⟨t0,z1,_,_⟩:=hm.there;have hH:H1 e=none:=I1.Ht hm.new;have I2:=I1.laidN (o:=xZ e C none) (t':=tk) hm.keeps hm.new (BR ⟨t0,z1⟩);have hq:=q e hH;have r2:Vals (V.ref e::(vs++oE)) (Value.ref e::(us++ds)):=.cons rfl (r.append hd)
 have hl:(Value.ref e::us++ds).length=ps.length:=by
  have z:=r2.length;rw[F.len _ _ _ _ hq]at z;exact z.symm
 refine wpAny_call (codeAny_mono (F.run _ X.stack _ _ ⟨Value.ref e::us,[]⟩ (Value.ref e::(us++ds)) _ _ E0 (hr.make C us []) (I2.env0.make C us []) (hb _ (Value.ref e::us) I2.oA hl) r2 hq) fun r s' z=>?_)
 cases r with
 | error e=>obtain⟨_,_,_,_,_,_,_,_,_,_,_,_,_,_,_,y⟩:=z;exact y.elim
 | ok fl=>
  cases fl with
  | ret u=>
   obtain⟨v,H',I3,rv,ev,dd,y1,y2⟩:=I2.after z;subst ev;obtain⟨⟨t1,y3⟩,_⟩:=I3.hok e _ y1;exact⟨rv,e,_,_,rfl,Dz.of hC I3.oA,y3,rfl,rfl,rfl,hx pins σ H' s' e C (.ref t1) _ _ I3 (I1.Uz hex hm.new) (.inr ⟨_,y1⟩) y3 rfl rfl rfl rfl (fun _=>rfl) y2⟩
  | next=>exact False.elim z
  | brk=>exact False.elim z
  | cont=>exact False.elim z
section
variable{prog:Program}{w:World}{A:Around}{E:Value->Shared->Prop}{s:Shared}{C fI e t0:Addr}{dd:Option Addr}
theorem Su{rest:List Value}{Q:Value->Shared->Prop}(c:Dz s.heap C fI)(he:s.heap.get? e=some { cls:=.ref C,dict:=dd,data:=.fields #[.ref t0,.none,.none,.none,.bool false,.none] })(hrest:rest.length<=sizeLine)
  (h:∀ h',qC1 e C dd h'->(∀ b o,b≠e->s.heap.get? b=some o->h'.get? b=some o)->Q .none { s with heap:=h' }):wpAny (model prog w) A (call (.builtin "ValueError.__init__") (.ref e::rest)) Q E s:=by
 obtain⟨bm,N,nm,qn,bs,sn,sub,ab,col,d1,k0,k1,k2,k3,k5,mN,oI,hC,hn,hi,T,hfI,hfc⟩:=c;have F:=PySem.F.excBase_ValueError;obtain⟨hp,g,d,tk,os⟩:=s;refine wpAny_call (codeAny_call_builtin F.init.plain F.initEntry (wpAny_check_init_subT F T hC he rfl ?_));unfold Builtin.«BaseException.__init__»
 dsimp only
 rw[if_neg (by simp)];unfold newTuple Builtin.BaseException.bexcPut;have TY:=mV (h:=hp) { cls:=.type "tuple",data:=.seq rest.toArray } he;refine wpAny_bind (wpAny_newObj_type (wpAny_bind (wpAny_bind (wpAny_field TY rfl rfl (wpAny_bind (wpAny_setField TY rfl (by show 0<6;decide) ?_))))) (by show rest.toArray.size<=sizeLine;rw[wk];exact hrest));refine wpAny_letGo (wpAny_pure (h _ ⟨hp.objs.size,?_⟩ fun b o hb ho=>?_))
 ·rw[Heap.get?_update_self _ TY rfl];rfl
 ·rw[Heap.get?_update_other _ _ (Ne.symm hb)];exact mV _ ho
end
noncomputable def tBase(K:Frag)(t:TA):TS:=fun D σ H=>t σ H fun vs H1 => ∃ e C fI dd xs,vs = .ref e::xs/\xs.length<=sizeLine/\su K C fI=true/\H1 e=some (xZ e C dd)/\D.nx σ (upd H1 e (xZ e C dd))
theorem Q6{X:Cx}{B:Addr}{x:Str}{np ap cpos pos:Pos}{e0:Expr}{rest:List Expr}{t:TA}{pl:Sem Bool}(hg:Gl X x)(hm:X.mg x=some (.ref B))(hsp:specialIn X.K (.ref B) "__getattribute__" = some (some (.builtin "type.__getattribute__")))
  (hrd:readsIn X.K B (.type "type")=true) (hf:findCls X.K (.ref B) (.type "type") "__init__" = some (.val (.builtin "ValueError.__init__"))) (ha:PA X (e0::rest) t) (hdb:(x==("__debug__" : Str))=false:=by decide)
  (he:starEach (e0::rest) X.env=(false,eval e0 X.env)::starEach rest X.env:=by rfl) (hpl:(backTo cpos (starEach rest X.env)).any (·.1)=false:=by rfl)
  (ht:eval (.Call (.Attribute (.Name x np) "__init__" ap) (e0::rest) [] cpos) X.env=(do
   let ov ← eval (.Name x np) X.env
   standAt ap.atName
   let (f,first) ← holding [ov] (getMethod ov "__init__" pl)
   callWith cpos f first (backTo cpos (starEach (e0::rest) X.env)) (backToKw cpos (keywordEach [] X.env))):=by rfl)
  (hs:swapsWith (.Call (.Attribute (.Name x np) "__init__" ap) (e0::rest) [] cpos) none pos.line X.env=pure false:=by rfl) :
  PS X (.Expr (.Call (.Attribute (.Name x np) "__init__" ap) (e0::rest) [] cpos) pos) (tBase X.K t):=by
 intro pins s σ H D I h;refine wpAny_Expr_any (Q:=SP X pins D) ?_ I.quiet hs;refine methodCall_KW (pl:=pl) (km I hg hm ?_ hdb) ht;refine method_cls I.oA hsp (cls_value I.oA hrd hf rfl ?_);refine callWith_builtin1 (gO (ha cpos pins _ σ H _ (I.tok _) h) fun us s1 ⟨vs,H1,I1,r,z⟩=>?_) he hpl;obtain⟨e,C,fI,dd,xs,rfl,q1,q2,q3,q4⟩:=z
 obtain⟨u,ws,rfl,r1,r2⟩:∃ u ws,us=u::ws/\RelV (.ref e) u/\Vals xs ws:=by
  cases r with
  | cons a b=>exact⟨_,_,rfl,a,b⟩
 cases (show u=Value.ref e from r1)
 obtain⟨⟨t0,y⟩,_⟩:=I1.hok e _ q3;refine Su (Dz.of q2 I1.oA) y (by rw[<-r2.length];exact q1) fun h' nx k=>?_;exact⟨σ,_,I1.write (x:=e) (e:=e) (t':=s1.toks) (by rw[q3];exact True.intro) (.inl rfl) k (let ⟨_,z⟩:=nx;⟨_,z⟩) (BR nx),q4⟩
end L2
namespace L2
open PySem PySem.Spec PyProof.Rows PySem.W
open Builtin Builtin.ObjectAttr
noncomputable def Us:List Value->Bool
 | .ref _::r=>Us r
 | l=>l==VB
theorem zc(self:Value):∀ {l:List Value},Us l=true->refuseLoop self "__setattr__" l=pure ()
 | .ref c::r,e=>by rw[refuseLoop_ref];exact zc self (l:=r) e
 | [],e=>by cases e
 | .none::r,e=>by cases e
 | .bool b::r,e=>by cases e
 | .int i t::r,e=>by cases e
 | .float _ _::r,e=>by cases e
 | .str _ _::r,e=>by cases e
 | .type n::r,e=>by
  rw[show (Value.type n::r)=VB from beq_iff_eq.mp e];exact PySem.F.store_ValueError.passes self
 | .builtin n::r,e=>by cases e
 | .notImplemented::r,e=>by cases e
 | .ellipsis::r,e=>by cases e
structure Jd(K:Frag)(C:Addr)(f:Str):Prop where
 sa:findIn K (.ref C) "__setattr__" = some (some (.builtin "object.__setattr__"))
 no:findIn K (.ref C) f=some none
 ok:((clsIn K C).any fun cd=>Us cd.mro&&cd.hasDict)=true
 ob:mroIn K C (.type "object")=some true
section
variable{prog:Program}{w:World}{A:Around}{E:Value->Shared->Prop}{s:Shared}{K:Frag}{e C:Addr}{f:Str}{v:Value}{vs:Array Value}
theorem XF{Q:Unit->Shared->Prop}(X:K.In s.heap)(q:Jd K C f)(he:s.heap.get? e=some { cls:=.ref C,dict:=none,data:=.fields vs })
  (h:∀ h' t',h'.get? e=some { cls:=.ref C,dict:=some s.heap.objs.size,data:=.fields vs }->h'.Ns1 s.heap.objs.size (fun y=>if y=f then some v else none)->(∀ b o,b≠e->s.heap.get? b=some o->h'.get? b=some o) →
   Q () { s with heap:=h',toks:=t' }):wpAny (model prog w) A (setAttr (.ref e) f v) Q E s:=by
 have I:InstAt s.heap e { cls:=.ref C,dict:=none,data:=.fields vs } C none:=⟨he,rfl,rfl,True.intro⟩;refine set_plain X I q.sa ?_;have SF:=PySem.F.store_object;obtain⟨cd,hc,ho⟩:=any_some q.ok;obtain⟨hp,hd⟩:=Bool.and_eq_true_iff.mp ho;have sub:Looks (model prog w) s.heap (isInstance (.ref e) (.type "object")) true:=I.type.andThen (looks_mroIn X q.ob);refine codeAny_call_builtin SF.slot.plain SF.entry (@check_slot (model prog w) _ _ { s with toks:=s.toks+1 } "object.__setattr__" "object" "__setattr__" (.ref e) [.str f s.toks,v] [] _ SF.kind SF.split sub (SF.args (.ref e) (.str f s.toks) v) ?_);have hm:Looks (model prog w) s.heap (mroOf (.ref C)) cd.mro:=(looks_clsIn X hc).andThen .now;rw[osa_eq,refuse_eq];refine wpAny_bind (wpAny_bind (Looks.here (s:={ s with toks:=s.toks+1 }) I.type (wpAny_bind (Looks.here (s:={ s with toks:=s.toks+1 }) hm ?_))));rw[zc _ hp];refine wpAny_pure (wpAny_bind (Looks.here (s:={ s with toks:=s.toks+1 }) I.type (wpAny_bind (Looks.here (s:={ s with toks:=s.toks+1 }) (looks_findIn X q.no) (wpAny_bind (wpAny_pure ?_))))));show wpAny _ _ (storeInOwnDict (.ref e) (.ref C) (.str f s.toks) f v false) _ _ _;refine wpAny_bind (wpAny_pure (wpAny_bind (wpAny_bind (wpAny_loadPart he (wpAny_bind (Looks.here (s:={ s with toks:=s.toks+1 }) (looks_clsIn X hc) ?_))))));rw[hd];have hxs:e≠s.heap.objs.size:=tD (lZ he);have TY:(s.heap.push { cls:=.type "dict",data:=.dict #[] }).get? e=some { cls:=.ref C,dict:=none,data:=.fields vs }:=mV _ he;refine wpAny_bind (wpAny_alloc' (wpAny_bind (wpAny_update' TY (wpAny_pure ?_))))
 have e2:((s.heap.push { cls:=.type "dict",data:=.dict #[] }).update e fun o=>{ cls:=o.cls,dict:=some s.heap.objs.size,data:=o.data,slots:=o.slots }).get? s.heap.objs.size=some { cls:=.type "dict",data:=.dict #[] }:=
  (Heap.get?_update_ne _ _ _ _ hxs.symm).trans (Heap.get?_push_at rfl rfl)
 have e3:((s.heap.push { cls:=.type "dict",data:=.dict #[] }).update e fun o=>{ cls:=o.cls,dict:=some s.heap.objs.size,data:=o.data,slots:=o.slots }).get? e=some { cls:=.ref C,dict:=some s.heap.objs.size,data:=.fields vs }:=
  Heap.get?_update_self _ TY rfl
 have hnd:((s.heap.push { cls:=.type "dict",data:=.dict #[] }).update e fun o=>{ cls:=o.cls,dict:=some s.heap.objs.size,data:=o.data,slots:=o.slots }).Ns s.heap.objs.size (fun _=>none):=
  ⟨_,#[],_,e2,rfl,fun e he=>absurd he (by simp),fun _=>rfl⟩
 refine wpAny_bind (wpAny_pure (wpAny_bind ?_));refine wpAny_nsSet1 (Heap.Ns1.of_empty hnd) fun h' hn' hs=>?_;obtain⟨oD,esD,epD,hoD,hdD,hcD⟩:=hn'.count (Within.cons f v Within.nil);refine wpAny_bind (wpAny_lookBehind hoD (by rw[hdD];exact pastItsLine_dict (Nat.le_trans hcD (by rw[dJ,List.length_nil,sizeLine_eq];omega))) ?_);refine wpAny_pure (h h' _ ((hs.2 e hxs).trans e3) hn' fun b o hb ho=>?_);exact (hs.2 b (tD (lZ ho))).trans ((Heap.get?_update_ne _ _ _ _ hb).trans (mV _ ho))
end
theorem Jd.dict{K:Frag}{C:Addr}{f:Str}(q:Jd K C f):hasDictIn K C=true:=by
 obtain⟨cd,hc,ho⟩:=any_some q.ok;unfold hasDictIn;rw[hc];exact (Bool.and_eq_true_iff.mp ho).2
section
variable{prog:Program}{w:World}{A:Around}{E:Value->Shared->Prop}{K:Frag}{a C dx:Addr}{f:Str}{v:Value}{o:Obj}{mA:Str->Option Value}
theorem YG{h:Heap}{g:Array GenState}{d:Drawn}{t:Nat}{os:OsState}{expr:Bool}{Q:Value->Shared->Prop}(X:K.In h)(q:Wh K C)(q2:Jd K C f)(he:h.get? a=some o)(hc:o.cls = .ref C)(hno:notCls o=true)(hd:o.dict=some dx)(hn:h.Ns1 dx mA)
  (hv:mA f=some v) (hh:handedIn v=true) (hq:Q v ⟨h,g,d,t+1,os⟩):wpAny (model prog w) A (getAttr (.ref a) f expr) Q E ⟨h,g,d,t,os⟩:=by
 obtain⟨od,ho,hl⟩:=GP hn;have I:InstAt h a o C (some od):=⟨he,hc,hno,by rw[hd];exact ho⟩;have LF:=looks_find (M:=model prog w) X I (findObj_own q2.dict q2.no rfl ((hl f).trans (congrArg some hv)))
 have x2:(Value.builtin "BaseException.__getattribute__" == Value.builtin "object.__getattribute__")=false:=by decide +kernel
 have x1:(onTheHeap (Value.ref C)&&Value.builtin "BaseException.__getattribute__" == Value.builtin "object.__getattribute__")=false:=by rw[x2];rfl
 refine wpAny_bind (wpAny_mkText (wpAny_holding (wpAny_bind (I.type _ _ _ _ (fun _ _ e=>e) (wpAny_bind (looks_findIn X q.ga _ _ _ _ (fun _ _ e=>e) ?_))))))
 dsimp only
 rw[x1,if_neg pK];refine wpAny_bind ((looks_hook (mc:=.ref C) X (r:=none) (by rw[if_pos (show onTheHeap (Value.ref C)=true from rfl)];exact q.no)) _ _ _ _ (fun _ _ e=>e) (wpAny_bind (wpAny_attempt (wpAny_holding ?_))));unfold callGetattribute;rw[show (expr&&onTheHeap (Value.builtin "BaseException.__getattribute__"))=false from Bool.and_false _,if_neg pK];unfold boundAndCalled;rw[F.excAttr_ValueError.ga.bind];refine wpAny_bind (wpAny_pure ?_);show wpAny _ _ (call (.builtin "BaseException.__getattribute__") [.ref a,.str f t]) _ _ _;refine wpAny_call (codeAny_call_builtin F.excAttr_ValueError.ga.plain F.entry_bexc_ga (Oc X q he hc ?_))
 repeat (any_goals (first | assumption | (with_reducible refine wpAny_loadPart_at he ?_;rw[hc]) | with_reducible refine LF.at ?_ | wp_step))
 show wpAny _ _ (handedOut v) _ _ _;rw[handedOut_of hh];exact wpAny_pure hq
end
noncomputable def ZL(K:Frag)(ta:TE)(f:Str):TE:=fun σ H Q=>ta σ H fun x H1 => ∃ a C dx fs v,x = .ref a/\H1 a=some (Od a C (some dx))/\Wh K C/\Jd K C f/\H1 dx=some (.xd fs)/\fs.lookup f=some v/\Q v H1
noncomputable def qCM(K:Frag)(ta tv:TE)(f:Str):TS:=fun D σ H=>tv σ H fun y H1=>ta σ H1 fun x H2 => ∃ e C,x = .ref e/\H2 e=some (xZ e C none)/\Jd K C f/\∀ dx,H2 dx=none->dx≠e->D.nx σ (upd (upd H2 dx (.xd [(f,y)])) e (xZ e C (some dx)))
section
variable{X:Cx}{e o value:Expr}{ta tv:TE}{f:Str}{pos pos':Pos}
theorem Xc(he:PE X e ta)(hb:attributeBase e f X.env (eval e X.env)=eval e X.env):PE X (.Attribute e f pos) (ZL X.K ta f):=by
 intro pins s σ H Q I h;refine Qh hb (gO (he pins s σ H _ I h) fun u s1 ⟨x,H1,I1,rx,a,C,dx,fs,v,ex,ea,c,n,ed,l,q⟩=>?_);subst ex;obtain rfl:u=Value.ref a:=rx;obtain⟨mA,hn,r⟩:=I1.hok dx _ ed;obtain⟨ob,z1,z2,z3,z4⟩:=qBS I1 ea;obtain⟨w1,hw,rw1⟩:=uy.some_of (v:=v) (o:=mA f) (by rw[<-l];exact r f);obtain⟨hh,g,d,t,os⟩:=s1;exact YG I1.oA c n z1 z2 z4 z3 hn hw (GZ rw1) ⟨v,H1,I1.tok _,rw1,q⟩
theorem Q5(ha:PE X o ta)(hv:PE X value tv)(hs:swapsWith value (some (.Attribute o f pos')) pos.line X.env=pure false):PS X (.Assign [.Attribute o f pos'] value pos) (qCM X.K ta tv f):=by
 intro pins s σ H D I h;refine plainObj_wpAny_Assign_Attribute (gO (hv pins s σ H _ I h) fun u s1 ⟨y,H1,I1,ry,q⟩=>gO (ha pins s1 σ H1 _ I1 q) fun ov s2 ⟨x,H2,I2,rx,e,C,ex,ea,n,q2⟩=>?_) hs;subst ex;obtain rfl:ov=Value.ref e:=rx;obtain⟨⟨t0,z⟩,_⟩:=I2.hok e _ ea;have hf:H2 s2.heap.objs.size=none:=I2.fresh;have ne:s2.heap.objs.size≠e:=Nat.ne_of_gt (lZ z);refine XF I2.oA n z fun h' t' z1 z2 z3=>⟨σ,_,?_,q2 _ hf ne⟩;have d1:∃ ob,h'.get? s2.heap.objs.size=some ob:=let ⟨ob,_,_,e,_⟩:=z2;⟨ob,e⟩;have hnew:s2.heap.get? s2.heap.objs.size=none:=Heap.get?_none_of_le (jj _);refine I2.un ⟨fun b u q n _ _=>z3 b u (fun y=>by subst y;rw[n]at ea;cases ea) q,fun b u q n _ _=>⟨u.slots,z3 b u (fun y=>by subst y;rw[n]at ea;cases ea) q⟩,fun b u q n _=>?_,fun b u q _=>?_,fun b xs q=>?_,fun b u xs q=>?_,fun b ps q=>⟨#[],?_⟩⟩ fun b u q=>?_
 ·rw[zQ (fun y=>by subst y;rw[n]at ea;cases ea),zQ (fun y=>by subst y;rw[hnew]at q;cases q)];exact n
 ·by_cases hb:b=e
  ·subst hb;exact⟨_,z1⟩
  ·exact⟨u,z3 b u hb q⟩
 ·rw[zQ (KJ q ea nofun),zQ (zM q hf)];exact q
 ·rw[zQ (KJ q ea nofun),zQ (zM q hf)];exact q
 ·rw[zQ (KJ q ea nofun),zQ (zM q hf),q];simp
 ·by_cases hb:b=e
  ·subst hb;rw[zC]at q
   cases q
   exact BR ⟨t0,z1⟩
  ·rw[zQ hb]at q
   by_cases hx:b=s2.heap.objs.size
   ·subst hx;rw[zC]at q
    cases q
    refine⟨_,z2,fun y=>?_⟩
    by_cases k:y=f
    ·subst k;show uy (List.lookup y [(y,_)]) (if y=y then some u else none);rw[if_pos rfl,List.lookup_cons_self];exact ry
    ·show uy (List.lookup y [(f,_)]) (if y=f then some u else none)
     have z5:(y==f)=false:=by simpa using k
     rw[if_neg k,List.lookup_cons,z5];exact True.intro
   ·rw[zQ hx]at q;refine (I2.hok b u q).stay (fun c v hc y=>z3 c v (fun k=>?_) y) (fun c y=>?_) fun c xs y=>?_
    ·rcases hc with k2 | k2
     ·exact hb (k2.symm.trans k)
     ·rw[k,ea]at k2;cases k2
    ·rw[zQ (KJ y ea nofun),zQ (zM y hf)];exact y
    ·rw[zQ (KJ y ea nofun),zQ (zM y hf)];exact y
end
end L2
namespace L2
open PySem PySem.Spec PyProof.Rows
section
variable{M:Model}{A:Around}{E:Value->Shared->Prop}{s:Shared}{base:Heap}{env:Env}{outer:List Env}{L e:Addr}{cls a0 fl:Value}{dd:Option Addr}{Q:Unit->Shared->Prop}
theorem RV(hfr:A.frames=some (env::outer))(hf:env.frame=some L)(hkb:base.StaysIn s.heap)(hb:base.get? e=none)(hl:s.heap.FunFrames base (env::outer))(ht:s.heap.TracedAtW base e cls a0 fl)(x:DictAt s.heap e dd)
  (hQ:∀ h',Heap.FlyingW base outer e cls a0 h'->s.heap.UpToSlots h'->DictAt h' e dd->Q () { s with heap:=h' }):wpAny M A (leaving env (.ref e)) Q E s:=by
 by_cases hfl:fl=rawInt L
 ·subst hfl;unfold leaving;refine wpAny_bind (wpAny_noteFrame_againW hf ht (Nx ⟨hkb,hb,hl,ht⟩ x fun h' ⟨k1,k2,⟨_,_,k3⟩,k4⟩ sl dk=>hQ h' ⟨k1,k2,k3,k4⟩ sl dk))
 ·obtain⟨oe,vs,T,oT,ts,he,⟨hc,h0⟩,hd,h1,hnT,hTe,hT,hdT,h3⟩:=ht;subst hc;unfold leaving noteFrame;simp only[hf];refine wpAny_bind (wpAny_bind (wpAny_field he hd h1 ?_));rw[if_pos (show (Value.ref T != Value.none)=true by simp)];refine wpAny_bind (wpAny_field hT hdT h3 ?_);rw[if_neg (show ¬ ((fl==rawInt L)=true) by simpa using hfl)];refine wpAny_bind (wpAny_setField hT hdT (Array.getElem?_eq_some_iff.mp h3).1 ?_);have other:∀ b,b≠T->(s.heap.update T (Obj.mapFields (·.setIfInBounds 3 Value.none))).get? b=s.heap.get? b:=fun b z=>Heap.get?_update_other _ _ (Ne.symm z)
  have KH:∀ b o,s.heap.get? b=some o->(∀ vs,o.data≠.fields vs)->b≠T:=fun b o z1 z2 z=>by
   subst z;rw[hT]at z1
   cases z1
   exact z2 ts hdT
  have hl1:(s.heap.update T (Obj.mapFields (·.setIfInBounds 3 Value.none))).FunFrames base (env::outer):=hl.of_keeps fun b o z1 z2=>⟨o,(other b (KH b o z1 z2)).trans z1,rfl⟩;have TY:=(other e (Ne.symm hTe)).trans he;have x1:DictAt (s.heap.update T (Obj.mapFields (·.setIfInBounds 3 Value.none))) e dd:=x.upd hT hdT;have hsz:=(Array.getElem?_eq_some_iff.mp h1).1
  refine wpAny_mono (gK (wpAny_newEntryW (s:={ s with heap:=s.heap.update T (Obj.mapFields (·.setIfInBounds 3 Value.none)) }) (Q:=fun _ s'=>∃ h',s' = { s with heap:=h' }/\Heap.LeftW base (env::outer) e oe.cls a0 (s.heap.update T (Obj.mapFields (·.setIfInBounds 3 Value.none))) h') hfr hl1 hf TY
   (fun b o z=>(other b fun q=>by rw[q,hnT]at z;cases z).trans (hkb b o z)) hb hd hsz h0 fun h' k=>⟨h',rfl,k⟩)
   (nR (s:={ s with heap:=s.heap.update T (Obj.mapFields (·.setIfInBounds 3 Value.none)) }) (Q:=fun _ s'=>wpAny M A (setFlight (.ref e) none) (fun _ s2=>DictAt s2.heap e dd) E s') hfr hl1 hf TY hd hsz x1 fun h2 T2 oT2 ts2 y1 ⟨oe',vs',q1,q2,q3⟩ q4 q5 q6=>?_))
   (fun _ s2 z=>wpAny_mono (gK z.1 z.2) (fun _ s3 ⟨⟨h',y,k1,⟨_,_,k2⟩,k3,k4⟩,k5⟩=>by subst y;exact hQ h' ⟨k1,hb,k2,k3⟩ (fun b o z1 z2=>k4 b o ((other b (KH b o z1 z2)).trans z1) z2) k5) fun _ _ y=>y) fun _ _ y=>y
  unfold setFlight;refine wpAny_bind (wpAny_field q1 q2 q3 ?_);rw[if_pos (show (Value.ref T2 != Value.none)=true by simp)];exact wpAny_setField q4 q5 q6 (y1.upd q4 q5)
end
noncomputable def wX(X:Cx)(E:XK):Prop:=∀(pins:List (Addr×Obj))(σ:St)(H1:Hp)(s1:Shared)(ea:Addr)(cls a0 fl:Value)(dd:Option Addr)(H':Hp)(B:Heap)(s':Shared),Inv X pins σ H1 s1->s'.os=X.s₀.os->AllBare s'.gens →
 B.StaysIn s'.heap->B.get? ea=none->s'.heap.FunFrames B X.stack->s'.heap.TracedAtW B ea cls a0 fl->qM X.prog X.w H' s'.heap->Un (frs X.outer) [] X.H₀ H' X.s₀.heap s'.heap->(∀ b,(H' b).isSome=true->∃ o,s'.heap.get? b=some o/\B.get? b=some o) →
 (∀ b o,X.s₀.heap.get? b=some o->b∉frs X.outer->∃ o',s'.heap.get? b=some o'/\B.get? b=some o')->DictAt s'.heap ea dd->E cls dd H'->X.xe (.ref ea) s'
section
variable{P:Program}{w:World}{K:cZ}{mg:Str->Option Value}{base:Heap}{N:List Str}{qual:Str}{scope:Scope}{f:Addr}{cd:Value}{A:Around}{outer:List Env}{s:Shared}{H:Hp}{E E':XK}
theorem qCW(hE:∀ c d H,E' c d H->E c d H):wX (pI (lB P w) P w K mg base N qual scope f cd A outer s H E) E':=by
 intro pins σ H1 s1 ea cls a0 fl dd H' B s' I ho hg st hb hl ht hok un hB hC hdd hq;show wpAny _ _ (leaving _ (.ref ea)) _ _ s';refine RV (L:=s.heap.objs.size) I.ok.frames rfl st hb hl ht hdd fun h' Vf sl dk=>?_;refine⟨ea,cls,a0,H',B,rfl,ho,hg,Vf,hok.flown hB Vf.1,un.flown hC Vf.1 sl I.xT,fun b hb=>?_,fun b ob q hb=>?_,dd,dk,hE _ _ _ hq⟩
 ·obtain⟨ob,_,e2⟩:=hB b hb;exact⟨ob,Vf.1 b _ e2,e2⟩
 ·obtain⟨o',_,e2⟩:=hC b ob q hb;exact⟨o',Vf.1 b _ e2,e2⟩
end
section
variable{X:Cx}{pins:List (Addr×Obj)}{σ:St}{H2:Hp}{s2:Shared}{C:Addr}{m:Str->Option Value}{sc:Scope}{cl:List (Str×Addr)}{EX:XK}
end
section
variable{X:Cx}{elt iter:Expr}{x:Str}{px pos:Pos}{ifs:List Expr}{scope:Scope}{cG:List (Nat×Str)}{wi:TI}{tc:TT}{te:TE}
end
section
variable{M:Model}{A:Around}{E:Value->Shared->Prop}{s:Shared}{base:Heap}{env:Env}{outer:List Env}{L e:Addr}{cls a0 fl:Value}{dd:Option Addr}{Q:Unit->Shared->Prop}
theorem Ux(hfr:A.frames=some (env::outer))(hf:env.frame=some L)(hkb:base.StaysIn s.heap)(hb:base.get? e=none)(hl:s.heap.FunFrames base (env::outer))(ht:s.heap.TracedAtW base e cls a0 fl)(x:DictAt s.heap e dd)
  (hQ:∀ h',Heap.HeldW base (env::outer) e cls a0 L h'->s.heap.UpToSlots h'->DictAt h' e dd->Q () { s with heap:=h' }):wpAny M A (noteFrame (.ref e) env) Q E s:=by
 by_cases hfl:fl=rawInt L
 ·subst hfl;exact wpAny_noteFrame_againW hf ht (hQ s.heap ⟨hkb,hb,hl,ht⟩ (Heap.UpToSlots.refl _) x)
 ·obtain⟨oe,vs,T,oT,ts,he,⟨hc,h0⟩,hd,h1,hnT,hTe,hT,hdT,h3⟩:=ht;subst hc;unfold noteFrame;simp only[hf];refine wpAny_bind (wpAny_field he hd h1 ?_);rw[if_pos (show (Value.ref T != Value.none)=true by simp)];refine wpAny_bind (wpAny_field hT hdT h3 ?_);rw[if_neg (show ¬ ((fl==rawInt L)=true) by simpa using hfl)];refine wpAny_bind (wpAny_setField hT hdT (Array.getElem?_eq_some_iff.mp h3).1 ?_);have other:∀ b,b≠T->(s.heap.update T (Obj.mapFields (·.setIfInBounds 3 Value.none))).get? b=s.heap.get? b:=fun b z=>Heap.get?_update_other _ _ (Ne.symm z)
  have KH:∀ b o,s.heap.get? b=some o->(∀ vs,o.data≠.fields vs)->b≠T:=fun b o z1 z2 z=>by
   subst z;rw[hT]at z1
   cases z1
   exact z2 ts hdT
  have hl1:(s.heap.update T (Obj.mapFields (·.setIfInBounds 3 Value.none))).FunFrames base (env::outer):=hl.of_keeps fun b o z1 z2=>⟨o,(other b (KH b o z1 z2)).trans z1,rfl⟩;have TY:=(other e (Ne.symm hTe)).trans he;have hsz:=(Array.getElem?_eq_some_iff.mp h1).1
  refine wpAny_mono (gK (wpAny_entryW (s:={ s with heap:=s.heap.update T (Obj.mapFields (·.setIfInBounds 3 Value.none)) }) (Q:=fun _ s'=>∃ h',s' = { s with heap:=h' }/\Heap.NotedW base (env::outer) e oe.cls a0 (rawInt L) (s.heap.update T (Obj.mapFields (·.setIfInBounds 3 Value.none))) h') hfr hl1 hf TY
   (fun b o z=>(other b fun q=>by rw[q,hnT]at z;cases z).trans (hkb b o z)) hb hd hsz h0 fun h' k=>⟨h',rfl,k⟩)
   (nR (s:={ s with heap:=s.heap.update T (Obj.mapFields (·.setIfInBounds 3 Value.none)) }) (Q:=fun _ s'=>DictAt s'.heap e dd) hfr hl1 hf TY hd hsz (x.upd hT hdT) fun _ _ _ _ z _ _ _ _=>z))
   (fun _ s3 ⟨⟨h',y,k1,k2,k3,k4⟩,k5⟩=>by subst y;exact hQ h' ⟨k1,hb,k2,k3⟩ (fun b o z1 z2=>k4 b o ((other b (KH b o z1 z2)).trans z1) z2) k5) fun _ _ y=>y
end
noncomputable def qC3(X:Cx)(E:XK)(e:Value)(s':Shared):Prop:=∃(ea:Addr)(cls a0 fl:Value)(dd:Option Addr)(H':Hp)(B:Heap),e = .ref ea/\X.A.frames=some X.stack/\(∀ b∈frs X.outer,X.H₀ b=none/\∃ ob,X.s₀.heap.get? b=some ob/\∀ vs,ob.data≠.fields vs)/\s'.os=X.s₀.os/\AllBare s'.gens ∧
 B.StaysIn s'.heap/\B.get? ea=none/\s'.heap.FunFrames B X.stack/\s'.heap.TracedAtW B ea cls a0 fl/\qM X.prog X.w H' s'.heap/\Un (frs X.outer) [] X.H₀ H' X.s₀.heap s'.heap/\(∀ b,(H' b).isSome=true->∃ o,s'.heap.get? b=some o/\B.get? b=some o) ∧
 (∀ b o,X.s₀.heap.get? b=some o->b∉frs X.outer->∃ o',s'.heap.get? b=some o'/\B.get? b=some o')/\DictAt s'.heap ea dd/\E cls dd H'
section
variable{X:Cx}{E:XK}
theorem YL(hst:X.stack=X.env::X.outer)(hfr:X.env.frame=some X.env.locals):PassesOwn (model X.prog X.w) X.A X.env (qC3 X E):=by
 rintro e s' ⟨ea,cls,a0,fl,dd,H',B,rfl,hA,hO,ho,hg,st,hb,hl,ht,hok,un,hB,hC,hdd,hq⟩;have hA':=hA;rw[hst]at hA' hl;refine Ux hA' hfr st hb hl ht hdd fun h' held sl dk=>?_;obtain⟨k1,k2,k3,oe,vs,T,oT,ts,he,hcl,hd,h1,hnT,hTe,hT,hdT,h3⟩:=held;have sz3:=(Array.getElem?_eq_some_iff.mp h3).1;refine wpAny_bind (wpAny_field he hd h1 ?_);rw[if_neg (show ¬ ((Value.ref T==Value.none)=true) by simp)];show wpAny _ _ (setFlight (.ref ea) X.env.frame) _ _ _;unfold setFlight;refine wpAny_bind (wpAny_field he hd h1 ?_);rw[if_pos (show (Value.ref T != Value.none)=true by simp)];refine wpAny_setField hT hdT sz3 ?_;generalize hfv:(X.env.frame.elim Value.none fun f=>rawInt f)=fv;generalize hh6:h'.update T (Obj.mapFields (·.setIfInBounds 3 fv))=h6
 have o6:∀ b,b≠T->h6.get? b=h'.get? b:=fun b z=>by rw[<-hh6];exact Heap.get?_update_other _ _ (Ne.symm z)
 have T6:h6.get? T=some (oT.mapFields (·.setIfInBounds 3 fv)):=by rw[<-hh6];exact Heap.get?_update_self _ hT (Obj.isFreed_of_fields (Obj.data_mapFields hdT _))
 have noT:∀ b o,h'.get? b=some o->(∀ vs,o.data≠.fields vs)->b≠T:=fun b o z1 z2 z=>by
  subst z;rw[hT]at z1
  cases z1
  exact z2 ts hdT
 have st6:B.StaysIn h6:=fun b o z=>(o6 b (fun y=>by rw[y,hnT]at z;cases z)).trans (k1 b o z)
 have sl6:s'.heap.UpToSlots h6:=fun b o z1 z2=>by
  obtain⟨sl1,y⟩:=sl b o z1 z2;exact⟨sl1,(o6 b (noT b _ y z2)).trans y⟩
 refine⟨ea,cls,a0,fv,dd,H',B,rfl,hA,hO,ho,hg,st6,hb,?_,⟨oe,vs,T,_,_,(o6 ea (Ne.symm hTe)).trans he,hcl,hd,h1,hnT,hTe,T6,Obj.data_mapFields hdT _,by simp [sz3]⟩,hok.flown hB st6,un.flown hC st6 sl6 hO,fun b z=>?_,fun b o z1 z2=>?_,?_,hq⟩
 ·rw[hst];exact k3.of_keeps fun b o z1 z2=>⟨o,(o6 b (noT b o z1 z2)).trans z1,rfl⟩
 ·obtain⟨o,_,y⟩:=hB b z;exact⟨o,st6 b o y,y⟩
 ·obtain⟨o',_,y⟩:=hC b o z1 z2;exact⟨o',st6 b _ y,y⟩
 ·obtain⟨o1,y1,y2⟩:=dk;have:h'.get? ea=some o1:=y1;rw[he]at this
  cases this
  exact⟨_,(o6 ea (Ne.symm hTe)).trans he,y2⟩
theorem qAT{E':XK}(hE:∀ c d H,E' c d H->E c d H):wX (X.wish (qC3 X E)) E':=by
 intro pins σ H1 s1 ea cls a0 fl dd H' B s' I ho hg st hb hl ht hok un hB hC hdd hq;have I0:Inv X pins σ H1 s1:=I.iV;exact⟨ea,cls,a0,fl,dd,H',B,rfl,I0.ok.frames,I0.xT,ho,hg,st,hb,hl,ht,hok,un,hB,hC,hdd,hE _ _ _ hq⟩
theorem qAP{st:Stmt}{t:TS}(hp:wX X E)(h:PS (X.wish (qC3 X E)) st t):PS X st t:=fun pins s σ H D I hw=>
 wpAny_mono (h pins s σ H D (I.wish _) hw) (fun _ _ q=>q.iV) fun e s' ⟨ea,cls,a0,fl,dd,H',B,z,_,_,k1,k2,k3,k4,k5,k6,k7,k8,k9,k10,k11,k12⟩=>by
  subst z;exact hp pins σ H s ea cls a0 fl dd H' B s' I k1 k2 k3 k4 k5 k6 k7 k8 k9 k10 k11 k12
end
end L2
namespace DL
open PySem L2
noncomputable def qD(g g':D->D->Rz W)(a b c:FE):FE:=fun ρ=>(a ρ).bind fun x=>(b ρ).bind fun y=>(g x.d y.d).bind fun w=>w.d.b?.bind fun k=>if k=true then (c ρ).bind fun z=>g' y.d z.d else .ok (.fr (.bl false))
noncomputable def j9:D->Rz W
 | .int i=>.ok (.fr (.int (-i)))
 | _=>.st
noncomputable def nF:D->D->Rz W
 | .int i,.int j=>if Jg i j then .ok (.fr (.int (i*j))) else .st
 | .str x,.int n=>if (-1000<=n/\n<=1000)/\x.length<=1000 then .ok (.fr (.str (Txt.mul x n))) else .st
 | _,_=>.st
noncomputable def rC(_K:cZ):R2:=fun x y H Q=>(rI Jg fun i j=>.int (i*j)) x y H Q ∨ ∃(i:Str)(n:Int),x = .str i/\y = .int n/\MulOk i n/\Q (.str (Txt.mul i n)) H
theorem kh{X:Cx}:ni X (binaryOp .Mult) (rC X.K):=ni.or qAW NP
noncomputable def XS(ng:Bool):R2:=fun x y H Q=>y = .non/\Q (.bl (decide (x = .non) != ng)) H
theorem CP{X:Cx}:ni X (compareOp .IsNot) (XS true):=by
 intro pins s σ H x y v u Q I rx ry ⟨e,q⟩;exact Xe pins s σ H x y v u Q I rx ry ⟨e,by simpa using q⟩
noncomputable def xP(K:cZ):List V->Hp->VK->Prop:=fun xs H Q => ∃ p ys,xs=[.ref p]/\((jk K H p ys/\∀ l,H l=none->Q (.ref l) (upd H l (.tup ys)))∨(rM K H p ys/\Q (.ref p) H))
noncomputable def D.tn:D->Option String
 | .non=>some "NoneType"
 | .bl _=>some "bool"
 | .int _=>some "int"
 | .str _=>some "str"
 | .tup _=>some "tuple"
 | .lst _=>some "list"
 | _=>none
noncomputable def isK(T S:String):Option Bool:=if T = "bool" ∨ T = "int" ∨ T = "tuple" ∨ T = "list" ∨ T = "str" then some (S==T||(S == "bool" && T == "int")) else none
noncomputable def OJ(T:String)(f:FE):FE:=fun ρ=>(f ρ).bind fun w=>match w.a.d.tn.bind (isK T) with
 | some b=>.ok (.fr (.bl b))
 | none=>.st
noncomputable def R3(K:cZ)(T:String):List V->Hp->VK->Prop:=fun xs H Q => ∃(x:V)(d:D)(b:Bool),xs=[x,.ty T]/\Rp K H d x/\d.tn.bind (isK T)=some b/\Q (.bl b) H
theorem xj(K:cZ){T S:String}{b:Bool}(hS:S = "NoneType" ∨ S = "bool" ∨ S = "int" ∨ S = "str" ∨ S = "tuple" ∨ S = "list")(h:isK T S=some b):PySem.W.kitOne K (.type S) (.type T)=some b:=by
 unfold isK at h
 split at h
 ·rename_i hT
  rcases hS with rfl | rfl | rfl | rfl | rfl | rfl <;> rcases hT with rfl | rfl | rfl | rfl | rfl <;> (cases h;rfl)
 ·cases h
theorem Dr{X:Cx}{T:String}:nu X (.builtin "isinstance") (R3 X.K T):=by
 intro pins s σ H xs us Q I r h;obtain⟨x,d,b,rfl,rp,e,q⟩:=h;obtain⟨u,w',rfl,r1,r2⟩:=vals2 r
 cases (show w'=Value.type T from r2)
 cases d with
 | non=>cases (show _=_ from rp);exact pW I r1 .non (xj _ (.inl rfl) e) fun tk=>⟨.bl b,H,I.tok tk,rfl,q⟩
 | bl c=>cases (show _=_ from rp);exact pW I r1 (.bl c) (xj _ (.inr (.inl rfl)) e) fun tk=>⟨.bl b,H,I.tok tk,rfl,q⟩
 | int i=>cases (show _=_ from rp);exact pW I r1 (.int i) (xj _ (.inr (.inr (.inl rfl))) e) fun tk=>⟨.bl b,H,I.tok tk,rfl,q⟩
 | str z=>cases (show _=_ from rp);exact pW I r1 (.str z) (xj _ (.inr (.inr (.inr (.inl rfl)))) e) fun tk=>⟨.bl b,H,I.tok tk,rfl,q⟩
 | lst l=>
  obtain⟨p,vs,rfl,hz,_⟩:=rp;exact pW I r1 (.lst hz) (xj _ (.inr (.inr (.inr (.inr (.inr rfl))))) e) fun tk=>⟨.bl b,H,I.tok tk,rfl,q⟩
 | tup l=>
  obtain⟨p,vs,rfl,hz,_⟩:=rp
  cases (show u=Value.ref p from r1)
  obtain⟨its,_,ob,h1,h2,_⟩:=wF I hz;exact PySem.W.kia_one PySem.W.kitx_tuple I.oA ⟨ob,h1,h2⟩ (xj _ (.inr (.inr (.inr (.inr (.inl rfl))))) e) (fun z=>nomatch z) fun tk=>⟨.bl b,H,I.tok tk,rfl,q⟩
 | d8 l=>cases e
 | obj C fs=>cases e
noncomputable def D.wF:String->D->Bool
 | "str",.str _=>true
 | "list",.lst _=>true
 | _,_=>false
noncomputable def fM(T:String)(g:D->List D->Rz W)(o:FE)(a:FA):FE:=fun ρ=>(o ρ).bind fun w=>if w.d.wF T=true then (a ρ).bind fun ws=>g w.d (ws.map W.d) else .st
noncomputable def MD(G:Gm)(r:V->List V->Hp->VK->Prop)(g:D->List D->Rz W):Prop:=∀ B H ρ σ x d vs ds Q,Own G B H ρ σ->Rq G.K B H d x->(∃ ws:List W,ds=ws.map W.d/\M9 G B H ws vs)->dH G B H ρ σ Q (g d ds)->r x vs H Q
noncomputable def N7:V->List V->Hp->VK->Prop:=fun x xs H Q => ∃ a b:Str,x = .str a/\xs=[.str b]/\(b.length==0)=false/\a.length<=sizeLine/\(Txt.split a b).length<=sizeLine/\∀ p,H p=none->Q (.ref p) (upd H p (.lst ((Txt.split a b).map V.str)))
noncomputable def HB:D->List D->Rz W
 | .str a,[.str b]=>if (b.length==0)=false/\a.length<=sizeLine/\(Txt.split a b).length<=sizeLine then .ok (.ow ((Txt.split a b).map D.str)) else .st
 | _,_=>.st
noncomputable def xJ:List D->Option (List Str)
 | []=>some []
 | .str x::l=>(xJ l).map (x :: ·)
 | _=>none
noncomputable def Ud(K:cZ):V->List V->Hp->VK->Prop:=fun x xs H Q => ∃(a:Str)(p:Addr)(ys:List Str),x = .str a/\xs=[.ref p]/\jk K H p (ys.map V.str)/\(ys.map (·.length)).sum+ys.length*a.length<=16777216/\Q (.str (Txt.join a ys)) H
noncomputable def zr:D->List D->Rz W
 | .str a,[.lst l]=>match xJ l with
  | some ys=>if (ys.map (·.length)).sum+ys.length*a.length<=16777216 then .ok (.fr (.str (Txt.join a ys))) else .st
  | none=>.st
 | _,_=>.st
noncomputable def VG(x:Str)(l:List Str):Rz W:=match l.findIdx? (· == x) with
 | some j=>if l.length<=1000 then .ok (.fr (.int (j:Int))) else .st
 | none=>.st
noncomputable def VH:D->List D->Rz W
 | .lst l,[.str x]=>match xJ l with
  | some ys=>VG x ys
  | none=>.st
 | _,_=>.st
section
variable{G:Gm}{ta tb tc:TE}{fa fb fc:FE}{tr:TA}{fr:FA}
theorem t6{r r':R2}{g g':D->D->Rz W}(ho:OD G r g)(ho':OD G r' g')(ha:DE G ta fa)(hb:DE G tb fb)(hc:DE G tc fc):DE G (Tw r r' ta tb tc) (qD g g' fa fb fc):=by
 intro B H ρ σ Q o h;refine ha.then o (P:=dH G B H ρ σ Q) h (fun z=>z) (fun z=>z) fun w1 z v1 B1 H1 o1 x1 q1=>?_;refine hb.then o1 (P:=dH G B H ρ σ Q) z (fun y H' a b=>y H' a (x1.sb.trans b)) (fun y=>y) fun w2 z2 v2 B2 H2 o2 x2 q2=>?_;refine ho B2 H2 ρ σ v1 v2 _ _ _ o2 ((q1.hr.mono x2.sb x2.sh).rq o2.sb) (q2.rq o2.sb) ?_;have x12:=x1.trans x2
 cases e:g w1.d w2.d with
 | st=>rw[e]at z2;exact z2
 | ex=>rw[e]at z2;exact fun H' a b=>z2 H' a (x12.sb.trans b)
 | ok w3=>
  rw[e]at z2;intro v3 B3 H3 o3 x3 q3;obtain⟨k,ek,z3⟩:=WQ (P:=dH G B H ρ σ Q) z2 (fun y=>y) (q3.rq o3.sb);refine⟨k,ek,?_⟩
  cases k with
  | false=>
   rw[if_neg pK]at z3 ⊢;exact dH.now o3 (z3.on (x12.trans x3)) (by exact rfl)
  | true=>
   rw[if_pos rfl]at z3 ⊢;have x123:=x12.trans x3;refine hc.then o3 (P:=dH G B H ρ σ Q) z3 (fun y H' a b=>y H' a (x123.sb.trans b)) (fun y=>y) fun w4 z4 v4 B4 H4 o4 x4 q4=>?_;exact ho' B4 H4 ρ σ v2 v4 _ _ Q o4 ((q2.hr.mono (x3.trans x4).sb (x3.trans x4).sh).rq o4.sb) (q4.rq o4.sb) (z4.on (x123.trans x4))
theorem lM:UD G (rU fun i=>.int (-i)) j9:=by
 intro B H ρ σ x dx Q o hx h;unfold j9 at h
 split at h
 ·exact⟨_,hx,dH.now o h (by exact rfl)⟩
 ·exact h.elim
theorem p6{x:Str}{n:Int}(h:(-1000<=n/\n<=1000)/\x.length<=1000):MulOk x n:=by
 obtain⟨⟨h1,h2⟩,h3⟩:=h;refine⟨?_,fun h4 _=>?_,fun h4 _=>?_⟩
 ·rw[decide_eq_false (by omega),decide_eq_false (by omega)];rfl
 ·have:(1000:Int)<=(2 ^ 63-1)/n:=Int.le_ediv_of_mul_le (by omega) (by omega);omega
 ·have h5:x.length*n.toNat<=1000*1000:=Nat.mul_le_mul h3 (by omega);unfold Builtin.Str.tooLong
  have h6:1000*1000<=sizeLine:=by decide
  exact decide_eq_false (by omega)
theorem oh:OD G (rC G.K) nF:=by
 intro B H ρ σ x y dx dy Q o hx hy h;unfold nF at h
 split at h
 ·split at h
  ·rename_i e
   exact .inl ⟨_,_,hx,hy,e,dH.now o h (by exact rfl)⟩
  ·exact h.elim
 ·split at h
  ·rename_i e
   exact .inr ⟨_,_,hx,hy,p6 e,dH.now o h (by exact rfl)⟩
  ·exact h.elim
 ·exact h.elim
theorem ZX{ng:Bool}:OD G (XS ng) (Ze ng):=qB2 fun _ _ _ q=>⟨rfl,q⟩
theorem Vz{T:String}(ha:DE G ta fa):DE G (tCB (R3 G.K T) (uJ ta (uJ (tC (.ty T)) xG))) (OJ T fa):=by
 intro B H ρ σ Q o h;refine ha.then o (P:=dH G B H ρ σ Q) h (fun z=>z) (fun z=>z) fun w z v B1 H1 o1 x1 q1=>?_;show R3 G.K T [v,.ty T] H1 Q;have z':=z.on x1
 have ed:w.a.d=w.d:=by cases w <;> rfl
 rw[ed]at z'
 cases e:w.d.tn.bind (isK T) with
 | none=>rw[e]at z';exact z'.elim
 | some b=>
  rw[e]at z';exact⟨v,w.d,b,rfl,(q1.rq o1.sb).rp o1.sb (fun C fs ez=>by rw[ez]at e;cases e),e,dH.now o1 z' (by exact rfl)⟩
theorem rJ{T:String}{r:V->List V->Hp->VK->Prop}{g:D->List D->Rz W}(hm:MD G r g)(ha:DE G ta fa)(hr:DA G tr fr):DE G (tBM G.K T r ta tr) (fM T g fa fr):=by
 intro B H ρ σ Q o h;refine ha.then o (P:=dH G B H ρ σ Q) h (fun z=>z) (fun z=>z) fun w z v B1 H1 o1 x1 q1=>?_;obtain⟨ht,z⟩:=dg (P:=dH G B H ρ σ Q) z (fun y=>y);refine⟨?_,?_⟩
 ·have q:=q1.rq o1.sb;unfold D.wF at ht
  split at ht
  ·rename_i e
   rw[e]at q
   cases (show _=_ from q)
   rfl
  ·rename_i e
   rw[e]at q;obtain⟨p,vs,rfl,hz,_⟩:=q;exact .inl ⟨rfl,vs,jk.of hz⟩
  ·cases ht
 ·refine hr.then o1 (P:=dH G B H ρ σ Q) z (fun y H' a b=>y H' a (x1.sb.trans b)) (fun y=>y) fun ws z2 vs B2 H2 o2 x2 q2=>?_;exact hm B2 H2 ρ σ v _ vs _ Q o2 ((q1.hr.mono x2.sb x2.sh).rq o2.sb) ⟨ws,rfl,q2⟩ (z2.on (x1.trans x2))
theorem fL.xJ:∀ {K:cZ} {B:Hp} (l:List Str),fL K B (l.map D.str) (l.map V.str)
 | _,_,[]=>rfl
 | _,_,_::l=>⟨_,_,rfl,rfl,fL.xJ l⟩
theorem Gz{K:cZ}{B:Hp}:∀ {l:List D} {ys:List Str} {vs:List V},xJ l=some ys->fL K B l vs->vs=ys.map V.str
 | [],_,_,e,r=>by cases e;exact r
 | .str b::l,_,_,e,⟨v,ws,z,q,r⟩=>by
  rw[xJ]at e
  cases e2:xJ l with
  | none=>rw[e2]at e;cases e
  | some bs=>
   rw[e2]at e
   cases e
   cases (show _=_ from q)
   rw[z,Gz e2 r];rfl
theorem KZ:MD G N7 HB:=by
 intro B H ρ σ x d vs ds Q o hx a h;unfold HB at h
 split at h
 ·obtain⟨v,rfl,q⟩:=arg1 o.sb a
  cases (show _=_ from hx)
  cases (show _=_ from q)
  split at h
  ·rename_i e
   exact⟨_,_,rfl,rfl,e.1,e.2.1,e.2.2,fun p hp=>dH.own o h (fL.xJ _) hp⟩
  ·exact h.elim
 ·exact h.elim
theorem Xo:MD G (Ud G.K) zr:=by
 intro B H ρ σ x d vs ds Q o hx a h;unfold zr at h
 split at h
 ·obtain⟨v,rfl,p,ws,rfl,hz,r⟩:=arg1 o.sb a
  cases (show _=_ from hx)
  split at h
  ·rename_i ys e
   split at h
   ·rename_i e2
    rw[Gz e r]at hz;exact⟨_,p,ys,rfl,rfl,jk.of hz,e2,dH.now o h (by exact rfl)⟩
   ·exact h.elim
  ·exact h.elim
 ·exact h.elim
theorem qB9:MD G Ue VH:=by
 intro B H ρ σ x d vs ds Q o hx a h;unfold VH at h
 split at h
 ·obtain⟨v,rfl,q⟩:=arg1 o.sb a
  cases (show _=_ from q)
  obtain⟨p,ws,rfl,hz,r⟩:=hx
  split at h
  ·rename_i ys e
   rw[Gz e r]at hz;unfold VG at h
   split at h
   ·rename_i j ej
    split at h
    ·rename_i e2
     obtain⟨hj,h1,h2⟩:=List.findIdx?_eq_some_iff_getElem.mp ej;refine⟨p,ys,_,j,rfl,rfl,hz,⟨hj,by simpa using h1⟩,fun m hm hmj=>by have:=h2 m hmj;simpa using this,e2,dH.now o h (by exact rfl)⟩
    ·exact h.elim
   ·exact h.elim
  ·exact h.elim
 ·exact h.elim
end
noncomputable def HW:FS:=fun _=>.ex
theorem Dg{G:Gm}{x:Str}:DS G (Tr G.C G.E (uJ (tC (.str x)) xG)) HW:=by
 intro B H ρ σ D o h;exact⟨by show 1<=sizeLine;decide,h H o.s0 o.sb⟩
section
variable{P:Program}{w:World}{K:cZ}{mg:Str->Option Value}{base:Heap}
theorem Ei{x qual:Str}{st:Stmt}{f:Addr}{fd:FuncData}{N ps:List Str}{k:Nat}{C:Addr}{g:FS}(F:jJ K x qual st f fd)(S:aq N ps (aP st))
  (hb:∀(cdv:Value)(A:Around)(outer:List Env)(s:Shared)(H:Hp)(E:XK),iC k (A.deeper (PyProof.Rows.envOfC qual (aP st) s.heap.objs.size f cdv)) →
   ∃ t,JV (pI (lB P w) P w K mg base N qual (aP st) f cdv A outer s H E) (iT st) t/\DS ⟨K,H,E,C,none⟩ t g):bc P w K mg base (lB P w) (k+1) f fd ps (dB K C (eG N.length g) ps.length):=by
 refine F.okX S (fun vs H Q E h=>h.1) fun cdv A outer s H vs Q E hr h=>?_;obtain⟨t,h1,h2⟩:=hb cdv A outer s H E hr;exact⟨t,h1,WM S.pre h h2⟩
end
noncomputable def BJ:V->List V->Hp->VK->Prop:=fun x xs H Q => ∃ a b,x = .str a/\xs=[.str b]/\Q (.bl (Txt.startswith a b)) H
noncomputable def vJ:D->List D->Rz W
 | .str a,[.str b]=>.ok (.fr (.bl (Txt.startswith a b)))
 | _,_=>.st
noncomputable def Q3:V->List V->Hp->VK->Prop:=fun x xs H Q => ∃ a b i rest,x = .str a/\xs=[.str b]/\Builtin.Str.occurrences a b 0 a.length 1=i::rest/\Q (.int ((i:Nat):Int)) H
noncomputable def HH:D->List D->Rz W
 | .str a,[.str b]=>match Builtin.Str.occurrences a b 0 a.length 1 with
  | i::_=>.ok (.fr (.int ((i:Nat):Int)))
  | []=>.st
 | _,_=>.st
noncomputable def BK:V->List V->Hp->VK->Prop:=fun x xs H Q => ∃ a b,x = .str a/\xs=[.str b]/\a.length<=sizeLine/\Q (.str (Txt.lstripChars a b)) H
noncomputable def fZ:D->List D->Rz W
 | .str a,[.str b]=>if a.length<=sizeLine then .ok (.fr (.str (Txt.lstripChars a b))) else .st
 | _,_=>.st
noncomputable def Jy(a b:Str):List Str:=match Builtin.Str.occurrences a b 0 a.length 1 with
 | i::_=>[Builtin.Str.strSub a 0 i,b,Builtin.Str.strSub a (i+b.length) a.length]
 | []=>[a,Str.empty,Str.empty]
noncomputable def Q4:V->List V->Hp->VK->Prop:=fun x xs H Q => ∃ a b,x = .str a/\xs=[.str b]/\(b.length==0)=false/\a.length<=sizeLine/\∀ p,H p=none->Q (.ref p) (upd H p (.tup ((Jy a b).map V.str)))
noncomputable def rF:D->List D->Rz W
 | .str a,[.str b]=>if (b.length==0)=false/\a.length<=sizeLine then .ok (.fr (.tup ((Jy a b).map D.str))) else .st
 | _,_=>.st
section
variable{X:Cx}
theorem GC:MtR X "str.lstrip" BK:=by
 intro pins s σ H x xs v us Q I rx rs h;obtain⟨a,b,rfl,rfl,hz,q⟩:=h;obtain⟨t,rfl⟩:=rx;obtain⟨u,rfl,t',rfl⟩:=vals1 rs;exact SC.lstripChars (fun t2 k=>⟨.str _,H,I.tok k,⟨_,rfl⟩,q⟩) hz
theorem w6:MtR X "str.partition" Q4:=by
 intro pins s σ H x xs v us Q I rx rs h;obtain⟨a,b,rfl,rfl,hb,hz,q⟩:=h;obtain⟨t,rfl⟩:=rx;obtain⟨u,rfl,t',rfl⟩:=vals1 rs;refine call_meets F.slot_str_partition (typeIs_str _ _ _) F.entry_str_partition (F.args_str_partition_2 _ _) (meets_str_partition a b t t' hb hz) ?_;have q':=q _ I.fresh;unfold Jy at q'
 cases e:Builtin.Str.occurrences a b 0 a.length 1 with
 | nil=>
  rw[e]at q'
  dsimp only
  refine⟨.ref _,_,I.laid (t':=_) (o:=.tup ([a,Str.empty,Str.empty].map V.str)) (fun b u e=>mV _ e) (jj _) ?_,rfl,q'⟩;exact⟨by show 3<=sizeLine;decide,_,.cons ⟨_,rfl⟩ (.cons ⟨_,rfl⟩ (.cons ⟨_,rfl⟩ .nil)),⟨_,wj _ rfl,rfl,_,rfl⟩⟩
 | cons i r=>
  rw[e]at q'
  dsimp only
  refine⟨.ref _,_,I.laid (t':=_) (o:=.tup ([Builtin.Str.strSub a 0 i,b,Builtin.Str.strSub a (i+b.length) a.length].map V.str)) (fun b u e=>mV _ e) (jj _) ?_,rfl,q'⟩;exact⟨by show 3<=sizeLine;decide,_,.cons ⟨_,rfl⟩ (.cons ⟨_,rfl⟩ (.cons ⟨_,rfl⟩ .nil)),⟨_,wj _ rfl,rfl,_,rfl⟩⟩
end
noncomputable def dR(C:Addr)(f:Str)(a:FE):FE:=fun ρ=>(a ρ).bind fun w=>match w with
 | .fr (.obj C' fs)=>if C'=C then Rf (fs.lookup f) else .st
 | .bj C' fs=>if C'=C then (match fs.lookup f with
  | some (.va d)=>.ok (.fr d)
  | some (.li l)=>.ok (.bw l)
  | none=>.st) else .st
 | _=>.st
noncomputable def Es(C:Addr)(m:Str)(F:List D->Rz D)(n:Nat)(o:FE)(a:FA):FE:=fun ρ=>(o ρ).bind fun w=>match w with
 | .fr (.obj C' fs)=>if C'=C/\fs.lookup m=none then aO F n (fun ρ=>(a ρ).bind fun ws=>.ok (.fr (.obj C' fs)::ws)) ρ else .st
 | .bj C' fs=>if C'=C/\fs.lookup m=none then aO F n (fun ρ=>(a ρ).bind fun ws=>.ok (.bj C' fs::ws)) ρ else .st
 | _=>.st
section
variable{G:Gm}{ta:TE}{fa:FE}{tr:TA}{fr:FA}
theorem xf:MD G BJ vJ:=by
 intro B H ρ σ x d vs ds Q o hx a h;unfold vJ at h
 split at h
 ·obtain⟨v,rfl,q⟩:=arg1 o.sb a
  cases (show _=_ from hx)
  cases (show _=_ from q)
  exact⟨_,_,rfl,rfl,dH.now o h (by exact rfl)⟩
 ·exact h.elim
theorem RM:MD G Q3 HH:=by
 intro B H ρ σ x d vs ds Q o hx a h;unfold HH at h
 split at h
 ·obtain⟨v,rfl,q⟩:=arg1 o.sb a
  cases (show _=_ from hx)
  cases (show _=_ from q)
  split at h
  ·rename_i e
   exact⟨_,_,_,_,rfl,rfl,e,dH.now o h (by exact rfl)⟩
  ·exact h.elim
 ·exact h.elim
theorem GD:MD G BK fZ:=by
 intro B H ρ σ x d vs ds Q o hx a h;unfold fZ at h
 split at h
 ·obtain⟨v,rfl,q⟩:=arg1 o.sb a
  cases (show _=_ from hx)
  cases (show _=_ from q)
  split at h
  ·rename_i e
   exact⟨_,_,rfl,rfl,e,dH.now o h (by exact rfl)⟩
  ·exact h.elim
 ·exact h.elim
theorem QK:MD G Q4 rF:=by
 intro B H ρ σ x d vs ds Q o hx a h;unfold rF at h
 split at h
 ·obtain⟨v,rfl,q⟩:=arg1 o.sb a
  cases (show _=_ from hx)
  cases (show _=_ from q)
  split at h
  ·rename_i e
   exact⟨_,_,rfl,rfl,e.1,e.2,fun p hp=>dH.tup o h (fL.xJ _) hp⟩
  ·exact h.elim
 ·exact h.elim
theorem Qk.look{K:cZ}{B:Hp}{x:Str}:∀ {fs:List (Str×D)} {bW:List (Str×V)},Qk K B fs bW->(∀ d,fs.lookup x=some d->∃ v,bW.lookup x=some v/\Rp K B d v)/\(fs.lookup x=none->bW.lookup x=none)
 | [],_,h=>by cases (show _=_ from h);exact⟨fun _ e=>(by cases e),fun _=>rfl⟩
 | (y,d)::fs,_,⟨v,ws,e,q,r⟩=>by
  obtain⟨h1,h2⟩:=Qk.look (x:=x) r;subst e;rw[List.lookup_cons,List.lookup_cons]
  cases x==y with
  | true=>exact⟨fun d' e=>(by cases e;exact⟨v,rfl,q⟩),fun e=>(by cases e)⟩
  | false=>exact⟨h1,h2⟩
theorem nZ.look{B H:Hp}{x:Str}:∀ {fs:List (Str×Fm)} {bW:List (Str×V)},nZ G B H fs bW->(∀ d,fs.lookup x=some (.va d)->∃ v,bW.lookup x=some v/\Rp G.K B d v)/\(∀ l,fs.lookup x=some (.li l)->∃ p vs,bW.lookup x=some (.ref p)/\p∈adr fs bW/\H p=some (.lst vs)/\B p=none/\G.H0 p=none/\fL G.K B l vs)/\(fs.lookup x=none->bW.lookup x=none)
 | [],_,h=>by cases (show _=_ from h);exact⟨fun _ e=>(by cases e),fun _ e=>(by cases e),fun _=>rfl⟩
 | (y,.va d)::fs,_,⟨v,ws,e,q,r⟩=>by
  obtain⟨h1,h2,h3⟩:=nZ.look (x:=x) r;subst e;rw[List.lookup_cons,List.lookup_cons]
  cases x==y with
  | true=>exact⟨fun d' e=>(by cases e;exact⟨v,rfl,q⟩),fun _ e=>(by cases e),fun e=>(by cases e)⟩
  | false=>
   refine⟨h1,fun l e=>?_,h3⟩;obtain⟨p,vs,z1,z2,z3⟩:=h2 l e;exact⟨p,vs,z1,(by cases v <;> exact z2),z3⟩
 | (y,.li l)::fs,_,⟨p,ws,vs,e,h,n,n0,q,r⟩=>by
  obtain⟨h1,h2,h3⟩:=nZ.look (x:=x) r;subst e;rw[List.lookup_cons,List.lookup_cons]
  cases x==y with
  | true=>exact⟨fun _ e=>(by cases e),fun l' e=>(by cases e;exact⟨p,vs,rfl,Aa,h,n,n0,q⟩),fun e=>(by cases e)⟩
  | false=>
   refine⟨h1,fun l e=>?_,h3⟩;obtain⟨p',vs',z1,z2,z3⟩:=h2 l e;exact⟨p',vs',z1,wy _ z2,z3⟩
theorem gQ{C:Addr}{f:Str}(hC:Eb G.K C)(hN:cY G.K C f)(ha:DE G ta fa):DE G (qAE G.K ta f) (dR C f fa):=by
 intro B H ρ σ Q o h;refine ha.then o (P:=dH G B H ρ σ Q) h (fun z=>z) (fun z=>z) fun w z v B1 H1 o1 x1 q1=>?_
 split at z
 ·rename_i C' fs
  obtain⟨e,z9⟩:=dg (P:=dH G B H ρ σ Q) z (fun y=>y);clear z;have z:=z9;clear z9;subst e;obtain⟨p,dx,bW,rfl,hz,r⟩:=q1
  cases el:fs.lookup f with
  | none=>rw[el]at z;exact z.elim
  | some d=>
   rw[el]at z;obtain⟨v',e1,q⟩:=r.look.1 d el;exact⟨p,C',dx,bW,v',rfl,o1.sb _ _ hz,hC,hN,e1,dH.now o1 (z.on x1) q⟩
 ·rename_i C' fs
  obtain⟨e,z9⟩:=dg (P:=dH G B H ρ σ Q) z (fun y=>y);clear z;have z:=z9;clear z9;subst e;obtain⟨p,rfl,dx,bW,hz,n1,n2,r,_⟩:=q1
  cases el:fs.lookup f with
  | none=>rw[el]at z;exact z.elim
  | some m=>
   rw[el]at z
   cases m with
   | va d=>
    obtain⟨v',e1,q⟩:=r.look.1 d el;exact⟨p,C',dx,bW,v',rfl,hz,hC,hN,e1,dH.now o1 (z.on x1) q⟩
   | li l=>
    obtain⟨p',vs,e1,_,q⟩:=r.look.2.1 l el;exact⟨p,C',dx,bW,_,rfl,hz,hC,hN,e1,z _ B1 H1 o1 x1 ⟨p',vs,rfl,q⟩⟩
 ·exact z.elim
theorem JF{C Cx:Addr}{m:Str}{F:List D->Rz D}{n:Nat}(hC:Cx=G.C)(ho:DE G ta fa)(ha:DA G tr fr):DE G (Tu C m (dB G.K Cx F n) [] E0 ta tr) (Es C m (c7 F) n fa fr):=by
 intro B H ρ σ Q o h;refine ho.then o (P:=dH G B H ρ σ Q) h (fun z=>z) (fun z=>z) fun w z v B1 H1 o1 x1 q1=>?_
 split at z
 ·rename_i C' fs
  obtain⟨⟨e,el⟩,z9⟩:=dg (P:=dH G B H ρ σ Q) z (fun y=>y);clear z;have z:=z9;clear z9;subst e;subst hC;obtain⟨p,dx,bW,rfl,hz,r⟩:=id q1;refine⟨p,dx,bW,rfl,o1.sb _ _ hz,r.look.2 el,?_⟩;unfold aO at z
  dsimp only at z
  cases ea:fr ρ with
  | st=>rw[ea]at z;exact z.elim
  | ex=>rw[ea]at z;exact ha B1 H1 ρ σ _ o1 (by rw[ea];exact fun H' a b=>z H' a (x1.sb.trans b))
  | ok ws=>
   rw[ea]at z;refine ha B1 H1 ρ σ _ o1 ?_;rw[ea];intro vs B2 H2 o2 x2 q2;obtain⟨hl,z9⟩:=dg (P:=dH G B H ρ σ Q) z (fun y=>y);clear z;have z:=z9;clear z9;have z':dH G B H ρ σ Q ((c7 F ((W.fr (.obj C' fs)::ws).map W.d)).bind fun d=>if (W.fr (.obj C' fs)::ws).all W.rst=true∨d.nl=true then .ok (.fr d) else .st):=z;refine JN (ws:=W.fr (.obj C' fs)::ws) (vs:=.ref p::vs) o2 (x1.trans x2) ⟨.ref p,vs,rfl,Rp.mono (d:=.obj C' fs) x2.sb q1,q2⟩ hl (fun e=>?_) ?_
   ·unfold c7 at z';rw[e]at z';exact z'.elim
   ·unfold c7 at z'
    split at z'
    ·exact z'.elim
    ·exact z'
 ·rename_i C' fs
  obtain⟨⟨e,el⟩,z9⟩:=dg (P:=dH G B H ρ σ Q) z (fun y=>y);clear z;have z:=z9;clear z9;subst e;subst hC;obtain⟨p,rfl,dx,bW,hz,n1,n2,r,dd⟩:=id q1;refine⟨p,dx,bW,rfl,hz,r.look.2.2 el,?_⟩;unfold aO at z
  dsimp only at z
  cases ea:fr ρ with
  | st=>rw[ea]at z;exact z.elim
  | ex=>rw[ea]at z;exact ha B1 H1 ρ σ _ o1 (by rw[ea];exact fun H' a b=>z H' a (x1.sb.trans b))
  | ok ws=>
   rw[ea]at z;refine ha B1 H1 ρ σ _ o1 ?_;rw[ea];intro vs B2 H2 o2 x2 q2;obtain⟨hl,z9⟩:=dg (P:=dH G B H ρ σ Q) z (fun y=>y);clear z;have z:=z9;clear z9;have z':dH G B H ρ σ Q ((c7 F ((W.bj C' fs::ws).map W.d)).bind fun d=>if (W.bj C' fs::ws).all W.rst=true∨d.nl=true then .ok (.fr d) else .st):=z;refine JN (ws:=W.bj C' fs::ws) (vs:=.ref p::vs) o2 (x1.trans x2) ⟨.ref p,vs,rfl,Hz.mono (w:=.bj C' fs) x2.sb x2.sh x2.gr q1,q2⟩ hl (fun e=>?_) ?_
   ·unfold c7 at z';rw[e]at z';exact z'.elim
   ·unfold c7 at z'
    split at z'
    ·exact z'.elim
    ·exact z'
 ·exact z.elim
end
noncomputable def gF(f:Str)(m:Fm):List (Str×Fm)->List (Str×Fm)
 | []=>[(f,m)]
 | (g,x)::r=>if g=f then (g,m)::r else (g,x)::gF f m r
section
variable{G:Gm}{B H B' H':Hp}{ρ:List Sl}{σ:St}
theorem nZ.keep(sb:bB B B'):∀ {fs:List (Str×Fm)} {bW:List (Str×V)},nZ G B H fs bW->(∀ b∈adr fs bW,B' b=none/\∀ u,H b=some u->H' b=some u)->nZ G B' H' fs bW
 | [],_,h,_=>h
 | (_,.va _)::_,_,⟨v,ws,e,q,r⟩,k=>by
  subst e;refine⟨v,ws,rfl,q.mono sb,nZ.keep sb r fun b hb=>k b ?_⟩
  cases v <;> exact hb
 | (_,.li _)::_,_,⟨p,ws,vs,e,h,n,n0,q,r⟩,k=>by
  subst e;exact⟨p,ws,vs,rfl,(k p Aa).2 _ h,(k p Aa).1,n0,q.mono sb,nZ.keep sb r fun b hb=>k b (wy _ hb)⟩
theorem Own.mut(o:Own G B H ρ σ){j:Nat}{C a dx EY:Addr}{fs fs':List (Str×Fm)}{bW lC:List (Str×V)}(ej:ρ[j]? = some (Sl.ob C fs))(ea:σ[j]? = some (some (V.ref a)))(e0:H a=some (.ins C dx bW))(nb:ρ.all Sl.nb=true)
  (sb:bB B B') (TV:bB B' H') (gr:∀ b o,B' b=some o->B b=some o∨H b=none∨b=a∨b∈adr fs bW) (na':B' a=none) (s0:bB G.H0 H') (keep:∀ b u,H b=some u->b≠a->b∉adr fs bW->H' b=some u)
  (e1:H' a=some (.ins C EY lC)) (r:nZ G B' H' fs' lC) (nd:(adr fs' lC).Nodup) (fr:∀ b∈adr fs' lC,b∈adr fs bW ∨ ∀ k,k≠j->¬ Oa H ρ σ k b):Own G B' H' (ρ.set j (.ob C fs')) σ:=by
 have hj:j<ρ.length:=(Fb.mp ej).1;have oj:∀ b,(b=a∨b∈adr fs bW)->Oa H ρ σ j b:=fun b hb=>.inr ⟨C,fs,a,dx,bW,ej,ea,e0,hb⟩;obtain⟨a',z1,dx1',vfs0,z2,na,n0,r0,_⟩:=o.ob j C fs ej;rw[ea]at z1
 cases z1
 rw[e0]at z2
 cases z2
 have other:∀ k b,k≠j->Oa H ρ σ k b->∀ u,H b=some u->H' b=some u:=fun k b hk hb u hu=>
  keep b u hu (fun z=>hk (o.ap k j b hb (oj b (.inl z)))) fun z=>hk (o.ap k j b hb (oj b (.inr z)))
 have Np:∀ k b,k≠j->Oa H ρ σ k b->B b=none->B' b=none:=fun k b hk hb hn=>by
  cases z:B' b with
  | none=>rfl
  | some u=>
   rcases gr b u z with y | y | y | y
   ·rw[hn]at y;cases y
   ·obtain⟨w,hw⟩:=o.oaH hb;rw[hw]at y;cases y
   ·exact (hk (o.ap k j b hb (oj b (.inl y)))).elim
   ·exact (hk (o.ap k j b hb (oj b (.inr y)))).elim
 have back:∀ k b,k≠j->Oa H' (ρ.set j (.ob C fs')) σ k b->Oa H ρ σ k b:=fun k b hk h=>by
  rcases h with ⟨m,e1,e2⟩ | ⟨C1,f1,a0,dx1,v1,e1,e2,e3,e4⟩
  ·rw[List.getElem?_set_ne (Ne.symm hk)]at e1;exact .inl ⟨m,e1,e2⟩
  ·rw[List.getElem?_set_ne (Ne.symm hk)]at e1;obtain⟨a2,y1,dx2,v2,y2,_⟩:=o.ob k C1 f1 e1;rw[e2]at y1
   cases y1
   have y3:=other k a0 hk (.inr ⟨C1,f1,a0,dx2,v2,e1,e2,y2,.inl rfl⟩) _ y2;rw[e3]at y3
   cases y3
   exact .inr ⟨C1,f1,a0,dx1,v1,e1,e2,y2,e4⟩
 refine⟨TV,s0,by rw[List.length_set];exact o.len,fun k d z=>?_,fun k m z=>?_,fun k m z=>?_,fun k C1 f1 z=>?_,fun k i b h1 h2=>?_,fun k b C1 f1 hg z=>?_⟩
 ·by_cases y:k=j
  ·subst y;rw[List.getElem?_set_self hj]at z;cases z
  ·rw[List.getElem?_set_ne (Ne.symm y)]at z;obtain⟨v,q1,q2⟩:=o.fr k d z;exact⟨v,q1,q2.mono sb⟩
 ·by_cases y:k=j
  ·subst y;rw[List.getElem?_set_self hj]at z;cases z
  ·rw[List.getElem?_set_ne (Ne.symm y)]at z;obtain⟨p,vs,q1,q2,q3,q4,q5⟩:=o.ow k m z;exact⟨p,vs,q1,other k p y (.inl ⟨m,z,q1⟩) _ q2,Np k p y (.inl ⟨m,z,q1⟩) q3,q4,q5.mono sb⟩
 ·by_cases y:k=j
  ·subst y;rw[List.getElem?_set_self hj]at z;cases z
  ·rw[List.getElem?_set_ne (Ne.symm y)]at z;have:=List.all_eq_true.mp nb _ (zw6 z)
   cases this
 ·by_cases y:k=j
  ·subst y;rw[List.getElem?_set_self hj]at z
   cases z
   exact⟨a,ea,EY,lC,e1,na',n0,r,nd⟩
  ·rw[List.getElem?_set_ne (Ne.symm y)]at z;obtain⟨a2,y1,dx2,v2,y2,y3,y4,y5,y6⟩:=o.ob k C1 f1 z;have oa2:∀ b,(b=a2∨b∈adr f1 v2)->Oa H ρ σ k b:=fun b hb=>.inr ⟨C1,f1,a2,dx2,v2,z,y1,y2,hb⟩;exact⟨a2,y1,dx2,v2,other k a2 y (oa2 a2 (.inl rfl)) _ y2,Np k a2 y (oa2 a2 (.inl rfl)) y3,y4,y5.keep sb fun b hb=>⟨Np k b y (oa2 b (.inr hb)) (y5.lies b hb).1,other k b y (oa2 b (.inr hb))⟩,y6⟩
 ·have one:∀ b,Oa H' (ρ.set j (.ob C fs')) σ j b->(Oa H ρ σ j b) ∨ ∀ k,k≠j->¬ Oa H ρ σ k b:=fun b h=>by
   rcases h with ⟨m,x1,x2⟩ | ⟨C1,f1,a0,dx1,v1,x1,x2,x3,x4⟩
   ·rw[List.getElem?_set_self hj]at x1;cases x1
   ·rw[List.getElem?_set_self hj]at x1
    cases x1
    rw[ea]at x2
    cases x2
    rw[e1]at x3
    cases x3
    rcases x4 with rfl | x4
    ·exact .inl (oj _ (.inl rfl))
    ·rcases fr b x4 with x | x
     ·exact .inl (oj b (.inr x))
     ·exact .inr x
  by_cases y:k=j
  ·subst y
   by_cases y2:i=k
   ·exact y2.symm
   ·rcases one b h1 with x | x
    ·exact o.ap k i b x (back i b y2 h2)
    ·exact (x i y2 (back i b y2 h2)).elim
  ·by_cases y2:i=j
   ·subst y2;rcases one b h2 with x | x
    ·exact o.ap k i b (back k b y h1) x
    ·exact (x k y (back k b y h1)).elim
   ·exact o.ap k i b (back k b y h1) (back i b y2 h2)
 ·by_cases y:k=j
  ·subst y;exact o.sf k b C fs hg ej
  ·rw[List.getElem?_set_ne (Ne.symm y)]at z;exact o.sf k b C1 f1 hg z
theorem N8{f:Str}{d:D}{y:V}(q:Rp G.K B d y):∀ {fs:List (Str×Fm)} {bW:List (Str×V)},nZ G B H fs bW->nZ G B H (gF f (.va d) fs) (jV f y bW)/\(adr (gF f (.va d) fs) (jV f y bW)).Sublist (adr fs bW)
 | [],_,h=>by
  cases (show _=_ from h)
  refine⟨⟨y,[],rfl,q,rfl⟩,?_⟩
  cases y <;> exact List.Sublist.refl _
 | (g,.va d0)::fs,_,⟨v,ws,e,q0,r⟩=>by
  subst e;obtain⟨h1,h2⟩:=N8 (f:=f) q r;unfold gF jV
  by_cases c:g=f
  ·rw[if_pos c,if_pos c];refine⟨⟨y,ws,rfl,q,r⟩,?_⟩
   cases y <;> cases v <;> exact List.Sublist.refl _
  ·rw[if_neg c,if_neg c];refine⟨⟨v,_,rfl,q0,h1⟩,?_⟩
   cases v <;> exact h2
 | (g,.li l0)::fs,_,⟨p,ws,vs,e,h,n,n0,q0,r⟩=>by
  subst e;obtain⟨h1,h2⟩:=N8 (f:=f) q r;unfold gF jV
  by_cases c:g=f
  ·rw[if_pos c,if_pos c];refine⟨⟨y,ws,rfl,q,r⟩,?_⟩
   cases y <;> exact List.Sublist.cons _ (List.Sublist.refl _)
  ·rw[if_neg c,if_neg c];exact⟨⟨p,_,vs,rfl,h,n,n0,q0,h1⟩,List.Sublist.cons_cons _ h2⟩
theorem NB{f:Str}{l:List D}{p:Addr}{vs:List V}(e1:H p=some (.lst vs))(e2:B p=none)(e3:G.H0 p=none)(q:fL G.K B l vs):∀ {fs:List (Str×Fm)} {bW:List (Str×V)},nZ G B H fs bW->p∉adr fs bW->(adr fs bW).Nodup →
  nZ G B H (gF f (.li l) fs) (jV f (.ref p) bW)/\(∀ a∈adr (gF f (.li l) fs) (jV f (.ref p) bW),a=p∨a∈adr fs bW)/\(adr (gF f (.li l) fs) (jV f (.ref p) bW)).Nodup
 | [],_,h,_,_=>by
  cases (show _=_ from h)
  exact⟨⟨p,[],vs,rfl,e1,e2,e3,q,rfl⟩,fun a ha=>.inl (MT.mp ha),List.nodup_cons.mpr ⟨List.not_mem_nil,List.nodup_nil⟩⟩
 | (g,.va d0)::fs,_,⟨v,ws,e,q0,r⟩,np,nd=>by
  subst e;have np':p∉adr fs ws:=fun z=>np (by cases v <;> exact z)
  have nd':(adr fs ws).Nodup:=by cases v <;> exact nd
  obtain⟨h1,h2,h3⟩:=NB (f:=f) e1 e2 e3 q r np' nd';unfold gF jV
  by_cases c:g=f
  ·rw[if_pos c,if_pos c];refine⟨⟨p,ws,vs,rfl,e1,e2,e3,q,r⟩,fun a ha=>?_,List.nodup_cons.mpr ⟨np',nd'⟩⟩;rcases jo.mp ha with z | z
   ·exact .inl z
   ·exact .inr (by cases v <;> exact z)
  ·rw[if_neg c,if_neg c];refine⟨⟨v,_,rfl,q0,h1⟩,fun a ha=>?_,?_⟩
   ·have ha':a∈adr (gF f (.li l) fs) (jV f (.ref p) ws):=by cases v <;> exact ha
    rcases h2 a ha' with z | z
    ·exact .inl z
    ·exact .inr (by cases v <;> exact z)
   ·cases v <;> exact h3
 | (g,.li l0)::fs,_,⟨p0,ws,vs0,e,h,n,n0,q0,r⟩,np,nd=>by
  subst e;obtain⟨nd1,nd2⟩:=List.nodup_cons.mp (show (p0::adr fs ws).Nodup from nd);have np':p∉adr fs ws:=fun z=>np (wy _ z);have np0:p≠p0:=fun z=>np (by subst z;exact Aa);obtain⟨h1,h2,h3⟩:=NB (f:=f) e1 e2 e3 q r np' nd2;unfold gF jV
  by_cases c:g=f
  ·rw[if_pos c,if_pos c];refine⟨⟨p,ws,vs,rfl,e1,e2,e3,q,r⟩,fun a ha=>?_,List.nodup_cons.mpr ⟨np',nd2⟩⟩;rcases jo.mp ha with z | z
   ·exact .inl z
   ·exact .inr (wy _ z)
  ·rw[if_neg c,if_neg c];refine⟨⟨p0,_,vs0,rfl,h,n,n0,q0,h1⟩,fun a ha=>?_,List.nodup_cons.mpr ⟨fun z=>?_,h3⟩⟩
   ·rcases jo.mp ha with z | z
    ·exact .inr (by rw[z];exact Aa)
    ·rcases h2 a z with y | y
     ·exact .inl y
     ·exact .inr (wy _ y)
   ·rcases h2 p0 z with y | y
    ·exact np0 y.symm
    ·exact nd1 y
end
noncomputable def W.fm:W->Rz Fm
 | .fr d=>.ok (.va d)
 | .ow l=>.ok (.li l)
 | _=>.st
noncomputable def rB(C:Addr)(j:Nat)(f:Str)(e:FE):FS:=fun ρ=>(e ρ).bind fun w=>w.fm.bind fun m=>match ρ[j]? with
 | some (.ob C' fs)=>if C'=C/\fs.length<1000/\ρ.all Sl.nb=true then .ok (.nx (ρ.set j (.ob C' (gF f m fs)))) else .st
 | _=>.st
noncomputable def jl(C:Addr)(j:Nat)(f:Str)(e:FE):FS:=fun ρ=>match ρ[j]? with
 | some (.ob C' fs)=>if C'=C then (match fs.lookup f with
  | some (.li l)=>(e ρ).bind fun w=>w.z.bind fun d=>if l.length<sizeLine/\ρ.all Sl.nb=true then .ok (.nx (ρ.set j (.ob C' (gF f (.li (l++[d])) fs)))) else .st
  | _=>.st) else .st
 | _=>.st
section
variable{G:Gm}{ta:TE}{fa:FE}
theorem nZ.len{B H:Hp}:∀ {fs:List (Str×Fm)} {bW:List (Str×V)},nZ G B H fs bW->bW.length=fs.length
 | [],_,h=>by cases (show _=_ from h);rfl
 | (_,.va _)::_,_,⟨v,ws,e,q,r⟩=>by rw[e,dJ,dJ,nZ.len r]
 | (_,.li _)::_,_,⟨p,ws,vs,e,h,n,n0,q,r⟩=>by rw[e,dJ,dJ,nZ.len r]
theorem ur{C:Addr}{j:Nat}{f:Str}(hC:Eb G.K C)(hN:cY G.K C f)(ha:DE G ta fa):DS G (qCN G.K (Gy j) ta f) (rB C j f fa):=by
 intro B H ρ σ D o h;refine ha.then o (P:=wu G B D) h (fun z=>z) (fun z=>z) fun w z v B1 H1 o1 x1 q1=>?_
 cases em:w.fm with
 | st=>rw[em]at z;exact z.elim
 | ex=>cases w <;> cases em
 | ok m=>
 rw[em]at z
 have z1:wu G B D (match ρ[j]? with
  | some (.ob C' fs)=>if C'=C/\fs.length<1000/\ρ.all Sl.nb=true then .ok (.nx (ρ.set j (.ob C' (gF f m fs)))) else .st
  | _=>.st):=z
 clear z
 split at z1
 ·rename_i C' fs e
  obtain⟨⟨hc,hl,nb⟩,z2⟩:=dg (P:=wu G B D) z1 (fun y=>y);subst hc;obtain⟨a,ea,dx,bW,e0,na,n0,r,nd⟩:=o1.ob j C' fs e;refine⟨.ref a,ea,a,C',dx,bW,rfl,e0,hC,hN,by rw[r.len];exact hl,?_⟩;refine z2 σ B1 _ ?_ (x1.s o)
  have TV:bB B1 (upd H1 a (.ins C' dx (jV f v bW))):=fun b u z=>by
   rw[zQ fun y=>by subst y;rw[na]at z;cases z];exact o1.sb _ _ z
  have s0':bB G.H0 (upd H1 a (.ins C' dx (jV f v bW))):=fun b u z=>by
   rw[zQ fun y=>by subst y;rw[n0]at z;cases z];exact o1.s0 _ _ z
  have keep:∀ b u,H1 b=some u->b≠a->b∉adr fs bW->upd H1 a (.ins C' dx (jV f v bW)) b=some u:=fun b u z y _=>by rw[zQ y];exact z
  cases w with
  | fr d=>
   cases em
   obtain⟨r1,sl⟩:=N8 (f:=f) q1 r;refine o1.mut e ea e0 nb (bB.refl _) TV (fun _ _ z=>.inl z) na s0' keep zC (r1.away fun z=>?_) (nd.sublist sl) fun b hb=>.inl (sl.subset hb);obtain⟨_,_,us,y⟩:=r1.lies a z;rw[e0]at y
   cases y
  | ow l=>
   cases em
   obtain⟨p,vs,ev,np,hp,bp,rp⟩:=q1;subst ev
   have npo:∀ k,¬ Oa H1 ρ σ k p:=fun k z=>by
    obtain⟨u,y⟩:=o.oaH (o.oa x1.sh z);rw[np]at y
    cases y
   obtain⟨r1,m1,nd1⟩:=NB (f:=f) hp bp (o.s0.free np) rp r (fun z=>npo j (.inr ⟨C',fs,a,dx,bW,e,ea,e0,.inr z⟩)) nd;refine o1.mut e ea e0 nb (bB.refl _) TV (fun _ _ z=>.inl z) na s0' keep zC (r1.away fun z=>?_) nd1 fun b hb=>(m1 b hb).elim (fun z=>.inr fun k _=>by rw[z];exact npo k) .inl;obtain⟨_,_,us,y⟩:=r1.lies a z;rw[e0]at y
   cases y
  | bw l=>cases em
  | bj _ _=>cases em
 ·exact z1.elim
theorem Ow{B H:Hp}{f:Str}{l l':List D}{p:Addr}{vs':List V}(q:fL G.K B l' vs'):∀ {fs:List (Str×Fm)} {bW:List (Str×V)},nZ G B H fs bW->(adr fs bW).Nodup->fs.lookup f=some (.li l)->bW.lookup f=some (.ref p) →
  nZ G B (upd H p (.lst vs')) (gF f (.li l') fs) bW/\adr (gF f (.li l') fs) bW=adr fs bW
 | [],_,_,_,e,_=>by cases e
 | (g,.va d0)::fs,_,⟨v,ws,e,q0,r⟩,nd,el,ev=>by
  subst e;rw[List.lookup_cons]at el ev
  cases c:f==g with
  | true=>rw[c]at el;cases el
  | false=>
   rw[c]at el ev
   have ne:g≠f:=fun z=>by rw[z,beq_self_eq_true]at c;cases c
   obtain⟨h1,h2⟩:=Ow q r (by cases v <;> exact nd) el ev;unfold gF;rw[if_neg ne];refine⟨⟨v,ws,rfl,q0,h1⟩,?_⟩
   cases v <;> exact h2
 | (g,.li l0)::fs,_,⟨p0,ws,vs0,e,h,n,n0,q0,r⟩,nd,el,ev=>by
  subst e;obtain⟨nd1,nd2⟩:=List.nodup_cons.mp (show (p0::adr fs ws).Nodup from nd);rw[List.lookup_cons]at el ev
  cases c:f==g with
  | true=>
   rw[c]at el ev
   cases ev
   have eq:g=f:=(eq_of_beq c).symm;unfold gF;rw[if_pos eq];exact⟨⟨_,ws,vs',rfl,zC,n,n0,q,r.away nd1⟩,rfl⟩
  | false=>
   rw[c]at el ev
   have ne:g≠f:=fun z=>by rw[z,beq_self_eq_true]at c;cases c
   obtain⟨h1,h2⟩:=Ow q r nd2 el ev;obtain⟨p',vs1,z1,z2,_⟩:=r.look.2.1 _ el;rw[show ws.lookup f=some (.ref p) from ev]at z1
   cases z1
   have np:p0≠p:=fun z=>nd1 (by rw[z];exact z2);unfold gF;rw[if_neg ne];refine⟨⟨p0,ws,vs0,rfl,by rw[zQ np];exact h,n,n0,q0,h1⟩,?_⟩;show p0::adr (gF f (.li l') fs) ws=p0::adr fs ws;rw[h2]
theorem BW{C:Addr}{j:Nat}{f:Str}(hC:Eb G.K C)(hN:cY G.K C f)(ha:DE G ta fa):DS G (Pg (tBM G.K "list" kZ (qAE G.K (Gy j) f) (uJ ta xG))) (jl C j f fa):=by
 intro B H ρ σ D o h;unfold jl at h
 split at h
 ·rename_i C' fs e
  obtain⟨hc,h1⟩:=dg (P:=wu G B D) h (fun y=>y);clear h;subst hc
  split at h1
  ·rename_i l el
   obtain⟨a,ea,dx,bW,e0,na,n0,r,nd⟩:=o.ob j C' fs e;obtain⟨p,vs,z1,z2,z3,z4,z5,z6⟩:=r.look.2.1 l el
   have nap:a≠p:=fun z=>by rw[z,z3]at e0;cases e0
   refine⟨.ref a,ea,a,C',dx,bW,.ref p,rfl,e0,hC,hN,z1,.inl ⟨rfl,vs,jk.of z3⟩,?_⟩;refine ha.then o (P:=wu G B D) h1 (fun z=>z) (fun z=>z) fun w z v B1 H1 o1 x1 q1=>?_
   cases ez:w.z with
   | st=>rw[ez]at z;exact z.elim
   | ex=>exact (by cases w <;> cases ez)
   | ok d=>
   rw[ez]at z;obtain⟨⟨hl,nb⟩,y2⟩:=dg (P:=wu G B D) z (fun y=>y);obtain⟨B2,o2,x2,rd⟩:=Own.Bd o o1 x1 q1 ez;refine⟨p,vs,v,rfl,rfl,x2.sh _ _ z3,by rw[z6.len];exact hl,?_⟩;have r2:=r.mono x2.sb x2.sh x2.gr;obtain⟨r3,ad⟩:=Ow (l':=l++[d]) (vs':=vs++[v]) ((z6.mono x2.sb).app (.one rd)) r2 nd el z1;refine y2 σ B2 _ (o2.mut e ea (x2.sh _ _ e0) nb (bB.refl _) (fun b u y=>?_) (fun _ _ y=>.inl y) (BL x2.gr e0 na) (fun b u y=>?_) (fun b u y _ y2=>?_) (by rw[zQ nap];exact x2.sh _ _ e0) r3 (by rw[ad];exact nd) fun b hb=>.inl (by rw[ad]at hb;exact hb)) (x2.s o)
   ·rw[zQ fun x=>by subst x;rw[BL x2.gr z3 z4]at y;cases y];exact o2.sb _ _ y
   ·rw[zQ fun x=>by subst x;rw[z5]at y;cases y];exact o2.s0 _ _ y
   ·rw[zQ fun x=>by subst x;exact y2 z2];exact y
  ·exact h1.elim
 ·exact h.elim
end
noncomputable abbrev Ms:=List (Str×Fm)
noncomputable def yl(K:cZ)(B H:Hp)(fs:Ms)(bW:List (Str×V)):Prop:=nZ ⟨K,fun _=>none,fun _ _ _=>True,0,none⟩ B H fs bW
theorem nZ.to0{G:Gm}{B H:Hp}:∀ {fs:Ms} {bW:List (Str×V)},nZ G B H fs bW->yl G.K B H fs bW
 | [],_,h=>h
 | (_,.va _)::_,_,⟨v,ws,e,q,r⟩=>⟨v,ws,e,q,nZ.to0 r⟩
 | (_,.li _)::_,_,⟨p,ws,vs,e,h,n,n0,q,r⟩=>⟨p,ws,vs,e,h,n,rfl,q,nZ.to0 r⟩
theorem yl.of{G:Gm}{B H:Hp}:∀ {fs:Ms} {bW:List (Str×V)},yl G.K B H fs bW->(∀ b∈adr fs bW,G.H0 b=none)->nZ G B H fs bW
 | [],_,h,_=>h
 | (_,.va _)::_,_,⟨v,ws,e,q,r⟩,k=>by
  subst e;refine⟨v,ws,rfl,q,yl.of r fun b hb=>k b ?_⟩
  cases v <;> exact hb
 | (_,.li _)::_,_,⟨p,ws,vs,e,h,n,n0,q,r⟩,k=>by
  subst e;exact⟨p,ws,vs,rfl,h,n,k p Aa,q,yl.of r fun b hb=>k b (wy _ hb)⟩
noncomputable def X6(K:cZ)(C CO:Addr)(F:Ms->List D->Rz (Ms×D))(n:Nat):Sp:=fun vs H Q E=>vs.length=n/\∃ B a dx bW fs ds ws,vs = .ref a::ws/\bB B H/\H a=some (.ins CO dx bW)/\B a=none/\yl K B H fs bW/\(adr fs bW).Nodup/\fL K B ds ws/\match F fs ds with
 | .ok (fs',d) => ∀ v B' H' EY lC,(∀ b u,H b=some u->b≠a->b∉adr fs bW->H' b=some u)->bB B B'->bB B' H'->(∀ b o,B' b=some o->B b=some o∨H b=none∨b=a∨b∈adr fs bW)->H' a=some (.ins CO EY lC)->B' a=none->yl K B' H' fs' lC->(adr fs' lC).Nodup →
   (∀ b∈adr fs' lC,b∈adr fs bW∨H b=none)->Rp K B' d v->Q v H'
 | .ex => ∀ H',(∀ b u,H b=some u->b≠a->b∉adr fs bW->H' b=some u)->E (.ref C) none H'
 | .st=>False
noncomputable def startM(n:Nat)(CO:Addr)(fs:Ms)(ds:List D):List Sl:=.ob CO fs::start (n-1) ds
noncomputable def Iz(CO:Addr):Rz Fl->Rz (Ms×D)
 | .ok (.nx (.ob C fs::_))=>if C=CO then .ok (fs,.non) else .st
 | .ok (.ret d (some (.ob C fs::_)))=>if C=CO then .ok (fs,d) else .st
 | .ex=>.ex
 | _=>.st
noncomputable def runM(n:Nat)(CO:Addr)(g:FS)(fs:Ms)(ds:List D):Rz (Ms×D):=Iz CO (g (startM n CO fs ds))
noncomputable def Hu(F:Ms->List D->Rz (Ms×D)):Ms->List D->Rz (Ms×D):=fun fs ds=>match F fs ds with
 | .ex=>.st
 | r=>r
section
variable{G:Gm}{tr:TA}{fr:FA}
theorem qD7{B B1 H1:Hp}{ρ:List Sl}{σ:St}{CO:Addr}{j n:Nat}{fs:Ms}{F:Ms->List D->Rz (Ms×D)}{E:XK}{Q:VK}{ds:List D}{vs:List V}{a:Addr}(o1:Own G B1 H1 ρ σ)(x1:Ea G B B1)(e:ρ[j]? = some (Sl.ob CO fs))(ea:σ[j]? = some (some (V.ref a)))
  (nb:ρ.all Sl.nb=true) (rl:fL G.K B1 ds vs) (hl:ds.length+1=n) (hs:F fs ds≠.st) (hx:F fs ds = .ex->∀ H',bB G.H0 H'->bB B1 H'->E (.ref G.C) none H')
  (hq:∀ fs' d,F fs ds = .ok (fs',d)->∀ v B' H',Own G B' H' (ρ.set j (.ob CO fs')) σ->Ea G B B'->Rp G.K B' d v->Q v H'):X6 G.K G.C CO F n (.ref a::vs) H1 Q E:=by
 obtain⟨a',z1,dx,bW,e0,na,n0,r,nd⟩:=o1.ob j CO fs e;rw[ea]at z1
 cases z1
 have h0:∀ b,(b=a∨b∈adr fs bW)->G.H0 b=none:=fun b hb=>by
  rcases hb with rfl | hb
  ·exact n0
  ·exact (r.lies b hb).2.1
 have hb0:∀ b,(b=a∨b∈adr fs bW)->B1 b=none:=fun b hb=>by
  rcases hb with rfl | hb
  ·exact na
  ·exact (r.lies b hb).1
 refine⟨by rw[dJ,rl.len];exact hl,B1,a,dx,bW,fs,ds,vs,rfl,o1.sb,e0,na,r.to0,nd,rl,?_⟩
 have s0':∀ H',(∀ b u,H1 b=some u->b≠a->b∉adr fs bW->H' b=some u)->bB G.H0 H'/\bB B1 H':=fun H' k=>by
  refine⟨fun b u z=>k b u (o1.s0 _ _ z) (fun y=>?_) fun y=>?_,fun b u z=>k b u (o1.sb _ _ z) (fun y=>?_) fun y=>?_⟩
  ·rw[h0 b (.inl y)]at z;cases z
  ·rw[h0 b (.inr y)]at z;cases z
  ·rw[hb0 b (.inl y)]at z;cases z
  ·rw[hb0 b (.inr y)]at z;cases z
 cases ef:F fs ds with
 | st=>exact hs ef
 | ex=>exact fun H' k=>hx ef H' (s0' H' k).1 (s0' H' k).2
 | ok y=>
  obtain⟨fs',d⟩:=y;intro v B' H' EY lC k sb TV gr e1 na' r' nd' fr' rd;refine hq fs' d ef v B' H' (o1.mut e ea e0 nb sb TV gr na' (s0' H' k).1 k e1 (yl.of r' fun b hb=>?_) nd' fun b hb=>?_) (x1.trans ⟨sb,fun b u z=>?_⟩) rd
  ·rcases fr' b hb with y | y
   ·exact h0 b (.inr y)
   ·exact o1.s0.free y
  ·rcases fr' b hb with y | y
   ·exact .inl y
   ·exact .inr fun k _ ok=>by obtain⟨u,z⟩:=o1.oaH ok;rw[y]at z;cases z
  ·rcases gr b u z with y | y | y | y
   ·exact .inl y
   ·exact .inr (o1.s0.free y)
   ·exact .inr (h0 b (.inl y))
   ·exact .inr (h0 b (.inr y))
noncomputable def D.Ze:D->Bool
 | .non=>true
 | _=>false
noncomputable def ZR(CO:Addr)(i:Nat)(F:Ms->List D->Rz (Ms×D))(n:Nat)(a:FA):FS:=fun ρ=>(a ρ).bind fun ws=>(zL ws).bind fun ds=>if ds.length+1=n then (F [] ds).bind fun r=>if r.2.Ze=true then .ok (.nx (ρ.set i (.ob CO r.1))) else .st else .st
theorem Yj{CO Cx:Addr}{i n:Nat}{F:Ms->List D->Rz (Ms×D)}(hC:Cx=G.C)(hsf:G.sf=none)(ha:DA G tr fr):DS G (Tz (ZK CO (X6 G.K Cx CO F n) [] E0 tr) (zu i)) (ZR CO i (Hu F) n fr):=by
 intro B H ρ σ D o h;subst hC;refine ha.then o (P:=wu G B D) h (fun z=>z) (fun z=>z) fun ws z vs B1 H1 o1 x1 q1=>?_;obtain⟨ds,rl,z2⟩:=PN (P:=wu G B D) (fun y=>y) z q1;obtain⟨hl,z3⟩:=dg (P:=wu G B D) z2 (fun y=>y)
 have nx:F [] ds≠.ex:=fun ef=>by
  have:Hu F [] ds = .st:=by unfold Hu;rw[ef]
  rw[this]at z3;exact z3
 have en:Hu F [] ds=F [] ds:=by
  unfold Hu
  split
  ·rename_i e;exact (nx e).elim
  ·rfl
 rw[en]at z3;intro x dx hx hdx hne;rw[xF]
 have sh1:bB H1 (upd (upd H1 dx (.own x)) x (.ins CO dx [])):=fun b u y=>by
  rw[zQ (zM y hx),zQ (zM y hdx)];exact y
 have bx:B1 x=none:=o1.sb.free hx;refine⟨by rw[dJ,rl.len];exact hl,B1,x,dx,[],[],ds,vs,rfl,o1.sb.trans sh1,zC,bx,rfl,List.nodup_nil,rl,?_⟩
 cases ef:F [] ds with
 | st=>rw[ef]at z3;exact z3
 | ex=>exact (nx ef).elim
 | ok y=>
  obtain⟨fs',d⟩:=y;rw[ef]at z3;obtain⟨hd,z4⟩:=dg (P:=wu G B D) z3 (fun y=>y);intro v B' H' EY lC k sb TV gr e1 na' r' nd' fr' rd;have Zi:∀ b,(upd (upd H1 dx (.own x)) x (.ins CO dx [])) b=none->H1 b=none:=fun b y=>sh1.free y
  have ex:Ext B1 H1 B' H':=⟨sb,fun b u y=>k b u (sh1 _ _ y) (zM y hx) List.not_mem_nil,fun b u y=>by
   rcases gr b u y with z | z | z | z
   ·exact .inl z
   ·exact .inr (Zi b z)
   ·rw[z];exact .inr hx
   ·cases z⟩
  have o2:=o1.ext ex TV;have fresh:∀ b∈adr fs' lC,H1 b=none:=fun b hb=>(fr' b hb).elim (fun y=>by cases y) (Zi b);have ob:Ob G B' H' CO fs' x:=⟨EY,lC,e1,na',o1.s0.free hx,yl.of r' fun b hb=>o1.s0.free (fresh b hb),nd'⟩
  have ow:Own G B' H' (ρ.set i (.ob CO fs')) (σ.set i (some (.ref x))):=by
   refine o2.set (fun _=>nofun) (fun _ y=>by cases y) (fun _ y=>by cases y) (fun C f y=>by cases y;exact⟨hsf,x,rfl,ob⟩) fun a h j _ h2=>?_
   have ha1:H1 a=none:=by
    rcases h with ⟨l,y1,_⟩ | ⟨C,f,a0,dx2,v2,y1,y2,y3,y4⟩
    ·cases (show some _=some _ from y1)
    ·cases (show some _=some _ from y1)
     cases (show some _=some _ from y2)
     rw[e1]at y3
     cases y3
     rcases y4 with rfl | y4
     ·exact hx
     ·exact fresh a y4
   obtain⟨u,y⟩:=o1.oaH (o1.oa ex.sh h2);rw[ha1]at y
   cases y
  have hdn:d = .non:=by cases d <;> first | rfl | cases hd
  subst hdn;exact⟨rd,z4 _ B' H' ow ((x1.s o).trans ⟨sb,fun b u y=>(ex.gr b u y).imp id fun z=>o1.s0.free z⟩)⟩
end
theorem Mq{K:cZ}{H B:Hp}{E:XK}{C CO a dx:Addr}{N:List Str}{fs:Ms}{bW:List (Str×V)}{ds:List D}{ws:List V}(sb:bB B H)(e0:H a=some (.ins CO dx bW))(na:B a=none)(r:yl K B H fs bW)(nd:(adr fs bW).Nodup)(rl:fL K B ds ws)(hl:ws.length+1<=N.length) :
  Own ⟨K,fun b=>if b=a∨b∈adr fs bW then none else H b,E,C,some (0,a)⟩ B H (startM N.length CO fs ds) (L2.start N (.ref a::ws)):=by
 have e:L2.start N (.ref a::ws)=some (.ref a)::L2.start (N.drop 1) ws:=by
  unfold L2.start;rw[List.map_cons,List.cons_append,dJ,List.length_drop,Nat.sub_add_eq,Nat.sub_right_comm]
 rw[e];have o:=xK (E:=E) (C:=C) (N:=N.drop 1) sb rl (by rw[List.length_drop];omega);rw[List.length_drop]at o;have h0:∀ b,(b=a∨b∈adr fs bW)->(fun b=>if b=a∨b∈adr fs bW then none else H b) b=none:=fun b hb=>if_pos hb;unfold startM
 have Np:∀(i:Nat)(s:Sl),(start (N.length-1) ds)[i]? = some s->(∃ d,s = .fr d)∨s = .no:=fun i s' e=>by
  unfold start at e
  by_cases c:i<ds.length
  ·rw[zw3 (by rw[jH];exact c),uB]at e
   cases e2:ds[i]? with
   | none=>rw[e2]at e;cases e
   | some d'=>rw[e2]at e;cases e;exact .inl ⟨_,rfl⟩
  ·rw[zw4 (by rw[jH];omega),List.getElem?_replicate]at e
   split at e <;> cases e
   exact .inr rfl
 have oz:∀ i b,Oa H (.ob CO fs::start (N.length-1) ds) (some (.ref a)::L2.start (N.drop 1) ws) i b->i=0:=fun i b h=>by
  cases i with
  | zero=>rfl
  | succ i=>
   rcases h with ⟨l,y1,_⟩ | ⟨C,f,a0,dx2,v2,y1,_⟩
   ·rcases Np i _ y1 with ⟨d,z⟩ | z <;> cases z
   ·rcases Np i _ y1 with ⟨d,z⟩ | z <;> cases z
 refine⟨sb,fun b u z=>?_,by rw[dJ,dJ,o.len],fun i d z=>?_,fun i l z=>?_,fun i l z=>?_,fun i C1 f1 z=>?_,fun i j b z1 z2=>?_,fun j b C1 f1 z1 z2=>?_⟩
 ·have z':(if b=a∨b∈adr fs bW then none else H b)=some u:=z
  split at z'
  ·cases z'
  ·exact z'
 ·cases i with
  | zero=>cases (show some _=some _ from z)
  | succ i=>exact o.fr i d z
 ·cases i with
  | zero=>cases (show some _=some _ from z)
  | succ i=>rcases Np i _ z with ⟨d,y⟩ | y <;> cases y
 ·cases i with
  | zero=>cases (show some _=some _ from z)
  | succ i=>rcases Np i _ z with ⟨d,y⟩ | y <;> cases y
 ·cases i with
  | zero=>
   cases (show some _=some _ from z)
   exact⟨a,rfl,dx,bW,e0,na,h0 a (.inl rfl),yl.of r fun b hb=>h0 b (.inr hb),nd⟩
  | succ i=>rcases Np i _ z with ⟨d,y⟩ | y <;> cases y
 ·rw[oz i b z1,oz j b z2]
 ·cases z1;rfl
theorem WL{K:cZ}{H:Hp}{E:XK}{C CO:Addr}{N ps:List Str}{g:FS}{t:TS}{vs:List V}{Q:VK}(hp:N.take ps.length=ps)(h:X6 K C CO (runM N.length CO g) ps.length vs H Q E)(hd:∀ H0 sf,DS ⟨K,H0,E,C,sf⟩ t g) :
  t { nx:=fun _ H'=>Q .non H',rt:=Q } (L2.start N vs) H:=by
 obtain⟨hl,B,a,dx,bW,fs,ds,ws,rfl,sb,e0,na,r,nd,rl,q⟩:=h
 have hN:ps.length<=N.length:=by
  have:=congrArg List.length hp;rw[Qp]at this;omega
 rw[dJ]at hl;refine hd _ _ B H _ _ _ (Mq (N:=N) sb e0 na r nd rl (by omega)) ?_;have fin:∀ {B' H':Hp} {C':Addr} {fs':Ms} {rest:List Sl} {σ':St} {d:D} {v:V},Own ⟨K,fun b=>if b=a∨b∈adr fs bW then none else H b,E,C,some (0,a)⟩ B' H' (.ob C' fs'::rest) σ'->Ea ⟨K,fun b=>if b=a∨b∈adr fs bW then none else H b,E,C,some (0,a)⟩ B B'->C'=CO->Rp K B' d v →
   (∀ v B' H' EY lC,(∀ b u,H b=some u->b≠a->b∉adr fs bW->H' b=some u)->bB B B'->bB B' H'->(∀ b o,B' b=some o->B b=some o∨H b=none∨b=a∨b∈adr fs bW)->H' a=some (.ins CO EY lC)->B' a=none->yl K B' H' fs' lC->(adr fs' lC).Nodup →
   (∀ b∈adr fs' lC,b∈adr fs bW∨H b=none)->Rp K B' d v->Q v H')->Q v H':=fun {B' H' C' fs' rest σ' d v} o x hC rd k=>by
  subst hC;obtain⟨a1,y1,EY,lC,y2,y3,y4,y5,y6⟩:=o.ob 0 C' fs' rfl;have y7:=o.sf 0 a C' fs' rfl rfl;rw[y1]at y7
  cases y7
  have split:∀ b,(if b=a∨b∈adr fs bW then none else H b)=none->H b=none∨b=a∨b∈adr fs bW:=fun b hb=>by
   split at hb
   ·rename_i z;exact .inr z
   ·exact .inl hb
  refine k v B' H' EY lC (fun b u z n1 n2=>o.s0 b u (by show (if b=a∨b∈adr fs bW then none else H b)=some u;rw[if_neg (fun z=>z.elim n1 n2)];exact z)) x.sb o.sb (fun b u z=>(x.gr b u z).imp id fun z=>split b z) y2 y3 y5.to0 y6 (fun b hb=>?_) rd;obtain⟨_,z1,us,z2⟩:=y5.lies b hb;rcases split b z1 with z | z | z
  ·exact .inr z
  ·rw[z,y2]at z2;cases z2
  ·exact .inl z
 unfold runM at q
 cases e:g (startM N.length CO fs ds) with
 | st=>rw[e]at q;exact q
 | ex=>
  rw[e]at q;exact fun H' s0 _=>q H' fun b u z n1 n2=>s0 b u (by show (if b=a∨b∈adr fs bW then none else H b)=some u;rw[if_neg (fun z=>z.elim n1 n2)];exact z)
 | ok f=>
  rw[e]at q
  cases f with
  | nx ρ=>
   intro σ' B' H' o x
   cases ρ with
   | nil=>exact q.elim
   | cons s rest=>
    cases s with
    | ob C' fs'=>
     by_cases hC:C'=CO
     ·have q':(match (if C'=CO then Rz.ok (fs',D.non) else .st:Rz (Ms×D)) with
       | .ok (fs',d) => ∀ v B' H' EY lC,(∀ b u,H b=some u->b≠a->b∉adr fs bW->H' b=some u)->bB B B'->bB B' H'->(∀ b o,B' b=some o->B b=some o∨H b=none∨b=a∨b∈adr fs bW)->H' a=some (.ins CO EY lC)->B' a=none->yl K B' H' fs' lC->(adr fs' lC).Nodup →
   (∀ b∈adr fs' lC,b∈adr fs bW∨H b=none)->Rp K B' d v->Q v H'
       | .ex => ∀ H',(∀ b u,H b=some u->b≠a->b∉adr fs bW->H' b=some u)->E (.ref C) none H'
       | .st=>False):=q
      rw[if_pos hC]at q';exact fin o x hC (d:=.non) (by exact rfl) q'
     ·exfalso;have:Iz CO (.ok (.nx (.ob C' fs'::rest))) = .st:=if_neg hC;rw[this]at q;exact q
    | _=>exact q.elim
  | ret d r=>
   intro v B' H' _ _ x ho rd
   cases r with
   | none=>exact q.elim
   | some ρ=>
    obtain⟨σ',o⟩:=ho ρ rfl
    cases ρ with
    | nil=>exact q.elim
    | cons s rest=>
     cases s with
     | ob C' fs'=>
      by_cases hC:C'=CO
      ·have:Iz CO (.ok (.ret d (some (.ob C' fs'::rest)))) = .ok (fs',d):=if_pos hC;rw[this]at q;exact fin o x hC rd q
      ·exfalso;have:Iz CO (.ok (.ret d (some (.ob C' fs'::rest)))) = .st:=if_neg hC;rw[this]at q;exact q
     | _=>exact q.elim
  | bk ρ=>exact q.elim
  | ct ρ=>exact q.elim
section
variable{P:Program}{w:World}{K:cZ}{mg:Str->Option Value}{base:Heap}
theorem okM{x qual:Str}{st:Stmt}{f:Addr}{fd:FuncData}{N ps:List Str}{k:Nat}{C CO:Addr}{g:FS}(F:jJ K x qual st f fd)(S:aq N ps (aP st))
  (hb:∀(cdv:Value)(A:Around)(outer:List Env)(s:Shared)(H:Hp)(E:XK),iC k (A.deeper (PyProof.Rows.envOfC qual (aP st) s.heap.objs.size f cdv)) →
   ∃ t,JV (pI dw P w K mg base N qual (aP st) f cdv A outer s H E).TX (iT st) t/\∀ H0 sf,DS ⟨K,H0,E,C,sf⟩ t g):bc P w K mg base dw (k+1) f fd ps (X6 K C CO (runM N.length CO g) ps.length):=by
 refine F.ok S (fun vs H Q E h=>h.1) fun cdv A outer s H vs Q E hr h=>?_;obtain⟨t,h1,h2⟩:=hb cdv A outer s H E hr;exact⟨t,h1,WL S.pre h h2⟩
theorem qFK{x qual:Str}{st:Stmt}{f:Addr}{fd:FuncData}{N ps:List Str}{k:Nat}{C CO:Addr}{g:FS}(F:jJ K x qual st f fd)(S:aq N ps (aP st))
  (hb:∀(cdv:Value)(A:Around)(outer:List Env)(s:Shared)(H:Hp)(E:XK),iC k (A.deeper (PyProof.Rows.envOfC qual (aP st) s.heap.objs.size f cdv)) →
   ∃ t,JV (pI (lB P w) P w K mg base N qual (aP st) f cdv A outer s H E) (iT st) t/\∀ H0 sf,DS ⟨K,H0,E,C,sf⟩ t g):bc P w K mg base (lB P w) (k+1) f fd ps (X6 K C CO (runM N.length CO g) ps.length):=by
 refine F.okX S (fun vs H Q E h=>h.1) fun cdv A outer s H vs Q E hr h=>?_;obtain⟨t,h1,h2⟩:=hb cdv A outer s H E hr;exact⟨t,h1,WL S.pre h h2⟩
end
end DL
namespace L2
open PySem PySem.Spec PyProof.Rows
section
variable{κ:Type} [DecidableEq κ]
noncomputable def Jm(kvs:List (κ×V))(k:κ):Option V:=(kvs.find? fun kv=>decide (kv.1=k)).map (·.2)
theorem Th{p:κ×V}{r:List (κ×V)}{k:κ}(e:p.1=k):Jm (p::r) k=some p.2:=by simp [Jm,List.find?_cons,e]
theorem Ti{p:κ×V}{r:List (κ×V)}{k:κ}(e:¬ p.1=k):Jm (p::r) k=Jm r k:=by simp [Jm,List.find?_cons,e]
theorem KV.val{kvs:List (κ×V)}{vs:List (κ×Value)}(r:KV kvs vs)(k:κ):uy (Jm kvs k) (valueAt vs k):=by
 unfold KV at r
 induction r with
 | nil=>exact True.intro
 | @cons p q ps qs h t ih=>
  obtain⟨h1,h2⟩:=h
  by_cases e:p.1=k
  ·have e':q.1=k:=h1.symm.trans e
   have b:valueAt (q::qs) k=some q.2:=by simp [valueAt,List.find?_cons,e']
   rw[Th e,b];exact h2
  ·have e':¬ q.1=k:=fun z=>e (h1.trans z)
   have b:valueAt (q::qs) k=valueAt qs k:=by simp [valueAt,List.find?_cons,e']
   rw[Ti e,b];exact ih
end
theorem qDG{P:Program}{w:World}{k:Key}{u:Value}(r:RelV (kV k) u):(qW P w).is k u=true:=by
 cases k with
 | inl i=>obtain⟨t,e⟩:=(show ∃ t,u=Value.int i t from r);subst e;exact KY P w i t
 | inr x=>obtain⟨t,e⟩:=(show ∃ t,u=Value.str x t from r);subst e;exact KR P w x t
section
variable{P:Program}{w:World}{H:Hp}{h:Heap}{a:Addr}
end
section
variable{X:Cx}{pins:List (Addr×Obj)}{σ:St}{H:Hp}{s:Shared}{a:Addr}{y v:V}{u r:Value}{o:Option V}{A:Around}{E:Value->Shared->Prop}
end
section
variable{X:Cx}{pins:List (Addr×Obj)}{σ:St}{H:Hp}{s:Shared}{a:Addr}{kvs:List (Key×V)}{k:Key}{u:Value}{A:Around}{E:Value->Shared->Prop}
end
noncomputable def qF4(i:Expr):Prop:=∀ ov iv,subscripted i false ov iv=operate [ov,iv] (getItem ov iv)
theorem X4{prog:Program}{w:World}{A:Around}{E:Value->Shared->Prop}{s:Shared}{env:Env}{value slice:Expr}{pos:Pos}{T id:String}{Q:Value->Shared->Prop}
  (hl:typeLookup (.type T) "__getitem__" = pure (some (.builtin id))) (hs:qF4 slice)
  (h:wpAny (model prog w) A (eval value env) (fun o s₁=>wpAny (model prog w) A (eval slice env) (fun i s₂=>s₂.TypeIs o T/\wpAny (model prog w) A (getItem o i) Q E s₂) E s₁) E s) :
  wpAny (model prog w) A (eval (.Subscript value slice pos) env) Q E s:=by
 refine Subscript_ (wpAny_mono h (fun o s₁ h₁=>wpAny_mono h₁ (fun i s₂ h₂=>?_) fun _ _ x=>x) fun _ _ x=>x);obtain⟨hT,h₂⟩:=h₂;unfold subscriptTail;refine wpAny_bind ?_;rw[getitemInPython_of_ne hT.not_modules];refine wpAny_bind (wpAny_specialOf hT hl ?_)
 have fin:wpAny (model prog w) A (subscripted slice false o i) (fun r s₃=>wpAny (model prog w) A (letTemporaryGo value o r >>= fun _=>pure r) Q E s₃) E s₂:=by
  rw[hs o i];exact wpAny_operating (wpAny_mono h₂ (fun r s₃ h₃=>wpAny_bind (wpAny_letTemporaryGo (wpAny_pure h₃))) fun _ _ x=>x)
 first
  | exact wpAny_pure (wpAny_bind fin)
  | exact wpAny_bind (wpAny_pure (wpAny_bind fin))
  | exact wpAny_bind fin
section
variable{X:Cx}{o i e value:Expr}{pos pos' tpos:Pos}{td ty tv:TE}
end
section
variable{X:Cx}{pos:Pos}
end
structure M1(X:Cx)(o:Expr)(m:Str)(apos:Pos)(e:Expr)(cpos:Pos):Prop where
 base:attributeBase o m X.env (eval o X.env)=eval o X.env
 few:((backTo cpos (starEach [e] X.env)).all (fun x => !x.1)&&(backToKw cpos (keywordEach [] X.env)).all (fun x=>x.1.isSome)
  && decide (([e]:List Expr).length+([]:List Keyword).length+(if ([]:List Keyword).isEmpty then 0 else 1)<30))=true
 line:(apos.endLine==cpos.line)=true
 trees:backTo cpos (starEach [e] X.env)=[(false,eval e X.env)]
structure M2(X:Cx)(o:Expr)(m:Str)(apos:Pos)(e f:Expr)(cpos:Pos):Prop where
 base:attributeBase o m X.env (eval o X.env)=eval o X.env
 few:((backTo cpos (starEach [e,f] X.env)).all (fun x => !x.1)&&(backToKw cpos (keywordEach [] X.env)).all (fun x=>x.1.isSome)
  && decide (([e,f]:List Expr).length+([]:List Keyword).length+(if ([]:List Keyword).isEmpty then 0 else 1)<30))=true
 line:(apos.endLine==cpos.line)=true
 trees:backTo cpos (starEach [e,f] X.env)=[(false,eval e X.env),(false,eval f X.env)]
section
variable{X:Cx}{pins:List (Addr×Obj)}{σ:St}{H:Hp}{s:Shared}{a:Addr}{y d:V}{u r:Value}{o:Option V}{A:Around}{E:Value->Shared->Prop}
end
section
variable{X:Cx}{o e f:Expr}{apos cpos:Pos}{td ty tx:TE}
end
section
variable{X:Cx}{pins:List (Addr×Obj)}{σ:St}{H:Hp}{s:Shared}{a:Addr}{kvs:List (Key×V)}{A:Around}{E:Value->Shared->Prop}
end
section
variable{X:Cx}{pins:List (Addr×Obj)}{σ:St}{H:Hp}{s:Shared}{a:Addr}{y:V}{u:Value}{A:Around}{E:Value->Shared->Prop}
end
end L2
namespace DL
open PySem L2
noncomputable def kyS(p:Str×V):Key×V:=(Sum.inr p.1,p.2)
noncomputable def KD(P:Program)(w:World)(K:cZ)(a:Addr)(kvs:List (Str×V)):Prop:=∀ h,K.In h->∃ vs:List (Key×Value),KV (kvs.map kyS) vs/\h.DictOf (qW P w) a vs
noncomputable def tKD(kvs:List (Str×V))(ty:TE):TE:=fun σ H Q=>ty σ H fun y H1 => ∃ k v,y = .str k/\kvs.lookup k=some v/\Q v H1
theorem Tj(k:Str):∀ kvs:List (Str×V),Jm (kvs.map kyS) (Sum.inr k:Key)=kvs.lookup k
 | []=>rfl
 | (x,v)::r=>by
  have ih:=Tj k r;unfold Jm at ih ⊢;rw[List.map_cons,List.find?_cons,List.lookup_cons]
  by_cases c:k=x
  ·subst c;rw[beq_self_eq_true,show decide ((kyS (k,v)).1=Sum.inr k)=true from decide_eq_true rfl];rfl
  ·rw[show (k==x)=false from beq_eq_false_iff_ne.mpr c,show decide ((kyS (x,v)).1=Sum.inr k)=false from decide_eq_false fun z=>c (Sum.inr.inj z).symm];exact ih
section
variable{X:Cx}{a:Addr}{kvs:List (Str×V)}{x:Str}{i:Expr}{ty:TE}{p pos:Pos}
theorem qCV(hD:KD X.prog X.w X.K a kvs)(hg:Gl X x)(hm:X.mg x=some (.ref a))(hi:PE X i ty)(hs:qF4 i)(hd:(x==("__debug__" : Str))=false:=by decide):PE X (.Subscript (.Name x p) i pos) (tKD kvs ty):=by
 intro pins s σ H Q I h;have ho:PE X (.Name x p) (tC (.ref a)):=dz hg hm rfl hd;refine X4 PySem.F.slot_dict_getitem.lookup hs (gO (ho pins s σ H (fun x H1=>x = .ref a/\H1=H) I ⟨rfl,rfl⟩) fun u s1 ⟨x,H1,I1,rx,e1,e2⟩=>?_);subst e1 e2
 cases rx
 refine gO (hi pins s1 σ _ _ I1 h) fun iv s2 ⟨y,H2,I2,ry,k,v,ey,l,q⟩=>?_;subst ey;obtain⟨vs,rel,dd⟩:=hD _ I2.oA;have hv:=rel.val (Sum.inr k:Key);rw[Tj,l]at hv;obtain⟨w',hw,rw'⟩:=uy.some_of hv;exact⟨dd.typeIs,wpAny_getItem_of (qDG (k:=Sum.inr k) ry) dd.mapOf hw ⟨v,H2,I2.tok _,rw',q⟩⟩
end
noncomputable def Zn(PX:List (Str×D))(f:FE):FE:=fun ρ=>(f ρ).bind fun w=>match w.d with
 | .str k=>Rf (PX.lookup k)
 | _=>.st
theorem qET{G:Gm}{kvs:List (Str×V)}{PX:List (Str×D)}{ta:TE}{fa:FE}(hk:∀ B,Qk G.K B PX kvs)(ha:DE G ta fa):DE G (tKD kvs ta) (Zn PX fa):=by
 intro B H ρ σ Q o h;refine ha.then o (P:=dH G B H ρ σ Q) h (fun z=>z) (fun z=>z) fun w z v B1 H1 o1 x1 q1=>?_;have q:=q1.rq o1.sb
 split at z
 ·rename_i k e
  rw[e]at q
  cases el:PX.lookup k with
  | none=>rw[el]at z;exact z.elim
  | some d=>
   rw[el]at z;obtain⟨v',e1,r⟩:=(hk B1).look.1 d el;exact⟨k,v',q,e1,dH.now o1 (z.on x1) r⟩
 ·exact z.elim
end DL
namespace L2
open PySem
theorem o9{N P:List Str}{sc:Scope}(kind:sc.kind = .function:=by rfl)(co:sc.isCoroutine=false:=by rfl)(gen:sc.isGenerator=false:=by rfl)(nd:N.Nodup:=by decide +kernel)(pre:N.take P.length=P:=by rfl)
  (par:∀ x∈P,sc.names.lookup x=some .local∨sc.names.lookup x=some .cell:=by decide +kernel) (Nk:∀ y∈sc.names,y.2≠.free:=by decide +kernel):aq N P sc:=⟨kind,co,gen,nd,pre,par,Nk⟩
theorem Qc{osc:Scope}{N:List Str}{scope:Scope}{x:Str}{cG:List (Nat×Str)}(kind:scope.kind = .function:=by rfl)(hx:scope.names.lookup x=some .local:=by rfl)(QD:∀ y∈scope.names,y.2≠.cell:=by decide +kernel)
  (Xl:∀ y∈scope.names,y.2 = .local->scope.names.lookup y.1=some .local:=by decide +kernel) (free:∀ y∈scope.names,y.2 = .free->osc.names.lookup y.1=some .cell∨osc.names.lookup y.1=some .free:=by decide +kernel)
  (cap:∀ p∈cG,N[p.1]? = some p.2/\scope.names.lookup p.2=some .free:=by decide +kernel) (nd:(x::cG.map (·.2)).Nodup:=by decide +kernel):gR osc N scope x cG:=⟨kind,hx,QD,Xl,free,cap,nd⟩
structure Dp(P:Program)(w:World)(K:cZ)(mg:Str->Option Value)(base:Heap)(CX:Ji)(n:Nat)(f:Addr)(d:FuncData)(ps:List Str)(sp:Sp)(x:Str):Prop where
 G:bc P w K mg base CX n f d ps sp
 b:Binds K d ps []
 k:KI K f
 m:mg x=some (.ref f)
section
variable{X:Cx}{k:Nat}{f:Addr}{fd:FuncData}{ps:List Str}{sp:Sp}{x:Str}{p pos:Pos}{e:Expr}{es:List Expr}{t:TA}
theorem pC(D:Dp X.prog X.w X.K X.mg X.base dw k f fd ps sp x)(hr:iC k X.A)(ha:PA X (e::es) t)(hg:Gl X x:=by rfl)(hdb:(x==("__debug__" : Str))=false:=by decide)(he:starEach (e::es) X.env=(false,eval e X.env)::starEach es X.env:=by rfl)(hpl:(backTo pos (starEach es X.env)).any (·.1)=false:=by rfl) :
  PE X (.Call (.Name x p) (e::es) [] pos) (Ph sp [] E0 t):=zI D.G hr hg D.m D.k D.b .nil yC ha hdb he hpl
end
end L2
namespace L2
open PySem PyProof.Rows
end L2
namespace DL
open PySem L2
section
variable{X:Cx}{a b e:Expr}{ta tb t:TE}{pos p:Pos}
theorem cg(ha:PE X a ta)(hb:PE X b tb)(hs:Ql b):PE X (.Subscript a b pos) (X3 (qAO X.K) ta tb):=zZ qFU ha hb hs
theorem qK(hu:X.A.units+64<cLine)(ha:PE X a ta)(hb:PE X b tb):PT X (.Compare a [.Eq] [b] pos) (Tq (X3 (il X.K false) ta tb)):=zK (ju hu) ha hb (zR _)
theorem qT(ha:PE X a ta)(hb:PE X b tb):PE X (.BinOp a .Add b pos) (X3 (Jw X.K) ta tb):=yA QB ha hb
theorem rP(hg:Gl X "len")(hm:X.mg "len" = none)(ha:PE X e t)(he:starEach [e] X.env=(false,eval e X.env)::starEach [] X.env:=by rfl):PE X (.Call (.Name "len" p) [e] [] pos) (tCB (Fv X.K) (uJ t xG)):=zS yf hg hm qA6 (zA ha zD he) (by decide) (by decide) he
end
end DL
namespace zz
open PySem L2 Zv DL
section
variable{P:Program}{w:World}{K:cZ}{mg:Str->Option Value}{base:Heap}
noncomputable def DK:FS:=
 (az (dO (aL (Ze true) (aB 0) (fC .non)) (qD zq Xr (fC (.int 0)) (aB 0) (cW bD (aA (aB 1) aJ)))))
noncomputable def bI:List D->Rz D:=eG 2 (DK)
theorem Ac:aq ["number","things"] ["number","things"] (aP jQ):=o9
theorem Aj{n:Nat}{C f:Addr}{fd:FuncData}(F:jJ K "is_number_of" "is_number_of" jQ f fd)(bR:mg "len" = none) :
  bc P w K mg base dw (n+1) f fd ["number","things"] (dB K C (bI) 2):=
 uY F Ac fun cdv A outer s H E hr=>⟨_,
  (zF (zO (jZ (bQ (r:=XS true) CP (pv 0) CJ (zR _)) (gP (lE oO K3 zB (pv 0) (rP rfl bR (pv 1))))))),
  (ao (jh (aH ZX (aF 0) JD) (t6 (di fun _ _ _ _=>rfl) (di fun _ _ _ _=>rfl) aG (aF 0) (bu cD (aD (aF 1) aK)))))⟩
noncomputable def El:FS:=
 (az (qD zq zq (vB j9 (fC (.int 1000000000000000000000000000000))) (aB 0) (fC (.int 1000000000000000000000000000000))))
noncomputable def iw:List D->Rz D:=eG 1 (El)
theorem Bl:aq ["number"] ["number"] (aP kY):=o9
theorem CW{n:Nat}{C f:Addr}{fd:FuncData}(F:jJ K "is_in_reach" "is_in_reach" kY f fd){Bc:Value}(Cm:mg "GREATEST" = some Bc)(Dw:RelV (.int 1000000000000000000000000000000) Bc) :
  bc P w K mg base dw (n+1) f fd ["number"] (dB K C (iw) 1):=
 uY F Bl fun cdv A outer s H E hr=>⟨_,
  (zF (zO (lE oO oO (rD lL (dz (v:=(.int 1000000000000000000000000000000)) rfl Cm Dw)) (pv 0) (dz (v:=(.int 1000000000000000000000000000000)) rfl Cm Dw)))),
  (ao (t6 (di fun _ _ _ _=>rfl) (di fun _ _ _ _=>rfl) (rH lM (fK fun _=>rfl)) (aF 0) (fK fun _=>rfl)))⟩
noncomputable def O1:FS:=
 (az (eX (nQ false (aB 0)) [] lU (aL aj (aB 0) (fC (.int 0)))))
noncomputable def dI:List D->Rz D:=eG 1 (O1)
theorem Ju:aq ["things"] ["things"] (aP mq):=o9
theorem K5{n:Nat}{C f:Addr}{fd:FuncData}(F:jJ K "names_of" "names_of" mq f fd) :
  bc P w K mg base dw (n+1) f fd ["things"] (dB K C (dI) 1):=
 uY F Ju fun cdv A outer s H E hr=>⟨_,
  (zF (zO (yM (cG:=[]) rfl (show gR (aP mq) ["things"] _ _ _ from Qc) (jW (pv 0)) (fun _ _ _ _ _ _=>ir) (fun _ _ _ _ _ _=>(cg (pv 0) zB (fun _ _=>rfl)))))),
  (ao (gY (je (aF 0)) pG (aH aU (aF 0) aG)))⟩
noncomputable def Rk:FS:=
 (az (dO (qD zq zq (fC (.int 1)) (cW bD (aA (aB 0) aJ)) (fC (.int 12))) (cW (Wq fun l=>l.all id) (aA (eX (nQ false (aB 0)) [] lU (aL (inD false) (aB 0) (fC (.str "abcdefghijklmnopqrstuvwxyz")))) aJ))))
noncomputable def dN:List D->Rz D:=eG 1 (Rk)
theorem Mw:aq ["text"] ["text"] (aP pQ):=o9
theorem Nh{n:Nat}{C f:Addr}{fd:FuncData}(F:jJ K "is_word" "is_word" pQ f fd)(Cj:mg "all" = none)(bR:mg "len" = none){Ff:Value}(RN:mg "LONGEST" = some Ff)(T4:RelV (.int 12) Ff){rA:Value}(Am:mg "SMALL_LETTERS" = some rA)(Ay:RelV (.str "abcdefghijklmnopqrstuvwxyz") rA) :
  bc P w K mg base dw (n+1) f fd ["text"] (dB K C (dN) 1):=
 uY F Mw fun cdv A outer s H E hr=>⟨_,
  (zF (zO (jZ (lE oO oO zB (rP rfl bR (pv 0)) (dz (v:=(.int 12)) rfl RN T4)) (gP (zS (qI rfl) rfl Cj PyProof.Rows.boot_all (zA (yM (cG:=[]) rfl (show gR (aP pQ) ["text"] _ _ _ from Qc) (jW (pv 0)) (fun _ _ _ _ _ _=>ir) (fun _ _ _ _ _ _=>(bQ (r:=rO K false) lO (pv 0) (dz (v:=(.str "abcdefghijklmnopqrstuvwxyz")) rfl Am Ay) rfl))) zD)))))),
  (ao (jh (t6 (di fun _ _ _ _=>rfl) (di fun _ _ _ _=>rfl) aG (bu cD (aD (aF 0) aK)) (fK fun _=>rfl)) (bu Gk (aD (gY (je (aF 0)) pG (aH n6 (aF 0) (fK fun _=>rfl))) aK))))⟩
noncomputable def xn:FS:=
 (az (wM (eV (aO (c7 dN) 1 (aA (aB 0) aJ))) (aL (inD false) (aB 0) (aB 1))))
noncomputable def d7:List D->Rz D:=eG 2 (xn)
theorem vL:aq ["name","ahead"] ["name","ahead"] (aP iI):=o9
theorem vm{n:Nat}{C f qC:Addr}{fd qH:FuncData}(F:jJ K "name_has_fault" "name_has_fault" iI f fd)
  (qJ:Dp P w K mg base dw n qC qH ["text"] (dB K C dN 1) "is_word") :
  bc P w K mg base dw (n+1) f fd ["name","ahead"] (dB K C (d7) 2):=
 uY F vL fun cdv A outer s H E hr=>⟨_,
  (zF (zO (CG (iW (pC qJ hr (zA (pv 0) zD))) (gP (bQ (r:=rO K false) lO (pv 0) (pv 1) rfl))))),
  (ao (Dj (ig (aW rfl (aD (aF 0) aK))) (aH n6 (aF 0) (aF 1))))⟩
noncomputable def jc:FS:=
 (aX (cz (aN (aL (bh false) (cW bD (aA (aB 1) aJ)) (fC (.int 0))))
   (az (aL (bh true) (aB 0) (fC (.int 0))))
   bO)
  (az (wM (eV (qD zq zq (fC (.int 1)) (aB 0) (aL bM (aL aj (aL aj (aB 1) (vB j9 (fC (.int 1)))) (fC (.int 2))) (fC (.int 1))))) (aL pY (aB 0) (fC (.int 12))))))
noncomputable def cM:List D->Rz D:=eG 2 (jc)
theorem uO:aq ["depth","ahead"] ["depth","ahead"] (aP gW):=o9
theorem uX{n:Nat}{C f:Addr}{fd:FuncData}(F:jJ K "depth_has_fault" "depth_has_fault" gW f fd)(bR:mg "len" = none){Fj:Value}(RQ:mg "DEEPEST" = some Fj)(TQ:RelV (.int 12) Fj) :
  bc P w K mg base dw (n+1) f fd ["depth","ahead"] (dB K C (cM) 2):=
 uY F uO fun cdv A outer s H E hr=>⟨_,
  (zE (yB (qK hr.units (rP rfl bR (pv 1)) zB)
  (zF (zO (bQ (r:=il K true) (iY hr.units) (pv 0) zB (zR _))))
  zT)
  (zF (zO (CG (iW (lE oO oO zB (pv 0) (qT (cg (cg (pv 1) (rD lL zB) (fun _ _=>rfl)) zB (fun _ _=>rfl)) zB))) (gP (bQ jm (pv 0) (dz (v:=(.int 12)) rfl RQ TQ) (zR _))))))),
  (aQ (bY (aY (aH bG (bu cD (aD (aF 1) aK)) aG))
   (ao (aH bG (aF 0) aG))
   bC)
  (ao (Dj (ig (t6 (di fun _ _ _ _=>rfl) (di fun _ _ _ _=>rfl) aG (aF 0) (aH bz (aH aU (aH aU (aF 1) (rH lM aG)) aG) aG))) (aH (di fun _ _ _ _=>rfl) (aF 0) (fK fun _=>rfl)))))⟩
noncomputable def wI:FS:=
 (aX (cz (aN (aL (bh false) (aB 0) (fC (.str "near"))))
   (az (aL (bh true) (aB 1) (fC (.str "one"))))
   bO)
  (aX (cz (aN (aL (bh false) (aB 0) (fC (.str "deep"))))
   (az (aL (inD true) (aB 1) (cV (aA (fC (.str "one")) (aA (fC (.str "all")) aJ)))))
   bO)
  (az (aL (bh true) (aB 0) (fC (.str ""))))))
noncomputable def dM:List D->Rz D:=eG 2 (wI)
theorem uN:aq ["keeps","kind"] ["keeps","kind"] (aP gU):=o9
theorem uV{n:Nat}{C f:Addr}{fd:FuncData}(F:jJ K "keeps_has_fault" "keeps_has_fault" gU f fd) :
  bc P w K mg base dw (n+1) f fd ["keeps","kind"] (dB K C (dM) 2):=
 uY F uN fun cdv A outer s H E hr=>⟨_,
  (zE (yB (qK hr.units (pv 0) zP)
  (zF (zO (bQ (r:=il K true) (iY hr.units) (pv 1) zP (zR _))))
  zT)
  (zE (yB (qK hr.units (pv 0) zP)
  (zF (zO (bQ (r:=rO K true) xU (pv 1) (zV (zA zP (zA zP zD))) rfl)))
  zT)
  (zF (zO (bQ (r:=il K true) (iY hr.units) (pv 0) zP (zR _)))))),
  (aQ (bY (aY (aH bG (aF 0) aV))
   (ao (aH bG (aF 1) aV))
   bC)
  (aQ (bY (aY (aH bG (aF 0) aV))
   (ao (aH n6 (aF 1) (dD (aD aV (aD aV aK)))))
   bC)
  (ao (aH bG (aF 0) aV))))⟩
noncomputable def gH:FS:=
 (aX (aR 2 (dO (aL pY (cW bD (aA (aB 1) aJ)) (fC (.int 0))) (aL pY (aL aj (aL aj (aB 1) (fC (.int 0))) (fC (.int 2))) (aL aj (aB 0) (fC (.int 2))))))
  (aX (cz (aN (aL (bh false) (aL aj (aB 0) (fC (.int 1))) (fC (.str "plain"))))
   (az (aB 2))
   bO)
  (az (eV (aB 2)))))
noncomputable def cU:List D->Rz D:=eG 3 (gH)
theorem pO:aq ["room","behind","has_kids"] ["room","behind"] (aP j8):=o9
theorem xW{n:Nat}{C f:Addr}{fd:FuncData}(F:jJ K "end_has_fault" "end_has_fault" j8 f fd)(bR:mg "len" = none) :
  bc P w K mg base dw (n+1) f fd ["room","behind"] (dB K C (cU) 2):=
 uY F pO fun cdv A outer s H E hr=>⟨_,
  (zE (zJ (i:=2) pO.nd rfl (Or.inl rfl) (jZ (bQ jm (rP rfl bR (pv 1)) zB (zR _)) (gP (bQ jm (cg (cg (pv 1) zB (fun _ _=>rfl)) zB (fun _ _=>rfl)) (cg (pv 0) zB (fun _ _=>rfl)) (zR _)))))
  (zE (yB (qK hr.units (cg (pv 0) zB (fun _ _=>rfl)) zP)
  (zF (zO (pv 2)))
  zT)
  (zF (zO (iW (pv 2)))))),
  (aQ (ak (jh (aH (di fun _ _ _ _=>rfl) (bu cD (aD (aF 1) aK)) aG) (aH (di fun _ _ _ _=>rfl) (aH aU (aH aU (aF 1) aG) aG) (aH aU (aF 0) aG))))
  (aQ (bY (aY (aH bG (aH aU (aF 0) aG) aV))
   (ao (aF 2))
   bC)
  (ao (ig (aF 2)))))⟩
noncomputable def xu:FS:=
 (aX (aR 3 (aL aj (aB 0) (fC (.int 0))))
  (aX (cz (aN (aL (bh false) (aB 3) (fC (.str "say"))))
   (az (eV (aO (c7 dN) 1 (aA (aL aj (aB 0) (fC (.int 1))) aJ))))
   bO)
  (aX (cz (aN (aL (bh false) (aB 3) (fC (.str "send"))))
   (az (eV (aO (c7 bI) 2 (aA (aL aj (aB 0) (fC (.int 1))) (aA (aB 2) aJ)))))
   bO)
  (aX (cz (qe (aN (aO (c7 bI) 2 (aA (aL aj (aB 0) (fC (.int 1))) (aA (aB 1) aJ)))))
   (az (fC (.bl true)))
   bO)
  (aX (cz (aN (aL (bh false) (aB 3) (fC (.str "set"))))
   (aX (aR 4 (aL aj (aL aj (aB 1) (aL aj (aB 0) (fC (.int 1)))) (fC (.int 1))))
   (az (eV (qD zq Xr (fC (.int 0)) (aL aj (aB 0) (fC (.int 2))) (aB 4)))))
   bO)
  (az (eV (aO (c7 iw) 1 (aA (aL aj (aB 0) (fC (.int 2))) aJ)))))))))
noncomputable def kJ:List D->Rz D:=eG 5 (xu)
theorem jM:aq ["deed","boxes","events","kind","size"] ["deed","boxes","events"] (aP iM):=o9
theorem vq{n:Nat}{C f qC dq pF:Addr}{fd qH du pH:FuncData}(F:jJ K "deed_has_fault" "deed_has_fault" iM f fd)
  (qJ:Dp P w K mg base dw n qC qH ["text"] (dB K C dN 1) "is_word")
  (cT:Dp P w K mg base dw n dq du ["number","things"] (dB K C bI 2) "is_number_of")
  (pJ:Dp P w K mg base dw n pF pH ["number"] (dB K C iw 1) "is_in_reach") :
  bc P w K mg base dw (n+1) f fd ["deed","boxes","events"] (dB K C (kJ) 3):=
 uY F jM fun cdv A outer s H E hr=>⟨_,
  (zE (zJ (i:=3) jM.nd rfl (Or.inl rfl) (cg (pv 0) zB (fun _ _=>rfl)))
  (zE (yB (qK hr.units (pv 3) zP)
  (zF (zO (iW (pC qJ hr (zA (cg (pv 0) zB (fun _ _=>rfl)) zD)))))
  zT)
  (zE (yB (qK hr.units (pv 3) zP)
  (zF (zO (iW (pC cT hr (zA (cg (pv 0) zB (fun _ _=>rfl)) (zA (pv 2) zD))))))
  zT)
  (zE (yB (my (fY (pC cT hr (zA (cg (pv 0) zB (fun _ _=>rfl)) (zA (pv 1) zD)))))
  (zF (zO rE))
  zT)
  (zE (yB (qK hr.units (pv 3) zP)
  (zE (zJ (i:=4) jM.nd rfl (Or.inl rfl) (cg (cg (pv 1) (cg (pv 0) zB (fun _ _=>rfl)) (fun _ _=>rfl)) zB (fun _ _=>rfl)))
  (zF (zO (iW (lE oO K3 zB (cg (pv 0) zB (fun _ _=>rfl)) (pv 4))))))
  zT)
  (zF (zO (iW (pC pJ hr (zA (cg (pv 0) zB (fun _ _=>rfl)) zD)))))))))),
  (aQ (ak (aH aU (aF 0) aG))
  (aQ (bY (aY (aH bG (aF 3) aV))
   (ao (ig (aW rfl (aD (aH aU (aF 0) aG) aK))))
   bC)
  (aQ (bY (aY (aH bG (aF 3) aV))
   (ao (ig (aW rfl (aD (aH aU (aF 0) aG) (aD (aF 2) aK)))))
   bC)
  (aQ (bY (nU (qi (aW rfl (aD (aH aU (aF 0) aG) (aD (aF 1) aK)))))
   (ao rK)
   bC)
  (aQ (bY (aY (aH bG (aF 3) aV))
   (aQ (ak (aH aU (aH aU (aF 1) (aH aU (aF 0) aG)) aG))
   (ao (ig (t6 (di fun _ _ _ _=>rfl) (di fun _ _ _ _=>rfl) aG (aH aU (aF 0) aG) (aF 4)))))
   bC)
  (ao (ig (aW rfl (aD (aH aU (aF 0) aG) aK)))))))))⟩
noncomputable def ug:FS:=
 (az (wM (aL pY (cW bD (aA (aB 0) aJ)) (fC (.int 8))) (cW (Wq fun l=>l.any id) (aA (eX (nQ false (aB 0)) [(1,"boxes"),(2,"events")] lU (aO (c7 kJ) 3 (aA (aB 0) (aA (aB 1) (aA (aB 2) aJ))))) aJ))))
noncomputable def cu:List D->Rz D:=eG 3 (ug)
theorem uD:aq ["deeds","boxes","events"] ["deeds","boxes","events"] (aP dj):=o9
theorem uE{n:Nat}{C f yR:Addr}{fd yc:FuncData}(F:jJ K "deeds_have_fault" "deeds_have_fault" dj f fd)
  (yr:Dp P w K mg base dw n yR yc ["deed","boxes","events"] (dB K C kJ 3) "deed_has_fault") (qDB:mg "any" = none) (bR:mg "len" = none) {vH:Value} (IV:mg "MOST_DEEDS" = some vH) (Ja:RelV (.int 8) vH) :
  bc P w K mg base dw (n+1) f fd ["deeds","boxes","events"] (dB K C (cu) 3):=
 uY F uD fun cdv A outer s H E hr=>⟨_,
  (zF (zO (CG (bQ jm (rP rfl bR (pv 0)) (dz (v:=(.int 8)) rfl IV Ja) (zR _)) (gP (zS (Ss rfl) rfl qDB PyProof.Rows.boot_any (zA (yM (cG:=[(1,"boxes"),(2,"events")]) rfl (show gR (aP dj) ["deeds","boxes","events"] _ _ _ from Qc) (jW (pv 0)) (fun _ _ _ _ _ _=>ir) (fun _ _ _ _ _ _=>(pC yr hr (zA (pv 0) (zA (pv 1) (zA (pv 2) zD)))))) zD)))))),
  (ao (Dj (aH (di fun _ _ _ _=>rfl) (bu cD (aD (aF 0) aK)) (fK fun _=>rfl)) (bu Gk (aD (gY (je (aF 0)) pG (aW rfl (aD (aF 0) (aD (aF 1) (aD (aF 2) aK))))) aK))))⟩
noncomputable def jy:FS:=
 (aX (aR 4 (aL aj (aB 0) (fC (.int 1))))
  (aX (aR 5 (aL aj (aB 0) (fC (.int 4))))
  (aX (cz (lq (aN (aO (c7 d7) 2 (aA (aL aj (aB 0) (fC (.int 0))) (aA (aO (c7 dI) 1 (aA (aB 1) aJ)) aJ)))) (aN (aL (inD true) (aB 4) (fC (.tup [.str "plain",.str "one",.str "all"])))))
   (az (fC (.bl true)))
   bO)
  (aX (cz (lq (aN (aO (c7 cM) 2 (aA (aL aj (aB 0) (fC (.int 2))) (aA (aB 1) aJ)))) (aN (aO (c7 dM) 2 (aA (aL aj (aB 0) (fC (.int 3))) (aA (aB 4) aJ)))))
   (az (fC (.bl true)))
   bO)
  (aX (cz (mO (aN (aL (bh true) (aB 5) (fC (.str "")))) (qe (aN (aO (c7 dN) 1 (aA (aB 5) aJ)))))
   (az (fC (.bl true)))
   bO)
  (az (wM (aO (c7 cu) 3 (aA (aL aj (aB 0) (fC (.int 5))) (aA (aB 2) (aA (aB 3) aJ)))) (aO (c7 cu) 3 (aA (aL aj (aB 0) (fC (.int 6))) (aA (aB 2) (aA (aB 3) aJ)))))))))))
noncomputable def fQ:List D->Rz D:=eG 6 (jy)
theorem jK:aq ["room","ahead","boxes","events","kind","lamp"] ["room","ahead","boxes","events"] (aP iH):=o9
theorem vh{n:Nat}{C f um kI wL wJ qC jA:Addr}{fd ux kO wV wR qH jB:FuncData}{qw:Addr}(F:jJ K "room_has_fault" "room_has_fault" iH f fd)
  (vA:Dp P w K mg base dw n um ux ["things"] (dB K C dI 1) "names_of")
  (kW:Dp P w K mg base dw n kI kO ["name","ahead"] (dB K C d7 2) "name_has_fault")
  (wg:Dp P w K mg base dw n wL wV ["depth","ahead"] (dB K C cM 2) "depth_has_fault")
  (wY:Dp P w K mg base dw n wJ wR ["keeps","kind"] (dB K C dM 2) "keeps_has_fault")
  (qJ:Dp P w K mg base dw n qC qH ["text"] (dB K C dN 1) "is_word")
  (g8:Dp P w K mg base dw n jA jB ["deeds","boxes","events"] (dB K C cu 3) "deeds_have_fault") {vI:Value} (IW:mg "KINDS" = some vI) (Jb:RelV (.ref qw) vI) (Jc:∀ B,Rp K B (.tup [.str "plain",.str "one",.str "all"]) (.ref qw)) :
  bc P w K mg base dw (n+1) f fd ["room","ahead","boxes","events"] (dB K C (fQ) 4):=
 uY F jK fun cdv A outer s H E hr=>⟨_,
  (zE (zJ (i:=4) jK.nd rfl (Or.inl rfl) (cg (pv 0) zB (fun _ _=>rfl)))
  (zE (zJ (i:=5) jK.nd rfl (Or.inl rfl) (cg (pv 0) zB (fun _ _=>rfl)))
  (zE (yB (PW.pt (pw_or (fY (pC kW hr (zA (cg (pv 0) zB (fun _ _=>rfl)) (zA (pC vA hr (zA (pv 1) zD)) zD)))) (pw_or1 (zK (r:=rO K true) xU (pv 4) (dz (v:=(.ref qw)) rfl IW Jb) rfl))))
  (zF (zO rE))
  zT)
  (zE (yB (PW.pt (pw_or (fY (pC wg hr (zA (cg (pv 0) zB (fun _ _=>rfl)) (zA (pv 1) zD)))) (pw_or1 (fY (pC wY hr (zA (cg (pv 0) zB (fun _ _=>rfl)) (zA (pv 4) zD)))))))
  (zF (zO rE))
  zT)
  (zE (yB (PW.pt (pw_and (zK (r:=il K true) (iY hr.units) (pv 5) zP (zR _)) (yK (my (fY (pC qJ hr (zA (pv 5) zD)))))))
  (zF (zO rE))
  zT)
  (zF (zO (CG (pC g8 hr (zA (cg (pv 0) zB (fun _ _=>rfl)) (zA (pv 2) (zA (pv 3) zD)))) (gP (pC g8 hr (zA (cg (pv 0) zB (fun _ _=>rfl)) (zA (pv 2) (zA (pv 3) zD))))))))))))),
  (aQ (ak (aH aU (aF 0) aG))
  (aQ (ak (aH aU (aF 0) aG))
  (aQ (bY (nT (qi (aW rfl (aD (aH aU (aF 0) aG) (aD (aW rfl (aD (aF 1) aK)) aK)))) (aY (aH n6 (aF 4) (fK Jc))))
   (ao rK)
   bC)
  (aQ (bY (nT (qi (aW rfl (aD (aH aU (aF 0) aG) (aD (aF 1) aK)))) (qi (aW rfl (aD (aH aU (aF 0) aG) (aD (aF 4) aK)))))
   (ao rK)
   bC)
  (aQ (bY (qj (aY (aH bG (aF 5) aV)) (nU (qi (aW rfl (aD (aF 5) aK)))))
   (ao rK)
   bC)
  (ao (Dj (aW rfl (aD (aH aU (aF 0) aG) (aD (aF 2) (aD (aF 3) aK)))) (aW rfl (aD (aH aU (aF 0) aG) (aD (aF 2) (aD (aF 3) aK)))))))))))⟩
noncomputable def xr:FS:=
 (aX (cz (aN (aL (bh false) (aB 0) (fC (.str "to"))))
   (az (eV (aO (c7 bI) 2 (aA (aB 1) (aA (aB 2) aJ)))))
   bO)
  (aX (cz (aN (aL (bh false) (aB 0) (fC (.str "back"))))
   (az (wM (eV (aO (c7 bI) 2 (aA (aB 1) (aA (aB 2) aJ)))) (aL (bh false) (aL aj (aL aj (aB 2) (aB 1)) (fC (.int 3))) (fC (.str "")))))
   bO)
  (az (wM (aL (bh true) (aB 0) (fC (.str "stay"))) (aL (Ze true) (aB 1) (fC .non))))))
noncomputable def iQ:List D->Rz D:=eG 3 (xr)
theorem vN:aq ["way","goal","rooms"] ["way","goal","rooms"] (aP iJ):=o9
theorem vo{n:Nat}{C f dq:Addr}{fd du:FuncData}(F:jJ K "goal_has_fault" "goal_has_fault" iJ f fd)
  (cT:Dp P w K mg base dw n dq du ["number","things"] (dB K C bI 2) "is_number_of") :
  bc P w K mg base dw (n+1) f fd ["way","goal","rooms"] (dB K C (iQ) 3):=
 uY F vN fun cdv A outer s H E hr=>⟨_,
  (zE (yB (qK hr.units (pv 0) zP)
  (zF (zO (iW (pC cT hr (zA (pv 1) (zA (pv 2) zD))))))
  zT)
  (zE (yB (qK hr.units (pv 0) zP)
  (zF (zO (CG (iW (pC cT hr (zA (pv 1) (zA (pv 2) zD)))) (gP (bQ (r:=il K false) (ju hr.units) (cg (cg (pv 2) (pv 1) (fun _ _=>rfl)) zB (fun _ _=>rfl)) zP (zR _))))))
  zT)
  (zF (zO (CG (bQ (r:=il K true) (iY hr.units) (pv 0) zP (zR _)) (gP (bQ (r:=XS true) CP (pv 1) CJ (zR _)))))))),
  (aQ (bY (aY (aH bG (aF 0) aV))
   (ao (ig (aW rfl (aD (aF 1) (aD (aF 2) aK)))))
   bC)
  (aQ (bY (aY (aH bG (aF 0) aV))
   (ao (Dj (ig (aW rfl (aD (aF 1) (aD (aF 2) aK)))) (aH bG (aH aU (aH aU (aF 2) (aF 1)) aG) aV)))
   bC)
  (ao (Dj (aH bG (aF 0) aV) (aH ZX (aF 1) JD)))))⟩
noncomputable def qBO:FS:=
 (cz (qe (aN (aB 0)))
   HW
   bO)
noncomputable def cj:List D->Rz D:=eG 1 (qBO)
theorem XH:aq ["fits"] ["fits"] (aP HS):=o9
theorem Xi{n:Nat}{C f:Addr}{fd:FuncData}(F:jJ K "need" "need" HS f fd)(mX:mg "NoWords" = some (.ref C))(jF:FQ K C) :
  bc P w K mg base (lB P w) (n+1) f fd ["fits"] (dB K C (cj) 1):=
 Ei F XH fun cdv A outer s H E hr=>⟨_,
  (zF (yB (my (fY (pv 0)))
  (zF (Bw Iw rfl rfl mX jF (zA zP zD)))
  zT)),
  (bY (nU (qi (aF 0)))
   Dg
   bC)⟩
noncomputable def ue:FS:=
 (aX (aR 1 (fM "str" HB (aB 0) (aA (fC (.str " ")) aJ)))
  (aX (gB (aO cj 1 (aA (aL (inD true) (fC (.str "")) (aB 1)) aJ)))
  (az (aB 1))))
noncomputable def bK:List D->Rz D:=eG 2 (ue)
theorem yz:aq ["text","words"] ["text"] (aP qQ):=o9
theorem K4{n:Nat}{C f gw:Addr}{fd iB:FuncData}(F:jJ K "words_of" "words_of" qQ f fd)
  (au:Dp P w K mg base (lB P w) n gw iB ["fits"] (dB K C cj 1) "need") :
  bc P w K mg base (lB P w) (n+1) f fd ["text"] (dB K C (bK) 1):=
 Ei F yz fun cdv A outer s H E hr=>⟨_,
  (zE (zJ (i:=1) yz.nd rfl (Or.inl rfl) (jY (r:=N7) PySem.F.plainAttrs_str PySem.F.slot_str_split PySem.F.type_str_split KQ (pv 0) (zA zP zD)))
  (zE (yF (zI au.G hr rfl au.m au.k au.b .nil (eE (E:=E) (fun _ _ _ h=>h)) (zA (bQ (r:=rO K true) xU zP (pv 1) rfl) zD)))
  (zF (zO (pv 1))))),
  (aQ (ak (rJ KZ (aF 0) (aD aV aK)))
  (aQ (fu (cI (aD (aH n6 aV (aF 1)) aK)))
  (ao (aF 1))))⟩
noncomputable def Ek:FS:=
 (aX (aR 1 (fIf (aN (fM "str" vJ (aB 0) (aA (fC (.str "-")) aJ))) (J7 (aB 0) (jd (fC (.int 1))) J8) (aB 0)))
  (aX (cz (lq (aN (aL (bh false) (aB 1) (fC (.str "")))) (qe (aN (cW (Wq fun l=>l.all id) (aA (eX (nQ false (aB 1)) [] lU (aL (inD false) (aB 0) (fC (.str "0123456789")))) aJ)))))
   HW
   bO)
  (aX (cz (mO (aN (fM "str" vJ (aB 1) (aA (fC (.str "0")) aJ))) (aN (aL (bh true) (aB 0) (fC (.str "0")))))
   HW
   bO)
  (aX (aR 2 (fC (.int 0)))
  (aX (qR (nQ true (aB 1)) (bN 3)
   (aR 2 (aL bM (aL nF (aB 2) (fC (.int 10))) (fM "str" HH (fC (.str "0123456789")) (aA (aB 3) aJ)))))
  (az (fIf (aN (fM "str" vJ (aB 0) (aA (fC (.str "-")) aJ))) (vB j9 (aB 2)) (aB 2))))))))
noncomputable def oZ:List D->Rz D:=eG 4 (Ek)
theorem gf:aq ["text","bare","number","sign"] ["text"] (aP ik):=o9
theorem CQ{n:Nat}{C f:Addr}{fd:FuncData}(F:jJ K "read_number" "read_number" ik f fd)(mX:mg "NoWords" = some (.ref C))(jF:FQ K C)(Cj:mg "all" = none){Fi:Value}(GF:mg "FIGURES" = some Fi)(Gw:RelV (.str "0123456789") Fi) :
  bc P w K mg base (lB P w) (n+1) f fd ["text"] (dB K C (oZ) 1):=
 Ei F gf fun cdv A outer s H E hr=>⟨_,
  (zE (zJ (i:=1) gf.nd rfl (Or.inl rfl) (CN (fY (jY (r:=BJ) PySem.F.plainAttrs_str PySem.F.slot_str_startswith PySem.F.type_str_startswith p7 (pv 0) (zA zP zD))) (jX (r:=Bv K) HF (pv 0) (mG zB) mH) (pv 0)))
  (zE (yB (PW.pt (pw_or (qK hr.units (pv 1) zP) (pw_or1 (my (fY (zS (qI rfl) rfl Cj PyProof.Rows.boot_all (zA (yM (cG:=[]) rfl (show gR (aP ik) ["text","bare","number","sign"] _ _ _ from Qc) (jW (pv 1)) (fun _ _ _ _ _ _=>ir) (fun _ _ _ _ _ _=>(bQ (r:=rO K false) lO (pv 0) (dz (v:=(.str "0123456789")) rfl GF Gw) rfl))) zD)))))))
  (zF (Bw Iw rfl rfl mX jF (zA zP zD)))
  zT)
  (zE (yB (PW.pt (pw_and (fY (jY (r:=BJ) PySem.F.plainAttrs_str PySem.F.slot_str_startswith PySem.F.type_str_startswith p7 (pv 1) (zA zP zD))) (yK (zK (r:=il K true) (iY hr.units) (pv 0) zP (zR _)))))
  (zF (Bw Iw rfl rfl mX jF (zA zP zD)))
  zT)
  (zE (zJ (i:=2) gf.nd rfl (Or.inl rfl) zB)
  (zE (PS.TX (uT PassesOwn.never rfl (jW (pv 1)) (yG (i:=3) gf.nd rfl (Or.inl rfl))
  (zF (zJ (i:=2) gf.nd rfl (Or.inl rfl) (qT (yA (r:=rC K) kh (pv 2) zB) (jY (r:=Q3) PySem.F.plainAttrs_str PySem.F.slot_str_index PySem.F.type_str_index RK (dz (v:=(.str "0123456789")) rfl GF Gw) (zA (pv 3) zD)))))))
  (zF (zO (CN (fY (jY (r:=BJ) PySem.F.plainAttrs_str PySem.F.slot_str_startswith PySem.F.type_str_startswith p7 (pv 0) (zA zP zD))) (rD lL (pv 2)) (pv 2))))))))),
  (aQ (ak (W0 (qi (rJ xf (aF 0) (aD aV aK))) (jg (aF 0) (mQ aG) wQ) (aF 0)))
  (aQ (bY (nT (aY (aH bG (aF 1) aV)) (nU (qi (bu Gk (aD (gY (je (aF 1)) pG (aH n6 (aF 0) (fK fun _=>rfl))) aK)))))
   Dg
   bC)
  (aQ (bY (qj (qi (rJ xf (aF 1) (aD aV aK))) (aY (aH bG (aF 0) aV)))
   Dg
   bC)
  (aQ (ak aG)
  (aQ (yU (je (aF 1)) W2
   (ak (aH bz (aH oh (aF 2) aG) (rJ RM (fK fun _=>rfl) (aD (aF 3) aK)))))
  (ao (W0 (qi (rJ xf (aF 0) (aD aV aK))) (rH lM (aF 2)) (aF 2))))))))⟩
noncomputable def Kp:FS:=
 (aX (gB (aO cj 1 (aA (aL (bh false) (cW bD (aA (aB 1) aJ)) (fC (.int 2))) aJ)))
  (aX (cz (aN (aL (bh false) (aB 0) (fC (.str "order"))))
   (aX (gB (aO cj 1 (aA (aL (inD false) (aL aj (aB 1) (fC (.int 1))) (fC (.tup [.str "inner",.str "outer"]))) aJ)))
   (az (aL aj (aB 1) (fC (.int 1)))))
   bO)
  (aX (aR 2 (aO oZ 1 (aA (aL aj (aB 1) (fC (.int 1))) aJ)))
  (aX (cz (aN (aL (bh false) (aB 0) (fC (.str "letters"))))
   (gB (aO cj 1 (aA (qD zq zq (fC (.int 0)) (aB 2) (fC (.int 12))) aJ)))
   (gB (aO cj 1 (aA (qD zq zq (fC (.int 1)) (aB 2) (fC (.int 20))) aJ))))
  (az (aB 2))))))
noncomputable def eU:List D->Rz D:=eG 3 (Kp)
theorem vM:aq ["kind","words","number"] ["kind","words"] (aP oK):=o9
theorem Ho{n:Nat}{C f gw Eo:Addr}{fd iB Ex:FuncData}{Du:Addr}(F:jJ K "head_told" "head_told" oK f fd)
  (au:Dp P w K mg base (lB P w) n gw iB ["fits"] (dB K C cj 1) "need")
  (lA:Dp P w K mg base (lB P w) n Eo Ex ["text"] (dB K C oZ 1) "read_number") (bR:mg "len" = none) {rT:Value} (Ck:mg "MOST_LETTERS" = some rT) (Dv:RelV (.int 12) rT) {vC:Value} (Hx:mg "MOST_TURNS" = some vC) (JW:RelV (.int 20) vC) {Jp:Value} (V7:mg "ORDERS" = some Jp) (WY:RelV (.ref Du) Jp) (Wa:∀ B,Rp K B (.tup [.str "inner",.str "outer"]) (.ref Du)) :
  bc P w K mg base (lB P w) (n+1) f fd ["kind","words"] (dB K C (eU) 2):=
 Ei F vM fun cdv A outer s H E hr=>⟨_,
  (zE (yF (zI au.G hr rfl au.m au.k au.b .nil (eE (E:=E) (fun _ _ _ h=>h)) (zA (bQ (r:=il K false) (ju hr.units) (rP rfl bR (pv 1)) zB (zR _)) zD)))
  (zE (yB (qK hr.units (pv 0) zP)
  (zE (yF (zI au.G hr rfl au.m au.k au.b .nil (eE (E:=E) (fun _ _ _ h=>h)) (zA (bQ (r:=rO K false) lO (cg (pv 1) zB (fun _ _=>rfl)) (dz (v:=(.ref Du)) rfl V7 WY) rfl) zD)))
  (zF (zO (cg (pv 1) zB (fun _ _=>rfl)))))
  zT)
  (zE (zJ (i:=2) vM.nd rfl (Or.inl rfl) (zI lA.G hr rfl lA.m lA.k lA.b .nil (eE (E:=E) (fun _ _ _ h=>h)) (zA (cg (pv 1) zB (fun _ _=>rfl)) zD)))
  (zE (yB (qK hr.units (pv 0) zP)
  (zF (yF (zI au.G hr rfl au.m au.k au.b .nil (eE (E:=E) (fun _ _ _ h=>h)) (zA (lE oO oO zB (pv 2) (dz (v:=(.int 12)) rfl Ck Dv)) zD))))
  (zF (yF (zI au.G hr rfl au.m au.k au.b .nil (eE (E:=E) (fun _ _ _ h=>h)) (zA (lE oO oO zB (pv 2) (dz (v:=(.int 20)) rfl Hx JW)) zD)))))
  (zF (zO (pv 2))))))),
  (aQ (fu (cI (aD (aH bG (bu cD (aD (aF 1) aK)) aG) aK)))
  (aQ (bY (aY (aH bG (aF 0) aV))
   (aQ (fu (cI (aD (aH n6 (aH aU (aF 1) aG) (fK Wa)) aK)))
   (ao (aH aU (aF 1) aG)))
   bC)
  (aQ (ak (cI (aD (aH aU (aF 1) aG) aK)))
  (aQ (bY (aY (aH bG (aF 0) aV))
   (fu (cI (aD (t6 (di fun _ _ _ _=>rfl) (di fun _ _ _ _=>rfl) aG (aF 2) (fK fun _=>rfl)) aK)))
   (fu (cI (aD (t6 (di fun _ _ _ _=>rfl) (di fun _ _ _ _=>rfl) aG (aF 2) (fK fun _=>rfl)) aK))))
  (ao (aF 2))))))⟩
noncomputable def VN:FS:=
 (aX (cz (aN (aL (bh true) (J7 (aB 0) J8 (jd (fC (.int 1)))) (fH (aA (aB 1) aJ))))
   (az (cV (aA (fC (.str "")) (aA (aB 0) aJ))))
   bO)
  (aX (gB (aO cj 1 (aA (aL pY (cW bD (aA (aB 0) aJ)) (fC (.int 1))) aJ)))
  (az (cV (aA (aL aj (aB 0) (fC (.int 1))) (aA (J7 (aB 0) (jd (fC (.int 2))) J8) aJ))))))
noncomputable def pR:List D->Rz D:=eG 2 (VN)
theorem Qy:aq ["words","mark"] ["words","mark"] (aP vQ):=o9
theorem RC{n:Nat}{C f gw:Addr}{fd iB:FuncData}(F:jJ K "marked" "marked" vQ f fd)
  (au:Dp P w K mg base (lB P w) n gw iB ["fits"] (dB K C cj 1) "need") (bR:mg "len" = none) :
  bc P w K mg base (lB P w) (n+1) f fd ["words","mark"] (dB K C (pR) 2):=
 Ei F Qy fun cdv A outer s H E hr=>⟨_,
  (zE (yB (zK (r:=il K true) (iY hr.units) (jX (r:=Bv K) HF (pv 0) mH (mG zB)) (yH (zA (pv 1) zD)) (zR _))
  (zF (zO (zV (zA zP (zA (pv 0) zD)))))
  zT)
  (zE (yF (zI au.G hr rfl au.m au.k au.b .nil (eE (E:=E) (fun _ _ _ h=>h)) (zA (bQ jm (rP rfl bR (pv 0)) zB (zR _)) zD)))
  (zF (zO (zV (zA (cg (pv 0) zB (fun _ _=>rfl)) (zA (jX (r:=Bv K) HF (pv 0) (mG zB) mH) zD))))))),
  (aQ (bY (aY (aH bG (jg (aF 0) wQ (mQ aG)) (fJ (aD (aF 1) aK))))
   (ao (dD (aD aV (aD (aF 0) aK))))
   bC)
  (aQ (fu (cI (aD (aH (di fun _ _ _ _=>rfl) (bu cD (aD (aF 0) aK)) aG) aK)))
  (ao (dD (aD (aH aU (aF 0) aG) (aD (jg (aF 0) (mQ aG) wQ) aK))))))⟩
noncomputable def nJ:FS:=
 (aX (aR 1 (fM "str" fZ (aB 0) (aA (fC (.str " ")) aJ)))
  (aX (aR 2 (aL lN (cW bD (aA (aB 0) aJ)) (cW bD (aA (aB 1) aJ))))
  (aX (aR 3 (aO bK 1 (aA (aB 1) aJ)))
  (aX (aR 4 (aO pR 2 (aA (J7 (aB 3) (jd (fC (.int 2))) J8) (aA (fC (.str "keeps")) aJ))))
  (aX (aR 5 (aO pR 2 (aA (aL aj (aB 4) (fC (.int 1))) (aA (fC (.str "lamp")) aJ))))
  (aX (gB (aO cj 1 (aA (dO (aL (bh false) (aL cC (aB 2) (fC (.int 2))) (fC (.int 0))) (dO (aL pY (cW bD (aA (aB 3) aJ)) (fC (.int 1))) (aL (bh false) (cW bD (aA (aL aj (aB 5) (fC (.int 1))) aJ)) (fC (.int 0))))) aJ)))
  (az (cV (aA (aL aj (aB 3) (fC (.int 1))) (aA (aL aj (aB 3) (fC (.int 0))) (aA (aL jn (aB 2) (fC (.int 2))) (aA (aL aj (aB 4) (fC (.int 0))) (aA (aL aj (aB 5) (fC (.int 0))) (aA (cV aJ) (aA (cV aJ) aJ)))))))))))))))
noncomputable def fP:List D->Rz D:=eG 6 (nJ)
theorem eO:aq ["row","bare","blanks","words","keeps","lamp"] ["row"] (aP jN):=o9
theorem Ag{n:Nat}{C f uh Vm gw:Addr}{fd uw W3 iB:FuncData}(F:jJ K "room_written" "room_written" jN f fd)
  (cR:Dp P w K mg base (lB P w) n uh uw ["text"] (dB K C bK 1) "words_of")
  (lK:Dp P w K mg base (lB P w) n Vm W3 ["words","mark"] (dB K C pR 2) "marked")
  (au:Dp P w K mg base (lB P w) n gw iB ["fits"] (dB K C cj 1) "need") (bR:mg "len" = none) :
  bc P w K mg base (lB P w) (n+1) f fd ["row"] (dB K C (fP) 1):=
 Ei F eO fun cdv A outer s H E hr=>⟨_,
  (zE (zJ (i:=1) eO.nd rfl (Or.inl rfl) (jY (r:=BK) PySem.F.plainAttrs_str PySem.F.slot_str_lstrip PySem.F.type_str_lstrip GC (pv 0) (zA zP zD)))
  (zE (zJ (i:=2) eO.nd rfl (Or.inl rfl) (yA rn (rP rfl bR (pv 0)) (rP rfl bR (pv 1))))
  (zE (zJ (i:=3) eO.nd rfl (Or.inl rfl) (zI cR.G hr rfl cR.m cR.k cR.b .nil (eE (E:=E) (fun _ _ _ h=>h)) (zA (pv 1) zD)))
  (zE (zJ (i:=4) eO.nd rfl (Or.inl rfl) (zI lK.G hr rfl lK.m lK.k lK.b .nil (eE (E:=E) (fun _ _ _ h=>h)) (zA (jX (r:=Bv K) HF (pv 3) (mG zB) mH) (zA zP zD))))
  (zE (zJ (i:=5) eO.nd rfl (Or.inl rfl) (zI lK.G hr rfl lK.m lK.k lK.b .nil (eE (E:=E) (fun _ _ _ h=>h)) (zA (cg (pv 4) zB (fun _ _=>rfl)) (zA zP zD))))
  (zE (yF (zI au.G hr rfl au.m au.k au.b .nil (eE (E:=E) (fun _ _ _ h=>h)) (zA (jZ (bQ (r:=il K false) (ju hr.units) (yA zX (pv 2) zB) zB (zR _)) (jZ (bQ jm (rP rfl bR (pv 3)) zB (zR _)) (gP (bQ (r:=il K false) (ju hr.units) (rP rfl bR (cg (pv 5) zB (fun _ _=>rfl))) zB (zR _))))) zD)))
  (zF (zO (zV (zA (cg (pv 3) zB (fun _ _=>rfl)) (zA (cg (pv 3) zB (fun _ _=>rfl)) (zA (yA yI (pv 2) zB) (zA (cg (pv 4) zB (fun _ _=>rfl)) (zA (cg (pv 5) zB (fun _ _=>rfl)) (zA (zV zD) (zA (zV zD) zD)))))))))))))))),
  (aQ (ak (rJ GD (aF 0) (aD aV aK)))
  (aQ (ak (aH (di fun _ _ _ _=>rfl) (bu cD (aD (aF 0) aK)) (bu cD (aD (aF 1) aK))))
  (aQ (ak (cI (aD (aF 1) aK)))
  (aQ (ak (cI (aD (jg (aF 3) (mQ aG) wQ) (aD aV aK))))
  (aQ (ak (cI (aD (aH aU (aF 4) aG) (aD aV aK))))
  (aQ (fu (cI (aD (jh (aH bG (aH (d9 (fun _ _ h=>of_decide_eq_true h) fun _ _ _ _=>rfl) (aF 2) aG) aG) (jh (aH (di fun _ _ _ _=>rfl) (bu cD (aD (aF 3) aK)) aG) (aH bG (bu cD (aD (aH aU (aF 5) aG) aK)) aG))) aK)))
  (ao (dD (aD (aH aU (aF 3) aG) (aD (aH aU (aF 3) aG) (aD (aH (d9 (fun _ _ h=>of_decide_eq_true h) fun _ _ _ _=>rfl) (aF 2) aG) (aD (aH aU (aF 4) aG) (aD (aH aU (aF 5) aG) (aD (dD aK) (aD (dD aK) aK)))))))))))))))⟩
noncomputable def pZ:FS:=
 (aX (cz (aN (aL (inD false) (aL aj (fM "str" rF (fM "str" fZ (aB 0) (aA (fC (.str " ")) aJ)) (aA (fC (.str " ")) aJ)) (fC (.int 0))) (fC (.tup [.str "plain",.str "one",.str "all"]))))
   (az (fC (.str "room")))
   bO)
  (az (aL aj (fM "str" rF (aB 0) (aA (fC (.str " ")) aJ)) (fC (.int 0)))))
noncomputable def dF:List D->Rz D:=eG 1 (pZ)
theorem Mv:aq ["row"] ["row"] (aP tK):=o9
theorem Ng{n:Nat}{C f:Addr}{fd:FuncData}{qw:Addr}(F:jJ K "kind_of" "kind_of" tK f fd){vI:Value}(IW:mg "KINDS" = some vI)(Jb:RelV (.ref qw) vI)(Jc:∀ B,Rp K B (.tup [.str "plain",.str "one",.str "all"]) (.ref qw)) :
  bc P w K mg base dw (n+1) f fd ["row"] (dB K C (dF) 1):=
 uY F Mv fun cdv A outer s H E hr=>⟨_,
  (zE (yB (zK (r:=rO K false) lO (cg (jY (r:=Q4) PySem.F.plainAttrs_str PySem.F.slot_str_partition PySem.F.type_str_partition w6 (jY (r:=BK) PySem.F.plainAttrs_str PySem.F.slot_str_lstrip PySem.F.type_str_lstrip GC (pv 0) (zA zP zD)) (zA zP zD)) zB (fun _ _=>rfl)) (dz (v:=(.ref qw)) rfl IW Jb) rfl)
  (zF (zO zP))
  zT)
  (zF (zO (cg (jY (r:=Q4) PySem.F.plainAttrs_str PySem.F.slot_str_partition PySem.F.type_str_partition w6 (pv 0) (zA zP zD)) zB (fun _ _=>rfl))))),
  (aQ (bY (aY (aH n6 (aH aU (rJ QK (rJ GD (aF 0) (aD aV aK)) (aD aV aK)) aG) (fK Jc)))
   (ao aV)
   bC)
  (ao (aH aU (rJ QK (aF 0) (aD aV aK)) aG)))⟩
noncomputable def bf:List D->Rz D
 | [.tup [.str g],_,_]=>if g = "yes" then .ok (.bl false) else .st
 | _=>.st
noncomputable def eZ:List (Str×D):=[("",.tup [.str "order"]),("order",.tup [.str "letters"]),("letters",.tup [.str "turns"]),("turns",.tup [.str "box",.str "event",.str "room"]),("box",.tup [.str "box",.str "event",.str "room"]),("event",.tup [.str "event",.str "room"]),
 ("room",.tup [.str "in",.str "out",.str "room",.str "door"]),("in",.tup [.str "in",.str "out",.str "room",.str "door"]),("out",.tup [.str "out",.str "room",.str "door"]),("door",.tup [.str "when",.str "do",.str "door"]),("when",.tup [.str "do",.str "door"]),("do",.tup [.str "do",.str "door"])]
noncomputable def gq:FS:=
 (aX (gB (aO cj 1 (aA (aL (inD false) (aB 0) (aB 1)) aJ)))
  (az (fM "list" VH (aB 1) (aA (aB 0) aJ))))
noncomputable def cP:List D->Rz D:=eG 2 (gq)
theorem Ab:aq ["name","names"] ["name","names"] (aP jP):=o9
theorem Ai{n:Nat}{C f gw:Addr}{fd iB:FuncData}(F:jJ K "number_named" "number_named" jP f fd)
  (au:Dp P w K mg base (lB P w) n gw iB ["fits"] (dB K C cj 1) "need") :
  bc P w K mg base (lB P w) (n+1) f fd ["name","names"] (dB K C (cP) 2):=
 Ei F Ab fun cdv A outer s H E hr=>⟨_,
  (zE (yF (zI au.G hr rfl au.m au.k au.b .nil (eE (E:=E) (fun _ _ _ h=>h)) (zA (bQ (r:=rO K false) lO (pv 0) (pv 1) rfl) zD)))
  (zF (zO (jY (r:=Ue) Jk PySem.F.slot_list_index PySem.F.type_list_index RL (pv 1) (zA (pv 0) zD))))),
  (aQ (fu (cI (aD (aH n6 (aF 0) (aF 1)) aK)))
  (ao (rJ qB9 (aF 1) (aD (aF 0) aK))))⟩
noncomputable def Im:FS:=
 (aX (gB (aO cj 1 (aA (dO (aL (bh false) (cW bD (aA (aB 0) aJ)) (fC (.int 2))) (aL Xr (cW bD (aA (aB 1) aJ)) (fC (.int 8)))) aJ)))
  (aX (gB (aO cj 1 (aA (eV (aO (c7 d7) 2 (aA (aL aj (aB 0) (fC (.int 1))) (aA (aB 1) aJ)))) aJ)))
  (az (aL aj (aB 0) (fC (.int 1))))))
noncomputable def iR:List D->Rz D:=eG 2 (Im)
theorem Ed:aq ["words","ahead"] ["words","ahead"] (aP mD):=o9
theorem Eh{n:Nat}{C f gw kI:Addr}{fd iB kO:FuncData}(F:jJ K "event_told" "event_told" mD f fd)
  (au:Dp P w K mg base (lB P w) n gw iB ["fits"] (dB K C cj 1) "need")
  (kW:Dp P w K mg base dw n kI kO ["name","ahead"] (dB K C d7 2) "name_has_fault") (bR:mg "len" = none) {uI:Value} (Ej:mg "MOST_EVENTS" = some uI) (FP:RelV (.int 8) uI) :
  bc P w K mg base (lB P w) (n+1) f fd ["words","ahead"] (dB K C (iR) 2):=
 Ei F Ed fun cdv A outer s H E hr=>⟨_,
  (zE (yF (zI au.G hr rfl au.m au.k au.b .nil (eE (E:=E) (fun _ _ _ h=>h)) (zA (jZ (bQ (r:=il K false) (ju hr.units) (rP rfl bR (pv 0)) zB (zR _)) (gP (bQ K3 (rP rfl bR (pv 1)) (dz (v:=(.int 8)) rfl Ej FP) (zR _)))) zD)))
  (zE (yF (zI au.G hr rfl au.m au.k au.b .nil (eE (E:=E) (fun _ _ _ h=>h)) (zA (iW (pC kW hr (zA (cg (pv 0) zB (fun _ _=>rfl)) (zA (pv 1) zD)))) zD)))
  (zF (zO (cg (pv 0) zB (fun _ _=>rfl)))))),
  (aQ (fu (cI (aD (jh (aH bG (bu cD (aD (aF 0) aK)) aG) (aH (di fun _ _ _ _=>rfl) (bu cD (aD (aF 1) aK)) (fK fun _=>rfl))) aK)))
  (aQ (fu (cI (aD (ig (aW rfl (aD (aH aU (aF 0) aG) (aD (aF 1) aK)))) aK)))
  (ao (aH aU (aF 0) aG))))⟩
noncomputable def Rj(aC:Addr):FS:=
 (az (dO (aL pY (cW bD (aA (dR aC "rooms" (aB 0)) aJ)) (fC (.int 0))) (eV (aO (c7 cU) 2 (aA (aL aj (dR aC "rooms" (aB 0)) (vB j9 (fC (.int 1)))) (aA (fH aJ) aJ))))))
noncomputable def gM(aC:Addr):List D->Rz D:=eG 1 (Rj aC)
theorem Mu:aq ["self"] ["self"] (aP oJ):=o9
theorem Nb{n:Nat}{C f lR:Addr}{fd lW:FuncData}{aC:Addr}(F:jJ K "may_end" "Draft.may_end" oJ f fd)
  (lY:Dp P w K mg base dw n lR lW ["room","behind"] (dB K C cU 2) "end_has_fault") (bH:Eb K aC) (cJ:cY K aC "rooms") (bR:mg "len" = none) :
  bc P w K mg base dw (n+1) f fd ["self"] (dB K C (gM aC) 1):=
 uY F Mu fun cdv A outer s H E hr=>⟨_,
  (zF (zO (jZ (bQ jm (rP rfl bR (eN (pv 0) rfl)) zB (zR _)) (gP (iW (pC lY hr (zA (cg (eN (pv 0) rfl) (rD lL zB) (fun _ _=>rfl)) (zA (yH zD) zD)))))))),
  (ao (jh (aH (di fun _ _ _ _=>rfl) (bu cD (aD (gQ bH cJ (aF 0)) aK)) aG) (ig (aW rfl (aD (aH aU (gQ bH cJ (aF 0)) (rH lM aG)) (aD (fJ aK) aK))))))⟩
noncomputable def sJ(aC:Addr):FS:=
 (aX (aR 2 (dR aC "rooms" (aB 1)))
  (aX (aR 3 (aO fP 1 (aA (aB 0) aJ)))
  (aX (gB (aO cj 1 (aA (dO (aL Xr (cW bD (aA (aB 2) aJ)) (fC (.int 40))) (eV (aO (c7 fQ) 4 (aA (aB 3) (aA (aB 2) (aA (dR aC "boxes" (aB 1)) (aA (dR aC "events" (aB 1)) aJ))))))) aJ)))
  (aX (gB (aO cj 1 (aA (wM (aL (bh false) (cW bD (aA (aB 2) aJ)) (fC (.int 0))) (eV (aO (c7 cU) 2 (aA (aL aj (aB 2) (vB j9 (fC (.int 1)))) (aA (fH (aA (aB 3) aJ)) aJ))))) aJ)))
  (az (aB 3))))))
noncomputable def jE(aC:Addr):List D->Rz D:=eG 4 (sJ aC)
theorem qO:aq ["row","draft","ahead","room"] ["row","draft"] (aP oH):=o9
theorem Hi{n:Nat}{C f DR yO gw lR:Addr}{fd Dk yW iB lW:FuncData}{aC:Addr}(F:jJ K "room_told" "room_told" oH f fd)
  (ji:Dp P w K mg base (lB P w) n DR Dk ["row"] (dB K C fP 1) "room_written")
  (yo:Dp P w K mg base dw n yO yW ["room","ahead","boxes","events"] (dB K C fQ 4) "room_has_fault")
  (au:Dp P w K mg base (lB P w) n gw iB ["fits"] (dB K C cj 1) "need")
  (lY:Dp P w K mg base dw n lR lW ["room","behind"] (dB K C cU 2) "end_has_fault") (bH:Eb K aC) (fG:cY K aC "boxes") (cQ:cY K aC "events") (cJ:cY K aC "rooms") (bR:mg "len" = none) {vD:Value} (Hy:mg "MOST_ROOMS" = some vD) (JX:RelV (.int 40) vD) :
  bc P w K mg base (lB P w) (n+1) f fd ["row","draft"] (dB K C (jE aC) 2):=
 Ei F qO fun cdv A outer s H E hr=>⟨_,
  (zE (zJ (i:=2) qO.nd rfl (Or.inl rfl) (eN (pv 1) rfl))
  (zE (zJ (i:=3) qO.nd rfl (Or.inl rfl) (zI ji.G hr rfl ji.m ji.k ji.b .nil (eE (E:=E) (fun _ _ _ h=>h)) (zA (pv 0) zD)))
  (zE (yF (zI au.G hr rfl au.m au.k au.b .nil (eE (E:=E) (fun _ _ _ h=>h)) (zA (jZ (bQ K3 (rP rfl bR (pv 2)) (dz (v:=(.int 40)) rfl Hy JX) (zR _)) (gP (iW (pC yo hr (zA (pv 3) (zA (pv 2) (zA (eN (pv 1) rfl) (zA (eN (pv 1) rfl) zD)))))))) zD)))
  (zE (yF (zI au.G hr rfl au.m au.k au.b .nil (eE (E:=E) (fun _ _ _ h=>h)) (zA (CG (bQ (r:=il K false) (ju hr.units) (rP rfl bR (pv 2)) zB (zR _)) (gP (iW (pC lY hr (zA (cg (pv 2) (rD lL zB) (fun _ _=>rfl)) (zA (yH (zA (pv 3) zD)) zD)))))) zD)))
  (zF (zO (pv 3))))))),
  (aQ (ak (gQ bH cJ (aF 1)))
  (aQ (ak (cI (aD (aF 0) aK)))
  (aQ (fu (cI (aD (jh (aH (di fun _ _ _ _=>rfl) (bu cD (aD (aF 2) aK)) (fK fun _=>rfl)) (ig (aW rfl (aD (aF 3) (aD (aF 2) (aD (gQ bH fG (aF 1)) (aD (gQ bH cQ (aF 1)) aK))))))) aK)))
  (aQ (fu (cI (aD (Dj (aH bG (bu cD (aD (aF 2) aK)) aG) (ig (aW rfl (aD (aH aU (aF 2) (rH lM aG)) (aD (fJ (aD (aF 3) aK)) aK))))) aK)))
  (ao (aF 3))))))⟩
noncomputable def jz:FS:=
 (aX (cz (lq (qe (aN (aO (c7 bI) 2 (aA (aL aj (aB 0) (fC (.int 0))) (aA (aB 3) aJ))))) (qe (aN (aO (c7 bI) 2 (aA (aL aj (aB 0) (fC (.int 1))) (aA (aB 2) aJ))))))
   (az (fC (.bl true)))
   bO)
  (aX (cz (lq (aN (aO (c7 bf) 3 (aA (aL aj (aB 0) (fC (.int 2))) (aA (aB 1) (aA (aB 3) aJ))))) (aN (aO (c7 cu) 3 (aA (aL aj (aB 0) (fC (.int 3))) (aA (aB 1) (aA (aB 2) aJ))))))
   (az (fC (.bl true)))
   bO)
  (az (aO (c7 iQ) 3 (aA (aL aj (aB 0) (fC (.int 4))) (aA (aL aj (aB 0) (fC (.int 5))) (aA (aB 3) aJ)))))))
noncomputable def fV:List D->Rz D:=eG 4 (jz)
theorem vO:aq ["door","boxes","events","rooms"] ["door","boxes","events","rooms"] (aP iK):=o9
theorem vp{n:Nat}{C f dq wK jA yP:Addr}{fd du wU jB yX:FuncData}(F:jJ K "door_has_fault" "door_has_fault" iK f fd)
  (cT:Dp P w K mg base dw n dq du ["number","things"] (dB K C bI 2) "is_number_of")
  (wZ:Dp P w K mg base dw n wK wU ["guard","boxes","rooms"] (dB K C bf 3) "guard_has_fault")
  (g8:Dp P w K mg base dw n jA jB ["deeds","boxes","events"] (dB K C cu 3) "deeds_have_fault")
  (yp:Dp P w K mg base dw n yP yX ["way","goal","rooms"] (dB K C iQ 3) "goal_has_fault") :
  bc P w K mg base dw (n+1) f fd ["door","boxes","events","rooms"] (dB K C (fV) 4):=
 uY F vO fun cdv A outer s H E hr=>⟨_,
  (zE (yB (PW.pt (pw_or (my (fY (pC cT hr (zA (cg (pv 0) zB (fun _ _=>rfl)) (zA (pv 3) zD))))) (pw_or1 (my (fY (pC cT hr (zA (cg (pv 0) zB (fun _ _=>rfl)) (zA (pv 2) zD))))))))
  (zF (zO rE))
  zT)
  (zE (yB (PW.pt (pw_or (fY (pC wZ hr (zA (cg (pv 0) zB (fun _ _=>rfl)) (zA (pv 1) (zA (pv 3) zD))))) (pw_or1 (fY (pC g8 hr (zA (cg (pv 0) zB (fun _ _=>rfl)) (zA (pv 1) (zA (pv 2) zD))))))))
  (zF (zO rE))
  zT)
  (zF (zO (pC yp hr (zA (cg (pv 0) zB (fun _ _=>rfl)) (zA (cg (pv 0) zB (fun _ _=>rfl)) (zA (pv 3) zD)))))))),
  (aQ (bY (nT (nU (qi (aW rfl (aD (aH aU (aF 0) aG) (aD (aF 3) aK))))) (nU (qi (aW rfl (aD (aH aU (aF 0) aG) (aD (aF 2) aK))))))
   (ao rK)
   bC)
  (aQ (bY (nT (qi (aW rfl (aD (aH aU (aF 0) aG) (aD (aF 1) (aD (aF 3) aK))))) (qi (aW rfl (aD (aH aU (aF 0) aG) (aD (aF 1) (aD (aF 2) aK))))))
   (ao rK)
   bC)
  (ao (aW rfl (aD (aH aU (aF 0) aG) (aD (aH aU (aF 0) aG) (aD (aF 3) aK)))))))⟩
noncomputable def sW(aC:Addr):FS:=
 (aX (gB (aO cj 1 (aA (dO (aL (inD false) (cW bD (aA (aB 0) aJ)) (cV (aA (fC (.int 4)) (aA (fC (.int 5)) aJ)))) (dO (aL Xr (cW bD (aA (dR aC "doors" (aB 1)) aJ)) (fC (.int 60))) (Es aC "may_end" (c7 (gM aC)) 1 (aB 1) aJ))) aJ)))
  (aX (aR 2 (aO (c7 dI) 1 (aA (dR aC "rooms" (aB 1)) aJ)))
  (aX (aR 3 (fIf (aN (aL (bh false) (cW bD (aA (aB 0) aJ)) (fC (.int 5)))) (aO cP 2 (aA (aL aj (aB 0) (fC (.int 4))) (aA (aB 2) aJ))) (fC .non)))
  (aX (aR 4 (cV (aA (aO cP 2 (aA (aL aj (aB 0) (fC (.int 1))) (aA (aB 2) aJ))) (aA (aO cP 2 (aA (aL aj (aB 0) (fC (.int 2))) (aA (dR aC "events" (aB 1)) aJ))) (aA (cV (aA (fC (.str "yes")) aJ)) (aA (cV aJ) (aA (aL aj (aB 0) (fC (.int 3))) (aA (aB 3) aJ))))))))
  (aX (gB (aO cj 1 (aA (eV (aO (c7 fV) 4 (aA (aB 4) (aA (dR aC "boxes" (aB 1)) (aA (dR aC "events" (aB 1)) (aA (dR aC "rooms" (aB 1)) aJ)))))) aJ)))
  (az (aB 4)))))))
noncomputable def jG(aC:Addr):List D->Rz D:=eG 5 (sW aC)
theorem mC:aq ["words","draft","names","goal","door"] ["words","draft"] (aP oM):=o9
theorem Hq{n:Nat}{C f pq gw um DW yQ:Addr}{fd qG iB ux Dl yZ:FuncData}{aC:Addr}(F:jJ K "door_told" "door_told" oM f fd)
  (ym:bc P w K mg base dw n pq qG ["self"] (dB K C (gM aC) 1)) (yh:Binds K qG ["self"] []) (uc:Meth K aC "may_end" pq)
  (au:Dp P w K mg base (lB P w) n gw iB ["fits"] (dB K C cj 1) "need")
  (vA:Dp P w K mg base dw n um ux ["things"] (dB K C dI 1) "names_of")
  (cH:Dp P w K mg base (lB P w) n DW Dl ["name","names"] (dB K C cP 2) "number_named")
  (yq:Dp P w K mg base dw n yQ yZ ["door","boxes","events","rooms"] (dB K C fV 4) "door_has_fault") (bH:Eb K aC) (fG:cY K aC "boxes") (fB:cY K aC "doors") (cQ:cY K aC "events") (cJ:cY K aC "rooms") (bR:mg "len" = none) {vG:Value} (IK:mg "MOST_DOORS" = some vG) (JZ:RelV (.int 60) vG) :
  bc P w K mg base (lB P w) (n+1) f fd ["words","draft"] (dB K C (jG aC) 2):=
 Ei F mC fun cdv A outer s H E hr=>⟨_,
  (zE (yF (zI au.G hr rfl au.m au.k au.b .nil (eE (E:=E) (fun _ _ _ h=>h)) (zA (jZ (bQ (r:=rO K false) lO (rP rfl bR (pv 0)) (zV (zA zB (zA zB zD))) rfl) (jZ (bQ K3 (rP rfl bR (eN (pv 1) rfl)) (dz (v:=(.int 60)) rfl IK JZ) (zR _)) (gP (CK (pv 1) bH uc ym hr yh .nil yC)))) zD)))
  (zE (zJ (i:=2) mC.nd rfl (Or.inl rfl) (pC vA hr (zA (eN (pv 1) rfl) zD)))
  (zE (zJ (i:=3) mC.nd rfl (Or.inl rfl) (CN (qK hr.units (rP rfl bR (pv 0)) zB) (zI cH.G hr rfl cH.m cH.k cH.b .nil (eE (E:=E) (fun _ _ _ h=>h)) (zA (cg (pv 0) zB (fun _ _=>rfl)) (zA (pv 2) zD))) CJ))
  (zE (zJ (i:=4) mC.nd rfl (Or.inl rfl) (zV (zA (zI cH.G hr rfl cH.m cH.k cH.b .nil (eE (E:=E) (fun _ _ _ h=>h)) (zA (cg (pv 0) zB (fun _ _=>rfl)) (zA (pv 2) zD))) (zA (zI cH.G hr rfl cH.m cH.k cH.b .nil (eE (E:=E) (fun _ _ _ h=>h)) (zA (cg (pv 0) zB (fun _ _=>rfl)) (zA (eN (pv 1) rfl) zD))) (zA (zV (zA zP zD)) (zA (zV zD) (zA (cg (pv 0) zB (fun _ _=>rfl)) (zA (pv 3) zD))))))))
  (zE (yF (zI au.G hr rfl au.m au.k au.b .nil (eE (E:=E) (fun _ _ _ h=>h)) (zA (iW (pC yq hr (zA (pv 4) (zA (eN (pv 1) rfl) (zA (eN (pv 1) rfl) (zA (eN (pv 1) rfl) zD)))))) zD)))
  (zF (zO (pv 4)))))))),
  (aQ (fu (cI (aD (jh (aH n6 (bu cD (aD (aF 0) aK)) (dD (aD aG (aD aG aK)))) (jh (aH (di fun _ _ _ _=>rfl) (bu cD (aD (gQ bH fB (aF 1)) aK)) (fK fun _=>rfl)) (JF rfl (aF 1) aK))) aK)))
  (aQ (ak (aW rfl (aD (gQ bH cJ (aF 1)) aK)))
  (aQ (ak (W0 (aY (aH bG (bu cD (aD (aF 0) aK)) aG)) (cI (aD (aH aU (aF 0) aG) (aD (aF 2) aK))) JD))
  (aQ (ak (dD (aD (cI (aD (aH aU (aF 0) aG) (aD (aF 2) aK))) (aD (cI (aD (aH aU (aF 0) aG) (aD (gQ bH cQ (aF 1)) aK))) (aD (dD (aD aV aK)) (aD (dD aK) (aD (aH aU (aF 0) aG) (aD (aF 3) aK))))))))
  (aQ (fu (cI (aD (ig (aW rfl (aD (aF 4) (aD (gQ bH fG (aF 1)) (aD (gQ bH cQ (aF 1)) (aD (gQ bH cJ (aF 1)) aK)))))) aK)))
  (ao (aF 4)))))))⟩
noncomputable def Il(aC:Addr):FS:=
 (aX (aR 1 (cV (aA (cW rW (aA (dR aC "boxes" (aB 0)) aJ)) (aA (cW rW (aA (dR aC "events" (aB 0)) aJ)) (aA (cW rW (aA (dR aC "rooms" (aB 0)) aJ)) (aA (cW rW (aA (dR aC "doors" (aB 0)) aJ)) aJ))))))
  (az (aL bM (cW rW (aA (dR aC "heads" (aB 0)) aJ)) (aB 1))))
noncomputable def oG(aC:Addr):List D->Rz D:=eG 2 (Il aC)
theorem Jt:aq ["self","parts"] ["self"] (aP tH):=o9
theorem Uv{n:Nat}{C f:Addr}{fd:FuncData}{aC:Addr}(F:jJ K "whole" "Draft.whole" tH f fd)(bH:Eb K aC)(fG:cY K aC "boxes")(fB:cY K aC "doors")(cQ:cY K aC "events")(iu:cY K aC "heads")(cJ:cY K aC "rooms")(oR:mg "tuple" = none) :
  bc P w K mg base dw (n+1) f fd ["self"] (dB K C (oG aC) 1):=
 uY F Jt fun cdv A outer s H E hr=>⟨_,
  (zE (zJ (i:=1) Jt.nd rfl (Or.inl rfl) (zV (zA (zY (r:=xP K) zW rfl oR MF (zA (eN (pv 0) rfl) zD)) (zA (zY (r:=xP K) zW rfl oR MF (zA (eN (pv 0) rfl) zD)) (zA (zY (r:=xP K) zW rfl oR MF (zA (eN (pv 0) rfl) zD)) (zA (zY (r:=xP K) zW rfl oR MF (zA (eN (pv 0) rfl) zD)) zD))))))
  (zF (zO (qT (zY (r:=xP K) zW rfl oR MF (zA (eN (pv 0) rfl) zD)) (pv 1))))),
  (aQ (ak (dD (aD (bu ye (aD (gQ bH fG (aF 0)) aK)) (aD (bu ye (aD (gQ bH cQ (aF 0)) aK)) (aD (bu ye (aD (gQ bH cJ (aF 0)) aK)) (aD (bu ye (aD (gQ bH fB (aF 0)) aK)) aK))))))
  (ao (aH bz (bu ye (aD (gQ bH iu (aF 0)) aK)) (aF 1))))⟩
noncomputable def DN(aC:Addr):FS:=
 (aX (rB aC 0 "last" (fC (.str "")))
  (aX (rB aC 0 "heads" (fH aJ))
  (aX (rB aC 0 "boxes" (fH aJ))
  (aX (rB aC 0 "events" (fH aJ))
  (aX (rB aC 0 "rooms" (fH aJ))
  (rB aC 0 "doors" (fH aJ)))))))
noncomputable def pX(aC:Addr):Ms->List D->Rz (Ms×D):=runM 1 aC (DN aC)
theorem Qz:aq ["self"] ["self"] (aP Pq):=o9
theorem RD{n:Nat}{C f:Addr}{fd:FuncData}{aC:Addr}(F:jJ K "__init__" "Draft.__init__" Pq f fd)(bH:Eb K aC)(fG:cY K aC "boxes")(fB:cY K aC "doors")(cQ:cY K aC "events")(iu:cY K aC "heads")(mK:cY K aC "last")(cJ:cY K aC "rooms") :
  bc P w K mg base dw (n+1) f fd ["self"] (X6 K C aC (pX aC) 1):=
 okM F Qz fun cdv A outer s H E hr=>⟨_,
  (zE (uU (pv 0) zP rfl)
  (zE (uU (pv 0) (yH zD) rfl)
  (zE (uU (pv 0) (yH zD) rfl)
  (zE (uU (pv 0) (yH zD) rfl)
  (zE (uU (pv 0) (yH zD) rfl)
  (zF (uU (pv 0) (yH zD) rfl))))))),
  fun H0 sf=>(aQ (ur bH mK aV)
  (aQ (ur bH iu (fJ aK))
  (aQ (ur bH fG (fJ aK))
  (aQ (ur bH cQ (fJ aK))
  (aQ (ur bH cJ (fJ aK))
  (ur bH fB (fJ aK)))))))⟩
noncomputable def Kq(aC:Addr):FS:=
 (aX (aR 2 (aO (c7 dF) 1 (aA (aB 1) aJ)))
  (aX (gB (aO cj 1 (aA (aL (inD false) (aB 2) (Zn eZ (dR aC "last" (aB 0)))) aJ)))
  (aX (cz (aN (aL (bh false) (aB 2) (fC (.str "room"))))
   (jl aC 0 "rooms" (aO (jE aC) 2 (aA (aB 1) (aA (aB 0) aJ))))
   (cz (aN (aL (bh false) (aB 2) (fC (.str "door"))))
   (jl aC 0 "doors" (aO (jG aC) 2 (aA (aO bK 1 (aA (aB 1) aJ)) (aA (aB 0) aJ))))
   (cz (aN (aL (inD false) (aB 2) (cV (aA (fC (.str "when")) (aA (fC (.str "in")) (aA (fC (.str "out")) (aA (fC (.str "do")) aJ)))))))
    xN
    (cz (aN (aL (bh false) (aB 2) (fC (.str "box"))))
    xN
    (cz (aN (aL (bh false) (aB 2) (fC (.str "event"))))
     (jl aC 0 "events" (aO iR 2 (aA (aO bK 1 (aA (aB 1) aJ)) (aA (dR aC "events" (aB 0)) aJ))))
     (jl aC 0 "heads" (aO eU 2 (aA (aB 2) (aA (aO bK 1 (aA (aB 1) aJ)) aJ)))))))))
  (rB aC 0 "last" (aB 2)))))
noncomputable def gZ(aC:Addr):Ms->List D->Rz (Ms×D):=runM 3 aC (Kq aC)
theorem UG:aq ["self","row","kind"] ["self","row"] (aP XM):=o9
theorem qB1{n:Nat}{C f S5 gw Kw uh LR J0 LQ:Addr}{fd Sd iB Lg uw Lp JG Ln:FuncData}{aC:Addr}(F:jJ K "add" "Draft.add" XM f fd)
  (TF:Dp P w K mg base dw n S5 Sd ["row"] (dB K C dF 1) "kind_of")
  (au:Dp P w K mg base (lB P w) n gw iB ["fits"] (dB K C cj 1) "need")
  (oV:Dp P w K mg base (lB P w) n Kw Lg ["row","draft"] (dB K C (jE aC) 2) "room_told")
  (cR:Dp P w K mg base (lB P w) n uh uw ["text"] (dB K C bK 1) "words_of")
  (oX:Dp P w K mg base (lB P w) n LR Lp ["words","draft"] (dB K C (jG aC) 2) "door_told")
  (mU:Dp P w K mg base (lB P w) n J0 JG ["words","ahead"] (dB K C iR 2) "event_told")
  (oW:Dp P w K mg base (lB P w) n LQ Ln ["kind","words"] (dB K C eU 2) "head_told") (bH:Eb K aC) (fB:cY K aC "doors") (cQ:cY K aC "events") (iu:cY K aC "heads") (mK:cY K aC "last") (cJ:cY K aC "rooms") {M3:Addr} {Jo:List (Str×V)} (V8:mg "BEHIND" = some (.ref M3)) (Wk:KD P w K M3 Jo) (Wj:∀ B,Qk K B eZ Jo) :
  bc P w K mg base (lB P w) (n+1) f fd ["self","row"] (X6 K C aC (gZ aC) 2):=
 qFK F UG fun cdv A outer s H E hr=>⟨_,
  (zE (zJ (i:=2) UG.nd rfl (Or.inl rfl) (pC TF hr (zA (pv 1) zD)))
  (zE (yF (zI au.G hr rfl au.m au.k au.b .nil (eE (E:=E) (fun _ _ _ h=>h)) (zA (bQ (r:=rO K false) lO (pv 2) (qCV Wk rfl V8 (eN (pv 0) rfl) (fun _ _=>rfl)) rfl) zD)))
  (zE (yB (qK hr.units (pv 2) zP)
  (zF (yF (jY (r:=kZ) Jk MK MJ yE (eN (pv 0) rfl) (zA (zI oV.G hr rfl oV.m oV.k oV.b .nil (eE (E:=E) (fun _ _ _ h=>h)) (zA (pv 1) (zA (pv 0) zD))) zD))))
  (zF (yB (qK hr.units (pv 2) zP)
  (zF (yF (jY (r:=kZ) Jk MK MJ yE (eN (pv 0) rfl) (zA (zI oX.G hr rfl oX.m oX.k oX.b .nil (eE (E:=E) (fun _ _ _ h=>h)) (zA (zI cR.G hr rfl cR.m cR.k cR.b .nil (eE (E:=E) (fun _ _ _ h=>h)) (zA (pv 1) zD)) (zA (pv 0) zD))) zD))))
  (zF (yB (zK (r:=rO K false) lO (pv 2) (zV (zA zP (zA zP (zA zP (zA zP zD))))) rfl)
  (zF Bx)
  (zF (yB (qK hr.units (pv 2) zP)
  (zF Bx)
  (zF (yB (qK hr.units (pv 2) zP)
  (zF (yF (jY (r:=kZ) Jk MK MJ yE (eN (pv 0) rfl) (zA (zI mU.G hr rfl mU.m mU.k mU.b .nil (eE (E:=E) (fun _ _ _ h=>h)) (zA (zI cR.G hr rfl cR.m cR.k cR.b .nil (eE (E:=E) (fun _ _ _ h=>h)) (zA (pv 1) zD)) (zA (eN (pv 0) rfl) zD))) zD))))
  (zF (yF (jY (r:=kZ) Jk MK MJ yE (eN (pv 0) rfl) (zA (zI oW.G hr rfl oW.m oW.k oW.b .nil (eE (E:=E) (fun _ _ _ h=>h)) (zA (pv 2) (zA (zI cR.G hr rfl cR.m cR.k cR.b .nil (eE (E:=E) (fun _ _ _ h=>h)) (zA (pv 1) zD)) zD))) zD)))))))))))))
  (zF (uU (pv 0) (pv 2) rfl))))),
  fun H0 sf=>(aQ (ak (aW rfl (aD (aF 1) aK)))
  (aQ (fu (cI (aD (aH n6 (aF 2) (qET Wj (gQ bH mK (aF 0)))) aK)))
  (aQ (bY (aY (aH bG (aF 2) aV))
   (BW bH cJ (cI (aD (aF 1) (aD (aF 0) aK))))
   (bY (aY (aH bG (aF 2) aV))
   (BW bH fB (cI (aD (cI (aD (aF 1) aK)) (aD (aF 0) aK))))
   (bY (aY (aH n6 (aF 2) (dD (aD aV (aD aV (aD aV (aD aV aK)))))))
    Dh
    (bY (aY (aH bG (aF 2) aV))
    Dh
    (bY (aY (aH bG (aF 2) aV))
     (BW bH cQ (cI (aD (cI (aD (aF 1) aK)) (aD (gQ bH cQ (aF 0)) aK))))
     (BW bH iu (cI (aD (aF 2) (aD (cI (aD (aF 1) aK)) aK)))))))))
  (ur bH mK (aF 2)))))⟩
end
end zz
namespace L2
open PySem PySem.Spec PyProof.Rows PySem.W
section
variable{prog:Program}{w:World}{A:Around}{E:Value->Shared->Prop}{env:Env}{C fI ea:Addr}
theorem Gx{s:Shared}{v:Value}{oa:Obj}{ws:Array Value}{Q:Value->Shared->Prop}(ha:s.heap.get? ea=some oa)(hd:oa.data = .fields ws)(h2:ws[2]? = some .none)(hq:Q .none s) :
  wpAny (model prog w) A (runValue (.builtin "proto.unchain" ⟨[v,.ref ea,.ref ea,.bool false],[]⟩)) Q E s:=by
 refine wpAny_runValue (codeAny_builtin (b:=Builtin.«proto.unchain») (entryFor_of_tree (by kernel_rfl)) ?_);unfold Builtin.«proto.unchain»;refine wpAny_bind (wpAny_field ha hd h2 ?_);rw[if_pos (by decide)];exact wpAny_pure hq
theorem DX{M:Model}{h:Heap}{g:Array GenState}{d:Drawn}{t:Nat}{os:OsState}{e C:Addr}{nm q:Str}{N:Addr}{bs bm:List Value}{hdct:Bool}{sn:List Str}{sub:List Value}{ab:Bool}{col:Option Bool}{dd d1:Option Addr}{k0 k1 k2 k3 k5:Option Value}{newId msg:String}{vs:Array Value}{sl:Array (Option Value)}{Q:Value->Shared->Prop}
  (hC:h.get? C=some (excClassObj nm q C N bs bm hdct sn sub ab col dd k0 k1 k2 k3 k5 newId)) (hcB:(Value.ref C::bm).contains (.type "BaseException")=true) (he:h.get? e=some { cls:=.ref C,dict:=d1,data:=.fields vs,slots:=sl }) (hq:Q (.ref e) ⟨h,g,d,t,os⟩) :
  wpAny M A (excFromValue (.ref e) msg) Q E ⟨h,g,d,t,os⟩:=by
 unfold excFromValue
 repeat (first | with_reducible refine wpAny_loadPart_at he ?_ | with_reducible refine wpAny_loadPart_at hC ?_ | (with_reducible refine wpAny_isSubtype_exc hC ?_;rw[hcB]) | wp_step)
 exact hq
theorem N6{s:Shared}{x c:Sem Value}{Q:Flow->Shared->Prop}{K:Frag}(hh:A.handled=some (.ref ea))
  (h:wpAny (model prog w) A x (fun v s₁=>wpAny (model prog w) A c (fun cv s₂ => ∃(e C1:Addr)(oe:Obj)(vs:Array Value)(oa:Obj)(ws:Array Value),v = .ref e/\cv = .ref ea/\e≠ea/\Dz s₂.heap C fI/\K.In s₂.heap/\FQ K C1 ∧
   s₂.heap.get? e=some oe/\oe.cls = .ref C/\oe.data = .fields vs/\4<vs.size/\vs[1]? = some .none/\s₂.heap.get? ea=some oa/\oa.cls = .ref C1/\oa.data = .fields ws/\ws[2]? = some .none ∧
   ∀ h',(∀ b,b≠e->h'.get? b=s₂.heap.get? b)->(∃ vs',h'.get? e=some { oe with data:=.fields vs' }/\vs'[0]? = vs[0]? /\ vs'[1]? = some .none)->E (.ref e) { s₂ with heap:=h' }) E s₁) E s) :
  wpAny (model prog w) A (raiseStmt env (some x) (some c)) Q E s:=by
 unfold raiseStmt;refine wpAny_bind (wpAny_mono h (fun v s₁ h₁=>?_) fun _ _ x=>x);refine wpAny_bind (wpAny_holding (wpAny_mono h₁ (fun cv s₂ h₂=>wpAny_bind (wpAny_pure ?_)) fun _ _ x=>x));obtain⟨e,C1,oe,vs,oa,ws,rfl,rfl,hne,⟨bm,N,nm,qn,bs,sn,sub,ab,col,dd,k0,k1,k2,k3,k5,mN,oI,hC,hn,hi,T,hfI,hfc⟩,hK,hX,he,hc,hd,hsz,h1,ha,hac,had,ha2,hE⟩:=h₂;obtain⟨bm1,N1,nm1,qn1,bs1,hdct1,sn1,sub1,ab1,col1,dd1,j0,j1,j2,j3,j5,mN1,oC1,oN1,oi1,T1⟩:=hX.obj hK
 have hcB:(Value.ref C::bm).contains (.type "BaseException")=true:=by rw[List.contains_cons,T.hasType PySem.F.excBase_ValueError.hasBase,Bool.or_true]
 have qG1:(Value.ref C1::bm1).contains (.type "BaseException")=true:=by rw[List.contains_cons,T1.hasType PySem.F.excBase_ValueError.hasBase,Bool.or_true]
 obtain⟨hp,g,d,tk,os⟩:=s₂;obtain⟨c1,d1,dt,sl⟩:=oe;simp only at hc hd;subst hc hd;obtain⟨c2,d2,dt2,sl2⟩:=oa;simp only at hac had;subst hac had
 have nC:C≠e:=fun z=>by
  subst z;have q:hp.get? C=_:=he;rw[hC]at q
  cases q
 refine wpAny_bind (wpAny_holding (DX hC hcB he ?_))
 dsimp only
 rw[if_neg (show ¬ ((Value.ref ea==Value.none)=true) by simp)];refine wpAny_bind (wpAny_holding (DX oC1 qG1 ha ?_));have hz:hp.get? e=some { cls:=.ref C,dict:=d1,data:=.fields vs,slots:=sl }:=he;refine wpAny_bind (wpAny_setField hz rfl (Nat.lt_of_succ_lt hsz) ?_);generalize hh3:hp.update e (Obj.mapFields (·.setIfInBounds 3 (Value.ref ea)))=h3
 have e3:h3.get? e=some { cls:=.ref C,dict:=d1,data:=.fields (vs.setIfInBounds 3 (.ref ea)),slots:=sl }:=by rw[<-hh3];exact Heap.get?_update_self _ hz rfl
 have o3:∀ b,b≠e->h3.get? b=hp.get? b:=fun b z=>by rw[<-hh3];exact Heap.get?_update_other _ _ (Ne.symm z)
 refine wpAny_bind (wpAny_setField e3 rfl (by simpa using hsz) ?_);generalize hh4:Heap.update _ e (Obj.mapFields (·.setIfInBounds 4 (Value.bool true)))=h4
 have e4:h4.get? e=some { cls:=.ref C,dict:=d1,data:=.fields ((vs.setIfInBounds 3 (.ref ea)).setIfInBounds 4 (.bool true)),slots:=sl }:=by rw[<-hh4];exact Heap.get?_update_self _ e3 rfl
 have o4:∀ b,b≠e->h4.get? b=hp.get? b:=fun b z=>by rw[<-hh4];exact (Heap.get?_update_other _ _ (Ne.symm z)).trans (o3 b z)
 have C4:=(o4 C nC).trans hC;have a4:h4.get? ea=_:=(o4 ea (Ne.symm hne)).trans ha
 have h14:((vs.setIfInBounds 3 (.ref ea)).setIfInBounds 4 (.bool true))[1]? = some .none:=by simpa using h1
 have fld:∀ {Q':Value->Shared->Prop},Q' .none ⟨h4,g,d,tk,os⟩->wpAny (model prog w) A (field (.ref e) 1) Q' E ⟨h4,g,d,tk,os⟩:=fun z=>wpAny_field e4 rfl h14 z
 repeat (first | with_reducible refine wpAny_loadPart_at e4 ?_ | with_reducible refine wpAny_loadPart_at C4 ?_ | with_reducible refine fld ?_ | wp_step)
 unfold raiseNew;refine wpAny_bind (wpAny_handled ?_);rw[hh]
 dsimp only
 rw[if_pos (show (Value.ref ea != Value.ref e)=true by simp;exact Ne.symm hne)];refine wpAny_bind (wpAny_holding (Gx a4 rfl ha2 (wpAny_bind (m:=setField (.ref e) 2 (.ref ea)) (wpAny_setField e4 rfl (by simp only[Array.size_setIfInBounds];exact Nat.lt_of_lt_of_le (by decide) hsz) (wpAny_throw (hE _ (fun b z=>?_) ⟨_,Heap.get?_update_self _ e4 rfl,?_,?_⟩))))))
 ·exact (Heap.get?_update_other _ _ (Ne.symm z)).trans (o4 b z)
 ·simp
 ·simpa using h1
end
structure t8(k:Nat)(A:Around):Prop where
 dp:A.depth+3*k+5<recursionLimit
 un:A.units+16*k+200<cLine
theorem t8.deeper{k:Nat}{A:Around}(r:t8 (k+1) A)(env:Env):t8 k (A.deeper env):=
 ⟨by have:=r.dp;show A.depth+1+3*k+5<_;omega,by have:=r.un;show A.units+3+16*k+200<_;omega⟩
theorem t8.make{k:Nat}{A:Around}(r:iC (k+1) A)(C:Addr)(us:List Value)(kw:List (Str×Value))(h:Option Value):t8 k ((A.mark h).under (.builtin "type.__call__" ⟨.ref C::us,kw⟩)):=
 ⟨by have:=r.dp;rw[Ci];show A.depth+1+3*k+5<_;omega,by have:=r.un;rw[Cg];show A.units+1+16*k+200<_;omega⟩
noncomputable abbrev cxH(P:Program)(w:World)(K:Frag)(mg:Str->Option Value)(base:Heap)(N:List Str)(qual:Str)(scope:Scope)(f:Addr)(cd:Value)(A:Around)(outer:List Env)(s:Shared)(H:Hp):Cx:=
 { pI dw P w K mg base N qual scope f cd A outer s H E0 with calm:=false,xe:=fun _ _=>False }
structure Dy(P:Program)(w:World)(K:Frag)(mg:Str->Option Value)(base:Heap)(k:Nat)(f:Addr)(fd:FuncData)(ps:List Str)(sp:Sp):Prop where
 len:∀ vs H Q,sp vs H Q E0->vs.length=ps.length
 run:∀(A:Around)(outer:List Env)(s:Shared)(H:Hp)(args:Args)(us:List Value)(vs:List V)(Q:VK),t8 k A->Je P w K mg base A outer s H->BindsTo s fd args (ps.zip us)->Vals vs us->sp vs H Q E0 →
  codeAny (model P w) A (.call (.ref f) args) (fun r s'=>∃ u,r = .ok (.ret u)/\CE outer P w H s Q u s') s
theorem jJ.okH{P:Program}{w:World}{K:Frag}{mg:Str->Option Value}{base:Heap}{x qual:Str}{st:Stmt}{f:Addr}{fd:FuncData}{N ps:List Str}{k:Nat}{sp:Sp}(F:jJ K x qual st f fd)(S:aq N ps (aP st))(len:∀ vs H Q,sp vs H Q E0->vs.length=ps.length)
  (hbody:∀(cdv:Value)(A:Around)(outer:List Env)(s:Shared)(H:Hp)(vs:List V)(Q:VK),t8 k (A.deeper (envOfC qual (aP st) s.heap.objs.size f cdv))->sp vs H Q E0 →
   ∃ t,JV (cxH P w K mg base N qual (aP st) f cdv A outer s H) (iT st) t/\t { nx:=fun _ H'=>Q .non H',rt:=Q } (start N vs) H):Dy P w K mg base (k+1) f fd ps sp:=by
 obtain⟨oc,od,kV,doc,pm,an,cdv,ct,osl,rfl,lk,hcd⟩:=F.ex;refine⟨len,fun A outer s H args us vs Q hr e0 hb r hsp=>?_⟩;have hl:=len _ _ _ hsp;have KX:K.In s.heap:=e0.mod.Y4.keeps fun b o e=>(e0.bs b o e).1;have lim:s.heap.NoLimit:=e0.mod.nolimit.keeps fun b o e=>(e0.bs b o e).1
 have hkind:∀ y∈ps.zip us,(aP st).names.lookup y.1=some .local∨((aP st).names.lookup y.1=some .cell/\((cellsFrom (s.heap.objs.size+1) (aP st).names []).lookup y.1).isSome=true):=fun ⟨n,v⟩ hy=>by
  rcases S.par n (List.of_mem_zip hy).1 with q | q
  ·exact .inl q
  ·exact .inr ⟨q,PySem.W.cellsFrom_some _ _ _ (.inl q)⟩
 refine codeAny_call_function (by have:=hr.dp;omega) (KX _ _ lk) rfl S.co S.gen rfl (PySem.W.codeRec_of KX hcd) (hb _ _ _ _ ?_);refine wpAny_newFunctionEnv_cells S.kind hkind fun env he s1 x=>?_;subst he;refine⟨lim.keeps x.toInCall.keep,codeAny_func ?_⟩;obtain⟨t,ht,hq⟩:=hbody cdv A outer s H vs Q (hr.deeper _) hsp;have e1:Je P w K mg base { A with handled:=none } outer s H:=⟨e0.frames,e0.mod,e0.bs,e0.Td,e0.uG,e0.Vb,e0.hok,e0.bare⟩;have I0:Inv (pI dw P w K mg base N qual (aP st) f cdv { A with handled:=none } outer s H E0) [] (start N vs) H s1:=GR S rfl e1 hl r x
 have I:Inv (cxH P w K mg base N qual (aP st) f cdv A outer s H) [] (start N vs) H s1:=
  ⟨⟨I0.ok.mod,I0.ok.kind,I0.ok.glob,I0.ok.blt,I0.ok.above,I0.ok.inj,I0.ok.has,I0.ok.cab,(fun z=>Bool.noConfusion z),I0.ok.frames,I0.ok.ZP,I0.ok.exf,I0.ok.bs,I0.ok.Td,I0.ok.Nm,I0.ok.SJ,I0.ok.uG,I0.ok.Vb⟩,I0.os,I0.bare,I0.base,I0.loc,I0.cell,I0.free,I0.nM,I0.pin,I0.hok,I0.len⟩
 refine wpAny_mono (ht [] s1 (start N vs) H _ I hq) (fun fl s' hs=>?_) fun e s' hs=>hs.elim
 have fin:∀ {σ':St} {H':Hp} {v:V} {u:Value},Inv (cxH P w K mg base N qual (aP st) f cdv A outer s H) [] σ' H' s'->RelV v u->Q v H'->CE outer P w H s Q u s':=
  fun {σ' H' v u} J rv q=>⟨v,H',J.os,J.bare,J.base,J.hok,rv,q⟩
 cases fl with
 | ret u=>
  obtain⟨v,σ',H',J,rv,q⟩:=hs;exact⟨u,rfl,fin J rv q⟩
 | next=>
  obtain⟨σ',H',J,q⟩:=hs;exact⟨_,rfl,fin (v:=V.non) (u:=Value.none) J rfl q⟩
 | brk=>
  obtain⟨_,_,_,q⟩:=hs;exact False.elim q
 | cont=>
  obtain⟨_,_,_,q⟩:=hs;exact False.elim q
noncomputable def qFH(a b:Str)(te:TE):TE:=fun σ H Q=>(Str.empty++a).length<=sizeLine/\te σ H fun v H1 => ∃ n:Int,v = .int n/\n.natAbs.log2<1920/\(Str.empty++a++Str.ofString (toString n)++b).length<=sizeLine/\Q (.str (Str.empty++a++Str.ofString (toString n)++b)) H1
theorem Ur{X:Cx}{e:Expr}{te:TE}{a b:Str}{k1 k3:Nat}{p1 p2 p3 pos:Pos}(he:PE X e te) :
  PE X (.JoinedStr [.Constant (.str a) k1 p1,.FormattedValue e (-1) none p2,.Constant (.str b) k3 p3] pos) (qFH a b te):=by
 intro pins s σ H Q I h;refine wpAny_JoinedStr ?_;obtain⟨h0,h⟩:=h;refine Calls.Constant_str ⟨a,_,rfl,h0,?_⟩;refine wpAny_FormattedValue_plain (gO (he pins _ σ H _ (I.tok _) h) fun u s1 ⟨v,H1,I1,r,n,q1,q2,q3,q4⟩=>?_);subst q1;obtain⟨t,rfl⟩:=r;refine wpAny_formatField_int q2 ⟨_,_,rfl,?_,?_⟩
 ·rw[strLen_append]at q3;exact Nat.le_trans (Nat.le_add_right _ _) q3
 refine Calls.Constant_str ⟨b,_,rfl,q3,?_⟩;exact⟨q3,.str _,H1,((I1.tok _).tok _).tok _,⟨_,rfl⟩,q4⟩
section
variable{M:Model}{A:Around}{E:Value->Shared->Prop}{s:Shared}{base:Heap}{env:Env}{outer:List Env}{L e:Addr}{a0:Value}{Q:Unit->Shared->Prop}
theorem Nj{oe:Obj}{vs:Array Value}(hfr:A.frames=some (env::outer))(hf:env.frame=some L)(hkb:base.StaysIn s.heap)(hl:s.heap.FunFrames base (env::outer))(hb:base.get? e=none)(he:s.heap.get? e=some oe)(hd:oe.data = .fields vs)(h1:vs[1]? = some .none)(h0:vs[0]? = some a0)
  (h2:oe.dict=none->vs[2]? = some .none) (hQ:∀ h',Heap.HeldW base (env::outer) e oe.cls a0 L h'->s.heap.UpToSlots h'->DictAt h' e oe.dict->Q () { s with heap:=h' }):wpAny M A (noteFrame (.ref e) env) Q E s:=by
 unfold noteFrame;simp only[hf];refine wpAny_bind (wpAny_field he hd h1 ?_);rw[if_neg (by decide)];have hsz:=(Array.getElem?_eq_some_iff.mp h1).1
 refine wpAny_mono (gK (wpAny_entryW (Q:=fun _ s'=>∃ h',s' = { s with heap:=h' }/\Heap.NotedW base (env::outer) e oe.cls a0 (rawInt L) s.heap h') hfr hl hf he hkb hb hd hsz h0 fun h' k=>⟨h',rfl,k⟩)
  (nR (Q:=fun _ s'=>DictAt s'.heap e oe.dict) hfr hl hf he hd hsz ⟨oe,he,rfl,fun y=>⟨vs,hd,h2 y⟩⟩ fun _ _ _ _ z _ _ _ _=>z))
  (fun _ s3 ⟨⟨h',y,k1,k2,k3,k4⟩,k5⟩=>by subst y;exact hQ h' ⟨k1,hb,k2,k3⟩ k4 k5) fun _ _ y=>y
end
theorem Gb{h h' B:Heap}(k:∀ b o,h.get? b=some o->(∀ vs,o.data≠.fields vs)->∃ o',h'.get? b=some o'/\∀ vs,o'.data≠.fields vs):∀ l:List Env,h.FunFrames B l->h'.FunFrames B l
 | [],z=>z
 | _::l,⟨hcl,⟨L,o,q1,q2,q3,q4⟩,hr⟩=>let ⟨o',y1,y2⟩:=k L o q3 q4;⟨hcl,⟨L,o',q1,q2,y1,y2⟩,Gb k l hr⟩
theorem Ve{X:Cx}{pins:List (Addr×Obj)}{σ:St}{H:Hp}{s:Shared}{e C d:Addr}{a0:Value}{oe:Obj}{vs:Array Value}{h1:Heap}{E:XK}{n:Str}{pos:Pos}{A':Around}{E1 E2:Value->Shared->Prop}(hp:wX X E)(hex:X.ex=[])(I:Inv X pins σ H s)
  (en:X.s₀.heap.get? e=none) (hl:Loose (H e)) (hH:(H e).isSome=true) {o0:Obj} {vs0:Array Value} (he0:s.heap.get? e=some o0) (hd0:o0.data = .fields vs0) (ho:∀ b,b≠e->h1.get? b=s.heap.get? b) (he:h1.get? e=some oe) (hc:oe.cls = .ref C) (hdd:oe.dict=some d) (hd:oe.data = .fields vs) (v0:vs[0]? = some a0) (v1:vs[1]? = some .none)
  (hq:E (.ref C) (some d) (del H e)) (hA:A'.frames=X.A.frames) (hn:X.env.scope.names.lookup n=some .local) (hst:X.stack=X.env::X.outer) (hfr:X.env.frame=some X.env.locals) :
  wpAny (model X.prog X.w) A' (noteFrame (.ref e) X.env) (fun _ s3=>wpAny (model X.prog X.w) A' (do bindName X.env n .none;unbindBehindTheSuite X.env n pos)
   (fun _ s4=>wpAny (model X.prog X.w) A' (passOn "try.except-as" (.ref e) X.env:Sem Flow) (fun _ _=>False) (notedBy (model X.prog X.w) A' X.env fun x s'=>cameBackBy (model X.prog X.w) X.A X.env X.xe x s') s4) E1 s3) E2 { s with heap:=h1 }:=by
 have Kr:=I.ok.frames;rw[hst]at Kr
 have es:frs X.stack=X.env.locals::frs X.outer:=by rw[hst];exact DQ hfr
 have nL:e≠X.env.locals:=fun z=>by rw[z,I.free]at hH;cases hH
 generalize hS:e::frs X.stack=S;have hin:∀ env∈X.stack,∀ b,env.frame=some b->b∈S:=fun env he b hb=>hS▸wy _ (List.mem_filterMap.mpr ⟨env,he,hb⟩)
 have neS:∀ b,b∈frs X.stack->b≠e:=fun b hb z=>by rw[<-z,I.tE b hb]at hH;cases hH
 have ZP:h1.FunFrames X.base X.stack:=by
  refine I.stack.of_keeps fun b o z1 z2=>⟨o,(ho b fun z=>?_).trans z1,rfl⟩;subst z;rw[he0]at z1
  cases z1
  exact z2 _ hd0
 have inB:∀ b ob,h1.get? b=some ob->b≠e->b∉frs X.stack->(PySem.W.hideAll h1 S).get? b=some ob:=
  fun b ob q z hb=>PySem.W.hideAll_get _ q (by rw[<-hS];exact fun y=>(jo.mp y).elim z hb)
 have hB:∀ b,(del H e b).isSome=true->∃ ob,h1.get? b=some ob/\(PySem.W.hideAll h1 S).get? b=some ob:=fun b hb=>by
  obtain⟨u,hu⟩:=Option.isSome_iff_exists.mp hb
  have z:b≠e:=fun z=>by rw[z,nW]at hu;cases hu
  rw[jf z]at hu;obtain⟨ob,q⟩:=(I.hok b u hu).there;exact⟨ob,(ho b z).trans q,inB b ob ((ho b z).trans q) z fun y=>by rw[I.tE b y]at hu;cases hu⟩
 have old:∀ b ob,X.s₀.heap.get? b=some ob->b≠e:=fun b ob q z=>by rw[z,en]at q;cases q
 have qCZ:∀ b ob,X.s₀.heap.get? b=some ob->b≠X.env.locals:=fun b ob q=>tD (Jj (lZ q) I.ok.above)
 have YD:∀ b ob,X.s₀.heap.get? b=some ob->b∉frs X.outer->∃ o',h1.get? b=some o'/\(PySem.W.hideAll h1 S).get? b=some o':=fun b ob q hb=>by
  obtain⟨o1,e1⟩:=I.base.there b ob q (by rw[hex];simp);have e2:=(ho b (old b ob q)).trans e1;refine⟨o1,e2,inB b o1 e2 (old b ob q) fun z=>?_⟩;rw[es]at z;exact (jo.mp z).elim (qCZ b ob q) hb
 have qFX:qM X.prog X.w (del H e) h1:=fun b o q=>by
  refine ((I.hok.del hl) b o q).stay (fun c u hc z=>(ho c fun y=>?_).trans z) (fun _ z=>z) fun _ _ z=>z;subst y;rcases hc with y | y
  ·rw[<-y,nW]at q;cases q
  ·rw[nW]at y;cases y
 have ub:Un (frs X.outer) [] X.H₀ (del H e) X.s₀.heap h1:=by
  have u0:=I.base.del hl;rw[hex]at u0;refine⟨fun b o q1 q2 q3 q4=>(ho b (old b o q1)).trans (u0.keep b o q1 q2 q3 q4),fun b o q1 q2 q3 q4=>?_,u0.free,fun b o q1 q2=>?_,u0.tups,u0.sX,u0.uC⟩
  ·obtain⟨sl,z⟩:=u0.slot b o q1 q2 q3 q4;exact⟨sl,(ho b (old b o q1)).trans z⟩
  ·obtain⟨o',z⟩:=u0.there b o q1 q2;exact⟨o',(ho b (old b o q1)).trans z⟩
 have nBL:(PySem.W.hideAll h1 S).get? X.env.locals=none:=PySem.W.hideAll_none _ (by rw[<-hS,es];exact wy _ Aa);have ff:=PySem.W.funFrames_hide ZP hin;rw[hst]at ff;refine Nj (base:=PySem.W.hideAll h1 S) (hA.trans Kr) hfr (fun b ob q=>PySem.W.of_hideAll _ q) ff (PySem.W.hideAll_none _ (by rw[<-hS];exact Aa)) he hd v1 v0 (fun z=>by rw[hdd]at z;cases z) fun h4 GX ZQ dk4=>?_;rw[hc]at GX;rw[hdd]at dk4;generalize PySem.W.hideAll h1 S=B at *;obtain⟨k1,k2,k3,oe4,vs4,T,oT,ts,he4,hcl,hd4,h14,hnT,hTe,hT,hdT,h3⟩:=GX;obtain⟨m,⟨oL,esL,epL,gL,dL,rL⟩,_⟩:=I.loc;have gL1:h1.get? X.env.locals=some oL:=(ho _ (Ne.symm nL)).trans gL;obtain⟨slL,gL4⟩:=ZQ _ _ gL1 (fun vs z=>by rw[dL]at z;cases z)
 have nTL:T≠X.env.locals:=fun z=>by
  have q:h4.get? T=_:=hT;rw[z,gL4]at q
  cases q
  rw[show ({ oL with slots:=slL }:Obj).data=oL.data from rfl,dL]at hdT
  cases hdT
 have n4:h4.Ns X.env.locals m:=⟨_,esL,epL,gL4,dL,rL⟩
 have hpk:(X.env.scope.kind==.class||(X.env.scope.kind==.module&&X.env.locals != X.env.globals))=false:=by
  rw[I.ok.kind];rfl
 refine wpAny_nameGoes_keeps hn n4 hpk fun h5 v' hn5 sb=>?_;have sz3:=(Array.getElem?_eq_some_iff.mp h3).1;have e5:h5.get? e=some oe4:=(sb.2 e nL).trans he4;have T5:h5.get? T=some oT:=(sb.2 T nTL).trans hT;unfold PySem.passOn;refine wpAny_bind (wpAny_field e5 hd4 h14 ?_);rw[if_neg (show ¬ ((Value.ref T==Value.none)=true) by simp)];refine wpAny_bind (m:=setFlight (.ref e) X.env.frame) ?_;unfold setFlight;refine wpAny_bind (wpAny_field e5 hd4 h14 ?_);rw[if_pos (show (Value.ref T != Value.none)=true by simp)];refine wpAny_setField T5 hdT sz3 (wpAny_throw ?_);rw[hfr];generalize hh6:Heap.update _ T (Obj.mapFields (·.setIfInBounds 3 _))=h6
 have o6:∀ b,b≠T->h6.get? b=h5.get? b:=fun b z=>by rw[<-hh6];exact Heap.get?_update_other _ _ (Ne.symm z)
 have T6:h6.get? T=some (oT.mapFields (·.setIfInBounds 3 (rawInt X.env.locals))):=by rw[<-hh6];exact Heap.get?_update_self _ T5 (Obj.isFreed_of_fields (Obj.data_mapFields hdT _))
 have dT6:=Obj.data_mapFields (o:=oT) hdT (·.setIfInBounds 3 (rawInt X.env.locals));have e6:h6.get? e=some oe4:=(o6 e (Ne.symm hTe)).trans e5
 have s6:((·.setIfInBounds 3 (rawInt X.env.locals)) ts:Array Value)[3]? = some (rawInt X.env.locals):=by simp [sz3]
 show wpAny _ A' (noteFrame (.ref e) X.env) _ _ _;refine wpAny_noteFrame_againW (base:=B) hfr ⟨oe4,vs4,T,_,_,e6,hcl,hd4,h14,hnT,hTe,T6,dT6,s6⟩ ?_
 show wpAny _ X.A (do
  if (← field (.ref e) 1)==.none then unsupported "frame.own-activation:exception-without-traceback"
  setFlight (.ref e) X.env.frame) _ _ _
 refine wpAny_bind (wpAny_field e6 hd4 h14 ?_);rw[if_neg (show ¬ ((Value.ref T==Value.none)=true) by simp)];show wpAny _ _ (setFlight (.ref e) X.env.frame) _ _ _;unfold setFlight;refine wpAny_bind (wpAny_field e6 hd4 h14 ?_);rw[if_pos (show (Value.ref T != Value.none)=true by simp)];refine wpAny_setField T6 dT6 (Array.getElem?_eq_some_iff.mp s6).1 ?_;rw[hfr];generalize hh7:Heap.update _ T (Obj.mapFields (·.setIfInBounds 3 _))=h7
 have o7:∀ b,b≠T->h7.get? b=h5.get? b:=fun b z=>by rw[<-hh7];exact (Heap.get?_update_other _ _ (Ne.symm z)).trans (o6 b z)
 have T7:h7.get? T=some ((oT.mapFields (·.setIfInBounds 3 (rawInt X.env.locals))).mapFields (·.setIfInBounds 3 (rawInt X.env.locals))):=by rw[<-hh7];exact Heap.get?_update_self _ T6 (Obj.isFreed_of_fields (Obj.data_mapFields dT6 _))
 have dT7:=Obj.data_mapFields (o:=oT.mapFields (·.setIfInBounds 3 (rawInt X.env.locals))) dT6 (·.setIfInBounds 3 (rawInt X.env.locals))
 have noT:∀ b o,h4.get? b=some o->(∀ vs,o.data≠.fields vs)->b≠T:=fun b o z1 z2 z=>by
  subst z;rw[hT]at z1
  cases z1
  exact z2 ts hdT
 have st7:B.StaysIn h7:=fun b o z=>(o7 b (fun y=>by rw[y,hnT]at z;cases z)).trans ((sb.2 b (fun y=>by rw[y,nBL]at z;cases z)).trans (k1 b o z))
 have slot:∀ b o,X.s₀.heap.get? b=some o->X.H₀ b=none->b∈frs X.outer->∃ sl,h7.get? b=some { o with slots:=sl }:=fun b o z1 z2 z3=>by
  obtain⟨s1,y1⟩:=ub.slot b o z1 z2 z3 (by simp);obtain⟨_,o1,y2,nf⟩:=I.xT b z3;rw[z1]at y2
  cases y2
  obtain⟨s2,y3⟩:=ZQ b _ y1 nf;exact⟨s2,(o7 b (noT b _ y3 nf)).trans ((sb.2 b (qCZ b _ z1)).trans y3)⟩
 refine hp pins σ H s e (.ref C) a0 _ (some d) (del H e) B _ I I.os I.bare st7 k2 ?_
  ⟨oe4,vs4,T,_,_,(o7 e (Ne.symm hTe)).trans e5,hcl,hd4,h14,hnT,hTe,T7,dT7,by simp [sz3];rfl⟩ (qFX.flown hB st7) ?_ (fun b z=>?_) (fun b o z1 z2=>?_) ?_ hq
 ·rw[hst];refine Gb (fun b o z1 z2=>?_) _ k3
  by_cases hb:b=X.env.locals
  ·obtain⟨oL5,es5,ep5,g5,d5,_⟩:=hn5;exact⟨oL5,by rw[hb];exact (o7 _ (Ne.symm nTL)).trans g5,fun vs z=>by rw[d5]at z;cases z⟩
  ·exact⟨o,(o7 b (noT b o z1 z2)).trans ((sb.2 b hb).trans z1),z2⟩
 ·refine⟨fun b o z1 z2 z3 z4=>?_,fun b o z1 z2 z3 _=>slot b o z1 z2 z3,ub.free,fun b o z1 _=>?_,ub.tups,ub.sX,ub.uC⟩
  ·obtain⟨o',y1,y2⟩:=YD b o z1 z3;rw[ub.keep b o z1 z2 z3 z4]at y1
   cases y1
   exact st7 b _ y2
  ·by_cases z3:b∈frs X.outer
   ·obtain⟨_,y⟩:=slot b o z1 (I.xT b z3).1 z3;exact⟨_,y⟩
   ·obtain⟨o',_,y2⟩:=YD b o z1 z3;exact⟨o',st7 b _ y2⟩
 ·obtain⟨o,_,y2⟩:=hB b z;exact⟨o,st7 b o y2,y2⟩
 ·obtain⟨o',_,y2⟩:=YD b o z1 z2;exact⟨o',st7 b _ y2,y2⟩
 ·obtain⟨o1,y1,y2⟩:=dk4;have:h4.get? e=some o1:=y1;rw[he4]at this
  cases this
  exact⟨_,(o7 e (Ne.symm hTe)).trans e5,y2⟩
noncomputable def qFB(e C:Addr)(h:Heap):Prop:=∃ ob ws,h.get? e=some ob/\ob.cls = .ref C/\ob.data = .fields ws/\ws[2]? = some .none
noncomputable def Sh(e C:Addr):HO:=.ext (qFB e C)
noncomputable def qCE(K:Frag)(C C2:Addr)(i:Nat)(sp:Sp)(oE:List V)(E:XK)(tb:TSX)(t:TA):TS:=fun D σ H=>tb D (fun σ' cls dd H'=>∃ C1:Addr,cls = .ref C1/\dd=none/\FQ K C1/\exmOne K cls (.ref C)=some true ∧
 ∀ ea,H' ea=none->t (σ'.set i (some (.ref ea))) (upd H' ea (Sh ea C1)) fun vs H1=>vs.length<=sizeLine/\H1 ea=some (Sh ea C1)/\∀ e,H1 e=none →
  sp (.ref e::(vs++oE)) (upd H1 e (xZ e C2 none)) (fun v H2=>v = .non/\H2 ea=some (Sh ea C1)/\∃ d,H2 e=some (xZ e C2 (some d))/\E (.ref C2) (some d) (del H2 e)) E0) σ H
theorem Xa{X:Cx}{k i:Nat}{C C2 fI:Addr}{fd:FuncData}{ps:List Str}{sp:Sp}{oE:List V}{ds:List Value}{x y n:Str}{np np2 np3 cpos rpos hpos pos:Pos}{body:List Stmt}{e0:Expr}{rest:List Expr}{tb:TSX}{t:TA}{E:XK}(hp:wX X E)
  (hb:PSX X body tb) (hg:Gl X x) (hm:X.mg x=some (.ref C)) (hN:X.N.Nodup) (hi:X.N[i]? = some n) (hl:X.env.scope.names.lookup n=some .local) (hg2:Gl X y) (hm2:X.mg y=some (.ref C2)) (hC2:su X.K C2 fI=true) (hk2:keepIn X.K (.ref C2)=true)
  (F:Dy X.prog X.w X.K X.mg X.base k fI fd ps sp) (hr:iC (k+1) X.A) (hb2:Binds X.K fd ps ds) (hd:Vals oE ds) (ha:∀ e:Addr,PA (X.VF e) (e0::rest) t) (hex:X.ex=[]:=by rfl) (hst:X.stack=X.env::X.outer:=by rfl) (hfr:X.env.frame=some X.env.locals:=by rfl)
  (hdb:(x==("__debug__" : Str))=false:=by decide) (qFZ:(y==("__debug__" : Str))=false:=by decide) (hn1:(n==("__debug__" : Str))=false:=by decide) (hn2:(n==("__classdict__" : Str))=false:=by decide)
  (he:starEach (e0::rest) X.env=(false,eval e0 X.env)::starEach rest X.env:=by rfl) (hpl:(backTo cpos (starEach rest X.env)).any (·.1)=false:=by rfl) :
  PS X (.Try body [.ExceptHandler (some (.Name x np)) (some n) [.Raise (some (.Call (.Name y np2) (e0::rest) [] cpos)) (some (.Name n np3)) rpos] hpos] [] [] pos) (qCE X.K C C2 i sp oE E tb t):=by
 intro pins s σ H D I h;refine wpAny_Try_except (wpAny_mono (hb pins s σ H D _ I h) (fun f s1 q=>?_) fun e s1 q=>?_)
 ·cases f with
  | next=>exact wpAny_execs_nil q
  | brk=>exact q
  | cont=>exact q
  | ret u=>exact q
 obtain⟨σ1,H1,s0,I1,ea,cls,a0,H',B,rfl,ho,hgn,fl,hok,un,hB,hC,dd,hdd,C1,rfl,rfl,hEC,hmt,hth⟩:=q;have Kr:=I1.ok.frames;rw[hst]at fl Kr;refine GK Kr hfr fl hdd fun h4 GX ZQ dk4=>Nx GX dk4 fun h5 YQ sl5 dk5=>?_;have u5:=un.flown hC YQ.1 (ZQ.trans sl5) I1.frames;have J5:Inv X pins σ1 H' { s1 with heap:=h5 }:=I1.call' ho u5 (hok.flown hB YQ.1) hgn (fun _ z=>nomatch z);obtain⟨ob,hob,hoc⟩:=YQ.there;refine wpAny_handleBy_cons (codeAny_handlers_test (km (J5.VF ea) hg hm ?_ hdb)) (by intro z;cases z)
 have LT:PySem.W.Looks (model X.prog X.w) h5 (typeOf (.ref ea)) (.ref C1):=by
  rw[<-hoc];exact (PySem.W.Looks.ld hob).andThen .now
 refine (PySem.W.exm_one J5.oA LT hmt).here (codeAny_handlers_suite_as ?_);refine wC YQ dk5 fun h6 fl6 sl6 dk6=>?_;have u6:=un.flown hC fl6.1 ((ZQ.trans sl5).trans sl6) I1.frames;obtain⟨oe,ws,e6,c6,d6,_⟩:=fl6.first
 have q6:Zu oe:=by
  obtain⟨o1,z1,_,z2⟩:=dk6;rw[show h6.get? ea=some oe from e6]at z1
  cases z1
  exact z2 rfl
 have hH:H' ea=none:=by
  cases q:H' ea with
  | none=>rfl
  | some z=>
   obtain⟨o1,_,e2⟩:=hB ea (by rw[q];rfl);rw[fl.2.1]at e2
   cases e2
 have nea:∀ b o1,s0.heap.get? b=some o1->b≠ea:=fun b o1 q z=>by
  subst z
  by_cases hb:b∈frs X.stack
  ·obtain⟨z1,o2,q2,nf⟩:=I1.frames b hb;rw[q]at q2
   cases q2
   obtain⟨sl,q3⟩:=u6.slot b o1 q z1 hb (by simp);rw[e6]at q3
   cases q3
   exact nf ws d6
  ·obtain⟨o',_,q2⟩:=hC b o1 q hb;rw[fl.2.1]at q2
   cases q2
 have u7:Un (frs X.stack) [] H1 (upd H' ea (Sh ea C1)) s0.heap h6:=by
  refine⟨u6.keep,u6.slot,fun b o1 q z1 z2=>?_,u6.there,fun b xs q=>?_,fun b o1 u q=>?_,fun b ps q=>?_⟩
  ·rw[zQ (nea b o1 q)];exact u6.free b o1 q z1 z2
  ·have q':=u6.tups b xs q;rw[zQ (zM q' hH)];exact q'
  ·have q':=u6.sX b o1 u q;rw[zQ (zM q' hH)];exact q'
  ·obtain⟨more,q'⟩:=u6.uC b ps q;exact⟨more,by rw[zQ (zM q' hH)];exact q'⟩
 have hk6:=hok.flown hB fl6.1
 have hk7:qM X.prog X.w (upd H' ea (Sh ea C1)) h6:=fun b o1 q=>by
  by_cases hb:b=ea
  ·subst hb;rw[zC]at q
   cases q
   obtain⟨ws',z1,z2⟩:=q6;exact⟨⟨oe,ws',e6,c6,z1,z2⟩,⟨oe,e6⟩,fun _ _ ⟨o2,w2,z1,z2⟩ k=>⟨o2,w2,k o2 z1,z2⟩⟩
  ·rw[zQ hb]at q;refine (hk6 b o1 q).stay (fun _ _ _ z=>z) (fun c z=>?_) fun c xs z=>?_
   ·rw[zQ (zM z hH)];exact z
   ·rw[zQ (zM z hH)];exact z
 have J6:Inv X pins σ1 (upd H' ea (Sh ea C1)) { s1 with heap:=h6 }:=I1.call' ho u7 hk7 hgn (fun _ z=>nomatch z);refine pL (v:=.ref ea) J6 hN hi (.inl hl) rfl (fun s8 I8=>?_) (.inr hl)
 have hiσ:i<σ1.length:=by rw[I1.len];exact (Fb.mp hi).1
 refine wpAny_execs_cons ?_;rw[arm_exec_Raise];simp only[evalOpt,Option.map];refine wpAny_bind (wpAny_standAt (N6 (C:=C2) (fI:=fI) (K:=X.K) (ea:=ea) rfl ?_));refine wpAny_bind (wpAny_mono ?_ (fun v s₃ h₃=>wpAny_bind (wpAny_standAt (wpAny_pure h₃))) fun _ _ x=>x);refine wpAny_Call_Name_kw (km (I8.VF ea) hg2 hm2 ?_ qFZ);refine callWith_K (h₀:=X.base) I.ok.mod.Y4 hk2 (wpAny_mono (ha ea cpos pins s8 _ _ _ (I8.VF ea) (hth ea hH)) (fun us s9 ⟨vs,H9,I9,r,q1,q2,q⟩=>⟨I9.oA,?_⟩) fun _ _ z=>z.elim) he hpl;obtain⟨hh,g,d,tk,os⟩:=s9;refine Gn (Dz.of hC2 I9.oA) (by rw[List.nil_append,<-r.length];exact q1) fun h' e hm=>?_;obtain⟨t0,z1,_,_⟩:=hm.there;have hHe:H9 e=none:=I9.Ht hm.new
 have nee:e≠ea:=fun z=>by rw[z,q2]at hHe;cases hHe
 have I10:=I9.laidN (o:=xZ e C2 none) (t':=tk) hm.keeps hm.new (BR ⟨t0,z1⟩);have hq:=q e hHe;have r2:Vals (V.ref e::(vs++oE)) (Value.ref e::(us++ds)):=.cons rfl (r.append hd)
 have hlen:(Value.ref e::us++ds).length=ps.length:=by
  have z:=r2.length;rw[F.len _ _ _ hq]at z;exact z.symm
 refine wpAny_call (codeAny_mono (F.run _ X.stack _ _ ⟨Value.ref e::us,[]⟩ (Value.ref e::(us++ds)) _ _ (t8.make hr C2 us [] (some (.ref ea))) (I10.env0.make C2 us []) (hb2 _ (Value.ref e::us) I10.oA hlen) r2 hq) fun r s' z=>?_);obtain⟨u,rfl,z⟩:=z;obtain⟨v,H11,I11,rv,ev,qG3,d11,y1,y2⟩:=I10.after z;subst ev;refine⟨rv,wpAny_bind (wpAny_mono (pv (X:=X.VF ea) i hi (.inl hl) hn1 hn2 pins s' _ H11 (fun v H12=>v = .ref ea/\H12=H11) I11 ⟨.ref ea,by rw[List.getElem?_set_self hiσ],rfl,rfl⟩) (fun u s12 ⟨v,H12,I12,rv,ev,eH⟩=>?_) fun _ _ z=>z.elim)⟩;subst ev eH
 cases (show u=Value.ref ea from rv)
 obtain⟨⟨t1,y3⟩,_⟩:=I12.hok e _ y1;obtain⟨⟨oa,wa,y4,y5,y6,y7⟩,_⟩:=I12.hok ea _ qG3;have I13:=I12.unH I1.ok;have en:X.s₀.heap.get? e=none:=(I9.unH I1.ok).Uz hex hm.new;refine wpAny_bind (wpAny_standAt (wpAny_pure ⟨e,C1,_,_,oa,wa,rfl,rfl,nee,Dz.of hC2 I12.oA,I12.oA,hEC,y3,rfl,rfl,(show 4<6 by decide),rfl,y4,y5,y6,y7,fun h' o' ⟨vs',y8,v0,v1⟩=>?_⟩));exact Ve hp hex I13 en (.inr ⟨_,y1⟩) (by rw[y1];rfl) y3 rfl o' y8 rfl rfl rfl v0 v1 y2 rfl hl hst hfr
end L2
namespace L2
open PySem PySem.Spec PyProof.Rows
section
variable{X:Cx}{k:Nat}{f C:Addr}{fd:FuncData}{ps:List Str}{sp:Sp}{oE:List V}{ds:List Value}{m:Str}{apos pos:Pos}{o e:Expr}{es:List Expr}{ta:TE}{t:TA}
noncomputable def qAC(C:Addr)(m:Str)(sp:Sp)(oE:List V)(ta:TE)(t:TA):TEX:=fun σ H Q E=>ta σ H fun x H1 => ∃ a dx fs,x = .ref a/\H1 a=some (.ins C dx fs)/\fs.lookup m=none/\t σ H1 fun vs H2=>sp (.ref a::(vs++oE)) H2 Q E
theorem Uo{pl:Sem Bool}(he:PE X.TX o ta)(c:Eb X.K C)(hm:Meth X.K C m f)(F:bc X.prog X.w X.K X.mg X.base (lB X.prog X.w) k f fd ps sp)(hr:iC k X.A)(hb:Binds X.K fd ps ds)(hd:Vals oE ds)(ha:PA X.TX (e::es) t)
  (hst:starEach (e::es) X.env=(false,eval e X.env)::starEach es X.env:=by rfl) (hpl:(backTo pos (starEach es X.env)).any (·.1)=false:=by rfl)
  (ht:eval (.Call (.Attribute o m apos) (e::es) [] pos) X.env=(do
   let ov ← eval o X.env
   standAt apos.atName
   let (f,first) ← holding [ov] (getMethod ov m pl)
   callWith pos f first (backTo pos (starEach (e::es) X.env)) (backToKw pos (keywordEach [] X.env))):=by rfl) :
  PEX X (.Call (.Attribute o m apos) (e::es) [] pos) (qAC C m sp oE ta t):=by
 intro pins s σ H Q E I h;refine PySem.W.methodCall_KW (pl:=pl) (wpAny_mono (he pins s σ H _ (I.wish _) h) (fun u s1 ⟨x,H1,I1,rx,a,dx,fs,ex,ea,l,q⟩=>?_) fun _ _ z=>z.elim) ht;subst ex;obtain rfl:u=Value.ref a:=rx;have J1:=I1.iV;refine Cz J1 ea c hm l ?_;refine PySem.W.callWith_K (first:=[.ref a]) (h₀:=X.base) I.ok.mod.Y4 hm.kp (wpAny_mono (ha pos pins s1 σ H1 _ I1 q) (fun us s2 ⟨vs,H2,I2,r,q2⟩=>⟨I2.iV.oA,?_⟩) fun _ _ z=>z.elim) hst hpl;exact Pu (us:=.ref a::us) (vs:=.ref a::vs) F hr hb hd I2.iV (.cons rfl r) q2
end
end L2
namespace PySem
open Sem (wp)
open AutoSeq1 (wpAny_loadPart')
set_option maxRecDepth 100000
theorem Vq(l:Addr)(items:Array Value)(n:Nat)(dct:Option Addr)(sl:Array (Option Value))(t:Tok) :
  Meets (Builtin.«enumerate.__new__» ⟨[.type "enumerate",.ref l],[("start",.int 1 t)]⟩) (fun _ R s=>s.heap.get? l=some { cls:=.type "list",dict:=dct,data:=.seq items n,slots:=sl } ∧
   R (.ok (.ret (.ref (s.heap.push { cls:=.type "list_iterator",data:=.fields #[.ref l,.int 0 0] }).objs.size)))
    { s with heap:=(s.heap.push { cls:=.type "list_iterator",data:=.fields #[.ref l,.int 0 0] }).push { cls:=.type "enumerate",data:=.fields #[.none,.bool false,.ref s.heap.objs.size,rawInt 1,.none,.none] } }):=
 .of_wp fun prog w A R s h=>by
  obtain⟨hp,g,d,tk,os⟩:=s;obtain⟨hl,h⟩:=h;have hsub:=sub_enumerate;have hL:Heap.IsList (Shared.heap ⟨hp,g,d,tk,os⟩) l items:=⟨_,hl,rfl,n,rfl⟩
  wp_walk using wpAny_loadPart' hl
  refine wpAny_stack_any fun st=>wpAny_pure ?_
  split
  ·rename_i c _ _ _ _ _
   cases (c==Value.type "enumerate")
   ·wp_walk using wpAny_loadPart' hl,wpAny_pyIter_list hL
    exact⟨_,rfl,h⟩
   ·wp_walk using wpAny_loadPart' hl,wpAny_pyIter_list hL
    exact⟨_,rfl,h⟩
  ·wp_walk using wpAny_loadPart' hl,wpAny_pyIter_list hL
   exact⟨_,rfl,h⟩
section
variable{prog:Program}{w:World}{A:Around}{E:Value->Shared->Prop}{s:Shared}
theorem CZ{T newId:String}{self:Value}{rest:List Value}{kw:List (Str×Value)}(hl:typeLookup (.type T) "__init__" = pure (some (.builtin "object.__init__")))
  (hm:Bind.madeBy (.type T)=pure (some newId)) (hne:(some newId != some "object.__new__")=true) :
  Meets (Builtin.«object.__init__» ⟨self::rest,kw⟩) (fun _ R s=>s.TypeIs self T/\R (.ok (.ret .none)) s):=by
 refine Meets.of_wp fun prog w A R s hs=>?_;obtain⟨hT,hq⟩:=hs
 cases rest with
 | nil=>
  cases kw with
  | nil=>exact wpAny_pure ⟨_,rfl,hq⟩
  | cons k kw=>
   repeat (any_goals (first | assumption | wp_step))
   exact⟨_,rfl,hq⟩
 | cons a rest=>
  repeat (any_goals (first | assumption | wp_step))
  exact⟨_,rfl,hq⟩
theorem FN{T newId:String}{Bn:Builtin}{args:List Value}{kw:List (Str×Value)}{S:Spec}{Q:Value->Shared->Prop}(ft:TypeCalled T newId "object.__init__")
  (hne:(some newId != some "object.__new__")=true) (hct:checkTypeCall T ⟨args,kw⟩=pure ()) (hcn:checkBuiltinCall newId ⟨.type T::args,kw⟩=pure ())
  (hok:∀ obj,argsOk "object.__init__" ⟨obj::args,kw⟩) (entryN:entryFor table newId=some Bn) (g:Meets (Bn ⟨.type T::args,kw⟩) S)
  (h:S A.in1 (wants (fun obj s₁=>s₁.TypeIs obj T/\Q obj s₁) E) s):wpAny (model prog w) A (call (.type T) args kw) Q E s:=by
 obtain⟨c,tl,hmro⟩:=ft.mro;have hmade:=ft.made;have hsub:=ft.sub;refine wpAny_call (codeAny_of_tree ?_);show wpAny _ _ (callAny (.type T) _) _ _ _;refine wpAny_pure ⟨Code.quiet_builtin _ (by decide +kernel),codeAny_builtin F.entry_type_call ?_⟩;rw[Around.under_plain (weight_type_call_type T args kw) (units_type_call_type T args kw)];have h1:=ft.notType;have h2:=ft.canCreate
 repeat (any_goals (first | assumption | wp_step))
 refine codeAny_mono (codeAny_call_builtin ft.plain entryN (wpAny_of_eq hcn (g prog w A.in1 _ s h))) fun r s₁ hr=>?_
 cases r with
 | error e=>exact hr
 | ok fl=>
  cases fl with
  | ret obj=>
   obtain⟨hT,hQ⟩:=hr;have hli:=ft.init.lookup;have hbi:=ft.init.bind obj
   repeat (any_goals (first | assumption | wp_step))
   refine codeAny_mono (codeAny_call_builtin ft.init.plain F.entry_object_init (ft.init.check _ _ _ _ _ _ _ _ hT (hok obj) (CZ ft.init.lookup ft.made hne prog w A.in1 (wants (fun r s₂=>r = .none/\Q obj s₂) E) s₁ ⟨hT,rfl,hQ⟩))) fun r₂ s₂ hr₂=>?_
   cases r₂ with
   | error e=>exact hr₂
   | ok fl₂=>
    cases fl₂ with
    | ret r=>
     obtain⟨rfl,hq⟩:=hr₂
     repeat (any_goals (first | assumption | wp_step))
    | _=>exact hr₂.elim
  | _=>exact hr.elim
theorem Ye(a:Value)(t:Tok):checkTypeCall "enumerate" ⟨[a],[("start",.int 1 t)]⟩=pure ():=by kernel_rfl
theorem Yg(a:Value)(t:Tok):checkBuiltinCall "enumerate.__new__" ⟨[.type "enumerate",a],[("start",.int 1 t)]⟩=pure ():=by kernel_rfl
theorem Yd(a b:Value)(t:Tok):argsOk "object.__init__" ⟨[a,b],[("start",.int 1 t)]⟩:=by
 unfold argsOk;rw[signature?_of (id := "object.__init__") (n:=['_','_','t','i','n','i','_','_']) (o:=['t','c','e','j','b','o']) (by kernel_rfl) F.owner_object];kernel_rfl
theorem SM{e it l:Addr}{i:Nat}{j:Int}{items:Array Value}{old:Value}{Q:Option Value->Shared->Prop}(hh:A.handled=none)
  (he:IsEnum s.heap e it j old) (hit:s.heap.IsListIter it l i) (hl:s.heap.IsList l items) (hx:items[i]? = none)
  (hQ:∀ h',Heap.ExtBut it s.heap h'->Q none { s with heap:=h' }):wpAny (model prog w) A (pyNext (.ref e)) Q E s:=by
 have hT:s.TypeIs (.ref e) "enumerate" := ⟨_,he,rfl⟩;unfold pyNext
 refine wpAny_bind (wpAny_attempt (wpAny_callSpecial?_slot (name:=Str.ofString "__next__") hT F.slot_enumerate_next
  (wpAny_call_entry F.slot_enumerate_next hT F.entry_enumerate_next ?_ (F.args_enumerate_next_1 _))))
 show wpAny _ _ (field (.ref e) 2 >>= _) _ _ _;refine wpAny_bind (wpAny_field he rfl (x:=.ref it) rfl ?_);refine wpAny_bind (wpAny_nextOf_list_end hh hit hl hx fun h' x he' hx'=>?_);obtain⟨o,ho,hc⟩:=hx';refine wpAny_bind (wpAny_isInstance (T := "StopIteration") (b:=true) ⟨o,ho,hc⟩ isSubtype_stop ?_);exact wpAny_pure (hQ _ he')
theorem Draws.shift{q:Addr}{fp:List Addr}{n:Nat}{P:Nat->Value->Prop}{St:Nat->Heap->Prop}(D:Draws prog w A q fp n P St):Draws prog w A q fp (n+1) (fun i v => ∃ j,i=j+1/\P j v) (fun i h => ∃ j,i=j+1/\St j h) where
 live:=fun _ _ ⟨_,_,st⟩=>D.live _ _ st
 frame:=fun _ _ _ ⟨j,e,st⟩ k=>⟨j,e,D.frame _ _ _ st k⟩
 item:=fun i s Q E hi ⟨j,e,st⟩ hQ=>D.item j s Q E (by omega) st fun x h' tk a b c=>hQ x h' tk ⟨j,e,a⟩ ⟨j+1,by omega,b⟩ c
 done:=fun s Q E ⟨j,e,st⟩ hE=>D.done s Q E (by rw[Nat.add_right_cancel e];exact st) hE
theorem Ds{M:Model}{pos:Pos}{T:String}{args:List (Bool×Sem Value)}{keywords:List (Option Str×Sem Value)}{Q:Value->Shared->Prop}
  (hplain:args.any (·.1)=false) (hkw:keywords.any (·.1.isNone)=false)
  (h:wpAny M A (evalArgs (.type T) true args keywords) (fun a s₁=>wpAny M A (call (.type T) a.pos a.kw) Q E s₁) E s) :
  wpAny M A (callWith pos (.type T) [] args keywords) Q E s:=by
 unfold callWith;refine wpAny_bind (wpAny_holding (wpAny_mono h (fun a s₁ h₁=>wpAny_bind (wpAny_standAt ?_)) fun _ _ x=>x));simp only[hplain,hkw,Bool.or_false];refine wpAny_bind (wpAny_pure ?_);exact wpAny_bind (wpAny_mono h₁ (fun r s₂ hr=>wpAny_bind (wpAny_holding (wpAny_point (wpAny_pure hr)))) fun _ _ x=>x)
theorem Ou{l:Addr}{items:Array Value}{t:Tok}{Q:Value->Shared->Prop}(hL:s.heap.IsList l items)
  (h:∀ h',IsEnum h' (s.heap.objs.size+1) s.heap.objs.size 1 .none->h'.IsListIter s.heap.objs.size l 0->h'.objs.size=s.heap.objs.size+2 →
   (∀ b o,s.heap.get? b=some o->h'.get? b=some o)->Q (.ref (s.heap.objs.size+1)) { s with heap:=h' }) :
  wpAny (model prog w) A (call (.type "enumerate") [.ref l] [("start",.int 1 t)]) Q E s:=by
 obtain⟨⟨c,dct,dt,sl⟩,hl,hc,n,hd⟩:=hL
 replace hc:c = .type "list" := hc
 replace hd:dt = .seq items n:=hd
 subst hc hd;refine FN F.called_enumerate (by decide) (Ye _ _) (Yg _ _) (fun obj=>Yd obj _ _) F.entry_enumerate_new
  (Vq l items n dct sl t) ⟨hl,?_⟩
 have hz:(s.heap.push { cls:=.type "list_iterator",data:=.fields #[.ref l,.int 0 0] }).objs.size=s.heap.objs.size+1:=Heap.size_push ..;show _/\_;rw[hz]
 have he:IsEnum ((s.heap.push { cls:=.type "list_iterator",data:=.fields #[.ref l,.int 0 0] }).push
   { cls:=.type "enumerate",data:=.fields #[.none,.bool false,.ref s.heap.objs.size,rawInt 1,.none,.none] }) (s.heap.objs.size+1) s.heap.objs.size 1 .none:=by
  have:=wj (s.heap.push { cls:=.type "list_iterator",data:=.fields #[.ref l,.int 0 0] })
   (o:={ cls:=.type "enumerate",data:=.fields #[.none,.bool false,.ref s.heap.objs.size,rawInt 1,.none,.none] }) rfl
  rw[hz]at this;exact this
 refine⟨⟨_,he,rfl⟩,h _ he ⟨_,mV _ (wj _ rfl),rfl,rfl⟩ (by rw[Heap.size_push,hz]) fun b o x=>mV _ (mV _ x)⟩
end
end PySem
namespace L2
open PySem PySem.Spec PyProof.Rows
noncomputable def qF6(K:cZ)(a:Addr):It:=
 ⟨fun i H => ∃ xs x,jk K H a xs/\xs[i]? = some x,fun i H v H'=>∃(t:Addr)(x:V),v = .ref t/\H t=none/\(∀ xs,jk K H a xs->xs[i]? = some x)/\H'=upd H t (.tup [.int ((i:Int)+1),x]),fun i H => ∃ xs,jk K H a xs/\xs.length<=i⟩
theorem Mi{P:Program}{w:World}{K:cZ}{es:List Expr}{k:Nat}{pos:Pos}(a e q:Addr):Turn P w K (.Tuple es k pos) (qF6 K a) [e,q] e (fun i h=>(∃ old,IsEnum h e q ((i+1:Nat):Int) old)/\h.IsListIter q a i) where
 mem:=by simp
 obj:=fun i h st b hb=>by
  obtain⟨⟨old,he⟩,o,ho,hc,hd⟩:=st;rcases jo.mp hb with rfl | hb
  ·exact⟨_,he,fun v z=>by cases (show Data.fields _=Data.cell v from z)⟩
  ·rw[MT.mp hb];exact⟨o,ho,fun v z=>by rw[hd]at z;cases z⟩
 keep:=fun i h h' st k=>by
  obtain⟨⟨old,he⟩,hq⟩:=st;exact⟨⟨old,k e (by simp) _ he⟩,hq.at fun o z=>k q (by simp) o z⟩
 item:=by
  intro X hP hw hK hc i pins s σ H E I hf st hg;subst hP hw hK;obtain⟨xs,x,hq,hx⟩:=hg;obtain⟨its,rv,p,hz⟩:=I.list hq;obtain⟨u,hu,ru⟩:=rv.get hx;obtain⟨⟨old,he⟩,hit⟩:=st;have pt:=p.isList
  have naq:a≠q:=fun z=>by
   obtain⟨o1,g1,c1,_⟩:=pt;obtain⟨o2,g2,c2,_⟩:=hit;rw[z,g2]at g1
   cases g1
   rw[c2]at c1;injection c1 with c1;exact absurd c1 (by decide)
  have neq:e≠q:=fun z=>by
   obtain⟨o2,g2,c2,_⟩:=hit;rw[<-z]at g2;have g3:=g2.symm.trans he
   cases g3
   have c3:Value.type "enumerate" = Value.type "list_iterator" := c2;injection c3 with c3;exact absurd c3 (by decide)
  have nea:e≠a:=fun z=>by
   obtain⟨o1,g1,c1,_⟩:=pt;rw[<-z]at g1;have g3:=g1.symm.trans he
   cases g3
   have c3:Value.type "enumerate" = Value.type "list" := c1;injection c3 with c3;exact absurd c3 (by decide)
  have D:=(Draws.list (prog:=X.prog) (w:=X.w) (A:=X.A.in1) (I.ok.hd hc) q a naq its.toArray).shift
  have hlt:i<its.toArray.size:=by
   have:=(Fb.mp hu).1
   simpa using this
  have hnew:H s.heap.objs.size=none:=I.hok.fresh (jj _);refine wpAny_pyNext_enum_itemD (i:=i+1) D he ⟨i,rfl,hit,pt⟩ (Nat.succ_lt_succ hlt) neq (by simp [neq,nea]) fun y h1 tk hy' ho qFW hT hsz hk=>?_;obtain⟨j0,ej0,hy⟩:=hy';obtain rfl:i=j0:=Nat.add_right_cancel ej0;obtain⟨j1,ej1,hs1⟩:=qFW;obtain rfl:i+1=j1:=Nat.add_right_cancel ej1
  obtain rfl:y=u:=by
   rw[List.getElem?_toArray,hu]at hy;exact (MN hy).symm
  refine⟨_,rfl,wpAny_letOwnedTupleGo_enum ho fun h2 he2 sb=>?_⟩;have nse:s.heap.objs.size≠e:=Nat.ne_of_gt (lZ he)
  have nsq:s.heap.objs.size≠q:=by
   obtain⟨o2,g2,_⟩:=hit;exact Nat.ne_of_gt (lZ g2)
  have kk:∀ b o,b∉[e,q]->s.heap.get? b=some o->h2.get? b=some o:=fun b o hb g=>by
   have b1:b≠e:=fun z=>hb (by simp [z]);have b2:b≠q:=fun z=>hb (by simp [z]);exact (sb.2 b b1).trans (hk b o b1 b2 g)
  have I1:Inv X pins σ H { s with heap:=h2,toks:=tk+1 }:=I.PQ kk hf
  have I2:Inv X pins σ (upd H s.heap.objs.size (.tup [.int ((i:Int)+1),x])) { s with heap:=h2,toks:=tk+1 }:=by
   refine Inv.adopt I1 (I.Iv (jj _) hnew) ⟨by show 2<=sizeLine;decide,[.int ((i+1:Nat):Int) tk,y],.cons ⟨tk,rfl⟩ (.cons ru .nil),?_⟩;exact⟨_,(sb.2 _ nse).trans hT,rfl,_,rfl⟩
  refine⟨.ref s.heap.objs.size,_,I2,rfl,⟨_,x,rfl,hnew,fun ys hy=>by rw[I.Kd hy hq];exact hx,rfl⟩,⟨⟨y,by have:=he2;simpa using this⟩,hs1.1.at fun o g=>(sb.2 q (Ne.symm neq)).trans g⟩,fun b hb=>?_⟩
  have nb:b≠s.heap.objs.size:=by
   rcases jo.mp hb with rfl | hb
   ·exact Ne.symm nse
   ·rw[MT.mp hb];exact Ne.symm nsq
  rw[zQ nb];exact (hf b hb).1
 done:=by
  intro X hP hw hK hc i pins s σ H E I hf st hg;subst hP hw hK;obtain⟨xs,hq,hx⟩:=hg;obtain⟨its,rv,p,hz⟩:=I.list hq;obtain⟨⟨old,he⟩,hit⟩:=st;have hl:=rv.length;refine SM (I.ok.hd hc) he hit p.isList (by simp;omega) fun h2 eb=>⟨rfl,?_⟩;exact I.PQ (t':=s.toks) (fun b o hb g=>eb b o (fun z=>hb (by simp [z])) g) hf
 self:=fun _ _ _ _ _ st h=>by
  obtain⟨⟨old,he⟩,_⟩:=st;exact wpAny_pyIter_enum he h
section
variable{X:Cx}{es:List Expr}{k:Nat}{tpos:Pos}
noncomputable def qBK(K:cZ)(ta:TA):TI:=fun σ H R=>ta σ H fun vs H1 => ∃ a,vs=[.ref a]/\(∃ xs,jk K H1 a xs)/\R (qF6 K a) H1
theorem Ul{l:Expr}{ta:TA}{p pos:Pos}{j:Nat}{kp pd:Pos}(hg:Gl X "enumerate")(hm:X.mg "enumerate" = none)(ha:PA X [l] ta)(hs:starEach [l] X.env=[(false,eval l X.env)]:=by rfl):PI X (.Tuple es k tpos) (.Call (.Name "enumerate" p) [l] [⟨some "start",.Constant (.int 1) j pd,kp⟩] pos) (qBK X.K ta):=by
 intro pins s σ H R I h;refine wpAny_Call_Name_kw (sH I hg hm boot_enumerate ?_);refine Ds (by rw[hs];rfl) rfl ?_;have g:=ha pos pins s σ H _ I h;rw[hs]at g ⊢;refine PyProof.Rows.evalArgs_kwB rfl (wpAny_mono g (fun us s1 ⟨vs,H1,I0,r1,q1⟩=>?_) fun _ _ y=>y);refine PyProof.Rows.kws_cons (wpAny_Constant_int (PyProof.Rows.kws_nil ?_));have I1:=I0.tok (s1.toks+1);obtain⟨a,e,⟨xs,hq⟩,q⟩:=q1;subst e;obtain⟨u,rfl,ra⟩:=vals1 r1
 cases ra
 obtain⟨its,rv,p,hz⟩:=I1.list hq;refine Ou p.isList fun h' he hit hsz hk=>?_;refine wpAny_pyIter_enum he ?_;have I2:Inv X pins σ H1 { s1 with heap:=h',toks:=s1.toks+1 }:=I1.kept (t':=s1.toks+1) hk;refine⟨s1.heap.objs.size+1,[s1.heap.objs.size+1,s1.heap.objs.size],_,_,H1,rfl,I2,Mi a _ _,⟨⟨.none,by simpa using he⟩,hit⟩,fun b hb=>?_,q⟩;rcases jo.mp hb with rfl | hb
 ·exact I1.Iv (Nat.le_succ _) (I1.hok.fresh (Nat.le_succ _))
 ·rw[MT.mp hb];exact I1.Iv (jj _) (I1.hok.fresh (jj _))
end
end L2
namespace zz
open PySem L2 Zv DL
noncomputable def Qm(n:Int):Prop:=n.natAbs.log2<1920/\(Str.empty++("row " : Str)).length<=sizeLine/\(Str.empty++("row " : Str)++Str.ofString (toString n)++(" can't stand where it does" : Str)).length<=sizeLine
noncomputable def Js(C:Addr):Sp:=fun vs H Q _ => ∃(e:Addr)(n:Int),vs=[.ref e,.int n]/\H e=some (xZ e C none)/\Qm n ∧
 ∀ dx:Addr,H dx=none->dx≠e->Q .non (upd (upd H dx (.xd [("row",.int n)])) e (xZ e C (some dx)))
theorem Tn{H:Hp}{a:Addr}{o:HO}(h:H a=some o):upd H a o=H:=funext fun b=>by
 by_cases z:b=a
 ·rw[z,zC,h]
 ·exact zQ z
section
variable{P:Program}{w:World}{K:cZ}{mg:Str->Option Value}{base:Heap}{C CE:Addr}
theorem U9:aq ["self","row"] ["self","row"] (aP XJ):=o9
theorem qAZ{f:Addr}{fd:FuncData}(F:jJ K "__init__" "Unread.__init__" XJ f fd)(hC:su K C f=true)(q:Jd K C "row")(zj:mg "NestError" = some (.ref CE))
  (hsp:PySem.W.specialIn K (.ref CE) "__getattribute__" = some (some (.builtin "type.__getattribute__"))) (hrd:PySem.W.readsIn K CE (.type "type")=true) (hf:PySem.W.findCls K (.ref CE) (.type "type") "__init__" = some (.val (.builtin "ValueError.__init__"))) :
  bc P w K mg base dw 1 f fd ["self","row"] (Js C)/\Dy P w K mg base 1 f fd ["self","row"] (Js C):=by
 refine⟨F.ok U9 (fun vs H Q E h=>?_) (fun cdv A outer s H vs Q E hr h=>?_),F.okH U9 (fun vs H Q h=>?_) (fun cdv A outer s H vs Q hr h=>?_)⟩
 ·obtain⟨e,n,rfl,_⟩:=h;rfl
 ·obtain⟨e,n,rfl,he,fn,k⟩:=h
  refine⟨_,(zE (Q6 rfl zj hsp hrd hf (zA (pv 0) (zA (Ur (pv 1)) zD)))
  (zF (Q5 (pv 0) (pv 1) rfl))),?_⟩
  refine⟨_,rfl,fn.2.1,_,rfl,n,rfl,fn.1,fn.2.2,e,C,f,none,_,rfl,(by rw[sizeLine_eq];exact (by decide:1<=16777216)),hC,he,?_⟩;rw[Tn he];exact⟨_,rfl,_,rfl,e,C,rfl,he,q,fun dx hdx hde=>k dx hdx hde⟩
 ·obtain⟨e,n,rfl,_⟩:=h;rfl
 ·obtain⟨e,n,rfl,he,fn,k⟩:=h
  refine⟨_,(zE (Q6 rfl zj hsp hrd hf (zA (pv 0) (zA (Ur (pv 1)) zD)))
  (zF (Q5 (pv 0) (pv 1) rfl))),?_⟩
  refine⟨_,rfl,fn.2.1,_,rfl,n,rfl,fn.1,fn.2.2,e,C,f,none,_,rfl,(by rw[sizeLine_eq];exact (by decide:1<=16777216)),hC,he,?_⟩;rw[Tn he];exact⟨_,rfl,_,rfl,e,C,rfl,he,q,fun dx hdx hde=>k dx hdx hde⟩
end
inductive Rr where
 | ok (d:D) | un (n:Int) | st
inductive Lr where
 | ok (fs:Ms) | un (n:Int) | st
noncomputable def gn(F:Ms->List D->Rz (Ms×D)):List D->Nat->Ms->Lr
 | [],_,fs=>.ok fs
 | d::ds,n,fs=>if fs.lookup ("add" : Str)=none then (match F fs [d] with
  | .ok (fs',_)=>gn F ds (n+1) fs'
  | .ex=>.un ((n:Int)+1)
  | .st=>.st) else .st
noncomputable def Ni(aC:Addr)(fs:Ms):D:=.obj aC (fs.map fun x=>(x.1,x.2.d))
noncomputable def Og(aC:Addr)(n:Nat)(fs:Ms):Rr:=if fs.lookup ("may_end" : Str)=none/\fs.lookup ("whole" : Str)=none then (match gM aC [Ni aC fs] with
 | .ok (.bl true)=>(match oG aC [Ni aC fs] with | .ok d=>if d.nl=true then .ok d else .st | _=>.st)
 | .ok (.bl false)=>.un ((n:Int)+1)
 | _=>.st) else .st
noncomputable def Tc:Ms:=[("last",.va (.str "")),("heads",.li []),("boxes",.li []),("events",.li []),("rooms",.li []),("doors",.li [])]
noncomputable def jU(aC:Addr)(x:Str):Rr:=if x.length<=sizeLine/\(Txt.split x "\n").length<=200 then (match gn (gZ aC) ((Txt.split x "\n").map D.str) 0 Tc with
 | .ok fs=>Og aC (Txt.split x "\n").length fs
 | .un n=>.un n
 | .st=>.st) else .st
noncomputable def Wr(K:cZ)(CU:Addr)(H:Hp)(Q:VK)(E:XK):Rr->Prop
 | .ok d => ∀ v B' H',bB H H'->bB B' H'->(∀ a o,B' a=some o->H a=none)->Rp K B' d v->Q v H'
 | .un n => ∀ H' dx,bB H H'->H dx=none->H' dx=some (.xd [("row",.int n)])->E (.ref CU) (some dx) H'
 | .st=>False
noncomputable def U7(K:cZ)(CU:Addr)(F:Str->Rr):Sp:=fun vs H Q E => ∃ x,vs=[.str x]/\Wr K CU H Q E (F x)
theorem Vd:∀ n:Nat,n<203->Qm (n:Int):=by
 intro n h
 have z:∀ m∈List.range 203,Qm (m:Int):=by
  unfold Qm;rw[sizeLine_eq];decide +kernel
 exact z n (List.mem_range.mpr h)
theorem Jx{f:Str}{m:Fm}:∀ {fs:Ms},(fs.map (·.1)).contains f=false->gF f m fs=fs++[(f,m)]
 | [],_=>rfl
 | (g,x)::r,h=>by
  rw[List.map_cons,List.contains_cons,Bool.or_eq_false_iff]at h;rw[gF,if_neg (fun z=>by subst z;simp at h),Jx h.2];rfl
theorem Rw{C:Addr}{f:Str}{e:FE}{fs:Ms}{m:Fm}{w:W}(he:e [.ob C fs] = .ok w)(hw:w.fm = .ok m)(hl:fs.length<1000)(hc:(fs.map (·.1)).contains f=false):rB C 0 f e [.ob C fs] = .ok (.nx [.ob C (fs++[(f,m)])]):=by
 unfold rB;rw[he];show (w.fm.bind _)=_;rw[hw];show (if C=C/\fs.length<1000/\_ then _ else _)=_;rw[if_pos ⟨rfl,hl,rfl⟩,Jx hc];rfl
theorem bV{a b:FS}{ρ ρ':List Sl}(h:a ρ = .ok (.nx ρ')):aX a b ρ=b ρ':=by
 unfold aX;rw[h];rfl
theorem YB(aC:Addr):pX aC [] [] = .ok (Tc,.non):=by
 show Iz aC (DN aC [.ob aC []])=_;unfold DN;rw[bV (Rw (m:=.va (.str "")) rfl rfl (by decide) rfl),bV (Rw (m:=.li []) rfl rfl (by decide) (by decide +kernel)),bV (Rw (m:=.li []) rfl rfl (by decide) (by decide +kernel)),bV (Rw (m:=.li []) rfl rfl (by decide) (by decide +kernel)),bV (Rw (m:=.li []) rfl rfl (by decide) (by decide +kernel)),Rw (m:=.li []) rfl rfl (by decide) (by decide +kernel)];show (if aC=aC then _ else _)=_;rw[if_pos rfl];rfl
section
variable{P:Program}{w:World}{K:cZ}{mg:Str->Option Value}{base:Heap}
theorem tG:aq ["text","draft","rows","number","row","e"] ["text"] (aP HR):=o9
theorem Xh{n:Nat}{C CU aC f LK Zk pq QW fU:Addr}{fd Lk Zq qG Qa dU:FuncData}(F:jJ K "read" "read" HR f fd)
  (Wd:bc P w K mg base dw n LK Lk ["self"] (X6 K C aC (pX aC) 1)) (WR:Binds K Lk ["self"] []) (V3:Mk K aC LK) (Xp:mg "Draft" = some (.ref aC))
  (qF7:bc P w K mg base (lB P w) (n+1) Zk Zq ["self","row"] (X6 K C aC (gZ aC) 2)) (qEV:Binds K Zq ["self","row"] []) (qB8:Meth K aC "add" Zk)
  (ym:bc P w K mg base dw (n+1) pq qG ["self"] (dB K C (gM aC) 1)) (yh:Binds K qG ["self"] []) (uc:Meth K aC "may_end" pq)
  (Z5:bc P w K mg base dw (n+1) QW Qa ["self"] (dB K C (oG aC) 1)) (Yw:Binds K Qa ["self"] []) (V4:Meth K aC "whole" QW) (bH:Eb K aC) (bR:mg "len" = none)
  (Kc:mg "enumerate" = none) (mX:mg "NoWords" = some (.ref C)) (Qq:FQ K C) (xm:PySem.W.exmOne K (.ref C) (.ref C)=some true) (wB:mg "Unread" = some (.ref CU)) (hCU:su K CU fU=true) (kU:KI K CU)
  (GU:bc P w K mg base (lB P w) n fU dU ["self","row"] (Js CU)) (GUH:Dy P w K mg base n fU dU ["self","row"] (Js CU)) (bU:Binds K dU ["self","row"] []) :
  bc P w K mg base (lB P w) (n+2) f fd ["text"] (U7 K CU (jU aC)):=by
 refine F.okX tG (fun vs H Q E h=>?_) fun cdv A outer s H vs Q E hr h=>?_
 ·obtain⟨x,rfl,_⟩:=h;rfl
 obtain⟨x,rfl,h⟩:=h
 refine⟨_,(zE (zJ (i:=1) tG.nd rfl (Or.inl rfl) (Uq V3 Wd hr rfl Xp WR .nil yC))
  (zE (zJ (i:=2) tG.nd rfl (Or.inl rfl) (jY (r:=N7) PySem.F.plainAttrs_str PySem.F.slot_str_split PySem.F.type_str_split KQ (pv 0) (zA zP zD)))
  (zE (qAP (E:=E) (qCW (fun _ _ _ h=>h)) (uT (YL rfl rfl) rfl (Ul rfl Kc (zA (pv 2) zD)) (Um rfl (vf (yG (i:=3) tG.nd rfl (Or.inl rfl)) (vf (yG (i:=4) tG.nd rfl (Or.inl rfl)) Q8)))
  (zF (Xa (i:=5) (E:=E) (qAT (fun _ _ _ h=>h)) (Ui (Uo (pv 1) bH qB8 qF7 hr qEV .nil (zA (pv 4) zD))) rfl mX tG.nd rfl rfl rfl wB hCU kU GUH hr bU .nil (fun e=>zA (pv 3) zD)))))
  (zE (yB (my (fY (CK (pv 1) bH uc ym hr yh .nil yC)))
  (zF (R6 Iw rfl rfl wB hCU kU GU hr bU .nil (zA (yA (r:=Jw K) QB (zS (r:=Fv K) yf rfl bR qA6 (zA (pv 2) zD)) zB) zD)))
  zT)
  (zF (zO (CK (pv 1) bH V4 Z5 hr Yw .nil yC))))))),?_⟩
 unfold jU at h
 by_cases hc:x.length<=sizeLine/\(Txt.split x "\n").length<=200
 ·rw[if_pos hc]at h;obtain⟨hx,hl⟩:=hc;have hN:(Txt.split x "\n").length<=sizeLine:=Nat.le_trans hl (by rw[sizeLine_eq];decide);generalize hrs:Txt.split x "\n" = rows at *
  let G:Gm:=⟨K,H,E,C,none⟩
  have o0:Own G (fun _=>none) H (DL.start 6 [.str x]) (L2.start ["text","draft","rows","number","row","e"] [.str x]):=xK (K:=K) (H:=H) (B:=fun _=>none) (E:=E) (C:=C) (N:=["text","draft","rows","number","row","e"]) (ds:=[.str x]) (vs:=[.str x]) (fun _ _ z=>by cases z) ⟨_,_,rfl,rfl,rfl⟩ (by show 1<=6;decide)
  have e1:ZR aC 1 (Hu (pX aC)) 1 aJ (DL.start 6 [.str x]) = .ok (.nx [.fr (.str x),.ob aC Tc,.no,.no,.no,.no]):=by
   have z:Hu (pX aC) [] [] = .ok (Tc,.non):=by unfold Hu;rw[YB]
   show ((Hu (pX aC) [] []).bind _)=_;rw[z];rfl
  have e2:aR 2 (fM "str" HB (aB 0) (aA (fC (.str "\n")) aJ)) [.fr (.str x),.ob aC Tc,.no,.no,.no,.no] = .ok (.nx [.fr (.str x),.ob aC Tc,.fr (.lst (rows.map D.str)),.no,.no,.no]):=by
   have z:HB (.str x) [.str "\n"] = .ok (.ow (rows.map D.str)):=by
    show (if _ then _ else _)=_;rw[hrs,if_pos ⟨by decide +kernel,hx,hN⟩]
   show ((HB (.str x) [.str "\n"]).bind _)=_;rw[z];rfl
  refine Yj (G:=G) rfl rfl aK _ H _ _ _ o0 ?_;rw[e1];intro σ1 B1 H1 o1 x1;refine ak (G:=G) (rJ KZ (aF 0) (aD aV aK)) B1 H1 _ σ1 _ o1 ?_;rw[e2];intro σ2 B2 H2 o2 x2;obtain⟨vr,ev,p,vs,rfl,Bp,rl⟩:=o2.fr 2 (.lst (rows.map D.str)) rfl
  have hlen:vs.length=rows.length:=by rw[rl.len,jH]
  let wl:Lr->Prop:=fun r=>Wr K CU H Q E (match r with
   | .ok fs=>Og aC rows.length fs
   | .un n=>.un n
   | .st=>.st)
  have h:wl (gn (gZ aC) (rows.map D.str) 0 Tc):=h
  refine⟨.ref p,ev,p,rfl,⟨vs,jk.of (o2.sb _ _ Bp)⟩,fun i m σ3 H3 => ∃ B3 fs s3 s4,Own G B3 H3 [.fr (.str x),.ob aC fs,.fr (.lst (rows.map D.str)),s3,s4,.no] σ3/\Ea G B2 B3/\s3.nb=true/\s4.nb=true/\m+i=rows.length/\wl (gn (gZ aC) ((rows.map D.str).drop i) i fs),
   ⟨rows.length,B2,Tc,_,_,o2,Ea.refl _ _,rfl,rfl,rfl,h⟩,fun i m σ3 H3 ⟨B3,fs,s3,s4,o3,x3,n3,n4,hm,hw⟩=>?_⟩
  have sq3:jk K H3 p vs:=jk.of (o3.sb _ _ (x3.sb _ _ Bp))
  by_cases hi:i<rows.length
  ·refine .inr ⟨?_,_,fun σ' H' w=>⟨m-1,by omega,w⟩,?_⟩
   ·exact⟨vs,_,sq3,Az (by rw[hlen];exact hi)⟩
   rintro v' H' ⟨t,y,rfl,ht,hy,rfl⟩;have ey:=hy vs sq3;obtain⟨d,ed,rd⟩:=rl.at ey
   have hlt:i<(rows.map D.str).length:=by rw[jH];exact hi
   have ed':(rows.map D.str).drop i=d::(rows.map D.str).drop (i+1):=by
    rw[List.drop_eq_getElem_cons hlt];congr 1;exact (Fb.mp ed).2
   rw[ed',gn]at hw
   by_cases hadd:fs.lookup ("add" : Str)=none
   ·rw[if_pos hadd]at hw;obtain⟨o4,x4⟩:=o3.lay ht (.tup [.int ((i:Int)+1),y]);refine qEU (is:=[3,4]) (G:=G) _ _ _ _ (.tup [.int ((i:Int)+1),d]) (.ref t) [.fr (.str x),.ob aC fs,.fr (.lst (rows.map D.str)),.fr (.int ((i:Int)+1)),.fr d,.no] _ o4 ⟨t,_,rfl,.inl (.inl zC),_,_,rfl,rfl,_,_,rfl,rd.mono (x3.sb.trans x4.sb),rfl⟩ rfl fun σ4 o5=>?_;obtain⟨a,ea,dx,bW,e0,na,n0,r,nd⟩:=o5.ob 1 aC fs rfl;obtain⟨v3,ev3,rv3⟩:=o5.fr 3 (.int ((i:Int)+1)) rfl
    cases (show v3=V.int ((i:Int)+1) from rv3)
    obtain⟨v4,ev4,rv4⟩:=o5.fr 4 d rfl;refine⟨.ref a,ea,a,dx,bW,rfl,e0,r.look.2.2 hadd,v4,ev4,?_⟩
    dsimp only[xG,List.cons_append,List.nil_append]
    refine qD7 (G:=G) (B:=upd B3 t (.tup [.int ((i:Int)+1),y])) o5 (Ea.refl _ _) rfl ea rfl (ds:=[d]) (vs:=[v4]) ⟨v4,[],rfl,rv4,rfl⟩ rfl (fun ef=>?_) (fun ef H' s1 s2=>?_) fun fs' d' ef v B' H' o' x' _=>?_
    ·rw[ef]at hw;exact hw
    ·rw[ef]at hw;have hw:∀ H' dx,bB H H'->H dx=none->H' dx=some (.xd [("row",.int ((i:Int)+1))])->E (.ref CU) (some dx) H':=hw;refine⟨C,rfl,rfl,Qq,xm,fun e5 h5=>⟨.int ((i:Int)+1),by rw[List.getElem?_set_ne (by decide)];exact ev3,(by rw[sizeLine_eq];exact (by decide:1<=16777216)),zC,fun e6 h6=>⟨e6,(i:Int)+1,rfl,zC,Vd (i+1) (by omega),fun EY hdx hde=>?_⟩⟩⟩
     have Xm:e5≠e6:=fun z=>by rw[<-z,zC]at h6;cases h6
     have nd5:EY≠e5:=fun z=>by rw[z,zQ Xm,zC]at hdx;cases hdx
     have z6:H' e6=none:=by rw[zQ (Ne.symm Xm)]at h6;exact h6
     have zd:H' EY=none:=by rw[zQ hde,zQ nd5]at hdx;exact hdx
     refine⟨rfl,by rw[zQ Xm,zQ (Ne.symm nd5),zQ Xm,zC],EY,zC,hw _ EY (fun b u z=>?_) (s1.free zd) ?_⟩
     ·have zb:=s1 b u z
      have b6:b≠e6:=fun q=>by rw[q,z6]at zb;cases zb
      rw[jf b6,zQ b6,zQ (fun q=>by rw[q,zd]at zb;cases zb),zQ b6,zQ (fun q=>by rw[q,h5]at zb;cases zb)];exact zb
     ·rw[jf hde,zQ hde,zC]
    ·rw[ef]at hw;exact⟨B',fs',_,_,o',(x3.trans (x4.s o3)).trans x',rfl,rfl,by omega,hw⟩
   ·rw[if_neg hadd]at hw;exact hw.elim
  ·refine .inl ⟨⟨vs,sq3,by omega⟩,?_⟩;rw[List.drop_eq_nil_of_le (by rw[jH];omega),gn]at hw;have hw:Wr K CU H Q E (Og aC rows.length fs):=hw;unfold Og at hw
   by_cases hz:fs.lookup ("may_end" : Str)=none/\fs.lookup ("whole" : Str)=none
   ·rw[if_pos hz]at hw
    have em:∀ (m:Str) (F:List D->Rz D) r,fs.lookup m=none->F [Ni aC fs] = .ok r->r.nl=true->Es aC m (c7 F) 1 (aB 1) aJ [.fr (.str x),.ob aC fs,.fr (.lst (rows.map D.str)),s3,s4,.no] = .ok (.fr r):=fun m F r hm e hn=>by
     show (if aC=aC/\fs.lookup m=none then _ else _)=_;rw[if_pos ⟨rfl,hm⟩];show ((c7 F [Ni aC fs]).bind _)=_
     have z:c7 F [Ni aC fs] = .ok r:=by unfold c7;rw[e]
     rw[z];show (if _∨r.nl=true then _ else _)=_;rw[if_pos (.inr hn)]
    have fin:∀ b,gM aC [Ni aC fs] = .ok (.bl b)->qe (aN (Es aC "may_end" (c7 (gM aC)) 1 (aB 1) aJ)) [.fr (.str x),.ob aC fs,.fr (.lst (rows.map D.str)),s3,s4,.no] = .ok (!b):=fun b e=>by
     show ((Es aC "may_end" (c7 (gM aC)) 1 (aB 1) aJ _).bind _).bind _=_;rw[em "may_end" _ _ hz.1 e rfl];rfl
    dsimp only[qAA,qAD]
    refine (nU (qi (JF (G:=G) rfl (aF 1) aK))) B3 H3 _ σ3 _ o3 ?_
    split at hw
    ·rename_i eb
     rw[fin true eb];intro B4 H4 o4 x4
     split at hw
     ·rename_i dW eW
      by_cases hn:dW.nl=true
      ·rw[if_pos hn]at hw
       have e9:az (Es aC "whole" (c7 (oG aC)) 1 (aB 1) aJ) [.fr (.str x),.ob aC fs,.fr (.lst (rows.map D.str)),s3,s4,.no] = .ok (.ret dW (some [.fr (.str x),.ob aC fs,.fr (.lst (rows.map D.str)),s3,s4,.no])):=by
        show ((Es aC "whole" (c7 (oG aC)) 1 (aB 1) aJ _).bind _)=_;rw[em "whole" _ _ hz.2 eW hn];rfl
       show qAB (Tu aC "whole" (dB K C (oG aC) 1) [] E0 (Gy 1) xG) _ σ3 H4;refine ao (G:=G) (JF rfl (aF 1) aK) B4 H4 _ σ3 _ o4 ?_;rw[e9];intro v B' H' s0 sb xs _ rp;have hw:∀ v B' H',bB H H'->bB B' H'->(∀ a o,B' a=some o->H a=none)->Rp K B' dW v->Q v H':=hw;exact hw v B' H' s0 sb (fun a o z=>((((x1.trans x2).trans x3).trans (x4.s o3)).trans xs).gr a o z |>.elim (fun q=>by cases q) id) rp
      ·rw[if_neg hn]at hw;exact hw.elim
     ·exact hw.elim
    ·rename_i eb
     rw[fin false eb];intro B4 H4 o4 x4;have hw:∀ H' dx,bB H H'->H dx=none->H' dx=some (.xd [("row",.int ((rows.length:Int)+1))])->E (.ref CU) (some dx) H':=hw
     have e9:aA (aL bM (cW bD (aA (aB 2) aJ)) (fC (.int 1))) aJ [.fr (.str x),.ob aC fs,.fr (.lst (rows.map D.str)),s3,s4,.no] = .ok [.fr (.int ((rows.length:Int)+1))]:=by
      show Rz.ok [W.fr (D.int (((rows.map D.str).length:Int)+1))]=_;rw[jH]
     show Pa CU (Js CU) [] E (uJ (X3 (Jw K) (tCB (Fv K) (uJ (Gy 2) xG)) (tC (V.int 1))) xG) { nx:=fun _ _=>True,rt:=fun _ _=>True } σ3 H4;refine aD (G:=G) (aH bz (bu cD (aD (aF 2) aK)) aG) aK B4 H4 _ σ3 _ o4 ?_;rw[e9];rintro vs5 B5 H5 o5 x5 ⟨v5,us5,rfl,rv5,rfl⟩
     cases (show v5=V.int ((rows.length:Int)+1) from rv5)
     refine⟨(by rw[sizeLine_eq];exact (by decide:1<=16777216)),fun e6 h6=>⟨e6,(rows.length:Int)+1,rfl,zC,Vd (rows.length+1) (by omega),fun EY hdx hde=>?_⟩⟩
     have zd:H5 EY=none:=by rw[zQ hde]at hdx;exact hdx
     refine⟨rfl,some EY,zC,hw _ EY (fun b u z=>?_) (o5.s0.free zd) (by rw[jf hde,zQ hde,zC])⟩;have zb:=o5.s0 b u z
     have b6:b≠e6:=fun q=>by rw[q,h6]at zb;cases zb
     rw[jf b6,zQ b6,zQ (fun q=>by rw[q,zd]at zb;cases zb),zQ b6];exact zb
    ·exact hw.elim
   ·rw[if_neg hz]at hw;exact hw.elim
 ·rw[if_neg hc]at h;exact h.elim
noncomputable def law_read_F(aC:Addr):List D->Rz D
 | [.str x]=>(match jU aC x with
  | .ok d=>.ok (.tup [d,.int 0])
  | .un n=>.ok (.tup [.non,.int n])
  | .st=>.st)
 | _=>.st
theorem law_read_arg{aC:Addr}{ds:List D}(h:law_read_F aC ds≠.st):∃ x,ds=[.str x]:=by
 match ds with
 | [.str x]=>exact⟨x,rfl⟩
 | []=>exact (h rfl).elim
 | [.non] | [.bl _] | [.int _] | [.tup _] | [.lst _] | [.d8 _] | [.obj _ _]=>exact (h rfl).elim
 | _::_::_=>exact (h (by unfold law_read_F;split <;> rename_i z <;> first | (cases z) | rfl)).elim
theorem jC:aq ["_law_text","_law_found","_law_row","e"] ["_law_text"] (aP vR):=o9
theorem K6{n:Nat}{C CU aC f qBQ:Addr}{fd qBX:FuncData}(F:jJ K "_law_read" "_law_read" vR f fd)
  (Jf:Dp P w K mg base (lB P w) n qBQ qBX ["text"] (U7 K CU (jU aC)) "read")
  (wB:mg "Unread" = some (.ref CU)) (xm:PySem.W.exmOne K (.ref CU) (.ref CU)=some true) (qU:Wh K CU) (sU:Jd K CU "row") :
  bc P w K mg base dw (n+1) f fd ["_law_text"] (dB K C (law_read_F aC) 1):=by
 refine F.ok jC (fun vs H Q E h=>h.1) fun cdv A outer s H vs Q E hr h=>?_
 refine⟨_,(zE (zJ (i:=1) jC.nd rfl (Or.inl rfl) CJ)
  (zE (zJ (i:=2) jC.nd rfl (Or.inl rfl) zB)
  (zE (Uj (i:=3) (XX (i:=1) jC.nd rfl (Or.inl rfl) (Up Jf.G hr rfl Jf.m Jf.k Jf.b .nil (zA (pv 0) zD))) rfl wB jC.nd rfl rfl
   (fun _=>(zF (zJ (i:=2) jC.nd rfl (Or.inl rfl) (show PE _ _ (ZL K (Gy 3) "row") from Xc (pv 3) rfl)))))
  (zF (zO (zV (zA (pv 1) (zA (pv 2) zD)))))))),?_⟩
 obtain⟨hl,B,ds,sb,rl,q⟩:=h;obtain⟨x,rfl⟩:=law_read_arg (aC:=aC) (ds:=ds) (fun z=>by rw[z]at q;exact q);obtain⟨v,us,rfl,rv,rfl⟩:=rl
 cases (show v=V.str x from rv)
 refine⟨.str x,rfl,x,rfl,?_⟩
 have z2:2<=sizeLine:=by rw[sizeLine_eq];decide
 cases e:jU aC x with
 | st=>
  have z:law_read_F aC [.str x] = .st:=by show (match jU aC x with | .ok d=>Rz.ok (D.tup [d,.int 0]) | .un n=>.ok (.tup [.non,.int n]) | .st=>.st)=_;rw[e]
  rw[z]at q;exact q
 | ok d=>
  have z:law_read_F aC [.str x] = .ok (.tup [d,.int 0]):=by show (match jU aC x with | .ok d=>Rz.ok (D.tup [d,.int 0]) | .un n=>.ok (.tup [.non,.int n]) | .st=>.st)=_;rw[e]
  rw[z]at q;intro v B' H' s1 TV gr rp;refine⟨v,rfl,.int 0,rfl,z2,fun p hp=>?_⟩
  let U:Hp:=fun a=>(B' a).or (B a)
  have u1:bB B U:=fun a o h=>by
   have h1:=sb _ _ h
   have h2:B' a=none:=by
    cases e2:B' a with
    | none=>rfl
    | some o2=>rw[gr a o2 e2]at h1;cases h1
   show (B' a).or (B a)=_;rw[h2,h];rfl
  have u2:bB B' U:=fun a o h=>by
   show (B' a).or (B a)=_;rw[h];rfl
  have u3:bB U H':=fun a o h=>by
   have h:(B' a).or (B a)=some o:=h
   cases e2:B' a with
   | none=>rw[e2]at h;exact s1 _ _ (sb _ _ h)
   | some o2=>rw[e2]at h;cases h;exact TV _ _ e2
  have up:U p=none:=u3.free hp;refine q _ (upd U p (.tup [v,.int 0])) _ (fun a o h=>?_) (fun a o h=>?_) (fun a o h=>?_) (fun a o h=>?_) ⟨p,_,rfl,.inl (.inl zC),v,_,rfl,rp.mono fun a o h=>?_,_,_,rfl,rfl,rfl⟩
  ·rw[zQ (zM (s1 _ _ h) hp)];exact s1 _ _ h
  ·rw[zQ (zM (u1 _ _ h) up)];exact u1 _ _ h
  ·by_cases c:a=p
   ·rw[c,zC]at h ⊢;exact h
   ·rw[zQ c]at h ⊢;exact u3 _ _ h
  ·by_cases c:a=p
   ·rw[c];exact .inr (s1.free hp)
   ·rw[zQ c]at h;have h:(B' a).or (B a)=some o:=h
    cases e2:B' a with
    | none=>rw[e2]at h;exact .inl h
    | some o2=>exact .inr (gr a o2 e2)
  ·rw[zQ (zM (u2 _ _ h) up)];exact u2 _ _ h
 | un n=>
  have z:law_read_F aC [.str x] = .ok (.tup [.non,.int n]):=by show (match jU aC x with | .ok d=>Rz.ok (D.tup [d,.int 0]) | .un n=>.ok (.tup [.non,.int n]) | .st=>.st)=_;rw[e]
  rw[z]at q;intro H' dx s1 hdx e1;refine⟨CU,rfl,xm,fun ea hea=>?_⟩
  have ne:dx≠ea:=fun z=>by rw[z,hea]at e1;cases e1
  refine⟨.ref ea,rfl,ea,CU,dx,_,.int n,rfl,zC,qU,sU,(by rw[zQ ne];exact e1),rfl,?_⟩;refine⟨.non,rfl,.int n,rfl,z2,fun p hp=>?_⟩
  have s2:bB H (upd H' ea (Od ea CU (some dx))):=fun a o h=>by
   rw[zQ (zM (s1 _ _ h) hea)];exact s1 _ _ h
  have bp:B p=none:=(sb.trans s2).free hp;refine q _ (upd B p (.tup [.non,.int n])) _ (fun a o h=>?_) (fun a o h=>?_) (fun a o h=>?_) (fun a o h=>?_) ⟨p,_,rfl,.inl (.inl zC),_,_,rfl,rfl,_,_,rfl,rfl,rfl⟩
  ·rw[zQ (zM (s2 _ _ h) hp)];exact s2 _ _ h
  ·rw[zQ (zM h bp)];exact h
  ·by_cases c:a=p
   ·rw[c,zC]at h ⊢;exact h
   ·rw[zQ c]at h ⊢;exact (sb.trans s2) _ _ h
  ·by_cases c:a=p
   ·rw[c];exact .inr (s2.free hp)
   ·rw[zQ c]at h;exact .inl h
noncomputable def pA:FS:=
 (aX (cz (aN (aL (bh false) (cW bD (aA (aB 0) aJ)) (fC (.int 0))))
   (az (fC (.int 0)))
   bO)
  (az (aL aj (aB 0) (aL cC (aB 1) (cW bD (aA (aB 0) aJ))))))
noncomputable def law_cell_at_F:List D->Rz D:=eG 2 (pA)
theorem Bk:aq ["_law_script","_law_k"] ["_law_script","_law_k"] (aP Pr):=o9
theorem CV{n:Nat}{C f:Addr}{fd:FuncData}(F:jJ K "_law_cell_at" "_law_cell_at" Pr f fd)(bR:mg "len" = none) :
  bc P w K mg base dw (n+1) f fd ["_law_script","_law_k"] (dB K C (law_cell_at_F) 2):=
 uY F Bk fun cdv A outer s H E hr=>⟨_,
  (zE (yB (qK hr.units (rP rfl bR (pv 0)) zB)
  (zF (zO zB))
  zT)
  (zF (zO (cg (pv 0) (yA zX (pv 1) (rP rfl bR (pv 0))) (fun _ _=>rfl))))),
  (aQ (bY (aY (aH bG (bu cD (aD (aF 0) aK)) aG))
   (ao aG)
   bC)
  (ao (aH aU (aF 0) (aH (d9 (fun _ _ h=>of_decide_eq_true h) fun _ _ _ _=>rfl) (aF 1) (bu cD (aD (aF 0) aK))))))⟩
noncomputable def sS:FS:=
 (aX (aR 3 (aO (c7 law_cell_at_F) 2 (aA (aB 0) (aA (aB 1) aJ))))
  (aX (aR 4 (aL jn (aB 1) (cW wA (aA (fC (.int 1)) (aA (cW bD (aA (aB 0) aJ)) aJ)))))
  (aX (aR 5 (aL bM (aL bM (aL bM (aL Yy (aB 3) (fC (.int 2147483647))) (aL nF (aL nF (fC (.int 4001)) (aB 1)) (aB 1))) (aL nF (aL nF (fC (.int 9001)) (aB 2)) (aB 2))) (fC (.int 17))))
  (aX (aR 5 (aL cC (aL nF (aB 5) (fC (.int 16807))) (fC (.int 2147483647))))
  (az (aL Yy (aL bM (aL qCK (aB 3) (aL nF (fC (.int 31)) (aL bM (aB 2) (aL nF (fC (.int 128)) (aB 4))))) (aL cC (aL nF (aB 5) (aB 5)) (fC (.int 2147483579)))) (fC (.int 2147483647))))))))
noncomputable def law_mixed_F:List D->Rz D:=eG 6 (sS)
theorem jL:aq ["_law_script","_law_k","_law_salt","_law_cell","_law_lap","_law_near"] ["_law_script","_law_k","_law_salt"] (aP HX):=o9
theorem Hk{n:Nat}{C f Er:Addr}{fd Ez:FuncData}(F:jJ K "_law_mixed" "_law_mixed" HX f fd)
  (FZ:Dp P w K mg base dw n Er Ez ["_law_script","_law_k"] (dB K C law_cell_at_F 2) "_law_cell_at") (bR:mg "len" = none) (zg:mg "max" = none) :
  bc P w K mg base dw (n+1) f fd ["_law_script","_law_k","_law_salt"] (dB K C (law_mixed_F) 3):=
 uY F jL fun cdv A outer s H E hr=>⟨_,
  (zE (zJ (i:=3) jL.nd rfl (Or.inl rfl) (pC FZ hr (zA (pv 0) (zA (pv 1) zD))))
  (zE (zJ (i:=4) jL.nd rfl (Or.inl rfl) (yA yI (pv 1) (zS (tu rfl) rfl zg PyProof.Rows.boot_max (zA zB (zA (rP rfl bR (pv 0)) zD)))))
  (zE (zJ (i:=5) jL.nd rfl (Or.inl rfl) (qT (qT (qT (yA Uu (pv 3) zB) (yA (r:=rC K) kh (yA (r:=rC K) kh zB (pv 1)) (pv 1))) (yA (r:=rC K) kh (yA (r:=rC K) kh zB (pv 2)) (pv 2))) zB))
  (zE (zJ (i:=5) jL.nd rfl (Or.inl rfl) (yA zX (yA (r:=rC K) kh (pv 5) zB) zB))
  (zF (zO (yA Uu (qT (yA qAV (pv 3) (yA (r:=rC K) kh zB (qT (pv 2) (yA (r:=rC K) kh zB (pv 4))))) (yA zX (yA (r:=rC K) kh (pv 5) (pv 5)) zB)) zB))))))),
  (aQ (ak (aW rfl (aD (aF 0) (aD (aF 1) aK))))
  (aQ (ak (aH (d9 (fun _ _ h=>of_decide_eq_true h) fun _ _ _ _=>rfl) (aF 1) (bu BZ (aD aG (aD (bu cD (aD (aF 0) aK)) aK)))))
  (aQ (ak (aH bz (aH bz (aH bz (aH (di fun _ _ _ _=>rfl) (aF 3) aG) (aH oh (aH oh aG (aF 1)) (aF 1))) (aH oh (aH oh aG (aF 2)) (aF 2))) aG))
  (aQ (ak (aH (d9 (fun _ _ h=>of_decide_eq_true h) fun _ _ _ _=>rfl) (aH oh (aF 5) aG) aG))
  (ao (aH (di fun _ _ _ _=>rfl) (aH bz (aH (d9 (fun _ _ h=>of_decide_eq_true h) fun _ _ _ _=>rfl) (aF 3) (aH oh aG (aH bz (aF 2) (aH oh aG (aF 4))))) (aH (d9 (fun _ _ h=>of_decide_eq_true h) fun _ _ _ _=>rfl) (aH oh (aF 5) (aF 5)) aG)) aG))))))⟩
noncomputable def O2:FS:=
 (aX (aR 2 (aL aj (fH (aA (fC (.str "")) (aA (fC (.str "in")) (aA (fC (.str "plain")) (aA (fC (.str "keepskeeps")) aJ))))) (aL cC (aB 1) (fC (.int 4)))))
  (aX (aR 3 (aL cC (aL jn (aB 1) (fC (.int 4))) (aL bM (cW bD (aA (aB 2) aJ)) (fC (.int 1)))))
  (az (aL bM (aL bM (aL bM (J7 (aB 2) J8 (jd (aB 3))) (aL aj (fC (.str "abcdefghijklmnopqrstuvwxyz")) (aL cC (aB 0) (fC (.int 26))))) (aL aj (fC (.str "mn")) (aL jn (aB 0) (fC (.int 26))))) (J7 (aB 2) (jd (aB 3)) J8)))))
noncomputable def law_name_F:List D->Rz D:=eG 4 (O2)
theorem rZ:aq ["_law_k","_law_number","_law_stem","_law_at"] ["_law_k","_law_number"] (aP vU):=o9
theorem K7{n:Nat}{C f:Addr}{fd:FuncData}(F:jJ K "_law_name" "_law_name" vU f fd)(bR:mg "len" = none) :
  bc P w K mg base dw (n+1) f fd ["_law_k","_law_number"] (dB K C (law_name_F) 2):=
 uY F rZ fun cdv A outer s H E hr=>⟨_,
  (zE (zJ (i:=2) rZ.nd rfl (Or.inl rfl) (cg (yH (zA zP (zA zP (zA zP (zA zP zD))))) (yA zX (pv 1) zB) (fun _ _=>rfl)))
  (zE (zJ (i:=3) rZ.nd rfl (Or.inl rfl) (yA zX (yA yI (pv 1) zB) (qT (rP rfl bR (pv 2)) zB)))
  (zF (zO (qT (qT (qT (jX (r:=Bv K) HF (pv 2) mH (mG (pv 3))) (cg zP (yA zX (pv 0) zB) (fun _ _=>rfl))) (cg zP (yA yI (pv 0) zB) (fun _ _=>rfl))) (jX (r:=Bv K) HF (pv 2) (mG (pv 3)) mH)))))),
  (aQ (ak (aH aU (fJ (aD aV (aD aV (aD aV (aD aV aK))))) (aH (d9 (fun _ _ h=>of_decide_eq_true h) fun _ _ _ _=>rfl) (aF 1) aG)))
  (aQ (ak (aH (d9 (fun _ _ h=>of_decide_eq_true h) fun _ _ _ _=>rfl) (aH (d9 (fun _ _ h=>of_decide_eq_true h) fun _ _ _ _=>rfl) (aF 1) aG) (aH bz (bu cD (aD (aF 2) aK)) aG)))
  (ao (aH bz (aH bz (aH bz (jg (aF 2) wQ (mQ (aF 3))) (aH aU aV (aH (d9 (fun _ _ h=>of_decide_eq_true h) fun _ _ _ _=>rfl) (aF 0) aG))) (aH aU aV (aH (d9 (fun _ _ h=>of_decide_eq_true h) fun _ _ _ _=>rfl) (aF 0) aG))) (jg (aF 2) (mQ (aF 3)) wQ)))))⟩
noncomputable def sV:FS:=
 (aX (cz (mO (aN (aL (bh false) (aL cC (aB 0) (fC (.int 8))) (fC (.int 0)))) (aN (aL pY (cW bD (aA (aB 1) aJ)) (fC (.int 0)))))
   (az (aL cC (aL jn (aB 0) (fC (.int 8))) (aL bM (aL aj (aL aj (aB 1) (vB j9 (fC (.int 1)))) (fC (.int 1))) (fC (.int 4)))))
   bO)
  (aX (cz (aN (aL (bh false) (cW bD (aA (aB 1) aJ)) (fC (.int 0))))
   (az (cW wA (aA (fC (.int 0)) (aA (aL lN (aL cC (aB 0) (fC (.int 24))) (fC (.int 22))) aJ))))
   bO)
  (aX (cz (aN (aL (bh true) (aL aj (aL aj (aB 1) (vB j9 (fC (.int 1)))) (fC (.int 0))) (fC (.str "plain"))))
   (az (aL bM (aL aj (aL aj (aB 1) (vB j9 (fC (.int 1)))) (fC (.int 1))) (fC (.int 1))))
   bO)
  (az (aL bM (fC (.int 1)) (aL cC (aL jn (aB 0) (fC (.int 8))) (cW wA (aA (fC (.int 1)) (aA (aL aj (aL aj (aB 1) (vB j9 (fC (.int 1)))) (fC (.int 1))) aJ)))))))))
noncomputable def law_depth_F:List D->Rz D:=eG 2 (sV)
theorem HQ:aq ["_law_number","_law_ahead"] ["_law_number","_law_ahead"] (aP tO):=o9
theorem Hn{n:Nat}{C f:Addr}{fd:FuncData}(F:jJ K "_law_depth" "_law_depth" tO f fd)(bR:mg "len" = none)(zg:mg "max" = none) :
  bc P w K mg base dw (n+1) f fd ["_law_number","_law_ahead"] (dB K C (law_depth_F) 2):=
 uY F HQ fun cdv A outer s H E hr=>⟨_,
  (zE (yB (PW.pt (pw_and (qK hr.units (yA zX (pv 0) zB) zB) (yK (zK jm (rP rfl bR (pv 1)) zB (zR _)))))
  (zF (zO (yA zX (yA yI (pv 0) zB) (qT (cg (cg (pv 1) (rD lL zB) (fun _ _=>rfl)) zB (fun _ _=>rfl)) zB))))
  zT)
  (zE (yB (qK hr.units (rP rfl bR (pv 1)) zB)
  (zF (zO (zS (tu rfl) rfl zg PyProof.Rows.boot_max (zA zB (zA (yA rn (yA zX (pv 0) zB) zB) zD)))))
  zT)
  (zE (yB (zK (r:=il K true) (iY hr.units) (cg (cg (pv 1) (rD lL zB) (fun _ _=>rfl)) zB (fun _ _=>rfl)) zP (zR _))
  (zF (zO (qT (cg (cg (pv 1) (rD lL zB) (fun _ _=>rfl)) zB (fun _ _=>rfl)) zB)))
  zT)
  (zF (zO (qT zB (yA zX (yA yI (pv 0) zB) (zS (tu rfl) rfl zg PyProof.Rows.boot_max (zA zB (zA (cg (cg (pv 1) (rD lL zB) (fun _ _=>rfl)) zB (fun _ _=>rfl)) zD)))))))))),
  (aQ (bY (qj (aY (aH bG (aH (d9 (fun _ _ h=>of_decide_eq_true h) fun _ _ _ _=>rfl) (aF 0) aG) aG)) (aY (aH (di fun _ _ _ _=>rfl) (bu cD (aD (aF 1) aK)) aG)))
   (ao (aH (d9 (fun _ _ h=>of_decide_eq_true h) fun _ _ _ _=>rfl) (aH (d9 (fun _ _ h=>of_decide_eq_true h) fun _ _ _ _=>rfl) (aF 0) aG) (aH bz (aH aU (aH aU (aF 1) (rH lM aG)) aG) aG)))
   bC)
  (aQ (bY (aY (aH bG (bu cD (aD (aF 1) aK)) aG))
   (ao (bu BZ (aD aG (aD (aH (di fun _ _ _ _=>rfl) (aH (d9 (fun _ _ h=>of_decide_eq_true h) fun _ _ _ _=>rfl) (aF 0) aG) aG) aK))))
   bC)
  (aQ (bY (aY (aH bG (aH aU (aH aU (aF 1) (rH lM aG)) aG) aV))
   (ao (aH bz (aH aU (aH aU (aF 1) (rH lM aG)) aG) aG))
   bC)
  (ao (aH bz aG (aH (d9 (fun _ _ h=>of_decide_eq_true h) fun _ _ _ _=>rfl) (aH (d9 (fun _ _ h=>of_decide_eq_true h) fun _ _ _ _=>rfl) (aF 0) aG) (bu BZ (aD aG (aD (aH aU (aH aU (aF 1) (rH lM aG)) aG) aK)))))))))⟩
noncomputable def uf:FS:=
 (aX (aR 2 (aL aj (aL aj (aB 0) (aB 1)) (fC (.int 1))))
  (aX (cz (lq (aN (aL pY (aB 2) (fC (.int 12)))) (aN (aL (bh false) (aB 1) (fC (.int 40)))))
   (az (fC (.bl false)))
   bO)
  (aX (cz (aN (aL (bh false) (aB 1) (fC (.int 0))))
   (az (aL (bh false) (aB 2) (fC (.int 0))))
   bO)
  (aX (cz (aN (aL (bh false) (aL aj (aL aj (aB 0) (aL lN (aB 1) (fC (.int 1)))) (fC (.int 0))) (fC (.str "plain"))))
   (az (qD zq zq (fC (.int 1)) (aB 2) (aL aj (aL aj (aB 0) (aL lN (aB 1) (fC (.int 1)))) (fC (.int 1)))))
   bO)
  (az (aL (bh false) (aB 2) (aL bM (aL aj (aL aj (aB 0) (aL lN (aB 1) (fC (.int 1)))) (fC (.int 1))) (fC (.int 1)))))))))
noncomputable def law_fits_F:List D->Rz D:=eG 3 (uf)
theorem za:aq ["_law_halls_here","_law_k","_law_depth_here"] ["_law_halls_here","_law_k"] (aP vV):=o9
theorem K8{n:Nat}{C f:Addr}{fd:FuncData}(F:jJ K "_law_fits" "_law_fits" vV f fd) :
  bc P w K mg base dw (n+1) f fd ["_law_halls_here","_law_k"] (dB K C (law_fits_F) 2):=
 uY F za fun cdv A outer s H E hr=>⟨_,
  (zE (zJ (i:=2) za.nd rfl (Or.inl rfl) (cg (cg (pv 0) (pv 1) (fun _ _=>rfl)) zB (fun _ _=>rfl)))
  (zE (yB (PW.pt (pw_or (zK jm (pv 2) zB (zR _)) (pw_or1 (qK hr.units (pv 1) zB))))
  (zF (zO rE))
  zT)
  (zE (yB (qK hr.units (pv 1) zB)
  (zF (zO (bQ (r:=il K false) (ju hr.units) (pv 2) zB (zR _))))
  zT)
  (zE (yB (qK hr.units (cg (cg (pv 0) (yA rn (pv 1) zB) (fun _ _=>rfl)) zB (fun _ _=>rfl)) zP)
  (zF (zO (lE oO oO zB (pv 2) (cg (cg (pv 0) (yA rn (pv 1) zB) (fun _ _=>rfl)) zB (fun _ _=>rfl)))))
  zT)
  (zF (zO (bQ (r:=il K false) (ju hr.units) (pv 2) (qT (cg (cg (pv 0) (yA rn (pv 1) zB) (fun _ _=>rfl)) zB (fun _ _=>rfl)) zB) (zR _)))))))),
  (aQ (ak (aH aU (aH aU (aF 0) (aF 1)) aG))
  (aQ (bY (nT (aY (aH (di fun _ _ _ _=>rfl) (aF 2) aG)) (aY (aH bG (aF 1) aG)))
   (ao rK)
   bC)
  (aQ (bY (aY (aH bG (aF 1) aG))
   (ao (aH bG (aF 2) aG))
   bC)
  (aQ (bY (aY (aH bG (aH aU (aH aU (aF 0) (aH (di fun _ _ _ _=>rfl) (aF 1) aG)) aG) aV))
   (ao (t6 (di fun _ _ _ _=>rfl) (di fun _ _ _ _=>rfl) aG (aF 2) (aH aU (aH aU (aF 0) (aH (di fun _ _ _ _=>rfl) (aF 1) aG)) aG)))
   bC)
  (ao (aH bG (aF 2) (aH bz (aH aU (aH aU (aF 0) (aH (di fun _ _ _ _=>rfl) (aF 1) aG)) aG) aG)))))))⟩
noncomputable def xq:FS:=
 (aX (aR 2 (fC (.int 0)))
  (aX (aR 3 (fC (.int 0)))
  (aX (qR (iU (aA (cW bD (aA (aB 1) aJ)) aJ)) (bN 4)
   (cz (aN (aL (bh false) (aL aj (aL aj (aB 1) (aB 4)) (fC (.int 0))) (fC (.str "room"))))
   (aX (cz (lq (aN (aL pY (aB 3) (fC (.int 0)))) (qe (aN (aO (c7 law_fits_F) 2 (aA (aB 0) (aA (aL aj (aL aj (aB 1) (aB 4)) (fC (.int 1))) aJ))))))
    (az (aL bM (aB 4) (fC (.int 1))))
    bO)
   (aR 2 (aL bM (aB 2) (fC (.int 1)))))
   (aX (cz (lq (aN (aL (bh false) (aB 2) (fC (.int 0)))) (lq (aN (aL (bh true) (aL aj (aL aj (aB 0) (aL lN (aB 2) (fC (.int 1)))) (fC (.int 0))) (fC (.str "plain")))) (lq (aN (aL (bh false) (aB 3) (fC (.int 60)))) (aN (aL geD (aL aj (aL aj (aB 1) (aB 4)) (fC (.int 1))) (aB 2))))))
    (az (aL bM (aB 4) (fC (.int 1))))
    bO)
   (aR 3 (aL bM (aB 3) (fC (.int 1)))))))
  (aX (cz (lq (aN (aL (bh false) (aB 2) (fC (.int 0)))) (aN (aL (bh true) (aL aj (aL aj (aB 0) (aL lN (aB 2) (fC (.int 1)))) (fC (.int 0))) (fC (.str "plain")))))
   (az (aL bM (cW bD (aA (aB 1) aJ)) (fC (.int 1))))
   bO)
  (az (fC (.int 0)))))))
noncomputable def law_due_F:List D->Rz D:=eG 5 (xq)
theorem jr:aq ["_law_halls_here","_law_entries_here","_law_rooms","_law_doors","_law_k"] ["_law_halls_here","_law_entries_here"] (aP Pn):=o9
theorem Nf{n:Nat}{C f O8:Addr}{fd Oo:FuncData}(F:jJ K "_law_due" "_law_due" Pn f fd)
  (PL:Dp P w K mg base dw n O8 Oo ["_law_halls_here","_law_k"] (dB K C law_fits_F 2) "_law_fits") (bR:mg "len" = none) (kj:mg "range" = none) :
  bc P w K mg base dw (n+1) f fd ["_law_halls_here","_law_entries_here"] (dB K C (law_due_F) 2):=
 uY F jr fun cdv A outer s H E hr=>⟨_,
  (zE (zJ (i:=2) jr.nd rfl (Or.inl rfl) zB)
  (zE (zJ (i:=3) jr.nd rfl (Or.inl rfl) zB)
  (zE (uT PassesOwn.never rfl (mW rfl kj (zA (rP rfl bR (pv 1)) zD)) (yG (i:=4) jr.nd rfl (Or.inl rfl))
  (zF (yB (qK hr.units (cg (cg (pv 1) (pv 4) (fun _ _=>rfl)) zB (fun _ _=>rfl)) zP)
  (zE (yB (PW.pt (pw_or (zK jm (pv 3) zB (zR _)) (pw_or1 (my (fY (pC PL hr (zA (pv 0) (zA (cg (cg (pv 1) (pv 4) (fun _ _=>rfl)) zB (fun _ _=>rfl)) zD))))))))
  (zF (zO (qT (pv 4) zB)))
  zT)
  (zF (zJ (i:=2) jr.nd rfl (Or.inl rfl) (qT (pv 2) zB))))
  (zE (yB (PW.pt (pw_or (qK hr.units (pv 2) zB) (pw_or (zK (r:=il K true) (iY hr.units) (cg (cg (pv 0) (yA rn (pv 2) zB) (fun _ _=>rfl)) zB (fun _ _=>rfl)) zP (zR _)) (pw_or (qK hr.units (pv 3) zB) (pw_or1 (zK qCY (cg (cg (pv 1) (pv 4) (fun _ _=>rfl)) zB (fun _ _=>rfl)) (pv 2) (zR _)))))))
  (zF (zO (qT (pv 4) zB)))
  zT)
  (zF (zJ (i:=3) jr.nd rfl (Or.inl rfl) (qT (pv 3) zB)))))))
  (zE (yB (PW.pt (pw_or (qK hr.units (pv 2) zB) (pw_or1 (zK (r:=il K true) (iY hr.units) (cg (cg (pv 0) (yA rn (pv 2) zB) (fun _ _=>rfl)) zB (fun _ _=>rfl)) zP (zR _)))))
  (zF (zO (qT (rP rfl bR (pv 1)) zB)))
  zT)
  (zF (zO zB)))))),
  (aQ (ak aG)
  (aQ (ak aG)
  (aQ (yU (tX (aD (bu cD (aD (aF 1) aK)) aK)) W2
   (bY (aY (aH bG (aH aU (aH aU (aF 1) (aF 4)) aG) aV))
   (aQ (bY (nT (aY (aH (di fun _ _ _ _=>rfl) (aF 3) aG)) (nU (qi (aW rfl (aD (aF 0) (aD (aH aU (aH aU (aF 1) (aF 4)) aG) aK))))))
    (ao (aH bz (aF 4) aG))
    bC)
   (ak (aH bz (aF 2) aG)))
   (aQ (bY (nT (aY (aH bG (aF 2) aG)) (nT (aY (aH bG (aH aU (aH aU (aF 0) (aH (di fun _ _ _ _=>rfl) (aF 2) aG)) aG) aV)) (nT (aY (aH bG (aF 3) aG)) (aY (aH (di fun _ _ _ _=>rfl) (aH aU (aH aU (aF 1) (aF 4)) aG) (aF 2))))))
    (ao (aH bz (aF 4) aG))
    bC)
   (ak (aH bz (aF 3) aG)))))
  (aQ (bY (nT (aY (aH bG (aF 2) aG)) (aY (aH bG (aH aU (aH aU (aF 0) (aH (di fun _ _ _ _=>rfl) (aF 2) aG)) aG) aV)))
   (ao (aH bz (bu cD (aD (aF 1) aK)) aG))
   bC)
  (ao aG)))))⟩
noncomputable def Ko:FS:=
 (aX (aR 1 (aL bM (fC (.int 1)) (aL cC (aO (c7 law_mixed_F) 3 (aA (aB 0) (aA (fC (.int 0)) (aA (fC (.int 1)) aJ)))) (fC (.int 12)))))
  (aX (aR 2 (aL cC (aO (c7 law_mixed_F) 3 (aA (aB 0) (aA (fC (.int 0)) (aA (fC (.int 2)) aJ)))) (fC (.int 6))))
  (aX (cz (aN (aL (bh false) (aB 2) (fC (.int 1))))
   (aR 1 (aL aj (fH (aA (aL bM (fC (.int 13)) (aL cC (aO (c7 law_mixed_F) 3 (aA (aB 0) (aA (fC (.int 0)) (aA (fC (.int 3)) aJ)))) (fC (.int 27)))) (aA (fC (.int 40)) (aA (fC (.int 41)) (aA (fC (.int 42)) aJ))))) (aL cC (aO (c7 law_mixed_F) 3 (aA (aB 0) (aA (fC (.int 0)) (aA (fC (.int 13)) aJ)))) (fC (.int 4)))))
   bO)
  (aX (cz (aN (aL (bh false) (aB 2) (fC (.int 2))))
   (aR 1 (aL bM (fC (.int 11)) (aL cC (aO (c7 law_mixed_F) 3 (aA (aB 0) (aA (fC (.int 0)) (aA (fC (.int 3)) aJ)))) (fC (.int 5)))))
   bO)
  (aX (Mx 3 (fH aJ))
  (aX (qR (iU (aA (aB 1) aJ)) (bN 4)
   (aX (aR 5 (aO (c7 law_mixed_F) 3 (aA (aB 0) (aA (aB 4) (aA (fC (.int 4)) aJ)))))
   (aX (aR 6 (aO (c7 law_depth_F) 2 (aA (aO (c7 law_mixed_F) 3 (aA (aB 0) (aA (aB 4) (aA (fC (.int 5)) aJ)))) (aA (aB 3) aJ))))
   (aX (cz (mO (aN (aL (bh true) (aL cC (aB 2) (fC (.int 3))) (fC (.int 0)))) (aN (aL pY (cW bD (aA (aB 3) aJ)) (fC (.int 0)))))
   (aX (aR 6 (aL bM (fC (.int 1)) (aL cC (aO (c7 law_mixed_F) 3 (aA (aB 0) (aA (aB 4) (aA (fC (.int 5)) aJ)))) (cW wA (aA (fC (.int 1)) (aA (aL aj (aL aj (aB 3) (vB j9 (fC (.int 1)))) (fC (.int 1))) aJ))))))
   (cz (aN (aL (bh true) (aL aj (aL aj (aB 3) (vB j9 (fC (.int 1)))) (fC (.int 0))) (fC (.str "plain"))))
    (aR 6 (aL bM (aL aj (aL aj (aB 3) (vB j9 (fC (.int 1)))) (fC (.int 1))) (fC (.int 1))))
    bO))
   bO)
   (aX (aR 7 (aL aj (fH (aA (fC (.str "one")) (aA (fC (.str "all")) (aA (fC (.str "plain")) (aA (fC (.str "plain")) (aA (fC (.str "one")) aJ)))))) (aL cC (aB 5) (fC (.int 5)))))
   (aX (cz (aN (aL (bh false) (aB 2) (fC (.int 2))))
   (aR 7 (aL aj (fH (aA (fC (.str "one")) (aA (fC (.str "all")) aJ))) (aL cC (aB 5) (fC (.int 2)))))
   bO)
   (aX (cz (mO (aN (aL (bh false) (aB 4) (fC (.int 0)))) (mO (aN (aL pY (aB 1) (fC (.int 1)))) (aN (aL pY (aL cC (aL jn (aB 5) (fC (.int 5))) (fC (.int 8))) (fC (.int 0))))))
   (aR 7 (aL aj (fH (aA (fC (.str "one")) (aA (fC (.str "all")) aJ))) (aL cC (aB 5) (fC (.int 2)))))
   (cz (lq (mO (aN (aL (bh false) (aB 4) (aL lN (aB 1) (fC (.int 1))))) (aN (aL pY (aL cC (aL jn (aB 5) (fC (.int 5))) (fC (.int 6))) (fC (.int 0))))) (mO (aN (aL (bh false) (aB 2) (fC (.int 1)))) (mO (aN (aL pY (aB 4) (fC (.int 0)))) (aN (aL pY (aL cC (aL jn (aB 5) (fC (.int 5))) (fC (.int 8))) (fC (.int 1)))))))
    (aR 7 (fC (.str "plain")))
    bO))
   (HY 3 (cV (aA (aB 7) (aA (aB 6) aJ)))))))))))
  (az (aB 3))))))))
noncomputable def law_halls_F:List D->Rz D:=eG 8 (Ko)
theorem cB:aq ["_law_script","_law_many","_law_sort","_law_halls_here","_law_k","_law_number","_law_depth_here","_law_kind"] ["_law_script"] (aP tM):=o9
theorem Hm{n:Nat}{C f lF LC:Addr}{fd lH Lj:FuncData}(F:jJ K "_law_halls" "_law_halls" tM f fd)
  (cA:Dp P w K mg base dw n lF lH ["_law_script","_law_k","_law_salt"] (dB K C law_mixed_F 3) "_law_mixed")
  (M6:Dp P w K mg base dw n LC Lj ["_law_number","_law_ahead"] (dB K C law_depth_F 2) "_law_depth") (bR:mg "len" = none) (zg:mg "max" = none) (kj:mg "range" = none) :
  bc P w K mg base dw (n+1) f fd ["_law_script"] (dB K C (law_halls_F) 1):=
 uY F cB fun cdv A outer s H E hr=>⟨_,
  (zE (zJ (i:=1) cB.nd rfl (Or.inl rfl) (qT zB (yA zX (pC cA hr (zA (pv 0) (zA zB (zA zB zD)))) zB)))
  (zE (zJ (i:=2) cB.nd rfl (Or.inl rfl) (yA zX (pC cA hr (zA (pv 0) (zA zB (zA zB zD)))) zB))
  (zE (yB (qK hr.units (pv 2) zB)
  (zF (zJ (i:=1) cB.nd rfl (Or.inl rfl) (cg (yH (zA (qT zB (yA zX (pC cA hr (zA (pv 0) (zA zB (zA zB zD)))) zB)) (zA zB (zA zB (zA zB zD))))) (yA zX (pC cA hr (zA (pv 0) (zA zB (zA zB zD)))) zB) (fun _ _=>rfl))))
  zT)
  (zE (yB (qK hr.units (pv 2) zB)
  (zF (zJ (i:=1) cB.nd rfl (Or.inl rfl) (qT zB (yA zX (pC cA hr (zA (pv 0) (zA zB (zA zB zD)))) zB))))
  zT)
  (zE (zJ (i:=3) cB.nd rfl (Or.inl rfl) (yH zD))
  (zE (uT PassesOwn.never rfl (mW rfl kj (zA (pv 1) zD)) (yG (i:=4) cB.nd rfl (Or.inl rfl))
  (zE (zJ (i:=5) cB.nd rfl (Or.inl rfl) (pC cA hr (zA (pv 0) (zA (pv 4) (zA zB zD)))))
  (zE (zJ (i:=6) cB.nd rfl (Or.inl rfl) (pC M6 hr (zA (pC cA hr (zA (pv 0) (zA (pv 4) (zA zB zD)))) (zA (pv 3) zD))))
  (zE (yB (PW.pt (pw_and (zK (r:=il K true) (iY hr.units) (yA zX (pv 2) zB) zB (zR _)) (yK (zK jm (rP rfl bR (pv 3)) zB (zR _)))))
  (zE (zJ (i:=6) cB.nd rfl (Or.inl rfl) (qT zB (yA zX (pC cA hr (zA (pv 0) (zA (pv 4) (zA zB zD)))) (zS (tu rfl) rfl zg PyProof.Rows.boot_max (zA zB (zA (cg (cg (pv 3) (rD lL zB) (fun _ _=>rfl)) zB (fun _ _=>rfl)) zD))))))
  (zF (yB (zK (r:=il K true) (iY hr.units) (cg (cg (pv 3) (rD lL zB) (fun _ _=>rfl)) zB (fun _ _=>rfl)) zP (zR _))
  (zF (zJ (i:=6) cB.nd rfl (Or.inl rfl) (qT (cg (cg (pv 3) (rD lL zB) (fun _ _=>rfl)) zB (fun _ _=>rfl)) zB)))
  zT)))
  zT)
  (zE (zJ (i:=7) cB.nd rfl (Or.inl rfl) (cg (yH (zA zP (zA zP (zA zP (zA zP (zA zP zD)))))) (yA zX (pv 5) zB) (fun _ _=>rfl)))
  (zE (yB (qK hr.units (pv 2) zB)
  (zF (zJ (i:=7) cB.nd rfl (Or.inl rfl) (cg (yH (zA zP (zA zP zD))) (yA zX (pv 5) zB) (fun _ _=>rfl))))
  zT)
  (zE (yB (PW.pt (pw_and (qK hr.units (pv 4) zB) (pw_and (zK jm (pv 1) zB (zR _)) (yK (zK jm (yA zX (yA yI (pv 5) zB) zB) zB (zR _))))))
  (zF (zJ (i:=7) cB.nd rfl (Or.inl rfl) (cg (yH (zA zP (zA zP zD))) (yA zX (pv 5) zB) (fun _ _=>rfl))))
  (zF (yB (PW.pt (pw_or (PW.pt (pw_and (qK hr.units (pv 4) (yA rn (pv 1) zB)) (yK (zK jm (yA zX (yA yI (pv 5) zB) zB) zB (zR _))))) (pw_or1 (PW.pt (pw_and (qK hr.units (pv 2) zB) (pw_and (zK jm (pv 4) zB (zR _)) (yK (zK jm (yA zX (yA yI (pv 5) zB) zB) zB (zR _)))))))))
  (zF (zJ (i:=7) cB.nd rfl (Or.inl rfl) zP))
  zT)))
  (zF (yF (jY (r:=kZ) Jk MK MJ yE (pv 3) (zA (zV (zA (pv 7) (zA (pv 6) zD))) zD)))))))))))
  (zF (zO (pv 3))))))))),
  (aQ (ak (aH bz aG (aH (d9 (fun _ _ h=>of_decide_eq_true h) fun _ _ _ _=>rfl) (aW rfl (aD (aF 0) (aD aG (aD aG aK)))) aG)))
  (aQ (ak (aH (d9 (fun _ _ h=>of_decide_eq_true h) fun _ _ _ _=>rfl) (aW rfl (aD (aF 0) (aD aG (aD aG aK)))) aG))
  (aQ (bY (aY (aH bG (aF 2) aG))
   (ak (aH aU (fJ (aD (aH bz aG (aH (d9 (fun _ _ h=>of_decide_eq_true h) fun _ _ _ _=>rfl) (aW rfl (aD (aF 0) (aD aG (aD aG aK)))) aG)) (aD aG (aD aG (aD aG aK))))) (aH (d9 (fun _ _ h=>of_decide_eq_true h) fun _ _ _ _=>rfl) (aW rfl (aD (aF 0) (aD aG (aD aG aK)))) aG)))
   bC)
  (aQ (bY (aY (aH bG (aF 2) aG))
   (ak (aH bz aG (aH (d9 (fun _ _ h=>of_decide_eq_true h) fun _ _ _ _=>rfl) (aW rfl (aD (aF 0) (aD aG (aD aG aK)))) aG)))
   bC)
  (aQ (Oh (fJ aK))
  (aQ (yU (tX (aD (aF 1) aK)) W2
   (aQ (ak (aW rfl (aD (aF 0) (aD (aF 4) (aD aG aK)))))
   (aQ (ak (aW rfl (aD (aW rfl (aD (aF 0) (aD (aF 4) (aD aG aK)))) (aD (aF 3) aK))))
   (aQ (bY (qj (aY (aH bG (aH (d9 (fun _ _ h=>of_decide_eq_true h) fun _ _ _ _=>rfl) (aF 2) aG) aG)) (aY (aH (di fun _ _ _ _=>rfl) (bu cD (aD (aF 3) aK)) aG)))
   (aQ (ak (aH bz aG (aH (d9 (fun _ _ h=>of_decide_eq_true h) fun _ _ _ _=>rfl) (aW rfl (aD (aF 0) (aD (aF 4) (aD aG aK)))) (bu BZ (aD aG (aD (aH aU (aH aU (aF 3) (rH lM aG)) aG) aK))))))
   (bY (aY (aH bG (aH aU (aH aU (aF 3) (rH lM aG)) aG) aV))
    (ak (aH bz (aH aU (aH aU (aF 3) (rH lM aG)) aG) aG))
    bC))
   bC)
   (aQ (ak (aH aU (fJ (aD aV (aD aV (aD aV (aD aV (aD aV aK)))))) (aH (d9 (fun _ _ h=>of_decide_eq_true h) fun _ _ _ _=>rfl) (aF 5) aG)))
   (aQ (bY (aY (aH bG (aF 2) aG))
   (ak (aH aU (fJ (aD aV (aD aV aK))) (aH (d9 (fun _ _ h=>of_decide_eq_true h) fun _ _ _ _=>rfl) (aF 5) aG)))
   bC)
   (aQ (bY (qj (aY (aH bG (aF 4) aG)) (qj (aY (aH (di fun _ _ _ _=>rfl) (aF 1) aG)) (aY (aH (di fun _ _ _ _=>rfl) (aH (d9 (fun _ _ h=>of_decide_eq_true h) fun _ _ _ _=>rfl) (aH (d9 (fun _ _ h=>of_decide_eq_true h) fun _ _ _ _=>rfl) (aF 5) aG) aG) aG))))
   (ak (aH aU (fJ (aD aV (aD aV aK))) (aH (d9 (fun _ _ h=>of_decide_eq_true h) fun _ _ _ _=>rfl) (aF 5) aG)))
   (bY (nT (qj (aY (aH bG (aF 4) (aH (di fun _ _ _ _=>rfl) (aF 1) aG))) (aY (aH (di fun _ _ _ _=>rfl) (aH (d9 (fun _ _ h=>of_decide_eq_true h) fun _ _ _ _=>rfl) (aH (d9 (fun _ _ h=>of_decide_eq_true h) fun _ _ _ _=>rfl) (aF 5) aG) aG) aG))) (qj (aY (aH bG (aF 2) aG)) (qj (aY (aH (di fun _ _ _ _=>rfl) (aF 4) aG)) (aY (aH (di fun _ _ _ _=>rfl) (aH (d9 (fun _ _ h=>of_decide_eq_true h) fun _ _ _ _=>rfl) (aH (d9 (fun _ _ h=>of_decide_eq_true h) fun _ _ _ _=>rfl) (aF 5) aG) aG) aG)))))
    (ak aV)
    bC))
   (Oi (dD (aD (aF 7) (aD (aF 6) aK)))))))))))
  (ao (aF 3))))))))⟩
noncomputable def p8:FS:=
 (aX (aR 2 (aL cC (aO (c7 law_mixed_F) 3 (aA (aB 0) (aA (fC (.int 1)) (aA (fC (.int 6)) aJ)))) (fC (.int 4))))
  (aX (cz (aN (aL (bh false) (aL cC (aO (c7 law_mixed_F) 3 (aA (aB 0) (aA (fC (.int 1)) (aA (fC (.int 7)) aJ)))) (fC (.int 8))) (fC (.int 1))))
   (aR 2 (aL bM (fC (.int 58)) (aL cC (aO (c7 law_mixed_F) 3 (aA (aB 0) (aA (fC (.int 1)) (aA (fC (.int 8)) aJ)))) (fC (.int 5)))))
   bO)
  (aX (aR 3 (eX (iU (aA (cW bD (aA (aB 1) aJ)) aJ)) [] lU (cV (aA (fC (.str "room")) (aA (aB 0) aJ)))))
  (aX (aR 4 (eX (iU (aA (aB 2) aJ)) [(0,"_law_script"),(1,"_law_halls_here")] lU (cV (aA (fC (.str "door")) (aA (aL cC (aO (c7 law_mixed_F) 3 (aA (aB 1) (aA (aB 0) (aA (fC (.int 9)) aJ)))) (cW bD (aA (aB 2) aJ))) aJ)))))
  (aX (cz (aN (aL (bh false) (aL cC (aO (c7 law_mixed_F) 3 (aA (aB 0) (aA (fC (.int 1)) (aA (fC (.int 10)) aJ)))) (fC (.int 8))) (fC (.int 2))))
   (aX (aR 5 (aL cC (aO (c7 law_mixed_F) 3 (aA (aB 0) (aA (fC (.int 1)) (aA (fC (.int 11)) aJ)))) (aL bM (cW bD (aA (aB 1) aJ)) (fC (.int 1)))))
   (az (aL bM (aL bM (aL bM (J7 (aB 3) J8 (jd (aB 5))) (fH (aA (cV (aA (fC (.str "door")) (aA (fC (.int 0)) aJ))) aJ))) (J7 (aB 3) (jd (aB 5)) J8)) (aB 4))))
   bO)
  (az (aL bM (aB 3) (aB 4))))))))
noncomputable def law_entries_F:List D->Rz D:=eG 6 (p8)
theorem fO:aq ["_law_script","_law_halls_here","_law_count","_law_entries_here","_law_doors","_law_at"] ["_law_script","_law_halls_here"] (aP jD):=o9
theorem CT{n:Nat}{C f lF:Addr}{fd lH:FuncData}(F:jJ K "_law_entries" "_law_entries" jD f fd)
  (cA:Dp P w K mg base dw n lF lH ["_law_script","_law_k","_law_salt"] (dB K C law_mixed_F 3) "_law_mixed") (bR:mg "len" = none) (kj:mg "range" = none) :
  bc P w K mg base dw (n+1) f fd ["_law_script","_law_halls_here"] (dB K C (law_entries_F) 2):=
 uY F fO fun cdv A outer s H E hr=>⟨_,
  (zE (zJ (i:=2) fO.nd rfl (Or.inl rfl) (yA zX (pC cA hr (zA (pv 0) (zA zB (zA zB zD)))) zB))
  (zE (yB (qK hr.units (yA zX (pC cA hr (zA (pv 0) (zA zB (zA zB zD)))) zB) zB)
  (zF (zJ (i:=2) fO.nd rfl (Or.inl rfl) (qT zB (yA zX (pC cA hr (zA (pv 0) (zA zB (zA zB zD)))) zB))))
  zT)
  (zE (tQ (i:=3) (cG:=[]) rfl fO.nd rfl (Or.inl rfl) (show gR (aP jD) ["_law_script","_law_halls_here","_law_count","_law_entries_here","_law_doors","_law_at"] _ _ _ from Qc) (mW rfl kj (zA (rP rfl bR (pv 1)) zD)) (fun _ _ _ _ _ _=>ir) (fun _ _ _ _ _ _=>(zV (zA zP (zA (pv 0) zD)))))
  (zE (tQ (i:=4) (cG:=[(0,"_law_script"),(1,"_law_halls_here")]) rfl fO.nd rfl (Or.inl rfl) (show gR (aP jD) ["_law_script","_law_halls_here","_law_count","_law_entries_here","_law_doors","_law_at"] _ _ _ from Qc) (mW rfl kj (zA (pv 2) zD)) (fun _ _ _ _ _ _=>ir) (fun _ _ _ _ _ _=>(zV (zA zP (zA (yA zX (pC cA hr (zA (pv 1) (zA (pv 0) (zA zB zD)))) (zS (r:=Fv K) yf rfl bR qA6 (zA (pv 2) zD))) zD)))))
  (zE (yB (qK hr.units (yA zX (pC cA hr (zA (pv 0) (zA zB (zA zB zD)))) zB) zB)
  (zE (zJ (i:=5) fO.nd rfl (Or.inl rfl) (yA zX (pC cA hr (zA (pv 0) (zA zB (zA zB zD)))) (qT (rP rfl bR (pv 1)) zB)))
  (zF (zO (qT (qT (qT (jX (r:=Bv K) HF (pv 3) mH (mG (pv 5))) (yH (zA (zV (zA zP (zA zB zD))) zD))) (jX (r:=Bv K) HF (pv 3) (mG (pv 5)) mH)) (pv 4)))))
  zT)
  (zF (zO (qT (pv 3) (pv 4))))))))),
  (aQ (ak (aH (d9 (fun _ _ h=>of_decide_eq_true h) fun _ _ _ _=>rfl) (aW rfl (aD (aF 0) (aD aG (aD aG aK)))) aG))
  (aQ (bY (aY (aH bG (aH (d9 (fun _ _ h=>of_decide_eq_true h) fun _ _ _ _=>rfl) (aW rfl (aD (aF 0) (aD aG (aD aG aK)))) aG) aG))
   (ak (aH bz aG (aH (d9 (fun _ _ h=>of_decide_eq_true h) fun _ _ _ _=>rfl) (aW rfl (aD (aF 0) (aD aG (aD aG aK)))) aG)))
   bC)
  (aQ (ak (gY (tX (aD (bu cD (aD (aF 1) aK)) aK)) pG (dD (aD aV (aD (aF 0) aK)))))
  (aQ (ak (gY (tX (aD (aF 2) aK)) pG (dD (aD aV (aD (aH (d9 (fun _ _ h=>of_decide_eq_true h) fun _ _ _ _=>rfl) (aW rfl (aD (aF 1) (aD (aF 0) (aD aG aK)))) (bu cD (aD (aF 2) aK))) aK)))))
  (aQ (bY (aY (aH bG (aH (d9 (fun _ _ h=>of_decide_eq_true h) fun _ _ _ _=>rfl) (aW rfl (aD (aF 0) (aD aG (aD aG aK)))) aG) aG))
   (aQ (ak (aH (d9 (fun _ _ h=>of_decide_eq_true h) fun _ _ _ _=>rfl) (aW rfl (aD (aF 0) (aD aG (aD aG aK)))) (aH bz (bu cD (aD (aF 1) aK)) aG)))
   (ao (aH bz (aH bz (aH bz (jg (aF 3) wQ (mQ (aF 5))) (fJ (aD (dD (aD aV (aD aG aK))) aK))) (jg (aF 3) (mQ (aF 5)) wQ)) (aF 4))))
   bC)
  (ao (aH bz (aF 3) (aF 4))))))))⟩
noncomputable def sO:FS:=
 (aX (cz (lq (qe (aN (OJ "tuple" (aB 0)))) (lq (aN (aL (bh true) (cW bD (aA (aB 0) aJ)) (fC (.int 7)))) (lq (aN (aL (bh true) (aL aj (aB 0) (fC (.int 4))) (cV (aA (fC (.str "knock")) aJ)))) (aN (aL (bh true) (cW bD (aA (aL aj (aB 0) (fC (.int 5))) aJ)) (cW bD (aA (aB 1) aJ)))))))
   (az (fC (.bl false)))
   bO)
  (aX (qR (iU (aA (cW bD (aA (aB 1) aJ)) aJ)) (bN 4)
   (cz (aN (aL (bh true) (aL aj (aL aj (aB 0) (fC (.int 5))) (aB 4)) (cV (aA (aL aj (aB 3) (aB 4)) (aA (aL aj (aL aj (aB 1) (aB 4)) (fC (.int 0))) (aA (aL aj (aL aj (aB 1) (aB 4)) (fC (.int 1))) (aA (fC (.str "")) (aA (fC (.str "")) (aA (cV aJ) (aA (cV aJ) aJ))))))))))
   (az (fC (.bl false)))
   bO))
  (aX (aR 5 (eX (nQ false (aB 2)) [] (aN (aL (bh false) (aL aj (aB 0) (fC (.int 0))) (fC (.str "door")))) (cV (aA (aL aj (aB 0) (fC (.int 1))) (aA (fC (.int 0)) (aA (cV (aA (fC (.str "yes")) aJ)) (aA (cV aJ) (aA (fC (.str "stay")) (aA (fC .non) aJ)))))))))
  (az (dO (aL (bh false) (J7 (aB 0) J8 (jd (fC (.int 4)))) (cV (aA (fC (.str "outer")) (aA (fC (.int 1)) (aA (fC (.int 2)) (aA (cV aJ) aJ)))))) (aL (bh false) (aL aj (aB 0) (fC (.int 6))) (cW rW (aA (aB 5) aJ))))))))
noncomputable def law_right_F:List D->Rz D:=eG 6 (sO)
theorem qP:aq ["_law_found","_law_halls_here","_law_entries_here","_law_names","_law_k","_law_doors"] ["_law_found","_law_halls_here","_law_entries_here","_law_names"] (aP Bm):=o9
theorem Hj{n:Nat}{C f:Addr}{fd:FuncData}(F:jJ K "_law_right" "_law_right" Bm f fd)(mL:mg "isinstance" = none)(bR:mg "len" = none)(kj:mg "range" = none)(oR:mg "tuple" = none) :
  bc P w K mg base dw (n+1) f fd ["_law_found","_law_halls_here","_law_entries_here","_law_names"] (dB K C (law_right_F) 4):=
 uY F qP fun cdv A outer s H E hr=>⟨_,
  (zE (yB (PW.pt (pw_or (my (fY (zS (r:=R3 K "tuple") Dr rfl mL qA5 (zA (pv 0) (zA (Hf (v:=.ty "tuple") rfl oR MF rfl) zD))))) (pw_or (zK (r:=il K true) (iY hr.units) (rP rfl bR (pv 0)) zB (zR _)) (pw_or (zK (r:=il K true) (iY hr.units) (cg (pv 0) zB (fun _ _=>rfl)) (zV (zA zP zD)) (zR _)) (pw_or1 (zK (r:=il K true) (iY hr.units) (rP rfl bR (cg (pv 0) zB (fun _ _=>rfl))) (rP rfl bR (pv 1)) (zR _)))))))
  (zF (zO rE))
  zT)
  (zE (uT PassesOwn.never rfl (mW rfl kj (zA (rP rfl bR (pv 1)) zD)) (yG (i:=4) qP.nd rfl (Or.inl rfl))
  (zF (yB (zK (r:=il K true) (iY hr.units) (cg (cg (pv 0) zB (fun _ _=>rfl)) (pv 4) (fun _ _=>rfl)) (zV (zA (cg (pv 3) (pv 4) (fun _ _=>rfl)) (zA (cg (cg (pv 1) (pv 4) (fun _ _=>rfl)) zB (fun _ _=>rfl)) (zA (cg (cg (pv 1) (pv 4) (fun _ _=>rfl)) zB (fun _ _=>rfl)) (zA zP (zA zP (zA (zV zD) (zA (zV zD) zD)))))))) (zR _))
  (zF (zO rE))
  zT)))
  (zE (tQ (i:=5) (cG:=[]) rfl qP.nd rfl (Or.inl rfl) (show gR (aP Bm) ["_law_found","_law_halls_here","_law_entries_here","_law_names","_law_k","_law_doors"] _ _ _ from Qc) (jW (pv 2)) (fun _ _ _ _ _ _=>vd (qK hr.units (cg (pv 0) zB (fun _ _=>rfl)) zP)) (fun _ _ _ _ _ _=>(zV (zA (cg (pv 0) zB (fun _ _=>rfl)) (zA zB (zA (zV (zA zP zD)) (zA (zV zD) (zA zP (zA CJ zD)))))))))
  (zF (zO (jZ (bQ (r:=il K false) (ju hr.units) (jX (r:=Bv K) HF (pv 0) mH (mG zB)) (zV (zA zP (zA zB (zA zB (zA (zV zD) zD))))) (zR _)) (gP (bQ (r:=il K false) (ju hr.units) (cg (pv 0) zB (fun _ _=>rfl)) (zY (r:=xP K) zW rfl oR MF (zA (pv 5) zD)) (zR _))))))))),
  (aQ (bY (nT (nU (qi (Vz (aF 0)))) (nT (aY (aH bG (bu cD (aD (aF 0) aK)) aG)) (nT (aY (aH bG (aH aU (aF 0) aG) (dD (aD aV aK)))) (aY (aH bG (bu cD (aD (aH aU (aF 0) aG) aK)) (bu cD (aD (aF 1) aK)))))))
   (ao rK)
   bC)
  (aQ (yU (tX (aD (bu cD (aD (aF 1) aK)) aK)) W2
   (bY (aY (aH bG (aH aU (aH aU (aF 0) aG) (aF 4)) (dD (aD (aH aU (aF 3) (aF 4)) (aD (aH aU (aH aU (aF 1) (aF 4)) aG) (aD (aH aU (aH aU (aF 1) (aF 4)) aG) (aD aV (aD aV (aD (dD aK) (aD (dD aK) aK))))))))))
   (ao rK)
   bC))
  (aQ (ak (gY (je (aF 2)) (aY (aH bG (aH aU (aF 0) aG) aV)) (dD (aD (aH aU (aF 0) aG) (aD aG (aD (dD (aD aV aK)) (aD (dD aK) (aD aV (aD JD aK)))))))))
  (ao (jh (aH bG (jg (aF 0) wQ (mQ aG)) (dD (aD aV (aD aG (aD aG (aD (dD aK) aK)))))) (aH bG (aH aU (aF 0) aG) (bu ye (aD (aF 5) aK))))))))⟩
noncomputable def VP(aC:Addr):FS:=
 (aX (aR 1 (aO (c7 law_halls_F) 1 (aA (aB 0) aJ)))
  (aX (aR 2 (aO (c7 law_entries_F) 2 (aA (aB 0) (aA (aB 1) aJ))))
  (aX (aR 3 (aO (c7 law_mixed_F) 3 (aA (aB 0) (aA (fC (.int 1)) (aA (fC (.int 12)) aJ)))))
  (aX (aR 4 (eX (iU (aA (cW bD (aA (aB 1) aJ)) aJ)) [(3,"_law_number")] lU (aO (c7 law_name_F) 2 (aA (aB 0) (aA (aB 1) aJ)))))
  (aX (Mx 5 (fH (aA (fC (.str "order outer")) (aA (fC (.str "letters 1")) (aA (fC (.str "turns 2")) (aA (fC (.str "event knock")) aJ))))))
  (aX (qR (nQ true (aB 2)) (bT [6,7])
   (cz (aN (aL (bh false) (aB 6) (fC (.str "room"))))
   (HY 5 (aL bM (aL bM (aL bM (aL nF (fC (.str "  ")) (aL aj (aL aj (aB 1) (aB 7)) (fC (.int 1)))) (aL aj (aL aj (aB 1) (aB 7)) (fC (.int 0)))) (fC (.str " "))) (aL aj (aB 4) (aB 7))))
   (HY 5 (aL bM (aL bM (fC (.str "door ")) (aL aj (aB 4) (aB 7))) (fC (.str " knock stay"))))))
  (aX (aR 8 (aO (c7 law_due_F) 2 (aA (aB 1) (aA (aB 2) aJ))))
  (aX (aR 9 (aO (c7 (law_read_F aC)) 1 (aA (fM "str" zr (fC (.str "\n")) (aA (aB 5) aJ)) aJ)))
  (aX (cz (aN (aL pY (aB 8) (fC (.int 0))))
   (az (dO (OJ "int" (aL aj (aB 9) (fC (.int 1)))) (dO (eV (OJ "bool" (aL aj (aB 9) (fC (.int 1))))) (aL (bh false) (aL aj (aB 9) (fC (.int 1))) (aL bM (fC (.int 4)) (aB 8))))))
   bO)
  (az (dO (aL (bh false) (aL aj (aB 9) (fC (.int 1))) (fC (.int 0))) (aO (c7 law_right_F) 4 (aA (aL aj (aB 9) (fC (.int 0))) (aA (aB 1) (aA (aB 2) (aA (aB 4) aJ))))))))))))))))
noncomputable def law_F(aC:Addr):List D->Rz D:=eG 10 (VP aC)
theorem oY:aq ["_law_script","_law_halls_here","_law_entries_here","_law_number","_law_names","_law_rows","_law_word","_law_k","_law_due_here","_law_told"] ["_law_script"] (aP vW):=o9
theorem qB0{n:Nat}{C f Kz Ep lF O7 Ry O6 Ky:Addr}{fd Li Ey lH Om SX Ol Lh:FuncData}{aC:Addr}(F:jJ K "law" "law" vW f fd)
  (M5:Dp P w K mg base dw n Kz Li ["_law_script"] (dB K C law_halls_F 1) "_law_halls")
  (FW:Dp P w K mg base dw n Ep Ey ["_law_script","_law_halls_here"] (dB K C law_entries_F 2) "_law_entries")
  (cA:Dp P w K mg base dw n lF lH ["_law_script","_law_k","_law_salt"] (dB K C law_mixed_F 3) "_law_mixed")
  (PK:Dp P w K mg base dw n O7 Om ["_law_k","_law_number"] (dB K C law_name_F 2) "_law_name")
  (T9:Dp P w K mg base dw n Ry SX ["_law_halls_here","_law_entries_here"] (dB K C law_due_F 2) "_law_due")
  (PJ:Dp P w K mg base dw n O6 Ol ["_law_text"] (dB K C (law_read_F aC) 1) "_law_read")
  (M4:Dp P w K mg base dw n Ky Lh ["_law_found","_law_halls_here","_law_entries_here","_law_names"] (dB K C law_right_F 4) "_law_right") (bH:Eb K aC) (qBB:mg "bool" = none) (qDA:mg "int" = none) (mL:mg "isinstance" = none) (bR:mg "len" = none) (kj:mg "range" = none) :
  bc P w K mg base dw (n+1) f fd ["_law_script"] (dB K C (law_F aC) 1):=
 uY F oY fun cdv A outer s H E hr=>⟨_,
  (zE (zJ (i:=1) oY.nd rfl (Or.inl rfl) (pC M5 hr (zA (pv 0) zD)))
  (zE (zJ (i:=2) oY.nd rfl (Or.inl rfl) (pC FW hr (zA (pv 0) (zA (pv 1) zD))))
  (zE (zJ (i:=3) oY.nd rfl (Or.inr rfl) (pC cA hr (zA (pv 0) (zA zB (zA zB zD)))))
  (zE (tQ (i:=4) (cG:=[(3,"_law_number")]) rfl oY.nd rfl (Or.inl rfl) (show gR (aP vW) ["_law_script","_law_halls_here","_law_entries_here","_law_number","_law_names","_law_rows","_law_word","_law_k","_law_due_here","_law_told"] _ _ _ from Qc) (mW rfl kj (zA (rP rfl bR (pv 1)) zD)) (fun _ _ _ _ _ _=>ir) (fun _ _ _ _ _ _=>(pC PK hr (zA (pv 0) (zA (pv 1) zD)))))
  (zE (zJ (i:=5) oY.nd rfl (Or.inl rfl) (yH (zA zP (zA zP (zA zP (zA zP zD))))))
  (zE (uT PassesOwn.never rfl (jW (pv 2)) (Um rfl (vf (yG (i:=6) oY.nd rfl (Or.inl rfl)) (vf (yG (i:=7) oY.nd rfl (Or.inl rfl)) Q8)))
  (zF (yB (qK hr.units (pv 6) zP)
  (zF (yF (jY (r:=kZ) Jk MK MJ yE (pv 5) (zA (qT (qT (qT (yA (r:=rC K) kh zP (cg (cg (pv 1) (pv 7) (fun _ _=>rfl)) zB (fun _ _=>rfl))) (cg (cg (pv 1) (pv 7) (fun _ _=>rfl)) zB (fun _ _=>rfl))) zP) (cg (pv 4) (pv 7) (fun _ _=>rfl))) zD))))
  (zF (yF (jY (r:=kZ) Jk MK MJ yE (pv 5) (zA (qT (qT zP (cg (pv 4) (pv 7) (fun _ _=>rfl))) zP) zD)))))))
  (zE (zJ (i:=8) oY.nd rfl (Or.inl rfl) (pC T9 hr (zA (pv 1) (zA (pv 2) zD))))
  (zE (zJ (i:=9) oY.nd rfl (Or.inl rfl) (pC PJ hr (zA (jY (r:=Ud K) PySem.F.plainAttrs_str PySem.F.slot_str_join PySem.F.type_str_join Xn zP (zA (pv 5) zD)) zD)))
  (zE (yB (zK jm (pv 8) zB (zR _))
  (zF (zO (jZ (zS (r:=R3 K "int") Dr rfl mL qA5 (zA (cg (pv 9) zB (fun _ _=>rfl)) (zA (Hf (v:=.ty "int") rfl qDA PyProof.Rows.boot_int rfl) zD))) (jZ (iW (zS (r:=R3 K "bool") Dr rfl mL qA5 (zA (cg (pv 9) zB (fun _ _=>rfl)) (zA (Hf (v:=.ty "bool") rfl qBB PyProof.Rows.boot_bool rfl) zD)))) (gP (bQ (r:=il K false) (ju hr.units) (cg (pv 9) zB (fun _ _=>rfl)) (qT zB (pv 8)) (zR _)))))))
  zT)
  (zF (zO (jZ (bQ (r:=il K false) (ju hr.units) (cg (pv 9) zB (fun _ _=>rfl)) zB (zR _)) (gP (pC M4 hr (zA (cg (pv 9) zB (fun _ _=>rfl)) (zA (pv 1) (zA (pv 2) (zA (pv 4) zD)))))))))))))))))),
  (aQ (ak (aW rfl (aD (aF 0) aK)))
  (aQ (ak (aW rfl (aD (aF 0) (aD (aF 1) aK))))
  (aQ (ak (aW rfl (aD (aF 0) (aD aG (aD aG aK)))))
  (aQ (ak (gY (tX (aD (bu cD (aD (aF 1) aK)) aK)) pG (aW rfl (aD (aF 0) (aD (aF 1) aK)))))
  (aQ (Oh (fJ (aD aV (aD aV (aD aV (aD aV aK))))))
  (aQ (yU (je (aF 2)) (qEU (is:=[6,7]))
   (bY (aY (aH bG (aF 6) aV))
   (Oi (aH bz (aH bz (aH bz (aH oh aV (aH aU (aH aU (aF 1) (aF 7)) aG)) (aH aU (aH aU (aF 1) (aF 7)) aG)) aV) (aH aU (aF 4) (aF 7))))
   (Oi (aH bz (aH bz aV (aH aU (aF 4) (aF 7))) aV))))
  (aQ (ak (aW rfl (aD (aF 1) (aD (aF 2) aK))))
  (aQ (ak (aW rfl (aD (rJ Xo aV (aD (aF 5) aK)) aK)))
  (aQ (bY (aY (aH (di fun _ _ _ _=>rfl) (aF 8) aG))
   (ao (jh (Vz (aH aU (aF 9) aG)) (jh (ig (Vz (aH aU (aF 9) aG))) (aH bG (aH aU (aF 9) aG) (aH bz aG (aF 8))))))
   bC)
  (ao (jh (aH bG (aH aU (aF 9) aG) aG) (aW rfl (aD (aH aU (aF 9) aG) (aD (aF 1) (aD (aF 2) (aD (aF 4) aK))))))))))))))))⟩
end
end zz
namespace Sw
open PySem PyProof.Rows
set_option maxRecDepth 100000
theorem lu:Slot "set_iterator" "__next__" "set_iterator.__next__" := .of (owner := "set_iterator") (n := "__next__") (by rw[typeLookup_type,builtinLookup_eq_fast];kernel_rfl) (by decide +kernel) (by decide +kernel) (by decide +kernel) (by first | exact .inl (by decide +kernel) | exact .inr (by decide +kernel)) (by rw[isSubtype_type];kernel_rfl)
theorem Et:entryFor table "set_iterator.__next__" = some Builtin.«set_iterator.__next__»:=entryFor_of_fast (by kernel_rfl)
theorem JS(a:Value):argsOk "set_iterator.__next__" ⟨[a],[]⟩:=by unfold argsOk;kernel_rfl
theorem vK:Slot "set_iterator" "__iter__" "set_iterator.__iter__" := .of (owner := "set_iterator") (n := "__iter__") (by rw[typeLookup_type,builtinLookup_eq_fast];kernel_rfl) (by decide +kernel) (by decide +kernel) (by decide +kernel) (by first | exact .inl (by decide +kernel) | exact .inr (by decide +kernel)) (by rw[isSubtype_type];kernel_rfl)
theorem Eu:entryFor table "set_iterator.__iter__" = some Builtin.«dict_keyiterator.__iter__»:=entryFor_alias (id' := "dict_keyiterator.__iter__") (by kernel_rfl) rfl (by decide +kernel) (by kernel_rfl)
theorem JT(a:Value):argsOk "set_iterator.__iter__" ⟨[a],[]⟩:=by unfold argsOk;kernel_rfl
theorem De:entryFor table "set.__iter__" = some Builtin.«frozenset.__iter__»:=entryFor_alias (id' := "frozenset.__iter__") (by kernel_rfl) rfl (by decide +kernel) (by kernel_rfl)
theorem qBL:typeLookup (.type "set") "__len__" = pure (some (.builtin "set.__len__")):=by rw[typeLookup_type,builtinLookup_eq_fast];kernel_rfl
noncomputable abbrev Ke(w:World):Bool:=!(w.params.followText "set-order")
noncomputable abbrev Ld(w:World):Obj:={ cls:=.type "set",dict:=none,data:=.set #[] 0 (.fresh 0 0 (Ke w)) }
theorem tW(l:Bool):(SetTable.fresh 0 0 l).fits (#[]:Array (Int×Value)).size=true:=by cases l <;> rfl
section
variable{prog:Program}{w:World}{A:Around}{R:Result->Shared->Prop}{I:Addr}{fp wr:List Addr}{G:Array GenState->Array GenState->Prop}{P:Nat->Value->Prop}{St:Nat->Shared->Prop}
theorem qDE(W:WalksS prog w A.in1 I fp wr G 0 P St)(S:Addr){s:Shared}(st:St 0 s)(fin:∀ s',Moved wr G s s'->R (.ok (.ret .none)) s'):codeAny (model prog w) A (.builtin "set.update.loop" ⟨[.ref S,.ref I],[]⟩) R s:=by
 refine codeAny_builtin F.entry_set_update_loop ?_;rw[Around.under_plainId F.plain_set_update_loop _];show wpAny _ A.in1 (pyNext (.ref I) >>= _) _ _ s;refine wpAny_bind (W.done s _ _ st fun s' hm=>?_);exact wpAny_pure (fin s' hm)
end
section
variable{prog:Program}{w:World}{A:Around}{E:Value->Shared->Prop}{s:Shared}
theorem Yp(a:Value){Q₁:Value->Shared->Prop}(fin:Q₁ (.ref s.heap.objs.size) { s with heap:=s.heap.push (Ld w) }) :
  codeAny (model prog w) A (.call (.builtin "set.__new__") ⟨[.type "set",a],[]⟩) (wants Q₁ E) s:=by
 refine codeAny_of_tree ?_;show wpAny _ A.in1 (do checkBuiltinCall "set.__new__" ⟨[.type "set",a],[]⟩;again (.builtin "set.__new__" ⟨[.type "set",a],[]⟩)) _ _ s;refine wpAny_bind (wpAny_of_eq (PySem.F.newCall_set_1 a) (wpAny_pure ⟨plainId_quiet PySem.F.plain_set_new _,codeAny_builtin PySem.F.entry_set_new ?_⟩));rw[Around.under_plainId PySem.F.plain_set_new _];unfold Builtin.«set.__new__» Builtin.Frozenset.newClass;have h1:=sub_set_self;obtain⟨hp,g,d,tk,os⟩:=s
 dsimp only;wp_walk;refine wpAny_askSetting (wpAny_pure ?_);dsimp only;simp only[newObj]
 refine wpAny_bind (wpAny_alloc (wpAny_pure ?_));exact wpAny_pure fin
set_option maxHeartbeats 6400000 in
theorem WD{p:Addr}{Q:Value->Shared->Prop}(hh:A.handled=none)(hl:s.heap.IsList p #[])
  (fin:∀(h':Heap)(tk:Nat),h'.get? s.heap.objs.size=some (Ld w) →
   (∀ b o,b<s.heap.objs.size->s.heap.get? b=some o->h'.get? b=some o)->Q (.ref s.heap.objs.size) { s with heap:=h',toks:=tk }):wpAny (model prog w) A (call (.type "set") [.ref p]) Q E s:=by
 obtain⟨c,tl,hmro⟩:=PySem.F.called_set.mro;have f1:=PySem.F.called_set.made;have f2:=PySem.F.called_set.sub;refine wpAny_call (codeAny_of_tree ?_);show wpAny _ _ (callAny (.type "set") _) _ _ _;refine wpAny_pure ⟨Code.quiet_builtin _ (by decide +kernel),codeAny_builtin PySem.F.entry_type_call ?_⟩;rw[Around.under_plain (weight_type_call_type "set" [.ref p] []) rfl];have f3:=PySem.F.called_set.notType;have f4:=PySem.F.called_set.canCreate;have f5:=PySem.F.typeCall_set_1 (.ref p)
 repeat (any_goals (first | assumption | wp_step))
 refine codeAny_mono (Yp (.ref p) (E:=E) (Q₁:=fun obj s₁=>obj = .ref s.heap.objs.size/\s₁ = { s with heap:=s.heap.push (Ld w) }) ⟨rfl,rfl⟩) fun r s₁ hr=>?_
 cases r with
 | error e=>exact hr
 | ok fl=>
  cases fl with
  | ret obj=>
   obtain⟨rfl,rfl⟩:=hr;have gS:(s.heap.push (Ld w)).get? s.heap.objs.size=some (Ld w):=wj s.heap rfl;have hT:Shared.TypeIs { s with heap:=s.heap.push (Ld w) } (.ref s.heap.objs.size) "set" := ⟨_,gS,rfl⟩;have f6:=PySem.F.called_set.init.lookup;have f7:=PySem.F.called_set.init.bind (.ref s.heap.objs.size)
   repeat (any_goals (first | assumption | wp_step))
   refine codeAny_mono (codeAny_call_builtin (R:=wants (fun r s₂=>r = .none/\∃ h' tk,s₂ = { s with heap:=h',toks:=tk }/\h'.get? s.heap.objs.size=some (Ld w) ∧
     (∀ b o,b<s.heap.objs.size->s.heap.get? b=some o->h'.get? b=some o)) E) PySem.F.called_set.init.plain PySem.F.entry_set_init (check_set_init_1 hT ?_)) fun r₂ s₂ hr₂=>?_
   ·obtain⟨ol,hol,hcl,nl,hdl⟩:=hl;obtain⟨ocls,odict,odata,oslots⟩:=ol;simp only at hcl hdl;subst hcl hdl;have hol':(s.heap.push (Ld w)).get? p=some { cls:=.type "list",dict:=odict,data:=.seq #[] nl,slots:=oslots }:=mV _ hol;have f8:=PySem.F.sub_list_set;have f9:=PySem.F.sub_list_frozenset
    have f0:(Value.type "list" == Value.type "dict")=false:=by decide
    have hl1:(s.heap.push (Ld w)).IsList p #[]:=⟨_,hol',rfl,nl,rfl⟩;unfold Builtin.«set.__init__» noKeywords Builtin.Frozenset.updateFrom;generalize hPI:pyIter=PI;wp_walk;subst hPI;refine wpAny_pyIter_list hl1 (wpAny_bind (wpAny_runValue ?_));have lt0:p<s.heap.objs.size:=lZ hol
    have h3:A.in1.in1.in1.handled=none:=by simp [hh]
    have ne1:p≠(s.heap.push (Ld w)).objs.size:=by
     rw[Heap.size_push];exact tD (Nat.lt_succ_of_lt lt0)
    refine qDE ((Walks.list h3 _ p ne1 #[]).toS) s.heap.objs.size ⟨⟨_,wj _ rfl,rfl,rfl⟩,(hl1.push _)⟩ ?hRx
    case hRx=>
     intro s' hm;obtain⟨h',g',d',tk',os'⟩:=s';have eg:g'=s.gens:=hm.gens;have ed:d'=s.drawn:=hm.drawn;have eo:os'=s.os:=hm.os;subst eg ed eo
     have kp:∀ b o,b<s.heap.objs.size+1->(s.heap.push (Ld w)).get? b=some o->h'.get? b=some o:=fun b o lt e=>hm.heap b o (by
      simp only[List.mem_cons,List.not_mem_nil,or_false];rw[Heap.size_push]
      exact tD lt) (mV _ e)
     show wpAny _ _ _ _ _ _;refine wpAny_pure ?_;show wpAny _ _ (ret Value.none) _ _ _;exact wpAny_pure ⟨rfl,h',tk',rfl,kp _ _ (Nat.lt_succ_self _) gS,fun b o lt e=>kp b o (Nat.lt_succ_of_lt lt) (mV _ e)⟩
   ·cases r₂ with
    | error e=>exact hr₂
    | ok fl₂=>
     cases fl₂ with
     | ret r=>
      obtain⟨rfl,h',tk,rfl,hS',hk'⟩:=hr₂
      repeat (any_goals (first | assumption | wp_step))
      exact fin _ _ hS' hk'
     | _=>exact hr₂.elim
  | _=>exact hr.elim
end
noncomputable abbrev itO(a:Addr):Obj:={ cls:=.type "set_iterator",data:=.fields #[.int 0 0,.int 0 0,.ref a,.int 0 0,.int 0 0] }
section
variable{prog:Program}{w:World}{A:Around}{E:Value->Shared->Prop}{s:Shared}{I a:Addr}
theorem qD2{Q:Option (Value×Nat)->Shared->Prop}(ho:s.heap.get? a=some (Ld w))(h:Q none s):wpAny (model prog w) A (setNext a 0 0 0) Q E s:=by
 unfold setNext;refine wpAny_bind (wpAny_setState_of ho rfl (tW _) ?_);unfold setsByText;refine wpAny_bind (wpAny_bind (wpAny_askSetting (wpAny_pure ?_)))
 dsimp only
 cases hb:w.params.followText "set-order" with
 | true=>
  rw[show (⟨(model prog w).prog,(model prog w).w.params⟩:Setting).params.followText "set-order" = true from hb,if_pos rfl];simp only[bne_self_eq_false,Bool.false_eq_true,if_false];unfold setWalk;refine wpAny_bind (wpAny_bind (wpAny_setState_of ho rfl (tW _) ?_));unfold setsByText;refine wpAny_bind (wpAny_bind (wpAny_askSetting (wpAny_pure ?_)))
  dsimp only
  rw[show (⟨(model prog w).prog,(model prog w).w.params⟩:Setting).params.followText "set-order" = true from hb,if_pos rfl];exact wpAny_bind (wpAny_askSetting (wpAny_pure (wpAny_pure h)))
 | false=>
  rw[show (⟨(model prog w).prog,(model prog w).w.params⟩:Setting).params.followText "set-order" = false from hb,if_neg (by decide)];refine (show wpAny _ _ (if (!(SetTable.fresh 0 0 (Ke w)).plain&&decide ((#[]:Array (Int×Value)).size>1))=true then _ else _) _ _ s from ?_);rw[show (!(SetTable.fresh 0 0 (Ke w)).plain&&decide ((#[]:Array (Int×Value)).size>1))=false from by simp,if_neg (by decide)];show wpAny _ _ ((if (!(SetTable.fresh 0 0 (Ke w)).led&&!(#[]:Array (Int×Value)).isEmpty)=true then _ else _) >>= _) _ _ s;rw[if_neg (by simp)];exact wpAny_bind (wpAny_pure (wpAny_pure h))
theorem qC5(hh:A.handled=none)(ha:a≠I):Walks prog w A I [I,a] [I] 0 (fun _ _=>False) (fun _ h=>h.get? I=some (itO a)/\h.get? a=some (Ld w)) where
 sub:=fun b hb=>by simp at hb;simp [hb]
 frame:=fun i h h' st hk=>⟨hk I (by simp) _ st.1,hk a (by simp) _ st.2⟩
 item:=fun i s Q E hi=>absurd hi (Nat.not_lt_zero _)
 done:=fun s Q E st hQ=>by
  obtain⟨hit,hs⟩:=st;have ty:s.TypeIs (.ref I) "set_iterator" := ⟨_,hit,rfl⟩;unfold pyNext;refine wpAny_bind (wpAny_attempt (wpAny_callSpecial?_slot (name:=Str.ofString "__next__") ty lu (wpAny_call_entry lu ty Et ?_ (JS _))));show wpAny _ _ (fieldsOf (.ref I) >>= _) _ _ s;refine wpAny_bind (wpAny_fieldsOf hit rfl ?_);show wpAny _ _ (setEntries a >>= _) _ _ s;refine wpAny_bind (wpAny_setEntries_of hs rfl (tW _) ?_);rw[if_neg (by simp)];show wpAny _ _ (setNext a 0 0 0 >>= _) _ _ s;refine wpAny_bind (qD2 hs ?_);show wpAny _ _ (setField (.ref I) 2 .none >>= _) _ _ s;refine wpAny_bind (wpAny_setField hit rfl (by simp) ?_);refine wpAny_bind ?_;simp only[newExc,newTuple];refine wpAny_bind (wpAny_newObj_type ?_ (by size_fits));refine wpAny_bind (m:=firstArgMember _ _) (wpAny_of_eq (a:=Value.none) (by first | rfl | (simp only[firstArgMember];rfl)) ?_);refine wpAny_newObj_type ?_ (by size_fits);simp only[raiseNew];refine wpAny_bind (wpAny_handled ?_);rw[show A.in1.handled=none from hh];refine wpAny_bind (wpAny_pure (wpAny_throw ?_));refine wpAny_bind (wpAny_isInstance (T := "StopIteration") (b:=true) ⟨_,wj _ rfl,rfl⟩ isSubtype_stop ?_);exact wpAny_pure (hQ _ s.toks fun b o hb e=>Heap.get?_push_of_some _ (Heap.get?_push_of_some _ ((Heap.get?_update_other _ _ (fun z=>hb (by simp [z]))).trans e)))
 self:=fun i s Q E st hQ=>by
  have ty:s.TypeIs (.ref I) "set_iterator" := ⟨_,st.1,rfl⟩;refine wpAny_pyIter_slot ty vK (wpAny_call_entry vK ty Eu ?_ (JT _));show wpAny _ _ (ret (.ref I)) _ _ s;exact wpAny_pure ⟨_,rfl,"set_iterator",_,ty,lu.lookup,hQ⟩
theorem qDH{Q:Value->Shared->Prop}(ho:s.heap.get? a=some (Ld w))
  (h:Q (.ref s.heap.objs.size) { s with heap:=s.heap.push (itO a) }):wpAny (model prog w) A (pyIter (.ref a)) Q E s:=by
 have ty:s.TypeIs (.ref a) "set" := ⟨_,ho,rfl⟩;refine wpAny_pyIter_slot ty F.slot_set_iter (wpAny_call_entry F.slot_set_iter ty De ?_ (F.args_set_iter_1 _));show wpAny _ _ (Builtin.Frozenset.sizeOf a >>= _) _ _ s;unfold Builtin.Frozenset.sizeOf;refine wpAny_bind (wpAny_bind (wpAny_setEntries_of ho rfl (tW _) (wpAny_pure ?_)));unfold setDrawn setsByText;refine wpAny_bind (wpAny_bind (wpAny_setState_of ho rfl (tW _) (wpAny_bind (wpAny_bind (wpAny_askSetting (wpAny_pure (wpAny_pure ?_)))))))
 have z:∀ b c:Bool,(b&&(c&&decide ((#[]:Array (Int×Value)).size>1)))=false:=fun b c=>by cases b <;> cases c <;> rfl
 refine (show wpAny _ _ (if (!((model prog w).w.params.followText "set-order")&&(!(SetTable.fresh 0 0 (Ke w)).plain&&decide ((#[]:Array (Int×Value)).size>1)))=true then _ else _) _ _ s from ?_);rw[z,if_neg (by decide)];refine wpAny_bind (wpAny_pure ?_);unfold setEpoch;refine wpAny_bind (wpAny_bind (wpAny_setState_of ho rfl (tW _) (wpAny_pure ?_)));refine wpAny_bind (wpAny_newObj_type ?_);exact wpAny_pure ⟨_,rfl,"set_iterator",_,⟨_,wj _ rfl,rfl⟩,lu.lookup,h⟩
theorem W9{Q:List Value->Shared->Prop}(hh:A.handled=none)(ho:s.heap.get? a=some (Ld w))
  (fin:∀(h':Heap)(tk:Nat),(∀ b o,s.heap.get? b=some o->h'.get? b=some o)->Q [] { s with heap:=h',toks:=tk }) :
  wpAny (model prog w) A (collect (.ref a)) Q E s:=by
 have la:a<s.heap.objs.size:=lZ ho;unfold collect;refine wpAny_bind (wpAny_runValue (codeAny_builtin F.entry_proto_collect ?_));rw[Around.under_plainId F.plain_proto_collect _];show wpAny _ A.in1 (newList [] >>= fun l=>again (.builtin "list.__iadd__" ⟨[l,.ref a],[]⟩)) _ _ s;refine wpAny_bind (wpAny_newObj_type ?_);refine wpAny_pure ⟨plainId_quiet F.plain_list_iadd _,codeAny_builtin F.entry_list_iadd ?_⟩;rw[Around.under_plainId F.plain_list_iadd _];have g0:(s.heap.push { cls:=.type "list",data:=.seq ([]:List Value).toArray }).get? s.heap.objs.size=some { cls:=.type "list",data:=.seq ([]:List Value).toArray }:=wj s.heap rfl
 have other:Builtin.List.listSameRef (.ref s.heap.objs.size) (.ref a)=false:=by simp [Builtin.List.listSameRef];exact Nat.ne_of_gt la
 have ho1:(s.heap.push { cls:=.type "list",data:=.seq ([]:List Value).toArray }).get? a=some (Ld w):=mV _ ho;show wpAny _ A.in1 (Builtin.List.listExtendWith (.ref s.heap.objs.size) (.ref a) (.ref s.heap.objs.size)) _ _ _;unfold Builtin.List.listExtendWith;refine wpAny_bind (wpAny_typeOf (T := "set") ⟨_,ho1,rfl⟩ ?_);rw[if_neg (by rw[other];decide)];have nI:(s.heap.push { cls:=.type "list",data:=.seq ([]:List Value).toArray }).objs.size=s.heap.objs.size+1:=Heap.size_push ..;refine wpAny_bind (qDH ho1 ?_);generalize hh2:((s.heap.push { cls:=.type "list",data:=.seq ([]:List Value).toArray }).push (itO a))=h2
 have hk:∀ b o,(s.heap.push { cls:=.type "list",data:=.seq ([]:List Value).toArray }).get? b=some o->h2.get? b=some o:=fun b o e=>by rw[<-hh2];exact mV _ e
 have gI:h2.get? (s.heap.push { cls:=.type "list",data:=.seq ([]:List Value).toArray }).objs.size=some (itO a):=by rw[<-hh2];exact wj _ rfl
 have ho2:=hk _ _ ho1;have g2:=hk _ _ g0;have ty2:Shared.TypeIs { s with heap:=h2 } (.ref a) "set" := ⟨_,ho2,rfl⟩;refine wpAny_bind (wpAny_holding ?_);unfold Builtin.List.listLengthHint;refine wpAny_bind (wpAny_specialOf ty2 qBL ?_)
 (generalize hid:("set.__len__" : String)=id0;(fail_if_success (clear hid id0));wp_delta;rw[show splitId id0=some ("set","__len__") from by subst hid;decide +kernel])
 refine wpAny_bind (wpAny_isInstance (b:=true) ty2 (by rw[isSubtype_type];kernel_rfl) ?_);subst hid;show wpAny _ A.in1 (typeOf (.ref a) >>= _) _ _ _;refine wpAny_bind (wpAny_typeOf ty2 ?_);refine wpAny_pure ?_;rw[if_pos (by decide)];refine wpAny_bind (wpAny_rule (wpAny_bind ?_));show wpAny _ A.in1 (updateSeq s.heap.objs.size (·.push .none) >>= fun _=>updateSeq s.heap.objs.size (·.pop)) _ _ _;refine wpAny_bind (wpAny_updateSeq g2 rfl ?_);have g3:=Heap.get?_update_self (Obj.mapSeq (·.push Value.none)) g2 rfl;refine wpAny_updateSeq g3 rfl ?_;have g4:=Heap.get?_update_self (Obj.mapSeq (·.pop)) g3 rfl;have V9:∀ b ob,b≠s.heap.objs.size->h2.get? b=some ob->((h2.update s.heap.objs.size (Obj.mapSeq (·.push Value.none))).update s.heap.objs.size (Obj.mapSeq (·.pop))).get? b=some ob:=fun b ob hb e=>(Heap.get?_update_other _ _ (Ne.symm hb)).trans ((Heap.get?_update_other _ _ (Ne.symm hb)).trans e);rw[nI]at gI
 have qFP:s.heap.objs.size∉[s.heap.objs.size+1,a]:=by
  simp only[List.mem_cons,List.not_mem_nil,or_false,not_or];exact⟨tD (Nat.lt_succ_self _),Nat.ne_of_gt la⟩
 have W:=(qC5 (prog:=prog) (w:=w) (A:=A.in1) (I:=s.heap.objs.size+1) (a:=a) (by simp [hh]) (Nat.ne_of_lt (Nat.lt_succ_of_lt la))).toS;rw[nI];refine wpAny_pure ⟨plainId_quiet F.plain_extend_loop _,codeAny_extend_loopS W (by rw[sizeLine_eq];decide) _ qFP _ 0 0 _ _ _ rfl (Nat.zero_le _) ⟨V9 _ _ (Nat.ne_of_gt (Nat.lt_succ_self _)) gI,V9 _ _ (tD la) ho2⟩ g4 (ItemsOf.nil _) fun s' acc' c' hm hS' hacc=>?_⟩;show wpAny _ A (load s.heap.objs.size >>= _) _ _ s';refine wpAny_bind (wpAny_load hS' ?_)
 have ea:acc'.toList=[]:=by
  have h1:=hacc.1;exact List.eq_nil_of_length_eq_zero (by rw[Array.length_toList];omega)
 have e1:s'.gens=s.gens:=hm.gens;have e2:s'.drawn=s.drawn:=hm.drawn;have e3:s'.os=s.os:=hm.os;obtain⟨h',g',d',tk',os'⟩:=s';have e1':g'=s.gens:=e1;have e2':d'=s.drawn:=e2;have e3':os'=s.os:=e3;subst e1' e2' e3';refine wpAny_pure ?_;rw[ea];refine fin h' tk' fun b ob e=>?_;have lb:b<s.heap.objs.size:=lZ e;refine hm.heap b ob ?_ (V9 b ob (tD lb) (hk b ob (mV _ e)));simp only[List.mem_cons,List.not_mem_nil,or_false,not_or];exact⟨tD lb,tD (Nat.lt_succ_of_lt lb)⟩
theorem X7{Q:Value->Shared->Prop}(hh:A.handled=none)(ho:s.heap.get? a=some (Ld w))
  (fin:∀(h1 h':Heap)(tk:Nat)(p:Addr)(e:Nat),h1.objs.size<=p->h'.get? p=some (seqObj "list" #[] e)->(∀ b o,s.heap.get? b=some o->h1.get? b=some o)->(∀ b o,h1.get? b=some o->h'.get? b=some o)->Q (.ref p) { s with heap:=h',toks:=tk }) :
  wpAny (model prog w) A (call (.builtin "sorted") [.ref a]) Q E s:=by
 refine Calls.call_function_entry kind_sorted plain_sorted entry_sorted (args_sorted1 _) ?_;unfold Builtin.«sorted»;refine wpAny_bind (m:=checkCount "sorted" 1 1 _) (wpAny_pure ?_);refine wpAny_bind (W9 (by first | exact hh | simp [hh]) ho fun h1 tk k1=>?_);refine wpAny_bind (wpAny_newList ?_ (by rw[sizeLine_eq];decide));have g1:(h1.push (seqObj "list" ([]:List Value).toArray 0)).get? h1.objs.size=some (seqObj "list" ([]:List Value).toArray 0):=wj _ rfl;refine wpAny_bind (wpAny_holding (wpAny_call_entry slot_list_sort ⟨_,g1,rfl⟩ entry_list_sort (list_sort_tree (s:={ s with heap:=h1.push (seqObj "list" ([]:List Value).toArray 0),toks:=tk }) g1 (ns:=[]) (by first | exact IntsAre.nil | exact .nil | rfl | trivial) (by decide) fun out ns' a1 a2 a3=>⟨_,rfl,?_⟩) (args_list_sort _)));obtain⟨e,he⟩:=sortedHeap_at (out:=out) g1;have n0:ns'=[]:=List.perm_nil.mp a2
 have o0:out = #[]:=by
  have:=a1.length;rw[n0]at this;exact Array.eq_empty_of_size_eq_zero (by simpa using this)
 subst o0;refine wpAny_pure ⟨_,rfl,fin h1 _ tk h1.objs.size e (jj _) he k1 fun b ob hb=>?_⟩;have lb:b<h1.objs.size:=lZ hb;rw[sortedHeap_old (tD lb) (by rw[Heap.size_push];exact Nat.lt_succ_of_lt lb)];exact mV _ hb
end
theorem WX(a d:Value):argsOk "max" ⟨[a],[("default",d)]⟩:=by unfold argsOk;kernel_rfl
section
variable{prog:Program}{w:World}{A:Around}{E:Value->Shared->Prop}{s:Shared}
theorem Yr(a d:Value):checkBuiltinCall "max" ⟨[a],[("default",d)]⟩=pure ():=by
 have ha:=WX a d;unfold argsOk at ha;simp only[checkBuiltinCall,F.kind_max]
 cases hsig:Manifest.signature? "max" with
 | none=>rfl
 | some sig=>
  rw[hsig]at ha;exact ha
theorem WN(d:Value):Builtin.Builtins.bindParams "max" ["key","default"] 0 ⟨[],[("default",d)]⟩=pure [none,some d]:=by rfl
theorem WK{p:Addr}{d:Int}{td:Tok}{Q:Value->Shared->Prop}(hh:A.handled=none)(hl:s.heap.IsList p #[])
  (fin:∀(h':Heap)(tk:Nat)(t:Tok),(∀ b o,s.heap.get? b=some o->h'.get? b=some o)->Q (.int d t) { s with heap:=h',toks:=tk }) :
  wpAny (model prog w) A (call (.builtin "max") [.ref p] [("default",.int d td)]) Q E s:=by
 have nm:(toString "max" ++ toString ".loop" : String) = "max.loop" := by decide
 have lp:p<s.heap.objs.size:=by
  obtain⟨o,ho,_⟩:=hl;exact lZ ho
 refine wpAny_call (codeAny_call_builtin F.plain_max F.entry_max ?_);refine wpAny_of_eq (Yr _ _) ?_;show wpAny _ A.in1 (Builtin.Builtins.bindParams "max" ["key","default"] 0 ⟨[],[("default",.int d td)]⟩ >>= _) _ _ s;refine wpAny_bind (wpAny_of_eq (WN _) (wpAny_bind (wpAny_pure (wpAny_bind (wpAny_pyIter_list hl ?_)))));refine wpAny_bind (wpAny_newObj_type ?_);rw[nm]
 have h1:A.in1.handled=none:=by simp [hh]
 have ne0:p≠s.heap.objs.size:=tD lp;have W:=Walks.list (prog:=prog) (w:=w) (A:=A.in1) h1 s.heap.objs.size p ne0 #[];refine wpAny_pure ⟨plainId_quiet F.plain_max_loop _,?_⟩;refine codeAny_builtin F.entry_max_loop ?_;rw[Around.under_plainId F.plain_max_loop _];refine (show wpAny _ _ (seqItems? (.ref (s.heap.push { cls:=.type "list_iterator",data:=.fields #[.ref p,.int 0 0] }).objs.size) >>= _) _ _ _ from ?_);refine wpAny_bind (wpAny_seqItems (wj _ rfl) rfl ?_);show wpAny _ _ (tryCatch (pyNext (.ref s.heap.objs.size)) _ >>= _) _ _ _;refine wpAny_bind (wpAny_tryCatch (W.done _ _ _ ?hst fun h' tk hk'=>?_))
 case hst=>exact⟨⟨_,mV _ (wj _ rfl),rfl,rfl⟩,(hl.push _).push _⟩
 refine wpAny_bind (wpAny_rule (wpAny_pure (fin h' tk td fun b o e=>hk' b o ?_ (mV _ (mV _ e)))));simp only[List.mem_cons,List.not_mem_nil,or_false];exact tD (lZ e)
end
end Sw
namespace L2
open PySem PySem.Spec PyProof.Rows
section
variable{X:Cx}
noncomputable def tSS(K:cZ)(t:TA):TE:=fun σ H Q=>t σ H fun vs H1 => ∃ p:Addr,vs=[.ref p]/\jk K H1 p []/\∀ q:Addr,H1 q=none->Q (.ref q) (upd H1 q (.lst []))
theorem vg{a:Expr}{t:TA}{p1 p2 pos pos2:Pos}(hc:X.calm=true)(hg:Gl X "sorted")(hm:X.mg "sorted" = none)(hg2:Gl X "set")(hm2:X.mg "set" = none)(ha:PA X [a] t)
  (he:starEach [a] X.env=[(false,eval a X.env)]:=by rfl) (he2:starEach [.Call (.Name "set" p2) [a] [] pos2] X.env=[(false,eval (.Call (.Name "set" p2) [a] [] pos2) X.env)]:=by rfl) :
  PE X (.Call (.Name "sorted" p1) [.Call (.Name "set" p2) [a] [] pos2] [] pos) (tSS X.K t):=by
 intro pins s σ H Q I h;refine wpAny_Call_Name_kw (sH I hg hm PyProof.Rows.boot_sorted ?_);refine PyProof.Rows.callWith_builtin1 ?_ he2 rfl;rw[he2];show wpAny _ _ (spliced ((false,eval (.Call (.Name "set" p2) [a] [] pos2) X.env)::[])) _ _ s;refine Calls.spliced_cons ?_;refine wpAny_Call_Name_kw (sH I hg2 hm2 PyProof.Rows.boot_set ?_);refine PyProof.Rows.callWith_type1 (gO (ha pos2 pins s σ H _ I h) fun us s1 ⟨vs,H1,I1,r1,q1⟩=>?_) he rfl;obtain⟨p,rfl,hq,q⟩:=q1;obtain⟨u,rfl,rx⟩:=vals1 r1
 cases rx
 obtain⟨its,rv,pl,_⟩:=I1.list hq
 cases rv
 refine Sw.WD (I1.ok.hd hc) pl.isList fun h2 tk2 hS hk=>Calls.spliced_nil ?_;have I2:Inv X pins σ H1 { s1 with heap:=h2,toks:=tk2 }:=I1.kept fun b o e=>hk b o (lZ e) e;refine Sw.X7 (I2.ok.hd hc) hS fun h3 h4 tk p' e i4 i5 i6 i7=>?_;have J:Inv X pins σ H1 { s1 with heap:=h3,toks:=tk }:=I2.kept (h':=h3) (t':=tk) i6;exact⟨.ref p',_,J.laid (h':=h4) (t':=tk) (o:=.lst []) i7 i4 ⟨zH (by decide),[],e,.nil,i5⟩,rfl,q p' (J.hok.fresh i4)⟩
noncomputable def ZJ(K:cZ)(d:Int)(t:TA):TE:=fun σ H Q=>t σ H fun vs H1 => ∃ p:Addr,vs=[.ref p]/\jk K H1 p []/\Q (.int d) H1
theorem Xb{a:Expr}{t:TA}{p1 pos kp pd:Pos}{d:Int}{j:Nat}(hc:X.calm=true)(hg:Gl X "max")(hm:X.mg "max" = none)(ha:PA X [a] t)(he:starEach [a] X.env=[(false,eval a X.env)]:=by rfl) :
  PE X (.Call (.Name "max" p1) [a] [⟨some "default",.Constant (.int d) j pd,kp⟩] pos) (ZJ X.K d t):=by
 intro pins s σ H Q I h;refine wpAny_Call_Name_kw (sH I hg hm PyProof.Rows.boot_max ?_);refine PyProof.Rows.callWith_kw (gO (ha pos pins s σ H _ I h) fun us s1 ⟨vs,H1,I1,r1,q1⟩=>?_) (by rw[he];rfl) (by rw[he];rfl) rfl rfl;refine PyProof.Rows.kws_cons (wpAny_Constant_int (PyProof.Rows.kws_nil ?_));obtain⟨p,rfl,hq,q⟩:=q1;obtain⟨u,rfl,rx⟩:=vals1 r1
 cases rx
 obtain⟨its,rv,pl,_⟩:=I1.list hq
 cases rv
 have I2:=I1.tok (s1.toks+1);exact Sw.WK (I2.ok.hd hc) pl.isList fun h' tk t k=>⟨.int _,H1,I2.kept k,⟨_,rfl⟩,q⟩
end
end L2
namespace DL
open PySem L2
noncomputable def Zm(d:Int)(a:FA):FE:=fun ρ=>(a ρ).bind fun ws=>match ws.map W.d with
 | [.lst []]=>.ok (.fr (.int d))
 | _=>.st
noncomputable def qBR(a:FA):FE:=fun ρ=>(a ρ).bind fun ws=>match ws.map W.d with
 | [.lst []]=>.ok (.ow [])
 | _=>.st
section
variable{G:Gm}{tr:TA}{fr:FA}
theorem Ym{d:Int}(ha:DA G tr fr):DE G (ZJ G.K d tr) (Zm d fr):=by
 intro B H ρ σ Q o h;refine ha.then o (P:=dH G B H ρ σ Q) h (fun z=>z) (fun z=>z) fun ws z vs B1 H1 o1 x1 q1=>?_
 split at z
 ·rename_i e
  obtain⟨v,rfl,p,us,rfl,hz,r⟩:=arg1 (d:=.lst []) o1.sb ⟨ws,e.symm,q1⟩
  cases (show us=[] from r)
  exact⟨p,rfl,jk.of hz,dH.now o1 (z.on x1) rfl⟩
 ·exact z.elim
theorem Vy(ha:DA G tr fr):DE G (tSS G.K tr) (qBR fr):=by
 intro B H ρ σ Q o h;refine ha.then o (P:=dH G B H ρ σ Q) h (fun z=>z) (fun z=>z) fun ws z vs B1 H1 o1 x1 q1=>?_
 split at z
 ·rename_i e
  obtain⟨v,rfl,p,us,rfl,hz,r⟩:=arg1 (d:=.lst []) o1.sb ⟨ws,e.symm,q1⟩
  cases (show us=[] from r)
  refine⟨p,rfl,jk.of hz,fun q hq=>?_⟩;exact dH.own (l:=[]) o1 (z.on x1) rfl hq
 ·exact z.elim
end
end DL
namespace zz
open PySem L2 Zv DL
noncomputable def xY:List D->Rz D:=fun _=>.st
section
variable{P:Program}{w:World}{K:cZ}{mg:Str->Option Value}{base:Heap}
theorem NT{CX:Ji}{n k:Nat}{C f:Addr}{fd:FuncData}{ps:List Str}:bc P w K mg base CX n f fd ps (dB K C xY k):=
 ⟨fun vs H Q E h=>by obtain⟨_,B,ds,_,_,q⟩:=h;exact q.elim,fun A outer s H args us vs Q E _ _ _ _ h=>by obtain⟨_,B,ds,_,_,q⟩:=h;exact q.elim⟩
noncomputable def Ao:FS:=
 (aX (cz (aN (aL (bh false) (aL aj (aB 0) (fC (.int 0))) (fC (.str "not"))))
   (az (fH (aA (aL aj (aB 0) (fC (.int 1))) aJ)))
   bO)
  (aX (cz (aN (aL (inD false) (aL aj (aB 0) (fC (.int 0))) (cV (aA (fC (.str "both")) (aA (fC (.str "either")) aJ)))))
   (az (fH (aA (aL aj (aB 0) (fC (.int 1))) (aA (aL aj (aB 0) (fC (.int 2))) aJ))))
   bO)
  (az (fH aJ))))
noncomputable def gG:List D->Rz D:=eG 1 (Ao)
theorem xM:aq ["guard"] ["guard"] (aP j7):=o9
theorem xV{n:Nat}{C f:Addr}{fd:FuncData}(F:jJ K "guards_within" "guards_within" j7 f fd) :
  bc P w K mg base dw (n+1) f fd ["guard"] (dB K C (gG) 1):=
 uY F xM fun cdv A outer s H E hr=>⟨_,
  (zE (yB (qK hr.units (cg (pv 0) zB (fun _ _=>rfl)) zP)
  (zF (zO (yH (zA (cg (pv 0) zB (fun _ _=>rfl)) zD))))
  zT)
  (zE (yB (zK (r:=rO K false) lO (cg (pv 0) zB (fun _ _=>rfl)) (zV (zA zP (zA zP zD))) rfl)
  (zF (zO (yH (zA (cg (pv 0) zB (fun _ _=>rfl)) (zA (cg (pv 0) zB (fun _ _=>rfl)) zD)))))
  zT)
  (zF (zO (yH zD))))),
  (aQ (bY (aY (aH bG (aH aU (aF 0) aG) aV))
   (ao (fJ (aD (aH aU (aF 0) aG) aK)))
   bC)
  (aQ (bY (aY (aH n6 (aH aU (aF 0) aG) (dD (aD aV (aD aV aK)))))
   (ao (fJ (aD (aH aU (aF 0) aG) (aD (aH aU (aF 0) aG) aK))))
   bC)
  (ao (fJ aK))))⟩
noncomputable def VR:FS:=
 (az (aL bM (fC (.int 1)) (Zm 0 (aA (eX (nQ false (aO (c7 gG) 1 (aA (aB 0) aJ))) [] lU (aO (c7 xY) 1 (aA (aB 0) aJ))) aJ))))
noncomputable def Cv:List D->Rz D:=eG 1 (VR)
theorem R0:aq ["guard"] ["guard"] (aP rm):=o9
theorem RG{n:Nat}{C f lQ S6:Addr}{fd lV Sg:FuncData}(F:jJ K "height" "height" rm f fd)
  (lX:Dp P w K mg base dw n lQ lV ["guard"] (dB K C gG 1) "guards_within")
  (TJ:Dp P w K mg base dw n S6 Sg ["guard"] (dB K C xY 1) "height") (zg:mg "max" = none) :
  bc P w K mg base dw (n+1) f fd ["guard"] (dB K C (Cv) 1):=
 uY F R0 fun cdv A outer s H E hr=>⟨_,
  (zF (zO (qT zB (Xb rfl rfl zg (zA (yM (cG:=[]) rfl (show gR (aP rm) ["guard"] _ _ _ from Qc) (jW (pC lX hr (zA (pv 0) zD))) (fun _ _ _ _ _ _=>ir) (fun _ _ _ _ _ _=>(pC TJ hr (zA (pv 0) zD)))) zD))))),
  (ao (aH bz aG (Ym (aD (gY (je (aW rfl (aD (aF 0) aK))) pG (aW rfl (aD (aF 0) aK))) aK))))⟩
noncomputable def DG:FS:=
 (aX (aR 1 (aO (c7 gG) 1 (aA (aB 0) aJ)))
  (aX (cz (aN (aL (bh false) (cW bD (aA (aB 1) aJ)) (fC (.int 0))))
   (az (fH (aA (aB 0) aJ)))
   bO)
  (aX (Mx 2 (fH aJ))
  (aX (qR (nQ true (aB 1)) (bN 3)
   xN)
  (az (aB 2))))))
noncomputable def gh:List D->Rz D:=eG 4 (DG)
theorem j6:aq ["guard","inner","plain","within"] ["guard"] (aP jO):=o9
theorem Ah{n:Nat}{C f lQ:Addr}{fd lV:FuncData}(F:jJ K "plain_guards" "plain_guards" jO f fd)
  (lX:Dp P w K mg base dw n lQ lV ["guard"] (dB K C gG 1) "guards_within") (bR:mg "len" = none) :
  bc P w K mg base dw (n+1) f fd ["guard"] (dB K C (gh) 1):=
 uY F j6 fun cdv A outer s H E hr=>⟨_,
  (zE (zJ (i:=1) j6.nd rfl (Or.inl rfl) (pC lX hr (zA (pv 0) zD)))
  (zE (yB (qK hr.units (rP rfl bR (pv 1)) zB)
  (zF (zO (yH (zA (pv 0) zD))))
  zT)
  (zE (zJ (i:=2) j6.nd rfl (Or.inl rfl) (yH zD))
  (zE (uT PassesOwn.never rfl (jW (pv 1)) (yG (i:=3) j6.nd rfl (Or.inl rfl))
  (zF Bx))
  (zF (zO (pv 2))))))),
  (aQ (ak (aW rfl (aD (aF 0) aK)))
  (aQ (bY (aY (aH bG (bu cD (aD (aF 1) aK)) aG))
   (ao (fJ (aD (aF 0) aK)))
   bC)
  (aQ (Oh (fJ aK))
  (aQ (yU (je (aF 1)) W2
   Dh)
  (ao (aF 2))))))⟩
noncomputable def YH:FS:=
 (aX (aR 1 (aO (c7 gh) 1 (aA (aB 0) aJ)))
  (aX (aR 2 (eX (nQ false (aB 1)) [] (aN (aL (inD false) (aL aj (aB 0) (fC (.int 0))) (cV (aA (fC (.str "is")) (aA (fC (.str "under")) aJ))))) (aL aj (aB 0) (fC (.int 1)))))
  (aX (aR 3 (eX (nQ false (aB 1)) [] (aN (aL (bh false) (aL aj (aB 0) (fC (.int 0))) (fC (.str "in")))) (aL aj (aB 0) (fC (.int 1)))))
  (az (cV (aA (qBR (aA (aB 2) aJ)) (aA (qBR (aA (aB 3) aJ)) aJ)))))))
noncomputable def JR:List D->Rz D:=eG 4 (YH)
theorem vP:aq ["guard","plain","boxes","rooms"] ["guard"] (aP tL):=o9
theorem Uw{n:Nat}{C f nP:Addr}{fd nY:FuncData}(F:jJ K "asked" "asked" tL f fd)
  (nq:Dp P w K mg base dw n nP nY ["guard"] (dB K C gh 1) "plain_guards") (Ka:mg "sorted" = none) (Zb:mg "set" = none) :
  bc P w K mg base dw (n+1) f fd ["guard"] (dB K C (JR) 1):=
 uY F vP fun cdv A outer s H E hr=>⟨_,
  (zE (zJ (i:=1) vP.nd rfl (Or.inl rfl) (pC nq hr (zA (pv 0) zD)))
  (zE (tQ (i:=2) (cG:=[]) rfl vP.nd rfl (Or.inl rfl) (show gR (aP tL) ["guard","plain","boxes","rooms"] _ _ _ from Qc) (jW (pv 1)) (fun _ _ _ _ _ _=>vd (zK (r:=rO K false) lO (cg (pv 0) zB (fun _ _=>rfl)) (zV (zA zP (zA zP zD))) rfl)) (fun _ _ _ _ _ _=>(cg (pv 0) zB (fun _ _=>rfl))))
  (zE (tQ (i:=3) (cG:=[]) rfl vP.nd rfl (Or.inl rfl) (show gR (aP tL) ["guard","plain","boxes","rooms"] _ _ _ from Qc) (jW (pv 1)) (fun _ _ _ _ _ _=>vd (qK hr.units (cg (pv 0) zB (fun _ _=>rfl)) zP)) (fun _ _ _ _ _ _=>(cg (pv 0) zB (fun _ _=>rfl))))
  (zF (zO (zV (zA (vg rfl rfl Ka rfl Zb (zA (pv 2) zD)) (zA (vg rfl rfl Ka rfl Zb (zA (pv 3) zD)) zD)))))))),
  (aQ (ak (aW rfl (aD (aF 0) aK)))
  (aQ (ak (gY (je (aF 1)) (aY (aH n6 (aH aU (aF 0) aG) (dD (aD aV (aD aV aK))))) (aH aU (aF 0) aG)))
  (aQ (ak (gY (je (aF 1)) (aY (aH bG (aH aU (aF 0) aG) aV)) (aH aU (aF 0) aG)))
  (ao (dD (aD (Vy (aD (aF 2) aK)) (aD (Vy (aD (aF 3) aK)) aK)))))))⟩
noncomputable def qDT:FS:=
 (aX (cz (aN (aL pY (aO (c7 Cv) 1 (aA (aB 0) aJ)) (fC (.int 6))))
   (az (fC (.bl true)))
   bO)
  (aX (aR 3 (aO (c7 JR) 1 (aA (aB 0) aJ)))
  (aX (cz (qe (aN (cW (Wq fun l=>l.all id) (aA (eX (nQ false (aL aj (aB 3) (fC (.int 0)))) [(1,"boxes")] lU (aO (c7 bI) 2 (aA (aB 0) (aA (aB 1) aJ)))) aJ))))
   (az (fC (.bl true)))
   bO)
  (aX (cz (qe (aN (cW (Wq fun l=>l.all id) (aA (eX (nQ false (aL aj (aB 3) (fC (.int 1)))) [(2,"rooms")] lU (aO (c7 bI) 2 (aA (aB 0) (aA (aB 1) aJ)))) aJ))))
   (az (fC (.bl true)))
   bO)
  (az (eV (cW (Wq fun l=>l.all id) (aA (eX (nQ false (aO (c7 gh) 1 (aA (aB 0) aJ))) [] (aN (aL (inD false) (aL aj (aB 0) (fC (.int 0))) (cV (aA (fC (.str "is")) (aA (fC (.str "under")) aJ))))) (aO (c7 iw) 1 (aA (aL aj (aB 0) (fC (.int 2))) aJ))) aJ))))))))
noncomputable def VL:List D->Rz D:=eG 4 (qDT)
theorem mj:aq ["guard","boxes","rooms","wanted"] ["guard","boxes","rooms"] (aP dC):=o9
theorem uW{n:Nat}{C f Vn YW dq nP pF:Addr}{fd W4 Yn du nY pH:FuncData}(F:jJ K "guard_has_fault" "guard_has_fault" dC f fd)
  (Wi:Dp P w K mg base dw n Vn W4 ["guard"] (dB K C Cv 1) "height")
  (Z7:Dp P w K mg base dw n YW Yn ["guard"] (dB K C JR 1) "asked")
  (cT:Dp P w K mg base dw n dq du ["number","things"] (dB K C bI 2) "is_number_of")
  (nq:Dp P w K mg base dw n nP nY ["guard"] (dB K C gh 1) "plain_guards")
  (pJ:Dp P w K mg base dw n pF pH ["number"] (dB K C iw 1) "is_in_reach") (Cj:mg "all" = none) {Fg:Value} (RP:mg "HIGHEST" = some Fg) (T8:RelV (.int 6) Fg) :
  bc P w K mg base dw (n+1) f fd ["guard","boxes","rooms"] (dB K C (VL) 3):=
 uY F mj fun cdv A outer s H E hr=>⟨_,
  (zE (yB (zK jm (pC Wi hr (zA (pv 0) zD)) (dz (v:=(.int 6)) rfl RP T8) (zR _))
  (zF (zO rE))
  zT)
  (zE (zJ (i:=3) mj.nd rfl (Or.inl rfl) (pC Z7 hr (zA (pv 0) zD)))
  (zE (yB (my (fY (zS (qI rfl) rfl Cj PyProof.Rows.boot_all (zA (yM (cG:=[(1,"boxes")]) rfl (show gR (aP dC) ["guard","boxes","rooms","wanted"] _ _ _ from Qc) (jW (cg (pv 3) zB (fun _ _=>rfl))) (fun _ _ _ _ _ _=>ir) (fun _ _ _ _ _ _=>(pC cT hr (zA (pv 0) (zA (pv 1) zD))))) zD))))
  (zF (zO rE))
  zT)
  (zE (yB (my (fY (zS (qI rfl) rfl Cj PyProof.Rows.boot_all (zA (yM (cG:=[(2,"rooms")]) rfl (show gR (aP dC) ["guard","boxes","rooms","wanted"] _ _ _ from Qc) (jW (cg (pv 3) zB (fun _ _=>rfl))) (fun _ _ _ _ _ _=>ir) (fun _ _ _ _ _ _=>(pC cT hr (zA (pv 0) (zA (pv 1) zD))))) zD))))
  (zF (zO rE))
  zT)
  (zF (zO (iW (zS (qI rfl) rfl Cj PyProof.Rows.boot_all (zA (yM (cG:=[]) rfl (show gR (aP dC) ["guard","boxes","rooms","wanted"] _ _ _ from Qc) (jW (pC nq hr (zA (pv 0) zD))) (fun _ _ _ _ _ _=>vd (zK (r:=rO K false) lO (cg (pv 0) zB (fun _ _=>rfl)) (zV (zA zP (zA zP zD))) rfl)) (fun _ _ _ _ _ _=>(pC pJ hr (zA (cg (pv 0) zB (fun _ _=>rfl)) zD)))) zD))))))))),
  (aQ (bY (aY (aH (di fun _ _ _ _=>rfl) (aW rfl (aD (aF 0) aK)) (fK fun _=>rfl)))
   (ao rK)
   bC)
  (aQ (ak (aW rfl (aD (aF 0) aK)))
  (aQ (bY (nU (qi (bu Gk (aD (gY (je (aH aU (aF 3) aG)) pG (aW rfl (aD (aF 0) (aD (aF 1) aK)))) aK))))
   (ao rK)
   bC)
  (aQ (bY (nU (qi (bu Gk (aD (gY (je (aH aU (aF 3) aG)) pG (aW rfl (aD (aF 0) (aD (aF 1) aK)))) aK))))
   (ao rK)
   bC)
  (ao (ig (bu Gk (aD (gY (je (aW rfl (aD (aF 0) aK))) (aY (aH n6 (aH aU (aF 0) aG) (dD (aD aV (aD aV aK))))) (aW rfl (aD (aH aU (aF 0) aG) aK))) aK))))))))⟩
theorem qBN(ds:List D):bf ds = .st ∨ ∃ b r,ds=[.tup [.str "yes"],b,r]:=by
 unfold bf
 split
 ·rename_i g b r
  split
  ·rename_i e
   subst e;exact .inr ⟨b,r,rfl⟩
  ·exact .inl rfl
 ·exact .inl rfl
theorem qBM(b r:D):VL [.tup [.str "yes"],b,r] = .ok (.bl false):=by
 rfl
theorem YF{C:Addr}{vs:List V}{H:Hp}{Q:VK}{E:XK}(h:dB K C bf 3 vs H Q E):dB K C VL 3 vs H Q E:=by
 obtain⟨hl,B,ds,sb,rl,q⟩:=h;refine⟨hl,B,ds,sb,rl,?_⟩;rcases qBN ds with z | ⟨b,r,rfl⟩
 ·rw[z]at q;exact q.elim
 ·have z:bf [.tup [.str "yes"],b,r] = .ok (.bl false):=by unfold bf;simp
  rw[z]at q;rw[qBM];exact q
end
end zz
namespace Z3
open PySem L2
theorem ext{a b:Str}(e:a.cps.toList=b.cps.toList):a=b:=by
 obtain⟨⟨a⟩⟩:=a;obtain⟨⟨b⟩⟩:=b;simp only at e;rw[e]
end Z3
namespace Gv
open PySem L2 Z3
noncomputable def eF(c:Nat):List Nat->List (List Nat)
 | []=>[[]]
 | x::xs=>if x=c then []::eF c xs else match eF c xs with
  | []=>[[x]]
  | w::ws=>(x::w)::ws
noncomputable def Cq(c:Nat):List (List Nat)->List Nat
 | []=>[]
 | w::ws=>w++ws.flatMap fun v=>c::v
noncomputable def pre(l:List Nat):List (List Nat)->List (List Nat)
 | []=>[l]
 | w::ws=>(l++w)::ws
theorem pM(c:Nat)(l:List Nat):eF c l≠[]:=by
 cases l with
 | nil=>simp [eF]
 | cons x xs=>
  unfold eF
  split
  ·simp
  ·split <;> simp
theorem yx{c x:Nat}(h:x≠c)(l:List Nat):eF c (x::l)=pre [x] (eF c l):=by
 rw[eF,if_neg h]
 cases eF c l <;> rfl
theorem Q7(a b:List Nat){l:List (List Nat)}(h:l≠[]):pre a (pre b l)=pre (a++b) l:=by
 cases l with
 | nil=>exact absurd rfl h
 | cons w ws=>simp [pre]
theorem Hd{l:List (List Nat)}(h:l≠[]):pre [] l=l:=by
 cases l with
 | nil=>exact absurd rfl h
 | cons w ws=>rfl
theorem Bg{c:Nat}{w:List Nat}(h:c∉w)(l:List Nat):eF c (w++l)=pre w (eF c l):=by
 induction w with
 | nil=>rw[List.nil_append,Hd (pM c l)]
 | cons x w ih=>
  have hx:x≠c:=fun e=>h (by rw[e];exact Aa);rw[List.cons_append,yx hx,ih (fun m=>h (wy _ m)),Q7 _ _ (pM c l)];rfl
theorem Mr{c:Nat}{w:List Nat}(h:c∉w):eF c w=[w]:=by
 have:=Bg h [];rw[xF]at this;rw[this];show [w++[]]=[w];rw[xF]
theorem Ft(c:Nat)(l:List Nat):eF c (c::l)=[]::eF c l:=by rw[eF,if_pos rfl]
theorem Jr{c:Nat}{w:List Nat}(h:c∉w)(l:List Nat):eF c (w++c::l)=w::eF c l:=by
 rw[Bg h,Ft];show (w++[])::_=_;rw[xF]
theorem Kh(c:Nat)(w v:List Nat)(ws:List (List Nat)):Cq c (w::v::ws)=w++c::Cq c (v::ws):=by
 show w++((c::v)++ws.flatMap _)=w++c::(v++_);rfl
theorem uM{c:Nat}:∀ {ws:List (List Nat)},ws≠[]->(∀ w∈ws,c∉w)->eF c (Cq c ws)=ws
 | [],h,_=>absurd rfl h
 | [w],_,h=>by
  show eF c (w++[])=[w];rw[xF];exact Mr (h w Aa)
 | w::v::ws,_,h=>by
  rw[Kh,Jr (h w List.mem_cons_self),uM (by simp) (fun x hx=>h x (List.mem_cons_of_mem _ hx))]
theorem Pk:(" " : Str).cps.toList=[32]:=by decide +kernel
theorem Ga(g:Array Nat):∀(ws:List Str)(a:Array Nat),(ws.foldl (fun acc p=>acc++g++p.cps) a).toList=a.toList++ws.flatMap fun p=>g.toList++p.cps.toList
 | [],a=>by simp
 | w::ws,a=>by
  rw[List.foldl_cons,Ga g ws];simp [List.append_assoc]
theorem join_list{sep:Str}{c:Nat}(hs:sep.cps.toList=[c])(ws:List Str):(Txt.join sep ws).cps.toList=Cq c (ws.map fun z=>z.cps.toList):=by
 show ((ws.drop 1).foldl (fun acc p=>acc++sep.cps++p.cps) (ws.headD Str.empty).cps).toList=_;rw[Ga,hs]
 cases ws with
 | nil=>rfl
 | cons w ws=>
  show w.cps.toList++ws.flatMap (fun p=>[c]++p.cps.toList)=w.cps.toList++(ws.map fun z=>z.cps.toList).flatMap fun v=>c::v;congr 1
  induction ws with
  | nil=>rfl
  | cons x ws ih=>rw[List.flatMap_cons,List.map_cons,List.flatMap_cons,ih];rfl
noncomputable def iz(l:List Nat)(c:Nat)(p n:Nat):List Nat:=(List.range' p n).filter fun i=>l[i]?==some c
theorem subAt_one(x sep:Str)(c:Nat)(hs:sep.cps = #[c])(i:Nat)(hi:i<x.cps.size):Builtin.Str.subAt x sep i=(x.cps.toList[i]?==some c):=by
 unfold Builtin.Str.subAt
 have e:x.cps.extract i (i+sep.length) = #[x.cps[i]]:=by
  have:sep.length=1:=by show sep.cps.size=1;rw[hs];rfl
  rw[this];apply Array.ext';rw[Array.toList_extract];simp [List.extract,List.take_one,List.head?_drop,hi]
 rw[e,hs]
 have e2:x.cps.toList[i]? = some x.cps[i]:=by simp [hi]
 rw[e2];rw[Bool.eq_iff_iff];simp
theorem uR{β:Type}(f:Nat->β->β)(g:Nat->β->Id (ForInStep β))(h:∀ i b,g i b=pure (.yield (f i b))):∀(l:List Nat)(b:β),(forIn (m:=Id) l b g)=pure (l.foldl (fun b i=>f i b) b)
 | [],b=>rfl
 | x::l,b=>by
  rw[List.forIn_cons,h];show forIn l (f x b) g=_;rw[uR f g h l];rfl
noncomputable def yu(x sep:Str)(i:Nat)(b:Array Nat×Nat):Array Nat×Nat:=if (decide (b.1.size<x.length+1)&&decide (b.2<=i)&&decide (i+sep.length<=x.length)&&Builtin.Str.subAt x sep i)=true then (b.1.push i,i+sep.length) else b
theorem QC(x sep:Str)(c:Nat)(hs:sep.cps = #[c]):∀ k,k<=x.length->∃ fr,fr<=k/\(List.range' 0 k).foldl (fun b i=>yu x sep i b) ((#[]:Array Nat),0)=((iz x.cps.toList c 0 k).toArray,fr)
 | 0,_=>⟨0,jj _,rfl⟩
 | k+1,h=>by
  have hl:sep.length=1:=by show sep.cps.size=1;rw[hs];rfl
  have hn:x.length=x.cps.size:=rfl;obtain⟨fr,h1,h2⟩:=QC x sep c hs k (by omega)
  have hc:(iz x.cps.toList c 0 k).length<=k:=by
   unfold iz;have:=qFE (fun i=>x.cps.toList[i]?==some c) (List.range' 0 k);rw[List.length_range']at this;exact this
  have qDP:iz x.cps.toList c 0 (k+1)=iz x.cps.toList c 0 k++(if (x.cps.toList[k]?==some c)=true then [k] else []):=by
   unfold iz;rw[List.range'_1_concat,List.filter_append,Nat.zero_add];congr 1;simp only[List.filter_cons,List.filter_nil]
  rw[List.range'_1_concat,List.foldl_append,h2,qDP]
  have est:yu x sep k ((iz x.cps.toList c 0 k).toArray,fr)=if (x.cps.toList[k]?==some c)=true then ((iz x.cps.toList c 0 k).toArray.push k,k+1) else ((iz x.cps.toList c 0 k).toArray,fr):=by
   unfold yu;rw[subAt_one x sep c hs k (by omega),hl,wk,decide_eq_true (show (iz x.cps.toList c 0 k).length<x.length+1 by omega),decide_eq_true (show fr<=k from h1),decide_eq_true (show k+1<=x.length by omega)];rfl
  simp only[List.foldl_cons,List.foldl_nil,Nat.zero_add];rw[est]
  by_cases hk:(x.cps.toList[k]?==some c)=true
  ·rw[if_pos hk,if_pos hk];exact⟨k+1,Nat.le_refl _,by simp⟩
  ·rw[if_neg hk,if_neg hk];exact⟨fr,by omega,by simp⟩
theorem occ_eq(x sep:Str)(c:Nat)(hs:sep.cps = #[c]):Builtin.Str.occurrences x sep 0 x.length (x.length+1)=iz x.cps.toList c 0 x.length:=by
 have hl:sep.length=1:=by show sep.cps.size=1;rw[hs];rfl
 show (forIn (m:=Id) [:x.length+1] ((#[]:Array Nat),(0:Nat)) (fun (i:Nat) b=>if (decide (b.1.size<x.length+1)&&decide (b.2<=i)&&decide (i+sep.length<=x.length)&&Builtin.Str.subAt x sep i)=true then pure (.yield (b.1.push i,i+sep.length)) else pure (.yield (b.1,b.2)))).1.toList=_;rw[Std.Legacy.Range.forIn_eq_forIn_range'];simp only[Std.Legacy.Range.size,Nat.sub_zero,Nat.add_sub_cancel,Nat.div_one];rw[uR (yu x sep) _ (fun i b=>by unfold yu;split <;> rfl)];show ((List.range' 0 (x.length+1)).foldl (fun b i=>yu x sep i b) (#[],0)).1.toList=_;obtain⟨fr,_,h2⟩:=QC x sep c hs x.length (jj _);rw[List.range'_1_concat,List.foldl_append,h2];simp only[List.foldl_cons,List.foldl_nil,Nat.zero_add]
 have est:yu x sep x.length ((iz x.cps.toList c 0 x.length).toArray,fr)=((iz x.cps.toList c 0 x.length).toArray,fr):=by
  unfold yu;rw[hl,decide_eq_false (show ¬ x.length+1<=x.length by omega),Bool.and_false,Bool.false_and];rfl
 rw[est]
noncomputable def mk(l:List Nat):Str:=⟨l.toArray⟩
theorem xH(x:Str)(i j:Nat):Builtin.Str.strSub x i j=mk ((x.cps.toList.drop i).take (j-i)):=by
 apply Z3.ext;show (x.cps.extract i j).toList=((x.cps.toList.drop i).take (j-i)).toArray.toList;rw[Array.toList_extract]
theorem xR(x:Str)(c:Nat):∀(k p q:Nat),p+k=x.length->q<=p->((q::(iz x.cps.toList c p k).map (· + 1)).zip (iz x.cps.toList c p k++[x.length])).map (fun (i,j)=>Builtin.Str.strSub x i j)=(pre ((x.cps.toList.drop q).take (p-q)) (eF c (x.cps.toList.drop p))).map mk
 | 0,p,q,h,hq=>by
  have hn:x.length=x.cps.toList.length:=by simp [Str.length]
  have e0:iz x.cps.toList c p 0=[]:=rfl;rw[e0,List.drop_of_length_le (by omega:x.cps.toList.length<=p)];show [Builtin.Str.strSub x q x.length]=[mk (_++[])];rw[xH,xF,<-h,Nat.add_zero]
 | k+1,p,q,h,hq=>by
  have hn:x.length=x.cps.toList.length:=by simp [Str.length]
  have hp:p<x.cps.toList.length:=by omega
  have ed:x.cps.toList.drop p=x.cps.toList[p]::x.cps.toList.drop (p+1):=List.drop_eq_getElem_cons hp
  have ec:iz x.cps.toList c p (k+1)=if x.cps.toList[p]=c then p::iz x.cps.toList c (p+1) k else iz x.cps.toList c (p+1) k:=by
   unfold iz;rw[List.range'_succ,List.filter_cons,Az hp];simp
  rw[ec,ed]
  by_cases hc:x.cps.toList[p]=c
  ·rw[if_pos hc,hc,Ft];have ih:=xR x c k (p+1) (p+1) (by omega) (jj _);rw[Nat.sub_self,List.take_zero,Hd (pM _ _)]at ih;show Builtin.Str.strSub x q p::_=mk (_++[])::(eF c (x.cps.toList.drop (p+1))).map mk;rw[xF,xH,<-ih];rfl
  ·rw[if_neg hc,yx hc,Q7 _ _ (pM _ _),xR x c k (p+1) q (by omega) (by omega)];congr 2;rw[show p+1-q=(p-q)+1 by omega,qFF,List.getElem?_drop,show q+(p-q)=p by omega,Az hp];rfl
theorem Jq{x sep:Str}{c:Nat}(hs:sep.cps = #[c])(hc:c<256):Txt.split x sep=(eF c x.cps.toList).map mk:=by
 have hl:sep.length=1:=by show sep.cps.size=1;rw[hs];rfl
 have hn:x.length=x.cps.toList.length:=by simp [Str.length]
 have hk:Builtin.Str.strKind sep=1:=by
  unfold Builtin.Str.strKind;rw[hs,if_pos (by simp [hc])]
 have hk2:¬ Builtin.Str.strKind x<1:=by
  unfold Builtin.Str.strKind
  split
  ·decide
  ·split <;> decide
 have hw:=xR x c x.length 0 0 (by omega) (jj _);rw[Nat.sub_self,List.take_zero,List.drop_zero,Hd (pM _ _)]at hw
 have hx:mk x.cps.toList=x:=by
  apply Z3.ext;simp [mk]
 unfold Txt.split;rw[occ_eq x sep c hs,hl,hk,decide_eq_false hk2,Bool.or_false]
 split
 ·rename_i h
  have h0:x.length=0:=by
   have:=of_decide_eq_true h;omega
  have e:x.cps.toList=[]:=List.length_eq_zero_iff.mp (by omega);rw[e]at hx ⊢;rw[<-hx];rfl
 ·split
  ·rename_i h
   have e:iz x.cps.toList c 0 x.length=[]:=List.isEmpty_iff.mp h;rw[e]at hw;rw[<-hw];show [x]=[Builtin.Str.strSub x 0 x.length];rw[xH,List.drop_zero,Nat.sub_zero,zl9 (by omega),hx]
  ·exact hw
theorem Bh:(" " : Str).cps = #[32]:=by decide +kernel
noncomputable def noC(c:Nat)(z:Str):Prop:=c∉z.cps.toList
theorem yw{z:Str}{ws:List Str}(h:z.cps.toList=Cq 32 (ws.map fun y=>y.cps.toList))(h0:ws≠[])(hw:∀ y∈ws,noC 32 y):Txt.split z " " = ws:=by
 rw[Jq Bh (by decide),h,uM (by simpa using h0) (fun w hw'=>by
  obtain⟨y,hy,rfl⟩:=Qo.mp hw'
  exact hw y hy),List.map_map]
 have:∀ y:Str,(mk ∘ fun y:Str=>y.cps.toList) y=y:=fun y=>by
  apply Z3.ext;simp [mk]
 rw[List.map_congr_left (g:=id) (fun y _=>this y),List.map_id]
noncomputable def Bf(x sep:Str)(i:Nat)(b:Array Nat×Nat):Array Nat×Nat:=if (decide (b.1.size<1)&&decide (b.2<=i)&&decide (i+sep.length<=x.length)&&Builtin.Str.subAt x sep i)=true then (b.1.push i,i+sep.length) else b
theorem KC(x sep:Str)(c:Nat)(w r:List Nat)(hs:sep.cps = #[c])(hx:x.cps.toList=w++c::r)(hc:c∉w):∀ k,k<=x.length+1->(List.range' 0 k).foldl (fun b i=>Bf x sep i b) ((#[]:Array Nat),0)=if k<=w.length then (#[],0) else (#[w.length],w.length+1)
 | 0,_=>by rw[if_pos (Nat.zero_le _)];rfl
 | k+1,h=>by
  have hl:sep.length=1:=by show sep.cps.size=1;rw[hs];rfl
  have hn:x.length=x.cps.size:=rfl
  have hz:x.cps.size=w.length+1+r.length:=by rw[<-Array.length_toList,hx,rQ,dJ];omega
  rw[List.range'_1_concat,List.foldl_append,KC x sep c w r hs hx hc k (by omega)];simp only[List.foldl_cons,List.foldl_nil,Nat.zero_add]
  by_cases h1:k<w.length
  ·rw[if_pos (by omega),if_pos (by omega)];unfold Bf;rw[subAt_one x sep c hs k (by omega),hx,zw3 h1]
   have:(w[k]?==some c)=false:=by
    rw[Az h1,beq_eq_false_iff_ne];intro z;exact hc (MN z▸Qn h1)
   rw[this,Bool.and_false];rfl
  ·by_cases h2:k=w.length
   ·subst h2;rw[if_pos (jj _),if_neg (by omega)];unfold Bf;rw[subAt_one x sep c hs _ (by omega),hx,zw4 (jj _),Nat.sub_self,hl,decide_eq_true (show w.length+1<=x.length by omega)];simp
   ·rw[if_neg (by omega),if_neg (by omega)];unfold Bf;rfl
theorem qFL{x sep:Str}{c:Nat}{w r:List Nat}(hs:sep.cps = #[c])(hx:x.cps.toList=w++c::r)(hc:c∉w):Builtin.Str.occurrences x sep 0 x.length 1=[w.length]:=by
 show (forIn (m:=Id) [:x.length+1] ((#[]:Array Nat),(0:Nat)) (fun (i:Nat) b=>if (decide (b.1.size<1)&&decide (b.2<=i)&&decide (i+sep.length<=x.length)&&Builtin.Str.subAt x sep i)=true then pure (.yield (b.1.push i,i+sep.length)) else pure (.yield b))).1.toList=_;rw[Std.Legacy.Range.forIn_eq_forIn_range'];simp only[Std.Legacy.Range.size,Nat.sub_zero,Nat.add_sub_cancel,Nat.div_one];rw[uR (Bf x sep) _ (fun i b=>by unfold Bf;split <;> rfl)];show ((List.range' 0 (x.length+1)).foldl (fun b i=>Bf x sep i b) (#[],0)).1.toList=_
 have hz:x.cps.size=w.length+1+r.length:=by rw[<-Array.length_toList,hx,rQ,dJ];omega
 have hn:x.length=x.cps.size:=rfl;rw[KC x sep c w r hs hx hc _ (jj _),if_neg (by omega)]
theorem Q9{x sep:Str}{c:Nat}{w r:List Nat}(hs:sep.cps = #[c])(hx:x.cps.toList=w++c::r)(hc:c∉w):DL.Jy x sep=[mk w,sep,mk r]:=by
 have hl:sep.length=1:=by show sep.cps.size=1;rw[hs];rfl
 have hz:x.cps.size=w.length+1+r.length:=by rw[<-Array.length_toList,hx,rQ,dJ];omega
 have hn:x.length=x.cps.size:=rfl;unfold DL.Jy;rw[qFL hs hx hc]
 dsimp only
 rw[xH,xH,hx,hl,hn,hz];simp
theorem ZC{c b0:Nat}{b:List Nat}(hb:b0≠c)(f:Nat->Bool)(hf:∀ z,f z=true↔z=c):∀ m,(List.replicate m c++b0::b).takeWhile f=List.replicate m c
 | 0=>by
  show (b0::b).takeWhile f=[];rw[List.takeWhile_cons,if_neg (fun z=>hb ((hf b0).mp z))]
 | m+1=>by
  show (c::(List.replicate m c++b0::b)).takeWhile f=_;rw[List.takeWhile_cons,if_pos ((hf c).mpr rfl),ZC hb f hf m];rfl
theorem GJ{x sep:Str}{c m b0:Nat}{b:List Nat}(hs:sep.cps = #[c])(hx:x.cps.toList=List.replicate m c++b0::b)(hb:b0≠c):Txt.lstripChars x sep=mk (b0::b):=by
 have hf:∀ z,sep.cps.contains z=true↔z=c:=fun z=>by rw[hs];simp
 have lo:stripLo sep.cps.contains true x=m:=by
  unfold stripLo;rw[if_pos rfl,hx,ZC hb _ hf,List.length_replicate]
 have hi:∀ k,stripHi sep.cps.contains false x k=x.length:=fun k=>rfl;unfold Txt.lstripChars Txt.stripBy stripSame stripped;rw[lo,hi]
 by_cases hm:m=0
 ·subst hm;rw[if_pos (by simp)];exact Z3.ext hx
 ·rw[if_neg (by simp [hm]),xH,hx]
  have hz:x.length=m+1+b.length:=by show x.cps.size=_;rw[<-Array.length_toList,hx,rQ,dJ,List.length_replicate];omega
  have hd:(List.replicate m c++b0::b).drop m=b0::b:=by
   conv=>lhs;arg 1;rw[show m=(List.replicate m c).length from (List.length_replicate ..).symm]
   rw[List.length_replicate];exact List.drop_left' (List.length_replicate ..)
  rw[hd,zl9 (by rw[dJ];omega)]
theorem qB4:("\n" : Str).cps = #[10]:=by decide +kernel
theorem U6{ws:List Str}(h0:ws≠[])(hw:∀ y∈ws,10∉y.cps.toList):Txt.split (Txt.join "\n" ws) "\n" = ws:=by
 rw[Jq qB4 (by decide),join_list (c:=10) (by decide +kernel),uM (by simpa using h0) (fun w h=>by obtain⟨y,hy,e⟩:=List.mem_map.mp h;rw[<-e];exact hw y hy),List.map_map];have:∀ y:Str,(mk ∘ fun z:Str=>z.cps.toList) y=y:=fun y=>Z3.ext rfl;rw[show (mk ∘ fun z:Str=>z.cps.toList)=id from funext this,List.map_id]
end Gv
namespace zz
open PySem L2 Zv DL
theorem qB5:cj [.bl true] = .ok .non:=rfl
theorem qB6:cj [.bl false] = .ex:=rfl
theorem Rx(ws:List Str):(ws.map D.str).all D.flat=true:=by
 rw[List.all_map,List.all_eq_true];exact fun _ _=>rfl
theorem wG(ng:Bool)(x:Str)(ws:List Str):Wo ng (.str x) (ws.map D.str) = .ok (.fr (.bl (ws.contains x != ng))):=by
 unfold Wo;rw[if_pos ⟨rfl,Rx ws⟩];congr 4;rw[List.any_map]
 induction ws with
 | nil=>rfl
 | cons y ws ih=>
  rw[List.any_cons,List.contains_cons,ih];congr 1;show (y==x)=(x==y);exact Bool.beq_comm
theorem yt{z:Str}{ws:List Str}(hl:z.length<=sizeLine)(hs:Txt.split z " " = ws)(hn:ws.length<=sizeLine)(he:ws.contains ("" : Str)=false):bK [.str z] = .ok (.lst (ws.map D.str)):=by
 have e1:aR 1 (fM "str" HB (aB 0) (aA (fC (.str " ")) aJ)) [.fr (.str z),.no] = .ok (.nx [.fr (.str z),.fr (.lst (ws.map D.str))]):=by
  have q:HB (.str z) [.str " "] = .ok (.ow (ws.map D.str)):=by
   show (if _ then _ else _)=_;rw[hs,if_pos ⟨by decide +kernel,hl,hn⟩]
  show ((HB (.str z) [.str " "]).bind _)=_;rw[q];rfl
 have e2:gB (aO cj 1 (aA (aL (inD true) (fC (.str "")) (aB 1)) aJ)) [.fr (.str z),.fr (.lst (ws.map D.str))] = .ok (.nx [.fr (.str z),.fr (.lst (ws.map D.str))]):=by
  have q:inD true (.str "") (.lst (ws.map D.str)) = .ok (.fr (.bl true)):=by
   show Wo true (.str "") (ws.map D.str)=_;rw[wG,he];rfl
  show ((((inD true (.str "") (.lst (ws.map D.str))).bind _).bind _).bind _)=_;rw[q];rfl
 show fin (ue [.fr (.str z),.no])=_;unfold ue;rw[bV e1,bV e2];rfl
structure lJ(row kd nm:Str)(d:Nat):Prop where
 is:row.cps.toList=List.replicate (2*d) 32++(kd.cps.toList++32::nm.cps.toList)
 kd0:∃ b0 b,kd.cps.toList=b0::b/\b0≠32
 kd1:32∉kd.cps.toList
 nm0:nm ≠ ""
 nm1:32∉nm.cps.toList
 len:row.length<=sizeLine
noncomputable def bareOf(kd nm:Str):Str:=Gv.mk (kd.cps.toList++32::nm.cps.toList)
section
variable{row kd nm:Str}{d:Nat}
theorem Hv(x:Str):Gv.mk x.cps.toList=x:=Z3.ext rfl
theorem lJ.strip(h:lJ row kd nm d):fZ (.str row) [.str " "] = .ok (.fr (.str (bareOf kd nm))):=by
 show (if _ then _ else _)=_;rw[if_pos h.len];obtain⟨b0,b,e,ne⟩:=h.kd0;rw[Gv.GJ (c:=32) (m:=2*d) (b0:=b0) (b:=b++32::nm.cps.toList) Gv.Bh (by rw[h.is,e];rfl) ne];unfold bareOf;rw[e];rfl
theorem yg:(bareOf kd nm).cps.toList=kd.cps.toList++32::nm.cps.toList:=rfl
theorem lJ.Qf(h:lJ row kd nm d):row.length=2*d+(bareOf kd nm).length:=by
 show row.cps.size=2*d+(bareOf kd nm).cps.size;rw[<-Array.length_toList,<-Array.length_toList,h.is,yg,rQ,List.length_replicate]
theorem lJ.JP(h:lJ row kd nm d):(bareOf kd nm).length<=sizeLine:=by have:=h.Qf;have:=h.len;omega
theorem lJ.part(h:lJ row kd nm d):rF (.str (bareOf kd nm)) [.str " "] = .ok (.fr (.tup [.str kd,.str " ",.str nm])):=by
 show (if _ then _ else _)=_;rw[if_pos ⟨by decide +kernel,h.JP⟩,Gv.Q9 (c:=32) (w:=kd.cps.toList) (r:=nm.cps.toList) Gv.Bh yg h.kd1,Hv,Hv];rfl
theorem Ie(h:lJ row kd nm d)(hk:kd = "plain" ∨ kd = "one" ∨ kd = "all"):dF [.str row] = .ok (.str "room"):=by
 have e1:aN (aL (inD false) (aL aj (fM "str" rF (fM "str" fZ (aB 0) (aA (fC (.str " ")) aJ)) (aA (fC (.str " ")) aJ)) (fC (.int 0))) (fC (.tup [.str "plain",.str "one",.str "all"]))) [.fr (.str row)] = .ok true:=by
  have z1:fM "str" fZ (aB 0) (aA (fC (.str " ")) aJ) [.fr (.str row)] = .ok (.fr (.str (bareOf kd nm))):=h.strip
  have z2:fM "str" rF (fM "str" fZ (aB 0) (aA (fC (.str " ")) aJ)) (aA (fC (.str " ")) aJ) [.fr (.str row)] = .ok (.fr (.tup [.str kd,.str " ",.str nm])):=by
   unfold fM at z1 ⊢;rw[z1];exact h.part
  have z3:inD false (.str kd) (.tup [.str "plain",.str "one",.str "all"]) = .ok (.fr (.bl true)):=by
   rcases hk with rfl | rfl | rfl <;> rfl
  show (((aL aj (fM "str" rF (fM "str" fZ (aB 0) (aA (fC (.str " ")) aJ)) (aA (fC (.str " ")) aJ)) (fC (.int 0))) _).bind _).bind _=_;unfold aL;rw[z2];show ((inD false (.str kd) (.tup [.str "plain",.str "one",.str "all"])).bind _)=_;rw[z3];rfl
 show fin (pZ [.fr (.str row)])=_;unfold pZ aX cz;rw[e1];rfl
theorem aa{α β:Type}(a:α)(f:α->Rz β):(Rz.ok a).bind f=f a:=rfl
theorem lJ.words(h:lJ row kd nm d):bK [.str (bareOf kd nm)] = .ok (.lst [.str kd,.str nm]):=by
 refine yt (ws:=[kd,nm]) h.JP (Gv.yw (by rw[yg];simp [Gv.Cq]) (by simp) fun y hy=>?_) (by rw[sizeLine_eq];exact (by decide:2<=16777216)) ?_
 ·rcases jo.mp hy with rfl | hy
  ·exact h.kd1
  ·rw[MT.mp hy];exact h.nm1
 ·obtain⟨b0,b,e,_⟩:=h.kd0
  have k0:kd ≠ "" := fun z=>by rw[z]at e;cases e
  rw[List.contains_cons,List.contains_cons,beq_eq_false_iff_ne.mpr (Ne.symm k0),beq_eq_false_iff_ne.mpr (Ne.symm h.nm0)];rfl
noncomputable def gC(nm kd:Str)(d:Int):D:=.tup [.str nm,.str kd,.int d,.str "",.str "",.tup [],.tup []]
theorem Ae(h:lJ row kd nm d):fP [.str row] = .ok (gC nm kd d):=by
 generalize hb:bareOf kd nm=bare
 have e1:aR 1 (fM "str" fZ (aB 0) (aA (fC (.str " ")) aJ)) [.fr (.str row),.no,.no,.no,.no,.no] = .ok (.nx [.fr (.str row),.fr (.str bare),.no,.no,.no,.no]):=by
  show ((fZ (.str row) [.str " "]).bind _)=_;rw[h.strip,hb];rfl
 have e2:aR 2 (aL lN (cW bD (aA (aB 0) aJ)) (cW bD (aA (aB 1) aJ))) [.fr (.str row),.fr (.str bare),.no,.no,.no,.no] = .ok (.nx [.fr (.str row),.fr (.str bare),.fr (.int ((2*d:Nat):Int)),.no,.no,.no]):=by
  have z1:bD [.str row] = .ok (.fr (.int row.length)):=if_pos h.len;have z2:bD [.str bare] = .ok (.fr (.int bare.length)):=if_pos (hb▸h.JP);show (((bD [.str row]).bind fun x=>(bD [.str bare]).bind fun y=>lN x.d y.d).bind _)=_;rw[z1,aa,z2,aa]
  have z3:((row.length:Nat):Int)-(bare.length:Nat)=((2*d:Nat):Int):=by
   have:=h.Qf;rw[hb]at this;omega
  show Rz.ok (Fl.nx [.fr (.str row),.fr (.str bare),.fr (.int (((row.length:Nat):Int)-(bare.length:Nat))),.no,.no,.no])=_;rw[z3]
 have e3:aR 3 (aO bK 1 (aA (aB 1) aJ)) [.fr (.str row),.fr (.str bare),.fr (.int ((2*d:Nat):Int)),.no,.no,.no] = .ok (.nx [.fr (.str row),.fr (.str bare),.fr (.int ((2*d:Nat):Int)),.fr (.lst [.str kd,.str nm]),.no,.no]):=by
  show (((bK [.str bare]).bind _).bind _)=_;rw[<-hb,h.words];rfl
 have e4:aR 4 (aO pR 2 (aA (J7 (aB 3) (jd (fC (.int 2))) J8) (aA (fC (.str "keeps")) aJ))) [.fr (.str row),.fr (.str bare),.fr (.int ((2*d:Nat):Int)),.fr (.lst [.str kd,.str nm]),.no,.no] = .ok (.nx [.fr (.str row),.fr (.str bare),.fr (.int ((2*d:Nat):Int)),.fr (.lst [.str kd,.str nm]),.fr (.tup [.str "",.lst []]),.no]):=by
  rfl
 have e5:aR 5 (aO pR 2 (aA (aL aj (aB 4) (fC (.int 1))) (aA (fC (.str "lamp")) aJ))) [.fr (.str row),.fr (.str bare),.fr (.int ((2*d:Nat):Int)),.fr (.lst [.str kd,.str nm]),.fr (.tup [.str "",.lst []]),.no] = .ok (.nx [.fr (.str row),.fr (.str bare),.fr (.int ((2*d:Nat):Int)),.fr (.lst [.str kd,.str nm]),.fr (.tup [.str "",.lst []]),.fr (.tup [.str "",.lst []])]):=by
  rfl
 have m2:((2*d:Nat):Int)%2=0:=by omega
 have d2:((2*d:Nat):Int)/2=(d:Int):=by omega
 generalize ((2*d:Nat):Int)=dd at *;show fin (nJ [.fr (.str row),.no,.no,.no,.no,.no])=_;unfold nJ;rw[bV e1,bV e2,bV e3,bV e4,bV e5]
 have e6:gB (aO cj 1 (aA (dO (aL (bh false) (aL cC (aB 2) (fC (.int 2))) (fC (.int 0))) (dO (aL pY (cW bD (aA (aB 3) aJ)) (fC (.int 1))) (aL (bh false) (cW bD (aA (aL aj (aB 5) (fC (.int 1))) aJ)) (fC (.int 0))))) aJ)) [.fr (.str row),.fr (.str bare),.fr (.int dd),.fr (.lst [.str kd,.str nm]),.fr (.tup [.str "",.lst []]),.fr (.tup [.str "",.lst []])] = .ok (.nx [.fr (.str row),.fr (.str bare),.fr (.int dd),.fr (.lst [.str kd,.str nm]),.fr (.tup [.str "",.lst []]),.fr (.tup [.str "",.lst []])]):=by
  have z:aL (bh false) (aL cC (aB 2) (fC (.int 2))) (fC (.int 0)) [.fr (.str row),.fr (.str bare),.fr (.int dd),.fr (.lst [.str kd,.str nm]),.fr (.tup [.str "",.lst []]),.fr (.tup [.str "",.lst []])] = .ok (.fr (.bl true)):=by
   show Rz.ok (W.fr (D.bl ((dd%2==0) != false)))=_;rw[m2];rfl
  unfold gB aO aA dO;rw[z];rfl
 rw[bV e6];show Rz.ok (D.tup [.str nm,.str kd,.int (dd/2),.str "",.str "",.tup [],.tup []])=_;rw[d2];rfl
end
theorem tZ{c:FT}{e:FE}{cs:List Sl}{h:D->D}:∀ {ds:List D},(∀ d∈ds,c (.fr d::cs) = .ok true)->(∀ d∈ds,e (.fr d::cs) = .ok (.fr (h d)))->eY c e cs ds = .ok (ds.map h)
 | [],_,_=>rfl
 | d::ds,h1,h2=>by
  rw[eY,h1 d Aa,aa,if_pos rfl,h2 d Aa,aa];show (eY c e cs ds).bind _=_;rw[tZ (fun x hx=>h1 x (wy _ hx)) (fun x hx=>h2 x (wy _ hx))];rfl
structure Rd where
 nm:Str
 kd:Str
 d:Int
noncomputable def Rd.D(r:Rd):DL.D:=gC r.nm r.kd r.d
theorem zf{rs:List Rd}(hl:rs.length<=sizeLine):dI [.lst (rs.map Rd.D)] = .ok (.lst ((rs.map Rd.nm).map D.str)):=by
 have z:eY lU (aL aj (aB 0) (fC (.int 0))) [] (rs.map Rd.D) = .ok ((rs.map Rd.nm).map D.str):=by
  rw[tZ (h:=fun x=>match x with | .tup (y::_)=>y | _=>.non) (fun _ _=>rfl) (fun x hx=>?_),List.map_map,List.map_map]
  ·rfl
  ·obtain⟨r,_,rfl⟩:=Qo.mp hx;rfl
 show fin (((if (rs.map Rd.D).length<=sizeLine then (eY lU (aL aj (aB 0) (fC (.int 0))) [] (rs.map Rd.D)).bind fun l=>.ok (W.ow l) else .st)).bind _)=_;rw[if_pos (by rw[jH];exact hl),z];rfl
noncomputable def qy(nm:Str):Prop:=dN [.str nm] = .ok (.bl true)
theorem dG{F:List D->Rz D}{ds:List D}{d:D}(h:F ds = .ok d):c7 F ds = .ok d:=by unfold c7;rw[h]
theorem vy{nm:Str}{ns:List Str}(hw:qy nm):d7 [.str nm,.lst (ns.map D.str)] = .ok (.bl (ns.contains nm)):=by
 have z1:eV (aO (c7 dN) 1 (aA (aB 0) aJ)) [.fr (.str nm),.fr (.lst (ns.map D.str))] = .ok (.fr (.bl false)):=by
  show ((((c7 dN [.str nm])).bind _).bind _)=_;rw[dG hw];rfl
 have z2:aL (inD false) (aB 0) (aB 1) [.fr (.str nm),.fr (.lst (ns.map D.str))] = .ok (.fr (.bl (ns.contains nm))):=by
  show Wo false (.str nm) (ns.map D.str)=_;rw[wG]
  cases ns.contains nm <;> rfl
 show fin ((wM (eV (aO (c7 dN) 1 (aA (aB 0) aJ))) (aL (inD false) (aB 0) (aB 1)) [.fr (.str nm),.fr (.lst (ns.map D.str))]).bind _)=_;unfold wM;rw[z1,aa];show fin ((aL (inD false) (aB 0) (aB 1) [.fr (.str nm),.fr (.lst (ns.map D.str))]).bind _)=_;rw[z2];rfl
theorem wD(l:List D)(x:D):aj (.lst (l++[x])) (.int (-1)) = .ok (.fr x):=by
 have z:yj (l++[x]) (-1)=some x:=by
  unfold yj Wn;rw[if_neg (by decide),if_pos (by rw[List.length_append];simp;omega)]
  have e:(-1+((l++[x]).length:Int)).toNat=l.length:=by rw[List.length_append];simp;omega
  show (l++[x])[(-1+((l++[x]).length:Int)).toNat]? = some x;rw[e];simp
 show Rf (yj (l++[x]) (-1))=_;rw[z];rfl
noncomputable def fW(rs:List Rd)(d:Int):Bool:=match rs.getLast? with
 | none=>d != 0
 | some r => !(decide (1<=d)&&decide (d<=r.d+1))||decide (12<d)
theorem Vw(rs:List Rd)(d:Int):cM [.int d,.lst (rs.map Rd.D)] = .ok (.bl (fW rs d)):=by
 rcases List.eq_nil_or_concat rs with rfl | ⟨rs,r,rfl⟩
 ·show Rz.ok (D.bl ((d==0) != true))=_;unfold fW bne
  cases d==0 <;> rfl
 ·rw[List.concat_eq_append,Wl];show cM [.int d,.lst (rs.map Rd.D++[r.D])]=_
  have e1:aN (aL (bh false) (cW bD (aA (aB 1) aJ)) (fC (.int 0))) [.fr (.int d),.fr (.lst (rs.map Rd.D++[r.D]))] = .ok false:=by
   have z:(((rs.map Rd.D++[r.D]).length:Int)==0)=false:=by
    rw[rQ,beq_eq_false_iff_ne];simp;omega
   show Rz.ok ((((rs.map Rd.D++[r.D]).length:Int)==0) != false)=_;rw[z];rfl
  have e2:aL bM (aL aj (aL aj (aB 1) (vB j9 (fC (.int 1)))) (fC (.int 2))) (fC (.int 1)) [.fr (.int d),.fr (.lst (rs.map Rd.D++[r.D]))] = .ok (.fr (.int (r.d+1))):=by
   show (((aj (.lst (rs.map Rd.D++[r.D])) (.int (-1))).bind _).bind _)=_;rw[wD];rfl
  show fin (jc [.fr (.int d),.fr (.lst (rs.map Rd.D++[r.D]))])=_;unfold jc;rw[bV (ρ':=[.fr (.int d),.fr (.lst (rs.map Rd.D++[r.D]))]) (by unfold cz;rw[e1];rfl)]
  have e3:qD zq zq (fC (.int 1)) (aB 0) (aL bM (aL aj (aL aj (aB 1) (vB j9 (fC (.int 1)))) (fC (.int 2))) (fC (.int 1))) [.fr (.int d),.fr (.lst (rs.map Rd.D++[r.D]))] = .ok (.fr (.bl (decide (1<=d)&&decide (d<=r.d+1)))):=by
   unfold qD;rw[e2];show (if decide (1<=d)=true then _ else _)=_
   cases decide (1<=d) <;> rfl
  unfold az wM eV;rw[e3]
  have z:fW (rs++[r]) d=(!(decide (1<=d)&&decide (d<=r.d+1))||decide (12<d)):=by
   unfold fW;rw[List.getLast?_concat]
  rw[z]
  cases (decide (1<=d)&&decide (d<=r.d+1)) <;> rfl
theorem end_none(r:Rd):cU [r.D,.lst []] = .ok (.bl (r.kd != "plain")):=by
 have e1:aN (aL (bh false) (aL aj (aB 0) (fC (.int 1))) (fC (.str "plain"))) [.fr r.D,.fr (.lst []),.fr (.bl false)] = .ok ((r.kd == "plain") != false):=rfl;show fin (gH [.fr r.D,.fr (.lst []),.no])=_;unfold gH;rw[bV (ρ':=[.fr r.D,.fr (.lst []),.fr (.bl false)]) rfl];unfold aX cz;rw[e1];unfold bne
 cases r.kd == "plain" <;> rfl
theorem Yh(r:Rd)(nm kd:Str)(d:Int):cU [r.D,.lst [gC nm kd d]] = .ok (.bl ((r.kd == "plain")==decide (r.d<d))):=by
 have e1:aN (aL (bh false) (aL aj (aB 0) (fC (.int 1))) (fC (.str "plain"))) [.fr r.D,.fr (.lst [gC nm kd d]),.fr (.bl (decide (r.d<d)))] = .ok ((r.kd == "plain") != false):=rfl;show fin (gH [.fr r.D,.fr (.lst [gC nm kd d]),.no])=_;unfold gH;rw[bV (ρ':=[.fr r.D,.fr (.lst [gC nm kd d]),.fr (.bl (decide (r.d<d)))]) rfl];unfold aX cz;rw[e1]
 cases r.kd == "plain" <;> cases decide (r.d<d) <;> rfl
theorem aZ{a:FE}{r:FA}{ρ:List Sl}{w:W}{ws:List W}(h:a ρ = .ok w)(h2:r ρ = .ok ws):aA a r ρ = .ok (w.a::ws):=by unfold aA;rw[h,aa,h2];rfl
theorem bF{F:List D->Rz D}{n:Nat}{a:FA}{ρ:List Sl}{ws:List W}{d:D}(h:a ρ = .ok ws)(hn:ws.length=n)(hF:F (ws.map W.d) = .ok d)(hd:ws.all W.rst=true∨d.nl=true):aO F n a ρ = .ok (.fr d):=by
 unfold aO;rw[h,aa,if_pos hn,hF,aa,if_pos hd]
theorem wN{F:List D->Rz D}{n:Nat}{a:FA}{ρ:List Sl}{ws:List W}(h:a ρ = .ok ws)(hn:ws.length=n)(hF:F (ws.map W.d) = .ex):aO F n a ρ = .ex:=by
 unfold aO;rw[h,aa,if_pos hn,hF];rfl
theorem bJ{f:FE}{ρ:List Sl}{b:Bool}(h:f ρ = .ok (.fr (.bl b))):aN f ρ = .ok b:=by unfold aN;rw[h];rfl
theorem sr{f:FE}{ρ:List Sl}{b:Bool}(h:f ρ = .ok (.fr (.bl b))):eV f ρ = .ok (.fr (.bl (!b))):=by unfold eV;rw[h];rfl
theorem iy{f g:FE}{ρ:List Sl}{b:Bool}{c:Bool}(h:f ρ = .ok (.fr (.bl b)))(h2:b=true->g ρ = .ok (.fr (.bl c))):dO f g ρ = .ok (.fr (.bl (b&&c))):=by
 unfold dO;rw[h]
 cases b with
 | true=>exact h2 rfl
 | false=>rfl
theorem QX{f g:FE}{ρ:List Sl}{b:Bool}{c:Bool}(h:f ρ = .ok (.fr (.bl b)))(h2:b=false->g ρ = .ok (.fr (.bl c))):wM f g ρ = .ok (.fr (.bl (b||c))):=by
 unfold wM;rw[h]
 cases b with
 | true=>rfl
 | false=>exact h2 rfl
theorem aM{g:D->D->Rz W}{a b:FE}{ρ:List Sl}{x y:W}{r:Rz W}(ha:a ρ = .ok x)(hb:b ρ = .ok y)(h:g x.d y.d=r):aL g a b ρ=r:=by unfold aL;rw[ha,aa,hb];exact h
noncomputable def iZ(kd:Str):Prop:=kd = "plain" ∨ kd = "one" ∨ kd = "all"
theorem RZ{kd:Str}(hk:iZ kd):inD true (.str kd) (.tup [.str "plain",.str "one",.str "all"]) = .ok (.fr (.bl false)):=by
 rcases hk with rfl | rfl | rfl <;> rfl
theorem Eg{rs:List Rd}{nm kd:Str}{d:Int}{bx ev:D}(hl:rs.length<=sizeLine)(hw:qy nm)(hk:iZ kd) :
  fQ [gC nm kd d,.lst (rs.map Rd.D),bx,ev] = .ok (.bl ((rs.map Rd.nm).contains nm||fW rs d)):=by
 generalize hρ:([.fr (gC nm kd d),.fr (.lst (rs.map Rd.D)),.fr bx,.fr ev,.fr (.str kd),.fr (.str "")]:List Sl)=ρ
 have e1:lq (aN (aO (c7 d7) 2 (aA (aL aj (aB 0) (fC (.int 0))) (aA (aO (c7 dI) 1 (aA (aB 1) aJ)) aJ)))) (aN (aL (inD true) (aB 4) (fC (.tup [.str "plain",.str "one",.str "all"])))) ρ = .ok ((rs.map Rd.nm).contains nm):=by
  have z1:aO (c7 dI) 1 (aA (aB 1) aJ) ρ = .ok (.fr (.lst ((rs.map Rd.nm).map D.str))):=by
   rw[<-hρ];show (((c7 dI [.lst (rs.map Rd.D)])).bind _)=_;rw[dG (zf hl)];rfl
  have z2:aO (c7 d7) 2 (aA (aL aj (aB 0) (fC (.int 0))) (aA (aO (c7 dI) 1 (aA (aB 1) aJ)) aJ)) ρ = .ok (.fr (.bl ((rs.map Rd.nm).contains nm))):=by
   have z3:aA (aL aj (aB 0) (fC (.int 0))) (aA (aO (c7 dI) 1 (aA (aB 1) aJ)) aJ) ρ = .ok [.fr (.str nm),.fr (.lst ((rs.map Rd.nm).map D.str))]:=by
    have z4:aL aj (aB 0) (fC (.int 0)) ρ = .ok (.fr (.str nm)):=by rw[<-hρ];rfl
    exact aZ z4 (aZ z1 rfl)
   exact bF z3 rfl (dG (vy hw)) (.inl rfl)
  have z5:aN (aL (inD true) (aB 4) (fC (.tup [.str "plain",.str "one",.str "all"]))) ρ = .ok false:=by
   rw[<-hρ];show ((inD true (.str kd) (.tup [.str "plain",.str "one",.str "all"])).bind _)=_;rw[RZ hk];rfl
  unfold lq;rw[z5];unfold aN;rw[z2]
  cases (rs.map Rd.nm).contains nm <;> rfl
 have e2:lq (aN (aO (c7 cM) 2 (aA (aL aj (aB 0) (fC (.int 2))) (aA (aB 1) aJ)))) (aN (aO (c7 dM) 2 (aA (aL aj (aB 0) (fC (.int 3))) (aA (aB 4) aJ)))) ρ = .ok (fW rs d):=by
  have z1:aN (aO (c7 cM) 2 (aA (aL aj (aB 0) (fC (.int 2))) (aA (aB 1) aJ))) ρ = .ok (fW rs d):=by
   rw[<-hρ];show ((((c7 cM [.int d,.lst (rs.map Rd.D)])).bind _).bind _)=_;rw[dG (Vw rs d)];rfl
  have z2:aN (aO (c7 dM) 2 (aA (aL aj (aB 0) (fC (.int 3))) (aA (aB 4) aJ))) ρ = .ok false:=by
   rw[<-hρ];rfl
  unfold lq;rw[z1,z2]
  cases fW rs d <;> rfl
 show fin (jy [.fr (gC nm kd d),.fr (.lst (rs.map Rd.D)),.fr bx,.fr ev,.no,.no])=_;unfold jy;rw[bV (ρ':=[.fr (gC nm kd d),.fr (.lst (rs.map Rd.D)),.fr bx,.fr ev,.fr (.str kd),.no]) rfl,bV (ρ':=ρ) (by rw[<-hρ];rfl)];unfold aX cz;rw[e1,aa]
 cases (rs.map Rd.nm).contains nm with
 | true=>rfl
 | false=>
  show fin (((lq (aN (aO (c7 cM) 2 (aA (aL aj (aB 0) (fC (.int 2))) (aA (aB 1) aJ)))) (aN (aO (c7 dM) 2 (aA (aL aj (aB 0) (fC (.int 3))) (aA (aB 4) aJ)))) ρ).bind _).bind _)=_;rw[e2,aa]
  cases fW rs d with
  | true=>rfl
  | false=>rw[<-hρ];rfl
theorem fj{C:Addr}{f:Str}{o:FE}{ρ:List Sl}{fs:List (Str×D)}{d:D}(h:o ρ = .ok (.fr (.obj C fs)))(hf:fs.lookup f=some d):dR C f o ρ = .ok (.fr d):=by
 unfold dR;rw[h];show (if C=C then _ else _)=_;rw[if_pos rfl,hf];rfl
noncomputable def oU(last:Str)(heads:List D)(rs:List Rd)(ds:List D):List (Str×D):=[("last",.str last),("heads",.lst heads),("boxes",.lst []),("events",.lst [.str "knock"]),("rooms",.lst (rs.map Rd.D)),("doors",.lst ds)]
noncomputable def yS(rs:List Rd)(d:Int):Bool:=match rs.getLast? with
 | none=>false
 | some r=>(r.kd == "plain")==decide (r.d<d)
noncomputable def lD(rs:List Rd)(nm:Str)(d:Int):Bool:=decide (rs.length<40)&&(!((rs.map Rd.nm).contains nm||fW rs d)&&!yS rs d)
theorem yV{last:Str}{heads:List D}{rs:List Rd}{ds:List D}:(oU last heads rs ds).lookup ("boxes" : Str)=some (.lst []):=rfl
theorem qp{last:Str}{heads:List D}{rs:List Rd}{ds:List D}:(oU last heads rs ds).lookup ("events" : Str)=some (.lst [.str "knock"]):=rfl
theorem qF{last:Str}{heads:List D}{rs:List Rd}{ds:List D}:(oU last heads rs ds).lookup ("rooms" : Str)=some (.lst (rs.map Rd.D)):=rfl
theorem Gg{last:Str}{heads:List D}{rs:List Rd}{ds:List D}:(oU last heads rs ds).lookup ("doors" : Str)=some (.lst ds):=rfl
theorem HJ{a b:FS}{ρ:List Sl}(h:a ρ = .ex):aX a b ρ = .ex:=by
 unfold aX;rw[h];rfl
theorem qES{f:FE}{ρ:List Sl}{w:W}(h:f ρ = .ok w):gB f ρ = .ok (.nx ρ):=by unfold gB;rw[h];rfl
theorem qER{f:FE}{ρ:List Sl}(h:f ρ = .ex):gB f ρ = .ex:=by unfold gB;rw[h];rfl
theorem mJ{f:FE}{ρ:List Sl}{b:Bool}(h:f ρ = .ok (.fr (.bl b))):gB (aO cj 1 (aA f aJ)) ρ=if b=true then .ok (.nx ρ) else .ex:=by
 cases b with
 | true=>exact qES (bF (aZ h rfl) rfl qB5 (.inl rfl))
 | false=>exact qER (wN (aZ h rfl) rfl qB6)
theorem nG{f:FE}{ρ:List Sl}{l:List D}(h:f ρ = .ok (.fr (.lst l))):cW bD (aA f aJ) ρ = .ok (.fr (.int l.length)):=by
 unfold cW;rw[aZ h rfl];rfl
section
variable{aC:Addr}{last row kd nm:Str}{heads:List D}{rs:List Rd}{ds:List D}{d:Nat}
theorem Hc(h:lJ row kd nm d)(hl:rs.length<=sizeLine)(hw:qy nm)(hk:iZ kd) :
  jE aC [.str row,.obj aC (oU last heads rs ds)]=if lD rs nm d=true then .ok (gC nm kd d) else .ex:=by
 have e1:aR 2 (dR aC "rooms" (aB 1)) [.fr (.str row),.fr (.obj aC (oU last heads rs ds)),.no,.no] = .ok (.nx [.fr (.str row),.fr (.obj aC (oU last heads rs ds)),.fr (.lst (rs.map Rd.D)),.no]):=by
  unfold aR;rw[fj (fs:=oU last heads rs ds) rfl qF];rfl
 have e2:aR 3 (aO fP 1 (aA (aB 0) aJ)) [.fr (.str row),.fr (.obj aC (oU last heads rs ds)),.fr (.lst (rs.map Rd.D)),.no] = .ok (.nx [.fr (.str row),.fr (.obj aC (oU last heads rs ds)),.fr (.lst (rs.map Rd.D)),.fr (gC nm kd d)]):=by
  unfold aR;rw[bF (F:=fP) (n:=1) (a:=aA (aB 0) aJ) (ρ:=[.fr (.str row),.fr (.obj aC (oU last heads rs ds)),.fr (.lst (rs.map Rd.D)),.no]) (ws:=[.fr (.str row)]) rfl rfl (Ae h) (.inl rfl)];rfl
 generalize hρ:([.fr (.str row),.fr (.obj aC (oU last heads rs ds)),.fr (.lst (rs.map Rd.D)),.fr (gC nm kd d)]:List Sl)=ρ
 have v1:aB 1 ρ = .ok (.fr (.obj aC (oU last heads rs ds))):=by rw[<-hρ];rfl
 have v2:aB 2 ρ = .ok (.fr (.lst (rs.map Rd.D))):=by rw[<-hρ];rfl
 have v3:aB 3 ρ = .ok (.fr (gC nm kd d)):=by rw[<-hρ];rfl
 have e3:=mJ (iy (b:=decide (rs.length<40)) (c:=!((rs.map Rd.nm).contains nm||fW rs d)) (f:=aL Xr (cW bD (aA (aB 2) aJ)) (fC (.int 40))) (g:=eV (aO (c7 fQ) 4 (aA (aB 3) (aA (aB 2) (aA (dR aC "boxes" (aB 1)) (aA (dR aC "events" (aB 1)) aJ)))))) (ρ:=ρ)
  (aM (nG v2) rfl (by show Rz.ok (W.fr (.bl (decide (((rs.map Rd.D).length:Int)<40))))=_;rw[jH,show decide ((rs.length:Int)<40)=decide (rs.length<40) from decide_eq_decide.mpr (by omega)]))
  (fun _=>sr (bF (aZ v3 (aZ v2 (aZ (fj v1 yV) (aZ (fj v1 qp) rfl)))) rfl (dG (Eg hl hw hk)) (.inl rfl))))
 have e4:gB (aO cj 1 (aA (wM (aL (bh false) (cW bD (aA (aB 2) aJ)) (fC (.int 0))) (eV (aO (c7 cU) 2 (aA (aL aj (aB 2) (vB j9 (fC (.int 1)))) (aA (fH (aA (aB 3) aJ)) aJ))))) aJ)) ρ=if (!yS rs d)=true then .ok (.nx ρ) else .ex:=by
  refine mJ ?_;rcases List.eq_nil_or_concat rs with e | ⟨rs',r,e⟩
  ·rw[e]at v2 ⊢;exact QX (b:=true) (c:=false) (aM (nG v2) rfl rfl) (fun z=>by cases z)
  ·rw[List.concat_eq_append]at e;rw[e,Wl]at v2
   have eb:yS rs d=((r.kd == "plain")==decide (r.d<d)):=by
    unfold yS;rw[e,List.getLast?_concat]
   rw[eb]
   have z0:(((rs'.map Rd.D++[r].map Rd.D).length:Int)==0)=false:=by
    rw[rQ,beq_eq_false_iff_ne];simp;omega
   refine QX (b:=false) (c:=!((r.kd == "plain")==decide (r.d<d))) (aM (nG v2) rfl ?_) (fun _=>sr (bF (ws:=[.fr r.D,.fr (.lst [gC nm kd d])]) (aZ (w:=.fr r.D) (aM v2 (y:=.fr (.int (-1))) rfl (wD _ _)) (aZ (w:=.ow [gC nm kd d]) ?_ rfl)) rfl (dG (Yh r nm kd d)) (.inl rfl)))
   ·show Rz.ok (W.fr (.bl ((((rs'.map Rd.D++[r].map Rd.D).length:Int)==0) != false)))=_;rw[z0];rfl
   ·unfold fH;rw[aZ v3 rfl];rfl
 show fin (sJ aC [.fr (.str row),.fr (.obj aC (oU last heads rs ds)),.no,.no])=_;unfold sJ;rw[bV e1,bV e2,hρ];unfold lD
 cases c1:(decide (rs.length<40)&&!((rs.map Rd.nm).contains nm||fW rs d)) with
 | false=>
  rw[c1]at e3;rw[HJ e3,<-Bool.and_assoc,c1];rfl
 | true=>
  rw[c1]at e3;rw[bV e3,<-Bool.and_assoc,c1]
  cases c2 : !yS rs d with
  | false=>
   rw[c2]at e4;rw[HJ e4];rfl
  | true=>
   rw[c2]at e4;rw[bV e4];unfold az;rw[v3];rfl
noncomputable def gA(last:Str)(heads:List D)(rs:List Rd)(ds:List D):Ms:=[("last",.va (.str last)),("heads",.li heads),("boxes",.li []),("events",.li [.str "knock"]),("rooms",.li (rs.map Rd.D)),("doors",.li ds)]
theorem R4(r:Rd):gF "rooms" (.li ((rs++[r]).map Rd.D)) (gA last heads rs ds)=gA last heads (rs++[r]) ds:=rfl
theorem R5(x:D):gF "doors" (.li (ds++[x])) (gA last heads rs ds)=gA last heads rs (ds++[x]):=rfl
theorem Uh(l:Str):gF "last" (.va (.str l)) (gA last heads rs ds)=gA l heads rs ds:=rfl
noncomputable def Ib(last:Str):Prop:=last = "event" ∨ last = "room" ∨ last = "door"
theorem Gu{k:Str}{b:Bool}{ρ:List Sl}(h0:aB 0 ρ = .ok (.bj aC (gA last heads rs ds)))(h2:aB 2 ρ = .ok (.fr (.str k))){t:D}(ht:eZ.lookup last=some t)(hb:inD false (.str k) t = .ok (.fr (.bl b))) :
  aL (inD false) (aB 2) (Zn eZ (dR aC "last" (aB 0))) ρ = .ok (.fr (.bl b)):=by
 have z1:dR aC "last" (aB 0) ρ = .ok (.fr (.str last)):=by
  unfold dR;rw[h0];show (if aC=aC then _ else _)=_;rw[if_pos rfl];rfl
 have z2:Zn eZ (dR aC "last" (aB 0)) ρ = .ok (.fr t):=by
  unfold Zn;rw[z1];show Rf (eZ.lookup last)=_;rw[ht];rfl
 exact aM h2 z2 hb
theorem XQ(nm kd:Str)(d:Int):(gC nm kd d).nl=true:=rfl
theorem Sv{e:FE}{x1 x2:Sl}{r:Rd}(he:e [.ob aC (gA last heads rs ds),x1,x2] = .ok (.fr r.D))(hl:rs.length<sizeLine)(h1:x1.nb=true)(h2:x2.nb=true):jl aC 0 "rooms" e [.ob aC (gA last heads rs ds),x1,x2] = .ok (.nx [.ob aC (gA last heads (rs++[r]) ds),x1,x2]):=by
 show (if aC=aC then ((e [.ob aC (gA last heads rs ds),x1,x2]).bind fun w=>w.z.bind fun d=>if (rs.map Rd.D).length<sizeLine/\([.ob aC (gA last heads rs ds),x1,x2]:List Sl).all Sl.nb=true then Rz.ok (Fl.nx (([.ob aC (gA last heads rs ds),x1,x2]:List Sl).set 0 (.ob aC (gF "rooms" (.li (rs.map Rd.D++[d])) (gA last heads rs ds))))) else .st) else .st)=_;rw[if_pos rfl,he,aa];show (if (rs.map Rd.D).length<sizeLine/\([.ob aC (gA last heads rs ds),x1,x2]:List Sl).all Sl.nb=true then Rz.ok (Fl.nx (([.ob aC (gA last heads rs ds),x1,x2]:List Sl).set 0 (.ob aC (gF "rooms" (.li (rs.map Rd.D++[r.D])) (gA last heads rs ds))))) else .st)=_;rw[if_pos ⟨by rw[jH];exact hl,by show (true&&(x1.nb&&(x2.nb&&true)))=true;rw[h1,h2];rfl⟩,show rs.map Rd.D++[r.D]=(rs++[r]).map Rd.D from by rw[Wl];rfl,R4];rfl
theorem Ov{e:FE}{x1 x2:Sl}(he:e [.ob aC (gA last heads rs ds),x1,x2] = .ex):jl aC 0 "rooms" e [.ob aC (gA last heads rs ds),x1,x2] = .ex:=by
 show (if aC=aC then ((e [.ob aC (gA last heads rs ds),x1,x2]).bind fun w=>w.z.bind fun d=>if (rs.map Rd.D).length<sizeLine/\([.ob aC (gA last heads rs ds),x1,x2]:List Sl).all Sl.nb=true then Rz.ok (Fl.nx (([.ob aC (gA last heads rs ds),x1,x2]:List Sl).set 0 (.ob aC (gF "rooms" (.li (rs.map Rd.D++[d])) (gA last heads rs ds))))) else .st) else .st)=_;rw[if_pos rfl,he];rfl
theorem Kg{x1:Sl}{k:Str}(h1:x1.nb=true):rB aC 0 "last" (aB 2) [.ob aC (gA last heads rs ds),x1,.fr (.str k)] = .ok (.nx [.ob aC (gA k heads rs ds),x1,.fr (.str k)]):=by
 show (if aC=aC/\(6:Nat)<1000/\([.ob aC (gA last heads rs ds),x1,.fr (.str k)]:List Sl).all Sl.nb=true then Rz.ok (Fl.nx (([.ob aC (gA last heads rs ds),x1,.fr (.str k)]:List Sl).set 0 (.ob aC (gF "last" (.va (.str k)) (gA last heads rs ds))))) else .st)=_;rw[if_pos ⟨rfl,by decide,by show (true&&(x1.nb&&(true&&true)))=true;rw[h1];rfl⟩,Uh];rfl
theorem Ly(h:lJ row kd nm d)(hl:rs.length<sizeLine)(hw:qy nm)(hk:iZ kd)(hL:Ib last) :
  gZ aC (gA last heads rs ds) [.str row]=if (last != "door" && lD rs nm d)=true then .ok (gA "room" heads (rs++[⟨nm,kd,d⟩]) ds,.non) else .ex:=by
 have e1:aR 2 (aO (c7 dF) 1 (aA (aB 1) aJ)) [.ob aC (gA last heads rs ds),.fr (.str row),.no] = .ok (.nx [.ob aC (gA last heads rs ds),.fr (.str row),.fr (.str "room")]):=by
  unfold aR;rw[bF (F:=c7 dF) (n:=1) (a:=aA (aB 1) aJ) (ρ:=[.ob aC (gA last heads rs ds),.fr (.str row),.no]) (ws:=[.fr (.str row)]) rfl rfl (dG (Ie h hk)) (.inl rfl)];rfl
 have e2:=mJ (Gu (aC:=aC) (last:=last) (heads:=heads) (rs:=rs) (ds:=ds) (k := "room") (b:=last != "door") (ρ:=[.ob aC (gA last heads rs ds),.fr (.str row),.fr (.str "room")]) rfl rfl (t:=(eZ.lookup last).getD .non) (by rcases hL with rfl | rfl | rfl <;> rfl) (by rcases hL with rfl | rfl | rfl <;> rfl))
 have e3:aO (jE aC) 2 (aA (aB 1) (aA (aB 0) aJ)) [.ob aC (gA last heads rs ds),.fr (.str row),.fr (.str "room")]=if lD rs nm d=true then .ok (.fr (gC nm kd d)) else .ex:=by
  have z:=Hc (aC:=aC) (last:=last) (heads:=heads) (ds:=ds) h (Nat.le_of_lt hl) hw hk
  cases c:lD rs nm d with
  | true=>
   rw[c,if_pos rfl]at z;exact bF (ws:=[.fr (.str row),.bj aC (gA last heads rs ds)]) rfl rfl z (.inr (XQ _ _ _))
  | false=>
   rw[c,if_neg pK]at z;exact wN (ws:=[.fr (.str row),.bj aC (gA last heads rs ds)]) rfl rfl z
 show Iz aC (Kq aC [.ob aC (gA last heads rs ds),.fr (.str row),.no])=_;unfold Kq;rw[bV e1]
 cases c1:last != "door" with
 | false=>
  rw[c1]at e2;rw[HJ e2];rfl
 | true=>
  rw[c1]at e2;rw[bV e2];have t1:aN (aL (bh false) (aB 2) (fC (.str "room"))) [.ob aC (gA last heads rs ds),.fr (.str row),.fr (.str "room")] = .ok true:=rfl
  cases c2:lD rs nm d with
  | false=>
   rw[c2,if_neg pK]at e3;rw[HJ (by unfold cz;rw[t1,aa,if_pos rfl];exact Ov e3)];rfl
  | true=>
   rw[c2,if_pos rfl]at e3;rw[bV (ρ':=[.ob aC (gA last heads (rs++[⟨nm,kd,d⟩]) ds),.fr (.str row),.fr (.str "room")]) (by unfold cz;rw[t1,aa,if_pos rfl];exact Sv (r:=⟨nm,kd,d⟩) e3 hl rfl rfl),Kg rfl];show (if aC=aC then _ else _)=_;rw[if_pos rfl];rfl
end
structure nj(row nm:Str):Prop where
 is:row.cps.toList=("door" : Str).cps.toList++32::(nm.cps.toList++32::(("knock" : Str).cps.toList++32::("stay" : Str).cps.toList))
 nm0:nm ≠ ""
 nm1:32∉nm.cps.toList
 len:row.length<=sizeLine
theorem JB:("door" : Str).cps.toList=[100,111,111,114]:=by decide +kernel
theorem QQ:("knock" : Str).cps.toList=[107,110,111,99,107]:=by decide +kernel
theorem U4:("stay" : Str).cps.toList=[115,116,97,121]:=by decide +kernel
section
variable{row nm:Str}
theorem nj.part(h:nj row nm):∃ r,rF (.str row) [.str " "] = .ok (.fr (.tup [.str "door",.str " ",.str r])):=by
 refine⟨Gv.mk (nm.cps.toList++32::(("knock" : Str).cps.toList++32::("stay" : Str).cps.toList)),?_⟩;show (if _ then _ else _)=_;rw[if_pos ⟨by decide +kernel,h.len⟩,Gv.Q9 (c:=32) Gv.Bh h.is (by rw[JB];decide),Hv];rfl
theorem nj.strip(h:nj row nm):fZ (.str row) [.str " "] = .ok (.fr (.str row)):=by
 show (if _ then _ else _)=_;have z:=h.is;rw[JB]at z;rw[if_pos h.len,Gv.GJ (c:=32) (m:=0) Gv.Bh z (by decide)];congr 3;exact Z3.ext z.symm
theorem Ig(h:nj row nm):dF [.str row] = .ok (.str "door"):=by
 obtain⟨r,hp⟩:=h.part;have z1:fM "str" fZ (aB 0) (aA (fC (.str " ")) aJ) [.fr (.str row)] = .ok (.fr (.str row)):=h.strip;have z0:fM "str" rF (aB 0) (aA (fC (.str " ")) aJ) [.fr (.str row)] = .ok (.fr (.tup [.str "door",.str " ",.str r])):=hp
 have z2:fM "str" rF (fM "str" fZ (aB 0) (aA (fC (.str " ")) aJ)) (aA (fC (.str " ")) aJ) [.fr (.str row)] = .ok (.fr (.tup [.str "door",.str " ",.str r])):=by
  unfold fM at z1 ⊢;rw[z1];exact hp
 have e1:aN (aL (inD false) (aL aj (fM "str" rF (fM "str" fZ (aB 0) (aA (fC (.str " ")) aJ)) (aA (fC (.str " ")) aJ)) (fC (.int 0))) (fC (.tup [.str "plain",.str "one",.str "all"]))) [.fr (.str row)] = .ok false:=
  bJ (aM (x:=.fr (.str "door")) (aM z2 rfl rfl) rfl rfl)
 show fin (pZ [.fr (.str row)])=_;unfold pZ;rw[bV (ρ':=[.fr (.str row)]) (by unfold cz;rw[e1];rfl)];unfold az;rw[aM (r:=.ok (.fr (.str "door"))) z0 rfl rfl];rfl
theorem nj.words(h:nj row nm):bK [.str row] = .ok (.lst [.str "door",.str nm,.str "knock",.str "stay"]):=by
 refine yt (ws:=["door",nm,"knock","stay"]) h.len (Gv.yw (by rw[h.is];simp [Gv.Cq]) (by simp) fun y hy=>?_) (by rw[sizeLine_eq];exact (by decide:4<=16777216)) ?_
 ·simp only[List.mem_cons,List.not_mem_nil,or_false]at hy;rcases hy with rfl | rfl | rfl | rfl
  ·show 32∉_;rw[JB];decide
  ·exact h.nm1
  ·show 32∉_;rw[QQ];decide
  ·show 32∉_;rw[U4];decide
 ·rw[List.contains_cons,List.contains_cons,beq_eq_false_iff_ne.mpr (Ne.symm h.nm0)];decide +kernel
end
noncomputable def qY(rs:List Rd):Bool:=match rs.getLast? with
 | none=>false
 | some r=>r.kd == "plain"
section
variable{aC:Addr}{last:Str}{heads:List D}{rs:List Rd}{ds:List D}
theorem Ce:gM aC [.obj aC (oU last heads rs ds)] = .ok (.bl (qY rs)):=by
 have v0:dR aC "rooms" (aB 0) [.fr (.obj aC (oU last heads rs ds))] = .ok (.fr (.lst (rs.map Rd.D))):=fj (fs:=oU last heads rs ds) rfl qF;show fin (az (dO (aL pY (cW bD (aA (dR aC "rooms" (aB 0)) aJ)) (fC (.int 0))) (eV (aO (c7 cU) 2 (aA (aL aj (dR aC "rooms" (aB 0)) (vB j9 (fC (.int 1)))) (aA (fH aJ) aJ))))) [.fr (.obj aC (oU last heads rs ds))])=_
 have z:dO (aL pY (cW bD (aA (dR aC "rooms" (aB 0)) aJ)) (fC (.int 0))) (eV (aO (c7 cU) 2 (aA (aL aj (dR aC "rooms" (aB 0)) (vB j9 (fC (.int 1)))) (aA (fH aJ) aJ)))) [.fr (.obj aC (oU last heads rs ds))] = .ok (.fr (.bl (qY rs))):=by
  rcases List.eq_nil_or_concat rs with e | ⟨rs',r,e⟩
  ·rw[e]at v0 ⊢;exact iy (b:=false) (c:=false) (aM (nG v0) rfl rfl) (fun z=>by cases z)
  ·rw[List.concat_eq_append]at e
   have em:qY rs=(true&&!(r.kd != "plain")):=by
    unfold qY;rw[e,List.getLast?_concat];show (r.kd == "plain")=_;unfold bne
    cases r.kd == "plain" <;> rfl
   rw[em];rw[e,Wl]at v0
   have z0:decide ((0:Int)<((rs'.map Rd.D++[r].map Rd.D).length:Int))=true:=by
    rw[rQ];simp
   rw[<-e]at v0;refine iy (aM (nG v0) rfl ?_) (fun _=>sr (bF (ws:=[.fr r.D,.fr (.lst [])]) (aZ (w:=.fr r.D) (aM v0 (y:=.fr (.int (-1))) rfl (wD _ _)) (aZ (w:=.ow []) rfl rfl)) rfl (dG (end_none r)) (.inl rfl)));show Rz.ok (W.fr (.bl (decide ((0:Int)<((rs'.map Rd.D++[r].map Rd.D).length:Int)))))=_;rw[z0]
 unfold az;rw[z];rfl
end
theorem Be:∀ ns:List Str,xJ (ns.map D.str)=some ns
 | []=>rfl
 | x::ns=>by
  show (xJ (ns.map D.str)).map (x :: ·)=_;rw[Be ns];rfl
theorem Al{x:Str}{ns:List Str}(h:ns.contains x=false):cP [.str x,.lst (ns.map D.str)] = .ex:=by
 have e:=mJ (b:=ns.contains x) (ρ:=[.fr (.str x),.fr (.lst (ns.map D.str))]) (f:=aL (inD false) (aB 0) (aB 1)) (by
  show Wo false (.str x) (ns.map D.str)=_;rw[wG]
  cases ns.contains x <;> rfl)
 show fin (gq [.fr (.str x),.fr (.lst (ns.map D.str))])=_;unfold gq;rw[h]at e;rw[HJ e];rfl
theorem Ak{x:Str}{ns:List Str}{j:Nat}(hj:VG x ns = .ok (.fr (.int (j:Int))))(h:ns.contains x=true):cP [.str x,.lst (ns.map D.str)] = .ok (.int (j:Int)):=by
 have e:=mJ (b:=ns.contains x) (ρ:=[.fr (.str x),.fr (.lst (ns.map D.str))]) (f:=aL (inD false) (aB 0) (aB 1)) (by
  show Wo false (.str x) (ns.map D.str)=_;rw[wG]
  cases ns.contains x <;> rfl)
 show fin (gq [.fr (.str x),.fr (.lst (ns.map D.str))])=_;unfold gq;rw[h]at e;rw[bV e]
 have z:VH (.lst (ns.map D.str)) [.str x] = .ok (.fr (.int (j:Int))):=by
  show (match xJ (ns.map D.str) with | some ys=>VG x ys | none=>.st)=_;rw[Be];exact hj
 unfold az;show fin ((VH (.lst (ns.map D.str)) [.str x]).bind _)=_;rw[z];rfl
noncomputable def bZ(j:Int):D:=.tup [.int j,.int 0,.tup [.str "yes"],.tup [],.str "stay",.non]
theorem Kl(i:Nat)(l:List D)(h:i<l.length):bI [.int i,.lst l] = .ok (.bl true):=by
 have z:qD zq Xr (fC (.int 0)) (aB 0) (cW bD (aA (aB 1) aJ)) [.fr (.int (i:Int)),.fr (.lst l)] = .ok (.fr (.bl true)):=by
  show (if decide ((0:Int)<=(i:Int))=true then (Rz.ok (W.fr (.bl (decide ((i:Int)<(l.length:Int)))))) else Rz.ok (W.fr (.bl false)))=_;rw[if_pos (by simp),show decide ((i:Int)<(l.length:Int))=true from decide_eq_true (by omega)]
 show fin (az (dO (aL (Ze true) (aB 0) (fC .non)) (qD zq Xr (fC (.int 0)) (aB 0) (cW bD (aA (aB 1) aJ)))) [.fr (.int (i:Int)),.fr (.lst l)])=_;unfold az;rw[iy (b:=true) (c:=true) rfl (fun _=>z)];rfl
theorem Ew{j:Nat}{rs:List Rd}(h:j<rs.length):fV [bZ j,.lst [],.lst [.str "knock"],.lst (rs.map Rd.D)] = .ok (.bl false):=by
 generalize hρ:([.fr (bZ j),.fr (.lst []),.fr (.lst [.str "knock"]),.fr (.lst (rs.map Rd.D))]:List Sl)=ρ
 have a1:aN (aO (c7 bI) 2 (aA (aL aj (aB 0) (fC (.int 0))) (aA (aB 3) aJ))) ρ = .ok true:=by
  rw[<-hρ];exact bJ (bF (ws:=[.fr (.int (j:Int)),.fr (.lst (rs.map Rd.D))]) rfl rfl (dG (Kl j _ (by rw[jH];exact h))) (.inl rfl))
 have a2:aN (aO (c7 bI) 2 (aA (aL aj (aB 0) (fC (.int 1))) (aA (aB 2) aJ))) ρ = .ok true:=by
  rw[<-hρ];exact bJ (bF (ws:=[.fr (.int ((0:Nat):Int)),.fr (.lst [.str "knock"])]) rfl rfl (dG (Kl 0 _ (by decide))) (.inl rfl))
 have a3:aN (aO (c7 bf) 3 (aA (aL aj (aB 0) (fC (.int 2))) (aA (aB 1) (aA (aB 3) aJ)))) ρ = .ok false:=by
  rw[<-hρ];exact bJ (bF (ws:=[.fr (.tup [.str "yes"]),.fr (.lst []),.fr (.lst (rs.map Rd.D))]) rfl rfl (dG (by show bf [.tup [.str "yes"],.lst [],.lst (rs.map Rd.D)]=_;unfold bf;simp)) (.inl rfl))
 have a4:aN (aO (c7 cu) 3 (aA (aL aj (aB 0) (fC (.int 3))) (aA (aB 1) (aA (aB 2) aJ)))) ρ = .ok false:=by
  rw[<-hρ];rfl
 have a5:aO (c7 iQ) 3 (aA (aL aj (aB 0) (fC (.int 4))) (aA (aL aj (aB 0) (fC (.int 5))) (aA (aB 3) aJ))) ρ = .ok (.fr (.bl false)):=by
  rw[<-hρ];rfl
 show fin (jz [.fr (bZ j),.fr (.lst []),.fr (.lst [.str "knock"]),.fr (.lst (rs.map Rd.D))])=_;rw[hρ];unfold jz;rw[bV (ρ':=ρ) (by unfold cz lq qe;rw[a1,a2];rfl),bV (ρ':=ρ) (by unfold cz lq;rw[a3,a4];rfl)];unfold az;rw[a5];rfl
theorem Vo{a:FE}{r:FA}{ρ:List Sl}(h:a ρ = .ex):aA a r ρ = .ex:=by unfold aA;rw[h];rfl
theorem YX{r:FA}{ρ:List Sl}(h:r ρ = .ex):cV r ρ = .ex:=by unfold cV;rw[h];rfl
theorem qFI{f:FE}{i:Nat}{ρ:List Sl}(h:f ρ = .ex):aR i f ρ = .ex:=by unfold aR;rw[h];rfl
theorem iG{f:FE}{i:Nat}{ρ:List Sl}{d:D}(h:f ρ = .ok (.fr d)):aR i f ρ = .ok (.nx (ρ.set i (.fr d))):=by unfold aR;rw[h];rfl
theorem qd{r:FA}{ρ:List Sl}{ws:List W}{l:List D}(h:r ρ = .ok ws)(hz:zL ws = .ok l)(hl:l.length<=sizeLine):cV r ρ = .ok (.fr (.tup l)):=by
 unfold cV;rw[h,aa,hz,aa,if_pos hl]
section
variable{aC:Addr}{last row nm:Str}{heads:List D}{rs:List Rd}{ds:List D}{j:Nat}
noncomputable def lG(rs:List Rd)(ds:List D)(nm:Str):Bool:=decide (ds.length<60)&&(qY rs&&(rs.map Rd.nm).contains nm)
theorem YZ{C:Addr}{m:Str}{F:List D->Rz D}{o:FE}{ρ:List Sl}{fs:List (Str×D)}{d:D}(h:o ρ = .ok (.fr (.obj C fs)))(hm:fs.lookup m=none)(hF:F [.obj C fs] = .ok d)(hd:d.nl=true):Es C m F 1 o aJ ρ = .ok (.fr d):=by
 unfold Es;rw[h,aa];show (if C=C/\fs.lookup m=none then _ else _)=_;rw[if_pos ⟨rfl,hm⟩];exact bF (ws:=[.fr (.obj C fs)]) rfl rfl hF (.inr hd)
theorem J9(hl:rs.length<=1000)(hj:(rs.map Rd.nm).contains nm=true->(rs.map Rd.nm).findIdx? (· == nm)=some j/\j<rs.length) :
  jG aC [.lst [.str "door",.str nm,.str "knock",.str "stay"],.obj aC (oU last heads rs ds)]=if lG rs ds nm=true then .ok (bZ j) else .ex:=by
 have hsz:rs.length<=sizeLine:=Nat.le_trans hl (by rw[sizeLine_eq];decide);generalize hws:D.lst [.str "door",.str nm,.str "knock",.str "stay"]=ws
 have e1:=mJ (iy (b:=true) (c:=decide (ds.length<60)&&qY rs) (f:=aL (inD false) (cW bD (aA (aB 0) aJ)) (cV (aA (fC (.int 4)) (aA (fC (.int 5)) aJ)))) (g:=dO (aL Xr (cW bD (aA (dR aC "doors" (aB 1)) aJ)) (fC (.int 60))) (Es aC "may_end" (c7 (gM aC)) 1 (aB 1) aJ)) (ρ:=[.fr ws,.fr (.obj aC (oU last heads rs ds)),.no,.no,.no])
  (by rw[<-hws];rfl)
  (fun _=>iy (aM (nG (fj (fs:=oU last heads rs ds) rfl Gg)) rfl (by show Rz.ok (W.fr (.bl (decide ((ds.length:Int)<60))))=_;rw[show decide ((ds.length:Int)<60)=decide (ds.length<60) from decide_eq_decide.mpr (by omega)])) (fun _=>YZ (fs:=oU last heads rs ds) rfl rfl (dG Ce) rfl)))
 have e2:aR 2 (aO (c7 dI) 1 (aA (dR aC "rooms" (aB 1)) aJ)) [.fr ws,.fr (.obj aC (oU last heads rs ds)),.no,.no,.no] = .ok (.nx [.fr ws,.fr (.obj aC (oU last heads rs ds)),.fr (.lst ((rs.map Rd.nm).map D.str)),.no,.no]):=by
  unfold aR;rw[bF (F:=c7 dI) (n:=1) (ws:=[.fr (.lst (rs.map Rd.D))]) (aZ (fj (fs:=oU last heads rs ds) rfl qF) rfl) rfl (dG (zf hsz)) (.inl rfl)];rfl
 have e3:aR 3 (fIf (aN (aL (bh false) (cW bD (aA (aB 0) aJ)) (fC (.int 5)))) (aO cP 2 (aA (aL aj (aB 0) (fC (.int 4))) (aA (aB 2) aJ))) (fC .non)) [.fr ws,.fr (.obj aC (oU last heads rs ds)),.fr (.lst ((rs.map Rd.nm).map D.str)),.no,.no] = .ok (.nx [.fr ws,.fr (.obj aC (oU last heads rs ds)),.fr (.lst ((rs.map Rd.nm).map D.str)),.fr .non,.no]):=by
  rw[<-hws];rfl
 show fin (sW aC [.fr ws,.fr (.obj aC (oU last heads rs ds)),.no,.no,.no])=_;unfold sW lG
 cases c1:decide (ds.length<60)&&qY rs with
 | false=>
  rw[c1]at e1;rw[HJ e1,<-Bool.and_assoc,c1];rfl
 | true=>
  rw[c1]at e1;rw[bV e1,bV e2,bV e3,<-Bool.and_assoc,c1];generalize hρ:([.fr ws,.fr (.obj aC (oU last heads rs ds)),.fr (.lst ((rs.map Rd.nm).map D.str)),.fr .non,.no]:List Sl)=ρ
  have w1:aL aj (aB 0) (fC (.int 1)) ρ = .ok (.fr (.str nm)):=by rw[<-hρ,<-hws];rfl
  have v2:aB 2 ρ = .ok (.fr (.lst ((rs.map Rd.nm).map D.str))):=by rw[<-hρ];rfl
  have av:aA (aL aj (aB 0) (fC (.int 1))) (aA (aB 2) aJ) ρ = .ok [.fr (.str nm),.fr (.lst ((rs.map Rd.nm).map D.str))]:=aZ w1 (aZ v2 rfl)
  cases c2:(rs.map Rd.nm).contains nm with
  | false=>
   rw[HJ (qFI (YX (Vo (wN (n:=2) av rfl (Al c2)))))];rfl
  | true=>
   obtain⟨f1,f2⟩:=hj c2
   have nn:cP [.str nm,.lst ((rs.map Rd.nm).map D.str)] = .ok (.int (j:Int)):=by
    refine Ak ?_ c2;unfold VG;rw[f1];show (if (rs.map Rd.nm).length<=1000 then _ else _)=_;rw[if_pos (by rw[jH];exact hl)]
   have v1:∀ x,aB 1 ([.fr ws,.fr (.obj aC (oU last heads rs ds)),.fr (.lst ((rs.map Rd.nm).map D.str)),.fr .non,x]:List Sl) = .ok (.fr (.obj aC (oU last heads rs ds))):=fun _=>rfl
   have w2:aL aj (aB 0) (fC (.int 2)) ρ = .ok (.fr (.str "knock")):=by rw[<-hρ,<-hws];rfl
   have w3:aL aj (aB 0) (fC (.int 3)) ρ = .ok (.fr (.str "stay")):=by rw[<-hρ,<-hws];rfl
   have v3:aB 3 ρ = .ok (.fr .non):=by rw[<-hρ];rfl
   have ev:dR aC "events" (aB 1) ρ = .ok (.fr (.lst [.str "knock"])):=by rw[<-hρ];exact fj (v1 _) qp
   have e4:cV (aA (aO cP 2 (aA (aL aj (aB 0) (fC (.int 1))) (aA (aB 2) aJ))) (aA (aO cP 2 (aA (aL aj (aB 0) (fC (.int 2))) (aA (dR aC "events" (aB 1)) aJ))) (aA (cV (aA (fC (.str "yes")) aJ)) (aA (cV aJ) (aA (aL aj (aB 0) (fC (.int 3))) (aA (aB 3) aJ)))))) ρ = .ok (.fr (bZ j)):=by
    refine qd (ws:=[.fr (.int (j:Int)),.fr (.int 0),.fr (.tup [.str "yes"]),.fr (.tup []),.fr (.str "stay"),.fr .non]) ?_ rfl (by rw[sizeLine_eq];exact (by decide:6<=16777216));exact aZ (w:=.fr (.int (j:Int))) (bF av rfl nn (.inl rfl)) (aZ (w:=.fr (.int 0)) (bF (ws:=[.fr (.str "knock"),.fr (.lst [.str "knock"])]) (aZ w2 (aZ ev rfl)) rfl rfl (.inl rfl)) (aZ (w:=.fr (.tup [.str "yes"])) (by rw[<-hρ];rfl) (aZ (w:=.fr (.tup [])) (by rw[<-hρ];rfl) (aZ w3 (aZ v3 rfl)))))
   rw[bV (iG e4),<-hρ];show fin (aX _ _ [.fr ws,.fr (.obj aC (oU last heads rs ds)),.fr (.lst ((rs.map Rd.nm).map D.str)),.fr .non,.fr (bZ j)])=_;have e5:=mJ (b:=true) (f:=eV (aO (c7 fV) 4 (aA (aB 4) (aA (dR aC "boxes" (aB 1)) (aA (dR aC "events" (aB 1)) (aA (dR aC "rooms" (aB 1)) aJ)))))) (ρ:=[.fr ws,.fr (.obj aC (oU last heads rs ds)),.fr (.lst ((rs.map Rd.nm).map D.str)),.fr .non,.fr (bZ j)])
    (sr (b:=false) (bF (ws:=[.fr (bZ j),.fr (.lst []),.fr (.lst [.str "knock"]),.fr (.lst (rs.map Rd.D))]) (aZ (w:=.fr (bZ j)) rfl (aZ (fj (v1 _) yV) (aZ (fj (v1 _) qp) (aZ (fj (v1 _) qF) rfl)))) rfl (dG (Ew f2)) (.inl rfl)))
   rw[if_pos rfl]at e5;rw[bV e5];rfl
theorem Sx{e:FE}{x1 x2:Sl}{x:D}(he:e [.ob aC (gA last heads rs ds),x1,x2] = .ok (.fr x))(hl:ds.length<sizeLine)(h1:x1.nb=true)(h2:x2.nb=true):jl aC 0 "doors" e [.ob aC (gA last heads rs ds),x1,x2] = .ok (.nx [.ob aC (gA last heads rs (ds++[x])),x1,x2]):=by
 show (if aC=aC then ((e [.ob aC (gA last heads rs ds),x1,x2]).bind fun w=>w.z.bind fun d=>if ds.length<sizeLine/\([.ob aC (gA last heads rs ds),x1,x2]:List Sl).all Sl.nb=true then Rz.ok (Fl.nx (([.ob aC (gA last heads rs ds),x1,x2]:List Sl).set 0 (.ob aC (gF "doors" (.li (ds++[d])) (gA last heads rs ds))))) else .st) else .st)=_;rw[if_pos rfl,he,aa];show (if ds.length<sizeLine/\([.ob aC (gA last heads rs ds),x1,x2]:List Sl).all Sl.nb=true then Rz.ok (Fl.nx (([.ob aC (gA last heads rs ds),x1,x2]:List Sl).set 0 (.ob aC (gF "doors" (.li (ds++[x])) (gA last heads rs ds))))) else .st)=_;rw[if_pos ⟨hl,by show (true&&(x1.nb&&(x2.nb&&true)))=true;rw[h1,h2];rfl⟩,R5];rfl
theorem Ox{e:FE}{x1 x2:Sl}(he:e [.ob aC (gA last heads rs ds),x1,x2] = .ex):jl aC 0 "doors" e [.ob aC (gA last heads rs ds),x1,x2] = .ex:=by
 show (if aC=aC then ((e [.ob aC (gA last heads rs ds),x1,x2]).bind fun w=>w.z.bind fun d=>if ds.length<sizeLine/\([.ob aC (gA last heads rs ds),x1,x2]:List Sl).all Sl.nb=true then Rz.ok (Fl.nx (([.ob aC (gA last heads rs ds),x1,x2]:List Sl).set 0 (.ob aC (gF "doors" (.li (ds++[d])) (gA last heads rs ds))))) else .st) else .st)=_;rw[if_pos rfl,he];rfl
theorem Lz(h:nj row nm)(hl:rs.length<=1000)(hd:ds.length<sizeLine)(hL:Ib last)(hj:(rs.map Rd.nm).contains nm=true->(rs.map Rd.nm).findIdx? (· == nm)=some j/\j<rs.length) :
  gZ aC (gA last heads rs ds) [.str row]=if (last != "event" && lG rs ds nm)=true then .ok (gA "door" heads rs (ds++[bZ j]),.non) else .ex:=by
 have e1:aR 2 (aO (c7 dF) 1 (aA (aB 1) aJ)) [.ob aC (gA last heads rs ds),.fr (.str row),.no] = .ok (.nx [.ob aC (gA last heads rs ds),.fr (.str row),.fr (.str "door")]):=by
  unfold aR;rw[bF (F:=c7 dF) (n:=1) (a:=aA (aB 1) aJ) (ρ:=[.ob aC (gA last heads rs ds),.fr (.str row),.no]) (ws:=[.fr (.str row)]) rfl rfl (dG (Ig h)) (.inl rfl)];rfl
 have e2:=mJ (Gu (aC:=aC) (last:=last) (heads:=heads) (rs:=rs) (ds:=ds) (k := "door") (b:=last != "event") (ρ:=[.ob aC (gA last heads rs ds),.fr (.str row),.fr (.str "door")]) rfl rfl (t:=(eZ.lookup last).getD .non) (by rcases hL with rfl | rfl | rfl <;> rfl) (by rcases hL with rfl | rfl | rfl <;> rfl));generalize hρ:([.ob aC (gA last heads rs ds),.fr (.str row),.fr (.str "door")]:List Sl)=ρ at e2
 have v0:aB 0 ρ = .ok (.bj aC (gA last heads rs ds)):=by rw[<-hρ];rfl
 have v1:aB 1 ρ = .ok (.fr (.str row)):=by rw[<-hρ];rfl
 have av:aA (aO bK 1 (aA (aB 1) aJ)) (aA (aB 0) aJ) ρ = .ok [.fr (.lst [.str "door",.str nm,.str "knock",.str "stay"]),.bj aC (gA last heads rs ds)]:=
  aZ (w:=.fr (.lst [.str "door",.str nm,.str "knock",.str "stay"])) (bF (aZ v1 rfl) rfl h.words (.inl rfl)) (aZ v0 rfl)
 have e3:aO (jG aC) 2 (aA (aO bK 1 (aA (aB 1) aJ)) (aA (aB 0) aJ)) ρ=if lG rs ds nm=true then .ok (.fr (bZ j)) else .ex:=by
  have z:=J9 (aC:=aC) (last:=last) (heads:=heads) (ds:=ds) hl hj
  cases c:lG rs ds nm with
  | true=>
   rw[c,if_pos rfl]at z;exact bF av rfl z (.inr rfl)
  | false=>
   rw[c,if_neg pK]at z;exact wN av rfl z
 show Iz aC (Kq aC [.ob aC (gA last heads rs ds),.fr (.str row),.no])=_;unfold Kq;rw[bV e1,hρ]
 cases c1:last != "event" with
 | false=>
  rw[c1]at e2;rw[HJ e2];rfl
 | true=>
  rw[c1]at e2;rw[bV e2]
  have t1:aN (aL (bh false) (aB 2) (fC (.str "room"))) ρ = .ok false:=by rw[<-hρ];rfl
  have t2:aN (aL (bh false) (aB 2) (fC (.str "door"))) ρ = .ok true:=by rw[<-hρ];rfl
  cases c2:lG rs ds nm with
  | false=>
   rw[c2,if_neg pK]at e3;rw[HJ (by unfold cz;rw[t1,aa,if_neg pK,t2,aa,if_pos rfl,<-hρ];rw[<-hρ]at e3;exact Ox e3)];rfl
  | true=>
   rw[c2,if_pos rfl]at e3;rw[bV (ρ':=[.ob aC (gA last heads rs (ds++[bZ j])),.fr (.str row),.fr (.str "door")]) (by unfold cz;rw[t1,aa,if_neg pK,t2,aa,if_pos rfl,<-hρ];rw[<-hρ]at e3;exact Sx e3 hd rfl rfl),Kg rfl];show (if aC=aC then _ else _)=_;rw[if_pos rfl];rfl
end
noncomputable def brA(aC:Addr):FS:=(cz (aN (aL (bh false) (aB 2) (fC (.str "room"))))
   (jl aC 0 "rooms" (aO (jE aC) 2 (aA (aB 1) (aA (aB 0) aJ))))
   (cz (aN (aL (bh false) (aB 2) (fC (.str "door"))))
   (jl aC 0 "doors" (aO (jG aC) 2 (aA (aO bK 1 (aA (aB 1) aJ)) (aA (aB 0) aJ))))
   (cz (aN (aL (inD false) (aB 2) (cV (aA (fC (.str "when")) (aA (fC (.str "in")) (aA (fC (.str "out")) (aA (fC (.str "do")) aJ)))))))
    xN
    (cz (aN (aL (bh false) (aB 2) (fC (.str "box"))))
    xN
    (cz (aN (aL (bh false) (aB 2) (fC (.str "event"))))
     (jl aC 0 "events" (aO iR 2 (aA (aO bK 1 (aA (aB 1) aJ)) (aA (dR aC "events" (aB 0)) aJ))))
     (jl aC 0 "heads" (aO eU 2 (aA (aB 2) (aA (aO bK 1 (aA (aB 1) aJ)) aJ)))))))))
theorem Lx{aC:Addr}{fs fs':Ms}{row k last:Str}{t:D}(hk:dF [.str row] = .ok (.str k))(qDQ:fs.lookup ("last" : Str)=some (.va (.str last)))(ht:eZ.lookup last=some t)(hb:inD false (.str k) t = .ok (.fr (.bl true)))
  (hbr:brA aC [.ob aC fs,.fr (.str row),.fr (.str k)] = .ok (.nx [.ob aC fs',.fr (.str row),.fr (.str k)])) (hlen:fs'.length<1000):gZ aC fs [.str row] = .ok (gF "last" (.va (.str k)) fs',.non):=by
 have e1:aR 2 (aO (c7 dF) 1 (aA (aB 1) aJ)) [.ob aC fs,.fr (.str row),.no] = .ok (.nx [.ob aC fs,.fr (.str row),.fr (.str k)]):=
  iG (bF (ws:=[.fr (.str row)]) rfl rfl (dG hk) (.inl rfl))
 have z1:dR aC "last" (aB 0) [.ob aC fs,.fr (.str row),.fr (.str k)] = .ok (.fr (.str last)):=by
  show (if aC=aC then (match fs.lookup ("last" : Str) with | some (.va d)=>Rz.ok (W.fr d) | some (.li l)=>.ok (.bw l) | none=>.st) else .st)=_;rw[if_pos rfl,qDQ]
 have z2:Zn eZ (dR aC "last" (aB 0)) [.ob aC fs,.fr (.str row),.fr (.str k)] = .ok (.fr t):=by
  unfold Zn;rw[z1];show Rf (eZ.lookup last)=_;rw[ht];rfl
 have e2:=mJ (b:=true) (ρ:=[.ob aC fs,.fr (.str row),.fr (.str k)]) (f:=aL (inD false) (aB 2) (Zn eZ (dR aC "last" (aB 0)))) (aM (x:=.fr (.str k)) rfl z2 hb);rw[if_pos rfl]at e2;show Iz aC (aX _ (aX _ (aX (brA aC) (rB aC 0 "last" (aB 2)))) [.ob aC fs,.fr (.str row),.no])=_;rw[bV e1,bV e2,bV hbr];show Iz aC (if aC=aC/\fs'.length<1000/\([.ob aC fs',.fr (.str row),.fr (.str k)]:List Sl).all Sl.nb=true then Rz.ok (Fl.nx (([.ob aC fs',.fr (.str row),.fr (.str k)]:List Sl).set 0 (.ob aC (gF "last" (.va (.str k)) fs')))) else .st)=_;rw[if_pos ⟨rfl,hlen,rfl⟩];show (if aC=aC then _ else _)=_;rw[if_pos rfl]
theorem Qj{C:Addr}{f:Str}{fs:Ms}{l:List D}{e:FE}{x1 x2:Sl}{x:D}(hf:fs.lookup f=some (.li l))(he:e [.ob C fs,x1,x2] = .ok (.fr x))(hl:l.length<sizeLine)(h1:x1.nb=true)(h2:x2.nb=true):jl C 0 f e [.ob C fs,x1,x2] = .ok (.nx [.ob C (gF f (.li (l++[x])) fs),x1,x2]):=by
 unfold jl;show (if C=C then (match fs.lookup f with | some (.li l)=>((e [.ob C fs,x1,x2]).bind fun w=>w.z.bind fun d=>if l.length<sizeLine/\([.ob C fs,x1,x2]:List Sl).all Sl.nb=true then Rz.ok (Fl.nx (([.ob C fs,x1,x2]:List Sl).set 0 (.ob C (gF f (.li (l++[d])) fs)))) else .st) | _=>.st) else .st)=_;rw[if_pos rfl,hf];show ((e [.ob C fs,x1,x2]).bind fun w=>w.z.bind fun d=>if l.length<sizeLine/\([.ob C fs,x1,x2]:List Sl).all Sl.nb=true then Rz.ok (Fl.nx (([.ob C fs,x1,x2]:List Sl).set 0 (.ob C (gF f (.li (l++[d])) fs)))) else .st)=_;rw[he,aa];show (if l.length<sizeLine/\([.ob C fs,x1,x2]:List Sl).all Sl.nb=true then Rz.ok (Fl.nx (([.ob C fs,x1,x2]:List Sl).set 0 (.ob C (gF f (.li (l++[x])) fs)))) else .st)=_;rw[if_pos ⟨hl,by show (true&&(x1.nb&&(x2.nb&&true)))=true;rw[h1,h2];rfl⟩];rfl
theorem Y6:dF [.str "order outer"] = .ok (.str "order"):=by kernel_rfl
theorem Rc:dF [.str "letters 1"] = .ok (.str "letters"):=by kernel_rfl
theorem Y5:dF [.str "turns 2"] = .ok (.str "turns"):=by kernel_rfl
theorem Y7:dF [.str "event knock"] = .ok (.str "event"):=by kernel_rfl
theorem Wu:bK [.str "order outer"] = .ok (.lst [.str "order",.str "outer"]):=by kernel_rfl
theorem Qs:bK [.str "letters 1"] = .ok (.lst [.str "letters",.str "1"]):=by kernel_rfl
theorem Wt:bK [.str "turns 2"] = .ok (.lst [.str "turns",.str "2"]):=by kernel_rfl
theorem Wv:bK [.str "event knock"] = .ok (.lst [.str "event",.str "knock"]):=by kernel_rfl
theorem Wy:eU [.str "order",.lst [.str "order",.str "outer"]] = .ok (.str "outer"):=by kernel_rfl
theorem Qw:eU [.str "letters",.lst [.str "letters",.str "1"]] = .ok (.int 1):=by kernel_rfl
theorem Wx:eU [.str "turns",.lst [.str "turns",.str "2"]] = .ok (.int 2):=by kernel_rfl
theorem Wz:iR [.lst [.str "event",.str "knock"],.lst []] = .ok (.str "knock"):=by kernel_rfl
noncomputable def hd(last:Str)(heads ev:List D):Ms:=[("last",.va (.str last)),("heads",.li heads),("boxes",.li []),("events",.li ev),("rooms",.li []),("doors",.li [])]
section
variable{aC:Addr}
theorem Cw{last k row:Str}{heads:List D}{ws v t:D}(hk:dF [.str row] = .ok (.str k))(ht:eZ.lookup last=some t)(hb:inD false (.str k) t = .ok (.fr (.bl true)))(hw:bK [.str row] = .ok ws)(hv:eU [.str k,ws] = .ok v)(hl:heads.length<sizeLine)
  (t1:aN (aL (bh false) (aB 2) (fC (.str "room"))) [.ob aC (hd last heads []),.fr (.str row),.fr (.str k)] = .ok false)
  (hbr:brA aC [.ob aC (hd last heads []),.fr (.str row),.fr (.str k)]=jl aC 0 "heads" (aO eU 2 (aA (aB 2) (aA (aO bK 1 (aA (aB 1) aJ)) aJ))) [.ob aC (hd last heads []),.fr (.str row),.fr (.str k)]) :
  gZ aC (hd last heads []) [.str row] = .ok (hd k (heads++[v]) [],.non):=by
 have z:=Lx (aC:=aC) (fs':=hd last (heads++[v]) []) hk (fs:=hd last heads []) rfl ht hb (by
  rw[hbr]
  exact Qj (fs:=hd last heads []) (l:=heads) rfl (bF (ws:=[.fr (.str k),.fr ws]) (aZ (w:=.fr (.str k)) rfl (aZ (w:=.fr ws) (bF (ws:=[.fr (.str row)]) rfl rfl hw (.inl rfl)) rfl)) rfl hv (.inl rfl)) hl rfl rfl) (show 6<1000 by decide)
 exact z
theorem Z1:gZ aC Tc [.str "order outer"] = .ok (hd "order" [.str "outer"] [],.non):=
 Cw (last := "") (heads:=[]) Y6 rfl rfl Wu Wy (by rw[sizeLine_eq];decide) rfl rfl
theorem Sy:gZ aC (hd "order" [.str "outer"] []) [.str "letters 1"] = .ok (hd "letters" [.str "outer",.int 1] [],.non):=
 Cw (last := "order") (heads:=[.str "outer"]) Rc rfl rfl Qs Qw (by rw[sizeLine_eq];exact (by decide:1<16777216)) rfl rfl
theorem Z0:gZ aC (hd "letters" [.str "outer",.int 1] []) [.str "turns 2"] = .ok (hd "turns" [.str "outer",.int 1,.int 2] [],.non):=
 Cw (last := "letters") (heads:=[.str "outer",.int 1]) Y5 rfl rfl Wt Wx (by rw[sizeLine_eq];exact (by decide:2<16777216)) rfl rfl
theorem Z2:gZ aC (hd "turns" [.str "outer",.int 1,.int 2] []) [.str "event knock"] = .ok (gA "event" [.str "outer",.int 1,.int 2] [] [],.non):=by
 have z:=Lx (aC:=aC) (fs:=hd "turns" [.str "outer",.int 1,.int 2] []) (fs':=hd "turns" [.str "outer",.int 1,.int 2] [.str "knock"]) Y7 rfl rfl rfl (by
  show jl aC 0 "events" (aO iR 2 (aA (aO bK 1 (aA (aB 1) aJ)) (aA (dR aC "events" (aB 0)) aJ))) [.ob aC (hd "turns" [.str "outer",.int 1,.int 2] []),.fr (.str "event knock"),.fr (.str "event")]=_;refine Qj (fs:=hd "turns" [.str "outer",.int 1,.int 2] []) (l:=[]) rfl (bF (ws:=[.fr (.lst [.str "event",.str "knock"]),.bw []]) (aZ (w:=.fr (.lst [.str "event",.str "knock"])) (bF (ws:=[.fr (.str "event knock")]) rfl rfl Wv (.inl rfl)) (aZ (w:=.bw []) ?_ rfl)) rfl Wz (.inr rfl)) (by rw[sizeLine_eq];decide) rfl rfl;show (if aC=aC then _ else _)=_;rw[if_pos rfl]
  rfl) (by decide)
 exact z
theorem Rh(l:List D):gn (gZ aC) (.str "order outer" :: .str "letters 1" :: .str "turns 2" :: .str "event knock" :: l) 0 Tc=gn (gZ aC) l 4 (gA "event" [.str "outer",.int 1,.int 2] [] []):=by
 rw[gn,if_pos (show Tc.lookup ("add" : Str)=none from rfl),Z1];show gn (gZ aC) (.str "letters 1" :: .str "turns 2" :: .str "event knock" :: l) 1 (hd "order" [.str "outer"] [])=_;rw[gn,if_pos (show (hd "order" [.str "outer"] []).lookup ("add" : Str)=none from rfl),Sy];show gn (gZ aC) (.str "turns 2" :: .str "event knock" :: l) 2 (hd "letters" [.str "outer",.int 1] [])=_;rw[gn,if_pos (show (hd "letters" [.str "outer",.int 1] []).lookup ("add" : Str)=none from rfl),Z0];show gn (gZ aC) (.str "event knock" :: l) 3 (hd "turns" [.str "outer",.int 1,.int 2] [])=_;rw[gn,if_pos (show (hd "turns" [.str "outer",.int 1,.int 2] []).lookup ("add" : Str)=none from rfl),Z2]
end
inductive En where
 | room | door (k:Nat)
structure Hl where
 nm:Nat->Str
 kd:Nat->Str
 dp:Nat->Nat
noncomputable def Hl.rd(h:Hl)(i:Nat):Rd:=⟨h.nm i,h.kd i,h.dp i⟩
noncomputable def Hl.rs(h:Hl)(r:Nat):List Rd:=(List.range r).map h.rd
noncomputable def Hl.fits(h:Hl)(k:Nat):Bool:=if 12<h.dp k∨k=40 then false else if k=0 then h.dp k==0 else if (h.kd (k-1) == "plain")=true then decide (1<=h.dp k/\h.dp k<=h.dp (k-1)) else h.dp k==h.dp (k-1)+1
noncomputable def Hl.step(h:Hl)(r d:Nat):En->Bool
 | .room=>d==0&&h.fits r
 | .door k=>decide (0<r)&&(h.kd (r-1) == "plain" && (decide (d<60)&&decide (k<r)))
section
variable{h:Hl}{r:Nat}
theorem uQ:(h.rs r).length=r:=by unfold Hl.rs;rw[jH,List.length_range]
theorem Bq:(h.rs r).map Rd.nm=(List.range r).map h.nm:=by unfold Hl.rs;rw[List.map_map];rfl
theorem Px:h.rs (r+1)=h.rs r++[h.rd r]:=by unfold Hl.rs;rw[List.range_succ,Wl];rfl
theorem Py:(h.rs r).getLast? = if r=0 then none else some (h.rd (r-1)):=by
 cases r with
 | zero=>rfl
 | succ r=>rw[Px,List.getLast?_concat,if_neg (by omega)];rfl
theorem My(hd:∀ i j,i<=50->j<=50->h.nm i=h.nm j->i=j)(hr:r<=50){k:Nat}(hk:k<=50):((List.range r).map h.nm).contains (h.nm k)=decide (k<r):=by
 rw[Bool.eq_iff_iff];simp only[List.contains_iff_mem,List.mem_map,List.mem_range,decide_eq_true_eq];constructor
 ·rintro⟨i,hi,e⟩;have:=hd i k (by omega) hk e;omega
 ·exact fun z=>⟨k,z,rfl⟩
theorem qAK(hd:∀ i j,i<=50->j<=50->h.nm i=h.nm j->i=j)(hr:r<=50){k:Nat}(hk:k<r):((List.range r).map h.nm).findIdx? (· == h.nm k)=some k:=by
 rw[List.findIdx?_eq_some_iff_getElem];refine⟨by rw[List.length_map,List.length_range];exact hk,by simp,fun j hj=>?_⟩;simp only[List.getElem_map,List.getElem_range,beq_iff_eq];intro e;have:=hd j k (by omega) (by omega) e;omega
theorem R1(hd:∀ i j,i<=50->j<=50->h.nm i=h.nm j->i=j)(hr:r<=40):lD (h.rs r) (h.nm r) (h.dp r)=h.fits r:=by
 unfold lD;rw[Bq,My hd (by omega) (by omega),uQ];unfold fW yS;rw[Py];unfold Hl.fits
 by_cases h0:r=0
 ·subst h0;rw[if_pos rfl];show (decide (0<40)&&(!(decide (0<0)||(((h.dp 0:Int)) != 0))&&!false))=_
  have e:(((h.dp 0:Int)) != 0) = !(h.dp 0==0):=by
   unfold bne;congr 1;rw[Bool.eq_iff_iff];simp
  rw[e]
  by_cases z:h.dp 0=0
  ·rw[if_neg (by omega),if_pos rfl,z];rfl
  ·rw[beq_eq_false_iff_ne.mpr z]
   by_cases q:12<h.dp 0∨0=40
   ·rw[if_pos q];rfl
   ·rw[if_neg q,if_pos rfl];rfl
 ·rw[if_neg h0,if_neg h0];show (decide (r<40)&&(!(decide (r<r)||(!(decide ((1:Int)<=(h.dp r:Int))&&decide ((h.dp r:Int)<=(h.dp (r-1):Int)+1))||decide ((12:Int)<(h.dp r:Int))))&&!((h.kd (r-1) == "plain")==decide ((h.dp (r-1):Int)<(h.dp r:Int)))))=_
  cases c:h.kd (r-1) == "plain" with
  | true=>
   rw[if_pos rfl]
   by_cases q:12<h.dp r∨r=40
   ·rw[if_pos q];rw[Bool.eq_iff_iff];simp;omega
   ·rw[if_neg q];rw[Bool.eq_iff_iff];simp;omega
  | false=>
   rw[if_neg pK]
   by_cases q:12<h.dp r∨r=40
   ·rw[if_pos q];rw[Bool.eq_iff_iff];simp;omega
   ·rw[if_neg q];rw[Bool.eq_iff_iff];simp;omega
theorem QL(h:Hl)(r:Nat):qY (h.rs r)=(decide (0<r)&&h.kd (r-1) == "plain"):=by
 unfold qY;rw[Py]
 cases r with
 | zero=>rfl
 | succ r=>
  rw[if_neg (by omega)];show (h.kd (r+1-1) == "plain")=_;rw[decide_eq_true (by omega),Bool.true_and]
end
structure qC2(h:Hl)(N:Nat)(rr dr:Nat->Str):Prop where
 row:∀ i,i<N->lJ (rr i) (h.kd i) (h.nm i) (h.dp i)
 door:∀ k,k<N->nj (dr k) (h.nm k)
 word:∀ i,i<N->qy (h.nm i)
 kind:∀ i,i<N->iZ (h.kd i)
 apart:∀ i j,i<=50->j<=50->h.nm i=h.nm j->i=j
 few:N<=42
noncomputable def dh(rr dr:Nat->Str):List En->Nat->List Str
 | [],_=>[]
 | .room::es,r=>rr r::dh rr dr es (r+1)
 | .door k::es,r=>dr k::dh rr dr es r
noncomputable def lastOf(r:Nat)(ks:List Nat):Str:=if ks=[] then (if r=0 then "event" else "room") else "door"
noncomputable def nxt:Sum (Nat×List Nat) Nat->Sum (Nat×List Nat) Nat
 | .inl x=>.inl x
 | .inr m=>.inr (m+1)
noncomputable def jR(h:Hl):List En->Nat->List Nat->Sum (Nat×List Nat) Nat
 | [],r,ks=>.inl (r,ks)
 | .room::es,r,ks=>if h.step r ks.length .room=true then nxt (jR h es (r+1) ks) else .inr 0
 | .door k::es,r,ks=>if h.step r ks.length (.door k)=true then nxt (jR h es r (ks++[k])) else .inr 0
noncomputable def fit(N:Nat):List En->Nat->Prop
 | [],r=>r<=N
 | .room::es,r=>r<N/\fit N es (r+1)
 | .door k::es,r=>k<N/\fit N es r
noncomputable def Xd(H:List D)(h:Hl)(n:Nat):Sum (Nat×List Nat) Nat->Lr
 | .inl (r,ks)=>.ok (gA (lastOf r ks) H (h.rs r) (ks.map fun k:Nat=>bZ (k:Int)))
 | .inr m=>.un ((n:Int)+m+1)
theorem K1(H:List D)(h:Hl)(n:Nat)(x:Sum (Nat×List Nat) Nat):Xd H h (n+1) x=Xd H h n (nxt x):=by
 cases x with
 | inl x=>rfl
 | inr m=>
  show Lr.un _=Lr.un _;congr 1;omega
theorem QM(r:Nat)(ks:List Nat):Ib (lastOf r ks):=by
 unfold Ib lastOf
 by_cases h1:ks=[]
 ·rw[if_pos h1]
  by_cases h2:r=0
  ·rw[if_pos h2];exact .inl rfl
  ·rw[if_neg h2];exact .inr (.inl rfl)
 ·rw[if_neg h1];exact .inr (.inr rfl)
theorem RW(r:Nat)(ks:List Nat):(lastOf r ks != "door")=(ks.length==0):=by
 unfold lastOf
 cases ks with
 | nil=>
  rw[if_pos rfl]
  by_cases h2:r=0
  ·rw[if_pos h2];rfl
  ·rw[if_neg h2];rfl
 | cons a l=>rw[if_neg (by simp)];rfl
theorem Nv{r:Nat}{ks:List Nat}(h:0<r):(lastOf r ks != "event")=true:=by
 unfold lastOf
 cases ks with
 | nil=>rw[if_pos rfl,if_neg (by omega)];rfl
 | cons a l=>rw[if_neg (by simp)];rfl
theorem U5(last:Str)(H:List D)(rs:List Rd)(ds:List D):(gA last H rs ds).lookup ("add" : Str)=none:=rfl
theorem Ia{aC:Addr}{H:List D}{h:Hl}{N:Nat}{rr dr:Nat->Str}(ok:qC2 h N rr dr):∀(es:List En)(r:Nat)(ks:List Nat)(n:Nat),fit N es r->r<=40->ks.length<=60 →
  gn (gZ aC) ((dh rr dr es r).map D.str) n (gA (lastOf r ks) H (h.rs r) (ks.map fun k:Nat=>bZ (k:Int)))=Xd H h n (jR h es r ks)
 | [],r,ks,n,_,_,_=>rfl
 | .room::es,r,ks,n,hf,hr,hk=>by
  have sz:(h.rs r).length<sizeLine:=by rw[uQ,sizeLine_eq];omega
  have z:=Ly (aC:=aC) (heads:=H) (ds:=ks.map fun k:Nat=>bZ (k:Int)) (ok.row r hf.1) sz (ok.word r hf.1) (ok.kind r hf.1) (QM r ks);rw[R1 ok.apart hr,RW]at z;show gn (gZ aC) (.str (rr r)::(dh rr dr es (r+1)).map D.str) n _=_;rw[gn,if_pos (U5 _ _ _ _),z,jR]
  cases c:h.step r ks.length .room with
  | true=>
   have c':(ks.length==0&&h.fits r)=true:=c;rw[c',if_pos rfl,if_pos rfl]
   have k0:ks=[]:=by
    have:=(Bool.and_eq_true_iff.mp c').1;exact List.eq_nil_of_length_eq_zero (by simpa using this)
   have r40:r≠40:=fun e=>by
    have:=(Bool.and_eq_true_iff.mp c').2;unfold Hl.fits at this;rw[if_pos (.inr e)]at this
    cases this
   show gn (gZ aC) ((dh rr dr es (r+1)).map D.str) (n+1) (gA "room" H (h.rs r++[h.rd r]) (ks.map fun k:Nat=>bZ (k:Int)))=_;rw[<-Px,show ("room" : Str)=lastOf (r+1) ks from by rw[k0];rfl,Ia ok es (r+1) ks (n+1) hf.2 (by omega) hk,K1]
  | false=>
   have c':(ks.length==0&&h.fits r)=false:=c;rw[c',if_neg pK,if_neg pK];show Lr.un _=Lr.un _;congr 1
 | .door k::es,r,ks,n,hf,hr,hk=>by
  have sz:(ks.map fun k:Nat=>bZ (k:Int)).length<sizeLine:=by rw[jH,sizeLine_eq];omega
  have few:=ok.few;have hkN:k<N:=hf.1
  have z:=Lz (aC:=aC) (heads:=H) (ds:=ks.map fun k:Nat=>bZ (k:Int)) (j:=k) (rs:=h.rs r) (ok.door k hf.1) (by rw[uQ];omega) sz (QM r ks) (fun q=>by
   rw[Bq]at q ⊢;rw[My ok.apart (by omega) (by omega)]at q;have q':=of_decide_eq_true q
   exact⟨qAK ok.apart (by omega) q',by rw[uQ];exact q'⟩)
  have cond:(lastOf r ks != "event" && lG (h.rs r) (ks.map fun k:Nat=>bZ (k:Int)) (h.nm k))=h.step r ks.length (.door k):=by
   unfold lG;rw[Bq,My ok.apart (by omega) (by omega),QL,jH];show _=(decide (0<r)&&(h.kd (r-1) == "plain" && (decide (ks.length<60)&&decide (k<r))))
   by_cases r0:0<r
   ·rw[Nv r0,decide_eq_true r0]
    cases (h.kd (r-1) == "plain") <;> cases decide (ks.length<60) <;> cases decide (k<r) <;> rfl
   ·rw[decide_eq_false r0]
    cases (lastOf r ks != "event") <;> cases decide (ks.length<60) <;> rfl
  rw[cond]at z;show gn (gZ aC) (.str (dr k)::(dh rr dr es r).map D.str) n _=_;rw[gn,if_pos (U5 _ _ _ _),z,jR]
  cases c:h.step r ks.length (.door k) with
  | true=>
   rw[if_pos rfl,if_pos rfl];have c':(decide (0<r)&&(h.kd (r-1) == "plain" && (decide (ks.length<60)&&decide (k<r))))=true:=c;have k60:ks.length<60:=of_decide_eq_true (Bool.and_eq_true_iff.mp (Bool.and_eq_true_iff.mp (Bool.and_eq_true_iff.mp c').2).2).1;show gn (gZ aC) ((dh rr dr es r).map D.str) (n+1) (gA "door" H (h.rs r) ((ks.map fun k:Nat=>bZ (k:Int))++[bZ k]))=_;have e:=Ia (aC:=aC) (H:=H) ok es r (ks++[k]) (n+1) hf.2 hr (by rw[rQ];show ks.length+1<=60;omega);rw[show lastOf r (ks++[k]) = "door" from if_neg (by simp),List.map_append]at e;rw[K1]at e;exact e
  | false=>
   rw[if_neg pK,if_neg pK];show Lr.un _=Lr.un _;congr 1
section
variable{aC:Addr}{last:Str}{rs:List Rd}{ds:List D}
noncomputable def mZ(rs:List Rd)(ds:List D):D:=.tup [.str "outer",.int 1,.int 2,.tup [],.tup [.str "knock"],.tup (rs.map Rd.D),.tup ds]
theorem tup_is{f:FE}{ρ:List Sl}{l:List D}(h:f ρ = .ok (.fr (.lst l)))(hl:l.length<=sizeLine):cW rW (aA f aJ) ρ = .ok (.fr (.tup l)):=by
 unfold cW;rw[aZ h rfl]
 first
  | rfl
  | (show (if l.length<=sizeLine then _ else _)=_;rw[if_pos hl])
theorem Tg(hr:rs.length<=sizeLine)(hd:ds.length<=sizeLine):oG aC [.obj aC (oU last [.str "outer",.int 1,.int 2] rs ds)] = .ok (mZ rs ds):=by
 have v:∀ x,aB 0 ([.fr (.obj aC (oU last [.str "outer",.int 1,.int 2] rs ds)),x]:List Sl) = .ok (.fr (.obj aC (oU last [.str "outer",.int 1,.int 2] rs ds))):=fun _=>rfl;have s3:∀ k:Nat,k<=10->k<=sizeLine:=fun k hk=>Nat.le_trans hk (by rw[sizeLine_eq];decide)
 have e1:cV (aA (cW rW (aA (dR aC "boxes" (aB 0)) aJ)) (aA (cW rW (aA (dR aC "events" (aB 0)) aJ)) (aA (cW rW (aA (dR aC "rooms" (aB 0)) aJ)) (aA (cW rW (aA (dR aC "doors" (aB 0)) aJ)) aJ)))) [.fr (.obj aC (oU last [.str "outer",.int 1,.int 2] rs ds)),.no] = .ok (.fr (.tup [.tup [],.tup [.str "knock"],.tup (rs.map Rd.D),.tup ds])):=
  qd (ws:=[.fr (.tup []),.fr (.tup [.str "knock"]),.fr (.tup (rs.map Rd.D)),.fr (.tup ds)]) (aZ (tup_is (fj (v _) yV) (s3 0 (by decide))) (aZ (tup_is (fj (v _) qp) (s3 1 (by decide))) (aZ (tup_is (fj (v _) qF) (by rw[jH];exact hr)) (aZ (tup_is (fj (v _) Gg) hd) rfl)))) rfl (s3 4 (by decide))
 have e2:aL bM (cW rW (aA (dR aC "heads" (aB 0)) aJ)) (aB 1) [.fr (.obj aC (oU last [.str "outer",.int 1,.int 2] rs ds)),.fr (.tup [.tup [],.tup [.str "knock"],.tup (rs.map Rd.D),.tup ds])] = .ok (.fr (mZ rs ds)):=
  aM (y:=.fr (.tup [.tup [],.tup [.str "knock"],.tup (rs.map Rd.D),.tup ds])) (tup_is (fj (v _) (show (oU last [.str "outer",.int 1,.int 2] rs ds).lookup ("heads" : Str)=some (.lst [.str "outer",.int 1,.int 2]) from rfl)) (s3 3 (by decide))) rfl (if_pos (e:=Rz.st) (s3 7 (by decide)))
 show fin (Il aC [.fr (.obj aC (oU last [.str "outer",.int 1,.int 2] rs ds)),.no])=_;unfold Il;rw[bV (iG e1)];unfold az;show fin ((aL bM (cW rW (aA (dR aC "heads" (aB 0)) aJ)) (aB 1) [.fr (.obj aC (oU last [.str "outer",.int 1,.int 2] rs ds)),.fr (.tup [.tup [],.tup [.str "knock"],.tup (rs.map Rd.D),.tup ds])]).bind _)=_;rw[e2];rfl
end
theorem Fy:∀ rs:List Rd,Wm (rs.map Rd.D)=true
 | []=>rfl
 | r::rs=>by
  show (r.D.nl&&Wm (rs.map Rd.D))=true;rw[Fy rs];rfl
theorem Fz:∀ ks:List Nat,Wm (ks.map fun k:Nat=>bZ (k:Int))=true
 | []=>rfl
 | k::ks=>by
  show ((bZ (k:Int)).nl&&Wm (ks.map fun k:Nat=>bZ (k:Int)))=true;rw[Fz ks];rfl
theorem Tf(rs:List Rd)(ks:List Nat):(mZ rs (ks.map fun k:Nat=>bZ (k:Int))).nl=true:=by
 show (true&&(true&&(true&&(true&&(true&&(Wm (rs.map Rd.D)&&(Wm (ks.map fun k:Nat=>bZ (k:Int))&&true)))))))=true;rw[Fy,Fz];rfl
noncomputable def H3:List D:=[.str "outer",.int 1,.int 2]
theorem end_is{aC:Addr}{h:Hl}{r:Nat}{ks:List Nat}(n:Nat)(hr:r<=200)(hk:ks.length<=200):Og aC n (gA (lastOf r ks) H3 (h.rs r) (ks.map fun k:Nat=>bZ (k:Int))) =
  if (decide (0<r)&&h.kd (r-1) == "plain")=true then .ok (mZ (h.rs r) (ks.map fun k:Nat=>bZ (k:Int))) else .un ((n:Int)+1):=by
 have s:∀ k:Nat,k<=200->k<=sizeLine:=fun k hk=>Nat.le_trans hk (by rw[sizeLine_eq];decide);have o:Ni aC (gA (lastOf r ks) H3 (h.rs r) (ks.map fun k:Nat=>bZ (k:Int))) = .obj aC (oU (lastOf r ks) H3 (h.rs r) (ks.map fun k:Nat=>bZ (k:Int))):=rfl;unfold Og;rw[if_pos ⟨rfl,rfl⟩,o,Ce,QL]
 cases (decide (0<r)&&h.kd (r-1) == "plain") with
 | false=>rfl
 | true=>
  have w:=Tg (aC:=aC) (last:=lastOf r ks) (rs:=h.rs r) (ds:=ks.map fun k:Nat=>bZ (k:Int)) (by rw[uQ];exact s _ hr) (by rw[jH];exact s _ hk);show (match oG aC [.obj aC (oU (lastOf r ks) H3 (h.rs r) (ks.map fun k:Nat=>bZ (k:Int)))] with | .ok d=>if d.nl=true then Rr.ok d else .st | _=>.st)=_;unfold H3;rw[w];show (if (mZ (h.rs r) (ks.map fun k:Nat=>bZ (k:Int))).nl=true then Rr.ok _ else .st)=_;rw[if_pos (Tf _ _),if_pos rfl]
noncomputable def cL:List Str:=["order outer","letters 1","turns 2","event knock"]
noncomputable def qCX(h:Hl)(n:Nat):Sum (Nat×List Nat) Nat->Rr
 | .inl (r,ks)=>if (decide (0<r)&&h.kd (r-1) == "plain")=true then .ok (mZ (h.rs r) (ks.map fun k:Nat=>bZ (k:Int))) else .un ((n:Int)+1)
 | .inr m=>.un ((4:Int)+m+1)
theorem Ha(h:Hl):∀(es:List En)(r:Nat)(ks:List Nat)(r':Nat)(ks':List Nat),jR h es r ks = .inl (r',ks')->r'<=r+es.length/\ks'.length<=ks.length+es.length
 | [],r,ks,r',ks',e=>by cases e;exact⟨jj _,jj _⟩
 | .room::es,r,ks,r',ks',e=>by
  rw[jR]at e
  split at e
  ·cases q:jR h es (r+1) ks with
   | inl x=>rw[q]at e;cases e;have:=Ha h es _ _ _ _ q;rw[dJ];omega
   | inr m=>rw[q]at e;cases e
  ·cases e
 | .door k::es,r,ks,r',ks',e=>by
  rw[jR]at e
  split at e
  ·cases q:jR h es r (ks++[k]) with
   | inl x=>rw[q]at e;cases e;have:=Ha h es _ _ _ _ q;rw[List.length_append]at this;rw[List.length_cons];simp at this;omega
   | inr m=>rw[q]at e;cases e
  ·cases e
theorem XR{aC:Addr}{h:Hl}{N:Nat}{rr dr:Nat->Str}(ok:qC2 h N rr dr){es:List En}(hf:fit N es 0)(hes:es.length<=110)(hn:∀ y∈dh rr dr es 0,10∉y.cps.toList)(hrl:(dh rr dr es 0).length=es.length)(hlen:(Txt.join "\n" (cL++dh rr dr es 0)).length<=sizeLine) :
  jU aC (Txt.join "\n" (cL++dh rr dr es 0))=qCX h (4+es.length) (jR h es 0 []):=by
 have sp:Txt.split (Txt.join "\n" (cL++dh rr dr es 0)) "\n" = cL++dh rr dr es 0:=by
  refine Gv.U6 (by simp [cL]) fun y hy=>?_;rcases wz.mp hy with z | z
  ·have:∀ y∈cL,10∉y.cps.toList:=by decide +kernel
   exact this y z
  ·exact hn y z
 have hl4:(cL++dh rr dr es 0).length=4+es.length:=by rw[rQ,hrl];rfl
 unfold jU;rw[sp,if_pos ⟨hlen,by rw[hl4];omega⟩,Wl];have e1:=Rh (aC:=aC) ((dh rr dr es 0).map D.str);have e2:=Ia (aC:=aC) (H:=H3) ok es 0 [] 4 hf (by decide) (by decide);have e3:gn (gZ aC) (cL.map D.str++(dh rr dr es 0).map D.str) 0 Tc=Xd H3 h 4 (jR h es 0 []):=e1.trans e2;rw[e3,hl4]
 cases q:jR h es 0 [] with
 | inl x=>
  obtain⟨r,ks⟩:=x;have:=Ha h es 0 [] r ks q;show Og aC (4+es.length) (gA (lastOf r ks) H3 (h.rs r) (ks.map fun k:Nat=>bZ (k:Int)))=_;exact end_is _ (by omega) (by have z:=this.2;simp at z;omega)
 | inr m=>rfl
theorem Yu(s:List Int)(k:Nat):∃ c:Int,law_cell_at_F [.d8 s,.int k] = .ok (.int c):=by
 by_cases h:s.length=0
 ·refine⟨0,?_⟩;have e:s=[]:=List.eq_nil_of_length_eq_zero h;subst e;rfl
 ·have t:aN (aL (bh false) (cW bD (aA (aB 0) aJ)) (fC (.int 0))) [.fr (.d8 s),.fr (.int (k:Int))] = .ok false:=by
   show Rz.ok (((s.length:Int)==0) != false)=_;rw[beq_eq_false_iff_ne.mpr (by omega)];rfl
  have hk:k%s.length<s.length:=Nat.mod_lt _ (by omega)
  have ix:aj (.d8 s) (.int ((k:Int)%(s.length:Int))) = .ok (.fr (.int s[k%s.length])):=by
   have z:yj s ((k:Int)%(s.length:Int))=some s[k%s.length]:=by
    unfold yj Wn;rw[if_pos (by omega),if_pos (by omega)];show s[((k:Int)%(s.length:Int)).toNat]? = _;rw[show ((k:Int)%(s.length:Int)).toNat=k%s.length by omega,Az hk]
   show Rf ((yj s ((k:Int)%(s.length:Int))).map D.int)=_;rw[z];rfl
  refine⟨s[k%s.length],?_⟩;show fin (pA [.fr (.d8 s),.fr (.int (k:Int))])=_;unfold pA;rw[bV (ρ':=[.fr (.d8 s),.fr (.int (k:Int))]) (by unfold cz;rw[t];rfl)]
  have m:aL cC (aB 1) (cW bD (aA (aB 0) aJ)) [.fr (.d8 s),.fr (.int (k:Int))] = .ok (.fr (.int ((k:Int)%(s.length:Int)))):=by
   show (if decide ((0:Int)<(s.length:Int))=true then Rz.ok (W.fr (.int ((k:Int)%(s.length:Int)))) else .st)=_;rw[if_pos (by simp;omega)]
  unfold az;rw[aM (x:=.fr (.d8 s)) rfl m ix];rfl
theorem p6{i j:Int}(h:Jg i j):nF (.int i) (.int j) = .ok (.fr (.int (i*j))):=if_pos h
theorem jq{i j:Int}(h:0<=i/\i<2 ^ 40):Jg i j:=.inl ⟨by omega,by omega⟩
theorem Cd{s:List Int}(hs:s.length<=sizeLine)(k salt:Nat)(hk:k<=1000)(hsl:salt<=1000):∃ m:Nat,m<2147483648/\law_mixed_F [.d8 s,.int k,.int salt] = .ok (.int m):=by
 obtain⟨c,hc⟩:=Yu s k
 have e1:aR 3 (aO (c7 law_cell_at_F) 2 (aA (aB 0) (aA (aB 1) aJ))) [.fr (.d8 s),.fr (.int (k:Int)),.fr (.int (salt:Int)),.no,.no,.no] = .ok (.nx [.fr (.d8 s),.fr (.int (k:Int)),.fr (.int (salt:Int)),.fr (.int c),.no,.no]):=
  iG (bF (ws:=[.fr (.d8 s),.fr (.int (k:Int))]) rfl rfl (dG hc) (.inl rfl))
 obtain⟨RX,hlap,e2⟩:∃ RX:Int,0<=RX/\aR 4 (aL jn (aB 1) (cW wA (aA (fC (.int 1)) (aA (cW bD (aA (aB 0) aJ)) aJ)))) [.fr (.d8 s),.fr (.int (k:Int)),.fr (.int (salt:Int)),.fr (.int c),.no,.no] = .ok (.nx [.fr (.d8 s),.fr (.int (k:Int)),.fr (.int (salt:Int)),.fr (.int c),.fr (.int RX),.no]):=by
  generalize hq:(if (s.length:Int)>1 then (s.length:Int) else 1)=q
  have hs2:s.length<=16777216:=by rw[sizeLine_eq]at hs;exact hs
  have q1:0<q/\q<1073741824:=by split at hq <;> omega
  refine⟨(k:Int)/q,Int.ediv_nonneg (by omega) (by omega),iG (aM (x:=.fr (.int (k:Int))) (y:=.fr (.int q)) rfl ?_ ?_)⟩
  ·show Rz.ok (W.fr (.int (if (s.length:Int)>1 then (s.length:Int) else 1)))=_;rw[hq]
  ·show (if decide (M7 (k:Int) q)=true then Rz.ok (W.fr (.int ((k:Int)/q))) else .st)=_;rw[if_pos (decide_eq_true (show M7 (k:Int) q from q1))]
 have k2:(0:Int)<=4001*(k:Int)/\4001*(k:Int)<2 ^ 40:=by omega
 have s2:(0:Int)<=9001*(salt:Int)/\9001*(salt:Int)<2 ^ 40:=by omega
 obtain⟨n1,e3⟩:∃ n1:Int,aR 5 (aL bM (aL bM (aL bM (aL Yy (aB 3) (fC (.int 2147483647))) (aL nF (aL nF (fC (.int 4001)) (aB 1)) (aB 1))) (aL nF (aL nF (fC (.int 9001)) (aB 2)) (aB 2))) (fC (.int 17))) [.fr (.d8 s),.fr (.int (k:Int)),.fr (.int (salt:Int)),.fr (.int c),.fr (.int RX),.no] = .ok (.nx [.fr (.d8 s),.fr (.int (k:Int)),.fr (.int (salt:Int)),.fr (.int c),.fr (.int RX),.fr (.int n1)]):=by
  refine⟨_,iG (aM (aM (aM (x:=.fr (.int (Builtin.bitAnd c 2147483647))) rfl (aM (aM (x:=.fr (.int 4001)) (y:=.fr (.int (k:Int))) rfl rfl (p6 (jq (by omega)))) (y:=.fr (.int (k:Int))) rfl (p6 (jq k2))) rfl) (aM (aM (x:=.fr (.int 9001)) (y:=.fr (.int (salt:Int))) rfl rfl (p6 (jq (by omega)))) (y:=.fr (.int (salt:Int))) rfl (p6 (jq s2))) rfl) (y:=.fr (.int 17)) rfl rfl)⟩
 obtain⟨n2,hn2,e4⟩:∃ n2:Int,(0<=n2/\n2<2147483647)/\aR 5 (aL cC (aL nF (aB 5) (fC (.int 16807))) (fC (.int 2147483647))) [.fr (.d8 s),.fr (.int (k:Int)),.fr (.int (salt:Int)),.fr (.int c),.fr (.int RX),.fr (.int n1)] = .ok (.nx [.fr (.d8 s),.fr (.int (k:Int)),.fr (.int (salt:Int)),.fr (.int c),.fr (.int RX),.fr (.int n2)]):=
  ⟨(n1*16807)%2147483647,⟨by omega,by omega⟩,iG (aM (aM (x:=.fr (.int n1)) (y:=.fr (.int 16807)) rfl rfl (p6 (.inr ⟨by omega,by omega⟩))) (y:=.fr (.int 2147483647)) rfl rfl)⟩
 generalize hv:c/2 ^ (31*((salt:Int)+128*RX)).toNat+(n2*n2)%2147483579=v
 have e5:aL Yy (aL bM (aL qCK (aB 3) (aL nF (fC (.int 31)) (aL bM (aB 2) (aL nF (fC (.int 128)) (aB 4))))) (aL cC (aL nF (aB 5) (aB 5)) (fC (.int 2147483579)))) (fC (.int 2147483647)) [.fr (.d8 s),.fr (.int (k:Int)),.fr (.int (salt:Int)),.fr (.int c),.fr (.int RX),.fr (.int n2)] = .ok (.fr (.int (Builtin.bitAnd v 2147483647))):=by
  rw[<-hv]
  exact aM (aM (aM (x:=.fr (.int c)) rfl (aM (x:=.fr (.int 31)) rfl (aM (x:=.fr (.int (salt:Int))) rfl (aM (x:=.fr (.int 128)) (y:=.fr (.int RX)) rfl rfl (p6 (jq (by omega)))) rfl) (p6 (jq (by omega)))) (by
   show (if decide ((0:Int)<=31*((salt:Int)+128*RX))=true then Rz.ok (W.fr (.int (c/2 ^ (31*((salt:Int)+128*RX)).toNat))) else .st)=Rz.ok (W.fr (.int (c/2 ^ (31*((salt:Int)+128*RX)).toNat)))
   rw[if_pos (decide_eq_true (by omega))])) (aM (aM (x:=.fr (.int n2)) (y:=.fr (.int n2)) rfl rfl (p6 (jq (by omega)))) (y:=.fr (.int 2147483579)) rfl rfl) rfl) (y:=.fr (.int 2147483647)) rfl rfl
 have hb:=qD8 v;refine⟨(Builtin.bitAnd v 2147483647).toNat,by omega,?_⟩;rw[show (((Builtin.bitAnd v 2147483647).toNat:Nat):Int)=Builtin.bitAnd v 2147483647 by omega];show fin (sS [.fr (.d8 s),.fr (.int (k:Int)),.fr (.int (salt:Int)),.no,.no,.no])=_;unfold sS;rw[bV e1,bV e2,bV e3,bV e4];unfold az;rw[e5];rfl
noncomputable def hD(x:Str×Nat):D:=.tup [.str x.1,.int x.2]
noncomputable def nH(hs:List (Str×Nat)):Nat:=match hs.getLast? with
 | none=>0
 | some x=>x.2
theorem ud(hs:List (Str×Nat))(x:Str×Nat):nH (hs++[x])=x.2:=by
 unfold nH;rw[List.getLast?_concat]
theorem Xv{f:FE}{ρ:List Sl}{l:List D}{w:W}(h:f ρ = .ok w)(hw:w.d = .lst l)(ha:w.a.d=w.d):cW bD (aA f aJ) ρ = .ok (.fr (.int l.length)):=by
 unfold cW;rw[aZ h rfl,aa];show bD [w.a.d]=_;rw[ha,hw];rfl
theorem dm{i j:Int}(h:0<j):cC (.int i) (.int j) = .ok (.fr (.int (i%j))):=by
 show (if decide (0<j)=true then _ else _)=_;rw[if_pos (decide_eq_true h)]
theorem Oj{i j:Int}(h:0<j/\j<1073741824):jn (.int i) (.int j) = .ok (.fr (.int (i/j))):=by
 show (if decide (M7 i j)=true then _ else _)=_;rw[if_pos (decide_eq_true (show M7 i j from h))]
theorem Nr{a b:FE}{ρ:List Sl}{i j:Int}(ha:a ρ = .ok (.fr (.int i)))(hb:b ρ = .ok (.fr (.int j))):cW wA (aA a (aA b aJ)) ρ = .ok (.fr (.int (if j>i then j else i))):=by
 unfold cW;rw[aZ ha (aZ hb rfl)];rfl
theorem SQ(n:Nat)(hs:List (Str×Nat))(hl:nH hs<=1000):∃ d:Nat,d<=nH hs+3/\law_depth_F [.int n,.lst (hs.map hD)] = .ok (.int d):=by
 generalize hρ:([.fr (.int (n:Int)),.fr (.lst (hs.map hD))]:List Sl)=ρ
 have v0:aB 0 ρ = .ok (.fr (.int (n:Int))):=by rw[<-hρ];rfl
 have v1:aB 1 ρ = .ok (.fr (.lst (hs.map hD))):=by rw[<-hρ];rfl
 have len:=nG v1;rw[jH]at len;have c:∀ d:D,fC d ρ = .ok (.fr d):=fun _=>rfl;show ∃ d:Nat,_/\fin (sV [.fr (.int (n:Int)),.fr (.lst (hs.map hD))])=_;rw[hρ];unfold sV;rcases List.eq_nil_or_concat hs with e | ⟨hs',x,e⟩
 ·subst e;refine⟨(max 0 ((n:Int)%24-22)).toNat,by unfold nH;simp;omega,?_⟩
  have t1:mO (aN (aL (bh false) (aL cC (aB 0) (fC (.int 8))) (fC (.int 0)))) (aN (aL pY (cW bD (aA (aB 1) aJ)) (fC (.int 0)))) ρ = .ok false:=by
   have a:aN (aL (bh false) (aL cC (aB 0) (fC (.int 8))) (fC (.int 0))) ρ = .ok (((n:Int)%8==0) != false):=bJ (aM (x:=.fr (.int ((n:Int)%8))) (aM v0 (c _) (dm (by decide))) (c _) rfl);have b:aN (aL pY (cW bD (aA (aB 1) aJ)) (fC (.int 0))) ρ = .ok false:=bJ (aM len (c _) rfl);unfold mO;rw[a,b]
   cases ((n:Int)%8==0) <;> rfl
  have t2:aN (aL (bh false) (cW bD (aA (aB 1) aJ)) (fC (.int 0))) ρ = .ok true:=bJ (aM len (c _) rfl);have m:=Nr (ρ:=ρ) (a:=fC (.int 0)) (b:=aL lN (aL cC (aB 0) (fC (.int 24))) (fC (.int 22))) (i:=0) (j:=(n:Int)%24-22) (c _) (aM (x:=.fr (.int ((n:Int)%24))) (aM v0 (c _) (dm (by decide))) (c _) rfl);rw[bV (ρ':=ρ) (by unfold cz;rw[t1];rfl)];unfold aX cz az;rw[t2,aa,if_pos rfl,m];show Rz.ok (D.int (if (n:Int)%24-22>0 then (n:Int)%24-22 else 0))=_;congr 2
  split <;> omega
 ·rw[List.concat_eq_append]at e;subst e;have lx:nH (hs'++[x])=x.2:=ud hs' x;rw[lx]at hl ⊢;have qBD:decide ((0:Int)<((hs'++[x]).length:Int))=true:=decide_eq_true (by rw[List.length_append];simp);have last:aL aj (aB 1) (vB j9 (fC (.int 1))) ρ = .ok (.fr (hD x)):=aM v1 (y:=.fr (.int (-1))) rfl (by rw[Wl];exact wD _ _);have lk:aL aj (aL aj (aB 1) (vB j9 (fC (.int 1)))) (fC (.int 0)) ρ = .ok (.fr (.str x.1)):=aM last (c _) rfl;have ld:aL aj (aL aj (aB 1) (vB j9 (fC (.int 1)))) (fC (.int 1)) ρ = .ok (.fr (.int (x.2:Int))):=aM last (c _) rfl;have a:aN (aL (bh false) (aL cC (aB 0) (fC (.int 8))) (fC (.int 0))) ρ = .ok (((n:Int)%8==0) != false):=bJ (aM (x:=.fr (.int ((n:Int)%8))) (aM v0 (c _) (dm (by decide))) (c _) rfl);have b:aN (aL pY (cW bD (aA (aB 1) aJ)) (fC (.int 0))) ρ = .ok true:=bJ (aM len (c _) (by show Rz.ok (W.fr (.bl (decide ((0:Int)<((hs'++[x]).length:Int)))))=_;rw[qBD]))
  have t1:mO (aN (aL (bh false) (aL cC (aB 0) (fC (.int 8))) (fC (.int 0)))) (aN (aL pY (cW bD (aA (aB 1) aJ)) (fC (.int 0)))) ρ = .ok ((n:Int)%8==0):=by
   unfold mO;rw[a,b]
   cases ((n:Int)%8==0) <;> rfl
  have dv:aL jn (aB 0) (fC (.int 8)) ρ = .ok (.fr (.int ((n:Int)/8))):=aM v0 (c _) (Oj (by decide))
  cases c1:((n:Int)%8==0) with
  | true=>
   rw[c1]at t1;refine⟨(((n:Int)/8)%((x.2:Int)+4)).toNat,?_,?_⟩
   ·have:=qA3 ((n:Int)/8) (show (0:Int)<(x.2:Int)+4 by omega);omega
   ·have z:=qA4 ((n:Int)/8) (show (x.2:Int)+4≠0 by omega);unfold aX cz az;rw[t1,aa,if_pos rfl,aM dv (aM ld (c _) (show bM _ _ = .ok (.fr (.int ((x.2:Int)+4))) from rfl)) (dm (by show (0:Int)<(x.2:Int)+4;omega))];show Rz.ok (D.int (((n:Int)/8)%((x.2:Int)+4)))=_;congr 2
  | false=>
   rw[c1]at t1
   have t2:aN (aL (bh false) (cW bD (aA (aB 1) aJ)) (fC (.int 0))) ρ = .ok false:=bJ (aM len (c _) (by
    show Rz.ok (W.fr (.bl ((((hs'++[x]).length:Int)==0) != false)))=_;rw[beq_eq_false_iff_ne.mpr (by rw[List.length_append];simp;omega)]
    rfl))
   have t3:aN (aL (bh true) (aL aj (aL aj (aB 1) (vB j9 (fC (.int 1)))) (fC (.int 0))) (fC (.str "plain"))) ρ = .ok ((x.1 == "plain") != true):=bJ (aM lk (c _) rfl);rw[bV (ρ':=ρ) (by unfold cz;rw[t1];rfl),bV (ρ':=ρ) (by unfold cz;rw[t2];rfl)]
   cases c3:((x.1 == "plain") != true) with
   | true=>
    rw[c3]at t3;refine⟨x.2+1,by omega,?_⟩;unfold aX cz az;rw[t3,aa,if_pos rfl,aM ld (c _) rfl];rfl
   | false=>
    rw[c3]at t3;generalize hq:(if (x.2:Int)>1 then (x.2:Int) else 1)=q
    have hq1:1<=q/\q<=(x.2:Int)+1:=by split at hq <;> omega
    have z1:=qA3 ((n:Int)/8) (show (0:Int)<q by omega);have z2:=qA4 ((n:Int)/8) (show q≠0 by omega);have m:=Nr (ρ:=ρ) (a:=fC (.int 1)) (b:=aL aj (aL aj (aB 1) (vB j9 (fC (.int 1)))) (fC (.int 1))) (c _) ld;rw[hq]at m;refine⟨(1+((n:Int)/8)%q).toNat,by omega,?_⟩;rw[bV (ρ':=ρ) (by unfold cz;rw[t3];rfl)];unfold az;rw[aM (x:=.fr (.int 1)) (c _) (aM dv m (dm (by omega))) rfl];show Rz.ok (D.int (1+((n:Int)/8)%q))=_;congr 2
theorem sI{c:FT}{a b:FS}{ρ:List Sl}{Q:List Sl->Prop}(hc:∃ x,c ρ = .ok x)(ha:∃ ρ',a ρ = .ok (.nx ρ')/\Q ρ')(hb:∃ ρ',b ρ = .ok (.nx ρ')/\Q ρ'):∃ ρ',cz c a b ρ = .ok (.nx ρ')/\Q ρ':=by
 obtain⟨x,hx⟩:=hc;unfold cz;rw[hx,aa]
 cases x with
 | true=>rw[if_pos rfl];exact ha
 | false=>rw[if_neg pK];exact hb
theorem qN{a b:FS}{ρ:List Sl}{Q R:List Sl->Prop}(ha:∃ ρ',a ρ = .ok (.nx ρ')/\Q ρ')(hb:∀ ρ',Q ρ'->∃ ρ2,b ρ' = .ok (.nx ρ2)/\R ρ2):∃ ρ2,aX a b ρ = .ok (.nx ρ2)/\R ρ2:=by
 obtain⟨ρ',h1,h2⟩:=ha;rw[bV h1];exact hb ρ' h2
theorem uA{a b:FT}{ρ:List Sl}(ha:∃ x,a ρ = .ok x)(hb:∃ x,b ρ = .ok x):∃ x,mO a b ρ = .ok x:=by
 obtain⟨x,hx⟩:=ha;obtain⟨y,hy⟩:=hb;unfold mO;rw[hx,hy]
 cases x <;> exact⟨_,rfl⟩
theorem qAU{a b:FT}{ρ:List Sl}(ha:∃ x,a ρ = .ok x)(hb:∃ x,b ρ = .ok x):∃ x,lq a b ρ = .ok x:=by
 obtain⟨x,hx⟩:=ha;obtain⟨y,hy⟩:=hb;unfold lq;rw[hx,hy]
 cases x <;> exact⟨_,rfl⟩
noncomputable def Fp:FS:=(aX (aR 5 (aO (c7 law_mixed_F) 3 (aA (aB 0) (aA (aB 4) (aA (fC (.int 4)) aJ)))))
   (aX (aR 6 (aO (c7 law_depth_F) 2 (aA (aO (c7 law_mixed_F) 3 (aA (aB 0) (aA (aB 4) (aA (fC (.int 5)) aJ)))) (aA (aB 3) aJ))))
   (aX (cz (mO (aN (aL (bh true) (aL cC (aB 2) (fC (.int 3))) (fC (.int 0)))) (aN (aL pY (cW bD (aA (aB 3) aJ)) (fC (.int 0)))))
   (aX (aR 6 (aL bM (fC (.int 1)) (aL cC (aO (c7 law_mixed_F) 3 (aA (aB 0) (aA (aB 4) (aA (fC (.int 5)) aJ)))) (cW wA (aA (fC (.int 1)) (aA (aL aj (aL aj (aB 3) (vB j9 (fC (.int 1)))) (fC (.int 1))) aJ))))))
   (cz (aN (aL (bh true) (aL aj (aL aj (aB 3) (vB j9 (fC (.int 1)))) (fC (.int 0))) (fC (.str "plain"))))
    (aR 6 (aL bM (aL aj (aL aj (aB 3) (vB j9 (fC (.int 1)))) (fC (.int 1))) (fC (.int 1))))
    bO))
   bO)
   (aX (aR 7 (aL aj (fH (aA (fC (.str "one")) (aA (fC (.str "all")) (aA (fC (.str "plain")) (aA (fC (.str "plain")) (aA (fC (.str "one")) aJ)))))) (aL cC (aB 5) (fC (.int 5)))))
   (aX (cz (aN (aL (bh false) (aB 2) (fC (.int 2))))
   (aR 7 (aL aj (fH (aA (fC (.str "one")) (aA (fC (.str "all")) aJ))) (aL cC (aB 5) (fC (.int 2)))))
   bO)
   (aX (cz (mO (aN (aL (bh false) (aB 4) (fC (.int 0)))) (mO (aN (aL pY (aB 1) (fC (.int 1)))) (aN (aL pY (aL cC (aL jn (aB 5) (fC (.int 5))) (fC (.int 8))) (fC (.int 0))))))
   (aR 7 (aL aj (fH (aA (fC (.str "one")) (aA (fC (.str "all")) aJ))) (aL cC (aB 5) (fC (.int 2)))))
   (cz (lq (mO (aN (aL (bh false) (aB 4) (aL lN (aB 1) (fC (.int 1))))) (aN (aL pY (aL cC (aL jn (aB 5) (fC (.int 5))) (fC (.int 6))) (fC (.int 0))))) (mO (aN (aL (bh false) (aB 2) (fC (.int 1)))) (mO (aN (aL pY (aB 4) (fC (.int 0)))) (aN (aL pY (aL cC (aL jn (aB 5) (fC (.int 5))) (fC (.int 8))) (fC (.int 1)))))))
    (aR 7 (fC (.str "plain")))
    bO))
   (HY 3 (cV (aA (aB 7) (aA (aB 6) aJ))))))))))
section
variable{s:List Int}{many sort i:Nat}{hs:List (Str×Nat)}
noncomputable def fX(s:List Int)(many sort:Nat)(hs:List (Str×Nat))(i:Nat)(x5 x6 x7:Sl):List Sl:=[.fr (.d8 s),.fr (.int (many:Int)),.fr (.int (sort:Int)),.ow (hs.map hD),.fr (.int (i:Int)),x5,x6,x7]
noncomputable def SA(s:List Int)(many sort:Nat)(hs:List (Str×Nat))(i:Nat)(ρ:List Sl):Prop:=∃(n5 d:Nat)(x7:Sl),x7.nb=true/\d<=nH hs+3/\ρ=fX s many sort hs i (.fr (.int (n5:Int))) (.fr (.int (d:Int))) x7
noncomputable def SB(s:List Int)(many sort:Nat)(hs:List (Str×Nat))(i:Nat)(ρ:List Sl):Prop:=∃(n5 d:Nat)(kd:Str),iZ kd/\d<=nH hs+3/\ρ=fX s many sort hs i (.fr (.int (n5:Int))) (.fr (.int (d:Int))) (.fr (.str kd))
theorem uZ(hS:s.length<=sizeLine)(hi:i<=1000)(salt:Nat)(hsl:salt<=1000)(x5 x6 x7:Sl):∃ m:Nat,aO (c7 law_mixed_F) 3 (aA (aB 0) (aA (aB 4) (aA (fC (.int salt)) aJ))) (fX s many sort hs i x5 x6 x7) = .ok (.fr (.int m)):=by
 obtain⟨m,_,h⟩:=Cd hS i salt hi hsl;exact⟨m,bF (ws:=[.fr (.d8 s),.fr (.int (i:Int)),.fr (.int (salt:Int))]) rfl rfl (dG h) (.inl rfl)⟩
theorem Fo(n:Nat){ρ:List Sl}{f:FE}(h:f ρ = .ok (.fr (.int (n:Int)))):∃ kd,iZ kd/\aL aj (fH (aA (fC (.str "one")) (aA (fC (.str "all")) aJ))) (aL cC f (fC (.int 2))) ρ = .ok (.fr (.str kd)):=by
 have m:aL cC f (fC (.int 2)) ρ = .ok (.fr (.int ((n:Int)%2))):=aM h (y:=.fr (.int 2)) rfl (dm (by decide));have l:fH (aA (fC (.str "one")) (aA (fC (.str "all")) aJ)) ρ = .ok (.ow [.str "one",.str "all"]):=rfl;rcases (show (n:Int)%2=0∨(n:Int)%2=1 by omega) with e | e
 ·rw[e]at m;exact⟨"one",.inr (.inl rfl),aM l m rfl⟩
 ·rw[e]at m;exact⟨"all",.inr (.inr rfl),aM l m rfl⟩
theorem O4(n:Nat){ρ:List Sl}{f:FE}(h:f ρ = .ok (.fr (.int (n:Int)))):∃ kd,iZ kd/\aL aj (fH (aA (fC (.str "one")) (aA (fC (.str "all")) (aA (fC (.str "plain")) (aA (fC (.str "plain")) (aA (fC (.str "one")) aJ)))))) (aL cC f (fC (.int 5))) ρ = .ok (.fr (.str kd)):=by
 have m:aL cC f (fC (.int 5)) ρ = .ok (.fr (.int ((n:Int)%5))):=aM h (y:=.fr (.int 5)) rfl (dm (by decide));have l:fH (aA (fC (.str "one")) (aA (fC (.str "all")) (aA (fC (.str "plain")) (aA (fC (.str "plain")) (aA (fC (.str "one")) aJ))))) ρ = .ok (.ow [.str "one",.str "all",.str "plain",.str "plain",.str "one"]):=rfl;rcases (show (n:Int)%5=0∨(n:Int)%5=1∨(n:Int)%5=2∨(n:Int)%5=3∨(n:Int)%5=4 by omega) with e | e | e | e | e
 ·rw[e]at m;exact⟨"one",.inr (.inl rfl),aM l m rfl⟩
 ·rw[e]at m;exact⟨"all",.inr (.inr rfl),aM l m rfl⟩
 ·rw[e]at m;exact⟨"plain",.inl rfl,aM l m rfl⟩
 ·rw[e]at m;exact⟨"plain",.inl rfl,aM l m rfl⟩
 ·rw[e]at m;exact⟨"one",.inr (.inl rfl),aM l m rfl⟩
theorem rz{f g:FE}{ρ:List Sl}{ng:Bool}{a b:Int}(hf:f ρ = .ok (.fr (.int a)))(hg:g ρ = .ok (.fr (.int b))):∃ x,aN (aL (bh ng) f g) ρ = .ok x:=⟨_,bJ (aM hf hg rfl)⟩
theorem xX{f g:FE}{ρ:List Sl}{a b:Int}(hf:f ρ = .ok (.fr (.int a)))(hg:g ρ = .ok (.fr (.int b))):∃ x,aN (aL pY f g) ρ = .ok x:=⟨_,bJ (aM hf hg rfl)⟩
theorem Tp(hS:s.length<=sizeLine)(hi:i<=1000)(hl:nH hs<=900)(hlen:hs.length<sizeLine){x5 x6 x7:Sl}(n7:x7.nb=true) :
  ∃ ρ2,Fp (fX s many sort hs i x5 x6 x7) = .ok (.nx ρ2)/\∃(kd:Str)(d:Nat)(y5 y6 y7:Sl),iZ kd/\d<=nH hs+3/\y7.nb=true/\ρ2=fX s many sort (hs++[(kd,d)]) i y5 y6 y7:=by
 unfold Fp;refine qN (Q:=fun ρ => ∃ n5:Nat,ρ=fX s many sort hs i (.fr (.int (n5:Int))) x6 x7) ?_ ?_
 ·obtain⟨m,h⟩:=uZ (many:=many) (sort:=sort) (hs:=hs) hS hi 4 (by decide) x5 x6 x7;exact⟨_,iG h,m,rfl⟩
 rintro _ ⟨n5,rfl⟩;refine qN (Q:=SA s many sort hs i) ?_ ?_
 ·obtain⟨m,h⟩:=uZ (many:=many) (sort:=sort) (hs:=hs) hS hi 5 (by decide) (.fr (.int (n5:Int))) x6 x7;obtain⟨d,hd,e⟩:=SQ m hs (by omega);exact⟨_,iG (bF (ws:=[.fr (.int (m:Int)),.bw (hs.map hD)]) (aZ h (aZ (w:=.bw (hs.map hD)) rfl rfl)) rfl (dG e) (.inr rfl)),n5,d,x7,n7,hd,rfl⟩
 rintro _ ⟨n5,d,x7,n7,hd,rfl⟩;refine qN (Q:=SA s many sort hs i) ?_ ?_
 ·have qDF:∀ ρ,aB 3 ρ = .ok (.bw (hs.map hD))->cW bD (aA (aB 3) aJ) ρ = .ok (.fr (.int (hs.length:Int))):=fun ρ h=>by
   have z:=Xv (l:=hs.map hD) h rfl rfl;rw[jH]at z;exact z
  have srt:∃ x,aN (aL (bh true) (aL cC (aB 2) (fC (.int 3))) (fC (.int 0))) (fX s many sort hs i (.fr (.int (n5:Int))) (.fr (.int (d:Int))) x7) = .ok x:=rz (a:=(sort:Int)%3) (aM (x:=.fr (.int (sort:Int))) (y:=.fr (.int 3)) rfl rfl (dm (by decide))) rfl
  by_cases h0:hs=[]
  ·obtain⟨x,hx⟩:=srt;have g:aN (aL pY (cW bD (aA (aB 3) aJ)) (fC (.int 0))) (fX s many sort hs i (.fr (.int (n5:Int))) (.fr (.int (d:Int))) x7) = .ok false:=bJ (aM (qDF _ rfl) rfl (by rw[h0];rfl))
   have a:mO (aN (aL (bh true) (aL cC (aB 2) (fC (.int 3))) (fC (.int 0)))) (aN (aL pY (cW bD (aA (aB 3) aJ)) (fC (.int 0)))) (fX s many sort hs i (.fr (.int (n5:Int))) (.fr (.int (d:Int))) x7) = .ok false:=by
    unfold mO;rw[hx,g]
    cases x <;> rfl
   refine⟨_,by unfold cz;rw[a];rfl,n5,d,x7,n7,hd,rfl⟩
  ·rcases List.eq_nil_or_concat hs with e | ⟨hs',x,e⟩
   ·exact absurd e h0
   rw[List.concat_eq_append]at e
   have lx:nH hs=x.2:=by rw[e];exact ud hs' x
   have last:∀ x6 x7,aL aj (aB 3) (vB j9 (fC (.int 1))) (fX s many sort hs i (.fr (.int (n5:Int))) x6 x7) = .ok (.fr (hD x)):=fun x6 x7=>aM (x:=.bw (hs.map hD)) (y:=.fr (.int (-1))) rfl rfl (by show aj (.lst (hs.map hD)) (.int (-1))=_;rw[e,Wl];exact wD _ _);have lk:∀ x6 x7,aL aj (aL aj (aB 3) (vB j9 (fC (.int 1)))) (fC (.int 0)) (fX s many sort hs i (.fr (.int (n5:Int))) x6 x7) = .ok (.fr (.str x.1)):=fun _ _=>aM (last _ _) (y:=.fr (.int 0)) rfl rfl;have ld:∀ x6 x7,aL aj (aL aj (aB 3) (vB j9 (fC (.int 1)))) (fC (.int 1)) (fX s many sort hs i (.fr (.int (n5:Int))) x6 x7) = .ok (.fr (.int (x.2:Int))):=fun _ _=>aM (last _ _) (y:=.fr (.int 1)) rfl rfl;refine sI (uA srt (xX (qDF _ rfl) rfl)) (qN (Q:=fun ρ => ∃(d:Nat),d<=nH hs+3/\ρ=fX s many sort hs i (.fr (.int (n5:Int))) (.fr (.int (d:Int))) x7) ?_ ?_) ⟨_,rfl,n5,d,x7,n7,hd,rfl⟩
   ·obtain⟨m,h⟩:=uZ (many:=many) (sort:=sort) (hs:=hs) hS hi 5 (by decide) (.fr (.int (n5:Int))) (.fr (.int (d:Int))) x7;generalize hq:(if (x.2:Int)>1 then (x.2:Int) else 1)=q
    have hq1:1<=q/\q<=(x.2:Int)+1:=by split at hq <;> omega
    have z1:=qA3 (m:Int) (show (0:Int)<q by omega);have z2:=qA4 (m:Int) (show q≠0 by omega);have mx:=Nr (ρ:=fX s many sort hs i (.fr (.int (n5:Int))) (.fr (.int (d:Int))) x7) (a:=fC (.int 1)) (b:=aL aj (aL aj (aB 3) (vB j9 (fC (.int 1)))) (fC (.int 1))) (i:=1) rfl (ld _ _);rw[hq]at mx
    have e5:((1+(m:Int)%q).toNat:Int)=1+(m:Int)%q:=by omega
    refine⟨_,iG (d:=.int (1+(m:Int)%q)) (aM (x:=.fr (.int 1)) rfl (aM h mx (dm (by omega))) rfl),(1+(m:Int)%q).toNat,by omega,?_⟩;rw[e5];rfl
   ·rintro _ ⟨d,hd,rfl⟩;refine sI ⟨_,bJ (aM (lk _ _) (y:=.fr (.str "plain")) rfl rfl)⟩ ⟨_,iG (d:=.int ((x.2+1:Nat):Int)) (aM (ld _ _) (y:=.fr (.int 1)) rfl rfl),n5,x.2+1,x7,n7,by omega,rfl⟩ ⟨_,rfl,n5,d,x7,n7,hd,rfl⟩
 rintro _ ⟨n5,d,x7,n7,hd,rfl⟩;refine qN (Q:=SB s many sort hs i) ?_ ?_
 ·obtain⟨kd,hk,e⟩:=O4 n5 (ρ:=fX s many sort hs i (.fr (.int (n5:Int))) (.fr (.int (d:Int))) x7) (f:=aB 5) rfl;exact⟨_,iG e,n5,d,kd,hk,hd,rfl⟩
 rintro _ ⟨n5,d,kd,hk,hd,rfl⟩;refine qN (Q:=SB s many sort hs i) (sI (rz (a:=(sort:Int)) rfl rfl) ?_ ⟨_,rfl,n5,d,kd,hk,hd,rfl⟩) ?_
 ·obtain⟨kd,hk,e⟩:=Fo n5 (ρ:=fX s many sort hs i (.fr (.int (n5:Int))) (.fr (.int (d:Int))) (.fr (.str kd))) (f:=aB 5) rfl;exact⟨_,iG e,n5,d,kd,hk,hd,rfl⟩
 rintro _ ⟨n5,d,kd,hk,hd,rfl⟩;have dv:∀ j:Int,0<j->aL cC (aL jn (aB 5) (fC (.int 5))) (fC (.int j)) (fX s many sort hs i (.fr (.int (n5:Int))) (.fr (.int (d:Int))) (.fr (.str kd))) = .ok (.fr (.int (((n5:Int)/5)%j))):=fun j hj=>aM (aM (x:=.fr (.int (n5:Int))) (y:=.fr (.int 5)) rfl rfl (Oj (by decide))) (y:=.fr (.int j)) rfl (dm hj);refine qN (Q:=SB s many sort hs i) (sI ?_ ?_ (sI ?_ ⟨_,rfl,n5,d,"plain",.inl rfl,hd,rfl⟩ ⟨_,rfl,n5,d,kd,hk,hd,rfl⟩)) ?_
 ·exact uA (rz (a:=(i:Int)) rfl rfl) (uA (xX (a:=(many:Int)) rfl rfl) (xX (dv 8 (by decide)) rfl))
 ·obtain⟨kd,hk,e⟩:=Fo n5 (ρ:=fX s many sort hs i (.fr (.int (n5:Int))) (.fr (.int (d:Int))) (.fr (.str kd))) (f:=aB 5) rfl;exact⟨_,iG e,n5,d,kd,hk,hd,rfl⟩
 ·exact qAU (uA (rz (a:=(i:Int)) (b:=(many:Int)-1) rfl rfl) (xX (dv 6 (by decide)) rfl)) (uA (rz (a:=(sort:Int)) rfl rfl) (uA (xX (a:=(i:Int)) rfl rfl) (xX (dv 8 (by decide)) rfl)))
 rintro _ ⟨n5,d,kd,hk,hd,rfl⟩;refine⟨_,?_,kd,d,.fr (.int (n5:Int)),.fr (.int (d:Int)),.fr (.str kd),hk,hd,rfl,rfl⟩;have e:cV (aA (aB 7) (aA (aB 6) aJ)) (fX s many sort hs i (.fr (.int (n5:Int))) (.fr (.int (d:Int))) (.fr (.str kd))) = .ok (.fr (hD (kd,d))):=qd (ws:=[.fr (.str kd),.fr (.int (d:Int))]) rfl rfl (by rw[sizeLine_eq];exact (by decide:2<=16777216));show ((cV (aA (aB 7) (aA (aB 6) aJ)) (fX s many sort hs i (.fr (.int (n5:Int))) (.fr (.int (d:Int))) (.fr (.str kd)))).bind fun w=>w.z.bind fun x=>if (hs.map hD).length<sizeLine/\(fX s many sort hs i (.fr (.int (n5:Int))) (.fr (.int (d:Int))) (.fr (.str kd))).all Sl.nb=true then Rz.ok (Fl.nx ((fX s many sort hs i (.fr (.int (n5:Int))) (.fr (.int (d:Int))) (.fr (.str kd))).set 3 (.ow (hs.map hD++[x])))) else .st)=_;rw[e,aa];show (if (hs.map hD).length<sizeLine/\(fX s many sort hs i (.fr (.int (n5:Int))) (.fr (.int (d:Int))) (.fr (.str kd))).all Sl.nb=true then Rz.ok (Fl.nx ((fX s many sort hs i (.fr (.int (n5:Int))) (.fr (.int (d:Int))) (.fr (.str kd))).set 3 (.ow (hs.map hD++[hD (kd,d)])))) else .st)=_;rw[if_pos ⟨by rw[jH];exact hlen,rfl⟩];unfold fX;rw[Wl];rfl
end
noncomputable def Good(hs:List (Str×Nat)):Prop:=∀ x∈hs,iZ x.1/\x.2<=3*hs.length
theorem Good.last{hs:List (Str×Nat)}(h:Good hs):nH hs<=3*hs.length:=by
 rcases List.eq_nil_or_concat hs with e | ⟨hs',x,e⟩
 ·subst e;exact Nat.zero_le _
 ·rw[List.concat_eq_append]at e
  have:nH hs=x.2:=by rw[e];exact ud hs' x
  rw[this];exact (h x (by rw[e];simp)).2
theorem Good.snoc{hs:List (Str×Nat)}(h:Good hs){kd:Str}{d:Nat}(hk:iZ kd)(hd:d<=nH hs+3):Good (hs++[(kd,d)]):=by
 intro x hx;have l:=h.last
 have len:(hs++[(kd,d)]).length=hs.length+1:=by simp
 rw[len];rcases wz.mp hx with z | z
 ·have:=h x z;exact⟨this.1,by omega⟩
 ·rw[MT.mp z];exact⟨hk,by show d<=_;omega⟩
noncomputable def Dt(s:List Int)(many sort:Nat)(hs:List (Str×Nat))(x4 x5 x6 x7:Sl):List Sl:=[.fr (.d8 s),.fr (.int (many:Int)),.fr (.int (sort:Int)),.ow (hs.map hD),x4,x5,x6,x7]
theorem Cy{s:List Int}{many sort:Nat}(hS:s.length<=sizeLine):∀(n j:Nat)(hs:List (Str×Nat))(x4 x5 x6 x7:Sl),hs.length=j->j+n<=50->Good hs->x7.nb=true →
  ∃(hs':List (Str×Nat))(y4 y5 y6 y7:Sl),hs'.length=j+n/\Good hs'/\pB (bN 4) Fp ((List.range' j n).map fun k:Nat=>D.int (k:Int)) (Dt s many sort hs x4 x5 x6 x7) = .ok (.nx (Dt s many sort hs' y4 y5 y6 y7))
 | 0,j,hs,x4,x5,x6,x7,hl,_,g,_=>⟨hs,x4,x5,x6,x7,by omega,g,rfl⟩
 | n+1,j,hs,x4,x5,x6,x7,hl,hn,g,n7=>by
  have gl:=g.last;obtain⟨ρ2,e,kd,d,y5,y6,y7,hk,hd,n7',rfl⟩:=Tp (s:=s) (many:=many) (sort:=sort) (i:=j) (hs:=hs) (x5:=x5) (x6:=x6) hS (by omega) (by omega) (by rw[sizeLine_eq];omega) n7;obtain⟨hs',z4,z5,z6,z7,l',g',f'⟩:=Cy hS n (j+1) (hs++[(kd,d)]) (.fr (.int (j:Int))) y5 y6 y7 (by simp;omega) (by omega) (g.snoc hk hd) n7';refine⟨hs',z4,z5,z6,z7,by omega,g',?_⟩;rw[List.range'_succ,List.map_cons,pB];show ((Fp (fX s many sort hs j x5 x6 x7)).bind _)=_;rw[e,aa];exact f'
theorem Cu(n:Nat):rG 0 n=(List.range' 0 n).map fun k:Nat=>D.int (k:Int):=by
 unfold rG;rw[List.range_eq_range'];apply List.map_congr_left;intro k _;rw[Int.zero_add]
theorem Hw{s:List Int}(hS:s.length<=sizeLine)(k salt:Nat)(hk:k<=1000)(hsl:salt<=1000){ρ:List Sl}(h0:aB 0 ρ = .ok (.fr (.d8 s))):∃ m:Nat,aO (c7 law_mixed_F) 3 (aA (aB 0) (aA (fC (.int k)) (aA (fC (.int salt)) aJ))) ρ = .ok (.fr (.int m)):=by
 obtain⟨m,_,h⟩:=Cd hS k salt hk hsl;exact⟨m,bF (ws:=[.fr (.d8 s),.fr (.int (k:Int)),.fr (.int (salt:Int))]) (aZ h0 rfl) rfl (dG h) (.inl rfl)⟩
noncomputable def Af(s:List Int)(many sort:Nat):List Sl:=[.fr (.d8 s),.fr (.int (many:Int)),.fr (.int (sort:Int)),.no,.no,.no,.no,.no]
theorem Ri{s:List Int}(hS:s.length<=sizeLine):∃ hs:List (Str×Nat),1<=hs.length/\hs.length<=42/\Good hs/\law_halls_F [.d8 s] = .ok (.lst (hs.map hD)):=by
 have m1:=fun (salt:Nat) (hsl:salt<=1000) (ρ:List Sl) (h:aB 0 ρ = .ok (.fr (.d8 s)))=>Hw (s:=s) hS 0 salt (by decide) hsl h;obtain⟨a,ha⟩:=m1 1 (by decide) [.fr (.d8 s),.no,.no,.no,.no,.no,.no,.no] rfl
 have e1:aR 1 (aL bM (fC (.int 1)) (aL cC (aO (c7 law_mixed_F) 3 (aA (aB 0) (aA (fC (.int 0)) (aA (fC (.int 1)) aJ)))) (fC (.int 12)))) [.fr (.d8 s),.no,.no,.no,.no,.no,.no,.no] = .ok (.nx [.fr (.d8 s),.fr (.int ((1+a%12:Nat):Int)),.no,.no,.no,.no,.no,.no]):=
  iG (aM (x:=.fr (.int 1)) rfl (aM ha (y:=.fr (.int 12)) rfl (dm (by decide))) rfl)
 have q1:1<=1+a%12/\1+a%12<=42:=by omega
 generalize 1+a%12=uK at *;obtain⟨b,hb⟩:=m1 2 (by decide) [.fr (.d8 s),.fr (.int (uK:Int)),.no,.no,.no,.no,.no,.no] rfl
 have e2:aR 2 (aL cC (aO (c7 law_mixed_F) 3 (aA (aB 0) (aA (fC (.int 0)) (aA (fC (.int 2)) aJ)))) (fC (.int 6))) [.fr (.d8 s),.fr (.int (uK:Int)),.no,.no,.no,.no,.no,.no] = .ok (.nx (Af s uK (b%6))):=
  iG (aM hb (y:=.fr (.int 6)) rfl (dm (by decide)))
 generalize b%6=sort at *;obtain⟨ρ3,e3,V5,h31,h32,rfl⟩:∃ ρ3,cz (aN (aL (bh false) (aB 2) (fC (.int 1))))
   (aR 1 (aL aj (fH (aA (aL bM (fC (.int 13)) (aL cC (aO (c7 law_mixed_F) 3 (aA (aB 0) (aA (fC (.int 0)) (aA (fC (.int 3)) aJ)))) (fC (.int 27)))) (aA (fC (.int 40)) (aA (fC (.int 41)) (aA (fC (.int 42)) aJ))))) (aL cC (aO (c7 law_mixed_F) 3 (aA (aB 0) (aA (fC (.int 0)) (aA (fC (.int 13)) aJ)))) (fC (.int 4))))) bO (Af s uK sort) = .ok (.nx ρ3)/\∃ many:Nat,1<=many/\many<=42/\ρ3=Af s many sort:=by
  refine sI (rz (a:=(sort:Int)) rfl rfl) ?_ ⟨_,rfl,uK,q1.1,q1.2,rfl⟩;obtain⟨c,hc⟩:=m1 3 (by decide) (Af s uK sort) rfl;obtain⟨g,hg⟩:=m1 13 (by decide) (Af s uK sort) rfl
  have l:fH (aA (aL bM (fC (.int 13)) (aL cC (aO (c7 law_mixed_F) 3 (aA (aB 0) (aA (fC (.int 0)) (aA (fC (.int 3)) aJ)))) (fC (.int 27)))) (aA (fC (.int 40)) (aA (fC (.int 41)) (aA (fC (.int 42)) aJ)))) (Af s uK sort) = .ok (.ow [.int ((13+c%27:Nat):Int),.int 40,.int 41,.int 42]):=by
   have w:aA (aL bM (fC (.int 13)) (aL cC (aO (c7 law_mixed_F) 3 (aA (aB 0) (aA (fC (.int 0)) (aA (fC (.int 3)) aJ)))) (fC (.int 27)))) (aA (fC (.int 40)) (aA (fC (.int 41)) (aA (fC (.int 42)) aJ))) (Af s uK sort) = .ok [.fr (.int ((13+c%27:Nat):Int)),.fr (.int 40),.fr (.int 41),.fr (.int 42)]:=
    aZ (w:=.fr (.int ((13+c%27:Nat):Int))) (aM (x:=.fr (.int 13)) rfl (aM hc (y:=.fr (.int 27)) rfl (dm (by decide))) rfl) rfl
   unfold fH;rw[w];rfl
  have m:aL cC (aO (c7 law_mixed_F) 3 (aA (aB 0) (aA (fC (.int 0)) (aA (fC (.int 13)) aJ)))) (fC (.int 4)) (Af s uK sort) = .ok (.fr (.int ((g:Int)%4))):=aM hg (y:=.fr (.int 4)) rfl (dm (by decide));rcases (show (g:Int)%4=0∨(g:Int)%4=1∨(g:Int)%4=2∨(g:Int)%4=3 by omega) with e | e | e | e
  ·rw[e]at m;exact⟨_,iG (aM l m rfl),13+c%27,by omega,by omega,rfl⟩
  ·rw[e]at m;exact⟨_,iG (aM l m rfl),40,by omega,by omega,rfl⟩
  ·rw[e]at m;exact⟨_,iG (aM l m rfl),41,by omega,by omega,rfl⟩
  ·rw[e]at m;exact⟨_,iG (aM l m rfl),42,by omega,by omega,rfl⟩
 obtain⟨ρ4,e4,many,h41,h42,rfl⟩:∃ ρ4,cz (aN (aL (bh false) (aB 2) (fC (.int 2))))
   (aR 1 (aL bM (fC (.int 11)) (aL cC (aO (c7 law_mixed_F) 3 (aA (aB 0) (aA (fC (.int 0)) (aA (fC (.int 3)) aJ)))) (fC (.int 5))))) bO (Af s V5 sort) = .ok (.nx ρ4)/\∃ many:Nat,1<=many/\many<=42/\ρ4=Af s many sort:=by
  refine sI (rz (a:=(sort:Int)) rfl rfl) ?_ ⟨_,rfl,V5,h31,h32,rfl⟩;obtain⟨c,hc⟩:=m1 3 (by decide) (Af s V5 sort) rfl;exact⟨_,iG (d:=.int ((11+c%5:Nat):Int)) (aM (x:=.fr (.int 11)) rfl (aM hc (y:=.fr (.int 5)) rfl (dm (by decide))) rfl),11+c%5,by omega,by omega,rfl⟩
 have e5:Mx 3 (fH aJ) (Af s many sort) = .ok (.nx (Dt s many sort [] .no .no .no .no)):=rfl;obtain⟨hs,y4,y5,y6,y7,l,g,f⟩:=Cy (s:=s) (many:=many) (sort:=sort) hS many 0 [] .no .no .no .no rfl (by omega) (fun x hx=>by cases hx) rfl
 have e6:qR (iU (aA (aB 1) aJ)) (bN 4) Fp (Dt s many sort [] .no .no .no .no) = .ok (.nx (Dt s many sort hs y4 y5 y6 y7)):=by
  have z:iU (aA (aB 1) aJ) (Dt s many sort [] .no .no .no .no) = .ok (rG 0 many):=by
   unfold iU;rw[show aA (aB 1) aJ (Dt s many sort [] .no .no .no .no) = .ok [.fr (.int (many:Int))] from rfl,aa]
   dsimp only
   rw[if_pos ⟨by omega,by omega⟩,MP]
  unfold qR;rw[z,aa,Cu];exact f
 refine⟨hs,by omega,by omega,g,?_⟩;show fin (aX _ (aX _ (aX _ (aX _ (aX _ (aX (qR (iU (aA (aB 1) aJ)) (bN 4) Fp) (az (aB 3))))))) [.fr (.d8 s),.no,.no,.no,.no,.no,.no,.no])=_;rw[bV e1,bV e2,bV e3,bV e4,bV e5,bV e6];rfl
theorem Gi{c:FT}{e:FE}{cs:List Sl}{Q:D->Prop}:∀ {ds:List D},(∀ d∈ds,c (.fr d::cs) = .ok true)->(∀ d∈ds,∃ x,e (.fr d::cs) = .ok (.fr x)/\Q x)->∃ l,eY c e cs ds = .ok l/\l.length=ds.length/\∀ x∈l,Q x
 | [],_,_=>⟨[],rfl,rfl,fun _ h=>by cases h⟩
 | d::ds,h1,h2=>by
  obtain⟨x,hx,qx⟩:=h2 d Aa;obtain⟨l,hl,ll,ql⟩:=Gi (c:=c) (e:=e) (cs:=cs) (Q:=Q) (ds:=ds) (fun y hy=>h1 y (wy _ hy)) (fun y hy=>h2 y (wy _ hy));refine⟨x::l,?_,by rw[dJ,dJ,ll],fun y hy=>?_⟩
  ·rw[eY,h1 d Aa,aa,if_pos rfl,hx,aa];show (eY c e cs ds).bind _=_;rw[hl];rfl
  ·rcases jo.mp hy with rfl | z
   ·exact qx
   ·exact ql y z
noncomputable def bA:List En->Nat->List D
 | [],_=>[]
 | .room::es,r=>.tup [.str "room",.int (r:Int)]::bA es (r+1)
 | .door k::es,r=>.tup [.str "door",.int (k:Int)]::bA es r
theorem qg:∀(n r:Nat),bA (List.replicate n .room) r=(List.range' r n).map fun k:Nat=>D.tup [.str "room",.int (k:Int)]
 | 0,_=>rfl
 | n+1,r=>by
  rw[List.replicate_succ,List.range'_succ,List.map_cons,bA,qg n (r+1)]
theorem sy:∀(a b:List En)(r:Nat),bA (a++b) r=bA a r++bA b (r+(a.filter fun e=>match e with | .room=>true | _=>false).length)
 | [],b,r=>rfl
 | .room::a,b,r=>by
  show _::bA (a++b) (r+1)=_::(bA a (r+1)++_);rw[sy a b (r+1)];congr 2;show bA b _=bA b (r+(En.room::a.filter _).length);rw[dJ];congr 1;omega
 | .door k::a,b,r=>by
  show _::bA (a++b) r=_::(bA a r++_);rw[sy a b r];rfl
theorem uq:∀(ks:List Nat)(r:Nat),bA (ks.map .door) r=ks.map fun k:Nat=>D.tup [.str "door",.int (k:Int)]
 | [],_=>rfl
 | k::ks,r=>by
  show _::bA (ks.map .door) r=_;rw[uq ks r];rfl
theorem Jv(n:Nat):((List.replicate n En.room).filter fun e=>match e with | .room=>true | _=>false).length=n:=by
 induction n with
 | zero=>rfl
 | succ n ih=>rw[List.replicate_succ,List.filter_cons,if_pos rfl,dJ,ih]
theorem xx{N:Nat}:∀(ks:List Nat)(r:Nat),(∀ k∈ks,k<N)->r<=N->fit N (ks.map .door) r
 | [],_,_,h=>h
 | k::ks,r,hk,h=>⟨hk k Aa,xx ks r (fun x hx=>hk x (wy _ hx)) h⟩
theorem tV{N:Nat}{b:List En}:∀(n r:Nat),r+n<=N->fit N b (r+n)->fit N (List.replicate n .room++b) r
 | 0,_,_,h=>h
 | n+1,r,hn,h=>by
  rw[List.replicate_succ];exact⟨by omega,tV n (r+1) (by omega) (by rw[show r+1+n=r+(n+1) by omega];exact h)⟩
theorem six{n d a:Nat}(h:a<=n):HT.gb n d (some (a:Int))=a:=by
 unfold HT.gb
 first
  | (simp;omega)
  | (dsimp only;split <;> omega)
theorem qBY{l:List D}{a:Nat}(h:a<=l.length):cutD l none (some (a:Int))=l.take a:=by
 unfold cutD;rw[six h];show (l.drop 0).take (a-0)=_;rw[List.drop_zero,Nat.sub_zero]
theorem W5{l:List D}{a:Nat}(h:a<=l.length):cutD l (some (a:Int)) none=l.drop a:=by
 unfold cutD;rw[six h];show (l.drop a).take (l.length-a)=_;rw[zl9 (by rw[List.length_drop];omega)]
theorem Bs{f:FE}{ρ:List Sl}{n:Nat}(h:f ρ = .ok (.fr (.int (n:Int))))(hn:n<=1000000):iU (aA f aJ) ρ = .ok ((List.range' 0 n).map fun k:Nat=>D.int (k:Int)):=by
 unfold iU;rw[aZ (ws:=[]) h rfl,aa];show (if -(2 ^ 62)<=(n:Int)/\(n:Int)<2 ^ 62 then Rz.ok (rG 0 ((n:Int)).toNat) else Rz.st)=_;rw[if_pos ⟨by omega,by omega⟩,MP,Cu]
noncomputable def cX(n:Nat):List D:=(List.range' 0 n).map fun k:Nat=>D.tup [.str "room",.int (k:Int)]
noncomputable def ie(ks:List Nat):List D:=ks.map fun k:Nat=>D.tup [.str "door",.int (k:Int)]
noncomputable def Ij:En->Bool
 | .room=>true
 | _=>false
theorem qBU(n:Nat)(ks:List Nat):bA (List.replicate n .room++ks.map .door) 0=cX n++ie ks:=by
 rw[sy,qg,uq];rfl
theorem qBT(n a:Nat)(ha:a<=n)(ks:List Nat):bA (List.replicate a .room++(.door 0::(List.replicate (n-a) .room++ks.map .door))) 0=(cX n).take a++[.tup [.str "door",.int 0]]++(cX n).drop a++ie ks:=by
 rw[sy,qg,bA,sy,qg,uq,Jv]
 have t:(cX n).take a=(List.range' 0 a).map fun k:Nat=>D.tup [.str "room",.int (k:Int)]:=by
  unfold cX;rw[<-List.map_take];congr 1;rw[show n=a+(n-a) by omega,<-List.range'_append_1 (s:=0) (m:=a) (n:=n-a),List.take_left' (by rw[List.length_range'])]
 have d:(cX n).drop a=(List.range' a (n-a)).map fun k:Nat=>D.tup [.str "room",.int (k:Int)]:=by
  unfold cX;rw[<-List.map_drop];congr 1
  conv=>lhs;rw[show n=a+(n-a) by omega]
  rw[<-List.range'_append_1 (s:=0) (m:=a) (n:=n-a),List.drop_left' (by rw[List.length_range']),Nat.zero_add]
 rw[t,d,Nat.zero_add,List.append_assoc,List.append_assoc];rfl
noncomputable def cnt(es:List En):Nat:=(es.filter Ij).length
theorem JK(a b:List En):cnt (a++b)=cnt a+cnt b:=by unfold cnt;rw[List.filter_append,rQ]
theorem yd(n:Nat):cnt (List.replicate n .room)=n:=by
 unfold cnt
 induction n with
 | zero=>rfl
 | succ n ih=>rw[List.replicate_succ,List.filter_cons,if_pos (show Ij .room=true from rfl),dJ,ih]
theorem Gj(ks:List Nat):cnt (ks.map .door)=0:=by
 unfold cnt
 induction ks with
 | nil=>rfl
 | cons k ks ih=>rw[List.map_cons,List.filter_cons,if_neg (show ¬ Ij (.door k)=true from pK),ih]
theorem Vu{l:List D}{N:Nat}(h:∀ x∈l,∃ k:Nat,k<N/\x = .tup [.str "door",.int (k:Int)]):∃ ks:List Nat,l=ie ks/\(∀ k∈ks,k<N)/\ks.length=l.length:=by
 induction l with
 | nil=>exact⟨[],rfl,fun _ h=>(by cases h),rfl⟩
 | cons x l ih=>
  obtain⟨k,hk,e⟩:=h x Aa;obtain⟨ks,e2,h2,h3⟩:=ih fun y hy=>h y (wy _ hy);refine⟨k::ks,by rw[e,e2];rfl,fun y hy=>?_,by rw[dJ,dJ,h3]⟩;rcases jo.mp hy with rfl | z
  ·exact hk
  ·exact h2 y z
theorem HN{a b:FS}{ρ:List Sl}{d:D}{r:Option (List Sl)}(h:a ρ = .ok (.ret d r)):aX a b ρ = .ok (.ret d r):=by
 unfold aX;rw[h];rfl
theorem Lb{s:List Int}{hs:List (Str×Nat)}(hS:s.length<=sizeLine)(h1:1<=hs.length)(h2:hs.length<=42) :
  ∃ es:List En,fit hs.length es 0/\es.length<=110/\cnt es=hs.length/\law_entries_F [.d8 s,.lst (hs.map hD)] = .ok (.lst (bA es 0)):=by
 have m1:=fun (salt:Nat) (hsl:salt<=1000) (ρ:List Sl) (h:aB 0 ρ = .ok (.fr (.d8 s)))=>Hw (s:=s) hS 1 salt (by decide) hsl h;have sz:∀ k:Nat,k<=1000->k<=sizeLine:=fun k hk=>Nat.le_trans hk (by rw[sizeLine_eq];decide);obtain⟨a,ha⟩:=m1 6 (by decide) [.fr (.d8 s),.fr (.lst (hs.map hD)),.no,.no,.no,.no] rfl
 have e1:aR 2 (aL cC (aO (c7 law_mixed_F) 3 (aA (aB 0) (aA (fC (.int 1)) (aA (fC (.int 6)) aJ)))) (fC (.int 4))) [.fr (.d8 s),.fr (.lst (hs.map hD)),.no,.no,.no,.no] = .ok (.nx [.fr (.d8 s),.fr (.lst (hs.map hD)),.fr (.int ((a%4:Nat):Int)),.no,.no,.no]):=
  iG (aM ha (y:=.fr (.int 4)) rfl (dm (by decide)))
 have qa:a%4<=62:=by omega
 generalize a%4=c0 at *;obtain⟨ρ2,e2,c,hc,rfl⟩:∃ ρ2,cz (aN (aL (bh false) (aL cC (aO (c7 law_mixed_F) 3 (aA (aB 0) (aA (fC (.int 1)) (aA (fC (.int 7)) aJ)))) (fC (.int 8))) (fC (.int 1))))
   (aR 2 (aL bM (fC (.int 58)) (aL cC (aO (c7 law_mixed_F) 3 (aA (aB 0) (aA (fC (.int 1)) (aA (fC (.int 8)) aJ)))) (fC (.int 5))))) bO [.fr (.d8 s),.fr (.lst (hs.map hD)),.fr (.int (c0:Int)),.no,.no,.no] = .ok (.nx ρ2)/\∃ c:Nat,c<=62/\ρ2=[.fr (.d8 s),.fr (.lst (hs.map hD)),.fr (.int (c:Int)),.no,.no,.no]:=by
  obtain⟨b,hb⟩:=m1 7 (by decide) [.fr (.d8 s),.fr (.lst (hs.map hD)),.fr (.int (c0:Int)),.no,.no,.no] rfl;obtain⟨g,hg⟩:=m1 8 (by decide) [.fr (.d8 s),.fr (.lst (hs.map hD)),.fr (.int (c0:Int)),.no,.no,.no] rfl;exact sI (rz (aM hb (y:=.fr (.int 8)) rfl (dm (by decide))) rfl) ⟨_,iG (d:=.int ((58+g%5:Nat):Int)) (aM (x:=.fr (.int 58)) rfl (aM hg (y:=.fr (.int 5)) rfl (dm (by decide))) rfl),58+g%5,by omega,rfl⟩ ⟨_,rfl,c0,qa,rfl⟩
 have len:∀ ρ,aB 1 ρ = .ok (.fr (.lst (hs.map hD)))->cW bD (aA (aB 1) aJ) ρ = .ok (.fr (.int (hs.length:Int))):=fun ρ h=>by
  have z:=nG h;rw[jH]at z;exact z
 have e3:aR 3 (eX (iU (aA (cW bD (aA (aB 1) aJ)) aJ)) [] lU (cV (aA (fC (.str "room")) (aA (aB 0) aJ)))) [.fr (.d8 s),.fr (.lst (hs.map hD)),.fr (.int (c:Int)),.no,.no,.no] = .ok (.nx [.fr (.d8 s),.fr (.lst (hs.map hD)),.fr (.int (c:Int)),.fr (.lst (cX hs.length)),.no,.no]):=by
  have z:eY lU (cV (aA (fC (.str "room")) (aA (aB 0) aJ))) [] ((List.range' 0 hs.length).map fun k:Nat=>D.int (k:Int)) = .ok (cX hs.length):=by
   rw[tZ (h:=fun x=>.tup [.str "room",x]) (fun _ _=>rfl) (fun x _=>qd (ws:=[.fr (.str "room"),.fr x]) rfl rfl (sz 2 (by decide))),List.map_map];rfl
  unfold aR eX;rw[Bs (len _ rfl) (by omega),aa,if_pos (by rw[jH,List.length_range'];exact sz _ (by omega))];show (((eY lU (cV (aA (fC (.str "room")) (aA (aB 0) aJ))) [] ((List.range' 0 hs.length).map fun k:Nat=>D.int (k:Int))).bind _).bind _)=_;rw[z];rfl
 obtain⟨ks,hk,hkl,e4⟩:∃ ks:List Nat,(∀ k∈ks,k<hs.length)/\ks.length=c/\aR 4 (eX (iU (aA (aB 2) aJ)) [(0,"_law_script"),(1,"_law_halls_here")] lU (cV (aA (fC (.str "door")) (aA (aL cC (aO (c7 law_mixed_F) 3 (aA (aB 1) (aA (aB 0) (aA (fC (.int 9)) aJ)))) (cW bD (aA (aB 2) aJ))) aJ)))) [.fr (.d8 s),.fr (.lst (hs.map hD)),.fr (.int (c:Int)),.fr (.lst (cX hs.length)),.no,.no] = .ok (.nx [.fr (.d8 s),.fr (.lst (hs.map hD)),.fr (.int (c:Int)),.fr (.lst (cX hs.length)),.fr (.lst (ie ks)),.no]):=by
  obtain⟨l,hl,ll,ql⟩:=Gi (c:=lU) (e:=cV (aA (fC (.str "door")) (aA (aL cC (aO (c7 law_mixed_F) 3 (aA (aB 1) (aA (aB 0) (aA (fC (.int 9)) aJ)))) (cW bD (aA (aB 2) aJ))) aJ))) (cs:=[.fr (.d8 s),.fr (.lst (hs.map hD))]) (Q:=fun x => ∃ k:Nat,k<hs.length/\x = .tup [.str "door",.int (k:Int)]) (ds:=(List.range' 0 c).map fun k:Nat=>D.int (k:Int)) (fun _ _=>rfl) (fun x hx=>by
   obtain⟨j,hj,rfl⟩:=Qo.mp hx;have hj':=(List.mem_range'_1.mp hj).2;obtain⟨m,_,hm⟩:=Cd hS j 9 (by omega) (by decide);have cm:aO (c7 law_mixed_F) 3 (aA (aB 1) (aA (aB 0) (aA (fC (.int 9)) aJ))) [.fr (.int (j:Int)),.fr (.d8 s),.fr (.lst (hs.map hD))] = .ok (.fr (.int (m:Int))):=bF (ws:=[.fr (.d8 s),.fr (.int (j:Int)),.fr (.int ((9:Nat):Int))]) rfl rfl (dG hm) (.inl rfl);have lz:=nG (f:=aB 2) (ρ:=[.fr (.int (j:Int)),.fr (.d8 s),.fr (.lst (hs.map hD))]) (l:=hs.map hD) rfl;rw[jH]at lz
   refine⟨.tup [.str "door",.int ((m%hs.length:Nat):Int)],qd (ws:=[.fr (.str "door"),.fr (.int ((m%hs.length:Nat):Int))]) (aZ (w:=.fr (.str "door")) rfl (aZ (aM cm lz (dm (by omega))) rfl)) rfl (sz 2 (by decide)),m%hs.length,Nat.mod_lt _ (by omega),rfl⟩)
  obtain⟨ks,rfl,hk,hkl⟩:=Vu ql;refine⟨ks,hk,by rw[hkl,ll,jH,List.length_range'],?_⟩;unfold aR eX;rw[Bs (n:=c) rfl (by omega),aa,if_pos (by rw[jH,List.length_range'];exact sz _ (by omega))];show (((eY lU (cV (aA (fC (.str "door")) (aA (aL cC (aO (c7 law_mixed_F) 3 (aA (aB 1) (aA (aB 0) (aA (fC (.int 9)) aJ)))) (cW bD (aA (aB 2) aJ))) aJ))) [.fr (.d8 s),.fr (.lst (hs.map hD))] ((List.range' 0 c).map fun k:Nat=>D.int (k:Int))).bind _).bind _)=_;rw[hl];rfl
 have rl:(cX hs.length).length=hs.length:=by unfold cX;rw[jH,List.length_range']
 have dl:(ie ks).length=c:=by unfold ie;rw[jH,hkl]
 generalize hρ:([.fr (.d8 s),.fr (.lst (hs.map hD)),.fr (.int (c:Int)),.fr (.lst (cX hs.length)),.fr (.lst (ie ks)),.no]:List Sl)=ρ;obtain⟨b,hb⟩:=m1 10 (by decide) ρ (by rw[<-hρ];rfl);have t:aN (aL (bh false) (aL cC (aO (c7 law_mixed_F) 3 (aA (aB 0) (aA (fC (.int 1)) (aA (fC (.int 10)) aJ)))) (fC (.int 8))) (fC (.int 2))) ρ = .ok (((b:Int)%8==2) != false):=bJ (aM (aM hb (y:=.fr (.int 8)) rfl (dm (by decide))) (y:=.fr (.int 2)) rfl rfl)
 have start:∀ x,fin (aX (cz (aN (aL (bh false) (aL cC (aO (c7 law_mixed_F) 3 (aA (aB 0) (aA (fC (.int 1)) (aA (fC (.int 10)) aJ)))) (fC (.int 8))) (fC (.int 2))))
   (aX (aR 5 (aL cC (aO (c7 law_mixed_F) 3 (aA (aB 0) (aA (fC (.int 1)) (aA (fC (.int 11)) aJ)))) (aL bM (cW bD (aA (aB 1) aJ)) (fC (.int 1)))))
   (az (aL bM (aL bM (aL bM (J7 (aB 3) J8 (jd (aB 5))) (fH (aA (cV (aA (fC (.str "door")) (aA (fC (.int 0)) aJ))) aJ))) (J7 (aB 3) (jd (aB 5)) J8)) (aB 4))))
   bO) (az (aL bM (aB 3) (aB 4))) ρ)=x->law_entries_F [.d8 s,.lst (hs.map hD)]=x:=fun x h=>by
  show fin (p8 [.fr (.d8 s),.fr (.lst (hs.map hD)),.no,.no,.no,.no])=_;unfold p8;rw[bV e1,bV e2,bV e3,bV e4,hρ];exact h
 have v3:∀ x,aB 3 ([.fr (.d8 s),.fr (.lst (hs.map hD)),.fr (.int (c:Int)),.fr (.lst (cX hs.length)),.fr (.lst (ie ks)),x]:List Sl) = .ok (.fr (.lst (cX hs.length))):=fun _=>rfl
 cases c1:(((b:Int)%8==2) != false) with
 | false=>
  rw[c1]at t;refine⟨List.replicate hs.length .room++ks.map .door,tV _ _ (by omega) (xx ks _ hk (by omega)),by rw[rQ,List.length_replicate,jH];omega,by rw[JK,yd,Gj,Nat.add_zero],start _ ?_⟩;rw[bV (ρ':=ρ) (by unfold cz;rw[t];rfl),qBU];unfold az;rw[<-hρ,aM (v3 _) (y:=.fr (.lst (ie ks))) rfl (show bM _ _ = .ok (.ow (cX hs.length++ie ks)) from if_pos (by rw[rl,dl];exact sz _ (by omega)))];rfl
 | true=>
  rw[c1]at t;obtain⟨g,hg⟩:=m1 11 (by decide) ρ (by rw[<-hρ];rfl)
  have at1:(g%(hs.length+1))<=hs.length:=by have:=Nat.mod_lt g (show 0<hs.length+1 by omega);omega
  have e5:aR 5 (aL cC (aO (c7 law_mixed_F) 3 (aA (aB 0) (aA (fC (.int 1)) (aA (fC (.int 11)) aJ)))) (aL bM (cW bD (aA (aB 1) aJ)) (fC (.int 1)))) ρ = .ok (.nx (ρ.set 5 (.fr (.int ((g%(hs.length+1):Nat):Int))))):=
   iG (aM hg (aM (len ρ (by rw[<-hρ];rfl)) (y:=.fr (.int 1)) rfl (show bM _ _ = .ok (.fr (.int ((hs.length:Int)+1))) from rfl)) (dm (by show (0:Int)<(hs.length:Int)+1;omega)))
  generalize g%(hs.length+1)=p at *;refine⟨List.replicate p .room++(.door 0::(List.replicate (hs.length-p) .room++ks.map .door)),tV p 0 (by omega) (show fit hs.length (.door 0::(List.replicate (hs.length-p) .room++ks.map .door)) (0+p) from ⟨by omega,tV (hs.length-p) (0+p) (by omega) (xx ks _ hk (by omega))⟩),by rw[rQ,List.length_replicate,dJ,rQ,List.length_replicate,jH];omega,?_,start _ ?_⟩
  ·rw[JK,yd];show p+cnt (List.replicate (hs.length-p) .room++ks.map .door)=_;rw[JK,yd,Gj];omega
  ·rw[qBT _ _ at1];rw[HN (d:=.lst ((cX hs.length).take p++[.tup [.str "door",.int 0]]++(cX hs.length).drop p++ie ks)) (r:=some (ρ.set 5 (.fr (.int (p:Int))))) ?_]
   ·rfl
   unfold cz;rw[t,aa,if_pos rfl,bV e5,<-hρ];show az _ [.fr (.d8 s),.fr (.lst (hs.map hD)),.fr (.int (c:Int)),.fr (.lst (cX hs.length)),.fr (.lst (ie ks)),.fr (.int (p:Int))] = .ok (.ret _ (some [.fr (.d8 s),.fr (.lst (hs.map hD)),.fr (.int (c:Int)),.fr (.lst (cX hs.length)),.fr (.lst (ie ks)),.fr (.int (p:Int))]));generalize hρ2:([.fr (.d8 s),.fr (.lst (hs.map hD)),.fr (.int (c:Int)),.fr (.lst (cX hs.length)),.fr (.lst (ie ks)),.fr (.int (p:Int))]:List Sl)=ρ2
   have s1:J7 (aB 3) J8 (jd (aB 5)) ρ2 = .ok (.ow ((cX hs.length).take p)):=by
    rw[<-hρ2];show Rz.ok (W.ow (cutD (cX hs.length) none (some (p:Int))))=_;rw[qBY (by rw[rl];exact at1)]
   have s2:J7 (aB 3) (jd (aB 5)) J8 ρ2 = .ok (.ow ((cX hs.length).drop p)):=by
    rw[<-hρ2];show Rz.ok (W.ow (cutD (cX hs.length) (some (p:Int)) none))=_;rw[W5 (by rw[rl];exact at1)]
   have s3:fH (aA (cV (aA (fC (.str "door")) (aA (fC (.int 0)) aJ))) aJ) ρ2 = .ok (.ow [.tup [.str "door",.int 0]]):=rfl
   have v4:aB 4 ρ2 = .ok (.fr (.lst (ie ks))):=by rw[<-hρ2];rfl
   have lt:((cX hs.length).take p).length<=42:=by rw[Qp,rl];omega
   have ld:((cX hs.length).drop p).length<=42:=by rw[List.length_drop,rl];omega
   unfold az;rw[aM (aM (aM s1 s3 (show bM _ _ = .ok (.ow ((cX hs.length).take p++[.tup [.str "door",.int 0]])) from if_pos (by show _+1<=_;exact sz _ (by omega)))) s2 (show bM _ _ = .ok (.ow ((cX hs.length).take p++[.tup [.str "door",.int 0]]++(cX hs.length).drop p)) from if_pos (by rw[rQ];show _+1+_<=_;exact sz _ (by omega)))) v4 (show bM _ _ = .ok (.ow ((cX hs.length).take p++[.tup [.str "door",.int 0]]++(cX hs.length).drop p++ie ks)) from if_pos (by rw[rQ,rQ,dl];show _+1+_+_<=_;exact sz _ (by omega)))];rfl
noncomputable def stem:Nat->Str
 | 0 => ""
 | 1 => "in"
 | 2 => "plain"
 | _ => "keepskeeps"
noncomputable def rep(n:Nat):Nat:=n%4+4*((n/4)%((stem (n%4)).length+1))
noncomputable def nameE:FE:=(aL bM (aL bM (aL bM (J7 (aB 2) J8 (jd (aB 3))) (aL aj (fC (.str "abcdefghijklmnopqrstuvwxyz")) (aL cC (aB 0) (fC (.int 26))))) (aL aj (fC (.str "mn")) (aL jn (aB 0) (fC (.int 26))))) (J7 (aB 2) (jd (aB 3)) J8))
theorem qAN{f:FE}{ρ ρ':List Sl}(h:f ρ=f ρ'):fin (az f ρ)=fin (az f ρ'):=by
 unfold az;rw[h]
 cases f ρ' with
 | ex=>rfl
 | st=>rfl
 | ok w=>cases w <;> rfl
theorem Pj(j:Nat):(stem j).length<=10:=by
 unfold stem
 split <;> decide +kernel
theorem QF(k:Int)(n:Nat):law_name_F [.int k,.int n]=fin (az nameE [.fr (.int k),.no,.fr (.str (stem (n%4))),.fr (.int (((n/4)%((stem (n%4)).length+1):Nat):Int))]):=by
 have e1:aR 2 (aL aj (fH (aA (fC (.str "")) (aA (fC (.str "in")) (aA (fC (.str "plain")) (aA (fC (.str "keepskeeps")) aJ))))) (aL cC (aB 1) (fC (.int 4)))) [.fr (.int k),.fr (.int (n:Int)),.no,.no] = .ok (.nx [.fr (.int k),.fr (.int (n:Int)),.fr (.str (stem (n%4))),.no]):=by
  have m:aL cC (aB 1) (fC (.int 4)) [.fr (.int k),.fr (.int (n:Int)),.no,.no] = .ok (.fr (.int ((n:Int)%4))):=aM (x:=.fr (.int (n:Int))) (y:=.fr (.int 4)) rfl rfl (dm (by decide));have l:fH (aA (fC (.str "")) (aA (fC (.str "in")) (aA (fC (.str "plain")) (aA (fC (.str "keepskeeps")) aJ)))) [.fr (.int k),.fr (.int (n:Int)),.no,.no] = .ok (.ow [.str "",.str "in",.str "plain",.str "keepskeeps"]):=rfl;refine iG (d:=.str (stem (n%4))) (aM l m ?_);rcases (show n%4=0∨n%4=1∨n%4=2∨n%4=3 by omega) with e | e | e | e
  ·rw[show (n:Int)%4=0 by omega,e];rfl
  ·rw[show (n:Int)%4=1 by omega,e];rfl
  ·rw[show (n:Int)%4=2 by omega,e];rfl
  ·rw[show (n:Int)%4=3 by omega,e];rfl
 have sl:=Pj (n%4)
 have e2:aR 3 (aL cC (aL jn (aB 1) (fC (.int 4))) (aL bM (cW bD (aA (aB 2) aJ)) (fC (.int 1)))) [.fr (.int k),.fr (.int (n:Int)),.fr (.str (stem (n%4))),.no] = .ok (.nx [.fr (.int k),.fr (.int (n:Int)),.fr (.str (stem (n%4))),.fr (.int (((n/4)%((stem (n%4)).length+1):Nat):Int))]):=by
  have lz:cW bD (aA (aB 2) aJ) [.fr (.int k),.fr (.int (n:Int)),.fr (.str (stem (n%4))),.no] = .ok (.fr (.int ((stem (n%4)).length:Int))):=by
   show (if (stem (n%4)).length<=sizeLine then Rz.ok (W.fr (.int ((stem (n%4)).length:Int))) else .st)=_;rw[if_pos (by rw[sizeLine_eq];omega)]
  exact iG (aM (aM (x:=.fr (.int (n:Int))) (y:=.fr (.int 4)) rfl rfl (Oj (by decide))) (aM lz (y:=.fr (.int 1)) rfl (show bM _ _ = .ok (.fr (.int (((stem (n%4)).length:Int)+1))) from rfl)) (dm (by show (0:Int)<((stem (n%4)).length:Int)+1;omega)))
 show fin (aX _ (aX _ (az nameE)) [.fr (.int k),.fr (.int (n:Int)),.no,.no])=_;rw[bV e1,bV e2];exact qAN rfl
theorem Ua(n:Nat):rep n%4=n%4/\(rep n/4)%((stem (rep n%4)).length+1)=(n/4)%((stem (n%4)).length+1)/\rep n<48:=by
 have e:rep n%4=n%4:=by unfold rep;omega
 have sl:=Pj (n%4)
 have d:rep n/4=(n/4)%((stem (n%4)).length+1):=by unfold rep;omega
 refine⟨e,by rw[e,d,Nat.mod_mod],?_⟩;have z:=Nat.mod_lt (n/4) (show 0<(stem (n%4)).length+1 by omega);unfold rep;omega
theorem V0(k:Int)(n:Nat):law_name_F [.int k,.int n]=law_name_F [.int k,.int (rep n)]:=by
 obtain⟨e1,e2,_⟩:=Ua n;rw[QF k n,QF k (rep n),e2,e1]
noncomputable def ou(m k:Nat):Str:=match law_name_F [.int (k:Int),.int (m:Int)] with
 | .ok (.str z)=>z
 | _ => ""
noncomputable def Yt(m k:Nat):Bool:=match law_name_F [.int (k:Int),.int (m:Int)] with
 | .ok (.str z)=>(match dN [.str z] with | .ok (.bl b)=>b | _=>false)&&(z.cps.toList.all (fun c=>c != 32&&c != 10)&&(z.length==0)==false)
 | _=>false
noncomputable def chk:Bool:=(List.range 48).all fun m=>rep m != m||((List.range 51).all (Yt m)&&decide ((List.range 51).map (ou m)).Nodup)
noncomputable def dY(hs:List (Str×Nat))(nm:Nat->Str):Hl:=⟨nm,fun i=>(hs.getD i ("",0)).1,fun i=>(hs.getD i ("",0)).2⟩
theorem Ih{l:List D}{k:Nat}(h:k<l.length):aj (.lst l) (.int (k:Int)) = .ok (.fr l[k]):=by
 have z:yj l (k:Int)=some l[k]:=by
  unfold yj Wn;rw[if_pos (by omega),if_pos (by omega)];show l[((k:Int)).toNat]? = _;rw[MP,Az h]
 show Rf (yj l (k:Int))=_;rw[z];rfl
theorem tU{hs:List (Str×Nat)}{k:Nat}(h:k<hs.length):aj (.lst (hs.map hD)) (.int (k:Int)) = .ok (.fr (hD (hs.getD k ("",0)))):=by
 rw[Ih (by rw[jH];exact h),List.getElem_map,rN,Az h];rfl
theorem YS{hs:List (Str×Nat)}{nm:Nat->Str}{k:Nat}(hk:k<hs.length):law_fits_F [.lst (hs.map hD),.int (k:Int)] = .ok (.bl ((dY hs nm).fits k)):=by
 generalize hx:hs.getD k ("",0)=x
 have dk:(dY hs nm).dp k=x.2:=by show (hs.getD k ("",0)).2=_;rw[hx]
 have e1:aR 2 (aL aj (aL aj (aB 0) (aB 1)) (fC (.int 1))) [.fr (.lst (hs.map hD)),.fr (.int (k:Int)),.no] = .ok (.nx [.fr (.lst (hs.map hD)),.fr (.int (k:Int)),.fr (.int (x.2:Int))]):=
  iG (aM (x:=.fr (hD x)) (aM (x:=.fr (.lst (hs.map hD))) (y:=.fr (.int (k:Int))) rfl rfl (by rw[<-hx];exact tU hk)) (y:=.fr (.int 1)) rfl rfl)
 generalize hρ:([.fr (.lst (hs.map hD)),.fr (.int (k:Int)),.fr (.int (x.2:Int))]:List Sl)=ρ at e1
 have v0:aB 0 ρ = .ok (.fr (.lst (hs.map hD))):=by rw[<-hρ];rfl
 have v1:aB 1 ρ = .ok (.fr (.int (k:Int))):=by rw[<-hρ];rfl
 have v2:aB 2 ρ = .ok (.fr (.int (x.2:Int))):=by rw[<-hρ];rfl
 have c:∀ d:D,fC d ρ = .ok (.fr d):=fun _=>rfl
 have t1:lq (aN (aL pY (aB 2) (fC (.int 12)))) (aN (aL (bh false) (aB 1) (fC (.int 40)))) ρ = .ok (decide (12<x.2∨k=40)):=by
  have a:aN (aL pY (aB 2) (fC (.int 12))) ρ = .ok (decide ((12:Int)<(x.2:Int))):=bJ (aM v2 (c _) rfl);have b:aN (aL (bh false) (aB 1) (fC (.int 40))) ρ = .ok (((k:Int)==40) != false):=bJ (aM v1 (c _) rfl);unfold lq;rw[a,b,aa]
  by_cases h1:12<x.2
  ·rw[decide_eq_true (show (12:Int)<(x.2:Int) by omega),if_pos rfl,decide_eq_true (.inl h1)]
  ·rw[decide_eq_false (show ¬ (12:Int)<(x.2:Int) by omega),if_neg pK]
   by_cases h2:k=40
   ·rw[decide_eq_true (.inr h2),h2];rfl
   ·rw[decide_eq_false (show ¬ (12<x.2∨k=40) by omega),beq_eq_false_iff_ne.mpr (by omega)];rfl
 have t2:aN (aL (bh false) (aB 1) (fC (.int 0))) ρ = .ok (decide (k=0)):=by
  rw[bJ (aM v1 (c _) (show bh false _ _ = .ok (.fr (.bl (((k:Int)==0) != false))) from rfl))]
  by_cases h2:k=0
  ·rw[decide_eq_true h2,h2];rfl
  ·rw[decide_eq_false h2,beq_eq_false_iff_ne.mpr (by omega)];rfl
 show fin (uf [.fr (.lst (hs.map hD)),.fr (.int (k:Int)),.no])=_;unfold uf Hl.fits;rw[bV e1,dk]
 by_cases q1:12<x.2∨k=40
 ·rw[decide_eq_true q1]at t1;rw[if_pos q1,HN (d:=.bl false) (r:=some ρ) (by unfold cz;rw[t1];rfl)];rfl
 ·rw[decide_eq_false q1]at t1;rw[if_neg q1,bV (ρ':=ρ) (by unfold cz;rw[t1];rfl)]
  by_cases q2:k=0
  ·rw[decide_eq_true q2]at t2
   rw[if_pos q2,HN (d:=.bl (x.2==0)) (r:=some ρ) (by
    unfold cz az;rw[t2,aa,if_pos rfl,aM v2 (c _) (show bh false _ _ = .ok (.fr (.bl (((x.2:Int)==0) != false))) from rfl)];show Rz.ok (Fl.ret (.bl (((x.2:Int)==0) != false)) (some ρ))=_;congr 3;unfold bne;rw[Bool.eq_iff_iff]
    simp)]
   rfl
  ·rw[decide_eq_false q2]at t2;rw[if_neg q2,bV (ρ':=ρ) (by unfold cz;rw[t2];rfl)];generalize hy:hs.getD (k-1) ("",0)=y
   have dp1:(dY hs nm).dp (k-1)=y.2:=by show (hs.getD (k-1) ("",0)).2=_;rw[hy]
   have kd1:(dY hs nm).kd (k-1)=y.1:=by show (hs.getD (k-1) ("",0)).1=_;rw[hy]
   rw[dp1,kd1];have pv:aL aj (aB 0) (aL lN (aB 1) (fC (.int 1))) ρ = .ok (.fr (hD y)):=aM v0 (y:=.fr (.int (((k-1:Nat)):Int))) (aM v1 (c _) (by show Rz.ok (W.fr (.int ((k:Int)-1)))=_;rw[show (k:Int)-1=((k-1:Nat):Int) by omega])) (by rw[<-hy];exact tU (by omega));have pk:aL aj (aL aj (aB 0) (aL lN (aB 1) (fC (.int 1)))) (fC (.int 0)) ρ = .ok (.fr (.str y.1)):=aM pv (c _) rfl;have pd:aL aj (aL aj (aB 0) (aL lN (aB 1) (fC (.int 1)))) (fC (.int 1)) ρ = .ok (.fr (.int (y.2:Int))):=aM pv (c _) rfl;have t3:aN (aL (bh false) (aL aj (aL aj (aB 0) (aL lN (aB 1) (fC (.int 1)))) (fC (.int 0))) (fC (.str "plain"))) ρ = .ok ((y.1 == "plain") != false):=bJ (aM pk (c _) rfl)
   cases c3:y.1 == "plain" with
   | true=>
    rw[c3]at t3;rw[if_pos rfl]
    have ch:qD zq zq (fC (.int 1)) (aB 2) (aL aj (aL aj (aB 0) (aL lN (aB 1) (fC (.int 1)))) (fC (.int 1))) ρ = .ok (.fr (.bl (decide (1<=x.2/\x.2<=y.2)))):=by
     unfold qD;rw[c,aa,v2,aa,pd];show (if decide ((1:Int)<=(x.2:Int))=true then Rz.ok (W.fr (.bl (decide ((x.2:Int)<=(y.2:Int))))) else .ok (.fr (.bl false)))=_
     by_cases h1:1<=x.2
     ·rw[if_pos (decide_eq_true (by omega)),show decide ((x.2:Int)<=(y.2:Int))=decide (1<=x.2/\x.2<=y.2) from decide_eq_decide.mpr (by omega)]
     ·rw[if_neg (by rw[decide_eq_false (by omega)];decide),decide_eq_false (show ¬ (1<=x.2/\x.2<=y.2) by omega)]
    rw[HN (d:=.bl (decide (1<=x.2/\x.2<=y.2))) (r:=some ρ) (by unfold cz az;rw[t3,aa,if_pos (show (true != false)=true from rfl),ch];rfl)];rfl
   | false=>
    rw[c3]at t3;rw[if_neg pK,bV (ρ':=ρ) (by unfold cz;rw[t3];rfl)];unfold az;rw[aM v2 (aM pd (c _) (show bM _ _ = .ok (.fr (.int ((y.2:Int)+1))) from rfl)) (show bh false _ _ = .ok (.fr (.bl (((x.2:Int)==(y.2:Int)+1) != false))) from rfl)];show Rz.ok (D.bl (((x.2:Int)==(y.2:Int)+1) != false))=_;congr 2;unfold bne;rw[Bool.eq_iff_iff];simp;omega
theorem app_list(a b:Str):(a++b).cps.toList=a.cps.toList++b.cps.toList:=Array.toList_append ..
theorem Ks(a:Array Nat):∀(n:Nat)(b:Array Nat),((List.replicate n a).foldl (· ++ ·) b).toList=b.toList++(List.replicate n a.toList).flatten
 | 0,b=>by simp
 | n+1,b=>by
  rw[List.replicate_succ,List.foldl_cons,Ks a n (b++a),List.replicate_succ,List.flatten_cons,Array.toList_append,List.append_assoc]
theorem Z9:("  " : Str).cps.toList=[32,32]:=by decide +kernel
theorem Ku:∀ n:Nat,(List.replicate n [32,32]).flatten=List.replicate (2*n) 32
 | 0=>rfl
 | n+1=>by
  rw[List.replicate_succ,List.flatten_cons,Ku n,show 2*(n+1)=2*n+1+1 by omega,List.replicate_succ,List.replicate_succ];rfl
theorem mul_list(d:Nat):(Txt.mul "  " (d:Int)).cps.toList=List.replicate (2*d) 32:=by
 unfold Txt.mul
 by_cases h0:d=0
 ·subst h0;rfl
 ·rw[if_neg (by omega)]
  by_cases h1:d=1
  ·subst h1;rw[if_pos (show (((1:Nat):Int)==1||(("  " : Str)).length==0)=true from rfl),Z9];rfl
  ·rw[if_neg (by
    have:((d:Int)==1)=false:=beq_eq_false_iff_ne.mpr (by omega);rw[this]
    decide +kernel)]
   show ((List.replicate ((d:Int)).toNat ("  " : Str).cps).foldl (· ++ ·) #[]).toList=_;rw[MP,Ks,Z9,Ku];rfl
noncomputable def Ef(kd nm:Str)(d:Nat):Str:=Txt.mul "  " (d:Int)++kd ++ " " ++ nm
noncomputable def uL(nm:Str):Str := "door " ++ nm ++ " knock stay"
theorem len_list(x:Str):x.length=x.cps.toList.length:=(Array.length_toList ..).symm
theorem qAM{kd nm:Str}{d:Nat}(hk:iZ kd)(h0:nm ≠ "")(h1:32∉nm.cps.toList)(hl:nm.length<=1000)(hd:d<=1000):lJ (Ef kd nm d) kd nm d:=by
 have e:(Ef kd nm d).cps.toList=List.replicate (2*d) 32++(kd.cps.toList++32::nm.cps.toList):=by
  unfold Ef;rw[app_list,app_list,app_list,mul_list,Gv.Pk,List.append_assoc,List.append_assoc];rfl
 refine⟨e,?_,?_,h0,h1,?_⟩
 ·rcases hk with rfl | rfl | rfl
  ·exact⟨112,[108,97,105,110],by decide +kernel,by decide⟩
  ·exact⟨111,[110,101],by decide +kernel,by decide⟩
  ·exact⟨97,[108,108],by decide +kernel,by decide⟩
 ·rcases hk with rfl | rfl | rfl <;> decide +kernel
 ·have k5:kd.cps.toList.length<=5:=by rcases hk with rfl | rfl | rfl <;> decide +kernel
  rw[len_list,e,rQ,List.length_replicate,rQ,dJ,sizeLine_eq];rw[len_list]at hl;omega
theorem Yl{nm:Str}(h0:nm ≠ "")(h1:32∉nm.cps.toList)(hl:nm.length<=1000):nj (uL nm) nm:=by
 have e:(uL nm).cps.toList=("door" : Str).cps.toList++32::(nm.cps.toList++32::(("knock" : Str).cps.toList++32::("stay" : Str).cps.toList)):=by
  unfold uL;rw[app_list,app_list,show ("door " : Str).cps.toList=("door" : Str).cps.toList++[32] by decide +kernel,show (" knock stay" : Str).cps.toList=32::(("knock" : Str).cps.toList++32::("stay" : Str).cps.toList) by decide +kernel];simp
 refine⟨e,h0,h1,?_⟩;rw[len_list,e,JB,QQ,U4,sizeLine_eq];simp only[List.length_append,List.length_cons,List.length_nil];rw[len_list]at hl;omega
structure Wb(z:Str):Prop where
 word:qy z
 sp:32∉z.cps.toList
 nl:10∉z.cps.toList
 ne:z ≠ ""
theorem Ys{m k:Nat}(h:Yt m k=true):law_name_F [.int (k:Int),.int (m:Int)] = .ok (.str (ou m k))/\Wb (ou m k):=by
 unfold Yt at h
 split at h
 ·rename_i z e
  have hz:ou m k=z:=by unfold ou;rw[e]
  rw[hz];obtain⟨h1,h2⟩:=Bool.and_eq_true_iff.mp h;obtain⟨h3,h4⟩:=Bool.and_eq_true_iff.mp h2;refine⟨e,?_,fun q=>?_,fun q=>?_,fun q=>?_⟩
  ·unfold qy
   split at h1
   ·rename_i b eb
    rw[eb,h1]
   ·cases h1
  ·have:=List.all_eq_true.mp h3 32 q;revert this;decide
  ·have:=List.all_eq_true.mp h3 10 q;revert this;decide
  ·rw[q]at h4;revert h4;decide +kernel
 ·cases h
theorem sE(hc:chk=true)(n:Nat):(∀ k:Nat,k<51->law_name_F [.int (k:Int),.int (n:Int)] = .ok (.str (ou (rep n) k))/\Wb (ou (rep n) k))/\∀ i j,i<=50->j<=50->ou (rep n) i=ou (rep n) j->i=j:=by
 obtain⟨r1,r2,r3⟩:=Ua n
 have rr:rep (rep n)=rep n:=by
  have e:rep (rep n)=rep n%4+4*((rep n/4)%((stem (rep n%4)).length+1)):=rfl;rw[e,r2,r1];rfl
 have h:=List.all_eq_true.mp hc (rep n) (List.mem_range.mpr r3);rw[rr,show (rep n != rep n)=false by simp,Bool.false_or]at h;obtain⟨h1,h2⟩:=Bool.and_eq_true_iff.mp h;refine⟨fun k hk=>?_,fun i j hi hj e=>?_⟩
 ·rw[V0];exact Ys (List.all_eq_true.mp h1 k (List.mem_range.mpr hk))
 ·have nd:=of_decide_eq_true h2
  have li:((List.range 51).map (ou (rep n))).length=51:=by rw[jH,List.length_range]
  rcases Nat.lt_trichotomy i j with z | z | z
  ·exact absurd (by rw[List.getElem_map,List.getElem_map,List.getElem_range,List.getElem_range];exact e) ((List.pairwise_iff_getElem.mp nd) i j (by rw[li];omega) (by rw[li];omega) z)
  ·exact z
  ·exact absurd (by rw[List.getElem_map,List.getElem_map,List.getElem_range,List.getElem_range];exact e.symm) ((List.pairwise_iff_getElem.mp nd) j i (by rw[li];omega) (by rw[li];omega) z)
noncomputable def Hb:FS:=(cz (aN (aL (bh false) (aB 6) (fC (.str "room"))))
   (HY 5 (aL bM (aL bM (aL bM (aL nF (fC (.str "  ")) (aL aj (aL aj (aB 1) (aB 7)) (fC (.int 1)))) (aL aj (aL aj (aB 1) (aB 7)) (fC (.int 0)))) (fC (.str " "))) (aL aj (aB 4) (aB 7))))
   (HY 5 (aL bM (aL bM (fC (.str "door ")) (aL aj (aB 4) (aB 7))) (fC (.str " knock stay")))))
noncomputable def base10(s:List Int)(hs:List (Str×Nat))(en:List D)(n:Int)(ns acc:List Str)(x6 x7:Sl):List Sl:=[.fr (.d8 s),.fr (.lst (hs.map hD)),.fr (.lst en),.fr (.int n),.fr (.lst (ns.map D.str)),.ow (acc.map D.str),x6,x7,.no,.no]
theorem add_str{a b:Str}(h:a.length+b.length<=sizeLine):bM (.str a) (.str b) = .ok (.fr (.str (a++b))):=if_pos h
theorem mR(a b:Str):(a++b).length=a.length+b.length:=by rw[len_list,app_list,rQ,<-len_list,<-len_list]
section
variable{s:List Int}{hs:List (Str×Nat)}{en:List D}{n:Int}{ns acc:List Str}{k:Nat}
theorem Qi{e:FE}{x:Str}{x6 x7:Sl}(he:e (base10 s hs en n ns acc x6 x7) = .ok (.fr (.str x)))(hl:acc.length<sizeLine)(h6:x6.nb=true)(h7:x7.nb=true):HY 5 e (base10 s hs en n ns acc x6 x7) = .ok (.nx (base10 s hs en n ns (acc++[x]) x6 x7)):=by
 show ((e (base10 s hs en n ns acc x6 x7)).bind fun w=>w.z.bind fun d=>if (acc.map D.str).length<sizeLine/\(base10 s hs en n ns acc x6 x7).all Sl.nb=true then Rz.ok (Fl.nx ((base10 s hs en n ns acc x6 x7).set 5 (.ow (acc.map D.str++[d])))) else .st)=_;rw[he,aa];show (if (acc.map D.str).length<sizeLine/\(base10 s hs en n ns acc x6 x7).all Sl.nb=true then Rz.ok (Fl.nx ((base10 s hs en n ns acc x6 x7).set 5 (.ow (acc.map D.str++[.str x])))) else .st)=_;rw[if_pos ⟨by rw[jH];exact hl,by show (true&&(true&&(true&&(true&&(true&&(true&&(x6.nb&&(x7.nb&&(true&&(true&&true))))))))))=true;rw[h6,h7];rfl⟩];unfold base10;rw[Wl];rfl
theorem Ii{k:Nat}(h:k<ns.length):aj (.lst (ns.map D.str)) (.int (k:Int)) = .ok (.fr (.str (ns.getD k ""))):=by
 rw[Ih (by rw[jH];exact h),List.getElem_map,rN,Az h];rfl
theorem QJ(d:Nat):(Txt.mul "  " (d:Int)).length=2*d:=by rw[len_list,mul_list,List.length_replicate]
theorem UT(hk:k<hs.length)(hn:k<ns.length)(hl:acc.length<sizeLine)(hd:(hs.getD k ("",0)).2<=1000)(h1:(hs.getD k ("",0)).1.length<=1000)(h2:(ns.getD k "").length<=1000) :
  Hb (base10 s hs en n ns acc (.fr (.str "room")) (.fr (.int (k:Int)))) = .ok (.nx (base10 s hs en n ns (acc++[Ef (hs.getD k ("",0)).1 (ns.getD k "") (hs.getD k ("",0)).2]) (.fr (.str "room")) (.fr (.int (k:Int))))):=by
 generalize hx:hs.getD k ("",0)=x at *;generalize hy:ns.getD k "" = y at *;have sz:∀ j:Nat,j<=10000->j<=sizeLine:=fun j hj=>Nat.le_trans hj (by rw[sizeLine_eq];decide);have hh:aL aj (aB 1) (aB 7) (base10 s hs en n ns acc (.fr (.str "room")) (.fr (.int (k:Int)))) = .ok (.fr (hD x)):=aM (x:=.fr (.lst (hs.map hD))) (y:=.fr (.int (k:Int))) rfl rfl (by rw[<-hx];exact tU hk)
 have e1:aL nF (fC (.str "  ")) (aL aj (aL aj (aB 1) (aB 7)) (fC (.int 1))) (base10 s hs en n ns acc (.fr (.str "room")) (.fr (.int (k:Int)))) = .ok (.fr (.str (Txt.mul "  " (x.2:Int)))):=
  aM (x:=.fr (.str "  ")) rfl (aM hh (y:=.fr (.int 1)) rfl (show aj _ _ = .ok (.fr (.int (x.2:Int))) from rfl)) (if_pos ⟨⟨by omega,by omega⟩,by decide +kernel⟩)
 have e2:aL aj (aL aj (aB 1) (aB 7)) (fC (.int 0)) (base10 s hs en n ns acc (.fr (.str "room")) (.fr (.int (k:Int)))) = .ok (.fr (.str x.1)):=aM hh (y:=.fr (.int 0)) rfl rfl;have e3:aL aj (aB 4) (aB 7) (base10 s hs en n ns acc (.fr (.str "room")) (.fr (.int (k:Int)))) = .ok (.fr (.str y)):=aM (x:=.fr (.lst (ns.map D.str))) (y:=.fr (.int (k:Int))) rfl rfl (by rw[<-hy];exact Ii hn);have ml:=QJ x.2
 have one:(" " : Str).length=1:=by decide +kernel
 have e4:=aM (aM (aM e1 e2 (add_str (sz _ (by omega)))) (y:=.fr (.str " ")) (b:=fC (.str " ")) rfl (add_str (sz _ (by rw[mR];show _+(" " : Str).length<=_;omega)))) e3 (add_str (sz _ (by rw[mR,mR];show _+(" " : Str).length+_<=_;omega)));show cz _ _ _ _=_;unfold cz;rw[show aN (aL (bh false) (aB 6) (fC (.str "room"))) (base10 s hs en n ns acc (.fr (.str "room")) (.fr (.int (k:Int)))) = .ok true from rfl,aa,if_pos rfl];exact Qi e4 hl rfl rfl
theorem SN(hn:k<ns.length)(hl:acc.length<sizeLine)(h2:(ns.getD k "").length<=1000) :
  Hb (base10 s hs en n ns acc (.fr (.str "door")) (.fr (.int (k:Int)))) = .ok (.nx (base10 s hs en n ns (acc++[uL (ns.getD k "")]) (.fr (.str "door")) (.fr (.int (k:Int))))):=by
 generalize hy:ns.getD k "" = y at *;have sz:∀ j:Nat,j<=10000->j<=sizeLine:=fun j hj=>Nat.le_trans hj (by rw[sizeLine_eq];decide);have e3:aL aj (aB 4) (aB 7) (base10 s hs en n ns acc (.fr (.str "door")) (.fr (.int (k:Int)))) = .ok (.fr (.str y)):=aM (x:=.fr (.lst (ns.map D.str))) (y:=.fr (.int (k:Int))) rfl rfl (by rw[<-hy];exact Ii hn)
 have d5:("door " : Str).length=5:=by decide +kernel
 have d11:(" knock stay" : Str).length=11:=by decide +kernel
 have e4:=aM (aM (x:=.fr (.str "door ")) (a:=fC (.str "door ")) rfl e3 (add_str (sz _ (by show ("door " : Str).length+_<=_;omega)))) (y:=.fr (.str " knock stay")) (b:=fC (.str " knock stay")) rfl (add_str (sz _ (by rw[mR];show ("door " : Str).length+_+(" knock stay" : Str).length<=_;omega)));show cz _ _ _ _=_;unfold cz;rw[show aN (aL (bh false) (aB 6) (fC (.str "room"))) (base10 s hs en n ns acc (.fr (.str "door")) (.fr (.int (k:Int)))) = .ok false from rfl,aa,if_neg pK];exact Qi e4 hl rfl rfl
end
noncomputable def Ad(hs:List (Str×Nat))(ns:List Str)(i:Nat):Str:=Ef (hs.getD i ("",0)).1 (ns.getD i "") (hs.getD i ("",0)).2
noncomputable def Aw(ns:List Str)(k:Nat):Str:=uL (ns.getD k "")
theorem xO{s:List Int}{hs:List (Str×Nat)}{en:List D}{n:Int}{ns:List Str}(hn:ns.length=hs.length)(hb:∀ k,k<hs.length->(hs.getD k ("",0)).2<=1000/\(hs.getD k ("",0)).1.length<=1000/\(ns.getD k "").length<=1000) :
  ∀(es:List En)(r:Nat)(acc:List Str)(x6 x7:Sl),fit hs.length es r->acc.length+es.length<=1000->∃ y6 y7,pB (bT [6,7]) Hb (bA es r) (base10 s hs en n ns acc x6 x7) = .ok (.nx (base10 s hs en n ns (acc++dh (Ad hs ns) (Aw ns) es r) y6 y7))
 | [],r,acc,x6,x7,_,_=>⟨x6,x7,by rw[dh,xF];rfl⟩
 | .room::es,r,acc,x6,x7,hf,hl=>by
  rw[dJ]at hl;obtain⟨b1,b2,b3⟩:=hb r hf.1;have t:=UT (s:=s) (en:=en) (n:=n) (acc:=acc) hf.1 (show r<ns.length by rw[hn];exact hf.1) (by rw[sizeLine_eq];omega) b1 b2 b3;obtain⟨y6,y7,e⟩:=xO hn hb es (r+1) (acc++[Ad hs ns r]) (.fr (.str "room")) (.fr (.int (r:Int))) hf.2 (by rw[rQ];show _+1+_<=_;omega);refine⟨y6,y7,?_⟩;rw[bA,pB];show ((Hb (base10 s hs en n ns acc (.fr (.str "room")) (.fr (.int (r:Int))))).bind _)=_;rw[t,aa];show pB (bT [6,7]) Hb (bA es (r+1)) (base10 s hs en n ns (acc++[Ad hs ns r]) (.fr (.str "room")) (.fr (.int (r:Int))))=_;rw[e,dh,List.append_assoc];rfl
 | .door k::es,r,acc,x6,x7,hf,hl=>by
  rw[dJ]at hl;obtain⟨b1,b2,b3⟩:=hb k hf.1;have t:=SN (s:=s) (hs:=hs) (en:=en) (n:=n) (acc:=acc) (show k<ns.length by rw[hn];exact hf.1) (by rw[sizeLine_eq];omega) b3;obtain⟨y6,y7,e⟩:=xO hn hb es r (acc++[Aw ns k]) (.fr (.str "door")) (.fr (.int (k:Int))) hf.2 (by rw[rQ];show _+1+_<=_;omega);refine⟨y6,y7,?_⟩;rw[bA,pB];show ((Hb (base10 s hs en n ns acc (.fr (.str "door")) (.fr (.int (k:Int))))).bind _)=_;rw[t,aa];show pB (bT [6,7]) Hb (bA es r) (base10 s hs en n ns (acc++[Aw ns k]) (.fr (.str "door")) (.fr (.int (k:Int))))=_;rw[e,dh,List.append_assoc];rfl
noncomputable def Lf:FS:=(cz (aN (aL (bh false) (aL aj (aL aj (aB 1) (aB 4)) (fC (.int 0))) (fC (.str "room"))))
   (aX (cz (lq (aN (aL pY (aB 3) (fC (.int 0)))) (qe (aN (aO (c7 law_fits_F) 2 (aA (aB 0) (aA (aL aj (aL aj (aB 1) (aB 4)) (fC (.int 1))) aJ))))))
    (az (aL bM (aB 4) (fC (.int 1))))
    bO)
   (aR 2 (aL bM (aB 2) (fC (.int 1)))))
   (aX (cz (lq (aN (aL (bh false) (aB 2) (fC (.int 0)))) (lq (aN (aL (bh true) (aL aj (aL aj (aB 0) (aL lN (aB 2) (fC (.int 1)))) (fC (.int 0))) (fC (.str "plain")))) (lq (aN (aL (bh false) (aB 3) (fC (.int 60)))) (aN (aL geD (aL aj (aL aj (aB 1) (aB 4)) (fC (.int 1))) (aB 2))))))
    (az (aL bM (aB 4) (fC (.int 1))))
    bO)
   (aR 3 (aL bM (aB 3) (fC (.int 1))))))
noncomputable def lr(hs:List (Str×Nat))(E:List D)(r d:Nat)(x4:Sl):List Sl:=[.fr (.lst (hs.map hD)),.fr (.lst E),.fr (.int (r:Int)),.fr (.int (d:Int)),x4]
section
variable{hs:List (Str×Nat)}{E:List D}{r d j:Nat}{nm:Nat->Str}
theorem Vr(hj:j<E.length)(he:E[j]? = some (.tup [.str "room",.int (r:Int)]))(hr:r<hs.length) :
  Lf (lr hs E r d (.fr (.int (j:Int))))=if (dY hs nm).step r d .room=true then .ok (.nx (lr hs E (r+1) d (.fr (.int (j:Int))))) else .ok (.ret (.int ((j:Int)+1)) (some (lr hs E r d (.fr (.int (j:Int)))))):=by
 generalize hρ:lr hs E r d (.fr (.int (j:Int)))=ρ
 have ee:aL aj (aB 1) (aB 4) ρ = .ok (.fr (.tup [.str "room",.int (r:Int)])):=by
  rw[<-hρ];refine aM (x:=.fr (.lst E)) (y:=.fr (.int (j:Int))) rfl rfl ?_;show aj (.lst E) (.int (j:Int))=_;rw[Ih hj];rw[Az hj]at he;rw[MN he]
 have c:∀ x:D,fC x ρ = .ok (.fr x):=fun _=>rfl
 have v3:aB 3 ρ = .ok (.fr (.int (d:Int))):=by rw[<-hρ];rfl
 have v4:aB 4 ρ = .ok (.fr (.int (j:Int))):=by rw[<-hρ];rfl
 have v2:aB 2 ρ = .ok (.fr (.int (r:Int))):=by rw[<-hρ];rfl
 have v0:aB 0 ρ = .ok (.fr (.lst (hs.map hD))):=by rw[<-hρ];rfl
 have t0:aN (aL (bh false) (aL aj (aL aj (aB 1) (aB 4)) (fC (.int 0))) (fC (.str "room"))) ρ = .ok true:=bJ (aM (aM ee (c _) (show aj _ _ = .ok (.fr (.str "room")) from rfl)) (c _) rfl);have f1:aN (aO (c7 law_fits_F) 2 (aA (aB 0) (aA (aL aj (aL aj (aB 1) (aB 4)) (fC (.int 1))) aJ))) ρ = .ok ((dY hs nm).fits r):=bJ (bF (ws:=[.fr (.lst (hs.map hD)),.fr (.int (r:Int))]) (aZ v0 (aZ (aM ee (c _) (show aj _ _ = .ok (.fr (.int (r:Int))) from rfl)) rfl)) rfl (dG (YS hr)) (.inl rfl))
 have t1:lq (aN (aL pY (aB 3) (fC (.int 0)))) (qe (aN (aO (c7 law_fits_F) 2 (aA (aB 0) (aA (aL aj (aL aj (aB 1) (aB 4)) (fC (.int 1))) aJ))))) ρ = .ok (!(d==0&&(dY hs nm).fits r)):=by
  have a:aN (aL pY (aB 3) (fC (.int 0))) ρ = .ok (decide ((0:Int)<(d:Int))):=bJ (aM v3 (c _) rfl);unfold lq qe;rw[a,f1]
  by_cases h0:d=0
  ·subst h0;rfl
  ·rw[decide_eq_true (show (0:Int)<(d:Int) by omega),beq_eq_false_iff_ne.mpr h0];rfl
 show cz _ _ _ ρ=_;unfold cz;rw[t0,aa,if_pos rfl];show _=if (d==0&&(dY hs nm).fits r)=true then _ else _
 cases q:(d==0&&(dY hs nm).fits r) with
 | true=>
  rw[q]at t1;rw[bV (ρ':=ρ) (by rw[t1];rfl),if_pos rfl,iG (aM v2 (c _) (show bM _ _ = .ok (.fr (.int ((r:Int)+1))) from rfl)),<-hρ];rfl
 | false=>
  rw[q]at t1;rw[if_neg pK];exact HN (by rw[t1,aa,if_pos (show (!false)=true from rfl)];unfold az;rw[aM v4 (c _) (show bM _ _ = .ok (.fr (.int ((j:Int)+1))) from rfl)];rfl)
end
section
variable{hs:List (Str×Nat)}{E:List D}{r d j k:Nat}{nm:Nat->Str}
theorem Vs(hj:j<E.length)(he:E[j]? = some (.tup [.str "door",.int (k:Int)]))(hr:r<=hs.length)(hd:d<=60) :
  Lf (lr hs E r d (.fr (.int (j:Int))))=if (dY hs nm).step r d (.door k)=true then .ok (.nx (lr hs E r (d+1) (.fr (.int (j:Int))))) else .ok (.ret (.int ((j:Int)+1)) (some (lr hs E r d (.fr (.int (j:Int)))))):=by
 generalize hρ:lr hs E r d (.fr (.int (j:Int)))=ρ
 have ee:aL aj (aB 1) (aB 4) ρ = .ok (.fr (.tup [.str "door",.int (k:Int)])):=by
  rw[<-hρ];refine aM (x:=.fr (.lst E)) (y:=.fr (.int (j:Int))) rfl rfl ?_;show aj (.lst E) (.int (j:Int))=_;rw[Ih hj];rw[Az hj]at he;rw[MN he]
 have c:∀ x:D,fC x ρ = .ok (.fr x):=fun _=>rfl
 have v3:aB 3 ρ = .ok (.fr (.int (d:Int))):=by rw[<-hρ];rfl
 have v4:aB 4 ρ = .ok (.fr (.int (j:Int))):=by rw[<-hρ];rfl
 have v2:aB 2 ρ = .ok (.fr (.int (r:Int))):=by rw[<-hρ];rfl
 have v0:aB 0 ρ = .ok (.fr (.lst (hs.map hD))):=by rw[<-hρ];rfl
 have t0:aN (aL (bh false) (aL aj (aL aj (aB 1) (aB 4)) (fC (.int 0))) (fC (.str "room"))) ρ = .ok false:=bJ (aM (aM ee (c _) (show aj _ _ = .ok (.fr (.str "door")) from rfl)) (c _) rfl)
 have b3:aN (aL (bh false) (aB 3) (fC (.int 60))) ρ = .ok (decide (d=60)):=by
  rw[bJ (aM v3 (c _) (show bh false _ _ = .ok (.fr (.bl (((d:Int)==60) != false))) from rfl))]
  by_cases h2:d=60
  ·rw[decide_eq_true h2,h2];rfl
  ·rw[decide_eq_false h2,beq_eq_false_iff_ne.mpr (by omega)];rfl
 have b4:aN (aL geD (aL aj (aL aj (aB 1) (aB 4)) (fC (.int 1))) (aB 2)) ρ = .ok (decide (r<=k)):=by
  rw[bJ (aM (aM ee (c _) (show aj _ _ = .ok (.fr (.int (k:Int))) from rfl)) v2 (show geD _ _ = .ok (.fr (.bl (decide ((r:Int)<=(k:Int))))) from rfl)),show decide ((r:Int)<=(k:Int))=decide (r<=k) from decide_eq_decide.mpr (by omega)]
 have b1:aN (aL (bh false) (aB 2) (fC (.int 0))) ρ = .ok (decide (r=0)):=by
  rw[bJ (aM v2 (c _) (show bh false _ _ = .ok (.fr (.bl (((r:Int)==0) != false))) from rfl))]
  by_cases h2:r=0
  ·rw[decide_eq_true h2,h2];rfl
  ·rw[decide_eq_false h2,beq_eq_false_iff_ne.mpr (by omega)];rfl
 have t1:lq (aN (aL (bh false) (aB 2) (fC (.int 0)))) (lq (aN (aL (bh true) (aL aj (aL aj (aB 0) (aL lN (aB 2) (fC (.int 1)))) (fC (.int 0))) (fC (.str "plain")))) (lq (aN (aL (bh false) (aB 3) (fC (.int 60)))) (aN (aL geD (aL aj (aL aj (aB 1) (aB 4)) (fC (.int 1))) (aB 2))))) ρ = .ok (!((dY hs nm).step r d (.door k))):=by
  show _=Rz.ok (!(decide (0<r)&&((dY hs nm).kd (r-1) == "plain" && (decide (d<60)&&decide (k<r)))))
  by_cases r0:r=0
  ·rw[decide_eq_true r0]at b1;unfold lq;rw[b1,decide_eq_false (show ¬ 0<r by omega)];rfl
  ·rw[decide_eq_false r0]at b1;have pv:aL aj (aB 0) (aL lN (aB 2) (fC (.int 1))) ρ = .ok (.fr (hD (hs.getD (r-1) ("",0)))):=aM v0 (y:=.fr (.int (((r-1:Nat)):Int))) (aM v2 (c _) (by show Rz.ok (W.fr (.int ((r:Int)-1)))=_;rw[show (r:Int)-1=((r-1:Nat):Int) by omega])) (tU (by omega));have b2:aN (aL (bh true) (aL aj (aL aj (aB 0) (aL lN (aB 2) (fC (.int 1)))) (fC (.int 0))) (fC (.str "plain"))) ρ = .ok (((dY hs nm).kd (r-1) == "plain") != true):=bJ (aM (aM pv (c _) (show aj _ _ = .ok (.fr (.str (hs.getD (r-1) ("",0)).1)) from rfl)) (c _) rfl);unfold lq;rw[b1,b2,b3,b4,decide_eq_true (show 0<r by omega),show decide (d<60) = !decide (d=60) from by rw[Bool.eq_iff_iff];simp;omega,show decide (k<r) = !decide (r<=k) from by rw[Bool.eq_iff_iff];simp]
   cases ((dY hs nm).kd (r-1) == "plain") <;> cases decide (d=60) <;> cases decide (r<=k) <;> rfl
 show cz _ _ _ ρ=_;unfold cz;rw[t0,aa,if_neg pK]
 cases q:(dY hs nm).step r d (.door k) with
 | true=>
  rw[q]at t1;rw[bV (ρ':=ρ) (by rw[t1];rfl),if_pos rfl,iG (aM v3 (c _) (show bM _ _ = .ok (.fr (.int ((d:Int)+1))) from rfl)),<-hρ];rfl
 | false=>
  rw[q]at t1;rw[if_neg pK];exact HN (by rw[t1,aa,if_pos (show (!false)=true from rfl)];unfold az;rw[aM v4 (c _) (show bM _ _ = .ok (.fr (.int ((j:Int)+1))) from rfl)];rfl)
end
theorem wO:∀(es:List En)(r:Nat),(bA es r).length=es.length
 | [],_=>rfl
 | .room::es,r=>by rw[bA,dJ,dJ,wO es]
 | .door k::es,r=>by rw[bA,dJ,dJ,wO es]
noncomputable def Vt(hs:List (Str×Nat))(E:List D)(j:Nat)(x:Rz Fl):Sum (Nat×List Nat) Nat->Prop
 | .inl (r,ks) => ∃ y4,x = .ok (.nx (lr hs E r ks.length y4))
 | .inr m => ∃ q,x = .ok (.ret (.int ((j:Int)+m+1)) q)
theorem Le{hs:List (Str×Nat)}{E:List D}{j:Nat}{x:Rz Fl}:∀ {y:Sum (Nat×List Nat) Nat},Vt hs E (j+1) x y->Vt hs E j x (nxt y)
 | .inl _,h=>h
 | .inr m,⟨q,h⟩=>⟨q,by rw[h];congr 3;omega⟩
theorem Df{hs:List (Str×Nat)}{E:List D}{nm:Nat->Str}:∀(es:List En)(r:Nat)(ks:List Nat)(j:Nat)(pre:List D)(x4:Sl),E=pre++bA es r->pre.length=j->fit hs.length es r->r<=hs.length->ks.length<=60 →
  Vt hs E j (pB (bN 4) Lf ((List.range' j es.length).map fun k:Nat=>D.int (k:Int)) (lr hs E r ks.length x4)) (jR (dY hs nm) es r ks)
 | [],r,ks,j,pre,x4,_,_,_,_,_=>⟨x4,rfl⟩
 | .room::es,r,ks,j,pre,x4,hE,hp,hf,hr,hk=>by
  have he:E[j]? = some (.tup [.str "room",.int (r:Int)]):=by rw[hE,<-hp,zw4 (jj _),Nat.sub_self];rfl
  have hj:j<E.length:=(Fb.mp he).1;have t:=Vr (nm:=nm) (d:=ks.length) hj he hf.1;rw[dJ,List.range'_succ,List.map_cons,pB,jR];show Vt hs E j ((Lf (lr hs E r ks.length (.fr (.int (j:Int))))).bind _) _;rw[t]
  by_cases q:(dY hs nm).step r ks.length .room=true
  ·rw[if_pos q,if_pos q];exact Le (Df es (r+1) ks (j+1) (pre++[.tup [.str "room",.int (r:Int)]]) _ (by rw[hE,List.append_assoc];rfl) (by rw[rQ,hp];rfl) hf.2 hf.1 hk)
  ·rw[if_neg q,if_neg q];exact⟨_,by rw[aa];congr 3⟩
 | .door k::es,r,ks,j,pre,x4,hE,hp,hf,hr,hk=>by
  have he:E[j]? = some (.tup [.str "door",.int (k:Int)]):=by rw[hE,<-hp,zw4 (jj _),Nat.sub_self];rfl
  have hj:j<E.length:=(Fb.mp he).1;have t:=Vs (nm:=nm) (d:=ks.length) hj he hr hk;rw[dJ,List.range'_succ,List.map_cons,pB,jR];show Vt hs E j ((Lf (lr hs E r ks.length (.fr (.int (j:Int))))).bind _) _;rw[t]
  by_cases q:(dY hs nm).step r ks.length (.door k)=true
  ·rw[if_pos q,if_pos q];have k60:ks.length<60:=of_decide_eq_true (Bool.and_eq_true_iff.mp (Bool.and_eq_true_iff.mp (Bool.and_eq_true_iff.mp q).2).2).1;have e:=Df (E:=E) (nm:=nm) es r (ks++[k]) (j+1) (pre++[.tup [.str "door",.int (k:Int)]]) (.fr (.int (j:Int))) (by rw[hE,List.append_assoc];rfl) (by rw[rQ,hp];rfl) hf.2 hr (by rw[rQ];show ks.length+1<=60;omega);rw[show (ks++[k]).length=ks.length+1 by simp]at e;exact Le e
  ·rw[if_neg q,if_neg q];exact⟨_,by rw[aa];congr 3⟩
noncomputable def Av(h:Hl)(n:Nat):Sum (Nat×List Nat) Nat->Int
 | .inl (r,_)=>if (decide (0<r)&&h.kd (r-1) == "plain")=true then 0 else (n:Int)+1
 | .inr m=>(m:Int)+1
theorem vX{h:Hl}{N:Nat}:∀(es:List En)(r:Nat)(ks:List Nat)(r':Nat)(ks':List Nat),fit N es r->jR h es r ks = .inl (r',ks')->r'<=N/\r'=r+cnt es
 | [],r,ks,r',ks',hf,e=>by cases e;exact⟨hf,rfl⟩
 | .room::es,r,ks,r',ks',hf,e=>by
  rw[jR]at e
  split at e
  ·cases q:jR h es (r+1) ks with
   | inl x=>rw[q]at e;cases e;have z:=vX es _ _ _ _ hf.2 q;exact⟨z.1,by rw[z.2];show r+1+cnt es=r+(En.room::es.filter Ij).length;rw[dJ];show r+1+cnt es=r+(cnt es+1);omega⟩
   | inr m=>rw[q]at e;cases e
  ·cases e
 | .door k::es,r,ks,r',ks',hf,e=>by
  rw[jR]at e
  split at e
  ·cases q:jR h es r (ks++[k]) with
   | inl x=>rw[q]at e;cases e;exact vX es _ _ _ _ hf.2 q
   | inr m=>rw[q]at e;cases e
  ·cases e
theorem qBV{hs:List (Str×Nat)}{nm:Nat->Str}{es:List En}(hf:fit hs.length es 0)(hl:es.length<=1000):law_due_F [.lst (hs.map hD),.lst (bA es 0)] = .ok (.int (Av (dY hs nm) es.length (jR (dY hs nm) es 0 []))):=by
 have lp:=Df (hs:=hs) (E:=bA es 0) (nm:=nm) es 0 [] 0 [] .no rfl rfl hf (Nat.zero_le _) (by decide)
 have len:∀ ρ,aB 1 ρ = .ok (.fr (.lst (bA es 0)))->cW bD (aA (aB 1) aJ) ρ = .ok (.fr (.int (es.length:Int))):=fun ρ h=>by
  have z:=nG h;rw[wO]at z;exact z
 have e3:qR (iU (aA (cW bD (aA (aB 1) aJ)) aJ)) (bN 4) Lf (lr hs (bA es 0) 0 0 .no)=pB (bN 4) Lf ((List.range' 0 es.length).map fun k:Nat=>D.int (k:Int)) (lr hs (bA es 0) 0 0 .no):=by
  unfold qR;rw[Bs (len _ rfl) (by omega),aa]
 have gd:xq=aX (aR 2 (fC (.int 0))) (aX (aR 3 (fC (.int 0))) (aX (qR (iU (aA (cW bD (aA (aB 1) aJ)) aJ)) (bN 4) Lf) (aX (cz (lq (aN (aL (bh false) (aB 2) (fC (.int 0)))) (aN (aL (bh true) (aL aj (aL aj (aB 0) (aL lN (aB 2) (fC (.int 1)))) (fC (.int 0))) (fC (.str "plain")))))
   (az (aL bM (cW bD (aA (aB 1) aJ)) (fC (.int 1))))
   bO) (az (fC (.int 0)))))):=rfl
 show fin (xq [.fr (.lst (hs.map hD)),.fr (.lst (bA es 0)),.no,.no,.no])=_;rw[gd];rw[bV (ρ':=[.fr (.lst (hs.map hD)),.fr (.lst (bA es 0)),.fr (.int 0),.no,.no]) rfl,bV (ρ':=lr hs (bA es 0) 0 0 .no) rfl]
 cases q:jR (dY hs nm) es 0 [] with
 | inr m=>
  rw[q]at lp;obtain⟨w,e⟩:=lp
  have z:((0:Nat):Int)+(m:Int)+1=(m:Int)+1:=by omega
  rw[z]at e;rw[HN (e3.trans e)];rfl
 | inl x=>
  obtain⟨r,ks⟩:=x;rw[q]at lp;obtain⟨y4,e⟩:=lp;have hr:=(vX es 0 [] r ks hf q).1;rw[bV (e3.trans e)];generalize hρ:lr hs (bA es 0) r ks.length y4=ρ;have c:∀ x:D,fC x ρ = .ok (.fr x):=fun _=>rfl
  have v2:aB 2 ρ = .ok (.fr (.int (r:Int))):=by rw[<-hρ];rfl
  have v1:aB 1 ρ = .ok (.fr (.lst (bA es 0))):=by rw[<-hρ];rfl
  have v0:aB 0 ρ = .ok (.fr (.lst (hs.map hD))):=by rw[<-hρ];rfl
  have b1:aN (aL (bh false) (aB 2) (fC (.int 0))) ρ = .ok (decide (r=0)):=by
   rw[bJ (aM v2 (c _) (show bh false _ _ = .ok (.fr (.bl (((r:Int)==0) != false))) from rfl))]
   by_cases h2:r=0
   ·rw[decide_eq_true h2,h2];rfl
   ·rw[decide_eq_false h2,beq_eq_false_iff_ne.mpr (by omega)];rfl
  have t:lq (aN (aL (bh false) (aB 2) (fC (.int 0)))) (aN (aL (bh true) (aL aj (aL aj (aB 0) (aL lN (aB 2) (fC (.int 1)))) (fC (.int 0))) (fC (.str "plain")))) ρ = .ok (!(decide (0<r)&&(dY hs nm).kd (r-1) == "plain")):=by
   by_cases r0:r=0
   ·rw[decide_eq_true r0]at b1;unfold lq;rw[b1,decide_eq_false (show ¬ 0<r by omega)];rfl
   ·rw[decide_eq_false r0]at b1;have pv:aL aj (aB 0) (aL lN (aB 2) (fC (.int 1))) ρ = .ok (.fr (hD (hs.getD (r-1) ("",0)))):=aM v0 (y:=.fr (.int (((r-1:Nat)):Int))) (aM v2 (c _) (by show Rz.ok (W.fr (.int ((r:Int)-1)))=_;rw[show (r:Int)-1=((r-1:Nat):Int) by omega])) (tU (by omega));have b2:aN (aL (bh true) (aL aj (aL aj (aB 0) (aL lN (aB 2) (fC (.int 1)))) (fC (.int 0))) (fC (.str "plain"))) ρ = .ok (((dY hs nm).kd (r-1) == "plain") != true):=bJ (aM (aM pv (c _) (show aj _ _ = .ok (.fr (.str (hs.getD (r-1) ("",0)).1)) from rfl)) (c _) rfl);unfold lq;rw[b1,b2,decide_eq_true (show 0<r by omega)]
    cases ((dY hs nm).kd (r-1) == "plain") <;> rfl
  show _=Rz.ok (D.int (if (decide (0<r)&&(dY hs nm).kd (r-1) == "plain")=true then 0 else (es.length:Int)+1))
  cases w:(decide (0<r)&&(dY hs nm).kd (r-1) == "plain") with
  | true=>
   rw[w]at t;rw[bV (ρ':=ρ) (by unfold cz;rw[t];rfl),if_pos rfl];rfl
  | false=>
   rw[w]at t;rw[if_neg pK,HN (d:=.int ((es.length:Int)+1)) (r:=some ρ) (by unfold cz;rw[t,aa,if_pos (show (!false)=true from rfl)];unfold az;rw[aM (len ρ v1) (c _) (show bM _ _ = .ok (.fr (.int ((es.length:Int)+1))) from rfl)];rfl)];rfl
noncomputable def qm:List En->List Nat
 | []=>[]
 | .room::es=>qm es
 | .door k::es=>k::qm es
theorem uP{h:Hl}:∀(es:List En)(r:Nat)(ks:List Nat)(r':Nat)(ks':List Nat),jR h es r ks = .inl (r',ks')->ks'=ks++qm es
 | [],r,ks,r',ks',e=>by cases e;exact (xF _).symm
 | .room::es,r,ks,r',ks',e=>by
  rw[jR]at e
  split at e
  ·cases q:jR h es (r+1) ks with
   | inl x=>rw[q]at e;cases e;exact uP es _ _ _ _ q
   | inr m=>rw[q]at e;cases e
  ·cases e
 | .door k::es,r,ks,r',ks',e=>by
  rw[jR]at e
  split at e
  ·cases q:jR h es r (ks++[k]) with
   | inl x=>rw[q]at e;cases e;have z:=uP es _ _ _ _ q;rw[z,List.append_assoc];rfl
   | inr m=>rw[q]at e;cases e
  ·cases e
noncomputable def zx:FT:=aN (aL (bh false) (aL aj (aB 0) (fC (.int 0))) (fC (.str "door")))
noncomputable def Di:FE:=cV (aA (aL aj (aB 0) (fC (.int 1))) (aA (fC (.int 0)) (aA (cV (aA (fC (.str "yes")) aJ)) (aA (cV aJ) (aA (fC (.str "stay")) (aA (fC .non) aJ))))))
theorem uv:∀(es:List En)(r:Nat),eY zx Di [] (bA es r) = .ok ((qm es).map fun k:Nat=>bZ (k:Int))
 | [],_=>rfl
 | .room::es,r=>by
  rw[bA,eY,show zx [.fr (.tup [.str "room",.int (r:Int)])] = .ok false from rfl,aa,if_neg pK,uv es (r+1)];rfl
 | .door k::es,r=>by
  have e:Di [.fr (.tup [.str "door",.int (k:Int)])] = .ok (.fr (bZ (k:Int))):=qd (ws:=[.fr (.int (k:Int)),.fr (.int 0),.fr (.tup [.str "yes"]),.fr (.tup []),.fr (.str "stay"),.fr .non]) rfl rfl (by rw[sizeLine_eq];exact (by decide:6<=16777216));rw[bA,eY,show zx [.fr (.tup [.str "door",.int (k:Int)])] = .ok true from rfl,aa,if_pos rfl,e,aa];show (eY zx Di [] (bA es r)).bind _=_;rw[uv es r];rfl
theorem La:∀ ks:List Nat,Jh (ks.map fun k:Nat=>bZ (k:Int)) (ks.map fun k:Nat=>bZ (k:Int))=true
 | []=>rfl
 | k::ks=>by
  show (qL (bZ (k:Int)) (bZ (k:Int))&&Jh (ks.map fun k:Nat=>bZ (k:Int)) (ks.map fun k:Nat=>bZ (k:Int)))=true;rw[La ks];show ((((k:Int)==(k:Int))&&true)&&true)=true;rw[beq_self_eq_true];rfl
theorem Yb(nm kd:Str)(d:Int):qL (gC nm kd d) (gC nm kd d)=true:=by
 show ((nm==nm)&&((kd==kd)&&((d==d)&&true)))=true;rw[beq_self_eq_true,beq_self_eq_true,beq_self_eq_true];rfl
noncomputable def Bu:FS:=(cz (aN (aL (bh true) (aL aj (aL aj (aB 0) (fC (.int 5))) (aB 4)) (cV (aA (aL aj (aB 3) (aB 4)) (aA (aL aj (aL aj (aB 1) (aB 4)) (fC (.int 0))) (aA (aL aj (aL aj (aB 1) (aB 4)) (fC (.int 1))) (aA (fC (.str "")) (aA (fC (.str "")) (aA (cV aJ) (aA (cV aJ) aJ))))))))))
   (az (fC (.bl false)))
   bO)
section
variable{hs:List (Str×Nat)}{ns:List Str}{en:List D}{ds:List D}
noncomputable def YC(hs:List (Str×Nat))(ns:List Str):Hl:=dY hs fun i=>ns.getD i ""
noncomputable def j4(hs:List (Str×Nat))(ns:List Str)(en ds:List D)(x4:Sl):List Sl:=[.fr (mZ ((YC hs ns).rs hs.length) ds),.fr (.lst (hs.map hD)),.fr (.lst en),.fr (.lst (ns.map D.str)),x4,.no]
theorem Mz(hn:ns.length=hs.length){k:Nat}(hk:k<hs.length):Bu (j4 hs ns en ds (.fr (.int (k:Int)))) = .ok (.nx (j4 hs ns en ds (.fr (.int (k:Int))))):=by
 generalize hρ:j4 hs ns en ds (.fr (.int (k:Int)))=ρ;have c:∀ x:D,fC x ρ = .ok (.fr x):=fun _=>rfl
 have v4:aB 4 ρ = .ok (.fr (.int (k:Int))):=by rw[<-hρ];rfl
 have f5:aL aj (aB 0) (fC (.int 5)) ρ = .ok (.fr (.tup (((YC hs ns).rs hs.length).map Rd.D))):=by rw[<-hρ];rfl
 generalize hx:hs.getD k ("",0)=x;generalize hy:ns.getD k "" = y
 have a1:aL aj (aL aj (aB 0) (fC (.int 5))) (aB 4) ρ = .ok (.fr (gC y x.1 (x.2:Int))):=by
  refine aM f5 v4 ?_
  have lk:k<(((YC hs ns).rs hs.length).map Rd.D).length:=by rw[jH,uQ];exact hk
  have z:yj (((YC hs ns).rs hs.length).map Rd.D) (k:Int)=some (gC y x.1 (x.2:Int)):=by
   unfold yj Wn;rw[if_pos (by omega),if_pos (by omega)];show (((YC hs ns).rs hs.length).map Rd.D)[((k:Int)).toNat]? = _;rw[MP,Az lk,List.getElem_map];unfold Hl.rs;rw[List.getElem_map,List.getElem_range,<-hx,<-hy];rfl
  show Rf (yj (((YC hs ns).rs hs.length).map Rd.D) (k:Int))=_;rw[z];rfl
 have hh:aL aj (aB 1) (aB 4) ρ = .ok (.fr (hD x)):=aM (x:=.fr (.lst (hs.map hD))) (by rw[<-hρ];rfl) v4 (by rw[<-hx];exact tU hk);have nn:aL aj (aB 3) (aB 4) ρ = .ok (.fr (.str y)):=aM (x:=.fr (.lst (ns.map D.str))) (by rw[<-hρ];rfl) v4 (by rw[<-hy];exact Ii (by rw[hn];exact hk))
 have a2:cV (aA (aL aj (aB 3) (aB 4)) (aA (aL aj (aL aj (aB 1) (aB 4)) (fC (.int 0))) (aA (aL aj (aL aj (aB 1) (aB 4)) (fC (.int 1))) (aA (fC (.str "")) (aA (fC (.str "")) (aA (cV aJ) (aA (cV aJ) aJ))))))) ρ = .ok (.fr (gC y x.1 (x.2:Int))):=
  qd (ws:=[.fr (.str y),.fr (.str x.1),.fr (.int (x.2:Int)),.fr (.str ""),.fr (.str ""),.fr (.tup []),.fr (.tup [])]) (aZ nn (aZ (aM hh (c _) (show aj _ _ = .ok (.fr (.str x.1)) from rfl)) (aZ (aM hh (c _) (show aj _ _ = .ok (.fr (.int (x.2:Int))) from rfl)) rfl))) rfl (by rw[sizeLine_eq];exact (by decide:7<=16777216))
 have t:aN (aL (bh true) (aL aj (aL aj (aB 0) (fC (.int 5))) (aB 4)) (cV (aA (aL aj (aB 3) (aB 4)) (aA (aL aj (aL aj (aB 1) (aB 4)) (fC (.int 0))) (aA (aL aj (aL aj (aB 1) (aB 4)) (fC (.int 1))) (aA (fC (.str "")) (aA (fC (.str "")) (aA (cV aJ) (aA (cV aJ) aJ))))))))) ρ = .ok false:=by
  refine bJ (aM a1 a2 ?_);show bh true (gC y x.1 (x.2:Int)) (gC y x.1 (x.2:Int))=_;unfold bh;rw[if_pos ⟨show (2:Nat)<=60 by decide,rfl,rfl⟩,Yb];rfl
 show cz _ _ _ ρ=_;unfold cz;rw[t];rfl
theorem Bt(hn:ns.length=hs.length):∀(m j:Nat)(x4:Sl),j+m<=hs.length->∃ y4,pB (bN 4) Bu ((List.range' j m).map fun k:Nat=>D.int (k:Int)) (j4 hs ns en ds x4) = .ok (.nx (j4 hs ns en ds y4))
 | 0,_,x4,_=>⟨x4,rfl⟩
 | m+1,j,x4,h=>by
  obtain⟨y4,e⟩:=Bt hn m (j+1) (.fr (.int (j:Int))) (by omega);refine⟨y4,?_⟩;rw[List.range'_succ,List.map_cons,pB];show ((Bu (j4 hs ns en ds (.fr (.int (j:Int))))).bind _)=_;rw[Mz hn (by omega),aa];exact e
end
theorem By:∀ ks:List Nat,R8 (ks.map fun k:Nat=>bZ (k:Int))=true
 | []=>rfl
 | k::ks=>by
  show ((bZ (k:Int)).pl&&R8 (ks.map fun k:Nat=>bZ (k:Int)))=true;rw[By ks];rfl
theorem Gh:∀ ks:List Nat,JC (ks.map fun k:Nat=>bZ (k:Int))<=2
 | []=>by decide
 | k::ks=>by
  have z:=Gh ks;show max (bZ (k:Int)).dep (JC (ks.map fun k:Nat=>bZ (k:Int)))<=2;have e:(bZ (k:Int)).dep=2:=rfl;rw[e];omega
theorem UW{hs:List (Str×Nat)}{ns:List Str}{es:List En}(hn:ns.length=hs.length)(hl:hs.length<=1000)(hes:es.length<=1000) :
  law_right_F [mZ ((YC hs ns).rs hs.length) ((qm es).map fun k:Nat=>bZ (k:Int)),.lst (hs.map hD),.lst (bA es 0),.lst (ns.map D.str)] = .ok (.bl true):=by
 generalize hds:((qm es).map fun k:Nat=>bZ (k:Int))=ds;have sz:∀ k:Nat,k<=1000->k<=sizeLine:=fun k hk=>Nat.le_trans hk (by rw[sizeLine_eq];decide)
 have t1:lq (qe (aN (OJ "tuple" (aB 0)))) (lq (aN (aL (bh true) (cW bD (aA (aB 0) aJ)) (fC (.int 7)))) (lq (aN (aL (bh true) (aL aj (aB 0) (fC (.int 4))) (cV (aA (fC (.str "knock")) aJ)))) (aN (aL (bh true) (cW bD (aA (aL aj (aB 0) (fC (.int 5))) aJ)) (cW bD (aA (aB 1) aJ)))))) (j4 hs ns (bA es 0) ds .no) = .ok false:=by
  have b1:qe (aN (OJ "tuple" (aB 0))) (j4 hs ns (bA es 0) ds .no) = .ok false:=rfl;have b2:aN (aL (bh true) (cW bD (aA (aB 0) aJ)) (fC (.int 7))) (j4 hs ns (bA es 0) ds .no) = .ok false:=rfl;have b3:aN (aL (bh true) (aL aj (aB 0) (fC (.int 4))) (cV (aA (fC (.str "knock")) aJ))) (j4 hs ns (bA es 0) ds .no) = .ok false:=rfl
  have b4:aN (aL (bh true) (cW bD (aA (aL aj (aB 0) (fC (.int 5))) aJ)) (cW bD (aA (aB 1) aJ))) (j4 hs ns (bA es 0) ds .no) = .ok false:=by
   have l1:cW bD (aA (aL aj (aB 0) (fC (.int 5))) aJ) (j4 hs ns (bA es 0) ds .no) = .ok (.fr (.int (hs.length:Int))):=by
    show Rz.ok (W.fr (.int ((((YC hs ns).rs hs.length).map Rd.D).length:Int)))=_;rw[jH,uQ]
   have l2:cW bD (aA (aB 1) aJ) (j4 hs ns (bA es 0) ds .no) = .ok (.fr (.int (hs.length:Int))):=by
    show Rz.ok (W.fr (.int ((hs.map hD).length:Int)))=_;rw[jH]
   refine bJ (aM l1 l2 ?_);show Rz.ok (W.fr (.bl (((hs.length:Int)==(hs.length:Int)) != true)))=_;rw[beq_self_eq_true];rfl
  unfold lq;rw[b1,b2,b3,b4];rfl
 obtain⟨y4,lp⟩:=Bt (hs:=hs) (ns:=ns) (en:=bA es 0) (ds:=ds) hn hs.length 0 .no (by omega)
 have e2:qR (iU (aA (cW bD (aA (aB 1) aJ)) aJ)) (bN 4) Bu (j4 hs ns (bA es 0) ds .no) = .ok (.nx (j4 hs ns (bA es 0) ds y4)):=by
  have l2:cW bD (aA (aB 1) aJ) (j4 hs ns (bA es 0) ds .no) = .ok (.fr (.int (hs.length:Int))):=by
   show Rz.ok (W.fr (.int ((hs.map hD).length:Int)))=_;rw[jH]
  unfold qR;rw[Bs l2 (by omega),aa];exact lp
 have e3:eX (nQ false (aB 2)) [] zx Di (j4 hs ns (bA es 0) ds y4) = .ok (.ow ds):=by
  show (if (bA es 0).length<=sizeLine then (eY zx Di [] (bA es 0)).bind fun l=>Rz.ok (W.ow l) else .st)=_;rw[if_pos (by rw[wO];exact sz _ hes),uv,hds];rfl
 generalize hρ:(j4 hs ns (bA es 0) ds y4).set 5 (.fr (.lst ds))=ρ
 have e4:aR 5 (eX (nQ false (aB 2)) [] zx Di) (j4 hs ns (bA es 0) ds y4) = .ok (.nx ρ):=by
  unfold aR;rw[e3,<-hρ];rfl
 have f1:aL (bh false) (J7 (aB 0) J8 (jd (fC (.int 4)))) (cV (aA (fC (.str "outer")) (aA (fC (.int 1)) (aA (fC (.int 2)) (aA (cV aJ) aJ))))) ρ = .ok (.fr (.bl true)):=by rw[<-hρ];rfl
 have f2:aL (bh false) (aL aj (aB 0) (fC (.int 6))) (cW rW (aA (aB 5) aJ)) ρ = .ok (.fr (.bl true)):=by
  refine aM (x:=.fr (.tup ds)) (y:=.fr (.tup ds)) (by rw[<-hρ];rfl) (by rw[<-hρ];rfl) ?_;show bh false (.tup ds) (.tup ds)=_;rw[<-hds];unfold bh;have d2:=Gh (qm es);rw[if_pos ⟨show JC _+1<=60 by omega,By _,By _⟩];show Rz.ok (W.fr (.bl (Jh _ _ != false)))=_;rw[La];rfl
 have gd:sO=aX (cz (lq (qe (aN (OJ "tuple" (aB 0)))) (lq (aN (aL (bh true) (cW bD (aA (aB 0) aJ)) (fC (.int 7)))) (lq (aN (aL (bh true) (aL aj (aB 0) (fC (.int 4))) (cV (aA (fC (.str "knock")) aJ)))) (aN (aL (bh true) (cW bD (aA (aL aj (aB 0) (fC (.int 5))) aJ)) (cW bD (aA (aB 1) aJ))))))) (az (fC (.bl false))) bO) (aX (qR (iU (aA (cW bD (aA (aB 1) aJ)) aJ)) (bN 4) Bu) (aX (aR 5 (eX (nQ false (aB 2)) [] zx Di)) (az (dO (aL (bh false) (J7 (aB 0) J8 (jd (fC (.int 4)))) (cV (aA (fC (.str "outer")) (aA (fC (.int 1)) (aA (fC (.int 2)) (aA (cV aJ) aJ)))))) (aL (bh false) (aL aj (aB 0) (fC (.int 6))) (cW rW (aA (aB 5) aJ))))))):=rfl;show fin (sO (j4 hs ns (bA es 0) ds .no))=_;rw[gd,bV (ρ':=j4 hs ns (bA es 0) ds .no) (by unfold cz;rw[t1];rfl),bV e2,bV e4];unfold az;rw[iy f1 (fun _=>f2)];rfl
noncomputable def jb(n N:Nat):List Str:=(List.range N).map (ou (rep n))
theorem Nq(hc:chk=true){n N:Nat}(hN:N<=50):eY lU (aO (c7 law_name_F) 2 (aA (aB 0) (aA (aB 1) aJ))) [.fr (.int (n:Int))] ((List.range' 0 N).map fun k:Nat=>D.int (k:Int)) = .ok ((jb n N).map D.str):=by
 rw[tZ (h:=fun x=>match x with | .int k=>.str (ou (rep n) k.toNat) | _=>.non) (fun _ _=>rfl) (fun x hx=>?_),List.map_map]
 ·unfold jb;rw[List.map_map,List.range_eq_range'];apply congrArg;apply List.map_congr_left;intro k _;show D.str (ou (rep n) ((k:Int)).toNat)=D.str (ou (rep n) k);rw[MP]
 ·obtain⟨k,hk,rfl⟩:=Qo.mp hx;have hk':=(List.mem_range'_1.mp hk).2;have z:=((sE hc n).1 k (by omega)).1;show _=Rz.ok (W.fr (.str (ou (rep n) ((k:Int)).toNat)));rw[MP];exact bF (ws:=[.fr (.int (k:Int)),.fr (.int (n:Int))]) rfl rfl (dG z) (.inl rfl)
theorem qB3(n N:Nat):(jb n N).length=N:=by unfold jb;rw[jH,List.length_range]
theorem Fw{n N k:Nat}(h:k<N):(jb n N).getD k "" = ou (rep n) k:=by
 unfold jb;rw[rN,uB,qA2 h];rfl
theorem rR{z:Str}(h:qy z):z.length<=12:=by
 unfold qy at h
 by_cases hs:z.length<=sizeLine
 ·have l:cW bD (aA (aB 0) aJ) [.fr (.str z)] = .ok (.fr (.int (z.length:Int))):=if_pos hs
  by_cases h12:z.length<=12
  ·exact h12
  ·have ch:qD zq zq (fC (.int 1)) (cW bD (aA (aB 0) aJ)) (fC (.int 12)) [.fr (.str z)] = .ok (.fr (.bl false)):=by
    unfold qD;rw[show fC (.int 1) ([.fr (.str z)]:List Sl) = .ok (.fr (.int 1)) from rfl,aa,l,aa];show (if decide ((1:Int)<=(z.length:Int))=true then Rz.ok (W.fr (.bl (decide ((z.length:Int)<=12)))) else .ok (.fr (.bl false)))=_;rw[decide_eq_false (show ¬ (z.length:Int)<=12 by omega)]
    split <;> rfl
   have e:dN [.str z] = .ok (.bl false):=by
    show fin (az (dO (qD zq zq (fC (.int 1)) (cW bD (aA (aB 0) aJ)) (fC (.int 12))) (cW (Wq fun l=>l.all id) (aA (eX (nQ false (aB 0)) [] lU (aL (inD false) (aB 0) (fC (.str "abcdefghijklmnopqrstuvwxyz")))) aJ))) [.fr (.str z)])=_;unfold az dO;rw[ch];rfl
   rw[e]at h
   cases h
 ·have l:cW bD (aA (aB 0) aJ) [.fr (.str z)] = .st:=if_neg hs
  have e:dN [.str z] = .st:=by
   show fin (az (dO (qD zq zq (fC (.int 1)) (cW bD (aA (aB 0) aJ)) (fC (.int 12))) (cW (Wq fun l=>l.all id) (aA (eX (nQ false (aB 0)) [] lU (aL (inD false) (aB 0) (fC (.str "abcdefghijklmnopqrstuvwxyz")))) aJ))) [.fr (.str z)])=_;unfold az dO qD;rw[show fC (.int 1) ([.fr (.str z)]:List Sl) = .ok (.fr (.int 1)) from rfl,aa,l];rfl
  rw[e]at h
  cases h
theorem qDR(hc:chk=true){hs:List (Str×Nat)}(g:Good hs)(hN:hs.length<=42)(n:Nat):qC2 (dY hs (ou (rep n))) hs.length (Ad hs (jb n hs.length)) (Aw (jb n hs.length)):=by
 have nk:=(sE hc n).1
 have at_:∀ i,i<hs.length->iZ (hs.getD i ("",0)).1/\(hs.getD i ("",0)).2<=126:=fun i hi=>by
  have m:hs.getD i ("",0)∈hs:=by
   rw[rN,Az hi];exact Qn hi
  have:=g _ m;exact⟨this.1,by omega⟩
 refine⟨fun i hi=>?_,fun k hk=>?_,fun i hi=>(nk i (by omega)).2.word,fun i hi=>(at_ i hi).1,(sE hc n).2,hN⟩
 ·obtain⟨_,no⟩:=nk i (by omega);show lJ (Ef (hs.getD i ("",0)).1 ((jb n hs.length).getD i "") (hs.getD i ("",0)).2) (hs.getD i ("",0)).1 (ou (rep n) i) (hs.getD i ("",0)).2;rw[Fw hi];exact qAM (at_ i hi).1 no.ne no.sp (Nat.le_trans (rR no.word) (by decide)) (Nat.le_trans (at_ i hi).2 (by decide))
 ·obtain⟨_,no⟩:=nk k (by omega);show nj (uL ((jb n hs.length).getD k "")) (ou (rep n) k);rw[Fw hk];exact Yl no.ne no.sp (Nat.le_trans (rR no.word) (by decide))
theorem vY(rr dr:Nat->Str):∀(es:List En)(r:Nat),(dh rr dr es r).length=es.length
 | [],_=>rfl
 | .room::es,r=>by rw[dh,dJ,vY rr dr es (r+1),dJ]
 | .door k::es,r=>by rw[dh,dJ,vY rr dr es r,dJ]
theorem Br{p:Str->Prop}{rr dr:Nat->Str}{N:Nat}(h1:∀ i,i<N->p (rr i))(h2:∀ k,k<N->p (dr k)):∀(es:List En)(r:Nat),fit N es r->∀ y∈dh rr dr es r,p y
 | [],_,_,y,hy=>by cases hy
 | .room::es,r,hf,y,hy=>by
  rw[dh]at hy;rcases jo.mp hy with e | e
  ·rw[e];exact h1 r hf.1
  ·exact Br h1 h2 es (r+1) hf.2 y e
 | .door k::es,r,hf,y,hy=>by
  rw[dh]at hy;rcases jo.mp hy with e | e
  ·rw[e];exact h2 k hf.1
  ·exact Br h1 h2 es r hf.2 y e
noncomputable def Sm(y:Str):Prop:=10∉y.cps.toList/\y.length<=300
theorem qAL{kd nm:Str}{d:Nat}(hk:iZ kd)(h1:10∉nm.cps.toList)(hl:nm.length<=12)(hd:d<=126):Sm (Ef kd nm d):=by
 have k5:kd.length<=5/\10∉kd.cps.toList:=by rcases hk with rfl | rfl | rfl <;> decide +kernel
 have one:(" " : Str).length=1:=by decide +kernel
 have ml:=QJ d;refine⟨?_,?_⟩
 ·unfold Ef;rw[app_list,app_list,app_list,mul_list,Gv.Pk];intro z;rcases wz.mp z with z | z
  ·rcases wz.mp z with z | z
   ·rcases wz.mp z with z | z
    ·have:=List.eq_of_mem_replicate z;revert this;decide
    ·exact k5.2 z
   ·revert z;decide
  ·exact h1 z
 ·unfold Ef;rw[mR,mR,mR];show _+_+(" " : Str).length+_<=_;omega
theorem Yk{nm:Str}(h1:10∉nm.cps.toList)(hl:nm.length<=12):Sm (uL nm):=by
 have d5:("door " : Str).length=5/\10∉("door " : Str).cps.toList:=by decide +kernel
 have d11:(" knock stay" : Str).length=11/\10∉(" knock stay" : Str).cps.toList:=by decide +kernel
 refine⟨?_,?_⟩
 ·unfold uL;rw[app_list,app_list];intro z;rcases wz.mp z with z | z
  ·rcases wz.mp z with z | z
   ·exact d5.2 z
   ·exact h1 z
  ·exact d11.2 z
 ·unfold uL;rw[mR,mR];show ("door " : Str).length+_+(" knock stay" : Str).length<=_;omega
theorem U0:∀ ys:List Str,(∀ y∈ys,y.length<=300)->(ys.map (·.length)).sum<=300*ys.length
 | [],_=>jj _
 | y::ys,h=>by
  have:=U0 ys fun z hz=>h z (.tail _ hz);have:=h y (.head _);rw[List.map_cons,List.sum_cons,dJ];omega
theorem Kv:∀ ws:List Str,((ws.map fun z=>z.cps.toList).flatMap fun v=>10::v).length=(ws.map (·.length)).sum+ws.length
 | []=>rfl
 | w::ws=>by
  rw[List.map_cons,List.flatMap_cons,rQ,Kv ws,List.map_cons,List.sum_cons,dJ,dJ,len_list w];omega
theorem VD(ys:List Str):(Txt.join "\n" ys).length<=(ys.map (·.length)).sum+ys.length:=by
 rw[len_list,Gv.join_list (c:=10) (by decide +kernel)]
 cases ys with
 | nil=>exact jj _
 | cons y ys=>
  rw[List.map_cons];show (y.cps.toList++(ys.map fun z=>z.cps.toList).flatMap fun v=>10::v).length<=_;rw[rQ,Kv,List.map_cons,List.sum_cons,dJ,len_list y];omega
theorem Ww(hc:chk=true){hs:List (Str×Nat)}(g:Good hs)(hN:hs.length<=42)(n:Nat){es:List En}(hf:fit hs.length es 0)(hl:es.length<=110) :
  (∀ y∈dh (Ad hs (jb n hs.length)) (Aw (jb n hs.length)) es 0,10∉y.cps.toList) ∧
  (((cL++dh (Ad hs (jb n hs.length)) (Aw (jb n hs.length)) es 0).map (·.length)).sum+(cL++dh (Ad hs (jb n hs.length)) (Aw (jb n hs.length)) es 0).length*("\n" : Str).length<=16777216) ∧
  (Txt.join "\n" (cL++dh (Ad hs (jb n hs.length)) (Aw (jb n hs.length)) es 0)).length<=sizeLine:=by
 have nk:=(sE hc n).1
 have at_:∀ i,i<hs.length->iZ (hs.getD i ("",0)).1/\(hs.getD i ("",0)).2<=126:=fun i hi=>by
  have m:hs.getD i ("",0)∈hs:=by
   rw[rN,Az hi];exact Qn hi
  have:=g _ m;exact⟨this.1,by omega⟩
 have all:=Br (p:=Sm) (rr:=Ad hs (jb n hs.length)) (dr:=Aw (jb n hs.length)) (N:=hs.length)
  (fun i hi=>by
   have no:=(nk i (by omega)).2;show Sm (Ef (hs.getD i ("",0)).1 ((jb n hs.length).getD i "") (hs.getD i ("",0)).2);rw[Fw hi]
   exact qAL (at_ i hi).1 no.nl (rR no.word) (at_ i hi).2)
  (fun k hk=>by
   have no:=(nk k (by omega)).2;show Sm (uL ((jb n hs.length).getD k ""));rw[Fw hk]
   exact Yk no.nl (rR no.word)) es 0 hf
 have len:=vY (Ad hs (jb n hs.length)) (Aw (jb n hs.length)) es 0;generalize dh (Ad hs (jb n hs.length)) (Aw (jb n hs.length)) es 0=R at *
 have h4:∀ y∈cL,y.length<=300:=by decide +kernel
 have s:=U0 (cL++R) fun y hy=>by
  rcases wz.mp hy with z | z
  ·exact h4 y z
  ·exact (all y z).2
 have l4:(cL++R).length<=114:=by rw[rQ,len];show 4+_<=_;omega
 have one:("\n" : Str).length=1:=by decide +kernel
 refine⟨fun y hy=>(all y hy).1,?_,?_⟩
 ·rw[one];omega
 ·have:=VD (cL++R);rw[sizeLine_eq];omega
theorem XN{hs:List (Str×Nat)}(n:Nat):(YC hs (jb n hs.length)).rs hs.length=(dY hs (ou (rep n))).rs hs.length:=by
 unfold Hl.rs;apply List.map_congr_left;intro i hi;show (⟨(jb n hs.length).getD i "",_,_⟩:Rd)=⟨ou (rep n) i,_,_⟩;rw[Fw (List.mem_range.mp hi)];rfl
theorem law_is(hc:chk=true){aC:Addr}{s:List Int}(hS:s.length<=sizeLine):law_F aC [.d8 s] = .ok (.bl true):=by
 have sz:∀ k:Nat,k<=1000->k<=sizeLine:=fun k hk=>Nat.le_trans hk (by rw[sizeLine_eq];decide);obtain⟨hs,h1,h2,gd,eh⟩:=Ri hS;obtain⟨es,hf,hl,qG0,ee⟩:=Lb (hs:=hs) hS h1 h2
 have a1:aR 1 (aO (c7 law_halls_F) 1 (aA (aB 0) aJ)) [.fr (.d8 s),.no,.no,.no,.no,.no,.no,.no,.no,.no] = .ok (.nx [.fr (.d8 s),.fr (.lst (hs.map hD)),.no,.no,.no,.no,.no,.no,.no,.no]):=
  iG (bF (ws:=[.fr (.d8 s)]) rfl rfl (dG eh) (.inl rfl))
 have a2:aR 2 (aO (c7 law_entries_F) 2 (aA (aB 0) (aA (aB 1) aJ))) [.fr (.d8 s),.fr (.lst (hs.map hD)),.no,.no,.no,.no,.no,.no,.no,.no] = .ok (.nx [.fr (.d8 s),.fr (.lst (hs.map hD)),.fr (.lst (bA es 0)),.no,.no,.no,.no,.no,.no,.no]):=
  iG (bF (ws:=[.fr (.d8 s),.fr (.lst (hs.map hD))]) rfl rfl (dG ee) (.inl rfl))
 obtain⟨n,em⟩:=Hw (s:=s) hS 1 12 (by decide) (by decide) (ρ:=[.fr (.d8 s),.fr (.lst (hs.map hD)),.fr (.lst (bA es 0)),.no,.no,.no,.no,.no,.no,.no]) rfl;have a3:aR 3 (aO (c7 law_mixed_F) 3 (aA (aB 0) (aA (fC (.int 1)) (aA (fC (.int 12)) aJ)))) [.fr (.d8 s),.fr (.lst (hs.map hD)),.fr (.lst (bA es 0)),.no,.no,.no,.no,.no,.no,.no] = .ok (.nx [.fr (.d8 s),.fr (.lst (hs.map hD)),.fr (.lst (bA es 0)),.fr (.int (n:Int)),.no,.no,.no,.no,.no,.no]):=iG em;have nl:=qB3 n hs.length;have tx:=Ww hc gd h2 n hf hl;have ho:=qDR hc gd h2 n;generalize hns:jb n hs.length=ns at *
 have a4:aR 4 (eX (iU (aA (cW bD (aA (aB 1) aJ)) aJ)) [(3,"_law_number")] lU (aO (c7 law_name_F) 2 (aA (aB 0) (aA (aB 1) aJ)))) [.fr (.d8 s),.fr (.lst (hs.map hD)),.fr (.lst (bA es 0)),.fr (.int (n:Int)),.no,.no,.no,.no,.no,.no] = .ok (.nx [.fr (.d8 s),.fr (.lst (hs.map hD)),.fr (.lst (bA es 0)),.fr (.int (n:Int)),.fr (.lst (ns.map D.str)),.no,.no,.no,.no,.no]):=by
  have l:cW bD (aA (aB 1) aJ) [.fr (.d8 s),.fr (.lst (hs.map hD)),.fr (.lst (bA es 0)),.fr (.int (n:Int)),.no,.no,.no,.no,.no,.no] = .ok (.fr (.int (hs.length:Int))):=by
   rw[nG (l:=hs.map hD) rfl,jH]
  have c:eX (iU (aA (cW bD (aA (aB 1) aJ)) aJ)) [(3,"_law_number")] lU (aO (c7 law_name_F) 2 (aA (aB 0) (aA (aB 1) aJ))) [.fr (.d8 s),.fr (.lst (hs.map hD)),.fr (.lst (bA es 0)),.fr (.int (n:Int)),.no,.no,.no,.no,.no,.no] = .ok (.ow (ns.map D.str)):=by
   unfold eX;rw[Bs l (by omega),aa,if_pos (by rw[jH,List.length_range'];exact sz _ (by omega))];have:=Nq hc (n:=n) (N:=hs.length) (by omega);rw[show t7 [(3,"_law_number")] ([.fr (.d8 s),.fr (.lst (hs.map hD)),.fr (.lst (bA es 0)),.fr (.int (n:Int)),.no,.no,.no,.no,.no,.no]:List Sl)=[.fr (.int (n:Int))] from rfl,this,hns];rfl
  unfold aR;rw[c];rfl
 have a5:Mx 5 (fH (aA (fC (.str "order outer")) (aA (fC (.str "letters 1")) (aA (fC (.str "turns 2")) (aA (fC (.str "event knock")) aJ))))) [.fr (.d8 s),.fr (.lst (hs.map hD)),.fr (.lst (bA es 0)),.fr (.int (n:Int)),.fr (.lst (ns.map D.str)),.no,.no,.no,.no,.no] = .ok (.nx (base10 s hs (bA es 0) (n:Int) ns cL .no .no)):=rfl
 obtain⟨y6,y7,lp⟩:=xO (s:=s) (hs:=hs) (en:=bA es 0) (n:=(n:Int)) (ns:=ns) nl (fun k hk=>by
  have r:=ho.row k hk;have no:=((sE hc n).1 k (by omega)).2;have hk2:iZ (hs.getD k ("",0)).1:=ho.kind k hk
  have m:hs.getD k ("",0)∈hs:=by
   rw[rN,Az hk];exact Qn hk
  have gg:=(gd _ m).2;refine⟨by omega,?_,?_⟩
  ·rcases hk2 with e | e | e <;> rw[e] <;> decide +kernel
  ·rw[<-hns,Fw hk];have:=rR no.word
   omega) es 0 cL .no .no hf (by show 4+_<=_;omega)
 generalize hR:dh (Ad hs ns) (Aw ns) es 0=R at *;have a6:qR (nQ true (aB 2)) (bT [6,7]) Hb (base10 s hs (bA es 0) (n:Int) ns cL .no .no) = .ok (.nx (base10 s hs (bA es 0) (n:Int) ns (cL++R) y6 y7)):=lp;generalize hrun:jR (dY hs (ou (rep n))) es 0 []=X at *
 have ed:law_due_F [.lst (hs.map hD),.lst (bA es 0)] = .ok (.int (Av (dY hs (ou (rep n))) es.length X)):=by
  rw[<-hrun];exact qBV hf (by omega)
 have a8:aR 8 (aO (c7 law_due_F) 2 (aA (aB 1) (aA (aB 2) aJ))) (base10 s hs (bA es 0) (n:Int) ns (cL++R) y6 y7) = .ok (.nx ((base10 s hs (bA es 0) (n:Int) ns (cL++R) y6 y7).set 8 (.fr (.int (Av (dY hs (ou (rep n))) es.length X))))):=
  iG (bF (ws:=[.fr (.lst (hs.map hD)),.fr (.lst (bA es 0))]) rfl rfl (dG ed) (.inl rfl))
 have er:jU aC (Txt.join "\n" (cL++R))=qCX (dY hs (ou (rep n))) (4+es.length) X:=by
  rw[<-hrun,<-hR];exact XR ho hf hl (by rw[hR];exact tx.1) (vY _ _ _ _) (by rw[hR];exact tx.2.2)
 have ej:fM "str" zr (fC (.str "\n")) (aA (aB 5) aJ) ((base10 s hs (bA es 0) (n:Int) ns (cL++R) y6 y7).set 8 (.fr (.int (Av (dY hs (ou (rep n))) es.length X)))) = .ok (.fr (.str (Txt.join "\n" (cL++R)))):=by
  show zr (.str "\n") [.lst ((cL++R).map D.str)]=_;unfold zr;simp only[];rw[Be];exact if_pos tx.2.1
 have a9:∀ d:D,law_read_F aC [.str (Txt.join "\n" (cL++R))] = .ok d->aR 9 (aO (c7 (law_read_F aC)) 1 (aA (fM "str" zr (fC (.str "\n")) (aA (aB 5) aJ)) aJ)) ((base10 s hs (bA es 0) (n:Int) ns (cL++R) y6 y7).set 8 (.fr (.int (Av (dY hs (ou (rep n))) es.length X)))) = .ok (.nx (((base10 s hs (bA es 0) (n:Int) ns (cL++R) y6 y7).set 8 (.fr (.int (Av (dY hs (ou (rep n))) es.length X)))).set 9 (.fr d))):=fun d hd=>
  iG (bF (ws:=[.fr (.str (Txt.join "\n" (cL++R)))]) (aZ ej rfl) rfl (dG hd) (.inl rfl))
 have last:∀(u:D)(row:Int),law_read_F aC [.str (Txt.join "\n" (cL++R))] = .ok (.tup [u,.int row]) →
   (0<Av (dY hs (ou (rep n))) es.length X->row=4+Av (dY hs (ou (rep n))) es.length X) →
   (¬ 0<Av (dY hs (ou (rep n))) es.length X->row=0/\law_right_F [u,.lst (hs.map hD),.lst (bA es 0),.lst (ns.map D.str)] = .ok (.bl true))->law_F aC [.d8 s] = .ok (.bl true):=by
  intro u row hd q1 q2;generalize Av (dY hs (ou (rep n))) es.length X=due at *
  have gl:VP aC=(aX (aR 1 (aO (c7 law_halls_F) 1 (aA (aB 0) aJ)))
  (aX (aR 2 (aO (c7 law_entries_F) 2 (aA (aB 0) (aA (aB 1) aJ))))
  (aX (aR 3 (aO (c7 law_mixed_F) 3 (aA (aB 0) (aA (fC (.int 1)) (aA (fC (.int 12)) aJ)))))
  (aX (aR 4 (eX (iU (aA (cW bD (aA (aB 1) aJ)) aJ)) [(3,"_law_number")] lU (aO (c7 law_name_F) 2 (aA (aB 0) (aA (aB 1) aJ)))))
  (aX (Mx 5 (fH (aA (fC (.str "order outer")) (aA (fC (.str "letters 1")) (aA (fC (.str "turns 2")) (aA (fC (.str "event knock")) aJ))))))
  (aX (qR (nQ true (aB 2)) (bT [6,7]) Hb)
  (aX (aR 8 (aO (c7 law_due_F) 2 (aA (aB 1) (aA (aB 2) aJ))))
  (aX (aR 9 (aO (c7 (law_read_F aC)) 1 (aA (fM "str" zr (fC (.str "\n")) (aA (aB 5) aJ)) aJ)))
  (aX (cz (aN (aL pY (aB 8) (fC (.int 0))))
   (az (dO (OJ "int" (aL aj (aB 9) (fC (.int 1)))) (dO (eV (OJ "bool" (aL aj (aB 9) (fC (.int 1))))) (aL (bh false) (aL aj (aB 9) (fC (.int 1))) (aL bM (fC (.int 4)) (aB 8))))))
   bO)
  (az (dO (aL (bh false) (aL aj (aB 9) (fC (.int 1))) (fC (.int 0))) (aO (c7 law_right_F) 4 (aA (aL aj (aB 9) (fC (.int 0))) (aA (aB 1) (aA (aB 2) (aA (aB 4) aJ)))))))))))))))):=rfl
  show fin (VP aC [.fr (.d8 s),.no,.no,.no,.no,.no,.no,.no,.no,.no])=_;rw[gl,bV a1,bV a2,bV a3,bV a4,bV a5,bV a6,bV a8,bV (a9 _ hd)];generalize hρ:(((base10 s hs (bA es 0) (n:Int) ns (cL++R) y6 y7).set 8 (.fr (.int due))).set 9 (.fr (.tup [u,.int row])))=ρ
  have v8:aB 8 ρ = .ok (.fr (.int due)):=by rw[<-hρ];rfl
  have v9:aB 9 ρ = .ok (.fr (.tup [u,.int row])):=by rw[<-hρ];rfl
  have c:∀ d:D,fC d ρ = .ok (.fr d):=fun _=>rfl;have i1:aL aj (aB 9) (fC (.int 1)) ρ = .ok (.fr (.int row)):=aM v9 (c _) rfl;have i0:aL aj (aB 9) (fC (.int 0)) ρ = .ok (.fr u):=aM v9 (c _) rfl;have t:aN (aL pY (aB 8) (fC (.int 0))) ρ = .ok (decide (0<due)):=bJ (aM v8 (c _) rfl)
  by_cases hd0:0<due
  ·have q:=q1 hd0
   have w1:OJ "int" (aL aj (aB 9) (fC (.int 1))) ρ = .ok (.fr (.bl true)):=by unfold OJ;rw[i1];rfl
   have w2:OJ "bool" (aL aj (aB 9) (fC (.int 1))) ρ = .ok (.fr (.bl false)):=by unfold OJ;rw[i1];rfl
   have w3:aL (bh false) (aL aj (aB 9) (fC (.int 1))) (aL bM (fC (.int 4)) (aB 8)) ρ = .ok (.fr (.bl true)):=aM i1 (aM (c _) v8 (show bM _ _ = .ok (.fr (.int (4+due))) from rfl)) (by
    show Rz.ok (W.fr (.bl ((row==4+due) != false)))=_;rw[q,beq_self_eq_true]
    rfl)
   have rt:az (dO (OJ "int" (aL aj (aB 9) (fC (.int 1)))) (dO (eV (OJ "bool" (aL aj (aB 9) (fC (.int 1))))) (aL (bh false) (aL aj (aB 9) (fC (.int 1))) (aL bM (fC (.int 4)) (aB 8))))) ρ = .ok (.ret (.bl true) (some ρ)):=by
    unfold az;rw[iy w1 (fun _=>iy (sr w2) (fun _=>w3))];rfl
   rw[HN (d:=.bl true) (r:=some ρ) (by unfold cz;rw[t,aa,if_pos (decide_eq_true hd0)];exact rt)];rfl
  ·obtain⟨q,qr⟩:=q2 hd0;rw[bV (ρ':=ρ) (by unfold cz;rw[t,aa,if_neg (by rw[decide_eq_false hd0];exact pK)];rfl)];have w1:aL (bh false) (aL aj (aB 9) (fC (.int 1))) (fC (.int 0)) ρ = .ok (.fr (.bl true)):=aM i1 (c _) (by rw[q];rfl)
   have w2:aO (c7 law_right_F) 4 (aA (aL aj (aB 9) (fC (.int 0))) (aA (aB 1) (aA (aB 2) (aA (aB 4) aJ)))) ρ = .ok (.fr (.bl true)):=
    bF (ws:=[.fr u,.fr (.lst (hs.map hD)),.fr (.lst (bA es 0)),.fr (.lst (ns.map D.str))]) (aZ i0 (by rw[<-hρ];rfl)) rfl (dG qr) (.inl rfl)
   unfold az;rw[iy w1 (fun _=>w2)];rfl
 cases X with
 | inr m=>
  have e:law_read_F aC [.str (Txt.join "\n" (cL++R))] = .ok (.tup [.non,.int ((4:Int)+m+1)]):=by
   show (match jU aC (Txt.join "\n" (cL++R)) with | .ok d=>Rz.ok (D.tup [d,.int 0]) | .un n=>.ok (.tup [.non,.int n]) | .st=>.st)=_;rw[er];rfl
  refine last _ _ e (fun _=>?_) fun z=>(z ?_).elim
  ·show (4:Int)+m+1=4+((m:Int)+1);omega
  ·show (0:Int)<(m:Int)+1;omega
 | inl x=>
  obtain⟨r,ks⟩:=x
  by_cases w:(decide (0<r)&&(dY hs (ou (rep n))).kd (r-1) == "plain")=true
  ·have e:law_read_F aC [.str (Txt.join "\n" (cL++R))] = .ok (.tup [mZ ((dY hs (ou (rep n))).rs r) (ks.map fun k:Nat=>bZ (k:Int)),.int 0]):=by
    show (match jU aC (Txt.join "\n" (cL++R)) with | .ok d=>Rz.ok (D.tup [d,.int 0]) | .un n=>.ok (.tup [.non,.int n]) | .st=>.st)=_;rw[er];show (match (if (decide (0<r)&&(dY hs (ou (rep n))).kd (r-1) == "plain")=true then Rr.ok (mZ ((dY hs (ou (rep n))).rs r) (ks.map fun k:Nat=>bZ (k:Int))) else .un (((4+es.length:Nat):Int)+1)) with | .ok d=>Rz.ok (D.tup [d,.int 0]) | .un n=>.ok (.tup [.non,.int n]) | .st=>.st)=_;rw[if_pos w]
   have d0:Av (dY hs (ou (rep n))) es.length (.inl (r,ks))=0:=by
    show (if (decide (0<r)&&(dY hs (ou (rep n))).kd (r-1) == "plain")=true then (0:Int) else (es.length:Int)+1)=_;rw[if_pos w]
   refine last _ _ e (fun z=>by rw[d0]at z;exact absurd z (by decide)) fun _=>⟨rfl,?_⟩;have r1:=(vX es 0 [] r ks hf hrun).2;have r2:=uP es 0 [] r ks hrun;rw[r1,r2,qG0,Nat.zero_add,List.nil_append,<-XN n,hns];exact UW nl (by omega) (by omega)
  ·have e:law_read_F aC [.str (Txt.join "\n" (cL++R))] = .ok (.tup [.non,.int (((4+es.length:Nat):Int)+1)]):=by
    show (match jU aC (Txt.join "\n" (cL++R)) with | .ok d=>Rz.ok (D.tup [d,.int 0]) | .un n=>.ok (.tup [.non,.int n]) | .st=>.st)=_;rw[er];show (match (if (decide (0<r)&&(dY hs (ou (rep n))).kd (r-1) == "plain")=true then Rr.ok (mZ ((dY hs (ou (rep n))).rs r) (ks.map fun k:Nat=>bZ (k:Int))) else .un (((4+es.length:Nat):Int)+1)) with | .ok d=>Rz.ok (D.tup [d,.int 0]) | .un n=>.ok (.tup [.non,.int n]) | .st=>.st)=_;rw[if_neg w]
   have d0:Av (dY hs (ou (rep n))) es.length (.inl (r,ks))=(es.length:Int)+1:=by
    show (if (decide (0<r)&&(dY hs (ou (rep n))).kd (r-1) == "plain")=true then (0:Int) else (es.length:Int)+1)=_;rw[if_neg w]
   refine last _ _ e (fun _=>?_) fun z=>(z ?_).elim
   ·rw[d0];omega
   ·rw[d0];omega
noncomputable def dX(m:Nat):Bool:=rep m != m||((List.range 51).all (Yt m)&&decide ((List.range 51).map (ou m)).Nodup)
noncomputable def dZ(j:Nat):Bool:=dX (3*j)&&(dX (3*j+1)&&dX (3*j+2))
theorem cm0:dZ 0=true:=by kernel_rfl
theorem cm1:dZ 1=true:=by kernel_rfl
theorem cm2:dZ 2=true:=by kernel_rfl
theorem cm3:dZ 3=true:=by kernel_rfl
theorem cm4:dZ 4=true:=by kernel_rfl
theorem cm5:dZ 5=true:=by kernel_rfl
theorem cm6:dZ 6=true:=by kernel_rfl
theorem cm7:dZ 7=true:=by kernel_rfl
theorem cm8:dZ 8=true:=by kernel_rfl
theorem cm9:dZ 9=true:=by kernel_rfl
theorem qG9:dZ 10=true:=by kernel_rfl
theorem qG8:dZ 11=true:=by kernel_rfl
theorem qG7:dZ 12=true:=by kernel_rfl
theorem qG6:dZ 13=true:=by kernel_rfl
theorem qG5:dZ 14=true:=by kernel_rfl
theorem qG4:dZ 15=true:=by kernel_rfl
theorem qBZ:chk=true:=by
 have e:chk=(List.range 16).all dZ:=by
  show (dX 0&&(dX 1&&(dX 2&&(dX 3&&(dX 4&&(dX 5&&(dX 6&&(dX 7&&(dX 8&&(dX 9&&(dX 10&&(dX 11&&(dX 12&&(dX 13&&(dX 14&&(dX 15&&(dX 16&&(dX 17&&(dX 18&&(dX 19&&(dX 20&&(dX 21&&(dX 22&&(dX 23&&(dX 24&&(dX 25&&(dX 26&&(dX 27&&(dX 28&&(dX 29&&(dX 30&&(dX 31&&(dX 32&&(dX 33&&(dX 34&&(dX 35&&(dX 36&&(dX 37&&(dX 38&&(dX 39&&(dX 40&&(dX 41&&(dX 42&&(dX 43&&(dX 44&&(dX 45&&(dX 46&&(dX 47&&true))))))))))))))))))))))))))))))))))))))))))))))))=(dZ 0&&(dZ 1&&(dZ 2&&(dZ 3&&(dZ 4&&(dZ 5&&(dZ 6&&(dZ 7&&(dZ 8&&(dZ 9&&(dZ 10&&(dZ 11&&(dZ 12&&(dZ 13&&(dZ 14&&(dZ 15&&true))))))))))))))));simp only[dZ,Bool.and_assoc]
 rw[e];show (dZ 0&&(dZ 1&&(dZ 2&&(dZ 3&&(dZ 4&&(dZ 5&&(dZ 6&&(dZ 7&&(dZ 8&&(dZ 9&&(dZ 10&&(dZ 11&&(dZ 12&&(dZ 13&&(dZ 14&&(dZ 15&&true))))))))))))))))=true;rw[cm0,cm1,cm2,cm3,cm4,cm5,cm6,cm7,cm8,cm9,qG9,qG8,qG7,qG6,qG5,qG4];rfl
end zz
namespace L2
open PySem
theorem bc.cx{P:Program}{w:World}{K:cZ}{mg:Str->Option Value}{base:Heap}{CX:Ji}{k:Nat}{f:Addr}{fd:FuncData}{ps:List Str}{sp:Sp}(F:bc P w K mg base dw k f fd ps sp):bc P w K mg base CX k f fd ps sp:=
 ⟨F.len,fun A outer s H args us vs Q E r e b v h=>codeAny_mono (F.run A outer s H args us vs Q E r e b v h) fun res s' z=>by
  cases res with
  | error e=>exact z.elim
  | ok f=>cases f <;> exact z⟩
end L2
namespace DL
open PySem L2
noncomputable def U8(K:cZ):Sp:=fun vs H Q _ => ∃(a:Addr)(ns:List Int),vs=[.ref a]/\jk K H a (ns.map V.int)/\ns.length<=63/\∀ H',Q (.bl true) H'
theorem law_sp{K:cZ}{C:Addr}{F:List D->Rz D}(hF:∀ s:List Int,s.length<=sizeLine->F [.d8 s] = .ok (.bl true))(vs:List V)(H:Hp)(Q:VK)(E:XK)(h:U8 K vs H Q E):dB K C F 1 vs H Q E:=by
 obtain⟨a,ns,rfl,sq,hl,q⟩:=h;refine⟨rfl,H,[.d8 ns],fun _ _ z=>z,⟨_,[],rfl,⟨a,rfl,sq⟩,rfl⟩,?_⟩;rw[hF ns (Nat.le_trans hl (by rw[sizeLine_eq];decide))];intro v B' H' _ _ _ _ r
 cases (show v=V.bl true from r)
 exact q H'
theorem Jl:∀ xs:List (Str×Nat),Vals (xs.map fun x=>V.str x.1) (xs.map fun x=>Value.str x.1 x.2)
 | []=>.nil
 | x::xs=>.cons ⟨x.2,rfl⟩ (Jl xs)
theorem Pz{K:cZ}{B:Hp}:∀ xs:List (Str×Nat),fL K B (xs.map fun x=>D.str x.1) (xs.map fun x=>V.str x.1)
 | []=>rfl
 | x::xs=>⟨_,_,rfl,rfl,Pz xs⟩
theorem jT{K:cZ}{a:Addr}(xs:List (Str×Nat)){n:Nat}(h:K.lookup a=some ⟨.type "tuple",none,.seq (xs.map fun x=>Value.str x.1 x.2).toArray n,#[]⟩)(hl:xs.length<=1000)(B:Hp):Rp K B (.tup (xs.map fun x=>D.str x.1)) (.ref a):=
 ⟨a,xs.map fun x=>V.str x.1,rfl,.inr ⟨_,_,_,h,rfl,rfl,by rw[wk,jH,sizeLine_eq];exact Nat.le_trans hl (by decide),Jl xs⟩,Pz xs⟩
noncomputable def dE(P:Params)(x:Str×Nat×Addr):DictEntry:=⟨PyData.keyHash P x.1,.str x.1 x.2.1,.ref x.2.2⟩
theorem Zd:∀ xs:List (Str×Nat×Addr),KV ((xs.map fun x=>(x.1,V.ref x.2.2)).map kyS) (xs.map fun x=>((Sum.inr x.1:Key),Value.ref x.2.2))
 | []=>.nil
 | x::xs=>.cons ⟨rfl,rfl⟩ (Zd xs)
theorem Jz{P:Program}{w:World}:∀ xs:List (Str×Nat×Addr),Pairs (qW P w) (xs.map (dE w.params)) (xs.map fun x=>((Sum.inr x.1:Key),Value.ref x.2.2))
 | []=>.nil
 | x::xs=>.cons (show (x.1==x.1)=true from beq_self_eq_true _) rfl (Jz xs)
theorem qF5{P:Program}{w:World}{K:cZ}{a:Addr}(xs:List (Str×Nat×Addr)){ep:Nat}(h:K.lookup a=some ⟨.type "dict",none,.dict (xs.map (dE w.params)).toArray ep,#[]⟩)(nd:(xs.map (·.1)).Nodup):KD P w K a (xs.map fun x=>(x.1,V.ref x.2.2)):=fun hp X=>
 ⟨xs.map fun x=>((Sum.inr x.1:Key),Value.ref x.2.2),Zd xs,_,_,_,X _ _ h,⟨rfl,rfl,rfl⟩,rfl,fun e he=>by
  obtain⟨x,_,rfl⟩:=Qo.mp (List.mem_toArray.mp he)
  exact⟨Sum.inr x.1,show (x.1==x.1)=true from beq_self_eq_true _,rfl⟩,Jz xs,by
  rw[List.map_map]
  have e:(xs.map ((fun y:Key×Value=>y.1) ∘ fun x:Str×Nat×Addr=>((Sum.inr x.1:Key),Value.ref x.2.2)))=(xs.map (·.1)).map Sum.inr:=by
   rw[List.map_map];rfl
  rw[e]
  exact List.Pairwise.map Sum.inr (fun _ _ h z=>h (Sum.inr.inj z)) nd⟩
end DL
namespace L2
open PySem
theorem t8.mono{j k:Nat}{A:Around}(r:t8 k A)(h:j<=k):t8 j A:=⟨by have:=r.dp;omega,by have:=r.un;omega⟩
theorem Dy.mono{P:Program}{w:World}{K:cZ}{mg:Str->Option Value}{base:Heap}{j k:Nat}{f:Addr}{fd:FuncData}{ps:List Str}{sp:Sp}(F:Dy P w K mg base j f fd ps sp)(h:j<=k):Dy P w K mg base k f fd ps sp:=
 ⟨F.len,fun A outer s H args us vs Q r=>F.run A outer s H args us vs Q (r.mono h)⟩
end L2
namespace zz
open PySem L2 Zv DL
theorem Q0(P:Params):∀ B,Rp (KO P) B (.tup [.str "plain",.str "one",.str "all"]) (.ref 45):=jT (n:=0) [("plain",235),("one",236),("all",237)] (by kernel_rfl) (by decide)
theorem Uc(P:Params):∀ B,Rp (KO P) B (.tup [.str "inner",.str "outer"]) (.ref 44):=jT (n:=0) [("inner",232),("outer",233)] (by kernel_rfl) (by decide)
noncomputable def kB:List (Str×Nat×Addr):=[("",450,188),("order",452,189),("letters",454,190),("turns",456,191),("box",460,192),("event",464,193),("room",467,194),("in",472,195),("out",477,196),("door",481,197),("when",485,198),("do",488,199)]
theorem qFT(w:World):KD PW w (KO w.params) 187 (kB.map fun x=>(x.1,V.ref x.2.2)):=qF5 (ep:=12) kB (by kernel_rfl) (by decide +kernel)
theorem qFR(P:Params):∀ B,Qk (KO P) B eZ (kB.map fun x=>(x.1,V.ref x.2.2)):=fun B=>⟨_,_,rfl,jT (n:=0) [("order",451)] (by kernel_rfl) (by decide) B,⟨_,_,rfl,jT (n:=0) [("letters",453)] (by kernel_rfl) (by decide) B,⟨_,_,rfl,jT (n:=0) [("turns",455)] (by kernel_rfl) (by decide) B,⟨_,_,rfl,jT (n:=0) [("box",457),("event",458),("room",459)] (by kernel_rfl) (by decide) B,⟨_,_,rfl,jT (n:=0) [("box",461),("event",462),("room",463)] (by kernel_rfl) (by decide) B,⟨_,_,rfl,jT (n:=0) [("event",465),("room",466)] (by kernel_rfl) (by decide) B,⟨_,_,rfl,jT (n:=0) [("in",468),("out",469),("room",470),("door",471)] (by kernel_rfl) (by decide) B,⟨_,_,rfl,jT (n:=0) [("in",473),("out",474),("room",475),("door",476)] (by kernel_rfl) (by decide) B,⟨_,_,rfl,jT (n:=0) [("out",478),("room",479),("door",480)] (by kernel_rfl) (by decide) B,⟨_,_,rfl,jT (n:=0) [("when",482),("do",483),("door",484)] (by kernel_rfl) (by decide) B,⟨_,_,rfl,jT (n:=0) [("do",486),("door",487)] (by kernel_rfl) (by decide) B,⟨_,_,rfl,jT (n:=0) [("do",489),("door",490)] (by kernel_rfl) (by decide) B,rfl⟩⟩⟩⟩⟩⟩⟩⟩⟩⟩⟩⟩
theorem jF(P:Params):FQ (KO P) 160:=show PySem.W.excIn (KO P) 160 VB "ValueError.__new__" = true by kernel_rfl
theorem Gf(P:Params):su (KO P) 179 176=true:=by kernel_rfl
theorem Ge(P:Params):Jd (KO P) 179 "row" := ⟨by kernel_rfl,by kernel_rfl,by kernel_rfl,by kernel_rfl⟩
theorem S8(P:Params):Wh (KO P) 179:=⟨by kernel_rfl,by kernel_rfl,by kernel_rfl,by kernel_rfl,by kernel_rfl,by kernel_rfl⟩
set_option maxHeartbeats 0 in
theorem law_ok{w:World}{mg:Str->Option Value}{h base:Heap}(X:(KO w.params).In h)(G:h.Ns mainGlobals mg):bc PW w (KO w.params) mg base dw 10 453 YT ["_law_script"] (U8 (KO w.params)):=by
 have ap {CX:Ji} {k:Nat} {f:Addr} {fd:FuncData} {ps:List Str} {sp:Sp} (h:bc PW w (KO w.params) mg base CX k f fd ps sp):=h;have mo {x:Str} {a:Addr} (h:NS x a):=PySem.W.mg_of X G (h w.params);have mz {x:Str} (h:NZ x):=PySem.W.mg_none_of X G (h w.params);have F1:=u1 w.params;have b1:=F1.binds (ps:=["number","things"]) fun _ _ _ _ _ _=>pU fun _ _=>rfl;have m1:=mo a1;have k1:=F1.kp;have F2:=u2 w.params;have b2:=F2.binds (ps:=["number"]) fun _ _ _ _ _ _=>qZ fun _=>rfl;have m2:=mo a2;have k2:=F2.kp;have F3:=u3 w.params;have b3:=F3.binds (ps:=["things"]) fun _ _ _ _ _ _=>qZ fun _=>rfl;have m3:=mo a3;have k3:=F3.kp;have F4:=u4 w.params;have b4:=F4.binds (ps:=["text"]) fun _ _ _ _ _ _=>qZ fun _=>rfl;have m4:=mo a4;have k4:=F4.kp;have F5:=u5 w.params;have b5:=F5.binds (ps:=["name","ahead"]) fun _ _ _ _ _ _=>pU fun _ _=>rfl;have m5:=mo a5;have k5:=F5.kp;have F6:=u6 w.params;have b6:=F6.binds (ps:=["depth","ahead"]) fun _ _ _ _ _ _=>pU fun _ _=>rfl;have m6:=mo a6;have k6:=F6.kp;have F7:=u7 w.params;have b7:=F7.binds (ps:=["keeps","kind"]) fun _ _ _ _ _ _=>pU fun _ _=>rfl;have m7:=mo a7;have k7:=F7.kp;have F8:=u8 w.params;have b8:=F8.binds (ps:=["room","behind"]) fun _ _ _ _ _ _=>pU fun _ _=>rfl;have m8:=mo a8;have k8:=F8.kp;have F9:=u9 w.params;have b9:=F9.binds (ps:=["deed","boxes","events"]) fun _ _ _ _ _ _=>RT fun _ _ _=>rfl;have m9:=mo a9;have k9:=F9.kp;have F10:=u10 w.params;have b10:=F10.binds (ps:=["deeds","boxes","events"]) fun _ _ _ _ _ _=>RT fun _ _ _=>rfl;have m10:=mo a10;have k10:=F10.kp;have F11:=u11 w.params;have b11:=F11.binds (ps:=["room","ahead","boxes","events"]) fun _ _ _ _ _ _=>qBE fun _ _ _ _=>rfl;have m11:=mo a11;have k11:=F11.kp;have F12:=u12 w.params;have b12:=F12.binds (ps:=["way","goal","rooms"]) fun _ _ _ _ _ _=>RT fun _ _ _=>rfl;have m12:=mo a12;have k12:=F12.kp;have F13:=u13 w.params;have b13:=F13.binds (ps:=["guard"]) fun _ _ _ _ _ _=>qZ fun _=>rfl;have m13:=mo a13;have k13:=F13.kp;have F14:=u14 w.params;have b14:=F14.binds (ps:=["guard"]) fun _ _ _ _ _ _=>qZ fun _=>rfl;have m14:=mo a14;have k14:=F14.kp;have F15:=u15 w.params;have b15:=F15.binds (ps:=["guard"]) fun _ _ _ _ _ _=>qZ fun _=>rfl;have m15:=mo a15;have k15:=F15.kp;have F16:=u16 w.params;have b16:=F16.binds (ps:=["guard"]) fun _ _ _ _ _ _=>qZ fun _=>rfl;have m16:=mo a16;have k16:=F16.kp;have F17:=u17 w.params;have b17:=F17.binds (ps:=["guard","boxes","rooms"]) fun _ _ _ _ _ _=>RT fun _ _ _=>rfl;have m17:=mo a17;have k17:=F17.kp;have F18:=u18 w.params;have b18:=F18.binds (ps:=["door","boxes","events","rooms"]) fun _ _ _ _ _ _=>qBE fun _ _ _ _=>rfl;have m18:=mo a18;have k18:=F18.kp;have F19:=u19 w.params;have Yx:=F19.binds (ps:=["fits"]) fun _ _ _ _ _ _=>qZ fun _=>rfl;have Xq:=mo a19;have Y8:=F19.kp;have F20:=u20 w.params;have b20:=F20.binds (ps:=["text"]) fun _ _ _ _ _ _=>qZ fun _=>rfl;have m20:=mo a20;have k20:=F20.kp;have F21:=u21 w.params;have b21:=F21.binds (ps:=["text"]) fun _ _ _ _ _ _=>qZ fun _=>rfl;have m21:=mo a21;have k21:=F21.kp;have F22:=u22 w.params;have b22:=F22.binds (ps:=["kind","words"]) fun _ _ _ _ _ _=>pU fun _ _=>rfl;have m22:=mo a22;have k22:=F22.kp;have F23:=u23 w.params;have b23:=F23.binds (ps:=["words","mark"]) fun _ _ _ _ _ _=>pU fun _ _=>rfl;have m23:=mo a23;have k23:=F23.kp;have F24:=u24 w.params;have b24:=F24.binds (ps:=["row"]) fun _ _ _ _ _ _=>qZ fun _=>rfl;have m24:=mo a24;have k24:=F24.kp;have F25:=u25 w.params;have b25:=F25.binds (ps:=["row"]) fun _ _ _ _ _ _=>qZ fun _=>rfl;have m25:=mo a25;have k25:=F25.kp;have F26:=u26 w.params;have b26:=F26.binds (ps:=["name","names"]) fun _ _ _ _ _ _=>pU fun _ _=>rfl;have m26:=mo a26;have k26:=F26.kp;have F27:=u27 w.params;have b27:=F27.binds (ps:=["words","ahead"]) fun _ _ _ _ _ _=>pU fun _ _=>rfl;have m27:=mo a27;have k27:=F27.kp;have F28:=u28 w.params;have b28:=F28.binds (ps:=["row","draft"]) fun _ _ _ _ _ _=>pU fun _ _=>rfl;have m28:=mo a28;have k28:=F28.kp;have F29:=u29 w.params;have b29:=F29.binds (ps:=["words","draft"]) fun _ _ _ _ _ _=>pU fun _ _=>rfl;have m29:=mo a29;have k29:=F29.kp;have F30:=u30 w.params;have b30:=F30.binds (ps:=["text"]) fun _ _ _ _ _ _=>qZ fun _=>rfl;have m30:=mo a30;have k30:=F30.kp;have F31:=u31 w.params;have b31:=F31.binds (ps:=["_law_text"]) fun _ _ _ _ _ _=>qZ fun _=>rfl;have m31:=mo a31;have k31:=F31.kp;have F32:=u32 w.params;have b32:=F32.binds (ps:=["_law_script","_law_k"]) fun _ _ _ _ _ _=>pU fun _ _=>rfl;have m32:=mo a32;have k32:=F32.kp;have F33:=u33 w.params;have b33:=F33.binds (ps:=["_law_script","_law_k","_law_salt"]) fun _ _ _ _ _ _=>RT fun _ _ _=>rfl;have m33:=mo a33;have k33:=F33.kp;have F34:=u34 w.params;have b34:=F34.binds (ps:=["_law_k","_law_number"]) fun _ _ _ _ _ _=>pU fun _ _=>rfl;have m34:=mo a34;have k34:=F34.kp;have F35:=u35 w.params;have b35:=F35.binds (ps:=["_law_number","_law_ahead"]) fun _ _ _ _ _ _=>pU fun _ _=>rfl;have m35:=mo a35;have k35:=F35.kp;have F36:=u36 w.params;have b36:=F36.binds (ps:=["_law_halls_here","_law_k"]) fun _ _ _ _ _ _=>pU fun _ _=>rfl;have m36:=mo a36;have k36:=F36.kp;have F37:=u37 w.params;have b37:=F37.binds (ps:=["_law_halls_here","_law_entries_here"]) fun _ _ _ _ _ _=>pU fun _ _=>rfl;have m37:=mo a37;have k37:=F37.kp;have F38:=u38 w.params;have b38:=F38.binds (ps:=["_law_script"]) fun _ _ _ _ _ _=>qZ fun _=>rfl;have m38:=mo a38;have k38:=F38.kp;have F39:=u39 w.params;have b39:=F39.binds (ps:=["_law_script","_law_halls_here"]) fun _ _ _ _ _ _=>pU fun _ _=>rfl;have m39:=mo a39;have k39:=F39.kp;have F40:=u40 w.params;have b40:=F40.binds (ps:=["_law_found","_law_halls_here","_law_entries_here","_law_names"]) fun _ _ _ _ _ _=>qBE fun _ _ _ _=>rfl;have m40:=mo a40;have k40:=F40.kp;have F41:=u41 w.params;have qA1:=qCB w.params;have qEZ:=qA1.binds (ps:=["self"]) fun _ _ _ _ _ _=>qZ fun _=>rfl;have qGC:Mk (KO w.params) 371 340:=⟨(qD6 w.params).1,qF3 w.params,qDO w.params,(qD6 w.params).2⟩;have Wg:=qCA w.params;have qEY:=Wg.binds (ps:=["self","row"]) fun _ _ _ _ _ _=>pU fun _ _=>rfl;have qDD:Meth (KO w.params) 371 "add" 347:=⟨qF2 w.params,qDN w.params,Wg.kp⟩;have Wf:=qC9 w.params;have Zr:=Wf.binds (ps:=["self"]) fun _ _ _ _ _ _=>qZ fun _=>rfl;have Zc:Meth (KO w.params) 371 "may_end" 361:=⟨qF1 w.params,qDM w.params,Wf.kp⟩;have We:=qC8 w.params;have qEX:=We.binds (ps:=["self"]) fun _ _ _ _ _ _=>qZ fun _=>rfl;have qDC:Meth (KO w.params) 371 "whole" 368:=⟨qF0 w.params,qDL w.params,We.kp⟩;have qA0:=qC7 w.params;have qEW:=qA0.binds (ps:=["self","row"]) fun _ _ _ _ _ _=>pU fun _ _=>rfl;have FJ:=FJ w.params;have mC0:=mo aC0;have tR:=tR w.params;have nA:=nA w.params;have jx:=jx w.params;have gk:=gk w.params;have gj:=gj w.params;have jw:=jw w.params;have mC1:=mo aC1;have mC2:=mo aC2;have mC3:=mo aC3;have V2:=mz z1;have qD5:=mz z2;have qB7:=mz z3;have KN:=mz z4;have qD4:=mz z5;have w5:=mz z6;have gm:=mz z7;have QH:=mz z8;have vz:=mz z9;have qD3:=mz z10;have V1:=mz z11;have QG:=mz z12;have O3:=PySem.W.mg_of X G (v1 w.params);have Rm:=PySem.W.mg_of X G (v2 w.params);have Aq:=PySem.W.mg_of X G (v3 w.params);have Rt:=PySem.W.mg_of X G (v4 w.params);have Iu:=PySem.W.mg_of X G (v5 w.params);have QS:=mo v6;have Rn:=PySem.W.mg_of X G (v7 w.params);have Ro:=PySem.W.mg_of X G (v8 w.params);have DP:=PySem.W.mg_of X G (v9 w.params);have Io:=PySem.W.mg_of X G (v10 w.params);have VV:=mo v11;have Em:=PySem.W.mg_of X G (v12 w.params);have Ip:=PySem.W.mg_of X G (v13 w.params);have Ir:=PySem.W.mg_of X G (v14 w.params);have Va:=mo v15;have Zy:=qAZ (P:=PW) (w:=w) (base:=base) (mg:=mg) qA0 (Gf w.params) (Ge w.params) mC3 (fE1 w.params) (fE2 w.params) (fE3 w.params);have G1:=ap (Aj (n:=0) (C:=160) F1 gm);have G2:=ap (CW (n:=0) (C:=160) F2 O3 ⟨_,rfl⟩);have G3:=ap (K5 (n:=0) (C:=160) F3);have G4:=ap (Nh (n:=0) (C:=160) F4 V2 gm Rm ⟨_,rfl⟩ Aq ⟨_,rfl⟩);have G5:=ap (vm (n:=1) (C:=160) F5 ⟨G4,b4,k4,m4⟩);have G6:=ap (uX (n:=0) (C:=160) F6 gm Rt ⟨_,rfl⟩);have G7:=ap (uV (n:=0) (C:=160) F7);have G8:=ap (xW (n:=0) (C:=160) F8 gm);have G9:=ap (vq (n:=1) (C:=160) F9 ⟨G4,b4,k4,m4⟩ ⟨G1,b1,k1,m1⟩ ⟨G2,b2,k2,m2⟩);have G10:=ap (uE (n:=2) (C:=160) F10 ⟨G9,b9,k9,m9⟩ qD5 gm Iu ⟨_,rfl⟩);have G11:=ap (vh (n:=3) (C:=160) F11 ⟨(G3.mono (show 1<=3 by decide)),b3,k3,m3⟩ ⟨(G5.mono (show 2<=3 by decide)),b5,k5,m5⟩ ⟨(G6.mono (show 1<=3 by decide)),b6,k6,m6⟩ ⟨(G7.mono (show 1<=3 by decide)),b7,k7,m7⟩ ⟨(G4.mono (show 1<=3 by decide)),b4,k4,m4⟩ ⟨G10,b10,k10,m10⟩ QS rfl (Q0 w.params));have G12:=ap (vo (n:=1) (C:=160) F12 ⟨G1,b1,k1,m1⟩);have G13:=ap (xV (n:=0) (C:=160) F13);have G14:=ap (RG (n:=1) (C:=160) F14 ⟨G13,b13,k13,m13⟩ ⟨NT,b14,k14,m14⟩ QH);have G15:=ap (Ah (n:=1) (C:=160) F15 ⟨G13,b13,k13,m13⟩ gm);have G16:=ap (Uw (n:=2) (C:=160) F16 ⟨G15,b15,k15,m15⟩ V1 qD3);have G17:=ap (uW (n:=3) (C:=160) F17 ⟨(G14.mono (show 2<=3 by decide)),b14,k14,m14⟩ ⟨G16,b16,k16,m16⟩ ⟨(G1.mono (show 1<=3 by decide)),b1,k1,m1⟩ ⟨(G15.mono (show 2<=3 by decide)),b15,k15,m15⟩ ⟨(G2.mono (show 1<=3 by decide)),b2,k2,m2⟩ V2 Rn ⟨_,rfl⟩);have GH:=G17.imp fun _ _ _ _=>YF;have G18:=ap (vp (n:=4) (C:=160) F18 ⟨(G1.mono (show 1<=4 by decide)),b1,k1,m1⟩ ⟨GH,b17,k17,m17⟩ ⟨(G10.mono (show 3<=4 by decide)),b10,k10,m10⟩ ⟨(G12.mono (show 2<=4 by decide)),b12,k12,m12⟩);have Z6:=ap (Xi (n:=0) (C:=160) F19 mC2 (jF w.params));have G20:=ap (K4 (n:=1) (C:=160) F20 ⟨Z6,Yx,Y8,Xq⟩);have G21:=ap (CQ (n:=0) (C:=160) F21 mC2 (jF w.params) V2 Ro ⟨_,rfl⟩);have G22:=ap (Ho (n:=1) (C:=160) F22 ⟨Z6,Yx,Y8,Xq⟩ ⟨G21,b21,k21,m21⟩ gm DP ⟨_,rfl⟩ Io ⟨_,rfl⟩ VV rfl (Uc w.params));have G23:=ap (RC (n:=1) (C:=160) F23 ⟨Z6,Yx,Y8,Xq⟩ gm);have G24:=ap (Ag (n:=2) (C:=160) F24 ⟨G20,b20,k20,m20⟩ ⟨G23,b23,k23,m23⟩ ⟨(Z6.mono (show 1<=2 by decide)),Yx,Y8,Xq⟩ gm);have G25:=ap (Ng (n:=0) (C:=160) F25 QS rfl (Q0 w.params));have G26:=ap (Ai (n:=1) (C:=160) F26 ⟨Z6,Yx,Y8,Xq⟩);have G27:=ap (Eh (n:=2) (C:=160) F27 ⟨(Z6.mono (show 1<=2 by decide)),Yx,Y8,Xq⟩ ⟨G5,b5,k5,m5⟩ gm Em ⟨_,rfl⟩);have Zz:=ap (Nb (n:=1) (C:=160) Wf ⟨G8,b8,k8,m8⟩ FJ gj gm);have G28:=ap (Hi (n:=4) (C:=160) F28 ⟨(G24.mono (show 3<=4 by decide)),b24,k24,m24⟩ ⟨G11,b11,k11,m11⟩ ⟨(Z6.mono (show 1<=4 by decide)),Yx,Y8,Xq⟩ ⟨(G8.mono (show 1<=4 by decide)),b8,k8,m8⟩ FJ jx gk gj gm Ip ⟨_,rfl⟩);have G29:=ap (Hq (n:=5) (C:=160) F29 (Zz.mono (show 2<=5 by decide)) Zr Zc ⟨(Z6.mono (show 1<=5 by decide)),Yx,Y8,Xq⟩ ⟨(G3.mono (show 1<=5 by decide)),b3,k3,m3⟩ ⟨(G26.mono (show 2<=5 by decide)),b26,k26,m26⟩ ⟨G18,b18,k18,m18⟩ FJ jx jw gk gj gm Ir ⟨_,rfl⟩);have qF8:=ap (Uv (n:=0) (C:=160) We FJ jx jw gk nA gj QG);have qFA:=ap (RD (n:=0) (C:=160) qA1 FJ jx jw gk nA tR gj);have qF9:=ap (qB1 (n:=6) (C:=160) Wg ⟨(G25.mono (show 1<=6 by decide)),b25,k25,m25⟩ ⟨(Z6.mono (show 1<=6 by decide)),Yx,Y8,Xq⟩ ⟨(G28.mono (show 5<=6 by decide)),b28,k28,m28⟩ ⟨(G20.mono (show 2<=6 by decide)),b20,k20,m20⟩ ⟨G29,b29,k29,m29⟩ ⟨(G27.mono (show 3<=6 by decide)),b27,k27,m27⟩ ⟨(G22.mono (show 2<=6 by decide)),b22,k22,m22⟩ FJ jw gk nA tR gj Va (qFT w) (qFR w.params));have G30:=ap (Xh (n:=6) (C:=160) F30 (qFA.mono (show 1<=6 by decide)) qEZ qGC mC0 qF9 qEY qDD (Zz.mono (show 2<=7 by decide)) Zr Zc (qF8.mono (show 1<=7 by decide)) qEX qDC FJ gm KN mC2 (jF w.params) (O9 w.params) mC1 (Gf w.params) (S9 w.params) (Zy.1.cx.mono (show 1<=6 by decide)) (Zy.2.mono (show 1<=6 by decide)) qEW);have G31:=ap (K6 (n:=8) (C:=160) F31 ⟨G30,b30,k30,m30⟩ mC1 (S7 w.params) (S8 w.params) (Ge w.params));have G32:=ap (CV (n:=0) (C:=160) F32 gm);have G33:=ap (Hk (n:=1) (C:=160) F33 ⟨G32,b32,k32,m32⟩ gm QH);have G34:=ap (K7 (n:=0) (C:=160) F34 gm);have G35:=ap (Hn (n:=0) (C:=160) F35 gm QH);have G36:=ap (K8 (n:=0) (C:=160) F36);have G37:=ap (Nf (n:=1) (C:=160) F37 ⟨G36,b36,k36,m36⟩ gm vz);have G38:=ap (Hm (n:=2) (C:=160) F38 ⟨G33,b33,k33,m33⟩ ⟨(G35.mono (show 1<=2 by decide)),b35,k35,m35⟩ gm QH vz);have G39:=ap (CT (n:=2) (C:=160) F39 ⟨G33,b33,k33,m33⟩ gm vz);have G40:=ap (Hj (n:=0) (C:=160) F40 w5 gm vz QG);have G41:=ap (qB0 (n:=9) (C:=160) F41 ⟨(G38.mono (show 3<=9 by decide)),b38,k38,m38⟩ ⟨(G39.mono (show 3<=9 by decide)),b39,k39,m39⟩ ⟨(G33.mono (show 2<=9 by decide)),b33,k33,m33⟩ ⟨(G34.mono (show 1<=9 by decide)),b34,k34,m34⟩ ⟨(G37.mono (show 2<=9 by decide)),b37,k37,m37⟩ ⟨G31,b31,k31,m31⟩ ⟨(G40.mono (show 1<=9 by decide)),b40,k40,m40⟩ FJ qB7 qD4 w5 gm vz);exact G41.imp (law_sp fun s h=>law_is qBZ h)
theorem walk:PySem.W.WalkO QV LS (PySem.W.XL QV []) HK.says PySem.Challenge.rw_nesthall_k56_rooms_that_fit.row.toRowW Oq [] (fun f vs=>PySem.call f vs):=by
 refine L2.Ws (l:=PySem.Challenge.rw_nesthall_k56_rooms_that_fit) (n:=63) (k:=10) (x := "_law_script") (K:=KO) (CX:=fun _=>dw) (sp:=fun w=>U8 (KO w.params)) rfl (by decide) rfl ⟨rfl,by decide,by decide⟩ (fun w h Y=>Y) ?_ (fun _ _ a ns hl _ hS=>⟨a,ns,rfl,hS,hl,fun _=>rfl⟩) fun _ _ _ _ _ z=>z;intro w mg fa h KX G hmg;have e:=hmg.symm.trans (PySem.W.mg_of KX G (a41 w.params))
 cases e
 exact⟨YT,fun s v=>.of_eq rfl,fun base _ _=>law_ok KX G⟩
end zz
open PySem PySem.W PyProof.Rows
set_option maxRecDepth 100000 in
set_option maxHeartbeats 0 in
theorem PySem.Challenge.cw_nesthall_k56_rooms_that_fit_holds : PySem.Challenge.rw_nesthall_k56_rooms_that_fit.Holds := by
 refine holds_law zz.said fun said=>?_;refine PySem.W.holds_open (r:=PySem.Challenge.rw_nesthall_k56_rooms_that_fit.row) zz.left zz.HK.of zz.HK.keeps
  (fun s e=>xl_of s (Bool.and_eq_true_iff.mp e).1) XL.keeps zz.hdef zz.hthe zz.hkw
  (fun s e=>recFacts_of (Bool.and_eq_true_iff.mp e).2) rfl said zz.hok zz.hbare ?hw zz.walk
 case hw=>w_witness2
