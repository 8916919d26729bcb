import PyProof.Rows.All
import KE.KBits
import KE.KTryMore
import KE.KStateDown
import PySem.Challenge.RW_nesthall_k33_too_wide
set_option Elab.async false
set_option linter.all false
set_option maxRecDepth 100000
set_option maxHeartbeats 4000000
noncomputable section
abbrev bj:=PySem.W.Frag
abbrev ie:=@PySem.Heap.get?_push_of_some
abbrev gR:=@PySem.Heap.lt_size
abbrev uy:=@PySem.Heap.get?_push_size
abbrev Lp:=@List.getElem?_append_left
abbrev Tc:=@List.getElem?_append_right
abbrev Ed:=@List.mem_cons_self
abbrev Bd:=@List.mem_of_getElem?
abbrev Bc:=@Nat.lt_of_lt_of_le
abbrev lC:=@Nat.ne_of_lt
abbrev HN:=@List.mem_cons_of_mem
abbrev bh:=@PySem.boot_len
abbrev jl:=@PySem.F.plainAttrs_list
abbrev xm:=@PySem.F.slot_list_append
abbrev xj:=@PySem.F.type_list_append
abbrev lD:=@PyProof.Rows.boot_tuple
abbrev sI:=@PyProof.Rows.boot_isinstance
abbrev HR:=@Int.emod_nonneg
abbrev HQ:=@Int.emod_lt_of_pos
abbrev XX:=@List.getElem?_range
abbrev bZ:=@List.length_map
abbrev dX:=@List.getElem?_eq_getElem
abbrev dN:=@List.length_append
abbrev bD:=@Nat.le_refl
abbrev jM:=@List.getElem?_eq_some_iff
abbrev qN:=@List.size_toArray
abbrev pQ:=@Bool.false_ne_true
abbrev iM:=@Option.some.inj
abbrev jn:=@List.map_append
abbrev uz:=@List.take_of_length_le
abbrev bf:=@List.mem_singleton
abbrev v7:=@List.getD_eq_getElem?_getD
abbrev eO:=@List.length_cons
abbrev jc:=@List.length_take
abbrev jN:=@List.take_add_one
abbrev iG:=@List.length_singleton
abbrev bU:=@List.mem_cons
abbrev fY:=@List.append_nil
abbrev eG:=@List.mem_append
abbrev gU:=@List.mem_map
abbrev cG:=@List.getElem?_map
abbrev sJ:=@List.length_filter_le
abbrev ig:=@List.getElem_mem
abbrev mK:=@List.mem_filter
abbrev Og:=@Int.toNat_natCast
abbrev KI(K:PySem.W.Frag)(a:PySem.Addr):Prop:=PySem.W.keepIn K (.ref a)=true
namespace L2
open PySem
noncomputable def inClass(s:Stmt)(j:Nat):Stmt:=match s with
 | .ClassDef _ _ _ body _ _ _ _ _ _ _=>body.getD j (.Pass ⟨0,0,0,0⟩)
 | _=>.Pass ⟨0,0,0,0⟩
noncomputable def oY(s:Stmt):Arguments:=match s with
 | .FunctionDef _ a _ _ _ _ _ _ _ _=>a
 | _=>{ posonlyargs:=[],args:=[],vararg:=none,kwonlyargs:=[],kw_defaults:=[],kwarg:=none,defaults:=[] }
noncomputable def iU(s:Stmt):List Stmt:=match s with
 | .FunctionDef _ _ b _ _ _ _ _ _ _=>b
 | _=>[]
noncomputable def aC(s:Stmt):Scope:=match s with
 | .FunctionDef _ _ _ _ _ _ sc _ _ _=>sc
 | _=>{ kind:=.function,names:=[],isGenerator:=false,isCoroutine:=false }
end L2
namespace mC
open PySem L2
noncomputable def top(i:Nat):Stmt:=PySem.Challenge.pw_nesthall_k33_too_wide.main.body.getD i (.Pass ⟨0,0,0,0⟩)
abbrev ud:Stmt:=top 10
abbrev Bu:Stmt:=top 11
abbrev FJ:Stmt:=top 12
abbrev ue:Stmt:=top 13
abbrev oO:Stmt:=top 14
abbrev vY:Stmt:=top 16
abbrev K7:Stmt:=top 17
abbrev sIn:Stmt:=top 18
abbrev Pn:Stmt:=top 19
abbrev qe:Stmt:=top 23
abbrev oN:Stmt:=top 24
abbrev KC:Stmt:=top 25
abbrev mj:Stmt:=top 27
abbrev qg:Stmt:=top 29
abbrev jy:Stmt:=top 30
abbrev qd:Stmt:=top 31
abbrev qZ:Stmt:=top 32
abbrev vW:Stmt:=top 34
abbrev uf:Stmt:=top 35
abbrev qY:Stmt:=top 36
abbrev vX:Stmt:=top 37
abbrev iy:Stmt:=top 39
abbrev iw:Stmt:=top 40
abbrev gW:Stmt:=top 41
abbrev oK:Stmt:=top 42
abbrev mZ:Stmt:=top 43
abbrev eU:Stmt:=top 44
abbrev Bp:Stmt:=top 45
abbrev mY:Stmt:=top 47
abbrev qU:Stmt:=top 48
abbrev uc:Stmt:=top 49
abbrev vU:Stmt:=top 50
abbrev Bq:Stmt:=top 53
abbrev vV:Stmt:=top 54
abbrev KD:Stmt:=top 56
abbrev Bt:Stmt:=top 57
abbrev Br:Stmt:=top 58
abbrev eY:Stmt:=top 59
abbrev cQ:Stmt:=top 60
abbrev dZ:Stmt:=top 61
abbrev iW:Stmt:=top 62
abbrev lM:Stmt:=top 63
abbrev lL:Stmt:=top 64
abbrev lK:Stmt:=top 65
abbrev cj:Stmt:=top 66
abbrev jU:Stmt:=top 67
abbrev gP:Stmt:=top 68
abbrev oM:Stmt:=top 69
abbrev qW:Stmt:=top 70
abbrev uE:Stmt:=top 71
abbrev eX:Stmt:=inClass (top 4) 0
abbrev K8:Stmt:=inClass (top 21) 0
abbrev U4:Stmt:=inClass (top 21) 1
abbrev Bs:Stmt:=inClass (top 21) 2
abbrev qX:Stmt:=inClass (top 21) 3
abbrev iR:Stmt:=inClass (top 52) 0
abbrev eZ:Stmt:=inClass (top 52) 1
abbrev qAT:Str := "_law_near"
end mC
namespace xR
open PySem L2 mC
noncomputable def fM(x q:Str)(st:Stmt)(pm cd:Value):FuncData:=PySem.W.fnOf x q (oY st) (iU st) (aC st) .none .none .none pm none cd .none
noncomputable def fU(d:FuncData):Obj:=⟨.type "function",none,.func d,#[]⟩
noncomputable def fd1:FuncData:=fM "_law_cell_at" "_law_cell_at" KD (.str "law_nesthall_k33_too_wide" 771) (.ref 421)
noncomputable def fd2:FuncData:=fM "_law_mixed" "_law_mixed" Bt (.str "law_nesthall_k33_too_wide" 771) (.ref 428)
noncomputable def fd3:FuncData:=fM "holds" "holds" mj (.str "nesthall.guards" 530) (.ref 265)
noncomputable def fd4:FuncData:=fM "answers" "answers" qg (.str "nesthall.doors" 542) (.ref 272)
noncomputable def fd5:FuncData:=fM "end_of" "end_of" Bu (.str "nesthall.nesting" 355) (.ref 152)
noncomputable def fd6:FuncData:=fM "parent" "parent" ud (.str "nesthall.nesting" 355) (.ref 145)
noncomputable def fd7:FuncData:=fM "lies_in" "lies_in" ue (.str "nesthall.nesting" 355) (.ref 164)
noncomputable def fd8:FuncData:=fM "hall_over" "hall_over" oO (.str "nesthall.nesting" 355) (.ref 171)
noncomputable def fd9:FuncData:=fM "kids" "kids" FJ (.str "nesthall.nesting" 355) (.ref 157)
noncomputable def qDM:FuncData:=fM "bears_goal" "bears_goal" vY (.str "nesthall.goings" 402) (.ref 176)
noncomputable def qDL:FuncData:=fM "next_in" "next_in" K7 (.str "nesthall.goings" 402) (.ref 183)
noncomputable def qDK:FuncData:=fM "goings_in" "goings_in" sIn (.str "nesthall.goings" 402) (.ref 190)
noncomputable def qDJ:FuncData:=fM "goings_out" "goings_out" Pn (.str "nesthall.goings" 402) (.ref 195)
noncomputable def qDI:FuncData:=fM "plain_ones" "plain_ones" vW (.str "nesthall.stands" 581) (.ref 294)
noncomputable def qDH:FuncData:=fM "kept_of" "kept_of" uf (.str "nesthall.stands" 581) (.ref 301)
noncomputable def qDG:FuncData:=fM "keeping" "keeping" qY (.str "nesthall.stands" 581) (.ref 308)
noncomputable def qDF:FuncData:=fM "is_outdone" "is_outdone" jy (.str "nesthall.doors" 542) (.ref 277)
noncomputable def qDE:FuncData:=fM "chosen" "chosen" qd (.str "nesthall.doors" 542) (.ref 282)
noncomputable def qDD:FuncData:=fM "changed" "changed" qe (.str "nesthall.deeds" 493) (.ref 244)
noncomputable def qDC:FuncData:=fM "recorded" "recorded" oN (.str "nesthall.deeds" 493) (.ref 251)
noncomputable def qDB:FuncData:=fM "done" "done" KC (.str "nesthall.deeds" 493) (.ref 258)
noncomputable def qDA:FuncData:=fM "sizes_of" "sizes_of" iy (.str "nesthall.passing" 617) (.ref 318)
noncomputable def qD9:FuncData:=fM "rooms_left" "rooms_left" eU (.str "nesthall.passing" 617) (.ref 345)
noncomputable def qD8:FuncData:=fM "steps_in" "steps_in" iw (.str "nesthall.passing" 617) (.ref 323)
noncomputable def qD7:FuncData:=fM "steps_out" "steps_out" gW (.str "nesthall.passing" 617) (.ref 328)
noncomputable def qD6:FuncData:=fM "stepped" "stepped" oK (.str "nesthall.passing" 617) (.ref 335)
noncomputable def qD5:FuncData:=fM "goals_of" "goals_of" qZ (.str "nesthall.doors" 542) (.ref 289)
noncomputable def qD4:FuncData:=fM "passed" "passed" mZ (.str "nesthall.passing" 617) (.ref 340)
noncomputable def qD3:FuncData:=fM "turn" "turn" Bp (.str "nesthall.passing" 617) (.ref 352)
noncomputable def qD2:FuncData:=fM "rested" "rested" mY (.str "nesthall.runs" 679) (.ref 357)
noncomputable def qD1:FuncData:=fM "begun" "begun" qU (.str "nesthall.runs" 679) (.ref 362)
noncomputable def qD0:FuncData:=fM "after" "after" uc (.str "nesthall.runs" 679) (.ref 369)
noncomputable def qCZ:FuncData:=fM "said" "said" vU (.str "nesthall.runs" 679) (.ref 374)
noncomputable def qCY:FuncData:=fM "lamps" "lamps" vX (.str "nesthall.stands" 581) (.ref 313)
noncomputable def qCX:FuncData:=fM "move" "move" Bq (.str "nesthall.tables" 710) (.ref 409)
noncomputable def qCW:FuncData:=fM "flat" "flat" vV (.str "nesthall.tables" 710) (.ref 414)
noncomputable def qCV:FuncData:=fM "_law_small_deed" "_law_small_deed" eY (.str "law_nesthall_k33_too_wide" 771) (.ref 442)
noncomputable def qCU:FuncData:=fM "_law_small_deeds" "_law_small_deeds" cQ (.str "law_nesthall_k33_too_wide" 771) (.ref 447)
noncomputable def qCT:FuncData:=fM "_law_small_guard" "_law_small_guard" dZ (.str "law_nesthall_k33_too_wide" 771) (.ref 454)
noncomputable def qCS:FuncData:=fM "_law_clock" "_law_clock" iW (.str "law_nesthall_k33_too_wide" 771) (.ref 459)
noncomputable def qCR:FuncData:=fM "_law_whole" "_law_whole" Br (.str "law_nesthall_k33_too_wide" 771) (.ref 435)
noncomputable def qCQ:FuncData:=fM "_law_behind" "_law_behind" lM (.str "law_nesthall_k33_too_wide" 771) (.ref 466)
noncomputable def qCP:FuncData:=fM "_law_rising" "_law_rising" lL (.str "law_nesthall_k33_too_wide" 771) (.ref 473)
noncomputable def qCO:FuncData:=fM "_law_walked" "_law_walked" lK (.str "law_nesthall_k33_too_wide" 771) (.ref 480)
noncomputable def qCN:FuncData:=fM "_law_first_ways" "_law_first_ways" cj (.str "law_nesthall_k33_too_wide" 771) (.ref 485)
noncomputable def qCM:FuncData:=fM "_law_refused" "_law_refused" jU (.str "law_nesthall_k33_too_wide" 771) (.ref 492)
noncomputable def qCL:FuncData:=fM "_law_ways_told" "_law_ways_told" gP (.str "law_nesthall_k33_too_wide" 771) (.ref 499)
noncomputable def qCK:FuncData:=fM "_law_asked" "_law_asked" oM (.str "law_nesthall_k33_too_wide" 771) (.ref 506)
noncomputable def qCJ:FuncData:=fM "_law_long" "_law_long" qW (.str "law_nesthall_k33_too_wide" 771) (.ref 513)
noncomputable def Vg:FuncData:=fM "law" "law" uE (.str "law_nesthall_k33_too_wide" 771) (.ref 520)
noncomputable def Rg:FuncData:=fM "__init__" "Letters.__init__" K8 (.str "nesthall.letters" 439) (.ref 209)
noncomputable def Rf:FuncData:=fM "add" "Letters.add" U4 (.str "nesthall.letters" 439) (.ref 216)
noncomputable def Rb:FuncData:=fM "taken" "Letters.taken" Bs (.str "nesthall.letters" 439) (.ref 223)
noncomputable def Ra:FuncData:=fM "waiting" "Letters.waiting" qX (.str "nesthall.letters" 439) (.ref 230)
noncomputable def RZ:FuncData:=fM "__init__" "Finds.__init__" iR (.str "nesthall.tables" 710) (.ref 388)
noncomputable def RX:FuncData:=fM "row_of" "Finds.row_of" eZ (.str "nesthall.tables" 710) (.ref 395)
noncomputable def RW:FuncData:=fM "__init__" "TooWide.__init__" eX (.str "nesthall.errors" 187) (.ref 78)
noncomputable def kE(P:Params)(x:Str)(n:Nat)(v:Value):DictEntry:=⟨PyData.keyHash P x,.str x n,v⟩
noncomputable def cO(x q:Str)(a:Nat)(l n:Int)(r:Nat)(k:Int):Obj:=⟨.type "code",none,.fields #[.str x a,.str q (a+1),.str "/claim/cut.py" (a+2),.int l 0,.int n 0,.int 0 0,.int 0 0,.int 3 0,.ref r,.bool true,.int 181 0,.ref (r+1),.none,.ref (r+2),.ref (r+3),.ref (r+4),.int k 0,.int l 0,.str "/claim/cut.py" (k.toNat+1)],#[]⟩
noncomputable def cN(x q:Str)(a:Nat)(l n:Int)(r:Nat)(k:Int):Obj:=⟨.type "code",none,.fields #[.str x a,.str q (a+1),.str "/claim/cut.py" (a+2),.int l 0,.int n 0,.int 0 0,.int 0 0,.int 3 0,.ref r,.bool true,.int 181 0,.ref (r+1),.none,.none,.none,.ref (r+2),.int k 0,.int l 0,.str "/claim/cut.py" (k.toNat+1)],#[]⟩
noncomputable def KO(P:Params):bj:=[
 (3,⟨.type "dict",none,.dict #[kE P "__name__" 165 (.str "law_nesthall_k33_too_wide" 771),kE P "__doc__" 166 .none,kE P "__package__" 167 .none,kE P "__loader__" 168 (.builtin "__main__.__loader__#opaque"),kE P "__spec__" 169 .none,kE P "__annotations__" 170 (.ref 6),kE P "__builtins__" 171 (.ref 4),kE P "__file__" 173 (.str "/claim/cut.py" 172),kE P "__cached__" 174 .none,kE P "NestError" 206 (.ref 24),kE P "BadChart" 231 (.ref 44),kE P "NoEvent" 256 (.ref 63),kE P "TooWide" 281 (.ref 82),kE P "NoWords" 297 (.ref 94),kE P "Unread" 322 (.ref 113),kE P "NoRow" 338 (.ref 125),kE P "NoName" 354 (.ref 137),kE P "parent" 366 (.ref 146),kE P "end_of" 376 (.ref 153),kE P "kids" 382 (.ref 158),kE P "lies_in" 391 (.ref 165),kE P "hall_over" 401 (.ref 172),kE P "bears_goal" 409 (.ref 177),kE P "next_in" 420 (.ref 184),kE P "goings_in" 432 (.ref 191),kE P "goings_out" 438 (.ref 196),kE P "Letters" 492 (.ref 234),kE P "changed" 506 (.ref 245),kE P "recorded" 516 (.ref 252),kE P "done" 529 (.ref 259),kE P "holds" 541 (.ref 266),kE P "answers" 557 (.ref 273),kE P "is_outdone" 563 (.ref 278),kE P "chosen" 569 (.ref 283),kE P "goals_of" 580 (.ref 290),kE P "plain_ones" 588 (.ref 295),kE P "kept_of" 598 (.ref 302),kE P "keeping" 610 (.ref 309),kE P "lamps" 616 (.ref 314),kE P "sizes_of" 624 (.ref 319),kE P "steps_in" 630 (.ref 324),kE P "steps_out" 636 (.ref 329),kE P "stepped" 651 (.ref 336),kE P "passed" 657 (.ref 341),kE P "rooms_left" 663 (.ref 346),kE P "turn" 678 (.ref 353),kE P "rested" 686 (.ref 358),kE P "begun" 692 (.ref 363),kE P "after" 703 (.ref 370),kE P "said" 709 (.ref 375),kE P "Finds" 753 (.ref 399),kE P "move" 764 (.ref 410),kE P "flat" 770 (.ref 415),kE P "_law_cell_at" 780 (.ref 422),kE P "_law_mixed" 792 (.ref 429),kE P "_law_whole" 799 (.ref 436),kE P "_law_small_deed" 809 (.ref 443),kE P "_law_small_deeds" 815 (.ref 448),kE P "_law_small_guard" 826 (.ref 455),kE P "_law_clock" 832 (.ref 460),kE P "_law_behind" 841 (.ref 467),kE P "_law_rising" 852 (.ref 474),kE P "_law_walked" 862 (.ref 481),kE P "_law_first_ways" 868 (.ref 486),kE P "_law_refused" 877 (.ref 493),kE P "_law_ways_told" 886 (.ref 500),kE P "_law_asked" 898 (.ref 507),kE P "_law_long" 915 (.ref 514),kE P "law" 926 (.ref 521)] 69,#[]⟩),
 (421,cO "_law_cell_at" "_law_cell_at" 773 287 2 416 778),
 (422,fU fd1),
 (428,cO "_law_mixed" "_law_mixed" 781 291 3 423 790),
 (429,fU fd2),
 (265,cO "holds" "holds" 532 125 3 260 539),
 (266,fU fd3),
 (272,cO "answers" "answers" 544 141 3 267 555),
 (273,fU fd4),
 (152,cO "end_of" "end_of" 367 37 2 147 374),
 (153,fU fd5),
 (145,cO "parent" "parent" 357 31 2 140 364),
 (146,fU fd6),
 (164,cO "lies_in" "lies_in" 383 46 3 159 389),
 (165,fU fd7),
 (171,cO "hall_over" "hall_over" 392 48 3 166 399),
 (172,fU fd8),
 (157,cN "kids" "kids" 377 43 2 154 380),
 (158,fU fd9),
 (176,cN "bears_goal" "bears_goal" 404 56 3 173 407),
 (177,fU qDM),
 (183,cO "next_in" "next_in" 410 59 3 178 418),
 (184,fU qDL),
 (190,cO "goings_in" "goings_in" 421 67 3 185 430),
 (191,fU qDK),
 (195,cN "goings_out" "goings_out" 433 75 3 192 436),
 (196,fU qDJ),
 (294,cN "plain_ones" "plain_ones" 583 167 2 291 586),
 (295,fU qDI),
 (301,cO "kept_of" "kept_of" 589 169 3 296 596),
 (302,fU qDH),
 (308,cO "keeping" "keeping" 599 174 4 303 608),
 (309,fU qDG),
 (277,cN "is_outdone" "is_outdone" 558 149 3 274 561),
 (278,fU qDF),
 (282,cN "chosen" "chosen" 564 154 3 279 567),
 (283,fU qDE),
 (244,cO "changed" "changed" 495 101 3 239 504),
 (245,fU qDD),
 (251,cO "recorded" "recorded" 507 110 3 246 514),
 (252,fU qDC),
 (258,cO "done" "done" 517 117 4 253 527),
 (259,fU qDB),
 (318,cN "sizes_of" "sizes_of" 619 183 1 315 622),
 (319,fU qDA),
 (345,cN "rooms_left" "rooms_left" 658 215 1 342 661),
 (346,fU qD9),
 (323,cN "steps_in" "steps_in" 625 185 2 320 628),
 (324,fU qD8),
 (328,cN "steps_out" "steps_out" 631 187 2 325 634),
 (329,fU qD7),
 (335,cO "stepped" "stepped" 637 189 4 330 649),
 (336,fU qD6),
 (289,cO "goals_of" "goals_of" 570 158 3 284 578),
 (290,fU qD5),
 (340,cN "passed" "passed" 652 198 4 337 655),
 (341,fU qD4),
 (352,cO "turn" "turn" 664 217 4 347 676),
 (353,fU qD3),
 (357,cN "rested" "rested" 681 229 4 354 684),
 (358,fU qD2),
 (362,cN "begun" "begun" 687 240 1 359 690),
 (363,fU qD1),
 (369,cO "after" "after" 693 248 3 364 701),
 (370,fU qD0),
 (374,cN "said" "said" 704 252 1 371 707),
 (375,fU qCZ),
 (313,cN "lamps" "lamps" 611 180 2 310 614),
 (314,fU qCY),
 (409,cO "move" "move" 754 273 4 404 762),
 (410,fU qCX),
 (414,cN "flat" "flat" 765 276 2 411 768),
 (415,fU qCW),
 (442,cO "_law_small_deed" "_law_small_deed" 800 300 3 437 807),
 (443,fU qCV),
 (447,cN "_law_small_deeds" "_law_small_deeds" 810 309 5 444 813),
 (448,fU qCU),
 (454,cO "_law_small_guard" "_law_small_guard" 816 313 3 449 824),
 (455,fU qCT),
 (459,cN "_law_clock" "_law_clock" 827 325 1 456 830),
 (460,fU qCS),
 (435,cO "_law_whole" "_law_whole" 793 298 1 430 797),
 (436,fU qCR),
 (466,cO "_law_behind" "_law_behind" 833 357 2 461 839),
 (467,fU qCQ),
 (473,cO "_law_rising" "_law_rising" 842 364 3 468 850),
 (474,fU qCP),
 (480,cO "_law_walked" "_law_walked" 853 376 2 475 860),
 (481,fU qCO),
 (485,cN "_law_first_ways" "_law_first_ways" 863 381 3 482 866),
 (486,fU qCN),
 (492,cO "_law_refused" "_law_refused" 869 395 2 487 875),
 (493,fU qCM),
 (499,cO "_law_ways_told" "_law_ways_told" 878 403 2 494 884),
 (500,fU qCL),
 (506,cO "_law_asked" "_law_asked" 887 409 2 501 896),
 (507,fU qCK),
 (513,cO "_law_long" "_law_long" 899 427 1 508 913),
 (514,fU qCJ),
 (520,cO "law" "law" 916 452 1 515 924),
 (521,fU Vg),
 (234,⟨.type "type",none,.cls ⟨"Letters",[.type "object"],[.ref 234,.type "object"],233,"Letters",true,[],[],false,none,false⟩,#[none,none,some (.str "Letters" 441),some (.str "Letters" 449),some (.builtin "object.__new__"),some (.bool true)]⟩),
 (233,⟨.type "dict",none,.dict #[kE P "__module__" 448 (.str "nesthall.letters" 439),kE P "__firstlineno__" 452 (.int (81) 451),kE P "__init__" 460 (.ref 210),kE P "add" 468 (.ref 217),kE P "taken" 475 (.ref 224),kE P "waiting" 482 (.ref 231),kE P "__static_attributes__" 485 (.ref 232),kE P "__dict__" 487 (.ref 235),kE P "__weakref__" 489 (.ref 236),kE P "__doc__" 490 .none] 4,#[]⟩),
 (209,cO "__init__" "Letters.__init__" 453 83 2 204 458),
 (210,fU Rg),
 (216,cO "add" "Letters.add" 461 87 2 211 466),
 (217,fU Rf),
 (223,cO "taken" "Letters.taken" 469 93 1 218 473),
 (224,fU Rb),
 (230,cO "waiting" "Letters.waiting" 476 98 1 225 480),
 (231,fU Ra),
 (399,⟨.type "type",none,.cls ⟨"Finds",[.type "object"],[.ref 399,.type "object"],398,"Finds",true,[],[],false,none,false⟩,#[none,none,some (.str "Finds" 712),some (.str "Finds" 720),some (.builtin "object.__new__"),some (.bool true)]⟩),
 (398,⟨.type "dict",none,.dict #[kE P "__module__" 719 (.str "nesthall.tables" 710),kE P "__firstlineno__" 723 (.int (255) 722),kE P "__init__" 731 (.ref 389),kE P "row_of" 741 (.ref 396),kE P "__static_attributes__" 746 (.ref 397),kE P "__dict__" 748 (.ref 400),kE P "__weakref__" 750 (.ref 401),kE P "__doc__" 751 .none] 4,#[]⟩),
 (388,cO "__init__" "Finds.__init__" 724 257 2 383 729),
 (389,fU RZ),
 (395,cO "row_of" "Finds.row_of" 732 263 3 390 739),
 (396,fU RX),
 (82,⟨.type "type",none,.cls ⟨"TooWide",[.ref 24],[.ref 82,.ref 24,.type "ValueError",.type "Exception",.type "BaseException",.type "object"],81,"TooWide",true,[],[],false,none,false⟩,#[some (.ref 66),none,some (.str "TooWide" 257),some (.str "TooWide" 265),some (.builtin "ValueError.__new__"),some (.bool true)]⟩),
 (81,⟨.type "dict",none,.dict #[kE P "__module__" 264 (.str "nesthall.errors" 187),kE P "__firstlineno__" 268 (.int (14) 267),kE P "__init__" 276 (.ref 79),kE P "__static_attributes__" 278 (.ref 80),kE P "__doc__" 279 .none] 2,#[]⟩),
 (78,cO "__init__" "TooWide.__init__" 269 16 2 73 274),
 (79,fU RW),
 (24,⟨.type "type",none,.cls ⟨"NestError",[.type "ValueError"],[.ref 24,.type "ValueError",.type "Exception",.type "BaseException",.type "object"],23,"NestError",true,[],[.ref 44,.ref 63,.ref 82,.ref 94,.ref 113,.ref 125,.ref 137],false,none,false⟩,#[some (.ref 15),none,some (.str "NestError" 189),some (.str "NestError" 197),some (.builtin "ValueError.__new__"),some (.bool true)]⟩),
 (23,⟨.type "dict",none,.dict #[kE P "__module__" 196 (.str "nesthall.errors" 187),kE P "__firstlineno__" 200 (.int (2) 199),kE P "__static_attributes__" 201 (.ref 22),kE P "__weakref__" 203 (.ref 25),kE P "__doc__" 204 .none] 3,#[]⟩),
 (44,⟨.type "type",none,.cls ⟨"BadChart",[.ref 24],[.ref 44,.ref 24,.type "ValueError",.type "Exception",.type "BaseException",.type "object"],43,"BadChart",true,[],[],false,none,false⟩,#[some (.ref 28),none,some (.str "BadChart" 207),some (.str "BadChart" 215),some (.builtin "ValueError.__new__"),some (.bool true)]⟩),
 (43,⟨.type "dict",none,.dict #[kE P "__module__" 214 (.str "nesthall.errors" 187),kE P "__firstlineno__" 218 (.int (4) 217),kE P "__init__" 226 (.ref 41),kE P "__static_attributes__" 228 (.ref 42),kE P "__doc__" 229 .none] 2,#[]⟩),
 (63,⟨.type "type",none,.cls ⟨"NoEvent",[.ref 24],[.ref 63,.ref 24,.type "ValueError",.type "Exception",.type "BaseException",.type "object"],62,"NoEvent",true,[],[],false,none,false⟩,#[some (.ref 47),none,some (.str "NoEvent" 232),some (.str "NoEvent" 240),some (.builtin "ValueError.__new__"),some (.bool true)]⟩),
 (62,⟨.type "dict",none,.dict #[kE P "__module__" 239 (.str "nesthall.errors" 187),kE P "__firstlineno__" 243 (.int (9) 242),kE P "__init__" 251 (.ref 60),kE P "__static_attributes__" 253 (.ref 61),kE P "__doc__" 254 .none] 2,#[]⟩),
 (94,⟨.type "type",none,.cls ⟨"NoWords",[.ref 24],[.ref 94,.ref 24,.type "ValueError",.type "Exception",.type "BaseException",.type "object"],93,"NoWords",true,[],[],false,none,false⟩,#[some (.ref 85),none,some (.str "NoWords" 282),some (.str "NoWords" 290),some (.builtin "ValueError.__new__"),some (.bool true)]⟩),
 (93,⟨.type "dict",none,.dict #[kE P "__module__" 289 (.str "nesthall.errors" 187),kE P "__firstlineno__" 293 (.int (19) 292),kE P "__static_attributes__" 294 (.ref 92),kE P "__doc__" 295 .none] 2,#[]⟩),
 (113,⟨.type "type",none,.cls ⟨"Unread",[.ref 24],[.ref 113,.ref 24,.type "ValueError",.type "Exception",.type "BaseException",.type "object"],112,"Unread",true,[],[],false,none,false⟩,#[some (.ref 97),none,some (.str "Unread" 298),some (.str "Unread" 306),some (.builtin "ValueError.__new__"),some (.bool true)]⟩),
 (112,⟨.type "dict",none,.dict #[kE P "__module__" 305 (.str "nesthall.errors" 187),kE P "__firstlineno__" 309 (.int (21) 308),kE P "__init__" 317 (.ref 110),kE P "__static_attributes__" 319 (.ref 111),kE P "__doc__" 320 .none] 2,#[]⟩),
 (125,⟨.type "type",none,.cls ⟨"NoRow",[.ref 24],[.ref 125,.ref 24,.type "ValueError",.type "Exception",.type "BaseException",.type "object"],124,"NoRow",true,[],[],false,none,false⟩,#[some (.ref 116),none,some (.str "NoRow" 323),some (.str "NoRow" 331),some (.builtin "ValueError.__new__"),some (.bool true)]⟩),
 (124,⟨.type "dict",none,.dict #[kE P "__module__" 330 (.str "nesthall.errors" 187),kE P "__firstlineno__" 334 (.int (26) 333),kE P "__static_attributes__" 335 (.ref 123),kE P "__doc__" 336 .none] 2,#[]⟩),
 (137,⟨.type "type",none,.cls ⟨"NoName",[.ref 24],[.ref 137,.ref 24,.type "ValueError",.type "Exception",.type "BaseException",.type "object"],136,"NoName",true,[],[],false,none,false⟩,#[some (.ref 128),none,some (.str "NoName" 339),some (.str "NoName" 347),some (.builtin "ValueError.__new__"),some (.bool true)]⟩),
 (136,⟨.type "dict",none,.dict #[kE P "__module__" 346 (.str "nesthall.errors" 187),kE P "__firstlineno__" 350 (.int (28) 349),kE P "__static_attributes__" 351 (.ref 135),kE P "__doc__" 352 .none] 2,#[]⟩),
 (2,⟨.none,none,.dict #[] 0,#[]⟩)]
noncomputable def KA:List Addr:=[3,421,422,428,429,265,266,272,273,152,153,145,146,164,165,171,172,157,158,176,177,183,184,190,191,195,196,294,295,301,302,308,309,277,278,282,283,244,245,251,252,258,259,318,319,345,346,323,324,328,329,335,336,289,290,340,341,352,353,357,358,362,363,369,370,374,375,313,314,409,410,414,415,442,443,447,448,454,455,459,460,435,436,466,467,473,474,480,481,485,486,492,493,499,500,506,507,513,514,520,521,234,233,209,210,216,217,223,224,230,231,399,398,388,389,395,396,82,81,78,79,24,23,44,43,63,62,94,93,113,112,125,124,137,136,2]
noncomputable def PW:Program:=PySem.Challenge.pw_nesthall_k33_too_wide
noncomputable def QV:Program:=PySem.W.view PW [71]
noncomputable def LS:List Str:=[Str.ofString "__name__",Str.ofString "NestError",Str.ofString "BadChart",Str.ofString "NoEvent",Str.ofString "TooWide",Str.ofString "NoWords",Str.ofString "Unread",Str.ofString "NoRow",Str.ofString "NoName",Str.ofString "parent",Str.ofString "end_of",Str.ofString "kids",Str.ofString "lies_in",Str.ofString "hall_over",Str.ofString "bears_goal",Str.ofString "next_in",Str.ofString "goings_in",Str.ofString "goings_out",Str.ofString "Letters",Str.ofString "changed",Str.ofString "recorded",Str.ofString "done",Str.ofString "holds",Str.ofString "answers",Str.ofString "is_outdone",Str.ofString "chosen",Str.ofString "goals_of",Str.ofString "plain_ones",Str.ofString "kept_of",Str.ofString "keeping",Str.ofString "lamps",Str.ofString "sizes_of",Str.ofString "steps_in",Str.ofString "steps_out",Str.ofString "stepped",Str.ofString "passed",Str.ofString "rooms_left",Str.ofString "turn",Str.ofString "rested",Str.ofString "begun",Str.ofString "after",Str.ofString "said",Str.ofString "Finds",Str.ofString "move",Str.ofString "flat",Str.ofString "_law_cell_at",Str.ofString "_law_mixed",Str.ofString "_law_whole",Str.ofString "_law_small_deed",Str.ofString "_law_small_deeds",Str.ofString "_law_small_guard",Str.ofString "_law_clock",Str.ofString "_law_behind",Str.ofString "_law_rising",Str.ofString "_law_walked",Str.ofString "_law_first_ways",Str.ofString "_law_refused",Str.ofString "_law_ways_told",Str.ofString "_law_asked",Str.ofString "_law_long"]
noncomputable def HK:PySem.W.Hook:=PySem.W.kHook KO KA fun _=>by kernel_rfl
noncomputable def ZM:Stmt->Pos
 | .FunctionDef _ _ _ _ _ _ _ _ _ p=>p
 | _=>⟨0,0,0,0⟩
noncomputable def JX:DefRec:=⟨"law",oY uE,iU uE,aC uE,ZM uE⟩
set_option maxHeartbeats 0 in
theorem Yn(w:World):Option.map (fun s=>PySem.W.openSeen QV LS (importedModules PW.main.body) (fun s=>PySem.W.xlAt QV [] s && PySem.W.recOk [] s) true s) (PySem.W.openEnds treeTable PW (w) 9140)=some (PySem.W.openGood QV LS):=by kernel_rfl
set_option maxHeartbeats 0 in
theorem Ym(w:World):(PySem.W.openEnds treeTable PW w 9140).map (fun s=>(KA.take 68).map s.heap.get?)=some (((KO w.params).take 68).map fun p=>some p.2):=by kernel_rfl
set_option maxHeartbeats 0 in
theorem Yl(w:World):(PySem.W.openEnds treeTable PW w 9140).map (fun s=>(KA.drop 68).map s.heap.get?)=some (((KO w.params).drop 68).map fun p=>some p.2):=by kernel_rfl
theorem map_two{α β γ:Type}{f:α->β}{g:α->γ}{x:Option α}{a:β}{b:γ}(h1:x.map f=some a)(h2:x.map g=some b):x.map (fun s=>(f s,g s))=some (a,b):=by
 cases x with
 | none=>cases h1
 | some y=>cases h1;cases h2;rfl
theorem Mj(n:Nat){x:Option Shared}{as:List Addr}{K:bj}(h1:x.map (fun s=>(as.take n).map s.heap.get?)=some ((K.take n).map fun p=>some p.2))(h2:x.map (fun s=>(as.drop n).map s.heap.get?)=some ((K.drop n).map fun p=>some p.2)):x.map (fun s=>as.map s.heap.get?)=some (K.map fun p=>some p.2):=by
 cases x with
 | none=>cases h1
 | some y=>
  have z:=congr (congrArg List.append (iM h1)) (iM h2);refine congrArg some (?_:as.map y.heap.get? = K.map fun p=>some p.2);have e1:=jn (f:=y.heap.get?) (l₁:=as.take n) (l₂:=as.drop n);have e2:=jn (f:=fun p:Addr × Obj=>some p.2) (l₁:=K.take n) (l₂:=K.drop n);rw[List.take_append_drop]at e1 e2;rw[e1,e2];exact z
theorem left:PySem.W.LeftO PW QV LS (fun s=>PySem.W.xlAt QV [] s && PySem.W.recOk [] s) HK.obs HK.val 9140:=fun w=>map_two (Yn w) (Mj 68 (Ym w) (Yl w))
set_option maxHeartbeats 0 in
theorem qAS:PySem.Challenge.rw_nesthall_k33_too_wide.row.wellSaid=true:=by kernel_rfl
set_option maxHeartbeats 0 in
theorem said:PySem.Challenge.rw_nesthall_k33_too_wide.wellSaid=true:=by
 unfold PySem.W.OpenLaw.wellSaid;rw[qAS]
 kernel_rfl
end xR
namespace L2
open PySem PySem.Spec PyProof.Rows
abbrev Key:=Sum Int Str
noncomputable def An:Key->Value->Bool
 | .inl k,v=>Value.isInt k v
 | .inr x,v=>Value.isStrOf x v
noncomputable def qFH(w:World):Key->Int
 | .inl k=>hashInt k
 | .inr x=>hashStr w x
theorem bz:∀ {k:Key} {v:Value},An k v=true->(∃ i t,k=Sum.inl i/\v=Value.int i t) ∨ (∃ x t,k=Sum.inr x/\v=Value.str x t)
 | .inl i,v,h=>by
  obtain⟨t,e⟩:=Value.isInt_shape (k:=i) (v:=v) h;exact .inl ⟨i,t,rfl,e⟩
 | .inr x,v,h=>by
  obtain⟨t,e⟩:=Value.isStrOf_shape (x:=x) (v:=v) h;exact .inr ⟨x,t,rfl,e⟩
theorem Mu(i:Int)(t:Tok):An (.inl i) (.int i t)=true:=by simp [An,Value.isInt]
theorem Mt(x:Str)(t:Tok):An (.inr x) (.str x t)=true:=by simp [An,Value.isStrOf]
theorem Yv(a b:Int):decide ((Sum.inl a:Key)=Sum.inl b)=(a == b):=by
 by_cases e:a=b
 ·subst e;simp
 ·have h:¬ (Sum.inl a:Key)=Sum.inl b:=fun q=>e (Sum.inl.inj q);rw[decide_eq_false h];exact (beq_eq_false_iff_ne.mpr e).symm
theorem Ys(a b:Str):decide ((Sum.inr a:Key)=Sum.inr b)=decide (a=b):=by
 by_cases e:a=b
 ·subst e;simp
 ·have h:¬ (Sum.inr a:Key)=Sum.inr b:=fun q=>e (Sum.inr.inj q);rw[decide_eq_false h,decide_eq_false e]
theorem Yu(a:Int)(b:Str):decide ((Sum.inl a:Key)=Sum.inr b)=false:=decide_eq_false (fun q=>nomatch q)
theorem Yt(a:Str)(b:Int):decide ((Sum.inr a:Key)=Sum.inl b)=false:=decide_eq_false (fun q=>nomatch q)
noncomputable def bc(prog:Program)(w:World):PySem.KeyKind prog w Key where
 is:=An
 hash:=qFH w
 inj:=fun v a b ha hb=>by
  rcases bz ha with ⟨i,t,rfl,rfl⟩ | ⟨x,t,rfl,rfl⟩
  ·rcases bz hb with ⟨j,u,rfl,e⟩ | ⟨y,u,rfl,e⟩
   ·injection e with e1 _;rw[e1]
   ·exact nomatch e
  ·rcases bz hb with ⟨j,u,rfl,e⟩ | ⟨y,u,rfl,e⟩
   ·exact nomatch e
   ·injection e with e1 _;rw[e1]
 byValue:=fun k v h=>by
  rcases bz h with ⟨i,t,rfl,rfl⟩ | ⟨x,t,rfl,rfl⟩ <;> rfl
 pyHash:=fun hv h=>by
  rcases bz hv with ⟨i,t,rfl,rfl⟩ | ⟨x,t,rfl,rfl⟩
  ·exact wpAny_pyHash_int h
  ·exact wpAny_pyHash_str h
 eqBool:=fun hu hv h=>by
  rcases bz hu with ⟨i,t,rfl,rfl⟩ | ⟨x,t,rfl,rfl⟩
  ·rcases bz hv with ⟨j,u,rfl,rfl⟩ | ⟨y,u,rfl,rfl⟩
   ·rw[Yv]at h;exact wpAny_eqBool_int h
   ·rw[Yu]at h;exact SeqAt.EqAt.int_str i t y u _ _ _ _ h
  ·rcases bz hv with ⟨j,u,rfl,rfl⟩ | ⟨y,u,rfl,rfl⟩
   ·rw[Yt]at h;exact SeqAt.EqAt.str_int x t j u _ _ _ _ h
   ·rw[Ys]at h;exact wpAny_eqBool_str h
 «strs»:=fun k x t v h=>by
  rcases bz h with ⟨i,u,rfl,e⟩ | ⟨y,u,rfl,e⟩
  ·exact nomatch e
  ·injection e with e1 _;subst e1
   cases v <;> rfl
theorem Fw(prog:Program)(w:World)(i:Int)(t:Tok):(bc prog w).is (.inl i) (.int i t)=true:=Mu i t
theorem Fv(prog:Program)(w:World)(x:Str)(t:Tok):(bc prog w).is (.inr x) (.str x t)=true:=Mt x t
inductive V where
 | non | bl (b:Bool) | int (i:Int) | str (x:Str) | Oc (b:Array UInt8) | flt (b:UInt64) | ref (a:Addr) | ty (n:String)
 deriving DecidableEq
noncomputable def RelV:V->Value->Prop
 | .non,u=>u=Value.none
 | .bl b,u=>u=Value.bool b
 | .int i,u => ∃ t,u=Value.int i t
 | .str x,u => ∃ t,u=Value.str x t
 | .Oc b,u => ∃ t,u=Value.bytes b t
 | .flt b,u => ∃ t,u=Value.float b t
 | .ref a,u=>u=Value.ref a
 | .ty n,u=>u=Value.type n
abbrev Vals:List V->List Value->Prop:=Paired RelV
theorem Vals.length(r:Vals xs us):xs.length=us.length:=Paired.length r
theorem Vals.get:∀ {xs:List V} {us:List Value} {i:Nat} {x:V},Vals xs us->xs[i]? = some x->∃ u,us[i]? = some u/\RelV x u
 | _,_,_,_,.nil,e=>by simp at e
 | _,_,0,_,.cons r _,e=>by simp at e;subst e;exact⟨_,rfl,r⟩
 | _,_,i+1,x,.cons _ t,e=>by
  obtain⟨u,h1,h2⟩:=Vals.get (i:=i) (x:=x) t (by simpa using e);exact⟨u,by simpa using h1,h2⟩
theorem Vals.set(r:RelV x u):∀ {xs:List V} {us:List Value} (i:Nat),Vals xs us->Vals (xs.set i x) (us.set i u)
 | _,_,_,.nil=>.nil
 | _,_,0,.cons _ t=>.cons r t
 | _,_,i+1,.cons q t=>.cons q (Vals.set r i t)
theorem Vals.append:∀ {xs ys:List V} {us ws:List Value},Vals xs us->Vals ys ws->Vals (xs++ys) (us++ws)
 | _,_,_,_,.nil,s=>s
 | _,_,_,_,.cons r t,s=>.cons r (Vals.append t s)
theorem Vals.take:∀ {xs:List V} {us:List Value} (n:Nat),Vals xs us->Vals (xs.take n) (us.take n)
 | _,_,0,_=>.nil
 | _,_,_+1,.nil=>.nil
 | _,_,n+1,.cons r t=>.cons r (Vals.take n t)
theorem Vals.drop:∀ {xs:List V} {us:List Value} (n:Nat),Vals xs us->Vals (xs.drop n) (us.drop n)
 | _,_,0,r=>r
 | _,_,_+1,.nil=>.nil
 | _,_,n+1,.cons _ t=>Vals.drop n t
noncomputable def lu:Option V->Option Value->Prop
 | some v,some u=>RelV v u
 | none,none=>True
 | _,_=>False
def KV{κ:Type}:List (κ × V)->List (κ × Value)->Prop:=Paired fun (p:κ × V) (q:κ × Value)=>p.1=q.1/\RelV p.2 q.2
noncomputable def kV:Key->V
 | .inl i=>.int i
 | .inr x=>.str x
inductive HO where
 | lst (xs:List V)
 | tup (xs:List V)
 | dK (kvs:List (Key × V)) | dT (kvs:List (List Key × V))
 | set (S:Int->Bool) (n:Nat)
 | ins (C dx:Addr) (fs:List (Str × V))
 | own (x:Addr)
 | xd (fs:List (Str × V))
 | met (f x:Addr)
 | rng (lo hi:Int)
 | JL (o:Obj) (u:HO)
 | WK (ps:Array Value)
 | ext (φ:Heap->Prop)
abbrev Hp:=Addr->Option HO
noncomputable def upd(H:Hp)(a:Addr)(o:HO):Hp:=fun b=>if b=a then some o else H b
theorem zC:upd H a o a=some o:=by unfold upd;rw[if_pos rfl]
theorem zQ(h:b ≠ a):upd H a o b=H b:=by unfold upd;rw[if_neg h]
theorem fH{H:Hp}{a b:Addr}{o u:HO}(h:H a=some o)(h':H b=some u)(d:o ≠ u):a ≠ b:=by
 intro e;subst e;rw[h]at h';exact d (iM h')
theorem zM{H:Hp}{a b:Addr}{o:HO}(h:H a=some o)(h':H b=none):a ≠ b:=by
 intro e;subst e;rw[h]at h';cases h'
section
variable(P:Program)(w:World)
noncomputable def bK(H:Hp)(h:Heap)(a:Addr):HO->Prop
 | .lst xs=>xs.length<=sizeLine/\∃(its:List Value)(n:Nat),Vals xs its/\h.get? a=some { cls:=.type "list",data:=.seq its.toArray n }
 | .tup xs=>xs.length<=sizeLine/\∃ its:List Value,Vals xs its/\IsTup h a its.toArray
 | .dK kvs=>kvs.length<=sizeLine/\(a == sysModules)=false/\∃ vs,KV kvs vs/\h.DictOf (bc P w) a vs
 | .dT kvs=>kvs.length<=sizeLine/\(a == sysModules)=false/\∃ xs:List (List Key × Addr × Value),
   Paired (fun (p:List Key × V) (q:List Key × Addr × Value)=>p.1=q.1/\H q.2.1=some (.tup (p.1.map kV))/\RelV p.2 q.2.2) kvs xs ∧
   ∃ o es ep,h.get? a=some o/\o.ExactDict/\o.data = .dict es ep/\es.toList=xs.map (entryOfKey (tupleKind (bc P w)))/\(xs.map (·.1)).Nodup
 | .set S n=>h.SetOf (intKind P w) a S n
 | .ins C dx fs=>H dx=some (.own a)/\fs.length<=1000/\dx ≠ a/\h.get? a=some (PySem.W.instObj C dx) ∧
   ∃ mA,h.Ns1 dx mA/\(∀ f,lu (fs.lookup f) (mA f))/\PySem.Within mA (fs.map (·.1))
 | .own _ => ∃ o,h.get? a=some o
 | .xd fs => ∃ mA,h.Ns1 a mA/\∀ f,lu (fs.lookup f) (mA f)
 | .rng lo hi => ∃ t u v,h.get? a=some { cls:=.type "range",data:=.fields #[.int lo t,.int hi u,.int 1 v] }
 | .JL o u=>h.get? a=some o/\bK H h a u
 | .WK ps=>h.get? a=some { cls:=.none,data:=.fields ps }
 | .met f x=>h.get? a=some (PySem.W.methodObj (.ref f) (.ref x))
 | .ext φ=>φ h/\(∃ o,h.get? a=some o)/\∀ h1 h2:Heap,φ h1->(∀ o,h1.get? a=some o->h2.get? a=some o)->φ h2
def iZ(H:Hp)(h:Heap):Prop:=∀ a o,H a=some o->bK P w H h a o
end
section
variable{P:Program}{w:World}{H H':Hp}{h h':Heap}{a:Addr}{o:HO}
theorem bK.lt(x:bK P w H h a o):a < h.objs.size:=by
 cases o with
 | lst xs=>obtain⟨_,_,_,_,e⟩:=x;exact gR e
 | tup xs=>obtain⟨_,_,_,p⟩:=x;exact p.lt
 | dK kvs=>obtain⟨_,_,_,_,o,_,_,e,_⟩:=x;exact gR e
 | dT kvs=>obtain⟨_,_,_,_,o,_,_,e,_⟩:=x;exact gR e
 | set S n=>obtain⟨o,_,_,_,e,_⟩:=x;exact gR e
 | ins C dx fs=>obtain⟨_,_,_,e,_⟩:=x;exact gR e
 | own y=>obtain⟨_,e⟩:=x;exact gR e
 | xd fs=>obtain⟨_,⟨_,_,_,e,_⟩,_⟩:=x;exact gR e
 | rng lo hi=>obtain⟨_,_,_,e⟩:=x;exact gR e
 | JL ob u=>obtain⟨e,_⟩:=x;exact gR e
 | WK ps=>exact gR (show h.get? a=some _ from x)
 | met f y=>exact gR (show h.get? a=some _ from x)
 | ext φ=>obtain⟨_,⟨_,e⟩,_⟩:=x;exact gR e
theorem Paired.Yi:∀ {l₁:List α} {l₂:List β},Paired F l₁ l₂->(∀ a b,F a b->G a b)->Paired G l₁ l₂
 | _,_,.nil,_=>.nil
 | _,_,.cons r t,f=>.cons (f _ _ r) (Paired.Yi t f)
theorem bK.stay(x:bK P w H h a o)(k:∀ b u,(b=a ∨ H b=some (.own a))->h.get? b=some u->h'.get? b=some u)
  (ho:∀ b,H b=some (.own a)->H' b=some (.own a)) (ht:∀ b xs,H b=some (.tup xs)->H' b=some (.tup xs)):bK P w H' h' a o:=by
 induction o with
 | lst xs=>obtain⟨z,its,n,r,e⟩:=x;exact⟨z,its,n,r,k _ _ (.inl rfl) e⟩
 | tup xs=>obtain⟨z,its,r,ob,e,c⟩:=x;exact⟨z,its,r,ob,k _ _ (.inl rfl) e,c⟩
 | dK kvs=>obtain⟨z,y,vs,r,ob,es,ep,e,c⟩:=x;exact⟨z,y,vs,r,ob,es,ep,k _ _ (.inl rfl) e,c⟩
 | dT kvs=>
  obtain⟨z,y,xs,r,ob,es,ep,e,c⟩:=x;exact⟨z,y,xs,Paired.Yi r fun p q z=>⟨z.1,ht _ _ z.2.1,z.2.2⟩,ob,es,ep,k _ _ (.inl rfl) e,c⟩
 | set S n=>obtain⟨ob,es,ep,t,e,c⟩:=x;exact⟨ob,es,ep,t,k _ _ (.inl rfl) e,c⟩
 | ins C dx fs=>
  obtain⟨d,z,ne,e,mA,⟨od,es,ep,e2,c⟩,r⟩:=x;exact⟨ho _ d,z,ne,k _ _ (.inl rfl) e,mA,⟨od,es,ep,k _ _ (.inr d) e2,c⟩,r⟩
 | own y=>obtain⟨ob,e⟩:=x;exact⟨ob,k _ _ (.inl rfl) e⟩
 | xd fs=>obtain⟨mA,⟨od,es,ep,e,c⟩,r⟩:=x;exact⟨mA,⟨od,es,ep,k _ _ (.inl rfl) e,c⟩,r⟩
 | rng lo hi=>obtain⟨t,u,v,e⟩:=x;exact⟨t,u,v,k _ _ (.inl rfl) e⟩
 | JL ob u ih=>obtain⟨e,q⟩:=x;exact⟨k _ _ (.inl rfl) e,ih q⟩
 | WK ps=>
  have e:h.get? a=some { cls:=.none,data:=.fields ps }:=x;show h'.get? a=some { cls:=.none,data:=.fields ps };exact k a _ (.inl rfl) e
 | met f y=>
  have e:h.get? a=some (PySem.W.methodObj (.ref f) (.ref y)):=x;show h'.get? a=some (PySem.W.methodObj (.ref f) (.ref y));exact k a _ (.inl rfl) e
 | ext φ=>obtain⟨p,⟨o,e⟩,st⟩:=x;exact⟨st _ _ p fun o q=>k _ _ (.inl rfl) q,⟨o,k _ _ (.inl rfl) e⟩,st⟩
theorem iZ.lt(x:iZ P w H h)(e:H a=some o):a < h.objs.size:=(x a o e).lt
theorem iZ.fresh(x:iZ P w H h)(e:h.objs.size<=a):H a=none:=by
 cases q:H a with
 | none=>rfl
 | some u=>exact absurd (Bc (x.lt q) e) (Nat.lt_irrefl _)
theorem iZ.kept(x:iZ P w H h)(k:∀ b u,h.get? b=some u->h'.get? b=some u):iZ P w H h':=fun a o e=>
 (x a o e).stay (fun b u _ q=>k b u q) (fun _ q=>q) fun _ _ q=>q
theorem iZ.laid(x:iZ P w H h)(k:∀ b u,h.get? b=some u->h'.get? b=some u)(hp:h.objs.size<=a)(new:bK P w (upd H a o) h' a o):iZ P w (upd H a o) h':=fun b u e=>by
 have hn:=x.fresh hp
 by_cases hb:b=a
 ·subst hb;rw[zC]at e;cases e;exact new
 ·rw[zQ hb]at e
  exact (x b u e).stay (fun c v _ q=>k c v q) (fun c q=>by rw[zQ (zM q hn)];exact q) fun c xs q=>by rw[zQ (zM q hn)];exact q
end
def Rd(H:Hp)(a:Addr)(u:HO):Prop:=H a=some u ∨ ∃ o,H a=some (.JL o u)
theorem Rd.ok(r:Rd H a u)(x:iZ P w H h):bK P w H h a u:=by
 rcases r with r | ⟨o,r⟩
 ·exact x a u r
 ·obtain⟨_,q⟩:=x a _ r;exact q
noncomputable def Mut:Option HO->Prop
 | some (.lst _)=>True
 | some (.dK _)=>True
 | some (.dT _)=>True
 | some (.set _ _)=>True
 | some (.ins _ _ _)=>True
 | some (.ext _)=>True
 | _=>False
section
variable{P:Program}{w:World}{H:Hp}{h h':Heap}{x e:Addr}{o':HO}
theorem iZ.write(ok:iZ P w H h)(mu:Mut (H x))(he:e=x ∨ H e=some (.own x))(k:∀ b u,b ≠ e->h.get? b=some u->h'.get? b=some u)(heo:∃ u,h'.get? e=some u)
  (new:bK P w (upd H x o') h' x o'):iZ P w (upd H x o') h':=fun b u q=>by
 have qBB:∀ c y,H c=some (.own y)->c ≠ x:=fun c y r z=>by subst z;rw[r]at mu;exact mu
 have qF5:∀ c xs,H c=some (.tup xs)->c ≠ x:=fun c xs r z=>by subst z;rw[r]at mu;exact mu
 by_cases hb:b=x
 ·subst hb;rw[zC]at q;cases q;exact new
 ·rw[zQ hb]at q
  by_cases hbe:b=e
  ·have q':H b=some (.own x):=by
    rcases he with z | z
    ·exact absurd (hbe.trans z) hb
    ·rw[hbe];exact z
   rw[q]at q';cases q';obtain⟨v,hv⟩:=heo;exact⟨v,by rw[hbe];exact hv⟩
  ·refine (ok b u q).stay (fun c v hc r=>k c v ?_ r) (fun c r=>by rw[zQ (qBB c b r)];exact r) fun c xs r=>by rw[zQ (qF5 c xs r)];exact r
   rcases hc with rfl | hc
   ·exact hbe
   ·rintro rfl;rcases he with z | z
    ·exact qBB c b hc z
    ·rw[hc]at z;cases z;exact hb rfl
end
structure Un(fs ex:List Addr)(H H':Hp)(h h':Heap):Prop where
 keep:∀ b o,h.get? b=some o->H b=none->b ∉ fs->b ∉ ex->h'.get? b=some o
 slot:∀ b o,h.get? b=some o->H b=none->b∈fs->b ∉ ex->∃ sl,h'.get? b=some { o with slots:=sl }
 free:∀ b o,h.get? b=some o->H b=none->b ∉ ex->H' b=none
 there:∀ b o,h.get? b=some o->b ∉ ex->∃ o',h'.get? b=some o'
 tups:∀ b xs,H b=some (.tup xs)->H' b=some (.tup xs)
 pF:∀ b o u,H b=some (.JL o u)->H' b=some (.JL o u)
 pR:∀ b ps,H b=some (.WK ps)->∃ more,H' b=some (.WK (ps++more))
section
variable{fs fs' ex ex':List Addr}{H H1 H2:Hp}{h h1 h2 h':Heap}{a x e:Addr}{o:HO}
theorem Un.any(u:Un fs ex H H1 h h1)(q:h.get? b=some ob)(n:H b=none)(hx:b ∉ ex):∃ sl,h1.get? b=some { ob with slots:=sl }:=by
 by_cases hb:b∈fs
 ·exact u.slot b ob q n hb hx
 ·exact⟨ob.slots,u.keep b ob q n hb hx⟩
theorem Un.kept(k:∀ b u,h.get? b=some u->h'.get? b=some u):Un fs ex H H h h':=
 ⟨fun b ob q _ _ _=>k b ob q,fun b ob q _ _ _=>⟨ob.slots,k b ob q⟩,fun _ _ _ n _=>n,fun b ob q _=>⟨ob,k b ob q⟩,fun _ _ q=>q,fun _ _ _ q=>q,fun _ ps q=>⟨#[],by rw[q];simp⟩⟩
theorem Un.refl:Un fs ex H H h h:=Un.kept fun _ _ q=>q
theorem Un.laid(k:∀ b u,h.get? b=some u->h'.get? b=some u)(hp:h.objs.size<=a)(hn:H a=none):Un fs ex H (upd H a o) h h' where
 keep:=fun b u q _ _ _=>k b u q
 slot:=fun b u q _ _ _=>⟨u.slots,k b u q⟩
 free:=fun b u q n _=>by rw[zQ (lC (Bc (gR q) hp))];exact n
 there:=fun b u q _=>⟨u,k b u q⟩
 tups:=fun b xs q=>by rw[zQ (zM q hn)];exact q
 pF:=fun b u xs q=>by rw[zQ (zM q hn)];exact q
 pR:=fun b ps q=>⟨#[],by rw[zQ (zM q hn),q];simp⟩
theorem Un.write(mu:Mut (H x))(he:e=x ∨ H e=some (.own x))(k:∀ b u,b ≠ e->h.get? b=some u->h'.get? b=some u)(heo:∃ u,h'.get? e=some u):Un fs ex H (upd H x o) h h':=by
 have hx:∀ b,H b=none->b ≠ x:=fun b n z=>by subst z;rw[n]at mu;exact mu
 have hb:∀ b,H b=none->b ≠ e:=fun b n z=>by
  subst z;rcases he with r | r
  ·exact hx b n r
  ·rw[n]at r;cases r
 have hm:∀ b u,H b=some u->¬ Mut (some u)->b ≠ x:=fun b u q nm z=>by subst z;rw[q]at mu;exact nm mu
 refine⟨fun b u q n _ _=>k b u (hb b n) q,fun b u q n _ _=>⟨u.slots,k b u (hb b n) q⟩,fun b u q n _=>by rw[zQ (hx b n)];exact n,fun b u q _=>?_,
  fun b xs q=>by rw[zQ (hm b _ q fun z=>z)];exact q,fun b u xs q=>by rw[zQ (hm b _ q fun z=>z)];exact q,fun b ps q=>⟨#[],by rw[zQ (hm b _ q fun z=>z),q];simp⟩⟩
 by_cases hbe:b=e
 ·subst hbe;exact heo
 ·exact⟨u,k b u hbe q⟩
end
noncomputable def trk(h:Heap)(H:Hp):List Addr:=(List.range h.objs.size).filter fun a=>(H a).isSome
noncomputable def Cu(h:Heap)(H:Hp):Heap:=PySem.W.hideAll h (trk h H)
theorem NK(h:Heap)(H:Hp):(Cu h H).objs.size=h.objs.size:=PySem.W.hideAll_size _ _
theorem R5(e:h.get? b=some o)(n:H b=none):(Cu h H).get? b=some o:=
 PySem.W.hideAll_get _ e fun hm=>by
  have q:(H b).isSome=true:=(mK.mp hm).2;rw[n]at q;simp at q
theorem V3(e:(Cu h H).get? b=some o):h.get? b=some o/\H b=none:=by
 have e':h.get? b=some o:=PySem.W.of_hideAll (trk h H) e;refine⟨e',?_⟩
 cases q:H b with
 | none=>rfl
 | some x=>
  have hm:b∈trk h H:=List.mem_filter.mpr ⟨List.mem_range.mpr (Heap.lt_size e'),by simp [q]⟩;have z:(Cu h H).get? b=none:=PySem.W.hideAll_none (trk h H) hm;rw[z]at e;cases e
noncomputable def Vy(g h:Heap)(L:Addr):List (Addr × Obj):=(List.range h.objs.size).filterMap fun a=>if a=L ∨ (g.get? a).isSome=true then none else (h.get? a).map fun o=>(a,o)
noncomputable def rest(g h:Heap)(L d:Addr):List (Addr × Obj):=(Vy g h L).filter fun p=>decide (p.1 ≠ d)
structure Mod(K:bj)(mg:Str->Option Value)(base:Heap):Prop where
 Yr:K.In base
 glob:base.Ns mainGlobals mg
 blt:∃ mb,base.Ns builtinsNs mb/\∀ x:Str,x ≠ "__name__" -> mb x=bootBuiltins x
 nolimit:base.NoLimit
structure Cx where
 prog:Program
 w:World
 K:bj
 mg:Str->Option Value
 base:Heap
 A:Around
 N:List Str
 s₀:Shared
 H₀:Hp
 env:Env
 outer:List Env
 stack:List Env
 ex:List Addr
 fn:Str->Bool
 calm:Bool
 pn:List (Addr × Obj)
 xe:Value->Shared->Prop
noncomputable def frs(l:List Env):List Addr:=l.filterMap (·.frame)
abbrev Cx.fs(X:Cx):List Addr:=frs X.outer
def Vis(sc:Scope)(x:Str):Prop:=sc.names.lookup x=some .local ∨ sc.names.lookup x=some .cell ∨ sc.names.lookup x=some .free
def Loc(sc:Scope)(x:Str):Prop:=sc.names.lookup x=some .local ∨ sc.names.lookup x=some .cell
def Look(env:Env)(h:Heap)(m:Str->Option Value)(x:Str)(u:Value):Prop:=
 (env.kindOf x=some .local/\m x=some u) ∨ ((env.kindOf x=some .cell ∨ env.kindOf x=some .free)/\∃ c,env.cells.lookup x=some c/\h.IsCell c (some u))
structure Cx.Ok(X:Cx):Prop where
 mod:Mod X.K X.mg X.base
 kind:X.env.scope.kind = .function
 glob:X.env.globals=mainGlobals
 blt:X.env.builtins=builtinsNs
 above:X.s₀.heap.objs.size<=X.env.locals
 inj:∀ x y c,X.env.cells.lookup x=some c->X.env.cells.lookup y=some c->x=y
 has:∀ x,(X.env.kindOf x=some .cell ∨ X.env.kindOf x=some .free)->∃ c,X.env.cells.lookup x=some c
 cab:∀ x c,X.fn x=true->X.env.cells.lookup x=some c->X.s₀.heap.objs.size<=c
 hd:X.calm=true->X.A.handled=none
 frames:X.A.frames=some X.stack
 stk:X.stack=X.outer ∨ (X.stack=X.env :: X.outer/\X.env.frame=some X.env.locals)
 exf:∀ b∈X.ex,b ≠ X.env.locals/\∀ x c,X.env.cells.lookup x=some c->c ≠ b
 bs:∀ b o,X.base.get? b=some o->X.s₀.heap.get? b=some o/\X.H₀ b=none
 Od:X.base.objs.size<=X.s₀.heap.objs.size
 Iv:∀ b o,X.base.get? b=some o->b ∉ X.ex
 Rh:∀ b∈X.ex,b ∉ X.fs
 rF:X.s₀.heap.FunFrames X.base X.outer
 Vd:∀ b∈X.fs,X.H₀ b=none
structure Inv(X:Cx)(pins:List (Addr × Obj))(σ:List (Option V))(H:Hp)(s:Shared):Prop where
 ok:X.Ok
 os:s.os=X.s₀.os
 bare:AllBare s.gens
 base:Un X.fs X.ex X.H₀ H X.s₀.heap s.heap
 loc:∃ m,s.heap.Ns X.env.locals m/\∀(i:Nat)(x:Str)(v:V),X.N[i]? = some x->σ[i]? = some (some v)->Vis X.env.scope x->∃ u,RelV v u/\Look X.env s.heap m x u
 cell:∀ x c,X.env.cells.lookup x=some c->∃ v,s.heap.IsCell c v
 free:H X.env.locals=none
 jA:∀ x c,X.env.cells.lookup x=some c->H c=none
 pin:∀ p∈X.pn++pins,s.heap.get? p.1=some p.2/\H p.1=none/\p.1 ≠ X.env.locals/\p.1 ∉ X.fs/\∀ v,p.2.data ≠ .cell v
 hok:iZ X.prog X.w H s.heap
 len:σ.length=X.N.length
section
variable{X:Cx}{pins:List (Addr × Obj)}{σ:List (Option V)}{H H':Hp}{s:Shared}{h':Heap}
theorem Cx.Ok.qF9(ok:X.Ok)(e:X.base.get? b=some o):b ∉ X.fs:=fun hb=>by
 have:=(ok.rF.mem hb).1;rw[e]at this;cases this
theorem Inv.bs(I:Inv X pins σ H s):∀ b o,X.base.get? b=some o->s.heap.get? b=some o/\H b=none:=fun b o e=>
 ⟨I.base.keep b o (I.ok.bs b o e).1 (I.ok.bs b o e).2 (I.ok.qF9 e) (I.ok.Iv b o e),I.base.free b o (I.ok.bs b o e).1 (I.ok.bs b o e).2 (I.ok.Iv b o e)⟩
theorem Inv.bk(I:Inv X pins σ H s):∀ b o,X.base.get? b=some o->s.heap.get? b=some o:=fun b o e=>(I.bs b o e).1
theorem Inv.mod(I:Inv X pins σ H s):Mod X.K X.mg X.base:=I.ok.mod
theorem Inv.kj(I:Inv X pins σ H s):X.K.In s.heap:=I.ok.mod.Yr.keeps I.bk
theorem Inv.lt(I:Inv X pins σ H s):X.env.locals < s.heap.objs.size:=let ⟨_,hn,_⟩:=I.loc;hn.lt
theorem Inv.sz(I:Inv X pins σ H s):X.s₀.heap.objs.size<=s.heap.objs.size:=Nat.le_trans I.ok.above (Nat.le_of_lt I.lt)
theorem Inv.qF8(I:Inv X pins σ H s)(h:s.heap.objs.size<=a):a ∉ X.fs:=fun hb=>by
 obtain⟨_,o,ho,_⟩:=I.ok.rF.mem hb;exact absurd (Bc (gR ho) (Nat.le_trans I.sz h)) (Nat.lt_irrefl _)
theorem Inv.Vq(I:Inv X pins σ H s):∀ x c,X.env.cells.lookup x=some c->c ≠ X.env.locals:=fun x c e z=>by
 obtain⟨v,o,ho,hd⟩:=I.cell x c e;obtain⟨m,⟨o',es,ep,ho',hd',_⟩,_⟩:=I.loc;rw[z,ho']at ho;cases ho;rw[hd']at hd;cases hd
theorem Inv.rF(I:Inv X pins σ H s):s.heap.FunFrames X.base X.outer:=by
 have all:∀(l:List Env),(∀ b∈frs l,b∈X.fs)->X.s₀.heap.FunFrames X.base l->s.heap.FunFrames X.base l:=by
  intro l
  induction l with
  | nil=>intro _ _;trivial
  | cons env r ih=>
   intro hs hl;obtain⟨hk,⟨L,o,hf,hn,ho,hd⟩,hr⟩:=hl;have hL:L∈X.fs:=hs L (by unfold frs;rw[List.filterMap_cons,hf];exact Ed);obtain⟨sl,e⟩:=I.base.slot L o ho (I.ok.Vd L hL) hL fun z=>I.ok.Rh L z hL;exact⟨hk,⟨L,_,hf,hn,e,hd⟩,ih (fun b hb=>hs b (by unfold frs;rw[List.filterMap_cons,hf];exact HN _ hb)) hr⟩
 exact all X.outer (fun _ hb=>hb) I.ok.rF
theorem Inv.stack(I:Inv X pins σ H s):s.heap.FunFrames X.base X.stack:=by
 rcases I.ok.stk with e | ⟨e,hf⟩
 ·rw[e];exact I.rF
 ·rw[e];obtain⟨m,hn,_⟩:=I.loc;refine .cons (by rw[I.ok.kind];decide) hf hn ?_ I.rF;exact Heap.get?_none_of_le (Nat.le_trans I.ok.Od I.ok.above)
theorem Inv.Hf(I:Inv X pins σ H s):∀ b∈frs X.stack,b∈X.env.locals :: X.fs:=fun b hb=>by
 rcases I.ok.stk with e | ⟨e,hf⟩
 ·rw[e]at hb;exact HN _ hb
 ·rw[e]at hb;unfold frs at hb;rw[List.filterMap_cons,hf]at hb;exact hb
theorem Inv.qP(I:Inv X pins σ H s):∀ b∈frs X.stack,H b=none:=fun b hb=>by
 rcases bU.mp (I.Hf b hb) with e | hb
 ·rw[e];exact I.free
 ·obtain⟨_,o,ho,_⟩:=I.ok.rF.mem hb;exact I.base.free b o ho (I.ok.Vd b hb) fun z=>I.ok.Rh b z hb
theorem Inv.step{g':Array GenState}{t':Nat}{d':Drawn}{ch:List Addr}(I:Inv X pins σ H s)
  (hch:∀ b∈ch,(b∈X.ex ∨ X.s₀.heap.objs.size<=b)/\b ≠ X.env.locals/\(∀ x c,X.env.cells.lookup x=some c->c ≠ b)/\∀ p∈X.pn++pins,p.1 ≠ b)
  (keep:∀ b o,b ≠ X.env.locals->b ∉ X.fs->b ∉ ch->s.heap.get? b=some o->H b=none->h'.get? b=some o)
  (slot:∀ b o,b ≠ X.env.locals->b∈X.fs->b ∉ ch->s.heap.get? b=some o->H b=none->∃ sl,h'.get? b=some { o with slots:=sl }) (free:∀ b o,b ∉ ch->s.heap.get? b=some o->H b=none->H' b=none)
  (there:∀ b o,b ∉ ch->s.heap.get? b=some o->∃ o',h'.get? b=some o')
  (tups:∀ b xs,H b=some (.tup xs)->H' b=some (.tup xs)) (pF:∀ b o u,H b=some (.JL o u)->H' b=some (.JL o u)) (pR:∀ b ps,H b=some (.WK ps)->∃ more,H' b=some (.WK (ps++more)))
  (ns:∀ m,s.heap.Ns X.env.locals m->h'.Ns X.env.locals m) (hok:iZ X.prog X.w H' h') (hg:AllBare g') :
  Inv X pins σ H' { s with heap:=h',gens:=g',drawn:=d',toks:=t' }:=by
 have neL:∀ b o,X.s₀.heap.get? b=some o->b ≠ X.env.locals:=fun b o e=>lC (Bc (gR e) I.ok.above)
 have Zo:∀ b o,X.s₀.heap.get? b=some o->b ∉ X.ex->b ∉ ch:=fun b o e hx hb=>by
  rcases (hch b hb).1 with z | z
  ·exact hx z
  ·exact absurd (Bc (gR e) z) (Nat.lt_irrefl _)
 have cellK:∀ x c,X.env.cells.lookup x=some c->∀ v,s.heap.IsCell c v->h'.IsCell c v:=fun x c e v ⟨o,ho,hd⟩=>by
  have nch:c ∉ ch:=fun z=>(hch c z).2.2.1 x c e rfl
  by_cases hc:c∈X.fs
  ·obtain⟨sl,q⟩:=slot c o (I.Vq x c e) hc nch ho (I.jA x c e);exact⟨_,q,hd⟩
  ·exact⟨o,keep c o (I.Vq x c e) hc nch ho (I.jA x c e),hd⟩
 refine⟨I.ok,I.os,hg,⟨fun b o e n hb hx=>?_,fun b o e n hb hx=>?_,fun b o e n hx=>?_,fun b o e hx=>?_,fun b xs e=>tups b xs (I.base.tups b xs e),fun b o xs e=>pF b o xs (I.base.pF b o xs e),fun b ps e=>?_⟩,?_,fun x c e=>?_,?_,fun x c e=>?_,fun p hp=>?_,hok,I.len⟩
 ·exact keep b o (neL b o e) hb (Zo b o e hx) (I.base.keep b o e n hb hx) (I.base.free b o e n hx)
 ·obtain⟨sl,e1⟩:=I.base.slot b o e n hb hx;obtain⟨sl',e2⟩:=slot b _ (neL b o e) hb (Zo b o e hx) e1 (I.base.free b o e n hx);exact⟨sl',e2⟩
 ·obtain⟨o',e1⟩:=I.base.there b o e hx;exact free b o' (Zo b o e hx) e1 (I.base.free b o e n hx)
 ·obtain⟨o',e1⟩:=I.base.there b o e hx;exact there b o' (Zo b o e hx) e1
 ·obtain⟨m1,e1⟩:=I.base.pR b ps e;obtain⟨m2,e2⟩:=pR b _ e1;exact⟨m1++m2,by rw[e2,Array.append_assoc]⟩
 ·obtain⟨m,hn,hl⟩:=I.loc;refine⟨m,ns m hn,fun i x v e1 e2 e3=>?_⟩;obtain⟨u,r,l⟩:=hl i x v e1 e2 e3;refine⟨u,r,?_⟩;rcases l with l | ⟨k,c,e,z⟩
  ·exact .inl l
  ·exact .inr ⟨k,c,e,cellK x c e _ z⟩
 ·obtain⟨v,z⟩:=I.cell x c e;exact⟨v,cellK x c e v z⟩
 ·obtain⟨m,⟨o,_,_,ho,_⟩,_⟩:=I.loc;exact free _ o (fun z=>(hch _ z).2.1 rfl) ho I.free
 ·obtain⟨v,o,ho,hd⟩:=I.cell x c e;exact free c o (fun z=>(hch c z).2.2.1 x c e rfl) ho (I.jA x c e)
 ·obtain⟨e,n,ne,nf,d⟩:=I.pin p hp;have nch:p.1 ∉ ch:=fun z=>(hch p.1 z).2.2.2 p hp rfl;exact⟨keep p.1 p.2 ne nf nch e n,free p.1 p.2 nch e n,ne,nf,d⟩
theorem Inv.un{t':Nat}(I:Inv X pins σ H s)(u:Un X.fs [] H H' s.heap h')(hok:iZ X.prog X.w H' h'):Inv X pins σ H' { s with heap:=h',toks:=t' }:=by
 obtain⟨m,⟨o,es,ep,ho,r⟩,_⟩:=id I.loc;obtain⟨sl,hL⟩:=u.any ho I.free (by simp)
 exact I.step (g':=s.gens) (d':=s.drawn) (ch:=[]) (fun _ z=>nomatch z) (fun b o _ hb _ e n=>u.keep b o e n hb (by simp)) (fun b o _ hb _ e n=>u.slot b o e n hb (by simp)) (fun b o _ e n=>u.free b o e n (by simp)) (fun b o _ e=>u.there b o e (by simp)) u.tups u.pF u.pR (fun m' hm=>by
  obtain⟨o',es',ep',ho',r'⟩:=hm;rw[ho]at ho';cases ho'
  exact⟨_,es',ep',hL,r'⟩) hok I.bare
theorem Inv.call{g':Array GenState}{t':Nat}{d':Drawn}{ch:List Addr}(I:Inv X pins σ H s)(u:Un (frs X.stack) ch H H' s.heap h')(hok:iZ X.prog X.w H' h')(hg:AllBare g')
  (hch:∀ b∈ch,(b∈X.ex ∨ X.s₀.heap.objs.size<=b)/\b ≠ X.env.locals/\(∀ x c,X.env.cells.lookup x=some c->c ≠ b)/\∀ p∈X.pn++pins,p.1 ≠ b) :
  Inv X pins σ H' { s with heap:=h',gens:=g',drawn:=d',toks:=t' }:=by
 obtain⟨m,⟨o,es,ep,ho,r⟩,_⟩:=id I.loc;obtain⟨sl,hL⟩:=u.any ho I.free fun z=>(hch _ z).2.1 rfl
 exact I.step (ch:=ch) hch (fun b o hL hb hc e n=>u.keep b o e n (fun z=>(bU.mp (I.Hf b z)).elim hL hb) hc) (fun b o _ _ hc e n=>u.any e n hc) (fun b o hc e n=>u.free b o e n hc) (fun b o hc e=>u.there b o e hc) u.tups u.pF u.pR (fun m' hm=>by
  obtain⟨o',es',ep',ho',r'⟩:=hm;rw[ho]at ho';cases ho'
  exact⟨_,es',ep',hL,r'⟩) hok hg
theorem Inv.turned{t':Nat}{it:Addr}(I:Inv X pins σ H s)(k:∀ b o,b ≠ it->s.heap.get? b=some o->h'.get? b=some o)(hn:H it=none)(hL:it ≠ X.env.locals)
  (h1:it∈X.ex ∨ X.s₀.heap.objs.size<=it) (h2:∀ x c,X.env.cells.lookup x=some c->c ≠ it) (h3:∀ p∈X.pn++pins,p.1 ≠ it):Inv X pins σ H { s with heap:=h',toks:=t' }:=by
 have nit:∀ b u,H b=some u->b ≠ it:=fun b u e z=>by rw[z,hn]at e;cases e
 refine I.step (g':=s.gens) (d':=s.drawn) (ch:=[it]) (fun b hb=>?_) (fun b o _ _ hc e _=>k b o (fun z=>hc (by simp [z])) e) (fun b o _ _ hc e _=>⟨o.slots,k b o (fun z=>hc (by simp [z])) e⟩) (fun _ _ _ _ n=>n)
  (fun b o hc e=>⟨o,k b o (fun z=>hc (by simp [z])) e⟩) (fun _ _ e=>e) (fun _ _ _ e=>e) (fun b ps e=>⟨#[],by rw[e];simp⟩) (fun m hm=>?_) (fun b u e=>?_) I.bare
 ·have e:b=it:=by simpa using hb
  subst e;exact⟨h1,hL,h2,h3⟩
 ·obtain⟨o,es,ep,ho,r⟩:=hm;exact⟨o,es,ep,k _ o (Ne.symm hL) ho,r⟩
 ·refine (I.hok b u e).stay (fun c v hc q=>k c v ?_ q) (fun _ q=>q) fun _ _ q=>q;rcases hc with z | z
  ·rw[z];exact nit b u e
  ·exact nit c _ z
theorem Inv.tok(I:Inv X pins σ H s)(t:Nat):Inv X pins σ H { s with toks:=t }:=I.un (h':=s.heap) (t':=t) Un.refl I.hok
theorem Inv.kept(I:Inv X pins σ H s)(k:∀ b u,s.heap.get? b=some u->h'.get? b=some u):Inv X pins σ H { s with heap:=h',toks:=t' }:=I.un (Un.kept k) (I.hok.kept k)
theorem Inv.laid(I:Inv X pins σ H s)(k:∀ b u,s.heap.get? b=some u->h'.get? b=some u)(hp:s.heap.objs.size<=a)(new:bK X.prog X.w (upd H a o) h' a o) :
  Inv X pins σ (upd H a o) { s with heap:=h',toks:=t' }:=I.un (Un.laid k hp (I.hok.fresh hp)) (I.hok.laid k hp new)
theorem Inv.write(I:Inv X pins σ H s)(mu:Mut (H x))(he:e=x ∨ H e=some (.own x))(k:∀ b u,b ≠ e->s.heap.get? b=some u->h'.get? b=some u)(heo:∃ u,h'.get? e=some u)
  (new:bK X.prog X.w (upd H x o) h' x o):Inv X pins σ (upd H x o) { s with heap:=h',toks:=t' }:=I.un (Un.write mu he k heo) (I.hok.write mu he k heo new)
theorem Inv.qm(I:Inv X pins σ H s)(h:∀ p∈qB7,s.heap.get? p.1=some p.2/\H p.1=none/\p.1 ≠ X.env.locals/\p.1 ∉ X.fs/\∀ v,p.2.data ≠ .cell v):Inv X qB7 σ H s:=
 ⟨I.ok,I.os,I.bare,I.base,I.loc,I.cell,I.free,I.jA,fun p hp=>(eG.mp hp).elim (fun z=>I.pin p (List.mem_append_left _ z)) (h p),I.hok,I.len⟩
theorem wK{N:List Str}(hN:N.Nodup){i j:Nat}{x:Str}(a:N[i]? = some x)(b:N[j]? = some x):i=j:=by
 obtain⟨h1,e1⟩:=jM.mp a;obtain⟨h2,e2⟩:=jM.mp b;exact (List.getElem_inj hN).mp (e1.trans e2.symm)
theorem sO{M:Model}{A:Around}{E:Value->Shared->Prop}{i:Nat}{x:Str}{v:V}{u:Value}{Q:Unit->Shared->Prop}(I:Inv X pins σ H s)(hN:X.N.Nodup)(hi:X.N[i]? = some x)(hx:Loc X.env.scope x)(r:RelV v u)
  (h:∀ s',Inv X pins (σ.set i (some v)) H s'->(∃ a,Heap.SameBut a s.heap s'.heap/\(a=X.env.locals ∨ X.env.cells.lookup x=some a))->Q () s') (hf:X.fn x=true ∨ X.env.scope.names.lookup x=some .local:=by first | exact .inl rfl | exact .inr rfl | assumption):wpAny M A (storeName X.env x u) Q E s:=by
 obtain⟨m,hn,hl⟩:=id I.loc
 have hcls:(X.env.scope.kind == .class || (X.env.scope.kind == .module && X.env.locals != X.env.globals))=false:=by rw[I.ok.kind];rfl
 have hiσ:i < σ.length:=by rw[I.len];exact (jM.mp hi).1
 have Vq:=I.Vq
 have tracked:∀ {a:Addr} {h':Heap},(∃ o,s.heap.get? a=some o/\H a=none)->Heap.SameBut a s.heap h'->iZ X.prog X.w H h':=fun {a h'} ha hs b ob e=>by
  obtain⟨_,_,hfree⟩:=ha;refine (I.hok b ob e).stay (fun c w' hc q=>(hs.2 c ?_).trans q) (fun _ q=>q) fun _ _ q=>q;rintro rfl;rcases hc with rfl | hc
  ·rw[hfree]at e;cases e
  ·rw[hfree]at hc;cases hc
 rcases hx with hk | hk
 ·refine wpAny_storeName_local hk hn (fun h' hn' hs=>?_) hcls;obtain⟨oL,_,_,hoL,_⟩:=id hn;refine h _ ⟨I.ok,I.os,I.bare,⟨fun b o e n hb hx=>?_,fun b o e n hb hx=>?_,I.base.free,fun b o e hx=>?_,I.base.tups,I.base.pF,I.base.pR⟩,⟨_,hn',fun j y v' e1 e2 e3=>?_⟩,fun y c e=>?_,I.free,I.jA,fun p hp=>?_,tracked ⟨oL,hoL,I.free⟩ hs,by simpa using I.len⟩ ⟨_,hs,.inl rfl⟩
  ·exact (hs.2 b (lC (Bc (gR e) I.ok.above))).trans (I.base.keep b o e n hb hx)
  ·obtain⟨sl,e1⟩:=I.base.slot b o e n hb hx;exact⟨sl,(hs.2 b (lC (Bc (gR e) I.ok.above))).trans e1⟩
  ·obtain⟨o',e1⟩:=I.base.there b o e hx;exact⟨o',(hs.2 b (lC (Bc (gR e) I.ok.above))).trans e1⟩
  ·by_cases hj:j=i
   ·subst hj;rw[hi]at e1;cases e1;rw[List.getElem?_set_self hiσ]at e2
    cases e2
    exact⟨u,r,.inl ⟨hk,by simp⟩⟩
   ·rw[List.getElem?_set_ne (Ne.symm hj)]at e2;obtain⟨u',r',q⟩:=hl j y v' e1 e2 e3;refine⟨u',r',?_⟩;rcases q with ⟨k,e⟩ | ⟨k,c,e,z⟩
    ·refine .inl ⟨k,?_⟩;have:y ≠ x:=fun e=>hj (wK hN e1 (e ▸ hi));simp [this,e]
    ·exact .inr ⟨k,c,e,z.sameBut hs (Vq y c e)⟩
  ·obtain⟨w',z⟩:=I.cell y c e;exact⟨w',z.sameBut hs (Vq y c e)⟩
  ·obtain⟨e,n,ne,nf,d⟩:=I.pin p hp;exact⟨(hs.2 p.1 ne).trans e,n,ne,nf,d⟩
 ·have hfn:X.fn x=true:=by
   rcases hf with z | z
   ·exact z
   ·rw[z]at hk;cases hk
  obtain⟨c,hc⟩:=I.ok.has x (.inl hk);obtain⟨w',z⟩:=I.cell x c hc;refine wpAny_storeName_cell I.ok.kind hk hc z (fun h' hc' hs=>?_);obtain⟨oc,hoc,qFY⟩:=id z;refine h { s with heap:=h' } ⟨I.ok,I.os,I.bare,⟨fun b o e n hb hx=>?_,fun b o e n hb hx=>?_,I.base.free,fun b o e hx=>?_,I.base.tups,I.base.pF,I.base.pR⟩,⟨m,hn.sameBut hs (Ne.symm (Vq x c hc)),fun j y v' e1 e2 e3=>?_⟩,fun y c' e=>?_,I.free,I.jA,fun p hp=>?_,tracked ⟨oc,hoc,I.jA x c hc⟩ hs,by simpa using I.len⟩ ⟨c,hs,.inr hc⟩
  ·exact (hs.2 b (lC (Bc (gR e) (I.ok.cab x c hfn hc)))).trans (I.base.keep b o e n hb hx)
  ·obtain⟨sl,e1⟩:=I.base.slot b o e n hb hx;exact⟨sl,(hs.2 b (lC (Bc (gR e) (I.ok.cab x c hfn hc)))).trans e1⟩
  ·obtain⟨o',e1⟩:=I.base.there b o e hx;exact⟨o',(hs.2 b (lC (Bc (gR e) (I.ok.cab x c hfn hc)))).trans e1⟩
  ·by_cases hj:j=i
   ·subst hj;rw[hi]at e1;cases e1;rw[List.getElem?_set_self hiσ]at e2
    cases e2
    exact⟨u,r,.inr ⟨.inl hk,c,hc,hc'⟩⟩
   ·rw[List.getElem?_set_ne (Ne.symm hj)]at e2;obtain⟨u',r',q⟩:=hl j y v' e1 e2 e3;refine⟨u',r',?_⟩;rcases q with q | ⟨k,c',e,z'⟩
    ·exact .inl q
    ·refine .inr ⟨k,c',e,z'.sameBut hs ?_⟩;rintro rfl;exact hj (wK hN e1 (I.ok.inj _ _ _ e hc ▸ hi))
  ·by_cases hcc:c'=c
   ·subst hcc;exact⟨_,hc'⟩
   ·obtain⟨w2,z2⟩:=I.cell y c' e;exact⟨w2,z2.sameBut hs hcc⟩
  ·obtain⟨e,n,ne,nf,d⟩:=I.pin p hp;refine⟨(hs.2 p.1 ?_).trans e,n,ne,nf,d⟩;intro q;rw[q,hoc]at e;have q':oc=p.2:=iM e;exact d w' (by rw[<-q'];exact qFY)
theorem il(I:Inv X pins σ H s)(hN:X.N.Nodup)(hi:X.N[i]? = some x)(hx:Loc X.env.scope x)(r:RelV v u)
  (h:∀ s',Inv X pins (σ.set i (some v)) H s'->Q () s') (hf:X.fn x=true ∨ X.env.scope.names.lookup x=some .local:=by first | exact .inl rfl | exact .inr rfl | assumption):wpAny M A (storeName X.env x u) Q E s:=
 sO I hN hi hx r (fun s' I' _=>h s' I') hf
theorem Inv.call'(I:Inv X pins σ H s)(ho:s'.os=s.os)(u:Un (frs X.stack) ch H H' s.heap s'.heap)(hok:iZ X.prog X.w H' s'.heap)(hg:AllBare s'.gens)
  (hch:∀ b∈ch,(b∈X.ex ∨ X.s₀.heap.objs.size<=b)/\b ≠ X.env.locals/\(∀ x c,X.env.cells.lookup x=some c->c ≠ b)/\∀ p∈X.pn++pins,p.1 ≠ b):Inv X pins σ H' s':=by
 obtain⟨h',g',d',t',o'⟩:=s';have e:o'=s.os:=ho;subst e;exact I.call (g':=g') (t':=t') (d':=d') u hok hg hch
end
abbrev XK:=Value->Option Addr->Hp->Prop
abbrev St:=List (Option V)
abbrev VK:=V->Hp->Prop
abbrev TE:=St->Hp->VK->Prop
abbrev TT:=St->Hp->(Bool->Hp->Prop)->Prop
abbrev TA:=St->Hp->(List V->Hp->Prop)->Prop
structure Ends where
 nx:St->Hp->Prop
 rt:VK
 bk:St->Hp->Prop:=fun _ _=>False
 ct:St->Hp->Prop:=fun _ _=>False
abbrev TS:=Ends->St->Hp->Prop
def EP(X:Cx)(pins:List (Addr × Obj))(σ:St)(Q:VK)(u:Value)(s':Shared):Prop:=∃ v H',Inv X pins σ H' s'/\RelV v u/\Q v H'
def TP(X:Cx)(pins:List (Addr × Obj))(σ:St)(Q:Bool->Hp->Prop)(b:Bool)(s':Shared):Prop:=∃ H',Inv X pins σ H' s'/\Q b H'
def AP(X:Cx)(pins:List (Addr × Obj))(σ:St)(Q:List V->Hp->Prop)(us:List Value)(s':Shared):Prop:=∃ vs H',Inv X pins σ H' s'/\Vals vs us/\Q vs H'
def SP(X:Cx)(pins:List (Addr × Obj))(D:Ends)(f:Flow)(s':Shared):Prop:=
 match f with
 | .next => ∃ σ' H',Inv X pins σ' H' s'/\D.nx σ' H'
 | .brk => ∃ σ' H',Inv X pins σ' H' s'/\D.bk σ' H'
 | .cont => ∃ σ' H',Inv X pins σ' H' s'/\D.ct σ' H'
 | .ret u => ∃ v σ' H',Inv X pins σ' H' s'/\RelV v u/\D.rt v H'
def PE(X:Cx)(e:Expr)(t:TE):Prop:=
 ∀(pins:List (Addr × Obj))(s:Shared)(σ:St)(H:Hp)(Q:VK),Inv X pins σ H s->t σ H Q->wpAny (model X.prog X.w) X.A (eval e X.env) (EP X pins σ Q) X.xe s
def PT(X:Cx)(e:Expr)(t:TT):Prop:=
 ∀(pins:List (Addr × Obj))(s:Shared)(σ:St)(H:Hp)(Q:Bool->Hp->Prop),Inv X pins σ H s->t σ H Q->wpAny (model X.prog X.w) X.A (isTrue e X.env (eval e X.env)) (TP X pins σ Q) X.xe s
def PW(X:Cx)(e:Expr)(t:TT):Prop:=
 ∀(whole:Sem Value)(pins:List (Addr × Obj))(s:Shared)(σ:St)(H:Hp)(Q:Bool->Hp->Prop),Inv X pins σ H s->t σ H Q->wpAny (model X.prog X.w) X.A (isTrue e X.env whole) (TP X pins σ Q) X.xe s
theorem PW.pt(h:PW X e t):PT X e t:=h _
def PA(X:Cx)(es:List Expr)(t:TA):Prop:=
 ∀(pos:Pos)(pins:List (Addr × Obj))(s:Shared)(σ:St)(H:Hp)(Q:List V->Hp->Prop),Inv X pins σ H s->t σ H Q->wpAny (model X.prog X.w) X.A (spliced (backTo pos (starEach es X.env))) (AP X pins σ Q) X.xe s
def PS(X:Cx)(st:Stmt)(t:TS):Prop:=
 ∀(pins:List (Addr × Obj))(s:Shared)(σ:St)(H:Hp)(D:Ends),Inv X pins σ H s->t D σ H->wpAny (model X.prog X.w) X.A (exec st X.env) (SP X pins D) X.xe s
def xf(X:Cx)(st:List Stmt)(t:TS):Prop:=
 ∀(pins:List (Addr × Obj))(s:Shared)(σ:St)(H:Hp)(D:Ends),Inv X pins σ H s->t D σ H->wpAny (model X.prog X.w) X.A (execs st X.env) (SP X pins D) X.xe s
theorem bA(h:wpAny M A t Q E s)(hQ:∀ a s,Q a s->Q' a s):wpAny M A t Q' E s:=wpAny_mono h hQ fun _ _ x=>x
section
variable{X:Cx}
inductive Ot(i:Nat)(σ:St)(H:Hp)(Q:VK):Prop
 | mk (v) (_:σ[i]? = some (some v)) (_:Q v H)
noncomputable def tC(v:V):TE:=fun _ H Q=>Q v H
theorem YD(hN:X.N[i]? = some x)(hv:Vis X.env.scope x)(hd:(x == ("__debug__" : Str))=false:=by decide)(hcd:(x == ("__classdict__" : Str))=false:=by decide):PE X (.Name x pos) (Ot i):=by
 intro pins s σ H Q I h;obtain⟨v,e,h⟩:=h;obtain⟨m,hn,hl⟩:=I.loc;obtain⟨u,r,l⟩:=hl i x v hN e hv;have fin:EP X pins σ Q u s:=⟨v,H,I,r,h⟩;rcases l with ⟨hk,hm⟩ | ⟨hk,c,hc,hcell⟩
 ·exact wpAny_Name (wpAny_loadName_local I.ok.kind hk hn hm fin) hd
 ·rcases hk with hk | hk
  ·exact wpAny_Name (wpAny_loadName_cell I.ok.kind hk hc hcell fin) hd
  ·exact wpAny_Name (wpAny_loadName_free I.ok.kind hk hc hcell fin hcd) hd
theorem zB {i j pos}:PE X (.Constant (.int i) j pos) (tC (.int i)):=fun _ _ _ H _ I h=>wpAny_Constant_int ⟨.int i,H,I.tok _,⟨_,rfl⟩,h⟩
theorem cz {b j pos}:PE X (.Constant (.bool b) j pos) (tC (.bl b)):=fun _ _ _ H _ I h=>Constant_bool ⟨.bl b,H,I,rfl,h⟩
theorem gA {j pos}:PE X (.Constant .none j pos) (tC .non):=fun _ _ _ H _ I h=>Constant_none ⟨.non,H,I,rfl,h⟩
theorem zP {x j pos}:PE X (.Constant (.str x) j pos) (tC (.str x)):=fun _ _ _ H _ I h=>Calls.Constant_str ⟨.str x,H,I.tok _,⟨_,rfl⟩,h⟩
def Gl(X:Cx)(x:Str):Prop:=X.env.kindOf x=some .globalImplicit
theorem jV(I:Inv X pins σ H s)(hg:Gl X x)(hm:X.mg x=some u)(h:Q u s)
  (hd:(x == ("__debug__" : Str))=false:=by decide):wpAny (model X.prog X.w) X.A (eval (.Name x pos) X.env) Q E s:=
 Calls.Name_function_global I.ok.kind hg (Calls.loadGlobal_global (by rw[I.ok.glob];exact I.mod.glob.keeps I.bk) hm h) hd
theorem nQ(I:Inv X pins σ H s)(hg:Gl X x)(hm:X.mg x=none)(hv:bootBuiltins x=some u)(h:Q u s)
  (hn:x ≠ "__name__" := by decide) (hd:(x == ("__debug__" : Str))=false:=by decide):wpAny (model X.prog X.w) X.A (eval (.Name x pos) X.env) Q E s:=by
 obtain⟨mb,h1,h2⟩:=I.mod.blt;exact Calls.Name_function_global I.ok.kind hg (Calls.loadGlobal_builtin (by rw[I.ok.glob];exact I.mod.glob.keeps I.bk) hm (by rw[I.ok.blt];exact h1.keeps I.bk) ((h2 x hn).trans hv) h) hd
theorem lN(hg:Gl X x)(hm:X.mg x=some u)(r:RelV v u)(hd:(x == ("__debug__" : Str))=false:=by decide):PE X (.Name x pos) (tC v):=
 fun _ _ _ H _ I h=>jV I hg hm ⟨v,H,I,r,h⟩ hd
theorem fG(hg:Gl X x)(hm:X.mg x=none)(hv:bootBuiltins x=some u)(r:RelV v u)(hn:x ≠ "__name__" := by decide)(hd:(x == ("__debug__" : Str))=false:=by decide):PE X (.Name x pos) (tC v):=
 fun _ _ _ H _ I h=>nQ I hg hm hv ⟨v,H,I,r,h⟩ hn hd
variable{a b:Expr}{ta tb:TE}{pos:Pos}
def PC(X:Cx)(op:CmpOp)(a b:Expr)(t:TE):Prop:=
 ∀(pins:List (Addr × Obj))(s:Shared)(σ:St)(H:Hp)(Q:VK),Inv X pins σ H s->t σ H Q →
  wpAny (model X.prog X.w) X.A (eval a X.env) (fun v s₁=>wpAny (model X.prog X.w) X.A (eval b X.env) (fun u s₂=>wpAny (model X.prog X.w) X.A (compareOp op v u) (EP X pins σ Q) X.xe s₂) X.xe s₁) X.xe s
inductive isB(x:V)(H:Hp)(Q:Bool->Hp->Prop):Prop
 | mk (c:Bool) (_:x = .bl c) (_:Q c H)
noncomputable def tB(t:TE):TT:=fun σ H Q=>t σ H fun x H1=>isB x H1 Q
theorem Q6(h:PC X op a b t)(h1:behindInMarks op b=false:=by first | exact nobehind _ (by decide) (by decide) | rfl):PT X (.Compare a [op] [b] pos) (tB t):=by
 intro pins s σ H Q I hw;refine wpAny_isTrue_Compare1 (bA (h pins s σ H _ I hw) fun v s1 h1=>bA h1 fun u s2 h2=>bA h2 fun c s3 ⟨x,H1,I1,r1,q1⟩=>?_) h1;obtain⟨d,rfl,q⟩:=q1
 cases r1
 exact wpAny_truthy_bool ⟨H1,I1,q⟩
theorem bR(h:PE X e t)(he:∀ whole,isTrue e X.env whole=(do let v ← whole;standAt e.pos;holding [v] (truthy v)):=by intro _;rfl):PT X e (tB t):=by
 intro pins s σ H Q I hw;refine isTrue_plain (bA (h pins s σ H _ I hw) fun v s1 ⟨x,H1,I1,r1,q1⟩=>?_) (he _);obtain⟨d,rfl,q⟩:=q1
 cases r1
 exact wpAny_truthy_bool ⟨H1,I1,q⟩
variable{tA tB':TT}{rest:List Expr}
noncomputable def qEP(t u:TT):TT:=fun σ H Q=>t σ H fun c H1=>if c=true then u σ H1 Q else Q false H1
noncomputable def tOr(t u:TT):TT:=fun σ H Q=>t σ H fun c H1=>if c=true then Q true H1 else u σ H1 Q
noncomputable def qEJ(t:TT):TT:=fun σ H Q=>t σ H fun c H1=>Q (!c) H1
theorem yP(ha:PT X a tA):PW X (.BoolOp .And [a] pos) tA:=by
 intro wh pins s σ H Q I h;refine isTrue_and (bA (ha pins s σ H Q I h) fun c s1 e=>?_)
 cases c with
 | true=>exact isTrue_and_nil e
 | false=>exact e
theorem pw_or1(ha:PT X a tA):PW X (.BoolOp .Or [a] pos) tA:=by
 intro wh pins s σ H Q I h;refine isTrue_or (bA (ha pins s σ H Q I h) fun c s1 e=>?_)
 cases c with
 | false=>exact isTrue_or_nil e
 | true=>exact e
theorem pw_and(ha:PT X a tA)(hb:PW X (.BoolOp .And (b :: rest) pos) tB'):PW X (.BoolOp .And (a :: b :: rest) pos) (qEP tA tB'):=by
 intro wh pins s σ H Q I h;refine isTrue_and (bA (ha pins s σ H _ I h) fun c s1 ⟨H1,I1,q1⟩=>?_)
 cases c with
 | true=>exact hb wh pins s1 σ H1 Q I1 q1
 | false=>exact⟨H1,I1,q1⟩
theorem pw_or(ha:PT X a tA)(hb:PW X (.BoolOp .Or (b :: rest) pos) tB'):PW X (.BoolOp .Or (a :: b :: rest) pos) (tOr tA tB'):=by
 intro wh pins s σ H Q I h;refine isTrue_or (bA (ha pins s σ H _ I h) fun c s1 ⟨H1,I1,q1⟩=>?_)
 cases c with
 | true=>exact⟨H1,I1,q1⟩
 | false=>exact hb wh pins s1 σ H1 Q I1 q1
theorem cB(ha:PT X a tA):PT X (.UnaryOp .Not a pos) (qEJ tA):=by
 intro pins s σ H Q I h;exact isTrue_not (ha pins s σ H (fun c H1=>Q (!c) H1) I h)
noncomputable def qAL(ta tb:TE):TE:=fun σ H Q=>ta σ H fun x H1 => ∃ c,x = .bl c/\if c=true then tb σ H1 Q else Q (.bl false) H1
noncomputable def qEI(ta tb:TE):TE:=fun σ H Q=>ta σ H fun x H1 => ∃ c,x = .bl c/\if c=true then Q (.bl true) H1 else tb σ H1 Q
noncomputable def qA9(ta:TE):TE:=fun σ H Q=>ta σ H fun x H1 => ∃ c,x = .bl c/\Q (.bl (!c)) H1
theorem CG {op} (h:PE X a t):PE X (.BoolOp op [a] pos) t:=fun pins s σ H Q I hw=>BoolOp_one (h pins s σ H Q I hw)
theorem QF(ha:PE X a ta)(hb:PE X (.BoolOp .And (b :: rest) pos) tb):PE X (.BoolOp .And (a :: b :: rest) pos) (qAL ta tb):=by
 intro pins s σ H Q I h;refine BoolOp_and (bA (ha pins s σ H _ I h) fun v s1 ⟨x,H1,I1,r1,q1⟩=>?_);obtain⟨c,rfl,q1⟩:=q1
 cases r1
 refine wpAny_truthy_bool ?_
 cases c with
 | true=>exact hb pins s1 σ H1 Q I1 q1
 | false=>exact⟨.bl false,H1,I1,rfl,q1⟩
theorem Wi(ha:PE X a ta)(hb:PE X (.BoolOp .Or (b :: rest) pos) tb):PE X (.BoolOp .Or (a :: b :: rest) pos) (qEI ta tb):=by
 intro pins s σ H Q I h;refine BoolOp_or (bA (ha pins s σ H _ I h) fun v s1 ⟨x,H1,I1,r1,q1⟩=>?_);obtain⟨c,rfl,q1⟩:=q1
 cases r1
 refine wpAny_truthy_bool ?_
 cases c with
 | false=>exact hb pins s1 σ H1 Q I1 q1
 | true=>exact⟨.bl true,H1,I1,rfl,q1⟩
theorem Ia(ha:PE X a ta):PE X (.UnaryOp .Not a pos) (qA9 ta):=by
 intro pins s σ H Q I h;refine UnaryOp_ (bA (ha pins s σ H _ I h) fun v s1 ⟨x,H1,I1,r1,q1⟩=>?_);obtain⟨c,rfl,q1⟩:=q1
 cases r1
 exact not_of (wpAny_truthy_bool ⟨.bl (!c),H1,I1,rfl,q1⟩)
noncomputable def tIf(t:TT)(ta tb:TE):TE:=fun σ H Q=>t σ H fun c H1=>if c=true then ta σ H1 Q else tb σ H1 Q
theorem FZ(hc:PT X c tA)(ha:PE X a ta)(hb:PE X b tb):PE X (.IfExp c a b pos) (tIf tA ta tb):=by
 intro pins s σ H Q I h;refine wpAny_IfExp (bA (hc pins s σ H _ I h) fun d s1 ⟨H1,I1,q1⟩=>?_)
 cases d with
 | true=>exact ha pins s1 σ H1 Q I1 q1
 | false=>exact hb pins s1 σ H1 Q I1 q1
end
def aR(K:bj)(H:Hp)(a:Addr)(xs:List V):Prop:=
 Rd H a (.lst xs) ∨
  ∃(o:Obj)(its:Array Value)(n:Nat),K.lookup a=some o/\o.cls = .type "list" /\ o.dict=none/\o.data = .seq its n/\its.size<=sizeLine/\Vals xs its.toList
def aJ(K:bj)(H:Hp)(a:Addr)(xs:List V):Prop:=
 Rd H a (.tup xs) ∨
  ∃(o:Obj)(its:Array Value)(n:Nat),K.lookup a=some o/\o.cls = .type "tuple" /\ o.data = .seq its n/\its.size<=sizeLine/\Vals xs its.toList
noncomputable def qGE:Value->Option V
 | .none=>some .non
 | .bool b=>some (.bl b)
 | .int i _=>some (.int i)
 | .str x _=>some (.str x)
 | .bytes b _=>some (.Oc b)
 | .float b _=>some (.flt b)
 | .ref a=>some (.ref a)
 | .type n=>some (.ty n)
 | _=>none
theorem RelV.abs(r:RelV x u):qGE u=some x:=by
 cases x with
 | non=>cases r;rfl
 | bl _=>cases r;rfl
 | int _=>obtain⟨t,rfl⟩:=r;rfl
 | str _=>obtain⟨t,rfl⟩:=r;rfl
 | Oc _=>obtain⟨t,rfl⟩:=r;rfl
 | flt _=>obtain⟨t,rfl⟩:=r;rfl
 | ref _=>cases r;rfl
 | ty _=>cases r;rfl
theorem RelV.inj(r:RelV x u)(q:RelV y u):x=y:=iM (r.abs.symm.trans q.abs)
theorem Vals.inj:∀ {xs ys:List V} {us:List Value},Vals xs us->Vals ys us->xs=ys
 | _,_,_,.nil,.nil=>rfl
 | _,_,_,.cons r t,.cons r' t'=>by rw[r.inj r',Vals.inj t t']
section
variable{X:Cx}{pins:List (Addr × Obj)}{σ:St}{H:Hp}{s:Shared}{a:Addr}{xs ys:List V}
theorem aR.of{K:bj}(h:H a=some (.lst xs)):aR K H a xs:=.inl (.inl h)
theorem aJ.of{K:bj}(h:H a=some (.tup xs)):aJ K H a xs:=.inl (.inl h)
theorem Inv.list(I:Inv X pins σ H s)(h:aR X.K H a xs):∃ its:List Value,Vals xs its/\PlainL s.heap a its.toArray/\xs.length<=sizeLine:=by
 rcases h with h | ⟨o,its,n,hk,hc,hd,hs,hz,r⟩
 ·obtain⟨z,its,n,r,e⟩:=h.ok I.hok;exact⟨its,r,⟨_,n,e,rfl,rfl,rfl⟩,z⟩
 ·refine⟨its.toList,r,⟨o,n,I.kj a o hk,hc,hd,by simpa using hs⟩,?_⟩;have e:=r.length;simp only[Array.length_toList]at e;lia
theorem Inv.tuple(I:Inv X pins σ H s)(h:aJ X.K H a xs):∃ its:List Value,Vals xs its/\IsTup s.heap a its.toArray/\xs.length<=sizeLine:=by
 rcases h with h | ⟨o,its,n,hk,hc,hs,hz,r⟩
 ·obtain⟨z,its,r,p⟩:=h.ok I.hok;exact⟨its,r,p,z⟩
 ·refine⟨its.toList,r,⟨o,I.kj a o hk,hc,n,by simpa using hs⟩,?_⟩;have e:=r.length;simp only[Array.length_toList]at e;lia
theorem Inv.Qt(I:Inv X pins σ H s)(h:aR X.K H a xs)(h':aR X.K H a ys):xs=ys:=by
 obtain⟨its,r,⟨o,n,e,_,_,d⟩,_⟩:=I.list h;obtain⟨its',r',⟨o',n',e',_,_,d'⟩,_⟩:=I.list h';rw[e]at e';cases e';rw[d]at d';injection d' with d1 _
 have:its=its':=by simpa using congrArg Array.toList d1
 subst this;exact r.inj r'
theorem Inv.yu(I:Inv X pins σ H s)(h:aJ X.K H a xs)(h':aJ X.K H a ys):xs=ys:=by
 obtain⟨its,r,⟨o,e,_,n,d⟩,_⟩:=I.tuple h;obtain⟨its',r',⟨o',e',_,n',d'⟩,_⟩:=I.tuple h';rw[e]at e';cases e';rw[d]at d';injection d' with d1 _
 have:its=its':=by simpa using congrArg Array.toList d1
 subst this;exact r.inj r'
end
abbrev Cx.wish(X:Cx)(E:Value->Shared->Prop):Cx:={ X with xe:=E }
abbrev Cx.Zm(X:Cx):Cx:=X.wish fun _ _=>False
theorem Cx.Ok.wish{X:Cx}(ok:X.Ok)(E:Value->Shared->Prop):(X.wish E).Ok:=
 ⟨ok.mod,ok.kind,ok.glob,ok.blt,ok.above,ok.inj,ok.has,ok.cab,ok.hd,ok.frames,ok.stk,ok.exf,ok.bs,ok.Od,ok.Iv,ok.Rh,ok.rF,ok.Vd⟩
theorem Cx.Ok.iH{X:Cx}{E:Value->Shared->Prop}(ok:(X.wish E).Ok):X.Ok:=
 ⟨ok.mod,ok.kind,ok.glob,ok.blt,ok.above,ok.inj,ok.has,ok.cab,ok.hd,ok.frames,ok.stk,ok.exf,ok.bs,ok.Od,ok.Iv,ok.Rh,ok.rF,ok.Vd⟩
section
variable{X:Cx}{pins:List (Addr × Obj)}{σ:St}{H:Hp}{s:Shared}{E:Value->Shared->Prop}
theorem Inv.wish(I:Inv X pins σ H s)(E:Value->Shared->Prop):Inv (X.wish E) pins σ H s:=⟨I.ok.wish E,I.os,I.bare,I.base,I.loc,I.cell,I.free,I.jA,I.pin,I.hok,I.len⟩
theorem Inv.iH(I:Inv (X.wish E) pins σ H s):Inv X pins σ H s:=⟨I.ok.iH,I.os,I.bare,I.base,I.loc,I.cell,I.free,I.jA,I.pin,I.hok,I.len⟩
theorem SP.iH(h:SP (X.wish E) pins D f s'):SP X pins D f s':=by
 cases f with
 | next=>obtain⟨σ',H',I,q⟩:=h;exact⟨σ',H',I.iH,q⟩
 | brk=>obtain⟨σ',H',I,q⟩:=h;exact⟨σ',H',I.iH,q⟩
 | cont=>obtain⟨σ',H',I,q⟩:=h;exact⟨σ',H',I.iH,q⟩
 | ret u=>obtain⟨v,σ',H',I,r,q⟩:=h;exact⟨v,σ',H',I.iH,r,q⟩
theorem xf.Zm{st:List Stmt}{t:TS}(h:xf X.Zm st t):xf X st t:=fun pins s σ H D I hw=>
 wpAny_mono (h pins s σ H D (I.wish _) hw) (fun _ _ q=>q.iH) fun _ _ z=>False.elim z
end
section
variable{X:Cx}{st:Stmt}{rest:List Stmt}{t u:TS}{e:Expr}{te:TE}{pos:Pos}
noncomputable def qAA:TS:=fun D σ H=>D.nx σ H
noncomputable def Xh(t u:TS):TS:=fun D σ H=>t { D with nx:=u D } σ H
theorem zT:xf X [] qAA:=fun _ _ σ H _ I h=>wpAny_execs_nil ⟨σ,H,I,h⟩
theorem zE(h1:PS X st t)(h2:xf X rest u):xf X (st :: rest) (Xh t u):=by
 intro pins s σ H D I h;refine wpAny_execs_cons (bA (h1 pins s σ H { D with nx:=u D } I h) fun f s1 q=>?_)
 cases f with
 | next=>
  obtain⟨σ',H',I',q⟩:=q;exact h2 pins s1 σ' H' D I' q
 | ret v=>exact q
 | brk=>exact q
 | cont=>exact q
theorem zG(h1:PS X st t):xf X [st] t:=by
 intro pins s σ H D I h;refine wpAny_execs_cons (bA (h1 pins s σ H D I h) fun f s1 q=>?_)
 cases f with
 | next=>exact wpAny_execs_nil q
 | ret v=>exact q
 | brk=>exact q
 | cont=>exact q
theorem Inv.quiet(I:Inv X pins σ H s):interactive X.env=false:=by simp [interactive,I.ok.kind]
noncomputable def qAG(te:TE):TS:=fun D σ H=>te σ H fun _ H1=>D.nx σ H1
theorem yI(he:PE X e te)(hs:swapsWith e none pos.line X.env=pure false:=by rfl):PS X (.Expr e pos) (qAG te):=by
 intro pins s σ H D I h;exact wpAny_Expr_any (bA (he pins s σ H _ I h) fun v s1 ⟨x,H1,I1,r1,q1⟩=>⟨σ,H1,I1,q1⟩) I.quiet hs
noncomputable def qEH(te:TE):TS:=fun D σ H=>te σ H D.rt
theorem zO(he:PE X e te):PS X (.Return (some e) pos) (qEH te):=by
 intro pins s σ H D I h;exact wpAny_Return_some (bA (he pins s σ H _ I h) fun v s1 ⟨x,H1,I1,r1,q1⟩=>⟨x,σ,H1,I1,r1,q1⟩)
noncomputable def qAE(c:TT)(t u:TS):TS:=fun D σ H=>c σ H fun b H1=>if b=true then t D σ H1 else u D σ H1
theorem yD(hc:PT X c tc)(ha:xf X a t)(hb:xf X b u):PS X (.If c a b pos) (qAE tc t u):=by
 intro pins s σ H D I h;refine wpAny_If (bA (hc pins s σ H _ I h) fun d s1 ⟨H1,I1,q1⟩=>?_)
 cases d with
 | true=>exact ha pins s1 σ H1 D I1 q1
 | false=>exact hb pins s1 σ H1 D I1 q1
end
abbrev TG:=V->St->Hp->(St->Hp->Prop)->Prop
abbrev TGs:=List V->St->Hp->(St->Hp->Prop)->Prop
def PG(X:Cx)(target:Expr)(t:TG):Prop:=
 ∀(pins:List (Addr × Obj))(s:Shared)(σ:St)(H:Hp)(v:V)(u:Value)(Q:St->Hp->Prop),Inv X pins σ H s->RelV v u->t v σ H Q →
  wpAny (model X.prog X.w) X.A (assign target X.env u) (fun _ s'=>∃ σ' H',Inv X pins σ' H' s'/\Q σ' H') X.xe s
def PGs(X:Cx)(ts:List Expr)(t:TGs):Prop:=
 ∀(pins:List (Addr × Obj))(s:Shared)(σ:St)(H:Hp)(vs:List V)(us:List Value)(Q:St->Hp->Prop),Inv X pins σ H s->Vals vs us->t vs σ H Q →
  wpAny (model X.prog X.w) X.A (assignInOrder ((assignEach ts X.env).map (·.2)) us) (fun _ s'=>∃ σ' H',Inv X pins σ' H' s'/\Q σ' H') X.xe s
abbrev qE4:=V->V->V->Hp->(Hp->Prop)->Prop
def qE5(X:Cx)(t:qE4):Prop:=
 ∀(pins:List (Addr × Obj))(s:Shared)(σ:St)(H:Hp)(o i v:V)(ov iv u:Value)(Q:Hp->Prop),Inv X pins σ H s->RelV o ov->RelV i iv->RelV v u->t o i v H Q →
  wpAny (model X.prog X.w) X.A (setItem ov iv u) (fun _ s'=>∃ H',Inv X pins σ H' s'/\Q H') X.xe s
abbrev TIp:=V->V->Hp->VK->Prop
def PIp(X:Cx)(op:Operator)(t:TIp):Prop:=
 ∀(pins:List (Addr × Obj))(s:Shared)(σ:St)(H:Hp)(x y:V)(v u:Value)(Q:VK),Inv X pins σ H s->RelV x v->RelV y u->t x y H Q →
  wpAny (model X.prog X.w) X.A (inplaceOp op v u) (EP X pins σ Q) X.xe s
section
variable{X:Cx}{pos:Pos}
noncomputable def Gb(i:Nat):TG:=fun v σ H Q=>Q (σ.set i (some v)) H
theorem yJ(hN:X.N.Nodup)(hi:X.N[i]? = some x)(hx:Loc X.env.scope x)(hf:X.fn x=true ∨ X.env.scope.names.lookup x=some .local:=by first | exact .inl rfl | exact .inr rfl | assumption):PG X (.Name x pos) (Gb i):=by
 intro pins s σ H v u Q I r h;exact wpAny_assign_Name (il I hN hi hx r (fun s' I'=>⟨_,H,I',h⟩) hf)
noncomputable def qGB:TGs:=fun vs σ H Q=>vs=[]/\Q σ H
noncomputable def qCH(t:TG)(u:TGs):TGs:=fun vs σ H Q => ∃ v r,vs=v :: r/\t v σ H fun σ' H'=>u r σ' H' Q
theorem Ka:PGs X [] qGB:=by
 intro pins s σ H vs us Q I r h;obtain⟨e,h⟩:=h;subst e
 cases r
 exact assignInOrder_nil ⟨σ,H,I,h⟩
theorem qp(h1:PG X e t)(h2:PGs X es u)
  (hs:(assignEach (e :: es) X.env).map (·.2)=assign e X.env :: (assignEach es X.env).map (·.2):=by rfl):PGs X (e :: es) (qCH t u):=by
 intro pins s σ H vs us Q I r h;obtain⟨v,vr,e1,h⟩:=h;subst e1
 cases r with
 | cons r rr=>
  rw[hs];refine assignInOrder_cons (bA (h1 pins s σ H _ _ _ I r h) fun _ s1 ⟨σ1,H1,I1,q1⟩=>?_);exact h2 pins s1 σ1 H1 _ _ Q I1 rr q1
noncomputable def qG9(K:bj)(n:Nat)(t:TGs):TG:=fun v σ H Q => ∃ a xs,v = .ref a/\aJ K H a xs/\xs.length=n/\t xs σ H Q
theorem Q9(hc:X.calm=true)(h:PGs X es t)
  (hn:(assignEach es X.env).length=n:=by rfl) (hst:(assignEach es X.env).findIdx? (·.1)=none:=by rfl):PG X (.Tuple es k pos) (qG9 X.K n t):=by
 intro pins s σ H v u Q I r hw;obtain⟨a,xs,e1,hq,hl,hw⟩:=hw;subst e1
 cases r
 obtain⟨its,rv,ht,hz⟩:=I.tuple hq;refine assign_Tuple_tuple (I.ok.hd hc) ht (by simp [hn,<-hl,rv.length]) hst fun h' hx=>?_;have I1:Inv X pins σ H { s with heap:=h' }:=I.kept (t':=s.toks) fun b o e=>hx b o (lC (gR e)) e;exact h pins _ σ H xs _ Q I1 (by simpa using rv) hw
noncomputable def qGA(to ti:TE)(t:qE4):TG:=fun v σ H Q=>to σ H fun o H1=>ti σ H1 fun i H2=>t o i v H2 fun H3=>Q σ H3
theorem YC(ho:PE X o to)(hi:PE X i ti)(hs:qE5 X t)
  (ha:∀ v,assign (.Subscript o i pos) X.env v=(do
   let ov ← holding [v] (eval o X.env)
   let iv ← holding [v,ov] (eval i X.env)
   standAt pos
   holding [v,ov,iv] (setItem ov iv v)
   release [v,ov,iv] []):=by intro _;rfl):PG X (.Subscript o i pos) (qGA to ti t):=by
 intro pins s σ H v u Q I r h;rw[ha];refine wpAny_bind (wpAny_holding (bA (ho pins s σ H _ I h) fun ov s1 ⟨x,H1,I1,r1,q1⟩=>?_));refine wpAny_bind (wpAny_holding (bA (hi pins s1 σ H1 _ I1 q1) fun iv s2 ⟨y,H2,I2,r2,q2⟩=>?_));refine wpAny_bind (wpAny_standAt (wpAny_bind (wpAny_holding (bA (hs pins s2 σ H2 x y v ov iv u _ I2 r1 r2 r q2) fun _ s3 ⟨H3,I3,q3⟩=>?_))));exact wpAny_release ⟨σ,H3,I3,q3⟩
noncomputable def Ov(te:TE)(g:TG):TS:=fun D σ H=>te σ H fun x H1=>g x σ H1 D.nx
theorem Y9(he:PE X e te)(hg:PG X tg g)(hs:swapsWithSole [tg] e pos.line X.env=pure false:=by rfl)(hw:swappedStores [tg] e X.env=pure none:=by rfl)
  (h1:(assignEach [tg] X.env).map (·.2)=[assign tg X.env]:=by rfl):PS X (.Assign [tg] e pos) (Ov te g):=by
 intro pins s σ H D I h;refine wpAny_Assign_stores (bA (he pins s σ H _ I h) fun v s1 ⟨x,H1,I1,r1,q1⟩=>?_) hs hw;rw[h1];exact bA (hg pins s1 σ H1 x v _ I1 r1 q1) fun _ s2 q=>q
theorem zK(hN:X.N.Nodup)(hi:X.N[i]? = some x)(hx:Loc X.env.scope x)(he:PE X e te)(hs:swapsWith e (some (.Name x pos')) pos.line X.env=pure false:=by rfl)(hf:X.fn x=true ∨ X.env.scope.names.lookup x=some .local:=by first | exact .inl rfl | exact .inr rfl | assumption) :
  PS X (.Assign [.Name x pos'] e pos) (Ov te (Gb i)):=by
 intro pins s σ H D I h;refine wpAny_Assign_Name (bA (he pins s σ H _ I h) fun v s1 ⟨y,H1,I1,r1,q1⟩=>?_) hs;exact il I1 hN hi hx r1 (fun s2 I2=>⟨_,H1,I2,q1⟩) hf
noncomputable def qEO(i:Nat)(te:TE)(ti:TIp):TS:=fun D σ H => ∃ x,σ[i]? = some (some x)/\te σ H fun y H1=>ti x y H1 fun z H2=>D.nx (σ.set i (some z)) H2
theorem Y8(hN:X.N.Nodup)(hi:X.N[i]? = some x)(hx:Loc X.env.scope x)(he:PE X e te)(ho:PIp X op ti)(hf:X.fn x=true ∨ X.env.scope.names.lookup x=some .local:=by first | exact .inl rfl | exact .inr rfl | assumption) :
  PS X (.AugAssign (.Name x pos') op e pos) (qEO i te ti):=by
 intro pins s σ H D I h;obtain⟨v,e1,h⟩:=h;obtain⟨m,hn,hl⟩:=I.loc
 have vis:Vis X.env.scope x:=by rcases hx with k | k;exact .inl k;exact .inr (.inl k)
 obtain⟨u,r,l⟩:=hl i x v hi e1 vis;refine wpAny_AugAssign_Name ?_
 have go:wpAny (model X.prog X.w) X.A (eval e X.env) (fun w s₂=>wpAny (model X.prog X.w) X.A (inplaceOp op u w) (fun r s₃=>wpAny (model X.prog X.w) X.A (storeName X.env x r) (fun _=>SP X pins D .next) X.xe s₃) X.xe s₂) X.xe s:=by
  refine bA (he pins s σ H _ I h) fun w s1 ⟨y,H1,I1,r1,q1⟩=>?_;refine bA (ho pins s1 σ H1 v y u w _ I1 r r1 q1) fun z s2 ⟨zv,H2,I2,r2,q2⟩=>?_;exact il I2 hN hi hx r2 (fun s3 I3=>⟨_,H2,I3,q2⟩) hf
 rcases l with ⟨hk,hm⟩ | ⟨hk,c,hc,hcell⟩
 ·exact wpAny_loadName_local I.ok.kind hk hn hm go
 ·rcases hk with hk | hk
  ·exact wpAny_loadName_cell I.ok.kind hk hc hcell go
  ·rcases hx with k | k
   ·have:X.env.scope.names.lookup x=some .free:=hk;rw[k]at this;cases this
   ·have:X.env.scope.names.lookup x=some .free:=hk;rw[k]at this;cases this
noncomputable def ipI(f:Int->Int->Int):TIp:=fun x y H Q => ∃ i j,x = .int i/\y = .int j/\Q (.int (f i j)) H
theorem Yw:PIp X .Add (ipI fun i j=>i+j):=by
 intro pins s σ H x y v u Q I r1 r2 h;obtain⟨i,j,e1,e2,q⟩:=h;subst e1;subst e2;obtain⟨t,rfl⟩:=r1;obtain⟨t',rfl⟩:=r2;exact iadd_int ⟨.int _,H,I.tok _,⟨_,rfl⟩,q⟩
noncomputable def Xe(c:TT)(tb:TS):TS:=fun D σ H => ∃ W:Nat->St->Hp->Prop,(∃ m,W m σ H)/\∀ m σ H,W m σ H →
 c σ H fun b H1=>if b=true then ∃ N:St->Hp->Prop,(∀ σ' H',N σ' H'->∃ m',m' < m/\W m' σ' H')/\tb { D with nx:=N,ct:=N,bk:=D.nx } σ H1 else D.nx σ H1
theorem ql(hp:PassesOwn (model X.prog X.w) X.A X.env X.xe)(hc:PT X c tc)(hb:xf X body tb):PS X (.While c body [] pos) (Xe tc tb):=by
 intro pins s σ H D I h;obtain⟨W,⟨m0,w0⟩,turn⟩:=h;refine wpAny_While (codeAny_whileLoop (fun n s'=>∃ σ' H',Inv X pins σ' H' s'/\W n σ' H') ?_ m0 ⟨σ,H,I,w0⟩);rintro n s1 ⟨σ1,H1,I1,w1⟩;refine wpAny_passesOwn hp (bA (hc pins s1 σ1 H1 _ I1 (turn n σ1 H1 w1)) fun b s2 ⟨H2,I2,q2⟩=>?_)
 cases b with
 | true=>
  obtain⟨N,hN,q2⟩:=q2;rw[if_pos rfl];refine wpAny_passesOwn hp (bA (hb pins s2 σ1 H2 _ I2 q2) fun f s3 q3=>?_)
  cases f with
  | next=>
   obtain⟨σ3,H3,I3,n3⟩:=q3;obtain⟨m',hm,w3⟩:=hN σ3 H3 n3;exact⟨m',hm,σ3,H3,I3,w3⟩
  | cont=>
   obtain⟨σ3,H3,I3,n3⟩:=q3;obtain⟨m',hm,w3⟩:=hN σ3 H3 n3;exact⟨m',hm,σ3,H3,I3,w3⟩
  | brk=>exact q3
  | ret v=>exact q3
 | false=>
  rw[if_neg pQ];exact wpAny_execs_nil ⟨σ1,H2,I2,q2⟩
end
structure It where
 go:Nat->Hp->Prop
 Te:Nat->Hp->V->Hp->Prop
 stop:Nat->Hp->Prop
def iC(X:Cx)(pins:List (Addr × Obj))(H:Hp)(b:Addr):Prop:=
 H b=none/\b ≠ X.env.locals/\b ∉ X.fs/\(b∈X.ex ∨ X.s₀.heap.objs.size<=b)/\(∀ x c,X.env.cells.lookup x=some c->c ≠ b)/\∀ p∈X.pn++pins,p.1 ≠ b
theorem Inv.wj(I:Inv X pins σ H s)(hb:s.heap.objs.size<=b)(hn:H' b=none):iC X pins H' b:=by
 refine⟨hn,Nat.ne_of_gt (Bc I.lt hb),I.qF8 hb,.inr (Nat.le_trans I.sz hb),fun x c e z=>?_,fun p hp z=>?_⟩
 ·obtain⟨v,q⟩:=I.cell x c e;exact absurd (Bc q.lt (by rw[z];exact hb)) (Nat.lt_irrefl _)
 ·exact absurd (Bc (gR (I.pin p hp).1) (by rw[z];exact hb)) (Nat.lt_irrefl _)
structure Turn(P:Program)(w:World)(K:bj)(tg:Expr)(J:It)(fp:List Addr)(it:Addr)(tn:Nat->Heap->Prop):Prop where
 mem:it∈fp
 obj:∀ i h,tn i h->∀ b∈fp,∃ o,h.get? b=some o/\∀ v,o.data ≠ .cell v
 keep:∀ i h h',tn i h->(∀ b∈fp,∀ o,h.get? b=some o->h'.get? b=some o)->tn i h'
 item:∀(X:Cx),X.prog=P->X.w=w->X.K=K->X.calm=true->∀(i:Nat)(pins:List (Addr × Obj))(s:Shared)(σ:St)(H:Hp)(E:Value->Shared->Prop),Inv X pins σ H s->(∀ b∈fp,iC X pins H b)->tn i s.heap->J.go i H →
  wpAny (model P w) X.A (pyNext (.ref it)) (fun r s1 => ∃ u,r=some u ∧
   wpAny (model P w) X.A (letOwnedTupleGo tg (.ref it) u) (fun _ s2 => ∃ x H',Inv X pins σ H' s2/\RelV x u/\J.Te i H x H'/\tn (i+1) s2.heap/\∀ b∈fp,H' b=none) E s1) E s
 done:∀(X:Cx),X.prog=P->X.w=w->X.K=K->X.calm=true->∀(i:Nat)(pins:List (Addr × Obj))(s:Shared)(σ:St)(H:Hp)(E:Value->Shared->Prop),Inv X pins σ H s->(∀ b∈fp,iC X pins H b)->tn i s.heap->J.stop i H →
  wpAny (model P w) X.A (pyNext (.ref it)) (fun r s1=>r=none/\Inv X pins σ H s1) E s
 self:∀(A:Around)(i:Nat)(s:Shared)(Q:Value->Shared->Prop)(E:Value->Shared->Prop),tn i s.heap->Q (.ref it) s->wpAny (model P w) A (pyIter (.ref it)) Q E s
abbrev TI:=St->Hp->(It->Hp->Prop)->Prop
def PIE(X:Cx)(pins:List (Addr × Obj))(σ:St)(tg:Expr)(R:It->Hp->Prop)(itv:Value)(s2:Shared):Prop:=
 ∃(it:Addr)(fp:List Addr)(tn:Nat->Heap->Prop)(J:It)(H':Hp),itv = .ref it/\Inv X pins σ H' s2/\Turn X.prog X.w X.K tg J fp it tn/\tn 0 s2.heap/\(∀ b∈fp,iC X pins H' b)/\R J H'
def PI(X:Cx)(tg iter:Expr)(wi:TI):Prop:=
 ∀(pins:List (Addr × Obj))(s:Shared)(σ:St)(H:Hp)(R:It->Hp->Prop),Inv X pins σ H s->wi σ H R →
  wpAny (model X.prog X.w) X.A (eval iter X.env) (fun v s1=>wpAny (model X.prog X.w) X.A (pyIter v) (PIE X pins σ tg R) X.xe s1) X.xe s
theorem Ku(ho:s.heap.get? it=some o)(hc:o.cls = .type n)(hd:o.data = .fields vs)
  (hn:["enumerate","zip","dict_itemiterator","dict_reverseitemiterator","odict_iterator","itertools.zip_longest","itertools.pairwise"].contains n=false) (hQ:Q () s):wpAny M A (letOwnedTupleGo tg (.ref it) u) Q E s:=by
 unfold letOwnedTupleGo
 cases tg <;> first
  | exact wpAny_pure hQ
  | (cases u <;> first
    | exact wpAny_pure hQ
    | (refine wpAny_bind (wpAny_load ho ?_)
       rw[hc,hd];show wpAny M A (if (["enumerate","zip","dict_itemiterator","dict_reverseitemiterator","odict_iterator","itertools.zip_longest","itertools.pairwise"].contains n && vs[0]? == some (rawInt _))=true then _ else _) Q E s;rw[if_neg (by intro h;rw[hn,Bool.false_and]at h;cases h)]
       exact wpAny_pure hQ))
noncomputable def ZW(K:bj)(a:Addr):It:=
 ⟨fun i H => ∃ xs x,aR K H a xs/\xs[i]? = some x,fun i H x H'=>H'=H/\∀ xs,aR K H a xs->xs[i]? = some x,fun i H => ∃ xs,aR K H a xs/\xs.length<=i⟩
noncomputable def Itt(K:bj)(a:Addr):It:=
 ⟨fun i H => ∃ xs x,aJ K H a xs/\xs[i]? = some x,fun i H x H'=>H'=H/\∀ xs,aJ K H a xs->xs[i]? = some x,fun i H => ∃ xs,aJ K H a xs/\xs.length<=i⟩
noncomputable def XH(lo:Int)(n:Nat):It:=⟨fun i _=>i < n,fun i H x H'=>H'=H/\x = .int (lo+i),fun i _=>n<=i⟩
theorem Lr{P:Program}{w:World}{K:bj}{tg:Expr}(a it:Addr):Turn P w K tg (ZW K a) [it] it (fun i h=>h.IsListIter it a i) where
 mem:=by simp
 obj:=fun i h st b hb=>by
  have e:b=it:=by simpa using hb
  subst e;obtain⟨o,e,c,d⟩:=st;exact⟨o,e,fun v z=>by rw[d]at z;cases z⟩
 keep:=fun i h h' st k=>st.at fun o e=>k it (by simp) o e
 item:=by
  intro X hP hw hK hc i pins s σ H E I hf st hg;subst hP hw hK;obtain⟨xs,x,hq,hx⟩:=hg;obtain⟨its,rv,p,hz⟩:=I.list hq;obtain⟨u,hu,ru⟩:=rv.get hx;obtain⟨f0,f1,f2,f3,f4,f5⟩:=hf it (by simp);refine wpAny_pyNext_list_item st p.isList (x:=u) (by simpa using hu) fun h' st' sb=>?_;have I1:Inv X pins σ H { s with heap:=h' }:=I.turned (t':=s.toks) (fun b o hb e=>(sb.2 b hb).trans e) f0 f1 f3 f4 f5;obtain⟨o,e,c,d⟩:=id st';exact⟨u,rfl,Ku (s:={ s with heap:=h' }) e c d (by decide) ⟨x,H,I1,ru,⟨rfl,fun ys hy=>by rw[I.Qt hy hq];exact hx⟩,st',fun b hb=>(hf b hb).1⟩⟩
 done:=by
  intro X hP hw hK hc i pins s σ H E I hf st hg;subst hP hw hK;obtain⟨xs,hq,hx⟩:=hg;obtain⟨its,rv,p,hz⟩:=I.list hq;obtain⟨f0,f1,f2,f3,f4,f5⟩:=hf it (by simp);have hl:=rv.length;exact wpAny_pyNext_list_end (I.ok.hd hc) st p.isList (by simp;lia) fun h' eb=>⟨rfl,I.turned (t':=s.toks) (fun b o hb e=>eb b o hb e) f0 f1 f3 f4 f5⟩
 self:=fun _ _ _ _ _ st h=>wpAny_pyIter_listiter st h
theorem HX{P:Program}{w:World}{K:bj}{tg:Expr}(a it:Addr):Turn P w K tg (Itt K a) [it] it (fun i h=>h.IsTupleIter it a i) where
 mem:=by simp
 obj:=fun i h st b hb=>by
  have e:b=it:=by simpa using hb
  subst e;obtain⟨o,e,c,d⟩:=st;exact⟨o,e,fun v z=>by rw[d]at z;cases z⟩
 keep:=fun i h h' st k=>st.at fun o e=>k it (by simp) o e
 item:=by
  intro X hP hw hK hc i pins s σ H E I hf st hg;subst hP hw hK;obtain⟨xs,x,hq,hx⟩:=hg;obtain⟨its,rv,p,hz⟩:=I.tuple hq;obtain⟨u,hu,ru⟩:=rv.get hx;obtain⟨f0,f1,f2,f3,f4,f5⟩:=hf it (by simp);refine wpAny_pyNext_tuple_item st (show s.heap.IsTuple a its.toArray from p) (x:=u) (by simpa using hu) fun h' st' sb=>?_;have I1:Inv X pins σ H { s with heap:=h' }:=I.turned (t':=s.toks) (fun b o hb e=>(sb.2 b hb).trans e) f0 f1 f3 f4 f5;obtain⟨o,e,c,d⟩:=id st';exact⟨u,rfl,Ku (s:={ s with heap:=h' }) e c d (by decide) ⟨x,H,I1,ru,⟨rfl,fun ys hy=>by rw[I.yu hy hq];exact hx⟩,st',fun b hb=>(hf b hb).1⟩⟩
 done:=by
  intro X hP hw hK hc i pins s σ H E I hf st hg;subst hP hw hK;obtain⟨xs,hq,hx⟩:=hg;obtain⟨its,rv,p,hz⟩:=I.tuple hq;obtain⟨f0,f1,f2,f3,f4,f5⟩:=hf it (by simp);have hl:=rv.length;exact wpAny_pyNext_tuple_end (I.ok.hd hc) st (show s.heap.IsTuple a its.toArray from p) (by simp;lia) fun h' eb=>⟨rfl,I.turned (t':=s.toks) (fun b o hb e=>eb b o hb e) f0 f1 f3 f4 f5⟩
 self:=fun _ _ _ _ _ st h=>wpAny_pyIter_tupleiter st h
theorem HY{P:Program}{w:World}{K:bj}{tg:Expr}(it:Addr)(lo:Int)(n:Nat):Turn P w K tg (XH lo n) [it] it (fun i h=>IsRangeIter h it (lo+(i:Nat) * 1) ((n:Int) - (i:Nat)) 1) where
 mem:=by simp
 obj:=fun i h st b hb=>by
  have e:b=it:=by simpa using hb
  subst e
  exact⟨_,st,fun v z=>by
   have z':Data.fields _=Data.cell v:=z
   cases z'⟩
 keep:=fun i h h' st k=>k it (by simp) _ st
 item:=by
  intro X hP hw hK hc i pins s σ H E I hf st hg;subst hP hw hK;obtain⟨f0,f1,f2,f3,f4,f5⟩:=hf it (by simp);have W:=Walks.range (prog:=X.prog) (w:=X.w) (I.ok.hd hc) it lo 1 n;refine W.item i s _ _ hg st fun v h' tk hv st' kk=>?_;obtain⟨t,rfl⟩:=hv;have I1:Inv X pins σ H { s with heap:=h',toks:=tk }:=I.turned (fun b o hb e=>kk b o (by simpa using hb) e) f0 f1 f3 f4 f5;refine⟨_,rfl,Ku (s:={ s with heap:=h',toks:=tk }) (n := "range_iterator") st' rfl rfl (by decide) ⟨.int (lo+i),H,I1,⟨t,?_⟩,⟨rfl,rfl⟩,st',fun b hb=>(hf b hb).1⟩⟩;rw[Int.mul_one]
 done:=by
  intro X hP hw hK hc i pins s σ H E I hf st hg;subst hP hw hK;obtain⟨f0,f1,f2,f3,f4,f5⟩:=hf it (by simp);exact wpAny_pyNext_range_end (I.ok.hd hc) st (by have:n<=i:=hg;lia) fun h' eb=>⟨rfl,I.turned (t':=s.toks) (fun b o hb e=>eb b o hb e) f0 f1 f3 f4 f5⟩
 self:=fun _ _ _ _ _ st h=>wpAny_pyIter_rangeiter st h
section
variable{X:Cx}{tg:Expr}
noncomputable def qBY(K:bj)(tl:TE):TI:=fun σ H R=>tl σ H fun x H1 => ∃ a,x = .ref a/\(∃ xs,aR K H1 a xs)/\R (ZW K a) H1
noncomputable def qFI(K:bj)(tl:TE):TI:=fun σ H R=>tl σ H fun x H1 => ∃ a,x = .ref a/\(∃ xs,aJ K H1 a xs)/\R (Itt K a) H1
theorem yM{l:Expr}{tl:TE}(hl:PE X l tl):PI X tg l (qBY X.K tl):=by
 intro pins s σ H R I h;refine bA (hl pins s σ H _ I h) fun v s1 ⟨x,H1,I1,r1,q1⟩=>?_;obtain⟨a,e,⟨xs,hq⟩,q⟩:=q1;subst e
 cases r1
 obtain⟨its,rv,p,hz⟩:=I1.list hq;refine wpAny_pyIter_list p.isList ?_;refine⟨s1.heap.objs.size,[s1.heap.objs.size],_,_,H1,rfl,I1.kept (t':=s1.toks) fun b o e=>ie _ e,Lr a _,⟨_,uy _ rfl,rfl,rfl⟩,fun b hb=>?_,q⟩
 have e:b=s1.heap.objs.size:=by simpa using hb
 subst e;exact I1.wj (bD _) (I1.hok.fresh (bD _))
theorem mq{l:Expr}{tl:TE}(hl:PE X l tl):PI X tg l (qFI X.K tl):=by
 intro pins s σ H R I h;refine bA (hl pins s σ H _ I h) fun v s1 ⟨x,H1,I1,r1,q1⟩=>?_;obtain⟨a,e,⟨xs,hq⟩,q⟩:=q1;subst e
 cases r1
 obtain⟨its,rv,p,hz⟩:=I1.tuple hq;refine wpAny_pyIter_tuple (show s1.heap.IsTuple a its.toArray from p) ?_;refine⟨s1.heap.objs.size,[s1.heap.objs.size],_,_,H1,rfl,I1.kept (t':=s1.toks) fun b o e=>ie _ e,HX a _,⟨_,uy _ rfl,rfl,rfl⟩,fun b hb=>?_,q⟩
 have e:b=s1.heap.objs.size:=by simpa using hb
 subst e;exact I1.wj (bD _) (I1.hok.fresh (bD _))
theorem FT{pins:List (Addr × Obj)}{σ:St}{H:Hp}{s:Shared}{R:It->Hp->Prop}{E:Value->Shared->Prop}{lo hi:Int}{t u v:Tok}{tk:Nat}(I:Inv X pins σ H s)(h1 : -(2 ^ 62)<=lo)(h2:lo < 2 ^ 62)(h3 : -(2 ^ 62)<=hi)(h4:hi < 2 ^ 62)
  (q:R (XH lo (hi - lo).toNat) H):wpAny (model X.prog X.w) X.A (pyIter (.ref s.heap.objs.size)) (PIE X pins σ tg R) E { s with heap:=s.heap.push { cls:=.type "range",data:=.fields #[.int lo t,.int hi u,.int 1 v] },toks:=tk }:=by
 refine wpAny_pyIter_range (IsRange.new ..) (small_one h1 h2 h3 h4) ?_;have I1:Inv X pins σ H { s with heap:=s.heap.push { cls:=.type "range",data:=.fields #[.int lo t,.int hi u,.int 1 v] },toks:=tk }:=I.kept fun b o e=>ie _ e
 refine⟨(s.heap.push { cls:=.type "range",data:=.fields #[.int lo t,.int hi u,.int 1 v] }).objs.size,[(s.heap.push { cls:=.type "range",data:=.fields #[.int lo t,.int hi u,.int 1 v] }).objs.size],_,_,H,rfl,
  I1.kept (t':=tk) fun b o e=>ie _ e,HY _ lo (hi - lo).toNat,?_,fun b hb=>?_,q⟩
 ·have e1:lo+((0:Nat):Int) * 1=lo:=by simp
  have e2:(((hi - lo).toNat:Nat):Int) - ((0:Nat):Int)=Builtin.Range.rangeSize lo hi 1:=by rw[rangeSize_one];split <;> lia
  show IsRangeIter _ _ (lo+((0:Nat):Int) * 1) ((((hi - lo).toNat:Nat):Int) - ((0:Nat):Int)) 1;rw[e1,e2];exact uy _ rfl
 ·have e:b=(s.heap.push { cls:=.type "range",data:=.fields #[.int lo t,.int hi u,.int 1 v] }).objs.size:=by simpa using hb
  subst e;exact I1.wj (bD _) (I1.hok.fresh (bD _))
noncomputable def qBR(ta:TA):TI:=fun σ H R=>ta σ H fun vs H1 => ∃ j:Int,vs=[.int j] /\ -(2 ^ 62)<=j/\j < 2 ^ 62/\R (XH 0 j.toNat) H1
noncomputable def qBQ(ta:TA):TI:=fun σ H R=>ta σ H fun vs H1 => ∃ i j:Int,vs=[.int i,.int j]/\(-(2 ^ 62)<=i/\i < 2 ^ 62 /\ -(2 ^ 62)<=j/\j < 2 ^ 62)/\R (XH i (j - i).toNat) H1
theorem bu{a:Expr}{ta:TA}{p pos:Pos}(hg:Gl X "range")(hm:X.mg "range" = none)(ha:PA X [a] ta)(hs:starEach [a] X.env=[(false,eval a X.env)]:=by rfl):PI X tg (.Call (.Name "range" p) [a] [] pos) (qBR ta):=by
 intro pins s σ H R I h;refine Call_ (nQ I hg hm boot_range (PyProof.Rows.callWith_type1 (bA (ha pos pins s σ H _ I h) fun us s1 ⟨vs,H1,I1,r1,q1⟩=>?_) hs rfl));obtain⟨j,e,q1,q2,q⟩:=q1;subst e
 cases r1 with
 | cons r rr=>
  cases rr
  obtain⟨t,rfl⟩:=r;exact call_range_1 (FT I1 (by lia) (by lia) q1 q2 (by simpa using q))
theorem zr(hg:Gl X "range")(hm:X.mg "range" = none)(ha:PA X [a,b] ta)(hs:starEach [a,b] X.env=[(false,eval a X.env),(false,eval b X.env)]:=by rfl)(hs2:starEach [b] X.env=[(false,eval b X.env)]:=by rfl) :
  PI X tg (.Call (.Name "range" p) [a,b] [] pos) (qBQ ta):=by
 intro pins s σ H R I h;refine Call_ (nQ I hg hm boot_range (PyProof.Rows.callWith_type1 (bA (ha pos pins s σ H _ I h) fun us s1 ⟨vs,H1,I1,r1,q1⟩=>?_) (by rw[hs,hs2]) (by rw[hs2];rfl)));obtain⟨i,j,e,⟨q1,q2,q3,q4⟩,q⟩:=q1;subst e
 cases r1 with
 | cons r rr=>
  cases rr with
  | cons r' rr=>
   cases rr
   obtain⟨t,rfl⟩:=r;obtain⟨t',rfl⟩:=r';exact call_range_2 (FT I1 q1 q2 q3 q4 q)
noncomputable def qAF(wi:TI)(g:TG)(tb:TS):TS:=fun D σ H=>wi σ H fun J H1 => ∃ W:Nat->Nat->St->Hp->Prop,(∃ m,W 0 m σ H1)/\∀ i m σ H,W i m σ H →
 (J.stop i H/\D.nx σ H) ∨ (J.go i H/\∃ N:St->Hp->Prop,(∀ σ' H',N σ' H'->∃ m',m' < m/\W (i+1) m' σ' H')/\∀ x H',J.Te i H x H'->g x σ H' fun σ2 H2=>tb { D with nx:=N,ct:=N,bk:=D.nx } σ2 H2)
noncomputable def sZ(fp:List Addr)(h:Heap):List (Addr × Obj):=fp.filterMap fun b=>(h.get? b).map fun o=>(b,o)
theorem lR(hb:b∈fp)(e:h.get? b=some o):(b,o)∈sZ fp h:=List.mem_filterMap.mpr ⟨b,hb,by rw[e];rfl⟩
theorem Mi(hp:p∈sZ fp h):p.1∈fp/\h.get? p.1=some p.2:=by
 obtain⟨b,hb,e⟩:=List.mem_filterMap.mp hp
 cases q:h.get? b with
 | none=>rw[q]at e;cases e
 | some o=>
  rw[q]at e;have e':(b,o)=p:=iM e;subst e';exact⟨hb,q⟩
theorem Inv.pinned(I:Inv X pins σ H s)(hf:∀ b∈fp,iC X pins H b)(ho:∀ b∈fp,∃ o,s.heap.get? b=some o/\∀ v,o.data ≠ .cell v):Inv X (pins++sZ fp s.heap) σ H s:=
 I.qm fun p hp=>(eG.mp hp).elim (fun z=>I.pin p (List.mem_append_right _ z)) fun z=>by
  obtain⟨hb,e⟩:=Mi z;obtain⟨f0,f1,f2,_⟩:=hf p.1 hb;obtain⟨o,e',d⟩:=ho p.1 hb;rw[e]at e';cases e';exact⟨e,f0,f1,f2,d⟩
theorem Inv.vA(I:Inv X (pins++pl) σ H s):Inv X pins σ H s:=I.qm fun p hp=>I.pin p (List.mem_append_right _ (List.mem_append_left _ hp))
theorem cU(hp:PassesOwn (model X.prog X.w) X.A X.env X.xe)(hc:X.calm=true)(hi:PI X tg iter wi)(hg:PG X tg g)(hb:xf X body tb)
  (hs:∀ x,foldedSetIterable iter X.env x=pure x:=by intro _;rfl):PS X (.For tg iter body [] pos) (qAF wi g tb):=by
 intro pins s σ H D I h;refine wpAny_For (bA (hi pins s σ H _ I h) fun v s1 h1=>bA h1 fun itv s2 h2=>?_) hs;obtain⟨it,fp,tn,J,H2,e,I2,T,st2,f2,W,⟨m0,w0⟩,turn⟩:=h2;subst e;have stat:∀ {H':Hp},(∀ b∈fp,H' b=none)->∀ b∈fp,iC X pins H' b:=fun hn b hb=>⟨hn b hb,(f2 b hb).2⟩;refine codeAny_forLoop_any (fun n s'=>∃ i σ' H',Inv X pins σ' H' s'/\tn i s'.heap/\(∀ b∈fp,H' b=none)/\W i n σ' H') ?_ m0 ⟨0,σ,H2,I2,st2,fun b hb=>(f2 b hb).1,w0⟩;rintro n s3 ⟨i,σ3,H3,I3,st3,fr3,w3⟩;rcases turn i n σ3 H3 w3 with ⟨stop,qn⟩ | ⟨go,N,hN,step⟩
 ·refine wpAny_passesOwn hp (bA (T.done X rfl rfl rfl hc i pins s3 σ3 H3 X.xe I3 (stat fr3) st3 stop) fun r s4 ⟨hr,I4⟩=>?_);subst hr;exact wpAny_execs_nil ⟨σ3,H3,I4,qn⟩
 ·refine wpAny_passesOwn hp (bA (T.item X rfl rfl rfl hc i pins s3 σ3 H3 X.xe I3 (stat fr3) st3 go) fun r s4 ⟨u,hr,h4⟩=>?_);subst hr;refine wpAny_passesOwn hp (bA h4 fun _ s5 ⟨x,H5,I5,r5,y5,xn,fr5⟩=>?_);have I5':=I5.pinned (stat fr5) (T.obj _ _ xn);refine wpAny_passesOwn hp (bA (hg _ s5 σ3 H5 x u _ I5' r5 (step x H5 y5)) fun _ s6 ⟨σ6,H6,I6,q6⟩=>?_);refine wpAny_passesOwn hp (bA (hb _ s6 σ6 H6 _ I6 q6) fun f s7 q7=>?_)
  have again:∀ {σ7:St} {H7:Hp},Inv X (pins++sZ fp s5.heap) σ7 H7 s7->N σ7 H7->∃ m,m < n/\∃ i σ' H',Inv X pins σ' H' s7/\tn i s7.heap/\(∀ b∈fp,H' b=none)/\W i m σ' H':=fun {σ7 H7} I7 n7=>by
   obtain⟨m',hm,w7⟩:=hN σ7 H7 n7;refine⟨m',hm,i+1,σ7,H7,I7.vA,T.keep _ _ _ xn fun b hb o e=>(I7.pin (b,o) (List.mem_append_right _ (List.mem_append_right _ (lR hb e)))).1,fun b hb=>?_,w7⟩;obtain⟨o,e,d⟩:=T.obj _ _ xn b hb;exact (I7.pin (b,o) (List.mem_append_right _ (List.mem_append_right _ (lR hb e)))).2.1
  cases f with
  | next=>obtain⟨σ7,H7,I7,n7⟩:=q7;exact again I7 n7
  | cont=>obtain⟨σ7,H7,I7,n7⟩:=q7;exact again I7 n7
  | brk=>obtain⟨σ7,H7,I7,q7⟩:=q7;exact⟨σ7,H7,I7.vA,q7⟩
  | ret v=>obtain⟨x7,σ7,H7,I7,r7,q7⟩:=q7;exact⟨x7,σ7,H7,I7.vA,r7,q7⟩
end
theorem rH{K:bj}{a:Addr}{xs:List V}{g:TG}{tb:TS}{D:Ends}{σ:St}{H:Hp}(Pv:Nat->St->Hp->Prop)(h0:Pv 0 σ H)(hl:∀ i σ H,i<=xs.length->Pv i σ H->aR K H a xs)
  (hs:∀ i x σ H,xs[i]? = some x->Pv i σ H->g x σ H fun σ2 H2=>tb { D with nx:=Pv (i+1),ct:=Pv (i+1),bk:=D.nx } σ2 H2) (hd:∀ σ H,Pv xs.length σ H->D.nx σ H) :
  ∃ W:Nat->Nat->St->Hp->Prop,(∃ m,W 0 m σ H)/\∀ i m σ H,W i m σ H →
   ((ZW K a).stop i H/\D.nx σ H) ∨ ((ZW K a).go i H/\∃ N:St->Hp->Prop,(∀ σ' H',N σ' H'->∃ m',m' < m/\W (i+1) m' σ' H')/\∀ x H',(ZW K a).Te i H x H'->g x σ H' fun σ2 H2=>tb { D with nx:=N,ct:=N,bk:=D.nx } σ2 H2):=by
 refine⟨fun i m σ H=>m=xs.length - i/\i<=xs.length/\Pv i σ H,⟨xs.length,by simp,Nat.zero_le _,h0⟩,?_⟩;rintro i m σ H ⟨rfl,hi,p⟩;have q:=hl i σ H hi p
 by_cases hlt:i < xs.length
 ·refine .inr ⟨⟨xs,xs[i],q,by simp [hlt]⟩,Pv (i+1),fun σ' H' p'=>⟨xs.length - (i+1),by lia,rfl,hlt,p'⟩,fun x H' y=>?_⟩;obtain⟨e,y⟩:=y;subst e;exact hs i x σ _ (y xs q) p
 ·have e:i=xs.length:=by lia
  subst e;exact .inl ⟨⟨xs,q,bD _⟩,hd σ H p⟩
theorem Cy{K:bj}{a:Addr}{xs:List V}{g:TG}{tb:TS}{D:Ends}{σ:St}{H:Hp}(Pv:Nat->St->Hp->Prop)(h0:Pv 0 σ H)(hl:∀ i σ H,i<=xs.length->Pv i σ H->aJ K H a xs)
  (hs:∀ i x σ H,xs[i]? = some x->Pv i σ H->g x σ H fun σ2 H2=>tb { D with nx:=Pv (i+1),ct:=Pv (i+1),bk:=D.nx } σ2 H2) (hd:∀ σ H,Pv xs.length σ H->D.nx σ H) :
  ∃ W:Nat->Nat->St->Hp->Prop,(∃ m,W 0 m σ H)/\∀ i m σ H,W i m σ H →
   ((Itt K a).stop i H/\D.nx σ H) ∨ ((Itt K a).go i H/\∃ N:St->Hp->Prop,(∀ σ' H',N σ' H'->∃ m',m' < m/\W (i+1) m' σ' H')/\∀ x H',(Itt K a).Te i H x H'->g x σ H' fun σ2 H2=>tb { D with nx:=N,ct:=N,bk:=D.nx } σ2 H2):=by
 refine⟨fun i m σ H=>m=xs.length - i/\i<=xs.length/\Pv i σ H,⟨xs.length,by simp,Nat.zero_le _,h0⟩,?_⟩;rintro i m σ H ⟨rfl,hi,p⟩;have q:=hl i σ H hi p
 by_cases hlt:i < xs.length
 ·refine .inr ⟨⟨xs,xs[i],q,by simp [hlt]⟩,Pv (i+1),fun σ' H' p'=>⟨xs.length - (i+1),by lia,rfl,hlt,p'⟩,fun x H' y=>?_⟩;obtain⟨e,y⟩:=y;subst e;exact hs i x σ _ (y xs q) p
 ·have e:i=xs.length:=by lia
  subst e;exact .inl ⟨⟨xs,q,bD _⟩,hd σ H p⟩
theorem dG{lo:Int}{n:Nat}{g:TG}{tb:TS}{D:Ends}{σ:St}{H:Hp}(Pv:Nat->St->Hp->Prop)(h0:Pv 0 σ H)
  (hs:∀ i σ H,i < n->Pv i σ H->g (.int (lo+i)) σ H fun σ2 H2=>tb { D with nx:=Pv (i+1),ct:=Pv (i+1),bk:=D.nx } σ2 H2) (hd:∀ σ H,Pv n σ H->D.nx σ H) :
  ∃ W:Nat->Nat->St->Hp->Prop,(∃ m,W 0 m σ H)/\∀ i m σ H,W i m σ H →
   ((XH lo n).stop i H/\D.nx σ H) ∨ ((XH lo n).go i H/\∃ N:St->Hp->Prop,(∀ σ' H',N σ' H'->∃ m',m' < m/\W (i+1) m' σ' H')/\∀ x H',(XH lo n).Te i H x H'->g x σ H' fun σ2 H2=>tb { D with nx:=N,ct:=N,bk:=D.nx } σ2 H2):=by
 refine⟨fun i m σ H=>m=n - i/\i<=n/\Pv i σ H,⟨n,by simp,Nat.zero_le _,h0⟩,?_⟩;rintro i m σ H ⟨rfl,hi,p⟩
 by_cases hlt:i < n
 ·refine .inr ⟨hlt,Pv (i+1),fun σ' H' p'=>⟨n - (i+1),by lia,rfl,hlt,p'⟩,fun x H' y=>?_⟩;obtain⟨e,y⟩:=y;subst e y;exact hs i σ _ hlt p
 ·have e:i=n:=by lia
  subst e;exact .inl ⟨bD _,hd σ H p⟩
abbrev R2:=V->V->Hp->VK->Prop
def jQ(X:Cx)(f:Value->Value->Sem Value)(r:R2):Prop:=
 ∀(pins:List (Addr × Obj))(s:Shared)(σ:St)(H:Hp)(x y:V)(v u:Value)(Q:VK),Inv X pins σ H s->RelV x v->RelV y u->r x y H Q →
  wpAny (model X.prog X.w) X.A (f v u) (EP X pins σ Q) X.xe s
def UnR(X:Cx)(f:Value->Sem Value)(r:V->Hp->VK->Prop):Prop:=
 ∀(pins:List (Addr × Obj))(s:Shared)(σ:St)(H:Hp)(x:V)(v:Value)(Q:VK),Inv X pins σ H s->RelV x v->r x H Q →
  wpAny (model X.prog X.w) X.A (f v) (EP X pins σ Q) X.xe s
def jL(X:Cx)(f:Value)(r:List V->Hp->VK->Prop):Prop:=
 ∀(pins:List (Addr × Obj))(s:Shared)(σ:St)(H:Hp)(xs:List V)(us:List Value)(Q:VK),Inv X pins σ H s->Vals xs us->r xs H Q →
  wpAny (model X.prog X.w) X.A (call f us) (EP X pins σ Q) X.xe s
noncomputable def tOp(r:R2)(ta tb:TE):TE:=fun σ H Q=>ta σ H fun x H1=>tb σ H1 fun y H2=>r x y H2 Q
noncomputable def tUn(r:V->Hp->VK->Prop)(ta:TE):TE:=fun σ H Q=>ta σ H fun x H1=>r x H1 Q
noncomputable def rI(C:Int->Int->Prop)(g:Int->Int->V):R2:=fun x y H Q => ∃ i j,x = .int i/\y = .int j/\C i j/\Q (g i j) H
noncomputable def M5(g:Int->Int->V):R2:=fun x y H Q => ∃ i j,x = .int i/\y = .int j/\Q (g i j) H
def rU(g:Int->V):V->Hp->VK->Prop:=fun x H Q => ∃ i,x = .int i/\Q (g i) H
section
variable{X:Cx}{a b c:Expr}{ta tb tc:TE}{pos:Pos}
theorem ZQ(ha:PE X a ta)(hb:PE X b tb){pins:List (Addr × Obj)}{s:Shared}{σ:St}{H:Hp}{R:V->V->Hp->Prop}(I:Inv X pins σ H s)
  (h:ta σ H fun x H1=>tb σ H1 fun y H2=>R x y H2) {Q:Value->Shared->Prop} {f:Value->Value->Sem Value}
  (hf:∀ v u s2 x y H2,Inv X pins σ H2 s2->RelV x v->RelV y u->R x y H2->wpAny (model X.prog X.w) X.A (f v u) Q X.xe s2) :
  wpAny (model X.prog X.w) X.A (eval a X.env) (fun v s₁=>wpAny (model X.prog X.w) X.A (eval b X.env) (fun u s₂=>wpAny (model X.prog X.w) X.A (f v u) Q X.xe s₂) X.xe s₁) X.xe s:=by
 refine bA (ha pins s σ H _ I h) fun v s1 ⟨x,H1,I1,r1,q1⟩=>?_;refine bA (hb pins s1 σ H1 _ I1 q1) fun u s2 ⟨y,H2,I2,r2,q2⟩=>?_;exact hf v u s2 x y H2 I2 r1 r2 q2
theorem yC{op:Operator}{r:R2}(ho:jQ X (binaryOp op) r)(ha:PE X a ta)(hb:PE X b tb):PE X (.BinOp a op b pos) (tOp r ta tb):=by
 intro pins s σ H Q I h;exact wpAny_BinOp (ZQ ha hb I h fun v u s2 x y H2 I2 rx ry q=>ho pins s2 σ H2 x y v u Q I2 rx ry q)
theorem qu(ho:UnR X (unaryOp op) r)(ha:PE X a ta):PE X (.UnaryOp op a pos) (tUn r ta):=by
 intro pins s σ H Q I h;exact UnaryOp_ (bA (ha pins s σ H _ I h) fun v s1 ⟨x,H1,I1,r1,q1⟩=>ho pins s1 σ H1 x v Q I1 r1 q1)
theorem opI{f:Value->Value->Sem Value}{C:Int->Int->Prop}{g:Int->Int->Int}
  (rule:∀(i j:Int)(t u:Tok)(s:Shared)(Q:Value->Shared->Prop)(E:Value->Shared->Prop),C i j->Q (.int (g i j) s.toks) { s with toks:=s.toks+1 }->wpAny (model X.prog X.w) X.A (f (.int i t) (.int j u)) Q E s) :
  jQ X f (rI C fun i j=>.int (g i j)):=by
 intro pins s σ H x y v u Q I rx ry h;obtain⟨i,j,rfl,rfl,hc,q⟩:=h;obtain⟨t,rfl⟩:=rx;obtain⟨t',rfl⟩:=ry;exact rule i j t t' s _ _ hc ⟨.int (g i j),H,I.tok _,⟨_,rfl⟩,q⟩
theorem YL{f:Value->Value->Sem Value}{g:Int->Int->Int}
  (rule:∀(i j:Int)(t u:Tok)(s:Shared)(Q:Value->Shared->Prop)(E:Value->Shared->Prop),Q (.int (g i j) s.toks) { s with toks:=s.toks+1 }->wpAny (model X.prog X.w) X.A (f (.int i t) (.int j u)) Q E s) :
  jQ X f (M5 fun i j=>.int (g i j)):=by
 intro pins s σ H x y v u Q I rx ry h;obtain⟨i,j,rfl,rfl,q⟩:=h;obtain⟨t,rfl⟩:=rx;obtain⟨t',rfl⟩:=ry;exact rule i j t t' s _ _ ⟨.int (g i j),H,I.tok _,⟨_,rfl⟩,q⟩
theorem Up{f:Value->Value->Sem Value}{g:Int->Int->Bool}
  (rule:∀(i j:Int)(t u:Tok)(s:Shared)(Q:Value->Shared->Prop)(E:Value->Shared->Prop),Q (.bool (g i j)) s->wpAny (model X.prog X.w) X.A (f (.int i t) (.int j u)) Q E s) :
  jQ X f (M5 fun i j=>.bl (g i j)):=by
 intro pins s σ H x y v u Q I rx ry h;obtain⟨i,j,rfl,rfl,q⟩:=h;obtain⟨t,rfl⟩:=rx;obtain⟨t',rfl⟩:=ry;exact rule i j t t' s _ _ ⟨.bl (g i j),H,I,rfl,q⟩
def qGH(i j:Int):Prop:=0 < j/\j < 1073741824
def W8(i j:Int):Prop:=(-(2 ^ 64) < i/\i < 2 ^ 64) ∨ (-(2 ^ 64) < j/\j < 2 ^ 64)
theorem W8.ok(h:W8 i j):IntMulOk i j:=by
 rcases h with ⟨h1,h2⟩ | ⟨h1,h2⟩
 ·exact .of_left (intBits_le_64 h1 h2)
 ·exact .of_right (intBits_le_64 h1 h2)
theorem HW(k:Nat):(0:Int)<=2 ^ k:=by
 rw[two_pow_cast];exact Int.natCast_nonneg _
theorem yF:jQ X (binaryOp .Add) (M5 fun i j=>.int (i+j)):=YL fun _ _ _ _ _ _ _ q=>add_int q
theorem CV:jQ X (binaryOp .Sub) (M5 fun i j=>.int (i - j)):=YL fun _ _ _ _ _ _ _ q=>sub_int q
theorem n6:jQ X (binaryOp .Mult) (rI W8 fun i j=>.int (i * j)):=opI fun _ _ _ _ _ _ _ hc q=>mul_int q hc.ok
theorem yL:jQ X (binaryOp .FloorDiv) (rI qGH fun i j=>.int (i / j)):=opI fun i j _ _ _ _ _ hc q=>by
 have h1:(0:Int) < j:=hc.1;have h2:j < 1073741824:=hc.2;exact floordiv_int (by lia) (by rw[Int.fdiv_eq_ediv_of_nonneg i (by lia)];exact q) (.inl (PyProof.noPylong_small (by lia)))
theorem zY:jQ X (binaryOp .Mod) (rI (fun _ j=>0 < j) fun i j=>.int (i % j)):=opI fun i j _ _ _ _ _ hc q=>by
 have h1:(0:Int) < j:=hc;exact mod_int' (by lia) (by rw[Int.fmod_eq_emod_of_nonneg i (by lia)];exact q)
theorem YK:jQ X (binaryOp .RShift) (rI (fun _ j=>0<=j) fun i j=>.int (i / 2 ^ j.toNat)):=opI fun i j _ _ _ _ _ hc q=>
 rshift_int hc (by rw[Int.fdiv_eq_ediv_of_nonneg i (HW _)];exact q)
theorem QL:jQ X (binaryOp .BitAnd) (M5 fun i j=>.int (Builtin.bitAnd i j)):=YL fun _ _ _ _ _ _ _ q=>and_int q
theorem unI{f:Value->Sem Value}{g:Int->Int}
  (rule:∀(i:Int)(t:Tok)(s:Shared)(Q:Value->Shared->Prop)(E:Value->Shared->Prop),Q (.int (g i) s.toks) { s with toks:=s.toks+1 }->wpAny (model X.prog X.w) X.A (f (.int i t)) Q E s) :
  UnR X f (rU fun i=>.int (g i)):=by
 intro pins s σ H x v Q I rx h;obtain⟨i,rfl,q⟩:=h;obtain⟨t,rfl⟩:=rx;exact rule i t s _ _ ⟨.int (g i),H,I.tok _,⟨_,rfl⟩,q⟩
theorem lE:UnR X (unaryOp .USub) (rU fun i=>.int (-i)):=unI fun _ _ _ _ _ q=>neg_int q
noncomputable def qAQ:V->V->Bool
 | .non,.non=>true | .non,.int _=>true | .int _,.non=>true | .non,.bl _=>true | .bl _,.non=>true | .non,.str _=>true | .str _,.non=>true
 | .int _,.int _=>true | .bl _,.bl _=>true | .str _,.str _=>true | .Oc _,.Oc _=>true
 | .int _,.str _=>true | .str _,.int _=>true | .bl _,.str _=>true | .str _,.bl _=>true
 | _,_=>false
noncomputable def rEq:R2:=fun x y H Q=>qAQ x y=true/\Q (.bl (decide (x=y))) H
noncomputable def rNe:R2:=fun x y H Q=>qAQ x y=true/\Q (.bl (!decide (x=y))) H
theorem LR:decide (V.int i=V.int j)=(i == j):=by
 rw[Bool.eq_iff_iff];simp
theorem Ry:decide (V.bl i=V.bl j)=(i == j):=by
 rw[Bool.eq_iff_iff];simp
theorem LQ:decide (V.str i=V.str j)=(i == j):=by
 rw[Bool.eq_iff_iff];simp
theorem La:decide (V.Oc i=V.Oc j)=(i.toList == j.toList):=by
 rw[Bool.eq_iff_iff]
 cases i
 cases j
 simp
theorem aa(I:Inv X pins σ H s)(q:Q (.bl k) H)(e:k=k'):EP X pins σ Q (.bool k') s:=by
 subst e;exact⟨.bl k,H,I,rfl,q⟩
theorem yG:jQ X (compareOp .Eq) rEq:=by
 intro pins s σ H x y v u Q I rx ry h;obtain⟨hs,q⟩:=h
 cases x with
 | non=>
  cases rx
  cases y with
  | non=>cases ry;exact PySem.EqNone.eq_none_none (aa I q (by simp))
  | bl j=>cases ry;exact PySem.EqNone.eq_none_bool (aa I q (by simp))
  | int j=>obtain⟨t',rfl⟩:=ry;exact PySem.EqNone.eq_none_int (aa I q (by simp))
  | str j=>obtain⟨t',rfl⟩:=ry;exact PySem.EqNone.eq_none_str (aa I q (by simp))
  | _=>exact absurd (show false=true from hs) pQ
 | bl i=>
  cases rx
  cases y with
  | non=>cases ry;exact PySem.EqNone.eq_bool_none (aa I q (by simp))
  | bl j=>cases ry;exact eq_bool (aa I q Ry)
  | str j=>obtain⟨t',rfl⟩:=ry;exact PySem.EqMixed.eq_bool_str (aa I q (by simp))
  | _=>exact absurd (show false=true from hs) pQ
 | int i=>
  obtain⟨t,rfl⟩:=rx
  cases y with
  | non=>cases ry;exact PySem.EqNone.eq_int_none (aa I q (by simp))
  | int j=>obtain⟨t',rfl⟩:=ry;exact eq_int (aa I q LR)
  | str j=>obtain⟨t',rfl⟩:=ry;exact PySem.EqMixed.eq_int_str (aa I q (by simp))
  | _=>exact absurd (show false=true from hs) pQ
 | str i=>
  obtain⟨t,rfl⟩:=rx
  cases y with
  | non=>cases ry;exact PySem.EqNone.eq_str_none (aa I q (by simp))
  | bl j=>cases ry;exact PySem.EqMixed.eq_str_bool (aa I q (by simp))
  | int j=>obtain⟨t',rfl⟩:=ry;exact PySem.EqMixed.eq_str_int (aa I q (by simp))
  | str j=>obtain⟨t',rfl⟩:=ry;exact eq_str (aa I q LQ)
  | _=>exact absurd (show false=true from hs) pQ
 | Oc i=>
  obtain⟨t,rfl⟩:=rx
  cases y with
  | Oc j=>obtain⟨t',rfl⟩:=ry;exact PySem.W.eq_bytes (aa I q La)
  | _=>exact absurd (show false=true from hs) pQ
 | _=>cases y <;> exact absurd (show false=true from hs) pQ
theorem iI:jQ X (compareOp .NotEq) rNe:=by
 intro pins s σ H x y v u Q I rx ry h;obtain⟨hs,q⟩:=h
 cases x with
 | non=>
  cases rx
  cases y with
  | non=>cases ry;exact PySem.EqNone.ne_none_none (aa I q (by simp))
  | bl j=>cases ry;exact PySem.EqNone.ne_none_bool (aa I q (by simp))
  | int j=>obtain⟨t',rfl⟩:=ry;exact PySem.EqNone.ne_none_int (aa I q (by simp))
  | str j=>obtain⟨t',rfl⟩:=ry;exact PySem.EqNone.ne_none_str (aa I q (by simp))
  | _=>exact absurd (show false=true from hs) pQ
 | bl i=>
  cases rx
  cases y with
  | non=>cases ry;exact PySem.EqNone.ne_bool_none (aa I q (by simp))
  | bl j=>cases ry;exact ne_bool (aa I q (congrArg not Ry))
  | str j=>obtain⟨t',rfl⟩:=ry;exact PySem.EqMixed.ne_bool_str (aa I q (by simp))
  | _=>exact absurd (show false=true from hs) pQ
 | int i=>
  obtain⟨t,rfl⟩:=rx
  cases y with
  | non=>cases ry;exact PySem.EqNone.ne_int_none (aa I q (by simp))
  | int j=>obtain⟨t',rfl⟩:=ry;exact ne_int (aa I q (congrArg not LR))
  | str j=>obtain⟨t',rfl⟩:=ry;exact PySem.EqMixed.ne_int_str (aa I q (by simp))
  | _=>exact absurd (show false=true from hs) pQ
 | str i=>
  obtain⟨t,rfl⟩:=rx
  cases y with
  | non=>cases ry;exact PySem.EqNone.ne_str_none (aa I q (by simp))
  | bl j=>cases ry;exact PySem.EqMixed.ne_str_bool (aa I q (by simp))
  | int j=>obtain⟨t',rfl⟩:=ry;exact PySem.EqMixed.ne_str_int (aa I q (by simp))
  | str j=>obtain⟨t',rfl⟩:=ry;exact ne_str (aa I q (congrArg not LQ))
  | _=>exact absurd (show false=true from hs) pQ
 | Oc i=>
  obtain⟨t,rfl⟩:=rx
  cases y with
  | Oc j=>obtain⟨t',rfl⟩:=ry;exact PySem.W.ne_bytes (aa I q (congrArg not La))
  | _=>exact absurd (show false=true from hs) pQ
 | _=>cases y <;> exact absurd (show false=true from hs) pQ
theorem j5:jQ X (compareOp .Lt) (M5 fun i j=>.bl (decide (i < j))):=Up fun _ _ _ _ _ _ _ q=>lt_int q
theorem Kf:jQ X (compareOp .LtE) (M5 fun i j=>.bl (decide (i<=j))):=Up fun _ _ _ _ _ _ _ q=>le_int q
theorem Aa:jQ X (compareOp .Gt) (M5 fun i j=>.bl (decide (j < i))):=Up fun _ _ _ _ _ _ _ q=>gt_int q
theorem QK:jQ X (compareOp .GtE) (M5 fun i j=>.bl (decide (j<=i))):=Up fun _ _ _ _ _ _ _ q=>ge_int q
theorem Ib:jQ X (compareOp .Is) (fun x y H Q=>y = .non/\Q (.bl (decide (x = .non))) H):=by
 intro pins s σ H x y v u Q I rx ry h;obtain⟨rfl,q⟩:=h
 cases ry
 refine is_none_gen (aa I q ?_)
 cases x <;> first
  | (cases rx;rfl)
  | (obtain⟨t,rfl⟩:=rx;rfl)
theorem Uk:jQ X (compareOp .IsNot) (fun x y H Q=>y = .non/\Q (.bl (!decide (x = .non))) H):=by
 intro pins s σ H x y v u Q I rx ry h;obtain⟨rfl,q⟩:=h
 cases ry
 refine isnot_none_gen (aa I q ?_)
 cases x <;> first
  | (cases rx;rfl)
  | (obtain⟨t,rfl⟩:=rx;rfl)
theorem jQ.or(h:jQ X f r)(h':jQ X f r'):jQ X f (fun x y H Q=>r x y H Q ∨ r' x y H Q):=by
 intro pins s σ H x y v u Q I rx ry q;rcases q with q | q
 ·exact h pins s σ H x y v u Q I rx ry q
 ·exact h' pins s σ H x y v u Q I rx ry q
theorem zR(b:Expr)(h:op ≠ .In:=by decide)(h2:op ≠ .NotIn:=by decide):behindInMarks op b=false:=by
 have e1:(op == CmpOp.In)=false:=by cases op <;> first | rfl | exact absurd rfl h
 have e2:(op == CmpOp.NotIn)=false:=by cases op <;> first | rfl | exact absurd rfl h2
 cases b <;> simp [behindInMarks,e1,e2]
theorem fB{op:CmpOp}{r:R2}(ho:jQ X (compareOp op) r)(ha:PE X a ta)(hb:PE X b tb)(hm:behindInMarks op b=false):PE X (.Compare a [op] [b] pos) (tOp r ta tb):=by
 intro pins s σ H Q I h;exact wpAny_Compare1 (ZQ ha hb I h fun v u s2 x y H2 I2 rx ry q=>ho pins s2 σ H2 x y v u Q I2 rx ry q) hm
noncomputable def WL(t:TE):TT:=fun σ H Q=>t σ H fun x H'=>isB x H' Q
theorem zL(ho:jQ X (compareOp op) r)(ha:PE X a ta)(hb:PE X b tb)(hm:behindInMarks op b=false):PT X (.Compare a [op] [b] pos) (WL (tOp r ta tb)):=by
 intro pins s σ H Q I h
 refine wpAny_isTrue_Compare1 (bA (ha pins s σ H _ I h) fun v s1 ⟨x,H1,I1,r1,q1⟩=>bA (hb pins s1 σ H1 _ I1 q1) fun u s2 ⟨y,H2,I2,r2,q2⟩=>
  bA (ho pins s2 σ H2 x y v u _ I2 r1 r2 q2) fun c s3 ⟨z,H3,I3,r3,k,e,q3⟩=>?_) hm
 subst e
 cases r3
 exact wpAny_truthy_bool ⟨H3,I3,q3⟩
noncomputable def Xk(r r':R2)(ta tb tc:TE):TE:=fun σ H Q=>ta σ H fun x H1=>tb σ H1 fun y H2=>r x y H2 fun z H3 => ∃ k,z = .bl k ∧
 (if k=true then tc σ H3 fun w' H4=>r' y w' H4 Q else Q (.bl false) H3)
theorem QC(ho:jQ X (compareOp op) r)(ho':jQ X (compareOp op') r')(ha:PE X a ta)(hb:PE X b tb)(hc:PE X c tc)
  (hm:lastMarks [op,op'] [b,c]=false:=by with_unfolding_all rfl):PE X (.Compare a [op,op'] [b,c] pos) (Xk r r' ta tb tc):=by
 intro pins s σ H Q I h
 refine Compare_chain (bA (ha pins s σ H _ I h) fun v s1 ⟨x,H1,I1,r1,q1⟩=>chain_link (bA (hb pins s1 σ H1 _ I1 q1) fun u s2 ⟨y,H2,I2,r2,q2⟩=>
  bA (ho pins s2 σ H2 x y v u _ I2 r1 r2 q2) fun d s3 ⟨z,H3,I3,r3,k,e,q3⟩=>?_)) hm
 subst e
 cases r3
 refine wpAny_truthy_bool ?_
 cases k with
 | false=>exact ite_ff ⟨.bl false,H3,I3,rfl,q3⟩
 | true=>exact ite_tt (chain_last (bA (hc pins s3 σ H3 _ I3 q3) fun w' s4 ⟨z',H4,I4,r4,q4⟩=>ho' pins s4 σ H4 y z' u w' Q I4 r2 r4 q4))
theorem wO:(sizeLine:Nat) < 2 ^ 63:=by rw[sizeLine_eq];decide
theorem wH:jQ X (binaryOp .Add) (fun x y H Q => ∃ i j,x = .str i/\y = .str j/\i.length+j.length<=sizeLine/\Q (.str (i++j)) H):=by
 intro pins s σ H x y v u Q I rx ry h;obtain⟨i,j,rfl,rfl,hz,q⟩:=h;obtain⟨t,rfl⟩:=rx;obtain⟨t',rfl⟩:=ry;exact add_str (fun t' tk=>⟨.str (i++j),H,I.tok _,⟨_,rfl⟩,q⟩) hz
theorem vals1(r:Vals [x] us):∃ u,us=[u]/\RelV x u:=by
 cases r with
 | cons r1 r2=>cases r2;exact⟨_,rfl,r1⟩
theorem vals2(r:Vals [x,y] us):∃ u w',us=[u,w']/\RelV x u/\RelV y w':=by
 cases r with
 | cons r1 r2=>
  cases r2 with
  | cons r3 r4=>cases r4;exact⟨_,_,rfl,r1,r3⟩
theorem Nv(hc:X.calm=true):jL X (.builtin "max") (fun xs H Q => ∃ i j,xs=[.int i,.int j]/\Q (.int (if j > i then j else i)) H):=by
 intro pins s σ H xs us Q I r h;obtain⟨i,j,rfl,q⟩:=h;obtain⟨u,w',rfl,⟨t,rfl⟩,⟨t',rfl⟩⟩:=vals2 r;refine max_two_ints (I.ok.hd hc) fun h' tk k=>⟨_,H,I.kept k,?_,q⟩
 by_cases hj:j > i
 ·rw[if_pos hj,if_pos hj];exact⟨_,rfl⟩
 ·rw[if_neg hj,if_neg hj];exact⟨_,rfl⟩
theorem Ax:jL X (.type "int") (fun xs H Q=>(∃ i,xs=[.int i]/\Q (.int i) H) ∨ ∃ k,xs=[.bl k]/\Q (.int (if k then 1 else 0)) H):=by
 intro pins s σ H xs us Q I r h;rcases h with ⟨i,rfl,q⟩ | ⟨k,rfl,q⟩
 ·obtain⟨u,rfl,t,rfl⟩:=vals1 r;exact call_int_int ⟨.int i,H,I,⟨_,rfl⟩,q⟩
 ·obtain⟨u,rfl,r1⟩:=vals1 r
  cases r1
  exact call_int_bool ⟨.int (if k then 1 else 0),H,I.tok _,⟨_,rfl⟩,q⟩
end
structure Jc(h:Heap)(x dx C:Addr)(mA:Str->Option Value):Prop where
 obj:h.get? x=some (PySem.W.instObj C dx)
 ns:h.Ns1 dx mA
 ne:dx ≠ x
theorem Aj{h:Heap}{dx:Addr}{mA:Str->Option Value}(n:h.Ns1 dx mA):∃ od,h.get? dx=some od/\∀ name,PySem.W.lookIn name od=some (mA name):=by
 obtain⟨o,es,ep,ho,hd,hk,_,hm⟩:=n;refine⟨o,ho,fun name=>?_⟩;have e:=hm name;unfold nsFind findBy at e;rw[<-Array.find?_toList]at e;unfold PySem.W.lookIn;rw[hd]
 dsimp only
 split
 ·rename_i y q
  rw[q]at e;exact congrArg some e
 ·rename_i q
  rw[q]at e
  have a:es.toList.any (·.refKey)=false:=by
   rw[List.any_eq_false];intro y hy;obtain⟨z,t,hkey⟩:=hk y (Array.mem_toList_iff.mp hy);simp [DictEntry.refKey,hkey]
  have a':¬ es.toList.any (·.refKey)=true:=by rw[a];exact pQ
  rw[if_neg a'];exact congrArg some e
theorem Jc.look(I:Jc h x dx C mA):∃ od,PySem.W.InstAt h x (PySem.W.instObj C dx) C (some od)/\∀ name,PySem.W.lookIn name od=some (mA name):=
 let ⟨od,ho,hl⟩:=Aj I.ns
 ⟨od,⟨I.obj,rfl,rfl,ho⟩,hl⟩
section
variable{prog:Program}{w:World}{A:Around}{E:Value->Shared->Prop}{s:Shared}{K:bj}{x dx C f:Addr}{mA:Str->Option Value}{name:Str}{v:Value}
theorem get_map(X:K.In s.heap)(I:Jc s.heap x dx C mA)(hg:PySem.W.plainGet K C name=true)(hh:PySem.W.hasDictIn K C=true)
  (ha:PySem.W.findIn K (.ref C) name=some none) (hv:mA name=some v) (hv':PySem.W.handedIn v=true) (h:Q v { s with toks:=s.toks+1 }) :
  wpAny (model prog w) A (getAttr (.ref x) name expr) Q E s:=by
 obtain⟨od,J,hl⟩:=I.look;exact PySem.W.get_value X J (PySem.W.plainGet_of hg).1 (PySem.W.findObj_own hh ha rfl (by rw[hl,hv])) hv' h
theorem RL(X:K.In s.heap)(I:Jc s.heap x dx C mA)(hg:PySem.W.plainGet K C name=true)
  (hf:PySem.W.findIn K (.ref C) name=some (some (.ref f))) (ht:PySem.W.isFn K (.ref f)=true) (hv:mA name=none) (h:Q (.ref f,[.ref x]) s) :
  wpAny (model prog w) A (getMethod (.ref x) name pl) Q E s:=by
 obtain⟨od,J,hl⟩:=I.look;exact PySem.W.method_fn X J (PySem.W.plainGet_of hg).1 (PySem.W.plainGet_of hg).2 hf (beq_iff_eq.mp ht) (by show (PySem.W.lookIn name od).map (·.isSome)=some false;rw[hl,hv];rfl) h
theorem Tu(X:K.In s.heap)(I:Jc s.heap x dx C mA)
  (hs:PySem.W.findIn K (.ref C) "__setattr__" = some (some (.builtin "object.__setattr__"))) (hp:PySem.W.plainOver K C=true) (ht:PySem.W.takerIn K C name=some none) (hh:PySem.W.hasDictIn K C=true)
  (hw:PySem.Within mA ns) (hsz:ns.length<=sizeLine)
  (h:∀ h',Jc h' x dx C (fun y=>if y=name then some v else mA y)->Heap.SameBut dx s.heap h'->Q () { s with heap:=h',toks:=s.toks+2 }) :
  wpAny (model prog w) A (setAttr (.ref x) name v) Q E s:=by
 obtain⟨od,J,hl⟩:=I.look;refine PySem.W.set_plain X J hs (PySem.W.osa_open (s:={ s with toks:=s.toks+1 }) (r:=none) X J hp ht fun b=>?_);obtain⟨cd,hc,hd'⟩:=PySem.W.any_some hh;have hx:s.heap.get? x=some ⟨.ref C,some dx,.plain,#[]⟩:=I.obj;refine wpAny_bind (wpAny_pure (wpAny_bind (wpAny_bind (wpAny_loadPart hx (wpAny_bind (PySem.W.Looks.here (s:={ s with toks:=s.toks+1 }) (PySem.W.looks_clsIn X hc) ?_))))));rw[hd'];refine wpAny_pure (a:=some dx) (wpAny_bind (wpAny_pure (wpAny_bind ?_)));refine wpAny_nsSet1 (s:={ s with toks:=s.toks+1 }) I.ns fun h' hn2 hs2=>?_;obtain⟨oD,esD,epD,hoD,hdD,hcD⟩:=hn2.count (PySem.Within.cons name v hw);refine wpAny_bind (wpAny_lookBehind hoD (by rw[hdD];exact pastItsLine_dict (Nat.le_trans hcD (by rw[eO];lia))) ?_);exact wpAny_pure (h _ ⟨(hs2.2 _ (Ne.symm I.ne)).trans I.obj,hn2,I.ne⟩ hs2)
theorem Qo(X:K.In s.heap)(hm:PySem.W.makesIn K C=true)
  (hi:PySem.W.findIn K (.ref C) "__init__" = some (some (.ref f))) (hf:PySem.W.typeIn K (.ref f)=some (.type "function"))
  (h:codeAny (model prog w) (A.under (.builtin "type.__call__" ⟨.ref C :: vs,kw⟩)) (.call (.ref f) ⟨.ref (s.heap.objs.size+1) :: vs,kw⟩) (PySem.W.InitBack (s.heap.objs.size+1) R)
   { s with heap:=(s.heap.push PySem.W.emptyDict).push (PySem.W.instObj C s.heap.objs.size) }) :
  codeAny (model prog w) A (.call (.ref C) ⟨vs,kw⟩) R s:=by
 obtain⟨hh,g,d,t,os⟩:=s;exact PySem.W.make_core (PySem.W.makes_of X hm) (PySem.W.looks_findIn X hi) (fun self=>PySem.W.bind_fn X self hf) (.inl rfl) h
end
noncomputable def cR(f:Str)(v:V):List (Str × V)->List (Str × V)
 | []=>[(f,v)]
 | (g,x) :: r=>if g=f then (g,v) :: r else (g,x) :: cR f v r
theorem aN(f g:Str)(v:V):∀ fs:List (Str × V),(cR f v fs).lookup g=if g=f then some v else fs.lookup g
 | []=>by
  show List.lookup g [(f,v)]=_
  by_cases h:g=f
  ·have hb:(g == f)=true:=beq_iff_eq.mpr h;simp only[List.lookup,hb,if_pos h]
  ·have hb:(g == f)=false:=beq_eq_false_iff_ne.mpr h;simp only[List.lookup,hb,if_neg h]
 | (k,x) :: r=>by
  have ih:=aN f g v r;rw[show cR f v ((k,x) :: r)=(if k=f then (k,v) :: r else (k,x) :: cR f v r) from rfl]
  by_cases hk:k=f
  ·rw[if_pos hk]
   by_cases h:g=k
   ·have hb:(g == k)=true:=beq_iff_eq.mpr h;simp only[List.lookup,hb,if_pos (h.trans hk)]
   ·have hb:(g == k)=false:=beq_eq_false_iff_ne.mpr h;simp only[List.lookup,hb,if_neg (fun e:g=f=>h (e.trans hk.symm))]
  ·rw[if_neg hk]
   by_cases h:g=k
   ·have hb:(g == k)=true:=beq_iff_eq.mpr h;simp only[List.lookup,hb,if_neg (fun e:g=f=>hk (h.symm.trans e))]
   ·have hb:(g == k)=false:=beq_eq_false_iff_ne.mpr h;simp only[List.lookup,hb];exact ih
theorem tE(f:Str)(v:V):∀ fs:List (Str × V),f∈(cR f v fs).map (·.1)/\∀ g,g∈fs.map (·.1)->g∈(cR f v fs).map (·.1)
 | []=>⟨by simp [cR],fun g h=>by simp at h⟩
 | (k,x) :: r=>by
  obtain⟨i1,i2⟩:=tE f v r;rw[show cR f v ((k,x) :: r)=(if k=f then (k,v) :: r else (k,x) :: cR f v r) from rfl]
  by_cases hk:k=f
  ·rw[if_pos hk];subst hk;exact⟨by simp,fun g h=>by simpa using h⟩
  ·rw[if_neg hk];refine⟨?_,fun g h=>?_⟩
   ·rw[List.map_cons];exact HN _ i1
   ·rw[List.map_cons]at h ⊢;rcases bU.mp h with e | e
    ·exact bU.mpr (.inl e)
    ·exact HN _ (i2 g e)
theorem uI(f:Str)(v:V):∀ fs:List (Str × V),(cR f v fs).length<=fs.length+1
 | []=>by simp [cR]
 | (k,x) :: r=>by
  have ih:=uI f v r;rw[show cR f v ((k,x) :: r)=(if k=f then (k,v) :: r else (k,x) :: cR f v r) from rfl]
  by_cases hk:k=f
  ·rw[if_pos hk,eO,eO];lia
  ·rw[if_neg hk,eO,eO];lia
theorem lu.some_of(r:lu (some v) o):∃ u,o=some u/\RelV v u:=by
 cases o with
 | none=>exact (show False from r).elim
 | some u=>exact⟨u,rfl,r⟩
theorem lu.none_of(r:lu none o):o=none:=by
 cases o with
 | none=>rfl
 | some u=>exact (show False from r).elim
theorem Ar(r:RelV v u):PySem.W.handedIn u=true:=by
 cases v with
 | non=>cases (show u=Value.none from r);rfl
 | bl b=>cases (show u=Value.bool b from r);rfl
 | int i=>obtain⟨t,e⟩:=(show ∃ t,u=Value.int i t from r);cases e;rfl
 | str x=>obtain⟨t,e⟩:=(show ∃ t,u=Value.str x t from r);cases e;rfl
 | Oc b=>obtain⟨t,e⟩:=(show ∃ t,u=Value.bytes b t from r);cases e;rfl
 | flt b=>obtain⟨t,e⟩:=(show ∃ t,u=Value.float b t from r);cases e;rfl
 | ref a=>cases (show u=Value.ref a from r);rfl
 | ty n=>cases (show u=Value.type n from r);rfl
section
variable{P:Program}{w:World}{H H':Hp}{h h':Heap}{a C dx:Addr}{fs fs':List (Str × V)}
theorem uo(hok:iZ P w H h)(e:H a=some (.ins C dx fs)):∃ mA,Jc h a dx C mA/\(∀ f,lu (fs.lookup f) (mA f))/\PySem.Within mA (fs.map (·.1))/\fs.length<=1000/\H dx=some (.own a):=by
 obtain⟨d,z,ne,ob,mA,n,r,q⟩:=(show bK P w H h a (.ins C dx fs) from hok a _ e);exact⟨mA,⟨ob,n,ne⟩,r,q,z,d⟩
end
structure xW(K:bj)(C:Addr):Prop where
 pg:PySem.W.plainGet K C Str.empty=true
 hd:PySem.W.hasDictIn K C=true
 po:PySem.W.plainOver K C=true
 sa:PySem.W.findIn K (.ref C) "__setattr__" = some (some (.builtin "object.__setattr__"))
theorem xW.get{K:bj}{C:Addr}(c:xW K C)(f:Str):PySem.W.plainGet K C f=true:=c.pg
def bW(K:bj)(C:Addr)(f:Str):Prop:=PySem.W.findIn K (.ref C) f=some none
theorem bW.taker{K:bj}{C:Addr}{f:Str}(n:bW K C f):PySem.W.takerIn K C f=some none:=by
 unfold PySem.W.takerIn;rw[show PySem.W.findIn K (.ref C) f=some none from n];rfl
structure Con(K:bj)(C:Addr)(f:Str)(v:V)(u:Value):Prop where
 at_:PySem.W.findIn K (.ref C) f=some (some u)
 rel:RelV v u
 get:PySem.W.specialIn K u "__get__" = some none
 cp:PySem.W.copiedNames.contains f=false
structure Meth(K:bj)(C:Addr)(m:Str)(f:Addr):Prop where
 at_:PySem.W.findIn K (.ref C) m=some (some (.ref f))
 fn:PySem.W.isFn K (.ref f)=true
 kp:KI K f
section
variable{X:Cx}{pins:List (Addr × Obj)}{σ:St}{H:Hp}{s:Shared}{a C dx:Addr}{fs:List (Str × V)}{f:Str}{v:V}{A:Around}{E:Value->Shared->Prop}
theorem JK(I:Inv X pins σ H s)(e:H a=some (.ins C dx fs))(c:xW X.K C)(n:bW X.K C f)(l:fs.lookup f=some v)
  (h:∀ u s',Inv X pins σ H s'->RelV v u->Q u s'):wpAny (model X.prog X.w) A (getAttr (.ref a) f b) Q E s:=by
 obtain⟨mA,O,r,_,_,_⟩:=uo I.hok e;obtain⟨u,hu,ru⟩:=lu.some_of (v:=v) (o:=mA f) (by rw[<-l];exact r f);exact get_map I.kj O (c.get f) c.hd n hu (Ar ru) (h u _ (I.tok _) ru)
theorem wZ(I:Inv X pins σ H s)(e:H a=some (.ins C dx fs))(c:xW X.K C)(k:Meth X.K C m g)(l:fs.lookup m=none)
  (h:Q (.ref g,[.ref a]) s):wpAny (model X.prog X.w) A (getMethod (.ref a) m pl) Q E s:=by
 obtain⟨mA,O,r,_,_,_⟩:=uo I.hok e;have hn:mA m=none:=lu.none_of (by rw[<-l];exact r m);exact RL I.kj O (c.get m) k.at_ k.fn hn h
theorem Hq(I:Inv X pins σ H s)(e:H a=some (.ins C dx fs))(c:xW X.K C)(n:bW X.K C f)(hl:fs.length < 1000)(ry:RelV y u)
  (h:∀ s',Inv X pins σ (upd H a (.ins C dx (cR f y fs))) s'->Q () s'):wpAny (model X.prog X.w) A (setAttr (.ref a) f u) Q E s:=by
 obtain⟨mA,O,r,wi,_,ho⟩:=uo I.hok e
 have hz:(fs.map (·.1)).length<=sizeLine:=by rw[bZ,sizeLine_eq];lia
 refine Tu I.kj O c.sa c.po n.taker c.hd wi hz fun h' O' sb=>h _ ?_;have hd:∃ o,h'.get? dx=some o:=let ⟨o,_,_,e',_⟩:=O'.ns;⟨o,e'⟩;refine I.write (x:=a) (e:=dx) (by rw[e];exact True.intro) (.inr ho) (fun b q hb z=>(sb.2 b hb).trans z) hd ?_;refine⟨by rw[zQ O.ne];exact ho,?_,O.ne,O'.obj,_,O'.ns,fun g=>?_,fun g hg=>?_⟩
 ·have:=uI f y fs;lia
 ·show lu ((cR f y fs).lookup g) (if g=f then some u else mA g);rw[aN]
  by_cases q:g=f
  ·rw[if_pos q,if_pos q];exact ry
  ·rw[if_neg q,if_neg q];exact r g
 ·by_cases q:g=f
  ·rw[q];exact (tE f y fs).1
  ·refine (tE f y fs).2 g (wi g fun z=>hg ?_);show (if g=f then some u else mA g)=none;rw[if_neg q];exact z
theorem Inv.made(I:Inv X pins σ H s):Inv X pins σ (upd (upd H s.heap.objs.size (.own (s.heap.objs.size+1))) (s.heap.objs.size+1) (.ins C s.heap.objs.size []))
  { s with heap:=(s.heap.push PySem.W.emptyDict).push (PySem.W.instObj C s.heap.objs.size) }:=by
 have e1:(s.heap.push PySem.W.emptyDict).get? s.heap.objs.size=some PySem.W.emptyDict:=uy s.heap rfl
 have e2:((s.heap.push PySem.W.emptyDict).push (PySem.W.instObj C s.heap.objs.size)).get? (s.heap.objs.size+1)=some (PySem.W.instObj C s.heap.objs.size):=by
  have:=uy (s.heap.push PySem.W.emptyDict) (o:=PySem.W.instObj C s.heap.objs.size) rfl
  rwa [Heap.size_push]at this
 have e3:(s.heap.push PySem.W.emptyDict).Ns s.heap.objs.size (fun _=>none):=⟨PySem.W.emptyDict,#[],_,e1,rfl,(fun e he=>absurd he (by simp)),fun _=>rfl⟩;have I1:=I.laid (a:=s.heap.objs.size) (o:=.own (s.heap.objs.size+1)) (h':=s.heap.push PySem.W.emptyDict) (t':=s.toks) (fun b u q=>ie _ q) (bD _) ⟨_,e1⟩;refine I1.laid (a:=s.heap.objs.size+1) (o:=.ins C s.heap.objs.size []) (t':=s.toks) (fun b u q=>ie _ q) (Nat.le_of_eq (Heap.size_push _ _)) ?_;have ne:s.heap.objs.size ≠ s.heap.objs.size+1:=lC (Nat.lt_succ_self _);refine⟨by rw[zQ ne,zC],Nat.zero_le _,ne,e2,fun _=>none,(Heap.Ns1.of_empty e3).at fun o q=>ie _ q,fun _=>True.intro,fun y hy=>absurd rfl hy⟩
theorem Lh(hb:attributeBase e f env (eval e env)=eval e env)
  (h:wpAny (model prog w) A (eval e env) (fun o s₁=>wpAny (model prog w) A (getAttr o f true) Q E s₁) E s):wpAny (model prog w) A (eval (.Attribute e f pos) env) Q E s:=
 Attribute_any_ h (by rw[arm_eval_Attribute,hb])
end
noncomputable def qEM(K:bj)(ta:TE)(f:Str):TE:=fun σ H Q=>ta σ H fun x H1 => ∃ a C dx fs v,x = .ref a/\H1 a=some (.ins C dx fs)/\xW K C/\bW K C f/\fs.lookup f=some v/\Q v H1
noncomputable def qET(K:bj)(ta tv:TE)(f:Str):TS:=fun D σ H=>tv σ H fun y H1=>ta σ H1 fun x H2 => ∃ a C dx fs,x = .ref a/\H2 a=some (.ins C dx fs)/\xW K C/\bW K C f/\fs.length < 1000 ∧
 D.nx σ (upd H2 a (.ins C dx (cR f y fs)))
section
variable{X:Cx}{o e value:Expr}{f:Str}{pos pos' tpos:Pos}{ta tv:TE}
theorem cI(he:PE X e ta)(hb:attributeBase e f X.env (eval e X.env)=eval e X.env):PE X (.Attribute e f pos) (qEM X.K ta f):=by
 intro pins s σ H Q I h;refine Lh hb (bA (he pins s σ H _ I h) fun u s1 ⟨x,H1,I1,rx,a,C,dx,fs,v,ex,ea,c,n,l,q⟩=>?_);subst ex;obtain rfl:u=Value.ref a:=rx;exact JK I1 ea c n l fun u' s2 I2 ru=>⟨v,H1,I2,ru,q⟩
theorem sY(ha:PE X o ta)(hv:PE X value tv)(hs:swapsWith value (some (.Attribute o f pos')) pos.line X.env=pure false):PS X (.Assign [.Attribute o f pos'] value pos) (qET X.K ta tv f):=by
 intro pins s σ H D I h;refine plainObj_wpAny_Assign_Attribute (bA (hv pins s σ H _ I h) fun u s1 ⟨y,H1,I1,ry,q⟩=>bA (ha pins s1 σ H1 _ I1 q) fun ov s2 ⟨x,H2,I2,rx,a,C,dx,fs,ex,ea,c,n,l,q2⟩=>?_) hs;subst ex;obtain rfl:ov=Value.ref a:=rx;exact Hq I2 ea c n l ry fun s3 I3=>⟨σ,_,I3,q2⟩
end
section
variable{X:Cx}{pins:List (Addr × Obj)}{σ:St}{H:Hp}{s:Shared}{A:Around}{E:Value->Shared->Prop}{Q:Value->Shared->Prop}{c:Value}{b:Bool}
inductive tV(K:bj)(H:Hp):V->Value->Prop where
 | non:tV K H .non (.type "NoneType")
 | bl (x:Bool):tV K H (.bl x) (.type "bool")
 | int (i:Int):tV K H (.int i) (.type "int")
 | str (x:Str):tV K H (.str x) (.type "str")
 | flt (x:UInt64):tV K H (.flt x) (.type "float")
 | lst {a:Addr} {xs:List V} (e:H a=some (.lst xs)):tV K H (.ref a) (.type "list")
 | JL {a:Addr} {o:Obj} {xs:List V} (e:H a=some (.JL o (.lst xs))):tV K H (.ref a) (.type "list")
 | tup {a:Addr} {xs:List V} (e:H a=some (.tup xs)):tV K H (.ref a) (.type "tuple")
 | dK {a:Addr} {kvs:List (Key × V)} (e:H a=some (.dK kvs)):tV K H (.ref a) (.type "dict")
 | dT {a:Addr} {kvs:List (List Key × V)} (e:H a=some (.dT kvs)):tV K H (.ref a) (.type "dict")
 | ins {a C dx:Addr} {fs:List (Str × V)} (e:H a=some (.ins C dx fs)) (cl:xW K C) (ha:PySem.W.findIn K (.ref C) "__class__" = some (some (.builtin "object.__class__")))
   (hn:PySem.W.specialIn K (.builtin "object.__class__") "__get__" = some (some (.builtin "getset_descriptor.__get__"))) (htk:PySem.W.takesIn K (.builtin "object.__class__")=some true)
   (hm:PySem.W.mroIn K C (.type "object")=some true):tV K H (.ref a) (.ref C)
theorem Mx(I:Inv X pins σ H s)(rx:RelV x u)(ty:tV X.K H x t)(e:PySem.W.kitOne X.K t c=some b)(h:∀ tk,Q (.bool b) { s with toks:=tk }) :
  wpAny (model X.prog X.w) A (call (.builtin "isinstance") [u,c]) Q E s:=by
 cases ty with
 | non=>cases (show u=Value.none from rx);exact PySem.W.kia_one PySem.W.kitx_none I.kj True.intro e (fun z=>nomatch z) h
 | bl y=>cases (show u=Value.bool y from rx);exact PySem.W.kia_one PySem.W.kitx_bool I.kj True.intro e (fun z=>nomatch z) h
 | int i=>obtain⟨t,q⟩:=(show ∃ t,u=Value.int i t from rx);cases q;exact PySem.W.kia_one PySem.W.kitx_int I.kj True.intro e (fun z=>nomatch z) h
 | str y=>obtain⟨t,q⟩:=(show ∃ t,u=Value.str y t from rx);cases q;exact PySem.W.kia_one PySem.W.kitx_str I.kj True.intro e (fun z=>nomatch z) h
 | flt y=>obtain⟨t,q⟩:=(show ∃ t,u=Value.float y t from rx);cases q;exact PySem.W.kia_one PySem.W.kitx_float I.kj True.intro e (fun z=>nomatch z) h
 | @lst a xs ea=>
  cases (show u=Value.ref a from rx)
  obtain⟨_,_,n,_,h1⟩:=(show bK X.prog X.w H s.heap a (.lst xs) from I.hok a _ ea);exact PySem.W.kia_one PySem.W.kitx_list I.kj ⟨_,h1,rfl⟩ e (fun z=>nomatch z) h
 | @JL a ob xs ea=>
  cases (show u=Value.ref a from rx)
  obtain⟨_,_,_,n,_,h1⟩:=(show bK X.prog X.w H s.heap a (.JL ob (.lst xs)) from I.hok a _ ea);exact PySem.W.kia_one PySem.W.kitx_list I.kj ⟨_,h1,rfl⟩ e (fun z=>nomatch z) h
 | @tup a xs ea=>
  cases (show u=Value.ref a from rx)
  obtain⟨_,_,_,p⟩:=(show bK X.prog X.w H s.heap a (.tup xs) from I.hok a _ ea);obtain⟨o,h1,h2,_⟩:=p;exact PySem.W.kia_one PySem.W.kitx_tuple I.kj ⟨o,h1,h2⟩ e (fun z=>nomatch z) h
 | @dK a kvs ea=>
  cases (show u=Value.ref a from rx)
  obtain⟨_,_,vs,_,p⟩:=(show bK X.prog X.w H s.heap a (.dK kvs) from I.hok a _ ea);obtain⟨o,es,ep,h1,h2,_⟩:=p;exact PySem.W.kia_one PySem.W.kitx_dict I.kj ⟨o,h1,h2.1⟩ e (fun z=>nomatch z) h
 | @dT a kvs ea=>
  cases (show u=Value.ref a from rx)
  obtain⟨_,_,xs,_,o,es,ep,h1,h2,_⟩:=(show bK X.prog X.w H s.heap a (.dT kvs) from I.hok a _ ea);exact PySem.W.kia_one PySem.W.kitx_dict I.kj ⟨o,h1,h2.1⟩ e (fun z=>nomatch z) h
 | @ins a C dx fs ea cl ha hn htk hm=>
  cases (show u=Value.ref a from rx)
  obtain⟨mA,O,_⟩:=uo I.hok ea;obtain⟨od,J,_⟩:=O.look;exact PySem.W.kia_one (PySem.W.kitx_own (cl.get _) cl.hd ha hn htk hm) I.kj J e (fun z=>nomatch z) h
end
structure eF(k:Nat)(A:Around):Prop where
 hd:A.handled=none
 dp:A.depth+3 * k+5 < recursionLimit
 un:A.units+16 * k+200 < cLine
theorem eF.mono(r:eF k A)(h:j<=k):eF j A:=⟨r.hd,by have:=r.dp;lia,by have:=r.un;lia⟩
theorem eF.deeper(r:eF (k+1) A)(env:Env):eF k (A.deeper env):=
 ⟨r.hd,by have:=r.dp;show A.depth+1+3 * k+5 < _;lia,by have:=r.un;show A.units+3+16 * k+200 < _;lia⟩
theorem J8{A:Around}{C:Addr}{us:List Value}{kw:List (Str × Value)}:(A.under (.builtin "type.__call__" ⟨.ref C :: us,kw⟩)).depth=A.depth+1:=by
 first | rfl | simp [Around.under,Code.weight,Code.isCreation,Code.isGuard,Code.isCaller,Code.frames,Code.isFrame,guardIds]
theorem J7{A:Around}{C:Addr}{us:List Value}{kw:List (Str × Value)}:(A.under (.builtin "type.__call__" ⟨.ref C :: us,kw⟩)).units=A.units+1:=by
 first | rfl | simp [Around.under,Code.cUnits,Code.frames,Code.isFrame]
theorem eF.make(r:eF (k+1) A)(C:Addr)(us:List Value)(kw:List (Str × Value)):eF k (A.under (.builtin "type.__call__" ⟨.ref C :: us,kw⟩)):=
 ⟨r.hd,by have:=r.dp;rw[J8];lia,by have:=r.un;rw[J7];lia⟩
theorem eF.depth(r:eF k A):A.depth < recursionLimit:=by have:=r.dp;lia
theorem eF.units(r:eF k A):A.units+64 < cLine:=by have:=r.un;lia
noncomputable def Xi:TA:=fun _ H Q=>Q [] H
noncomputable def Jr(ta:TE)(tr:TA):TA:=fun σ H Q=>ta σ H fun x H1=>tr σ H1 fun xs H2=>Q (x :: xs) H2
section
variable{X:Cx}{e:Expr}{es:List Expr}{te:TE}{t:TA}{pos:Pos}
theorem zD:PA X [] Xi:=fun _ _ _ _ H Q I h=>Calls.spliced_nil ⟨[],H,I,.nil,h⟩
theorem zA(ha:PE X e te)(hr:PA X es t)(hs:starEach (e :: es) X.env=(false,eval e X.env) :: starEach es X.env:=by rfl):PA X (e :: es) (Jr te t):=by
 intro pos pins s σ H Q I h;rw[hs];show wpAny _ _ (spliced ((false,eval e X.env) :: backTo pos (starEach es X.env))) _ _ s;refine Calls.spliced_cons (bA (ha pins s σ H _ I h) fun u s1 ⟨x,H1,I1,r1,q1⟩=>?_);exact bA (hr pos pins s1 σ H1 _ I1 q1) fun us s2 ⟨xs,H2,I2,r2,q2⟩=>⟨x :: xs,H2,I2,.cons r1 r2,q2⟩
noncomputable def qA7(t:TA):TE:=fun σ H Q=>t σ H fun xs H1=>xs.length<=sizeLine/\∀ p,H1 p=none->Q (.ref p) (upd H1 p (.tup xs))
noncomputable def qEL(t:TA):TE:=fun σ H Q=>t σ H fun xs H1=>xs.length<=sizeLine/\∀ p,H1 p=none->Q (.ref p) (upd H1 p (.lst xs))
theorem zW {x1} (h:PA X es t):PE X (.Tuple es x1 pos) (qA7 t):=by
 intro pins s σ H Q I hq;refine wpAny_Tuple_spliced (bA (h pos pins s σ H _ I hq) fun us s1 ⟨xs,H1,I1,r,z,q⟩=>⟨by rw[<-r.length];exact z,?_⟩);have hf:H1 s1.heap.objs.size=none:=I1.hok.fresh (bD _);refine⟨.ref s1.heap.objs.size,upd H1 s1.heap.objs.size (.tup xs),I1.laid (t':=s1.toks) (fun b u e=>ie _ e) (bD _) ?_,rfl,q _ hf⟩;exact⟨z,us,r,⟨_,uy _ rfl,rfl,_,rfl⟩⟩
theorem yK(h:PA X es t):PE X (.List es pos) (qEL t):=by
 intro pins s σ H Q I hq;refine wpAny_List_spliced (bA (h pos pins s σ H _ I hq) fun us s1 ⟨xs,H1,I1,r,z,q⟩=>⟨by rw[<-r.length];exact z,?_⟩);have hf:H1 s1.heap.objs.size=none:=I1.hok.fresh (bD _);refine⟨.ref s1.heap.objs.size,upd H1 s1.heap.objs.size (.lst xs),I1.laid (t':=s1.toks) (fun b u e=>ie _ e) (bD _) ?_,rfl,q _ hf⟩;exact⟨z,us,0,r,uy _ rfl⟩
end
abbrev Sp:=List V->Hp->VK->XK->Prop
abbrev Jl:=List Env->Hp->Shared->XK->Value->Shared->Prop
structure Jf(P:Program)(w:World)(K:bj)(mg:Str->Option Value)(base:Heap)(A:Around)(outer:List Env)(s:Shared)(H:Hp):Prop where
 frames:A.frames=some outer
 mod:Mod K mg base
 bs:∀ b o,base.get? b=some o->s.heap.get? b=some o/\H b=none
 Od:base.objs.size<=s.heap.objs.size
 rF:s.heap.FunFrames base outer
 Vd:∀ b∈frs outer,H b=none
 hok:iZ P w H s.heap
 bare:AllBare s.gens
def CE(outer:List Env)(P:Program)(w:World)(H:Hp)(s:Shared)(Q:VK)(u:Value)(s':Shared):Prop:=
 ∃ v H',s'.os=s.os/\AllBare s'.gens/\Un (frs outer) [] H H' s.heap s'.heap/\iZ P w H' s'.heap/\RelV v u/\Q v H'
def CR(CX:Jl)(outer:List Env)(P:Program)(w:World)(H:Hp)(s:Shared)(Q:VK)(E:XK)(r:Result)(s':Shared):Prop:=
 match r with
 | .ok (.ret u)=>CE outer P w H s Q u s'
 | .ok _=>False
 | .error e=>CX outer H s E e s'
structure aO(P:Program)(w:World)(K:bj)(mg:Str->Option Value)(base:Heap)(CX:Jl)(k:Nat)(f:Addr)(fd:FuncData)(ps:List Str)(sp:Sp):Prop where
 len:∀ vs H Q E,sp vs H Q E->vs.length=ps.length
 run:∀(A:Around)(outer:List Env)(s:Shared)(H:Hp)(args:Args)(us:List Value)(vs:List V)(Q:VK)(E:XK),eF k A->Jf P w K mg base A outer s H->BindsTo s fd args (ps.zip us)->Vals vs us->sp vs H Q E →
  codeAny (model P w) A (.call (.ref f) args) (CR CX outer P w H s Q E) s
theorem aO.mono{P:Program}{w:World}{K:bj}{mg:Str->Option Value}{base:Heap}{CX:Jl}{j k:Nat}{f:Addr}{fd:FuncData}{ps:List Str}{sp:Sp}(F:aO P w K mg base CX j f fd ps sp)(h:j<=k) :
  aO P w K mg base CX k f fd ps sp:=⟨F.len,fun A outer s H args us vs Q E hr=>F.run A outer s H args us vs Q E (hr.mono h)⟩
theorem Jf.make{P:Program}{w:World}{K:bj}{mg:Str->Option Value}{base:Heap}{A:Around}{outer:List Env}{s:Shared}{H:Hp}(e:Jf P w K mg base A outer s H)(C:Addr)(us:List Value)(kw:List (Str × Value)) :
  Jf P w K mg base (A.under (.builtin "type.__call__" ⟨.ref C :: us,kw⟩)) outer s H:=⟨by first | exact e.frames | (simpa [Around.under,Code.envs,Code.isFrame,pushEnvs] using e.frames),e.mod,e.bs,e.Od,e.rF,e.Vd,e.hok,e.bare⟩
section
variable{X:Cx}{pins:List (Addr × Obj)}{σ:St}{H:Hp}{s s':Shared}
theorem Inv.env0(I:Inv X pins σ H s):Jf X.prog X.w X.K X.mg X.base X.A X.stack s H:=
 ⟨I.ok.frames,I.ok.mod,I.bs,Nat.le_trans I.ok.Od I.sz,I.stack,I.qP,I.hok,I.bare⟩
theorem Inv.after(I:Inv X pins σ H s)(h:CE X.stack X.prog X.w H s Q u s'):EP X pins σ Q u s':=by
 obtain⟨v,H',os,bare,un,hok,r,q⟩:=h;obtain⟨hh,g,d,t,os'⟩:=s';obtain rfl:os'=s.os:=os;exact⟨v,H',I.call (h':=hh) (g':=g) (d':=d) (t':=t) (ch:=[]) un hok bare (fun b z=>absurd z (by simp)),r,q⟩
end
noncomputable def WQ(sp:Sp)(pG:List V)(E:XK)(t:TA):TE:=fun σ H Q=>t σ H fun vs H1=>sp (vs++pG) H1 Q E
noncomputable def WM(C:Addr)(m:Str)(sp:Sp)(pG:List V)(E:XK)(ta:TE)(t:TA):TE:=fun σ H Q=>ta σ H fun x H1 => ∃ a dx fs,x = .ref a/\H1 a=some (.ins C dx fs)/\fs.lookup m=none ∧
 t σ H1 fun vs H2=>sp (x :: (vs++pG)) H2 Q E
noncomputable def qAD(C:Addr)(sp:Sp)(pG:List V)(E:XK)(t:TA):TE:=fun σ H Q=>t σ H fun vs H1 => ∀ x dx,H1 x=none->H1 dx=none->dx ≠ x →
 sp (.ref x :: (vs++pG)) (upd (upd H1 dx (.own x)) x (.ins C dx [])) (fun v H2=>v = .non/\Q (.ref x) H2) E
def Binds(K:bj)(fd:FuncData)(ps:List Str)(ds:List Value):Prop:=
 ∀(s:Shared)(us:List Value),K.In s.heap->(us++ds).length=ps.length->BindsTo s fd ⟨us,[]⟩ (ps.zip (us++ds))
theorem Binds.all{K:bj}{fd:FuncData}{ps:List Str}(h:∀ us:List Value,us.length=ps.length->bindArgs fd ⟨us,[]⟩=pure (ps.zip us)):Binds K fd ps []:=fun s us _ hl=>by
 rw[fY]at hl ⊢;exact .of_eq (h us hl)
def Passes(CX:Jl)(X:Cx)(E:XK):Prop:=∀(pins:List (Addr × Obj))(σ:St)(H:Hp)(s:Shared)(e:Value)(s':Shared),Inv X pins σ H s->CX X.stack H s E e s'->X.xe e s'
section
variable{X:Cx}{CX:Jl}{k:Nat}{f C:Addr}{fd:FuncData}{ps:List Str}{sp:Sp}{pG:List V}{ds:List Value}{E:XK}{x m:Str}{p pos apos:Pos}{e o:Expr}{es:List Expr}{ta:TE}{t:TA}
theorem Hu(F:aO X.prog X.w X.K X.mg X.base CX k f fd ps sp)(hr:eF k X.A)(hb:Binds X.K fd ps ds)(hd:Vals pG ds)(hx:Passes CX X E)
  (I:Inv X pins σ H s) (r:Vals vs us) (h:sp (vs++pG) H Q E):wpAny (model X.prog X.w) X.A (call (.ref f) us) (EP X pins σ Q) X.xe s:=by
 have r2:Vals (vs++pG) (us++ds):=r.append hd
 have hl:(us++ds).length=ps.length:=by rw[<-r2.length];exact F.len _ _ _ _ h
 refine wpAny_call (codeAny_mono (F.run X.A X.stack s H ⟨us,[]⟩ (us++ds) (vs++pG) Q E hr I.env0 (hb s us I.kj hl) r2 h) fun r s' hq=>?_)
 cases r with
 | error e=>exact hx pins σ H s e s' I hq
 | ok fl=>
  cases fl with
  | ret u=>exact I.after hq
  | next=>exact False.elim hq
  | brk=>exact False.elim hq
  | cont=>exact False.elim hq
theorem zJ(F:aO X.prog X.w X.K X.mg X.base CX k f fd ps sp)(hr:eF k X.A)(hg:Gl X x)(hm:X.mg x=some (.ref f))(hk:PySem.W.keepIn X.K (.ref f)=true)(hb:Binds X.K fd ps ds)(hd:Vals pG ds)(hx:Passes CX X E)
  (ha:PA X (e :: es) t) (hdb:(x == ("__debug__" : Str))=false:=by decide) (he:starEach (e :: es) X.env=(false,eval e X.env) :: starEach es X.env:=by rfl) (hpl:(backTo pos (starEach es X.env)).any (·.1)=false:=by rfl) :
  PE X (.Call (.Name x p) (e :: es) [] pos) (WQ sp pG E t):=by
 intro pins s σ H Q I h;refine wpAny_Call_Name_kw (jV I hg hm ?_ hdb);refine PySem.W.callWith_K (h₀:=X.base) I.ok.mod.Yr hk (bA (ha pos pins s σ H _ I h) fun us s1 ⟨vs,H1,I1,r,q⟩=>⟨I1.kj,?_⟩) he hpl;exact Hu F hr hb hd hx I1 r q
theorem CJ(he:PE X o ta)(c:xW X.K C)(hm:Meth X.K C m f)(F:aO X.prog X.w X.K X.mg X.base CX k f fd ps sp)(hr:eF k X.A)(hb:Binds X.K fd ps ds)(hd:Vals pG ds)(hx:Passes CX X E)(ha:PA X (e :: es) t)
  (hst:starEach (e :: es) X.env=(false,eval e X.env) :: starEach es X.env:=by rfl) (hpl:(backTo pos (starEach es X.env)).any (·.1)=false:=by rfl)
  (ht:eval (.Call (.Attribute o m apos) (e :: es) [] pos) X.env=(do
   let ov ← eval o X.env
   standAt apos.atName
   let (f,first) ← holding [ov] (getMethod ov m pl)
   callWith pos f first (backTo pos (starEach (e :: es) X.env)) (backToKw pos (keywordEach [] X.env))):=by rfl) :
  PE X (.Call (.Attribute o m apos) (e :: es) [] pos) (WM C m sp pG E ta t):=by
 intro pins s σ H Q I h;refine PySem.W.methodCall_KW (pl:=pl) (bA (he pins s σ H _ I h) fun u s1 ⟨x,H1,I1,rx,a,dx,fs,ex,ea,l,q⟩=>?_) ht;subst ex;obtain rfl:u=Value.ref a:=rx;refine wZ I1 ea c hm l ?_;refine PySem.W.callWith_K (first:=[.ref a]) (h₀:=X.base) I.ok.mod.Yr hm.kp (bA (ha pos pins s1 σ H1 _ I1 q) fun us s2 ⟨vs,H2,I2,r,q2⟩=>⟨I2.kj,?_⟩) hst hpl;exact Hu (us:=.ref a :: us) (vs:=.ref a :: vs) F hr hb hd hx I2 (.cons rfl r) q2
theorem wC(he:PE X o ta)(c:xW X.K C)(hm:Meth X.K C m f)(F:aO X.prog X.w X.K X.mg X.base CX k f fd ps sp)(hr:eF k X.A)(hb:Binds X.K fd ps ds)(hd:Vals pG ds)(hx:Passes CX X E)
  (ht:eval (.Call (.Attribute o m apos) [] [] pos) X.env=(do
   let ov ← eval o X.env
   standAt apos.atName
   let (f,first) ← holding [ov] (getMethod ov m pl)
   callWith pos f first (backTo pos (starEach [] X.env)) (backToKw pos (keywordEach [] X.env))):=by rfl) :
  PE X (.Call (.Attribute o m apos) [] [] pos) (WM C m sp pG E ta Xi):=by
 intro pins s σ H Q I h;refine PySem.W.methodCall_KW (pl:=pl) (bA (he pins s σ H _ I h) fun u s1 ⟨x,H1,I1,rx,a,dx,fs,ex,ea,l,q⟩=>?_) ht;subst ex;obtain rfl:u=Value.ref a:=rx;refine wZ I1 ea c hm l ?_;exact PySem.W.callWith_K0 (first:=[.ref a]) I1.kj hm.kp (Hu (us:=[.ref a]) (vs:=[.ref a]) F hr hb hd hx I1 (.cons rfl .nil) q)
structure Mk(K:bj)(C f:Addr):Prop where
 makes:PySem.W.makesIn K C=true
 init:PySem.W.findIn K (.ref C) "__init__" = some (some (.ref f))
 fn:PySem.W.isFn K (.ref f)=true
 kp:KI K C
theorem Pu(M:Mk X.K C f)(F:aO X.prog X.w X.K X.mg X.base CX k f fd ps sp)(hr:eF (k+1) X.A)(hb:Binds X.K fd ps ds)(hd:Vals pG ds)
  (hx:Passes CX X E) (I:Inv X pins σ H s) (r:Vals vs us)
  (h:∀ x dx,H x=none->H dx=none->dx ≠ x->sp (.ref x :: (vs++pG)) (upd (upd H dx (.own x)) x (.ins C dx [])) (fun v H2=>v = .non/\Q (.ref x) H2) E) :
  wpAny (model X.prog X.w) X.A (call (.ref C) us) (EP X pins σ Q) X.xe s:=by
 have hq:=h (s.heap.objs.size+1) s.heap.objs.size (I.hok.fresh (Nat.le_succ _)) (I.hok.fresh (bD _)) (lC (Nat.lt_succ_self _));have I2:=Inv.made (C:=C) I;have r2:Vals (V.ref (s.heap.objs.size+1) :: (vs++pG)) (Value.ref (s.heap.objs.size+1) :: (us++ds)):=.cons rfl (r.append hd)
 have hl:(Value.ref (s.heap.objs.size+1) :: us++ds).length=ps.length:=by
  have e:=r2.length;rw[F.len _ _ _ _ hq]at e;exact e.symm
 refine wpAny_call (Qo (f:=f) I.kj M.makes M.init (beq_iff_eq.mp M.fn) (codeAny_mono (F.run _ X.stack _ _ ⟨Value.ref (s.heap.objs.size+1) :: us,[]⟩ (Value.ref (s.heap.objs.size+1) :: (us++ds)) _ _ E (hr.make C us [])
  (I2.env0.make C us []) (hb _ (Value.ref (s.heap.objs.size+1) :: us) I2.kj hl) r2 hq) fun r s' hq'=>?_))
 cases r with
 | error e=>exact hx pins σ _ _ e s' I2 hq'
 | ok fl=>
  cases fl with
  | ret u=>
   obtain⟨v,H',I3,rv,ev,q3⟩:=I2.after hq';subst ev;exact⟨rv,⟨V.ref (s.heap.objs.size+1),H',I3,rfl,q3⟩⟩
  | next=>exact False.elim hq'
  | brk=>exact False.elim hq'
  | cont=>exact False.elim hq'
theorem CK(M:Mk X.K C f)(F:aO X.prog X.w X.K X.mg X.base CX k f fd ps sp)(hr:eF (k+1) X.A)(hg:Gl X x)(hm:X.mg x=some (.ref C))(hb:Binds X.K fd ps ds)(hd:Vals pG ds)(hx:Passes CX X E)
  (ha:PA X (e :: es) t) (hdb:(x == ("__debug__" : Str))=false:=by decide) (he:starEach (e :: es) X.env=(false,eval e X.env) :: starEach es X.env:=by rfl) (hpl:(backTo pos (starEach es X.env)).any (·.1)=false:=by rfl) :
  PE X (.Call (.Name x p) (e :: es) [] pos) (qAD C sp pG E t):=by
 intro pins s σ H Q I h;refine wpAny_Call_Name_kw (jV I hg hm ?_ hdb);refine PySem.W.callWith_K (h₀:=X.base) I.ok.mod.Yr M.kp (bA (ha pos pins s σ H _ I h) fun us s1 ⟨vs,H1,I1,r,q⟩=>⟨I1.kj,?_⟩) he hpl;exact Pu M F hr hb hd hx I1 r q
end
section
variable{X:Cx}{CX:Jl}{k:Nat}{f C:Addr}{fd:FuncData}{ps ks:List Str}{sp:Sp}{E:XK}{x m:Str}{p pos apos kpos:Pos}{e o:Expr}{es:List Expr}{kws:List Keyword}{te ta:TE}{t tk:TA}{nm:Option Str}
structure KBinds(K:bj)(fd:FuncData)(ps ks:List Str)(g:List Value->List Value->List Value)(gV:List V->List V->List V):Prop where
 to:∀(s:Shared)(us ws:List Value),K.In s.heap->(g us ws).length=ps.length->BindsTo s fd ⟨us,ks.zip ws⟩ (ps.zip (g us ws))
 rel:∀ {vs:List V} {us:List Value} {zs:List V} {ws:List Value},Vals vs us->Vals zs ws->Vals (gV vs zs) (g us ws)
variable{g:List Value->List Value->List Value}{gV:List V->List V->List V}
end
structure aH(N P:List Str)(sc:Scope):Prop where
 kind:sc.kind = .function
 co:sc.isCoroutine=false
 gen:sc.isGenerator=false
 nd:N.Nodup
 pre:N.take P.length=P
 par:∀ x∈P,sc.names.lookup x=some .local ∨ sc.names.lookup x=some .cell
 Iu:∀ y∈sc.names,y.2 ≠ .free
theorem Ay{kindOf:Str->Option NameKind}{x:Str}:∀ {binds:List (Str × Value)} {m:Str->Option Value},(∀ v,(x,v) ∉ binds)->bindL kindOf binds m x=m x
 | [],_,_=>rfl
 | (n,v) :: r,m,h=>by
  unfold bindL;rw[Ay fun w hw=>h w (HN _ hw)]
  split
  ·have:x ≠ n:=by rintro rfl;exact h v Ed
   simp [this]
  ·rfl
theorem BJ{kindOf:Str->Option NameKind}{x:Str}:∀ {binds:List (Str × Value)} {m:Str->Option Value},(∀ v,(x,v) ∉ binds)->bindC kindOf binds m x=m x
 | [],_,_=>rfl
 | (n,v) :: r,m,h=>by
  unfold bindC;rw[BJ fun w hw=>h w (HN _ hw)]
  split
  ·rfl
  ·have:x ≠ n:=by rintro rfl;exact h v Ed
   simp [this]
theorem Az{kindOf:Str->Option NameKind}{x:Str}{v:Value}:∀ {P:List Str} {vs:List Value} {i:Nat} {m:Str->Option Value},P.Nodup->P[i]? = some x->vs[i]? = some v->kindOf x=some .local →
  bindL kindOf (P.zip vs) m x=some v
 | [],_,_,_,_,h,_,_=>by simp at h
 | _ :: _,[],_,_,_,_,h,_=>by simp at h
 | p :: P,w :: vs,0,m,nd,h1,h2,hk=>by
  simp at h1 h2;subst h1;subst h2;show bindL kindOf ((p,w) :: P.zip vs) m p=_;unfold bindL;rw[Ay fun v hv=>(List.nodup_cons.mp nd).1 (List.of_mem_zip hv).1,if_pos hk];simp
 | p :: P,w :: vs,i+1,m,nd,h1,h2,hk=>by
  show bindL kindOf ((p,w) :: P.zip vs) m x=_;unfold bindL;exact Az (i:=i) (List.nodup_cons.mp nd).2 (by simpa using h1) (by simpa using h2) hk
theorem BK{kindOf:Str->Option NameKind}{x:Str}{v:Value}:∀ {P:List Str} {vs:List Value} {i:Nat} {m:Str->Option Value},P.Nodup->P[i]? = some x->vs[i]? = some v->kindOf x ≠ some .local →
  bindC kindOf (P.zip vs) m x=some v
 | [],_,_,_,_,h,_,_=>by simp at h
 | _ :: _,[],_,_,_,_,h,_=>by simp at h
 | p :: P,w :: vs,0,m,nd,h1,h2,hk=>by
  simp at h1 h2;subst h1;subst h2;show bindC kindOf ((p,w) :: P.zip vs) m p=_;unfold bindC;rw[BJ fun v hv=>(List.nodup_cons.mp nd).1 (List.of_mem_zip hv).1,if_neg hk];simp
 | p :: P,w :: vs,i+1,m,nd,h1,h2,hk=>by
  show bindC kindOf ((p,w) :: P.zip vs) m x=_;unfold bindC;exact BK (i:=i) (List.nodup_cons.mp nd).2 (by simpa using h1) (by simpa using h2) hk
noncomputable def start(N:List Str)(vs:List V):St:=vs.map some++List.replicate (N.length - vs.length) none
noncomputable def pH(CX:Jl)(P:Program)(w:World)(K:bj)(mg:Str->Option Value)(base:Heap)(N:List Str)(qual:Str)(scope:Scope)(f:Addr)(cd:Value)(A:Around)(outer:List Env)(s:Shared)(H:Hp)(E:XK):Cx where
 prog:=P
 w:=w
 K:=K
 mg:=mg
 base:=base
 A:=A.deeper (envOfC qual scope s.heap.objs.size f cd)
 N:=N
 s₀:=s
 H₀:=H
 env:=envOfC qual scope s.heap.objs.size f cd
 outer:=outer
 stack:=envOfC qual scope s.heap.objs.size f cd :: outer
 ex:=[]
 calm:=true
 fn:=fun _=>true
 pn:=[]
 xe:=fun e s'=>wpAny (model P w) (A.deeper (envOfC qual scope s.heap.objs.size f cd)) (leaving (envOfC qual scope s.heap.objs.size f cd) e) (fun _ s''=>CX outer H s E e s'') (fun e' s''=>CX outer H s E e' s'') s'
theorem Gp{sc:Scope}{n:Nat}{x:Str}(h:sc.names.lookup x=some .cell):∃ c,(cellsFrom n sc.names []).lookup x=some c:=by
 have q:=PySem.W.cellsFrom_some sc.names n [] (.inl h);exact Option.isSome_iff_exists.mp q
theorem My{CX:Jl}{P:Program}{w:World}{K:bj}{mg:Str->Option Value}{base:Heap}{N ps:List Str}{qual:Str}{scope:Scope}{f:Addr}{cd:Value}{A:Around}{outer:List Env}{s s1:Shared}{H:Hp}{E:XK}{us:List Value}{vs:List V}
  (S:aH N ps scope) (hd:A.handled=none) (e0:Jf P w K mg base A outer s H) (hl:vs.length=ps.length) (r:Vals vs us)
  (x:InCallC s s.heap.objs.size (bindL (envOfC qual scope s.heap.objs.size f cd).kindOf (ps.zip us) fun _=>none) (cellsFrom (s.heap.objs.size+1) scope.names []) (bindC (envOfC qual scope s.heap.objs.size f cd).kindOf (ps.zip us) fun _=>none) s1) :
  Inv (pH CX P w K mg base N qual scope f cd A outer s H E) [] (start N vs) H s1:=by
 have hpl:ps.length<=N.length:=by have:=congrArg List.length S.pre;rw[jc]at this;lia
 obtain⟨h1,tk,rfl,hk⟩:=x.done;have noA:∀ b:Addr,b ∉ (pH CX P w K mg base N qual scope f cd A outer s H E).ex:=fun b z=>absurd (show b∈([]:List Addr) from z) (by simp)
 refine⟨⟨e0.mod,S.kind,rfl,rfl,bD _,fun y z c h1 h2=>?_,fun y hy=>?_,fun y c _ h=>?_,fun _=>hd,Around.frames_deeper e0.frames,.inr ⟨rfl,rfl⟩,fun b z=>absurd z (noA b),e0.bs,e0.Od,fun b _ _=>noA b,fun b z=>absurd z (noA b),e0.rF,e0.Vd⟩,
  rfl,e0.bare,Un.kept hk,⟨_,x.toInCall.ns,fun i y v h1 h2 h3=>?_⟩,fun y c h=>⟨_,x.cell y c h⟩,e0.hok.fresh (Nat.le_refl _),fun y c h=>?_,fun p hp=>absurd (show p∈([]:List (Addr × Obj)) from hp) (by simp),e0.hok.kept hk,?_⟩
 ·exact name_of_addr x.apart (PySem.mem_of_lookup h1) (PySem.mem_of_lookup h2)
 ·have hy:scope.names.lookup y=some .cell ∨ scope.names.lookup y=some .free:=hy;rcases hy with hy | hy
  ·exact Gp hy
  ·exact absurd rfl (S.Iu _ (PySem.mem_of_lookup hy))
 ·exact Nat.le_of_lt (x.above y c (PySem.mem_of_lookup h))
 ·have hi:i < vs.length:=by
   unfold start at h2
   by_cases hi:i < vs.length
   ·exact hi
   ·rw[List.getElem?_append_right (by simpa using hi)]at h2;rw[List.getElem?_replicate]at h2
    split at h2 <;> cases h2
  have ha:vs[i]? = some v:=by
   unfold start at h2;rw[List.getElem?_append_left (by simpa using hi),List.getElem?_map]at h2
   cases e:vs[i]? with
   | none=>rw[e]at h2;cases h2
   | some a=>rw[e]at h2;cases h2;rfl
  obtain⟨u,hu,rv⟩:=r.get ha
  have hp:ps[i]? = some y:=by
   rw[<-S.pre,List.getElem?_take_of_lt (by lia)];exact h1
  have ndP:ps.Nodup:=by rw[<-S.pre];exact S.nd.sublist (List.take_sublist _ _)
  refine⟨u,rv,?_⟩;rcases S.par y (Bd hp) with k | k
  ·exact .inl ⟨k,Az ndP hp hu k⟩
  ·obtain⟨c,e⟩:=Gp (n:=s.heap.objs.size+1) k;refine .inr ⟨.inl k,c,e,?_⟩;have q:=x.cell y c e;rw[BK ndP hp hu (by show scope.names.lookup y ≠ _;rw[k];decide)]at q;exact q
 ·exact e0.hok.fresh (Nat.le_of_lt (x.above y c (PySem.mem_of_lookup h)))
 ·unfold start;show _=N.length;rw[dN,bZ,List.length_replicate];lia
theorem Ww{CX:Jl}{P:Program}{w:World}{K:bj}{mg:Str->Option Value}{base:Heap}{k:Nat}{f:Addr}{name qual:Str}{params:Arguments}{body:List Stmt}{scope:Scope}{dV kV doc pm cdv ct oc:Value}{an od:Option Addr}
  {osl:Array (Option Value)} {N ps:List Str} {sp:Sp} (lk:K.lookup f=some ⟨oc,od,.func (PySem.W.fnOf name qual params body scope dV kV doc pm an cdv ct),osl⟩) (hcd:PySem.W.codeIn K cdv qual=true) (S:aH N ps scope)
  (len:∀ vs H Q E,sp vs H Q E->vs.length=ps.length)
  (hbody:∀(A:Around)(outer:List Env)(s:Shared)(H:Hp)(vs:List V)(Q:VK)(E:XK),eF k (A.deeper (envOfC qual scope s.heap.objs.size f cdv))->sp vs H Q E →
   ∃ t,xf (pH CX P w K mg base N qual scope f cdv A outer s H E) body t/\t { nx:=fun _ H'=>Q .non H',rt:=Q } (start N vs) H) :
  aO P w K mg base CX (k+1) f (PySem.W.fnOf name qual params body scope dV kV doc pm an cdv ct) ps sp:=by
 refine⟨len,fun A outer s H args us vs Q E hr e0 hb r hsp=>?_⟩;have hl:=len _ _ _ _ hsp;have KX:K.In s.heap:=e0.mod.Yr.keeps fun b o e=>(e0.bs b o e).1;have lim:s.heap.NoLimit:=e0.mod.nolimit.keeps fun b o e=>(e0.bs b o e).1
 have hkind:∀ y∈ps.zip us,scope.names.lookup y.1=some .local ∨ (scope.names.lookup y.1=some .cell/\((cellsFrom (s.heap.objs.size+1) scope.names []).lookup y.1).isSome=true):=fun ⟨n,v⟩ hy=>by
  rcases S.par n (List.of_mem_zip hy).1 with q | q
  ·exact .inl q
  ·exact .inr ⟨q,PySem.W.cellsFrom_some _ _ _ (.inl q)⟩
 refine codeAny_call_function hr.depth (KX _ _ lk) rfl S.co S.gen rfl (PySem.W.codeRec_of KX hcd) (hb _ _ _ _ ?_);refine wpAny_newFunctionEnv_cells S.kind hkind fun env he s1 x=>?_;subst he;refine⟨lim.keeps x.toInCall.keep,codeAny_func ?_⟩;obtain⟨t,ht,hq⟩:=hbody A outer s H vs Q E (hr.deeper _) hsp;have I:Inv (pH CX P w K mg base N qual scope f cdv A outer s H E) [] (start N vs) H s1:=My S hr.hd e0 hl r x;refine wpAny_mono (ht [] s1 (start N vs) H _ I hq) (fun fl s' hs=>?_) fun e s' hs=>hs
 have fin:∀ {σ':St} {H':Hp} {v:V} {u:Value},Inv (pH CX P w K mg base N qual scope f cdv A outer s H E) [] σ' H' s'->RelV v u->Q v H'->CE outer P w H s Q u s':=
  fun {σ' H' v u} J rv q=>⟨v,H',J.os,J.bare,J.base,J.hok,rv,q⟩
 cases fl with
 | ret u=>
  obtain⟨v,σ',H',J,rv,q⟩:=hs;exact fin J rv q
 | next=>
  obtain⟨σ',H',J,q⟩:=hs;exact fin (v:=V.non) (u:=Value.none) J rfl q
 | brk=>
  obtain⟨_,_,_,q⟩:=hs;exact False.elim q
 | cont=>
  obtain⟨_,_,_,q⟩:=hs;exact False.elim q
section
variable{X:Cx}{x:Str}{p pos:Pos}{e:Expr}{es:List Expr}{t:TA}{id T:String}{r:List V->Hp->VK->Prop}
noncomputable def tCB(r:List V->Hp->VK->Prop)(t:TA):TE:=fun σ H Q=>t σ H fun vs H1=>r vs H1 Q
theorem zS(hc:jL X (.builtin id) r)(hg:Gl X x)(hm:X.mg x=none)(hv:bootBuiltins x=some (.builtin id))(ha:PA X (e :: es) t)(hn:x ≠ "__name__" := by decide)(hdb:(x == ("__debug__" : Str))=false:=by decide)
  (he:starEach (e :: es) X.env=(false,eval e X.env) :: starEach es X.env:=by rfl) (hpl:(backTo pos (starEach es X.env)).any (·.1)=false:=by rfl):PE X (.Call (.Name x p) (e :: es) [] pos) (tCB r t):=by
 intro pins s σ H Q I h;refine wpAny_Call_Name_kw (nQ I hg hm hv ?_ hn hdb);exact PyProof.Rows.callWith_builtin1 (bA (ha pos pins s σ H _ I h) fun us s1 ⟨vs,H1,I1,r1,q1⟩=>hc pins s1 σ H1 vs us Q I1 r1 q1) he hpl
theorem yA(hc:jL X (.type T) r)(hg:Gl X x)(hm:X.mg x=none)(hv:bootBuiltins x=some (.type T))(ha:PA X (e :: es) t)(hn:x ≠ "__name__" := by decide)(hdb:(x == ("__debug__" : Str))=false:=by decide)
  (he:starEach (e :: es) X.env=(false,eval e X.env) :: starEach es X.env:=by rfl) (hpl:(backTo pos (starEach es X.env)).any (·.1)=false:=by rfl):PE X (.Call (.Name x p) (e :: es) [] pos) (tCB r t):=by
 intro pins s σ H Q I h;refine wpAny_Call_Name_kw (nQ I hg hm hv ?_ hn hdb);exact PyProof.Rows.callWith_type1 (bA (ha pos pins s σ H _ I h) fun us s1 ⟨vs,H1,I1,r1,q1⟩=>hc pins s1 σ H1 vs us Q I1 r1 q1) he hpl
end
end L2
namespace HT
open PySem PyProof.Rows
section
open PySem.SeqAt
open PySem.AutoSeq1 (wpAny_loadPart')
open PySem.MeetsSeq PySem.MeetsSeq2 PySem.MeetsSeq3
end
section
variable{prog:Program}{w:World}{A:Around}{E:Value->Shared->Prop}{s:Shared}
theorem Vt(ht:IsTup s.heap t vs.toArray)(hb:IsTup s.heap b ws.toArray)(hv:vs ≠ [])
  (h1:ws=[]->Q (.ref t) s) (h2:ws ≠ []->Q (.ref s.heap.objs.size) { s with heap:=s.heap.push { cls:=.type "tuple",data:=.seq (vs++ws).toArray } })
  (hsz:vs.length+ws.length<=sizeLine):wpAny (model prog w) A (binaryOp .Add (.ref t) (.ref b)) Q E s:=by
 obtain⟨⟨cls,dd,data,sl⟩,ho,hc,n,hd⟩:=id ht;obtain⟨⟨cls2,dd2,data2,sl2⟩,ho2,hc2,n2,hd2⟩:=id hb;simp only at hc hd hc2 hd2;subst hc hd hc2 hd2
 have e:vs.toArray++ws.toArray=(vs++ws).toArray:=by simp
 by_cases hw:ws=[]
 ·exact concat_meets ⟨_,ho,rfl⟩ ⟨_,ho2,rfl⟩ noFill_tuple_add seq_tuple_add PySem.F.slot_tuple_add PySem.F.entry_tuple_add (PySem.F.args_tuple_add_2 _ _)
   (tuple_addW1 t b vs.toArray ws.toArray n n2 dd dd2 sl sl2 (by simpa using hv) (by simp [hw])) ⟨ho,ho2,h1 hw⟩
 ·refine concat_meets ⟨_,ho,rfl⟩ ⟨_,ho2,rfl⟩ noFill_tuple_add seq_tuple_add PySem.F.slot_tuple_add PySem.F.entry_tuple_add (PySem.F.args_tuple_add_2 _ _)
   (tuple_addW2 t b vs.toArray ws.toArray n n2 dd dd2 sl sl2 (by simpa using hv) (by simpa using hw) (by rw[List.size_toArray,List.size_toArray];exact hsz)) ⟨ho,ho2,?_⟩
  rw[e];exact h2 hw
noncomputable def dR(n d:Nat):Option Int->Nat
 | none=>d
 | some v=>if v < 0 then (v+(n:Int)).toNat else min v.toNat n
theorem FN(n d:Nat):dR n d none=d:=rfl
theorem ug(n d k:Nat):dR n d (some (k:Int))=min k n:=by
 show (if (k:Int) < 0 then ((k:Int)+(n:Int)).toNat else min (k:Int).toNat n)=min k n;rw[if_neg (by lia),Og]
theorem Xr(n d:Nat)(hd:d<=n)(o:Option Int):dR n d o<=n:=by
 cases o with
 | none=>exact hd
 | some v=>
  show (if v < 0 then (v+(n:Int)).toNat else min v.toNat n)<=n
  by_cases hv:v < 0
  ·rw[if_pos hv];lia
  ·rw[if_neg hv];exact Nat.min_le_right _ _
theorem Le(v:Int)(n d:Nat):(if v < 0 then max (v+(n:Int)) 0 else min v (n:Int))=((dR n d (some v):Nat):Int):=by
 show (if v < 0 then max (v+(n:Int)) 0 else min v (n:Int))=(((if v < 0 then (v+(n:Int)).toNat else min v.toNat n):Nat):Int)
 by_cases hv:v < 0
 ·simp only[if_pos hv];lia
 ·simp only[if_neg hv];lia
theorem JZ(lo hi:Option Int)(n:Nat):Builtin.Slice.sliceAdjust lo hi 1 (n:Int)=(((dR n 0 lo:Nat):Int),((dR n n hi:Nat):Int)):=by
 have h1:¬ ((1:Int) < 0):=by lia
 unfold Builtin.Slice.sliceAdjust;simp only[h1,if_false];refine Prod.ext ?_ ?_
 ·cases lo with
  | none=>rfl
  | some v=>exact Le v n 0
 ·cases hi with
  | none=>rfl
  | some v=>exact Le v n n
theorem IW(i j:Nat):Builtin.Slice.slicePlaces (i:Int) (j:Int) 1=j - i:=by
 unfold Builtin.Slice.slicePlaces
 have h1:(1:Int) > 0:=by lia
 simp only[h1,if_true,Int.ediv_one]
 split <;> lia
theorem vO(p:IsPart v o)(h:Q o s):wpAny (model prog w) A (Builtin.Slice.slicePartIndex v) Q E s:=by
 cases p with
 | none=>exact slicePart_none h
 | int i t=>exact slicePart_int h
theorem ju{sl:Addr}{vl vu:Value}{lo hi:Option Int}{n:Nat}{Q:Int × Int × Nat->Shared->Prop}(hs:s.heap.IsSliceOf sl vl vu .none)(pl:IsPart vl lo)(pu:IsPart vu hi)
  (h:Q (((dR n 0 lo:Nat):Int),1,dR n n hi - dR n 0 lo) s):wpAny (model prog w) A (Builtin.Slice.sliceApplied (.ref sl) (pure (n:Int))) Q E s:=by
 obtain⟨os,hos,hcs,hds⟩:=id hs;unfold Builtin.Slice.sliceApplied Builtin.Slice.sliceFields;refine wpAny_bind (wpAny_bind (wpAny_field hos hds (x:=vl) rfl (wpAny_bind (wpAny_field hos hds (x:=vu) rfl (wpAny_bind (wpAny_field hos hds (x:=.none) rfl (wpAny_pure ?_)))))));refine wpAny_bind (slicePart_none ?_);show wpAny _ _ (if ((1:Int) == 0)=true then _ else _) _ _ s;rw[if_neg (by decide)];refine wpAny_bind (vO pl (wpAny_bind (vO pu (wpAny_bind (wpAny_pure ?_)))));show wpAny _ _ (match Builtin.Slice.sliceAdjust lo hi 1 (n:Int) with | (lo,hi)=>pure (lo,(1:Int),Builtin.Slice.slicePlaces lo hi 1)) _ _ s;rw[JZ lo hi n];show wpAny _ _ (pure (((dR n 0 lo:Nat):Int),(1:Int),Builtin.Slice.slicePlaces ((dR n 0 lo:Nat):Int) ((dR n n hi:Nat):Int) 1)) _ _ s;rw[IW];exact wpAny_pure h
theorem Q8(xs:Array Value)(i k:Nat):((List.range k).filterMap fun (m:Nat)=>xs[((i:Int)+(m:Int) * 1).toNat]?).toArray=((xs.toList.drop i).take k).toArray:=by
 have e:(fun (m:Nat)=>xs[((i:Int)+(m:Int) * 1).toNat]?)=fun m=>xs[i+m]?:=by
  funext m
  have:((i:Int)+(m:Int) * 1).toNat=i+m:=by lia
  rw[this]
 rw[e];have:=pick_run xs i k;rw[List.filterMap_map]at this;have e2:((fun x=>xs[x]?) ∘ fun x=>i+x)=fun m=>xs[i+m]?:=rfl;rw[e2]at this;rw[this]
theorem rE{t sl:Addr}{items:Array Value}{vl vu:Value}{lo hi:Option Int}{Q:Value->Shared->Prop}(ht:IsTup s.heap t items)(hs:s.heap.IsSliceOf sl vl vu .none)(pl:IsPart vl lo)(pu:IsPart vu hi)
  (hw:¬ (dR items.size 0 lo=0/\dR items.size items.size hi=items.size))
  (h:Q (.ref s.heap.objs.size) { s with heap:=s.heap.push { cls:=.type "tuple",data:=.seq ((items.toList.drop (dR items.size 0 lo)).take (dR items.size items.size hi - dR items.size 0 lo)).toArray } })
  (hsz:items.size<=sizeLine):wpAny (model prog w) A (getItem (.ref t) (.ref sl)) Q E s:=by
 have Kr:sizeOk (.seq ((items.toList.drop (dR items.size 0 lo)).take (dR items.size items.size hi - dR items.size 0 lo)).toArray):=by
  show ((items.toList.drop (dR items.size 0 lo)).take (dR items.size items.size hi - dR items.size 0 lo)).toArray.size<=sizeLine;rw[qN,jc,List.length_drop,Array.length_toList];lia
 have hj:dR items.size items.size hi<=items.size:=Xr _ _ (bD _) hi;obtain⟨os,hos,hcs,hds⟩:=id hs;have hTs:s.TypeIs (.ref sl) "slice" := ⟨os,hos,hcs⟩;unfold getItem
 try with_reducible refine wpAny_holding ?_
 first | refine wpAny_bind (wpAny_pure ?_) | skip
 refine wpAny_bind (wpAny_sequenceKey ht.typeIs (by decide) ?_)
 refine wpAny_bind (wpAny_callSpecial?_slot (name:=Str.ofString "__getitem__") ht.typeIs PyProof.Rows.slot_tuple_getitem
  (wpAny_call_entry PyProof.Rows.slot_tuple_getitem ht.typeIs entry_tuple_getitem ?_ (args_tuple_getitem _ _)))
 show wpAny _ _ (Builtin.Tuple.tupleItemsOf (.ref t) >>= _) _ _ s;refine wpAny_bind (tupleItemsOf_ ht ?_);refine wpAny_bind (wpAny_typeOf hTs ?_);rw[if_pos (by decide)];refine wpAny_bind (ju hs pl pu ?_)
 have hno:¬ ((((dR items.size 0 lo:Nat):Int) == 0 && (1:Int) == 1 && (dR items.size items.size hi - dR items.size 0 lo) == items.size)=true):=by
  intro q;rw[Bool.and_eq_true,Bool.and_eq_true]at q;have q1:((dR items.size 0 lo:Nat):Int)=0:=eq_of_beq q.1.1;have q2:dR items.size items.size hi - dR items.size 0 lo=items.size:=eq_of_beq q.2;exact hw ⟨by lia,by lia⟩
 show wpAny _ _ (if (((dR items.size 0 lo:Nat):Int) == 0 && (1:Int) == 1 && (dR items.size items.size hi - dR items.size 0 lo) == items.size)=true then _ else _) _ _ s;rw[if_neg hno,Q8]
 first
  | exact wpAny_bind (m:=Builtin.Tuple.tupleExact _) (wpAny_newObj_type (wpAny_pure ⟨_,rfl,wpAny_pure h⟩) Kr)
  | exact wpAny_bind (m:=Builtin.Tuple.tupleExact _) (wpAny_newObj_type (wpAny_bind (wpAny_pure (wpAny_pure ⟨_,rfl,wpAny_pure h⟩))) Kr)
  | exact wpAny_bind (wpAny_bind (m:=Builtin.Tuple.tupleExact _) (wpAny_newObj_type (wpAny_pure (wpAny_pure ⟨_,rfl,wpAny_pure h⟩)) Kr))
  | exact wpAny_bind (wpAny_bind (m:=Builtin.Tuple.tupleExact _) (wpAny_newObj_type (wpAny_pure ⟨_,rfl,wpAny_pure h⟩) Kr))
end
end HT
namespace L2
open PySem PySem.Spec PyProof.Rows
abbrev TO:=St->Hp->(Option Int->Hp->Prop)->Prop
def PO(X:Cx)(e:Option Expr)(t:TO):Prop:=
 ∀(pins:List (Addr × Obj))(s:Shared)(σ:St)(H:Hp)(Q:Option Int->Hp->Prop),Inv X pins σ H s->t σ H Q →
  wpAny (model X.prog X.w) X.A (evalPart e X.env) (fun u s'=>∃ o H',Inv X pins σ H' s'/\IsPart u o/\Q o H') X.xe s
noncomputable def Ti:TO:=fun _ H Q=>Q none H
noncomputable def qA8(t:TE):TO:=fun σ H Q=>t σ H fun x H1 => ∃ i,x = .int i/\Q (some i) H1
theorem intsAre_of:∀ {us:List Value},Vals (ns.map V.int) us->IntsAre us ns:=by
 induction ns with
 | nil=>intro us r;rw[List.map_nil]at r;cases r;exact .nil
 | cons n ns ih=>
  intro us r;rw[List.map_cons]at r
  cases r with
  | cons r1 r2=>
   obtain⟨t,e⟩:=r1;subst e;exact .cons n t (ih r2)
section
variable{X:Cx}{e:Expr}{te:TE}{lo hi:Option Expr}{tl th:TO}{pos p2:Pos}
theorem oV:PO X none Ti:=by
 intro pins s σ H Q I h;rw[evalPart_none];exact wpAny_pure ⟨none,H,I,.none,h⟩
theorem oU(h:PE X e te):PO X (some e) (qA8 te):=by
 intro pins s σ H Q I hw;rw[evalPart_some];refine bA (h pins s σ H _ I hw) fun u s1 ⟨x,H1,I1,r1,q1⟩=>?_;obtain⟨i,rfl,q⟩:=q1;obtain⟨t,rfl⟩:=r1;exact⟨some i,H1,I1,.int i t,q⟩
def SlR(X:Cx)(r:V->Option Int->Option Int->Hp->VK->Prop):Prop:=
 ∀(pins:List (Addr × Obj))(s:Shared)(σ:St)(H:Hp)(x:V)(v vl vu:Value)(lo hi:Option Int)(sl:Addr)(Q:VK),Inv X pins σ H s->RelV x v->s.heap.IsSliceOf sl vl vu .none->IsPart vl lo->IsPart vu hi->r x lo hi H Q →
  ∃ T id,typeLookup (.type T) "__getitem__" = pure (some (.builtin id))/\s.TypeIs v T/\wpAny (model X.prog X.w) X.A (getItem v (.ref sl)) (EP X pins σ Q) X.xe s
noncomputable def tSl(r:V->Option Int->Option Int->Hp->VK->Prop)(te:TE)(tl th:TO):TE:=fun σ H Q=>te σ H fun x H1=>tl σ H1 fun l H2=>th σ H2 fun u H3=>r x l u H3 Q
theorem kO(hr:SlR X r)(he:PE X e te)(hl:PO X lo tl)(hu:PO X hi th):PE X (.Subscript e (.Slice lo hi none p2) pos) (tSl r te tl th):=by
 intro pins s σ H Q I h;refine Subscript_ (bA (he pins s σ H _ I h) fun v s1 ⟨x,H1,I1,r1,q1⟩=>?_);refine wpAny_Slice (bA (hl pins s1 σ H1 _ I1 q1) fun vl s2 ⟨l,H2,I2,pl,q2⟩=>bA (hu pins s2 σ H2 _ I2 q2) fun vu s3 ⟨u,H3,I3,pu,q3⟩=>?_);rw[evalPart_none];refine wpAny_pure ?_;have I4:Inv X pins σ H3 { s3 with heap:=s3.heap.push { cls:=.type "slice",data:=.fields #[vl,vu,.none] } }:=I3.kept (t':=s3.toks) fun b ob q=>ie _ q;obtain⟨T,id,hT,ht,hg⟩:=hr pins { s3 with heap:=s3.heap.push { cls:=.type "slice",data:=.fields #[vl,vu,.none] } } σ H3 x v vl vu l u s3.heap.objs.size Q I4 r1 (Heap.IsSliceOf.new ..) pl pu q3;show wpAny (model X.prog X.w) X.A (subscriptTail e (.Slice lo hi none p2) v (.ref s3.heap.objs.size)) (EP X pins σ Q) X.xe { s3 with heap:=s3.heap.push { cls:=.type "slice",data:=.fields #[vl,vu,.none] } };exact tail_any (ops:=[.ref s3.heap.objs.size,v]) ht hT hg (by with_unfolding_all rfl)
noncomputable def lZ(xs:List V)(lo hi:Option Int):List V:=(xs.drop (HT.dR xs.length 0 lo)).take (HT.dR xs.length xs.length hi - HT.dR xs.length 0 lo)
theorem uN(xs:List V)(lo hi:Option Int):(lZ xs lo hi).length<=xs.length:=by
 unfold lZ;rw[jc,List.length_drop];lia
def qEV(K:bj):V->Option Int->Option Int->Hp->VK->Prop:=fun x lo hi H Q => ∃ a xs,x = .ref a/\aJ K H a xs ∧
 ¬ (HT.dR xs.length 0 lo=0/\HT.dR xs.length xs.length hi=xs.length)/\∀ p,H p=none->Q (.ref p) (upd H p (.tup (lZ xs lo hi)))
theorem Ho:SlR X (qEV X.K):=by
 intro pins s σ H x v vl vu lo hi sl Q I rx hs pl pu h;obtain⟨a,xs,rfl,hx,hw,q⟩:=h
 cases rx
 obtain⟨its,r,ht,hz⟩:=I.tuple hx
 have hlen:its.toArray.size=xs.length:=by rw[qN];exact r.length.symm
 refine⟨"tuple",_,PyProof.Rows.slot_tuple_getitem.lookup,ht.typeIs,?_⟩;refine HT.rE ht hs pl pu (by rw[hlen];exact hw) ?_ (by rw[hlen];exact hz);rw[hlen];refine⟨.ref s.heap.objs.size,_,I.laid (t':=s.toks) (o:=.tup (lZ xs lo hi)) (fun b ob q=>ie _ q) (bD _) ?_,rfl,q _ (I.hok.fresh (bD _))⟩;exact⟨Nat.le_trans (uN xs lo hi) hz,_,(r.drop (HT.dR xs.length 0 lo)).take (HT.dR xs.length xs.length hi - HT.dR xs.length 0 lo),IsTup.new _ _⟩
noncomputable def qB5(K:bj):R2:=fun x y H Q => ∃ a b xs ys,x = .ref a/\y = .ref b/\aJ K H a xs/\aJ K H b ys/\xs ≠ []/\xs.length+ys.length<=sizeLine ∧
 (ys=[]->Q (.ref a) H)/\(ys ≠ []->∀ p,H p=none->Q (.ref p) (upd H p (.tup (xs++ys))))
theorem Vals.qw(r:Vals xs us):us=[] ↔ xs=[]:=by
 cases r with
 | nil=>simp
 | cons _ _=>simp
theorem uh:jQ X (binaryOp .Add) (qB5 X.K):=by
 intro pins s σ H x y v u Q I rx ry h;obtain⟨a,b,xs,ys,rfl,rfl,ha,hb,hx,hz,q1,q2⟩:=h
 cases rx
 cases ry
 obtain⟨its,r1,p1,_⟩:=I.tuple ha;obtain⟨its2,r2,p2,_⟩:=I.tuple hb;refine HT.Vt p1 p2 (fun z=>hx (r1.qw.mp z)) (fun z=>⟨.ref a,H,I,rfl,q1 (r2.qw.mp z)⟩) (fun z=>?_) (by rw[<-r1.length,<-r2.length];exact hz);refine⟨.ref s.heap.objs.size,_,I.laid (t':=s.toks) (o:=.tup (xs++ys)) (fun b ob q=>ie _ q) (bD _) ?_,rfl,q2 (fun w=>z (r2.qw.mpr w)) _ (I.hok.fresh (bD _))⟩;exact⟨by rw[dN];exact hz,_,r1.append r2,IsTup.new _ _⟩
end
noncomputable def TF(n:Nat)(i:Int):Option Nat:=if 0<=i then (if i < n then some i.toNat else none) else if -(n:Int)<=i then some (i+n).toNat else none
noncomputable def uO{α:Type}(xs:List α)(i:Int):Option α:=(TF xs.length i).bind fun j=>xs[j]?
theorem Kp(h:TF n i=some j):seqIndex? i n=some j/\j < n /\ -(n:Int)<=i/\i < n:=by
 unfold TF at h
 by_cases h0:0<=i
 ·rw[if_pos h0]at h
  by_cases h1:i < n
  ·rw[if_pos h1]at h;have e:i.toNat=j:=iM h;exact⟨by rw[seqIndex_of h0 h1,e],by lia,by lia,h1⟩
  ·rw[if_neg h1]at h;cases h
 ·rw[if_neg h0]at h
  by_cases h1 : -(n:Int)<=i
  ·rw[if_pos h1]at h;have e:(i+n).toNat=j:=iM h;exact⟨by rw[seqIndex_neg (by lia) h1,e],by lia,h1,by lia⟩
  ·rw[if_neg h1]at h;cases h
theorem Di(h:uO xs i=some v):∃ j,seqIndex? i xs.length=some j/\xs[j]? = some v/\j < xs.length /\ -(xs.length:Int)<=i/\i < xs.length:=by
 unfold uO at h
 cases e:TF xs.length i with
 | none=>rw[e]at h;cases h
 | some j=>
  rw[e]at h;obtain⟨h1,h2,h3,h4⟩:=Kp e;exact⟨j,h1,h,h2,h3,h4⟩
theorem yQ{α:Type}{xs:List α}{j:Nat}{v:α}(h:xs[j]? = some v):uO xs (j:Int)=some v:=by
 have hj:j < xs.length:=(jM.mp h).1
 have e:TF xs.length (j:Int)=some j:=by
  unfold TF;rw[if_pos (by lia),if_pos (by lia)];simp
 unfold uO;rw[e];exact h
def W2(b:Expr):Prop:=∀ o i,subscripted b false o i=operate [o,i] (getItem o i)
def IxR(X:Cx)(r:R2):Prop:=
 ∀(value slice:Expr)(pins:List (Addr × Obj))(s:Shared)(σ:St)(H:Hp)(x y:V)(v u:Value)(Q:VK),Inv X pins σ H s->RelV x v->RelV y u->r x y H Q →
  subscripted slice false v u=operate [v,u] (getItem v u)->wpAny (model X.prog X.w) X.A (subscriptTail value slice v u) (EP X pins σ Q) X.xe s
def MtR(X:Cx)(id:String)(r:V->List V->Hp->VK->Prop):Prop:=
 ∀(pins:List (Addr × Obj))(s:Shared)(σ:St)(H:Hp)(x:V)(xs:List V)(v:Value)(us:List Value)(Q:VK),Inv X pins σ H s->RelV x v->Vals xs us->r x xs H Q →
  wpAny (model X.prog X.w) X.A (call (.builtin id) (v :: us)) (EP X pins σ Q) X.xe s
section
variable{X:Cx}{a b:Expr}{ta tb:TE}{pos:Pos}
theorem yB(hr:IxR X r)(ha:PE X a ta)(hb:PE X b tb)(hs:W2 b):PE X (.Subscript a b pos) (tOp r ta tb):=by
 intro pins s σ H Q I h;exact Subscript_ (ZQ ha hb I h fun v u s2 x y H2 I2 rx ry q=>hr a b pins s2 σ H2 x y v u Q I2 rx ry q (hs _ _))
inductive U7(K:bj)(x:V)(y:V)(H:Hp)(Q:VK):Prop
 | mk (p xs i v) (_:x = .ref p) (_:y = .int i) (_:aR K H p xs) (_:uO xs i=some v) (_:Q v H)
inductive kJ(K:bj)(x:V)(y:V)(H:Hp)(Q:VK):Prop
 | mk (p xs i v) (_:x = .ref p) (_:y = .int i) (_:aJ K H p xs) (_:uO xs i=some v) (_:Q v H)
noncomputable def qEY:R2:=fun x y H Q => ∃ z i c,x = .str z/\y = .int i/\z.length<=sizeLine/\uO z.cps.toList i=some c/\Q (.str ⟨#[c]⟩) H
theorem yU:IxR X (U7 X.K):=by
 intro value slice pins s σ H x y v u Q I rx ry h hs;obtain⟨p,xs,i,z,rfl,rfl,hq,he,q⟩:=h
 cases rx
 obtain⟨t,rfl⟩:=ry;obtain⟨its,r,pl,hz⟩:=I.list hq;obtain⟨j,h1,h2,h3,h4,h5⟩:=Di he;obtain⟨w,ew,Pr⟩:=r.get h2;have hl:=r.length;have hn:=wO;have fin:EP X pins σ Q w s:=⟨z,H,I,Pr,q⟩
 by_cases h0:0<=i
 ·have hj:i.toNat=j:=by
   rw[seqIndex_of h0 h5]at h1;exact iM h1
  exact item_listR pl.isList h0 (by lia) (by rw[hj];simpa using ew) fin hs
 ·have hj:(i+(its.toArray.size:Int)).toNat=j:=by
   rw[seqIndex_neg (by lia) h4]at h1;rw[qN,<-hl];exact iM h1
  exact subscriptTail_builtinR (x:=w) pl.isList.typeIs slot_list_getitem.lookup
   (wpAny_getItem_list_neg (Q:=fun r s'=>r=w/\EP X pins σ Q r s') pl.isList (by lia) (by rw[List.size_toArray] <;> lia) (by lia) (by rw[hj];simpa using ew) ⟨rfl,fin⟩) hs
theorem zH:IxR X (kJ X.K):=by
 intro value slice pins s σ H x y v u Q I rx ry h hs;obtain⟨p,xs,i,z,rfl,rfl,hq,he,q⟩:=h
 cases rx
 obtain⟨t,rfl⟩:=ry;obtain⟨its,r,pl,hz⟩:=I.tuple hq;obtain⟨j,h1,h2,h3,h4,h5⟩:=Di he;obtain⟨w,ew,Pr⟩:=r.get h2;have hl:=r.length;have hn:=wO;have fin:EP X pins σ Q w s:=⟨z,H,I,Pr,q⟩;exact subscriptTail_builtinR (x:=w) pl.typeIs slot_tuple_getitem.lookup
  (getItem_tuple (j:=j) (Q:=fun r s'=>r=w/\EP X pins σ Q r s') pl (by lia) (by lia) (by rw[List.size_toArray,<-hl];exact h1) (by simpa using ew) ⟨rfl,fin⟩) hs
theorem Qy:IxR X qEY:=by
 intro value slice pins s σ H x y v u Q I rx ry h hs;obtain⟨z,i,c,rfl,rfl,hz,he,q⟩:=h;obtain⟨t,rfl⟩:=rx;obtain⟨t',rfl⟩:=ry;obtain⟨j,h1,h2,h3,h4,h5⟩:=Di he
 have hl:z.cps.toList.length=z.length:=by simp [Str.length]
 rw[hl]at h1 h4 h5;have hn:=wO
 exact tail_any (typeIs_str s z t) slot_str_getitem.lookup (getItem_str (c:=c) (by
  have e1:decide (i < -(2 ^ 63:Int))=false:=decide_eq_false (by lia);have e2:decide (i ≥ 2 ^ 63)=false:=decide_eq_false (by lia)
  rw[e1,e2,Bool.or_false]) (by rw[h1];simpa using h2) ⟨.str ⟨#[c]⟩,H,I.tok _,⟨_,rfl⟩,q⟩) hs
theorem J0(its:List Value)(n j:Nat)(u:Value):Obj.mapSeq (·.setIfInBounds j u) { cls:=.type "list",data:=.seq its.toArray n } = { cls:=.type "list",data:=.seq (its.set j u).toArray n }:=by
 simp [Obj.mapSeq]
theorem Inv.lst(I:Inv X pins σ H s)(h:H p=some (.lst xs)) :
  ∃(its:List Value)(n:Nat),Vals xs its/\s.heap.get? p=some { cls:=.type "list",data:=.seq its.toArray n }/\xs.length<=sizeLine:=by
 obtain⟨z,its,n,r,e⟩:=I.hok p _ h;exact⟨its,n,r,e,z⟩
theorem Inv.Yk{pins:List (Addr × Obj)}{σ:St}{H:Hp}{s:Shared}{p:Addr}{xs ys:List V}{its its':List Value}{n n':Nat}{f:Obj->Obj}(I:Inv X pins σ H s)(h:H p=some (.lst xs))
  (ho:s.heap.get? p=some { cls:=.type "list",data:=.seq its.toArray n }) (hf:f { cls:=.type "list",data:=.seq its.toArray n } = { cls:=.type "list",data:=.seq its'.toArray n' }) (r:Vals ys its') (hz:ys.length<=sizeLine) (t:Nat) :
  Inv X pins σ (upd H p (.lst ys)) { s with heap:=s.heap.update p f,toks:=t }:=by
 have e:(s.heap.update p f).get? p=some { cls:=.type "list",data:=.seq its'.toArray n' }:=by
  rw[Heap.get?_update_self f ho (by rw[hf] <;> rfl),hf]
 refine I.write (x:=p) (e:=p) (by rw[h];trivial) (.inl rfl) (fun b u hb q=>(Heap.get?_update_other _ _ (Ne.symm hb)).trans q) ⟨_,e⟩ ?_;exact⟨hz,its',n',r,e⟩
inductive qB0(o:V)(i:V)(v:V)(H:Hp)(Q:(Hp->Prop)):Prop
 | mk (p xs k j) (_:o = .ref p) (_:i = .int k) (_:H p=some (.lst xs)) (_:TF xs.length k=some j) (_:Q (upd H p (.lst (xs.set j v))))
theorem set_list:qE5 X qB0:=by
 intro pins s σ H o i v ov iv u Q I ro ri rv h;obtain⟨p,xs,k,j,rfl,rfl,hp,hj,q⟩:=h
 cases ro
 obtain⟨t,rfl⟩:=ri;obtain⟨its,n,r,ho,hz⟩:=I.lst hp;obtain⟨h1,h2,h3,h4⟩:=Kp hj;have hl:=r.length;have hn:=wO
 have I':Inv X pins σ (upd H p (.lst (xs.set j v))) { s with heap:=s.heap.update p (Obj.mapSeq (·.setIfInBounds j u)) }:=
  I.Yk hp ho (J0 its n j u) (r.set rv j) (by rw[List.length_set];exact hz) s.toks
 by_cases h0:0<=k
 ·have hk:k.toNat=j:=by
   rw[seqIndex_of h0 h4]at h1;exact iM h1
  exact PySem.W.ki_setAt ho h0 (by lia) (by rw[qN,<-hl];exact h4) (by rw[hk];exact⟨_,I',q⟩)
 ·have hk:(k+(its.toArray.size:Int)).toNat=j:=by
   rw[seqIndex_neg (by lia) h3]at h1;rw[qN,<-hl];exact iM h1
  exact PySem.W.ki_setBack ho (by lia) (by rw[qN,<-hl];exact h3) (by lia) (by rw[hk];exact⟨_,I',q⟩)
theorem Bk(lo hi:Option Int)(n:Nat):(sliceBounds lo hi none n).1=((HT.dR n 0 lo:Nat):Int)/\(sliceBounds lo hi none n).2.1=((HT.dR n n hi:Nat):Int)/\(sliceBounds lo hi none n).2.2=1:=by
 refine⟨?_,?_,rfl⟩
 ·cases lo with
  | none=>simp [sliceBounds,HT.dR]
  | some i=>
   simp only[sliceBounds,HT.dR,Option.getD_none,show (1:Int) > 0 by decide,if_true]
   by_cases h:i < 0
   ·simp only[h,if_true] <;> lia
   ·simp only[h,if_false] <;> lia
 ·cases hi with
  | none=>simp [sliceBounds,HT.dR]
  | some i=>
   simp only[sliceBounds,HT.dR,Option.getD_none,show (1:Int) > 0 by decide,if_true]
   by_cases h:i < 0
   ·simp only[h,if_true] <;> lia
   ·simp only[h,if_false] <;> lia
theorem xq(its:List Value)(lo hi:Option Int):slicePick its.toArray lo hi none=((its.drop (HT.dR its.length 0 lo)).take (HT.dR its.length its.length hi - HT.dR its.length 0 lo)).toArray:=by
 obtain⟨h1,h2,h3⟩:=Bk lo hi its.toArray.size;unfold slicePick;rw[h1,h2,h3];simp only[sliceRange_one,pick_run,List.size_toArray] <;> rfl
def qEW(K:bj):V->Option Int->Option Int->Hp->VK->Prop:=fun x lo hi H Q => ∃ a xs,x = .ref a/\aR K H a xs/\∀ p,H p=none->Q (.ref p) (upd H p (.lst (lZ xs lo hi)))
theorem Bl:SlR X (qEW X.K):=by
 intro pins s σ H x v vl vu lo hi sl Q I rx hs pl pu h;obtain⟨a,xs,rfl,hx,q⟩:=h
 cases rx
 obtain⟨its,r,ht,hz⟩:=I.list hx;have hlen:=r.length;refine⟨"list",_,slot_list_getitem.lookup,ht.isList.typeIs,?_⟩;refine wpAny_getItem_list_slice ht.isList hs pl pu .none (by simp) ?_ (by rw[List.size_toArray] <;> lia);rw[xq,<-hlen];refine⟨.ref s.heap.objs.size,_,I.laid (t':=s.toks) (o:=.lst (lZ xs lo hi)) (fun b ob q=>ie _ q) (bD _) ?_,rfl,q _ (I.hok.fresh (bD _))⟩;exact⟨Nat.le_trans (uN xs lo hi) hz,_,0,(r.drop (HT.dR xs.length 0 lo)).take (HT.dR xs.length xs.length hi - HT.dR xs.length 0 lo),uy _ rfl⟩
noncomputable def jB:V->Bool
 | .non=>true
 | .bl _=>true
 | .int _=>true
 | .str _=>true
 | _=>false
noncomputable def Ni:V->V->Bool
 | .non,.non=>true
 | .bl a,.bl b=>a == b
 | .bl a,.int b=>(if a then 1 else 0) == b
 | .int a,.bl b=>a == (if b then 1 else 0)
 | .int a,.int b=>a == b
 | .str a,.str b=>a == b
 | _,_=>false
theorem JV(ry:RelV y u)(rx:RelV x v)(fy:jB y=true)(fx:jB x=true):SeqAt.EqAt A s u v (Ni y x):=by
 cases y with
 | non=>
  cases ry
  cases x with
  | non=>cases rx;exact SeqAt.EqAt.same _
  | bl b=>cases rx;exact SeqAt.EqAt.none_bool b
  | int b=>obtain⟨t,rfl⟩:=rx;exact SeqAt.EqAt.none_int b t
  | str b=>obtain⟨t,rfl⟩:=rx;exact SeqAt.EqAt.none_str b t
  | _=>exact absurd (show false=true from fx) pQ
 | bl a=>
  cases ry
  cases x with
  | non=>cases rx;exact SeqAt.EqAt.bool_none a
  | bl b=>cases rx;exact SeqAt.EqAt.bool_bool a b
  | int b=>obtain⟨t,rfl⟩:=rx;exact SeqAt.EqAt.bool_int a b t
  | str b=>obtain⟨t,rfl⟩:=rx;exact SeqAt.EqAt.bool_str a b t
  | _=>exact absurd (show false=true from fx) pQ
 | int a=>
  obtain⟨t',rfl⟩:=ry
  cases x with
  | non=>cases rx;exact SeqAt.EqAt.int_none a t'
  | bl b=>cases rx;exact SeqAt.EqAt.int_bool a t' b
  | int b=>obtain⟨t,rfl⟩:=rx;exact SeqAt.EqAt.int_int a t' b t
  | str b=>obtain⟨t,rfl⟩:=rx;exact SeqAt.EqAt.int_str a t' b t
  | _=>exact absurd (show false=true from fx) pQ
 | str a=>
  obtain⟨t',rfl⟩:=ry
  cases x with
  | non=>cases rx;exact SeqAt.EqAt.str_none a t'
  | bl b=>cases rx;exact SeqAt.EqAt.str_bool a t' b
  | int b=>obtain⟨t,rfl⟩:=rx;exact SeqAt.EqAt.str_int a t' b t
  | str b=>obtain⟨t,rfl⟩:=rx;exact SeqAt.EqAt.str_str a t' b t
  | _=>exact absurd (show false=true from fx) pQ
 | _=>exact absurd (show false=true from fy) pQ
noncomputable def JT(x:V)(u:Value):Bool:=match u with
 | .none=>Ni .non x
 | .bool b=>Ni (.bl b) x
 | .int i _=>Ni (.int i) x
 | .str z _=>Ni (.str z) x
 | _=>false
theorem Rn(r:RelV y u)(f:jB y=true):JT x u=Ni y x:=by
 cases y with
 | non=>cases r;rfl
 | bl b=>cases r;rfl
 | int i=>obtain⟨t,rfl⟩:=r;rfl
 | str z=>obtain⟨t,rfl⟩:=r;rfl
 | _=>exact absurd (show false=true from f) pQ
theorem rQ:∀ {xs:List V} {us:List Value},Vals xs us->xs.all jB=true->us.any (JT x)=xs.any fun y=>Ni y x
 | _,_,.nil,_=>rfl
 | y :: xs,u :: us,.cons r t,f=>by
  rw[List.all_cons,Bool.and_eq_true]at f;rw[List.any_cons,List.any_cons,Rn r f.1,rQ t f.2]
theorem nJ(rx:RelV x v)(fx:jB x=true):∀ {xs:List V} {us:List Value},Vals xs us->xs.all jB=true->∀ u∈us,SeqAt.EqAt A s u v (JT x u)
 | _,_,.nil,_=>fun u hu=>by cases hu
 | y :: xs,u :: us,.cons r t,f=>fun u' hu=>by
  rw[List.all_cons,Bool.and_eq_true]at f;rcases bU.mp hu with rfl | hu
  ·rw[Rn r f.1];exact JV r rx f.1 fx
  ·exact nJ rx fx t f.2 u' hu
noncomputable def inV(x:V)(xs:List V):Bool:=xs.any fun y=>Ni y x
noncomputable def rIn(K:bj)(neg:Bool):R2:=fun x y H Q => ∃ p xs,y = .ref p/\(aR K H p xs ∨ aJ K H p xs)/\jB x=true/\xs.all jB=true/\Q (.bl (if neg then !inV x xs else inV x xs)) H
theorem zz:jQ X (compareOp .In) (rIn X.K false):=by
 intro pins s σ H x y v u Q I rx ry h;obtain⟨p,xs,rfl,hq,fx,fs,q⟩:=h
 cases ry
 rcases hq with hq | hq
 ·obtain⟨its,r,pl,hz⟩:=I.list hq;refine SeqAt.in_listAt (JT x) pl.isList (fun w hw=>nJ rx fx r fs w (by simpa using hw)) ⟨.bl _,H,I,rfl,?_⟩;rw[show its.toArray.any (JT x)=its.any (JT x) by simp,rQ r fs];exact q
 ·obtain⟨its,r,pl,hz⟩:=I.tuple hq;refine SeqAt.in_tupleAt (JT x) pl (fun w hw=>nJ rx fx r fs w (by simpa using hw)) ⟨.bl _,H,I,rfl,?_⟩;rw[show its.toArray.any (JT x)=its.any (JT x) by simp,rQ r fs];exact q
theorem lQ:jQ X (compareOp .NotIn) (rIn X.K true):=by
 intro pins s σ H x y v u Q I rx ry h;obtain⟨p,xs,rfl,hq,fx,fs,q⟩:=h
 cases ry
 rcases hq with hq | hq
 ·obtain⟨its,r,pl,hz⟩:=I.list hq;refine SeqAt.notIn_listAt (JT x) pl.isList (fun w hw=>nJ rx fx r fs w (by simpa using hw)) ⟨.bl _,H,I,rfl,?_⟩;rw[show its.toArray.any (JT x)=its.any (JT x) by simp,rQ r fs];exact q
 ·obtain⟨its,r,pl,hz⟩:=I.tuple hq;refine SeqAt.notIn_tupleAt (JT x) pl (fun w hw=>nJ rx fx r fs w (by simpa using hw)) ⟨.bl _,H,I,rfl,?_⟩;rw[show its.toArray.any (JT x)=its.any (JT x) by simp,rQ r fs];exact q
theorem zN:jL X (.builtin "len") (fun xs H Q => ∃ p ys,xs=[.ref p]/\(aR X.K H p ys ∨ aJ X.K H p ys)/\Q (.int ys.length) H):=by
 intro pins s σ H xs us Q I r h;obtain⟨p,ys,rfl,hq,q⟩:=h;obtain⟨u,rfl,rx⟩:=vals1 r
 cases rx
 have hn:=wO;rcases hq with hq | hq
 ·obtain⟨its,r',pl,hz⟩:=I.list hq;have hlen:=r'.length;exact Calls.call_len_list pl.isList (by simp only[List.size_toArray] <;> lia) ⟨.int ys.length,H,I.tok _,⟨s.toks+1,by rw[List.size_toArray,hlen]⟩,q⟩
 ·obtain⟨its,r',pl,hz⟩:=I.tuple hq;have hlen:=r'.length;exact len_tuple pl (by simp only[List.size_toArray] <;> lia) ⟨.int ys.length,H,I.tok _,⟨s.toks+1,by rw[List.size_toArray,hlen]⟩,q⟩
theorem dH:jL X (.type "list") (fun xs H Q => ∃ p ys,xs=[.ref p]/\(aR X.K H p ys ∨ aJ X.K H p ys)/\∀ l,H l=none->Q (.ref l) (upd H l (.lst ys))):=by
 intro pins s σ H xs us Q I r h;obtain⟨p,ys,rfl,hq,q⟩:=h;obtain⟨u,rfl,rx⟩:=vals1 r
 cases rx
 have fin:∀(its:List Value),Vals ys its->ys.length<=sizeLine->∀(h':Heap)(c':Nat),(∀ b o',s.heap.get? b=some o'->h'.get? b=some o') →
   h'.get? s.heap.objs.size=some { cls:=.type "list",dict:=none,data:=.seq its.toArray c',slots:=#[] }->EP X pins σ Q (.ref s.heap.objs.size) { s with heap:=h' }:=fun its r' hz h' c' kp e=>
  ⟨.ref s.heap.objs.size,_,I.laid (t':=s.toks) kp (bD _) (show bK X.prog X.w _ h' _ (.lst ys) from ⟨hz,its,c',r',e⟩),rfl,q _ (I.hok.fresh (bD _))⟩
 rcases hq with hq | hq
 ·obtain⟨its,r',pl,hz⟩:=I.list hq;have hlen:=r'.length;obtain⟨o,ho,hc,n,hd⟩:=pl.isList;exact call_list_seq p (.inl rfl) ho hc hd (fun h' c' kp e=>fin its r' hz h' c' kp e) (by simp only[List.size_toArray] <;> lia)
 ·obtain⟨its,r',pl,hz⟩:=I.tuple hq;have hlen:=r'.length;obtain⟨o,ho,hc,n,hd⟩:=pl;exact call_list_seq p (.inr rfl) ho hc hd (fun h' c' kp e=>fin its r' hz h' c' kp e) (by simp only[List.size_toArray] <;> lia)
theorem zX:jL X (.type "tuple") (fun xs H Q => ∃ p ys,xs=[.ref p]/\((aR X.K H p ys/\∀ l,H l=none->Q (.ref l) (upd H l (.tup ys))) ∨ (aJ X.K H p ys/\Q (.ref p) H))):=by
 intro pins s σ H xs us Q I r h;obtain⟨p,ys,rfl,h⟩:=h;obtain⟨u,rfl,rx⟩:=vals1 r
 cases rx
 rcases h with ⟨hq,q⟩ | ⟨hq,q⟩
 ·obtain⟨its,r',pl,hz⟩:=I.list hq;have hlen:=r'.length;refine call_tuple_list pl.isList (fun h' kp=>?_) (by simp only[List.size_toArray] <;> lia);have I1:Inv X pins σ H { s with heap:=h' }:=I.kept (t':=s.toks) kp
  have I2:Inv X pins σ (upd H h'.objs.size (.tup ys)) { s with heap:=h'.push { cls:=.type "tuple",data:=.seq its.toArray } }:=
   I1.laid (t':=s.toks) (fun b o e=>ie _ e) (bD _) (show bK X.prog X.w _ _ _ (.tup ys) from ⟨hz,its,r',IsTup.new _ _⟩)
  exact⟨.ref h'.objs.size,_,I2,rfl,q _ (I1.hok.fresh (bD _))⟩
 ·obtain⟨its,r',pl,hz⟩:=I.tuple hq;exact call_tuple_same pl ⟨.ref p,H,I,rfl,q⟩
noncomputable def tyV(K:bj)(T:String)(x:V)(H:Hp):Prop:=match x with
 | .str _=>T = "str"
 | .int _=>T = "int"
 | .ref p=>(T = "list" /\ ∃ xs,aR K H p xs) ∨ (T = "tuple" /\ ∃ o,K.lookup p=some o/\o.cls = .type "tuple" /\ o.dict=none) ∨
   (T = "dict" /\ ((∃ kvs,H p=some (.dK kvs)) ∨ ∃ kvs,H p=some (.dT kvs))) ∨ (T = "set" /\ ∃ S n,H p=some (.set S n))
 | _=>False
theorem Om(I:Inv X pins σ H s)(r:RelV x v)(ty:tyV X.K T x H) :
  s.TypeIs v T/\∀ a,v = .ref a->∃ ob,s.heap.get? a=some ob/\ob.dict=none:=by
 cases x with
 | str z=>
  obtain⟨t,rfl⟩:=r
  cases (show T = "str" from ty)
  exact⟨typeIs_str s z t,fun _ e=>nomatch e⟩
 | int i=>
  obtain⟨t,rfl⟩:=r
  cases (show T = "int" from ty)
  exact⟨typeIs_int s i t,fun _ e=>nomatch e⟩
 | ref p=>
  cases r
  rcases ty with ⟨rfl,xs,hq⟩ | ⟨rfl,o,hk,hc,hd⟩ | ⟨rfl,hk⟩ | ⟨rfl,S,n,hk⟩
  ·obtain⟨its,_,pl,_⟩:=I.list hq;refine⟨pl.isList.typeIs,fun a e=>?_⟩
   cases e
   obtain⟨o,n,e,c,hd,_⟩:=pl;exact⟨o,e,hd⟩
  ·refine⟨⟨o,I.kj p o hk,hc⟩,fun a e=>?_⟩
   cases e
   exact⟨o,I.kj _ o hk,hd⟩
  ·have z:∃ o,s.heap.get? p=some o/\o.ExactDict:=by
    rcases hk with ⟨kvs,hk⟩ | ⟨kvs,hk⟩
    ·obtain⟨_,_,_,_,o,_,_,e,ex,_⟩:=I.hok p _ hk;exact⟨o,e,ex⟩
    ·obtain⟨_,_,_,_,o,_,_,e,ex,_⟩:=I.hok p _ hk;exact⟨o,e,ex⟩
   obtain⟨o,e,ex⟩:=z;refine⟨⟨o,e,ex.1⟩,fun a e2=>?_⟩
   cases e2
   exact⟨o,e,ex.2.1⟩
  ·obtain⟨o,_,_,_,e,ex,_⟩:=I.hok p _ hk;refine⟨⟨o,e,ex.1⟩,fun a e2=>?_⟩
   cases e2
   exact⟨o,e,ex.2.1⟩
 | _=>exact False.elim ty
noncomputable def qEN(K:bj)(T:String)(r:V->List V->Hp->VK->Prop)(to:TE):TE:=fun σ H Q=>to σ H fun x H1=>tyV K T x H1/\r x [] H1 Q
noncomputable def tBM(K:bj)(T:String)(r:V->List V->Hp->VK->Prop)(to:TE)(t:TA):TE:=fun σ H Q=>to σ H fun x H1=>tyV K T x H1/\t σ H1 fun xs H2=>r x xs H2 Q
variable{o e:Expr}{es:List Expr}{to:TE}{t:TA}{name:Str}{apos cpos:Pos}{T id:String}{r:V->List V->Hp->VK->Prop}
theorem QD(pa:PlainAttrs T)(slot:Slot T name id)(hty:typeOf (.builtin id)=pure (.type "method_descriptor"))(hm:MtR X id r)(ho:PE X o to)
  (hbase:attributeBase o name X.env (eval o X.env)=eval o X.env:=by rfl) (hline:(apos.endLine == cpos.line)=true:=by rfl):PE X (.Call (.Attribute o name apos) [] [] cpos) (qEN X.K T r to):=by
 intro pins s σ H Q I h;refine wpAny_Call_method0_late hbase hline (bA (ho pins s σ H _ I h) fun v s1 ⟨x,H1,I1,r1,ty,q1⟩=>?_);obtain⟨h1,h2⟩:=Om I1 r1 ty;exact⟨T,id,pa,slot,hty,h1,h2,Calls.callWith_builtin rfl (PySem.evalArgs_none (hm pins s1 σ H1 x [] v [] Q I1 r1 .nil q1))⟩
theorem fX(pa:PlainAttrs T)(slot:Slot T name id)(hty:typeOf (.builtin id)=pure (.type "method_descriptor"))(hm:MtR X id r)(ho:PE X o to)(ha:PA X (e :: es) t)
  (hbase:attributeBase o name X.env (eval o X.env)=eval o X.env:=by rfl)
  (hfew:((backTo cpos (starEach (e :: es) X.env)).all (fun x => !x.1) && (backToKw cpos (keywordEach [] X.env)).all (fun x=>x.1.isSome)
   && decide ((e :: es).length+([]:List Keyword).length+(if ([]:List Keyword).isEmpty then 0 else 1) < 30))=true:=by rfl)
  (hline:(apos.endLine == cpos.line)=true:=by rfl) (hs:starEach (e :: es) X.env=(false,eval e X.env) :: starEach es X.env:=by rfl) (hplain:(backTo cpos (starEach es X.env)).any (·.1)=false:=by rfl) :
  PE X (.Call (.Attribute o name apos) (e :: es) [] cpos) (tBM X.K T r to t):=by
 intro pins s σ H Q I h;refine wpAny_Call_method_late hbase hfew hline rfl (bA (ho pins s σ H _ I h) fun v s1 ⟨x,H1,I1,r1,ty,q1⟩=>?_);obtain⟨h1,h2⟩:=Om I1 r1 ty;refine⟨T,id,pa,slot,hty,h1,h2,?_⟩;have hA:=ha cpos pins s1 σ H1 _ I1 q1;rw[hs]at hA ⊢;refine Calls.callWith_builtin (by show (false || (backTo cpos (starEach es X.env)).any (·.1))=false;rw[hplain] <;> rfl) (Calls.evalArgs_plain ?_);exact bA hA fun us s2 ⟨vs,H2,I2,r2,q2⟩=>hm pins s2 σ H2 x vs v us Q I2 r1 r2 q2
end
def MtM(X:Cx)(id:String)(r:V->List V->Hp->VK->Prop):Prop:=
 ∀(pins:List (Addr × Obj))(s:Shared)(σ:St)(H:Hp)(x:V)(xs:List V)(v:Value)(us:List Value)(Q:VK),Inv X pins σ H s->RelV x v->Vals xs us->r x xs H Q →
  wpAny (model X.prog X.w) X.A (call (.builtin id) (v :: us)) (EP X pins σ Q) X.xe s
theorem Vals.one:∀ {x:V} {us:List Value},Vals [x] us->∃ u,us=[u]/\RelV x u
 | _,_,.cons r .nil=>⟨_,rfl,r⟩
theorem Vals.zero:∀ {us:List Value},Vals [] us->us=[]
 | _,.nil=>rfl
theorem Vals.dropLast(h:Vals xs us):Vals xs.dropLast us.dropLast:=by
 induction h with
 | nil=>exact .nil
 | cons r t ih=>
  cases t with
  | nil=>exact .nil
  | cons q t'=>exact .cons r ih
theorem Vals.eraseIdx:∀ {xs:List V} {us:List Value} (i:Nat),Vals xs us->Vals (xs.eraseIdx i) (us.eraseIdx i)
 | _,_,_,.nil=>.nil
 | _,_,0,.cons _ t=>t
 | _,_,i+1,.cons r t=>.cons r (Vals.eraseIdx i t)
theorem Vals.rep(h:Vals xs us):∀ k:Nat,Vals (List.replicate k xs).flatten (List.replicate k us).flatten
 | 0=>.nil
 | k+1=>by
  rw[List.replicate_succ,List.replicate_succ,List.flatten_cons,List.flatten_cons];exact Vals.append h (Vals.rep h k)
theorem JS(l:List α):l.eraseIdx (l.length - 1)=l.dropLast:=by
 induction l with
 | nil=>rfl
 | cons a r ih=>
  cases r with
  | nil=>rfl
  | cons b r=>
   have e:(a :: b :: r).length - 1=((b :: r).length - 1)+1:=by
    have h1:(a :: b :: r).length=r.length+2:=rfl;have h2:(b :: r).length=r.length+1:=rfl;lia
   rw[e,List.eraseIdx_cons_succ,ih]
   all_goals rfl
theorem Ak:∀(l:List α)(i:Nat),(l.eraseIdx i).length<=l.length
 | [],_=>bD _
 | _ :: _,0=>Nat.le_succ _
 | _ :: r,i+1=>Nat.succ_le_succ (Ak r i)
theorem foldl_rep(its:List Value):∀(k:Nat)(acc:List Value),
  List.foldl (fun x1 x2=>x1++x2) acc.toArray (List.replicate k its.toArray)=(acc++(List.replicate k its).flatten).toArray
 | 0,acc=>by simp
 | k+1,acc=>by
  have e:acc.toArray++its.toArray=(acc++its).toArray:=by simp
  have e2:(acc++its)++(List.replicate k its).flatten=acc++(List.replicate (k+1) its).flatten:=by
   rw[List.replicate_succ,List.flatten_cons,List.append_assoc]
  rw[<-e2,<-foldl_rep its k (acc++its),<-e,List.replicate_succ,List.foldl_cons]
section
variable{X:Cx}{pins:List (Addr × Obj)}{σ:St}{H:Hp}{s:Shared}{l b:Addr}{xs ys zs:List V}
theorem Inv.Qs{its its':List Value}{n:Nat}{f:Array Value->Array Value}{t':Nat}(I:Inv X pins σ H s)(hH:H l=some (.lst xs))
  (e:s.heap.get? l=some { cls:=.type "list",data:=.seq its.toArray n }) (hf:f its.toArray=its'.toArray) (hv:Vals ys its') (hz:ys.length<=sizeLine) :
  Inv X pins σ (upd H l (.lst ys)) { s with heap:=s.heap.update l (Obj.mapSeq f),toks:=t' }:=by
 have q:=PySem.IsL.update e f;rw[hf]at q;refine I.write (x:=l) (e:=l) (by rw[hH];exact trivial) (.inl rfl) (fun b' u hb hu=>(Heap.get?_update_other s.heap (Obj.mapSeq f) (Ne.symm hb)).trans hu) ⟨_,q⟩ ?_;exact⟨hz,its',_,hv,q⟩
theorem Inv.qFD(I:Inv X pins σ H s)(hv:Vals ys its)(hz:ys.length<=sizeLine) :
  Inv X pins σ (upd H s.heap.objs.size (.lst ys)) { s with heap:=s.heap.push { cls:=.type "list",data:=.seq its.toArray },toks:=t' }:=
 I.laid (fun _ _ q=>ie _ q) (bD _) ⟨hz,its,0,hv,uy _ rfl⟩
theorem Inv.fresh(I:Inv X pins σ H s):H s.heap.objs.size=none:=I.hok.fresh (bD _)
theorem Inv.Ck(I:Inv X pins σ H s)(hH:H l=some (.lst xs)):xs.length<=sizeLine/\∃(its:List Value)(n:Nat),Vals xs its/\xs.length=its.length/\s.heap.get? l=some { cls:=.type "list",data:=.seq its.toArray n }:=by
 obtain⟨z,its,n,r,e⟩:=I.hok l _ hH;exact⟨z,its,n,r,r.length,e⟩
theorem Qe(h:n<=sizeLine):Builtin.List.listTooLong n=false:=by
 unfold Builtin.List.listTooLong;exact decide_eq_false (by lia)
end
section
variable{X:Cx}
inductive U9(x:V)(vs:List V)(H:Hp)(Q:VK):Prop
 | mk (l xs y) (_:x = .ref l) (_:vs=[y]) (_:H l=some (.lst xs)) (_:xs.length < sizeLine) (_:Q .non (upd H l (.lst (xs++[y]))))
theorem yH:MtM X "list.append" U9:=by
 intro pins s σ H x vs v us Q I rx rv h;obtain⟨l,xs,y,rfl,rfl,hH,hz,q⟩:=h
 cases rx
 obtain⟨u,rfl,ru⟩:=rv.one;obtain⟨z,its,n,r,hl,e⟩:=I.Ck hH;refine call_meets F.slot_list_append ⟨_,e,rfl⟩ F.entry_list_append (F.args_list_append_2 _ _) (PySem.list_append l its.toArray n u (by rw[qN];lia)) ⟨e,?_⟩;refine⟨.non,_,I.Qs (its':=its++[u]) hH e (by simp) (r.append (.cons ru .nil)) ?_,rfl,q⟩;rw[dN,iG];lia
def U8:V->List V->Hp->VK->Prop:=fun x vs H Q => ∃ l b xs zs,x = .ref l/\vs=[.ref b]/\H l=some (.lst xs)/\H b=some (.lst zs)/\xs.length+zs.length<=sizeLine/\Q .non (upd H l (.lst (xs++zs)))
theorem iY:MtM X "list.extend" U8:=by
 intro pins s σ H x vs v us Q I rx rv h;obtain⟨l,b,xs,zs,rfl,rfl,hH,hB,hz,q⟩:=h
 cases rx
 obtain⟨u,rfl,ru⟩:=rv.one
 cases ru
 obtain⟨z,its,n,r,hl,e⟩:=I.Ck hH;obtain⟨z2,its2,n2,r2,hl2,e2⟩:=I.Ck hB
 have hsz:its.toArray.size+its2.toArray.size<=sizeLine:=by rw[qN,qN];lia
 have qCB:¬ (!its.toArray.isEmpty && Builtin.List.listTooLong (its.toArray.size+its2.toArray.size))=true:=by
  rw[Qe hsz,Bool.and_false];exact pQ
 refine call_meets F.slot_list_extend ⟨_,e,rfl⟩ F.entry_list_extend (F.args_list_extend_2 _ _)
  (AutoSeq1.list_extend_list_list_0 l its.toArray n b its2.toArray n2 qCB (by rw[qN];lia) (by lia)) ⟨e,e2,?_⟩
 refine⟨.non,_,I.Qs (its':=its++its2) hH e (by simp) (r.append r2) ?_,rfl,q⟩;rw[dN];lia
def qEX:V->List V->Hp->VK->Prop:=fun x vs H Q => ∃ l xs y,x = .ref l/\vs=[]/\H l=some (.lst xs)/\xs[xs.length - 1]? = some y/\Q y (upd H l (.lst xs.dropLast))
theorem Ye:MtM X "list.pop" qEX:=by
 intro pins s σ H x vs v us Q I rx rv h;obtain⟨l,xs,y,rfl,rfl,hH,hy,q⟩:=h
 cases rx
 have hus:=rv.zero;subst hus;obtain⟨z,its,n,r,hl,e⟩:=I.Ck hH;obtain⟨u,hu,ru⟩:=r.get hy
 have hy':its.toArray[its.toArray.size - 1]? = some u:=by
  show its.toArray[its.length - 1]? = some u;rw[<-Array.getElem?_toList,<-hl];exact hu
 refine call_meets F.slot_list_pop ⟨_,e,rfl⟩ F.entry_list_pop (F.args_list_pop_1 _) (MeetsSeq.list_pop_last l its.toArray n u hy' (by rw[qN];lia)) ⟨e,?_⟩;refine⟨y,_,I.Qs (its':=its.dropLast) hH e ?_ r.dropLast ?_,ru,q⟩
 ·show its.toArray.eraseIdxIfInBounds (its.toArray.size - 1)=its.dropLast.toArray;rw[qN,List.eraseIdxIfInBounds_toArray,JS]
 ·rw[List.length_dropLast];lia
def Y0:V->List V->Hp->VK->Prop:=fun x vs H Q => ∃ l xs i k y,x = .ref l/\vs=[.int i]/\H l=some (.lst xs) /\ -(2 ^ 63)<=i/\i < 2 ^ 63/\seqIndex? i xs.length=some k/\xs[k]? = some y/\Q y (upd H l (.lst (xs.eraseIdx k)))
theorem Ql:MtM X "list.pop" Y0:=by
 intro pins s σ H x vs v us Q I rx rv h;obtain⟨l,xs,i,k,y,rfl,rfl,hH,h1,h2,hk,hy,q⟩:=h
 cases rx
 obtain⟨u,rfl,ru⟩:=rv.one;obtain⟨t,rfl⟩:=ru;obtain⟨z,its,n,r,hl,e⟩:=I.Ck hH;obtain⟨w,hw,Pr⟩:=r.get hy;refine call_meets F.slot_list_pop ⟨_,e,rfl⟩ F.entry_list_pop (F.args_list_pop_2 _ _)
  (MeetsSeq.list_pop_at l its.toArray n i t k w (fitsIndex_both h1 h2) (by rw[qN,<-hl];exact hk) (by rw[<-Array.getElem?_toList];exact hw) (by rw[qN];lia)) ⟨e,?_⟩
 refine⟨y,_,I.Qs (its':=its.eraseIdx k) hH e ?_ (r.eraseIdx k) ?_,Pr,q⟩
 ·show its.toArray.eraseIdxIfInBounds k=(its.eraseIdx k).toArray;rw[List.eraseIdxIfInBounds_toArray]
 ·have:=Ak xs k;lia
def Y4:V->List V->Hp->VK->Prop:=fun x vs H Q => ∃ l xs,x = .ref l/\vs=[]/\H l=some (.lst xs)/\Q .non (upd H l (.lst []))
theorem Qm:MtM X "list.clear" Y4:=by
 intro pins s σ H x vs v us Q I rx rv h;obtain⟨l,xs,rfl,rfl,hH,q⟩:=h
 cases rx
 have hus:=rv.zero;subst hus;obtain⟨z,its,n,r,hl,e⟩:=I.Ck hH;refine call_meets F.slot_list_clear ⟨_,e,rfl⟩ F.entry_list_clear (F.args_list_clear_1 _) (AutoSeq1.list_clear_list_0 l its.toArray n (by rw[qN];lia)) ⟨e,?_⟩;exact⟨.non,_,I.Qs (its':=[]) (ys:=[]) hH e rfl .nil (Nat.zero_le _),rfl,q⟩
noncomputable def qEZ:R2:=fun x y H Q => ∃ l b xs zs,x = .ref l/\y = .ref b/\H l=some (.lst xs)/\H b=some (.lst zs)/\xs.length+zs.length<=sizeLine/\∀ p,H p=none->Q (.ref p) (upd H p (.lst (xs++zs)))
theorem CW:jQ X (binaryOp .Add) qEZ:=by
 intro pins s σ H x y v u Q I rx ry h;obtain⟨l,b,xs,zs,rfl,rfl,hH,hB,hz,q⟩:=h
 cases rx
 cases ry
 obtain⟨z,its,n,r,hl,e⟩:=I.Ck hH;obtain⟨z2,its2,n2,r2,hl2,e2⟩:=I.Ck hB;refine PySem.P.add_list e e2 ?_ (by rw[qN,qN];lia)
 have ea:its.toArray++its2.toArray=(its++its2).toArray:=by simp
 rw[ea];exact⟨.ref _,_,I.qFD (t':=s.toks) (r.append r2) (by rw[dN];lia),rfl,q _ I.fresh⟩
theorem len_rep(xs:List α)(k:Nat):(List.replicate k xs).flatten.length=k * xs.length:=by
 induction k with
 | zero=>simp
 | succ k ih=>rw[List.replicate_succ,List.flatten_cons,dN,ih,Nat.succ_mul,Nat.add_comm]
end
section
variable{prog:Program}{w:World}{A:Around}{E:Value->Shared->Prop}{s:Shared}
end
section
variable{X:Cx}
end
end L2
namespace Att
open PySem PySem.W PySem.Calls PyProof.Rows
theorem uU:∀(ns:List Int)(vs:List Value),WellAll P h vs (ns.map WData.int)->IntsAre vs ns:=by
 intro ns
 induction ns with
 | nil=>
  intro vs w;rw[List.map_nil]at w
  cases w
  exact .nil
 | cons n ns ih=>
  intro vs w;rw[List.map_cons]at w
  cases w with
  | cons a b=>
   cases a
   exact .cons _ _ (ih _ b)
theorem Ly{l:OpenLaw}{n:Nat}(hn:l.most=some n){P:Params}{h:Heap}{args:List WData}{vals:List Value}
  (hpre:l.row.toRowW.claim.pre args=true) (hwl:WellAll P h vals args) :
  ∃ a vs ns,vals=[Value.ref a]/\args=[WData.list (ns.map WData.int)]/\h.get? a=some { cls:=.type "list",data:=.seq vs.toArray }/\IntsAre vs ns/\ns.length<=n:=by
 have hsh:WShape.hasAll [] args [.list .int]=true:=(pre_splitW hpre).1;have hc:l.pre.holds [] { args:=args }=true:=(pre_splitW hpre).2;obtain⟨d,r,rfl,h1,h2⟩:=hasAllW_cons hsh;obtain rfl:=hasAllW_nil h2;obtain⟨xs,rfl,h3⟩:=hasW_list h1;obtain⟨ns,rfl⟩:=items_int h3
 have hlen:ns.length<=n:=by
  unfold OpenLaw.pre at hc
  have h4:(WTm.not (.lt (.lit (.int (n:Int))) (.len (.arg 0)))).holds [] { args:=[.list (ns.map .int)] }=true:=by
   have h4:=(holds_andW hc).1;rw[hn]at h4;exact h4
  have h5:=condW_of h4 (w_not (w_lt w_lit (w_len_list (w_arg rfl))));rw[bZ]at h5;refine Nat.le_of_not_lt fun q=>?_
  have q':(n:Int) < ((ns.length:Nat):Int):=by lia
  first
   | (rw[decide_eq_true q']at h5;exact absurd h5 (by decide))
   | (simp at h5;lia)
 cases hwl with
 | cons w1 w2=>
  cases w2
  cases w1 with
  | list ho hall=>exact⟨_,_,ns,rfl,rfl,ho,uU ns _ hall,hlen⟩
theorem M8(l:OpenLaw)(args:List WData):l.row.toRowW.claim.post args (.bool true) args=true:=
 postW_of (r:=l.row.toRowW) (X:=(true == true))
  (show WShape.has [] (.bool true) .bool=true by first | rfl | decide | simp [WShape.has,WShape.arms,WShape.armsAll])
  (show (WTm.eq .res (.lit (.bool true))).value [] { args:=args,res:=some (.bool true),after:=args }=some (.bool (true == true)) from w_eq_bool (w_res rfl) w_lit) rfl
theorem Gq{l:OpenLaw}{n:Nat}{q:Program}{loose:List Str}{XP:(Str->Option Value)->Heap->Prop}{YP:World->Heap->Prop}{d:DefRec}
  (hn:l.most=some n) (hdf:d.params.defaults=[])
  (call:∀(w:World)(s₀ s₁:Shared)(mg mb:Str->Option Value)(fa:Addr)(o:Obj)(pm cd doc:Value)(a:Addr)(vs:List Value)(ns:List Int),
   Ground q loose [] XP w s₀ mg mb s₁.heap->YP w s₁.heap →
   s₁.heap.get? fa=some o->o.data = .func (docDef d.name d.params d.body d.scope pm cd doc)->s₁.heap.CodeRec cd d.name->mg d.name=some (.ref fa) →
   s₁.heap.get? a=some { cls:=.type "list",data:=.seq vs.toArray }->IntsAre vs ns->ns.length<=n->s₁.gens = #[] →
   codeAny (model l.prog w) callerA (.call (.ref fa) ⟨[.ref a],[]⟩) (fun r s'=>r = .ok (.ret (.bool true))/\OldK s₁.heap s'.heap/\s'.os=s₁.os/\AllBare s'.gens) s₁) :
  WalkO q loose XP YP l.row.toRowW d [] (fun f vs=>PySem.call f vs):=by
 intro w s₀ s₁ mg mb G Y fa o pm cd doc dV kV ho hd hcd hD hmg hg args vals as hpre hlay hrd hwl hlo;obtain rfl:dV = .none:=Dflts.none hD hdf;obtain rfl:kV = .none:=Dflts.noKw hD;obtain⟨a,vs,ns,rfl,rfl,hobj,hints,hlen⟩:=Ly hn hpre hwl;refine enter_call (codeAny_mono (call w s₀ s₁ mg mb fa o pm cd doc a vs ns G Y ho (fd_plain hd) hcd hmg hobj hints hlen hg) fun r s' hq=>?_);obtain⟨rfl,h2,h3,h4⟩:=hq;exact⟨.inl ⟨.bool true,.bool true,[],rfl,fun _=>rfl,.bool true,M8 l _,fun _=>⟨List.Pairwise.nil,fun _ hm=>(nomatch hm)⟩⟩,h2,h3,h4⟩
section
variable{prog:Program}{w:World}{A:Around}{E:Value->Shared->Prop}{s:Shared}{K:Frag}
end
end Att
namespace L2
open PySem PySem.Spec PyProof.Rows
theorem jq:∀ {vs:List Value} {ns:List Int},IntsAre vs ns->Vals (ns.map V.int) vs
 | _,_,.nil=>.nil
 | _,_,.cons n t h=>.cons ⟨t,rfl⟩ (jq h)
def Only(H:Hp):Prop:=∀ b,H b=none ∨ ∃ o xs,H b=some (.JL o (.lst xs))
theorem law_call{P:Program}{w:World}{K:bj}{mg mb:Str->Option Value}{CX:Jl}{k:Nat}{fa a:Addr}{fd:FuncData}{x:Str}{sp:Sp}{s₁:Shared}{vs:List Value}{ns:List Int}
  (KX:K.In s₁.heap) (hns:s₁.heap.Ns mainGlobals mg) (hb:s₁.heap.Ns builtinsNs mb) (hbb:∀ x:Str,x ≠ "__name__" -> mb x=bootBuiltins x) (hlim:s₁.heap.NoLimit) (hg:s₁.gens = #[])
  (ha:s₁.heap.get? a=some { cls:=.type "list",data:=.seq vs.toArray }) (hi:IntsAre vs ns) (hl:ns.length<=sizeLine) (hr:eF k callerA)
  (F:∀ base:Heap,K.In base->base.Ns mainGlobals mg->aO P w K mg base CX k fa fd [x] sp) (hbind:∀(s:Shared)(u:Value),BindsTo s fd ⟨[u],[]⟩ [(x,u)])
  (hsp:∀ H:Hp,Only H->aR K H a (ns.map V.int)->sp [.ref a] H (fun v _=>v = .bl true) fun _ _ _=>False)
  (hCX:∀ H e s',CX [] H s₁ (fun _ _ _=>False) e s'->False) :
  codeAny (model P w) callerA (.call (.ref fa) ⟨[.ref a],[]⟩) (fun r s'=>r = .ok (.ret (.bool true))/\OldK s₁.heap s'.heap/\s'.os=s₁.os/\AllBare s'.gens) s₁:=by
 have rv:=jq hi;have lenV:=hi.length;have core:∀ H:Hp,Only H->aR K H a (ns.map V.int)->iZ P w H s₁.heap->(∀ b,H b ≠ none->b=a)->(H a ≠ none->K.lookup a=none) →
   codeAny (model P w) callerA (.call (.ref fa) ⟨[.ref a],[]⟩) (fun r s'=>r = .ok (.ret (.bool true))/\OldK s₁.heap s'.heap/\s'.os=s₁.os/\AllBare s'.gens) s₁:=by
  intro H hO hS hok hA hK;have Lg:∀ {b:Addr} {o:Obj},s₁.heap.get? b=some o->H b=none->(Cu s₁.heap H).get? b=some o:=fun e n=>R5 e n
  have noA:∀ {b:Addr} {o:Obj} {es:Array DictEntry} {ep:Nat},s₁.heap.get? b=some o->o.data = .dict es ep->H b=none:=fun {b o es ep} e d=>by
   cases q:H b with
   | none=>rfl
   | some u=>
    have e':b=a:=hA b (by rw[q];simp);subst e';rw[ha]at e;cases e;have d':Data.seq vs.toArray _=Data.dict es ep:=d
    cases d'
  have nsK:∀ {b:Addr} {m:Str->Option Value},s₁.heap.Ns b m->(Cu s₁.heap H).Ns b m:=fun {b m} ⟨o,es,ep,e,d,r⟩=>⟨o,es,ep,Lg e (noA e d),d,r⟩
  have hKb:K.In (Cu s₁.heap H):=fun b o e=>Lg (KX b o e) (by
   cases q:H b with
   | none=>rfl
   | some u=>
    have e':b=a:=hA b (by rw[q];simp);subst e'
    rw[hK (by rw[q];simp)]at e;cases e)
  have hM:Mod K mg (Cu s₁.heap H):=⟨hKb,nsK hns,⟨mb,nsK hb,hbb⟩,let ⟨mc,h1,h2⟩:=hlim;⟨mc,nsK h1,h2⟩⟩;have e0:Jf P w K mg (Cu s₁.heap H) callerA [] s₁ H:=⟨rfl,hM,fun b o e=>V3 e,Nat.le_of_eq (NK _ _),trivial,fun b hb=>absurd (show b∈([]:List Addr) from hb) (by simp),hok,.of_eq hg⟩;refine codeAny_mono ((F _ hKb (nsK hns)).run callerA [] s₁ H ⟨[.ref a],[]⟩ [.ref a] [.ref a] _ _ hr e0 (hbind s₁ (.ref a)) (.cons rfl .nil) (hsp H hO hS)) fun r s' h=>?_
  cases r with
  | error e=>exact (hCX H e s' h).elim
  | ok fl=>
   cases fl with
   | next=>exact False.elim h
   | brk=>exact False.elim h
   | cont=>exact False.elim h
   | ret u=>
    obtain⟨v,H',os,bare,un,hok',r',q⟩:=h;have q':v = .bl true:=q;subst q';obtain rfl:u=Value.bool true:=r';refine⟨rfl,OldK.of_keep fun b o e=>?_,os,bare⟩
    cases q:H b with
    | none=>exact un.keep b o e q (by intro z;exact absurd (show b∈([]:List Addr) from z) (by simp)) (by simp)
    | some u=>
     rcases hO b with z | ⟨ob,xs,z⟩
     ·rw[q]at z;cases z
     ·have z2:=un.pF b ob _ z;obtain⟨e1,_⟩:=hok b _ z;obtain⟨e2,_⟩:=hok' b _ z2;rw[e]at e1;cases e1;exact e2
 cases hk:K.lookup a with
 | some o=>
  have e:=KX a o hk;rw[ha]at e
  cases e
  refine core (fun _=>none) (fun _=>.inl rfl) (.inr ⟨_,vs.toArray,_,hk,rfl,rfl,rfl,by rw[List.size_toArray,lenV];exact hl,by simpa using rv⟩) (fun b u z=>by have z':(none:Option HO)=some u:=z;cases z') (fun b z=>absurd rfl z) fun z=>absurd rfl z
 | none=>
  refine core (fun b=>if b=a then some (.JL { cls:=.type "list",data:=.seq vs.toArray } (.lst (ns.map V.int))) else none) (fun b=>?_) (.inl (.inr ⟨{ cls:=.type "list",data:=.seq vs.toArray },if_pos rfl⟩)) (fun b u z=>?_) (fun b z=>?_) fun _=>hk
  ·by_cases hb:b=a
   ·exact .inr ⟨_,_,if_pos hb⟩
   ·exact .inl (if_neg hb)
  ·by_cases hb:b=a
   ·have z':=(if_pos hb).symm.trans z
    cases z'
    subst hb;exact⟨ha,by rw[bZ];exact hl,vs,_,rv,ha⟩
   ·have z':=(if_neg hb).symm.trans z
    cases z'
  ·by_cases hb:b=a
   ·exact hb
   ·exact absurd (if_neg hb) z
theorem Tf{l:PySem.W.OpenLaw}{n k:Nat}{q:Program}{loose:List Str}{XP:(Str->Option Value)->Heap->Prop}{YP:World->Heap->Prop}{d:DefRec}{K:Params->bj}{CX:World->Jl}{sp:World->Sp}{x:Str}
  (hn:l.most=some n) (hn2:n<=sizeLine) (hdf:d.params.defaults=[]) (hr:eF k callerA)
  (hY:∀(w:World)(h:Heap),YP w h->(K w.params).In h)
  (F:∀(w:World)(mg:Str->Option Value)(fa:Addr)(h:Heap),(K w.params).In h->h.Ns mainGlobals mg->mg d.name=some (.ref fa) →
   ∃ fd:FuncData,(∀(s:Shared)(u:Value),BindsTo s fd ⟨[u],[]⟩ [(x,u)]) ∧
    ∀ base:Heap,(K w.params).In base->base.Ns mainGlobals mg->aO l.prog w (K w.params) mg base (CX w) k fa fd [x] (sp w))
  (hsp:∀(w:World)(H:Hp)(a:Addr)(ns:List Int),ns.length<=n->Only H->aR (K w.params) H a (ns.map V.int)->sp w [.ref a] H (fun v _=>v = .bl true) fun _ _ _=>False)
  (hCX:∀(w:World)(H:Hp)(s:Shared)(e:Value)(s':Shared),CX w [] H s (fun _ _ _=>False) e s'->False) :
  PySem.W.WalkO q loose XP YP l.row.toRowW d [] (fun f vs=>PySem.call f vs):=by
 refine Att.Gq hn hdf fun w s₀ s₁ mg mb fa o pm cd doc a vs ns G Y ho hd hcd hmg hobj hints hlen hg=>?_;have KX:=hY w _ Y;obtain⟨fd,hb,hF⟩:=F w mg fa _ KX G.T.g hmg;exact law_call KX G.T.g G.T.b G.T.builtins G.T.nolimit hg hobj hints (Nat.le_trans hlen hn2) hr hF hb (fun H hO hS=>hsp w H a ns hlen hO hS) fun H e s'=>hCX w H s₁ e s'
abbrev aZ:Jl:=fun _ _ _ _ _ _=>False
abbrev E0:XK:=fun _ _ _=>False
theorem yE:Passes aZ X E0:=fun _ _ _ _ _ _ _ h=>h.elim
structure dM(K:bj)(x qual:Str)(st:Stmt)(f:Addr)(fd:FuncData):Prop where
 ex:∃(oc:Value)(od:Option Addr)(kV doc pm:Value)(an:Option Addr)(cdv ct:Value)(osl:Array (Option Value)),
  fd=PySem.W.fnOf x qual (oY st) (iU st) (aC st) .none kV doc pm an cdv ct/\K.lookup f=some ⟨oc,od,.func fd,osl⟩/\PySem.W.codeIn K cdv qual=true
 kp:KI K f
section
variable{P:Program}{w:World}{K:bj}{mg:Str->Option Value}{base:Heap}
theorem dM.ok{x qual:Str}{st:Stmt}{f:Addr}{fd:FuncData}{N ps:List Str}{k:Nat}{sp:Sp}(F:dM K x qual st f fd)(S:aH N ps (aC st))(len:∀ vs H Q E,sp vs H Q E->vs.length=ps.length)
  (hbody:∀(cdv:Value)(A:Around)(outer:List Env)(s:Shared)(H:Hp)(vs:List V)(Q:VK)(E:XK),eF k (A.deeper (envOfC qual (aC st) s.heap.objs.size f cdv))->sp vs H Q E →
   ∃ t,xf (pH aZ P w K mg base N qual (aC st) f cdv A outer s H E).Zm (iU st) t/\t { nx:=fun _ H'=>Q .non H',rt:=Q } (start N vs) H):aO P w K mg base aZ (k+1) f fd ps sp:=by
 obtain⟨oc,od,kV,doc,pm,an,cdv,ct,osl,rfl,lk,hcd⟩:=F.ex;refine Ww lk hcd S len fun A outer s H vs Q E hr hsp=>?_;obtain⟨t,h,q⟩:=hbody cdv A outer s H vs Q E hr hsp;exact⟨t,h.Zm,q⟩
theorem dM.binds{x qual:Str}{st:Stmt}{f:Addr}{fd:FuncData}{ps:List Str}(F:dM K x qual st f fd)
  (h:∀(kV doc pm:Value)(an:Option Addr)(cdv ct:Value)(us:List Value),us.length=ps.length->bindArgs (PySem.W.fnOf x qual (oY st) (iU st) (aC st) .none kV doc pm an cdv ct) ⟨us,[]⟩=pure (ps.zip us)):Binds K fd ps []:=by
 obtain⟨oc,od,kV,doc,pm,an,cdv,ct,osl,rfl,lk,hcd⟩:=F.ex;exact .all (h kV doc pm an cdv ct)
theorem ZD{x qual:Str}{st:Stmt}{f:Addr}{oc:Value}{od an:Option Addr}{osl:Array (Option Value)}{kV doc pm cdv ct:Value}(l:K.lookup f=some ⟨oc,od,.func (PySem.W.fnOf x qual (oY st) (iU st) (aC st) .none kV doc pm an cdv ct),osl⟩)
  (c:PySem.W.codeIn K cdv qual=true) (k:KI K f):dM K x qual st f (PySem.W.fnOf x qual (oY st) (iU st) (aC st) .none kV doc pm an cdv ct):=⟨⟨oc,od,kV,doc,pm,an,cdv,ct,osl,rfl,l,c⟩,k⟩
end
theorem zV(h:n<=1000):n < sizeLine:=Nat.lt_of_le_of_lt h (by decide)
section
variable{X:Cx}
theorem pv(i:Nat)(hN:X.N[i]? = some x:=by rfl)(hv:Vis X.env.scope x:=by first | exact Or.inl rfl | exact Or.inr (Or.inl rfl) | exact Or.inr (Or.inr rfl))(hd:(x == ("__debug__" : Str))=false:=by decide)
  (hcd:(x == ("__classdict__" : Str))=false:=by decide):PE X (.Name x pos) (Ot i):=YD hN hv hd hcd
end
theorem rA{c A B:Prop} [Decidable c] (h1:c->A) (h2:¬ c->B):if c then A else B:=by
 by_cases h:c
 ·rw[if_pos h];exact h1 h
 ·rw[if_neg h];exact h2 h
def aG(H H':Hp):Prop:=∀ b o,H b=some o->H' b=some o
theorem aG.refl(H:Hp):aG H H:=fun _ _ h=>h
theorem aG.trans(a:aG H H1)(b:aG H1 H2):aG H H2:=fun c o h=>b c o (a c o h)
theorem aG.free(e:aG H H')(h:H' l=Option.none):H l=Option.none:=by
 cases q:H l with
 | none=>rfl
 | some o=>
  rw[e l o q]at h
  cases h
theorem aG.seq{K:bj}{H H':Hp}{a:Addr}{xs:List V}(e:aG H H')(h:aR K H a xs):aR K H' a xs:=by
 rcases h with (h | ⟨o,h⟩) | h
 ·exact .inl (.inl (e _ _ h))
 ·exact .inl (.inr ⟨o,e _ _ h⟩)
 ·exact .inr h
end L2
namespace L2
theorem aL{T:Prop}(h:∀ G:Prop,(T->G)->G):T:=h T id
theorem aF{K:bj}{H:Hp}{p:PySem.Addr}{xs:List V}{i:Int}{v:V}{Q:VK}(h1:aJ K H p xs)(h2:uO xs i=some v)(h3:Q v H):kJ K (.ref p) (.int i) H Q:=⟨p,xs,i,v,rfl,rfl,h1,h2,h3⟩
theorem bQ{K:bj}{H:Hp}{p:PySem.Addr}{xs:List V}{i:Int}{v:V}{Q:VK}(h1:aR K H p xs)(h2:uO xs i=some v)(h3:Q v H):U7 K (.ref p) (.int i) H Q:=⟨p,xs,i,v,rfl,rfl,h1,h2,h3⟩
theorem gf{p:PySem.Addr}{xs:List V}{E:PySem.Addr->Prop}{D:PySem.Addr->List V->Prop}{Z:PySem.Addr->List V->Prop}(e:E p)(d:D p xs)(z:Z p xs):∃ p' xs',E p'/\D p' xs'/\Z p' xs':=⟨p,xs,e,d,z⟩
theorem bF{i j:Int}{P:Int->Int->Prop}(h:P i j):∃ i' j',V.int i = .int i'/\V.int j = .int j'/\P i' j':=⟨i,j,rfl,rfl,h⟩
theorem lq_{t u:TS}{N B:St->Hp->Prop}{R:VK}{σ:St}{H:Hp}(h:∀ Y:St->Hp->Prop,(∀ {σ H},N σ H->Y σ H)->∀ X:St->Hp->Prop,(∀ {σ H},u ⟨Y,R,B,Y⟩ σ H->X σ H)->t ⟨X,R,B,Y⟩ σ H):Xh t u ⟨N,R,B,N⟩ σ H:=h _ (fun z=>z) _ fun z=>z
theorem ex2{α β:Sort _}{P:α->β->Prop} (a b) (h:P a b):∃ a b,P a b:=⟨a,b,h⟩
theorem ex3{α β γ:Sort _}{P:α->β->γ->Prop} (a b c) (h:P a b c):∃ a b c,P a b c:=⟨a,b,c,h⟩
theorem ex4{α β γ δ:Sort _}{P:α->β->γ->δ->Prop} (a b c d) (h:P a b c d):∃ a b c d,P a b c d:=⟨a,b,c,d,h⟩
theorem ex6{α β γ δ ε ζ:Sort _}{P:α->β->γ->δ->ε->ζ->Prop} (a b c d e f) (h:P a b c d e f):∃ a b c d e f,P a b c d e f:=⟨a,b,c,d,e,f,h⟩
end L2
namespace xR
open PySem L2 mC
theorem len0{P:List Value->Prop}(h:P [])(xs:List Value)(e:xs.length=0):P xs:=by
 cases xs with
 | nil=>exact h
 | cons a ys=>cases e
theorem Qu{n:Nat}{P:List Value->Prop}(h:∀ a (ys:List Value),ys.length=n->P (a :: ys))(xs:List Value)(e:xs.length=n+1):P xs:=by
 cases xs with
 | nil=>cases e
 | cons a ys=>exact h a ys (Nat.succ.inj e)
theorem yh{P:List Value->Prop}(h:∀ a,P [a])(xs:List Value)(e:xs.length=1):P xs:=Qu (fun a=>len0 (h a)) xs e
theorem lU{P:List Value->Prop}(h:∀ a b,P [a,b])(xs:List Value)(e:xs.length=2):P xs:=Qu (fun a=>yh (h a)) xs e
theorem jO{P:List Value->Prop}(h:∀ a b c,P [a,b,c])(xs:List Value)(e:xs.length=3):P xs:=Qu (fun a=>lU (h a)) xs e
theorem GC{P:List Value->Prop}(h:∀ a b c d,P [a,b,c,d])(xs:List Value)(e:xs.length=4):P xs:=Qu (fun a=>jO (h a)) xs e
theorem qFE{P:List Value->Prop}(h:∀ a b c d f,P [a,b,c,d,f])(xs:List Value)(e:xs.length=5):P xs:=Qu (fun a=>GC (h a)) xs e
theorem hdef:PySem.W.defOf QV "law" = some (JX,[]):=by kernel_rfl
theorem hok:(PySem.W.chainsOk QV && PySem.W.opensWell PW && (PySem.W.frees PySem.Challenge.rw_nesthall_k33_too_wide.row.toRowW && PySem.Challenge.rw_nesthall_k33_too_wide.row.within.isEmpty))=true:=by kernel_rfl
theorem hbare:PW.bare:=⟨rfl,rfl,rfl,rfl,rfl,by decide +kernel⟩
theorem hkw:PySem.W.kwWritten? JX.params.kwonlyargs JX.params.kw_defaults=some []:=by kernel_rfl
theorem hthe:PW.theDef "law" = some (JX.params,JX.body,JX.scope):=by kernel_rfl
abbrev NS(x:Str)(a:Addr):Prop:=∀ P:Params,PySem.W.nsIn (KO P) mainGlobals x=some (some (.ref a))
abbrev NZ(x:Str):Prop:=∀ P:Params,PySem.W.nsIn (KO P) mainGlobals x=some none
abbrev FU(x q:Str)(st:Stmt)(a:Addr)(d:FuncData):Prop:=∀ P:Params,dM (KO P) x q st a d
theorem fV{x q:Str}{st:Stmt}{a:Addr}{pm cd:Value}(h:∀ P:Params,(KO P).lookup a=some (fU (fM x q st pm cd))/\PySem.W.codeIn (KO P) cd q=true/\PySem.W.keepIn (KO P) (.ref a)=true:=by exact fun _=>⟨by kernel_rfl,by kernel_rfl,by kernel_rfl⟩):FU x q st a (fM x q st pm cd):=fun P=>ZD (h P).1 (h P).2.1 (h P).2.2
theorem a1:NS "_law_cell_at" 422:=fun P=>by kernel_rfl
theorem u1:FU "_law_cell_at" "_law_cell_at" KD 422 fd1:=fV
theorem a2:NS "_law_mixed" 429:=fun P=>by kernel_rfl
theorem u2:FU "_law_mixed" "_law_mixed" Bt 429 fd2:=fV
theorem a3:NS "holds" 266:=fun P=>by kernel_rfl
theorem u3:FU "holds" "holds" mj 266 fd3:=fV
theorem a4:NS "answers" 273:=fun P=>by kernel_rfl
theorem u4:FU "answers" "answers" qg 273 fd4:=fV
theorem a5:NS "end_of" 153:=fun P=>by kernel_rfl
theorem u5:FU "end_of" "end_of" Bu 153 fd5:=fV
theorem a6:NS "parent" 146:=fun P=>by kernel_rfl
theorem u6:FU "parent" "parent" ud 146 fd6:=fV
theorem a7:NS "lies_in" 165:=fun P=>by kernel_rfl
theorem u7:FU "lies_in" "lies_in" ue 165 fd7:=fV
theorem a8:NS "hall_over" 172:=fun P=>by kernel_rfl
theorem u8:FU "hall_over" "hall_over" oO 172 fd8:=fV
theorem a9:NS "kids" 158:=fun P=>by kernel_rfl
theorem u9:FU "kids" "kids" FJ 158 fd9:=fV
theorem a10:NS "bears_goal" 177:=fun P=>by kernel_rfl
theorem u10:FU "bears_goal" "bears_goal" vY 177 qDM:=fV
theorem a11:NS "next_in" 184:=fun P=>by kernel_rfl
theorem Xd:FU "next_in" "next_in" K7 184 qDL:=fV
theorem a12:NS "goings_in" 191:=fun P=>by kernel_rfl
theorem u12:FU "goings_in" "goings_in" sIn 191 qDK:=fV
theorem a13:NS "goings_out" 196:=fun P=>by kernel_rfl
theorem u13:FU "goings_out" "goings_out" Pn 196 qDJ:=fV
theorem a14:NS "plain_ones" 295:=fun P=>by kernel_rfl
theorem u14:FU "plain_ones" "plain_ones" vW 295 qDI:=fV
theorem a15:NS "kept_of" 302:=fun P=>by kernel_rfl
theorem u15:FU "kept_of" "kept_of" uf 302 qDH:=fV
theorem a16:NS "keeping" 309:=fun P=>by kernel_rfl
theorem u16:FU "keeping" "keeping" qY 309 qDG:=fV
theorem a17:NS "is_outdone" 278:=fun P=>by kernel_rfl
theorem u17:FU "is_outdone" "is_outdone" jy 278 qDF:=fV
theorem a18:NS "chosen" 283:=fun P=>by kernel_rfl
theorem u18:FU "chosen" "chosen" qd 283 qDE:=fV
theorem a19:NS "changed" 245:=fun P=>by kernel_rfl
theorem u19:FU "changed" "changed" qe 245 qDD:=fV
theorem a20:NS "recorded" 252:=fun P=>by kernel_rfl
theorem u20:FU "recorded" "recorded" oN 252 qDC:=fV
theorem a21:NS "done" 259:=fun P=>by kernel_rfl
theorem u21:FU "done" "done" KC 259 qDB:=fV
theorem a22:NS "sizes_of" 319:=fun P=>by kernel_rfl
theorem u22:FU "sizes_of" "sizes_of" iy 319 qDA:=fV
theorem a23:NS "rooms_left" 346:=fun P=>by kernel_rfl
theorem u23:FU "rooms_left" "rooms_left" eU 346 qD9:=fV
theorem a24:NS "steps_in" 324:=fun P=>by kernel_rfl
theorem u24:FU "steps_in" "steps_in" iw 324 qD8:=fV
theorem a25:NS "steps_out" 329:=fun P=>by kernel_rfl
theorem u25:FU "steps_out" "steps_out" gW 329 qD7:=fV
theorem a26:NS "stepped" 336:=fun P=>by kernel_rfl
theorem u26:FU "stepped" "stepped" oK 336 qD6:=fV
theorem a27:NS "goals_of" 290:=fun P=>by kernel_rfl
theorem u27:FU "goals_of" "goals_of" qZ 290 qD5:=fV
theorem a28:NS "passed" 341:=fun P=>by kernel_rfl
theorem u28:FU "passed" "passed" mZ 341 qD4:=fV
theorem a29:NS "turn" 353:=fun P=>by kernel_rfl
theorem u29:FU "turn" "turn" Bp 353 qD3:=fV
theorem a30:NS "rested" 358:=fun P=>by kernel_rfl
theorem u30:FU "rested" "rested" mY 358 qD2:=fV
theorem a31:NS "begun" 363:=fun P=>by kernel_rfl
theorem u31:FU "begun" "begun" qU 363 qD1:=fV
theorem a32:NS "after" 370:=fun P=>by kernel_rfl
theorem u32:FU "after" "after" uc 370 qD0:=fV
theorem a33:NS "said" 375:=fun P=>by kernel_rfl
theorem u33:FU "said" "said" vU 375 qCZ:=fV
theorem a34:NS "lamps" 314:=fun P=>by kernel_rfl
theorem u34:FU "lamps" "lamps" vX 314 qCY:=fV
theorem a35:NS "move" 410:=fun P=>by kernel_rfl
theorem Xc:FU "move" "move" Bq 410 qCX:=fV
theorem a36:NS "flat" 415:=fun P=>by kernel_rfl
theorem u36:FU "flat" "flat" vV 415 qCW:=fV
theorem a37:NS "_law_small_deed" 443:=fun P=>by kernel_rfl
theorem u37:FU "_law_small_deed" "_law_small_deed" eY 443 qCV:=fV
theorem a38:NS "_law_small_deeds" 448:=fun P=>by kernel_rfl
theorem u38:FU "_law_small_deeds" "_law_small_deeds" cQ 448 qCU:=fV
theorem a39:NS "_law_small_guard" 455:=fun P=>by kernel_rfl
theorem u39:FU "_law_small_guard" "_law_small_guard" dZ 455 qCT:=fV
theorem a40:NS "_law_clock" 460:=fun P=>by kernel_rfl
theorem u40:FU "_law_clock" "_law_clock" iW 460 qCS:=fV
theorem a41:NS "_law_whole" 436:=fun P=>by kernel_rfl
theorem u41:FU "_law_whole" "_law_whole" Br 436 qCR:=fV
theorem a42:NS "_law_behind" 467:=fun P=>by kernel_rfl
theorem u42:FU "_law_behind" "_law_behind" lM 467 qCQ:=fV
theorem a43:NS "_law_rising" 474:=fun P=>by kernel_rfl
theorem u43:FU "_law_rising" "_law_rising" lL 474 qCP:=fV
theorem a44:NS "_law_walked" 481:=fun P=>by kernel_rfl
theorem u44:FU "_law_walked" "_law_walked" lK 481 qCO:=fV
theorem a45:NS "_law_first_ways" 486:=fun P=>by kernel_rfl
theorem u45:FU "_law_first_ways" "_law_first_ways" cj 486 qCN:=fV
theorem a46:NS "_law_refused" 493:=fun P=>by kernel_rfl
theorem u46:FU "_law_refused" "_law_refused" jU 493 qCM:=fV
theorem a47:NS "_law_ways_told" 500:=fun P=>by kernel_rfl
theorem u47:FU "_law_ways_told" "_law_ways_told" gP 500 qCL:=fV
theorem a48:NS "_law_asked" 507:=fun P=>by kernel_rfl
theorem u48:FU "_law_asked" "_law_asked" oM 507 qCK:=fV
theorem a49:NS "_law_long" 514:=fun P=>by kernel_rfl
theorem u49:FU "_law_long" "_law_long" qW 514 qCJ:=fV
theorem a50:NS "law" 521:=fun P=>by kernel_rfl
theorem u50:FU "law" "law" uE 521 Vg:=fV
theorem qE3(P:Params):PySem.W.findIn (KO P) (.ref 234) "__init__" = some (some (.ref 210)):=by kernel_rfl
theorem qBX(P:Params):PySem.W.isFn (KO P) (.ref 210)=true:=by kernel_rfl
theorem qA6:FU "__init__" "Letters.__init__" K8 210 Rg:=fV
theorem qE2(P:Params):PySem.W.findIn (KO P) (.ref 234) "add" = some (some (.ref 217)):=by kernel_rfl
theorem qBW(P:Params):PySem.W.isFn (KO P) (.ref 217)=true:=by kernel_rfl
theorem qA5:FU "add" "Letters.add" U4 217 Rf:=fV
theorem qE1(P:Params):PySem.W.findIn (KO P) (.ref 234) "taken" = some (some (.ref 224)):=by kernel_rfl
theorem qBV(P:Params):PySem.W.isFn (KO P) (.ref 224)=true:=by kernel_rfl
theorem qA4:FU "taken" "Letters.taken" Bs 224 Rb:=fV
theorem qE0(P:Params):PySem.W.findIn (KO P) (.ref 234) "waiting" = some (some (.ref 231)):=by kernel_rfl
theorem qBU(P:Params):PySem.W.isFn (KO P) (.ref 231)=true:=by kernel_rfl
theorem qA3:FU "waiting" "Letters.waiting" qX 231 Ra:=fV
theorem qDZ(P:Params):PySem.W.findIn (KO P) (.ref 399) "__init__" = some (some (.ref 389)):=by kernel_rfl
theorem qBT(P:Params):PySem.W.isFn (KO P) (.ref 389)=true:=by kernel_rfl
theorem qA2:FU "__init__" "Finds.__init__" iR 389 RZ:=fV
theorem qDY(P:Params):PySem.W.findIn (KO P) (.ref 399) "row_of" = some (some (.ref 396)):=by kernel_rfl
theorem qBS(P:Params):PySem.W.isFn (KO P) (.ref 396)=true:=by kernel_rfl
theorem qA1:FU "row_of" "Finds.row_of" eZ 396 RX:=fV
theorem qA0:FU "__init__" "TooWide.__init__" eX 79 RW:=fV
theorem aC0:NS "Letters" 234:=fun P=>by kernel_rfl
theorem Df(P:Params):xW (KO P) 234:=⟨by kernel_rfl,by kernel_rfl,by kernel_rfl,by kernel_rfl⟩
theorem qBK(P:Params):PySem.W.makesIn (KO P) 234=true/\PySem.W.keepIn (KO P) (.ref 234)=true:=⟨by kernel_rfl,by kernel_rfl⟩
theorem oX(P:Params):PySem.W.findIn (KO P) (.ref 234) "most" = some none:=by kernel_rfl
theorem eE(P:Params):PySem.W.findIn (KO P) (.ref 234) "events" = some none:=by kernel_rfl
theorem aC1:NS "Finds" 399:=fun P=>by kernel_rfl
theorem Nt(P:Params):xW (KO P) 399:=⟨by kernel_rfl,by kernel_rfl,by kernel_rfl,by kernel_rfl⟩
theorem qBJ(P:Params):PySem.W.makesIn (KO P) 399=true/\PySem.W.keepIn (KO P) (.ref 399)=true:=⟨by kernel_rfl,by kernel_rfl⟩
theorem oW(P:Params):PySem.W.findIn (KO P) (.ref 399) "most" = some none:=by kernel_rfl
theorem dz(P:Params):PySem.W.findIn (KO P) (.ref 399) "stands" = some none:=by kernel_rfl
theorem j6(P:Params):PySem.W.findIn (KO P) (.ref 399) "paths" = some none:=by kernel_rfl
theorem iT(P:Params):PySem.W.findIn (KO P) (.ref 399) "numbers" = some none:=by kernel_rfl
theorem aC2:NS "TooWide" 82:=fun P=>by kernel_rfl
theorem aC3:NS "NestError" 24:=fun P=>by kernel_rfl
theorem aC4:NS "BadChart" 44:=fun P=>by kernel_rfl
theorem aC5:NS "NoEvent" 63:=fun P=>by kernel_rfl
theorem aC6:NS "NoWords" 94:=fun P=>by kernel_rfl
theorem aC7:NS "Unread" 113:=fun P=>by kernel_rfl
theorem aC8:NS "NoRow" 125:=fun P=>by kernel_rfl
theorem aC9:NS "NoName" 137:=fun P=>by kernel_rfl
theorem z1:NZ "len" := fun P=>by kernel_rfl
theorem z2:NZ "max" := fun P=>by kernel_rfl
theorem z3:NZ "min" := fun P=>by kernel_rfl
theorem z4:NZ "range" := fun P=>by kernel_rfl
theorem z5:NZ "list" := fun P=>by kernel_rfl
theorem z6:NZ "tuple" := fun P=>by kernel_rfl
theorem z7:NZ "isinstance" := fun P=>by kernel_rfl
theorem z8:NZ "int" := fun P=>by kernel_rfl
theorem z9:NZ "bool" := fun P=>by kernel_rfl
theorem z10:NZ "sorted" := fun P=>by kernel_rfl
theorem z11:NZ "any" := fun P=>by kernel_rfl
theorem z12:NZ "enumerate" := fun P=>by kernel_rfl
theorem z13:NZ "str" := fun P=>by kernel_rfl
theorem z14:NZ "ValueError" := fun P=>by kernel_rfl
theorem JQ(P:Params):PySem.W.keepIn (KO P) (.ref 82)=true:=by kernel_rfl
theorem qF(P:Params):PySem.W.exmOne (KO P) (.ref 82) (.ref 82)=some true:=by kernel_rfl
theorem DK(P:Params):PySem.W.exmOne (KO P) (.ref 82) (.ref 24)=some true:=by kernel_rfl
theorem fV1(P:Params):PySem.W.kitOne (KO P) (.ref 82) (.type "ValueError")=some true:=by kernel_rfl
theorem fV2(P:Params):PySem.W.kitOne (KO P) (.ref 82) (.ref 82)=some true:=by kernel_rfl
theorem fV3(P:Params):PySem.W.kitAny (KO P) (.ref 82) ([44,63,94,113,125,137].map Value.ref)=some false:=by kernel_rfl
theorem fE1(P:Params):PySem.W.specialIn (KO P) (.ref 24) "__getattribute__" = some (some (.builtin "type.__getattribute__")):=by kernel_rfl
theorem fE2(P:Params):PySem.W.readsIn (KO P) 24 (.type "type")=true:=by kernel_rfl
theorem fE3(P:Params):PySem.W.findCls (KO P) (.ref 24) (.type "type") "__init__" = some (.val (.builtin "ValueError.__init__")):=by kernel_rfl
end xR
namespace L2
open PySem PyProof.Rows
theorem okS{P:Program}{w:World}{K:bj}{mg:Str->Option Value}{base:Heap}{x qual:Str}{st:Stmt}{f:Addr}{fd:FuncData}{N ps:List Str}{k:Nat}{sp:Sp}(sc:Scope)(hsc:aC st=sc)(F:dM K x qual st f fd)(S:aH N ps sc)(len:∀ vs H Q E,sp vs H Q E->vs.length=ps.length)
  (hbody:∀ cdv A outer s H vs Q E,eF k (A.deeper (envOfC qual sc s.heap.objs.size f cdv))->sp vs H Q E →
   ∃ t,xf (pH aZ P w K mg base N qual sc f cdv A outer s H E).Zm (iU st) t/\t { nx:=fun _ H'=>Q .non H',rt:=Q } (start N vs) H):aO P w K mg base aZ (k+1) f fd ps sp:=by
 subst hsc;exact F.ok S len hbody
end L2
namespace L2
open PySem PySem.Spec PyProof.Rows
section
theorem iZ.adopt(x:iZ P w H h)(hn:H a=none)(new:bK P w (upd H a o) h a o):iZ P w (upd H a o) h:=fun b u e=>by
 by_cases hb:b=a
 ·subst hb;rw[zC]at e;cases e;exact new
 ·rw[zQ hb]at e
  exact (x b u e).stay (fun c v _ q=>q) (fun c q=>by rw[zQ (zM q hn)];exact q) fun c xs q=>by rw[zQ (zM q hn)];exact q
theorem Inv.adopt(I:Inv X pins σ H s)(f:iC X pins H a)(new:bK X.prog X.w (upd H a o) s.heap a o):Inv X pins σ (upd H a o) s:=by
 obtain⟨hn,hL,hfs,hex,hc,hp⟩:=f;refine⟨I.ok,I.os,I.bare,⟨I.base.keep,I.base.slot,fun b ob e n hx=>?_,I.base.there,fun b xs e=>?_,fun b ob u e=>?_,fun b ps e=>?_⟩,I.loc,I.cell,by rw[zQ (Ne.symm hL)];exact I.free,fun x c e=>by rw[zQ (hc x c e)];exact I.jA x c e,fun p q=>?_,iZ.adopt I.hok hn new,I.len⟩
 ·have nb:b ≠ a:=fun z=>by
   rcases hex with z' | z'
   ·exact hx (z ▸ z')
   ·exact absurd (gR e) (by rw[z];exact Nat.not_lt.mpr z')
  rw[zQ nb];exact I.base.free b ob e n hx
 ·have q:=I.base.tups b xs e;rw[zQ (zM q hn)];exact q
 ·have q:=I.base.pF b ob u e;rw[zQ (zM q hn)];exact q
 ·obtain⟨m,q⟩:=I.base.pR b ps e;exact⟨m,by rw[zQ (zM q hn)];exact q⟩
 ·obtain⟨e,n,r⟩:=I.pin p q;exact⟨e,by rw[zQ (hp p q)];exact n,r⟩
end
theorem km{α β:Type}{f:α->β->Sem (ForInStep β)}{g:α->β->β}:∀(l:List α)(c:β),(∀ x∈l,∀ c,f x c=pure (.yield (g x c)))->forIn l c f=pure (l.foldl (fun c x=>g x c) c)
 | [],_,_=>rfl
 | x :: l,c,h=>by
  rw[List.forIn_cons,h x Ed,pure_bind];exact km l (g x c) fun y hy=>h y (HN _ hy)
noncomputable def clG(env:Env)(x:Str × NameKind)(c:List (Str × Addr)):List (Str × Addr):=if (x.2 == NameKind.free)=true then (x.1,(env.cells.lookup x.1).getD 0) :: c else c
noncomputable def nY(env:Env)(scope:Scope):List (Str × Addr):=scope.names.foldl (fun c x=>clG env x c) []
theorem qH{env:Env}{scope:Scope}(h:∀ y∈scope.names,y.2 = .free->∃ c,env.cells.lookup y.1=some c):closureFor scope env=pure (nY env scope):=by
 simp only[closureFor]
 rw[km (g:=clG env) scope.names [] (fun x hx c=>by
  obtain⟨n,k⟩:=x;unfold clG
  by_cases hk:(k == NameKind.free)=true
  ·obtain⟨a,ha⟩:=h _ hx (by simpa using hk);have ha':env.cells.lookup n=some a:=ha;simp only[hk,if_true,cellOf,ha',pure_bind,Option.getD_some]
  ·have hk':(k == NameKind.free)=false:=Bool.eq_false_iff.mpr hk
   simp only[hk',Bool.false_eq_true,if_false])]
 rfl
theorem rN:∀(l:List (Str × NameKind))(cs:List (Str × Addr)),(∀ y∈l,y.2 = .free->∃ c,env.cells.lookup y.1=some c)->(∀ y c,cs.lookup y=some c->env.cells.lookup y=some c) →
  (∀ y c,(l.foldl (fun c x=>clG env x c) cs).lookup y=some c->env.cells.lookup y=some c)/\∀ y,((cs.lookup y).isSome=true ∨ (y,NameKind.free)∈l)->((l.foldl (fun c x=>clG env x c) cs).lookup y).isSome=true
 | [],cs,_,h=>⟨h,fun y hy=>hy.elim id fun z=>absurd z (by simp)⟩
 | (n,k) :: l,cs,hf,h=>by
  have hf':∀ y∈l,y.2 = .free->∃ c,env.cells.lookup y.1=some c:=fun y hy=>hf y (HN _ hy);rw[List.foldl_cons]
  by_cases hk:k = .free
  ·subst hk;obtain⟨a,ha⟩:=hf (n,.free) Ed rfl;have ha':=ha
   have e:clG env (n,.free) cs=(n,a) :: cs:=by
    unfold clG;rw[if_pos (by rfl)];rw[ha'];rfl
   rw[e]
   have ih:=rN l ((n,a) :: cs) hf' (fun y c hy=>by
    rw[List.lookup_cons]at hy
    cases hb:y == n with
    | true=>
     rw[hb]at hy;rw[eq_of_beq hb];exact ha'.trans hy
    | false=>
     rw[hb]at hy
     exact h y c hy)
   refine⟨ih.1,fun y hy=>ih.2 y ?_⟩;rcases hy with hy | hy
   ·left
    rw[List.lookup_cons]
    cases y == n with
    | true=>rfl
    | false=>exact hy
   ·rcases bU.mp hy with hy | hy
    ·left
     rw[(Prod.mk.inj hy).1,List.lookup_cons];simp
    ·exact .inr hy
  ·have e:clG env (n,k) cs=cs:=by
    unfold clG;rw[if_neg (by simpa using hk)]
   rw[e];have ih:=rN l cs hf' h;refine⟨ih.1,fun y hy=>ih.2 y ?_⟩;rcases hy with hy | hy
   ·exact .inl hy
   ·rcases bU.mp hy with hy | hy
    ·exact absurd (Prod.mk.inj hy).2.symm hk
    ·exact .inr hy
theorem dU{env:Env}:∀ {names:List (Str × NameKind)} {x:Str},names.lookup x=some .free →
  (names.map fun (n,k)=>if (k == NameKind.free && env.scope.kind == .function && env.kindOf n == some .cell) then (n,NameKind.cell) else (n,k)).lookup x ≠ some .local
 | [],_,h=>by simp at h
 | (n,k) :: r,x,h=>by
  have ih:=@dU env r x;show List.lookup x ((if (k == NameKind.free && env.scope.kind == .function && env.kindOf n == some .cell)=true then (n,NameKind.cell) else (n,k)) :: _) ≠ _
  cases hx:x == n with
  | true=>
   simp only[List.lookup_cons,hx]at h
   cases h
   split
   ·simp [List.lookup_cons,hx]
   ·simp [List.lookup_cons,hx]
  | false=>
   simp only[List.lookup_cons,hx]at h
   by_cases hc:(k == NameKind.free && env.scope.kind == .function && env.kindOf n == some .cell)=true
   ·rw[if_pos hc];simp only[List.lookup_cons,hx];exact ih h
   ·rw[if_neg hc];simp only[List.lookup_cons,hx];exact ih h
theorem mJ(nc:∀ z∈scope.names,z.2 ≠ .cell)(h:(relabel scope env).names.lookup y=some .cell ∨ (relabel scope env).names.lookup y=some .free):(y,NameKind.free)∈scope.names:=by
 have go:∀ k,(k=NameKind.cell ∨ k=NameKind.free)->(relabel scope env).names.lookup y=some k->(y,NameKind.free)∈scope.names:=fun k hk e=>by
  have m:=PySem.mem_of_lookup e;obtain⟨⟨n,k'⟩,hm,e'⟩:=gU.mp m
  by_cases hc:(k' == NameKind.free && env.scope.kind == .function && env.kindOf n == some .cell)=true
  ·have e2:(n,NameKind.cell)=(y,k):=by
    rw[<-e'];show _=(if (k' == NameKind.free && env.scope.kind == .function && env.kindOf n == some .cell)=true then (n,NameKind.cell) else (n,k'));rw[if_pos hc]
   have hk':k' = .free:=by
    simp only[Bool.and_eq_true,beq_iff_eq]at hc;exact hc.1.1
   rw[<-(Prod.mk.inj e2).1,<-hk'];exact hm
  ·have e2:(n,k')=(y,k):=by
    rw[<-e'];show _=(if (k' == NameKind.free && env.scope.kind == .function && env.kindOf n == some .cell)=true then (n,NameKind.cell) else (n,k'));rw[if_neg hc]
   rcases hk with hk | hk
   ·exact absurd ((Prod.mk.inj e2).2.trans hk) (nc _ hm)
   ·rw[<-(Prod.mk.inj e2).1,<-hk,<-(Prod.mk.inj e2).2];exact hm
 rcases h with h | h
 ·exact go _ (.inl rfl) h
 ·exact go _ (.inr rfl) h
noncomputable def cJ(X:Cx)(N:List Str)(scope:Scope)(C:Addr)(s:Shared)(H:Hp)(ex:List Addr)(pn:List (Addr × Obj))(E:Value->Shared->Prop):Cx where
 prog:=X.prog
 w:=X.w
 K:=X.K
 mg:=X.mg
 base:=X.base
 A:=X.A
 N:=N
 s₀:=s
 H₀:=H
 env:=compEnvC scope (nY X.env scope) C X.env
 outer:=X.stack
 stack:=X.stack
 ex:=ex
 fn:=fun _=>false
 calm:=X.calm
 pn:=pn
 xe:=E
structure bJ(osc:Scope)(N:List Str)(scope:Scope)(x:Str)(aY:List (Nat × Str)):Prop where
 kind:scope.kind = .function
 hx:scope.names.lookup x=some .local
 Ae:∀ y∈scope.names,y.2 ≠ .cell
 Qg:∀ y∈scope.names,y.2 = .local->scope.names.lookup y.1=some .local
 free:∀ y∈scope.names,y.2 = .free->osc.names.lookup y.1=some .cell ∨ osc.names.lookup y.1=some .free
 cap:∀ p∈aY,N[p.1]? = some p.2/\scope.names.lookup p.2=some .free
 nd:(x :: aY.map (·.2)).Nodup
noncomputable def tR(aY:List (Nat × Str))(σ:St):St:=aY.map fun p=>(σ[p.1]?).getD none
def Gs(X:Cx)(ifs:List Expr)(tc:TT):Prop:=
 ∀ pins s σ H Q,Inv X pins σ H s->tc σ H Q →
  wpAny (model X.prog X.w) X.A (forIn ifs true fun c r=>if r=true then do let ok ← isTrue c X.env (eval c X.env);pure (ForInStep.yield ok) else pure (ForInStep.yield r)) (TP X pins σ Q) X.xe s
noncomputable def qEG:TT:=fun _ H Q=>Q true H
theorem cD:Gs X [] qEG:=fun _ _ _ H _ I h=>by
 simp only[List.forIn_nil];exact wpAny_pure ⟨H,I,h⟩
theorem gZ(h:PT X c tc):Gs X [c] tc:=by
 intro pins s σ H Q I hq;simp only[List.forIn_cons,List.forIn_nil,if_true];exact wpAny_bind (wpAny_bind (wpAny_mono (h pins s σ H Q I hq) (fun b s' hb=>wpAny_pure (wpAny_pure hb)) fun _ _ x=>x))
def lF(J:It)(cs:St)(tc:TT)(te:TE)(H1:Hp)(Z:List V->Hp->Prop):Prop:=
 ∃ W:Nat->Nat->List V->Hp->Prop,(∃ m,W 0 m [] H1)/\∀ i m acc H,W i m acc H →
  (J.stop i H/\Z acc H) ∨ (J.go i H/\∃ N:List V->Hp->Prop,(∀ a H',N a H'->∃ m',m' < m/\W (i+1) m' a H') ∧
   ∀ x H',J.Te i H x H'->tc (some x :: cs) H' fun b H2=>if b=true then te (some x :: cs) H2 fun v H3=>acc.length < sizeLine/\N (acc++[v]) H3 else N acc H2)
noncomputable def Ou(wi:TI)(aY:List (Nat × Str))(tc:TT)(te:TE):TE:=fun σ H Q=>wi σ H fun J H1=>lF J (tR aY σ) tc te H1 fun acc H2 => ∀ p,H2 p=none->Q (.ref p) (upd H2 p (.lst acc))
theorem Aw
  (hc:X.calm=true) (hN:X.N=x :: ns) (nd:X.N.Nodup) (hx:X.env.scope.names.lookup x=some .local) (I:Inv X [] (o :: cs) H s) (T:Turn X.prog X.w X.K (.Name x px) J fp it tn) (st:tn 0 s.heap) (hf:∀ b∈fp,iC X [] H b)
  (hD:iC X [] H D) (hDf:D ∉ fp) (pl:s.heap.PlainList D #[]) (wX:Gs X ifs tc) (helt:PE X elt te) (hW:lF J cs tc te H Z) (hxe:X.xe=notedBy (model X.prog X.w) X.A X.env fun e s'=>R (.error e) s')
  (hR:∀ s' H' acc its o',Inv X [] (o' :: cs) H' s'->s'.heap.PlainList D its.toArray->Vals acc its->acc.length<=sizeLine->H' D=none->Z acc H'->R (.ok .next) s') :
  codeAny (model X.prog X.w) X.A (.compLoop (.ListComp elt [⟨.Name x px,iter,ifs,0⟩] scope pos) 0 (.ref it) (.ref D) X.env) R s:=by
 obtain⟨W,⟨m0,w0⟩,turn⟩:=hW;refine codeAny_compLoop_tests (fun n s'=>∃ i acc its H' o',Inv X [] (o' :: cs) H' s'/\tn i s'.heap/\(∀ b∈fp,H' b=none)/\H' D=none/\s'.heap.PlainList D its.toArray/\Vals acc its/\acc.length<=sizeLine/\W i n acc H') ?_ m0
  ⟨0,[],[],H,o,I,st,fun b hb=>(hf b hb).1,hD.1,pl,.nil,Nat.zero_le _,w0⟩
 rintro n s3 ⟨i,acc,its,H3,o3,I3,st3,fr3,hD3,⟨nD,gD⟩,va,hl,w3⟩;rw[<-hxe]
 have I4:Inv X [(D,{ cls:=.type "list",data:=.seq its.toArray nD })] (o3 :: cs) H3 s3:=I3.qm fun p hp=>by
  obtain rfl:p=(D,{ cls:=.type "list",data:=.seq its.toArray nD }):=by simpa using hp
  exact⟨gD,hD3,hD.2.1,hD.2.2.1,fun v z=>by cases (show Data.seq its.toArray nD=Data.cell v from z)⟩
 have stat:∀ {H':Hp},(∀ b∈fp,H' b=none)->∀ b∈fp,iC X [(D,{ cls:=.type "list",data:=.seq its.toArray nD })] H' b:=fun hn b hb=>by
  obtain⟨_,f1,f2,f3,f4,f5⟩:=hf b hb;refine⟨hn b hb,f1,f2,f3,f4,fun p hp=>?_⟩;rcases eG.mp hp with z | z
  ·exact f5 p (List.mem_append_left _ z)
  ·obtain rfl:p=(D,{ cls:=.type "list",data:=.seq its.toArray nD }):=by simpa using z
   exact fun e=>hDf (by rw[show D=b from e];exact hb)
 rcases turn i n acc H3 w3 with ⟨stop,z⟩ | ⟨go,N,hNn,step⟩
 ·refine bA (T.done X rfl rfl rfl hc i _ s3 (o3 :: cs) H3 X.xe I4 (stat fr3) st3 stop) fun r s4 ⟨hr,I5⟩=>?_;subst hr;exact hR s4 H3 acc its o3 (I5.qm fun p hp=>absurd hp (by simp)) ⟨nD,(I5.pin _ (List.mem_append_right _ (List.mem_singleton.mpr rfl))).1⟩ va hl hD3 z
 ·refine bA (T.item X rfl rfl rfl hc i _ s3 (o3 :: cs) H3 X.xe I4 (stat fr3) st3 go) fun r s4 ⟨u,hr,h4⟩=>?_;subst hr;have e0:(letOwnedTupleGo (.Name x px) (.ref it) u >>= fun _=>assign (.Name x px) X.env u)=assign (.Name x px) X.env u:=rfl;show wpAny _ _ (assign (.Name x px) X.env u) _ _ s4;rw[<-e0];refine wpAny_bind (bA h4 fun _ s5 ⟨xv,H5,I5,r5,y5,xn,fr5⟩=>?_);have I5':=I5.pinned (stat fr5) (T.obj _ _ xn);refine wpAny_assign_Name (il (i:=0) I5' nd (by rw[hN] <;> rfl) (.inl hx) r5 (fun s6 I6=>?_) (.inr hx));have I6':Inv X ([(D,{ cls:=.type "list",data:=.seq its.toArray nD })]++sZ fp s5.heap) (some xv :: cs) H5 s6:=I6;have later:∀ {σ':St} {H':Hp} {s':Shared},Inv X ([(D,{ cls:=.type "list",data:=.seq its.toArray nD })]++sZ fp s5.heap) σ' H' s' →
    Inv X [] σ' H' s'/\tn (i+1) s'.heap/\(∀ b∈fp,H' b=none)/\H' D=none/\s'.heap.get? D=some { cls:=.type "list",data:=.seq its.toArray nD }:=fun {σ' H' s'} J'=>by
   have pD:=J'.pin (D,{ cls:=.type "list",data:=.seq its.toArray nD }) (List.mem_append_right _ (List.mem_append_left _ (bf.mpr rfl)));refine⟨J'.qm fun p hp=>absurd hp (by simp),T.keep _ _ _ xn fun b hb ob e=>(J'.pin (b,ob) (List.mem_append_right _ (List.mem_append_right _ (lR hb e)))).1,fun b hb=>?_,pD.2.1,pD.1⟩;obtain⟨ob,e,_⟩:=T.obj _ _ xn b hb;exact (J'.pin (b,ob) (List.mem_append_right _ (List.mem_append_right _ (lR hb e)))).2.1
  refine bA (wX _ s6 (some xv :: cs) H5 _ I6' (step xv H5 y5)) fun b s7 ⟨H7,I7,q7⟩=>?_
  cases b with
  | false=>
   obtain⟨m',hm,w7⟩:∃ m',m' < n/\W (i+1) m' acc H7:=hNn acc H7 q7;obtain⟨l1,l2,l3,l4,l5⟩:=later I7;exact⟨m',hm,i+1,acc,its,H7,some xv,l1,l2,l3,l4,⟨nD,l5⟩,va,hl,w7⟩
  | true=>
   have q7':=q7;refine bA (helt _ s7 (some xv :: cs) H7 _ I7 q7') fun u8 s8 ⟨v,H8,I8,r8,hlt,n8⟩=>?_;obtain⟨m',hm,w8⟩:=hNn _ _ n8;obtain⟨l1,l2,l3,l4,l5⟩:=later I8;have hlen:=va.length;refine wpAny_list_append_plain ⟨nD,l5⟩ fun h9 pl9 sb9=>?_;refine⟨m',hm,i+1,acc++[v],its++[u8],H8,some xv,l1.turned (fun b ob hb e=>(sb9.2 b hb).trans e) l4 hD.2.1 hD.2.2.2.1 hD.2.2.2.2.1 hD.2.2.2.2.2,?_,l3,l4,by simpa using pl9,va.append (.cons r8 .nil),?_,w8⟩
   ·exact T.keep _ _ _ l2 fun b hb ob e=>(sb9.2 b (fun z=>hDf (z ▸ hb))).trans e
   ·rw[dN,iG];lia
section
theorem Inv.vC(I:Inv X pins σ H s)(h1:b ≠ X.env.locals)(h2:b ∉ X.fs):b ∉ frs X.stack:=fun z=>(bU.mp (I.Hf b z)).elim h1 h2
theorem xO{Z:List V->Hp->Prop}{RR:Value->Addr->Result->Shared->Prop}
  (hc:X.calm=true) (S:bJ X.env.scope X.N scope x aY) (I:Inv X pins σ H s) (T:Turn X.prog X.w X.K (.Name x px) J fp it tn) (st:tn 0 s.heap) (hf:∀ b∈fp,iC X pins H b)
  (wX:∀ C s H ex pn E,Gs (cJ X (x :: aY.map (·.2)) scope C s H ex pn E) ifs tc) (helt:∀ C s H ex pn E,PE (cJ X (x :: aY.map (·.2)) scope C s H ex pn E) elt te)
  (hW:lF J (tR aY σ) tc te H Z)
  (hRR:∀ s' H' acc its (D C:Addr) (m:Str->Option Value),Inv X pins σ H' s'->s'.heap.PlainList D its.toArray->Vals acc its->acc.length<=sizeLine->iC X pins H' D->iC X pins H' C->D ≠ C->s'.heap.Ns C m->Z acc H'->RR (.ref D) C (.ok .next) s') :
  wpAny (model X.prog X.w) X.A (newList []) (fun acc s₃=>wpAny (model X.prog X.w) X.A (newFunctionEnv scope X.env.globals (nY X.env scope) [] X.env.qual none .none (some X.env)) (fun cenv s₄=>
   codeAny (model X.prog X.w) X.A (.compStart (.ListComp elt [⟨.Name x px,iter,ifs,0⟩] scope pos) 0 (.ref it) acc { cenv with scope:=relabel scope X.env }) (RR acc cenv.locals) s₄) E s₃) E s:=by
 refine wpAny_newObj_type (wpAny_newFunctionEnv S.Ae (by intro y hy;simp at hy) (fun h₁ hns₁ hsb₁=>?_) S.kind)
 dsimp only at hns₁ hsb₁ ⊢
 have Zz:Inv X pins σ H { s with heap:=s.heap.push { cls:=.type "list",dict:=none,data:=.seq ([]:List Value).toArray } }:=I.kept (t':=s.toks) fun b u e=>ie _ e;have gD3:(s.heap.push { cls:=.type "list",dict:=none,data:=.seq ([]:List Value).toArray }).get? s.heap.objs.size=some { cls:=.type "list",dict:=none,data:=.seq ([]:List Value).toArray }:=uy _ rfl;have JG:(s.heap.push { cls:=.type "list",dict:=none,data:=.seq ([]:List Value).toArray }).objs.size=s.heap.objs.size+1:=Heap.size_push _ _;generalize TY:s.heap.push { cls:=.type "list",dict:=none,data:=.seq ([]:List Value).toArray }=h3 at hns₁ hsb₁ Zz gD3 JG ⊢;have k3:∀ b u,s.heap.get? b=some u->h3.get? b=some u:=fun b u e=>TY ▸ ie _ e;have T9:∀ b u,h3.get? b=some u->h₁.get? b=some u:=fun b u e=>(hsb₁.2 b (lC (gR e))).trans (ie _ e);have k1:∀ b u,s.heap.get? b=some u->h₁.get? b=some u:=fun b u e=>T9 b u (k3 b u e)
 have hDC:s.heap.objs.size ≠ h3.objs.size:=by rw[JG];exact lC (Nat.lt_succ_self _)
 have fD:iC X pins H s.heap.objs.size:=I.wj (bD _) (I.hok.fresh (bD _));have fC:iC X pins H h3.objs.size:=I.wj (by rw[JG];exact Nat.le_succ _) (I.hok.fresh (by rw[JG];exact Nat.le_succ _));have lfp:∀ b∈fp,b < s.heap.objs.size:=fun b hb=>let ⟨_,e,_⟩:=T.obj _ _ st b hb;gR e;have hDf:s.heap.objs.size ∉ fp:=fun z=>Nat.lt_irrefl _ (lfp _ z);have hfree:∀ y∈scope.names,y.2 = .free->∃ c,X.env.cells.lookup y.1=some c:=fun y hy e=>I.ok.has y.1 (S.free y hy e);obtain⟨sub,has⟩:=rN scope.names [] hfree (fun y c e=>by simp at e);have pU:=sub;have R9:∀ y,(y,NameKind.free)∈scope.names->∃ c,(nY X.env scope).lookup y=some c:=fun y hy=>Option.isSome_iff_exists.mp (has y (.inr hy));have inj:∀ b∈s.heap.objs.size :: fp,iC X pins H b:=fun b hb=>(bU.mp hb).elim (fun z=>z ▸ fD) (hf b);have ltC:∀ b∈s.heap.objs.size :: fp,b ≠ h3.objs.size:=fun b hb=>(bU.mp hb).elim (fun z=>z ▸ hDC) fun z=>lC (by rw[JG];exact Nat.lt_succ_of_lt (lfp b z))
 have I1:Inv (cJ X (x :: aY.map (·.2)) scope h3.objs.size { s with heap:=h3 } H (s.heap.objs.size :: fp) (X.pn++pins)
   (notedBy (model X.prog X.w) X.A (compEnvC scope (nY X.env scope) h3.objs.size X.env) fun e s'=>RR (.ref s.heap.objs.size) h3.objs.size (.error e) s')) [] (none :: tR aY σ) H { s with heap:=h₁,toks:=s.toks+([]:List (Str × Value)).length }:=by
  refine⟨⟨I.ok.mod,S.kind,I.ok.glob,I.ok.blt,bD _,fun y z c e1 e2=>I.ok.inj y z c (pU _ _ e1) (pU _ _ e2),fun y hy=>R9 y (mJ S.Ae hy),fun y c e=>(nomatch e),I.ok.hd,I.ok.frames,.inl rfl,fun b hb=>⟨ltC b hb,fun y c e=>(inj b hb).2.2.2.2.1 y c (pU y c e)⟩,
    fun b ob e=>⟨k3 b ob (I.bs b ob e).1,(I.bs b ob e).2⟩,?_,fun b ob e z=>?_,fun b hb=>I.vC (inj b hb).2.1 (inj b hb).2.2.1,?_,I.qP⟩,
   rfl,I.bare,Un.kept T9,⟨_,hns₁,fun i y v e1 e2 e3=>?_⟩,fun y c e=>?_,fC.1,fun y c e=>I.jA y c (pU y c e),fun p hp=>?_,I.hok.kept k1,?_⟩
  ·exact Nat.le_trans I.ok.Od (Nat.le_trans I.sz (by show s.heap.objs.size<=h3.objs.size;rw[JG];exact Nat.le_succ _))
  ·rcases (inj b z).2.2.2.1 with w1 | w1
   ·exact I.ok.Iv b ob e w1
   ·exact absurd (Bc (gR e) I.ok.Od) (Nat.not_lt.mpr w1)
  ·exact Heap.FunFrames.of_keeps (fun b ob e _=>⟨ob,k3 b ob e,rfl⟩) I.stack
  ·cases i with
   | zero=>cases e2
   | succ i=>
    have e1':(aY.map (·.2))[i]? = some y:=e1;have e2':(tR aY σ)[i]? = some (some v):=e2;unfold tR at e2';rw[cG]at e1' e2'
    cases ep:aY[i]? with
    | none=>rw[ep]at e1';cases e1'
    | some p=>
     rw[ep]at e1' e2';obtain rfl:p.2=y:=iM e1';have DQ:(σ[p.1]?).getD none=some v:=iM e2'
     have hσ:σ[p.1]? = some (some v):=by
      cases es:σ[p.1]? with
      | none=>rw[es]at DQ;cases DQ
      | some w1=>rw[es]at DQ;exact congrArg some DQ
     obtain⟨cN,cF⟩:=S.cap p (Bd ep);have mF:(p.2,NameKind.free)∈scope.names:=PySem.mem_of_lookup cF;have oF:=S.free _ mF rfl;obtain⟨m,hn,hlook⟩:=I.loc;obtain⟨u,ru,lk⟩:=hlook p.1 p.2 v cN hσ (.inr oF);refine⟨u,ru,.inr ⟨?_,?_⟩⟩
     ·rcases e3 with z | z
      ·exact absurd z (dU cF)
      ·exact z
     ·obtain⟨c,ec⟩:=R9 p.2 mF;refine⟨c,ec,?_⟩;rcases lk with ⟨z,_⟩ | ⟨_,c',ec',ob,ho,hd⟩
      ·have z':X.env.scope.names.lookup p.2=some .local:=z;rw[z']at oF;rcases oF with q | q <;> cases q
      ·have ee:=(pU _ _ ec).symm.trans ec'
       cases ee
       exact⟨ob,k1 _ _ ho,hd⟩
  ·obtain⟨v,ob,ho,hd⟩:=I.cell y c (pU y c e);exact⟨v,ob,k1 _ _ ho,hd⟩
  ·have hp':p∈X.pn++pins:=by
    rcases eG.mp hp with z | z
    ·exact z
    ·exact absurd z (by simp)
   obtain⟨e,n,ne,nf,d⟩:=I.pin p hp';refine⟨k1 _ _ e,n,lC ?_,I.vC ne nf,d⟩;rw[JG];exact Nat.lt_succ_of_lt (gR e)
  ·show (none :: tR aY σ).length=(x :: aY.map (·.2)).length;simp [tR]
 have hf1:∀ b∈s.heap.objs.size :: fp,iC (cJ X (x :: aY.map (·.2)) scope h3.objs.size { s with heap:=h3 } H (s.heap.objs.size :: fp) (X.pn++pins)
   (notedBy (model X.prog X.w) X.A (compEnvC scope (nY X.env scope) h3.objs.size X.env) fun e s'=>RR (.ref s.heap.objs.size) h3.objs.size (.error e) s')) [] H b:=fun b hb=>by
  obtain⟨f0,f1,f2,f3,f4,f5⟩:=inj b hb;refine⟨f0,ltC b hb,I.vC f1 f2,.inl hb,fun y c e=>f4 y c (pU y c e),fun p hp=>f5 p ?_⟩;rcases eG.mp hp with z | z
  ·exact z
  ·exact absurd z (by simp)
 have st1:=T.keep _ _ _ st fun b _ ob e=>k1 b ob e
 have loop:codeAny (model X.prog X.w) X.A (.compLoop (.ListComp elt [⟨.Name x px,iter,ifs,0⟩] scope pos) 0 (.ref it) (.ref s.heap.objs.size) (compEnvC scope (nY X.env scope) h3.objs.size X.env)) (RR (.ref s.heap.objs.size) h3.objs.size) { s with heap:=h₁,toks:=s.toks+([]:List (Str × Value)).length }:=by
  refine Aw (X:=cJ X (x :: aY.map (·.2)) scope h3.objs.size { s with heap:=h3 } H (s.heap.objs.size :: fp) (X.pn++pins) (notedBy (model X.prog X.w) X.A (compEnvC scope (nY X.env scope) h3.objs.size X.env) fun e s'=>RR (.ref s.heap.objs.size) h3.objs.size (.error e) s'))
   hc rfl S.nd (lookup_relabel_local S.hx) I1 T st1 (fun b hb=>hf1 b (HN _ hb)) (hf1 _ Ed) hDf ⟨0,T9 _ _ gD3⟩ (wX _ _ _ _ _ _) (helt _ _ _ _ _ _) hW rfl ?_
  intro s' H' acc its o' J1 Ua va hlen nD z;have u1:Un (frs X.stack) (s.heap.objs.size :: fp) H H' h3 s'.heap:=J1.base
  have J2:Inv X pins σ H' s':=Inv.call' (s:={ s with heap:=h3 }) Zz J1.os u1 J1.hok J1.bare fun b hb=>by
   obtain⟨_,f1,_,f3,f4,f5⟩:=inj b hb;exact⟨f3,f1,f4,f5⟩
  obtain⟨m,hn,_⟩:=J1.loc;exact hRR s' H' acc its _ _ m J2 Ua va hlen ⟨nD,fD.2⟩ ⟨J1.free,fC.2⟩ hDC hn z
 exact codeAny_compStart_list loop (T.self _ 0 _ _ _ st1 loop)
theorem yT(hc:X.calm=true)(S:bJ X.env.scope X.N scope x aY)(hi:PI X (.Name x px) iter wi)
  (wX:∀ C s H ex pn E,Gs (cJ X (x :: aY.map (·.2)) scope C s H ex pn E) ifs tc) (helt:∀ C s H ex pn E,PE (cJ X (x :: aY.map (·.2)) scope C s H ex pn E) elt te)
  (hs:∀ x,foldedSetIterable iter X.env x=pure x:=by intro _;rfl):PE X (.ListComp elt [⟨.Name x px,iter,ifs,0⟩] scope pos) (Ou wi aY tc te):=by
 intro pins s σ H Q I h;have hfree:∀ y∈scope.names,y.2 = .free->∃ c,X.env.cells.lookup y.1=some c:=fun y hy e=>I.ok.has y.1 (S.free y hy e);rw[eval_ListComp];refine wpAny_comprehension_free (use:=none) rfl hs (qH hfree) S.kind S.Qg (bA (hi pins s σ H _ I h) fun v s1 h1=>bA h1 fun itv s2 h2=>?_);obtain⟨it,fp,tn,J,H2,e,I2,T,st2,f2,hW⟩:=h2;subst e;refine xO (RR:=fun acc C=>compPost (model X.prog X.w) X.A X.xe none (EP X pins σ Q) acc C) hc S I2 T st2 f2 wX helt hW ?_;intro s' H' acc its D C m J2 Ua va hlen fD fC hDC hn z;obtain⟨nD,gD⟩:=Ua;refine⟨m,hn,fun h'' sb=>?_⟩;have J3:Inv X pins σ H' { s' with heap:=h'' }:=J2.turned (fun b ob hb e=>(sb.2 b hb).trans e) fC.1 fC.2.1 fC.2.2.2.1 fC.2.2.2.2.1 fC.2.2.2.2.2;exact⟨.ref D,upd H' D (.lst acc),J3.adopt fD ⟨hlen,its,nD,va,(sb.2 D hDC).trans gD⟩,rfl,z D fD.1⟩
theorem KZ(hc:X.calm=true)(hN:X.N.Nodup)(hi':X.N[i]? = some y)(hy:Loc X.env.scope y)(S:bJ X.env.scope X.N scope x aY)(hi:PI X (.Name x px) iter wi)
  (wX:∀ C s H ex pn E,Gs (cJ X (x :: aY.map (·.2)) scope C s H ex pn E) ifs tc) (helt:∀ C s H ex pn E,PE (cJ X (x :: aY.map (·.2)) scope C s H ex pn E) elt te)
  (hsw:swapsWith (.ListComp elt [⟨.Name x px,iter,ifs,0⟩] scope pos) (some (.Name y py)) spos.line X.env=pure true:=by rfl) (hs:∀ x,foldedSetIterable iter X.env x=pure x:=by intro _;rfl)
  (hfn:X.fn y=true ∨ X.env.scope.names.lookup y=some .local:=by first | exact .inl rfl | exact .inr rfl | assumption):PS X (.Assign [.Name y py] (.ListComp elt [⟨.Name x px,iter,ifs,0⟩] scope pos) spos) (Ov (Ou wi aY tc te) (Gb i)):=by
 intro pins s σ H D0 I h;have hfree:∀ y∈scope.names,y.2 = .free->∃ c,X.env.cells.lookup y.1=some c:=fun y hy e=>I.ok.has y.1 (S.free y hy e);rw[exec_Assign_Name_used _ _ _ _ hsw];refine wpAny_bind (wpAny_standAt (wpAny_bind ?_));show wpAny _ _ (do let _ ← comprehension (.ListComp elt [⟨.Name x px,iter,ifs,0⟩] scope pos) scope X.env _ (newList []) false (eval iter X.env) (some (assign (.Name y py) X.env))) _ _ s
 refine wpAny_bind (wpAny_mono (wpAny_comprehension_free (use:=some (assign (.Name y py) X.env)) (Q:=fun _ s'=>SP X pins D0 .next s') rfl hs (qH hfree) S.kind S.Qg
  (bA (hi pins s σ H _ I h) fun v s1 h1=>bA h1 fun itv s2 h2=>?_)) (fun _ s' hq=>wpAny_pure (wpAny_pure hq)) fun _ _ e=>e)
 obtain⟨it,fp,tn,J,H2,e,I2,T,st2,f2,hW⟩:=h2;subst e;refine xO (RR:=fun acc C=>compPost (model X.prog X.w) X.A X.xe (some (assign (.Name y py) X.env)) (fun _ s'=>SP X pins D0 .next s') acc C) hc S I2 T st2 f2 wX helt hW ?_;intro s' H' acc its D C m J2 Ua va hlen fD fC hDC hn z;obtain⟨nD,gD⟩:=Ua;have J3:Inv X pins σ (upd H' D (.lst acc)) s':=J2.adopt fD ⟨hlen,its,nD,va,gD⟩;show wpAny _ _ (assign (.Name y py) X.env (.ref D)) _ _ s';refine wpAny_assign_Name (sO J3 hN hi' hy (show RelV (.ref D) (.ref D) from rfl) (fun s4 J4 ⟨a,sa,ha⟩=>?_) hfn)
 have hCa:C ≠ a:=by
  rcases ha with q | q
  ·rw[q];exact fC.2.1
  ·exact (fC.2.2.2.2.1 y a q).symm
 refine⟨m,hn.sameBut sa hCa,fun h'' sb=>?_⟩;exact⟨_,_,J4.turned (fun b ob hb e=>(sb.2 b hb).trans e) (by rw[zQ (Ne.symm hDC)];exact fC.1) fC.2.1 fC.2.2.2.1 fC.2.2.2.2.1 fC.2.2.2.2.2,z D fD.1⟩
end
theorem De(n:Nat)(Pv:Nat->List V->Hp->Prop)(h0:Pv 0 [] H1)(hd:∀ acc H,Pv n acc H->J.stop n H/\Z acc H)
  (hs:∀ i acc H,i < n->Pv i acc H->J.go i H/\∀ x H',J.Te i H x H'->tc (some x :: cs) H' fun b H2=>if b=true then te (some x :: cs) H2 fun v H3=>acc.length < sizeLine/\Pv (i+1) (acc++[v]) H3 else Pv (i+1) acc H2) :
  lF J cs tc te H1 Z:=by
 refine⟨fun i m acc H=>m=n - i/\i<=n/\Pv i acc H,⟨n,by simp,Nat.zero_le _,h0⟩,?_⟩;rintro i m acc H ⟨rfl,hi,p⟩
 by_cases hlt:i < n
 ·obtain⟨g,y⟩:=hs i acc H hlt p;exact .inr ⟨g,Pv (i+1),fun a H' q=>⟨n - (i+1),by lia,rfl,hlt,q⟩,y⟩
 ·have e:i=n:=by lia
  subst e;exact .inl (hd acc H p)
theorem jC{lo:Int}{n:Nat}{cs:St}{tc:TT}{te:TE}{H1:Hp}{Z:List V->Hp->Prop}(Pv:Nat->List V->Hp->Prop)(h0:Pv 0 [] H1)
  (hs:∀ i acc H,i < n->Pv i acc H->tc (some (.int (lo+i)) :: cs) H fun b H2=>if b=true then te (some (.int (lo+i)) :: cs) H2 fun v H3=>acc.length < sizeLine/\Pv (i+1) (acc++[v]) H3 else Pv (i+1) acc H2)
  (hd:∀ acc H,Pv n acc H->Z acc H):lF (XH lo n) cs tc te H1 Z:=
 De n Pv h0 (fun acc H p=>⟨bD _,hd acc H p⟩) fun i acc H hi p=>⟨hi,fun x H' y=>by
  obtain⟨e,y⟩:=y;subst e y
  exact hs i acc _ hi p⟩
theorem yS{K:bj}{a:Addr}{xs:List V}{cs:St}{tc:TT}{te:TE}{H1:Hp}{Z:List V->Hp->Prop}(Pv:Nat->List V->Hp->Prop)(h0:Pv 0 [] H1)(hl:∀ i acc H,Pv i acc H->aR K H a xs)
  (hs:∀ i x acc H,xs[i]? = some x->Pv i acc H->tc (some x :: cs) H fun b H2=>if b=true then te (some x :: cs) H2 fun v H3=>acc.length < sizeLine/\Pv (i+1) (acc++[v]) H3 else Pv (i+1) acc H2)
  (hd:∀ acc H,Pv xs.length acc H->Z acc H):lF (ZW K a) cs tc te H1 Z:=
 De xs.length Pv h0 (fun acc H p=>⟨⟨xs,hl _ _ _ p,Nat.le_refl _⟩,hd acc H p⟩) fun i acc H hi p=>⟨⟨xs,xs[i],hl _ _ _ p,by simp [hi]⟩,fun x H' y=>by
  obtain⟨e,y⟩:=y;subst e
  exact hs i x acc _ (y xs (hl _ _ _ p)) p⟩
theorem nW{K:bj}{a:Addr}{xs:List V}{cs:St}{tc:TT}{te:TE}{H1:Hp}{Z:List V->Hp->Prop}(Pv:Nat->List V->Hp->Prop)(h0:Pv 0 [] H1)(hl:∀ i acc H,Pv i acc H->aJ K H a xs)
  (hs:∀ i x acc H,xs[i]? = some x->Pv i acc H->tc (some x :: cs) H fun b H2=>if b=true then te (some x :: cs) H2 fun v H3=>acc.length < sizeLine/\Pv (i+1) (acc++[v]) H3 else Pv (i+1) acc H2)
  (hd:∀ acc H,Pv xs.length acc H->Z acc H):lF (Itt K a) cs tc te H1 Z:=
 De xs.length Pv h0 (fun acc H p=>⟨⟨xs,hl _ _ _ p,Nat.le_refl _⟩,hd acc H p⟩) fun i acc H hi p=>⟨⟨xs,xs[i],hl _ _ _ p,by simp [hi]⟩,fun x H' y=>by
  obtain⟨e,y⟩:=y;subst e
  exact hs i x acc _ (y xs (hl _ _ _ p)) p⟩
noncomputable def HJ(z:Str):It:=⟨fun i _=>i < z.cps.size,fun i H x H'=>H'=H/\∃ c,z.cps[i]? = some c/\x = .str ⟨#[c]⟩,fun i _=>z.cps.size<=i⟩
section
end
section
end
section
end
theorem jE(h0:0<=i)(h1:i < (xs.length:Int)):∃ v∈xs,uO xs i=some v:=by
 have hk:i.toNat < xs.length:=by lia
 have e:=dX hk;refine⟨xs[i.toNat],ig hk,?_⟩;have q:=yQ e;rw[Int.toNat_of_nonneg h0]at q;exact q
theorem Vv{ns:List Int}{i:Int}(h0:0<=i)(h1:i < (ns.length:Int)):∃ v:Int,uO (ns.map V.int) i=some (.int v):=by
 obtain⟨v,hv,e⟩:=jE (xs:=ns.map V.int) h0 (by rw[bZ];exact h1);obtain⟨n,_,rfl⟩:=gU.mp hv;exact⟨n,e⟩
theorem zI(h:n<=1000):n<=sizeLine:=Nat.le_of_lt (zV h)
theorem Yh(x:Int):Builtin.bitAnd x 2147483647=x % 2147483648:=PySem.W.kbt_mask x 31
theorem Wo(x:Int):0<=Builtin.bitAnd x 2147483647/\Builtin.bitAnd x 2147483647 < 2147483648:=by
 rw[Yh];lia
section
variable{X:Cx}{st:Stmt}{rest:List Stmt}{t u:TS}
noncomputable def qAJ(t u:TS):TS:=fun D σ H => ∃ M:St->Hp->Prop,t { D with nx:=M } σ H/\∀ σ' H',M σ' H'->u D σ' H'
theorem zZ(h1:PS X st t)(h2:xf X rest u):xf X (st :: rest) (qAJ t u):=by
 intro pins s σ H D I h;obtain⟨M,h,hM⟩:=h;refine wpAny_execs_cons (bA (h1 pins s σ H { D with nx:=M } I h) fun f s1 q=>?_)
 cases f with
 | next=>
  obtain⟨σ',H',I',q⟩:=q;exact h2 pins s1 σ' H' D I' (hM σ' H' q)
 | ret v=>exact q
 | brk=>exact q
 | cont=>exact q
end
theorem zF(h:H p=none)(o:HO):aG H (upd H p o):=fun b u q=>by rw[zQ (zM q h)];exact q
noncomputable def WN(t:TE):TE:=fun σ H Q => ∃ M:VK,t σ H M/\∀ v H',M v H'->Q v H'
theorem iz(h:PE X e t):PE X e (WN t):=by
 intro pins s σ H Q I ⟨M,hM,hQ⟩;exact bA (h pins s σ H M I hM) fun u s' ⟨v,H',I',r,m⟩=>⟨v,H',I',r,hQ v H' m⟩
noncomputable def qAI(t:TT):TT:=fun σ H Q => ∃ M:Bool->Hp->Prop,t σ H M/\∀ b H',M b H'->Q b H'
theorem cC(h:PT X e t):PT X e (qAI t):=by
 intro pins s σ H Q I ⟨M,hM,hQ⟩;exact bA (h pins s σ H M I hM) fun b s' ⟨H',I',m⟩=>⟨H',I',hQ b H' m⟩
end L2
namespace L2
open PySem
theorem fW(kind:sc.kind = .function:=by rfl)(co:sc.isCoroutine=false:=by rfl)(gen:sc.isGenerator=false:=by rfl)(nd:N.Nodup:=by decide +kernel)(pre:N.take P.length=P:=by rfl)
  (par:∀ x∈P,sc.names.lookup x=some .local ∨ sc.names.lookup x=some .cell:=by decide +kernel) (Iu:∀ y∈sc.names,y.2 ≠ .free:=by decide +kernel):aH N P sc:=⟨kind,co,gen,nd,pre,par,Iu⟩
theorem ym(kind:scope.kind = .function:=by rfl)(hx:scope.names.lookup x=some .local:=by rfl)(Ae:∀ y∈scope.names,y.2 ≠ .cell:=by decide +kernel)
  (Qg:∀ y∈scope.names,y.2 = .local->scope.names.lookup y.1=some .local:=by decide +kernel) (free:∀ y∈scope.names,y.2 = .free->osc.names.lookup y.1=some .cell ∨ osc.names.lookup y.1=some .free:=by decide +kernel)
  (cap:∀ p∈aY,N[p.1]? = some p.2/\scope.names.lookup p.2=some .free:=by decide +kernel) (nd:(x :: aY.map (·.2)).Nodup:=by decide +kernel):bJ osc N scope x aY:=⟨kind,hx,Ae,Qg,free,cap,nd⟩
structure Dp(P:Program)(w:World)(K:bj)(mg:Str->Option Value)(base:Heap)(CX:Jl)(n:Nat)(f:Addr)(d:FuncData)(ps:List Str)(sp:Sp)(x:Str):Prop where
 G:aO P w K mg base CX n f d ps sp
 b:Binds K d ps []
 k:KI K f
 m:mg x=some (.ref f)
section
theorem pC(D:Dp X.prog X.w X.K X.mg X.base aZ k f fd ps sp x)(hr:eF k X.A)(ha:PA X (e :: es) t)(hg:Gl X x:=by rfl)(hdb:(x == ("__debug__" : Str))=false:=by decide)(he:starEach (e :: es) X.env=(false,eval e X.env) :: starEach es X.env:=by rfl)(hpl:(backTo pos (starEach es X.env)).any (·.1)=false:=by rfl) :
  PE X (.Call (.Name x p) (e :: es) [] pos) (WQ sp [] E0 t):=zJ D.G hr hg D.m D.k D.b .nil yE ha hdb he hpl
end
end L2
namespace HT
open PySem PySem.Spec PyProof.Rows
section
theorem pB{vl vu:Value}{lo hi:Option Int}{Q:Value->Shared->Prop}(ht:IsTup s.heap t items)(hs:s.heap.IsSliceOf sl vl vu .none)(pl:IsPart vl lo)(pu:IsPart vu hi)
  (hw:dR items.size 0 lo=0/\dR items.size items.size hi=items.size) (h:Q (.ref t) s):wpAny (model prog w) A (getItem (.ref t) (.ref sl)) Q E s:=by
 obtain⟨os,hos,hcs,hds⟩:=id hs;have hTs:s.TypeIs (.ref sl) "slice" := ⟨os,hos,hcs⟩;unfold getItem
 try with_reducible refine wpAny_holding ?_
 first | refine wpAny_bind (wpAny_pure ?_) | skip
 refine wpAny_bind (wpAny_sequenceKey ht.typeIs (by decide) ?_)
 refine wpAny_bind (wpAny_callSpecial?_slot ht.typeIs PyProof.Rows.slot_tuple_getitem
  (wpAny_call_entry PyProof.Rows.slot_tuple_getitem ht.typeIs entry_tuple_getitem ?_ (args_tuple_getitem _ _)))
 show wpAny _ _ (Builtin.Tuple.tupleItemsOf (.ref t) >>= _) _ _ s;refine wpAny_bind (tupleItemsOf_ ht ?_);refine wpAny_bind (wpAny_typeOf hTs ?_);rw[if_pos (by decide)];refine wpAny_bind (ju hs pl pu ?_)
 have qFJ:(((dR items.size 0 lo:Nat):Int) == 0 && (1:Int) == 1 && (dR items.size items.size hi - dR items.size 0 lo) == items.size)=true:=by
  rw[hw.1,hw.2];simp
 show wpAny _ _ (if (((dR items.size 0 lo:Nat):Int) == 0 && (1:Int) == 1 && (dR items.size items.size hi - dR items.size 0 lo) == items.size)=true then _ else _) _ _ s;rw[if_pos qFJ]
 have hx:wpAny (model prog w) A.in1 (Builtin.Tuple.tupleIsExact (Value.ref t)) (fun b s'=>b=true/\s'=s) (fun _ _=>False) s:=by
  unfold Builtin.Tuple.tupleIsExact;exact wpAny_bind (wpAny_typeOf ht.typeIs (wpAny_pure ⟨by decide,rfl⟩))
 refine wpAny_bind (wpAny_mono hx (fun b s' ⟨e1,e2⟩=>?_) (fun _ _ z=>z.elim));subst e1 e2;rw[if_pos rfl];exact wpAny_bind (wpAny_rule (wpAny_pure ⟨_,rfl,wpAny_pure h⟩))
end
end HT
namespace L2
open PySem PySem.Spec PyProof.Rows
section
def qAZ(K:bj):V->Option Int->Option Int->Hp->VK->Prop:=fun x lo hi H Q => ∃ a xs,x = .ref a/\aJ K H a xs ∧
 ((HT.dR xs.length 0 lo=0/\HT.dR xs.length xs.length hi=xs.length)->Q (.ref a) H)/\(¬ (HT.dR xs.length 0 lo=0/\HT.dR xs.length xs.length hi=xs.length)->∀ p,H p=none->Q (.ref p) (upd H p (.tup (lZ xs lo hi))))
theorem Tt:SlR X (qAZ X.K):=by
 intro pins s σ H x v vl vu lo hi sl Q I rx hs pl pu h;obtain⟨a,xs,rfl,hx,h1,h2⟩:=h
 by_cases hw:HT.dR xs.length 0 lo=0/\HT.dR xs.length xs.length hi=xs.length
 ·cases rx;obtain⟨its,r,ht,hz⟩:=I.tuple hx
  have hlen:its.toArray.size=xs.length:=by rw[qN];exact r.length.symm
  refine⟨"tuple",_,PyProof.Rows.slot_tuple_getitem.lookup,ht.typeIs,?_⟩;exact HT.pB ht hs pl pu (by rw[hlen];exact hw) ⟨.ref a,_,I,rfl,h1 hw⟩
 ·exact Ho pins s σ H _ v vl vu lo hi sl Q I rx hs pl pu ⟨a,xs,rfl,hx,hw,h2 hw⟩
end
section
variable{κ:Type} [DecidableEq κ]
noncomputable def dD(kvs:List (κ × V))(k:κ):Option V:=(kvs.find? fun kv=>decide (kv.1=k)).map (·.2)
noncomputable def putK(kvs:List (κ × V))(k:κ)(v:V):List (κ × V):=
 if (kvs.any fun kv=>decide (kv.1=k))=true then kvs.map (fun kv=>if kv.1=k then (kv.1,v) else kv) else kvs++[(k,v)]
theorem c7{p:κ × V}{r:List (κ × V)}{k:κ}(e:p.1=k):dD (p :: r) k=some p.2:=by simp [dD,List.find?_cons,e]
theorem cA{p:κ × V}{r:List (κ × V)}{k:κ}(e:¬ p.1=k):dD (p :: r) k=dD r k:=by simp [dD,List.find?_cons,e]
theorem jr(k:κ):∀ kvs:List (κ × V),(kvs.any fun kv=>decide (kv.1=k))=(dD kvs k).isSome
 | []=>rfl
 | p :: r=>by
  rw[List.any_cons]
  by_cases e:p.1=k
  ·simp only[c7 e,decide_eq_true e,Bool.true_or,Option.isSome_some]
  ·rw[cA e,decide_eq_false e,Bool.false_or];exact jr k r
theorem Eh(k j:κ)(y:V):∀ kvs:List (κ × V),dD (kvs.map fun kv=>if kv.1=k then (kv.1,y) else kv) j=(dD kvs j).map fun x=>if j=k then y else x
 | []=>rfl
 | p :: r=>by
  have ih:=Eh k j y r;rw[List.map_cons]
  by_cases h:p.1=k
  ·rw[if_pos h]
   by_cases e:p.1=j
   ·rw[c7 (p:=(p.1,y)) e,c7 e,Option.map_some,if_pos (e.symm.trans h)]
   ·rw[cA (p:=(p.1,y)) e,cA e,ih]
  ·rw[if_neg h]
   by_cases e:p.1=j
   ·rw[c7 (p:=p) e,c7 e,Option.map_some,if_neg (fun z=>h (e.trans z))]
   ·rw[cA (p:=p) e,cA e,ih]
theorem yr(k j:κ)(y:V):∀ kvs:List (κ × V),dD kvs k=none->dD (kvs++[(k,y)]) j=if j=k then some y else dD kvs j
 | [],_=>by
  by_cases e:k=j
  ·rw[if_pos e.symm];exact c7 (p:=(k,y)) e
  ·rw[if_neg (fun z=>e z.symm)];exact cA (p:=(k,y)) e
 | p :: r,hn=>by
  rw[List.cons_append]
  have hk:¬ p.1=k:=fun z=>by rw[c7 z]at hn;cases hn
  rw[cA hk]at hn;have ih:=yr k j y r hn
  by_cases e:p.1=j
  ·rw[c7 e,c7 e,if_neg (fun z=>hk (e.trans z))]
  ·rw[cA e,cA e,ih]
theorem Oi(kvs:List (κ × V))(k j:κ)(y:V):dD (putK kvs k y) j=if j=k then some y else dD kvs j:=by
 unfold putK
 by_cases a:(kvs.any fun kv=>decide (kv.1=k))=true
 ·rw[if_pos a,Eh];rw[jr]at a
  by_cases e:j=k
  ·obtain⟨x,hx⟩:=Option.isSome_iff_exists.mp a;rw[if_pos e,e,hx,Option.map_some,if_pos rfl]
  ·rw[if_neg e]
   cases dD kvs j with
   | none=>rfl
   | some x=>rw[Option.map_some,if_neg e]
 ·rw[if_neg a];refine yr k j y kvs ?_;rw[jr]at a
  cases q:dD kvs k with
  | none=>rfl
  | some x=>rw[q]at a;exact (a rfl).elim
theorem uH(kvs:List (κ × V))(k:κ)(v:V):(putK kvs k v).length<=kvs.length+1:=by
 unfold putK
 split
 ·rw[bZ];omega
 ·rw[dN,eO,List.length_nil];omega
theorem Q5{kvs:List (κ × V)}{k:κ}(v:V)(h:dD kvs k=none):putK kvs k v=kvs++[(k,v)]:=by
 unfold putK;rw[jr,h];exact if_neg (by decide)
theorem lu.tH{o:Option V}{u:Option Value}(r:lu o u):o.isSome=u.isSome:=by
 cases o with
 | none=>cases u with
  | none=>rfl
  | some _=>exact (show False from r).elim
 | some _=>cases u with
  | none=>exact (show False from r).elim
  | some _=>rfl
theorem KV.val{kvs:List (κ × V)}{vs:List (κ × Value)}(r:KV kvs vs)(k:κ):lu (dD kvs k) (valueAt vs k):=by
 unfold KV at r
 induction r with
 | nil=>exact True.intro
 | @cons p q ps qs h t ih=>
  obtain⟨h1,h2⟩:=h
  by_cases e:p.1=k
  ·have e':q.1=k:=h1.symm.trans e
   have b:valueAt (q :: qs) k=some q.2:=by simp [valueAt,List.find?_cons,e']
   rw[c7 e,b];exact h2
  ·have e':¬ q.1=k:=fun z=>e (h1.trans z)
   have b:valueAt (q :: qs) k=valueAt qs k:=by simp [valueAt,List.find?_cons,e']
   rw[cA e,b];exact ih
theorem KV.any{kvs:List (κ × V)}{vs:List (κ × Value)}(r:KV kvs vs)(k:κ):(kvs.any fun kv=>decide (kv.1=k))=vs.any fun kv=>decide (kv.1=k):=by
 unfold KV at r
 induction r with
 | nil=>rfl
 | cons h t ih=>rw[List.any_cons,List.any_cons,ih,h.1]
theorem KV.repl{kvs:List (κ × V)}{vs:List (κ × Value)}(r:KV kvs vs)(k:κ){y:V}{u:Value}(ry:RelV y u) :
  KV (kvs.map fun kv=>if kv.1=k then (kv.1,y) else kv) (vs.map fun kv=>if kv.1=k then (kv.1,u) else kv):=by
 unfold KV at r ⊢
 induction r with
 | nil=>exact .nil
 | @cons p q ps qs h t ih=>
  rw[List.map_cons,List.map_cons];refine .cons ?_ ih;obtain⟨h1,h2⟩:=h
  by_cases e:p.1=k
  ·rw[if_pos e,if_pos (h1.symm.trans e)];exact⟨h1,ry⟩
  ·rw[if_neg e,if_neg (fun z=>e (h1.trans z))];exact⟨h1,h2⟩
theorem KV.put{kvs:List (κ × V)}{vs:List (κ × Value)}(r:KV kvs vs)(k:κ){y:V}{u:Value}(ry:RelV y u):KV (putK kvs k y) (stored vs k u):=by
 unfold putK stored;rw[r.any k]
 by_cases e:(vs.any fun kv=>decide (kv.1=k))=true
 ·rw[if_pos e,if_pos e];exact r.repl k ry
 ·rw[if_neg e,if_neg e];exact Paired.snoc r ⟨rfl,ry⟩
theorem KV.keys{kvs:List (κ × V)}{vs:List (κ × Value)}(r:KV kvs vs):kvs.map (·.1)=vs.map (·.1):=by
 unfold KV at r
 induction r with
 | nil=>rfl
 | cons h t ih=>rw[List.map_cons,List.map_cons,ih,h.1]
theorem KV.length{kvs:List (κ × V)}{vs:List (κ × Value)}(r:KV kvs vs):kvs.length=vs.length:=Paired.length r
end
theorem GR{P:Program}{w:World}{k:Key}{u:Value}(r:RelV (kV k) u):(bc P w).is k u=true:=by
 cases k with
 | inl i=>obtain⟨t,e⟩:=(show ∃ t,u=Value.int i t from r);subst e;exact Fw P w i t
 | inr x=>obtain⟨t,e⟩:=(show ∃ t,u=Value.str x t from r);subst e;exact Fv P w x t
theorem Ao{P:Program}{w:World}:∀ {ks:List Key} {us:List Value},Vals (ks.map kV) us->ItemsAre (bc P w) ks us
 | [],_,r=>by rw[List.map_nil]at r;cases r;exact .nil
 | k :: ks,_,r=>by
  rw[List.map_cons]at r
  cases r with
  | cons h t=>exact .cons (GR h) (Ao t)
abbrev KT(H:Hp):List (List Key × V)->List (List Key × Addr × Value)->Prop:=Paired fun p q=>p.1=q.1/\H q.2.1=some (.tup (p.1.map kV))/\RelV p.2 q.2.2
theorem KT.val{H:Hp}{kvs:List (List Key × V)}{xs:List (List Key × Addr × Value)}(r:KT H kvs xs)(k:List Key):lu (dD kvs k) ((atKey xs k).map (·.2)):=by
 induction r with
 | nil=>exact True.intro
 | @cons p q ps qs h t ih=>
  obtain⟨h1,_,h2⟩:=h
  by_cases e:p.1=k
  ·have e':q.1=k:=h1.symm.trans e
   have b:atKey (q :: qs) k=some q.2:=by simp [atKey,List.find?_cons,e']
   rw[c7 e,b];exact h2
  ·have e':¬ q.1=k:=fun z=>e (h1.trans z)
   have b:atKey (q :: qs) k=atKey qs k:=by simp [atKey,List.find?_cons,e']
   rw[cA e,b];exact ih
theorem KT.repl{H:Hp}{kvs:List (List Key × V)}{xs:List (List Key × Addr × Value)}(r:KT H kvs xs)(k:List Key){y:V}{u:Value}(ry:RelV y u) :
  KT H (kvs.map fun kv=>if kv.1=k then (kv.1,y) else kv) (xs.map (putAt k u)):=by
 induction r with
 | nil=>exact .nil
 | @cons p q ps qs h t ih=>
  rw[List.map_cons,List.map_cons];refine .cons ?_ ih;obtain⟨h1,h2,h3⟩:=h;unfold putAt
  by_cases e:p.1=k
  ·rw[if_pos e,if_pos (h1.symm.trans e)];exact⟨h1,h2,ry⟩
  ·rw[if_neg e,if_neg (fun z=>e (h1.trans z))];exact⟨h1,h2,h3⟩
theorem KT.put{H:Hp}{kvs:List (List Key × V)}{xs:List (List Key × Addr × Value)}(r:KT H kvs xs)(k:List Key){b:Addr}{y:V}{u:Value}(hb:H b=some (.tup (k.map kV)))(ry:RelV y u) :
  KT H (putK kvs k y) (storedH xs k b u):=by
 have e:(kvs.any fun kv=>decide (kv.1=k))=(atKey xs k).isSome:=by
  rw[jr,(r.val k).tH,Option.isSome_map]
 unfold putK storedH;rw[e]
 by_cases q:(atKey xs k).isSome=true
 ·rw[if_pos q,if_pos q];exact r.repl k ry
 ·rw[if_neg q,if_neg q];exact Paired.snoc r ⟨rfl,hb,ry⟩
theorem KT.keeps{H H':Hp}{kvs:List (List Key × V)}{xs:List (List Key × Addr × Value)}(r:KT H kvs xs)(ht:∀ b ys,H b=some (.tup ys)->H' b=some (.tup ys)):KT H' kvs xs:=
 Paired.Yi r fun _ _ z=>⟨z.1,ht _ _ z.2.1,z.2.2⟩
section
variable{P:Program}{w:World}{H:Hp}{h:Heap}{a:Addr}
theorem We{u:HO}(ok:iZ P w H h)(e:Rd H a u):bK P w H h a u:=e.ok ok
theorem LK{kvs:List (Key × V)}(ok:iZ P w H h)(e:Rd H a (.dK kvs)):kvs.length<=sizeLine/\(a == sysModules)=false/\∃ vs,KV kvs vs/\h.DictOf (bc P w) a vs:=
 show bK P w H h a (.dK kvs) from We ok e
theorem X4{kvs:List (Key × V)}(ok:iZ P w H h)(e:H a=some (.dK kvs)):kvs.length<=sizeLine/\(a == sysModules)=false/\∃ vs,KV kvs vs/\h.DictOf (bc P w) a vs:=LK ok (.inl e)
theorem Cp{ks:List Key}(ok:iZ P w H h)(e:H a=some (.tup (ks.map kV))):(tupleKind (bc P w)).is h ks a:=by
 obtain⟨_,its,r,o,h1,h2,n,h3⟩:=(show bK P w H h a (.tup (ks.map kV)) from ok a _ e);exact⟨o,its.toArray,n,h1,h2,h3,by simpa using Ao r⟩
theorem Kz{kvs:List (List Key × V)}(ok:iZ P w H h)(e:Rd H a (.dT kvs)):kvs.length<=sizeLine/\(a == sysModules)=false ∧
  ∃ xs,KT H kvs xs/\h.DictOfH (tupleKind (bc P w)) a xs:=by
 obtain⟨z,y,xs,r,o,es,ep,h1,h2,h3,h4,h5⟩:=(show bK P w H h a (.dT kvs) from We ok e);refine⟨z,y,xs,r,o,es,ep,h1,h2,h3,h4,fun x hx=>?_,h5⟩
 have all:∀ {l:List (List Key × V)} {m:List (List Key × Addr × Value)},KT H l m->∀ x∈m,(tupleKind (bc P w)).is h x.1 x.2.1:=by
  intro l m q
  induction q with
  | nil=>intro x hx;exact nomatch hx
  | @cons p q ps qs hq t ih=>
   intro x hx;rcases bU.mp hx with e | hx
   ·subst e;exact Cp ok (by rw[<-hq.1];exact hq.2.1)
   ·exact ih x hx
 exact all r x hx
theorem qDP{kvs:List (List Key × V)}(ok:iZ P w H h)(e:H a=some (.dT kvs)):kvs.length<=sizeLine/\(a == sysModules)=false ∧
  ∃ xs,KT H kvs xs/\h.DictOfH (tupleKind (bc P w)) a xs:=Kz ok (.inl e)
end
def Dy(H:Hp)(a:Addr)(y:V)(r:Option V):Prop:=
 (∃ kvs k,Rd H a (.dK kvs)/\y=kV k/\r=dD kvs k) ∨ ∃ kvs k b,Rd H a (.dT kvs)/\y = .ref b/\H b=some (.tup (k.map kV))/\r=dD kvs k
def Sv(H:Hp)(a:Addr)(y v:V)(H':Hp):Prop:=
 (∃ kvs k,H a=some (.dK kvs)/\y=kV k/\kvs.length < sizeLine/\H'=upd H a (.dK (putK kvs k v))) ∨
 ∃ kvs k b,H a=some (.dT kvs)/\y = .ref b/\H b=some (.tup (k.map kV))/\kvs.length < sizeLine/\H'=upd H a (.dT (putK kvs k v))
theorem Dy.k{H:Hp}{a:Addr}{kvs:List (Key × V)}{k:Key}(e:H a=some (.dK kvs)):Dy H a (kV k) (dD kvs k):=.inl ⟨kvs,k,.inl e,rfl,rfl⟩
theorem Sv.k{H:Hp}{a:Addr}{kvs:List (Key × V)}{k:Key}{v:V}(e:H a=some (.dK kvs))(hl:kvs.length < sizeLine):Sv H a (kV k) v (upd H a (.dK (putK kvs k v))):=.inl ⟨kvs,k,e,rfl,hl,rfl⟩
section
variable{X:Cx}{pins:List (Addr × Obj)}{σ:St}{H:Hp}{s:Shared}{a:Addr}{y v:V}{u r:Value}{o:Option V}{A:Around}{E:Value->Shared->Prop}
theorem Inv.big(I:Inv X pins σ H s):sysModules < s.heap.objs.size:=by
 have h:mainGlobals < s.heap.objs.size:=(I.mod.glob.keeps I.bk).lt;exact Nat.lt_trans (by decide) h
theorem Np{Q:Value->Shared->Prop}(hu:A.units+1 < cLine)(I:Inv X pins σ H s)(g:Dy H a y (some v))(ry:RelV y u)(h:∀ w' s',Inv X pins σ H s'->RelV v w'->Q w' s') :
  wpAny (model X.prog X.w) A (getItem (.ref a) u) Q E s:=by
 rcases g with ⟨kvs,k,e,ey,l⟩ | ⟨kvs,k,b,e,ey,eb,l⟩
 ·subst ey;obtain⟨z,hd,vs,rel,dd⟩:=LK I.hok e;obtain⟨w',hw,Pr⟩:=lu.some_of (v:=v) (o:=valueAt vs k) (by rw[l];exact rel.val k);exact wpAny_getItem_of (GR ry) dd.mapOf hw (h w' _ (I.tok _) Pr)
 ·subst ey
  cases (show u=Value.ref b from ry)
  obtain⟨z,hd,xs,rel,dd⟩:=Kz I.hok e;obtain⟨w',hw,Pr⟩:=lu.some_of (v:=v) (o:=(atKey xs k).map (·.2)) (by rw[l];exact rel.val k);obtain⟨p,hp,hp2⟩:=Option.map_eq_some_iff.mp hw;refine wpAny_getItem_heap (tupleKind_room_in1 hu) (Cp I.hok eb) dd hp ?_;rw[hp2];exact h w' _ (I.tok _) Pr
theorem Vo{Q:Value->Shared->Prop}(hu:A.units+1 < cLine)(I:Inv X pins σ H s)(g:Dy H a y o)(ry:RelV y u)(h:∀ s',Inv X pins σ H s'->Q (.bool (!o.isSome)) s') :
  wpAny (model X.prog X.w) A (compareOp .NotIn u (.ref a)) Q E s:=by
 rcases g with ⟨kvs,k,e,ey,l⟩ | ⟨kvs,k,b,e,ey,eb,l⟩
 ·subst ey;obtain⟨z,hd,vs,rel,dd⟩:=LK I.hok e;refine wpAny_notIn_of (GR ry) hd dd.mapOf ?_;rw[<-(rel.val k).tH,<-l];exact h _ (I.tok _)
 ·subst ey
  cases (show u=Value.ref b from ry)
  obtain⟨z,hd,xs,rel,dd⟩:=Kz I.hok e;refine wpAny_notIn_heap (tupleKind_room_in1 hu) (Cp I.hok eb) hd dd ?_;have q:=(rel.val k).tH;rw[Option.isSome_map]at q;rw[<-q,<-l];exact h _ (I.tok _)
theorem DY{h':Heap}{t':Nat}{ob:HO}(I:Inv X pins σ H s)(mu:Mut (H a))(hs:Heap.SameBut a s.heap h')(he:∃ q,h'.get? a=some q)(new:bK X.prog X.w (upd H a ob) h' a ob) :
  Inv X pins σ (upd H a ob) { s with heap:=h',toks:=t' }:=
 I.write (x:=a) (e:=a) mu (.inl rfl) (fun b q hb z=>(hs.2 b hb).trans z) he new
theorem ZL{P:Program}{w:World}{H':Hp}{h':Heap}{kvs:List (Key × V)}{vs:List (Key × Value)}(z:kvs.length<=sizeLine)(hd:(a == sysModules)=false)(rel:KV kvs vs)(dd:h'.DictOf (bc P w) a vs) :
  bK P w H' h' a (.dK kvs):=⟨z,hd,vs,rel,dd⟩
theorem Nk{H':Hp}{Q:Unit->Shared->Prop}(hu:A.units+1 < cLine)(I:Inv X pins σ H s)(g:Sv H a y v H')(ry:RelV y u)(rv:RelV v r)(h:∀ s',Inv X pins σ H' s'->Q () s') :
  wpAny (model X.prog X.w) A (setItem (.ref a) u r) Q E s:=by
 rcases g with ⟨kvs,k,e,ey,l,eH⟩ | ⟨kvs,k,b,e,ey,eb,l,eH⟩
 ·subst ey eH;obtain⟨z,hd,vs,rel,dd⟩:=X4 I.hok e
  have hz:vs.length<=sizeLine:=by rw[<-rel.length];exact z
  have hl:(putK kvs k v).length<=sizeLine:=by have:=uH kvs k v;omega
  refine wpAny_setItem_pairs (hsz:=hz) (GR ry) dd fun h' X6 hs=>h _ ?_;have he:∃ q,h'.get? a=some q:=let ⟨q,_,_,hq,_⟩:=X6;⟨q,hq⟩;exact DY I (by rw[e];exact True.intro) hs he (ZL hl hd (rel.put k rv) X6)
 ·subst ey eH
  cases (show u=Value.ref b from ry)
  obtain⟨z,hd,xs,rel,dd⟩:=qDP I.hok e
  have hz:xs.length<=sizeLine:=by rw[<-Paired.length rel];exact z
  have hl:(putK kvs k v).length<=sizeLine:=by have:=uH kvs k v;omega
  refine wpAny_setItem_heap (hsz:=hz) (tupleKind_room_in1 hu) (Cp I.hok eb) dd fun h' X6 hs=>h _ ?_;obtain⟨q,es,ep,hq,h2,h3,h4,_,h5⟩:=X6;refine DY I (by rw[e];exact True.intro) hs ⟨q,hq⟩ ⟨hl,hd,_,(rel.put k eb rv).keeps fun c ys ec=>?_,q,es,ep,hq,h2,h3,h4,h5⟩;rw[zQ (fH ec e (fun z=>nomatch z))];exact ec
end
section
variable{X:Cx}{pins:List (Addr × Obj)}{σ:St}{H:Hp}{s:Shared}{a:Addr}{kvs:List (Key × V)}{k:Key}{u:Value}{A:Around}{E:Value->Shared->Prop}
end
def ZS(i:Expr):Prop:=∀ ov iv,subscripted i false ov iv=operate [ov,iv] (getItem ov iv)
theorem Js{prog:Program}{w:World}{A:Around}{E:Value->Shared->Prop}{s:Shared}{env:Env}{value slice:Expr}{pos:Pos}{T id:String}{Q:Value->Shared->Prop}
  (hl:typeLookup (.type T) "__getitem__" = pure (some (.builtin id))) (hs:ZS slice)
  (h:wpAny (model prog w) A (eval value env) (fun o s₁=>wpAny (model prog w) A (eval slice env) (fun i s₂=>s₂.TypeIs o T/\wpAny (model prog w) A (getItem o i) Q E s₂) E s₁) E s) :
  wpAny (model prog w) A (eval (.Subscript value slice pos) env) Q E s:=by
 refine Subscript_ (wpAny_mono h (fun o s₁ h₁=>wpAny_mono h₁ (fun i s₂ h₂=>?_) fun _ _ x=>x) fun _ _ x=>x);obtain⟨hT,h₂⟩:=h₂;unfold subscriptTail;refine wpAny_bind ?_;rw[getitemInPython_of_ne hT.not_modules];refine wpAny_bind (wpAny_specialOf hT hl ?_)
 have fin:wpAny (model prog w) A (subscripted slice false o i) (fun r s₃=>wpAny (model prog w) A (letTemporaryGo value o r >>= fun _=>pure r) Q E s₃) E s₂:=by
  rw[hs o i];exact wpAny_operating (wpAny_mono h₂ (fun r s₃ h₃=>wpAny_bind (wpAny_letTemporaryGo (wpAny_pure h₃))) fun _ _ x=>x)
 first
  | exact wpAny_pure (wpAny_bind fin)
  | exact wpAny_bind (wpAny_pure (wpAny_bind fin))
  | exact wpAny_bind fin
theorem Gh{X:Cx}{pins:List (Addr × Obj)}{σ:St}{H:Hp}{s:Shared}{a:Addr}{y:V}{o:Option V}(I:Inv X pins σ H s)(g:Dy H a y o):s.TypeIs (.ref a) "dict" := by
 rcases g with ⟨kvs,k,e,_,_⟩ | ⟨kvs,k,b,e,_,_,_⟩
 ·obtain⟨_,_,vs,_,dd⟩:=LK I.hok e;exact dd.typeIs
 ·obtain⟨_,_,xs,_,dd⟩:=Kz I.hok e;exact dd.typeIs
noncomputable def qAH(td ty:TE):TE:=fun σ H Q=>td σ H fun x H1=>ty σ H1 fun y H2 => ∃ a v,x = .ref a/\Dy H2 a y (some v)/\Q v H2
noncomputable def Tj(ty td:TE):TE:=fun σ H Q=>ty σ H fun y H1=>td σ H1 fun x H2 => ∃ a o,x = .ref a/\Dy H2 a y o/\Q (.bl (!o.isSome)) H2
noncomputable def qAW(td ty tv:TE):TS:=fun D σ H=>tv σ H fun v H1=>td σ H1 fun x H2=>ty σ H2 fun y H3 => ∃ a H4,x = .ref a/\Sv H3 a y v H4/\D.nx σ H4
section
variable{X:Cx}{o i e value:Expr}{pos pos' tpos:Pos}{td ty tv:TE}
theorem Ug(hu:X.A.units+1 < cLine)(ho:PE X o td)(hi:PE X i ty)(hs:ZS i):PE X (.Subscript o i pos) (qAH td ty):=by
 intro pins s σ H Q I h;refine Js PySem.F.slot_dict_getitem.lookup hs (bA (ho pins s σ H _ I h) fun u s1 ⟨x,H1,I1,rx,q1⟩=>bA (hi pins s1 σ H1 _ I1 q1) fun iv s2 ⟨y,H2,I2,ry,a,v,ex,g,q2⟩=>?_);subst ex;obtain rfl:u=Value.ref a:=rx;exact⟨Gh I2 g,Np hu I2 g ry fun w' s3 I3 Pr=>⟨v,H2,I3,Pr,q2⟩⟩
theorem M9(hu:X.A.units+1 < cLine)(hi:PE X i ty)(ho:PE X o td):PC X .NotIn i o (Tj ty td):=by
 intro pins s σ H Q I h;refine bA (hi pins s σ H _ I h) fun iv s1 ⟨y,H1,I1,ry,q1⟩=>bA (ho pins s1 σ H1 _ I1 q1) fun u s2 ⟨x,H2,I2,rx,a,ov,ex,g,q2⟩=>?_;subst ex;obtain rfl:u=Value.ref a:=rx;exact Vo hu I2 g ry fun s3 I3=>⟨.bl (!ov.isSome),H2,I3,rfl,q2⟩
theorem UT(hu:X.A.units+1 < cLine)(ho:PE X o td)(hi:PE X i ty)(hv:PE X value tv)(hs:swapsWith value (some (.Subscript o i pos')) pos.line X.env=pure false) :
  PS X (.Assign [.Subscript o i pos'] value pos) (qAW td ty tv):=by
 intro pins s σ H D I h;refine wpAny_Assign_Subscript (bA (hv pins s σ H _ I h) fun r s1 ⟨v,H1,I1,rv,q1⟩=>bA (ho pins s1 σ H1 _ I1 q1) fun u s2 ⟨x,H2,I2,rx,q2⟩=>bA (hi pins s2 σ H2 _ I2 q2) fun iv s3 ⟨y,H3,I3,ry,a,H4,ex,g,q3⟩=>?_) hs;subst ex;obtain rfl:u=Value.ref a:=rx;exact Nk hu I3 g ry rv fun s4 I4=>⟨σ,H4,I4,q3⟩
end
theorem Rw{P:Program}{w:World}{H:Hp}(h:Heap)(hb:sysModules < h.objs.size):bK P w H (h.push { cls:=.type "dict",data:=.dict #[] }) h.objs.size (.dK []):=
 ⟨Nat.zero_le _,beq_eq_false_iff_ne.mpr (Ne.symm (lC hb)),[],.nil,Heap.DictOf.new h⟩
noncomputable def Xj:TE:=fun _ H Q => ∀ p,H p=none->Q (.ref p) (upd H p (.dK []))
section
variable{X:Cx}{pos:Pos}
theorem QB:PE X (.Dict [] [] pos) Xj:=fun pins s σ H Q I h=>
 wpAny_Dict_empty ⟨.ref s.heap.objs.size,_,I.laid (a:=s.heap.objs.size) (o:=.dK []) (t':=s.toks) (fun _ _ q=>ie _ q) (bD _) (Rw s.heap I.big),rfl,h _ (I.hok.fresh (bD _))⟩
end
structure M1(X:Cx)(o:Expr)(m:Str)(apos:Pos)(e:Expr)(cpos:Pos):Prop where
 base:attributeBase o m X.env (eval o X.env)=eval o X.env
 few:((backTo cpos (starEach [e] X.env)).all (fun x => !x.1) && (backToKw cpos (keywordEach [] X.env)).all (fun x=>x.1.isSome)
  && decide (([e]:List Expr).length+([]:List Keyword).length+(if ([]:List Keyword).isEmpty then 0 else 1) < 30))=true
 line:(apos.endLine == cpos.line)=true
 trees:backTo cpos (starEach [e] X.env)=[(false,eval e X.env)]
structure M2(X:Cx)(o:Expr)(m:Str)(apos:Pos)(e f:Expr)(cpos:Pos):Prop where
 base:attributeBase o m X.env (eval o X.env)=eval o X.env
 few:((backTo cpos (starEach [e,f] X.env)).all (fun x => !x.1) && (backToKw cpos (keywordEach [] X.env)).all (fun x=>x.1.isSome)
  && decide (([e,f]:List Expr).length+([]:List Keyword).length+(if ([]:List Keyword).isEmpty then 0 else 1) < 30))=true
 line:(apos.endLine == cpos.line)=true
 trees:backTo cpos (starEach [e,f] X.env)=[(false,eval e X.env),(false,eval f X.env)]
section
variable{X:Cx}{pins:List (Addr × Obj)}{σ:St}{H:Hp}{s:Shared}{a:Addr}{y d:V}{u r:Value}{o:Option V}{A:Around}{E:Value->Shared->Prop}
end
section
variable{X:Cx}{o e f:Expr}{apos cpos:Pos}{td ty tx:TE}
end
section
variable{X:Cx}{pins:List (Addr × Obj)}{σ:St}{H:Hp}{s:Shared}{a:Addr}{kvs:List (Key × V)}{A:Around}{E:Value->Shared->Prop}
end
section
variable{X:Cx}{pins:List (Addr × Obj)}{σ:St}{H:Hp}{s:Shared}{a:Addr}{y:V}{u:Value}{A:Around}{E:Value->Shared->Prop}
end
end L2
namespace So
open PySem PyProof.Rows
set_option maxRecDepth 100000
section
theorem Hm(hT:T = "list" ∨ T = "tuple")(ho:s.heap.get? p=some o)(hc:o.cls = .type T)(hd:o.data = .seq its.toArray n)(hI:IntsAre its ns)(h64:its.length < 64)
  (fin:∀(h1 h':Heap)(q:Addr)(out:Array Value)(rs:List Int)(e:Nat),IntsAre out.toList rs->rs.Perm ns->rs.Pairwise (· <= ·)->h1.objs.size<=q->h'.get? q=some (seqObj "list" out e)->(∀ b o,s.heap.get? b=some o->h1.get? b=some o)->(∀ b o,h1.get? b=some o->h'.get? b=some o)->Q (.ref q) { s with heap:=h' }) :
  wpAny (model prog w) A (call (.builtin "sorted") [.ref p]) Q E s:=by
 refine Calls.call_function_entry kind_sorted plain_sorted entry_sorted (args_sorted1 _) ?_;unfold Builtin.«sorted»;refine wpAny_bind (wpAny_pure ?_);refine wpAny_bind (wpAny_collect_seq p hT ho hc hd (fun h1 k1=>?_) (by rw[qN,sizeLine_eq];lia));refine wpAny_bind (wpAny_newList ?_ (by show its.length<=_;rw[sizeLine_eq];lia));have g1:(h1.push (seqObj "list" its.toArray 0)).get? h1.objs.size=some (seqObj "list" its.toArray 0):=uy _ rfl;refine wpAny_bind (wpAny_holding (wpAny_call_entry slot_list_sort ⟨_,g1,rfl⟩ entry_list_sort (list_sort_tree (s:={ s with heap:=h1.push (seqObj "list" its.toArray 0) }) g1 hI h64 fun out ns' a1 a2 a3=>⟨_,rfl,?_⟩) (args_list_sort _)));obtain⟨e,he⟩:=sortedHeap_at (out:=out) g1;refine wpAny_pure ⟨_,rfl,fin h1 _ h1.objs.size out ns' e a1 a2 a3 (bD _) he k1 fun b ob hb=>?_⟩;have lb:b < h1.objs.size:=gR hb;rw[sortedHeap_old (lC lb) (by rw[Heap.size_push];exact Nat.lt_succ_of_lt lb)];exact ie _ hb
theorem vM(hT:T = "list" ∨ T = "tuple")(ho:s.heap.get? p=some o)(hc:o.cls = .type T)(hd:o.data = .seq its.toArray n)(hI:IntsAre its ns)(h64:its.length < 64)
  (fin:∀(h1 h':Heap)(q:Addr)(out:Array Value)(rs:List Int)(e:Nat),IntsAre out.toList rs->rs.Perm ns->rs.Pairwise (· ≥ ·)->h1.objs.size<=q->h'.get? q=some (seqObj "list" out e)->(∀ b o,s.heap.get? b=some o->h1.get? b=some o)->(∀ b o,h1.get? b=some o->h'.get? b=some o)->Q (.ref q) { s with heap:=h' }) :
  wpAny (model prog w) A (call (.builtin "sorted") [.ref p] [(Str.ofString "reverse",.bool true)]) Q E s:=by
 refine call_function_entry_kw kind_sorted plain_sorted entry_sorted (args_sorted_rev _ _) ?_;unfold Builtin.«sorted»;refine wpAny_bind (wpAny_pure ?_);refine wpAny_bind (wpAny_collect_seq p hT ho hc hd (fun h1 k1=>?_) (by rw[qN,sizeLine_eq];lia));refine wpAny_bind (wpAny_newList ?_ (by show its.length<=_;rw[sizeLine_eq];lia));have g1:(h1.push (seqObj "list" its.toArray 0)).get? h1.objs.size=some (seqObj "list" its.toArray 0):=uy _ rfl;refine wpAny_bind (wpAny_holding (wpAny_call_entry_kw slot_list_sort ⟨_,g1,rfl⟩ entry_list_sort (list_sort_tree_rev (b:=true) (s:={ s with heap:=h1.push (seqObj "list" its.toArray 0) }) g1 hI h64 fun out ns' a1 a2 a3=>⟨_,rfl,?_⟩) (args_list_sort_rev _ _)));obtain⟨e,he⟩:=sortedHeap_at (out:=out) g1;refine wpAny_pure ⟨_,rfl,fin h1 _ h1.objs.size out ns' e a1 a2 a3 (bD _) he k1 fun b ob hb=>?_⟩;have lb:b < h1.objs.size:=gR hb;rw[sortedHeap_old (lC lb) (by rw[Heap.size_push];exact Nat.lt_succ_of_lt lb)];exact ie _ hb
end
end So
namespace L2
open PySem PySem.Spec PyProof.Rows
section
def KY(K:bj)(le:Int->Int->Prop):List V->Hp->VK->Prop:=fun xs H Q => ∃(p:Addr)(ns:List Int),xs=[.ref p]/\(aR K H p (ns.map V.int) ∨ aJ K H p (ns.map V.int))/\ns.length < 64/\∀(q:Addr)(rs:List Int),H q=none->rs.Perm ns->rs.Pairwise le->Q (.ref q) (upd H q (.lst (rs.map V.int)))
theorem Inv.Pb(I:Inv X pins σ H s)(h:aR X.K H p (ns.map V.int) ∨ aJ X.K H p (ns.map V.int)) :
  ∃ T o its n,(T = "list" ∨ T = "tuple")/\s.heap.get? p=some o/\o.cls = .type T/\o.data = .seq its.toArray n/\IntsAre its ns:=by
 rcases h with h | h
 ·obtain⟨its,r,pl,_⟩:=I.list h;obtain⟨o,ho,hc,n,hd⟩:=pl.isList;exact⟨"list",o,its,n,.inl rfl,ho,hc,hd,intsAre_of r⟩
 ·obtain⟨its,r,pl,_⟩:=I.tuple h;obtain⟨o,ho,hc,n,hd⟩:=pl;exact⟨"tuple",o,its,n,.inr rfl,ho,hc,hd,intsAre_of r⟩
theorem ni:jL X (.builtin "sorted") (KY X.K (· <= ·)):=by
 intro pins s σ H xs us Q I r h;obtain⟨p,ns,rfl,hq,h64,q⟩:=h;obtain⟨u,rfl,rx⟩:=vals1 r
 cases rx
 obtain⟨T,o,its,n,hT,ho,hc,hd,hI⟩:=I.Pb hq;have hl:=hI.length;refine So.Hm hT ho hc hd hI (by lia) fun h1 h' q' out rs e i1 i2 i3 i4 i5 i6 i7=>?_;have J:Inv X pins σ H { s with heap:=h1 }:=I.kept (t':=s.toks) i6;have lr:=i2.length_eq
 have i5':h'.get? q'=some { cls:=.type "list",data:=.seq out.toList.toArray e }:=by
  rw[i5]
 exact⟨.ref q',_,J.laid (h':=h') (t':=s.toks) (o:=.lst (rs.map V.int)) i7 i4 ⟨by rw[bZ];exact zI (by lia),out.toList,e,jq i1,i5'⟩,rfl,q q' rs (J.hok.fresh i4) i2 i3⟩
noncomputable def Xg(K:bj)(t:TA):TE:=fun σ H Q=>t σ H fun vs H1=>KY K (· ≥ ·) vs H1 Q
theorem wB(hg:Gl X "sorted")(hm:X.mg "sorted" = none)(ha:PA X [a] t)(he:starEach [a] X.env=[(false,eval a X.env)]:=by rfl) :
  PE X (.Call (.Name "sorted" p1) [a] [⟨some "reverse",.Constant (.bool true) j pd,kp⟩] pos) (Xg X.K t):=by
 intro pins s σ H Q I h;refine wpAny_Call_Name_kw (nQ I hg hm PyProof.Rows.boot_sorted ?_);refine PyProof.Rows.callWith_kw (bA (ha pos pins s σ H _ I h) fun us s1 ⟨vs,H1,I1,r1,q1⟩=>?_) (by rw[he];rfl) (by rw[he];rfl) rfl rfl;refine PyProof.Rows.kws_cons (wpAny_Constant_bool (PyProof.Rows.kws_nil ?_));obtain⟨p,ns,rfl,hq,h64,q⟩:=q1;obtain⟨u,rfl,rx⟩:=vals1 r1
 cases rx
 obtain⟨T,o,its,n,hT,ho,hc,hd,hI⟩:=I1.Pb hq;have hl:=hI.length;refine So.vM hT ho hc hd hI (by lia) fun h1 h' q' out rs e i1 i2 i3 i4 i5 i6 i7=>?_;have J:Inv X pins σ H1 { s1 with heap:=h1 }:=I1.kept (t':=s1.toks) i6;have lr:=i2.length_eq
 have i5':h'.get? q'=some { cls:=.type "list",data:=.seq out.toList.toArray e }:=by
  rw[i5]
 exact⟨.ref q',_,J.laid (h':=h') (t':=s1.toks) (o:=.lst (rs.map V.int)) i7 i4 ⟨by rw[bZ];exact zI (by lia),out.toList,e,jq i1,i5'⟩,rfl,q q' rs (J.hok.fresh i4) i2 i3⟩
end
theorem gY:∀(a b:List Nat),a.Pairwise (· < ·)->b.Pairwise (· < ·)->(∀ k,k∈a ↔ k∈b)->a=b
 | [],[],_,_,_=>rfl
 | [],y :: b,_,_,h=>absurd ((h y).mpr List.mem_cons_self) (by simp)
 | x :: a,[],_,_,h=>absurd ((h x).mp List.mem_cons_self) (by simp)
 | x :: a,y :: b,ha,hb,h=>by
  obtain⟨a1,a2⟩:=List.pairwise_cons.mp ha;obtain⟨b1,b2⟩:=List.pairwise_cons.mp hb
  have e:x=y:=by
   have h1:=(h x).mp Ed;have h2:=(h y).mpr Ed;rcases bU.mp h1 with e | h1
   ·exact e
   ·rcases bU.mp h2 with e | h2
    ·exact e.symm
    ·have:=a1 y h2;have:=b1 x h1;lia
  subst e;congr 1;refine gY a b a2 b2 fun k=>?_;have hk:=h k;rw[bU,bU]at hk;constructor
  ·intro z;rcases hk.mp (.inr z) with e | z'
   ·subst e;have:=a1 k z;lia
   ·exact z'
  ·intro z;rcases hk.mpr (.inr z) with e | z'
   ·subst e;have:=b1 k z;lia
   ·exact z'
theorem Ah:∀ os:List Nat,os.map (Int.toNat ∘ fun j:Nat=>(j:Int))=os
 | []=>rfl
 | x :: l=>by
  rw[List.map_cons,Ah l];rfl
theorem zu{rs:List Int}{os:List Nat}(h:rs.Perm (os.map fun j:Nat=>(j:Int))):∃ ms:List Nat,rs=ms.map (fun j:Nat=>(j:Int))/\ms.Perm os:=by
 refine⟨rs.map Int.toNat,?_,?_⟩
 ·rw[List.map_map]
  have:∀ x∈rs,((fun j:Nat=>(j:Int)) ∘ Int.toNat) x=x:=fun x hx=>by
   obtain⟨o,_,rfl⟩:=gU.mp (h.mem_iff.mp hx);rfl
  rw[List.map_congr_left this,List.map_id']
 ·have:=h.map Int.toNat;rw[List.map_map]at this;rw[Ah]at this;exact this
theorem cT(os:List Nat):(os.map fun j:Nat=>V.int (j:Int))=(os.map fun j:Nat=>(j:Int)).map V.int:=by
 rw[List.map_map];rfl
theorem mU{rs:List Int}{os:List Nat}(h:rs.Perm (os.map fun j:Nat=>(j:Int)))(hs:rs.Pairwise (· <= ·))(hn:os.Nodup):∃ ms:List Nat,rs=ms.map (fun j:Nat=>(j:Int))/\ms.Pairwise (· < ·)/\ms.Perm os:=by
 obtain⟨ms,rfl,hp⟩:=zu h;refine⟨ms,rfl,?_,hp⟩;have nd:=hp.nodup_iff.mpr hn;rw[List.pairwise_map]at hs
 exact (hs.and nd).imp fun ⟨h1,h2⟩=>by lia
theorem uC{rs:List Int}{os:List Nat}(h:rs.Perm (os.map fun j:Nat=>(j:Int)))(hs:rs.Pairwise (· ≥ ·))(hn:os.Pairwise (· < ·)):rs=os.reverse.map (fun j:Nat=>(j:Int)):=by
 obtain⟨ms,rfl,hp⟩:=zu h;congr 1;have nd:=hp.nodup_iff.mpr (hn.imp fun z=>lC z);rw[List.pairwise_map]at hs
 have hm:ms.reverse.Pairwise (· < ·):=by
  rw[List.pairwise_reverse]
  exact (hs.and nd).imp fun ⟨h1,h2⟩=>by lia
 have e:=gY ms.reverse os hm hn fun k=>by rw[List.mem_reverse];exact hp.mem_iff
 rw[<-e,List.reverse_reverse]
end L2
namespace So
open PySem PyProof.Rows
set_option maxRecDepth 100000
theorem VN:typeLookup (.type "dict") "__len__" = pure (some (.builtin "dict.__len__")):=by rw[typeLookup_type,builtinLookup_eq_fast];kernel_rfl
theorem uL:∀ {vs:List Value} {ns:List Int},vs.length=ns.length->(∀(i:Nat)(n:Int),ns[i]? = some n->∃ t,vs[i]? = some (Value.int n t))->IntsAre vs ns
 | [],[],_,_=>.nil
 | [],n :: ns,h,_=>by simp at h
 | v :: vs,[],h,_=>by simp at h
 | v :: vs,n :: ns,h,k=>by
  obtain⟨t,ht⟩:=k 0 n rfl
  have e:v=Value.int n t:=by simpa using ht
  subst e;exact .cons n t (uL (by simpa using h) fun i m hi=>by simpa using k (i+1) m (by simpa using hi))
section
theorem Gj(hh:A.handled=none)(hd:(a == sysModules)=false)(hD:s.heap.DictOf (L2.bc prog w) a kvs)(hk:kvs.map (·.1)=ns.map Sum.inl)(hn:ns.length<=1000)
  (fin:∀ h' (vs:List Value) (tk:Nat),IntsAre vs ns->(∀ b o,s.heap.get? b=some o->h'.get? b=some o)->Q vs { s with heap:=h',toks:=tk }) :
  wpAny (model prog w) A (collect (.ref a)) Q E s:=by
 have lk:kvs.length=ns.length:=by
  have:=congrArg List.length hk
  simpa using this
 obtain⟨o,es,ep,ho,rest⟩:=hD;have hc:=rest.1;have la:a < s.heap.objs.size:=gR ho;have hA:s.heap.DictAt (L2.bc prog w) a kvs ep:=⟨o,es,ho,rest⟩;unfold collect;refine wpAny_bind (wpAny_runValue (codeAny_builtin F.entry_proto_collect ?_));rw[Around.under_plainId F.plain_proto_collect _];show wpAny _ A.in1 (newList [] >>= fun l=>again (.builtin "list.__iadd__" ⟨[l,.ref a],[]⟩)) _ _ s;refine wpAny_bind (wpAny_newObj_type ?_);refine wpAny_pure ⟨plainId_quiet F.plain_list_iadd _,codeAny_builtin F.entry_list_iadd ?_⟩;rw[Around.under_plainId F.plain_list_iadd _];have g0:(s.heap.push { cls:=.type "list",data:=.seq ([]:List Value).toArray }).get? s.heap.objs.size=some { cls:=.type "list",data:=.seq ([]:List Value).toArray }:=uy s.heap rfl
 have other:Builtin.List.listSameRef (.ref s.heap.objs.size) (.ref a)=false:=by simp [Builtin.List.listSameRef];exact Nat.ne_of_gt la
 have hA1:=hA.at' (h':=s.heap.push { cls:=.type "list",data:=.seq ([]:List Value).toArray }) fun o e=>ie _ e;have ty1:Shared.TypeIs { s with heap:=s.heap.push { cls:=.type "list",data:=.seq ([]:List Value).toArray } } (.ref a) "dict" := hA1.dictOf.typeIs;show wpAny _ A.in1 (Builtin.List.listExtendWith (.ref s.heap.objs.size) (.ref a) (.ref s.heap.objs.size)) _ _ _;unfold Builtin.List.listExtendWith;refine wpAny_bind (wpAny_typeOf ty1 ?_);rw[if_neg (by rw[other];decide)];refine wpAny_bind (wpAny_pyIter_dict hd hA1 ?_);generalize eo:({ cls:=.type "dict_keyiterator",data:=.fields #[.ref a,.int 0 0,.int kvs.length 0,.int ep 0] }:Obj)=oi;generalize eh:(s.heap.push { cls:=.type "list",data:=.seq ([]:List Value).toArray }).push oi=h2;have sz1:(s.heap.push { cls:=.type "list",data:=.seq ([]:List Value).toArray }).objs.size=s.heap.objs.size+1:=Heap.size_push _ _
 have Qx:∀ b ob,(s.heap.push { cls:=.type "list",data:=.seq ([]:List Value).toArray }).get? b=some ob->h2.get? b=some ob:=fun b ob e=>by
  rw[<-eh];exact ie _ e
 have gI:h2.get? (s.heap.push { cls:=.type "list",data:=.seq ([]:List Value).toArray }).objs.size=some oi:=by
  rw[<-eh,<-eo];exact uy _ rfl
 rw[show (s.heap.push { cls:=.type "list",data:=.seq ([]:List Value).toArray }).objs.size=s.heap.objs.size+1 from sz1]at gI ⊢;have g2:=Qx _ _ g0;have Wv:=hA1.at' (h':=h2) fun o e=>Qx _ _ e;have ty2:Shared.TypeIs { s with heap:=h2 } (.ref a) "dict" := Wv.dictOf.typeIs;refine wpAny_bind (wpAny_holding ?_);unfold Builtin.List.listLengthHint;refine wpAny_bind (wpAny_specialOf ty2 VN ?_)
 (generalize hid:("dict.__len__" : String)=id0;(fail_if_success (clear hid id0));wp_delta;rw[show splitId id0=some ("dict","__len__") from by subst hid;decide +kernel])
 refine wpAny_bind (wpAny_isInstance (b:=true) ty2 (by rw[isSubtype_type];kernel_rfl) ?_);subst hid;show wpAny _ A.in1 (typeOf (.ref a) >>= _) _ _ _;refine wpAny_bind (wpAny_typeOf ty2 ?_);refine wpAny_pure ?_;rw[if_pos (by decide)];refine wpAny_bind (wpAny_rule (wpAny_bind ?_));show wpAny _ A.in1 (updateSeq s.heap.objs.size (·.push .none) >>= fun _=>updateSeq s.heap.objs.size (·.pop)) _ _ _;refine wpAny_bind (wpAny_updateSeq g2 rfl ?_);have g3:=Heap.get?_update_self (Obj.mapSeq (·.push Value.none)) g2 rfl;refine wpAny_updateSeq g3 rfl ?_;have g4:=Heap.get?_update_self (Obj.mapSeq (·.pop)) g3 rfl;have Wr:∀ b ob,b ≠ s.heap.objs.size->h2.get? b=some ob->((h2.update s.heap.objs.size (Obj.mapSeq (·.push Value.none))).update s.heap.objs.size (Obj.mapSeq (·.pop))).get? b=some ob:=fun b ob hb e=>(Heap.get?_update_other _ _ (Ne.symm hb)).trans ((Heap.get?_update_other _ _ (Ne.symm hb)).trans e)
 have qBD:s.heap.objs.size ∉ [s.heap.objs.size+1,a]:=by
  simp only[List.mem_cons,List.not_mem_nil,or_false,not_or];exact⟨by lia,Nat.ne_of_gt la⟩
 have W:=(Walks.dictKeys (prog:=prog) (w:=w) (knd:=L2.bc prog w) (A:=A.in1) (by simp [hh]) (s.heap.objs.size+1) a (Nat.ne_of_lt (Nat.lt_succ_of_lt la)) kvs ep).toS;have it2:h2.IsKeyIter (s.heap.objs.size+1) a 0 kvs.length ep:=⟨oi,gI,by rw[<-eo],by rw[<-eo];rfl⟩;have Ej:=W.frame 0 { s with heap:=h2 } ((h2.update s.heap.objs.size (Obj.mapSeq (·.push Value.none))).update s.heap.objs.size (Obj.mapSeq (·.pop))) s.toks ⟨it2,Wv⟩ (bD _) fun b hb ob e=>Wr b ob (fun z=>qBD (z ▸ hb)) e;refine wpAny_pure ⟨plainId_quiet F.plain_extend_loop _,codeAny_extend_loopS W (by rw[lk,sizeLine_eq];lia) _ qBD _ kvs.length 0 _ _ _ rfl (Nat.zero_le _) Ej g4 (ItemsOf.nil _) fun s' acc' c' hm hS' hacc=>?_⟩;show wpAny _ A (load s.heap.objs.size >>= _) _ _ s';refine wpAny_bind (wpAny_load hS' ?_);have e1:s'.gens=s.gens:=hm.gens;have e2:s'.drawn=s.drawn:=hm.drawn;have e3:s'.os=s.os:=hm.os;obtain⟨h',g',d',tk',os'⟩:=s';have e1':g'=s.gens:=e1;have e2':d'=s.drawn:=e2;have e3':os'=s.os:=e3;subst e1' e2' e3';refine wpAny_pure ?_;refine fin h' acc'.toList tk' (uL (by rw[Array.length_toList,hacc.1,lk]) fun i n hi=>?_) fun b ob e=>?_
 ·have li:i < acc'.size:=by
   have:=(jM.mp hi).1;rw[hacc.1,lk];exact this
  obtain⟨k,x,hx,his⟩:=hacc.2 i acc'[i] (by simp [li])
  have hk':(kvs.map (·.1))[i]? = some k:=by rw[cG,hx];rfl
  rw[hk,cG,hi]at hk';have ek:=iM hk';subst ek;obtain⟨tk,e5⟩:=Value.isInt_shape his;exact⟨tk,by simp [li,e5]⟩
 ·have lb:=gR e;refine hm.heap b ob ?_ (Wr b ob (lC lb) (Qx b ob (ie _ e)));simp only[List.mem_cons,List.not_mem_nil,or_false,not_or];exact⟨lC lb,lC (Nat.lt_succ_of_lt lb)⟩
theorem Hn(hh:A.handled=none)(hd:(a == sysModules)=false)(hD:s.heap.DictOf (L2.bc prog w) a kvs)(hk:kvs.map (·.1)=ns.map Sum.inl)(h64:ns.length < 64)
  (fin:∀(h1 h':Heap)(tk:Nat)(q:Addr)(out:Array Value)(rs:List Int)(e:Nat),IntsAre out.toList rs->rs.Perm ns->rs.Pairwise (· <= ·)->h1.objs.size<=q->h'.get? q=some (seqObj "list" out e)->(∀ b o,s.heap.get? b=some o->h1.get? b=some o)->(∀ b o,h1.get? b=some o->h'.get? b=some o)->Q (.ref q) { s with heap:=h',toks:=tk }) :
  wpAny (model prog w) A (call (.builtin "sorted") [.ref a]) Q E s:=by
 refine Calls.call_function_entry kind_sorted plain_sorted entry_sorted (args_sorted1 _) ?_;unfold Builtin.«sorted»;refine wpAny_bind (m:=checkCount "sorted" 1 1 _) (wpAny_pure ?_);refine wpAny_bind (Gj (by first | exact hh | simp [hh]) hd hD hk (by lia) fun h1 vs tk i1 k1=>?_);have hl:=i1.length;refine wpAny_bind (wpAny_newList ?_ (by rw[hl,sizeLine_eq];lia));have g1:(h1.push (seqObj "list" vs.toArray 0)).get? h1.objs.size=some (seqObj "list" vs.toArray 0):=uy _ rfl;refine wpAny_bind (wpAny_holding (wpAny_call_entry slot_list_sort ⟨_,g1,rfl⟩ entry_list_sort (list_sort_tree (s:={ s with heap:=h1.push (seqObj "list" vs.toArray 0),toks:=tk }) g1 i1 (by lia) fun out ns' a1 a2 a3=>⟨_,rfl,?_⟩) (args_list_sort _)));obtain⟨e,he⟩:=sortedHeap_at (out:=out) g1;refine wpAny_pure ⟨_,rfl,fin h1 _ tk h1.objs.size out ns' e a1 a2 a3 (bD _) he k1 fun b ob hb=>?_⟩;have lb:b < h1.objs.size:=gR hb;rw[sortedHeap_old (lC lb) (by rw[Heap.size_push];exact Nat.lt_succ_of_lt lb)];exact ie _ hb
end
end So
namespace L2
open PySem PySem.Spec PyProof.Rows
section
def Q4:List V->Hp->VK->Prop:=fun xs H Q => ∃(p:Addr)(kvs:List (Key × V))(ns:List Int),xs=[.ref p]/\H p=some (.dK kvs)/\kvs.map (·.1)=ns.map Sum.inl/\ns.length < 64/\∀(q:Addr)(rs:List Int),H q=none->ns.Nodup->rs.Perm ns->rs.Pairwise (· <= ·)->Q (.ref q) (upd H q (.lst (rs.map V.int)))
theorem Dh(hca:X.calm=true):jL X (.builtin "sorted") Q4:=by
 intro pins s σ H xs us Q I r h;obtain⟨p,kvs,ns,rfl,hq,hk,h64,q⟩:=h;obtain⟨u,rfl,rx⟩:=vals1 r
 cases rx
 obtain⟨z,hd,vs,rel,dd⟩:=X4 I.hok hq
 have hk':vs.map (·.1)=ns.map Sum.inl:=by rw[<-rel.keys,hk]
 have nd:ns.Nodup:=by
  obtain⟨ep,hA⟩:=dd.dictAt;have h1:=hA.nodup;rw[hk']at h1;exact (List.pairwise_map.mp h1).imp fun z e=>z (by rw[e])
 refine So.Hn (I.ok.hd hca) hd dd hk' h64 fun h1 h' tk q' out rs e i1 i2 i3 i4 i5 i6 i7=>?_;have J:Inv X pins σ H { s with heap:=h1 }:=I.kept (t':=s.toks) i6;have lr:=i2.length_eq
 have i5':h'.get? q'=some { cls:=.type "list",data:=.seq out.toList.toArray e }:=by
  rw[i5]
 exact⟨.ref q',_,J.laid (h':=h') (t':=tk) (o:=.lst (rs.map V.int)) i7 i4 ⟨by rw[bZ];exact zI (by lia),out.toList,e,jq i1,i5'⟩,rfl,q q' rs (J.hok.fresh i4) nd i2 i3⟩
end
end L2
namespace PySem
open Sem (wp)
open AutoSeq1 (wpAny_loadPart')
set_option maxRecDepth 100000
section
theorem Cd(g:s.heap.IsTupleIter q tt i)(gt:s.heap.IsTuple tt vs)(gx:vs[i]? = some x)
  (hQ:∀ h',h'.IsTupleIter q tt (i+1)->Heap.SameBut q s.heap h'->Q x { s with heap:=h' }):wpAny (model prog w) A (Builtin.SmallTypes.nextOf (.ref q)) Q E s:=by
 obtain⟨ob,go,gc,gd⟩:=id g;obtain⟨ot,got,_,nt,gdt⟩:=gt;unfold Builtin.SmallTypes.nextOf;refine wpAny_bind (wpAny_callSpecial?_slot g.typeIs F.slot_tuple_iterator_next (wpAny_call_entry F.slot_tuple_iterator_next g.typeIs F.entry_tuple_iterator_next ?_ (F.args_tuple_iterator_next_1 _)));show wpAny _ _ (field (.ref q) 0 >>= _) _ _ s;refine wpAny_bind (wpAny_field go gd (x:=.ref tt) rfl ?_);show wpAny _ _ (if (Value.ref tt == Value.none)=true then _ else _) _ _ s;rw[if_neg (show ¬ ((Value.ref tt == Value.none)=true) from pQ)];show wpAny _ _ (field (.ref q) 1 >>= _) _ _ s;refine wpAny_bind (wpAny_field go gd (x:=.int i 0) rfl ?_);show wpAny _ _ (seqItems? (.ref tt) >>= _) _ _ s;refine wpAny_bind (wpAny_seqItems got gdt ?_);simp only[Int.toNat_natCast,gx];refine wpAny_bind (wpAny_setField go gd (by simp) (wpAny_pure ⟨x,rfl,wpAny_pure (hQ _ ?_ (Heap.SameBut.update ..))⟩));exact⟨_,Heap.get?_update_self _ go (Obj.isFreed_of_fields (Obj.data_mapFields gd _)),(Obj.cls_mapFields ..).trans gc,by rw[Obj.data_mapFields gd];simp [rawInt]⟩
theorem uG(hh:A.handled=none)(g:s.heap.IsTupleIter q tt i)(gt:s.heap.IsTuple tt vs)(gx:vs[i]? = none)
  (hE:∀ h' e,Heap.ExtBut q s.heap h'->(∃ o,h'.get? e=some o/\o.cls = .type "StopIteration")->E (.ref e) { s with heap:=h' }):wpAny (model prog w) A (Builtin.SmallTypes.nextOf (.ref q)) Q E s:=by
 obtain⟨ob,go,gc,gd⟩:=id g;obtain⟨ot,got,_,nt,gdt⟩:=gt;unfold Builtin.SmallTypes.nextOf;refine wpAny_bind (wpAny_callSpecial?_slot g.typeIs F.slot_tuple_iterator_next (wpAny_call_entry F.slot_tuple_iterator_next g.typeIs F.entry_tuple_iterator_next ?_ (F.args_tuple_iterator_next_1 _)));show wpAny _ _ (field (.ref q) 0 >>= _) _ _ s;refine wpAny_bind (wpAny_field go gd (x:=.ref tt) rfl ?_);show wpAny _ _ (if (Value.ref tt == Value.none)=true then _ else _) _ _ s;rw[if_neg (show ¬ ((Value.ref tt == Value.none)=true) from pQ)];show wpAny _ _ (field (.ref q) 1 >>= _) _ _ s;refine wpAny_bind (wpAny_field go gd (x:=.int i 0) rfl ?_);show wpAny _ _ (seqItems? (.ref tt) >>= _) _ _ s;refine wpAny_bind (wpAny_seqItems got gdt ?_);simp only[Int.toNat_natCast,gx];refine wpAny_bind (wpAny_rule (wpAny_bind (wpAny_setField go gd (by simp) ?_)));show wpAny _ _ ((newExc (.type "StopIteration") []) >>= _) _ _ _;refine wpAny_bind ?_;simp only[newExc,newTuple];refine (wpAny_bind (wpAny_newObj_type ?_ (by size_fits)));refine (wpAny_bind (wpAny_of_eq (by first | rfl | (simp only[firstArgMember];rfl)) ?_));refine (wpAny_newObj_type ?_ (by size_fits));simp only[raiseNew];refine wpAny_bind (wpAny_handled ?_)
 (first | rw[show A.in1.handled=none from hh] | rw[hh])
 refine (wpAny_bind (wpAny_pure (wpAny_throw ?_)));exact (hE _ _ (((Heap.SameBut.update ..).extBut.push _).push _) ⟨_,uy _ rfl,rfl⟩)
end
theorem Rq(hh:A.handled=none)(q tt:Addr)(hne:tt ≠ q)(vs:Array Value) :
  Draws prog w A q [q,tt] vs.size (fun i v=>vs[i]? = some v) (fun i h=>h.IsTupleIter q tt i/\h.IsTuple tt vs) where
 live:=fun _ _ st=>let ⟨o,ho,_⟩:=st.1;⟨o,ho⟩
 frame:=fun _ _ _ st hk=>⟨st.1.at fun o e=>hk q (by simp) o e,st.2.at fun o e=>hk tt (by simp) o e⟩
 item:=fun i s Q E hi st hQ=>by
  refine Cd st.1 st.2 (x:=vs[i]) (by simp [hi]) fun h' hit' hs'=>?_;exact hQ _ h' s.toks (by simp [hi]) ⟨hit',st.2.extBut hs'.extBut hne⟩ hs'
 done:=fun s Q E st hE=>uG hh st.1 st.2 (by simp) hE
theorem Ro(l:Addr)(vs:Array Value)(n:Nat)(dct:Option Addr)(sl:Array (Option Value)) :
  Meets (Builtin.«enumerate.__new__» ⟨[.type "enumerate",.ref l],[]⟩) (fun _ R s=>s.heap.get? l=some { cls:=.type "tuple",dict:=dct,data:=.seq vs n,slots:=sl } ∧
   R (.ok (.ret (.ref (s.heap.push { cls:=.type "tuple_iterator",data:=.fields #[.ref l,.int 0 0] }).objs.size)))
    { s with heap:=(s.heap.push { cls:=.type "tuple_iterator",data:=.fields #[.ref l,.int 0 0] }).push { cls:=.type "enumerate",data:=.fields #[.none,.bool false,.ref s.heap.objs.size,rawInt 0,.none,.none] } }):=
 .of_wp fun prog w A R s h=>by
  obtain⟨hp,g,d,tk,os⟩:=s;obtain⟨hl,h⟩:=h;have hsub:=sub_enumerate;have hL:Heap.IsTuple (Shared.heap ⟨hp,g,d,tk,os⟩) l vs:=⟨_,hl,rfl,n,rfl⟩
  wp_walk using wpAny_loadPart' hl
  refine wpAny_stack_any fun st=>wpAny_pure ?_
  split
  ·rename_i c _ _ _ _ _
   cases (c == Value.type "enumerate")
   ·wp_walk using wpAny_loadPart' hl,wpAny_pyIter_tuple hL
    exact⟨_,rfl,h⟩
   ·wp_walk using wpAny_loadPart' hl,wpAny_pyIter_tuple hL
    exact⟨_,rfl,h⟩
  ·wp_walk using wpAny_loadPart' hl,wpAny_pyIter_tuple hL
   exact⟨_,rfl,h⟩
theorem O2(hL:s.heap.IsTuple l vs)
  (h:∀ h',IsEnum h' (s.heap.objs.size+1) s.heap.objs.size 0 .none->h'.IsTupleIter s.heap.objs.size l 0->h'.objs.size=s.heap.objs.size+2 →
   (∀ b o,s.heap.get? b=some o->h'.get? b=some o)->Q (.ref (s.heap.objs.size+1)) { s with heap:=h' }) :
  wpAny (model prog w) A (call (.type "enumerate") [.ref l]) Q E s:=by
 obtain⟨⟨c,dct,dt,sl⟩,hl,hc,n,hd⟩:=hL
 replace hc:c = .type "tuple" := hc
 replace hd:dt = .seq vs n:=hd
 subst hc hd;refine callType_new F.called_enumerate (by decide) (F.typeCall_enumerate_1 _) (F.newCall_enumerate_1 _) (fun obj=>F.args_object_init_2 obj _) F.entry_enumerate_new (Ro l vs n dct sl) ⟨hl,?_⟩;have hz:(s.heap.push { cls:=.type "tuple_iterator",data:=.fields #[.ref l,.int 0 0] }).objs.size=s.heap.objs.size+1:=Heap.size_push ..;show _/\_;rw[hz]
 have he:IsEnum ((s.heap.push { cls:=.type "tuple_iterator",data:=.fields #[.ref l,.int 0 0] }).push
   { cls:=.type "enumerate",data:=.fields #[.none,.bool false,.ref s.heap.objs.size,rawInt 0,.none,.none] }) (s.heap.objs.size+1) s.heap.objs.size 0 .none:=by
  have:=uy (s.heap.push { cls:=.type "tuple_iterator",data:=.fields #[.ref l,.int 0 0] })
   (o:={ cls:=.type "enumerate",data:=.fields #[.none,.bool false,.ref s.heap.objs.size,rawInt 0,.none,.none] }) rfl
  rw[hz]at this;exact this
 exact⟨⟨_,he,rfl⟩,h _ he ⟨_,ie _ (uy _ rfl),rfl,rfl⟩ (by rw[Heap.size_push,hz]) fun b o x=>ie _ (ie _ x)⟩
theorem Rp(hh:A.handled=none)(he:IsEnum s.heap e q j old)(g:s.heap.IsTupleIter q tt i)(gt:s.heap.IsTuple tt vs)(gx:vs[i]? = none)
  (hQ:∀ h',Heap.ExtBut q s.heap h'->Q none { s with heap:=h' }):wpAny (model prog w) A (pyNext (.ref e)) Q E s:=by
 have hT:s.TypeIs (.ref e) "enumerate" := ⟨_,he,rfl⟩;unfold pyNext;refine wpAny_bind (wpAny_attempt (wpAny_callSpecial?_slot hT F.slot_enumerate_next (wpAny_call_entry F.slot_enumerate_next hT F.entry_enumerate_next ?_ (F.args_enumerate_next_1 _))));show wpAny _ _ (field (.ref e) 2 >>= _) _ _ _;refine wpAny_bind (wpAny_field he rfl (x:=.ref q) rfl ?_);refine wpAny_bind (uG (A:=A.in1) hh g gt gx fun h' x he' hx'=>?_);obtain⟨o,ho,hc⟩:=hx';refine (wpAny_bind (wpAny_isInstance (T := "StopIteration") (b:=true) ⟨o,ho,hc⟩ isSubtype_stop ?_));exact wpAny_pure (hQ _ he')
end PySem
namespace L2
open PySem PySem.Spec PyProof.Rows
section
theorem Inv.Jp{t':Nat}{ts:List Addr}(I:Inv X pins σ H s)(k:∀ b o,b ∉ ts->s.heap.get? b=some o->h'.get? b=some o)(hf:∀ b∈ts,iC X pins H b):Inv X pins σ H { s with heap:=h',toks:=t' }:=by
 have nit:∀ b u,H b=some u->b ∉ ts:=fun b u e z=>by
  rw[(hf b z).1]at e
  cases e
 refine I.step (fun b hb=>?_) (fun b o _ _ hc e _=>k b o hc e) (fun b o _ _ hc e _=>⟨o.slots,k b o hc e⟩) (fun _ _ _ _ n=>n) (fun b o hc e=>⟨o,k b o hc e⟩) (fun _ _ e=>e) (fun _ _ _ e=>e) (fun b ps e=>⟨#[],by rw[e];simp⟩) (fun m hm=>?_) (fun b u e=>?_) I.bare
 ·obtain⟨f0,f1,f2,f3,f4,f5⟩:=hf b hb;exact⟨f3,f1,f4,f5⟩
 ·obtain⟨o,es,ep,ho,r⟩:=hm;exact⟨o,es,ep,k _ o (fun z=>(hf _ z).2.1 rfl) ho,r⟩
 ·refine (I.hok b u e).stay (fun c v hc q=>k c v ?_ q) (fun _ q=>q) fun _ _ q=>q;rcases hc with z | z
  ·rw[z];exact nit b u e
  ·exact nit c _ z
end
noncomputable def Ite(K:bj)(a:Addr):It:=
 ⟨fun i H => ∃ xs x,aJ K H a xs/\xs[i]? = some x,fun i H v H'=>∃ t x,v = .ref t/\H t=none/\(∀ xs,aJ K H a xs->xs[i]? = some x)/\H'=upd H t (.tup [.int (i:Int),x]),fun i H => ∃ xs,aJ K H a xs/\xs.length<=i⟩
theorem Ls{P:Program}{w:World}{K:bj}{es:List Expr}{k:Nat}{pos:Pos}(a e q:Addr):Turn P w K (.Tuple es k pos) (Ite K a) [e,q] e (fun i h=>(∃ old,IsEnum h e q (i:Nat) old)/\h.IsTupleIter q a i) where
 mem:=by simp
 obj:=fun i h st b hb=>by
  obtain⟨⟨old,he⟩,o,ho,hc,hd⟩:=st;rcases bU.mp hb with rfl | hb
  ·refine⟨_,he,fun v z=>?_⟩;have z2:Data.fields _=Data.cell v:=z
   cases z2
  ·rw[bf.mp hb];exact⟨o,ho,fun v z=>by rw[hd]at z;cases z⟩
 keep:=fun i h h' st k=>by
  obtain⟨⟨old,he⟩,hq⟩:=st;exact⟨⟨old,k e (by simp) _ he⟩,hq.at fun o z=>k q (by simp) o z⟩
 item:=by
  intro X hP hw hK hc i pins s σ H E I hf st hg;subst hP hw hK;obtain⟨xs,x,hq,hx⟩:=hg;obtain⟨its,rv,p,hz⟩:=I.tuple hq;obtain⟨u,hu,ru⟩:=rv.get hx;obtain⟨⟨old,he⟩,hit⟩:=st;have pt:s.heap.IsTuple a its.toArray:=p
  have naq:a ≠ q:=fun z=>by
   obtain⟨o1,g1,c1,_⟩:=pt;obtain⟨o2,g2,c2,_⟩:=hit;rw[z,g2]at g1
   cases g1
   rw[c2]at c1;injection c1 with c1;exact absurd c1 (by decide)
  have neq:e ≠ q:=fun z=>by
   obtain⟨o2,g2,c2,_⟩:=hit;rw[<-z]at g2;have g3:=g2.symm.trans he
   cases g3
   have c3:Value.type "enumerate" = Value.type "tuple_iterator" := c2;injection c3 with c3;exact absurd c3 (by decide)
  have nea:e ≠ a:=fun z=>by
   obtain⟨o1,g1,c1,_⟩:=pt;rw[<-z]at g1;have g3:=g1.symm.trans he
   cases g3
   have c3:Value.type "enumerate" = Value.type "tuple" := c1;injection c3 with c3;exact absurd c3 (by decide)
  have D:=Rq (prog:=X.prog) (w:=X.w) (A:=X.A.in1) (I.ok.hd hc) q a naq its.toArray
  have hlt:i < its.toArray.size:=by
   have:=(jM.mp hu).1
   simpa using this
  have hnew:H s.heap.objs.size=none:=I.hok.fresh (bD _);refine wpAny_pyNext_enum_itemD D he ⟨hit,pt⟩ hlt neq (by simp [neq,nea]) fun y h1 tk hy ho hs1 hT hsz hk=>?_
  obtain rfl:y=u:=by
   rw[List.getElem?_toArray,hu]at hy;exact (iM hy).symm
  refine⟨_,rfl,wpAny_letOwnedTupleGo_enum ho fun h2 he2 sb=>?_⟩;have nse:s.heap.objs.size ≠ e:=Nat.ne_of_gt (gR he)
  have nsq:s.heap.objs.size ≠ q:=by
   obtain⟨o2,g2,_⟩:=hit;exact Nat.ne_of_gt (gR g2)
  have kk:∀ b o,b ∉ [e,q]->s.heap.get? b=some o->h2.get? b=some o:=fun b o hb g=>by
   have b1:b ≠ e:=fun z=>hb (by simp [z]);have b2:b ≠ q:=fun z=>hb (by simp [z]);exact (sb.2 b b1).trans (hk b o b1 b2 g)
  have I1:Inv X pins σ H { s with heap:=h2,toks:=tk+1 }:=I.Jp kk hf
  have I2:Inv X pins σ (upd H s.heap.objs.size (.tup [.int (i:Int),x])) { s with heap:=h2,toks:=tk+1 }:=by
   refine Inv.adopt I1 (I.wj (bD _) hnew) ⟨by show 2<=sizeLine;decide,[.int i tk,y],.cons ⟨tk,rfl⟩ (.cons ru .nil),?_⟩;exact⟨_,(sb.2 _ nse).trans hT,rfl,_,rfl⟩
  refine⟨.ref s.heap.objs.size,_,I2,rfl,⟨_,x,rfl,hnew,fun ys hy=>by rw[I.yu hy hq];exact hx,rfl⟩,⟨⟨y,by have:=he2;simpa using this⟩,hs1.1.at fun o g=>(sb.2 q (Ne.symm neq)).trans g⟩,fun b hb=>?_⟩
  have nb:b ≠ s.heap.objs.size:=by
   rcases bU.mp hb with rfl | hb
   ·exact Ne.symm nse
   ·rw[bf.mp hb];exact Ne.symm nsq
  rw[zQ nb];exact (hf b hb).1
 done:=by
  intro X hP hw hK hc i pins s σ H E I hf st hg;subst hP hw hK;obtain⟨xs,hq,hx⟩:=hg;obtain⟨its,rv,p,hz⟩:=I.tuple hq;obtain⟨⟨old,he⟩,hit⟩:=st;have pt:=p;have hl:=rv.length
  have hnone:its.toArray[i]? = none:=by simp;lia
  refine Rp (I.ok.hd hc) he hit pt hnone fun h2 eb=>⟨rfl,?_⟩;exact I.Jp (fun b o hb g=>eb b o (fun z=>hb (by simp [z])) g) hf
 self:=fun _ _ _ _ _ st h=>by
  obtain⟨⟨old,he⟩,_⟩:=st;exact wpAny_pyIter_enum he h
section
noncomputable def qBZ(K:bj)(ta:TA):TI:=fun σ H R=>ta σ H fun vs H1 => ∃ a,vs=[.ref a]/\(∃ xs,aJ K H1 a xs)/\R (Ite K a) H1
theorem Ub{l:Expr}{ta:TA}{p pos:Pos}(hg:Gl X "enumerate")(hm:X.mg "enumerate" = none)(ha:PA X [l] ta)(hs:starEach [l] X.env=[(false,eval l X.env)]:=by rfl):PI X (.Tuple es k tpos) (.Call (.Name "enumerate" p) [l] [] pos) (qBZ X.K ta):=by
 intro pins s σ H R I h;refine Call_ (nQ I hg hm boot_enumerate (PyProof.Rows.callWith_type1 (bA (ha pos pins s σ H _ I h) fun us s1 ⟨vs,H1,I1,r1,q1⟩=>?_) hs rfl));obtain⟨a,e,⟨xs,hq⟩,q⟩:=q1;subst e
 cases r1 with
 | cons r rr=>
  cases rr
  cases r
  obtain⟨its,rv,p,hz⟩:=I1.tuple hq;refine O2 p fun h' he hit hsz hk=>?_;refine wpAny_pyIter_enum he ?_;have I2:Inv X pins σ H1 { s1 with heap:=h' }:=I1.kept (t':=s1.toks) hk;refine⟨s1.heap.objs.size+1,[s1.heap.objs.size+1,s1.heap.objs.size],_,_,H1,rfl,I2,Ls a _ _,⟨⟨.none,by simpa using he⟩,hit⟩,fun b hb=>?_,q⟩;rcases bU.mp hb with rfl | hb
  ·exact I1.wj (Nat.le_succ _) (I1.hok.fresh (Nat.le_succ _))
  ·rw[bf.mp hb];exact I1.wj (bD _) (I1.hok.fresh (bD _))
end
theorem RP{K:bj}{a:Addr}{xs:List V}{g:TG}{tb:TS}{D:Ends}{σ:St}{H:Hp}(Pv:Nat->St->Hp->Prop)(h0:Pv 0 σ H)(hl:∀ i σ H,i<=xs.length->Pv i σ H->aJ K H a xs)
  (hs:∀ i x σ H t,xs[i]? = some x->Pv i σ H->H t=none->g (.ref t) σ (upd H t (.tup [.int (i:Int),x])) fun σ2 H2=>tb { D with nx:=Pv (i+1),ct:=Pv (i+1),bk:=D.nx } σ2 H2) (hd:∀ σ H,Pv xs.length σ H->D.nx σ H) :
  ∃ W:Nat->Nat->St->Hp->Prop,(∃ m,W 0 m σ H)/\∀ i m σ H,W i m σ H →
   ((Ite K a).stop i H/\D.nx σ H) ∨ ((Ite K a).go i H/\∃ N:St->Hp->Prop,(∀ σ' H',N σ' H'->∃ m',m' < m/\W (i+1) m' σ' H')/\∀ x H',(Ite K a).Te i H x H'->g x σ H' fun σ2 H2=>tb { D with nx:=N,ct:=N,bk:=D.nx } σ2 H2):=by
 refine⟨fun i m σ H=>m+i=xs.length/\Pv i σ H,⟨xs.length,rfl,h0⟩,?_⟩;rintro i m σ H ⟨hm,p⟩;have hq:=hl i σ H (by lia) p
 by_cases hlt:i < xs.length
 ·refine .inr ⟨⟨xs,xs[i],hq,by simp [hlt]⟩,Pv (i+1),fun σ' H' p'=>⟨m - 1,by lia,by lia,p'⟩,fun v H' y=>?_⟩;obtain⟨t,x,rfl,ht,hx,rfl⟩:=y;exact hs i x σ H t (hx xs hq) p ht
 ·obtain rfl:i=xs.length:=by lia
  exact .inl ⟨⟨xs,hq,bD _⟩,hd σ H p⟩
end L2
namespace L2
open PySem
section
variable{X:Cx}
end
structure RE(X:Cx)(e:Expr)(t:TE):Prop where
 p:PE X e t
structure RS(X:Cx)(st:Stmt)(t:TS):Prop where
 p:PS X st t
structure XF(X:Cx)(st:List Stmt)(t:TS):Prop where
 p:xf X st t
structure RA(X:Cx)(es:List Expr)(t:TA):Prop where
 p:PA X es t
section
variable{X:Cx}{e a b c:Expr}{es:List Expr}{te ta tb:TE}{tc:TT}{tr:TA}{pos:Pos}{st:Stmt}{ss rest:List Stmt}{t u:TS}
theorem Q3(h:RS X st t):XF X [st] t:=⟨zG h.p⟩
theorem jf(h:RS X st t)(h2:XF X rest u):XF X (st :: rest) (Xh t u):=⟨zE h.p h2.p⟩
theorem Wf(h:RS X st t)(h2:XF X rest u):XF X (st :: rest) (qAJ t u):=⟨zZ h.p h2.p⟩
theorem qEU(hc:PT X c tc)(ha:XF X ss t)(hb:xf X rest u):RS X (.If c ss rest pos) (qAE tc t u):=⟨yD hc ha.p hb⟩
theorem Bx(h:PS X st t):RS X st t:=⟨h⟩
theorem KR(hN:X.N.Nodup)(hi:X.N[i]? = some x)(hx:Loc X.env.scope x)(he:RE X e te)(hs:swapsWith e (some (.Name x pos')) pos.line X.env=pure false:=by rfl)(hf:X.fn x=true ∨ X.env.scope.names.lookup x=some .local:=by first | exact .inl rfl | exact .inr rfl | assumption):RS X (.Assign [.Name x pos'] e pos) (Ov te (Gb i)):=⟨zK hN hi hx he.p hs hf⟩
theorem vy(h:PE X e te):RE X e te:=⟨h⟩
end
end L2
namespace L2
open PySem PySem.Spec PyProof.Rows
section
theorem range_any(n:Nat)(f:Nat->Bool)(bs:List Bool)(hl:bs.length=n)(hf:∀ i b,bs[i]? = some b->f i=b):(List.range n).any f=bs.any id:=by
 rw[Bool.eq_iff_iff,List.any_eq_true,List.any_eq_true];constructor
 ·rintro⟨i,hi,h⟩
  have hi':i < bs.length:=by rw[hl];exact List.mem_range.mp hi
  rw[hf i _ (dX hi')]at h;exact⟨_,ig hi',h⟩
 ·rintro⟨b,hb,h⟩;obtain⟨i,e⟩:=List.mem_iff_getElem?.mp hb;have hi:=(jM.mp e).1;exact⟨i,List.mem_range.mpr (by lia),by rw[hf i b e];exact h⟩
theorem tU(hc:X.calm=true):jL X (.builtin "any") (fun xs H Q => ∃(p:Addr)(bs:List Bool),xs=[.ref p]/\aR X.K H p (bs.map V.bl)/\Q (.bl (bs.any id)) H):=by
 intro pins s σ H xs us Q I r h;obtain⟨p,bs,rfl,hq,q⟩:=h;obtain⟨u,rfl,rx⟩:=vals1 r
 cases rx
 obtain⟨its,rv,pl,hz⟩:=I.list hq;have hlen:=rv.length;rw[bZ]at hlen
 have hlt:p < s.heap.objs.size:=by
  obtain⟨o,ho,_⟩:=pl.isList;exact gR ho
 refine call_any_walk (wpAny_pyIter_list pl.isList ?_)
 refine⟨s.heap.objs.size,[s.heap.objs.size,p],[s.heap.objs.size],its.toArray.size,fun i v=>its.toArray[i]? = some v,fun i h=>h.IsListIter s.heap.objs.size p i/\h.IsList p its.toArray,fun i=>(bs[i]?).getD true,rfl,
  Walks.list (A:=X.A.in1) (I.ok.hd hc) _ _ (lC hlt) _,⟨⟨_,uy _ rfl,rfl,rfl⟩,pl.isList.at fun o e=>ie _ e⟩,?_,?_⟩
 ·intro i v s' Q' E' hv hQ'
  have hi:i < bs.length:=by
   have:=(Array.getElem?_eq_some_iff.mp hv).1;simp only[List.size_toArray]at this;lia
  have e:bs[i]? = some bs[i]:=dX hi;obtain⟨u,hu,ru⟩:=rv.get (i:=i) (x:=V.bl bs[i]) (by rw[cG,e];rfl)
  have hv':its[i]? = some v:=by simpa using hv
  rw[hu]at hv'
  cases hv'
  cases ru
  have hQ2:Q' ((bs[i]?).getD true) s':=hQ';rw[e]at hQ2;exact wpAny_truthy_bool hQ2
 ·intro h' tk k;refine⟨.bl (bs.any id),H,I.kept (t':=tk) (h':=h') fun b u e=>k b u (fun z=>?_) (ie _ e),?_,q⟩
  ·have z':b=s.heap.objs.size:=by simpa using z
   exact absurd (gR e) (by rw[z'];exact Nat.lt_irrefl _)
  ·show Value.bool _=Value.bool _;rw[range_any its.toArray.size _ bs (by simp only[List.size_toArray];exact hlen) fun i b e=>by rw[e];rfl]
end
section
end
noncomputable def Itd(top:Int)(n:Nat):It:=⟨fun i _=>i < n,fun i H x H'=>H'=H/\x = .int (top - i),fun i _=>n<=i⟩
theorem Lw{w:World}{K:bj}{tg:Expr}(it:Addr)(top:Int)(n:Nat):Turn P w K tg (Itd top n) [it] it (fun i h=>IsRangeIter h it (top+(i:Nat) * (-1)) ((n:Int) - (i:Nat)) (-1)) where
 mem:=by simp
 obj:=fun i h st b hb=>by
  obtain rfl:b=it:=by simpa using hb
  refine⟨_,st,fun v z=>?_⟩;have z2:=z
  cases z2
 keep:=fun i h h' st k=>k it (by simp) _ st
 item:=by
  intro X hP hw hK hc i pins s σ H E I hf st hg;subst hP hw hK;obtain⟨f0,f1,_,f3,f4,f5⟩:=hf it (by simp);refine (Walks.range (prog:=X.prog) (w:=X.w) (I.ok.hd hc) it top (-1) n).item i s _ _ hg st fun v h' tk hv st' kk=>?_;obtain⟨t,rfl⟩:=hv;have I1:Inv X pins σ H { s with heap:=h',toks:=tk }:=I.turned (fun b o hb e=>kk b o (by simpa using hb) e) f0 f1 f3 f4 f5
  have ev:top+(i:Int) * (-1)=top - i:=by lia
  refine⟨_,rfl,Ku (n := "range_iterator") st' rfl rfl (by decide) ⟨.int (top - i),H,I1,⟨t,by rw[<-ev]⟩,⟨rfl,rfl⟩,st',fun b hb=>(hf b hb).1⟩⟩
 done:=by
  intro X hP hw hK hc i pins s σ H E I hf st hg;subst hP hw hK;obtain⟨f0,f1,_,f3,f4,f5⟩:=hf it (by simp);have hn:n<=i:=hg;exact wpAny_pyNext_range_end (I.ok.hd hc) st (by lia) fun h' eb=>⟨rfl,I.turned (t':=s.toks) (fun b o hb e=>eb b o hb e) f0 f1 f3 f4 f5⟩
 self:=fun _ _ _ _ _ st h=>wpAny_pyIter_rangeiter st h
section
theorem Vl(I:Inv X pins σ H s)(h1 : -(2 ^ 62)<=x)(h2:x < 2 ^ 62)(h3 : -(2 ^ 62)<=y)(h4:y < 2 ^ 62)
  (q:R (Itd x (x - y).toNat) H):wpAny (model X.prog X.w) X.A (pyIter (.ref s.heap.objs.size)) (PIE X pins σ tg R) E { s with heap:=s.heap.push { cls:=.type "range",data:=.fields #[.int x t,.int y u,.int (-1) v] },toks:=tk }:=by
 refine wpAny_pyIter_range (IsRange.new ..) (PySem.W.small_down h1 h2 h3 h4) ?_;have I1:Inv X pins σ H { s with heap:=s.heap.push { cls:=.type "range",data:=.fields #[.int x t,.int y u,.int (-1) v] },toks:=tk }:=I.kept fun b o e=>ie _ e
 refine⟨(s.heap.push { cls:=.type "range",data:=.fields #[.int x t,.int y u,.int (-1) v] }).objs.size,[(s.heap.push { cls:=.type "range",data:=.fields #[.int x t,.int y u,.int (-1) v] }).objs.size],_,_,H,rfl,
  I1.kept (t':=tk) fun b o e=>ie _ e,Lw _ x (x - y).toNat,?_,fun b hb=>?_,q⟩
 ·have e1:x+((0:Nat):Int) * (-1)=x:=by simp
  have e2:(((x - y).toNat:Nat):Int) - ((0:Nat):Int)=Builtin.Range.rangeSize x y (-1):=by rw[PySem.W.rangeSize_downNat];simp
  rw[e1,e2];exact uy _ rfl
 ·obtain rfl:b=(s.heap.push { cls:=.type "range",data:=.fields #[.int x t,.int y u,.int (-1) v] }).objs.size:=by simpa using hb
  exact I1.wj (bD _) (I1.hok.fresh (bD _))
noncomputable def qC0(ta:TA):TI:=fun σ H R=>ta σ H fun vs H1 => ∃ i:Int,vs=[.int i,.int (-1),.int (-1)] /\ -1<=i/\i < 2 ^ 62/\R (Itd i (i - (-1)).toNat) H1
theorem Uc(hg:Gl X "range")(hm:X.mg "range" = none)(ha:PA X [a,b,c] ta)(hs:starEach [a,b,c] X.env=[(false,eval a X.env),(false,eval b X.env),(false,eval c X.env)]:=by rfl)(hs2:starEach [b,c] X.env=[(false,eval b X.env),(false,eval c X.env)]:=by rfl) :
  PI X tg (.Call (.Name "range" p) [a,b,c] [] pos) (qC0 ta):=by
 intro pins s σ H R I h;refine Call_ (nQ I hg hm boot_range (PyProof.Rows.callWith_type1 (bA (ha pos pins s σ H _ I h) fun us s1 ⟨vs,H1,I1,r1,q1⟩=>?_) (by rw[hs,hs2]) (by rw[hs2];rfl)));obtain⟨i,e,q1,q2,q⟩:=q1;subst e
 cases r1 with
 | cons r rr=>
  cases rr with
  | cons r' rr=>
   cases rr with
   | cons r2 rr=>
    cases rr
    obtain⟨t,rfl⟩:=r;obtain⟨t',rfl⟩:=r';obtain⟨t2,rfl⟩:=r2;exact call_range_3 (by decide) (Vl I1 (by lia) q2 (by decide) (by decide) q) (.inl (PyProof.noPylong_small (by decide)))
end
theorem RQ{n:Nat}{g:TG}{tb:TS}{D:Ends}{σ:St}{H:Hp}(Pv:Nat->St->Hp->Prop)(h0:Pv 0 σ H)
  (hs:∀ i σ H,i < n->Pv i σ H->g (.int (top - i)) σ H fun σ2 H2=>tb { D with nx:=Pv (i+1),ct:=Pv (i+1),bk:=D.nx } σ2 H2) (hd:∀ σ H,Pv n σ H->D.nx σ H) :
  ∃ W:Nat->Nat->St->Hp->Prop,(∃ m,W 0 m σ H)/\∀ i m σ H,W i m σ H →
   ((Itd top n).stop i H/\D.nx σ H) ∨ ((Itd top n).go i H/\∃ N:St->Hp->Prop,(∀ σ' H',N σ' H'->∃ m',m' < m/\W (i+1) m' σ' H')/\∀ x H',(Itd top n).Te i H x H'->g x σ H' fun σ2 H2=>tb { D with nx:=N,ct:=N,bk:=D.nx } σ2 H2):=by
 refine⟨fun i m σ H=>m+i=n/\Pv i σ H,⟨n,rfl,h0⟩,?_⟩;rintro i m σ H ⟨hm,p⟩
 by_cases hlt:i < n
 ·refine .inr ⟨hlt,Pv (i+1),fun σ' H' p'=>⟨m - 1,by lia,by lia,p'⟩,fun x H' y=>?_⟩;obtain⟨rfl,rfl⟩:=y;exact hs i σ _ hlt p
 ·obtain rfl:i=n:=by lia
  exact .inl ⟨bD _,hd σ H p⟩
section
end
end L2
namespace PySem
open Sem (wp)
namespace Rv
section
end
end Rv
end PySem
namespace L2
open PySem PySem.Spec PyProof.Rows
section
theorem wG:jQ X (binaryOp .Add) (fun x y H Q => ∃ a b ys,x = .ref a/\y = .ref b/\aJ X.K H a []/\aJ X.K H b ys/\Q (.ref b) H):=by
 intro pins s σ H x y v u Q I rx ry h;obtain⟨a,b,ys,rfl,rfl,ha,hb,q⟩:=h
 cases rx
 cases ry
 obtain⟨its,r1,p1,_⟩:=I.tuple ha;obtain⟨its2,r2,p2,_⟩:=I.tuple hb;have e0:=r1.qw.mpr rfl;subst e0;obtain⟨⟨cls,dd,data,sl⟩,ho,hc,n,hd⟩:=id p1;obtain⟨⟨cls2,dd2,data2,sl2⟩,ho2,hc2,n2,hd2⟩:=id p2;simp only at hc hd hc2 hd2;subst hc hd hc2 hd2;exact concat_meets ⟨_,ho,rfl⟩ ⟨_,ho2,rfl⟩ noFill_tuple_add seq_tuple_add PySem.F.slot_tuple_add PySem.F.entry_tuple_add (PySem.F.args_tuple_add_2 _ _) (tuple_addW0 a b _ _ n n2 dd dd2 sl sl2 (by simp)) ⟨ho,ho2,⟨.ref b,H,I,rfl,q⟩⟩
end
end L2
namespace L2
open PySem
section
theorem Rk(h:jB x=true):Ni x x=true:=by
 cases x with
 | non=>rfl
 | bl b=>exact beq_self_eq_true b
 | int b=>exact beq_self_eq_true b
 | str b=>exact beq_self_eq_true b
 | _=>exact absurd h pQ
end
inductive Dq(K:bj)(H:Hp):Nat->V->V->Prop where
 | flat {n:Nat} {x:V}:jB x=true->Dq K H n x x
 | same {n:Nat} {a:Addr}:Dq K H n (.ref a) (.ref a)
 | tup {n:Nat} {a b:Addr} {xs ys:List V}:aJ K H a xs->aJ K H b ys->xs.length=ys.length->(∀(j:Nat)(x y:V),xs[j]? = some x->ys[j]? = some y->Dq K H n x y)->Dq K H (n+1) (.ref a) (.ref b)
 | lst {n:Nat} {a b:Addr} {xs ys:List V}:aR K H a xs->aR K H b ys->xs.length=ys.length->(∀(j:Nat)(x y:V),xs[j]? = some x->ys[j]? = some y->Dq K H n x y)->Dq K H (n+1) (.ref a) (.ref b)
theorem Vals.at_of(r:Vals xs us)(h:j < us.length):∃ x,xs[j]? = some x/\RelV x us[j]:=by
 have hl:=r.length;have hx:xs[j]? = some xs[j]:=dX (by omega);obtain⟨u,hu,ru⟩:=r.get hx;rw[dX h]at hu;exact⟨_,hx,iM hu ▸ ru⟩
section
theorem Dq.JW(I:Inv X pins σ H s)(d:Dq X.K H n x y):∀ {A:Around} {u v:Value},RelV x u->RelV y v->A.units+n < cLine->SeqAt.EqAt A s u v true:=by
 induction d with
 | @flat n x f=>
  intro A u v ru rv _;have:=JV (A:=A) (s:=s) ru rv f f;rw[Rk f]at this;exact this
 | same=>
  intro A u v ru rv _
  cases ru
  cases rv
  exact SeqAt.EqAt.same _
 | @tup n a b xs ys ha hb hl _ ih=>
  intro A u v ru rv hu
  cases ru
  cases rv
  obtain⟨its,r1,p1,_⟩:=I.tuple ha;obtain⟨its2,r2,p2,_⟩:=I.tuple hb;have l1:=r1.length;have l2:=r2.length
  by_cases e:a=b
  ·subst e;exact SeqAt.EqAt.same _
  refine SeqAt.EqAt.of_refs e ?_;have:=SeqAt.RcAt.tuples (A:=A) (s:=s) (e:=fun _=>true) p1 p2 (by omega) (fun j h1 h2=>?_)
  ·have e2:((List.range (min its.toArray.size its2.toArray.size)).all (fun _=>true) && its.toArray.size == its2.toArray.size)=true:=by
    rw[qN,qN,<-l1,<-l2,hl];simp
   rw[e2]at this;exact this
  ·have h1':j < its.length:=by simpa using h1
   have h2':j < its2.length:=by simpa using h2
   obtain⟨x,hx,rx⟩:=r1.at_of h1';obtain⟨y,hy,ry⟩:=r2.at_of h2';have:=ih j x y hx hy (A:=A.in1) rx ry (by show A.in1.units+n < cLine;simp;omega)
   simpa using this
 | @lst n a b xs ys ha hb hl _ ih=>
  intro A u v ru rv hu
  cases ru
  cases rv
  obtain⟨its,r1,p1,_⟩:=I.list ha;obtain⟨its2,r2,p2,_⟩:=I.list hb;have l1:=r1.length;have l2:=r2.length
  by_cases e:a=b
  ·subst e;exact SeqAt.EqAt.same _
  refine SeqAt.EqAt.of_refs e ?_;have:=SeqAt.RcAt.lists (A:=A) (s:=s) (e:=fun _=>true) p1.isList p2.isList (by rw[qN,qN,<-l1,<-l2,hl]) (by omega) (fun j h1 h2=>?_)
  ·have e2:(List.range its.toArray.size).all (fun _=>true)=true:=by simp
   rw[e2]at this;exact this
  ·have h1':j < its.length:=by simpa using h1
   have h2':j < its2.length:=by simpa using h2
   obtain⟨x,hx,rx⟩:=r1.at_of h1';obtain⟨y,hy,ry⟩:=r2.at_of h2';have:=ih j x y hx hy (A:=A.in1) rx ry (by show A.in1.units+n < cLine;simp;omega)
   simpa using this
end
section
theorem Uo(hu:X.A.units+64 < cLine):jQ X (compareOp .Eq) (fun x y H Q => ∃ a b xs ys n,x = .ref a/\y = .ref b/\aR X.K H a xs/\aR X.K H b ys/\xs.length=ys.length/\(∀(j:Nat)(x y:V),xs[j]? = some x->ys[j]? = some y->Dq X.K H n x y)/\n<=60/\Q (.bl true) H):=by
 intro pins s σ H x y v u Q I rx ry h;obtain⟨a,b,xs,ys,n,rfl,rfl,ha,hb,hl,dq,hn,q⟩:=h
 cases rx
 cases ry
 obtain⟨its,r1,p1,_⟩:=I.list ha;obtain⟨its2,r2,p2,_⟩:=I.list hb;have l1:=r1.length;have l2:=r2.length;refine SeqAt.RcAt.lists (e:=fun _=>true) p1.isList p2.isList (by rw[qN,qN,<-l1,<-l2,hl]) (by omega) (fun j h1 h2=>?_) X.prog X.w X.xe _ ?_
 ·have h1':j < its.length:=by simpa using h1
  have h2':j < its2.length:=by simpa using h2
  obtain⟨x,hx,rx⟩:=r1.at_of h1';obtain⟨y,hy,ry⟩:=r2.at_of h2';have:=(dq j x y hx hy).JW I (A:=X.A.in1) rx ry (by show X.A.in1.units+n < cLine;simp;omega)
  simpa using this
 ·have e:(List.range its.toArray.size).all (fun _=>true)=true:=by
   simp
  rw[e];exact⟨.bl true,H,I,rfl,q⟩
theorem Ul(hu:X.A.units+64 < cLine):jQ X (compareOp .NotEq) (fun x y H Q => ∃ a b xs ys n,x = .ref a/\y = .ref b/\aJ X.K H a xs/\aJ X.K H b ys/\xs.length=ys.length/\(∀(j:Nat)(x y:V),xs[j]? = some x->ys[j]? = some y->Dq X.K H n x y)/\n<=60/\Q (.bl false) H):=by
 intro pins s σ H x y v u Q I rx ry h;obtain⟨a,b,xs,ys,n,rfl,rfl,ha,hb,hl,dq,hn,q⟩:=h
 cases rx
 cases ry
 obtain⟨its,r1,p1,_⟩:=I.tuple ha;obtain⟨its2,r2,p2,_⟩:=I.tuple hb;have l1:=r1.length;have l2:=r2.length;refine SeqAt.RcNeAt.tuples (e:=fun _=>true) p1 p2 (by omega) (fun j h1 h2=>?_) X.prog X.w X.xe _ ?_
 ·have h1':j < its.length:=by simpa using h1
  have h2':j < its2.length:=by simpa using h2
  obtain⟨x,hx,rx⟩:=r1.at_of h1';obtain⟨y,hy,ry⟩:=r2.at_of h2';have:=(dq j x y hx hy).JW I (A:=X.A.in1) rx ry (by show X.A.in1.units+n < cLine;simp;omega)
  simpa using this
 ·have e:(!((List.range (min its.toArray.size its2.toArray.size)).all (fun _=>true) && its.toArray.size == its2.toArray.size))=false:=by
   rw[List.size_toArray,List.size_toArray,<-l1,<-l2,hl];simp
  rw[e];exact⟨.bl false,H,I,rfl,q⟩
end
section
end
section
end
end L2
namespace Tr
noncomputable def pO(ds:List Int)(d:Int):Nat->Option Nat
 | 0=>none
 | j+1=>if ds.getD j 0 < d then some j else pO ds d j
noncomputable def par(ds:List Int)(k:Nat):Option Nat:=pO ds (ds.getD k 0) k
theorem ph:∀ {k j:Nat},j < k->ds.getD j 0 < d->(∀ i,j < i->i < k->d<=ds.getD i 0)->pO ds d k=some j
 | 0,j,h,_,_=>by lia
 | k+1,j,h,hd,ha=>by
  unfold pO
  by_cases e:j=k
  ·subst e;rw[if_pos hd]
  ·have:=ha k (by lia) (by lia);rw[if_neg (by lia)];exact ph (by lia) hd fun i h1 h2=>ha i h1 (by lia)
theorem wD:∀ {k:Nat},(∀ i,i < k->d<=ds.getD i 0)->pO ds d k=none
 | 0,_=>rfl
 | k+1,h=>by
  unfold pO;have:=h k (by lia);rw[if_neg (by lia)];exact wD fun i hi=>h i (by lia)
theorem wF:∀ {k j:Nat},pO ds d k=some j->j < k/\ds.getD j 0 < d/\∀ i,j < i->i < k->d<=ds.getD i 0
 | 0,j,h=>by cases h
 | k+1,j,h=>by
  unfold pO at h
  split at h
  ·cases h;exact⟨by lia,by assumption,fun i h1 h2=>by lia⟩
  ·rename_i hn
   obtain⟨a,b,c⟩:=wF h;refine⟨by lia,b,fun i h1 h2=>?_⟩
   by_cases e:i=k
   ·subst e;lia
   ·exact c i h1 (by lia)
theorem my(h:par ds k=some j):j < k:=(wF h).1
structure Good(ds:List Int):Prop where
 pos:0 < ds.length
 first:ds.getD 0 0=0
 next:∀ k,k+1 < ds.length->1<=ds.getD (k+1) 0/\ds.getD (k+1) 0<=ds.getD k 0+1
structure Above(ds:List Int)(k:Nat)(s:List Nat):Prop where
 len:(s.length:Int)=ds.getD k 0+1
 top:s[(ds.getD k 0).toNat]? = some k
 le:∀(i v:Nat),s[i]? = some v->v<=k/\ds.getD v 0=(i:Int)/\∀ j,v < j->j<=k->(i:Int) < ds.getD j 0
noncomputable def gG(ds:List Int)(r n:Nat):List Nat:=(List.range n).filter fun j=>par ds j == some r
noncomputable def kids(ds:List Int)(r:Nat):List Nat:=gG ds r ds.length
theorem jX(ds:List Int)(r n:Nat):gG ds r (n+1)=gG ds r n++if par ds n == some r then [n] else []:=by
 unfold gG;rw[List.range_succ,List.filter_append];congr 1;rw[List.filter_cons];simp
theorem JF(ds:List Int)(r n:Nat):(gG ds r n).length<=n:=by
 unfold gG;refine Nat.le_trans (sJ _ _) ?_;simp
noncomputable def Ol(ds:List Int):Nat->Nat->List Nat
 | 0,_=>[]
 | f+1,k=>match par ds k with
  | none=>[]
  | some j=>j :: Ol ds f j
noncomputable def ups(ds:List Int)(k:Nat):List Nat:=Ol ds k k
theorem v9(ds:List Int):∀ f k,k<=f->Ol ds f k=Ol ds k k
 | f,0,_=>by
  cases f with
  | zero=>rfl
  | succ f=>rfl
 | 0,k+1,h=>by lia
 | f+1,k+1,h=>by
  show (match par ds (k+1) with | none=>[] | some j=>j :: Ol ds f j)=(match par ds (k+1) with | none=>[] | some j=>j :: Ol ds k j)
  cases e:par ds (k+1) with
  | none=>rfl
  | some j=>
   have hj:=my e;show j :: Ol ds f j=j :: Ol ds k j;rw[v9 ds f j (by lia),v9 ds k j (by lia)]
theorem v8(h:par ds k=none):ups ds k=[]:=by
 unfold ups
 cases k with
 | zero=>rfl
 | succ k=>
  show (match par ds (k+1) with | none=>[] | some j=>j :: Ol ds k j)=[];rw[h]
theorem qO(h:par ds k=some j):ups ds k=j :: ups ds j:=by
 have hj:=my h;unfold ups
 cases k with
 | zero=>lia
 | succ k=>
  show (match par ds (k+1) with | none=>[] | some j=>j :: Ol ds k j)=_;rw[h];show j :: Ol ds k j=_;rw[v9 ds k j (by lia)]
theorem Oj:∀ {k v:Nat},v∈ups ds k->v < k:=by
 intro k
 induction k using Nat.strongRecOn with
 | ind k ih=>
  intro v hv
  cases e:par ds k with
  | none=>
   rw[v8 e]at hv
   cases hv
  | some j=>
   have hj:=my e;rw[qO e]at hv;rcases bU.mp hv with rfl | h
   ·exact hj
   ·have:=ih j hj h;lia
noncomputable def hall(ds:List Int)(isOne:Nat->Bool)(a b:Nat):Option Nat:=(ups ds a).find? fun x=>(ups ds b).contains x && isOne x
noncomputable def bL(ds:List Int)(a b:Nat):Bool:=(ups ds a).contains b
theorem Fz(h:par ds a=some j):bL ds a b=(j == b || bL ds j b):=by
 unfold bL;rw[qO h,List.contains_cons];congr 1;exact Bool.eq_iff_iff.mpr ⟨fun z=>by simpa using (eq_of_beq z).symm,fun z=>by simpa using (eq_of_beq z).symm⟩
structure BZ(ds:List Int)(k e:Nat):Prop where
 lt:k < e
 le:e<=ds.length
 ins:∀ j,k < j->j < e->ds.getD k 0 < ds.getD j 0
 out:e < ds.length->ds.getD e 0<=ds.getD k 0
theorem Fb:∀ {k:Nat},pO ds d k=none->∀ i,i < k->d<=ds.getD i 0
 | 0,_,i,h=>by lia
 | k+1,e,i,h=>by
  unfold pO at e
  split at e
  ·cases e
  ·rename_i hn
   by_cases q:i=k
   ·subst q;lia
   ·exact Fb e i (by lia)
theorem Kc:par ds j=some k ↔ k < j/\ds.getD k 0 < ds.getD j 0/\∀ i,k < i->i < j->ds.getD j 0<=ds.getD i 0:=
 ⟨fun h=>wF h,fun ⟨a,b,c⟩=>ph a b c⟩
theorem V6:∀ a b,b∈ups ds a ↔ b < a/\∀ j,b < j->j<=a->ds.getD b 0 < ds.getD j 0:=by
 intro a
 induction a using Nat.strongRecOn with
 | ind a ih=>
  intro b
  cases e:par ds a with
  | none=>
   rw[v8 e];refine⟨fun z=>(by cases z),fun ⟨h1,h2⟩=>?_⟩;have:=Fb e b h1;have:=h2 a h1 (bD _);lia
  | some p=>
   obtain⟨hp,hd,ha⟩:=Kc.mp e;rw[qO e,bU,ih p hp b];constructor
   ·rintro (rfl | ⟨h1,h2⟩)
    ·refine⟨hp,fun j j1 j2=>?_⟩
     by_cases q:j=a
     ·rw[q];exact hd
     ·have:=ha j j1 (by lia);lia
    ·refine⟨by lia,fun j j1 j2=>?_⟩
     by_cases q:j<=p
     ·exact h2 j j1 q
     ·have z:=h2 p h1 (bD _)
      by_cases q2:j=a
      ·rw[q2];lia
      ·have:=ha j (by lia) (by lia);lia
   ·rintro⟨h1,h2⟩
    by_cases q:b=p
    ·exact .inl q
    ·right
     have z:=h2 a h1 (bD _)
     by_cases q2:p < b
     ·have:=ha b q2 h1;lia
     ·exact⟨by lia,fun j j1 j2=>h2 j j1 (by lia)⟩
theorem wQ(h:BZ ds b e)(ha:a < ds.length):bL ds a b=(decide (b < a) && decide (a < e)):=by
 unfold bL;rw[Bool.eq_iff_iff,List.contains_iff_mem,V6,Bool.and_eq_true,decide_eq_true_iff,decide_eq_true_iff];constructor
 ·rintro⟨h1,h2⟩;refine⟨h1,?_⟩
  by_cases q:a < e
  ·exact q
  ·have:=h2 e h.lt (by lia);have:=h.out (by lia);lia
 ·rintro⟨h1,h2⟩;exact⟨h1,fun j j1 j2=>h.ins j j1 (by lia)⟩
theorem Kd(g:Good ds)(h:BZ ds k e)(hj:j < ds.length):(par ds j=some k) ↔ (k < j/\j < e/\ds.getD j 0=ds.getD k 0+1):=by
 rw[Kc];constructor
 ·rintro⟨h1,h2,h3⟩;refine⟨h1,?_,?_⟩
  ·by_cases q:j < e
   ·exact q
   ·have:=h.out (by have:=h.lt;lia)
    by_cases q2:j=e
    ·subst q2;lia
    ·have:=h3 e h.lt (by lia);lia
  ·have n:=g.next k (by lia)
   by_cases q:j=k+1
   ·subst q;lia
   ·have:=h3 (k+1) (by lia) (by lia);lia
 ·rintro⟨h1,h2,h3⟩;refine⟨h1,by lia,fun i i1 i2=>?_⟩;have:=h.ins i i1 (by lia);lia
theorem wU(ds:List Int)(k:Nat):∀ n,n<=k+1->gG ds k n=[]
 | 0,_=>rfl
 | n+1,h=>by
  rw[jX,wU ds k n (by lia),if_neg]
  ·rfl
  ·intro z;have:=my (eq_of_beq z);lia
theorem uK(g:Good ds)(h:BZ ds k e):∀ n,e+n<=ds.length->gG ds k (e+n)=gG ds k e
 | 0,_=>rfl
 | n+1,hn=>by
  rw[show e+(n+1)=(e+n)+1 by lia,jX,uK g h n (by lia),if_neg,fY];intro z;have:=(Kd g h (by lia)).mp (eq_of_beq z);lia
theorem Qw(g:Good ds)(h:BZ ds k e):kids ds k=gG ds k e:=by
 have q:=uK g h (ds.length - e) (by have:=h.le;lia);rw[show e+(ds.length - e)=ds.length by have:=h.le;lia]at q;exact q
noncomputable def bears(ds:List Int)(gs:List Nat)(k:Nat):Bool:=gs.any fun g=>g == k || bL ds g k
noncomputable def next(ds:List Int)(al:Nat->Bool)(gs:List Nat)(p:Nat):List Nat:=
 if al p=true then kids ds p else match (kids ds p).find? (bears ds gs) with
  | some k=>[k]
  | none=>(kids ds p).take 1
inductive pI(ds:List Int)(al:Nat->Bool)(gs:List Nat)(un:Option Nat):Nat->Prop where
 | top:un=none->pI ds al gs un 0
 | root {p k:Nat}:k∈next ds al gs p->un=some p->pI ds al gs un k
 | low {p k:Nat}:k∈next ds al gs p->pI ds al gs un p->pI ds al gs un k
theorem pI.kid(h:k∈next ds al gs p)(h':un=some p ∨ pI ds al gs un p):pI ds al gs un k:=by
 rcases h' with e | g
 ·exact .root h e
 ·exact .low h g
theorem wM:k∈kids ds r ↔ k < ds.length/\par ds k=some r:=by
 unfold kids gG;rw[mK,List.mem_range];exact⟨fun ⟨a,b⟩=>⟨a,eq_of_beq b⟩,fun ⟨a,b⟩=>⟨a,by rw[b];exact beq_self_eq_true _⟩⟩
theorem Am(ds:List Int)(p:Nat):(kids ds p).Pairwise (· < ·):=by
 unfold kids gG;exact List.pairwise_lt_range.filter _
theorem Fq(h:k∈next ds al gs p):k∈kids ds p:=by
 unfold next at h
 split at h
 ·exact h
 ·split at h
  ·rename_i k' e
   rw[bf.mp h];exact List.mem_of_find?_eq_some e
  ·exact List.mem_of_mem_take h
theorem j7(h:k∈next ds al gs p):par ds k=some p:=(wM.mp (Fq h)).2
theorem Kh(h:k∈next ds al gs p):k < ds.length:=(wM.mp (Fq h)).1
theorem Ad(ds:List Int)(al:Nat->Bool)(gs:List Nat)(p:Nat):(next ds al gs p).Pairwise (· < ·):=by
 unfold next
 split
 ·exact Am ds p
 ·split
  ·exact List.pairwise_singleton _ _
  ·exact (Am ds p).sublist (List.take_sublist _ _)
theorem pI.lt(pos:0 < ds.length)(h:pI ds al gs un k):k < ds.length:=by
 cases h with
 | top=>exact pos
 | root h _=>exact Kh h
 | low h _=>exact Kh h
theorem pI.over(h:pI ds al gs un k):∀ u,un=some u->u < k:=by
 induction h with
 | top e=>intro u e';rw[e]at e';cases e'
 | root h hp=>
  intro u e;rw[e]at hp
  cases hp
  exact my (j7 h)
 | low h _ ih=>
  intro u e;have:=my (j7 h);have:=ih u e;lia
structure nu(ds:List Int)(al:Nat->Bool)(gs:List Nat)(un:Option Nat)(gone ahead:List Nat):Prop where
 nd:(gone++ahead).Nodup
 ok:∀ x∈gone++ahead,pI ds al gs un x
 fr:∀ x∈gone++ahead,par ds x=un ∨ ∃ g∈gone,par ds x=some g
 st:un=none->0∈gone++ahead
 su:∀ u,un=some u->∀ x∈next ds al gs u,x∈gone++ahead
 cl:∀ g∈gone,∀ x∈next ds al gs g,x∈gone++ahead
theorem gF{l:List Nat}(h:l.Pairwise (· < ·)):l.Nodup:=h.imp fun z=>lC z
theorem nu.none(ds:List Int)(al:Nat->Bool)(gs:List Nat):nu ds al gs none [] [0]:=
 ⟨by simp,fun x hx=>by rw[List.mem_singleton.mp hx];exact .top rfl,fun x hx=>by rw[List.mem_singleton.mp hx];exact .inl rfl,fun _=>List.mem_singleton.mpr rfl,fun u e=>(by cases e),fun g hg=>(by cases hg)⟩
theorem nu.some(ds:List Int)(al:Nat->Bool)(gs:List Nat)(u:Nat):nu ds al gs (some u) [] (next ds al gs u):=
 ⟨gF (Ad ds al gs u),fun x hx=>.kid hx (.inl rfl),fun x hx=>.inl (j7 hx),fun e=>(by cases e),fun v e x hx=>by cases e;exact hx,fun g hg=>(by cases hg)⟩
theorem nu.step(w:nu ds al gs un gone (a++[r])):nu ds al gs un (gone++[r]) (a++next ds al gs r):=by
 have gr:=w.ok r (by simp)
 have sub:∀ x,x∈gone++(a++[r])->x∈(gone++[r])++(a++next ds al gs r):=fun x hx=>by
  simp only[List.mem_append,List.mem_singleton]at hx ⊢;rcases hx with h | h | h
  ·exact .inl (.inl h)
  ·exact .inr (.inl h)
  ·exact .inl (.inr h)
 have nr:r ∉ gone:=fun z=>by
  have:=(List.nodup_append.mp w.nd).2.2 r z r (by simp);exact this rfl
 have new:∀ x∈next ds al gs r,x ∉ gone++(a++[r]):=fun x hx z=>by
  have e:=j7 hx;rcases w.fr x z with h | ⟨g,hg,h⟩
  ·rw[e]at h;exact absurd (gr.over r h.symm) (Nat.lt_irrefl _)
  ·rw[e]at h
   cases h
   exact nr hg
 have p1:((gone++[r])++(a++next ds al gs r)).Perm ((gone++(a++[r]))++next ds al gs r):=by
  rw[List.append_assoc,List.append_assoc];refine List.Perm.append_left gone ?_;rw[<-List.append_assoc];refine List.Perm.append_right _ ?_;exact List.perm_append_comm
 refine⟨?_,fun x hx=>?_,fun x hx=>?_,fun e=>sub _ (w.st e),fun u e x hx=>sub _ (w.su u e x hx),fun g hg x hx=>?_⟩
 ·refine p1.nodup_iff.mpr (List.nodup_append.mpr ⟨w.nd,gF (Ad ds al gs r),fun x hx y hy e=>?_⟩);subst e;exact new x hy hx
 ·rcases eG.mp (p1.mem_iff.mp hx) with h | h
  ·exact w.ok x h
  ·exact .kid h (.inr gr)
 ·rcases eG.mp (p1.mem_iff.mp hx) with h | h
  ·rcases w.fr x h with h | ⟨g,hg,h⟩
   ·exact .inl h
   ·exact .inr ⟨g,List.mem_append_left _ hg,h⟩
  ·exact .inr ⟨r,by simp,j7 h⟩
 ·rcases eG.mp hg with h | h
  ·exact sub _ (w.cl g h x hx)
  ·rw[bf.mp h]at hx;simp [hx]
theorem nu.done(w:nu ds al gs un gone [])(k:Nat):k∈gone ↔ pI ds al gs un k:=by
 constructor
 ·intro h;exact w.ok k (by simpa using h)
 ·intro h
  induction h with
  | top e=>simpa using w.st e
  | root hk hp=>simpa using w.su _ hp _ hk
  | low hk _ ih=>simpa using w.cl _ ih _ hk
theorem nA:∀(n:Nat)(l:List Nat),l.Nodup->(∀ k∈l,k < n)->l.length<=n
 | 0,l,_,h=>by
  cases l with
  | nil=>exact bD _
  | cons x l=>exact absurd (h x Ed) (Nat.not_lt_zero _)
 | n+1,l,hd,h=>by
  have e:=nA n (l.filter (· ≠ n)) (hd.filter _) fun k hk=>by
   obtain⟨a,b⟩:=mK.mp hk;have:=h k a
   have:k ≠ n:=by simpa using b
   lia
  have:l.length<=(l.filter (· ≠ n)).length+1:=by
   clear e h
   induction l with
   | nil=>exact Nat.zero_le _
   | cons x l ih=>
    obtain⟨h1,h2⟩:=List.nodup_cons.mp hd
    by_cases c:x=n
    ·subst c
     have:l.filter (· ≠ x)=l:=by
      rw[List.filter_eq_self];intro a ha;have:a ≠ x:=fun z=>h1 (z ▸ ha)
      simpa using this
     rw[List.filter_cons,if_neg (by simp),this];exact bD _
    ·rw[List.filter_cons,if_pos (by simpa using c),List.length_cons,List.length_cons];have:=ih h2;lia
  lia
theorem nu.len(pos:0 < ds.length)(w:nu ds al gs un gone ahead):gone.length+ahead.length<=ds.length:=by
 rw[<-dN];exact nA _ _ w.nd fun k hk=>(w.ok k hk).lt pos
def SM(ds:List Int)(al:Nat->Bool)(gs:List Nat)(un:Option Nat)(os:List Nat):Prop:=os.Pairwise (· < ·)/\∀ k,k∈os ↔ pI ds al gs un k
theorem SM.unique(h1:SM ds al gs un a)(h2:SM ds al gs un b):a=b:=
 L2.gY a b h1.1 h2.1 fun k=>(h1.2 k).trans (h2.2 k).symm
theorem SM.lt(pos:0 < ds.length)(h:SM ds al gs un os):∀ o∈os,o < ds.length:=fun o ho=>((h.2 o).mp ho).lt pos
theorem SM.len(pos:0 < ds.length)(h:SM ds al gs un os):os.length<=ds.length:=nA _ _ (gF h.1) (h.lt pos)
theorem Qh(h:al p=true):next ds al gs p=kids ds p:=by
 unfold next;rw[if_pos h]
noncomputable def under(ds:List Int)(k:Nat):Option Nat->Bool
 | none=>true
 | some u=>bL ds k u
theorem yt(h:par ds k=some p)(hu:un=some p ∨ under ds p un=true):under ds k un=true:=by
 cases un with
 | none=>rfl
 | some u=>
  show bL ds k u=true;rw[Fz h,Bool.or_eq_true];rcases hu with e | e
  ·injection e with e
   left
   rw[e];exact beq_self_eq_true _
  ·exact .inr e
theorem pI.under(h:pI ds al gs un k):under ds k un=true:=by
 induction h with
 | top e=>
  subst e;rfl
 | root hk hp=>exact yt (j7 hk) (.inl hp)
 | low hk _ ih=>exact yt (j7 hk) (.inr ih)
end Tr
namespace L2
open PySem PySem.Spec PyProof.Rows
section
theorem bT:jL X (.builtin "isinstance") (fun xs H Q => ∃ x T t b,xs=[x,.ty T]/\tV X.K H x t/\PySem.W.kitOne X.K t (.type T)=some b/\Q (.bl b) H):=by
 intro pins s σ H xs us Q I r h;obtain⟨x,T,t,b,rfl,ty,e,q⟩:=h;obtain⟨u,w',rfl,r1,r2⟩:=vals2 r
 cases r2
 exact Mx I r1 ty e fun tk=>⟨.bl b,H,I.tok tk,rfl,q⟩
theorem Yp(K:bj):PySem.W.kitOne K (.type "int") (.type "int")=some true:=by rfl
theorem Yq(K:bj):PySem.W.kitOne K (.type "int") (.type "bool")=some false:=by rfl
end
end L2
namespace L2
open PySem
theorem TJ{c:Bool}{A B:Prop}(h:c=true)(a:A):if c=true then A else B:=by rw[if_pos h];exact a
theorem j8{c:Bool}{A B:Prop}(h:c=false)(b:B):if c=true then A else B:=by rw[if_neg (by rw[h];decide)];exact b
end L2
namespace ou
open PySem L2
inductive Gd where
 | yes
 | is (b n:Int)
 | under (b n:Int)
 | inn (r:Int)
 | neg (g:Gd)
 | both (g h:Gd)
 | either (g h:Gd)
noncomputable def Gd.ht:Gd->Nat
 | .yes=>1
 | .is _ _=>1
 | .under _ _=>1
 | .inn _=>1
 | .neg g=>g.ht+1
 | .both g h=>1+max g.ht h.ht
 | .either g h=>1+max g.ht h.ht
theorem Gd.Yy:∀ g:Gd,1<=g.ht
 | .yes=>bD _
 | .is _ _=>bD _
 | .under _ _=>bD _
 | .inn _=>bD _
 | .neg _=>Nat.succ_le_succ (Nat.zero_le _)
 | .both _ _=>Nat.le_add_right _ _
 | .either _ _=>Nat.le_add_right _ _
noncomputable def at0(bx:List Int)(b:Int):Int:=bx.getD b.toNat 0
noncomputable def Gd.holds(op bx:List Int):Gd->Bool
 | .yes=>true
 | .is b n=>decide (V.int (at0 bx b)=V.int n)
 | .under b n=>decide (at0 bx b < n)
 | .inn r=>inV (.int r) (op.map V.int)
 | .neg g => !(g.holds op bx)
 | .both g h=>g.holds op bx && h.holds op bx
 | .either g h=>g.holds op bx || h.holds op bx
noncomputable def Gd.ok(nb:Nat):Gd->Prop
 | .yes=>True
 | .is b _=>0<=b/\b < (nb:Int)
 | .under b _=>0<=b/\b < (nb:Int)
 | .inn _=>True
 | .neg g=>g.ok nb
 | .both g h=>g.ok nb/\h.ok nb
 | .either g h=>g.ok nb/\h.ok nb
def aA(H H':Hp):Prop:=∀ b xs,H b=some (.tup xs)->H' b=some (.tup xs)
theorem aA.trans(a:aA H H1)(b:aA H1 H2):aA H H2:=fun c xs h=>b c xs (a c xs h)
theorem aA.of(s:aG H H'):aA H H':=fun b xs h=>s b _ h
theorem aA.lst(h:H p=some (.lst xs))(o:HO):aA H (upd H p o):=fun b ys e=>by
 rw[zQ (fH e h (by intro z;cases z))];exact e
theorem aA.new(h:H p=none)(o:HO):aA H (upd H p o):=.of (zF h o)
theorem eQ(hp:H p=none)(s:aG H H')(o:HO):aG H (upd H' p o):=fun b u e=>by
 rw[zQ (zM e hp)];exact s b u e
inductive jh(H:Hp):V->Gd->Prop where
 | yes {a:Addr}:H a=some (.tup [.str "yes"])->jh H (.ref a) .yes
 | is {a:Addr} {b n:Int}:H a=some (.tup [.str "is",.int b,.int n])->jh H (.ref a) (.is b n)
 | under {a:Addr} {b n:Int}:H a=some (.tup [.str "under",.int b,.int n])->jh H (.ref a) (.under b n)
 | inn {a:Addr} {r:Int}:H a=some (.tup [.str "in",.int r])->jh H (.ref a) (.inn r)
 | neg {a:Addr} {v:V} {g:Gd}:H a=some (.tup [.str "not",v])->jh H v g->jh H (.ref a) (.neg g)
 | both {a:Addr} {v u:V} {g h:Gd}:H a=some (.tup [.str "both",v,u])->jh H v g->jh H u h->jh H (.ref a) (.both g h)
 | either {a:Addr} {v u:V} {g h:Gd}:H a=some (.tup [.str "either",v,u])->jh H v g->jh H u h->jh H (.ref a) (.either g h)
theorem jh.mono(x:jh H v g)(k:aA H H'):jh H' v g:=by
 induction x with
 | yes e=>exact .yes (k _ _ e)
 | is e=>exact .is (k _ _ e)
 | under e=>exact .under (k _ _ e)
 | inn e=>exact .inn (k _ _ e)
 | neg e _ i=>exact .neg (k _ _ e) i
 | both e _ _ i j=>exact .both (k _ _ e) i j
 | either e _ _ i j=>exact .either (k _ _ e) i j
theorem yN{x y:Str}{A B:Prop}(h:¬ x=y)(b:B):if decide (V.str x=V.str y)=true then A else B:=by
 rw[if_neg]
 ·exact b
 ·intro z;have z':=of_decide_eq_true z;injection z' with z'';exact h z''
theorem yO{x:Str}{A B:Prop}(a:A):if decide (V.str x=V.str x)=true then A else B:=by
 rw[if_pos (decide_eq_true rfl)];exact a
theorem xQ{bx:List Int}{b:Int}(h0:0<=b)(h1:b < (bx.length:Int)):uO (bx.map V.int) b=some (.int (at0 bx b)):=by
 have hk:b.toNat < bx.length:=by lia
 have e:(bx.map V.int)[b.toNat]? = some (.int (at0 bx b)):=by
  rw[cG,dX hk];unfold at0;rw[v7,dX hk];rfl
 have q:=yQ e;rw[Int.toNat_of_nonneg h0]at q;exact q
theorem tK(op:List Int):(op.map V.int).all jB=true:=by
 rw[List.all_eq_true];intro x hx;obtain⟨n,_,rfl⟩:=gU.mp hx;rfl
end ou
namespace xT
open PySem L2 ou
structure Rm where
 nm:Str
 kind:Str
 depth:Int
 keeps:Str
 GJ:Str
 ins:V
 outs:V
def Jb(H:Hp)(v:V)(r:Rm):Prop:=∃ a:Addr,v = .ref a/\H a=some (.tup [.str r.nm,.str r.kind,.int r.depth,.str r.keeps,.str r.GJ,r.ins,r.outs])
inductive iB(H:Hp):List V->List Rm->Prop where
 | nil:iB H [] []
 | cons {v:V} {r:Rm} {vs:List V} {rs:List Rm}:Jb H v r->iB H vs rs->iB H (v :: vs) (r :: rs)
theorem Jb.mono(x:Jb H v r)(k:aA H H'):Jb H' v r:=by
 obtain⟨a,e,h⟩:=x;exact⟨a,e,k _ _ h⟩
theorem iB.mono(x:iB H vs rs)(k:aA H H'):iB H' vs rs:=by
 induction x with
 | nil=>exact .nil
 | cons h _ ih=>exact .cons (h.mono k) ih
theorem iB.length(x:iB H vs rs):vs.length=rs.length:=by
 induction x with
 | nil=>rfl
 | cons _ _ ih=>rw[eO,eO,ih]
theorem iB.snoc(x:iB H vs rs)(y:Jb H v r):iB H (vs++[v]) (rs++[r]):=by
 induction x with
 | nil=>exact .cons y .nil
 | cons h _ ih=>exact .cons h ih
theorem iB.get(x:iB H vs rs):∀ {k:Nat} {r:Rm},rs[k]? = some r->∃ v,vs[k]? = some v/\Jb H v r:=by
 induction x with
 | nil=>intro k r h;simp at h
 | cons h _ ih=>
  intro k r e
  cases k with
  | zero=>
   simp at e;subst e;exact⟨_,rfl,h⟩
  | succ k=>exact ih (by simpa using e)
def dJ(H:Hp)(t:Addr)(rs:List Rm):Prop:=∃ vs,H t=some (.tup vs)/\iB H vs rs
theorem dJ.mono(x:dJ H t rs)(k:aA H H'):dJ H' t rs:=by
 obtain⟨vs,h,r⟩:=x;exact⟨vs,k _ _ h,r.mono k⟩
noncomputable def aD(rs:List Rm):List Int:=rs.map (·.depth)
theorem yV(rs:List Rm):(aD rs).length=rs.length:=bZ _
theorem gH(h:rs[k]? = some r):(aD rs).getD k 0=r.depth:=by
 unfold aD;rw[v7,cG,h];rfl
theorem dJ.at(x:dJ H t rs)(h:k < rs.length):∃ vs a r,H t=some (.tup vs)/\vs.length=rs.length/\rs[k]? = some r/\uO vs ((k:Nat):Int)=some (.ref a)/\H a=some (.tup [.str r.nm,.str r.kind,.int r.depth,.str r.keeps,.str r.GJ,r.ins,r.outs]):=by
 obtain⟨vs,hv,hr⟩:=x;have e:=dX h;obtain⟨v,h1,a,rfl,h2⟩:=hr.get e;exact⟨vs,a,rs[k],hv,hr.length,e,yQ h1,h2⟩
def Fit(rs:List Rm):Prop:=∀(k:Nat)(r:Rm),rs[k]? = some r->if k+1 < rs.length/\(aD rs).getD k 0 < (aD rs).getD (k+1) 0 then (r.kind = "one" ∨ r.kind = "all") else r.kind = "plain"
end xT
namespace Dl
open PySem L2 ou
inductive Dd where
 | say (w:Str)
 | set (b n:Int)
 | add (b n:Int)
 | send (e:Int)
inductive tX(H:Hp):V->Dd->Prop where
 | say {a:Addr} {w:Str}:H a=some (.tup [.str "say",.str w])->tX H (.ref a) (.say w)
 | set {a:Addr} {b n:Int}:H a=some (.tup [.str "set",.int b,.int n])->tX H (.ref a) (.set b n)
 | add {a:Addr} {b n:Int}:H a=some (.tup [.str "add",.int b,.int n])->tX H (.ref a) (.add b n)
 | send {a:Addr} {e:Int}:H a=some (.tup [.str "send",.int e])->tX H (.ref a) (.send e)
theorem tX.mono(x:tX H v d)(k:aA H H'):tX H' v d:=by
 cases x with
 | say e=>exact .say (k _ _ e)
 | set e=>exact .set (k _ _ e)
 | add e=>exact .add (k _ _ e)
 | send e=>exact .send (k _ _ e)
noncomputable def Dd.upd(sz bx:List Int):Dd->List Int
 | .set b n=>bx.set b.toNat n
 | .add b n=>bx.set b.toNat ((at0 bx b+n) % at0 sz b)
 | _=>bx
noncomputable def Dd.box:Dd->Option Int
 | .set b _=>some b
 | .add b _=>some b
 | _=>none
def Dd.ok(nb:Nat)(d:Dd):Prop:=∀ b,d.box=some b->0<=b/\b < (nb:Int)
theorem Dd.Jo(sz bx:List Int)(d:Dd):(d.upd sz bx).length=bx.length:=by
 cases d <;> simp [Dd.upd]
theorem Vw(h0:0<=b)(h1:b < (xs.length:Int)):at0 xs b∈xs:=by
 unfold at0
 have hk:b.toNat < xs.length:=by lia
 rw[v7,dX hk];exact ig hk
inductive zc(vs:List V)(H:Hp)(Q:VK)(E_:XK):Prop
 | mk (vd tb ts d bx sz) (_:vs=[vd,.ref tb,.ref ts]) (_:tX H vd d) (_:H tb=some (.tup (bx.map V.int))) (_:H ts=some (.tup (sz.map V.int))) (_:d.ok bx.length) (_:bx.length=sz.length) (_:bx.length<=6) (_:(∀ z∈sz,0 < z)) (_:∀ t H',aG H H'->H' t=some (.tup ((d.upd sz bx).map V.int))->Q (.ref t) H')
end Dl
namespace O5
open PySem L2 ou
abbrev LA:=Hp->Addr->List Addr->Nat->List Int->Prop
structure qE9(C:Addr)(L:LA):Prop where
 keep:∀ {H H':Hp} {p:Addr} {fp:List Addr} {m:Nat} {l:List Int},L H p fp m l->(∀ b∈fp,∀ o,H b=some o->H' b=some o)->L H' p fp m l
 there:∀ {H:Hp} {p:Addr} {fp:List Addr} {m:Nat} {l:List Int},L H p fp m l->∀ b∈fp,H b ≠ none
 obj:∀ {H:Hp} {p:Addr} {fp:List Addr} {m:Nat} {l:List Int},L H p fp m l->∃ dx fs,H p=some (.ins C dx fs)/\fs.lookup ("add" : Str)=none/\fs.lookup ("taken" : Str)=none/\fs.lookup ("waiting" : Str)=none
structure bM(H H':Hp)(fp fp':List Addr):Prop where
 own:∀ b∈fp',b∈fp ∨ H b=none
 rest:∀ b o,H b=some o->b ∉ fp->H' b=some o
noncomputable def added(m:Nat)(l:List Int)(e:Int):List Int:=if l.length < m then l++[e] else l
theorem O4(h:l.length<=m):(added m l e).length<=m:=by
 unfold added
 split
 ·rw[dN,iG];lia
 ·exact h
noncomputable def first:List Int->V
 | []=>.non
 | e :: _=>.int e
inductive Hl(C:Addr)(L:LA)(vs:List V)(H:Hp)(Q:VK)(E_:XK):Prop
 | mk (p dx:Addr) (m:Nat) (_:vs=[.ref p,.int (m:Int)]) (_:H p=some (.ins C dx [])) (_:m<=12) (_:∀(fp:List Addr)(H':Hp),L H' p fp m []->(∀ b∈fp,b=p ∨ H b=none)->(∀ b o,H b=some o->b ≠ p->H' b=some o)->Q .non H')
inductive WX(L:LA)(vs:List V)(H:Hp)(Q:VK)(E_:XK):Prop
 | mk (p fp m l e) (_:vs=[.ref p,.int e]) (_:L H p fp m l) (_:l.length<=m) (_:m<=12) (_:∀ fp' H',L H' p fp' m (added m l e)->bM H H' fp fp'->Q (.bl (decide (l.length < m))) H')
inductive Ju(L:LA)(vs:List V)(H:Hp)(Q:VK)(E_:XK):Prop
 | mk (p fp m l) (_:vs=[.ref p]) (_:L H p fp m l) (_:l.length<=m) (_:m<=12) (_:∀ fp' H',L H' p fp' m l.tail->bM H H' fp fp'->Q (first l) H')
inductive yx(L:LA)(vs:List V)(H:Hp)(Q:VK)(E_:XK):Prop
 | mk (p fp m l) (_:vs=[.ref p]) (_:L H p fp m l) (_:l.length<=m) (_:m<=12) (_:∀ q fp' H',L H' p fp' m l->bM H H' fp fp'->H q=none->q ∉ fp'->H' q=some (.lst (l.map V.int))->Q (.ref q) H')
end O5
namespace Dl
open PySem L2 ou O5
inductive Rc where
 | say (w:Str)
 | put (b v:Int)
 | send (e:Int)
 | lost (e:Int)
noncomputable def Rc.row:Rc->List V
 | .say w=>[.str "say",.str w]
 | .put b v=>[.str "put",.int b,.int v]
 | .send e=>[.str "send",.int e]
 | .lost e=>[.str "lost",.int e]
inductive jH(H:Hp):List V->List Rc->Prop where
 | nil:jH H [] []
 | cons {a:Addr} {r:Rc} {vs:List V} {rs:List Rc}:H a=some (.tup r.row)->jH H vs rs->jH H (.ref a :: vs) (r :: rs)
theorem jH.mono(x:jH H vs rs)(k:aA H H'):jH H' vs rs:=by
 induction x with
 | nil=>exact .nil
 | cons h _ ih=>exact .cons (k _ _ h) ih
theorem jH.length(x:jH H vs rs):vs.length=rs.length:=by
 induction x with
 | nil=>rfl
 | cons _ _ ih=>rw[eO,eO,ih]
theorem jH.snoc(x:jH H vs rs)(y:H a=some (.tup r.row)):jH H (vs++[.ref a]) (rs++[r]):=by
 induction x with
 | nil=>exact .cons y .nil
 | cons h _ ih=>exact .cons h ih
inductive iK(H:Hp):List V->List Dd->Prop where
 | nil:iK H [] []
 | cons {v:V} {d:Dd} {vs:List V} {ds:List Dd}:tX H v d->iK H vs ds->iK H (v :: vs) (d :: ds)
theorem iK.mono(x:iK H vs ds)(k:aA H H'):iK H' vs ds:=by
 induction x with
 | nil=>exact .nil
 | cons h _ ih=>exact .cons (h.mono k) ih
theorem iK.length(x:iK H vs ds):vs.length=ds.length:=by
 induction x with
 | nil=>rfl
 | cons _ _ ih=>rw[eO,eO,ih]
theorem iK.snoc(x:iK H vs ds)(y:tX H v d):iK H (vs++[v]) (ds++[d]):=by
 induction x with
 | nil=>exact .cons y .nil
 | cons h _ ih=>exact .cons h ih
theorem iK.get(x:iK H vs ds):∀ {k:Nat} {v:V},vs[k]? = some v->∃ d,ds[k]? = some d/\tX H v d:=by
 induction x with
 | nil=>intro k v h;simp at h
 | cons h _ ih=>
  intro k v e
  cases k with
  | zero=>
   simp at e;subst e;exact⟨_,rfl,h⟩
  | succ k=>exact ih (by simpa using e)
noncomputable def Dd.Zt(m:Nat)(l:List Int):Dd->List Int
 | .send e=>added m l e
 | _=>l
noncomputable def Dd.rc(sz:List Int)(m:Nat)(bx l:List Int):Dd->Rc
 | .say w=>.say w
 | .set b n=>.put b (at0 ((Dd.set b n).upd sz bx) b)
 | .add b n=>.put b (at0 ((Dd.add b n).upd sz bx) b)
 | .send e=>if l.length < m then .send e else .lost e
noncomputable def vm(sz:List Int):List Dd->List Int->List Int
 | [],bx=>bx
 | d :: ds,bx=>vm sz ds (d.upd sz bx)
noncomputable def xx(m:Nat):List Dd->List Int->List Int
 | [],l=>l
 | d :: ds,l=>xx m ds (d.Zt m l)
noncomputable def uR(sz:List Int)(m:Nat):List Dd->List Int->List Int->List Rc
 | [],_,_=>[]
 | d :: ds,bx,l=>d.rc sz m bx l :: uR sz m ds (d.upd sz bx) (d.Zt m l)
theorem zq(sz:List Int)(d:Dd):∀ ds bx,vm sz (ds++[d]) bx=d.upd sz (vm sz ds bx)
 | [],bx=>rfl
 | x :: ds,bx=>zq sz d ds _
theorem zp(m:Nat)(d:Dd):∀ ds l,xx m (ds++[d]) l=d.Zt m (xx m ds l)
 | [],l=>rfl
 | x :: ds,l=>zp m d ds _
theorem zm(sz:List Int)(m:Nat)(d:Dd):∀ ds bx l,uR sz m (ds++[d]) bx l=uR sz m ds bx l++[d.rc sz m (vm sz ds bx) (xx m ds l)]
 | [],bx,l=>rfl
 | x :: ds,bx,l=>by
  show _ :: uR sz m (ds++[d]) _ _=_ :: (uR sz m ds _ _++_);rw[zm sz m d ds];rfl
theorem vh(sz:List Int):∀ ds bx,(vm sz ds bx).length=bx.length
 | [],bx=>rfl
 | d :: ds,bx=>by
  show (vm sz ds (d.upd sz bx)).length=_;rw[vh sz ds,d.Jo]
theorem vf:∀ ds l,l.length<=m->(xx m ds l).length<=m
 | [],l,h=>h
 | d :: ds,l,h=>by
  refine vf ds _ ?_
  cases d with
  | send e=>exact O4 h
  | _=>exact h
theorem qi(sz:List Int)(m:Nat):∀ ds bx l,(uR sz m ds bx l).length=ds.length
 | [],_,_=>rfl
 | d :: ds,bx,l=>by
  show (uR sz m ds _ _).length+1=ds.length+1;rw[qi sz m ds]
noncomputable def xN(fp:List Addr)(H:Hp):Hp:=fun b=>if b∈fp then none else H b
theorem oZ(h:xN fp H b=some o):H b=some o/\b ∉ fp:=by
 unfold xN at h
 split at h
 ·cases h
 ·exact⟨h,by assumption⟩
theorem rM(h:H b=some o)(n:b ∉ fp):xN fp H b=some o:=by
 unfold xN;rw[if_neg n];exact h
theorem Ld(h:b∈fp):xN fp H b=none:=by
 unfold xN;rw[if_pos h]
inductive PX(L:LA)(vs:List V)(H:Hp)(Q:VK)(E_:XK):Prop
 | mk (td tb ts p ds bx sz l dv fp m G) (_:vs=[.ref td,.ref tb,.ref ts,.ref p]) (_:aG G H) (_:(∀ b∈fp,G b=none)) (_:G td=some (.tup dv)) (_:iK G dv ds) (_:G tb=some (.tup (bx.map V.int))) (_:G ts=some (.tup (sz.map V.int))) (_:L H p fp m l) (_:(∀ d∈ds,d.ok bx.length)) (_:ds.length<=8) (_:bx.length=sz.length) (_:bx.length<=6) (_:(∀ z∈sz,0 < z)) (_:l.length<=m) (_:m<=12) (_:∀ t tb' pr rv fp' H',L H' p fp' m (xx m ds l)->bM H H' fp fp'->H' t=some (.tup [.ref tb',.ref pr])->H' tb'=some (.tup ((vm sz ds bx).map V.int))->tb' ∉ fp'->H' pr=some (.lst rv)->H pr=none->jH H' rv (uR sz m ds bx l)->Q (.ref t) H')
end Dl
namespace L2
open PySem
section
theorem qBA(ha:PE X (.UnaryOp o e p) te)(hr:PA X es t):PA X (.UnaryOp o e p :: es) (Jr te t):=zA ha hr rfl
theorem qF3(ha:PE X (.BinOp a o b p) te)(hr:PA X es t):PA X (.BinOp a o b p :: es) (Jr te t):=zA ha hr rfl
end
end L2
namespace L2
open PySem PySem.Spec PyProof.Rows
section
noncomputable def qAK(p p':Int->Int->Bool)(ta tb tc:TE):TE:=fun σ H Q=>ta σ H fun x H1=>tb σ H1 fun y H2 => ∃ i j k,x = .int i/\y = .int j/\tc σ H2 (fun z H3=>z = .int k/\H3=H2)/\Q (.bl (p i j && p' j k)) H2
theorem YF(ho:jQ X (compareOp op) (M5 fun i j=>.bl (p i j)))(ho':jQ X (compareOp op') (M5 fun i j=>.bl (p' i j)))(ha:PE X a ta)(hb:PE X b tb)(hc:PE X c tc)
  (hm:lastMarks [op,op'] [b,c]=false:=by with_unfolding_all rfl):PE X (.Compare a [op,op'] [b,c] pos) (qAK p p' ta tb tc):=by
 intro pins s σ H Q I h;refine Compare_chain (bA (ha pins s σ H _ I h) fun v s1 ⟨x,H1,I1,r1,q1⟩=>chain_link (bA (hb pins s1 σ H1 _ I1 q1) fun u s2 ⟨y,H2,I2,r2,q2⟩=>?_)) hm;obtain⟨i,j,k,rfl,rfl,tq,q⟩:=q2;refine bA (ho pins s2 σ H2 _ _ v u (fun z H3=>z = .bl (p i j)/\H3=H2) I2 r1 r2 ⟨i,j,rfl,rfl,rfl,rfl⟩) fun d s3 ⟨z,H3,I3,r3,e1,e2⟩=>?_;subst e1 e2
 cases r3
 refine wpAny_truthy_bool ?_
 cases e:p i j with
 | false=>
  rw[e,Bool.false_and]at q;exact ite_ff ⟨.bl false,_,I3,rfl,q⟩
 | true=>
  rw[e,Bool.true_and]at q
  exact ite_tt (chain_last (bA (hc pins s3 σ _ _ I3 tq) fun w' s4 ⟨z',H4,I4,r4,e3,e4⟩=>by
   subst e3 e4
   exact ho' pins s4 σ _ _ _ u w' Q I4 r2 r4 ⟨j,k,rfl,rfl,q⟩))
theorem IV(ho:jQ X (compareOp op) (M5 fun i j=>.bl (p i j)))(ho':jQ X (compareOp op') (M5 fun i j=>.bl (p' i j)))(ha:PE X a ta)(hb:PE X b tb)(hc:PE X c tc)
  (hm:lastMarks [op,op'] [b,c]=false:=by with_unfolding_all rfl):PT X (.Compare a [op,op'] [b,c] pos) (WL (qAK p p' ta tb tc)):=by
 intro pins s σ H Q I h;refine isTrue_chain (bA (ha pins s σ H _ I h) fun v s1 ⟨x,H1,I1,r1,q1⟩=>test_link (bA (hb pins s1 σ H1 _ I1 q1) fun u s2 ⟨y,H2,I2,r2,q2⟩=>?_)) hm;obtain⟨i,j,k,rfl,rfl,tq,kk,ek,q⟩:=q2
 cases ek
 refine bA (ho pins s2 σ H2 _ _ v u (fun z H3=>z = .bl (p i j)/\H3=H2) I2 r1 r2 ⟨i,j,rfl,rfl,rfl,rfl⟩) fun d s3 ⟨z,H3,I3,r3,e1,e2⟩=>?_;subst e1 e2
 cases r3
 refine wpAny_truthy_bool ?_
 cases e:p i j with
 | false=>
  rw[e,Bool.false_and]at q;exact ite_ff ⟨_,I3,q⟩
 | true=>
  rw[e,Bool.true_and]at q;refine ite_tt (test_last (bA (hc pins s3 σ _ _ I3 tq) fun w' s4 ⟨z',H4,I4,r4,e3,e4⟩=>?_));subst e3 e4;refine bA (ho' pins s4 σ _ _ _ u w' (fun z H5=>z = .bl (p' j k)/\H5=H4) I4 r2 r4 ⟨j,k,rfl,rfl,rfl,rfl⟩) fun d' s5 ⟨z2,H5,I5,r5,e5,e6⟩=>?_;subst e5 e6
  cases r5
  exact wpAny_truthy_bool ⟨_,I5,q⟩
end
theorem jg{c:Bool}{A B:Prop}(h1:c=true->A)(h2:c=false->B):if c=true then A else B:=by
 cases c with
 | true=>
  rw[if_pos rfl];exact h1 rfl
 | false=>
  rw[if_neg pQ];exact h2 rfl
section
end
theorem t7:fillsNumberSlot (.type "tuple") "mul" = pure false:=
 PySem.fillsNumberSlot_seq F.slot_tuple_mul.lookup (by decide +kernel) F.slot_tuple_rmul.lookup (by decide +kernel)
theorem Bw:seqRepeat? (.type "tuple")=pure (some (.builtin "tuple.__mul__")):=by
 unfold seqRepeat?;rw[PySem.seqSlot_of (T := "tuple") (name := "__mul__") (id := "tuple.__mul__") F.slot_tuple_mul.lookup (by decide +kernel),PySem.seqSlot_of (T := "tuple") (name := "__rmul__") (id := "tuple.__rmul__") F.slot_tuple_rmul.lookup (by decide +kernel)];rfl
theorem Hw(a:Int)(t:Tok)(l:Addr)(items:Array Value)(n:Nat)(dd:Option Addr)(sl:Array (Option Value)) :
  Meets (Builtin.«int.__rmul__» ⟨[.int a t,.ref l],[]⟩) (fun _ R s=>s.heap.get? l=some { cls:=.type "tuple",dict:=dd,data:=.seq items n,slots:=sl }/\R (.ok (.ret Value.notImplemented)) s):=
 .of_wp fun prog w A R s h=>by obtain⟨hp,g,d,tk,os⟩:=s;obtain⟨hl,h⟩:=h;wp_walk;exact⟨_,rfl,h⟩
theorem Oq(l:Addr)(items:Array Value)(n:Nat)(dd:Option Addr)(sl:Array (Option Value))(x:Int)(u:Tok)(hx:x=1) :
  Meets (Builtin.«tuple.__mul__» ⟨[.ref l,.int x u],[]⟩) (fun _ R s=>s.heap.get? l=some { cls:=.type "tuple",dict:=dd,data:=.seq items n,slots:=sl }/\R (.ok (.ret (Value.ref l))) { s with heap:=s.heap,toks:=s.toks }):=
 .of_wp fun prog w A R s h=>by
  subst hx;obtain⟨hp,g,d,tk,os⟩:=s;obtain⟨hl,h⟩:=h;have f1:=AutoSeq1.idx_int
  wp_walk using wpAny_loadPart' hl
  exact⟨_,rfl,h⟩
theorem Oo(l:Addr)(items:Array Value)(n:Nat)(dd:Option Addr)(sl:Array (Option Value))(x:Int)(u:Tok)(h2:2<=x)(hc:¬ items.isEmpty=true)(hz:items.size * x<=(sizeLine:Int))(hf:((List.replicate x.toNat items).foldl (· ++ ·) #[]).size<=sizeLine) :
  Meets (Builtin.«tuple.__mul__» ⟨[.ref l,.int x u],[]⟩) (fun _ R s=>s.heap.get? l=some { cls:=.type "tuple",dict:=dd,data:=.seq items n,slots:=sl }/\R (.ok (.ret (Value.ref s.heap.objs.size))) { s with heap:=s.heap.push { cls:=Value.type "tuple",data:=Data.seq ((List.replicate x.toNat items).foldl (· ++ ·) #[]) },toks:=s.toks }):=
 .of_wp fun prog w A R s h=>by
  obtain⟨hp,g,d,tk,os⟩:=s;obtain⟨hl,h⟩:=h;have f1:=AutoSeq1.idx_int
  have hp0:1<=items.size:=by
   refine Nat.pos_of_ne_zero fun z=>hc ?_;rw[Array.isEmpty_iff];exact Array.eq_empty_of_size_eq_zero z
  have hxs:x<=(sizeLine:Int):=by
   have:(1:Int) * x<=items.size * x:=Int.mul_le_mul_of_nonneg_right (by lia) (by lia);lia
  have e1:(sizeLine:Int) < 2 ^ 62:=by decide
  have c1:¬ (decide (x < -(2 ^ 63)) || decide (x ≥ 2 ^ 63))=true:=by
   rw[decide_eq_false (by lia),decide_eq_false (by lia)];decide
  have c2:¬ (items.isEmpty || x == 1)=true:=by
   intro z;rcases Bool.or_eq_true_iff.mp z with z | z
   ·exact hc z
   ·have:=eq_of_beq z;lia
  have c3:¬ (decide (x<=0) || items.isEmpty)=true:=by
   intro z;rcases Bool.or_eq_true_iff.mp z with z | z
   ·have:=of_decide_eq_true z;lia
   ·exact hc z
  have e2:(sizeLine:Int) < (2 ^ 63 - 1) / 8:=by decide
  have c4:¬ ((items.size:Int) * x > (2 ^ 63 - 1) / 8):=by lia
  have c5:¬ Builtin.Tuple.tupleTooMany ((items.size:Int) * x)=true:=by
   unfold Builtin.Tuple.tupleTooMany;intro z;have:=of_decide_eq_true z;lia
  wp_walk using wpAny_loadPart' hl
  refine wpAny_ite_false (decide_eq_false c1) ?_
  wp_walk using wpAny_loadPart' hl
  refine wpAny_ite_false (decide_eq_false c2) ?_
  wp_walk using wpAny_loadPart' hl
  refine wpAny_ite_false (decide_eq_false c3) ?_
  wp_walk using wpAny_loadPart' hl
  refine wpAny_ite_false (decide_eq_false c4) ?_
  wp_walk using wpAny_loadPart' hl
  exact⟨_,rfl,h⟩
section
noncomputable def qB1(K:bj):R2:=fun x y H Q => ∃ a k xs,x = .ref a/\y = .int k/\aJ K H a xs/\xs ≠ []/\1<=k/\xs.length * k<=(sizeLine:Int)/\(k=1->Q (.ref a) H)/\(2<=k->∀ p,H p=none->Q (.ref p) (upd H p (.tup (List.replicate k.toNat xs).flatten)))
theorem Uj:jQ X (binaryOp .Mult) (qB1 X.K):=by
 intro pins s σ H x y v u Q I rx ry h;obtain⟨a,k,xs,rfl,rfl,ha,hne,hk,hz,q1,q2⟩:=h
 cases rx
 obtain⟨t,rfl⟩:=ry;obtain⟨its,r1,p1,_⟩:=I.tuple ha;have hl:=r1.length;have hni:its ≠ []:=fun z=>hne (r1.qw.mp z);obtain⟨⟨cls,dd,data,sl⟩,ho,hc,n,hd⟩:=id p1;simp only at hc hd;subst hc hd
 have f0:∀ m:Nat,List.foldl (fun x1 x2=>x1++x2) #[] (List.replicate m its.toArray)=(List.replicate m its).flatten.toArray:=fun m=>by
  have:=foldl_rep its m [];rw[List.nil_append]at this;exact this
 have hmul:(List.replicate k.toNat xs).flatten.length<=sizeLine:=by
  rw[len_rep]
  have e:((k.toNat * xs.length:Nat):Int)=xs.length * k:=by
   rw[Int.natCast_mul,Int.toNat_of_nonneg (by lia),Int.mul_comm]
  lia
 refine wpAny_binaryOp_repeat_ref (by decide) ⟨_,ho,rfl⟩ (fun s'=>typeIs_int s' k t) t7 F.fills_int_mul F.slot_int_rmul Bw F.slot_int_index.lookup
  (call_meets F.slot_int_rmul (typeIs_int s k t) F.entry_int_rmul (F.args_int_rmul_2 _ _) (Hw k t a its.toArray n dd sl) ⟨ho,rfl,⟨_,ho,rfl⟩,?_⟩)
 by_cases h1:k=1
 ·exact call_meets F.slot_tuple_mul ⟨_,ho,rfl⟩ F.entry_tuple_mul (F.args_tuple_mul_2 _ _) (Oq a its.toArray n dd sl k t h1) ⟨ho,⟨.ref a,H,I,rfl,q1 h1⟩⟩
 ·have h2:2<=k:=by lia
  refine call_meets F.slot_tuple_mul ⟨_,ho,rfl⟩ F.entry_tuple_mul (F.args_tuple_mul_2 _ _) (Oo a its.toArray n dd sl k t h2 (by simpa using hni) (by rw[List.size_toArray,<-hl];exact hz) ?_) ⟨ho,?_⟩
  ·rw[f0,qN,len_rep,<-hl,<-len_rep];exact hmul
  ·rw[f0];refine⟨.ref s.heap.objs.size,_,I.laid (fun b ob q=>ie _ q) (bD _) ?_,rfl,q2 h2 _ (I.hok.fresh (bD _))⟩;exact⟨hmul,_,r1.rep k.toNat,IsTup.new _ _⟩
end
end L2
namespace PySem
structure jG(prog:Program)(w:World)(K:Type) [DecidableEq K] (d:Nat) where
 has:Nat->Heap->K->Value->Prop
 hsh:K->Int
 LC:K->Nat
 one:∀ {i:Nat} {h:Heap} {v:Value} {x y:K},has i h x v->has i h y v->x=y
 stay:∀ {i:Nat} {h h':Heap} {v:Value} {x:K},has i h x v->(∀ a o its n,h.get? a=some o->o.data = .seq its n->h'.get? a=some o)->has i h' x v
 hashed:∀ {i:Nat} {A:Around} {E:Value->Shared->Prop} {s:Shared} {x:K} {v:Value} {Q:Int->Shared->Prop},A.units+d < cLine->has i s.heap x v->Q (hsh x) { s with toks:=s.toks+LC x }->wpAny (model prog w) A (pyHash v) Q E s
 same:∀ {i:Nat} {A:Around} {E:Value->Shared->Prop} {s:Shared} {x y:K} {u v:Value} {Q:Bool->Shared->Prop},A.units+d < cLine->has i s.heap x u->has i s.heap y v->Q (decide (x=y)) s->wpAny (model prog w) A (eqBool u v) Q E s
 still:∀ {i:Nat} {A:Around} {E:Value->Shared->Prop} {s:Shared} {x:K} {v:Value} {Q:Bool->Shared->Prop} (n:Nat),d<=n->has i s.heap x v->Q true s->wpAny (model prog w) A (eqIsQuiet n v) Q E s
noncomputable def jG.leaf{prog:Program}{w:World}{K:Type} [DecidableEq K] (knd:KeyKind prog w K):jG prog w K 0 where
 has:=fun _ _ k v=>knd.is k v=true
 hsh:=knd.hash
 LC:=fun _=>1
 one:=fun hx hy=>knd.inj _ _ _ hx hy
 stay:=fun hx _=>hx
 hashed:=fun _ hx q=>knd.pyHash hx q
 same:=fun _ hx hy q=>knd.eqBool hx hy q
 still:=fun n _ hx q=>by
  rw[eqIsQuiet_byValue n (knd.byValue _ _ hx)];exact wpAny_pure q
noncomputable def jG.two{prog:Program}{w:World}{K L:Type} [DecidableEq K] [DecidableEq L] {d:Nat} (F:jG prog w K d) (G:jG prog w L d):jG prog w (K ⊕ L) d where
 has:=fun i h k v=>match k with
  | .inl x=>i=0/\F.has 0 h x v
  | .inr y=>i ≠ 0/\G.has i h y v
 hsh:=fun k=>match k with
  | .inl x=>F.hsh x
  | .inr y=>G.hsh y
 LC:=fun k=>match k with
  | .inl x=>F.LC x
  | .inr y=>G.LC y
 one:=by
  rintro i h v (x | x) (y | y) ⟨e1,hx⟩ ⟨e2,hy⟩
  ·rw[F.one hx hy]
  ·exact absurd e1 e2
  ·exact absurd e2 e1
  ·rw[G.one hx hy]
 stay:=by
  rintro i h h' v (x | x) ⟨e1,hx⟩ k
  ·exact⟨e1,F.stay hx k⟩
  ·exact⟨e1,G.stay hx k⟩
 hashed:=by
  rintro i A E s (x | x) v Q hu ⟨e1,hx⟩ q
  ·exact F.hashed hu hx q
  ·exact G.hashed hu hx q
 same:=by
  rintro i A E s (x | x) (y | y) u v Q hu ⟨e1,hx⟩ ⟨e2,hy⟩ q
  ·refine F.same hu hx hy ?_;rw[show decide (x=y)=decide ((Sum.inl x:K ⊕ L)=Sum.inl y) from decide_eq_decide.mpr ⟨fun z=>by rw[z],fun z=>Sum.inl.inj z⟩];exact q
  ·exact absurd e1 e2
  ·exact absurd e2 e1
  ·refine G.same hu hx hy ?_;rw[show decide (x=y)=decide ((Sum.inr x:K ⊕ L)=Sum.inr y) from decide_eq_decide.mpr ⟨fun z=>by rw[z],fun z=>Sum.inr.inj z⟩];exact q
 still:=by
  rintro i A E s (x | x) v Q n hn ⟨e1,hx⟩ q
  ·exact F.still n hn hx q
  ·exact G.still n hn hx q
noncomputable def jG.up{prog:Program}{w:World}{K:Type} [DecidableEq K] {d:Nat} (F:jG prog w K d) (e:Nat) (le:d<=e):jG prog w K e where
 has:=F.has
 hsh:=F.hsh
 LC:=F.LC
 one:=F.one
 stay:=F.stay
 hashed:=fun hu hx q=>F.hashed (by lia) hx q
 same:=fun hu hx hy q=>F.same (by lia) hx hy q
 still:=fun n hn hx q=>F.still n (by lia) hx q
section
variable{prog:Program}{w:World}{K:Type} [DecidableEq K] {d:Nat} (F:jG prog w K d)
inductive HJ(h:Heap):Nat->List K->List Value->Prop
 | nil {i:Nat}:HJ h i [] []
 | cons {i:Nat} {k:K} {v:Value} {ks:List K} {vs:List Value}:F.has i h k v->HJ h (i+1) ks vs->HJ h i (k :: ks) (v :: vs)
def yo(h:Heap)(ks:List K)(v:Value):Prop:=∃ a o its n,v = .ref a/\h.get? a=some o/\o.cls = .type "tuple" /\ o.data = .seq its n/\HJ F h 0 ks its.toList
variable {F}
theorem HJ.one(hx:HJ F h i x vs)(hy:HJ F h i y vs):x=y:=by
 induction hx generalizing y with
 | nil=>
  cases hy
  rfl
 | cons a _ ih=>
  cases hy with
  | cons b t=>rw[F.one a b,ih t]
theorem HJ.stay(hx:HJ F h i x vs)(k:∀ a o its n,h.get? a=some o->o.data = .seq its n->h'.get? a=some o):HJ F h' i x vs:=by
 induction hx with
 | nil=>exact .nil
 | cons a _ ih=>exact .cons (F.stay a k) ih
noncomputable def Yz(F:jG prog w K d)(ks:List K):Int:=reduceHash (Builtin.Tuple.tupleHashOf (ks.map F.hsh))
noncomputable def ZK(F:jG prog w K d)(ks:List K):Nat:=(ks.map F.LC).sum+1
theorem VM(hu:A.units+(d+1) < cLine)(hk:yo F s.heap ks v)(h:Q (Yz F ks) { s with toks:=s.toks+ZK F ks }):wpAny (model prog w) A (pyHash v) Q E s:=by
 obtain⟨a,o,its,n,rfl,ho,oc,od,hi⟩:=hk;have ty:s.TypeIs (.ref a) "tuple" := ⟨o,ho,oc⟩;unfold pyHash
 (first | unfold pyHashByItsType | skip)
 (first | refine wpAny_bind (wpAny_cRoomFor_or (.inr (by lia)) ?_) | skip)
 refine wpAny_bind (wpAny_specialOf ty PySem.F.slot_tuple_hash.lookup ?_);rw[if_neg (by rw[beq_builtin_none];simp)];refine wpAny_bind (wpAny_specialOf ty PySem.F.slot_tuple_hash.lookup ?_);refine wpAny_bind (wpAny_callSpecialIfBoundUnlessNone?_slot ty PySem.F.slot_tuple_hash (wpAny_call_entry PySem.F.slot_tuple_hash ty PySem.F.entry_tuple_hash ?_ (PySem.F.args_tuple_hash_1 _)));show wpAny _ _ (Builtin.Tuple.tupleItemsOf (Value.ref a) >>= _) _ _ s;refine wpAny_bind (wpAny_tupleItemsOf ho od (wpAny_bind ?_));rw[<-Array.forIn_toList];refine wpAny_forIn_list _
  (fun rest (b:Array Int) s'=>∃ i dn left,ks=dn++left/\HJ F s.heap i left rest/\b.toList=dn.map F.hsh/\s' = { s with toks:=s.toks+(dn.map F.LC).sum }) _ ?_ ?_ _ _ ⟨0,[],ks,rfl,hi,rfl,rfl⟩
 ·rintro x rest b s' ⟨i,dn,left,rfl,hl,hb,rfl⟩
  cases hl with
  | @cons _ k _ ks' _ h1 hl'=>
   refine wpAny_bind (F.hashed (by show A.units+1+d < cLine;lia) h1 ?_)
   (first
    | exact wpAny_pure ⟨i+1,dn++[k],ks',by simp,hl',by simp [hb],by simp [Nat.add_assoc]⟩
    | exact wpAny_bind (wpAny_pure (wpAny_pure ⟨i+1,dn++[k],ks',by simp,hl',by simp [hb],by simp [Nat.add_assoc]⟩)))
 ·rintro b s' ⟨i,dn,left,rfl,hl,hb,rfl⟩
  cases hl
  rw[fY]at h;show wpAny _ _ (retInt (Builtin.Tuple.tupleHashOf b.toList)) _ _ _;rw[hb];refine wpAny_ret_mkInt ?_;show wpAny _ _ (if (decide (-(2:Int) ^ 63<=Builtin.Tuple.tupleHashOf (dn.map F.hsh)) && decide (Builtin.Tuple.tupleHashOf (dn.map F.hsh) < 2 ^ 63))=true then _ else _) Q E _;unfold Yz reduceHash ZK at h
  by_cases hr:(decide (-(2:Int) ^ 63<=Builtin.Tuple.tupleHashOf (dn.map F.hsh)) && decide (Builtin.Tuple.tupleHashOf (dn.map F.hsh) < 2 ^ 63))=true
  ·rw[if_pos hr]at h ⊢;exact wpAny_pure (by simpa [Nat.add_assoc] using h)
  ·rw[if_neg hr]at h ⊢;exact wpAny_bind (wpAny_rule (wpAny_pure (by simpa [Nat.add_assoc] using h)))
theorem Rj(hu:A.units+d < cLine)(hx:yo F s.heap x (.ref a))(hy:yo F s.heap y (.ref b))(h:P (.done (.ret (.bool (decide (x=y))))) s):wpAny (model prog w) A (Builtin.«tuple.__eq__» ⟨[.ref a,.ref b],[]⟩) P E s:=by
 obtain⟨a',oa,xs,na,ea,hoa,_,hda,hia⟩:=hx;obtain⟨b',ob,ys,nb,eb,hob,hcb,hdb,hib⟩:=hy
 cases ea
 cases eb
 have tb:s.TypeIs (.ref b) "tuple" := ⟨ob,hob,hcb⟩;show wpAny _ _ (isInstance (Value.ref b) (.type "tuple") >>= _) _ _ s;refine wpAny_bind (wpAny_isInstance tb isSubtype_tuple_tuple ?_);simp only[Bool.not_true,Bool.false_eq_true,if_false];refine wpAny_bind (wpAny_tupleItemsOf hoa hda (wpAny_bind (wpAny_tupleItemsOf hob hdb (wpAny_bind ?_))));refine wpAny_forIn_list _
  (fun rest r s'=>r.1=none/\s'=s/\∃ i x' y' xs' ys',rest=List.zip xs' ys'/\HJ F s.heap i x' xs'/\HJ F s.heap i y' ys'/\decide (x'=y')=decide (x=y)/\(xs'.length == ys'.length)=(xs.size == ys.size))
  _ ?_ ?_ _ _ ⟨rfl,rfl,0,x,y,xs.toList,ys.toList,rfl,hia,hib,rfl,by simp⟩
 ·rintro⟨u,v⟩ rest r s' ⟨hr,rfl,i,x',y',xs',ys',hz,hx',hy',hdec,hlen⟩
  cases hx' with
  | nil=>simp at hz
  | @cons _ k1 u' x'' xs'' h1 hx''=>
   cases hy' with
   | nil=>simp at hz
   | @cons _ k2 v' y'' ys'' h2 hy''=>
    simp only[List.zip_cons_cons,List.cons.injEq,Prod.mk.injEq]at hz;obtain⟨⟨rfl,rfl⟩,rfl⟩:=hz;refine wpAny_bind (F.same hu h1 h2 ?_)
    by_cases hk:k1=k2
    ·subst hk;rw[decide_eq_true rfl];simp only[Bool.not_true,Bool.false_eq_true,if_false];refine wpAny_pure ⟨rfl,rfl,i+1,x'',y'',xs'',ys'',rfl,hx'',hy'',?_,by simpa using hlen⟩;rw[<-hdec]
     by_cases hxy:x''=y''
     ·simp [hxy]
     ·simp [hxy]
    ·rw[decide_eq_false hk];simp only[Bool.not_false,if_true]
     have hf:decide (x=y)=false:=by
      rw[<-hdec];simp [hk]
     rw[hf]at h;exact wpAny_bind (wpAny_pure (wpAny_pure (wpAny_pure h)))
 ·rintro⟨r1,r2⟩ s' ⟨hr,rfl,i,x',y',xs',ys',hz,hx',hy',hdec,hlen⟩;simp only at hr;subst hr;refine wpAny_pure ?_
  have fin:(xs.size == ys.size)=decide (x=y):=by
   rw[<-hdec,<-hlen]
   cases hx' with
   | nil=>
    cases hy' with
    | nil=>simp
    | cons _ _=>simp
   | cons _ _=>
    cases hy' with
    | nil=>simp
    | cons _ _=>simp at hz
  show P (.done (.ret (.bool (xs.size == ys.size)))) s';rw[fin];exact h
theorem qAR(hu:A.units+(d+1) < cLine)(hx:yo F s.heap x u)(hy:yo F s.heap y v)(h:Q (decide (x=y)) s):wpAny (model prog w) A (eqBool u v) Q E s:=by
 obtain⟨a,oa,xs,na,rfl,hoa,hca,hda,hia⟩:=id hx;obtain⟨b,ob,ys,nb,rfl,hob,hcb,hdb,hib⟩:=id hy;have ta:s.TypeIs (.ref a) "tuple" := ⟨oa,hoa,hca⟩;have tb:s.TypeIs (.ref b) "tuple" := ⟨ob,hob,hcb⟩;unfold eqBool
 (try with_reducible refine wpAny_holding ?_)
 by_cases hab:(Value.ref a == Value.ref b)=true
 ·rw[if_pos hab]
  have e:a=b:=by
   have:=eq_of_beq hab;injection this
  subst e;rw[hoa]at hob
  cases hob
  rw[hda]at hdb
  cases hdb
  obtain rfl:=hia.one hib;exact wpAny_bind (wpAny_rule (wpAny_pure (by simpa using h)))
 ·rw[if_neg hab]
  exact wpAny_bind (wpAny_richCompare_same_room ta tb PySem.F.slot_tuple_eq
   (wpAny_call_entry PySem.F.slot_tuple_eq ta PySem.F.entry_tuple_eq (Rj (by show A.units+1+d < cLine;lia) hx hy ⟨_,rfl,(fun e=>nomatch e),wpAny_truthy_bool h⟩) (PySem.F.args_tuple_eq_2 _ _)) (by lia))
theorem Xm(n:Nat)(hn:d+1<=n)(hk:yo F s.heap ks v)(h:Q true s):wpAny (model prog w) A (eqIsQuiet n v) Q E s:=by
 obtain⟨a,o,its,m,rfl,ho,hc,hd,hi⟩:=hk;have ty:s.TypeIs (.ref a) "tuple" := ⟨o,ho,hc⟩;obtain⟨n,rfl⟩:∃ k,n=k+1:=⟨n - 1,by lia⟩;unfold eqIsQuiet;refine wpAny_bind (wpAny_specialOf ty PySem.F.slot_tuple_eq.lookup ?_);refine wpAny_bind (wpAny_isInstance ty isSubtype_tuple_tuple ?_);simp only[Bool.not_true,Bool.false_eq_true,if_false];refine wpAny_bind (wpAny_seqItems ho hd (wpAny_bind ?_));rw[<-Array.forIn_toList];refine wpAny_forIn_list _ (fun rest r s'=>r.1=none/\s'=s/\∃ i left,HJ F s.heap i left rest) _ ?_ ?_ _ _ ⟨rfl,rfl,0,ks,hi⟩
 ·rintro v rest r s' ⟨hr,rfl,i,left,hl⟩
  cases hl with
  | @cons _ k _ ks' _ h1 hl'=>
   refine wpAny_bind (F.still n (by lia) h1 ?_);simp only[Bool.not_true,Bool.false_eq_true,if_false];exact wpAny_pure ⟨rfl,rfl,i+1,ks',hl'⟩
 ·rintro⟨r1,r2⟩ s' ⟨hr,rfl,_⟩;simp only at hr;subst hr;exact wpAny_pure h
theorem yo.one(hx:yo F h x v)(hy:yo F h y v):x=y:=by
 obtain⟨a,o,its,n,rfl,ho,_,hd,hi⟩:=hx;obtain⟨a',o',its',n',e,ho',_,hd',hi'⟩:=hy
 cases e
 rw[ho]at ho'
 cases ho'
 rw[hd]at hd'
 cases hd'
 exact hi.one hi'
noncomputable def jG.tup(F:jG prog w K d):jG prog w (List K) (d+1) where
 has:=fun _ h ks v=>yo F h ks v
 hsh:=Yz F
 LC:=ZK F
 one:=fun hx hy=>hx.one hy
 stay:=fun hx k=>by
  obtain⟨a,o,its,n,e,ho,hc,hd,hi⟩:=hx;exact⟨a,o,its,n,e,k _ _ _ _ ho hd,hc,hd,hi.stay k⟩
 hashed:=fun hu hx q=>VM hu hx q
 same:=fun hu hx hy q=>qAR hu hx hy q
 still:=fun n hn hx q=>Xm n hn hx q
noncomputable def jG.heap(F:jG prog w K d)(le:d<=8):HeapKind prog w K where
 is:=fun h k a=>F.has 0 h k (.ref a)
 hash:=F.hsh
 draws:=F.LC
 room:=fun A=>A.units+d < cLine
 inj:=fun hx hy=>F.one hx hy
 keeps:=fun hx ho hd hs=>F.stay hx fun a o its n ha hs'=>by
  refine (hs.2 a ?_).trans ha;rintro rfl;rw[ha]at ho
  cases ho
  rw[hs']at hd;exact nomatch hd
 pyHash:=fun hu hx q=>F.hashed hu hx q
 eqBool:=fun hu hx hy q=>F.same hu hx hy q
 quiet:=fun hx q=>F.still 8 le hx q
end
end PySem
namespace L2
open PySem PySem.Spec PyProof.Rows
structure cY(K:Type) [DecidableEq K] (d:Nat) where
 inn:Nat->Hp->K->V->Prop
 mono:∀ {i:Nat} {H H':Hp} {k:K} {v:V},inn i H k v->(∀ b xs,H b=some (.tup xs)->H' b=some (.tup xs))->inn i H' k v
 fam:∀ P w,jG P w K d
 ok:∀ {P:Program} {w:World} {H:Hp} {h:Heap} {i:Nat} {k:K} {v:V} {u:Value},iZ P w H h->inn i H k v->RelV v u->(fam P w).has i h k u
noncomputable def cY.leaf:cY Key 0 where
 inn:=fun _ _ k v=>v=kV k
 mono:=fun x _=>x
 fam:=fun P w=>jG.leaf (bc P w)
 ok:=fun _ x r=>by
  subst x;exact GR r
section
variable{K L:Type} [DecidableEq K] [DecidableEq L] {d:Nat}
noncomputable def cY.up(F:cY K d)(e:Nat)(le:d<=e):cY K e where
 inn:=F.inn
 mono:=F.mono
 fam:=fun P w=>(F.fam P w).up e le
 ok:=fun a b c=>F.ok a b c
noncomputable def cY.two(F:cY K d)(G:cY L d):cY (K ⊕ L) d where
 inn:=fun i H k v=>match k with
  | .inl x=>i=0/\F.inn 0 H x v
  | .inr y=>i ≠ 0/\G.inn i H y v
 mono:=by
  rintro i H H' (k | k) v ⟨e,x⟩ h
  ·exact⟨e,F.mono x h⟩
  ·exact⟨e,G.mono x h⟩
 fam:=fun P w=>(F.fam P w).two (G.fam P w)
 ok:=by
  rintro P w H h i (k | k) v u hk ⟨e,x⟩ r
  ·exact⟨e,F.ok hk x r⟩
  ·exact⟨e,G.ok hk x r⟩
inductive uW(F:cY K d)(H:Hp):Nat->List K->List V->Prop
 | nil {i:Nat}:uW F H i [] []
 | cons {i:Nat} {k:K} {v:V} {ks:List K} {vs:List V}:F.inn i H k v->uW F H (i+1) ks vs->uW F H i (k :: ks) (v :: vs)
theorem uW.mono{i:Nat}{ks:List K}{vs:List V}(x:uW F H i ks vs)(h:∀ b xs,H b=some (.tup xs)->H' b=some (.tup xs)):uW F H' i ks vs:=by
 induction x with
 | nil=>exact .nil
 | cons a _ ih=>exact .cons (F.mono a h) ih
theorem uW.ok(hk:iZ P w H h){i:Nat}{ks:List K}{vs:List V}(x:uW F H i ks vs):∀ {us:List Value},Vals vs us->PySem.HJ (F.fam P w) h i ks us:=by
 induction x with
 | nil=>
  intro us r
  cases r
  exact .nil
 | cons a _ ih=>
  intro us r
  cases r with
  | cons r1 r2=>exact .cons (F.ok hk a r1) (ih r2)
noncomputable def cY.tup(F:cY K d):cY (List K) (d+1) where
 inn:=fun _ H ks v => ∃ a vs,v = .ref a/\H a=some (.tup vs)/\uW F H 0 ks vs
 mono:=by
  rintro i H H' k v ⟨a,vs,e,h1,h2⟩ h;exact⟨a,vs,e,h _ _ h1,h2.mono h⟩
 fam:=fun P w=>(F.fam P w).tup
 ok:=by
  rintro P w H h i k v u hk ⟨a,vs,rfl,h1,h2⟩ r
  cases (show u=Value.ref a from r)
  obtain⟨_,its,rv,o,g1,g2,n,g3⟩:=(show bK P w H h a (.tup vs) from hk a _ h1);exact⟨a,o,its.toArray,n,rfl,g1,g2,g3,by simpa using h2.ok hk rv⟩
def X3(P:Program)(w:World)(F:cY K d)(le:d<=8)(a:Addr)(xs:List (K × Addr × V))(h:Heap):Prop:=
 xs.length<=sizeLine/\(a == sysModules)=false/\∃ ys:List (K × Addr × Value),Paired (fun p q=>p.1=q.1/\p.2.1=q.2.1/\RelV p.2.2 q.2.2) xs ys ∧
  ∃ o es ep,h.get? a=some o/\o.ExactDict/\o.data = .dict es ep/\es.toList=ys.map (entryOfKey ((F.fam P w).heap le))/\(ys.map (·.1)).Nodup
def DN(P:Program)(w:World)(F:cY K d)(le:d<=8)(H:Hp)(a:Addr)(kvs:List (K × V)):Prop:=
 ∃ xs:List (K × Addr × V),kvs=xs.map (fun x=>(x.1,x.2.2))/\H a=some (.ext (X3 P w F le a xs))/\∀ x∈xs,F.inn 0 H x.1 (.ref x.2.1)
theorem DN.mono{H H':Hp}{a:Addr}{kvs:List (K × V)}(x:DN P w F le H a kvs)(h:∀ b xs,H b=some (.tup xs)->H' b=some (.tup xs))(e:H' a=H a):DN P w F le H' a kvs:=by
 obtain⟨xs,h1,h2,h3⟩:=x;exact⟨xs,h1,by rw[e];exact h2,fun y hy=>F.mono (h3 y hy) h⟩
abbrev W3(p:K × Addr × V)(q:K × Addr × Value):Prop:=p.1=q.1/\p.2.1=q.2.1/\RelV p.2.2 q.2.2
theorem wA(r:Paired W3 xs ys)(k:K):(dD (xs.map fun x=>(x.1,x.2.2)) k=none/\atKey ys k=none) ∨ ∃ v p,dD (xs.map fun x=>(x.1,x.2.2)) k=some v/\atKey ys k=some p/\RelV v p.2:=by
 induction r with
 | nil=>exact .inl ⟨rfl,rfl⟩
 | @cons p q ps qs h _ ih=>
  obtain⟨e1,e2,e3⟩:=h
  by_cases e:p.1=k
  ·refine .inr ⟨p.2.2,q.2,c7 e,?_,e3⟩;unfold atKey;rw[List.find?_cons,show decide (q.1=k)=true from decide_eq_true (by rw[<-e1];exact e)];rfl
  ·have e':atKey (q :: qs) k=atKey qs k:=by
    unfold atKey;rw[List.find?_cons,show decide (q.1=k)=false from decide_eq_false (by rw[<-e1];exact e)]
   rw[List.map_cons,cA e,e'];exact ih
theorem DN.at(x:DN P w F le H a kvs)(hk:iZ P w H h) :
  ∃(xs:List (K × Addr × V))(ys:List (K × Addr × Value)),kvs=xs.map (fun x=>(x.1,x.2.2))/\H a=some (.ext (X3 P w F le a xs))/\(∀ x∈xs,F.inn 0 H x.1 (.ref x.2.1))/\xs.length<=sizeLine/\(a == sysModules)=false/\Paired W3 xs ys/\h.DictOfH ((F.fam P w).heap le) a ys:=by
 obtain⟨xs,h1,h2,h3⟩:=x;obtain⟨⟨z,y,ys,r,o,es,ep,g1,g2,g3,g4,g5⟩,_⟩:=(hk a _ h2);refine⟨xs,ys,h1,h2,h3,z,y,r,o,es,ep,g1,g2,g3,g4,?_,g5⟩
 have all:∀ {l:List (K × Addr × V)} {m:List (K × Addr × Value)},Paired W3 l m->(∀ x∈l,F.inn 0 H x.1 (.ref x.2.1))->∀ x∈m,((F.fam P w).heap le).is h x.1 x.2.1:=by
  intro l m q
  induction q with
  | nil=>intro _ x hx;exact nomatch hx
  | @cons p q ps qs hq t ih=>
   intro hl x hx;rcases bU.mp hx with e | hx
   ·subst e;have:=F.ok hk (hl p Ed) rfl;rw[hq.1,hq.2.1]at this;exact this
   ·exact ih (fun y hy=>hl y (HN _ hy)) x hx
 exact all r h3
theorem Rt{le:d<=8}{a:Addr}{xs:List (K × Addr × V)}:∀ h1 h2:Heap,X3 P w F le a xs h1->(∀ o,h1.get? a=some o->h2.get? a=some o)->X3 P w F le a xs h2:=by
 rintro h1 h2 ⟨z,y,ys,r,o,es,ep,g1,g⟩ k;exact⟨z,y,ys,r,o,es,ep,k _ g1,g⟩
theorem Rr{a:Addr}{xs:List (K × Addr × V)}{ys:List (K × Addr × Value)}(z:xs.length<=sizeLine)(y:(a == sysModules)=false)(r:Paired W3 xs ys)(dd:h.DictOfH ((F.fam P w).heap le) a ys):bK P w H h a (.ext (X3 P w F le a xs)):=by
 obtain⟨o,es,ep,g1,g2,g3,g4,_,g5⟩:=dd;exact⟨⟨z,y,ys,r,o,es,ep,g1,g2,g3,g4,g5⟩,⟨o,g1⟩,Rt⟩
end
section
variable{X:Cx}{K:Type} [DecidableEq K] {d:Nat} {F:cY K d} {le:d<=8}
noncomputable def qAB(P:Program)(w:World)(F:cY K d)(le:d<=8):TE:=fun _ H Q => ∀ p H',H p=none->H'=upd H p (.ext (X3 P w F le p []))->DN P w F le H' p []->Q (.ref p) H'
theorem Ud{pos:Pos}(F:cY K d)(le:d<=8):PE X (.Dict [] [] pos) (qAB X.prog X.w F le):=fun pins s σ H Q I h=>
 wpAny_Dict_empty ⟨.ref s.heap.objs.size,_,I.laid (fun _ _ q=>ie _ q) (bD _) (Rr (Nat.zero_le _) (beq_eq_false_iff_ne.mpr (Ne.symm (lC I.big))) .nil (Heap.DictOfH.new s.heap)),rfl,h _ _ (I.hok.fresh (bD _)) rfl ⟨[],rfl,zC,fun x hx=>by cases hx⟩⟩
noncomputable def qAC(P:Program)(w:World)(F:cY K d)(le:d<=8)(td ty:TE):TE:=fun σ H Q=>td σ H fun x H1=>ty σ H1 fun y H2 => ∃ a b kvs k v,x = .ref a/\y = .ref b/\DN P w F le H2 a kvs/\F.inn 0 H2 k (.ref b)/\dD kvs k=some v/\Q v H2
theorem Ue(hu:X.A.units+64 < cLine)(F:cY K d)(le:d<=8)(ho:PE X o td)(hi:PE X i ty)(hs:ZS i):PE X (.Subscript o i pos) (qAC X.prog X.w F le td ty):=by
 intro pins s σ H Q I h;refine Js PySem.F.slot_dict_getitem.lookup hs (bA (ho pins s σ H _ I h) fun u s1 ⟨x,H1,I1,rx,q1⟩=>bA (hi pins s1 σ H1 _ I1 q1) fun iv s2 ⟨y,H2,I2,ry,a,b,kvs,k,v,ex,ey,D,hk,l,q2⟩=>?_);subst ex;subst ey;obtain rfl:u=Value.ref a:=rx;obtain rfl:iv=Value.ref b:=ry;obtain⟨xs,ys,e1,e2,e3,z,hd,r,dd⟩:=D.at I2.hok;rcases wA r k with ⟨h1,_⟩ | ⟨v',p,h1,h2,h3⟩
 ·rw[e1,h1]at l
  cases l
 ·rw[e1,h1]at l
  cases l
  exact⟨dd.typeIs,wpAny_getItem_heap (show X.A.units+1+d < cLine by lia) (F.ok I2.hok hk rfl) dd h2 ⟨_,H2,I2.tok _,h3,q2⟩⟩
end
section
variable{prog:Program}{w:World}{K:Type} [DecidableEq K] {knd:HeapKind prog w K} {A:Around} {E:Value->Shared->Prop} {s:Shared}
end
section
variable{X:Cx}{K:Type} [DecidableEq K] {d:Nat}
end
end L2
namespace PySem
noncomputable def jG.sw{prog:Program}{w:World}{K L:Type} [DecidableEq K] [DecidableEq L] {d:Nat} (p:Nat->Bool) (F:jG prog w K d) (G:jG prog w L d):jG prog w (K ⊕ L) d where
 has:=fun i h k v=>match k with
  | .inl x=>p i=true/\F.has i h x v
  | .inr y=>p i=false/\G.has i h y v
 hsh:=fun k=>match k with
  | .inl x=>F.hsh x
  | .inr y=>G.hsh y
 LC:=fun k=>match k with
  | .inl x=>F.LC x
  | .inr y=>G.LC y
 one:=by
  rintro i h v (x | x) (y | y) ⟨e1,hx⟩ ⟨e2,hy⟩
  ·rw[F.one hx hy]
  ·rw[e1]at e2;cases e2
  ·rw[e1]at e2;cases e2
  ·rw[G.one hx hy]
 stay:=by
  rintro i h h' v (x | x) ⟨e1,hx⟩ k
  ·exact⟨e1,F.stay hx k⟩
  ·exact⟨e1,G.stay hx k⟩
 hashed:=by
  rintro i A E s (x | x) v Q hu ⟨e1,hx⟩ q
  ·exact F.hashed hu hx q
  ·exact G.hashed hu hx q
 same:=by
  rintro i A E s (x | x) (y | y) u v Q hu ⟨e1,hx⟩ ⟨e2,hy⟩ q
  ·refine F.same hu hx hy ?_;rw[show decide (x=y)=decide ((Sum.inl x:K ⊕ L)=Sum.inl y) from decide_eq_decide.mpr ⟨fun z=>by rw[z],fun z=>Sum.inl.inj z⟩];exact q
  ·rw[e1]at e2;cases e2
  ·rw[e1]at e2;cases e2
  ·refine G.same hu hx hy ?_;rw[show decide (x=y)=decide ((Sum.inr x:K ⊕ L)=Sum.inr y) from decide_eq_decide.mpr ⟨fun z=>by rw[z],fun z=>Sum.inr.inj z⟩];exact q
 still:=by
  rintro i A E s (x | x) v Q n hn ⟨e1,hx⟩ q
  ·exact F.still n hn hx q
  ·exact G.still n hn hx q
end PySem
namespace L2
open PySem PySem.Spec PyProof.Rows
section
variable{K L:Type} [DecidableEq K] [DecidableEq L] {d:Nat}
noncomputable def cY.sw(p:Nat->Bool)(F:cY K d)(G:cY L d):cY (K ⊕ L) d where
 inn:=fun i H k v=>match k with
  | .inl x=>p i=true/\F.inn i H x v
  | .inr y=>p i=false/\G.inn i H y v
 mono:=by
  rintro i H H' (k | k) v ⟨e,x⟩ h
  ·exact⟨e,F.mono x h⟩
  ·exact⟨e,G.mono x h⟩
 fam:=fun P w=>(F.fam P w).sw p (G.fam P w)
 ok:=by
  rintro P w H h i (k | k) v u hk ⟨e,x⟩ r
  ·exact⟨e,F.ok hk x r⟩
  ·exact⟨e,G.ok hk x r⟩
end
section
variable{X:Cx}{K:Type} [DecidableEq K] {d:Nat}
noncomputable def qEK(P:Program)(w:World)(F:cY K d)(le:d<=8)(ty td:TE):TE:=fun σ H Q=>ty σ H fun y H1=>td σ H1 fun x H2 => ∃ a b kvs k,x = .ref a/\y = .ref b/\DN P w F le H2 a kvs/\F.inn 0 H2 k (.ref b)/\Q (.bl (dD kvs k).isSome) H2
theorem YH(hu:X.A.units+64 < cLine)(F:cY K d)(le:d<=8)(hi:PE X i ty)(ho:PE X o td):PC X .In i o (qEK X.prog X.w F le ty td):=by
 intro pins s σ H Q I h;refine bA (hi pins s σ H _ I h) fun iv s1 ⟨y,H1,I1,ry,q1⟩=>bA (ho pins s1 σ H1 _ I1 q1) fun u s2 ⟨x,H2,I2,rx,a,b,kvs,k,ex,ey,D,hk,q2⟩=>?_;subst ex ey;obtain rfl:u=Value.ref a:=rx;obtain rfl:iv=Value.ref b:=ry;obtain⟨xs,ys,e1,e2,e3,z,hd,r,dd⟩:=D.at I2.hok;refine wpAny_in_heap (show X.A.units+1+d < cLine by lia) (F.ok I2.hok hk rfl) hd dd ⟨.bl (dD kvs k).isSome,H2,I2.tok _,?_,q2⟩;rcases wA r k with ⟨h1,h2⟩ | ⟨v',p,h1,h2,h3⟩
 ·rw[h2,e1,h1];rfl
 ·rw[h2,e1,h1];rfl
noncomputable def qAU(P:Program)(w:World)(F:cY K d)(le:d<=8)(td ty tv:TE):TS:=fun D σ H=>tv σ H fun v H1=>td σ H1 fun x H2=>ty σ H2 fun y H3 => ∃ a b kvs k,x = .ref a/\y = .ref b/\DN P w F le H3 a kvs/\F.inn 0 H3 k (.ref b) ∧
 kvs.length < sizeLine/\dD kvs k=none/\∀ o,(∃ φ,o=HO.ext φ)->DN P w F le (upd H3 a o) a (kvs++[(k,v)])->D.nx σ (upd H3 a o)
theorem storedH_new{k:K}{a:Addr}{v:Value}(h:atKey xs k=none):storedH xs k a v=xs++[(k,a,v)]:=by
 unfold storedH;rw[h];exact if_neg (by decide)
theorem UJ(hu:X.A.units+64 < cLine)(F:cY K d)(le:d<=8)(ho:PE X o td)(hi:PE X i ty)(hv:PE X value tv)(hs:swapsWith value (some (.Subscript o i pos')) pos.line X.env=pure false) :
  PS X (.Assign [.Subscript o i pos'] value pos) (qAU X.prog X.w F le td ty tv):=by
 intro pins s σ H D I h;refine wpAny_Assign_Subscript (bA (hv pins s σ H _ I h) fun r s1 ⟨v,H1,I1,rv,q1⟩=>bA (ho pins s1 σ H1 _ I1 q1) fun u s2 ⟨x,H2,I2,rx,q2⟩=>bA (hi pins s2 σ H2 _ I2 q2) fun iv s3 ⟨y,H3,I3,ry,a,b,kvs,k,ex,ey,dn,hk,hl,hn,q3⟩=>?_) hs;subst ex ey;obtain rfl:u=Value.ref a:=rx;obtain rfl:iv=Value.ref b:=ry;obtain⟨xs,ys,e1,e2,e3,z,hd,rr,dd⟩:=dn.at I3.hok;have lr:=rr.length
 have lk:kvs.length=xs.length:=by rw[e1,bZ]
 have hy:atKey ys k=none:=by
  rcases wA rr k with ⟨_,h2⟩ | ⟨v',p',h1,h2,h3⟩
  ·exact h2
  ·rw[<-e1,hn]at h1
   cases h1
 refine wpAny_setItem_heap (show X.A.units+1+d < cLine by lia) (F.ok I3.hok hk rfl) dd fun h' X6 hs'=>?_;rw[storedH_new hy]at X6
 have hq:∃ q,h'.get? a=some q:=by
  obtain⟨q,_,_,g,_⟩:=X6;exact⟨q,g⟩
 have I4:Inv X pins σ (upd H3 a (.ext (X3 X.prog X.w F le a (xs++[(k,b,v)])))) { s3 with heap:=h',toks:=s3.toks+((F.fam X.prog X.w).heap le).draws k }:=
  DY I3 (by rw[e2];exact True.intro) hs' hq (Rr (by rw[dN,iG];lia) hd (rr.snoc ⟨rfl,rfl,rv⟩) X6)
 have kt:∀ c zs,H3 c=some (.tup zs)->upd H3 a (.ext (X3 X.prog X.w F le a (xs++[(k,b,v)]))) c=some (.tup zs):=fun c zs g=>by
  rw[zQ (fH g e2 (fun z=>by cases z))];exact g
 refine⟨σ,_,I4,q3 _ ⟨_,rfl⟩ ⟨xs++[(k,b,v)],by rw[jn,e1];rfl,zC,fun x hx=>?_⟩⟩;rcases eG.mp hx with hx | hx
 ·exact F.mono (e3 x hx) kt
 ·rw[bf.mp hx];exact F.mono hk kt
end
end L2
namespace L2
open PySem
noncomputable def qGF(M:Model)(Γ:Ctx)(p:Pos)(t:Sem Fin)(fs:List Frame)(s:Shared)(e:End)(s':Shared):Prop:=match fs with
 | F :: fs => ∃ e1 s1,Runs M (Γ.over (F :: fs)) p t [] s e1 s1/\(match e1 with
  | .ret r=>(match F with
   | .ret k _ _ _ c₁ p₁ _=>Runs M (Γ.goto c₁) p₁ (k r) fs s1 e s'
   | .gen g k _ c₁ p₁=>Runs M (Γ.goto c₁) p₁ (k (End.ret r).result) fs (s1.setGen g .finished) e s')
  | .susp v g₀ l₀ k₀ c₀ p₀ fs₀=>(match splitAtGen (F :: fs) with
   | none=>e = .susp v g₀ l₀ k₀ c₀ p₀ (fs₀++F :: fs)/\s'=s1
   | some (pre,(g,k,c₁,p₁),rest)=>Runs M (Γ.goto c₁) p₁ (k (.yielded v)) rest (s1.setGen g (End.susp v g₀ l₀ k₀ c₀ p₀ (fs₀++pre)).genState) e s'))
 | []=>match t with
  | .pure (.done f)=>e = .ret (.ok f)/\s'=s
  | .pure (.again c)=>Runs M (Γ.goto c) p (M.den c) [] s e s'
  | .raise x=>e = .ret (.error x)/\s'=s
  | .rule _ k=>Runs M Γ p (k ()) [] s e s'
  | .at p' k=>Runs M Γ p' (k ()) [] s e s'
  | .load a _ k => ∃ o,s.heap.get? a=some o/\Runs M Γ p (k o) [] s e s'
  | .update a _ f k=>Runs M Γ p (k ()) [] { s with heap:=s.heap.update a f } e s'
  | .loadIfAlive a k=>Runs M Γ p (k (s.heap.get? a)) [] s e s'
  | .point _ k=>Runs M Γ p (k ()) [] s e s'
  | .alloc o k=>Runs M Γ p (k s.heap.objs.size) [] { s with heap:=s.heap.push o } e s'
  | .fresh k=>Runs M Γ p (k s.toks) [] { s with toks:=s.toks+1 } e s'
  | .ask k=>Runs M Γ p (k { program:=M.prog,params:=M.w.params }) [] s e s'
  | .choose src n k=>Runs M Γ p (k (M.w.draws src (s.drawn.get src) % n)) [] { s with drawn:=s.drawn.bump src } e s'
  | .os q _ k=>Runs M Γ p (k (Os.step s.os q).snd) [] { s with os:=(Os.step s.os q).fst } e s'
  | .handled own k=>Runs M Γ p (k (if own=true then Γ.own else Γ.handled)) [] s e s'
  | .genState g k => ∃ st,s.gens[g]? = some st/\Runs M Γ p (k st.seen) [] s e s'
  | .stack k=>Runs M Γ p (k ((Γ.code,p) :: Γ.below)) [] s e s'
  | .thread k=>Runs M Γ p (k 0) [] s e s'
  | .newGen c k=>Runs M Γ p (k s.gens.size) [] { s with gens:=s.gens.push (.fresh c) } e s'
  | .call c h g l k => ∃ e1 s1,Runs M (Γ.enter c h p) p (M.den c) [] s e1 s1/\(match e1 with
   | .ret r=>Runs M Γ p (k r) [] s1 e s'
   | .susp v g₀ l₀ k₀ c₀ p₀ fs=>e = .susp v g₀ l₀ k₀ c₀ p₀ (fs++[Frame.ret k h g l Γ.code p []])/\s'=s1)
  | .yield v g l k=>e = .susp v g l k Γ.code p []/\s'=s
  | .resume g r _ k => ∃ st,s.gens[g]? = some st/\(match st with
   | .fresh c=>(match r with
    | .send v=>(v = .none/\∃ e1 s1,Runs M (Γ.wake c p) p (M.den c) [] (s.setGen g .running) e1 s1/\Runs M Γ p (k e1.result) [] (s1.setGen g e1.genState) e s') ∨ (v ≠ .none/\Runs M Γ p (k .justStarted) [] s e s')
    | .throw x=>Runs M Γ p (k (.raised x)) [] (s.setGen g .finished) e s')
   | .suspended k₀ _ c₀ p₀ fs _ => ∃ e1 s1,Runs M (Γ.wake c₀ p) p₀ (k₀ r) fs (s.setGen g .running) e1 s1/\Runs M Γ p (k e1.result) [] (s1.setGen g e1.genState) e s'
   | .running=>Runs M Γ p (k .running) [] s e s'
   | .finished=>Runs M Γ p (k .finished) [] s e s')
  | _=>True
theorem aM(h:Runs M Γ p t fs s e s'):qGF M Γ p t fs s e s':=by
 cases h with
 | done=>exact⟨rfl,rfl⟩
 | raise=>exact⟨rfl,rfl⟩
 | again _ h=>exact h
 | load h1 h2=>exact⟨_,h1,h2⟩
 | update _ h=>exact h
 | choose _ h=>exact h
 | genState h1 h2=>exact⟨_,h1,h2⟩
 | call h1 h2=>exact⟨_,_,h1,h2⟩
 | callSusp h1=>exact⟨_,_,h1,rfl,rfl⟩
 | yield=>exact⟨rfl,rfl⟩
 | resumeFresh h1 h2 _ h4=>exact⟨_,h1,.inl ⟨rfl,_,_,h2,h4⟩⟩
 | resumeSuspended h1 h2 _ h4=>exact⟨_,h1,_,_,h2,h4⟩
 | resumeJustStarted h1 h2 h3=>exact⟨_,h1,.inr ⟨h2,h3⟩⟩
 | resumeThrowFresh h1 h2=>exact⟨_,h1,h2⟩
 | resumeRunning h1 h2=>exact⟨_,h1,h2⟩
 | resumeFinished h1 h2=>exact⟨_,h1,h2⟩
 | segRet h1 h2=>exact⟨_,_,h1,h2⟩
 | segGen h1 h2=>exact⟨_,_,h1,h2⟩
 | segSuspOut h1 h2=>
  refine⟨_,_,h2,?_⟩;rw[h1];exact⟨rfl,rfl⟩
 | segSuspGen h1 h2 _ h4=>
  refine⟨_,_,h2,?_⟩;rw[h1];exact h4
 | rule h=>exact h
 | «at» h=>exact h
 | loadIfAlive h=>exact h
 | point h=>exact h
 | alloc h=>exact h
 | fresh h=>exact h
 | ask h=>exact h
 | os h=>exact h
 | handled h=>exact h
 | stack h=>exact h
 | thread h=>exact h
 | newGen h=>exact h
theorem vZ(h:Runs M Γ p t fs s e s') :
  ∀ {e2:End} {s2:Shared},Runs M Γ p t fs s e2 s2->e=e2/\s'=s2:=by
 induction h with
 | done=>intro e2 s2 h2;obtain⟨rfl,rfl⟩:=aM h2;exact⟨rfl,rfl⟩
 | raise=>intro e2 s2 h2;obtain⟨rfl,rfl⟩:=aM h2;exact⟨rfl,rfl⟩
 | again _ _ ih=>intro e2 s2 h2;exact ih (aM h2)
 | load h1 _ ih=>
  intro e2 s2 h2;obtain⟨o,ho,h⟩:=aM h2
  cases h1.symm.trans ho
  exact ih h
 | update _ _ ih=>intro e2 s2 h2;exact ih (aM h2)
 | choose _ _ ih=>intro e2 s2 h2;exact ih (aM h2)
 | genState h1 _ ih=>
  intro e2 s2 h2;obtain⟨o,ho,h⟩:=aM h2
  cases h1.symm.trans ho
  exact ih h
 | call _ _ ih1 ih2=>
  intro e2 s2 h2;obtain⟨e1,s1,h,h'⟩:=aM h2;obtain⟨rfl,rfl⟩:=ih1 h;exact ih2 h'
 | callSusp _ ih=>
  intro e2 s2 h2;obtain⟨e1,s1,h,h'⟩:=aM h2;obtain⟨rfl,rfl⟩:=ih h;exact⟨h'.1.symm,h'.2.symm⟩
 | yield=>intro e2 s2 h2;obtain⟨rfl,rfl⟩:=aM h2;exact⟨rfl,rfl⟩
 | resumeFresh h1 _ _ _ ih1 ih2=>
  intro e2 s2 h2;obtain⟨st,ho,h⟩:=aM h2
  cases h1.symm.trans ho
  rcases h with ⟨_,e1,s1,h,h'⟩ | ⟨z,_⟩
  ·obtain⟨rfl,rfl⟩:=ih1 h;exact ih2 h'
  ·exact absurd rfl z
 | resumeSuspended h1 _ _ _ ih1 ih2=>
  intro e2 s2 h2;obtain⟨st,ho,h⟩:=aM h2
  cases h1.symm.trans ho
  obtain⟨e1,s1,h,h'⟩:=h;obtain⟨rfl,rfl⟩:=ih1 h;exact ih2 h'
 | resumeJustStarted h1 nz _ ih=>
  intro e2 s2 h2;obtain⟨st,ho,h⟩:=aM h2
  cases h1.symm.trans ho
  rcases h with ⟨z,_⟩ | ⟨_,h⟩
  ·exact absurd z nz
  ·exact ih h
 | resumeThrowFresh h1 _ ih=>
  intro e2 s2 h2;obtain⟨st,ho,h⟩:=aM h2
  cases h1.symm.trans ho
  exact ih h
 | resumeRunning h1 _ ih=>
  intro e2 s2 h2;obtain⟨st,ho,h⟩:=aM h2
  cases h1.symm.trans ho
  exact ih h
 | resumeFinished h1 _ ih=>
  intro e2 s2 h2;obtain⟨st,ho,h⟩:=aM h2
  cases h1.symm.trans ho
  exact ih h
 | segRet _ _ ih1 ih2=>
  intro e2 s2 h2;obtain⟨e1,s1,h,h'⟩:=aM h2;obtain⟨rfl,rfl⟩:=ih1 h;exact ih2 h'
 | segGen _ _ ih1 ih2=>
  intro e2 s2 h2;obtain⟨e1,s1,h,h'⟩:=aM h2;obtain⟨rfl,rfl⟩:=ih1 h;exact ih2 h'
 | segSuspOut hs _ ih=>
  intro e2 s2 h2;obtain⟨e1,s1,h,h'⟩:=aM h2;obtain⟨rfl,rfl⟩:=ih h;simp only[hs]at h';exact⟨h'.1.symm,h'.2.symm⟩
 | segSuspGen hs _ _ _ ih1 ih2=>
  intro e2 s2 h2;obtain⟨e1,s1,h,h'⟩:=aM h2;obtain⟨rfl,rfl⟩:=ih1 h;simp only[hs]at h';exact ih2 h'
 | rule _ ih=>intro e2 s2 h2;exact ih (aM h2)
 | «at» _ ih=>intro e2 s2 h2;exact ih (aM h2)
 | loadIfAlive _ ih=>intro e2 s2 h2;exact ih (aM h2)
 | point _ ih=>intro e2 s2 h2;exact ih (aM h2)
 | alloc _ ih=>intro e2 s2 h2;exact ih (aM h2)
 | fresh _ ih=>intro e2 s2 h2;exact ih (aM h2)
 | ask _ ih=>intro e2 s2 h2;exact ih (aM h2)
 | os _ ih=>intro e2 s2 h2;exact ih (aM h2)
 | handled _ ih=>intro e2 s2 h2;exact ih (aM h2)
 | stack _ ih=>intro e2 s2 h2;exact ih (aM h2)
 | thread _ ih=>intro e2 s2 h2;exact ih (aM h2)
 | newGen _ ih=>intro e2 s2 h2;exact ih (aM h2)
theorem Xa(M:Model)(Γ:Ctx)(t:Sem α):∀ Q Q' E E' p s,Sem.wp M Γ t Q E p s->Sem.wp M Γ t Q' E' p s →
  Sem.wp M Γ t (fun a p' s'=>Q a p' s'/\Q' a p' s') (fun e p' s'=>E e p' s'/\E' e p' s') p s:=by
 induction t with
 | pure a=>intro Q Q' E E' p s h h';exact⟨h,h'⟩
 | raise e=>intro Q Q' E E' p s h h';exact⟨h,h'⟩
 | load a _ k ih=>intro Q Q' E E' p s h h';obtain⟨o,ho,h⟩:=h;obtain⟨o',ho',h'⟩:=h';cases ho.symm.trans ho';exact⟨o,ho,ih o _ _ _ _ p s h h'⟩
 | update a _ f k ih=>intro Q Q' E E' p s h h';exact⟨h.1,ih () _ _ _ _ p _ h.2 h'.2⟩
 | choose src m k ih=>intro Q Q' E E' p s h h';exact⟨h.1,ih _ _ _ _ _ p _ h.2 h'.2⟩
 | call c hd g l k ih=>
  intro Q Q' E E' p s h h';obtain⟨r,s1,x,h⟩:=h;obtain⟨r',Sx,x',h'⟩:=h';obtain⟨q1,q2⟩:=vZ x x'
  cases q1;cases q2
  exact⟨r,s1,x,ih _ _ _ _ _ p _ h h'⟩
 | genState g k ih=>intro Q Q' E E' p s h h';obtain⟨o,ho,h⟩:=h;obtain⟨o',ho',h'⟩:=h';cases ho.symm.trans ho';exact⟨o,ho,ih _ _ _ _ _ p s h h'⟩
 | resume g r l k ih=>
  intro Q Q' E E' p s h h';obtain⟨r1,s1,x,h⟩:=h;obtain⟨r',Sx,x',h'⟩:=h'
  have q:r1=r'/\s1=Sx:=by
   unfold Wakes at x x';revert x x';generalize s.gens[g]? = gg;intro x x'
   cases gg with
   | none=>exact x.elim
   | some st=>
    cases st with
    | fresh c=>
     cases r with
     | throw y=>exact⟨x.1.trans x'.1.symm,x.2.trans x'.2.symm⟩
     | send v=>
      cases v with
      | none=>
       obtain⟨e1,t1,y1,_,rfl,rfl⟩:=x;obtain⟨e2,t2,y2,_,rfl,rfl⟩:=x';obtain⟨rfl,rfl⟩:=vZ y1 y2;exact⟨rfl,rfl⟩
      | _=>exact⟨x.1.trans x'.1.symm,x.2.trans x'.2.symm⟩
    | suspended=>
     obtain⟨e1,t1,y1,_,rfl,rfl⟩:=x;obtain⟨e2,t2,y2,_,rfl,rfl⟩:=x';obtain⟨rfl,rfl⟩:=vZ y1 y2;exact⟨rfl,rfl⟩
    | running=>exact⟨x.1.trans x'.1.symm,x.2.trans x'.2.symm⟩
    | finished=>exact⟨x.1.trans x'.1.symm,x.2.trans x'.2.symm⟩
  obtain⟨rfl,rfl⟩:=q;exact⟨_,_,x,ih _ _ _ _ _ p _ h h'⟩
 | _=>intros;first | assumption | (rename_i ih _ _ _ _ _ _ h h';exact ih _ _ _ _ _ _ _ h h')
theorem HS(h:wpAny M A t Q E s)(h':wpAny M A t Q' E' s) :
  wpAny M A t (fun a s'=>Q a s'/\Q' a s') (fun e s'=>E e s'/\E' e s') s:=fun Γ p hΓ=>Xa M Γ t _ _ _ _ p s (h Γ p hΓ) (h' Γ p hΓ)
theorem dC(h:wpAny M A t Q E s)(h':wpAny M A t Q' E s):wpAny M A t (fun a s'=>Q a s'/\Q' a s') E s:=
 wpAny_mono (HS h h') (fun _ _ z=>z) fun _ _ z=>z.1
end L2
namespace L2
open PySem PySem.Spec PyProof.Rows
def qE7(ob:Obj):Prop:=∃ vs,ob.data = .fields vs/\vs[2]? = some .none
def DictAt(h:Heap)(e:Addr)(dd:Option Addr):Prop:=∃ ob,h.get? e=some ob/\ob.dict=dd/\(dd=none->qE7 ob)
theorem Rx(o:Obj)(f:Array Value->Array Value):(o.mapFields f).dict=o.dict:=by
 obtain⟨c,d,dt,sl⟩:=o
 cases dt <;> rfl
theorem DictAt.upd(x:DictAt h e dd)(ha:h.get? a=some o)(hd:o.data = .fields vs)(hf:∀ ws:Array Value,(f ws)[2]? = ws[2]?:=by intro ws;simp):DictAt (h.update a (Obj.mapFields f)) e dd:=by
 obtain⟨ob,q,r,c⟩:=x
 by_cases z:a=e
 ·subst z;rw[ha]at q
  cases q
  exact⟨_,Heap.get?_update_self _ ha (Obj.isFreed_of_fields (Obj.data_mapFields hd f)),(Rx _ _).trans r,fun y=>let ⟨ws,c1,c2⟩:=c y;⟨_,Obj.data_mapFields c1 f,(hf ws).trans c2⟩⟩
 ·exact⟨ob,(Heap.get?_update_other _ _ z).trans q,r,c⟩
theorem DictAt.push(x:DictAt h e dd)(o:Obj):DictAt (h.push o) e dd:=
 let ⟨ob,q,r⟩:=x;⟨ob,ie _ q,r⟩
section
theorem nU(ht:s.heap.TracedAtW base e cls a0 fl)(x:DictAt s.heap e dd):wpAny M A (setFlight (.ref e) none) (fun _ s'=>DictAt s'.heap e dd) E s:=by
 obtain⟨oe,vs,T,oT,ts,he,_,hd,h1,_,_,hT,hdT,h3⟩:=ht;unfold setFlight;refine wpAny_bind (wpAny_field he hd h1 ?_);rw[if_pos (show (Value.ref T != Value.none)=true by simp)];exact wpAny_setField hT hdT (Array.getElem?_eq_some_iff.mp h3).1 (x.upd hT hdT)
theorem lX(hfr:A.frames=some (env :: outer))(hl:s.heap.FunFrames base (env :: outer))(hf:env.frame=some L)
  (he:s.heap.get? e=some oe) (hd:oe.data = .fields vs) (hsz:1 < vs.size) (x:DictAt s.heap e dd)
  (hq:∀ h1 T oT ts,DictAt h1 e dd->(∃ oe' vs',h1.get? e=some oe'/\oe'.data = .fields vs'/\vs'[1]? = some (.ref T))->h1.get? T=some oT->oT.data = .fields ts->3 < ts.size->Q () { s with heap:=h1 }) :
  wpAny M A (do let a ← frameOf env;let pl ← entryPlaceOf L b;let c ← EntryCells.newEntry head a .none (rawInt L) .none pl;setField (.ref e) 1 c) Q E s:=by
 refine wpAny_bind (wpAny_frameOf_fun hfr hl hf fun h1 hs=>?_);refine wpAny_bind (wpAny_entryPlaceOf fun pl hpl=>?_);unfold EntryCells.newEntry newFields;refine wpAny_bind (wpAny_newObj_type ?_ (hpl.sizeOk5 _ _ _ _ _));obtain⟨sl,e1⟩:=hs.2.2 e oe he
 have x1:DictAt h1 e dd:=by
  obtain⟨ob,q,r⟩:=x;rw[he]at q
  cases q
  exact⟨_,e1,r⟩
 have e2:=ie { cls:=.type "traceback",dict:=none,data:=.fields ([head,.ref L,.none,rawInt L,.none]++(if pl.isEmpty then List.replicate 6 Value.none else pl)).toArray } e1;have hd2:({ oe with slots:=sl }:Obj).data = .fields vs:=hd;have ne:e ≠ h1.objs.size:=lC (gR e1);refine wpAny_setField e2 hd2 hsz (hq _ h1.objs.size { cls:=.type "traceback",dict:=none,data:=.fields ([head,.ref L,.none,rawInt L,.none]++(if pl.isEmpty then List.replicate 6 Value.none else pl)).toArray } _ ((x1.push _).upd e2 hd2) ?_ ?_ rfl ?_)
 ·exact⟨_,_,Heap.get?_update_self _ e2 (Obj.isFreed_of_fields (Obj.data_mapFields hd2 _)),Obj.data_mapFields hd2 _,by simp [hsz]⟩
 ·exact (Heap.get?_update_other _ _ ne).trans (uy h1 rfl)
 ·simp only[List.size_toArray,List.length_append,List.length_cons,List.length_nil];lia
theorem Ac(hfr:A.frames=some (env :: outer))(hf:env.frame=some L)(hfl:Heap.FlyingW base (env :: outer) e cls a0 s.heap)(x:DictAt s.heap e dd):wpAny M A (noteFrame (.ref e) env) (fun _ s'=>DictAt s'.heap e dd) E s:=by
 obtain⟨_,_,hl,oe,vs,T,oT,ts,he,_,hd,h1,_,hTe,hT,hdT,h3⟩:=hfl;unfold noteFrame;simp only[hf];refine wpAny_bind (wpAny_field he hd h1 ?_);rw[if_pos (show (Value.ref T != Value.none)=true by simp)];refine wpAny_bind (wpAny_field hT hdT h3 ?_);rw[if_neg (show ¬ ((Value.none == rawInt L)=true) by simp [rawInt])];refine wpAny_bind (wpAny_setField hT hdT (Array.getElem?_eq_some_iff.mp h3).1 ?_);refine lX hfr (hl.of_keeps fun b o hb hnf=>⟨o,(Heap.get?_update_other _ _ fun z=>?_).trans hb,rfl⟩) hf ((Heap.get?_update_other _ _ hTe).trans he) hd (Array.getElem?_eq_some_iff.mp h1).1 (x.upd hT hdT) fun _ _ _ _ z _ _ _ _=>z;rw[<-z,hT]at hb
 cases hb
 exact hnf ts hdT
theorem JC(hfr:A.frames=some (env :: outer))(hf:env.frame=some L)(hfl:Heap.FlyingW base (env :: outer) e cls a0 s.heap)(x:DictAt s.heap e dd):wpAny M A (leaving env (.ref e)) (fun _ s'=>DictAt s'.heap e dd) E s:=by
 unfold leaving;refine wpAny_bind (wpAny_mono (dC (wpAny_looks_onW (Q:=fun _ s'=>Heap.HeldW base (env :: outer) e cls a0 L s'.heap) hfr hf hfl fun h' k _=>k) (Ac hfr hf hfl x)) (fun _ s1 z=>?_) fun _ _ z=>z);exact nU z.1.2.2.2 z.2
theorem JP(hfr:A.frames=some (env :: outer))(hl:s.heap.FunFrames base (env :: outer))(hf:env.frame=some L)(he:s.heap.get? e=some oe)(hd:oe.data = .fields vs)(h1:vs[1]? = some .none)
  (x:DictAt s.heap e dd):wpAny M A (leaving env (.ref e)) (fun _ s'=>DictAt s'.heap e dd) E s:=by
 unfold leaving noteFrame;simp only[hf];refine wpAny_bind (wpAny_bind (wpAny_field he hd h1 ?_));rw[if_neg (by decide)];refine lX hfr hl hf he hd (Array.getElem?_eq_some_iff.mp h1).1 x fun h2 T oT ts x2 ⟨oe',vs',q1,q2,q3⟩ q4 q5 q6=>?_;unfold setFlight;refine wpAny_bind (wpAny_field q1 q2 q3 ?_);rw[if_pos (show (Value.ref T != Value.none)=true by simp)];exact wpAny_setField q4 q5 q6 (x2.upd q4 q5)
end
section
theorem JB(hfr:A.frames=some (env :: outer))(hf:env.frame=some L)(hfl:Heap.FlyingW base (env :: outer) e cls a0 s.heap)(x:DictAt s.heap e dd)
  (hQ:∀ h',Heap.FlyingW base outer e cls a0 h'->s.heap.UpToSlots h'->DictAt h' e dd->Q () { s with heap:=h' }):wpAny M A (leaving env (.ref e)) Q E s:=
 wpAny_mono (dC (wpAny_leaves_onW (Q:=fun _ s'=>∃ h',s' = { s with heap:=h' }/\Heap.FlyingW base outer e cls a0 h'/\s.heap.UpToSlots h') hfr hf hfl fun h' k1 k2=>⟨h',rfl,k1,k2⟩) (JC hfr hf hfl x))
  (fun _ _ ⟨⟨h',z,k1,k2⟩,k3⟩=>by subst z;exact hQ h' k1 k2 k3) fun _ _ z=>z
theorem tD(hfr:A.frames=some (env :: outer))(hf:env.frame=some L)(hfl:Heap.FlyingW base (env :: outer) e cls a0 s.heap)(x:DictAt s.heap e dd)
  (hQ:∀ h',Heap.HeldW base (env :: outer) e cls a0 L h'->s.heap.UpToSlots h'->DictAt h' e dd->Q () { s with heap:=h' }):wpAny M A (noteFrame (.ref e) env) Q E s:=
 wpAny_mono (dC (wpAny_looks_onW (Q:=fun _ s'=>∃ h',s' = { s with heap:=h' }/\Heap.HeldW base (env :: outer) e cls a0 L h'/\s.heap.UpToSlots h') hfr hf hfl fun h' k1 k2=>⟨h',rfl,k1,k2⟩) (Ac hfr hf hfl x))
  (fun _ _ ⟨⟨h',z,k1,k2⟩,k3⟩=>by subst z;exact hQ h' k1 k2 k3) fun _ _ z=>z
theorem JD(hh:Heap.HeldW base l e cls a0 L s.heap)(x:DictAt s.heap e dd)(hQ:∀ h',Heap.FlyingW base l e cls a0 h'->s.heap.UpToSlots h'->DictAt h' e dd->Q () { s with heap:=h' }):wpAny M A (setFlight (.ref e) none) Q E s:=
 wpAny_mono (dC (wpAny_landsW (Q:=fun _ s'=>∃ h',s' = { s with heap:=h' }/\Heap.FlyingW base l e cls a0 h'/\s.heap.UpToSlots h') hh fun h' k1 k2=>⟨h',rfl,k1,k2⟩) (nU hh.2.2.2 x))
  (fun _ _ ⟨⟨h',z,k1,k2⟩,k3⟩=>by subst z;exact hQ h' k1 k2 k3) fun _ _ z=>z
theorem qx(hh:Heap.FlyingW base l e cls a0 s.heap)(x:DictAt s.heap e dd)(hQ:∀ h',Heap.FlyingW base l e cls a0 h'->s.heap.UpToSlots h'->DictAt h' e dd->Q () { s with heap:=h' }):wpAny M A (setFlight (.ref e) none) Q E s:=
 wpAny_mono (dC (lands_againW (Q:=fun _ s'=>∃ h',s' = { s with heap:=h' }/\Heap.FlyingW base l e cls a0 h'/\s.heap.UpToSlots h') hh fun h' k1 k2=>⟨h',rfl,k1,k2⟩) (nU hh.2.2.2.at x))
  (fun _ _ ⟨⟨h',z,k1,k2⟩,k3⟩=>by subst z;exact hQ h' k1 k2 k3) fun _ _ z=>z
theorem GD(hfr:A.frames=some (env :: outer))(hf:env.frame=some L)(hkb:base.StaysIn s.heap)(hl:s.heap.FunFrames base (env :: outer))(hb:base.get? e=none)
  (he:s.heap.get? e=some oe) (hd:oe.data = .fields vs) (h1:vs[1]? = some .none) (h0:vs[0]? = some a0) (h2:oe.dict=none->vs[2]? = some .none)
  (hQ:∀ h',Heap.FlyingW base outer e oe.cls a0 h'->s.heap.UpToSlots h'->DictAt h' e oe.dict->Q () { s with heap:=h' }):wpAny M A (leaving env (.ref e)) Q E s:=
 wpAny_mono (dC (wpAny_leaving_firstW (Q:=fun _ s'=>∃ h',s' = { s with heap:=h' }/\Heap.LeftW base (env :: outer) e oe.cls a0 s.heap h') hfr hl hf he hkb hb hd h1 h0 fun h' k=>⟨h',rfl,k⟩) (JP hfr hl hf he hd h1 ⟨oe,he,rfl,fun y=>⟨vs,hd,h2 y⟩⟩))
  (fun _ _ ⟨⟨h',z,k1,⟨_,_,k2⟩,k3,k4⟩,k5⟩=>by subst z;exact hQ h' ⟨k1,hb,k2,k3⟩ k4 k5) fun _ _ z=>z
end
noncomputable def pP(P:Program)(w:World):Jl:=fun outer H s E e s'=>
 ∃ ea cls a0 H' B,e = .ref ea/\s'.os=s.os/\AllBare s'.gens/\Heap.FlyingW B outer ea cls a0 s'.heap ∧
  iZ P w H' s'.heap/\Un (frs outer) [] H H' s.heap s'.heap/\(∀ b,(H' b).isSome=true->∃ o,s'.heap.get? b=some o/\B.get? b=some o) ∧
  (∀ b o,s.heap.get? b=some o->b ∉ frs outer->∃ o',s'.heap.get? b=some o'/\B.get? b=some o')/\∃ dd,DictAt s'.heap ea dd/\E cls dd H'
section
variable{P:Program}{w:World}{H H':Hp}{h h0 h1 h2 B:Heap}{a:Addr}{o:HO}{fs:List Addr}
theorem bK.there(x:bK P w H h a o):∃ ob,h.get? a=some ob:=by
 cases o with
 | lst xs=>obtain⟨_,_,_,_,e⟩:=x;exact⟨_,e⟩
 | tup xs=>obtain⟨_,_,_,ob,e,_⟩:=x;exact⟨ob,e⟩
 | dK kvs=>obtain⟨_,_,_,_,ob,_,_,e,_⟩:=x;exact⟨ob,e⟩
 | dT kvs=>obtain⟨_,_,_,_,ob,_,_,e,_⟩:=x;exact⟨ob,e⟩
 | set S n=>obtain⟨ob,_,_,_,e,_⟩:=x;exact⟨ob,e⟩
 | ins C dx fs=>obtain⟨_,_,_,e,_⟩:=x;exact⟨_,e⟩
 | own y=>exact x
 | xd fs=>obtain⟨_,⟨ob,_,_,e,_⟩,_⟩:=x;exact⟨ob,e⟩
 | rng lo hi=>obtain⟨_,_,_,e⟩:=x;exact⟨_,e⟩
 | JL ob u=>obtain⟨e,_⟩:=x;exact⟨_,e⟩
 | WK ps=>exact⟨_,x⟩
 | met f y=>exact⟨_,x⟩
 | ext φ=>obtain⟨_,e,_⟩:=x;exact e
theorem iZ.flown(hok:iZ P w H h)(hB:∀ b,(H b).isSome=true->∃ ob,h.get? b=some ob/\B.get? b=some ob)(st:B.StaysIn h2):iZ P w H h2:=fun a o e=>
 (hok a o e).stay (fun b u hb q=>by
  have hs:(H b).isSome=true:=by
   rcases hb with z | z
   ·rw[z,e];rfl
   ·rw[z];rfl
  obtain⟨ob,e1,e2⟩:=hB b hs;rw[q]at e1
  cases e1
  exact st b _ e2) (fun _ q=>q) fun _ _ q=>q
theorem Un.flown(un:Un fs [] H H' h0 h1)(hC:∀ b ob,h0.get? b=some ob->b ∉ fs->∃ o',h1.get? b=some o'/\B.get? b=some o')(st:B.StaysIn h2)(sl:h1.UpToSlots h2)
  (fr:∀ b∈fs,H b=none/\∃ ob,h0.get? b=some ob/\∀ vs,ob.data ≠ .fields vs):Un fs [] H H' h0 h2:=by
 have slot:∀ b ob,h0.get? b=some ob->H b=none->b∈fs->∃ sl,h2.get? b=some { ob with slots:=sl }:=fun b ob q n hb=>by
  obtain⟨_,o1,e1,nf⟩:=fr b hb;rw[q]at e1
  cases e1
  obtain⟨s1,e2⟩:=un.slot b ob q n hb (by simp);obtain⟨s2,e3⟩:=sl b _ e2 nf;exact⟨s2,e3⟩
 refine⟨fun b ob q n hb hx=>?_,fun b ob q n hb _=>slot b ob q n hb,fun b ob q n hx=>un.free b ob q n hx,fun b ob q hx=>?_,un.tups,un.pF,un.pR⟩
 ·obtain⟨o',e1,e2⟩:=hC b ob q hb;rw[un.keep b ob q n hb hx]at e1
  cases e1
  exact st b _ e2
 ·by_cases hb:b∈fs
  ·obtain⟨s2,e⟩:=slot b ob q (fr b hb).1 hb;exact⟨_,e⟩
  ·obtain⟨o',_,e2⟩:=hC b ob q hb;exact⟨o',st b _ e2⟩
end
section
variable{P:Program}{w:World}{K:bj}{mg:Str->Option Value}{base:Heap}{N:List Str}{qual:Str}{scope:Scope}{f:Addr}{cd:Value}{A:Around}{outer:List Env}{s:Shared}{H:Hp}{E E':XK}
theorem j9(h:env.frame=some L):frs (env :: l)=L :: frs l:=by
 unfold frs;rw[List.filterMap_cons,h]
theorem Inv.frames(I:Inv X pins σ H s):∀ b∈frs X.stack,H b=none/\∃ ob,s.heap.get? b=some ob/\∀ vs,ob.data ≠ .fields vs:=
 fun b hb=>⟨I.qP b hb,let ⟨_,ob,e,nf⟩:=I.stack.mem hb;⟨ob,e,nf⟩⟩
theorem Inv.t6(I:Inv X pins σ H s):∀ b∈frs X.outer,X.H₀ b=none/\∃ ob,X.s₀.heap.get? b=some ob/\∀ vs,ob.data ≠ .fields vs:=
 fun b hb=>⟨I.ok.Vd b hb,let ⟨_,ob,e,nf⟩:=I.ok.rF.mem hb;⟨ob,e,nf⟩⟩
theorem Wj(hE:∀ c d H,E' c d H->E c d H):Passes (pP P w) (pH (pP P w) P w K mg base N qual scope f cd A outer s H E) E':=by
 intro pins σ H1 s1 e s' I h;obtain⟨ea,cls,a0,H',B,rfl,ho,hg,fl,hok,un,hB,hC,dd,hdd,hq⟩:=h;have nL:∀ b ob,s.heap.get? b=some ob->b ≠ s.heap.objs.size:=fun b ob q=>lC (gR q);have J:=I.call' ho un hok hg (fun _ z=>nomatch z);have ub:=J.base
 have Wu:∀ b ob,s.heap.get? b=some ob->b ∉ frs outer->∃ o',s'.heap.get? b=some o'/\B.get? b=some o':=fun b ob q hb=>by
  obtain⟨o1,e1⟩:=I.base.there b ob q (by show b ∉ ([]:List Addr);simp);refine hC b o1 e1 fun z=>?_;rw[show frs (pH (pP P w) P w K mg base N qual scope f cd A outer s H E).stack=s.heap.objs.size :: frs outer from j9 rfl]at z;exact (bU.mp z).elim (nL b ob q) hb
 refine JB I.ok.frames rfl fl hdd fun h' Gg sl dk=>?_;refine⟨ea,cls,a0,H',B,rfl,ho.trans I.os,hg,Gg,hok.flown hB Gg.1,ub.flown Wu Gg.1 sl I.t6,fun b hb=>?_,fun b ob q hb=>?_,dd,dk,hE _ _ _ hq⟩
 ·obtain⟨ob,_,e2⟩:=hB b hb;exact⟨ob,Gg.1 b _ e2,e2⟩
 ·obtain⟨o',_,e2⟩:=Wu b ob q hb;exact⟨o',Gg.1 b _ e2,e2⟩
noncomputable def del(H:Hp)(e:Addr):Hp:=fun b=>if b=e then none else H b
theorem rK:del H e e=none:=if_pos rfl
theorem lY(h:b ≠ e):del H e b=H b:=if_neg h
def Loose(o:Option HO):Prop:=o=none ∨ ∃ φ,o=some (.ext φ)
section
variable{P:Program}{w:World}{H H':Hp}{h h':Heap}{e:Addr}{fs ex:List Addr}
theorem Loose.ne(l:Loose (H e))(q:H b=some o)(n:∀ φ,o ≠ .ext φ):b ≠ e:=fun z=>by
 subst z;rcases l with y | ⟨φ,y⟩
 ·rw[q]at y;cases y
 ·rw[q]at y;cases y;exact n φ rfl
theorem iZ.del(x:iZ P w H h)(l:Loose (H e)):iZ P w (L2.del H e) h:=fun a o q=>by
 by_cases z:a=e
 ·subst z;rw[rK]at q
  cases q
 ·rw[lY z]at q;refine (x a o q).stay (fun _ _ _ y=>y) (fun b y=>?_) fun b xs y=>?_
  ·rw[lY (l.ne y fun _=>nofun)];exact y
  ·rw[lY (l.ne y fun _=>nofun)];exact y
theorem Un.del(u:Un fs ex H H' h h')(l:Loose (H' e)):Un fs ex H (L2.del H' e) h h':=by
 refine⟨u.keep,u.slot,fun b o q n x=>?_,u.there,fun b xs q=>?_,fun b o v q=>?_,fun b ps q=>?_⟩
 ·by_cases z:b=e
  ·rw[z,rK]
  ·rw[lY z];exact u.free b o q n x
 ·have y:=u.tups b xs q;rw[lY (l.ne y fun _=>nofun)];exact y
 ·have y:=u.pF b o v q;rw[lY (l.ne y fun _=>nofun)];exact y
 ·obtain⟨m,y⟩:=u.pR b ps q;exact⟨m,by rw[lY (l.ne y fun _=>nofun)];exact y⟩
end
def SQ(X:Cx)(E:XK):Prop:=∀ pins σ H s e C a0 oe vs,Inv X pins σ H s->X.s₀.heap.get? e=none->Loose (H e)->s.heap.get? e=some oe->oe.cls = .ref C →
 oe.data = .fields vs->vs[0]? = some a0->vs[1]? = some .none->(oe.dict=none->vs[2]? = some .none)->E (.ref C) oe.dict (del H e)->X.xe (.ref e) s
theorem ZF:SQ (pH (pP P w) P w K mg base N qual scope f cd A outer s H E) E:=by
 intro pins σ H1 s1 e C a0 oe vs I en hl he hc hd h0 h1 h2 hq;have es:frs (pH (pP P w) P w K mg base N qual scope f cd A outer s H E).stack=s.heap.objs.size :: frs outer:=j9 rfl;generalize hS:e :: frs (pH (pP P w) P w K mg base N qual scope f cd A outer s H E).stack=S
 have hin:∀ env∈(pH (pP P w) P w K mg base N qual scope f cd A outer s H E).stack,∀ b,env.frame=some b->b∈S:=
  fun env he b hb=>hS ▸ HN _ (List.mem_filterMap.mpr ⟨env,he,hb⟩)
 have inB:∀ b ob,s1.heap.get? b=some ob->b ≠ e->b ∉ frs (pH (pP P w) P w K mg base N qual scope f cd A outer s H E).stack->(PySem.W.hideAll s1.heap S).get? b=some ob:=
  fun b ob q z hb=>PySem.W.hideAll_get _ q (by rw[<-hS];exact fun y=>(bU.mp y).elim z hb)
 have hB:∀ b,(del H1 e b).isSome=true->∃ ob,s1.heap.get? b=some ob/\(PySem.W.hideAll s1.heap S).get? b=some ob:=fun b hb=>by
  obtain⟨u,hu⟩:=Option.isSome_iff_exists.mp hb
  have z:b ≠ e:=fun z=>by rw[z,rK]at hu;cases hu
  rw[lY z]at hu;obtain⟨ob,q⟩:=(I.hok b u hu).there;exact⟨ob,q,inB b ob q z fun y=>by rw[I.qP b y]at hu;cases hu⟩
 have Wu:∀ b ob,s.heap.get? b=some ob->b ∉ frs outer->∃ o',s1.heap.get? b=some o'/\(PySem.W.hideAll s1.heap S).get? b=some o':=fun b ob q hb=>by
  obtain⟨o1,e1⟩:=I.base.there b ob q (by show b ∉ ([]:List Addr);simp);refine⟨o1,e1,inB b o1 e1 (fun z=>?_) fun z=>?_⟩
  ·subst z;have en':s.heap.get? b=none:=en;rw[q]at en'
   cases en'
  ·rw[es]at z;exact (bU.mp z).elim (lC (gR q)) hb
 have ub:Un (frs outer) [] H (del H1 e) s.heap s1.heap:=Un.del I.base hl;show wpAny _ _ (leaving _ (.ref e)) _ _ _;refine GD (L:=s.heap.objs.size) (base:=PySem.W.hideAll s1.heap S) I.ok.frames rfl (fun b ob q=>PySem.W.of_hideAll _ q) (PySem.W.funFrames_hide I.stack hin) (PySem.W.hideAll_none _ (by rw[<-hS];exact Ed)) he hd h1 h0 h2 fun h2 fl sl dk=>?_;rw[hc]at fl;refine⟨e,.ref C,a0,del H1 e,_,rfl,I.os,I.bare,fl,(I.hok.del hl).flown hB fl.1,ub.flown Wu fl.1 sl I.t6,fun b hb=>?_,fun b ob q hb=>?_,_,dk,hq⟩
 ·obtain⟨ob,_,e2⟩:=hB b hb;exact⟨ob,fl.1 b _ e2,e2⟩
 ·obtain⟨o',_,e2⟩:=Wu b ob q hb;exact⟨o',fl.1 b _ e2,e2⟩
end
abbrev VB:List Value:=[.type "ValueError",.type "Exception",.type "BaseException",.type "object"]
theorem Inv.qBE(I:Inv X pins σ H s)(hx:X.ex=[])(q:s.heap.get? e=none):X.s₀.heap.get? e=none:=by
 cases z:X.s₀.heap.get? e with
 | none=>rfl
 | some o=>
  obtain⟨o',y⟩:=I.base.there e o z (by rw[hx];simp);rw[q]at y
  cases y
theorem Inv.Qf(I:Inv X pins σ H s)(q:s.heap.get? e=none):H e=none:=by
 cases z:H e with
 | none=>rfl
 | some o=>
  obtain⟨o',y⟩:=(I.hok e o z).there;rw[q]at y
  cases y
def XP(X:Cx)(pins:List (Addr × Obj))(E:St->XK)(e:Value)(s':Shared):Prop:=∃ σ1 H1 s1,Inv X pins σ1 H1 s1/\pP X.prog X.w X.stack H1 s1 (E σ1) e s'
abbrev TEX:=St->Hp->VK->XK->Prop
abbrev TSX:=Ends->(St->XK)->St->Hp->Prop
def PEX(X:Cx)(e:Expr)(t:TEX):Prop:=∀ pins s σ H Q E,Inv X pins σ H s->t σ H Q (E σ)->wpAny (model X.prog X.w) X.A (eval e X.env) (EP X pins σ Q) (XP X pins E) s
def PSX(X:Cx)(st:List Stmt)(t:TSX):Prop:=∀ pins s σ H D E,Inv X pins σ H s->t D E σ H->wpAny (model X.prog X.w) X.A (execs st X.env) (SP X pins D) (XP X pins E) s
section
noncomputable def Xl(sp:Sp)(pG:List V)(t:TA):TEX:=fun σ H Q E=>t σ H fun vs H1=>sp (vs++pG) H1 Q E
theorem U6(F:aO X.prog X.w X.K X.mg X.base (pP X.prog X.w) k f fd ps sp)(hr:eF k X.A)(hb:Binds X.K fd ps ds)(hd:Vals pG ds)
  (I:Inv X pins σ H s) (r:Vals vs us) (h:sp (vs++pG) H Q (E σ)):wpAny (model X.prog X.w) X.A (call (.ref f) us) (EP X pins σ Q) (XP X pins E) s:=by
 have r2:=r.append hd
 have hl:(us++ds).length=ps.length:=by
  rw[<-r2.length];exact F.len _ _ _ _ h
 refine wpAny_call (codeAny_mono (F.run X.A X.stack s H ⟨us,[]⟩ (us++ds) (vs++pG) Q (E σ) hr I.env0 (hb s us I.kj hl) r2 h) fun r s' z=>?_)
 cases r with
 | error e=>exact⟨σ,H,s,I,z⟩
 | ok fl=>
  cases fl with
  | ret u=>exact I.after z
  | next=>exact False.elim z
  | brk=>exact False.elim z
  | cont=>exact False.elim z
theorem qt(F:aO X.prog X.w X.K X.mg X.base (pP X.prog X.w) k f fd ps sp)(hr:eF k X.A)(hg:Gl X x)(hm:X.mg x=some (.ref f))(hk:PySem.W.keepIn X.K (.ref f)=true)(hb:Binds X.K fd ps ds)(hd:Vals pG ds)
  (ha:PA X.Zm (e :: es) t) (hdb:(x == ("__debug__" : Str))=false:=by decide) (he:starEach (e :: es) X.env=(false,eval e X.env) :: starEach es X.env:=by rfl) (hpl:(backTo pos (starEach es X.env)).any (·.1)=false:=by rfl) :
  PEX X (.Call (.Name x p) (e :: es) [] pos) (Xl sp pG t):=by
 intro pins s σ H Q E I h;refine wpAny_Call_Name_kw (jV I hg hm ?_ hdb);refine PySem.W.callWith_K I.ok.mod.Yr hk (wpAny_mono (ha pos pins s σ H _ (I.wish _) h) (fun us s1 z=>?_) fun _ _ z=>z.elim) he hpl;refine aL fun G_ g_=>?_;obtain⟨vs,H1,I1,r,q⟩:=z;apply g_;clear g_ G_;exact⟨I1.iH.kj,U6 F hr hb hd I1.iH r q⟩
theorem UG(hN:X.N.Nodup)(hi:X.N[i]? = some x)(hx:Loc X.env.scope x)(he:PEX X e tx)(hs:swapsWith e (some (.Name x pos')) pos.line X.env=pure false:=by rfl)(hf:X.fn x=true ∨ X.env.scope.names.lookup x=some .local:=by first | exact .inl rfl | exact .inr rfl | assumption) :
  PSX X [.Assign [.Name x pos'] e pos] (fun D E σ H=>tx σ H (fun v H1=>D.nx (σ.set i (some v)) H1) (E σ)):=by
 intro pins s σ H D E I h;refine wpAny_execs_cons (wpAny_Assign_Name (bA (he pins s σ H _ E I h) fun v s1 ⟨y,H1,I1,r1,q1⟩=>?_) hs);exact il I1 hN hi hx r1 (fun s2 I2=>wpAny_execs_nil ⟨_,H1,I2,q1⟩) hf
theorem w5(he:PEX X e tx)(hs:swapsWith e none pos.line X.env=pure false:=by rfl):PSX X [.Expr e pos] (fun D E σ H=>tx σ H (fun _ H1=>D.nx σ H1) (E σ)):=by
 intro pins s σ H D E I h;exact wpAny_execs_cons (wpAny_Expr_any (bA (he pins s σ H _ E I h) fun v s1 ⟨y,H1,I1,r1,q1⟩=>wpAny_execs_nil ⟨σ,H1,I1,q1⟩) I.quiet hs)
end
abbrev Cx.VH(X:Cx)(e:Addr):Cx:={ X with A:=X.A.mark (some (.ref e)),calm:=false,xe:=fun _ _=>False }
section
theorem Inv.VH(I:Inv X pins σ H s)(ea:Addr):Inv (X.VH ea) pins σ H s:=
 ⟨⟨I.ok.mod,I.ok.kind,I.ok.glob,I.ok.blt,I.ok.above,I.ok.inj,I.ok.has,I.ok.cab,(fun z=>Bool.noConfusion z),I.ok.frames,I.ok.stk,I.ok.exf,I.ok.bs,I.ok.Od,I.ok.Iv,I.ok.Rh,I.ok.rF,I.ok.Vd⟩,I.os,I.bare,I.base,I.loc,I.cell,I.free,I.jA,I.pin,I.hok,I.len⟩
theorem Inv.WD(I:Inv (X.VH ea) pins σ H s)(ok:X.Ok):Inv X pins σ H s:=⟨ok,I.os,I.bare,I.base,I.loc,I.cell,I.free,I.jA,I.pin,I.hok,I.len⟩
end
end L2
namespace L2
open PySem PySem.Spec PyProof.Rows PySem.W
structure pJ(K:Frag)(C:Addr):Prop where
 ga:findIn K (.ref C) "__getattribute__" = some (some (.builtin "BaseException.__getattribute__"))
 no:findIn K (.ref C) "__getattr__" = some none
 cl:findIn K (.ref C) "__class__" = some (some (.builtin "object.__class__"))
 ob:mroIn K C (.type "object")=some true
 be:mroIn K C (.type "BaseException")=some true
 is:(clsIn K C).isSome=true
section
variable{prog:Program}{w:World}{A:Around}{E:Value->Shared->Prop}{h:Heap}{g:Array GenState}{d:Drawn}{t:Nat}{os:OsState}{a C:Addr}{o:Obj}{K:Frag}
theorem Ri(X:K.In h)(q:pJ K C)(hx:h.get? a=some o)(hc:o.cls = .ref C)(hq:R (.ok (.ret (.ref C))) ⟨h,g,d,t,os⟩) :
  codeAny (model prog w) A (.call (.builtin "getset_descriptor.__get__") ⟨[.builtin "object.__class__",.ref a,tp],[]⟩) R ⟨h,g,d,t,os⟩:=by
 have hT5:(⟨h,g,d,t,os⟩:Shared).TypeIs (.builtin "object.__class__") "getset_descriptor" := F.typeOf_object_class
 have L1:Looks (model prog w) h (isSubtype (.ref C) (.type (".".intercalate ("object.__class__".cutAt '.').dropLast))) true:=by
  rw[F.owner_object_class];exact looks_mroIn X q.ob
 refine codeAny_call_builtin F.slot_gs_get.plain F.entry_gs_get (F.slot_gs_get.check _ _ _ _ _ _ _ _ hT5 (F.args_gs_get _ _ _) ?_)
 repeat (any_goals (first | assumption | (with_reducible refine wpAny_loadPart_at hx ?_;rw[hc]) | with_reducible refine L1.at ?_ | wp_step))
 refine⟨Code.quiet_builtin _ (by decide +kernel),codeAny_builtin F.entry_object_class ?_⟩
 repeat (any_goals (first | assumption | (with_reducible refine wpAny_loadPart_at hx ?_;rw[hc]) | wp_step))
theorem xK(X:K.In h)(q:pJ K C)(hx:h.get? a=some o)(hc:o.cls = .ref C)(hq:Q () ⟨h,g,d,t,os⟩) :
  wpAny M A (checkBuiltinCall "BaseException.__getattribute__" ⟨[.ref a,nameV],[]⟩) Q E ⟨h,g,d,t,os⟩:=by
 have h1:builtinKind "BaseException.__getattribute__" = some .slot:=by decide +kernel
 have h2:splitId "BaseException.__getattribute__" = some ("BaseException","__getattribute__"):=by decide +kernel
 have h3:=F.args_bexc_ga (.ref a) nameV;have LS:=looks_mroIn (M:=M) X q.be;simp only[checkBuiltinCall,h1,h2];refine wpAny_bind ?_;unfold isInstance
 repeat (first | (with_reducible refine wpAny_loadPart_at hx ?_;rw[hc]) | with_reducible refine LS.at ?_ | wp_step)
 exact hq
theorem JR(X:K.In h)(q:pJ K C)(hx:h.get? a=some o)(hc:o.cls = .ref C)(hq:Q (.done (.ret (.ref C))) ⟨h,g,d,t,os⟩) :
  wpAny (model prog w) A (Builtin.«object.__getattribute__» ⟨[.ref a,.str "__class__" tk],[]⟩) Q E ⟨h,g,d,t,os⟩:=by
 have hT5:(⟨h,g,d,t,os⟩:Shared).TypeIs (.builtin "object.__class__") "getset_descriptor" := F.typeOf_object_class;have L1:=looks_findIn (M:=model prog w) X q.cl;have f5:=F.typeOf_object_class;have f6:=F.slot_gs_get.lookup;have f7:=F.slot_gs_set.lookup
 repeat (any_goals (first | assumption | (with_reducible refine wpAny_loadPart_at hx ?_;rw[hc]) | with_reducible refine L1.at ?_ | wp_step))
 refine Ri X q hx hc ?_
 repeat (any_goals (first | assumption | wp_step))
theorem Vh(X:K.In h)(q:pJ K C)(hx:h.get? a=some o)(hc:o.cls = .ref C)(hq:Q (.ref C) ⟨h,g,d,t,os⟩) :
  wpAny (model prog w) A (getAttrBy (.ref a) (.str "__class__" tk) false) Q E ⟨h,g,d,t,os⟩:=by
 have f3:=F.excAttr_ValueError.ga.bind (.ref a)
 have x2:(Value.builtin "BaseException.__getattribute__" == Value.builtin "object.__getattribute__")=false:=by decide +kernel
 have x1:(onTheHeap (Value.ref C) && Value.builtin "BaseException.__getattribute__" == Value.builtin "object.__getattribute__")=false:=by rw[x2];rfl
 have L1:=looks_findIn (M:=model prog w) X q.ga;have L2:=looks_findIn (M:=model prog w) X q.no
 repeat (any_goals (first | assumption | (with_reducible refine wpAny_loadPart_at hx ?_;rw[hc]) | with_reducible refine L1.at ?_ | with_reducible refine L2.at ?_ | wp_step))
 refine codeAny_call_builtin F.excAttr_ValueError.ga.plain F.entry_bexc_ga (xK X q hx hc (JR X q hx hc ?_))
 repeat (any_goals (first | assumption | wp_step))
theorem Nh(X:K.In h)(q:pJ K C)(hx:h.get? a=some o)(hc:o.cls = .ref C)(hq:Q (some (.ref C)) ⟨h,g,d,t+1,os⟩) :
  wpAny (model prog w) A (getAttr? (.ref a) "__class__") Q E ⟨h,g,d,t,os⟩:=by
 unfold getAttr? getAttrBy?
 repeat (any_goals (first | assumption | with_reducible apply Vh X q hx hc | wp_step))
def ExcAt(a C:Addr)(dd:Option Addr)(h:Heap):Prop:=∃ ob,h.get? a=some ob/\ob.cls = .ref C/\ob.dict=dd/\notCls ob=true
theorem wR(q:pJ K C):KitX K (.ref a) (.ref C) (ExcAt a C dd) where
 ty:=fun M h _ ⟨ob,hx,hc,_⟩=>by
  rw[<-hc];exact (Looks.ld hx).andThen .now
 it:=fun _ _ X _=>by
  have z0:=q.is;unfold clsIn at z0
  split at z0
  ·rename_i ho
   intro A' Q' E' s' k z;unfold isType loadHead;exact wpAny_bind (wpAny_loadPart (k _ _ (X _ _ ho)) (wpAny_pure z))
  ·cases z0
 ne:=fun h tp dd its n sl X htp=>by
  refine Bool.eq_false_iff.mpr fun z=>?_;have e:C=tp:=Value.ref.inj (beq_iff_eq.mp z);subst e;have z0:=q.is;unfold clsIn at z0
  split at z0
  ·rename_i ho
   have y:=(X _ _ ho).symm.trans htp
   cases y
  ·cases z0
 ca:=fun {_ _ _ _ _ s} X ⟨ob,hx,hc,_⟩ k=>by
  obtain⟨h,g,d,t,os⟩:=s;exact Nh X q hx hc k
end
noncomputable def fO(a C:Addr)(dd:Option Addr):HO:=.ext (ExcAt a C dd)
section
theorem DP(I:Inv X pins σ H s)(e:H a=some (fO a C dd)):ExcAt a C dd s.heap:=(I.hok a _ e).1
theorem oH:∀ {cs:List Addr} {its:List Value},Vals (cs.map V.ref) its->its=cs.map Value.ref
 | [],_,.nil=>rfl
 | c :: cs,v :: vs,.cons r1 r2=>by
  cases (show v=Value.ref c from r1)
  rw[List.map_cons,<-oH r2]
def qB3(K:Frag):List V->Hp->VK->Prop:=fun xs H Q => ∃ a C dd T b,xs=[.ref a,.ty T]/\H a=some (fO a C dd)/\pJ K C/\kitOne K (.ref C) (.type T)=some b/\Q (.bl b) H
theorem S7:jL X (.builtin "isinstance") (qB3 X.K):=by
 intro pins s σ H xs us Q I r h;obtain⟨a,C,dd,T,b,rfl,ha,q,e,z⟩:=h;obtain⟨u,w',rfl,r1,r2⟩:=vals2 r
 cases (show w'=Value.type T from r2)
 cases (show u=Value.ref a from r1)
 exact kia_one (wR q) I.kj (DP I ha) e (fun y=>nomatch y) fun tk=>⟨.bl b,H,I.tok tk,rfl,z⟩
def Wg(K:Frag):List V->Hp->VK->Prop:=fun xs H Q => ∃(a C tp:Addr)(dd:Option Addr)(cs:List Addr)(b:Bool),xs=[.ref a,.ref tp]/\H a=some (fO a C dd)/\pJ K C/\H tp=some (.tup (cs.map V.ref)) ∧
  kitAny K (.ref C) (cs.map Value.ref)=some b/\Q (.bl b) H
theorem Nx:jL X (.builtin "isinstance") (Wg X.K):=by
 intro pins s σ H xs us Q I r h;obtain⟨a,C,tp,dd,cs,b,rfl,ha,q,ht,e,z⟩:=h;obtain⟨u,w',rfl,r1,r2⟩:=vals2 r
 cases (show w'=Value.ref tp from r2)
 cases (show u=Value.ref a from r1)
 obtain⟨_,its,rv,ob,h1,h2,n,h3⟩:=(show bK X.prog X.w H s.heap tp (.tup (cs.map V.ref)) from I.hok tp _ ht);have ei:its=cs.map Value.ref:=oH rv;subst ei;obtain⟨oc,od,dt,sl⟩:=ob
 cases (show oc = .type "tuple" from h2)
 cases (show dt = .seq _ n from h3)
 exact kia_tup (wR q) I.kj (DP I ha) h1 e (fun y=>nomatch y) fun tk=>⟨.bl b,H,I.tok tk,rfl,z⟩
end
end L2
namespace L2
open PySem PySem.Spec PyProof.Rows
section
theorem Inv.gone(I:Inv X pins σ H s)(hN:X.N.Nodup)(hi:X.N[i]? = some n)
  (hm:∀(j:Nat)(y:Str)(v:V),X.N[j]? = some y->σ[j]? = some (some v)->Vis X.env.scope y->∃ u,RelV v u/\Look X.env s.heap m y u)
  (hn':h'.Ns X.env.locals fun y=>if y=n then v' else m y) (hs:Heap.SameBut X.env.locals s.heap h'):Inv X pins (σ.set i none) H { s with heap:=h',toks:=t' }:=by
 have old:∀ b ob,X.s₀.heap.get? b=some ob->b ≠ X.env.locals:=fun b ob q=>lC (Bc (gR q) I.ok.above)
 have hiσ:i < σ.length:=by rw[I.len];exact (jM.mp hi).1
 refine⟨I.ok,I.os,I.bare,⟨fun b ob q z1 z2 z3=>?_,fun b ob q z1 z2 z3=>?_,I.base.free,fun b ob q z=>?_,I.base.tups,I.base.pF,I.base.pR⟩,⟨_,hn',fun j y v e1 e2 e3=>?_⟩,fun y c q=>?_,I.free,I.jA,fun p hp=>?_,fun b ob q=>?_,by simpa using I.len⟩
 ·exact (hs.2 b (old b ob q)).trans (I.base.keep b ob q z1 z2 z3)
 ·obtain⟨sl,e⟩:=I.base.slot b ob q z1 z2 z3;exact⟨sl,(hs.2 b (old b ob q)).trans e⟩
 ·obtain⟨o',e⟩:=I.base.there b ob q z;exact⟨o',(hs.2 b (old b ob q)).trans e⟩
 ·by_cases hj:j=i
  ·subst hj;rw[List.getElem?_set_self hiσ]at e2
   cases e2
  ·rw[List.getElem?_set_ne (Ne.symm hj)]at e2;obtain⟨u,r,l⟩:=hm j y v e1 e2 e3;refine⟨u,r,?_⟩;rcases l with ⟨k,e⟩ | ⟨k,c,e,z⟩
   ·have:y ≠ n:=fun e=>hj (wK hN e1 (e ▸ hi));exact .inl ⟨k,(if_neg this).trans e⟩
   ·exact .inr ⟨k,c,e,z.sameBut hs (I.Vq y c e)⟩
 ·obtain⟨v,z⟩:=I.cell y c q;exact⟨v,z.sameBut hs (I.Vq y c q)⟩
 ·obtain⟨e,z1,z2,z3,z4⟩:=I.pin p hp;exact⟨(hs.2 p.1 z2).trans e,z1,z2,z3,z4⟩
 ·refine (I.hok b ob q).stay (fun c u hc e=>(hs.2 c fun z=>?_).trans e) (fun _ z=>z) fun _ _ z=>z;rcases hc with y | y
  ·rw[<-y,z,I.free]at q
   cases q
  ·rw[z,I.free]at y
   cases y
noncomputable def Xf(K:bj)(C:Addr)(i:Nat)(tb:TSX)(th:TS):TS:=fun D σ H=>tb D (fun σ' cls dd H'=>∃ C1:Addr,cls = .ref C1/\PySem.W.exmOne K cls (.ref C)=some true ∧
 ∀ ea,H' ea=none->th { nx:=fun σ2 H2=>D.nx (σ2.set i none) H2,rt:=D.rt,bk:=fun σ2 H2=>D.bk (σ2.set i none) H2,ct:=fun σ2 H2=>D.ct (σ2.set i none) H2 } (σ'.set i (some (.ref ea))) (upd H' ea (fO ea C1 dd))) σ H
theorem w6(hb:PSX X body tb)(hg:Gl X x)(hm:X.mg x=some (.ref C))(hN:X.N.Nodup)(hi:X.N[i]? = some n)(hl:X.env.scope.names.lookup n=some .local)(hh:∀ e:Addr,xf (X.VH e) (b0 :: suite) th)
  (hst:X.stack=X.env :: X.outer:=by rfl) (hfr:X.env.frame=some X.env.locals:=by rfl) (hdb:(x == ("__debug__" : Str))=false:=by decide) :
  PS X (.Try body [.ExceptHandler (some (.Name x np)) (some n) (b0 :: suite) hpos] [] [] pos) (Xf X.K C i tb th):=by
 intro pins s σ H D I h;refine wpAny_Try_except (wpAny_mono (hb pins s σ H D _ I h) (fun f s1 q=>?_) fun e s1 q=>?_)
 ·cases f with
  | next=>exact wpAny_execs_nil q
  | brk=>exact q
  | cont=>exact q
  | ret u=>exact q
 obtain⟨σ1,H1,s0,I1,ea,cls,a0,H',B,rfl,ho,Wt,fl,hok,un,hB,hC,dd,hdd,C1,rfl,hmt,hth⟩:=q;have Gf:=I1.ok.frames;rw[hst]at fl Gf;refine tD Gf hfr fl hdd fun h4 Aq WY dk4=>JD Aq dk4 fun h5 Vf sl5 dk5=>?_;have u5:=un.flown hC Vf.1 (WY.trans sl5) I1.frames;have J5:Inv X pins σ1 H' { s1 with heap:=h5 }:=I1.call' ho u5 (hok.flown hB Vf.1) Wt (fun _ z=>nomatch z);obtain⟨ob,hob,hoc⟩:=Vf.there;refine wpAny_handleBy_cons (codeAny_handlers_test (jV (J5.VH ea) hg hm ?_ hdb)) (by intro z;cases z)
 have LT:PySem.W.Looks (model X.prog X.w) h5 (typeOf (.ref ea)) (.ref C1):=by
  rw[<-hoc];exact (PySem.W.Looks.ld hob).andThen .now
 refine (PySem.W.exm_one J5.kj LT hmt).here (codeAny_handlers_suite_as ?_);refine qx Vf dk5 fun h6 ZG sl6 dk6=>?_;have u6:=un.flown hC ZG.1 ((WY.trans sl5).trans sl6) I1.frames;obtain⟨oe,ws,e6,c6,d6,_⟩:=ZG.first
 have q6:oe.dict=dd:=by
  obtain⟨o1,z1,z2⟩:=dk6;rw[show h6.get? ea=some oe from e6]at z1
  cases z1
  exact z2.1
 have hH:H' ea=none:=by
  cases q:H' ea with
  | none=>rfl
  | some z=>
   obtain⟨o1,_,e2⟩:=hB ea (by rw[q];rfl);rw[fl.2.1]at e2
   cases e2
 have nea:∀ b o1,s0.heap.get? b=some o1->b ≠ ea:=fun b o1 q z=>by
  subst z
  by_cases hb:b∈frs X.stack
  ·obtain⟨z1,o2,q2,nf⟩:=I1.frames b hb;rw[q]at q2
   cases q2
   obtain⟨sl,q3⟩:=u6.slot b o1 q z1 hb (by simp);rw[e6]at q3
   cases q3
   exact nf ws d6
  ·obtain⟨o',_,q2⟩:=hC b o1 q hb;rw[fl.2.1]at q2
   cases q2
 have u7:Un (frs X.stack) [] H1 (upd H' ea (fO ea C1 dd)) s0.heap h6:=by
  refine⟨u6.keep,u6.slot,fun b o1 q z1 z2=>?_,u6.there,fun b xs q=>?_,fun b o1 u q=>?_,fun b ps q=>?_⟩
  ·rw[zQ (nea b o1 q)];exact u6.free b o1 q z1 z2
  ·have q':=u6.tups b xs q;rw[zQ (zM q' hH)];exact q'
  ·have q':=u6.pF b o1 u q;rw[zQ (zM q' hH)];exact q'
  ·obtain⟨more,q'⟩:=u6.pR b ps q;exact⟨more,by rw[zQ (zM q' hH)];exact q'⟩
 have hk6:=hok.flown hB ZG.1
 have hk7:iZ X.prog X.w (upd H' ea (fO ea C1 dd)) h6:=fun b o1 q=>by
  by_cases hb:b=ea
  ·subst hb;rw[zC]at q
   cases q
   exact⟨⟨oe,e6,c6,q6,by unfold PySem.W.notCls;rw[d6]⟩,⟨oe,e6⟩,fun _ _ ⟨o2,z1,z2⟩ k=>⟨o2,k o2 z1,z2⟩⟩
  ·rw[zQ hb]at q;refine (hk6 b o1 q).stay (fun _ _ _ z=>z) (fun c z=>?_) fun c xs z=>?_
   ·rw[zQ (zM z hH)];exact z
   ·rw[zQ (zM z hH)];exact z
 have J6:Inv X pins σ1 (upd H' ea (fO ea C1 dd)) { s1 with heap:=h6 }:=I1.call' ho u7 hk7 Wt (fun _ z=>nomatch z);refine il (v:=.ref ea) J6 hN hi (.inl hl) rfl (fun s8 I8=>?_) (.inr hl);refine wpAny_mono (hh ea pins _ _ _ _ (I8.VH ea) (hth ea hH)) (fun f s9 q=>?_) fun _ _ z=>z.elim
 have hp:(X.env.scope.kind == .class || (X.env.scope.kind == .module && X.env.locals != X.env.globals))=false:=by
  rw[I.ok.kind];rfl
 cases f with
 | next=>
  obtain⟨σ9,H9,I9,q9⟩:=q;have K9:=I9.WD I1.ok;obtain⟨m9,n9,l9⟩:=id K9.loc;exact wpAny_nameGoes_keeps hl n9 hp fun h' v' hn' hs=>⟨_,H9,K9.gone hN hi l9 hn' hs,q9⟩
 | brk=>
  obtain⟨σ9,H9,I9,q9⟩:=q;have K9:=I9.WD I1.ok;obtain⟨m9,n9,l9⟩:=id K9.loc;exact wpAny_nameGoes_keeps hl n9 hp fun h' v' hn' hs=>⟨_,H9,K9.gone hN hi l9 hn' hs,q9⟩
 | cont=>
  obtain⟨σ9,H9,I9,q9⟩:=q;have K9:=I9.WD I1.ok;obtain⟨m9,n9,l9⟩:=id K9.loc;exact wpAny_nameGoes_keeps hl n9 hp fun h' v' hn' hs=>⟨_,H9,K9.gone hN hi l9 hn' hs,q9⟩
 | ret u=>
  obtain⟨v,σ9,H9,I9,r9,q9⟩:=q;have K9:=I9.WD I1.ok;obtain⟨m9,n9,l9⟩:=id K9.loc;exact wpAny_nameGoes_keeps hl n9 hp fun h' v' hn' hs=>⟨v,_,H9,K9.gone hN hi l9 hn' hs,r9,q9⟩
end
section
end
section
variable{P:Program}{w:World}{K:bj}{mg:Str->Option Value}{base:Heap}
theorem dM.okX{st:Stmt}{f:Addr}{fd:FuncData}{N ps:List Str}{k:Nat}{sp:Sp}(F:dM K x qual st f fd)(S:aH N ps (aC st))(len:∀ vs H Q E,sp vs H Q E->vs.length=ps.length)
  (hbody:∀ cdv A outer s H vs Q E,eF k (A.deeper (envOfC qual (aC st) s.heap.objs.size f cdv))->sp vs H Q E →
   ∃ t,xf (pH (pP P w) P w K mg base N qual (aC st) f cdv A outer s H E) (iU st) t/\t { nx:=fun _ H'=>Q .non H',rt:=Q } (start N vs) H):aO P w K mg base (pP P w) (k+1) f fd ps sp:=by
 refine aL fun G_ g_=>?_;obtain⟨oc,od,kV,doc,pm,an,cdv,ct,osl,rfl,lk,hcd⟩:=F.ex;apply g_;clear g_ G_;exact Ww lk hcd S len fun A outer s H vs Q E hr hsp=>hbody cdv A outer s H vs Q E hr hsp
end
end L2
namespace L2
open PySem PySem.Spec PyProof.Rows PySem.W
noncomputable def qG(K:Frag)(C fI:Addr):Bool:=match K.lookup C with
 | some ⟨.type "type",_,.cls cd,sl⟩=>(match cd.mro,sl.toList with
  | .ref C1 :: bm,[_,_,_,_,some (.builtin n),_]=>C1 == C && (n == "ValueError.__new__" && (!cd.hasDel && (cd.hasDict && (tailIn K VB bm && (nsOkIn K cd.ns && (nsIn K cd.ns "__init__" == some (some (.ref fI)) && isFn K (.ref fI)))))))
  | _,_=>false)
 | _=>false
def HB(h:Heap)(C fI:Addr):Prop:=∃ bm N nm qn bs sn sub ab col dd k0 k1 k2 k3 k5 mN oI,h.get? C=some (excClassObj nm qn C N bs bm true sn sub ab col dd k0 k1 k2 k3 k5 "ValueError.__new__")/\h.Ns N mN ∧
 mN "__init__" = some (.ref fI)/\OwnTail h VB bm/\h.get? fI=some oI/\oI.cls = .type "function"
theorem V4{K:Frag}{h:Heap}{N:Addr}{mg:Str->Option Value}{n:Str}{v:Value}(X:K.In h)(G:h.Ns N mg)(e:nsIn K N n=some (some v)):mg n=some v:=by
 obtain⟨o,es,ep,ho,hd,_,hf⟩:=G;unfold nsIn at e
 split at e
 ·rename_i c d es1 n1 sl q
  have z:=X _ _ q;rw[ho]at z
  cases z
  cases hd
  split at e
  ·rename_i he
   cases e
   rw[<-hf];unfold nsFind findBy;rw[<-Array.find?_toList,he];rfl
  ·split at e <;> cases e
 ·cases e
theorem HB.of{K:Frag}{h:Heap}{C fI:Addr}(q:qG K C fI=true)(X:K.In h):HB h C fI:=by
 unfold qG at q
 split at q
 ·rename_i ddc cdc slc lk
  split at q
  ·rename_i C1 bm k0 k1 k2 k3 n k5 em es
   simp only[Bool.and_eq_true,beq_iff_eq,Bool.not_eq_true']at q;obtain⟨q1,q2,q3,q3d,q4,q5,q6,q7⟩:=q;subst q1 q2;obtain⟨nm,bs,mro,ns,qn,hd,sn,sub,ab,col,del⟩:=cdc;simp only at em q3 q5 q6 q3d;subst em q3 q3d;obtain⟨l⟩:=slc;simp only at es;subst es
   have z:∃ oI,h.get? fI=some oI/\oI.cls = .type "function" := by
    unfold isFn at q7;have q8:=beq_iff_eq.mp q7;simp only[typeIn]at q8
    cases lf:K.lookup fI with
    | none=>rw[lf]at q8;cases q8
    | some ob=>rw[lf]at q8;exact⟨ob,X _ _ lf,iM q8⟩
   obtain⟨oI,z1,z2⟩:=z;exact⟨bm,ns,nm,qn,bs,sn,sub,ab,col,ddc,k0,k1,k2,k3,k5,_,oI,X _ _ lk,.of_isNs (isNs_of_in X q5),V4 X (.of_isNs (isNs_of_in X q5)) q6,tail_of_in X q4,z1,z2⟩
  ·cases q
 ·cases q
section
variable{prog:Program}{w:World}{A:Around}{E:Value->Shared->Prop}{h:Heap}{g:Array GenState}{d:Drawn}{t:Nat}{os:OsState}{C fI:Addr}
theorem Nz{rest:List Value}{Q:Value->Shared->Prop}(c:HB h C fI)(hrest:rest.length<=sizeLine)
  (hq:∀ h' e,Heap.MadeExcOf h h' e (.ref C) rest->wpAny (model prog w) (A.under (.builtin "type.__call__" ⟨.ref C :: rest,[]⟩)) (call (.ref fI) (.ref e :: rest)) (fun r s'=>r = .none/\Q (.ref e) s') E ⟨h',g,d,t,os⟩) :
  wpAny (model prog w) A (call (.ref C) rest) Q E ⟨h,g,d,t,os⟩:=by
 obtain⟨bm,N,nm,qn,bs,sn,sub,ab,col,dd,k0,k1,k2,k3,k5,mN,oI,hC,hn,hi,T,hfI,hfc⟩:=c;have F:=PySem.F.excBase_ValueError;have f1:=tc_lookup;have f2:=tc_bind (.ref C);have hT:(⟨h,g,d,t,os⟩:Shared).TypeIs (.ref C) "type" := ⟨_,hC,rfl⟩;refine wpAny_call (codeAny_of_tree ?_);show wpAny _ _ (callAny (.ref C) _) _ _ _
 repeat (any_goals (first | assumption | with_reducible refine wpAny_loadPart_at hC ?_ | wp_step))
 refine⟨rfl,codeAny_call_builtin_at (Code.quiet_builtin _ (by decide +kernel)) entry_typeCall (wpAny_check_type_call_sub hC ?_)⟩
 repeat (first | with_reducible refine wpAny_loadPart_at hC ?_ | with_reducible refine wpAny_madeBy_exc hC ?_ | wp_step)
 refine codeAny_call_builtin_code (Code.quiet_builtin _ F.quiet) (wpAny_check_new_subT F T hC (codeAny_exc_new_subT F T hC ?_ hrest));show wpAny _ _ _ _ _ ⟨(h.push { cls:=.type "tuple",data:=.seq rest.toArray }).push { cls:=.ref C,data:=.fields #[.ref h.objs.size,.none,.none,.none,.bool false,.none] },g,d,t,os⟩;generalize hh2:(h.push { cls:=.type "tuple",data:=.seq rest.toArray }).push { cls:=.ref C,data:=.fields #[.ref h.objs.size,.none,.none,.none,.bool false,.none] }=h2
 have k2:∀ b o,h.get? b=some o->h2.get? b=some o:=fun b o e=>by rw[<-hh2];exact ie _ (ie _ e)
 have hget:h2.get? (h.objs.size+1)=some { cls:=.ref C,data:=.fields #[.ref h.objs.size,.none,.none,.none,.bool false,.none] }:=by rw[<-hh2];heap_get
 have htup:h2.get? h.objs.size=some { cls:=.type "tuple",data:=.seq rest.toArray }:=by rw[<-hh2];exact ie _ (Heap.get?_push_at rfl rfl)
 have hcC:(Value.ref C :: bm).contains (.ref C)=true:=by simp
 have hC2:=k2 _ _ hC;unfold isInstance
 repeat (first | with_reducible refine wpAny_loadPart_at hget ?_ | (with_reducible refine wpAny_isSubtype_exc hC2 ?_;rw[hcC]) | wp_step)
 show wpAny _ _ (typeLookup (.ref C) _) _ _ _;refine wpAny_typeLookup_tail hC2 (hn.keeps k2) (T.keeps k2) F.mroIs F.init.lookup ?_;rw[hi];refine wpAny_holding (wpAny_bind ?_);unfold bindSpecial;refine wpAny_bind (wpAny_typeOf (T := "function") ⟨_,k2 _ _ hfI,hfc⟩ ?_);rw[if_pos (by decide)];refine wpAny_pure (wpAny_bind (wpAny_mono (hq _ (h.objs.size+1) ⟨k2,Heap.get?_none_of_le (Nat.le_succ _),h.objs.size,hget,Heap.get?_none_of_le (bD _),htup⟩) (fun r s' hr=>?_) fun _ _ x=>x));obtain⟨rfl,hQ⟩:=hr
 wp_walk
 exact hQ
end
section
theorem IK(hh:A.handled=none)
  (h:wpAny M A x (fun v s₁ => ∃ e oe vs,v = .ref e/\HB s₁.heap C fI/\s₁.heap.get? e=some oe/\oe.cls = .ref C/\oe.data = .fields vs/\vs[1]? = some .none/\E (.ref e) s₁) E s) :
  wpAny M A (raiseStmt env (some x) none) Q E s:=by
 unfold raiseStmt;refine wpAny_bind (wpAny_mono h (fun v s₁ h₁=>?_) fun _ _ x=>x);obtain⟨e,oe,vs,rfl,⟨bm,N,nm,qn,bs,sn,sub,ab,col,dd,k0,k1,k2,k3,k5,mN,oI,hC,hn,hi,T,hfI,hfc⟩,he,hc,hd,h1,hE⟩:=h₁
 have hcB:(Value.ref C :: bm).contains (.type "BaseException")=true:=by rw[List.contains_cons,T.hasType PySem.F.excBase_ValueError.hasBase,Bool.or_true]
 obtain⟨hp,g,d,tk,os⟩:=s₁;obtain⟨c1,d1,dt,sl⟩:=oe;simp only at hc hd;subst hc hd;have fld:∀ {Q':Value->Shared->Prop},Q' .none ⟨hp,g,d,tk,os⟩->wpAny M A (field (.ref e) 1) Q' E ⟨hp,g,d,tk,os⟩:=fun z=>wpAny_field he rfl h1 z
 repeat (first | with_reducible refine wpAny_loadPart_at he ?_ | with_reducible refine wpAny_loadPart_at hC ?_ | (with_reducible refine wpAny_isSubtype_exc hC ?_;rw[hcB]) | with_reducible refine fld ?_ | wp_step)
 exact wpAny_raiseNew_none hh hE
end
def ZV(e C:Addr)(dd:Option Addr)(h:Heap):Prop:=∃ t0:Addr,h.get? e=some { cls:=.ref C,dict:=dd,data:=.fields #[.ref t0,.none,.none,.none,.bool false,.none] }
noncomputable def uT(e C:Addr)(dd:Option Addr):HO:=.ext (ZV e C dd)
theorem Ce(x:ZV e C dd h):bK P w H h e (uT e C dd):=
 ⟨x,let ⟨_,q⟩:=x;⟨_,q⟩,fun _ _ ⟨t0,q⟩ k=>⟨t0,k _ q⟩⟩
section
theorem Inv.laidN(I:Inv X pins σ H s)(k:∀ b u,s.heap.get? b=some u->h'.get? b=some u)(hp:s.heap.get? a=none)(new:bK X.prog X.w (upd H a o) h' a o) :
  Inv X pins σ (upd H a o) { s with heap:=h',toks:=t' }:=by
 have hn:H a=none:=I.Qf hp;refine I.un ⟨fun b u q _ _ _=>k b u q,fun b u q _ _ _=>⟨u.slots,k b u q⟩,fun b u q n _=>?_,fun b u q _=>⟨u,k b u q⟩,fun b xs q=>?_,fun b u xs q=>?_,fun b ps q=>⟨#[],?_⟩⟩ fun b u q=>?_
 ·rw[zQ (fun z=>by subst z;rw[hp]at q;cases q)];exact n
 ·rw[zQ (zM q hn)];exact q
 ·rw[zQ (zM q hn)];exact q
 ·rw[zQ (zM q hn),q];simp
 ·by_cases hb:b=a
  ·subst hb;rw[zC]at q
   cases q
   exact new
  ·rw[zQ hb]at q
   exact (I.hok b u q).stay (fun c v _ z=>k c v z) (fun c z=>by rw[zQ (zM z hn)];exact z) fun c xs z=>by rw[zQ (zM z hn)];exact z
end
noncomputable def Th(C:Addr)(sp:Sp)(pG:List V)(E:XK)(t:TA):TS:=fun _ σ H=>t σ H fun vs H1=>vs.length<=sizeLine/\∀ e,H1 e=none →
 sp (.ref e :: (vs++pG)) (upd H1 e (uT e C none)) (fun v H2=>v = .non/\∃ dd,H2 e=some (uT e C dd)/\E (.ref C) dd (del H2 e)) E0
theorem M7{e0:Expr}{rest:List Expr}{t:TA}{E:XK}(hx:SQ X E)(hc:X.calm=true)(hg:Gl X x)
  (hm:X.mg x=some (.ref C)) (hC:qG X.K C fI=true) (hk:keepIn X.K (.ref C)=true) (F:aO X.prog X.w X.K X.mg X.base (pP X.prog X.w) k fI fd ps sp) (hr:eF (k+1) X.A) (hb:Binds X.K fd ps ds) (hd:Vals pG ds)
  (ha:PA X (e0 :: rest) t) (hex:X.ex=[]:=by rfl) (hdb:(x == ("__debug__" : Str))=false:=by decide)
  (he:starEach (e0 :: rest) X.env=(false,eval e0 X.env) :: starEach rest X.env:=by rfl) (hpl:(backTo cpos (starEach rest X.env)).any (·.1)=false:=by rfl) :
  PS X (.Raise (some (.Call (.Name x np) (e0 :: rest) [] cpos)) none pos) (Th C sp pG E t):=by
 intro pins s σ H D I h;rw[arm_exec_Raise];simp only[evalOpt,Option.map];refine wpAny_bind (wpAny_standAt (IK (C:=C) (fI:=fI) (I.ok.hd hc) (wpAny_bind (wpAny_mono ?_ (fun v s₃ h₃=>wpAny_bind (wpAny_standAt (wpAny_pure h₃))) fun _ _ x=>x))));refine wpAny_Call_Name_kw (jV I hg hm ?_ hdb);refine callWith_K (h₀:=X.base) I.ok.mod.Yr hk (bA (ha cpos pins s σ H _ I h) fun us s1 ⟨vs,H1,I1,r,q1,q⟩=>⟨I1.kj,?_⟩) he hpl;obtain⟨hh,g,d,tk,os⟩:=s1;refine Nz (HB.of hC I1.kj) (by rw[List.nil_append,<-r.length];exact q1) fun h' e hm=>?_;obtain⟨t0,z1,_,_⟩:=hm.there;have hH:H1 e=none:=I1.Qf hm.new;have I2:=I1.laidN (o:=uT e C none) (t':=tk) hm.keeps hm.new (Ce ⟨t0,z1⟩);have hq:=q e hH;have r2:Vals (V.ref e :: (vs++pG)) (Value.ref e :: (us++ds)):=.cons rfl (r.append hd)
 have hl:(Value.ref e :: us++ds).length=ps.length:=by
  have z:=r2.length;rw[F.len _ _ _ _ hq]at z;exact z.symm
 refine wpAny_call (codeAny_mono (F.run _ X.stack _ _ ⟨Value.ref e :: us,[]⟩ (Value.ref e :: (us++ds)) _ _ E0 (hr.make C us []) (I2.env0.make C us []) (hb _ (Value.ref e :: us) I2.kj hl) r2 hq) fun r s' z=>?_)
 cases r with
 | error e=>obtain⟨_,_,_,_,_,_,_,_,_,_,_,_,_,_,_,y⟩:=z;exact y.elim
 | ok fl=>
  cases fl with
  | ret u=>
   obtain⟨v,H',I3,rv,ev,dd,y1,y2⟩:=I2.after z;subst ev;obtain⟨⟨t1,y3⟩,_⟩:=I3.hok e _ y1;exact⟨rv,e,_,_,rfl,HB.of hC I3.kj,y3,rfl,rfl,rfl,hx pins σ H' s' e C (.ref t1) _ _ I3 (I1.qBE hex hm.new) (.inr ⟨_,y1⟩) y3 rfl rfl rfl rfl (fun _=>rfl) y2⟩
  | next=>exact False.elim z
  | brk=>exact False.elim z
  | cont=>exact False.elim z
section
theorem O3{rest:List Value}{Q:Value->Shared->Prop}(c:HB s.heap C fI)(he:s.heap.get? e=some { cls:=.ref C,dict:=dd,data:=.fields #[.ref t0,.none,.none,.none,.bool false,.none] })(hrest:rest.length<=sizeLine)
  (h:∀ h',ZV e C dd h'->(∀ b o,b ≠ e->s.heap.get? b=some o->h'.get? b=some o)->Q .none { s with heap:=h' }):wpAny (model prog w) A (call (.builtin "ValueError.__init__") (.ref e :: rest)) Q E s:=by
 obtain⟨bm,N,nm,qn,bs,sn,sub,ab,col,d1,k0,k1,k2,k3,k5,mN,oI,hC,hn,hi,T,hfI,hfc⟩:=c;have F:=PySem.F.excBase_ValueError;obtain⟨hp,g,d,tk,os⟩:=s;refine wpAny_call (codeAny_call_builtin F.init.plain F.initEntry (wpAny_check_init_subT F T hC he rfl ?_));unfold Builtin.«BaseException.__init__»
 dsimp only
 rw[if_neg (by simp)];unfold newTuple Builtin.BaseException.bexcPut;have Ks:=ie (h:=hp) { cls:=.type "tuple",data:=.seq rest.toArray } he;refine wpAny_bind (wpAny_newObj_type (wpAny_bind (wpAny_bind (wpAny_field Ks rfl rfl (wpAny_bind (wpAny_setField Ks rfl (by show 0 < 6;decide) ?_))))) (by show rest.toArray.size<=sizeLine;rw[qN];exact hrest));refine wpAny_letGo (wpAny_pure (h _ ⟨hp.objs.size,?_⟩ fun b o hb ho=>?_))
 ·rw[Heap.get?_update_self _ Ks rfl];rfl
 ·rw[Heap.get?_update_other _ _ (Ne.symm hb)];exact ie _ ho
end
noncomputable def tBase(K:Frag)(t:TA):TS:=fun D σ H=>t σ H fun vs H1 => ∃ e C fI dd xs,vs = .ref e :: xs/\xs.length<=sizeLine/\qG K C fI=true/\H1 e=some (uT e C dd)/\D.nx σ (upd H1 e (uT e C dd))
theorem UW{e0:Expr}{rest:List Expr}{t:TA}{pl:Sem Bool}(hg:Gl X x)(hm:X.mg x=some (.ref B))(hsp:specialIn X.K (.ref B) "__getattribute__" = some (some (.builtin "type.__getattribute__")))
  (hrd:readsIn X.K B (.type "type")=true) (hf:findCls X.K (.ref B) (.type "type") "__init__" = some (.val (.builtin "ValueError.__init__"))) (ha:PA X (e0 :: rest) t) (hdb:(x == ("__debug__" : Str))=false:=by decide)
  (he:starEach (e0 :: rest) X.env=(false,eval e0 X.env) :: starEach rest X.env:=by rfl) (hpl:(backTo cpos (starEach rest X.env)).any (·.1)=false:=by rfl)
  (ht:eval (.Call (.Attribute (.Name x np) "__init__" ap) (e0 :: rest) [] cpos) X.env=(do
   let ov ← eval (.Name x np) X.env
   standAt ap.atName
   let (f,first) ← holding [ov] (getMethod ov "__init__" pl)
   callWith cpos f first (backTo cpos (starEach (e0 :: rest) X.env)) (backToKw cpos (keywordEach [] X.env))):=by rfl)
  (hs:swapsWith (.Call (.Attribute (.Name x np) "__init__" ap) (e0 :: rest) [] cpos) none pos.line X.env=pure false:=by rfl) :
  PS X (.Expr (.Call (.Attribute (.Name x np) "__init__" ap) (e0 :: rest) [] cpos) pos) (tBase X.K t):=by
 intro pins s σ H D I h;refine wpAny_Expr_any (Q:=SP X pins D) ?_ I.quiet hs;refine methodCall_KW (pl:=pl) (jV I hg hm ?_ hdb) ht;refine method_cls I.kj hsp (cls_value I.kj hrd hf rfl ?_);refine callWith_builtin1 (bA (ha cpos pins _ σ H _ (I.tok _) h) fun us s1 ⟨vs,H1,I1,r,z⟩=>?_) he hpl;obtain⟨e,C,fI,dd,xs,rfl,q1,q2,q3,q4⟩:=z
 obtain⟨u,ws,rfl,r1,r2⟩:∃ u ws,us=u :: ws/\RelV (.ref e) u/\Vals xs ws:=by
  cases r with
  | cons a b=>exact⟨_,_,rfl,a,b⟩
 cases (show u=Value.ref e from r1)
 obtain⟨⟨t0,y⟩,_⟩:=I1.hok e _ q3;refine O3 (HB.of q2 I1.kj) y (by rw[<-r2.length];exact q1) fun h' nx k=>?_;exact⟨σ,_,I1.write (x:=e) (e:=e) (t':=s1.toks) (by rw[q3];exact True.intro) (.inl rfl) k (let ⟨_,z⟩:=nx;⟨_,z⟩) (Ce nx),q4⟩
end L2
namespace L2
open PySem PySem.Spec PyProof.Rows PySem.W
open Builtin Builtin.ObjectAttr
noncomputable def QH:List Value->Bool
 | .ref _ :: r=>QH r
 | l=>l == VB
theorem uF(self:Value):∀ {l:List Value},QH l=true->refuseLoop self "__setattr__" l=pure ()
 | .ref c :: r,e=>by rw[refuseLoop_ref];exact uF self (l:=r) e
 | [],e=>by cases e
 | .none :: r,e=>by cases e
 | .bool b :: r,e=>by cases e
 | .int i t :: r,e=>by cases e
 | .float _ _ :: r,e=>by cases e
 | .str _ _ :: r,e=>by cases e
 | .type n :: r,e=>by
  rw[show (Value.type n :: r)=VB from beq_iff_eq.mp e];exact PySem.F.store_ValueError.passes self
 | .builtin n :: r,e=>by cases e
 | .notImplemented :: r,e=>by cases e
 | .ellipsis :: r,e=>by cases e
structure xU(K:Frag)(C:Addr)(f:Str):Prop where
 sa:findIn K (.ref C) "__setattr__" = some (some (.builtin "object.__setattr__"))
 no:findIn K (.ref C) f=some none
 ok:((clsIn K C).any fun cd=>QH cd.mro && cd.hasDict)=true
 ob:mroIn K C (.type "object")=some true
section
variable{prog:Program}{w:World}{A:Around}{E:Value->Shared->Prop}{s:Shared}{K:Frag}{e C:Addr}{f:Str}{v:Value}{vs:Array Value}
theorem Tv(X:K.In s.heap)(q:xU K C f)(he:s.heap.get? e=some { cls:=.ref C,dict:=none,data:=.fields vs })
  (h:∀ h' t',h'.get? e=some { cls:=.ref C,dict:=some s.heap.objs.size,data:=.fields vs }->h'.Ns1 s.heap.objs.size (fun y=>if y=f then some v else none)->(∀ b o,b ≠ e->s.heap.get? b=some o->h'.get? b=some o) →
   Q () { s with heap:=h',toks:=t' }):wpAny (model prog w) A (setAttr (.ref e) f v) Q E s:=by
 have I:InstAt s.heap e { cls:=.ref C,dict:=none,data:=.fields vs } C none:=⟨he,rfl,rfl,True.intro⟩;refine set_plain X I q.sa ?_;have SF:=PySem.F.store_object;obtain⟨cd,hc,ho⟩:=any_some q.ok;obtain⟨hp,hd⟩:=Bool.and_eq_true_iff.mp ho;have sub:Looks (model prog w) s.heap (isInstance (.ref e) (.type "object")) true:=I.type.andThen (looks_mroIn X q.ob);refine codeAny_call_builtin SF.slot.plain SF.entry (@check_slot (model prog w) _ _ { s with toks:=s.toks+1 } "object.__setattr__" "object" "__setattr__" (.ref e) [.str f s.toks,v] [] _ SF.kind SF.split sub (SF.args (.ref e) (.str f s.toks) v) ?_);have hm:Looks (model prog w) s.heap (mroOf (.ref C)) cd.mro:=(looks_clsIn X hc).andThen .now;rw[osa_eq,refuse_eq];refine wpAny_bind (wpAny_bind (Looks.here (s:={ s with toks:=s.toks+1 }) I.type (wpAny_bind (Looks.here (s:={ s with toks:=s.toks+1 }) hm ?_))));rw[uF _ hp];refine wpAny_pure (wpAny_bind (Looks.here (s:={ s with toks:=s.toks+1 }) I.type (wpAny_bind (Looks.here (s:={ s with toks:=s.toks+1 }) (looks_findIn X q.no) (wpAny_bind (wpAny_pure ?_))))));show wpAny _ _ (storeInOwnDict (.ref e) (.ref C) (.str f s.toks) f v false) _ _ _;refine wpAny_bind (wpAny_pure (wpAny_bind (wpAny_bind (wpAny_loadPart he (wpAny_bind (Looks.here (s:={ s with toks:=s.toks+1 }) (looks_clsIn X hc) ?_))))));rw[hd];have hxs:e ≠ s.heap.objs.size:=lC (gR he);have Ks:(s.heap.push { cls:=.type "dict",data:=.dict #[] }).get? e=some { cls:=.ref C,dict:=none,data:=.fields vs }:=ie _ he;refine wpAny_bind (wpAny_alloc' (wpAny_bind (wpAny_update' Ks (wpAny_pure ?_))))
 have e2:((s.heap.push { cls:=.type "dict",data:=.dict #[] }).update e fun o=>{ cls:=o.cls,dict:=some s.heap.objs.size,data:=o.data,slots:=o.slots }).get? s.heap.objs.size=some { cls:=.type "dict",data:=.dict #[] }:=
  (Heap.get?_update_ne _ _ _ _ hxs.symm).trans (Heap.get?_push_at rfl rfl)
 have e3:((s.heap.push { cls:=.type "dict",data:=.dict #[] }).update e fun o=>{ cls:=o.cls,dict:=some s.heap.objs.size,data:=o.data,slots:=o.slots }).get? e=some { cls:=.ref C,dict:=some s.heap.objs.size,data:=.fields vs }:=
  Heap.get?_update_self _ Ks rfl
 have hnd:((s.heap.push { cls:=.type "dict",data:=.dict #[] }).update e fun o=>{ cls:=o.cls,dict:=some s.heap.objs.size,data:=o.data,slots:=o.slots }).Ns s.heap.objs.size (fun _=>none):=
  ⟨_,#[],_,e2,rfl,fun e he=>absurd he (by simp),fun _=>rfl⟩
 refine wpAny_bind (wpAny_pure (wpAny_bind ?_));refine wpAny_nsSet1 (Heap.Ns1.of_empty hnd) fun h' hn' hs=>?_;obtain⟨oD,esD,epD,hoD,hdD,hcD⟩:=hn'.count (Within.cons f v Within.nil);refine wpAny_bind (wpAny_lookBehind hoD (by rw[hdD];exact pastItsLine_dict (Nat.le_trans hcD (by rw[eO,List.length_nil,sizeLine_eq];lia))) ?_);refine wpAny_pure (h h' _ ((hs.2 e hxs).trans e3) hn' fun b o hb ho=>?_);exact (hs.2 b (lC (gR ho))).trans ((Heap.get?_update_ne _ _ _ _ hb).trans (ie _ ho))
end
theorem xU.dict{K:Frag}{C:Addr}{f:Str}(q:xU K C f):hasDictIn K C=true:=by
 obtain⟨cd,hc,ho⟩:=any_some q.ok;unfold hasDictIn;rw[hc];exact (Bool.and_eq_true_iff.mp ho).2
section
variable{prog:Program}{w:World}{A:Around}{E:Value->Shared->Prop}{K:Frag}{a C dx:Addr}{f:Str}{v:Value}{o:Obj}{mA:Str->Option Value}
theorem Vc{t:Nat}{os:OsState}{expr:Bool}{Q:Value->Shared->Prop}(X:K.In h)(q:pJ K C)(q2:xU K C f)(he:h.get? a=some o)(hc:o.cls = .ref C)(hno:notCls o=true)(hd:o.dict=some dx)(hn:h.Ns1 dx mA)
  (hv:mA f=some v) (hh:handedIn v=true) (hq:Q v ⟨h,g,d,t+1,os⟩):wpAny (model prog w) A (getAttr (.ref a) f expr) Q E ⟨h,g,d,t,os⟩:=by
 obtain⟨od,ho,hl⟩:=Aj hn;have I:InstAt h a o C (some od):=⟨he,hc,hno,by rw[hd];exact ho⟩;have LF:=looks_find (M:=model prog w) X I (findObj_own q2.dict q2.no rfl ((hl f).trans (congrArg some hv)))
 have x2:(Value.builtin "BaseException.__getattribute__" == Value.builtin "object.__getattribute__")=false:=by decide +kernel
 have x1:(onTheHeap (Value.ref C) && Value.builtin "BaseException.__getattribute__" == Value.builtin "object.__getattribute__")=false:=by rw[x2];rfl
 refine wpAny_bind (wpAny_mkText (wpAny_holding (wpAny_bind (I.type _ _ _ _ (fun _ _ e=>e) (wpAny_bind (looks_findIn X q.ga _ _ _ _ (fun _ _ e=>e) ?_))))))
 dsimp only
 rw[x1,if_neg pQ];refine wpAny_bind ((looks_hook (mc:=.ref C) X (r:=none) (by rw[if_pos (show onTheHeap (Value.ref C)=true from rfl)];exact q.no)) _ _ _ _ (fun _ _ e=>e) (wpAny_bind (wpAny_attempt (wpAny_holding ?_))));unfold callGetattribute;rw[show (expr && onTheHeap (Value.builtin "BaseException.__getattribute__"))=false from Bool.and_false _,if_neg pQ];unfold boundAndCalled;rw[F.excAttr_ValueError.ga.bind];refine wpAny_bind (wpAny_pure ?_);show wpAny _ _ (call (.builtin "BaseException.__getattribute__") [.ref a,.str f t]) _ _ _;refine wpAny_call (codeAny_call_builtin F.excAttr_ValueError.ga.plain F.entry_bexc_ga (xK X q he hc ?_))
 repeat (any_goals (first | assumption | (with_reducible refine wpAny_loadPart_at he ?_;rw[hc]) | with_reducible refine LF.at ?_ | wp_step))
 show wpAny _ _ (handedOut v) _ _ _;rw[handedOut_of hh];exact wpAny_pure hq
end
noncomputable def Jq(K:Frag)(ta:TE)(f:Str):TE:=fun σ H Q=>ta σ H fun x H1 => ∃ a C dx fs v,x = .ref a/\H1 a=some (fO a C (some dx))/\pJ K C/\xU K C f/\H1 dx=some (.xd fs)/\fs.lookup f=some v/\Q v H1
noncomputable def qAV(K:Frag)(ta tv:TE)(f:Str):TS:=fun D σ H=>tv σ H fun y H1=>ta σ H1 fun x H2 => ∃ e C,x = .ref e/\H2 e=some (uT e C none)/\xU K C f/\∀ dx,H2 dx=none->dx ≠ e->D.nx σ (upd (upd H2 dx (.xd [(f,y)])) e (uT e C (some dx)))
section
theorem CP(he:PE X e ta)(hb:attributeBase e f X.env (eval e X.env)=eval e X.env):PE X (.Attribute e f pos) (Jq X.K ta f):=by
 intro pins s σ H Q I h;refine Lh hb (bA (he pins s σ H _ I h) fun u s1 ⟨x,H1,I1,rx,a,C,dx,fs,v,ex,ea,c,n,ed,l,q⟩=>?_);subst ex;obtain rfl:u=Value.ref a:=rx;obtain⟨mA,hn,r⟩:=I1.hok dx _ ed;obtain⟨ob,z1,z2,z3,z4⟩:=DP I1 ea;obtain⟨w1,hw,rw1⟩:=lu.some_of (v:=v) (o:=mA f) (by rw[<-l];exact r f);obtain⟨hh,g,d,t,os⟩:=s1;exact Vc I1.kj c n z1 z2 z4 z3 hn hw (Ar rw1) ⟨v,H1,I1.tok _,rw1,q⟩
theorem UL(ha:PE X o ta)(hv:PE X value tv)(hs:swapsWith value (some (.Attribute o f pos')) pos.line X.env=pure false):PS X (.Assign [.Attribute o f pos'] value pos) (qAV X.K ta tv f):=by
 intro pins s σ H D I h;refine plainObj_wpAny_Assign_Attribute (bA (hv pins s σ H _ I h) fun u s1 ⟨y,H1,I1,ry,q⟩=>bA (ha pins s1 σ H1 _ I1 q) fun ov s2 ⟨x,H2,I2,rx,e,C,ex,ea,n,q2⟩=>?_) hs;subst ex;obtain rfl:ov=Value.ref e:=rx;obtain⟨⟨t0,z⟩,_⟩:=I2.hok e _ ea;have hf:H2 s2.heap.objs.size=none:=I2.fresh;have ne:s2.heap.objs.size ≠ e:=Nat.ne_of_gt (gR z);refine Tv I2.kj n z fun h' t' z1 z2 z3=>⟨σ,_,?_,q2 _ hf ne⟩;have d1:∃ ob,h'.get? s2.heap.objs.size=some ob:=let ⟨ob,_,_,e,_⟩:=z2;⟨ob,e⟩;have hnew:s2.heap.get? s2.heap.objs.size=none:=Heap.get?_none_of_le (bD _);refine I2.un ⟨fun b u q n _ _=>z3 b u (fun y=>by subst y;rw[n]at ea;cases ea) q,fun b u q n _ _=>⟨u.slots,z3 b u (fun y=>by subst y;rw[n]at ea;cases ea) q⟩,fun b u q n _=>?_,fun b u q _=>?_,fun b xs q=>?_,fun b u xs q=>?_,fun b ps q=>⟨#[],?_⟩⟩ fun b u q=>?_
 ·rw[zQ (fun y=>by subst y;rw[n]at ea;cases ea),zQ (fun y=>by subst y;rw[hnew]at q;cases q)];exact n
 ·by_cases hb:b=e
  ·subst hb;exact⟨_,z1⟩
  ·exact⟨u,z3 b u hb q⟩
 ·rw[zQ (fH q ea nofun),zQ (zM q hf)];exact q
 ·rw[zQ (fH q ea nofun),zQ (zM q hf)];exact q
 ·rw[zQ (fH q ea nofun),zQ (zM q hf),q];simp
 ·by_cases hb:b=e
  ·subst hb;rw[zC]at q
   cases q
   exact Ce ⟨t0,z1⟩
  ·rw[zQ hb]at q
   by_cases hx:b=s2.heap.objs.size
   ·subst hx;rw[zC]at q
    cases q
    refine⟨_,z2,fun y=>?_⟩
    by_cases k:y=f
    ·subst k;show lu (List.lookup y [(y,_)]) (if y=y then some u else none);rw[if_pos rfl,List.lookup_cons_self];exact ry
    ·show lu (List.lookup y [(f,_)]) (if y=f then some u else none)
     have z5:(y == f)=false:=by simpa using k
     rw[if_neg k,List.lookup_cons,z5];exact True.intro
   ·rw[zQ hx]at q;refine (I2.hok b u q).stay (fun c v hc y=>z3 c v (fun k=>?_) y) (fun c y=>?_) fun c xs y=>?_
    ·rcases hc with k2 | k2
     ·exact hb (k2.symm.trans k)
     ·rw[k,ea]at k2;cases k2
    ·rw[zQ (fH y ea nofun),zQ (zM y hf)];exact y
    ·rw[zQ (fH y ea nofun),zQ (zM y hf)];exact y
end
end L2
namespace L2
open PySem PySem.Spec PyProof.Rows
section
theorem Ms(hfr:A.frames=some (env :: outer))(hf:env.frame=some L)(hkb:base.StaysIn s.heap)(hb:base.get? e=none)(hl:s.heap.FunFrames base (env :: outer))(ht:s.heap.TracedAtW base e cls a0 fl)(x:DictAt s.heap e dd)
  (hQ:∀ h',Heap.FlyingW base outer e cls a0 h'->s.heap.UpToSlots h'->DictAt h' e dd->Q () { s with heap:=h' }):wpAny M A (leaving env (.ref e)) Q E s:=by
 by_cases hfl:fl=rawInt L
 ·subst hfl;unfold leaving;refine wpAny_bind (wpAny_noteFrame_againW hf ht (JD ⟨hkb,hb,hl,ht⟩ x fun h' ⟨k1,k2,⟨_,_,k3⟩,k4⟩ sl dk=>hQ h' ⟨k1,k2,k3,k4⟩ sl dk))
 ·obtain⟨oe,vs,T,oT,ts,he,⟨hc,h0⟩,hd,h1,hnT,hTe,hT,hdT,h3⟩:=ht;subst hc;unfold leaving noteFrame;simp only[hf];refine wpAny_bind (wpAny_bind (wpAny_field he hd h1 ?_));rw[if_pos (show (Value.ref T != Value.none)=true by simp)];refine wpAny_bind (wpAny_field hT hdT h3 ?_);rw[if_neg (show ¬ ((fl == rawInt L)=true) by simpa using hfl)];refine wpAny_bind (wpAny_setField hT hdT (Array.getElem?_eq_some_iff.mp h3).1 ?_);have other:∀ b,b ≠ T->(s.heap.update T (Obj.mapFields (·.setIfInBounds 3 Value.none))).get? b=s.heap.get? b:=fun b z=>Heap.get?_update_other _ _ (Ne.symm z)
  have Fp:∀ b o,s.heap.get? b=some o->(∀ vs,o.data ≠ .fields vs)->b ≠ T:=fun b o z1 z2 z=>by
   subst z;rw[hT]at z1
   cases z1
   exact z2 ts hdT
  have hl1:(s.heap.update T (Obj.mapFields (·.setIfInBounds 3 Value.none))).FunFrames base (env :: outer):=hl.of_keeps fun b o z1 z2=>⟨o,(other b (Fp b o z1 z2)).trans z1,rfl⟩;have Ks:=(other e (Ne.symm hTe)).trans he;have x1:DictAt (s.heap.update T (Obj.mapFields (·.setIfInBounds 3 Value.none))) e dd:=x.upd hT hdT;have hsz:=(Array.getElem?_eq_some_iff.mp h1).1
  refine wpAny_mono (dC (wpAny_newEntryW (s:={ s with heap:=s.heap.update T (Obj.mapFields (·.setIfInBounds 3 Value.none)) }) (Q:=fun _ s'=>∃ h',s' = { s with heap:=h' }/\Heap.LeftW base (env :: outer) e oe.cls a0 (s.heap.update T (Obj.mapFields (·.setIfInBounds 3 Value.none))) h') hfr hl1 hf Ks
   (fun b o z=>(other b fun q=>by rw[q,hnT]at z;cases z).trans (hkb b o z)) hb hd hsz h0 fun h' k=>⟨h',rfl,k⟩)
   (lX (s:={ s with heap:=s.heap.update T (Obj.mapFields (·.setIfInBounds 3 Value.none)) }) (Q:=fun _ s'=>wpAny M A (setFlight (.ref e) none) (fun _ s2=>DictAt s2.heap e dd) E s') hfr hl1 hf Ks hd hsz x1 fun h2 T2 oT2 ts2 y1 ⟨oe',vs',q1,q2,q3⟩ q4 q5 q6=>?_))
   (fun _ s2 z=>wpAny_mono (dC z.1 z.2) (fun _ s3 ⟨⟨h',y,k1,⟨_,_,k2⟩,k3,k4⟩,k5⟩=>by subst y;exact hQ h' ⟨k1,hb,k2,k3⟩ (fun b o z1 z2=>k4 b o ((other b (Fp b o z1 z2)).trans z1) z2) k5) fun _ _ y=>y) fun _ _ y=>y
  unfold setFlight;refine wpAny_bind (wpAny_field q1 q2 q3 ?_);rw[if_pos (show (Value.ref T2 != Value.none)=true by simp)];exact wpAny_setField q4 q5 q6 (y1.upd q4 q5)
end
def rW(X:Cx)(E:XK):Prop:=∀ pins σ H1 s1 ea cls a0 fl dd H' B s',Inv X pins σ H1 s1->s'.os=X.s₀.os->AllBare s'.gens →
 B.StaysIn s'.heap->B.get? ea=none->s'.heap.FunFrames B X.stack->s'.heap.TracedAtW B ea cls a0 fl->iZ X.prog X.w H' s'.heap->Un (frs X.outer) [] X.H₀ H' X.s₀.heap s'.heap->(∀ b,(H' b).isSome=true->∃ o,s'.heap.get? b=some o/\B.get? b=some o) →
 (∀ b o,X.s₀.heap.get? b=some o->b ∉ frs X.outer->∃ o',s'.heap.get? b=some o'/\B.get? b=some o')->DictAt s'.heap ea dd->E cls dd H'->X.xe (.ref ea) s'
section
variable{P:Program}{w:World}{K:bj}{mg:Str->Option Value}{base:Heap}{N:List Str}{qual:Str}{scope:Scope}{f:Addr}{cd:Value}{A:Around}{outer:List Env}{s:Shared}{H:Hp}{E E':XK}
theorem qB9(hE:∀ c d H,E' c d H->E c d H):rW (pH (pP P w) P w K mg base N qual scope f cd A outer s H E) E':=by
 intro pins σ H1 s1 ea cls a0 fl dd H' B s' I ho hg st hb hl ht hok un hB hC hdd hq;show wpAny _ _ (leaving _ (.ref ea)) _ _ s';refine Ms (L:=s.heap.objs.size) I.ok.frames rfl st hb hl ht hdd fun h' Gg sl dk=>?_;refine⟨ea,cls,a0,H',B,rfl,ho,hg,Gg,hok.flown hB Gg.1,un.flown hC Gg.1 sl I.t6,fun b hb=>?_,fun b ob q hb=>?_,dd,dk,hE _ _ _ hq⟩
 ·obtain⟨ob,_,e2⟩:=hB b hb;exact⟨ob,Gg.1 b _ e2,e2⟩
 ·obtain⟨o',_,e2⟩:=hC b ob q hb;exact⟨o',Gg.1 b _ e2,e2⟩
end
section
theorem S5(hp:rW X EX)(hex:X.ex=[])(I:Inv X pins σ H2 s2)(hn:s2.heap.Ns C m)(hC:H2 C=none)(hCs:C ∉ frs X.stack)(Wu:X.s₀.heap.get? C=none)
  (hst:X.stack=X.env :: X.outer) (hfr:X.env.frame=some X.env.locals)
  (h:pP X.prog X.w X.stack H2 s2 EX e s'):notedBy (model X.prog X.w) X.A (compEnvC sc cl C X.env) (fun e s3=>compPost (model X.prog X.w) X.A X.xe use Qv acc C (.error e) s3) e s':=by
 obtain⟨ea,cls,a0,H',B,rfl,ho,Wt,fl,hok,un,hB,hCc,dd,hdd,hq⟩:=h;have Gf:=I.ok.frames;rw[hst]at fl Gf;show wpAny _ _ (noteFrame (.ref ea) X.env) _ _ s';refine tD Gf hfr fl hdd fun h4 Aq WY dk4=>?_;obtain⟨oC,esC,epC,gC,rC⟩:=id hn
 have bC:B.get? C=some oC:=by
  obtain⟨o',z1,z2⟩:=hCc C oC gC hCs;rw[un.keep C oC gC hC hCs (by simp)]at z1
  cases z1
  exact z2
 have hC1:H' C=none:=un.free C oC gC hC (by simp);refine⟨m,⟨oC,esC,epC,Aq.1 _ _ bC,rC⟩,fun h5 sb cenv _=>?_⟩;obtain⟨k1,k2,k3,oe,vs,T,oT,ts,he,hcl,hd,h1,hnT,hTe,hT,hdT,h3⟩:=Aq
 have Zo:ea ≠ C:=fun z=>by rw[z,bC]at k2;cases k2
 have nTC:T ≠ C:=fun z=>by rw[z,bC]at hnT;cases hnT
 have e5:h5.get? ea=some oe:=(sb.2 ea Zo).trans he;have T5:h5.get? T=some oT:=(sb.2 T nTC).trans hT;have sz3:=(Array.getElem?_eq_some_iff.mp h3).1;unfold PySem.passOn;refine wpAny_bind (wpAny_field e5 hd h1 ?_);rw[if_neg (show ¬ ((Value.ref T == Value.none)=true) by simp)];refine wpAny_bind (m:=setFlight (.ref ea) cenv.frame) ?_;unfold setFlight;refine wpAny_bind (wpAny_field e5 hd h1 ?_);rw[if_pos (show (Value.ref T != Value.none)=true by simp)];refine wpAny_setField T5 hdT sz3 (wpAny_throw ?_);generalize hfv:(cenv.frame.elim Value.none fun f=>rawInt f)=fv;generalize hh6:h5.update T (Obj.mapFields (·.setIfInBounds 3 fv))=h6
 have o6:∀ b,b ≠ T->h6.get? b=h5.get? b:=fun b z=>by rw[<-hh6];exact Heap.get?_update_other _ _ (Ne.symm z)
 have T6:h6.get? T=some (oT.mapFields (·.setIfInBounds 3 fv)):=by rw[<-hh6];exact Heap.get?_update_self _ T5 (Obj.isFreed_of_fields (Obj.data_mapFields hdT _))
 have e6:h6.get? ea=some oe:=(o6 ea (Ne.symm hTe)).trans e5;have J3:=I.call' ho un hok Wt (fun _ z=>nomatch z);have Ej:∀ b o,B.get? b=some o->b ≠ C->h6.get? b=some o:=fun b o z1 z2=>(o6 b (fun y=>by rw[y,hnT]at z1;cases z1)).trans ((sb.2 b z2).trans (k1 b o z1));have gB:∀ b o,B.get? b=some o->b ≠ C->(PySem.W.hideAll B [C]).get? b=some o:=fun b o z1 z2=>PySem.W.hideAll_get _ z1 (by simpa using z2)
 have hBn:∀ b,B.get? b=none->(PySem.W.hideAll B [C]).get? b=none:=fun b z=>by
  cases q:(PySem.W.hideAll B [C]).get? b with
  | none=>rfl
  | some o=>have:=PySem.W.of_hideAll _ q;rw[z]at this;cases this
 have nC:∀ b,(PySem.W.hideAll B [C]).get? b ≠ none->b ≠ C:=fun b z y=>z (by rw[y];exact PySem.W.hideAll_none _ (by simp))
 have keep6:∀ b o,b ≠ C->b ≠ T->s'.heap.get? b=some o->(∀ vs,o.data ≠ .fields vs)->∃ sl,h6.get? b=some { o with slots:=sl }:=fun b o z1 z2 z3 z4=>by
  obtain⟨sl,y⟩:=WY b o z3 z4;exact⟨sl,(o6 b z2).trans ((sb.2 b z1).trans y)⟩
 have noT:∀ b o,h4.get? b=some o->(∀ vs,o.data ≠ .fields vs)->b ≠ T:=fun b o z1 z2 z=>by
  subst z;rw[hT]at z1
  cases z1
  exact z2 ts hdT
 have fr6:h6.FunFrames (PySem.W.hideAll B [C]) X.stack:=by
  rw[hst]at hCs ⊢
  have go:∀ l:List Env,C ∉ frs l->h4.FunFrames B l->h6.FunFrames (PySem.W.hideAll B [C]) l:=by
   intro l
   induction l with
   | nil=>exact fun _ z=>z
   | cons env l ih=>
    intro hc ⟨hcl,⟨L,o,q1,q2,q3,q4⟩,hr⟩;have hne:L ≠ C:=fun z=>hc (by rw[j9 q1,z];exact Ed);refine⟨hcl,⟨L,o,q1,hBn L q2,?_,q4⟩,ih (fun z=>hc (by rw[j9 q1];exact HN _ z)) hr⟩;exact (o6 L (noT L o q3 q4)).trans ((sb.2 L hne).trans q3)
  exact go _ hCs k3
 refine hp pins σ H2 s2 ea cls a0 fv dd H' (PySem.W.hideAll B [C]) { s' with heap:=h6 } I (ho.trans I.os) Wt (fun b o z=>Ej b o (PySem.W.of_hideAll _ z) (nC b (by rw[z];simp))) (hBn _ k2) fr6
  ⟨oe,vs,T,_,_,e6,hcl,hd,h1,hBn _ hnT,hTe,T6,Obj.data_mapFields hdT _,by simp [sz3]⟩ ?_ ?_ (fun b z=>?_) (fun b o z1 z2=>?_) ?_ hq
 ·refine hok.flown (B:=PySem.W.hideAll B [C]) (fun b z=>?_) fun b o z=>Ej b o (PySem.W.of_hideAll _ z) (nC b (by rw[z];simp));obtain⟨o,y1,y2⟩:=hB b z
  have hne:b ≠ C:=fun k=>by rw[k,hC1]at z;cases z
  exact⟨o,y1,gB b o y2 hne⟩
 ·have ub:Un (frs X.outer) [] X.H₀ H' X.s₀.heap s'.heap:=by
   have:=J3.base;rw[hex]at this;exact this
  have sub:∀ b,b∈frs X.outer->b∈frs X.stack:=fun b z=>by rw[hst,j9 hfr];exact HN _ z
  have c0:∀ b o,X.s₀.heap.get? b=some o->b ≠ C:=fun b o z y=>by rw[y,Wu]at z;cases z
  have slot:∀ b o,X.s₀.heap.get? b=some o->X.H₀ b=none->b∈frs X.outer->∃ sl,h6.get? b=some { o with slots:=sl }:=fun b o z1 z2 z3=>by
   obtain⟨s1,y1⟩:=ub.slot b o z1 z2 z3 (by simp);obtain⟨_,o1,y2,nf⟩:=I.t6 b z3;rw[z1]at y2
   cases y2
   obtain⟨s2,y3⟩:=WY b _ y1 nf;have y4:b ≠ T:=noT b _ y3 nf;exact⟨s2,(o6 b y4).trans ((sb.2 b (c0 b _ z1)).trans y3)⟩
  have old:∀ b o,X.s₀.heap.get? b=some o->b ∉ frs X.outer->∃ o',s'.heap.get? b=some o'/\B.get? b=some o':=fun b o z1 z2=>by
   obtain⟨o1,y1⟩:=I.base.there b o z1 (by rw[hex];simp);refine hCc b o1 y1 fun y=>?_;rw[hst,j9 hfr]at y;rcases bU.mp y with k | k
   ·exact lC (Bc (gR z1) I.ok.above) k
   ·exact z2 k
  refine⟨fun b o z1 z2 z3 z4=>?_,fun b o z1 z2 z3 _=>slot b o z1 z2 z3,ub.free,fun b o z1 _=>?_,ub.tups,ub.pF,ub.pR⟩
  ·obtain⟨o',y1,y2⟩:=old b o z1 z3;rw[ub.keep b o z1 z2 z3 z4]at y1
   cases y1
   exact Ej b _ y2 (c0 b _ z1)
  ·by_cases z3:b∈frs X.outer
   ·obtain⟨_,y⟩:=slot b o z1 (I.t6 b z3).1 z3;exact⟨_,y⟩
   ·obtain⟨o',_,y2⟩:=old b o z1 z3;exact⟨o',Ej b _ y2 (c0 b _ z1)⟩
 ·obtain⟨o,y1,y2⟩:=hB b z
  have hne:b ≠ C:=fun k=>by rw[k,hC1]at z;cases z
  exact⟨o,Ej b o y2 hne,gB b o y2 hne⟩
 ·obtain⟨o1,y1⟩:=I.base.there b o z1 (by rw[hex];simp)
  have hne:b ≠ C:=fun y=>by rw[y,Wu]at z1;cases z1
  obtain⟨o',_,y2⟩:=hCc b o1 y1 fun y=>by
   rw[hst,j9 hfr]at y;rcases bU.mp y with k | k
   ·exact lC (Bc (gR z1) I.ok.above) k
   ·exact z2 k
  exact⟨o',Ej b _ y2 hne,gB b _ y2 hne⟩
 ·obtain⟨o1,y1,y2⟩:=dk4;have:h4.get? ea=some o1:=y1;rw[he]at this
  cases this
  exact⟨_,e6,y2⟩
end
section
theorem Gi{Z:List V->Hp->Prop}{RR:Value->Addr->Result->Shared->Prop}
  (hc:X.calm=true) (S:bJ X.env.scope X.N scope x aY) (I:Inv X pins σ H s) (T:Turn X.prog X.w X.K (.Name x px) J fp it tn) (st:tn 0 s.heap) (hf:∀ b∈fp,iC X pins H b)
  (wX:∀ C s H ex pn E,Gs (cJ X (x :: aY.map (·.2)) scope C s H ex pn E) ifs tc) (helt:∀ C s H ex pn E,Passes (pP X.prog X.w) (cJ X (x :: aY.map (·.2)) scope C s H ex pn E) EX->PE (cJ X (x :: aY.map (·.2)) scope C s H ex pn E) elt te)
  (hER:∀ D C H2 s2 m e s',Inv X pins σ H2 s2->s2.heap.Ns C m->iC X pins H2 C->pP X.prog X.w X.stack H2 s2 EX e s'->notedBy (model X.prog X.w) X.A (compEnvC scope (nY X.env scope) C X.env) (fun e s'=>RR (.ref D) C (.error e) s') e s')
  (hW:lF J (tR aY σ) tc te H Z)
  (hRR:∀ s' H' acc its D C m,Inv X pins σ H' s'->s'.heap.PlainList D its.toArray->Vals acc its->acc.length<=sizeLine->iC X pins H' D->iC X pins H' C->D ≠ C->s'.heap.Ns C m->Z acc H'->RR (.ref D) C (.ok .next) s') :
  wpAny (model X.prog X.w) X.A (newList []) (fun acc s₃=>wpAny (model X.prog X.w) X.A (newFunctionEnv scope X.env.globals (nY X.env scope) [] X.env.qual none .none (some X.env)) (fun cenv s₄=>
   codeAny (model X.prog X.w) X.A (.compStart (.ListComp elt [⟨.Name x px,iter,ifs,0⟩] scope pos) 0 (.ref it) acc { cenv with scope:=relabel scope X.env }) (RR acc cenv.locals) s₄) E s₃) E s:=by
 refine wpAny_newObj_type (wpAny_newFunctionEnv S.Ae (by intro y hy;simp at hy) (fun h₁ hns₁ hsb₁=>?_) S.kind)
 dsimp only at hns₁ hsb₁ ⊢
 have Zz:Inv X pins σ H { s with heap:=s.heap.push { cls:=.type "list",dict:=none,data:=.seq ([]:List Value).toArray } }:=I.kept (t':=s.toks) fun b u e=>ie _ e;have gD3:(s.heap.push { cls:=.type "list",dict:=none,data:=.seq ([]:List Value).toArray }).get? s.heap.objs.size=some { cls:=.type "list",dict:=none,data:=.seq ([]:List Value).toArray }:=uy _ rfl;have JG:(s.heap.push { cls:=.type "list",dict:=none,data:=.seq ([]:List Value).toArray }).objs.size=s.heap.objs.size+1:=Heap.size_push _ _;generalize TY:s.heap.push { cls:=.type "list",dict:=none,data:=.seq ([]:List Value).toArray }=h3 at hns₁ hsb₁ Zz gD3 JG ⊢;have k3:∀ b u,s.heap.get? b=some u->h3.get? b=some u:=fun b u e=>TY ▸ ie _ e;have T9:∀ b u,h3.get? b=some u->h₁.get? b=some u:=fun b u e=>(hsb₁.2 b (lC (gR e))).trans (ie _ e);have k1:∀ b u,s.heap.get? b=some u->h₁.get? b=some u:=fun b u e=>T9 b u (k3 b u e)
 have hDC:s.heap.objs.size ≠ h3.objs.size:=by rw[JG];exact lC (Nat.lt_succ_self _)
 have fD:iC X pins H s.heap.objs.size:=I.wj (bD _) (I.hok.fresh (bD _));have fC:iC X pins H h3.objs.size:=I.wj (by rw[JG];exact Nat.le_succ _) (I.hok.fresh (by rw[JG];exact Nat.le_succ _));have lfp:∀ b∈fp,b < s.heap.objs.size:=fun b hb=>let ⟨_,e,_⟩:=T.obj _ _ st b hb;gR e;have hDf:s.heap.objs.size ∉ fp:=fun z=>Nat.lt_irrefl _ (lfp _ z);have hfree:∀ y∈scope.names,y.2 = .free->∃ c,X.env.cells.lookup y.1=some c:=fun y hy e=>I.ok.has y.1 (S.free y hy e);obtain⟨sub,has⟩:=rN scope.names [] hfree (fun y c e=>by simp at e);have pU:∀ y c,(nY X.env scope).lookup y=some c->X.env.cells.lookup y=some c:=sub;have R9:∀ y,(y,NameKind.free)∈scope.names->∃ c,(nY X.env scope).lookup y=some c:=fun y hy=>Option.isSome_iff_exists.mp (has y (.inr hy));have inj:∀ b∈s.heap.objs.size :: fp,iC X pins H b:=fun b hb=>(bU.mp hb).elim (fun z=>z ▸ fD) (hf b);have ltC:∀ b∈s.heap.objs.size :: fp,b ≠ h3.objs.size:=fun b hb=>(bU.mp hb).elim (fun z=>z ▸ hDC) fun z=>lC (by rw[JG];exact Nat.lt_succ_of_lt (lfp b z))
 have I1:Inv (cJ X (x :: aY.map (·.2)) scope h3.objs.size { s with heap:=h3 } H (s.heap.objs.size :: fp) (X.pn++pins)
   (notedBy (model X.prog X.w) X.A (compEnvC scope (nY X.env scope) h3.objs.size X.env) fun e s'=>RR (.ref s.heap.objs.size) h3.objs.size (.error e) s')) [] (none :: tR aY σ) H { s with heap:=h₁,toks:=s.toks+([]:List (Str × Value)).length }:=by
  refine⟨⟨I.ok.mod,S.kind,I.ok.glob,I.ok.blt,bD _,fun y z c e1 e2=>I.ok.inj y z c (pU _ _ e1) (pU _ _ e2),fun y hy=>R9 y (mJ S.Ae hy),fun y c e=>(nomatch e),I.ok.hd,I.ok.frames,.inl rfl,fun b hb=>⟨ltC b hb,fun y c e=>(inj b hb).2.2.2.2.1 y c (pU y c e)⟩,
    fun b ob e=>⟨k3 b ob (I.bs b ob e).1,(I.bs b ob e).2⟩,?_,fun b ob e z=>?_,fun b hb=>I.vC (inj b hb).2.1 (inj b hb).2.2.1,?_,I.qP⟩,
   rfl,I.bare,Un.kept T9,⟨_,hns₁,fun i y v e1 e2 e3=>?_⟩,fun y c e=>?_,fC.1,fun y c e=>I.jA y c (pU y c e),fun p hp=>?_,I.hok.kept k1,?_⟩
  ·exact Nat.le_trans I.ok.Od (Nat.le_trans I.sz (by show s.heap.objs.size<=h3.objs.size;rw[JG];exact Nat.le_succ _))
  ·rcases (inj b z).2.2.2.1 with w1 | w1
   ·exact I.ok.Iv b ob e w1
   ·exact absurd (Bc (gR e) I.ok.Od) (Nat.not_lt.mpr w1)
  ·exact Heap.FunFrames.of_keeps (fun b ob e _=>⟨ob,k3 b ob e,rfl⟩) I.stack
  ·cases i with
   | zero=>cases e2
   | succ i=>
    have e1':(aY.map (·.2))[i]? = some y:=e1;have e2':(tR aY σ)[i]? = some (some v):=e2;unfold tR at e2';rw[cG]at e1' e2'
    cases ep:aY[i]? with
    | none=>rw[ep]at e1';cases e1'
    | some p=>
     rw[ep]at e1' e2';obtain rfl:p.2=y:=iM e1';have DQ:(σ[p.1]?).getD none=some v:=iM e2'
     have hσ:σ[p.1]? = some (some v):=by
      cases es:σ[p.1]? with
      | none=>rw[es]at DQ;cases DQ
      | some w1=>rw[es]at DQ;exact congrArg some DQ
     obtain⟨cN,cF⟩:=S.cap p (Bd ep);have mF:(p.2,NameKind.free)∈scope.names:=PySem.mem_of_lookup cF;have oF:=S.free _ mF rfl;obtain⟨m,hn,hlook⟩:=I.loc;obtain⟨u,ru,lk⟩:=hlook p.1 p.2 v cN hσ (.inr oF);refine⟨u,ru,.inr ⟨?_,?_⟩⟩
     ·rcases e3 with z | z
      ·exact absurd z (dU cF)
      ·exact z
     ·obtain⟨c,ec⟩:=R9 p.2 mF;refine⟨c,ec,?_⟩;rcases lk with ⟨z,_⟩ | ⟨_,c',ec',ob,ho,hd⟩
      ·have z':X.env.scope.names.lookup p.2=some .local:=z;rw[z']at oF;rcases oF with q | q <;> cases q
      ·have ee:=(pU _ _ ec).symm.trans ec'
       cases ee
       exact⟨ob,k1 _ _ ho,hd⟩
  ·obtain⟨v,ob,ho,hd⟩:=I.cell y c (pU y c e);exact⟨v,ob,k1 _ _ ho,hd⟩
  ·have hp':p∈X.pn++pins:=by
    rcases eG.mp hp with z | z
    ·exact z
    ·exact absurd z (by simp)
   obtain⟨e,n,ne,nf,d⟩:=I.pin p hp';refine⟨k1 _ _ e,n,lC ?_,I.vC ne nf,d⟩;show p.1 < h3.objs.size;rw[JG];exact Nat.lt_succ_of_lt (gR e)
  ·show (none :: tR aY σ).length=(x :: aY.map (·.2)).length;simp [tR]
 have hf1:∀ b∈s.heap.objs.size :: fp,iC (cJ X (x :: aY.map (·.2)) scope h3.objs.size { s with heap:=h3 } H (s.heap.objs.size :: fp) (X.pn++pins)
   (notedBy (model X.prog X.w) X.A (compEnvC scope (nY X.env scope) h3.objs.size X.env) fun e s'=>RR (.ref s.heap.objs.size) h3.objs.size (.error e) s')) [] H b:=fun b hb=>by
  obtain⟨f0,f1,f2,f3,f4,f5⟩:=inj b hb;refine⟨f0,ltC b hb,I.vC f1 f2,.inl hb,fun y c e=>f4 y c (pU y c e),fun p hp=>f5 p ?_⟩;rcases eG.mp hp with z | z
  ·exact z
  ·exact absurd z (by simp)
 have st1:tn 0 h₁:=T.keep _ _ _ st fun b _ ob e=>k1 b ob e
 have hpass:Passes (pP X.prog X.w) (cJ X (x :: aY.map (·.2)) scope h3.objs.size { s with heap:=h3 } H (s.heap.objs.size :: fp) (X.pn++pins)
   (notedBy (model X.prog X.w) X.A (compEnvC scope (nY X.env scope) h3.objs.size X.env) fun e s'=>RR (.ref s.heap.objs.size) h3.objs.size (.error e) s')) EX:=by
  intro pins2 σ2 H2 s2 e s' J1 hcx;have u1:Un (frs X.stack) (s.heap.objs.size :: fp) H H2 h3 s2.heap:=J1.base
  have J2:Inv X pins σ H2 s2:=Inv.call' (s:={ s with heap:=h3 }) Zz J1.os u1 J1.hok J1.bare fun b hb=>by
   obtain⟨_,f1,_,f3,f4,f5⟩:=inj b hb;exact⟨f3,f1,f4,f5⟩
  obtain⟨m,hn,_⟩:=J1.loc;exact hER s.heap.objs.size h3.objs.size H2 s2 m e s' J2 hn ⟨J1.free,fC.2⟩ hcx
 have loop:codeAny (model X.prog X.w) X.A (.compLoop (.ListComp elt [⟨.Name x px,iter,ifs,0⟩] scope pos) 0 (.ref it) (.ref s.heap.objs.size) (compEnvC scope (nY X.env scope) h3.objs.size X.env)) (RR (.ref s.heap.objs.size) h3.objs.size) { s with heap:=h₁,toks:=s.toks+([]:List (Str × Value)).length }:=by
  refine Aw (X:=cJ X (x :: aY.map (·.2)) scope h3.objs.size { s with heap:=h3 } H (s.heap.objs.size :: fp) (X.pn++pins) (notedBy (model X.prog X.w) X.A (compEnvC scope (nY X.env scope) h3.objs.size X.env) fun e s'=>RR (.ref s.heap.objs.size) h3.objs.size (.error e) s'))
   hc rfl S.nd (lookup_relabel_local S.hx) I1 T st1 (fun b hb=>hf1 b (HN _ hb)) (hf1 _ Ed) hDf ⟨0,T9 _ _ gD3⟩ (wX _ _ _ _ _ _) (helt _ _ _ _ _ _ hpass) hW rfl ?_
  intro s' H' acc its o' J1 Ua va hlen nD z;have u1:Un (frs X.stack) (s.heap.objs.size :: fp) H H' h3 s'.heap:=J1.base
  have J2:Inv X pins σ H' s':=Inv.call' (s:={ s with heap:=h3 }) Zz J1.os u1 J1.hok J1.bare fun b hb=>by
   obtain⟨_,f1,_,f3,f4,f5⟩:=inj b hb;exact⟨f3,f1,f4,f5⟩
  obtain⟨m,hn,_⟩:=J1.loc;exact hRR s' H' acc its _ _ m J2 Ua va hlen ⟨nD,fD.2⟩ ⟨J1.free,fC.2⟩ hDC hn z
 exact codeAny_compStart_list loop (T.self _ 0 _ _ _ st1 loop)
theorem Q7(hpa:rW X EX)(hc:X.calm=true)(hN:X.N.Nodup)(hi':X.N[i]? = some y)(hy:Loc X.env.scope y)(S:bJ X.env.scope X.N scope x aY)(hi:PI X (.Name x px) iter wi)
  (wX:∀ C s H ex pn E,Gs (cJ X (x :: aY.map (·.2)) scope C s H ex pn E) ifs tc) (helt:∀ C s H ex pn E,Passes (pP X.prog X.w) (cJ X (x :: aY.map (·.2)) scope C s H ex pn E) EX->PE (cJ X (x :: aY.map (·.2)) scope C s H ex pn E) elt te)
  (hsw:swapsWith (.ListComp elt [⟨.Name x px,iter,ifs,0⟩] scope pos) (some (.Name y py)) spos.line X.env=pure true:=by rfl) (hs:∀ x,foldedSetIterable iter X.env x=pure x:=by intro _;rfl) (hex:X.ex=[]:=by rfl) (hst:X.stack=X.env :: X.outer:=by rfl) (hfr:X.env.frame=some X.env.locals:=by rfl)
  (hfn:X.fn y=true ∨ X.env.scope.names.lookup y=some .local:=by first | exact .inl rfl | exact .inr rfl | assumption):PS X (.Assign [.Name y py] (.ListComp elt [⟨.Name x px,iter,ifs,0⟩] scope pos) spos) (Ov (Ou wi aY tc te) (Gb i)):=by
 intro pins s σ H D0 I h;have hfree:∀ y∈scope.names,y.2 = .free->∃ c,X.env.cells.lookup y.1=some c:=fun y hy e=>I.ok.has y.1 (S.free y hy e);rw[exec_Assign_Name_used _ _ _ _ hsw];refine wpAny_bind (wpAny_standAt (wpAny_bind ?_));show wpAny _ _ (do let _ ← comprehension (.ListComp elt [⟨.Name x px,iter,ifs,0⟩] scope pos) scope X.env _ (newList []) false (eval iter X.env) (some (assign (.Name y py) X.env))) _ _ s
 refine wpAny_bind (wpAny_mono (wpAny_comprehension_free (use:=some (assign (.Name y py) X.env)) (Q:=fun _ s'=>SP X pins D0 .next s') rfl hs (qH hfree) S.kind S.Qg
  (bA (hi pins s σ H _ I h) fun v s1 h1=>bA h1 fun itv s2 h2=>?_)) (fun _ s' hq=>wpAny_pure (wpAny_pure hq)) fun _ _ e=>e)
 obtain⟨it,fp,tn,J,H2,e,I2,T,st2,f2,hW⟩:=h2;subst e;refine Gi (RR:=fun acc C=>compPost (model X.prog X.w) X.A X.xe (some (assign (.Name y py) X.env)) (fun _ s'=>SP X pins D0 .next s') acc C) hc S I2 T st2 f2 wX helt (fun D C H2 s2 m e s' J hn f hcx=>S5 hpa hex J hn f.1 (J.vC f.2.1 f.2.2.1) (Heap.get?_none_of_le (f.2.2.2.1.elim (fun z=>by rw[hex]at z;cases z) id)) hst hfr hcx) hW ?_;intro s' H' acc its D C m J2 Ua va hlen fD fC hDC hn z;obtain⟨nD,gD⟩:=Ua;have J3:Inv X pins σ (upd H' D (.lst acc)) s':=J2.adopt fD ⟨hlen,its,nD,va,gD⟩;show wpAny _ _ (assign (.Name y py) X.env (.ref D)) _ _ s';refine wpAny_assign_Name (sO J3 hN hi' hy (show RelV (.ref D) (.ref D) from rfl) (fun s4 J4 ⟨a,sa,ha⟩=>?_) hfn)
 have hCa:C ≠ a:=by
  rcases ha with q | q
  ·rw[q];exact fC.2.1
  ·exact (fC.2.2.2.2.1 y a q).symm
 refine⟨m,hn.sameBut sa hCa,fun h'' sb=>?_⟩;exact⟨_,_,J4.turned (t':=s4.toks) (fun b ob hb e=>(sb.2 b hb).trans e) (by rw[zQ (Ne.symm hDC)];exact fC.1) fC.2.1 fC.2.2.2.1 fC.2.2.2.2.1 fC.2.2.2.2.2,z D fD.1⟩
end
section
variable{M:Model}{A:Around}{E:Value->Shared->Prop}{s:Shared}{base:Heap}{env:Env}{outer:List Env}{L e:Addr}{cls a0 fl:Value}{dd:Option Addr}{Q:Unit->Shared->Prop}
theorem Qd(hfr:A.frames=some (env :: outer))(hf:env.frame=some L)(hkb:base.StaysIn s.heap)(hb:base.get? e=none)(hl:s.heap.FunFrames base (env :: outer))(ht:s.heap.TracedAtW base e cls a0 fl)(x:DictAt s.heap e dd)
  (hQ:∀ h',Heap.HeldW base (env :: outer) e cls a0 L h'->s.heap.UpToSlots h'->DictAt h' e dd->Q () { s with heap:=h' }):wpAny M A (noteFrame (.ref e) env) Q E s:=by
 by_cases hfl:fl=rawInt L
 ·subst hfl;exact wpAny_noteFrame_againW hf ht (hQ s.heap ⟨hkb,hb,hl,ht⟩ (Heap.UpToSlots.refl _) x)
 ·obtain⟨oe,vs,T,oT,ts,he,⟨hc,h0⟩,hd,h1,hnT,hTe,hT,hdT,h3⟩:=ht;subst hc;unfold noteFrame;simp only[hf];refine wpAny_bind (wpAny_field he hd h1 ?_);rw[if_pos (show (Value.ref T != Value.none)=true by simp)];refine wpAny_bind (wpAny_field hT hdT h3 ?_);rw[if_neg (show ¬ ((fl == rawInt L)=true) by simpa using hfl)];refine wpAny_bind (wpAny_setField hT hdT (Array.getElem?_eq_some_iff.mp h3).1 ?_);have other:∀ b,b ≠ T->(s.heap.update T (Obj.mapFields (·.setIfInBounds 3 Value.none))).get? b=s.heap.get? b:=fun b z=>Heap.get?_update_other _ _ (Ne.symm z)
  have Fp:∀ b o,s.heap.get? b=some o->(∀ vs,o.data ≠ .fields vs)->b ≠ T:=fun b o z1 z2 z=>by
   subst z;rw[hT]at z1
   cases z1
   exact z2 ts hdT
  have hl1:(s.heap.update T (Obj.mapFields (·.setIfInBounds 3 Value.none))).FunFrames base (env :: outer):=hl.of_keeps fun b o z1 z2=>⟨o,(other b (Fp b o z1 z2)).trans z1,rfl⟩;have Ks:=(other e (Ne.symm hTe)).trans he;have hsz:=(Array.getElem?_eq_some_iff.mp h1).1
  refine wpAny_mono (dC (wpAny_entryW (s:={ s with heap:=s.heap.update T (Obj.mapFields (·.setIfInBounds 3 Value.none)) }) (Q:=fun _ s'=>∃ h',s' = { s with heap:=h' }/\Heap.NotedW base (env :: outer) e oe.cls a0 (rawInt L) (s.heap.update T (Obj.mapFields (·.setIfInBounds 3 Value.none))) h') hfr hl1 hf Ks
   (fun b o z=>(other b fun q=>by rw[q,hnT]at z;cases z).trans (hkb b o z)) hb hd hsz h0 fun h' k=>⟨h',rfl,k⟩)
   (lX (s:={ s with heap:=s.heap.update T (Obj.mapFields (·.setIfInBounds 3 Value.none)) }) (Q:=fun _ s'=>DictAt s'.heap e dd) hfr hl1 hf Ks hd hsz (x.upd hT hdT) fun _ _ _ _ z _ _ _ _=>z))
   (fun _ s3 ⟨⟨h',y,k1,k2,k3,k4⟩,k5⟩=>by subst y;exact hQ h' ⟨k1,hb,k2,k3⟩ (fun b o z1 z2=>k4 b o ((other b (Fp b o z1 z2)).trans z1) z2) k5) fun _ _ y=>y
end
def Za(X:Cx)(E:XK)(e:Value)(s':Shared):Prop:=∃ ea cls a0 fl dd H' B,e = .ref ea/\X.A.frames=some X.stack/\(∀ b∈frs X.outer,X.H₀ b=none/\∃ ob,X.s₀.heap.get? b=some ob/\∀ vs,ob.data ≠ .fields vs)/\s'.os=X.s₀.os/\AllBare s'.gens ∧
 B.StaysIn s'.heap/\B.get? ea=none/\s'.heap.FunFrames B X.stack/\s'.heap.TracedAtW B ea cls a0 fl/\iZ X.prog X.w H' s'.heap/\Un (frs X.outer) [] X.H₀ H' X.s₀.heap s'.heap/\(∀ b,(H' b).isSome=true->∃ o,s'.heap.get? b=some o/\B.get? b=some o) ∧
 (∀ b o,X.s₀.heap.get? b=some o->b ∉ frs X.outer->∃ o',s'.heap.get? b=some o'/\B.get? b=some o')/\DictAt s'.heap ea dd/\E cls dd H'
section
variable{X:Cx}{E:XK}
theorem Ve(hst:X.stack=X.env :: X.outer)(hfr:X.env.frame=some X.env.locals):PassesOwn (model X.prog X.w) X.A X.env (Za X E):=by
 rintro e s' ⟨ea,cls,a0,fl,dd,H',B,rfl,hA,hO,ho,hg,st,hb,hl,ht,hok,un,hB,hC,hdd,hq⟩;have hA':=hA;rw[hst]at hA' hl;refine Qd hA' hfr st hb hl ht hdd fun h' held sl dk=>?_;obtain⟨k1,k2,k3,oe,vs,T,oT,ts,he,hcl,hd,h1,hnT,hTe,hT,hdT,h3⟩:=held;have sz3:=(Array.getElem?_eq_some_iff.mp h3).1;refine wpAny_bind (wpAny_field he hd h1 ?_);rw[if_neg (show ¬ ((Value.ref T == Value.none)=true) by simp)];show wpAny _ _ (setFlight (.ref ea) X.env.frame) _ _ _;unfold setFlight;refine wpAny_bind (wpAny_field he hd h1 ?_);rw[if_pos (show (Value.ref T != Value.none)=true by simp)];refine wpAny_setField hT hdT sz3 ?_;generalize hfv:(X.env.frame.elim Value.none fun f=>rawInt f)=fv;generalize hh6:h'.update T (Obj.mapFields (·.setIfInBounds 3 fv))=h6
 have o6:∀ b,b ≠ T->h6.get? b=h'.get? b:=fun b z=>by rw[<-hh6];exact Heap.get?_update_other _ _ (Ne.symm z)
 have T6:h6.get? T=some (oT.mapFields (·.setIfInBounds 3 fv)):=by rw[<-hh6];exact Heap.get?_update_self _ hT (Obj.isFreed_of_fields (Obj.data_mapFields hdT _))
 have noT:∀ b o,h'.get? b=some o->(∀ vs,o.data ≠ .fields vs)->b ≠ T:=fun b o z1 z2 z=>by
  subst z;rw[hT]at z1
  cases z1
  exact z2 ts hdT
 have Lx:B.StaysIn h6:=fun b o z=>(o6 b (fun y=>by rw[y,hnT]at z;cases z)).trans (k1 b o z)
 have sl6:s'.heap.UpToSlots h6:=fun b o z1 z2=>by
  obtain⟨sl1,y⟩:=sl b o z1 z2;exact⟨sl1,(o6 b (noT b _ y z2)).trans y⟩
 refine⟨ea,cls,a0,fv,dd,H',B,rfl,hA,hO,ho,hg,Lx,hb,?_,⟨oe,vs,T,_,_,(o6 ea (Ne.symm hTe)).trans he,hcl,hd,h1,hnT,hTe,T6,Obj.data_mapFields hdT _,by simp [sz3]⟩,hok.flown hB Lx,un.flown hC Lx sl6 hO,fun b z=>?_,fun b o z1 z2=>?_,?_,hq⟩
 ·rw[hst];exact k3.of_keeps fun b o z1 z2=>⟨o,(o6 b (noT b o z1 z2)).trans z1,rfl⟩
 ·obtain⟨o,_,y⟩:=hB b z;exact⟨o,Lx b o y,y⟩
 ·obtain⟨o',_,y⟩:=hC b o z1 z2;exact⟨o',Lx b _ y,y⟩
 ·obtain⟨o1,y1,y2⟩:=dk;have:h'.get? ea=some o1:=y1;rw[he]at this
  cases this
  exact⟨_,(o6 ea (Ne.symm hTe)).trans he,y2⟩
theorem YJ(hE:∀ c d H,E' c d H->E c d H):rW (X.wish (Za X E)) E':=by
 intro pins σ H1 s1 ea cls a0 fl dd H' B s' I ho hg st hb hl ht hok un hB hC hdd hq;have I0:Inv X pins σ H1 s1:=I.iH;exact⟨ea,cls,a0,fl,dd,H',B,rfl,I0.ok.frames,I0.t6,ho,hg,st,hb,hl,ht,hok,un,hB,hC,hdd,hE _ _ _ hq⟩
theorem Y7{st:Stmt}{t:TS}(hp:rW X E)(h:PS (X.wish (Za X E)) st t):PS X st t:=fun pins s σ H D I hw=>
 wpAny_mono (h pins s σ H D (I.wish _) hw) (fun _ _ q=>q.iH) fun e s' ⟨ea,cls,a0,fl,dd,H',B,z,_,_,k1,k2,k3,k4,k5,k6,k7,k8,k9,k10,k11,k12⟩=>by
  subst z;exact hp pins σ H s ea cls a0 fl dd H' B s' I k1 k2 k3 k4 k5 k6 k7 k8 k9 k10 k11 k12
end
section
noncomputable def Tg(K:bj)(C:Addr)(i:Nat)(tb:TSX)(th to:TS):TS:=fun D σ H=>tb { D with nx:=to D } (fun σ' cls dd H'=>∃ C1:Addr,cls = .ref C1/\PySem.W.exmOne K cls (.ref C)=some true ∧
 ∀ ea,H' ea=none->th { nx:=fun σ2 H2=>D.nx (σ2.set i none) H2,rt:=D.rt,bk:=fun σ2 H2=>D.bk (σ2.set i none) H2,ct:=fun σ2 H2=>D.ct (σ2.set i none) H2 } (σ'.set i (some (.ref ea))) (upd H' ea (fO ea C1 dd))) σ H
theorem M6(hb:PSX X body tb)(hg:Gl X x)(hm:X.mg x=some (.ref C))(hN:X.N.Nodup)(hi:X.N[i]? = some n)(hl:X.env.scope.names.lookup n=some .local)(hh:∀ e:Addr,xf (X.VH e) (b0 :: suite) th)
  (hO:xf X orl to) (hst:X.stack=X.env :: X.outer:=by rfl) (hfr:X.env.frame=some X.env.locals:=by rfl) (hdb:(x == ("__debug__" : Str))=false:=by decide) :
  PS X (.Try body [.ExceptHandler (some (.Name x np)) (some n) (b0 :: suite) hpos] orl [] pos) (Tg X.K C i tb th to):=by
 intro pins s σ H D I h;refine wpAny_Try_except (wpAny_mono (hb pins s σ H { D with nx:=to D } _ I h) (fun f s1 q=>?_) fun e s1 q=>?_)
 ·cases f with
  | next=>
   obtain⟨σ9,H9,I9,q9⟩:=q;exact hO pins s1 σ9 H9 D I9 q9
  | brk=>exact q
  | cont=>exact q
  | ret u=>exact q
 obtain⟨σ1,H1,s0,I1,ea,cls,a0,H',B,rfl,ho,Wt,fl,hok,un,hB,hC,dd,hdd,C1,rfl,hmt,hth⟩:=q;have Gf:=I1.ok.frames;rw[hst]at fl Gf;refine tD Gf hfr fl hdd fun h4 Aq WY dk4=>JD Aq dk4 fun h5 Vf sl5 dk5=>?_;have u5:=un.flown hC Vf.1 (WY.trans sl5) I1.frames;have J5:Inv X pins σ1 H' { s1 with heap:=h5 }:=I1.call' ho u5 (hok.flown hB Vf.1) Wt (fun _ z=>nomatch z);obtain⟨ob,hob,hoc⟩:=Vf.there;refine wpAny_handleBy_cons (codeAny_handlers_test (jV (J5.VH ea) hg hm ?_ hdb)) (by intro z;cases z)
 have LT:PySem.W.Looks (model X.prog X.w) h5 (typeOf (.ref ea)) (.ref C1):=by
  rw[<-hoc];exact (PySem.W.Looks.ld hob).andThen .now
 refine (PySem.W.exm_one J5.kj LT hmt).here (codeAny_handlers_suite_as ?_);refine qx Vf dk5 fun h6 ZG sl6 dk6=>?_;have u6:=un.flown hC ZG.1 ((WY.trans sl5).trans sl6) I1.frames;obtain⟨oe,ws,e6,c6,d6,_⟩:=ZG.first
 have q6:oe.dict=dd:=by
  obtain⟨o1,z1,z2⟩:=dk6;rw[show h6.get? ea=some oe from e6]at z1
  cases z1
  exact z2.1
 have hH:H' ea=none:=by
  cases q:H' ea with
  | none=>rfl
  | some z=>
   obtain⟨o1,_,e2⟩:=hB ea (by rw[q];rfl);rw[fl.2.1]at e2
   cases e2
 have nea:∀ b o1,s0.heap.get? b=some o1->b ≠ ea:=fun b o1 q z=>by
  subst z
  by_cases hb:b∈frs X.stack
  ·obtain⟨z1,o2,q2,nf⟩:=I1.frames b hb;rw[q]at q2
   cases q2
   obtain⟨sl,q3⟩:=u6.slot b o1 q z1 hb (by simp);rw[e6]at q3
   cases q3
   exact nf ws d6
  ·obtain⟨o',_,q2⟩:=hC b o1 q hb;rw[fl.2.1]at q2
   cases q2
 have u7:Un (frs X.stack) [] H1 (upd H' ea (fO ea C1 dd)) s0.heap h6:=by
  refine⟨u6.keep,u6.slot,fun b o1 q z1 z2=>?_,u6.there,fun b xs q=>?_,fun b o1 u q=>?_,fun b ps q=>?_⟩
  ·rw[zQ (nea b o1 q)];exact u6.free b o1 q z1 z2
  ·have q':=u6.tups b xs q;rw[zQ (zM q' hH)];exact q'
  ·have q':=u6.pF b o1 u q;rw[zQ (zM q' hH)];exact q'
  ·obtain⟨more,q'⟩:=u6.pR b ps q;exact⟨more,by rw[zQ (zM q' hH)];exact q'⟩
 have hk6:=hok.flown hB ZG.1
 have hk7:iZ X.prog X.w (upd H' ea (fO ea C1 dd)) h6:=fun b o1 q=>by
  by_cases hb:b=ea
  ·subst hb;rw[zC]at q
   cases q
   exact⟨⟨oe,e6,c6,q6,by unfold PySem.W.notCls;rw[d6]⟩,⟨oe,e6⟩,fun _ _ ⟨o2,z1,z2⟩ k=>⟨o2,k o2 z1,z2⟩⟩
  ·rw[zQ hb]at q;refine (hk6 b o1 q).stay (fun _ _ _ z=>z) (fun c z=>?_) fun c xs z=>?_
   ·rw[zQ (zM z hH)];exact z
   ·rw[zQ (zM z hH)];exact z
 have J6:Inv X pins σ1 (upd H' ea (fO ea C1 dd)) { s1 with heap:=h6 }:=I1.call' ho u7 hk7 Wt (fun _ z=>nomatch z);refine il (v:=.ref ea) J6 hN hi (.inl hl) rfl (fun s8 I8=>?_) (.inr hl);refine wpAny_mono (hh ea pins _ _ _ _ (I8.VH ea) (hth ea hH)) (fun f s9 q=>?_) fun _ _ z=>z.elim
 have hp:(X.env.scope.kind == .class || (X.env.scope.kind == .module && X.env.locals != X.env.globals))=false:=by
  rw[I.ok.kind];rfl
 cases f with
 | next=>
  obtain⟨σ9,H9,I9,q9⟩:=q;have K9:=I9.WD I1.ok;obtain⟨m9,n9,l9⟩:=id K9.loc;exact wpAny_nameGoes_keeps hl n9 hp fun h' v' hn' hs=>⟨_,H9,K9.gone hN hi l9 hn' hs,q9⟩
 | brk=>
  obtain⟨σ9,H9,I9,q9⟩:=q;have K9:=I9.WD I1.ok;obtain⟨m9,n9,l9⟩:=id K9.loc;exact wpAny_nameGoes_keeps hl n9 hp fun h' v' hn' hs=>⟨_,H9,K9.gone hN hi l9 hn' hs,q9⟩
 | cont=>
  obtain⟨σ9,H9,I9,q9⟩:=q;have K9:=I9.WD I1.ok;obtain⟨m9,n9,l9⟩:=id K9.loc;exact wpAny_nameGoes_keeps hl n9 hp fun h' v' hn' hs=>⟨_,H9,K9.gone hN hi l9 hn' hs,q9⟩
 | ret u=>
  obtain⟨v,σ9,H9,I9,r9,q9⟩:=q;have K9:=I9.WD I1.ok;obtain⟨m9,n9,l9⟩:=id K9.loc;exact wpAny_nameGoes_keeps hl n9 hp fun h' v' hn' hs=>⟨v,_,H9,K9.gone hN hi l9 hn' hs,r9,q9⟩
end
end L2
namespace L2
open PySem PySem.Spec PyProof.Rows PySem.W
section
inductive Wh(K:Frag)(xs:List V)(H:Hp)(Q:VK):Prop
 | mk (a C C2:Addr) (dd:Option Addr) (b:Bool) (_:xs=[.ref a,.ref C2]) (_:H a=some (fO a C dd)) (_:pJ K C) (_:kitOne K (.ref C) (.ref C2)=some b) (_:Q (.bl b) H)
theorem Ny:jL X (.builtin "isinstance") (Wh X.K):=by
 intro pins s σ H xs us Q I r h;obtain⟨a,C,C2,dd,b,rfl,ha,q,e,z⟩:=h;obtain⟨u,w',rfl,r1,r2⟩:=vals2 r
 cases (show w'=Value.ref C2 from r2)
 cases (show u=Value.ref a from r1)
 exact kia_one (wR q) I.kj (DP I ha) e (fun y=>nomatch y) fun tk=>⟨.bl b,H,I.tok tk,rfl,z⟩
end
end L2
namespace L2
open PySem
inductive Dc(K:bj)(H:Hp):Nat->V->V->Bool->Prop where
 | flat {n:Nat} {x y:V}:jB x=true->jB y=true->Dc K H n x y (Ni x y)
 | like {n:Nat} {x y:V}:Dq K H n x y->Dc K H n x y true
 | tup {n:Nat} {a b:Addr} {xs ys:List V} {e:Nat->Bool}:a ≠ b->aJ K H a xs->aJ K H b ys->(∀(j:Nat)(x y:V),xs[j]? = some x->ys[j]? = some y->Dc K H n x y (e j))->Dc K H (n+1) (.ref a) (.ref b) ((List.range (min xs.length ys.length)).all e && xs.length == ys.length)
section
theorem Dc.JW(I:Inv X pins σ H s)(d:Dc X.K H n x y b):∀ {A:Around} {u v:Value},RelV x u->RelV y v->A.units+n < cLine->SeqAt.EqAt A s u v b:=by
 induction d with
 | flat f g=>exact fun ru rv _=>JV ru rv f g
 | like d=>exact fun ru rv hu=>d.JW I ru rv hu
 | @tup n a b xs ys e ne ha hb _ ih=>
  intro A u v ru rv hu
  cases ru
  cases rv
  obtain⟨its,r1,p1,_⟩:=I.tuple ha;obtain⟨its2,r2,p2,_⟩:=I.tuple hb;have l1:=r1.length;have l2:=r2.length;refine SeqAt.EqAt.of_refs ne ?_;have:=SeqAt.RcAt.tuples (A:=A) (s:=s) (e:=e) p1 p2 (by omega) (fun j h1 h2=>?_)
  ·rw[qN,qN,<-l1,<-l2]at this;exact this
  ·have h1':j < its.length:=by simpa using h1
   have h2':j < its2.length:=by simpa using h2
   obtain⟨x,hx,rx⟩:=r1.at_of h1';obtain⟨y,hy,ry⟩:=r2.at_of h2';have:=ih j x y hx hy (A:=A.in1) rx ry (by show A.in1.units+n < cLine;simp;omega)
   simpa using this
end
section
theorem Um(hu:X.A.units+64 < cLine):jQ X (compareOp .In) (fun x y H Q => ∃(p:Addr)(xs:List V)(n:Nat),y = .ref p/\aR X.K H p xs/\n<=60/\(∀ z∈xs,Dc X.K H n z x false)/\Q (.bl false) H):=by
 intro pins s σ H x y v u Q I rx ry h;obtain⟨p,xs,n,rfl,hq,n60,hz,q⟩:=h
 cases ry
 obtain⟨its,r,pl,_⟩:=I.list hq;refine SeqAt.in_listAt (fun _=>false) pl.isList (fun w hw=>?_) ⟨.bl _,H,I,rfl,?_⟩
 ·have hw':w∈its:=by simpa using hw
  obtain⟨j,hj,e⟩:=List.mem_iff_getElem.mp hw';obtain⟨z,hz1,rz⟩:=r.at_of hj;rw[e]at rz;exact (hz z (List.mem_of_getElem? hz1)).JW I rz rx (by show X.A.in1.units+n < cLine;simp;omega)
 ·have:(its.toArray.any fun _=>false)=false:=by simp
  rw[this];exact q
end
theorem Vx [DecidableEq α] (as bs:List α):((List.range (min as.length bs.length)).all (fun j=>decide (as[j]? = bs[j]?)) && as.length == bs.length)=decide (as=bs):=by
 rw[Bool.eq_iff_iff,decide_eq_true_iff,Bool.and_eq_true,List.all_eq_true,beq_iff_eq];constructor
 ·rintro⟨h,hl⟩;apply List.ext_getElem?;intro i
  by_cases c:i < as.length
  ·exact of_decide_eq_true (h i (List.mem_range.mpr (by omega)))
  ·rw[List.getElem?_eq_none (by omega),List.getElem?_eq_none (by omega)]
 ·intro h;subst h;exact⟨fun j _=>decide_eq_true rfl,rfl⟩
end L2
namespace L2
open PySem PySem.Spec PyProof.Rows
noncomputable def eV(e:Addr->Bool):Value->Bool
 | .ref a=>e a
 | _=>false
theorem Q0(e:Addr->Bool)(as:List Addr):(as.map Value.ref).toArray.any (eV e)=as.any e:=by
 rw[List.any_toArray,List.any_map];rfl
section
inductive qB2(K:bj)(x y:V)(H:Hp)(Q:VK):Prop
 | mk (p:Addr) (as:List Addr) (n:Nat) (e:Addr->Bool) (_:y = .ref p) (_:aR K H p (as.map V.ref)) (_:n<=60) (_:∀ a∈as,Dc K H n (.ref a) x (e a)) (_:Q (.bl (!as.any e)) H)
theorem MJ(hu:X.A.units+64 < cLine):jQ X (compareOp .NotIn) (qB2 X.K):=by
 intro pins s σ H x y v u Q I rx ry h;obtain⟨p,as,n,e,rfl,hq,n60,hz,q⟩:=h
 cases ry
 obtain⟨its,r,pl,_⟩:=I.list hq;obtain rfl:=oH r;refine SeqAt.notIn_listAt (eV e) pl.isList (fun w hw=>?_) ⟨.bl _,H,I,rfl,?_⟩
 ·have hw':w∈as.map Value.ref:=by simpa using hw
  obtain⟨a,ha,rfl⟩:=gU.mp hw';exact (hz a ha).JW I rfl rx (by show X.A.in1.units+n < cLine;simp;omega)
 ·rw[Q0];exact q
inductive qB4(K:bj)(x:V)(vs:List V)(H:Hp)(Q:VK):Prop
 | mk (l:Addr) (as:List Addr) (v:V) (n j:Nat) (e:Addr->Bool) (_:x = .ref l) (_:vs=[v]) (_:H l=some (.lst (as.map V.ref))) (_:∃ h:j < as.length,e as[j]=true) (_:∀(m:Nat)(h:m < as.length),m < j->e as[m]=false) (_:n<=50) (_:∀ a∈as,Dc K H n (.ref a) v (e a)) (_:as.length<=1000) (_:Q (.int (j:Int)) H)
theorem Mp(hu:X.A.units+64 < cLine):MtM X "list.index" (qB4 X.K):=by
 intro pins s σ H x vs v us Q I rx rv h;obtain⟨l,as,v',n,j,e,rfl,rfl,hH,⟨hj,e1⟩,e2,n50,hz,l1,q⟩:=h
 cases rx
 obtain⟨u,rfl,ru⟩:=rv.one;obtain⟨z,its,k,r,hl,eo⟩:=I.Ck hH;obtain rfl:=oH r;refine call_meets PySem.F.slot_list_index ⟨_,eo,rfl⟩ PySem.F.entry_list_index (PySem.F.args_list_index_2 _ _) (SeqAt.list_indexAt l (as.map Value.ref).toArray k _ _ _ (eV e) j (by simpa using hj) (by omega) ?_ (fun m hm hmj=>?_)) ⟨eo,?_,?_⟩
 ·simpa [eV] using e1
 ·have:=e2 m (by simpa using hm) hmj
  simpa [eV] using this
 ·intro y hy
  have hy':y∈as.map Value.ref:=by simpa using hy
  obtain⟨a,ha,rfl⟩:=gU.mp hy';exact (hz a ha).JW I rfl ru (by simp;omega)
 ·exact⟨.int (j:Int),H,I.tok _,⟨_,rfl⟩,q⟩
end
section
inductive qB6(K:bj)(xs:List V)(H:Hp)(Q:VK):Prop
 | mk (p:Addr) (ys:List V) (_:xs=[.ref p]) (_:aJ K H p ys) (_:∀ y∈ys,y = .int 0) (_:Q (.bl false) H)
theorem O1(hc:X.calm=true):jL X (.builtin "any") (qB6 X.K):=by
 intro pins s σ H xs us Q I r h;obtain⟨p,ys,rfl,hq,hz,q⟩:=h;obtain⟨u,rfl,rx⟩:=vals1 r
 cases rx
 obtain⟨its,rv,pl,_⟩:=I.tuple hq;have hlen:=rv.length
 have hlt:p < s.heap.objs.size:=by
  obtain⟨o,ho,_⟩:=id pl;exact gR ho
 refine call_any_walk (wpAny_pyIter_tuple pl ?_)
 refine⟨s.heap.objs.size,[s.heap.objs.size,p],[s.heap.objs.size],its.toArray.size,fun i v=>its.toArray[i]? = some v,fun i h=>h.IsTupleIter s.heap.objs.size p i/\h.IsTuple p its.toArray,fun _=>false,rfl,
  Walks.tuple (A:=X.A.in1) (I.ok.hd hc) _ _ (lC hlt) _,⟨⟨_,uy _ rfl,rfl,rfl⟩,pl.push _⟩,?_,?_⟩
 ·intro i v s' Q' E' hv hQ'
  have hv':its[i]? = some v:=by simpa using hv
  have hi:i < ys.length:=by
   have:=(jM.mp hv').1;omega
  obtain⟨u,hu,ru⟩:=rv.get (i:=i) (dX hi);rw[hu]at hv'
  cases hv'
  rw[hz _ (ig hi)]at ru;obtain⟨t,rfl⟩:=ru;exact truthy_int hQ'
 ·intro h' tk k;refine⟨.bl false,H,I.kept (t':=tk) (h':=h') fun b u e=>k b u (fun z=>?_) (ie _ e),?_,q⟩
  ·have z':b=s.heap.objs.size:=by simpa using z
   exact absurd (gR e) (by rw[z'];exact Nat.lt_irrefl _)
  ·show Value.bool _=Value.bool _;rw[List.any_eq_false.mpr fun _ _ z=>by cases z]
end
end L2
namespace Wy
noncomputable def jD(a:Nat)(p:List Nat):Nat:=p.foldl (fun c x=>8 * c+(x+1)) a
noncomputable def code(p:List Nat):Nat:=jD 0 p
theorem gJ(a x:Nat)(p:List Nat):jD a (x :: p)=jD (8 * a+(x+1)) p:=rfl
theorem tQ(a:Nat)(p q:List Nat):jD a (p++q)=jD (jD a p) q:=by
 unfold jD;rw[List.foldl_append]
theorem xP:∀ s t a b,a < b->s.length=t.length->(∀ x∈s,x < 8)->jD a s < jD b t
 | [],[],a,b,h,_,_=>h
 | [],_ :: _,_,_,_,h,_=>by simp at h
 | _ :: _,[],_,_,_,h,_=>by simp at h
 | x :: s,y :: t,a,b,h,hl,hs=>by
  rw[gJ,gJ];have hx:=hs x Ed;exact xP s t _ _ (by lia) (by simpa using hl) fun z hz=>hs z (List.mem_cons_of_mem _ hz)
theorem S6(p:List Nat):∀ a:Nat,a<=jD a p:=by
 induction p with
 | nil=>exact fun a=>bD _
 | cons x p ih=>
  intro a;have:=ih (8 * a+(x+1));rw[gJ];lia
theorem Gk(h:p.length < q.length)(hp:∀ x∈p,x < 8):code p < code q:=by
 have e:q=q.take (q.length - p.length)++q.drop (q.length - p.length):=(List.take_append_drop _ _).symm
 have l1:(q.take (q.length - p.length)).length=q.length - p.length:=by
  rw[jc];lia
 have l2:(q.drop (q.length - p.length)).length=p.length:=by
  rw[List.length_drop];lia
 generalize q.take (q.length - p.length)=u at e l1;generalize q.drop (q.length - p.length)=v at e l2;rw[e];show jD 0 p < jD 0 (u++v);rw[tQ];refine xP p v 0 _ ?_ l2.symm hp
 cases u with
 | nil=>
  simp at l1;lia
 | cons x u=>
  have:=S6 u (8 * 0+(x+1));rw[gJ];lia
noncomputable def goal(tb:List (List Nat))(k x:Nat):Nat:=(tb.getD k []).getD x 0
noncomputable def qBO(tb:List (List Nat))(k:Nat)(p:List Nat):Nat:=p.foldl (fun r x=>goal tb r x) k
noncomputable def lead(tb:List (List Nat))(p:List Nat):Nat:=qBO tb 0 p
structure TbOk(tb:List (List Nat))(n e:Nat):Prop where
 len:tb.length=n
 pos:1<=n
 row:∀ k,k < n->(tb.getD k []).length=e
 to:∀ k x,k < n->x < e->goal tb k x < n
structure WaysOk(tb:List (List Nat))(n e:Nat)(ws:List (Option (List Nat))):Prop where
 len:ws.length=n
 zero:ws[0]? = some (some [])
 lead:∀ k p,ws[k]? = some (some p)->lead tb p=k/\∀ x∈p,x < e
 short:∀(k:Nat)(p:List Nat),ws[k]? = some (some p)->p.length<=n
 clo:∀(k:Nat)(p:List Nat),ws[k]? = some (some p)->∀ x,x < e->∃ p',ws[goal tb k x]? = some (some p')/\code p'<=8 * code p+(x+1)
noncomputable def lk(pm:List (Nat × List Nat))(k:Nat):Option (List Nat):=(pm.find? fun kp=>kp.1 == k).map (·.2)
structure Bf(tb:List (List Nat))(n e:Nat)(pm:List (Nat × List Nat))(i x:Nat):Prop where
 head:pm[0]? = some (0,[])
 nodup:(pm.map (·.1)).Nodup
 rng:∀ kp∈pm,kp.1 < n/\lead tb kp.2=kp.1/\∀ y∈kp.2,y < e
 xX:pm.Pairwise fun a b=>code a.2 < code b.2
 len:∀ j (kp:Nat × List Nat),pm[j]? = some kp->kp.2.length<=j
 clo:∀(j:Nat)(kp:Nat × List Nat),pm[j]? = some kp->∀ y,y < e->(j < i ∨ (j=i/\y < x))->∃ p',lk pm (goal tb kp.1 y)=some p'/\code p'<=8 * code kp.2+(y+1)
 bnd:∀ c:Nat × List Nat,pm[i]? = some c->∀ kp∈pm,code kp.2<=8 * code c.2+x
section
end
end Wy
namespace mC
open PySem L2
inductive Pa(K:bj)(vs:List V)(H:Hp)(Q:VK)(E_:XK):Prop
 | mk (a:Addr) (ns:List Int) (k:Int) (_:vs=[.ref a,.int k]) (_:aR K H a (ns.map V.int)) (_:ns.length<=63) (_:∀ v:Int,Q (.int v) H)
inductive qR(K:bj)(vs:List V)(H:Hp)(Q:VK)(E_:XK):Prop
 | mk (a:Addr) (ns:List Int) (k salt:Int) (_:vs=[.ref a,.int k,.int salt]) (_:aR K H a (ns.map V.int)) (_:ns.length<=63) (_:(0<=k/\k<=1000000)) (_:(0<=salt/\salt<=1000)) (_:∀ r:Int,0<=r->r < 2147483648->Q (.int r) H)
section
theorem scC:aH ["_law_script","_law_k"] ["_law_script","_law_k"] (aC KD):=fW
theorem V2(F:dM K "_law_cell_at" "_law_cell_at" KD f fd)(ml:mg "len" = none):aO P w K mg base aZ 1 f fd ["_law_script","_law_k"] (Pa K):=by
 refine F.ok scC (fun vs H Q E h=>?_) (fun cdv A outer s H vs Q E hr h=>?_)
 ·refine aL fun G_ g_=>?_;obtain⟨a,ns,k,rfl,_⟩:=h;apply g_;clear g_ G_;rfl
 refine aL fun G_ g_=>?_;obtain⟨a,ns,k,rfl,hS,h63,q⟩:=h;apply g_;clear g_ G_
 refine⟨_,zE (yD (zL yG (zS zN rfl ml bh (zA (pv 0) zD)) zB (zR _)) (zG (zO zB)) zT)
  (zG (zO (yB yU (pv 0) (yC zY (pv 1) (zS zN rfl ml bh (zA (pv 0) zD))) (fun _ _=>rfl)))),?_⟩
 have hl:(ns.map V.int).length=ns.length:=bZ _;refine⟨_,rfl,a,_,rfl,.inl hS,rfl,_,rfl,?_⟩;refine rA (fun c=>?_) (fun c=>?_)
 ·exact q 0
 ·have c':¬ V.int (((ns.map V.int).length:Nat):Int)=V.int 0:=of_decide_eq_false (Bool.eq_false_iff.mpr c)
  have hp:(0:Int) < (((ns.map V.int).length:Nat):Int):=by
   rw[hl]at c' ⊢;have:ns.length ≠ 0:=fun z=>c' (by rw[z];rfl);lia
  obtain⟨v,hv⟩:=Vv (ns:=ns) (i:=k % (((ns.map V.int).length:Nat):Int)) (HR _ (by lia)) (by have:=HQ k hp;rw[hl]at this ⊢;exact this);exact⟨_,rfl,_,rfl,_,rfl,a,_,rfl,.inl hS,_,_,rfl,rfl,hp,a,_,_,_,rfl,rfl,hS,hv,q v⟩
theorem Zf:aH ["_law_script","_law_k","_law_salt","_law_cell","_law_lap",qAT] ["_law_script","_law_k","_law_salt"] (aC Bt):=fW
theorem wL(h0:0<=i)(h1:i < 18446744073709551616):W8 i j:=.inl ⟨by lia,by lia⟩
theorem QR(F:dM K "_law_mixed" "_law_mixed" Bt f fd)(G:aO P w K mg base aZ 1 g gd ["_law_script","_law_k"] (Pa K))(bG:Binds K gd ["_law_script","_law_k"] [])(kG:KI K g)(mG:mg "_law_cell_at" = some (.ref g))
  (ml:mg "len" = none) (mm:mg "max" = none):aO P w K mg base aZ 2 f fd ["_law_script","_law_k","_law_salt"] (qR K):=by
 refine F.ok Zf (fun vs H Q E h=>?_) (fun cdv A outer s H vs Q E hr h=>?_)
 ·refine aL fun G_ g_=>?_;obtain⟨a,ns,k,salt,rfl,_⟩:=h;apply g_;clear g_ G_;rfl
 refine aL fun G_ g_=>?_;obtain⟨a,ns,k,salt,rfl,hS,h63,hk,hs,q⟩:=h;apply g_;clear g_ G_
 refine⟨_,zE (zK (i:=3) Zf.nd rfl (Or.inl rfl) (zJ G hr rfl mG kG bG .nil yE (zA (pv 0) (zA (pv 1) zD))))
  (zE (zK (i:=4) Zf.nd rfl (Or.inl rfl) (yC yL (pv 1) (zS (Nv rfl) rfl mm PyProof.Rows.boot_max (zA zB (zA (zS zN rfl ml bh (zA (pv 0) zD)) zD)))))
  (zE (zK (i:=5) Zf.nd rfl (Or.inl rfl) (yC yF (yC yF (yC yF (yC QL (pv 3) zB) (yC n6 (yC n6 zB (pv 1)) (pv 1))) (yC n6 (yC n6 zB (pv 2)) (pv 2))) zB))
  (zE (zK (i:=5) Zf.nd rfl (Or.inl rfl) (yC zY (yC n6 (pv 5) zB) zB))
  (zE (zK (i:=5) Zf.nd rfl (Or.inl rfl) (yC zY (yC n6 (pv 5) (pv 5)) zB))
  (zG (zO (yC QL (yC yF (yC YK (pv 3) (yC n6 zB (yC yF (pv 2) (yC n6 zB (pv 4))))) (pv 5)) zB))))))),?_⟩
 have hl:(ns.map V.int).length=ns.length:=bZ _;refine⟨_,rfl,_,rfl,a,ns,k,rfl,hS,h63,fun v=>?_⟩;refine⟨_,rfl,_,rfl,a,_,rfl,.inl hS,_,_,rfl,bF ?_⟩
 have hM:0 < (if (((ns.map V.int).length:Nat):Int) > 1 then (((ns.map V.int).length:Nat):Int) else 1)/\(if (((ns.map V.int).length:Nat):Int) > 1 then (((ns.map V.int).length:Nat):Int) else 1) < 1073741824:=by
  rw[hl]
  split <;> lia
 refine⟨hM,?_⟩;have qG0:=Int.ediv_nonneg hk.1 (Int.le_of_lt hM.1);refine⟨_,rfl,bF ⟨_,rfl,bF ⟨wL (by decide) (by decide),_,rfl,bF ⟨wL (by lia) (by lia),_,_,rfl,rfl,_,rfl,bF ⟨wL (by decide) (by decide),_,rfl,bF ⟨wL (by lia) (by lia),_,_,rfl,rfl,bF ?_⟩⟩⟩⟩⟩⟩;refine⟨_,rfl,bF ⟨.inr ⟨by decide,by decide⟩,_,_,rfl,rfl,(by show (0:Int) < 2147483647;decide),?_⟩⟩;have b1:=HR ((Builtin.bitAnd v 2147483647+1009 * k * k+7919 * salt * salt+12) * 48271) (show (2147483647:Int) ≠ 0 by decide);have b2:=HQ ((Builtin.bitAnd v 2147483647+1009 * k * k+7919 * salt * salt+12) * 48271) (show (0:Int) < 2147483647 by decide);refine⟨_,rfl,_,rfl,bF ⟨wL b1 (Int.lt_trans b2 (by decide)),_,_,rfl,rfl,(by show (0:Int) < 2147483629;decide),?_⟩⟩;refine⟨_,rfl,_,rfl,_,rfl,bF ⟨wL (by decide) (by decide),_,_,rfl,rfl,bF ⟨wL (by decide) (by decide),_,_,rfl,rfl,?_,_,rfl,bF (bF ?_)⟩⟩⟩
 ·have nn:∀ lap:Int,0<=lap->0<=31 * (salt+128 * lap):=fun lap h=>by lia
  exact nn _ qG0
 ·exact q _ (Wo _).1 (Wo _).2
end
end mC
namespace mC
open PySem L2 ou
noncomputable def pV:Option Nat->V
 | none=>.non
 | some j=>.int (j:Int)
noncomputable def aB(s:List Nat):List V:=s.map fun j:Nat=>V.int (j:Int)
theorem xM(xs:List V)(h:0<=d):lZ xs none (some d)=xs.take d.toNat:=by
 show (xs.drop 0).take ((if d < 0 then (d+(xs.length:Int)).toNat else min d.toNat xs.length) - 0)=_;rw[if_neg (by lia),List.drop_zero,Nat.sub_zero,List.take_eq_take_iff];lia
end mC
namespace mC
open PySem L2 ou xT
theorem Af(os:List Nat):(aB os).all jB=true:=by
 rw[List.all_eq_true];intro x hx;obtain⟨n,_,rfl⟩:=gU.mp hx;rfl
theorem Kl{os:List Nat}{j:Int}(h:inV (.int j) (aB os)=true):∃ o∈os,(o:Int)=j:=by
 unfold inV aB at h;rw[List.any_map,List.any_eq_true]at h;obtain⟨o,ho,e⟩:=h;exact⟨o,ho,by simpa [Ni] using e⟩
theorem Qi{os:List Nat}{i:Int}(h0:0<=i)(h1:i < (os.length:Int)):∃ o∈os,uO (aB os) i=some (.int (o:Int)):=by
 obtain⟨v,hv,e⟩:=jE (xs:=aB os) (i:=i) h0 (by unfold aB;rw[bZ];exact h1);obtain⟨o,ho,rfl⟩:=gU.mp hv;exact⟨o,ho,e⟩
theorem zU(os:List Nat):(aB os).length=os.length:=bZ _
theorem kZ(os:List Nat)(k:Nat):aB os++[.int (k:Int)]=aB (os++[k]):=by
 unfold aB;rw[jn];rfl
end mC
namespace jP
open PySem L2 mC ou xT
theorem gq{os:List Nat}{f:Nat->Bool}{i o:Nat}(h:os[i]? = some o):(os.take (i+1)).filter f=(os.take i).filter f++(if f o=true then [o] else []):=by
 rw[jN,h,List.filter_append];congr 1;show [o].filter f=_;rw[List.filter_cons]
 split <;> rfl
theorem yR{os:List Nat}{i:Nat}{x:V}(h:(aB os)[i]? = some x):∃ hi:i < os.length,x = .int ((os[i]:Nat):Int):=by
 have hi:i < os.length:=by
  have:=(jM.mp h).1;rw[zU]at this;exact this
 refine⟨hi,?_⟩;unfold aB at h;rw[cG,dX hi]at h;exact (iM h).symm
end jP
namespace K02
open PySem L2 mC ou
abbrev mj:Stmt:=mC.mj
inductive lG(n:Nat)(vs:List V)(H:Hp)(Q:VK)(E_:XK):Prop
 | mk (vg o b g op bx) (_:vs=[vg,.ref o,.ref b]) (_:jh H vg g) (_:H o=some (.tup (op.map V.int))) (_:H b=some (.tup (bx.map V.int))) (_:g.ok bx.length) (_:g.ht<=n) (_:Q (.bl (g.holds op bx)) H)
section
theorem Ey:aH ["guard","opening","boxes","kind"] ["guard","opening","boxes"] (aC mj):=fW
theorem QT(F:dM K "holds" "holds" mj f fd)(mD:Dp P w K mg base aZ n f fd ["guard","opening","boxes"] (lG n) "holds") :
  aO P w K mg base aZ (n+1) f fd ["guard","opening","boxes"] (lG (n+1)):=by
 refine F.ok Ey (fun vs H Q E h=>?_) (fun cdv A outer s H vs Q E hr h=>?_)
 ·refine aL fun G_ g_=>?_;obtain⟨vg,o,b,g,op,bx,rfl,_⟩:=h;apply g_;clear g_ G_;rfl
 refine aL fun G_ g_=>?_;obtain⟨vg,o,b,g,op,bx,rfl,hg,ho,hb,hok,hht,q⟩:=h;apply g_;clear g_ G_
 refine⟨_,(zE (zK (i:=3) Ey.nd rfl (Or.inl rfl) (yB zH (pv 0) zB (fun _ _=>rfl)))
  (zE (yD (zL yG (pv 3) zP (zR _))
  (zG (zO cz))
  zT)
  (zE (yD (zL yG (pv 3) zP (zR _))
  (zG (zO (fB yG (yB zH (pv 2) (yB zH (pv 0) zB (fun _ _=>rfl)) (fun _ _=>rfl)) (yB zH (pv 0) zB (fun _ _=>rfl)) (zR _))))
  zT)
  (zE (yD (zL yG (pv 3) zP (zR _))
  (zG (zO (fB j5 (yB zH (pv 2) (yB zH (pv 0) zB (fun _ _=>rfl)) (fun _ _=>rfl)) (yB zH (pv 0) zB (fun _ _=>rfl)) (zR _))))
  zT)
  (zE (yD (zL yG (pv 3) zP (zR _))
  (zG (zO (fB zz (yB zH (pv 0) zB (fun _ _=>rfl)) (pv 1) rfl)))
  zT)
  (zE (yD (zL yG (pv 3) zP (zR _))
  (zG (zO (Ia (pC mD hr (zA (yB zH (pv 0) zB (fun _ _=>rfl)) (zA (pv 1) (zA (pv 2) zD)))))))
  zT)
  (zE (yD (zL yG (pv 3) zP (zR _))
  (zG (zO (QF (pC mD hr (zA (yB zH (pv 0) zB (fun _ _=>rfl)) (zA (pv 1) (zA (pv 2) zD)))) (CG (pC mD hr (zA (yB zH (pv 0) zB (fun _ _=>rfl)) (zA (pv 1) (zA (pv 2) zD))))))))
  zT)
  (zG (zO (Wi (pC mD hr (zA (yB zH (pv 0) zB (fun _ _=>rfl)) (zA (pv 1) (zA (pv 2) zD)))) (CG (pC mD hr (zA (yB zH (pv 0) zB (fun _ _=>rfl)) (zA (pv 1) (zA (pv 2) zD))))))))))))))),?_⟩
 cases hg with
 | @yes a e=>
  exact⟨_,rfl,aF (aJ.of e) rfl ⟨_,rfl,rfl,_,rfl,yO q⟩⟩
 | @is a c m e=>
  refine⟨_,rfl,aF (aJ.of e) rfl ⟨_,rfl,rfl,_,rfl,yN (by decide +kernel) ⟨_,rfl,rfl,_,rfl,yO ?_⟩⟩⟩;exact⟨_,rfl,_,rfl,aF (aJ.of e) rfl (aF (aJ.of hb) (xQ hok.1 hok.2) ⟨_,rfl,aF (aJ.of e) rfl ⟨rfl,q⟩⟩)⟩
 | @under a c m e=>
  refine⟨_,rfl,aF (aJ.of e) rfl ⟨_,rfl,rfl,_,rfl,yN (by decide +kernel) ⟨_,rfl,rfl,_,rfl,yN (by decide +kernel) ⟨_,rfl,rfl,_,rfl,yO ?_⟩⟩⟩⟩;exact⟨_,rfl,_,rfl,aF (aJ.of e) rfl (aF (aJ.of hb) (xQ hok.1 hok.2) ⟨_,rfl,aF (aJ.of e) rfl (bF q)⟩)⟩
 | @inn a r e=>
  refine⟨_,rfl,aF (aJ.of e) rfl ⟨_,rfl,rfl,_,rfl,yN (by decide +kernel) ⟨_,rfl,rfl,_,rfl,yN (by decide +kernel) ⟨_,rfl,rfl,_,rfl,yN (by decide +kernel) ⟨_,rfl,rfl,_,rfl,yO ?_⟩⟩⟩⟩⟩;exact⟨_,rfl,aF (aJ.of e) rfl ⟨_,rfl,gf rfl (.inr (aJ.of ho)) ⟨rfl,tK op,q⟩⟩⟩
 | @neg a v g e hg=>
  have h1:g.ht+1<=n+1:=hht;refine⟨_,rfl,aF (aJ.of e) rfl ⟨_,rfl,rfl,_,rfl,yN (by decide +kernel) ⟨_,rfl,rfl,_,rfl,yN (by decide +kernel) ⟨_,rfl,rfl,_,rfl,yN (by decide +kernel) ⟨_,rfl,rfl,_,rfl,yN (by decide +kernel) ⟨_,rfl,rfl,_,rfl,yO ?_⟩⟩⟩⟩⟩⟩;exact⟨_,rfl,aF (aJ.of e) rfl ⟨_,rfl,_,rfl,v,o,b,g,op,bx,rfl,hg,ho,hb,hok,by lia,_,rfl,q⟩⟩
 | @both a v u g h e hg hh=>
  have h1:1+max g.ht h.ht<=n+1:=hht;refine⟨_,rfl,aF (aJ.of e) rfl ⟨_,rfl,rfl,_,rfl,yN (by decide +kernel) ⟨_,rfl,rfl,_,rfl,yN (by decide +kernel) ⟨_,rfl,rfl,_,rfl,yN (by decide +kernel) ⟨_,rfl,rfl,_,rfl,yN (by decide +kernel) ⟨_,rfl,rfl,_,rfl,yN (by decide +kernel) ⟨_,rfl,rfl,_,rfl,yO ?_⟩⟩⟩⟩⟩⟩⟩;refine⟨_,rfl,aF (aJ.of e) rfl ⟨_,rfl,_,rfl,v,o,b,g,op,bx,rfl,hg,ho,hb,hok.1,by lia,_,rfl,?_⟩⟩;have q':Q (.bl (g.holds op bx && h.holds op bx)) H:=q;refine rA (fun c=>?_) (fun c=>?_)
  ·rw[c,Bool.true_and]at q';exact⟨_,rfl,aF (aJ.of e) rfl ⟨_,rfl,_,rfl,u,o,b,h,op,bx,rfl,hh,ho,hb,hok.2,by lia,q'⟩⟩
  ·rw[Bool.eq_false_iff.mpr c,Bool.false_and]at q';exact q'
 | @either a v u g h e hg hh=>
  have h1:1+max g.ht h.ht<=n+1:=hht;refine⟨_,rfl,aF (aJ.of e) rfl ⟨_,rfl,rfl,_,rfl,yN (by decide +kernel) ⟨_,rfl,rfl,_,rfl,yN (by decide +kernel) ⟨_,rfl,rfl,_,rfl,yN (by decide +kernel) ⟨_,rfl,rfl,_,rfl,yN (by decide +kernel) ⟨_,rfl,rfl,_,rfl,yN (by decide +kernel) ⟨_,rfl,rfl,_,rfl,yN (by decide +kernel) ?_⟩⟩⟩⟩⟩⟩⟩;refine⟨_,rfl,aF (aJ.of e) rfl ⟨_,rfl,_,rfl,v,o,b,g,op,bx,rfl,hg,ho,hb,hok.1,by lia,_,rfl,?_⟩⟩;have q':Q (.bl (g.holds op bx || h.holds op bx)) H:=q;refine rA (fun c=>?_) (fun c=>?_)
  ·rw[c,Bool.true_or]at q';exact q'
  ·rw[Bool.eq_false_iff.mpr c,Bool.false_or]at q';exact⟨_,rfl,aF (aJ.of e) rfl ⟨_,rfl,_,rfl,u,o,b,h,op,bx,rfl,hh,ho,hb,hok.2,by lia,q'⟩⟩
theorem Ir:aO P w K mg base aZ 0 f fd ["guard","opening","boxes"] (lG 0):=by
 have no:∀ vs H Q E,¬ lG 0 vs H Q E:=fun vs H Q E h=>by
  refine aL fun G_ g_=>?_;obtain⟨vg,o,b,g,op,bx,_,_,_,_,_,h2,_⟩:=h;apply g_;clear g_ G_;have:=g.Yy;lia
 exact⟨fun vs H Q E h=>absurd h (no vs H Q E),fun A outer s H args us vs Q E _ _ _ _ h=>absurd h (no vs H Q E)⟩
theorem BP(F:dM K "holds" "holds" mj f fd)(ux:Binds K fd ["guard","opening","boxes"] [])(um:mg "holds" = some (.ref f)):∀ n:Nat,aO P w K mg base aZ n f fd ["guard","opening","boxes"] (lG n)
 | 0=>Ir
 | n+1=>QT F ⟨BP F ux um n,ux,F.kp,um⟩
end
end K02
namespace Bb
open PySem L2 mC ou
inductive Al{α:Type}(R:V->α->Prop):List V->List α->Prop where
 | nil:Al R [] []
 | cons {v:V} {r:α} {vs:List V} {rs:List α}:R v r->Al R vs rs->Al R (v :: vs) (r :: rs)
theorem Al.mono(x:Al R vs rs)(k:∀ v r,R v r->R' v r):Al R' vs rs:=by
 induction x with
 | nil=>exact .nil
 | cons h _ ih=>exact .cons (k _ _ h) ih
theorem Al.length(x:Al R vs rs):vs.length=rs.length:=by
 induction x with
 | nil=>rfl
 | cons _ _ ih=>rw[eO,eO,ih]
theorem Al.snoc(x:Al R vs rs)(y:R v r):Al R (vs++[v]) (rs++[r]):=by
 induction x with
 | nil=>exact .cons y .nil
 | cons h _ ih=>exact .cons h ih
theorem Al.get{R:V->α->Prop}{vs:List V}{rs:List α}(x:Al R vs rs):∀ {k:Nat} {r:α},rs[k]? = some r->∃ v,vs[k]? = some v/\R v r:=by
 induction x with
 | nil=>intro k r h;simp at h
 | cons h _ ih=>
  intro k r e
  cases k with
  | zero=>
   simp at e;subst e;exact⟨_,rfl,h⟩
  | succ k=>exact ih (by simpa using e)
structure Dg where
 room:Int
 ev:Int
 g:Gd
def W6(H:Hp)(v:V)(d:Dg):Prop:=∃ a gv x3 x4 x5,v = .ref a/\H a=some (.tup [.int d.room,.int d.ev,gv,x3,x4,x5])/\jh H gv d.g
noncomputable def hit(op bx:List Int)(room ev:Int)(d:Dg):Bool:=decide (V.int d.room=V.int room) && (decide (V.int d.ev=V.int ev) && d.g.holds op bx)
noncomputable def fst(op bx:List Int)(room ev:Int):List Dg->Nat->Option Nat
 | [],_=>none
 | d :: r,b=>if hit op bx room ev d=true then some b else fst op bx room ev r (b+1)
theorem Ge(op bx:List Int)(room ev:Int)(d:Dg):∀ ds b,fst op bx room ev (ds++[d]) b=match fst op bx room ev ds b with
  | some k=>some k
  | none=>if hit op bx room ev d=true then some (b+ds.length) else none
 | [],b=>by
  rfl
 | x :: ds,b=>by
  show (if hit op bx room ev x=true then some b else fst op bx room ev (ds++[d]) (b+1))=match (if hit op bx room ev x=true then some b else fst op bx room ev ds (b+1)) with
   | some k=>some k
   | none=>if hit op bx room ev d=true then some (b+(ds.length+1)) else none
  by_cases h:hit op bx room ev x=true
  ·rw[if_pos h,if_pos h]
  ·rw[if_neg h,if_neg h,Ge op bx room ev d ds (b+1),show b+1+ds.length=b+(ds.length+1) by lia]
noncomputable def dI(op bx:List Int)(ds:List Dg)(room ev:Int):Option Nat:=if inV (.int room) (op.map V.int)=true then fst op bx room ev ds 0 else none
theorem Gr(op bx:List Int)(ds:List Dg)(d:Dg)(room ev:Int):dI op bx (ds++[d]) room ev=if inV (.int room) (op.map V.int)=true/\dI op bx ds room ev=none/\hit op bx room ev d=true then some ds.length else dI op bx ds room ev:=by
 unfold dI
 by_cases h:inV (.int room) (op.map V.int)=true
 ·rw[if_pos h,if_pos h,Ge,Nat.zero_add]
  cases fst op bx room ev ds 0 with
  | some k=>
   show some k=if _ then _ else some k;rw[if_neg (fun z=>by cases z.2.1)]
  | none=>
   show (if hit op bx room ev d=true then some ds.length else none)=if (inV (.int room) (op.map V.int)=true/\(none:Option Nat)=none/\hit op bx room ev d=true) then some ds.length else none
   by_cases y:hit op bx room ev d=true
   ·rw[if_pos y,if_pos ⟨h,rfl,y⟩]
   ·rw[if_neg y,if_neg (fun z=>y z.2.2)]
 ·rw[if_neg h,if_neg h,if_neg (fun z=>h z.1)]
theorem tK(os:List Int):(os.map V.int).all jB=true:=by
 rw[List.all_eq_true];intro x hx;obtain⟨n,_,rfl⟩:=gU.mp hx;rfl
inductive zf(n:Nat)(vs:List V)(H:Hp)(Q:VK)(E_:XK):Prop
 | mk (pc sG pd o b op bx ds dv x0 x1 x2 x3 x4 x5 x ev) (_:vs=[.ref pc,.ref sG,.int ev]) (_:H pc=some (.tup [x0,x1,x2,x3,x4,x5,.ref pd])) (_:H pd=some (.tup dv)) (_:Al (W6 H) dv ds) (_:H sG=some (.tup [.ref o,.ref b,x])) (_:H o=some (.tup (op.map V.int))) (_:H b=some (.tup (bx.map V.int))) (_:(∀ d∈ds,d.g.ok bx.length/\d.g.ht<=n)) (_:ds.length<=1000) (_:∀ p kvs H',aG H H'->H' p=some (.dK kvs)->(∀ r:Int,dD kvs (Sum.inl r)=(dI op bx ds r ev).map fun k:Nat=>V.int (k:Int))->(∃ ks:List Int,kvs.map (·.1)=ks.map Sum.inl/\ks.length<=ds.length)->H p=none->Q (.ref p) H')
section
theorem fc:aH ["chart","stand","event","opening","by_room","number","door","room"] ["chart","stand","event"] (aC qg):=fW
theorem Io{f gh:Addr}{fd dh:FuncData}(F:dM K "answers" "answers" qg f fd)(mD:Dp P w K mg base aZ n gh dh ["guard","opening","boxes"] (K02.lG n) "holds")
  (Fy:mg "enumerate" = none):aO P w K mg base aZ (n+1) f fd ["chart","stand","event"] (zf n):=by
 refine F.ok fc (fun vs H Q E h=>?_) (fun cdv A outer s H vs Q E hr h=>?_)
 ·refine aL fun G_ g_=>?_;obtain⟨pc,sG,pd,o,b,op,bx,ds,dv,x0,x1,x2,x3,x4,x5,x,ev,rfl,_⟩:=h;apply g_;clear g_ G_;rfl
 refine aL fun G_ g_=>?_;obtain⟨pc,sG,pd,o,b,op,bx,ds,dv,x0,x1,x2,x3,x4,x5,x,ev,rfl,JH,hpd,hds,hst,ho,hb,hok,qBP,q⟩:=h;apply g_;clear g_ G_;have hu:=Nat.lt_of_le_of_lt (Nat.add_le_add_left (show 1<=64 by decide) _) hr.units
 refine⟨_,(zE (zK (i:=3) fc.nd rfl (Or.inl rfl) (yB zH (pv 1) zB (fun _ _=>rfl)))
  (zE (zK (i:=4) fc.nd rfl (Or.inl rfl) QB)
  (zZ (cU PassesOwn.never rfl (Ub rfl Fy (zA (yB zH (pv 0) zB (fun _ _=>rfl)) zD)) (Q9 rfl (qp (yJ (i:=5) fc.nd rfl (Or.inl rfl)) (qp (yJ (i:=6) fc.nd rfl (Or.inl rfl)) Ka)))
  (zE (zK (i:=7) fc.nd rfl (Or.inl rfl) (yB zH (pv 6) zB (fun _ _=>rfl)))
  (zG (yD (cC (PW.pt (pw_and (zL yG (yB zH (pv 6) zB (fun _ _=>rfl)) (pv 2) (zR _)) (pw_and (zL zz (pv 7) (pv 3) rfl) (pw_and (Q6 (M9 hu (pv 7) (pv 4))) (yP (bR (pC mD hr (zA (yB zH (pv 6) zB (fun _ _=>rfl)) (zA (pv 3) (zA (yB zH (pv 1) zB (fun _ _=>rfl)) zD)))))))))))
  (zG (UT hu (pv 4) (pv 7) (pv 5) rfl))
  zT))))
  (zG (zO (pv 4)))))),?_⟩
 have ldv:=hds.length;refine⟨_,rfl,aF (aJ.of hst) rfl (fun pb hpb=>?_)⟩;have s1:=zF hpb (.dK []);refine⟨fun σ' H'=>∃ kvs:List (Key × V),aG H H'/\H' pb=some (.dK kvs)/\(∀ r:Int,dD kvs (Sum.inl r)=(dI op bx ds r ev).map fun k:Nat=>V.int (k:Int))/\(∃ ks:List Int,kvs.map (·.1)=ks.map Sum.inl/\ks.length<=ds.length)/\∃ o5 o6 o7:Option V,σ'=[some (.ref pc),some (.ref sG),some (.int ev),some (.ref o),some (.ref pb),o5,o6,o7],?_,?_⟩
 ·refine⟨_,rfl,aF (aJ.of (s1 _ _ JH)) rfl ⟨pd,rfl,⟨_,aJ.of (s1 _ _ hpd)⟩,?_⟩⟩;refine RP (xs:=dv) (fun i σ' H'=>∃ kvs:List (Key × V),aG H H'/\H' pb=some (.dK kvs)/\(∃ ks:List Int,kvs.map (·.1)=ks.map Sum.inl/\ks.length<=i)/\(∀ r:Int,dD kvs (Sum.inl r)=(dI op bx (ds.take i) r ev).map fun k:Nat=>V.int (k:Int))/\∃ o5 o6 o7:Option V,σ'=[some (.ref pc),some (.ref sG),some (.int ev),some (.ref o),some (.ref pb),o5,o6,o7])
   ⟨[],s1,zC,⟨[],rfl,bD _⟩,(fun r=>by
    unfold dI;rw[List.take_zero]
    split <;> rfl),_,_,_,rfl⟩ (fun i σ' H' _ ⟨_,s',_⟩=>aJ.of (s' _ _ hpd)) ?_ ?_
  ·rintro i x' σ' H3 t1 hx ⟨kvs,s3,h3,⟨ks,hks,lks⟩,TQ,o5,o6,o7,rfl⟩ ht1
   have l3:kvs.length<=i:=by
    have:=congrArg List.length hks;rw[bZ,bZ]at this;lia
   have hi:i < ds.length:=by
    have:=(jM.mp hx).1;lia
   have ed:=dX hi;refine aL fun G_ g_=>?_;obtain⟨v,hv,ad,gv,y3,y4,y5,rfl,had,hgd⟩:=hds.get ed;apply g_;clear g_ G_;rw[hv]at hx;obtain rfl:=iM hx;have hgk:=hok _ (ig hi);generalize hdd:ds[i]=d at had hgd hgk ed
   have et:ds.take (i+1)=ds.take i++[d]:=by
    rw[jN,ed];rfl
   have elt:(ds.take i).length=i:=by
    rw[jc];lia
   have s4:=s3.trans (zF ht1 (.tup [.int (i:Int),.ref ad]));have h4:=(zF ht1 (.tup [.int (i:Int),.ref ad])) _ _ h3;refine⟨t1,_,rfl,aJ.of zC,rfl,_,_,rfl,_,_,rfl,rfl,?_⟩;generalize upd H3 t1 (.tup [.int (i:Int),.ref ad])=H4 at s4 h4 ⊢;refine⟨_,rfl,aF (aJ.of (s4 _ _ had)) rfl ?_⟩;refine⟨fun c H'=>H'=H4/\c=(decide (V.int d.ev=V.int ev) && (inV (.int d.room) (op.map V.int) && (!(dD kvs (Sum.inl d.room)).isSome && d.g.holds op bx))),?_,?_⟩
   ·refine⟨_,rfl,aF (aJ.of (s4 _ _ had)) rfl ⟨_,rfl,rfl,_,rfl,jg (fun c1=>?_) (fun c1=>⟨rfl,?_⟩)⟩⟩
    ·have c1:decide (V.int d.ev=V.int ev)=true:=c1;rw[c1,Bool.true_and];refine⟨_,rfl,_,rfl,gf rfl (.inr (aJ.of (s4 _ _ ho))) ⟨rfl,tK op,_,rfl,jg (fun c2=>?_) (fun c2=>⟨rfl,?_⟩)⟩⟩
     ·have c2:inV (.int d.room) (op.map V.int)=true:=c2;rw[c2,Bool.true_and];refine⟨_,rfl,_,rfl,pb,_,rfl,Dy.k (k:=Sum.inl d.room) h4,_,rfl,jg (fun c3=>?_) (fun c3=>⟨rfl,?_⟩)⟩
      ·rw[c3,Bool.true_and];exact⟨_,rfl,aF (aJ.of (s4 _ _ had)) rfl ⟨_,rfl,_,rfl,aF (aJ.of (s4 _ _ hst)) rfl ⟨gv,o,b,d.g,op,bx,rfl,hgd.mono (aA.of s4),s4 _ _ ho,s4 _ _ hb,hgk.1,hgk.2,_,rfl,rfl,rfl⟩⟩⟩
      ·rw[c3];rfl
     ·have c2:inV (.int d.room) (op.map V.int)=false:=c2;rw[c2];rfl
    ·have c1:decide (V.int d.ev=V.int ev)=false:=c1;rw[c1];rfl
   rintro c H5 ⟨rfl,hc⟩;refine jg (fun c1=>?_) (fun c1=>?_)
   ·rw[c1]at hc;have hc':=hc.symm;simp only[Bool.and_eq_true,Bool.not_eq_true']at hc';refine aL fun G_ g_=>?_;obtain⟨e1,e2,e3,e4⟩:=hc';apply g_;clear g_ G_
    have e5:dI op bx (ds.take i) d.room ev=none:=by
     have:=TQ d.room
     cases z:dI op bx (ds.take i) d.room ev with
     | none=>rfl
     | some k=>
      rw[z]at this;rw[this]at e3
      cases e3
    refine⟨_,rfl,_,rfl,_,rfl,pb,_,rfl,Sv.k (k:=Sum.inl d.room) h4 (zV (by lia)),putK kvs (Sum.inl d.room) (.int (i:Int)),eQ hpb s4 _,zC,⟨ks++[d.room],by rw[Q5 _ (by have:=TQ d.room;rw[e5]at this;exact this),List.map_append,List.map_append,hks];rfl,by rw[List.length_append];simp;lia⟩,fun r=>?_,_,_,_,rfl⟩;rw[Oi,et,Gr,elt]
    by_cases z:(Sum.inl r:Key)=Sum.inl d.room
    ·have z':r=d.room:=by injection z
     subst z'
     rw[if_pos rfl,if_pos ⟨e2,e5,by
      unfold hit;rw[decide_eq_true rfl,e1,e4]
      rfl⟩]
     rfl
    ·rw[if_neg z,if_neg (fun y=>z (by
      have y2:=y.2.2;unfold hit at y2;simp only[Bool.and_eq_true]at y2;have y3:=of_decide_eq_true y2.1;injection y3 with y4
      rw[y4]))]
     exact TQ r
   ·rw[c1]at hc;refine⟨kvs,s4,h4,⟨ks,hks,by lia⟩,fun r=>?_,_,_,_,rfl⟩;rw[et,Gr,if_neg (fun y=>?_)]
    ·exact TQ r
    ·refine aL fun G_ g_=>?_;obtain⟨y1,y2,y3⟩:=y;apply g_;clear g_ G_;unfold hit at y3;simp only[Bool.and_eq_true]at y3;refine aL fun G_ g_=>?_;obtain⟨z1,z2,z3⟩:=y3;apply g_;clear g_ G_;have z4:=of_decide_eq_true z1;injection z4 with z5;subst z5;have:=TQ d.room;rw[y2]at this;rw[z2,y1,this,z3]at hc
     cases hc
  ·rintro σ' H3 bV;refine aL fun G_ g_=>?_;obtain⟨kvs,s3,h3,⟨ks,hks,lks⟩,TQ,r⟩:=bV;apply g_;clear g_ G_;rw[uz (by lia)]at TQ;exact⟨kvs,s3,h3,TQ,⟨ks,hks,by lia⟩,r⟩
 rintro σ' H3 bV;refine aL fun G_ g_=>?_;obtain⟨kvs,s3,h3,TQ,hks,o5,o6,o7,rfl⟩:=bV;apply g_;clear g_ G_;exact⟨_,rfl,q pb kvs H3 s3 h3 TQ hks hpb⟩
end
end Bb
namespace jP
open PySem L2 mC ou xT
inductive Et(vs:List V)(H:Hp)(Q:VK)(E_:XK):Prop
 | mk (t:Addr) (rs:List Rm) (k:Nat) (_:vs=[.ref t,.int (k:Int)]) (_:dJ H t rs) (_:rs.length<=40) (_:k < rs.length) (_:∀ e:Nat,Tr.BZ (aD rs) k e->Q (.int (e:Int)) H)
section
theorem sW:aH ["rooms","room","depth","other"] ["rooms","room"] (aC Bu):=fW
theorem YT(F:dM K "end_of" "end_of" Bu f fd)(au:mg "range" = none)(aU:mg "len" = none):aO P w K mg base aZ 1 f fd ["rooms","room"] Et:=by
 refine F.ok sW (fun vs H Q E h=>?_) (fun cdv A outer s H vs Q E hr h=>?_)
 ·refine aL fun G_ g_=>?_;obtain⟨t,rs,k,rfl,_⟩:=h;apply g_;clear g_ G_;rfl
 refine aL fun G_ g_=>?_;obtain⟨t,rs,k,rfl,hR,qD,hk,q⟩:=h;apply g_;clear g_ G_
 refine⟨_,(zE (zK (i:=2) sW.nd rfl (Or.inl rfl) (yB zH (yB zH (pv 0) (pv 1) (fun _ _=>rfl)) zB (fun _ _=>rfl)))
  (zZ (cU PassesOwn.never rfl (zr rfl au (zA (yC yF (pv 1) zB) (zA (zS zN rfl aU bh (zA (pv 0) zD)) zD))) (yJ (i:=3) sW.nd rfl (Or.inl rfl))
  (zG (yD (zL Kf (yB zH (yB zH (pv 0) (pv 3) (fun _ _=>rfl)) zB (fun _ _=>rfl)) (pv 2) (zR _))
  (zG (zO (pv 3)))
  zT)))
  (zG (zO (zS zN rfl aU bh (zA (pv 0) zD)))))),?_⟩
 refine aL fun G_ g_=>?_;obtain⟨vs,a,r,ht,hl,hr0,hat,ha⟩:=hR.at hk;apply g_;clear g_ G_;have ed:=gH hr0;have dl:=yV rs;refine⟨_,rfl,_,rfl,t,vs,_,_,rfl,rfl,aJ.of ht,hat,aF (aJ.of ha) rfl ?_⟩;refine⟨fun σ' H'=>H'=H/\Tr.BZ (aD rs) k rs.length/\∃ o3:Option V,σ'=[some (.ref t),some (.int (k:Int)),some (.int r.depth),o3],?_,?_⟩
 ·refine⟨_,rfl,bF ⟨_,rfl,gf rfl (.inr (aJ.of ht)) ⟨_,_,rfl,⟨by lia,by lia,by lia,by lia⟩,?_⟩⟩⟩;refine dG (fun i σ' H'=>H'=H/\(∀ j,k < j->j < k+1+i->(aD rs).getD k 0 < (aD rs).getD j 0)/\∃ o3:Option V,σ'=[some (.ref t),some (.int (k:Int)),some (.int r.depth),o3]) ⟨rfl,fun j j1 j2=>by lia,none,rfl⟩ ?_ ?_
  ·rintro i σ' H' hi bV;refine aL fun G_ g_=>?_;obtain⟨rfl,hin,o3,rfl⟩:=bV
   have hj:k+1+i < rs.length:=by lia
   obtain⟨vs2,a2,r2,HF,hl2,hr2,R8,ha2⟩:=hR.at hj;apply g_;clear g_ G_;rw[ht]at HF
   cases HF
   have Wz:=gH hr2
   have ej:(k:Int)+1+(i:Int)=((k+1+i:Nat):Int):=by lia
   refine⟨_,rfl,_,rfl,t,vs,_,_,rfl,rfl,aJ.of ht,(by rw[ej];exact R8),aF (aJ.of ha2) rfl ⟨_,rfl,bF ⟨_,rfl,?_⟩⟩⟩;refine rA (fun c=>?_) (fun c=>?_)
   ·have c':=of_decide_eq_true c;refine⟨_,rfl,?_⟩;have z:=q (k+1+i) ⟨by lia,by lia,hin,fun _=>by rw[Wz,ed];exact c'⟩;rw[<-ej]at z;exact z
   ·have c':¬ r2.depth<=r.depth:=fun z=>c (decide_eq_true z);refine⟨rfl,fun j j1 j2=>?_,_,rfl⟩
    by_cases y:j=k+1+i
    ·rw[y,Wz,ed];lia
    ·exact hin j j1 (by lia)
  ·rintro σ' H' bV;refine aL fun G_ g_=>?_;obtain⟨rfl,hin,o3,rfl⟩:=bV;apply g_;clear g_ G_;exact⟨rfl,⟨hk,by lia,fun j j1 j2=>hin j j1 (by lia),fun z=>by lia⟩,o3,rfl⟩
 rintro σ' H' bV;refine aL fun G_ g_=>?_;obtain⟨rfl,he,o3,rfl⟩:=bV;apply g_;clear g_ G_;refine⟨_,rfl,gf rfl (.inr (aJ.of ht)) ?_⟩;have z:=q _ he;rw[<-hl]at z;exact z
end
inductive Er(vs:List V)(H:Hp)(Q:VK)(E_:XK):Prop
 | mk (t:Addr) (rs:List Rm) (k:Nat) (_:vs=[.ref t,.int (k:Int)]) (_:dJ H t rs) (_:Tr.Good (aD rs)) (_:rs.length<=40) (_:k < rs.length) (_:∀ H',aG H H'->Q (pV (Tr.par (aD rs) k)) H')
section
theorem sV:aH ["rooms","room","depth","other"] ["rooms","room"] (aC ud):=fW
theorem Ma(F:dM K "parent" "parent" ud f fd)(au:mg "range" = none):aO P w K mg base aZ 1 f fd ["rooms","room"] Er:=by
 refine F.ok sV (fun vs H Q E h=>?_) (fun cdv A outer s H vs Q E hr h=>?_)
 ·refine aL fun G_ g_=>?_;obtain⟨t,rs,k,rfl,_⟩:=h;apply g_;clear g_ G_;rfl
 refine aL fun G_ g_=>?_;obtain⟨t,rs,k,rfl,hR,good,qD,hk,q⟩:=h;apply g_;clear g_ G_
 refine⟨_,(zE (zK (i:=2) sV.nd rfl (Or.inl rfl) (yB zH (yB zH (pv 0) (pv 1) (fun _ _=>rfl)) zB (fun _ _=>rfl)))
  (zZ (cU PassesOwn.never rfl (Uc rfl au (qF3 (yC CV (pv 1) zB) (qBA (qu lE zB) (qBA (qu lE zB) zD)))) (yJ (i:=3) sV.nd rfl (Or.inl rfl))
  (zG (yD (zL j5 (yB zH (yB zH (pv 0) (pv 3) (fun _ _=>rfl)) zB (fun _ _=>rfl)) (pv 2) (zR _))
  (zG (zO (pv 3)))
  zT)))
  (zG (zO gA)))),?_⟩
 refine aL fun G_ g_=>?_;obtain⟨vs,a,r,ht,hl,hr0,hat,ha⟩:=hR.at hk;apply g_;clear g_ G_;have ed:=gH hr0;refine⟨_,rfl,_,rfl,t,vs,_,_,rfl,rfl,aJ.of ht,hat,aF (aJ.of ha) rfl ?_⟩;refine⟨fun σ' H'=>H'=H/\Tr.par (aD rs) k=none,?_,?_⟩
 ·refine⟨_,rfl,bF ⟨_,rfl,_,rfl,(k:Int) - 1,rfl,by lia,by lia,?_⟩⟩;refine RQ (fun i σ' H'=>H'=H/\(∀ j,k<=j+i->j < k->(aD rs).getD k 0<=(aD rs).getD j 0)/\∃ o3:Option V,σ'=[some (.ref t),some (.int (k:Int)),some (.int r.depth),o3]) ⟨rfl,fun j j1 j2=>by lia,none,rfl⟩ ?_ ?_
  ·rintro i σ' H' hi bV;refine aL fun G_ g_=>?_;obtain⟨rfl,hin,o3,rfl⟩:=bV
   have hi':i < k:=by lia
   have hj:k - 1 - i < rs.length:=by lia
   obtain⟨vs2,a2,r2,HF,hl2,hr2,R8,ha2⟩:=hR.at hj;apply g_;clear g_ G_;rw[ht]at HF
   cases HF
   have Wz:=gH hr2
   have ej:(k:Int) - 1 - (i:Int)=((k - 1 - i:Nat):Int):=by lia
   refine⟨_,rfl,_,rfl,t,vs,_,_,rfl,rfl,aJ.of ht,(by rw[ej];exact R8),aF (aJ.of ha2) rfl ⟨_,rfl,bF ⟨_,rfl,?_⟩⟩⟩;refine rA (fun c=>?_) (fun c=>?_)
   ·have c':=of_decide_eq_true c;refine⟨_,rfl,?_⟩;have e:Tr.par (aD rs) k=some (k - 1 - i):=Tr.ph (by lia) (by rw[Wz,ed];exact c') fun j j1 j2=>hin j (by lia) j2;have z:=q _ (aG.refl _);rw[e]at z;rw[ej];exact z
   ·have c':¬ r2.depth < r.depth:=fun z=>c (decide_eq_true z);refine⟨rfl,fun j j1 j2=>?_,_,rfl⟩
    by_cases y:j=k - 1 - i
    ·rw[y,Wz,ed];lia
    ·exact hin j (by lia) j2
  ·rintro σ' H' bV;refine aL fun G_ g_=>?_;obtain⟨rfl,hin,o3,rfl⟩:=bV;apply g_;clear g_ G_;exact⟨rfl,Tr.wD fun j hj=>hin j (by lia) hj⟩
 rintro σ' H' ⟨rfl,e⟩;have z:=q _ (aG.refl _);rw[e]at z;exact z
end
inductive Hk(vs:List V)(H:Hp)(Q:VK)(E_:XK):Prop
 | mk (t:Addr) (rs:List Rm) (one other:Nat) (_:vs=[.ref t,.int (one:Int),.int (other:Int)]) (_:dJ H t rs) (_:Tr.Good (aD rs)) (_:rs.length<=40) (_:one < rs.length) (_:other < rs.length) (_:∀ H',aG H H'->Q (.bl (Tr.bL (aD rs) one other)) H')
section
theorem Hs:aH ["rooms","one","other"] ["rooms","one","other"] (aC ue):=fW
theorem Uw(F:dM K "lies_in" "lies_in" ue f fd)(jK:Dp P w K mg base aZ n ge de ["rooms","room"] Et "end_of") :
  aO P w K mg base aZ (n+1) f fd ["rooms","one","other"] Hk:=by
 refine F.ok Hs (fun vs H Q E h=>?_) (fun cdv A outer s H vs Q E hr h=>?_)
 ·refine aL fun G_ g_=>?_;obtain⟨t,rs,one,other,rfl,_⟩:=h;apply g_;clear g_ G_;rfl
 refine aL fun G_ g_=>?_;obtain⟨t,rs,one,other,rfl,hR,good,qD,h1,h2,q⟩:=h;apply g_;clear g_ G_;have q':=q H (aG.refl _);have dl:=yV rs;refine⟨_,(zG (zO (QC j5 j5 (pv 2) (pv 1) (pC jK hr (zA (pv 0) (zA (pv 2) zD)))))),?_⟩;refine⟨_,rfl,_,rfl,bF ⟨_,rfl,?_⟩⟩;refine rA (fun c=>?_) (fun c=>?_)
 ·have c':=of_decide_eq_true c;refine⟨_,rfl,_,rfl,t,rs,other,rfl,hR,qD,h2,fun e he=>(bF ?_)⟩;rw[Tr.wQ he (by lia),decide_eq_true (show other < one by lia),Bool.true_and]at q';have e2:decide (one < e)=decide ((one:Int) < (e:Int)):=decide_eq_decide.mpr (by lia);rw[e2]at q';exact q'
 ·have c':¬ (other:Int) < (one:Int):=fun z=>c (decide_eq_true z)
  have e1:Tr.bL (aD rs) one other=false:=by
   unfold Tr.bL;rw[Bool.eq_false_iff];intro z;have:=Tr.Oj (List.contains_iff_mem.mp z);lia
  rw[e1]at q';exact q'
end
end jP
namespace Je
open PySem L2 mC ou xT
noncomputable def isOne(rs:List Rm)(x:Nat):Bool:=match rs[x]? with
 | some r=>decide (V.str r.kind=V.str "one")
 | none=>false
inductive PQ(vs:List V)(H:Hp)(Q:VK)(E_:XK):Prop
 | mk (t:Addr) (rs:List Rm) (one other:Nat) (_:vs=[.ref t,.int (one:Int),.int (other:Int)]) (_:dJ H t rs) (_:Tr.Good (aD rs)) (_:rs.length<=40) (_:one < rs.length) (_:other < rs.length) (_:∀ H',aG H H'->Q (pV (Tr.hall (aD rs) (isOne rs) one other)) H')
noncomputable def hgt:Option Nat->Nat
 | none=>0
 | some j=>j+1
end Je
namespace jP
open PySem L2 mC ou xT
section
theorem NP(ds:List Int)(f:Nat->Bool)(b:Nat)(k:Nat):Tr.hall ds f k b=match Tr.par ds k with
  | none=>none
  | some j=>if ((Tr.ups ds b).contains j && f j)=true then some j else Tr.hall ds f j b:=by
 unfold Tr.hall
 cases e:Tr.par ds k with
 | none=>
  rw[Tr.v8 e];rfl
 | some j=>
  rw[Tr.qO e,List.find?_cons];show _=if ((Tr.ups ds b).contains j && f j)=true then some j else _
  cases h:((Tr.ups ds b).contains j && f j) with
  | true=>rfl
  | false=>rfl
theorem lJ:aH ["rooms","one","other","hall"] ["rooms","one","other"] (aC oO):=fW
theorem Uz(F:dM K "hall_over" "hall_over" oO f fd)(Gw:Dp P w K mg base aZ n gp dp ["rooms","room"] Er "parent")
  (p7:Dp P w K mg base aZ n gl dl' ["rooms","one","other"] Hk "lies_in") :
  aO P w K mg base aZ (n+1) f fd ["rooms","one","other"] Je.PQ:=by
 refine F.ok lJ (fun vs H Q E h=>?_) (fun cdv A outer s H vs Q E hr h=>?_)
 ·refine aL fun G_ g_=>?_;obtain⟨t,rs,one,other,rfl,_⟩:=h;apply g_;clear g_ G_;rfl
 refine aL fun G_ g_=>?_;obtain⟨t,rs,one,other,rfl,hR,good,qD,h1,h2,q⟩:=h;apply g_;clear g_ G_
 refine⟨_,(zE (zK (i:=3) lJ.nd rfl (Or.inl rfl) (pC Gw hr (zA (pv 0) (zA (pv 1) zD))))
  (zZ (ql PassesOwn.never (zL Uk (pv 3) gA (zR _))
  (zE (yD (cC (PW.pt (pw_and (zL yG (yB zH (yB zH (pv 0) (pv 3) (fun _ _=>rfl)) zB (fun _ _=>rfl)) zP (zR _)) (yP (bR (pC p7 hr (zA (pv 0) (zA (pv 2) (zA (pv 3) zD)))))))))
  (zG (zO (pv 3)))
  zT)
  (zG (zK (i:=3) lJ.nd rfl (Or.inl rfl) (pC Gw hr (zA (pv 0) (zA (pv 3) zD)))))))
  (zG (zO gA)))),?_⟩
 refine⟨_,rfl,_,rfl,t,rs,one,rfl,hR,good,qD,h1,fun H1 s1=>?_⟩;refine⟨fun σ' H'=>aG H H'/\Tr.hall (aD rs) (Je.isOne rs) one other=none,?_,?_⟩
 ·refine⟨fun m σ' H'=>∃ k:Nat,k < rs.length/\m=Je.hgt (Tr.par (aD rs) k)/\aG H H'/\Tr.hall (aD rs) (Je.isOne rs) one other=Tr.hall (aD rs) (Je.isOne rs) k other/\σ'=[some (.ref t),some (.int (one:Int)),some (.int (other:Int)),some (pV (Tr.par (aD rs) k))],⟨_,one,h1,rfl,s1,rfl,rfl⟩,?_⟩;rintro m σ' H' bV;refine aL fun G_ g_=>?_;obtain⟨k,hk,rfl,s2,hh,rfl⟩:=bV;apply g_;clear g_ G_;have hs:=NP (aD rs) (Je.isOne rs) other k
  cases e:Tr.par (aD rs) k with
  | none=>
   rw[e]at hs;exact⟨_,rfl,rfl,_,rfl,j8 rfl ⟨s2,hh.trans hs⟩⟩
  | some j=>
   rw[e]at hs;have hj:=Nat.lt_trans (Tr.my e) hk;have hR2:=hR.mono (aA.of s2);refine aL fun G_ g_=>?_;obtain⟨vs,a,r,ht,hl,hr0,hat,ha⟩:=hR2.at hj;apply g_;clear g_ G_
   have io:Je.isOne rs j=decide (V.str r.kind=V.str "one"):=by
    unfold Je.isOne;rw[hr0]
   refine⟨_,rfl,rfl,_,rfl,TJ rfl ?_⟩;refine⟨fun σ' H2=>aG H H2/\Tr.hall (aD rs) (Je.isOne rs) one other=Tr.hall (aD rs) (Je.isOne rs) j other/\σ'=[some (.ref t),some (.int (one:Int)),some (.int (other:Int)),some (pV (Tr.par (aD rs) j))],?_,?_⟩
   ·rintro σ' H2 bV;refine aL fun G_ g_=>?_;obtain⟨s3,hh2,rfl⟩:=bV;apply g_;clear g_ G_;refine⟨Je.hgt (Tr.par (aD rs) j),?_,j,hj,rfl,s3,hh2,rfl⟩
    cases e2:Tr.par (aD rs) j with
    | none=>show 0 < j+1;lia
    | some i=>have:=Tr.my e2;show i+1 < j+1;lia
   ·refine⟨fun b H2=>aG H' H2/\b=((Tr.ups (aD rs) other).contains j && Je.isOne rs j),?_,?_⟩
    ·refine⟨_,rfl,_,rfl,t,vs,_,_,rfl,rfl,aJ.of ht,hat,aF (aJ.of ha) rfl ⟨rfl,_,rfl,?_⟩⟩;refine rA (fun c=>?_) (fun c=>?_)
     ·refine⟨_,rfl,_,rfl,_,rfl,t,rs,other,j,rfl,hR2,good,qD,h2,hj,fun H2 s3=>⟨_,rfl,s3,?_⟩⟩;rw[io,c,Bool.and_true];rfl
     ·refine⟨aG.refl _,?_⟩;rw[io,Bool.eq_false_iff.mpr c,Bool.and_false]
    ·rintro b H2 ⟨s3,rfl⟩;refine rA (fun c=>?_) (fun c=>?_)
     ·refine⟨_,rfl,?_⟩;have z:=q H2 (s2.trans s3);rw[hh,hs]at z;simp only[c,if_true]at z;exact z
     ·refine⟨_,rfl,_,rfl,t,rs,j,rfl,hR.mono (aA.of (s2.trans s3)),good,qD,hj,fun H3 s4=>⟨(s2.trans s3).trans s4,?_,rfl⟩⟩;rw[hh,hs];simp only[c,if_false];rfl
 rintro σ' H' ⟨s2,e⟩;have z:=q _ s2;rw[e]at z;exact z
end
inductive PN(vs:List V)(H:Hp)(Q:VK)(E_:XK):Prop
 | mk (t:Addr) (rs:List Rm) (k:Nat) (_:vs=[.ref t,.int (k:Int)]) (_:dJ H t rs) (_:Tr.Good (aD rs)) (_:rs.length<=40) (_:k < rs.length) (_:∀(p:Addr)(H':Hp),aG H H'->H p=none->H' p=some (.lst (aB (Tr.kids (aD rs) k)))->Q (.ref p) H')
section
theorem K6:aH ["rooms","room","depth"] ["rooms","room"] (aC FJ):=fW
theorem Ux(F:dM K "kids" "kids" FJ f fd)(jK:Dp P w K mg base aZ n ge de ["rooms","room"] Et "end_of")(au:mg "range" = none) :
  aO P w K mg base aZ (n+1) f fd ["rooms","room"] PN:=by
 refine F.ok K6 (fun vs H Q E h=>?_) (fun cdv A outer s H vs Q E hr h=>?_)
 ·refine aL fun G_ g_=>?_;obtain⟨t,rs,k,rfl,_⟩:=h;apply g_;clear g_ G_;rfl
 refine aL fun G_ g_=>?_;obtain⟨t,rs,k,rfl,hR,good,qD,hk,q⟩:=h;apply g_;clear g_ G_
 refine⟨_,(zE (zK (i:=2) K6.nd rfl (Or.inr rfl) (yC yF (yB zH (yB zH (pv 0) (pv 1) (fun _ _=>rfl)) zB (fun _ _=>rfl)) zB))
  (zG (zO (yT (aY:=[(2,"depth"),(0,"rooms")]) rfl (show bJ (aC FJ) ["rooms","room","depth"] _ _ _ from ym) (zr rfl au (zA (yC yF (pv 1) zB) (zA (pC jK hr (zA (pv 0) (zA (pv 1) zD))) zD))) (fun _ _ _ _ _ _=>gZ (zL yG (yB (r:=kJ K) zH (yB (r:=kJ K) zH (pv 2) (pv 0) (fun _ _=>rfl)) zB (fun _ _=>rfl)) (pv 1) (zR _))) (fun _ _ _ _ _ _=>(pv 0)))))),?_⟩
 refine aL fun G_ g_=>?_;obtain⟨vs,a,r,ht,hl,hr0,hat,ha⟩:=hR.at hk;apply g_;clear g_ G_;have ed:=gH hr0;have dl:=yV rs;refine⟨_,rfl,_,rfl,t,vs,_,_,rfl,rfl,aJ.of ht,hat,aF (aJ.of ha) rfl (bF ?_)⟩;refine⟨_,rfl,bF ⟨_,rfl,_,rfl,t,rs,k,rfl,hR,qD,hk,fun e he=>?_⟩⟩;have Ks:=he.lt;have he2:=he.le;refine⟨_,_,rfl,⟨by lia,by lia,by lia,by lia⟩,?_⟩;refine jC (fun i acc H'=>H'=H/\acc=aB (Tr.gG (aD rs) k (k+1+i))) ⟨rfl,by rw[Tr.wU _ _ _ (by lia)];rfl⟩ (fun i acc H' hi ⟨e1,e2⟩=>?_) (fun acc H' ⟨e1,e2⟩ p hp=>?_)
 ·subst e1 e2
  have hj:k+1+i < rs.length:=by lia
  refine aL fun G_ g_=>?_;obtain⟨vs2,a2,r2,HF,hl2,hr2,R8,ha2⟩:=hR.at hj;apply g_;clear g_ G_;rw[ht]at HF
  cases HF
  have Wz:=gH hr2
  have ej:(k:Int)+1+(i:Int)=((k+1+i:Nat):Int):=by lia
  have pe:=Tr.Kd good he (j:=k+1+i) (by lia);refine⟨_,rfl,_,rfl,t,vs,_,_,rfl,rfl,aJ.of ht,(by rw[ej];exact R8),aF (aJ.of ha2) rfl ⟨_,rfl,rfl,_,rfl,?_⟩⟩;refine rA (fun c=>?_) (fun c=>?_)
  ·have c':=of_decide_eq_true c;injection c' with c';refine⟨_,rfl,?_,rfl,?_⟩
   ·unfold aB;have:=Tr.JF (aD rs) k (k+1+i);exact zV (by rw[bZ];lia)
   ·rw[show k+1+(i+1)=(k+1+i)+1 by lia,Tr.jX,if_pos (by rw[pe.mpr ⟨by lia,by lia,by rw[Wz,ed];exact c'⟩];simp),ej];unfold aB;rw[jn];rfl
  ·refine⟨rfl,?_⟩;rw[show k+1+(i+1)=(k+1+i)+1 by lia,Tr.jX,if_neg,fY];intro z;have y:=(pe.mp (eq_of_beq z)).2.2;rw[Wz,ed]at y;exact c (decide_eq_true (by rw[y]))
 ·subst e1 e2;refine q p _ (zF hp _) hp ?_;rw[zC,Tr.Qw good he,show k+1+((e:Int) - ((k:Int)+1)).toNat=e by lia]
end
end jP
namespace Lk
open PySem L2 mC ou xT
noncomputable def under(ds:List Int)(o:Nat):Option Nat->Bool
 | none=>true
 | some u=>Tr.bL ds o u
noncomputable def lO(ds:List Int)(un:Option Nat)(os:List Nat):List Nat:=(os.filter fun o=>under ds o un).reverse
inductive Oz(vs:List V)(H:Hp)(Q:VK)(E_:XK):Prop
 | mk (t rn rs un os) (_:vs=[.ref t,pV un,.ref rn]) (_:dJ H t rs) (_:Tr.Good (aD rs)) (_:rs.length<=40) (_:(∀ u,un=some u->u < rs.length)) (_:H rn=some (.tup (aB os))) (_:(∀ o∈os,o < rs.length)) (_:os.length<=40) (_:os.Pairwise (· < ·)) (_:∀ p H',aG H H'->H p=none->H' p=some (.lst (aB (lO (aD rs) un os)))->Q (.ref p) H')
theorem VG(k:Nat)(os:List Nat):inV (.int (k:Int)) (aB os)=decide (k∈os):=by
 rw[Bool.eq_iff_iff,decide_eq_true_iff];constructor
 ·intro h;obtain⟨o,ho,e⟩:=Kl h;rw[show k=o by lia];exact ho
 ·intro h;unfold inV aB;rw[List.any_map,List.any_eq_true];exact⟨k,h,by simp [Ni]⟩
end Lk
namespace jP
open PySem L2 mC ou xT
section
theorem pM:aH ["rooms","under","opening","end"] ["rooms","under","opening"] (aC Pn):=fW
theorem yd(F:dM K "goings_out" "goings_out" Pn f fd)(jK:Dp P w K mg base aZ n ge de ["rooms","room"] Et "end_of")(dY:mg "sorted" = none) :
  aO P w K mg base aZ (n+1) f fd ["rooms","under","opening"] Lk.Oz:=by
 refine F.ok pM (fun vs H Q E h=>?_) (fun cdv A outer s H vs Q E hr h=>?_)
 ·refine aL fun G_ g_=>?_;obtain⟨t,rn,rs,un,os,rfl,_⟩:=h;apply g_;clear g_ G_;rfl
 refine aL fun G_ g_=>?_;obtain⟨t,rn,rs,un,os,rfl,hR,good,qD,hun,hto,hos,Zr,inc,q⟩:=h;apply g_;clear g_ G_
 refine⟨_,(zE (yD (zL Ib (pv 1) gA (zR _))
  (zG (zO (wB rfl dY (zA (pv 2) zD))))
  zT)
  (zE (zK (i:=3) pM.nd rfl (Or.inr rfl) (pC jK hr (zA (pv 0) (zA (pv 1) zD))))
  (zG (zO (wB rfl dY (zA (yT (aY:=[(1,"under"),(3,"end")]) rfl (show bJ (aC Pn) ["rooms","under","opening","end"] _ _ _ from ym) (mq (pv 2)) (fun _ _ _ _ _ _=>gZ (IV j5 j5 (pv 1) (pv 0) (pv 2))) (fun _ _ _ _ _ _=>(pv 0))) zD)))))),?_⟩
 have dl:=yV rs
 cases un with
 | none=>
  refine⟨_,rfl,rfl,_,rfl,TJ rfl ⟨_,rfl,rn,_,rfl,.inr (aJ.of (by rw[<-cT];exact hto)),by rw[bZ];lia,fun p rs' hp perm xX=>?_⟩⟩;have e:=uC perm xX inc;subst e;refine q p _ (zF hp _) hp ?_;rw[zC]
  rw[show Lk.lO (aD rs) none os=os.reverse by
   unfold Lk.lO
   rw[(List.filter_eq_self (p:=fun o=>Lk.under (aD rs) o none)).mpr fun _ _=>rfl],<-cT]
  rfl
 | some u=>
  have hu:=hun u rfl;refine⟨_,rfl,rfl,_,rfl,j8 rfl ⟨_,rfl,_,rfl,t,rs,u,rfl,hR,qD,hu,fun e he=>?_⟩⟩;refine⟨_,rfl,rn,rfl,⟨_,aJ.of hto⟩,?_⟩;refine nW (K:=K) (a:=rn) (xs:=aB os) (fun i acc H'=>H'=H/\acc=aB ((os.take i).filter fun o=>Tr.bL (aD rs) o u)) ⟨rfl,rfl⟩ (fun i acc H' ⟨e,_⟩=>by subst e;exact aJ.of hto) (fun i x acc H' hx ⟨e1,e2⟩=>?_) (fun acc H' ⟨e1,e2⟩ p hp=>?_)
  ·subst e1 e2;obtain⟨hi,rfl⟩:=yR hx;have ho:=hos _ (ig hi);have el:=Tr.wQ he (a:=os[i]) (by lia);refine⟨_,rfl,_,rfl,_,_,(e:Int),rfl,rfl,⟨_,rfl,rfl,rfl⟩,_,rfl,?_⟩
   have ec:(decide ((u:Int) < ((os[i]:Nat):Int)) && decide (((os[i]:Nat):Int) < (e:Int)))=Tr.bL (aD rs) os[i] u:=by
    rw[el];congr 1
    ·exact decide_eq_decide.mpr (by lia)
    ·exact decide_eq_decide.mpr (by lia)
   rw[gq (dX hi)];have ll:=sJ (fun o=>Tr.bL (aD rs) o u) (os.take i);rw[jc]at ll;refine jg (fun c=>?_) (fun c=>?_)
   ·have c':=ec.symm.trans c;rw[if_pos c',<-kZ];exact⟨_,rfl,zV (by rw[zU];lia),rfl,rfl⟩
   ·have c':=ec.symm.trans c;rw[if_neg (by rw[c'];exact pQ),fY];exact⟨rfl,rfl⟩
  subst e1 e2;rw[uz (by rw[zU];exact bD _)];have ll:=sJ (fun o=>Tr.bL (aD rs) o u) os;refine⟨p,_,rfl,.inl (aR.of (by rw[zC];unfold aB;rw[cT])),by rw[bZ];lia,fun p2 rs' hp2 perm xX=>?_⟩;have e:=uC perm xX (inc.filter _);subst e;refine q p2 _ ((zF hp _).trans (zF hp2 _)) ((zF hp _).free hp2) ?_;rw[zC,<-cT];rfl
end
noncomputable def kindAt(rs:List Rm)(p:Nat):Str:=(rs.map (·.kind)).getD p ("" : Str)
theorem Ko(h:rs[p]? = some r):kindAt rs p=r.kind:=by
 unfold kindAt;rw[v7,cG,h];rfl
noncomputable def Li(rs:List Rm)(p:Nat):Bool:=decide (kindAt rs p=("all" : Str))
def oh(H:Hp)(pg:Addr)(rs:List Rm)(gs:List Nat):Prop:=H pg=some (.lst (aB gs))/\(∀ g∈gs,g < rs.length)/\gs.length<=100
theorem oh.mono(h:oh H pg rs gs)(s:aG H H'):oh H' pg rs gs:=⟨s _ _ h.1,h.2⟩
inductive K3(vs:List V)(H:Hp)(Q:VK)(E_:XK):Prop
 | mk (t pg:Addr) (rs:List Rm) (k:Nat) (gs:List Nat) (_:vs=[.ref t,.int (k:Int),.ref pg]) (_:dJ H t rs) (_:rs.length<=40) (_:k < rs.length) (_:oh H pg rs gs) (_:∀ H',aG H H'->Q (.bl (Tr.bears (aD rs) gs k)) H')
inductive P0(vs:List V)(H:Hp)(Q:VK)(E_:XK):Prop
 | mk (t pg:Addr) (rs:List Rm) (k:Nat) (gs:List Nat) (_:vs=[.ref t,.int (k:Int),.ref pg]) (_:dJ H t rs) (_:Tr.Good (aD rs)) (_:rs.length<=40) (_:k < rs.length) (_:oh H pg rs gs) (_:∀(p:Addr)(H':Hp),aG H H'->H p=none->H' p=some (.lst (aB (Tr.next (aD rs) (Li rs) gs k)))->Q (.ref p) H')
inductive Xn(vs:List V)(H:Hp)(Q:VK)(E_:XK):Prop
 | mk (t pg rs un gs) (_:vs=[.ref t,pV un,.ref pg]) (_:dJ H t rs) (_:Tr.Good (aD rs)) (_:rs.length<=40) (_:(∀ u,un=some u->u < rs.length)) (_:oh H pg rs gs) (_:∀ p ms H',aG H H'->H p=none->H' p=some (.lst (aB ms))->Tr.SM (aD rs) (Li rs) gs un ms->Q (.ref p) H')
section
theorem pN:aH ["rooms","room","goals","end"] ["rooms","room","goals"] (aC vY):=fW
theorem yf(F:dM K "bears_goal" "bears_goal" vY f fd)(jK:Dp P w K mg base aZ n ge de ["rooms","room"] Et "end_of")(Ai:mg "any" = none) :
  aO P w K mg base aZ (n+1) f fd ["rooms","room","goals"] K3:=by
 refine F.ok pN (fun vs H Q E h=>?_) (fun cdv A outer s H vs Q E hr h=>?_)
 ·refine aL fun G_ g_=>?_;obtain⟨t,pg,rs,k,gs,rfl,_⟩:=h;apply g_;clear g_ G_;rfl
 refine aL fun G_ g_=>?_;obtain⟨t,pg,rs,k,gs,rfl,hR,qD,hk,hG,q⟩:=h;apply g_;clear g_ G_
 refine⟨_,(zE (zK (i:=3) pN.nd rfl (Or.inr rfl) (pC jK hr (zA (pv 0) (zA (pv 1) zD))))
  (zG (zO (zS (tU rfl) rfl Ai PyProof.Rows.boot_any (zA (yT (aY:=[(1,"room"),(3,"end")]) rfl (show bJ (aC vY) ["rooms","room","goals","end"] _ _ _ from ym) (yM (pv 2)) (fun _ _ _ _ _ _=>cD) (fun _ _ _ _ _ _=>(YF Kf j5 (pv 1) (pv 0) (pv 2)))) zD))))),?_⟩
 refine aL fun G_ g_=>?_;obtain⟨hg,hgl,hg100⟩:=hG;apply g_;clear g_ G_;have dl:=yV rs;refine⟨_,rfl,_,rfl,t,rs,k,rfl,hR,qD,hk,fun e he=>?_⟩;refine⟨_,rfl,pg,rfl,⟨_,aR.of hg⟩,?_⟩;refine yS (K:=K) (a:=pg) (xs:=aB gs) (fun i acc H'=>H'=H/\acc=((gs.take i).map fun g:Nat=>(decide ((k:Int)<=(g:Int)) && decide ((g:Int) < (e:Int)))).map V.bl) ⟨rfl,rfl⟩ (fun i acc H' ⟨e,_⟩=>by subst e;exact aR.of hg) (fun i x acc H' hx ⟨e1,e2⟩=>?_) (fun acc H' ⟨e1,e2⟩ p hp=>?_)
 ·subst e1 e2;obtain⟨hi,rfl⟩:=yR hx;refine⟨_,rfl,_,rfl,_,_,(e:Int),rfl,rfl,⟨_,rfl,rfl,rfl⟩,zV (by rw[bZ,bZ,jc];lia),rfl,?_⟩;rw[jN,dX hi,jn,jn];rfl
 subst e1 e2;rw[uz (by rw[zU];exact bD _)];refine⟨p,_,rfl,aR.of zC,?_⟩;have z:=q (upd H' p (.lst ((gs.map fun g:Nat=>(decide ((k:Int)<=(g:Int)) && decide ((g:Int) < (e:Int)))).map V.bl))) (zF hp _)
 have ee:(gs.map fun g:Nat=>(decide ((k:Int)<=(g:Int)) && decide ((g:Int) < (e:Int)))).any id=Tr.bears (aD rs) gs k:=by
  unfold Tr.bears;rw[List.any_map,Bool.eq_iff_iff,List.any_eq_true,List.any_eq_true];have Ks:=he.lt
  have pt:∀ g∈gs,((id ∘ fun g:Nat=>(decide ((k:Int)<=(g:Int)) && decide ((g:Int) < (e:Int)))) g=true ↔ (g == k || Tr.bL (aD rs) g k)=true):=fun g hg'=>by
   have:=hgl g hg';rw[Tr.wQ he (by lia)];show (decide ((k:Int)<=(g:Int)) && decide ((g:Int) < (e:Int)))=true ↔ _;rw[Bool.or_eq_true,Bool.and_eq_true,Bool.and_eq_true,decide_eq_true_iff,decide_eq_true_iff,decide_eq_true_iff,decide_eq_true_iff,beq_iff_eq];lia
  exact⟨fun ⟨g,a,b⟩=>⟨g,a,(pt g a).mp b⟩,fun ⟨g,a,b⟩=>⟨g,a,(pt g a).mpr b⟩⟩
 rw[ee];exact z
theorem pX:aH ["rooms","room","goals","own","kid"] ["rooms","room","goals"] (aC K7):=fW
theorem Ij(F:dM K "next_in" "next_in" K7 f fd)
  (Zc:Dp P w K mg base aZ n gk dk ["rooms","room"] PN "kids")
  (Dw:Dp P w K mg base aZ n gb db ["rooms","room","goals"] K3 "bears_goal") :
  aO P w K mg base aZ (n+1) f fd ["rooms","room","goals"] P0:=by
 refine F.ok pX (fun vs H Q E h=>?_) (fun cdv A outer s H vs Q E hr h=>?_)
 ·refine aL fun G_ g_=>?_;obtain⟨t,pg,rs,k,gs,rfl,_⟩:=h;apply g_;clear g_ G_;rfl
 refine aL fun G_ g_=>?_;obtain⟨t,pg,rs,k,gs,rfl,hR,good,qD,hk,hG,q⟩:=h;apply g_;clear g_ G_
 refine⟨_,(zE (zK (i:=3) pX.nd rfl (Or.inl rfl) (pC Zc hr (zA (pv 0) (zA (pv 1) zD))))
  (zE (yD (zL yG (yB zH (yB zH (pv 0) (pv 1) (fun _ _=>rfl)) zB (fun _ _=>rfl)) zP (zR _))
  (zG (zO (pv 3)))
  zT)
  (zZ (cU PassesOwn.never rfl (yM (pv 3)) (yJ (i:=4) pX.nd rfl (Or.inl rfl))
  (zG (yD (bR (pC Dw hr (zA (pv 0) (zA (pv 4) (zA (pv 2) zD)))))
  (zG (zO (yK (zA (pv 4) zD))))
  zT)))
  (zG (zO (kO Bl (pv 3) oV (oU zB))))))),?_⟩
 refine aL fun G_ g_=>?_;obtain⟨vs,a,r,ht,hl,hr0,hat,ha⟩:=hR.at hk;apply g_;clear g_ G_;have dl:=yV rs;refine⟨_,rfl,_,rfl,t,rs,k,rfl,hR,good,qD,hk,fun po H1 s1 npo hpo=>?_⟩;refine⟨_,rfl,_,rfl,t,vs,_,_,rfl,rfl,aJ.of (s1 _ _ ht),hat,aF (aJ.of (s1 _ _ ha)) rfl ⟨rfl,_,rfl,?_⟩⟩
 have eal:Li rs k=decide (V.str r.kind=V.str ("all" : Str)):=by
  unfold Li;rw[Ko hr0];exact decide_eq_decide.mpr ⟨fun z=>by rw[z],fun z=>by injection z⟩
 refine jg (fun c=>?_) (fun c=>?_)
 ·refine⟨_,rfl,q po H1 s1 npo ?_⟩;rw[Tr.Qh (eal.trans c)];exact hpo
 have nal:Li rs k=false:=eal.trans c
 have kl:∀ x∈Tr.kids (aD rs) k,x < rs.length:=fun x hx=>by
  have:=(Tr.wM.mp hx).1;lia
 have eN:Tr.next (aD rs) (Li rs) gs k=match (Tr.kids (aD rs) k).find? (Tr.bears (aD rs) gs) with
   | some j=>[j]
   | none=>(Tr.kids (aD rs) k).take 1:=by
  unfold Tr.next;rw[if_neg (by rw[nal];exact pQ)]
  all_goals (cases (Tr.kids (aD rs) k).find? (Tr.bears (aD rs) gs) <;> rfl)
 generalize hks:Tr.kids (aD rs) k=ks at hpo kl eN;refine⟨fun σ' H'=>aG H1 H'/\(∀ x∈ks,Tr.bears (aD rs) gs x=false)/\∃ o4:Option V,σ'=[some (.ref t),some (.int (k:Int)),some (.ref pg),some (.ref po),o4],?_,?_⟩
 ·refine⟨_,rfl,po,rfl,⟨_,aR.of hpo⟩,?_⟩;refine rH (K:=K) (a:=po) (xs:=aB ks) (fun i σ' H'=>aG H1 H'/\(∀ x∈ks.take i,Tr.bears (aD rs) gs x=false)/\∃ o4:Option V,σ'=[some (.ref t),some (.int (k:Int)),some (.ref pg),some (.ref po),o4])
   ⟨aG.refl _,fun x hx=>(by rw[List.take_zero]at hx;cases hx),_,rfl⟩ (fun i σ' H' _ ⟨s2,_⟩=>aR.of (s2 _ _ hpo)) ?_ ?_
  ·rintro j x σ' H2 hx bV;refine aL fun G_ g_=>?_;obtain⟨s2,hno,o4,rfl⟩:=bV;obtain⟨hj,rfl⟩:=yR hx;apply g_;clear g_ G_;have hlt:=kl _ (ig hj);refine⟨_,rfl,_,rfl,_,rfl,t,pg,rs,ks[j],gs,rfl,hR.mono (aA.of (s1.trans s2)),qD,hlt,hG.mono (s1.trans s2),fun H3 s3=>⟨_,rfl,?_⟩⟩;refine jg (fun c=>?_) (fun c=>?_)
   ·refine⟨_,rfl,zI (by show 1<=1000;decide),fun p hp=>q p _ ((s1.trans (s2.trans s3)).trans (zF hp _)) ((s1.trans (s2.trans s3)).free hp) ?_⟩
    have ef:ks.find? (Tr.bears (aD rs) gs)=some ks[j]:=by
     rw[List.find?_eq_some_iff_getElem];exact⟨c,j,hj,rfl,fun i hi=>by rw[hno _ (by rw[List.mem_take_iff_getElem];exact⟨i,by lia,rfl⟩)];rfl⟩
    rw[zC,eN,ef];rfl
   ·refine⟨s2.trans s3,fun x hx=>?_,_,rfl⟩;rw[jN,dX hj]at hx;rcases eG.mp hx with h | h
    ·exact hno x h
    ·rw[bf.mp h];exact c
  ·rintro σ' H2 bV;refine aL fun G_ g_=>?_;obtain⟨s2,hno,o4,rfl⟩:=bV;apply g_;clear g_ G_;rw[uz (by rw[zU];exact bD _)]at hno;exact⟨s2,hno,_,rfl⟩
 rintro σ' H2 bV;refine aL fun G_ g_=>?_;obtain⟨s2,hno,o4,rfl⟩:=bV;apply g_;clear g_ G_;refine⟨_,rfl,_,rfl,po,_,rfl,aR.of (s2 _ _ hpo),fun p hp=>q p _ ((s1.trans s2).trans (zF hp _)) ((s1.trans s2).free hp) ?_⟩
 have ef:ks.find? (Tr.bears (aD rs) gs)=none:=by
  rw[List.find?_eq_none];intro x hx;rw[hno x hx];exact pQ
 rw[zC,eN,ef,xM _ (by decide)];show some (HO.lst ((aB ks).take 1))=some (HO.lst (aB (ks.take 1)));unfold aB;rw[List.map_take]
theorem iQ:aH ["rooms","under","goals","ahead","gone","room"] ["rooms","under","goals"] (aC sIn):=fW
theorem Ca(F:dM K "goings_in" "goings_in" sIn f fd)
  (Ba:Dp P w K mg base aZ n gn dn ["rooms","room","goals"] P0 "next_in")
  (aU:mg "len" = none) (dY:mg "sorted" = none):aO P w K mg base aZ (n+1) f fd ["rooms","under","goals"] Xn:=by
 refine F.ok iQ (fun vs H Q E h=>?_) (fun cdv A outer s H vs Q E hr h=>?_)
 ·refine aL fun G_ g_=>?_;obtain⟨t,pg,rs,un,gs,rfl,_⟩:=h;apply g_;clear g_ G_;rfl
 refine aL fun G_ g_=>?_;obtain⟨t,pg,rs,un,gs,rfl,hR,good,qD,hun,hG,q⟩:=h;apply g_;clear g_ G_
 refine⟨_,(zE (zK (i:=3) iQ.nd rfl (Or.inl rfl) (iz (FZ (zL Ib (pv 1) gA (zR _)) (yK (zA zB zD)) (pC Ba hr (zA (pv 0) (zA (pv 1) (zA (pv 2) zD)))))))
  (zE (zK (i:=4) iQ.nd rfl (Or.inl rfl) (yK zD))
  (zZ (ql PassesOwn.never (zL Aa (zS zN rfl aU bh (zA (pv 3) zD)) zB (zR _))
  (zE (zK (i:=5) iQ.nd rfl (Or.inl rfl) (QD jl PySem.F.slot_list_pop PySem.F.type_list_pop Ye (pv 3)))
  (zE (yI (fX jl xm xj yH (pv 4) (zA (pv 5) zD)))
  (zG (yI (fX jl PySem.F.slot_list_extend PySem.F.type_list_extend iY (pv 3) (zA (pC Ba hr (zA (pv 0) (zA (pv 5) (zA (pv 2) zD)))) zD)))))))
  (zG (zO (zS ni rfl dY PyProof.Rows.boot_sorted (zA (pv 4) zD))))))),?_⟩
 have dl:=yV rs;have pos:=good.pos;refine⟨fun v H'=>∃(pa:Addr)(ah:List Nat),v = .ref pa/\aG H H'/\H pa=none/\H' pa=some (.lst (aB ah))/\Tr.nu (aD rs) (Li rs) gs un [] ah,?_,?_⟩
 ·cases un with
  | none=>exact⟨_,rfl,rfl,_,rfl,TJ rfl ⟨zI (by show 1<=1000;decide),fun p hp=>⟨p,[0],rfl,zF hp _,hp,zC,Tr.nu.none _ _ _⟩⟩⟩
  | some u=>exact⟨_,rfl,rfl,_,rfl,j8 rfl ⟨_,rfl,_,rfl,_,rfl,t,pg,rs,u,gs,rfl,hR,good,qD,hun u rfl,hG,fun p H1 s1 np hp=>⟨p,_,rfl,s1,np,hp,Tr.nu.some _ _ _ u⟩⟩⟩
 rintro _ H1 bV;refine aL fun G_ g_=>?_;obtain⟨pa,ah,rfl,s1,npa,hpa,wk⟩:=bV;apply g_;clear g_ G_;refine⟨Nat.zero_le _,fun pn hpn=>?_⟩;have Yc:=s1.free hpn
 have ne:pn ≠ pa:=fun e=>by
  rw[e,hpa]at hpn
  cases hpn
 refine⟨fun σ' H'=>∃ gone:List Nat,aG H H'/\H' pn=some (.lst (aB gone))/\Tr.nu (aD rs) (Li rs) gs un gone []/\∃ o5:Option V,σ'=[some (.ref t),some (pV un),some (.ref pg),some (.ref pa),some (.ref pn),o5],?_,?_⟩
 ·refine⟨fun m σ' H'=>∃(gone ahead:List Nat),m=rs.length - gone.length/\aG H H'/\H' pa=some (.lst (aB ahead))/\H' pn=some (.lst (aB gone))/\Tr.nu (aD rs) (Li rs) gs un gone ahead/\∃ o5:Option V,σ'=[some (.ref t),some (pV un),some (.ref pg),some (.ref pa),some (.ref pn),o5],
   ⟨_,[],ah,rfl,s1.trans (zF hpn _),(zF hpn _) _ _ hpa,zC,wk,_,rfl⟩,?_⟩
  rintro m σ' H2 bV;refine aL fun G_ g_=>?_;obtain⟨gone,ahead,rfl,s2,ha2,hn2,W9,o5,rfl⟩:=bV;apply g_;clear g_ G_;refine⟨_,rfl,gf rfl (.inl (aR.of ha2)) (bF ⟨_,rfl,?_⟩)⟩;refine jg (fun c=>?_) (fun c=>?_)
  ·have c':=of_decide_eq_true c;rw[zU]at c';have wl:=W9.len pos;refine aL fun G_ g_=>?_
   obtain⟨a,r,rfl⟩:∃ a r,ahead=a++[r]:=by
    refine⟨ahead.dropLast,ahead.getLast (fun z=>by rw[z]at c';exact absurd c' (by decide)),(List.dropLast_concat_getLast _).symm⟩
   apply g_;clear g_ G_
   have hrl:r < rs.length:=by
    have:=(W9.ok r (by simp)).lt pos;lia
   rw[dN,iG]at wl;refine⟨fun σ' H'=>∃(RB S9:List Nat),RB.length=gone.length+1/\aG H H'/\H' pa=some (.lst (aB S9))/\H' pn=some (.lst (aB RB))/\Tr.nu (aD rs) (Li rs) gs un RB S9/\∃ o5:Option V,σ'=[some (.ref t),some (pV un),some (.ref pg),some (.ref pa),some (.ref pn),o5],?_,?_⟩
   ·rintro σ' H3 bV;refine aL fun G_ g_=>?_;obtain⟨g2,a2,hl,rest⟩:=bV;apply g_;clear g_ G_;exact⟨rs.length - g2.length,by lia,g2,a2,rfl,rest⟩
   refine⟨_,rfl,.inl ⟨rfl,_,aR.of ha2⟩,pa,_,.int (r:Int),rfl,rfl,ha2,?_,?_⟩
   ·rw[<-kZ,dN,iG,Nat.add_sub_cancel,Tc (bD _),Nat.sub_self];rfl
   have hn3:(upd H2 pa (.lst (aB (a++[r])).dropLast)) pn=some (.lst (aB gone)):=by
    rw[zQ ne];exact hn2
   refine⟨_,rfl,.inl ⟨rfl,_,aR.of hn3⟩,_,rfl,pn,_,_,rfl,rfl,hn3,zV (by rw[zU];lia),?_⟩;have s3:aG H (upd (upd H2 pa (.lst (aB (a++[r])).dropLast)) pn (.lst (aB gone++[.int (r:Int)]))):=eQ Yc (eQ npa s2 _) _
   have ha3:(upd (upd H2 pa (.lst (aB (a++[r])).dropLast)) pn (.lst (aB gone++[.int (r:Int)]))) pa=some (.lst (aB a)):=by
    rw[zQ (Ne.symm ne),zC,<-kZ,List.dropLast_concat]
   have hn4:(upd (upd H2 pa (.lst (aB (a++[r])).dropLast)) pn (.lst (aB gone++[.int (r:Int)]))) pn=some (.lst (aB (gone++[r]))):=by
    rw[zC,kZ]
   generalize upd (upd H2 pa (.lst (aB (a++[r])).dropLast)) pn (.lst (aB gone++[.int (r:Int)]))=H3 at s3 ha3 hn4 ⊢;refine⟨_,rfl,.inl ⟨rfl,_,aR.of ha3⟩,_,rfl,_,rfl,_,rfl,t,pg,rs,r,gs,rfl,hR.mono (aA.of s3),good,qD,hrl,hG.mono s3,fun px H4 s4 npx hpx=>?_⟩;have wk3:=W9.step;have wl3:=wk3.len pos;rw[dN]at wl3;refine⟨pa,px,_,_,rfl,rfl,s4 _ _ ha3,hpx,zI (by rw[zU,zU];rw[dN]at wl3;lia),gone++[r],a++Tr.next (aD rs) (Li rs) gs r,by rw[dN];rfl,eQ npa (s3.trans s4) _,?_,?_,wk3,_,rfl⟩
   ·rw[zC];unfold aB;rw[jn]
   ·rw[zQ ne];exact s4 _ _ hn4
  ·have c':=of_decide_eq_false c;rw[zU]at c';have e:ahead=[]:=List.eq_nil_of_length_eq_zero (by lia);subst e;exact⟨gone,s2,hn2,W9,_,rfl⟩
 rintro σ' H2 bV;refine aL fun G_ g_=>?_;obtain⟨gone,s2,hn2,W9,o5,rfl⟩:=bV;apply g_;clear g_ G_;have wl:=W9.len pos;refine⟨_,rfl,pn,_,rfl,.inl (aR.of (by rw[hn2];unfold aB;rw[cT])),by rw[bZ];lia,fun p rs' hp perm xX=>?_⟩
 have nd:gone.Nodup:=by
  have:=W9.nd;rw[fY]at this;exact this
 refine aL fun G_ g_=>?_;obtain⟨ms,rfl,rise,hpm⟩:=mU perm xX nd;apply g_;clear g_ G_;refine q p ms _ (s2.trans (zF hp _)) (s2.free hp) ?_ ⟨rise,fun k=>(hpm.mem_iff).trans (W9.done k)⟩;rw[zC,<-cT];rfl
end
def jZ(H:Hp)(v:V)(k:List Nat):Prop:=∃ a:Addr,v = .ref a/\H a=some (.tup (aB k))
inductive ao(H:Hp):List V->List (List Nat)->Prop where
 | nil:ao H [] []
 | cons {v:V} {k:List Nat} {vs:List V} {ks:List (List Nat)}:jZ H v k->ao H vs ks->ao H (v :: vs) (k :: ks)
theorem jZ.mono(x:jZ H v k)(s:aA H H'):jZ H' v k:=by
 obtain⟨a,e,h⟩:=x;exact⟨a,e,s _ _ h⟩
theorem ao.mono(x:ao H vs ks)(s:aA H H'):ao H' vs ks:=by
 induction x with
 | nil=>exact .nil
 | cons h _ ih=>exact .cons (h.mono s) ih
theorem ao.length(x:ao H vs ks):vs.length=ks.length:=by
 induction x with
 | nil=>rfl
 | cons _ _ ih=>rw[eO,eO,ih]
theorem ao.get(x:ao H vs ks):∀ {i:Nat} {k:List Nat},ks[i]? = some k->∃ v,vs[i]? = some v/\jZ H v k:=by
 induction x with
 | nil=>intro i k h;simp at h
 | cons h _ ih=>
  intro i k e
  cases i with
  | zero=>
   simp at e;subst e;exact⟨_,rfl,h⟩
  | succ i=>exact ih (by simpa using e)
theorem ao.set(x:ao H vs ks)(h:jZ H v k):∀ i:Nat,ao H (vs.set i v) (ks.set i k):=by
 induction x with
 | nil=>intro i;exact .nil
 | cons h' hs ih=>
  intro i
  cases i with
  | zero=>exact .cons h hs
  | succ i=>exact .cons h' (ih i)
noncomputable def cX(rs:List Rm)(p:Nat):Str:=(rs.map (·.keeps)).getD p ("" : Str)
theorem GP(h:rs[p]? = some r):cX rs p=r.keeps:=by
 unfold cX;rw[v7,cG,h];rfl
noncomputable def YB(rs:List Rm)(p:Nat):Bool:=decide (kindAt rs p=("plain" : Str))
noncomputable def fL(ds:List Int)(os:List Nat)(r:Nat):List Nat:=os.filter fun o=>Tr.bL ds o r
noncomputable def kh(rs:List Rm)(os:List Nat)(r:Nat):List Nat:=if cX rs r=("near" : Str) then (fL (aD rs) os r).take 1 else (fL (aD rs) os r).filter (YB rs)
noncomputable def bH(rs:List Rm)(os:List Nat)(ls:List Nat)(ks:List (List Nat)):List (List Nat):=ls.foldl (fun k r=>if cX rs r=("" : Str) then k else k.set r (kh rs os r)) ks
theorem qz(rs:List Rm)(os:List Nat):∀ ls ks,(bH rs os ls ks).length=ks.length
 | [],_=>rfl
 | r :: ls,ks=>by
  show (bH rs os ls (if cX rs r=("" : Str) then ks else ks.set r (kh rs os r))).length=_;rw[qz rs os ls]
  split
  ·rfl
  ·rw[List.length_set]
theorem yj(rs:List Rm)(os ls:List Nat)(r:Nat)(ks:List (List Nat)):bH rs os (ls++[r]) ks=if cX rs r=("" : Str) then bH rs os ls ks else (bH rs os ls ks).set r (kh rs os r):=by
 unfold bH;rw[List.foldl_append];rfl
inductive Jx(vs:List V)(H:Hp)(Q:VK)(E_:XK):Prop
 | mk (t pt rs os) (_:vs=[.ref t,.ref pt]) (_:dJ H t rs) (_:rs.length<=40) (_:H pt=some (.lst (aB os))) (_:(∀ o∈os,o < rs.length)) (_:os.length<=100) (_:∀ p H',aG H H'->H' p=some (.tup (aB (os.filter (YB rs))))->Q (.ref p) H')
inductive Es(vs:List V)(H:Hp)(Q:VK)(E_:XK):Prop
 | mk (t rn:Addr) (rs:List Rm) (os:List Nat) (r:Nat) (_:vs=[.ref t,.ref rn,.int (r:Int)]) (_:dJ H t rs) (_:Tr.Good (aD rs)) (_:rs.length<=40) (_:H rn=some (.tup (aB os))) (_:(∀ o∈os,o < rs.length)) (_:os.length<=40) (_:os.Pairwise (· < ·)) (_:r < rs.length) (_:∀(p:Addr)(H':Hp),aG H H'->H' p=some (.tup (aB (kh rs os r)))->Q (.ref p) H')
inductive za(vs:List V)(H:Hp)(Q:VK)(E_:XK):Prop
 | mk (t rn pl pk rs os ls kv ks) (_:vs=[.ref t,.ref rn,.ref pl,.ref pk]) (_:dJ H t rs) (_:Tr.Good (aD rs)) (_:rs.length<=40) (_:H rn=some (.tup (aB os))) (_:(∀ o∈os,o < rs.length)) (_:os.length<=40) (_:os.Pairwise (· < ·)) (_:H pl=some (.lst (aB ls))) (_:(∀ l∈ls,l < rs.length)) (_:H pk=some (.tup kv)) (_:ao H kv ks) (_:ks.length=rs.length) (_:∀ p uJ H',aG H H'->H' p=some (.tup uJ)->ao H' uJ (bH rs os ls ks)->Q (.ref p) H')
section
theorem xu:aH ["rooms","told"] ["rooms","told"] (aC vW):=fW
theorem yc(F:dM K "plain_ones" "plain_ones" vW f fd)(aW:mg "tuple" = none):aO P w K mg base aZ 1 f fd ["rooms","told"] Jx:=by
 refine F.ok xu (fun vs H Q E h=>?_) (fun cdv A outer s H vs Q E hr h=>?_)
 ·refine aL fun G_ g_=>?_;obtain⟨t,pt,rs,os,rfl,_⟩:=h;apply g_;clear g_ G_;rfl
 refine aL fun G_ g_=>?_;obtain⟨t,pt,rs,os,rfl,hR,qD,Ga,hos,Zr,q⟩:=h;apply g_;clear g_ G_;refine⟨_,(zG (zO (yA zX rfl aW lD (zA (yT (aY:=[(0,"rooms")]) rfl (show bJ (aC vW) ["rooms","told"] _ _ _ from ym) (yM (pv 1)) (fun _ _ _ _ _ _=>gZ (zL yG (yB (r:=kJ K) zH (yB (r:=kJ K) zH (pv 1) (pv 0) (fun _ _=>rfl)) zB (fun _ _=>rfl)) zP (zR _))) (fun _ _ _ _ _ _=>(pv 0))) zD)))),?_⟩;refine⟨_,rfl,pt,rfl,⟨_,aR.of Ga⟩,?_⟩;refine yS (K:=K) (a:=pt) (xs:=aB os) (fun i acc H'=>H'=H/\acc=aB ((os.take i).filter (YB rs))) ⟨rfl,rfl⟩ (fun i acc H' ⟨e,_⟩=>by subst e;exact aR.of Ga) (fun i x acc H' hx ⟨e1,e2⟩=>?_) (fun acc H' ⟨e1,e2⟩ p hp=>?_)
 ·subst e1 e2;refine aL fun G_ g_=>?_;obtain⟨hi,rfl⟩:=yR hx;obtain⟨vs,a,r,ht,hl,hr0,hat,ha⟩:=hR.at (hos _ (ig hi));apply g_;clear g_ G_;refine⟨_,rfl,_,rfl,t,vs,_,_,rfl,rfl,aJ.of ht,hat,aF (aJ.of ha) rfl ⟨rfl,_,rfl,?_⟩⟩
  have ep:YB rs os[i]=decide (V.str r.kind=V.str ("plain" : Str)):=by
   unfold YB;rw[Ko hr0];exact decide_eq_decide.mpr ⟨fun z=>by rw[z],fun z=>by injection z⟩
  rw[gq (dX hi)];have ll:=sJ (YB rs) (os.take i);rw[jc]at ll;refine jg (fun c=>?_) (fun c=>?_)
  ·rw[if_pos (ep.trans c),<-kZ];exact⟨_,rfl,zV (by rw[zU];lia),rfl,rfl⟩
  ·rw[if_neg (by rw[show YB rs os[i]=false from ep.trans c];exact pQ),fY];exact⟨rfl,rfl⟩
 subst e1 e2;rw[uz (by rw[zU];exact bD _)];exact⟨p,_,rfl,.inl ⟨aR.of zC,fun p2 hp2=>q p2 _ ((zF hp _).trans (zF hp2 _)) zC⟩⟩
theorem vQ:aH ["rooms","opening","room","inside"] ["rooms","opening","room"] (aC uf):=fW
theorem Ik(F:dM K "kept_of" "kept_of" uf f fd)
  (mH:Dp P w K mg base aZ n gg dg ["rooms","under","opening"] Lk.Oz "goings_out")
  (Dn:Dp P w K mg base aZ n gp dp ["rooms","told"] Jx "plain_ones")
  (dY:mg "sorted" = none) (aW:mg "tuple" = none):aO P w K mg base aZ (n+1) f fd ["rooms","opening","room"] Es:=by
 refine F.ok vQ (fun vs H Q E h=>?_) (fun cdv A outer s H vs Q E hr h=>?_)
 ·refine aL fun G_ g_=>?_;obtain⟨t,rn,rs,os,r,rfl,_⟩:=h;apply g_;clear g_ G_;rfl
 refine aL fun G_ g_=>?_;obtain⟨t,rn,rs,os,r,rfl,hR,good,qD,hto,hos,Zr,inc,hr',q⟩:=h;apply g_;clear g_ G_
 refine⟨_,(zE (zK (i:=3) vQ.nd rfl (Or.inl rfl) (zS ni rfl dY PyProof.Rows.boot_sorted (zA (pC mH hr (zA (pv 0) (zA (pv 2) (zA (pv 1) zD)))) zD)))
  (zE (yD (zL yG (yB zH (yB zH (pv 0) (pv 2) (fun _ _=>rfl)) zB (fun _ _=>rfl)) zP (zR _))
  (zG (zO (yA zX rfl aW lD (zA (kO Bl (pv 3) oV (oU zB)) zD))))
  zT)
  (zG (zO (pC Dn hr (zA (pv 0) (zA (pv 3) zD))))))),?_⟩
 refine aL fun G_ g_=>?_;obtain⟨vs,a,r0,ht,hl,hr0,hat,ha⟩:=hR.at hr';apply g_;clear g_ G_;refine⟨_,rfl,_,rfl,_,rfl,t,rn,rs,some r,os,rfl,hR,good,qD,fun u e=>(by cases e;exact hr'),hto,hos,Zr,inc,fun pf H1 s1 npf hpf=>?_⟩;have eo:Lk.lO (aD rs) (some r) os=(fL (aD rs) os r).reverse:=rfl;have li:=sJ (fun o=>Tr.bL (aD rs) o r) os;have li':(fL (aD rs) os r).length<=os.length:=li;have ri:(fL (aD rs) os r).Pairwise (· < ·):=inc.filter _;have mi:∀ o∈fL (aD rs) os r,o < rs.length:=fun o ho=>hos o (mK.mp ho).1;unfold kh at q;generalize fL (aD rs) os r=xs at eo li' ri mi q;rw[eo]at hpf;refine⟨pf,_,rfl,.inl (aR.of (by rw[hpf];unfold aB;rw[cT])),by rw[bZ,List.length_reverse];lia,fun p1 rs' hp1 perm xX=>?_⟩;refine aL fun G_ g_=>?_;obtain⟨ms,rfl,rise,hpm⟩:=mU perm xX (by unfold List.Nodup;rw[List.pairwise_reverse];exact ri.imp fun z=>Ne.symm (lC z));apply g_;clear g_ G_
 obtain rfl:ms=xs:=gY _ _ rise ri fun k=>by rw[hpm.mem_iff,List.mem_reverse]
 rw[<-cT];have s2:=s1.trans (zF hp1 (.lst (aB ms)));have h2:(upd H1 p1 (.lst (aB ms))) p1=some (.lst (aB ms)):=zC
 change _ at s2
 refine⟨_,rfl,_,rfl,t,vs,_,_,rfl,rfl,aJ.of (s2 _ _ ht),hat,aF (aJ.of (s2 _ _ ha)) rfl ⟨rfl,_,rfl,?_⟩⟩
 have ek:(cX rs r=("near" : Str)) ↔ V.str r0.keeps=V.str ("near" : Str):=by
  rw[GP hr0];exact⟨fun z=>by rw[z],fun z=>by injection z⟩
 refine jg (fun c=>?_) (fun c=>?_)
 ·have c':=ek.mpr (of_decide_eq_true c);refine⟨_,rfl,_,rfl,p1,_,rfl,aR.of h2,fun p2 hp2=>?_⟩;rw[xM _ (by decide)]
  have e2:(aB ms).take (1:Int).toNat=aB (ms.take 1):=by
   unfold aB;rw[List.map_take];rfl
  rw[e2];refine⟨p2,_,rfl,.inl ⟨aR.of zC,fun p3 hp3=>?_⟩⟩;refine q p3 _ ((s2.trans (zF hp2 _)).trans (zF hp3 _)) ?_;rw[zC,if_pos c']
 ·have c':¬ cX rs r=("near" : Str):=fun z=>of_decide_eq_false c (ek.mp z);refine⟨_,rfl,_,rfl,t,p1,rs,ms,rfl,hR.mono (aA.of s2),qD,h2,mi,by lia,fun p2 H3 s3 hp2=>?_⟩;refine q p2 H3 (s2.trans s3) ?_;rw[if_neg c'];exact hp2
theorem pY:aH ["rooms","opening","left","kept","told","room"] ["rooms","opening","left","kept"] (aC qY):=fW
theorem Il(F:dM K "keeping" "keeping" qY f fd)
  (O6:Dp P w K mg base aZ n gk dk ["rooms","opening","room"] Es "kept_of")
  (dB:mg "list" = none) (aW:mg "tuple" = none):aO P w K mg base aZ (n+1) f fd ["rooms","opening","left","kept"] za:=by
 refine F.ok pY (fun vs H Q E h=>?_) (fun cdv A outer s H vs Q E hr h=>?_)
 ·refine aL fun G_ g_=>?_;obtain⟨t,rn,pl,pk,rs,os,ls,kv,ks,rfl,_⟩:=h;apply g_;clear g_ G_;rfl
 refine aL fun G_ g_=>?_;obtain⟨t,rn,pl,pk,rs,os,ls,kv,ks,rfl,hR,good,qD,hto,hos,Zr,inc,hpl,hls,TV,hks,lks,q⟩:=h;apply g_;clear g_ G_
 refine⟨_,(zE (zK (i:=4) pY.nd rfl (Or.inl rfl) (yA dH rfl dB PyProof.Rows.boot_list (zA (pv 3) zD)))
  (zZ (cU PassesOwn.never rfl (yM (pv 2)) (yJ (i:=5) pY.nd rfl (Or.inl rfl))
  (zG (yD (zL iI (yB zH (yB zH (pv 0) (pv 5) (fun _ _=>rfl)) zB (fun _ _=>rfl)) zP (zR _))
  (zG (Y9 (pC O6 hr (zA (pv 0) (zA (pv 1) (zA (pv 5) zD)))) (YC (pv 4) (pv 5) set_list)))
  zT)))
  (zG (zO (yA zX rfl aW lD (zA (pv 4) zD)))))),?_⟩
 refine⟨_,rfl,gf rfl (.inr (aJ.of TV)) (fun pt Ga=>?_)⟩;have s1:=zF Ga (.lst kv);refine⟨fun σ' H'=>∃ uJ:List V,aG H H'/\H' pt=some (.lst uJ)/\ao H' uJ (bH rs os ls ks)/\∃ o5:Option V,σ'=[some (.ref t),some (.ref rn),some (.ref pl),some (.ref pk),some (.ref pt),o5],?_,?_⟩
 ·refine⟨_,rfl,pl,rfl,⟨_,aR.of (s1 _ _ hpl)⟩,?_⟩;refine rH (fun i σ' H'=>∃ uJ:List V,aG H H'/\H' pt=some (.lst uJ)/\ao H' uJ (bH rs os (ls.take i) ks)/\∃ o5:Option V,σ'=[some (.ref t),some (.ref rn),some (.ref pl),some (.ref pk),some (.ref pt),o5])
   ⟨kv,s1,zC,hks.mono (aA.of s1),_,rfl⟩ (fun i σ' H' _ ⟨_,s2,_⟩=>aR.of (s2 _ _ hpl)) ?_ ?_
  ·rintro i x σ' H2 hx bV;refine aL fun G_ g_=>?_;obtain⟨Yo,s2,h2,hk2,o5,rfl⟩:=bV;obtain⟨hi,rfl⟩:=yR hx;have hlt:=hls _ (ig hi);obtain⟨vs,a,r0,ht,hl,hr0,hat,ha⟩:=hR.at hlt;apply g_;clear g_ G_;have lk2:=hk2.length;rw[qz]at lk2
   have es:bH rs os (ls.take (i+1)) ks=if cX rs ls[i]=("" : Str) then bH rs os (ls.take i) ks else (bH rs os (ls.take i) ks).set ls[i] (kh rs os ls[i]):=by
    rw[jN,dX hi];exact yj rs os _ _ ks
   refine⟨_,rfl,_,rfl,t,vs,_,_,rfl,rfl,aJ.of (s2 _ _ ht),hat,aF (aJ.of (s2 _ _ ha)) rfl ⟨rfl,_,rfl,?_⟩⟩
   have ek:cX rs ls[i]=("" : Str) ↔ V.str r0.keeps=V.str ("" : Str):=by
    rw[GP hr0];exact⟨fun z=>by rw[z],fun z=>by injection z⟩
   refine jg (fun c=>?_) (fun c=>?_)
   ·have c':¬ cX rs ls[i]=("" : Str):=fun z=>by
     have c:=c;rw[decide_eq_true (ek.mp z)]at c
     cases c
    rw[if_neg c']at es;refine⟨_,rfl,_,rfl,_,rfl,t,rn,rs,os,ls[i],rfl,hR.mono (aA.of s2),good,qD,s2 _ _ hto,hos,Zr,inc,hlt,fun p H3 s3 hp=>?_⟩;refine⟨_,rfl,_,rfl,pt,_,_,ls[i],rfl,rfl,s3 _ _ h2,?_,?_⟩
    ·unfold TF;rw[if_pos (by lia),if_pos (by lia)];simp
    have kt:aA H3 (upd H3 pt (.lst (Yo.set ls[i] (.ref p)))):=aA.lst (s3 _ _ h2) _;refine⟨Yo.set ls[i] (.ref p),eQ Ga (s2.trans s3) _,zC,?_,_,rfl⟩;rw[es];exact ((hk2.mono (aA.of s3)).mono kt).set ⟨p,rfl,kt _ _ hp⟩ _
   ·have c':cX rs ls[i]=("" : Str):=by
     have c:(!decide (V.str r0.keeps=V.str ("" : Str)))=false:=c;rw[Bool.not_eq_false']at c;exact ek.mpr (of_decide_eq_true c)
    rw[if_pos c']at es;exact⟨Yo,s2,h2,by rw[es];exact hk2,_,rfl⟩
  ·rintro σ' H2 bV;refine aL fun G_ g_=>?_;obtain⟨Yo,s2,h2,hk2,o5,rfl⟩:=bV;apply g_;clear g_ G_;rw[uz (by rw[zU];exact bD _)]at hk2;exact⟨Yo,s2,h2,hk2,_,rfl⟩
 rintro σ' H2 bV;refine aL fun G_ g_=>?_;obtain⟨Yo,s2,h2,hk2,o5,rfl⟩:=bV;apply g_;clear g_ G_;refine⟨_,rfl,pt,_,rfl,.inl ⟨aR.of h2,fun p hp=>?_⟩⟩;exact q p Yo _ (s2.trans (zF hp _)) zC (hk2.mono (aA.of (zF hp _)))
end
end jP
namespace Bb
open PySem L2 mC ou xT
theorem qj:∀(a b:List Int),a.Pairwise (· < ·)->b.Pairwise (· < ·)->(∀ k,k∈a ↔ k∈b)->a=b
 | [],[],_,_,_=>rfl
 | [],y :: b,_,_,h=>absurd ((h y).mpr List.mem_cons_self) (by simp)
 | x :: a,[],_,_,h=>absurd ((h x).mp List.mem_cons_self) (by simp)
 | x :: a,y :: b,ha,hb,h=>by
  obtain⟨a1,a2⟩:=List.pairwise_cons.mp ha;obtain⟨b1,b2⟩:=List.pairwise_cons.mp hb
  have e:x=y:=by
   rcases bU.mp ((h x).mp Ed) with e | h1
   ·exact e
   ·rcases bU.mp ((h y).mpr Ed) with e | h2
    ·exact e.symm
    ·have:=a1 y h2;have:=b1 x h1;lia
  subst e;congr 1;refine qj a b a2 b2 fun k=>?_;have hk:=h k;rw[bU,bU]at hk;constructor
  ·intro z;rcases hk.mp (.inr z) with e | z'
   ·subst e;have:=a1 k z;lia
   ·exact z'
  ·intro z;rcases hk.mpr (.inr z) with e | z'
   ·subst e;have:=b1 k z;lia
   ·exact z'
noncomputable def inter(os:List Nat):List Int:=os.map fun j:Nat=>(j:Int)
theorem Cq(os:List Nat):(inter os).map V.int=aB os:=by
 unfold inter aB;rw[List.map_map];rfl
theorem Iz(a b:List Nat):aB a++aB b=aB (a++b):=(jn ..).symm
noncomputable def jF(os:List Nat)(bx:List Int)(ds:List Dg)(ev:Int):List Nat:=os.filter fun r=>(dI (inter os) bx ds (r:Int) ev).isSome
noncomputable def yW(inn:Bool)(dp:List Int)(room:Nat)(Eb:List Nat):Bool:=Eb.any fun o=>if inn=true then Tr.bL dp o room else Tr.bL dp room o
noncomputable def nZ(inn:Bool)(dp:List Int)(os:List Nat)(bx:List Int)(ds:List Dg)(ev:Int):List Nat:=
 ((jF os bx ds ev).filter fun r => !yW inn dp r (jF os bx ds ev)).map fun r:Nat=>(dI (inter os) bx ds (r:Int) ev).getD 0
noncomputable def rD(od:Str):Bool:=decide (V.str od=V.str ("inner" : Str))
inductive yz(vs:List V)(H:Hp)(Q:VK)(E_:XK):Prop
 | mk (pc t pl:Addr) (od:Str) (x1 x2 x3 x4 x6:V) (rs:List Rm) (room:Nat) (Eb:List Nat) (_:vs=[.ref pc,.int (room:Int),.ref pl]) (_:H pc=some (.tup [.str od,x1,x2,x3,x4,.ref t,x6])) (_:dJ H t rs) (_:Tr.Good (aD rs)) (_:rs.length<=40) (_:room < rs.length) (_:H pl=some (.lst (aB Eb))) (_:(∀ o∈Eb,o < rs.length)) (_:Eb.length<=1000) (_:∀ H':Hp,aG H H'->Q (.bl (yW (rD od) (aD rs) room Eb)) H')
inductive Eu(n:Nat)(vs:List V)(H:Hp)(Q:VK)(E_:XK):Prop
 | mk (pc sG t pd o b od os bx rs ds dv x1 x2 x3 x4 x ev) (_:vs=[.ref pc,.ref sG,.int ev]) (_:H pc=some (.tup [.str od,x1,x2,x3,x4,.ref t,.ref pd])) (_:dJ H t rs) (_:Tr.Good (aD rs)) (_:rs.length<=40) (_:H pd=some (.tup dv)) (_:Al (W6 H) dv ds) (_:H sG=some (.tup [.ref o,.ref b,x])) (_:H o=some (.tup (aB os))) (_:(∀ o∈os,o < rs.length)) (_:os.Pairwise (· < ·)) (_:H b=some (.tup (bx.map V.int))) (_:(∀ d∈ds,d.g.ok bx.length/\d.g.ht<=n)) (_:ds.length<=63) (_:∀ p H',aG H H'->H p=none->H' p=some (.lst (aB (nZ (rD od) (aD rs) os bx ds ev)))->Q (.ref p) H')
section
theorem pL:aH ["chart","room","others","rooms"] ["chart","room","others"] (aC jy):=fW
theorem Ii(F:dM K "is_outdone" "is_outdone" jy f fd)(p7:Dp P w K mg base aZ n gl dl ["rooms","one","other"] jP.Hk "lies_in")(Ai:mg "any" = none) :
  aO P w K mg base aZ (n+1) f fd ["chart","room","others"] yz:=by
 refine F.ok pL (fun vs H Q E h=>?_) (fun cdv A outer s H vs Q E hr h=>?_)
 ·refine aL fun G_ g_=>?_;obtain⟨pc,t,pl,od,x1,x2,x3,x4,x6,rs,room,Eb,rfl,_⟩:=h;apply g_;clear g_ G_;rfl
 refine aL fun G_ g_=>?_;obtain⟨pc,t,pl,od,x1,x2,x3,x4,x6,rs,room,Eb,rfl,JH,hR,good,qD,hroom,hpl,qCA,lots,q⟩:=h;apply g_;clear g_ G_
 refine⟨_,(zE (zK (i:=3) pL.nd rfl (Or.inr rfl) (yB zH (pv 0) zB (fun _ _=>rfl)))
  (zE (yD (zL yG (yB zH (pv 0) zB (fun _ _=>rfl)) zP (zR _))
  (zG (zO (zS (tU rfl) rfl Ai PyProof.Rows.boot_any (zA (yT (aY:=[(3,"rooms"),(1,"room")]) rfl (show bJ (aC jy) ["chart","room","others","rooms"] _ _ _ from ym) (yM (pv 2)) (fun _ _ _ _ _ _=>cD) (fun _ _ _ _ _ _=>(pC p7 hr (zA (pv 1) (zA (pv 0) (zA (pv 2) zD)))))) zD))))
  zT)
  (zG (zO (zS (tU rfl) rfl Ai PyProof.Rows.boot_any (zA (yT (aY:=[(3,"rooms"),(1,"room")]) rfl (show bJ (aC jy) ["chart","room","others","rooms"] _ _ _ from ym) (yM (pv 2)) (fun _ _ _ _ _ _=>cD) (fun _ _ _ _ _ _=>(pC p7 hr (zA (pv 1) (zA (pv 2) (zA (pv 0) zD)))))) zD)))))),?_⟩
 refine⟨_,rfl,aF (aJ.of JH) rfl ?_⟩;refine⟨_,rfl,aF (aJ.of JH) rfl ⟨rfl,_,rfl,?_⟩⟩
 have go:∀(fl:Nat->Bool)(H':Hp)(p:Addr),aG H H'->(∀ o∈Eb,fl o=if rD od=true then Tr.bL (aD rs) o room else Tr.bL (aD rs) room o)->Q (.bl ((Eb.map fl).any id)) H':=fun fl H' p s' hfl=>by
  have e:(Eb.map fl).any id=yW (rD od) (aD rs) room Eb:=by
   unfold yW;rw[List.any_map,Bool.eq_iff_iff,List.any_eq_true,List.any_eq_true];exact⟨fun ⟨o,a,b⟩=>⟨o,a,(hfl o a) ▸ b⟩,fun ⟨o,a,b⟩=>⟨o,a,show fl o=true from (hfl o a).trans b⟩⟩
  rw[e];exact q H' s'
 refine jg (fun c=>?_) (fun c=>?_)
 ·have ci:rD od=true:=c;refine⟨_,rfl,pl,rfl,⟨_,aR.of hpl⟩,?_⟩;refine yS (K:=K) (a:=pl) (xs:=aB Eb) (fun i acc H'=>aG H H'/\acc=((Eb.take i).map fun o:Nat=>Tr.bL (aD rs) o room).map V.bl) ⟨aG.refl _,rfl⟩ (fun i acc H' ⟨e,_⟩=>aR.of (e _ _ hpl)) (fun i x acc H' hx ⟨e1,e2⟩=>?_) (fun acc H' ⟨e1,e2⟩ p hp=>?_)
  ·subst e2;obtain⟨hi,rfl⟩:=jP.yR hx;refine⟨_,rfl,_,rfl,_,rfl,t,rs,Eb[i],room,rfl,hR.mono (aA.of e1),good,qD,qCA _ (ig hi),hroom,fun H2 s2=>⟨zV (by rw[bZ,bZ,jc];lia),e1.trans s2,?_⟩⟩;rw[jN,dX hi,jn,jn];rfl
  ·subst e2;rw[uz (by rw[zU];exact bD _)];exact⟨p,_,rfl,aR.of zC,go _ _ p (e1.trans (zF hp _)) fun o _=>by rw[if_pos ci]⟩
 ·have ci:rD od=false:=c;refine⟨_,rfl,pl,rfl,⟨_,aR.of hpl⟩,?_⟩;refine yS (K:=K) (a:=pl) (xs:=aB Eb) (fun i acc H'=>aG H H'/\acc=((Eb.take i).map fun o:Nat=>Tr.bL (aD rs) room o).map V.bl) ⟨aG.refl _,rfl⟩ (fun i acc H' ⟨e,_⟩=>aR.of (e _ _ hpl)) (fun i x acc H' hx ⟨e1,e2⟩=>?_) (fun acc H' ⟨e1,e2⟩ p hp=>?_)
  ·subst e2;obtain⟨hi,rfl⟩:=jP.yR hx;refine⟨_,rfl,_,rfl,_,rfl,t,rs,room,Eb[i],rfl,hR.mono (aA.of e1),good,qD,hroom,qCA _ (ig hi),fun H2 s2=>⟨zV (by rw[bZ,bZ,jc];lia),e1.trans s2,?_⟩⟩;rw[jN,dX hi,jn,jn];rfl
  ·subst e2;rw[uz (by rw[zU];exact bD _)];exact⟨p,_,rfl,aR.of zC,go _ _ p (e1.trans (zF hp _)) fun o _=>by rw[ci];rfl⟩
theorem sX:aH ["chart","stand","event","by_room","answering"] ["chart","stand","event"] (aC qd):=fW
theorem Mg(F:dM K "chosen" "chosen" qd f fd)(O9:Dp P w K mg base aZ m ga da ["chart","stand","event"] (zf n) "answers")
  (Du:Dp P w K mg base aZ m go do' ["chart","room","others"] yz "is_outdone") (dY:mg "sorted" = none) :
  aO P w K mg base aZ (m+1) f fd ["chart","stand","event"] (Eu n):=by
 refine F.ok sX (fun vs H Q E h=>?_) (fun cdv A outer s H vs Q E hr h=>?_)
 ·refine aL fun G_ g_=>?_;obtain⟨pc,sG,t,pd,o,b,od,os,bx,rs,ds,dv,x1,x2,x3,x4,x,ev,rfl,_⟩:=h;apply g_;clear g_ G_;rfl
 refine aL fun G_ g_=>?_;obtain⟨pc,sG,t,pd,o,b,od,os,bx,rs,ds,dv,x1,x2,x3,x4,x,ev,rfl,JH,hR,good,qD,hpd,hds,hst,ho,hos,inc,hb,hok,l63,q⟩:=h;apply g_;clear g_ G_;have hu:=Nat.lt_of_le_of_lt (Nat.add_le_add_left (show 1<=64 by decide) _) hr.units
 refine⟨_,(zE (zK (i:=3) sX.nd rfl (Or.inr rfl) (pC O9 hr (zA (pv 0) (zA (pv 1) (zA (pv 2) zD)))))
  (zE (zK (i:=4) sX.nd rfl (Or.inr rfl) (zS (Dh rfl) rfl dY PyProof.Rows.boot_sorted (zA (pv 3) zD)))
  (zG (zO (yT (aY:=[(0,"chart"),(4,"answering"),(3,"by_room")]) rfl (show bJ (aC qd) ["chart","stand","event","by_room","answering"] _ _ _ from ym) (yM (pv 4)) (fun _ _ _ _ _ _=>gZ (cB (bR (pC Du hr (zA (pv 1) (zA (pv 0) (zA (pv 2) zD))))))) (fun _ _ _ _ _ _=>(Ug hu (pv 3) (pv 0) (fun _ _=>rfl)))))))),?_⟩
 refine⟨_,rfl,_,rfl,_,rfl,pc,sG,pd,o,b,inter os,bx,ds,dv,_,_,_,_,_,_,_,ev,rfl,JH,hpd,hds,hst,(by rw[Cq];exact ho),hb,hok,by lia,fun pb kvs H1 s1 h1 hv ⟨ks,hks,lks⟩ npb=>?_⟩;refine⟨_,rfl,pb,kvs,ks,rfl,h1,hks,by lia,fun pq zs Yb nd perm xX=>?_⟩
 have mk:∀ k:Int,k∈ks ↔ (dI (inter os) bx ds k ev).isSome=true:=fun k=>by
  have e1:(dD kvs (Sum.inl k)).isSome=(dI (inter os) bx ds k ev).isSome:=by
   rw[hv k]
   cases dI (inter os) bx ds k ev <;> rfl
  rw[<-e1,<-jr,List.any_eq_true];constructor
  ·intro z
   have:(Sum.inl k:Key)∈kvs.map (·.1):=by rw[hks];exact gU.mpr ⟨k,z,rfl⟩
   refine aL fun G_ g_=>?_;obtain⟨kv,hkv,e⟩:=gU.mp this;apply g_;clear g_ G_;exact⟨kv,hkv,decide_eq_true e⟩
  ·rintro bV;refine aL fun G_ g_=>?_;obtain⟨kv,hkv,e⟩:=bV;apply g_;clear g_ G_;have:(Sum.inl k:Key)∈kvs.map (·.1):=gU.mpr ⟨kv,hkv,of_decide_eq_true e⟩;rw[hks]at this;refine aL fun G_ g_=>?_;obtain⟨j,hj,e⟩:=gU.mp this;apply g_;clear g_ G_;injection e with e;exact e ▸ hj
 have ez:zs=inter (jF os bx ds ev):=by
  refine qj _ _ ((xX.and (perm.nodup_iff.mpr nd)).imp fun ⟨z1,z2⟩=>by lia) (List.pairwise_map.mpr ((inc.filter _).imp fun z=>by lia)) fun k=>?_;rw[perm.mem_iff,mk k];constructor
  ·intro z
   have hin:inV (.int k) ((inter os).map V.int)=true:=by
    unfold dI at z
    by_cases y:inV (.int k) ((inter os).map V.int)=true
    ·exact y
    ·rw[if_neg y]at z
     cases z
   rw[Cq]at hin;refine aL fun G_ g_=>?_;obtain⟨j,hj,rfl⟩:=Kl hin;apply g_;clear g_ G_;exact gU.mpr ⟨j,mK.mpr ⟨hj,z⟩,rfl⟩
  ·intro z;refine aL fun G_ g_=>?_;obtain⟨j,hj,rfl⟩:=gU.mp z;apply g_;clear g_ G_;exact (mK.mp hj).2
 subst ez;rw[Cq]
 have la:(jF os bx ds ev).length<=63:=by
  have:=perm.length_eq;unfold inter at this;rw[bZ]at this;lia
 have hA:∀ r∈jF os bx ds ev,r < rs.length/\(dI (inter os) bx ds (r:Int) ev).isSome=true:=fun r hr'=>⟨hos r (mK.mp hr').1,(mK.mp hr').2⟩;have s2:=s1.trans (zF Yb (.lst (aB (jF os bx ds ev))));have h2:upd H1 pq (.lst (aB (jF os bx ds ev))) pq=some (.lst (aB (jF os bx ds ev))):=zC;have hb2:=(zF Yb (.lst (aB (jF os bx ds ev)))) _ _ h1;generalize upd H1 pq (.lst (aB (jF os bx ds ev)))=H2 at s2 h2 hb2 ⊢;refine⟨_,rfl,pq,rfl,⟨_,aR.of h2⟩,?_⟩;refine yS (K:=K) (fun i acc H'=>aG H2 H'/\acc=aB ((((jF os bx ds ev).take i).filter fun r => !yW (rD od) (aD rs) r (jF os bx ds ev)).map fun r:Nat=>(dI (inter os) bx ds (r:Int) ev).getD 0)) ⟨aG.refl _,rfl⟩ (fun i acc H' ⟨e,_⟩=>aR.of (e _ _ h2)) (fun i y acc H' hy ⟨e1,e2⟩=>?_) (fun acc H' ⟨e1,e2⟩ p hp=>?_)
 ·subst e2;obtain⟨hi,rfl⟩:=jP.yR hy;have hm:=hA _ (ig hi);have et:=jP.gq (f:=fun r => !yW (rD od) (aD rs) r (jF os bx ds ev)) (dX hi);generalize (jF os bx ds ev)[i]=r at hm et
  have lt':(aB ((((jF os bx ds ev).take i).filter fun r => !yW (rD od) (aD rs) r (jF os bx ds ev)).map fun r:Nat=>(dI (inter os) bx ds (r:Int) ev).getD 0)).length<=63:=by
   rw[zU,bZ];have:=sJ (fun r => !yW (rD od) (aD rs) r (jF os bx ds ev)) ((jF os bx ds ev).take i);rw[jc]at this;lia
  have s3:=s2.trans e1;refine⟨_,rfl,_,rfl,_,rfl,pc,t,pq,od,_,_,_,_,_,rs,r,jF os bx ds ev,rfl,s3 _ _ JH,hR.mono (aA.of s3),good,qD,hm.1,e1 _ _ h2,(fun o ho=>(hA o ho).1),by lia,fun H4 s4=>?_⟩;refine⟨_,rfl,?_⟩;rw[et];refine jg (fun c=>?_) (fun c=>?_)
  ·have c':=c;obtain⟨k,hk⟩:=Option.isSome_iff_exists.mp hm.2;have hv':=hv (r:Int);rw[hk]at hv';have g:=Dy.k (k:=Sum.inl (r:Int)) ((e1.trans s4) _ _ hb2);rw[hv']at g;refine⟨_,rfl,_,rfl,pb,_,rfl,g,zV (by lia),e1.trans s4,?_⟩;rw[if_pos c',jn,<-Iz];show _=_++aB [(dI (inter os) bx ds (r:Int) ev).getD 0];rw[hk];rfl
  ·have c':¬ (!yW (rD od) (aD rs) r (jF os bx ds ev))=true:=fun z=>by
    have c:(!yW (rD od) (aD rs) r (jF os bx ds ev))=false:=c;rw[c]at z
    cases z
   rw[if_neg c',fY];exact⟨e1.trans s4,rfl⟩
 ·subst e2;rw[uz (by rw[zU];exact bD _)];exact q p _ (s2.trans (e1.trans (zF hp _))) ((s2.trans e1).free hp) zC
end
end Bb
namespace jP
open PySem L2 mC ou Dl
theorem Vp(xs:List V)(h:k<=xs.length):lZ xs none (some (k:Int))=xs.take k:=by
 unfold lZ;rw[HT.FN,HT.ug,List.drop_zero,Nat.sub_zero,Nat.min_eq_left h]
theorem Nq(xs:List V)(h:k+1<=xs.length):lZ xs (some ((k:Int)+1)) none=xs.drop (k+1):=by
 have e:(k:Int)+1=((k+1:Nat):Int):=by lia
 unfold lZ;rw[e,HT.FN,HT.ug,Nat.min_eq_left h,uz (by rw[List.length_drop];exact bD _)]
theorem Tw{α:Type}{xs:List α}{k:Nat}(v:α)(h:k < xs.length):xs.take k++[v]++xs.drop (k+1)=xs.set k v:=by
 rw[List.set_eq_take_append_cons_drop,if_pos h,List.append_assoc];rfl
section
theorem ir:aH ["deed","boxes","sizes","kind","box","number"] ["deed","boxes","sizes"] (aC qe):=fW
theorem Im{f:Addr}{fd:FuncData}(F:dM K "changed" "changed" qe f fd):aO P w K mg base aZ 1 f fd ["deed","boxes","sizes"] zc:=by
 refine F.ok ir (fun vs H Q E h=>?_) (fun cdv A outer s H vs Q E hr h=>?_)
 ·refine aL fun G_ g_=>?_;obtain⟨vd,tb,ts,d,bx,sz,rfl,_⟩:=h;apply g_;clear g_ G_;rfl
 refine aL fun G_ g_=>?_;obtain⟨vd,tb,ts,d,bx,sz,rfl,hd,hb,hs,hok,hlen,h6,hpos,q⟩:=h;apply g_;clear g_ G_
 refine⟨_,(zE (zK (i:=3) ir.nd rfl (Or.inl rfl) (yB zH (pv 0) zB (fun _ _=>rfl)))
  (zE (yD (zL lQ (pv 3) (zW (zA zP (zA zP zD))) rfl)
  (zG (zO (pv 1)))
  zT)
  (zE (zK (i:=4) ir.nd rfl (Or.inl rfl) (yB zH (pv 0) zB (fun _ _=>rfl)))
  (zE (zK (i:=5) ir.nd rfl (Or.inl rfl) (yB zH (pv 0) zB (fun _ _=>rfl)))
  (zZ (yD (zL yG (pv 3) zP (zR _))
  (zG (zK (i:=5) ir.nd rfl (Or.inl rfl) (yC zY (yC yF (yB zH (pv 1) (pv 4) (fun _ _=>rfl)) (pv 5)) (yB zH (pv 2) (pv 4) (fun _ _=>rfl)))))
  zT)
  (zG (zO (yC uh (iz (yC (jQ.or uh wG) (kO Ho (pv 1) oV (oU (pv 4))) (zW (zA (pv 5) zD)))) (kO Ho (pv 1) (oU (yC yF (pv 4) zB)) oV))))))))),?_⟩
 have two:(∃ a kd b n,vd = .ref a/\H a=some (.tup [.str kd,.int b,.int n])/\((kd = "set" /\ d = .set b n) ∨ (kd = "add" /\ d = .add b n))) ∨
   (∃ a kd u,vd = .ref a/\H a=some (.tup [.str kd,u])/\(kd = "say" ∨ kd = "send")/\d.upd sz bx=bx):=by
  cases hd with
  | say e=>exact .inr ⟨_,_,_,rfl,e,.inl rfl,rfl⟩
  | send e=>exact .inr ⟨_,_,_,rfl,e,.inr rfl,rfl⟩
  | set e=>exact .inl ⟨_,_,_,_,rfl,e,.inl ⟨rfl,rfl⟩⟩
  | add e=>exact .inl ⟨_,_,_,_,rfl,e,.inr ⟨rfl,rfl⟩⟩
 rcases two with ⟨a,kd,b,n,rfl,e,hk⟩ | ⟨a,kd,u,rfl,e,hk,hu⟩
 ·refine⟨_,rfl,aF (aJ.of e) rfl ⟨_,rfl,zI (by show 2<=1000;decide),fun p hp=>?_⟩⟩;have s1:aG H (upd H p (.tup [.str "set",.str "add"])):=zF hp _;have e1:=s1 _ _ e;refine (gf rfl (.inr (aJ.of zC)) ⟨rfl,rfl,_,rfl,j8 (by rcases hk with ⟨rfl,_⟩ | ⟨rfl,_⟩ <;> decide +kernel) ?_⟩);refine⟨_,rfl,aF (aJ.of e1) rfl ⟨_,rfl,aF (aJ.of e1) rfl ?_⟩⟩
  have qG2:0<=b/\b < (bx.length:Int):=by
   rcases hk with ⟨_,rfl⟩ | ⟨_,rfl⟩ <;> exact hok b rfl
  refine aL fun G_ g_=>?_;obtain⟨hb0,hb1⟩:=qG2;obtain⟨k,rfl⟩:∃ k:Nat,b=(k:Int):=⟨b.toNat,by lia⟩;apply g_;clear g_ G_
  have hkl:k < bx.length:=by lia
  refine⟨fun σ' H'=>H'=upd H p (.tup [.str "set",.str "add"])/\∃ v:Int,σ'=[some (.ref a),some (.ref tb),some (.ref ts),some (.str kd),some (.int (k:Int)),some (.int v)]/\d.upd sz bx=bx.set k v,?_,?_⟩
  ·refine⟨_,rfl,rfl,_,rfl,?_⟩;rcases hk with ⟨rfl,rfl⟩ | ⟨rfl,rfl⟩
   ·refine yN (by decide +kernel) ?_;refine⟨rfl,n,rfl,?_⟩;show bx.set (k:Int).toNat n=_;rw[Og]
   ·refine yO ?_;refine⟨_,rfl,_,rfl,aF (aJ.of (s1 _ _ hb)) (xQ hb0 hb1) ⟨_,rfl,bF ⟨_,rfl,_,rfl,aF (aJ.of (s1 _ _ hs)) (xQ hb0 (by lia)) (bF ⟨hpos _ (Vw hb0 (by lia)),?_⟩)⟩⟩⟩;refine⟨rfl,_,rfl,?_⟩;show bx.set (k:Int).toNat _=_;rw[Og]
  rintro σ' H' bV;refine aL fun G_ g_=>?_;obtain⟨rfl,v,rfl,hv⟩:=bV;apply g_;clear g_ G_;have hb':=s1 _ _ hb;refine⟨fun x H'=>∃ t:Addr,x = .ref t/\aG (upd H p (.tup [.str "set",.str "add"])) H'/\H' t=some (.tup ((bx.take k++[v]).map V.int)),?_,?_⟩
  ·refine⟨_,rfl,_,rfl,_,rfl,tb,_,rfl,aJ.of hb',?_,fun p1 hp1=>?_⟩
   ·rw[HT.ug,bZ];lia
   have s2:=zF hp1 (.tup (lZ (bx.map V.int) none (some (k:Int))));refine⟨_,rfl,zI (by show 1<=1000;decide),fun p2 hp2=>?_⟩
   have e1':lZ (bx.map V.int) none (some (k:Int))=(bx.take k).map V.int:=by
    rw[Vp _ (by rw[bZ];lia),List.map_take]
   have s3:=zF hp2 (.tup [.int v])
   by_cases hk0:k=0
   ·subst hk0;refine .inr ⟨p1,p2,_,rfl,rfl,aJ.of (s3 _ _ (by rw[zC,e1'];rfl)),aJ.of zC,?_⟩;exact⟨p2,rfl,s2.trans s3,by rw[zC];rfl⟩
   ·refine .inl ⟨p1,p2,_,_,rfl,rfl,aJ.of (s3 _ _ zC),aJ.of zC,?_,?_,fun z=>(by cases z),fun _ p3 hp3=>?_⟩
    ·intro z;have:=congrArg List.length z;rw[e1',bZ,jc,List.length_nil]at this;lia
    ·rw[e1',bZ,jc];exact zI (by show _+1<=1000;lia)
    ·refine⟨p3,rfl,(s2.trans s3).trans (zF hp3 _),?_⟩;rw[zC,e1',jn];rfl
  rintro x H2 bV;refine aL fun G_ g_=>?_;obtain⟨t,rfl,s4,ht⟩:=bV;apply g_;clear g_ G_;refine⟨_,rfl,_,rfl,bF ⟨_,rfl,tb,_,rfl,aJ.of (s4 _ _ hb'),?_,fun p4 Ws=>?_⟩⟩
  ·rw[show ((k:Int)+1)=((k+1:Nat):Int) by lia,HT.ug,bZ];lia
  have e2':lZ (bx.map V.int) (some ((k:Int)+1)) none=(bx.drop (k+1)).map V.int:=by
   rw[Nq _ (by rw[bZ];lia),List.map_drop]
  have s5:=zF Ws (.tup (lZ (bx.map V.int) (some ((k:Int)+1)) none))
  have all:(bx.take k++[v]).map V.int++(bx.drop (k+1)).map V.int=(d.upd sz bx).map V.int:=by
   rw[<-jn,Tw v hkl,hv]
  refine⟨t,p4,_,_,rfl,rfl,aJ.of (s5 _ _ ht),aJ.of zC,?_,?_,fun z=>?_,fun _ p5 TX=>?_⟩
  ·intro z;have:=congrArg List.length z;simp at this
  ·rw[e2',bZ,bZ,dN,jc,List.length_drop];exact zI (by show min k bx.length+1+_<=1000;lia)
  ·refine q t _ ((s1.trans s4).trans s5) ?_;rw[s5 _ _ ht,<-all];rw[e2']at z;rw[z,fY]
  ·refine q p5 _ (((s1.trans s4).trans s5).trans (zF TX _)) ?_;rw[zC,e2',all]
 ·refine⟨_,rfl,aF (aJ.of e) rfl ⟨_,rfl,zI (by show 2<=1000;decide),fun p hp=>?_⟩⟩;refine (gf rfl (.inr (aJ.of zC)) ⟨rfl,rfl,_,rfl,TJ (by rcases hk with rfl | rfl <;> decide +kernel) ?_⟩);refine⟨_,rfl,q tb _ (zF hp _) ?_⟩;rw[hu];exact zF hp _ _ _ hb
end
end jP
namespace jP
open PySem L2 mC ou O5
theorem qBG:¬ (("most" : Str) = "events"):=by decide +kernel
noncomputable def JN(m:Nat)(d:Addr):List (Str × V):=cR "events" (.ref d) (cR "most" (.int (m:Int)) [])
theorem gj(m:Nat)(d:Addr):(JN m d).lookup ("events" : Str)=some (.ref d):=by
 unfold JN;rw[aN,if_pos rfl]
theorem Ng(m:Nat)(d:Addr):(JN m d).lookup ("most" : Str)=some (.int (m:Int)):=by
 unfold JN;rw[aN,if_neg qBG,aN,if_pos rfl]
theorem DG(m:Nat)(d:Addr){x:Str}(h1:¬ x = "events")(h2:¬ x = "most"):(JN m d).lookup x=none:=by
 unfold JN;rw[aN,if_neg h1,aN,if_neg h2]
 all_goals rfl
noncomputable def LL(C:Addr):LA:=fun H p fp m l => ∃ dx d:Addr,fp=[p,d]/\H p=some (.ins C dx (JN m d))/\H d=some (.lst (l.map V.int))
theorem iJ(C:Addr):qE9 C (LL C) where
 keep:=by
  rintro H H' p fp m l ⟨dx,d,rfl,h1,h2⟩ k;exact⟨dx,d,rfl,k p (by simp) _ h1,k d (by simp) _ h2⟩
 there:=by
  rintro H p fp m l ⟨dx,d,rfl,h1,h2⟩ b hb;rcases bU.mp hb with rfl | hb
  ·rw[h1];intro z
   cases z
  ·rw[bf.mp hb,h2];intro z
   cases z
 obj:=by
  rintro H p fp m l ⟨dx,d,rfl,h1,h2⟩;exact⟨dx,_,h1,DG _ _ (by decide +kernel) (by decide +kernel),DG _ _ (by decide +kernel) (by decide +kernel),DG _ _ (by decide +kernel) (by decide +kernel)⟩
section
theorem U3:aH ["self","most"] ["self","most"] (aC K8):=fW
theorem Uy(F:dM K "__init__" "Letters.__init__" K8 f fd)(cl:xW K C)(nM:bW K C "most")(nE:bW K C "events"):aO P w K mg base aZ 1 f fd ["self","most"] (Hl C (LL C)):=by
 refine F.ok U3 (fun vs H Q E h=>?_) (fun cdv A outer s H vs Q E hr h=>?_)
 ·refine aL fun G_ g_=>?_;obtain⟨p,dx,m,rfl,_⟩:=h;apply g_;clear g_ G_;rfl
 refine aL fun G_ g_=>?_;obtain⟨p,dx,m,rfl,hp,hm,k⟩:=h;apply g_;clear g_ G_;refine⟨_,(zE (sY (pv 0) (pv 1) rfl) (zG (sY (pv 0) (yK zD) rfl))),?_⟩;refine⟨_,rfl,_,rfl,p,C,dx,[],rfl,hp,cl,nM,(by show 0 < 1000;decide),Nat.zero_le _,fun d hd=>?_⟩
 have V5:p ≠ d:=fun z=>by
  rw[<-z,zC]at hd
  cases hd
 have hd0:H d=none:=by
  rw[zQ (Ne.symm V5)]at hd;exact hd
 refine⟨_,rfl,p,C,dx,_,rfl,(by rw[zQ V5];exact zC),cl,nE,(by show 1 < 1000;decide),?_⟩;refine k [p,d] _ ⟨dx,d,rfl,zC,by rw[zQ (Ne.symm V5),zC];rfl⟩ (fun b hb=>?_) fun b o e hb=>?_
 ·rcases bU.mp hb with rfl | hb
  ·exact .inl rfl
  ·rw[bf.mp hb];exact .inr hd0
 ·rw[zQ hb,zQ (zM e hd0),zQ hb];exact e
theorem Xq:aH ["self","event"] ["self","event"] (aC U4):=fW
theorem YW(F:dM K "add" "Letters.add" U4 f fd)(cl:xW K C)(nM:bW K C "most")(nE:bW K C "events")(aU:mg "len" = none):aO P w K mg base aZ 1 f fd ["self","event"] (WX (LL C)):=by
 refine F.ok Xq (fun vs H Q E h=>?_) (fun cdv A outer s H vs Q E hr h=>?_)
 ·refine aL fun G_ g_=>?_;obtain⟨p,fp,m,l,e,rfl,_⟩:=h;apply g_;clear g_ G_;rfl
 refine aL fun G_ g_=>?_;obtain⟨p,fp,m,l,e,rfl,⟨dx,d,rfl,h1,h2⟩,hl,hm,k⟩:=h;apply g_;clear g_ G_
 refine⟨_,(zE (yD (zL QK (zS zN rfl aU bh (zA (cI (pv 0) rfl) zD)) (cI (pv 0) rfl) (zR _))
  (zG (zO cz))
  zT)
  (zE (yI (fX jl xm xj yH (cI (pv 0) rfl) (zA (pv 1) zD)))
  (zG (zO cz)))),?_⟩
 refine⟨_,rfl,p,C,dx,_,_,rfl,h1,cl,nE,gj _ _,gf rfl (.inl (aR.of h2)) ⟨_,rfl,p,C,dx,_,_,rfl,h1,cl,nM,Ng _ _,_,_,rfl,rfl,_,rfl,?_⟩⟩;have V5:=fH h1 h2 (by intro z;cases z);refine rA (fun c=>?_) (fun c=>?_)
 ·have c':=of_decide_eq_true c;rw[bZ]at c'
  have c2:¬ l.length < m:=by lia
  have r:=k [p,d] H ⟨dx,d,rfl,h1,by unfold added;rw[if_neg c2];exact h2⟩ ⟨fun b hb=>.inl hb,fun b o eb _=>eb⟩;rw[decide_eq_false c2]at r;exact r
 ·have c':¬ ((m:Int)<=(((l.map V.int).length:Nat):Int)):=fun z=>c (decide_eq_true z);rw[bZ]at c'
  have c2:l.length < m:=by lia
  refine⟨_,rfl,p,C,dx,_,_,rfl,h1,cl,nE,gj _ _,.inl ⟨rfl,_,aR.of h2⟩,_,rfl,d,_,_,rfl,rfl,h2,zV (by rw[bZ];lia),?_⟩
  have r:=k [p,d] (upd H d (.lst (l.map V.int++[.int e]))) ⟨dx,d,rfl,by rw[zQ V5];exact h1,by unfold added;rw[if_pos c2,zC,jn];rfl⟩ ⟨fun b hb=>.inl hb,fun b o eb nb=>by
   rw[zQ (fun z:b=d=>nb (by rw[z];simp))]
   exact eb⟩
  rw[decide_eq_true c2]at r;exact r
theorem Hr:aH ["self"] ["self"] (aC qX):=fW
theorem Ie(F:dM K "waiting" "Letters.waiting" qX f fd)(cl:xW K C)(nE:bW K C "events")(dB:mg "list" = none):aO P w K mg base aZ 1 f fd ["self"] (yx (LL C)):=by
 refine F.ok Hr (fun vs H Q E h=>?_) (fun cdv A outer s H vs Q E hr h=>?_)
 ·refine aL fun G_ g_=>?_;obtain⟨p,fp,m,l,rfl,_⟩:=h;apply g_;clear g_ G_;rfl
 refine aL fun G_ g_=>?_;obtain⟨p,fp,m,l,rfl,⟨dx,d,rfl,h1,h2⟩,hl,hm,k⟩:=h;apply g_;clear g_ G_;refine⟨_,(zG (zO (yA dH rfl dB PyProof.Rows.boot_list (zA (cI (pv 0) rfl) zD)))),?_⟩;refine⟨_,rfl,p,C,dx,_,_,rfl,h1,cl,nE,gj _ _,gf rfl (.inl (aR.of h2)) (fun q hq=>?_)⟩;refine k q [p,d] _ ⟨dx,d,rfl,by rw[zQ (zM h1 hq)];exact h1,by rw[zQ (zM h2 hq)];exact h2⟩ ⟨fun b hb=>.inl hb,fun b o eb _=>zF hq _ b o eb⟩ hq (fun z=>?_) zC;rcases bU.mp z with z | z
 ·exact zM h1 hq z.symm
 ·exact zM h2 hq (bf.mp z).symm
end
section
theorem Ph:aH ["self"] ["self"] (aC Bs):=fW
theorem QQ(F:dM K "taken" "Letters.taken" Bs f fd)(cl:xW K C)(nE:bW K C "events")(aU:mg "len" = none):aO P w K mg base aZ 1 f fd ["self"] (Ju (LL C)):=by
 refine F.ok Ph (fun vs H Q E h=>?_) (fun cdv A outer s H vs Q E hr h=>?_)
 ·refine aL fun G_ g_=>?_;obtain⟨p,fp,m,l,rfl,_⟩:=h;apply g_;clear g_ G_;rfl
 refine aL fun G_ g_=>?_;obtain⟨p,fp,m,l,rfl,⟨dx,d,rfl,h1,h2⟩,hl,hm,k⟩:=h;apply g_;clear g_ G_
 refine⟨_,(zE (yD (zL yG (zS zN rfl aU bh (zA (cI (pv 0) rfl) zD)) zB (zR _))
  (zG (zO gA))
  zT)
  (zG (zO (fX jl PySem.F.slot_list_pop PySem.F.type_list_pop Ql (cI (pv 0) rfl) (zA zB zD))))),?_⟩
 refine⟨_,rfl,p,C,dx,_,_,rfl,h1,cl,nE,gj _ _,gf rfl (.inl (aR.of h2)) ⟨rfl,_,rfl,?_⟩⟩;have V5:=fH h1 h2 (by intro z;cases z)
 cases l with
 | nil=>exact TJ rfl (k [p,d] H ⟨dx,d,rfl,h1,h2⟩ ⟨fun b hb=>.inl hb,fun b o eb _=>eb⟩)
 | cons e l=>
  refine j8 ?_ ?_
  ·rw[bZ];refine decide_eq_false fun z=>?_;injection z with z;rw[eO]at z;lia
  refine⟨_,rfl,p,C,dx,_,_,rfl,h1,cl,nE,gj _ _,.inl ⟨rfl,_,aR.of h2⟩,d,_,0,0,.int e,rfl,rfl,h2,by decide,by decide,?_,rfl,?_⟩
  ·rw[bZ,eO];unfold seqIndex?;simp
  ·exact k [p,d] _ ⟨dx,d,rfl,by rw[zQ V5];exact h1,zC⟩ ⟨fun b hb=>.inl hb,fun b o eb nb=>by
    rw[zQ (fun z:b=d=>nb (by rw[z];simp))]
    exact eb⟩
end
end jP
namespace jP
open PySem L2 mC ou Dl O5
theorem Jd(h:LL C H p fp m l)(ht:H t=some (.tup xs)):t ∉ fp:=by
 obtain⟨dx,d,rfl,h1,h2⟩:=h;intro z;rcases bU.mp z with z | z
 ·rw[z,h1]at ht
  cases ht
 ·rw[bf.mp z,h2]at ht
  cases ht
inductive vJ(L:LA)(vs:List V)(H:Hp)(Q:VK)(E_:XK):Prop
 | mk (vd tb p d bx sz l fp m G) (_:vs=[vd,.ref tb,.ref p]) (_:aG G H) (_:(∀ b∈fp,G b=none)) (_:tX G vd d) (_:G tb=some (.tup ((d.upd sz bx).map V.int))) (_:L H p fp m l) (_:d.ok bx.length) (_:bx.length<=6) (_:l.length<=m) (_:m<=12) (_:∀ t fp' H',L H' p fp' m (d.Zt m l)->bM H H' fp fp'->H' t=some (.tup (d.rc sz m bx l).row)->t ∉ fp'->Q (.ref t) H')
section
theorem uD:aH ["deed","boxes","letters","kind"] ["deed","boxes","letters"] (aC oN):=fW
theorem Fg(F:dM K "recorded" "recorded" oN f fd)(cl:xW K C)(mA:Meth K C "add" ga)(qEA:aO P w K mg base aZ n ga da ["self","event"] (WX (LL C)))(qDS:Binds K da ["self","event"] []) :
  aO P w K mg base aZ (n+1) f fd ["deed","boxes","letters"] (vJ (LL C)):=by
 refine F.ok uD (fun vs H Q E h=>?_) (fun cdv A outer s H vs Q E hr h=>?_)
 ·refine aL fun G_ g_=>?_;obtain⟨vd,tb,p,d,bx,sz,l,fp,m,G,rfl,_⟩:=h;apply g_;clear g_ G_;rfl
 refine aL fun G_ g_=>?_;obtain⟨vd,tb,p,d,bx,sz,l,fp,m,G,rfl,sg,ng,hd,hb,hL,hok,h6,hl,hm,k⟩:=h;apply g_;clear g_ G_
 refine⟨_,(zE (zK (i:=3) uD.nd rfl (Or.inl rfl) (yB zH (pv 0) zB (fun _ _=>rfl)))
  (zE (yD (zL yG (pv 3) zP (zR _))
  (zG (zO (zW (zA zP (zA (yB zH (pv 0) zB (fun _ _=>rfl)) zD)))))
  zT)
  (zE (yD (zL yG (pv 3) zP (zR _))
  (zG (zO (zW (zA (FZ (bR (CJ (pv 2) cl mA qEA hr qDS .nil yE (zA (yB zH (pv 0) zB (fun _ _=>rfl)) zD))) zP zP) (zA (yB zH (pv 0) zB (fun _ _=>rfl)) zD)))))
  zT)
  (zG (zO (zW (zA zP (zA (yB zH (pv 0) zB (fun _ _=>rfl)) (zA (yB zH (pv 1) (yB zH (pv 0) zB (fun _ _=>rfl)) (fun _ _=>rfl)) zD))))))))),?_⟩
 have nG:∀ b o,G b=some o->b ∉ fp:=fun b o e z=>by
  rw[ng b z]at e
  cases e
 have fin:∀ t:Addr,H t=none->∀ row:List V,row=(d.rc sz m bx l).row->d.Zt m l=l->Q (.ref t) (upd H t (.tup row)):=fun t ht row e1 e2=>by
  have s1:=zF ht (.tup row);refine k t fp _ (by rw[e2];exact (iJ C).keep hL fun b _ o e=>s1 b o e) ⟨fun b hb=>.inl hb,fun b o e _=>s1 b o e⟩ (by rw[zC,e1]) (fun z=>(iJ C).there hL t z ht)
 have two:(∃ a kd b n,vd = .ref a/\G a=some (.tup [.str kd,.int b,.int n])/\(kd = "set" ∨ kd = "add")/\d.box=some b/\d.rc sz m bx l = .put b (at0 (d.upd sz bx) b)/\d.Zt m l=l) ∨
   (∃ a wd,vd = .ref a/\G a=some (.tup [.str "say",.str wd])/\d = .say wd) ∨ (∃ a ev,vd = .ref a/\G a=some (.tup [.str "send",.int ev])/\d = .send ev):=by
  cases hd with
  | say e=>exact .inr (.inl ⟨_,_,rfl,e,rfl⟩)
  | send e=>exact .inr (.inr ⟨_,_,rfl,e,rfl⟩)
  | set e=>exact .inl ⟨_,_,_,_,rfl,e,.inl rfl,rfl,rfl,rfl⟩
  | add e=>exact .inl ⟨_,_,_,_,rfl,e,.inr rfl,rfl,rfl,rfl⟩
 rcases two with ⟨a,kd,b,n',rfl,e,hk,hbx,R3,qFZ⟩ | ⟨a,wd,rfl,e,rfl⟩ | ⟨a,ev,rfl,e,rfl⟩
 ·have e':=sg _ _ e;have hb':=sg _ _ hb;obtain⟨b0,b1⟩:=hok b hbx;have ul:=d.Jo sz bx;refine⟨_,rfl,aF (aJ.of e') rfl ?_⟩;refine⟨_,rfl,rfl,_,rfl,yN (by rcases hk with rfl | rfl <;> decide +kernel) ?_⟩;refine⟨_,rfl,rfl,_,rfl,yN (by rcases hk with rfl | rfl <;> decide +kernel) ?_⟩;refine⟨_,rfl,aF (aJ.of e') rfl ⟨_,rfl,_,rfl,aF (aJ.of e') rfl (aF (aJ.of hb') (xQ b0 (by lia)) ⟨zI (by show 3<=1000;decide),fun t ht=>?_⟩)⟩⟩;exact fin t ht _ (by rw[R3];rfl) qFZ
 ·have e':=sg _ _ e;refine⟨_,rfl,aF (aJ.of e') rfl ?_⟩;refine⟨_,rfl,rfl,_,rfl,yO ?_⟩;exact⟨_,rfl,aF (aJ.of e') rfl ⟨zI (by show 2<=1000;decide),fun t ht=>fin t ht _ rfl rfl⟩⟩
 ·have e':=sg _ _ e;refine aL fun G_ g_=>?_;obtain⟨dx,fs,ho,n1,n2,n3⟩:=(iJ C).obj hL;apply g_;clear g_ G_;refine⟨_,rfl,aF (aJ.of e') rfl ?_⟩;refine⟨_,rfl,rfl,_,rfl,yN (by decide +kernel) ?_⟩;refine⟨_,rfl,rfl,_,rfl,yO ?_⟩;refine⟨_,rfl,p,dx,fs,rfl,ho,n1,_,rfl,aF (aJ.of e') rfl ⟨p,fp,m,l,ev,rfl,hL,hl,hm,fun fp' H1 hL1 st=>⟨_,rfl,?_⟩⟩⟩;have e1:=st.rest _ _ e' (nG _ _ e)
  have fin2:∀ t:Addr,H1 t=none->∀ row:List V,row=((Dd.send ev).rc sz m bx l).row->Q (.ref t) (upd H1 t (.tup row)):=fun t ht row er=>by
   have s1:=zF ht (.tup row);refine k t fp' _ ((iJ C).keep hL1 fun b _ o e=>s1 b o e) ⟨st.own,fun b o e nb=>s1 b o (st.rest b o e nb)⟩ (by rw[zC,er]) (fun z=>(iJ C).there hL1 t z ht)
  refine rA (fun c=>?_) (fun c=>?_)
  ·refine⟨_,rfl,aF (aJ.of e1) rfl ⟨zI (by show 2<=1000;decide),fun t ht=>fin2 t ht _ ?_⟩⟩;show _=(if l.length < m then Rc.send ev else Rc.lost ev).row;rw[if_pos (of_decide_eq_true c)];rfl
  ·refine⟨_,rfl,aF (aJ.of e1) rfl ⟨zI (by show 2<=1000;decide),fun t ht=>fin2 t ht _ ?_⟩⟩;show _=(if l.length < m then Rc.send ev else Rc.lost ev).row;rw[if_neg fun z=>c (decide_eq_true z)];rfl
end
section
theorem qT:aH ["deeds","boxes","sizes","letters","held","record","deed"] ["deeds","boxes","sizes","letters"] (aC KC):=fW
theorem V1(F:dM K "done" "done" KC f fd)(O8:Dp P w K mg base aZ n gc dc ["deed","boxes","sizes"] zc "changed")
  (Ji:Dp P w K mg base aZ n gr dr ["deed","boxes","letters"] (vJ (LL C)) "recorded") :
  aO P w K mg base aZ (n+1) f fd ["deeds","boxes","sizes","letters"] (PX (LL C)):=by
 refine F.ok qT (fun vs H Q E h=>?_) (fun cdv A outer s H vs Q E hr h=>?_)
 ·refine aL fun G_ g_=>?_;obtain⟨td,tb,ts,p,ds,bx,sz,l,dv,fp,m,G,rfl,_⟩:=h;apply g_;clear g_ G_;rfl
 refine aL fun G_ g_=>?_;obtain⟨td,tb,ts,p,ds,bx,sz,l,dv,fp,m,G,rfl,sg,ng,htd,hds,htb,hts,hL,hok,h8,hbs,h6,hpos,hl,hm,q⟩:=h;apply g_;clear g_ G_
 refine⟨_,(zE (zK (i:=4) qT.nd rfl (Or.inl rfl) (pv 1))
  (zE (zK (i:=5) qT.nd rfl (Or.inl rfl) (yK zD))
  (zZ (cU PassesOwn.never rfl (mq (pv 0)) (yJ (i:=6) qT.nd rfl (Or.inl rfl))
  (zE (zK (i:=4) qT.nd rfl (Or.inl rfl) (pC O8 hr (zA (pv 6) (zA (pv 4) (zA (pv 2) zD)))))
  (zG (yI (fX jl xm xj yH (pv 5) (zA (pC Ji hr (zA (pv 6) (zA (pv 4) (zA (pv 3) zD)))) zD))))))
  (zG (zO (zW (zA (pv 4) (zA (pv 5) zD)))))))),?_⟩
 have nG:∀ b o,G b=some o->b ∉ fp:=fun b o e z=>by
  rw[ng b z]at e
  cases e
 refine⟨_,rfl,Nat.zero_le _,fun pr hpr=>?_⟩;have s0:=zF hpr (.lst []);have Fo:pr ∉ fp:=fun z=>(iJ C).there hL pr z hpr;have nds:=hds.length
 refine⟨fun σ' Hi => ∃ sE cM rv o6,σ'=[some (.ref td),some (.ref tb),some (.ref ts),some (.ref p),some (.ref sE),some (.ref pr),o6]/\LL C Hi p cM m (xx m ds l)/\bM H Hi fp cM ∧
   Hi sE=some (.tup ((vm sz ds bx).map V.int))/\sE ∉ cM/\Hi pr=some (.lst rv)/\pr ∉ cM/\jH (xN cM Hi) rv (uR sz m ds bx l),?_,?_⟩
 ·refine⟨_,rfl,td,rfl,⟨_,aJ.of (s0 _ _ (sg _ _ htd))⟩,?_⟩
  refine Cy (K:=K) (a:=td) (xs:=dv) (fun i σ' Hi => ∃ sE cM rv o6,σ'=[some (.ref td),some (.ref tb),some (.ref ts),some (.ref p),some (.ref sE),some (.ref pr),o6]/\LL C Hi p cM m (xx m (ds.take i) l)/\bM H Hi fp cM ∧
   Hi sE=some (.tup ((vm sz (ds.take i) bx).map V.int))/\sE ∉ cM/\Hi pr=some (.lst rv)/\pr ∉ cM/\jH (xN cM Hi) rv (uR sz m (ds.take i) bx l))
   ⟨tb,fp,[],none,rfl,(iJ C).keep hL fun b _ o e=>s0 b o e,⟨fun b hb=>.inl hb,fun b o e _=>s0 b o e⟩,s0 _ _ (sg _ _ htb),nG _ _ htb,zC,Fo,.nil⟩ ?_ ?_ ?_
  ·rintro i σ' Hi _ bV;refine aL fun G_ g_=>?_;obtain⟨sE,cM,rv,o6,rfl,_,st,_⟩:=bV;apply g_;clear g_ G_;exact aJ.of (st.rest _ _ (sg _ _ htd) (nG _ _ htd))
  ·rintro i x σ' Hi hx bV;refine aL fun G_ g_=>?_;obtain⟨sE,cM,rv,o6,rfl,hLi,st,hbi,nbi,HH,Ml,R3⟩:=bV;obtain⟨d,hd,hdi⟩:=hds.get hx;apply g_;clear g_ G_;have hdm:=Bd hd;have hil:=(jM.mp hd).1
   have gi:∀ b o,G b=some o->Hi b=some o/\b ∉ cM:=fun b o e=>by
    refine⟨st.rest b o (sg b o e) (nG b o e),fun z=>?_⟩;rcases st.own b z with y | y
    ·exact nG b o e y
    ·rw[sg b o e]at y
     cases y
   have lb:=vh sz (ds.take i) bx;have ll:=vf (ds.take i) l hl;refine⟨_,rfl,_,rfl,_,rfl,x,sE,ts,d,_,sz,rfl,hdi.mono (fun b xs e=>(gi b _ e).1),hbi,(gi _ _ hts).1,(by rw[lb];exact hok d hdm),(by rw[lb];exact hbs),(by rw[lb];exact h6),hpos,fun t H1 s1 ht=>?_⟩;have hL1:=(iJ C).keep hLi fun b _ o e=>s1 b o e;have nt:=Jd hL1 ht;have hr1:=s1 _ _ HH;refine⟨_,rfl,.inl ⟨rfl,_,aR.of hr1⟩,_,rfl,_,rfl,_,rfl,x,t,p,d,vm sz (ds.take i) bx,sz,xx m (ds.take i) l,cM,m,xN cM H1,rfl,fun b o e=>(oZ e).1,fun b hb=>Ld hb,?_,rM ht nt,hL1,(by rw[lb];exact hok d hdm),(by rw[lb];exact h6),ll,hm,fun t2 xZ H2 hL2 st2 HF nt2=>?_⟩
   ·exact hdi.mono fun b xs e=>rM (s1 _ _ (gi b _ e).1) (gi b _ e).2
   have hr2:=st2.rest _ _ hr1 Ml
   have Tp:∀ b o,H1 b=some o->b ∉ cM->H2 b=some o/\b ∉ xZ:=fun b o e nb=>⟨st2.rest b o e nb,fun z=>by
    rcases st2.own b z with y | y
    ·exact nb y
    ·rw[e]at y
     cases y⟩
   have nr2:=(Tp _ _ hr1 Ml).2;have rl:=R3.length;rw[qi,jc]at rl;refine⟨pr,_,_,rfl,rfl,hr2,zV (by lia),?_⟩
   have Ec:ds.take (i+1)=ds.take i++[d]:=by
    rw[jN,hd];rfl
   refine⟨t,xZ,rv++[.ref t2],_,rfl,?_,⟨fun b hb=>?_,fun b o e nb=>?_⟩,?_,(Tp _ _ ht nt).2,zC,nr2,?_⟩
   ·rw[Ec,zp];refine (iJ C).keep hL2 fun b hb o e=>?_;rw[zQ (fun z:b=pr=>nr2 (by rw[<-z];exact hb))];exact e
   ·by_cases z:b∈fp
    ·exact .inl z
    ·rcases st2.own b hb with y | y
     ·exact st.own b y
     ·right
      cases w':H b with
      | none=>rfl
      | some o=>
       have:=s1 _ _ (st.rest b o w' z);rw[y]at this
       cases this
   ·have bi:b ∉ cM:=fun z=>by
     rcases st.own b z with y | y
     ·exact nb y
     ·rw[e]at y
      cases y
    rw[zQ (zM e hpr)];exact st2.rest b o (s1 _ _ (st.rest b o e nb)) bi
   ·rw[zQ (fH ht hr1 (by intro z;cases z)),Ec,zq];exact (Tp _ _ ht nt).1
   ·rw[Ec,zm];refine (R3.mono fun b xs e=>?_).snoc (rM ?_ nt2)
    ·refine aL fun G_ g_=>?_;obtain⟨e1,e2⟩:=oZ e;obtain⟨e3,e4⟩:=Tp _ _ (s1 _ _ e1) e2;apply g_;clear g_ G_;refine rM ?_ e4;rw[zQ (fH e1 HH (by intro z;cases z))];exact e3
    ·rw[zQ (fH HF hr2 (by intro z;cases z))];exact HF
  ·rintro σ' Hi bV;refine aL fun G_ g_=>?_;obtain⟨sE,cM,rv,o6,h1,h2,h3,h4,h5,h6',h7,h8'⟩:=bV;apply g_;clear g_ G_;rw[nds,List.take_length]at h2 h4 h8';exact⟨sE,cM,rv,o6,h1,h2,h3,h4,h5,h6',h7,h8'⟩
 rintro σ' Hi bV;refine aL fun G_ g_=>?_;obtain⟨sE,cM,rv,o6,rfl,hLi,st,hbi,nbi,HH,Ml,R3⟩:=bV;apply g_;clear g_ G_;refine⟨_,rfl,_,rfl,zI (by show 2<=1000;decide),fun t ht=>?_⟩;have s1:=zF ht (.tup [.ref sE,.ref pr]);exact q t sE pr rv cM _ ((iJ C).keep hLi fun b _ o e=>s1 b o e) ⟨st.own,fun b o e nb=>s1 b o (st.rest b o e nb)⟩ zC (s1 _ _ hbi) nbi (s1 _ _ HH) hpr (R3.mono fun b xs e=>s1 _ _ (oZ e).1)
end
end jP
namespace Ru
open PySem L2 mC ou xT O5 Dl jP
open Bb (Al)
inductive En where
 | rc (r:Rc)
 | inn (k:Nat)
 | out (k:Nat)
 | door (k:Nat)
 | thr (k:Nat)
 | take (e:Int)
noncomputable def En.row:En->List V
 | .rc r=>r.row
 | .inn k=>[.str "in",.int (k:Int)]
 | .out k=>[.str "out",.int (k:Int)]
 | .door k=>[.str "door",.int (k:Int)]
 | .thr k=>[.str "through",.int (k:Int)]
 | .take e=>[.str "take",.int e]
def iD(H:Hp)(v:V)(e:En):Prop:=∃ a:Addr,v = .ref a/\H a=some (.tup e.row)
theorem iD.mono(x:iD H v e)(k:aA H H'):iD H' v e:=by
 obtain⟨a,h1,h2⟩:=x;exact⟨a,h1,k _ _ h2⟩
def oA(H:Hp)(v:V)(ds:List Dd):Prop:=∃ a dv,v = .ref a/\H a=some (.tup dv)/\iK H dv ds
theorem oA.mono(x:oA H v ds)(k:aA H H'):oA H' v ds:=by
 obtain⟨a,dv,h1,h2,h3⟩:=x;exact⟨a,dv,h1,k _ _ h2,h3.mono k⟩
abbrev Sd:=En × List Dd
def qJ(H:Hp)(v:V)(s:Sd):Prop:=∃ a am dv,v = .ref a/\H a=some (.tup [.ref am,dv])/\H am=some (.tup s.1.row)/\oA H dv s.2
theorem qJ.mono(x:qJ H v s)(k:aA H H'):qJ H' v s:=by
 obtain⟨a,am,dv,h1,h2,h3,h4⟩:=x;exact⟨a,am,dv,h1,k _ _ h2,k _ _ h3,h4.mono k⟩
noncomputable def sstep(sz:List Int)(m:Nat)(s:List Int × List Int × List En)(x:Sd):List Int × List Int × List En:=(vm sz x.2 s.1,xx m x.2 s.2.1,s.2.2++(x.1 :: (uR sz m x.2 s.1 s.2.1).map En.rc))
noncomputable def cP(sz:List Int)(m:Nat)(ss:List Sd)(bx l:List Int):List Int × List Int × List En:=ss.foldl (sstep sz m) (bx,l,[])
theorem pW(sz:List Int)(m:Nat)(ss:List Sd)(x:Sd)(bx l:List Int):cP sz m (ss++[x]) bx l=sstep sz m (cP sz m ss bx l) x:=by
 unfold cP;rw[List.foldl_append];rfl
theorem tO(sz:List Int)(m:Nat):∀(ss:List Sd)(s:List Int × List Int × List En),(ss.foldl (sstep sz m) s).1.length=s.1.length/\(s.2.1.length<=m->(ss.foldl (sstep sz m) s).2.1.length<=m)
 | [],s=>⟨rfl,fun h=>h⟩
 | x :: ss,s=>by
  have ih:=tO sz m ss (sstep sz m s x);rw[List.foldl_cons];refine⟨by rw[ih.1];exact vh sz x.2 s.1,fun h=>ih.2 (vf x.2 s.2.1 h)⟩
theorem vH(sz:List Int)(m:Nat)(ss:List Sd)(bx l:List Int):(cP sz m ss bx l).1.length=bx.length:=(tO sz m ss _).1
theorem Be(h:l.length<=m):(cP sz m ss bx l).2.1.length<=m:=(tO sz m ss (bx,l,[])).2 h
theorem Ky(sz:List Int)(m:Nat):∀(ss:List Sd)(s:List Int × List Int × List En),(∀ x∈ss,x.2.length<=8)->(ss.foldl (sstep sz m) s).2.2.length<=s.2.2.length+9 * ss.length
 | [],s,_=>by simp
 | x :: ss,s,h=>by
  have ih:=Ky sz m ss (sstep sz m s x) fun y hy=>h y (HN _ hy);have hx:=h x (Ed ..)
  have e:(sstep sz m s x).2.2.length=s.2.2.length+(1+x.2.length):=by
   show (s.2.2++(x.1 :: (uR sz m x.2 s.1 s.2.1).map En.rc)).length=_;rw[dN,eO,bZ,qi];lia
  rw[List.foldl_cons,eO];lia
theorem vG(h:∀ x∈ss,x.2.length<=8):(cP sz m ss bx l).2.2.length<=9 * ss.length:=by
 have:=Ky sz m ss (bx,l,[]) h;have e:(bx,l,([]:List En)).2.2.length=0:=rfl;rw[e,Nat.zero_add]at this;exact this
theorem Xz(x:jH H rv rs):Al (iD H) rv (rs.map En.rc):=by
 induction x with
 | nil=>exact .nil
 | cons h _ ih=>exact .cons ⟨_,rfl,h⟩ ih
theorem Al.app(x:Al R vs rs)(y:Al R ws ss):Al R (vs++ws) (rs++ss):=by
 induction x with
 | nil=>exact y
 | cons h _ ih=>exact .cons h ih
theorem Al.cast(e:vs=ws)(x:Al R ws rs):Al R vs rs:=by
 rw[e];exact x
theorem bM.trans(a:bM H H1 fp fp1)(b:bM H1 H2 fp1 xZ):bM H H2 fp xZ where
 own:=fun c hc=>by
  by_cases z:c∈fp
  ·exact .inl z
  ·rcases b.own c hc with y | y
   ·exact a.own c y
   ·right
    cases w':H c with
    | none=>rfl
    | some o=>
     have:=a.rest c o w' z;rw[y]at this
     cases this
 rest:=fun c o e nb=>b.rest c o (a.rest c o e nb) fun z=>by
  rcases a.own c z with y | y
  ·exact nb y
  ·rw[e]at y
   cases y
theorem bM.same(fp:List Addr)(s:aG H H'):bM H H' fp fp:=⟨fun _ h=>.inl h,fun b o e _=>s b o e⟩
theorem bM.apart(a:bM H H' fp fp')(e:H b=some o)(n:b ∉ fp):H' b=some o/\b ∉ fp':=⟨a.rest b o e n,fun z=>by
 rcases a.own b z with y | y
 ·exact n y
 ·rw[e]at y
  cases y⟩
theorem bM.keep(a:bM H H' fp fp')(h:LL C H p fp m l):aA H H':=fun b xs e=>a.rest b _ e (Jd h e)
theorem bM.upd(a:bM H H' fp fp')(n:H b=none)(o:HO):bM H (upd H' b o) fp fp':=⟨a.own,fun c u e nc=>by
 rw[zQ (zM e n)]
 exact a.rest c u e nc⟩
theorem LL.same(h:LL C H p fp m l)(s:aG H H'):LL C H' p fp m l:=(iJ C).keep h fun b _ o e=>s b o e
theorem LL.upd(h:LL C H p fp m l)(n:b ∉ fp)(o:HO):LL C (upd H b o) p fp m l:=(iJ C).keep h fun c hc u e=>by
 rw[zQ (fun z:c=b=>n (by rw[<-z];exact hc))];exact e
theorem LL.new(h:LL C H p fp m l)(n:H b=none):b ∉ fp:=fun z=>(iJ C).there h b z n
def OD(H:Hp)(v:V)(z:Int):Prop:=∃ a n s,v = .ref a/\H a=some (.tup [n,.int z,s])
theorem OD.mono(x:OD H v z)(k:aA H H'):OD H' v z:=by
 obtain⟨a,n,s,h1,h2⟩:=x;exact⟨a,n,s,h1,k _ _ h2⟩
inductive Bg(vs:List V)(H:Hp)(Q:VK)(E_:XK):Prop
 | mk (pc pb x0 x1 x2 x4 x5 x6 bv sz) (_:vs=[.ref pc]) (_:H pc=some (.tup [x0,x1,x2,.ref pb,x4,x5,x6])) (_:H pb=some (.tup bv)) (_:Al (OD H) bv sz) (_:sz.length<=100) (_:∀ t H',aG H H'->H' t=some (.tup (sz.map V.int))->Q (.ref t) H')
def W0(H:Hp)(rs:List Rm)(di dO:Nat->List Dd):Prop:=∀ k r,rs[k]? = some r->oA H r.ins (di k)/\oA H r.outs (dO k)
theorem W0.mono(x:W0 H rs di dO)(k:aA H H'):W0 H' rs di dO:=fun j r h=>⟨(x j r h).1.mono k,(x j r h).2.mono k⟩
inductive jt(f:Nat->En)(ins:Bool)(vs:List V)(H:Hp)(Q:VK)(E_:XK):Prop
 | mk (t pe rs di dO es) (_:vs=[.ref t,.ref pe]) (_:dJ H t rs) (_:W0 H rs di dO) (_:H pe=some (.lst (aB es))) (_:(∀ k∈es,k < rs.length)) (_:es.length<=100) (_:∀ p sv H',aG H H'->H p=none->H' p=some (.lst sv)->Al (qJ H') sv (es.map fun k=>(f k,if ins=true then di k else dO k))->Q (.ref p) H')
noncomputable def outs(es:List En):List Nat:=es.filterMap fun e=>match e with
 | .out k=>some k
 | _=>none
inductive PK(vs:List V)(H:Hp)(Q:VK)(E_:XK):Prop
 | mk (pr rv es) (_:vs=[.ref pr]) (_:H pr=some (.lst rv)) (_:Al (iD H) rv es) (_:es.length<=1000) (_:∀ p H',aG H H'->H p=none->H' p=some (.lst (aB (outs es)))->Q (.ref p) H')
inductive sU(C:Addr)(vs:List V)(H:Hp)(Q:VK)(E_:XK):Prop
 | mk (ps tb ts p sv ss bx sz l fp m) (_:vs=[.ref ps,.ref tb,.ref ts,.ref p]) (_:H ps=some (.lst sv)) (_:ps ∉ fp) (_:Al (qJ H) sv ss) (_:H tb=some (.tup (bx.map V.int))) (_:H ts=some (.tup (sz.map V.int))) (_:LL C H p fp m l) (_:(∀ s∈ss,(∀ d∈s.2,d.ok bx.length)/\s.2.length<=8)) (_:ss.length<=110) (_:bx.length=sz.length) (_:bx.length<=6) (_:(∀ z∈sz,0 < z)) (_:l.length<=m) (_:m<=12) (_:∀ t tb' pr rv fp' H',LL C H' p fp' m (cP sz m ss bx l).2.1->bM H H' fp fp'->H' t=some (.tup [.ref tb',.ref pr])->H' tb'=some (.tup ((cP sz m ss bx l).1.map V.int))->H' pr=some (.lst rv)->H pr=none->pr ∉ fp'->Al (iD H') rv (cP sz m ss bx l).2.2->Q (.ref t) H')
section
theorem Ex:aH ["chart"] ["chart"] (aC iy):=fW
theorem Ff(F:dM K "sizes_of" "sizes_of" iy f fd)(aW:mg "tuple" = none):aO P w K mg base aZ 1 f fd ["chart"] Bg:=by
 refine F.ok Ex (fun vs H Q E h=>?_) (fun cdv A outer s H vs Q E hr h=>?_)
 ·refine aL fun G_ g_=>?_;obtain⟨pc,pb,x0,x1,x2,x4,x5,x6,bv,sz,rfl,_⟩:=h;apply g_;clear g_ G_;rfl
 refine aL fun G_ g_=>?_;obtain⟨pc,pb,x0,x1,x2,x4,x5,x6,bv,sz,rfl,JH,hpb,hA,hz,q⟩:=h;apply g_;clear g_ G_;refine⟨_,(zG (zO (yA zX rfl aW lD (zA (yT (aY:=[]) rfl (show bJ (aC iy) ["chart"] _ _ _ from ym) (mq (yB zH (pv 0) zB (fun _ _=>rfl))) (fun _ _ _ _ _ _=>cD) (fun _ _ _ _ _ _=>yB (r:=kJ K) zH (pv 0) zB (fun _ _=>rfl))) zD)))),?_⟩;have lb:=hA.length;refine⟨_,rfl,aF (aJ.of JH) rfl ⟨pb,rfl,⟨_,aJ.of hpb⟩,?_⟩⟩;refine nW (K:=K) (a:=pb) (xs:=bv) (fun i acc H'=>H'=H/\acc=(sz.take i).map V.int) ⟨rfl,rfl⟩ (fun i acc H' z=>by rw[z.1];exact aJ.of hpb) ?_ ?_
 ·rintro i x acc H' hx ⟨rfl,rfl⟩
  have hi:i < sz.length:=by
   have:=(jM.mp hx).1;lia
  have hk:=dX hi;refine aL fun G_ g_=>?_;obtain⟨v,hv,a,n,s,rfl,h1⟩:=hA.get hk;apply g_;clear g_ G_;rw[hv]at hx;obtain rfl:=iM hx;refine⟨_,rfl,aF (aJ.of h1) rfl ⟨by rw[bZ,jc,sizeLine_eq];lia,rfl,?_⟩⟩;rw[jN,hk,jn];rfl
 ·rintro acc H' ⟨rfl,rfl⟩ pl hpl;rw[uz (by lia)]at *;refine⟨pl,_,rfl,.inl ⟨aR.of zC,fun p hp=>q p _ ((zF hpl _).trans (zF hp _)) zC⟩⟩
theorem xr:aH ["record"] ["record"] (aC eU):=fW
theorem Pz(e:En):∃ s x r,e.row = .str s :: x :: r/\(decide (V.str s=V.str ("out" : Str))=true->∃ k:Nat,e = .out k/\x = .int (k:Int))/\(decide (V.str s=V.str ("out" : Str))=false->∀ k,e ≠ .out k):=by
 cases e with
 | rc r=>cases r <;> exact⟨_,_,_,rfl,(fun z=>absurd z (by decide +kernel)),fun _ k z=>by cases z⟩
 | inn k=>exact⟨_,_,_,rfl,(fun z=>absurd z (by decide +kernel)),fun _ k z=>by cases z⟩
 | out k=>exact⟨_,_,_,rfl,fun _=>⟨k,rfl,rfl⟩,fun z=>absurd z (by decide +kernel)⟩
 | door k=>exact⟨_,_,_,rfl,(fun z=>absurd z (by decide +kernel)),fun _ k z=>by cases z⟩
 | thr k=>exact⟨_,_,_,rfl,(fun z=>absurd z (by decide +kernel)),fun _ k z=>by cases z⟩
 | take e=>exact⟨_,_,_,rfl,(fun z=>absurd z (by decide +kernel)),fun _ k z=>by cases z⟩
theorem zy(es:List En)(e:En):outs (es++[e])=outs es++(match e with
  | .out k=>[k]
  | _=>[]):=by
 unfold outs;rw[List.filterMap_append]
 cases e <;> rfl
theorem yZ(F:dM K "rooms_left" "rooms_left" eU f fd):aO P w K mg base aZ 1 f fd ["record"] PK:=by
 refine F.ok xr (fun vs H Q E h=>?_) (fun cdv A outer s H vs Q E hr h=>?_)
 ·refine aL fun G_ g_=>?_;obtain⟨pr,rv,es,rfl,_⟩:=h;apply g_;clear g_ G_;rfl
 refine aL fun G_ g_=>?_;obtain⟨pr,rv,es,rfl,hpr,hA,hz,q⟩:=h;apply g_;clear g_ G_;refine⟨_,(zG (zO (yT (aY:=[]) rfl (show bJ (aC eU) ["record"] _ _ _ from ym) (yM (pv 0)) (fun _ _ _ _ _ _=>gZ (zL (r:=rEq) yG (yB (r:=kJ K) zH (pv 0) zB (fun _ _=>rfl)) zP (zR _))) (fun _ _ _ _ _ _=>yB (r:=kJ K) zH (pv 0) zB (fun _ _=>rfl))))),?_⟩;have lr:=hA.length;refine⟨_,rfl,pr,rfl,⟨_,aR.of hpr⟩,?_⟩;refine yS (K:=K) (a:=pr) (xs:=rv) (fun i acc H'=>H'=H/\acc.length<=i/\acc=aB (outs (es.take i))) ⟨rfl,bD _,rfl⟩ (fun i acc H' z=>by rw[z.1];exact aR.of hpr) ?_ ?_
 ·rintro i x acc H' hx bV;refine aL fun G_ g_=>?_;obtain⟨rfl,la,rfl⟩:=bV
  have hi:i < es.length:=by
   have:=(jM.mp hx).1;lia
  have hk:=dX hi;obtain⟨v,hv,a,rfl,h1⟩:=hA.get hk;apply g_;clear g_ G_;rw[hv]at hx;obtain rfl:=iM hx
  have Ec:es.take (i+1)=es.take i++[es[i]]:=by
   rw[jN,hk];rfl
  refine aL fun G_ g_=>?_;obtain⟨s',x',r',e1,e2,e3⟩:=Pz es[i];apply g_;clear g_ G_;rw[e1]at h1;refine⟨_,rfl,a,_,_,V.str s',rfl,rfl,aJ.of h1,(yQ rfl),rfl,_,rfl,jg (fun c=>?_) (fun c=>?_)⟩
  ·refine aL fun G_ g_=>?_;obtain⟨k,ek,rfl⟩:=e2 c;apply g_;clear g_ G_;refine⟨_,rfl,aF (aJ.of h1) ((yQ rfl)) ⟨by rw[sizeLine_eq];lia,rfl,by rw[dN,iG];lia,?_⟩⟩;rw[Ec,zy,ek];unfold aB;rw[jn];rfl
  ·refine⟨rfl,by lia,?_⟩;rw[Ec,zy];have e3:=e3 c;generalize es[i]=e at e3
   cases e with
   | out k=>exact absurd rfl (e3 k)
   | rc r=>rw[fY]
   | inn k=>rw[fY]
   | door k=>rw[fY]
   | thr k=>rw[fY]
   | take k=>rw[fY]
 ·rintro acc H' ⟨rfl,_,rfl⟩ pl hpl;rw[uz (by lia)];exact q pl _ (zF hpl _) hpl zC
theorem Ew:aH ["rooms","entered"] ["rooms","entered"] (aC iw):=fW
theorem Fe(F:dM K "steps_in" "steps_in" iw f fd):aO P w K mg base aZ 1 f fd ["rooms","entered"] (jt En.inn true):=by
 refine F.ok Ew (fun vs H Q E h=>?_) (fun cdv A outer s H vs Q E hr h=>?_)
 ·refine aL fun G_ g_=>?_;obtain⟨t,pe,rs,di,dO,es,rfl,_⟩:=h;apply g_;clear g_ G_;rfl
 refine aL fun G_ g_=>?_;obtain⟨t,pe,rs,di,dO,es,rfl,hR,hD,hpe,hlt,hz,q⟩:=h;apply g_;clear g_ G_;refine⟨_,(zG (zO (yT (aY:=[(0,"rooms")]) rfl (show bJ (aC iw) ["rooms","entered"] _ _ _ from ym) (yM (pv 1)) (fun _ _ _ _ _ _=>cD) (fun _ _ _ _ _ _=>(zW (zA (zW (zA zP (zA (pv 0) zD))) (zA (yB (r:=kJ K) zH (yB (r:=kJ K) zH (pv 1) (pv 0) (fun _ _=>rfl)) zB (fun _ _=>rfl)) zD))))))),?_⟩;refine⟨_,rfl,pe,rfl,⟨_,aR.of hpe⟩,?_⟩;refine yS (K:=K) (a:=pe) (xs:=aB es) (fun i acc H'=>aG H H'/\acc.length=i/\Al (qJ H') acc ((es.take i).map fun k=>(En.inn k,di k))) ⟨aG.refl _,rfl,.nil⟩ (fun i acc H' z=>aR.of (z.1 _ _ hpe)) ?_ ?_
 ·rintro i x acc H' hx bV;refine aL fun G_ g_=>?_;obtain⟨s1,la,hA⟩:=bV;obtain⟨hi,rfl⟩:=yR hx;apply g_;clear g_ G_;have hk:=dX hi;have hm:=hlt _ (ig hi);generalize es[i]=k at hk hm;refine aL fun G_ g_=>?_;obtain⟨vs,a,r,hv,_,hr',hat,ha⟩:=(hR.mono (aA.of s1)).at hm;apply g_;clear g_ G_;have hd:=(hD k r hr').1;refine⟨_,rfl,zI (by show 2<=1000;decide),fun p hp=>?_⟩;have u2:=zF hp (.tup [V.str ("in" : Str),V.int (k:Int)]);have h2p:upd H' p (.tup [V.str ("in" : Str),V.int (k:Int)]) p=some (.tup (En.inn k).row):=zC;generalize upd H' p (.tup [V.str ("in" : Str),V.int (k:Int)])=H2 at u2 h2p ⊢;refine⟨_,rfl,_,rfl,aF (aJ.of (u2 _ _ hv)) hat (aF (aJ.of (u2 _ _ ha)) rfl ⟨zI (by show 2<=1000;decide),fun p2 hp2=>⟨by rw[sizeLine_eq];lia,s1.trans (u2.trans (zF hp2 _)),by rw[dN,iG,la],?_⟩⟩)⟩;have u3:=zF hp2 (.tup [V.ref p,r.ins]);rw[jN,hk,jn];exact (hA.mono fun _ _ z=>z.mono (aA.of (u2.trans u3))).snoc ⟨p2,p,r.ins,rfl,zC,u3 _ _ h2p,hd.mono (aA.of (s1.trans (u2.trans u3)))⟩
 ·rintro acc H' ⟨s1,la,hA⟩ pl hpl;rw[zU]at hA;rw[uz (bD _)]at hA;exact q pl acc _ (s1.trans (zF hpl _)) (s1.free hpl) zC (hA.mono fun _ _ z=>z.mono (aA.of (zF hpl _)))
theorem Bm:aH ["rooms","left"] ["rooms","left"] (aC gW):=fW
theorem CZ(F:dM K "steps_out" "steps_out" gW f fd):aO P w K mg base aZ 1 f fd ["rooms","left"] (jt En.out false):=by
 refine F.ok Bm (fun vs H Q E h=>?_) (fun cdv A outer s H vs Q E hr h=>?_)
 ·refine aL fun G_ g_=>?_;obtain⟨t,pe,rs,di,dO,es,rfl,_⟩:=h;apply g_;clear g_ G_;rfl
 refine aL fun G_ g_=>?_;obtain⟨t,pe,rs,di,dO,es,rfl,hR,hD,hpe,hlt,hz,q⟩:=h;apply g_;clear g_ G_;refine⟨_,(zG (zO (yT (aY:=[(0,"rooms")]) rfl (show bJ (aC gW) ["rooms","left"] _ _ _ from ym) (yM (pv 1)) (fun _ _ _ _ _ _=>cD) (fun _ _ _ _ _ _=>(zW (zA (zW (zA zP (zA (pv 0) zD))) (zA (yB (r:=kJ K) zH (yB (r:=kJ K) zH (pv 1) (pv 0) (fun _ _=>rfl)) zB (fun _ _=>rfl)) zD))))))),?_⟩;refine⟨_,rfl,pe,rfl,⟨_,aR.of hpe⟩,?_⟩;refine yS (K:=K) (a:=pe) (xs:=aB es) (fun i acc H'=>aG H H'/\acc.length=i/\Al (qJ H') acc ((es.take i).map fun k=>(En.out k,dO k))) ⟨aG.refl _,rfl,.nil⟩ (fun i acc H' z=>aR.of (z.1 _ _ hpe)) ?_ ?_
 ·rintro i x acc H' hx bV;refine aL fun G_ g_=>?_;obtain⟨s1,la,hA⟩:=bV;obtain⟨hi,rfl⟩:=yR hx;apply g_;clear g_ G_;have hk:=dX hi;have hm:=hlt _ (ig hi);generalize es[i]=k at hk hm;refine aL fun G_ g_=>?_;obtain⟨vs,a,r,hv,_,hr',hat,ha⟩:=(hR.mono (aA.of s1)).at hm;apply g_;clear g_ G_;have hd:=(hD k r hr').2;refine⟨_,rfl,zI (by show 2<=1000;decide),fun p hp=>?_⟩;have u2:=zF hp (.tup [V.str ("out" : Str),V.int (k:Int)]);have h2p:upd H' p (.tup [V.str ("out" : Str),V.int (k:Int)]) p=some (.tup (En.out k).row):=zC;generalize upd H' p (.tup [V.str ("out" : Str),V.int (k:Int)])=H2 at u2 h2p ⊢;refine⟨_,rfl,_,rfl,aF (aJ.of (u2 _ _ hv)) hat (aF (aJ.of (u2 _ _ ha)) rfl ⟨zI (by show 2<=1000;decide),fun p2 hp2=>⟨by rw[sizeLine_eq];lia,s1.trans (u2.trans (zF hp2 _)),by rw[dN,iG,la],?_⟩⟩)⟩;have u3:=zF hp2 (.tup [V.ref p,r.outs]);rw[jN,hk,jn];exact (hA.mono fun _ _ z=>z.mono (aA.of (u2.trans u3))).snoc ⟨p2,p,r.outs,rfl,zC,u3 _ _ h2p,hd.mono (aA.of (s1.trans (u2.trans u3)))⟩
 ·rintro acc H' ⟨s1,la,hA⟩ pl hpl;rw[zU]at hA;rw[uz (bD _)]at hA;exact q pl acc _ (s1.trans (zF hpl _)) (s1.free hpl) zC (hA.mono fun _ _ z=>z.mono (aA.of (zF hpl _)))
theorem dj:aH ["steps","boxes","sizes","letters","held","record","mark","deeds","told"] ["steps","boxes","sizes","letters"] (aC oK):=fW
theorem Ig(F:dM K "stepped" "stepped" oK f fd)(Zd:Dp P w K mg base aZ n gd dd ["deeds","boxes","sizes","letters"] (PX (LL C)) "done") :
  aO P w K mg base aZ (n+1) f fd ["steps","boxes","sizes","letters"] (sU C):=by
 refine F.ok dj (fun vs H Q E h=>?_) (fun cdv A outer s H vs Q E hr h=>?_)
 ·refine aL fun G_ g_=>?_;obtain⟨ps,tb,ts,p,sv,ss,bx,sz,l,fp,m,rfl,_⟩:=h;apply g_;clear g_ G_;rfl
 refine aL fun G_ g_=>?_;obtain⟨ps,tb,ts,p,sv,ss,bx,sz,l,fp,m,rfl,hps,nps,hA,htb,hts,hL,hok,hss,hbs,h6,hpos,hl,hm,q⟩:=h;apply g_;clear g_ G_
 refine⟨_,(zE (zK (i:=4) dj.nd rfl (Or.inl rfl) (pv 1))
  (zE (zK (i:=5) dj.nd rfl (Or.inl rfl) (yK zD))
  (zZ (cU PassesOwn.never rfl (yM (pv 0)) (Q9 rfl (qp (yJ (i:=6) dj.nd rfl (Or.inl rfl)) (qp (yJ (i:=7) dj.nd rfl (Or.inl rfl)) Ka)))
  (zE (zK (i:=8) dj.nd rfl (Or.inl rfl) (pC Zd hr (zA (pv 7) (zA (pv 4) (zA (pv 2) (zA (pv 3) zD))))))
  (zE (zK (i:=4) dj.nd rfl (Or.inl rfl) (yB zH (pv 8) zB (fun _ _=>rfl)))
  (zE (yI (fX jl xm xj yH (pv 5) (zA (pv 6) zD)))
  (zG (yI (fX jl PySem.F.slot_list_extend PySem.F.type_list_extend iY (pv 5) (zA (yB zH (pv 8) zB (fun _ _=>rfl)) zD))))))))
  (zG (zO (zW (zA (pv 4) (zA (pv 5) zD)))))))),?_⟩
 have V9:=hA.length;refine⟨_,rfl,Nat.zero_le _,fun pr hpr=>?_⟩;have u0:=zF hpr (.lst []);have Fo:=LL.new hL hpr;refine⟨fun σ' Hi => ∃ sE cM rv o6 o7 o8,σ'=[some (.ref ps),some (.ref tb),some (.ref ts),some (.ref p),some (.ref sE),some (.ref pr),o6,o7,o8]/\LL C Hi p cM m (cP sz m ss bx l).2.1/\bM H Hi fp cM/\Hi sE=some (.tup ((cP sz m ss bx l).1.map V.int))/\Hi pr=some (.lst rv)/\pr ∉ cM/\Al (iD Hi) rv (cP sz m ss bx l).2.2,?_,?_⟩
 ·refine⟨_,rfl,ps,rfl,⟨_,aR.of (u0 _ _ hps)⟩,?_⟩;refine rH (fun i σ' Hi => ∃ sE cM rv o6 o7 o8,σ'=[some (.ref ps),some (.ref tb),some (.ref ts),some (.ref p),some (.ref sE),some (.ref pr),o6,o7,o8]/\LL C Hi p cM m (cP sz m (ss.take i) bx l).2.1/\bM H Hi fp cM/\Hi sE=some (.tup ((cP sz m (ss.take i) bx l).1.map V.int))/\Hi pr=some (.lst rv)/\pr ∉ cM/\Al (iD Hi) rv (cP sz m (ss.take i) bx l).2.2)
   ⟨tb,fp,[],_,_,_,rfl,LL.same hL u0,bM.same fp u0,u0 _ _ htb,zC,Fo,.nil⟩ (fun i σ' Hi _ ⟨_,_,_,_,_,_,_,_,st,_⟩=>aR.of (st.rest _ _ hps nps)) ?_ ?_
  ·rintro i x σ' Hi hx bV;refine aL fun G_ g_=>?_;obtain⟨sE,cM,rv,o6,o7,o8,rfl,hLi,st,hbi,HH,Ml,R3⟩:=bV
   have hi:i < ss.length:=by
    have:=(jM.mp hx).1;lia
   have hk:=dX hi;have hmem:=ig hi
   have Ec:ss.take (i+1)=ss.take i++[ss[i]]:=by
    rw[jN,hk];rfl
   obtain⟨v,hv,a,am,Vi,rfl,h1,h2,ad,dv,rfl,h3,h4⟩:=hA.get hk;apply g_;clear g_ G_;rw[hv]at hx;obtain rfl:=iM hx;have kt:=bM.keep st hL;obtain⟨ok1,ok2⟩:=hok _ hmem;have lb:=vH sz m (ss.take i) bx l;have ll:=Be (sz:=sz) (ss:=ss.take i) (bx:=bx) hl;have les:=vG (sz:=sz) (m:=m) (ss:=ss.take i) (bx:=bx) (l:=l) fun y hy=>(hok y (List.mem_of_mem_take hy)).2;have Km:=R3.length;rw[jc]at les;generalize ss[i]=sd at Ec h2 h4 ok1 ok2;have gk:aA Hi (xN cM Hi):=fun b xs e=>rM e (Jd hLi e);refine⟨a,_,rfl,aJ.of (kt _ _ h1),rfl,_,_,rfl,_,_,rfl,rfl,?_⟩;refine⟨_,rfl,_,rfl,_,rfl,_,rfl,ad,sE,ts,p,sd.2,_,sz,_,dv,cM,m,xN cM Hi,rfl,fun b o e=>(oZ e).1,fun b hb=>Ld hb,gk _ _ (kt _ _ h3),h4.mono (kt.trans gk),gk _ _ hbi,gk _ _ (kt _ _ hts),hLi,(by rw[lb];exact ok1),ok2,(by rw[lb];exact hbs),(by rw[lb];exact h6),hpos,ll,hm,fun t tb2 OJ uQ xZ H2 hL2 st2 HF hb2 nb2 hr2 Ip qC3=>?_⟩;have hr3:=(bM.apart st2 HH Ml).1;have nr3:=(bM.apart st2 HH Ml).2;have k2:=bM.keep st2 hLi
   have ne2:OJ ≠ pr:=fun z=>by
    rw[z,HH]at Ip
    cases Ip
   refine⟨_,rfl,aF (aJ.of HF) rfl ?_⟩;refine⟨_,rfl,.inl ⟨rfl,_,aR.of hr3⟩,_,rfl,pr,rv,_,rfl,rfl,hr3,(by rw[sizeLine_eq];lia),?_⟩;have k3:=aA.lst hr3 (.lst (rv++[.ref am]));have h3r:upd H2 pr (.lst (rv++[.ref am])) pr=some (.lst (rv++[.ref am])):=zC
   have h3p:upd H2 pr (.lst (rv++[.ref am])) OJ=some (.lst uQ):=by
    rw[zQ ne2];exact hr2
   have st3:bM H (upd H2 pr (.lst (rv++[.ref am]))) fp xZ:=bM.upd (bM.trans st st2) hpr _;have Zy:=LL.upd hL2 nr3 (.lst (rv++[.ref am]));generalize upd H2 pr (.lst (rv++[.ref am]))=H3 at k3 h3r h3p st3 Zy ⊢;have lr2:=qC3.length;rw[qi]at lr2;refine⟨_,rfl,.inl ⟨rfl,_,aR.of h3r⟩,_,rfl,aF (aJ.of (k3 _ _ HF)) rfl ⟨pr,OJ,_,_,rfl,rfl,h3r,h3p,(by rw[dN,iG,sizeLine_eq];lia),?_⟩⟩;have k4:=aA.lst h3r (.lst (rv++[.ref am]++uQ));have GQ:=k2.trans (k3.trans k4);refine⟨tb2,xZ,_,_,_,_,rfl,?_,bM.upd st3 hpr _,?_,zC,nr3,?_⟩
   ·rw[Ec,pW];exact LL.upd Zy nr3 _
   ·rw[Ec,pW];exact (k3.trans k4) _ _ hb2
   ·rw[Ec,pW];refine Al.cast (show rv++[V.ref am]++uQ=rv++(V.ref am :: uQ) by rw[List.append_assoc];rfl) ?_;exact Al.app (R3.mono fun _ _ z=>z.mono GQ) (.cons ⟨am,rfl,GQ _ _ (kt _ _ h2)⟩ (Xz (qC3.mono (k3.trans k4))))
  ·rintro σ' Hi bV;refine aL fun G_ g_=>?_;obtain⟨sE,cM,rv,o6,o7,o8,z1,z2,z3,z4,z5,z6,z7⟩:=bV;apply g_;clear g_ G_;rw[V9,List.take_length]at z2 z4 z7;exact⟨sE,cM,rv,o6,o7,o8,z1,z2,z3,z4,z5,z6,z7⟩
 rintro σ' Hi bV;refine aL fun G_ g_=>?_;obtain⟨sE,cM,rv,o6,o7,o8,rfl,hLi,st,hbi,HH,Ml,R3⟩:=bV;apply g_;clear g_ G_;refine⟨_,rfl,_,rfl,zI (by show 2<=1000;decide),fun t ht=>?_⟩;have u1:=zF ht (.tup [.ref sE,.ref pr]);exact q t sE pr rv cM _ (LL.same hLi u1) (bM.trans st (bM.same cM u1)) zC (u1 _ _ hbi) (u1 _ _ HH) hpr Ml (R3.mono fun _ _ z=>z.mono (aA.of u1))
end
inductive Wy where
 | to (g:Nat)
 | back (g:Nat)
 | stay
noncomputable def Wy.tx:Wy->Str
 | .to _ => "to"
 | .back _ => "back"
 | .stay => "stay"
noncomputable def Wy.gv:Wy->V
 | .to g=>.int (g:Int)
 | .back g=>.int (g:Int)
 | .stay=>.non
noncomputable def Wy.gl:Wy->Nat
 | .to g=>g
 | .back g=>g
 | .stay=>0
structure Dx where
 room:Nat
 ev:Int
 g:Gd
 dd:List Dd
 way:Wy
def uX(H:Hp)(v:V)(d:Dx):Prop:=∃(a:Addr)(gv dv:V),v = .ref a/\H a=some (.tup [.int (d.room:Int),.int d.ev,gv,dv,.str d.way.tx,d.way.gv])/\jh H gv d.g/\oA H dv d.dd
theorem uX.mono{H H':Hp}{v:V}{d:Dx}(x:uX H v d)(k:aA H H'):uX H' v d:=by
 obtain⟨a,gv,dv,h1,h2,h3,h4⟩:=x;exact⟨a,gv,dv,h1,k _ _ h2,h3.mono k,h4.mono k⟩
structure jR where
 od:Str
 lb:Nat
 tn:Nat
 sz:List Int
 rs:List Rm
 di:Nat->List Dd
 dO:Nat->List Dd
 ds:List Dx
def uA(H:Hp)(pc:Addr)(c:jR):Prop:=∃(pb t pd:Addr)(x4:V)(bv dv:List V),H pc=some (.tup [.str c.od,.int (c.lb:Int),.int (c.tn:Int),.ref pb,x4,.ref t,.ref pd])/\H pb=some (.tup bv)/\Al (OD H) bv c.sz/\dJ H t c.rs/\W0 H c.rs c.di c.dO/\H pd=some (.tup dv)/\Al (uX H) dv c.ds
theorem uA.mono{H H':Hp}{pc:Addr}{c:jR}(x:uA H pc c)(k:aA H H'):uA H' pc c:=by
 obtain⟨pb,t,pd,x4,bv,dv,h1,h2,h3,h4,h5,h6,h7⟩:=x;exact⟨pb,t,pd,x4,bv,dv,k _ _ h1,k _ _ h2,h3.mono fun _ _ z=>z.mono k,h4.mono k,h5.mono k,k _ _ h6,h7.mono fun _ _ z=>z.mono k⟩
structure Dz(c:jR):Prop where
 good:Tr.Good (aD c.rs)
 r40:c.rs.length<=40
 b6:c.sz.length<=6
 pos:∀ z∈c.sz,0 < z
 VD:c.lb<=12
 ins:∀ k:Nat,(∀ d∈c.di k,d.ok c.sz.length)/\(c.di k).length<=8
 outs:∀ k:Nat,(∀ d∈c.dO k,d.ok c.sz.length)/\(c.dO k).length<=8
 d63:c.ds.length<=63
 door:∀ d∈c.ds,d.room < c.rs.length/\d.way.gl < c.rs.length/\(∀ x∈d.dd,x.ok c.sz.length)/\d.dd.length<=8
structure S4 where
 os:List Nat
 bx:List Int
 ks:List (List Nat)
 l:List Int
def cL(H:Hp)(ps:Addr)(s:S4):Prop:=∃(po pb pk:Addr)(kv:List V),H ps=some (.tup [.ref po,.ref pb,.ref pk])/\H po=some (.tup (aB s.os))/\H pb=some (.tup (s.bx.map V.int))/\H pk=some (.tup kv)/\ao H kv s.ks
theorem cL.mono{H H':Hp}{ps:Addr}{s:S4}(x:cL H ps s)(k:aA H H'):cL H' ps s:=by
 obtain⟨po,pb,pk,kv,h1,h2,h3,h4,h5⟩:=x;exact⟨po,pb,pk,kv,k _ _ h1,k _ _ h2,k _ _ h3,k _ _ h4,h5.mono k⟩
structure gK(c:jR)(s:S4):Prop where
 inc:s.os.Pairwise (· < ·)
 lt:∀ o∈s.os,o < c.rs.length
 Sy:s.os.length<=40
 bx:s.bx.length=c.sz.length
 ks:s.ks.length=c.rs.length
 l:s.l.length<=c.lb
noncomputable def jY(w:Wy)(ks:List (List Nat)):List Nat:=match w with
 | .to g=>[g]
 | .back g=>if ks.getD g []=[] then [g] else ks.getD g []
 | .stay=>[]
noncomputable def tG:Wy->Bool
 | .stay=>true
 | _=>false
noncomputable def qC(c:jR)(d:Dx):Option Nat:=Tr.hall (aD c.rs) (Je.isOne c.rs) d.room d.way.gl
noncomputable def bO(c:jR)(d:Dx)(os:List Nat):List Nat:=if tG d.way=true then [] else Lk.lO (aD c.rs) (qC c d) os
noncomputable def nR(c:jR)(d:Dx)(os:List Nat)(ks:List (List Nat)):List (List Nat):=if tG d.way=true then ks else bH c.rs os (bO c d os) ks
def tW(c:jR)(d:Dx)(ks:List (List Nat))(ms:List Nat):Prop:=if tG d.way=true then ms=[] else Tr.SM (aD c.rs) (Li c.rs) (jY d.way ks) (qC c d) ms
noncomputable def cZ(c:jR)(d:Dx)(os:List Nat):List Nat:=os.filter fun o => !inV (.int (o:Int)) (aB (bO c d os))
noncomputable def gM(c:jR)(k:Nat)(d:Dx)(os ms:List Nat):List Sd:=[(En.door k,[])]++((bO c d os).map fun r=>(En.out r,c.dO r))++[(En.thr k,d.dd)]++ms.map fun r=>(En.inn r,c.di r)
def BW(c:jR)(k:Nat)(s:S4)(es:List En)(s':S4):Prop:=∃(d:Dx)(ms:List Nat),c.ds[k]? = some d/\tW c d (nR c d s.os s.ks) ms/\s'.os.Perm (cZ c d s.os++ms)/\s'.os.Pairwise (· < ·)/\s'.ks=nR c d s.os s.ks/\(s'.bx,s'.l,es)=cP c.sz c.lb (gM c k d s.os ms) s.bx s.l
def Lj(c:jR)(d:Dx)(os:List Nat)(ks:List (List Nat)):Prop:=(∀ g∈jY d.way (nR c d os ks),g < c.rs.length)/\(jY d.way (nR c d os ks)).length<=100/\∀ ms:List Nat,tW c d (nR c d os ks) ms->(cZ c d os++ms).Nodup/\(cZ c d os++ms).length<=40/\∀ k∈ms,k < c.rs.length
inductive Jz(vs:List V)(H:Hp)(Q:VK)(E_:XK):Prop
 | mk (pc pk:Addr) (kv:List V) (ks:List (List Nat)) (c:jR) (k:Nat) (d:Dx) (_:vs=[.ref pc,.ref pk,.int (k:Int)]) (_:uA H pc c) (_:c.ds[k]? = some d) (_:H pk=some (.tup kv)) (_:ao H kv ks) (_:d.way.gl < ks.length) (_:(jY d.way ks).length<=100) (_:∀(p:Addr)(H':Hp),aG H H'->H p=none->H' p=some (.lst (aB (jY d.way ks)))->Q (.ref p) H')
inductive Ep(C:Addr)(vs:List V)(H:Hp)(Q:VK)(E_:XK):Prop
 | mk (pc ps p:Addr) (c:jR) (k:Nat) (ik:Int) (s:S4) (fp:List Addr) (d:Dx) (_:vs=[.ref pc,.ref ps,.int ik,.ref p]) (_:ik=(k:Int)) (_:uA H pc c) (_:Dz c) (_:cL H ps s) (_:gK c s) (_:c.ds[k]? = some d) (_:Lj c d s.os s.ks) (_:LL C H p fp c.lb s.l) (_:∀(t ps' pr:Addr)(rv:List V)(s':S4)(es:List En)(fp':List Addr)(H':Hp),BW c k s es s'->LL C H' p fp' c.lb s'.l->bM H H' fp fp'->H' t=some (.tup [.ref ps',.ref pr])->cL H' ps' s'->gK c s'->H' pr=some (.lst rv)->H pr=none->pr ∉ fp'->Al (iD H') rv es->es.length<=1000->Q (.ref t) H')
theorem qy(rs:List Rm)(os:List Nat):∀(ls:List Nat)(ks:List (List Nat)),(bH rs os ls ks).length=ks.length
 | [],ks=>rfl
 | r :: ls,ks=>by
  show (bH rs os ls (if cX rs r=("" : Str) then ks else ks.set r (kh rs os r))).length=_;rw[qy rs os ls]
  split
  ·rfl
  ·rw[List.length_set]
theorem uq{ds:List Int}{f:Nat->Bool}{a b u:Nat}(h:Tr.hall ds f a b=some u):u < a:=Tr.Oj (List.mem_of_find?_eq_some h)
theorem QJ(ds:List Int)(un:Option Nat)(os:List Nat):(Lk.lO ds un os).length<=os.length:=by
 unfold Lk.lO;rw[List.length_reverse];exact sJ _ _
section
variable{P:Program}{w:World}{K:bj}{mg:Str->Option Value}{base:Heap}{C:Addr}
theorem mX:aH ["chart","kept","door","way","goal"] ["chart","kept","door"] (aC qZ):=fW
theorem Fj{f:Addr}{fd:FuncData}(F:dM K "goals_of" "goals_of" qZ f fd)(aU:mg "len" = none)(dB:mg "list" = none):aO P w K mg base aZ 1 f fd ["chart","kept","door"] Jz:=by
 refine F.ok mX (fun vs H Q E h=>?_) (fun cdv A outer s H vs Q E hr h=>?_)
 ·refine aL fun G_ g_=>?_;obtain⟨pc,pk,kv,ks,c,k,d,rfl,_⟩:=h;apply g_;clear g_ G_;rfl
 refine aL fun G_ g_=>?_;obtain⟨pc,pk,kv,ks,c,k,d,rfl,⟨pb,t,pd,x4,bv,dv,h1,h2,h3,h4,h5,h6,h7⟩,hd,TV,hks,hgl,hl,q⟩:=h;apply g_;clear g_ G_
 refine⟨_,(zE (zK (i:=3) mX.nd rfl (Or.inl rfl) (yB zH (yB zH (yB zH (pv 0) zB (fun _ _=>rfl)) (pv 2) (fun _ _=>rfl)) zB (fun _ _=>rfl)))
  (zE (zK (i:=4) mX.nd rfl (Or.inl rfl) (yB zH (yB zH (yB zH (pv 0) zB (fun _ _=>rfl)) (pv 2) (fun _ _=>rfl)) zB (fun _ _=>rfl)))
  (zE (yD (zL yG (pv 3) zP (zR _))
  (zG (zO (yK zD)))
  zT)
  (zE (yD (PW.pt (pw_and (zL yG (pv 3) zP (zR _)) (yP (zL Aa (zS zN rfl aU bh (zA (yB zH (pv 1) (pv 4) (fun _ _=>rfl)) zD)) zB (zR _)))))
  (zG (zO (yA dH rfl dB PyProof.Rows.boot_list (zA (yB zH (pv 1) (pv 4) (fun _ _=>rfl)) zD))))
  zT)
  (zG (zO (yK (zA (pv 4) zD)))))))),?_⟩
 refine aL fun G_ g_=>?_;obtain⟨v,hv,a,gv,Vi,rfl,g1,g2,g3⟩:=h7.get hd;apply g_;clear g_ G_;have hat:=yQ hv;refine⟨_,rfl,aF (aJ.of h1) rfl ⟨_,rfl,aF (aJ.of h6) hat (aF (aJ.of g1) rfl ?_)⟩⟩;refine⟨_,rfl,aF (aJ.of h1) rfl ⟨_,rfl,aF (aJ.of h6) hat (aF (aJ.of g1) rfl ?_)⟩⟩;clear g1 hd;refine aL fun G_ g_=>?_;obtain⟨rm,ev,gg,dd,wy⟩:=d;apply g_;clear g_ G_
 cases wy with
 | stay=>exact⟨_,rfl,rfl,_,rfl,TJ (by show decide (V.str ("stay" : Str)=V.str "stay")=true;decide +kernel) ⟨Nat.zero_le _,fun p hp=>q p _ (zF hp _) hp zC⟩⟩
 | to g=>
  refine⟨_,rfl,rfl,_,rfl,j8 (by show decide (V.str ("to" : Str)=V.str "stay")=false;decide +kernel) ?_⟩;refine⟨_,rfl,rfl,_,rfl,j8 (by show decide (V.str ("to" : Str)=V.str "back")=false;decide +kernel) ?_⟩;exact j8 rfl ⟨_,rfl,zI (by show 1<=1000;decide),fun p hp=>q p _ (zF hp _) hp zC⟩
 | back g=>
  have hg:g < ks.length:=hgl;refine aL fun G_ g_=>?_;obtain⟨v2,hv2,ak,rfl,hak⟩:=hks.get (dX hg);apply g_;clear g_ G_;have R7:=yQ hv2
  have eg:ks.getD g []=ks[g]:=by rw[v7,dX hg];rfl
  have q':∀(p:Addr)(H':Hp),aG H H'->H p=none->H' p=some (.lst (aB (if ks[g]=[] then [g] else ks[g])))->Q (.ref p) H':=fun p H' s1 hp h=>q p H' s1 hp (by
   show H' p=some (.lst (aB (if ks.getD g []=[] then [g] else ks.getD g [])));rw[eg]
   exact h)
  refine⟨_,rfl,rfl,_,rfl,j8 (by show decide (V.str ("back" : Str)=V.str "stay")=false;decide +kernel) ?_⟩;refine⟨_,rfl,rfl,_,rfl,TJ (by show decide (V.str ("back" : Str)=V.str "back")=true;decide +kernel) ?_⟩;refine⟨_,rfl,_,rfl,pk,kv,_,_,rfl,rfl,aJ.of TV,R7,gf rfl (.inr (aJ.of hak)) (bF ⟨_,rfl,jg (fun z=>?_) (fun z=>?_)⟩)⟩
  ·have z':(0:Int) < ((aB ks[g]).length:Int):=of_decide_eq_true z;rw[zU]at z'
   have hne:ks[g] ≠ []:=fun e=>by
    rw[e]at z';exact absurd z' (by decide)
   rw[if_neg hne]at q';exact⟨_,rfl,_,rfl,pk,kv,_,_,rfl,rfl,aJ.of TV,R7,gf rfl (.inr (aJ.of hak)) (fun p hp=>q' p _ (zF hp _) hp zC)⟩
  ·have z':¬ (0:Int) < ((aB ks[g]).length:Int):=of_decide_eq_false z;rw[zU]at z';have he:ks[g]=[]:=List.length_eq_zero_iff.mp (by lia);rw[if_pos he]at q';exact⟨_,rfl,zI (by show 1<=1000;decide),fun p hp=>q' p _ (zF hp _) hp zC⟩
abbrev CQ:Scope:=⟨.function,[("chart",.local),("stand",.local),("door",.local),("letters",.local),("rooms",.local),("parts",.local),("opening",.local),("kept",.local),("left",.cell),("entered",.local),("hall",.local),("through",.local),("steps",.local),("told",.local),("staying",.local),("hall_over",.globalImplicit),("goings_out",.globalImplicit),("keeping",.globalImplicit),("goings_in",.globalImplicit),("goals_of",.globalImplicit),("steps_out",.globalImplicit),("steps_in",.globalImplicit),("stepped",.globalImplicit),("sizes_of",.globalImplicit),("tuple",.globalImplicit),("sorted",.globalImplicit)],false,false,(aC mZ).more⟩
theorem MF:aC mZ=CQ:=by rfl
theorem bI:aH ["chart","stand","door","letters","rooms","parts","opening","kept","left","entered","hall","through","steps","told","staying"] ["chart","stand","door","letters"] CQ:=fW
theorem MT{n:Nat}{f g1 g2 g3 g4 g5 g6 g7 g8 g9:Addr}{fd d1 d2 d3 d4 d5 d6 d7 d8 d9:FuncData}(F:dM K "passed" "passed" mZ f fd)
  (Gz:Dp P w K mg base aZ n g1 d1 ["rooms","one","other"] Je.PQ "hall_over")
  (mH:Dp P w K mg base aZ n g2 d2 ["rooms","under","opening"] Lk.Oz "goings_out")
  (O7:Dp P w K mg base aZ n g3 d3 ["rooms","opening","left","kept"] za "keeping")
  (oE:Dp P w K mg base aZ n g4 d4 ["rooms","under","goals"] Xn "goings_in")
  (Jk:Dp P w K mg base aZ n g5 d5 ["chart","kept","door"] Jz "goals_of")
  (Gv:Dp P w K mg base aZ n g6 d6 ["rooms","left"] (jt En.out false) "steps_out")
  (qL:Dp P w K mg base aZ n g7 d7 ["rooms","entered"] (jt En.inn true) "steps_in")
  (tY:Dp P w K mg base aZ n g8 d8 ["steps","boxes","sizes","letters"] (sU C) "stepped")
  (qM:Dp P w K mg base aZ n g9 d9 ["chart"] Bg "sizes_of")
  (aW:mg "tuple" = none) (dY:mg "sorted" = none):aO P w K mg base aZ (n+1) f fd ["chart","stand","door","letters"] (Ep C):=by
 refine okS CQ MF F bI (fun vs H Q E h=>?_) (fun cdv A outer s H vs Q E hr h=>?_)
 ·refine aL fun G_ g_=>?_;obtain⟨pc,ps,p,c,k,ik,s,fp,d,rfl,_⟩:=h;apply g_;clear g_ G_;rfl
 refine aL fun G_ g_=>?_;obtain⟨pc,ps,p,c,k,ik,st,fp,d,rfl,rfl,hC,ok,hS,so,hd,mp,hL,q⟩:=h;apply g_;clear g_ G_
 refine⟨_,(zE (zK (i:=4) bI.nd rfl (Or.inl rfl) (yB zH (pv 0) zB (fun _ _=>rfl)))
  (zE (zK (i:=5) bI.nd rfl (Or.inl rfl) (yB zH (yB zH (pv 0) zB (fun _ _=>rfl)) (pv 2) (fun _ _=>rfl)))
  (zE (zK (i:=6) bI.nd rfl (Or.inl rfl) (yB zH (pv 1) zB (fun _ _=>rfl)))
  (zE (zK (i:=7) bI.nd rfl (Or.inl rfl) (yB zH (pv 1) zB (fun _ _=>rfl)))
  (zE (zK (i:=8) bI.nd rfl (Or.inr rfl) (yK zD))
  (zE (zK (i:=9) bI.nd rfl (Or.inl rfl) (yK zD))
  (zZ (yD (zL iI (yB zH (pv 5) zB (fun _ _=>rfl)) zP (zR _))
  (zE (zK (i:=10) bI.nd rfl (Or.inl rfl) (pC Gz hr (zA (pv 4) (zA (yB zH (pv 5) zB (fun _ _=>rfl)) (zA (yB zH (pv 5) zB (fun _ _=>rfl)) zD)))))
  (zE (zK (i:=8) bI.nd rfl (Or.inr rfl) (pC mH hr (zA (pv 4) (zA (pv 10) (zA (pv 6) zD)))))
  (zE (zK (i:=7) bI.nd rfl (Or.inl rfl) (pC O7 hr (zA (pv 4) (zA (pv 6) (zA (pv 8) (zA (pv 7) zD))))))
  (zG (zK (i:=9) bI.nd rfl (Or.inl rfl) (pC oE hr (zA (pv 4) (zA (pv 10) (zA (pC Jk hr (zA (pv 0) (zA (pv 7) (zA (pv 2) zD)))) zD)))))))))
  zT)
  (zE (zK (i:=11) bI.nd rfl (Or.inl rfl) (yK (zA (zW (zA (zW (zA zP (zA (pv 2) zD))) (zA (yB zH (pv 5) zB (fun _ _=>rfl)) zD))) zD)))
  (zE (zK (i:=12) bI.nd rfl (Or.inl rfl) (yC CW (yC CW (yC CW (yK (zA (zW (zA (zW (zA zP (zA (pv 2) zD))) (zA (zW zD) zD))) zD)) (pC Gv hr (zA (pv 4) (zA (pv 8) zD)))) (pv 11)) (pC qL hr (zA (pv 4) (zA (pv 9) zD)))))
  (zE (zK (i:=13) bI.nd rfl (Or.inl rfl) (pC tY hr (zA (pv 12) (zA (yB zH (pv 1) zB (fun _ _=>rfl)) (zA (pC qM hr (zA (pv 0) zD)) (zA (pv 3) zD))))))
  (zE (KZ (i:=14) (aY:=[(8,"left")]) rfl bI.nd rfl (Or.inl rfl) (show bJ CQ ["chart","stand","door","letters","rooms","parts","opening","kept","left","entered","hall","through","steps","told","staying"] _ _ _ from ym) (mq (pv 6)) (fun _ _ _ _ _ _=>gZ (zL (r:=rIn K true) lQ (pv 0) (pv 1) rfl)) (fun _ _ _ _ _ _=>(pv 0)))
  (zG (zO (zW (zA (zW (zA (yA zX rfl aW lD (zA (zS ni rfl dY PyProof.Rows.boot_sorted (zA (yC CW (pv 14) (pv 9)) zD)) zD)) (zA (yB zH (pv 13) zB (fun _ _=>rfl)) (zA (pv 7) zD)))) (zA (yB zH (pv 13) zB (fun _ _=>rfl)) zD)))))))))))))))),?_⟩
 refine aL fun G_ g_=>?_;obtain⟨pb,t,pd,x4,bv,dv,h1,h2,h3,h4,h5,h6,h7⟩:=id hC;obtain⟨po,pbx,pk,kv,e1,e2,e3,e4,e5⟩:=id hS;obtain⟨v,hv,a,gv,Vi,rfl,y1,y2,y3⟩:=h7.get hd;apply g_;clear g_ G_;have hat:=yQ hv;have od:=ok.door d (Bd hd);refine⟨_,rfl,aF (aJ.of h1) rfl ?_⟩;refine⟨_,rfl,aF (aJ.of h1) rfl ⟨_,rfl,aF (aJ.of h6) hat ?_⟩⟩;refine⟨_,rfl,aF (aJ.of e1) rfl ?_⟩;refine⟨_,rfl,aF (aJ.of e1) rfl ?_⟩;refine⟨Nat.zero_le _,fun pl0 Z6=>⟨Nat.zero_le _,fun pe0 Z7=>?_⟩⟩;have u1:=(zF Z6 (.lst [])).trans (zF Z7 (.lst []));have hl0:(upd (upd H pl0 (.lst [])) pe0 (.lst [])) pl0=some (.lst (aB [])):=zF Z7 _ _ _ zC;have he0:(upd (upd H pl0 (.lst [])) pe0 (.lst [])) pe0=some (.lst (aB [])):=zC;generalize upd (upd H pl0 (.lst [])) pe0 (.lst [])=H1 at u1 hl0 he0 ⊢;refine⟨fun σ' H'=>∃(Ea pf pe:Addr)(uJ:List V)(ms:List Nat)(o10:Option V),H pf=none/\H pe=none/\aG H H'/\H' pf=some (.lst (aB (bO c d st.os)))/\H' pe=some (.lst (aB ms))/\tW c d (nR c d st.os st.ks) ms/\H' Ea=some (.tup uJ)/\ao H' uJ (nR c d st.os st.ks)/\σ'=[some (.ref pc),some (.ref ps),some (.int (k:Int)),some (.ref p),some (.ref t),some (.ref a),some (.ref po),some (.ref Ea),some (.ref pf),some (.ref pe),o10,none,none,none,none],?_,?_⟩
 ·refine⟨_,rfl,aF (aJ.of (u1 _ _ y1)) rfl ⟨rfl,_,rfl,jg (fun cw=>?_) (fun cw=>?_)⟩⟩
  rotate_left
  ·have hs:tG d.way=true:=by
    cases hw:d.way with
    | stay=>rfl
    | to g=>rw[hw]at cw;exact absurd cw (by show ¬ (!decide (V.str ("to" : Str)=V.str "stay"))=false;decide +kernel)
    | back g=>rw[hw]at cw;exact absurd cw (by show ¬ (!decide (V.str ("back" : Str)=V.str "stay"))=false;decide +kernel)
   have el:bO c d st.os=[]:=if_pos hs;have ek:nR c d st.os st.ks=st.ks:=if_pos hs;rw[el,ek];exact⟨pk,pl0,pe0,kv,[],_,Z6,(zF Z6 _).free Z7,u1,hl0,he0,(show tW c d st.ks [] from (if_pos hs).mpr rfl),u1 _ _ e4,e5.mono (aA.of u1),rfl⟩
  have hs:tG d.way=false:=by
   cases hw:d.way with
   | stay=>rw[hw]at cw;exact absurd cw (by show ¬ (!decide (V.str ("stay" : Str)=V.str "stay"))=true;decide +kernel)
   | to g=>rfl
   | back g=>rfl
  have hs':¬ tG d.way=true:=by rw[hs];decide
  have el:bO c d st.os=Lk.lO (aD c.rs) (qC c d) st.os:=if_neg hs';have ek:nR c d st.os st.ks=bH c.rs st.os (bO c d st.os) st.ks:=if_neg hs'
  have egv:d.way.gv = .int ((d.way.gl:Nat):Int):=by
   cases hw:d.way with
   | stay=>rw[hw]at hs;cases hs
   | to g=>rfl
   | back g=>rfl
  rw[egv]at y1;refine⟨_,rfl,_,rfl,aF (aJ.of (u1 _ _ y1)) rfl ⟨_,rfl,aF (aJ.of (u1 _ _ y1)) rfl ⟨t,c.rs,d.room,d.way.gl,rfl,h4.mono (aA.of u1),ok.good,ok.r40,od.1,od.2.1,fun H2 s2=>?_⟩⟩⟩;have s12:=u1.trans s2
  have uq:∀ u,qC c d=some u->u < c.rs.length:=fun u hu=>by
   have:=uq hu;have:=od.1;lia
  refine⟨_,rfl,_,rfl,_,rfl,t,po,c.rs,qC c d,st.os,rfl,h4.mono (aA.of s12),ok.good,ok.r40,uq,s12 _ _ e2,so.lt,so.Sy,so.inc,fun pf H3 s3 npf hpf=>?_⟩;rw[<-el]at hpf;have zj:=s12.trans s3
  have llt:∀ o∈bO c d st.os,o < c.rs.length:=fun o ho=>by
   rw[el]at ho;have:=List.mem_reverse.mp ho;exact so.lt o (mK.mp this).1
  refine⟨_,rfl,_,rfl,_,rfl,_,rfl,t,po,pf,pk,c.rs,st.os,bO c d st.os,kv,st.ks,rfl,h4.mono (aA.of zj),ok.good,ok.r40,zj _ _ e2,so.lt,so.Sy,so.inc,hpf,llt,zj _ _ e4,e5.mono (aA.of zj),so.ks,fun Ea uJ H4 s4 qC7 qCC=>?_⟩;have Pq:=zj.trans s4;refine⟨_,rfl,_,rfl,_,rfl,_,rfl,_,rfl,pc,Ea,uJ,nR c d st.os st.ks,c,k,d,rfl,hC.mono (aA.of Pq),hd,qC7,(by rw[ek];exact qCC),(by rw[ek,qy,so.ks];exact od.2.1),mp.2.1,fun pg H5 s5 npg hpg=>?_⟩;have Ht:=Pq.trans s5;refine⟨t,pg,c.rs,qC c d,jY d.way (nR c d st.os st.ks),rfl,h4.mono (aA.of Ht),ok.good,ok.r40,uq,⟨hpg,mp.1,mp.2.1⟩,fun pe ms H6 s6 npe hpe hms=>?_⟩;exact⟨Ea,pf,pe,uJ,ms,_,s12.free npf,Ht.free npe,Ht.trans s6,s6 _ _ (s5 _ _ (s4 _ _ hpf)),hpe,(if_neg hs').mpr hms,s6 _ _ (s5 _ _ qC7),(by rw[ek];exact qCC.mono (aA.of (s5.trans s6))),rfl⟩
 rintro σ' H2 bV;refine aL fun G_ g_=>?_;obtain⟨Ea,pf,pe,uJ,ms,o10,npf,npe,s2,h2f,h2e,hms,h2k,qG1,rfl⟩:=bV;obtain⟨nd,l40,mlt⟩:=mp.2.2 ms hms;apply g_;clear g_ G_
 have lm:ms.length<=40:=by
  rw[dN]at l40;lia
 have ll:(bO c d st.os).length<=40:=by
  unfold bO
  split
  ·exact Nat.zero_le _
  ·exact Nat.le_trans (QJ _ _ _) so.Sy
 have llt:∀ o∈bO c d st.os,o < c.rs.length:=fun o ho=>by
  unfold bO at ho
  split at ho
  ·cases ho
  have:=List.mem_reverse.mp ho;exact so.lt o (mK.mp this).1
 refine⟨_,rfl,zI (by show 2<=1000;decide),fun p1 hp1=>?_⟩;have v1:=zF hp1 (.tup [V.str ("through" : Str),V.int (k:Int)]);have i1:upd H2 p1 (.tup [V.str ("through" : Str),V.int (k:Int)]) p1=some (.tup (En.thr k).row):=zC;generalize upd H2 p1 (.tup [V.str ("through" : Str),V.int (k:Int)])=H3 at v1 i1 ⊢;refine⟨_,rfl,aF (aJ.of (v1 _ _ (s2 _ _ y1))) rfl ⟨zI (by show 2<=1000;decide),fun p2 hp2=>?_⟩⟩;have v2:=zF hp2 (.tup [V.ref p1,Vi]);have i2:upd H3 p2 (.tup [V.ref p1,Vi]) p2=some (.tup [V.ref p1,Vi]):=zC;generalize upd H3 p2 (.tup [V.ref p1,Vi])=H4 at v2 i2 ⊢;refine⟨zI (by show 1<=1000;decide),fun pth qFP=>?_⟩;have v3:=zF qFP (.lst [V.ref p2]);have i3:upd H4 pth (.lst [V.ref p2]) pth=some (.lst [V.ref p2]):=zC;generalize upd H4 pth (.lst [V.ref p2])=H5 at v3 i3 ⊢;have s5:=s2.trans (v1.trans (v2.trans v3));have at5:Al (qJ H5) [V.ref p2] [(En.thr k,d.dd)]:=.cons ⟨p2,p1,Vi,rfl,v3 _ _ i2,v3 _ _ (v2 _ _ i1),y3.mono (aA.of s5)⟩ .nil;refine⟨_,rfl,zI (by show 2<=1000;decide),fun q1 hq1=>?_⟩;have w1:=zF hq1 (.tup [V.str ("door" : Str),V.int (k:Int)]);have j1:upd H5 q1 (.tup [V.str ("door" : Str),V.int (k:Int)]) q1=some (.tup (En.door k).row):=zC;generalize upd H5 q1 (.tup [V.str ("door" : Str),V.int (k:Int)])=H6 at w1 j1 ⊢;refine⟨Nat.zero_le _,fun q2 hq2=>?_⟩;have w2:=zF hq2 (.tup []);have j2:upd H6 q2 (.tup []) q2=some (.tup []):=zC;generalize upd H6 q2 (.tup [])=H7 at w2 j2 ⊢;refine⟨zI (by show 2<=1000;decide),fun q3 hq3=>?_⟩;have w3:=zF hq3 (.tup [V.ref q1,V.ref q2]);have j3:upd H7 q3 (.tup [V.ref q1,V.ref q2]) q3=some (.tup [V.ref q1,V.ref q2]):=zC;generalize upd H7 q3 (.tup [V.ref q1,V.ref q2])=H8 at w3 j3 ⊢;refine⟨zI (by show 1<=1000;decide),fun q4 Z0=>?_⟩;have w4:=zF Z0 (.lst [V.ref q3]);have j4:upd H8 q4 (.lst [V.ref q3]) q4=some (.lst [V.ref q3]):=zC;generalize upd H8 q4 (.lst [V.ref q3])=H9 at w4 j4 ⊢;have w59:=w1.trans (w2.trans (w3.trans w4));have s9:=s5.trans w59;have at9:Al (qJ H9) [V.ref q3] [(En.door k,([]:List Dd))]:=.cons ⟨q3,q1,V.ref q2,rfl,w4 _ _ j3,w4 _ _ (w3 _ _ (w2 _ _ j1)),q2,[],rfl,w4 _ _ (w3 _ _ j2),.nil⟩ .nil;have f9:aG H2 H9:=v1.trans (v2.trans (v3.trans w59));refine⟨_,rfl,_,rfl,t,pf,c.rs,c.di,c.dO,bO c d st.os,rfl,h4.mono (aA.of s9),h5.mono (aA.of s9),f9 _ _ h2f,llt,by lia,fun pso Hd ZZ M3 npso qFU hAo=>?_⟩
 have lo:Hd.length=(bO c d st.os).length:=by
  have:=hAo.length;rw[bZ]at this;exact this
 refine⟨q4,pso,_,_,rfl,rfl,M3 _ _ j4,qFU,(by rw[sizeLine_eq,lo];show 1+_<=_;lia),fun c1 hc1=>?_⟩;have z1:=zF hc1 (.lst ([V.ref q3]++Hd));have k1:upd ZZ c1 (.lst ([V.ref q3]++Hd)) c1=some (.lst ([V.ref q3]++Hd)):=zC;generalize upd ZZ c1 (.lst ([V.ref q3]++Hd))=H11 at z1 k1 ⊢;have f11:aG H5 H11:=w59.trans (M3.trans z1);refine⟨_,rfl,c1,pth,_,_,rfl,rfl,k1,f11 _ _ i3,(by rw[sizeLine_eq,dN,lo];show 1+_+1<=_;lia),fun c2 hc2=>?_⟩;have z2:=zF hc2 (.lst ([V.ref q3]++Hd++[V.ref p2]));have k2:upd H11 c2 (.lst ([V.ref q3]++Hd++[V.ref p2])) c2=some (.lst ([V.ref q3]++Hd++[V.ref p2])):=zC;generalize upd H11 c2 (.lst ([V.ref q3]++Hd++[V.ref p2]))=H12 at z2 k2 ⊢;have s12:=s9.trans (M3.trans (z1.trans z2));have f12:aG H2 H12:=f9.trans (M3.trans (z1.trans z2));refine⟨_,rfl,_,rfl,t,pe,c.rs,c.di,c.dO,ms,rfl,h4.mono (aA.of s12),h5.mono (aA.of s12),f12 _ _ h2e,mlt,by lia,fun mL Tn H13 zj YX Z3 ur=>?_⟩
 have li:Tn.length=ms.length:=by
  have:=ur.length;rw[bZ]at this;exact this
 refine⟨c2,mL,_,_,rfl,rfl,zj _ _ k2,Z3,(by rw[sizeLine_eq,dN,dN,lo,li];show 1+_+1+_<=_;lia),fun c3 hc3=>?_⟩;have z3:=zF hc3 (.lst ([V.ref q3]++Hd++[V.ref p2]++Tn));have k3:upd H13 c3 (.lst ([V.ref q3]++Hd++[V.ref p2]++Tn)) c3=some (.lst ([V.ref q3]++Hd++[V.ref p2]++Tn)):=zC;generalize upd H13 c3 (.lst ([V.ref q3]++Hd++[V.ref p2]++Tn))=H14 at z3 k3 ⊢;have Pq:=s12.trans (zj.trans z3);have f14:aG H2 H14:=f12.trans (zj.trans z3)
 have qGD:Al (qJ H14) ([V.ref q3]++Hd++[V.ref p2]++Tn) (gM c k d st.os ms):=by
  have a1:Al (qJ H14) [V.ref q3] [(En.door k,([]:List Dd))]:=at9.mono fun _ _ z=>z.mono (aA.of (M3.trans (z1.trans (z2.trans (zj.trans z3)))));have a2:Al (qJ H14) Hd ((bO c d st.os).map fun r=>(En.out r,c.dO r)):=hAo.mono fun _ _ z=>z.mono (aA.of (z1.trans (z2.trans (zj.trans z3))));have a3:Al (qJ H14) [V.ref p2] [(En.thr k,d.dd)]:=at5.mono fun _ _ z=>z.mono (aA.of (f11.trans (z2.trans (zj.trans z3))));have a4:Al (qJ H14) Tn (ms.map fun r=>(En.inn r,c.di r)):=ur.mono fun _ _ z=>z.mono (aA.of z3);exact Al.app (Al.app (Al.app a1 a2) a3) a4
 refine⟨_,rfl,_,rfl,aF (aJ.of (Pq _ _ e1)) rfl ⟨_,rfl,pc,pb,_,_,_,_,_,_,bv,c.sz,rfl,Pq _ _ h1,Pq _ _ h2,h3.mono (fun _ _ z=>z.mono (aA.of Pq)),(by have:=ok.b6;lia),fun tz H15 Ht htz=>?_⟩⟩;have U5:=Pq.trans Ht;have qCG:=LL.same hL U5
 have nc3:c3 ∉ fp:=fun z=>by
  have e0:=(s12.trans zj).free hc3;exact LL.new hL e0 z
 have lens:(gM c k d st.os ms).length<=110:=by
  unfold gM;rw[dN,dN,dN,bZ,bZ];show 1+_+1+_<=110;lia
 have oks:∀ s∈gM c k d st.os ms,(∀ d∈s.2,d.ok st.bx.length)/\s.2.length<=8:=fun s hs=>by
  rw[so.bx];unfold gM at hs;rcases eG.mp hs with hs | hs
  ·rcases eG.mp hs with hs | hs
   ·rcases eG.mp hs with hs | hs
    ·rw[bf.mp hs];exact⟨(fun d hd=>by cases hd),Nat.zero_le _⟩
    ·refine aL fun G_ g_=>?_;obtain⟨r,_,rfl⟩:=gU.mp hs;apply g_;clear g_ G_;exact ok.outs r
   ·rw[bf.mp hs];exact od.2.2
  ·refine aL fun G_ g_=>?_;obtain⟨r,_,rfl⟩:=gU.mp hs;apply g_;clear g_ G_;exact ok.ins r
 refine⟨_,rfl,c3,pbx,tz,p,_,_,st.bx,c.sz,st.l,fp,c.lb,rfl,Ht _ _ k3,nc3,qGD.mono (fun _ _ z=>z.mono (aA.of Ht)),U5 _ _ e3,htz,qCG,oks,lens,so.bx,(by rw[so.bx];exact ok.b6),ok.pos,so.l,ok.VD,fun tt tb' pr rv fp' ZX qG7 Tq htt htb hpr Fo YZ hes=>?_⟩;have k16:aA H15 ZX:=bM.keep Tq qCG;have stA:bM H ZX fp fp':=bM.trans (bM.same fp U5) Tq;have kA:aA H ZX:=bM.keep stA hL;have qF1:ZX pf=some (.lst (aB (bO c d st.os))):=Tq.rest _ _ (Ht _ _ (f14 _ _ h2f)) (LL.new hL npf);have qF2:ZX pe=some (.lst (aB ms)):=Tq.rest _ _ (Ht _ _ (f14 _ _ h2e)) (LL.new hL npe);have qF0:ZX Ea=some (.tup uJ):=k16 _ _ (Ht _ _ (f14 _ _ h2k));have qFG:=qG1.mono (aA.trans (aA.of (f14.trans Ht)) k16);refine⟨_,rfl,po,rfl,⟨_,aJ.of (kA _ _ e2)⟩,?_⟩;refine nW (K:=K) (a:=po) (xs:=aB st.os) (fun i acc H'=>H'=ZX/\acc=aB ((st.os.take i).filter fun o => !inV (.int (o:Int)) (aB (bO c d st.os)))) ⟨rfl,rfl⟩ (fun i acc H' z=>by rw[z.1];exact aJ.of (kA _ _ e2)) ?_ ?_
 ·rintro i x acc H' hx ⟨rfl,rfl⟩;obtain⟨hi,rfl⟩:=yR hx;have hk:=dX hi;generalize st.os[i]=o at hk;refine⟨_,rfl,_,rfl,gf rfl (.inl (aR.of qF1)) ⟨rfl,Af _,_,rfl,jg (fun z=>?_) (fun z=>?_)⟩⟩
  ·refine⟨_,rfl,?_,rfl,?_⟩
   ·rw[zU,sizeLine_eq];have:=sJ (fun o:Nat => !inV (.int (o:Int)) (aB (bO c d st.os))) (st.os.take i);rw[jc]at this;have:=so.Sy;lia
   ·have z2:(!inV (.int (o:Int)) (aB (bO c d st.os)))=true:=z;rw[gq hk,if_pos z2];unfold aB;rw[jn];rfl
  ·refine⟨rfl,?_⟩;have z2:(!inV (.int (o:Int)) (aB (bO c d st.os)))=false:=z
   have z':¬ (!inV (.int (o:Int)) (aB (bO c d st.os)))=true:=fun y=>by
    rw[z2]at y
    cases y
   rw[gq hk,if_neg z',fY]
 rintro acc H17 ⟨rfl,qDO⟩ sG VL
 have ea:(st.os.take (aB st.os).length).filter (fun o:Nat => !inV (.int (o:Int)) (aB (bO c d st.os)))=cZ c d st.os:=by
  rw[zU,uz (bD _)];rfl
 rw[ea]at qDO;subst qDO;have u17:=zF VL (.lst (aB (cZ c d st.os)));have h17:upd H17 sG (.lst (aB (cZ c d st.os))) sG=some (.lst (aB (cZ c d st.os))):=zC;generalize upd H17 sG (.lst (aB (cZ c d st.os)))=H18 at u17 h17 ⊢;rw[dN]at l40;refine⟨_,rfl,_,rfl,sG,pe,_,_,rfl,rfl,h17,u17 _ _ qF2,(by rw[zU,zU,sizeLine_eq];lia),fun Uh qC9=>?_⟩;have u18:=zF qC9 (.lst (aB (cZ c d st.os)++aB ms))
 have h18:upd H18 Uh (.lst (aB (cZ c d st.os)++aB ms)) Uh=some (.lst ((cZ c d st.os++ms).map fun j:Nat=>V.int (j:Int))):=by
  rw[zC];unfold aB;rw[jn]
 generalize upd H18 Uh (.lst (aB (cZ c d st.os)++aB ms))=H19 at u18 h18 ⊢;refine⟨Uh,(cZ c d st.os++ms).map fun j:Nat=>(j:Int),rfl,.inl (aR.of (by rw[h18,cT])),(by rw[bZ,dN];lia),fun psr rs' qFT perm xX=>?_⟩;refine aL fun G_ g_=>?_;obtain⟨os',rfl,rise,hpm⟩:=mU perm xX nd;apply g_;clear g_ G_;have u19:=zF qFT (.lst ((os'.map fun j:Nat=>(j:Int)).map V.int));have h19:upd H19 psr (.lst ((os'.map fun j:Nat=>(j:Int)).map V.int)) psr=some (.lst ((os'.map fun j:Nat=>(j:Int)).map V.int)):=zC;generalize upd H19 psr (.lst ((os'.map fun j:Nat=>(j:Int)).map V.int))=H20 at u19 h19 ⊢;refine⟨psr,_,rfl,.inl ⟨aR.of h19,fun FW Z2=>?_⟩⟩;have u20:=zF Z2 (.tup ((os'.map fun j:Nat=>(j:Int)).map V.int))
 have h20:upd H20 FW (.tup ((os'.map fun j:Nat=>(j:Int)).map V.int)) FW=some (.tup (aB os')):=by
  rw[zC,<-cT];rfl
 generalize upd H20 FW (.tup ((os'.map fun j:Nat=>(j:Int)).map V.int))=H21 at u20 h20 ⊢;have r21:aG H17 H21:=u17.trans (u18.trans (u19.trans u20));refine⟨_,rfl,aF (aJ.of (r21 _ _ htt)) rfl ⟨_,rfl,zI (by show 3<=1000;decide),fun pss qFS=>?_⟩⟩;have u21:=zF qFS (.tup [V.ref FW,V.ref tb',V.ref Ea]);have h21:upd H21 pss (.tup [V.ref FW,V.ref tb',V.ref Ea]) pss=some (.tup [V.ref FW,V.ref tb',V.ref Ea]):=zC;generalize upd H21 pss (.tup [V.ref FW,V.ref tb',V.ref Ea])=H22 at u21 h21 ⊢;have r22:=r21.trans u21;refine⟨_,rfl,aF (aJ.of (r22 _ _ htt)) rfl ⟨zI (by show 2<=1000;decide),fun pot qFV=>?_⟩⟩;have u22:=zF qFV (.tup [V.ref pss,V.ref pr]);have r23:=r22.trans u22
 have ksl:(nR c d st.os st.ks).length=c.rs.length:=by
  unfold nR
  split
  ·exact so.ks
  ·rw[qy];exact so.ks
 have les:=vG (sz:=c.sz) (m:=c.lb) (bx:=st.bx) (l:=st.l) fun y hy=>(oks y hy).2;have ko:=hpm.length_eq;rw[dN]at ko;refine q pot pss pr rv ⟨os',(cP c.sz c.lb (gM c k d st.os ms) st.bx st.l).1,nR c d st.os st.ks,(cP c.sz c.lb (gM c k d st.os ms) st.bx st.l).2.1⟩ (cP c.sz c.lb (gM c k d st.os ms) st.bx st.l).2.2 fp' _ ⟨d,ms,hd,hms,hpm,rise,rfl,rfl⟩ (LL.same qG7 r23) (bM.trans stA (bM.same fp' r23)) zC
  ⟨FW,tb',Ea,uJ,u22 _ _ h21,(u21.trans u22) _ _ h20,r23 _ _ htb,r23 _ _ qF0,qFG.mono (aA.of r23)⟩ ⟨rise,fun o ho=>?_,by show os'.length<=40;lia,by show (cP _ _ _ _ _).1.length=_;rw[vH];exact so.bx,ksl,Be so.l⟩ (r23 _ _ hpr) (U5.free Fo) YZ (hes.mono fun _ _ z=>z.mono (aA.of r23)) (by lia)
 rcases eG.mp (hpm.mem_iff.mp ho) with z | z
 ·exact so.lt o (mK.mp z).1
 ·exact mlt o z
end
end Ru
namespace Ru
open PySem L2 mC ou xT O5 Dl jP
open Bb (Al Dg W6 nZ rD jF dI inter)
noncomputable def Dx.dg(d:Dx):Dg:=⟨(d.room:Int),d.ev,d.g⟩
noncomputable def Lf(c:jR)(s:S4)(ev:Int):List Nat:=nZ (rD c.od) (aD c.rs) s.os s.bx (c.ds.map Dx.dg) ev
theorem RM(op bx:List Int)(room ev:Int):∀ ds b k,Bb.fst op bx room ev ds b=some k->k < b+ds.length
 | [],b,k,h=>by cases h
 | d :: ds,b,k,h=>by
  have h:(if Bb.hit op bx room ev d=true then some b else Bb.fst op bx room ev ds (b+1))=some k:=h;rw[eO]
  split at h
  ·have:=iM h;lia
  ·have:=RM op bx room ev ds (b+1) k h;lia
theorem ZP(h:k∈Lf c s ev):k < c.ds.length:=by
 unfold Lf nZ at h;obtain⟨r,hr,rfl⟩:=gU.mp h;have h1:=(mK.mp (mK.mp hr).1).2;obtain⟨k,hk⟩:=Option.isSome_iff_exists.mp h1;rw[hk];show k < _;unfold dI at hk
 split at hk
 ·have:=RM _ _ _ _ _ _ _ hk;rw[bZ]at this;lia
 ·cases hk
theorem Vr(c:jR)(s:S4)(ev:Int):(Lf c s ev).length<=s.os.length:=by
 unfold Lf nZ jF;rw[bZ];exact Nat.le_trans (sJ _ _) (sJ _ _)
structure JOk(c:jR)(J:List Nat->List (List Nat)->Prop):Prop where
 may:∀ os ks,J os ks->∀ d∈c.ds,Lj c d os ks
 pass:∀ k s es s',J s.os s.ks->BW c k s es s'->J s'.os s'.ks
inductive jJ(c:jR)(s:S4):List Nat->List Nat->List En->S4->Prop where
 | nil:jJ c s [] [] [] s
 | skip {ks lf:List Nat} {es:List En} {s1:S4} {k:Nat} {d:Dx}:jJ c s ks lf es s1->c.ds[k]? = some d->inV (.int (d.room:Int)) (aB lf)=true->jJ c s (ks++[k]) lf es s1
 | go {ks lf:List Nat} {es e1:List En} {s1 s2:S4} {k:Nat} {d:Dx}:jJ c s ks lf es s1->c.ds[k]? = some d->inV (.int (d.room:Int)) (aB lf)=false->BW c k s1 e1 s2->jJ c s (ks++[k]) (lf++outs e1) (es++e1) s2
def BV(c:jR)(ev:Int)(s:S4)(es:List En)(s':S4):Prop:=∃ lf e2,jJ c s (Lf c s ev) lf e2 s'/\es = .take ev :: e2
structure All(c:jR)(J:List Nat->List (List Nat)->Prop)(n:Nat):Prop where
 ok:Dz c
 j:JOk c J
 g:∀ d∈c.ds,d.g.ok c.sz.length/\d.g.ht<=n
inductive Hh(C:Addr)(n:Nat)(vs:List V)(H:Hp)(Q:VK)(E_:XK):Prop
 | mk (pc ps p c ev s fp J) (_:vs=[.ref pc,.ref ps,.int ev,.ref p]) (_:uA H pc c) (_:All c J n) (_:cL H ps s) (_:gK c s) (_:J s.os s.ks) (_:LL C H p fp c.lb s.l) (_:∀ t ps' pr rv s' es fp' H',BV c ev s es s'->J s'.os s'.ks->LL C H' p fp' c.lb s'.l->bM H H' fp fp'->H' t=some (.tup [.ref ps',.ref pr])->cL H' ps' s'->gK c s'->H' pr=some (.lst rv)->H pr=none->pr ∉ fp'->Al (iD H') rv es->es.length<=40001->Q (.ref t) H')
theorem dgs(x:Al (uX H) dv ds):Al (W6 H) dv (ds.map Dx.dg):=by
 induction x with
 | nil=>exact .nil
 | cons h _ ih=>
  obtain⟨a,gv,Vi,h1,h2,h3,h4⟩:=h;exact .cons ⟨a,gv,_,_,_,h1,h2,h3⟩ ih
theorem Ui(es:List En):(outs es).length<=es.length:=List.length_filterMap_le _ _
section
theorem lH:aH ["chart","stand","event","letters","now","record","left","door","told"] ["chart","stand","event","letters"] (aC Bp):=fW
theorem Ur(F:dM K "turn" "turn" Bp f fd)
  (Su:Dp P w K mg base aZ m g1 d1 ["chart","stand","event"] (Bb.Eu n) "chosen")
  (Ss:Dp P w K mg base aZ m g2 d2 ["chart","stand","door","letters"] (Ep C) "passed")
  (Dm:Dp P w K mg base aZ m g3 d3 ["record"] PK "rooms_left") :
  aO P w K mg base aZ (m+1) f fd ["chart","stand","event","letters"] (Hh C n):=by
 refine F.ok lH (fun vs H Q E h=>?_) (fun cdv A outer s H vs Q E hr h=>?_)
 ·refine aL fun G_ g_=>?_;obtain⟨pc,ps,p,c,ev,s,fp,J,rfl,_⟩:=h;apply g_;clear g_ G_;rfl
 refine aL fun G_ g_=>?_;obtain⟨pc,ps,p,c,ev,st,fp,J,rfl,hC,al,hS,so,js,hL,q⟩:=h;apply g_;clear g_ G_
 refine⟨_,(zE (zK (i:=4) lH.nd rfl (Or.inl rfl) (pv 1))
  (zE (zK (i:=5) lH.nd rfl (Or.inl rfl) (yK (zA (zW (zA zP (zA (pv 2) zD))) zD)))
  (zE (zK (i:=6) lH.nd rfl (Or.inl rfl) (yK zD))
  (zZ (cU PassesOwn.never rfl (yM (pC Su hr (zA (pv 0) (zA (pv 1) (zA (pv 2) zD))))) (yJ (i:=7) lH.nd rfl (Or.inl rfl))
  (zG (yD (zL lQ (yB zH (yB zH (yB zH (pv 0) zB (fun _ _=>rfl)) (pv 7) (fun _ _=>rfl)) zB (fun _ _=>rfl)) (pv 6) rfl)
  (zE (zK (i:=8) lH.nd rfl (Or.inl rfl) (pC Ss hr (zA (pv 0) (zA (pv 4) (zA (pv 7) (zA (pv 3) zD))))))
  (zE (zK (i:=4) lH.nd rfl (Or.inl rfl) (yB zH (pv 8) zB (fun _ _=>rfl)))
  (zE (yI (fX jl PySem.F.slot_list_extend PySem.F.type_list_extend iY (pv 5) (zA (yB zH (pv 8) zB (fun _ _=>rfl)) zD)))
  (zG (yI (fX jl PySem.F.slot_list_extend PySem.F.type_list_extend iY (pv 6) (zA (pC Dm hr (zA (yB zH (pv 8) zB (fun _ _=>rfl)) zD)) zD)))))))
  zT)))
  (zG (zO (zW (zA (pv 4) (zA (pv 5) zD))))))))),?_⟩
 refine⟨_,rfl,_,rfl,zI (by show 2<=1000;decide),fun p1 hp1=>⟨zI (by show 1<=1000;decide),fun pr hpr=>?_⟩⟩;have u1:=zF hp1 (.tup [V.str ("take" : Str),V.int ev]);have i1:upd H p1 (.tup [V.str ("take" : Str),V.int ev]) p1=some (.tup (En.take ev).row):=zC;generalize upd H p1 (.tup [V.str ("take" : Str),V.int ev])=H1 at u1 i1 hpr ⊢;have Fo:H pr=none:=u1.free hpr;have u2:=zF hpr (.lst [V.ref p1]);have i2:upd H1 pr (.lst [V.ref p1]) pr=some (.lst [V.ref p1]):=zC;generalize upd H1 pr (.lst [V.ref p1])=H2 at u2 i2 ⊢;refine⟨Nat.zero_le _,fun pl hpl=>?_⟩;have npl:H pl=none:=(u1.trans u2).free hpl;have qBF:pr ≠ pl:=zM i2 hpl;have u3:=zF hpl (.lst []);have i3:upd H2 pl (.lst []) pl=some (.lst (aB [])):=zC;generalize upd H2 pl (.lst [])=H3 at u3 i3 ⊢;have s3:=u1.trans (u2.trans u3);refine aL fun G_ g_=>?_;obtain⟨pb,t,pd,x4,bv,dv,h1,h2,h3,h4,h5,h6,h7⟩:=id hC;obtain⟨po,pbx,pk,kv,e1,e2,e3,e4,e5⟩:=id hS;apply g_;clear g_ G_;refine⟨fun σ' Hi => ∃ mL cM rv lf es si o7 o8,σ'=[some (.ref pc),some (.ref ps),some (.int ev),some (.ref p),some (.ref mL),some (.ref pr),some (.ref pl),o7,o8]/\bM H Hi fp cM/\LL C Hi p cM c.lb si.l/\cL Hi mL si/\gK c si/\J si.os si.ks/\jJ c st (Lf c st ev) lf es si/\Hi pr=some (.lst rv)/\pr ∉ cM/\Al (iD Hi) rv (.take ev :: es)/\es.length<=40000,?_,?_⟩
 ·refine⟨_,rfl,_,rfl,_,rfl,pc,ps,t,pd,po,pbx,c.od,st.os,st.bx,c.rs,c.ds.map Dx.dg,dv,_,_,_,_,_,ev,rfl,s3 _ _ h1,h4.mono (aA.of s3),al.ok.good,al.ok.r40,s3 _ _ h6,dgs (h7.mono fun _ _ z=>z.mono (aA.of s3)),s3 _ _ e1,s3 _ _ e2,so.lt,so.inc,s3 _ _ e3,fun d hd=>?_,(by rw[bZ];exact al.ok.d63),fun pq H4 s4 Yb hpq=>?_⟩
  ·refine aL fun G_ g_=>?_;obtain⟨x,hx,rfl⟩:=gU.mp hd;apply g_;clear g_ G_;have:=al.g x hx;rw[so.bx];exact this
  have Bv:=s3.trans s4;have qF7:=LL.new hL (s3.free Yb);have lch:=Vr c st ev;have Sy:=so.Sy;refine⟨pq,rfl,⟨_,aR.of hpq⟩,?_⟩;refine rH (fun i σ' Hi => ∃ mL cM rv lf es si o7 o8,σ'=[some (.ref pc),some (.ref ps),some (.int ev),some (.ref p),some (.ref mL),some (.ref pr),some (.ref pl),o7,o8]/\bM H Hi fp cM/\Hi pq=some (.lst (aB (Lf c st ev)))/\pq ∉ cM/\LL C Hi p cM c.lb si.l/\cL Hi mL si/\gK c si/\J si.os si.ks/\jJ c st ((Lf c st ev).take i) lf es si/\Hi pr=some (.lst rv)/\pr ∉ cM/\Al (iD Hi) rv (.take ev :: es)/\es.length<=1000 * i/\Hi pl=some (.lst (aB lf))/\pl ∉ cM/\lf.length<=1000 * i)
   ⟨ps,fp,_,[],[],st,_,_,rfl,bM.same fp Bv,hpq,qF7,LL.same hL Bv,hS.mono (aA.of Bv),so,js,.nil,s4 _ _ (u3 _ _ i2),LL.new hL Fo,.cons ⟨p1,rfl,s4 _ _ (u3 _ _ (u2 _ _ i1))⟩ .nil,bD _,s4 _ _ i3,LL.new hL npl,bD _⟩ (fun i σ' Hi _ ⟨_,_,_,_,_,_,_,_,_,_,z,_⟩=>aR.of z) ?_ ?_
  ·rintro i x σ' Hi hx bV;refine aL fun G_ g_=>?_;obtain⟨mL,cM,rv,lf,es,si,o7,o8,rfl,Sw,hqi,nqi,hLi,hSi,EY,ji,DR,HH,Ml,ur,lei,hli,nli,llf⟩:=bV;obtain⟨hi,rfl⟩:=yR hx;apply g_;clear g_ G_;have hk:=dX hi;have hkl:=ZP (ig hi)
   have Ec:(Lf c st ev).take (i+1)=(Lf c st ev).take i++[(Lf c st ev)[i]]:=by
    rw[jN,hk];rfl
   generalize (Lf c st ev)[i]=k at Ec hkl;have hd:=dX hkl;have hdm:=ig hkl;generalize c.ds[k]=d at hd hdm;have kt:=bM.keep Sw hL;refine aL fun G_ g_=>?_;obtain⟨v,hv,a,gv,Vi,rfl,y1,y2,y3⟩:=h7.get hd;apply g_;clear g_ G_;refine⟨_,rfl,aF (aJ.of (kt _ _ h1)) rfl ⟨_,rfl,aF (aJ.of (kt _ _ h6)) (yQ hv) (aF (aJ.of (kt _ _ y1)) rfl ⟨_,rfl,gf rfl (.inl (aR.of hli)) ⟨rfl,Af _,_,rfl,jg (fun z=>?_) (fun z=>?_)⟩⟩)⟩⟩
   ·have z2:inV (.int (d.room:Int)) (aB lf)=false:=by
     have:(!inV (.int (d.room:Int)) (aB lf))=true:=z
     simpa using this
    refine⟨_,rfl,_,rfl,_,rfl,_,rfl,pc,mL,p,c,k,_,si,cM,d,rfl,rfl,hC.mono kt,al.ok,hSi,EY,hd,al.j.may _ _ ji d hdm,hLi,fun tt ps2 OJ uQ s2 es2 xZ H5 PR hL5 xn htt hS5 so5 qC6 Ip YZ Wv le2=>?_⟩;have k5:=bM.keep xn hLi;have hr5:=bM.apart xn HH Ml;have hl5:=bM.apart xn hli nli;have hq5:=bM.apart xn hqi nqi;have qER:=bM.trans Sw xn
    have qFA:OJ ≠ pr:=fun z=>by rw[z,HH]at Ip;cases Ip
    have nell:OJ ≠ pl:=fun z=>by rw[z,hli]at Ip;cases Ip
    have qFB:pq ≠ pr:=fun z=>by
     have a1:=Bv pr;rw[<-z]at Fo;have:=s3.free Yb
     exact absurd (s4 _ _ (u3 _ _ i2)) (by
      rw[<-z];intro y;have n3:=Yb;rw[z,u3 _ _ i2]at n3
      cases n3)
    have qFC:pq ≠ pl:=fun z=>by
     have n3:=Yb;rw[z,i3]at n3
     cases n3
    have lA:=ur.length;have lA2:=Wv.length;rw[eO]at lA;refine⟨_,rfl,aF (aJ.of htt) rfl ?_⟩;refine⟨_,rfl,.inl ⟨rfl,_,aR.of hr5.1⟩,_,rfl,aF (aJ.of htt) rfl ⟨pr,OJ,_,_,rfl,rfl,hr5.1,qC6,(by rw[sizeLine_eq];lia),?_⟩⟩;have k6:=aA.lst hr5.1 (.lst (rv++uQ));have Lx:bM H (upd H5 pr (.lst (rv++uQ))) fp xZ:=bM.upd qER Fo _;have hL6:=LL.upd hL5 hr5.2 (.lst (rv++uQ));have r6:upd H5 pr (.lst (rv++uQ)) pr=some (.lst (rv++uQ)):=zC
    have r6b:upd H5 pr (.lst (rv++uQ)) OJ=some (.lst uQ):=by
     rw[zQ qFA];exact qC6
    have r6l:upd H5 pr (.lst (rv++uQ)) pl=some (.lst (aB lf)):=by
     rw[zQ qBF.symm];exact hl5.1
    have r6q:upd H5 pr (.lst (rv++uQ)) pq=some (.lst (aB (Lf c st ev))):=by
     rw[zQ qFB];exact hq5.1
    generalize upd H5 pr (.lst (rv++uQ))=H6 at k6 Lx hL6 r6 r6b r6l r6q ⊢;refine⟨_,rfl,.inl ⟨rfl,_,aR.of r6l⟩,_,rfl,aF (aJ.of (k6 _ _ htt)) rfl ⟨OJ,uQ,es2,rfl,r6b,Wv.mono (fun _ _ z=>z.mono k6),le2,fun po7 H7 s7 npo7 qFW=>?_⟩⟩;have lo:=Ui es2;refine⟨pl,po7,_,_,rfl,rfl,s7 _ _ r6l,qFW,(by rw[zU,zU,sizeLine_eq];lia),?_⟩;have k8:=aA.lst (s7 _ _ r6l) (.lst (aB lf++aB (outs es2)));have GQ:=k6.trans ((aA.of s7).trans k8);refine⟨ps2,xZ,rv++uQ,lf++outs es2,es++es2,s2,_,_,rfl,bM.upd (bM.trans Lx (bM.same xZ s7)) npl _,?_,hq5.2,LL.upd (LL.same hL6 s7) hl5.2 _,hS5.mono GQ,so5,al.j.pass k si es2 s2 ji PR,?_,?_,hr5.2,Al.app (ur.mono fun _ _ z=>z.mono (k5.trans GQ)) (Wv.mono fun _ _ z=>z.mono GQ),by rw[dN];lia,?_,hl5.2,by rw[dN];lia⟩
    ·rw[zQ qFC];exact s7 _ _ r6q
    ·rw[Ec];exact .go DR hd z2 PR
    ·rw[zQ qBF];exact s7 _ _ r6
    ·rw[zC];unfold aB;rw[jn]
   ·have z2:inV (.int (d.room:Int)) (aB lf)=true:=by
     have:(!inV (.int (d.room:Int)) (aB lf))=false:=z
     simpa using this
    refine⟨mL,cM,rv,lf,es,si,_,_,rfl,Sw,hqi,nqi,hLi,hSi,EY,ji,?_,HH,Ml,ur,by lia,hli,nli,by lia⟩;rw[Ec];exact .skip DR hd z2
  ·rintro σ' Hi bV;refine aL fun G_ g_=>?_;obtain⟨mL,cM,rv,lf,es,si,o7,o8,z1,z2,_,_,z3,z4,z5,z6,z7,z8,z9,z10,z11,_⟩:=bV;apply g_;clear g_ G_;rw[zU]at z7 z11;rw[List.take_length]at z7;exact⟨mL,cM,rv,lf,es,si,o7,o8,z1,z2,z3,z4,z5,z6,z7,z8,z9,z10,by lia⟩
 rintro σ' Hi bV;refine aL fun G_ g_=>?_;obtain⟨mL,cM,rv,lf,es,si,o7,o8,rfl,Sw,hLi,hSi,EY,ji,DR,HH,Ml,ur,lei⟩:=bV;apply g_;clear g_ G_;refine⟨_,rfl,_,rfl,zI (by show 2<=1000;decide),fun tt htt=>?_⟩;have u9:=zF htt (.tup [V.ref mL,V.ref pr]);exact q tt mL pr rv si _ cM _ ⟨lf,es,DR,rfl⟩ ji (LL.same hLi u9) (bM.trans Sw (bM.same cM u9)) zC (hSi.mono (aA.of u9)) EY (u9 _ _ HH) Fo Ml (ur.mono fun _ _ z=>z.mono (aA.of u9)) (by rw[eO];lia)
end
end Ru
namespace Ru
open PySem L2 mC ou xT O5 Dl jP
open Bb (Al)
structure Jw(c:jR)(os:List Nat)(ks:List (List Nat)):Prop where
 inc:os.Pairwise (· < ·)
 lt:∀ o∈os,o < c.rs.length
 len:ks.length=c.rs.length
 row:∀ r∈ks,(∀ g∈r,g < c.rs.length)/\r.length<=40
theorem Mv{rs:List Rm}{os:List Nat}{r g:Nat}(h:g∈kh rs os r):g∈os:=by
 unfold kh fL at h
 split at h
 ·exact (mK.mp (List.mem_of_mem_take h)).1
 ·exact (mK.mp (mK.mp h).1).1
theorem Mw(rs:List Rm)(os:List Nat)(r:Nat):(kh rs os r).length<=os.length:=by
 unfold kh fL;have:=sJ (fun o=>Tr.bL (aD rs) o r) os
 split
 ·rw[jc];lia
 ·exact Nat.le_trans (sJ _ _) this
theorem GK{rs:List Rm}{os:List Nat}:∀ ls ks r,r∈bH rs os ls ks->r∈ks ∨ ∃ x,r=kh rs os x
 | [],ks,r,h=>.inl h
 | x :: ls,ks,r,h=>by
  have h:r∈bH rs os ls (if cX rs x=("" : Str) then ks else ks.set x (kh rs os x)):=h;rcases GK ls _ r h with h | h
  ·split at h
   ·exact .inl h
   ·rcases List.mem_or_eq_of_mem_set h with h | h
    ·exact .inl h
    ·exact .inr ⟨x,h⟩
  ·exact .inr h
section
variable{c:jR}{os:List Nat}{ks:List (List Nat)}
theorem Jw.qF4(j:Jw c os ks)(ok:Dz c):os.length<=40:=Nat.le_trans (Tr.nA _ _ (Tr.gF j.inc) j.lt) ok.r40
theorem Jw.kept(j:Jw c os ks)(ok:Dz c)(d:Dx):(nR c d os ks).length=c.rs.length/\∀ r∈nR c d os ks,(∀ g∈r,g < c.rs.length)/\r.length<=40:=by
 unfold nR
 split
 ·exact⟨j.len,j.row⟩
 ·refine⟨by rw[qy];exact j.len,fun r hr=>?_⟩;rcases GK _ _ r hr with h | ⟨x,rfl⟩
  ·exact j.row r h
  ·exact⟨fun g hg=>j.lt g (Mv hg),Nat.le_trans (Mw _ _ _) (j.qF4 ok)⟩
theorem RC(w:Wy)(ks:List (List Nat))(hw:w.gl < n)(hk:∀ r∈ks,(∀ g∈r,g < n)/\r.length<=40):(∀ g∈jY w ks,g < n)/\(jY w ks).length<=100:=by
 cases w with
 | to g=>exact⟨fun x hx=>by rw[bf.mp hx];exact hw,by show 1<=100;decide⟩
 | stay=>exact⟨(fun x hx=>by cases hx),by show 0<=100;decide⟩
 | back g=>
  show (∀ x∈(if ks.getD g []=[] then [g] else ks.getD g []),x < n)/\(if ks.getD g []=[] then [g] else ks.getD g []).length<=100
  split
  ·exact⟨fun x hx=>by rw[bf.mp hx];exact hw,by show 1<=100;decide⟩
  ·rename_i z
   by_cases q:g < ks.length
   ·have e:ks.getD g []=ks[g]:=by rw[v7,dX q];rfl
    have:=hk _ (ig q);rw[e];exact⟨this.1,by lia⟩
   ·exact absurd (by rw[v7,List.getElem?_eq_none (by lia)];rfl) z
theorem vD(h:k∈cZ c d os):k∈os/\k ∉ bO c d os:=by
 unfold cZ at h;obtain⟨h1,h2⟩:=mK.mp h;rw[Lk.VG]at h2;exact⟨h1,by simpa using h2⟩
theorem Mz(h:tW c d ks ms)(hk:k∈cZ c d os):k ∉ ms:=by
 intro hm;obtain⟨h1,h2⟩:=vD hk;unfold tW at h
 split at h
 ·rw[h]at hm
  cases hm
 ·rename_i z
  refine h2 ?_;unfold bO;rw[if_neg z];unfold Lk.lO;rw[List.mem_reverse,mK];refine⟨h1,?_⟩;have:=((h.2 k).mp hm).under
  cases hh:qC c d with
  | none=>rfl
  | some u=>
   rw[hh]at this;exact this
theorem Qz(h:tW c d ks ms):ms.Pairwise (· < ·):=by
 unfold tW at h
 split at h
 ·rw[h];exact .nil
 ·exact h.1
theorem R0(ok:Dz c)(h:tW c d ks ms):∀ k∈ms,k < c.rs.length:=by
 intro k hk;unfold tW at h
 split at h
 ·rw[h]at hk
  cases hk
 ·have:=((h.2 k).mp hk).lt (by have:=ok.good.pos;lia);rw[yV]at this;exact this
theorem VF(h1:tW c d ks a)(h2:tW c d ks b):a=b:=by
 unfold tW at h1 h2
 split at h1
 ·rename_i z
  rw[if_pos z]at h2;rw[h1,h2]
 ·rename_i z
  rw[if_neg z]at h2;exact h1.unique h2
theorem wide(ok:Dz c):JOk c (Jw c) where
 may:=fun os ks j d hd=>by
  have jk:=j.kept ok d;have g:=RC d.way _ (ok.door d hd).2.1 jk.2;refine⟨g.1,g.2,fun ms hms=>?_⟩;have ml:=R0 ok hms;have sl:∀ k∈cZ c d os,k < c.rs.length:=fun k hk=>j.lt k (vD hk).1;have nd:=List.nodup_append.mpr ⟨Tr.gF (j.inc.filter _),Tr.gF (Qz hms),fun a ha b hb e=>Mz hms ha (by rw[e];exact hb)⟩;refine⟨nd,Nat.le_trans (Tr.nA _ _ nd fun k hk=>?_) ok.r40,ml⟩;rcases eG.mp hk with h | h
  ·exact sl k h
  ·exact ml k h
 pass:=fun k s es s' j ⟨d,ms,hd,hms,perm,rise,eks,_⟩=>by
  have jk:=j.kept ok d;refine⟨rise,fun o ho=>?_,by rw[eks];exact jk.1,by rw[eks];exact jk.2⟩;rcases eG.mp (perm.mem_iff.mp ho) with h | h
  ·exact j.lt o (vD h).1
  ·exact R0 ok hms o h
theorem QG(h1:BW c k s e1 s1)(h2:BW c k s e2 s2):e1=e2/\s1=s2:=by
 obtain⟨d,ms,hd,hm,p1,r1,k1,q1⟩:=h1;obtain⟨d',xY,hd',hm',p2,r2,k2,q2⟩:=h2;obtain rfl:d=d':=iM (hd.symm.trans hd');obtain rfl:=VF hm hm'
 have eo:=gY _ _ r1 r2 fun k=>by rw[p1.mem_iff,p2.mem_iff]
 have eq:=q1.trans q2.symm;obtain⟨o1,b1,x1,l1⟩:=s1;obtain⟨o2,b2,x2,l2⟩:=s2
 cases k1
 cases k2
 cases eo
 cases eq
 exact⟨rfl,rfl⟩
theorem Nj{ks lf:List Nat}{es:List En}{s1:S4}(h1:jJ c s ks lf es s1):∀ {ks' Zu:List Nat} {es':List En} {Sx:S4},jJ c s ks' Zu es' Sx->ks=ks'->lf=Zu/\es=es'/\s1=Sx:=by
 induction h1 with
 | nil=>
  intro ks' Zu es' Sx h2 e
  cases h2 with
  | nil=>exact⟨rfl,rfl,rfl⟩
  | skip h hd hi=>exact absurd e.symm (by simp)
  | go h hd hi hp=>exact absurd e.symm (by simp)
 | @skip ks lf es s1 k d h hd hi ih=>
  intro ks' Zu es' Sx h2 e
  cases h2 with
  | nil=>exact absurd e (by simp)
  | @skip ks2 _ _ _ k2 d2 h' hd' hi'=>
   obtain⟨ea,eb⟩:=List.append_inj' e rfl;exact ih h' ea
  | @go ks2 lf2 es2 e2 s2 s3 k2 d2 h' hd' hi' hp'=>
   obtain⟨ea,eb⟩:=List.append_inj' e rfl;obtain⟨rfl,rfl,rfl⟩:=ih h' ea
   cases eb
   obtain rfl:=iM (hd.symm.trans hd');rw[hi]at hi'
   cases hi'
 | @go ks lf es e1 s1 s2 k d h hd hi hp ih=>
  intro ks' Zu es' Sx h2 e
  cases h2 with
  | nil=>exact absurd e (by simp)
  | @skip ks2 _ _ _ k2 d2 h' hd' hi'=>
   obtain⟨ea,eb⟩:=List.append_inj' e rfl;obtain⟨rfl,rfl,rfl⟩:=ih h' ea
   cases eb
   obtain rfl:=iM (hd.symm.trans hd');rw[hi]at hi'
   cases hi'
  | @go ks2 lf2 es2 e2 s2 s3 k2 d2 h' hd' hi' hp'=>
   obtain⟨ea,eb⟩:=List.append_inj' e rfl;obtain⟨rfl,rfl,rfl⟩:=ih h' ea
   cases eb
   obtain⟨rfl,rfl⟩:=QG hp hp';exact⟨rfl,rfl,rfl⟩
theorem Ei(h1:BV c ev s e1 s1)(h2:BV c ev s e2 s2):e1=e2/\s1=s2:=by
 obtain⟨lf,x,d1,rfl⟩:=h1;obtain⟨Zu,x',d2,rfl⟩:=h2;obtain⟨_,rfl,rfl⟩:=Nj d1 d2 rfl;exact⟨rfl,rfl⟩
end
structure Oe(nb:Nat)(H:Hp)(rv:List V)(rs:List Rm)(dis yl:List (List Dd)):Prop where
 inn:iB H rv rs
 l1:dis.length=rs.length
 l2:yl.length=rs.length
 dd:W0 H rs (fun k=>dis.getD k []) (fun k=>yl.getD k [])
 say:∀ k:Nat,((∀ d∈dis.getD k [],d.ok nb)/\(dis.getD k []).length<=8)/\(∀ d∈yl.getD k [],d.ok nb)/\(yl.getD k []).length<=8
theorem Oe.mono(x:Oe nb H rv rs dis yl)(k:aA H H'):Oe nb H' rv rs dis yl:=⟨x.inn.mono k,x.l1,x.l2,x.dd.mono k,x.say⟩
theorem Oe.nil(H:Hp):Oe nb H [] [] [] []:=⟨.nil,rfl,rfl,(fun k r h=>by simp at h),fun k=>⟨⟨(fun d h=>by simp at h),by simp⟩,(fun d h=>by simp at h),by simp⟩⟩
theorem getD_snoc(l:List α)(x d:α)(k:Nat):(l++[x]).getD k d=if k < l.length then l.getD k d else if k=l.length then x else d:=by
 rw[v7]
 by_cases h:k < l.length
 ·rw[if_pos h,Lp h,v7]
 ·rw[if_neg h]
  by_cases h2:k=l.length
  ·rw[if_pos h2,h2,Tc (bD _),Nat.sub_self];rfl
  ·rw[if_neg h2,List.getElem?_eq_none (by rw[dN,iG];lia)];rfl
theorem Oe.snoc(x:Oe nb H rv rs dis yl)(hr:Jb H v r)(h1:oA H r.ins di)(h2:oA H r.outs dO)
  (s1:(∀ d∈di,d.ok nb)/\di.length<=8) (s2:(∀ d∈dO,d.ok nb)/\dO.length<=8):Oe nb H (rv++[v]) (rs++[r]) (dis++[di]) (yl++[dO]):=by
 have a1:=x.l1;have a2:=x.l2;refine⟨x.inn.snoc hr,by rw[dN,dN,a1];rfl,by rw[dN,dN,a2];rfl,fun k q h=>?_,fun k=>?_⟩
 ·show oA H q.ins ((dis++[di]).getD k [])/\oA H q.outs ((yl++[dO]).getD k [])
  by_cases z:k < rs.length
  ·rw[Lp z]at h;rw[getD_snoc,getD_snoc,if_pos (show k < dis.length by lia),if_pos (show k < yl.length by lia)];exact x.dd k q h
  ·have hk:=(jM.mp h).1;rw[dN,iG]at hk
   have z2:k=rs.length:=by lia
   subst z2;rw[Tc (bD _),Nat.sub_self]at h;obtain rfl:=iM h;rw[getD_snoc,getD_snoc,if_neg (by lia),if_pos (by lia),if_neg (by lia),if_pos (by lia)];exact⟨h1,h2⟩
 ·rw[getD_snoc,getD_snoc];have xs:=x.say k;have no:((∀ d∈([]:List Dd),d.ok nb)/\([]:List Dd).length<=8):=⟨(fun d h=>by cases h),by decide⟩;refine⟨?_,?_⟩
  ·split
   ·exact xs.1
   ·split
    ·exact s1
    ·exact no
  ·split
   ·exact xs.2
   ·split
    ·exact s2
    ·exact no
end Ru
namespace pA
open PySem L2 mC ou xT Dl
theorem vB{zs:List Str}{i:Int}(h0:0<=i)(h1:i < (zs.length:Int)):∃ z∈zs,uO (zs.map V.str) i=some (.str z):=by
 obtain⟨v,hv,e⟩:=jE (xs:=zs.map V.str) (i:=i) h0 (by rw[bZ];exact h1);obtain⟨z,hz,rfl⟩:=gU.mp hv;exact⟨z,hz,e⟩
def lg(H:Hp)(ps:Addr)(sz:List Int):Prop:=H ps=some (.lst (sz.map V.int))/\(∀ z∈sz,0 < z)/\sz.length<=6
theorem lg.mono(h:lg H ps sz)(s:aG H H'):lg H' ps sz:=⟨s _ _ h.1,h.2⟩
def Low(ds:List Int):Prop:=∀ k,k < ds.length->ds.getD k 0<=4
end pA
namespace pA
open PySem L2 mC ou xT Dl Bb
open Ru (Wy Dx uX oA)
noncomputable def gV:Option Int->V
 | none=>.non
 | some j=>.int j
def Ja(n:Nat)(wy:Str)(g:Option Int):Prop:=(wy=("stay" : Str)/\g=none) ∨ ((wy=("to" : Str) ∨ wy=("back" : Str))/\∃ j:Int,g=some j/\0<=j/\j < (n:Int))
def XS(n nb:Nat)(d:Dx):Prop:=d.room < n/\d.way.gl < n/\d.g.ok nb/\d.g.ht<=3/\(∀ x∈d.dd,x.ok nb)/\d.dd.length<=8
theorem Ja.wy(h:Ja n w g)(n0:0 < n):∃ y:Wy,y.tx=w/\y.gv=gV g/\y.gl < n:=by
 rcases h with ⟨rfl,rfl⟩ | ⟨h,j,rfl,j0,j1⟩
 ·exact⟨.stay,rfl,rfl,n0⟩
 ·have e:((j.toNat:Nat):Int)=j:=Int.toNat_of_nonneg j0;rcases h with rfl | rfl
  ·exact⟨.to j.toNat,rfl,by show V.int ((j.toNat:Nat):Int)=V.int j;rw[e],by show j.toNat < n;lia⟩
  ·exact⟨.back j.toNat,rfl,by show V.int ((j.toNat:Nat):Int)=V.int j;rw[e],by show j.toNat < n;lia⟩
end pA
namespace pA
open PySem L2 mC ou xT Dl Bb
open Ru (Wy Dx uX oA jR uA Dz W0)
theorem int_at{zs:List Int}{i:Int}(h0:0<=i)(h1:i < (zs.length:Int)):∃ z∈zs,uO (zs.map V.int) i=some (.int z):=by
 obtain⟨v,hv,e⟩:=jE (xs:=zs.map V.int) (i:=i) h0 (by rw[bZ];exact h1);obtain⟨z,hz,rfl⟩:=gU.mp hv;exact⟨z,hz,e⟩
def Jm(H:Hp)(v:V)(z:Int × Int):Prop:=∃ a nm,v = .ref a/\H a=some (.tup [.str nm,.int z.1,.int z.2])
theorem Jm.mono(x:Jm H v r)(k:aA H H'):Jm H' v r:=by
 obtain⟨a,nm,e,h⟩:=x;exact⟨a,nm,e,k _ _ h⟩
theorem XD(x:Al (Jm H) vs bs):Al (Ru.OD H) vs (bs.map (·.1)):=by
 induction x with
 | nil=>exact .nil
 | cons h _ ih=>
  obtain⟨a,nm,e,h⟩:=h;exact .cons ⟨a,_,_,e,h⟩ ih
def Ln(H:Hp)(p:Addr)(c:jR)(bs:List (Int × Int))(ne:Nat):Prop:=∃ pb pn t pd bv nv rv dv,H p=some (.tup [.str c.od,.int (c.lb:Int),.int (c.tn:Int),.ref pb,.ref pn,.ref t,.ref pd])/\H pb=some (.tup bv)/\Al (Jm H) bv bs/\H pn=some (.tup nv)/\nv.length=ne/\H t=some (.tup rv)/\iB H rv c.rs/\W0 H c.rs c.di c.dO/\H pd=some (.tup dv)/\Al (uX H) dv c.ds
theorem Ln.mono(x:Ln H p c bs ne)(k:aA H H'):Ln H' p c bs ne:=by
 obtain⟨pb,pn,t,pd,bv,nv,rv,dv,h1,h2,h3,h4,h5,h6,h7,h8,h9,h10⟩:=x;exact⟨pb,pn,t,pd,bv,nv,rv,dv,k _ _ h1,k _ _ h2,h3.mono fun _ _ z=>z.mono k,k _ _ h4,h5,k _ _ h6,h7.mono k,h8.mono k,k _ _ h9,h10.mono fun _ _ z=>z.mono k⟩
structure oG(c:jR)(bs:List (Int × Int)):Prop where
 ok:Dz c
 sz:c.sz=bs.map (·.1)
 st:∀ b∈bs,0<=b.2/\b.2 < b.1
 fit:Fit c.rs
 low:Low (aD c.rs)
 l10:c.rs.length<=10
 g:∀ d∈c.ds,d.g.ok c.sz.length/\d.g.ht<=3
 l5:c.lb<=5
 t4:1<=c.tn/\c.tn<=5
theorem Ln.ch(x:Ln H p c bs ne)(o:oG c bs):uA H p c:=by
 obtain⟨pb,pn,t,pd,bv,nv,rv,dv,h1,h2,h3,h4,h5,h6,h7,h8,h9,h10⟩:=x;exact⟨pb,t,pd,_,bv,dv,h1,h2,by rw[o.sz];exact XD h3,⟨rv,h6,h7⟩,h8,h9,h10⟩
end pA
namespace pA
open PySem L2 mC ou xT Dl
inductive Jv(vs:List V)(H:Hp)(Q:VK)(E_:XK):Prop
 | mk (n e:Int) (ps:Addr) (sz:List Int) (_:vs=[.int n,.ref ps,.int e]) (_:0<=n) (_:lg H ps sz) (_:0 < sz.length) (_:0 < e) (_:∀ v d H',aG H H'->tX H' v d->d.ok sz.length->Q v H')
section
theorem jT:aH ["_law_number","_law_sizes","_law_events","_law_some"] ["_law_number","_law_sizes","_law_events"] (aC eY):=fW
theorem mod_lt{sz:List Int}(h:0 < sz.length)(x:Int):0<=x % (((sz.map V.int).length:Nat):Int)/\x % (((sz.map V.int).length:Nat):Int) < (sz.length:Int):=by
 rw[bZ];exact⟨HR _ (by lia),HQ _ (by lia)⟩
theorem yX(F:dM K "_law_small_deed" "_law_small_deed" eY f fd)(aU:mg "len" = none):aO P w K mg base aZ 1 f fd ["_law_number","_law_sizes","_law_events"] Jv:=by
 refine F.ok jT (fun vs H Q E h=>?_) (fun cdv A outer s H vs Q E hr h=>?_)
 ·obtain⟨n,e,ps,sz,rfl,_⟩:=h;rfl
 obtain⟨n,e,ps,sz,rfl,n0,hz,z0,e0,q⟩:=h
 refine⟨_,(zE (zK (i:=3) jT.nd rfl (Or.inl rfl) (yC yL (pv 0) zB))
  (zE (yD (zL j5 (yC zY (pv 0) zB) zB (zR _))
  (zG (zO (zW (zA zP (zA (yC zY (pv 3) (zS zN rfl aU bh (zA (pv 1) zD))) (zA (yB yU (yK (zA zB (zA zB (zA (qu lE zB) (zA zB zD))))) (yC zY (yC yL (pv 3) zB) zB) (fun _ _=>rfl)) zD))))))
  zT)
  (zE (yD (zL yG (yC zY (pv 0) zB) zB (zR _))
  (zG (zO (zW (zA zP (zA (yC zY (pv 3) (zS zN rfl aU bh (zA (pv 1) zD))) (zA (yC zY (yC yL (pv 3) zB) (yB yU (pv 1) (yC zY (pv 3) (zS zN rfl aU bh (zA (pv 1) zD))) (fun _ _=>rfl))) zD))))))
  zT)
  (zE (yD (zL j5 (yC zY (pv 0) zB) zB (zR _))
  (zG (zO (zW (zA zP (zA (yC zY (pv 3) (pv 2)) zD)))))
  zT)
  (zG (zO (zW (zA zP (zA (yB yU (yK (zA zP (zA zP (zA zP zD)))) (yC zY (pv 3) zB) (fun _ _=>rfl)) zD))))))))),?_⟩
 have hl:(sz.map V.int).length=sz.length:=bZ _
 have l0:(0:Int) < (((sz.map V.int).length:Nat):Int):=by lia
 have mk3:3<=1000:=by decide
 refine⟨_,rfl,bF ⟨⟨by decide,by decide⟩,?_⟩⟩;refine⟨_,rfl,bF ⟨(by show (0:Int) < 8;decide),bF ⟨_,rfl,jg (fun c=>?_) (fun c=>?_)⟩⟩⟩
 ·refine⟨_,rfl,_,rfl,gf rfl (.inl (aR.of hz.1)) (bF ⟨l0,?_⟩)⟩;obtain⟨v,hv,hat⟩:=int_at (zs:=[1,1,-1,2]) (i:=n / 8 / 3 % 4) (by lia) (by show _ < (4:Int);lia);exact⟨_,rfl,zI (by show 4<=1000;decide),fun p0 hp0=>⟨_,rfl,bF ⟨⟨by decide,by decide⟩,bF ⟨(by show (0:Int) < 4;decide),bQ (aR.of zC) hat ⟨zI (by show 3<=1000;decide),fun p hp=>q _ (.add _ v) _ ((zF hp0 _).trans (zF hp _)) (.add zC) (fun b hb=>by cases hb;exact mod_lt z0 _)⟩⟩⟩⟩⟩
 refine⟨_,rfl,bF ⟨(by show (0:Int) < 8;decide),rfl,_,rfl,jg (fun c=>?_) (fun c=>?_)⟩⟩
 ·obtain⟨vz,hvz,qG3⟩:=jE (xs:=sz.map V.int) (i:=n / 8 % (((sz.map V.int).length:Nat):Int)) (mod_lt z0 _).1 (by rw[hl];have:=(mod_lt z0 (n / 8)).2;rw[hl]at this;exact this);obtain⟨z,hzm,rfl⟩:=gU.mp hvz;exact⟨_,rfl,_,rfl,gf rfl (.inl (aR.of hz.1)) (bF ⟨l0,_,rfl,bF ⟨⟨by decide,by decide⟩,_,rfl,_,rfl,_,rfl,gf rfl (.inl (aR.of hz.1)) (bF ⟨l0,bQ (aR.of hz.1) qG3 (bF ⟨(by show (0:Int) < z;exact hz.2.1 z hzm),zI (by show 3<=1000;decide),fun p hp=>q _ (.set _ _) _ (zF hp _) (.set zC) (fun b hb=>by cases hb;exact mod_lt z0 _)⟩)⟩)⟩⟩)⟩
 refine⟨_,rfl,bF ⟨(by show (0:Int) < 8;decide),bF ⟨_,rfl,jg (fun c=>?_) (fun c=>?_)⟩⟩⟩
 ·exact⟨_,rfl,_,rfl,bF ⟨(by show (0:Int) < e;exact e0),zI (by show 2<=1000;decide),fun p hp=>q _ (.send _) _ (zF hp _) (.send zC) (fun b hb=>by cases hb)⟩⟩
 ·obtain⟨v,hv,hat⟩:=vB (zs:=["tick","tock","chime"]) (i:=n / 8 % 3) (by lia) (by show _ < (3:Int);lia);exact⟨zI (by show 3<=1000;decide),fun p0 hp0=>⟨_,rfl,bF ⟨(by show (0:Int) < 3;decide),bQ (aR.of zC) hat ⟨zI (by show 2<=1000;decide),fun p hp=>q _ (.say _) _ ((zF hp0 _).trans (zF hp _)) (.say zC) (fun b hb=>by cases hb)⟩⟩⟩⟩
end
inductive Em(K:bj)(vs:List V)(H:Hp)(Q:VK)(E_:XK):Prop
 | mk (a ps:Addr) (ns sz:List Int) (k salt e:Int) (_:vs=[.ref a,.int k,.int salt,.ref ps,.int e]) (_:aR K H a (ns.map V.int)) (_:ns.length<=63) (_:0<=k/\k<=1000) (_:0<=salt/\salt<=100) (_:lg H ps sz) (_:0 < sz.length) (_:0 < e) (_:∀(v:V)(ds:List Dd)(H':Hp),aG H H'->Ru.oA H' v ds->(∀ d∈ds,d.ok sz.length)->ds.length<=8->Q v H')
section
theorem du:aH ["_law_script","_law_k","_law_salt","_law_sizes","_law_events","_law_number","_law_many"] ["_law_script","_law_k","_law_salt","_law_sizes","_law_events"] (aC cQ):=fW
theorem wJ(F:dM K "_law_small_deeds" "_law_small_deeds" cQ f fd)
  (aP:Dp P w K mg base aZ 2 gm dm ["_law_script","_law_k","_law_salt"] (qR K) "_law_mixed")
  (tZ:Dp P w K mg base aZ 2 gd dd ["_law_number","_law_sizes","_law_events"] Jv "_law_small_deed")
  (au:mg "range" = none) (aW:mg "tuple" = none):aO P w K mg base aZ 3 f fd ["_law_script","_law_k","_law_salt","_law_sizes","_law_events"] (Em K):=by
 refine F.ok du (fun vs H Q E h=>?_) (fun cdv A outer s H vs Q E hr h=>?_)
 ·obtain⟨a,ps,ns,sz,k,salt,e,rfl,_⟩:=h;rfl
 obtain⟨a,ps,ns,sz,k,salt,e,rfl,hS,h63,⟨k0,k1⟩,⟨t0,t1⟩,hz,z0,e0,q⟩:=h
 refine⟨_,(zE (zK (i:=5) du.nd rfl (Or.inl rfl) (pC aP hr (zA (pv 0) (zA (pv 1) (zA (pv 2) zD)))))
  (zE (zK (i:=6) du.nd rfl (Or.inl rfl) (yB yU (yK (zA zB (zA zB (zA zB (zA zB zD))))) (yC zY (pv 5) zB) (fun _ _=>rfl)))
  (zG (zO (yA zX rfl aW lD (zA (yT (aY:=[(3,"_law_sizes"),(4,"_law_events"),(0,"_law_script"),(1,"_law_k"),(2,"_law_salt")]) rfl (show bJ (aC cQ) ["_law_script","_law_k","_law_salt","_law_sizes","_law_events","_law_number","_law_many"] _ _ _ from ym) (bu rfl au (zA (pv 6) zD)) (fun _ _ _ _ _ _=>cD) (fun _ _ _ _ _ _=>(pC tZ hr (zA (pC aP hr (zA (pv 3) (zA (pv 4) (zA (yC yF (yC yF (pv 5) zB) (pv 0)) zD)))) (zA (pv 1) (zA (pv 2) zD)))))) zD)))))),?_⟩
 refine⟨_,rfl,_,rfl,_,rfl,a,ns,_,_,rfl,hS,h63,⟨by lia,by lia⟩,⟨by lia,by lia⟩,fun x x0 x1=>?_⟩
 obtain⟨m,hm,hat⟩:∃ m:Nat,m<=2/\uO [V.int 0,V.int 1,V.int 1,V.int 2] (x % 4)=some (.int (m:Int)):=by
  obtain⟨o,ho,e⟩:=Qi (os:=[0,1,1,2]) (i:=x % 4) (by lia) (by show _ < (4:Int);lia);refine⟨o,?_,e⟩;simp only[List.mem_cons,List.not_mem_nil,or_false]at ho;lia
 refine⟨zI (by show 4<=1000;decide),fun p0 hp0=>⟨_,rfl,bF ⟨(by show (0:Int) < 4;decide),bQ (aR.of zC) hat ?_⟩⟩⟩;have s1:=zF hp0 (.lst [V.int 0,V.int 1,V.int 1,V.int 2]);generalize upd H p0 (.lst [V.int 0,V.int 1,V.int 1,V.int 2])=H1 at s1 ⊢;refine⟨_,rfl,_,rfl,by lia,by lia,?_⟩;refine jC (fun i acc H'=>∃ ds,aG H H'/\iK H' acc ds/\(∀ d∈ds,d.ok sz.length)/\ds.length<=i) ⟨[],s1,.nil,(fun d h=>by cases h),bD _⟩ ?_ ?_
 ·rintro i acc H3 hi ⟨ds,s3,hD,ok,l⟩;have lx2:=hD.length;refine⟨_,rfl,_,rfl,_,rfl,bF ⟨_,rfl,bF ⟨a,ns,_,_,rfl,s3.seq hS,h63,⟨by lia,by lia⟩,⟨by lia,by lia⟩,fun y y0 y1=>?_⟩⟩⟩;refine⟨_,rfl,_,rfl,y,e,ps,sz,rfl,y0,hz.mono s3,z0,e0,fun v d H4 s4 hd okd=>⟨zV (by lia),ds++[d],s3.trans s4,(hD.mono (aA.of s4)).snoc hd,fun x hx=>?_,by rw[dN,iG];lia⟩⟩;rcases eG.mp hx with hx | hx
  ·exact ok x hx
  ·rw[bf.mp hx];exact okd
 ·rintro acc H3 ⟨ds,s3,hD,ok,l⟩ pl hpl;exact⟨pl,_,rfl,.inl ⟨aR.of zC,fun p hp=>q _ ds _ (s3.trans ((zF hpl _).trans (zF hp _))) ⟨p,acc,rfl,zC,hD.mono ((aA.new hpl _).trans (aA.new hp _))⟩ ok (by lia)⟩⟩
end
inductive El(vs:List V)(H:Hp)(Q:VK)(E_:XK):Prop
 | mk (n r:Int) (ps:Addr) (sz:List Int) (_:vs=[.int n,.ref ps,.int r]) (_:0<=n) (_:lg H ps sz) (_:0 < sz.length) (_:0 < r) (_:∀ v g H',aG H H'->jh H' v g->g.ok sz.length->g.ht<=3->Q v H')
section
theorem aj:aH ["_law_number","_law_sizes","_law_rooms","_law_some","_law_guard"] ["_law_number","_law_sizes","_law_rooms"] (aC dZ):=fW
def W5(n r:Int)(ps:Addr)(sz:List Int)(h:Nat)(H:Hp)(σ':St)(H':Hp):Prop:=∃ v g,aG H H'/\jh H' v g/\g.ok sz.length/\g.ht<=h/\σ'=[some (.int n),some (.ref ps),some (.int r),some (.int (n / 7)),some v]
theorem wI(F:dM K "_law_small_guard" "_law_small_guard" dZ f fd)(aU:mg "len" = none):aO P w K mg base aZ 1 f fd ["_law_number","_law_sizes","_law_rooms"] El:=by
 refine F.ok aj (fun vs H Q E h=>?_) (fun cdv A outer s H vs Q E hr h=>?_)
 ·obtain⟨n,e,ps,sz,rfl,_⟩:=h;rfl
 obtain⟨n,r,ps,sz,rfl,n0,hz,z0,r0,q⟩:=h
 refine⟨_,(zE (zK (i:=3) aj.nd rfl (Or.inl rfl) (yC yL (pv 0) zB))
  (zE (zK (i:=4) aj.nd rfl (Or.inl rfl) (zW (zA zP zD)))
  (zZ (yD (cC (PW.pt (pw_or (zL yG (yC zY (pv 0) zB) zB (zR _)) (pw_or1 (zL yG (yC zY (pv 0) zB) zB (zR _))))))
  (zG (zK (i:=4) aj.nd rfl (Or.inl rfl) (zW (zA zP (zA (yC zY (pv 3) (zS zN rfl aU bh (zA (pv 1) zD))) (zA (yC yF zB (yC zY (yC yL (pv 3) zB) zB)) zD))))))
  zT)
  (zZ (yD (zL yG (yC zY (pv 0) zB) zB (zR _))
  (zG (zK (i:=4) aj.nd rfl (Or.inl rfl) (zW (zA zP (zA (yC zY (pv 3) (zS zN rfl aU bh (zA (pv 1) zD))) (zA (yC zY (yC yL (pv 3) zB) zB) zD))))))
  zT)
  (zZ (yD (zL yG (yC zY (pv 0) zB) zB (zR _))
  (zG (zK (i:=4) aj.nd rfl (Or.inl rfl) (zW (zA zP (zA (yC zY (pv 3) (pv 2)) zD)))))
  zT)
  (zZ (yD (zL yG (yC zY (yC yL (pv 3) zB) zB) zB (zR _))
  (zG (zK (i:=4) aj.nd rfl (Or.inl rfl) (zW (zA zP (zA (pv 4) zD)))))
  zT)
  (zG (zO (pv 4))))))))),?_⟩
 have hl:(sz.map V.int).length=sz.length:=bZ _
 have l0:(0:Int) < (((sz.map V.int).length:Nat):Int):=by lia
 refine⟨_,rfl,bF ⟨⟨by decide,by decide⟩,zI (by show 1<=1000;decide),fun py hpy=>?_⟩⟩;have s1:=zF hpy (.tup [.str "yes"]);have i1:jh (upd H py (.tup [.str "yes"])) (.ref py) .yes:=.yes zC;generalize upd H py (.tup [.str "yes"])=H1 at s1 i1 ⊢;refine⟨W5 n r ps sz 1 H,?_,?_⟩
 ·refine⟨fun c H'=>H'=H1,?_,?_⟩
  ·exact⟨_,rfl,bF ⟨(by show (0:Int) < 7;decide),rfl,_,rfl,jg (fun c=>rfl) (fun c=>⟨_,rfl,bF ⟨(by show (0:Int) < 7;decide),rfl,_,rfl,rfl⟩⟩)⟩⟩
  rintro c _ rfl;refine jg (fun c=>?_) (fun c=>⟨_,.yes,s1,i1,trivial,bD _,rfl⟩);exact⟨_,rfl,_,rfl,gf rfl (.inl (aR.of (s1 _ _ hz.1))) (bF ⟨l0,_,rfl,bF ⟨⟨by decide,by decide⟩,bF ⟨(by show (0:Int) < 4;decide),bF ⟨zI (by show 3<=1000;decide),fun p hp=>⟨_,.under _ _,s1.trans (zF hp _),.under zC,mod_lt z0 _,bD _,rfl⟩⟩⟩⟩⟩)⟩
 rintro _ H2 ⟨v2,g2,s2,hg2,ok2,HF,rfl⟩;refine⟨W5 n r ps sz 1 H,?_,?_⟩
 ·refine⟨_,rfl,bF ⟨(by show (0:Int) < 7;decide),rfl,_,rfl,jg (fun c=>?_) (fun c=>⟨_,g2,s2,hg2,ok2,HF,rfl⟩)⟩⟩;exact⟨_,rfl,_,rfl,gf rfl (.inl (aR.of (s2 _ _ hz.1))) (bF ⟨l0,_,rfl,bF ⟨⟨by decide,by decide⟩,bF ⟨(by show (0:Int) < 4;decide),zI (by show 3<=1000;decide),fun p hp=>⟨_,.is _ _,s2.trans (zF hp _),.is zC,mod_lt z0 _,bD _,rfl⟩⟩⟩⟩)⟩
 rintro _ H3 ⟨v3,g3,s3,hg3,ok3,ht3,rfl⟩;refine⟨W5 n r ps sz 1 H,?_,?_⟩
 ·refine⟨_,rfl,bF ⟨(by show (0:Int) < 7;decide),rfl,_,rfl,jg (fun c=>?_) (fun c=>⟨_,g3,s3,hg3,ok3,ht3,rfl⟩)⟩⟩;exact⟨_,rfl,_,rfl,bF ⟨(by show (0:Int) < r;exact r0),zI (by show 2<=1000;decide),fun p hp=>⟨_,.inn _,s3.trans (zF hp _),.inn zC,trivial,bD _,rfl⟩⟩⟩
 rintro _ H4 ⟨v4,g4,s4,hg4,ok4,ht4,rfl⟩;refine⟨W5 n r ps sz 2 H,?_,?_⟩
 ·refine⟨_,rfl,bF ⟨⟨by decide,by decide⟩,bF ⟨(by show (0:Int) < 5;decide),rfl,_,rfl,jg (fun c=>?_) (fun c=>⟨_,g4,s4,hg4,ok4,by lia,rfl⟩)⟩⟩⟩;exact⟨_,rfl,zI (by show 2<=1000;decide),fun p hp=>⟨_,.neg g4,s4.trans (zF hp _),.neg zC (hg4.mono (aA.new hp _)),ok4,by show g4.ht+1<=2;lia,rfl⟩⟩
 rintro _ H5 ⟨v5,g5,s5,hg5,ok5,ht5,rfl⟩;exact⟨_,rfl,q _ g5 _ s5 hg5 ok5 (by lia)⟩
end
end pA
namespace pA
open PySem L2 mC ou xT Dl Bb
open Ru (Wy Dx uX oA jR uA Dz W0 Oe)
inductive K1(K:bj)(vs:List V)(H:Hp)(Q:VK)(E_:XK):Prop
 | mk (a:Addr) (ns:List Int) (_:vs=[.ref a]) (_:aR K H a (ns.map V.int)) (_:ns.length<=63) (_:∀ p c bs ne H',aG H H'->Ln H' p c bs ne->oG c bs->1<=ne->ne<=3->Q (.ref p) H')
section
theorem aK:aH ["_law_script","_law_sizes","_law_boxes","_law_events","_law_many","_law_rooms","_law_k","_law_number","_law_ins","_law_outs","_law_doors","_law_way","_law_goal","_law_guard","_law_deeds","_law_order","_law_letters","_law_turns"] ["_law_script"] (aC iW):=fW
theorem ZJ{Q:VK}{u v w:V}(i:H pt=some (.tup [u,v,w])){n:Int}(h1:1<=n)(h3:n<=3)(q:∀ pe nv H',aG H H'->H' pe=some (.tup nv)->1<=nv.length->nv.length<=3->Q (.ref pe) H'):qAZ K (.ref pt) none (some n) H Q:=by
 have e:n=1 ∨ n=2 ∨ n=3:=by lia
 refine⟨pt,_,rfl,aJ.of i,fun _=>q pt _ H (aG.refl _) i (by show 1<=3;decide) (by show 3<=3;decide),fun _ p hp=>?_⟩;rcases e with rfl | rfl | rfl
 ·exact q p _ _ (zF hp _) zC (by show 1<=1;decide) (by show 1<=3;decide)
 ·exact q p _ _ (zF hp _) zC (by show 1<=2;decide) (by show 2<=3;decide)
 ·exact q p _ _ (zF hp _) zC (by show 1<=3;decide) (by show 3<=3;decide)
def RK(rs:List Rm):Prop:=∀ k r,rs[k]? = some r->r.depth=(if k=0 then 0 else 1)/\r.kind=(if k=0 then ("one" : Str) else "plain")
theorem RK.snoc(h:RK rs)(h1:r.depth=(if rs.length=0 then 0 else 1))(h2:r.kind=(if rs.length=0 then ("one" : Str) else "plain")):RK (rs++[r]):=by
 intro k x hx
 by_cases z:k < rs.length
 ·rw[Lp z]at hx;exact h k x hx
 ·have hk:=(jM.mp hx).1;rw[dN,iG]at hk
  have e:k=rs.length:=by lia
  subst e;rw[Tc (bD _),Nat.sub_self]at hx;obtain rfl:=iM hx;exact⟨h1,h2⟩
theorem RK.dep(h:RK rs)(hk:k < rs.length):(aD rs).getD k 0=if k=0 then 0 else 1:=by
 rw[gH (dX hk)];exact (h k _ (dX hk)).1
theorem RK.good(h:RK rs)(l:0 < rs.length):Tr.Good (aD rs):=by
 refine⟨by rw[yV];exact l,by rw[h.dep l,if_pos rfl],fun k hk=>?_⟩;rw[yV]at hk;rw[h.dep hk,h.dep (show k < rs.length by lia),if_neg (by lia)]
 by_cases z:k=0
 ·rw[if_pos z];decide
 ·rw[if_neg z];decide
theorem RK.fit(h:RK rs)(l:2<=rs.length):Fit rs:=by
 intro k r hr;have hk:=(jM.mp hr).1;have e:=(h k r hr).2
 by_cases z:k=0
 ·subst z;rw[if_pos ⟨by lia,by rw[h.dep hk,h.dep (show 0+1 < rs.length by lia),if_pos rfl,if_neg (by decide)];decide⟩];rw[if_pos rfl]at e;exact .inl e
 ·rw[if_neg (fun ⟨c1,c2⟩=>by rw[h.dep hk,h.dep c1,if_neg z,if_neg (by lia)]at c2;exact absurd c2 (by decide))];rw[if_neg z]at e;exact e
theorem RK.low(h:RK rs):Low (aD rs):=fun k hk=>by
 rw[yV]at hk;rw[h.dep hk]
 by_cases z:k=0
 ·rw[if_pos z];decide
 ·rw[if_neg z];decide
theorem QW(F:dM K "_law_clock" "_law_clock" iW f fd)
  (aP:Dp P w K mg base aZ 3 gm dm ["_law_script","_law_k","_law_salt"] (qR K) "_law_mixed")
  (fQ:Dp P w K mg base aZ 3 gd dd ["_law_script","_law_k","_law_salt","_law_sizes","_law_events"] (Em K) "_law_small_deeds")
  (rY:Dp P w K mg base aZ 3 gg dg ["_law_number","_law_sizes","_law_rooms"] El "_law_small_guard")
  (aU:mg "len" = none) (au:mg "range" = none) (aW:mg "tuple" = none):aO P w K mg base aZ 4 f fd ["_law_script"] (K1 K):=by
 refine F.ok aK (fun vs H Q E h=>?_) (fun cdv A outer s H vs Q E hr h=>?_)
 ·obtain⟨a,ns,rfl,_⟩:=h;rfl
 obtain⟨a,ns,rfl,hS,h63,q⟩:=h
 refine⟨_,(zE (zK (i:=1) aK.nd rfl (Or.inr rfl) (yT (aY:=[(0,"_law_script")]) rfl (show bJ (aC iW) ["_law_script","_law_sizes","_law_boxes","_law_events","_law_many","_law_rooms","_law_k","_law_number","_law_ins","_law_outs","_law_doors","_law_way","_law_goal","_law_guard","_law_deeds","_law_order","_law_letters","_law_turns"] _ _ _ from ym) (bu rfl au (zA (yC yF zB (yC zY (pC aP hr (zA (pv 0) (zA zB (zA zB zD)))) zB)) zD)) (fun _ _ _ _ _ _=>cD) (fun _ _ _ _ _ _=>(yC yF zB (yC zY (pC aP hr (zA (pv 1) (zA (pv 0) (zA zB zD)))) zB)))))
  (zE (zK (i:=2) aK.nd rfl (Or.inl rfl) (yA zX rfl aW lD (zA (yT (aY:=[(1,"_law_sizes"),(0,"_law_script")]) rfl (show bJ (aC iW) ["_law_script","_law_sizes","_law_boxes","_law_events","_law_many","_law_rooms","_law_k","_law_number","_law_ins","_law_outs","_law_doors","_law_way","_law_goal","_law_guard","_law_deeds","_law_order","_law_letters","_law_turns"] _ _ _ from ym) (bu rfl au (zA (zS zN rfl aU bh (zA (pv 1) zD)) zD)) (fun _ _ _ _ _ _=>cD) (fun _ _ _ _ _ _=>(zW (zA (yC wH zP (yB Qy zP (pv 0) (fun _ _=>rfl))) (zA (yB (r:=U7 K) yU (pv 1) (pv 0) (fun _ _=>rfl)) (zA (yC zY (pC aP hr (zA (pv 2) (zA (pv 0) (zA zB zD)))) (yB (r:=U7 K) yU (pv 1) (pv 0) (fun _ _=>rfl))) zD)))))) zD)))
  (zE (zK (i:=3) aK.nd rfl (Or.inl rfl) (kO Tt (zW (zA zP (zA zP (zA zP zD)))) oV (oU (yC yF zB (yC zY (pC aP hr (zA (pv 0) (zA zB (zA zB zD)))) zB)))))
  (zE (zK (i:=4) aK.nd rfl (Or.inl rfl) (yC yF zB (yC zY (pC aP hr (zA (pv 0) (zA zB (zA zB zD)))) zB)))
  (zE (zK (i:=5) aK.nd rfl (Or.inl rfl) (yK zD))
  (zZ (cU PassesOwn.never rfl (bu rfl au (zA (pv 4) zD)) (yJ (i:=6) aK.nd rfl (Or.inl rfl))
  (zE (zK (i:=7) aK.nd rfl (Or.inl rfl) (pC aP hr (zA (pv 0) (zA (pv 6) (zA zB zD)))))
  (zE (zK (i:=8) aK.nd rfl (Or.inl rfl) (pC fQ hr (zA (pv 0) (zA (pv 6) (zA zB (zA (pv 1) (zA (zS zN rfl aU bh (zA (pv 3) zD)) zD)))))))
  (zE (zK (i:=9) aK.nd rfl (Or.inl rfl) (pC fQ hr (zA (pv 0) (zA (pv 6) (zA zB (zA (pv 1) (zA (zS zN rfl aU bh (zA (pv 3) zD)) zD)))))))
  (zG (yD (zL yG (pv 6) zB (zR _))
  (zG (yI (fX jl xm xj yH (pv 5) (zA (zW (zA zP (zA zP (zA zB (zA (yB yU (yK (zA zP (zA zP (zA zP zD)))) (yC zY (pv 7) zB) (fun _ _=>rfl)) (zA zP (zA (pv 8) (zA (pv 9) zD)))))))) zD))))
  (zG (yI (fX jl xm xj yH (pv 5) (zA (zW (zA (yC wH zP (yB Qy zP (pv 6) (fun _ _=>rfl))) (zA zP (zA zB (zA zP (zA (yB yU (yK (zA zP (zA zP zD))) (yC zY (pv 7) zB) (fun _ _=>rfl)) (zA (pv 8) (zA (pv 9) zD)))))))) zD))))))))))
  (zE (zK (i:=10) aK.nd rfl (Or.inl rfl) (yK zD))
  (zZ (cU PassesOwn.never rfl (bu rfl au (zA (yC yF zB (yC zY (pC aP hr (zA (pv 0) (zA zB (zA zB zD)))) zB)) zD)) (yJ (i:=6) aK.nd rfl (Or.inl rfl))
  (zE (zK (i:=7) aK.nd rfl (Or.inl rfl) (pC aP hr (zA (pv 0) (zA (yC yF (pv 6) zB) (zA zB zD)))))
  (zE (zK (i:=11) aK.nd rfl (Or.inl rfl) (yB yU (yK (zA zP (zA zP (zA zP (zA zP zD))))) (yC zY (pv 7) zB) (fun _ _=>rfl)))
  (zE (zK (i:=12) aK.nd rfl (Or.inl rfl) (yC zY (yC yL (pv 7) zB) (pv 4)))
  (zZ (yD (cC (PW.pt (pw_and (zL yG (pv 11) zP (zR _)) (yP (zL iI (yB zH (yB yU (pv 5) zB (fun _ _=>rfl)) zB (fun _ _=>rfl)) zP (zR _))))))
  (zG (zK (i:=12) aK.nd rfl (Or.inl rfl) zB))
  zT)
  (zZ (yD (cC (PW.pt (pw_and (zL yG (pv 11) zP (zR _)) (yP (zL yG (yB zH (yB yU (pv 5) zB (fun _ _=>rfl)) zB (fun _ _=>rfl)) zP (zR _))))))
  (zG (zK (i:=11) aK.nd rfl (Or.inl rfl) zP))
  zT)
  (zZ (yD (zL yG (pv 11) zP (zR _))
  (zG (zK (i:=12) aK.nd rfl (Or.inl rfl) gA))
  zT)
  (zE (zK (i:=13) aK.nd rfl (Or.inl rfl) (pC rY hr (zA (pC aP hr (zA (pv 0) (zA (yC yF (pv 6) zB) (zA zB zD)))) (zA (pv 1) (zA (pv 4) zD)))))
  (zE (zK (i:=14) aK.nd rfl (Or.inl rfl) (pC fQ hr (zA (pv 0) (zA (yC yF (pv 6) zB) (zA zB (zA (pv 1) (zA (zS zN rfl aU bh (zA (pv 3) zD)) zD)))))))
  (zG (yI (fX jl xm xj yH (pv 10) (zA (zW (zA (yC zY (yC yL (pv 7) zB) (pv 4)) (zA (yC zY (yC yL (pv 7) zB) (zS zN rfl aU bh (zA (pv 3) zD))) (zA (pv 13) (zA (pv 14) (zA (pv 11) (zA (pv 12) zD))))))) zD)))))))))))))
  (zE (zK (i:=15) aK.nd rfl (Or.inl rfl) (yB yU (yK (zA zP (zA zP zD))) (yC zY (pC aP hr (zA (pv 0) (zA zB (zA zB zD)))) zB) (fun _ _=>rfl)))
  (zE (zK (i:=16) aK.nd rfl (Or.inl rfl) (yC zY (pC aP hr (zA (pv 0) (zA zB (zA zB zD)))) zB))
  (zE (zK (i:=17) aK.nd rfl (Or.inl rfl) (yC yF zB (yC zY (pC aP hr (zA (pv 0) (zA zB (zA zB zD)))) zB)))
  (zG (zO (zW (zA (pv 15) (zA (pv 16) (zA (pv 17) (zA (pv 2) (zA (pv 3) (zA (yA zX rfl aW lD (zA (pv 5) zD)) (zA (yA zX rfl aW lD (zA (pv 10) zD)) zD))))))))))))))))))))),?_⟩
 refine⟨_,rfl,a,ns,_,_,rfl,hS,h63,⟨by decide,by decide⟩,⟨by decide,by decide⟩,fun x x0 x1=>bF ⟨(by show (0:Int) < 3;decide),bF ?_⟩⟩;refine⟨_,rfl,by lia,by lia,jC (fun i acc H'=>H=H'/\∃ sz:List Int,acc=sz.map V.int/\sz.length=i/\∀ z∈sz,0 < z/\z<=4) ⟨rfl,[],rfl,rfl,(fun z h=>by cases h)⟩ ?_ ?_⟩
 ·rintro i acc _ hi ⟨rfl,sz,rfl,l,hz⟩;refine⟨_,rfl,_,rfl,a,ns,_,_,rfl,hS,h63,⟨by lia,by lia⟩,⟨by decide,by decide⟩,fun y y0 y1=>bF ⟨(by show (0:Int) < 4;decide),bF ⟨zV (by rw[bZ];lia),rfl,sz++[1+y % 4],by rw[jn];rfl,by rw[dN,l];rfl,fun z h=>?_⟩⟩⟩;rcases eG.mp h with h | h
  ·exact hz z h
  ·rw[bf.mp h];lia
 rintro _ _ ⟨rfl,sz,rfl,l,hz⟩ ps hps
 have l13:1<=sz.length/\sz.length<=3:=by lia
 have s1:=zF hps (.lst (sz.map V.int));have i1:lg (upd H ps (.lst (sz.map V.int))) ps sz:=⟨zC,fun z h=>(hz z h).1,by lia⟩;generalize upd H ps (.lst (sz.map V.int))=H1 at s1 i1 ⊢;have lz:(sz.map V.int).length=sz.length:=bZ _;refine⟨_,rfl,gf rfl (.inl (aR.of i1.1)) ⟨_,rfl,by lia,by lia,jC (fun i acc H'=>∃ bs:List (Int × Int),aG H1 H'/\Al (Jm H') acc bs/\bs.length=i/\bs.map (·.1)=sz.take i/\∀ b∈bs,0<=b.2/\b.2 < b.1) ⟨[],aG.refl _,.nil,rfl,rfl,(fun z h=>by cases h)⟩ ?_ ?_⟩⟩
 ·rintro i acc H2 hi ⟨bs,s2,hA,lb,hb,hs⟩
  have hi3:i < sz.length:=by lia
  have s12:=s1.trans s2;have lacc:=hA.length;obtain⟨c,-,hc⟩:=jE (xs:=("xyz" : Str).cps.toList) (i:=0+(i:Int)) (by lia) (by show _ < (3:Int);lia);obtain⟨z,er⟩:∃ z,sz[i]? = some z:=⟨_,dX hi3⟩
  have hat:uO (sz.map V.int) (0+(i:Int))=some (.int z):=by
   rw[Int.zero_add];refine yQ ?_;rw[cG,er];rfl
  have z0:=(hz z (Bd er)).1;refine⟨_,rfl,_,_,c,rfl,rfl,(by decide),hc,_,_,rfl,rfl,(by show 4+1<=sizeLine;decide),_,rfl,_,rfl,bQ (aR.of (s2 _ _ i1.1)) hat ?_⟩;refine⟨_,rfl,_,rfl,a,ns,_,_,rfl,s12.seq hS,h63,⟨by lia,by lia⟩,⟨by decide,by decide⟩,fun y y0 y1=>?_⟩;refine⟨_,rfl,_,rfl,bQ (aR.of (s2 _ _ i1.1)) hat (bF ⟨(by show (0:Int) < z;exact z0),zI (by show 3<=1000;decide),fun p hp=>⟨zV (by lia),bs++[(z,y % z)],s2.trans (zF hp _),(hA.mono fun _ _ b=>b.mono (aA.new hp _)).snoc ⟨p,_,rfl,zC⟩,by rw[dN,lb];rfl,?_,fun b h=>?_⟩⟩)⟩
  ·rw[jn,hb,jN,er];rfl
  ·rcases eG.mp h with h | h
   ·exact hs b h
   ·rw[bf.mp h];exact⟨HR _ (by lia),HQ _ z0⟩
 rintro bv H2 ⟨bs,s2,hA,lb,hb,hs⟩ pl hpl;refine⟨pl,_,rfl,.inl ⟨aR.of zC,fun pb hpb=>?_⟩⟩;have s3:=(s2.trans (zF hpl _)).trans (zF hpb (.tup bv));have i3:upd (upd H2 pl (.lst bv)) pb (.tup bv) pb=some (.tup bv):=zC;have hA3:=hA.mono fun _ _ b=>b.mono ((aA.new hpl (.lst bv)).trans (aA.new hpb (.tup bv)));generalize upd (upd H2 pl (.lst bv)) pb (.tup bv)=H3 at s3 i3 hA3 ⊢;have zj:=s1.trans s3;have z3:=i1.mono s3;refine⟨zI (by show 3<=1000;decide),fun pt Ga=>?_⟩;have s4:=zF Ga (.tup [.str "second",.str "minute",.str "strike"]);have i4:upd H3 pt (.tup [.str "second",.str "minute",.str "strike"]) pt=some (.tup [.str "second",.str "minute",.str "strike"]):=zC;generalize upd H3 pt (.tup [.str "second",.str "minute",.str "strike"])=H4 at s4 i4 ⊢;refine⟨_,rfl,a,ns,_,_,rfl,(zj.trans s4).seq hS,h63,⟨by decide,by decide⟩,⟨by decide,by decide⟩,fun y y0 y1=>bF ⟨(by show (0:Int) < 3;decide),bF ⟨_,rfl,?_⟩⟩⟩;refine ZJ i4 (by lia) (by lia) fun pe nv H5 s5 i5 n1 n3=>?_;have Ht:=(zj.trans s4).trans s5;have z5:=z3.mono (s4.trans s5);have b5:=(s4.trans s5) _ _ i3;have hA5:=hA3.mono fun _ _ b=>b.mono (aA.of (s4.trans s5));refine⟨_,rfl,a,ns,_,_,rfl,Ht.seq hS,h63,⟨by decide,by decide⟩,⟨by decide,by decide⟩,fun y2 y20 y21=>bF ⟨(by show (0:Int) < 4;decide),bF ?_⟩⟩;obtain⟨m,hm,m2,m5⟩:∃ m:Nat,2+y2 % 4=(m:Int)/\2<=m/\m<=5:=⟨(2+y2 % 4).toNat,by lia,by lia,by lia⟩;have hv:(fun i j:Int=>V.int (i+j)) 2 (y2 % 4)=V.int (m:Int):=congrArg V.int hm;rw[hv];refine⟨Nat.zero_le _,fun pr hpr=>?_⟩;have s6:=zF hpr (.lst []);refine⟨fun σ' H'=>∃(rv:List V)(rs:List Rm)(dis yl:List (List Dd)),aG H5 H'/\H' pr=some (.lst rv)/\Oe sz.length H' rv rs dis yl/\rs.length=m/\RK rs/\∃ o6 o7 o8 o9:Option V,σ'=[some (.ref a),some (.ref ps),some (.ref pb),some (.ref pe),some (.int (m:Int)),some (.ref pr),o6,o7,o8,o9,none,none,none,none,none,none,none,none],?_,?_⟩
 ·refine⟨_,rfl,_,rfl,by lia,by lia,?_⟩;refine dG (fun i σ' H'=>∃(rv:List V)(rs:List Rm)(dis yl:List (List Dd)),aG H5 H'/\H' pr=some (.lst rv)/\Oe sz.length H' rv rs dis yl/\rs.length=i/\RK rs/\∃ o6 o7 o8 o9:Option V,σ'=[some (.ref a),some (.ref ps),some (.ref pb),some (.ref pe),some (.int (m:Int)),some (.ref pr),o6,o7,o8,o9,none,none,none,none,none,none,none,none])
   ⟨[],[],[],[],s6,zC,Oe.nil _,rfl,(fun k r h=>by simp at h),none,none,none,none,rfl⟩ ?_ (fun σ' H' ⟨rv,rs,dis,yl,h1,h2,h3,h4,h5⟩=>⟨rv,rs,dis,yl,h1,h2,h3,by lia,h5⟩)
  rintro i _ H6 hi ⟨rv,rs,dis,yl,s6,hrv,rb,lr,rk,o6,o7,o8,o9,rfl⟩;have Km:rv.length=rs.length:=rb.inn.length;have Wb:=Ht.trans s6;refine⟨_,rfl,_,rfl,a,ns,_,_,rfl,Wb.seq hS,h63,⟨by lia,by lia⟩,⟨by decide,by decide⟩,fun x x0 x1=>?_⟩;refine⟨_,rfl,_,rfl,_,rfl,_,rfl,gf rfl (.inr (aJ.of (s6 _ _ i5))) ⟨a,ps,ns,sz,_,_,_,rfl,Wb.seq hS,h63,⟨by lia,by lia⟩,⟨by decide,by decide⟩,z5.mono s6,by lia,by lia,fun vi di H7 s7 hdi oki li=>?_⟩⟩;refine⟨_,rfl,_,rfl,_,rfl,_,rfl,gf rfl (.inr (aJ.of ((s6.trans s7) _ _ i5))) ⟨a,ps,ns,sz,_,_,_,rfl,(Wb.trans s7).seq hS,h63,⟨by lia,by lia⟩,⟨by decide,by decide⟩,z5.mono (s6.trans s7),by lia,by lia,fun vo dO H8 s8 hdo oko lo=>?_⟩⟩;have Zg:=s7.trans s8;have Fo:H5 pr=none:=hpr;have N6:=Zg _ _ hrv;have rb8:=rb.mono (aA.of Zg);have qCE:=hdi.mono (aA.of s8);refine⟨_,rfl,rfl,_,rfl,jg (fun c=>?_) (fun c=>?_)⟩
  ·have e0:i=0:=by have:=V.int.inj (of_decide_eq_true c);lia
   obtain⟨kp,-,hat⟩:=vB (zs:=[("" : Str),"near","deep"]) (i:=x % 3) (by lia) (by show _ < (3:Int);lia);refine⟨_,rfl,.inl ⟨rfl,_,aR.of N6⟩,zI (by show 3<=1000;decide),fun pq hpq=>⟨_,rfl,bF ⟨(by show (0:Int) < 3;decide),bQ (aR.of zC) hat ⟨_,rfl,_,rfl,zI (by show 7<=1000;decide),fun p hp=>?_⟩⟩⟩⟩;have k9:=(aA.new hpq _).trans (aA.new hp (.tup [.str "clock",.str "one",.int 0,.str kp,.str "",vi,vo]));have s9:=(zF hpq _).trans (zF hp (.tup [.str "clock",.str "one",.int 0,.str kp,.str "",vi,vo]));have k10:=aA.lst (s9 _ _ N6) (.lst (rv++[.ref p]));refine⟨pr,_,_,rfl,rfl,s9 _ _ N6,zV (by lia),rv++[.ref p],rs++[⟨"clock","one",0,kp,"",vi,vo⟩],dis++[di],yl++[dO],eQ Fo (s6.trans (Zg.trans s9)) _,zC,(rb8.mono (k9.trans k10)).snoc ⟨p,rfl,k10 _ _ zC⟩ (qCE.mono (k9.trans k10)) (hdo.mono (k9.trans k10)) ⟨oki,li⟩ ⟨oko,lo⟩,by rw[dN,lr];rfl,rk.snoc (by rw[if_pos (by lia)]) (by rw[if_pos (by lia)]),_,_,_,_,rfl⟩
  ·have e0:¬ i=0:=fun z=>of_decide_eq_false c (by rw[z];rfl);obtain⟨ch,-,hc⟩:=jE (xs:=("abcde" : Str).cps.toList) (i:=0+(i:Int)) (by lia) (by show _ < (5:Int);lia);obtain⟨lm,-,hat⟩:=vB (zs:=[("" : Str),"lit"]) (i:=x % 2) (by lia) (by show _ < (2:Int);lia);refine⟨_,rfl,.inl ⟨rfl,_,aR.of N6⟩,_,rfl,_,_,ch,rfl,rfl,(by decide),hc,_,_,rfl,rfl,(by show 4+1<=sizeLine;decide),zI (by show 2<=1000;decide),fun pq hpq=>⟨_,rfl,bF ⟨(by show (0:Int) < 2;decide),bQ (aR.of zC) hat ⟨_,rfl,_,rfl,zI (by show 7<=1000;decide),fun p hp=>?_⟩⟩⟩⟩;have k9:=(aA.new hpq _).trans (aA.new hp (.tup [.str (("face" : Str)++⟨#[ch]⟩),.str "plain",.int 1,.str "",.str lm,vi,vo]));have s9:=(zF hpq _).trans (zF hp (.tup [.str (("face" : Str)++⟨#[ch]⟩),.str "plain",.int 1,.str "",.str lm,vi,vo]));have k10:=aA.lst (s9 _ _ N6) (.lst (rv++[.ref p]));exact⟨pr,_,_,rfl,rfl,s9 _ _ N6,zV (by lia),rv++[.ref p],rs++[⟨("face" : Str)++⟨#[ch]⟩,"plain",1,"",lm,vi,vo⟩],dis++[di],yl++[dO],eQ Fo (s6.trans (Zg.trans s9)) _,zC,(rb8.mono (k9.trans k10)).snoc ⟨p,rfl,k10 _ _ zC⟩ (qCE.mono (k9.trans k10)) (hdo.mono (k9.trans k10)) ⟨oki,li⟩ ⟨oko,lo⟩,by rw[dN,lr];rfl,rk.snoc (by rw[if_neg (by lia)]) (by rw[if_neg (by lia)]),_,_,_,_,rfl⟩
 rintro _ H6 ⟨rv,rs,dis,yl,s6,hrv,rb,lr,rk,o6,o7,o8,o9,rfl⟩;refine⟨Nat.zero_le _,fun pd hpd=>?_⟩;have V5:H6 pd=none:=hpd;have Wb:=Ht.trans s6;have Km:rv.length=rs.length:=rb.inn.length;obtain⟨r0,er0⟩:∃ r,rs[0]? = some r:=⟨_,dX (by lia)⟩;obtain⟨v0,ev0,a0,rfl,h0⟩:=rb.inn.get er0;have qCF:uO rv 0=some (.ref a0):=yQ (j:=0) ev0;refine⟨fun σ' H'=>∃(dv:List V)(ds:List Dx),aG H6 H'/\H' pd=some (.lst dv)/\Al (uX H') dv ds/\ds.length<=6/\(∀ d∈ds,XS m sz.length d)/\∃ o6 o7 o11 o12 Wl Wk:Option V,σ'=[some (.ref a),some (.ref ps),some (.ref pb),some (.ref pe),some (.int (m:Int)),some (.ref pr),o6,o7,o8,o9,some (.ref pd),o11,o12,Wl,Wk,none,none,none],?_,?_⟩
 ·refine⟨_,rfl,a,ns,_,_,rfl,(Wb.trans (zF hpd _)).seq hS,h63,⟨by decide,by decide⟩,⟨by decide,by decide⟩,fun x x0 x1=>bF ⟨(by show (0:Int) < 6;decide),bF ⟨_,rfl,by lia,by lia,?_⟩⟩⟩;refine dG (fun i σ' H'=>∃(dv:List V)(ds:List Dx),aG H6 H'/\H' pd=some (.lst dv)/\Al (uX H') dv ds/\ds.length=i/\(∀ d∈ds,XS m sz.length d)/\∃ o6 o7 o11 o12 Wl Wk:Option V,σ'=[some (.ref a),some (.ref ps),some (.ref pb),some (.ref pe),some (.int (m:Int)),some (.ref pr),o6,o7,o8,o9,some (.ref pd),o11,o12,Wl,Wk,none,none,none])
   ⟨[],[],zF hpd _,zC,.nil,rfl,(fun d h=>by cases h),o6,o7,none,none,none,none,rfl⟩ ?_ (fun σ' H' ⟨dv,ds,h1,h2,h3,h4,h5⟩=>⟨dv,ds,h1,h2,h3,by lia,h5⟩)
  rintro i _ H7 hi ⟨dv,ds,s7,hdv,hD,ld,fit,o6,o7,o11,o12,Wl,Wk,rfl⟩;have ldv:=hD.length;have Xx:=Wb.trans s7;refine⟨_,rfl,_,rfl,bF ⟨a,ns,_,_,rfl,Xx.seq hS,h63,⟨by lia,by lia⟩,⟨by decide,by decide⟩,fun y y0 y1=>?_⟩⟩;obtain⟨wy,hwy,hat⟩:=vB (zs:=[("stay" : Str),"to","to","back"]) (i:=y % 4) (by lia) (by show _ < (4:Int);lia);refine⟨zI (by show 4<=1000;decide),fun pq hpq=>⟨_,rfl,bF ⟨(by show (0:Int) < 4;decide),bQ (aR.of zC) hat ?_⟩⟩⟩;have s8:=s7.trans (zF hpq (.lst [.str "stay",.str "to",.str "to",.str "back"]));have k8:=aA.new hpq (.lst [.str "stay",.str "to",.str "to",.str "back"]);have qCD:upd H7 pq (.lst [.str "stay",.str "to",.str "to",.str "back"]) pd=some (.lst dv):=(zF hpq _) _ _ hdv;have hD8:=hD.mono fun _ _ z=>z.mono k8
  have qFK:wy=("stay" : Str) ∨ wy=("to" : Str) ∨ wy=("back" : Str):=by
   simp only[List.mem_cons,List.not_mem_nil,or_false]at hwy;rcases hwy with h | h | h | h
   ·exact .inl h
   ·exact .inr (.inl h)
   ·exact .inr (.inl h)
   ·exact .inr (.inr h)
  generalize upd H7 pq (.lst [.str "stay",.str "to",.str "to",.str "back"])=H8 at s8 qCD hD8 ⊢;have Zj:=Wb.trans s8
  have mz:(0:Int) < (m:Int):=by lia
  have g0:=HR (y / 4) (show (m:Int) ≠ 0 by lia);have g1:=HQ (y / 4) mz;refine⟨_,rfl,bF ⟨⟨by decide,by decide⟩,_,rfl,bF ⟨mz,?_⟩⟩⟩;refine⟨fun σ' H'=>H8=H'/\∃ j:Int,0<=j/\j < m/\σ'=[some (.ref a),some (.ref ps),some (.ref pb),some (.ref pe),some (.int (m:Int)),some (.ref pr),some (.int (0+(i:Int))),some (.int y),o8,o9,some (.ref pd),some (.str wy),some (.int j),Wl,Wk,none,none,none],?_,?_⟩
  ·refine⟨fun c H'=>H8=H',?_,?_⟩
   ·exact⟨_,rfl,rfl,_,rfl,jg (fun c=>⟨_,rfl,bQ (aR.of (s8 _ _ hrv)) qCF (aF (aJ.of (s8 _ _ h0)) rfl ⟨rfl,_,rfl,rfl⟩)⟩) (fun c=>rfl)⟩
   rintro c _ rfl;exact jg (fun c=>⟨rfl,0,Int.le_refl _,mz,rfl⟩) (fun c=>⟨rfl,_,g0,g1,rfl⟩)
  rintro _ _ ⟨rfl,j,j0,j1,rfl⟩;refine⟨fun σ' H'=>H8=H'/\∃ wy:Str,(wy=("stay" : Str) ∨ wy=("to" : Str) ∨ wy=("back" : Str))/\σ'=[some (.ref a),some (.ref ps),some (.ref pb),some (.ref pe),some (.int (m:Int)),some (.ref pr),some (.int (0+(i:Int))),some (.int y),o8,o9,some (.ref pd),some (.str wy),some (.int j),Wl,Wk,none,none,none],?_,?_⟩
  ·refine⟨fun c H'=>H8=H',?_,?_⟩
   ·exact⟨_,rfl,rfl,_,rfl,jg (fun c=>⟨_,rfl,bQ (aR.of (s8 _ _ hrv)) qCF (aF (aJ.of (s8 _ _ h0)) rfl ⟨rfl,_,rfl,rfl⟩)⟩) (fun c=>rfl)⟩
   rintro c _ rfl;exact jg (fun c=>⟨rfl,_,.inr (.inl rfl),rfl⟩) (fun c=>⟨rfl,_,qFK,rfl⟩)
  rintro _ _ ⟨rfl,wy',hw,rfl⟩;refine⟨fun σ' H'=>H8=H'/\∃ g:Option Int,Ja m wy' g/\σ'=[some (.ref a),some (.ref ps),some (.ref pb),some (.ref pe),some (.int (m:Int)),some (.ref pr),some (.int (0+(i:Int))),some (.int y),o8,o9,some (.ref pd),some (.str wy'),some (gV g),Wl,Wk,none,none,none],?_,?_⟩
  ·refine⟨_,rfl,rfl,_,rfl,jg (fun c=>⟨rfl,none,.inl ⟨V.str.inj (of_decide_eq_true c),rfl⟩,rfl⟩) (fun c=>⟨rfl,some j,.inr ⟨?_,j,rfl,j0,j1⟩,rfl⟩)⟩;rcases hw with h | h
   ·exact absurd (congrArg V.str h) (of_decide_eq_false c)
   ·exact h
  rintro _ _ ⟨rfl,g,wf,rfl⟩;obtain⟨yw,ey1,ey2,ey3⟩:=wf.wy (by lia);refine⟨_,rfl,_,rfl,bF ⟨a,ns,_,_,rfl,Zj.seq hS,h63,⟨by lia,by lia⟩,⟨by decide,by decide⟩,fun xg xg0 xg1=>?_⟩⟩;refine⟨_,rfl,_,rfl,xg,(m:Int),ps,sz,rfl,xg0,z5.mono (s6.trans s8),by lia,mz,fun vg gd H9 s9 hg gok ght=>?_⟩;refine⟨_,rfl,_,rfl,bF ⟨_,rfl,_,rfl,gf rfl (.inr (aJ.of ((s6.trans (s8.trans s9)) _ _ i5))) ⟨a,ps,ns,sz,_,_,_,rfl,(Zj.trans s9).seq hS,h63,⟨by lia,by lia⟩,⟨by decide,by decide⟩,z5.mono (s6.trans (s8.trans s9)),by lia,by lia,fun vd dd ZZ M3 hdd okd ldd=>?_⟩⟩⟩;have qAX:=s8.trans (s9.trans M3);have R6:=(s9.trans M3) _ _ qCD;have qG8:=hD8.mono fun _ _ z=>z.mono (aA.of (s9.trans M3))
  have ne0:(0:Int) < ((nv.length:Nat):Int):=by lia
  refine⟨_,rfl,.inl ⟨rfl,_,aR.of R6⟩,_,rfl,bF ⟨⟨by decide,by decide⟩,_,rfl,bF ⟨mz,_,rfl,bF ⟨⟨by decide,by decide⟩,_,rfl,gf rfl (.inr (aJ.of ((s6.trans qAX) _ _ i5))) (bF ⟨ne0,_,rfl,_,rfl,_,rfl,_,rfl,zI (by show 6<=1000;decide),fun p hp=>?_⟩)⟩⟩⟩⟩;have r0:=HR (y / 24) (show (m:Int) ≠ 0 by lia);have r1:=HQ (y / 24) mz;have er:(((y / 24 % (m:Int)).toNat:Nat):Int)=y / 24 % (m:Int):=Int.toNat_of_nonneg r0
  have i11:∀ {Hz:Hp},upd Hz p (.tup [.int (y / 24 % (m:Int)),.int (y / 150 % ((nv.length:Nat):Int)),vg,vd,.str wy',gV g]) p=some (.tup [.int (((y / 24 % (m:Int)).toNat:Nat):Int),.int (y / 150 % ((nv.length:Nat):Int)),vg,vd,.str yw.tx,yw.gv]):=by
   rw[er,ey1,ey2];exact zC
  have k11:=aA.new hp (.tup [.int (y / 24 % (m:Int)),.int (y / 150 % ((nv.length:Nat):Int)),vg,vd,.str wy',gV g]);have Wc:=zF hp (.tup [.int (y / 24 % (m:Int)),.int (y / 150 % ((nv.length:Nat):Int)),vg,vd,.str wy',gV g]);have k12:=aA.lst (Wc _ _ R6) (.lst (dv++[.ref p]));refine⟨pd,_,_,rfl,rfl,Wc _ _ R6,zV (by lia),dv++[.ref p],ds++[⟨(y / 24 % (m:Int)).toNat,y / 150 % ((nv.length:Nat):Int),gd,dd,yw⟩],eQ V5 (qAX.trans Wc) _,zC,(qG8.mono fun _ _ z=>z.mono (k11.trans k12)).snoc ⟨p,vg,vd,rfl,k12 _ _ i11,hg.mono ((aA.of M3).trans (k11.trans k12)),hdd.mono (k11.trans k12)⟩,by rw[dN,ld];rfl,fun d hd=>?_,_,_,_,_,_,_,rfl⟩;rcases eG.mp hd with hd | hd
  ·exact fit d hd
  ·rw[bf.mp hd];exact⟨by show (y / 24 % (m:Int)).toNat < m;lia,ey3,gok,ght,okd,ldd⟩
 rintro _ H7 ⟨dv,ds,s7,hdv,hD,ld,fit,o6,o7,o11,o12,Wl,Wk,rfl⟩;have Xx:=Wb.trans s7;refine⟨zI (by show 2<=1000;decide),fun pq hpq=>?_⟩;have s8:=zF hpq (.lst [.str "inner",.str "outer"]);have k8:=aA.new hpq (.lst [.str "inner",.str "outer"]);have i8:upd H7 pq (.lst [.str "inner",.str "outer"]) pq=some (.lst [.str "inner",.str "outer"]):=zC;generalize upd H7 pq (.lst [.str "inner",.str "outer"])=H8 at s8 k8 i8 ⊢;have Zj:=Xx.trans s8;refine⟨_,rfl,a,ns,_,_,rfl,Zj.seq hS,h63,⟨by decide,by decide⟩,⟨by decide,by decide⟩,fun y3 y30 y31=>?_⟩;obtain⟨od,-,hat3⟩:=vB (zs:=[("inner" : Str),"outer"]) (i:=y3 % 2) (by lia) (by show _ < (2:Int);lia);refine bF ⟨(by show (0:Int) < 2;decide),bQ (aR.of i8) hat3 ?_⟩;refine⟨_,rfl,a,ns,_,_,rfl,Zj.seq hS,h63,⟨by decide,by decide⟩,⟨by decide,by decide⟩,fun y4 y40 y41=>bF ⟨(by show (0:Int) < 4;decide),?_⟩⟩;refine⟨_,rfl,a,ns,_,_,rfl,Zj.seq hS,h63,⟨by decide,by decide⟩,⟨by decide,by decide⟩,fun y5 y50 y51=>bF ⟨(by show (0:Int) < 5;decide),bF ?_⟩⟩;have Zg:=s7.trans s8;refine⟨_,rfl,_,rfl,_,rfl,_,rfl,_,rfl,_,rfl,pr,_,rfl,.inl ⟨aR.of (Zg _ _ hrv),fun Y6 qFR=>?_⟩⟩;have s9:=zF qFR (.tup rv);refine⟨_,rfl,pd,_,rfl,.inl ⟨aR.of ((s8.trans s9) _ _ hdv),fun YG qC8=>?_⟩⟩;have M3:=s9.trans (zF qC8 (.tup dv));have i10:upd (upd H8 Y6 (.tup rv)) YG (.tup dv) YG=some (.tup dv):=zC;have j10:upd (upd H8 Y6 (.tup rv)) YG (.tup dv) Y6=some (.tup rv):=(zF qC8 _) _ _ zC;generalize upd (upd H8 Y6 (.tup rv)) YG (.tup dv)=ZZ at M3 i10 j10 ⊢;refine⟨zI (by show 7<=1000;decide),fun pc JH=>?_⟩;obtain⟨lt,elt,lt3⟩:∃ lb:Nat,y4 % 4=(lb:Int)/\lb<=3:=⟨(y4 % 4).toNat,by lia,by lia⟩;obtain⟨tm,etm,t1,t5⟩:∃ tm:Nat,1+y5 % 5=(tm:Int)/\1<=tm/\tm<=5:=⟨(1+y5 % 5).toNat,by lia,by lia,by lia⟩;have hv4:(fun i j:Int=>V.int (i % j)) y4 4=V.int (lt:Int):=congrArg V.int elt;have hv5:(fun i j:Int=>V.int (i+j)) 1 (y5 % 5)=V.int (tm:Int):=congrArg V.int etm;rw[hv4,hv5];have Wc:=M3.trans (zF JH (.tup [.str od,.int (lt:Int),.int (tm:Int),.ref pb,.ref pe,.ref Y6,.ref YG]));have s12:=zF JH (.tup [.str od,.int (lt:Int),.int (tm:Int),.ref pb,.ref pe,.ref Y6,.ref YG]);have Xu:=s8.trans Wc;have Xv:=s7.trans Xu;have Xw:=s6.trans Xv
 have esz:bs.map (·.1)=sz:=by rw[hb];exact uz (by rw[lz];lia)
 refine q pc ⟨od,lt,tm,sz,rs,fun k=>dis.getD k [],fun k=>yl.getD k [],ds⟩ bs nv.length _ (Xx.trans Xu) ⟨pb,pe,Y6,YG,bv,nv,rv,dv,zC,Xw _ _ b5,hA5.mono (fun _ _ b=>b.mono (aA.of Xw)),Xw _ _ i5,rfl,s12 _ _ j10,rb.inn.mono (aA.of Xv),rb.dd.mono (aA.of Xv),s12 _ _ i10,hD.mono (fun _ _ z=>z.mono (aA.of Xu))⟩ ?_ n1 n3;exact⟨⟨rk.good (by lia),by show rs.length<=40;lia,by show sz.length<=6;lia,fun z h=>(hz z h).1,by show lt<=12;lia,fun k=>(rb.say k).1,fun k=>(rb.say k).2,by show ds.length<=63;lia,fun d hd=>⟨by rw[lr];exact (fit d hd).1,by rw[lr];exact (fit d hd).2.1,(fit d hd).2.2.2.2⟩⟩,esz.symm,hs,rk.fit (by lia),rk.low,by show rs.length<=10;lia,fun d hd=>⟨(fit d hd).2.2.1,(fit d hd).2.2.2.1⟩,by show lt<=5;lia,t1,t5⟩
end
end pA
namespace Ru
open PySem L2 mC ou xT O5 Dl jP
open Bb (Al)
inductive mO(c:jR)(dW:List En)(s0:S4):Nat->List En->S4->Prop where
 | one:mO c dW s0 1 dW s0
 | more {n:Nat} {es e2:List En} {s s2:S4} {e:Int} {l:List Int}:mO c dW s0 n es s->n < c.tn->s.l=e :: l->BV c e ⟨s.os,s.bx,s.ks,l⟩ e2 s2->mO c dW s0 (n+1) (es++e2) s2
noncomputable def wN(l:List Int):List En:=l.map fun e=>En.rc (.lost e)
inductive vI(C:Addr)(n:Nat)(vs:List V)(H:Hp)(Q:VK)(E_:XK):Prop
 | mk (pc ps pr p c s es rv fp J) (_:vs=[.ref pc,.ref ps,.ref pr,.ref p]) (_:uA H pc c) (_:All c J n) (_:cL H ps s) (_:gK c s) (_:J s.os s.ks) (_:LL C H p fp c.lb s.l) (_:H pr=some (.lst rv)) (_:Al (iD H) rv es) (_:es.length<=40001) (_:c.tn<=20) (_:∀ t ps' pw wv n' es' s' fp' H',mO c es s n' es' s'->(c.tn<=n' ∨ s'.l=[])->J s'.os s'.ks->gK c s'->bM H H' fp fp'->H' t=some (.tup [.ref ps',.ref pw])->cL H' ps' s'->H' pw=some (.lst wv)->H pw=none->pw ∉ fp'->Al (iD H') wv (es'++wN s'.l)->wv.length<=1000000->Q (.ref t) H')
theorem cL.tail(x:cL H ps s)(l:List Int):cL H ps ⟨s.os,s.bx,s.ks,l⟩:=x
section
theorem fZ:aH ["chart","stand","record","letters","now","whole","turns","told"] ["chart","stand","record","letters"] (aC mY):=fW
theorem MP(F:dM K "rested" "rested" mY f fd)(cl:xW K C)
  (mT:Meth K C "taken" gt) (W4:aO P w K mg base aZ m gt dt ["self"] (Ju (LL C))) (Vu:Binds K dt ["self"] [])
  (mW:Meth K C "waiting" gw) (BX:aO P w K mg base aZ m gw dw ["self"] (yx (LL C))) (BL:Binds K dw ["self"] [])
  (Jg:Dp P w K mg base aZ m g1 d1 ["chart","stand","event","letters"] (Hh C n) "turn")
  (aU:mg "len" = none) (dB:mg "list" = none):aO P w K mg base aZ (m+1) f fd ["chart","stand","record","letters"] (vI C n):=by
 refine F.ok fZ (fun vs H Q E h=>?_) (fun cdv A outer s H vs Q E hr h=>?_)
 ·refine aL fun G_ g_=>?_;obtain⟨pc,ps,pr,p,c,s,es,rv,fp,J,rfl,_⟩:=h;apply g_;clear g_ G_;rfl
 refine aL fun G_ g_=>?_;obtain⟨pc,ps,pr,p,c,st,dW,Wd,fp,J,rfl,hC,al,hS,so,js,hL,hpr,hA,Zw,Ze,q⟩:=h;apply g_;clear g_ G_
 refine⟨_,(zE (zK (i:=4) fZ.nd rfl (Or.inl rfl) (pv 1))
  (zE (zK (i:=5) fZ.nd rfl (Or.inl rfl) (yA dH rfl dB PyProof.Rows.boot_list (zA (pv 2) zD)))
  (zE (zK (i:=6) fZ.nd rfl (Or.inl rfl) zB)
  (zZ (ql PassesOwn.never (cC (PW.pt (pw_and (zL j5 (pv 6) (yB zH (pv 0) zB (fun _ _=>rfl)) (zR _)) (yP (zL Aa (zS zN rfl aU bh (zA (wC (pv 3) cl mW BX hr BL .nil yE) zD)) zB (zR _))))))
  (zE (zK (i:=7) fZ.nd rfl (Or.inl rfl) (pC Jg hr (zA (pv 0) (zA (pv 4) (zA (wC (pv 3) cl mT W4 hr Vu .nil yE) (zA (pv 3) zD))))))
  (zE (zK (i:=4) fZ.nd rfl (Or.inl rfl) (yB zH (pv 7) zB (fun _ _=>rfl)))
  (zE (yI (fX jl PySem.F.slot_list_extend PySem.F.type_list_extend iY (pv 5) (zA (yB zH (pv 7) zB (fun _ _=>rfl)) zD)))
  (zG (Y8 (i:=6) fZ.nd rfl (Or.inl rfl) zB Yw))))))
  (zE (yI (fX jl PySem.F.slot_list_extend PySem.F.type_list_extend iY (pv 5) (zA (yT (aY:=[]) rfl (show bJ (aC mY) ["chart","stand","record","letters","now","whole","turns","told"] _ _ _ from ym) (yM (wC (pv 3) cl mW BX hr BL .nil yE)) (fun _ _ _ _ _ _=>cD) (fun _ _ _ _ _ _=>zW (zA zP (zA (pv 0) zD)))) zD)))
  (zG (zO (zW (zA (pv 4) (zA (pv 5) zD)))))))))),?_⟩
 have lA:=hA.length;refine⟨_,rfl,_,rfl,gf rfl (.inl (aR.of hpr)) (fun pw N7=>?_)⟩;have u1:=zF N7 (.lst Wd);have i1:upd H pw (.lst Wd) pw=some (.lst Wd):=zC;generalize upd H pw (.lst Wd)=H1 at u1 i1 ⊢;refine aL fun G_ g_=>?_;obtain⟨pb,t,pd,x4,bv,dv,h1,h2,h3,h4,h5,h6,h7⟩:=id hC;apply g_;clear g_ G_;refine⟨fun σ' Hi => ∃ nt mL cM rv es si o6 o7,σ'=[some (.ref pc),some (.ref ps),some (.ref pr),some (.ref p),some (.ref mL),some (.ref pw),o6,o7]/\bM H Hi fp cM/\LL C Hi p cM c.lb si.l/\cL Hi mL si/\gK c si/\J si.os si.ks/\mO c dW st nt es si/\(c.tn<=nt ∨ si.l=[])/\Hi pw=some (.lst rv)/\pw ∉ cM/\Al (iD Hi) rv es/\es.length<=900000,?_,?_⟩
 ·refine⟨fun ms σ' Hi => ∃ nt mL cM rv es si o7,ms=20 - nt/\σ'=[some (.ref pc),some (.ref ps),some (.ref pr),some (.ref p),some (.ref mL),some (.ref pw),some (.int (nt:Int)),o7]/\bM H Hi fp cM/\LL C Hi p cM c.lb si.l/\cL Hi mL si/\gK c si/\J si.os si.ks/\mO c dW st nt es si/\Hi pw=some (.lst rv)/\pw ∉ cM/\Al (iD Hi) rv es/\es.length<=40001 * nt/\nt<=20,
   ⟨_,1,ps,fp,Wd,dW,st,_,rfl,rfl,bM.same fp u1,LL.same hL u1,hS.mono (aA.of u1),so,js,.one,i1,LL.new hL N7,hA.mono fun _ _ z=>z.mono (aA.of u1),by lia,by decide⟩,?_⟩
  rintro ms σ' Hi bV;refine aL fun G_ g_=>?_;obtain⟨nt,mL,cM,rv,es,si,o7,rfl,rfl,Sw,hLi,hSi,EY,ji,RR,hwi,nwi,ur,lei,n20⟩:=bV;apply g_;clear g_ G_;have kt:=bM.keep Sw hL;refine⟨fun b H'=>∃ fp':List Addr,bM Hi H' cM fp'/\LL C H' p fp' c.lb si.l/\(b=true->nt < c.tn/\si.l ≠ [])/\(b=false->c.tn<=nt ∨ si.l=[]),?_,?_⟩
  ·refine⟨_,rfl,_,rfl,aF (aJ.of (kt _ _ h1)) rfl (bF ⟨_,rfl,jg (fun z=>?_) (fun z=>?_)⟩)⟩
   ·have z1:=of_decide_eq_true z;refine aL fun G_ g_=>?_;obtain⟨dx,fs,ho,n1,n2,n3⟩:=(iJ C).obj hLi;apply g_;clear g_ G_;refine⟨_,rfl,p,dx,fs,rfl,ho,n3,p,cM,c.lb,si.l,rfl,hLi,EY.l,al.ok.VD,fun qa fp' H' hL' st' nq nqf hqa=>?_⟩;refine (gf rfl (.inl (aR.of hqa)) (bF ⟨_,rfl,fp',st',hL',fun z2=>⟨by lia,fun z3=>?_⟩,fun z2=>.inr ?_⟩))
    ·rw[z3]at z2
     cases z2
    ·have z2:=of_decide_eq_false z2;rw[bZ]at z2;exact List.eq_nil_of_length_eq_zero (by lia)
   ·have z1:=of_decide_eq_false z;exact⟨cM,bM.same cM (aG.refl _),hLi,(fun z=>by cases z),fun _=>.inl (by lia)⟩
  rintro b H2 bV;refine aL fun G_ g_=>?_;obtain⟨xZ,st2,hL2,ht,hf⟩:=bV;apply g_;clear g_ G_;have k2:=bM.keep st2 hLi;have hw2:=bM.apart st2 hwi nwi;have qAO:=bM.trans Sw st2;refine jg (fun z=>?_) (fun z=>?_)
  ·refine aL fun G_ g_=>?_;obtain⟨lt,ne⟩:=ht z
   obtain⟨e,l',el⟩:∃ e l',si.l=e :: l':=by
    cases hl:si.l with
    | nil=>exact absurd hl ne
    | cons e l'=>exact⟨e,l',rfl⟩
   apply g_;clear g_ G_;refine⟨fun σ' H'=>∃ mL cM rv es si o7,σ'=[some (.ref pc),some (.ref ps),some (.ref pr),some (.ref p),some (.ref mL),some (.ref pw),some (.int ((nt+1:Nat):Int)),o7]/\bM H H' fp cM/\LL C H' p cM c.lb si.l/\cL H' mL si/\gK c si/\J si.os si.ks/\mO c dW st (nt+1) es si/\H' pw=some (.lst rv)/\pw ∉ cM/\Al (iD H') rv es/\es.length<=40001 * (nt+1),?_,?_⟩
   ·rintro σ' H' bV;refine aL fun G_ g_=>?_;obtain⟨mL,cM,rv,es,si,o7,z1,z2,z3,z4,z5,z6,z7,z8,z9,z10,z11⟩:=bV;apply g_;clear g_ G_;exact⟨20 - (nt+1),by lia,nt+1,mL,cM,rv,es,si,o7,rfl,z1,z2,z3,z4,z5,z6,z7,z8,z9,z10,z11,by lia⟩
   refine aL fun G_ g_=>?_;obtain⟨dx,fs,ho,n1,n2,n3⟩:=(iJ C).obj hL2;apply g_;clear g_ G_;refine⟨_,rfl,_,rfl,_,rfl,p,dx,fs,rfl,ho,n2,p,xZ,c.lb,si.l,rfl,hL2,EY.l,al.ok.VD,fun fp3 H3 Zy st3=>?_⟩;have k3:=bM.keep st3 hL2;have hw3:=bM.apart st3 hw2.1 hw2.2;have qAN:=bM.trans qAO st3;have k03:=bM.keep qAN hL;rw[el]at Zy ⊢;have ll:=EY.l;rw[el,eO]at ll;refine⟨_,rfl,pc,mL,p,c,e,⟨si.os,si.bx,si.ks,l'⟩,fp3,J,rfl,hC.mono k03,al,(hSi.mono (k2.trans k3)).tail l',⟨EY.inc,EY.lt,EY.Sy,EY.bx,EY.ks,by show l'.length<=_;lia⟩,ji,Zy,fun tt ps2 OJ uQ s2 es2 fp4 H4 TR j4 hL4 Ej htt hS4 so4 hr4 nr4 nrf4 hA4 le4=>?_⟩;have k4:=bM.keep Ej Zy;have hw4:=bM.apart Ej hw3.1 hw3.2;have qES:=bM.trans qAN Ej
   have nerw:OJ ≠ pw:=fun z=>by rw[z,hw3.1]at nr4;cases nr4
   have lAi:=ur.length;have lA4:=hA4.length;refine⟨_,rfl,aF (aJ.of htt) rfl ?_⟩;refine⟨_,rfl,.inl ⟨rfl,_,aR.of hw4.1⟩,_,rfl,aF (aJ.of htt) rfl ⟨pw,OJ,_,_,rfl,rfl,hw4.1,hr4,(by rw[sizeLine_eq];lia),?_⟩⟩;have k5:=aA.lst hw4.1 (.lst (rv++uQ));have GQ:=k2.trans (k3.trans (k4.trans k5));refine⟨_,rfl,bF ⟨ps2,fp4,rv++uQ,es++es2,s2,_,rfl,bM.upd qES N7 _,LL.upd hL4 hw4.2 _,hS4.mono k5,so4,j4,.more RR lt el TR,zC,hw4.2,Al.app (ur.mono fun _ _ z=>z.mono GQ) (hA4.mono fun _ _ z=>z.mono k5),by rw[dN];lia⟩⟩
  ·exact⟨nt,mL,xZ,rv,es,si,_,_,rfl,qAO,hL2,hSi.mono k2,EY,ji,RR,hf z,hw2.1,hw2.2,ur.mono fun _ _ z=>z.mono k2,by lia⟩
 rintro σ' Hi bV;refine aL fun G_ g_=>?_;obtain⟨nt,mL,cM,rv,es,si,o6,o7,rfl,Sw,hLi,hSi,EY,ji,RR,dn,hwi,nwi,ur,lei⟩:=bV;obtain⟨dx,fs,ho,n1,n2,n3⟩:=(iJ C).obj hLi;apply g_;clear g_ G_;refine⟨_,rfl,.inl ⟨rfl,_,aR.of hwi⟩,_,rfl,p,dx,fs,rfl,ho,n3,p,cM,c.lb,si.l,rfl,hLi,EY.l,al.ok.VD,fun qa xZ H2 hL2 st2 nq nqf hqa=>?_⟩;have k2:=bM.keep st2 hLi;have hw2:=bM.apart st2 hwi nwi
 have newq:qa ≠ pw:=fun z=>by rw[z,hwi]at nq;cases nq
 have VD:=al.ok.VD;have sil:=EY.l;refine⟨qa,rfl,⟨_,aR.of hqa⟩,?_⟩;refine yS (K:=K) (a:=qa) (xs:=si.l.map V.int) (fun i acc H'=>aG H2 H'/\acc.length=i/\Al (iD H') acc (wN (si.l.take i))) ⟨aG.refl _,rfl,.nil⟩ (fun i acc H' z=>aR.of (z.1 _ _ hqa)) ?_ ?_
 ·rintro i x acc H' hx bV;refine aL fun G_ g_=>?_;obtain⟨s1,la,hB⟩:=bV;apply g_;clear g_ G_;rw[cG]at hx
  cases hk:si.l[i]? with
  | none=>rw[hk]at hx;cases hx
  | some e=>
   rw[hk]at hx;obtain rfl:=iM hx;have hi:=(jM.mp hk).1;refine⟨_,rfl,zI (by show 2<=1000;decide),fun p5 TX=>⟨by rw[sizeLine_eq];lia,s1.trans (zF TX _),by rw[dN,iG,la],?_⟩⟩;unfold wN at hB ⊢;rw[jN,hk,jn];exact (hB.mono fun _ _ z=>z.mono (aA.of (zF TX _))).snoc ⟨p5,rfl,zC⟩
 rintro acc H3 ⟨s3,la,hB⟩ pz hpz;rw[bZ,uz (bD _)]at hB;rw[bZ]at la;have u4:=zF hpz (.lst acc);have i4:upd H3 pz (.lst acc) pz=some (.lst acc):=zC;have s4:=s3.trans u4;have w4:=s4 _ _ hw2.1;generalize upd H3 pz (.lst acc)=H4 at u4 i4 s4 w4 ⊢;have lAi:=ur.length;have nzw:pw ≠ pz:=zM (s3 _ _ hw2.1) hpz;refine⟨pw,pz,_,_,rfl,rfl,w4,i4,(by rw[sizeLine_eq];lia),?_⟩;have k5:=aA.lst w4 (.lst (rv++acc));have hL5:LL C (upd H4 pw (.lst (rv++acc))) p xZ c.lb si.l:=LL.upd (LL.same hL2 s4) hw2.2 _;have xn:bM H (upd H4 pw (.lst (rv++acc))) fp xZ:=bM.upd (bM.trans (bM.trans Sw st2) (bM.same xZ s4)) N7 _;have r5:upd H4 pw (.lst (rv++acc)) pw=some (.lst (rv++acc)):=zC;generalize upd H4 pw (.lst (rv++acc))=H5 at k5 hL5 xn r5 ⊢;refine⟨_,rfl,_,rfl,zI (by show 2<=1000;decide),fun tt htt=>?_⟩;have u6:=zF htt (.tup [V.ref mL,V.ref pw]);have k26:aA H2 (upd H5 tt (.tup [V.ref mL,V.ref pw])):=(aA.of s4).trans (k5.trans (aA.of u6));exact q tt mL pw (rv++acc) nt es si xZ _ RR dn ji EY (bM.trans xn (bM.same xZ u6)) zC (hSi.mono (k2.trans k26)) (u6 _ _ r5) N7 hw2.2 (Al.app (ur.mono fun _ _ z=>z.mono (k2.trans k26)) (hB.mono fun _ _ z=>z.mono ((aA.of u4).trans (k5.trans (aA.of u6))))) (by rw[dN];lia)
end
theorem made{H H1:Hp}{x dx:Addr}{fp:List Addr}(nx:H x=none)(ndx:H dx=none)(own:∀ b∈fp,b=x ∨ upd (upd H dx (.own x)) x (.ins C dx []) b=none)(rest:∀ b o,upd (upd H dx (.own x)) x (.ins C dx []) b=some o->b ≠ x->H1 b=some o):aG H H1/\∀ b∈fp,H b=none:=by
 refine⟨fun b o e=>?_,fun b hb=>?_⟩
 ·have nb:=zM e nx;refine rest b o ?_ nb;rw[zQ nb,zQ (zM e ndx)];exact e
 ·rcases own b hb with z | z
  ·rw[z];exact nx
  ·by_cases y:b=x
   ·rw[y];exact nx
   ·rw[zQ y]at z
    by_cases y2:b=dx
    ·rw[y2];exact ndx
    ·rw[zQ y2]at z;exact z
theorem FP(h:H p=some (.tup [])):∀ k:Nat,ao H (List.replicate k [V.ref p]).flatten (List.replicate k [])
 | 0=>.nil
 | k+1=>.cons ⟨p,rfl,h⟩ (FP h k)
noncomputable def sS(c:jR)(bs:List (Int × Int))(ms:List Nat):S4:=⟨ms,(cP c.sz c.lb (ms.map fun r=>(En.inn r,c.di r)) (bs.map (·.2)) []).1,List.replicate c.rs.length [],(cP c.sz c.lb (ms.map fun r=>(En.inn r,c.di r)) (bs.map (·.2)) []).2.1⟩
noncomputable def Hg(c:jR)(bs:List (Int × Int))(ms:List Nat):List En:=(cP c.sz c.lb (ms.map fun r=>(En.inn r,c.di r)) (bs.map (·.2)) []).2.2
def uB(c:jR)(bs:List (Int × Int))(es:List En)(s:S4):Prop:=∃ ms n e1,Tr.SM (aD c.rs) (Li c.rs) [] none ms/\mO c (Hg c bs ms) (sS c bs ms) n e1 s/\(c.tn<=n ∨ s.l=[])/\es=e1++wN s.l
theorem KN:∀ {n:Nat} {e1:List En} {s1:S4},mO c dW s0 n e1 s1->∀ {e2:List En} {s2:S4},mO c dW s0 n e2 s2->e1=e2/\s1=s2:=by
 intro n e1 s1 h1
 induction h1 with
 | one=>
  intro e2 s2 h2;generalize hm:1=m at h2
  cases h2 with
  | one=>exact⟨rfl,rfl⟩
  | @more n _ _ _ _ _ _ h _ _ _=>
   have:n=0:=by lia
   subst this
   exact absurd h (by
    intro z;generalize hz:(0:Nat)=q at z
    cases z with
    | one=>lia
    | more=>lia)
 | @more n es e2' s s2' e l h lt el tr ih=>
  intro e2 s2 h2;generalize hm:n+1=m at h2
  cases h2 with
  | one=>
   have:n=0:=by lia
   subst this
   exact absurd h (by
    intro z;generalize hz:(0:Nat)=q at z
    cases z with
    | one=>lia
    | more=>lia)
  | @more n' es' e3 s' s3 e' l' h' lt' el' tr'=>
   obtain rfl:n=n':=by lia
   obtain⟨rfl,rfl⟩:=ih h';rw[el]at el';injection el' with a b;subst a;subst b;obtain⟨rfl,rfl⟩:=Ei tr tr';exact⟨rfl,rfl⟩
theorem KJ(h:mO c dW s0 n e1 s1):1<=n:=by
 cases h with
 | one=>exact bD _
 | more=>lia
theorem Px:∀ {n:Nat} {e1:List En} {s1:S4},mO c dW s0 n e1 s1->∀ m:Nat,1<=m->m < n->∃ e2 s2,mO c dW s0 m e2 s2/\m < c.tn/\s2.l ≠ []:=by
 intro n e1 s1 h1
 induction h1 with
 | one=>
  intro m m1 m2;lia
 | @more n es e2' s s2' e l h lt el tr ih=>
  intro m m1 m2
  by_cases z:m < n
  ·exact ih m m1 z
  ·have:m=n:=by lia
   subst this;exact⟨es,s,h,lt,by rw[el];simp⟩
theorem KQ(h1:mO c dW s0 n e1 s1)(h2:mO c dW s0 m e2 s2)(d1:c.tn<=n ∨ s1.l=[])(d2:c.tn<=m ∨ s2.l=[]):e1=e2/\s1=s2:=by
 have p1:=KJ h1;have p2:=KJ h2
 have key:∀ {n m:Nat} {e1:List En} {s1:S4} {e2:List En} {s2:S4},mO c dW s0 n e1 s1->mO c dW s0 m e2 s2->1<=n->(c.tn<=n ∨ s1.l=[])->¬ n < m:=fun {n m e1 s1 e2 s2} h1 h2 p1 d1 z=>by
  obtain⟨e3,s3,h3,a,b⟩:=Px h2 n p1 z;obtain⟨_,rfl⟩:=KN h1 h3;rcases d1 with y | y
  ·lia
  ·exact b y
 have:n=m:=by
  have a:=key h1 h2 p1 d1;have b:=key h2 h1 p2 d2;lia
 subst this;exact KN h1 h2
theorem fP(h1:uB c bs e1 s1)(h2:uB c bs e2 s2):e1=e2/\s1=s2:=by
 obtain⟨ms,n,x,i1,r1,d1,rfl⟩:=h1;obtain⟨xY,n',x',i2,r2,d2,rfl⟩:=h2;obtain rfl:=i1.unique i2;obtain⟨rfl,rfl⟩:=KQ r1 r2 d1 d2;exact⟨rfl,rfl⟩
noncomputable def cg(es:List En):List Str:=es.filterMap fun e=>match e with
 | .rc (.say w)=>some w
 | _=>none
theorem zg(es:List En)(e:En):cg (es++[e])=cg es++(match e with | .rc (.say w)=>[w] | _=>[]):=by
 unfold cg;rw[List.filterMap_append];congr 1
 cases e with
 | rc r=>cases r <;> rfl
 | _=>rfl
theorem Lz(e:En):∃ s' x' r',e.row = .str s' :: x' :: r'/\(decide (V.str s'=V.str ("say" : Str))=true->∃ w,e = .rc (.say w)/\x' = .str w)/\(decide (V.str s'=V.str ("say" : Str))=false->∀ w,e ≠ .rc (.say w)):=by
 have no:∀ {s':Str},¬ s' = "say" -> decide (V.str s'=V.str ("say" : Str))=true->False:=fun h z=>h (by
  have:=of_decide_eq_true z
  injection this)
 cases e with
 | rc r=>
  cases r with
  | say w=>exact⟨"say",_,_,rfl,fun _=>⟨w,rfl,rfl⟩,fun z=>absurd rfl (of_decide_eq_false z)⟩
  | put a b=>exact⟨"put",_,_,rfl,fun z=>(no (by decide +kernel) z).elim,fun _ w z=>by cases z⟩
  | send a=>exact⟨"send",_,_,rfl,fun z=>(no (by decide +kernel) z).elim,fun _ w z=>by cases z⟩
  | lost a=>exact⟨"lost",_,_,rfl,fun z=>(no (by decide +kernel) z).elim,fun _ w z=>by cases z⟩
 | inn k=>exact⟨"in",_,_,rfl,fun z=>(no (by decide +kernel) z).elim,fun _ w z=>by cases z⟩
 | out k=>exact⟨"out",_,_,rfl,fun z=>(no (by decide +kernel) z).elim,fun _ w z=>by cases z⟩
 | door k=>exact⟨"door",_,_,rfl,fun z=>(no (by decide +kernel) z).elim,fun _ w z=>by cases z⟩
 | thr k=>exact⟨"through",_,_,rfl,fun z=>(no (by decide +kernel) z).elim,fun _ w z=>by cases z⟩
 | take k=>exact⟨"take",_,_,rfl,fun z=>(no (by decide +kernel) z).elim,fun _ w z=>by cases z⟩
theorem Nr(hpr:H pr=some (.lst rv))(hA:Al (iD H) rv es)(hz:es.length<=2000000)
  (h1:∀ a s' x' r',H a=some (.tup (.str s' :: x' :: r'))->∀ Zb:Bool->Hp->Prop,Zb (decide (V.str s'=V.str ("say" : Str))) H->tc (some (.ref a) :: cs) H Zb)
  (h2:∀ a s' x' r',H a=some (.tup (.str s' :: x' :: r'))->∀ Zv:V->Hp->Prop,Zv x' H->te (some (.ref a) :: cs) H Zv)
  (h3:Z ((cg es).map V.str) H):lF (ZW K pr) cs tc te H Z:=by
 have lr:=hA.length;refine yS (fun i acc H'=>H'=H/\acc.length<=i/\acc=(cg (es.take i)).map V.str) ⟨rfl,bD _,rfl⟩ (fun i acc H' z=>by rw[z.1];exact aR.of hpr) ?_ ?_
 ·rintro i x acc H' hx ⟨rfl,la,rfl⟩
  have hi:i < es.length:=by
   have:=(jM.mp hx).1;lia
  have hk:=dX hi;obtain⟨v,hv,a,rfl,ha⟩:=hA.get hk;rw[hv]at hx;obtain rfl:=iM hx
  have Ec:es.take (i+1)=es.take i++[es[i]]:=by
   rw[jN,hk];rfl
  obtain⟨s',x',r',e1,e2,e3⟩:=Lz es[i];rw[e1]at ha;refine h1 a s' x' r' ha _ ?_
  cases c:decide (V.str s'=V.str ("say" : Str)) with
  | true=>
   obtain⟨w,ew,rfl⟩:=e2 c;refine TJ rfl (h2 a s' _ r' ha _ ⟨by rw[sizeLine_eq];lia,rfl,by rw[dN,iG];lia,?_⟩);rw[Ec,zg,ew,jn];rfl
  | false=>
   refine j8 rfl ⟨rfl,by lia,?_⟩;rw[Ec,zg];have e3:=e3 c;generalize es[i]=e at e3
   cases e with
   | rc r=>
    cases r with
    | say w=>exact absurd rfl (e3 w)
    | put a b=>rw[fY]
    | send a=>rw[fY]
    | lost a=>rw[fY]
   | inn k=>rw[fY]
   | out k=>rw[fY]
   | door k=>rw[fY]
   | thr k=>rw[fY]
   | take k=>rw[fY]
 ·rintro acc H' ⟨rfl,_,rfl⟩;rw[uz (by lia)];exact h3
inductive Hj(vs:List V)(H:Hp)(Q:VK)(E_:XK):Prop
 | mk (pr rv es) (_:vs=[.ref pr]) (_:H pr=some (.lst rv)) (_:Al (iD H) rv es) (_:es.length<=2000000) (_:∀ p H',aG H H'->H p=none->H' p=some (.lst ((cg es).map V.str))->Q (.ref p) H')
inductive Bh(n:Nat)(vs:List V)(H:Hp)(Q:VK)(E_:XK):Prop
 | mk (pc c bs ne) (_:vs=[.ref pc]) (_:pA.Ln H pc c bs ne) (_:pA.oG c bs) (_:3<=n) (_:∀ t ps pw wv es s H',uB c bs es s->Jw c s.os s.ks->gK c s->aG H H'->H' t=some (.tup [.ref ps,.ref pw])->cL H' ps s->H' pw=some (.lst wv)->H pw=none->Al (iD H') wv es->es.length<=1000000->Q (.ref t) H')
section
theorem U0:aH ["record"] ["record"] (aC vU):=fW
theorem Ut(F:dM K "said" "said" vU f fd):aO P w K mg base aZ 1 f fd ["record"] Hj:=by
 refine F.ok U0 (fun vs H Q E h=>?_) (fun cdv A outer s H vs Q E hr h=>?_)
 ·refine aL fun G_ g_=>?_;obtain⟨pr,rv,es,rfl,_⟩:=h;apply g_;clear g_ G_;rfl
 refine aL fun G_ g_=>?_;obtain⟨pr,rv,es,rfl,hpr,hA,hz,q⟩:=h;apply g_;clear g_ G_;refine⟨_,(zG (zO (yT (aY:=[]) rfl (show bJ (aC vU) ["record"] _ _ _ from ym) (yM (pv 0)) (fun _ _ _ _ _ _=>gZ (zL (r:=rEq) yG (yB (r:=kJ K) zH (pv 0) zB (fun _ _=>rfl)) zP (zR _))) (fun _ _ _ _ _ _=>yB (r:=kJ K) zH (pv 0) zB (fun _ _=>rfl))))),?_⟩;refine⟨_,rfl,pr,rfl,⟨_,aR.of hpr⟩,?_⟩;refine Nr hpr hA hz (fun a s' x' r' ha Zb hz=>?_) (fun a s' x' r' ha Zv hz=>?_) (fun pl hpl=>q pl _ (zF hpl _) hpl zC)
 ·exact⟨_,rfl,a,_,_,V.str s',rfl,rfl,aJ.of ha,(yQ rfl),rfl,_,rfl,hz⟩
 ·exact⟨_,rfl,aF (aJ.of ha) ((yQ rfl)) hz⟩
theorem iu:aH ["chart","rooms","letters","entered","starts","told","stand"] ["chart"] (aC qU):=fW
theorem QX{f gi g1 g2 g3 g4 g5:Addr}{fd di d1 d2 d3 d4 d5:FuncData}(F:dM K "begun" "begun" qU f fd)(Mk':Mk K C gi)
  (qK:aO P w K mg base aZ m gi di ["self","most"] (Hl C (LL C))) (qI:Binds K di ["self","most"] []) (t8:mg "Letters" = some (.ref C))
  (oE:Dp P w K mg base aZ (m+1) g1 d1 ["rooms","under","goals"] Xn "goings_in")
  (tY:Dp P w K mg base aZ (m+1) g2 d2 ["steps","boxes","sizes","letters"] (sU C) "stepped")
  (qL:Dp P w K mg base aZ (m+1) g3 d3 ["rooms","entered"] (jt En.inn true) "steps_in")
  (qM:Dp P w K mg base aZ (m+1) g4 d4 ["chart"] Bg "sizes_of")
  (xV:Dp P w K mg base aZ (m+1) g5 d5 ["chart","stand","record","letters"] (vI C n) "rested")
  (aW:mg "tuple" = none) (aU:mg "len" = none):aO P w K mg base aZ (m+2) f fd ["chart"] (Bh n):=by
 refine F.ok iu (fun vs H Q E h=>?_) (fun cdv A outer s H vs Q E hr h=>?_)
 ·refine aL fun G_ g_=>?_;obtain⟨pc,c,bs,ne,rfl,_⟩:=h;apply g_;clear g_ G_;rfl
 refine aL fun G_ g_=>?_;obtain⟨pc,c,bs,ne,rfl,hX,ok,n3,q⟩:=h;apply g_;clear g_ G_
 refine⟨_,(zE (zK (i:=1) iu.nd rfl (Or.inl rfl) (yB zH (pv 0) zB (fun _ _=>rfl)))
  (zE (zK (i:=2) iu.nd rfl (Or.inl rfl) (CK Mk' qK hr rfl t8 qI .nil yE (zA (yB zH (pv 0) zB (fun _ _=>rfl)) zD)))
  (zE (zK (i:=3) iu.nd rfl (Or.inl rfl) (pC oE hr (zA (pv 1) (zA gA (zA (yK zD) zD)))))
  (zE (zK (i:=4) iu.nd rfl (Or.inl rfl) (yA zX rfl aW lD (zA (yT (aY:=[]) rfl (show bJ (aC qU) ["chart","rooms","letters","entered","starts","told","stand"] _ _ _ from ym) (mq (yB zH (pv 0) zB (fun _ _=>rfl))) (fun _ _ _ _ _ _=>cD) (fun _ _ _ _ _ _=>(yB (r:=kJ K) zH (pv 0) zB (fun _ _=>rfl)))) zD)))
  (zE (zK (i:=5) iu.nd rfl (Or.inl rfl) (pC tY hr (zA (pC qL hr (zA (pv 1) (zA (pv 3) zD))) (zA (pv 4) (zA (pC qM hr (zA (pv 0) zD)) (zA (pv 2) zD))))))
  (zE (zK (i:=6) iu.nd rfl (Or.inl rfl) (zW (zA (yA zX rfl aW lD (zA (pv 3) zD)) (zA (yB zH (pv 5) zB (fun _ _=>rfl)) (zA (iz (yC Uj (zW (zA (zW zD) zD)) (zS zN rfl aU bh (zA (pv 1) zD)))) zD)))))
  (zG (zO (pC xV hr (zA (pv 0) (zA (pv 6) (zA (yB zH (pv 5) zB (fun _ _=>rfl)) (zA (pv 2) zD))))))))))))),?_⟩
 refine aL fun G_ g_=>?_;obtain⟨pb,pn,t,pd,bv,nv,rv,dv,h1,h2,h3,h4,h5,h6,h7,h8,h9,h10⟩:=id hX;apply g_;clear g_ G_;have hC:=hX.ch ok;have Km:=h7.length;have lbv:=h3.length;have good:=ok.ok.good;have npos:=good.pos;have ld:=yV c.rs;have l10:=ok.l10;have b6:=ok.ok.b6
 have lsz:c.sz.length=bs.length:=by rw[ok.sz,bZ]
 refine⟨_,rfl,aF (aJ.of h1) rfl ?_⟩;refine⟨_,rfl,aF (aJ.of h1) rfl (fun x dx nx ndx qBH=>⟨x,dx,c.lb,rfl,zC,ok.ok.VD,fun fp H1 hL1 own rest=>⟨rfl,?_⟩⟩)⟩;obtain⟨s1,Zn⟩:=made nx ndx own rest;clear own rest;refine⟨_,rfl,Nat.zero_le _,fun pg hpg=>?_⟩;have u2:=zF hpg (.lst []);have i2:upd H1 pg (.lst []) pg=some (.lst (aB [])):=zC;generalize upd H1 pg (.lst [])=H2 at u2 i2 ⊢;have s2:=s1.trans u2;refine⟨t,pg,c.rs,none,[],rfl,⟨rv,s2 _ _ h6,h7.mono (aA.of s2)⟩,good,ok.ok.r40,(fun u hu=>by cases hu),⟨i2,(fun g hg=>by cases hg),by decide⟩,fun pe ms H3 u3 npe hpe hms=>?_⟩;have s3:=s2.trans u3
 have mlt:∀ k∈ms,k < c.rs.length:=fun k hk=>by
  have:=hms.lt npos k hk;lia
 have ml:ms.length<=10:=by
  have:=hms.len npos;lia
 refine⟨_,rfl,aF (aJ.of (s3 _ _ h1)) rfl ⟨pb,rfl,⟨_,aJ.of (s3 _ _ h2)⟩,?_⟩⟩;refine nW (K:=K) (a:=pb) (xs:=bv) (fun i acc H'=>H'=H3/\acc=((bs.map (·.2)).take i).map V.int) ⟨rfl,rfl⟩ (fun i acc H' z=>by rw[z.1];exact aJ.of (s3 _ _ h2)) ?_ ?_
 ·rintro i y acc H' hy ⟨rfl,rfl⟩
  have hi:i < bs.length:=by
   have:=(jM.mp hy).1;lia
  have er:=dX hi;refine aL fun G_ g_=>?_;obtain⟨v,hv,a,nm,rfl,ha⟩:=h3.get er;apply g_;clear g_ G_;rw[hv]at hy;obtain rfl:=iM hy;refine⟨_,rfl,aF (aJ.of (s3 _ _ ha)) rfl ⟨zV (by rw[bZ,jc,bZ];lia),rfl,?_⟩⟩;rw[jN,cG,er,jn];rfl
 rintro acc H' ⟨rfl,rfl⟩ pl4 R4;rw[show (bs.map (·.2)).take bv.length=bs.map (·.2) from uz (by rw[bZ];lia)];have u4:=zF R4 (.lst ((bs.map (·.2)).map V.int));have i4:upd H' pl4 (.lst ((bs.map (·.2)).map V.int)) pl4=some (.lst ((bs.map (·.2)).map V.int)):=zC;generalize upd H' pl4 (.lst ((bs.map (·.2)).map V.int))=H4 at u4 i4 ⊢;refine⟨pl4,_,rfl,.inl ⟨aR.of i4,fun ptb qFQ=>?_⟩⟩;have u5:=zF qFQ (.tup ((bs.map (·.2)).map V.int));have i5:upd H4 ptb (.tup ((bs.map (·.2)).map V.int)) ptb=some (.tup ((bs.map (·.2)).map V.int)):=zC;generalize upd H4 ptb (.tup ((bs.map (·.2)).map V.int))=H5 at u5 i5 ⊢;have Xc:=u4.trans u5;have s5:=s3.trans Xc;refine⟨_,rfl,_,rfl,t,pe,c.rs,c.di,c.dO,ms,rfl,⟨rv,s5 _ _ h6,h7.mono (aA.of s5)⟩,h8.mono (aA.of s5),Xc _ _ hpe,mlt,by lia,fun mL Tn H6 u6 YX Z3 ur=>?_⟩;have s6:=s5.trans u6;have ur:Al (qJ H6) Tn (ms.map fun r=>(En.inn r,c.di r)):=ur;refine⟨_,rfl,_,rfl,pc,pb,_,_,_,_,_,_,bv,c.sz,rfl,s6 _ _ h1,s6 _ _ h2,(by rw[ok.sz];exact pA.XD (h3.mono fun _ _ z=>z.mono (aA.of s6))),(by lia),fun tz H7 u7 htz=>?_⟩;have Xx:aG H1 H7:=u2.trans (u3.trans (Xc.trans (u6.trans u7)));have s7:=s1.trans Xx;have hL7:=LL.same hL1 Xx
 have qF6:mL ∉ fp:=fun z=>by
  have e0:H mL=none:=s5.free YX;exact LL.new hL1 ((u2.trans (u3.trans Xc)).free YX) z
 have oks:∀ s∈ms.map (fun r=>(En.inn r,c.di r)),(∀ d∈s.2,d.ok (bs.map (·.2)).length)/\s.2.length<=8:=fun s hs=>by
  refine aL fun G_ g_=>?_;obtain⟨r,_,rfl⟩:=gU.mp hs;apply g_;clear g_ G_;rw[bZ,<-lsz];exact ok.ok.ins r
 refine⟨_,rfl,mL,ptb,tz,x,_,_,bs.map (·.2),c.sz,[],fp,c.lb,rfl,u7 _ _ Z3,qF6,ur.mono (fun _ _ z=>z.mono (aA.of u7)),(u6.trans u7) _ _ i5,htz,hL7,oks,(by rw[bZ];lia),(by rw[bZ];lia),(by rw[bZ];lia),ok.ok.pos,Nat.zero_le _,ok.ok.VD,fun tt tb' pr rv8 fp8 H8 hL8 st8 htt htb hpr Fo YZ hes=>?_⟩
 have toS:∀ {Hx:Hp} {fpx:List Addr},bM H7 Hx fp fpx->aG H Hx:=fun st b o e=>st.rest b o (s7 b o e) fun z=>by
  rw[Zn b z]at e
  cases e
 have s8:=toS st8;have pe8:H8 pe=some (.lst (aB ms)):=st8.rest _ _ ((Xc.trans (u6.trans u7)) _ _ hpe) (LL.new hL1 (u2.free npe));refine⟨_,rfl,pe,_,rfl,.inl ⟨aR.of pe8,fun FW Z2=>?_⟩⟩;have u9:=zF Z2 (.tup (aB ms));have i9:upd H8 FW (.tup (aB ms)) FW=some (.tup (aB ms)):=zC;generalize upd H8 FW (.tup (aB ms))=H9 at u9 i9 ⊢;refine⟨_,rfl,aF (aJ.of (u9 _ _ htt)) rfl ?_⟩;refine⟨fun v H'=>∃ pk kv,v = .ref pk/\aG H9 H'/\H' pk=some (.tup kv)/\ao H' kv (List.replicate c.rs.length []),?_,?_⟩
 ·refine⟨Nat.zero_le _,fun q1 hq1=>⟨zI (by show 1<=1000;decide),fun q2 hq2=>?_⟩⟩;have w1:=zF hq1 (.tup []);have j1:upd H9 q1 (.tup []) q1=some (.tup []):=zC;generalize upd H9 q1 (.tup [])=Ha at w1 j1 hq2 ⊢;have w2:=zF hq2 (.tup [V.ref q1]);have j2:upd Ha q2 (.tup [V.ref q1]) q2=some (.tup [V.ref q1]):=zC;generalize upd Ha q2 (.tup [V.ref q1])=Hb at w2 j2 ⊢;refine⟨_,rfl,gf rfl (.inr (aJ.of ((s8.trans (u9.trans (w1.trans w2))) _ _ h6))) ⟨q2,_,[V.ref q1],rfl,rfl,aJ.of j2,by simp,by lia,?_,fun k1=>?_,fun k2 p3 hp3=>?_⟩⟩
  ·show ((1:Nat):Int) * (rv.length:Int)<=_;rw[sizeLine_eq];lia
  ·refine⟨q2,_,rfl,w1.trans w2,j2,?_⟩
   have e1:c.rs.length=1:=by lia
   rw[e1];exact .cons ⟨q1,rfl,w2 _ _ j1⟩ .nil
  ·have w3:=zF hp3 (.tup (List.replicate (rv.length:Int).toNat [V.ref q1]).flatten);have j3:upd Hb p3 (.tup (List.replicate (rv.length:Int).toNat [V.ref q1]).flatten) p3=some (.tup (List.replicate (rv.length:Int).toNat [V.ref q1]).flatten):=zC;generalize upd Hb p3 (.tup (List.replicate (rv.length:Int).toNat [V.ref q1]).flatten)=Hc at w3 j3 ⊢;refine⟨p3,_,rfl,w1.trans (w2.trans w3),j3,?_⟩;rw[Og,Km];exact FP ((w2.trans w3) _ _ j1) _
 rintro _ ZZ bV;refine aL fun G_ g_=>?_;obtain⟨pk,kv,rfl,u10,TV,hkv⟩:=bV;apply g_;clear g_ G_;refine⟨zI (by show 3<=1000;decide),fun ps hps=>?_⟩;have Xd:=zF hps (.tup [V.ref FW,V.ref tb',V.ref pk]);have i11:upd ZZ ps (.tup [V.ref FW,V.ref tb',V.ref pk]) ps=some (.tup [V.ref FW,V.ref tb',V.ref pk]):=zC;generalize upd ZZ ps (.tup [V.ref FW,V.ref tb',V.ref pk])=H11 at Xd i11 ⊢;have Lq:=u9.trans (u10.trans Xd);have qAM:bM H7 H11 fp fp8:=bM.trans st8 (bM.same fp8 Lq);have Wc:=toS qAM;have hSd:cL H11 ps (sS c bs ms):=⟨FW,tb',pk,kv,i11,(u10.trans Xd) _ _ i9,Lq _ _ htb,Xd _ _ TV,hkv.mono (aA.of Xd)⟩;have les:=vG (sz:=c.sz) (m:=c.lb) (bx:=bs.map (·.2)) (l:=[]) fun y hy=>(oks y hy).2;rw[bZ]at les;have sok:gK c (sS c bs ms):=⟨hms.1,mlt,by show ms.length<=40;lia,by show (cP _ _ _ _ _).1.length=_;rw[vH,bZ,lsz],List.length_replicate,Be (Nat.zero_le _)⟩
 have jw:Jw c (sS c bs ms).os (sS c bs ms).ks:=⟨hms.1,mlt,List.length_replicate,fun r hr=>by
  rw[List.eq_of_mem_replicate hr]
  exact⟨(fun g hg=>by cases hg),by decide⟩⟩
 refine⟨_,rfl,_,rfl,_,rfl,aF (aJ.of (Lq _ _ htt)) rfl ⟨_,rfl,pc,ps,pr,x,c,sS c bs ms,Hg c bs ms,rv8,fp8,Jw c,rfl,hC.mono (aA.of Wc),⟨ok.ok,wide ok.ok,fun d hd=>⟨(ok.g d hd).1,Nat.le_trans (ok.g d hd).2 n3⟩⟩,hSd,sok,jw,LL.same hL8 Lq,Lq _ _ hpr,hes.mono (fun _ _ z=>z.mono (aA.of Lq)),(by unfold Hg;lia),(by have:=ok.t4;lia),fun tr ps' pw wv n' es' s' fp' H' RR dn j' so' st' htr hS' N7 npw npf hA' lw=>?_⟩⟩;exact q tr ps' pw wv _ s' H' ⟨ms,n',es',hms,RR,dn,rfl⟩ j' so' (toS (bM.trans qAM st')) htr hS' N7 (Wc.free npw) hA' (by rw[<-hA'.length];exact lw)
end
def HD(c:jR)(ev:Int)(s:S4)(es:List En)(s':S4):Prop:=∃ e1 e2 s1 n,BV c ev s e1 s1/\mO c e1 s1 n e2 s'/\(c.tn<=n ∨ s'.l=[])/\es=e2++wN s'.l
theorem Dj(h1:HD c ev s e1 s1)(h2:HD c ev s e2 s2):e1=e2/\s1=s2:=by
 obtain⟨a1,b1,t1,n1,x1,y1,z1,rfl⟩:=h1;obtain⟨a2,b2,t2,n2,x2,y2,z2,rfl⟩:=h2;obtain⟨rfl,rfl⟩:=Ei x1 x2;obtain⟨rfl,rfl⟩:=KQ y1 y2 z1 z2;exact⟨rfl,rfl⟩
inductive uZ(n:Nat)(vs:List V)(H:Hp)(Q:VK)(E_:XK):Prop
 | mk (pc ps c ev s) (_:vs=[.ref pc,.ref ps,.int ev]) (_:uA H pc c) (_:All c (Jw c) n) (_:cL H ps s) (_:gK c s) (_:Jw c s.os s.ks) (_:s.l=[]) (_:c.tn<=20) (_:∀ t ps' pw wv es' s' H',HD c ev s es' s'->Jw c s'.os s'.ks->gK c s'->aG H H'->H' t=some (.tup [.ref ps',.ref pw])->cL H' ps' s'->H' pw=some (.lst wv)->H pw=none->Al (iD H') wv es'->wv.length<=1000000->Q (.ref t) H')
section
theorem vR:aH ["chart","stand","event","letters","told"] ["chart","stand","event"] (aC uc):=fW
theorem Qa(F:dM K "after" "after" uc f fd)(cl:xW K C)(Mk':Mk K C gi)
  (qK:aO P w K mg base aZ m gi di ["self","most"] (Hl C (LL C))) (qI:Binds K di ["self","most"] []) (t8:mg "Letters" = some (.ref C))
  (Jg:Dp P w K mg base aZ (m+1) g1 d1 ["chart","stand","event","letters"] (Hh C n) "turn")
  (xV:Dp P w K mg base aZ (m+1) g2 d2 ["chart","stand","record","letters"] (vI C n) "rested") :
  aO P w K mg base aZ (m+2) f fd ["chart","stand","event"] (uZ n):=by
 refine F.ok vR (fun vs H Q E h=>?_) (fun cdv A outer s H vs Q E hr h=>?_)
 ·refine aL fun G_ g_=>?_;obtain⟨pc,ps,c,ev,s,rfl,_⟩:=h;apply g_;clear g_ G_;rfl
 refine aL fun G_ g_=>?_;obtain⟨pc,ps,c,ev,st,rfl,hC,al,hS,so,js,l0,Ze,q⟩:=h;apply g_;clear g_ G_
 refine⟨_,(zE (zK (i:=3) vR.nd rfl (Or.inl rfl) (CK Mk' qK hr rfl t8 qI .nil yE (zA (yB zH (pv 0) zB (fun _ _=>rfl)) zD)))
  (zE (zK (i:=4) vR.nd rfl (Or.inl rfl) (pC Jg hr (zA (pv 0) (zA (pv 1) (zA (pv 2) (zA (pv 3) zD))))))
  (zG (zO (pC xV hr (zA (pv 0) (zA (yB zH (pv 4) zB (fun _ _=>rfl)) (zA (yB zH (pv 4) zB (fun _ _=>rfl)) (zA (pv 3) zD))))))))),?_⟩
 refine aL fun G_ g_=>?_;obtain⟨pb,t,pd,x4,bv,dv,h1,h2,h3,h4,h5,h6,h7⟩:=id hC;apply g_;clear g_ G_;refine⟨_,rfl,aF (aJ.of h1) rfl (fun x dx nx ndx qBH=>?_)⟩;refine⟨x,dx,c.lb,rfl,zC,al.ok.VD,fun fp H1 hL1 own rest=>⟨rfl,?_⟩⟩;obtain⟨s1,Zn⟩:=made nx ndx own rest
 have toS:∀ {H':Hp} {fp':List Addr},bM H1 H' fp fp'->aG H H':=fun st b o e=>st.rest b o (s1 b o e) fun z=>by
  rw[Zn b z]at e
  cases e
 refine⟨_,rfl,_,rfl,_,rfl,_,rfl,pc,ps,x,c,ev,st,fp,Jw c,rfl,hC.mono (aA.of s1),al,hS.mono (aA.of s1),so,js,(by rw[l0];exact hL1),fun tt ps2 pr rv s2 es xZ H2 TR j2 hL2 st2 htt hS2 so2 hr2 nr2 nrf2 Wv le2=>?_⟩;have k2:=bM.keep st2 hL1;refine⟨_,rfl,_,rfl,aF (aJ.of htt) rfl ⟨_,rfl,aF (aJ.of htt) rfl ⟨_,rfl,pc,ps2,pr,x,c,s2,es,rv,xZ,Jw c,rfl,hC.mono ((aA.of s1).trans k2),al,hS2,so2,j2,hL2,hr2,Wv,le2,Ze,fun t3 ps3 pw wv n' es' s' fp3 H3 RR dn j3 so3 st3 ht3 VP hw3 nw3 nwf3 hA3 lw=>?_⟩⟩⟩;have qEQ:=bM.trans st2 st3;exact q t3 ps3 pw wv _ s' H3 ⟨es,es',s2,n',TR,RR,dn,rfl⟩ j3 so3 (toS qEQ) ht3 VP hw3 ((toS st2).free nw3) hA3 lw
end
end Ru
namespace xR
open PySem L2 mC ou xT O5 Dl jP Ru
open Bb (Al)
abbrev KS:=List Key ⊕ List (List Key)
noncomputable def T3:cY (List KS) 3:=(cY.sw (fun i=>decide (i < 2)) (cY.leaf.tup.up 2 (by decide)) cY.leaf.tup.tup).tup
theorem le3:3<=8:=by decide
noncomputable def cV(s:S4):List KS:=[.inl (s.os.map fun n:Nat=>(.inl (n:Int):Key)),.inl (s.bx.map fun n:Int=>(.inl n:Key)),.inr (s.ks.map fun r:List Nat=>r.map fun n:Nat=>(.inl (n:Int):Key))]
theorem Cr:∀ {a b:List Nat},a.map (fun n:Nat=>(.inl (n:Int):Key))=b.map (fun n:Nat=>(.inl (n:Int):Key))->a=b
 | [],[],_=>rfl
 | [],_ :: _,h=>by cases h
 | _ :: _,[],h=>by cases h
 | x :: a,y :: b,h=>by
  rw[List.map_cons,List.map_cons,List.cons.injEq]at h;obtain⟨h1,h2⟩:=h;have h3:=Sum.inl.inj h1;rw[Cr h2,show x=y by lia]
theorem Kq:∀ {a b:List Int},a.map (fun n:Int=>(.inl n:Key))=b.map (fun n:Int=>(.inl n:Key))->a=b
 | [],[],_=>rfl
 | [],_ :: _,h=>by cases h
 | _ :: _,[],h=>by cases h
 | x :: a,y :: b,h=>by
  rw[List.map_cons,List.map_cons,List.cons.injEq]at h;rw[Kq h.2,show x=y from Sum.inl.inj h.1]
theorem GZ:∀ {a b:List (List Nat)},a.map (fun r:List Nat=>r.map fun n:Nat=>(.inl (n:Int):Key))=b.map (fun r:List Nat=>r.map fun n:Nat=>(.inl (n:Int):Key))->a=b
 | [],[],_=>rfl
 | [],_ :: _,h=>by cases h
 | _ :: _,[],h=>by cases h
 | x :: a,y :: b,h=>by
  rw[List.map_cons,List.map_cons,List.cons.injEq]at h;rw[GZ h.2,Cr h.1]
noncomputable def nl(s:S4):S4:=⟨s.os,s.bx,s.ks,[]⟩
theorem wV(h:cV s=cV t):nl s=nl t:=by
 unfold cV at h;simp only[List.cons.injEq,Sum.inl.injEq,Sum.inr.injEq,and_true]at h;obtain⟨h1,h2,h3⟩:=h;unfold nl;rw[Cr h1,Kq h2,GZ h3]
theorem wW(H:Hp):∀ i xs,uW cY.leaf H i (xs.map fun n:Nat=>(.inl (n:Int):Key)) (aB xs)
 | _,[]=>.nil
 | i,_ :: xs=>.cons rfl (wW H (i+1) xs)
theorem GX(H:Hp):∀(i:Nat)(xs:List Int),uW cY.leaf H i (xs.map fun n:Int=>(.inl n:Key)) (xs.map V.int)
 | _,[]=>.nil
 | i,_ :: xs=>.cons rfl (GX H (i+1) xs)
theorem R1(x:ao H kv ks):∀ i:Nat,uW cY.leaf.tup H i (ks.map fun r:List Nat=>r.map fun n:Nat=>(.inl (n:Int):Key)) kv:=by
 induction x with
 | nil=>exact fun _=>.nil
 | cons h _ ih=>
  intro i;obtain⟨a,rfl,ha⟩:=h;exact .cons ⟨a,_,rfl,ha,wW H 0 _⟩ (ih (i+1))
theorem Yx(x:cL H ps s):T3.inn 0 H (cV s) (.ref ps):=by
 obtain⟨po,pb,pk,kv,h1,h2,h3,h4,h5⟩:=x;exact⟨ps,_,rfl,h1,.cons ⟨rfl,po,_,rfl,h2,wW H 0 _⟩ (.cons ⟨rfl,pb,_,rfl,h3,GX H 0 _⟩ (.cons ⟨rfl,pk,kv,rfl,h4,R1 h5 0⟩ .nil))⟩
abbrev Fs:=List (S4 × List Nat)
noncomputable def rowOf(fs:Fs)(s:S4):Option Nat:=fs.findIdx? fun x=>decide (cV x.1=cV s)
noncomputable def nums:Nat->Fs->List (List KS × V)
 | _,[]=>[]
 | i,x :: fs=>(cV x.1,.int (i:Int)) :: nums (i+1) fs
theorem Eg(s:S4):∀ i fs,dD (nums i fs) (cV s)=(rowOf fs s).map fun j=>V.int ((i+j:Nat):Int)
 | _,[]=>rfl
 | i,x :: fs=>by
  unfold nums rowOf;rw[List.findIdx?_cons]
  by_cases h:cV x.1=cV s
  ·rw[c7 h,decide_eq_true h];rfl
  ·rw[cA (p:=(cV x.1,V.int (i:Int))) h,decide_eq_false h,Eg s (i+1) fs];unfold rowOf;rw[if_neg (by decide),Option.map_map];congr 1
   funext j
   show V.int ((i+1+j:Nat):Int)=V.int ((i+(j+1):Nat):Int);rw[show i+1+j=i+(j+1) by lia]
theorem Ab(x:S4 × List Nat):∀ i fs,nums i (fs++[x])=nums i fs++[(cV x.1,V.int ((i+fs.length:Nat):Int))]
 | _,[]=>rfl
 | i,y :: fs=>by
  show (cV y.1,V.int (i:Int)) :: nums (i+1) (fs++[x])=(cV y.1,V.int (i:Int)) :: (nums (i+1) fs++_);rw[Ab x (i+1) fs,eO,show i+1+fs.length=i+(fs.length+1) by lia]
theorem Fl:∀ i fs,(nums i fs).length=fs.length
 | _,[]=>rfl
 | i,x :: fs=>by
  show (nums (i+1) fs).length+1=fs.length+1;rw[Fl (i+1) fs]
theorem pZ(h:rowOf fs s=some i):∃ t p,fs[i]? = some (t,p)/\nl t=nl s:=by
 unfold rowOf at h;rw[List.findIdx?_eq_some_iff_getElem]at h;obtain⟨hi,h1,_⟩:=h;exact⟨fs[i].1,fs[i].2,by rw[dX hi],wV (of_decide_eq_true h1)⟩
theorem vq(h:rowOf fs s=none):∀ x∈fs,nl x.1 ≠ nl s:=by
 unfold rowOf at h;rw[List.findIdx?_eq_none_iff]at h;intro x hx e;have:=of_decide_eq_false (h x hx);apply this;unfold cV
 have e1:x.1.os=s.os:=show (nl x.1).os=(nl s).os by rw[e]
 have e2:x.1.bx=s.bx:=show (nl x.1).bx=(nl s).bx by rw[e]
 have e3:x.1.ks=s.ks:=show (nl x.1).ks=(nl s).ks by rw[e]
 rw[e1,e2,e3]
noncomputable def rR(fs:Fs)(s:S4)(p:List Nat):Fs:=match rowOf fs s with
 | some _=>fs
 | none=>fs++[(s,p)]
noncomputable def Dk(fs:Fs)(s:S4):Nat:=match rowOf fs s with
 | some i=>i
 | none=>fs.length
theorem az(h:rowOf fs s=some i):rR fs s p=fs/\Dk fs s=i:=by
 unfold rR Dk;rw[h];exact⟨rfl,rfl⟩
theorem aq(h:rowOf fs s=none):rR fs s p=fs++[(s,p)]/\Dk fs s=fs.length:=by
 unfold rR Dk;rw[h];exact⟨rfl,rfl⟩
theorem nj(fs:Fs)(s:S4)(p:List Nat):∃ more,rR fs s p=fs++more/\more.length<=1:=by
 cases h:rowOf fs s with
 | some i=>exact⟨[],by rw[(az h).1,fY],Nat.zero_le _⟩
 | none=>exact⟨[(s,p)],(aq h).1,bD _⟩
theorem Vz(fs:Fs)(s:S4)(p:List Nat):∃ t q,(rR fs s p)[Dk fs s]? = some (t,q)/\nl t=nl s:=by
 cases h:rowOf fs s with
 | some i=>
  rw[(az h).1,(az (p:=p) h).2];exact pZ h
 | none=>
  rw[(aq h).1,(aq (p:=p) h).2];exact⟨s,p,by simp,rfl⟩
inductive aX(c:jR)(ne:Nat)(s0:S4):Nat->Fs->List (List En × Nat)->Prop where
 | nil:aX c ne s0 0 [(nl s0,[])] []
 | cell {i:Nat} {fs:Fs} {ms:List (List En × Nat)} {s s':S4} {p:List Nat} {es:List En}:aX c ne s0 i fs ms->0 < ne->fs[i / ne]? = some (s,p)->HD c ((i % ne:Nat):Int) s es s' →
   aX c ne s0 (i+1) (rR fs (nl s') (p++[i % ne])) (ms++[(es,Dk fs (nl s'))])
section
theorem xF(h:aX c ne s0 i fs ms):ms.length=i:=by
 induction h with
 | nil=>rfl
 | cell _ _ _ _ ih=>rw[dN,ih];rfl
theorem wu(h:aX c ne s0 i fs ms):∃ more,fs=(nl s0,[]) :: more:=by
 induction h with
 | nil=>exact⟨[],rfl⟩
 | @cell i fs ms s s' p es h h0 h1 h2 ih=>
  obtain⟨more,e⟩:=ih;obtain⟨m2,e2,_⟩:=nj fs (nl s') (p++[i % ne]);exact⟨more++m2,by rw[e2,e];rfl⟩
theorem Nf(h:aX c ne s0 i fs ms):∀ x∈fs,x.2.length<=i:=by
 induction h with
 | nil=>
  intro x hx;rw[bf.mp hx];exact bD _
 | @cell i fs ms s s' p es h h0 h1 h2 ih=>
  intro x hx;have h3:=ih _ (Bd h1)
  cases e:rowOf fs (nl s') with
  | some j=>
   rw[(az e).1]at hx;have:=ih x hx;lia
  | none=>
   rw[(aq e).1]at hx;rcases eG.mp hx with hx | hx
   ·have:=ih x hx;lia
   ·rw[bf.mp hx,dN,iG];simp only at h3;lia
theorem Cz(h:aX c ne s0 i fs ms):∀ x∈fs,x.1.l=[]:=by
 induction h with
 | nil=>
  intro x hx;rw[bf.mp hx];rfl
 | @cell i fs ms s s' p es h h0 h1 h2 ih=>
  intro x hx
  cases e:rowOf fs (nl s') with
  | some j=>
   rw[(az e).1]at hx;exact ih x hx
  | none=>
   rw[(aq e).1]at hx;rcases eG.mp hx with hx | hx
   ·exact ih x hx
   ·rw[bf.mp hx];rfl
theorem JM(h:aX c ne s0 i fs ms):(fs.map (·.1)).Nodup:=by
 induction h with
 | nil=>exact List.nodup_cons.mpr ⟨by simp,List.nodup_nil⟩
 | @cell i fs ms s s' p es h h0 h1 h2 ih=>
  cases e:rowOf fs (nl s') with
  | some j=>rw[(az e).1];exact ih
  | none=>
   rw[(aq e).1,jn,List.nodup_append];refine⟨ih,by simp,fun x hx y hy=>?_⟩;rw[List.map_cons,List.map_nil,bf]at hy;subst hy;obtain⟨z,hz,rfl⟩:=gU.mp hx;intro k;exact vq e z hz (by rw[k] <;> rfl)
theorem nT(h:aX c ne s0 i fs ms):∀ {fs':Fs} {xY:List (List En × Nat)},aX c ne s0 i fs' xY->fs=fs'/\ms=xY:=by
 induction h with
 | nil=>
  intro fs' xY h';generalize hz:(0:Nat)=z at h'
  cases h' with
  | nil=>exact⟨rfl,rfl⟩
  | cell=>lia
 | @cell i fs ms s s' p es h h0 h1 h2 ih=>
  intro fs' xY h';generalize hz:i+1=z at h'
  cases h' with
  | nil=>lia
  | @cell j uw Ag t t' q es2 g g0 g1 g2=>
   obtain rfl:i=j:=by lia
   obtain⟨rfl,rfl⟩:=ih g;rw[h1]at g1;obtain⟨rfl,rfl⟩:=Prod.mk.inj (iM g1);obtain⟨rfl,rfl⟩:=Dj h2 g2;exact⟨rfl,rfl⟩
theorem tM(h:aX c ne s0 i fs ms):∀ j,j<=i->∃ fs' xY more Ag,aX c ne s0 j fs' xY/\fs=fs'++more/\ms=xY++Ag/\(j < i->∃ x,fs'[j / ne]? = some x):=by
 induction h with
 | nil=>
  intro j hj
  obtain rfl:j=0:=by lia
  exact⟨_,_,[],[],.nil,by simp,rfl,fun z=>absurd z (Nat.lt_irrefl _)⟩
 | @cell i fs ms s s' p es h h0 h1 h2 ih=>
  intro j hj
  by_cases e:j=i+1
  ·subst e;exact⟨_,_,[],[],.cell h h0 h1 h2,by simp,by simp,fun z=>absurd z (Nat.lt_irrefl _)⟩
  ·obtain⟨fs',xY,more,Ag,g1,g2,g3,g4⟩:=ih j (by lia);obtain⟨m2,e2,_⟩:=nj fs (nl s') (p++[i % ne]);refine⟨fs',xY,more++m2,Ag++[(es,Dk fs (nl s'))],g1,by rw[e2,g2,List.append_assoc],by rw[g3,List.append_assoc],fun _=>?_⟩
   by_cases k:j < i
   ·exact g4 k
   ·obtain rfl:j=i:=by lia
    obtain⟨rfl,_⟩:=nT h g1;exact⟨_,h1⟩
theorem xH(h:aX c ne s0 (n * ne) fs ms)(e:fs.length=n)(h':aX c ne s0 m fs' xY):m<=n * ne:=by
 by_cases k:m<=n * ne
 ·exact k
 ·obtain⟨f2,m2,more,Ag,g1,g2,g3,g4⟩:=tM h' (n * ne) (by lia);obtain⟨rfl,rfl⟩:=nT h g1;obtain⟨x,hx⟩:=g4 (by lia)
  have hne:0 < ne:=by
   cases h' with
   | nil=>lia
   | cell _ q _ _=>exact q
  rw[Nat.mul_div_cancel _ hne]at hx;have:=(jM.mp hx).1;lia
end
theorem Xb(h:H a=some o):upd H a o=H:=funext fun b=>by
 by_cases z:b=a
 ·rw[z,zC,h]
 ·exact zQ z
def SJ(H:Hp)(v:V)(s:S4):Prop:=∃ q:Addr,v = .ref q/\cL H q s
def uV(H:Hp)(v:V)(p:List Nat):Prop:=∃ q:Addr,v = .ref q/\H q=some (.tup (aB p))
theorem SJ.mono(x:SJ H v s)(k:aA H H'):SJ H' v s:=by
 obtain⟨q,e,h⟩:=x;exact⟨q,e,h.mono k⟩
theorem uV.mono(x:uV H v p)(k:aA H H'):uV H' v p:=by
 obtain⟨q,e,h⟩:=x;exact⟨q,e,k _ _ h⟩
noncomputable def Ob(m:Int)(as ap an:Addr):List (Str × V):=cR "numbers" (.ref an) (cR "paths" (.ref ap) (cR "stands" (.ref as) (cR "most" (.int m) [])))
theorem RV(m:Int)(as ap an:Addr):(Ob m as ap an).lookup ("numbers" : Str)=some (.ref an):=by
 unfold Ob;rw[aN,if_pos rfl]
theorem RT(m:Int)(as ap an:Addr):(Ob m as ap an).lookup ("paths" : Str)=some (.ref ap):=by
 unfold Ob;rw[aN,if_neg (by decide +kernel),aN,if_pos rfl]
theorem Av(m:Int)(as ap an:Addr):(Ob m as ap an).lookup ("stands" : Str)=some (.ref as):=by
 unfold Ob;rw[aN,if_neg (by decide +kernel),aN,if_neg (by decide +kernel),aN,if_pos rfl]
theorem qCI(m:Int)(as ap an:Addr):(Ob m as ap an).lookup ("most" : Str)=some (.int m):=by
 unfold Ob;rw[aN,if_neg (by decide +kernel),aN,if_neg (by decide +kernel),aN,if_neg (by decide +kernel),aN,if_pos rfl]
theorem Wx(m:Int)(as ap an:Addr):(Ob m as ap an).lookup ("row_of" : Str)=none:=by
 unfold Ob;rw[aN,if_neg (by decide +kernel),aN,if_neg (by decide +kernel),aN,if_neg (by decide +kernel),aN,if_neg (by decide +kernel)]
 all_goals rfl
structure FD(P:Program)(w:World)(C:Addr)(H:Hp)(p as ap an:Addr)(m:Int)(fs:Fs):Prop where
 ins:∃ dx,H p=some (.ins C dx (Ob m as ap an))
 sts:∃ sv,H as=some (.lst sv)/\Al (SJ H) sv (fs.map (·.1))
 pts:∃ pv,H ap=some (.lst pv)/\Al (uV H) pv (fs.map (·.2))
 num:DN P w T3 le3 H an (nums 0 fs)
 ne:as ≠ ap
theorem DW [DecidableEq K] {d:Nat} {F:cY K d} {le:d<=8} {H:Hp} {a:Addr} {kvs:List (K × V)} (x:DN P w F le H a kvs):∃ φ,H a=some (.ext φ):=by
 obtain⟨xs,_,h,_⟩:=x;exact⟨_,h⟩
section
theorem FD.mono(x:FD PP w C H p as ap an m fs)(s:aG H H'):FD PP w C H' p as ap an m fs:=by
 obtain⟨⟨dx,h1⟩,⟨sv,h2,h3⟩,⟨pv,h4,h5⟩,h6,h7⟩:=x;have k:=aA.of s;obtain⟨φ,h8⟩:=DW h6;exact⟨⟨dx,s _ _ h1⟩,⟨sv,s _ _ h2,h3.mono fun _ _ z=>z.mono k⟩,⟨pv,s _ _ h4,h5.mono fun _ _ z=>z.mono k⟩,h6.mono (fun b xs z=>s _ _ z) (by rw[h8];exact s _ _ h8),h7⟩
theorem FD.tup(x:FD PP w C H p as ap an m fs){b:Addr}{xs:List V}(h:H b=some (.tup xs)):b ∉ [as,ap,an]:=by
 obtain⟨_,⟨sv,h2,_⟩,⟨pv,h4,_⟩,h6,_⟩:=x;obtain⟨φ,h8⟩:=DW h6;intro z;rcases bU.mp z with rfl | z
 ·rw[h]at h2;cases h2
 ·rcases bU.mp z with rfl | z
  ·rw[h]at h4;cases h4
  ·rw[bf.mp z,h8]at h;cases h
theorem FD.keep(x:FD PP w C H p as ap an m fs)(s:bM H H' [as,ap,an] [as,ap,an]):aA H H':=fun b xs h=>s.rest b _ h (x.tup h)
theorem FD.there(x:FD PP w C H p as ap an m fs):∀ b∈[as,ap,an],H b ≠ none:=by
 obtain⟨_,⟨sv,h2,_⟩,⟨pv,h4,_⟩,h6,_⟩:=x;obtain⟨φ,h8⟩:=DW h6;intro b hb;rcases bU.mp hb with rfl | hb
 ·rw[h2];exact nofun
 ·rcases bU.mp hb with rfl | hb
  ·rw[h4];exact nofun
  ·rw[bf.mp hb,h8];exact nofun
end
inductive Ow(C:Addr)(vs:List V)(H:Hp)(Q:VK)(E_:XK):Prop
 | mk (e a xs) (_:vs=[.ref e,.ref a]) (_:H e=some (uT e C none)) (_:H a=some (.lst xs)) (_:∀ la dx,H la=none->H dx=none->la ≠ dx->la ≠ e->dx ≠ e->Q .non (upd (upd (upd H la (.lst xs)) dx (.xd [("ways",.ref la)])) e (uT e C (some dx))))
inductive WW(P:Program)(w:World)(C:Addr)(vs:List V)(H:Hp)(Q:VK)(E_:XK):Prop
 | mk (p dx m) (_:vs=[.ref p,.int m]) (_:H p=some (.ins C dx [])) (_:∀ as ap an H',FD P w C H' p as ap an m []->H as=none->H ap=none->H an=none->(∀ b o,H b=some o->b ≠ p->H' b=some o)->Q .non H')
inductive Ox(P:Program)(w:World)(C CT:Addr)(vs:List V)(H:Hp)(Q:VK)(E:XK):Prop
 | mk (p ps pt as ap an m fs s path) (_:vs=[.ref p,.ref ps,.ref pt]) (_:FD P w C H p as ap an m fs) (_:cL H ps s) (_:H pt=some (.tup (aB path))) (_:fs.length<=1000) (_:(∀ i,rowOf fs s=some i->Q (.int (i:Int)) H)) (_:(rowOf fs s=none->(fs.length:Int) < m->∀ H',FD P w C H' p as ap an m (fs++[(s,path)])->bM H H' [as,ap,an] [as,ap,an]->Q (.int (fs.length:Int)) H')) (_:(rowOf fs s=none->m<=(fs.length:Int)->∀ dx pl pv H',bM H H' [as,ap,an] [as,ap,an]->H dx=none->H pl=none->H' dx=some (.xd [("ways",.ref pl)])->H' pl=some (.lst pv)->Al (uV H') pv ((fs++[(s,path)]).map (·.2))->E (.ref CT) (some dx) H'))
section
variable{P:Program}{w:World}{K:bj}{mg:Str->Option Value}{base:Heap}{C CT CE:Addr}
theorem Tz:aH ["self","ways"] ["self","ways"] (aC eX):=fW
theorem Us(F:dM K "__init__" "TooWide.__init__" eX f fd)(hC:qG K C f=true)(q:xU K C "ways")(nO:mg "NestError" = some (.ref CE))
  (hsp:PySem.W.specialIn K (.ref CE) "__getattribute__" = some (some (.builtin "type.__getattribute__"))) (hrd:PySem.W.readsIn K CE (.type "type")=true) (hf:PySem.W.findCls K (.ref CE) (.type "type") "__init__" = some (.val (.builtin "ValueError.__init__")))
  (dB:mg "list" = none):aO P w K mg base aZ 1 f fd ["self","ways"] (Ow C):=by
 refine F.ok Tz (fun vs H Q E h=>?_) (fun cdv A outer s H vs Q E hr h=>?_)
 ·refine aL fun G_ g_=>?_;obtain⟨e,a,xs,rfl,_⟩:=h;apply g_;clear g_ G_;rfl
 refine aL fun G_ g_=>?_;obtain⟨e,a,xs,rfl,he,ha,k⟩:=h;apply g_;clear g_ G_
 refine⟨_,(zE (UW rfl nO hsp hrd hf (zA (pv 0) (zA zP zD)))
  (zG (UL (pv 0) (yA dH rfl dB PyProof.Rows.boot_list (zA (pv 1) zD)) rfl))),?_⟩
 refine⟨_,rfl,e,C,f,none,_,rfl,(by rw[sizeLine_eq];decide),hC,he,?_⟩;rw[Xb he];refine⟨_,rfl,gf rfl (.inl (aR.of ha)) (fun la hla=>?_)⟩;have hle:la ≠ e:=Ne.symm (zM he hla);refine⟨_,rfl,e,C,rfl,(by rw[zQ (Ne.symm hle)];exact he),q,fun dx hdx hde=>?_⟩
 have Zx:la ≠ dx:=fun z=>by rw[<-z,zC]at hdx;cases hdx
 rw[zQ (Ne.symm Zx)]at hdx;exact k la dx hla hdx Zx hle hde
theorem Xp:aH ["self","most"] ["self","most"] (aC iR):=fW
theorem YS(F:dM K "__init__" "Finds.__init__" iR f fd)(cl:xW K C)(nM:bW K C "most")(nS:bW K C "stands")(nP:bW K C "paths")(nN:bW K C "numbers") :
  aO P w K mg base aZ 1 f fd ["self","most"] (WW P w C):=by
 refine F.ok Xp (fun vs H Q E h=>?_) (fun cdv A outer s H vs Q E hr h=>?_)
 ·refine aL fun G_ g_=>?_;obtain⟨p,dx,m,rfl,_⟩:=h;apply g_;clear g_ G_;rfl
 refine aL fun G_ g_=>?_;obtain⟨p,dx,m,rfl,hp,k⟩:=h;apply g_;clear g_ G_;refine⟨_,(zE (sY (pv 0) (pv 1) rfl) (zE (sY (pv 0) (yK zD) rfl) (zE (sY (pv 0) (yK zD) rfl) (zG (sY (pv 0) (Ud T3 le3) rfl))))),?_⟩;refine⟨_,rfl,_,rfl,p,C,dx,[],rfl,hp,cl,nM,(by show 0 < 1000;decide),?_⟩;generalize hH1:upd H p (.ins C dx (cR "most" (.int m) []))=H1
 have p1:H1 p=some (.ins C dx (cR "most" (.int m) [])):=by rw[<-hH1];exact zC
 have r1:∀ b,b ≠ p->H1 b=H b:=fun b z=>by rw[<-hH1];exact zQ z
 refine⟨Nat.zero_le _,fun as has=>?_⟩;have Mm:p ≠ as:=zM p1 has;refine⟨_,rfl,p,C,dx,_,rfl,(by rw[zQ Mm];exact p1),cl,nS,(by show 1 < 1000;decide),?_⟩;generalize hH2:upd (upd H1 as (.lst [])) p (.ins C dx (cR "stands" (.ref as) (cR "most" (.int m) [])))=H2
 have p2:H2 p=some (.ins C dx (cR "stands" (.ref as) (cR "most" (.int m) []))):=by rw[<-hH2];exact zC
 have s2:H2 as=some (.lst []):=by rw[<-hH2,zQ (Ne.symm Mm)];exact zC
 have r2:∀ b,b ≠ p->b ≠ as->H2 b=H1 b:=fun b z1 z2=>by rw[<-hH2,zQ z1,zQ z2]
 refine⟨Nat.zero_le _,fun ap hap=>?_⟩;have Oa:p ≠ ap:=zM p2 hap;have nsp:as ≠ ap:=zM s2 hap;refine⟨_,rfl,p,C,dx,_,rfl,(by rw[zQ Oa];exact p2),cl,nP,(by show 2 < 1000;decide),?_⟩;generalize TY:upd (upd H2 ap (.lst [])) p (.ins C dx (cR "paths" (.ref ap) (cR "stands" (.ref as) (cR "most" (.int m) []))))=H3
 have p3:H3 p=some (.ins C dx (cR "paths" (.ref ap) (cR "stands" (.ref as) (cR "most" (.int m) [])))):=by rw[<-TY];exact zC
 have a3:H3 ap=some (.lst []):=by rw[<-TY,zQ (Ne.symm Oa)];exact zC
 have r3:∀ b,b ≠ p->b ≠ ap->H3 b=H2 b:=fun b z1 z2=>by rw[<-TY,zQ z1,zQ z2]
 have s3:H3 as=some (.lst []):=(r3 as (Ne.symm Mm) nsp).trans s2;intro an H4 han e4 dn4;have nan:p ≠ an:=zM p3 han;have Zk:as ≠ an:=zM s3 han;have Yc:ap ≠ an:=zM a3 han
 have r4:∀ b,b ≠ an->H4 b=H3 b:=fun b z=>by rw[e4];exact zQ z
 refine⟨_,rfl,p,C,dx,_,rfl,(by rw[r4 p nan];exact p3),cl,nN,(by show 3 < 1000;decide),?_⟩;generalize Z9:upd H4 p (.ins C dx (cR "numbers" (.ref an) (cR "paths" (.ref ap) (cR "stands" (.ref as) (cR "most" (.int m) [])))))=H5
 have p5:H5 p=some (.ins C dx (Ob m as ap an)):=by rw[<-Z9];exact zC
 have r5:∀ b,b ≠ p->H5 b=H4 b:=fun b z=>by rw[<-Z9];exact zQ z
 have k5:∀ b o,H b=some o->b ≠ p->H5 b=some o:=fun b o e z=>by
  have e1:=(r1 b z).trans e;have z1:=zM e1 has;have e2:=(r2 b z z1).trans e1;have z2:=zM e2 hap;have e3:=(r3 b z z2).trans e2;have z3:=zM e3 han;exact (r5 b z).trans ((r4 b z3).trans e3)
 have kt:∀ b xs,H4 b=some (.tup xs)->H5 b=some (.tup xs):=fun b xs e=>(r5 b (fun z=>by rw[z,r4 p nan,p3]at e;cases e)).trans e;refine k as ap an H5 ⟨⟨dx,p5⟩,⟨[],?_,.nil⟩,⟨[],?_,.nil⟩,dn4.mono kt (r5 an (Ne.symm nan)),nsp⟩ ?_ ?_ ?_ k5
 ·exact (r5 as (Ne.symm Mm)).trans ((r4 as Zk).trans s3)
 ·exact (r5 ap (Ne.symm Oa)).trans ((r4 ap Yc).trans a3)
 ·exact (r1 as (Ne.symm Mm)).symm.trans has
 ·exact (r1 ap (Ne.symm Oa)).symm.trans ((r2 ap (Ne.symm Oa) (Ne.symm nsp)).symm.trans hap)
 ·exact (r1 an (Ne.symm nan)).symm.trans ((r2 an (Ne.symm nan) (Ne.symm Zk)).symm.trans ((r3 an (Ne.symm nan) (Ne.symm Yc)).symm.trans han))
theorem Pj:aH ["self","stand","path","row"] ["self","stand","path"] (aC eZ):=fW
theorem YM{n:Nat}{f gi:Addr}{fd di:FuncData}(F:dM K "row_of" "Finds.row_of" eZ f fd)(cl:xW K C)(nM:bW K C "most")(nS:bW K C "stands")(nP:bW K C "paths")(nN:bW K C "numbers")
  (hT:qG K CT gi=true) (kT:KI K CT) (dF:mg "TooWide" = some (.ref CT)) (qK:aO P w K mg base (pP P w) n gi di ["self","ways"] (Ow CT)) (qI:Binds K di ["self","ways"] []) (aU:mg "len" = none) :
  aO P w K mg base (pP P w) (n+2) f fd ["self","stand","path"] (Ox P w C CT):=by
 refine F.okX Pj (fun vs H Q E h=>?_) (fun cdv A outer s H vs Q E hr h=>?_)
 ·refine aL fun G_ g_=>?_;obtain⟨p,ps,pt,as,ap,an,m,fs,s,path,rfl,_⟩:=h;apply g_;clear g_ G_;rfl
 refine aL fun G_ g_=>?_;obtain⟨p,ps,pt,as,ap,an,m,fs,st,path,rfl,hF,hS,Ga,l1,q1,q2,q3⟩:=h;apply g_;clear g_ G_
 refine⟨_,(zE (yD (Q6 (YH hr.units T3 le3 (pv 1) (cI (pv 0) rfl))) (zG (zO (Ue hr.units T3 le3 (cI (pv 0) rfl) (pv 1) (fun _ _=>rfl)))) zT)
  (zE (zK (i:=3) Pj.nd rfl (Or.inl rfl) (zS zN rfl aU bh (zA (cI (pv 0) rfl) zD)))
  (zE (UJ hr.units T3 le3 (cI (pv 0) rfl) (pv 1) (pv 3) rfl)
  (zE (yI (fX jl xm xj yH (cI (pv 0) rfl) (zA (pv 1) zD)))
  (zE (yI (fX jl xm xj yH (cI (pv 0) rfl) (zA (pv 2) zD)))
  (zE (yD (zL QK (pv 3) (cI (pv 0) rfl) (zR _)) (zG (M7 ZF rfl rfl dF hT kT qK hr qI .nil (zA (cI (pv 0) rfl) zD))) zT)
  (zG (zO (pv 3))))))))),?_⟩
 refine aL fun G_ g_=>?_;obtain⟨⟨dx,h1⟩,⟨sv,h2,h3⟩,⟨Y5,h4,h5⟩,h6,h7⟩:=id hF;apply g_;clear g_ G_;have ik:=Yx hS;have hv:=Eg st 0 fs;refine⟨_,rfl,_,rfl,p,C,dx,_,_,rfl,h1,cl,nN,RV _ _ _ _,an,ps,_,cV st,rfl,rfl,h6,ik,_,rfl,?_⟩;rw[hv]
 cases hrow:rowOf fs st with
 | some i=>
  rw[hrow]at hv
  have hv':dD (nums 0 fs) (cV st)=some (.int (i:Int)):=by
   rw[hv];show some (V.int ((0+i:Nat):Int))=_;rw[Nat.zero_add]
  refine rA (fun _=>?_) (fun z=>absurd rfl z);exact⟨_,rfl,p,C,dx,_,_,rfl,h1,cl,nN,RV _ _ _ _,_,rfl,an,ps,_,cV st,_,rfl,rfl,h6,ik,hv',q1 i hrow⟩
 | none=>
  rw[hrow]at hv;refine rA (fun z=>(by cases z)) (fun _=>?_);have ls:=h3.length;have lp:=h5.length;rw[bZ]at ls lp;refine⟨_,rfl,p,C,dx,_,_,rfl,h1,cl,nS,Av _ _ _ _,gf rfl (.inl (aR.of h2)) ?_⟩;rw[ls];obtain⟨φ,h8⟩:=DW h6;have Zk:as ≠ an:=fH h2 h8 nofun;have Yc:ap ≠ an:=fH h4 h8 nofun;have npi:p ≠ an:=fH h1 h8 nofun;refine⟨_,rfl,_,rfl,p,C,dx,_,_,rfl,h1,cl,nN,RV _ _ _ _,_,rfl,an,ps,_,cV st,rfl,rfl,h6,ik,zV (by rw[Fl];lia),hv,fun o ho dn1=>?_⟩;obtain⟨ψ,rfl⟩:=ho;generalize hH1:upd H an (.ext ψ)=H1 at dn1 ⊢
  have r1:∀ b,b ≠ an->H1 b=H b:=fun b z=>by rw[<-hH1];exact zQ z
  have n1:H1 an=some (.ext ψ):=by rw[<-hH1];exact zC
  have p1:=(r1 p npi).trans h1;refine⟨_,rfl,p,C,dx,_,_,rfl,p1,cl,nS,Av _ _ _ _,.inl ⟨rfl,_,aR.of ((r1 as Zk).trans h2)⟩,_,rfl,as,_,_,rfl,rfl,(r1 as Zk).trans h2,zV (by lia),?_⟩;have nps:p ≠ as:=fH h1 h2 nofun;have npp:p ≠ ap:=fH h1 h4 nofun;generalize hH2:upd H1 as (.lst (sv++[.ref ps]))=H2
  have r2:∀ b,b ≠ as->H2 b=H1 b:=fun b z=>by rw[<-hH2];exact zQ z
  have s2:H2 as=some (.lst (sv++[.ref ps])):=by rw[<-hH2];exact zC
  have p2:=(r2 p nps).trans p1;have a2:H2 ap=some (.lst Y5):=(r2 ap (Ne.symm h7)).trans ((r1 ap Yc).trans h4);refine⟨_,rfl,p,C,dx,_,_,rfl,p2,cl,nP,RT _ _ _ _,.inl ⟨rfl,_,aR.of a2⟩,_,rfl,ap,_,_,rfl,rfl,a2,zV (by lia),?_⟩;generalize TY:upd H2 ap (.lst (Y5++[.ref pt]))=H3
  have r3:∀ b,b ≠ ap->H3 b=H2 b:=fun b z=>by rw[<-TY];exact zQ z
  have p3:=(r3 p npp).trans p2
  have a3:H3 ap=some (.lst (Y5++[.ref pt])):=by rw[<-TY];exact zC
  have s3:H3 as=some (.lst (sv++[.ref ps])):=(r3 as h7).trans s2;have n3:H3 an=some (.ext ψ):=(r3 an (Ne.symm Yc)).trans ((r2 an (Ne.symm Zk)).trans n1)
  have st3:bM H H3 [as,ap,an] [as,ap,an]:=⟨fun b hb=>.inl hb,fun b o e nb=>by
   rw[r3 b (fun z=>nb (by rw[z];simp)),r2 b (fun z=>nb (by rw[z];simp)),r1 b (fun z=>nb (by rw[z];simp))]
   exact e⟩
  have kt:=hF.keep st3
  have kt1:∀ b xs,H1 b=some (.tup xs)->H3 b=some (.tup xs):=fun b xs e=>by
   have z1:b ≠ an:=fun z=>by rw[z,n1]at e;cases e
   rw[r1 b z1]at e;exact kt b xs e
  have F3:FD P w C H3 p as ap an m (fs++[(st,path)]):=by
   refine⟨⟨dx,p3⟩,⟨_,s3,?_⟩,⟨_,a3,?_⟩,?_,h7⟩
   ·rw[jn];exact (h3.mono fun _ _ z=>z.mono kt).snoc ⟨ps,rfl,hS.mono kt⟩
   ·rw[jn];exact (h5.mono fun _ _ z=>z.mono kt).snoc ⟨pt,rfl,kt _ _ Ga⟩
   ·rw[Ab,Nat.zero_add];exact dn1.mono kt1 (by rw[n3,n1])
  refine⟨_,rfl,_,rfl,p,C,dx,_,_,rfl,p3,cl,nM,qCI _ _ _ _,_,_,rfl,rfl,_,rfl,?_⟩;refine rA (fun z=>?_) (fun z=>?_)
  ·have z':=of_decide_eq_true z;refine⟨_,rfl,p,C,dx,_,_,rfl,p3,cl,nP,RT _ _ _ _,(zI (by show 1<=1000;decide)),fun e he=>?_⟩;refine⟨e,ap,_,rfl,zC,(by rw[zQ (zM a3 he)];exact a3),fun la ld hla Zx n1 n2 n3=>⟨rfl,some ld,zC,?_⟩⟩;rw[zQ n2]at hla;rw[zQ n3]at Zx;generalize Z9:upd (upd H3 la (.lst (Y5++[.ref pt]))) ld (.xd [("ways",.ref la)])=H5
   have e5:del (upd (upd (upd (upd H3 e (uT e CT none)) la (.lst (Y5++[.ref pt]))) ld (.xd [("ways",.ref la)])) e (uT e CT (some ld))) e=H5:=by
    rw[<-Z9]
    funext b
    by_cases zb:b=e
    ·subst zb;rw[rK,zQ (Ne.symm n3),zQ (Ne.symm n2),he]
    ·rw[lY zb,zQ zb]
     by_cases y1:b=ld
     ·subst y1;rw[zC,zC]
     ·rw[zQ y1,zQ y1]
      by_cases y2:b=la
      ·subst y2;rw[zC,zC]
      ·rw[zQ y2,zQ y2,zQ zb]
   rw[e5]
   have s5:aG H3 H5:=fun b o eb=>by rw[<-Z9,zQ (zM eb Zx),zQ (zM eb hla)];exact eb
   have Wm:∀ b,H3 b=none->H b=none:=fun b e=>by
    cases hb:H b with
    | none=>rfl
    | some o=>
     by_cases y:b∈[as,ap,an]
     ·exact absurd e (F3.there b y)
     ·rw[st3.rest b o hb y]at e;cases e
   refine q3 hrow z' ld la (Y5++[.ref pt]) H5 ⟨fun b hb=>.inl hb,fun b o eb nb=>s5 b o (st3.rest b o eb nb)⟩ (Wm ld Zx) (Wm la hla) (by rw[<-Z9];exact zC) (by rw[<-Z9,zQ n1];exact zC) ?_;rw[jn];exact (h5.mono fun _ _ y=>(y.mono kt).mono (aA.of s5)).snoc ⟨pt,rfl,s5 _ _ (kt _ _ Ga)⟩
  ·have z':¬ m<=(fs.length:Int):=fun y=>z (decide_eq_true y);exact⟨_,rfl,q2 hrow (by lia) H3 F3 st3⟩
end
noncomputable def jW(rs:List Rm)(os:List Nat):List Str:=(os.map fun o=>(rs.map (·.GJ)).getD o ("" : Str)).filter fun z => !decide (z=("" : Str))
inductive Jy(vs:List V)(H:Hp)(Q:VK)(E_:XK):Prop
 | mk (t rn rs os) (_:vs=[.ref t,.ref rn]) (_:dJ H t rs) (_:H rn=some (.tup (aB os))) (_:(∀ o∈os,o < rs.length)) (_:os.length<=40) (_:rs.length<=40) (_:∀ p H',aG H H'->H' p=some (.tup ((jW rs os).map V.str))->Q (.ref p) H')
theorem Cm{os:List Nat}{i o:Nat}{r:Rm}(h:os[i]? = some o)(hr:rs[o]? = some r):jW rs (os.take (i+1))=jW rs (os.take i)++(if (!decide (r.GJ=("" : Str)))=true then [r.GJ] else []):=by
 unfold jW;rw[jN,h,jn,List.filter_append];congr 1;show [(rs.map (·.GJ)).getD o ("" : Str)].filter _=_
 rw[show (rs.map (·.GJ)).getD o ("" : Str)=r.GJ by
  rw[v7,cG,hr]
  rfl]
 rw[List.filter_cons]
 split <;> rfl
theorem GF(rs:List Rm)(os:List Nat):(jW rs os).length<=os.length:=by
 unfold jW;refine Nat.le_trans (sJ _ _) ?_;rw[bZ];exact bD _
theorem qDQ(a b:Str):decide (V.str a=V.str b)=decide (a=b):=decide_eq_decide.mpr ⟨fun h=>by injection h,fun h=>by rw[h]⟩
def Wide(CT:Addr)(fp:List Addr)(H:Hp)(E:XK)(ps:List (List Nat)):Prop:=∀ dx pl pv H',bM H H' fp fp->H dx=none->H pl=none->H' dx=some (.xd [("ways",.ref pl)])->H' pl=some (.lst pv)->Al (uV H') pv ps->E (.ref CT) (some dx) H'
def Gu(H:Hp)(v:V)(m:List En × Nat):Prop:=∃ a aw,v = .ref a/\H a=some (.tup [.ref aw,.int (m.2:Int)])/\H aw=some (.tup ((cg m.1).map V.str))
theorem Gu.mono(x:Gu H v m)(k:aA H H'):Gu H' v m:=by
 obtain⟨a,aw,h1,h2,h3⟩:=x;exact⟨a,aw,h1,k _ _ h2,k _ _ h3⟩
inductive PB(P:Program)(w:World)(C CT:Addr)(n:Nat)(vs:List V)(H:Hp)(Q:VK)(E:XK):Prop
 | mk (pc p as ap an:Addr) (r e:Nat) (m:Int) (c:jR) (fs:Fs) (s:S4) (path:List Nat) (_:vs=[.ref pc,.ref p,.int (r:Int),.int (e:Int)]) (_:uA H pc c) (_:All c (Jw c) n) (_:c.tn<=20) (_:FD P w C H p as ap an m fs) (_:fs.length<=1000) (_:fs[r]? = some (s,path)) (_:gK c s) (_:Jw c s.os s.ks) (_:s.l=[]) (_:path.length<=100000) (_:∀(es:List En)(s':S4),HD c (e:Int) s es s'->gK c s'->Jw c s'.os s'.ks->(((rR fs (nl s') (path++[e])).length:Int)<=m ∨ rR fs (nl s') (path++[e])=fs->∀(v:V)(H':Hp),Gu H' v (es,Dk fs (nl s'))->FD P w C H' p as ap an m (rR fs (nl s') (path++[e]))->bM H H' [as,ap,an] [as,ap,an]->Q v H')/\(rowOf fs (nl s')=none->m<=(fs.length:Int)->Wide CT [as,ap,an] H E ((fs++[(nl s',path++[e])]).map (·.2))))
section
theorem Pk:aH ["rooms","opening"] ["rooms","opening"] (aC vX):=fW
theorem QS{f:Addr}{fd:FuncData}(F:dM K "lamps" "lamps" vX f fd)(aW:mg "tuple" = none):aO P w K mg base aZ 1 f fd ["rooms","opening"] Jy:=by
 refine F.ok Pk (fun vs H Q E h=>?_) (fun cdv A outer s H vs Q E hr h=>?_)
 ·refine aL fun G_ g_=>?_;obtain⟨t,rn,rs,os,rfl,_⟩:=h;apply g_;clear g_ G_;rfl
 refine aL fun G_ g_=>?_;obtain⟨t,rn,rs,os,rfl,hR,hto,hos,Zr,qD,q⟩:=h;apply g_;clear g_ G_;refine⟨_,(zG (zO (yA zX rfl aW lD (zA (yT (aY:=[(0,"rooms")]) rfl (show bJ (aC vX) ["rooms","opening"] _ _ _ from ym) (mq (pv 1)) (fun _ _ _ _ _ _=>gZ (zL iI (yB (r:=kJ K) zH (yB (r:=kJ K) zH (pv 1) (pv 0) (fun _ _=>rfl)) zB (fun _ _=>rfl)) zP (zR _))) (fun _ _ _ _ _ _=>(yB (r:=kJ K) zH (yB (r:=kJ K) zH (pv 1) (pv 0) (fun _ _=>rfl)) zB (fun _ _=>rfl)))) zD)))),?_⟩;refine⟨_,rfl,rn,rfl,⟨_,aJ.of hto⟩,?_⟩;refine nW (K:=K) (a:=rn) (xs:=aB os) (fun i acc H'=>H'=H/\acc=(jW rs (os.take i)).map V.str) ⟨rfl,rfl⟩ (fun i acc H' ⟨e,_⟩=>by subst e;exact aJ.of hto) (fun i x acc H' hx ⟨e1,e2⟩=>?_) (fun acc H' ⟨e1,e2⟩ p hp=>?_)
 ·subst e1 e2
  have hi:i < os.length:=by
   have:=(jM.mp hx).1;rw[zU]at this;exact this
  have eo:=dX hi
  obtain rfl:x = .int ((os[i]:Nat):Int):=by
   unfold aB at hx;rw[cG,eo]at hx;exact (iM hx).symm
  refine aL fun G_ g_=>?_;obtain⟨vs,a,r,ht,hl,hr0,hat,ha⟩:=hR.at (hos _ (ig hi));apply g_;clear g_ G_;have ll:=GF rs (os.take i);rw[jc]at ll;have sc:=Cm eo hr0;refine⟨_,rfl,_,rfl,t,vs,_,_,rfl,rfl,aJ.of ht,hat,aF (aJ.of ha) rfl ⟨rfl,_,rfl,?_⟩⟩;refine jg (fun c=>?_) (fun c=>?_)
  ·rw[qDQ]at c;rw[if_pos c]at sc;refine⟨_,rfl,_,rfl,t,vs,_,_,rfl,rfl,aJ.of ht,hat,aF (aJ.of ha) rfl ⟨zV (by rw[bZ];lia),rfl,?_⟩⟩;rw[sc,jn];rfl
  ·rw[qDQ]at c;rw[if_neg (by rw[c];decide),fY]at sc;exact⟨rfl,by rw[sc]⟩
 subst e1 e2;rw[uz (by rw[zU];exact bD _)];refine⟨p,_,rfl,.inl ⟨aR.of zC,fun p2 hp2=>?_⟩⟩;exact q p2 _ ((zF hp _).trans (zF hp2 _)) zC
theorem K5:aH ["chart","finds","row","event","told"] ["chart","finds","row","event"] (aC Bq):=fW
theorem Uu(F:dM K "move" "move" Bq f fd)(cl:xW K C)(nS:bW K C "stands")(nP:bW K C "paths")(mR:Meth K C "row_of" g3)
  (rZ:Dp P w K mg base aZ m' g1 d1 ["chart","stand","event"] (uZ n) "after")
  (Jh:Dp P w K mg base aZ m' g2 d2 ["record"] Hj "said")
  (SN:aO P w K mg base (pP P w) m' g3 d3 ["self","stand","path"] (Ox P w C CT)) (S8:Binds K d3 ["self","stand","path"] [])
  (aW:mg "tuple" = none):aO P w K mg base (pP P w) (m'+1) f fd ["chart","finds","row","event"] (PB P w C CT n):=by
 refine F.okX K5 (fun vs H Q E h=>?_) (fun cdv A outer s H vs Q E hr h=>?_)
 ·refine aL fun G_ g_=>?_;obtain⟨pc,p,as,ap,an,r,e,m,c,fs,s,path,rfl,_⟩:=h;apply g_;clear g_ G_;rfl
 refine aL fun G_ g_=>?_;obtain⟨pc,p,as,ap,an,r,e,m,c,fs,st,path,rfl,hC,al,Ze,hF,l1,hr0,so,js,l0,lp,q⟩:=h;apply g_;clear g_ G_
 refine⟨_,(zE (zK (i:=4) K5.nd rfl (Or.inl rfl) (pC rZ hr (zA (pv 0) (zA (yB yU (cI (pv 1) rfl) (pv 2) (fun _ _=>rfl)) (zA (pv 3) zD)))))
  (zG (zO (zW (zA (yA zX rfl aW lD (zA (pC Jh hr (zA (yB zH (pv 4) zB (fun _ _=>rfl)) zD)) zD))
   (zA (CJ (pv 1) cl mR SN hr S8 .nil (Wj fun _ _ _ z=>z) (zA (yB zH (pv 4) zB (fun _ _=>rfl)) (zA (iz (yC (jQ.or uh wG) (yB yU (cI (pv 1) rfl) (pv 2) (fun _ _=>rfl)) (zW (zA (pv 3) zD)))) zD))) zD)))))),?_⟩
 refine aL fun G_ g_=>?_;obtain⟨⟨dx,h1⟩,⟨sv,h2,h3⟩,⟨Y5,h4,h5⟩,h6,h7⟩:=id hF;obtain⟨v0,hv0,q0,rfl,hq0⟩:=h3.get (k:=r) (r:=st) (by rw[cG,hr0];rfl);obtain⟨v1,hv1,q1,rfl,hq1⟩:=h5.get (k:=r) (r:=path) (by rw[cG,hr0];rfl);apply g_;clear g_ G_;refine⟨_,rfl,_,rfl,p,C,dx,_,_,rfl,h1,cl,nS,Av _ _ _ _,_,rfl,bQ (aR.of h2) (yQ hv0) ⟨_,rfl,pc,q0,c,(e:Int),st,rfl,hC,al,hq0,so,js,l0,Ze,fun t ps' pw wv es s' H1 AR j' so' s1 ht hS' N7 npw hA lw=>?_⟩⟩;obtain⟨k1,k2⟩:=q es s' AR so' j';have F1:=hF.mono s1
 have leS:es.length<=2000000:=by rw[<-hA.length];lia
 refine⟨_,rfl,aF (aJ.of ht) rfl ⟨pw,wv,es,rfl,N7,hA,leS,fun pl2 H2 s2 npl qFX=>?_⟩⟩;refine⟨pl2,_,rfl,.inl ⟨aR.of qFX,fun tw htw=>?_⟩⟩;have s3:=zF htw (.tup ((cg es).map V.str));have i3:upd H2 tw (.tup ((cg es).map V.str)) tw=some (.tup ((cg es).map V.str)):=zC;generalize upd H2 tw (.tup ((cg es).map V.str))=H3 at s3 i3 ⊢;have zj:=s2.trans s3;have KH:=s1.trans zj;have F3:=hF.mono KH;refine⟨_,rfl,p,dx,_,rfl,KH _ _ h1,Wx _ _ _ _,_,rfl,aF (aJ.of (zj _ _ ht)) rfl ?_⟩;refine⟨fun v H'=>∃ q:Addr,v = .ref q/\aG H3 H'/\H' q=some (.tup (aB (path++[e]))),?_,?_⟩
 ·refine⟨_,rfl,p,C,dx,_,_,rfl,KH _ _ h1,cl,nP,RT _ _ _ _,_,rfl,bQ (aR.of (KH _ _ h4)) (yQ hv1) ⟨_,rfl,(zI (by show 1<=1000;decide)),fun pe hpe=>?_⟩⟩;have s4:=zF hpe (.tup [V.int (e:Int)]);have i4:upd H3 pe (.tup [V.int (e:Int)]) pe=some (.tup [V.int (e:Int)]):=zC;generalize upd H3 pe (.tup [V.int (e:Int)])=H4 at s4 i4 ⊢;have Z0:=s4 _ _ (KH _ _ hq1)
  cases path with
  | nil=>exact .inr ⟨q1,pe,_,rfl,rfl,aJ.of Z0,aJ.of i4,pe,rfl,s4,i4⟩
  | cons x path=>
   refine .inl ⟨q1,pe,_,_,rfl,rfl,aJ.of Z0,aJ.of i4,(by intro z;cases z),?_,(fun z=>by cases z),fun _ p5 TX=>?_⟩
   ·rw[sizeLine_eq,zU];simp only[List.length_cons,List.length_nil]at lp ⊢;lia
   ·exact⟨p5,rfl,s4.trans (zF TX _),by rw[zC];unfold aB;rw[jn];rfl⟩
 rintro _ H4 bV;refine aL fun G_ g_=>?_;obtain⟨pq,rfl,s4,hpq⟩:=bV;apply g_;clear g_ G_;have Pq:=zj.trans s4;have Bv:=s1.trans Pq;have F4:=hF.mono Bv;refine⟨p,ps',pq,as,ap,an,m,fs,nl s',path++[e],rfl,F4,(cL.tail hS' []).mono (aA.of Pq),hpq,l1,fun i hi=>?_,fun hn hlt H5 F5 xn=>?_,fun hn hle dx2 pl pv H5 xn z1 z2 z3 z4 z5=>?_⟩
 ·obtain⟨e1,e2⟩:=az (p:=path++[e]) hi;refine⟨zI (by show 2<=1000;decide),fun pt Ga=>?_⟩;have s5:=zF Ga (.tup [V.ref tw,V.int (i:Int)]);refine k1 (.inr e1) _ _ ⟨pt,tw,rfl,by rw[e2];exact zC,s5 _ _ (s4 _ _ i3)⟩ (by rw[e1];exact F4.mono s5) ⟨fun b hb=>.inl hb,fun b o eb _=>s5 _ _ (Bv _ _ eb)⟩
 ·obtain⟨e1,e2⟩:=aq (p:=path++[e]) hn;refine⟨zI (by show 2<=1000;decide),fun pt Ga=>?_⟩;have s5:=zF Ga (.tup [V.ref tw,V.int (fs.length:Int)]);have tw5:H5 tw=some (.tup ((cg es).map V.str)):=F4.keep xn _ _ (s4 _ _ i3);refine k1 (.inl (by rw[e1,dN,iG];lia)) _ _ ⟨pt,tw,rfl,by rw[e2];exact zC,s5 _ _ tw5⟩ (by rw[e1];exact F5.mono s5) ⟨fun b hb=>.inl hb,fun b o eb nb=>s5 _ _ (xn.rest b o (Bv _ _ eb) nb)⟩
 ·exact k2 hn hle dx2 pl pv H5 ⟨fun b hb=>.inl hb,fun b o eb nb=>xn.rest b o (Bv _ _ eb) nb⟩ (Bv.free z1) (Bv.free z2) z3 z4 z5
end
def jZ(H:Hp)(v:V)(x:List Str × List (List En × Nat)):Prop:=∃(a al am:Addr)(mv:List V),v = .ref a/\H a=some (.tup [.ref al,.ref am])/\H al=some (.tup (x.1.map V.str))/\H am=some (.tup mv)/\Al (Gu H) mv x.2
theorem jZ.mono(y:jZ H v x)(k:aA H H'):jZ H' v x:=by
 obtain⟨a,al,am,mv,h1,h2,h3,h4,h5⟩:=y;exact⟨a,al,am,mv,h1,k _ _ h2,k _ _ h3,k _ _ h4,h5.mono fun _ _ z=>z.mono k⟩
noncomputable def rowAt(c:jR)(ne:Nat)(fs:Fs)(ms:List (List En × Nat))(k:Nat):List Str × List (List En × Nat):=(jW c.rs (fs[k]?.elim [] (·.1.os)),(ms.drop (k * ne)).take ne)
noncomputable def rowsOf(c:jR)(ne:Nat)(fs:Fs)(ms:List (List En × Nat))(n:Nat):List (List Str × List (List En × Nat)):=(List.range n).map (rowAt c ne fs ms)
theorem M4(h1:k < fs.length)(h2:(k+1) * ne<=ms.length):rowAt c ne (fs++more) (ms++Ag) k=rowAt c ne fs ms k:=by
 unfold rowAt;rw[Lp h1];rw[Nat.add_mul,Nat.one_mul]at h2;congr 1;rw[List.drop_append_of_le_length (by lia),List.take_append_of_le_length (by rw[List.length_drop];lia)]
theorem Hv(h1:n<=fs.length)(h2:n * ne<=ms.length):rowsOf c ne (fs++more) (ms++Ag) n=rowsOf c ne fs ms n:=by
 unfold rowsOf;refine List.map_congr_left fun k hk=>?_;have hk:=List.mem_range.mp hk;exact M4 (by lia) (Nat.le_trans (Nat.mul_le_mul_right _ hk) h2)
theorem FQ:rowsOf c ne fs ms (n+1)=rowsOf c ne fs ms n++[rowAt c ne fs ms n]:=by
 unfold rowsOf;rw[List.range_succ,jn];rfl
def uP(c:jR)(fs:Fs):Prop:=∀ x∈fs,gK c x.1/\Jw c x.1.os x.1.ks
theorem K4(h:gK c s):gK c (nl s):=⟨h.inc,h.lt,h.Sy,h.bx,h.ks,Nat.zero_le _⟩
theorem uP.add(h:uP c fs)(h1:gK c s)(h2:Jw c s.os s.ks):uP c (rR fs (nl s) p):=by
 cases e:rowOf fs (nl s) with
 | some i=>rw[(az e).1];exact h
 | none=>
  rw[(aq e).1];intro x hx;rcases eG.mp hx with hx | hx
  ·exact h x hx
  ·rw[bf.mp hx];exact⟨K4 h1,h2⟩
inductive vK(CT:Addr)(n:Nat)(vs:List V)(H:Hp)(Q:VK)(E:XK):Prop
 | mk (pc:Addr) (m:Nat) (c:jR) (bs:List (Int × Int)) (ne:Nat) (_:vs=[.ref pc,.int (m:Int)]) (_:pA.Ln H pc c bs ne) (_:pA.oG c bs) (_:3<=n) (_:1<=m) (_:m<=300) (_:ne<=8) (_:∀(dW:List En)(s0:S4),uB c bs dW s0->dW.length<=1000000->(∀(N:Nat)(fs:Fs)(ms:List (List En × Nat))(t tw pr as:Addr)(rv sv:List V)(H':Hp),aX c ne s0 (N * ne) fs ms->fs.length=N->N<=m->uP c fs->H' t=some (.tup [.ref tw,.ref pr,.ref as])->H' tw=some (.tup ((cg dW).map V.str))->H' pr=some (.lst rv)->Al (jZ H') rv (rowsOf c ne fs ms N)->H' as=some (.lst sv)->Al (SJ H') sv (fs.map (·.1))->aG H H'->H pr=none->H as=none->pr ≠ as->Q (.ref t) H')/\(∀(i:Nat)(fs:Fs)(ms:List (List En × Nat)),aX c ne s0 i fs ms->fs.length=m+1->Wide CT [] H E (fs.map (·.2))))
section
theorem oJ:aH ["chart","most","finds","told","rows","row","moves"] ["chart","most"] (aC vV):=fW
theorem V0(F:dM K "flat" "flat" vV f fd)(cl:xW K C)(nS:bW K C "stands")(mR:Meth K C "row_of" g3)(MkF:Mk K C gi)
  (qK:aO P w K mg base aZ m' gi di ["self","most"] (WW P w C)) (qI:Binds K di ["self","most"] []) (V8:mg "Finds" = some (.ref C))
  (Dv:Dp P w K mg base aZ (m'+1) g1 d1 ["chart"] (Bh n) "begun")
  (Jh:Dp P w K mg base aZ (m'+1) g2 d2 ["record"] Hj "said")
  (SN:aO P w K mg base (pP P w) (m'+1) g3 d3 ["self","stand","path"] (Ox P w C CT)) (S8:Binds K d3 ["self","stand","path"] [])
  (Dr:Dp P w K mg base (pP P w) (m'+1) g4 d4 ["chart","finds","row","event"] (PB P w C CT n) "move")
  (W7:Dp P w K mg base aZ (m'+1) g5 d5 ["rooms","opening"] Jy "lamps")
  (aU:mg "len" = none) (au:mg "range" = none) (aW:mg "tuple" = none):aO P w K mg base (pP P w) (m'+2) f fd ["chart","most"] (vK CT n):=by
 refine F.okX oJ (fun vs H Q E h=>?_) (fun cdv A outer s H vs Q E hr h=>?_)
 ·refine aL fun G_ g_=>?_;obtain⟨pc,m,c,bs,ne,rfl,_⟩:=h;apply g_;clear g_ G_;rfl
 refine aL fun G_ g_=>?_;obtain⟨pc,m,c,bs,ne,rfl,hX,ok,n3,m1,yg,Iw,q⟩:=h;apply g_;clear g_ G_
 refine⟨_,(zE (zK (i:=2) oJ.nd rfl (Or.inr rfl) (CK MkF qK hr rfl V8 qI .nil yE (zA (pv 1) zD)))
  (zE (zK (i:=3) oJ.nd rfl (Or.inl rfl) (pC Dv hr (zA (pv 0) zD)))
  (zE (yI (CJ (pv 2) cl mR SN hr S8 .nil (Wj fun _ _ _ z=>z) (zA (yB zH (pv 3) zB (fun _ _=>rfl)) (zA (zW zD) zD))))
  (zE (zK (i:=4) oJ.nd rfl (Or.inl rfl) (yK zD))
  (zZ (Y7 (qB9 fun _ _ _ z=>z) (ql (Ve rfl rfl) (zL j5 (zS zN rfl aU bh (zA (pv 4) zD)) (zS zN rfl aU bh (zA (cI (pv 2) rfl) zD)) (zR _))
  (zE (zK (i:=5) oJ.nd rfl (Or.inr rfl) (zS zN rfl aU bh (zA (pv 4) zD)))
  (zE (Q7 (i:=6) (aY:=[(0,"chart"),(2,"finds"),(5,"row")]) (YJ fun _ _ _ z=>z) rfl oJ.nd rfl (Or.inl rfl) (show bJ (aC vV) ["chart","most","finds","told","rows","row","moves"] _ _ _ from ym)
    (bu rfl au (zA (zS zN rfl aU bh (zA (yB zH (pv 0) zB (fun _ _=>rfl)) zD)) zD)) (fun _ _ _ _ _ _=>cD) (fun _ _ _ _ _ _ hp=>zJ (E:=E) Dr.G hr rfl Dr.m Dr.k Dr.b .nil hp (zA (pv 1) (zA (pv 2) (zA (pv 3) (zA (pv 0) zD))))))
  (zG (yI (fX jl xm xj yH (pv 4) (zA (zW (zA (pC W7 hr (zA (yB zH (pv 0) zB (fun _ _=>rfl)) (zA (yB zH (yB yU (cI (pv 2) rfl) (pv 5) (fun _ _=>rfl)) zB (fun _ _=>rfl)) zD)))
    (zA (yA zX rfl aW lD (zA (pv 6) zD)) zD))) zD))))))))
  (zG (zO (zW (zA (yA zX rfl aW lD (zA (pC Jh hr (zA (yB zH (pv 3) zB (fun _ _=>rfl)) zD)) zD)) (zA (pv 4) (zA (cI (pv 2) rfl) zD))))))))))),?_⟩
 refine aL fun G_ g_=>?_;obtain⟨pb,pn,t0,pd,bv,nv,Wd,dv,h1,h2,h3,h4,h5,h6,h7,h8,h9,h10⟩:=id hX;apply g_;clear g_ G_;refine⟨_,rfl,fun x dx nx ndx qBH=>⟨x,dx,(m:Int),rfl,zC,fun as ap an H1 F1 Mm Oa nan keep=>⟨rfl,?_⟩⟩⟩
 have s1:aG H H1:=fun b o e=>by
  have z1:b ≠ x:=zM e nx;have z2:b ≠ dx:=zM e ndx;exact keep b o (by rw[zQ z1,zQ z2];exact e) z1
 have un:∀ b,upd (upd H dx (.own x)) x (.ins C dx []) b=none->H b=none:=fun b e=>by
  cases hb:H b with
  | none=>rfl
  | some o=>
   rw[zQ (zM hb nx),zQ (zM hb ndx),hb]at e
   cases e
 have Mm:=un as Mm;have Oa:=un ap Oa;have nan:=un an nan;clear keep un;refine⟨_,rfl,pc,c,bs,ne,rfl,hX.mono (aA.of s1),ok,n3,fun t ps pw wv dW s0 H2 BR j0 so0 s2 ht hS0 N7 npw hA Zw=>?_⟩;refine aL fun G_ g_=>?_;obtain⟨qa,qb⟩:=q dW s0 BR Zw;have s02:=s1.trans s2;have F2:=F1.mono s2;obtain⟨⟨dx',hx2⟩,_⟩:=id F2;apply g_;clear g_ G_;refine⟨_,rfl,x,dx',_,rfl,hx2,Wx _ _ _ _,_,rfl,aF (aJ.of ht) rfl ⟨Nat.zero_le _,fun pe hpe=>?_⟩⟩;have s3:=zF hpe (.tup []);have i3:upd H2 pe (.tup []) pe=some (.tup (aB [])):=zC;generalize upd H2 pe (.tup [])=H3 at s3 i3 ⊢;have KH:=s02.trans s3;refine⟨x,ps,pe,as,ap,an,(m:Int),[],nl s0,[],rfl,F2.mono s3,(cL.tail hS0 []).mono (aA.of s3),i3,Nat.zero_le _,(fun i z=>by cases z),fun _ _ H4 F4 Ej=>?_,fun _ z=>absurd z (by show ¬ ((m:Int)<=((0:Nat):Int));lia)⟩
 have Bv:aG H H4:=fun b o e=>Ej.rest b o (KH b o e) fun z=>by
  rcases bU.mp z with z | z
  ·rw[z,Mm]at e;cases e
  ·rcases bU.mp z with z | z
   ·rw[z,Oa]at e;cases e
   ·rw[bf.mp z,nan]at e;cases e
 have Zn:∀ {b:Addr} {o:HO},H2 b=some o->H1 b=none->b ∉ [as,ap,an]:=fun e e1 z=>(F1.there _ z) e1;have ht4:H4 t=some (.tup [.ref ps,.ref pw]):=(F2.mono s3).keep Ej _ _ (s3 _ _ ht);have Z1:H4 pw=some (.lst wv):=Ej.rest _ _ (s3 _ _ N7) (Zn N7 npw);have hA4:Al (iD H4) wv dW:=hA.mono fun _ _ z=>(z.mono (aA.of s3)).mono ((F2.mono s3).keep Ej);refine⟨Nat.zero_le _,fun pr hpr=>?_⟩;have s5:=zF hpr (.lst []);have i5:upd H4 pr (.lst []) pr=some (.lst []):=zC;generalize upd H4 pr (.lst [])=H5 at s5 i5 ⊢;have Fo:H pr=none:=Bv.free hpr;have prf:pr ∉ [as,ap,an]:=fun z=>F4.there _ z hpr;have s05:=Bv.trans s5;have hC5:∀ {Hi:Hp},aG H Hi->uA Hi pc c:=fun z=>(hX.ch ok).mono (aA.of z);have alc:All c (Jw c) n:=⟨ok.ok,wide ok.ok,fun d hd=>⟨(ok.g d hd).1,Nat.le_trans (ok.g d hd).2 n3⟩⟩
 have Ze:c.tn<=20:=by have:=ok.t4;lia
 refine⟨fun σ' Hi => ∃(N:Nat)(fs:Fs)(ms:List (List En × Nat))(rv:List V)(o5 o6:Option V),σ'=[some (.ref pc),some (.int (m:Int)),some (.ref x),some (.ref t),some (.ref pr),o5,o6]/\aX c ne s0 (N * ne) fs ms/\fs.length=N/\N<=m/\uP c fs/\FD P w C Hi x as ap an (m:Int) fs/\aG H Hi/\Hi t=some (.tup [.ref ps,.ref pw])/\Hi pw=some (.lst wv)/\Al (iD Hi) wv dW/\Hi pr=some (.lst rv)/\Al (jZ Hi) rv (rowsOf c ne fs ms N),?_,?_⟩
 ·refine⟨fun μ σ' Hi => ∃(r:Nat)(fs:Fs)(ms:List (List En × Nat))(rv:List V)(o5 o6:Option V),μ=m - r/\σ'=[some (.ref pc),some (.int (m:Int)),some (.ref x),some (.ref t),some (.ref pr),o5,o6]/\aX c ne s0 (r * ne) fs ms/\r<=fs.length/\fs.length<=m/\uP c fs/\FD P w C Hi x as ap an (m:Int) fs/\aG H Hi/\Hi t=some (.tup [.ref ps,.ref pw])/\Hi pw=some (.lst wv)/\Al (iD Hi) wv dW/\Hi pr=some (.lst rv)/\Al (jZ Hi) rv (rowsOf c ne fs ms r),
   ⟨_,0,[(nl s0,[])],[],[],none,none,rfl,rfl,by rw[Nat.zero_mul];exact .nil,Nat.zero_le _,m1,fun y hy=>by rw[bf.mp hy];exact⟨K4 so0,j0⟩,F4.mono s5,s05,s5 _ _ ht4,s5 _ _ Z1,hA4.mono fun _ _ z=>z.mono (aA.of s5),i5,.nil⟩,?_⟩
  rintro μ σ' Hi bV;refine aL fun G_ g_=>?_;obtain⟨r,fs,ms,rv,o5,o6,rfl,rfl,FR,rl,flm,aok,Fi,si,hti,VJ,ur,NB,hRi⟩:=bV;apply g_;clear g_ G_;have Km:=hRi.length;unfold rowsOf at Km;rw[bZ,List.length_range]at Km;refine aL fun G_ g_=>?_;obtain⟨⟨dxi,hxi⟩,⟨sv,hsv,qFN⟩,_⟩:=id Fi;apply g_;clear g_ G_;have V9:=qFN.length;rw[bZ]at V9;refine⟨_,rfl,gf rfl (.inl (aR.of NB)) ⟨_,rfl,x,C,dxi,_,_,rfl,hxi,cl,nS,Av _ _ _ _,gf rfl (.inl (aR.of hsv)) (bF ⟨_,rfl,?_⟩)⟩⟩;rw[Km,V9];refine jg (fun z=>?_) (fun z=>?_)
  ·have z:=of_decide_eq_true z
   have rlt:r < fs.length:=by lia
   refine⟨fun σ2 H2 => ∃(uw:Fs)(Ag:List (List En × Nat))(uQ:List V)(o5 o6:Option V),σ2=[some (.ref pc),some (.int (m:Int)),some (.ref x),some (.ref t),some (.ref pr),o5,o6]/\aX c ne s0 ((r+1) * ne) uw Ag/\r+1<=uw.length/\uw.length<=m/\uP c uw/\FD P w C H2 x as ap an (m:Int) uw/\aG H H2/\H2 t=some (.tup [.ref ps,.ref pw])/\H2 pw=some (.lst wv)/\Al (iD H2) wv dW/\H2 pr=some (.lst uQ)/\Al (jZ H2) uQ (rowsOf c ne uw Ag (r+1)),?_,?_⟩
   ·rintro σ2 H2 bV;refine aL fun G_ g_=>?_;obtain⟨uw,Ag,uQ,p5,p6,y1,y2,y3,y4,y5⟩:=bV;apply g_;clear g_ G_;exact⟨m - (r+1),by lia,r+1,uw,Ag,uQ,p5,p6,rfl,y1,y2,y3,y4,y5⟩
   refine⟨_,rfl,gf rfl (.inl (aR.of NB)) ?_⟩;rw[Km];refine aL fun G_ g_=>?_;obtain⟨⟨sr,zx⟩,hsr⟩:∃ y,fs[r]? = some y:=⟨_,dX rlt⟩;apply g_;clear g_ G_;have Uq:=aok _ (Bd hsr);have l0r:=Cz FR _ (Bd hsr);have lms:=xF FR;have rne:r * ne<=2400:=Nat.le_trans (Nat.mul_le_mul (Nat.le_of_lt (show r < 300 by lia)) Iw) (by decide);refine⟨_,rfl,aF (aJ.of (si _ _ h1)) rfl (gf rfl (.inr (aJ.of (si _ _ h4))) ⟨_,rfl,?_⟩)⟩;rw[h5];refine⟨by lia,by lia,?_⟩;refine jC (lo:=0) (n:=ne) (fun i acc H'=>∃(uw more:Fs)(Ag mm:List (List En × Nat)),aX c ne s0 (r * ne+i) uw Ag/\uw=fs++more/\Ag=ms++mm/\uw.length<=m/\uP c uw/\FD P w C H' x as ap an (m:Int) uw/\bM Hi H' [as,ap,an] [as,ap,an]/\Al (Gu H') acc mm)
    ⟨fs,[],ms,[],FR,by simp,by simp,flm,aok,Fi,bM.same _ (aG.refl _),.nil⟩ ?_ ?_
   ·rintro i acc H' hi bV;refine aL fun G_ g_=>?_;obtain⟨uw,more,Ag,mm,FR2,e1,e2,fl2,ZR,F2,st2,hM2⟩:=bV;apply g_;clear g_ G_;have lm2:=xF FR2
    have N5:uw[r]? = some (sr,zx):=by rw[e1,Lp rlt];exact hsr
    have hdiv:(r * ne+i) / ne=r:=by
     rw[Nat.mul_comm,Nat.mul_add_div (by lia),Nat.div_eq_of_lt hi,Nat.add_zero]
    have hmod:(r * ne+i) % ne=i:=by
     rw[Nat.mul_comm,Nat.mul_add_mod,Nat.mod_eq_of_lt hi]
    have sH:aG H H':=fun b o e=>st2.rest b o (si b o e) fun z=>by
     rcases bU.mp z with z | z
     ·rw[z,Mm]at e;cases e
     ·rcases bU.mp z with z | z
      ·rw[z,Oa]at e;cases e
      ·rw[bf.mp z,nan]at e;cases e
    refine⟨_,rfl,_,rfl,_,rfl,_,rfl,pc,x,as,ap,an,r,i,(m:Int),c,uw,sr,zx,(by rw[Int.zero_add];rfl),hC5 sH,alc,Ze,F2,by lia,N5,Uq.1,Uq.2,l0r,?_,fun es s' AR so' j'=>⟨fun hle v H3 hv F3 st3=>?_,fun hn hle=>?_⟩⟩
    ·have:=Nf FR _ (Bd hsr);simp only at this;lia
    ·have FR3:=aX.cell FR2 (by lia) (by rw[hdiv];exact N5) (by rw[hmod];exact AR);rw[hmod]at FR3;refine aL fun G_ g_=>?_;obtain⟨m3,em3,_⟩:=nj uw (nl s') (zx++[i]);apply g_;clear g_ G_;refine⟨zI (by rw[hM2.length];(have:Ag.length=ms.length+mm.length:=by rw[e2,dN]);lia),_,more++m3,_,mm++[(es,Dk uw (nl s'))],FR3,by rw[em3,e1,List.append_assoc],by rw[e2,List.append_assoc],?_,ZR.add so' j',F3,bM.trans st2 st3,(hM2.mono fun _ _ z=>z.mono (F2.keep st3)).snoc hv⟩;rcases hle with hle | hle
     ·lia
     ·rw[hle];exact fl2
    ·have FR3:=aX.cell FR2 (by lia) (by rw[hdiv];exact N5) (by rw[hmod];exact AR);rw[hmod,(aq (p:=zx++[i]) hn).1]at FR3;have:=qb _ _ _ FR3 (by rw[dN,iG];lia);intro dx2 pl pv H3 st3 z1 z2 z3 z4 z5
     exact this dx2 pl pv H3 ⟨(fun b hb=>by cases hb),fun b o e _=>by
      refine st3.rest b o (sH b o e) fun z=>?_;rcases bU.mp z with z | z
      ·rw[z,Mm]at e;cases e
      ·rcases bU.mp z with z | z
       ·rw[z,Oa]at e;cases e
       ·rw[bf.mp z,nan]at e;cases e⟩ (sH.free z1) (sH.free z2) z3 z4 z5
   rintro acc H' ⟨uw,more,Ag,mm,FR2,e1,e2,fl2,ZR,F2,st2,hM2⟩ pl hpl;have lm2:=xF FR2
   have lmm:mm.length=ne:=by
    rw[e2,dN]at lm2;lia
   have s6:=zF hpl (.lst acc);have i6:upd H' pl (.lst acc) pl=some (.lst acc):=zC;generalize upd H' pl (.lst acc)=H6 at s6 i6 ⊢;have F6:=F2.mono s6;have Lx:bM Hi H6 [as,ap,an] [as,ap,an]:=bM.trans st2 (bM.same _ s6);have k6:=Fi.keep Lx
   have sH6:aG H H6:=fun b o e=>Lx.rest b o (si b o e) fun z=>by
    rcases bU.mp z with z | z
    ·rw[z,Mm]at e;cases e
    ·rcases bU.mp z with z | z
     ·rw[z,Oa]at e;cases e
     ·rw[bf.mp z,nan]at e;cases e
   refine aL fun G_ g_=>?_;obtain⟨⟨dx6,hx6⟩,⟨sv6,qFM,qC2⟩,_⟩:=id F6
   have N5:uw[r]? = some (sr,zx):=by rw[e1,Lp rlt];exact hsr
   obtain⟨v6,hv6,q6,rfl,po6,pb6,pk6,kv6,hq6,ho6,_⟩:=qC2.get (k:=r) (r:=sr) (by rw[cG,N5];rfl);apply g_;clear g_ G_;have qC5:H6 pr=some (.lst rv):=Lx.rest _ _ NB prf;refine⟨_,rfl,.inl ⟨rfl,_,aR.of qC5⟩,_,rfl,aF (aJ.of (sH6 _ _ h1)) rfl ⟨_,rfl,x,C,dx6,_,_,rfl,hx6,cl,nS,Av _ _ _ _,_,rfl,bQ (aR.of qFM) (yQ hv6) (aF (aJ.of hq6) rfl ⟨t0,po6,c.rs,sr.os,rfl,⟨Wd,sH6 _ _ h6,h7.mono (aA.of sH6)⟩,ho6,Uq.1.lt,Uq.1.Sy,ok.ok.r40,fun tl H7 s7 htl=>?_⟩)⟩⟩;have i7:=s7 _ _ i6;refine⟨_,rfl,pl,_,rfl,.inl ⟨aR.of i7,fun tm htm=>?_⟩⟩;have s8:=zF htm (.tup acc);have i8:upd H7 tm (.tup acc) tm=some (.tup acc):=zC;generalize upd H7 tm (.tup acc)=H8 at s8 i8 ⊢;refine⟨zI (by show 2<=1000;decide),fun tr htr=>?_⟩;have s9:=zF htr (.tup [V.ref tl,V.ref tm]);have i9:upd H8 tr (.tup [V.ref tl,V.ref tm]) tr=some (.tup [V.ref tl,V.ref tm]):=zC;generalize upd H8 tr (.tup [V.ref tl,V.ref tm])=H9 at s9 i9 ⊢;have s69:=s7.trans (s8.trans s9);have Z4:H9 pr=some (.lst rv):=s69 _ _ qC5;refine⟨pr,_,_,rfl,rfl,Z4,zI (by lia),?_⟩;generalize hHa:upd H9 pr (.lst (rv++[.ref tr]))=Ha
   have ra:∀ b,b ≠ pr->Ha b=H9 b:=fun b z=>by rw[<-hHa];exact zQ z
   have pa:Ha pr=some (.lst (rv++[.ref tr])):=by rw[<-hHa];exact zC
   have ka:aA H9 Ha:=fun b xs e=>(ra b (fun z=>by rw[z,Z4]at e;cases e)).trans e;have k69:=(aA.of s69).trans ka;have k0a:aA Hi Ha:=k6.trans k69;have sa:aG H Ha:=fun b o e=>(ra b (fun z=>by rw[z,Fo]at e;cases e)).trans ((sH6.trans s69) _ _ e)
   have Fa:FD P w C Ha x as ap an (m:Int) uw:=by
    refine aL fun G_ g_=>?_;obtain⟨⟨dx9,y1⟩,⟨sv9,y2,y3⟩,⟨pv9,y4,y5⟩,y6,y7⟩:=F6.mono s69;apply g_;clear g_ G_;have z1:as ≠ pr:=fun z=>prf (by rw[<-z];simp);have z2:ap ≠ pr:=fun z=>prf (by rw[<-z];simp);have z3:an ≠ pr:=fun z=>prf (by rw[<-z];simp);exact⟨⟨dx9,(ra x (fH y1 Z4 nofun)).trans y1⟩,⟨sv9,(ra as z1).trans y2,y3.mono fun _ _ z=>z.mono ka⟩,⟨pv9,(ra ap z2).trans y4,y5.mono fun _ _ z=>z.mono ka⟩,y6.mono (fun b xs e=>ka b xs e) (ra an z3),y7⟩
   have qFO:pw ∉ [as,ap,an]:=Zn N7 npw
   have npp:pw ≠ pr:=fun z=>by rw[z,hpr]at Z1;cases Z1
   refine⟨uw,Ag,rv++[.ref tr],_,_,rfl,(by rw[Nat.add_mul,Nat.one_mul];exact FR2),(by rw[e1,dN];lia),fl2,ZR,Fa,sa,k0a _ _ hti,(ra pw npp).trans (s69 _ _ (Lx.rest _ _ VJ qFO)),ur.mono fun _ _ z=>z.mono k0a,pa,?_⟩;rw[FQ,e1,e2,Hv rl (by lia)];refine (hRi.mono fun _ _ z=>z.mono k0a).snoc ⟨tr,tl,tm,acc,rfl,ka _ _ i9,?_,(aA.of s9).trans ka _ _ i8,?_⟩
   ·have hl:(fs++more)[r]? = some (sr,zx):=by rw[<-e1];exact N5
    unfold rowAt;rw[hl];exact ((aA.of (s8.trans s9)).trans ka) _ _ htl
   ·unfold rowAt;show Al (Gu Ha) acc (((ms++mm).drop (r * ne)).take ne);rw[<-lms,List.drop_left,uz (by lia)];exact hM2.mono fun _ _ z=>(z.mono (aA.of s6)).mono k69
  ·have z:=of_decide_eq_false z;exact⟨r,fs,ms,rv,o5,o6,rfl,FR,by lia,by lia,aok,Fi,si,hti,VJ,ur,NB,hRi⟩
 rintro _ Hi bV;refine aL fun G_ g_=>?_;obtain⟨N,fs,ms,rv,o5,o6,rfl,FR,fl,Nm,aok,Fi,si,hti,VJ,ur,NB,hRi⟩:=bV;apply g_;clear g_ G_;refine⟨_,rfl,aF (aJ.of hti) rfl ⟨pw,wv,dW,rfl,VJ,ur,by lia,fun pl H6 s6 npl hpl=>?_⟩⟩;refine⟨pl,_,rfl,.inl ⟨aR.of hpl,fun tw htw=>?_⟩⟩;have s7:=zF htw (.tup ((cg dW).map V.str));have i7:upd H6 tw (.tup ((cg dW).map V.str)) tw=some (.tup ((cg dW).map V.str)):=zC;generalize upd H6 tw (.tup ((cg dW).map V.str))=H7 at s7 i7 ⊢;have s67:=s6.trans s7;refine aL fun G_ g_=>?_;obtain⟨⟨dx7,hx7⟩,⟨sv7,qFL,qC1⟩,_⟩:=id (Fi.mono s67);apply g_;clear g_ G_;refine⟨_,rfl,_,rfl,x,C,dx7,_,_,rfl,hx7,cl,nS,Av _ _ _ _,zI (by show 3<=1000;decide),fun tr htr=>?_⟩;have s8:=zF htr (.tup [V.ref tw,V.ref pr,V.ref as]);exact qa N fs ms tr tw pr as rv sv7 _ FR fl Nm aok zC (s8 _ _ i7) ((s67.trans s8) _ _ NB) (hRi.mono fun _ _ z=>z.mono (aA.of (s67.trans s8))) (s8 _ _ qFL) (qC1.mono fun _ _ z=>z.mono (aA.of s8)) (si.trans (s67.trans s8)) Fo Mm (fun z=>prf (by rw[z];simp))
end
end xR
namespace mC
open PySem L2
inductive Jt(vs:List V)(H:Hp)(Q:VK)(E_:XK):Prop
 | mk (n:Int) (_:vs=[.int n]) (_:Q (.bl true) H)
section
theorem Bo:aH ["_law_found"] ["_law_found"] (aC Br):=fW
theorem QM(F:dM K "_law_whole" "_law_whole" Br f fd)(aQ:mg "isinstance" = none)(Fx:mg "int" = none)(Yj:mg "bool" = none):aO P w K mg base aZ 1 f fd ["_law_found"] Jt:=by
 refine F.ok Bo (fun vs H Q E h=>?_) (fun cdv A outer s H vs Q E hr h=>?_)
 ·refine aL fun G_ g_=>?_;obtain⟨n,rfl,_⟩:=h;apply g_;clear g_ G_;rfl
 refine aL fun G_ g_=>?_;obtain⟨n,rfl,q⟩:=h;apply g_;clear g_ G_;refine⟨_,(zG (zO (QF (zS bT rfl aQ sI (zA (pv 0) (zA (fG (v:=.ty "int") rfl Fx PyProof.Rows.boot_int rfl) zD))) (CG (Ia (zS bT rfl aQ sI (zA (pv 0) (zA (fG (v:=.ty "bool") rfl Yj PyProof.Rows.boot_bool rfl) zD)))))))),?_⟩;refine⟨_,rfl,_,"int",_,true,rfl,.int n,Yp K,_,rfl,TJ rfl ?_⟩;exact⟨_,rfl,_,"bool",_,false,rfl,.int n,Yq K,_,rfl,q⟩
end
end mC
namespace Wy
open PySem L2 mC ou
inductive vL(vs:List V)(H:Hp)(Q:VK)(E_:XK):Prop
 | mk (a b p q) (_:vs=[.ref a,.ref b]) (_:H a=some (.tup (aB p))) (_:H b=some (.tup (aB q))) (_:(∀ x∈p,x < 8)) (_:(∀ x∈q,x < 8)) (_:p.length<=1000) (_:Q (.bl (decide (code q < code p))) H)
theorem Qc{os:List Nat}{i:Nat}{x:V}(h:(aB os)[i]? = some x):∃ hi:i < os.length,x = .int ((os[i]:Nat):Int):=by
 have hi:i < os.length:=by
  have:=(jM.mp h).1;rw[zU]at this;exact this
 refine⟨hi,?_⟩;unfold aB at h;rw[cG,dX hi]at h;exact (iM h).symm
theorem Kg{os:List Nat}{i:Nat}(hi:i < os.length):uO (aB os) (0+(i:Int))=some (.int ((os[i]:Nat):Int)):=by
 rw[Int.zero_add];refine yQ ?_;unfold aB;rw[cG,dX hi];rfl
theorem code_at(hp:i < p.length)(hq:i < q.length)(hl:p.length=q.length)(ht:p.take i=q.take i)(p8:∀ x∈p,x < 8)(h:p[i] < q[i]):code p < code q:=by
 have e1:p=p.take i++p[i] :: p.drop (i+1):=by rw[<-List.drop_eq_getElem_cons hp,List.take_append_drop]
 have e2:q=q.take i++q[i] :: q.drop (i+1):=by rw[<-List.drop_eq_getElem_cons hq,List.take_append_drop]
 have hx:p[i] < 8:=p8 _ (ig hp);have hd:∀ x∈p.drop (i+1),x < 8:=fun x hx=>p8 x (List.mem_of_mem_drop hx)
 have l1:(p.drop (i+1)).length=(q.drop (i+1)).length:=by rw[List.length_drop,List.length_drop,hl]
 generalize p[i]=x at e1 h hx;generalize q[i]=y at e2 h;generalize p.drop (i+1)=u at e1 hd l1;generalize q.drop (i+1)=v at e2 l1;rw[e1,e2,ht];show jD 0 (q.take i++x :: u) < jD 0 (q.take i++y :: v);rw[tQ,tQ,gJ,gJ];exact xP u v _ _ (by lia) l1 hd
section
theorem pK:aH ["_law_one","_law_other","_law_k"] ["_law_one","_law_other"] (aC lM):=fW
theorem Mh{f:Addr}{fd:FuncData}(F:dM K "_law_behind" "_law_behind" lM f fd)(aU:mg "len" = none)(au:mg "range" = none):aO P w K mg base aZ 1 f fd ["_law_one","_law_other"] vL:=by
 refine F.ok pK (fun vs H Q E h=>?_) (fun cdv A outer s H vs Q E hr h=>?_)
 ·refine aL fun G_ g_=>?_;obtain⟨a,b,p,q,rfl,_⟩:=h;apply g_;clear g_ G_;rfl
 refine aL fun G_ g_=>?_;obtain⟨a,b,p,q,rfl,ha,hb,p8,q8,qBP,qq⟩:=h;apply g_;clear g_ G_
 refine⟨_,(zE (yD (zL iI (zS zN rfl aU bh (zA (pv 0) zD)) (zS zN rfl aU bh (zA (pv 1) zD)) (zR _))
  (zG (zO (fB Aa (zS zN rfl aU bh (zA (pv 0) zD)) (zS zN rfl aU bh (zA (pv 1) zD)) (zR _))))
  zT)
  (zZ (cU PassesOwn.never rfl (bu rfl au (zA (zS zN rfl aU bh (zA (pv 0) zD)) zD)) (yJ (i:=2) pK.nd rfl (Or.inl rfl))
  (zG (yD (zL iI (yB zH (pv 0) (pv 2) (fun _ _=>rfl)) (yB zH (pv 1) (pv 2) (fun _ _=>rfl)) (zR _))
  (zG (zO (fB Aa (yB zH (pv 0) (pv 2) (fun _ _=>rfl)) (yB zH (pv 1) (pv 2) (fun _ _=>rfl)) (zR _))))
  zT)))
  (zG (zO cz)))),?_⟩
 have lp:=zU p;have lq:=zU q;refine⟨_,rfl,gf rfl (.inr (aJ.of ha)) ⟨_,rfl,gf rfl (.inr (aJ.of hb)) ⟨rfl,_,rfl,jg (fun c=>?_) (fun c=>?_)⟩⟩⟩
 ·have c':¬ V.int (((aB p).length:Nat):Int)=V.int (((aB q).length:Nat):Int):=by simpa using c
  have ne:p.length ≠ q.length:=fun z=>c' (by rw[lp,lq,z]);refine⟨_,rfl,gf rfl (.inr (aJ.of ha)) ⟨_,rfl,gf rfl (.inr (aJ.of hb)) (bF ?_)⟩⟩
  have e:decide ((((aB p).length:Nat):Int) > (((aB q).length:Nat):Int))=decide (code q < code p):=by
   rw[lp,lq];refine decide_eq_decide.mpr ⟨fun z=>Gk (by lia) q8,fun z=>?_⟩
   by_cases y:p.length < q.length
   ·have:=Gk y p8;lia
   ·lia
  rw[<-e]at qq;exact qq
 have c':V.int (((aB p).length:Nat):Int)=V.int (((aB q).length:Nat):Int):=by simpa using c
 have hl:p.length=q.length:=by
  rw[lp,lq]at c';injection c' with c';lia
 refine⟨fun σ' H'=>H'=H/\p=q,?_,?_⟩
 ·refine⟨_,rfl,gf rfl (.inr (aJ.of ha)) ⟨_,rfl,by lia,by lia,?_⟩⟩;refine dG (fun i σ' H'=>H'=H/\p.take i=q.take i/\∃ o2:Option V,σ'=[some (.ref a),some (.ref b),o2]) ⟨rfl,rfl,_,rfl⟩ ?_ ?_
  ·rintro i σ' H' hi bV;refine aL fun G_ g_=>?_;obtain⟨rfl,ht,o2,rfl⟩:=bV;apply g_;clear g_ G_
   have hip:i < p.length:=by
    simp only[Int.toNat_natCast]at hi;lia
   have hiq:i < q.length:=by lia
   refine⟨_,rfl,_,rfl,aF (aJ.of ha) (Kg hip) ⟨_,rfl,_,rfl,aF (aJ.of hb) (Kg hiq) ⟨rfl,_,rfl,jg (fun c=>?_) (fun c=>?_)⟩⟩⟩
   ·have ne:¬ V.int ((p[i]:Nat):Int)=V.int ((q[i]:Nat):Int):=by simpa using c
    have ne':p[i] ≠ q[i]:=fun z=>ne (by rw[z]);refine⟨_,rfl,_,rfl,aF (aJ.of ha) (Kg hip) ⟨_,rfl,_,rfl,aF (aJ.of hb) (Kg hiq) (bF ?_)⟩⟩
    have e:decide (((p[i]:Nat):Int) > ((q[i]:Nat):Int))=decide (code q < code p):=by
     refine decide_eq_decide.mpr ⟨fun z=>code_at hiq hip hl.symm ht.symm q8 (by lia),fun z=>?_⟩
     by_cases y:p[i] < q[i]
     ·have:=code_at hip hiq hl ht p8 y;lia
     ·lia
    rw[<-e]at qq;exact qq
   ·have eq:V.int ((p[i]:Nat):Int)=V.int ((q[i]:Nat):Int):=by simpa using c
    have eq':p[i]=q[i]:=by
     injection eq with eq;lia
    refine⟨rfl,?_,_,rfl⟩;rw[jN,jN,ht,dX hip,dX hiq,eq']
  ·rintro σ' H' bV;refine aL fun G_ g_=>?_;obtain⟨rfl,ht,_⟩:=bV;apply g_;clear g_ G_;refine⟨rfl,?_⟩;rw[Og,lp,uz (bD _),uz (by lia)]at ht;exact ht
 rintro σ' H' ⟨rfl,e⟩;have e2:decide (code q < code p)=false:=decide_eq_false (by rw[e];lia);rw[e2]at qq;exact qq
end
end Wy
namespace xR
open PySem L2 mC ou xT O5 Dl jP Ru
open Bb (Al)
theorem lB(p:List Nat)(x:Nat):Wy.code (p++[x])=8 * Wy.code p+(x+1):=by
 unfold Wy.code Wy.jD;rw[List.foldl_append];rfl
section
theorem Qn(h:0 < ne):((i+1) / ne=i / ne/\(i+1) % ne=i % ne+1) ∨ ((i+1) / ne=i / ne+1/\(i+1) % ne=0/\i % ne+1=ne):=by
 have h1:=Nat.div_add_mod i ne;have h2:=Nat.mod_lt i h
 by_cases z:i % ne+1=ne
 ·refine .inr ⟨?_,?_,z⟩
  ·have:i+1=ne * (i / ne+1):=by rw[Nat.mul_add,Nat.mul_one];lia
   rw[this,Nat.mul_div_cancel_left _ h]
  ·have:i+1=ne * (i / ne+1):=by rw[Nat.mul_add,Nat.mul_one];lia
   rw[this,Nat.mul_mod_right]
 ·have e:ne * (i / ne)+(i % ne+1)=i+1:=by lia
  refine .inl ⟨?_,?_⟩
  ·calc (i+1) / ne=(ne * (i / ne)+(i % ne+1)) / ne:=by rw[e]
    _=i / ne:=by rw[Nat.mul_add_div h,Nat.div_eq_of_lt (show i % ne+1 < ne by lia),Nat.add_zero]
  ·calc (i+1) % ne=(ne * (i / ne)+(i % ne+1)) % ne:=by rw[e]
    _=i % ne+1:=by rw[Nat.mul_add_mod,Nat.mod_eq_of_lt (show i % ne+1 < ne by lia)]
structure qE6(ne i:Nat)(fs:Fs):Prop where
 xX:fs.Pairwise fun a b=>Wy.code a.2 < Wy.code b.2
 ev:∀ x∈fs,∀ y∈x.2,y < ne
 len:∀(r:Nat)(x:S4 × List Nat),fs[r]? = some x->x.2.length<=r
 bnd:∀ x:S4 × List Nat,fs[i / ne]? = some x->∀ y∈fs,Wy.code y.2<=8 * Wy.code x.2+i % ne
theorem Ke{fs:Fs}(h:fs.Pairwise fun a b=>Wy.code a.2 < Wy.code b.2){j k:Nat}{x y:S4 × List Nat}(hj:fs[j]? = some x)(hk:fs[k]? = some y)(lt:j < k):Wy.code x.2 < Wy.code y.2:=by
 obtain⟨h1,e1⟩:=jM.mp hj;obtain⟨h2,e2⟩:=jM.mp hk;have:=List.pairwise_iff_getElem.mp h j k h1 h2 lt;rw[e1,e2]at this;exact this
theorem Gm(O:qE6 ne i fs)(h1:fs[i / ne]? = some (s,p)):∀ y∈rR fs s' (p++[i % ne]),Wy.code y.2<=8 * Wy.code p+(i % ne+1):=by
 intro y hy;have b:=O.bnd _ h1
 cases hr:rowOf fs s' with
 | some j=>
  rw[(az hr).1]at hy;have:=b y hy;simp only at this;lia
 | none=>
  rw[(aq hr).1]at hy;rcases eG.mp hy with hy | hy
  ·have:=b y hy;simp only at this;lia
  ·rw[bf.mp hy];show Wy.code (p++[i % ne])<=_;rw[lB];lia
theorem wz(e8:ne<=8){fs:Fs}{ms:List (List En × Nat)}(h:aX c ne s0 i fs ms):qE6 ne i fs:=by
 induction h with
 | nil=>
  refine⟨List.pairwise_singleton _ _,fun x hx y hy=>?_,fun r x hx=>?_,fun x _ y hy=>?_⟩
  ·rw[bf.mp hx]at hy
   cases hy
  ·cases r with
   | zero=>cases hx;exact bD _
   | succ r=>cases hx
  ·rw[bf.mp hy];exact Nat.zero_le _
 | @cell i fs ms s s' p es h h0 h1 h2 O=>
  have top:=Gm (s':=nl s') O h1
  have xX:(rR fs (nl s') (p++[i % ne])).Pairwise fun a b=>Wy.code a.2 < Wy.code b.2:=by
   cases hr:rowOf fs (nl s') with
   | some j=>rw[(az hr).1];exact O.xX
   | none=>
    rw[(aq hr).1,List.pairwise_append];refine⟨O.xX,List.pairwise_singleton _ _,fun a ha b hb=>?_⟩;rw[bf.mp hb];have:=O.bnd _ h1 a ha;show Wy.code a.2 < Wy.code (p++[i % ne]);rw[lB];simp only at this;lia
  refine⟨xX,?_,?_,?_⟩
  ·cases hr:rowOf fs (nl s') with
   | some j=>rw[(az hr).1];exact O.ev
   | none=>
    rw[(aq hr).1];intro x hx y hy;rcases eG.mp hx with hx | hx
    ·exact O.ev x hx y hy
    ·rw[bf.mp hx]at hy;rcases eG.mp hy with hy | hy
     ·exact O.ev _ (Bd h1) y hy
     ·rw[bf.mp hy];exact Nat.mod_lt _ h0
  ·cases hr:rowOf fs (nl s') with
   | some j=>rw[(az hr).1];exact O.len
   | none=>
    rw[(aq hr).1];intro r x hx
    by_cases z:r < fs.length
    ·rw[Lp z]at hx;exact O.len r x hx
    ·have hl:=(jM.mp hx).1;rw[dN,iG]at hl
     obtain rfl:r=fs.length:=by lia
     rw[Tc (bD _),Nat.sub_self]at hx
     cases hx
     have a:=O.len _ _ h1;have b:=(jM.mp h1).1;show (p++[i % ne]).length<=_;rw[dN,iG];simp only at a;lia
  ·intro x hx y hy;have t:=top y hy;obtain⟨more,em,_⟩:=nj fs (nl s') (p++[i % ne]);have hk:=(jM.mp h1).1
   have h1':(rR fs (nl s') (p++[i % ne]))[i / ne]? = some (s,p):=by rw[em,Lp hk];exact h1
   rcases Qn (i:=i) h0 with ⟨e1,e2⟩ | ⟨e1,e2,e3⟩
   ·rw[e1,h1']at hx
    cases hx
    rw[e2];exact t
   ·rw[e1]at hx;have:=Ke xX h1' hx (by lia);simp only at this;rw[e2];lia
end
inductive rT(c:jR)(s:S4):List Nat->S4->Prop
 | nil:rT c s [] s
 | snoc {p:List Nat} {e:Nat} {es:List En} {s1 s2:S4}:rT c s p s1->HD c (e:Int) s1 es s2->rT c s (p++[e]) (nl s2)
inductive Ek(vs:List V)(H:Hp)(Q:VK)(E_:XK):Prop
 | mk (pc pw:Addr) (c:jR) (bs:List (Int × Int)) (ne:Nat) (p:List Nat) (_:vs=[.ref pc,.ref pw]) (_:pA.Ln H pc c bs ne) (_:pA.oG c bs) (_:H pw=some (.tup (aB p))) (_:p.length<=1000) (_:∀ ps s dW s0 H',aG H H'->uB c bs dW s0->rT c (nl s0) p s->gK c s->Jw c s.os s.ks->s.l=[]->cL H' ps s->Q (.ref ps) H')
theorem Wn(h:gK c s):gK c (nl s):=⟨h.inc,h.lt,h.Sy,h.bx,h.ks,Nat.zero_le _⟩
section
theorem gO:aH ["_law_chart","_law_way","_law_stand","_law_event"] ["_law_chart","_law_way"] (aC lK):=fW
theorem MK(F:dM K "_law_walked" "_law_walked" lK f fd)
  (Dv:Dp P w K mg base aZ m g8 d8 ["chart"] (Bh 3) "begun")
  (rZ:Dp P w K mg base aZ m g9 d9 ["chart","stand","event"] (uZ 3) "after") :
  aO P w K mg base aZ (m+1) f fd ["_law_chart","_law_way"] Ek:=by
 refine F.ok gO (fun vs H Q E h=>?_) (fun cdv A outer s H vs Q E hr h=>?_)
 ·obtain⟨pc,pw,c,bs,ne,p,rfl,_⟩:=h;rfl
 obtain⟨pc,pw,c,bs,ne,p,rfl,hX,ok,hp,lp,q⟩:=h
 refine⟨_,(zE (zK (i:=2) gO.nd rfl (Or.inl rfl) (yB zH (pC Dv hr (zA (pv 0) zD)) zB (fun _ _=>rfl)))
  (zZ (cU PassesOwn.never rfl (mq (pv 1)) (yJ (i:=3) gO.nd rfl (Or.inl rfl))
  (zG (zK (i:=2) gO.nd rfl (Or.inl rfl) (yB zH (pC rZ hr (zA (pv 0) (zA (pv 2) (zA (pv 3) zD)))) zB (fun _ _=>rfl)))))
  (zG (zO (pv 2))))),?_⟩
 refine⟨_,rfl,pc,c,bs,ne,rfl,hX,ok,bD _,fun t ps0 pw0 wv dW s0 H1 BR j0 so0 s1 ht hS _ _ _ _=>?_⟩;refine aF (aJ.of ht) rfl ?_;have alc:All c (Jw c) 3:=⟨ok.ok,wide ok.ok,fun d hd=>⟨(ok.g d hd).1,(ok.g d hd).2⟩⟩;refine⟨fun σ' H'=>∃(ps:Addr)(s:S4),aG H H'/\rT c (nl s0) p s/\gK c s/\Jw c s.os s.ks/\s.l=[]/\cL H' ps s/\∃ o3:Option V,σ'=[some (.ref pc),some (.ref pw),some (.ref ps),o3],?_,?_⟩
 ·refine⟨_,rfl,pw,rfl,⟨_,aJ.of (s1 _ _ hp)⟩,?_⟩;refine Cy (K:=K) (a:=pw) (xs:=aB p) (fun i σ' H'=>∃(ps:Addr)(s:S4),aG H H'/\rT c (nl s0) (p.take i) s/\gK c s/\Jw c s.os s.ks/\s.l=[]/\cL H' ps s/\∃ o3:Option V,σ'=[some (.ref pc),some (.ref pw),some (.ref ps),o3])
   ⟨ps0,nl s0,s1,.nil,Wn so0,j0,rfl,hS,none,rfl⟩ (fun i σ' H' _ ⟨_,_,s',_⟩=>aJ.of (s' _ _ hp)) ?_ ?_
  ·rintro i x _ H2 hx ⟨ps,s,s2,W,so,j,l0,hs,o3,rfl⟩;obtain⟨hi,rfl⟩:=Wy.Qc hx;refine⟨_,rfl,_,rfl,_,rfl,pc,ps,c,_,s,rfl,(hX.ch ok).mono (aA.of s2),alc,hs,so,j,l0,by have:=ok.t4;lia,fun t ps' pw' wv' es' s' H3 AR j' so' s3 ht' hS' _ _ _ _=>?_⟩;refine aF (aJ.of ht') rfl ⟨ps',nl s',s2.trans s3,?_,Wn so',j',rfl,hS',_,rfl⟩;rw[jN,dX hi];exact .snoc W AR
  ·rintro _ H2 ⟨ps,s,s2,W,r⟩;rw[zU,List.take_length]at W;exact⟨ps,s,s2,W,r⟩
 rintro _ H2 ⟨ps,s,s2,W,so,j,l0,hs,o3,rfl⟩;exact⟨_,rfl,q ps s dW s0 H2 s2 BR W so j l0 hs⟩
end
inductive Eo(vs:List V)(H:Hp)(Q:VK)(E_:XK):Prop
 | mk (pf:Addr) (wv:List V) (ps:List (List Nat)) (ne:Nat) (_:vs=[.ref pf,.int (ne:Int),.int (wv.length:Int)]) (_:H pf=some (.lst wv)) (_:Al (uV H) wv ps) (_:ps.Pairwise fun a b=>Wy.code a < Wy.code b) (_:∀ p∈ps,(∀ x∈p,x < ne)/\p.length<=1000) (_:ne<=8) (_:ps[0]? = some []) (_:ps.length<=1000) (_:Q (.bl true) H)
section
theorem je:aH ["_law_found","_law_events","_law_many","_law_k","_law_event"] ["_law_found","_law_events","_law_many"] (aC lL):=fW
theorem MN(F:dM K "_law_rising" "_law_rising" lL f fd)
  (Gx:Dp P w K mg base aZ m g1 d1 ["_law_found"] Jt "_law_whole")
  (iV:Dp P w K mg base aZ m g2 d2 ["_law_one","_law_other"] Wy.vL "_law_behind")
  (aU:mg "len" = none) (au:mg "range" = none) (aW:mg "tuple" = none) (dB:mg "list" = none) (aQ:mg "isinstance" = none):aO P w K mg base aZ (m+1) f fd ["_law_found","_law_events","_law_many"] Eo:=by
 refine F.ok je (fun vs H Q E h=>?_) (fun cdv A outer s H vs Q E hr h=>?_)
 ·obtain⟨pf,wv,ps,ne,rfl,_⟩:=h;rfl
 obtain⟨pf,wv,ps,ne,rfl,hf,hA,xX,ev,e8,p0,lps,q⟩:=h
 refine⟨_,(zE (yD (cC (PW.pt (pw_or (cB (bR (zS bT rfl aQ sI (zA (pv 0) (zA (fG (v:=.ty "list") rfl dB PyProof.Rows.boot_list rfl) zD))))) (pw_or1 (zL iI (zS zN rfl aU bh (zA (pv 0) zD)) (pv 2) (zR _))))))
  (zG (zO cz))
  zT)
  (zZ (cU PassesOwn.never rfl (bu rfl au (zA (pv 2) zD)) (yJ (i:=3) je.nd rfl (Or.inl rfl))
  (zE (yD (cB (bR (zS bT rfl aQ sI (zA (yB yU (pv 0) (pv 3) (fun _ _=>rfl)) (zA (fG (v:=.ty "tuple") rfl aW lD rfl) zD)))))
  (zG (zO cz))
  zT)
  (zZ (cU PassesOwn.never rfl (mq (yB yU (pv 0) (pv 3) (fun _ _=>rfl))) (yJ (i:=4) je.nd rfl (Or.inl rfl))
  (zG (yD (cC (PW.pt (pw_or (cB (bR (pC Gx hr (zA (pv 4) zD)))) (pw_or1 (cB (IV Kf j5 zB (pv 4) (pv 1)))))))
  (zG (zO cz))
  zT)))
  (zG (yD (cC (PW.pt (pw_and (zL Aa (pv 3) zB (zR _)) (yP (cB (bR (pC iV hr (zA (yB yU (pv 0) (pv 3) (fun _ _=>rfl)) (zA (yB yU (pv 0) (yC CV (pv 3) zB) (fun _ _=>rfl)) zD)))))))))
  (zG (zO cz))
  zT)))))
  (zG (zO (fB yG (zS zN rfl aU bh (zA (yB yU (pv 0) zB (fun _ _=>rfl)) zD)) zB (zR _)))))),?_⟩
 have lw:=hA.length
 have at_:∀ {k:Nat} {p:List Nat},ps[k]? = some p->∃ a,uO wv (0+(k:Int))=some (.ref a)/\H a=some (.tup (aB p)):=fun h=>by
  obtain⟨v,hv,a,rfl,ha⟩:=hA.get h;exact⟨a,by rw[Int.zero_add];exact yQ hv,ha⟩
 refine⟨fun c H'=>H=H'/\c=false,⟨_,rfl,_,"list",_,true,rfl,.lst hf,by rfl,_,rfl,j8 rfl ⟨_,rfl,gf rfl (.inl (aR.of hf)) ⟨_,rfl,rfl,_,rfl,rfl,by simp⟩⟩⟩,?_⟩;rintro c _ ⟨rfl,rfl⟩;refine j8 rfl ?_;refine⟨fun σ' H'=>H=H'/\∃ o3 o4:Option V,σ'=[some (.ref pf),some (.int (ne:Int)),some (.int (wv.length:Int)),o3,o4],?_,?_⟩
 ·refine⟨_,rfl,_,rfl,by lia,by lia,?_⟩;refine dG (fun i σ' H'=>H=H'/\∃ o3 o4:Option V,σ'=[some (.ref pf),some (.int (ne:Int)),some (.int (wv.length:Int)),o3,o4]) ⟨rfl,none,none,rfl⟩ ?_ (fun _ _ z=>z);rintro i _ _ hi ⟨rfl,o3,o4,rfl⟩
  have hi2:i < ps.length:=by lia
  obtain⟨a,hat,ha⟩:=at_ (dX hi2);have evi:=ev _ (ig hi2);refine⟨_,rfl,_,rfl,bQ (aR.of hf) hat ⟨_,"tuple",_,true,rfl,.tup ha,by rfl,_,rfl,j8 rfl ?_⟩⟩;refine⟨fun σ' H'=>H=H'/\∃ o4:Option V,σ'=[some (.ref pf),some (.int (ne:Int)),some (.int (wv.length:Int)),some (.int (0+(i:Int))),o4],?_,?_⟩
  ·refine⟨_,rfl,_,rfl,bQ (aR.of hf) hat ⟨a,rfl,⟨_,aJ.of ha⟩,?_⟩⟩;refine Cy (K:=K) (a:=a) (xs:=aB ps[i]) (fun _ σ' H'=>H=H'/\∃ o4:Option V,σ'=[some (.ref pf),some (.int (ne:Int)),some (.int (wv.length:Int)),some (.int (0+(i:Int))),o4]) ⟨rfl,_,rfl⟩ (fun _ _ _ _ ⟨e,_⟩=>e ▸ aJ.of ha) ?_ (fun _ _ z=>z);rintro k x _ _ hx ⟨rfl,o4,rfl⟩;obtain⟨hk,rfl⟩:=Wy.Qc hx;have lt:=evi.1 _ (ig hk);refine⟨fun c H'=>H=H'/\c=false,?_,?_⟩
   ·refine⟨_,rfl,_,rfl,_,rfl,j8 rfl ?_⟩;refine⟨_,rfl,_,_,_,rfl,rfl,⟨_,rfl,rfl,rfl⟩,_,rfl,rfl,?_⟩;show (!(decide ((0:Int)<=((ps[i][k]:Nat):Int)) && decide (((ps[i][k]:Nat):Int) < (ne:Int))))=false;rw[decide_eq_true (show (0:Int)<=((ps[i][k]:Nat):Int) by lia),decide_eq_true (show ((ps[i][k]:Nat):Int) < (ne:Int) by lia)];rfl
   rintro c _ ⟨rfl,rfl⟩;exact j8 rfl ⟨rfl,_,rfl⟩
  rintro _ _ ⟨rfl,o4,rfl⟩;refine⟨fun c H'=>H=H'/\c=false,?_,?_⟩
  ·refine⟨_,rfl,bF ⟨_,rfl,jg (fun c=>?_) (fun c=>⟨rfl,rfl⟩)⟩⟩;have c0:=of_decide_eq_true c;obtain⟨j,rfl⟩:∃ j,i=j+1:=⟨i - 1,by lia⟩
   have hj:j < ps.length:=by lia
   obtain⟨b,qG6,hb⟩:=at_ (dX hj);have lt:=List.pairwise_iff_getElem.mp xX j (j+1) hj hi2 (Nat.lt_succ_self j);refine⟨_,rfl,_,rfl,bQ (aR.of hf) hat ⟨_,rfl,_,rfl,bF (bQ (aR.of hf) (by rw[show (0:Int)+((j+1:Nat):Int) - 1=0+(j:Int) by lia];exact qG6) ⟨a,b,_,_,rfl,ha,hb,fun x hx=>by have:=evi.1 x hx;lia,fun x hx=>by have:=(ev _ (ig hj)).1 x hx;lia,evi.2,_,rfl,rfl,by rw[decide_eq_true lt];rfl⟩)⟩⟩
  rintro c _ ⟨rfl,rfl⟩;exact j8 rfl ⟨rfl,_,_,rfl⟩
 rintro _ _ ⟨rfl,o3,o4,rfl⟩;obtain⟨a,hat,ha⟩:=at_ p0;exact⟨_,rfl,bQ (aR.of hf) hat (gf rfl (.inr (aJ.of ha)) ⟨rfl,q⟩)⟩
end
theorem yq(h:aX c ne s0 i fs ms)(h':aX c ne s0 j fs' xY)(e:fs.length=fs'.length):fs=fs':=by
 have one:∀ {i j:Nat} {fs fs':Fs} {ms xY:List (List En × Nat)},aX c ne s0 i fs ms->aX c ne s0 j fs' xY->fs.length=fs'.length->i<=j->fs=fs':=fun h h' e le=>by
  obtain⟨f2,m2,more,mm,g1,g2,g3,_⟩:=tM h' _ le;obtain⟨rfl,rfl⟩:=nT g1 h;have:=congrArg List.length g2;rw[dN]at this;rw[g2,List.eq_nil_of_length_eq_zero (l:=more) (by lia),fY]
 rcases Nat.le_total i j with z | z
 ·exact one h h' e z
 ·exact (one h' h e.symm z).symm
theorem kW(h:aX c ne s0 (N * ne) fs ms)(e:fs.length=N)(l:N<=m)(h':aX c ne s0 i fs' xY)(e':fs'.length=m+1):False:=by
 have hi:=xH h e h';obtain⟨f2,m2,more,Ag,g1,g2,g3,_⟩:=tM h i hi;obtain⟨rfl,rfl⟩:=nT h' g1;have:=congrArg List.length g2;rw[dN]at this;lia
theorem Ez(h:aX c ne s0 (N * ne) fs ms)(e:fs.length=N)(h':aX c ne s0 (N' * ne) fs' xY)(e':fs'.length=N'):N=N'/\fs=fs'/\ms=xY:=by
 have a:=xH h e h';have b:=xH h' e' h
 have z:N * ne=N' * ne:=by lia
 obtain⟨rfl,rfl⟩:=nT (z ▸ h) h';exact⟨by lia,rfl,rfl⟩
inductive WT(n:Nat)(vs:List V)(H:Hp)(Q:VK)(E_:XK):Prop
 | mk (pc:Addr) (m:Nat) (c:jR) (bs:List (Int × Int)) (ne:Nat) (dW:List En) (s0:S4) (i:Nat) (fs:Fs) (ms:List (List En × Nat)) (_:vs=[.ref pc,.int (m:Int)]) (_:pA.Ln H pc c bs ne) (_:pA.oG c bs) (_:3<=n) (_:1<=m) (_:m<=300) (_:ne<=8) (_:uB c bs dW s0) (_:aX c ne s0 i fs ms) (_:fs.length=m+1) (_:∀(pl:Addr)(pv:List V)(H':Hp),H' pl=some (.lst pv)->Al (uV H') pv (fs.map (·.2))->aG H H'->H pl=none->Q (.ref pl) H')
section
theorem jx:aH ["_law_chart","_law_most","e"] ["_law_chart","_law_most"] (aC gP):=fW
theorem Fd(F:dM K "_law_ways_told" "_law_ways_told" gP f fd)
  (bY:Dp P w K mg base (pP P w) m' g1 d1 ["chart","most"] (vK CT n) "flat")
  (dF:mg "TooWide" = some (.ref CT)) (jo:PySem.W.exmOne K (.ref CT) (.ref CT)=some true) (qQ:pJ K CT) (q:xU K CT "ways"):aO P w K mg base aZ (m'+1) f fd ["_law_chart","_law_most"] (WT n):=by
 refine F.ok jx (fun vs H Q E h=>?_) (fun cdv A outer s H vs Q E hr h=>?_)
 ·refine aL fun G_ g_=>?_;obtain⟨pc,m,c,bs,ne,dW,s0,i,fs,ms,rfl,_⟩:=h;apply g_;clear g_ G_;rfl
 refine aL fun G_ g_=>?_;obtain⟨pc,m,c,bs,ne,dW,s0,i,fs,ms,rfl,hX,ok,n3,m1,yg,Iw,BR,FR,fl,qq⟩:=h;apply g_;clear g_ G_
 refine⟨_,(zE (w6 (i:=2) (w5 (qt bY.G hr rfl bY.m bY.k bY.b .nil (zA (pv 0) (zA (pv 1) zD)))) rfl dF jx.nd rfl rfl
   (fun _=>(zG (zO (show PE _ _ (Jq K (Ot 2) "ways") from CP (pv 2) rfl)))))
  (zG (zO gA))),?_⟩
 refine⟨_,rfl,_,rfl,pc,m,c,bs,ne,rfl,hX,ok,n3,m1,yg,Iw,fun qDN s0' BR' qFF=>⟨fun N fs' xY t tw pr as rv sv H' FR' Gg Nm=>?_,fun i' fs' xY FR' Gg dx pl pv H2 st z1 z2 z3 z4 z5=>⟨CT,rfl,jo,fun ea Z8=>?_⟩⟩⟩
 ·obtain⟨rfl,rfl⟩:=fP BR BR';exact (kW FR' Gg Nm FR fl).elim
 ·obtain⟨rfl,rfl⟩:=fP BR BR';have e:=yq FR FR' (by lia);have s2:aG H H2:=fun b o e=>st.rest b o e (by simp);have s3:=zF Z8 (fO ea CT (some dx));have i3:upd H2 ea (fO ea CT (some dx)) ea=some (fO ea CT (some dx)):=zC;generalize upd H2 ea (fO ea CT (some dx))=H3 at s3 i3 ⊢;exact⟨_,rfl,ea,CT,dx,_,V.ref pl,rfl,i3,qQ,q,s3 _ _ z3,rfl,qq pl pv H3 (s3 _ _ z4) (by rw[e];exact z5.mono fun _ _ z=>z.mono (aA.of s3)) (s2.trans s3) z2⟩
end
inductive WR(n:Nat)(vs:List V)(H:Hp)(Q:VK)(E_:XK):Prop
 | mk (pc:Addr) (m:Nat) (c:jR) (bs:List (Int × Int)) (ne:Nat) (dW:List En) (s0:S4) (i:Nat) (fs:Fs) (ms:List (List En × Nat)) (_:vs=[.ref pc,.int (m:Int)]) (_:pA.Ln H pc c bs ne) (_:pA.oG c bs) (_:3<=n) (_:1<=m) (_:m<=300) (_:ne<=8) (_:uB c bs dW s0) (_:aX c ne s0 i fs ms) (_:fs.length=m+1) (_:∀ H',aG H H'->Q (.bl true) H')
section
theorem mV:aH ["_law_chart","_law_most","e"] ["_law_chart","_law_most"] (aC jU):=fW
theorem Ih(F:dM K "_law_refused" "_law_refused" jU f fd)
  (bY:Dp P w K mg base (pP P w) m' g1 d1 ["chart","most"] (vK CT n) "flat")
  (nO:mg "NestError" = some (.ref CN)) (dF:mg "TooWide" = some (.ref CT)) (J9:mg "BadChart" = some (.ref cb)) (Mr:mg "NoEvent" = some (.ref ce)) (Mq:mg "NoWords" = some (.ref cw)) (Qp:mg "Unread" = some (.ref cu)) (V7:mg "NoRow" = some (.ref cr)) (Qq:mg "NoName" = some (.ref cn)) (aQ:mg "isinstance" = none) (Cj:mg "ValueError" = none)
  (Ef:PySem.W.exmOne K (.ref CT) (.ref CN)=some true) (qQ:pJ K CT) (kv:PySem.W.kitOne K (.ref CT) (.type "ValueError")=some true) (kt:PySem.W.kitOne K (.ref CT) (.ref CT)=some true) (ka:PySem.W.kitAny K (.ref CT) ([cb,ce,cw,cu,cr,cn].map Value.ref)=some false):aO P w K mg base aZ (m'+1) f fd ["_law_chart","_law_most"] (WR n):=by
 refine F.ok mV (fun vs H Q E h=>?_) (fun cdv A outer s H vs Q E hr h=>?_)
 ·obtain⟨pc,m,c,bs,ne,dW,s0,i,fs,ms,rfl,_⟩:=h;rfl
 obtain⟨pc,m,c,bs,ne,dW,s0,i,fs,ms,rfl,hX,ok,n3,m1,yg,Iw,BR,FR,fl,qq⟩:=h
 refine⟨_,(zE (w6 (i:=2) (w5 (qt bY.G hr rfl bY.m bY.k bY.b .nil (zA (pv 0) (zA (pv 1) zD)))) rfl nO mV.nd rfl rfl
   (fun _=>(zE (yD (cC (PW.pt (pw_or (cB (bR (zS (r:=qB3 K) S7 rfl aQ sI (zA (pv 2) (zA (fG (v:=.ty "ValueError") rfl Cj PyProof.Rows.Boot.«ValueError» rfl) zD))))) (pw_or1 (cB (bR (zS (r:=Wh K) Ny rfl aQ sI (zA (pv 2) (zA (lN (v:=.ref CT) rfl dF rfl) zD)))))))))
  (zG (zO cz))
  zT)
  (zG (zO (Ia (zS (r:=Wg K) Nx rfl aQ sI (zA (pv 2) (zA (zW (zA (lN (v:=.ref cb) rfl J9 rfl) (zA (lN (v:=.ref ce) rfl Mr rfl) (zA (lN (v:=.ref cw) rfl Mq rfl) (zA (lN (v:=.ref cu) rfl Qp rfl) (zA (lN (v:=.ref cr) rfl V7 rfl) (zA (lN (v:=.ref cn) rfl Qq rfl) zD))))))) zD)))))))))
  (zG (zO cz))),?_⟩
 refine⟨_,rfl,_,rfl,pc,m,c,bs,ne,rfl,hX,ok,n3,m1,yg,Iw,fun qDN s0' BR' qFF=>⟨fun N fs' xY t tw pr as rv sv H' FR' Gg Nm=>?_,fun i' fs' xY FR' Gg dx pl pv H2 st z1 z2 z3 z4 z5=>⟨CT,rfl,Ef,fun ea Z8=>?_⟩⟩⟩
 ·obtain⟨rfl,rfl⟩:=fP BR BR';exact (kW FR' Gg Nm FR fl).elim
 ·have s2:aG H H2:=fun b o e=>st.rest b o e (by simp);have s3:=zF Z8 (fO ea CT (some dx));have i3:upd H2 ea (fO ea CT (some dx)) ea=some (fO ea CT (some dx)):=zC;generalize upd H2 ea (fO ea CT (some dx))=H3 at s3 i3 ⊢;refine⟨fun c H'=>H3=H'/\c=false,⟨_,rfl,ea,CT,_,"ValueError",true,rfl,i3,qQ,kv,_,rfl,j8 rfl ⟨_,rfl,ea,CT,CT,_,true,rfl,i3,qQ,kt,_,rfl,rfl,rfl⟩⟩,?_⟩;rintro c _ ⟨rfl,rfl⟩;refine j8 rfl ?_;refine⟨_,rfl,zI (by show 6<=1000;decide),fun p hp=>⟨ea,CT,p,_,[cb,ce,cw,cu,cr,cn],false,rfl,zF hp _ _ _ i3,qQ,zC,ka,_,rfl,qq _ (s2.trans (s3.trans (zF hp _)))⟩⟩
end
section
theorem rO{l m:List α}{k:Nat}{x:α}(h:l[k]? = some x):(l++m)[k]? = some x:=by
 rw[Lp (jM.mp h).1];exact h
theorem Vs(e8:ne<=8)(h:aX c ne s0 i fs ms):∀ q:Nat,q < i->∃(s:S4)(p:List Nat)(es:List En)(s':S4)(r:Nat)(t:S4)(u:List Nat),fs[q / ne]? = some (s,p)/\HD c ((q % ne:Nat):Int) s es s'/\fs[r]? = some (t,u)/\nl t=nl s'/\Wy.code u<=Wy.code (p++[q % ne]):=by
 induction h with
 | nil=>intro q hq;lia
 | @cell i fs ms s s' p es h h0 h1 h2 ih=>
  intro q hq;obtain⟨more,em,_⟩:=nj fs (nl s') (p++[i % ne])
  by_cases z:q < i
  ·obtain⟨s1,p1,e1,s2,r,t,u,a1,a2,a3,a4,a5⟩:=ih q z;exact⟨s1,p1,e1,s2,r,t,u,by rw[em];exact rO a1,a2,by rw[em];exact rO a3,a4,a5⟩
  ·obtain rfl:q=i:=by lia
   obtain⟨t,u,a1,a2⟩:=Vz fs (nl s') (p++[q % ne]);refine⟨s,p,es,s',_,t,u,by rw[em];exact rO h1,h2,a1,a2,?_⟩;rw[lB];exact Gm (wz e8 h) h1 _ (Bd a1)
theorem Gn(h:aX c ne s0 i fs ms):∀(r:Nat)(x:S4 × List Nat),fs[r+1]? = some x->∃(j:Nat)(y:S4 × List Nat),j < i/\fs[j / ne]? = some y/\x.2=y.2++[j % ne]:=by
 induction h with
 | nil=>intro r x hx;simp at hx
 | @cell i fs ms s s' p es h h0 h1 h2 ih=>
  intro r x hx
  cases hr:rowOf fs (nl s') with
  | some k=>
   rw[(az hr).1]at hx ⊢;obtain⟨j,y,a1,a2,a3⟩:=ih r x hx;exact⟨j,y,by lia,a2,a3⟩
  | none=>
   rw[(aq hr).1]at hx ⊢
   by_cases z:r+1 < fs.length
   ·rw[Lp z]at hx;obtain⟨j,y,a1,a2,a3⟩:=ih r x hx;exact⟨j,y,by lia,rO a2,a3⟩
   ·have hk:=(jM.mp hx).1;rw[dN,iG]at hk
    have e:r+1=fs.length:=by lia
    rw[e,Tc (bD _),Nat.sub_self]at hx;obtain rfl:=iM hx;exact⟨i,_,Nat.lt_succ_self i,rO h1,rfl⟩
theorem Nb(h:aX c ne s0 i fs ms):∀(r:Nat)(x:S4 × List Nat),fs[r]? = some x->rT c (nl s0) x.2 x.1:=by
 induction h with
 | nil=>
  intro r x hx
  cases r with
  | zero=>
   obtain rfl:=iM hx;exact .nil
  | succ r=>simp at hx
 | @cell i fs ms s s' p es h h0 h1 h2 ih=>
  intro r x hx
  cases hr:rowOf fs (nl s') with
  | some k=>
   rw[(az hr).1]at hx;exact ih r x hx
  | none=>
   rw[(aq hr).1]at hx
   by_cases z:r < fs.length
   ·rw[Lp z]at hx;exact ih r x hx
   ·have hk:=(jM.mp hx).1;rw[dN,iG]at hk
    have e:r=fs.length:=by lia
    rw[e,Tc (bD _),Nat.sub_self]at hx;obtain rfl:=iM hx;exact .snoc (ih _ _ h1) h2
theorem Oh(h:rT c s p a):∀ {b:S4},rT c s p b->a=b:=by
 induction h with
 | nil=>
  intro b h2;generalize hp:([]:List Nat)=p at h2
  cases h2 with
  | nil=>rfl
  | snoc _ _=>simp at hp
 | @snoc p e es s1 s2 h1 h2 ih=>
  intro b h3;generalize hp:p++[e]=q at h3
  cases h3 with
  | nil=>simp at hp
  | @snoc p' e' es' Sx s2' g1 g2=>
   obtain⟨rfl,he⟩:=List.append_inj' hp rfl;obtain rfl:=(List.cons.inj he).1;obtain rfl:=ih g1;rw[(Dj h2 g2).2]
theorem Nu(e8:ne<=8)(h:aX c ne s0 i fs ms)(hl:fs.length=m+1)(hx:fs[m]? = some x)(hk:fs[k]? = some y)(he:e < ne)(m1:0 < m)(le:Wy.code (y.2++[e])<=Wy.code x.2):k * ne+e < i:=by
 obtain⟨m,rfl⟩:∃ n,m=n+1:=⟨m - 1,by lia⟩;obtain⟨j,z,j1,j2,j3⟩:=Gn h m x hx;rw[j3,lB,lB]at le
 have n0:0 < ne:=by lia
 have jm:=Nat.mod_lt j n0;have jd:ne * (j / ne)+j % ne=j:=Nat.div_add_mod j ne;have O:=wz e8 h;rcases Nat.lt_trichotomy k (j / ne) with a | a | a
 ·have:(k+1) * ne<=(j / ne) * ne:=Nat.mul_le_mul_right ne a;rw[Nat.add_mul,Nat.one_mul]at this;rw[Nat.mul_comm]at jd;lia
 ·rw[a,j2]at hk;obtain rfl:=iM hk;rw[a];rw[Nat.mul_comm]at jd;lia
 ·have:=Ke O.xX j2 hk a;lia
end
noncomputable def Cv(z v:Int)(vi vo:V):jR:=⟨"outer",0,1,[z],[⟨"glass","plain",0,"","",vi,vo⟩],fun _=>[],fun _=>[],[⟨0,0,.yes,[.add 0 v],.stay⟩]⟩
noncomputable def uM(b:Int):S4:=⟨[0],[b],[[]],[]⟩
section
variable{z v b st:Int}{vi vo:V}
theorem Va:Lf (Cv z v vi vo) (uM b) 0=[0]:=by rfl
noncomputable def NT(b z v:Int):List En:=(cP [z] 0 (gM (Cv z v .non .non) 0 ⟨0,0,.yes,[.add 0 v],.stay⟩ [0] []) [b] []).2.2
theorem RG:BW (Cv z v vi vo) 0 (uM b) (NT b z v) (uM ((b+v) % z)):=by
 refine⟨_,[],rfl,rfl,?_,?_,rfl,rfl⟩
 ·exact List.Perm.refl _
 ·exact List.pairwise_singleton _ _
theorem RD:BV (Cv z v vi vo) 0 (uM b) (.take 0 :: NT b z v) (uM ((b+v) % z)):=by
 refine⟨[]++outs (NT b z v),[]++NT b z v,?_,rfl⟩;rw[Va];exact jJ.go (ks:=[]) .nil rfl rfl RG
theorem Kv:HD (Cv z v vi vo) 0 (uM b) (.take 0 :: NT b z v) (uM ((b+v) % z)):=⟨_,_,_,1,RD,.one,.inr rfl,(fY _).symm⟩
noncomputable def mQ(z v st:Int):Nat->Int
 | 0=>st
 | k+1=>(mQ z v st k+v) % z
theorem Cw(z0:0 < z)(s0:0<=st)(s1:st < z):∀ k:Nat,mQ z v st k=(st+v * k) % z
 | 0=>by
  show st=(st+v * 0) % z;rw[Int.mul_zero,Int.add_zero,Int.emod_eq_of_lt s0 s1]
 | k+1=>by
  show (mQ z v st k+v) % z=_;rw[Cw z0 s0 s1 k,Int.emod_add_emod];congr 1;rw[Int.natCast_add,Int.mul_add];show st+v * k+v=st+(v * k+v * 1);rw[Int.mul_one,Int.add_assoc]
theorem VV:Tr.SM (aD (Cv z v vi vo).rs) (Li (Cv z v vi vo).rs) [] none [0]:=by
 refine⟨List.pairwise_singleton _ _,fun k=>⟨fun h=>?_,fun h=>?_⟩⟩
 ·rw[bf.mp h];exact .top rfl
 ·have:=h.lt (by show 0 < 1;decide);rw[show k=0 from Nat.lt_one_iff.mp this];exact bf.mpr rfl
theorem uv:uB (Cv z v vi vo) [(z,st)] [.inn 0] (uM st):=⟨[0],1,_,VV,.one,.inr rfl,rfl⟩
theorem vN(z0:0 < z)(h1 : -z < d)(h2:d < z)(e:d % z=0):d=0:=by
 by_cases p:0<=d
 ·rw[Int.emod_eq_of_lt p h2]at e;exact e
 ·have e2:(d+z) % z=0:=by rw[Int.add_emod_right];exact e
  rw[Int.emod_eq_of_lt (by lia) (by lia)]at e2;lia
theorem RJ(hv:v=1 ∨ v = -1)(z0:0 < z)(s0:0<=st)(s1:st < z){i j:Nat}(hi:(i:Int) < z)(hj:(j:Int) < z)(e:mQ z v st i=mQ z v st j):i=j:=by
 rw[Cw z0 s0 s1,Cw z0 s0 s1]at e;have e2:=Int.emod_eq_emod_iff_emod_sub_eq_zero.mp e;rcases hv with rfl | rfl
 ·have:=vN z0 (by lia) (by lia) e2;lia
 ·have:=vN z0 (by lia) (by lia) e2;lia
theorem Vb(z0:0 < z)(s0:0<=st)(s1:st < z){k:Nat}(hk:(k:Int)=z):mQ z v st k=st:=by
 rw[Cw z0 s0 s1,hk,Int.add_mul_emod_self_right,Int.emod_eq_of_lt s0 s1]
noncomputable def wg(z v st:Int)(k:Nat):Fs:=(List.range (k+1)).map fun j=>(uM (mQ z v st j),List.replicate j 0)
theorem rG:(wg z v st k).length=k+1:=by unfold wg;rw[bZ,List.length_range]
theorem tL(h:j<=k):(wg z v st k)[j]? = some (uM (mQ z v st j),List.replicate j 0):=by
 unfold wg;rw[cG,XX (by lia)];rfl
theorem Kw(h:(wg z v st k)[j]? = some x):j<=k/\x=(uM (mQ z v st j),List.replicate j 0):=by
 have hj:=(jM.mp h).1
 have l:(wg z v st k).length=k+1:=by unfold wg;rw[bZ,List.length_range]
 have:j<=k:=by lia
 rw[tL this]at h;exact⟨this,(iM h).symm⟩
theorem RN(k:Nat):wg z v st (k+1)=wg z v st k++[(uM (mQ z v st (k+1)),List.replicate k 0++[0])]:=by
 unfold wg;rw[List.range_succ,jn];show _++[(uM (mQ z v st (k+1)),List.replicate (k+1) 0)]=_;rw[List.replicate_succ']
theorem Py(hv:v=1 ∨ v = -1)(z0:0 < z)(s0:0<=st)(s1:st < z){k:Nat}(hk:((k+1:Nat):Int) < z):rowOf (wg z v st k) (uM (mQ z v st (k+1)))=none:=by
 cases h:rowOf (wg z v st k) (uM (mQ z v st (k+1))) with
 | none=>rfl
 | some r=>
  obtain⟨t,p,a1,a2⟩:=pZ h;obtain⟨a3,a4⟩:=Kw a1
  cases a4
  have e:mQ z v st r=mQ z v st (k+1):=(List.cons.inj (show [mQ z v st r]=[mQ z v st (k+1)] from congrArg S4.bx a2)).1;have:=RJ hv z0 s0 s1 (by lia) hk e;lia
noncomputable def T7(z v st:Int)(k:Nat):List (List En × Nat):=(List.range k).map fun j=>(.take 0 :: NT (mQ z v st j) z v,j+1)
theorem wY(hv:v=1 ∨ v = -1)(z0:0 < z)(s0:0<=st)(s1:st < z):∀ k:Nat,(k:Int) < z->aX (Cv z v vi vo) 1 (uM st) k (wg z v st k) (T7 z v st k)
 | 0,_=>.nil
 | k+1,hk=>by
  have h:=wY hv z0 s0 s1 k (by lia);have c:=aX.cell h (Nat.lt_succ_self 0) (by rw[Nat.div_one];exact tL (bD k)) (by rw[Nat.mod_one];exact Kv);rw[Nat.mod_one]at c;have r:=Py hv z0 s0 s1 hk;rw[show nl (uM ((mQ z v st k+v) % z))=uM (mQ z v st (k+1)) from rfl,(aq r).1,(aq (p:=[]) r).2,<-RN]at c
  have em:T7 z v st (k+1)=T7 z v st k++[(.take 0 :: NT (mQ z v st k) z v,(wg z v st k).length)]:=by
   rw[rG];unfold T7;rw[List.range_succ,jn];rfl
  rw[em];exact c
theorem NQ(hv:v=1 ∨ v = -1)(s0:0<=st)(s1:st < z)(hk:((k+1:Nat):Int)=z):aX (Cv z v vi vo) 1 (uM st) (k+1) (wg z v st k) (T7 z v st k++[(.take 0 :: NT (mQ z v st k) z v,0)]):=by
 have z0:0 < z:=by lia
 have h:=wY (vi:=vi) (vo:=vo) hv z0 s0 s1 k (by lia);have c:=aX.cell h (Nat.lt_succ_self 0) (by rw[Nat.div_one];exact tL (bD k)) (by rw[Nat.mod_one];exact Kv);rw[Nat.mod_one]at c;have e:nl (uM ((mQ z v st k+v) % z))=uM (mQ z v st 0):=congrArg uM (show mQ z v st (k+1)=st from Vb z0 s0 s1 hk);rw[e]at c
 have r:rowOf (wg z v st k) (uM (mQ z v st 0))=some 0:=by
  cases h:rowOf (wg z v st k) (uM (mQ z v st 0)) with
  | none=>exact absurd rfl (vq h _ (Bd (tL (Nat.zero_le k))))
  | some r=>
   obtain⟨t,p,a1,a2⟩:=pZ h;obtain⟨a3,a4⟩:=Kw a1
   cases a4
   have e:mQ z v st r=mQ z v st 0:=(List.cons.inj (show [mQ z v st r]=[mQ z v st 0] from congrArg S4.bx a2)).1;rw[RJ hv z0 s0 s1 (by lia) (by lia) e]
 rw[(az r).1,(az (p:=[]) r).2]at c;exact c
end
theorem qB8:Passes (pP P w) X E0:=fun _ _ _ _ _ _ _ h=>by
 obtain⟨_,_,_,_,_,_,_,_,_,_,_,_,_,_,_,h⟩:=h;exact h.elim
section
theorem rJ(ha:H a=some (.tup (aB as)))(hb:H b=some (.tup (aB as))):Dq K H 1 (.ref a) (.ref b):=
 .tup (aJ.of ha) (aJ.of hb) rfl fun j x y h1 h2=>by
  rw[h1]at h2
  cases h2
  unfold aB at h1;rw[cG]at h1;obtain⟨n,_,rfl⟩:=Option.map_eq_some_iff.mp h1;exact .flat rfl
theorem Vk{a b:Addr}{as:List Int}(ha:H a=some (.tup (as.map V.int)))(hb:H b=some (.tup (as.map V.int))):Dq K H 1 (.ref a) (.ref b):=
 .tup (aJ.of ha) (aJ.of hb) rfl fun j x y h1 h2=>by
  rw[h1]at h2
  cases h2
  rw[cG]at h1;obtain⟨n,_,rfl⟩:=Option.map_eq_some_iff.mp h1;exact .flat rfl
theorem _root_.L2.Dq.up(d:Dq K H n x y)(le:n<=m):Dq K H m x y:=by
 induction d generalizing m with
 | flat f=>exact .flat f
 | same=>exact .same
 | tup h1 h2 h3 _ ih=>
  obtain⟨k,rfl⟩:∃ k,m=k+1:=⟨m - 1,by omega⟩;exact .tup h1 h2 h3 fun j x y a b=>ih j x y a b (by omega)
 | lst h1 h2 h3 _ ih=>
  obtain⟨k,rfl⟩:∃ k,m=k+1:=⟨m - 1,by omega⟩;exact .lst h1 h2 h3 fun j x y a b=>ih j x y a b (by omega)
theorem oR(h:ao H kv ks):∀(j:Nat)(x:V),kv[j]? = some x->∃(a:Addr)(r:List Nat),x = .ref a/\ks[j]? = some r/\H a=some (.tup (aB r)):=by
 induction h with
 | nil=>intro j x hx;cases hx
 | cons h _ ih=>
  intro j x hx
  cases j with
  | zero=>
   cases hx
   obtain⟨a,rfl,ha⟩:=h;exact⟨a,_,rfl,rfl,ha⟩
  | succ j=>exact ih j x hx
theorem jz(h:ao H kv ks):kv.length=ks.length:=by
 induction h with
 | nil=>rfl
 | cons _ _ ih=>rw[eO,eO,ih]
theorem Vj(ha:H a=some (.tup kv))(hb:H b=some (.tup uJ))(h:ao H kv ks)(h':ao H uJ ks):Dq K H 2 (.ref a) (.ref b):=
 .tup (aJ.of ha) (aJ.of hb) (by rw[jz h,jz h']) fun j x y h1 h2=>by
  obtain⟨p,r,rfl,e1,hp⟩:=oR h j x h1;obtain⟨q,r',rfl,e2,hq⟩:=oR h' j y h2;rw[e1]at e2
  cases e2
  exact rJ hp hq
theorem qBC(e:cV s=cV t):s.os=t.os/\s.bx=t.bx/\s.ks=t.ks:=by
 have:=wV e;unfold nl at this;injection this with e1 e2 e3;exact⟨e1,e2,e3⟩
theorem Pg(h:cL H a s)(h':cL H b t)(e:cV s=cV t):∃ xs ys,H a=some (.tup xs)/\H b=some (.tup ys)/\xs.length=ys.length/\∀(j:Nat)(x y:V),xs[j]? = some x->ys[j]? = some y->Dq K H 2 x y:=by
 obtain⟨po,pb,pk,kv,h1,h2,h3,h4,h5⟩:=h;obtain⟨po',pb',Ea,uJ,h1',h2',h3',h4',h5'⟩:=h';obtain⟨e1,e2,e3⟩:=qBC e;rw[e1]at h2;rw[e2]at h3;rw[e3]at h5;refine⟨_,_,h1,h1',rfl,fun j x y hx hy=>?_⟩
 match j,hx,hy with
 | 0,hx,hy=>cases hx;cases hy;exact (rJ h2 h2').up (by decide)
 | 1,hx,hy=>cases hx;cases hy;exact (Vk h3 h3').up (by decide)
 | 2,hx,hy=>cases hx;cases hy;exact Vj h4 h4' h5 h5'
 | j+3,hx,hy=>cases hx
theorem qDR(h:cL H a s)(h':cL H b t)(e:cV s=cV t):Dq K H 3 (.ref a) (.ref b):=by
 obtain⟨xs,ys,h1,h2,h3,h4⟩:=Pg (K:=K) h h' e;exact .tup (aJ.of h1) (aJ.of h2) h3 h4
theorem DX{α:Type} [DecidableEq α] {n:Nat} {a b:Addr} {xs ys:List V} {as bs:List α} (ha:H a=some (.tup xs)) (hb:H b=some (.tup ys)) (la:xs.length=as.length) (lb:ys.length=bs.length)
  (he:∀(j:Nat)(x y:V)(p q:α),xs[j]? = some x->ys[j]? = some y->as[j]? = some p->bs[j]? = some q->Dc K H n x y (decide (p=q))) (hs:a=b->as=bs):Dc K H (n+1) (.ref a) (.ref b) (decide (as=bs)):=by
 by_cases e:a=b
 ·have:=hs e;subst e;rw[decide_eq_true this];exact .like .same
 ·have:=Dc.tup (K:=K) (H:=H) (n:=n) (e:=fun j=>decide (as[j]? = bs[j]?)) e (aJ.of ha) (aJ.of hb) fun j x y hx hy=>by
   have h1:=(jM.mp hx).1;have h2:=(jM.mp hy).1;have e1:as[j]? = some as[j]:=dX (by omega);have e2:bs[j]? = some bs[j]:=dX (by omega);have:=he j x y _ _ hx hy e1 e2;rw[e1,e2];rw[show decide (some as[j]=some bs[j])=decide (as[j]=bs[j]) from decide_eq_decide.mpr ⟨fun z=>iM z,fun z=>by rw[z]⟩];exact this
  rw[la,lb,Vx]at this;exact this
theorem Rz(x y:Int):Dc K H n (.int x) (.int y) (decide (x=y)):=by
 have:=Dc.flat (K:=K) (H:=H) (n:=n) (x:=.int x) (y:=.int y) rfl rfl
 rw[show Ni (.int x) (.int y)=decide (x=y) by
  show (x == y)=_
  by_cases e:x=y
  ·subst e;simp
  ·rw[decide_eq_false e];simpa using e]at this
 exact this
theorem kY:∀ {as bs:List Nat},aB as=aB bs->as=bs
 | [],[],_=>rfl
 | [],_ :: _,h=>by cases h
 | _ :: _,[],h=>by cases h
 | x :: a,y :: b,h=>by
  unfold aB at h;rw[List.map_cons,List.map_cons,List.cons.injEq]at h;have h3:(x:Int)=y:=V.int.inj h.1;rw[kY (as:=a) (bs:=b) h.2,show x=y by omega]
theorem rB:∀ {as bs:List Int},as.map V.int=bs.map V.int->as=bs
 | [],[],_=>rfl
 | [],_ :: _,h=>by cases h
 | _ :: _,[],h=>by cases h
 | x :: a,y :: b,h=>by
  rw[List.map_cons,List.map_cons,List.cons.injEq]at h;rw[rB (as:=a) (bs:=b) h.2,V.int.inj h.1]
theorem Lb{a b:Addr}{as bs:List Nat}(ha:H a=some (.tup (aB as)))(hb:H b=some (.tup (aB bs))):Dc K H 1 (.ref a) (.ref b) (decide (as=bs)):=
 DX ha hb (zU _) (zU _) (fun j x y p q hx hy hp hq=>by
  unfold aB at hx hy;rw[cG,hp]at hx;rw[cG,hq]at hy
  cases hx
  cases hy
  have:=Rz (K:=K) (H:=H) (n:=0) (p:Int) (q:Int);rw[show decide ((p:Int)=(q:Int))=decide (p=q) from decide_eq_decide.mpr ⟨fun z=>by omega,fun z=>by omega⟩]at this
  exact this) (fun e=>by
  subst e;rw[ha]at hb;injection hb with hb;injection hb with hb
  exact kY hb)
theorem Vn{a b:Addr}{as bs:List Int}(ha:H a=some (.tup (as.map V.int)))(hb:H b=some (.tup (bs.map V.int))):Dc K H 1 (.ref a) (.ref b) (decide (as=bs)):=
 DX ha hb (bZ _) (bZ _) (fun j x y p q hx hy hp hq=>by
  rw[cG,hp]at hx;rw[cG,hq]at hy
  cases hx
  cases hy
  exact Rz p q) (fun e=>by
  subst e;rw[ha]at hb;injection hb with hb;injection hb with hb
  exact rB hb)
theorem vp(h:ao H kv ks)(h':ao H kv ks'):ks=ks':=by
 apply List.ext_getElem?;intro j;have l1:=jz h;have l2:=jz h'
 by_cases c:j < kv.length
 ·obtain⟨a,r,e,e1,h1⟩:=oR h j _ (dX c);obtain⟨b,r',e',e2,h2⟩:=oR h' j _ (dX c);rw[e]at e'
  cases e'
  rw[h1]at h2;injection h2 with h2;injection h2 with h2;rw[e1,e2,kY h2]
 ·rw[List.getElem?_eq_none (by omega),List.getElem?_eq_none (by omega)]
theorem Vm{kv uJ:List V}{ks ks':List (List Nat)}(ha:H a=some (.tup kv))(hb:H b=some (.tup uJ))(h:ao H kv ks)(h':ao H uJ ks'):Dc K H 2 (.ref a) (.ref b) (decide (ks=ks')):=
 DX ha hb (jz h) (jz h') (fun j x y p q hx hy hp hq=>by
  obtain⟨a,r,rfl,e1,h1⟩:=oR h j _ hx;obtain⟨b,r',rfl,e2,h2⟩:=oR h' j _ hy;rw[hp]at e1;rw[hq]at e2
  cases e1
  cases e2
  exact Lb h1 h2) (fun e=>by
  subst e;rw[ha]at hb;injection hb with hb;injection hb with hb;subst hb
  exact vp h h')
theorem X7{a b:Addr}{s t:S4}(h:cL H a s)(h':cL H b t)(e:cV s ≠ cV t):Dc K H 3 (.ref a) (.ref b) false:=by
 have ne:a ≠ b:=fun z=>by
  subst z;obtain⟨po,pb,pk,kv,h1,h2,h3,h4,h5⟩:=h;obtain⟨po',pb',Ea,uJ,h1',h2',h3',h4',h5'⟩:=h';rw[h1]at h1'
  cases h1'
  rw[h2]at h2';rw[h3]at h3';rw[h4]at h4';injection h2' with h2';injection h2' with h2';injection h3' with h3';injection h3' with h3';injection h4' with h4';injection h4' with h4';subst h4';refine e ?_;unfold cV;rw[kY h2',rB h3',vp h5 h5']
 obtain⟨po,pb,pk,kv,h1,h2,h3,h4,h5⟩:=h;obtain⟨po',pb',Ea,uJ,h1',h2',h3',h4',h5'⟩:=h'
 have dcu:∀ {n m:Nat} {x y:V} {b:Bool},Dc K H n x y b->n<=m->Dc K H m x y b:=by
  intro n m x y b d
  induction d generalizing m with
  | flat f g=>exact fun _=>.flat f g
  | like d=>exact fun le=>.like (d.up le)
  | tup h1 h2 h3 _ ih=>
   intro le;obtain⟨k,rfl⟩:∃ k,m=k+1:=⟨m - 1,by omega⟩;exact .tup h1 h2 h3 fun j x y a b=>ih j x y a b (by omega)
 have:=Dc.tup (K:=K) (H:=H) (n:=2) (e:=fun j=>if j=0 then decide (s.os=t.os) else if j=1 then decide (s.bx=t.bx) else decide (s.ks=t.ks)) ne (aJ.of h1) (aJ.of h1') fun j x y hx hy=>by
  match j,hx,hy with
  | 0,hx,hy=>cases hx;cases hy;exact dcu (Lb h2 h2') (by decide)
  | 1,hx,hy=>cases hx;cases hy;exact dcu (Vn h3 h3') (by decide)
  | 2,hx,hy=>cases hx;cases hy;exact Vm h4 h4' h5 h5'
  | j+3,hx,hy=>cases hx
 rw[show ((List.range (min [V.ref po,V.ref pb,V.ref pk].length [V.ref po',V.ref pb',V.ref Ea].length)).all (fun j=>if j=0 then decide (s.os=t.os) else if j=1 then decide (s.bx=t.bx) else decide (s.ks=t.ks)) && [V.ref po,V.ref pb,V.ref pk].length == [V.ref po',V.ref pb',V.ref Ea].length)=false by
  rw[Bool.eq_false_iff];intro z;have z:=(Bool.and_eq_true_iff.mp z).1;rw[List.all_eq_true]at z;refine e ?_;have a0:=of_decide_eq_true (z 0 (by show 0∈List.range 3;decide));have a1:=of_decide_eq_true (z 1 (by show 1∈List.range 3;decide));have a2:=of_decide_eq_true (z 2 (by show 2∈List.range 3;decide));unfold cV
  rw[a0,a1,a2]]at this
 exact this
end
inductive qAP(vs:List V)(H:Hp)(Q:VK)(E_:XK):Prop
 | mk (pc pf:Addr) (m:Nat) (c:jR) (bs:List (Int × Int)) (ne:Nat) (dW:List En) (s0:S4) (i:Nat) (fs:Fs) (ms:List (List En × Nat)) (wv:List V) (_:vs=[.ref pc,.ref pf,.int (wv.length:Int)]) (_:pA.Ln H pc c bs ne) (_:pA.oG c bs) (_:1<=m) (_:m<=300) (_:ne<=8) (_:uB c bs dW s0) (_:aX c ne s0 i fs ms) (_:fs.length=m+1) (_:H pf=some (.lst wv)) (_:Al (uV H) wv (fs.map (·.2))) (_:∀ H',aG H H'->Q (.bl true) H')
section
theorem bN:aH ["_law_chart","_law_found","_law_many","_law_stands","_law_k","_law_event","_law_longer","_law_behind_here"] ["_law_chart","_law_found","_law_many"] (aC cj):=fW
theorem xG{ms:List (List En × Nat)}(h:aX c ne s0 i fs ms){j k:Nat}{x y:S4 × List Nat}(hj:fs[j]? = some x)(hk:fs[k]? = some y)(e:cV x.1=cV y.1):j=k:=by
 have e1:=wV e
 have nx:nl x.1=x.1:=by have:=Cz h x (Bd hj);unfold nl;rw[<-this]
 have ny:nl y.1=y.1:=by have:=Cz h y (Bd hk);unfold nl;rw[<-this]
 rw[nx,ny]at e1;have lj:=(jM.mp hj).1;refine (List.getElem?_inj (by rw[bZ];exact lj) (JM h)).mp ?_;rw[cG,cG,hj,hk];exact congrArg some e1
theorem Xo(h:cL H a s)(h':cL H a t):cV s=cV t:=by
 obtain⟨po,pb,pk,kv,a1,a2,a3,a4,a5⟩:=h;obtain⟨po',pb',Ea,uJ,b1,b2,b3,b4,b5⟩:=h'
 cases a1.symm.trans b1
 have e1:=kY (HO.tup.inj (iM (a2.symm.trans b2)));have e2:=rB (HO.tup.inj (iM (a3.symm.trans b3)))
 cases a4.symm.trans b4
 have e3:=vp a5 b5;unfold cV;rw[e1,e2,e3]
theorem ye{f g1 g2 g3 g4:Addr}{fd d1 d2 d3 d4:FuncData}(F:dM K "_law_first_ways" "_law_first_ways" cj f fd)
  (Dt:Dp P w K mg base aZ m' g1 d1 ["_law_found","_law_events","_law_many"] Eo "_law_rising")
  (Ds:Dp P w K mg base aZ m' g2 d2 ["_law_chart","_law_way"] Ek "_law_walked")
  (iV:Dp P w K mg base aZ m' g3 d3 ["_law_one","_law_other"] Wy.vL "_law_behind")
  (rZ:Dp P w K mg base aZ m' g4 d4 ["chart","stand","event"] (uZ 3) "after")
  (aU:mg "len" = none) (au:mg "range" = none):aO P w K mg base aZ (m'+1) f fd ["_law_chart","_law_found","_law_many"] qAP:=by
 refine F.ok bN (fun vs H Q E h=>?_) (fun cdv A outer s H vs Q E hr h=>?_)
 ·obtain⟨pc,pf,m,c,bs,ne,dW,s0,i,fs,ms,wv,rfl,_⟩:=h;rfl
 obtain⟨pc,pf,m,c,bs,ne,dW,s0,i,fs,ms,wv,rfl,hX,ok,m1,yg,Iw,BR,FR,fl,hf,hA,q⟩:=h
 refine⟨_,(zE (yD (cB (bR (pC Dt hr (zA (pv 1) (zA (zS zN rfl aU bh (zA (yB zH (pv 0) zB (fun _ _=>rfl)) zD)) (zA (pv 2) zD))))))
  (zG (zO cz))
  zT)
  (zE (KZ (i:=3) (aY:=[(0,"_law_chart")]) rfl bN.nd rfl (Or.inl rfl) (show bJ (aC cj) ["_law_chart","_law_found","_law_many","_law_stands","_law_k","_law_event","_law_longer","_law_behind_here"] _ _ _ from ym) (yM (pv 1)) (fun _ _ _ _ _ _=>cD) (fun _ _ _ _ _ _=>(pC Ds hr (zA (pv 1) (zA (pv 0) zD)))))
  (zZ (cU PassesOwn.never rfl (bu rfl au (zA (pv 2) zD)) (yJ (i:=4) bN.nd rfl (Or.inl rfl))
  (zE (yD (zL (Um hr.units) (yB yU (pv 3) (pv 4) (fun _ _=>rfl)) (kO Bl (pv 3) oV (oU (pv 4))) rfl)
  (zG (zO cz))
  zT)
  (zG (cU PassesOwn.never rfl (bu rfl au (zA (zS zN rfl aU bh (zA (yB zH (pv 0) zB (fun _ _=>rfl)) zD)) zD)) (yJ (i:=5) bN.nd rfl (Or.inl rfl))
  (zE (zK (i:=6) bN.nd rfl (Or.inl rfl) (iz (yC (jQ.or uh wG) (yB yU (pv 1) (pv 4) (fun _ _=>rfl)) (zW (zA (pv 5) zD)))))
  (zG (yD (cB (bR (pC iV hr (zA (pv 6) (zA (yB yU (pv 1) (qu lE zB) (fun _ _=>rfl)) zD)))))
  (zE (zK (i:=7) bN.nd rfl (Or.inl rfl) (yB zH (pC rZ hr (zA (pv 0) (zA (yB yU (pv 3) (pv 4) (fun _ _=>rfl)) (zA (pv 5) zD)))) zB (fun _ _=>rfl)))
  (zG (yD (cC (PW.pt (pw_or (zL (MJ hr.units) (pv 7) (pv 3) rfl) (pw_or1 (bR (pC iV hr (zA (yB yU (pv 1) (fX jl PySem.F.slot_list_index PySem.F.type_list_index (Mp hr.units) (pv 3) (zA (pv 7) zD)) (fun _ _=>rfl)) (zA (pv 6) zD))))))))
  (zG (zO cz))
  zT)))
  zT)))))))
  (zG (zO cz))))),?_⟩
 have O:=wz Iw FR;obtain⟨pb,pn,t0,pd0,bv,nv,Wd,dv0,h1,h2,h3,h4,h5,h6,h7,h8,h9,h10⟩:=id hX
 have lw:wv.length=m+1:=by have:=hA.length;rw[bZ]at this;lia
 obtain⟨more,ef⟩:=wu FR;refine⟨_,rfl,_,rfl,aF (aJ.of h1) rfl (gf rfl (.inr (aJ.of h4)) ⟨_,rfl,pf,wv,fs.map (·.2),ne,(by show [V.ref pf,V.int ((nv.length:Nat):Int),V.int (wv.length:Int)]=_;rw[h5]),hf,hA,List.pairwise_map.mpr O.xX,fun p hp=>?_,Iw,by rw[ef];rfl,by rw[bZ];lia,_,rfl,j8 rfl ?_⟩)⟩
 ·obtain⟨x,hx,rfl⟩:=gU.mp hp;obtain⟨r,hr,er⟩:=List.mem_iff_getElem.mp hx;have:=O.len r x (by rw[dX hr,er]);exact⟨O.ev x hx,by lia⟩
 refine⟨_,rfl,pf,rfl,⟨_,aR.of hf⟩,?_⟩;refine yS (K:=K) (a:=pf) (xs:=wv) (fun i acc H'=>∃ as:List Addr,acc=as.map V.ref/\aG H H'/\as.length=i/\∀(k:Nat)(a:Addr)(x:S4 × List Nat),as[k]? = some a->fs[k]? = some x->cL H' a x.1/\gK c x.1/\Jw c x.1.os x.1.ks/\x.1.l=[]) ⟨[],rfl,aG.refl _,rfl,(fun k a x h=>by simp at h)⟩ (fun i acc H' ⟨_,_,z,_⟩=>aR.of (z _ _ hf)) ?_ ?_
 ·rintro k x _ H2 hx ⟨as,rfl,s2,la,hS⟩
  have hk:k < fs.length:=by have:=(jM.mp hx).1;lia
  obtain⟨v,hv,a,rfl,ha⟩:=hA.get (k:=k) (r:=fs[k].2) (by rw[cG,dX hk];rfl)
  cases hx.symm.trans hv
  have lp:=O.len k fs[k] (dX hk);refine⟨_,rfl,_,rfl,pc,a,c,bs,ne,fs[k].2,rfl,hX.mono (aA.of s2),ok,s2 _ _ ha,by lia,fun ps st qDN s0' H3 s3 BR' W so j l0 hs=>?_⟩;obtain⟨rfl,rfl⟩:=fP BR BR';have e:=Oh W (Nb FR k fs[k] (dX hk));refine⟨zV (by rw[bZ];lia),as++[ps],by rw[jn];rfl,s2.trans s3,by rw[dN,la];rfl,fun r a' x' h1 h2=>?_⟩
  by_cases z:r < as.length
  ·rw[Lp z]at h1;exact⟨(hS r a' x' h1 h2).1.mono (aA.of s3),(hS r a' x' h1 h2).2⟩
  ·have hr:=(jM.mp h1).1;rw[dN,iG]at hr
   have er:r=as.length:=by lia
   subst er;rw[Tc (bD _),Nat.sub_self]at h1;obtain rfl:=iM h1;rw[la,dX hk]at h2;obtain rfl:=iM h2;rw[<-e];exact⟨hs,so,j,l0⟩
 rintro _ H2 ⟨as,rfl,s2,la,hS⟩ sG VL;have s3:=s2.trans (zF VL (.lst (as.map V.ref)));have hst:upd H2 sG (.lst (as.map V.ref)) sG=some (.lst (as.map V.ref)):=zC;have VP:∀(k:Nat)(a:Addr)(x:S4 × List Nat),as[k]? = some a->fs[k]? = some x->cL (upd H2 sG (.lst (as.map V.ref))) a x.1:=fun k a x h1 h2=>(hS k a x h1 h2).1.mono (aA.new VL _);generalize upd H2 sG (.lst (as.map V.ref))=H3 at s3 hst VP ⊢
 have la2:as.length=fs.length:=by lia
 refine⟨fun σ' H'=>aG H3 H'/\∃ o4 o5 o6 o7:Option V,σ'=[some (.ref pc),some (.ref pf),some (.int (wv.length:Int)),some (.ref sG),o4,o5,o6,o7],?_,?_⟩
 ·refine⟨_,rfl,_,rfl,by lia,by lia,?_⟩;refine dG (fun _ σ' H'=>aG H3 H'/\∃ o4 o5 o6 o7:Option V,σ'=[some (.ref pc),some (.ref pf),some (.int (wv.length:Int)),some (.ref sG),o4,o5,o6,o7]) ⟨aG.refl _,none,none,none,none,rfl⟩ ?_ (fun _ _ z=>z);rintro k _ H4 hk ⟨s4,o4,o5,o6,o7,rfl⟩
  have hk2:k < fs.length:=by lia
  have fk:=dX hk2;obtain⟨a,ea⟩:∃ a,as[k]? = some a:=⟨_,dX (by lia)⟩
  have R7:uO (as.map V.ref) (0+(k:Int))=some (.ref a):=by
   rw[Int.zero_add];refine yQ ?_;rw[cG,ea];rfl
  refine⟨_,rfl,_,rfl,bQ (aR.of (s4 _ _ hst)) R7 ⟨_,rfl,_,rfl,_,rfl,sG,_,rfl,aR.of (s4 _ _ hst),fun psl qC4=>⟨psl,_,3,rfl,aR.of zC,by decide,fun z hz=>?_,_,rfl,j8 rfl ?_⟩⟩⟩
  ·rw[xM _ (by lia)]at hz;obtain⟨j,ez⟩:=List.mem_iff_getElem?.mp hz;rw[List.getElem?_take]at ez
   split at ez
   ·rename_i lj
    rw[cG]at ez;obtain⟨b,eb,rfl⟩:=Option.map_eq_some_iff.mp ez
    have hj:j < fs.length:=by have:=(jM.mp eb).1;lia
    have fj:=dX hj;have s5:=s4.trans (zF qC4 (.lst (lZ (as.map V.ref) none (some (0+(k:Int))))))
    exact X7 ((VP j b _ eb fj).mono (aA.of s5)) ((VP k a _ ea fk).mono (aA.of s5)) fun e=>by
     have:=xG FR fj fk e;lia
   ·cases ez
  have s5:=s4.trans (zF qC4 (.lst (lZ (as.map V.ref) none (some (0+(k:Int))))));generalize upd H4 psl (.lst (lZ (as.map V.ref) none (some (0+(k:Int)))))=H5 at s5 ⊢;have s35:=s3.trans s5;refine⟨_,rfl,aF (aJ.of (s35 _ _ h1)) rfl (gf rfl (.inr (aJ.of (s35 _ _ h4))) ⟨_,rfl,by lia,by lia,?_⟩)⟩;refine dG (fun _ σ' H'=>aG H3 H'/\∃ o5 o6 o7:Option V,σ'=[some (.ref pc),some (.ref pf),some (.int (wv.length:Int)),some (.ref sG),some (.int (0+(k:Int))),o5,o6,o7]) ⟨s5,o5,o6,o7,rfl⟩ ?_ (fun _ _ ⟨z1,o5,o6,o7,z2⟩=>⟨z1,_,o5,o6,o7,z2⟩);rintro e _ H6 he ⟨s6,o5,o6,o7,rfl⟩
  have he2:e < ne:=by lia
  have s36:=s3.trans s6;generalize hfk:fs[k]=xk at fk;obtain⟨sk,pk⟩:=xk;obtain⟨vw,hvw,bw,rfl,hbw⟩:=hA.get (k:=k) (r:=pk) (by rw[cG,fk];rfl)
  have qG4:uO wv (0+(k:Int))=some (.ref bw):=by rw[Int.zero_add];exact yQ hvw
  have lpk:=O.len k _ fk;have evk:=O.ev _ (Bd fk);refine⟨fun v H2 => ∃ q:Addr,v = .ref q/\aG H6 H2/\H2 q=some (.tup (aB (pk++[e]))),?_,?_⟩
  ·refine⟨_,rfl,_,rfl,bQ (aR.of (s36 _ _ hf)) qG4 ⟨_,rfl,(zI (by show 1<=1000;decide)),fun px hpx=>?_⟩⟩;rw[Int.zero_add];have u4:=zF hpx (.tup [V.int (e:Int)]);have v4:upd H6 px (.tup [V.int (e:Int)]) px=some (.tup [V.int (e:Int)]):=zC;generalize upd H6 px (.tup [V.int (e:Int)])=H4' at u4 v4 ⊢;have Z0:=u4 _ _ (s36 _ _ hbw)
   cases pk with
   | nil=>exact .inr ⟨bw,px,_,rfl,rfl,aJ.of Z0,aJ.of v4,px,rfl,u4,v4⟩
   | cons y0' pk=>
    refine .inl ⟨bw,px,_,_,rfl,rfl,aJ.of Z0,aJ.of v4,(by intro z;cases z),?_,(fun z=>by cases z),fun _ p5 TX=>?_⟩
    ·rw[sizeLine_eq,zU];simp only[List.length_cons,List.length_nil]at lpk ⊢;lia
    ·exact⟨p5,rfl,u4.trans (zF TX _),by rw[zC];unfold aB;rw[jn];rfl⟩
  rintro _ H7 ⟨pq,rfl,s7,hpq⟩;have s37:=s6.trans s7;have Xy:=s3.trans s37
  have hm:m < fs.length:=by lia
  have fm:=dX hm;obtain⟨vl,hvl,bl,rfl,hbl⟩:=hA.get (k:=m) (r:=fs[m].2) (by rw[cG,fm];rfl)
  have qG5:uO wv (-1)=some (.ref bl):=by
   have e1:TF wv.length (-1)=some m:=by
    unfold TF;rw[if_neg (by decide),if_pos (by lia)];exact congrArg some (by lia)
   unfold uO;rw[e1];exact hvl
  have lpm:=O.len m _ fm
  have ev8:∀ x∈pk++[e],x < 8:=fun x hx=>by
   rcases eG.mp hx with hx | hx
   ·have:=evk x hx;lia
   ·rw[bf.mp hx];lia
  refine⟨_,rfl,_,rfl,_,rfl,bQ (aR.of (Xy _ _ hf)) qG5 ⟨pq,bl,pk++[e],fs[m].2,rfl,hpq,Xy _ _ hbl,ev8,fun x hx=>by have:=O.ev _ (Bd fm) x hx;lia,by rw[dN,iG];lia,_,rfl,?_⟩⟩;refine jg (fun cc=>?_) (fun _=>⟨s37,_,_,_,rfl⟩)
  have le:Wy.code (pk++[e])<=Wy.code fs[m].2:=by
   have:decide (Wy.code fs[m].2 < Wy.code (pk++[e]))=false:=by simpa using cc
   have:=of_decide_eq_false this;lia
  have n0:0 < ne:=by lia
  have gone:=Nu Iw FR fl fm fk he2 (by lia) le;obtain⟨s1,p1,es1,Sx,r,t1,u1,c1,c2,c3,c4,c5⟩:=Vs Iw FR _ gone
  have ed:(k * ne+e) / ne=k:=by rw[Nat.mul_comm,Nat.mul_add_div n0,Nat.div_eq_of_lt he2,Nat.add_zero]
  have em:(k * ne+e) % ne=e:=by rw[Nat.mul_comm,Nat.mul_add_mod,Nat.mod_eq_of_lt he2]
  rw[ed,fk]at c1;rw[em]at c2 c5;obtain⟨rfl,rfl⟩:=Prod.mk.inj (iM c1);obtain⟨_,so,j,l0⟩:=hS k a _ ea fk;have alc:All c (Jw c) 3:=⟨ok.ok,wide ok.ok,fun d hd=>⟨(ok.g d hd).1,(ok.g d hd).2⟩⟩;refine⟨_,rfl,_,rfl,_,rfl,bQ (aR.of (s37 _ _ hst)) R7 ⟨_,rfl,pc,a,c,(e:Int),sk,(by rw[Int.zero_add];rfl),(hX.ch ok).mono (aA.of Xy),alc,(VP k a _ ea fk).mono (aA.of s37),so,j,l0,by have:=ok.t4;lia,fun tt ps' pw' wv' es' s' H8 AR j' so' s8 htt hS' _ _ _ _=>?_⟩⟩;obtain⟨-,rfl⟩:=Dj AR c2;refine aF (aJ.of htt) rfl ?_;have Wa:=s37.trans s8;have s08:=s3.trans Wa;obtain⟨ar,ear⟩:∃ ar,as[r]? = some ar:=⟨_,dX (by have:=(jM.mp c3).1;lia)⟩
  have kt:cV t1=cV s':=by
   have:=congrArg cV c4;exact this
  have hSr:=(VP r ar _ ear c3).mono (aA.of Wa)
  have hit:∀ {jj:Nat} {b:Addr},as[jj]? = some b->b=ar->jj=r:=fun {jj b} h1 h2=>by
   subst h2
   have hj:jj < fs.length:=by have:=(jM.mp h1).1;lia
   have fj:=dX hj;exact xG FR fj c3 (Xo ((VP jj b _ h1 fj).mono (aA.of Wa)) hSr)
  have dcs:∀ b∈as,Dc K H8 3 (.ref b) (.ref ps') (b == ar):=fun b hb=>by
   obtain⟨jj,hjj⟩:=List.mem_iff_getElem?.mp hb
   have hj:jj < fs.length:=by have:=(jM.mp hjj).1;lia
   have fj:=dX hj
   by_cases z:b=ar
   ·rw[z,beq_self_eq_true];exact .like (qDR hSr hS' kt)
   ·rw[beq_eq_false_iff_ne.mpr z];refine X7 ((VP jj b _ hjj fj).mono (aA.of Wa)) hS' fun e=>z ?_;have:=xG FR fj c3 (e.trans kt.symm);subst this;exact iM (hjj.symm.trans ear)
  have qGC:as.any (fun b=>b == ar)=true:=List.any_eq_true.mpr ⟨ar,Bd ear,beq_self_eq_true _⟩;refine⟨fun cx H'=>H8=H'/\cx=false,?_,?_⟩
  ·refine⟨_,rfl,_,rfl,sG,as,3,fun b=>b == ar,rfl,aR.of (Wa _ _ hst),by decide,dcs,_,rfl,j8 (by rw[qGC];rfl) ?_⟩;obtain⟨vr,hvr,br,rfl,hbr⟩:=hA.get (k:=r) (r:=u1) (by rw[cG,c3];rfl);have lr:=(jM.mp ear).1;refine⟨_,rfl,_,rfl,.inl ⟨rfl,_,aR.of (Wa _ _ hst)⟩,_,rfl,sG,as,_,3,r,fun b=>b == ar,rfl,rfl,Wa _ _ hst,⟨lr,by rw[(jM.mp ear).2];exact beq_self_eq_true _⟩,fun m' hm' lt=>beq_eq_false_iff_ne.mpr fun z=>?_,by decide,dcs,by lia,?_⟩
   ·have:=hit (dX hm') z;lia
   refine bQ (aR.of (s08 _ _ hf)) (yQ hvr) ⟨_,rfl,br,pq,u1,pk++[e],rfl,s08 _ _ hbr,s8 _ _ hpq,fun x hx=>by have:=O.ev _ (Bd c3) x hx;lia,ev8,by have:=O.len r _ c3;lia,_,rfl,rfl,decide_eq_false (by lia)⟩
  rintro cx _ ⟨rfl,rfl⟩;exact j8 rfl ⟨Wa,_,_,_,rfl⟩
 rintro _ H4 ⟨s4,o4,o5,o6,o7,rfl⟩;exact q _ (s3.trans s4)
end
inductive Bj(n:Nat)(vs:List V)(H:Hp)(Q:VK)(E_:XK):Prop
 | mk (pc:Addr) (m:Nat) (c:jR) (bs:List (Int × Int)) (ne:Nat) (_:vs=[.ref pc,.int (m:Int)]) (_:pA.Ln H pc c bs ne) (_:pA.oG c bs) (_:3<=n) (_:1<=m) (_:m<=300) (_:ne<=8) (_:∀(dW:List En)(s0:S4)(N:Nat)(fs:Fs)(ms:List (List En × Nat))(H':Hp),aG H H'->uB c bs dW s0->aX c ne s0 (N * ne) fs ms->fs.length=N->N<=m->Q (.int (N:Int)) H') (_:∀(dW:List En)(s0:S4)(i:Nat)(fs:Fs)(ms:List (List En × Nat))(H':Hp),aG H H'->uB c bs dW s0->aX c ne s0 i fs ms->fs.length=m+1->Q (.int 0) H')
section
theorem cH:aH ["_law_chart","_law_most","_law_wide","_law_found","e","_law_kept"] ["_law_chart","_law_most"] (aC oM):=fW
theorem QZ(F:dM K "_law_asked" "_law_asked" oM f fd)
  (bY:Dp P w K mg base (pP P w) m' g1 d1 ["chart","most"] (vK CT n) "flat")
  (tu:Dp P w K mg base aZ m' g2 d2 ["_law_chart","_law_found","_law_many"] qAP "_law_first_ways")
  (yp:Dp P w K mg base aZ m' g3 d3 ["_law_chart","_law_most"] (WR n) "_law_refused")
  (uY:Dp P w K mg base aZ m' g4 d4 ["_law_chart","_law_most"] (WT n) "_law_ways_told")
  (dF:mg "TooWide" = some (.ref CT)) (jo:PySem.W.exmOne K (.ref CT) (.ref CT)=some true) (qQ:pJ K CT) (qS:xU K CT "ways")
  (aU:mg "len" = none) (aW:mg "tuple" = none) (dB:mg "list" = none) (Fx:mg "int" = none) (aQ:mg "isinstance" = none):aO P w K mg base aZ (m'+1) f fd ["_law_chart","_law_most"] (Bj n):=by
 refine F.ok cH (fun vs H Q E h=>?_) (fun cdv A outer s H vs Q E hr h=>?_)
 ·obtain⟨pc,m,c,bs,ne,rfl,_⟩:=h;rfl
 obtain⟨pc,m,c,bs,ne,rfl,hX,ok,n3,m1,yg,Iw,q1,q2⟩:=h
 refine⟨_,(zE (zK (i:=2) cH.nd rfl (Or.inl rfl) gA)
  (zE (zK (i:=3) cH.nd rfl (Or.inl rfl) gA)
  (zE (w6 (i:=4) (UG (i:=3) cH.nd rfl (Or.inl rfl) (qt bY.G hr rfl bY.m bY.k bY.b .nil (zA (pv 0) (zA (pv 1) zD)))) rfl dF cH.nd rfl rfl
   (fun _=>(zG (zK (i:=2) cH.nd rfl (Or.inl rfl) (show PE _ _ (Jq K (Ot 4) "ways") from CP (pv 4) rfl)))))
  (zE (yD (zL Ib (pv 3) gA (zR _))
  (zE (yD (cC (PW.pt (pw_or (cB (bR (pC tu hr (zA (pv 0) (zA (pv 2) (zA (yC yF (pv 1) zB) zD)))))) (pw_or1 (cB (bR (pC yp hr (zA (pv 0) (zA (pv 1) zD)))))))))
  (zG (zO (qu lE zB)))
  zT)
  (zE (zK (i:=5) cH.nd rfl (Or.inl rfl) (yA dH rfl dB PyProof.Rows.boot_list (zA (pv 2) zD)))
  (zE (yI (QD jl PySem.F.slot_list_clear PySem.F.type_list_clear Qm (pv 2)))
  (zG (zO (yB yU (yK (zA (qu lE zB) (zA zB zD))) (yA Ax rfl Fx PyProof.Rows.boot_int (zA (fB (Uo hr.units) (pC uY hr (zA (pv 0) (zA (pv 1) zD))) (pv 5) (zR _)) zD)) (fun _ _=>rfl)))))))
  zT)
  (zE (yD (cC (PW.pt (pw_or (cB (bR (zS bT rfl aQ sI (zA (pv 3) (zA (fG (v:=.ty "tuple") rfl aW lD rfl) zD))))) (pw_or (zL iI (zS zN rfl aU bh (zA (pv 3) zD)) zB (zR _)) (pw_or1 (cB (bR (zS bT rfl aQ sI (zA (yB zH (pv 3) zB (fun _ _=>rfl)) (zA (fG (v:=.ty "list") rfl dB PyProof.Rows.boot_list rfl) zD))))))))))
  (zG (zO (qu lE zB)))
  zT)
  (zE (yD (cC (PW.pt (pw_or (cB (IV j5 Kf zB (zS zN rfl aU bh (zA (yB zH (pv 3) zB (fun _ _=>rfl)) zD)) (pv 1))) (pw_or (cB (bR (zS bT rfl aQ sI (zA (yB zH (pv 3) zB (fun _ _=>rfl)) (zA (fG (v:=.ty "list") rfl dB PyProof.Rows.boot_list rfl) zD))))) (pw_or1 (zL iI (zS zN rfl aU bh (zA (yB zH (pv 3) zB (fun _ _=>rfl)) zD)) (zS zN rfl aU bh (zA (yB zH (pv 3) zB (fun _ _=>rfl)) zD)) (zR _)))))))
  (zG (zO (qu lE zB)))
  zT)
  (zG (zO (zS zN rfl aU bh (zA (yB zH (pv 3) zB (fun _ _=>rfl)) zD)))))))))),?_⟩
 refine⟨_,rfl,_,rfl,pc,m,c,bs,ne,rfl,hX,ok,n3,m1,yg,Iw,fun dW s0 BR Zw=>⟨fun N fs ms t tw pr as rv sv H' a1 a2 a3 a4 a5 a6 a7 a8 a9 a10 a11 a12 a13 a14=>?_,fun i fs ms FR fl dx pl pv H2 st z1 z2 z3 z4 z5=>⟨CT,rfl,jo,fun ea Z8=>?_⟩⟩⟩
 ·have Km:rv.length=N:=by rw[a8.length];unfold rowsOf;rw[bZ,List.length_range]
  have V9:sv.length=N:=by rw[a10.length,bZ];exact a2
  obtain⟨more,ef⟩:=wu a1
  have n1:1<=N:=by rw[<-a2,ef,eO];lia
  refine⟨_,rfl,rfl,_,rfl,j8 rfl ?_⟩;refine⟨fun cx Hx=>H'=Hx/\cx=false,⟨_,rfl,_,"tuple",_,true,rfl,.tup a5,by rfl,_,rfl,j8 rfl ⟨_,rfl,gf rfl (.inr (aJ.of a5)) ⟨rfl,_,rfl,j8 rfl ⟨_,rfl,aF (aJ.of a5) rfl ⟨_,"list",_,true,rfl,.lst a7,by rfl,_,rfl,rfl,rfl⟩⟩⟩⟩⟩,?_⟩;rintro cx _ ⟨rfl,rfl⟩;refine j8 rfl ?_;refine⟨fun cx Hx=>H'=Hx/\cx=false,⟨_,rfl,aF (aJ.of a5) rfl (gf rfl (.inl (aR.of a7)) ⟨_,_,_,rfl,rfl,⟨_,rfl,rfl,rfl⟩,_,rfl,j8 ?_ ⟨_,rfl,aF (aJ.of a5) rfl ⟨_,"list",_,true,rfl,.lst a9,by rfl,_,rfl,j8 rfl ⟨_,rfl,aF (aJ.of a5) rfl (gf rfl (.inl (aR.of a9)) ⟨_,rfl,aF (aJ.of a5) rfl (gf rfl (.inl (aR.of a7)) ⟨rfl,_,rfl,rfl,?_⟩)⟩)⟩⟩⟩⟩)⟩,?_⟩
  ·show (!(decide ((0:Int) < ((rv.length:Nat):Int)) && decide (((rv.length:Nat):Int)<=(m:Int))))=false;rw[decide_eq_true (show (0:Int) < ((rv.length:Nat):Int) by lia),decide_eq_true (show ((rv.length:Nat):Int)<=(m:Int) by lia)];rfl
  ·rw[Km,V9];simp
  rintro cx _ ⟨rfl,rfl⟩;refine j8 rfl ⟨_,rfl,aF (aJ.of a5) rfl (gf rfl (.inl (aR.of a7)) ?_)⟩;have:=q1 dW s0 N fs ms H' a11 BR a1 a2 a3;rw[<-Km]at this;exact this
 ·have s2:aG H H2:=fun b o e=>st.rest b o e (by simp);have s3:=zF Z8 (fO ea CT (some dx));have i3:upd H2 ea (fO ea CT (some dx)) ea=some (fO ea CT (some dx)):=zC;generalize upd H2 ea (fO ea CT (some dx))=H3 at s3 i3 ⊢;have KH:=s2.trans s3;have hA3:=z5.mono fun _ _ z=>uV.mono z (aA.of s3)
  have lpv:pv.length=m+1:=by rw[z5.length,bZ];exact fl
  refine⟨_,rfl,ea,CT,dx,_,V.ref pl,rfl,i3,qQ,qS,s3 _ _ z3,rfl,?_⟩;refine⟨_,rfl,rfl,_,rfl,TJ rfl ?_⟩;refine⟨fun cx Hx=>aG H3 Hx/\cx=false,⟨_,rfl,_,rfl,_,rfl,bF ⟨pc,pl,m,c,bs,ne,dW,s0,i,fs,ms,pv,(by show [V.ref pc,V.ref pl,V.int ((m:Int)+1)]=_;rw[lpv];rfl),hX.mono (aA.of KH),ok,m1,yg,Iw,BR,FR,fl,s3 _ _ z4,hA3,fun H4 s4=>⟨true,rfl,j8 rfl ⟨_,rfl,_,rfl,pc,m,c,bs,ne,dW,s0,i,fs,ms,rfl,hX.mono (aA.of (KH.trans s4)),ok,n3,m1,yg,Iw,BR,FR,fl,fun H5 s5=>⟨true,rfl,s4.trans s5,rfl⟩⟩⟩⟩⟩,?_⟩;rintro cx H4 ⟨s4,rfl⟩;refine j8 rfl ?_;have R4:=(s3.trans s4) _ _ z4;refine⟨_,rfl,pl,pv,rfl,.inl (aR.of R4),fun pk TV=>?_⟩;have s5:=zF TV (.lst pv);have i5:upd H4 pk (.lst pv) pk=some (.lst pv):=zC;generalize upd H4 pk (.lst pv)=H5 at s5 i5 ⊢;have Z5:=s5 _ _ R4
  have nkl:pk ≠ pl:=fun z=>by rw[z,R4]at TV;cases TV
  refine⟨_,rfl,.inl ⟨rfl,_,aR.of Z5⟩,pl,pv,rfl,rfl,Z5,?_⟩;have s06:aG H (upd H5 pl (.lst [])):=eQ z2 ((KH.trans s4).trans s5) _
  have i6:upd H5 pl (.lst []) pk=some (.lst pv):=by rw[zQ nkl];exact i5
  have k6:aA H2 (upd H5 pl (.lst [])):=((aA.of ((s3.trans s4).trans s5)).trans (aA.lst Z5 (.lst [])));generalize upd H5 pl (.lst [])=H6 at s06 i6 k6 ⊢;refine⟨_,rfl,zI (by show 2<=1000;decide),fun p2 hp2=>?_⟩;have s7:=zF hp2 (.lst [V.int (-1),V.int 0]);have i7:upd H6 p2 (.lst [V.int (-1),V.int 0]) p2=some (.lst [V.int (-1),V.int 0]):=zC;have k7:=k6.trans (aA.new hp2 (.lst [V.int (-1),V.int 0]));have i7k:=s7 _ _ i6;have Xy:=s06.trans s7;generalize upd H6 p2 (.lst [V.int (-1),V.int 0])=H7 at Xy i7 k7 i7k ⊢;refine⟨_,rfl,_,rfl,pc,m,c,bs,ne,dW,s0,i,fs,ms,rfl,hX.mono (aA.of Xy),ok,n3,m1,yg,Iw,BR,FR,fl,fun pl2 pv2 H8 h1 h2 s8 n8=>?_⟩;have hA8:=z5.mono fun _ _ z=>uV.mono z (k7.trans (aA.of s8));refine⟨_,rfl,pl2,pk,pv2,pv,1,rfl,rfl,aR.of h1,aR.of (s8 _ _ i7k),by rw[h2.length,z5.length],fun j x y hx hy=>?_,by decide,?_⟩
  ·have hj:j < fs.length:=by have:=(jM.mp hy).1;lia
   have ej:(fs.map (·.2))[j]? = some fs[j].2:=by rw[cG,dX hj];rfl
   obtain⟨v1,e1,b1,rfl,g1⟩:=h2.get ej;obtain⟨v2,e2,b2,rfl,g2⟩:=hA8.get ej
   cases hx.symm.trans e1
   cases hy.symm.trans e2
   exact rJ g1 g2
  exact .inr ⟨true,rfl,bQ (aR.of (s8 _ _ i7)) rfl (q2 dW s0 i fs ms H8 (Xy.trans s8) BR FR fl)⟩
end
inductive PJ(K:bj)(vs:List V)(H:Hp)(Q:VK)(E_:XK):Prop
 | mk (a:Addr) (ns:List Int) (_:vs=[.ref a]) (_:aR K H a (ns.map V.int)) (_:ns.length<=63) (_:∀ H',aG H H'->Q (.bl true) H')
inductive PL(K:bj)(vs:List V)(H:Hp)(Q:VK)(E_:XK):Prop
 | mk (a:Addr) (ns:List Int) (_:vs=[.ref a]) (_:aR K H a (ns.map V.int)) (_:ns.length<=63) (_:∀ H',aG H H'->Q (.bl true) H')
inductive Told(c:jR)(bs:List (Int × Int))(ne m:Nat):Nat->Prop
 | rows {dW:List En} {s0:S4} {N:Nat} {fs:Fs} {ms:List (List En × Nat)}:uB c bs dW s0->aX c ne s0 (N * ne) fs ms->fs.length=N->N<=m->Told c bs ne m N
 | wide {dW:List En} {s0:S4} {i:Nat} {fs:Fs} {ms:List (List En × Nat)}:uB c bs dW s0->aX c ne s0 i fs ms->fs.length=m+1->Told c bs ne m 0
section
theorem Told.le(h:Told c bs ne m N):N<=m:=by
 cases h with
 | rows _ _ _ l=>exact l
 | wide _ _ _=>exact Nat.zero_le _
theorem Told.zero(h:Told c bs ne m 0)(h':Told c bs ne m' N')(le:m'<=m):N'=0:=by
 cases h with
 | rows _ f l _=>
  obtain⟨more,ef⟩:=wu f;rw[ef]at l
  cases l
 | wide b f l=>
  cases h' with
  | wide _ _ _=>rfl
  | rows b' f' l' k'=>
   obtain⟨rfl,rfl⟩:=fP b b';exact (kW f' l' (Nat.le_trans k' le) f l).elim
theorem Told.some(h:Told c bs ne m N)(n0:N ≠ 0)(h':Told c bs ne m' N'):N'=if N<=m' then N else 0:=by
 cases h with
 | wide _ _ _=>exact absurd rfl n0
 | rows b f l k=>
  cases h' with
  | rows b' f' l' k'=>
   obtain⟨rfl,rfl⟩:=fP b b';obtain⟨rfl,_,_⟩:=Ez f l f' l';rw[if_pos k']
  | wide b' f' l'=>
   obtain⟨rfl,rfl⟩:=fP b b';rw[if_neg fun z=>kW f l z f' l']
end
section
theorem vP:aH ["_law_script","_law_chart","_law_many","_law_drawn","_law_told"] ["_law_script"] (aC uE):=fW
theorem YQ(F:dM K "law" "law" uE f fd)
  (aP:Dp P w K mg base aZ m' g1 d1 ["_law_script","_law_k","_law_salt"] (qR K) "_law_mixed")
  (Jj:Dp P w K mg base aZ m' g2 d2 ["_law_script"] (PJ K) "_law_long")
  (Gy:Dp P w K mg base aZ m' g3 d3 ["_law_script"] (pA.K1 K) "_law_clock")
  (jb:Dp P w K mg base aZ m' g4 d4 ["_law_chart","_law_most"] (Bj 3) "_law_asked")
  (Fx:mg "int" = none):aO P w K mg base aZ (m'+1) f fd ["_law_script"] (PL K):=by
 refine F.ok vP (fun vs H Q E h=>?_) (fun cdv A outer s H vs Q E hr h=>?_)
 ·obtain⟨a,ns,rfl,_⟩:=h;rfl
 obtain⟨a,ns,rfl,hS,h63,q⟩:=h
 refine⟨_,(zE (yD (cC (PW.pt (pw_and (zL yG (yC zY (pC aP hr (zA (pv 0) (zA zB (zA zB zD)))) zB) zB (zR _)) (yP (cB (bR (pC Jj hr (zA (pv 0) zD))))))))
  (zG (zO cz))
  zT)
  (zE (zK (i:=1) vP.nd rfl (Or.inl rfl) (pC Gy hr (zA (pv 0) zD)))
  (zE (zK (i:=2) vP.nd rfl (Or.inl rfl) (pC jb hr (zA (pv 1) (zA zB zD))))
  (zE (zK (i:=3) vP.nd rfl (Or.inl rfl) (yC yF zB (yC zY (pC aP hr (zA (pv 0) (zA zB (zA zB zD)))) zB)))
  (zE (zK (i:=4) vP.nd rfl (Or.inl rfl) (pC jb hr (zA (pv 1) (zA (pv 3) zD))))
  (zE (yD (cC (PW.pt (pw_or (zL j5 (pv 2) zB (zR _)) (pw_or1 (zL j5 (pv 4) zB (zR _))))))
  (zG (zO cz))
  zT)
  (zE (yD (zL yG (pv 2) zB (zR _))
  (zG (zO (fB yG (pv 4) zB (zR _))))
  zT)
  (zE (yD (cC (PW.pt (pw_or (zL iI (pv 4) (yB yU (yK (zA zB (zA (pv 2) zD))) (yA Ax rfl Fx PyProof.Rows.boot_int (zA (fB QK (pv 3) (pv 2) (zR _)) zD)) (fun _ _=>rfl)) (zR _)) (pw_or1 (zL iI (pC jb hr (zA (pv 1) (zA (pv 2) zD))) (pv 2) (zR _))))))
  (zG (zO cz))
  zT)
  (zG (zO (iz (Wi (fB yG (pv 2) zB (zR _)) (CG (fB yG (pC jb hr (zA (pv 1) (zA (yC CV (pv 2) zB) zD))) zB (zR _))))))))))))))),?_⟩
 refine⟨fun cx Hx=>aG H Hx/\cx=false,⟨_,rfl,a,ns,_,_,rfl,hS,h63,⟨by decide,by decide⟩,⟨by decide,by decide⟩,fun x x0 x1=>bF ⟨(by show (0:Int) < 8;decide),rfl,_,rfl,jg (fun _=>⟨_,rfl,a,ns,rfl,hS,h63,fun H1 s1=>⟨true,rfl,s1,rfl⟩⟩) (fun _=>⟨aG.refl _,rfl⟩)⟩⟩,?_⟩;rintro cx H1 ⟨s1,rfl⟩;refine j8 rfl ?_;refine⟨_,rfl,a,ns,rfl,s1.seq hS,h63,fun pc c bs ne H2 s2 hX ok ne1 ne3=>?_⟩;have s02:=s1.trans s2;have ask:∀ {m:Nat} {Hz:Hp} {R:VK},aG H2 Hz->1<=m->m<=300->(∀ N Hy,aG Hz Hy->Told c bs ne m N->R (.int (N:Int)) Hy)->∀ {vs:List V} {E:XK},vs=[.ref pc,.int (m:Int)]->Bj 3 vs Hz R E:=fun sz m1 m3 r vs E ev=>⟨pc,_,c,bs,ne,ev,hX.mono (aA.of sz),ok,bD _,m1,m3,by lia,fun dW s0 N fs ms Hy sy b f l k=>r N Hy sy (.rows b f l k),fun dW s0 i fs ms Hy sy b f l=>r 0 Hy sy (.wide b f l)⟩;refine⟨_,rfl,ask (m:=8) (aG.refl _) (by decide) (by decide) (fun N H3 s3 T8=>?_) rfl⟩;have KH:=s02.trans s3;refine⟨_,rfl,a,ns,_,_,rfl,KH.seq hS,h63,⟨by decide,by decide⟩,⟨by decide,by decide⟩,fun y y0 y1=>bF ⟨(by show (0:Int) < 8;decide),bF ?_⟩⟩;obtain⟨d,hd,d1',d8⟩:∃ d:Nat,1+y % 8=(d:Int)/\1<=d/\d<=8:=⟨(1+y % 8).toNat,by lia,by lia,by lia⟩;have hv:(fun i j:Int=>V.int (i+j)) 1 (y % 8)=V.int (d:Int):=congrArg V.int hd;rw[hv];refine⟨_,rfl,_,rfl,ask (m:=d) s3 d1' (by lia) (fun N2 H4 s4 Td=>?_) rfl⟩;have Bv:=KH.trans s4;refine⟨fun cx Hx=>H4=Hx/\cx=false,⟨_,rfl,bF ⟨_,rfl,j8 (decide_eq_false (by lia)) ⟨_,rfl,bF ⟨_,rfl,rfl,decide_eq_false (by lia)⟩⟩⟩⟩,?_⟩;rintro cx _ ⟨rfl,rfl⟩;refine j8 rfl ?_;refine⟨_,rfl,rfl,_,rfl,jg (fun c0=>?_) (fun c0=>?_)⟩
 ·have n0:N=0:=by have:=V.int.inj (of_decide_eq_true c0);lia
  subst n0;have:=T8.zero Td d8;subst this;exact⟨_,rfl,rfl,q _ Bv⟩
 have n0:N ≠ 0:=fun z=>of_decide_eq_false c0 (by rw[z];rfl);have e2:=T8.some n0 Td;have N8:=T8.le;refine⟨fun cx Hx=>aG H4 Hx/\cx=false,?_,?_⟩
 ·refine⟨_,rfl,_,rfl,zI (by show 2<=1000;decide),fun p hp=>⟨_,rfl,_,rfl,bF (.inr ?_)⟩⟩;have s5:=zF hp (.lst [V.int 0,V.int (N:Int)]);have last:∀ {Hz:Hp},aG H4 Hz->∀ N3 Hy,aG Hz Hy->Told c bs ne N N3->aG H4 Hy/\(!decide (V.int (N3:Int)=V.int (N:Int)))=false:=fun sz N3 Hy sy T3=>⟨sz.trans sy,by rw[T8.some n0 T3,if_pos (Nat.le_refl _)];simp⟩
  by_cases z:N<=d
  ·rw[if_pos z]at e2;refine⟨true,(by show [V.bl (decide ((d:Int) ≥ (N:Int)))]=_;rw[decide_eq_true (show (d:Int) ≥ (N:Int) by lia)]),bQ (aR.of zC) rfl ⟨rfl,_,rfl,j8 (by rw[e2];simp) ⟨_,rfl,_,rfl,ask (m:=N) ((s3.trans s4).trans s5) (by lia) (by lia) (fun N3 H5 s6 T3=>⟨_,rfl,rfl,_,rfl,last s5 N3 H5 s6 T3⟩) rfl⟩⟩⟩
  ·rw[if_neg z]at e2;refine⟨false,(by show [V.bl (decide ((d:Int) ≥ (N:Int)))]=_;rw[decide_eq_false (show ¬ (d:Int) ≥ (N:Int) by lia)]),bQ (aR.of zC) rfl ⟨rfl,_,rfl,j8 (by rw[e2];rfl) ⟨_,rfl,_,rfl,ask (m:=N) ((s3.trans s4).trans s5) (by lia) (by lia) (fun N3 H5 s6 T3=>⟨_,rfl,rfl,_,rfl,last s5 N3 H5 s6 T3⟩) rfl⟩⟩⟩
 rintro cx H5 ⟨s5,rfl⟩;refine j8 rfl ?_;refine⟨fun v Hx=>aG H5 Hx/\v = .bl true,?_,?_⟩
 ·refine⟨_,rfl,rfl,_,rfl,jg (fun _=>⟨aG.refl _,rfl⟩) (fun c1=>?_)⟩;have n1:N ≠ 1:=fun z=>of_decide_eq_false c1 (by rw[z];rfl);refine⟨_,rfl,_,rfl,bF (ask (m:=N - 1) ((s3.trans s4).trans s5) (by lia) (by lia) (fun N4 H6 s6 T4=>⟨rfl,s6,?_⟩) ?_)⟩
  ·show [V.ref pc,V.int ((N:Int) - 1)]=[V.ref pc,V.int ((N - 1:Nat):Int)];rw[show ((N - 1:Nat):Int)=(N:Int) - 1 by lia]
  ·rw[T8.some n0 T4,if_neg (by lia)];rfl
 rintro v H6 ⟨s6,rfl⟩;exact q _ ((Bv.trans s5).trans s6)
end
end xR
namespace L2
open PySem
section
theorem kI {x1} (h:RA X es t):RE X (.Tuple es x1 pos) (qA7 t):=⟨zW h.p⟩
theorem qAY(hp:PassesOwn (model X.prog X.w) X.A X.env X.xe)(hc:X.calm=true)(hi:PI X tg iter wi)(hg:PG X tg g)(hb:XF X body tb)(hs:∀ x,foldedSetIterable iter X.env x=pure x:=by intro _;rfl):RS X (.For tg iter body [] pos) (qAF wi g tb):=⟨cU hp hc hi hg hb.p hs⟩
theorem fu:RA X [] Xi:=⟨zD⟩
theorem aV(ha:RE X e te)(hr:RA X es t)(hs:starEach (e :: es) X.env=(false,eval e X.env) :: starEach es X.env:=by rfl):RA X (e :: es) (Jr te t):=⟨zA ha.p hr.p hs⟩
theorem By(h:RE X e te):RE X e (WN te):=⟨iz h.p⟩
end
end L2
namespace xR
open PySem L2 mC ou xT O5 Dl jP Ru
open Bb (Al)
section
variable{z v b st:Int}{vi vo:V}{k i:Nat}
theorem rP(h:xs[i]? = some y):uO xs (0+(i:Int))=some y:=by rw[Int.zero_add];exact yQ h
noncomputable def Zq(z v st:Int)(k:Nat):List (List En × Nat):=T7 z v st k++[(.take 0 :: NT (mQ z v st k) z v,0)]
theorem Ci:(T7 z v st k).length=k:=by unfold T7;rw[bZ,List.length_range]
theorem Yg(h:i<=k):∃ n:Nat,(Zq z v st k)[i]? = some (.take 0 :: NT (mQ z v st i) z v,n)/\(n:Int)=((i:Int)+1) % ((k+1:Nat):Int):=by
 unfold Zq
 by_cases e:i < k
 ·refine⟨i+1,?_,?_⟩
  ·rw[Lp (by rw[Ci];exact e)];unfold T7;rw[cG,XX e];rfl
  ·rw[Int.emod_eq_of_lt (by lia) (by lia)];rfl
 ·have:i=k:=by lia
  subst this;refine⟨0,?_,?_⟩
  ·rw[Tc (by rw[Ci];exact bD _),Ci,Nat.sub_self];rfl
  ·rw[show ((i:Int)+1)=((i+1:Nat):Int) from rfl,Int.emod_self];rfl
theorem VR(h:i<=k):∃ n:Nat,rowAt (Cv z v vi vo) 1 (wg z v st k) (Zq z v st k) i=([],[(.take 0 :: NT (mQ z v st i) z v,n)])/\(n:Int)=((i:Int)+1) % ((k+1:Nat):Int):=by
 obtain⟨n,e1,e2⟩:=Yg (z:=z) (v:=v) (st:=st) h;refine⟨n,?_,e2⟩;unfold rowAt;obtain⟨hl,e3⟩:=jM.mp e1;rw[tL h,Nat.mul_one,List.drop_eq_getElem_cons hl,e3];rfl
end
section
variable{P:Program}{w:World}{K:bj}{mg:Str->Option Value}{base:Heap}{CT:Addr}
theorem ZC(z0:0 < z)(s0:0<=st)(s1:st < z):pA.oG (Cv z v vi vo) [(z,st)]:=by
 have hd:∀ d∈(Cv z v vi vo).ds,d=⟨0,0,.yes,[.add 0 v],.stay⟩:=fun d h=>bf.mp h;refine⟨⟨?_,by show 1<=40;decide,by show 1<=6;decide,fun y hy=>?_,by show 0<=12;decide,fun _=>⟨nofun,Nat.zero_le _⟩,fun _=>⟨nofun,Nat.zero_le _⟩,by show 1<=63;decide,fun d h=>?_⟩,rfl,fun y hy=>?_,?_,?_,by show 1<=10;decide,fun d h=>?_,by show 0<=5;decide,by show 1<=1;decide,by show 1<=5;decide⟩
 ·exact⟨by show 0 < 1;decide,rfl,fun j h=>absurd h (by show ¬ j+1 < 1;lia)⟩
 ·rw[bf.mp hy];exact z0
 ·rw[hd d h];refine⟨by show 0 < 1;decide,by show 0 < 1;decide,fun y hy=>?_,by show 1<=8;decide⟩;rw[bf.mp hy];intro b e
  cases e
  exact⟨by decide,by show (0:Int) < 1;decide⟩
 ·rw[bf.mp hy];exact⟨s0,s1⟩
 ·intro j r hj
  cases j with
  | zero=>
   cases hj
   rw[if_neg fun y=>absurd y.1 (by show ¬ 0+1 < 1;decide)]
  | succ j=>cases hj
 ·intro j hj;have:j=0:=Nat.lt_one_iff.mp hj;subst this;show (0:Int)<=4;decide
 ·rw[hd d h];exact⟨trivial,by show 1<=3;decide⟩
theorem bB:aH ["_law_script","_law_number","_law_size","_law_boxes","_law_rooms","_law_doors","_law_chart","_law_found","_law_k","e","_law_wide"] ["_law_script"] (aC qW):=fW
theorem Uv(F:dM K "_law_long" "_law_long" qW f fd)
  (aP:Dp P w K mg base aZ m' g1 d1 ["_law_script","_law_k","_law_salt"] (qR K) "_law_mixed")
  (bY:Dp P w K mg base (pP P w) m' g2 d2 ["chart","most"] (vK CT 3) "flat")
  (dF:mg "TooWide" = some (.ref CT)) (jo:PySem.W.exmOne K (.ref CT) (.ref CT)=some true) (qQ:pJ K CT) (qS:xU K CT "ways")
  (aU:mg "len" = none) (au:mg "range" = none) (Ai:mg "any" = none) (aW:mg "tuple" = none) (dB:mg "list" = none) (aQ:mg "isinstance" = none):aO P w K mg base aZ (m'+1) f fd ["_law_script"] (PJ K):=by
 refine F.ok bB (fun vs H Q E h=>?_) (fun cdv A outer s H vs Q E hr h=>?_)
 ·obtain⟨a,ns,rfl,_⟩:=h;rfl
 obtain⟨a,ns,rfl,hS,h63,q⟩:=h;refine⟨_,(XF.p (jf (Bx (zK (i:=1) bB.nd rfl (Or.inl rfl) (pC aP hr (zA (pv 0) (zA zB (zA zB zD)))))) (jf (Bx (zK (i:=2) bB.nd rfl (Or.inl rfl) (iz (yC yF zB (yC zY (yC yL (pv 1) zB) zB))))) (jf (KR (i:=3) bB.nd rfl (Or.inl rfl) (By (kI (aV (kI (aV (vy zP) (aV (vy (pv 2)) (aV (vy (iz (yC zY (yC yL (pv 1) zB) (pv 2)))) fu)))) fu)))) (jf (KR (i:=4) bB.nd rfl (Or.inl rfl) (By (kI (aV (kI (aV (vy zP) (aV (vy zP) (aV (vy zB) (aV (vy zP) (aV (vy zP) (aV (kI fu) (aV (kI fu) fu)))))))) fu)))) (jf (KR (i:=5) bB.nd rfl (Or.inl rfl) (By (kI (aV (kI (aV (vy zB) (aV (vy zB) (aV (kI (aV (vy zP) fu)) (aV (kI (aV (kI (aV (vy zP) (aV (vy zB) (aV (vy (iz (yB yU (yK (zA zB (zA (qu lE zB) zD))) (yC zY (yC yL (pv 1) zB) zB) (fun _ _=>rfl)))) fu)))) fu)) (aV (vy zP) (aV (vy gA) fu))))))) fu)))) (jf (KR (i:=6) bB.nd rfl (Or.inl rfl) (By (kI (aV (vy zP) (aV (vy zB) (aV (vy zB) (aV (vy (pv 3)) (aV (kI (aV (vy zP) fu)) (aV (vy (pv 4)) (aV (vy (pv 5)) fu)))))))))) (jf (Bx (zK (i:=7) bB.nd rfl (Or.inl rfl) (zJ bY.G hr rfl bY.m bY.k bY.b .nil qB8 (zA (pv 6) (zA (pv 2) zD))))) (jf (Bx (yD (cC (PW.pt (pw_or (cB (bR (zS bT rfl aQ sI (zA (pv 7) (zA (fG (v:=.ty "tuple") rfl aW lD rfl) zD))))) (pw_or (zL iI (zS zN rfl aU bh (zA (pv 7) zD)) zB (zR _)) (pw_or (zL iI (zS zN rfl aU bh (zA (yB zH (pv 7) zB (fun _ _=>rfl)) zD)) (pv 2) (zR _)) (pw_or1 (zL iI (zS zN rfl aU bh (zA (yB zH (pv 7) zB (fun _ _=>rfl)) zD)) (pv 2) (zR _)))))))) (zG (zO cz)) zT)) (Wf (qAY PassesOwn.never rfl (bu rfl au (zA (pv 2) zD)) (yJ (i:=8) bB.nd rfl (Or.inl rfl)) (Q3 (qEU (zL (Ul hr.units) (yB yU (yB zH (pv 7) zB (fun _ _=>rfl)) (pv 8) (fun _ _=>rfl)) (iz (zW (zA (zW zD) (zA (zW (zA (zW (zA (zW zD) (zA (yC zY (yC yF (pv 8) zB) (pv 2)) zD))) zD)) zD)))) (zR _)) (Q3 (Bx (zO cz))) zT))) (jf (Bx (M6 (i:=9) (w5 (qt bY.G hr rfl bY.m bY.k bY.b .nil (zA (pv 6) (zA (yC CV (pv 2) zB) zD)))) rfl dF bB.nd rfl rfl (fun _=>(zG (zK (i:=10) bB.nd rfl (Or.inl rfl) (show PE _ _ (Jq K (Ot 9) "ways") from CP (pv 9) rfl)))) (zG (zO cz)))) (jf (Bx (yD (cC (PW.pt (pw_or (cB (bR (zS bT rfl aQ sI (zA (pv 10) (zA (fG (v:=.ty "list") rfl dB PyProof.Rows.boot_list rfl) zD))))) (pw_or1 (zL iI (zS zN rfl aU bh (zA (pv 10) zD)) (pv 2) (zR _)))))) (zG (zO cz)) zT)) (Wf (Bx (cU PassesOwn.never rfl (bu rfl au (zA (pv 2) zD)) (yJ (i:=8) bB.nd rfl (Or.inl rfl)) (zG (yD (cC (PW.pt (pw_or (cB (bR (zS bT rfl aQ sI (zA (yB yU (pv 10) (pv 8) (fun _ _=>rfl)) (zA (fG (v:=.ty "tuple") rfl aW lD rfl) zD))))) (pw_or (zL iI (zS zN rfl aU bh (zA (yB yU (pv 10) (pv 8) (fun _ _=>rfl)) zD)) (pv 8) (zR _)) (pw_or1 (bR (zS (O1 rfl) rfl Ai PyProof.Rows.boot_any (zA (yB yU (pv 10) (pv 8) (fun _ _=>rfl)) zD)))))))) (zG (zO cz)) zT)))) (Q3 (Bx (zO cz)))))))))))))))),?_⟩;refine⟨_,rfl,a,ns,_,_,rfl,hS,h63,⟨by decide,by decide⟩,⟨by decide,by decide⟩,fun x x0 x1=>?_⟩;refine⟨fun y Hx=>H=Hx/\∃ k:Nat,y = .int ((k+1:Nat):Int)/\1<=k/\k<=299,⟨_,rfl,bF ⟨⟨by decide,by decide⟩,bF ⟨(by show (0:Int) < 299;decide),bF ⟨rfl,(1+x / 6 % 299).toNat,congrArg V.int (by lia),by lia,by lia⟩⟩⟩⟩,?_⟩;rintro _ _ ⟨rfl,k,rfl,k1,k3⟩
 have z0:(0:Int) < ((k+1:Nat):Int):=by lia
 generalize ez:((k+1:Nat):Int)=z at z0 ⊢;refine⟨fun y Hx=>aG H Hx/\∃(pb:Addr)(bv:List V)(st:Int),y = .ref pb/\Hx pb=some (.tup bv)/\Al (pA.Jm Hx) bv [(z,st)]/\0<=st/\st < z,?_,?_⟩
 ·refine⟨_,rfl,⟨fun y Hx=>H=Hx/\∃ st:Int,y = .int st/\0<=st/\st < z,⟨_,rfl,bF ⟨⟨by decide,by decide⟩,_,rfl,bF ⟨z0,rfl,x / 3000 % z,rfl,HR _ (by lia),HQ _ z0⟩⟩⟩,?_⟩⟩;rintro _ _ ⟨rfl,st,rfl,s0,s1⟩;refine⟨zI (by show 3<=1000;decide),fun p1 hp1=>⟨zI (by show 1<=1000;decide),fun p2 hp2=>?_⟩⟩;exact⟨(zF hp1 _).trans (zF hp2 _),p2,_,st,rfl,zC,.cons ⟨p1,_,rfl,(zF hp2 _) _ _ zC⟩ .nil,s0,s1⟩
 rintro _ H1 ⟨s1,pb,bv,st,rfl,hpb,hbs,st0,st1⟩;refine⟨fun y Hx=>aG H1 Hx/\∃(pt:Addr)(rv:List V)(vi vo:V),y = .ref pt/\Hx pt=some (.tup rv)/\iB Hx rv [⟨"glass","plain",0,"","",vi,vo⟩]/\oA Hx vi []/\oA Hx vo [],?_,?_⟩
 ·refine⟨zI (by show 0<=1000;decide),fun p1 hp1=>⟨zI (by show 0<=1000;decide),fun p2 hp2=>⟨zI (by show 7<=1000;decide),fun p3 hp3=>⟨zI (by show 1<=1000;decide),fun p4 Ws=>?_⟩⟩⟩⟩;have s34:=(zF hp3 (.tup [.str "glass",.str "plain",.int 0,.str "",.str "",.ref p1,.ref p2])).trans (zF Ws (.tup [.ref p3]));exact⟨(zF hp1 _).trans ((zF hp2 _).trans s34),p4,_,_,_,rfl,zC,.cons ⟨p3,rfl,(zF Ws _) _ _ zC⟩ .nil,⟨p1,[],rfl,s34 _ _ ((zF hp2 _) _ _ zC),.nil⟩,⟨p2,[],rfl,s34 _ _ zC,.nil⟩⟩
 rintro _ H2 ⟨s2,pt,rv,vi,vo,rfl,Ga,hrs,hvi,hvo⟩;refine⟨fun y Hx=>aG H2 Hx/\∃(pd:Addr)(dv:List V)(d:Int),y = .ref pd/\Hx pd=some (.tup dv)/\Al (uX Hx) dv [⟨0,0,.yes,[.add 0 d],.stay⟩]/\(d=1 ∨ d = -1),?_,?_⟩
 ·refine⟨zI (by show 1<=1000;decide),fun p1 hp1=>?_⟩;refine⟨fun y Hx=>aG (upd H2 p1 (.tup [.str "yes"])) Hx/\∃ d:Int,y = .int d/\(d=1 ∨ d = -1),⟨_,rfl,zI (by show 2<=1000;decide),fun p2 hp2=>⟨_,rfl,bF ⟨⟨by decide,by decide⟩,bF ⟨(by show (0:Int) < 2;decide),?_⟩⟩⟩⟩,?_⟩
  ·obtain⟨d,hd,hat⟩:=pA.int_at (zs:=[1,-1]) (i:=x / 12 % 2) (by lia) (by show _ < (2:Int);lia);refine bQ (aR.of zC) hat ⟨zF hp2 _,d,rfl,?_⟩
   simpa using hd
  rintro _ H3 ⟨s3,d,rfl,hd⟩;have i3:=s3 _ _ zC;have s23:=(zF hp1 _).trans s3;refine⟨zI (by show 3<=1000;decide),fun p3 hp3=>⟨zI (by show 1<=1000;decide),fun p4 Ws=>⟨zI (by show 6<=1000;decide),fun p5 TX=>⟨zI (by show 1<=1000;decide),fun p6 hp6=>?_⟩⟩⟩⟩;have s56:=(zF TX (.tup [.int 0,.int 0,.ref p1,.ref p4,.str "stay",.non])).trans (zF hp6 (.tup [.ref p5]));exact⟨s23.trans ((zF hp3 _).trans ((zF Ws _).trans s56)),p6,_,d,rfl,zC,.cons ⟨p5,.ref p1,.ref p4,rfl,(zF hp6 _) _ _ zC,.yes (s56 _ _ ((zF Ws _) _ _ ((zF hp3 _) _ _ i3))),p4,_,rfl,s56 _ _ zC,.cons (.add (s56 _ _ ((zF Ws _) _ _ zC))) .nil⟩ .nil,hd⟩
 rintro _ H3 ⟨s3,pd,dv,d,rfl,hpd,hds,hd⟩;refine⟨fun y Hx=>aG H3 Hx/\∃ pc:Addr,y = .ref pc/\pA.Ln Hx pc (Cv z d vi vo) [(z,st)] 1,?_,?_⟩
 ·refine⟨_,rfl,zI (by show 1<=1000;decide),fun p1 hp1=>⟨_,rfl,_,rfl,zI (by show 7<=1000;decide),fun pc JH=>?_⟩⟩;have s45:=(zF hp1 (.tup [.str "grain"])).trans (zF JH (.tup [.str "outer",.int 0,.int 1,.ref pb,.ref p1,.ref pt,.ref pd]));have Zi:=s3.trans s45;refine⟨s45,pc,rfl,pb,p1,pt,pd,bv,_,rv,dv,zC,(s2.trans Zi) _ _ hpb,hbs.mono fun _ _ y=>y.mono (aA.of (s2.trans Zi)),(zF JH _) _ _ zC,rfl,Zi _ _ Ga,hrs.mono (aA.of Zi),?_,s45 _ _ hpd,hds.mono fun _ _ y=>y.mono (aA.of s45)⟩;intro j r hj
  cases j with
  | zero=>
   cases hj
   exact⟨hvi.mono (aA.of Zi),hvo.mono (aA.of Zi)⟩
  | succ j=>cases hj
 rintro _ H4 ⟨s4,pc,rfl,hX⟩;have Bv:=s1.trans (s2.trans (s3.trans s4));have ok:pA.oG (Cv z d vi vo) [(z,st)]:=ZC z0 st0 st1
 have fw:aX (Cv z d vi vo) 1 (uM st) ((k+1) * 1) (wg z d st k) (Zq z d st k):=by
  rw[Nat.mul_one];exact NQ hd st0 st1 ez
 have fk:aX (Cv z d vi vo) 1 (uM st) k (wg z d st k) (T7 z d st k):=wY hd z0 st0 st1 k (by lia);clear s1 s2 s3 s4 hpb hbs Ga hrs hvi hvo hpd hds;refine⟨_,rfl,_,rfl,pc,k+1,_,_,1,by rw[ez];rfl,hX,ok,bD _,by lia,by lia,by decide,fun dW s0 BR Zw=>⟨fun N fs ms t tw pr as rv sv H5 a1 a2 a3 a4 a5 a6 a7 a8 a9 a10 a11 a12 a13 a14=>?_,fun i fs ms FR fl=>?_⟩⟩
 rotate_left
 ·obtain⟨_,rfl⟩:=fP uv BR;exact (kW fw rG (bD _) FR fl).elim
 obtain⟨_,rfl⟩:=fP uv BR;obtain⟨rfl,rfl,rfl⟩:=Ez fw rG a1 a2
 have Km:rv.length=k+1:=by rw[a8.length];unfold rowsOf;rw[bZ,List.length_range]
 have V9:sv.length=k+1:=by rw[a10.length,bZ];exact a2
 have zrv:((rv.length:Nat):Int)=z:=by rw[Km];exact ez
 have zsv:((sv.length:Nat):Int)=z:=by rw[V9];exact ez
 clear a1 a2 a3 a4 a6 a10 a12 a13 a14 BR Zw V9;have s05:=Bv.trans a11;have X5:=hX.mono (aA.of a11);refine⟨fun cx Hx=>H5=Hx/\cx=false,⟨_,rfl,_,"tuple",_,true,rfl,.tup a5,by rfl,_,rfl,j8 rfl ⟨_,rfl,gf rfl (.inr (aJ.of a5)) ⟨rfl,_,rfl,j8 rfl ⟨_,rfl,aF (aJ.of a5) rfl (gf rfl (.inl (aR.of a7)) ⟨_,rfl,rfl,_,rfl,j8 (by rw[zrv];simp) ⟨_,rfl,aF (aJ.of a5) rfl (gf rfl (.inl (aR.of a9)) ⟨_,rfl,rfl,_,rfl,rfl,by rw[zsv];simp⟩)⟩⟩)⟩⟩⟩⟩,?_⟩;rintro cx _ ⟨rfl,rfl⟩;refine j8 rfl ?_;refine⟨fun σ' H'=>aG H5 H'/\∃ o:Option V,σ'=[some (.ref a),some (.int x),some (.int z),some (.ref pb),some (.ref pt),some (.ref pd),some (.ref pc),some (.ref t),o,none,none],?_,?_⟩
 ·refine⟨_,rfl,z,rfl,by lia,by lia,?_⟩;rw[show z.toNat=k+1 by lia];refine dG (fun i σ' H'=>aG H5 H'/\∃ o:Option V,σ'=[some (.ref a),some (.int x),some (.int z),some (.ref pb),some (.ref pt),some (.ref pd),some (.ref pc),some (.ref t),o,none,none]) ⟨aG.refl _,none,rfl⟩ ?_ (fun _ _ y=>y);rintro i _ H6 hi ⟨s6,o,rfl⟩;obtain⟨nn,en,em⟩:=VR (z:=z) (v:=d) (st:=st) (vi:=vi) (vo:=vo) (k:=k) (i:=i) (by lia)
  have er:(rowsOf (Cv z d vi vo) 1 (wg z d st k) (Zq z d st k) (k+1))[i]? = some (rowAt (Cv z d vi vo) 1 (wg z d st k) (Zq z d st k) i):=by
   unfold rowsOf;rw[cG,XX (by lia)];rfl
  rw[en]at er;obtain⟨rw_,hrw,ar,al,am,mv,rfl,b1,b2,b3,b4⟩:=a8.get er
  obtain⟨mv0,hmv,b5⟩:∃ mv0,mv=[mv0]/\Gu H5 mv0 (.take 0 :: NT (mQ z d st i) z d,nn):=by
   cases b4 with
   | cons h1 h2=>cases h2;exact⟨_,rfl,h1⟩
  subst hmv;obtain⟨a9',aw,rfl,c1,c2⟩:=b5;rw[show ((.take 0 :: NT (mQ z d st i) z d,nn):List En × Nat).2=nn from rfl,show (nn:Int)=(0+(i:Int)+1) % z by rw[em,Int.zero_add,ez]]at c1;refine⟨_,rfl,aF (aJ.of (s6 _ _ a5)) rfl ⟨_,rfl,bQ (aR.of (s6 _ _ a7)) (rP hrw) ?_⟩⟩;refine⟨fun y Hx=>aG H6 Hx/\∃ q0 q1 q2 q3 q4:Addr,y = .ref q0/\Hx q0=some (.tup [.ref q1,.ref q2])/\Hx q1=some (.tup [])/\Hx q2=some (.tup [.ref q3])/\Hx q3=some (.tup [.ref q4,.int ((0+(i:Int)+1) % z)])/\Hx q4=some (.tup []),?_,?_⟩
  ·refine⟨zI (by show 0<=1000;decide),fun q1 e1=>⟨zI (by show 0<=1000;decide),fun q4 e4=>⟨_,rfl,bF ⟨_,rfl,bF ⟨z0,zI (by show 2<=1000;decide),fun q3 e3=>⟨zI (by show 1<=1000;decide),fun q2 e2=>⟨zI (by show 2<=1000;decide),fun q0 e0=>?_⟩⟩⟩⟩⟩⟩⟩;have s0:=zF e0 (.tup [.ref q1,.ref q2]);have s2:=(zF e2 (.tup [.ref q3])).trans s0;have s3:=(zF e3 (.tup [.ref q4,.int ((0+(i:Int)+1) % z)])).trans s2;have s4:=(zF e4 (.tup [])).trans s3;exact⟨(zF e1 (.tup [])).trans s4,q0,q1,q2,q3,q4,rfl,zC,s4 _ _ zC,s0 _ _ zC,s2 _ _ zC,s3 _ _ zC⟩
  rintro _ H7 ⟨s7,q0,q1,q2,q3,q4,rfl,e0,e1,e2,e3,e4⟩;have Zh:=s6.trans s7;refine⟨_,_,_,_,3,rfl,rfl,aJ.of (Zh _ _ b1),aJ.of e0,rfl,fun j y y' hy hy'=>?_,by decide,_,rfl,j8 rfl ⟨Zh,_,rfl⟩⟩
  match j,hy,hy' with
  | 0,hy,hy'=>
   cases hy;cases hy'
   exact (rJ (as:=[]) (Zh _ _ b2) e1).up (by decide)
  | 1,hy,hy'=>
   cases hy;cases hy'
   refine .tup (aJ.of (Zh _ _ b3)) (aJ.of e2) rfl fun j y y' hy hy'=>?_
   match j,hy,hy' with
   | 0,hy,hy'=>
    cases hy;cases hy'
    refine .tup (aJ.of (Zh _ _ c1)) (aJ.of e3) rfl fun j y y' hy hy'=>?_
    match j,hy,hy' with
    | 0,hy,hy'=>
     cases hy;cases hy'
     exact rJ (as:=[]) (Zh _ _ c2) e4
    | 1,hy,hy'=>
     cases hy;cases hy'
     exact .flat rfl
 rintro _ H6 ⟨s6,o,rfl⟩;have s46:=a11.trans s6;refine⟨_,rfl,_,rfl,bF ⟨pc,k,_,_,1,congrArg (fun y=>[V.ref pc,V.int y]) (by lia),hX.mono (aA.of s46),ok,bD _,k1,by lia,by decide,fun dW s0 BR Zw=>⟨fun N fs ms t' tw' pr' as' rv' sv' H7 c1 c2 c3=>?_,fun i fs ms FR fl dx pl pv H7 stp z1 z2 z3 z4 z5=>⟨CT,rfl,jo,fun ea Z8=>?_⟩⟩⟩⟩
 ·obtain⟨_,rfl⟩:=fP uv BR;exact (kW c1 c2 c3 fk rG).elim
 obtain⟨_,rfl⟩:=fP uv BR;have ef:=yq FR fk (by rw[fl,rG]);subst ef;have s7:aG H6 H7:=fun b o e=>stp.rest b o e (by simp);have s8:=zF Z8 (fO ea CT (some dx));have i8:upd H7 ea (fO ea CT (some dx)) ea=some (fO ea CT (some dx)):=zC;generalize upd H7 ea (fO ea CT (some dx))=H8 at s8 i8 ⊢;have s08:=s05.trans (s6.trans (s7.trans s8));have hA:=z5.mono fun _ _ y=>uV.mono y (aA.of s8);have hpl:=s8 _ _ z4
 have lpv:((pv.length:Nat):Int)=z:=by rw[z5.length,bZ,fl];exact ez
 refine⟨_,rfl,ea,CT,dx,_,V.ref pl,rfl,i8,qQ,qS,s8 _ _ z3,rfl,?_⟩;refine⟨fun cx Hx=>H8=Hx/\cx=false,⟨_,rfl,_,"list",_,true,rfl,.lst hpl,by rfl,_,rfl,j8 rfl ⟨_,rfl,gf rfl (.inl (aR.of hpl)) ⟨_,rfl,rfl,_,rfl,rfl,by rw[lpv];simp⟩⟩⟩,?_⟩;rintro cx _ ⟨rfl,rfl⟩;refine j8 rfl ?_;refine⟨fun σ' H'=>H8=H'/\∃ o:Option V,σ'=[some (.ref a),some (.int x),some (.int z),some (.ref pb),some (.ref pt),some (.ref pd),some (.ref pc),some (.ref t),o,none,some (.ref pl)],?_,?_⟩
 ·refine⟨_,rfl,z,rfl,by lia,by lia,?_⟩;rw[show z.toNat=k+1 by lia];refine dG (fun i σ' H'=>H8=H'/\∃ o:Option V,σ'=[some (.ref a),some (.int x),some (.int z),some (.ref pb),some (.ref pt),some (.ref pd),some (.ref pc),some (.ref t),o,none,some (.ref pl)]) ⟨rfl,o,rfl⟩ ?_ (fun _ _ y=>y);rintro i _ _ hi ⟨rfl,o',rfl⟩
  have ew:((wg z d st k).map (·.2))[i]? = some (List.replicate i 0):=by rw[cG,tL (by lia)];rfl
  obtain⟨wv,hw,aw,rfl,hwa⟩:=hA.get ew
  have lw:(aB (List.replicate i 0)).length=i:=by rw[zU,List.length_replicate]
  refine⟨fun cx Hx=>H8=Hx/\cx=false,⟨_,rfl,_,rfl,bQ (aR.of hpl) (rP hw) ⟨_,"tuple",_,true,rfl,.tup hwa,by rfl,_,rfl,j8 rfl ⟨_,rfl,_,rfl,bQ (aR.of hpl) (rP hw) (gf rfl (.inr (aJ.of hwa)) ⟨_,rfl,rfl,_,rfl,j8 (by rw[lw];simp) ⟨_,rfl,_,rfl,bQ (aR.of hpl) (rP hw) ⟨aw,_,rfl,aJ.of hwa,fun y hy=>?_,_,rfl,rfl,rfl⟩⟩⟩)⟩⟩⟩,?_⟩
  ·unfold aB at hy;obtain⟨n0,hn,rfl⟩:=gU.mp hy;rw[List.eq_of_mem_replicate hn];rfl
  rintro cx _ ⟨rfl,rfl⟩;exact j8 rfl ⟨rfl,_,rfl⟩
 rintro _ _ ⟨rfl,o',rfl⟩;exact q _ s08
end
end xR
namespace L2
open PySem
theorem aO.cx(F:aO P w K mg base aZ k f fd ps sp):aO P w K mg base CX k f fd ps sp:=
 ⟨F.len,fun A outer s H args us vs Q E r e b v h=>codeAny_mono (F.run A outer s H args us vs Q E r e b v h) fun res s' z=>by
  cases res with
  | error e=>exact z.elim
  | ok f=>cases f <;> exact z⟩
end L2
namespace xR
open PySem L2 mC ou xT O5 Dl jP Ru
section
theorem Mf(F:dM K "holds" "holds" mj f fd)(ux:Binds K fd ["guard","opening","boxes"] [])(um:mg "holds" = some (.ref f)):aO P w K mg base aZ 3 f fd ["guard","opening","boxes"] (K02.lG 3):=by
 exact K02.BP F ux um 3
end
end xR
namespace xR
open PySem L2 mC ou xT O5 Dl Ru
theorem lW(P:Params):pJ (KO P) 82:=⟨by kernel_rfl,by kernel_rfl,by kernel_rfl,by kernel_rfl,by kernel_rfl,by kernel_rfl⟩
theorem xJ(P:Params):qG (KO P) 82 79=true:=by kernel_rfl
theorem lV(P:Params):xU (KO P) 82 "ways" := ⟨by kernel_rfl,by kernel_rfl,by kernel_rfl,by kernel_rfl⟩
set_option maxHeartbeats 0 in
theorem law_ok{w:World}{mg:Str->Option Value}{h base:Heap}(X:(KO w.params).In h)(G:h.Ns mainGlobals mg):aO PW w (KO w.params) mg base aZ 13 521 Vg ["_law_script"] (PL (KO w.params)):=by
 have ap {CX:Jl} {k:Nat} {f:Addr} {fd:FuncData} {ps:List Str} {sp:Sp} (h:aO PW w (KO w.params) mg base CX k f fd ps sp):=h;have mo {x:Str} {a:Addr} (h:NS x a):=PySem.W.mg_of X G (h w.params);have mz {x:Str} (h:NZ x):=PySem.W.mg_none_of X G (h w.params);have F1:=u1 w.params;have b1:=F1.binds (ps:=["_law_script","_law_k"]) fun _ _ _ _ _ _=>lU fun _ _=>rfl;have m1:=mo a1;have k1:=F1.kp;have F2:=u2 w.params;have b2:=F2.binds (ps:=["_law_script","_law_k","_law_salt"]) fun _ _ _ _ _ _=>jO fun _ _ _=>rfl;have m2:=mo a2;have k2:=F2.kp;have F3:=u3 w.params;have b3:=F3.binds (ps:=["guard","opening","boxes"]) fun _ _ _ _ _ _=>jO fun _ _ _=>rfl;have m3:=mo a3;have k3:=F3.kp;have F4:=u4 w.params;have b4:=F4.binds (ps:=["chart","stand","event"]) fun _ _ _ _ _ _=>jO fun _ _ _=>rfl;have m4:=mo a4;have k4:=F4.kp;have F5:=u5 w.params;have b5:=F5.binds (ps:=["rooms","room"]) fun _ _ _ _ _ _=>lU fun _ _=>rfl;have m5:=mo a5;have k5:=F5.kp;have F6:=u6 w.params;have b6:=F6.binds (ps:=["rooms","room"]) fun _ _ _ _ _ _=>lU fun _ _=>rfl;have m6:=mo a6;have k6:=F6.kp;have F7:=u7 w.params;have b7:=F7.binds (ps:=["rooms","one","other"]) fun _ _ _ _ _ _=>jO fun _ _ _=>rfl;have m7:=mo a7;have k7:=F7.kp;have F8:=u8 w.params;have b8:=F8.binds (ps:=["rooms","one","other"]) fun _ _ _ _ _ _=>jO fun _ _ _=>rfl;have m8:=mo a8;have k8:=F8.kp;have F9:=u9 w.params;have b9:=F9.binds (ps:=["rooms","room"]) fun _ _ _ _ _ _=>lU fun _ _=>rfl;have m9:=mo a9;have k9:=F9.kp;have F10:=u10 w.params;have b10:=F10.binds (ps:=["rooms","room","goals"]) fun _ _ _ _ _ _=>jO fun _ _ _=>rfl;have m10:=mo a10;have k10:=F10.kp;have F11:=Xd w.params;have b11:=F11.binds (ps:=["rooms","room","goals"]) fun _ _ _ _ _ _=>jO fun _ _ _=>rfl;have m11:=mo a11;have k11:=F11.kp;have F12:=u12 w.params;have b12:=F12.binds (ps:=["rooms","under","goals"]) fun _ _ _ _ _ _=>jO fun _ _ _=>rfl;have m12:=mo a12;have k12:=F12.kp;have F13:=u13 w.params;have b13:=F13.binds (ps:=["rooms","under","opening"]) fun _ _ _ _ _ _=>jO fun _ _ _=>rfl;have m13:=mo a13;have k13:=F13.kp;have F14:=u14 w.params;have b14:=F14.binds (ps:=["rooms","told"]) fun _ _ _ _ _ _=>lU fun _ _=>rfl;have m14:=mo a14;have k14:=F14.kp;have F15:=u15 w.params;have b15:=F15.binds (ps:=["rooms","opening","room"]) fun _ _ _ _ _ _=>jO fun _ _ _=>rfl;have m15:=mo a15;have k15:=F15.kp;have F16:=u16 w.params;have b16:=F16.binds (ps:=["rooms","opening","left","kept"]) fun _ _ _ _ _ _=>GC fun _ _ _ _=>rfl;have m16:=mo a16;have k16:=F16.kp;have F17:=u17 w.params;have b17:=F17.binds (ps:=["chart","room","others"]) fun _ _ _ _ _ _=>jO fun _ _ _=>rfl;have m17:=mo a17;have k17:=F17.kp;have F18:=u18 w.params;have b18:=F18.binds (ps:=["chart","stand","event"]) fun _ _ _ _ _ _=>jO fun _ _ _=>rfl;have m18:=mo a18;have k18:=F18.kp;have F19:=u19 w.params;have b19:=F19.binds (ps:=["deed","boxes","sizes"]) fun _ _ _ _ _ _=>jO fun _ _ _=>rfl;have m19:=mo a19;have k19:=F19.kp;have F20:=u20 w.params;have b20:=F20.binds (ps:=["deed","boxes","letters"]) fun _ _ _ _ _ _=>jO fun _ _ _=>rfl;have m20:=mo a20;have k20:=F20.kp;have F21:=u21 w.params;have b21:=F21.binds (ps:=["deeds","boxes","sizes","letters"]) fun _ _ _ _ _ _=>GC fun _ _ _ _=>rfl;have m21:=mo a21;have k21:=F21.kp;have F22:=u22 w.params;have b22:=F22.binds (ps:=["chart"]) fun _ _ _ _ _ _=>yh fun _=>rfl;have m22:=mo a22;have k22:=F22.kp;have F23:=u23 w.params;have b23:=F23.binds (ps:=["record"]) fun _ _ _ _ _ _=>yh fun _=>rfl;have m23:=mo a23;have k23:=F23.kp;have F24:=u24 w.params;have b24:=F24.binds (ps:=["rooms","entered"]) fun _ _ _ _ _ _=>lU fun _ _=>rfl;have m24:=mo a24;have k24:=F24.kp;have F25:=u25 w.params;have b25:=F25.binds (ps:=["rooms","left"]) fun _ _ _ _ _ _=>lU fun _ _=>rfl;have m25:=mo a25;have k25:=F25.kp;have F26:=u26 w.params;have b26:=F26.binds (ps:=["steps","boxes","sizes","letters"]) fun _ _ _ _ _ _=>GC fun _ _ _ _=>rfl;have m26:=mo a26;have k26:=F26.kp;have F27:=u27 w.params;have b27:=F27.binds (ps:=["chart","kept","door"]) fun _ _ _ _ _ _=>jO fun _ _ _=>rfl;have m27:=mo a27;have k27:=F27.kp;have F28:=u28 w.params;have b28:=F28.binds (ps:=["chart","stand","door","letters"]) fun _ _ _ _ _ _=>GC fun _ _ _ _=>rfl;have m28:=mo a28;have k28:=F28.kp;have F29:=u29 w.params;have b29:=F29.binds (ps:=["chart","stand","event","letters"]) fun _ _ _ _ _ _=>GC fun _ _ _ _=>rfl;have m29:=mo a29;have k29:=F29.kp;have F30:=u30 w.params;have b30:=F30.binds (ps:=["chart","stand","record","letters"]) fun _ _ _ _ _ _=>GC fun _ _ _ _=>rfl;have m30:=mo a30;have k30:=F30.kp;have F31:=u31 w.params;have b31:=F31.binds (ps:=["chart"]) fun _ _ _ _ _ _=>yh fun _=>rfl;have m31:=mo a31;have T9:=F31.kp;have F32:=u32 w.params;have b32:=F32.binds (ps:=["chart","stand","event"]) fun _ _ _ _ _ _=>jO fun _ _ _=>rfl;have m32:=mo a32;have k32:=F32.kp;have F33:=u33 w.params;have b33:=F33.binds (ps:=["record"]) fun _ _ _ _ _ _=>yh fun _=>rfl;have m33:=mo a33;have k33:=F33.kp;have F34:=u34 w.params;have b34:=F34.binds (ps:=["rooms","opening"]) fun _ _ _ _ _ _=>lU fun _ _=>rfl;have m34:=mo a34;have k34:=F34.kp;have F35:=Xc w.params;have b35:=F35.binds (ps:=["chart","finds","row","event"]) fun _ _ _ _ _ _=>GC fun _ _ _ _=>rfl;have m35:=mo a35;have k35:=F35.kp;have F36:=u36 w.params;have b36:=F36.binds (ps:=["chart","most"]) fun _ _ _ _ _ _=>lU fun _ _=>rfl;have m36:=mo a36;have k36:=F36.kp;have F37:=u37 w.params;have b37:=F37.binds (ps:=["_law_number","_law_sizes","_law_events"]) fun _ _ _ _ _ _=>jO fun _ _ _=>rfl;have m37:=mo a37;have k37:=F37.kp;have F38:=u38 w.params;have b38:=F38.binds (ps:=["_law_script","_law_k","_law_salt","_law_sizes","_law_events"]) fun _ _ _ _ _ _=>qFE fun _ _ _ _ _=>rfl;have m38:=mo a38;have k38:=F38.kp;have F39:=u39 w.params;have b39:=F39.binds (ps:=["_law_number","_law_sizes","_law_rooms"]) fun _ _ _ _ _ _=>jO fun _ _ _=>rfl;have m39:=mo a39;have k39:=F39.kp;have F40:=u40 w.params;have b40:=F40.binds (ps:=["_law_script"]) fun _ _ _ _ _ _=>yh fun _=>rfl;have m40:=mo a40;have k40:=F40.kp;have F41:=u41 w.params;have b41:=F41.binds (ps:=["_law_found"]) fun _ _ _ _ _ _=>yh fun _=>rfl;have m41:=mo a41;have k41:=F41.kp;have F42:=u42 w.params;have b42:=F42.binds (ps:=["_law_one","_law_other"]) fun _ _ _ _ _ _=>lU fun _ _=>rfl;have m42:=mo a42;have k42:=F42.kp;have F43:=u43 w.params;have b43:=F43.binds (ps:=["_law_found","_law_events","_law_many"]) fun _ _ _ _ _ _=>jO fun _ _ _=>rfl;have m43:=mo a43;have k43:=F43.kp;have F44:=u44 w.params;have b44:=F44.binds (ps:=["_law_chart","_law_way"]) fun _ _ _ _ _ _=>lU fun _ _=>rfl;have m44:=mo a44;have k44:=F44.kp;have F45:=u45 w.params;have b45:=F45.binds (ps:=["_law_chart","_law_found","_law_many"]) fun _ _ _ _ _ _=>jO fun _ _ _=>rfl;have m45:=mo a45;have k45:=F45.kp;have F46:=u46 w.params;have b46:=F46.binds (ps:=["_law_chart","_law_most"]) fun _ _ _ _ _ _=>lU fun _ _=>rfl;have m46:=mo a46;have k46:=F46.kp;have F47:=u47 w.params;have b47:=F47.binds (ps:=["_law_chart","_law_most"]) fun _ _ _ _ _ _=>lU fun _ _=>rfl;have m47:=mo a47;have k47:=F47.kp;have F48:=u48 w.params;have b48:=F48.binds (ps:=["_law_chart","_law_most"]) fun _ _ _ _ _ _=>lU fun _ _=>rfl;have m48:=mo a48;have k48:=F48.kp;have F49:=u49 w.params;have b49:=F49.binds (ps:=["_law_script"]) fun _ _ _ _ _ _=>yh fun _=>rfl;have m49:=mo a49;have k49:=F49.kp;have F50:=u50 w.params;have XR:=qA6 w.params;have XC:=XR.binds (ps:=["self","most"]) fun _ _ _ _ _ _=>lU fun _ _=>rfl;have qE8:Mk (KO w.params) 234 210:=⟨(qBK w.params).1,qE3 w.params,qBX w.params,(qBK w.params).2⟩;have Sq:=qA5 w.params;have qDX:=Sq.binds (ps:=["self","event"]) fun _ _ _ _ _ _=>lU fun _ _=>rfl;have qBN:Meth (KO w.params) 234 "add" 217:=⟨qE2 w.params,qBW w.params,Sq.kp⟩;have Sh:=qA4 w.params;have qDW:=Sh.binds (ps:=["self"]) fun _ _ _ _ _ _=>yh fun _=>rfl;have qBM:Meth (KO w.params) 234 "taken" 224:=⟨qE1 w.params,qBV w.params,Sh.kp⟩;have Sg:=qA3 w.params;have qDV:=Sg.binds (ps:=["self"]) fun _ _ _ _ _ _=>yh fun _=>rfl;have qBL:Meth (KO w.params) 234 "waiting" 231:=⟨qE0 w.params,qBU w.params,Sg.kp⟩;have XQ:=qA2 w.params;have qDU:=XQ.binds (ps:=["self","most"]) fun _ _ _ _ _ _=>lU fun _ _=>rfl;have qGG:Mk (KO w.params) 399 389:=⟨(qBJ w.params).1,qDZ w.params,qBT w.params,(qBJ w.params).2⟩;have SX:=qA1 w.params;have X8:=SX.binds (ps:=["self","stand","path"]) fun _ _ _ _ _ _=>jO fun _ _ _=>rfl;have Wq:Meth (KO w.params) 399 "row_of" 396:=⟨qDY w.params,qBS w.params,SX.kp⟩;have XN:=qA0 w.params;have qDT:=XN.binds (ps:=["self","ways"]) fun _ _ _ _ _ _=>lU fun _ _=>rfl;have Df:=Df w.params;have mC0:=mo aC0;have oX:=oX w.params;have eE:=eE w.params;have Nt:=Nt w.params;have mC1:=mo aC1;have oW:=oW w.params;have dz:=dz w.params;have j6:=j6 w.params;have iT:=iT w.params;have mC2:=mo aC2;have mC3:=mo aC3;have mC4:=mo aC4;have mC5:=mo aC5;have mC6:=mo aC6;have mC7:=mo aC7;have mC8:=mo aC8;have mC9:=mo aC9;have fJ:=mz z1;have qBI:=mz z2;have n_min:=mz z3;have gQ:=mz z4;have nH:=mz z5;have cW:=mz z6;have fK:=mz z7;have Qj:=mz z8;have Yd:=mz z9;have nF:=mz z10;have Qk:=mz z11;have Ft:=mz z12;have n_str:=mz z13;have Cg:=mz z14;have XM:=ap (jP.Uy XR Df oX eE);have qEF:=ap (jP.YW Sq Df oX eE fJ);have qEE:=ap (jP.QQ Sh Df eE fJ);have qED:=ap (jP.Ie Sg Df eE nH);have qEB:=ap (Us XN (xJ w.params) (lV w.params) mC3 (fE1 w.params) (fE2 w.params) (fE3 w.params) nH);have qEC:=ap (YS XQ Nt oW dz j6 iT);have XJ:=ap (YM SX Nt oW dz j6 iT (xJ w.params) (JQ w.params) mC2 qEB.cx qDT fJ);have G1:=ap (V2 F1 fJ);have G2:=ap (QR F2 G1 b1 k1 m1 fJ qBI);have G3:=ap (Mf F3 b3 m3);have G4:=ap (Bb.Io F4 ⟨G3,b3,k3,m3⟩ Ft);have G5:=ap (jP.YT F5 gQ fJ);have G6:=ap (jP.Ma F6 gQ);have G7:=ap (jP.Uw F7 ⟨G5,b5,k5,m5⟩);have G8:=ap (jP.Uz F8 ⟨(G6.mono (show 1<=2 by decide)),b6,k6,m6⟩ ⟨G7,b7,k7,m7⟩);have G9:=ap (jP.Ux F9 ⟨G5,b5,k5,m5⟩ gQ);have G10:=ap (jP.yf F10 ⟨G5,b5,k5,m5⟩ Qk);have G11:=ap (jP.Ij F11 ⟨G9,b9,k9,m9⟩ ⟨G10,b10,k10,m10⟩);have G12:=ap (jP.Ca F12 ⟨G11,b11,k11,m11⟩ fJ nF);have G13:=ap (jP.yd F13 ⟨G5,b5,k5,m5⟩ nF);have G14:=ap (jP.yc F14 cW);have G15:=ap (jP.Ik F15 ⟨G13,b13,k13,m13⟩ ⟨(G14.mono (show 1<=2 by decide)),b14,k14,m14⟩ nF cW);have G16:=ap (jP.Il F16 ⟨G15,b15,k15,m15⟩ nH cW);have G17:=ap (Bb.Ii F17 ⟨G7,b7,k7,m7⟩ Qk);have G18:=ap (Bb.Mg F18 ⟨G4,b4,k4,m4⟩ ⟨(G17.mono (show 3<=4 by decide)),b17,k17,m17⟩ nF);have G19:=ap (jP.Im F19);have G20:=ap (jP.Fg F20 Df qBN qEF qDX);have G21:=ap (jP.V1 F21 ⟨(G19.mono (show 1<=2 by decide)),b19,k19,m19⟩ ⟨G20,b20,k20,m20⟩);have G22:=ap (Ru.Ff F22 cW);have G23:=ap (Ru.yZ F23);have G24:=ap (Ru.Fe F24);have G25:=ap (Ru.CZ F25);have G26:=ap (Ru.Ig F26 ⟨G21,b21,k21,m21⟩);have G27:=ap (Ru.Fj F27 fJ nH);have G28:=ap (Ru.MT F28 ⟨(G8.mono (show 3<=4 by decide)),b8,k8,m8⟩ ⟨(G13.mono (show 2<=4 by decide)),b13,k13,m13⟩ ⟨G16,b16,k16,m16⟩ ⟨G12,b12,k12,m12⟩ ⟨(G27.mono (show 1<=4 by decide)),b27,k27,m27⟩ ⟨(G25.mono (show 1<=4 by decide)),b25,k25,m25⟩ ⟨(G24.mono (show 1<=4 by decide)),b24,k24,m24⟩ ⟨G26,b26,k26,m26⟩ ⟨(G22.mono (show 1<=4 by decide)),b22,k22,m22⟩ cW nF);have G29:=ap (Ru.Ur F29 ⟨G18,b18,k18,m18⟩ ⟨G28,b28,k28,m28⟩ ⟨(G23.mono (show 1<=5 by decide)),b23,k23,m23⟩);have G30:=ap (Ru.MP F30 Df qBM (qEE.mono (show 1<=6 by decide)) qDW qBL (qED.mono (show 1<=6 by decide)) qDV ⟨G29,b29,k29,m29⟩ fJ nH);have G31:=ap (Ru.QX F31 qE8 (XM.mono (show 1<=6 by decide)) XC mC0 ⟨(G12.mono (show 4<=7 by decide)),b12,k12,m12⟩ ⟨(G26.mono (show 4<=7 by decide)),b26,k26,m26⟩ ⟨(G24.mono (show 1<=7 by decide)),b24,k24,m24⟩ ⟨(G22.mono (show 1<=7 by decide)),b22,k22,m22⟩ ⟨G30,b30,k30,m30⟩ cW fJ);have G32:=ap (Ru.Qa F32 Df qE8 (XM.mono (show 1<=6 by decide)) XC mC0 ⟨(G29.mono (show 6<=7 by decide)),b29,k29,m29⟩ ⟨G30,b30,k30,m30⟩);have G33:=ap (Ru.Ut F33);have G34:=ap (QS F34 cW);have G35:=ap (Uu F35 Nt dz j6 Wq ⟨G32,b32,k32,m32⟩ ⟨(G33.mono (show 1<=8 by decide)),b33,k33,m33⟩ (XJ.mono (show 3<=8 by decide)) X8 cW);have G36:=ap (V0 F36 Nt dz Wq qGG (qEC.mono (show 1<=8 by decide)) qDU mC1 ⟨(G31.mono (show 8<=9 by decide)),b31,T9,m31⟩ ⟨(G33.mono (show 1<=9 by decide)),b33,k33,m33⟩ (XJ.mono (show 3<=9 by decide)) X8 ⟨G35,b35,k35,m35⟩ ⟨(G34.mono (show 1<=9 by decide)),b34,k34,m34⟩ fJ gQ cW);have G37:=ap (pA.yX F37 fJ);have G38:=ap (pA.wJ F38 ⟨G2,b2,k2,m2⟩ ⟨(G37.mono (show 1<=2 by decide)),b37,k37,m37⟩ gQ cW);have G39:=ap (pA.wI F39 fJ);have G40:=ap (pA.QW F40 ⟨(G2.mono (show 2<=3 by decide)),b2,k2,m2⟩ ⟨G38,b38,k38,m38⟩ ⟨(G39.mono (show 1<=3 by decide)),b39,k39,m39⟩ fJ gQ cW);have G41:=ap (QM F41 fK Qj Yd);have G42:=ap (Wy.Mh F42 fJ gQ);have G43:=ap (MN F43 ⟨G41,b41,k41,m41⟩ ⟨G42,b42,k42,m42⟩ fJ gQ cW nH fK);have G44:=ap (MK F44 ⟨G31,b31,T9,m31⟩ ⟨G32,b32,k32,m32⟩);have G45:=ap (ye F45 ⟨(G43.mono (show 2<=9 by decide)),b43,k43,m43⟩ ⟨G44,b44,k44,m44⟩ ⟨(G42.mono (show 1<=9 by decide)),b42,k42,m42⟩ ⟨(G32.mono (show 8<=9 by decide)),b32,k32,m32⟩ fJ gQ);have G46:=ap (Ih F46 ⟨G36,b36,k36,m36⟩ mC3 mC2 mC4 mC5 mC6 mC7 mC8 mC9 fK Cg (DK w.params) (lW w.params) (fV1 w.params) (fV2 w.params) (fV3 w.params));have G47:=ap (Fd F47 ⟨G36,b36,k36,m36⟩ mC2 (qF w.params) (lW w.params) (lV w.params));have G48:=ap (QZ F48 ⟨(G36.mono (show 10<=11 by decide)),b36,k36,m36⟩ ⟨(G45.mono (show 10<=11 by decide)),b45,k45,m45⟩ ⟨G46,b46,k46,m46⟩ ⟨G47,b47,k47,m47⟩ mC2 (qF w.params) (lW w.params) (lV w.params) fJ cW nH Qj fK);have G49:=ap (Uv F49 ⟨(G2.mono (show 2<=10 by decide)),b2,k2,m2⟩ ⟨G36,b36,k36,m36⟩ mC2 (qF w.params) (lW w.params) (lV w.params) fJ gQ Qk cW nH fK);exact YQ (m':=12) F50 ⟨(G2.mono (show 2<=12 by decide)),b2,k2,m2⟩ ⟨(G49.mono (show 11<=12 by decide)),b49,k49,m49⟩ ⟨(G40.mono (show 4<=12 by decide)),b40,k40,m40⟩ ⟨G48,b48,k48,m48⟩ Qj
theorem walk:PySem.W.WalkO QV LS (PySem.W.XL QV []) HK.says PySem.Challenge.rw_nesthall_k33_too_wide.row.toRowW JX [] (fun f vs=>PySem.call f vs):=by
 refine L2.Tf (l:=PySem.Challenge.rw_nesthall_k33_too_wide) (n:=63) (k:=13) (x := "_law_script") (K:=KO) (CX:=fun _=>aZ) (sp:=fun w=>PL (KO w.params)) rfl (by decide) rfl ⟨rfl,by decide,by decide⟩ (fun w h Y=>Y) ?_ (fun _ _ a ns hl _ hS=>⟨a,ns,rfl,hS,hl,fun _ _=>rfl⟩) fun _ _ _ _ _ z=>z;intro w mg fa h KX G hmg;have e:=hmg.symm.trans (PySem.W.mg_of KX G (a50 w.params))
 cases e
 exact⟨Vg,fun s v=>.of_eq rfl,fun base _ _=>law_ok KX G⟩
end xR
open PySem PySem.W PyProof.Rows
set_option maxRecDepth 100000 in
set_option maxHeartbeats 0 in
theorem PySem.Challenge.cw_nesthall_k33_too_wide_holds : PySem.Challenge.rw_nesthall_k33_too_wide.Holds := by
 refine holds_law xR.said fun said=>?_;refine PySem.W.holds_open (r:=PySem.Challenge.rw_nesthall_k33_too_wide.row) xR.left xR.HK.of xR.HK.keeps
  (fun s e=>xl_of s (Bool.and_eq_true_iff.mp e).1) XL.keeps xR.hdef xR.hthe xR.hkw
  (fun s e=>recFacts_of (Bool.and_eq_true_iff.mp e).2) rfl said xR.hok xR.hbare ?hw xR.walk
 case hw=>w_witness2
