import PyProof.Rows.All
import Wide.All
import OpenK.AllK
import Wide.FinOn
import PyProof.EqAt
import PyProof.EqKinds
import PyProof.TupleCall
import PyProof.P3In
import PyProof.NeData
import PyProof.ConsumeS
import PyProof.WalksMore
import PyProof.ReprRoads
import PyProof.ReprLen
import PyProof.Draws
import PyProof.EnumMake
import PyProof.EnumFor
import PyProof.CallFns
import PyProof.Rows.CallKwBuiltin
import Lean
import PyProof.ZipIter
import KE.KIntText
import PyProof.FString
import PyProof.StrWalks
import PyProof.MeetsStr
import PyProof.StrBlockG
import PyProof.StrLawsTight
import PySem.Challenge.RW_rootwebs_k70_webs_written
set_option Elab.async false
set_option linter.all false
set_option maxHeartbeats 1000000
set_option maxHeartbeats 2000000
set_option maxHeartbeats 400000
set_option maxHeartbeats 4000000
set_option maxRecDepth 100000
noncomputable section
abbrev Gj:=@Option.some.inj
abbrev Gk:=@PySem.Value.isInt_shape
abbrev Gm:=@decide_eq_false
abbrev Gn:=@beq_eq_false_iff_ne
abbrev Gp:=@PySem.wpAny_eqBool_int
abbrev Gq:=@if_pos
abbrev Gr:=@if_neg
abbrev Gs:=@PySem.Heap.lt_size
abbrev Gu:=@Nat.lt_of_lt_of_le
abbrev Gv:=@Nat.lt_irrefl
abbrev Gw:=@Nat.ne_of_lt
abbrev Gx:=@List.mem_filter
abbrev Gy:=@List.mem_range
abbrev Gz:=@Nat.le_trans
abbrev GA:=@Nat.le_of_lt
abbrev GB:=@List.filterMap_cons
abbrev GC:=@List.mem_cons_self
abbrev GD:=@List.mem_cons_of_mem
abbrev GE:=@List.mem_cons
abbrev GF:=@Ne.symm
abbrev GG:=@List.mem_append
abbrev GH:=@List.mem_append_left
abbrev GI:=@List.getElem?_eq_some_iff
abbrev GJ:=@List.getElem_inj
abbrev GK:=@List.getElem?_set_self
abbrev GL:=@List.getElem?_set_ne
abbrev GM:=@PySem.wpAny_mono
abbrev GN:=@PySem.wpAny_truthy_bool
abbrev GO:=@Array.length_toList
abbrev GP:=@congrArg
abbrev GQ:=@PySem.wpAny_execs_nil
abbrev GR:=@PySem.wpAny_bind
abbrev GS:=@PySem.wpAny_holding
abbrev GT:=@PySem.wpAny_standAt
abbrev GU:=@Nat.ne_of_gt
abbrev GV:=@PySem.wpAny_pure
abbrev GX:=@PySem.wpAny_load
abbrev GY:=@PySem.Heap.get?_push_of_some
abbrev GZ:=@PySem.Heap.get?_push_size
abbrev G0:=@Nat.le_refl
abbrev G1:=@PyProof.Rows.callWith_type1
abbrev G2:=@List.mem_filterMap
abbrev G3:=@List.mem_append_right
abbrev G4:=@PySem.wpAny_passesOwn
abbrev G5:=@Bool.eq_iff_iff
abbrev G6:=@Bool.false_ne_true
abbrev G7:=@List.size_toArray
abbrev G8:=@List.append_nil
abbrev G9:=@PySem.codeAny_mono
abbrev Hb:=@PySem.wpAny_Call_Name_kw
abbrev Hc:=@List.nodup_cons
abbrev Hd:=@List.of_mem_zip
abbrev He:=@Option.isSome_iff_exists
abbrev Hf:=@List.length_take
abbrev Hg:=@PySem.mem_of_lookup
abbrev Hh:=@List.getElem?_append_right
abbrev Hi:=@List.getElem?_append_left
abbrev Hj:=@List.getElem?_map
abbrev Hk:=@List.mem_of_getElem?
abbrev Hl:=@List.length_append
abbrev Hm:=@List.length_map
abbrev Hn:=@PySem.noFill_tuple_add
abbrev Ho:=@PySem.F.slot_tuple_add
abbrev Hq:=@PySem.F.entry_tuple_add
abbrev Hr:=@PySem.F.args_tuple_add_2
abbrev Hs:=@Int.toNat_natCast
abbrev Ht:=@Nat.min_le_right
abbrev Hu:=@if_false
abbrev Hv:=@if_true
abbrev Hw:=@PySem.wpAny_field
abbrev Hx:=@PySem.wpAny_callSpecial?_slot
abbrev Hy:=@PyProof.Rows.slot_tuple_getitem
abbrev HA:=@PySem.wpAny_call_entry
abbrev HB:=@PySem.wpAny_typeOf
abbrev HC:=@Bool.and_eq_true
abbrev HD:=@PySem.wpAny_newObj_type
abbrev HE:=@List.map_nil
abbrev HF:=@List.map_cons
abbrev HG:=@PySem.typeIs_str
abbrev HH:=@PySem.Heap.get?_update_self
abbrev HI:=@List.replicate_succ
abbrev HJ:=@List.flatten_cons
abbrev HK:=@List.append_assoc
abbrev HL:=@List.foldl_cons
abbrev HM:=@PySem.call_meets
abbrev HN:=@List.length_singleton
abbrev HP:=@List.nil_append
abbrev HQ:=@decide_eq_true
abbrev HR:=@List.lookup_cons
abbrev HS:=@beq_self_eq_true
abbrev HU:=@Bool.false_eq_true
abbrev HV:=@List.length_cons
abbrev HW:=@Nat.lt_succ_self
abbrev HX:=@Nat.lt_succ_of_lt
abbrev HY:=@PySem.Heap.size_push
abbrev HZ:=@PySem.pushCells_keeps
abbrev Ib:=@PySem.codeAny_of_tree
abbrev Ic:=@PySem.wpAny_askSetting
abbrev Ie:=@PySem.wpAny_rule
abbrev Ig:=@Nat.zero_le
abbrev Ih:=@List.mem_singleton
abbrev Ii:=@PySem.F.slot_tuple_iterator_next
abbrev Ij:=@PySem.F.entry_tuple_iterator_next
abbrev Ik:=@PySem.F.args_tuple_iterator_next_1
abbrev Il:=@PySem.wpAny_seqItems
abbrev Im:=@PySem.Heap.SameBut.update
abbrev Io:=@PySem.wpAny_of_eq
abbrev Ip:=@PySem.wpAny_pyIter_tuple
abbrev Iq:=@List.not_mem_nil
abbrev Ir:=@or_false
abbrev Iu:=@Array.getElem?_toList
abbrev Iv:=@PySem.Heap.get?_push_ne
abbrev Iw:=@Nat.le_succ
abbrev Iy:=@List.range_succ_eq_map
abbrev Iz:=@List.map_map
abbrev IA:=@List.map_congr_left
abbrev IC:=@List.length_range
abbrev ID:=@List.length_nil
abbrev IE:=@List.cons.inj
abbrev IF:=@List.cons_append
abbrev IG:=@List.pairwise_iff_getElem
abbrev IH:=@Array.getElem?_eq_some_iff
abbrev II:=@List.take_of_length_le
abbrev IJ:=@List.mem_map
abbrev IK:=@Nat.le_of_lt_succ
abbrev IL:=@Classical.byContradiction
abbrev IM:=@List.nodup_range
abbrev IP:=@List.getElem?_of_mem
abbrev IQ:=@List.mem_map_of_mem
abbrev IR:=@List.take_append_drop
abbrev IS:=@List.pairwise_cons
abbrev IT:=@List.map_append
abbrev IU:=@List.map_take
abbrev IV:=@List.map_drop
abbrev IW:=@Array.getD_eq_getD_getElem?
abbrev IX:=@Option.getD_some
abbrev IY:=@List.mem_of_mem_take
abbrev IZ:=@Array.getElem?_eq_none_iff
abbrev I0:=@List.nodup_nil
abbrev Ja:=@Nat.sub_self
abbrev Jb:=@Array.toList_map
abbrev Jc:=@Array.getElem?_eq_getElem
abbrev Jd:=@List.all_eq_true
abbrev Je:=@Bool.not_true
abbrev Jf:=@PySem.wpAny_forIn_list
abbrev Jg:=@PySem.wpAny_setState_of
abbrev Jh:=@Bool.and_self
abbrev Ji:=@Array.mem_toList_iff
abbrev Jj:=@List.nodup_append
abbrev Jk:=@PySem.wpAny_storeSet_of
abbrev Jl:=@PySem.putSet_of
abbrev Jm:=@Bool.not_false
abbrev Jn:=@PySem.codeAny_builtin
abbrev Jo:=@PySem.Around.under_plainId
abbrev Jp:=@PyProof.Rows.F.plain_set_update_loop
abbrev Jq:=@PySem.isSubtype_type
abbrev Jr:=@PySem.F.called_set
abbrev Js:=@PySem.Code.quiet_builtin
abbrev Jt:=@PySem.wpAny_pyIter_list
abbrev Ju:=@PySem.wpAny_runValue
abbrev Jv:=@List.take_add_one
abbrev Jw:=@List.take_length
abbrev Jx:=@PySem.W.KasT.kasWp_bind
abbrev Jy:=@Array.toList_inj
abbrev Jz:=@decide_eq_decide
abbrev JA:=@List.getD_eq_getElem?_getD
abbrev JB:=@List.ext_getElem?
abbrev JC:=@List.getElem?_range
abbrev JD:=@List.getElem?_eq_none
abbrev JE:=@List.pairwise_map
abbrev JF:=@PyProof.Rows.listItems_at
abbrev JG:=@PyProof.Rows.listUpdate_at
abbrev JH:=@PyProof.Rows.get?_update_seq
abbrev JI:=@PyProof.Rows.seqEpoch_at
abbrev JJ:=@PySem.wpAny_newList
abbrev JK:=@PyProof.Rows.size_push'
abbrev JL:=@PySem.Heap.size_update
abbrev JM:=@PySem.Heap.get?_update_ne
abbrev JN:=@bne_self_eq_false
abbrev JO:=@List.Perm.refl
abbrev JP:=@List.getElem_mem
abbrev JQ:=@List.getElem?_eq_getElem
abbrev JR:=@PySem.wpAny_setEntries_of
abbrev JS:=@PySem.wpAny_setField_rec
abbrev JT:=@PySem.Calls.call_function_entry
abbrev JU:=@PyProof.Rows.kind_sorted
abbrev JV:=@PyProof.Rows.plain_sorted
abbrev JW:=@PyProof.Rows.entry_sorted
abbrev JX:=@PyProof.Rows.args_sorted1
abbrev JY:=@PyProof.Rows.slot_list_sort
abbrev JZ:=@PyProof.Rows.entry_list_sort
abbrev J0:=@PyProof.Rows.args_list_sort
abbrev J1:=@of_eq_true
abbrev J2:=@eq_self
abbrev J3:=@decide_eq_true_eq
abbrev J4:=@List.zip_cons_cons
abbrev J5:=@List.eq_nil_of_length_eq_zero
abbrev J6:=@List.all_cons
abbrev J7:=@List.all_map
abbrev J8:=@Int.le_antisymm
abbrev J9:=@List.set_append_right
abbrev Ka:=@List.filter_cons
abbrev Kb:=@Int.pow_pos
abbrev Kc:=@Int.mul_le_mul_of_nonneg_right
abbrev Kd:=@ne_true_of_eq_false
abbrev Ke:=@PySem.F.slot_str_split
abbrev Kf:=@PySem.F.entry_str_split
abbrev Kg:=@PySem.F.args_str_split_2
abbrev Kh:=@PySem.PassesOwn.never
abbrev Ki:=@Int.emod_nonneg
abbrev Kj:=@Int.emod_lt_of_pos
abbrev Kk:=@List.set_cons_succ
abbrev Kl:=@List.set_cons_zero
abbrev Km:=@List.mem_flatMap
abbrev Kn:=@List.filter_eq_self
abbrev Ko:=@beq_iff_eq
abbrev Kq:=@List.length_filter_le
abbrev Kr:=@List.flatMap_cons
abbrev Ks:=@Nat.mul_le_mul_right
abbrev Kt:=@List.flatMap_nil
abbrev Ku:=@PySem.Str.length_append
namespace L2
open PySem PySem.Spec PyProof.Rows
def c5(s:Stmt):Arguments:=match s with
 |.FunctionDef _ a _ _ _ _ _ _ _ _=>a
 |_=>{posonlyargs:=[],args:=[],vararg:=none,kwonlyargs:=[],kw_defaults:=[],kwarg:=none,defaults:=[]}
def bP(s:Stmt):List Stmt:=match s with
 |.FunctionDef _ _ b _ _ _ _ _ _ _=>b
 |_=>[]
def ar(s:Stmt):Scope:=match s with
 |.FunctionDef _ _ _ _ _ _ sc _ _ _=>sc
 |_=>{kind:=.function,names:=[],isGenerator:=false,isCoroutine:=false}
end L2
namespace Lw
open PySem PySem.Spec PyProof.Rows L2
def top(i:Nat):Stmt:=PySem.Challenge.pw_rootwebs_k70_webs_written.main.body.getD i (.Pass ⟨0,0,0,0⟩)
abbrev fY:Stmt:=top 4
abbrev c6:Stmt:=top 5
abbrev fZ:Stmt:=top 6
abbrev d8:Stmt:=top 7
abbrev d7:Stmt:=top 8
abbrev gW:Stmt:=top 11
abbrev gU:Stmt:=top 14
abbrev iS:Stmt:=top 13
abbrev fL:Stmt:=top 12
abbrev d9:Stmt:=top 18
abbrev bt:Stmt:=top 19
abbrev d6:Stmt:=top 20
abbrev fX:Stmt:=top 21
abbrev dD:Stmt:=top 23
abbrev fy:Stmt:=top 24
abbrev eA:Stmt:=top 25
abbrev fA:Stmt:=top 26
abbrev eR:Stmt:=top 27
abbrev cW:Stmt:=top 28
abbrev bS:Stmt:=top 29
abbrev cH:Stmt:=top 30
abbrev cb:Stmt:=top 31
abbrev cI:Stmt:=top 32
abbrev cf:Stmt:=top 33
abbrev bG:Stmt:=top 34
abbrev ef:Stmt:=top 35
abbrev cG:Stmt:=top 36
abbrev jg:Stmt:=top 37
def en(P:Params)(n:Str)(t:Tok)(v:Value):DictEntry:=⟨PyData.keyHash P n,.str n t,v⟩
def fo (n:Str) (st:Stmt) (m:Str) (t:Tok) (c:Addr):Obj:=⟨.type "function",none,.func (W.fnOf n n (c5 st) (bP st) (ar st) .none .none .none (.str m t) none (.ref c) .none),#[]⟩
def co (n:Str) (t:Tok) (l k i:Int) (a:Addr) (p:Bool) (u:Nat):Obj:=⟨.type "code",none,.fields #[.str n t,.str n (t+1),.str "/claim/cut.py" (t+2),.int l 0,.int k 0,.int 0 0,.int 0 0,.int 3 0,.ref a,.bool true,.int i 0,.ref (a+1),.none,bif p then .ref (a+2) else .none,bif p then .ref (a+3) else .none,.ref (bif p then a+4 else a+2),.int u 0,.int l 0,.str "/claim/cut.py" (u+1)],#[]⟩
def Kz (P:Params):W.Frag:=[(3,⟨.type "dict",none,.dict #[en P "__name__" 165 (.str "law_rootwebs_k70_webs_written" 342),en P "__doc__" 166 .none,en P "__package__" 167 .none,en P "__loader__" 168 (.builtin "__main__.__loader__#opaque"),en P "__spec__" 169 .none,en P "__annotations__" 170 (.ref 6),en P "__builtins__" 171 (.ref 4),en P "__file__" 173 (.str "/claim/cut.py" 172),en P "__cached__" 174 .none,en P "RootError" 206 (.ref 24),en P "NoText" 231 (.ref 44),en P "is_whole" 240 (.ref 53),en P "is_whole_from" 249 (.ref 60),en P "is_place" 257 (.ref 67),en P "is_places" 263 (.ref 72),en P "is_rising" 269 (.ref 77),en P "MOST_PLACES" 273 (.int 6 272),en P "is_many" 280 (.ref 84),en P "is_ties" 286 (.ref 89),en P "is_tie" 294 (.ref 96),en P "is_pair" 302 (.ref 103),en P "FIGURES" 306 (.str "0123456789" 305),en P "MOST_FIGURES" 308 (.int 20 307),en P "is_number" 314 (.ref 108),en P "numbers_behind" 320 (.ref 113),en P "web_shown" 326 (.ref 118),en P "web_read" 341 (.ref 125),en P "_law_cell_at" 351 (.ref 132),en P "_law_next" 358 (.ref 139),en P "_law_pen_of" 366 (.ref 146),en P "_law_draw" 375 (.ref 153),en P "_law_whole" 382 (.ref 160),en P "_law_web_of" 388 (.ref 165),en P "_law_drawn_web" 394 (.ref 170),en P "_law_near_of" 400 (.ref 175),en P "_law_two_step" 406 (.ref 180),en P "_law_any_web" 412 (.ref 185),en P "_law_all_tied" 418 (.ref 190),en P "_law_tuples_are" 424 (.ref 195),en P "_law_web_is" 432 (.ref 202),en P "_law_text_of" 438 (.ref 207),en P "law" 450 (.ref 214)] 42,#[]⟩),
 (52,co "is_whole" 234 9 1 181 47 true 238),
 (53,fo "is_whole" fY "rootwebs.kinds" 232 52),
 (59,co "is_whole_from" 241 11 3 181 54 true 247),
 (60,fo "is_whole_from" c6 "rootwebs.kinds" 232 59),
 (66,co "is_place" 250 13 2 181 61 true 255),
 (67,fo "is_place" fZ "rootwebs.kinds" 232 66),
 (71,co "is_places" 258 15 2 181 68 false 261),
 (72,fo "is_places" d8 "rootwebs.kinds" 232 71),
 (76,co "is_rising" 264 17 1 181 73 false 267),
 (77,fo "is_rising" d7 "rootwebs.kinds" 232 76),
 (83,co "is_many" 274 21 1 181 78 true 278),
 (84,fo "is_many" gW "rootwebs.webs" 270 83),
 (88,co "is_ties" 281 23 2 181 85 false 284),
 (89,fo "is_ties" fL "rootwebs.webs" 270 88),
 (95,co "is_tie" 287 25 2 181 90 true 292),
 (96,fo "is_tie" iS "rootwebs.webs" 270 95),
 (102,co "is_pair" 295 27 2 181 97 true 300),
 (103,fo "is_pair" gU "rootwebs.webs" 270 102),
 (107,co "is_number" 309 32 1 181 104 false 312),
 (108,fo "is_number" d9 "rootwebs.texts" 303 107),
 (112,co "numbers_behind" 315 36 3 181 109 false 318),
 (113,fo "numbers_behind" bt "rootwebs.texts" 303 112),
 (117,co "web_shown" 321 41 1 181 114 false 324),
 (118,fo "web_shown" d6 "rootwebs.texts" 303 117),
 (124,co "web_read" 327 44 1 181 119 true 339),
 (125,fo "web_read" fX "rootwebs.texts" 303 124),
 (131,co "_law_cell_at" 344 62 2 181 126 true 349),
 (132,fo "_law_cell_at" dD "law_rootwebs_k70_webs_written" 342 131),
 (138,co "_law_next" 352 66 1 181 133 true 356),
 (139,fo "_law_next" fy "law_rootwebs_k70_webs_written" 342 138),
 (145,co "_law_pen_of" 359 69 1 181 140 true 364),
 (146,fo "_law_pen_of" eA "law_rootwebs_k70_webs_written" 342 145),
 (152,co "_law_draw" 367 72 2 181 147 true 373),
 (153,fo "_law_draw" fA "law_rootwebs_k70_webs_written" 342 152),
 (159,co "_law_whole" 376 79 1 181 154 true 380),
 (160,fo "_law_whole" eR "law_rootwebs_k70_webs_written" 342 159),
 (164,co "_law_web_of" 383 81 2 181 161 false 386),
 (165,fo "_law_web_of" cW "law_rootwebs_k70_webs_written" 342 164),
 (169,co "_law_drawn_web" 389 83 2 181 166 false 392),
 (170,fo "_law_drawn_web" bS "law_rootwebs_k70_webs_written" 342 169),
 (174,co "_law_near_of" 395 90 2 181 171 false 398),
 (175,fo "_law_near_of" cH "law_rootwebs_k70_webs_written" 342 174),
 (179,co "_law_two_step" 401 92 1 181 176 false 404),
 (180,fo "_law_two_step" cb "law_rootwebs_k70_webs_written" 342 179),
 (184,co "_law_any_web" 407 99 2 181 181 false 410),
 (185,fo "_law_any_web" cI "law_rootwebs_k70_webs_written" 342 184),
 (189,co "_law_all_tied" 413 113 1 181 186 false 416),
 (190,fo "_law_all_tied" cf "law_rootwebs_k70_webs_written" 342 189),
 (194,co "_law_tuples_are" 419 118 2 181 191 false 422),
 (195,fo "_law_tuples_are" bG "law_rootwebs_k70_webs_written" 342 194),
 (201,co "_law_web_is" 425 122 2 181 196 true 430),
 (202,fo "_law_web_is" ef "law_rootwebs_k70_webs_written" 342 201),
 (206,co "_law_text_of" 433 126 1 181 203 false 436),
 (207,fo "_law_text_of" cG "law_rootwebs_k70_webs_written" 342 206),
 (213,co "law" 439 129 1 181 208 true 448),
 (214,fo "law" jg "law_rootwebs_k70_webs_written" 342 213)]
def Qz:Program:=W.view PySem.Challenge.pw_rootwebs_k70_webs_written [1,2,4,5,6,7,8,10,11,12,13,14,16,17,18,19,20,21,23,24,25,26,27,28,29,30,31,32,33,34,35,36,37]
noncomputable abbrev Hz:W.Hook:=W.kHook Kz [3,52,53,59,60,66,67,71,72,76,77,83,84,88,89,95,96,102,103,107,108,112,113,117,118,124,125,131,132,138,139,145,146,152,153,159,160,164,165,169,170,174,175,179,180,184,185,189,190,194,195,201,202,206,207,213,214] fun _=>by kernel_rfl
theorem Bl:PySem.Challenge.rw_rootwebs_k70_webs_written.wellSaid=true:=by kernel_rfl
noncomputable abbrev Xz(s:Shared):Bool:=W.xlAt Qz [] s&&W.recOk (W.RowW.records (W.OpenRow.toRowW (W.OpenLaw.row PySem.Challenge.rw_rootwebs_k70_webs_written))) s
theorem rJ{σ α β γ δ ε:Type _}{o:Option σ}(F:σ->α×β×γ×δ)(G:σ->ε)(g:α×β×γ×δ)(v:ε)
  (h1:o.map (fun s=>(F s).1)=some g.1) (h2:o.map (fun s=>((F s).2.1,(F s).2.2.1))=some (g.2.1,g.2.2.1)) (h3:o.map (fun s=>(F s).2.2.2)=some g.2.2.2)
  (h4:o.map G=some v):o.map (fun s=>(F s,G s))=some (g,v):=by
 cases o with
 |none=>cases h4
 |some s=>
  have e1:(F s).1=g.1:=Gj h1;have e2:((F s).2.1,(F s).2.2.1)=(g.2.1,g.2.2.1):=Gj h2;have e3:(F s).2.2.2=g.2.2.2:=Gj h3;have e4:G s=v:=Gj h4;have e5:(F s).2.1=g.2.1:=(Prod.mk.inj e2).1;have e6:(F s).2.2.1=g.2.2.1:=(Prod.mk.inj e2).2;have e:F s=g:=Prod.ext e1 (Prod.ext e5 (Prod.ext e6 e3));show some (F s,G s)=some (g,v);rw[e,e4]
noncomputable abbrev Oz(w:World):=W.openEnds PySem.treeTable PySem.Challenge.rw_rootwebs_k70_webs_written.row.prog w 2718
noncomputable abbrev Sz:=W.openSeen Qz [] (PySem.importedModules PySem.Challenge.rw_rootwebs_k70_webs_written.row.prog.main.body) Xz true
noncomputable abbrev Tz:=W.openGood Qz []
theorem yH:∀w,(Oz w).map (fun s=>(Sz s).1)=some Tz.1:=fun w=>by kernel_rfl
theorem yG:∀w,(Oz w).map (fun s=>((Sz s).2.1,(Sz s).2.2.1))=some (Tz.2.1,Tz.2.2.1):=fun w=>by kernel_rfl
theorem yF:∀w,(Oz w).map (fun s=>(Sz s).2.2.2)=some Tz.2.2.2:=fun w=>by kernel_rfl
theorem yE:∀w,(Oz w).map (W.Hook.obs Hz)=some (W.Hook.val Hz w):=fun w=>by kernel_rfl
theorem Bm:W.LeftO PySem.Challenge.rw_rootwebs_k70_webs_written.row.prog Qz [] Xz (W.Hook.obs Hz) (W.Hook.val Hz) 2718:=fun w=>rJ Sz (W.Hook.obs Hz) Tz (W.Hook.val Hz w) (yH w) (yG w) (yF w) (yE w)
end Lw
namespace L2
open PySem PySem.Spec PyProof.Rows
abbrev nW:=Sum Int Str
def AM:nW->Value->Bool
 |.inl k,v=>Value.isInt k v
 |.inr x,v=>Value.isStrOf x v
def FF(w:World):nW->Int
 |.inl k=>hashInt k
 |.inr x=>hashStr w x
theorem bR:∀{k:nW}{v:Value},AM k v=true->(∃i t,k=Sum.inl i/\v=Value.int i t)\/(∃x t,k=Sum.inr x/\v=Value.str x t)
 |.inl i,v,h=>by
  obtain⟨t,e⟩:=Gk (k:=i) (v:=v) h;exact .inl ⟨i,t,rfl,e⟩
 |.inr x,v,h=>by
  obtain⟨t,e⟩:=Value.isStrOf_shape (x:=x) (v:=v) h;exact .inr ⟨x,t,rfl,e⟩
theorem C1(a b:Int):decide ((Sum.inl a:nW)=Sum.inl b)=(a == b):=by
 by_cases e:a=b
 ·subst e;simp
 ·have h:¬ (Sum.inl a:nW)=Sum.inl b:=fun q=>e (Sum.inl.inj q);rw[Gm h];exact(Gn.mpr e).symm
theorem CY(a b:Str):decide ((Sum.inr a:nW)=Sum.inr b)=decide (a=b):=by
 by_cases e:a=b
 ·subst e;simp
 ·have h:¬ (Sum.inr a:nW)=Sum.inr b:=fun q=>e (Sum.inr.inj q);rw[Gm h,Gm e]
theorem C0(a:Int)(b:Str):decide ((Sum.inl a:nW)=Sum.inr b)=false:=Gm (fun q=>nomatch q)
theorem CZ(a:Str)(b:Int):decide ((Sum.inr a:nW)=Sum.inl b)=false:=Gm (fun q=>nomatch q)
def oo(prog:Program)(w:World):PySem.KeyKind prog w nW where
 is:=AM
 hash:=FF w
 inj:=fun v a b ha hb=>by
  rcases bR ha with⟨i,t,rfl,rfl⟩|⟨x,t,rfl,rfl⟩
  ·rcases bR hb with ⟨j, u, rfl, e⟩ | ⟨y, u, rfl, e⟩
   ·injection e with e1 _;rw[e1]
   ·exact nomatch e
  ·rcases bR hb with ⟨j, u, rfl, e⟩ | ⟨y, u, rfl, e⟩
   ·exact nomatch e
   ·injection e with e1 _;rw[e1]
 byValue:=fun k v h=>by
  rcases bR h with⟨i,t,rfl,rfl⟩|⟨x,t,rfl,rfl⟩ <;> rfl
 pyHash:=fun hv h=>by
  rcases bR hv with⟨i,t,rfl,rfl⟩|⟨x,t,rfl,rfl⟩
  ·exact wpAny_pyHash_int h
  ·exact wpAny_pyHash_str h
 eqBool:=fun hu hv h=>by
  rcases bR hu with⟨i,t,rfl,rfl⟩|⟨x,t,rfl,rfl⟩
  ·rcases bR hv with ⟨j, u, rfl, rfl⟩ | ⟨y, u, rfl, rfl⟩
   ·rw[C1]at h;exact Gp h
   ·rw[C0]at h;exact SeqAt.EqAt.int_str i t y u _ _ _ _ h
  ·rcases bR hv with ⟨j, u, rfl, rfl⟩ | ⟨y, u, rfl, rfl⟩
   ·rw[CZ]at h;exact SeqAt.EqAt.str_int x t j u _ _ _ _ h
   ·rw[CY]at h;exact wpAny_eqBool_str h
 «strs»:=fun k x t v h=>by
  rcases bR h with⟨i,u,rfl,e⟩|⟨y,u,rfl,e⟩
  ·exact nomatch e
  ·injection e with e1 _
   subst e1;cases v <;> rfl
end L2
namespace L2
open PySem PySem.Spec PyProof.Rows
inductive V where
 |non|bl (b:Bool)|int (i:Int)|str (x:Str)|byt (b:Array UInt8)|flt (b:UInt64)|ref (a:Addr)|ty (n:String)
 deriving DecidableEq
def bJ:V->Value->Prop
 |.non,u=>u=Value.none
 |.bl b,u=>u=Value.bool b
 |.int i,u=>∃t,u=Value.int i t
 |.str x,u=>∃t,u=Value.str x t
 |.byt b,u=>∃t,u=Value.bytes b t
 |.flt b,u=>∃t,u=Value.float b t
 |.ref a,u=>u=Value.ref a
 |.ty n,u=>u=Value.type n
abbrev aX:List V->List Value->Prop:=Paired bJ
theorem aX.length{xs:List V}{us:List Value}(r:aX xs us):xs.length=us.length:=Paired.length r
theorem aX.get:∀{xs:List V}{us:List Value}{i:Nat}{x:V},aX xs us->xs[i]?=some x->∃u,us[i]?=some u/\bJ x u
 |_,_,_,_,.nil,e=>by simp at e
 |_,_,0,_,.cons r _,e=>by simp at e;subst e;exact⟨_,rfl,r⟩
 |_,_,i+1,x,.cons _ t,e=>by
  obtain⟨u,h1,h2⟩:=aX.get (i:=i) (x:=x) t (by simpa using e);exact⟨u,by simpa using h1,h2⟩
theorem aX.set{x:V}{u:Value}(r:bJ x u):∀{xs:List V}{us:List Value}(i:Nat),aX xs us->aX (xs.set i x) (us.set i u)
 |_,_,_,.nil=>.nil
 |_,_,0,.cons _ t=>.cons r t
 |_,_,i+1,.cons q t=>.cons q (aX.set r i t)
theorem aX.append:∀{xs ys:List V}{us ws:List Value},aX xs us->aX ys ws->aX (xs++ys) (us++ws)
 |_,_,_,_,.nil,s=>s
 |_,_,_,_,.cons r t,s=>.cons r (aX.append t s)
theorem aX.take:∀{xs:List V}{us:List Value}(n:Nat),aX xs us->aX (xs.take n) (us.take n)
 |_,_,0,_=>.nil
 |_,_,_+1,.nil=>.nil
 |_,_,n+1,.cons r t=>.cons r (aX.take n t)
theorem aX.drop:∀{xs:List V}{us:List Value}(n:Nat),aX xs us->aX (xs.drop n) (us.drop n)
 |_,_,0,r=>r
 |_,_,_+1,.nil=>.nil
 |_,_,n+1,.cons _ t=>aX.drop n t
def DY:Option V->Option Value->Prop
 |some v,some u=>bJ v u
 |none,none=>True
 |_,_=>False
def KV{κ:Type}:List (κ×V)->List (κ×Value)->Prop:=Paired fun(p:κ×V) (q:κ×Value)=>p.1=q.1/\bJ p.2 q.2
def kV:nW->V
 |.inl i=>.int i
 |.inr x=>.str x
inductive HO where
 |lst (xs:List V)
 |tup (xs:List V)
 |dK (kvs:List (nW×V))|dT (kvs:List (List nW×V))
 |set (S:Int->Bool) (n:Nat)
 |ins (C dx:Addr) (fs:List (Str×V))
 |own (x:Addr)
 |xd (fs:List (Str×V))
 |met (f x:Addr)
 |rng (lo hi:Int)
 |frz (o:Obj) (u:HO)
 |tbl (ps:Array Value)
 |ext (φ:Heap->Prop)
abbrev Hp:=Addr->Option HO
def cj(H:Hp)(a:Addr)(o:HO):Hp:=fun b=>if b=a then some o else H b
theorem cE{H:Hp}{a:Addr}{o:HO}:cj H a o a=some o:=by unfold cj;rw[Gq rfl]
theorem bw{H:Hp}{a b:Addr}{o:HO}(h:b≠a):cj H a o b=H b:=by unfold cj;rw[Gr h]
theorem vZ{H:Hp}{a b:Addr}{o u:HO}(h:H a=some o)(h':H b=some u)(d:o≠u):a≠b:=by
 intro e;subst e;rw[h]at h';exact d (Gj h')
theorem cV{H:Hp}{a b:Addr}{o:HO}(h:H a=some o)(h':H b=none):a≠b:=by
 intro e;subst e;rw[h]at h';cases h'
section
variable(P:Program)(w:World)
def d0(H:Hp)(h:Heap)(a:Addr):HO->Prop
 |.lst xs=>xs.length<=sizeLine/\∃(its:List Value) (n:Nat),aX xs its/\h.get? a=some {cls:=.type "list",data:=.seq its.toArray n}
 |.tup xs=>xs.length<=sizeLine/\∃its:List Value,aX xs its/\IsTup h a its.toArray
 |.dK kvs=>kvs.length<=sizeLine/\(a == sysModules)=false/\∃vs,KV kvs vs/\h.DictOf (oo P w) a vs
 |.dT kvs=>kvs.length<=sizeLine/\(a == sysModules)=false/\∃xs:List (List nW×Addr×Value),
   Paired (fun(p:List nW×V) (q:List nW×Addr×Value)=>p.1=q.1/\H q.2.1=some (.tup (p.1.map kV))/\bJ p.2 q.2.2) kvs xs /\
   ∃o es ep,h.get? a=some o/\o.ExactDict/\o.data=.dict es ep/\es.toList=xs.map (entryOfKey (tupleKind (oo P w)))/\(xs.map (·.1)).Nodup
 |.set S n=>h.SetOf (intKind P w) a S n
 |.ins C dx fs=>H dx=some (.own a)/\fs.length<=1000/\dx≠a/\h.get? a=some (W.instObj C dx) /\
   ∃mA,h.Ns1 dx mA/\(∀f,DY (fs.lookup f) (mA f))/\PySem.Within mA (fs.map (·.1))
 |.own _=>∃o,h.get? a=some o
 |.xd fs=>∃mA,h.Ns1 a mA/\∀f,DY (fs.lookup f) (mA f)
 |.rng lo hi=>∃t u v,h.get? a=some {cls:=.type "range",data:=.fields #[.int lo t,.int hi u,.int 1 v]}
 |.frz o u=>h.get? a=some o/\d0 H h a u
 |.tbl ps=>h.get? a=some {cls:=.none,data:=.fields ps}
 |.met f x=>h.get? a=some (W.methodObj (.ref f) (.ref x))
 |.ext φ=>φ h/\(∃o,h.get? a=some o)/\∀h1 h2:Heap,φ h1->(∀o,h1.get? a=some o->h2.get? a=some o)->φ h2
def lB(H:Hp)(h:Heap):Prop:=∀a o,H a=some o->d0 P w H h a o
end
section
variable{P:Program}{w:World}{H H':Hp}{h h':Heap}{a:Addr}{o:HO}
theorem d0.lt(x:d0 P w H h a o):a<h.objs.size:=by
 cases o with
 |lst xs=>obtain⟨_,_,_,_,e⟩:=x;exact Gs e
 |tup xs=>obtain⟨_,_,_,p⟩:=x;exact p.lt
 |dK kvs=>obtain⟨_,_,_,_,o,_,_,e,_⟩:=x;exact Gs e
 |dT kvs=>obtain⟨_,_,_,_,o,_,_,e,_⟩:=x;exact Gs e
 |set S n=>obtain⟨o,_,_,_,e,_⟩:=x;exact Gs e
 |ins C dx fs=>obtain⟨_,_,_,e,_⟩:=x;exact Gs e
 |own y=>obtain⟨_,e⟩:=x;exact Gs e
 |xd fs=>obtain⟨_,⟨_,_,_,e,_⟩,_⟩:=x;exact Gs e
 |rng lo hi=>obtain⟨_,_,_,e⟩:=x;exact Gs e
 |frz ob u=>obtain⟨e,_⟩:=x;exact Gs e
 |tbl ps=>exact Gs (show h.get? a=some _ from x)
 |met f y=>exact Gs (show h.get? a=some _ from x)
 |ext φ=>obtain⟨_,⟨_,e⟩,_⟩:=x;exact Gs e
theorem kM{α β:Type}{F G:α->β->Prop}:∀{l₁:List α}{l₂:List β},Paired F l₁ l₂->(∀a b,F a b->G a b)->Paired G l₁ l₂
 |_,_,.nil,_=>.nil
 |_,_,.cons r t,f=>.cons (f _ _ r) (kM t f)
theorem d0.stay(x:d0 P w H h a o)(k:∀b u,(b=a\/H b=some (.own a))->h.get? b=some u->h'.get? b=some u)
  (ho:∀b,H b=some (.own a)->H' b=some (.own a)) (ht:∀b xs,H b=some (.tup xs)->H' b=some (.tup xs)):d0 P w H' h' a o:=by
 induction o with
 |lst xs=>obtain⟨z,its,n,r,e⟩:=x;exact⟨z,its,n,r,k _ _ (.inl rfl) e⟩
 |tup xs=>obtain⟨z,its,r,ob,e,c⟩:=x;exact⟨z,its,r,ob,k _ _ (.inl rfl) e,c⟩
 |dK kvs=>obtain⟨z,y,vs,r,ob,es,ep,e,c⟩:=x;exact⟨z,y,vs,r,ob,es,ep,k _ _ (.inl rfl) e,c⟩
 |dT kvs=>
  obtain⟨z,y,xs,r,ob,es,ep,e,c⟩:=x;exact⟨z,y,xs,kM r fun p q z=>⟨z.1,ht _ _ z.2.1,z.2.2⟩,ob,es,ep,k _ _ (.inl rfl) e,c⟩
 |set S n=>obtain⟨ob,es,ep,t,e,c⟩:=x;exact⟨ob,es,ep,t,k _ _ (.inl rfl) e,c⟩
 |ins C dx fs=>
  obtain⟨d,z,ne,e,mA,⟨od,es,ep,e2,c⟩,r⟩:=x;exact⟨ho _ d,z,ne,k _ _ (.inl rfl) e,mA,⟨od,es,ep,k _ _ (.inr d) e2,c⟩,r⟩
 |own y=>obtain⟨ob,e⟩:=x;exact⟨ob,k _ _ (.inl rfl) e⟩
 |xd fs=>obtain⟨mA,⟨od,es,ep,e,c⟩,r⟩:=x;exact⟨mA,⟨od,es,ep,k _ _ (.inl rfl) e,c⟩,r⟩
 |rng lo hi=>obtain⟨t,u,v,e⟩:=x;exact⟨t,u,v,k _ _ (.inl rfl) e⟩
 |frz ob u ih=>obtain⟨e,q⟩:=x;exact⟨k _ _ (.inl rfl) e,ih q⟩
 |tbl ps=>
  have e:h.get? a=some {cls:=.none,data:=.fields ps}:=x;show h'.get? a=some {cls:=.none,data:=.fields ps};exact k a _ (.inl rfl) e
 |met f y=>
  have e:h.get? a=some (W.methodObj (.ref f) (.ref y)):=x;show h'.get? a=some (W.methodObj (.ref f) (.ref y));exact k a _ (.inl rfl) e
 |ext φ=>obtain⟨p,⟨o,e⟩,st⟩:=x;exact⟨st _ _ p fun o q=>k _ _ (.inl rfl) q,⟨o,k _ _ (.inl rfl) e⟩,st⟩
theorem lB.lt(x:lB P w H h)(e:H a=some o):a<h.objs.size:=(x a o e).lt
theorem lB.fresh(x:lB P w H h)(e:h.objs.size<=a):H a=none:=by
 cases q:H a with
 |none=>rfl
 |some u=>exact absurd (Gu (x.lt q) e) (Gv _)
theorem lB.kept(x:lB P w H h)(k:∀b u,h.get? b=some u->h'.get? b=some u):lB P w H h':=fun a o e=>
 (x a o e).stay (fun b u _ q=>k b u q) (fun _ q=>q) fun _ _ q=>q
theorem lB.laid(x:lB P w H h)(k:∀b u,h.get? b=some u->h'.get? b=some u)(hp:h.objs.size<=a)(new:d0 P w (cj H a o) h' a o):lB P w (cj H a o) h':=fun b u e=>by
 have hn:=x.fresh hp;by_cases hb:b=a
 ·subst hb;rw[cE]at e;cases e;exact new
 ·rw[bw hb]at e;exact(x b u e).stay (fun c v _ q=>k c v q) (fun c q=>by rw[bw (cV q hn)];exact q) fun c xs q=>by rw[bw (cV q hn)];exact q
end
def Rd(H:Hp)(a:Addr)(u:HO):Prop:=H a=some u\/∃o,H a=some (.frz o u)
theorem Rd.ok{P:Program}{w:World}{H:Hp}{h:Heap}{a:Addr}{u:HO}(r:Rd H a u)(x:lB P w H h):d0 P w H h a u:=by
 rcases r with r|⟨o,r⟩
 ·exact x a u r
 ·obtain⟨_,q⟩:=x a _ r;exact q
def E2:Option HO->Prop
 |some (.lst _)=>True
 |some (.dK _)=>True
 |some (.dT _)=>True
 |some (.set _ _)=>True
 |some (.ins _ _ _)=>True
 |some (.ext _)=>True
 |_=>False
section
variable{P:Program}{w:World}{H:Hp}{h h':Heap}{x e:Addr}{o':HO}
theorem lB.write(ok:lB P w H h)(mu:E2 (H x))(he:e=x\/H e=some (.own x))(k:∀b u,b≠e->h.get? b=some u->h'.get? b=some u)(heo:∃u,h'.get? e=some u)
  (new:d0 P w (cj H x o') h' x o'):lB P w (cj H x o') h':=fun b u q=>by
 have nown:∀c y,H c=some (.own y)->c≠x:=fun c y r z=>by subst z;rw[r]at mu;exact mu
 have ntup:∀c xs,H c=some (.tup xs)->c≠x:=fun c xs r z=>by subst z;rw[r]at mu;exact mu
 by_cases hb:b=x
 ·subst hb;rw[cE]at q;cases q;exact new
 ·rw [bw hb] at q;by_cases hbe:b=e
  ·have q':H b=some (.own x):=by
    rcases he with z|z
    ·exact absurd (hbe.trans z) hb
    ·rw[hbe];exact z
   rw[q]at q';cases q';obtain⟨v,hv⟩:=heo;exact⟨v,by rw[hbe];exact hv⟩
  ·refine (ok b u q).stay (fun c v hc r => k c v ?_ r) (fun c r => by rw [bw (nown c b r)]; exact r) fun c xs r => by rw [bw (ntup c xs r)]; exact r
   rcases hc with rfl|hc
   ·exact hbe
   ·rintro rfl
    rcases he with z|z
    ·exact nown c b hc z
    ·rw[hc]at z;cases z;exact hb rfl
end
structure Un(fs ex:List Addr)(H H':Hp)(h h':Heap):Prop where
 keep:∀b o,h.get? b=some o->H b=none->b∉fs->b∉ex->h'.get? b=some o
 slot:∀b o,h.get? b=some o->H b=none->b∈fs->b∉ex->∃sl,h'.get? b=some {o with slots:=sl}
 free:∀b o,h.get? b=some o->H b=none->b∉ex->H' b=none
 there:∀b o,h.get? b=some o->b∉ex->∃o',h'.get? b=some o'
 tups:∀b xs,H b=some (.tup xs)->H' b=some (.tup xs)
 frzs:∀b o u,H b=some (.frz o u)->H' b=some (.frz o u)
 tbls:∀b ps,H b=some (.tbl ps)->∃more,H' b=some (.tbl (ps++more))
section
variable{fs fs' ex ex':List Addr}{H H1 H2:Hp}{h h1 h2 h':Heap}{a x e:Addr}{o:HO}
theorem Un.any(u:Un fs ex H H1 h h1){b:Addr}{ob:Obj}(q:h.get? b=some ob)(n:H b=none)(hx:b∉ex):∃sl,h1.get? b=some {ob with slots:=sl}:=by
 by_cases hb:b∈fs
 ·exact u.slot b ob q n hb hx
 ·exact⟨ob.slots,u.keep b ob q n hb hx⟩
theorem Un.kept(k:∀b u,h.get? b=some u->h'.get? b=some u):Un fs ex H H h h':=
 ⟨fun b ob q _ _ _=>k b ob q,fun b ob q _ _ _=>⟨ob.slots,k b ob q⟩,fun _ _ _ n _=>n,fun b ob q _=>⟨ob,k b ob q⟩,fun _ _ q=>q,fun _ _ _ q=>q,fun _ ps q=>⟨#[],by rw[q];simp⟩⟩
theorem Un.refl:Un fs ex H H h h:=Un.kept fun _ _ q=>q
theorem Un.laid(k:∀b u,h.get? b=some u->h'.get? b=some u)(hp:h.objs.size<=a)(hn:H a=none):Un fs ex H (cj H a o) h h' where
 keep:=fun b u q _ _ _=>k b u q
 slot:=fun b u q _ _ _=>⟨u.slots,k b u q⟩
 free:=fun b u q n _=>by rw[bw (Gw (Gu (Gs q) hp))];exact n
 there:=fun b u q _=>⟨u,k b u q⟩
 tups:=fun b xs q=>by rw[bw (cV q hn)];exact q
 frzs:=fun b u xs q=>by rw[bw (cV q hn)];exact q
 tbls:=fun b ps q=>⟨#[],by rw[bw (cV q hn),q];simp⟩
theorem Un.write(mu:E2 (H x))(he:e=x\/H e=some (.own x))(k:∀b u,b≠e->h.get? b=some u->h'.get? b=some u)(heo:∃u,h'.get? e=some u):Un fs ex H (cj H x o) h h':=by
 have hx:∀b,H b=none->b≠x:=fun b n z=>by subst z;rw[n]at mu;exact mu
 have hb:∀b,H b=none->b≠e:=fun b n z=>by
  subst z;rcases he with r|r
  ·exact hx b n r
  ·rw[n]at r;cases r
 have hm:∀b u,H b=some u->¬ E2 (some u)->b≠x:=fun b u q nm z=>by subst z;rw[q]at mu;exact nm mu
 refine⟨fun b u q n _ _=>k b u (hb b n) q,fun b u q n _ _=>⟨u.slots,k b u (hb b n) q⟩,fun b u q n _=>by rw[bw (hx b n)];exact n,fun b u q _=>?_,
  fun b xs q=>by rw[bw (hm b _ q fun z=>z)];exact q,fun b u xs q=>by rw[bw (hm b _ q fun z=>z)];exact q,fun b ps q=>⟨#[],by rw[bw (hm b _ q fun z=>z),q];simp⟩⟩
 by_cases hbe:b=e
 ·subst hbe;exact heo
 ·exact⟨u,k b u hbe q⟩
end
def EU(h:Heap)(H:Hp):List Addr:=(List.range h.objs.size).filter fun a=>(H a).isSome
def nX(h:Heap)(H:Hp):Heap:=W.hideAll h (EU h H)
theorem uY(h:Heap)(H:Hp):(nX h H).objs.size=h.objs.size:=W.hideAll_size _ _
theorem x8{h:Heap}{H:Hp}{b:Addr}{o:Obj}(e:h.get? b=some o)(n:H b=none):(nX h H).get? b=some o:=
 W.hideAll_get _ e fun hm=>by
  have q:(H b).isSome=true:=(Gx.mp hm).2;rw[n]at q;simp at q
theorem zR{h:Heap}{H:Hp}{b:Addr}{o:Obj}(e:(nX h H).get? b=some o):h.get? b=some o/\H b=none:=by
 have e':h.get? b=some o:=W.of_hideAll (EU h H) e;refine⟨e',?_⟩;cases q:H b with
 |none=>rfl
 |some x=>
  have hm:b∈EU h H:=Gx.mpr ⟨Gy.mpr (Gs e'),by simp[q]⟩;have z:(nX h H).get? b=none:=W.hideAll_none (EU h H) hm;rw[z]at e;cases e
end L2
namespace L2
open PySem PySem.Spec PyProof.Rows
structure Mod(K:W.Frag)(mg:Str->Option Value)(base:Heap):Prop where
 kin:K.In base
 glob:base.Ns mainGlobals mg
 blt:∃mb,base.Ns builtinsNs mb/\∀x:Str,x ≠ "__name__" -> mb x=bootBuiltins x
 nolimit:base.NoLimit
structure Cx where
 prog:Program
 w:World
 K:W.Frag
 mg:Str->Option Value
 base:Heap
 A:Around
 N:List Str
 s₀:Shared
 H₀:Hp
 env:Env
 outer:List Env
 stack:List Env
 ex:List Addr
 fn:Str->Bool
 calm:Bool
 pn:List (Addr×Obj)
 xe:Value->Shared->Prop
def vE(l:List Env):List Addr:=l.filterMap (·.frame)
abbrev Cx.fs(X:Cx):List Addr:=vE X.outer
def Fi(sc:Scope)(x:Str):Prop:=sc.names.lookup x=some .local\/sc.names.lookup x=some .cell\/sc.names.lookup x=some .free
def Ap(sc:Scope)(x:Str):Prop:=sc.names.lookup x=some .local\/sc.names.lookup x=some .cell
def FV(env:Env)(h:Heap)(m:Str->Option Value)(x:Str)(u:Value):Prop:=
 (env.kindOf x=some .local/\m x=some u)\/((env.kindOf x=some .cell\/env.kindOf x=some .free)/\∃c,env.cells.lookup x=some c/\h.IsCell c (some u))
structure Cx.Ok(X:Cx):Prop where
 mod:Mod X.K X.mg X.base
 kind:X.env.scope.kind=.function
 glob:X.env.globals=mainGlobals
 blt:X.env.builtins=builtinsNs
 above:X.s₀.heap.objs.size<=X.env.locals
 inj:∀x y c,X.env.cells.lookup x=some c->X.env.cells.lookup y=some c->x=y
 has:∀x,(X.env.kindOf x=some .cell\/X.env.kindOf x=some .free)->∃c,X.env.cells.lookup x=some c
 cab:∀x c,X.fn x=true->X.env.cells.lookup x=some c->X.s₀.heap.objs.size<=c
 hd:X.calm=true->X.A.handled=none
 frames:X.A.frames=some X.stack
 stk:X.stack=X.outer\/(X.stack=X.env::X.outer/\X.env.frame=some X.env.locals)
 exf:∀b∈X.ex,b≠X.env.locals/\∀x c,X.env.cells.lookup x=some c->c≠b
 bs:∀b o,X.base.get? b=some o->X.s₀.heap.get? b=some o/\X.H₀ b=none
 bsz:X.base.objs.size<=X.s₀.heap.objs.size
 noex:∀b o,X.base.get? b=some o->b∉X.ex
 exfs:∀b∈X.ex,b∉X.fs
 funs:X.s₀.heap.FunFrames X.base X.outer
 frf:∀b∈X.fs,X.H₀ b=none
structure aN(X:Cx)(pins:List (Addr×Obj))(σ:List (Option V))(H:Hp)(s:Shared):Prop where
 ok:X.Ok
 os:s.os=X.s₀.os
 bare:AllBare s.gens
 base:Un X.fs X.ex X.H₀ H X.s₀.heap s.heap
 loc:∃m,s.heap.Ns X.env.locals m/\∀(i:Nat)(x:Str)(v:V),X.N[i]?=some x->σ[i]?=some (some v)->Fi X.env.scope x->∃u,bJ v u/\FV X.env s.heap m x u
 cell:∀x c,X.env.cells.lookup x=some c->∃v,s.heap.IsCell c v
 free:H X.env.locals=none
 freeC:∀x c,X.env.cells.lookup x=some c->H c=none
 pin:∀p∈X.pn++pins,s.heap.get? p.1=some p.2/\H p.1=none/\p.1≠X.env.locals/\p.1∉X.fs/\∀v,p.2.data≠.cell v
 hok:lB X.prog X.w H s.heap
 len:σ.length=X.N.length
section
variable{X:Cx}{pins:List (Addr×Obj)}{σ:List (Option V)}{H H':Hp}{s:Shared}{h':Heap}
theorem Cx.Ok.nofr(ok:X.Ok){b:Addr}{o:Obj}(e:X.base.get? b=some o):b∉X.fs:=fun hb=>by
 have:=(ok.funs.mem hb).1;rw[e]at this;cases this
theorem aN.bs(I:aN X pins σ H s):∀b o,X.base.get? b=some o->s.heap.get? b=some o/\H b=none:=fun b o e=>
 ⟨I.base.keep b o (I.ok.bs b o e).1 (I.ok.bs b o e).2 (I.ok.nofr e) (I.ok.noex b o e),I.base.free b o (I.ok.bs b o e).1 (I.ok.bs b o e).2 (I.ok.noex b o e)⟩
theorem aN.bk(I:aN X pins σ H s):∀b o,X.base.get? b=some o->s.heap.get? b=some o:=fun b o e=>(I.bs b o e).1
theorem aN.mod(I:aN X pins σ H s):Mod X.K X.mg X.base:=I.ok.mod
theorem aN.kIn(I:aN X pins σ H s):X.K.In s.heap:=I.ok.mod.kin.keeps I.bk
theorem aN.lt(I:aN X pins σ H s):X.env.locals<s.heap.objs.size:=let ⟨_,hn,_⟩:=I.loc;hn.lt
theorem aN.sz(I:aN X pins σ H s):X.s₀.heap.objs.size<=s.heap.objs.size:=Gz I.ok.above (GA I.lt)
theorem aN.nofs(I:aN X pins σ H s){a:Addr}(h:s.heap.objs.size<=a):a∉X.fs:=fun hb=>by
 obtain⟨_,o,ho,_⟩:=I.ok.funs.mem hb;exact absurd (Gu (Gs ho) (Gz I.sz h)) (Gv _)
theorem aN.cne(I:aN X pins σ H s):∀x c,X.env.cells.lookup x=some c->c≠X.env.locals:=fun x c e z=>by
 obtain⟨v,o,ho,hd⟩:=I.cell x c e;obtain⟨m,⟨o',es,ep,ho',hd',_⟩,_⟩:=I.loc;rw[z,ho']at ho;cases ho;rw[hd']at hd;cases hd
theorem aN.funs(I:aN X pins σ H s):s.heap.FunFrames X.base X.outer:=by
 have all:∀(l:List Env),(∀b∈vE l,b∈X.fs)->X.s₀.heap.FunFrames X.base l->s.heap.FunFrames X.base l:=by
  intro l
  induction l with
  |nil=>intro _ _;trivial
  |cons env r ih=>
   intro hs hl;obtain⟨hk,⟨L,o,hf,hn,ho,hd⟩,hr⟩:=hl;have hL:L∈X.fs:=hs L (by unfold vE;rw[GB,hf];exact GC);obtain⟨sl,e⟩:=I.base.slot L o ho (I.ok.frf L hL) hL fun z=>I.ok.exfs L z hL;exact⟨hk,⟨L,_,hf,hn,e,hd⟩,ih (fun b hb=>hs b (by unfold vE;rw[GB,hf];exact GD _ hb)) hr⟩
 exact all X.outer (fun _ hb=>hb) I.ok.funs
theorem aN.stack(I:aN X pins σ H s):s.heap.FunFrames X.base X.stack:=by
 rcases I.ok.stk with e|⟨e,hf⟩
 ·rw[e];exact I.funs
 ·rw[e];obtain⟨m,hn,_⟩:=I.loc;refine .cons (by rw[I.ok.kind];decide) hf hn ?_ I.funs;exact Heap.get?_none_of_le (Gz I.ok.bsz I.ok.above)
theorem aN.stkSub(I:aN X pins σ H s):∀b∈vE X.stack,b∈X.env.locals::X.fs:=fun b hb=>by
 rcases I.ok.stk with e|⟨e,hf⟩
 ·rw[e]at hb;exact GD _ hb
 ·rw[e]at hb;unfold vE at hb;rw[GB,hf]at hb;exact hb
theorem aN.stkFree(I:aN X pins σ H s):∀b∈vE X.stack,H b=none:=fun b hb=>by
 rcases GE.mp (I.stkSub b hb) with e|hb
 ·rw[e];exact I.free
 ·obtain⟨_,o,ho,_⟩:=I.ok.funs.mem hb;exact I.base.free b o ho (I.ok.frf b hb) fun z=>I.ok.exfs b z hb
theorem aN.step{g':Array GenState}{t':Nat}{d':Drawn}{ch:List Addr}(I:aN X pins σ H s)
  (hch:∀b∈ch,(b∈X.ex\/X.s₀.heap.objs.size<=b)/\b≠X.env.locals/\(∀x c,X.env.cells.lookup x=some c->c≠b)/\∀p∈X.pn++pins,p.1≠b)
  (keep:∀b o,b≠X.env.locals->b∉X.fs->b∉ch->s.heap.get? b=some o->H b=none->h'.get? b=some o)
  (slot:∀b o,b≠X.env.locals->b∈X.fs->b∉ch->s.heap.get? b=some o->H b=none->∃sl,h'.get? b=some {o with slots:=sl}) (free:∀b o,b∉ch->s.heap.get? b=some o->H b=none->H' b=none)
  (there:∀b o,b∉ch->s.heap.get? b=some o->∃o',h'.get? b=some o')
  (tups:∀b xs,H b=some (.tup xs)->H' b=some (.tup xs)) (frzs:∀b o u,H b=some (.frz o u)->H' b=some (.frz o u)) (tbls:∀b ps,H b=some (.tbl ps)->∃more,H' b=some (.tbl (ps++more)))
  (ns:∀m,s.heap.Ns X.env.locals m->h'.Ns X.env.locals m) (hok:lB X.prog X.w H' h') (hg:AllBare g') :
  aN X pins σ H' {s with heap:=h',gens:=g',drawn:=d',toks:=t'}:=by
 have neL:∀b o,X.s₀.heap.get? b=some o->b≠X.env.locals:=fun b o e=>Gw (Gu (Gs e) I.ok.above)
 have neC:∀b o,X.s₀.heap.get? b=some o->b∉X.ex->b∉ch:=fun b o e hx hb=>by
  rcases (hch b hb).1 with z|z
  ·exact hx z
  ·exact absurd (Gu (Gs e) z) (Gv _)
 have cellK:∀x c,X.env.cells.lookup x=some c->∀v,s.heap.IsCell c v->h'.IsCell c v:=fun x c e v ⟨o,ho,hd⟩=>by
  have nch:c∉ch:=fun z=>(hch c z).2.2.1 x c e rfl;by_cases hc:c∈X.fs
  ·obtain⟨sl,q⟩:=slot c o (I.cne x c e) hc nch ho (I.freeC x c e);exact⟨_,q,hd⟩
  ·exact⟨o,keep c o (I.cne x c e) hc nch ho (I.freeC x c e),hd⟩
 refine⟨I.ok,I.os,hg,⟨fun b o e n hb hx=>?_,fun b o e n hb hx=>?_,fun b o e n hx=>?_,fun b o e hx=>?_,fun b xs e=>tups b xs (I.base.tups b xs e),fun b o xs e=>frzs b o xs (I.base.frzs b o xs e),fun b ps e=>?_⟩,?_,fun x c e=>?_,?_,fun x c e=>?_,fun p hp=>?_,hok,I.len⟩
 ·exact keep b o (neL b o e) hb (neC b o e hx) (I.base.keep b o e n hb hx) (I.base.free b o e n hx)
 ·obtain⟨sl,e1⟩:=I.base.slot b o e n hb hx;obtain⟨sl',e2⟩:=slot b _ (neL b o e) hb (neC b o e hx) e1 (I.base.free b o e n hx);exact⟨sl',e2⟩
 ·obtain⟨o',e1⟩:=I.base.there b o e hx;exact free b o' (neC b o e hx) e1 (I.base.free b o e n hx)
 ·obtain⟨o',e1⟩:=I.base.there b o e hx;exact there b o' (neC b o e hx) e1
 ·obtain⟨m1,e1⟩:=I.base.tbls b ps e;obtain⟨m2,e2⟩:=tbls b _ e1;exact⟨m1++m2,by rw[e2,Array.append_assoc]⟩
 ·obtain ⟨m, hn, hl⟩ := I.loc;refine⟨m,ns m hn,fun i x v e1 e2 e3=>?_⟩;obtain⟨u,r,l⟩:=hl i x v e1 e2 e3;refine⟨u,r,?_⟩;rcases l with l|⟨k,c,e,z⟩
  ·exact .inl l
  ·exact .inr ⟨k,c,e,cellK x c e _ z⟩
 ·obtain⟨v,z⟩:=I.cell x c e;exact⟨v,cellK x c e v z⟩
 ·obtain⟨m,⟨o,_,_,ho,_⟩,_⟩:=I.loc;exact free _ o (fun z=>(hch _ z).2.1 rfl) ho I.free
 ·obtain⟨v,o,ho,hd⟩:=I.cell x c e;exact free c o (fun z=>(hch c z).2.2.1 x c e rfl) ho (I.freeC x c e)
 ·obtain⟨e,n,ne,nf,d⟩:=I.pin p hp;have nch:p.1∉ch:=fun z=>(hch p.1 z).2.2.2 p hp rfl;exact⟨keep p.1 p.2 ne nf nch e n,free p.1 p.2 nch e n,ne,nf,d⟩
theorem aN.un{t':Nat}(I:aN X pins σ H s)(u:Un X.fs [] H H' s.heap h')(hok:lB X.prog X.w H' h'):aN X pins σ H' {s with heap:=h',toks:=t'}:=by
 obtain⟨m,⟨o,es,ep,ho,r⟩,_⟩:=id I.loc;obtain⟨sl,hL⟩:=u.any ho I.free (by simp)
 exact I.step (g':=s.gens) (d':=s.drawn) (ch:=[]) (fun _ z=>nomatch z) (fun b o _ hb _ e n=>u.keep b o e n hb (by simp)) (fun b o _ hb _ e n=>u.slot b o e n hb (by simp)) (fun b o _ e n=>u.free b o e n (by simp)) (fun b o _ e=>u.there b o e (by simp)) u.tups u.frzs u.tbls (fun m' hm=>by
  obtain⟨o',es',ep',ho',r'⟩:=hm;rw[ho]at ho';cases ho'
  exact⟨_,es',ep',hL,r'⟩) hok I.bare
theorem aN.call{g':Array GenState}{t':Nat}{d':Drawn}{ch:List Addr}(I:aN X pins σ H s)(u:Un (vE X.stack) ch H H' s.heap h')(hok:lB X.prog X.w H' h')(hg:AllBare g')
  (hch:∀b∈ch,(b∈X.ex\/X.s₀.heap.objs.size<=b)/\b≠X.env.locals/\(∀x c,X.env.cells.lookup x=some c->c≠b)/\∀p∈X.pn++pins,p.1≠b) :
  aN X pins σ H' {s with heap:=h',gens:=g',drawn:=d',toks:=t'}:=by
 obtain⟨m,⟨o,es,ep,ho,r⟩,_⟩:=id I.loc;obtain⟨sl,hL⟩:=u.any ho I.free fun z=>(hch _ z).2.1 rfl
 exact I.step (ch:=ch) hch (fun b o hL hb hc e n=>u.keep b o e n (fun z=>(GE.mp (I.stkSub b z)).elim hL hb) hc) (fun b o _ _ hc e n=>u.any e n hc) (fun b o hc e n=>u.free b o e n hc) (fun b o hc e=>u.there b o e hc) u.tups u.frzs u.tbls (fun m' hm=>by
  obtain⟨o',es',ep',ho',r'⟩:=hm;rw[ho]at ho';cases ho'
  exact⟨_,es',ep',hL,r'⟩) hok hg
theorem aN.turned{t':Nat}{it:Addr}(I:aN X pins σ H s)(k:∀b o,b≠it->s.heap.get? b=some o->h'.get? b=some o)(hn:H it=none)(hL:it≠X.env.locals)
  (h1:it∈X.ex\/X.s₀.heap.objs.size<=it) (h2:∀x c,X.env.cells.lookup x=some c->c≠it) (h3:∀p∈X.pn++pins,p.1≠it):aN X pins σ H {s with heap:=h',toks:=t'}:=by
 have nit:∀b u,H b=some u->b≠it:=fun b u e z=>by rw[z,hn]at e;cases e
 refine I.step (g':=s.gens) (d':=s.drawn) (ch:=[it]) (fun b hb=>?_) (fun b o _ _ hc e _=>k b o (fun z=>hc (by simp[z])) e) (fun b o _ _ hc e _=>⟨o.slots,k b o (fun z=>hc (by simp[z])) e⟩) (fun _ _ _ _ n=>n)
  (fun b o hc e=>⟨o,k b o (fun z=>hc (by simp[z])) e⟩) (fun _ _ e=>e) (fun _ _ _ e=>e) (fun b ps e=>⟨#[],by rw[e];simp⟩) (fun m hm=>?_) (fun b u e=>?_) I.bare
 ·have e : b = it := by simpa using hb
  subst e;exact⟨h1,hL,h2,h3⟩
 ·obtain⟨o,es,ep,ho,r⟩:=hm;exact⟨o,es,ep,k _ o (GF hL) ho,r⟩
 ·refine (I.hok b u e).stay (fun c v hc q => k c v ?_ q) (fun _ q => q) fun _ _ q => q;rcases hc with z|z
  ·rw[z];exact nit b u e
  ·exact nit c _ z
theorem aN.tok(I:aN X pins σ H s)(t:Nat):aN X pins σ H {s with toks:=t}:=I.un (h':=s.heap) (t':=t) Un.refl I.hok
theorem aN.kept{t':Nat}(I:aN X pins σ H s)(k:∀b u,s.heap.get? b=some u->h'.get? b=some u):aN X pins σ H {s with heap:=h',toks:=t'}:=I.un (Un.kept k) (I.hok.kept k)
theorem aN.laid{a:Addr}{o:HO}{t':Nat}(I:aN X pins σ H s)(k:∀b u,s.heap.get? b=some u->h'.get? b=some u)(hp:s.heap.objs.size<=a)(new:d0 X.prog X.w (cj H a o) h' a o) :
  aN X pins σ (cj H a o) {s with heap:=h',toks:=t'}:=I.un (Un.laid k hp (I.hok.fresh hp)) (I.hok.laid k hp new)
theorem aN.write{x e:Addr}{o:HO}{t':Nat}(I:aN X pins σ H s)(mu:E2 (H x))(he:e=x\/H e=some (.own x))(k:∀b u,b≠e->s.heap.get? b=some u->h'.get? b=some u)(heo:∃u,h'.get? e=some u)
  (new:d0 X.prog X.w (cj H x o) h' x o):aN X pins σ (cj H x o) {s with heap:=h',toks:=t'}:=I.un (Un.write mu he k heo) (I.hok.write mu he k heo new)
theorem aN.pins_of{pins':List (Addr×Obj)}(I:aN X pins σ H s)(h:∀p∈pins',s.heap.get? p.1=some p.2/\H p.1=none/\p.1≠X.env.locals/\p.1∉X.fs/\∀v,p.2.data≠.cell v):aN X pins' σ H s:=
 ⟨I.ok,I.os,I.bare,I.base,I.loc,I.cell,I.free,I.freeC,fun p hp=>(GG.mp hp).elim (fun z=>I.pin p (GH _ z)) (h p),I.hok,I.len⟩
theorem p4{N:List Str}(hN:N.Nodup){i j:Nat}{x:Str}(a:N[i]?=some x)(b:N[j]?=some x):i=j:=by
 obtain⟨h1,e1⟩:=GI.mp a;obtain⟨h2,e2⟩:=GI.mp b;exact(GJ hN).mp (e1.trans e2.symm)
theorem ni{M:Model}{A:Around}{E:Value->Shared->Prop}{i:Nat}{x:Str}{v:V}{u:Value}{Q:Unit->Shared->Prop}(I:aN X pins σ H s)(hN:X.N.Nodup)(hi:X.N[i]?=some x)(hx:Ap X.env.scope x)(r:bJ v u)
  (h:∀s',aN X pins (σ.set i (some v)) H s'->(∃a,Heap.SameBut a s.heap s'.heap/\(a=X.env.locals\/X.env.cells.lookup x=some a))->Q () s') (hf:X.fn x=true\/X.env.scope.names.lookup x=some .local:=by first|exact .inl rfl|exact .inr rfl|assumption):wpAny M A (storeName X.env x u) Q E s:=by
 obtain⟨m,hn,hl⟩:=id I.loc;have hcls:(X.env.scope.kind == .class || (X.env.scope.kind == .module&&X.env.locals != X.env.globals))=false:=by rw[I.ok.kind];rfl
 have hiσ:i<σ.length:=by rw[I.len];exact(GI.mp hi).1
 have cne:=I.cne
 have tracked:∀{a:Addr}{h':Heap},(∃o,s.heap.get? a=some o/\H a=none)->Heap.SameBut a s.heap h'->lB X.prog X.w H h':=fun {a h'} ha hs b ob e=>by
  obtain⟨_,_,hfree⟩:=ha;refine(I.hok b ob e).stay (fun c w' hc q=>(hs.2 c ?_).trans q) (fun _ q=>q) fun _ _ q=>q
  rintro rfl
  rcases hc with rfl|hc
  ·rw[hfree]at e;cases e
  ·rw[hfree]at hc;cases hc
 rcases hx with hk|hk
 ·refine wpAny_storeName_local hk hn (fun h' hn' hs => ?_) hcls;obtain⟨oL,_,_,hoL,_⟩:=id hn;refine h _ ⟨I.ok,I.os,I.bare,⟨fun b o e n hb hx=>?_,fun b o e n hb hx=>?_,I.base.free,fun b o e hx=>?_,I.base.tups,I.base.frzs,I.base.tbls⟩,⟨_,hn',fun j y v' e1 e2 e3=>?_⟩,fun y c e=>?_,I.free,I.freeC,fun p hp=>?_,tracked ⟨oL,hoL,I.free⟩ hs,by simpa using I.len⟩ ⟨_,hs,.inl rfl⟩
  ·exact(hs.2 b (Gw (Gu (Gs e) I.ok.above))).trans (I.base.keep b o e n hb hx)
  ·obtain⟨sl,e1⟩:=I.base.slot b o e n hb hx;exact⟨sl,(hs.2 b (Gw (Gu (Gs e) I.ok.above))).trans e1⟩
  ·obtain⟨o',e1⟩:=I.base.there b o e hx;exact⟨o',(hs.2 b (Gw (Gu (Gs e) I.ok.above))).trans e1⟩
  ·by_cases hj : j = i
   ·subst hj;rw[hi]at e1;cases e1;rw[GK hiσ]at e2;cases e2;exact⟨u,r,.inl ⟨hk,by simp⟩⟩
   ·rw [GL (GF hj)] at e2;obtain⟨u',r',q⟩:=hl j y v' e1 e2 e3;refine⟨u',r',?_⟩;rcases q with⟨k,e⟩|⟨k,c,e,z⟩
    ·refine .inl ⟨k,?_⟩;have:y≠x:=fun e=>hj (p4 hN e1 (e ▸ hi));simp[this,e]
    ·exact .inr ⟨k,c,e,z.sameBut hs (cne y c e)⟩
  ·obtain⟨w',z⟩:=I.cell y c e;exact⟨w',z.sameBut hs (cne y c e)⟩
  ·obtain⟨e,n,ne,nf,d⟩:=I.pin p hp;exact⟨(hs.2 p.1 ne).trans e,n,ne,nf,d⟩
 ·have hfn:X.fn x=true:=by
   rcases hf with z|z
   ·exact z
   ·rw[z]at hk;cases hk
  obtain⟨c,hc⟩:=I.ok.has x (.inl hk);obtain⟨w',z⟩:=I.cell x c hc;refine wpAny_storeName_cell I.ok.kind hk hc z (fun h' hc' hs=>?_);obtain⟨oc,hoc,hocd⟩:=id z;refine h {s with heap:=h'} ⟨I.ok,I.os,I.bare,⟨fun b o e n hb hx=>?_,fun b o e n hb hx=>?_,I.base.free,fun b o e hx=>?_,I.base.tups,I.base.frzs,I.base.tbls⟩,⟨m,hn.sameBut hs (GF (cne x c hc)),fun j y v' e1 e2 e3=>?_⟩,fun y c' e=>?_,I.free,I.freeC,fun p hp=>?_,tracked ⟨oc,hoc,I.freeC x c hc⟩ hs,by simpa using I.len⟩ ⟨c,hs,.inr hc⟩
  ·exact(hs.2 b (Gw (Gu (Gs e) (I.ok.cab x c hfn hc)))).trans (I.base.keep b o e n hb hx)
  ·obtain⟨sl,e1⟩:=I.base.slot b o e n hb hx;exact⟨sl,(hs.2 b (Gw (Gu (Gs e) (I.ok.cab x c hfn hc)))).trans e1⟩
  ·obtain⟨o',e1⟩:=I.base.there b o e hx;exact⟨o',(hs.2 b (Gw (Gu (Gs e) (I.ok.cab x c hfn hc)))).trans e1⟩
  ·by_cases hj : j = i
   ·subst hj;rw[hi]at e1;cases e1;rw[GK hiσ]at e2;cases e2;exact⟨u,r,.inr ⟨.inl hk,c,hc,hc'⟩⟩
   ·rw [GL (GF hj)] at e2;obtain⟨u',r',q⟩:=hl j y v' e1 e2 e3;refine⟨u',r',?_⟩;rcases q with q|⟨k,c',e,z'⟩
    ·exact .inl q
    ·refine .inr ⟨k, c', e, z'.sameBut hs ?_⟩
     rintro rfl
     exact hj (p4 hN e1 (I.ok.inj _ _ _ e hc ▸ hi))
  ·by_cases hcc : c' = c
   ·subst hcc;exact⟨_,hc'⟩
   ·obtain⟨w2,z2⟩:=I.cell y c' e;exact⟨w2,z2.sameBut hs hcc⟩
  ·obtain⟨e,n,ne,nf,d⟩:=I.pin p hp;refine⟨(hs.2 p.1 ?_).trans e,n,ne,nf,d⟩;intro q;rw[q,hoc]at e;have q':oc=p.2:=Gj e;exact d w' (by rw[<- q'];exact hocd)
theorem pN{M:Model}{A:Around}{E:Value->Shared->Prop}{i:Nat}{x:Str}{v:V}{u:Value}{Q:Unit->Shared->Prop}(I:aN X pins σ H s)(hN:X.N.Nodup)(hi:X.N[i]?=some x)(hx:Ap X.env.scope x)(r:bJ v u)
  (h:∀s',aN X pins (σ.set i (some v)) H s'->Q () s') (hf:X.fn x=true\/X.env.scope.names.lookup x=some .local:=by first|exact .inl rfl|exact .inr rfl|assumption):wpAny M A (storeName X.env x u) Q E s:=
 ni I hN hi hx r (fun s' I' _=>h s' I') hf
theorem aN.call'{s':Shared}{ch:List Addr}(I:aN X pins σ H s)(ho:s'.os=s.os)(u:Un (vE X.stack) ch H H' s.heap s'.heap)(hok:lB X.prog X.w H' s'.heap)(hg:AllBare s'.gens)
  (hch:∀b∈ch,(b∈X.ex\/X.s₀.heap.objs.size<=b)/\b≠X.env.locals/\(∀x c,X.env.cells.lookup x=some c->c≠b)/\∀p∈X.pn++pins,p.1≠b):aN X pins σ H' s':=by
 obtain⟨h',g',d',t',o'⟩:=s';have e:o'=s.os:=ho;subst e;exact I.call (g':=g') (t':=t') (d':=d') u hok hg hch
end
abbrev XK:=Value->Option Addr->Hp->Prop
abbrev St:=List (Option V)
abbrev VK:=V->Hp->Prop
abbrev TE:=St->Hp->VK->Prop
abbrev TT:=St->Hp->(Bool->Hp->Prop)->Prop
abbrev TA:=St->Hp->(List V->Hp->Prop)->Prop
structure lI where
 nx:St->Hp->Prop
 rt:VK
 bk:St->Hp->Prop:=fun _ _=>False
 ct:St->Hp->Prop:=fun _ _=>False
abbrev TS:=lI->St->Hp->Prop
def EP(X:Cx)(pins:List (Addr×Obj))(σ:St)(Q:VK)(u:Value)(s':Shared):Prop:=∃v H',aN X pins σ H' s'/\bJ v u/\Q v H'
def TP(X:Cx)(pins:List (Addr×Obj))(σ:St)(Q:Bool->Hp->Prop)(b:Bool)(s':Shared):Prop:=∃H',aN X pins σ H' s'/\Q b H'
def AP(X:Cx)(pins:List (Addr×Obj))(σ:St)(Q:List V->Hp->Prop)(us:List Value)(s':Shared):Prop:=∃vs H',aN X pins σ H' s'/\aX vs us/\Q vs H'
def SP(X:Cx)(pins:List (Addr×Obj))(D:lI)(f:Flow)(s':Shared):Prop:=
 match f with
 |.next=>∃σ' H',aN X pins σ' H' s'/\D.nx σ' H'
 |.brk=>∃σ' H',aN X pins σ' H' s'/\D.bk σ' H'
 |.cont=>∃σ' H',aN X pins σ' H' s'/\D.ct σ' H'
 |.ret u=>∃v σ' H',aN X pins σ' H' s'/\bJ v u/\D.rt v H'
def PE(X:Cx)(e:Expr)(t:TE):Prop:=
 ∀(pins:List (Addr×Obj))(s:Shared)(σ:St)(H:Hp)(Q:VK),aN X pins σ H s->t σ H Q->wpAny (model X.prog X.w) X.A (eval e X.env) (EP X pins σ Q) X.xe s
def PT(X:Cx)(e:Expr)(t:TT):Prop:=
 ∀(pins:List (Addr×Obj))(s:Shared)(σ:St)(H:Hp)(Q:Bool->Hp->Prop),aN X pins σ H s->t σ H Q->wpAny (model X.prog X.w) X.A (isTrue e X.env (eval e X.env)) (TP X pins σ Q) X.xe s
def PW(X:Cx)(e:Expr)(t:TT):Prop:=
 ∀(whole:Sem Value)(pins:List (Addr×Obj))(s:Shared)(σ:St)(H:Hp)(Q:Bool->Hp->Prop),aN X pins σ H s->t σ H Q->wpAny (model X.prog X.w) X.A (isTrue e X.env whole) (TP X pins σ Q) X.xe s
theorem PW.pt{X:Cx}{e:Expr}{t:TT}(h:PW X e t):PT X e t:=h _
def PA(X:Cx)(es:List Expr)(t:TA):Prop:=
 ∀(pos:Pos)(pins:List (Addr×Obj))(s:Shared)(σ:St)(H:Hp)(Q:List V->Hp->Prop),aN X pins σ H s->t σ H Q->wpAny (model X.prog X.w) X.A (spliced (backTo pos (starEach es X.env))) (AP X pins σ Q) X.xe s
def PS(X:Cx)(st:Stmt)(t:TS):Prop:=
 ∀(pins:List (Addr×Obj))(s:Shared)(σ:St)(H:Hp)(D:lI),aN X pins σ H s->t D σ H->wpAny (model X.prog X.w) X.A (exec st X.env) (SP X pins D) X.xe s
def i6(X:Cx)(st:List Stmt)(t:TS):Prop:=
 ∀(pins:List (Addr×Obj))(s:Shared)(σ:St)(H:Hp)(D:lI),aN X pins σ H s->t D σ H->wpAny (model X.prog X.w) X.A (execs st X.env) (SP X pins D) X.xe s
theorem c0{α:Type}{t:Sem α}{Q Q':α->Shared->Prop}{M:Model}{A:Around}{E:Value->Shared->Prop}{s:Shared}(h:wpAny M A t Q E s)(hQ:∀a s,Q a s->Q' a s):wpAny M A t Q' E s:=GM h hQ fun _ _ x=>x
end L2
namespace L2
open PySem PySem.Spec PyProof.Rows
section
variable{X:Cx}
def DF(i:Nat):TE:=fun σ H Q=>∃v,σ[i]?=some (some v)/\Q v H
def tC(v:V):TE:=fun _ H Q=>Q v H
theorem Ci {i:Nat}{x:Str}{pos:Pos} (hN:X.N[i]?=some x) (hv:Fi X.env.scope x) (hd:(x == ("__debug__" : Str))=false:=by decide) (hcd:(x == ("__classdict__" : Str))=false:=by decide):PE X (.Name x pos) (DF i):=by
 intro pins s σ H Q I h;obtain⟨v,e,h⟩:=h;obtain⟨m,hn,hl⟩:=I.loc;obtain⟨u,r,l⟩:=hl i x v hN e hv;have fin:EP X pins σ Q u s:=⟨v,H,I,r,h⟩;rcases l with⟨hk,hm⟩|⟨hk,c,hc,hcell⟩
 ·exact wpAny_Name (wpAny_loadName_local I.ok.kind hk hn hm fin) hd
 ·rcases hk with hk | hk
  ·exact wpAny_Name (wpAny_loadName_cell I.ok.kind hk hc hcell fin) hd
  ·exact wpAny_Name (wpAny_loadName_free I.ok.kind hk hc hcell fin hcd) hd
theorem Cp{i j pos}:PE X (.Constant (.int i) j pos) (tC (.int i)):=fun _ _ _ H _ I h=>wpAny_Constant_int ⟨.int i,H,I.tok _,⟨_,rfl⟩,h⟩
theorem Er{b j pos}:PE X (.Constant (.bool b) j pos) (tC (.bl b)):=fun _ _ _ H _ I h=>Constant_bool ⟨.bl b,H,I,rfl,h⟩
theorem Cn{j pos}:PE X (.Constant .none j pos) (tC .non):=fun _ _ _ H _ I h=>Constant_none ⟨.non,H,I,rfl,h⟩
theorem wB{x j pos}:PE X (.Constant (.str x) j pos) (tC (.str x)):=fun _ _ _ H _ I h=>Calls.Constant_str ⟨.str x,H,I.tok _,⟨_,rfl⟩,h⟩
def Gl(X:Cx)(x:Str):Prop:=X.env.kindOf x=some .globalImplicit
theorem tG{E:Value->Shared->Prop}{pins:List (Addr×Obj)}{s:Shared}{σ:St}{H:Hp}{x:Str}{u:Value}{pos:Pos}{Q:Value->Shared->Prop}(I:aN X pins σ H s)(hg:Gl X x)(hm:X.mg x=some u)(h:Q u s)
  (hd:(x == ("__debug__" : Str))=false:=by decide):wpAny (model X.prog X.w) X.A (eval (.Name x pos) X.env) Q E s:=
 Calls.Name_function_global I.ok.kind hg (Calls.loadGlobal_global (by rw[I.ok.glob];exact I.mod.glob.keeps I.bk) hm h) hd
theorem ke{E:Value->Shared->Prop}{pins:List (Addr×Obj)}{s:Shared}{σ:St}{H:Hp}{x:Str}{u:Value}{pos:Pos}{Q:Value->Shared->Prop}(I:aN X pins σ H s)(hg:Gl X x)(hm:X.mg x=none)(hv:bootBuiltins x=some u)(h:Q u s)
  (hn:x ≠ "__name__" := by decide) (hd:(x == ("__debug__" : Str))=false:=by decide):wpAny (model X.prog X.w) X.A (eval (.Name x pos) X.env) Q E s:=by
 obtain⟨mb,h1,h2⟩:=I.mod.blt;exact Calls.Name_function_global I.ok.kind hg (Calls.loadGlobal_builtin (by rw[I.ok.glob];exact I.mod.glob.keeps I.bk) hm (by rw[I.ok.blt];exact h1.keeps I.bk) ((h2 x hn).trans hv) h) hd
theorem tx {x:Str}{v:V}{u:Value}{pos:Pos} (hg:Gl X x) (hm:X.mg x=some u) (r:bJ v u) (hd:(x == ("__debug__" : Str))=false:=by decide):PE X (.Name x pos) (tC v):=
 fun _ _ _ H _ I h=>tG I hg hm ⟨v,H,I,r,h⟩ hd
theorem zE {x:Str}{v:V}{u:Value}{pos:Pos} (hg:Gl X x) (hm:X.mg x=none) (hv:bootBuiltins x=some u) (r:bJ v u) (hn:x ≠ "__name__" := by decide) (hd:(x == ("__debug__" : Str))=false:=by decide):PE X (.Name x pos) (tC v):=
 fun _ _ _ H _ I h=>ke I hg hm hv ⟨v,H,I,r,h⟩ hn hd
variable{a b:Expr}{ta tb:TE}{pos:Pos}
variable{tA tB':TT}{rest:List Expr}
def FC(t u:TT):TT:=fun σ H Q=>t σ H fun c H1=>if c=true then u σ H1 Q else Q false H1
def F8(t u:TT):TT:=fun σ H Q=>t σ H fun c H1=>if c=true then Q true H1 else u σ H1 Q
def Fw(t:TT):TT:=fun σ H Q=>t σ H fun c H1=>Q (!c) H1
theorem zm(ha:PT X a tA):PW X (.BoolOp .And [a] pos) tA:=by
 intro wh pins s σ H Q I h;refine isTrue_and (c0 (ha pins s σ H Q I h) fun c s1 e=>?_);cases c with
 |true=>exact isTrue_and_nil e
 |false=>exact e
theorem B6(ha:PT X a tA):PW X (.BoolOp .Or [a] pos) tA:=by
 intro wh pins s σ H Q I h;refine isTrue_or (c0 (ha pins s σ H Q I h) fun c s1 e=>?_);cases c with
 |false=>exact isTrue_or_nil e
 |true=>exact e
theorem B7(ha:PT X a tA)(hb:PW X (.BoolOp .And (b::rest) pos) tB'):PW X (.BoolOp .And (a::b::rest) pos) (FC tA tB'):=by
 intro wh pins s σ H Q I h;refine isTrue_and (c0 (ha pins s σ H _ I h) fun c s1 ⟨H1,I1,q1⟩=>?_);cases c with
 |true=>exact hb wh pins s1 σ H1 Q I1 q1
 |false=>exact⟨H1,I1,q1⟩
theorem Em(ha:PT X a tA)(hb:PW X (.BoolOp .Or (b::rest) pos) tB'):PW X (.BoolOp .Or (a::b::rest) pos) (F8 tA tB'):=by
 intro wh pins s σ H Q I h;refine isTrue_or (c0 (ha pins s σ H _ I h) fun c s1 ⟨H1,I1,q1⟩=>?_);cases c with
 |true=>exact⟨H1,I1,q1⟩
 |false=>exact hb wh pins s1 σ H1 Q I1 q1
theorem B8(ha:PT X a tA):PT X (.UnaryOp .Not a pos) (Fw tA):=by
 intro pins s σ H Q I h;exact isTrue_not (ha pins s σ H (fun c H1=>Q (!c) H1) I h)
def Ec(ta tb:TE):TE:=fun σ H Q=>ta σ H fun x H1=>∃c,x=.bl c/\if c=true then tb σ H1 Q else Q (.bl false) H1
def Fv(ta tb:TE):TE:=fun σ H Q=>ta σ H fun x H1=>∃c,x=.bl c/\if c=true then Q (.bl true) H1 else tb σ H1 Q
def D7(ta:TE):TE:=fun σ H Q=>ta σ H fun x H1=>∃c,x=.bl c/\Q (.bl (!c)) H1
theorem Ck{op}{t:TE}(h:PE X a t):PE X (.BoolOp op [a] pos) t:=fun pins s σ H Q I hw=>BoolOp_one (h pins s σ H Q I hw)
theorem Cq(ha:PE X a ta)(hb:PE X (.BoolOp .And (b::rest) pos) tb):PE X (.BoolOp .And (a::b::rest) pos) (Ec ta tb):=by
 intro pins s σ H Q I h;refine BoolOp_and (c0 (ha pins s σ H _ I h) fun v s1 ⟨x,H1,I1,r1,q1⟩=>?_);obtain⟨c,rfl,q1⟩:=q1;cases r1;refine GN ?_;cases c with
 |true=>exact hb pins s1 σ H1 Q I1 q1
 |false=>exact⟨.bl false,H1,I1,rfl,q1⟩
theorem Eo(ha:PE X a ta)(hb:PE X (.BoolOp .Or (b::rest) pos) tb):PE X (.BoolOp .Or (a::b::rest) pos) (Fv ta tb):=by
 intro pins s σ H Q I h;refine BoolOp_or (c0 (ha pins s σ H _ I h) fun v s1 ⟨x,H1,I1,r1,q1⟩=>?_);obtain⟨c,rfl,q1⟩:=q1;cases r1;refine GN ?_;cases c with
 |false=>exact hb pins s1 σ H1 Q I1 q1
 |true=>exact⟨.bl true,H1,I1,rfl,q1⟩
theorem Cm(ha:PE X a ta):PE X (.UnaryOp .Not a pos) (D7 ta):=by
 intro pins s σ H Q I h;refine UnaryOp_ (c0 (ha pins s σ H _ I h) fun v s1 ⟨x,H1,I1,r1,q1⟩=>?_);obtain⟨c,rfl,q1⟩:=q1;cases r1;exact not_of (GN ⟨.bl (!c),H1,I1,rfl,q1⟩)
end
end L2
namespace L2
open PySem PySem.Spec PyProof.Rows
def dW(K:W.Frag)(H:Hp)(a:Addr)(xs:List V):Prop:=
 Rd H a (.lst xs) \/
  ∃(o:Obj) (its:Array Value) (n:Nat),K.lookup a=some o/\o.cls=.type "list" /\ o.dict=none/\o.data=.seq its n/\its.size<=sizeLine/\aX xs its.toList
def eD(K:W.Frag)(H:Hp)(a:Addr)(xs:List V):Prop:=
 Rd H a (.tup xs) \/
  ∃(o:Obj) (its:Array Value) (n:Nat),K.lookup a=some o/\o.cls=.type "tuple" /\ o.data=.seq its n/\its.size<=sizeLine/\aX xs its.toList
def FS:Value->Option V
 |.none=>some .non
 |.bool b=>some (.bl b)
 |.int i _=>some (.int i)
 |.str x _=>some (.str x)
 |.bytes b _=>some (.byt b)
 |.float b _=>some (.flt b)
 |.ref a=>some (.ref a)
 |.type n=>some (.ty n)
 |_=>none
theorem bJ.abs{x:V}{u:Value}(r:bJ x u):FS u=some x:=by
 cases x with
 |non=>cases r;rfl
 |bl _=>cases r;rfl
 |int _=>obtain⟨t,rfl⟩:=r;rfl
 |str _=>obtain⟨t,rfl⟩:=r;rfl
 |byt _=>obtain⟨t,rfl⟩:=r;rfl
 |flt _=>obtain⟨t,rfl⟩:=r;rfl
 |ref _=>cases r;rfl
 |ty _=>cases r;rfl
theorem bJ.inj{x y:V}{u:Value}(r:bJ x u)(q:bJ y u):x=y:=Gj (r.abs.symm.trans q.abs)
theorem aX.inj:∀{xs ys:List V}{us:List Value},aX xs us->aX ys us->xs=ys
 |_,_,_,.nil,.nil=>rfl
 |_,_,_,.cons r t,.cons r' t'=>by rw[r.inj r',aX.inj t t']
section
variable{X:Cx}{pins:List (Addr×Obj)}{σ:St}{H:Hp}{s:Shared}{a:Addr}{xs ys:List V}
theorem dW.of{K:W.Frag}(h:H a=some (.lst xs)):dW K H a xs:=.inl (.inl h)
theorem eD.of{K:W.Frag}(h:H a=some (.tup xs)):eD K H a xs:=.inl (.inl h)
theorem aN.list(I:aN X pins σ H s)(h:dW X.K H a xs):∃its:List Value,aX xs its/\PlainL s.heap a its.toArray/\xs.length<=sizeLine:=by
 rcases h with h|⟨o,its,n,hk,hc,hd,hs,hz,r⟩
 ·obtain⟨z,its,n,r,e⟩:=h.ok I.hok;exact⟨its,r,⟨_,n,e,rfl,rfl,rfl⟩,z⟩
 ·refine⟨its.toList,r,⟨o,n,I.kIn a o hk,hc,hd,by simpa using hs⟩,?_⟩;have e:=r.length;simp only[GO]at e;omega
theorem aN.tuple(I:aN X pins σ H s)(h:eD X.K H a xs):∃its:List Value,aX xs its/\IsTup s.heap a its.toArray/\xs.length<=sizeLine:=by
 rcases h with h|⟨o,its,n,hk,hc,hs,hz,r⟩
 ·obtain⟨z,its,r,p⟩:=h.ok I.hok;exact⟨its,r,p,z⟩
 ·refine⟨its.toList,r,⟨o,I.kIn a o hk,hc,n,by simpa using hs⟩,?_⟩;have e:=r.length;simp only[GO]at e;omega
theorem aN.list_inj(I:aN X pins σ H s)(h:dW X.K H a xs)(h':dW X.K H a ys):xs=ys:=by
 obtain⟨its,r,⟨o,n,e,_,_,d⟩,_⟩:=I.list h;obtain⟨its',r',⟨o',n',e',_,_,d'⟩,_⟩:=I.list h';rw[e]at e';cases e';rw[d]at d';injection d' with d1 _
 have:its=its':=by simpa using GP Array.toList d1
 subst this;exact r.inj r'
theorem aN.tuple_inj(I:aN X pins σ H s)(h:eD X.K H a xs)(h':eD X.K H a ys):xs=ys:=by
 obtain⟨its,r,⟨o,e,_,n,d⟩,_⟩:=I.tuple h;obtain⟨its',r',⟨o',e',_,n',d'⟩,_⟩:=I.tuple h';rw[e]at e';cases e';rw[d]at d';injection d' with d1 _
 have:its=its':=by simpa using GP Array.toList d1
 subst this;exact r.inj r'
end
abbrev Cx.wish(X:Cx)(E:Value->Shared->Prop):Cx:={X with xe:=E}
abbrev Cx.nox(X:Cx):Cx:=X.wish fun _ _=>False
theorem Cx.Ok.wish{X:Cx}(ok:X.Ok)(E:Value->Shared->Prop):(X.wish E).Ok:=
 ⟨ok.mod,ok.kind,ok.glob,ok.blt,ok.above,ok.inj,ok.has,ok.cab,ok.hd,ok.frames,ok.stk,ok.exf,ok.bs,ok.bsz,ok.noex,ok.exfs,ok.funs,ok.frf⟩
theorem Cx.Ok.unwish{X:Cx}{E:Value->Shared->Prop}(ok:(X.wish E).Ok):X.Ok:=
 ⟨ok.mod,ok.kind,ok.glob,ok.blt,ok.above,ok.inj,ok.has,ok.cab,ok.hd,ok.frames,ok.stk,ok.exf,ok.bs,ok.bsz,ok.noex,ok.exfs,ok.funs,ok.frf⟩
section
variable{X:Cx}{pins:List (Addr×Obj)}{σ:St}{H:Hp}{s:Shared}{E:Value->Shared->Prop}
theorem aN.wish(I:aN X pins σ H s)(E:Value->Shared->Prop):aN (X.wish E) pins σ H s:=⟨I.ok.wish E,I.os,I.bare,I.base,I.loc,I.cell,I.free,I.freeC,I.pin,I.hok,I.len⟩
theorem aN.unwish(I:aN (X.wish E) pins σ H s):aN X pins σ H s:=⟨I.ok.unwish,I.os,I.bare,I.base,I.loc,I.cell,I.free,I.freeC,I.pin,I.hok,I.len⟩
theorem SP.unwish{D:lI}{f:Flow}{s':Shared}(h:SP (X.wish E) pins D f s'):SP X pins D f s':=by
 cases f with
 |next=>obtain⟨σ',H',I,q⟩:=h;exact⟨σ',H',I.unwish,q⟩
 |brk=>obtain⟨σ',H',I,q⟩:=h;exact⟨σ',H',I.unwish,q⟩
 |cont=>obtain⟨σ',H',I,q⟩:=h;exact⟨σ',H',I.unwish,q⟩
 |ret u=>obtain⟨v,σ',H',I,r,q⟩:=h;exact⟨v,σ',H',I.unwish,r,q⟩
theorem i6.nox{st:List Stmt}{t:TS}(h:i6 X.nox st t):i6 X st t:=fun pins s σ H D I hw=>
 GM (h pins s σ H D (I.wish _) hw) (fun _ _ q=>q.unwish) fun _ _ z=>False.elim z
end
section
variable{X:Cx}{st:Stmt}{rest:List Stmt}{t u:TS}{e:Expr}{te:TE}{pos:Pos}
def D8:TS:=fun D σ H=>D.nx σ H
def Ft(t u:TS):TS:=fun D σ H=>t {D with nx:=u D} σ H
theorem zt:i6 X [] D8:=fun _ _ σ H _ I h=>GQ ⟨σ,H,I,h⟩
theorem xC(h1:PS X st t)(h2:i6 X rest u):i6 X (st::rest) (Ft t u):=by
 intro pins s σ H D I h;refine wpAny_execs_cons (c0 (h1 pins s σ H {D with nx:=u D} I h) fun f s1 q=>?_);cases f with
 |next=>
  obtain⟨σ',H',I',q⟩:=q;exact h2 pins s1 σ' H' D I' q
 |ret v=>exact q
 |brk=>exact q
 |cont=>exact q
theorem zr(h1:PS X st t):i6 X [st] t:=by
 intro pins s σ H D I h;refine wpAny_execs_cons (c0 (h1 pins s σ H D I h) fun f s1 q=>?_);cases f with
 |next=>exact GQ q
 |ret v=>exact q
 |brk=>exact q
 |cont=>exact q
theorem aN.quiet{pins:List (Addr×Obj)}{σ:St}{H:Hp}{s:Shared}(I:aN X pins σ H s):interactive X.env=false:=by simp[interactive,I.ok.kind]
def D9(te:TE):TS:=fun D σ H=>te σ H fun _ H1=>D.nx σ H1
theorem zv(he:PE X e te)(hs:swapsWith e none pos.line X.env=pure false:=by rfl):PS X (.Expr e pos) (D9 te):=by
 intro pins s σ H D I h;exact wpAny_Expr_any (c0 (he pins s σ H _ I h) fun v s1 ⟨x,H1,I1,r1,q1⟩=>⟨σ,H1,I1,q1⟩) I.quiet hs
def Fu(te:TE):TS:=fun D σ H=>te σ H D.rt
theorem Ca(he:PE X e te):PS X (.Return (some e) pos) (Fu te):=by
 intro pins s σ H D I h;exact wpAny_Return_some (c0 (he pins s σ H _ I h) fun v s1 ⟨x,H1,I1,r1,q1⟩=>⟨x,σ,H1,I1,r1,q1⟩)
def FA(c:TT)(t u:TS):TS:=fun D σ H=>c σ H fun b H1=>if b=true then t D σ H1 else u D σ H1
theorem En{c:Expr}{a b:List Stmt}{tc:TT}(hc:PT X c tc)(ha:i6 X a t)(hb:i6 X b u):PS X (.If c a b pos) (FA tc t u):=by
 intro pins s σ H D I h;refine wpAny_If (c0 (hc pins s σ H _ I h) fun d s1 ⟨H1,I1,q1⟩=>?_);cases d with
 |true=>exact ha pins s1 σ H1 D I1 q1
 |false=>exact hb pins s1 σ H1 D I1 q1
def Bv:TS:=fun _ _ _=>False
theorem xE:PS X st Bv:=fun _ _ _ _ _ _ h=>h.elim
end
abbrev TG:=V->St->Hp->(St->Hp->Prop)->Prop
abbrev yp:=List V->St->Hp->(St->Hp->Prop)->Prop
def PG(X:Cx)(target:Expr)(t:TG):Prop:=
 ∀(pins:List (Addr×Obj))(s:Shared)(σ:St)(H:Hp)(v:V)(u:Value)(Q:St->Hp->Prop),aN X pins σ H s->bJ v u->t v σ H Q ->
  wpAny (model X.prog X.w) X.A (assign target X.env u) (fun _ s'=>∃σ' H',aN X pins σ' H' s'/\Q σ' H') X.xe s
def qT(X:Cx)(ts:List Expr)(t:yp):Prop:=
 ∀(pins:List (Addr×Obj))(s:Shared)(σ:St)(H:Hp)(vs:List V)(us:List Value)(Q:St->Hp->Prop),aN X pins σ H s->aX vs us->t vs σ H Q ->
  wpAny (model X.prog X.w) X.A (assignInOrder ((assignEach ts X.env).map (·.2)) us) (fun _ s'=>∃σ' H',aN X pins σ' H' s'/\Q σ' H') X.xe s
abbrev Bi:=V->V->V->Hp->(Hp->Prop)->Prop
def DZ(X:Cx)(t:Bi):Prop:=
 ∀(pins:List (Addr×Obj))(s:Shared)(σ:St)(H:Hp)(o i v:V)(ov iv u:Value)(Q:Hp->Prop),aN X pins σ H s->bJ o ov->bJ i iv->bJ v u->t o i v H Q ->
  wpAny (model X.prog X.w) X.A (setItem ov iv u) (fun _ s'=>∃H',aN X pins σ H' s'/\Q H') X.xe s
section
variable{X:Cx}{pos:Pos}
def pB(i:Nat):TG:=fun v σ H Q=>Q (σ.set i (some v)) H
theorem zA{i:Nat}{x:Str}(hN:X.N.Nodup)(hi:X.N[i]?=some x)(hx:Ap X.env.scope x)(hf:X.fn x=true\/X.env.scope.names.lookup x=some .local:=by first|exact .inl rfl|exact .inr rfl|assumption):PG X (.Name x pos) (pB i):=by
 intro pins s σ H v u Q I r h;exact wpAny_assign_Name (pN I hN hi hx r (fun s' I'=>⟨_,H,I',h⟩) hf)
def FP:yp:=fun vs σ H Q=>vs=[]/\Q σ H
def EG(t:TG)(u:yp):yp:=fun vs σ H Q=>∃v r,vs=v::r/\t v σ H fun σ' H'=>u r σ' H' Q
theorem zz:qT X [] FP:=by
 intro pins s σ H vs us Q I r h;obtain⟨e,h⟩:=h;subst e;cases r;exact assignInOrder_nil ⟨σ,H,I,h⟩
theorem xG{e:Expr}{es:List Expr}{t:TG}{u:yp}(h1:PG X e t)(h2:qT X es u)
  (hs:(assignEach (e::es) X.env).map (·.2)=assign e X.env::(assignEach es X.env).map (·.2):=by rfl):qT X (e::es) (EG t u):=by
 intro pins s σ H vs us Q I r h;obtain⟨v,vr,e1,h⟩:=h;subst e1;cases r with
 |cons r rr=>
  rw[hs];refine assignInOrder_cons (c0 (h1 pins s σ H _ _ _ I r h) fun _ s1 ⟨σ1,H1,I1,q1⟩=>?_);exact h2 pins s1 σ1 H1 _ _ Q I1 rr q1
def FN(K:W.Frag)(n:Nat)(t:yp):TG:=fun v σ H Q=>∃a xs,v=.ref a/\eD K H a xs/\xs.length=n/\t xs σ H Q
theorem Cf{es:List Expr}{k:Nat}{t:yp}{n:Nat}(hc:X.calm=true)(h:qT X es t)
  (hn:(assignEach es X.env).length=n:=by rfl) (hst:(assignEach es X.env).findIdx? (·.1)=none:=by rfl):PG X (.Tuple es k pos) (FN X.K n t):=by
 intro pins s σ H v u Q I r hw;obtain⟨a,xs,e1,hq,hl,hw⟩:=hw;subst e1;cases r;obtain⟨its,rv,ht,hz⟩:=I.tuple hq;refine assign_Tuple_tuple (I.ok.hd hc) ht (by simp[hn,<- hl,rv.length]) hst fun h' hx=>?_;have I1:aN X pins σ H {s with heap:=h'}:=I.kept (t':=s.toks) fun b o e=>hx b o (Gw (Gs e)) e;exact h pins _ σ H xs _ Q I1 (by simpa using rv) hw
def FO(to ti:TE)(t:Bi):TG:=fun v σ H Q=>to σ H fun o H1=>ti σ H1 fun i H2=>t o i v H2 fun H3=>Q σ H3
theorem Cg{o i:Expr}{to ti:TE}{t:Bi}(ho:PE X o to)(hi:PE X i ti)(hs:DZ X t)
  (ha : ∀ v, assign (.Subscript o i pos) X.env v = (do
   let ov <- holding [v] (eval o X.env)
   let iv <- holding [v,ov] (eval i X.env)
   standAt pos
   holding [v,ov,iv] (setItem ov iv v)
   release [v,ov,iv] []):=by intro _;rfl):PG X (.Subscript o i pos) (FO to ti t):=by
 intro pins s σ H v u Q I r h;rw[ha];refine GR (GS (c0 (ho pins s σ H _ I h) fun ov s1 ⟨x,H1,I1,r1,q1⟩=>?_));refine GR (GS (c0 (hi pins s1 σ H1 _ I1 q1) fun iv s2 ⟨y,H2,I2,r2,q2⟩=>?_));refine GR (GT (GR (GS (c0 (hs pins s2 σ H2 x y v ov iv u _ I2 r1 r2 r q2) fun _ s3 ⟨H3,I3,q3⟩=>?_))));exact wpAny_release ⟨σ,H3,I3,q3⟩
def vH(te:TE)(g:TG):TS:=fun D σ H=>te σ H fun x H1=>g x σ H1 D.nx
theorem Cc{tg e:Expr}{te:TE}{g:TG}(he:PE X e te)(hg:PG X tg g)(hs:swapsWithSole [tg] e pos.line X.env=pure false:=by rfl)(hw:swappedStores [tg] e X.env=pure none:=by rfl)
  (h1:(assignEach [tg] X.env).map (·.2)=[assign tg X.env]:=by rfl):PS X (.Assign [tg] e pos) (vH te g):=by
 intro pins s σ H D I h;refine wpAny_Assign_stores (c0 (he pins s σ H _ I h) fun v s1 ⟨x,H1,I1,r1,q1⟩=>?_) hs hw;rw[h1];exact c0 (hg pins s1 σ H1 x v _ I1 r1 q1) fun _ s2 q=>q
theorem B9{i:Nat}{x:Str}{e:Expr}{te:TE}{pos':Pos}(hN:X.N.Nodup)(hi:X.N[i]?=some x)(hx:Ap X.env.scope x)(he:PE X e te)(hs:swapsWith e (some (.Name x pos')) pos.line X.env=pure false:=by rfl)(hf:X.fn x=true\/X.env.scope.names.lookup x=some .local:=by first|exact .inl rfl|exact .inr rfl|assumption) :
  PS X (.Assign [.Name x pos'] e pos) (vH te (pB i)):=by
 intro pins s σ H D I h;refine wpAny_Assign_Name (c0 (he pins s σ H _ I h) fun v s1 ⟨y,H1,I1,r1,q1⟩=>?_) hs;exact pN I1 hN hi hx r1 (fun s2 I2=>⟨_,H1,I2,q1⟩) hf
end
section
variable{X:Cx}{pos:Pos}
end
structure It where
 go:Nat->Hp->Prop
 yld:Nat->Hp->V->Hp->Prop
 stop:Nat->Hp->Prop
def jD(X:Cx)(pins:List (Addr×Obj))(H:Hp)(b:Addr):Prop:=
 H b=none/\b≠X.env.locals/\b∉X.fs/\(b∈X.ex\/X.s₀.heap.objs.size<=b)/\(∀x c,X.env.cells.lookup x=some c->c≠b)/\∀p∈X.pn++pins,p.1≠b
theorem aN.fpOk{X:Cx}{pins:List (Addr×Obj)}{σ:St}{H H':Hp}{s:Shared}{b:Addr}(I:aN X pins σ H s)(hb:s.heap.objs.size<=b)(hn:H' b=none):jD X pins H' b:=by
 refine⟨hn,GU (Gu I.lt hb),I.nofs hb,.inr (Gz I.sz hb),fun x c e z=>?_,fun p hp z=>?_⟩
 ·obtain⟨v,q⟩:=I.cell x c e;exact absurd (Gu q.lt (by rw[z];exact hb)) (Gv _)
 ·exact absurd (Gu (Gs (I.pin p hp).1) (by rw[z];exact hb)) (Gv _)
structure qX(P:Program)(w:World)(K:W.Frag)(tg:Expr)(J:It)(fp:List Addr)(it:Addr)(tn:Nat->Heap->Prop):Prop where
 mem:it∈fp
 obj:∀i h,tn i h->∀b∈fp,∃o,h.get? b=some o/\∀v,o.data≠.cell v
 keep:∀i h h',tn i h->(∀b∈fp,∀o,h.get? b=some o->h'.get? b=some o)->tn i h'
 item:∀(X:Cx),X.prog=P->X.w=w->X.K=K->X.calm=true->∀(i:Nat)(pins:List (Addr×Obj))(s:Shared)(σ:St)(H:Hp)(E:Value->Shared->Prop),aN X pins σ H s->(∀b∈fp,jD X pins H b)->tn i s.heap->J.go i H ->
  wpAny (model P w) X.A (pyNext (.ref it)) (fun r s1=>∃u,r=some u /\
   wpAny (model P w) X.A (letOwnedTupleGo tg (.ref it) u) (fun _ s2=>∃x H',aN X pins σ H' s2/\bJ x u/\J.yld i H x H'/\tn (i+1) s2.heap/\∀b∈fp,H' b=none) E s1) E s
 done:∀(X:Cx),X.prog=P->X.w=w->X.K=K->X.calm=true->∀(i:Nat)(pins:List (Addr×Obj))(s:Shared)(σ:St)(H:Hp)(E:Value->Shared->Prop),aN X pins σ H s->(∀b∈fp,jD X pins H b)->tn i s.heap->J.stop i H ->
  wpAny (model P w) X.A (pyNext (.ref it)) (fun r s1=>r=none/\aN X pins σ H s1) E s
 self:∀(A:Around)(i:Nat)(s:Shared)(Q:Value->Shared->Prop)(E:Value->Shared->Prop),tn i s.heap->Q (.ref it) s->wpAny (model P w) A (pyIter (.ref it)) Q E s
abbrev TI:=St->Hp->(It->Hp->Prop)->Prop
def E1(X:Cx)(pins:List (Addr×Obj))(σ:St)(tg:Expr)(R:It->Hp->Prop)(itv:Value)(s2:Shared):Prop:=
 ∃(it:Addr)(fp:List Addr)(tn:Nat->Heap->Prop)(J:It)(H':Hp),itv=.ref it/\aN X pins σ H' s2/\qX X.prog X.w X.K tg J fp it tn/\tn 0 s2.heap/\(∀b∈fp,jD X pins H' b)/\R J H'
def PI(X:Cx)(tg iter:Expr)(wi:TI):Prop:=
 ∀(pins:List (Addr×Obj))(s:Shared)(σ:St)(H:Hp)(R:It->Hp->Prop),aN X pins σ H s->wi σ H R ->
  wpAny (model X.prog X.w) X.A (eval iter X.env) (fun v s1=>wpAny (model X.prog X.w) X.A (pyIter v) (E1 X pins σ tg R) X.xe s1) X.xe s
theorem sF{M:Model}{A:Around}{E:Value->Shared->Prop}{s:Shared}{tg:Expr}{it:Addr}{u:Value}{o:Obj}{n:String}{vs:Array Value}{Q:Unit->Shared->Prop}(ho:s.heap.get? it=some o)(hc:o.cls=.type n)(hd:o.data=.fields vs)
  (hn:["enumerate", "zip", "dict_itemiterator", "dict_reverseitemiterator", "odict_iterator", "itertools.zip_longest", "itertools.pairwise"].contains n=false) (hQ:Q () s):wpAny M A (letOwnedTupleGo tg (.ref it) u) Q E s:=by
 unfold letOwnedTupleGo
 cases tg <;> first
  |exact GV hQ
  |(cases u <;> first
    |exact GV hQ
    | (refine GR (GX ho ?_)
       rw[hc,hd];show wpAny M A (if (["enumerate", "zip", "dict_itemiterator", "dict_reverseitemiterator", "odict_iterator", "itertools.zip_longest", "itertools.pairwise"].contains n&&vs[0]? == some (rawInt _))=true then _ else _) Q E s;rw[Gr (by intro h;rw[hn,Bool.false_and]at h;cases h)]
       exact GV hQ))
def E3(K:W.Frag)(a:Addr):It:=
 ⟨fun i H=>∃xs x,dW K H a xs/\xs[i]?=some x,fun i H x H'=>H'=H/\∀xs,dW K H a xs->xs[i]?=some x,fun i H=>∃xs,dW K H a xs/\xs.length<=i⟩
def Fj(K:W.Frag)(a:Addr):It:=
 ⟨fun i H=>∃xs x,eD K H a xs/\xs[i]?=some x,fun i H x H'=>H'=H/\∀xs,eD K H a xs->xs[i]?=some x,fun i H=>∃xs,eD K H a xs/\xs.length<=i⟩
def Ds(lo:Int)(n:Nat):It:=⟨fun i _=>i<n,fun i H x H'=>H'=H/\x=.int (lo+i),fun i _=>n<=i⟩
theorem uk{P:Program}{w:World}{K:W.Frag}{tg:Expr}(a it:Addr):qX P w K tg (E3 K a) [it] it (fun i h=>h.IsListIter it a i) where
 mem:=by simp
 obj:=fun i h st b hb=>by
  have e:b=it:=by simpa using hb
  subst e;obtain⟨o,e,c,d⟩:=st;exact⟨o,e,fun v z=>by rw[d]at z;cases z⟩
 keep:=fun i h h' st k=>st.at fun o e=>k it (by simp) o e
 item:=by
  intro X hP hw hK hc i pins s σ H E I hf st hg;subst hP hw hK;obtain⟨xs,x,hq,hx⟩:=hg;obtain⟨its,rv,p,hz⟩:=I.list hq;obtain⟨u,hu,ru⟩:=rv.get hx;obtain⟨f0,f1,f2,f3,f4,f5⟩:=hf it (by simp);refine wpAny_pyNext_list_item st p.isList (x:=u) (by simpa using hu) fun h' st' sb=>?_;have I1:aN X pins σ H {s with heap:=h'}:=I.turned (t':=s.toks) (fun b o hb e=>(sb.2 b hb).trans e) f0 f1 f3 f4 f5;obtain⟨o,e,c,d⟩:=id st';exact⟨u,rfl,sF (s:={s with heap:=h'}) e c d (by decide) ⟨x,H,I1,ru,⟨rfl,fun ys hy=>by rw[I.list_inj hy hq];exact hx⟩,st',fun b hb=>(hf b hb).1⟩⟩
 done:=by
  intro X hP hw hK hc i pins s σ H E I hf st hg;subst hP hw hK;obtain⟨xs,hq,hx⟩:=hg;obtain⟨its,rv,p,hz⟩:=I.list hq;obtain⟨f0,f1,f2,f3,f4,f5⟩:=hf it (by simp);have hl:=rv.length;exact wpAny_pyNext_list_end (I.ok.hd hc) st p.isList (by simp;omega) fun h' eb=>⟨rfl,I.turned (t':=s.toks) (fun b o hb e=>eb b o hb e) f0 f1 f3 f4 f5⟩
 self:=fun _ _ _ _ _ st h=>wpAny_pyIter_listiter st h
theorem rG{P:Program}{w:World}{K:W.Frag}{tg:Expr}(a it:Addr):qX P w K tg (Fj K a) [it] it (fun i h=>h.IsTupleIter it a i) where
 mem:=by simp
 obj:=fun i h st b hb=>by
  have e:b=it:=by simpa using hb
  subst e;obtain⟨o,e,c,d⟩:=st;exact⟨o,e,fun v z=>by rw[d]at z;cases z⟩
 keep:=fun i h h' st k=>st.at fun o e=>k it (by simp) o e
 item:=by
  intro X hP hw hK hc i pins s σ H E I hf st hg;subst hP hw hK;obtain⟨xs,x,hq,hx⟩:=hg;obtain⟨its,rv,p,hz⟩:=I.tuple hq;obtain⟨u,hu,ru⟩:=rv.get hx;obtain⟨f0,f1,f2,f3,f4,f5⟩:=hf it (by simp);refine wpAny_pyNext_tuple_item st (show s.heap.IsTuple a its.toArray from p) (x:=u) (by simpa using hu) fun h' st' sb=>?_;have I1:aN X pins σ H {s with heap:=h'}:=I.turned (t':=s.toks) (fun b o hb e=>(sb.2 b hb).trans e) f0 f1 f3 f4 f5;obtain⟨o,e,c,d⟩:=id st';exact⟨u,rfl,sF (s:={s with heap:=h'}) e c d (by decide) ⟨x,H,I1,ru,⟨rfl,fun ys hy=>by rw[I.tuple_inj hy hq];exact hx⟩,st',fun b hb=>(hf b hb).1⟩⟩
 done:=by
  intro X hP hw hK hc i pins s σ H E I hf st hg;subst hP hw hK;obtain⟨xs,hq,hx⟩:=hg;obtain⟨its,rv,p,hz⟩:=I.tuple hq;obtain⟨f0,f1,f2,f3,f4,f5⟩:=hf it (by simp);have hl:=rv.length;exact wpAny_pyNext_tuple_end (I.ok.hd hc) st (show s.heap.IsTuple a its.toArray from p) (by simp;omega) fun h' eb=>⟨rfl,I.turned (t':=s.toks) (fun b o hb e=>eb b o hb e) f0 f1 f3 f4 f5⟩
 self:=fun _ _ _ _ _ st h=>wpAny_pyIter_tupleiter st h
theorem rH{P:Program}{w:World}{K:W.Frag}{tg:Expr}(it:Addr)(lo:Int)(n:Nat):qX P w K tg (Ds lo n) [it] it (fun i h=>IsRangeIter h it (lo+(i:Nat)*1) ((n:Int)-(i:Nat)) 1) where
 mem:=by simp
 obj:=fun i h st b hb=>by
  have e:b=it:=by simpa using hb
  subst e
  exact⟨_,st,fun v z=>by
   have z':Data.fields _=Data.cell v:=z
   cases z'⟩
 keep:=fun i h h' st k=>k it (by simp) _ st
 item:=by
  intro X hP hw hK hc i pins s σ H E I hf st hg;subst hP hw hK;obtain⟨f0,f1,f2,f3,f4,f5⟩:=hf it (by simp);have W:=Walks.range (prog:=X.prog) (w:=X.w) (I.ok.hd hc) it lo 1 n;refine W.item i s _ _ hg st fun v h' tk hv st' kk=>?_;obtain⟨t,rfl⟩:=hv;have I1:aN X pins σ H {s with heap:=h',toks:=tk}:=I.turned (fun b o hb e=>kk b o (by simpa using hb) e) f0 f1 f3 f4 f5;refine⟨_,rfl,sF (s:={s with heap:=h',toks:=tk}) (n:="range_iterator") st' rfl rfl (by decide) ⟨.int (lo+i),H,I1,⟨t,?_⟩,⟨rfl,rfl⟩,st',fun b hb=>(hf b hb).1⟩⟩;rw[Int.mul_one]
 done:=by
  intro X hP hw hK hc i pins s σ H E I hf st hg;subst hP hw hK;obtain⟨f0,f1,f2,f3,f4,f5⟩:=hf it (by simp);exact wpAny_pyNext_range_end (I.ok.hd hc) st (by have:n<=i:=hg;omega) fun h' eb=>⟨rfl,I.turned (t':=s.toks) (fun b o hb e=>eb b o hb e) f0 f1 f3 f4 f5⟩
 self:=fun _ _ _ _ _ st h=>wpAny_pyIter_rangeiter st h
end L2
namespace L2
open PySem PySem.Spec PyProof.Rows
section
variable{X:Cx}{tg:Expr}
theorem pT{pins:List (Addr×Obj)}{σ:St}{H:Hp}{s:Shared}{R:It->Hp->Prop}{E:Value->Shared->Prop}{lo hi:Int}{t u v:Tok}{tk:Nat}(I:aN X pins σ H s)(h1:-(2^62)<=lo)(h2:lo<2^62)(h3:-(2^62)<=hi)(h4:hi<2^62)
  (q:R (Ds lo (hi-lo).toNat) H):wpAny (model X.prog X.w) X.A (pyIter (.ref s.heap.objs.size)) (E1 X pins σ tg R) E {s with heap:=s.heap.push {cls:=.type "range",data:=.fields #[.int lo t,.int hi u,.int 1 v]},toks:=tk}:=by
 refine wpAny_pyIter_range (IsRange.new ..) (small_one h1 h2 h3 h4) ?_;have I1:aN X pins σ H {s with heap:=s.heap.push {cls:=.type "range",data:=.fields #[.int lo t,.int hi u,.int 1 v]},toks:=tk}:=I.kept fun b o e=>GY _ e
 refine⟨(s.heap.push {cls:=.type "range",data:=.fields #[.int lo t,.int hi u,.int 1 v]}).objs.size,[(s.heap.push {cls:=.type "range",data:=.fields #[.int lo t,.int hi u,.int 1 v]}).objs.size],_,_,H,rfl,
  I1.kept (t':=tk) fun b o e=>GY _ e,rH _ lo (hi-lo).toNat,?_,fun b hb=>?_,q⟩
 ·have e1 : lo + ((0 : Nat) : Int) * 1 = lo := by simp
  have e2:(((hi-lo).toNat:Nat):Int)-((0:Nat):Int)=Builtin.Range.rangeSize lo hi 1:=by rw[rangeSize_one];split <;> omega
  show IsRangeIter _ _ (lo+((0:Nat):Int)*1) ((((hi-lo).toNat:Nat):Int)-((0:Nat):Int)) 1;rw[e1,e2];exact GZ _ rfl
 ·have e : b = (s.heap.push { cls := .type "range", data := .fields #[.int lo t, .int hi u, .int 1 v] }).objs.size := by simpa using hb
  subst e;exact I1.fpOk (G0 _) (I1.hok.fresh (G0 _))
def EF(ta:TA):TI:=fun σ H R=>ta σ H fun vs H1=>∃j:Int,vs=[.int j]/\-(2^62)<=j/\j<2^62/\R (Ds 0 j.toNat) H1
def EE(ta:TA):TI:=fun σ H R=>ta σ H fun vs H1=>∃i j:Int,vs=[.int i,.int j]/\(-(2^62)<=i/\i<2^62/\-(2^62)<=j/\j<2^62)/\R (Ds i (j-i).toNat) H1
theorem uH {a:Expr}{ta:TA}{p pos:Pos} (hg:Gl X "range") (hm:X.mg "range" = none) (ha:PA X [a] ta) (hs:starEach [a] X.env=[(false,eval a X.env)]:=by rfl):PI X tg (.Call (.Name "range" p) [a] [] pos) (EF ta):=by
 intro pins s σ H R I h;refine Call_ (ke I hg hm boot_range (G1 (c0 (ha pos pins s σ H _ I h) fun us s1 ⟨vs,H1,I1,r1,q1⟩=>?_) hs rfl));obtain⟨j,e,q1,q2,q⟩:=q1;subst e;cases r1 with
 |cons r rr=>
  cases rr;obtain⟨t,rfl⟩:=r;exact call_range_1 (pT I1 (by omega) (by omega) q1 q2 (by simpa using q))
theorem uG {a b:Expr}{ta:TA}{p pos:Pos} (hg:Gl X "range") (hm:X.mg "range" = none) (ha:PA X [a,b] ta) (hs:starEach [a,b] X.env=[(false,eval a X.env),(false,eval b X.env)]:=by rfl) (hs2:starEach [b] X.env=[(false,eval b X.env)]:=by rfl) :
  PI X tg (.Call (.Name "range" p) [a,b] [] pos) (EE ta):=by
 intro pins s σ H R I h;refine Call_ (ke I hg hm boot_range (G1 (c0 (ha pos pins s σ H _ I h) fun us s1 ⟨vs,H1,I1,r1,q1⟩=>?_) (by rw[hs,hs2]) (by rw[hs2];rfl)));obtain⟨i,j,e,⟨q1,q2,q3,q4⟩,q⟩:=q1;subst e;cases r1 with
 |cons r rr=>
  cases rr with
  |cons r' rr=>
   cases rr;obtain⟨t,rfl⟩:=r;obtain⟨t',rfl⟩:=r';exact call_range_2 (pT I1 q1 q2 q3 q4 q)
def FB(wi:TI)(g:TG)(tb:TS):TS:=fun D σ H=>wi σ H fun J H1=>∃W:Nat->Nat->St->Hp->Prop,(∃m,W 0 m σ H1)/\∀i m σ H,W i m σ H ->
 (J.stop i H/\D.nx σ H)\/(J.go i H/\∃N:St->Hp->Prop,(∀σ' H',N σ' H'->∃m',m'<m/\W (i+1) m' σ' H')/\∀x H',J.yld i H x H'->g x σ H' fun σ2 H2=>tb {D with nx:=N,ct:=N,bk:=D.nx} σ2 H2)
def lU(fp:List Addr)(h:Heap):List (Addr×Obj):=fp.filterMap fun b=>(h.get? b).map fun o=>(b,o)
theorem gX{fp:List Addr}{h:Heap}{b:Addr}{o:Obj}(hb:b∈fp)(e:h.get? b=some o):(b,o)∈lU fp h:=G2.mpr ⟨b,hb,by rw[e];rfl⟩
theorem uN{fp:List Addr}{h:Heap}{p:Addr×Obj}(hp:p∈lU fp h):p.1∈fp/\h.get? p.1=some p.2:=by
 obtain⟨b,hb,e⟩:=G2.mp hp;cases q:h.get? b with
 |none=>rw[q]at e;cases e
 |some o=>
  rw[q]at e;have e':(b,o)=p:=Gj e;subst e';exact⟨hb,q⟩
theorem aN.pinned{pins:List (Addr×Obj)}{σ:St}{H:Hp}{s:Shared}{fp:List Addr}(I:aN X pins σ H s)(hf:∀b∈fp,jD X pins H b)(ho:∀b∈fp,∃o,s.heap.get? b=some o/\∀v,o.data≠.cell v):aN X (pins++lU fp s.heap) σ H s:=
 I.pins_of fun p hp=>(GG.mp hp).elim (fun z=>I.pin p (G3 _ z)) fun z=>by
  obtain⟨hb,e⟩:=uN z;obtain⟨f0,f1,f2,_⟩:=hf p.1 hb;obtain⟨o,e',d⟩:=ho p.1 hb;rw[e]at e';cases e';exact⟨e,f0,f1,f2,d⟩
theorem aN.unpinned{pins pl:List (Addr×Obj)}{σ:St}{H:Hp}{s:Shared}(I:aN X (pins++pl) σ H s):aN X pins σ H s:=I.pins_of fun p hp=>I.pin p (G3 _ (GH _ hp))
theorem Cb{iter:Expr}{body:List Stmt}{wi:TI}{g:TG}{tb:TS}{pos:Pos}(hp:PassesOwn (model X.prog X.w) X.A X.env X.xe)(hc:X.calm=true)(hi:PI X tg iter wi)(hg:PG X tg g)(hb:i6 X body tb)
  (hs:∀x,foldedSetIterable iter X.env x=pure x:=by intro _;rfl):PS X (.For tg iter body [] pos) (FB wi g tb):=by
 intro pins s σ H D I h;refine wpAny_For (c0 (hi pins s σ H _ I h) fun v s1 h1=>c0 h1 fun itv s2 h2=>?_) hs;obtain⟨it,fp,tn,J,H2,e,I2,T,st2,f2,W,⟨m0,w0⟩,turn⟩:=h2;subst e;have stat:∀{H':Hp},(∀b∈fp,H' b=none)->∀b∈fp,jD X pins H' b:=fun hn b hb=>⟨hn b hb,(f2 b hb).2⟩;refine codeAny_forLoop_any (fun n s'=>∃i σ' H',aN X pins σ' H' s'/\tn i s'.heap/\(∀b∈fp,H' b=none)/\W i n σ' H') ?_ m0 ⟨0,σ,H2,I2,st2,fun b hb=>(f2 b hb).1,w0⟩
 rintro n s3 ⟨i,σ3,H3,I3,st3,fr3,w3⟩
 rcases turn i n σ3 H3 w3 with⟨stop,qn⟩|⟨go,N,hN,step⟩
 ·refine G4 hp (c0 (T.done X rfl rfl rfl hc i pins s3 σ3 H3 X.xe I3 (stat fr3) st3 stop) fun r s4 ⟨hr,I4⟩=>?_);subst hr;exact GQ ⟨σ3,H3,I4,qn⟩
 ·refine G4 hp (c0 (T.item X rfl rfl rfl hc i pins s3 σ3 H3 X.xe I3 (stat fr3) st3 go) fun r s4 ⟨u, hr, h4⟩ => ?_);subst hr;refine G4 hp (c0 h4 fun _ s5 ⟨x,H5,I5,r5,y5,st5,fr5⟩=>?_);have I5':=I5.pinned (stat fr5) (T.obj _ _ st5);refine G4 hp (c0 (hg _ s5 σ3 H5 x u _ I5' r5 (step x H5 y5)) fun _ s6 ⟨σ6,H6,I6,q6⟩=>?_);refine G4 hp (c0 (hb _ s6 σ6 H6 _ I6 q6) fun f s7 q7=>?_)
  have again:∀{σ7:St}{H7:Hp},aN X (pins++lU fp s5.heap) σ7 H7 s7->N σ7 H7->∃m,m<n/\∃i σ' H',aN X pins σ' H' s7/\tn i s7.heap/\(∀b∈fp,H' b=none)/\W i m σ' H':=fun {σ7 H7} I7 n7=>by
   obtain⟨m',hm,w7⟩:=hN σ7 H7 n7;refine⟨m',hm,i+1,σ7,H7,I7.unpinned,T.keep _ _ _ st5 fun b hb o e=>(I7.pin (b,o) (G3 _ (G3 _ (gX hb e)))).1,fun b hb=>?_,w7⟩;obtain⟨o,e,d⟩:=T.obj _ _ st5 b hb;exact(I7.pin (b,o) (G3 _ (G3 _ (gX hb e)))).2.1
  cases f with
  |next=>obtain⟨σ7,H7,I7,n7⟩:=q7;exact again I7 n7
  |cont=>obtain⟨σ7,H7,I7,n7⟩:=q7;exact again I7 n7
  |brk=>obtain⟨σ7,H7,I7,q7⟩:=q7;exact⟨σ7,H7,I7.unpinned,q7⟩
  |ret v=>obtain⟨x7,σ7,H7,I7,r7,q7⟩:=q7;exact⟨x7,σ7,H7,I7.unpinned,r7,q7⟩
end
end L2
namespace L2
open PySem PySem.Spec PyProof.Rows
abbrev R2:=V->V->Hp->VK->Prop
def gf(X:Cx)(f:Value->Value->Sem Value)(r:R2):Prop:=
 ∀(pins:List (Addr×Obj))(s:Shared)(σ:St)(H:Hp)(x y:V)(v u:Value)(Q:VK),aN X pins σ H s->bJ x v->bJ y u->r x y H Q ->
  wpAny (model X.prog X.w) X.A (f v u) (EP X pins σ Q) X.xe s
def bM(X:Cx)(f:Value)(r:List V->Hp->VK->Prop):Prop:=
 ∀(pins:List (Addr×Obj))(s:Shared)(σ:St)(H:Hp)(xs:List V)(us:List Value)(Q:VK),aN X pins σ H s->aX xs us->r xs H Q ->
  wpAny (model X.prog X.w) X.A (call f us) (EP X pins σ Q) X.xe s
def FU(X:Cx)(r:V->Hp->(Bool->Hp->Prop)->Prop):Prop:=
 ∀(pins:List (Addr×Obj))(s:Shared)(σ:St)(H:Hp)(x:V)(v:Value)(Q:Bool->Hp->Prop),aN X pins σ H s->bJ x v->r x H Q ->
  wpAny (model X.prog X.w) X.A (truthy v) (TP X pins σ Q) X.xe s
def EV(r:R2)(ta tb:TE):TE:=fun σ H Q=>ta σ H fun x H1=>tb σ H1 fun y H2=>r x y H2 Q
def rI(C:Int->Int->Prop)(g:Int->Int->V):R2:=fun x y H Q=>∃i j,x=.int i/\y=.int j/\C i j/\Q (g i j) H
def Dx(g:Int->Int->V):R2:=fun x y H Q=>∃i j,x=.int i/\y=.int j/\Q (g i j) H
section
variable{X:Cx}{a b c:Expr}{ta tb tc:TE}{pos:Pos}
theorem Bg(ha:PE X a ta)(hb:PE X b tb){pins:List (Addr×Obj)}{s:Shared}{σ:St}{H:Hp}{R:V->V->Hp->Prop}(I:aN X pins σ H s)
  (h:ta σ H fun x H1=>tb σ H1 fun y H2=>R x y H2) {Q:Value->Shared->Prop}{f:Value->Value->Sem Value}
  (hf:∀v u s2 x y H2,aN X pins σ H2 s2->bJ x v->bJ y u->R x y H2->wpAny (model X.prog X.w) X.A (f v u) Q X.xe s2) :
  wpAny (model X.prog X.w) X.A (eval a X.env) (fun v s₁=>wpAny (model X.prog X.w) X.A (eval b X.env) (fun u s₂=>wpAny (model X.prog X.w) X.A (f v u) Q X.xe s₂) X.xe s₁) X.xe s:=by
 refine c0 (ha pins s σ H _ I h) fun v s1 ⟨x,H1,I1,r1,q1⟩=>?_;refine c0 (hb pins s1 σ H1 _ I1 q1) fun u s2 ⟨y,H2,I2,r2,q2⟩=>?_;exact hf v u s2 x y H2 I2 r1 r2 q2
theorem Ep{op:Operator}{r:R2}(ho:gf X (binaryOp op) r)(ha:PE X a ta)(hb:PE X b tb):PE X (.BinOp a op b pos) (EV r ta tb):=by
 intro pins s σ H Q I h;exact wpAny_BinOp (Bg ha hb I h fun v u s2 x y H2 I2 rx ry q=>ho pins s2 σ H2 x y v u Q I2 rx ry q)
theorem EW{f:Value->Value->Sem Value}{C:Int->Int->Prop}{g:Int->Int->Int}
  (rule:∀(i j:Int)(t u:Tok)(s:Shared)(Q:Value->Shared->Prop)(E:Value->Shared->Prop),C i j->Q (.int (g i j) s.toks) {s with toks:=s.toks+1}->wpAny (model X.prog X.w) X.A (f (.int i t) (.int j u)) Q E s) :
  gf X f (rI C fun i j=>.int (g i j)):=by
 intro pins s σ H x y v u Q I rx ry h;obtain⟨i,j,rfl,rfl,hc,q⟩:=h;obtain⟨t,rfl⟩:=rx;obtain⟨t',rfl⟩:=ry;exact rule i j t t' s _ _ hc ⟨.int (g i j),H,I.tok _,⟨_,rfl⟩,q⟩
theorem DS{f:Value->Value->Sem Value}{g:Int->Int->Int}
  (rule:∀(i j:Int)(t u:Tok)(s:Shared)(Q:Value->Shared->Prop)(E:Value->Shared->Prop),Q (.int (g i j) s.toks) {s with toks:=s.toks+1}->wpAny (model X.prog X.w) X.A (f (.int i t) (.int j u)) Q E s) :
  gf X f (Dx fun i j=>.int (g i j)):=by
 intro pins s σ H x y v u Q I rx ry h;obtain⟨i,j,rfl,rfl,q⟩:=h;obtain⟨t,rfl⟩:=rx;obtain⟨t',rfl⟩:=ry;exact rule i j t t' s _ _ ⟨.int (g i j),H,I.tok _,⟨_,rfl⟩,q⟩
def yD(i j:Int):Prop:=0<j/\j<1073741824
def Bk(i j:Int):Prop:=0<=j/\j<=1000000/\i.natAbs<2^64
def pd(i j:Int):Prop:=(-(2^64)<i/\i<2^64)\/(-(2^64)<j/\j<2^64)
theorem pd.ok{i j:Int}(h:pd i j):IntMulOk i j:=by
 rcases h with⟨h1,h2⟩|⟨h1,h2⟩
 ·exact .of_left (intBits_le_64 h1 h2)
 ·exact .of_right (intBits_le_64 h1 h2)
theorem CD:gf X (binaryOp .Add) (Dx fun i j=>.int (i+j)):=DS fun _ _ _ _ _ _ _ q=>add_int q
theorem Cs:gf X (binaryOp .Sub) (Dx fun i j=>.int (i-j)):=DS fun _ _ _ _ _ _ _ q=>sub_int q
theorem Cw:gf X (binaryOp .Mult) (rI pd fun i j=>.int (i*j)):=EW fun _ _ _ _ _ _ _ hc q=>mul_int q hc.ok
theorem zJ:gf X (binaryOp .FloorDiv) (rI yD fun i j=>.int (i / j)):=EW fun i j _ _ _ _ _ hc q=>by
 have h1:(0:Int)<j:=hc.1;have h2:j<1073741824:=hc.2;exact floordiv_int (by omega) (by rw[Int.fdiv_eq_ediv_of_nonneg i (by omega)];exact q) (.inl (PyProof.noPylong_small (by omega)))
theorem Cy:gf X (binaryOp .Mod) (rI (fun _ j=>0<j) fun i j=>.int (i%j)):=EW fun i j _ _ _ _ _ hc q=>by
 have h1:(0:Int)<j:=hc;exact mod_int' (by omega) (by rw[Int.fmod_eq_emod_of_nonneg i (by omega)];exact q)
theorem Cu:gf X (binaryOp .Pow) (rI Bk fun i j=>.int (i^j.toNat)):=EW fun _ _ _ _ _ _ _ hc q=>pow_int_small hc.1 hc.2.1 hc.2.2 q
end
def DH:V->V->Bool
 |.non,.non=>true | .non,.int _=>true | .int _,.non=>true | .non,.bl _=>true | .bl _,.non=>true | .non,.str _=>true | .str _,.non=>true
 |.int _,.int _=>true | .bl _,.bl _=>true | .str _,.str _=>true | .byt _,.byt _=>true
 |.int _,.str _=>true | .str _,.int _=>true | .bl _,.str _=>true | .str _,.bl _=>true
 |_,_=>false
def Ff:R2:=fun x y H Q=>DH x y=true/\Q (.bl (decide (x=y))) H
def Fe:R2:=fun x y H Q=>DH x y=true/\Q (.bl (!decide (x=y))) H
theorem tT{i j:Int}:decide (V.int i=V.int j)=(i == j):=by
 rw[G5];simp
theorem wQ{i j:Bool}:decide (V.bl i=V.bl j)=(i == j):=by
 rw[G5];simp
theorem tS{i j:Str}:decide (V.str i=V.str j)=(i == j):=by
 rw[G5];simp
theorem tU{i j:Array UInt8}:decide (V.byt i=V.byt j)=(i.toList == j.toList):=by
 rw[G5];cases i;cases j;simp
section
variable{X:Cx}{a b c:Expr}{ta tb tc:TE}{pos:Pos}
theorem bc{pins:List (Addr×Obj)}{σ:St}{H:Hp}{s:Shared}{Q:VK}{k k':Bool}(I:aN X pins σ H s)(q:Q (.bl k) H)(e:k=k'):EP X pins σ Q (.bool k') s:=by
 subst e;exact⟨.bl k,H,I,rfl,q⟩
theorem Eu:gf X (compareOp .Eq) Ff:=by
 intro pins s σ H x y v u Q I rx ry h;obtain⟨hs,q⟩:=h;cases x with
 |non=>
  cases rx;cases y with
  |non=>cases ry;exact PySem.EqNone.eq_none_none (bc I q (by simp))
  |bl j=>cases ry;exact PySem.EqNone.eq_none_bool (bc I q (by simp))
  |int j=>obtain⟨t',rfl⟩:=ry;exact PySem.EqNone.eq_none_int (bc I q (by simp))
  |str j=>obtain⟨t',rfl⟩:=ry;exact PySem.EqNone.eq_none_str (bc I q (by simp))
  |_=>exact absurd (show false=true from hs) G6
 |bl i=>
  cases rx;cases y with
  |non=>cases ry;exact PySem.EqNone.eq_bool_none (bc I q (by simp))
  |bl j=>cases ry;exact eq_bool (bc I q wQ)
  |str j=>obtain⟨t',rfl⟩:=ry;exact PySem.EqMixed.eq_bool_str (bc I q (by simp))
  |_=>exact absurd (show false=true from hs) G6
 |int i=>
  obtain⟨t,rfl⟩:=rx;cases y with
  |non=>cases ry;exact PySem.EqNone.eq_int_none (bc I q (by simp))
  |int j=>obtain⟨t',rfl⟩:=ry;exact eq_int (bc I q tT)
  |str j=>obtain⟨t',rfl⟩:=ry;exact PySem.EqMixed.eq_int_str (bc I q (by simp))
  |_=>exact absurd (show false=true from hs) G6
 |str i=>
  obtain⟨t,rfl⟩:=rx;cases y with
  |non=>cases ry;exact PySem.EqNone.eq_str_none (bc I q (by simp))
  |bl j=>cases ry;exact PySem.EqMixed.eq_str_bool (bc I q (by simp))
  |int j=>obtain⟨t',rfl⟩:=ry;exact PySem.EqMixed.eq_str_int (bc I q (by simp))
  |str j=>obtain⟨t',rfl⟩:=ry;exact eq_str (bc I q tS)
  |_=>exact absurd (show false=true from hs) G6
 |byt i=>
  obtain⟨t,rfl⟩:=rx;cases y with
  |byt j=>obtain⟨t',rfl⟩:=ry;exact W.eq_bytes (bc I q tU)
  |_=>exact absurd (show false=true from hs) G6
 |_=>cases y <;> exact absurd (show false=true from hs) G6
theorem Et:gf X (compareOp .NotEq) Fe:=by
 intro pins s σ H x y v u Q I rx ry h;obtain⟨hs,q⟩:=h;cases x with
 |non=>
  cases rx;cases y with
  |non=>cases ry;exact PySem.EqNone.ne_none_none (bc I q (by simp))
  |bl j=>cases ry;exact PySem.EqNone.ne_none_bool (bc I q (by simp))
  |int j=>obtain⟨t',rfl⟩:=ry;exact PySem.EqNone.ne_none_int (bc I q (by simp))
  |str j=>obtain⟨t',rfl⟩:=ry;exact PySem.EqNone.ne_none_str (bc I q (by simp))
  |_=>exact absurd (show false=true from hs) G6
 |bl i=>
  cases rx;cases y with
  |non=>cases ry;exact PySem.EqNone.ne_bool_none (bc I q (by simp))
  |bl j=>cases ry;exact ne_bool (bc I q (GP not wQ))
  |str j=>obtain⟨t',rfl⟩:=ry;exact PySem.EqMixed.ne_bool_str (bc I q (by simp))
  |_=>exact absurd (show false=true from hs) G6
 |int i=>
  obtain⟨t,rfl⟩:=rx;cases y with
  |non=>cases ry;exact PySem.EqNone.ne_int_none (bc I q (by simp))
  |int j=>obtain⟨t',rfl⟩:=ry;exact ne_int (bc I q (GP not tT))
  |str j=>obtain⟨t',rfl⟩:=ry;exact PySem.EqMixed.ne_int_str (bc I q (by simp))
  |_=>exact absurd (show false=true from hs) G6
 |str i=>
  obtain⟨t,rfl⟩:=rx;cases y with
  |non=>cases ry;exact PySem.EqNone.ne_str_none (bc I q (by simp))
  |bl j=>cases ry;exact PySem.EqMixed.ne_str_bool (bc I q (by simp))
  |int j=>obtain⟨t',rfl⟩:=ry;exact PySem.EqMixed.ne_str_int (bc I q (by simp))
  |str j=>obtain⟨t',rfl⟩:=ry;exact ne_str (bc I q (GP not tS))
  |_=>exact absurd (show false=true from hs) G6
 |byt i=>
  obtain⟨t,rfl⟩:=rx;cases y with
  |byt j=>obtain⟨t',rfl⟩:=ry;exact W.ne_bytes (bc I q (GP not tU))
  |_=>exact absurd (show false=true from hs) G6
 |_=>cases y <;> exact absurd (show false=true from hs) G6
theorem uL:gf X (compareOp .In) (fun x y H Q=>∃i j,x=.str i/\y=.str j/\Q (.bl (!(Builtin.Str.occurrences j i 0 j.length 1).isEmpty)) H):=by
 intro pins s σ H x y v u Q I rx ry h;obtain⟨i,j,rfl,rfl,q⟩:=h;obtain⟨t,rfl⟩:=rx;obtain⟨t',rfl⟩:=ry;exact in_str (bc I q rfl)
theorem Cz:gf X (compareOp .Is) (fun x y H Q=>y=.non/\Q (.bl (decide (x=.non))) H):=by
 intro pins s σ H x y v u Q I rx ry h;obtain⟨rfl,q⟩:=h;cases ry;refine is_none_gen (bc I q ?_)
 cases x <;> first
  |(cases rx;rfl)
  |(obtain⟨t,rfl⟩:=rx;rfl)
theorem gf.or{f:Value->Value->Sem Value}{r r':R2}(h:gf X f r)(h':gf X f r'):gf X f (fun x y H Q=>r x y H Q\/r' x y H Q):=by
 intro pins s σ H x y v u Q I rx ry q;rcases q with q|q
 ·exact h pins s σ H x y v u Q I rx ry q
 ·exact h' pins s σ H x y v u Q I rx ry q
theorem zC{op:CmpOp}{r:R2}(ho:gf X (compareOp op) r)(ha:PE X a ta)(hb:PE X b tb)(hm:behindInMarks op b=false):PE X (.Compare a [op] [b] pos) (EV r ta tb):=by
 intro pins s σ H Q I h;exact wpAny_Compare1 (Bg ha hb I h fun v u s2 x y H2 I2 rx ry q=>ho pins s2 σ H2 x y v u Q I2 rx ry q) hm
def vS(t:TE):TT:=fun σ H Q=>t σ H fun x H'=>∃k,x=.bl k/\Q k H'
theorem zq{op:CmpOp}{r:R2}(ho:gf X (compareOp op) r)(ha:PE X a ta)(hb:PE X b tb)(hm:behindInMarks op b=false):PT X (.Compare a [op] [b] pos) (vS (EV r ta tb)):=by
 intro pins s σ H Q I h
 refine wpAny_isTrue_Compare1 (c0 (ha pins s σ H _ I h) fun v s1 ⟨x,H1,I1,r1,q1⟩=>c0 (hb pins s1 σ H1 _ I1 q1) fun u s2 ⟨y,H2,I2,r2,q2⟩=>
  c0 (ho pins s2 σ H2 x y v u _ I2 r1 r2 q2) fun c s3 ⟨z,H3,I3,r3,k,e,q3⟩=>?_) hm
 subst e;cases r3;exact GN ⟨H3,I3,q3⟩
def rf(r r':R2)(ta tb tc:TE):TE:=fun σ H Q=>ta σ H fun x H1=>tb σ H1 fun y H2=>r x y H2 fun z H3=>∃k,z=.bl k /\
 (if k=true then tc σ H3 fun w' H4=>r' y w' H4 Q else Q (.bl false) H3)
theorem xJ{op op':CmpOp}{r r':R2}(ho:gf X (compareOp op) r)(ho':gf X (compareOp op') r')(ha:PE X a ta)(hb:PE X b tb)(hc:PE X c tc)
  (hm:lastMarks [op,op'] [b,c]=false:=by with_unfolding_all rfl):PE X (.Compare a [op,op'] [b,c] pos) (rf r r' ta tb tc):=by
 intro pins s σ H Q I h
 refine Compare_chain (c0 (ha pins s σ H _ I h) fun v s1 ⟨x,H1,I1,r1,q1⟩=>chain_link (c0 (hb pins s1 σ H1 _ I1 q1) fun u s2 ⟨y,H2,I2,r2,q2⟩=>
  c0 (ho pins s2 σ H2 x y v u _ I2 r1 r2 q2) fun d s3 ⟨z,H3,I3,r3,k,e,q3⟩=>?_)) hm
 subst e;cases r3;refine GN ?_;cases k with
 |false=>exact ite_ff ⟨.bl false,H3,I3,rfl,q3⟩
 |true=>exact ite_tt (chain_last (c0 (hc pins s3 σ H3 _ I3 q3) fun w' s4 ⟨z',H4,I4,r4,q4⟩=>ho' pins s4 σ H4 y z' u w' Q I4 r2 r4 q4))
theorem xB{op op':CmpOp}{r r':R2}(ho:gf X (compareOp op) r)(ho':gf X (compareOp op') r')(ha:PE X a ta)(hb:PE X b tb)(hc:PE X c tc)
  (hm:lastMarks [op,op'] [b,c]=false:=by with_unfolding_all rfl):PT X (.Compare a [op,op'] [b,c] pos) (vS (rf r r' ta tb tc)):=by
 intro pins s σ H Q I h
 refine isTrue_chain (c0 (ha pins s σ H _ I h) fun v s1 ⟨x,H1,I1,r1,q1⟩=>test_link (c0 (hb pins s1 σ H1 _ I1 q1) fun u s2 ⟨y,H2,I2,r2,q2⟩=>
  c0 (ho pins s2 σ H2 x y v u _ I2 r1 r2 q2) fun d s3 ⟨z,H3,I3,r3,k,e,q3⟩=>?_)) hm
 subst e;cases r3;refine GN ?_;cases k with
 |false=>
  obtain⟨k',e',q'⟩:=q3;cases e';exact ite_ff ⟨H3,I3,q'⟩
 |true=>
  refine ite_tt (test_last (c0 (hc pins s3 σ H3 _ I3 q3) fun w' s4 ⟨z',H4,I4,r4,q4⟩=>c0 (ho' pins s4 σ H4 y z' u w' _ I4 r2 r4 q4) fun d' s5 ⟨z2,H5,I5,r5,k2,e2,q5⟩=>?_));subst e2;cases r5;exact GN ⟨H5,I5,q5⟩
def Bh(K:W.Frag)(x:V)(H:Hp)(k:Bool):Prop:=
 match x with
 |.non=>k=false
 |.bl b=>k=b
 |.int i=>k=(i != 0)
 |.str y=>y.length<=sizeLine/\k=((y.length:Int) != 0)
 |.byt y=>y.size<=sizeLine/\k=((y.size:Int) != 0)
 |.ref p=>(∃xs,dW K H p xs/\k=!xs.isEmpty)\/(∃xs,eD K H p xs/\k=!xs.isEmpty)\/∃kvs,H p=some (.dK kvs)/\k=!kvs.isEmpty
 |_=>False
theorem r8{κ:Type}{kvs:List (κ×V)}{vs:List (κ×Value)}(r:KV kvs vs):(!vs.isEmpty)=!kvs.isEmpty:=by
 cases r <;> rfl
theorem mq{xs:List V}{its:List Value}(r:aX xs its):(!its.toArray.isEmpty)=!xs.isEmpty:=by
 cases r <;> simp
theorem kd:(sizeLine:Nat)<2^63:=by rw[sizeLine_eq];decide
theorem Bs:FU X (fun x H Q=>∃k,Bh X.K x H k/\Q k H):=by
 intro pins s σ H x v Q I rx h;obtain⟨k,e,q⟩:=h;have hl:=kd;have hs:sizeLine=16777216:=sizeLine_eq;cases x with
 |non=>
  cases rx;have e':k=false:=e;subst e';exact truthy_none ⟨H,I,q⟩
 |bl b=>
  cases rx;have e':k=b:=e;subst e';exact GN ⟨H,I,q⟩
 |int i=>
  obtain⟨t,rfl⟩:=rx;have e':k=(i != 0):=e;subst e';exact PySem.P.truthy_int ⟨H,I,q⟩
 |str y=>
  obtain⟨t,rfl⟩:=rx;obtain⟨hy,e'⟩:y.length<=sizeLine/\k=((y.length:Int) != 0):=e;subst e';exact PySem.P.truthy_str (by omega) ⟨H,I.tok _,q⟩
 |byt y=>
  obtain⟨t,rfl⟩:=rx;obtain⟨hy,e'⟩:y.size<=sizeLine/\k=((y.size:Int) != 0):=e;subst e';exact W.truthy_bytes (by omega) ⟨H,I.tok _,q⟩
 |ref p=>
  cases rx;have e':(∃xs,dW X.K H p xs/\k=!xs.isEmpty)\/(∃xs,eD X.K H p xs/\k=!xs.isEmpty)\/∃kvs,H p=some (.dK kvs)/\k=!kvs.isEmpty:=e;rcases e' with⟨xs,hx,e'⟩|⟨xs,hx,e'⟩|⟨kvs,hx,e'⟩
  ·subst e';obtain⟨its,r,pl,hz⟩:=I.list hx;have hlen:=r.length;exact wpAny_truthy_list pl.isList (by simp only[G7];omega) ⟨H,I.tok _,by rw[mq r];exact q⟩
  ·subst e';obtain⟨its,r,pl,hz⟩:=I.tuple hx;have hlen:=r.length;exact truthy_tuple pl (by simp only[G7];omega) ⟨H,I.tok _,by rw[mq r];exact q⟩
  ·subst e';obtain⟨hz,hS,vs,r,m⟩:kvs.length<=sizeLine/\(p == sysModules)=false/\∃vs,KV kvs vs/\s.heap.DictOf (oo X.prog X.w) p vs:=I.hok p _ hx;have hlen:kvs.length=vs.length:=Paired.length r;exact wpAny_truthy_dict hS m (by omega) ⟨H,I.tok _,by rw[r8 r];exact q⟩
 |_=>exact(show False from e).elim
theorem xA(ha:PE X a ta)(he:∀whole,isTrue a X.env whole=(do let v <- whole;standAt a.pos;holding [v] (truthy v))) :
  PT X a (fun σ H Q=>ta σ H fun x H'=>∃k,Bh X.K x H' k/\Q k H'):=by
 intro pins s σ H Q I h;exact isTrue_plain (c0 (ha pins s σ H _ I h) fun v s1 ⟨x,H1,I1,r1,q1⟩=>Bs pins s1 σ H1 x v Q I1 r1 q1) (he _)
theorem rV:gf X (binaryOp .Add) (fun x y H Q=>∃i j,x=.str i/\y=.str j/\i.length+j.length<=sizeLine/\Q (.str (i++j)) H):=by
 intro pins s σ H x y v u Q I rx ry h;obtain⟨i,j,rfl,rfl,hz,q⟩:=h;obtain⟨t,rfl⟩:=rx;obtain⟨t',rfl⟩:=ry;exact add_str (fun t' tk=>⟨.str (i++j),H,I.tok _,⟨_,rfl⟩,q⟩) hz
theorem dm{x:V}{us:List Value}(r:aX [x] us):∃u,us=[u]/\bJ x u:=by
 cases r with
 |cons r1 r2=>cases r2;exact⟨_,rfl,r1⟩
theorem vR{x y:V}{us:List Value}(r:aX [x,y] us):∃u w',us=[u,w']/\bJ x u/\bJ y w':=by
 cases r with
 |cons r1 r2=>
  cases r2 with
  |cons r3 r4=>cases r4;exact⟨_,_,rfl,r1,r3⟩
theorem vd (hc:X.calm=true):bM X (.builtin "max") (fun xs H Q=>∃i j,xs=[.int i,.int j]/\Q (.int (if j>i then j else i)) H):=by
 intro pins s σ H xs us Q I r h;obtain⟨i,j,rfl,q⟩:=h;obtain⟨u,w',rfl,⟨t,rfl⟩,⟨t',rfl⟩⟩:=vR r;refine max_two_ints (I.ok.hd hc) fun h' tk k=>⟨_,H,I.kept k,?_,q⟩;by_cases hj:j>i
 ·rw[Gq hj,Gq hj];exact⟨_,rfl⟩
 ·rw[Gr hj,Gr hj];exact⟨_,rfl⟩
theorem vb (hc:X.calm=true):bM X (.builtin "min") (fun xs H Q=>∃i j,xs=[.int i,.int j]/\Q (.int (if j<i then j else i)) H):=by
 intro pins s σ H xs us Q I r h;obtain⟨i,j,rfl,q⟩:=h;obtain⟨u,w',rfl,⟨t,rfl⟩,⟨t',rfl⟩⟩:=vR r;refine min_two_ints (I.ok.hd hc) fun h' tk k=>⟨_,H,I.kept k,?_,q⟩;by_cases hj:j<i
 ·rw[Gq hj,Gq hj];exact⟨_,rfl⟩
 ·rw[Gr hj,Gr hj];exact⟨_,rfl⟩
theorem vk:bM X (.type "int") (fun xs H Q=>(∃i,xs=[.int i]/\Q (.int i) H)\/∃k,xs=[.bl k]/\Q (.int (if k then 1 else 0)) H):=by
 intro pins s σ H xs us Q I r h;rcases h with⟨i,rfl,q⟩|⟨k,rfl,q⟩
 ·obtain⟨u,rfl,t,rfl⟩:=dm r;exact call_int_int ⟨.int i,H,I,⟨_,rfl⟩,q⟩
 ·obtain⟨u,rfl,r1⟩:=dm r;cases r1;exact call_int_bool ⟨.int (if k then 1 else 0),H,I.tok _,⟨_,rfl⟩,q⟩
theorem oQ:bM X (.type "str") (fun xs H Q=>∃i,xs=[.int i]/\i.natAbs.log2<1920/\Q (.str (toString i)) H):=by
 intro pins s σ H xs us Q I r h;obtain⟨i,rfl,hz,q⟩:=h;obtain⟨u,rfl,t,rfl⟩:=dm r;exact PySem.P.str_of_int hz ⟨.str _,H,I.tok _,⟨_,rfl⟩,q⟩
def Bj(K:W.Frag)(x:V)(H:Hp)(n:Nat):Prop:=
 match x with
 |.str y=>y.length<=sizeLine/\n=y.length
 |.byt y=>y.size<=sizeLine/\n=y.size
 |.ref p=>(∃xs,dW K H p xs/\n=xs.length)\/∃xs,eD K H p xs/\n=xs.length
 |_=>False
theorem ye:bM X (.builtin "len") (fun xs H Q=>∃x n,xs=[x]/\Bj X.K x H n/\Q (.int n) H):=by
 intro pins s σ H xs us Q I r h;obtain⟨x,n,rfl,e,q⟩:=h;obtain⟨u,rfl,rx⟩:=dm r;have hl:=kd;have hs:sizeLine=16777216:=sizeLine_eq;cases x with
 |str y=>
  obtain⟨t,rfl⟩:=rx;obtain⟨hy,e'⟩:y.length<=sizeLine/\n=y.length:=e;subst e';exact len_str (by omega) ⟨.int _,H,I.tok _,⟨_,rfl⟩,q⟩
 |byt y=>
  obtain⟨t,rfl⟩:=rx;obtain⟨hy,e'⟩:y.size<=sizeLine/\n=y.size:=e;subst e';exact W.len_bytes (by omega) ⟨.int _,H,I.tok _,⟨_,rfl⟩,q⟩
 |ref p=>
  cases rx;have e':(∃xs,dW X.K H p xs/\n=xs.length)\/∃xs,eD X.K H p xs/\n=xs.length:=e;rcases e' with⟨xs,hx,e'⟩|⟨xs,hx,e'⟩
  ·subst e';obtain⟨its,r',pl,hz⟩:=I.list hx;have hlen:=r'.length;exact Calls.call_len_list pl.isList (by simp only[G7];omega) ⟨.int xs.length,H,I.tok _,⟨_,by simp only[G7];rw[hlen]⟩,q⟩
  ·subst e';obtain⟨its,r',pl,hz⟩:=I.tuple hx;have hlen:=r'.length;exact len_tuple pl (by simp only[G7];omega) ⟨.int xs.length,H,I.tok _,⟨_,by simp only[G7];rw[hlen]⟩,q⟩
 |_=>exact(show False from e).elim
end
end L2
namespace L2
open PySem PySem.Spec PyProof.Rows
structure Ge(h:Heap)(x dx C:Addr)(mA:Str->Option Value):Prop where
 obj:h.get? x=some (W.instObj C dx)
 ns:h.Ns1 dx mA
 ne:dx≠x
section
variable{prog:Program}{w:World}{A:Around}{E:Value->Shared->Prop}{s:Shared}{K:W.Frag}{x dx C f:Addr}{mA:Str->Option Value}{name:Str}{v:Value}
end
section
variable{P:Program}{w:World}{H H':Hp}{h h':Heap}{a C dx:Addr}{fs fs':List (Str×V)}
end
structure Ga(K:W.Frag)(C:Addr):Prop where
 pg:W.plainGet K C Str.empty=true
 hd:W.hasDictIn K C=true
 po:W.plainOver K C=true
 sa:W.findIn K (.ref C) "__setattr__" = some (some (.builtin "object.__setattr__"))
structure Gi(K:W.Frag)(C:Addr)(f:Str)(v:V)(u:Value):Prop where
 at_:W.findIn K (.ref C) f=some (some u)
 rel:bJ v u
 get:W.specialIn K u "__get__" = some none
 cp:W.copiedNames.contains f=false
structure Gf(K:W.Frag)(C:Addr)(m:Str)(f:Addr):Prop where
 at_:W.findIn K (.ref C) m=some (some (.ref f))
 fn:W.isFn K (.ref f)=true
 kp:W.keepIn K (.ref f)=true
section
variable{X:Cx}{pins:List (Addr×Obj)}{σ:St}{H:Hp}{s:Shared}{a C dx:Addr}{fs:List (Str×V)}{f:Str}{v:V}{A:Around}{E:Value->Shared->Prop}
end
section
variable{X:Cx}{o e value:Expr}{f:Str}{pos pos' tpos:Pos}{ta tv:TE}
end
section
variable{X:Cx}{pins:List (Addr×Obj)}{σ:St}{H:Hp}{s:Shared}{A:Around}{E:Value->Shared->Prop}{Q:Value->Shared->Prop}{c:Value}{b:Bool}
inductive lH(K:W.Frag)(H:Hp):V->Value->Prop where
 |non:lH K H .non (.type "NoneType")
 |bl (x:Bool):lH K H (.bl x) (.type "bool")
 |int (i:Int):lH K H (.int i) (.type "int")
 |str (x:Str):lH K H (.str x) (.type "str")
 |flt (x:UInt64):lH K H (.flt x) (.type "float")
 |lst {a:Addr}{xs:List V} (e:H a=some (.lst xs)):lH K H (.ref a) (.type "list")
 |frz {a:Addr}{o:Obj}{xs:List V} (e:H a=some (.frz o (.lst xs))):lH K H (.ref a) (.type "list")
 |tup {a:Addr}{xs:List V} (e:H a=some (.tup xs)):lH K H (.ref a) (.type "tuple")
 |dK {a:Addr}{kvs:List (nW×V)} (e:H a=some (.dK kvs)):lH K H (.ref a) (.type "dict")
 |dT {a:Addr}{kvs:List (List nW×V)} (e:H a=some (.dT kvs)):lH K H (.ref a) (.type "dict")
 |ins {a C dx:Addr}{fs:List (Str×V)} (e:H a=some (.ins C dx fs)) (cl:Ga K C) (ha:W.findIn K (.ref C) "__class__" = some (some (.builtin "object.__class__")))
   (hn:W.specialIn K (.builtin "object.__class__") "__get__" = some (some (.builtin "getset_descriptor.__get__"))) (htk:W.takesIn K (.builtin "object.__class__")=some true)
   (hm:W.mroIn K C (.type "object")=some true):lH K H (.ref a) (.ref C)
end
end L2
namespace L2
open PySem PySem.Spec PyProof.Rows
structure fS(k:Nat)(A:Around):Prop where
 hd:A.handled=none
 dp:A.depth+3*k+5<recursionLimit
 un:A.units+16*k+200<cLine
 gd:A.guards=some []
theorem fS.mono{j k:Nat}{A:Around}(r:fS k A)(h:j<=k):fS j A:=⟨r.hd,by have:=r.dp;omega,by have:=r.un;omega,r.gd⟩
theorem fS.deeper{k:Nat}{A:Around}(r:fS (k+1) A)(env:Env):fS k (A.deeper env):=
 ⟨r.hd,by have:=r.dp;show A.depth+1+3*k+5<_;omega,by have:=r.un;show A.units+3+16*k+200<_;omega,r.gd⟩
theorem fS.depth{k:Nat}{A:Around}(r:fS k A):A.depth<recursionLimit:=by have:=r.dp;omega
theorem fS.units{k:Nat}{A:Around}(r:fS k A):A.units+64<cLine:=by have:=r.un;omega
def Fy:TA:=fun _ H Q=>Q [] H
def Ea(ta:TE)(tr:TA):TA:=fun σ H Q=>ta σ H fun x H1=>tr σ H1 fun xs H2=>Q (x::xs) H2
section
variable{X:Cx}{e:Expr}{es:List Expr}{te:TE}{t:TA}{pos:Pos}
theorem wC:PA X [] Fy:=fun _ _ _ _ H Q I h=>Calls.spliced_nil ⟨[],H,I,.nil,h⟩
theorem om(ha:PE X e te)(hr:PA X es t)(hs:starEach (e::es) X.env=(false,eval e X.env)::starEach es X.env:=by rfl):PA X (e::es) (Ea te t):=by
 intro pos pins s σ H Q I h;rw[hs];show wpAny _ _ (spliced ((false,eval e X.env)::backTo pos (starEach es X.env))) _ _ s;refine Calls.spliced_cons (c0 (ha pins s σ H _ I h) fun u s1 ⟨x,H1,I1,r1,q1⟩=>?_);exact c0 (hr pos pins s1 σ H1 _ I1 q1) fun us s2 ⟨xs,H2,I2,r2,q2⟩=>⟨x::xs,H2,I2,.cons r1 r2,q2⟩
def Fq(t:TA):TE:=fun σ H Q=>t σ H fun xs H1=>xs.length<=sizeLine/\∀p,H1 p=none->Q (.ref p) (cj H1 p (.tup xs))
def Fz(t:TA):TE:=fun σ H Q=>t σ H fun xs H1=>xs.length<=sizeLine/\∀p,H1 p=none->Q (.ref p) (cj H1 p (.lst xs))
theorem Cj{x1}(h:PA X es t):PE X (.Tuple es x1 pos) (Fq t):=by
 intro pins s σ H Q I hq;refine wpAny_Tuple_spliced (c0 (h pos pins s σ H _ I hq) fun us s1 ⟨xs,H1,I1,r,z,q⟩=>⟨by rw[<- r.length];exact z,?_⟩);have hf:H1 s1.heap.objs.size=none:=I1.hok.fresh (G0 _);refine⟨.ref s1.heap.objs.size,cj H1 s1.heap.objs.size (.tup xs),I1.laid (t':=s1.toks) (fun b u e=>GY _ e) (G0 _) ?_,rfl,q _ hf⟩;exact⟨z,us,r,⟨_,GZ _ rfl,rfl,_,rfl⟩⟩
theorem Co(h:PA X es t):PE X (.List es pos) (Fz t):=by
 intro pins s σ H Q I hq;refine wpAny_List_spliced (c0 (h pos pins s σ H _ I hq) fun us s1 ⟨xs,H1,I1,r,z,q⟩=>⟨by rw[<- r.length];exact z,?_⟩);have hf:H1 s1.heap.objs.size=none:=I1.hok.fresh (G0 _);refine⟨.ref s1.heap.objs.size,cj H1 s1.heap.objs.size (.lst xs),I1.laid (t':=s1.toks) (fun b u e=>GY _ e) (G0 _) ?_,rfl,q _ hf⟩;exact⟨z,us,0,r,GZ _ rfl⟩
end
abbrev Sp:=List V->Hp->VK->XK->Prop
abbrev tZ:=List Env->Hp->Shared->XK->Value->Shared->Prop
structure vO(P:Program)(w:World)(K:W.Frag)(mg:Str->Option Value)(base:Heap)(A:Around)(outer:List Env)(s:Shared)(H:Hp):Prop where
 frames:A.frames=some outer
 mod:Mod K mg base
 bs:∀b o,base.get? b=some o->s.heap.get? b=some o/\H b=none
 bsz:base.objs.size<=s.heap.objs.size
 funs:s.heap.FunFrames base outer
 frf:∀b∈vE outer,H b=none
 hok:lB P w H s.heap
 bare:AllBare s.gens
def CE(outer:List Env)(P:Program)(w:World)(H:Hp)(s:Shared)(Q:VK)(u:Value)(s':Shared):Prop:=
 ∃v H',s'.os=s.os/\AllBare s'.gens/\Un (vE outer) [] H H' s.heap s'.heap/\lB P w H' s'.heap/\bJ v u/\Q v H'
def CR(CX:tZ)(outer:List Env)(P:Program)(w:World)(H:Hp)(s:Shared)(Q:VK)(E:XK)(r:Result)(s':Shared):Prop:=
 match r with
 |.ok (.ret u)=>CE outer P w H s Q u s'
 |.ok _=>False
 |.error e=>CX outer H s E e s'
structure mQ(P:Program)(w:World)(K:W.Frag)(mg:Str->Option Value)(base:Heap)(CX:tZ)(k:Nat)(f:Addr)(fd:FuncData)(ps:List Str)(sp:Sp):Prop where
 len:∀vs H Q E,sp vs H Q E->vs.length=ps.length
 run:∀(A:Around)(outer:List Env)(s:Shared)(H:Hp)(args:Args)(us:List Value)(vs:List V)(Q:VK)(E:XK),fS k A->vO P w K mg base A outer s H->BindsTo s fd args (ps.zip us)->aX vs us->sp vs H Q E ->
  codeAny (model P w) A (.call (.ref f) args) (CR CX outer P w H s Q E) s
section
variable{X:Cx}{pins:List (Addr×Obj)}{σ:St}{H:Hp}{s s':Shared}
theorem aN.env0(I:aN X pins σ H s):vO X.prog X.w X.K X.mg X.base X.A X.stack s H:=
 ⟨I.ok.frames,I.ok.mod,I.bs,Gz I.ok.bsz I.sz,I.stack,I.stkFree,I.hok,I.bare⟩
theorem aN.after{Q:VK}{u:Value}(I:aN X pins σ H s)(h:CE X.stack X.prog X.w H s Q u s'):EP X pins σ Q u s':=by
 obtain⟨v,H',os,bare,un,hok,r,q⟩:=h;obtain⟨hh,g,d,t,os'⟩:=s';obtain rfl:os'=s.os:=os;exact⟨v,H',I.call (h':=hh) (g':=g) (d':=d) (t':=t) (ch:=[]) un hok bare (fun b z=>absurd z (by simp)),r,q⟩
end
def Eb(sp:Sp)(dvs:List V)(E:XK)(t:TA):TE:=fun σ H Q=>t σ H fun vs H1=>sp (vs++dvs) H1 Q E
def g7(K:W.Frag)(fd:FuncData)(ps:List Str)(ds:List Value):Prop:=
 ∀(s:Shared)(us:List Value),K.In s.heap->(us++ds).length=ps.length->BindsTo s fd ⟨us,[]⟩ (ps.zip (us++ds))
theorem g7.all{K:W.Frag}{fd:FuncData}{ps:List Str}(h:∀us:List Value,us.length=ps.length->bindArgs fd ⟨us,[]⟩=pure (ps.zip us)):g7 K fd ps []:=fun s us _ hl=>by
 rw[G8]at hl⊢;exact .of_eq (h us hl)
def rE(CX:tZ)(X:Cx)(E:XK):Prop:=∀(pins:List (Addr×Obj))(σ:St)(H:Hp)(s:Shared)(e:Value)(s':Shared),aN X pins σ H s->CX X.stack H s E e s'->X.xe e s'
section
variable{X:Cx}{CX:tZ}{k:Nat}{f C:Addr}{fd:FuncData}{ps:List Str}{sp:Sp}{dvs:List V}{ds:List Value}{E:XK}{x m:Str}{p pos apos:Pos}{e o:Expr}{es:List Expr}{ta:TE}{t:TA}
theorem B3{pins:List (Addr×Obj)}{σ:St}{H:Hp}{s:Shared}{Q:VK}{us:List Value}{vs:List V}(F:mQ X.prog X.w X.K X.mg X.base CX k f fd ps sp)(hr:fS k X.A)(hb:g7 X.K fd ps ds)(hd:aX dvs ds)(hx:rE CX X E)
  (I:aN X pins σ H s) (r:aX vs us) (h:sp (vs++dvs) H Q E):wpAny (model X.prog X.w) X.A (call (.ref f) us) (EP X pins σ Q) X.xe s:=by
 have r2:aX (vs++dvs) (us++ds):=r.append hd;have hl:(us++ds).length=ps.length:=by rw[<- r2.length];exact F.len _ _ _ _ h
 refine wpAny_call (G9 (F.run X.A X.stack s H ⟨us,[]⟩ (us++ds) (vs++dvs) Q E hr I.env0 (hb s us I.kIn hl) r2 h) fun r s' hq=>?_);cases r with
 |error e=>exact hx pins σ H s e s' I hq
 |ok fl=>
  cases fl with
  |ret u=>exact I.after hq
  |next=>exact False.elim hq
  |brk=>exact False.elim hq
  |cont=>exact False.elim hq
theorem zD(F:mQ X.prog X.w X.K X.mg X.base CX k f fd ps sp)(hr:fS k X.A)(hg:Gl X x)(hm:X.mg x=some (.ref f))(hk:W.keepIn X.K (.ref f)=true)(hb:g7 X.K fd ps ds)(hd:aX dvs ds)(hx:rE CX X E)
  (ha:PA X (e::es) t) (hdb:(x == ("__debug__" : Str))=false:=by decide) (he:starEach (e::es) X.env=(false,eval e X.env)::starEach es X.env:=by rfl) (hpl:(backTo pos (starEach es X.env)).any (·.1)=false:=by rfl) :
  PE X (.Call (.Name x p) (e::es) [] pos) (Eb sp dvs E t):=by
 intro pins s σ H Q I h;refine Hb (tG I hg hm ?_ hdb);refine W.callWith_K (h₀:=X.base) I.ok.mod.kin hk (c0 (ha pos pins s σ H _ I h) fun us s1 ⟨vs,H1,I1,r,q⟩=>⟨I1.kIn,?_⟩) he hpl;exact B3 F hr hb hd hx I1 r q
structure Mk(K:W.Frag)(C f:Addr):Prop where
 makes:W.makesIn K C=true
 init:W.findIn K (.ref C) "__init__" = some (some (.ref f))
 fn:W.isFn K (.ref f)=true
 kp:W.keepIn K (.ref C)=true
end
section
variable{X:Cx}{CX:tZ}{k:Nat}{f C:Addr}{fd:FuncData}{ps ks:List Str}{sp:Sp}{E:XK}{x m:Str}{p pos apos kpos:Pos}{e o:Expr}{es:List Expr}{kws:List Keyword}{te ta:TE}{t tk:TA}{nm:Option Str}
structure FY(K:W.Frag)(fd:FuncData)(ps ks:List Str)(g:List Value->List Value->List Value)(gV:List V->List V->List V):Prop where
 to:∀(s:Shared)(us ws:List Value),K.In s.heap->(g us ws).length=ps.length->BindsTo s fd ⟨us,ks.zip ws⟩ (ps.zip (g us ws))
 rel:∀{vs:List V}{us:List Value}{zs:List V}{ws:List Value},aX vs us->aX zs ws->aX (gV vs zs) (g us ws)
variable{g:List Value->List Value->List Value}{gV:List V->List V->List V}
end
structure aS(N P:List Str)(sc:Scope):Prop where
 kind:sc.kind=.function
 co:sc.isCoroutine=false
 gen:sc.isGenerator=false
 nd:N.Nodup
 pre:N.take P.length=P
 par:∀x∈P,sc.names.lookup x=some .local\/sc.names.lookup x=some .cell
 nofree:∀y∈sc.names,y.2≠.free
theorem nM{kindOf:Str->Option NameKind}{x:Str}:∀{binds:List (Str×Value)}{m:Str->Option Value},(∀v,(x,v)∉binds)->bindL kindOf binds m x=m x
 |[],_,_=>rfl
 |(n,v)::r,m,h=>by
  unfold bindL;rw[nM fun w hw=>h w (GD _ hw)];split
  ·have : x ≠ n := by rintro rfl; exact h v GC
   simp[this]
  ·rfl
theorem nO{kindOf:Str->Option NameKind}{x:Str}:∀{binds:List (Str×Value)}{m:Str->Option Value},(∀v,(x,v)∉binds)->bindC kindOf binds m x=m x
 |[],_,_=>rfl
 |(n,v)::r,m,h=>by
  unfold bindC;rw[nO fun w hw=>h w (GD _ hw)];split
  ·rfl
  ·have : x ≠ n := by rintro rfl; exact h v GC
   simp[this]
theorem nN{kindOf:Str->Option NameKind}{x:Str}{v:Value}:∀{P:List Str}{vs:List Value}{i:Nat}{m:Str->Option Value},P.Nodup->P[i]?=some x->vs[i]?=some v->kindOf x=some .local ->
  bindL kindOf (P.zip vs) m x=some v
 |[],_,_,_,_,h,_,_=>by simp at h
 |_::_,[],_,_,_,_,h,_=>by simp at h
 |p::P,w::vs,0,m,nd,h1,h2,hk=>by
  simp at h1 h2;subst h1;subst h2;show bindL kindOf ((p,w)::P.zip vs) m p=_;unfold bindL;rw[nM fun v hv=>(Hc.mp nd).1 (Hd hv).1,Gq hk];simp
 |p::P,w::vs,i+1,m,nd,h1,h2,hk=>by
  show bindL kindOf ((p,w)::P.zip vs) m x=_;unfold bindL;exact nN (i:=i) (Hc.mp nd).2 (by simpa using h1) (by simpa using h2) hk
theorem nP{kindOf:Str->Option NameKind}{x:Str}{v:Value}:∀{P:List Str}{vs:List Value}{i:Nat}{m:Str->Option Value},P.Nodup->P[i]?=some x->vs[i]?=some v->kindOf x≠some .local ->
  bindC kindOf (P.zip vs) m x=some v
 |[],_,_,_,_,h,_,_=>by simp at h
 |_::_,[],_,_,_,_,h,_=>by simp at h
 |p::P,w::vs,0,m,nd,h1,h2,hk=>by
  simp at h1 h2;subst h1;subst h2;show bindC kindOf ((p,w)::P.zip vs) m p=_;unfold bindC;rw[nO fun v hv=>(Hc.mp nd).1 (Hd hv).1,Gr hk];simp
 |p::P,w::vs,i+1,m,nd,h1,h2,hk=>by
  show bindC kindOf ((p,w)::P.zip vs) m x=_;unfold bindC;exact nP (i:=i) (Hc.mp nd).2 (by simpa using h1) (by simpa using h2) hk
def start(N:List Str)(vs:List V):St:=vs.map some++List.replicate (N.length-vs.length) none
def nY(CX:tZ)(P:Program)(w:World)(K:W.Frag)(mg:Str->Option Value)(base:Heap)(N:List Str)(qual:Str)(scope:Scope)(f:Addr)(cd:Value)(A:Around)(outer:List Env)(s:Shared)(H:Hp)(E:XK):Cx where
 prog:=P
 w:=w
 K:=K
 mg:=mg
 base:=base
 A:=A.deeper (envOfC qual scope s.heap.objs.size f cd)
 N:=N
 s₀:=s
 H₀:=H
 env:=envOfC qual scope s.heap.objs.size f cd
 outer:=outer
 stack:=envOfC qual scope s.heap.objs.size f cd::outer
 ex:=[]
 calm:=true
 fn:=fun _=>true
 pn:=[]
 xe:=fun e s'=>wpAny (model P w) (A.deeper (envOfC qual scope s.heap.objs.size f cd)) (leaving (envOfC qual scope s.heap.objs.size f cd) e) (fun _ s''=>CX outer H s E e s'') (fun e' s''=>CX outer H s E e' s'') s'
theorem qp{sc:Scope}{n:Nat}{x:Str}(h:sc.names.lookup x=some .cell):∃c,(cellsFrom n sc.names []).lookup x=some c:=by
 have q:=W.cellsFrom_some sc.names n [] (.inl h);exact He.mp q
theorem uV{CX:tZ}{P:Program}{w:World}{K:W.Frag}{mg:Str->Option Value}{base:Heap}{N ps:List Str}{qual:Str}{scope:Scope}{f:Addr}{cd:Value}{A:Around}{outer:List Env}{s s1:Shared}{H:Hp}{E:XK}{us:List Value}{vs:List V}
  (S:aS N ps scope) (hd:A.handled=none) (e0:vO P w K mg base A outer s H) (hl:vs.length=ps.length) (r:aX vs us)
  (x:InCallC s s.heap.objs.size (bindL (envOfC qual scope s.heap.objs.size f cd).kindOf (ps.zip us) fun _=>none) (cellsFrom (s.heap.objs.size+1) scope.names []) (bindC (envOfC qual scope s.heap.objs.size f cd).kindOf (ps.zip us) fun _=>none) s1) :
  aN (nY CX P w K mg base N qual scope f cd A outer s H E) [] (start N vs) H s1:=by
 have hpl:ps.length<=N.length:=by have:=GP List.length S.pre;rw[Hf]at this;omega
 obtain⟨h1,tk,rfl,hk⟩:=x.done;have noA:∀b:Addr,b∉(nY CX P w K mg base N qual scope f cd A outer s H E).ex:=fun b z=>absurd (show b∈([]:List Addr) from z) (by simp)
 refine⟨⟨e0.mod,S.kind,rfl,rfl,G0 _,fun y z c h1 h2=>?_,fun y hy=>?_,fun y c _ h=>?_,fun _=>hd,Around.frames_deeper e0.frames,.inr ⟨rfl,rfl⟩,fun b z=>absurd z (noA b),e0.bs,e0.bsz,fun b _ _=>noA b,fun b z=>absurd z (noA b),e0.funs,e0.frf⟩,
  rfl,e0.bare,Un.kept hk,⟨_,x.toInCall.ns,fun i y v h1 h2 h3=>?_⟩,fun y c h=>⟨_,x.cell y c h⟩,e0.hok.fresh (G0 _),fun y c h=>?_,fun p hp=>absurd (show p∈([]:List (Addr×Obj)) from hp) (by simp),e0.hok.kept hk,?_⟩
 ·exact name_of_addr x.apart (Hg h1) (Hg h2)
 ·have hy : scope.names.lookup y = some .cell \/ scope.names.lookup y = some .free := hy;rcases hy with hy|hy
  ·exact qp hy
  ·exact absurd rfl (S.nofree _ (Hg hy))
 ·exact GA (x.above y c (Hg h))
 ·have hi:i<vs.length:=by
   unfold start at h2;by_cases hi:i<vs.length
   ·exact hi
   ·rw[Hh (by simpa using hi)]at h2;rw[List.getElem?_replicate]at h2;split at h2 <;> cases h2
  have ha:vs[i]?=some v:=by
   unfold start at h2;rw[Hi (by simpa using hi),Hj]at h2;cases e:vs[i]? with
   |none=>rw[e]at h2;cases h2
   |some a=>rw[e]at h2;cases h2;rfl
  obtain⟨u,hu,rv⟩:=r.get ha
  have hp:ps[i]?=some y:=by
   rw[<- S.pre,List.getElem?_take_of_lt (by omega)];exact h1
  have ndP:ps.Nodup:=by rw[<- S.pre];exact S.nd.sublist (List.take_sublist _ _)
  refine⟨u,rv,?_⟩;rcases S.par y (Hk hp) with k|k
  ·exact .inl ⟨k,nN ndP hp hu k⟩
  ·obtain⟨c,e⟩:=qp (n:=s.heap.objs.size+1) k;refine .inr ⟨.inl k,c,e,?_⟩;have q:=x.cell y c e;rw[nP ndP hp hu (by show scope.names.lookup y≠_;rw[k];decide)]at q;exact q
 ·exact e0.hok.fresh (GA (x.above y c (Hg h)))
 ·unfold start;show _=N.length;rw[Hl,Hm,List.length_replicate];omega
theorem EI{CX:tZ}{P:Program}{w:World}{K:W.Frag}{mg:Str->Option Value}{base:Heap}{k:Nat}{f:Addr}{name qual:Str}{params:Arguments}{body:List Stmt}{scope:Scope}{dV kV doc pm cdv ct oc:Value}{an od:Option Addr}
  {osl:Array (Option Value)}{N ps:List Str}{sp:Sp} (lk:K.lookup f=some ⟨oc,od,.func (W.fnOf name qual params body scope dV kV doc pm an cdv ct),osl⟩) (hcd:W.codeIn K cdv qual=true) (S:aS N ps scope)
  (len:∀vs H Q E,sp vs H Q E->vs.length=ps.length)
  (hbody : ∀ (A : Around) (outer : List Env) (s : Shared) (H : Hp) (vs : List V) (Q : VK) (E : XK), fS k (A.deeper (envOfC qual scope s.heap.objs.size f cdv)) -> sp vs H Q E ->
   ∃t,i6 (nY CX P w K mg base N qual scope f cdv A outer s H E) body t/\t {nx:=fun _ H'=>Q .non H',rt:=Q} (start N vs) H) :
  mQ P w K mg base CX (k+1) f (W.fnOf name qual params body scope dV kV doc pm an cdv ct) ps sp:=by
 refine⟨len,fun A outer s H args us vs Q E hr e0 hb r hsp=>?_⟩;have hl:=len _ _ _ _ hsp;have KX:K.In s.heap:=e0.mod.kin.keeps fun b o e=>(e0.bs b o e).1;have lim:s.heap.NoLimit:=e0.mod.nolimit.keeps fun b o e=>(e0.bs b o e).1
 have hkind:∀y∈ps.zip us,scope.names.lookup y.1=some .local\/(scope.names.lookup y.1=some .cell/\((cellsFrom (s.heap.objs.size+1) scope.names []).lookup y.1).isSome=true):=fun⟨n,v⟩ hy=>by
  rcases S.par n (Hd hy).1 with q|q
  ·exact .inl q
  ·exact .inr ⟨q,W.cellsFrom_some _ _ _ (.inl q)⟩
 refine codeAny_call_function hr.depth (KX _ _ lk) rfl S.co S.gen rfl (W.codeRec_of KX hcd) (hb _ _ _ _ ?_);refine wpAny_newFunctionEnv_cells S.kind hkind fun env he s1 x=>?_;subst he;refine⟨lim.keeps x.toInCall.keep,codeAny_func ?_⟩;obtain⟨t,ht,hq⟩:=hbody A outer s H vs Q E (hr.deeper _) hsp;have I:aN (nY CX P w K mg base N qual scope f cdv A outer s H E) [] (start N vs) H s1:=uV S hr.hd e0 hl r x;refine GM (ht [] s1 (start N vs) H _ I hq) (fun fl s' hs=>?_) fun e s' hs=>hs
 have fin:∀{σ':St}{H':Hp}{v:V}{u:Value},aN (nY CX P w K mg base N qual scope f cdv A outer s H E) [] σ' H' s'->bJ v u->Q v H'->CE outer P w H s Q u s':=
  fun {σ' H' v u} J rv q=>⟨v,H',J.os,J.bare,J.base,J.hok,rv,q⟩
 cases fl with
 |ret u=>
  obtain⟨v,σ',H',J,rv,q⟩:=hs;exact fin J rv q
 |next=>
  obtain⟨σ',H',J,q⟩:=hs;exact fin (v:=V.non) (u:=Value.none) J rfl q
 |brk=>
  obtain⟨_,_,_,q⟩:=hs;exact False.elim q
 |cont=>
  obtain⟨_,_,_,q⟩:=hs;exact False.elim q
end L2
namespace L2
open PySem PySem.Spec PyProof.Rows
section
variable{X:Cx}{x:Str}{p pos:Pos}{e:Expr}{es:List Expr}{t:TA}{id T:String}{r:List V->Hp->VK->Prop}
def F0(r:List V->Hp->VK->Prop)(t:TA):TE:=fun σ H Q=>t σ H fun vs H1=>r vs H1 Q
theorem pV (hc:bM X (.builtin id) r) (hg:Gl X x) (hm:X.mg x=none) (hv:bootBuiltins x=some (.builtin id)) (ha:PA X (e::es) t) (hn:x ≠ "__name__" := by decide) (hdb:(x == ("__debug__" : Str))=false:=by decide)
  (he:starEach (e::es) X.env=(false,eval e X.env)::starEach es X.env:=by rfl) (hpl:(backTo pos (starEach es X.env)).any (·.1)=false:=by rfl):PE X (.Call (.Name x p) (e::es) [] pos) (F0 r t):=by
 intro pins s σ H Q I h;refine Hb (ke I hg hm hv ?_ hn hdb);exact PyProof.Rows.callWith_builtin1 (c0 (ha pos pins s σ H _ I h) fun us s1 ⟨vs,H1,I1,r1,q1⟩=>hc pins s1 σ H1 vs us Q I1 r1 q1) he hpl
theorem uI (hc:bM X (.type T) r) (hg:Gl X x) (hm:X.mg x=none) (hv:bootBuiltins x=some (.type T)) (ha:PA X (e::es) t) (hn:x ≠ "__name__" := by decide) (hdb:(x == ("__debug__" : Str))=false:=by decide)
  (he:starEach (e::es) X.env=(false,eval e X.env)::starEach es X.env:=by rfl) (hpl:(backTo pos (starEach es X.env)).any (·.1)=false:=by rfl):PE X (.Call (.Name x p) (e::es) [] pos) (F0 r t):=by
 intro pins s σ H Q I h;refine Hb (ke I hg hm hv ?_ hn hdb);exact G1 (c0 (ha pos pins s σ H _ I h) fun us s1 ⟨vs,H1,I1,r1,q1⟩=>hc pins s1 σ H1 vs us Q I1 r1 q1) he hpl
end
end L2
namespace HT
open PySem PyProof.Rows
section
open PySem.SeqAt
open PySem.AutoSeq1 (wpAny_loadPart')
open PySem.MeetsSeq PySem.MeetsSeq2 PySem.MeetsSeq3
end
section
variable{prog:Program}{w:World}{A:Around}{E:Value->Shared->Prop}{s:Shared}
theorem cat_tup{t b:Addr}{vs ws:List Value}{Q:Value->Shared->Prop}(ht:IsTup s.heap t vs.toArray)(hb:IsTup s.heap b ws.toArray)(hv:vs≠[])
  (h1:ws=[]->Q (.ref t) s) (h2:ws≠[]->Q (.ref s.heap.objs.size) {s with heap:=s.heap.push {cls:=.type "tuple",data:=.seq (vs++ws).toArray}})
  (hsz:vs.length+ws.length<=sizeLine):wpAny (model prog w) A (binaryOp .Add (.ref t) (.ref b)) Q E s:=by
 obtain⟨⟨cls,dd,data,sl⟩,ho,hc,n,hd⟩:=id ht;obtain⟨⟨cls2,dd2,data2,sl2⟩,ho2,hc2,n2,hd2⟩:=id hb;simp only at hc hd hc2 hd2;subst hc hd hc2 hd2;have e:vs.toArray++ws.toArray=(vs++ws).toArray:=by simp
 by_cases hw:ws=[]
 ·exact concat_meets ⟨_,ho,rfl⟩ ⟨_,ho2,rfl⟩ Hn seq_tuple_add Ho Hq (Hr _ _)
   (tuple_addW1 t b vs.toArray ws.toArray n n2 dd dd2 sl sl2 (by simpa using hv) (by simp[hw])) ⟨ho,ho2,h1 hw⟩
 ·refine concat_meets ⟨_,ho,rfl⟩ ⟨_,ho2,rfl⟩ Hn seq_tuple_add Ho Hq (Hr _ _)
   (tuple_addW2 t b vs.toArray ws.toArray n n2 dd dd2 sl sl2 (by simpa using hv) (by simpa using hw) (by rw[G7,G7];exact hsz)) ⟨ho,ho2,?_⟩
  rw[e];exact h2 hw
def sIx(n d:Nat):Option Int->Nat
 |none=>d
 |some v=>if v<0 then (v+(n:Int)).toNat else min v.toNat n
theorem sIx_none(n d:Nat):sIx n d none=d:=rfl
theorem sIx_nat(n d k:Nat):sIx n d (some (k:Int))=min k n:=by
 show (if (k:Int)<0 then ((k:Int)+(n:Int)).toNat else min (k:Int).toNat n)=min k n;rw[Gr (by omega),Hs]
theorem B2(n d:Nat)(hd:d<=n)(o:Option Int):sIx n d o<=n:=by
 cases o with
 |none=>exact hd
 |some v=>
  show (if v<0 then (v+(n:Int)).toNat else min v.toNat n)<=n;by_cases hv:v<0
  ·rw[Gq hv];omega
  ·rw[Gr hv];exact Ht _ _
theorem tV(v:Int)(n d:Nat):(if v<0 then max (v+(n:Int)) 0 else min v (n:Int))=((sIx n d (some v):Nat):Int):=by
 show (if v<0 then max (v+(n:Int)) 0 else min v (n:Int))=(((if v<0 then (v+(n:Int)).toNat else min v.toNat n):Nat):Int);by_cases hv:v<0
 ·simp only[Gq hv];omega
 ·simp only[Gr hv];omega
theorem su(lo hi:Option Int)(n:Nat):Builtin.Slice.sliceAdjust lo hi 1 (n:Int)=(((sIx n 0 lo:Nat):Int),((sIx n n hi:Nat):Int)):=by
 have h1:¬ ((1:Int)<0):=by omega
 unfold Builtin.Slice.sliceAdjust;simp only[h1,Hu];refine Prod.ext ?_ ?_
 ·cases lo with
  |none=>rfl
  |some v=>exact tV v n 0
 ·cases hi with
  |none=>rfl
  |some v=>exact tV v n n
theorem rT(i j:Nat):Builtin.Slice.slicePlaces (i:Int) (j:Int) 1=j-i:=by
 unfold Builtin.Slice.slicePlaces;have h1:(1:Int)>0:=by omega
 simp only[h1,Hv,Int.ediv_one];split <;> omega
theorem mi{v:Value}{o:Option Int}{Q:Option Int->Shared->Prop}(p:IsPart v o)(h:Q o s):wpAny (model prog w) A (Builtin.Slice.slicePartIndex v) Q E s:=by
 cases p with
 |none=>exact slicePart_none h
 |int i t=>exact slicePart_int h
theorem sliceApplied_gen{sl:Addr}{vl vu:Value}{lo hi:Option Int}{n:Nat}{Q:Int×Int×Nat->Shared->Prop}(hs:s.heap.IsSliceOf sl vl vu .none)(pl:IsPart vl lo)(pu:IsPart vu hi)
  (h:Q (((sIx n 0 lo:Nat):Int),1,sIx n n hi-sIx n 0 lo) s):wpAny (model prog w) A (Builtin.Slice.sliceApplied (.ref sl) (pure (n:Int))) Q E s:=by
 obtain⟨os,hos,hcs,hds⟩:=id hs;unfold Builtin.Slice.sliceApplied Builtin.Slice.sliceFields;refine GR (GR (Hw hos hds (x:=vl) rfl (GR (Hw hos hds (x:=vu) rfl (GR (Hw hos hds (x:=.none) rfl (GV ?_)))))));refine GR (slicePart_none ?_);show wpAny _ _ (if ((1:Int) == 0)=true then _ else _) _ _ s;rw[Gr (by decide)];refine GR (mi pl (GR (mi pu (GR (GV ?_)))));show wpAny _ _ (match Builtin.Slice.sliceAdjust lo hi 1 (n:Int) with|(lo,hi)=>pure (lo,(1:Int),Builtin.Slice.slicePlaces lo hi 1)) _ _ s;rw[su lo hi n];show wpAny _ _ (pure (((sIx n 0 lo:Nat):Int),(1:Int),Builtin.Slice.slicePlaces ((sIx n 0 lo:Nat):Int) ((sIx n n hi:Nat):Int) 1)) _ _ s;rw[rT];exact GV h
theorem xF(xs:Array Value)(i k:Nat):((List.range k).filterMap fun(m:Nat)=>xs[((i:Int)+(m:Int)*1).toNat]?).toArray=((xs.toList.drop i).take k).toArray:=by
 have e:(fun(m:Nat)=>xs[((i:Int)+(m:Int)*1).toNat]?)=fun m=>xs[i+m]?:=by
  funext m;have:((i:Int)+(m:Int)*1).toNat=i+m:=by omega
  rw[this]
 rw[e];have:=pick_run xs i k;rw[List.filterMap_map]at this;have e2:((fun x=>xs[x]?) ∘ fun x=>i+x)=fun m=>xs[i+m]?:=rfl;rw[e2]at this;rw[this]
theorem getItem_tuple_cut{t sl:Addr}{items:Array Value}{vl vu:Value}{lo hi:Option Int}{Q:Value->Shared->Prop}(ht:IsTup s.heap t items)(hs:s.heap.IsSliceOf sl vl vu .none)(pl:IsPart vl lo)(pu:IsPart vu hi)
  (hw:¬ (sIx items.size 0 lo=0/\sIx items.size items.size hi=items.size))
  (h:Q (.ref s.heap.objs.size) {s with heap:=s.heap.push {cls:=.type "tuple",data:=.seq ((items.toList.drop (sIx items.size 0 lo)).take (sIx items.size items.size hi-sIx items.size 0 lo)).toArray}})
  (hsz:items.size<=sizeLine):wpAny (model prog w) A (getItem (.ref t) (.ref sl)) Q E s:=by
 have htake:sizeOk (.seq ((items.toList.drop (sIx items.size 0 lo)).take (sIx items.size items.size hi-sIx items.size 0 lo)).toArray):=by
  show ((items.toList.drop (sIx items.size 0 lo)).take (sIx items.size items.size hi-sIx items.size 0 lo)).toArray.size<=sizeLine;rw[G7,Hf,List.length_drop,GO];omega
 have hj:sIx items.size items.size hi<=items.size:=B2 _ _ (G0 _) hi;obtain⟨os,hos,hcs,hds⟩:=id hs;have hTs:s.TypeIs (.ref sl) "slice" := ⟨os,hos,hcs⟩;unfold getItem
 try with_reducible refine GS ?_
 first|refine GR (GV ?_)|skip
 refine GR (wpAny_sequenceKey ht.typeIs (by decide) ?_)
 refine GR (Hx (name:=Str.ofString "__getitem__") ht.typeIs Hy
  (HA Hy ht.typeIs entry_tuple_getitem ?_ (args_tuple_getitem _ _)))
 show wpAny _ _ (Builtin.Tuple.tupleItemsOf (.ref t) >>= _) _ _ s;refine GR (tupleItemsOf_ ht ?_);refine GR (HB hTs ?_);rw[Gq (by decide)];refine GR (sliceApplied_gen hs pl pu ?_)
 have hno:¬ ((((sIx items.size 0 lo:Nat):Int) == 0&&(1:Int) == 1&&(sIx items.size items.size hi-sIx items.size 0 lo) == items.size)=true):=by
  intro q;rw[HC,HC]at q;have q1:((sIx items.size 0 lo:Nat):Int)=0:=eq_of_beq q.1.1;have q2:sIx items.size items.size hi-sIx items.size 0 lo=items.size:=eq_of_beq q.2;exact hw ⟨by omega,by omega⟩
 show wpAny _ _ (if (((sIx items.size 0 lo:Nat):Int) == 0&&(1:Int) == 1&&(sIx items.size items.size hi-sIx items.size 0 lo) == items.size)=true then _ else _) _ _ s;rw[Gr hno,xF]
 first
  |exact GR (m:=Builtin.Tuple.tupleExact _) (HD (GV ⟨_,rfl,GV h⟩) htake)
  |exact GR (m:=Builtin.Tuple.tupleExact _) (HD (GR (GV (GV ⟨_,rfl,GV h⟩))) htake)
  |exact GR (GR (m:=Builtin.Tuple.tupleExact _) (HD (GV (GV ⟨_,rfl,GV h⟩)) htake))
  |exact GR (GR (m:=Builtin.Tuple.tupleExact _) (HD (GV ⟨_,rfl,GV h⟩) htake))
end
end HT
namespace L2
open PySem PySem.Spec PyProof.Rows
abbrev TO:=St->Hp->(Option Int->Hp->Prop)->Prop
def PO(X:Cx)(e:Option Expr)(t:TO):Prop:=
 ∀(pins:List (Addr×Obj))(s:Shared)(σ:St)(H:Hp)(Q:Option Int->Hp->Prop),aN X pins σ H s->t σ H Q ->
  wpAny (model X.prog X.w) X.A (evalPart e X.env) (fun u s'=>∃o H',aN X pins σ H' s'/\IsPart u o/\Q o H') X.xe s
def yO:TO:=fun _ H Q=>Q none H
def D6(t:TE):TO:=fun σ H Q=>t σ H fun x H1=>∃i,x=.int i/\Q (some i) H1
theorem dM{ns:List Int}:∀{us:List Value},aX (ns.map V.int) us->IntsAre us ns:=by
 induction ns with
 |nil=>intro us r;rw[HE]at r;cases r;exact .nil
 |cons n ns ih=>
  intro us r;rw[HF]at r;cases r with
  |cons r1 r2=>
   obtain⟨t,e⟩:=r1;subst e;exact .cons n t (ih r2)
section
variable{X:Cx}{e:Expr}{te:TE}{lo hi:Option Expr}{tl th:TO}{pos p2:Pos}
theorem zx:PO X none yO:=by
 intro pins s σ H Q I h;rw[evalPart_none];exact GV ⟨none,H,I,.none,h⟩
theorem zw(h:PE X e te):PO X (some e) (D6 te):=by
 intro pins s σ H Q I hw;rw[evalPart_some];refine c0 (h pins s σ H _ I hw) fun u s1 ⟨x,H1,I1,r1,q1⟩=>?_;obtain⟨i,rfl,q⟩:=q1;obtain⟨t,rfl⟩:=r1;exact⟨some i,H1,I1,.int i t,q⟩
def yr(X:Cx)(r:V->Option Int->Option Int->Hp->VK->Prop):Prop:=
 ∀(pins:List (Addr×Obj))(s:Shared)(σ:St)(H:Hp)(x:V)(v vl vu:Value)(lo hi:Option Int)(sl:Addr)(Q:VK),aN X pins σ H s->bJ x v->s.heap.IsSliceOf sl vl vu .none->IsPart vl lo->IsPart vu hi->r x lo hi H Q ->
  ∃T id,typeLookup (.type T) "__getitem__" = pure (some (.builtin id))/\s.TypeIs v T/\wpAny (model X.prog X.w) X.A (getItem v (.ref sl)) (EP X pins σ Q) X.xe s
theorem yr.or{r r':V->Option Int->Option Int->Hp->VK->Prop}(h:yr X r)(h':yr X r'):yr X (fun x lo hi H Q=>r x lo hi H Q\/r' x lo hi H Q):=by
 intro pins s σ H x v vl vu lo hi sl Q I rx hs pl pu q;rcases q with q|q
 ·exact h pins s σ H x v vl vu lo hi sl Q I rx hs pl pu q
 ·exact h' pins s σ H x v vl vu lo hi sl Q I rx hs pl pu q
def F7(r:V->Option Int->Option Int->Hp->VK->Prop)(te:TE)(tl th:TO):TE:=fun σ H Q=>te σ H fun x H1=>tl σ H1 fun l H2=>th σ H2 fun u H3=>r x l u H3 Q
theorem xH{r:V->Option Int->Option Int->Hp->VK->Prop}(hr:yr X r)(he:PE X e te)(hl:PO X lo tl)(hu:PO X hi th):PE X (.Subscript e (.Slice lo hi none p2) pos) (F7 r te tl th):=by
 intro pins s σ H Q I h;refine Subscript_ (c0 (he pins s σ H _ I h) fun v s1 ⟨x,H1,I1,r1,q1⟩=>?_);refine wpAny_Slice (c0 (hl pins s1 σ H1 _ I1 q1) fun vl s2 ⟨l,H2,I2,pl,q2⟩=>c0 (hu pins s2 σ H2 _ I2 q2) fun vu s3 ⟨u,H3,I3,pu,q3⟩=>?_);rw[evalPart_none];refine GV ?_;have I4:aN X pins σ H3 {s3 with heap:=s3.heap.push {cls:=.type "slice",data:=.fields #[vl,vu,.none]}}:=I3.kept (t':=s3.toks) fun b ob q=>GY _ q;obtain⟨T,id,hT,ht,hg⟩:=hr pins {s3 with heap:=s3.heap.push {cls:=.type "slice",data:=.fields #[vl,vu,.none]}} σ H3 x v vl vu l u s3.heap.objs.size Q I4 r1 (Heap.IsSliceOf.new ..) pl pu q3;show wpAny (model X.prog X.w) X.A (subscriptTail e (.Slice lo hi none p2) v (.ref s3.heap.objs.size)) (EP X pins σ Q) X.xe {s3 with heap:=s3.heap.push {cls:=.type "slice",data:=.fields #[vl,vu,.none]}};exact tail_any (ops:=[.ref s3.heap.objs.size,v]) ht hT hg (by with_unfolding_all rfl)
def o8(xs:List V)(lo hi:Option Int):List V:=(xs.drop (HT.sIx xs.length 0 lo)).take (HT.sIx xs.length xs.length hi-HT.sIx xs.length 0 lo)
theorem kI(xs:List V)(lo hi:Option Int):(o8 xs lo hi).length<=xs.length:=by
 unfold o8;rw[Hf,List.length_drop];omega
def DJ(K:W.Frag):V->Option Int->Option Int->Hp->VK->Prop:=fun x lo hi H Q=>∃a xs,x=.ref a/\eD K H a xs /\
 ¬ (HT.sIx xs.length 0 lo=0/\HT.sIx xs.length xs.length hi=xs.length)/\∀p,H p=none->Q (.ref p) (cj H p (.tup (o8 xs lo hi)))
theorem BO:yr X (DJ X.K):=by
 intro pins s σ H x v vl vu lo hi sl Q I rx hs pl pu h;obtain⟨a,xs,rfl,hx,hw,q⟩:=h;cases rx;obtain⟨its,r,ht,hz⟩:=I.tuple hx;have hlen:its.toArray.size=xs.length:=by rw[G7];exact r.length.symm
 refine⟨"tuple",_,Hy.lookup,ht.typeIs,?_⟩;refine HT.getItem_tuple_cut ht hs pl pu (by rw[hlen];exact hw) ?_ (by rw[hlen];exact hz);rw[hlen];refine⟨.ref s.heap.objs.size,_,I.laid (t':=s.toks) (o:=.tup (o8 xs lo hi)) (fun b ob q=>GY _ q) (G0 _) ?_,rfl,q _ (I.hok.fresh (G0 _))⟩;exact⟨Gz (kI xs lo hi) hz,_,(r.drop (HT.sIx xs.length 0 lo)).take (HT.sIx xs.length xs.length hi-HT.sIx xs.length 0 lo),IsTup.new _ _⟩
def El(K:W.Frag):R2:=fun x y H Q=>∃a b xs ys,x=.ref a/\y=.ref b/\eD K H a xs/\eD K H b ys/\xs≠[]/\xs.length+ys.length<=sizeLine /\
 (ys=[]->Q (.ref a) H)/\(ys≠[]->∀p,H p=none->Q (.ref p) (cj H p (.tup (xs++ys))))
theorem aX.nil_iff{xs:List V}{us:List Value}(r:aX xs us):us=[]↔xs=[]:=by
 cases r with
 |nil=>simp
 |cons _ _=>simp
theorem zL:gf X (binaryOp .Add) (El X.K):=by
 intro pins s σ H x y v u Q I rx ry h;obtain⟨a,b,xs,ys,rfl,rfl,ha,hb,hx,hz,q1,q2⟩:=h;cases rx;cases ry;obtain⟨its,r1,p1,_⟩:=I.tuple ha;obtain⟨its2,r2,p2,_⟩:=I.tuple hb;refine HT.cat_tup p1 p2 (fun z=>hx (r1.nil_iff.mp z)) (fun z=>⟨.ref a,H,I,rfl,q1 (r2.nil_iff.mp z)⟩) (fun z=>?_) (by rw[<- r1.length,<- r2.length];exact hz);refine⟨.ref s.heap.objs.size,_,I.laid (t':=s.toks) (o:=.tup (xs++ys)) (fun b ob q=>GY _ q) (G0 _) ?_,rfl,q2 (fun w=>z (r2.nil_iff.mpr w)) _ (I.hok.fresh (G0 _))⟩;exact⟨by rw[Hl];exact hz,_,r1.append r2,IsTup.new _ _⟩
end
end L2
namespace L2
open PySem PySem.Spec PyProof.Rows
def qQ(n:Nat)(i:Int):Option Nat:=if 0<=i then (if i<n then some i.toNat else none) else if -(n:Int)<=i then some (i+n).toNat else none
def atI{α:Type}(xs:List α)(i:Int):Option α:=(qQ xs.length i).bind fun j=>xs[j]?
theorem tI{n:Nat}{i:Int}{j:Nat}(h:qQ n i=some j):seqIndex? i n=some j/\j<n/\-(n:Int)<=i/\i<n:=by
 unfold qQ at h;by_cases h0:0<=i
 ·rw [Gq h0] at h;by_cases h1:i<n
  ·rw[Gq h1]at h;have e:i.toNat=j:=Gj h;exact⟨by rw[seqIndex_of h0 h1,e],by omega,by omega,h1⟩
  ·rw[Gr h1]at h;cases h
 ·rw [Gr h0] at h;by_cases h1:-(n:Int)<=i
  ·rw[Gq h1]at h;have e:(i+n).toNat=j:=Gj h;exact⟨by rw[seqIndex_neg (by omega) h1,e],by omega,h1,by omega⟩
  ·rw[Gr h1]at h;cases h
theorem oy{α:Type}{xs:List α}{i:Int}{v:α}(h:atI xs i=some v):∃j,seqIndex? i xs.length=some j/\xs[j]?=some v/\j<xs.length/\-(xs.length:Int)<=i/\i<xs.length:=by
 unfold atI at h;cases e:qQ xs.length i with
 |none=>rw[e]at h;cases h
 |some j=>
  rw[e]at h;obtain⟨h1,h2,h3,h4⟩:=tI e;exact⟨j,h1,h,h2,h3,h4⟩
theorem lx{α:Type}{xs:List α}{j:Nat}{v:α}(h:xs[j]?=some v):atI xs (j:Int)=some v:=by
 have hj:j<xs.length:=(GI.mp h).1
 have e:qQ xs.length (j:Int)=some j:=by
  unfold qQ;rw[Gq (by omega),Gq (by omega)];simp
 unfold atI;rw[e];exact h
def ly(b:Expr):Prop:=∀o i,subscripted b false o i=operate [o,i] (getItem o i)
def yt(X:Cx)(r:R2):Prop:=
 ∀(value slice:Expr)(pins:List (Addr×Obj))(s:Shared)(σ:St)(H:Hp)(x y:V)(v u:Value)(Q:VK),aN X pins σ H s->bJ x v->bJ y u->r x y H Q ->
  subscripted slice false v u=operate [v,u] (getItem v u)->wpAny (model X.prog X.w) X.A (subscriptTail value slice v u) (EP X pins σ Q) X.xe s
def DB(X:Cx)(id:String)(r:V->List V->Hp->VK->Prop):Prop:=
 ∀(pins:List (Addr×Obj))(s:Shared)(σ:St)(H:Hp)(x:V)(xs:List V)(v:Value)(us:List Value)(Q:VK),aN X pins σ H s->bJ x v->aX xs us->r x xs H Q ->
  wpAny (model X.prog X.w) X.A (call (.builtin id) (v::us)) (EP X pins σ Q) X.xe s
section
variable{X:Cx}{a b:Expr}{ta tb:TE}{pos:Pos}
theorem yt.or{r r':R2}(h:yt X r)(h':yt X r'):yt X (fun x y H Q=>r x y H Q\/r' x y H Q):=by
 intro value slice pins s σ H x y v u Q I rx ry q hs;rcases q with q|q
 ·exact h value slice pins s σ H x y v u Q I rx ry q hs
 ·exact h' value slice pins s σ H x y v u Q I rx ry q hs
theorem AI{r:R2}(hr:yt X r)(ha:PE X a ta)(hb:PE X b tb)(hs:ly b):PE X (.Subscript a b pos) (EV r ta tb):=by
 intro pins s σ H Q I h;exact Subscript_ (Bg ha hb I h fun v u s2 x y H2 I2 rx ry q=>hr a b pins s2 σ H2 x y v u Q I2 rx ry q (hs _ _))
def DO(K:W.Frag):R2:=fun x y H Q=>∃p xs i v,x=.ref p/\y=.int i/\dW K H p xs/\atI xs i=some v/\Q v H
def DN(K:W.Frag):R2:=fun x y H Q=>∃p xs i v,x=.ref p/\y=.int i/\eD K H p xs/\atI xs i=some v/\Q v H
def A7:R2:=fun x y H Q=>∃z i c,x=.str z/\y=.int i/\z.length<=sizeLine/\atI z.cps.toList i=some c/\Q (.str ⟨#[c]⟩) H
theorem z8:yt X (DO X.K):=by
 intro value slice pins s σ H x y v u Q I rx ry h hs;obtain⟨p,xs,i,z,rfl,rfl,hq,he,q⟩:=h;cases rx;obtain⟨t,rfl⟩:=ry;obtain⟨its,r,pl,hz⟩:=I.list hq;obtain⟨j,h1,h2,h3,h4,h5⟩:=oy he;obtain⟨w,ew,rw'⟩:=r.get h2;have hl:=r.length;have hn:=kd;have fin:EP X pins σ Q w s:=⟨z,H,I,rw',q⟩;by_cases h0:0<=i
 ·have hj:i.toNat=j:=by
   rw[seqIndex_of h0 h5]at h1;exact Gj h1
  exact item_listR pl.isList h0 (by omega) (by rw[hj];simpa using ew) fin hs
 ·have hj:(i+(its.toArray.size:Int)).toNat=j:=by
   rw[seqIndex_neg (by omega) h4]at h1;rw[G7,<- hl];exact Gj h1
  exact subscriptTail_builtinR (x:=w) pl.isList.typeIs slot_list_getitem.lookup
   (wpAny_getItem_list_neg (Q:=fun r s'=>r=w/\EP X pins σ Q r s') pl.isList (by omega) (by rw[G7] <;> omega) (by omega) (by rw[hj];simpa using ew) ⟨rfl,fin⟩) hs
theorem C2:yt X (DN X.K):=by
 intro value slice pins s σ H x y v u Q I rx ry h hs;obtain⟨p,xs,i,z,rfl,rfl,hq,he,q⟩:=h;cases rx;obtain⟨t,rfl⟩:=ry;obtain⟨its,r,pl,hz⟩:=I.tuple hq;obtain⟨j,h1,h2,h3,h4,h5⟩:=oy he;obtain⟨w,ew,rw'⟩:=r.get h2;have hl:=r.length;have hn:=kd;have fin:EP X pins σ Q w s:=⟨z,H,I,rw',q⟩
 exact subscriptTail_builtinR (x:=w) pl.typeIs slot_tuple_getitem.lookup
  (getItem_tuple (j:=j) (Q:=fun r s'=>r=w/\EP X pins σ Q r s') pl (by omega) (by omega) (by rw[G7,<- hl];exact h1) (by simpa using ew) ⟨rfl,fin⟩) hs
theorem wG:yt X A7:=by
 intro value slice pins s σ H x y v u Q I rx ry h hs;obtain⟨z,i,c,rfl,rfl,hz,he,q⟩:=h;obtain⟨t,rfl⟩:=rx;obtain⟨t',rfl⟩:=ry;obtain⟨j,h1,h2,h3,h4,h5⟩:=oy he;have hl:z.cps.toList.length=z.length:=by simp[Str.length]
 rw[hl]at h1 h4 h5;have hn:=kd
 exact tail_any (HG s z t) slot_str_getitem.lookup (getItem_str (c:=c) (by
  have e1:decide (i < -(2^63:Int))=false:=Gm (by omega);have e2:decide (i ≥ 2^63)=false:=Gm (by omega)
  rw[e1,e2,Bool.or_false]) (by rw[h1];simpa using h2) ⟨.str ⟨#[c]⟩,H,I.tok _,⟨_,rfl⟩,q⟩) hs
def F1(K:W.Frag):R2:=fun x y H Q=>DO K x y H Q\/DN K x y H Q\/A7 x y H Q
theorem C3:yt X (F1 X.K):=z8.or (C2.or wG)
theorem r6 (its:List Value) (n j:Nat) (u:Value):Obj.mapSeq (·.setIfInBounds j u) {cls:=.type "list",data:=.seq its.toArray n}={cls:=.type "list",data:=.seq (its.set j u).toArray n}:=by
 simp[Obj.mapSeq]
theorem aN.lst{pins:List (Addr×Obj)}{σ:St}{H:Hp}{s:Shared}{p:Addr}{xs:List V}(I:aN X pins σ H s)(h:H p=some (.lst xs)) :
  ∃(its:List Value) (n:Nat),aX xs its/\s.heap.get? p=some {cls:=.type "list",data:=.seq its.toArray n}/\xs.length<=sizeLine:=by
 obtain⟨z,its,n,r,e⟩:=I.hok p _ h;exact⟨its,n,r,e,z⟩
theorem aN.lstUpd{pins:List (Addr×Obj)}{σ:St}{H:Hp}{s:Shared}{p:Addr}{xs ys:List V}{its its':List Value}{n n':Nat}{f:Obj->Obj}(I:aN X pins σ H s)(h:H p=some (.lst xs))
  (ho:s.heap.get? p=some {cls:=.type "list",data:=.seq its.toArray n}) (hf:f {cls:=.type "list",data:=.seq its.toArray n}={cls:=.type "list",data:=.seq its'.toArray n'}) (r:aX ys its') (hz:ys.length<=sizeLine) (t:Nat) :
  aN X pins σ (cj H p (.lst ys)) {s with heap:=s.heap.update p f,toks:=t}:=by
 have e:(s.heap.update p f).get? p=some {cls:=.type "list",data:=.seq its'.toArray n'}:=by
  rw[HH f ho (by rw[hf] <;> rfl),hf]
 refine I.write (x:=p) (e:=p) (by rw[h];trivial) (.inl rfl) (fun b u hb q=>(Heap.get?_update_other _ _ (GF hb)).trans q) ⟨_,e⟩ ?_;exact⟨hz,its',n',r,e⟩
def AA:V->V->V->Hp->(Hp->Prop)->Prop:=fun o i v H Q=>∃p xs k j,o=.ref p/\i=.int k/\H p=some (.lst xs)/\qQ xs.length k=some j/\Q (cj H p (.lst (xs.set j v)))
theorem xl:DZ X AA:=by
 intro pins s σ H o i v ov iv u Q I ro ri rv h;obtain⟨p,xs,k,j,rfl,rfl,hp,hj,q⟩:=h;cases ro;obtain⟨t,rfl⟩:=ri;obtain⟨its,n,r,ho,hz⟩:=I.lst hp;obtain⟨h1,h2,h3,h4⟩:=tI hj;have hl:=r.length;have hn:=kd
 have I':aN X pins σ (cj H p (.lst (xs.set j v))) {s with heap:=s.heap.update p (Obj.mapSeq (·.setIfInBounds j u))}:=
  I.lstUpd hp ho (r6 its n j u) (r.set rv j) (by rw[List.length_set];exact hz) s.toks
 by_cases h0:0<=k
 ·have hk:k.toNat=j:=by
   rw[seqIndex_of h0 h4]at h1;exact Gj h1
  exact W.ki_setAt ho h0 (by omega) (by rw[G7,<- hl];exact h4) (by rw[hk];exact⟨_,I',q⟩)
 ·have hk:(k+(its.toArray.size:Int)).toNat=j:=by
   rw[seqIndex_neg (by omega) h3]at h1;rw[G7,<- hl];exact Gj h1
  exact W.ki_setBack ho (by omega) (by rw[G7,<- hl];exact h3) (by omega) (by rw[hk];exact⟨_,I',q⟩)
theorem oC(lo hi:Option Int)(n:Nat):(sliceBounds lo hi none n).1=((HT.sIx n 0 lo:Nat):Int)/\(sliceBounds lo hi none n).2.1=((HT.sIx n n hi:Nat):Int)/\(sliceBounds lo hi none n).2.2=1:=by
 refine⟨?_,?_,rfl⟩
 ·cases lo with
  |none=>simp[sliceBounds,HT.sIx]
  |some i=>
   simp only[sliceBounds,HT.sIx,Option.getD_none,show (1:Int)>0 by decide,Hv];by_cases h:i<0
   ·simp only[h,Hv] <;> omega
   ·simp only[h,Hu] <;> omega
 ·cases hi with
  |none=>simp[sliceBounds,HT.sIx]
  |some i=>
   simp only[sliceBounds,HT.sIx,Option.getD_none,show (1:Int)>0 by decide,Hv];by_cases h:i<0
   ·simp only[h,Hv] <;> omega
   ·simp only[h,Hu] <;> omega
theorem mT(its:List Value)(lo hi:Option Int):slicePick its.toArray lo hi none=((its.drop (HT.sIx its.length 0 lo)).take (HT.sIx its.length its.length hi-HT.sIx its.length 0 lo)).toArray:=by
 obtain⟨h1,h2,h3⟩:=oC lo hi its.toArray.size;unfold slicePick;rw[h1,h2,h3];simp only[sliceRange_one,pick_run,G7] <;> rfl
def DK(K:W.Frag):V->Option Int->Option Int->Hp->VK->Prop:=fun x lo hi H Q=>∃a xs,x=.ref a/\dW K H a xs/\∀p,H p=none->Q (.ref p) (cj H p (.lst (o8 xs lo hi)))
theorem zb:yr X (DK X.K):=by
 intro pins s σ H x v vl vu lo hi sl Q I rx hs pl pu h;obtain⟨a,xs,rfl,hx,q⟩:=h;cases rx;obtain⟨its,r,ht,hz⟩:=I.list hx;have hlen:=r.length;refine⟨"list",_,slot_list_getitem.lookup,ht.isList.typeIs,?_⟩;refine wpAny_getItem_list_slice ht.isList hs pl pu .none (by simp) ?_ (by rw[G7] <;> omega);rw[mT,<- hlen];refine⟨.ref s.heap.objs.size,_,I.laid (t':=s.toks) (o:=.lst (o8 xs lo hi)) (fun b ob q=>GY _ q) (G0 _) ?_,rfl,q _ (I.hok.fresh (G0 _))⟩;exact⟨Gz (kI xs lo hi) hz,_,0,(r.drop (HT.sIx xs.length 0 lo)).take (HT.sIx xs.length xs.length hi-HT.sIx xs.length 0 lo),GZ _ rfl⟩
theorem bM.or{f:Value}{r r':List V->Hp->VK->Prop}(h:bM X f r)(h':bM X f r'):bM X f (fun xs H Q=>r xs H Q\/r' xs H Q):=by
 intro pins s σ H xs us Q I rs q;rcases q with q|q
 ·exact h pins s σ H xs us Q I rs q
 ·exact h' pins s σ H xs us Q I rs q
theorem oR:bM X (.type "list") (fun xs H Q=>∃p ys,xs=[.ref p]/\(dW X.K H p ys\/eD X.K H p ys)/\∀l,H l=none->Q (.ref l) (cj H l (.lst ys))):=by
 intro pins s σ H xs us Q I r h;obtain⟨p,ys,rfl,hq,q⟩:=h;obtain⟨u,rfl,rx⟩:=dm r;cases rx
 have fin:∀(its:List Value),aX ys its->ys.length<=sizeLine->∀(h':Heap)(c':Nat),(∀b o',s.heap.get? b=some o'->h'.get? b=some o') ->
   h'.get? s.heap.objs.size=some {cls:=.type "list",dict:=none,data:=.seq its.toArray c',slots:=#[]}->EP X pins σ Q (.ref s.heap.objs.size) {s with heap:=h'}:=fun its r' hz h' c' kp e=>
  ⟨.ref s.heap.objs.size,_,I.laid (t':=s.toks) kp (G0 _) (show d0 X.prog X.w _ h' _ (.lst ys) from⟨hz,its,c',r',e⟩),rfl,q _ (I.hok.fresh (G0 _))⟩
 rcases hq with hq|hq
 ·obtain⟨its,r',pl,hz⟩:=I.list hq;have hlen:=r'.length;obtain⟨o,ho,hc,n,hd⟩:=pl.isList;exact call_list_seq p (.inl rfl) ho hc hd (fun h' c' kp e=>fin its r' hz h' c' kp e) (by simp only[G7] <;> omega)
 ·obtain⟨its,r',pl,hz⟩:=I.tuple hq;have hlen:=r'.length;obtain⟨o,ho,hc,n,hd⟩:=pl;exact call_list_seq p (.inr rfl) ho hc hd (fun h' c' kp e=>fin its r' hz h' c' kp e) (by simp only[G7] <;> omega)
theorem mX:bM X (.type "tuple") (fun xs H Q=>∃p ys,xs=[.ref p]/\((dW X.K H p ys/\∀l,H l=none->Q (.ref l) (cj H l (.tup ys)))\/(eD X.K H p ys/\Q (.ref p) H))):=by
 intro pins s σ H xs us Q I r h;obtain⟨p,ys,rfl,h⟩:=h;obtain⟨u,rfl,rx⟩:=dm r;cases rx;rcases h with⟨hq,q⟩|⟨hq,q⟩
 ·obtain ⟨its, r', pl, hz⟩ := I.list hq;have hlen:=r'.length;refine call_tuple_list pl.isList (fun h' kp=>?_) (by simp only[G7] <;> omega);have I1:aN X pins σ H {s with heap:=h'}:=I.kept (t':=s.toks) kp
  have I2:aN X pins σ (cj H h'.objs.size (.tup ys)) {s with heap:=h'.push {cls:=.type "tuple",data:=.seq its.toArray}}:=
   I1.laid (t':=s.toks) (fun b o e=>GY _ e) (G0 _) (show d0 X.prog X.w _ _ _ (.tup ys) from⟨hz,its,r',IsTup.new _ _⟩)
  exact⟨.ref h'.objs.size,_,I2,rfl,q _ (I1.hok.fresh (G0 _))⟩
 ·obtain⟨its,r',pl,hz⟩:=I.tuple hq;exact call_tuple_same pl ⟨.ref p,H,I,rfl,q⟩
def Fb(K:W.Frag)(T:String)(x:V)(H:Hp):Prop:=match x with
 |.str _=>T = "str"
 |.int _=>T = "int"
 |.ref p=>(T = "list" /\ ∃xs,dW K H p xs)\/(T = "tuple" /\ ∃o,K.lookup p=some o/\o.cls=.type "tuple" /\ o.dict=none) \/
   (T = "dict" /\ ((∃kvs,H p=some (.dK kvs))\/∃kvs,H p=some (.dT kvs)))\/(T = "set" /\ ∃S n,H p=some (.set S n))
 |_=>False
theorem Bp{pins:List (Addr×Obj)}{σ:St}{H:Hp}{s:Shared}{T:String}{x:V}{v:Value}(I:aN X pins σ H s)(r:bJ x v)(ty:Fb X.K T x H) :
  s.TypeIs v T/\∀a,v=.ref a->∃ob,s.heap.get? a=some ob/\ob.dict=none:=by
 cases x with
 |str z=>
  obtain⟨t,rfl⟩:=r;cases (show T = "str" from ty);exact⟨HG s z t,fun _ e=>nomatch e⟩
 |int i=>
  obtain⟨t,rfl⟩:=r;cases (show T = "int" from ty);exact⟨typeIs_int s i t,fun _ e=>nomatch e⟩
 |ref p=>
  cases r;rcases ty with⟨rfl,xs,hq⟩|⟨rfl,o,hk,hc,hd⟩|⟨rfl,hk⟩|⟨rfl,S,n,hk⟩
  ·obtain⟨its,_,pl,_⟩:=I.list hq;refine⟨pl.isList.typeIs,fun a e=>?_⟩;cases e;obtain⟨o,n,e,c,hd,_⟩:=pl;exact⟨o,e,hd⟩
  ·refine⟨⟨o,I.kIn p o hk,hc⟩,fun a e=>?_⟩;cases e;exact⟨o,I.kIn _ o hk,hd⟩
  ·have z:∃o,s.heap.get? p=some o/\o.ExactDict:=by
    rcases hk with⟨kvs,hk⟩|⟨kvs,hk⟩
    ·obtain⟨_,_,_,_,o,_,_,e,ex,_⟩:=I.hok p _ hk;exact⟨o,e,ex⟩
    ·obtain⟨_,_,_,_,o,_,_,e,ex,_⟩:=I.hok p _ hk;exact⟨o,e,ex⟩
   obtain⟨o,e,ex⟩:=z;refine⟨⟨o,e,ex.1⟩,fun a e2=>?_⟩;cases e2;exact⟨o,e,ex.2.1⟩
  ·obtain⟨o,_,_,_,e,ex,_⟩:=I.hok p _ hk;refine⟨⟨o,e,ex.1⟩,fun a e2=>?_⟩;cases e2;exact⟨o,e,ex.2.1⟩
 |_=>exact False.elim ty
def F9(K:W.Frag)(T:String)(r:V->List V->Hp->VK->Prop)(to:TE)(t:TA):TE:=fun σ H Q=>to σ H fun x H1=>Fb K T x H1/\t σ H1 fun xs H2=>r x xs H2 Q
variable{o e:Expr}{es:List Expr}{to:TE}{t:TA}{name:Str}{apos cpos:Pos}{T id:String}{r:V->List V->Hp->VK->Prop}
theorem AJ (pa:PlainAttrs T) (slot:Slot T name id) (hty:typeOf (.builtin id)=pure (.type "method_descriptor")) (hm:DB X id r) (ho:PE X o to) (ha:PA X (e::es) t)
  (hbase:attributeBase o name X.env (eval o X.env)=eval o X.env:=by rfl)
  (hfew : ((backTo cpos (starEach (e :: es) X.env)).all (fun x => !x.1) && (backToKw cpos (keywordEach [] X.env)).all (fun x => x.1.isSome)
   && decide ((e::es).length+([]:List Keyword).length+(if ([]:List Keyword).isEmpty then 0 else 1)<30))=true:=by rfl)
  (hline:(apos.endLine == cpos.line)=true:=by rfl) (hs:starEach (e::es) X.env=(false,eval e X.env)::starEach es X.env:=by rfl) (hplain:(backTo cpos (starEach es X.env)).any (·.1)=false:=by rfl) :
  PE X (.Call (.Attribute o name apos) (e::es) [] cpos) (F9 X.K T r to t):=by
 intro pins s σ H Q I h;refine wpAny_Call_method_late hbase hfew hline rfl (c0 (ho pins s σ H _ I h) fun v s1 ⟨x,H1,I1,r1,ty,q1⟩=>?_);obtain⟨h1,h2⟩:=Bp I1 r1 ty;refine⟨T,id,pa,slot,hty,h1,h2,?_⟩;have hA:=ha cpos pins s1 σ H1 _ I1 q1;rw[hs]at hA⊢;refine Calls.callWith_builtin (by show (false || (backTo cpos (starEach es X.env)).any (·.1))=false;rw[hplain] <;> rfl) (Calls.evalArgs_plain ?_);exact c0 hA fun us s2 ⟨vs,H2,I2,r2,q2⟩=>hm pins s2 σ H2 x vs v us Q I2 r1 r2 q2
end
end L2
namespace L2
open PySem PySem.Spec PyProof.Rows
def F2(X:Cx)(id:String)(r:V->List V->Hp->VK->Prop):Prop:=
 ∀(pins:List (Addr×Obj))(s:Shared)(σ:St)(H:Hp)(x:V)(xs:List V)(v:Value)(us:List Value)(Q:VK),aN X pins σ H s->bJ x v->aX xs us->r x xs H Q ->
  wpAny (model X.prog X.w) X.A (call (.builtin id) (v::us)) (EP X pins σ Q) X.xe s
theorem aX.one:∀{x:V}{us:List Value},aX [x] us->∃u,us=[u]/\bJ x u
 |_,_,.cons r .nil=>⟨_,rfl,r⟩
theorem aX.rep{xs:List V}{us:List Value}(h:aX xs us):∀k:Nat,aX (List.replicate k xs).flatten (List.replicate k us).flatten
 |0=>.nil
 |k+1=>by
  rw[HI,HI,HJ,HJ];exact aX.append h (aX.rep h k)
theorem nG(its:List Value):∀(k:Nat)(acc:List Value),
  List.foldl (fun x1 x2=>x1++x2) acc.toArray (List.replicate k its.toArray)=(acc++(List.replicate k its).flatten).toArray
 |0,acc=>by simp
 |k+1,acc=>by
  have e:acc.toArray++its.toArray=(acc++its).toArray:=by simp
  have e2:(acc++its)++(List.replicate k its).flatten=acc++(List.replicate (k+1) its).flatten:=by
   rw[HI,HJ,HK]
  rw[<- e2,<- nG its k (acc++its),<- e,HI,HL]
section
variable{X:Cx}{pins:List (Addr×Obj)}{σ:St}{H:Hp}{s:Shared}{l b:Addr}{xs ys zs:List V}
theorem aN.lset{its its':List Value}{n:Nat}{f:Array Value->Array Value}{t':Nat}(I:aN X pins σ H s)(hH:H l=some (.lst xs))
  (e:s.heap.get? l=some {cls:=.type "list",data:=.seq its.toArray n}) (hf:f its.toArray=its'.toArray) (hv:aX ys its') (hz:ys.length<=sizeLine) :
  aN X pins σ (cj H l (.lst ys)) {s with heap:=s.heap.update l (Obj.mapSeq f),toks:=t'}:=by
 have q:=PySem.IsL.update e f;rw[hf]at q;refine I.write (x:=l) (e:=l) (by rw[hH];exact trivial) (.inl rfl) (fun b' u hb hu=>(Heap.get?_update_other s.heap (Obj.mapSeq f) (GF hb)).trans hu) ⟨_,q⟩ ?_;exact⟨hz,its',_,hv,q⟩
theorem aN.lnew{its:List Value}{t':Nat}(I:aN X pins σ H s)(hv:aX ys its)(hz:ys.length<=sizeLine) :
  aN X pins σ (cj H s.heap.objs.size (.lst ys)) {s with heap:=s.heap.push {cls:=.type "list",data:=.seq its.toArray},toks:=t'}:=
 I.laid (fun _ _ q=>GY _ q) (G0 _) ⟨hz,its,0,hv,GZ _ rfl⟩
theorem aN.fresh(I:aN X pins σ H s):H s.heap.objs.size=none:=I.hok.fresh (G0 _)
theorem aN.lstM (I:aN X pins σ H s) (hH:H l=some (.lst xs)):xs.length<=sizeLine/\∃(its:List Value) (n:Nat),aX xs its/\xs.length=its.length/\s.heap.get? l=some {cls:=.type "list",data:=.seq its.toArray n}:=by
 obtain⟨z,its,n,r,e⟩:=I.hok l _ hH;exact⟨z,its,n,r,r.length,e⟩
theorem p3{n:Nat}(h:n<=sizeLine):Builtin.List.listTooLong n=false:=by
 unfold Builtin.List.listTooLong;exact Gm (by omega)
end
section
variable{X:Cx}
def tm:V->List V->Hp->VK->Prop:=fun x vs H Q=>∃l xs y,x=.ref l/\vs=[y]/\H l=some (.lst xs)/\xs.length<sizeLine/\Q .non (cj H l (.lst (xs++[y])))
theorem ny:F2 X "list.append" tm:=by
 intro pins s σ H x vs v us Q I rx rv h;obtain⟨l,xs,y,rfl,rfl,hH,hz,q⟩:=h;cases rx;obtain⟨u,rfl,ru⟩:=rv.one;obtain⟨z,its,n,r,hl,e⟩:=I.lstM hH;refine HM F.slot_list_append ⟨_,e,rfl⟩ F.entry_list_append (F.args_list_append_2 _ _) (PySem.list_append l its.toArray n u (by rw[G7];omega)) ⟨e,?_⟩;refine⟨.non,_,I.lset (its':=its++[u]) hH e (by simp) (r.append (.cons ru .nil)) ?_,rfl,q⟩;rw[Hl,HN];omega
def tj:V->List V->Hp->VK->Prop:=fun x vs H Q=>∃l b xs zs,x=.ref l/\vs=[.ref b]/\H l=some (.lst xs)/\H b=some (.lst zs)/\xs.length+zs.length<=sizeLine/\Q .non (cj H l (.lst (xs++zs)))
theorem uQ:F2 X "list.extend" tj:=by
 intro pins s σ H x vs v us Q I rx rv h;obtain⟨l,b,xs,zs,rfl,rfl,hH,hB,hz,q⟩:=h;cases rx;obtain⟨u,rfl,ru⟩:=rv.one;cases ru;obtain⟨z,its,n,r,hl,e⟩:=I.lstM hH;obtain⟨z2,its2,n2,r2,hl2,e2⟩:=I.lstM hB;have hsz:its.toArray.size+its2.toArray.size<=sizeLine:=by rw[G7,G7];omega
 have hlong:¬ (!its.toArray.isEmpty&&Builtin.List.listTooLong (its.toArray.size+its2.toArray.size))=true:=by
  rw[p3 hsz,Bool.and_false];exact G6
 refine HM F.slot_list_extend ⟨_,e,rfl⟩ F.entry_list_extend (F.args_list_extend_2 _ _)
  (AutoSeq1.list_extend_list_list_0 l its.toArray n b its2.toArray n2 hlong (by rw[G7];omega) (by omega)) ⟨e,e2,?_⟩
 refine⟨.non,_,I.lset (its':=its++its2) hH e (by simp) (r.append r2) ?_,rfl,q⟩;rw[Hl];omega
def DQ:R2:=fun x y H Q=>∃l b xs zs,x=.ref l/\y=.ref b/\H l=some (.lst xs)/\H b=some (.lst zs)/\xs.length+zs.length<=sizeLine/\∀p,H p=none->Q (.ref p) (cj H p (.lst (xs++zs)))
theorem CC:gf X (binaryOp .Add) DQ:=by
 intro pins s σ H x y v u Q I rx ry h;obtain⟨l,b,xs,zs,rfl,rfl,hH,hB,hz,q⟩:=h;cases rx;cases ry;obtain⟨z,its,n,r,hl,e⟩:=I.lstM hH;obtain⟨z2,its2,n2,r2,hl2,e2⟩:=I.lstM hB;refine PySem.P.add_list e e2 ?_ (by rw[G7,G7];omega);have ea:its.toArray++its2.toArray=(its++its2).toArray:=by simp
 rw[ea];exact⟨.ref _,_,I.lnew (t':=s.toks) (r.append r2) (by rw[Hl];omega),rfl,q _ I.fresh⟩
def DM:R2:=fun x y H Q=>∃l k xs,x=.ref l/\y=.int k/\H l=some (.lst xs)/\-(2^63)<=k/\k<2^63/\xs.length*k.toNat<=sizeLine /\
 ∀p,H p=none->Q (.ref p) (cj H p (.lst (List.replicate k.toNat xs).flatten))
theorem z5{α:Type}(xs:List α)(k:Nat):(List.replicate k xs).flatten.length=k*xs.length:=by
 induction k with
 |zero=>simp
 |succ k ih=>rw[HI,HJ,Hl,ih,Nat.succ_mul,Nat.add_comm]
theorem Ct:gf X (binaryOp .Mult) DM:=by
 intro pins s σ H x y v u Q I rx ry h;obtain⟨l,k,xs,rfl,rfl,hH,h1,h2,hz,q⟩:=h;cases rx;obtain⟨t,rfl⟩:=ry;obtain⟨z,its,n,r,hl,e⟩:=I.lstM hH;have hlen:its.toArray.size*k.toNat<=sizeLine:=by rw[G7,<- hl];exact hz
 have hcap:¬ its.toArray.size*k.toNat>(2^63-1) / 8:=by
  have:(sizeLine:Nat)<=(2^63-1) / 8:=by decide
  omega
 have hfit:¬ (!Builtin.List.listFitsIndex k)=true:=by
  rw[fitsIndex_both h1 h2];exact G6
 have hlong:¬ Builtin.List.listTooLong (its.toArray.size*k.toNat)=true:=by
  rw[p3 hlen];exact G6
 have hnew:List.foldl (fun x1 x2=>x1++x2) #[] (List.replicate (if its.toArray.isEmpty=true then 0 else k.toNat) its.toArray)=(List.replicate k.toNat its).flatten.toArray:=by
  have f0:∀m:Nat,List.foldl (fun x1 x2=>x1++x2) #[] (List.replicate m its.toArray)=(List.replicate m its).flatten.toArray:=fun m=>by
   have:=nG its m [];rw[HP]at this;exact this
  rw[f0];cases its with
  |nil=>simp
  |cons a r'=>rw[Gr (by simp)]
 refine wpAny_binaryOp_repeat_ref (T:="list") (U:="int") (by decide) ⟨_,e,rfl⟩ (fun s'=>typeIs_int s' k t) noFill_list_mul F.fills_int_mul F.slot_int_rmul repeat_list F.slot_int_index.lookup
  (HM F.slot_int_rmul (typeIs_int s k t) F.entry_int_rmul (F.args_int_rmul_2 _ _) (int___rmul___int_list k t l its.toArray n)
   ⟨e,rfl,⟨_,e,rfl⟩,HM F.slot_list_mul ⟨_,e,rfl⟩ F.entry_list_mul (F.args_list_mul_2 _ _) (AutoListH.list___mul___list_int_3 l its.toArray n k t hfit hcap hlong) ⟨e,?_⟩⟩)
 rw[hnew];exact⟨.ref _,_,I.lnew (t':=s.toks) (r.rep k.toNat) (by rw[z5,Nat.mul_comm];exact hz),rfl,q _ I.fresh⟩
end
section
variable{prog:Program}{w:World}{A:Around}{E:Value->Shared->Prop}{s:Shared}
end
section
variable{X:Cx}
end
end L2
namespace Att
open PySem PySem.W PySem.Calls PyProof.Rows
theorem lg{P:Params}{h:Heap}:∀(ns:List Int)(vs:List Value),WellAll P h vs (ns.map WData.int)->IntsAre vs ns:=by
 intro ns
 induction ns with
 |nil=>
  intro vs w;rw[HE]at w;cases w;exact .nil
 |cons n ns ih=>
  intro vs w;rw[HF]at w;cases w with
  |cons a b=>
   cases a;exact .cons _ _ (ih _ b)
theorem uC{l:OpenLaw}{n:Nat}(hn:l.most=some n){P:Params}{h:Heap}{args:List WData}{vals:List Value}
  (hpre:l.row.toRowW.claim.pre args=true) (hwl:WellAll P h vals args) :
  ∃a vs ns,vals=[Value.ref a]/\args=[WData.list (ns.map WData.int)]/\h.get? a=some {cls:=.type "list",data:=.seq vs.toArray}/\IntsAre vs ns/\ns.length<=n:=by
 have hsh:WShape.hasAll [] args [.list .int]=true:=(pre_splitW hpre).1;have hc:l.pre.holds [] {args:=args}=true:=(pre_splitW hpre).2;obtain⟨d,r,rfl,h1,h2⟩:=hasAllW_cons hsh;obtain rfl:=hasAllW_nil h2;obtain⟨xs,rfl,h3⟩:=hasW_list h1;obtain⟨ns,rfl⟩:=items_int h3
 have hlen:ns.length<=n:=by
  unfold OpenLaw.pre at hc
  have h4:(WTm.not (.lt (.lit (.int (n:Int))) (.len (.arg 0)))).holds [] {args:=[.list (ns.map .int)]}=true:=by
   have h4:=(holds_andW hc).1;rw[hn]at h4;exact h4
  have h5:=condW_of h4 (w_not (w_lt w_lit (w_len_list (w_arg rfl))));rw[Hm]at h5;refine Nat.le_of_not_lt fun q=>?_;have q':(n:Int)<((ns.length:Nat):Int):=by omega
  first
   |(rw[HQ q']at h5;exact absurd h5 (by decide))
   |(simp at h5;omega)
 cases hwl with
 |cons w1 w2=>
  cases w2;cases w1 with
  |list ho hall=>exact⟨_,_,ns,rfl,rfl,ho,lg ns _ hall,hlen⟩
theorem uF(l:OpenLaw)(args:List WData):l.row.toRowW.claim.post args (.bool true) args=true:=
 postW_of (r:=l.row.toRowW) (X:=(true == true))
  (show WShape.has [] (.bool true) .bool=true by first|rfl|decide|simp[WShape.has,WShape.arms,WShape.armsAll])
  (show (WTm.eq .res (.lit (.bool true))).value [] {args:=args,res:=some (.bool true),after:=args}=some (.bool (true == true)) from w_eq_bool (w_res rfl) w_lit) rfl
theorem attach_call{l:OpenLaw}{n:Nat}{q:Program}{loose:List Str}{XP:(Str->Option Value)->Heap->Prop}{YP:World->Heap->Prop}{d:DefRec}
  (hn:l.most=some n) (hdf:d.params.defaults=[])
  (call : ∀ (w : World) (s₀ s₁ : Shared) (mg mb : Str -> Option Value) (fa : Addr) (o : Obj) (pm cd doc : Value) (a : Addr) (vs : List Value) (ns : List Int),
   Ground q loose [] XP w s₀ mg mb s₁.heap->YP w s₁.heap ->
   s₁.heap.get? fa=some o->o.data=.func (docDef d.name d.params d.body d.scope pm cd doc)->s₁.heap.CodeRec cd d.name->mg d.name=some (.ref fa) ->
   s₁.heap.get? a=some {cls:=.type "list",data:=.seq vs.toArray}->IntsAre vs ns->ns.length<=n->s₁.gens=#[] ->
   codeAny (model l.prog w) callerA (.call (.ref fa) ⟨[.ref a],[]⟩) (fun r s'=>r=.ok (.ret (.bool true))/\OldK s₁.heap s'.heap/\s'.os=s₁.os/\AllBare s'.gens) s₁) :
  WalkO q loose XP YP l.row.toRowW d [] (fun f vs=>PySem.call f vs):=by
 intro w s₀ s₁ mg mb G Y fa o pm cd doc dV kV ho hd hcd hD hmg hg args vals as hpre hlay hrd hwl hlo;obtain rfl:dV=.none:=Dflts.none hD hdf;obtain rfl:kV=.none:=Dflts.noKw hD;obtain⟨a,vs,ns,rfl,rfl,hobj,hints,hlen⟩:=uC hn hpre hwl;refine enter_call (G9 (call w s₀ s₁ mg mb fa o pm cd doc a vs ns G Y ho (fd_plain hd) hcd hmg hobj hints hlen hg) fun r s' hq=>?_);obtain⟨rfl,h2,h3,h4⟩:=hq;exact⟨.inl ⟨.bool true,.bool true,[],rfl,fun _=>rfl,.bool true,uF l _,fun _=>⟨List.Pairwise.nil,fun _ hm=>(nomatch hm)⟩⟩,h2,h3,h4⟩
section
variable{prog:Program}{w:World}{A:Around}{E:Value->Shared->Prop}{s:Shared}{K:Frag}
end
end Att
namespace L2
open PySem PySem.Spec PyProof.Rows
theorem ng:∀{vs:List Value}{ns:List Int},IntsAre vs ns->aX (ns.map V.int) vs
 |_,_,.nil=>.nil
 |_,_,.cons n t h=>.cons ⟨t,rfl⟩ (ng h)
def yB(H:Hp):Prop:=∀b,H b=none\/∃o xs,H b=some (.frz o (.lst xs))
theorem xW{P:Program}{w:World}{K:W.Frag}{mg mb:Str->Option Value}{CX:tZ}{k:Nat}{fa a:Addr}{fd:FuncData}{x:Str}{sp:Sp}{s₁:Shared}{vs:List Value}{ns:List Int}
  (KX:K.In s₁.heap) (hns:s₁.heap.Ns mainGlobals mg) (hb:s₁.heap.Ns builtinsNs mb) (hbb:∀x:Str,x ≠ "__name__" -> mb x=bootBuiltins x) (hlim:s₁.heap.NoLimit) (hg:s₁.gens=#[])
  (ha:s₁.heap.get? a=some {cls:=.type "list",data:=.seq vs.toArray}) (hi:IntsAre vs ns) (hl:ns.length<=sizeLine) (hr:fS k callerA)
  (F:∀base:Heap,K.In base->base.Ns mainGlobals mg->mQ P w K mg base CX k fa fd [x] sp) (hbind:∀(s:Shared)(u:Value),BindsTo s fd ⟨[u],[]⟩ [(x,u)])
  (hsp:∀H:Hp,yB H->dW K H a (ns.map V.int)->sp [.ref a] H (fun v _=>v=.bl true) fun _ _ _=>False)
  (hCX:∀H e s',CX [] H s₁ (fun _ _ _=>False) e s'->False) :
  codeAny (model P w) callerA (.call (.ref fa) ⟨[.ref a],[]⟩) (fun r s'=>r=.ok (.ret (.bool true))/\OldK s₁.heap s'.heap/\s'.os=s₁.os/\AllBare s'.gens) s₁:=by
 have rv:=ng hi;have lenV:=hi.length
 have core:∀H:Hp,yB H->dW K H a (ns.map V.int)->lB P w H s₁.heap->(∀b,H b≠none->b=a)->(H a≠none->K.lookup a=none) ->
   codeAny (model P w) callerA (.call (.ref fa) ⟨[.ref a],[]⟩) (fun r s'=>r=.ok (.ret (.bool true))/\OldK s₁.heap s'.heap/\s'.os=s₁.os/\AllBare s'.gens) s₁:=by
  intro H hO hS hok hA hK;have base_of:∀{b:Addr}{o:Obj},s₁.heap.get? b=some o->H b=none->(nX s₁.heap H).get? b=some o:=fun e n=>x8 e n
  have noA:∀{b:Addr}{o:Obj}{es:Array DictEntry}{ep:Nat},s₁.heap.get? b=some o->o.data=.dict es ep->H b=none:=fun {b o es ep} e d=>by
   cases q:H b with
   |none=>rfl
   |some u=>
    have e':b=a:=hA b (by rw[q];simp);subst e';rw[ha]at e;cases e;have d':Data.seq vs.toArray _=Data.dict es ep:=d;cases d'
  have nsK:∀{b:Addr}{m:Str->Option Value},s₁.heap.Ns b m->(nX s₁.heap H).Ns b m:=fun {b m} ⟨o,es,ep,e,d,r⟩=>⟨o,es,ep,base_of e (noA e d),d,r⟩
  have hKb:K.In (nX s₁.heap H):=fun b o e=>base_of (KX b o e) (by
   cases q:H b with
   |none=>rfl
   |some u=>
    have e':b=a:=hA b (by rw[q];simp);subst e'
    rw[hK (by rw[q];simp)]at e;cases e)
  have hM:Mod K mg (nX s₁.heap H):=⟨hKb,nsK hns,⟨mb,nsK hb,hbb⟩,let ⟨mc,h1,h2⟩:=hlim;⟨mc,nsK h1,h2⟩⟩;have e0:vO P w K mg (nX s₁.heap H) callerA [] s₁ H:=⟨rfl,hM,fun b o e=>zR e,Nat.le_of_eq (uY _ _),trivial,fun b hb=>absurd (show b∈([]:List Addr) from hb) (by simp),hok,.of_eq hg⟩;refine G9 ((F _ hKb (nsK hns)).run callerA [] s₁ H ⟨[.ref a],[]⟩ [.ref a] [.ref a] _ _ hr e0 (hbind s₁ (.ref a)) (.cons rfl .nil) (hsp H hO hS)) fun r s' h=>?_;cases r with
  |error e=>exact(hCX H e s' h).elim
  |ok fl=>
   cases fl with
   |next=>exact False.elim h
   |brk=>exact False.elim h
   |cont=>exact False.elim h
   |ret u=>
    obtain⟨v,H',os,bare,un,hok',r',q⟩:=h;have q':v=.bl true:=q;subst q';obtain rfl:u=Value.bool true:=r';refine⟨rfl,OldK.of_keep fun b o e=>?_,os,bare⟩;cases q:H b with
    |none=>exact un.keep b o e q (by intro z;exact absurd (show b∈([]:List Addr) from z) (by simp)) (by simp)
    |some u=>
     rcases hO b with z|⟨ob,xs,z⟩
     ·rw[q]at z;cases z
     ·have z2:=un.frzs b ob _ z;obtain⟨e1,_⟩:=hok b _ z;obtain⟨e2,_⟩:=hok' b _ z2;rw[e]at e1;cases e1;exact e2
 cases hk:K.lookup a with
 |some o=>
  have e:=KX a o hk;rw[ha]at e;cases e;refine core (fun _=>none) (fun _=>.inl rfl) (.inr ⟨_,vs.toArray,_,hk,rfl,rfl,rfl,by rw[G7,lenV];exact hl,by simpa using rv⟩) (fun b u z=>by have z':(none:Option HO)=some u:=z;cases z') (fun b z=>absurd rfl z) fun z=>absurd rfl z
 |none=>
  refine core (fun b=>if b=a then some (.frz {cls:=.type "list",data:=.seq vs.toArray} (.lst (ns.map V.int))) else none) (fun b=>?_) (.inl (.inr ⟨{cls:=.type "list",data:=.seq vs.toArray},Gq rfl⟩)) (fun b u z=>?_) (fun b z=>?_) fun _=>hk
  ·by_cases hb : b = a
   ·exact .inr ⟨_,_,Gq hb⟩
   ·exact .inl (Gr hb)
  ·by_cases hb : b = a
   ·have z':=(Gq hb).symm.trans z;cases z';subst hb;exact⟨ha,by rw[Hm];exact hl,vs,_,rv,ha⟩
   ·have z':=(Gr hb).symm.trans z;cases z'
  ·by_cases hb : b = a
   ·exact hb
   ·exact absurd (Gr hb) z
end L2
namespace L2
open PySem PySem.Spec PyProof.Rows
theorem walk_of{l:W.OpenLaw}{n k:Nat}{q:Program}{loose:List Str}{XP:(Str->Option Value)->Heap->Prop}{YP:World->Heap->Prop}{d:DefRec}{K:Params->W.Frag}{CX:World->tZ}{sp:World->Sp}{x:Str}
  (hn:l.most=some n) (hn2:n<=sizeLine) (hdf:d.params.defaults=[]) (hr:fS k callerA)
  (hY:∀(w:World)(h:Heap),YP w h->(K w.params).In h)
  (F : ∀ (w : World) (mg : Str -> Option Value) (fa : Addr) (h : Heap), (K w.params).In h -> h.Ns mainGlobals mg -> mg d.name = some (.ref fa) ->
   ∃fd:FuncData,(∀(s:Shared)(u:Value),BindsTo s fd ⟨[u],[]⟩ [(x,u)]) /\
    ∀base:Heap,(K w.params).In base->base.Ns mainGlobals mg->mQ l.prog w (K w.params) mg base (CX w) k fa fd [x] (sp w))
  (hsp:∀(w:World)(H:Hp)(a:Addr)(ns:List Int),ns.length<=n->yB H->dW (K w.params) H a (ns.map V.int)->sp w [.ref a] H (fun v _=>v=.bl true) fun _ _ _=>False)
  (hCX:∀(w:World)(H:Hp)(s:Shared)(e:Value)(s':Shared),CX w [] H s (fun _ _ _=>False) e s'->False) :
  W.WalkO q loose XP YP l.row.toRowW d [] (fun f vs=>PySem.call f vs):=by
 refine Att.attach_call hn hdf fun w s₀ s₁ mg mb fa o pm cd doc a vs ns G Y ho hd hcd hmg hobj hints hlen hg=>?_;have KX:=hY w _ Y;obtain⟨fd,hb,hF⟩:=F w mg fa _ KX G.T.g hmg;exact xW KX G.T.g G.T.b G.T.builtins G.T.nolimit hg hobj hints (Gz hlen hn2) hr hF hb (fun H hO hS=>hsp w H a ns hlen hO hS) fun H e s'=>hCX w H s₁ e s'
end L2
namespace L2
open PySem PySem.Spec PyProof.Rows
abbrev vC:tZ:=fun _ _ _ _ _ _=>False
abbrev E0:XK:=fun _ _ _=>False
theorem Es{X:Cx}:rE vC X E0:=fun _ _ _ _ _ _ _ h=>h.elim
structure gh(K:W.Frag)(x qual:Str)(st:Stmt)(f:Addr)(fd:FuncData):Prop where
 ex:∃(oc:Value)(od:Option Addr)(kV doc pm:Value)(an:Option Addr)(cdv ct:Value)(osl:Array (Option Value)),
  fd=W.fnOf x qual (c5 st) (bP st) (ar st) .none kV doc pm an cdv ct/\K.lookup f=some ⟨oc,od,.func fd,osl⟩/\W.codeIn K cdv qual=true
 kp:W.keepIn K (.ref f)=true
section
variable{P:Program}{w:World}{K:W.Frag}{mg:Str->Option Value}{base:Heap}
theorem gh.ok{x qual:Str}{st:Stmt}{f:Addr}{fd:FuncData}{N ps:List Str}{k:Nat}{sp:Sp}(F:gh K x qual st f fd)(S:aS N ps (ar st))(len:∀vs H Q E,sp vs H Q E->vs.length=ps.length)
  (hbody : ∀ (cdv : Value) (A : Around) (outer : List Env) (s : Shared) (H : Hp) (vs : List V) (Q : VK) (E : XK), fS k (A.deeper (envOfC qual (ar st) s.heap.objs.size f cdv)) -> sp vs H Q E ->
   ∃t,i6 (nY vC P w K mg base N qual (ar st) f cdv A outer s H E).nox (bP st) t/\t {nx:=fun _ H'=>Q .non H',rt:=Q} (start N vs) H):mQ P w K mg base vC (k+1) f fd ps sp:=by
 obtain⟨oc,od,kV,doc,pm,an,cdv,ct,osl,rfl,lk,hcd⟩:=F.ex;refine EI lk hcd S len fun A outer s H vs Q E hr hsp=>?_;obtain⟨t,h,q⟩:=hbody cdv A outer s H vs Q E hr hsp;exact⟨t,h.nox,q⟩
theorem gh.binds{x qual:Str}{st:Stmt}{f:Addr}{fd:FuncData}{ps:List Str}(F:gh K x qual st f fd)
  (h:∀(kV doc pm:Value)(an:Option Addr)(cdv ct:Value)(us:List Value),us.length=ps.length->bindArgs (W.fnOf x qual (c5 st) (bP st) (ar st) .none kV doc pm an cdv ct) ⟨us,[]⟩=pure (ps.zip us)):g7 K fd ps []:=by
 obtain⟨oc,od,kV,doc,pm,an,cdv,ct,osl,rfl,lk,hcd⟩:=F.ex;exact .all (h kV doc pm an cdv ct)
theorem Dd{x qual:Str}{st:Stmt}{f:Addr}{oc:Value}{od an:Option Addr}{osl:Array (Option Value)}{kV doc pm cdv ct:Value}(l:K.lookup f=some ⟨oc,od,.func (W.fnOf x qual (c5 st) (bP st) (ar st) .none kV doc pm an cdv ct),osl⟩)
  (c:W.codeIn K cdv qual=true) (k:W.keepIn K (.ref f)=true):gh K x qual st f (W.fnOf x qual (c5 st) (bP st) (ar st) .none kV doc pm an cdv ct):=⟨⟨oc,od,kV,doc,pm,an,cdv,ct,osl,rfl,l,c⟩,k⟩
end
section
variable{X:Cx}
end
theorem FI{A B:Prop}(h:B):if false=true then A else B:=by
 rw[Gr G6];exact h
theorem FH{A B:Prop}(h:A):if true=true then A else B:=by
 rw[Gq rfl];exact h
end L2
namespace L2
open PySem PySem.Spec PyProof.Rows
theorem dE{x:Str}:∀{names:List (Str×NameKind)}{k:NameKind},names.lookup x=some k->(x,k)∈names
 |[],_,h=>by simp at h
 |(n,j)::r,k,h=>by
  rw[HR]at h;cases hx:x == n with
  |true=>
   rw[hx]at h;have e:x=n:=eq_of_beq hx;cases h;rw[e];exact GC
  |false=>rw[hx]at h;exact GD _ (dE h)
theorem fO{env:Env}{x:Str}:∀{names:List (Str×NameKind)},
  (names.map fun (n, k) => if (k == NameKind.free && env.scope.kind == .function && env.kindOf n == some .cell) then (n, NameKind.cell) else (n, k)).lookup x =
   (names.lookup x).map fun k=>if (k == NameKind.free&&env.scope.kind == .function&&env.kindOf x == some .cell) then NameKind.cell else k
 |[]=>rfl
 |(n,k)::r=>by
  have ih:=fO (env:=env) (x:=x) (names:=r);rw[HF];show List.lookup x ((if (k == NameKind.free&&env.scope.kind == .function&&env.kindOf n == some .cell)=true then (n,NameKind.cell) else (n,k))::_)=_;cases hx:x == n with
  |true=>
   have e:x=n:=eq_of_beq hx;subst e;by_cases hc:(k == NameKind.free&&env.scope.kind == .function&&env.kindOf x == some .cell)=true
   ·rw[Gq hc,HR,hx,HR,hx];show some NameKind.cell=some (if _ then _ else _);rw[Gq hc]
   ·rw[Gr hc,HR,hx,HR,hx];show some k=some (if _ then _ else _);rw[Gr hc]
  |false=>
   by_cases hc:(k == NameKind.free&&env.scope.kind == .function&&env.kindOf n == some .cell)=true
   ·rw[Gq hc,HR,hx,HR,hx];exact ih
   ·rw[Gr hc,HR,hx,HR,hx];exact ih
theorem jm{env:Env}{f:Str×NameKind->List (Str×Addr)->Sem (ForInStep (List (Str×Addr)))}
  (h1:∀n c acc,env.cells.lookup n=some c->f (n,.free) acc=pure (.yield ((n,c)::acc))) (h2:∀n k acc,k≠.free->f (n,k) acc=pure (.yield acc)) :
  ∀(names:List (Str×NameKind))(acc:List (Str×Addr)),(∀y∈names,y.2=.free->∃c,env.cells.lookup y.1=some c)->(∀x c,acc.lookup x=some c->env.cells.lookup x=some c) ->
   ∃cl,forIn names acc f=(pure cl:Sem (List (Str×Addr)))/\(∀x c,cl.lookup x=some c->env.cells.lookup x=some c)/\(∀x,(acc.lookup x).isSome=true->(cl.lookup x).isSome=true)/\(∀y∈names,y.2=.free->(cl.lookup y.1).isSome=true)
 |[],acc,_,ha=>⟨acc,rfl,ha,fun _ h=>h,fun y hy=>by simp at hy⟩
 |(n,k)::r,acc,hn,ha=>by
  by_cases hk:k=.free
  ·subst hk;obtain⟨c,hc⟩:=hn (n,.free) GC rfl
   obtain⟨cl,e1,e2,e3,e4⟩:=jm h1 h2 r ((n,c)::acc) (fun y hy=>hn y (GD _ hy)) (fun x d h=>by
    rw[HR]at h;cases hx:x == n with
    |true=>rw[hx]at h;cases h;rw[eq_of_beq hx];exact hc
    |false=>rw[hx]at h;exact ha x d h)
   refine⟨cl,?_,e2,fun x h=>e3 x ?_,fun y hy hf=>?_⟩
   ·rw[List.forIn_cons,h1 n c acc hc];exact e1
   ·rw[HR];cases hx:x == n <;> simp[h]
   ·rcases GE.mp hy with z | z
    ·subst z;exact e3 n (by simp[HR])
    ·exact e4 y z hf
  ·obtain ⟨cl, e1, e2, e3, e4⟩ := jm h1 h2 r acc (fun y hy => hn y (GD _ hy)) ha;refine⟨cl,?_,e2,e3,fun y hy hf=>?_⟩
   ·rw[List.forIn_cons,h2 n k acc hk];exact e1
   ·rcases GE.mp hy with z | z
    ·subst z;exact absurd hf hk
    ·exact e4 y z hf
theorem qJ{env:Env}{n:Str}{c:Addr}(h:env.cells.lookup n=some c):cellOf env n=pure c:=by
 unfold cellOf;rw[h]
def sH(env:Env)(x:Str×NameKind)(r:List (Str×Addr)):Sem (ForInStep (List (Str×Addr))):=
 match x with|(name,kind)=>if kind == .free then do let c <- cellOf env name;pure (.yield ((name,c)::r)) else pure (.yield r)
theorem sg{scope:Scope}{env:Env}(hn:∀y∈scope.names,y.2=.free->∃c,env.cells.lookup y.1=some c) :
  ∃cl,closureFor scope env=pure cl/\(∀x c,cl.lookup x=some c->env.cells.lookup x=some c)/\(∀y∈scope.names,y.2=.free->(cl.lookup y.1).isSome=true):=by
 obtain⟨cl,e1,e2,_,e4⟩:=jm (env:=env) (f:=sH env)
  (fun n c acc h=>by unfold sH;simp only[HS,Hv];rw[qJ h];rfl)
  (fun n k acc h => by
   unfold sH;have:(k == NameKind.free)=false:=by simpa using h
   simp only[this,HU,Hu]) scope.names [] hn (fun x c h=>by simp at h)
 refine⟨cl,?_,e2,e4⟩;show (forIn scope.names [] (sH env) >>= fun s=>pure s)=pure cl;rw[e1];rfl
def hZ(X:Cx)(Nc:List Str)(scope:Scope)(cl:List (Str×Addr))(C:Addr)(s:Shared)(H:Hp)(fp:List Addr):Cx where
 prog:=X.prog
 w:=X.w
 K:=X.K
 mg:=X.mg
 base:=X.base
 A:=X.A
 N:=Nc
 s₀:=s
 H₀:=H
 env:=compEnvC scope (cellsFrom (C+1) scope.names cl) C X.env
 outer:=X.stack
 stack:=X.stack
 ex:=fp
 fn:=fun x=>scope.names.lookup x == some .cell
 calm:=X.calm
 pn:=[]
 xe:=fun _ _=>False
def lR(cap:List (Option Nat))(σ:St):St:=cap.map fun o=>o.bind fun j=>(σ[j]?).join
def eG(N:List Str)(env:Env)(scope:Scope):List Str->List (Option Nat)->Bool
 |[],[]=>true
 |_::Nc,none::cap=>eG N env scope Nc cap
 |x::Nc,some j::cap=>(N[j]? == some x)&&(scope.names.lookup x == some .free)&&eG N env scope Nc cap
 |_,_=>false
theorem kr{N:List Str}{env:Env}{scope:Scope}:∀{Nc:List Str}{cap:List (Option Nat)},eG N env scope Nc cap=true->cap.length=Nc.length
 |[],[],_=>rfl
 |[],_::_,h=>by simp[eG]at h
 |_::_,[],h=>by simp[eG]at h
 |_::Nc,none::cap,h=>by rw[HV,HV,kr (Nc:=Nc) (cap:=cap) h]
 |x::Nc,some j::cap,h=>by
  have h':eG N env scope Nc cap=true:=by unfold eG at h;simp only[HC]at h;exact h.2
  rw[HV,HV,kr h']
theorem ma{N:List Str}{env:Env}{scope:Scope}:∀{Nc:List Str}{cap:List (Option Nat)}{i j:Nat}{x:Str},eG N env scope Nc cap=true->cap[i]?=some (some j)->Nc[i]?=some x->N[j]?=some x/\scope.names.lookup x=some .free
 |[],_,_,_,_,_,_,e=>by simp at e
 |_::_,[],_,_,_,h,_,_=>by simp[eG]at h
 |y::Nc,none::cap,0,j,x,h,e,_=>by simp at e
 |y::Nc,some k::cap,0,j,x,h,e,e2=>by
  simp at e e2;subst e;subst e2;unfold eG at h;simp only[HC]at h;exact⟨eq_of_beq h.1.1,eq_of_beq h.1.2⟩
 |y::Nc,none::cap,i+1,j,x,h,e,e2=>ma (Nc:=Nc) (cap:=cap) (i:=i) h (by simpa using e) (by simpa using e2)
 |y::Nc,some k::cap,i+1,j,x,h,e,e2=>by
  have h':eG N env scope Nc cap=true:=by unfold eG at h;simp only[HC]at h;exact h.2
  exact ma (Nc:=Nc) (cap:=cap) (i:=i) h' (by simpa using e) (by simpa using e2)
structure bB(N:List Str)(env:Env)(scope:Scope)(Nc:List Str)(cap:List (Option Nat)):Prop where
 kind:scope.kind=.function
 nd:∀y∈scope.names,scope.names.lookup y.1=some y.2
 free:∀y∈scope.names,y.2=.free->env.kindOf y.1=some .cell\/env.kindOf y.1=some .free
 cap:eG N env scope Nc cap=true
theorem iW{n0:Nat}{x:Str}{c:Addr}:∀{names:List (Str×NameKind)}{cl:List (Str×Addr)}{n:Nat},n0<=n->((x,NameKind.cell)∈names\/∃c',cl.lookup x=some c'/\n0<=c')->(cellsFrom n names cl).lookup x=some c->n0<=c
 |[],cl,n,_,h,e=>by
  rcases h with z|⟨c',z1,z2⟩
  ·simp at z
  ·have e':cl.lookup x=some c:=e;rw[z1]at e';cases e';exact z2
 |(y,k)::r,cl,n,hn,h,e=>by
  unfold cellsFrom at e;split at e
  ·rename_i hk;refine iW (n:=n+1) (by omega) ?_ e;cases hx:x == y with
   |true=>exact .inr ⟨n,by rw[HR,hx],hn⟩
   |false=>
    rcases h with z|⟨c',z1,z2⟩
    ·rcases GE.mp z with q | q
     ·have:x=y:=GP Prod.fst q;rw[this]at hx;simp at hx
     ·exact .inl q
    ·exact .inr ⟨c',by rw[HR,hx];exact z1,z2⟩
  ·rename_i hk;refine iW hn ?_ e;rcases h with z|z
   ·rcases GE.mp z with q | q
    ·have:k=.cell:=(GP Prod.snd q).symm;exact absurd (by rw[this];rfl) hk
    ·exact .inl q
   ·exact .inr z
theorem gD{x:Str}:∀{names:List (Str×NameKind)}{cl:List (Str×Addr)}{n:Nat},(x,NameKind.cell)∉names->(cellsFrom n names cl).lookup x=cl.lookup x
 |[],cl,n,_=>rfl
 |(y,k)::r,cl,n,hn=>by
  unfold cellsFrom;have hr:(x,NameKind.cell)∉r:=fun z=>hn (GD _ z);split
  ·rename_i hk;rw[gD hr,HR];cases hx:x == y with
   |true=>exact absurd (by rw[eq_of_beq hx,(eq_of_beq hk:k=.cell)];exact GC) hn
   |false=>rfl
  ·exact gD hr
theorem kq{n0:Nat}:∀{names:List (Str×NameKind)}{cl:List (Str×Addr)}{n:Nat},n0<=n->(∀x y c,cl.lookup x=some c->cl.lookup y=some c->n0<=c->x=y)->(∀x c,cl.lookup x=some c->c<n) ->
  ∀x y c,(cellsFrom n names cl).lookup x=some c->(cellsFrom n names cl).lookup y=some c->n0<=c->x=y
 |[],cl,n,_,h,_=>h
 |(z,k)::r,cl,n,hn,h,hb=>by
  unfold cellsFrom;split
  ·refine kq (n := n + 1) (by omega) (fun x y c e1 e2 hc => ?_) (fun x c e => ?_)
   ·rw [HR] at e1 e2;cases hx:x == z with
    |true=>
     cases hy:y == z with
     |true=>rw[eq_of_beq hx,eq_of_beq hy]
     |false=>
      rw[hx]at e1;rw[hy]at e2;cases e1;exact absurd (hb y _ e2) (Gv _)
    |false=>
     cases hy:y == z with
     |true=>
      rw[hx]at e1;rw[hy]at e2;cases e2;exact absurd (hb x _ e1) (Gv _)
     |false=>rw[hx]at e1;rw[hy]at e2;exact h x y c e1 e2 hc
   ·rw [HR] at e;cases hx:x == z with
    |true=>rw[hx]at e;cases e;exact HW _
    |false=>rw[hx]at e;exact HX (hb x c e)
  ·exact kq hn h hb
theorem iz{x:Str}{c:Addr}:∀{names:List (Str×NameKind)}{cl:List (Str×Addr)}{h:Heap},(cellsFrom h.objs.size names cl).lookup x=some c->cl.lookup x=some c\/(pushCells h names).IsCell c none
 |[],cl,h,e=>.inl e
 |(y,k)::r,cl,h,e=>by
  unfold cellsFrom at e;unfold pushCells;split at e
  ·rename_i hk;rw[Gq hk];have e':(cellsFrom (h.push {cls:=.type "cell",data:=.cell none}).objs.size r ((y,h.objs.size)::cl)).lookup x=some c:=by rw[HY];exact e
   rcases iz e' with q|q
   ·rw [HR] at q;cases hx:x == y with
    |true=>
     rw[hx]at q;cases q;exact .inr ⟨_,HZ _ _ _ _ (GZ _ rfl),rfl⟩
    |false=>rw[hx]at q;exact .inl q
   ·exact .inr q
  ·rename_i hk;rw[Gr hk];exact iz e
theorem uW{X:Cx}{pins:List (Addr×Obj)}{σ:St}{H:Hp}{s:Shared}{h':Heap}{t':Nat}{fp:List Addr}{Nc:List Str}{scope:Scope}{cl:List (Str×Addr)}{cap:List (Option Nat)}
  (I:aN X pins σ H s) (hf:∀b∈fp,jD X pins H b) (hfs:∀b∈fp,b<s.heap.objs.size) (S:bB X.N X.env scope Nc cap)
  (hcl:∀x c,cl.lookup x=some c->X.env.cells.lookup x=some c) (hall:∀y∈scope.names,y.2=.free->(cl.lookup y.1).isSome=true)
  (hn:h'.Ns s.heap.objs.size (fun _=>none)) (hk:∀b o,s.heap.get? b=some o->h'.get? b=some o) (hce:∀x c,(cellsFrom (s.heap.objs.size+1) scope.names cl).lookup x=some c->cl.lookup x=some c\/h'.IsCell c none) :
  aN (hZ X Nc scope cl s.heap.objs.size s H fp) [] (lR cap σ) H {s with heap:=h',toks:=t'}:=by
 have hrl:∀x,(hZ X Nc scope cl s.heap.objs.size s H fp).env.kindOf x=(scope.names.lookup x).map fun k=>if (k == NameKind.free&&X.env.scope.kind == .function&&X.env.kindOf x == some .cell) then NameKind.cell else k:=fun x=>fO
 have hcf:∀x,((hZ X Nc scope cl s.heap.objs.size s H fp).env.kindOf x=some .cell\/(hZ X Nc scope cl s.heap.objs.size s H fp).env.kindOf x=some .free)->scope.names.lookup x=some .free\/scope.names.lookup x=some .cell:=fun x hx=>by
  rw[hrl]at hx;cases e:scope.names.lookup x with
  |none=>rw[e]at hx;rcases hx with z|z <;> cases z
  |some k=>
   rw[e]at hx;by_cases hkf:k=.free
   ·rw[hkf];exact .inl rfl
   ·have : (k == NameKind.free) = false := by simpa using hkf
    simp only[this,Bool.false_and,Option.map_some]at hx;rcases hx with z|z
    ·have z' : k = .cell := by simpa using z
     rw[z'];exact .inr rfl
    ·have z' : k = .free := by simpa using z
     exact absurd z' hkf
 have hclx:∀x,scope.names.lookup x=some .free->∃c,cl.lookup x=some c:=fun x e=>He.mp (hall (x,.free) (dE e) rfl)
 have hcb:∀x c,cl.lookup x=some c->c<s.heap.objs.size:=fun x c e=>by
  obtain⟨v,q⟩:=I.cell x c (hcl x c e);exact q.lt
 have hcell:∀x c,(cellsFrom (s.heap.objs.size+1) scope.names cl).lookup x=some c->(cl.lookup x=some c/\c<s.heap.objs.size)\/(s.heap.objs.size+1<=c/\h'.IsCell c none):=fun x c e=>by
  by_cases hm:(x,NameKind.cell)∈scope.names
  ·have h1 := iW (G0 _) (.inl hm) e;rcases hce x c e with z|z
   ·have:=hcb x c z;exact absurd (Gu (HX this) h1) (Gv _)
   ·exact .inr ⟨h1,z⟩
  ·rw[gD hm]at e;exact .inl ⟨e,hcb x c e⟩
 have hinj:∀x y c,(cellsFrom (s.heap.objs.size+1) scope.names cl).lookup x=some c->(cellsFrom (s.heap.objs.size+1) scope.names cl).lookup y=some c->x=y:=fun x y c e1 e2=>by
  rcases hcell x c e1 with⟨a1,a2⟩|⟨a1,a2⟩
  ·rcases hcell y c e2 with ⟨b1, b2⟩ | ⟨b1, b2⟩
   ·exact I.ok.inj x y c (hcl x c a1) (hcl y c b1)
   ·exact absurd (Gu (HX a2) b1) (Gv _)
  ·exact kq (G0 _) (fun x y c q _ hc=>absurd (Gu (HX (hcb x c q)) hc) (Gv _)) (fun x c q=>HX (hcb x c q)) x y c e1 e2 a1
 refine⟨⟨I.ok.mod,S.kind,I.ok.glob,I.ok.blt,G0 _,fun x y c e1 e2=>hinj x y c e1 e2,fun x hx=>?_,fun x c e e2=>?_,I.ok.hd,I.ok.frames,.inl rfl,
  fun b hb=>⟨Gw (hfs b hb),fun x c e=>?_⟩,I.bs,Gz I.ok.bsz I.sz,fun b o e hb=>?_,fun b hb z=>?_,I.stack,I.stkFree⟩,
  rfl,I.bare,Un.kept hk,⟨_,hn,fun i x v e1 e2 e3=>?_⟩,fun x c e=>?_,I.hok.fresh (G0 _),fun x c e=>?_,fun p hp=>absurd (show p∈([]:List (Addr×Obj)) from hp) (by simp),I.hok.kept hk,?_⟩
 ·rcases hcf x hx with q | q
  ·by_cases hm : (x, NameKind.cell) ∈ scope.names
   ·rcases He.mp (W.cellsFrom_some scope.names (s.heap.objs.size + 1) cl (.inl (S.nd (x, .cell) hm))) with ⟨c, e⟩
    exact⟨c,e⟩
   ·obtain⟨c,e⟩:=hclx x q;exact⟨c,(gD hm).trans e⟩
  ·obtain⟨c,e⟩:=He.mp (W.cellsFrom_some scope.names (s.heap.objs.size+1) cl (.inl q));exact⟨c,e⟩
 ·have hm:(x,NameKind.cell)∈scope.names:=dE (eq_of_beq (show (scope.names.lookup x == some .cell)=true from e));exact Nat.le_of_succ_le (iW (G0 _) (.inl hm) e2)
 ·rcases hcell x c e with ⟨a1, a2⟩ | ⟨a1, a2⟩
  ·exact(hf b hb).2.2.2.2.1 x c (hcl x c a1)
  ·exact fun z=>absurd (Gu (HX (hfs b hb)) (by rw[<- z];exact a1)) (Gv _)
 ·rcases (hf b hb).2.2.2.1 with z | z
  ·exact I.ok.noex b o e z
  ·exact absurd (Gu (Gu (Gs e) I.ok.bsz) z) (Gv _)
 ·rcases GE.mp (I.stkSub b z) with q | q
  ·exact(hf b hb).2.1 q
  ·exact(hf b hb).2.2.1 q
 ·have e2':∃j,cap[i]?=some (some j)/\σ[j]?=some (some v):=by
   unfold lR at e2;rw[Hj]at e2;cases hc:cap[i]? with
   |none=>rw[hc]at e2;cases e2
   |some o=>
    rw[hc]at e2;cases o with
    |none=>cases e2
    |some j=>
     refine⟨j,rfl,?_⟩;simp only[Option.map_some,Option.bind_some]at e2;cases hj:σ[j]? with
     |none=>rw[hj]at e2;cases e2
     |some q=>
      rw[hj]at e2;simp only[Option.join_some]at e2;rw[Gj e2]
  obtain⟨j,hj,hv⟩:=e2';obtain⟨hN,hx⟩:=ma S.cap hj e1;have hkx:=S.free (x,.free) (dE hx) rfl;obtain⟨m,hm,hl⟩:=I.loc;obtain⟨u,r,l⟩:=hl j x v hN hv (hkx.elim (fun z=>.inr (.inl z)) (fun z=>.inr (.inr z)));refine⟨u,r,.inr ⟨?_,?_⟩⟩
  ·rw [hrl, hx];show some (if _ then _ else _)=_\/some (if _ then _ else _)=_;by_cases hc:(NameKind.free == NameKind.free&&X.env.scope.kind == .function&&X.env.kindOf x == some .cell)=true
   ·rw[Gq hc];exact .inl rfl
   ·rw[Gr hc];exact .inr rfl
  ·obtain ⟨c, ec⟩ := hclx x hx
   have hm:(x,NameKind.cell)∉scope.names:=fun z=>by
    have:=S.nd (x,.cell) z;rw[hx]at this;cases this
   refine⟨c,(gD hm).trans ec,?_⟩;rcases l with⟨k,_⟩|⟨k,c',ec',z⟩
   ·rcases hkx with q|q <;> (rw[k]at q;cases q)
   ·have q:=hcl x c ec;rw[ec']at q;cases q;obtain⟨o,ho,hd⟩:=z;exact⟨o,hk _ o ho,hd⟩
 ·rcases hcell x c e with ⟨a1, a2⟩ | ⟨a1, a2⟩
  ·obtain⟨v,o,ho,hd⟩:=I.cell x c (hcl x c a1);exact⟨v,o,hk _ o ho,hd⟩
  ·exact⟨none,a2⟩
 ·rcases hcell x c e with ⟨a1, a2⟩ | ⟨a1, a2⟩
  ·exact I.freeC x c (hcl x c a1)
  ·exact I.hok.fresh (Nat.le_of_succ_le a1)
 ·show (cap.map _).length=Nc.length;rw[Hm,kr S.cap]
abbrev vB:Value->Shared->Prop:=fun _ _=>False
def oh(ifs:List Expr)(env:Env):Sem Bool:=forIn ifs true fun c r=>if r=true then do let ok <- isTrue c env (eval c env);pure (ForInStep.yield ok) else pure (ForInStep.yield r)
def qN(X:Cx)(ifs:List Expr)(t:TT):Prop:=
 ∀(pins:List (Addr×Obj))(s:Shared)(σ:St)(H:Hp)(Q:Bool->Hp->Prop),aN X pins σ H s->t σ H Q->wpAny (model X.prog X.w) X.A (oh ifs X.env) (TP X pins σ Q) X.xe s
def D5:TT:=fun _ H Q=>Q true H
theorem zp{X:Cx}:qN X [] D5:=fun _ _ _ H _ I h=>GV ⟨H,I,h⟩
theorem zo{X:Cx}{c:Expr}{t:TT}(h:PT X c t):qN X [c] t:=fun pins s σ H Q I q=>wpAny_tests_one (h pins s σ H Q I q)
def Di(e:Expr)(acc:Value)(env:Env):Sem Unit:=match e with
 |.ListComp elt _ _ _=>do let _ <- call (.builtin "list.append") [acc,<- eval elt env]
 |.SetComp elt _ _ _=>do let v <- eval elt env;standAt elt.pos;let _ <- call (.builtin "set.add") [acc,v]
 |_=>unsupported "internal:not-a-comprehension"
def lV:Expr->Bool
 |.ListComp ..=>true
 |.SetComp ..=>true
 |_=>false
def kG(M:Model)(A:Around)(e:Expr)(k:Nat)(acc:Value)(env:Env)(C:Shared->Prop)(E:Value->Shared->Prop)(s:Shared):Prop:=match (clausesOf e)[k]? with
 |some g=>wpAny M A (eval g.iter env) (fun x s1=>wpAny M A (foldedSetIterable g.iter env x) (fun x s2=>wpAny M A (pyIter x) (fun it s3=>
   codeAny M A (.compStart e k it acc env) (fun r s4=>(∃f,r=.ok f)/\C s4) s3) E s2) E s1) E s
 |none=>wpAny M A (Di e acc env) (fun _ s1=>C s1) E s
theorem qr{M:Model}{A:Around}{e:Expr}{k:Nat}{acc:Value}{env:Env}{C C':Shared->Prop}{E:Value->Shared->Prop}{s:Shared}(hC:∀s,C s->C' s)(h:kG M A e k acc env C vB s):kG M A e k acc env C' E s:=by
 unfold kG at h⊢;split at h
 ·exact GM h (fun _ _ h=>GM h (fun _ _ h=>GM h (fun _ _ h=>G9 h fun _ _ h=>⟨h.1,hC _ h.2⟩) fun _ _ z=>z.elim) fun _ _ z=>z.elim) fun _ _ z=>z.elim
 ·exact GM h (fun _ _ h=>hC _ h) fun _ _ z=>z.elim
theorem yI{M:Model}{A:Around}{E:Value->Shared->Prop}{s:Shared}{e:Expr}{d:Nat}{g:Comprehension}{it acc:Value}{env:Env}{Q:Fin->Shared->Prop}(he:lV e=true)(hz:∀g∈clausesOf e,g.is_async=0)(hg:(clausesOf e)[d]?=some g)
  (h : wpAny M A (pyNext it) (fun r s₁ => match r with
   |none=>Q (.done .next) s₁
   |some v=>wpAny M A (letOwnedTupleGo g.target it v) (fun _ s₁'=>wpAny M A (assign g.target env v) (fun _ s₂=>wpAny M A (oh g.ifs env) (fun ok s₃=>
     if ok=true then kG M A e (d+1) acc env (fun s₄=>wpAny M A (again (.compLoop e d it acc env)) Q E s₄) E s₃ else wpAny M A (again (.compLoop e d it acc env)) Q E s₃) E s₂) E s₁') E s₁) E s) :
  wpAny M A (compTurn e d it acc env) Q E s:=by
 have h0:=hz g (Hk hg);have h1:∀g',(clausesOf e)[d+1]?=some g'->g'.is_async=0:=fun g' h=>hz g' (Hk h);unfold compTurn
 cases e <;> first
  |exact absurd (show false=true from he) G6
  | (rename_i elt gens sc pos
     have hg':gens[d]?=some g:=hg;have h1':∀g',gens[d+1]?=some g'->g'.is_async=0:=h1;dsimp only;rw[hg'];dsimp only;rw[h0];refine GR (GT ?_);show wpAny M A (pyNext it >>= _) Q E s;refine GR (GM h (fun r s₁ h₁=>?_) fun _ _ z=>z);cases r with
     |none=>exact GV h₁
     |some v=>
      refine GR (GM h₁ (fun _ s₁' h₁'=>?_) fun _ _ z=>z);refine GR (GM h₁' (fun _ s₂ h₂=>?_) fun _ _ z=>z);refine GR (GM h₂ (fun ok s₃ h₃=>?_) fun _ _ z=>z);cases ok with
      |false=>exact h₃
      |true=>
       simp only[Hv]at h₃⊢;unfold kG at h₃;dsimp only[clausesOf]at h₃;cases e2:gens[d+1]? with
       |none=>
        rw[e2]at h₃;exact GR h₃
       |some g'=>
        rw[e2]at h₃;have e3:=h1' g' e2;simp only[e3];refine GR (GM h₃ (fun x s₄ h₄=>?_) fun _ _ z=>z);refine GR (GT ?_);show wpAny M A (foldedSetIterable g'.iter env x >>= _) Q E s₄;refine GR (GM h₄ (fun x s₅ h₅=>?_) fun _ _ z=>z);refine GR (GS ?_);show wpAny M A (pyIter x) _ E s₅;refine GM h₅ (fun it' s₆ h₆=>?_) fun _ _ z=>z;refine GR (wpAny_runOwn (G9 h₆ fun r s₇ h₇=>?_));obtain⟨⟨f,rfl⟩,hc⟩:=h₇
        exact hc)
section
variable{prog:Program}{w:World}{A:Around}{R:Result->Shared->Prop}{s:Shared}
theorem uq{e:Expr}{k:Nat}{g:Comprehension}{it acc:Value}{env:Env}(he:lV e=true)(hz:∀g∈clausesOf e,g.is_async=0)(hg:(clausesOf e)[k]?=some g)
  (h0:codeAny (model prog w) A (.compLoop e k it acc env) R s) (h:wpAny (model prog w) A (pyIter it) (fun it' s'=>codeAny (model prog w) A (.compLoop e k it' acc env) R s') vB s) :
  codeAny (model prog w) A (.compStart e k it acc env) R s:=by
 have ha:=hz g (Hk hg)
 cases e <;> first
  |exact absurd (show false=true from he) G6
  | (refine Ib ?_
     show wpAny _ _ ((compStart _ k it acc env).onRaise (fun x=>do noteFrame x env;standAt theWindowsPlace)) _ _ s;refine wpAny_notedAt ?_;unfold compStart;rw[hg];have e1:((some g).elim false fun x=>x.is_async != 0)=false:=by show (g.is_async != 0)=false;rw[ha];rfl
     rw[e1];simp only[HU,Hu];refine GR (Ic (wpAny_ite ?_));split
     ·exact GV (And.intro rfl h0)
     ·refine GR (Ie ?_);refine GR (GT ?_)
      exact GR (GM h (fun it' s' h'=>GV (And.intro rfl h')) fun _ _ z=>z.elim))
theorem uS{e:Expr}{d:Nat}{g:Comprehension}{it acc:Value}{env:Env}(he:lV e=true)(hz:∀g∈clausesOf e,g.is_async=0)(hg:(clausesOf e)[d]?=some g)(I:Nat->Shared->Prop)
  (turn : ∀ n s, I n s -> wpAny (model prog w) A (pyNext it) (fun r s₁ => match r with
   |none=>R (.ok .next) s₁
   |some v=>wpAny (model prog w) A (letOwnedTupleGo g.target it v) (fun _ s₁'=>wpAny (model prog w) A (assign g.target env v) (fun _ s₂=>
     wpAny (model prog w) A (oh g.ifs env) (fun ok s₃=>
      if ok=true then kG (model prog w) A e (d+1) acc env (fun s₅=>∃m,m<n/\I m s₅) vB s₃
      else ∃m,m<n/\I m s₃) vB s₂) vB s₁') vB s₁) vB s)
  (n:Nat) (h:I n s):codeAny (model prog w) A (.compLoop e d it acc env) R s:=by
 refine codeAny_loop (by cases e <;> first|exact absurd (show false=true from he) G6|rfl) I (fun n s hI=>?_) n h
 cases e <;> first
  |exact absurd (show false=true from he) G6
  | (show wpAny _ A ((compTurn _ d it acc env).onRaise (fun x => do noteFrame x env; theTreesLotGoes x)) _ _ s
     refine wpAny_noted (yI he hz hg (GM (turn n s hI) (fun r s₁ h₁=>?_) fun _ _ z=>z.elim));cases r with
     |none=>exact h₁
     |some v=>
      refine GM h₁ (fun _ s₂ h₂=>GM h₂ (fun _ s₃ h₃=>GM h₃ (fun ok s₄ h₄=>?_) fun _ _ z=>z.elim) fun _ _ z=>z.elim) fun _ _ z=>z.elim;cases ok with
      |false=>exact GV ⟨rfl,h₄⟩
      |true=>
       simp only[Hv]at h₄⊢
       exact qr (fun s₅ h₅=>GV ⟨rfl,h₅⟩) h₄)
end
abbrev A3:=St->Hp->(St->Hp->Prop)->Prop
def DA(X:Cx)(e:Expr)(k:Nat)(acc:Addr)(t:A3):Prop:=
 ∀(pins:List (Addr×Obj))(s:Shared)(σ:St)(H:Hp)(N:St->Hp->Prop),aN X pins σ H s->t σ H N->kG (model X.prog X.w) X.A e k (.ref acc) X.env (fun s'=>∃σ' H',aN X pins σ' H' s'/\N σ' H') vB s
def FZ(J:It)(g:TG)(tt:TT)(tb:A3)(N:St->Hp->Prop)(σ:St)(H:Hp):Prop:=∃W:Nat->Nat->St->Hp->Prop,(∃m,W 0 m σ H)/\∀i m σ1 H,W i m σ1 H ->
 (J.stop i H/\N σ1 H)\/(J.go i H/\∃N':St->Hp->Prop,(∀σ' H',N' σ' H'->∃m',m'<m/\W (i+1) m' σ' H')/\∀x H',J.yld i H x H'->g x σ1 H' fun σ2 H2=>tt σ2 H2 fun b H3=>if b=true then tb σ2 H3 N' else N' σ2 H3)
section
variable{X:Cx}{e:Expr}{d:Nat}{cl:Comprehension}{g:TG}{tt:TT}{tb:A3}{acc:Addr}
theorem qI{J:It}{fp:List Addr}{it:Addr}{tn:Nat->Heap->Prop}{pins:List (Addr×Obj)}{N:St->Hp->Prop}{σ:St}{H:Hp}{s:Shared}(he:lV e=true)(hz:∀g∈clausesOf e,g.is_async=0)(hg:(clausesOf e)[d]?=some cl)(hxe:X.xe=vB)(hc:X.calm=true)
  (T:qX X.prog X.w X.K cl.target J fp it tn) (hgc:PG X cl.target g) (htc:qN X cl.ifs tt) (hb:DA X e (d+1) acc tb) (I:aN X pins σ H s) (st:tn 0 s.heap) (fr:∀b∈fp,jD X pins H b) (h:FZ J g tt tb N σ H) :
  codeAny (model X.prog X.w) X.A (.compLoop e d (.ref it) (.ref acc) X.env) (fun r s'=>r=.ok .next/\∃σ' H',aN X pins σ' H' s'/\N σ' H') s:=by
 obtain⟨W,⟨m0,w0⟩,turn⟩:=h;have stat:∀{H':Hp},(∀b∈fp,H' b=none)->∀b∈fp,jD X pins H' b:=fun hn b hb=>⟨hn b hb,(fr b hb).2⟩;refine uS he hz hg (fun n s'=>∃i σ' H',aN X pins σ' H' s'/\tn i s'.heap/\(∀b∈fp,H' b=none)/\W i n σ' H') ?_ m0 ⟨0,_,_,I,st,fun b hb=>(fr b hb).1,w0⟩
 rintro n s5 ⟨i,σ5,H5,I5,st5,fr5,w5⟩
 rcases turn i n σ5 H5 w5 with⟨stop,qn⟩|⟨go,N',hN,step⟩
 ·refine c0 (T.done X rfl rfl rfl hc i pins s5 σ5 H5 vB I5 (stat fr5) st5 stop) fun r s6 ⟨hr,I6⟩=>?_;subst hr;exact⟨rfl,_,_,I6,qn⟩
 ·refine c0 (T.item X rfl rfl rfl hc i pins s5 σ5 H5 vB I5 (stat fr5) st5 go) fun r s6 ⟨u, hr, h6⟩ => ?_;subst hr;refine c0 h6 fun _ s7 ⟨x,H7,I7,r7,y7,st7,fr7⟩=>?_;have I7':=I7.pinned (stat fr7) (T.obj _ _ st7);have z1:=hgc _ s7 σ5 H7 x u _ I7' r7 (step x H7 y7);rw[hxe]at z1;refine c0 z1 fun _ s8 ⟨σ8,H8,I8,q8⟩=>?_;have z2:=htc _ s8 σ8 H8 _ I8 q8;rw[hxe]at z2;refine c0 z2 fun b s9 ⟨H9,I9,q9⟩=>?_
  have again:∀{σa:St}{Ha:Hp}{sa:Shared},aN X (pins++lU fp s7.heap) σa Ha sa->N' σa Ha->∃m,m<n/\∃i σ' H',aN X pins σ' H' sa/\tn i sa.heap/\(∀b∈fp,H' b=none)/\W i m σ' H':=fun {σa Ha sa} Ia na=>by
   obtain⟨m',hm,wa⟩:=hN σa Ha na;refine⟨m',hm,i+1,σa,Ha,Ia.unpinned,T.keep _ _ _ st7 fun b hb o e=>(Ia.pin (b,o) (G3 _ (G3 _ (gX hb e)))).1,fun b hb=>?_,wa⟩;obtain⟨o,e,d⟩:=T.obj _ _ st7 b hb;exact(Ia.pin (b,o) (G3 _ (G3 _ (gX hb e)))).2.1
  cases b with
  |false=>
   rw[Gr G6]at q9⊢;exact again I9 q9
  |true=>
   rw[Gq rfl]at q9⊢;exact qr (fun s' ⟨σ',H',I',n'⟩=>again I' n') (hb _ s9 σ8 H9 _ I9 q9)
def Aw(te:TE)(acc:Addr):A3:=fun σ H N=>te σ H fun y H4=>∃ys,H4 acc=some (.lst ys)/\ys.length<sizeLine/\N σ (cj H4 acc (.lst (ys++[y])))
theorem pW{te:TE}{elt:Expr}{gens:List Comprehension}{scope:Scope}{pos:Pos}(hg:gens[d]?=none)(hxe:X.xe=vB)(hel:PE X elt te):DA X (.ListComp elt gens scope pos) d acc (Aw te acc):=by
 intro pins s σ H N I h;unfold kG;show (match gens[d]? with|some g=>_|none=>_:Prop);rw[hg];show wpAny _ _ (do let _ <- call (.builtin "list.append") [.ref acc,<- eval elt X.env]) _ _ _;have z:=hel pins s σ H _ I h;rw[hxe]at z;refine GR (c0 z fun v10 s10 ⟨y,H10,I10,r10,ys,hy,hz,nn⟩=>?_);have z4:=ny (X:=X) pins s10 σ H10 (.ref acc) [y] (.ref acc) [v10] (fun _ H'=>N σ H') I10 rfl (.cons r10 .nil) ⟨_,ys,y,rfl,rfl,hy,hz,nn⟩;rw[hxe]at z4;exact GR (c0 z4 fun v11 s11 ⟨y',H11,I11,r11,n11⟩=>GV ⟨_,_,I11,n11⟩)
end
theorem x9{M:Model}{A:Around}{E:Value->Shared->Prop}{s:Shared}{scope:Scope}{cl:List (Str×Addr)}{env:Env}{Q:Env->Shared->Prop}
  (hQ : ∀ h', h'.Ns s.heap.objs.size (fun _ => none) -> (∀ b o, s.heap.get? b = some o -> h'.get? b = some o) -> (∀ x c, (cellsFrom (s.heap.objs.size + 1) scope.names cl).lookup x = some c -> cl.lookup x = some c \/ h'.IsCell c none) ->
   ∀cenv:Env,({cenv with scope:=relabel scope env}:Env)=compEnvC scope (cellsFrom (s.heap.objs.size+1) scope.names cl) s.heap.objs.size env->cenv.locals=s.heap.objs.size->Q cenv {s with heap:=h'}) :
  wpAny M A (newFunctionEnv scope env.globals cl [] env.qual none .none (some env)) Q E s:=by
 simp only[newFunctionEnv,Option.isSome_some,Hv];refine GR (wpAny_alloc ?_);refine GR (wpAny_layCells _ (fun name kind cells=>by cases hkc:kind == NameKind.cell <;> simp[hkc]) _ _ _ _ ?_);have hsz:(s.heap.push {cls:=.type "dict",data:=.dict #[]}).objs.size=s.heap.objs.size+1:=HY ..;refine GR (GV (GV ?_));show Q _ {s with heap:=pushCells (s.heap.push {cls:=.type "dict",data:=.dict #[]}) scope.names};refine hQ _ ((Heap.Ns.new s.heap (.type "dict")).keeps (HZ _ _)) (fun b o e=>HZ _ _ b o (GY _ e)) (fun x c e=>?_) _ ?_ rfl
 ·rw[<- hsz]at e;exact iz e
 ·show _=_;unfold compEnvC;rw[<- hsz]
def n3(o0:Addr->HO)(wi:TI)(cap:List (Option Nat))(g:TG)(tt:TT)(tb:Addr->A3):TE:=fun σ H Q=>wi σ H fun J H1=>∀acc,H1 acc=none->FZ J g tt (tb acc) (fun _ H'=>Q (.ref acc) H') (lR cap σ) (cj H1 acc (o0 acc))
def vT(wi:TI)(cap:List (Option Nat))(g:TG)(tt:TT)(te:TE):TE:=n3 (fun _=>.lst []) wi cap g tt (Aw te)
def F3(X:Cx)(newAcc:Sem Value)(o0:Addr->HO):Prop:=∀(pins:List (Addr×Obj))(s:Shared)(σ:St)(H:Hp)(Q:Value->Shared->Prop),aN X pins σ H s ->
 (∀s',aN X pins σ (cj H s.heap.objs.size (o0 s.heap.objs.size)) s'->(∀b o,s.heap.get? b=some o->s'.heap.get? b=some o)->s.heap.objs.size<s'.heap.objs.size->Q (.ref s.heap.objs.size) s')->wpAny (model X.prog X.w) X.A newAcc Q X.xe s
theorem p7{X:Cx}:F3 X (newList []) (fun _=>.lst []):=fun pins s σ H Q I h=>
 HD (h _ (I.lnew (t':=s.toks) (ys:=[]) (its:=[]) .nil (Ig _)) (fun b o e=>GY _ e) (by rw[HY];exact HW _))
section
variable{X:Cx}{e:Expr}{cl0:Comprehension}{rest:List Comprehension}{scope:Scope}{Nc:List Str}{cap:List (Option Nat)}{wi:TI}{g:TG}{tt:TT}{tb:Addr->A3}{pos':Pos}{o0:Addr->HO}{newAcc:Sem Value}
theorem nL{use:Option (Value->Sem Unit)}{pins:List (Addr×Obj)}{s:Shared}{σ:St}{H:Hp}{Q:VK}{QQ:Value->Shared->Prop}
  (he:lV e=true) (hz:∀g∈clausesOf e,g.is_async=0) (hcl0:clausesOf e=cl0::rest) (hmk:F3 X newAcc o0)
  (hc:X.calm=true) (S:bB X.N X.env scope Nc cap) (hi:PI X cl0.target cl0.iter wi)
  (hg:∀cl C s H fp,PG (hZ X Nc scope cl C s H fp) cl0.target g) (ht:∀cl C s H fp,qN (hZ X Nc scope cl C s H fp) cl0.ifs tt) (hb:∀cl C s H fp acc,DA (hZ X Nc scope cl C s H fp) e 1 acc (tb acc))
  (I:aN X pins σ H s) (h:n3 o0 wi cap g tt tb σ H Q)
  (hfin:∀C acc s' H',aN X pins σ H' s'->jD X pins H' C->(∃m,s'.heap.Ns C m)->Q (.ref acc) H'->compPost (model X.prog X.w) X.A X.xe use QQ (.ref acc) C (.ok .next) s')
  (hs:∀x,foldedSetIterable cl0.iter X.env x=pure x) :
  wpAny (model X.prog X.w) X.A (comprehension e scope X.env pos' newAcc false (eval cl0.iter X.env) use) QQ X.xe s:=by
 obtain⟨cl,hclos,hcl,hall⟩:=sg (scope:=scope) (env:=X.env) (fun y hy hf=>I.ok.has y.1 (S.free y hy hf));have hg0:(clausesOf e)[0]?=some cl0:=by rw[hcl0];rfl
 refine wpAny_comprehension_free hcl0 hs hclos S.kind (fun x hx e=>by rw[S.nd x hx,e]) ?_;refine c0 (hi pins s σ H _ I h) fun v s1 h1=>c0 h1 fun itv s2 h2=>?_;obtain⟨it,fp,tn,J,H2,e',I2,T,st2,f2,rd⟩:=h2;subst e';have rd:=rd _ I2.fresh;refine hmk pins s2 σ H2 _ I2 fun s3 I3 hk3 hsz3=>?_;have st3:tn 0 s3.heap:=T.keep _ _ _ st2 fun b _ o e=>hk3 b o e
 have fpn:∀b∈fp,b≠s2.heap.objs.size:=fun b hb=>by
  obtain⟨o,eo,_⟩:=T.obj _ _ st2 b hb;exact Gw (Gs eo)
 have f3:∀b∈fp,jD X pins (cj H2 s2.heap.objs.size (o0 s2.heap.objs.size)) b:=fun b hb=>⟨by rw[bw (fpn b hb)];exact(f2 b hb).1,(f2 b hb).2⟩
 have hfs:∀b∈fp,b<s3.heap.objs.size:=fun b hb=>by
  obtain⟨o,eo,_⟩:=T.obj _ _ st3 b hb;exact Gs eo
 refine x9 fun h1 hns1 hk1 hce cenv ecenv elc=>?_;rw[ecenv]
 have IB:aN (hZ X Nc scope cl s3.heap.objs.size s3 (cj H2 s2.heap.objs.size (o0 s2.heap.objs.size)) fp) [] (lR cap σ) (cj H2 s2.heap.objs.size (o0 s2.heap.objs.size)) {s3 with heap:=h1,toks:=s3.toks}:=
  uW I3 f3 hfs S hcl hall hns1 hk1 hce
 have stB:tn 0 h1:=T.keep _ _ _ st3 fun b _ o e=>hk1 b o e;rw[elc]
 have frB:∀b∈fp,jD (hZ X Nc scope cl s3.heap.objs.size s3 (cj H2 s2.heap.objs.size (o0 s2.heap.objs.size)) fp) [] (cj H2 s2.heap.objs.size (o0 s2.heap.objs.size)) b:=fun b hb=>
  ⟨(f3 b hb).1,(IB.ok.exf b hb).1,IB.ok.exfs b hb,.inl hb,(IB.ok.exf b hb).2,fun p hp=>absurd (show p∈([]:List (Addr×Obj)) from hp) (by simp)⟩
 have loop:=qI (X:=hZ X Nc scope cl s3.heap.objs.size s3 (cj H2 s2.heap.objs.size (o0 s2.heap.objs.size)) fp) he hz hg0 rfl hc T (hg _ _ _ _ _) (ht _ _ _ _ _) (hb _ _ _ _ _ _) IB stB frB rd
 have fin:∀r s',(r=.ok .next/\∃σ' H',aN (hZ X Nc scope cl s3.heap.objs.size s3 (cj H2 s2.heap.objs.size (o0 s2.heap.objs.size)) fp) [] σ' H' s'/\Q (.ref s2.heap.objs.size) H')->compPost (model X.prog X.w) X.A X.xe use QQ (.ref s2.heap.objs.size) s3.heap.objs.size r s':=by
  rintro r s' ⟨rfl,σ',H',J',q⟩
  have I5:aN X pins σ H' s':=I3.call' (ch:=fp) J'.os J'.base J'.hok J'.bare fun b hbf=>⟨(f3 b hbf).2.2.2.1,(f3 b hbf).2.1,(f3 b hbf).2.2.2.2.1,(f3 b hbf).2.2.2.2.2⟩;obtain⟨mm,hnn,_⟩:=J'.loc;exact hfin _ _ s' H' I5 (I3.fpOk (G0 _) J'.free) ⟨mm,hnn⟩ q
 exact uq he hz hg0 (G9 loop fin) (T.self _ 0 _ _ _ stB (G9 loop fin))
variable{elt:Expr}{pos:Pos}
theorem xI(hc:X.calm=true)(hz:∀g∈cl0::rest,g.is_async=0)(S:bB X.N X.env scope Nc cap)(hi:PI X cl0.target cl0.iter wi)
  (hg:∀cl C s H fp,PG (hZ X Nc scope cl C s H fp) cl0.target g) (ht:∀cl C s H fp,qN (hZ X Nc scope cl C s H fp) cl0.ifs tt) (hb:∀cl C s H fp acc,DA (hZ X Nc scope cl C s H fp) (.ListComp elt (cl0::rest) scope pos) 1 acc (tb acc))
  (hs:∀x,foldedSetIterable cl0.iter X.env x=pure x):PE X (.ListComp elt (cl0::rest) scope pos) (n3 (fun _=>.lst []) wi cap g tt tb):=by
 intro pins s σ H Q I h;have h0:=hz cl0 GC;obtain⟨tg0,it0,if0,as0⟩:=cl0;have h0':as0=0:=h0;subst h0';rw[arm_eval_ListComp];refine nL (e:=.ListComp elt (_::rest) scope pos) (Q:=Q) rfl hz rfl p7 hc S hi hg ht hb I h (fun C acc s' H' I' hf hn q=>?_) hs;obtain⟨m,hn⟩:=hn;refine⟨m,hn,fun h' sb=>⟨.ref acc,H',?_,rfl,q⟩⟩;exact I'.turned (t':=s'.toks) (it:=C) (fun b o hb e=>(sb.2 b hb).trans e) hf.1 hf.2.1 hf.2.2.2.1 hf.2.2.2.2.1 hf.2.2.2.2.2
theorem xD{i:Nat}{x:Str}{pos1:Pos}{pos2:Pos}(hc:X.calm=true)(hz:∀g∈cl0::rest,g.is_async=0)(hN:X.N.Nodup)(hix:X.N[i]?=some x)(hx:X.env.scope.names.lookup x=some .local)(S:bB X.N X.env scope Nc cap)(hi:PI X cl0.target cl0.iter wi)
  (hg:∀cl C s H fp,PG (hZ X Nc scope cl C s H fp) cl0.target g) (ht:∀cl C s H fp,qN (hZ X Nc scope cl C s H fp) cl0.ifs tt) (hb:∀cl C s H fp acc,DA (hZ X Nc scope cl C s H fp) (.ListComp elt (cl0::rest) scope pos) 1 acc (tb acc))
  (hsw:swapsWith (.ListComp elt (cl0::rest) scope pos) (some (.Name x pos1)) pos2.line X.env=pure true) (hs:∀x,foldedSetIterable cl0.iter X.env x=pure x) :
  PS X (.Assign [.Name x pos1] (.ListComp elt (cl0::rest) scope pos) pos2) (vH (n3 (fun _=>.lst []) wi cap g tt tb) (pB i)):=by
 intro pins s σ H D I h;have h0:=hz cl0 GC;obtain⟨tg0,it0,if0,as0⟩:=cl0;have h0':as0=0:=h0;subst h0';rw[exec_Assign_Name_used _ _ _ _ hsw];refine GR (GT (GR ?_));show wpAny _ X.A (do let _ <- comprehension (.ListComp elt (⟨tg0,it0,if0,0⟩::rest) scope pos) scope X.env _ (newList []) false (eval it0 X.env) (some (assign (.Name x pos1) X.env))) _ _ s
 refine GR (GM (nL (e:=.ListComp elt (_::rest) scope pos) (use:=some (assign (.Name x pos1) X.env)) (Q:=fun v H1=>D.nx (σ.set i (some v)) H1) (QQ:=fun _ s'=>SP X pins D .next s') rfl hz rfl p7 hc S hi hg ht hb I h (fun C acc s' H' I' hf hn q=>?_) hs)
  (fun _ s' hq=>GV (GV hq)) fun _ _ e=>e)
 obtain⟨m,hn⟩:=hn;show wpAny _ X.A (assign (.Name x pos1) X.env (.ref acc)) _ _ _;refine wpAny_assign_Name (ni I' hN hix (.inl hx) (show bJ (.ref acc) (.ref acc) from rfl) (fun s'' I'' hsb=>?_) (.inr hx));obtain⟨a,sb,ha⟩:=hsb
 have hCa:C≠a:=by
  rcases ha with z|z
  ·rw[z];exact hf.2.1
  ·exact fun e=>hf.2.2.2.2.1 x a z e.symm
 refine⟨m,hn.sameBut sb hCa,fun h' sb'=>⟨_,H',?_,q⟩⟩;exact I''.turned (t':=s''.toks) (it:=C) (fun b o hb e=>(sb'.2 b hb).trans e) hf.1 hf.2.1 hf.2.2.2.1 hf.2.2.2.2.1 hf.2.2.2.2.2
variable{tg iter:Expr}{ifs:List Expr}{te:TE}
theorem nv:∀g∈([⟨tg,iter,ifs,0⟩]:List Comprehension),g.is_async=0:=fun g hg=>by rw[Ih.mp hg]
theorem zB(hc:X.calm=true)(S:bB X.N X.env scope Nc cap)(hi:PI X tg iter wi)
  (hg:∀cl C s H fp,PG (hZ X Nc scope cl C s H fp) tg g) (ht:∀cl C s H fp,qN (hZ X Nc scope cl C s H fp) ifs tt) (he:∀cl C s H fp,PE (hZ X Nc scope cl C s H fp) elt te)
  (hs:∀x,foldedSetIterable iter X.env x=pure x:=by intro _;rfl):PE X (.ListComp elt [⟨tg,iter,ifs,0⟩] scope pos) (vT wi cap g tt te):=
 xI (cl0:=⟨tg,iter,ifs,0⟩) hc nv S hi hg ht (fun cl C s H fp acc=>pW rfl rfl (he cl C s H fp)) hs
theorem zu{i:Nat}{x:Str}{pos1:Pos}{pos2:Pos}(hc:X.calm=true)(hN:X.N.Nodup)(hix:X.N[i]?=some x)(hx:X.env.scope.names.lookup x=some .local)(S:bB X.N X.env scope Nc cap)(hi:PI X tg iter wi)
  (hg:∀cl C s H fp,PG (hZ X Nc scope cl C s H fp) tg g) (ht:∀cl C s H fp,qN (hZ X Nc scope cl C s H fp) ifs tt) (he:∀cl C s H fp,PE (hZ X Nc scope cl C s H fp) elt te)
  (hsw:swapsWith (.ListComp elt [⟨tg,iter,ifs,0⟩] scope pos) (some (.Name x pos1)) pos2.line X.env=pure true) (hs:∀x,foldedSetIterable iter X.env x=pure x:=by intro _;rfl) :
  PS X (.Assign [.Name x pos1] (.ListComp elt [⟨tg,iter,ifs,0⟩] scope pos) pos2) (vH (vT wi cap g tt te) (pB i)):=
 xD (cl0:=⟨tg,iter,ifs,0⟩) hc nv hN hix hx S hi hg ht (fun cl C s H fp acc=>pW rfl rfl (he cl C s H fp)) hsw hs
end
end L2
namespace RS
open PySem PySem.W PyProof.Rows
open AutoSeq1 (wpAny_loadPart')
section
variable{prog:Program}{w:World}{A:Around}{E:Value->Shared->Prop}{s:Shared}
theorem oO{it t:Addr}{i:Nat}{items}{x:Value}{Q:Value->Shared->Prop}(hit:s.heap.IsTupleIter it t i)(ht:s.heap.IsTuple t items)(hx:items[i]?=some x)
  (hQ:∀h',h'.IsTupleIter it t (i+1)->Heap.SameBut it s.heap h'->Q x {s with heap:=h'}):wpAny (model prog w) A (Builtin.SmallTypes.nextOf (.ref it)) Q E s:=by
 obtain⟨o,ho,hc,hd⟩:=id hit;obtain⟨ol,hol,_,nl,hdl⟩:=ht;unfold Builtin.SmallTypes.nextOf;refine GR (Hx (name:=Str.ofString "__next__") hit.typeIs Ii (HA Ii hit.typeIs Ij ?_ (Ik _)));show wpAny _ _ (field (.ref it) 0 >>= _) _ _ s;refine GR (Hw ho hd (x:=.ref t) rfl ?_);show wpAny _ _ (if (Value.ref t == Value.none)=true then _ else _) _ _ s;rw[Gr (show ¬ ((Value.ref t == Value.none)=true) from G6)];show wpAny _ _ (field (.ref it) 1 >>= _) _ _ s;refine GR (Hw ho hd (x:=.int i 0) rfl ?_);show wpAny _ _ (seqItems? (.ref t) >>= _) _ _ s;refine GR (Il hol hdl ?_);simp only[Hs,hx];refine GR (wpAny_setField ho hd (by simp) (GV ⟨x,rfl,GV (hQ _ ?_ (Im ..))⟩));exact⟨_,HH _ ho (Obj.isFreed_of_fields (Obj.data_mapFields hd _)),(Obj.cls_mapFields ..).trans hc,by rw[Obj.data_mapFields hd];simp[rawInt]⟩
theorem kA{it t:Addr}{i:Nat}{items}{Q:Value->Shared->Prop}(hh:A.handled=none)(hit:s.heap.IsTupleIter it t i)(ht:s.heap.IsTuple t items)(hx:items[i]?=none)
  (hE:∀h' e,Heap.ExtBut it s.heap h'->(∃o,h'.get? e=some o/\o.cls=.type "StopIteration")->E (.ref e) {s with heap:=h'}):wpAny (model prog w) A (Builtin.SmallTypes.nextOf (.ref it)) Q E s:=by
 obtain⟨o,ho,hc,hd⟩:=id hit;obtain⟨ol,hol,_,nl,hdl⟩:=ht;unfold Builtin.SmallTypes.nextOf;refine GR (Hx (name:=Str.ofString "__next__") hit.typeIs Ii (HA Ii hit.typeIs Ij ?_ (Ik _)));show wpAny _ _ (field (.ref it) 0 >>= _) _ _ s;refine GR (Hw ho hd (x:=.ref t) rfl ?_);show wpAny _ _ (if (Value.ref t == Value.none)=true then _ else _) _ _ s;rw[Gr (show ¬ ((Value.ref t == Value.none)=true) from G6)];show wpAny _ _ (field (.ref it) 1 >>= _) _ _ s;refine GR (Hw ho hd (x:=.int i 0) rfl ?_);show wpAny _ _ (seqItems? (.ref t) >>= _) _ _ s;refine GR (Il hol hdl ?_);simp only[Hs,hx];refine GR (Ie (GR (wpAny_setField ho hd (by simp) ?_)));show wpAny _ _ (newExc (.type "StopIteration") [] >>= _) _ _ _;refine GR ?_;simp only[newExc,newTuple];refine GR (HD ?_ (by size_fits));refine GR (m:=firstArgMember _ _) (Io (a:=Value.none) (by first|rfl|(simp only[firstArgMember];rfl)) ?_);refine HD ?_ (by size_fits);simp only[raiseNew];refine GR (wpAny_handled ?_)
 first|rw[show A.in1.handled=none from hh]|rw[hh]
 refine GR (GV (wpAny_throw ?_));exact hE _ _ (((Im ..).extBut.push _).push _) ⟨_,GZ _ rfl,rfl⟩
end
theorem Dk{prog:Program}{w:World}{A:Around}(hh:A.handled=none)(it l:Addr)(hne:l≠it)(items:Array Value) :
  Draws prog w A it [it,l] items.size (fun i v=>items[i]?=some v) (fun i h=>h.IsTupleIter it l i/\h.IsTuple l items) where
 live:=fun _ _ st=>let ⟨o,ho,_⟩:=st.1;⟨o,ho⟩
 frame:=fun _ _ _ st hk=>⟨by
  obtain⟨o,ho,r⟩:=st.1;exact⟨o,hk it (by simp) o ho,r⟩,by
  obtain⟨o,ho,r⟩:=st.2
  exact⟨o,hk l (by simp) o ho,r⟩⟩
 item:=fun i s Q E hi st hQ=>by
  refine oO st.1 st.2 (x:=items[i]) (by simp[hi]) fun h' hit' hs'=>?_;refine hQ _ h' s.toks (by simp[hi]) ⟨hit',?_⟩ hs';obtain⟨o,ho,r⟩:=st.2;exact⟨o,(hs'.2 l hne).trans ho,r⟩
 done:=fun s Q E st hE=>kA hh st.1 st.2 (by simp) hE
theorem qE(l:Addr)(items:Array Value)(n:Nat)(dct:Option Addr)(sl:Array (Option Value)) :
  Meets (Builtin.«enumerate.__new__» ⟨[.type "enumerate",.ref l],[]⟩) (fun _ R s=>s.heap.get? l=some {cls:=.type "tuple",dict:=dct,data:=.seq items n,slots:=sl} /\
   R (.ok (.ret (.ref (s.heap.push {cls:=.type "tuple_iterator",data:=.fields #[.ref l,.int 0 0]}).objs.size)))
    {s with heap:=(s.heap.push {cls:=.type "tuple_iterator",data:=.fields #[.ref l,.int 0 0]}).push {cls:=.type "enumerate",data:=.fields #[.none,.bool false,.ref s.heap.objs.size,rawInt 0,.none,.none]}}):=
 .of_wp fun prog w A R s h=>by
  obtain⟨hp,g,d,tk,os⟩:=s;obtain⟨hl,h⟩:=h;have hsub:=sub_enumerate;have hL:Heap.IsTuple (Shared.heap ⟨hp,g,d,tk,os⟩) l items:=⟨_,hl,rfl,n,rfl⟩
  wp_walk using wpAny_loadPart' hl
  refine wpAny_stack_any fun st=>GV ?_;split
  ·rename_i c _ _ _ _ _;cases (c == Value.type "enumerate")
   ·wp_walk using wpAny_loadPart' hl, Ip hL
    exact⟨_,rfl,h⟩
   ·wp_walk using wpAny_loadPart' hl, Ip hL
    exact⟨_,rfl,h⟩
  ·wp_walk using wpAny_loadPart' hl, Ip hL
   exact⟨_,rfl,h⟩
section
variable{prog:Program}{w:World}{A:Around}{E:Value->Shared->Prop}{s:Shared}
theorem sr{l:Addr}{items:Array Value}{Q:Value->Shared->Prop}(hL:s.heap.IsTuple l items)
  (h : ∀ h', IsEnum h' (s.heap.objs.size + 1) s.heap.objs.size 0 .none -> h'.IsTupleIter s.heap.objs.size l 0 -> h'.objs.size = s.heap.objs.size + 2 ->
   (∀b o,s.heap.get? b=some o->h'.get? b=some o)->Q (.ref (s.heap.objs.size+1)) {s with heap:=h'}) :
  wpAny (model prog w) A (call (.type "enumerate") [.ref l]) Q E s:=by
 obtain⟨⟨c,dct,dt,sl⟩,hl,hc,n,hd⟩:=hL;replace hc:c=.type "tuple" := hc;replace hd:dt=.seq items n:=hd;subst hc hd;refine callType_new F.called_enumerate (by decide) (F.typeCall_enumerate_1 _) (F.newCall_enumerate_1 _) (fun obj=>F.args_object_init_2 obj _) F.entry_enumerate_new (qE l items n dct sl) ⟨hl,?_⟩;have hz:(s.heap.push {cls:=.type "tuple_iterator",data:=.fields #[.ref l,.int 0 0]}).objs.size=s.heap.objs.size+1:=HY ..;show _/\_;rw[hz]
 have he:IsEnum ((s.heap.push {cls:=.type "tuple_iterator",data:=.fields #[.ref l,.int 0 0]}).push
   {cls:=.type "enumerate",data:=.fields #[.none,.bool false,.ref s.heap.objs.size,rawInt 0,.none,.none]}) (s.heap.objs.size+1) s.heap.objs.size 0 .none:=by
  have:=GZ (s.heap.push {cls:=.type "tuple_iterator",data:=.fields #[.ref l,.int 0 0]})
   (o:={cls:=.type "enumerate",data:=.fields #[.none,.bool false,.ref s.heap.objs.size,rawInt 0,.none,.none]}) rfl
  rw[hz]at this;exact this
 exact⟨⟨_,he,rfl⟩,h _ he ⟨_,GY _ (GZ _ rfl),rfl,rfl⟩ (by rw[HY,hz]) fun b o x=>GY _ (GY _ x)⟩
end
end RS
namespace L2
open PySem PySem.Spec PyProof.Rows RS
def Sq(b:Bool)(K:W.Frag)(H:Hp)(a:Addr)(xs:List V):Prop:=if b=true then dW K H a xs else eD K H a xs
def Fk(b:Bool)(K:W.Frag)(a:Addr):It:=
 ⟨fun i H => ∃ xs x, Sq b K H a xs /\ xs[i]? = some x,
  fun i H x H'=>∃q y,x=.ref q/\H q=none/\H'=cj H q (.tup [.int i,y])/\∀xs,Sq b K H a xs->xs[i]?=some y,
  fun i H=>∃xs,Sq b K H a xs/\xs.length=i⟩
def nZ(b:Bool)(h:Heap)(it a:Addr)(i:Nat):Prop:=if b=true then h.IsListIter it a i else h.IsTupleIter it a i
theorem nZ.obj{b:Bool}{h:Heap}{it a:Addr}{i:Nat}(x:nZ b h it a i):∃o,h.get? it=some o/\∀v,o.data≠.cell v:=by
 cases b with
 |true=>obtain⟨o,e,c,d⟩:=(show h.IsListIter it a i from x);exact⟨o,e,fun v z=>by rw[d]at z;cases z⟩
 |false=>obtain⟨o,e,c,d⟩:=(show h.IsTupleIter it a i from x);exact⟨o,e,fun v z=>by rw[d]at z;cases z⟩
theorem nZ.keep{b:Bool}{h h':Heap}{it a:Addr}{i:Nat}(x:nZ b h it a i)(k:∀o,h.get? it=some o->h'.get? it=some o):nZ b h' it a i:=by
 cases b with
 |true=>obtain⟨o,e,r⟩:=(show h.IsListIter it a i from x);exact(show h'.IsListIter it a i from⟨o,k o e,r⟩)
 |false=>obtain⟨o,e,r⟩:=(show h.IsTupleIter it a i from x);exact(show h'.IsTupleIter it a i from⟨o,k o e,r⟩)
theorem qo{X:Cx}{pins:List (Addr×Obj)}{σ:St}{H:Hp}{s:Shared}{b:Bool}{a it:Addr}{xs:List V}(I:aN X pins σ H s)(hc:X.calm=true)(hq:Sq b X.K H a xs)(hne:a≠it) :
  ∃(its:Array Value)(St:Nat->Heap->Prop),aX xs its.toList/\Draws X.prog X.w X.A.in1 it [it,a] its.size (fun i v=>its[i]?=some v) St/\(∀i,nZ b s.heap it a i->St i s.heap)/\∀i h,St i h->nZ b h it a i:=by
 have hh:X.A.in1.handled=none:=by simpa using I.ok.hd hc
 cases b with
 |true=>
  obtain⟨its,rv,p,hz⟩:=I.list (show dW X.K H a xs from hq);exact⟨its.toArray,_,by simpa using rv,Draws.list hh it a hne its.toArray,fun i h=>⟨h,p.isList⟩,fun i h st=>st.1⟩
 |false=>
  obtain⟨its,rv,p,hz⟩:=I.tuple (show eD X.K H a xs from hq);exact⟨its.toArray,_,by simpa using rv,Dk hh it a hne its.toArray,fun i h=>⟨h,p⟩,fun i h st=>st.1⟩
theorem BJ{X:Cx}{pins:List (Addr×Obj)}{σ:St}{H:Hp}{s:Shared}{b:Bool}{a:Addr}{xs ys:List V}(I:aN X pins σ H s)(h1:Sq b X.K H a xs)(h2:Sq b X.K H a ys):xs=ys:=by
 cases b with
 |true=>exact I.list_inj h1 h2
 |false=>exact I.tuple_inj h1 h2
theorem aN.turns{X:Cx}{pins:List (Addr×Obj)}{σ:St}{H:Hp}{s:Shared}{h':Heap}{t':Nat}{ch:List Addr}(I:aN X pins σ H s)(k:∀b o,b∉ch->s.heap.get? b=some o->h'.get? b=some o)(hf:∀b∈ch,jD X pins H b):aN X pins σ H {s with heap:=h',toks:=t'}:=by
 have nit:∀b u,H b=some u->b∉ch:=fun b u e z=>by rw[(hf b z).1]at e;cases e
 refine I.step (g':=s.gens) (d':=s.drawn) (ch:=ch) (fun b hb=>?_) (fun b o _ _ hc e _=>k b o hc e) (fun b o _ _ hc e _=>⟨o.slots,k b o hc e⟩) (fun _ _ _ _ n=>n)
  (fun b o hc e=>⟨o,k b o hc e⟩) (fun _ _ e=>e) (fun _ _ _ e=>e) (fun b ps e=>⟨#[],by rw[e];simp⟩) (fun m hm=>?_) (fun b u e=>?_) I.bare
 ·obtain⟨f0,f1,f2,f3,f4,f5⟩:=hf b hb;exact⟨f3,f1,f4,f5⟩
 ·obtain⟨o,es,ep,ho,r⟩:=hm;exact⟨o,es,ep,k _ o (fun z=>(hf _ z).2.1 rfl) ho,r⟩
 ·refine (I.hok b u e).stay (fun c v hc q => k c v ?_ q) (fun _ q => q) fun _ _ q => q;rcases hc with z|z
  ·rw[z];exact nit b u e
  ·exact nit c _ z
theorem um{P:Program}{w:World}{K:W.Frag}{elts:List Expr}{k1:Nat}{pos:Pos}{b:Bool}(a it e:Addr)(hei:e≠it)(hai:a≠it)(hae:a≠e) :
  qX P w K (.Tuple elts k1 pos) (Fk b K a) [e,it] e (fun i h=>(∃old,IsEnum h e it (i:Nat) old)/\nZ b h it a i) where
 mem:=by simp
 obj:=fun i h st x hx=>by
  obtain⟨⟨old,he⟩,hi⟩:=st;rcases GE.mp hx with rfl|hx
  ·exact⟨_,he,fun v z=>by cases z⟩
  ·rw[Ih.mp hx];exact hi.obj
 keep:=fun i h h' st k=>by
  obtain⟨⟨old,he⟩,hi⟩:=st;exact⟨⟨old,k e (by simp) _ he⟩,hi.keep fun o eo=>k it (by simp) o eo⟩
 item:=by
  intro X hP hw hK hc i pins s σ H E I hf st hg;subst hP hw hK;obtain⟨⟨old,he⟩,hi⟩:=st;obtain⟨xs,x,hq,hx⟩:=hg;obtain⟨its,St,rv,D,d1,d2⟩:=qo I hc hq hai;obtain⟨u,hu,ru⟩:=rv.get hx
  have hlt:i<its.size:=by
   have:=(GI.mp hu).1;simpa using this
  have hef:e ∉ [it,a]:=by
   simp only[GE,Iq,Ir,not_or];exact⟨hei,GF hae⟩
  obtain⟨f0,f1,f2,f3,f4,f5⟩:=hf e (by simp);obtain⟨g0,g1,g2,g3,g4,g5⟩:=hf it (by simp);have helt:e<s.heap.objs.size:=Gs he;have hilt:it<s.heap.objs.size:=by obtain⟨o,eo,_⟩:=hi.obj;exact Gs eo
  refine wpAny_pyNext_enum_itemD D he (d1 i hi) hlt hei hef fun y h' tk hy ho hst' ht hsz hk=>?_
  have ey:y=u:=by
   rw[<- Iu,hu]at hy;exact(Gj hy).symm
  subst ey;refine⟨_,rfl,?_⟩;refine wpAny_letOwnedTupleGo_enum (s:={s with heap:=h',toks:=tk+1}) ho fun h2 he2 hs2=>?_;replace hs2:Heap.SameBut e h' h2:=hs2;have hold:∀b o,b≠e->b≠it->s.heap.get? b=some o->h2.get? b=some o:=fun b o h1 h3 q=>(hs2.2 b h1).trans (hk b o h1 h3 q);have ht2:h2.get? s.heap.objs.size=some {cls:=.type "tuple",data:=.seq #[.int i tk,y]}:=(hs2.2 _ (GU helt)).trans ht;have hqn:H s.heap.objs.size=none:=I.hok.fresh (G0 _)
  have I1:aN X pins σ (cj H s.heap.objs.size (.tup [.int i,x])) {s with heap:=s.heap.push {cls:=.type "tuple",data:=.seq #[.int i tk,y]},toks:=tk}:=by
   refine I.laid (t':=tk) (fun b o eo=>GY _ eo) (G0 _) ?_;exact⟨by show 2<=sizeLine;decide,[.int i tk,y],.cons ⟨tk,rfl⟩ (.cons ru .nil),_,GZ _ rfl,rfl,0,rfl⟩
  have hne:∀b∈[e,it],b≠s.heap.objs.size:=fun b hb=>by
   rcases GE.mp hb with rfl|hb
   ·exact Gw helt
   ·rw[Ih.mp hb];exact Gw hilt
  have hf':∀b∈[e,it],jD X pins (cj H s.heap.objs.size (.tup [.int i,x])) b:=fun b hb=>by
   obtain⟨k0,k1⟩:=hf b hb;exact⟨by rw[bw (hne b hb)];exact k0,k1⟩
  have I2:aN X pins σ (cj H s.heap.objs.size (.tup [.int i,x])) {s with heap:=h2,toks:=tk+1}:=by
   refine aN.turns (s:={s with heap:=s.heap.push {cls:=.type "tuple",data:=.seq #[.int i tk,y]},toks:=tk}) I1 (ch:=[e,it]) (t':=tk+1) (fun b o hb eo=>?_) hf';simp only[GE,Iq,Ir,not_or]at hb;by_cases hbq:b=s.heap.objs.size
   ·subst hbq;have:=(GZ s.heap (o:={cls:=.type "tuple",data:=.seq #[.int i tk,y]}) rfl).symm.trans eo;rw[ht2];exact this
   ·have:s.heap.get? b=some o:=by
     rw[Iv _ _ _ hbq]at eo;exact eo
    exact hold b o hb.1 hb.2 this
  refine⟨.ref s.heap.objs.size,_,I2,rfl,⟨_,x,rfl,hqn,rfl,fun ys hy=>by rw[BJ I hy hq];exact hx⟩,⟨⟨y,by simpa using he2⟩,?_⟩,fun b hb=>(hf' b hb).1⟩;refine(d2 (i+1) h' hst').keep fun o eo=>?_;exact(hs2.2 it (GF hei)).trans eo
 done:=by
  intro X hP hw hK hc i pins s σ H E I hf st hg;subst hP hw hK;obtain⟨⟨old,he⟩,hi⟩:=st;obtain⟨xs,hq,hx⟩:=hg;obtain⟨its,St,rv,D,d1,d2⟩:=qo I hc hq hai
  have hil:its.size=i:=by
   have h1:=rv.length;have h2:its.toList.length=its.size:=GO;omega
  subst hil;refine wpAny_pyNext_enum_endD D he (d1 _ hi) fun h' hx=>⟨rfl,?_⟩;refine I.turns (ch:=[e,it]) (t':=s.toks) (fun b o hb eo=>hx b o (fun z=>hb (by rw[z];simp)) eo) hf
 self:=fun _ _ _ _ _ st h=>by
  obtain⟨⟨old,he⟩,hi⟩:=st;exact wpAny_pyIter_enum he h
section
variable{X:Cx}{tg:Expr}
def C8(K:W.Frag)(ta:TA):TI:=fun σ H R=>ta σ H fun vs H1=>∃a b,vs=[.ref a]/\(∃xs,Sq b K H1 a xs)/\R (Fk b K a) H1
theorem zy {a:Expr}{ta:TA}{p pos tpos:Pos}{elts:List Expr}{k1:Nat} (hg:Gl X "enumerate") (hm:X.mg "enumerate" = none) (ha:PA X [a] ta) (hs:starEach [a] X.env=[(false,eval a X.env)]:=by rfl):PI X (.Tuple elts k1 tpos) (.Call (.Name "enumerate" p) [a] [] pos) (C8 X.K ta):=by
 intro pins s σ H R I h;refine Call_ (ke I hg hm (by rfl) (G1 (c0 (ha pos pins s σ H _ I h) fun us s1 ⟨vs,H1,I1,r1,q1⟩=>?_) hs rfl));obtain⟨l,b,e,⟨xs,hq⟩,q⟩:=q1;subst e;obtain⟨u,rfl,ru⟩:=dm r1;cases ru
 have fin:∀h',IsEnum h' (s1.heap.objs.size+1) s1.heap.objs.size 0 .none->nZ b h' s1.heap.objs.size l 0->l<s1.heap.objs.size->h'.objs.size=s1.heap.objs.size+2->(∀b o,s1.heap.get? b=some o->h'.get? b=some o) ->
   wpAny (model X.prog X.w) X.A (pyIter (.ref (s1.heap.objs.size+1))) (E1 X pins σ (.Tuple elts k1 tpos) R) X.xe {s1 with heap:=h'}:=by
  intro h' he hi hl hsz hk;have I2:aN X pins σ H1 {s1 with heap:=h'}:=I1.kept (t':=s1.toks) hk;refine wpAny_pyIter_enum he ?_;refine⟨_,[s1.heap.objs.size+1,s1.heap.objs.size],_,_,H1,rfl,I2,um (b:=b) l s1.heap.objs.size (s1.heap.objs.size+1) (Nat.succ_ne_self _) (Gw hl) (Gw (HX hl)),⟨⟨.none,he⟩,hi⟩,fun b hb=>?_,q⟩;rcases GE.mp hb with rfl|hb
  ·exact I1.fpOk (Iw _) (I1.hok.fresh (Iw _))
  ·rw[Ih.mp hb];exact I1.fpOk (G0 _) (I1.hok.fresh (G0 _))
 cases b with
 |true=>
  obtain⟨its,rv,pl,hz⟩:=I1.list (show dW X.K H1 l xs from hq);have hl:l<s1.heap.objs.size:=by obtain⟨o,eo,_⟩:=pl.isList;exact Gs eo
  exact call_enumerate_list pl.isList fun h' he hi hsz hk=>fin h' he hi hl hsz hk
 |false=>
  obtain⟨its,rv,pl,hz⟩:=I1.tuple (show eD X.K H1 l xs from hq);have hl:l<s1.heap.objs.size:=by obtain⟨o,eo,_⟩:=pl;exact Gs eo
  exact sr pl fun h' he hi hsz hk=>fin h' he hi hl hsz hk
end
end L2
namespace RS
open PySem
def tY(mask:Nat):Nat->Nat->Nat->List Nat
 |0,_,_=>[]
 |n+1,i,pe=>(List.range (SetTable.runEnd mask i+1-i)).map (i+·)++tY mask n (SetTable.leap mask i pe).1 (SetTable.leap mask i pe).2
def bL(mask:Nat)(h:Int):List Nat:=tY mask (SetTable.turns mask) (SetTable.bits h%(mask+1)) (SetTable.bits h)
def fF(t:SetTable):Nat->SetTable.Probe->List Nat
 |0,_=>[]
 |n+1,p=>p.j::fF t n (t.advance p)
def jK(mask i pe:Nat)(d:Option Nat):SetTable.Probe:={j:=i,more:=SetTable.runEnd mask i-i,i,perturb:=pe,dummy:=d}
theorem pJ(t:SetTable):∀(m n:Nat)(p:SetTable.Probe),p.more=m ->
  fF t (m+1+n) p=(List.range (m+1)).map (p.j+·)++fF t n (jK t.mask (SetTable.leap t.mask p.i p.perturb).1 (SetTable.leap t.mask p.i p.perturb).2 p.dummy)
 |0,n,p,h=>by
  have e:0+1+n=n+1:=by omega
  rw[e];show p.j::fF t n (t.advance p)=_
  have ea:t.advance p=jK t.mask (SetTable.leap t.mask p.i p.perturb).1 (SetTable.leap t.mask p.i p.perturb).2 p.dummy:=by
   unfold SetTable.advance;rw[Gr (by omega)];rfl
  rw[ea];simp
 |m+1,n,p,h=>by
  have e:m+1+1+n=(m+1+n)+1:=by omega
  rw[e];show p.j::fF t (m+1+n) (t.advance p)=_
  have ea:t.advance p={p with j:=p.j+1,more:=p.more-1}:=by
   unfold SetTable.advance;rw[Gq (by omega)]
  rw[ea,pJ t m n {p with j:=p.j+1,more:=p.more-1} (by show p.more-1=m;omega)];rw[Iy (n:=m+1),HF,Iz];show p.j::((List.range (m+1)).map (p.j+1+·)++_)=(p.j+0)::(List.map _ _)++_;rw[Nat.add_zero];show p.j::(_++_)=p.j::(_++_);congr 2;apply IA;intro a _;show p.j+1+a=p.j+(a+1);omega
theorem wx(mask i:Nat):i<=SetTable.runEnd mask i/\SetTable.runEnd mask i<=i+9:=by
 unfold SetTable.runEnd;split <;> omega
theorem lZ(t:SetTable):∀(n i pe:Nat)(d:Option Nat),fF t (tY t.mask n i pe).length (jK t.mask i pe d)=tY t.mask n i pe
 |0,_,_,_=>rfl
 |n+1,i,pe,d=>by
  have hr:=wx t.mask i;show fF t ((List.range (SetTable.runEnd t.mask i+1-i)).map (i+·)++_).length _=_;rw[Hl,Hm,IC];have e:SetTable.runEnd t.mask i+1-i=(SetTable.runEnd t.mask i-i)+1:=by omega
  rw[e,pJ t (SetTable.runEnd t.mask i-i) _ (jK t.mask i pe d) rfl];show _++fF t (tY t.mask n (SetTable.leap t.mask i pe).1 (SetTable.leap t.mask i pe).2).length (jK t.mask (SetTable.leap t.mask i pe).1 (SetTable.leap t.mask i pe).2 d)=_;rw[lZ t n];show _=(List.range (SetTable.runEnd t.mask i+1-i)).map (i+·)++_;rw[e];rfl
theorem oi(mask:Nat):∀(n i pe:Nat),(tY mask n i pe).length<=10*n
 |0,_,_=>Ig _
 |n+1,i,pe=>by
  have hr:=wx mask i;have ih:=oi mask n (SetTable.leap mask i pe).1 (SetTable.leap mask i pe).2;show ((List.range (SetTable.runEnd mask i+1-i)).map (i+·)++_).length<=_;rw[Hl,Hm,IC];omega
theorem ot(t:SetTable)(hashAt:Nat->Int)(h:Int):∀(pre:List Nat)(j:Nat)(post:List Nat)(fuel:Nat)(p:SetTable.Probe),fF t (pre.length+1+post.length) p=pre++j::post->pre.length<fuel->p.dummy=none ->
  (∀k∈pre,∃i,t.slot k=.live i/\hashAt i≠h) ->
  (t.slot j=.empty->SetTable.probe.go t hashAt h fuel p=some (.empty j none))/\(∀i,t.slot j=.live i->hashAt i=h->∃nx,SetTable.probe.go t hashAt h fuel p=some (.candidate j i nx))
 |[],j,post,0,p,_,hf,_,_=>by simp at hf
 |[],j,post,fuel+1,p,hw,_,hd,_=>by
  have ew:fF t (([]:List Nat).length+1+post.length) p=p.j::fF t post.length (t.advance p):=by
   rw[ID,show 0+1+post.length=post.length+1 from by omega];rfl
  rw[ew,HP]at hw;have ej:p.j=j:=(IE hw).1;refine⟨fun he=>?_,fun i hl hh=>?_⟩
  ·show (match t.slot p.j with | .empty=>_ | .dummy=>_ | .live i=>_)=_;rw[ej,he,hd]
  ·refine⟨t.advance p,?_⟩;show (match t.slot p.j with | .empty=>_ | .dummy=>_ | .live i=>_)=_;rw[ej,hl];show (if (hashAt i == h)=true then _ else _)=_;rw[Gq (by simpa using hh)]
 |x::pre,j,post,0,p,_,hf,_,_=>by simp at hf
 |x::pre,j,post,fuel+1,p,hw,hf,hd,hp=>by
  have ew:fF t ((x::pre).length+1+post.length) p=p.j::fF t (pre.length+1+post.length) (t.advance p):=by
   rw[HV,show pre.length+1+1+post.length=(pre.length+1+post.length)+1 from by omega];rfl
  rw[ew,IF]at hw;have ej:p.j=x:=(IE hw).1;have er:=(IE hw).2;obtain⟨i,hl,hne⟩:=hp x GC
  have hda:(t.advance p).dummy=none:=by
   unfold SetTable.advance;split
   ·exact hd
   ·exact hd
  have ih:=ot t hashAt h pre j post fuel (t.advance p) er (by rw[HV]at hf;omega) hda (fun k hk=>hp k (GD _ hk))
  have eg:SetTable.probe.go t hashAt h (fuel+1) p=SetTable.probe.go t hashAt h fuel (t.advance p):=by
   show (match t.slot p.j with | .empty=>_ | .dummy=>_ | .live i=>_)=_;rw[ej,hl];show (if (hashAt i == h)=true then _ else _)=_;rw[Gr (by simpa using hne)]
  rw[eg];exact ih
def yl(xs:List Nat):Prop:=xs.Pairwise (·<·)
theorem me(xs:Array Nat)(j:Nat):∀(fuel lo hi:Nat),lo<=hi->hi<=xs.size->hi-lo<=fuel->(∀i k,i<k->k<xs.size->xs.getD i j<xs.getD k j)->(∀i,i<lo->xs.getD i j<j)->(∀i,hi<=i->i<xs.size->j<=xs.getD i j) ->
  let b:=SetTable.below.go xs j fuel lo hi
  b<=xs.size/\(∀i,i<b->xs.getD i j<j)/\(∀i,b<=i->i<xs.size->j<=xs.getD i j)
 |0,lo,hi,h1,h2,h3,hr,ha,hb=>by
  have e:lo=hi:=by omega
  subst e;exact⟨h2,ha,hb⟩
 |fuel+1,lo,hi,h1,h2,h3,hr,ha,hb=>by
  by_cases hlt:lo<hi
  ·simp only [SetTable.below.go, hlt, Hv];by_cases hc:xs.getD ((lo+hi) / 2) j<j
   ·rw [Gq hc];refine me xs j fuel _ hi (by omega) h2 (by omega) hr (fun i hi'=>?_) hb;by_cases e:i=(lo+hi) / 2
    ·rw[e];exact hc
    ·have:=hr i ((lo+hi) / 2) (by omega) (by omega);omega
   ·rw [Gr hc];refine me xs j fuel lo _ (by omega) (by omega) (by omega) hr ha (fun i hi' hs=>?_);by_cases e:i=(lo+hi) / 2
    ·rw[e];omega
    ·have:=hr ((lo+hi) / 2) i (by omega) hs;omega
  ·have e : lo = hi := by omega
   subst e;simp only[SetTable.below.go,hlt,Hu];exact⟨h2,ha,hb⟩
theorem oj{xs:Array Nat}(h:yl xs.toList)(j:Nat):∀i k,i<k->k<xs.size->xs.getD i j<xs.getD k j:=fun i k hik hk=>by
 have hi:i<xs.size:=by omega
 have:=IG.mp h i k (by simpa using hi) (by simpa using hk) hik;simpa[Array.getD,hi,hk] using this
theorem jn{xs:Array Nat}(h:yl xs.toList)(j:Nat):SetTable.below xs j<=xs.size/\(∀i,i<SetTable.below xs j->xs.getD i j<j)/\(∀i,SetTable.below xs j<=i->i<xs.size->j<=xs.getD i j):=
 me xs j xs.size 0 xs.size (Ig _) (G0 _) (by omega) (oj h j) (fun i hi=>by omega) (fun i h1 h2=>by omega)
theorem vp{xs:Array Nat}(h:yl xs.toList){i j:Nat}(e:xs[i]?=some j):SetTable.below xs j=i:=by
 obtain⟨h1,h2,h3⟩:=jn h j
 have hi:i<xs.size:=by
  rcases IH.mp e with⟨q,_⟩;exact q
 have ei:xs.getD i j=j:=by
  rcases IH.mp e with⟨q,z⟩
  simp[Array.getD,hi,z]
 by_cases hlt:SetTable.below xs j<i
 ·have a:=h3 (SetTable.below xs j) (G0 _) (by omega);have b:=oj h j (SetTable.below xs j) i hlt hi;omega
 ·by_cases hgt : i < SetTable.below xs j
  ·have:=h2 i hgt;omega
  ·omega
theorem g9{α:Type}(xs:Array α)(p:Nat)(x:α):(SetTable.insertAt xs p x).toList=xs.toList.take p++x::xs.toList.drop p:=by
 unfold SetTable.insertAt;simp[II]
theorem gY{α:Type}(p:α->Prop):∀(l:List α),(∃x∈l,p x)->∃pre x post,l=pre++x::post/\p x/\∀y∈pre,¬ p y
 |[],h=>by obtain⟨x,hx,_⟩:=h;simp at hx
 |a::l,h=>by
  by_cases ha:p a
  ·exact⟨[],a,l,rfl,ha,fun y hy=>by simp at hy⟩
  ·obtain ⟨x, hx, px⟩ := h;rcases GE.mp hx with z|z
   ·rw[z]at px;exact absurd px ha
   ·obtain ⟨pre, y, post, e, py, hp⟩ := gY p l ⟨x, z, px⟩;refine⟨a::pre,y,post,by rw[e];rfl,py,fun w hw=>?_⟩;rcases GE.mp hw with q|q
    ·rw[q];exact ha
    ·exact hp w q
structure m3(t:SetTable)(es:Array (Int×Value))(Z:List (Nat×Int×Value)):Prop where
 place:t.place.toList=Z.map (·.1)
 ents:es.toList=Z.map (·.2)
 ris:yl (Z.map (·.1))
 top:∀z∈Z,z.1<=t.mask
 dum:t.dummies=#[]
 reach:∀z∈Z,∃pre post,bL t.mask z.2.1=pre++z.1::post/\∀k∈pre,k∈Z.map (·.1)
theorem m3.size{t:SetTable}{es:Array (Int×Value)}{Z:List (Nat×Int×Value)}(T:m3 t es Z):t.place.size=Z.length/\es.size=Z.length:=by
 have a:=GP List.length T.place;have b:=GP List.length T.ents;simp at a b;exact⟨a,b⟩
theorem m3.fill{t:SetTable}{es:Array (Int×Value)}{Z:List (Nat×Int×Value)}(T:m3 t es Z):t.fill=Z.length:=by
 unfold SetTable.fill;rw[T.size.1,T.dum];rfl
theorem nC(j:Nat):SetTable.has #[] j=false:=by
 unfold SetTable.has;simp
theorem m3.slot_empty{t:SetTable}{es:Array (Int×Value)}{Z:List (Nat×Int×Value)}(T:m3 t es Z){j:Nat}(h:j∉Z.map (·.1)):t.slot j=.empty:=by
 unfold SetTable.slot
 have hn:¬ (t.place[SetTable.below t.place j]? == some j)=true:=by
  intro e;have e':t.place[SetTable.below t.place j]?=some j:=by simpa using e
  apply h;rw[<- T.place];rw[<- Iu]at e';exact Hk e'
 simp only[hn,T.dum,nC];rfl
theorem m3.slot_live{t:SetTable}{es:Array (Int×Value)}{Z:List (Nat×Int×Value)}(T:m3 t es Z){i:Nat}{z:Nat×Int×Value}(h:Z[i]?=some z):t.slot z.1=.live i:=by
 have e:t.place[i]?=some z.1:=by
  rw[<- Iu,T.place,Hj,h];rfl
 have r:yl t.place.toList:=by rw[T.place];exact T.ris
 have eb:=vp r e;unfold SetTable.slot;have hc:(t.place[SetTable.below t.place z.1]? == some z.1)=true:=by rw[eb,e];simp
 simp only[hc,Hv];rw[eb]
theorem m3.hashAt{t:SetTable}{es:Array (Int×Value)}{Z:List (Nat×Int×Value)}(T:m3 t es Z){i:Nat}{z:Nat×Int×Value}(h:Z[i]?=some z):es[i]?=some z.2:=by
 rw[<- Iu,T.ents,Hj,h];rfl
theorem gy{α:Type}:∀{l1 l2:List α},l1.Nodup->(∀x∈l1,x∈l2)->l1.length<=l2.length
 |[],_,_,_=>Ig _
 |a::r,l2,hn,hs=>by
  obtain⟨s,t,e⟩:=List.append_of_mem (hs a GC);have hn':=Hc.mp hn
  have ih:=gy (l1:=r) (l2:=s++t) hn'.2 (fun x hx=>by
   have hx2:=hs x (GD _ hx);rw[e]at hx2;rcases GG.mp hx2 with q|q
   ·exact GH _ q
   ·rcases GE.mp q with q | q
    ·rw[q]at hx;exact absurd hx hn'.1
    ·exact G3 _ q)
  rw[e,Hl,HV,HV];rw[Hl]at ih;omega
theorem sS(mask:Nat):∀(n i pe:Nat),i<=mask->∀j∈tY mask n i pe,j<=mask
 |0,_,_,_,j,h=>by simp[tY]at h
 |n+1,i,pe,hi,j,h=>by
  rcases GG.mp h with q|q
  ·obtain ⟨k, hk, e⟩ := IJ.mp q;have hk':=Gy.mp hk;have:SetTable.runEnd mask i<=mask:=by unfold SetTable.runEnd;split <;> omega
   have e':i+k=j:=e;omega
  ·refine sS mask n _ _ ?_ j q;show (i*5+1+pe / 32)%(mask+1)<=mask;exact IK (Nat.mod_lt _ (Nat.succ_pos mask))
theorem gC{mask:Nat}{h:Int}{j:Nat}(e:j∈bL mask h):j<=mask:=by
 refine sS mask _ _ _ ?_ j e;exact IK (Nat.mod_lt _ (Nat.succ_pos mask))
theorem nE{m:Nat}{l:List Nat}(h:l.length<=m):∃j,j<=m/\j∉l:=by
 refine IL fun hn=>?_
 have hall:∀j∈List.range (m+1),j∈l:=fun j hj=>by
  refine IL fun hj'=>hn ⟨j,?_,hj'⟩;have:=Gy.mp hj;omega
 have:=gy (IM (n:=m+1)) hall;rw[IC]at this;omega
theorem m3.search{t:SetTable}{es:Array (Int×Value)}{Z:List (Nat×Int×Value)}(T:m3 t es Z){h:Int}(cov:∀j,j<=t.mask->j∈bL t.mask h)(hz:Z.length<=t.mask)(hA:Nat->Int)(hAe:∀i z,Z[i]?=some z->hA i=z.2.1) :
  (∃i z nx,Z[i]?=some z/\z.2.1=h/\t.probe hA h (t.probeStart h)=some (.candidate z.1 i nx)) \/
  ((∀z∈Z,z.2.1≠h)/\∃j pre post,t.probe hA h (t.probeStart h)=some (.empty j none)/\j<=t.mask/\j∉Z.map (·.1)/\bL t.mask h=pre++j::post/\∀k∈pre,k∈Z.map (·.1)):=by
 obtain⟨j0,hj0,hn0⟩:=nE (m:=t.mask) (l:=Z.map (·.1)) (by rw[Hm];exact hz);obtain⟨pre,j,post,e,hs,hp⟩:=gY (fun j=>j∉Z.map (·.1)\/∃z∈Z,z.1=j/\z.2.1=h) (bL t.mask h) ⟨j0,cov j0 hj0,.inl hn0⟩
 have hw:fF t (pre.length+1+post.length) (t.probeStart h)=pre++j::post:=by
  have q:=lZ t (SetTable.turns t.mask) (SetTable.bits h%(t.mask+1)) (SetTable.bits h) none
  have el:(tY t.mask (SetTable.turns t.mask) (SetTable.bits h%(t.mask+1)) (SetTable.bits h)).length=pre.length+1+post.length:=by
   show (bL t.mask h).length=_;rw[e,Hl,HV];omega
  rw[el]at q;exact q.trans e
 have hlen:pre.length<10*SetTable.turns t.mask:=by
  have q:=oi t.mask (SetTable.turns t.mask) (SetTable.bits h%(t.mask+1)) (SetTable.bits h)
  have el:(tY t.mask (SetTable.turns t.mask) (SetTable.bits h%(t.mask+1)) (SetTable.bits h)).length=pre.length+1+post.length:=by
   show (bL t.mask h).length=_;rw[e,Hl,HV];omega
  omega
 have occ:∀k∈pre,k∈Z.map (·.1):=fun k hk=>by
  refine IL fun q=>hp k hk (.inl q)
 have hpre:∀k∈pre,∃i,t.slot k=.live i/\hA i≠h:=fun k hk=>by
  obtain⟨z,hzm,ez⟩:=IJ.mp (occ k hk);obtain⟨i,hi⟩:=IP hzm;refine⟨i,ez ▸ T.slot_live hi,fun q=>hp k hk (.inr ⟨z,hzm,ez,?_⟩)⟩;rw[<- hAe i z hi];exact q
 obtain⟨g1,g2⟩:=ot t hA h pre j post (10*SetTable.turns t.mask) (t.probeStart h) hw hlen rfl hpre;by_cases hany:∃z∈Z,z.2.1=h
 ·obtain ⟨z, hzm, ez⟩ := hany;obtain⟨pz,qz,ezz,hoz⟩:=T.reach z hzm;rw[ez]at ezz
  have hjo:j∈Z.map (·.1):=by
   have e2:pre++j::post=pz++z.1::qz:=by rw[<- e,<- ezz]
   rcases List.append_eq_append_iff.mp e2 with⟨a,h1,h2⟩|⟨c,h1,h2⟩
   ·cases a with
    |nil=>
     simp only[HP]at h2;rw[(IE h2).1];exact IQ hzm
    |cons x a=>
     rw[IF]at h2;have:j∈pz:=by rw[h1,(IE h2).1];simp
     exact hoz j this
   ·cases c with
    |nil=>
     simp only[HP]at h2;rw[<- (IE h2).1];exact IQ hzm
    |cons x c=>
     rw[IF]at h2;have:z.1∈pre:=by rw[h1,(IE h2).1];simp
     exact absurd (.inr ⟨z,hzm,rfl,ez⟩) (hp z.1 this)
  rcases hs with q|⟨z',hz',e1,e2⟩
  ·exact absurd hjo q
  ·obtain⟨i,hi⟩:=IP hz';obtain⟨nx,en⟩:=g2 i (e1 ▸ T.slot_live hi) (by rw[hAe i z' hi];exact e2);exact .inl ⟨i,z',nx,hi,e2,by rw[e1];exact en⟩
 ·have hno : ∀ z ∈ Z, z.2.1 ≠ h := fun z hz' e' => hany ⟨z, hz', e'⟩;rcases hs with q|⟨z',hz',e1,e2⟩
  ·have hjm:j<=t.mask:=gC (h:=h) (by rw[e];simp);exact .inr ⟨hno,j,pre,post,g1 (T.slot_empty q),hjm,q,e,occ⟩
  ·exact absurd e2 (hno z' hz')
theorem rS{l:List Nat}{j p:Nat}(h:yl l)(h1:∀x∈l.take p,x<j)(h2:∀x∈l.drop p,j<x):yl (l.take p++j::l.drop p):=by
 unfold yl at *;have h':(l.take p++l.drop p).Pairwise (·<·):=by rw[IR];exact h
 rw[List.pairwise_append]at h'⊢;refine⟨h'.1,IS.mpr ⟨fun x hx=>h2 x hx,h'.2.1⟩,fun a ha b hb=>?_⟩;rcases GE.mp hb with q|q
 ·rw[q];exact h1 a ha
 ·exact h'.2.2 a ha b q
theorem m3.put{t:SetTable}{es:Array (Int×Value)}{Z:List (Nat×Int×Value)}(T:m3 t es Z){j:Nat}{h:Int}{x:Value}{pre post:List Nat}(hj:j<=t.mask)(hn:j∉Z.map (·.1))(e:bL t.mask h=pre++j::post)(hp:∀k∈pre,k∈Z.map (·.1)) :
  ∃Z',m3 (t.put j).1 (SetTable.insertAt es (t.put j).2 (h,x)) Z'/\Z'.Perm ((j,h,x)::Z)/\(t.put j).1={t with place:=SetTable.insertAt t.place (SetTable.below t.place j) j}:=by
 have e1:(t.put j).1={t with place:=SetTable.insertAt t.place (SetTable.below t.place j) j}:=by
  unfold SetTable.put;simp only[T.dum,nC];rw[Gr G6]
 have e2:(t.put j).2=SetTable.below t.place j:=rfl;have r:yl t.place.toList:=by rw[T.place];exact T.ris
 obtain⟨b1,b2,b3⟩:=jn r j;generalize hb:SetTable.below t.place j=p at *;refine⟨Z.take p++(j,h,x)::Z.drop p,⟨?_,?_,?_,fun z hz=>?_,by rw[e1];exact T.dum,fun z hz=>?_⟩,?_,e1⟩
 ·rw[e1];show (SetTable.insertAt t.place p j).toList=_;rw[g9,T.place,IT,HF,IU,IV]
 ·rw[e2,g9,T.ents,IT,HF,IU,IV]
 ·rw [IT, HF, IU, IV];have hlen:t.place.size=(Z.map (·.1)).length:=by rw[<- T.place];simp
  refine rS T.ris (fun y hy=>?_) (fun y hy=>?_)
  ·obtain ⟨i, hi⟩ := IP hy;rw[List.getElem?_take]at hi;split at hi
   ·rename_i hlt;have q:=b2 i hlt;rw[<- T.place,Iu]at hi;simp only[IW,hi,IX]at q;exact q
   ·cases hi
  ·obtain⟨i,hi⟩:=IP hy;rw[List.getElem?_drop]at hi;have hmem:y∈Z.map (·.1):=Hk hi;rw[<- T.place,Iu]at hi;have hlt:p+i<t.place.size:=(IH.mp hi).1;have q:=b3 (p+i) (by omega) hlt;simp only[IW,hi,IX]at q;have:y≠j:=fun ey=>hn (ey ▸ hmem);omega
 ·rw [e1];show z.1<=t.mask;rcases GG.mp hz with q|q
  ·exact T.top z (IY q)
  ·rcases GE.mp q with q | q
   ·rw[q];exact hj
   ·exact T.top z (List.mem_of_mem_drop q)
 ·rw [e1];show ∃pre post,bL t.mask z.2.1=pre++z.1::post/\_
  have sub:∀k∈Z.map (·.1),k∈(Z.take p++(j,h,x)::Z.drop p).map (·.1):=fun k hk=>by
   rw[<- IR p Z,IT]at hk;rw[IT,HF];rcases GG.mp hk with q|q
   ·exact GH _ q
   ·exact G3 _ (GD _ q)
  have old:∀z∈Z,∃pre post,bL t.mask z.2.1=pre++z.1::post/\∀k∈pre,k∈(Z.take p++(j,h,x)::Z.drop p).map (·.1):=fun z hz=>by
   obtain⟨a,b,c,d⟩:=T.reach z hz;exact⟨a,b,c,fun k hk=>sub k (d k hk)⟩
  rcases GG.mp hz with q|q
  ·exact old z (IY q)
  ·rcases GE.mp q with q | q
   ·rw[q];exact⟨pre,post,e,fun k hk=>sub k (hp k hk)⟩
   ·exact old z (List.mem_of_mem_drop q)
 ·have q:(Z.take p++(j,h,x)::Z.drop p).Perm ((j,h,x)::(Z.take p++Z.drop p)):=List.perm_middle;rw[IR]at q;exact q
theorem nF(mask:Nat)(owner:Array (Option Nat)):∀(n i pe:Nat),
  SetTable.layClean.free mask owner n i pe=(tY mask n i pe).find? fun j=>(owner.getD j (some 0)).isNone
 |0,_,_=>rfl
 |n+1,i,pe=>by
  show (match (List.range (SetTable.runEnd mask i+1-i)).find? fun k=>(owner.getD (i+k) (some 0)).isNone with|some k=>_|none=>_)=_;show _=((List.range (SetTable.runEnd mask i+1-i)).map (i+·)++tY mask n (SetTable.leap mask i pe).1 (SetTable.leap mask i pe).2).find? _;rw[List.find?_append,List.find?_map,<- nF mask owner n];have ec:((fun j=>(owner.getD j (some 0)).isNone) ∘ fun x=>i+x)=fun k=>(owner.getD (i+k) (some 0)).isNone:=rfl;rw[ec];cases (List.range (SetTable.runEnd mask i+1-i)).find? fun k=>(owner.getD (i+k) (some 0)).isNone with
  |some k=>rfl
  |none=>rfl
structure A4(mask:Nat)(hs:List Int)(owner:Array (Option Nat)):Prop where
 size:owner.size=mask+1
 all:∀(i:Nat)(h:Int),hs[i]?=some h->∃j:Nat,j<=mask/\owner[j]?=some (some i)/\∃pre post,bL mask h=pre++j::post/\∀k∈pre,∃i':Nat,owner[k]?=some (some i')
 lt:∀(j i:Nat),owner[j]?=some (some i)->i<hs.length
 inj:∀(j j' i:Nat),owner[j]?=some (some i)->owner[j']?=some (some i)->j=j'
theorem zG(mask:Nat):A4 mask [] (Array.replicate (mask+1) none):=by
 have hno:∀(j i:Nat),(Array.replicate (mask+1) (none:Option Nat))[j]?≠some (some i):=fun j i e=>by
  rw[Array.getElem?_replicate]at e;split at e <;> cases e
 exact⟨by simp,fun i h e=>by simp at e,fun j i e=>absurd e (hno j i),fun j j' i e=>absurd e (hno j i)⟩
theorem xM{mask:Nat}{hs:List Int}{owner:Array (Option Nat)}(O:A4 mask hs owner)(hl:hs.length<=mask):∃j,j<=mask/\owner[j]?=some none:=by
 refine IL fun hn=>?_
 have hall:∀j,j<=mask->∃i,owner[j]?=some (some i):=fun j hj=>by
  have hs':j<owner.size:=by rw[O.size];omega
  cases e:owner[j]? with
  |none=>rw[IZ]at e;omega
  |some o=>
   cases o with
   |none=>exact absurd ⟨j,hj,e⟩ hn
   |some i=>exact⟨i,rfl⟩
 have key:∀n,n<=mask+1->∃l:List Nat,l.length=n/\l.Nodup/\(∀i∈l,i<hs.length)/\∀i∈l,∃j,j<n/\owner[j]?=some (some i):=by
  intro n
  induction n with
  |zero=>exact fun _=>⟨[],rfl,I0,fun _ h=>by simp at h,fun _ h=>by simp at h⟩
  |succ n ih=>
   intro hn';obtain⟨l,h1,h2,h3,h4⟩:=ih (by omega);obtain⟨i,hi⟩:=hall n (by omega);refine⟨i::l,by rw[HV,h1],Hc.mpr ⟨fun hm=>?_,h2⟩,fun x hx=>?_,fun x hx=>?_⟩
   ·obtain⟨j,hj,ej⟩:=h4 i hm;have:=O.inj j n i ej hi;omega
   ·rcases GE.mp hx with q | q
    ·rw[q];exact O.lt n i hi
    ·exact h3 x q
   ·rcases GE.mp hx with q | q
    ·rw[q];exact⟨n,by omega,hi⟩
    ·obtain⟨j,hj,ej⟩:=h4 x q;exact⟨j,by omega,ej⟩
 obtain⟨l,h1,h2,h3,_⟩:=key (mask+1) (G0 _);have:=gy h2 (l2:=List.range hs.length) (fun x hx=>Gy.mpr (h3 x hx));rw[IC,h1]at this;omega
theorem xK{mask:Nat}{hs:List Int}{owner:Array (Option Nat)}{h:Int}(O:A4 mask hs owner)(hl:hs.length<=mask)(cov:∀j,j<=mask->j∈bL mask h) :
  ∃j,SetTable.layClean.free mask owner (SetTable.turns mask) (SetTable.bits h%(mask+1)) (SetTable.bits h)=some j/\A4 mask (hs++[h]) (owner.setIfInBounds j (some hs.length)):=by
 obtain⟨j0,hj0,e0⟩:=xM O hl
 have none_iff:∀j,((owner.getD j (some 0)).isNone=true)↔owner[j]?=some none:=fun j=>by
  rw[IW];cases owner[j]? with
  |none=>simp
  |some o=>cases o <;> simp
 obtain⟨pre,j,post,e,hs',hp⟩:=gY (fun j=>owner[j]?=some none) (bL mask h) ⟨j0,cov j0 hj0,e0⟩;have hjm:j<=mask:=gC (h:=h) (by rw[e];simp);have hjs:j<owner.size:=by rw[O.size];omega
 have hocc:∀k∈pre,∃i',owner[k]?=some (some i'):=fun k hk=>by
  have hkm:k<=mask:=gC (h:=h) (by rw[e];simp[hk]);cases q:owner[k]? with
  |none=>
   rw[IZ,O.size]at q;omega
  |some o=>
   cases o with
   |none=>exact absurd q (hp k hk)
   |some i=>exact⟨i,rfl⟩
 have hset:∀k,(owner.setIfInBounds j (some hs.length))[k]?=if j=k then some (some hs.length) else owner[k]?:=fun k=>by
  rw[Array.getElem?_setIfInBounds];by_cases q:j=k
  ·rw[Gq q,Gq q,Gq hjs]
  ·rw[Gr q,Gr q]
 have keep:∀k i',owner[k]?=some (some i')->(owner.setIfInBounds j (some hs.length))[k]?=some (some i'):=fun k i' q=>by
  rw[hset,Gr]
  ·exact q
  ·intro ej;rw[<- ej,hs']at q;cases q
 refine⟨j,?_,by simp[O.size],fun i h' ei=>?_,fun k i ei=>?_,fun k k' i e1 e2=>?_⟩
 ·rw [nF];show (bL mask h).find? _=some j;rw[e,List.find?_append]
  have e1:pre.find? (fun j=>(owner.getD j (some 0)).isNone)=none:=by
   rw[List.find?_eq_none];intro k hk q;exact hp k hk ((none_iff k).mp q)
  simp only[e1,Option.none_or,List.find?_cons,(none_iff j).mpr hs']
 ·by_cases hi : i < hs.length
  ·rw[Hi hi]at ei;obtain⟨j',a1,a2,pr,po,a3,a4⟩:=O.all i h' ei;exact⟨j',a1,keep j' i a2,pr,po,a3,fun k hk=>(a4 k hk).elim fun i' q=>⟨i',keep k i' q⟩⟩
  ·have hi':i=hs.length:=by
    have:=(GI.mp ei).1;simp at this;omega
   subst hi';rw[Hh (G0 _),Ja]at ei;have eh:h=h':=by simpa using ei
   subst eh;exact⟨j,hjm,by rw[hset,Gq rfl],pre,post,e,fun k hk=>(hocc k hk).elim fun i' q=>⟨i',keep k i' q⟩⟩
 ·rw [hset] at ei;rw[Hl,HN];split at ei
  ·cases ei;omega
  ·have:=O.lt k i ei;omega
 ·rw [hset] at e1 e2;split at e1
  ·rename_i q1;cases e1;split at e2
   ·rename_i q2;rw[<- q1,q2]
   ·have:=O.lt k' _ e2;omega
  ·split at e2
   ·cases e2;have:=O.lt k _ e1;omega
   ·exact O.inj k k' i e1 e2
theorem pY{mask:Nat}:∀(hs0 hs1:List Int)(owner:Array (Option Nat)),A4 mask hs0 owner->hs0.length+hs1.length<=mask+1->(∀h∈hs1,∀j,j<=mask->j∈bL mask h) ->
  ∃owner',hs1.foldl (fun(acc:Option (Array (Option Nat)×Nat)) h=>do
   let (owner,k) <- acc
   let j <- SetTable.layClean.free mask owner (SetTable.turns mask) (SetTable.bits h%(mask+1)) (SetTable.bits h)
   pure (owner.setIfInBounds j (some k),k+1)) (some (owner,hs0.length))=some (owner',(hs0++hs1).length)/\A4 mask (hs0++hs1) owner'
 |hs0,[],owner,O,_,_=>⟨owner,by simp,by simpa using O⟩
 |hs0,h::hs1,owner,O,hl,cov=>by
  rw[HV]at hl;obtain⟨j,ej,O'⟩:=xK (h:=h) O (by omega) (cov h GC);obtain⟨ow,e1,e2⟩:=pY (hs0++[h]) hs1 _ O' (by rw[Hl,HN];omega) (fun x hx=>cov x (GD _ hx));rw[HK,List.singleton_append]at e1 e2;refine⟨ow,?_,e2⟩;rw[HL];show List.foldl _ ((SetTable.layClean.free mask owner (SetTable.turns mask) (SetTable.bits h%(mask+1)) (SetTable.bits h)).bind fun j=>some (owner.setIfInBounds j (some hs0.length),hs0.length+1)) hs1=_;rw[ej];show List.foldl _ (some (owner.setIfInBounds j (some hs0.length),hs0.length+1)) hs1=_;rw[Hl,HN]at e1;exact e1
theorem pU{α:Type}:∀l:List α,(List.range l.length).filterMap (fun i=>l[i]?)=l
 |[]=>rfl
 |a::l=>by
  rw[HV,Iy,GB];show a::List.filterMap _ _=_;rw[List.filterMap_map];show a::List.filterMap (fun i=>l[i]?) _=_;rw[pU l]
theorem z6{mask:Nat}{hs:List Int}(hl:hs.length<=mask+1)(cov:∀h∈hs,∀j,j<=mask->j∈bL mask h):∃owner,SetTable.layClean mask hs.toArray=some owner/\A4 mask hs owner:=by
 obtain⟨ow,e1,e2⟩:=pY [] hs _ (zG mask) (by rw[ID,Nat.zero_add];exact hl) cov;refine⟨ow,?_,by simpa using e2⟩;unfold SetTable.layClean;rw[List.foldl_toArray']
 ·show Option.map (·.1) (hs.foldl _ (some (Array.replicate (mask+1) none,([]:List Int).length)))=_;rw[e1];rfl
 ·simp
theorem mj{t:SetTable}{es:Array (Int×Value)}{wanted mask:Nat}(hm:SetTable.sizeAbove wanted-1=mask)(hl:es.size<=mask)(cov:∀e∈es.toList,∀j,j<=mask->j∈bL mask e.1) :
  ∃t' order Z',t.relaid (es.map (·.1)) wanted=some (t',order)/\m3 t' (order.filterMap (es[·]?)) Z'/\(Z'.map (·.2)).Perm es.toList/\t'.mask=mask/\t'.led=t.led/\t'.plain=t.plain/\order.toList.Perm (List.range es.size):=by
 have ea:es.map (·.1)=(es.toList.map (·.1)).toArray:=by rw[<- Jb]
 obtain⟨ow,e1,O⟩:=z6 (mask:=mask) (hs:=es.toList.map (·.1)) (by simp;omega) (fun h hh=>by
  obtain⟨e,he,q⟩:=IJ.mp hh
  rw[<- q];exact cov e he)
 let live:List (Nat×Nat):=(List.range (mask+1)).filterMap fun j=>(ow.getD j none).map (j,·)
 have hlive:∀j i,(j,i)∈live↔(j<=mask/\ow[j]?=some (some i)):=fun j i=>by
  simp only[live,G2,Gy];constructor
  ·rintro ⟨k, hk, q⟩
   rw[IW]at q;cases e:ow[k]? with
   |none=>rw[e]at q;cases q
   |some o=>
    rw[e]at q;cases o with
    |none=>cases q
    |some i'=>
     simp only[IX,Option.map_some,Option.some.injEq,Prod.mk.injEq]at q;obtain⟨q1,q2⟩:=q;subst q1;subst q2;exact⟨by omega,e⟩
  ·rintro ⟨hj, e⟩
   refine⟨j,by omega,?_⟩;rw[IW,e];rfl
 have hfst:(live.map (·.1)).Pairwise (·<·):=by
  have gen:∀(l:List Nat),l.Pairwise (·<·)->((l.filterMap fun j=>(ow.getD j none).map (j,·)).map (·.1)).Pairwise (·<·)/\∀x∈((l.filterMap fun j=>(ow.getD j none).map (j,·)).map (·.1)),x∈l:=by
   intro l
   induction l with
   |nil=>intro _;exact⟨List.Pairwise.nil,fun x hx=>by simp at hx⟩
   |cons a l ih=>
    intro hp;obtain⟨h1,h2⟩:=IS.mp hp;obtain⟨i1,i2⟩:=ih h2;rw[GB];cases q:(ow.getD a none).map (a,·) with
    |none=>exact⟨i1,fun x hx=>GD _ (i2 x hx)⟩
    |some p=>
     have ep:p.1=a:=by
      cases hq:ow.getD a none with
      |none=>rw[hq]at q;cases q
      |some i=>rw[hq]at q;cases q;rfl
     show (p.1::List.map _ _).Pairwise _/\∀x∈p.1::List.map _ _,x∈a::l;rw[ep]
     exact⟨IS.mpr ⟨fun x hx=>h1 x (i2 x hx),i1⟩,fun x hx=>by
      rcases GE.mp hx with z|z
      ·rw[z];exact GC
      ·exact GD _ (i2 x z)⟩
  exact(gen _ List.pairwise_lt_range).1
 have hnd:live.Nodup:=by
  have:=hfst.imp (fun h=>Gw h);exact List.Pairwise.of_map (·.1) (fun a b h e=>h (by rw[e])) this
 have hsz:∀j i,(j,i)∈live->i<es.size:=fun j i h=>by
  have:=O.lt j i ((hlive j i).mp h).2;simpa using this
 have hsnd:(live.map (·.2)).Perm (List.range es.size):=by
  refine(List.perm_ext_iff_of_nodup ?_ IM).mpr fun i=>?_
  ·refine List.Pairwise.map _ (fun a b h=>?_) (List.Pairwise.and_mem.mp hnd);obtain⟨ha,hb,hne⟩:=h;intro e;have q1:=((hlive a.1 a.2).mp ha).2;have q2:=((hlive b.1 b.2).mp hb).2;rw[<- e]at q2;exact hne (Prod.ext (O.inj _ _ _ q1 q2) e)
  ·rw [Gy, IJ];constructor
   ·rintro⟨p,hp,e⟩;rw[<- e];exact hsz p.1 p.2 hp
   ·intro hi;obtain⟨j,hj,q,_⟩:=O.all i (es[i].1) (by rw[Hj,Iu,Jc hi];rfl);exact⟨(j,i),(hlive j i).mpr ⟨hj,q⟩,rfl⟩
 let Z':List (Nat×Int×Value):=live.filterMap fun p=>(es[p.2]?).map fun e=>(p.1,e)
 have hZ1:Z'.map (·.1)=live.map (·.1):=by
  have gen:∀l:List (Nat×Nat),(∀p∈l,p.2<es.size)->(l.filterMap fun p=>(es[p.2]?).map fun e=>(p.1,e)).map (·.1)=l.map (·.1):=by
   intro l
   induction l with
   |nil=>intro _;rfl
   |cons p l ih=>
    intro h;rw[GB,Jc (h p GC)];show p.1::List.map _ _=p.1::List.map _ _;rw[ih fun q hq=>h q (GD _ hq)]
  exact gen live fun p hp=>hsz p.1 p.2 hp
 have hZ2:Z'.map (·.2)=(live.map (·.2)).filterMap (es[·]?):=by
  have gen:∀l:List (Nat×Nat),(l.filterMap fun p=>(es[p.2]?).map fun e=>(p.1,e)).map (·.2)=(l.map (·.2)).filterMap (es[·]?):=by
   intro l
   induction l with
   |nil=>rfl
   |cons p l ih=>
    rw[GB,HF,GB];cases es[p.2]? with
    |none=>exact ih
    |some e=>show e::List.map _ _=e::_;rw[ih]
  exact gen live
 have hes:(List.range es.size).filterMap (es[·]?)=es.toList:=by
  have q:=pU es.toList;rw[GO]at q;simpa only[Iu] using q
 refine⟨{mask,place:=(live.map (·.1)).toArray,dummies:=#[],finger:=t.finger,led:=t.led,moves:=t.movedTo mask,plain:=t.plain},(live.map (·.2)).toArray,Z',?_,⟨?_,?_,?_,fun z hz=>?_,rfl,fun z hz=>?_⟩,?_,rfl,rfl,rfl,hsnd⟩
 ·unfold SetTable.relaid SetTable.laid;rw[hm,ea,e1];rfl
 ·show (live.map (·.1))=_;rw[hZ1]
 ·rw[hZ2];simp
 ·rw[hZ1];exact hfst
 ·have : z.1 ∈ live.map (·.1) := by rw [<- hZ1]; exact IQ hz
  obtain⟨p,hp,q⟩:=IJ.mp this;rw[<- q];exact((hlive p.1 p.2).mp hp).1
 ·obtain⟨p,hp,q⟩:=G2.mp hz;rw[Jc (hsz p.1 p.2 hp)]at q;have ez:z=(p.1,es[p.2]'(hsz p.1 p.2 hp)):=(Gj q).symm;obtain⟨hj,ho⟩:=(hlive p.1 p.2).mp hp;obtain⟨j,a1,a2,pre,post,a3,a4⟩:=O.all p.2 (es[p.2]'(hsz p.1 p.2 hp)).1 (by rw[Hj,Iu,Jc (hsz p.1 p.2 hp)];rfl);have ejp:j=p.1:=O.inj _ _ _ a2 ho;refine⟨pre,post,by rw[ez];rw[ejp]at a3;exact a3,fun k hk=>?_⟩;obtain⟨i',hi'⟩:=a4 k hk;rw[hZ1];have hkm:k<=mask:=gC (h:=(es[p.2]'(hsz p.1 p.2 hp)).1) (by rw[a3];simp[hk]);exact IJ.mpr ⟨(k,i'),(hlive k i').mpr ⟨hkm,hi'⟩,rfl⟩
 ·rw[hZ2,<- hes];exact hsnd.filterMap _
def prs:List (List Int):=((List.range 36).filter fun n=>n / 6<n%6).map fun n=>[((n / 6:Nat):Int),((n%6:Nat):Int)]
def hsh(ks:List Int):Int:=reduceHash (Builtin.Tuple.tupleHashOf (ks.map hashInt))
theorem C9{prog:Program}{w:World}(ks:List Int):tupleKeyHash (intKind prog w) ks=hsh ks:=rfl
def Bf(mask:Nat):Bool:=prs.all fun ks=>(List.range (mask+1)).all fun j=>(bL mask (hsh ks)).contains j
theorem FR:Bf 7=true:=by decide +kernel
theorem AV:Bf 31=true:=by decide +kernel
theorem EC:(prs.map hsh).Nodup:=by decide +kernel
theorem tq:prs.length=15:=by decide +kernel
theorem rA{mask:Nat}(h:Bf mask=true){ks:List Int}(hk:ks∈prs):∀j,j<=mask->j∈bL mask (hsh ks):=fun j hj=>by
 have a:=Jd.mp h ks hk;have b:=Jd.mp a j (Gy.mpr (by omega));simpa using b
theorem C6{l:List (List Int)}(h:(l.map hsh).Nodup){a b:List Int}(ha:a∈l)(hb:b∈l)(e:hsh a=hsh b):a=b:=by
 induction l with
 |nil=>simp at ha
 |cons c l ih=>
  rw[HF]at h;obtain⟨h1,h2⟩:=Hc.mp h;rcases GE.mp ha with qa|qa <;> rcases GE.mp hb with qb|qb
  ·rw[qa,qb]
  ·exact absurd (by rw[<- qa,e];exact IQ qb) h1
  ·exact absurd (by rw[<- qb,<- e];exact IQ qa) h1
  ·exact ih h2 qa qb
theorem Ad{a b:List Int}(ha:a∈prs)(hb:b∈prs)(e:hsh a=hsh b):a=b:=C6 EC ha hb e
theorem tp{a b:Int}(h1:0<=a)(h2:a<b)(h3:b<6):[a,b]∈prs:=by
 have key:∀x:Nat,x<6->∀y:Nat,y<6->x<y->[(x:Int),(y:Int)]∈prs:=by decide +kernel
 have:=key a.toNat (by omega) b.toNat (by omega) (by omega);rw[Int.toNat_of_nonneg h1,Int.toNat_of_nonneg (by omega)]at this;exact this
end RS
namespace RS
open PySem PyProof.Rows
abbrev KP:=List Int×Addr
structure cT(w:World)(h:Heap)(a:Addr)(qs:List (Int×Value))(o:Obj)(es:Array (Int×Value))(ep:Nat)(t:SetTable)(Z:List (Nat×Int×Value)):Prop where
 ho:h.get? a=some o
 ex:o.ExactSet
 hd:o.data=.set es ep t
 tab:m3 t es Z
 plain:t.plain=true
 led:t.led=!w.params.followText "set-order"
 big:(t.mask=7/\Z.length<=4)\/(t.mask=31/\Z.length<=18)
 perm:(Z.map (·.2)).Perm qs
def qU(p:KP):Int×Value:=(hsh p.1,Value.ref p.2)
def dw(w:World)(h:Heap)(a:Addr)(ps:List KP):Prop:=∃o es ep t Z,cT w h a (ps.map qU) o es ep t Z/\(∀p∈ps,p.1∈prs)/\(ps.map (·.1)).Nodup
theorem cT.len{w:World}{h:Heap}{a:Addr}{ps:List (Int×Value)}{o es ep t Z}(S:cT w h a ps o es ep t Z):Z.length=ps.length:=by
 have:=S.perm.length_eq;simpa using this
theorem iK{ps:List KP}(hk:∀p∈ps,p.1∈prs)(hn:(ps.map (·.1)).Nodup):ps.length<=15:=by
 have:=gy hn (l2:=prs) (fun x hx=>by obtain⟨p,hp,e⟩:=IJ.mp hx;rw[<- e];exact hk p hp);rw[Hm,tq]at this;exact this
theorem cT.fits{w:World}{h:Heap}{a:Addr}{ps:List (Int×Value)}{o es ep t Z}(S:cT w h a ps o es ep t Z):t.fits es.size=true:=by
 unfold SetTable.fits;rw[S.tab.fill,S.tab.size.1,S.tab.size.2];rcases S.big with⟨h1,h2⟩|⟨h1,h2⟩ <;> simp[h1] <;> omega
theorem cT.cov{w:World}{h:Heap}{a:Addr}{ps:List (Int×Value)}{o es ep t Z}(S:cT w h a ps o es ep t Z){k:List Int}(hk:k∈prs):∀j,j<=t.mask->j∈bL t.mask (hsh k):=by
 rcases S.big with⟨h1,h2⟩|⟨h1,h2⟩ <;> rw[h1]
 ·exact rA FR hk
 ·exact rA AV hk
theorem dw.keeps{w:World}{h h':Heap}{a:Addr}{ps:List KP}(S:dw w h a ps)(k:∀o,h.get? a=some o->h'.get? a=some o):dw w h' a ps:=by
 obtain⟨o,es,ep,t,Z,S,hk,hn⟩:=S;exact⟨o,es,ep,t,Z,⟨k o S.ho,S.ex,S.hd,S.tab,S.plain,S.led,S.big,S.perm⟩,hk,hn⟩
section
variable{prog:Program}{w:World}{A:Around}{E:Value->Shared->Prop}{s:Shared}
abbrev Tk(prog:Program)(w:World)(h:Heap)(k:List Int)(r:Addr):Prop:=IsTupleKey (intKind prog w) h k r
theorem items_int{k:List Int}{vs:List Value}(h:ItemsAre (intKind prog w) k vs):∀v∈vs,∃i t,v=.int i t:=by
 induction h with
 |nil=>intro v hv;simp at hv
 | @cons k v' ks vs h1 _ ih=>
  intro v hv;rcases GE.mp hv with q|q
  ·obtain⟨t,e⟩:=Gk (k:=k) (v:=v') h1;exact⟨k,t,by rw[q,e]⟩
  ·exact ih v q
theorem pZ{k:List Int}{r:Addr}{Q:Bool->Shared->Prop}(hk:Tk prog w s.heap k r)(h:Q false s):wpAny (model prog w) A (ofAClassStatement 8 (.ref r)) Q E s:=by
 have hT:=hk.typeIs;obtain⟨o,items,n,ho,hc,hd,hi⟩:=hk;unfold ofAClassStatement;refine GR (HB hT ?_);dsimp only;simp only[HS,Hv];refine GR (GV ?_);simp only[Je,HU,Hu];refine GR (Il ho hd ?_);dsimp only;refine GR ?_;show wpAny _ _ (forIn items _ _) _ _ s;rw[<- Array.forIn_toList];refine Jf _ (fun rest r s'=>r.1=none/\s'=s/\∀v∈rest,∃i t,v=.int i t) _ ?_ ?_ _ _ ⟨rfl,rfl,items_int hi⟩
 ·rintro v rest r s' ⟨hr, rfl, hall⟩
  obtain⟨i,t,e⟩:=hall v GC;subst e;unfold ofAClassStatement;refine GR (GV ?_);simp only[HU,Hu];exact GV ⟨rfl,rfl,fun u hu'=>hall u (GD _ hu')⟩
 ·rintro ⟨r1, r2⟩ s' ⟨hr, rfl, _⟩
  simp only at hr;subst hr;exact GV h
theorem mW{k:List Int}{r:Addr}{Q:Bool->Shared->Prop}(hk:Tk prog w s.heap k r)(h:Q true s):wpAny (model prog w) A (hashByValue 8 (.ref r)) Q E s:=by
 have hT:=hk.typeIs;obtain⟨o,items,n,ho,hc,hd,hi⟩:=hk;unfold hashByValue;refine GR (wpAny_specialOf hT F.slot_tuple_hash.lookup ?_);dsimp only;refine GR (Il ho hd ?_);refine GR ?_;show wpAny _ _ (forIn items _ _) _ _ s;rw[<- Array.forIn_toList];refine Jf _ (fun rest r s'=>r.1=none/\s'=s/\∀v∈rest,∃i t,v=.int i t) _ ?_ ?_ _ _ ⟨rfl,rfl,items_int hi⟩
 ·rintro v rest r s' ⟨hr, rfl, hall⟩
  obtain⟨i,t,e⟩:=hall v GC;subst e;unfold hashByValue;refine GR (GV ?_);simp only[Je,HU,Hu];exact GV ⟨rfl,rfl,fun u hu'=>hall u (GD _ hu')⟩
 ·rintro ⟨r1, r2⟩ s' ⟨hr, rfl, _⟩
  simp only at hr;subst hr;exact GV h
theorem xQ{k:List Int}{r:Addr}{ys:List Value}{Q:Bool->Shared->Prop}(hk:Tk prog w s.heap k r)(hy:∀y∈ys,∃k' r',y=.ref r'/\Tk prog w s.heap k' r')(h:Q false s):wpAny (model prog w) A (searchCouldBeSeen (.ref r) ys) Q E s:=by
 unfold searchCouldBeSeen;refine GR ?_;refine Jf _ (fun rest r' s'=>r'.1=none/\s'=s/\∀y∈rest,∃k' r',y=.ref r'/\Tk prog w s.heap k' r') _ ?_ ?_ _ _ ⟨rfl,rfl,hy⟩
 ·rintro v rest q s' ⟨hr, rfl, hall⟩
  obtain⟨k',r',e,hk'⟩:=hall v GC;subst e;have hrest:=fun u hu'=>hall u (GD _ hu');dsimp only;by_cases hv:(r == r' || carriedByValue (Value.ref r)&&carriedByValue (Value.ref r'))=true
  ·rw[Gq hv];exact GV ⟨rfl,rfl,hrest⟩
  ·rw[Gr hv];refine GR (wpAny_eqIsQuiet_tuple hk ?_);simp only[Je,HU,Hu];refine GR (wpAny_eqIsQuiet_tuple hk' ?_);simp only[Je,HU,Hu];refine GR (pZ hk ?_);simp only[HU,Hu];refine GR (pZ hk' ?_);simp only[HU,Hu];exact GV ⟨rfl,rfl,hrest⟩
 ·rintro ⟨r1, r2⟩ s' ⟨hr, rfl, _⟩
  simp only at hr;subst hr;exact GV h
end
end RS
namespace RS
open PySem PyProof.Rows
section
variable{prog:Program}{w:World}{A:Around}{E:Value->Shared->Prop}{s:Shared}
theorem wO{h:Heap}{a:Addr}{ps:List KP}{o es ep t Z}(S:cT w h a (ps.map qU) o es ep t Z){z:Nat×Int×Value}(hz:z∈Z):∃p∈ps,z.2=(hsh p.1,Value.ref p.2):=by
 have:z.2∈Z.map (·.2):=IQ hz;obtain⟨p,hp,e⟩:=IJ.mp (S.perm.mem_iff.mp this);exact⟨p,hp,e.symm⟩
theorem Dh{h:Heap}{a:Addr}{ps:List KP}{o es ep t Z}(S:cT w h a (ps.map qU) o es ep t Z){p:KP}(hp:p∈ps):∃z∈Z,z.2=(hsh p.1,Value.ref p.2):=by
 have:qU p∈ps.map qU:=IQ hp;obtain⟨z,hz,e⟩:=IJ.mp (S.perm.mem_iff.mpr this);exact⟨z,hz,e⟩
theorem uh{a r:Addr}{k:List Int}{ps:List KP}{o es ep t Z}{Q:SetFound->Shared->Prop}(S:cT w s.heap a (ps.map qU) o es ep t Z)(hks:∀p∈ps,p.1∈prs)(hk:k∈prs)(hr:Tk prog w s.heap k r)(hps:∀p∈ps,Tk prog w s.heap p.1 p.2)(hu:A.units<cLine)
  (h1:k∈ps.map (·.1)->Q (.there none) s)
  (h2:k∉ps.map (·.1)->∀j pre post,j<=t.mask->j∉Z.map (·.1)->bL t.mask (hsh k)=pre++j::post->(∀x∈pre,x∈Z.map (·.1))->Q (.free j false) s) :
  wpAny (model prog w) A (setSearch a (.ref r) (hsh k) true) Q E s:=by
 have hodd:t.gaveWay=false:=by
  unfold SetTable.gaveWay;rcases S.big with⟨q,_⟩|⟨q,_⟩ <;> rw[q] <;> decide
 have hz:Z.length<=t.mask:=by rcases S.big with⟨q,q2⟩|⟨q,q2⟩ <;> omega
 unfold setSearch setSearchFrom;refine GR (Jg S.ho S.hd S.fits ?_);dsimp only;rw[hodd];simp only[HU,Hu];generalize hpr:SetTable.probe t _ (hsh k) (Option.getD none (t.probeStart (hsh k)))=pr
 have key:∀(hA:Nat->Int) pr,(∀i z,Z[i]?=some z->hA i=z.2.1)->t.probe hA (hsh k) (t.probeStart (hsh k))=pr ->
   (∃i z nx,Z[i]?=some z/\z.2.1=hsh k/\pr=some (.candidate z.1 i nx)) \/
   ((∀z∈Z,z.2.1≠hsh k)/\∃j pre post,pr=some (.empty j none)/\j<=t.mask/\j∉Z.map (·.1)/\bL t.mask (hsh k)=pre++j::post/\∀x∈pre,x∈Z.map (·.1)):=fun hA pr hAe e=>by
  subst e;exact S.tab.search (S.cov hk) hz hA hAe
 rcases key _ pr (fun i z hi=>by show (Option.map (·.1) es[i]?).getD 0=_;rw[S.tab.hashAt hi];rfl) hpr with⟨i,z,nx,hi,ez,e⟩|⟨hno,j,pre,post,e,hj,hn,e2,hp⟩
 ·subst e;dsimp only;have hzm:z∈Z:=Hk hi;obtain⟨p,hp,ep'⟩:=wO S hzm;have ek:p.1=k:=Ad (hks p hp) hk (by rw[<- ez,ep']);have hin:k∈ps.map (·.1):=by rw[<- ek];exact IQ hp
  have rest:wpAny (model prog w) A (do
    let some (_,y):=es[i]? | unsupported "internal:set-entry"
    let equal <- holding [y] (eqBool y (.ref r))
    let (es',_,t') <- setState a
    if true&&equal then return SetFound.there none
    let some same:=t'.sameMemory t.moves t.mask|unsupported "set.changed-during-lookup:is-the-new-block-at-the-old-address"
    let still <- match (if same then t'.slot z.1 else .empty) with
     |.live i'=>match es'[i']? with
      |some (_,y')=>do pure (if <- isSame y' y then some i' else none)
      |none=>pure none
     |_=>pure none
    match still with
    |none=>rule "set.search.anew";setSearchFrom a (.ref r) (hsh k) true 99999 none
    |some i'=>if equal then return .there (some i') else setSearchFrom a (.ref r) (hsh k) true 99999 (some nx)) Q E s:=by
   rw[S.tab.hashAt hi,ep'];dsimp only;refine GR (GS (wpAny_eqBool_tuple hu (hps p hp) hr ?_));refine GR (Jg S.ho S.hd S.fits ?_);dsimp only;rw[ek,HQ rfl];simp only[Jh,Hv];exact GV (h1 hin)
  by_cases hl:(!t.led)=true
  ·rw [Gq hl];refine GR (xQ hr (fun y hy=>?_) ?_)
   ·obtain ⟨e', he', q⟩ := IJ.mp hy
    have he2:e'∈es.toList:=by
     have:=Array.mem_filter.mp (Ji.mp he');exact Ji.mpr this.1
    rw[S.tab.ents]at he2;obtain⟨z',hz',q2⟩:=IJ.mp he2;obtain⟨p',hp',q3⟩:=wO S hz';exact⟨p'.1,p'.2,by rw[<- q,<- q2,q3],hps p' hp'⟩
   ·simp only[HU,Hu];exact rest
  ·rw[Gr hl];exact rest
 ·subst e;dsimp only;refine GV (h2 (fun hin=>?_) j pre post hj hn e2 hp);obtain⟨p,hpm,ek⟩:=IJ.mp hin;obtain⟨z,hzm,ez⟩:=Dh S hpm;exact hno z hzm (by rw[ez,<- ek])
end
end RS
namespace RS
open PySem PyProof.Rows
def jB(ps:List KP)(k:List Int)(r:Addr):List KP:=if k∈ps.map (·.1) then ps else ps++[(k,r)]
section
variable{prog:Program}{w:World}{A:Around}{E:Value->Shared->Prop}{s:Shared}
theorem Bn{a r:Addr}{k:List Int}{ps:List KP}{Q:Bool->Shared->Prop}(S:dw w s.heap a ps)(hk:k∈prs)(hr:Tk prog w s.heap k r)(hps:∀p∈ps,Tk prog w s.heap p.1 p.2)(hu:A.units<cLine)
  (h:∀b h',Heap.SameBut a s.heap h'->dw w h' a (jB ps k r)->Q b {s with heap:=h'}):wpAny (model prog w) A (setAddHashed a (.ref r) (hsh k)) Q E s:=by
 obtain⟨o,es,ep,t,Z,S,hk0,hn0⟩:=S;unfold setAddHashed setAddHashedIn;refine GS (GR (Jg S.ho S.hd S.fits ?_));dsimp only;have hsc:byScan (Value.ref r) es=false:=rfl;rw[hsc];simp only[HU,Hu];refine GR (uh S hk0 hk hr hps hu (fun hin=>?_) fun hin j pre post hj hn e hp=>?_)
 ·dsimp only;refine GV ?_;have q:=h false s.heap (Heap.SameBut.refl a s.heap) (by unfold jB;rw[Gq hin];exact⟨o,es,ep,t,Z,S,hk0,hn0⟩);cases s;exact q
 ·dsimp only;refine GR (Jg S.ho S.hd S.fits ?_);dsimp only;obtain⟨Z',T',hperm,et⟩:=S.tab.put (x:=Value.ref r) hj hn e hp;have e2:(t.put j).2=SetTable.below t.place j:=rfl;have hpl:(t.put j).1.plain=true:=by rw[et];exact S.plain
  have hled:(t.put j).1.led=t.led:=by rw[et]
  have hmask:(t.put j).1.mask=t.mask:=by rw[et]
  have hperm':(Z'.map (·.2)).Perm ((ps++[(k,r)]).map qU):=by
   have q1:=hperm.map (·.2);refine q1.trans ?_;rw[HF,IT];refine List.Perm.trans (List.Perm.cons _ S.perm) ?_;exact(List.perm_append_singleton _ _).symm
  have hkeys:∀p∈ps++[(k,r)],p.1∈prs:=fun p hp'=>by
   rcases GG.mp hp' with q|q
   ·exact hk0 p q
   ·rw[Ih]at q;rw[q];exact hk
  have hnd:((ps++[(k,r)]).map (·.1)).Nodup:=by
   rw[IT];refine Jj.mpr ⟨hn0,by simp,fun x hx y hy=>?_⟩;simp at hy;rw[hy];rintro rfl;exact hin hx
  have hlen15:=iK hkeys hnd;have hZ':Z'.length=ps.length+1:=by rw[hperm.length_eq,HV,S.len,Hm]
  have hesz:(SetTable.insertAt es (t.put j).2 (hsh k,Value.ref r)).size=Z'.length:=T'.size.2;have hadd:jB ps k r=ps++[(k,r)]:=by unfold jB;rw[Gr hin]
  rw[hadd]at h;rw[Hl,HN]at hlen15;generalize ht1:(t.put j).1=t1 at *;generalize hes1:SetTable.insertAt es (t.put j).2 (hsh k,Value.ref r)=es1 at *;have hline:es1.size<=sizeLine:=by rw[hesz,hZ'];exact Gz hlen15 (by decide)
  rw[hpl];simp only[Hv];refine GR (mW hr ?_);simp only[Hv];refine GR (Jk S.ho S.hd ?_ hline)
  have hg:(s.heap.update a (Obj.putSet es1 t1)).get? a=some {o with data:=.set es1 (ep+1) t1}:=by
   have:=HH (Obj.putSet es1 t1) S.ho (by rw[Jl es1 t1 S.hd];rfl);rw[Jl es1 t1 S.hd]at this;exact this
  have hsb1:=Im s.heap a (Obj.putSet es1 t1);have hfill:t1.fill=ps.length+1:=by rw[T'.fill,hZ']
  by_cases hfull:t1.tooFull=true
  ·simp only [hfull, Jm, Jh, Hv]
   have hm7:t.mask=7/\ps.length=4:=by
    unfold SetTable.tooFull at hfull;rw[hfill,hmask]at hfull;have hf:(ps.length+1)*5 ≥ t.mask*3:=by simpa using hfull
    have hl:=S.len;rw[Hm]at hl;rcases S.big with⟨q,q2⟩|⟨q,q2⟩
    ·rw[q]at hf;exact⟨q,by omega⟩
    ·rw[q]at hf;omega
   have hes0:es.size=4:=by rw[S.tab.size.2,S.len,Hm,hm7.2]
   have hsz1:es1.size=5:=by rw[hesz,hZ',hm7.2]
   have hgr:SetTable.grown (es.size+1)=20:=by rw[hes0];rfl
   rw[hgr];unfold setRelay
   have hfits1:t1.fits es1.size=true:=by
    unfold SetTable.fits;rw[T'.fill,T'.size.1,hesz,hmask,hm7.1,hZ',hm7.2];rfl
   refine GR (GR (Jg hg rfl hfits1 ?_));dsimp only;rw[Gr (by decide)]
   obtain⟨t2,order,Z2,er,T2,hp2,hm2,hl2,hpl2,_⟩:=mj (t:=t1) (es:=es1) (wanted:=20) (mask:=31) (by rfl) (by rw[hsz1];decide) (fun e' he'=>by
    rw[T'.ents]at he';obtain⟨p,hp',q⟩:=IJ.mp (hperm'.mem_iff.mp he');rw[<- q]
    exact rA AV (hkeys p hp'))
   rw[er]
   have hZ2:Z2.length=5:=by
    have:=hp2.length_eq;simp at this;omega
   have hes2:(order.filterMap (es1[·]?)).size=5:=by rw[T2.size.2,hZ2]
   have hne:((order.filterMap (es1[·]?)).size != es1.size)=false:=by rw[hes2,hsz1];rfl
   refine GR ?_;show wpAny _ A (if ((order.filterMap (es1[·]?)).size != es1.size)=true then _ else _) _ _ _;rw[hne];simp only[HU,Hu];refine GV ?_;refine Jk hg rfl ?_ (by rw[hes2];decide)
   have hg2:((s.heap.update a (Obj.putSet es1 t1)).update a (Obj.putSet (order.filterMap (es1[·]?)) t2)).get? a=some {o with data:=.set (order.filterMap (es1[·]?)) (ep+1+1) t2}:=by
    have:=HH (Obj.putSet (order.filterMap (es1[·]?)) t2) hg (by rw[Jl _ t2 rfl];rfl);rw[Jl _ t2 rfl]at this;exact this
   refine GV ?_;refine h true _ (hsb1.trans (Im _ a _)) ⟨_,_,_,t2,Z2,⟨hg2,S.ex,rfl,T2,by rw[hpl2];exact hpl,by rw[hl2,hled];exact S.led,.inr ⟨hm2,by omega⟩,?_⟩,hkeys,hnd⟩;refine hp2.trans ?_;rw[T'.ents];exact hperm'
  ·have hf : t1.tooFull = false := by simpa using hfull
   simp only[hf,Bool.and_false,HU,Hu];refine GV ?_;refine h true _ hsb1 ⟨_,_,_,t1,Z',⟨hg,S.ex,rfl,T',hpl,by rw[hled];exact S.led,?_,hperm'⟩,hkeys,hnd⟩;unfold SetTable.tooFull at hf;rw[hfill,hmask]at hf;have hf':¬ ((ps.length+1)*5 ≥ t.mask*3):=by simpa using hf
   rw[hmask,hZ'];rcases S.big with⟨q,q2⟩|⟨q,q2⟩
   ·rw[q]at hf'⊢;exact .inl ⟨rfl,by omega⟩
   ·rw[q]at hf'⊢;exact .inr ⟨rfl,by omega⟩
end
def dJ(qs:List KP):List KP:=qs.foldl (fun ps p=>jB ps p.1 p.2) []
theorem qK(qs:List KP)(p:KP):dJ (qs++[p])=jB (dJ qs) p.1 p.2:=by unfold dJ;rw[List.foldl_append];rfl
theorem yh{ps:List KP}{k:List Int}{r:Addr}{p:KP}(h:p∈jB ps k r):p∈ps\/p=(k,r):=by
 unfold jB at h;split at h
 ·exact .inl h
 ·rcases GG.mp h with q | q
  ·exact .inl q
  ·exact .inr (Ih.mp q)
theorem kL:∀{qs ps:List KP}{p:KP},p∈qs.foldl (fun ps p=>jB ps p.1 p.2) ps->p∈ps\/p∈qs
 |[],_,_,h=>.inl h
 |q::qs,ps,p,h=>by
  rw[HL]at h;rcases kL h with z|z
  ·rcases yh z with z | z
   ·exact .inl z
   ·exact .inr (by rw[z];exact GC)
  ·exact .inr (GD _ z)
theorem jo{qs:List KP}{p:KP}(h:p∈dJ qs):p∈qs:=(kL h).elim (fun z=>by simp at z) id
theorem sv{ps:List KP}{k:List Int}{r:Addr}(h:(ps.map (·.1)).Nodup):((jB ps k r).map (·.1)).Nodup:=by
 unfold jB;split
 ·exact h
 ·rename_i hn;rw[IT];refine Jj.mpr ⟨h,by simp,fun x hx y hy=>?_⟩;simp at hy;rw[hy];rintro rfl;exact hn hx
theorem i9:∀{qs ps:List KP},(ps.map (·.1)).Nodup->((qs.foldl (fun ps p=>jB ps p.1 p.2) ps).map (·.1)).Nodup
 |[],_,h=>h
 |q::qs,ps,h=>by rw[HL];exact i9 (sv h)
theorem oS{qs:List KP}:((dJ qs).map (·.1)).Nodup:=i9 (ps:=[]) I0
def jG (w:World):Bool:=!w.params.followText "set-order"
theorem kH {w:World}{h:Heap}{a:Addr} (e:h.get? a=some {cls:=.type "set",dict:=none,data:=.set #[] 0 (.fresh 0 0 (jG w))}):dw w h a []:=
 ⟨_,_,_,_,[],⟨e,⟨rfl,rfl,rfl⟩,rfl,⟨rfl,rfl,List.Pairwise.nil,fun z hz=>by simp at hz,rfl,fun z hz=>by simp at hz⟩,rfl,rfl,.inl ⟨rfl,by decide⟩,List.Perm.nil⟩,fun p hp=>by simp at hp,I0⟩
section
variable{prog:Program}{w:World}{A:Around}{R:Result->Shared->Prop}{I:Addr}{fp wr:List Addr}{G:Array GenState->Array GenState->Prop}{P:Nat->Value->Prop}{St:Nat->Shared->Prop}
structure vP(prog:Program)(w:World)(u:Nat)(S:Addr)(vs:List Value)(J:Nat->Heap->Prop):Prop where
 keep:∀i h h',(∀b o,b<=S->h.get? b=some o->h'.get? b=some o)->J i h->J i h'
 add:∀(A:Around)(i:Nat)(v:Value)(s:Shared)(E:Value->Shared->Prop)(Q:Bool->Shared->Prop),A.units<=u->vs[i]?=some v->J i s.heap ->
  (∀b h' tk,s.toks<=tk->Heap.SameBut S s.heap h'->J (i+1) h'->Q b {s with heap:=h',toks:=tk})->wpAny (model prog w) A (setAdd S v) Q E s
theorem p9{u:Nat}{vs:List Value}{J:Nat->Heap->Prop}(W:WalksS prog w A.in1 I fp wr G vs.length P St)(S:Addr)(hSf:S∉fp)(hwr:∀b∈wr,S<b)(hP:∀(i:Nat) v,P i v->vs[i]?=some v)(hJ:vP prog w u S vs J)(hu:A.units+1<=u) :
  ∀(k i:Nat)(s:Shared),vs.length-i=k->i<=vs.length->St i s->J i s.heap ->
   (∀s',Moved (S::wr) G s s'->J vs.length s'.heap->R (.ok (.ret .none)) s') ->
   codeAny (model prog w) A (.builtin "set.update.loop" ⟨[.ref S,.ref I],[]⟩) R s:=by
 have hSw:S∉wr:=fun h=>hSf (W.sub _ h);have hsub:∀b∈wr,b∈S::wr:=fun b hb=>GD _ hb;have hle:∀b,b<=S->b∉wr:=fun b hb z=>Gv _ (Gu (hwr b z) hb);intro k
 induction k with
 |zero=>
  intro i s ek hi hst hS hR;have hin:i=vs.length:=by omega
  subst hin;refine Jn F.entry_set_update_loop ?_;rw[Jo Jp _];show wpAny _ A.in1 (pyNext (.ref I) >>= _) _ _ s;refine GR (W.done s _ _ hst fun s' hm=>?_);show wpAny _ A.in1 (ret Value.none) _ _ s';exact GV (hR s' (hm.mono hsub) (hJ.keep _ _ _ (fun b o hb e=>hm.heap b o (hle b hb) e) hS))
 |succ k ih=>
  intro i s ek hi hst hS hR;have hlt:i<vs.length:=by omega
  refine Jn F.entry_set_update_loop ?_;rw[Jo Jp _];show wpAny _ A.in1 (pyNext (.ref I) >>= _) _ _ s;refine GR (W.item i s _ _ hlt hst fun v s' hPv hst' hm=>?_);have hv:=hP i v hPv;have hS':=hJ.keep i _ s'.heap (fun b o hb e=>hm.heap b o (hle b hb) e) hS;show wpAny _ A.in1 (holding [v] (setAdd S v) >>= _) _ _ s';refine GR (GS ?_);refine hJ.add A.in1 i v s' _ _ (by show A.units+1<=u;exact hu) hv hS' fun b h' tk ht hsb hS2=>?_;have hkeep:∀b o,b≠S->s'.heap.get? b=some o->h'.get? b=some o:=fun b o hb e=>(hsb.2 b hb).trans e;refine GV ⟨plainId_quiet Jp _,ih (i+1) _ (by omega) hlt (W.frame _ s' _ _ hst' ht fun b hb o e=>hkeep b o (fun z=>hSf (by rw[<- z];exact hb)) e) hS2 fun s'' hm'' hS''=>?_⟩;refine hR s'' (Moved.trans W.gtrans ((hm.mono hsub).then_heap ht fun b o hb e=>?_) hm'') hS'';exact hkeep b o (fun z=>hb (by rw[z];exact GC)) e
end
section
variable{prog:Program}{w:World}{A:Around}{E:Value->Shared->Prop}{s:Shared}
theorem jX(a:Value){Q1:Value->Shared->Prop}
  (h:Q1 (.ref s.heap.objs.size) {s with heap:=s.heap.push {cls:=.type "set",dict:=none,data:=.set #[] 0 (.fresh 0 0 (jG w))}}) :
  codeAny (model prog w) A (.call (.builtin "set.__new__") ⟨[.type "set",a],[]⟩) (wants Q1 E) s:=by
 refine Ib ?_;show wpAny _ A.in1 (do checkBuiltinCall "set.__new__" ⟨[.type "set",a],[]⟩;again (.builtin "set.__new__" ⟨[.type "set",a],[]⟩)) _ _ s;refine GR (Io (F.newCall_set_1 a) (GV ⟨plainId_quiet F.plain_set_new _,Jn F.entry_set_new ?_⟩));rw[Jo F.plain_set_new _];unfold Builtin.«set.__new__» Builtin.Frozenset.newClass;have hsub:=sub_set_self;obtain⟨hp,g,d,tk,os⟩:=s;dsimp only
 wp_walk
 refine Ic (GV ?_);dsimp only;simp only[newObj];refine GR (wpAny_alloc (GV ?_));exact GV h
namespace F
theorem sub_list_set:isSubtype (.type "list") (.type "set")=pure false:=by rw[Jq];kernel_rfl
theorem sub_list_frozenset:isSubtype (.type "list") (.type "frozenset")=pure false:=by rw[Jq];kernel_rfl
end F
theorem jS{l:Addr}{items:Array Value}{J:Nat->Heap->Prop}{Q:Value->Shared->Prop}
  (hh:A.handled=none) (hl:s.heap.IsList l items) (hJ:vP prog w (A.units+20) s.heap.objs.size items.toList J)
  (h0:∀h',(∀b o,s.heap.get? b=some o->h'.get? b=some o)->h'.get? s.heap.objs.size=some {cls:=.type "set",dict:=none,data:=.set #[] 0 (.fresh 0 0 (jG w))}->J 0 h')
  (h:∀(h':Heap)(tk:Nat),J items.size h'->(∀b o,b<s.heap.objs.size->s.heap.get? b=some o->h'.get? b=some o)->Q (.ref s.heap.objs.size) {s with heap:=h',toks:=tk}) :
  wpAny (model prog w) A (call (.type "set") [.ref l]) Q E s:=by
 obtain⟨c,tl,hmro⟩:=Jr.mro;have hmade:=Jr.made;have hsub:=Jr.sub;refine wpAny_call (Ib ?_);show wpAny _ _ (callAny (.type "set") _) _ _ _;refine GV ⟨Js _ (by decide +kernel),Jn PySem.F.entry_type_call ?_⟩;rw[Around.under_plain (weight_type_call_type "set" [.ref l] []) rfl];have h1:=Jr.notType;have h2:=Jr.canCreate;have hct:=PySem.F.typeCall_set_1 (.ref l)
 repeat (any_goals (first|assumption|wp_step))
 refine G9 (jX (.ref l) (E:=E) (Q1:=fun obj s1=>obj=.ref s.heap.objs.size/\s1={s with heap:=s.heap.push {cls:=.type "set",dict:=none,data:=.set #[] 0 (.fresh 0 0 (jG w))}}) ⟨rfl,rfl⟩) fun r s1 hr=>?_;cases r with
 |error e=>exact hr
 |ok fl=>
  cases fl with
  |ret obj=>
   obtain⟨rfl,rfl⟩:=hr;generalize hled:jG w=led;have hS:(s.heap.push {cls:=.type "set",dict:=none,data:=.set #[] 0 (.fresh 0 0 led)}).get? s.heap.objs.size=some {cls:=.type "set",dict:=none,data:=.set #[] 0 (.fresh 0 0 led)}:=GZ _ rfl;have hTy:Shared.TypeIs {s with heap:=s.heap.push {cls:=.type "set",dict:=none,data:=.set #[] 0 (.fresh 0 0 led)}} (.ref s.heap.objs.size) "set" := ⟨_,hS,rfl⟩;have hli:=Jr.init.lookup;have hbi:=Jr.init.bind (.ref s.heap.objs.size)
   repeat (any_goals (first|assumption|wp_step))
   refine G9 (codeAny_call_builtin (R:=wants (fun r s2=>r=.none/\∃h' tk,s2={s with heap:=h',toks:=tk}/\J items.size h' /\
     (∀b o,b<s.heap.objs.size->s.heap.get? b=some o->h'.get? b=some o)) E) Jr.init.plain PySem.F.entry_set_init (check_set_init_1 hTy ?_)) fun r2 s2 hr2=>?_
   ·obtain ⟨ol, hol, hcl, nl, hdl⟩ := hl;obtain⟨ocls,odict,odata,oslots⟩:=ol;simp only at hcl hdl;subst hcl;subst hdl;have hol':(s.heap.push {cls:=.type "set",dict:=none,data:=.set #[] 0 (.fresh 0 0 led)}).get? l=some {cls:=.type "list",dict:=odict,data:=.seq items nl,slots:=oslots}:=GY _ hol;have hsls:=F.sub_list_set;have hslf:=F.sub_list_frozenset;have hne:(Value.type "list" == Value.type "dict")=false:=by decide
    have hl1:(s.heap.push {cls:=.type "set",dict:=none,data:=.set #[] 0 (.fresh 0 0 led)}).IsList l items:=⟨_,hol',rfl,nl,rfl⟩;unfold Builtin.«set.__init__» noKeywords Builtin.Frozenset.updateFrom;generalize hPI:pyIter=PI
    wp_walk
    subst hPI;refine Jt hl1 ?_;refine GR (Ju ?_);have hlS:l<s.heap.objs.size:=Gs hol;have hh3:A.in1.in1.in1.handled=none:=by simp[hh]
    have hneI:l≠(s.heap.push {cls:=.type "set",dict:=none,data:=.set #[] 0 (.fresh 0 0 led)}).objs.size:=by
     rw[HY];exact Gw (HX hlS)
    have hSf:s.heap.objs.size ∉ [(s.heap.push {cls:=.type "set",dict:=none,data:=.set #[] 0 (.fresh 0 0 led)}).objs.size,l]:=by
     rw[HY];simp only[GE,Ih,Iq,Ir,not_or];exact⟨Gw (HW _),GU hlS⟩
    have W:=(Walks.list (prog:=prog) (w:=w) hh3 (s.heap.push {cls:=.type "set",dict:=none,data:=.set #[] 0 (.fresh 0 0 led)}).objs.size l hneI items).toS;rw[show items.size=items.toList.length by rw[GO]]at W
    refine p9 W s.heap.objs.size hSf (fun b hb=>?_) (fun i v hv=>by rw[Iu];exact hv) hJ (by simp only[Around.in1];omega) (items.toList.length-0) 0 _ (by omega) (Ig _)
     ⟨⟨_,GZ _ rfl,rfl,rfl⟩,?hL⟩ ?hS0 ?hR
    case hL=>
     obtain⟨o,ho,rest⟩:=hl1;exact⟨o,GY _ ho,rest⟩
    case hS0=>
     refine h0 _ (fun b o e=>GY _ (GY _ e)) ?_;rw[hled];exact GY _ hS
    case hR=>
     intro s' hm hS';obtain⟨h',g',d',tk',os'⟩:=s';have eg:g'=s.gens:=hm.gens;have ed:d'=s.drawn:=hm.drawn;have eo:os'=s.os:=hm.os;subst eg;subst ed;subst eo;show wpAny _ _ _ _ _ _;refine GV ?_;show wpAny _ _ (ret Value.none) _ _ _;refine GV ⟨rfl,h',tk',rfl,by rw[GO]at hS';exact hS',fun b o hb e=>?_⟩;have hb1:b≠s.heap.objs.size:=Gw hb
     have hb2:b≠(s.heap.push {cls:=.type "set",dict:=none,data:=.set #[] 0 (.fresh 0 0 led)}).objs.size:=by
      rw[HY];exact Gw (HX hb)
     exact hm.heap b o (by simp only[GE,Ih,Iq,Ir,not_or];exact⟨hb1,hb2⟩) (GY _ (GY _ e))
    ·rw[HY]at hb;rw[Ih.mp hb];exact HW _
   ·cases r2 with
    |error e=>exact hr2
    |ok fl2=>
     cases fl2 with
     |ret r=>
      obtain⟨rfl,h',tk,rfl,hS',hk'⟩:=hr2
      repeat (any_goals (first|assumption|wp_step))
      exact h _ _ hS' hk'
     |_=>exact hr2.elim
  |_=>exact hr.elim
namespace F
theorem sub_tuple_set:isSubtype (.type "tuple") (.type "set")=pure false:=by rw[Jq];kernel_rfl
theorem sub_tuple_frozenset:isSubtype (.type "tuple") (.type "frozenset")=pure false:=by rw[Jq];kernel_rfl
end F
theorem i8{l:Addr}{items:Array Value}{J:Nat->Heap->Prop}{Q:Value->Shared->Prop}
  (hh:A.handled=none) (hl:s.heap.IsTuple l items) (hJ:vP prog w (A.units+20) s.heap.objs.size items.toList J)
  (h0:∀h',(∀b o,s.heap.get? b=some o->h'.get? b=some o)->h'.get? s.heap.objs.size=some {cls:=.type "set",dict:=none,data:=.set #[] 0 (.fresh 0 0 (jG w))}->J 0 h')
  (h:∀(h':Heap)(tk:Nat),J items.size h'->(∀b o,b<s.heap.objs.size->s.heap.get? b=some o->h'.get? b=some o)->Q (.ref s.heap.objs.size) {s with heap:=h',toks:=tk}) :
  wpAny (model prog w) A (call (.type "set") [.ref l]) Q E s:=by
 obtain⟨c,tl,hmro⟩:=Jr.mro;have hmade:=Jr.made;have hsub:=Jr.sub;refine wpAny_call (Ib ?_);show wpAny _ _ (callAny (.type "set") _) _ _ _;refine GV ⟨Js _ (by decide +kernel),Jn PySem.F.entry_type_call ?_⟩;rw[Around.under_plain (weight_type_call_type "set" [.ref l] []) rfl];have h1:=Jr.notType;have h2:=Jr.canCreate;have hct:=PySem.F.typeCall_set_1 (.ref l)
 repeat (any_goals (first|assumption|wp_step))
 refine G9 (jX (.ref l) (E:=E) (Q1:=fun obj s1=>obj=.ref s.heap.objs.size/\s1={s with heap:=s.heap.push {cls:=.type "set",dict:=none,data:=.set #[] 0 (.fresh 0 0 (jG w))}}) ⟨rfl,rfl⟩) fun r s1 hr=>?_;cases r with
 |error e=>exact hr
 |ok fl=>
  cases fl with
  |ret obj=>
   obtain⟨rfl,rfl⟩:=hr;generalize hled:jG w=led;have hS:(s.heap.push {cls:=.type "set",dict:=none,data:=.set #[] 0 (.fresh 0 0 led)}).get? s.heap.objs.size=some {cls:=.type "set",dict:=none,data:=.set #[] 0 (.fresh 0 0 led)}:=GZ _ rfl;have hTy:Shared.TypeIs {s with heap:=s.heap.push {cls:=.type "set",dict:=none,data:=.set #[] 0 (.fresh 0 0 led)}} (.ref s.heap.objs.size) "set" := ⟨_,hS,rfl⟩;have hli:=Jr.init.lookup;have hbi:=Jr.init.bind (.ref s.heap.objs.size)
   repeat (any_goals (first|assumption|wp_step))
   refine G9 (codeAny_call_builtin (R:=wants (fun r s2=>r=.none/\∃h' tk,s2={s with heap:=h',toks:=tk}/\J items.size h' /\
     (∀b o,b<s.heap.objs.size->s.heap.get? b=some o->h'.get? b=some o)) E) Jr.init.plain PySem.F.entry_set_init (check_set_init_1 hTy ?_)) fun r2 s2 hr2=>?_
   ·obtain ⟨ol, hol, hcl, nl, hdl⟩ := hl;obtain⟨ocls,odict,odata,oslots⟩:=ol;simp only at hcl hdl;subst hcl;subst hdl;have hol':(s.heap.push {cls:=.type "set",dict:=none,data:=.set #[] 0 (.fresh 0 0 led)}).get? l=some {cls:=.type "tuple",dict:=odict,data:=.seq items nl,slots:=oslots}:=GY _ hol;have hsls:=F.sub_tuple_set;have hslf:=F.sub_tuple_frozenset;have hne:(Value.type "tuple" == Value.type "dict")=false:=by decide
    have hl1:(s.heap.push {cls:=.type "set",dict:=none,data:=.set #[] 0 (.fresh 0 0 led)}).IsTuple l items:=⟨_,hol',rfl,nl,rfl⟩;unfold Builtin.«set.__init__» noKeywords Builtin.Frozenset.updateFrom;generalize hPI:pyIter=PI
    wp_walk
    subst hPI;refine Ip hl1 ?_;refine GR (Ju ?_);have hlS:l<s.heap.objs.size:=Gs hol;have hh3:A.in1.in1.in1.handled=none:=by simp[hh]
    have hneI:l≠(s.heap.push {cls:=.type "set",dict:=none,data:=.set #[] 0 (.fresh 0 0 led)}).objs.size:=by
     rw[HY];exact Gw (HX hlS)
    have hSf:s.heap.objs.size ∉ [(s.heap.push {cls:=.type "set",dict:=none,data:=.set #[] 0 (.fresh 0 0 led)}).objs.size,l]:=by
     rw[HY];simp only[GE,Ih,Iq,Ir,not_or];exact⟨Gw (HW _),GU hlS⟩
    have W:=(Walks.tuple (prog:=prog) (w:=w) hh3 (s.heap.push {cls:=.type "set",dict:=none,data:=.set #[] 0 (.fresh 0 0 led)}).objs.size l hneI items).toS;rw[show items.size=items.toList.length by rw[GO]]at W
    refine p9 W s.heap.objs.size hSf (fun b hb=>?_) (fun i v hv=>by rw[Iu];exact hv) hJ (by simp only[Around.in1];omega) (items.toList.length-0) 0 _ (by omega) (Ig _)
     ⟨⟨_,GZ _ rfl,rfl,rfl⟩,?hL⟩ ?hS0 ?hR
    case hL=>
     obtain⟨o,ho,rest⟩:=hl1;exact⟨o,GY _ ho,rest⟩
    case hS0=>
     refine h0 _ (fun b o e=>GY _ (GY _ e)) ?_;rw[hled];exact GY _ hS
    case hR=>
     intro s' hm hS';obtain⟨h',g',d',tk',os'⟩:=s';have eg:g'=s.gens:=hm.gens;have ed:d'=s.drawn:=hm.drawn;have eo:os'=s.os:=hm.os;subst eg;subst ed;subst eo;show wpAny _ _ _ _ _ _;refine GV ?_;show wpAny _ _ (ret Value.none) _ _ _;refine GV ⟨rfl,h',tk',rfl,by rw[GO]at hS';exact hS',fun b o hb e=>?_⟩;have hb1:b≠s.heap.objs.size:=Gw hb
     have hb2:b≠(s.heap.push {cls:=.type "set",dict:=none,data:=.set #[] 0 (.fresh 0 0 led)}).objs.size:=by
      rw[HY];exact Gw (HX hb)
     exact hm.heap b o (by simp only[GE,Ih,Iq,Ir,not_or];exact⟨hb1,hb2⟩) (GY _ (GY _ e))
    ·rw[HY]at hb;rw[Ih.mp hb];exact HW _
   ·cases r2 with
    |error e=>exact hr2
    |ok fl2=>
     cases fl2 with
     |ret r=>
      obtain⟨rfl,h',tk,rfl,hS',hk'⟩:=hr2
      repeat (any_goals (first|assumption|wp_step))
      exact h _ _ hS' hk'
     |_=>exact hr2.elim
  |_=>exact hr.elim
theorem my{qs:List KP}{S:Addr}{u:Nat}(hk:∀p∈qs,p.1∈prs)(hS:∀p∈qs,p.2<S)(hu:u<cLine):vP prog w u S (qs.map fun p=>Value.ref p.2) (fun i h=>dw w h S (dJ (qs.take i))/\∀p∈qs,Tk prog w h p.1 p.2):=by
 have keepT:∀{h1 h2:Heap}{q:KP},q∈qs->(∀b o,b<S->h1.get? b=some o->h2.get? b=some o)->Tk prog w h1 q.1 q.2->Tk prog w h2 q.1 q.2:=fun {h1 h2 q} hq kk t=>by
  obtain⟨o,items,n,ho,r⟩:=t;exact⟨o,items,n,kk _ o (hS q hq) ho,r⟩
 refine⟨fun i h h' hk' ⟨j1,j2⟩=>⟨j1.keeps fun o e=>hk' S o (G0 _) e,fun p hp=>keepT hp (fun b o hb e=>hk' b o (GA hb) e) (j2 p hp)⟩,fun A i v s E Q hA hv ⟨j1,j2⟩ hQ=>?_⟩;rw[Hj]at hv;cases e:qs[i]? with
 |none=>rw[e]at hv;cases hv
 |some p=>
  rw[e]at hv;cases hv;have hpm:p∈qs:=Hk e;unfold setAdd;refine GS ?_;refine GR (wpAny_pyHash_tuple (by omega) (j2 p hpm) ?_);rw[C9];refine Bn (s:={s with toks:=s.toks+(p.1.length+1)}) j1 (hk p hpm) (j2 p hpm) (fun q hq=>j2 q (IY (jo hq))) (by omega) fun b h' hsb hS2=>?_;have etk:qs.take (i+1)=qs.take i++[p]:=by rw[Jv,e];rfl
  refine hQ b h' _ (Nat.le_add_right _ _) hsb ⟨by rw[etk,qK];exact hS2,fun q hq=>keepT hq (fun b o hb e=>(hsb.2 b (Gw hb)).trans e) (j2 q hq)⟩
theorem wF{qs:List KP}(hT:∀p∈qs,Tk prog w s.heap p.1 p.2):∀p∈qs,p.2<s.heap.objs.size:=fun p hp=>by
 obtain⟨o,_,_,ho,_⟩:=hT p hp;exact Gs ho
theorem qx{l:Addr}{items:Array Value}{qs:List KP}{Q:Value->Shared->Prop}
  (hh:A.handled=none) (hl:s.heap.IsList l items) (hi:items.toList=qs.map fun p=>Value.ref p.2) (hk:∀p∈qs,p.1∈prs) (hT:∀p∈qs,Tk prog w s.heap p.1 p.2) (hu:A.units+20<cLine)
  (h:∀(h':Heap)(tk:Nat),dw w h' s.heap.objs.size (dJ qs)->(∀b o,b<s.heap.objs.size->s.heap.get? b=some o->h'.get? b=some o)->Q (.ref s.heap.objs.size) {s with heap:=h',toks:=tk}) :
  wpAny (model prog w) A (call (.type "set") [.ref l]) Q E s:=by
 have hlen:items.size=qs.length:=by rw[<- GO,hi,Hm]
 refine jS hh hl (hi ▸ my hk (wF hT) hu) (fun h' k e=>⟨kH e,fun p hp=>?_⟩) fun h' tk ⟨j1,_⟩=>h h' tk ?_
 ·obtain⟨o,its,n,ho,rest⟩:=hT p hp;exact⟨o,its,n,k _ _ ho,rest⟩
 ·rw[hlen,Jw]at j1;exact j1
theorem oD{l:Addr}{items:Array Value}{qs:List KP}{Q:Value->Shared->Prop}
  (hh:A.handled=none) (hl:s.heap.IsTuple l items) (hi:items.toList=qs.map fun p=>Value.ref p.2) (hk:∀p∈qs,p.1∈prs) (hT:∀p∈qs,Tk prog w s.heap p.1 p.2) (hu:A.units+20<cLine)
  (h:∀(h':Heap)(tk:Nat),dw w h' s.heap.objs.size (dJ qs)->(∀b o,b<s.heap.objs.size->s.heap.get? b=some o->h'.get? b=some o)->Q (.ref s.heap.objs.size) {s with heap:=h',toks:=tk}) :
  wpAny (model prog w) A (call (.type "set") [.ref l]) Q E s:=by
 have hlen:items.size=qs.length:=by rw[<- GO,hi,Hm]
 refine i8 hh hl (hi ▸ my hk (wF hT) hu) (fun h' k e=>⟨kH e,fun p hp=>?_⟩) fun h' tk ⟨j1,_⟩=>h h' tk ?_
 ·obtain⟨o,its,n,ho,rest⟩:=hT p hp;exact⟨o,its,n,k _ _ ho,rest⟩
 ·rw[hlen,Jw]at j1;exact j1
end
end RS
namespace RS
open PySem PySem.W PyProof.Rows
structure df(n:Nat)(p:Array Nat):Prop where
 size:p.size=n
 perm:p.toList.Perm (List.range n)
def at'(key:Nat->Int)(p:Array Nat)(k:Nat):Int:=key (p.getD k 0)
def vF(key:Nat->Int)(p:Array Nat)(m:Nat):Prop:=∀i j,i<j->j<m->at' key p i<at' key p j
def yC(key:Nat->Int)(p:Array Nat)(m:Nat):Prop:=∀i j,i<j->j<m->at' key p j<at' key p i
section
variable{n:Nat}{key:Nat->Int}{cmp:Nat->Nat->(Bool->Shared->Prop)->Shared->Prop}{s:Shared}{p:Array Nat}
theorem df.lt(g:df n p){k:Nat}(hk:k<n):p.getD k 0<n:=by
 have hs:k<p.size:=by rw[g.size];exact hk
 have:p[k]∈p.toList:=by rw[Ji];exact Array.getElem_mem hs
 have:=g.perm.mem_iff.mp this;rw[Gy]at this;simpa[Array.getD,hs] using this
theorem df.inj(g:df n p){k k':Nat}(hk:k<n)(hk':k'<n)(e:p.getD k 0=p.getD k' 0):k=k':=by
 have hs:k<p.toList.length:=by rw[GO,g.size];exact hk
 have hs':k'<p.toList.length:=by rw[GO,g.size];exact hk'
 have nd:p.toList.Nodup:=g.perm.nodup_iff.mpr IM;refine(GJ (h₀:=hs) (h₁:=hs') nd).mp ?_;have h1:k<p.size:=by rw[g.size];exact hk
 have h2:k'<p.size:=by rw[g.size];exact hk'
 simpa[Array.getD,h1,h2] using e
variable(hkey:∀i j,i<n->j<n->key i=key j->i=j)(hc:∀i j,i<n->j<n->∀C:Bool->Shared->Prop,C (decide (key i<key j)) s->cmp i j C s)
include hkey in
theorem v9(g:df n p){k k':Nat}(hk:k<n)(hk':k'<n)(h:k≠k'):at' key p k≠at' key p k':=fun e=>h (g.inj hk hk' (hkey _ _ (g.lt hk) (g.lt hk') e))
include hkey hc
theorem rD(g:df n p):∀(f m:Nat)(Q:Nat->Shared->Prop),1<=m->m+f<=n->vF key p m->(∀m',m<=m'->m'<=m+f->vF key p m'->(m'=m+f\/at' key p m'<at' key p (m'-1))->Q m' s)->(kas_asc p f m).kasWp cmp Q s
 |0,m,Q,h1,h2,ha,hQ=>hQ m (G0 _) (G0 _) ha (.inl rfl)
 |f+1,m,Q,h1,h2,ha,hQ=>by
  show cmp (p.getD m 0) (p.getD (m-1) 0) _ s;refine hc _ _ (g.lt (by omega)) (g.lt (by omega)) _ ?_;by_cases hlt:key (p.getD m 0)<key (p.getD (m-1) 0)
  ·rw[HQ hlt];(show (if true=true then _ else _:KasT _).kasWp cmp _ s);rw[Gq rfl];exact hQ m (G0 _) (by omega) ha (.inr hlt)
  ·rw [Gm hlt]; (show (if false = true then _ else _ : KasT _).kasWp cmp _ s); rw [Gr G6];have hne:=v9 hkey g (k:=m) (k':=m-1) (by omega) (by omega) (by omega);have hgt:at' key p (m-1)<at' key p m:=by unfold at' at *;omega
   refine rD g f (m+1) Q (by omega) (by omega) (fun i j hij hj=>?_) (fun m' a b c d=>hQ m' (by omega) (by omega) c (d.elim (fun e=>.inl (by omega)) .inr));by_cases ej:j=m
   ·subst ej;by_cases ei:i=j-1
    ·rw[ei];exact hgt
    ·have:=ha i (j-1) (by omega) (by omega);omega
   ·exact ha i j hij (by omega)
theorem tR(g:df n p):∀(f m:Nat)(Q:Array Nat×Nat×Nat->Shared->Prop),1<=m->m+f<=n->yC key p m->(∀m',m<=m'->m'<=m+f->yC key p m'->Q (p,m',0) s)->(kas_desc f p m 0).kasWp cmp Q s
 |0,m,Q,h1,h2,ha,hQ=>hQ m (G0 _) (G0 _) ha
 |f+1,m,Q,h1,h2,ha,hQ=>by
  show cmp (p.getD m 0) (p.getD (m-1) 0) _ s;refine hc _ _ (g.lt (by omega)) (g.lt (by omega)) _ ?_;by_cases hlt:key (p.getD m 0)<key (p.getD (m-1) 0)
  ·rw [HQ hlt]; (show (if true = true then _ else _ : KasT _).kasWp cmp _ s); rw [Gq rfl, Gr (by omega)];refine tR g f (m+1) Q (by omega) (by omega) (fun i j hij hj=>?_) (fun m' a b c=>hQ m' (by omega) (by omega) c);by_cases ej:j=m
   ·subst ej;by_cases ei:i=j-1
    ·rw[ei];exact hlt
    ·have:=ha i (j-1) (by omega) (by omega);have:at' key p j<at' key p (j-1):=hlt;omega
   ·exact ha i j hij (by omega)
  ·rw [Gm hlt]; (show (if false = true then _ else _ : KasT _).kasWp cmp _ s); rw [Gr G6];show cmp (p.getD (m-1) 0) (p.getD m 0) _ s;refine hc _ _ (g.lt (by omega)) (g.lt (by omega)) _ ?_;have hne:=v9 hkey g (k:=m) (k':=m-1) (by omega) (by omega) (by omega);have hgt:key (p.getD (m-1) 0)<key (p.getD m 0):=by unfold at' at hne;omega
   rw[HQ hgt];(show (if true=true then _ else _:KasT _).kasWp cmp _ s);rw[Gq rfl];exact hQ m (G0 _) (by omega) ha
omit hkey hc in
theorem lY{p p':Array Nat}{k k':Nat}(h:p[k]?=p'[k']?):at' key p k=at' key p' k':=by
 unfold at';rw[IW,IW,h]
omit hkey hc in
theorem nD{p':Array Nat}(g:df n p)(h:p'.Perm p)(hs:p'.size=p.size):df n p':=⟨hs.trans g.size,(Array.perm_iff_toList_perm.mp h).trans g.perm⟩
omit hkey hc in
theorem zl(g:df n p){m:Nat}(hm:m<=n)(hd:yC key p m):df n (kas_rev p 0 m)/\vF key (kas_rev p 0 m) m:=by
 have hs:m<=p.size:=by rw[g.size];exact hm
 refine⟨nD g (mirror_perm _ _ _ _) (mirror_size _ _ _ _),fun i j hij hj=>?_⟩;have ei:at' key (kas_rev p 0 m) i=at' key p (0+m-1-i):=lY (by unfold kas_rev;rw[getElem?_mirror_all hs,Gq ⟨Ig _,by omega⟩]);have ej:at' key (kas_rev p 0 m) j=at' key p (0+m-1-j):=lY (by unfold kas_rev;rw[getElem?_mirror_all hs,Gq ⟨Ig _,by omega⟩]);rw[ei,ej];exact hd _ _ (by omega) (by omega)
theorem wY(g:df n p){m:Nat}(h1:1<=m)(hm:m<=n)(hd:yC key p m)(Q:Nat×Array Nat->Shared->Prop)(hQ:∀m' p',df n p'->1<=m'->m'<=n->vF key p' m'->Q (m',p') s):(kas_tail3 m n p).kasWp cmp Q s:=by
 obtain⟨g',ha⟩:=zl (key:=key) g hm hd;unfold kas_tail3;rw[Jx];exact rD hkey hc g' (n-m) m _ h1 (by omega) ha fun m' a b c d=>hQ m' _ g' (by omega) (by omega) c
theorem yb(g:df n p)(h2:2<=n)(Q:Nat×Array Nat->Shared->Prop)(hQ:∀m' p',df n p'->1<=m'->m'<=n->vF key p' m'->Q (m',p') s):(kas_count n p).kasWp cmp Q s:=by
 unfold kas_count;rw[Jx];refine rD hkey hc g (n-1) 1 _ (G0 _) (by omega) (fun i j hij hj=>by omega) fun m a b c d=>?_;by_cases e:m=n
 ·rw[Gq (by simpa using e)];exact hQ m p g a (by omega) c
 ·rw [Gr (by simpa using e)];by_cases h1:m>1
  ·rw[Gq h1];show cmp (p.getD 0 0) (p.getD (m-1) 0) _ s;refine hc _ _ (g.lt (by omega)) (g.lt (by omega)) _ ?_;have:at' key p 0<at' key p (m-1):=c 0 (m-1) (by omega) (by omega);rw[HQ (show key (p.getD 0 0)<key (p.getD (m-1) 0) from this)];(show (if true=true then _ else _:KasT _).kasWp cmp _ s);rw[Gq rfl];exact hQ m p g a (by omega) c
  ·rw [Gr h1];have em:m=1:=by omega
   subst em;unfold kas_descPart;rw[Jx];have hlt:at' key p 1<at' key p 0:=d.elim (fun e'=>by omega) id;refine tR hkey hc g (n-(1+1)) (1+1) _ (by omega) (by omega) (fun i j hij hj=>?_) fun m' a' b' c'=>?_
   ·have ei : i = 0 := by omega
    have ej:j=1:=by omega
    rw[ei,ej];exact hlt
   ·show (if (0:Nat)>0 then _ else _:KasT (Nat×Array Nat)).kasWp cmp Q s;rw[Gr (by omega)];exact wY hkey hc g (by omega) (by omega) c' Q hQ
theorem l6(g:df n p){k:Nat}(hk:k<n)(ha:vF key p k):∀(f l r:Nat)(Q:Nat->Shared->Prop),l<=r->r<=k->r-l<=f->(∀i,i<l->at' key p i<at' key p k)->(∀i,r<=i->i<k->at' key p k<at' key p i) ->
  (∀l',l'<=k->(∀i,i<l'->at' key p i<at' key p k)->(∀i,l'<=i->i<k->at' key p k<at' key p i)->Q l' s)->(kas_place p k f l r).kasWp cmp Q s
 |0,l,r,Q,h1,h2,h3,ha1,hb1,hQ=>by
  have e:l=r:=by omega
  subst e;exact hQ l h2 ha1 hb1
 |f+1,l,r,Q,h1,h2,h3,ha1,hb1,hQ=>by
  unfold kas_place;by_cases e:l ≥ r
  ·rw [Gq e];have e':l=r:=by omega
   subst e';exact hQ l h2 ha1 hb1
  ·rw [Gr e];show cmp (p.getD k 0) (p.getD ((l+r) / 2) 0) _ s;refine hc _ _ (g.lt hk) (g.lt (by omega)) _ ?_;by_cases hlt:key (p.getD k 0)<key (p.getD ((l+r) / 2) 0)
   ·rw [HQ hlt]; (show (if true = true then _ else _ : KasT _).kasWp cmp _ s); rw [Gq rfl];refine l6 g hk ha f l ((l+r) / 2) Q (by omega) (by omega) (by omega) ha1 (fun i hi hik=>?_) hQ;by_cases ei:i=(l+r) / 2
    ·rw[ei];exact hlt
    ·have:=ha ((l+r) / 2) i (by omega) hik;have:at' key p k<at' key p ((l+r) / 2):=hlt;omega
   ·rw [Gm hlt]; (show (if false = true then _ else _ : KasT _).kasWp cmp _ s); rw [Gr G6];have hne:=v9 hkey g (k:=k) (k':=(l+r) / 2) hk (by omega) (by omega);have hgt:at' key p ((l+r) / 2)<at' key p k:=by unfold at' at *;omega
    refine l6 g hk ha f ((l+r) / 2+1) r Q (by omega) h2 (by omega) (fun i hi=>?_) hb1 hQ;by_cases ei:i=(l+r) / 2
    ·rw[ei];exact hgt
    ·have:=ha i ((l+r) / 2) (by omega) (by omega);omega
theorem wU:∀(f:Nat)(p:Array Nat)(k:Nat)(Q:Array Nat->Shared->Prop),df n p->k+f=n->vF key p k->(∀p',df n p'->vF key p' n->Q p' s)->(kas_bin f p k).kasWp cmp Q s
 |0,p,k,Q,g,hk,ha,hQ=>by
  have e:k=n:=by omega
  rw[e]at ha;exact hQ p g ha
 |f+1,p,k,Q,g,hk,ha,hQ=>by
  unfold kas_bin;rw[Jx];refine l6 hkey hc g (by omega) ha k 0 k _ (Ig _) (G0 _) (by omega) (fun i hi=>by omega) (fun i h1 h2=>by omega) fun l hl ha1 hb1=>?_;have hs:k<p.size:=by rw[g.size];omega
  refine wU f _ (k+1) Q (nD g (bubble_perm _ _ _) (bubble_size _ _ _)) (by omega) (fun i j hij hj=>?_) hQ
  have hb:∀x,at' key (bubble p k (k-l)) x=if x=l then at' key p k else if l<x/\x<=k then at' key p (x-1) else at' key p x:=fun x=>by
   have e:=getElem?_bubble hs (k-l) (by omega) x;have el:k-(k-l)=l:=by omega
   rw[el]at e;by_cases e1:x=l
   ·rw[Gq e1]at e⊢;exact lY e
   ·rw [Gr e1] at e ⊢;by_cases e2:l<x/\x<=k
    ·rw[Gq e2]at e⊢;exact lY e
    ·rw[Gr e2]at e⊢;exact lY e
  rw[hb i,hb j];by_cases i1:i=l
  ·rw[Gq i1,Gr (by omega),Gq ⟨by omega,by omega⟩];exact hb1 (j-1) (by omega) (by omega)
  ·rw [Gr i1];by_cases i2:l<i/\i<=k
   ·rw[Gq i2,Gr (by omega),Gq ⟨by omega,by omega⟩];exact ha (i-1) (j-1) (by omega) (by omega)
   ·rw [Gr i2];have hi:i<l:=by omega
    by_cases j1:j=l
    ·rw[Gq j1];exact ha1 i hi
    ·rw [Gr j1];by_cases j2:l<j/\j<=k
     ·rw [Gq j2];by_cases ej:i=j-1
      ·omega
      ·exact ha i (j-1) (by omega) (by omega)
     ·rw[Gr j2];exact ha i j hij (by omega)
theorem sW(h2:2<=n)(Q:Array Nat->Shared->Prop)(hQ:∀p',df n p'->vF key p' n->Q p' s):(kas_sort n).kasWp cmp Q s:=by
 unfold kas_sort;rw[Jx];have g0:df n (List.toArray (List.range n)):=⟨by simp,by simp⟩;refine yb hkey hc g0 h2 _ fun m p' g h1 hm ha=>?_;show (if m<n then _ else _:KasT (Array Nat)).kasWp cmp Q s;by_cases e:m<n
 ·rw [Gq e];have em:max m 1=m:=by omega
  rw[em];exact wU hkey hc (n-m) p' m Q g (by omega) ha hQ
 ·rw [Gr e];have em:m=n:=by omega
  rw[em]at ha;exact hQ p' g ha
end
def mZ(k:List Int):Int:=k.getD 0 0*6+k.getD 1 0
theorem fC{k:List Int}(h:k∈prs):∃a b:Int,k=[a,b]/\0<=a/\a<b/\b<6:=by
 have key:∀k∈prs,0<=k.getD 0 0/\k.getD 0 0<k.getD 1 0/\k.getD 1 0<6/\k=[k.getD 0 0,k.getD 1 0]:=by decide +kernel
 obtain⟨h1,h2,h3,h4⟩:=key k h;exact⟨_,_,h4,h1,h2,h3⟩
theorem Ah{k k':List Int}(h:k∈prs)(h':k'∈prs)(e:mZ k=mZ k'):k=k':=by
 obtain⟨a,b,rfl,h1,h2,h3⟩:=fC h;obtain⟨c,d,rfl,h4,h5,h6⟩:=fC h';have e':a*6+b=c*6+d:=e;have:a=c:=by omega
 have:b=d:=by omega
 subst_vars;rfl
section
variable{prog:Program}{w:World}{A:Around}{E:Value->Shared->Prop}{s:Shared}
theorem qZ {h:Heap}{a b:Int}{r:Addr} (t:Tk prog w h [a,b] r):∃o n t1 t2,h.get? r=some o/\o.cls=.type "tuple" /\ o.data=.seq #[.int a t1,.int b t2] n:=by
 obtain⟨o,items,n,ho,hc,hd,hi⟩:=t;cases hi':items.toList with
 |nil=>rw[hi']at hi;cases hi
 |cons v1 r1=>
  rw[hi']at hi;cases hi with
  |cons h1 t1=>
   cases t1 with
   |cons h2 t2=>
    cases t2;obtain⟨x1,e1⟩:=Gk (k:=a) h1;obtain⟨x2,e2⟩:=Gk (k:=b) h2
    have e:items=#[.int a x1,.int b x2]:=by
     apply Jy.mp;rw[hi',e1,e2]
    exact⟨o,n,x1,x2,ho,hc,by rw[hd,e]⟩
theorem zF{x y:Addr}{k k':List Int}{Q:Bool->Shared->Prop}(hx:Tk prog w s.heap k x)(hy:Tk prog w s.heap k' y)(hk:k∈prs)(hk':k'∈prs)(h:Q (decide (mZ k<mZ k')) s) :
  wpAny (model prog w) A (keyLt' (tuples' true) (.ref x) (.ref y)) Q E s:=by
 obtain⟨a,b,rfl,h1,h2,h3⟩:=fC hk;obtain⟨c,d,rfl,h4,h5,h6⟩:=fC hk';obtain⟨o,n,t1,t2,ho,_,hd⟩:=qZ hx;obtain⟨o',n',t1',t2',ho',_,hd'⟩:=qZ hy;have h':Q (decide (a*6+b<c*6+d)) s:=h;refine kat_lt ho hd ho' hd' ?_;show KatLex prog w A true (decide (2<2)) Q [(.int a t1,.int c t1'),(.int b t2,.int d t2')] 0 s;refine kat_cons (Gp ?_);by_cases e1:a=c
 ·rw [show (a == c) = true by simpa using e1];refine kat_yes (kat_cons (Gp ?_));by_cases e2:b=d
  ·rw [show (b == d) = true by simpa using e2];refine kat_yes (kat_nil ?_);have:decide (a*6+b<c*6+d)=decide (2<2):=by rw[Jz];omega
   rw[<- this];exact h'
  ·rw [show (b == d) = false by simpa using e2];refine kat_no ?_;show wpAny _ A (oneLt' false _ _) Q _ s;refine kat_one _ _ (lt_int ?_);have:decide (a*6+b<c*6+d)=decide (b<d):=by rw[Jz];omega
   show Q _ s;rw[<- this];exact h'
 ·rw [show (a == c) = false by simpa using e1];refine kat_no ?_;show wpAny _ A (keyLt' oneType' _ _) Q _ s;refine kat_lt_int ?_;have:decide (a*6+b<c*6+d)=decide (a<c):=by rw[Jz];omega
  rw[<- this];exact h'
end
def fK(ps:List KP):Prop:=ps.Pairwise fun p q=>mZ p.1<mZ q.1
def au(ps:List KP):List Value:=ps.map fun p=>Value.ref p.2
section
variable{prog:Program}{w:World}{A:Around}{E:Value->Shared->Prop}{s:Shared}
theorem sP{h:Heap}:∀{ps:List KP},(∀p∈ps,p.1∈prs)->(∀p∈ps,Tk prog w h p.1 p.2)->∃fs,KatTups h (au ps) fs/\fs.length=ps.length/\∀v∈fs,∃i t,v=Value.int i t
 |[],_,_=>⟨[],KatTups.nil,rfl,fun v hv=>by simp at hv⟩
 |p::ps,hk,ht=>by
  obtain⟨fs,h1,h2,h3⟩:=sP (ps:=ps) (fun q hq=>hk q (GD _ hq)) (fun q hq=>ht q (GD _ hq));obtain⟨a,b,e,_⟩:=fC (hk p GC);have t:=ht p GC;rw[e]at t;obtain⟨o,n,t1,t2,ho,hc,hd⟩:=qZ t;refine⟨.int a t1::fs,KatTups.cons ho hc hd rfl h1,by rw[HV,HV,h2],fun v hv=>?_⟩;rcases GE.mp hv with q|q
  ·exact⟨a,t1,q⟩
  ·exact h3 v q
theorem Cr{ps:List KP}(hk:∀p∈ps,p.1∈prs)(hn:(ps.map (·.1)).Nodup){p:Array Nat}(g:df ps.length p)(ha:vF (fun i=>mZ (ps.getD i ([],0)).1) p ps.length) :
  ∃out:List KP,(p.toList.map fun i=>(au ps).getD i Value.none)=au out/\out.Perm ps/\fK out:=by
 refine⟨p.toList.map fun i=>ps.getD i ([],0),?_,?_,?_⟩
 ·unfold au;rw[Iz];refine IA fun i hi=>?_;have hi':i<ps.length:=Gy.mp (g.perm.mem_iff.mp hi);simp[JA,hi']
 ·refine (g.perm.map _).trans ?_
  have:(List.range ps.length).map (fun i=>ps.getD i ([],0))=ps:=by
   apply JB;intro i;rw[Hj];by_cases hi:i<ps.length
   ·rw[JC hi];simp[hi]
   ·rw[JD (by simpa using hi),JD (by omega)];rfl
  rw[this]
 ·unfold fK;rw[JE];refine IG.mpr fun i j hi hj hij=>?_;have hi':i<p.size:=by simpa using hi
  have hj':j<p.size:=by simpa using hj
  have:=ha i j hij (by rw[<- g.size];exact hj');unfold at' at this;simpa[Array.getD,hi',hj'] using this
theorem rO {a:Addr}{ps:List KP}{n:Nat}{P:PySem.Fin->Shared->Prop} (ho:s.heap.get? a=some (seqObj "list" (au ps).toArray n)) (hk:∀p∈ps,p.1∈prs) (hn:(ps.map (·.1)).Nodup) (hT:∀p∈ps,Tk prog w s.heap p.1 p.2)
  (h:∀out:List KP,out.Perm ps->fK out->P (.done (.ret .none)) {s with heap:=sortedHeap s.heap a (au ps) (au out).toArray}) :
  wpAny (model prog w) A (Builtin.«list.sort» ⟨[.ref a],[]⟩) P E s:=by
 have hlen:=iK hk hn;have hvl:(au ps).length=ps.length:=by unfold au;rw[Hm]
 rw[list_sort_plain];have hal:a<s.heap.objs.size:=Gs ho;refine GR (JF ho rfl ?_);refine GR (JG ho rfl ?_ (by rw[G7,hvl];exact Gz hlen (by decide)) (Ig _));obtain⟨e1,ho1⟩:∃e1,(s.heap.update a (Obj.mapSeq fun _=>#[])).get? a=some (seqObj "list" #[] e1):=⟨_,JH ho (fun _=>#[])⟩;refine GR (JI ho1 rfl ?_);refine GR (wpAny_newTuple ?_);refine GR (JJ ?_);refine GS ?_
 have ho6:(((s.heap.update a (Obj.mapSeq fun _=>#[])).push (seqObj "tuple" (au ps).toArray 0)).push (seqObj "list" #[] 0)).get? a=some (seqObj "list" #[] e1):=by
  rw[Iv _ _ _ (by rw[JK,JL];exact Gw (HX hal)),Iv _ _ _ (by rw[JL];exact Gw hal)];exact ho1
 show wpAny (model prog w) A _ P E {s with heap:=((s.heap.update a (Obj.mapSeq fun _=>#[])).push (seqObj "tuple" (au ps).toArray 0)).push (seqObj "list" #[] 0)};dsimp only
 have hna:∀p∈ps,p.2≠a:=fun p hp e=>by
  obtain⟨o,items,m,ho',hc',_⟩:=hT p hp;rw[e,ho]at ho';have:=Gj ho';subst this;exact absurd (show Value.type "list" = Value.type "tuple" from hc') (by decide)
 generalize hS:({s with heap:=((s.heap.update a (Obj.mapSeq fun _=>#[])).push (seqObj "tuple" (au ps).toArray 0)).push (seqObj "list" #[] 0)}:Shared)=s1;have eh1:s1.heap=((s.heap.update a (Obj.mapSeq fun _=>#[])).push (seqObj "tuple" (au ps).toArray 0)).push (seqObj "list" #[] 0):=by rw[<- hS]
 have hT1:∀p∈ps,Tk prog w s1.heap p.1 p.2:=fun p hp=>by
  obtain⟨o,items,m,ho',rest⟩:=hT p hp;refine⟨o,items,m,?_,rest⟩;rw[eh1];refine GY _ (GY _ ?_);rw[JM _ _ _ _ (hna p hp)];exact ho'
 rw[<- eh1]at ho6
 have hfin:∀out:List KP,out.Perm ps->fK out->P (.done (.ret .none)) {s1 with heap:=s1.heap.update a (Obj.mapSeq fun _=>(au out).toArray)}:=fun out h1 h2=>by
  have q:=h out h1 h2;rw[<- hS];exact q
 have hszv:(au ps).toArray.size=ps.length:=by rw[G7,hvl]
 by_cases h2:(au ps).toArray.size<2
 ·rw [Gq h2, Gq h2];refine GR (GV ?_);rw[StateT.run_pure];refine GR (GV ?_);dsimp only;refine GR (JI ho6 rfl ?_)
  have eo:(arrOf (SortSt.mk' general' ((au ps).toArray.zip (au ps).toArray) #[] 7 none)).map (·.2)=(au ps).toArray:=by
   show (((au ps).toArray.zip (au ps).toArray)).map (·.2)=_;apply Jy.mp;rw[Jb,Array.toList_zip];exact List.map_snd_zip (G0 _)
  rw[eo];refine GR (JG ho6 rfl ?_ (Ig _) (by show (au ps).toArray.size<=_;rw[hszv];exact Gz hlen (by decide)));simp only[JN,HU,Hu];refine GV (hfin ps (JO _) ?_);rw[hszv]at h2
  match ps,h2 with
  |[],_=>exact List.Pairwise.nil
  |[_],_=>exact List.pairwise_singleton _ _
  |_::_::_,h=>rw[HV,HV]at h;omega
 ·rw [Gr h2, Gr h2];rw[hszv]at h2;obtain⟨fs,k1,k2,k3⟩:=sP hk hT1;refine GR (kat_kind (T:=Value.type "int") k1 (by omega) (fun v hv=>?_) (by rfl) ?_)
  ·obtain⟨i,t,e⟩:=k3 v hv;rw[e];exact .now
  ·have et : (Value.type "int" != Value.type "tuple") = true := by decide
   rw[et]
   refine GR (GM (kat_run (ks:=au ps) (vs:=au ps) (Q:=fun st' s'=>s'=s1/\failedOf st'=none/\∃out:List KP,out.Perm ps/\fK out/\(arrOf st').map (·.2)=(au out).toArray)
    (G:=fun p s'=>s'=s1/\∃out:List KP,(p.toList.map fun i=>(au ps).getD i Value.none)=au out/\out.Perm ps/\fK out) rfl (by rw[hvl];omega) (by rw[hvl];omega) ?_ ?_) ?_ fun _ _ e=>e)
   ·rintro p st' s' hp har hf ⟨e, out, o1, o2, o3⟩
    exact⟨e,hf,out,o2,o3,by rw[kat_snds rfl har,o1]⟩
   ·rw [hvl];refine sW (key:=fun i=>mZ (ps.getD i ([],0)).1) (fun i j hi hj e=>?_) (fun i j hi hj C hC=>?_) (by omega) _ (fun p g ha=>⟨rfl,Cr hk hn g ha⟩)
    ·have hi' : ps.getD i ([], 0) = ps[i] := by simp [JA, hi]
     have hj':ps.getD j ([],0)=ps[j]:=by simp[JA,hj]
     simp only[hi',hj']at e;have e2:=Ah (hk _ (JP hi)) (hk _ (JP hj)) e;have hil:i<(ps.map (·.1)).length:=by rw[Hm];exact hi
     have hjl:j<(ps.map (·.1)).length:=by rw[Hm];exact hj
     exact(GJ (h₀:=hil) (h₁:=hjl) hn).mp (by simpa using e2)
    ·unfold kas_ask;have gi:(au ps).getD i Value.none=.ref ps[i].2:=by unfold au;simp[JA,hi]
     have gj:(au ps).getD j Value.none=.ref ps[j].2:=by unfold au;simp[JA,hj]
     have hi':ps.getD i ([],0)=ps[i]:=by simp[JA,hi]
     have hj':ps.getD j ([],0)=ps[j]:=by simp[JA,hj]
     rw[gi,gj];simp only[hi',hj']at hC;exact zF (hT1 _ (JP hi)) (hT1 _ (JP hj)) (hk _ (JP hi)) (hk _ (JP hj)) hC
   ·rintro ⟨⟨⟩, st'⟩ s' ⟨rfl, hf, out, o1, o2, o3⟩
    dsimp only;refine GR (JI ho6 rfl ?_);rw[o3];refine GR (JG ho6 rfl ?_ (Ig _) (by show (au out).toArray.size<=_;rw[G7];unfold au;rw[Hm,o1.length_eq];exact Gz hlen (by decide)));rw[hf];simp only[JN,HU,Hu];exact GV (hfin out o1 o2)
end
end RS
namespace RS
open PySem PySem.W PyProof.Rows
namespace Fx
theorem slot_setiter_next:Slot "set_iterator" "__next__" "set_iterator.__next__" :=
 .of (owner:="set_iterator") (n:="__next__") (by rw[typeLookup_type,builtinLookup_eq_fast];kernel_rfl) (by decide +kernel) (by decide +kernel) (by decide +kernel)
  (by first|exact .inl (by decide +kernel)|exact .inr (by decide +kernel)) (by rw[Jq];kernel_rfl)
theorem entry_setiter_next:entryFor table "set_iterator.__next__" = some Builtin.«set_iterator.__next__»:=entryFor_of_fast (by kernel_rfl)
theorem args_setiter_next (a:Value):argsOk "set_iterator.__next__" ⟨[a],[]⟩:=by unfold argsOk;kernel_rfl
theorem entry_set_iter:entryFor table "set.__iter__" = some Builtin.«frozenset.__iter__»:=
 entryFor_alias (id':="frozenset.__iter__") (by kernel_rfl) rfl (by decide +kernel) (by kernel_rfl)
end Fx
def cL (h:Heap) (I S:Addr) (i n ep slot:Nat):Prop:=h.get? I=some {cls:=.type "set_iterator",dict:=none,data:=.fields #[.int (slot:Int) 0,.int (i:Int) 0,.ref S,.int (n:Int) 0,.int (ep:Int) 0],slots:=#[]}
def cM (w:World) (S:Addr) (ep:Nat) (es:Array (Int×Value)):List (Int×Value):=if w.params.followText "set-order" then (pickOrder (w.params.setOrder S ep) es).toList else es.toList
def cq (w:World) (Z:List (Nat×Int×Value)) (i:Nat):Nat:=if w.params.followText "set-order" then 0 else if i=0 then 0 else (Z.getD (i-1) (0,0,.none)).1+1
theorem nt{α:Type}(next:Nat->Nat):∀(fuel k:Nat)(left:List α)(out:Array α),left.length=fuel->(pickOrder.go next fuel k left out).toList.Perm (out.toList++left)
 |0,k,left,out,h=>by
  have:left=[]:=List.length_eq_zero_iff.mp h;subst this;show out.toList.Perm (out.toList++[]);rw[G8]
 |fuel+1,k,left,out,h=>by
  have hlt:next k%left.length<left.length:=Nat.mod_lt _ (by omega)
  show (match left[next k%left.length]? with|some x=>_|none=>_:Array α).toList.Perm _;rw[JQ hlt];show (pickOrder.go next fuel (k+1) (left.eraseIdx (next k%left.length)) (out.push left[next k%left.length])).toList.Perm _;refine(nt next fuel (k+1) _ _ (by rw[List.length_eraseIdx_of_lt hlt];omega)).trans ?_;rw[Array.toList_push,HK];refine List.Perm.append_left _ ?_;rw[List.singleton_append,List.eraseIdx_eq_take_drop_succ]
  have q:(left.take (next k%left.length)++left[next k%left.length]::left.drop (next k%left.length+1))=left:=by
   rw[List.getElem_cons_drop];exact IR _ _
  have q2:=(List.perm_middle (a:=left[next k%left.length]) (l₁:=left.take (next k%left.length)) (l₂:=left.drop (next k%left.length+1))).symm;rw[q]at q2;exact q2
theorem iq{w:World}{S:Addr}{ep:Nat}{es:Array (Int×Value)}:(cM w S ep es).Perm es.toList:=by
 unfold cM;split
 ·have:=nt (w.params.setOrder S ep) es.size 0 es.toList #[] (by simp);simpa[pickOrder] using this
 ·exact JO _
theorem yg {t:SetTable}{es:Array (Int×Value)}{Z:List (Nat×Int×Value)} (T:m3 t es Z) {w:World} (hb:w.params.followText "set-order" = false) {i:Nat} (hi:i<=Z.length):SetTable.below t.place (cq w Z i)=i:=by
 have r:yl t.place.toList:=by rw[T.place];exact T.ris
 obtain⟨b1,b2,b3⟩:=jn r (cq w Z i);have hsz:=T.size.1
 have gz:∀k,k<Z.length->t.place.getD k (cq w Z i)=(Z.getD k (0,0,.none)).1:=fun k hk=>by
  have e:t.place[k]?=some (Z[k]).1:=by rw[<- Iu,T.place,Hj,JQ hk];rfl
  rw[IW,e,JA,JQ hk];rfl
 have hris:∀a b,a<b->b<Z.length->(Z.getD a (0,0,.none)).1<(Z.getD b (0,0,.none)).1:=fun a b hab hbz=>by
  rw[<- gz a (by omega),<- gz b hbz];exact oj r _ a b hab (by omega)
 have hs:cq w Z i=if i=0 then 0 else (Z.getD (i-1) (0,0,.none)).1+1:=by
  unfold cq;rw[hb,Gr G6]
 by_cases h0:i=0
 ·rw [Gq h0] at hs;rw[hs]at b2⊢;by_cases hz:SetTable.below t.place 0=0
  ·rw[hz,h0]
  ·have:=b2 0 (by omega);omega
 ·rw [Gr h0] at hs
  have hlo:¬ SetTable.below t.place (cq w Z i)<=i-1:=fun hle=>by
   have:=b3 (i-1) hle (by omega);rw[gz _ (by omega)]at this;omega
  have hhi:¬ i<SetTable.below t.place (cq w Z i):=fun hlt=>by
   have:=b2 i hlt;have hiz:i<Z.length:=by omega
   rw[gz i hiz]at this;have:=hris (i-1) i (by omega) hiz;omega
  omega
section
variable{prog:Program}{w:World}{A:Around}{E:Value->Shared->Prop}{s:Shared}
theorem pO{a:Addr}{ps:List (Int×Value)}{o es ep t Z}{i:Nat}{Q:Option (Value×Nat)->Shared->Prop}(S:cT w s.heap a ps o es ep t Z)(hi:i<=Z.length)
  (h:Q (((cM w a ep es)[i]?).map fun e=>(e.2,cq w Z (i+1))) s):wpAny (model prog w) A (setNext a (cq w Z i) i ep) Q E s:=by
 unfold setNext;refine GR (Jg S.ho S.hd S.fits ?_);dsimp only;unfold setsByText;refine GR (GR (Ic (GV ?_)));cases hb:w.params.followText "set-order" with
 |true=>
  have e1:cM w a ep es=(pickOrder (w.params.setOrder a ep) es).toList:=by unfold cM;rw[hb,Gq rfl]
  have e2:∀j,cq w Z j=0:=fun j=>by unfold cq;rw[hb,Gq rfl]
  rw[e1,e2]at h;show wpAny _ _ (if (w.params.followText "set-order")=true then _ else _) _ _ _;rw[hb,Gq rfl];rw[Gr (by simp)];refine GR ?_;unfold setWalk;refine GR (Jg S.ho S.hd S.fits ?_);dsimp only;unfold setsByText;refine GR (GR (Ic (GV ?_)));show wpAny _ _ (if (w.params.followText "set-order")=true then _ else _) _ _ _;rw[hb,Gq rfl];refine GR (Ic (GV (GV ?_)));rw[e2,<- Iu];exact h
 |false=>
  have e1:cM w a ep es=es.toList:=by unfold cM;rw[hb,Gr G6]
  have hled:t.led=true:=by rw[S.led,hb];rfl
  show wpAny _ _ (if (w.params.followText "set-order")=true then _ else _) _ _ _;rw[hb,Gr G6];have hdr:(!t.plain&&decide (es.size>1))=false:=by rw[S.plain];rfl
  show wpAny _ _ (if (!t.plain&&decide (es.size>1))=true then _ else _) _ _ _;rw[hdr,Gr G6];refine GR ?_;show wpAny _ _ (if (!t.led && !es.isEmpty)=true then _ else _) _ _ _;rw[hled];simp only[Je,Bool.false_and,HU,Hu];refine GV (GV ?_);rw[yg S.tab hb hi];rw[e1,Iu]at h;by_cases hlt:i<Z.length
  ·have ez : Z[i]? = some Z[i] := JQ hlt;have ee:=S.tab.hashAt ez;have ep':t.place[i]?=some (Z[i]).1:=by rw[<- Iu,S.tab.place,Hj,ez];rfl
   rw[ee,ep'];rw[ee]at h
   have es':cq w Z (i+1)=(Z[i]).1+1:=by
    unfold cq;rw[hb,Gr G6,Gr (by omega),Nat.add_sub_cancel,JA,ez];rfl
   rw[es']at h;exact h
  ·have : es[i]? = none := by rw [IZ, S.tab.size.2]; omega
   rw[this];rw[this]at h;exact h
end
end RS
namespace RS
open PySem PySem.W PyProof.Rows
section
variable{prog:Program}{w:World}{A:Around}{E:Value->Shared->Prop}{s:Shared}
theorem cL.typeIs {I S:Addr}{i n ep slot:Nat} (h:cL s.heap I S i n ep slot):s.TypeIs (.ref I) "set_iterator" := ⟨_,h,rfl⟩
theorem eK {a:Addr}{ps:List (Int×Value)}{o es ep t Z} (S:cT w s.heap a ps o es ep t Z):s.TypeIs (.ref a) "set" := ⟨o,S.ho,S.ex.1⟩
theorem xm{a:Addr}{ps:List (Int×Value)}{o es ep t Z}{Q:Value->Shared->Prop}(S:cT w s.heap a ps o es ep t Z)
  (hQ:Q (.ref s.heap.objs.size) {s with heap:=s.heap.push {cls:=.type "set_iterator",data:=.fields #[.int ((0:Nat):Int) 0,.int ((0:Nat):Int) 0,.ref a,.int (Z.length:Int) 0,.int (ep:Int) 0]}}) :
  wpAny (model prog w) A (pyIter (.ref a)) Q E s:=by
 refine wpAny_pyIter_slot (eK S) PySem.F.slot_set_iter (HA PySem.F.slot_set_iter (eK S) Fx.entry_set_iter ?_ (PySem.F.args_set_iter_1 _));unfold Builtin.«frozenset.__iter__» Builtin.Frozenset.sizeOf;refine GR (m:=Builtin.Frozenset.slot0 "__iter__" _) (Io (a:=a) rfl ?_);refine GR (GR (JR S.ho S.hd S.fits (GV ?_)));unfold setDrawn;refine GR (GR (Jg S.ho S.hd S.fits ?_));dsimp only;unfold setsByText;refine GR (GR (Ic (GV (GV ?_))));have hdr:(!w.params.followText "set-order" && (!t.plain&&decide (es.size>1)))=false:=by rw[S.plain];simp
 show wpAny _ _ (if (!w.params.followText "set-order" && (!t.plain&&decide (es.size>1)))=true then _ else _) _ _ _;rw[hdr,Gr G6];refine GR (GV ?_);refine GR (wpAny_setEpoch_of S.ho S.hd S.fits ?_);refine GR (HD (GV ⟨_,rfl, "set_iterator",_,⟨_,GZ _ rfl,rfl⟩,Fx.slot_setiter_next.lookup,?_⟩));rw[S.tab.size.2];exact hQ
theorem xn{I a:Addr}{ps:List (Int×Value)}{o es ep t Z}{i:Nat}{v:Int×Value}{Q:Option Value->Shared->Prop}(S:cT w s.heap a ps o es ep t Z)(hit:cL s.heap I a i Z.length ep (cq w Z i))(hv:(cM w a ep es)[i]?=some v)
  (hQ:∀h',cL h' I a (i+1) Z.length ep (cq w Z (i+1))->Heap.SameBut I s.heap h'->Q (some v.2) {s with heap:=h'}):wpAny (model prog w) A (pyNext (.ref I)) Q E s:=by
 have hT:=hit.typeIs;have hoi:=hit;unfold cL at hoi
 have hil:i<Z.length:=by
  have:=(GI.mp hv).1;rw[iq.length_eq,GO,S.tab.size.2]at this;exact this
 unfold pyNext;refine GR (wpAny_attempt (Hx (name:=Str.ofString "__next__") hT Fx.slot_setiter_next (HA Fx.slot_setiter_next hT Fx.entry_setiter_next ?_ (Fx.args_setiter_next _))));unfold Builtin.«set_iterator.__next__»;refine GR (m:=slotArgs "__next__" 0 _) (Io (a:=(.ref I,[])) rfl ?_);dsimp only;unfold fieldsOf;refine GR (GR (GX hoi ?_));refine GV ?_;refine GR (JR S.ho S.hd S.fits ?_);rw[S.tab.size.2];simp only[JN,HU,Hu,Hs];refine GR (pO S (GA hil) ?_);rw[hv];dsimp only[Option.map_some];refine GR (JS hoi (by simp) fun h1 e1 sb1=>?_);refine GR (JS (s:={s with heap:=h1}) e1 (by simp) fun h2 e2 sb2=>?_);refine GV ⟨v.2,rfl,GV (hQ h2 ?_ (sb1.trans sb2))⟩;unfold cL;rw[e2];simp[rawInt]
theorem zf{I a:Addr}{ps:List (Int×Value)}{o es ep t Z}{Q:Option Value->Shared->Prop}(hh:A.handled=none)(S:cT w s.heap a ps o es ep t Z)(hit:cL s.heap I a Z.length Z.length ep (cq w Z Z.length))
  (hQ:∀h',Heap.ExtBut I s.heap h'->Q none {s with heap:=h'}):wpAny (model prog w) A (pyNext (.ref I)) Q E s:=by
 have hT:=hit.typeIs;have hoi:=hit;unfold cL at hoi
 have hv:(cM w a ep es)[Z.length]?=none:=by
  rw[List.getElem?_eq_none_iff,iq.length_eq,GO,S.tab.size.2];exact G0 _
 unfold pyNext;refine GR (wpAny_attempt (Hx (name:=Str.ofString "__next__") hT Fx.slot_setiter_next (HA Fx.slot_setiter_next hT Fx.entry_setiter_next ?_ (Fx.args_setiter_next _))));unfold Builtin.«set_iterator.__next__»;refine GR (m:=slotArgs "__next__" 0 _) (Io (a:=(.ref I,[])) rfl ?_);dsimp only;unfold fieldsOf;refine GR (GR (GX hoi ?_));refine GV ?_;refine GR (JR S.ho S.hd S.fits ?_);rw[S.tab.size.2];simp only[JN,HU,Hu,Hs];refine GR (pO S (G0 _) ?_);rw[hv];dsimp only[Option.map_none];refine GR (JS hoi (by simp) fun h1 e1 sb1=>?_);refine GR ?_;simp only[newExc,newTuple];refine GR (HD ?_ (by size_fits));refine GR (m:=firstArgMember _ _) (Io (a:=Value.none) (by first|rfl|(simp only[firstArgMember];rfl)) ?_);refine HD ?_ (by size_fits);simp only[raiseNew];refine GR (wpAny_handled ?_);rw[show A.in1.handled=none from hh];refine GR (GV (wpAny_throw ?_));refine GR (wpAny_isInstance (T:="StopIteration") (b:=true) ⟨_,GZ _ rfl,rfl⟩ isSubtype_stop ?_);exact GV (hQ _ ((sb1.extBut.push _).push _))
end
end RS
namespace RS
open PySem PySem.W PyProof.Rows
namespace Fx
theorem entry_extend_loop:entryFor table "list.extend.loop" = some Builtin.«list.extend.loop»:=entryFor_of_fast (by kernel_rfl)
theorem plain_extend_loop:plainId "list.extend.loop" = true:=by decide +kernel
theorem split_set_len:splitId "set.__len__" = some ("set", "__len__"):=by decide +kernel
end Fx
section
variable{prog:Program}{w:World}{A:Around}{E:Value->Shared->Prop}{s:Shared}
theorem qF{a:Addr}{ps:List (Int×Value)}{o es ep t Z}{Q:Bool->Shared->Prop}(S:cT w s.heap a ps o es ep t Z)(h:Q false s):wpAny (model prog w) A (Builtin.List.listLengthHint (.ref a)) Q E s:=by
 unfold Builtin.List.listLengthHint;refine GR (wpAny_specialOf (eK S) PySem.F.slot_set_len.lookup ?_);dsimp only;rw[Fx.split_set_len];dsimp only;refine GR (wpAny_isInstance (eK S) sub_set_self ?_);simp only[Je,HU,Hu];rw[Gq (by rfl)];refine GR (HB (eK S) ?_);exact GV h
theorem qG{R:Result->Shared->Prop}{I a L:Addr}{ps:List (Int×Value)}{o es ep t Z}(hh:A.handled=none)(hIa:I≠a)(hIL:I≠L)(hLa:L≠a)(hz:Z.length<=100) :
  ∀(k i n:Nat) (s:Shared),Z.length-i=k->i<=Z.length->cT w s.heap a ps o es ep t Z->cL s.heap I a i Z.length ep (cq w Z i)->s.heap.get? L=some (seqObj "list" (((cM w a ep es).take i).map (·.2)).toArray n) ->
   (∀h' m,(∀b u,b≠I->b≠L->s.heap.get? b=some u->h'.get? b=some u)->h'.get? L=some (seqObj "list" ((cM w a ep es).map (·.2)).toArray m)->R (.ok (.ret (.ref L))) {s with heap:=h'}) ->
   codeAny (model prog w) A (.builtin "list.extend.loop" ⟨[.ref L,.ref I,.ref L],[]⟩) R s:=by
 intro k
 induction k with
 |zero=>
  intro i n s ek hi S hit hL hR;have e:i=Z.length:=by omega
  subst e;refine Jn Fx.entry_extend_loop ?_;rw[Jo Fx.plain_extend_loop _];show wpAny _ A.in1 (pyNext (.ref I) >>= _) _ _ s;refine GR (zf (by simpa using hh) S hit fun h' eb=>?_);show wpAny _ A.in1 (ret (.ref L)) _ _ _;refine GV (hR h' n (fun b u hb _ q=>eb b u hb q) ?_);rw[II (by rw[iq.length_eq,GO,S.tab.size.2];exact G0 _)]at hL;exact eb L _ (GF hIL) hL
 |succ k ih=>
  intro i n s ek hi S hit hL hR;have hil:i<(cM w a ep es).length:=by rw[iq.length_eq,GO,S.tab.size.2];omega
  refine Jn Fx.entry_extend_loop ?_;rw[Jo Fx.plain_extend_loop _];show wpAny _ A.in1 (pyNext (.ref I) >>= _) _ _ s;refine GR (xn S hit (JQ hil) fun h' hit' sb=>?_);have hL':h'.get? L=some (seqObj "list" (((cM w a ep es).take i).map (·.2)).toArray n):=(sb.2 L (GF hIL)).trans hL
  have hsz:(((cM w a ep es).take i).map (·.2)).toArray.size<=100:=by
   rw[G7,Hm,Hf];omega
  show wpAny _ A.in1 (Builtin.List.listUpdate (.ref L) _ >>= _) _ _ _;refine GR (JG (s:={s with heap:=h'}) hL' rfl ?_ (Gz hsz (by decide)) (by rw[Array.size_push];exact Gz (Nat.succ_le_succ hsz) (by decide)));have hL2:=JH hL' (·.push ((cM w a ep es)[i]).2)
  have eL:(((cM w a ep es).take i).map (·.2)).toArray.push ((cM w a ep es)[i]).2=(((cM w a ep es).take (i+1)).map (·.2)).toArray:=by
   have q:(cM w a ep es).take (i+1)=(cM w a ep es).take i++[(cM w a ep es)[i]]:=by rw[Jv,JQ hil];rfl
   rw[q,IT,List.push_toArray];rfl
  rw[eL]at hL2;have hsb2:=Im h' L (Obj.mapSeq (·.push ((cM w a ep es)[i]).2));refine GV ⟨plainId_quiet Fx.plain_extend_loop _,ih (i+1) _ _ (by omega) (by omega) ?_ ?_ hL2 fun h'' m kk hm=>?_⟩
  ·refine⟨?_,S.ex,S.hd,S.tab,S.plain,S.led,S.big,S.perm⟩;exact(hsb2.2 a (GF hLa)).trans ((sb.2 a (GF hIa)).trans S.ho)
  ·exact(hsb2.2 I hIL).trans hit'
  ·refine hR h'' m (fun b u hb1 hb2 q=>kk b u hb1 hb2 ?_) hm;exact(hsb2.2 b hb2).trans ((sb.2 b hb1).trans q)
theorem jW{α β:Type}{f:α->β}{l m:List β}(h:l.Perm m):∀ps:List α,m=ps.map f->∃qs:List α,qs.Perm ps/\l=qs.map f:=by
 induction h with
 |nil=>
  intro ps e;have:ps=[]:=List.map_eq_nil_iff.mp e.symm;exact⟨[],by rw[this],rfl⟩
 |cons x _ ih=>
  intro ps e;cases ps with
  |nil=>cases e
  |cons p ps=>
   rw[HF]at e;obtain⟨qs,h1,h2⟩:=ih ps (IE e).2;exact⟨p::qs,h1.cons p,by rw[HF,<- h2,(IE e).1]⟩
 |swap x y l=>
  intro ps e
  match ps,e with
  |p::q::r,e=>
   rw[HF,HF]at e;obtain⟨e1,e2⟩:=IE e;obtain⟨e2,e3⟩:=IE e2;exact⟨q::p::r,List.Perm.swap _ _ _,by rw[HF,HF,e1,e2,e3]⟩
 |trans _ _ ih1 ih2=>
  intro ps e;obtain⟨qs,h1,h2⟩:=ih2 ps e;obtain⟨rs,h3,h4⟩:=ih1 qs h2;exact⟨rs,h3.trans h1,h4⟩
theorem kK{a:Addr}{ps:List (Int×Value)}{o es ep t Z}{Q:List Value->Shared->Prop}(hh:A.handled=none)(S:cT w s.heap a ps o es ep t Z)(hz:Z.length<=100)
  (h:∀qs:List (Int×Value),qs.Perm ps->∀h',(∀b u,s.heap.get? b=some u->h'.get? b=some u)->s.heap.objs.size<=h'.objs.size->Q (qs.map (·.2)) {s with heap:=h'}):wpAny (model prog w) A (collect (.ref a)) Q E s:=by
 have hal:a<s.heap.objs.size:=Gs S.ho;unfold collect;refine GR (Ju (Jn entry_proto_collect' ?_));show wpAny _ _ (do again (.builtin "list.__iadd__" ⟨[<- newList [],.ref a],[]⟩)) _ _ s;refine GR (JJ (GV ⟨Js _ (by decide +kernel),Jn entry_list_iadd' ?_⟩));show wpAny _ _ (Builtin.List.listExtendWith (.ref s.heap.objs.size) (.ref a) (.ref s.heap.objs.size)) _ _ {s with heap:=s.heap.push (seqObj "list" #[] 0)};have S1:cT w (s.heap.push (seqObj "list" #[] 0)) a ps o es ep t Z:=⟨GY _ S.ho,S.ex,S.hd,S.tab,S.plain,S.led,S.big,S.perm⟩;unfold Builtin.List.listExtendWith;refine GR (HB (eK (s:={s with heap:=s.heap.push (seqObj "list" #[] 0)}) S1) ?_)
 have hsame:Builtin.List.listSameRef (.ref s.heap.objs.size) (.ref a)=false:=by
  show (s.heap.objs.size == a)=false;simpa using GU hal
 rw[hsame,Gr (by decide)];refine GR (xm (s:={s with heap:=s.heap.push (seqObj "list" #[] 0)}) S1 ?_);dsimp only;generalize hH:(s.heap.push (seqObj "list" #[] 0)).push {cls:=.type "set_iterator",data:=.fields #[.int ((0:Nat):Int) 0,.int ((0:Nat):Int) 0,.ref a,.int (Z.length:Int) 0,.int (ep:Int) 0]}=H2;have eI:(s.heap.push (seqObj "list" #[] 0)).objs.size=s.heap.objs.size+1:=by rw[JK]
 have hk2:∀b u,s.heap.get? b=some u->H2.get? b=some u:=fun b u q=>by rw[<- hH];exact GY _ (GY _ q)
 have S2:cT w H2 a ps o es ep t Z:=⟨hk2 a o S.ho,S.ex,S.hd,S.tab,S.plain,S.led,S.big,S.perm⟩;have hL2:H2.get? s.heap.objs.size=some (seqObj "list" #[] 0):=by rw[<- hH];exact GY _ (GZ _ rfl)
 have hI2:H2.get? (s.heap.objs.size+1)=some {cls:=.type "set_iterator",data:=.fields #[.int ((0:Nat):Int) 0,.int ((0:Nat):Int) 0,.ref a,.int (Z.length:Int) 0,.int (ep:Int) 0]}:=by
  rw[<- hH,<- eI];exact GZ _ rfl
 rw[eI];refine GR (GS (qF (s:={s with heap:=H2}) S2 ?_));rw[Gq (by rfl)];refine GR (Ie ?_);refine GR ?_;unfold Builtin.List.listTouch;refine GR (JG (s:={s with heap:=H2}) hL2 rfl ?_ (Ig _) (by decide));have hL3:=JH hL2 (·.push Value.none);refine JG (s:={s with heap:=H2.update s.heap.objs.size (Obj.mapSeq (·.push Value.none))}) hL3 rfl ?_ (by decide) (by decide);have hL4:=JH hL3 (·.pop);have sb3:=Im H2 s.heap.objs.size (Obj.mapSeq (·.push Value.none));have sb4:=(sb3.trans (Im (H2.update s.heap.objs.size (Obj.mapSeq (·.push Value.none))) s.heap.objs.size (Obj.mapSeq (·.pop))));generalize hH4:(H2.update s.heap.objs.size (Obj.mapSeq (·.push Value.none))).update s.heap.objs.size (Obj.mapSeq (·.pop))=H4 at hL4 sb4;have neL:a≠s.heap.objs.size:=Gw hal;have neI:s.heap.objs.size+1≠s.heap.objs.size:=Nat.succ_ne_self _;refine GV ⟨Js _ (by decide +kernel),?_⟩
 refine qG (by simpa using hh) (GU (HX hal)) neI (GF neL) hz (Z.length-0) 0 _ {s with heap:=H4} (by omega) (Ig _)
  ⟨(sb4.2 a neL).trans S2.ho,S.ex,S.hd,S.tab,S.plain,S.led,S.big,S.perm⟩ ?_ (by rw[List.take_zero];exact hL4) fun h' m kk hm=>?_
 ·unfold cL;have e0:cq w Z 0=0:=by unfold cq;split <;> simp
  rw[e0];exact(sb4.2 _ neI).trans hI2
 ·dsimp only;refine GR (GX hm ?_);refine GV ?_;have hp:(cM w a ep es).Perm ps:=iq.trans (by rw[S.tab.ents];exact S.perm)
  have fin:=h (cM w a ep es) hp h' fun b u q=>by
   have hb:b<s.heap.objs.size:=Gs q;exact kk b u (Gw (HX hb)) (Gw hb) ((sb4.2 b (Gw hb)).trans (hk2 b u q))
  exact fin (GA (Gs hm))
theorem qH{a:Addr}{ps:List KP}{Q:List Value->Shared->Prop}(hh:A.handled=none)(S:dw w s.heap a ps)
  (h:∀qs:List KP,qs.Perm ps->∀h',(∀b u,s.heap.get? b=some u->h'.get? b=some u)->s.heap.objs.size<=h'.objs.size->Q (au qs) {s with heap:=h'}):wpAny (model prog w) A (collect (.ref a)) Q E s:=by
 obtain⟨o,es,ep,t,Z,S,hk,hn⟩:=S;have h15:=iK hk hn;refine kK hh S (by rw[S.len,Hm];omega) fun qs hq h' k1 k2=>?_;obtain⟨rs,q1,q2⟩:=jW hq ps rfl;have q3:qs.map (·.2)=au rs:=by rw[q2,Iz];rfl
 rw[q3];exact h rs q1 h' k1 k2
theorem ux{x:Value}{ps:List KP}{Q:Value->Shared->Prop}(hk:∀p∈ps,p.1∈prs)(hn:(ps.map (·.1)).Nodup)(hT:∀p∈ps,Tk prog w s.heap p.1 p.2)
  (hcol:∀Q':List Value->Shared->Prop,(∀qs:List KP,qs.Perm ps->∀h',(∀b u,s.heap.get? b=some u->h'.get? b=some u)->s.heap.objs.size<=h'.objs.size->Q' (au qs) {s with heap:=h'})->wpAny (model prog w) A.in1 (collect x) Q' E s)
  (h:∀out:List KP,out.Perm ps->fK out->∀h' D,s.heap.objs.size<=D->(∀b u,s.heap.get? b=some u->h'.get? b=some u)->(∃n,h'.get? D=some (seqObj "list" (au out).toArray n))->Q (.ref D) {s with heap:=h'}) :
  wpAny (model prog w) A (call (.builtin "sorted") [x]) Q E s:=by
 refine JT JU JV JW (JX _) ?_;unfold Builtin.«sorted»;refine GR (m:=checkCount "sorted" 1 1 _) (GV ?_);refine GR (hcol _ fun qs hqs h1 k1 hsz=>?_);have hkq:∀p∈qs,p.1∈prs:=fun p hp=>hk p (hqs.mem_iff.mp hp);have hnq:(qs.map (·.1)).Nodup:=(hqs.map _).nodup_iff.mpr hn;have hlen:=iK hkq hnq;have hvl:(au qs).length<=15:=by unfold au;rw[Hm];exact hlen
 refine GR (JJ ?_ (Gz hvl (by decide)));have hoL:(h1.push (seqObj "list" (au qs).toArray 0)).get? h1.objs.size=some (seqObj "list" (au qs).toArray 0):=GZ _ rfl;have hnn:∀b u,h1.get? b=some u->b≠h1.objs.size:=fun b u q=>Gw (Gs q);refine GR (GS (HA JY (s:={s with heap:=h1.push (seqObj "list" (au qs).toArray 0)}) ⟨_,hoL,rfl⟩ JZ ?body (J0 _)))
 case body=>
  refine rO (s:={s with heap:=h1.push (seqObj "list" (au qs).toArray 0)}) hoL hkq hnq (fun p hp=>?_) fun out h2 h3=>?_
  ·obtain⟨o,its,n,ho,rest⟩:=hT p (hqs.mem_iff.mp hp);exact⟨o,its,n,GY _ (k1 _ _ ho),rest⟩
  ·refine ⟨_, rfl, GV ⟨_, rfl, h out (h2.trans hqs) h3 _ h1.objs.size hsz (fun b u q => ?_) ?_⟩⟩
   ·have hb:=hnn b u (k1 b u q);unfold sortedHeap;rw[JM _ _ _ _ hb];refine GY _ (GY _ ?_);rw[JM _ _ _ _ hb];exact GY _ (k1 b u q)
   ·unfold sortedHeap;have g1:=JH hoL (fun _=>#[]);have g2:=GY (seqObj "list" #[] 0) (GY (seqObj "tuple" (au qs).toArray 0) g1);exact⟨_,JH g2 (fun _=>(au out).toArray)⟩
theorem rM{a:Addr}{ps:List KP}{Q:Value->Shared->Prop}(hh:A.handled=none)(S:dw w s.heap a ps)(hT:∀p∈ps,Tk prog w s.heap p.1 p.2)
  (h:∀out:List KP,out.Perm ps->fK out->∀h' D,s.heap.objs.size<=D->(∀b u,s.heap.get? b=some u->h'.get? b=some u)->(∃n,h'.get? D=some (seqObj "list" (au out).toArray n))->Q (.ref D) {s with heap:=h'}) :
  wpAny (model prog w) A (call (.builtin "sorted") [.ref a]) Q E s:=by
 obtain⟨o,es,ep,t,Z,S0,hk,hn⟩:=id S;exact ux hk hn hT (fun Q' hq=>qH (by simpa using hh) S hq) h
end
end RS
namespace RS
open PySem PySem.W PyProof.Rows
theorem m3.free{t:SetTable}{es:Array (Int×Value)}{Z:List (Nat×Int×Value)}(T:m3 t es Z){h:Int}(cov:∀j,j<=t.mask->j∈bL t.mask h)(hz:Z.length<=t.mask)(hA:Nat->Int)(hne:∀i,hA i≠h) :
  ∃j pre post,t.probe hA h (t.probeStart h)=some (.empty j none)/\j<=t.mask/\j∉Z.map (·.1)/\bL t.mask h=pre++j::post/\∀k∈pre,k∈Z.map (·.1):=by
 obtain⟨j0,hj0,hn0⟩:=nE (m:=t.mask) (l:=Z.map (·.1)) (by rw[Hm];exact hz);obtain⟨pre,j,post,e,hs,hp⟩:=gY (fun j=>j∉Z.map (·.1)) (bL t.mask h) ⟨j0,cov j0 hj0,hn0⟩
 have el:(tY t.mask (SetTable.turns t.mask) (SetTable.bits h%(t.mask+1)) (SetTable.bits h)).length=pre.length+1+post.length:=by
  show (bL t.mask h).length=_;rw[e,Hl,HV];omega
 have hw:fF t (pre.length+1+post.length) (t.probeStart h)=pre++j::post:=by
  have q:=lZ t (SetTable.turns t.mask) (SetTable.bits h%(t.mask+1)) (SetTable.bits h) none;rw[el]at q;exact q.trans e
 have hlen:pre.length<10*SetTable.turns t.mask:=by
  have q:=oi t.mask (SetTable.turns t.mask) (SetTable.bits h%(t.mask+1)) (SetTable.bits h);omega
 have occ:∀k∈pre,k∈Z.map (·.1):=fun k hk=>IL fun q=>hp k hk q
 have hpre:∀k∈pre,∃i,t.slot k=.live i/\hA i≠h:=fun k hk=>by
  obtain⟨z,hzm,ez⟩:=IJ.mp (occ k hk);obtain⟨i,hi⟩:=IP hzm;exact⟨i,ez ▸ T.slot_live hi,hne i⟩
 obtain⟨g1,g2⟩:=ot t hA h pre j post (10*SetTable.turns t.mask) (t.probeStart h) hw hlen rfl hpre;exact⟨j,pre,post,g1 (T.slot_empty hs),gC (h:=h) (by rw[e];simp),hs,e,occ⟩
abbrev KI:=Int×Tok
def vL(p:KI):Int×Value:=(hashInt p.1,Value.int p.1 p.2)
def ins:List Int:=[0,1,2,3,4,5]
theorem Ab{i:Int}:i∈ins↔0<=i/\i<6:=by
 unfold ins;simp only[GE,Iq,Ir];omega
def Be(mask:Nat):Bool:=ins.all fun k=>(List.range (mask+1)).all fun j=>(bL mask (hashInt k)).contains j
theorem EK:Be 7=true:=by decide +kernel
theorem wR:Be 31=true:=by decide +kernel
theorem ox{mask:Nat}(h:Be mask=true){k:Int}(hk:k∈ins):∀j,j<=mask->j∈bL mask (hashInt k):=fun j hj=>by
 have a:=Jd.mp h k hk;have b:=Jd.mp a j (Gy.mpr (by omega));simpa using b
theorem nB{a b:Int}(ha:a∈ins)(hb:b∈ins)(e:hashInt a=hashInt b):a=b:=by
 have key:∀x∈ins,∀y∈ins,hashInt x=hashInt y->x=y:=by decide +kernel
 exact key a ha b hb e
def b8(w:World)(h:Heap)(a:Addr)(ps:List KI):Prop:=∃o es ep t Z,cT w h a (ps.map vL) o es ep t Z/\(∀p∈ps,p.1∈ins)/\(ps.map (·.1)).Nodup
theorem ir{ps:List KI}(hk:∀p∈ps,p.1∈ins)(hn:(ps.map (·.1)).Nodup):ps.length<=6:=by
 have:=gy hn (l2:=ins) (fun x hx=>by obtain⟨p,hp,e⟩:=IJ.mp hx;rw[<- e];exact hk p hp);rw[Hm]at this;exact this
theorem b8.keeps{w:World}{h h':Heap}{a:Addr}{ps:List KI}(S:b8 w h a ps)(k:∀o,h.get? a=some o->h'.get? a=some o):b8 w h' a ps:=by
 obtain⟨o,es,ep,t,Z,S,hk,hn⟩:=S;exact⟨o,es,ep,t,Z,⟨k o S.ho,S.ex,S.hd,S.tab,S.plain,S.led,S.big,S.perm⟩,hk,hn⟩
theorem FQ{w:World}{h:Heap}{a:Addr}{ps:List (Int×Value)}{o es ep t Z}(S:cT w h a ps o es ep t Z){k:Int}(hk:k∈ins):∀j,j<=t.mask->j∈bL t.mask (hashInt k):=by
 rcases S.big with⟨h1,h2⟩|⟨h1,h2⟩ <;> rw[h1]
 ·exact ox EK hk
 ·exact ox wR hk
def o9(ps:List KI)(k:Int)(t:Tok):List KI:=if k∈ps.map (·.1) then ps else ps++[(k,t)]
section
variable{prog:Program}{w:World}{A:Around}{E:Value->Shared->Prop}{s:Shared}
theorem nq{a:Addr}{k:Int}{tk:Tok}{ps0:List (Int×Value)}{o es ep t Z}(S:cT w s.heap a ps0 o es ep t Z){Q:ScanMet->Shared->Prop} :
  ∀(l:List (Int×Value))(n:Nat),(∀e∈l,∃p:KI,e=vL p/\p.1∈ins)->k∈ins->((∃e∈l,e.1=hashInt k)->∀i,Q (.found i) s)->((∀e∈l,e.1≠hashInt k)->Q .absent s)->wpAny (model prog w) A (setScanFrom a (.int k tk) (hashInt k) true l n) Q E s
 |[],n,_,_,h1,h2=>by
  unfold setScanFrom;exact GV (h2 fun e he=>by simp at he)
 |e::l,n,hl,hk,h1,h2=>by
  obtain⟨p,rfl,hp⟩:=hl e GC;show wpAny _ _ (setScanFrom a _ _ true ((hashInt p.1,Value.int p.1 p.2)::l) n) _ _ _;unfold setScanFrom;by_cases he:hashInt p.1=hashInt k
  ·rw[Gq (by simpa using he)];have ek:=nB hp hk he;refine GR (m:=setEpoch a) (wpAny_setEpoch_of S.ho S.hd S.fits ?_);refine GR (Gp ?_);rw[ek];simp only[HS,Jh,Hv];exact GV (h1 ⟨_,GC,he⟩ _)
  ·rw [Gr (by simpa using he)];refine nq S l (n+1) (fun x hx=>hl x (GD _ hx)) hk (fun⟨x,hx,ex⟩=>h1 ⟨x,GD _ hx,ex⟩) fun hx=>h2 fun x hxm=>?_;rcases GE.mp hxm with z|z
   ·rw[z];exact he
   ·exact hx x z
theorem Am{a:Addr}{k:Int}{tk:Tok}{ps:List KI}{Q:Bool->Shared->Prop}(S:b8 w s.heap a ps)(hk:k∈ins)
  (h:∀b h',Heap.SameBut a s.heap h'->b8 w h' a (o9 ps k tk)->Q b {s with heap:=h'}):wpAny (model prog w) A (setAddHashed a (.int k tk) (hashInt k)) Q E s:=by
 obtain⟨o,es,ep,t,Z,S,hk0,hn0⟩:=S
 have hent:∀e∈es.toList,∃p∈ps,e=vL p:=fun e he=>by
  rw[S.tab.ents]at he;obtain⟨p,hp,q⟩:=IJ.mp (S.perm.mem_iff.mp he);exact⟨p,hp,q.symm⟩
 have hto:∀p∈ps,vL p∈es.toList:=fun p hp=>by
  rw[S.tab.ents];exact S.perm.mem_iff.mpr (IQ hp)
 have hlen6:=ir hk0 hn0;have hZl:Z.length=ps.length:=by rw[S.len,Hm]
 have hesz0:es.size=ps.length:=by rw[S.tab.size.2,hZl]
 have hz:Z.length<=t.mask:=by rcases S.big with⟨q,q2⟩|⟨q,q2⟩ <;> omega
 unfold setAddHashed setAddHashedIn;refine GS (GR (Jg S.ho S.hd S.fits ?_));dsimp only
 have hsc:byScan (Value.int k tk) es=true:=by
  unfold byScan;have h1:decide (es.size<scanBound)=true:=HQ (by rw[hesz0];unfold scanBound;omega)
  have h2:es.all (fun x=>x.2.scannable)=true:=by
   rw[<- Array.all_toList,Jd];intro e he;obtain⟨p,_,rfl⟩:=hent e he;rfl
  rw[h1,h2];rfl
 rw[hsc];simp only[Hv];refine GR ?_;unfold setAddByScan;refine GR (Ie ?_);refine GR ?_;show wpAny _ _ (setScanFrom a (.int k tk) (hashInt k) true es.toList 0) _ _ _;refine nq S es.toList 0 (fun e he=>by obtain⟨p,hp,e'⟩:=hent e he;exact⟨p,e',hk0 p hp⟩) hk (fun hex i=>?_) fun hno=>?_
 ·obtain ⟨e, he, q⟩ := hex;obtain⟨p,hp,rfl⟩:=hent e he;have ek:p.1=k:=nB (hk0 p hp) hk q;refine GV (GV ?_)
  have q:=h false s.heap (Heap.SameBut.refl a s.heap) (by
   unfold o9;rw[Gq (by rw[<- ek];exact IQ hp)];exact⟨o,es,ep,t,Z,S,hk0,hn0⟩)
  cases s;exact q
 ·have hin:k∉ps.map (·.1):=fun hx=>by
   obtain⟨p,hp,e⟩:=IJ.mp hx;exact hno _ (hto p hp) (by rw[<- e];rfl)
  dsimp only;obtain⟨j,pre,post,epr,hj,hn,e,hp⟩:=S.tab.free (FQ S hk) hz (fun _=>hashInt k+1) (fun _=>by omega);obtain⟨Z',T',hperm,et⟩:=S.tab.put (x:=Value.int k tk) hj hn e hp
  have hfree:t.freeSlot (hashInt k)=some (j,false):=by
   unfold SetTable.freeSlot;rw[epr];rfl
  have hpl:(t.put j).1.plain=true:=by rw[et];exact S.plain
  have hled:(t.put j).1.led=t.led:=by rw[et]
  have hmask:(t.put j).1.mask=t.mask:=by rw[et]
  have hperm':(Z'.map (·.2)).Perm ((ps++[(k,tk)]).map vL):=by
   refine(hperm.map (·.2)).trans ?_;rw[HF,IT];refine List.Perm.trans (List.Perm.cons _ S.perm) ?_;exact(List.perm_append_singleton _ _).symm
  have hkeys:∀p∈ps++[(k,tk)],p.1∈ins:=fun p hp'=>by
   rcases GG.mp hp' with q|q
   ·exact hk0 p q
   ·rw[Ih]at q;rw[q];exact hk
  have hnd:((ps++[(k,tk)]).map (·.1)).Nodup:=by
   rw[IT];refine Jj.mpr ⟨hn0,by simp,fun x hx y hy=>?_⟩;simp at hy;rw[hy];rintro rfl;exact hin hx
  have hlen:=ir hkeys hnd;have hZ':Z'.length=ps.length+1:=by rw[hperm.length_eq,HV,hZl]
  have hesz:(SetTable.insertAt es (t.put j).2 (hashInt k,Value.int k tk)).size=Z'.length:=T'.size.2;have hadd:o9 ps k tk=ps++[(k,tk)]:=by unfold o9;rw[Gr hin]
  rw[hadd]at h;rw[Hl,HN]at hlen
  have hfit:(t.put j).1.fits (SetTable.insertAt es (t.put j).2 (hashInt k,Value.int k tk)).size=true:=by
   unfold SetTable.fits;rw[T'.fill,T'.size.1,hesz,hmask];rcases S.big with⟨q,q2⟩|⟨q,q2⟩ <;> simp[q] <;> omega
  have hlay:layNew t es (hashInt k) (.int k tk)=(SetTable.insertAt es (t.put j).2 (hashInt k,Value.int k tk),(t.put j).1,false,false):=by
   unfold layNew;rw[hfree];dsimp only;unfold SetTable.orStandIn;rw[hfit];rfl
  rw[hlay];dsimp only;generalize ht1:(t.put j).1=t1 at *;generalize hes1:SetTable.insertAt es (t.put j).2 (hashInt k,Value.int k tk)=es1 at *;have hline:es1.size<=sizeLine:=by rw[hesz,hZ'];exact Gz hlen (by decide)
  refine GR (GV ?_);refine GR (GV ?_);rw[hpl];simp only[Hv];refine GR (m:=hashByValue 8 (.int k tk)) (GV ?_);simp only[Hv];refine GR (Jk S.ho S.hd ?_ hline)
  have hg:(s.heap.update a (Obj.putSet es1 t1)).get? a=some {o with data:=.set es1 (ep+1) t1}:=by
   have:=HH (Obj.putSet es1 t1) S.ho (by rw[Jl es1 t1 S.hd];rfl);rw[Jl es1 t1 S.hd]at this;exact this
  have hsb1:=Im s.heap a (Obj.putSet es1 t1);have hfill:t1.fill=ps.length+1:=by rw[T'.fill,hZ']
  by_cases hfull:t1.tooFull=true
  ·simp only [hfull, Jm, Jh, Hv]
   have hm7:t.mask=7/\ps.length=4:=by
    unfold SetTable.tooFull at hfull;rw[hfill,hmask]at hfull;have hf:(ps.length+1)*5 ≥ t.mask*3:=by simpa using hfull
    rcases S.big with⟨q,q2⟩|⟨q,q2⟩
    ·rw[q]at hf;exact⟨q,by omega⟩
    ·rw[q]at hf;omega
   have hsz1:es1.size=5:=by rw[hesz,hZ',hm7.2]
   have hgr:SetTable.grown es1.size=20:=by rw[hsz1];rfl
   rw[hgr]
   obtain⟨t2,order,Z2,er,T2,hp2,hm2,hl2,hpl2,hord⟩:=mj (t:=t1) (es:=es1) (wanted:=20) (mask:=31) (by rfl) (by rw[hsz1];decide) (fun e' he'=>by
    rw[T'.ents]at he';obtain⟨p,hp',q⟩:=IJ.mp (hperm'.mem_iff.mp he');rw[<- q]
    exact ox wR (hkeys p hp'))
   have hZ2:Z2.length=5:=by
    have:=hp2.length_eq;simp at this;omega
   have hes2:(order.filterMap (es1[·]?)).size=5:=by rw[T2.size.2,hZ2]
   have hrel:relayAll t1 es1 20=(order.filterMap (es1[·]?),t2,false):=by
    unfold relayAll;rw[er];dsimp only
    have c1:coversAll order es1.size=true:=by
     unfold coversAll;exact List.isPerm_iff.mpr hord
    have c2:t2.fits (order.filterMap (es1[·]?)).size=true:=by
     unfold SetTable.fits;rw[T2.fill,T2.size.1,hes2,hm2,hZ2];rfl
    rw[c1,c2];rfl
   rw[hrel];dsimp only;refine GR (GR (GV (GV ?_)));refine GR (Jk hg rfl ?_ (by rw[hes2];decide))
   have hg2:((s.heap.update a (Obj.putSet es1 t1)).update a (Obj.putSet (order.filterMap (es1[·]?)) t2)).get? a=some {o with data:=.set (order.filterMap (es1[·]?)) (ep+1+1) t2}:=by
    have:=HH (Obj.putSet (order.filterMap (es1[·]?)) t2) hg (by rw[Jl _ t2 rfl];rfl);rw[Jl _ t2 rfl]at this;exact this
   refine GV (GV ?_);refine h true _ (hsb1.trans (Im _ a _)) ⟨_,_,_,t2,Z2,⟨hg2,S.ex,rfl,T2,by rw[hpl2];exact hpl,by rw[hl2,hled];exact S.led,.inr ⟨hm2,by omega⟩,?_⟩,hkeys,hnd⟩;refine hp2.trans ?_;rw[T'.ents];exact hperm'
  ·have hf : t1.tooFull = false := by simpa using hfull
   simp only[hf,Bool.and_false,HU,Hu];refine GV (GV ?_);refine h true _ hsb1 ⟨_,_,_,t1,Z',⟨hg,S.ex,rfl,T',hpl,by rw[hled];exact S.led,?_,hperm'⟩,hkeys,hnd⟩;unfold SetTable.tooFull at hf;rw[hfill,hmask]at hf;have hf':¬ ((ps.length+1)*5 ≥ t.mask*3):=by simpa using hf
   rw[hmask,hZ'];rcases S.big with⟨q,q2⟩|⟨q,q2⟩
   ·rw[q]at hf'⊢;exact .inl ⟨rfl,by omega⟩
   ·rw[q]at hf'⊢;exact .inr ⟨rfl,by omega⟩
end
end RS
namespace L2
open PySem PySem.Spec PyProof.Rows
section
variable{P:Program}{w:World}{K:W.Frag}{mg:Str->Option Value}{base:Heap}{N:List Str}{qual:Str}{scope:Scope}{f:Addr}{cdv:Value}{A:Around}{outer:List Env}{s0:Shared}{H0:Hp}{E:XK}
end
end L2
namespace L2
open PySem PySem.Spec PyProof.Rows
structure F4(X:Cx):Prop where
 ex:X.ex=[]
 stk:X.stack=X.env::X.outer
 fr:X.env.frame=some X.env.locals
section
variable{X:Cx}{pins pins':List (Addr×Obj)}{σ:St}{H:Hp}{s:Shared}{E:XK}
end
section
variable{X:Cx}{pins:List (Addr×Obj)}{σ:St}{H:Hp}{s:Shared}{h' B:Heap}{ea C:Addr}{a0:Value}
def FW(ea C:Addr):HO:=.ext fun h=>∃oe,h.get? ea=some oe/\oe.cls=.ref C
end
structure EO(k:Nat)(A:Around):Prop where
 dp:A.depth+3*k+5<recursionLimit
 un:A.units+16*k+200<cLine
 gd:A.guards=some []
structure ER(P:Program)(w:World)(K:W.Frag)(mg:Str->Option Value)(base:Heap)(CX:tZ)(k:Nat)(f:Addr)(fd:FuncData)(ps:List Str)(sp:Sp):Prop where
 len:∀vs H Q E,sp vs H Q E->vs.length=ps.length
 run:∀(A:Around)(outer:List Env)(s:Shared)(H:Hp)(args:Args)(us:List Value)(vs:List V)(Q:VK)(E:XK),EO k A->vO P w K mg base A outer s H->BindsTo s fd args (ps.zip us)->aX vs us->sp vs H Q E ->
  codeAny (model P w) A (.call (.ref f) args) (CR CX outer P w H s Q E) s
section
variable{X:Cx}{CX:tZ}{k:Nat}{f C:Addr}{fd:FuncData}{ps:List Str}{sp:Sp}{dvs:List V}{ds:List Value}{E:XK}{x m:Str}{p pos apos:Pos}{e o:Expr}{es:List Expr}{ta:TE}{t:TA}
end
section
variable{P:Program}{w:World}{K:W.Frag}{mg:Str->Option Value}{base:Heap}
end
end L2
namespace PySem.W
open PySem PySem.Spec PySem.Calls PyProof.Rows
section
variable{prog:Program}{w:World}{A:Around}{E:Value->Shared->Prop}{s:Shared}{K:Frag}{x D:Addr}{a g:Value}{name:Str}{h:Heap}{M:Model}
end
section
variable{K:Frag}{x D:Addr}
end
end PySem.W
namespace L2
open PySem PySem.Spec PyProof.Rows
end L2
namespace L2
open PySem PySem.Spec PyProof.Rows RS
inductive D where
 |non|bl (b:Bool)|int (i:Int)|str (x:Str)|tup (xs:List D)|frz (xs:List D)|obj (n:Nat)
inductive O where
 |lst (xs:List D)|set (ks:List (List Int))|iset (ks:List Int)|dic|exc (c:Str)
abbrev aw:=List O
abbrev Ro:=List (Option D)
def Aq(K:W.Frag)(H:Hp)(a:Addr)(xs:List V):Prop:=
 (∃ o, H a = some (.frz o (.lst xs))) \/
  ∃(o:Obj) (its:Array Value) (n:Nat),K.lookup a=some o/\o.cls=.type "list" /\ o.dict=none/\o.data=.seq its n/\its.size<=sizeLine/\aX xs its.toList
theorem Aq.sq{K:W.Frag}{H:Hp}{a:Addr}{xs:List V}(h:Aq K H a xs):dW K H a xs:=by
 rcases h with⟨o,h⟩|h
 ·exact .inl (.inr ⟨o,h⟩)
 ·exact .inr h
section
variable(K:W.Frag)(H:Hp)(α:List Addr)
mutual
def aI:D->V->Prop
 |.non,v=>v=.non
 |.bl b,v=>v=.bl b
 |.int i,v=>v=.int i
 |.str x,v=>v=.str x
 |.tup xs,v=>∃a vs,v=.ref a/\eD K H a vs/\Reps xs vs
 |.frz xs,v=>∃a vs,v=.ref a/\Aq K H a vs/\Reps xs vs
 |.obj n,v=>∃a,v=.ref a/\α[n]?=some a
def Reps:List D->List V->Prop
 |[],vs=>vs=[]
 |x::xs,vs=>∃v r,vs=v::r/\aI x v/\Reps xs r
end
end
structure jw(K:W.Frag)(H H':Hp)(α α':List Addr):Prop where
 tup:∀a xs,eD K H a xs->eD K H' a xs
 frz:∀a xs,Aq K H a xs->Aq K H' a xs
 pre:∀(n:Nat) a,α[n]?=some a->α'[n]?=some a
section
variable{K:W.Frag}{H H' H1 H2:Hp}{α α' α1 α2:List Addr}
theorem jw.refl:jw K H H α α:=⟨fun _ _ h=>h,fun _ _ h=>h,fun _ _ h=>h⟩
theorem jw.trans(a:jw K H H1 α α1)(b:jw K H1 H2 α1 α2):jw K H H2 α α2:=
 ⟨fun c xs h=>b.tup c xs (a.tup c xs h),fun c xs h=>b.frz c xs (a.frz c xs h),fun n c h=>b.pre n c (a.pre n c h)⟩
mutual
theorem aI.mono(e:jw K H H' α α'):∀{d:D}{v:V},aI K H α d v->aI K H' α' d v
 |.non,_,h=>by simp only[aI]at h⊢;exact h
 |.bl _,_,h=>by simp only[aI]at h⊢;exact h
 |.int _,_,h=>by simp only[aI]at h⊢;exact h
 |.str _,_,h=>by simp only[aI]at h⊢;exact h
 |.tup xs,_,h=>by
  simp only[aI]at h⊢;obtain⟨a,vs,rfl,h1,h2⟩:=h;exact⟨a,vs,rfl,e.tup a vs h1,Reps.mono e h2⟩
 |.frz xs,_,h=>by
  simp only[aI]at h⊢;obtain⟨a,vs,rfl,h1,h2⟩:=h;exact⟨a,vs,rfl,e.frz a vs h1,Reps.mono e h2⟩
 |.obj n,_,h=>by
  simp only[aI]at h⊢;obtain⟨a,rfl,h1⟩:=h;exact⟨a,rfl,e.pre n a h1⟩
theorem Reps.mono(e:jw K H H' α α'):∀{ds:List D}{vs:List V},Reps K H α ds vs->Reps K H' α' ds vs
 |[],_,h=>by simp only[Reps]at h⊢;exact h
 |d::ds,_,h=>by
  simp only[Reps]at h⊢;obtain⟨v,r,rfl,h1,h2⟩:=h;exact⟨v,r,rfl,aI.mono e h1,Reps.mono e h2⟩
end
theorem Reps.nil:Reps K H α [] []:=by simp only[Reps]
theorem Reps.cons{d:D}{ds:List D}{v:V}{vs:List V}(h1:aI K H α d v)(h2:Reps K H α ds vs):Reps K H α (d::ds) (v::vs):=by
 simp only[Reps];exact⟨v,vs,rfl,h1,h2⟩
theorem Reps.length:∀{ds:List D}{vs:List V},Reps K H α ds vs->vs.length=ds.length
 |[],vs,h=>by simp only[Reps]at h;rw[h];rfl
 |d::ds,vs,h=>by
  simp only[Reps]at h;obtain⟨v,r,rfl,h1,h2⟩:=h;simp[Reps.length h2]
theorem Reps.get:∀{ds:List D}{vs:List V}{i:Nat}{d:D},Reps K H α ds vs->ds[i]?=some d->∃v,vs[i]?=some v/\aI K H α d v
 |[],_,_,_,_,e=>by simp at e
 |d::ds,vs,i,x,h,e=>by
  simp only[Reps]at h;obtain⟨v,r,rfl,h1,h2⟩:=h;cases i with
  |zero=>simp at e;subst e;exact⟨v,rfl,h1⟩
  |succ i=>exact Reps.get (i:=i) h2 (by simpa using e)
theorem Reps.append:∀{ds es:List D}{vs ws:List V},Reps K H α ds vs->Reps K H α es ws->Reps K H α (ds++es) (vs++ws)
 |[],_,vs,_,h,g=>by simp only[Reps]at h;subst h;exact g
 |d::ds,_,vs,_,h,g=>by
  simp only[Reps]at h;obtain⟨v,r,rfl,h1,h2⟩:=h;exact Reps.cons h1 (Reps.append h2 g)
theorem Reps.take:∀{ds:List D}{vs:List V}(n:Nat),Reps K H α ds vs->Reps K H α (ds.take n) (vs.take n)
 |[],vs,n,h=>by simp only[Reps]at h;subst h;simpa using Reps.nil
 |d::ds,vs,n,h=>by
  simp only[Reps]at h;obtain⟨v,r,rfl,h1,h2⟩:=h;cases n with
  |zero=>exact Reps.nil
  |succ n=>exact Reps.cons h1 (Reps.take n h2)
theorem Reps.drop:∀{ds:List D}{vs:List V}(n:Nat),Reps K H α ds vs->Reps K H α (ds.drop n) (vs.drop n)
 |[],vs,n,h=>by simp only[Reps]at h;subst h;simpa using Reps.nil
 |d::ds,vs,n,h=>by
  cases n with
  |zero=>exact h
  |succ n=>
   simp only[Reps]at h;obtain⟨v,r,rfl,h1,h2⟩:=h;exact Reps.drop n h2
theorem Reps.set{d:D}{v:V}(q:aI K H α d v):∀{ds:List D}{vs:List V}(n:Nat),Reps K H α ds vs->Reps K H α (ds.set n d) (vs.set n v)
 |[],vs,n,h=>by simp only[Reps]at h;subst h;simpa using Reps.nil
 |e::ds,vs,n,h=>by
  simp only[Reps]at h;obtain⟨v',r,rfl,h1,h2⟩:=h;cases n with
  |zero=>exact Reps.cons q h2
  |succ n=>exact Reps.cons h1 (Reps.set q n h2)
theorem Reps.one{d:D}{vs:List V}(h:Reps K H α [d] vs):∃v,vs=[v]/\aI K H α d v:=by
 simp only[Reps]at h;obtain⟨v,r,rfl,h1,rfl⟩:=h;exact⟨v,rfl,h1⟩
theorem Reps.two{d e:D}{vs:List V}(h:Reps K H α [d,e] vs):∃v u,vs=[v,u]/\aI K H α d v/\aI K H α e u:=by
 simp only[Reps]at h;obtain⟨v,r,rfl,h1,u,r',rfl,h2,rfl⟩:=h;exact⟨v,u,rfl,h1,h2⟩
theorem Reps.snoc{d:D}{ds:List D}{v:V}{vs:List V}(h:Reps K H α ds vs)(q:aI K H α d v):Reps K H α (ds++[d]) (vs++[v]):=h.append (Reps.cons q Reps.nil)
theorem Reps.ints:∀{ns:List Int}{vs:List V},Reps K H α (ns.map D.int) vs->vs=ns.map V.int
 |[],vs,h=>by simp only[HE,Reps]at h;exact h
 |n::ns,vs,h=>by
  simp only[HF,Reps]at h;obtain⟨v,r,rfl,h1,h2⟩:=h;simp only[aI]at h1;rw[h1,Reps.ints h2];rfl
theorem iB:∀(ns:List Int),Reps K H α (ns.map D.int) (ns.map V.int)
 |[]=>Reps.nil
 |n::ns=>Reps.cons (by simp only[aI]) (iB ns)
theorem aF{xs:List D}{v:V}:aI K H α (.tup xs) v↔∃a vs,v=.ref a/\eD K H a vs/\Reps K H α xs vs:=by simp only[aI]
theorem a9{xs:List D}{v:V}:aI K H α (.frz xs) v↔∃a vs,v=.ref a/\Aq K H a vs/\Reps K H α xs vs:=by simp only[aI]
theorem aR{n:Nat}{v:V}:aI K H α (.obj n) v↔∃a,v=.ref a/\α[n]?=some a:=by simp only[aI]
theorem aj{n:Int}{v:V}:aI K H α (.int n) v↔v=.int n:=by simp only[aI]
theorem aQ{n:Bool}{v:V}:aI K H α (.bl n) v↔v=.bl n:=by simp only[aI]
theorem aD{n:Str}{v:V}:aI K H α (.str n) v↔v=.str n:=by simp only[aI]
theorem bA{v:V}:aI K H α .non v↔v=.non:=by simp only[aI]
end
def pb(K:W.Frag)(w:World)(H:Hp)(α:List Addr):O->Addr->Prop
 |.lst xs,a=>∃vs,H a=some (.lst vs)/\Reps K H α xs vs
 |.set ks,a=>∃ps:List KP,ps.map (·.1)=ks/\H a=some (.ext fun h=>dw w h a ps)/\(∀p∈ps,p.1∈prs)/\(ps.map (·.1)).Nodup/\∀p∈ps,eD K H p.2 (p.1.map V.int)
 |.iset ks,a=>∃ps:List KI,ps.map (·.1)=ks/\H a=some (.ext fun h=>b8 w h a ps)/\ks.length<=6
 |.dic,a=>H a=some (.dK [])
 |.exc c,a=>∃C,W.nsIn K mainGlobals c=some (some (.ref C))/\H a=some (FW a C)
structure fR(K:W.Frag)(w:World)(H:Hp)(α:List Addr)(μ:aw):Prop where
 len:α.length=μ.length
 nd:α.Nodup
 ob:∀(n:Nat) o a,μ[n]?=some o->α[n]?=some a->pb K w H α o a
section
variable{K:W.Frag}{w:World}{H H':Hp}{α α':List Addr}{μ:aw}
theorem pb.live{o:O}{a:Addr}(h:pb K w H α o a):H a≠none:=by
 cases o with
 |lst xs=>obtain⟨vs,e,_⟩:=h;rw[e];exact fun z=>by cases z
 |set ks=>obtain⟨ps,_,e,_⟩:=h;rw[e];exact fun z=>by cases z
 |iset ks=>obtain⟨ps,_,e,_⟩:=h;rw[e];exact fun z=>by cases z
 |dic=>have e:H a=some (.dK []):=h;rw[e];exact fun z=>by cases z
 |exc c=>obtain⟨C,_,e⟩:=h;rw[e];exact fun z=>by cases z
theorem pb.mono{o:O}{a:Addr}(h:pb K w H α o a)(e:jw K H H' α α')(ha:H' a=H a):pb K w H' α' o a:=by
 cases o with
 |lst xs=>obtain⟨vs,q,r⟩:=h;exact⟨vs,ha.trans q,r.mono e⟩
 |set ks=>obtain⟨ps,h1,q,h2,h3,h4⟩:=h;exact⟨ps,h1,ha.trans q,h2,h3,fun p hp=>e.tup _ _ (h4 p hp)⟩
 |iset ks=>obtain⟨ps,h1,q,h2⟩:=h;exact⟨ps,h1,ha.trans q,h2⟩
 |dic=>exact ha.trans h
 |exc c=>obtain⟨C,h1,q⟩:=h;exact⟨C,h1,ha.trans q⟩
theorem fR.at(S:fR K w H α μ){n:Nat}{o:O}(e:μ[n]?=some o):∃a,α[n]?=some a/\pb K w H α o a:=by
 have hn:n<μ.length:=(GI.mp e).1;have hn':n<α.length:=by rw[S.len];exact hn
 exact⟨α[n],JQ hn',S.ob n o _ e (JQ hn')⟩
theorem fR.live(S:fR K w H α μ){a:Addr}(h:a∈α):H a≠none:=by
 obtain⟨n,hn,e⟩:=List.getElem_of_mem h;have hm:n<μ.length:=by rw[<- S.len];exact hn
 exact(S.ob n _ a (JQ hm) (by rw[<- e];exact JQ hn)).live
theorem fR.fresh(S:fR K w H α μ){p:Addr}(h:H p=none):p∉α:=fun z=>S.live z h
theorem fR.same(S:fR K w H α μ)(e:jw K H H' α α)(h:∀a,H a≠none->H' a=H a):fR K w H' α μ:=
 ⟨S.len,S.nd,fun n o a h1 h2=>(S.ob n o a h1 h2).mono e (h a (S.ob n o a h1 h2).live)⟩
theorem bO{p:Addr}{o:HO}(h:H p=none):jw K H (cj H p o) α α:=by
 refine⟨fun a xs q=>?_,fun a xs q=>?_,fun _ _ z=>z⟩
 ·rcases q with (q | ⟨x, q⟩) | q
  ·exact .inl (.inl (by rw[bw (cV q h)];exact q))
  ·exact .inl (.inr ⟨x,by rw[bw (cV q h)];exact q⟩)
  ·exact .inr q
 ·rcases q with ⟨x, q⟩ | q
  ·exact .inl ⟨x,by rw[bw (cV q h)];exact q⟩
  ·exact .inr q
theorem gN{p:Addr}{vs:List V}{o:HO}(h:H p=some (.lst vs)):jw K H (cj H p o) α α:=by
 refine⟨fun a xs q=>?_,fun a xs q=>?_,fun _ _ z=>z⟩
 ·rcases q with (q | ⟨x, q⟩) | q
  ·exact .inl (.inl (by rw[bw (vZ q h (by intro z;cases z))];exact q))
  ·exact .inl (.inr ⟨x,by rw[bw (vZ q h (by intro z;cases z))];exact q⟩)
  ·exact .inr q
 ·rcases q with ⟨x, q⟩ | q
  ·exact .inl ⟨x,by rw[bw (vZ q h (by intro z;cases z))];exact q⟩
  ·exact .inr q
theorem jN(β:List Addr):jw K H H α (α++β):=⟨fun _ _ h=>h,fun _ _ h=>h,fun n a h=>by rw[Hi (GI.mp h).1];exact h⟩
theorem fR.tuple(S:fR K w H α μ){p:Addr}{vs:List V}(h:H p=none):fR K w (cj H p (.tup vs)) α μ:=
 S.same (bO h) fun a ha=>bw fun z=>ha (by rw[z];exact h)
theorem fR.more(S:fR K w H α μ){p:Addr}{o:O}{ho:HO}(h:H p=none)(q:pb K w (cj H p ho) (α++[p]) o p):fR K w (cj H p ho) (α++[p]) (μ++[o]):=by
 refine⟨by simp[S.len],?_,fun n o' a h1 h2=>?_⟩
 ·rw[Jj];exact⟨S.nd,by simp,fun x hx y hy z=>by simp at hy;subst hy;subst z;exact S.fresh h hx⟩
 ·by_cases hn : n < μ.length
  ·rw[Hi hn]at h1;rw[Hi (by rw[S.len];exact hn)]at h2;exact(S.ob n o' a h1 h2).mono ((bO h).trans (jN [p])) (bw fun z=>(S.ob n o' a h1 h2).live (by rw[z];exact h))
  ·have hn':n=μ.length:=by
    have:=(GI.mp h1).1;simp at this;omega
   subst hn';rw[Hh (G0 _)]at h1;rw[Hh (by rw[S.len];exact G0 _),S.len]at h2;simp at h1 h2;subst h1;subst h2;exact q
theorem fR.put(S:fR K w H α μ){n:Nat}{a:Addr}{xs ys:List D}{us vs:List V}(h1:μ[n]?=some (.lst xs))(h2:α[n]?=some a)(h3:H a=some (.lst us))(q:Reps K H α ys vs):fR K w (cj H a (.lst vs)) α (μ.set n (.lst ys)):=by
 have e:=gN (K:=K) (α:=α) (o:=.lst vs) h3;refine⟨by simp[S.len],S.nd,fun m o b g1 g2=>?_⟩;have hn:n<μ.length:=(GI.mp h1).1;by_cases hm:m=n
 ·subst hm;rw[GK hn]at g1;cases g1;rw[h2]at g2;cases g2;exact⟨vs,cE,q.mono e⟩
 ·rw[GL (fun z=>hm z.symm)]at g1;refine(S.ob m o b g1 g2).mono e (bw fun z=>hm ?_);subst z;have i1:=(GI.mp g2);have i2:=(GI.mp h2);obtain⟨l1,e1⟩:=i1;obtain⟨l2,e2⟩:=i2;exact(GJ S.nd).mp (e1.trans e2.symm)
end
structure dh(K:W.Frag)(H:Hp)(α:List Addr)(ρ:Ro)(σ:St):Prop where
 len:ρ.length=σ.length
 at':∀(i:Nat) d,ρ[i]?=some (some d)->∃v,σ[i]?=some (some v)/\aI K H α d v
theorem dh.mono{K:W.Frag}{H H':Hp}{α α':List Addr}{ρ:Ro}{σ:St}(e:jw K H H' α α')(R:dh K H α ρ σ):dh K H' α' ρ σ:=
 ⟨R.len,fun i d h=>let ⟨v,h1,h2⟩:=R.at' i d h;⟨v,h1,h2.mono e⟩⟩
theorem dh.set{K:W.Frag}{H:Hp}{α:List Addr}{ρ:Ro}{σ:St}{d:D}{v:V}(R:dh K H α ρ σ)(i:Nat)(q:aI K H α d v):dh K H α (ρ.set i (some d)) (σ.set i (some v)):=by
 refine⟨by simp[R.len],fun j d' h=>?_⟩;by_cases hj:j=i
 ·subst hj;have hl:j<ρ.length:=by have:=(GI.mp h).1;simpa using this
  rw[GK hl]at h;cases h;exact⟨v,by rw[GK (by rw[<- R.len];exact hl)],q⟩
 ·rw[GL (fun z=>hj z.symm)]at h⊢;exact R.at' j d' h
structure DX where
 cls:Str
 args:List D
inductive af(β:Type) where
 |ok (a:β) (μ:aw)|exc (x:DX) (μ:aw)|bad
def af.bind{β γ:Type}(o:af β)(g:β->aw->af γ):af γ:=match o with
 |.ok a μ=>g a μ
 |.exc x μ=>.exc x μ
 |.bad=>.bad
@[simp] theorem aa {β γ:Type}{a:β}{μ:aw}{g:β->aw->af γ}:(af.ok a μ).bind g=g a μ:=J1 (J2 _)
inductive SO where
 |next (ρ:Ro) (μ:aw)|ret (d:D) (μ:aw)|brk (ρ:Ro) (μ:aw)|cnt (ρ:Ro) (μ:aw)|exc (x:DX) (μ:aw)|bad
def af.bindS{β:Type}(o:af β)(g:β->aw->SO):SO:=match o with
 |.ok a μ=>g a μ
 |.exc x μ=>.exc x μ
 |.bad=>.bad
@[simp] theorem ae {β:Type}{a:β}{μ:aw}{g:β->aw->SO}:(af.ok a μ).bindS g=g a μ:=J1 (J2 _)
def SO.bind(o:SO)(g:Ro->aw->SO):SO:=match o with
 |.next ρ μ=>g ρ μ
 |o=>o
structure Pa where
 K:W.Frag
 w:World
 xw:DX->aw->Hp->List Addr->Prop
abbrev Pa.S(p:Pa):=fR p.K p.w
abbrev Pa.X(p:Pa):=jw p.K
abbrev Pa.R(p:Pa):=aI p.K
abbrev Pa.Rs(p:Pa):=Reps p.K
def aB{β:Type}(p:Pa)(H:Hp)(α:List Addr)(o:af β)(R:β->aw->Hp->List Addr->Prop):Prop:=match o with
 |.ok a μ'=>∀H' α',p.X H H' α α'->p.S H' α' μ'->R a μ' H' α'
 |.exc x μ'=>∀H' α',p.X H H' α α'->p.S H' α' μ'->p.xw x μ' H' α'
 |.bad=>False
def eU(p:Pa)(H:Hp)(α:List Addr)(o:SO)(D:lI):Prop:=match o with
 |.next ρ' μ'=>∀H' α' σ',p.X H H' α α'->p.S H' α' μ'->dh p.K H' α' ρ' σ'->D.nx σ' H'
 |.brk ρ' μ'=>∀H' α' σ',p.X H H' α α'->p.S H' α' μ'->dh p.K H' α' ρ' σ'->D.bk σ' H'
 |.cnt ρ' μ'=>∀H' α' σ',p.X H H' α α'->p.S H' α' μ'->dh p.K H' α' ρ' σ'->D.ct σ' H'
 |.ret d μ'=>∀H' α' v,p.X H H' α α'->p.S H' α' μ'->p.R H' α' d v->D.rt v H'
 |.exc x μ'=>∀H' α',p.X H H' α α'->p.S H' α' μ'->p.xw x μ' H' α'
 |.bad=>False
section
variable{p:Pa}{H H1:Hp}{α α1:List Addr}{β γ:Type}
theorem aB.imp{o:af β}{R R':β->aw->Hp->List Addr->Prop}(h:aB p H α o R)(k:∀a μ' H' α',p.X H H' α α'->p.S H' α' μ'->R a μ' H' α'->R' a μ' H' α'):aB p H α o R':=by
 cases o with
 |ok a μ=>exact fun H' α' e s=>k a μ H' α' e s (h H' α' e s)
 |exc x μ=>exact h
 |bad=>exact h
theorem aB.from{o:af β}{R:β->aw->Hp->List Addr->Prop}(e:p.X H H1 α α1)(h:aB p H α o R):aB p H1 α1 o R:=by
 cases o with
 |ok a μ=>exact fun H' α' e' s=>h H' α' (e.trans e') s
 |exc x μ=>exact fun H' α' e' s=>h H' α' (e.trans e') s
 |bad=>exact h
theorem aB.bind{o:af β}{g:β->aw->af γ}{R:γ->aw->Hp->List Addr->Prop}(h:aB p H α (o.bind g) R):aB p H α o (fun a μ1 H1 α1=>aB p H1 α1 (g a μ1) R):=by
 cases o with
 |ok a μ=>exact fun H' α' e s=>aB.from e h
 |exc x μ=>exact h
 |bad=>exact h
theorem aB.now{a:β}{μ:aw}{R:β->aw->Hp->List Addr->Prop}(h:aB p H α (.ok a μ) R)(s:p.S H α μ):R a μ H α:=h H α jw.refl s
theorem eU.from{o:SO}{D:lI}(e:p.X H H1 α α1)(h:eU p H α o D):eU p H1 α1 o D:=by
 cases o with
 |next ρ μ=>exact fun H' α' σ' e' s r=>h H' α' σ' (e.trans e') s r
 |brk ρ μ=>exact fun H' α' σ' e' s r=>h H' α' σ' (e.trans e') s r
 |cnt ρ μ=>exact fun H' α' σ' e' s r=>h H' α' σ' (e.trans e') s r
 |ret d μ=>exact fun H' α' v e' s r=>h H' α' v (e.trans e') s r
 |exc x μ=>exact fun H' α' e' s=>h H' α' (e.trans e') s
 |bad=>exact h
theorem aB.bindS{o:af β}{g:β->aw->SO}{D:lI}(h:eU p H α (o.bindS g) D):aB p H α o (fun a μ1 H1 α1=>eU p H1 α1 (g a μ1) D):=by
 cases o with
 |ok a μ=>exact fun H' α' e s=>eU.from e h
 |exc x μ=>exact h
 |bad=>exact h
end
abbrev ME:=Ro->aw->af D
abbrev MT:=Ro->aw->af Bool
abbrev MA:=Ro->aw->af (List D)
abbrev MS:=Ro->aw->SO
abbrev MG:=D->Ro->aw->af Ro
abbrev RV(p:Pa)(Q:VK):D->aw->Hp->List Addr->Prop:=fun d _ H' α'=>∀v,p.R H' α' d v->Q v H'
def tD(p:Pa)(f:ME):TE:=fun σ H Q=>∃α ρ μ,p.S H α μ/\dh p.K H α ρ σ/\aB p H α (f ρ μ) (RV p Q)
def gv(p:Pa)(f:MT):TT:=fun σ H Q=>∃α ρ μ,p.S H α μ/\dh p.K H α ρ σ/\aB p H α (f ρ μ) (fun b _ H' _=>Q b H')
def j5(p:Pa)(f:MA):TA:=fun σ H Q=>∃α ρ μ,p.S H α μ/\dh p.K H α ρ σ/\aB p H α (f ρ μ) (fun ds _ H' α'=>∀vs,p.Rs H' α' ds vs->Q vs H')
def gJ(p:Pa)(f:MS):TS:=fun D σ H=>∃α ρ μ,p.S H α μ/\dh p.K H α ρ σ/\eU p H α (f ρ μ) D
def nV(p:Pa)(g:MG):TG:=fun v σ H Q=>∃α ρ μ d,p.S H α μ/\dh p.K H α ρ σ/\p.R H α d v/\aB p H α (g d ρ μ) (fun ρ' _ H' α'=>∀σ',dh p.K H' α' ρ' σ'->Q σ' H')
theorem PE.weak{X:Cx}{e:Expr}{t t':TE}(h:PE X e t)(k:∀σ H Q,t' σ H Q->t σ H Q):PE X e t':=fun pins s σ H Q I q=>h pins s σ H Q I (k σ H Q q)
theorem PT.weak{X:Cx}{e:Expr}{t t':TT}(h:PT X e t)(k:∀σ H Q,t' σ H Q->t σ H Q):PT X e t':=fun pins s σ H Q I q=>h pins s σ H Q I (k σ H Q q)
theorem PW.weak{X:Cx}{e:Expr}{t t':TT}(h:PW X e t)(k:∀σ H Q,t' σ H Q->t σ H Q):PW X e t':=fun wh pins s σ H Q I q=>h wh pins s σ H Q I (k σ H Q q)
theorem PA.weak{X:Cx}{e:List Expr}{t t':TA}(h:PA X e t)(k:∀σ H Q,t' σ H Q->t σ H Q):PA X e t':=fun pos pins s σ H Q I q=>h pos pins s σ H Q I (k σ H Q q)
theorem PS.weak{X:Cx}{e:Stmt}{t t':TS}(h:PS X e t)(k:∀D σ H,t' D σ H->t D σ H):PS X e t':=fun pins s σ H Q I q=>h pins s σ H Q I (k Q σ H q)
theorem i6.weak{X:Cx}{e:List Stmt}{t t':TS}(h:i6 X e t)(k:∀D σ H,t' D σ H->t D σ H):i6 X e t':=fun pins s σ H Q I q=>h pins s σ H Q I (k Q σ H q)
def ai(i:Nat):ME:=fun ρ μ=>match ρ[i]? with
 |some (some d)=>.ok d μ
 |_=>.bad
def cC(d:D):ME:=fun _ μ=>.ok d μ
def aE(op:D->D->aw->af D)(fa fb:ME):ME:=fun ρ μ=>(fa ρ μ).bind fun a μ1=>(fb ρ μ1).bind fun b μ2=>op a b μ2
def qS(op:D->aw->af D)(fa:ME):ME:=fun ρ μ=>(fa ρ μ).bind fun a μ1=>op a μ1
def aG:MA:=fun _ μ=>.ok [] μ
def ah(fa:ME)(fr:MA):MA:=fun ρ μ=>(fa ρ μ).bind fun a μ1=>(fr ρ μ1).bind fun r μ2=>.ok (a::r) μ2
def aH(f:List D->aw->af D)(fa:MA):ME:=fun ρ μ=>(fa ρ μ).bind f
def eH(fa:MA):ME:=aH (fun ds μ=>if ds.length<=sizeLine then .ok (.tup ds) μ else .bad) fa
def lG(fa:MA):ME:=aH (fun ds μ=>if ds.length<=sizeLine then .ok (.obj μ.length) (μ++[.lst ds]) else .bad) fa
def vz:D->aw->af Bool
 |.bl b,μ=>.ok b μ
 |_,_=>.bad
def j6(f:ME):MT:=fun ρ μ=>(f ρ μ).bind vz
def sI(f g:MT):MT:=fun ρ μ=>(f ρ μ).bind fun b μ1=>if b=true then g ρ μ1 else .ok false μ1
def je(f g:MT):MT:=fun ρ μ=>(f ρ μ).bind fun b μ1=>if b=true then .ok true μ1 else g ρ μ1
def fH(f:MT):MT:=fun ρ μ=>(f ρ μ).bind fun b μ1=>.ok (!b) μ1
def gx(f g:ME):ME:=fun ρ μ=>(f ρ μ).bind fun a μ1=>(vz a μ1).bind fun b μ2=>if b=true then g ρ μ2 else .ok (.bl false) μ2
def yz(f g:ME):ME:=fun ρ μ=>(f ρ μ).bind fun a μ1=>(vz a μ1).bind fun b μ2=>if b=true then .ok (.bl true) μ2 else g ρ μ2
def pH(f:ME):ME:=fun ρ μ=>(f ρ μ).bind fun a μ1=>(vz a μ1).bind fun b μ2=>.ok (.bl (!b)) μ2
def mM(p:Pa)(op:D->D->aw->af D)(r:R2):Prop:=∀a b v y H α μ Q,p.S H α μ->p.R H α a v->p.R H α b y->aB p H α (op a b μ) (RV p Q)->r v y H Q
def qO(p:Pa)(f:List D->aw->af D)(r:List V->Hp->VK->Prop):Prop:=∀ds vs H α μ Q,p.S H α μ->p.Rs H α ds vs->aB p H α (f ds μ) (RV p Q)->r vs H Q
section
variable{p:Pa}
theorem kg{d:D}{μ:aw}{H:Hp}{α:List Addr}{R:Bool->aw->Hp->List Addr->Prop}{v:V}(h:aB p H α (vz d μ) R)(r:p.R H α d v)(s:p.S H α μ):∃b,d=.bl b/\v=.bl b/\R b μ H α:=by
 cases d with
 |bl b=>exact⟨b,rfl,aQ.mp r,h.now s⟩
 |non=>exact h.elim
 |int i=>exact h.elim
 |str x=>exact h.elim
 |tup xs=>exact h.elim
 |frz xs=>exact h.elim
 |obj n=>exact h.elim
variable{X:Cx}{a b c:Expr}{es:List Expr}{fa fb fc:ME}{pos:Pos}
theorem BS{i:Nat}{x:Str}(h:PE X (.Name x pos) (DF i)):PE X (.Name x pos) (tD p (ai i)):=h.weak fun σ H Q ⟨α,ρ,μ,S,R,P⟩=>by
 unfold ai at P;cases e:ρ[i]? with
 |none=>rw[e]at P;exact P.elim
 |some o=>
  rw[e]at P;cases o with
  |none=>exact P.elim
  |some d=>
   obtain⟨v,h1,h2⟩:=R.at' i d e;exact⟨v,h1,P.now S v h2⟩
theorem t6{e:Expr}{v:V}{d:D}(h:PE X e (tC v))(r:∀H α,p.R H α d v):PE X e (tD p (cC d)):=h.weak fun σ H Q ⟨α,ρ,μ,S,R,P⟩=>P.now S v (r H α)
theorem ka{op:Operator}{o:D->D->aw->af D}{r:R2}(ho:gf X (binaryOp op) r)(hd:mM p o r)(ha:PE X a (tD p fa))(hb:PE X b (tD p fb)):PE X (.BinOp a op b pos) (tD p (aE o fa fb)):=
 (Ep ho ha hb).weak fun σ H Q ⟨α,ρ,μ,S,R,P⟩=>⟨α,ρ,μ,S,R,P.bind.imp fun x μ1 H1 α1 X1 S1 P1 v rv=>⟨α1,ρ,μ1,S1,R.mono X1,P1.bind.imp fun y μ2 H2 α2 X2 S2 P2 u ru=>hd x y v u H2 α2 μ2 Q S2 (rv.mono X2) ru P2⟩⟩
theorem BY{op:CmpOp}{o:D->D->aw->af D}{r:R2}(ho:gf X (compareOp op) r)(hd:mM p o r)(ha:PE X a (tD p fa))(hb:PE X b (tD p fb))(hm:behindInMarks op b=false):PE X (.Compare a [op] [b] pos) (tD p (aE o fa fb)):=
 (zC ho ha hb hm).weak fun σ H Q ⟨α,ρ,μ,S,R,P⟩=>⟨α,ρ,μ,S,R,P.bind.imp fun x μ1 H1 α1 X1 S1 P1 v rv=>⟨α1,ρ,μ1,S1,R.mono X1,P1.bind.imp fun y μ2 H2 α2 X2 S2 P2 u ru=>hd x y v u H2 α2 μ2 Q S2 (rv.mono X2) ru P2⟩⟩
theorem BC{op:CmpOp}{o:D->D->aw->af D}{r:R2}(ho:gf X (compareOp op) r)(hd:mM p o r)(ha:PE X a (tD p fa))(hb:PE X b (tD p fb))(hm:behindInMarks op b=false):PT X (.Compare a [op] [b] pos) (gv p (j6 (aE o fa fb))):=
 (zq ho ha hb hm).weak fun σ H Q ⟨α, ρ, μ, S, R, P⟩ => ⟨α, ρ, μ, S, R, P.bind.bind.imp fun x μ1 H1 α1 X1 S1 P1 v rv => ⟨α1, ρ, μ1, S1, R.mono X1, P1.bind.imp fun y μ2 H2 α2 X2 S2 P2 u ru =>
  hd x y v u H2 α2 μ2 _ S2 (rv.mono X2) ru (P2.imp fun d μ3 H3 α3 X3 S3 P3 z rz=>by
   obtain⟨k,_,e,q⟩:=kg P3 rz S3
   exact⟨k,e,q⟩)⟩⟩
theorem B0:PA X [] (j5 p aG):=wC.weak fun σ H Q ⟨α,ρ,μ,S,R,P⟩=>P.now S [] Reps.nil
theorem zj{fr:MA}(ha:PE X a (tD p fa))(hr:PA X es (j5 p fr))(hs:starEach (a::es) X.env=(false,eval a X.env)::starEach es X.env):PA X (a::es) (j5 p (ah fa fr)):=
 (om ha hr hs).weak fun σ H Q ⟨α,ρ,μ,S,R,P⟩=>⟨α,ρ,μ,S,R,P.bind.imp fun x μ1 H1 α1 X1 S1 P1 v rv=>⟨α1,ρ,μ1,S1,R.mono X1,P1.bind.imp fun y μ2 H2 α2 X2 S2 P2 us ru=>P2.now S2 _ (Reps.cons (rv.mono X2) ru)⟩⟩
theorem BU{k:Nat}{fr:MA}(h:PA X es (j5 p fr)):PE X (.Tuple es k pos) (tD p (eH fr)):=
 (Cj h).weak fun σ H Q ⟨α, ρ, μ, S, R, P⟩ => ⟨α, ρ, μ, S, R, P.bind.imp fun ds μ1 H1 α1 X1 S1 P1 vs rv => by
  by_cases hl:ds.length<=sizeLine
  ·rw[Gq hl]at P1;refine⟨by rw[rv.length];exact hl,fun q hq=>?_⟩;exact P1 _ _ (bO hq) (S1.tuple hq) _ (aF.mpr ⟨q,vs,rfl,eD.of cE,rv.mono (bO hq)⟩)
  ·rw [Gr hl] at P1
   exact P1.elim⟩
theorem b9{H:Hp}{α:List Addr}{μ:aw}{ds:List D}{vs:List V}{q:Addr}(S:p.S H α μ)(hq:H q=none)(rv:p.Rs H α ds vs) :
  p.X H (cj H q (.lst vs)) α (α++[q])/\p.S (cj H q (.lst vs)) (α++[q]) (μ++[.lst ds])/\p.R (cj H q (.lst vs)) (α++[q]) (.obj μ.length) (.ref q):=by
 have X1:p.X H (cj H q (.lst vs)) α (α++[q]):=(bO hq).trans (jN [q]);exact⟨X1,S.more hq ⟨vs,cE,rv.mono X1⟩,aR.mpr ⟨q,rfl,by rw[<- S.len];simp⟩⟩
theorem BW{fr:MA}(h:PA X es (j5 p fr)):PE X (.List es pos) (tD p (lG fr)):=
 (Co h).weak fun σ H Q ⟨α, ρ, μ, S, R, P⟩ => ⟨α, ρ, μ, S, R, P.bind.imp fun ds μ1 H1 α1 X1 S1 P1 vs rv => by
  by_cases hl:ds.length<=sizeLine
  ·rw[Gq hl]at P1;refine⟨by rw[rv.length];exact hl,fun q hq=>?_⟩;obtain⟨x1,x2,x3⟩:=b9 S1 hq rv;exact P1 _ _ x1 x2 _ x3
  ·rw [Gr hl] at P1
   exact P1.elim⟩
variable{ft gt:MT}{rest:List Expr}
theorem Bw(ha:PT X a (gv p ft))(hb:PW X (.BoolOp .And (b::rest) pos) (gv p gt)):PW X (.BoolOp .And (a::b::rest) pos) (gv p (sI ft gt)):=
 (B7 ha hb).weak fun σ H Q ⟨α, ρ, μ, S, R, P⟩ => ⟨α, ρ, μ, S, R, P.bind.imp fun k μ1 H1 α1 X1 S1 P1 => by
  cases k with
  |true=>rw[Gq rfl]at P1⊢;exact⟨α1,ρ,μ1,S1,R.mono X1,P1⟩
  |false=>rw[Gr G6]at P1⊢;exact P1.now S1⟩
theorem Ed(ha:PT X a (gv p ft))(hb:PW X (.BoolOp .Or (b::rest) pos) (gv p gt)):PW X (.BoolOp .Or (a::b::rest) pos) (gv p (je ft gt)):=
 (Em ha hb).weak fun σ H Q ⟨α, ρ, μ, S, R, P⟩ => ⟨α, ρ, μ, S, R, P.bind.imp fun k μ1 H1 α1 X1 S1 P1 => by
  cases k with
  |true=>rw[Gq rfl]at P1⊢;exact P1.now S1
  |false=>rw[Gr G6]at P1⊢;exact⟨α1,ρ,μ1,S1,R.mono X1,P1⟩⟩
theorem BA(ha:PT X a (gv p ft)):PT X (.UnaryOp .Not a pos) (gv p (fH ft)):=
 (B8 ha).weak fun σ H Q ⟨α,ρ,μ,S,R,P⟩=>⟨α,ρ,μ,S,R,P.bind.imp fun k μ1 H1 α1 X1 S1 P1=>P1.now S1⟩
theorem BZ(ha:PE X a (tD p fa))(hb:PE X (.BoolOp .And (b::rest) pos) (tD p fb)):PE X (.BoolOp .And (a::b::rest) pos) (tD p (gx fa fb)):=
 (Cq ha hb).weak fun σ H Q ⟨α, ρ, μ, S, R, P⟩ => ⟨α, ρ, μ, S, R, P.bind.imp fun d μ1 H1 α1 X1 S1 P1 v rv => by
  obtain⟨k,_,e,q⟩:=kg P1.bind rv S1;refine⟨k,e,?_⟩;cases k with
  |true=>rw[Gq rfl]at q⊢;exact⟨α1,ρ,μ1,S1,R.mono X1,q⟩
  |false=>rw[Gr G6]at q⊢;exact q.now S1 _ (aQ.mpr rfl)⟩
theorem Eh(ha:PE X a (tD p fa))(hb:PE X (.BoolOp .Or (b::rest) pos) (tD p fb)):PE X (.BoolOp .Or (a::b::rest) pos) (tD p (yz fa fb)):=
 (Eo ha hb).weak fun σ H Q ⟨α, ρ, μ, S, R, P⟩ => ⟨α, ρ, μ, S, R, P.bind.imp fun d μ1 H1 α1 X1 S1 P1 v rv => by
  obtain⟨k,_,e,q⟩:=kg P1.bind rv S1;refine⟨k,e,?_⟩;cases k with
  |true=>rw[Gq rfl]at q⊢;exact q.now S1 _ (aQ.mpr rfl)
  |false=>rw[Gr G6]at q⊢;exact⟨α1,ρ,μ1,S1,R.mono X1,q⟩⟩
theorem BV(ha:PE X a (tD p fa)):PE X (.UnaryOp .Not a pos) (tD p (pH fa)):=
 (Cm ha).weak fun σ H Q ⟨α, ρ, μ, S, R, P⟩ => ⟨α, ρ, μ, S, R, P.bind.imp fun d μ1 H1 α1 X1 S1 P1 v rv => by
  obtain⟨k,_,e,q⟩:=kg P1.bind rv S1
  exact⟨k,e,q.now S1 _ (aQ.mpr rfl)⟩⟩
theorem xr{id:String}{x:Str}{px:Pos}{f:List D->aw->af D}{fr:MA}{r:List V->Hp->VK->Prop}(hc:bM X (.builtin id) r)(hd:qO p f r)(hg:Gl X x)(hm:X.mg x=none)(hv:bootBuiltins x=some (.builtin id))(ha:PA X (a::es) (j5 p fr))
  (hn:x ≠ "__name__") (hdb:(x == ("__debug__" : Str))=false) (he:starEach (a::es) X.env=(false,eval a X.env)::starEach es X.env) (hpl:(backTo pos (starEach es X.env)).any (·.1)=false):PE X (.Call (.Name x px) (a::es) [] pos) (tD p (aH f fr)):=
 (pV hc hg hm hv ha hn hdb he hpl).weak fun σ H Q ⟨α,ρ,μ,S,R,P⟩=>⟨α,ρ,μ,S,R,P.bind.imp fun ds μ1 H1 α1 X1 S1 P1 vs rv=>hd ds vs H1 α1 μ1 Q S1 rv P1⟩
theorem uB{T:String}{x:Str}{px:Pos}{f:List D->aw->af D}{fr:MA}{r:List V->Hp->VK->Prop}(hc:bM X (.type T) r)(hd:qO p f r)(hg:Gl X x)(hm:X.mg x=none)(hv:bootBuiltins x=some (.type T))(ha:PA X (a::es) (j5 p fr))
  (hn:x ≠ "__name__") (hdb:(x == ("__debug__" : Str))=false) (he:starEach (a::es) X.env=(false,eval a X.env)::starEach es X.env) (hpl:(backTo pos (starEach es X.env)).any (·.1)=false):PE X (.Call (.Name x px) (a::es) [] pos) (tD p (aH f fr)):=
 (uI hc hg hm hv ha hn hdb he hpl).weak fun σ H Q ⟨α,ρ,μ,S,R,P⟩=>⟨α,ρ,μ,S,R,P.bind.imp fun ds μ1 H1 α1 X1 S1 P1 vs rv=>hd ds vs H1 α1 μ1 Q S1 rv P1⟩
end
def cn(f:ME):MS:=fun ρ μ=>(f ρ μ).bindS fun d μ'=>.ret d μ'
def eT:MS:=fun ρ μ=>.next ρ μ
def t7:MS:=fun _ _=>.bad
def bx(f g:MS):MS:=fun ρ μ=>(f ρ μ).bind g
def oW(c:MT)(f g:MS):MS:=fun ρ μ=>(c ρ μ).bindS fun b μ1=>if b=true then f ρ μ1 else g ρ μ1
def cB(f:ME)(g:MG):MS:=fun ρ μ=>(f ρ μ).bindS fun d μ1=>(g d ρ μ1).bindS fun ρ' μ2=>.next ρ' μ2
def kC(f:ME):MS:=fun ρ μ=>(f ρ μ).bindS fun _ μ1=>.next ρ μ1
def ak(i:Nat):MG:=fun d ρ μ=>.ok (ρ.set i (some d)) μ
abbrev A5:=List D->Ro->aw->af Ro
def dv:A5:=fun ds ρ μ=>match ds with
 |[]=>.ok ρ μ
 |_::_=>.bad
def aU(g:MG)(u:A5):A5:=fun ds ρ μ=>match ds with
 |[]=>.bad
 |d::r=>(g d ρ μ).bind fun ρ' μ'=>u r ρ' μ'
def du(n:Nat)(u:A5):MG:=fun d ρ μ=>match d with
 |.tup xs=>if xs.length=n then u xs ρ μ else .bad
 |_=>.bad
def t5(o i v:D)(μ:aw):af Unit:=match o,i with
 |.obj n,.int k=>match μ[n]? with
  |some (.lst xs)=>match qQ xs.length k with
   |some j=>.ok () (μ.set n (.lst (xs.set j v)))
   |none=>.bad
  |_=>.bad
 |_,_=>.bad
def pA(fo fi:ME):MG:=fun d ρ μ=>(fo ρ μ).bind fun o μ1=>(fi ρ μ1).bind fun i μ2=>(t5 o i d μ2).bind fun _ μ3=>.ok ρ μ3
def oY(p:Pa)(g:A5):yp:=fun vs σ H Q=>∃α ρ μ ds,p.S H α μ/\dh p.K H α ρ σ/\p.Rs H α ds vs/\aB p H α (g ds ρ μ) (fun ρ' _ H' α'=>∀σ',dh p.K H' α' ρ' σ'->Q σ' H')
theorem PG.weak{X:Cx}{e:Expr}{t t':TG}(h:PG X e t)(k:∀v σ H Q,t' v σ H Q->t v σ H Q):PG X e t':=fun pins s σ H v u Q I r q=>h pins s σ H v u Q I r (k v σ H Q q)
theorem qT.weak{X:Cx}{e:List Expr}{t t':yp}(h:qT X e t)(k:∀v σ H Q,t' v σ H Q->t v σ H Q):qT X e t':=fun pins s σ H v u Q I r q=>h pins s σ H v u Q I r (k v σ H Q q)
theorem PI.weak{X:Cx}{tg e:Expr}{t t':TI}(h:PI X tg e t)(k:∀σ H R,t' σ H R->t σ H R):PI X tg e t':=fun pins s σ H Q I q=>h pins s σ H Q I (k σ H Q q)
section
variable{p:Pa}{X:Cx}{a b c e tg:Expr}{es:List Expr}{f:ME}{g:MG}{u:A5}{pos:Pos}{st:Stmt}{sts:List Stmt}{fs gs:MS}{ft:MT}
theorem BG:i6 X [] (gJ p eT):=zt.weak fun D σ H ⟨α,ρ,μ,S,R,P⟩=>P H α σ jw.refl S R
theorem xo{t u:TS}{D:lI}{σ:St}{H:Hp}{α:List Addr}{o:SO}{k:MS}(h:eU p H α (o.bind k) D)
  (hk:∀D σ H,gJ p k D σ H->u D σ H):eU p H α o {D with nx:=u D}:=by
 cases o with
 |next ρ μ=>exact fun H' α' σ' e s r=>hk _ _ _ ⟨α',ρ,μ,s,r,eU.from e h⟩
 |brk ρ μ=>exact h
 |cnt ρ μ=>exact h
 |ret d μ=>exact h
 |exc x μ=>exact h
 |bad=>exact h
theorem yT(h1:PS X st (gJ p fs))(h2:i6 X sts (gJ p gs)):i6 X (st::sts) (gJ p (bx fs gs)):=
 (xC h1 h2).weak fun D σ H ⟨α,ρ,μ,S,R,P⟩=>⟨α,ρ,μ,S,R,xo (t:=gJ p fs) (σ:=σ) P fun _ _ _ z=>z⟩
theorem BF(h1:PS X st (gJ p fs)):i6 X [st] (gJ p fs):=zr h1
theorem BE(h:PE X e (tD p f)):PS X (.Return (some e) pos) (gJ p (cn f)):=
 (Ca h).weak fun D σ H ⟨α,ρ,μ,S,R,P⟩=>⟨α,ρ,μ,S,R,(aB.bindS P).imp fun d μ1 H1 α1 X1 S1 P1 v rv=>P1 H1 α1 v jw.refl S1 rv⟩
theorem w8:PS X st (gJ p t7):=xE.weak fun D σ H ⟨α,ρ,μ,S,R,P⟩=>P
theorem Ee{A B:List Stmt}(hc:PT X c (gv p ft))(ha:i6 X A (gJ p fs))(hb:i6 X B (gJ p gs)):PS X (.If c A B pos) (gJ p (oW ft fs gs)):=
 (En hc ha hb).weak fun D σ H ⟨α, ρ, μ, S, R, P⟩ => ⟨α, ρ, μ, S, R, (aB.bindS P).imp fun k μ1 H1 α1 X1 S1 P1 => by
  cases k with
  |true=>rw[Gq rfl]at P1⊢;exact⟨α1,ρ,μ1,S1,R.mono X1,P1⟩
  |false=>rw[Gr G6]at P1⊢;exact⟨α1,ρ,μ1,S1,R.mono X1,P1⟩⟩
theorem qq{D:lI}{σ:St}{H:Hp}(h:gJ p (cB f g) D σ H):vH (tD p f) (nV p g) D σ H:=by
 obtain⟨α,ρ,μ,S,R,P⟩:=h;exact⟨α,ρ,μ,S,R,(aB.bindS P).imp fun d μ1 H1 α1 X1 S1 P1 v rv=>⟨α1,ρ,μ1,d,S1,R.mono X1,rv,(aB.bindS P1).imp fun ρ' μ2 H2 α2 X2 S2 P2 σ' r'=>P2 H2 α2 σ' jw.refl S2 r'⟩⟩
theorem BI(he:PE X e (tD p f))(hg:PG X tg (nV p g))(hs:swapsWithSole [tg] e pos.line X.env=pure false)(hw:swappedStores [tg] e X.env=pure none)
  (h1:(assignEach [tg] X.env).map (·.2)=[assign tg X.env]):PS X (.Assign [tg] e pos) (gJ p (cB f g)):=(Cc he hg hs hw h1).weak fun D σ H h=>qq h
theorem mr{i:Nat}{v:V}{σ:St}{H:Hp}{Q:St->Hp->Prop}(h:nV p (ak i) v σ H Q):pB i v σ H Q:=by
 obtain⟨α,ρ,μ,d,S,R,r,P⟩:=h;exact P.now S _ (R.set i r)
theorem ze{i:Nat}{x:Str}(hN:X.N.Nodup)(hi:X.N[i]?=some x)(hx:Ap X.env.scope x)(hf:X.fn x=true\/X.env.scope.names.lookup x=some .local):PG X (.Name x pos) (nV p (ak i)):=
 (zA hN hi hx hf).weak fun v σ H Q h=>mr h
theorem BD{i:Nat}{x:Str}{pos':Pos}(hN:X.N.Nodup)(hi:X.N[i]?=some x)(hx:Ap X.env.scope x)(he:PE X e (tD p f))(hs:swapsWith e (some (.Name x pos')) pos.line X.env=pure false)(hf:X.fn x=true\/X.env.scope.names.lookup x=some .local) :
  PS X (.Assign [.Name x pos'] e pos) (gJ p (cB f (ak i))):=(B9 hN hi hx he hs hf).weak fun D σ H h=>by
 obtain⟨α,ρ,μ,S,R,P⟩:=qq h;exact⟨α,ρ,μ,S,R,P.imp fun d μ1 H1 α1 X1 S1 P1 v rv=>mr (P1 v rv)⟩
theorem yS(he:PE X e (tD p f))(hs:swapsWith e none pos.line X.env=pure false):PS X (.Expr e pos) (gJ p (kC f)):=
 (zv he hs).weak fun D σ H ⟨α,ρ,μ,S,R,P⟩=>⟨α,ρ,μ,S,R,(aB.bindS P).imp fun d μ1 H1 α1 X1 S1 P1 v rv=>P1 H1 α1 σ jw.refl S1 (R.mono X1)⟩
theorem zd:qT X [] (oY p dv):=zz.weak fun vs σ H Q ⟨α,ρ,μ,ds,S,R,r,P⟩=>by
 cases ds with
 |nil=>simp only[Reps]at r;exact⟨r,P.now S σ R⟩
 |cons d ds=>exact P.elim
theorem xk(h1:PG X e (nV p g))(h2:qT X es (oY p u))(hs:(assignEach (e::es) X.env).map (·.2)=assign e X.env::(assignEach es X.env).map (·.2)):qT X (e::es) (oY p (aU g u)):=
 (xG h1 h2 hs).weak fun vs σ H Q ⟨α, ρ, μ, ds, S, R, r, P⟩ => by
  cases ds with
  |nil=>exact P.elim
  |cons d ds=>
   simp only[Reps]at r;obtain⟨v,vr,rfl,r1,r2⟩:=r;refine⟨v,vr,rfl,α,ρ,μ,d,S,R,r1,?_⟩;exact(aB.bind (o:=g d ρ μ) P).imp fun ρ' μ1 H1 α1 X1 S1 P1 σ' r'=>⟨α1,ρ',μ1,ds,S1,r',r2.mono X1,P1⟩
theorem BQ{k n:Nat}(hK:X.K=p.K)(hc:X.calm=true)(h:qT X es (oY p u))(hn:(assignEach es X.env).length=n)(hst:(assignEach es X.env).findIdx? (·.1)=none):PG X (.Tuple es k pos) (nV p (du n u)):=
 (Cf hc h hn hst).weak fun v σ H Q ⟨α, ρ, μ, d, S, R, r, P⟩ => by
  cases d with
  |tup xs=>
   obtain⟨a,vs,rfl,h1,h2⟩:=aF.mp r;have P':aB p H α (if xs.length=n then u xs ρ μ else .bad) _:=P;by_cases hl:xs.length=n
   ·rw[Gq hl]at P';exact⟨a,vs,rfl,by rw[hK];exact h1,by rw[h2.length];exact hl,α,ρ,μ,xs,S,R,h2,P'⟩
   ·rw[Gr hl]at P';exact P'.elim
  |non=>exact P.elim
  |bl b=>exact P.elim
  |int i=>exact P.elim
  |str x=>exact P.elim
  |frz xs=>exact P.elim
  |obj n=>exact P.elim
theorem zg{o i d:D}{μ:aw}{H:Hp}{α:List Addr}{R:Unit->aw->Hp->List Addr->Prop}{vo vi v:V}(S:p.S H α μ)(ro:p.R H α o vo)(ri:p.R H α i vi)(rv:p.R H α d v)(P:aB p H α (t5 o i d μ) R) :
  AA vo vi v H fun H'=>∃μ',p.X H H' α α/\p.S H' α μ'/\R () μ' H' α:=by
 unfold t5 at P;split at P
 ·rename_i n k;split at P
  ·rename_i xs hx;split at P
   ·rename_i j hj;obtain⟨a,ea,us,hH,rr⟩:=S.at hx;obtain⟨a',rfl,ea'⟩:=aR.mp ro;rw[ea]at ea';cases ea';rw[aj.mp ri];have q:=rr.set rv j;refine⟨a,us,k,j,rfl,rfl,hH,by rw[rr.length];exact hj,_,gN hH,S.put hx ea hH q,?_⟩;exact P _ _ (gN hH) (S.put hx ea hH q)
   ·exact P.elim
  ·exact P.elim
 ·exact P.elim
theorem BR{o i:Expr}{fo fi:ME}(ho:PE X o (tD p fo))(hi:PE X i (tD p fi))
  (ha : ∀ v, assign (.Subscript o i pos) X.env v = (do
   let ov <- holding [v] (eval o X.env)
   let iv <- holding [v,ov] (eval i X.env)
   standAt pos
   holding [v,ov,iv] (setItem ov iv v)
   release [v,ov,iv] [])):PG X (.Subscript o i pos) (nV p (pA fo fi)):=
 (Cg ho hi xl ha).weak fun v σ H Q ⟨α, ρ, μ, d, S, R, r, P⟩ => ⟨α, ρ, μ, S, R, (aB.bind P).imp fun od μ1 H1 α1 X1 S1 P1 vo ro => ⟨α1, ρ, μ1, S1, R.mono X1, (aB.bind P1).imp fun id μ2 H2 α2 X2 S2 P2 vi ri => by
  obtain⟨pp,xs,k,j,e1,e2,e3,e4,μ3,x3,s3,q⟩:=zg S2 (ro.mono X2) ri ((r.mono X1).mono X2) (aB.bind P2)
  exact⟨pp,xs,k,j,e1,e2,e3,e4,q.now s3 σ (((R.mono X1).mono X2).mono x3)⟩⟩⟩
end
inductive kT where
 |fix (xs:List D)|own (n:Nat) (xs:List D)|eno (n:Nat) (xs:List D)
def fG:Nat->List D->List D
 |_,[]=>[]
 |i,x::r=>.tup [.int i,x]::fG (i+1) r
theorem nI:∀{xs:List D}{k i:Nat},(fG k xs)[i]?=(xs[i]?).map fun x=>D.tup [.int ((k+i:Nat):Int),x]
 |[],_,_=>by simp[fG]
 |x::r,k,0=>by simp[fG]
 |x::r,k,i+1=>by
  simp only[fG,List.getElem?_cons_succ];rw[nI (xs:=r) (k:=k+1) (i:=i)];congr 1;funext y;congr 4;omega
theorem nH:∀{xs:List D}{k:Nat},(fG k xs).length=xs.length
 |[],_=>rfl
 |x::r,k=>by simp[fG,nH (xs:=r)]
def kT.items:kT->List D
 |.fix xs=>xs
 |.own _ xs=>xs
 |.eno _ xs=>fG 0 xs
def dq:kT->aw->Prop
 |.fix _,_=>True
 |.own n xs,μ=>μ[n]?=some (.lst xs)
 |.eno n xs,μ=>μ[n]?=some (.lst xs)
def qY(p:Pa)(J:It)(src:kT)(H0:Hp)(α0:List Addr):Prop:=
 ∀H2 α2 μ2,p.X H0 H2 α0 α2->p.S H2 α2 μ2->dq src μ2 ->
  (∀(i:Nat) d,src.items[i]?=some d->J.go i H2/\∀x H3,J.yld i H2 x H3->p.X H2 H3 α2 α2/\p.S H3 α2 μ2/\p.R H3 α2 d x)/\J.stop src.items.length H2
abbrev MI:=Ro->aw->af kT
def qM(p:Pa)(f:MI):TI:=fun σ H R=>∃α ρ μ,p.S H α μ/\dh p.K H α ρ σ/\aB p H α (f ρ μ) (fun src μ' H' α'=>∀J,dq src μ'->qY p J src H' α'->R J H')
def SO.loop(o:SO)(k:Ro->aw->SO):SO:=match o with
 |.next ρ μ=>k ρ μ
 |.cnt ρ μ=>k ρ μ
 |.brk ρ μ=>.next ρ μ
 |.ret d μ=>.ret d μ
 |.exc x μ=>.exc x μ
 |.bad=>.bad
open Classical in
def hX(src:kT)(g:MG)(fb:MS):List D->Ro->aw->SO
 |[],ρ,μ=>if dq src μ then .next ρ μ else .bad
 |d::r,ρ,μ=>if dq src μ then (g d ρ μ).bindS fun ρ' μ'=>(fb ρ' μ').loop (hX src g fb r) else .bad
def mN(fi:MI)(g:MG)(fb:MS):MS:=fun ρ μ=>(fi ρ μ).bindS fun src μ1=>hX src g fb src.items ρ μ1
section
variable{p:Pa}{X:Cx}{tg iter c:Expr}{fi:MI}{g:MG}{fb:MS}{ft:MT}{body:List Stmt}{pos:Pos}
theorem uR{H:Hp}{α:List Addr}{o:SO}{k:Ro->aw->SO}{D:lI}{N:St->Hp->Prop}(h:eU p H α (o.loop k) D)
  (hN:∀ρ μ H' α' σ',p.X H H' α α'->p.S H' α' μ->dh p.K H' α' ρ σ'->eU p H' α' (k ρ μ) D->N σ' H'):eU p H α o {D with nx:=N,ct:=N,bk:=D.nx}:=by
 cases o with
 |next ρ μ=>exact fun H' α' σ' e s r=>hN ρ μ H' α' σ' e s r (eU.from e h)
 |cnt ρ μ=>exact fun H' α' σ' e s r=>hN ρ μ H' α' σ' e s r (eU.from e h)
 |brk ρ μ=>exact h
 |ret d μ=>exact h
 |exc x μ=>exact h
 |bad=>exact h
theorem BH(hp:PassesOwn (model X.prog X.w) X.A X.env X.xe)(hc:X.calm=true)(hi:PI X tg iter (qM p fi))(hg:PG X tg (nV p g))(hb:i6 X body (gJ p fb))(hs:∀x,foldedSetIterable iter X.env x=pure x) :
  PS X (.For tg iter body [] pos) (gJ p (mN fi g fb)):=(Cb hp hc hi hg hb hs).weak fun D σ H ⟨α,ρ,μ,S,R,P⟩=>by
 refine⟨α,ρ,μ,S,R,(aB.bindS P).imp fun src μ1 H1 α1 X1 S1 P1 J hok hJ=>?_⟩
 refine⟨fun i m σ2 H2=>m=src.items.length-i/\i<=src.items.length/\∃α2 ρ2 μ2,p.X H1 H2 α1 α2/\p.S H2 α2 μ2/\dh p.K H2 α2 ρ2 σ2/\eU p H2 α2 (hX src g fb (src.items.drop i) ρ2 μ2) D,
  ⟨_,rfl,Ig _,α1,ρ,μ1,jw.refl,S1,R.mono X1,by simpa using P1⟩,?_⟩
 rintro i m σ2 H2 ⟨rfl,hi,α2,ρ2,μ2,X2,S2,R2,P2⟩
 by_cases hlt:i<src.items.length
 ·rw [List.drop_eq_getElem_cons hlt] at P2;unfold hX at P2;by_cases ho:dq src μ2
  ·rw [Gq ho] at P2;obtain⟨hgo,hy⟩:=(hJ H2 α2 μ2 X2 S2 ho).1 i _ (JQ hlt)
   refine .inr ⟨hgo,fun σ' H'=>i+1<=src.items.length/\∃α2 ρ2 μ2,p.X H1 H' α1 α2/\p.S H' α2 μ2/\dh p.K H' α2 ρ2 σ'/\eU p H' α2 (hX src g fb (src.items.drop (i+1)) ρ2 μ2) D,
    fun σ' H' ⟨h1,h2⟩=>⟨_,by omega,rfl,h1,h2⟩,fun x H3 yx=>?_⟩
   obtain⟨X3,S3,R3⟩:=hy x H3 yx;refine⟨α2,ρ2,μ2,_,S3,R2.mono X3,R3,(aB.from X3 (aB.bindS P2)).imp fun ρ4 μ4 H4 α4 X4 S4 P4 σ4 R4=>⟨α4,ρ4,μ4,S4,R4,uR P4 fun ρ5 μ5 H5 α5 σ5 X5 S5 R5 P5=>⟨hlt,α5,ρ5,μ5,((X2.trans X3).trans X4).trans X5,S5,R5,P5⟩⟩⟩
  ·rw[Gr ho]at P2;exact P2.elim
 ·have e : i = src.items.length := by omega
  subst e;rw[List.drop_length]at P2;unfold hX at P2;by_cases ho:dq src μ2
  ·rw[Gq ho]at P2;exact .inl ⟨(hJ H2 α2 μ2 X2 S2 ho).2,P2 H2 α2 σ2 jw.refl S2 R2⟩
  ·rw[Gr ho]at P2;exact P2.elim
end
section
variable{p:Pa}{X:Cx}{tg iter:Expr}
theorem uU{H:Hp}{α:List Addr}{μ:aw}{n:Nat}{xs:List D}{a:Addr}(S:p.S H α μ)(hn:μ[n]?=some (.lst xs))(ha:α[n]?=some a):qY p (E3 p.K a) (.own n xs) H α:=by
 intro H2 α2 μ2 X2 S2 ho;obtain⟨a',ea,vs,hH,rr⟩:=S2.at ho;rw[X2.pre n a ha]at ea;cases ea;refine⟨fun i d hd=>?_,vs,dW.of hH,by rw[rr.length];exact G0 _⟩;obtain⟨v,hv,rv⟩:=rr.get hd;refine⟨⟨vs,v,dW.of hH,hv⟩,fun x H3 ⟨e,hx⟩=>?_⟩;subst e;have:=hx vs (dW.of hH);rw[hv]at this;cases this;exact⟨jw.refl,S2,rv⟩
theorem x4{H:Hp}{α:List Addr}{xs:List D}{vs:List V}{a:Addr}(h:Aq p.K H a vs)(r:p.Rs H α xs vs):qY p (E3 p.K a) (.fix xs) H α:=by
 intro H2 α2 μ2 X2 S2 ho;have h2:=(X2.frz a vs h).sq;have rr:=r.mono X2;refine⟨fun i d hd=>?_,vs,h2,by rw[rr.length];exact G0 _⟩;obtain⟨v,hv,rv⟩:=rr.get hd;refine⟨⟨vs,v,h2,hv⟩,fun x H3 ⟨e,hx⟩=>?_⟩;subst e;have:=hx vs h2;rw[hv]at this;cases this;exact⟨jw.refl,S2,rv⟩
theorem xY{H:Hp}{α:List Addr}{xs:List D}{vs:List V}{a:Addr}(h:eD p.K H a vs)(r:p.Rs H α xs vs):qY p (Fj p.K a) (.fix xs) H α:=by
 intro H2 α2 μ2 X2 S2 ho;have h2:=X2.tup a vs h;have rr:=r.mono X2;refine⟨fun i d hd=>?_,vs,h2,by rw[rr.length];exact G0 _⟩;obtain⟨v,hv,rv⟩:=rr.get hd;refine⟨⟨vs,v,h2,hv⟩,fun x H3 ⟨e,hx⟩=>?_⟩;subst e;have:=hx vs h2;rw[hv]at this;cases this;exact⟨jw.refl,S2,rv⟩
def bV(lo:Int)(n:Nat):List D:=(List.range n).map fun(i:Nat)=>D.int (lo+(i:Int))
theorem qf{H:Hp}{α:List Addr}(lo:Int)(n:Nat):qY p (Ds lo n) (.fix (bV lo n)) H α:=by
 intro H2 α2 μ2 X2 S2 ho;refine⟨fun i d hd=>?_,by simp[kT.items,bV,Ds]⟩;have hd':(bV lo n)[i]?=some d:=hd;unfold bV at hd';rw[Hj]at hd';by_cases hi:i<n
 ·rw[JC hi]at hd';cases hd';refine⟨hi,fun x H3 ⟨e,hx⟩=>?_⟩;subst e;subst hx;exact⟨jw.refl,S2,aj.mpr rfl⟩
 ·rw[JD (by simpa using hi)]at hd';cases hd'
def oZ(d:D)(μ:aw):af kT:=match d with
 |.tup xs=>.ok (.fix xs) μ
 |.frz xs=>.ok (.fix xs) μ
 |.obj n=>match μ[n]? with
  |some (.lst xs)=>.ok (.own n xs) μ
  |_=>.bad
 |_=>.bad
def hW(f:ME):MI:=fun ρ μ=>(f ρ μ).bind oZ
def FM(K:W.Frag)(tl:TE):TI:=fun σ H R=>tl σ H fun x H1=>∃a,x=.ref a/\(((∃xs,dW K H1 a xs)/\R (E3 K a) H1)\/((∃xs,eD K H1 a xs)/\R (Fj K a) H1))
theorem Ce{l:Expr}{tl:TE}(hl:PE X l tl):PI X tg l (FM X.K tl):=by
 intro pins s σ H R I h;refine c0 (hl pins s σ H _ I h) fun v s1 ⟨x,H1,I1,r1,q1⟩=>?_;obtain⟨a,e,q⟩:=q1;subst e;cases r1;rcases q with⟨⟨xs,hq⟩,q⟩|⟨⟨xs,hq⟩,q⟩
 ·obtain ⟨its, rv, p, hz⟩ := I1.list hq;refine Jt p.isList ?_;refine⟨s1.heap.objs.size,[s1.heap.objs.size],_,_,H1,rfl,I1.kept (t':=s1.toks) fun b o e=>GY _ e,uk a _,⟨_,GZ _ rfl,rfl,rfl⟩,fun b hb=>?_,q⟩;have e:b=s1.heap.objs.size:=by simpa using hb
  subst e;exact I1.fpOk (G0 _) (I1.hok.fresh (G0 _))
 ·obtain ⟨its, rv, p, hz⟩ := I1.tuple hq;refine Ip (show s1.heap.IsTuple a its.toArray from p) ?_;refine⟨s1.heap.objs.size,[s1.heap.objs.size],_,_,H1,rfl,I1.kept (t':=s1.toks) fun b o e=>GY _ e,rG a _,⟨_,GZ _ rfl,rfl,rfl⟩,fun b hb=>?_,q⟩;have e:b=s1.heap.objs.size:=by simpa using hb
  subst e;exact I1.fpOk (G0 _) (I1.hok.fresh (G0 _))
theorem BP{l:Expr}{f:ME}(hK:X.K=p.K)(hl:PE X l (tD p f)):PI X tg l (qM p (hW f)):=(Ce hl).weak fun σ H R ⟨α,ρ,μ,S,Rr,P⟩=>by
 refine⟨α,ρ,μ,S,Rr,(aB.bind P).imp fun d μ1 H1 α1 X1 S1 P1 v rv=>?_⟩;rw[hK];cases d with
 |tup xs=>
  obtain⟨a,vs,rfl,h1,h2⟩:=aF.mp rv;exact⟨a,rfl,.inr ⟨⟨vs,h1⟩,P1.now S1 _ trivial (xY h1 h2)⟩⟩
 |frz xs=>
  obtain⟨a,vs,rfl,h1,h2⟩:=a9.mp rv;exact⟨a,rfl,.inl ⟨⟨vs,h1.sq⟩,P1.now S1 _ trivial (x4 h1 h2)⟩⟩
 |obj n=>
  obtain⟨a,rfl,ha⟩:=aR.mp rv;unfold oZ at P1;dsimp only at P1;split at P1
  ·rename_i xs hx;obtain⟨a',ea,vs,hH,rr⟩:=S1.at hx;rw[ha]at ea;cases ea;exact⟨a,rfl,.inl ⟨⟨vs,dW.of hH⟩,P1.now S1 _ hx (uU S1 hx ha)⟩⟩
  ·exact P1.elim
 |non=>exact P1.elim
 |bl b=>exact P1.elim
 |int i=>exact P1.elim
 |str x=>exact P1.elim
def jy(ds:List D)(μ:aw):af kT:=match ds with
 |[.int j]=>if -(2^62)<=j/\j<2^62 then .ok (.fix (bV 0 j.toNat)) μ else .bad
 |_=>.bad
def t8(ds:List D)(μ:aw):af kT:=match ds with
 |[.int i,.int j]=>if -(2^62)<=i/\i<2^62/\-(2^62)<=j/\j<2^62 then .ok (.fix (bV i (j-i).toNat)) μ else .bad
 |_=>.bad
def jz(f:List D->aw->af kT)(fa:MA):MI:=fun ρ μ=>(fa ρ μ).bind f
theorem uA {a:Expr}{fa:MA}{px pos:Pos} (hg:Gl X "range") (hm:X.mg "range" = none) (ha:PA X [a] (j5 p fa)) (hs:starEach [a] X.env=[(false,eval a X.env)]):PI X tg (.Call (.Name "range" px) [a] [] pos) (qM p (jz jy fa)):=
 (uH hg hm ha hs).weak fun σ H R ⟨α, ρ, μ, S, Rr, P⟩ => ⟨α, ρ, μ, S, Rr, (aB.bind P).imp fun ds μ1 H1 α1 X1 S1 P1 vs rv => by
  unfold jy at P1;split at P1
  ·rename_i j;obtain⟨v,rfl,r1⟩:=rv.one;rw[aj.mp r1];split at P1
   ·rename_i hj;exact⟨j,rfl,hj.1,hj.2,P1.now S1 _ trivial (qf 0 _)⟩
   ·exact P1.elim
  ·exact P1.elim⟩
theorem uz {a b:Expr}{fa:MA}{px pos:Pos} (hg:Gl X "range") (hm:X.mg "range" = none) (ha:PA X [a,b] (j5 p fa)) (hs:starEach [a,b] X.env=[(false,eval a X.env),(false,eval b X.env)]) (hs2:starEach [b] X.env=[(false,eval b X.env)]):PI X tg (.Call (.Name "range" px) [a,b] [] pos) (qM p (jz t8 fa)):=
 (uG hg hm ha hs hs2).weak fun σ H R ⟨α, ρ, μ, S, Rr, P⟩ => ⟨α, ρ, μ, S, Rr, (aB.bind P).imp fun ds μ1 H1 α1 X1 S1 P1 vs rv => by
  unfold t8 at P1;split at P1
  ·rename_i i j;obtain⟨v,u,rfl,r1,r2⟩:=rv.two;rw[aj.mp r1,aj.mp r2];split at P1
   ·rename_i hj;exact⟨i,j,rfl,hj,P1.now S1 _ trivial (qf i _)⟩
   ·exact P1.elim
  ·exact P1.elim⟩
theorem nz{b:Bool}{src:kT}{xs:List D}{H:Hp}{α:List Addr}{a:Addr}(hi:src.items=fG 0 xs)
  (hs:∀H2 α2 μ2,p.X H H2 α α2->p.S H2 α2 μ2->dq src μ2->∃vs,Sq b p.K H2 a vs/\p.Rs H2 α2 xs vs ):qY p (Fk b p.K a) src H α:=by
 intro H2 α2 μ2 X2 S2 ho;obtain⟨vs,h2,rr⟩:=hs H2 α2 μ2 X2 S2 ho;rw[hi];refine⟨fun i d hd=>?_,vs,h2,by rw[rr.length,nH]⟩;rw[nI]at hd;cases e:xs[i]? with
 |none=>rw[e]at hd;cases hd
 |some y=>
  rw[e]at hd;cases hd;obtain⟨v,hv,rv⟩:=rr.get e;refine⟨⟨vs,v,h2,hv⟩,fun x H3 ⟨q,w,e1,hq,e2,hx⟩=>?_⟩;subst e1 e2;have:=hx vs h2;rw[hv]at this;cases this;refine⟨bO hq,S2.tuple hq,aF.mpr ⟨q,_,rfl,eD.of cE,?_⟩⟩;rw[Nat.zero_add];exact Reps.cons (aj.mpr rfl) (Reps.cons (rv.mono (bO hq)) Reps.nil)
def m8(ds:List D)(μ:aw):af kT:=match ds with
 |[.tup xs]=>.ok (.fix (fG 0 xs)) μ
 |[.obj n]=>match μ[n]? with
  |some (.lst xs)=>.ok (.eno n xs) μ
  |_=>.bad
 |_=>.bad
theorem zc {a:Expr}{fa:MA}{px pos tpos:Pos}{elts:List Expr}{k1:Nat} (hK:X.K=p.K) (hg:Gl X "enumerate") (hm:X.mg "enumerate" = none) (ha:PA X [a] (j5 p fa)) (hs:starEach [a] X.env=[(false,eval a X.env)]) :
  PI X (.Tuple elts k1 tpos) (.Call (.Name "enumerate" px) [a] [] pos) (qM p (jz m8 fa)):=
 (zy hg hm ha hs).weak fun σ H R ⟨α, ρ, μ, S, Rr, P⟩ => ⟨α, ρ, μ, S, Rr, (aB.bind P).imp fun ds μ1 H1 α1 X1 S1 P1 vs rv => by
  rw[hK];unfold m8 at P1;split at P1
  ·rename_i xs;obtain⟨v,rfl,r1⟩:=rv.one;obtain⟨a,us,rfl,h1,h2⟩:=aF.mp r1;exact⟨a,false,rfl,⟨us,h1⟩,P1.now S1 _ trivial (nz (b:=false) rfl fun H2 α2 μ2 X2 S2 _=>⟨us,X2.tup a us h1,h2.mono X2⟩)⟩
  ·rename_i n;split at P1
   ·rename_i xs hx;obtain⟨v,rfl,r1⟩:=rv.one;obtain⟨a,rfl,ha⟩:=aR.mp r1;obtain⟨a',ea,us,hH,rr⟩:=S1.at hx;rw[ha]at ea;cases ea;refine⟨a,true,rfl,⟨us,dW.of hH⟩,P1.now S1 _ hx (nz (b:=true) rfl fun H2 α2 μ2 X2 S2 ho=>?_)⟩;obtain⟨a2,ea2,us2,hH2,rr2⟩:=S2.at (show μ2[n]?=some (.lst xs) from ho);rw[X2.pre n a ha]at ea2;cases ea2;exact⟨us2,dW.of hH2,rr2⟩
   ·exact P1.elim
  ·exact P1.elim⟩
end
def af.nox{β:Type}(o:af β):af β:=match o with
 |.exc _ _=>.bad
 |o=>o
@[simp] theorem ab {β:Type}{a:β}{μ:aw}:(af.ok a μ).nox=.ok a μ:=J1 (J2 _)
abbrev Pa.nx(p:Pa):Pa:=⟨p.K,p.w,fun _ _ _ _=>False⟩
theorem jq{β γ:Type}{p:Pa}{H:Hp}{α:List Addr}{o:af β}{k:β->aw->af γ}{R:γ->aw->Hp->List Addr->Prop}(h:aB p H α (o.nox.bind k) R):aB p.nx H α o (fun a μ1 H1 α1=>aB p H1 α1 (k a μ1) R):=by
 cases o with
 |ok a μ=>exact fun H' α' e s=>aB.from e h
 |exc x μ=>exact False.elim h
 |bad=>exact h
def gL(cap:List (Option Nat))(ρ:Ro):Ro:=cap.map fun o=>o.bind fun j=>(ρ[j]?).join
theorem dh.cap{K:W.Frag}{H:Hp}{α:List Addr}{ρ:Ro}{σ:St}(R:dh K H α ρ σ)(cap:List (Option Nat)):dh K H α (gL cap ρ) (lR cap σ):=by
 refine⟨by simp[gL,lR],fun i d h=>?_⟩;unfold gL at h;unfold lR;rw[Hj]at h⊢;cases e:cap[i]? with
 |none=>rw[e]at h;cases h
 |some o=>
  rw[e]at h;cases o with
  |none=>simp at h
  |some j=>
   simp at h⊢
   obtain⟨v,h1,h2⟩:=R.at' j d (by
    cases e2:ρ[j]? with
    |none=>rw[e2]at h;simp at h
    |some x=>rw[e2]at h;simp at h;rw[h])
   exact⟨v,by rw[h1];rfl,h2⟩
def pk(n:Nat)(y:D)(μ:aw):af Unit:=match μ[n]? with
 |some (.lst ys)=>if ys.length<sizeLine then .ok () (μ.set n (.lst (ys++[y]))) else .bad
 |_=>.bad
open Classical in
def compLoop(src:kT)(n:Nat)(g:MG)(t:MT)(e:ME):List D->Ro->aw->af D
 |[],_,μ=>if dq src μ then .ok (.obj n) μ else .bad
 |d::r,ρ,μ=>if dq src μ then (g d ρ μ).nox.bind fun ρ1 μ1=>(t ρ1 μ1).nox.bind fun b μ2=>if b=true then (e ρ1 μ2).nox.bind fun y μ3=>(pk n y μ3).bind fun _ μ4=>compLoop src n g t e r ρ1 μ4 else compLoop src n g t e r ρ1 μ2 else .bad
def de(fi:MI)(cap:List (Option Nat))(g:MG)(t:MT)(e:ME):ME:=fun ρ μ=>(fi ρ μ).bind fun src μ1=>compLoop src μ1.length g t e src.items (gL cap ρ) (μ1++[.lst []])
def bq:MT:=fun _ μ=>.ok true μ
theorem xv{p:Pa}{n:Nat}{y:D}{μ:aw}{H:Hp}{α:List Addr}{R:Unit->aw->Hp->List Addr->Prop}{v:V}{acc:Addr}(S:p.S H α μ)(ha:α[n]?=some acc)(rv:p.R H α y v)(P:aB p H α (pk n y μ) R) :
  ∃ys,H acc=some (.lst ys)/\ys.length<sizeLine/\∃μ',p.X H (cj H acc (.lst (ys++[v]))) α α/\p.S (cj H acc (.lst (ys++[v]))) α μ'/\R () μ' (cj H acc (.lst (ys++[v]))) α:=by
 unfold pk at P;split at P
 ·rename_i xs hx;obtain⟨a,ea,us,hH,rr⟩:=S.at hx;rw[ha]at ea;cases ea;split at P
  ·rename_i hl;have q:=rr.snoc rv;exact⟨us,hH,by rw[rr.length];exact hl,_,gN hH,S.put hx ha hH q,P _ _ (gN hH) (S.put hx ha hH q)⟩
  ·exact P.elim
 ·exact P.elim
section
variable{p:Pa}{X:Cx}{tg iter elt:Expr}{ifs:List Expr}{scope:Scope}{Nc:List Str}{cap:List (Option Nat)}{fi:MI}{g:MG}{t:MT}{e:ME}{pos pos':Pos}
theorem nJ{σ:St}{H:Hp}{Q:VK}(h:tD p (de fi cap g t e) σ H Q):vT (qM p fi) cap (nV p.nx g) (gv p.nx t) (tD p.nx e) σ H Q:=by
 obtain⟨α,ρ,μ,S,R,P⟩:=h;refine⟨α,ρ,μ,S,R,(aB.bind P).imp fun src μ1 H1 α1 X1 S1 P1 J hok hJ acc hacc=>?_⟩;obtain⟨x1,s1,_⟩:=b9 (ds:=[]) (vs:=[]) S1 hacc Reps.nil;have hn:(α1++[acc])[μ1.length]?=some acc:=by rw[<- S1.len];simp
 refine⟨fun i m σ2 H2=>m=src.items.length-i/\i<=src.items.length/\∃α2 ρ2 μ2,p.X H1 H2 α1 α2/\p.S H2 α2 μ2/\dh p.K H2 α2 ρ2 σ2/\α2[μ1.length]?=some acc/\aB p H2 α2 (compLoop src μ1.length g t e (src.items.drop i) ρ2 μ2) (RV p Q),
  ⟨_,rfl,Ig _,α1++[acc],gL cap ρ,μ1++[.lst []],x1,s1,((R.mono X1).cap cap).mono x1,hn,by simpa using aB.from x1 P1⟩,?_⟩
 rintro i m σ2 H2 ⟨rfl,hi,α2,ρ2,μ2,X2,S2,R2,a2,P2⟩
 by_cases hlt:i<src.items.length
 ·rw [List.drop_eq_getElem_cons hlt] at P2;unfold compLoop at P2;by_cases ho:dq src μ2
  ·rw [Gq ho] at P2;obtain⟨hgo,hy⟩:=(hJ H2 α2 μ2 X2 S2 ho).1 i _ (JQ hlt)
   refine .inr ⟨hgo,fun σ' H'=>i+1<=src.items.length/\∃α2 ρ2 μ2,p.X H1 H' α1 α2/\p.S H' α2 μ2/\dh p.K H' α2 ρ2 σ'/\α2[μ1.length]?=some acc/\aB p H' α2 (compLoop src μ1.length g t e (src.items.drop (i+1)) ρ2 μ2) (RV p Q),
    fun σ' H' ⟨h1,h2⟩=>⟨_,by omega,rfl,h1,h2⟩,fun x H3 yx=>?_⟩
   obtain⟨X3,S3,R3⟩:=hy x H3 yx;refine⟨α2,ρ2,μ2,_,S3,R2.mono X3,R3,(aB.from (p:=p.nx) X3 (jq P2)).imp fun ρ4 μ4 H4 α4 X4 S4 P4 σ4 R4=>?_⟩;refine⟨α4,ρ4,μ4,S4,R4,(jq P4).imp fun b μ5 H5 α5 X5 S5 P5=>?_⟩;have xx:p.X H1 H5 α1 α5:=((X2.trans X3).trans X4).trans X5;have a5:α5[μ1.length]?=some acc:=X5.pre _ _ (X4.pre _ _ (X3.pre _ _ a2));cases b with
   |false=>
    rw[Gr G6]at P5;refine FI ?_;exact⟨hlt,α5,ρ4,μ5,xx,S5,R4.mono X5,a5,P5⟩
   |true=>
    rw[Gq rfl]at P5;refine FH ?_;refine⟨α5,ρ4,μ5,S5,R4.mono X5,(jq P5).imp fun y μ6 H6 α6 X6 S6 P6 v rv=>?_⟩;obtain⟨ys,e1,e2,μ7,x7,s7,q7⟩:=xv (p:=p) S6 (X6.pre _ _ a5) rv (aB.bind P6);exact⟨ys,e1,e2,hlt,α6,ρ4,μ7,(xx.trans X6).trans x7,s7,((R4.mono X5).mono X6).mono x7,X6.pre _ _ a5,q7⟩
  ·rw[Gr ho]at P2;exact P2.elim
 ·have e : i = src.items.length := by omega
  subst e;rw[List.drop_length]at P2;unfold compLoop at P2;by_cases ho:dq src μ2
  ·rw[Gq ho]at P2;exact .inl ⟨(hJ H2 α2 μ2 X2 S2 ho).2,P2 H2 α2 jw.refl S2 _ (aR.mpr ⟨acc,rfl,a2⟩)⟩
  ·rw[Gr ho]at P2;exact P2.elim
theorem yQ{X:Cx}:qN X [] (gv p bq):=fun pins s σ H Q I h=>by
 obtain⟨α,ρ,μ,S,R,P⟩:=h;exact zp pins s σ H Q I (P.now S)
theorem yP{X:Cx}{c:Expr}{t:MT}(h:PT X c (gv p t)):qN X [c] (gv p t):=zo h
theorem zh(hc:X.calm=true)(S:bB X.N X.env scope Nc cap)(hi:PI X tg iter (qM p fi))
  (hg:∀cl C s H fp,PG (hZ X Nc scope cl C s H fp) tg (nV p.nx g)) (ht:∀cl C s H fp,qN (hZ X Nc scope cl C s H fp) ifs (gv p.nx t)) (he:∀cl C s H fp,PE (hZ X Nc scope cl C s H fp) elt (tD p.nx e))
  (hs:∀x,foldedSetIterable iter X.env x=pure x):PE X (.ListComp elt [⟨tg,iter,ifs,0⟩] scope pos) (tD p (de fi cap g t e)):=
 (zB hc S hi hg ht he hs).weak fun σ H Q h=>nJ h
theorem yR{i:Nat}{x:Str}{pos1:Pos}{pos2:Pos}(hc:X.calm=true)(hN:X.N.Nodup)(hix:X.N[i]?=some x)(hx:X.env.scope.names.lookup x=some .local)(S:bB X.N X.env scope Nc cap)(hi:PI X tg iter (qM p fi))
  (hg:∀cl C s H fp,PG (hZ X Nc scope cl C s H fp) tg (nV p.nx g)) (ht:∀cl C s H fp,qN (hZ X Nc scope cl C s H fp) ifs (gv p.nx t)) (he:∀cl C s H fp,PE (hZ X Nc scope cl C s H fp) elt (tD p.nx e))
  (hsw:swapsWith (.ListComp elt [⟨tg,iter,ifs,0⟩] scope pos) (some (.Name x pos1)) pos2.line X.env=pure true) (hs:∀x,foldedSetIterable iter X.env x=pure x) :
  PS X (.Assign [.Name x pos1] (.ListComp elt [⟨tg,iter,ifs,0⟩] scope pos) pos2) (gJ p (cB (de fi cap g t e) (ak i))):=
 (zu hc hN hix hx S hi hg ht he hsw hs).weak fun D σ H h => by
  obtain⟨α,ρ,μ,S,R,P⟩:=h;refine nJ ⟨α,ρ,μ,S,R,(aB.bindS P).imp fun d μ1 H1 α1 X1 S1 P1 v rv=>?_⟩;exact P1 H1 α1 _ jw.refl S1 ((R.mono X1).set i rv)
end
section
variable{p:Pa}
variable{X:Cx}{elt:Expr}{cl0 cl:Comprehension}{rest:List Comprehension}{scope:Scope}{Nc:List Str}{cap:List (Option Nat)}{fi:MI}{g:MG}{t:MT}{fb:MB}{pos:Pos}{e:Expr}{d:Nat}{acc:Addr}
end
mutual
def D.low(n:Nat):D->Prop
 |.tup xs=>D.lows n xs
 |.frz xs=>D.lows n xs
 |.obj m=>m<n
 |_=>True
def D.lows(n:Nat):List D->Prop
 |[]=>True
 |x::xs=>x.low n/\D.lows n xs
end
def O.low(n:Nat):O->Prop
 |.lst xs=>D.lows n xs
 |_=>True
section
variable{K:W.Frag}{H:Hp}{α α':List Addr}
mutual
theorem aI.low:∀{d:D}{v:V},aI K H α d v->d.low α.length
 |.non,_,_=>trivial
 |.bl _,_,_=>trivial
 |.int _,_,_=>trivial
 |.str _,_,_=>trivial
 |.tup xs,_,h=>by
  obtain⟨a,vs,rfl,h1,h2⟩:=aF.mp h;simp only[D.low];exact Reps.low h2
 |.frz xs,_,h=>by
  obtain⟨a,vs,rfl,h1,h2⟩:=a9.mp h;simp only[D.low];exact Reps.low h2
 |.obj n,_,h=>by
  obtain⟨a,rfl,h1⟩:=aR.mp h;simp only[D.low];exact(GI.mp h1).1
theorem Reps.low:∀{ds:List D}{vs:List V},Reps K H α ds vs->D.lows α.length ds
 |[],_,_=>trivial
 |d::ds,_,h=>by
  simp only[Reps]at h;obtain⟨v,r,rfl,h1,h2⟩:=h;simp only[D.lows];exact⟨aI.low h1,Reps.low h2⟩
end
mutual
theorem aI.cut{n:Nat}(e:∀m,m<n->α'[m]?=α[m]?):∀{d:D}{v:V},aI K H α' d v->d.low n->aI K H α d v
 |.non,_,h,_=>by simp only[aI]at h⊢;exact h
 |.bl _,_,h,_=>by simp only[aI]at h⊢;exact h
 |.int _,_,h,_=>by simp only[aI]at h⊢;exact h
 |.str _,_,h,_=>by simp only[aI]at h⊢;exact h
 |.tup xs,_,h,b=>by
  obtain⟨a,vs,rfl,h1,h2⟩:=aF.mp h;simp only[D.low]at b;exact aF.mpr ⟨a,vs,rfl,h1,Reps.cut e h2 b⟩
 |.frz xs,_,h,b=>by
  obtain⟨a,vs,rfl,h1,h2⟩:=a9.mp h;simp only[D.low]at b;exact a9.mpr ⟨a,vs,rfl,h1,Reps.cut e h2 b⟩
 |.obj m,_,h,b=>by
  obtain⟨a,rfl,h1⟩:=aR.mp h;simp only[D.low]at b;exact aR.mpr ⟨a,rfl,by rw[<- e m b];exact h1⟩
theorem Reps.cut{n:Nat}(e:∀m,m<n->α'[m]?=α[m]?):∀{ds:List D}{vs:List V},Reps K H α' ds vs->D.lows n ds->Reps K H α ds vs
 |[],_,h,_=>by simp only[Reps]at h⊢;exact h
 |d::ds,_,h,b=>by
  simp only[Reps]at h⊢;obtain⟨v,r,rfl,h1,h2⟩:=h;simp only[D.lows]at b;exact⟨v,r,rfl,aI.cut e h1 b.1,Reps.cut e h2 b.2⟩
end
end
def Ba(μ μ':aw)(d:D):Prop:=d.low μ.length/\μ.length<=μ'.length/\∀(i:Nat) o,i<μ.length->μ'[i]?=some o->μ[i]?=some o\/o.low μ.length
open Classical in
def mY(μ:aw)(o:af D):af D:=match o with
 |.ok d μ'=>if Ba μ μ' d then .ok d (μ'.take μ.length) else .ok d μ'
 |o=>o
theorem tJ{p:Pa}{H:Hp}{α:List Addr}{μ:aw}{o:af D}{Q:VK}(S:p.S H α μ)(P:aB p H α (mY μ o) (RV p Q)):aB p H α o (RV p Q):=by
 cases o with
 |exc x μ'=>exact P
 |bad=>exact P
 |ok d μ'=>
  unfold mY at P;dsimp only at P;by_cases hg:Ba μ μ' d
  ·rw [Gq hg] at P;obtain⟨g1,g2,g3⟩:=hg;intro H' α' e s v rv
   have al:∀m,m<μ.length->α'[m]?=α[m]?:=fun m hm=>by
    have hm':m<α.length:=by rw[S.len];exact hm
    rw[JQ hm'];exact e.pre m _ (JQ hm')
   refine P H' α ⟨e.tup,e.frz,fun _ _ z=>z⟩ ⟨by rw[Hf,S.len];omega,S.nd,fun n o a h1 h2=>?_⟩ v (aI.cut al rv g1);have hn:n<μ.length:=by rw[<- S.len];exact(GI.mp h2).1
   rw[List.getElem?_take_of_lt hn]at h1;have q:=s.ob n o a h1 (e.pre n a h2)
   have ob:o.low μ.length:=by
    rcases g3 n o hn h1 with z|z
    ·have q0 := S.ob n o a z h2;cases o with
     |lst xs=>obtain⟨vs,_,r⟩:=q0;have:=r.low;rw[S.len]at this;exact this
     |set ks=>trivial
     |iset ks=>trivial
     |dic=>trivial
     |exc c=>trivial
    ·exact z
   cases o with
   |lst xs=>obtain⟨vs,h3,r⟩:=q;exact⟨vs,h3,Reps.cut al r ob⟩
   |set ks=>exact q
   |iset ks=>exact q
   |dic=>exact q
   |exc c=>exact q
  ·rw[Gr hg]at P;exact P
def SO.out(o:SO):af D:=match o with
 |.ret d μ=>.ok d μ
 |.next _ μ=>.ok .non μ
 |.exc x μ=>.exc x μ
 |_=>.bad
def hV(n N:Nat)(fb:MS):List D->aw->af D:=fun ds μ=>if ds.length=n then mY μ (fb (ds.map some++List.replicate (N-n) none) μ).out else .bad
def Ao(p:Pa)(n:Nat)(F:List D->aw->af D):Sp:=fun vs H Q _=>vs.length=n/\∃α ds μ,p.S H α μ/\p.Rs H α ds vs/\aB p H α (F ds μ) (RV p Q)
structure dB(P:Program)(w:World)(K:W.Frag)(mg:Str->Option Value)(base:Heap)(p:Pa)(k:Nat)(x:Str)(n:Nat)(F:List D->aw->af D):Prop where
 len:∀ds μ,ds.length≠n->F ds μ=.bad
 fn:∃f fd ps,mg x=some (.ref f)/\W.keepIn K (.ref f)=true/\g7 K fd ps []/\mQ P w K mg base vC k f fd ps (Ao p n F)
section
variable{p:Pa}{X:Cx}{k n:Nat}{x:Str}{F:List D->aw->af D}{a:Expr}{es:List Expr}{fr:MA}{pos px:Pos}
theorem zi (h:dB X.prog X.w X.K X.mg X.base p k x n F) (hr:fS k X.A) (hg:Gl X x) (ha:PA X (a::es) (j5 p fr)) (hdb:(x == ("__debug__" : Str))=false) (he:starEach (a::es) X.env=(false,eval a X.env)::starEach es X.env) (hpl:(backTo pos (starEach es X.env)).any (·.1)=false) :
  PE X (.Call (.Name x px) (a::es) [] pos) (tD p (aH F fr)):=by
 obtain⟨f,fd,ps,h1,h2,h3,h4⟩:=h.fn;refine(zD (dvs:=[]) (E:=E0) h4 hr hg h1 h2 h3 .nil Es ha hdb he hpl).weak fun σ H Q ⟨α,ρ,μ,S,R,P⟩=>⟨α,ρ,μ,S,R,(aB.bind P).imp fun ds μ1 H1 α1 X1 S1 P1 vs rv=>?_⟩;show Ao p n F (vs++[]) H1 Q E0;rw[G8];refine⟨?_,α1,ds,μ1,S1,rv,P1⟩;by_cases hl:ds.length=n
 ·rw[rv.length];exact hl
 ·rw[h.len ds μ1 hl]at P1;exact P1.elim
end
theorem mB{K:W.Frag}{H:Hp}{α:List Addr}{ds:List D}{vs:List V}(r:Reps K H α ds vs)(m:Nat):dh K H α (ds.map some++List.replicate m none) (vs.map some++List.replicate m none):=by
 refine⟨by simp[r.length],fun i d h=>?_⟩;by_cases hi:i<ds.length
 ·rw [Hi (by simpa using hi), Hj] at h;cases e:ds[i]? with
  |none=>rw[e]at h;cases h
  |some x=>
   rw[e]at h;cases h;obtain⟨v,hv,rv⟩:=r.get e;refine⟨v,?_,rv⟩;rw[Hi (by simp[r.length,hi]),Hj,hv];rfl
 ·rw[Hh (by simpa using hi),List.getElem?_replicate]at h;split at h <;> cases h
theorem Dl{P:Program}{w:World}{K:W.Frag}{mg:Str->Option Value}{base:Heap}{p:Pa}{k n:Nat}{x qual:Str}{st:Stmt}{f:Addr}{fd:FuncData}{N ps:List Str}{fb:MS}
  (F:gh K x qual st f fd) (S:aS N ps (ar st)) (hn:ps.length=n) (hm:mg x=some (.ref f)) (hb:g7 K fd ps [])
  (body : ∀ (cdv : Value) (A : Around) (outer : List Env) (s : Shared) (H : Hp) (E : XK), fS k (A.deeper (envOfC qual (ar st) s.heap.objs.size f cdv)) ->
   i6 (nY vC P w K mg base N qual (ar st) f cdv A outer s H E).nox (bP st) (gJ p fb)):dB P w K mg base p (k+1) x n (hV n N.length fb):=by
 refine⟨fun ds μ h=>by unfold hV;rw[Gr h],f,fd,ps,hm,F.kp,hb,?_⟩;refine F.ok S (fun vs H Q E h=>h.1.trans hn.symm) fun cdv A outer s H vs Q E hr h=>?_;refine⟨_,body cdv A outer s H E hr,?_⟩;obtain⟨hl,α,ds,μ,S1,R1,P1⟩:=h;unfold hV at P1;have hd:ds.length=n:=by rw[<- R1.length];exact hl
 rw[Gq hd]at P1;have P2:=tJ S1 P1;unfold start;rw[hl];refine⟨α,_,μ,S1,mB R1 _,?_⟩;cases e:fb (ds.map some++List.replicate (N.length-n) none) μ with
 |ret d μ'=>rw[e]at P2;exact fun H' α' v x s r=>P2 H' α' x s v r
 |next ρ μ'=>rw[e]at P2;exact fun H' α' σ' x s r=>P2 H' α' x s .non (bA.mpr rfl)
 |exc x μ'=>rw[e]at P2;exact P2
 |brk ρ μ'=>rw[e]at P2;exact P2.elim
 |cnt ρ μ'=>rw[e]at P2;exact P2.elim
 |bad=>rw[e]at P2;exact P2.elim
end L2
namespace L2
open PySem PySem.Spec PyProof.Rows RS
section
variable(K:W.Frag)(H:Hp)
mutual
def j7:PyData->V->Prop
 |.none,v=>v=.non
 |.bool b,v=>v=.bl b
 |.int i,v=>v=.int i
 |.str x,v=>v=.str x
 |.tuple xs,v=>∃a vs,v=.ref a/\eD K H a vs/\RdPs xs vs
 |.list xs,v=>∃a vs,v=.ref a/\dW K H a vs/\RdPs xs vs
 |.dict _,_=>False
def RdPs:List PyData->List V->Prop
 |[],vs=>vs=[]
 |x::xs,vs=>∃v r,vs=v::r/\j7 x v/\RdPs xs r
end
end
section
variable{X:Cx}{pins:List (Addr×Obj)}{σ:St}{H:Hp}{s:Shared}
mutual
theorem cU(I:aN X pins σ H s):∀(d:PyData)(x:V)(v:Value),j7 X.K H d x->bJ x v->∃as,Reads s.heap v d as
 |.none,_,_,h,r=>by simp only[j7]at h;subst h;cases r;exact⟨_,.none⟩
 |.bool b,_,_,h,r=>by simp only[j7]at h;subst h;cases r;exact⟨_,.bool b⟩
 |.int b,_,_,h,r=>by simp only[j7]at h;subst h;obtain⟨t,rfl⟩:=r;exact⟨_,.int b t⟩
 |.str b,_,_,h,r=>by simp only[j7]at h;subst h;obtain⟨t,rfl⟩:=r;exact⟨_,.str b t⟩
 |.tuple xs,_,_,h,r=>by
  simp only[j7]at h;obtain⟨a,vs,rfl,h1,h2⟩:=h;cases r;obtain⟨its,rv,⟨o,e1,e2,n,e3⟩,_⟩:=I.tuple h1;obtain⟨as,q⟩:=readsAll_of I xs vs its h2 rv;exact⟨_,.tuple e1 e2 e3 (by simpa using q)⟩
 |.list xs,_,_,h,r=>by
  simp only[j7]at h;obtain⟨a,vs,rfl,h1,h2⟩:=h;cases r;obtain⟨its,rv,⟨o,n,e1,e2,_,e3⟩,_⟩:=I.list h1;obtain⟨as,q⟩:=readsAll_of I xs vs its h2 rv;exact⟨_,.list e1 e2 e3 (by simpa using q)⟩
 |.dict _,_,_,h,_=>by simp only[j7]at h
theorem readsAll_of(I:aN X pins σ H s):∀(ds:List PyData)(xs:List V)(vs:List Value),RdPs X.K H ds xs->aX xs vs->∃as,ReadsAll s.heap vs ds as
 |[],_,_,h,r=>by simp only[RdPs]at h;subst h;cases r;exact⟨_,.nil⟩
 |d::ds,_,_,h,r=>by
  simp only[RdPs]at h;obtain⟨v,q,rfl,h1,h2⟩:=h;cases r with
  |cons r rr=>
   obtain⟨as,g1⟩:=cU I d _ _ h1 r;obtain⟨bs,g2⟩:=readsAll_of I ds _ _ h2 rr;exact⟨_,.cons g1 g2⟩
end
def fe(d:PyData):Bool:=d.canLay0&&decide (d.depth<=60)
def vJ(K:W.Frag)(neg:Bool):R2:=fun x y H Q=>∃a b,j7 K H a x/\j7 K H b y/\fe a=true/\fe b=true/\Q (.bl (if neg then !PyData.eqv a b else PyData.eqv a b)) H
theorem ko{a b:PyData}{A:Around}(ha:fe a=true)(hu:A.units+64<cLine):A.units+min a.depth b.depth<cLine:=by
 unfold fe at ha;simp only[HC,J3]at ha;have:=Nat.min_le_left a.depth b.depth;omega
theorem bE{a:PyData}(ha:fe a=true):a.canLay0=true:=by
 unfold fe at ha;simp only[HC,J3]at ha;exact ha.1
theorem mv{a:PyData}(ha:fe a=true):a.depth<=60:=by
 unfold fe at ha;simp only[HC,J3]at ha;exact ha.2
theorem CB(hu:X.A.units+64<cLine):gf X (compareOp .Eq) (vJ X.K false):=by
 intro pins s σ H x y v u Q I rx ry h;obtain⟨a,b,h1,h2,h3,h4,q⟩:=h;obtain⟨as,r1⟩:=cU I a x v h1 rx;obtain⟨bs,r2⟩:=cU I b y u h2 ry;exact SeqAt.compareEq_reads r1 r2 (bE h3) (bE h4) (ko h3 hu) ⟨.bl _,H,I,rfl,q⟩
theorem Cv(hu:X.A.units+64<cLine):gf X (compareOp .NotEq) (vJ X.K true):=by
 intro pins s σ H x y v u Q I rx ry h;obtain⟨a,b,h1,h2,h3,h4,q⟩:=h;obtain⟨as,r1⟩:=cU I a x v h1 rx;obtain⟨bs,r2⟩:=cU I b y u h2 ry;exact SeqAt.compareNe_reads r1 r2 (bE h3) (bE h4) (ko h3 hu) ⟨.bl _,H,I,rfl,q⟩
def vI(K:W.Frag)(neg:Bool):R2:=fun x y H Q=>∃a b xs,j7 K H a x/\j7 K H b y/\(b=.list xs\/b=.tuple xs)/\fe a=true/\fe b=true/\Q (.bl (if neg then !(xs.any fun y=>PyData.eqv y a) else xs.any fun y=>PyData.eqv y a)) H
theorem CA(hu:X.A.units+64<cLine):gf X (compareOp .In) (vI X.K false):=by
 intro pins s σ H x y v u Q I rx ry h;obtain⟨a,b,xs,h1,h2,hb,h3,h4,q⟩:=h;obtain⟨as,r1⟩:=cU I a x v h1 rx;obtain⟨bs,r2⟩:=cU I b y u h2 ry;have hd:=mv h3;rcases hb with rfl|rfl
 ·refine SeqAt.in_list_reads r2 r1 (by simpa[PyData.canLay0] using bE h4) (bE h3) ?_ ⟨.bl _,H,I,rfl,q⟩;have:=Ht (PyData.depthAll xs) a.depth;omega
 ·refine SeqAt.in_tuple_reads r2 r1 (by simpa[PyData.canLay0] using bE h4) (bE h3) ?_ ⟨.bl _,H,I,rfl,q⟩;have:=Ht (PyData.depthAll xs) a.depth;omega
theorem uK(hu:X.A.units+64<cLine):gf X (compareOp .NotIn) (vI X.K true):=by
 intro pins s σ H x y v u Q I rx ry h;obtain⟨a,b,xs,h1,h2,hb,h3,h4,q⟩:=h;obtain⟨as,r1⟩:=cU I a x v h1 rx;obtain⟨bs,r2⟩:=cU I b y u h2 ry;have hd:=mv h3;rcases hb with rfl|rfl
 ·refine SeqAt.notIn_list_reads r2 r1 (by simpa[PyData.canLay0] using bE h4) (bE h3) ?_ ⟨.bl _,H,I,rfl,q⟩;have:=Ht (PyData.depthAll xs) a.depth;omega
 ·refine SeqAt.notIn_tuple_reads r2 r1 (by simpa[PyData.canLay0] using bE h4) (bE h3) ?_ ⟨.bl _,H,I,rfl,q⟩;have:=Ht (PyData.depthAll xs) a.depth;omega
end
mutual
def qP(μ:aw):D->Option PyData
 |.non=>some .none
 |.bl b=>some (.bool b)
 |.int i=>some (.int i)
 |.str x=>some (.str x)
 |.tup xs=>(toPs μ xs).map .tuple
 |.frz xs=>(toPs μ xs).map .list
 |.obj _=>none
def toPs(μ:aw):List D->Option (List PyData)
 |[]=>some []
 |x::xs=>(qP μ x).bind fun a=>(toPs μ xs).map fun r=>a::r
end
def t4(μ:aw)(d:D):Option PyData:=match d with
 |.obj n=>match μ[n]? with
  |some (.lst xs)=>(toPs μ xs).map .list
  |_=>none
 |d=>qP μ d
def fU(μ:aw):List D->Option (List PyData)
 |[]=>some []
 |x::xs=>(t4 μ x).bind fun a=>(fU μ xs).map fun r=>a::r
def oV(μ:aw)(d:D):Option PyData:=match d with
 |.obj n=>match μ[n]? with
  |some (.lst xs)=>(fU μ xs).map .list
  |_=>none
 |.tup xs=>(fU μ xs).map .tuple
 |d=>qP μ d
section
variable{K:W.Frag}{w:World}{H:Hp}{α:List Addr}{μ:aw}
mutual
theorem fg:∀{d:D}{q:PyData}{v:V},qP μ d=some q->aI K H α d v->j7 K H q v
 |.non,_,_,h,r=>by simp only[qP]at h;cases h;simp only[j7];exact bA.mp r
 |.bl b,_,_,h,r=>by simp only[qP]at h;cases h;simp only[j7];exact aQ.mp r
 |.int b,_,_,h,r=>by simp only[qP]at h;cases h;simp only[j7];exact aj.mp r
 |.str b,_,_,h,r=>by simp only[qP]at h;cases h;simp only[j7];exact aD.mp r
 |.tup xs,_,_,h,r=>by
  simp only[qP]at h;cases e:toPs μ xs with
  |none=>rw[e]at h;cases h
  |some ys=>
   rw[e]at h;cases h;obtain⟨a,vs,rfl,h1,h2⟩:=aF.mp r;simp only[j7];exact⟨a,vs,rfl,h1,toPs_ok e h2⟩
 |.frz xs,_,_,h,r=>by
  simp only[qP]at h;cases e:toPs μ xs with
  |none=>rw[e]at h;cases h
  |some ys=>
   rw[e]at h;cases h;obtain⟨a,vs,rfl,h1,h2⟩:=a9.mp r;simp only[j7];exact⟨a,vs,rfl,h1.sq,toPs_ok e h2⟩
 |.obj n,_,_,h,r=>by simp only[qP]at h;cases h
theorem toPs_ok:∀{ds:List D}{qs:List PyData}{vs:List V},toPs μ ds=some qs->Reps K H α ds vs->RdPs K H qs vs
 |[],_,_,h,r=>by simp only[toPs]at h;cases h;simp only[RdPs];simp only[Reps]at r;exact r
 |x::xs,_,_,h,r=>by
  simp only[toPs]at h;cases e1:qP μ x with
  |none=>rw[e1]at h;cases h
  |some a=>
   cases e2:toPs μ xs with
   |none=>rw[e1,e2]at h;cases h
   |some ys=>
    rw[e1,e2]at h;cases h;simp only[Reps]at r;obtain⟨v,vr,rfl,r1,r2⟩:=r;simp only[RdPs];exact⟨v,vr,rfl,fg e1 r1,toPs_ok e2 r2⟩
end
theorem yN{d:D}{q:PyData}{v:V}(S:fR K w H α μ)(h:t4 μ d=some q)(r:aI K H α d v):j7 K H q v:=by
 cases d with
 |obj n=>
  unfold t4 at h;dsimp only at h;split at h
  ·rename_i xs hx;obtain⟨a,ea,us,hH,rr⟩:=S.at hx;obtain⟨a',rfl,ea'⟩:=aR.mp r;rw[ea]at ea';cases ea';cases e:toPs μ xs with
   |none=>rw[e]at h;cases h
   |some ys=>
    rw[e]at h;cases h;simp only[j7];exact⟨a,us,rfl,dW.of hH,toPs_ok e rr⟩
  ·cases h
 |non=>exact fg h r
 |bl b=>exact fg h r
 |int i=>exact fg h r
 |str x=>exact fg h r
 |tup xs=>exact fg h r
 |frz xs=>exact fg h r
theorem l0(S:fR K w H α μ):∀{ds:List D}{qs:List PyData}{vs:List V},fU μ ds=some qs->Reps K H α ds vs->RdPs K H qs vs
 |[],_,_,h,r=>by simp only[fU]at h;cases h;simp only[RdPs];simp only[Reps]at r;exact r
 |x::xs,_,_,h,r=>by
  simp only[fU]at h;cases e1:t4 μ x with
  |none=>rw[e1]at h;cases h
  |some a=>
   cases e2:fU μ xs with
   |none=>rw[e1,e2]at h;cases h
   |some ys=>
    rw[e1,e2]at h;cases h;simp only[Reps]at r;obtain⟨v,vr,rfl,r1,r2⟩:=r;simp only[RdPs];exact⟨v,vr,rfl,yN S e1 r1,l0 S e2 r2⟩
theorem j9{d:D}{q:PyData}{v:V}(S:fR K w H α μ)(h:oV μ d=some q)(r:aI K H α d v):j7 K H q v:=by
 cases d with
 |obj n=>
  unfold oV at h;dsimp only at h;split at h
  ·rename_i xs hx;obtain⟨a,ea,us,hH,rr⟩:=S.at hx;obtain⟨a',rfl,ea'⟩:=aR.mp r;rw[ea]at ea';cases ea';cases e:fU μ xs with
   |none=>rw[e]at h;cases h
   |some ys=>
    rw[e]at h;cases h;simp only[j7];exact⟨a,us,rfl,dW.of hH,l0 S e rr⟩
  ·cases h
 |tup xs=>
  unfold oV at h;dsimp only at h;cases e:fU μ xs with
  |none=>rw[e]at h;cases h
  |some ys=>
   rw[e]at h;cases h;obtain⟨a,vs,rfl,h1,h2⟩:=aF.mp r;simp only[j7];exact⟨a,vs,rfl,h1,l0 S e h2⟩
 |non=>exact fg h r
 |bl b=>exact fg h r
 |int i=>exact fg h r
 |str x=>exact fg h r
 |frz xs=>exact fg h r
end
def lh(neg:Bool)(a b:D)(μ:aw):af D:=match oV μ a,oV μ b with
 |some p,some q=>if fe p=true/\fe q=true then .ok (.bl (if neg then !PyData.eqv p q else PyData.eqv p q)) μ else .bad
 |_,_=>.bad
def wH:PyData->Option (List PyData)
 |.list xs=>some xs
 |.tuple xs=>some xs
 |_=>none
def vy(neg:Bool)(a b:D)(μ:aw):af D:=match oV μ a,oV μ b with
 |some p,some q=>match wH q with
  |some xs=>if fe p=true/\fe q=true then .ok (.bl (if neg then !(xs.any fun y=>PyData.eqv y p) else xs.any fun y=>PyData.eqv y p)) μ else .bad
  |none=>.bad
 |_,_=>.bad
theorem AL{p:Pa}{neg:Bool}:mM p (lh neg) (vJ p.K neg):=by
 intro a b v y H α μ Q S ra rb P;unfold lh at P;split at P
 ·rename_i x z hx hz;split at P
  ·rename_i hf;exact⟨x,z,j9 S hx ra,j9 S hz rb,hf.1,hf.2,P.now S _ (aQ.mpr rfl)⟩
  ·exact P.elim
 ·exact P.elim
theorem AK{p:Pa}{neg:Bool}:mM p (vy neg) (vI p.K neg):=by
 intro a b v y H α μ Q S ra rb P;unfold vy at P;split at P
 ·rename_i x z hx hz;split at P
  ·rename_i xs hxs;split at P
   ·rename_i hf;refine⟨x,z,xs,j9 S hx ra,j9 S hz rb,?_,hf.1,hf.2,P.now S _ (aQ.mpr rfl)⟩;cases z <;> first|(cases hxs;exact .inl rfl)|(cases hxs;exact .inr rfl)|(cases hxs)
   ·exact P.elim
  ·exact P.elim
 ·exact P.elim
def D.isNon:D->Bool
 |.non=>true
 |_=>false
def vM(neg:Bool)(a b:D)(μ:aw):af D:=match b with
 |.non=>.ok (.bl (if neg then !a.isNon else a.isNon)) μ
 |_=>.bad
theorem Aa{K:W.Frag}{H:Hp}{α:List Addr}{a:D}{v:V}(r:aI K H α a v):decide (v=.non)=a.isNon:=by
 cases a with
 |non=>rw[bA.mp r];rfl
 |bl b=>rw[aQ.mp r];rfl
 |int b=>rw[aj.mp r];rfl
 |str b=>rw[aD.mp r];rfl
 |tup xs=>obtain⟨a,vs,rfl,_⟩:=aF.mp r;rfl
 |frz xs=>obtain⟨a,vs,rfl,_⟩:=a9.mp r;rfl
 |obj xs=>obtain⟨a,rfl,_⟩:=aR.mp r;rfl
theorem CO{p:Pa}:mM p (vM false) (fun x y H Q=>y=.non/\Q (.bl (decide (x=.non))) H):=by
 intro a b v y H α μ Q S ra rb P;cases b with
 |non=>exact⟨bA.mp rb,P.now S _ (aQ.mpr (by rw[Aa ra];rfl))⟩
 |bl b=>exact P.elim
 |int b=>exact P.elim
 |str b=>exact P.elim
 |tup xs=>exact P.elim
 |frz xs=>exact P.elim
 |obj xs=>exact P.elim
end L2
namespace L2
open PySem PySem.Spec PyProof.Rows RS
open PySem.SeqAt
open PySem.AutoSeq1 (wpAny_loadPart')
open PySem.MeetsSeq PySem.MeetsSeq2 PySem.MeetsSeq3
def yA(op:CmpOp)(A:Around)(s:Shared)(y x:Value)(k:Bool):Prop:=∀(prog:Program)(w:World)(E:Value->Shared->Prop)(Q:Value->Shared->Prop),Q (.bool k) s->wpAny (model prog w) A (richCompare op y x) Q E s
def lC(t:Bool):List (Bool×Bool)->Bool
 |[]=>t
 |(e,k)::r=>if e=true then lC t r else k
def kX(op:CmpOp)(A:Around)(s:Shared):List Value->List Value->List (Bool×Bool)->Prop
 |[],_,[]=>True
 |_,[],[]=>True
 |y::ys,x::xs,(e,k)::r=>EqAt A s y x e/\(e=false->yA op A s y x k)/\(e=true->kX op A s ys xs r)
 |_,_,_=>False
theorem oA(l b:Addr)(items items2:Array Value)(n n2:Nat)(dd dd2:Option Addr)(sl sl2:Array (Option Value))(eks:List (Bool×Bool)) :
  Meets (Builtin.«tuple.__lt__» ⟨[.ref l,.ref b],[]⟩)
   (fun A R s => s.heap.get? l = some { cls := .type "tuple", dict := dd, data := .seq items n, slots := sl } /\ s.heap.get? b = some { cls := .type "tuple", dict := dd2, data := .seq items2 n2, slots := sl2 } /\
    kX .Lt A.in1 s items.toList items2.toList eks/\R (.ok (.ret (.bool (lC (decide (items.size<items2.size)) eks)))) s):=
 .of_wp fun prog w A R s h=>by
  obtain⟨hp,g,d,tk,os⟩:=s;obtain⟨hl,hb,hc,h⟩:=h;have f2:=AutoSeq1.sub_tuple_tuple
  wp_walk using wpAny_loadPart' hl,wpAny_loadPart' hb,Jf _ (fun rest b s'=>b.1=none/\s'=⟨hp,g,d,tk,os⟩/\∃(vs ws:List Value)(eks':List (Bool×Bool)),rest=vs.zip ws /\
   kX .Lt A.in1 ⟨hp,g,d,tk,os⟩ vs ws eks'/\R (.ok (.ret (.bool (lC (decide (items.size<items2.size)) eks')))) ⟨hp,g,d,tk,os⟩) _
  case turn=>
   rintro⟨y,x⟩ rest b s' ⟨hb',rfl,vs,ws,eks',hz,hci,hR⟩
   cases vs with
   |nil=>rw[List.zip_nil_left]at hz;cases hz
   |cons a vs=>
    cases ws with
    |nil=>rw[List.zip_nil_right]at hz;cases hz
    |cons c ws=>
     rw[J4]at hz;injection hz with hyx hrest
     injection hyx with hy hx
     subst hy hx;cases eks' with
     |nil=>simp only[kX]at hci
     |cons ek eks'=>
      obtain⟨e,k⟩:=ek;simp only[kX]at hci;obtain⟨he,hk,hci⟩:=hci;refine GR (he prog w _ _ ?_);cases e with
      |true=>
       have hR':R (.ok (.ret (.bool (lC (decide (items.size<items2.size)) eks')))) ⟨hp,g,d,tk,os⟩:=hR
       wp_walk
       exact⟨rfl,rfl,_,_,_,hrest,hci rfl,hR'⟩
      |false=>
       have hR':R (.ok (.ret (.bool k))) ⟨hp,g,d,tk,os⟩:=hR;have hri:=hk rfl prog w
       wp_walk using hri
       exact⟨_,rfl,by simpa using hR'⟩
  case fin=>
   rintro⟨b1,b2⟩ s' ⟨hb',rfl,vs,ws,eks',hz,hci,hR⟩
   simp only at hb';subst hb'
   have hv:eks'=[]:=by
    cases vs with
    |nil=>cases eks' with
     |nil=>rfl
     |cons _ _=>simp only[kX]at hci
    |cons a vs=>cases ws with
     |nil=>cases eks' with
      |nil=>rfl
      |cons _ _=>simp only[kX]at hci
     |cons c ws=>rw[J4]at hz;cases hz
   subst hv;have hR':R (.ok (.ret (.bool (decide (items.size<items2.size))))) ⟨hp,g,d,tk,os⟩:=hR
   wp_walk
   exact⟨_,rfl,by simpa[Builtin.Tuple.tupleCompareSizes] using hR'⟩
  case h=>
   exact⟨rfl,rfl,items.toList,items2.toList,eks,rfl,hc,h⟩
theorem CV{prog:Program}{w:World}{A:Around}{E:Value->Shared->Prop}{s:Shared}{l b:Addr}{items items2:Array Value}{eks:List (Bool×Bool)}{Q:Value->Shared->Prop}(hl:IsTup s.heap l items)(hb:IsTup s.heap b items2)(hc:kX .Lt A.in1 s items.toList items2.toList eks)
  (hu:A.units<cLine) (h:Q (.bool (lC (decide (items.size<items2.size)) eks)) s):wpAny (model prog w) A (richCompare .Lt (.ref l) (.ref b)) Q E s:=by
 obtain⟨⟨cls,dd,data,sl⟩,ho,hc',n,hd⟩:=id hl;obtain⟨⟨cls2,dd2,data2,sl2⟩,ho2,hc2,n2,hd2⟩:=id hb;simp only at hc' hd hc2 hd2;subst hc' hd hc2 hd2
 exact richCompare_meets_room (op:=.Lt) ⟨_,ho,rfl⟩ ⟨_,ho2,rfl⟩ PySem.F.slot_tuple_lt PySem.F.entry_tuple_lt (PySem.F.args_tuple_lt_2 _ _) (oA l b items items2 n n2 dd dd2 sl sl2 eks)
  ⟨ho,ho2,hc,show Value.bool (lC (decide (items.size<items2.size)) eks)≠Value.notImplemented/\Q (.bool (lC (decide (items.size<items2.size)) eks)) s from⟨(fun x=>nomatch x),h⟩⟩ hu
end L2
namespace L2
open PySem PySem.Spec PyProof.Rows RS
def dY:CmpOp->Int->Int->Bool
 |.Lt,i,j=>decide (i<j)
 |.LtE,i,j=>decide (i<=j)
 |.Gt,i,j=>decide (i>j)
 |.GtE,i,j=>decide (i ≥ j)
 |_,_,_=>false
def yy:CmpOp->Bool
 |.Lt=>true
 |_=>false
mutual
def fu(op:CmpOp):PyData->PyData->Option Bool
 |.int i,.int j=>some (dY op i j)
 |.tuple xs,.tuple ys=>if yy op=true then cmpPs op xs ys else none
 |_,_=>none
def cmpPs(op:CmpOp):List PyData->List PyData->Option Bool
 |[],ys=>some (dY op 0 ys.length)
 |_::xs,[]=>some (dY op (xs.length+1) 0)
 |x::xs,y::ys=>if PyData.eqv x y=true then cmpPs op xs ys else fu op x y
end
def pq:CmpOp->Bool
 |.Lt | .LtE | .Gt | .GtE=>true
 |_=>false
theorem Ek:∀{op:CmpOp}(ho:pq op=true){A:Around}{s:Shared}(a:Int)(t:Tok)(c:Int)(u:Tok),yA op A s (.int a t) (.int c u) (dY op a c)
 |.Lt,_,A,s,a,t,c,u=>fun prog w E Q h=>(PyProof.Rows.lt_int h:wpAny (model prog w) A (compareOp .Lt (.int a t) (.int c u)) Q E s)
 |.LtE,_,A,s,a,t,c,u=>fun prog w E Q h=>(PyProof.Rows.le_int h:wpAny (model prog w) A (compareOp .LtE (.int a t) (.int c u)) Q E s)
 |.Gt,_,A,s,a,t,c,u=>fun prog w E Q h=>(PyProof.Rows.gt_int h:wpAny (model prog w) A (compareOp .Gt (.int a t) (.int c u)) Q E s)
 |.GtE,_,A,s,a,t,c,u=>fun prog w E Q h=>(PyProof.Rows.ge_int h:wpAny (model prog w) A (compareOp .GtE (.int a t) (.int c u)) Q E s)
theorem sf{op:CmpOp}(i j:Nat):dY op ((i+1:Nat):Int) ((j+1:Nat):Int)=dY op (i:Int) (j:Int):=by
 cases op <;> first|rfl|(unfold dY;simp)
theorem Ej:∀{op:CmpOp}(ho:yy op=true){A:Around}{s:Shared}{l b:Addr}{items items2:Array Value}{eks:List (Bool×Bool)}(hl:IsTup s.heap l items)(hb:IsTup s.heap b items2)(hc:kX op A.in1 s items.toList items2.toList eks)
  (hu:A.units<cLine),yA op A s (.ref l) (.ref b) (lC (dY op items.size items2.size) eks)
 |.Lt,_,A,s,l,b,items,items2,eks,hl,hb,hc,hu=>fun prog w E Q h=>CV hl hb hc hu (by
   have e:decide (items.size<items2.size)=dY .Lt items.size items2.size:=by (unfold dY;simp)
   rw[e];exact h)
mutual
theorem pS{op:CmpOp}(ho:pq op=true):∀(da db:PyData)(A:Around)(s:Shared)(a b:Value)(as bs:List Addr)(k:Bool),Reads s.heap a da as->Reads s.heap b db bs->da.canLay0=true->db.canLay0=true ->
  A.units+min da.depth db.depth<cLine->fu op da db=some k->yA op A s a b k
 |.int i,.int j,A,s,_,_,_,_,k,ra,rb,_,_,hu,hk=>by
  cases ra;cases rb;simp only[fu]at hk;cases hk;exact Ek ho _ _ _ _
 |.tuple xs,.tuple ys,A,s,_,_,_,_,k,ra,rb,ha,hb,hu,hk=>by
  simp only[fu]at hk
  have hlt:yy op=true:=by
   cases z:yy op with
   |true=>rfl
   |false=>rw[z,Gr G6]at hk;cases hk
  rw[Gq hlt]at hk;cases ra with
  | @tuple l o vs n _ as₁ h1 h2 h3 h4=>
   cases rb with
   | @tuple l' o' vs' n' _ bs₁ k1 k2 k3 k4=>
    have n1:vs.size=xs.length:=by simpa using SeqAt.ReadsAll.length _ _ _ h4
    have n2:vs'.size=ys.length:=by simpa using SeqAt.ReadsAll.length _ _ _ k4
    obtain⟨eks,e1,e2⟩:=rc_readsAll ho xs ys A.in1 s vs.toList vs'.toList _ _ k h4 k4 (by simpa[PyData.canLay0] using ha) (by simpa[PyData.canLay0] using hb) (SeqAt.room_in hu) hk;have:=Ej hlt (A:=A) (s:=s) (l:=l) (b:=l') (items:=vs) (items2:=vs') (eks:=eks) ⟨_,h1,h2,_,h3⟩ ⟨_,k1,k2,_,k3⟩ e1 (SeqAt.room_here hu);rw[n1,n2,e2]at this;exact this
 |.none,_,_,_,_,_,_,_,_,_,_,_,_,_,hk=>by simp only[fu]at hk;cases hk
 |.bool _,_,_,_,_,_,_,_,_,_,_,_,_,_,hk=>by simp only[fu]at hk;cases hk
 |.str _,_,_,_,_,_,_,_,_,_,_,_,_,_,hk=>by simp only[fu]at hk;cases hk
 |.list _,_,_,_,_,_,_,_,_,_,_,_,_,_,hk=>by simp only[fu]at hk;cases hk
 |.dict _,_,_,_,_,_,_,_,_,_,_,_,_,_,hk=>by simp only[fu]at hk;cases hk
 |.int _,.none,_,_,_,_,_,_,_,_,_,_,_,_,hk=>by simp only[fu]at hk;cases hk
 |.int _,.bool _,_,_,_,_,_,_,_,_,_,_,_,_,hk=>by simp only[fu]at hk;cases hk
 |.int _,.str _,_,_,_,_,_,_,_,_,_,_,_,_,hk=>by simp only[fu]at hk;cases hk
 |.int _,.list _,_,_,_,_,_,_,_,_,_,_,_,_,hk=>by simp only[fu]at hk;cases hk
 |.int _,.tuple _,_,_,_,_,_,_,_,_,_,_,_,_,hk=>by simp only[fu]at hk;cases hk
 |.int _,.dict _,_,_,_,_,_,_,_,_,_,_,_,_,hk=>by simp only[fu]at hk;cases hk
 |.tuple _,.none,_,_,_,_,_,_,_,_,_,_,_,_,hk=>by simp only[fu]at hk;cases hk
 |.tuple _,.bool _,_,_,_,_,_,_,_,_,_,_,_,_,hk=>by simp only[fu]at hk;cases hk
 |.tuple _,.int _,_,_,_,_,_,_,_,_,_,_,_,_,hk=>by simp only[fu]at hk;cases hk
 |.tuple _,.str _,_,_,_,_,_,_,_,_,_,_,_,_,hk=>by simp only[fu]at hk;cases hk
 |.tuple _,.list _,_,_,_,_,_,_,_,_,_,_,_,_,hk=>by simp only[fu]at hk;cases hk
 |.tuple _,.dict _,_,_,_,_,_,_,_,_,_,_,_,_,hk=>by simp only[fu]at hk;cases hk
theorem rc_readsAll{op:CmpOp}(ho:pq op=true):∀(xs ys:List PyData)(A:Around)(s:Shared)(vs ws:List Value)(as bs:List Addr)(k:Bool),ReadsAll s.heap vs xs as->ReadsAll s.heap ws ys bs->PyData.canLayAll0 xs=true->PyData.canLayAll0 ys=true ->
  A.units+min (PyData.depthAll xs) (PyData.depthAll ys)<cLine->cmpPs op xs ys=some k->∃eks,kX op A s vs ws eks/\lC (dY op (xs.length:Nat) (ys.length:Nat)) eks=k
 |[],ys,A,s,_,_,_,_,k,ra,rb,_,_,_,hk=>by
  cases ra;simp only[cmpPs]at hk;cases hk;exact⟨[],by unfold kX;trivial,rfl⟩
 |x::xs,[],A,s,_,_,_,_,k,ra,rb,_,_,_,hk=>by
  cases rb;simp only[cmpPs]at hk;cases hk;cases ra;refine⟨[],by unfold kX;trivial,?_⟩;simp[lC]
 |x::xs,y::ys,A,s,_,_,_,_,k,ra,rb,ha,hb,hu,hk=>by
  have ha':x.canLay0=true/\PyData.canLayAll0 xs=true:=by simpa[PyData.canLayAll0] using ha
  have hb':y.canLay0=true/\PyData.canLayAll0 ys=true:=by simpa[PyData.canLayAll0] using hb
  cases ra with
  |cons r rs=>
   cases rb with
   |cons r' rs'=>
    have he:=SeqAt.eqAt_reads x y A s _ _ _ _ r r' ha'.1 hb'.1 (SeqAt.room_head hu);simp only[cmpPs]at hk;cases e:PyData.eqv x y with
    |true=>
     rw[Gq e]at hk;rw[e]at he;obtain⟨eks,e1,e2⟩:=rc_readsAll ho xs ys A s _ _ _ _ k rs rs' ha'.2 hb'.2 (SeqAt.room_tail hu) hk;refine⟨(true,false)::eks,⟨he,fun z=>(by cases z),fun _=>e1⟩,?_⟩;show lC (dY op ((xs.length+1:Nat):Int) ((ys.length+1:Nat):Int)) eks=k;rw[sf];exact e2
    |false=>
     rw[Gr (by rw[e];exact G6)]at hk;rw[e]at he;refine⟨[(false,k)],⟨he,fun _=>pS ho x y A s _ _ _ _ k r r' ha'.1 hb'.1 (SeqAt.room_head hu) hk,fun z=>(by cases z)⟩,rfl⟩
end
def vW(K:W.Frag)(op:CmpOp):R2:=fun x y H Q=>∃a b k,j7 K H a x/\j7 K H b y/\fe a=true/\fe b=true/\fu op a b=some k/\Q (.bl k) H
theorem zK{X:Cx}(hu:X.A.units+64<cLine):∀{op:CmpOp},pq op=true->gf X (compareOp op) (vW X.K op):=by
 intro op ho pins s σ H x y v u Q I rx ry h;obtain⟨a,b,k,h1,h2,h3,h4,h5,q⟩:=h;obtain⟨as,r1⟩:=cU I a x v h1 rx;obtain⟨bs,r2⟩:=cU I b y u h2 ry;have:=pS ho a b X.A s v u as bs k r1 r2 (bE h3) (bE h4) (ko h3 hu) h5 X.prog X.w X.xe (EP X pins σ Q) ⟨.bl k,H,I,rfl,q⟩
 cases op <;> first
  |exact absurd ho (by decide)
  |exact this
def gm(op:CmpOp)(a b:D)(μ:aw):af D:=match oV μ a,oV μ b with
 |some p,some q=>if fe p=true/\fe q=true then (match fu op p q with|some k=>.ok (.bl k) μ|none=>.bad) else .bad
 |_,_=>.bad
theorem CQ{p:Pa}{op:CmpOp}:mM p (gm op) (vW p.K op):=by
 intro a b v y H α μ Q S ra rb P;unfold gm at P;split at P
 ·rename_i x z hx hz;split at P
  ·rename_i hf;split at P
   ·rename_i k hk;exact⟨x,z,k,j9 S hx ra,j9 S hz rb,hf.1,hf.2,hk,P.now S _ (aQ.mpr rfl)⟩
   ·exact P.elim
  ·exact P.elim
 ·exact P.elim
def dI(g:Int->Int->D)(a b:D)(μ:aw):af D:=match a,b with
 |.int i,.int j=>.ok (g i j) μ
 |_,_=>.bad
open Classical in
def A1(C:Int->Int->Prop)(g:Int->Int->D)(a b:D)(μ:aw):af D:=match a,b with
 |.int i,.int j=>if C i j then .ok (g i j) μ else .bad
 |_,_=>.bad
section
variable{p:Pa}
theorem FE{g:Int->Int->V}{gd:Int->Int->D}(h:∀i j H α,p.R H α (gd i j) (g i j)):mM p (dI gd) (Dx g):=by
 intro a b v y H α μ Q S ra rb P;unfold dI at P;split at P
 ·rename_i i j;exact⟨i,j,aj.mp ra,aj.mp rb,P.now S _ (h i j H α)⟩
 ·exact P.elim
theorem vY{C:Int->Int->Prop}{g:Int->Int->V}{gd:Int->Int->D}(h:∀i j H α,p.R H α (gd i j) (g i j)):mM p (A1 C gd) (rI C g):=by
 intro a b v y H α μ Q S ra rb P;unfold A1 at P;split at P
 ·rename_i i j;split at P
  ·rename_i hc;exact⟨i,j,aj.mp ra,aj.mp rb,hc,P.now S _ (h i j H α)⟩
  ·exact P.elim
 ·exact P.elim
def AH(K:W.Frag):R2:=fun x y H Q=>∃a b xs ys,x=.ref a/\y=.ref b/\eD K H a xs/\eD K H b ys/\xs.length+ys.length<=sizeLine /\
 (xs=[]->Q (.ref b) H)/\(xs≠[]->ys=[]->Q (.ref a) H)/\(xs≠[]->ys≠[]->∀p,H p=none->Q (.ref p) (cj H p (.tup (xs++ys))))
theorem yd{prog:Program}{w:World}{A:Around}{E:Value->Shared->Prop}{s:Shared}{t b:Addr}{ws:List Value}{Q:Value->Shared->Prop}(ht:IsTup s.heap t #[])(hb:IsTup s.heap b ws.toArray)(h0:Q (.ref b) s):wpAny (model prog w) A (binaryOp .Add (.ref t) (.ref b)) Q E s:=by
 obtain⟨⟨cls,dd,data,sl⟩,ho,hc,n,hd⟩:=id ht;obtain⟨⟨cls2,dd2,data2,sl2⟩,ho2,hc2,n2,hd2⟩:=id hb;simp only at hc hd hc2 hd2;subst hc hd hc2 hd2
 exact concat_meets ⟨_,ho,rfl⟩ ⟨_,ho2,rfl⟩ Hn seq_tuple_add Ho Hq (Hr _ _)
  (tuple_addW0 t b #[] ws.toArray n n2 dd dd2 sl sl2 (by simp)) ⟨ho,ho2,h0⟩
theorem zM{X:Cx}:gf X (binaryOp .Add) (AH X.K):=by
 intro pins s σ H x y v u Q I rx ry h;obtain⟨a,b,xs,ys,rfl,rfl,ha,hb,hz,q0,q1,q2⟩:=h;by_cases hx:xs=[]
 ·cases rx;cases ry;obtain⟨its,r1,p1,_⟩:=I.tuple ha;obtain⟨its2,r2,p2,_⟩:=I.tuple hb;subst hx;cases r1;exact yd p1 p2 ⟨.ref b,H,I,rfl,q0 rfl⟩
 ·exact zL pins s σ H (.ref a) (.ref b) v u Q I rx ry ⟨a,b,xs,ys,rfl,rfl,ha,hb,hx,hz,q1 hx,q2 hx⟩
def vX(K:W.Frag):R2:=fun x y H Q=>Dx (fun i j=>.int (i+j)) x y H Q\/AH K x y H Q\/DQ x y H Q\/(∃i j,x=.str i/\y=.str j/\i.length+j.length<=sizeLine/\Q (.str (i++j)) H)
theorem zN{X:Cx}:gf X (binaryOp .Add) (vX X.K):=CD.or (zM.or (CC.or rV))
def cm(a b:D)(μ:aw):af D:=match a,b with
 |.int i,.int j=>.ok (.int (i+j)) μ
 |.str x,.str y=>if x.length+y.length<=sizeLine then .ok (.str (x++y)) μ else .bad
 |.tup xs,.tup ys=>if xs.length+ys.length<=sizeLine then .ok (.tup (xs++ys)) μ else .bad
 |.obj m,.obj n=>match μ[m]?,μ[n]? with
  |some (.lst xs),some (.lst ys)=>if xs.length+ys.length<=sizeLine then .ok (.obj μ.length) (μ++[.lst (xs++ys)]) else .bad
  |_,_=>.bad
 |_,_=>.bad
theorem b6{H:Hp}{α:List Addr}{μ:aw}{n:Nat}{v:V}{xs:List D}(S:p.S H α μ)(r:p.R H α (.obj n) v)(hx:μ[n]?=some (.lst xs)):∃a us,v=.ref a/\α[n]?=some a/\H a=some (.lst us)/\p.Rs H α xs us:=by
 obtain⟨a,ea,us,hH,rr⟩:=S.at hx;obtain⟨a',rfl,ea'⟩:=aR.mp r;rw[ea]at ea';cases ea';exact⟨a,us,rfl,ea,hH,rr⟩
theorem Reps.nil_iff'{K:W.Frag}{H:Hp}{α:List Addr}{xs:List D}{vs:List V}(r:Reps K H α xs vs):vs=[]↔xs=[]:=by
 have:=r.length;constructor
 ·intro h;subst h;simp at this;exact J5 this.symm
 ·intro h;subst h;simp at this;exact this
theorem CS:mM p cm (vX p.K):=by
 intro a b v y H α μ Q S ra rb P;unfold cm at P;split at P
 ·rename_i i j;exact .inl ⟨i,j,aj.mp ra,aj.mp rb,P.now S _ (aj.mpr rfl)⟩
 ·rename_i i j;split at P
  ·rename_i hl;exact .inr (.inr (.inr ⟨i,j,aD.mp ra,aD.mp rb,hl,P.now S _ (aD.mpr rfl)⟩))
  ·exact P.elim
 ·rename_i xs ys;split at P
  ·rename_i hl;obtain⟨a,us,rfl,h1,r1⟩:=aF.mp ra;obtain⟨b,ws,rfl,h2,r2⟩:=aF.mp rb;refine .inr (.inl ⟨a,b,us,ws,rfl,rfl,h1,h2,by rw[r1.length,r2.length];exact hl,fun e=>?_,fun _ e=>?_,fun _ _ q hq=>?_⟩)
   ·have ex:=r1.nil_iff'.mp e;subst ex;exact P.now S _ (by simpa using rb)
   ·have ey:=r2.nil_iff'.mp e;subst ey;exact P.now S _ (by simpa using ra)
   ·exact P _ _ (bO hq) (S.tuple hq) _ (aF.mpr ⟨q,_,rfl,eD.of cE,(r1.append r2).mono (bO hq)⟩)
  ·exact P.elim
 ·rename_i m n;split at P
  ·rename_i xs ys hx hy;split at P
   ·rename_i hl;obtain⟨a,us,rfl,a1,h1,r1⟩:=b6 S ra hx;obtain⟨b,ws,rfl,b1,h2,r2⟩:=b6 S rb hy;refine .inr (.inr (.inl ⟨a,b,us,ws,rfl,rfl,h1,h2,by rw[r1.length,r2.length];exact hl,fun q hq=>?_⟩));obtain⟨x1,x2,x3⟩:=b9 S hq (r1.append r2);exact P _ _ x1 x2 _ x3
   ·exact P.elim
  ·exact P.elim
 ·exact P.elim
def AB:R2:=fun x y H Q=>rI pd (fun i j=>.int (i*j)) x y H Q\/DM x y H Q
theorem zI{X:Cx}:gf X (binaryOp .Mult) AB:=Cw.or Ct
open Classical in
def qW(a b:D)(μ:aw):af D:=match a,b with
 |.int i,.int j=>if pd i j then .ok (.int (i*j)) μ else .bad
 |.obj m,.int k=>match μ[m]? with
  |some (.lst xs)=>if -(2^63)<=k/\k<2^63/\xs.length*k.toNat<=sizeLine then .ok (.obj μ.length) (μ++[.lst (List.replicate k.toNat xs).flatten]) else .bad
  |_=>.bad
 |_,_=>.bad
theorem Reps.rep{K:W.Frag}{H:Hp}{α:List Addr}{xs:List D}{vs:List V}(h:Reps K H α xs vs):∀k:Nat,Reps K H α (List.replicate k xs).flatten (List.replicate k vs).flatten
 |0=>by simpa using Reps.nil
 |k+1=>by
  rw[HI,HI,HJ,HJ];exact h.append (Reps.rep h k)
theorem CM:mM p qW AB:=by
 intro a b v y H α μ Q S ra rb P;unfold qW at P;split at P
 ·rename_i i j;split at P
  ·rename_i hc;exact .inl ⟨i,j,aj.mp ra,aj.mp rb,hc,P.now S _ (aj.mpr rfl)⟩
  ·exact P.elim
 ·rename_i m k;split at P
  ·rename_i xs hx;split at P
   ·rename_i hl;obtain⟨a,us,rfl,a1,h1,r1⟩:=b6 S ra hx;refine .inr ⟨a,k,us,rfl,aj.mp rb,h1,hl.1,hl.2.1,by rw[r1.length];exact hl.2.2,fun q hq=>?_⟩;obtain⟨x1,x2,x3⟩:=b9 S hq (r1.rep k.toNat);exact P _ _ x1 x2 _ x3
   ·exact P.elim
  ·exact P.elim
 ·exact P.elim
def dX(a b:D)(μ:aw):af D:=match a,b with
 |.tup xs,.int i=>match atI xs i with
  |some d=>.ok d μ
  |none=>.bad
 |.frz xs,.int i=>match atI xs i with
  |some d=>.ok d μ
  |none=>.bad
 |.obj n,.int i=>match μ[n]? with
  |some (.lst xs)=>match atI xs i with
   |some d=>.ok d μ
   |none=>.bad
  |_=>.bad
 |_,_=>.bad
theorem Reps.atI{K:W.Frag}{H:Hp}{α:List Addr}{xs:List D}{vs:List V}{i:Int}{d:D}(r:Reps K H α xs vs)(h:L2.atI xs i=some d):∃v,L2.atI vs i=some v/\aI K H α d v:=by
 unfold L2.atI at h⊢;rw[r.length];cases e:qQ xs.length i with
 |none=>rw[e]at h;cases h
 |some j=>rw[e]at h;exact r.get h
theorem Ew:mM p dX (F1 p.K):=by
 intro a b v y H α μ Q S ra rb P;unfold dX at P;split at P
 ·rename_i xs i;split at P
  ·rename_i d hd;obtain⟨a,us,rfl,h1,r1⟩:=aF.mp ra;obtain⟨v,hv,rv⟩:=r1.atI hd;exact .inr (.inl ⟨a,us,i,v,rfl,aj.mp rb,h1,hv,P.now S _ rv⟩)
  ·exact P.elim
 ·rename_i xs i;split at P
  ·rename_i d hd;obtain⟨a,us,rfl,h1,r1⟩:=a9.mp ra;obtain⟨v,hv,rv⟩:=r1.atI hd;exact .inl ⟨a,us,i,v,rfl,aj.mp rb,h1.sq,hv,P.now S _ rv⟩
  ·exact P.elim
 ·rename_i n i;split at P
  ·rename_i xs hx;split at P
   ·rename_i d hd;obtain⟨a,us,rfl,a1,h1,r1⟩:=b6 S ra hx;obtain⟨v,hv,rv⟩:=r1.atI hd;exact .inl ⟨a,us,i,v,rfl,aj.mp rb,dW.of h1,hv,P.now S _ rv⟩
   ·exact P.elim
  ·exact P.elim
 ·exact P.elim
theorem Ei{X:Cx}{a b:Expr}{fa fb:ME}{pos:Pos}(hK:X.K=p.K)(ha:PE X a (tD p fa))(hb:PE X b (tD p fb))(hs:ly b):PE X (.Subscript a b pos) (tD p (aE dX fa fb)):=
 (AI C3 ha hb hs).weak fun σ H Q ⟨α, ρ, μ, S, R, P⟩ => ⟨α, ρ, μ, S, R, (aB.bind P).imp fun x μ1 H1 α1 X1 S1 P1 v rv => ⟨α1, ρ, μ1, S1, R.mono X1, (aB.bind P1).imp fun y μ2 H2 α2 X2 S2 P2 u ru => by
  rw[hK];exact Ew x y v u H2 α2 μ2 Q S2 (rv.mono X2) ru P2⟩⟩
theorem i4{prog:Program}{w:World}{A:Around}{E:Value->Shared->Prop}{s:Shared}{t sl:Addr}{items:Array Value}{vl vu:Value}{lo hi:Option Int}{Q:Value->Shared->Prop}(ht:IsTup s.heap t items)(hs:s.heap.IsSliceOf sl vl vu .none)(pl:IsPart vl lo)(pu:IsPart vu hi)
  (hw:HT.sIx items.size 0 lo=0/\HT.sIx items.size items.size hi=items.size) (h:Q (.ref t) s):wpAny (model prog w) A (getItem (.ref t) (.ref sl)) Q E s:=by
 obtain⟨os,hos,hcs,hds⟩:=id hs;have hTs:s.TypeIs (.ref sl) "slice" := ⟨os,hos,hcs⟩;unfold getItem
 try with_reducible refine GS ?_
 first|refine GR (GV ?_)|skip
 refine GR (wpAny_sequenceKey ht.typeIs (by decide) ?_)
 refine GR (Hx (name:=Str.ofString "__getitem__") ht.typeIs Hy
  (HA Hy ht.typeIs entry_tuple_getitem ?_ (args_tuple_getitem _ _)))
 show wpAny _ _ (Builtin.Tuple.tupleItemsOf (.ref t) >>= _) _ _ s;refine GR (tupleItemsOf_ ht ?_);refine GR (HB hTs ?_);rw[Gq (by decide)];refine GR (HT.sliceApplied_gen hs pl pu ?_)
 have hno:(((HT.sIx items.size 0 lo:Nat):Int) == 0&&(1:Int) == 1&&(HT.sIx items.size items.size hi-HT.sIx items.size 0 lo) == items.size)=true:=by
  rw[hw.1,hw.2];simp
 show wpAny _ _ (if (((HT.sIx items.size 0 lo:Nat):Int) == 0&&(1:Int) == 1&&(HT.sIx items.size items.size hi-HT.sIx items.size 0 lo) == items.size)=true then _ else _) _ _ s;rw[Gq hno];refine GR (m:=Builtin.Tuple.tupleIsExact (.ref t)) (GR (HB ht.typeIs (GV ?_)));rw[Gq (by decide)];exact GR (Ie (GV ⟨_,rfl,GV h⟩))
def lE{β:Type}(xs:List β)(lo hi:Option Int):List β:=(xs.drop (HT.sIx xs.length 0 lo)).take (HT.sIx xs.length xs.length hi-HT.sIx xs.length 0 lo)
theorem se{β:Type}(xs:List β)(lo hi:Option Int)(h:HT.sIx xs.length 0 lo=0/\HT.sIx xs.length xs.length hi=xs.length):lE xs lo hi=xs:=by
 unfold lE;rw[h.1,h.2];simp
def Az(K:W.Frag):V->Option Int->Option Int->Hp->VK->Prop:=fun x lo hi H Q=>∃a xs,x=.ref a/\eD K H a xs /\
 (HT.sIx xs.length 0 lo=0/\HT.sIx xs.length xs.length hi=xs.length)/\Q (.ref a) H
theorem y9{X:Cx}:yr X (Az X.K):=by
 intro pins s σ H x v vl vu lo hi sl Q I rx hs pl pu h;obtain⟨a,xs,rfl,hx,hw,q⟩:=h;cases rx;obtain⟨its,r,ht,hz⟩:=I.tuple hx;have hlen:its.toArray.size=xs.length:=by rw[G7];exact r.length.symm
 refine⟨"tuple",_,Hy.lookup,ht.typeIs,?_⟩;exact i4 ht hs pl pu (by rw[hlen];exact hw) ⟨.ref a,H,I,rfl,q⟩
def DL(K:W.Frag):V->Option Int->Option Int->Hp->VK->Prop:=fun x lo hi H Q=>DJ K x lo hi H Q\/Az K x lo hi H Q\/DK K x lo hi H Q
theorem FD{X:Cx}:yr X (DL X.K):=BO.or (y9.or zb)
abbrev MO:=Ro->aw->af (Option Int)
def Dq:MO:=fun _ μ=>.ok none μ
def EZ(d:D)(μ:aw):af (Option Int):=match d with
 |.int i=>.ok (some i) μ
 |_=>.bad
def kE(f:ME):MO:=fun ρ μ=>(f ρ μ).bind EZ
def An(p:Pa)(f:MO):TO:=fun σ H Q=>∃α ρ μ,p.S H α μ/\dh p.K H α ρ σ/\aB p H α (f ρ μ) (fun o _ H' _=>Q o H')
theorem PO.weak{X:Cx}{e:Option Expr}{t t':TO}(h:PO X e t)(k:∀σ H Q,t' σ H Q->t σ H Q):PO X e t':=fun pins s σ H Q I q=>h pins s σ H Q I (k σ H Q q)
theorem y6{X:Cx}:PO X none (An p Dq):=zx.weak fun σ H Q ⟨α,ρ,μ,S,R,P⟩=>P.now S
theorem y4{X:Cx}{e:Expr}{f:ME}(h:PE X e (tD p f)):PO X (some e) (An p (kE f)):=(zw h).weak fun σ H Q ⟨α,ρ,μ,S,R,P⟩=>⟨α,ρ,μ,S,R,(aB.bind P).imp fun d μ1 H1 α1 X1 S1 P1 v rv=>by
 unfold EZ at P1;split at P1
 ·rename_i i;exact⟨i,aj.mp rv,P1.now S1⟩
 ·exact P1.elim⟩
def vx(a:D)(lo hi:Option Int)(μ:aw):af D:=match a with
 |.tup xs=>.ok (.tup (lE xs lo hi)) μ
 |.frz xs=>.ok (.obj μ.length) (μ++[.lst (lE xs lo hi)])
 |.obj n=>match μ[n]? with
  |some (.lst xs)=>.ok (.obj μ.length) (μ++[.lst (lE xs lo hi)])
  |_=>.bad
 |_=>.bad
def A2(fa:ME)(fl fh:MO):ME:=fun ρ μ=>(fa ρ μ).bind fun a μ1=>(fl ρ μ1).bind fun lo μ2=>(fh ρ μ2).bind fun hi μ3=>vx a lo hi μ3
theorem Reps.cut'{K:W.Frag}{H:Hp}{α:List Addr}{xs:List D}{vs:List V}(r:Reps K H α xs vs)(lo hi:Option Int):Reps K H α (lE xs lo hi) (o8 vs lo hi):=by
 unfold lE o8;rw[r.length];exact(r.drop _).take _
theorem Eg{a:D}{v:V}{lo hi:Option Int}{H:Hp}{α:List Addr}{μ:aw}{Q:VK}(S:p.S H α μ)(ra:p.R H α a v)(P:aB p H α (vx a lo hi μ) (RV p Q)):DL p.K v lo hi H Q:=by
 unfold vx at P;split at P
 ·rename_i xs;obtain⟨a,us,rfl,h1,r1⟩:=aF.mp ra;by_cases hw:HT.sIx us.length 0 lo=0/\HT.sIx us.length us.length hi=us.length
  ·refine .inr (.inl ⟨a,us,rfl,h1,hw,?_⟩);rw[r1.length]at hw;rw[se xs lo hi hw]at P;exact P.now S _ ra
  ·exact .inl ⟨a,us,rfl,h1,hw,fun q hq=>P _ _ (bO hq) (S.tuple hq) _ (aF.mpr ⟨q,_,rfl,eD.of cE,(r1.cut' lo hi).mono (bO hq)⟩)⟩
 ·rename_i xs;obtain⟨a,us,rfl,h1,r1⟩:=a9.mp ra;refine .inr (.inr ⟨a,us,rfl,h1.sq,fun q hq=>?_⟩);obtain⟨x1,x2,x3⟩:=b9 S hq (r1.cut' lo hi);exact P _ _ x1 x2 _ x3
 ·rename_i n;split at P
  ·rename_i xs hx;obtain⟨a,us,rfl,a1,h1,r1⟩:=b6 S ra hx;refine .inr (.inr ⟨a,us,rfl,dW.of h1,fun q hq=>?_⟩);obtain⟨x1,x2,x3⟩:=b9 S hq (r1.cut' lo hi);exact P _ _ x1 x2 _ x3
  ·exact P.elim
 ·exact P.elim
theorem xp{X:Cx}{e:Expr}{lo hi:Option Expr}{fa:ME}{fl fh:MO}{pos p2:Pos}(hK:X.K=p.K)(he:PE X e (tD p fa))(hl:PO X lo (An p fl))(hu:PO X hi (An p fh)):PE X (.Subscript e (.Slice lo hi none p2) pos) (tD p (A2 fa fl fh)):=
 (xH FD he hl hu).weak fun σ H Q ⟨α, ρ, μ, S, R, P⟩ => ⟨α, ρ, μ, S, R, (aB.bind P).imp fun a μ1 H1 α1 X1 S1 P1 v rv => ⟨α1, ρ, μ1, S1, R.mono X1, (aB.bind P1).imp fun l μ2 H2 α2 X2 S2 P2 => ⟨α2, ρ, μ2, S2, (R.mono X1).mono X2, (aB.bind P2).imp fun h μ3 H3 α3 X3 S3 P3 => by
  rw[hK];exact Eg S3 ((rv.mono X2).mono X3) P3⟩⟩⟩
end
inductive vA(K:W.Frag)(H:Hp):V->String->Prop where
 |non:vA K H .non "NoneType"
 |bl (x:Bool):vA K H (.bl x) "bool"
 |int (i:Int):vA K H (.int i) "int"
 |str (x:Str):vA K H (.str x) "str"
 |lst {a:Addr}{xs:List V} (e:dW K H a xs):vA K H (.ref a) "list"
 |tup {a:Addr}{xs:List V} (e:eD K H a xs):vA K H (.ref a) "tuple"
 |dic {a:Addr}{kvs:List (nW×V)} (e:H a=some (.dK kvs)):vA K H (.ref a) "dict"
def DV (tn T:String):Bool:=tn == T || (tn == "bool" && T == "int")
def oa:List String:=["NoneType", "bool", "int", "str", "list", "tuple", "dict"]
theorem CW {K:W.Frag}:∀tn∈oa,∀T∈["int", "bool", "tuple", "list", "str", "dict"],W.kitOne K (.type tn) (.type T)=some (DV tn T):=by
 intro tn h1 T h2;simp only[oa,GE,Iq,Ir]at h1 h2;rcases h1 with rfl|rfl|rfl|rfl|rfl|rfl|rfl <;> rcases h2 with rfl|rfl|rfl|rfl|rfl|rfl <;> rfl
theorem vA.mem{K:W.Frag}{H:Hp}{x:V}{tn:String}(h:vA K H x tn):tn∈oa:=by
 cases h <;> decide
section
variable{X:Cx}
theorem C4{pins:List (Addr×Obj)}{σ:St}{H:Hp}{s:Shared}{A:Around}{E:Value->Shared->Prop}{Q:Value->Shared->Prop}{c:Value}{b:Bool}{x:V}{u:Value}{tn:String}(I:aN X pins σ H s)(rx:bJ x u)(ty:vA X.K H x tn)(e:W.kitOne X.K (.type tn) c=some b)(h:∀tk,Q (.bool b) {s with toks:=tk}) :
  wpAny (model X.prog X.w) A (call (.builtin "isinstance") [u,c]) Q E s:=by
 cases ty with
 |non=>cases (show u=Value.none from rx);exact W.kia_one W.kitx_none I.kIn True.intro e (fun z=>nomatch z) h
 |bl y=>cases (show u=Value.bool y from rx);exact W.kia_one W.kitx_bool I.kIn True.intro e (fun z=>nomatch z) h
 |int i=>obtain⟨t,q⟩:=(show ∃t,u=Value.int i t from rx);cases q;exact W.kia_one W.kitx_int I.kIn True.intro e (fun z=>nomatch z) h
 |str y=>obtain⟨t,q⟩:=(show ∃t,u=Value.str y t from rx);cases q;exact W.kia_one W.kitx_str I.kIn True.intro e (fun z=>nomatch z) h
 | @lst a xs ea=>
  cases (show u=Value.ref a from rx);obtain⟨its,_,⟨o,n,h1,h2,_⟩,_⟩:=I.list ea;exact W.kia_one W.kitx_list I.kIn ⟨o,h1,h2⟩ e (fun z=>nomatch z) h
 | @tup a xs ea=>
  cases (show u=Value.ref a from rx);obtain⟨its,_,⟨o,h1,h2,_⟩,_⟩:=I.tuple ea;exact W.kia_one W.kitx_tuple I.kIn ⟨o,h1,h2⟩ e (fun z=>nomatch z) h
 | @dic a kvs ea=>
  cases (show u=Value.ref a from rx);obtain⟨_,_,vs,_,p⟩:=(show d0 X.prog X.w H s.heap a (.dK kvs) from I.hok a _ ea);obtain⟨o,es,ep,h1,h2,_⟩:=p;exact W.kia_one W.kitx_dict I.kIn ⟨o,h1,h2.1⟩ e (fun z=>nomatch z) h
def DP(K:W.Frag):List V->Hp->VK->Prop:=fun xs H Q=>∃x T tn b,xs=[x,.ty T]/\vA K H x tn/\W.kitOne K (.type tn) (.type T)=some b/\Q (.bl b) H
theorem yf:bM X (.builtin "isinstance") (DP X.K):=by
 intro pins s σ H xs us Q I r h;obtain⟨x,T,tn,b,rfl,ty,e,q⟩:=h;obtain⟨u,u2,rfl,ru,ru2⟩:=vR r;cases ru2;exact C4 I ru ty e fun tk=>⟨.bl b,H,I.tok _,rfl,q⟩
end
def A0(μ:aw):D->Option String
 |.non=>some "NoneType"
 |.bl _=>some "bool"
 |.int _=>some "int"
 |.str _=>some "str"
 |.tup _=>some "tuple"
 |.frz _=>some "list"
 |.obj n=>match μ[n]? with
  |some (.lst _)=>some "list"
  |some .dic=>some "dict"
  |_=>none
theorem Bq{p:Pa}{H:Hp}{α:List Addr}{μ:aw}{d:D}{v:V}{tn:String}(S:p.S H α μ)(r:p.R H α d v)(h:A0 μ d=some tn):vA p.K H v tn:=by
 cases d with
 |non=>cases h;rw[bA.mp r];exact .non
 |bl b=>cases h;rw[aQ.mp r];exact .bl b
 |int b=>cases h;rw[aj.mp r];exact .int b
 |str b=>cases h;rw[aD.mp r];exact .str b
 |tup xs=>cases h;obtain⟨a,vs,rfl,h1,_⟩:=aF.mp r;exact .tup h1
 |frz xs=>cases h;obtain⟨a,vs,rfl,h1,_⟩:=a9.mp r;exact .lst h1.sq
 |obj n=>
  unfold A0 at h;dsimp only at h;split at h
  ·rename_i xs hx;cases h;obtain⟨a,us,rfl,a1,h1,_⟩:=b6 S r hx;exact .lst (dW.of h1)
  ·rename_i hx;cases h;obtain⟨a,ea,q⟩:=S.at hx;obtain⟨a',rfl,ea'⟩:=aR.mp r;rw[ea]at ea';cases ea';exact .dic q
  ·cases h
def ff(T:String)(d:D)(μ:aw):af D:=match A0 μ d with
 |some tn=>.ok (.bl (DV tn T)) μ
 |none=>.bad
theorem BX {p:Pa}{X:Cx}{a:Expr}{fa:ME}{T:String}{xT:Str}{px pt pos:Pos} (hK:X.K=p.K) (hT:T∈["int", "bool", "tuple", "list", "str", "dict"]) (hg:Gl X "isinstance") (hm:X.mg "isinstance" = none) (hgT:Gl X xT) (hmT:X.mg xT=none) (hbT:bootBuiltins xT=some (.type T)) (ha:PE X a (tD p fa))
  (hnT:xT ≠ "__name__") (hdT:(xT == ("__debug__" : Str))=false) (hs1:starEach [a,.Name xT pt] X.env=(false,eval a X.env)::starEach [.Name xT pt] X.env) :
  PE X (.Call (.Name "isinstance" px) [a,.Name xT pt] [] pos) (tD p (qS (ff T) fa)):=by
 have hb:PE X (.Name xT pt) (tC (.ty T)):=zE hgT hmT hbT rfl hnT hdT;refine(pV yf hg hm boot_isinstance (om ha (om hb wC rfl) hs1) (by decide) (by decide) hs1 rfl).weak fun σ H Q ⟨α,ρ,μ,S,R,P⟩=>⟨α,ρ,μ,S,R,(aB.bind P).imp fun d μ1 H1 α1 X1 S1 P1 v rv=>?_⟩;show DP X.K [v,.ty T] H1 Q;unfold ff at P1;split at P1
 ·rename_i tn htn;have ty:=Bq S1 rv htn;rw[hK];exact⟨v,T,tn,_,rfl,ty,CW tn ty.mem T hT,P1.now S1 _ (aQ.mpr rfl)⟩
 ·exact P1.elim
def jl:List D->Option (List Bool)
 |[]=>some []
 |.bl b::r=>(jl r).map (b::·)
 |_::_=>none
theorem mx:∀{ds:List D}{bs:List Bool},jl ds=some bs->ds=bs.map D.bl
 |[],bs,h=>by cases h;rfl
 |.bl b::r,bs,h=>by
  unfold jl at h;cases e:jl r with
  |none=>rw[e]at h;cases h
  |some cs=>rw[e]at h;cases h;rw[mx e];rfl
 |.non::r,bs,h=>by cases h
 |.int _::r,bs,h=>by cases h
 |.str _::r,bs,h=>by cases h
 |.tup _::r,bs,h=>by cases h
 |.frz _::r,bs,h=>by cases h
 |.obj _::r,bs,h=>by cases h
theorem vn(bs:List Bool):jl (bs.map D.bl)=some bs:=by
 induction bs with
 |nil=>rfl
 |cons b r ih=>simp only[HF,jl,ih];rfl
theorem Reps.bools{K:W.Frag}{H:Hp}{α:List Addr}:∀{bs:List Bool}{vs:List V},Reps K H α (bs.map D.bl) vs->vs=bs.map V.bl
 |[],vs,h=>by simp only[HE,Reps]at h;exact h
 |n::ns,vs,h=>by
  simp only[HF,Reps]at h;obtain⟨v,r,rfl,h1,h2⟩:=h;rw[aQ.mp h1,Reps.bools h2];rfl
theorem rF{bs:List Bool}{us:List Value}(h:aX (bs.map V.bl) us):us=bs.map Value.bool:=by
 induction bs generalizing us with
 |nil=>cases h;rfl
 |cons b r ih=>
  cases h with
  |cons h1 h2=>cases h1;rw[ih h2];rfl
theorem vt{bs:List Bool}:(List.range bs.length).all (fun i=>bs.getD i false)=bs.all id:=by
 induction bs with
 |nil=>rfl
 |cons b r ih=>
  rw[HV,Iy,J6,J7,J6];congr 1
section
variable{X:Cx}
def DR(K:W.Frag):List V->Hp->VK->Prop:=fun xs H Q=>∃(a:Addr)(bs:List Bool),xs=[.ref a]/\dW K H a (bs.map V.bl)/\Q (.bl (bs.all id)) H
theorem aN.fresh_it{pins:List (Addr×Obj)}{σ:St}{H:Hp}{s:Shared}(I:aN X pins σ H s){o:Obj}{h':Heap}{tk:Nat}(hk:∀b ob,b ∉ [s.heap.objs.size]->(s.heap.push o).get? b=some ob->h'.get? b=some ob):aN X pins σ H {s with heap:=h',toks:=tk}:=
 I.kept fun b ob e=>hk b ob (fun hm=>by
  have:b=s.heap.objs.size:=by simpa using hm
  subst this
  exact absurd (Gs e) (Gv _)) (GY _ e)
theorem vm (hc:X.calm=true):bM X (.builtin "all") (DR X.K):=by
 intro pins s σ H xs us Q I r h;obtain⟨a,bs,rfl,ha,q⟩:=h;obtain⟨u,rfl,ru⟩:=dm r;cases ru;obtain⟨its,rv,pl,hz⟩:=I.list ha;have hi:its=bs.map Value.bool:=rF rv
 have hne:a≠s.heap.objs.size:=by
  obtain⟨o,n,e,_⟩:=pl;exact Gw (Gs e)
 refine call_all_walk (Jt pl.isList ?_);refine⟨s.heap.objs.size,[s.heap.objs.size,a],[s.heap.objs.size],_,_,_,fun i=>bs.getD i false,rfl,Walks.list (A:=X.A.in1) (show X.A.in1.handled=none from I.ok.hd hc) _ a hne its.toArray,⟨⟨_,GZ _ rfl,rfl,rfl⟩,pl.isList.at fun o e=>GY _ e⟩,?_,?_⟩
 ·intro i v s' Q' E' hP hQ;subst hi;have hv:(bs.map Value.bool)[i]?=some v:=by simpa using hP
  rw[Hj]at hv;cases e:bs[i]? with
  |none=>rw[e]at hv;cases hv
  |some b=>
   rw[e]at hv;cases hv;have:bs.getD i false=b:=by rw[JA,e];rfl
   dsimp only at hQ;rw[this]at hQ;exact GN hQ
 ·intro h' tk hk;have e2:its.toArray.size=bs.length:=by subst hi;simp
  rw[e2,vt];exact⟨.bl _,H,I.fresh_it hk,rfl,q⟩
end
def kW(ds:List D)(μ:aw):af D:=match ds with
 |[.obj n]=>match μ[n]? with
  |some (.lst xs)=>match jl xs with
   |some bs=>.ok (.bl (bs.all id)) μ
   |none=>.bad
  |_=>.bad
 |_=>.bad
theorem CK{p:Pa}:qO p kW (DR p.K):=by
 intro ds vs H α μ Q S r P;unfold kW at P;split at P
 ·rename_i n;split at P
  ·rename_i xs hx;split at P
   ·rename_i bs hb;obtain⟨v,rfl,r1⟩:=r.one;obtain⟨a,us,rfl,a1,h1,rr⟩:=b6 S r1 hx;rw[mx hb]at rr;exact⟨a,bs,rfl,by rw[<- rr.bools];exact dW.of h1,P.now S _ (aQ.mpr rfl)⟩
   ·exact P.elim
  ·exact P.elim
 ·exact P.elim
def m9(ds:List D)(μ:aw):af D:=match ds with
 |[.tup xs]=>.ok (.int xs.length) μ
 |[.frz xs]=>.ok (.int xs.length) μ
 |[.str x]=>if x.length<=sizeLine then .ok (.int x.length) μ else .bad
 |[.obj n]=>match μ[n]? with
  |some (.lst xs)=>.ok (.int xs.length) μ
  |_=>.bad
 |_=>.bad
theorem tE{p:Pa}:qO p m9 (fun xs H Q=>∃x n,xs=[x]/\Bj p.K x H n/\Q (.int n) H):=by
 intro ds vs H α μ Q S r P;unfold m9 at P;split at P
 ·rename_i xs;obtain⟨v,rfl,r1⟩:=r.one;obtain⟨a,us,rfl,h1,rr⟩:=aF.mp r1;exact⟨_,xs.length,rfl,.inr ⟨us,h1,rr.length.symm⟩,P.now S _ (aj.mpr rfl)⟩
 ·rename_i xs;obtain⟨v,rfl,r1⟩:=r.one;obtain⟨a,us,rfl,h1,rr⟩:=a9.mp r1;exact⟨_,xs.length,rfl,.inl ⟨us,h1.sq,rr.length.symm⟩,P.now S _ (aj.mpr rfl)⟩
 ·rename_i x;obtain⟨v,rfl,r1⟩:=r.one;split at P
  ·rename_i hl;exact⟨v,x.length,rfl,by rw[aD.mp r1];exact⟨hl,rfl⟩,P.now S _ (aj.mpr rfl)⟩
  ·exact P.elim
 ·rename_i n;split at P
  ·rename_i xs hx;obtain⟨v,rfl,r1⟩:=r.one;obtain⟨a,us,rfl,a1,h1,rr⟩:=b6 S r1 hx;exact⟨_,xs.length,rfl,.inl ⟨us,dW.of h1,rr.length.symm⟩,P.now S _ (aj.mpr rfl)⟩
  ·exact P.elim
 ·exact P.elim
def jk(ds:List D)(μ:aw):af D:=match ds with
 |[.tup xs]=>.ok (.tup xs) μ
 |[.frz xs]=>.ok (.tup xs) μ
 |[.obj n]=>match μ[n]? with
  |some (.lst xs)=>.ok (.tup xs) μ
  |_=>.bad
 |_=>.bad
theorem xN{p:Pa}:qO p jk (fun xs H Q=>∃q ys,xs=[.ref q]/\((dW p.K H q ys/\∀l,H l=none->Q (.ref l) (cj H l (.tup ys)))\/(eD p.K H q ys/\Q (.ref q) H))):=by
 intro ds vs H α μ Q S r P;unfold jk at P;split at P
 ·rename_i xs;obtain⟨v,rfl,r1⟩:=r.one;obtain⟨a,us,rfl,h1,rr⟩:=aF.mp r1;exact⟨a,us,rfl,.inr ⟨h1,P.now S _ r1⟩⟩
 ·rename_i xs;obtain⟨v,rfl,r1⟩:=r.one;obtain⟨a,us,rfl,h1,rr⟩:=a9.mp r1;exact⟨a,us,rfl,.inl ⟨h1.sq,fun q hq=>P _ _ (bO hq) (S.tuple hq) _ (aF.mpr ⟨q,us,rfl,eD.of cE,rr.mono (bO hq)⟩)⟩⟩
 ·rename_i n;split at P
  ·rename_i xs hx;obtain⟨v,rfl,r1⟩:=r.one;obtain⟨a,us,rfl,a1,h1,rr⟩:=b6 S r1 hx;exact⟨a,us,rfl,.inl ⟨dW.of h1,fun q hq=>P _ _ (bO hq) (S.tuple hq) _ (aF.mpr ⟨q,us,rfl,eD.of cE,rr.mono (bO hq)⟩)⟩⟩
  ·exact P.elim
 ·exact P.elim
def pD(ds:List D)(μ:aw):af D:=match ds with
 |[.tup xs]=>.ok (.obj μ.length) (μ++[.lst xs])
 |[.frz xs]=>.ok (.obj μ.length) (μ++[.lst xs])
 |[.obj n]=>match μ[n]? with
  |some (.lst xs)=>.ok (.obj μ.length) (μ++[.lst xs])
  |_=>.bad
 |_=>.bad
theorem zQ{p:Pa}:qO p pD (fun xs H Q=>∃q ys,xs=[.ref q]/\(dW p.K H q ys\/eD p.K H q ys)/\∀l,H l=none->Q (.ref l) (cj H l (.lst ys))):=by
 intro ds vs H α μ Q S r P;unfold pD at P;split at P
 ·rename_i xs;obtain⟨v,rfl,r1⟩:=r.one;obtain⟨a,us,rfl,h1,rr⟩:=aF.mp r1;refine⟨a,us,rfl,.inr h1,fun q hq=>?_⟩;obtain⟨x1,x2,x3⟩:=b9 S hq rr;exact P _ _ x1 x2 _ x3
 ·rename_i xs;obtain⟨v,rfl,r1⟩:=r.one;obtain⟨a,us,rfl,h1,rr⟩:=a9.mp r1;refine⟨a,us,rfl,.inl h1.sq,fun q hq=>?_⟩;obtain⟨x1,x2,x3⟩:=b9 S hq rr;exact P _ _ x1 x2 _ x3
 ·rename_i n;split at P
  ·rename_i xs hx;obtain⟨v,rfl,r1⟩:=r.one;obtain⟨a,us,rfl,a1,h1,rr⟩:=b6 S r1 hx;refine⟨a,us,rfl,.inl (dW.of h1),fun q hq=>?_⟩;obtain⟨x1,x2,x3⟩:=b9 S hq rr;exact P _ _ x1 x2 _ x3
  ·exact P.elim
 ·exact P.elim
def pF(ds:List D)(μ:aw):af D:=match ds with
 |[.int i]=>.ok (.int i) μ
 |[.bl k]=>.ok (.int (if k then 1 else 0)) μ
 |_=>.bad
theorem CJ{p:Pa}:qO p pF (fun xs H Q=>(∃i,xs=[.int i]/\Q (.int i) H)\/∃k,xs=[.bl k]/\Q (.int (if k then 1 else 0)) H):=by
 intro ds vs H α μ Q S r P;unfold pF at P;split at P
 ·rename_i i;obtain⟨v,rfl,r1⟩:=r.one;exact .inl ⟨i,by rw[aj.mp r1],P.now S _ (aj.mpr rfl)⟩
 ·rename_i i;obtain⟨v,rfl,r1⟩:=r.one;exact .inr ⟨i,by rw[aQ.mp r1],P.now S _ (aj.mpr rfl)⟩
 ·exact P.elim
def v8(ds:List D)(μ:aw):af D:=match ds with
 |[.int i,.int j]=>.ok (.int (if j>i then j else i)) μ
 |_=>.bad
def v7(ds:List D)(μ:aw):af D:=match ds with
 |[.int i,.int j]=>.ok (.int (if j<i then j else i)) μ
 |_=>.bad
theorem zP{p:Pa}:qO p v8 (fun xs H Q=>∃i j,xs=[.int i,.int j]/\Q (.int (if j>i then j else i)) H):=by
 intro ds vs H α μ Q S r P;unfold v8 at P;split at P
 ·rename_i i j;obtain⟨v,u,rfl,r1,r2⟩:=r.two;exact⟨i,j,by rw[aj.mp r1,aj.mp r2],P.now S _ (aj.mpr rfl)⟩
 ·exact P.elim
theorem zO{p:Pa}:qO p v7 (fun xs H Q=>∃i j,xs=[.int i,.int j]/\Q (.int (if j<i then j else i)) H):=by
 intro ds vs H α μ Q S r P;unfold v7 at P;split at P
 ·rename_i i j;obtain⟨v,u,rfl,r1,r2⟩:=r.two;exact⟨i,j,by rw[aj.mp r1,aj.mp r2],P.now S _ (aj.mpr rfl)⟩
 ·exact P.elim
end L2
namespace L2
open PySem PySem.Spec PyProof.Rows RS
section
variable{prog:Program}{w:World}{A:Around}{E:Value->Shared->Prop}{s:Shared}
theorem kJ {T:String} (hT:T = "list" \/ T = "tuple") {l:Addr}{vs:List Value}{Q:List Value->Shared->Prop}{o:Obj}{n:Nat} (ho:s.heap.get? l=some o) (hc:o.cls=.type T) (hd:o.data=.seq vs.toArray n)
  (h:Q vs {s with heap:=(s.heap.push (seqObj "list" #[] 0)).update s.heap.objs.size (Obj.mapSeq (·++vs.toArray))}) (hsz:vs.length<=sizeLine) :
  wpAny (model prog w) A (collect (.ref l)) Q E s:=by
 unfold collect;refine GR (Ju (Jn entry_proto_collect' ?_));show wpAny _ _ (do again (.builtin "list.__iadd__" ⟨[<- newList [],.ref l],[]⟩)) _ _ s;refine GR (JJ (GV ⟨Js _ (by decide +kernel),Jn entry_list_iadd' ?_⟩));show wpAny _ _ (Builtin.List.listExtendWith (.ref s.heap.objs.size) (.ref l) (.ref s.heap.objs.size)) _ _ {s with heap:=s.heap.push (seqObj "list" #[] 0)};unfold Builtin.List.listExtendWith;have ho':(s.heap.push (seqObj "list" #[] 0)).get? l=some o:=GY _ ho;refine GR (HB (T:=T) ⟨o,ho',hc⟩ ?_);have h1:(Value.type "list" == Value.type "list")=true:=by rfl
 have h2:(Value.type "tuple" == Value.type "tuple")=true:=by rfl
 rw[Gq (by rcases hT with rfl|rfl <;> simp[h1,h2])];refine GR (JF ho' hd ?_);refine GR (JF (xs:=#[]) (n:=0) (GZ _ rfl) rfl ?_);rw[Gr (by simp)];refine GR (JG (xs:=#[]) (n:=0) (GZ _ rfl) rfl ?_ (Ig _) (by show (#[]++vs.toArray).size<=sizeLine+1;simp only[Array.size_append,G7,ID];omega));refine GV ?_
 show wpAny (model prog w) A (do
   let o <- load s.heap.objs.size
   match o.data with
   |.seq xs _=>pure xs.toList
   |_=>unsupported "internal:collect") Q E {s with heap:=(s.heap.push (seqObj "list" #[] 0)).update s.heap.objs.size (Obj.mapSeq (·++vs.toArray))}
 refine GR (GX (JH (GZ _ rfl) _) ?_);show wpAny _ _ (pure ((#[]:Array Value)++vs.toArray).toList) Q E _;rw[show ((#[]:Array Value)++vs.toArray).toList=vs by simp];exact GV h
theorem oB {T:String} (hT:T = "list" \/ T = "tuple") {l:Addr}{vs:List Value}{ns:List Int}{Q:Value->Shared->Prop}{o:Obj}{n:Nat} (ho:s.heap.get? l=some o) (hc:o.cls=.type T) (hd:o.data=.seq vs.toArray n) (hI:IntsAre vs ns) (h64:vs.length<64)
  (h:∀(out:Array Value)(ns':List Int),IntsAre out.toList ns'->ns'.Perm ns->ns'.Pairwise (·<=·)->Q (.ref (s.heap.objs.size+1)) {s with heap:=sortedAll s.heap vs out}) :
  wpAny (model prog w) A (call (.builtin "sorted") [.ref l]) Q E s:=by
 have hsz0:vs.length<=sizeLine:=Gz (GA h64) (by decide);refine JT JU JV JW (JX _) ?_;unfold Builtin.«sorted»;refine GR (m:=checkCount "sorted" 1 1 _) (GV ?_);refine GR (kJ hT ho hc hd ?_ hsz0);refine GR (JJ ?_ hsz0)
 have hsz:((s.heap.push (seqObj "list" #[] 0)).update s.heap.objs.size (Obj.mapSeq (·++vs.toArray))).objs.size=s.heap.objs.size+1:=by
  rw[JL,JK]
 have hoL:(((s.heap.push (seqObj "list" #[] 0)).update s.heap.objs.size (Obj.mapSeq (·++vs.toArray))).push (seqObj "list" vs.toArray 0)).get? (s.heap.objs.size+1)=some (seqObj "list" vs.toArray 0):=by
  rw[<- hsz];exact GZ _ rfl
 show wpAny _ _ _ _ _ {s with heap:=((s.heap.push (seqObj "list" #[] 0)).update s.heap.objs.size (Obj.mapSeq (·++vs.toArray))).push (seqObj "list" vs.toArray 0)};rw[hsz];refine GR (GS (HA JY ⟨_,hoL,rfl⟩ JZ (list_sort_tree hoL hI h64 fun out ns' a1 a2 a3=>⟨_,rfl,?_⟩) (J0 _)));exact GV ⟨_,rfl,h out ns' a1 a2 a3⟩
end
theorem mR{h:Heap}{vs:List Value}{out:Array Value}{b:Addr}{u:Obj}(e:h.get? b=some u):(sortedAll h vs out).get? b=some u:=by
 have hb:=Gs e;have n1:b≠h.objs.size:=Gw hb;have n2:b≠h.objs.size+1:=Gw (HX hb);unfold sortedAll sortedHeap;rw[JM _ _ _ _ n2];refine GY _ (GY _ ?_);rw[JM _ _ _ _ n2];refine GY _ ?_;rw[JM _ _ _ _ n1];exact GY _ e
theorem mS {h:Heap}{vs:List Value}{out:Array Value}:∃n,(sortedAll h vs out).get? (h.objs.size+1)=some (seqObj "list" out n):=by
 unfold sortedAll sortedHeap
 have hsz:((h.push (seqObj "list" #[] 0)).update h.objs.size (Obj.mapSeq (·++vs.toArray))).objs.size=h.objs.size+1:=by
  rw[JL,JK]
 have hoL:(((h.push (seqObj "list" #[] 0)).update h.objs.size (Obj.mapSeq (·++vs.toArray))).push (seqObj "list" vs.toArray 0)).get? (h.objs.size+1)=some (seqObj "list" vs.toArray 0):=by
  rw[<- hsz];exact GZ _ rfl
 have g1:=JH hoL (fun _=>#[]);have g2:=GY (seqObj "list" #[] 0) (GY (seqObj "tuple" vs.toArray 0) g1);exact⟨_,JH g2 (fun _=>out)⟩
theorem jR{us:List Value}{ns:List Int}(h:IntsAre us ns):aX (ns.map V.int) us:=by
 induction h with
 |nil=>exact .nil
 |cons n t _ ih=>exact .cons ⟨t,rfl⟩ ih
section
variable{X:Cx}
def rm(K:W.Frag):List V->Hp->VK->Prop:=fun xs H Q=>∃(a:Addr)(ns:List Int),xs=[.ref a]/\(dW K H a (ns.map V.int)\/eD K H a (ns.map V.int))/\ns.length<64 /\
 ∀ns':List Int,ns'.Perm ns->ns'.Pairwise (·<=·)->∀l,H l=none->Q (.ref l) (cj H l (.lst (ns'.map V.int)))
theorem so:bM X (.builtin "sorted") (rm X.K):=by
 intro pins s σ H xs us Q I r h;obtain⟨a,ns,rfl,ha,hl,q⟩:=h;obtain⟨u,rfl,ru⟩:=dm r;cases ru
 have core:∀(T:String),T = "list" \/ T = "tuple" -> ∀(its:List Value) (o:Obj) (n:Nat),s.heap.get? a=some o->o.cls=.type T->o.data=.seq its.toArray n->aX (ns.map V.int) its->wpAny (model X.prog X.w) X.A (call (.builtin "sorted") [.ref a]) (EP X pins σ Q) X.xe s:=by
  intro T hT its o n e1 e2 e3 rv;have hI:IntsAre its ns:=dM rv;refine oB hT e1 e2 e3 hI (by rw[hI.length];exact hl) fun out ns' h1 h2 h3=>?_;refine⟨.ref (s.heap.objs.size+1),cj H (s.heap.objs.size+1) (.lst (ns'.map V.int)),I.laid (t':=s.toks) (fun b ob e=>mR e) (Iw _) ?_,rfl,q ns' h2 h3 _ (I.hok.fresh (Iw _))⟩;obtain⟨m,e⟩:=mS (h:=s.heap) (vs:=its) (out:=out);refine⟨?_,out.toList,m,jR h1,by simpa using e⟩;rw[Hm,h2.length_eq];exact Gz (GA hl) (by decide)
 rcases ha with ha|ha
 ·obtain⟨its,rv,⟨o,n,e1,e2,_,e3⟩,hz⟩:=I.list ha;exact core "list" (.inl rfl) its o n e1 e2 e3 rv
 ·obtain⟨its,rv,⟨o,e1,e2,n,e3⟩,hz⟩:=I.tuple ha;exact core "tuple" (.inr rfl) its o n e1 e2 e3 rv
theorem sC{pins:List (Addr×Obj)}{σ:St}{H:Hp}{s:Shared}{r:Addr}{k:List Int}(I:aN X pins σ H s)(h:eD X.K H r (k.map V.int)):Tk X.prog X.w s.heap k r:=by
 obtain⟨its,rv,⟨o,e1,e2,n,e3⟩,_⟩:=I.tuple h;refine⟨o,its.toArray,n,e1,e2,e3,?_⟩
 have core:∀(k:List Int)(its:List Value),aX (k.map V.int) its->PySem.ItemsAre (intKind X.prog X.w) k its:=by
  intro k
  induction k with
  |nil=>intro its h;cases h;exact .nil
  |cons i r ih=>
   intro its h;cases h with
   |cons h1 h2=>
    obtain⟨t,rfl⟩:=h1;exact .cons (by simp[intKind,Value.isInt]) (ih _ h2)
 simpa using core k its rv
def fq(qs:List KP):List V:=qs.map fun p=>V.ref p.2
theorem iR:∀{qs:List KP}{its:List Value},aX (fq qs) its->its=qs.map fun p=>Value.ref p.2
 |[],its,h=>by cases h;rfl
 |q::qs,its,h=>by
  cases h with
  |cons h1 h2=>cases h1;rw[iR h2];rfl
theorem iy:∀(qs:List KP),aX (fq qs) (au qs)
 |[]=>.nil
 |q::qs=>.cons rfl (iy qs)
def vU(K:W.Frag)(w:World):List V->Hp->VK->Prop:=fun xs H Q=>∃(a:Addr)(qs:List KP),xs=[.ref a]/\(dW K H a (fq qs)\/eD K H a (fq qs))/\(∀p∈qs,p.1∈prs/\eD K H p.2 (p.1.map V.int)) /\
 ∀l,H l=none->Q (.ref l) (cj H l (.ext fun h=>dw w h l (dJ qs)))
theorem u9 (hc:X.calm=true) (hu:X.A.units+64<cLine):bM X (.type "set") (vU X.K X.w):=by
 intro pins s σ H xs us Q I r h;obtain⟨a,qs,rfl,ha,hq,q⟩:=h;obtain⟨u,rfl,ru⟩:=dm r;cases ru
 have fin:∀(h':Heap)(tk:Nat),dw X.w h' s.heap.objs.size (dJ qs)->(∀b o,b<s.heap.objs.size->s.heap.get? b=some o->h'.get? b=some o)->EP X pins σ Q (.ref s.heap.objs.size) {s with heap:=h',toks:=tk}:=by
  intro h' tk hS hk;refine⟨.ref s.heap.objs.size,cj H s.heap.objs.size (.ext fun h=>dw X.w h s.heap.objs.size (dJ qs)),I.laid (t':=tk) (fun b ob e=>hk b ob (Gs e) e) (G0 _) ?_,rfl,q _ (I.hok.fresh (G0 _))⟩;refine⟨hS,?_,fun h1 h2 g k=>g.keeps k⟩;obtain⟨o,es,ep,t,Z,S0,_⟩:=hS;exact⟨o,S0.ho⟩
 rcases ha with ha|ha
 ·obtain⟨its,rv,pl,hz⟩:=I.list ha;exact qx (I.ok.hd hc) pl.isList (by simpa using iR rv) (fun p hp=>(hq p hp).1) (fun p hp=>sC I (hq p hp).2) (by omega) fin
 ·obtain⟨its,rv,pl,hz⟩:=I.tuple ha;exact oD (I.ok.hd hc) pl (by simpa using iR rv) (fun p hp=>(hq p hp).1) (fun p hp=>sC I (hq p hp).2) (by omega) fin
def rk(K:W.Frag)(w:World):List V->Hp->VK->Prop:=fun xs H Q=>∃(a:Addr)(ps:List KP),xs=[.ref a]/\H a=some (.ext fun h=>dw w h a ps)/\(∀p∈ps,eD K H p.2 (p.1.map V.int)) /\
 ∀out:List KP,out.Perm ps->fK out->∀l,H l=none->Q (.ref l) (cj H l (.lst (fq out)))
theorem sm (hc:X.calm=true):bM X (.builtin "sorted") (rk X.K X.w):=by
 intro pins s σ H xs us Q I r h;obtain⟨a,ps,rfl,ha,hT,q⟩:=h;obtain⟨u,rfl,ru⟩:=dm r;cases ru;obtain⟨hS,_⟩:=(show d0 X.prog X.w H s.heap a (.ext fun h=>dw X.w h a ps) from I.hok a _ ha);refine rM (I.ok.hd hc) hS (fun p hp=>sC I (hT p hp)) fun out hp hr h' D hD hk hn=>?_;refine⟨.ref D,cj H D (.lst (fq out)),I.laid (t':=s.toks) (fun b ob e=>hk b ob e) hD ?_,rfl,q out hp hr _ (I.hok.fresh hD)⟩;obtain⟨n,e⟩:=hn;refine⟨?_,au out,n,iy out,e⟩
 have hl:out.length<=15:=by
  rw[hp.length_eq];obtain⟨o,es,ep,t,Z,S0,hk,hn⟩:=hS;exact iK hk hn
 unfold fq;rw[Hm];exact Gz hl (by decide)
end
end L2
namespace L2
open PySem PySem.Spec PyProof.Rows RS
def fx(qs:List KI):List KI:=qs.foldl (fun ps p=>o9 ps p.1 p.2) []
theorem oT(qs:List KI)(p:KI):fx (qs++[p])=o9 (fx qs) p.1 p.2:=by unfold fx;rw[List.foldl_append];rfl
def kf(ns:List Int):List Int:=ns.foldl (fun acc k=>if k∈acc then acc else acc++[k]) []
theorem jY:∀(qs ps:List KI),(qs.foldl (fun ps p=>o9 ps p.1 p.2) ps).map (·.1)=(qs.map (·.1)).foldl (fun acc k=>if k∈acc then acc else acc++[k]) (ps.map (·.1))
 |[],ps=>rfl
 |q::qs,ps=>by
  rw[HL,jY qs,HF,HL];congr 1;unfold o9;split
  ·rfl
  ·rw[IT];rfl
theorem qL(qs:List KI):(fx qs).map (·.1)=kf (qs.map (·.1)):=jY qs []
theorem jT {w:World}{h:Heap}{a:Addr} (e:h.get? a=some {cls:=.type "set",dict:=none,data:=.set #[] 0 (.fresh 0 0 (jG w))}):b8 w h a []:=
 ⟨_,_,_,_,[],⟨e,⟨rfl,rfl,rfl⟩,rfl,⟨rfl,rfl,List.Pairwise.nil,fun z hz=>by simp at hz,rfl,fun z hz=>by simp at hz⟩,rfl,rfl,.inl ⟨rfl,by decide⟩,List.Perm.nil⟩,fun p hp=>by simp at hp,I0⟩
def j8(p:KI):Value:=Value.int p.1 p.2
section
variable{prog:Program}{w:World}{A:Around}{E:Value->Shared->Prop}{s:Shared}
theorem nQ{qs:List KI}{S:Addr}{u:Nat}(hk:∀p∈qs,p.1∈ins):vP prog w u S (qs.map j8) (fun i h=>b8 w h S (fx (qs.take i))):=by
 refine⟨fun i h h' hk' j1=>j1.keeps fun o e=>hk' S o (G0 _) e,fun A i v s E Q hA hv j1 hQ=>?_⟩;rw[Hj]at hv;cases e:qs[i]? with
 |none=>rw[e]at hv;cases hv
 |some p=>
  rw[e]at hv;cases hv;have hpm:p∈qs:=Hk e;unfold setAdd j8;refine GS ?_;refine GR (wpAny_pyHash_int ?_);refine Am (s:={s with toks:=s.toks+1}) j1 (hk p hpm) fun b h' hsb hS2=>?_;have etk:qs.take (i+1)=qs.take i++[p]:=by rw[Jv,e];rfl
  refine hQ b h' _ (Nat.le_add_right _ _) hsb (by rw[etk,oT];exact hS2)
theorem nA:∀(qs:List KI),IntsAre (qs.map j8) (qs.map (·.1))
 |[]=>.nil
 |p::qs=>.cons p.1 p.2 (nA qs)
theorem qh{vs:List Value}{ns:List Int}(h:IntsAre vs ns):∃qs:List KI,vs=qs.map j8/\qs.map (·.1)=ns:=by
 induction h with
 |nil=>exact⟨[],rfl,rfl⟩
 |cons n t _ ih=>
  obtain⟨qs,e1,e2⟩:=ih;exact⟨(n,t)::qs,by rw[e1];rfl,by rw[<- e2];rfl⟩
theorem qu{a:Addr}{ps:List KI}{Q:Value->Shared->Prop}(hh:A.handled=none)(S:b8 w s.heap a ps)
  (h:∀(out:List Value) (ns':List Int),IntsAre out ns'->ns'.Perm (ps.map (·.1))->ns'.Pairwise (·<=·)->∀h' D,s.heap.objs.size<=D->(∀b u,s.heap.get? b=some u->h'.get? b=some u)->(∃n,h'.get? D=some (seqObj "list" out.toArray n))->Q (.ref D) {s with heap:=h'}) :
  wpAny (model prog w) A (call (.builtin "sorted") [.ref a]) Q E s:=by
 obtain⟨o,es,ep,t,Z,S,hk,hn⟩:=S;have h6:=ir hk hn;refine JT JU JV JW (JX _) ?_;unfold Builtin.«sorted»;refine GR (m:=checkCount "sorted" 1 1 _) (GV ?_);refine GR (kK (by simpa using hh) S (by rw[S.len,Hm];omega) fun qs hqs h1 k1 hsz=>?_);obtain⟨rs,q1,q2⟩:=jW hqs ps rfl;have q3:qs.map (·.2)=rs.map j8:=by rw[q2,Iz];rfl
 rw[q3];have hvl:(rs.map j8).length<=6:=by rw[Hm,q1.length_eq];exact h6
 refine GR (JJ ?_ (Gz hvl (by decide)));have hoL:(h1.push (seqObj "list" (rs.map j8).toArray 0)).get? h1.objs.size=some (seqObj "list" (rs.map j8).toArray 0):=GZ _ rfl;have hnn:∀b u,h1.get? b=some u->b≠h1.objs.size:=fun b u q=>Gw (Gs q);refine GR (GS (HA JY (s:={s with heap:=h1.push (seqObj "list" (rs.map j8).toArray 0)}) ⟨_,hoL,rfl⟩ JZ ?body (J0 _)))
 case body=>
  refine list_sort_tree (s:={s with heap:=h1.push (seqObj "list" (rs.map j8).toArray 0)}) hoL (nA rs) (by omega) fun out ns' a1 a2 a3=>⟨_,rfl,?_⟩;refine GV ⟨_,rfl,h out.toList ns' a1 (a2.trans (q1.map _)) a3 _ h1.objs.size hsz (fun b u q=>?_) ?_⟩
  ·have hb:=hnn b u (k1 b u q);unfold sortedHeap;rw[JM _ _ _ _ hb];refine GY _ (GY _ ?_);rw[JM _ _ _ _ hb];exact GY _ (k1 b u q)
  ·unfold sortedHeap;have g1:=JH hoL (fun _=>#[]);have g2:=GY (seqObj "list" #[] 0) (GY (seqObj "tuple" (rs.map j8).toArray 0) g1);exact⟨_,JH g2 (fun _=>out)⟩
end
section
variable{X:Cx}
def vV(K:W.Frag)(w:World):List V->Hp->VK->Prop:=fun xs H Q=>∃(a:Addr)(ns:List Int),xs=[.ref a]/\(dW K H a (ns.map V.int)\/eD K H a (ns.map V.int))/\(∀n∈ns,n∈ins) /\
 ∀l,H l=none->∀ps:List KI,ps.map (·.1)=kf ns->(∀p∈ps,p.1∈ins)->(ps.map (·.1)).Nodup->Q (.ref l) (cj H l (.ext fun h=>b8 w h l ps))
theorem va (hc:X.calm=true) (hu:X.A.units+64<cLine):bM X (.type "set") (vV X.K X.w):=by
 intro pins s σ H xs us Q I r h;obtain⟨a,ns,rfl,ha,hq,q⟩:=h;obtain⟨u,rfl,ru⟩:=dm r;cases ru
 have fin:∀(qs:List KI),qs.map (·.1)=ns->∀(h':Heap)(tk:Nat),b8 X.w h' s.heap.objs.size (fx qs)->(∀b o,b<s.heap.objs.size->s.heap.get? b=some o->h'.get? b=some o)->EP X pins σ Q (.ref s.heap.objs.size) {s with heap:=h',toks:=tk}:=by
  intro qs eq h' tk hS hk;obtain⟨o,es,ep,t,Z,S0,k1,k2⟩:=id hS;refine⟨.ref s.heap.objs.size,cj H s.heap.objs.size (.ext fun h=>b8 X.w h s.heap.objs.size (fx qs)),I.laid (t':=tk) (fun b ob e=>hk b ob (Gs e) e) (G0 _) ?_,rfl,q _ (I.hok.fresh (G0 _)) _ (by rw[qL,eq]) k1 k2⟩;exact⟨hS,⟨o,S0.ho⟩,fun h1 h2 g k=>g.keeps k⟩
 rcases ha with ha|ha
 ·obtain ⟨its, rv, pl, hz⟩ := I.list ha;obtain⟨qs,e1,e2⟩:=qh (dM rv);subst e1;have hsz:(qs.map j8).toArray.size=qs.length:=by rw[G7,Hm]
  refine jS (I.ok.hd hc) pl.isList (J:=fun i h=>b8 X.w h s.heap.objs.size (fx (qs.take i))) ?_ (fun h' k e=>jT e) fun h' tk j1=>fin qs e2 h' tk ?_
  ·exact nQ fun p hp=>hq _ (by rw[<- e2];exact IQ hp)
  ·rw[hsz,Jw]at j1;exact j1
 ·obtain ⟨its, rv, pl, hz⟩ := I.tuple ha;obtain⟨qs,e1,e2⟩:=qh (dM rv);subst e1;have hsz:(qs.map j8).toArray.size=qs.length:=by rw[G7,Hm]
  refine i8 (I.ok.hd hc) pl (J:=fun i h=>b8 X.w h s.heap.objs.size (fx (qs.take i))) ?_ (fun h' k e=>jT e) fun h' tk j1=>fin qs e2 h' tk ?_
  ·exact nQ fun p hp=>hq _ (by rw[<- e2];exact IQ hp)
  ·rw[hsz,Jw]at j1;exact j1
def rj(w:World):List V->Hp->VK->Prop:=fun xs H Q=>∃(a:Addr)(ps:List KI),xs=[.ref a]/\H a=some (.ext fun h=>b8 w h a ps) /\
 ∀ns':List Int,ns'.Perm (ps.map (·.1))->ns'.Pairwise (·<=·)->∀l,H l=none->Q (.ref l) (cj H l (.lst (ns'.map V.int)))
theorem sk (hc:X.calm=true):bM X (.builtin "sorted") (rj X.w):=by
 intro pins s σ H xs us Q I r h;obtain⟨a,ps,rfl,ha,q⟩:=h;obtain⟨u,rfl,ru⟩:=dm r;cases ru;obtain⟨hS,_⟩:=(show d0 X.prog X.w H s.heap a (.ext fun h=>b8 X.w h a ps) from I.hok a _ ha);obtain⟨o,es,ep,t,Z,S0,k1,k2⟩:=id hS;have h6:=ir k1 k2;refine qu (I.ok.hd hc) hS fun out ns' a1 a2 a3 h' D hD hk hn=>?_;refine⟨.ref D,cj H D (.lst (ns'.map V.int)),I.laid (t':=s.toks) (fun b ob e=>hk b ob e) hD ?_,rfl,q ns' a2 a3 _ (I.hok.fresh hD)⟩;obtain⟨n,e⟩:=hn;refine⟨?_,out,n,jR a1,e⟩;rw[Hm,a2.length_eq,Hm];exact Gz h6 (by decide)
def AE(w:World):List V->Hp->VK->Prop:=fun xs H Q=>∃(a:Addr)(ps:List KI),xs=[.ref a]/\H a=some (.ext fun h=>b8 w h a ps)/\Q (.int ps.length) H
theorem vf:bM X (.builtin "len") (AE X.w):=by
 intro pins s σ H xs us Q I r h;obtain⟨a,ps,rfl,ha,q⟩:=h;obtain⟨u,rfl,ru⟩:=dm r;cases ru;obtain⟨hS,_⟩:=(show d0 X.prog X.w H s.heap a (.ext fun h=>b8 X.w h a ps) from I.hok a _ ha);obtain⟨o,es,ep,t,Z,S0,k1,k2⟩:=id hS;have h6:=ir k1 k2;have hsz:es.size=ps.length:=by rw[S0.tab.size.2,S0.len,Hm]
 refine PySem.call_len_set S0.ho S0.ex S0.hd S0.fits (by rw[hsz];omega) ⟨.int ps.length,H,?_,⟨_,by rw[hsz]⟩,q⟩;exact I.tok _
def AF(w:World):List V->Hp->VK->Prop:=fun xs H Q=>∃(a:Addr)(ps:List KP),xs=[.ref a]/\H a=some (.ext fun h=>dw w h a ps)/\Q (.int ps.length) H
theorem vg:bM X (.builtin "len") (AF X.w):=by
 intro pins s σ H xs us Q I r h;obtain⟨a,ps,rfl,ha,q⟩:=h;obtain⟨u,rfl,ru⟩:=dm r;cases ru;obtain⟨hS,_⟩:=(show d0 X.prog X.w H s.heap a (.ext fun h=>dw X.w h a ps) from I.hok a _ ha);obtain⟨o,es,ep,t,Z,S0,k1,k2⟩:=id hS;have h6:=iK k1 k2;have hsz:es.size=ps.length:=by rw[S0.tab.size.2,S0.len,Hm]
 refine PySem.call_len_set S0.ho S0.ex S0.hd S0.fits (by rw[hsz];omega) ⟨.int ps.length,H,?_,⟨_,by rw[hsz]⟩,q⟩;exact I.tok _
end
end L2
namespace L2
open PySem PySem.Spec PyProof.Rows RS
def aA(k:List Int):D:=.tup (k.map D.int)
def t9:D->Option (List Int)
 |.tup [.int a,.int b]=>if 0<=a/\a<b/\b<6 then some [a,b] else none
 |_=>none
def m7:List D->Option (List (List Int))
 |[]=>some []
 |d::r=>match t9 d,m7 r with
  |some k,some ks=>some (k::ks)
  |_,_=>none
theorem z7{d:D}{k:List Int}(h:t9 d=some k):d=aA k/\k∈prs:=by
 unfold t9 at h;split at h
 ·split at h
  ·rename_i hc;cases h;exact⟨rfl,tp hc.1 hc.2.1 hc.2.2⟩
  ·cases h
 ·cases h
theorem uT{a b:Int}(h:0<=a/\a<b/\b<6):t9 (.tup [.int a,.int b])=some [a,b]:=by
 simp only[t9,Gq h]
theorem qc:∀{ds:List D}{ks:List (List Int)},m7 ds=some ks->ds=ks.map aA/\∀k∈ks,k∈prs
 |[],ks,h=>by cases h;exact⟨rfl,fun k hk=>by simp at hk⟩
 |d::r,ks,h=>by
  unfold m7 at h;split at h
  ·rename_i k ks' h1 h2;cases h;obtain⟨e1,e2⟩:=z7 h1;obtain⟨f1,f2⟩:=qc h2;refine⟨by rw[e1,f1];rfl,fun k' hk=>?_⟩;rcases GE.mp hk with z|z
   ·rw[z];exact e2
   ·exact f2 k' z
  ·cases h
theorem qd:∀{ks:List (List Int)},(∀k∈ks,k∈prs)->m7 (ks.map aA)=some ks
 |[],_=>rfl
 |k::ks,h=>by
  obtain⟨a,b,rfl,h1,h2,h3⟩:=fC (h k GC);simp only[HF,m7,qd fun k' hk=>h k' (GD _ hk)];have:t9 (aA [a,b])=some [a,b]:=uT ⟨h1,h2,h3⟩;rw[this]
def vN(ks:List (List Int))(k:List Int):List (List Int):=if k∈ks then ks else ks++[k]
def gq(ks:List (List Int)):List (List Int):=ks.foldl vN []
def fm(ks:List (List Int)):List (List Int):=prs.filter fun k=>decide (k∈ks)
theorem mz:∀(qs ps:List KP),(qs.foldl (fun ps p=>jB ps p.1 p.2) ps).map (·.1)=(qs.map (·.1)).foldl vN (ps.map (·.1))
 |[],ps=>rfl
 |q::qs,ps=>by
  rw[HL,HF,HL,mz qs];congr 1;unfold jB vN;split <;> simp
theorem u6(qs:List KP):(dJ qs).map (·.1)=gq (qs.map (·.1)):=mz qs []
theorem u5{ks:List (List Int)}{k:List Int}:k∈gq ks↔k∈ks:=by
 have core:∀(ks acc:List (List Int)),k∈ks.foldl vN acc↔k∈acc\/k∈ks:=by
  intro ks
  induction ks with
  |nil=>intro acc;simp
  |cons x r ih=>
   intro acc;rw[HL,ih];unfold vN;split
   ·rename_i hx;constructor
    ·rintro (h | h)
     ·exact .inl h
     ·exact .inr (GD _ h)
    ·rintro (h | h)
     ·exact .inl h
     ·rcases GE.mp h with z | z
      ·exact .inl (by rw[z];exact hx)
      ·exact .inr z
   ·simp[or_assoc]
 unfold gq;rw[core];simp
theorem ml:prs.Pairwise fun a b=>mZ a<mZ b:=by decide +kernel
theorem ya{l m:List (List Int)}(hl:l.Pairwise fun a b=>mZ a<mZ b)(hm:m.Pairwise fun a b=>mZ a<mZ b)(h:∀k,k∈l↔k∈m):l=m:=by
 have nl:l.Nodup:=hl.imp fun h e=>by subst e;omega
 have nm:m.Nodup:=hm.imp fun h e=>by subst e;omega
 have hp:l.Perm m:=(List.perm_ext_iff_of_nodup nl nm).mpr h;refine hp.eq_of_pairwise (le:=fun a b=>mZ a<mZ b) (fun a b _ _ h1 h2=>by omega) hl hm
theorem xi{out:List KP}{ps:List KP}(hk:∀p∈ps,p.1∈prs)(hp:out.Perm ps)(hr:fK out):out.map (·.1)=fm (ps.map (·.1)):=by
 refine ya ?_ (ml.filter _) fun k=>?_
 ·unfold fK at hr;rw[JE];exact hr
 ·have h1 : k ∈ out.map (·.1) ↔ k ∈ ps.map (·.1) := (hp.map _).mem_iff;rw[h1];unfold fm;rw[Gx,J3];constructor
  ·intro h;refine⟨?_,h⟩;obtain⟨p,hp',rfl⟩:=IJ.mp h;exact hk p hp'
  ·exact fun h=>h.2
theorem qw(ks:List (List Int)):fm (gq ks)=fm ks:=by
 unfold fm;apply List.filter_congr;intro k _;simp only[u5]
theorem Reps.keys{K:W.Frag}{H:Hp}{α:List Addr}:∀{ks:List (List Int)}{vs:List V},Reps K H α (ks.map aA) vs->∃qs:List KP,qs.map (·.1)=ks/\vs=fq qs/\∀p∈qs,eD K H p.2 (p.1.map V.int)
 |[],vs,h=>by simp only[HE,Reps]at h;exact⟨[],rfl,h,fun p hp=>by simp at hp⟩
 |k::ks,vs,h=>by
  simp only[HF,Reps]at h;obtain⟨v,r,rfl,h1,h2⟩:=h;obtain⟨a,us,rfl,h3,h4⟩:=aF.mp h1;obtain⟨qs,e1,e2,e3⟩:=Reps.keys h2;refine⟨(k,a)::qs,by rw[HF,e1],by rw[e2];rfl,fun p hp=>?_⟩;rcases GE.mp hp with z|z
  ·subst z;rw[<- h4.ints];exact h3
  ·exact e3 p z
theorem iA{K:W.Frag}{H:Hp}{α:List Addr}:∀{qs:List KP},(∀p∈qs,eD K H p.2 (p.1.map V.int))->Reps K H α ((qs.map (·.1)).map aA) (fq qs)
 |[],_=>Reps.nil
 |q::qs,h=>by
  refine Reps.cons (aF.mpr ⟨q.2,_,rfl,h q GC,iB _⟩) (iA fun p hp=>h p (GD _ hp))
def ig:List D->Option (List Int)
 |[]=>some []
 |.int i::r=>(ig r).map (i::·)
 |_::_=>none
theorem dQ:∀{ds:List D}{ns:List Int},ig ds=some ns->ds=ns.map D.int
 |[],bs,h=>by cases h;rfl
 |.int b::r,bs,h=>by
  unfold ig at h;cases e:ig r with
  |none=>rw[e]at h;cases h
  |some cs=>rw[e]at h;cases h;rw[dQ e];rfl
 |.non::r,bs,h=>by cases h
 |.bl _::r,bs,h=>by cases h
 |.str _::r,bs,h=>by cases h
 |.tup _::r,bs,h=>by cases h
 |.frz _::r,bs,h=>by cases h
 |.obj _::r,bs,h=>by cases h
theorem sd{ns:List Int}(h:∀n∈ns,n∈ins):(kf ns).length<=6:=by
 have core:∀(l acc:List Int),(∀n∈l,n∈ins)->(∀n∈acc,n∈ins)->acc.Nodup->(l.foldl (fun acc k=>if k∈acc then acc else acc++[k]) acc).length<=6:=by
  intro l
  induction l with
  |nil=>
   intro acc _ h2 h3;have:=gy h3 (l2:=ins) h2;exact this
  |cons x l ih=>
   intro acc h1 h2 h3;rw[HL];have hx:=h1 x GC;split
   ·exact ih acc (fun n hn=>h1 n (GD _ hn)) h2 h3
   ·rename_i hxa;refine ih (acc++[x]) (fun n hn=>h1 n (GD _ hn)) (fun n hn=>?_) ?_
    ·rcases GG.mp hn with z | z
     ·exact h2 n z
     ·rw[Ih.mp z];exact hx
    ·refine Jj.mpr ⟨h3,by simp,fun u hu v hv e=>?_⟩;rw[Ih.mp hv]at e;exact hxa (e ▸ hu)
 exact core ns [] h (fun n hn=>by simp at hn) I0
def A8(xs:List D):Option (List Int):=match ig xs with
 |some ns=>if ns.all (fun n=>decide (0<=n/\n<6))=true then some ns else none
 |none=>none
theorem Ac{xs:List D}{ns:List Int}(h:A8 xs=some ns):xs=ns.map D.int/\∀n∈ns,n∈ins:=by
 unfold A8 at h;split at h
 ·rename_i ms hm;split at h
  ·rename_i ha;cases h;refine⟨dQ hm,fun n hn=>Ab.mpr ?_⟩;simpa using Jd.mp ha n hn
  ·cases h
 ·cases h
def pj(xs:List D)(μ:aw):af D:=match m7 xs with
 |some ks=>.ok (.obj μ.length) (μ++[.set (gq ks)])
 |none=>match A8 xs with
  |some ns=>.ok (.obj μ.length) (μ++[.iset (kf ns)])
  |none=>.bad
def qV(ds:List D)(μ:aw):af D:=match ds with
 |[.tup xs]=>pj xs μ
 |[.obj n]=>match μ[n]? with
  |some (.lst xs)=>pj xs μ
  |_=>.bad
 |_=>.bad
section
variable{p:Pa}
theorem zS{H:Hp}{α:List Addr}{μ:aw}{ks:List (List Int)}{vs:List V}{Q:VK}(S:p.S H α μ)(hk:∀k∈ks,k∈prs)(r:p.Rs H α (ks.map aA) vs)(P:aB p H α (.ok (.obj μ.length) (μ++[.set (gq ks)])) (RV p Q)) :
  ∃qs:List KP,vs=fq qs/\(∀q∈qs,q.1∈prs/\eD p.K H q.2 (q.1.map V.int))/\∀l,H l=none->Q (.ref l) (cj H l (.ext fun h=>dw p.w h l (dJ qs))):=by
 obtain⟨qs,e1,e2,e3⟩:=r.keys;refine⟨qs,e2,fun q hq=>⟨hk _ (by rw[<- e1];exact IQ hq),e3 q hq⟩,fun l hl=>?_⟩;have x1:p.X H (cj H l (.ext fun h=>dw p.w h l (dJ qs))) α (α++[l]):=(bO hl).trans (jN [l]);refine P _ _ x1 (S.more hl ⟨dJ qs,by rw[u6,e1],cE,fun q hq=>?_,oS,fun q hq=>?_⟩) _ (aR.mpr ⟨l,rfl,by rw[<- S.len];simp⟩)
 ·exact hk _ (by rw[<- e1];exact IQ (jo hq))
 ·exact x1.tup _ _ (e3 q (jo hq))
theorem xR{H:Hp}{α:List Addr}{μ:aw}{ns:List Int}{Q:VK}(S:p.S H α μ)(hk:∀n∈ns,n∈ins)(P:aB p H α (.ok (.obj μ.length) (μ++[.iset (kf ns)])) (RV p Q)) :
  ∀l,H l=none->∀ps:List KI,ps.map (·.1)=kf ns->(∀p∈ps,p.1∈ins)->(ps.map (·.1)).Nodup->Q (.ref l) (cj H l (.ext fun h=>b8 p.w h l ps)):=fun l hl ps e _ _=>by
 have x1:p.X H (cj H l (.ext fun h=>b8 p.w h l ps)) α (α++[l]):=(bO hl).trans (jN [l]);exact P _ _ x1 (S.more hl ⟨ps,e,cE,sd hk⟩) _ (aR.mpr ⟨l,rfl,by rw[<- S.len];simp⟩)
theorem wt{H:Hp}{α:List Addr}{μ:aw}{xs:List D}{us:List V}{a:Addr}{Q:VK}(S:p.S H α μ)(h1:dW p.K H a us\/eD p.K H a us)(rr:p.Rs H α xs us)(P:aB p H α (pj xs μ) (RV p Q)):vU p.K p.w [.ref a] H Q\/vV p.K p.w [.ref a] H Q:=by
 unfold pj at P;split at P
 ·rename_i ks hks;obtain⟨f1,f2⟩:=qc hks;rw[f1]at rr;obtain⟨qs,e1,e2,e3⟩:=zS S f2 rr P;exact .inl ⟨a,qs,rfl,by rw[<- e1];exact h1,e2,e3⟩
 ·split at P
  ·rename_i ns hns;obtain⟨f1,f2⟩:=Ac hns;rw[f1]at rr;exact .inr ⟨a,ns,rfl,by rw[<- rr.ints];exact h1,f2,xR S f2 P⟩
  ·exact P.elim
theorem CF:qO p qV (fun xs H Q=>vU p.K p.w xs H Q\/vV p.K p.w xs H Q):=by
 intro ds vs H α μ Q S r P;unfold qV at P;split at P
 ·rename_i xs;obtain⟨v,rfl,r1⟩:=r.one;obtain⟨a,us,rfl,h1,rr⟩:=aF.mp r1;exact wt S (.inr h1) rr P
 ·rename_i n;split at P
  ·rename_i xs hx;obtain⟨v,rfl,r1⟩:=r.one;obtain⟨a,us,rfl,a1,h1,rr⟩:=b6 S r1 hx;exact wt S (.inl (dW.of h1)) rr P
  ·exact P.elim
 ·exact P.elim
def lN(ns:List Int):List Int:=ns.mergeSort fun a b=>decide (a<=b)
theorem xj{ns ns':List Int}(hp:ns'.Perm ns)(hs:ns'.Pairwise (·<=·)):ns'=lN ns:=by
 have h1:(lN ns).Perm ns:=List.mergeSort_perm ns _
 have h2:(lN ns).Pairwise (·<=·):=by
  have:=List.pairwise_mergeSort (le:=fun(a b:Int)=>decide (a<=b)) (fun a b c h1 h2=>by simp at *;omega) (fun a b=>by simp;omega) ns;exact this.imp fun h=>by simpa using h
 exact(hp.trans h1.symm).eq_of_pairwise (fun a b _ _ h1 h2=>J8 h1 h2) hs h2
def iP(ds:List D)(μ:aw):af D:=match ds with
 |[.tup xs]=>match ig xs with
  |some ns=>if ns.length<64 then .ok (.obj μ.length) (μ++[.lst ((lN ns).map D.int)]) else .bad
  |none=>.bad
 |[.obj n]=>match μ[n]? with
  |some (.lst xs)=>match ig xs with
   |some ns=>if ns.length<64 then .ok (.obj μ.length) (μ++[.lst ((lN ns).map D.int)]) else .bad
   |none=>.bad
  |some (.set ks)=>.ok (.obj μ.length) (μ++[.lst ((fm ks).map aA)])
  |some (.iset ks)=>.ok (.obj μ.length) (μ++[.lst ((lN ks).map D.int)])
  |_=>.bad
 |_=>.bad
theorem kn:qO p iP (fun xs H Q=>(rm p.K xs H Q\/rk p.K p.w xs H Q)\/rj p.w xs H Q):=by
 intro ds vs H α μ Q S r P
 have fin:∀{ns:List Int},aB p H α (.ok (.obj μ.length) (μ++[.lst ((lN ns).map D.int)])) (RV p Q)->∀ns':List Int,ns'.Perm ns->ns'.Pairwise (·<=·)->∀l,H l=none->Q (.ref l) (cj H l (.lst (ns'.map V.int))):=by
  intro ns P ns' h1 h2 l hl;rw[<- xj h1 h2]at P;obtain⟨x1,x2,x3⟩:=b9 S hl (iB ns');exact P _ _ x1 x2 _ x3
 unfold iP at P;split at P
 ·rename_i xs;split at P
  ·rename_i ns hns;split at P
   ·rename_i hl;obtain⟨v,rfl,r1⟩:=r.one;obtain⟨a,us,rfl,h1,rr⟩:=aF.mp r1;rw[dQ hns]at rr;exact .inl (.inl ⟨a,ns,rfl,.inr (by rw[<- rr.ints];exact h1),hl,fin P⟩)
   ·exact P.elim
  ·exact P.elim
 ·rename_i n;split at P
  ·rename_i xs hx;split at P
   ·rename_i ns hns;split at P
    ·rename_i hl;obtain⟨v,rfl,r1⟩:=r.one;obtain⟨a,us,rfl,a1,h1,rr⟩:=b6 S r1 hx;rw[dQ hns]at rr;exact .inl (.inl ⟨a,ns,rfl,.inl (by rw[<- rr.ints];exact dW.of h1),hl,fin P⟩)
    ·exact P.elim
   ·exact P.elim
  ·rename_i ks hx;obtain⟨v,rfl,r1⟩:=r.one;obtain⟨a,ea,ps,e1,e2,e3,e4,e5⟩:=S.at hx;obtain⟨a',rfl,ea'⟩:=aR.mp r1;rw[ea]at ea';cases ea';refine .inl (.inr ⟨a,ps,rfl,e2,e5,fun out hp hr l hl=>?_⟩);have rr:p.Rs H α ((out.map (·.1)).map aA) (fq out):=iA fun q hq=>e5 q (hp.mem_iff.mp hq);rw[xi e3 hp hr,e1]at rr;obtain⟨x1,x2,x3⟩:=b9 S hl rr;exact P _ _ x1 x2 _ x3
  ·rename_i ks hx;obtain⟨v,rfl,r1⟩:=r.one;obtain⟨a,ea,ps,e1,e2,e3⟩:=S.at hx;obtain⟨a',rfl,ea'⟩:=aR.mp r1;rw[ea]at ea';cases ea';exact .inr ⟨a,ps,rfl,e2,by rw[e1];exact fin P⟩
  ·exact P.elim
 ·exact P.elim
def gk(ds:List D)(μ:aw):af D:=match ds with
 |[.obj n]=>match μ[n]? with
  |some (.iset ks)=>.ok (.int ks.length) μ
  |some (.set ks)=>.ok (.int ks.length) μ
  |_=>m9 [.obj n] μ
 |_=>m9 ds μ
theorem CI:qO p gk (fun xs H Q=>((∃x n,xs=[x]/\Bj p.K x H n/\Q (.int n) H)\/AE p.w xs H Q)\/AF p.w xs H Q):=by
 intro ds vs H α μ Q S r P;unfold gk at P;split at P
 ·rename_i n;split at P
  ·rename_i ks hx;obtain⟨v,rfl,r1⟩:=r.one;obtain⟨a,ea,ps,e1,e2,e3⟩:=S.at hx;obtain⟨a',rfl,ea'⟩:=aR.mp r1;rw[ea]at ea';cases ea';refine .inl (.inr ⟨a,ps,rfl,e2,P.now S _ (aj.mpr ?_)⟩);rw[<- e1,Hm]
  ·rename_i ks hx;obtain⟨v,rfl,r1⟩:=r.one;obtain⟨a,ea,ps,e1,e2,e3⟩:=S.at hx;obtain⟨a',rfl,ea'⟩:=aR.mp r1;rw[ea]at ea';cases ea';refine .inr ⟨a,ps,rfl,e2,P.now S _ (aj.mpr ?_)⟩;rw[<- e1,Hm]
  ·exact .inl (.inl (tE _ vs H α μ Q S r P))
 ·exact .inl (.inl (tE _ vs H α μ Q S r P))
end
section
variable{X:Cx}
def AC(K:W.Frag):List V->Hp->VK->Prop:=fun xs H Q=>∃(a:Addr)(ns:List Int),xs=[.ref a]/\(dW K H a (ns.map V.int)\/eD K H a (ns.map V.int))/\ns≠[]/\∀m∈ns,(∀j∈ns,m<=j)->Q (.int m) H
def AD(K:W.Frag):List V->Hp->VK->Prop:=fun xs H Q=>∃(a:Addr)(ns:List Int),xs=[.ref a]/\(dW K H a (ns.map V.int)\/eD K H a (ns.map V.int))/\ns≠[]/\∀m∈ns,(∀j∈ns,j<=m)->Q (.int m) H
theorem iL{its:List Value}{ns:List Int}(h:IntsAre its ns){i:Nat}{v:Value}(e:its.toArray[i]?=some v):∃t,v=.int (ns.getD i 0) t/\i<ns.length:=by
 have e':its[i]?=some v:=by simpa using e
 obtain⟨n,t,rfl,hn⟩:=h.at i v e';have hi:=(GI.mp hn).1;exact⟨t,by rw[JA,hn];rfl,hi⟩
theorem qj{ns:List Int}{i:Nat}(h:i<ns.length):ns.getD i 0∈ns:=by
 rw[JA,JQ h];exact JP h
theorem p8{ns:List Int}{j:Int}(h:j∈ns):∃i,i<ns.length/\ns.getD i 0=j:=by
 obtain⟨i,hi,e⟩:=List.getElem_of_mem h;exact⟨i,hi,by rw[JA,JQ hi];exact e⟩
theorem vc (hc:X.calm=true):bM X (.builtin "min") (AC X.K):=by
 intro pins s σ H xs us Q I r h;obtain⟨a,ns,rfl,ha,hne,q⟩:=h;obtain⟨u,rfl,ru⟩:=dm r;cases ru;have hpos:0<ns.length:=List.length_pos_iff.mpr hne
 have core:∀(its:List Value)(o:Obj),IntsAre its ns->∀v s',its.toArray[argBest (fun i j=>decide (ns.getD i 0<ns.getD j 0)) (its.toArray.size-1)]?=some v->Moved [s.heap.objs.size] (fun a b=>b=a) {s with heap:=s.heap.push o} s'->EP X pins σ Q v s':=by
  intro its o hI v s' hv hm;obtain⟨t,rfl,hi⟩:=iL hI hv;have hsz:its.toArray.size-1=ns.length-1:=by rw[G7,hI.length]
  rw[hsz]at hi⊢;obtain⟨b1,b2⟩:=argBest_lt (fun i=>ns.getD i 0) (ns.length-1);obtain⟨hh,g,d,tk,os⟩:=s';have e1:g=s.gens:=hm.gens;have e2:d=s.drawn:=hm.drawn;have e3:os=s.os:=hm.os;subst e1 e2 e3;refine⟨.int _,H,I.fresh_it (o:=o) (h':=hh) (tk:=tk) fun b ob hb e=>hm.heap b ob hb e,⟨t,rfl⟩,q _ (qj hi) fun j hj=>?_⟩;obtain⟨i,hi',rfl⟩:=p8 hj;exact b2 i (by omega)
 have cmp:∀(its:List Value),IntsAre its ns->CmpOf X.prog X.w X.A.in1 .Lt (fun i v=>its.toArray[i]?=some v) (fun i j=>decide (ns.getD i 0<ns.getD j 0)):=by
  intro its hI i j vi vj s' Q' E' h1 h2 hQ;obtain⟨t1,rfl,_⟩:=iL hI h1;obtain⟨t2,rfl,_⟩:=iL hI h2;exact(PyProof.Rows.lt_int hQ:wpAny _ _ (compareOp .Lt _ _) _ _ _)
 rcases ha with ha|ha
 ·obtain ⟨its, rv, pl, hz⟩ := I.list ha;have hI:IntsAre its ns:=dM rv
  have hne:a≠s.heap.objs.size:=by
   obtain⟨o,n,e,_⟩:=pl;exact Gw (Gs e)
  refine call_min_walkS (Jt pl.isList ?_);refine⟨s.heap.objs.size,[s.heap.objs.size,a],[s.heap.objs.size],_,_,_,_,_,rfl,(Walks.list (A:=X.A.in1) (show X.A.in1.handled=none from I.ok.hd hc) _ a hne its.toArray).toS,⟨⟨_,GZ _ rfl,rfl,rfl⟩,pl.isList.at fun o e=>GY _ e⟩,fun b hb=>?_,by simp[hI.length,hpos],cmp its hI,fun v s' hv hm=>core its _ hI v s' hv hm⟩;obtain⟨o,n,e,_⟩:=pl;have:=Gs e;simp only[GE,Iq,Ir]at hb;show b<(s.heap.push _).objs.size;rw[JK];rcases hb with rfl|rfl
  ·exact HW _
  ·exact HX this
 ·obtain ⟨its, rv, pl, hz⟩ := I.tuple ha;have hI:IntsAre its ns:=dM rv
  have hne:a≠s.heap.objs.size:=by
   obtain⟨o,e,_⟩:=pl;exact Gw (Gs e)
  refine call_min_walkS (Ip (show s.heap.IsTuple a its.toArray from pl) ?_);refine⟨s.heap.objs.size,[s.heap.objs.size,a],[s.heap.objs.size],_,_,_,_,_,rfl,(Walks.tuple (A:=X.A.in1) (show X.A.in1.handled=none from I.ok.hd hc) _ a hne its.toArray).toS,⟨⟨_,GZ _ rfl,rfl,rfl⟩,(show s.heap.IsTuple a its.toArray from pl).at fun o e=>GY _ e⟩,fun b hb=>?_,by simp[hI.length,hpos],cmp its hI,fun v s' hv hm=>core its _ hI v s' hv hm⟩;obtain⟨o,e,_⟩:=pl;have:=Gs e;simp only[GE,Iq,Ir]at hb;show b<(s.heap.push _).objs.size;rw[JK];rcases hb with rfl|rfl
  ·exact HW _
  ·exact HX this
theorem ve (hc:X.calm=true):bM X (.builtin "max") (AD X.K):=by
 intro pins s σ H xs us Q I r h;obtain⟨a,ns,rfl,ha,hne,q⟩:=h;obtain⟨u,rfl,ru⟩:=dm r;cases ru;have hpos:0<ns.length:=List.length_pos_iff.mpr hne
 have core:∀(its:List Value)(o:Obj),IntsAre its ns->∀v s',its.toArray[argBest (fun i j=>decide (ns.getD i 0>ns.getD j 0)) (its.toArray.size-1)]?=some v->Moved [s.heap.objs.size] (fun a b=>b=a) {s with heap:=s.heap.push o} s'->EP X pins σ Q v s':=by
  intro its o hI v s' hv hm;obtain⟨t,rfl,hi⟩:=iL hI hv;have hsz:its.toArray.size-1=ns.length-1:=by rw[G7,hI.length]
  rw[hsz]at hi⊢;obtain⟨b1,b2⟩:=argBest_gt (fun i=>ns.getD i 0) (ns.length-1);obtain⟨hh,g,d,tk,os⟩:=s';have e1:g=s.gens:=hm.gens;have e2:d=s.drawn:=hm.drawn;have e3:os=s.os:=hm.os;subst e1 e2 e3;refine⟨.int _,H,I.fresh_it (o:=o) (h':=hh) (tk:=tk) fun b ob hb e=>hm.heap b ob hb e,⟨t,rfl⟩,q _ (qj hi) fun j hj=>?_⟩;obtain⟨i,hi',rfl⟩:=p8 hj;exact b2 i (by omega)
 have cmp:∀(its:List Value),IntsAre its ns->CmpOf X.prog X.w X.A.in1 .Gt (fun i v=>its.toArray[i]?=some v) (fun i j=>decide (ns.getD i 0>ns.getD j 0)):=by
  intro its hI i j vi vj s' Q' E' h1 h2 hQ;obtain⟨t1,rfl,_⟩:=iL hI h1;obtain⟨t2,rfl,_⟩:=iL hI h2;exact(PyProof.Rows.gt_int hQ:wpAny _ _ (compareOp .Gt _ _) _ _ _)
 rcases ha with ha|ha
 ·obtain ⟨its, rv, pl, hz⟩ := I.list ha;have hI:IntsAre its ns:=dM rv
  have hne:a≠s.heap.objs.size:=by
   obtain⟨o,n,e,_⟩:=pl;exact Gw (Gs e)
  refine call_max_walkS (Jt pl.isList ?_);refine⟨s.heap.objs.size,[s.heap.objs.size,a],[s.heap.objs.size],_,_,_,_,_,rfl,(Walks.list (A:=X.A.in1) (show X.A.in1.handled=none from I.ok.hd hc) _ a hne its.toArray).toS,⟨⟨_,GZ _ rfl,rfl,rfl⟩,pl.isList.at fun o e=>GY _ e⟩,fun b hb=>?_,by simp[hI.length,hpos],cmp its hI,fun v s' hv hm=>core its _ hI v s' hv hm⟩;obtain⟨o,n,e,_⟩:=pl;have:=Gs e;simp only[GE,Iq,Ir]at hb;show b<(s.heap.push _).objs.size;rw[JK];rcases hb with rfl|rfl
  ·exact HW _
  ·exact HX this
 ·obtain ⟨its, rv, pl, hz⟩ := I.tuple ha;have hI:IntsAre its ns:=dM rv
  have hne:a≠s.heap.objs.size:=by
   obtain⟨o,e,_⟩:=pl;exact Gw (Gs e)
  refine call_max_walkS (Ip (show s.heap.IsTuple a its.toArray from pl) ?_);refine⟨s.heap.objs.size,[s.heap.objs.size,a],[s.heap.objs.size],_,_,_,_,_,rfl,(Walks.tuple (A:=X.A.in1) (show X.A.in1.handled=none from I.ok.hd hc) _ a hne its.toArray).toS,⟨⟨_,GZ _ rfl,rfl,rfl⟩,(show s.heap.IsTuple a its.toArray from pl).at fun o e=>GY _ e⟩,fun b hb=>?_,by simp[hI.length,hpos],cmp its hI,fun v s' hv hm=>core its _ hI v s' hv hm⟩;obtain⟨o,e,_⟩:=pl;have:=Gs e;simp only[GE,Iq,Ir]at hb;show b<(s.heap.push _).objs.size;rw[JK];rcases hb with rfl|rfl
  ·exact HW _
  ·exact HX this
end
def DT:List Int->Int
 |[]=>0
 |x::r=>r.foldl min x
def DU:List Int->Int
 |[]=>0
 |x::r=>r.foldl max x
theorem uZ(r:List Int):∀x:Int,(r.foldl min x=x\/r.foldl min x∈r)/\r.foldl min x<=x/\∀j∈r,r.foldl min x<=j:=by
 induction r with
 |nil=>intro x;exact⟨.inl rfl,Int.le_refl _,fun j hj=>by simp at hj⟩
 |cons y r ih=>
  intro x;obtain⟨h1,h2,h3⟩:=ih (min x y);rw[HL];have m1:min x y<=x:=Int.min_le_left _ _;have m2:min x y<=y:=Int.min_le_right _ _;refine⟨?_,by omega,fun j hj=>?_⟩
  ·rcases h1 with h | h
   ·rcases (by omega : min x y = x \/ min x y = y) with e | e
    ·exact .inl (by omega)
    ·exact .inr (by rw[h,e];exact GC)
   ·exact .inr (GD _ h)
  ·rcases GE.mp hj with e | e
   ·rw[e];omega
   ·exact h3 j e
theorem u4(r:List Int):∀x:Int,(r.foldl max x=x\/r.foldl max x∈r)/\x<=r.foldl max x/\∀j∈r,j<=r.foldl max x:=by
 induction r with
 |nil=>intro x;exact⟨.inl rfl,Int.le_refl _,fun j hj=>by simp at hj⟩
 |cons y r ih=>
  intro x;obtain⟨h1,h2,h3⟩:=ih (max x y);rw[HL];have m1:x<=max x y:=Int.le_max_left _ _;have m2:y<=max x y:=Int.le_max_right _ _;refine⟨?_,by omega,fun j hj=>?_⟩
  ·rcases h1 with h | h
   ·rcases (by omega : max x y = x \/ max x y = y) with e | e
    ·exact .inl (by omega)
    ·exact .inr (by rw[h,e];exact GC)
   ·exact .inr (GD _ h)
  ·rcases GE.mp hj with e | e
   ·rw[e];omega
   ·exact h3 j e
theorem zX{ns:List Int}{m:Int}(h:m∈ns)(hm:∀j∈ns,m<=j):m=DT ns:=by
 cases ns with
 |nil=>simp at h
 |cons x r=>
  obtain⟨h1,h2,h3⟩:=uZ r x
  have a1:m<=r.foldl min x:=by
   rcases h1 with e|e
   ·rw[e];exact hm x GC
   ·exact hm _ (GD _ e)
  have a2:r.foldl min x<=m:=by
   rcases GE.mp h with e|e
   ·rw[e];exact h2
   ·exact h3 m e
  exact J8 a1 a2
theorem zY{ns:List Int}{m:Int}(h:m∈ns)(hm:∀j∈ns,j<=m):m=DU ns:=by
 cases ns with
 |nil=>simp at h
 |cons x r=>
  obtain⟨h1,h2,h3⟩:=u4 r x
  have a1:r.foldl max x<=m:=by
   rcases h1 with e|e
   ·rw[e];exact hm x GC
   ·exact hm _ (GD _ e)
  have a2:m<=r.foldl max x:=by
   rcases GE.mp h with e|e
   ·rw[e];exact h2
   ·exact h3 m e
  exact J8 a2 a1
def yw(d:D)(μ:aw):Option (List Int):=match d with
 |.tup xs=>ig xs
 |.frz xs=>ig xs
 |.obj n=>match μ[n]? with
  |some (.lst xs)=>ig xs
  |_=>none
 |_=>none
theorem sY{p:Pa}{H:Hp}{α:List Addr}{μ:aw}{d:D}{v:V}{ns:List Int}(S:p.S H α μ)(r:p.R H α d v)(h:yw d μ=some ns):∃a,v=.ref a/\(dW p.K H a (ns.map V.int)\/eD p.K H a (ns.map V.int)):=by
 unfold yw at h;split at h
 ·obtain⟨a,us,rfl,h1,rr⟩:=aF.mp r;rw[dQ h]at rr;exact⟨a,rfl,.inr (by rw[<- rr.ints];exact h1)⟩
 ·obtain⟨a,us,rfl,h1,rr⟩:=a9.mp r;rw[dQ h]at rr;exact⟨a,rfl,.inl (by rw[<- rr.ints];exact h1.sq)⟩
 ·split at h
  ·rename_i xs hx;obtain⟨a,us,rfl,a1,h1,rr⟩:=b6 S r hx;rw[dQ h]at rr;exact⟨a,rfl,.inl (by rw[<- rr.ints];exact dW.of h1)⟩
  ·cases h
 ·cases h
def uf(ds:List D)(μ:aw):af D:=match ds with
 |[d]=>match yw d μ with
  |some (n::ns)=>.ok (.int (DT (n::ns))) μ
  |_=>.bad
 |ds=>v7 ds μ
def o7(ds:List D)(μ:aw):af D:=match ds with
 |[d]=>match yw d μ with
  |some (n::ns)=>.ok (.int (DU (n::ns))) μ
  |_=>.bad
 |ds=>v8 ds μ
theorem CG{p:Pa}:qO p uf (fun xs H Q=>AC p.K xs H Q\/∃i j,xs=[.int i,.int j]/\Q (.int (if j<i then j else i)) H):=by
 intro ds vs H α μ Q S r P;unfold uf at P;split at P
 ·rename_i d;split at P
  ·rename_i n ns hns;obtain⟨v,rfl,r1⟩:=r.one;obtain⟨a,rfl,h1⟩:=sY S r1 hns;refine .inl ⟨a,n::ns,rfl,h1,by simp,fun m hm hj=>?_⟩;rw[zX hm hj];exact P.now S _ (aj.mpr rfl)
  ·exact P.elim
 ·exact .inr (zO ds vs H α μ Q S r P)
theorem CH{p:Pa}:qO p o7 (fun xs H Q=>AD p.K xs H Q\/∃i j,xs=[.int i,.int j]/\Q (.int (if j>i then j else i)) H):=by
 intro ds vs H α μ Q S r P;unfold o7 at P;split at P
 ·rename_i d;split at P
  ·rename_i n ns hns;obtain⟨v,rfl,r1⟩:=r.one;obtain⟨a,rfl,h1⟩:=sY S r1 hns;refine .inl ⟨a,n::ns,rfl,h1,by simp,fun m hm hj=>?_⟩;rw[zY hm hj];exact P.now S _ (aj.mpr rfl)
  ·exact P.elim
 ·exact .inr (zP ds vs H α μ Q S r P)
section
variable{X:Cx}
end
def ip(o1 o2:D->D->aw->af D)(fa fb fc:ME):ME:=fun ρ μ=>(fa ρ μ).bind fun a μ1=>(fb ρ μ1).bind fun b μ2=>(o1 a b μ2).bind fun z μ3=>(vz z μ3).bind fun k μ4=>
 if k=true then (fc ρ μ4).bind fun c μ5=>o2 b c μ5 else .ok (.bl false) μ4
section
variable{X:Cx}{p:Pa}{a b c d:Expr}{ta tb tc td:TE}{fa fb fc fd:ME}{pos:Pos}{op op' op'':CmpOp}{r r' r'':R2}{o1 o2 o3:D->D->aw->af D}
theorem mw(hd1:mM p o1 r)(hd2:mM p o2 r'){σ:St}{H:Hp}{Q:VK}(h:tD p (ip o1 o2 fa fb fc) σ H Q):rf r r' (tD p fa) (tD p fb) (tD p fc) σ H Q:=by
 obtain⟨α,ρ,μ,S,R,P⟩:=h;refine⟨α,ρ,μ,S,R,(aB.bind P).imp fun x μ1 H1 α1 X1 S1 P1 v rv=>⟨α1,ρ,μ1,S1,R.mono X1,(aB.bind P1).imp fun y μ2 H2 α2 X2 S2 P2 u ru=>?_⟩⟩;refine hd1 x y v u H2 α2 μ2 _ S2 (rv.mono X2) ru ((aB.bind P2).imp fun z μ3 H3 α3 X3 S3 P3 w rw'=>?_);obtain⟨k,_,e,q⟩:=kg (aB.bind P3) rw' S3;refine⟨k,e,?_⟩;cases k with
 |true=>
  rw[Gq rfl]at q⊢;exact⟨α3,ρ,μ3,S3,((R.mono X1).mono X2).mono X3,(aB.bind q).imp fun c μ5 H5 α5 X5 S5 P5 t rt=>hd2 y c u t H5 α5 μ5 Q S5 ((ru.mono X3).mono X5) rt P5⟩
 |false=>rw[Gr G6]at q⊢;exact q.now S3 _ (aQ.mpr rfl)
theorem xq(ho:gf X (compareOp op) r)(ho':gf X (compareOp op') r')(hd1:mM p o1 r)(hd2:mM p o2 r')(ha:PE X a (tD p fa))(hb:PE X b (tD p fb))(hc:PE X c (tD p fc))
  (hm:lastMarks [op,op'] [b,c]=false):PE X (.Compare a [op,op'] [b,c] pos) (tD p (ip o1 o2 fa fb fc)):=(xJ ho ho' ha hb hc hm).weak fun σ H Q h=>mw hd1 hd2 h
theorem uo{t:TE}{f:ME}(hk:∀σ H Q,tD p f σ H Q->t σ H Q){σ:St}{H:Hp}{Q:Bool->Hp->Prop}(h:gv p (j6 f) σ H Q):vS t σ H Q:=by
 obtain⟨α,ρ,μ,S,R,P⟩:=h;refine hk σ H _ ⟨α,ρ,μ,S,R,(aB.bind P).imp fun d μ1 H1 α1 X1 S1 P1 v rv=>?_⟩;obtain⟨k,_,e,q⟩:=kg P1 rv S1;exact⟨k,e,q⟩
theorem w6(ho:gf X (compareOp op) r)(ho':gf X (compareOp op') r')(hd1:mM p o1 r)(hd2:mM p o2 r')(ha:PE X a (tD p fa))(hb:PE X b (tD p fb))(hc:PE X c (tD p fc))
  (hm:lastMarks [op,op'] [b,c]=false):PT X (.Compare a [op,op'] [b,c] pos) (gv p (j6 (ip o1 o2 fa fb fc))):=(xB ho ho' ha hb hc hm).weak fun σ H Q h=>uo (fun σ H Q h=>mw hd1 hd2 h) h
def vG(d:D)(μ:aw):af Bool:=match d with
 |.non=>.ok false μ
 |.bl b=>.ok b μ
 |.int i=>.ok (i != 0) μ
 |.str x=>if x.length<=sizeLine then .ok ((x.length:Int) != 0) μ else .bad
 |.tup xs=>.ok (!xs.isEmpty) μ
 |.frz xs=>.ok (!xs.isEmpty) μ
 |.obj n=>match μ[n]? with
  |some (.lst xs)=>.ok (!xs.isEmpty) μ
  |_=>.bad
def jA(f:ME):MT:=fun ρ μ=>(f ρ μ).bind vG
theorem Reps.isEmpty{K:W.Frag}{H:Hp}{α:List Addr}{xs:List D}{vs:List V}(r:Reps K H α xs vs):vs.isEmpty=xs.isEmpty:=by
 have:=r.length;cases xs with
 |nil=>have h:vs=[]:=J5 (by simpa using this);rw[h];rfl
 |cons x r=>cases vs with
  |nil=>simp at this
  |cons _ _=>rfl
theorem yM{d:D}{μ:aw}{H:Hp}{α:List Addr}{v:V}{R:Bool->aw->Hp->List Addr->Prop}(S:p.S H α μ)(r:p.R H α d v)(P:aB p H α (vG d μ) R):∃k,Bh p.K v H k/\R k μ H α:=by
 unfold vG at P;split at P
 ·rw[bA.mp r];exact⟨false,rfl,P.now S⟩
 ·rename_i b;rw[aQ.mp r];exact⟨b,rfl,P.now S⟩
 ·rename_i i;rw[aj.mp r];exact⟨_,rfl,P.now S⟩
 ·rename_i x;split at P
  ·rename_i hl;rw[aD.mp r];exact⟨_,⟨hl,rfl⟩,P.now S⟩
  ·exact P.elim
 ·obtain⟨a,vs,rfl,h1,h2⟩:=aF.mp r;exact⟨_,.inr (.inl ⟨vs,h1,by rw[h2.isEmpty]⟩),P.now S⟩
 ·obtain⟨a,vs,rfl,h1,h2⟩:=a9.mp r;exact⟨_,.inl ⟨vs,h1.sq,by rw[h2.isEmpty]⟩,P.now S⟩
 ·split at P
  ·rename_i xs hx;obtain⟨a,us,rfl,a1,h1,rr⟩:=b6 S r hx;exact⟨_,.inl ⟨us,dW.of h1,by rw[rr.isEmpty]⟩,P.now S⟩
  ·exact P.elim
theorem w4{e:Expr}{f:ME}(hK:X.K=p.K)(h:PE X e (tD p f))(he:∀whole,isTrue e X.env whole=(do let v <- whole;standAt e.pos;holding [v] (truthy v))):PT X e (gv p (jA f)):=
 (xA h he).weak fun σ H Q ⟨α, ρ, μ, S, R, P⟩ => ⟨α, ρ, μ, S, R, (aB.bind P).imp fun d μ1 H1 α1 X1 S1 P1 v rv => by
  rw[hK];exact yM S1 rv P1⟩
def Dr(p:Pa)(f:D->List D->aw->af D)(r:V->List V->Hp->VK->Prop):Prop:=∀d ds v vs H α μ Q,p.S H α μ->p.R H α d v->p.Rs H α ds vs->aB p H α (f d ds μ) (RV p Q)->r v vs H Q
def vD(d:D)(μ:aw):Bool:=match d with
 |.obj n=>match μ[n]? with
  |some (.lst _)=>true
  |_=>false
 |_=>false
def yo(f:D->List D->aw->af D)(fo:ME)(fr:MA):ME:=fun ρ μ=>(fo ρ μ).bind fun o μ1=>if vD o μ1=true then (fr ρ μ1).bind fun ds μ2=>f o ds μ2 else .bad
theorem C5 {d:D}{μ:aw}{H:Hp}{α:List Addr}{v:V} (S:p.S H α μ) (r:p.R H α d v) (h:vD d μ=true):Fb p.K "list" v H:=by
 unfold vD at h;split at h
 ·split at h
  ·rename_i xs hx;obtain⟨a,us,rfl,a1,h1,rr⟩:=b6 S r hx;exact .inl ⟨rfl,us,dW.of h1⟩
  ·cases h
 ·cases h
theorem Ay {o e:Expr}{es:List Expr}{fo:ME}{fr:MA}{name:Str}{apos cpos:Pos}{id:String}{rr:V->List V->Hp->VK->Prop}{f:D->List D->aw->af D} (hK:X.K=p.K) (slot:Slot "list" name id) (hty:typeOf (.builtin id)=pure (.type "method_descriptor")) (hm:DB X id rr) (hf:Dr p f rr)
  (ho:PE X o (tD p fo)) (ha:PA X (e::es) (j5 p fr)) (hbase:attributeBase o name X.env (eval o X.env)=eval o X.env)
  (hfew : ((backTo cpos (starEach (e :: es) X.env)).all (fun x => !x.1) && (backToKw cpos (keywordEach [] X.env)).all (fun x => x.1.isSome)
   && decide ((e::es).length+([]:List Keyword).length+(if ([]:List Keyword).isEmpty then 0 else 1)<30))=true)
  (hline:(apos.endLine == cpos.line)=true) (hs:starEach (e::es) X.env=(false,eval e X.env)::starEach es X.env) (hplain:(backTo cpos (starEach es X.env)).any (·.1)=false) :
  PE X (.Call (.Attribute o name apos) (e::es) [] cpos) (tD p (yo f fo fr)):=
 (AJ PySem.F.plainAttrs_list slot hty hm ho ha hbase hfew hline hs hplain).weak fun σ H Q ⟨α, ρ, μ, S, R, P⟩ => ⟨α, ρ, μ, S, R, (aB.bind P).imp fun d μ1 H1 α1 X1 S1 P1 v rv => by
  by_cases hl:vD d μ1=true
  ·rw[Gq hl]at P1;rw[hK];exact⟨C5 S1 rv hl,α1,ρ,μ1,S1,R.mono X1,(aB.bind P1).imp fun ds μ2 H2 α2 X2 S2 P2 vs rs=>hf d ds v vs H2 α2 μ2 Q S2 (rv.mono X2) rs P2⟩
  ·rw[Gr hl]at P1;exact P1.elim⟩
def fw(d:D)(ds:List D)(μ:aw):af D:=match d,ds with
 |.obj n,[y]=>match μ[n]? with
  |some (.lst xs)=>if xs.length<sizeLine then .ok .non (μ.set n (.lst (xs++[y]))) else .bad
  |_=>.bad
 |_,_=>.bad
theorem zW:Dr p fw tm:=by
 intro d ds v vs H α μ Q S rd rs P;unfold fw at P;split at P
 ·rename_i n y;split at P
  ·rename_i xs hx;split at P
   ·rename_i hb;obtain⟨a,us,rfl,a1,h1,rr⟩:=b6 S rd hx;obtain⟨w,rfl,rw'⟩:=rs.one;have q:=rr.snoc rw';exact⟨a,us,w,rfl,rfl,h1,by rw[rr.length];exact hb,P _ _ (gN h1) (S.put hx a1 h1 q) _ (bA.mpr rfl)⟩
   ·exact P.elim
  ·exact P.elim
 ·exact P.elim
end
abbrev dA(K:W.Frag)(w:World):Pa:=⟨K,w,fun _ _ _ _=>False⟩
abbrev iX:D->D->aw->af D:=dI fun i j=>.int (i-j)
noncomputable abbrev pG:D->D->aw->af D:=A1 yD fun i j=>.int (i / j)
noncomputable abbrev o6:D->D->aw->af D:=A1 (fun _ j=>0<j) fun i j=>.int (i%j)
noncomputable abbrev Bc:D->D->aw->af D:=A1 Bk fun i j=>.int (i^j.toNat)
def n8(N:List Str)(sc scope:Scope)(Nc:List Str)(cap:List (Option Nat)):Bool:=
 (scope.kind == .function)&&scope.names.all (fun y=>scope.names.lookup y.1 == some y.2) &&
 scope.names.all (fun y=>y.2 != .free || sc.names.lookup y.1 == some .cell || sc.names.lookup y.1 == some .free)&&eG N {scope:=sc,globals:=0,builtins:=0,locals:=0,cells:=[],qual:="",func:=none,code:=.none,frame:=none} scope Nc cap
theorem ku{N:List Str}{e1 e2:Env}{scope:Scope}:∀{Nc:List Str}{cap:List (Option Nat)},eG N e1 scope Nc cap=eG N e2 scope Nc cap
 |[],[]=>rfl
 |_::_,[]=>rfl
 |[],_::_=>rfl
 |_::Nc,none::cap=>by unfold eG;exact ku
 |x::Nc,some j::cap=>by unfold eG;rw[ku (Nc:=Nc) (cap:=cap) (e1:=e1) (e2:=e2)]
theorem nK{X:Cx}{N:List Str}{sc scope:Scope}{Nc:List Str}{cap:List (Option Nat)}(hN:X.N=N)(hk:∀x,(sc.names.lookup x=some .cell\/sc.names.lookup x=some .free)->X.env.kindOf x=some .cell\/X.env.kindOf x=some .free)(h:n8 N sc scope Nc cap=true):bB X.N X.env scope Nc cap:=by
 unfold n8 at h;simp only[HC]at h;obtain⟨⟨⟨h1,h3⟩,h4⟩,h5⟩:=h;refine⟨eq_of_beq h1,fun y hy=>?_,fun y hy hf=>?_,?_⟩
 ·exact eq_of_beq (Jd.mp h3 y hy)
 ·have := Jd.mp h4 y hy;simp only[Bool.or_eq_true,hf]at this;refine hk _ ?_;rcases this with (z|z)|z
  ·exact absurd z (by decide)
  ·exact .inl (eq_of_beq z)
  ·exact .inr (eq_of_beq z)
 ·rw[hN,ku];exact h5
theorem cw{X:Cx}{N:List Str}{sc scope:Scope}{Nc:List Str}{cap:List (Option Nat)}(hN:X.N=N)(hs:X.env.scope=sc)(h:n8 N sc scope Nc cap=true):bB X.N X.env scope Nc cap:=
 nK hN (fun x hx=>by subst hs;exact hx) h
theorem Aj{X:Cx}{env:Env}{N:List Str}{sc scope:Scope}{Nc:List Str}{cap:List (Option Nat)}(hN:X.N=N)(hs:X.env.scope=relabel sc env)(h:n8 N sc scope Nc cap=true):bB X.N X.env scope Nc cap:=
 nK hN (fun x hx=>by
  have e:X.env.kindOf x=(sc.names.lookup x).map fun k=>if (k == NameKind.free&&env.scope.kind == .function&&env.kindOf x == some .cell) then NameKind.cell else k:=by
   have:X.env.kindOf x=(relabel sc env).names.lookup x:=by rw[<- hs];rfl
   rw[this];exact fO
  rw[e];rcases hx with z|z
  ·rw[z];exact .inl rfl
  ·rw [z];show some (if _ then _ else _)=_\/some (if _ then _ else _)=_;split
   ·exact .inl rfl
   ·exact .inr rfl) h
structure Bx(P:Prop):Prop where
 h:P
section
variable{X:Cx}{p:Pa}{a b c d e:Expr}{es:List Expr}{fa fb fc fd f:ME}{fr:MA}{pos:Pos}{ft gt:MT}
theorem aM (i:Nat) {x:Str} (hN:X.N[i]?=some x:=by rfl) (hv:Fi X.env.scope x:=by first|exact Or.inl rfl|exact Or.inr (Or.inl rfl)|exact Or.inr (Or.inr rfl)) (hd:(x == ("__debug__" : Str))=false:=by decide) (hcd:(x == ("__classdict__" : Str))=false:=by decide):Bx (PE X (.Name x pos) (tD p (ai i))):=⟨BS (Ci hN hv hd hcd)⟩
theorem cK{i j}:Bx (PE X (.Constant (.int i) j pos) (tD p (cC (.int i)))):=⟨t6 Cp fun _ _=>aj.mpr rfl⟩
theorem Dv{i j}:Bx (PE X (.Constant (.bool i) j pos) (tD p (cC (.bl i)))):=⟨t6 Er fun _ _=>aQ.mpr rfl⟩
theorem E9{j}:Bx (PE X (.Constant .none j pos) (tD p (cC .non))):=⟨t6 Cn fun _ _=>bA.mpr rfl⟩
theorem vw{x j}:Bx (PE X (.Constant (.str x) j pos) (tD p (cC (.str x)))):=⟨t6 wB fun _ _=>aD.mpr rfl⟩
theorem DD {x:Str}{i:Int} (h:∃t,X.mg x=some (.int i t)) (hg:Gl X x:=by rfl) (hd:(x == ("__debug__" : Str))=false:=by decide):Bx (PE X (.Name x pos) (tD p (cC (.int i)))):=Bx.mk (by
 obtain⟨t,ht⟩:=h
 exact t6 (tx (v:=.int i) hg ht ⟨t,rfl⟩ hd) fun _ _=>aj.mpr rfl)
theorem dk(ha:Bx (PE X a (tD p fa)))(hb:Bx (PE X b (tD p fb)))(hK:X.K=p.K:=by rfl):Bx (PE X (.BinOp a .Add b pos) (tD p (aE cm fa fb))):=⟨ka (r:=vX p.K) (hK ▸ zN) CS ha.h hb.h⟩
theorem lK(ha:Bx (PE X a (tD p fa)))(hb:Bx (PE X b (tD p fb))):Bx (PE X (.BinOp a .Sub b pos) (tD p (aE iX fa fb))):=⟨ka Cs (FE fun _ _ _ _=>aj.mpr rfl) ha.h hb.h⟩
theorem As(ha:Bx (PE X a (tD p fa)))(hb:Bx (PE X b (tD p fb))):Bx (PE X (.BinOp a .Mult b pos) (tD p (aE qW fa fb))):=⟨ka zI CM ha.h hb.h⟩
theorem wd(ha:Bx (PE X a (tD p fa)))(hb:Bx (PE X b (tD p fb))):Bx (PE X (.BinOp a .FloorDiv b pos) (tD p (aE pG fa fb))):=⟨ka zJ (vY fun _ _ _ _=>aj.mpr rfl) ha.h hb.h⟩
theorem pf(ha:Bx (PE X a (tD p fa)))(hb:Bx (PE X b (tD p fb))):Bx (PE X (.BinOp a .Mod b pos) (tD p (aE o6 fa fb))):=⟨ka Cy (vY fun _ _ _ _=>aj.mpr rfl) ha.h hb.h⟩
theorem D0(ha:Bx (PE X a (tD p fa)))(hb:Bx (PE X b (tD p fb))):Bx (PE X (.BinOp a .Pow b pos) (tD p (aE Bc fa fb))):=⟨ka Cu (vY fun _ _ _ _=>aj.mpr rfl) ha.h hb.h⟩
structure jf(X:Cx)(p:Pa)(op:CmpOp)(o:D->D->aw->af D):Prop where
 ex:∃r,gf X (compareOp op) r/\mM p o r
theorem ub(hu:X.A.units+64<cLine)(hK:X.K=p.K:=by rfl):jf X p .Eq (lh false):=⟨vJ p.K false,hK ▸ CB hu,AL⟩
theorem ua(hu:X.A.units+64<cLine)(hK:X.K=p.K:=by rfl):jf X p .NotEq (lh true):=⟨vJ p.K true,hK ▸ Cv hu,AL⟩
theorem FG(hu:X.A.units+64<cLine)(hK:X.K=p.K:=by rfl):jf X p .In (vy false):=⟨vI p.K false,hK ▸ CA hu,AK⟩
theorem Ez(hu:X.A.units+64<cLine)(hK:X.K=p.K:=by rfl):jf X p .NotIn (vy true):=⟨vI p.K true,hK ▸ uK hu,AK⟩
theorem AN:jf X p .Is (vM false):=⟨_,Cz,CO⟩
theorem ie{op:CmpOp}(hu:X.A.units+64<cLine)(ho:pq op=true:=by rfl)(hK:X.K=p.K:=by rfl):jf X p op (gm op):=⟨vW p.K op,hK ▸ zK hu ho,CQ⟩
variable{op op' op'':CmpOp}{o o' o'':D->D->aw->af D}
theorem kB(k:jf X p op o)(ha:Bx (PE X a (tD p fa)))(hb:Bx (PE X b (tD p fb)))(hm:behindInMarks op b=false:=by rfl):Bx (PE X (.Compare a [op] [b] pos) (tD p (aE o fa fb))):=Bx.mk (let ⟨_,h1,h2⟩:=k.ex;BY h1 h2 ha.h hb.h hm)
theorem dP(k:jf X p op o)(ha:Bx (PE X a (tD p fa)))(hb:Bx (PE X b (tD p fb)))(hm:behindInMarks op b=false:=by rfl):Bx (PT X (.Compare a [op] [b] pos) (gv p (j6 (aE o fa fb)))):=Bx.mk (let ⟨_,h1,h2⟩:=k.ex;BC h1 h2 ha.h hb.h hm)
theorem D2(k:jf X p op o)(k':jf X p op' o')(ha:Bx (PE X a (tD p fa)))(hb:Bx (PE X b (tD p fb)))(hc:Bx (PE X c (tD p fc)))(hm:lastMarks [op,op'] [b,c]=false:=by rfl):Bx (PE X (.Compare a [op,op'] [b,c] pos) (tD p (ip o o' fa fb fc))):=Bx.mk (let ⟨_,h1,h2⟩:=k.ex;let ⟨_,h3,h4⟩:=k'.ex;xq h1 h3 h2 h4 ha.h hb.h hc.h hm)
theorem D3(k:jf X p op o)(k':jf X p op' o')(ha:Bx (PE X a (tD p fa)))(hb:Bx (PE X b (tD p fb)))(hc:Bx (PE X c (tD p fc)))(hm:lastMarks [op,op'] [b,c]=false:=by rfl):Bx (PT X (.Compare a [op,op'] [b,c] pos) (gv p (j6 (ip o o' fa fb fc)))):=Bx.mk (let ⟨_,h1,h2⟩:=k.ex;let ⟨_,h3,h4⟩:=k'.ex;w6 h1 h3 h2 h4 ha.h hb.h hc.h hm)
theorem yj(h:Bx (PE X e (tD p f)))(he:∀whole,isTrue e X.env whole=(do let v <- whole;standAt e.pos;holding [v] (truthy v)):=by intro _;rfl)(hK:X.K=p.K:=by rfl):Bx (PT X e (gv p (jA f))):=⟨w4 hK h.h he⟩
theorem D4{rest:List Expr}(ha:Bx (PT X a (gv p ft)))(hb:Bx (PW X (.BoolOp .And (b::rest) pos) (gv p gt))):Bx (PW X (.BoolOp .And (a::b::rest) pos) (gv p (sI ft gt))):=⟨Bw ha.h hb.h⟩
theorem kU{rest:List Expr}(ha:Bx (PT X a (gv p ft)))(hb:Bx (PW X (.BoolOp .Or (b::rest) pos) (gv p gt))):Bx (PW X (.BoolOp .Or (a::b::rest) pos) (gv p (je ft gt))):=⟨Ed ha.h hb.h⟩
theorem Bu(ha:Bx (PT X a (gv p ft))):Bx (PW X (.BoolOp .And [a] pos) (gv p ft)):=⟨zm ha.h⟩
theorem lL(ha:Bx (PT X a (gv p ft))):Bx (PW X (.BoolOp .Or [a] pos) (gv p ft)):=⟨B6 ha.h⟩
theorem jE{op}(ha:Bx (PE X a (tD p fa))):Bx (PE X (.BoolOp op [a] pos) (tD p fa)):=⟨Ck ha.h⟩
def wD:Expr->Bool
 |.Starred _ _=>false
 |_=>true
theorem ur{a:Expr}{es:List Expr}{env:Env}(h:wD a=true):starEach (a::es) env=(false,eval a env)::starEach es env:=by
 cases a <;> first|rfl|cases h
theorem aZ(ha:Bx (PE X a (tD p fa)))(hr:Bx (PA X es (j5 p fr)))(hs:wD a=true:=by rfl):Bx (PA X (a::es) (j5 p (ah fa fr))):=⟨zj ha.h hr.h (ur hs)⟩
theorem br  : Bx (PA X [] (j5 p aG)):=⟨B0⟩
theorem aV {k n:Nat}{x:Str}{F:List D->aw->af D}{px:Pos} (h:dB X.prog X.w X.K X.mg X.base p k x n F) (hr:fS k X.A) (ha:Bx (PA X (a::es) (j5 p fr))) (hg:Gl X x:=by rfl) (hdb:(x == ("__debug__" : Str))=false:=by decide) (he:starEach (a::es) X.env=(false,eval a X.env)::starEach es X.env:=by rfl) (hpl:(backTo pos (starEach es X.env)).any (·.1)=false:=by rfl):Bx (PE X (.Call (.Name x px) (a::es) [] pos) (tD p (aH F fr))):=⟨zi h hr hg ha.h hdb he hpl⟩
structure kY(X:Cx)(p:Pa)(x:Str)(F:List D->aw->af D):Prop where
 ex:∃(u:Value) (r:List V->Hp->VK->Prop),((∃id,u=.builtin id)\/∃T,u=.type T)/\bootBuiltins x=some u/\bM X u r/\qO p F r/\x ≠ "__name__" /\ (x == ("__debug__" : Str))=false
theorem bI{x:Str}{F:List D->aw->af D}{px:Pos}(k:kY X p x F)(hm:X.mg x=none)(ha:Bx (PA X (a::es) (j5 p fr)))(hg:Gl X x:=by rfl)(he:starEach (a::es) X.env=(false,eval a X.env)::starEach es X.env:=by rfl)(hpl:(backTo pos (starEach es X.env)).any (·.1)=false:=by rfl):Bx (PE X (.Call (.Name x px) (a::es) [] pos) (tD p (aH F fr))):=Bx.mk (by
 obtain⟨u,r,hu,h1,h2,h3,h4,h5⟩:=k.ex;rcases hu with⟨id,rfl⟩|⟨T,rfl⟩
 ·exact xr h2 h3 hg hm h1 ha.h h4 h5 he hpl
 ·exact uB h2 h3 hg hm h1 ha.h h4 h5 he hpl)
theorem jH (hK:X.K=p.K:=by rfl) (hw:X.w=p.w:=by rfl):kY X p "len" gk:=⟨_,_,.inl ⟨_,rfl⟩,PySem.boot_len,(ye.or vf).or vg,by rw[hK,hw];exact CI,by decide,by decide⟩
theorem lS (hc:X.calm=true:=by rfl) (hK:X.K=p.K:=by rfl):kY X p "all" kW:=⟨_,_,.inl ⟨_,rfl⟩,by decide +kernel,vm hc,hK ▸ CK,by decide,by decide⟩
theorem tX (hK:X.K=p.K:=by rfl):kY X p "tuple" jk:=⟨_,_,.inr ⟨_,rfl⟩,by decide +kernel,mX,hK ▸ xN,by decide,by decide⟩
theorem Dm (hK:X.K=p.K:=by rfl):kY X p "list" pD:=⟨_,_,.inr ⟨_,rfl⟩,by decide +kernel,oR,hK ▸ zQ,by decide,by decide⟩
theorem EN:kY X p "int" pF:=⟨_,_,.inr ⟨_,rfl⟩,by decide +kernel,vk,CJ,by decide,by decide⟩
theorem EM (hc:X.calm=true:=by rfl) (hK:X.K=p.K:=by rfl):kY X p "min" uf:=⟨_,_,.inl ⟨_,rfl⟩,by decide +kernel,(vc hc).or (vb hc),hK ▸ CG,by decide,by decide⟩
theorem AW (hc:X.calm=true:=by rfl) (hK:X.K=p.K:=by rfl):kY X p "max" o7:=⟨_,_,.inl ⟨_,rfl⟩,by decide +kernel,(ve hc).or (vd hc),hK ▸ CH,by decide,by decide⟩
theorem EL (hu:X.A.units+64<cLine) (hc:X.calm=true:=by rfl) (hK:X.K=p.K:=by rfl) (hw:X.w=p.w:=by rfl):kY X p "set" qV:=⟨_,_,.inr ⟨_,rfl⟩,by decide +kernel,(u9 hc hu).or (va hc hu),by rw[hK,hw];exact CF,by decide,by decide⟩
theorem ic {T:String}{xT:Str}{px pt:Pos} (hT:T∈["int", "bool", "tuple", "list", "str", "dict"]) (hbT:bootBuiltins xT=some (.type T)) (hnT:xT ≠ "__name__") (hdT:(xT == ("__debug__" : Str))=false) (hm:X.mg "isinstance" = none) (hmT:X.mg xT=none) (ha:Bx (PE X a (tD p fa))) (hg:Gl X "isinstance" := by rfl) (hgT:Gl X xT:=by rfl) (hs1:starEach [a,.Name xT pt] X.env=(false,eval a X.env)::starEach [.Name xT pt] X.env:=by rfl) (hK:X.K=p.K:=by rfl):Bx (PE X (.Call (.Name "isinstance" px) [a,.Name xT pt] [] pos) (tD p (qS (ff T) fa))):=⟨BX hK hT hg hm hgT hmT hbT ha.h hnT hdT hs1⟩
theorem rC:bootBuiltins "int" = some (.type "int"):=by decide +kernel
theorem tW:bootBuiltins "bool" = some (.type "bool"):=by decide +kernel
theorem iw:bootBuiltins "tuple" = some (.type "tuple"):=by decide +kernel
theorem rB:bootBuiltins "str" = some (.type "str"):=by decide +kernel
theorem dF(ha:Bx (PE X a (tD p fa)))(hb:Bx (PE X b (tD p fb)))(hs:ly b:=by exact fun _ _=>rfl)(hK:X.K=p.K:=by rfl):Bx (PE X (.Subscript a b pos) (tD p (aE dX fa fb))):=⟨Ei hK ha.h hb.h hs⟩
theorem yu{lo hi:Option Expr}{fl fh:MO}{p2:Pos}(he:Bx (PE X e (tD p fa)))(hl:Bx (PO X lo (An p fl)))(hu:Bx (PO X hi (An p fh)))(hK:X.K=p.K:=by rfl):Bx (PE X (.Subscript e (.Slice lo hi none p2) pos) (tD p (A2 fa fl fh))):=⟨xp hK he.h hl.h hu.h⟩
theorem Au {fo:ME}{ob:Expr}{apos:Pos} (ho:Bx (PE X ob (tD p fo))) (ha:Bx (PA X [e] (j5 p fr))) (hbase:attributeBase ob "append" X.env (eval ob X.env)=eval ob X.env:=by rfl) (hfew:((backTo pos (starEach [e] X.env)).all (fun x=>!x.1)&&(backToKw pos (keywordEach [] X.env)).all (fun x=>x.1.isSome)
   && decide ([e].length+([]:List Keyword).length+(if ([]:List Keyword).isEmpty then 0 else 1)<30))=true:=by rfl) (hline:(apos.endLine == pos.line)=true:=by rfl) (hs:starEach [e] X.env=(false,eval e X.env)::starEach [] X.env:=by rfl) (hpl:(backTo pos (starEach [] X.env)).any (·.1)=false:=by rfl) (hK:X.K=p.K:=by rfl):Bx (PE X (.Call (.Attribute ob "append" apos) [e] [] pos) (tD p (yo fw fo fr))):=⟨Ay hK PySem.F.slot_list_append PySem.F.type_list_append ny zW ho.h ha.h hbase hfew hline hs hpl⟩
variable{tg iter elt:Expr}{fi:MI}{g:MG}{u:A5}
theorem qR(hl:Bx (PE X e (tD p f)))(hK:X.K=p.K:=by rfl):Bx (PI X tg e (qM p (hW f))):=⟨BP hK hl.h⟩
theorem vK {px:Pos} (hm:X.mg "range" = none) (ha:Bx (PA X [a] (j5 p fr))) (hg:Gl X "range" := by rfl) (hs:starEach [a] X.env=[(false,eval a X.env)]:=by rfl):Bx (PI X tg (.Call (.Name "range" px) [a] [] pos) (qM p (jz jy fr))):=⟨uA hg hm ha.h hs⟩
theorem FJ {px:Pos} (hm:X.mg "range" = none) (ha:Bx (PA X [a,b] (j5 p fr))) (hg:Gl X "range" := by rfl) (hs:starEach [a,b] X.env=[(false,eval a X.env),(false,eval b X.env)]:=by rfl) (hs2:starEach [b] X.env=[(false,eval b X.env)]:=by rfl):Bx (PI X tg (.Call (.Name "range" px) [a,b] [] pos) (qM p (jz t8 fr))):=⟨uz hg hm ha.h hs hs2⟩
theorem FK {px tpos:Pos}{elts:List Expr}{k1:Nat} (hm:X.mg "enumerate" = none) (ha:Bx (PA X [a] (j5 p fr))) (hg:Gl X "enumerate" := by rfl) (hs:starEach [a] X.env=[(false,eval a X.env)]:=by rfl) (hK:X.K=p.K:=by rfl):Bx (PI X (.Tuple elts k1 tpos) (.Call (.Name "enumerate" px) [a] [] pos) (qM p (jz m8 fr))):=⟨zc hK hg hm ha.h hs⟩
theorem i5(i:Nat){x:Str}(hN:X.N.Nodup)(hi:X.N[i]?=some x:=by rfl)(hx:Ap X.env.scope x:=by first|exact Or.inl rfl|exact Or.inr rfl)(hf:X.fn x=true\/X.env.scope.names.lookup x=some .local:=by first|exact .inl rfl|exact .inr rfl):Bx (PG X (.Name x pos) (nV p (ak i))):=⟨ze hN hi hx hf⟩
theorem lQ  : Bx (qT X [] (oY p dv)):=⟨zd⟩
theorem d4(h1:Bx (PG X e (nV p g)))(h2:Bx (qT X es (oY p u)))(hs:(assignEach (e::es) X.env).map (·.2)=assign e X.env::(assignEach es X.env).map (·.2):=by rfl):Bx (qT X (e::es) (oY p (aU g u))):=⟨xk h1.h h2.h hs⟩
theorem lP{k n:Nat}(h:Bx (qT X es (oY p u)))(hc:X.calm=true:=by rfl)(hn:(assignEach es X.env).length=n:=by rfl)(hst:(assignEach es X.env).findIdx? (·.1)=none:=by rfl)(hK:X.K=p.K:=by rfl):Bx (PG X (.Tuple es k pos) (nV p (du n u))):=⟨BQ hK hc h.h hn hst⟩
theorem AR{fo fi:ME}(ho:Bx (PE X a (tD p fo)))(hi:Bx (PE X b (tD p fi)))(ha:∀v,assign (.Subscript a b pos) X.env v=(do
   let ov <- holding [v] (eval a X.env)
   let iv <- holding [v,ov] (eval b X.env)
   standAt pos
   holding [v,ov,iv] (setItem ov iv v)
   release [v,ov,iv] []):=by intro _;rfl):Bx (PG X (.Subscript a b pos) (nV p (pA fo fi))):=⟨BR ho.h hi.h ha⟩
variable{ifs:List Expr}{scope:Scope}{Nc:List Str}{cap:List (Option Nat)}{tt:MT}{te:ME}
theorem dG(S:bB X.N X.env scope Nc cap)(hi:Bx (PI X tg iter (qM p fi)))(hg:∀cl C s H fp,Bx (PG (hZ X Nc scope cl C s H fp) tg (nV p.nx g)))(ht:∀cl C s H fp,Bx (qN (hZ X Nc scope cl C s H fp) ifs (gv p.nx tt)))(he:∀cl C s H fp,Bx (PE (hZ X Nc scope cl C s H fp) elt (tD p.nx te)))(hc:X.calm=true:=by rfl)(hs:∀x,foldedSetIterable iter X.env x=pure x:=by intro _;rfl):Bx (PE X (.ListComp elt [⟨tg,iter,ifs,0⟩] scope pos) (tD p (de fi cap g tt te))):=⟨zh hc S hi.h (fun cl C s H fp=>(hg cl C s H fp).h) (fun cl C s H fp=>(ht cl C s H fp).h) (fun cl C s H fp=>(he cl C s H fp).h) hs⟩
variable{mb:MB}{cl0:Comprehension}{rest:List Comprehension}{d:Nat}{acc:Addr}
variable{fs gs:MS}{st:Stmt}{sts A B body:List Stmt}
theorem cD(i:Nat){x:Str}{pos':Pos}(hN:X.N.Nodup)(he:Bx (PE X e (tD p f)))(hi:X.N[i]?=some x:=by rfl)(hx:Ap X.env.scope x:=by first|exact Or.inl rfl|exact Or.inr rfl)(hs:swapsWith e (some (.Name x pos')) pos.line X.env=pure false:=by rfl)(hf:X.fn x=true\/X.env.scope.names.lookup x=some .local:=by first|exact .inl rfl|exact .inr rfl):Bx (PS X (.Assign [.Name x pos'] e pos) (gJ p (cB f (ak i)))):=⟨BD hN hi hx he.h hs hf⟩
theorem B1(i:Nat){x:Str}{pos1 pos2:Pos}(hN:X.N.Nodup)(S:bB X.N X.env scope Nc cap)(hi:Bx (PI X tg iter (qM p fi)))(hg:∀cl C s H fp,Bx (PG (hZ X Nc scope cl C s H fp) tg (nV p.nx g)))(ht:∀cl C s H fp,Bx (qN (hZ X Nc scope cl C s H fp) ifs (gv p.nx tt)))(he:∀cl C s H fp,Bx (PE (hZ X Nc scope cl C s H fp) elt (tD p.nx te)))(hix:X.N[i]?=some x:=by rfl)(hx:X.env.scope.names.lookup x=some .local:=by rfl)(hc:X.calm=true:=by rfl)(hsw:swapsWith (.ListComp elt [⟨tg,iter,ifs,0⟩] scope pos) (some (.Name x pos1)) pos2.line X.env=pure true:=by rfl)(hs:∀x,foldedSetIterable iter X.env x=pure x:=by intro _;rfl):Bx (PS X (.Assign [.Name x pos1] (.ListComp elt [⟨tg,iter,ifs,0⟩] scope pos) pos2) (gJ p (cB (de fi cap g tt te) (ak i)))):=⟨yR hc hN hix hx S hi.h (fun cl C s H fp=>(hg cl C s H fp).h) (fun cl C s H fp=>(ht cl C s H fp).h) (fun cl C s H fp=>(he cl C s H fp).h) hsw hs⟩
theorem sE(he:Bx (PE X e (tD p f)))(hg:Bx (PG X tg (nV p g)))(hs:swapsWithSole [tg] e pos.line X.env=pure false:=by rfl)(hw:swappedStores [tg] e X.env=pure none:=by rfl)(h1:(assignEach [tg] X.env).map (·.2)=[assign tg X.env]:=by rfl):Bx (PS X (.Assign [tg] e pos) (gJ p (cB f g))):=⟨BI he.h hg.h hs hw h1⟩
theorem lT(he:Bx (PE X e (tD p f)))(hs:swapsWith e none pos.line X.env=pure false:=by rfl):Bx (PS X (.Expr e pos) (gJ p (kC f))):=⟨yS he.h hs⟩
theorem lO(hp:PassesOwn (model X.prog X.w) X.A X.env X.xe)(hi:Bx (PI X tg iter (qM p fi)))(hg:Bx (PG X tg (nV p g)))(hb:Bx (i6 X body (gJ p fs)))(hc:X.calm=true:=by rfl)(hs:∀x,foldedSetIterable iter X.env x=pure x:=by intro _;rfl):Bx (PS X (.For tg iter body [] pos) (gJ p (mN fi g fs))):=⟨BH hp hc hi.h hg.h hb.h hs⟩
end
section
variable{X:Cx}{p:Pa}{a b c e:Expr}{es rest:List Expr}{fa fb f:ME}{fr:MA}{ft gt:MT}{pos:Pos}{fs gs:MS}{st:Stmt}{sts A B:List Stmt}
theorem Ar(ha:Bx (PE X a (tD p fa))):Bx (PE X (.UnaryOp .Not a pos) (tD p (pH fa))):=⟨BV ha.h⟩
theorem i7(ha:Bx (PE X a (tD p fa)))(hb:Bx (PE X (.BoolOp .And (b::rest) pos) (tD p fb))):Bx (PE X (.BoolOp .And (a::b::rest) pos) (tD p (gx fa fb))):=⟨BZ ha.h hb.h⟩
theorem Fm(ha:Bx (PE X a (tD p fa)))(hb:Bx (PE X (.BoolOp .Or (b::rest) pos) (tD p fb))):Bx (PE X (.BoolOp .Or (a::b::rest) pos) (tD p (yz fa fb))):=⟨Eh ha.h hb.h⟩
theorem fE{k:Nat}(h:Bx (PA X es (j5 p fr))):Bx (PE X (.Tuple es k pos) (tD p (eH fr))):=⟨BU h.h⟩
theorem lJ(h:Bx (PA X es (j5 p fr))):Bx (PE X (.List es pos) (tD p (lG fr))):=⟨BW h.h⟩
theorem n9:Bx (PO X none (An p Dq)):=⟨y6⟩
theorem jJ(h:Bx (PE X e (tD p f))):Bx (PO X (some e) (An p (kE f))):=⟨y4 h.h⟩
theorem ia(ha:Bx (PT X a (gv p ft))):Bx (PT X (.UnaryOp .Not a pos) (gv p (fH ft))):=⟨BA ha.h⟩
theorem oX(h:Bx (PW X e (gv p ft))):Bx (PT X e (gv p ft)):=⟨h.h.pt⟩
theorem g6:Bx (qN X [] (gv p bq)):=⟨yQ⟩
theorem sy(h:Bx (PT X c (gv p ft))):Bx (qN X [c] (gv p ft)):=⟨yP h.h⟩
theorem fT:Bx (i6 X [] (gJ p eT)):=⟨BG⟩
theorem aP(h1:Bx (PS X st (gJ p fs)))(h2:Bx (i6 X sts (gJ p gs))):Bx (i6 X (st::sts) (gJ p (bx fs gs))):=⟨yT h1.h h2.h⟩
theorem a6(h1:Bx (PS X st (gJ p fs))):Bx (i6 X [st] (gJ p fs)):=⟨BF h1.h⟩
theorem bp(h:Bx (PE X e (tD p f))):Bx (PS X (.Return (some e) pos) (gJ p (cn f))):=⟨BE h.h⟩
theorem lj:Bx (PS X st (gJ p t7)):=⟨w8⟩
theorem jx(hc:Bx (PT X c (gv p ft)))(ha:Bx (i6 X A (gJ p fs)))(hb:Bx (i6 X B (gJ p gs))):Bx (PS X (.If c A B pos) (gJ p (oW ft fs gs))):=⟨Ee hc.h ha.h hb.h⟩
end
theorem b5{P:Program}{w:World}{K:W.Frag}{mg:Str->Option Value}{base:Heap}{p:Pa}{k n:Nat}{x qual:Str}{st:Stmt}{f:Addr}{fd:FuncData}{N ps:List Str}{fb:MS}
  (F:gh K x qual st f fd) (S:aS N ps (ar st)) (hn:ps.length=n) (hm:mg x=some (.ref f)) (hb:g7 K fd ps [])
  (body : ∀ (cdv : Value) (A : Around) (outer : List Env) (s : Shared) (H : Hp) (E : XK), fS k (A.deeper (envOfC qual (ar st) s.heap.objs.size f cdv)) ->
   Bx (i6 (nY vC P w K mg base N qual (ar st) f cdv A outer s H E).nox (bP st) (gJ p fb))):dB P w K mg base p (k+1) x n (hV n N.length fb):=
 Dl F S hn hm hb fun cdv A outer s H E hr=>(body cdv A outer s H E hr).h
end L2
namespace L2
open PySem RS
section
variable{ρ:Ro}{μ:aw}{fa fb fc fd f:ME}{fr:MA}{ft gt:MT}{op o1 o2 o3:D->D->aw->af D}{fs gs:MS}{g:MG}
@[simp] theorem ag {d:D}{r:Ro}:ai 0 (some d::r) μ=.ok d μ:=J1 (J2 _)
@[simp] theorem ao {i:Nat}{x:Option D}{r:Ro}:ai (i+1) (x::r) μ=ai i r μ:=J1 (J2 _)
@[simp] theorem bh {d:D}:cC d ρ μ=.ok d μ:=J1 (J2 _)
@[simp] theorem aL:aE op fa fb ρ μ=(fa ρ μ).bind fun a μ1=>(fb ρ μ1).bind fun b μ2=>op a b μ2:=J1 (J2 _)
@[simp] theorem kF {o:D->aw->af D}:qS o fa ρ μ=(fa ρ μ).bind fun a μ1=>o a μ1:=J1 (J2 _)
@[simp] theorem av:aG ρ μ=.ok [] μ:=J1 (J2 _)
@[simp] theorem aq:ah fa fr ρ μ=(fa ρ μ).bind fun a μ1=>(fr ρ μ1).bind fun r μ2=>.ok (a::r) μ2:=J1 (J2 _)
@[simp] theorem az {F:List D->aw->af D}:aH F fr ρ μ=(fr ρ μ).bind F:=J1 (J2 _)
@[simp] theorem fI:eH fr ρ μ=(fr ρ μ).bind fun ds μ=>if ds.length<=sizeLine then .ok (.tup ds) μ else .bad:=J1 (J2 _)
@[simp] theorem ji:lG fr ρ μ=(fr ρ μ).bind fun ds μ=>if ds.length<=sizeLine then .ok (.obj μ.length) (μ++[.lst ds]) else .bad:=J1 (J2 _)
@[simp] theorem aW {b:Bool}:vz (.bl b) μ=.ok b μ:=J1 (J2 _)
@[simp] theorem cS:j6 f ρ μ=(f ρ μ).bind vz:=J1 (J2 _)
@[simp] theorem tQ:sI ft gt ρ μ=(ft ρ μ).bind fun b μ1=>if b=true then gt ρ μ1 else .ok false μ1:=J1 (J2 _)
@[simp] theorem ik:je ft gt ρ μ=(ft ρ μ).bind fun b μ1=>if b=true then .ok true μ1 else gt ρ μ1:=J1 (J2 _)
@[simp] theorem gP:fH ft ρ μ=(ft ρ μ).bind fun b μ1=>.ok (!b) μ1:=J1 (J2 _)
@[simp] theorem fv:gx fa fb ρ μ=(fa ρ μ).bind fun a μ1=>(vz a μ1).bind fun b μ2=>if b=true then fb ρ μ2 else .ok (.bl false) μ2:=J1 (J2 _)
@[simp] theorem Df:yz fa fb ρ μ=(fa ρ μ).bind fun a μ1=>(vz a μ1).bind fun b μ2=>if b=true then .ok (.bl true) μ2 else fb ρ μ2:=J1 (J2 _)
@[simp] theorem tN:pH f ρ μ=(f ρ μ).bind fun a μ1=>(vz a μ1).bind fun b μ2=>.ok (.bl (!b)) μ2:=J1 (J2 _)
@[simp] theorem l9:ip o1 o2 fa fb fc ρ μ=(fa ρ μ).bind fun a μ1=>(fb ρ μ1).bind fun b μ2=>(o1 a b μ2).bind fun z μ3=>(vz z μ3).bind fun k μ4=>
 if k=true then (fc ρ μ4).bind fun c μ5=>o2 b c μ5 else .ok (.bl false) μ4:=J1 (J2 _)
@[simp] theorem jh:jA f ρ μ=(f ρ μ).bind vG:=J1 (J2 _)
@[simp] theorem fV {b:Bool}:vG (.bl b) μ=.ok b μ:=J1 (J2 _)
@[simp] theorem sG {fl fh:MO}:A2 fa fl fh ρ μ=(fa ρ μ).bind fun a μ1=>(fl ρ μ1).bind fun lo μ2=>(fh ρ μ2).bind fun hi μ3=>vx a lo hi μ3:=J1 (J2 _)
@[simp] theorem rp:Dq ρ μ=.ok none μ:=J1 (J2 _)
@[simp] theorem jO:kE f ρ μ=(f ρ μ).bind EZ:=J1 (J2 _)
@[simp] theorem n6 {i:Int}:EZ (.int i) μ=.ok (some i) μ:=J1 (J2 _)
@[simp] theorem pC {F:D->List D->aw->af D}{fo:ME}:yo F fo fr ρ μ=(fo ρ μ).bind fun o μ1=>if vD o μ1=true then (fr ρ μ1).bind fun ds μ2=>F o ds μ2 else .bad:=J1 (J2 _)
@[simp] theorem bb:cn f ρ μ=(f ρ μ).bindS fun d μ'=>.ret d μ':=J1 (J2 _)
@[simp] theorem bX:eT ρ μ=.next ρ μ:=J1 (J2 _)
@[simp] theorem aK:bx fs gs ρ μ=(fs ρ μ).bind gs:=J1 (J2 _)
@[simp] theorem cu:oW ft fs gs ρ μ=(ft ρ μ).bindS fun b μ1=>if b=true then fs ρ μ1 else gs ρ μ1:=J1 (J2 _)
@[simp] theorem a8:cB f g ρ μ=(f ρ μ).bindS fun d μ1=>(g d ρ μ1).bindS fun ρ' μ2=>.next ρ' μ2:=J1 (J2 _)
@[simp] theorem jM:kC f ρ μ=(f ρ μ).bindS fun _ μ1=>.next ρ μ1:=J1 (J2 _)
@[simp] theorem aC {g:MS}:(SO.next ρ μ).bind g=g ρ μ:=J1 (J2 _)
@[simp] theorem rh {d:D}{g:MS}:(SO.ret d μ).bind g=.ret d μ:=J1 (J2 _)
@[simp] theorem aO {d:D}:(SO.ret d μ).out=.ok d μ:=J1 (J2 _)
@[simp] theorem bD {i:Nat}{d:D}:ak i d ρ μ=.ok (ρ.set i (some d)) μ:=J1 (J2 _)
@[simp] theorem tP {fo fi:ME}{d:D}:pA fo fi d ρ μ=(fo ρ μ).bind fun o μ1=>(fi ρ μ1).bind fun i μ2=>(t5 o i d μ2).bind fun _ μ3=>.ok ρ μ3:=J1 (J2 _)
@[simp] theorem jj {fi:MI}:mN fi g fs ρ μ=(fi ρ μ).bindS fun src μ1=>hX src g fs src.items ρ μ1:=J1 (J2 _)
@[simp] theorem cv:hW f ρ μ=(f ρ μ).bind oZ:=J1 (J2 _)
@[simp] theorem gR {F:List D->aw->af kT}:jz F fr ρ μ=(fr ρ μ).bind F:=J1 (J2 _)
@[simp] theorem iN {xs:List D}:oZ (.tup xs) μ=.ok (.fix xs) μ:=J1 (J2 _)
@[simp] theorem bY {fi:MI}{cap:List (Option Nat)}:de fi cap g ft f ρ μ=(fi ρ μ).bind fun src μ1=>compLoop src μ1.length g ft f src.items (gL cap ρ) (μ1++[.lst []]):=J1 (J2 _)
@[simp] theorem bo {xs:List D}:(kT.fix xs).items=xs:=J1 (J2 _)
@[simp] theorem eJ {n:Nat}{xs:List D}:(kT.own n xs).items=xs:=J1 (J2 _)
@[simp] theorem iQ:gL [] ρ=[]:=J1 (J2 _)
@[simp] theorem gB {r:List (Option Nat)}:gL (none::r) ρ=none::gL r ρ:=J1 (J2 _)
theorem d5{N:Nat}{a:D}:hV 1 N fs [a] μ=mY μ (fs (some a::List.replicate (N-1) none) μ).out:=Gq rfl
theorem dH{N:Nat}{a b:D}:hV 2 N fs [a,b] μ=mY μ (fs (some a::some b::List.replicate (N-2) none) μ).out:=Gq rfl
theorem rq{N:Nat}{a b c:D}:hV 3 N fs [a,b,c] μ=mY μ (fs (some a::some b::some c::List.replicate (N-3) none) μ).out:=Gq rfl
@[simp] theorem dC {op:CmpOp}{i j:Int}:gm op (.int i) (.int j) μ=.ok (.bl (dY op i j)) μ:=J1 (J2 _)
@[simp] theorem gT {i j:Int}:cm (.int i) (.int j) μ=.ok (.int (i+j)) μ:=J1 (J2 _)
@[simp] theorem AS {gg:Int->Int->D}{i j:Int}:dI gg (.int i) (.int j) μ=.ok (gg i j) μ:=J1 (J2 _)
@[simp] theorem lW {C:Int->Int->Prop}{gg:Int->Int->D}{i j:Int} (h:C i j):A1 C gg (.int i) (.int j) μ=.ok (gg i j) μ:=by unfold A1;simp[h]
@[simp] theorem E8 {i j:Int} (h:pd i j):qW (.int i) (.int j) μ=.ok (.int (i*j)) μ:=by unfold qW;simp[h]
@[simp] theorem gn {neg:Bool}{i j:Int}:lh neg (.int i) (.int j) μ=.ok (.bl (if neg then !(i == j) else i == j)) μ:=J1 (J2 _)
@[simp] theorem wN {neg:Bool}{a:D}:vM neg a .non μ=.ok (.bl (if neg then !a.isNon else a.isNon)) μ:=J1 (J2 _)
@[simp] theorem iO {xs:List D}:gk [.tup xs] μ=.ok (.int xs.length) μ:=J1 (J2 _)
@[simp] theorem tO {xs:List D}:gk [.frz xs] μ=.ok (.int xs.length) μ:=J1 (J2 _)
theorem Ag{n:Nat}{xs:List D}(h:μ[n]?=some (.lst xs)):gk [.obj n] μ=.ok (.int xs.length) μ:=by unfold gk m9;simp[h]
theorem tL{n:Nat}{xs:List D}(h:μ[n]?=some (.lst xs)):jk [.obj n] μ=.ok (.tup xs) μ:=by unfold jk;simp[h]
theorem gS{n:Nat}{bs:List Bool}(h:μ[n]?=some (.lst (bs.map D.bl))):kW [.obj n] μ=.ok (.bl (bs.all id)) μ:=by unfold kW;simp[h,vn]
theorem n5{xs:List D}{i:Int}{d:D}(h:atI xs i=some d):dX (.tup xs) (.int i) μ=.ok d μ:=by unfold dX;simp[h]
theorem Dg{xs:List D}{i:Int}{d:D}(h:atI xs i=some d):dX (.frz xs) (.int i) μ=.ok d μ:=by unfold dX;simp[h]
theorem il{n:Nat}{xs:List D}{i:Int}{d:D}(hm:μ[n]?=some (.lst xs))(h:atI xs i=some d):dX (.obj n) (.int i) μ=.ok d μ:=by unfold dX;simp[hm,h]
theorem tM{n j:Nat}{xs:List D}{i:Int}{d:D}(hm:μ[n]?=some (.lst xs))(h:qQ xs.length i=some j):t5 (.obj n) (.int i) d μ=.ok () (μ.set n (.lst (xs.set j d))):=by unfold t5;simp[hm,h]
theorem gO{n:Nat}{xs:List D}(hm:μ[n]?=some (.lst xs)):oZ (.obj n) μ=.ok (.own n xs) μ:=by unfold oZ;simp[hm]
theorem ou{j:Int}(h0:0<=j)(h:j<1000):jy [.int j] μ=.ok (.fix (bV 0 j.toNat)) μ:=by
 unfold jy;dsimp only;rw[Gq];omega
theorem Af{i j:Int}(h0:0<=i)(h1:i<1000)(h2:-1000<=j)(h:j<1000):t8 [.int i,.int j] μ=.ok (.fix (bV i (j-i).toNat)) μ:=by
 unfold t8;dsimp only;rw[Gq];omega
theorem sL{α:Type}{x:α}{r:List α}:atI (x::r) 0=some x:=by unfold atI qQ;simp
theorem wb{α:Type}{x y:α}{r:List α}:atI (x::y::r) 1=some y:=lx (j:=1) rfl
theorem AX{α:Type}{x y z:α}{r:List α}:atI (x::y::z::r) 2=some z:=lx (j:=2) rfl
@[simp] theorem eP {x:D}{r:List D}:dX (.tup (x::r)) (.int 0) μ=.ok x μ:=n5 sL
@[simp] theorem gQ {x y:D}{r:List D}:dX (.tup (x::y::r)) (.int 1) μ=.ok y μ:=n5 wb
theorem n4{n:Nat}{i:Int}(h0:0<=i)(h:i<n):qQ n i=some i.toNat:=by unfold qQ;simp[h0,h]
end
section
variable{μ g:aw}{d:D}
@[simp] theorem zZ {n:Nat}{i:Int}:(D.int i).low n=True:=by simp[D.low]
@[simp] theorem FX {n:Nat}{i:Bool}:(D.bl i).low n=True:=by simp[D.low]
@[simp] theorem E6 {n:Nat}{x:Str}:(D.str x).low n=True:=by simp[D.low]
@[simp] theorem E5 {n:Nat}{xs:List D}:(D.tup xs).low n=D.lows n xs:=by simp[D.low]
@[simp] theorem E7 {n m:Nat}:(D.obj m).low n=(m<n):=by simp[D.low]
@[simp] theorem ET {n:Nat}:D.lows n []=True:=by simp[D.lows]
@[simp] theorem Du {n:Nat}{x:D}{xs:List D}:D.lows n (x::xs)=(x.low n/\D.lows n xs):=by simp[D.lows]
theorem l7{n:Nat}:∀{xs:List D},D.lows n xs↔∀x∈xs,x.low n
 |[]=>by simp
 |x::xs=>by simp[l7 (xs:=xs)]
theorem d3(hd:d.low μ.length):mY μ (.ok d (μ++g))=.ok d μ:=by
 unfold mY;dsimp only;rw[Gq]
 ·simp
 ·refine⟨hd,by simp,fun i o hi h=>.inl ?_⟩;rw[Hi hi]at h;exact h
theorem bW(hd:d.low μ.length):mY μ (.ok d μ)=.ok d μ:=by
 have:=d3 (μ:=μ) (g:=[]) hd;simpa using this
theorem wK{i:Nat}{o:O}(hd:d.low μ.length)(ho:o.low μ.length):mY μ (.ok d (μ.set i o++g))=.ok d (μ.set i o):=by
 unfold mY;dsimp only;rw[Gq]
 ·congr 1;rw[List.take_append_of_le_length (by simp)];exact II (by simp)
 ·refine ⟨hd, by simp, fun j o' hj h => ?_⟩;rw[Hi (by simpa using hj)]at h;by_cases hij:i=j
  ·subst hij;rw[GK hj]at h;cases h;exact .inr ho
  ·rw[GL hij]at h;exact .inl h
theorem tK{i:Nat}{o:O}(hd:d.low μ.length)(ho:o.low μ.length):mY μ (.ok d (μ.set i o))=.ok d (μ.set i o):=by
 have:=wK (μ:=μ) (g:=[]) (i:=i) hd ho;simpa using this
theorem AQ{μ':aw}(h:¬ d.low μ.length):mY μ (.ok d μ')=.ok d μ':=by
 unfold mY;dsimp only;rw[Gr fun z=>h z.1]
theorem Dc{μ':aw}:mY μ (.ok d μ')=.ok d μ'\/(mY μ (.ok d μ')=.ok d (μ'.take μ.length)/\d.low μ.length):=by
 unfold mY;dsimp only;by_cases h:Ba μ μ' d
 ·rw[Gq h];exact .inr ⟨rfl,h.1⟩
 ·rw[Gr h];exact .inl rfl
end
theorem pP{μ1 g:aw}{a b:O}:(μ1++a::g).set μ1.length b=μ1++b::g:=by
 rw[J9 _ _ (G0 _),Ja];rfl
theorem aJ{μ1 g:aw}{a:O}:(μ1++a::g)[μ1.length]?=some a:=by
 rw[Hh (G0 _),Ja];rfl
theorem ki{μ1 g:aw}{ys:List D}{y:D}(h:ys.length<sizeLine):pk μ1.length y (μ1++.lst ys::g)=.ok () (μ1++.lst (ys++[y])::g):=by
 unfold pk;rw[aJ];dsimp only;rw[Gq h,pP]
theorem iV{src:kT}{g:MG}{t:MT}{e:ME}{μ1:aw}{q:D->Bool}{h:D->D}(R:Ro->Prop)(ho:∀a,dq src (μ1++[.lst a])) :
  ∀{xs acc:List D}{ρ:Ro},R ρ->acc.length+xs.length<=sizeLine->(∀x∈xs,∀a ρ,R ρ->∃ρ1,R ρ1/\g x ρ (μ1++[.lst a])=.ok ρ1 (μ1++[.lst a])/\t ρ1 (μ1++[.lst a])=.ok (q x) (μ1++[.lst a])/\(q x=true->e ρ1 (μ1++[.lst a])=.ok (h x) (μ1++[.lst a]))) ->
   compLoop src μ1.length g t e xs ρ (μ1++[.lst acc])=.ok (.obj μ1.length) (μ1++[.lst (acc++(xs.filter q).map h)])
 |[],acc,ρ,hr,hl,he=>by
  unfold compLoop;rw[Gq (ho acc)];simp
 |x::xs,acc,ρ,hr,hl,he=>by
  obtain⟨ρ1,r1,e1,e2,e3⟩:=he x GC acc ρ hr;unfold compLoop;rw[Gq (ho acc),e1];simp only[ab,aa];rw[e2];simp only[ab,aa];have he':=fun y hy=>he y (GD _ hy);simp only[HV]at hl;cases hq:q x with
  |false=>
   rw[Gr G6,iV R ho r1 (by omega) he',Ka,hq];rfl
  |true=>
   rw[Gq rfl,e3 hq];simp only[ab,aa];rw[ki (by omega)];simp only[aa];rw[iV R ho r1 (by simp;omega) he',Ka,hq];simp
theorem jQ{src:kT}{g:MG}{t:MT}{e:ME}{n:Nat}(J:List D->List D->Ro->aw->aw->Prop)
  (fin:∀ys ρ μ1 s,J [] ys ρ μ1 s->μ1.length=n/\dq src (μ1++.lst ys::s))
  (step : ∀ x r ys ρ μ1 s, J (x :: r) ys ρ μ1 s -> μ1.length = n /\ dq src (μ1 ++ .lst ys :: s) /\ ∃ ρ1 μa sa b μb sb, g x ρ (μ1 ++ .lst ys :: s) = .ok ρ1 (μa ++ .lst ys :: sa) /\ t ρ1 (μa ++ .lst ys :: sa) = .ok b (μb ++ .lst ys :: sb) /\
   (b=true->∃y μc sc,e ρ1 (μb++.lst ys::sb)=.ok y (μc++.lst ys::sc)/\ys.length<sizeLine/\μc.length=n/\J r (ys++[y]) ρ1 μc sc)/\(b=false->J r ys ρ1 μb sb)) :
  ∀{xs ys:List D}{ρ:Ro}{μ1 s:aw},J xs ys ρ μ1 s->∃ys' ρ' μ1' s',J [] ys' ρ' μ1' s'/\compLoop src n g t e xs ρ (μ1++.lst ys::s)=.ok (.obj n) (μ1'++.lst ys'::s')
 |[],ys,ρ,μ1,s,hJ=>by
  refine⟨ys,ρ,μ1,s,hJ,?_⟩;unfold compLoop;rw[Gq (fin ys ρ μ1 s hJ).2]
 |x::xs,ys,ρ,μ1,s,hJ=>by
  obtain⟨hn,ho,ρ1,μa,sa,b,μb,sb,e1,e2,e3,e4⟩:=step x xs ys ρ μ1 s hJ;unfold compLoop;rw[Gq ho,e1];simp only[ab,aa];rw[e2];simp only[ab,aa];cases b with
  |false=>
   rw[Gr G6];exact jQ J fin step (e4 rfl)
  |true=>
   obtain⟨y,μc,sc,f1,f2,f3,f4⟩:=e3 rfl;rw[Gq rfl,f1];simp only[ab,aa];subst f3;rw[ki f2];simp only[aa];exact jQ J fin step f4
theorem iM{src:kT}{g:MG}{fb:MS}(J:List D->Ro->aw->Prop)(fin:∀ρ μ,J [] ρ μ->dq src μ)
  (step:∀x r ρ μ,J (x::r) ρ μ->dq src μ/\∃ρ1 μ1 ρ2 μ2,g x ρ μ=.ok ρ1 μ1/\fb ρ1 μ1=.next ρ2 μ2/\J r ρ2 μ2) :
  ∀{xs:List D}{ρ:Ro}{μ:aw},J xs ρ μ->∃ρ' μ',J [] ρ' μ'/\hX src g fb xs ρ μ=.next ρ' μ'
 |[],ρ,μ,h=>⟨ρ,μ,h,by unfold hX;rw[Gq (fin ρ μ h)]⟩
 |x::xs,ρ,μ,h=>by
  obtain⟨ho,ρ1,μ1,ρ2,μ2,e1,e2,h2⟩:=step x xs ρ μ h;obtain⟨ρ',μ',h3,e3⟩:=iM J fin step h2;refine⟨ρ',μ',h3,?_⟩;unfold hX;rw[Gq ho,e1];simp only[ae];rw[e2];exact e3
end L2
namespace L2
open PySem PySem.Spec PyProof.Rows RS
theorem EH{P:Program}{w:World}{K:W.Frag}{mg:Str->Option Value}{base:Heap}{p:Pa}{k n:Nat}{x qual:Str}{st:Stmt}{f:Addr}{fd:FuncData}{N ps:List Str}{fb:MS}
  (F:gh K x qual st f fd) (S:aS N ps (ar st)) (hn:ps.length=n)
  (body : ∀ (cdv : Value) (A : Around) (outer : List Env) (s : Shared) (H : Hp) (E : XK), fS k (A.deeper (envOfC qual (ar st) s.heap.objs.size f cdv)) ->
   Bx (i6 (nY vC P w K mg base N qual (ar st) f cdv A outer s H E).nox (bP st) (gJ p fb))):mQ P w K mg base vC (k+1) f fd ps (Ao p n (hV n N.length fb)):=by
 refine F.ok S (fun vs H Q E h=>h.1.trans hn.symm) fun cdv A outer s H vs Q E hr h=>?_;refine⟨_,(body cdv A outer s H E hr).h,?_⟩;obtain⟨hl,α,ds,μ,S1,R1,P1⟩:=h;unfold hV at P1;have hd:ds.length=n:=by rw[<- R1.length];exact hl
 rw[Gq hd]at P1;have P2:=tJ S1 P1;unfold start;rw[hl];refine⟨α,_,μ,S1,mB R1 _,?_⟩;cases e:fb (ds.map some++List.replicate (N.length-n) none) μ with
 |ret d μ'=>rw[e]at P2;exact fun H' α' v x s r=>P2 H' α' x s v r
 |next ρ μ'=>rw[e]at P2;exact fun H' α' σ' x s r=>P2 H' α' x s .non (bA.mpr rfl)
 |exc x μ'=>rw[e]at P2;exact P2
 |brk ρ μ'=>rw[e]at P2;exact P2.elim
 |cnt ρ μ'=>rw[e]at P2;exact P2.elim
 |bad=>rw[e]at P2;exact P2.elim
theorem nr{K:W.Frag}{H:Hp}{α:List Addr}:∀ns:List Int,Reps K H α (ns.map D.int) (ns.map V.int)
 |[]=>by simp only[HE,Reps]
 |n::ns=>by
  simp only[HF,Reps];exact⟨_,_,rfl,aj.mpr rfl,nr ns⟩
theorem xV{K:W.Frag}{w:World}{F:List D->aw->af D}{H:Hp}{a:Addr}{ns:List Int}{E:XK}(hF:∃μ',F [.frz (ns.map D.int)] []=.ok (.bl true) μ')(hO:yB H)(hS:dW K H a (ns.map V.int)) :
  Ao (dA K w) 1 F [.ref a] H (fun v _=>v=.bl true) E:=by
 obtain⟨μ',e⟩:=hF
 have fz:Aq K H a (ns.map V.int):=by
  rcases hS with (h|h)|h
  ·rcases hO a with z | ⟨o, xs, z⟩
   ·rw[h]at z;cases z
   ·rw[h]at z;cases z
  ·exact .inl h
  ·exact .inr h
 refine⟨rfl,[],[.frz (ns.map D.int)],[],⟨rfl,I0,fun n o a h=>by simp at h⟩,?_,?_⟩
 ·simp only[Reps];exact⟨_,_,rfl,a9.mpr ⟨a,_,rfl,fz,nr ns⟩,rfl⟩
 ·rw[e];exact fun H' α' x s v r=>aQ.mp r
end L2
namespace L2
open PySem PySem.Spec PyProof.Rows RS
section
variable{X:Cx}{p:Pa}
def eQ(d:D)(ds:List D)(μ:aw):af D:=match d,ds with
 |.obj m,[.obj n]=>match μ[m]?,μ[n]? with
  |some (.lst xs),some (.lst ys)=>if xs.length+ys.length<=sizeLine then .ok .non (μ.set m (.lst (xs++ys))) else .bad
  |_,_=>.bad
 |_,_=>.bad
theorem zV:Dr p eQ tj:=by
 intro d ds v vs H α μ Q S rd rs P;unfold eQ at P;split at P
 ·rename_i m n;split at P
  ·rename_i xs ys hx hy;split at P
   ·rename_i hb;obtain⟨a,us,rfl,a1,h1,rr⟩:=b6 S rd hx;obtain⟨w,rfl,rw'⟩:=rs.one;obtain⟨a',us',rfl,a1',h1',rr'⟩:=b6 S rw' hy;have q:=rr.append rr';exact⟨a,a',us,us',rfl,rfl,h1,h1',by rw[rr.length,rr'.length];exact hb,P _ _ (gN h1) (S.put hx a1 h1 q) _ (bA.mpr rfl)⟩
   ·exact P.elim
  ·exact P.elim
 ·exact P.elim
def lD(neg:Bool)(a b:D)(μ:aw):af D:=match a,b with
 |.str x,.str y=>.ok (.bl (if neg then !decide (x=y) else decide (x=y))) μ
 |_,_=>.bad
theorem sR{x y:Str}:decide (V.str x=V.str y)=decide (x=y):=by
 by_cases e:x=y
 ·subst e;simp
 ·rw[Gm e,Gm];intro z;cases z;exact e rfl
theorem CP:mM p (lD false) Ff:=by
 intro a b v y H α μ Q S ra rb P;unfold lD at P;split at P
 ·rename_i x z;obtain rfl:=aD.mp ra;obtain rfl:=aD.mp rb;exact⟨rfl,by rw[sR];exact P.now S _ (aQ.mpr rfl)⟩
 ·exact P.elim
theorem CL:mM p (lD true) Fe:=by
 intro a b v y H α μ Q S ra rb P;unfold lD at P;split at P
 ·rename_i x z;obtain rfl:=aD.mp ra;obtain rfl:=aD.mp rb;exact⟨rfl,by rw[sR];exact P.now S _ (aQ.mpr rfl)⟩
 ·exact P.elim
theorem EB:jf X p .Eq (lD false):=⟨Ff,Eu,CP⟩
theorem v3:jf X p .NotEq (lD true):=⟨Fe,Et,CL⟩
end
end L2
namespace L2
open PySem PySem.W PyProof.Rows RS
section
variable{prog:Program}{w:World}{A:Around}{E:Value->Shared->Prop}
end
section
variable{X:Cx}
end
theorem F6{α:Type}{P:List α->Prop}(h:∀a,P [a]):∀us:List α,us.length=1->P us
 |[a],_=>h a
theorem us2{α:Type}{P:List α->Prop}(h:∀a b,P [a,b]):∀us:List α,us.length=2->P us
 |[a,b],_=>h a b
theorem F5{α:Type}{P:List α->Prop}(h:∀a b c,P [a,b,c]):∀us:List α,us.length=3->P us
 |[a,b,c],_=>h a b c
theorem gh.b1{K:W.Frag}{x qual:Str}{st:Stmt}{f:Addr}{fd:FuncData}{ps:List Str}(F:gh K x qual st f fd)(hl:ps.length=1)(h:∀(kV doc pm:Value)(an:Option Addr)(cdv ct a:Value),bindArgs (W.fnOf x qual (c5 st) (bP st) (ar st) .none kV doc pm an cdv ct) ⟨[a],[]⟩=pure (ps.zip [a])):g7 K fd ps []:=
 F.binds fun kV doc pm an cdv ct us e=>F6 (P:=fun us=>bindArgs (W.fnOf x qual (c5 st) (bP st) (ar st) .none kV doc pm an cdv ct) ⟨us,[]⟩=pure (ps.zip us)) (fun a=>h kV doc pm an cdv ct a) us (e.trans hl)
theorem gh.b2{K:W.Frag}{x qual:Str}{st:Stmt}{f:Addr}{fd:FuncData}{ps:List Str}(F:gh K x qual st f fd)(hl:ps.length=2)(h:∀(kV doc pm:Value)(an:Option Addr)(cdv ct a b:Value),bindArgs (W.fnOf x qual (c5 st) (bP st) (ar st) .none kV doc pm an cdv ct) ⟨[a,b],[]⟩=pure (ps.zip [a,b])):g7 K fd ps []:=
 F.binds fun kV doc pm an cdv ct us e=>us2 (P:=fun us=>bindArgs (W.fnOf x qual (c5 st) (bP st) (ar st) .none kV doc pm an cdv ct) ⟨us,[]⟩=pure (ps.zip us)) (fun a b=>h kV doc pm an cdv ct a b) us (e.trans hl)
theorem gh.b3{K:W.Frag}{x qual:Str}{st:Stmt}{f:Addr}{fd:FuncData}{ps:List Str}(F:gh K x qual st f fd)(hl:ps.length=3)(h:∀(kV doc pm:Value)(an:Option Addr)(cdv ct a b c:Value),bindArgs (W.fnOf x qual (c5 st) (bP st) (ar st) .none kV doc pm an cdv ct) ⟨[a,b,c],[]⟩=pure (ps.zip [a,b,c])):g7 K fd ps []:=
 F.binds fun kV doc pm an cdv ct us e=>F5 (P:=fun us=>bindArgs (W.fnOf x qual (c5 st) (bP st) (ar st) .none kV doc pm an cdv ct) ⟨us,[]⟩=pure (ps.zip us)) (fun a b c=>h kV doc pm an cdv ct a b c) us (e.trans hl)
end L2
namespace L2
open PySem PySem.Spec PyProof.Rows RS
section
variable{X:Cx}{d:Nat}{acc:Addr}
variable{e:Expr}{cl0:Comprehension}{rest:List Comprehension}{scope:Scope}{Nc:List Str}{cap:List (Option Nat)}{wi:TI}{g:TG}{tt:TT}{tb:Addr->A3}{elt:Expr}{pos:Pos}
end
section
variable{K:W.Frag}{w:World}{H:Hp}{α:List Addr}{μ:aw}
end
section
variable{p:Pa}
variable{X:Cx}{elt tg iter:Expr}{ifs:List Expr}{rest:List Comprehension}{scope:Scope}{Nc:List Str}{cap:List (Option Nat)}{fi:MI}{g:MG}{tt:MT}{te:ME}{mb:MB}{pos:Pos}{d:Nat}{acc:Addr}
end
section
variable{p:Pa}{X:Cx}{e:Expr}{fr:MA}{pos:Pos}
theorem vQ {fo:ME}{ob:Expr}{apos:Pos} (ho:Bx (PE X ob (tD p fo))) (ha:Bx (PA X [e] (j5 p fr))) (hbase:attributeBase ob "extend" X.env (eval ob X.env)=eval ob X.env:=by rfl) (hfew:((backTo pos (starEach [e] X.env)).all (fun x=>!x.1)&&(backToKw pos (keywordEach [] X.env)).all (fun x=>x.1.isSome)
   && decide ([e].length+([]:List Keyword).length+(if ([]:List Keyword).isEmpty then 0 else 1)<30))=true:=by rfl) (hline:(apos.endLine == pos.line)=true:=by rfl) (hs:starEach [e] X.env=(false,eval e X.env)::starEach [] X.env:=by rfl) (hpl:(backTo pos (starEach [] X.env)).any (·.1)=false:=by rfl) (hK:X.K=p.K:=by rfl):Bx (PE X (.Call (.Attribute ob "extend" apos) [e] [] pos) (tD p (yo eQ fo fr))):=⟨Ay hK PySem.F.slot_list_extend PySem.F.type_list_extend uQ zV ho.h ha.h hbase hfew hline hs hpl⟩
end
end L2
namespace L2
open PySem PySem.Spec PyProof.Rows RS
section
variable{X:Cx}{E:XK}{k n:Nat}{x:Str}{F:List D->aw->af D}{a:Expr}{es:List Expr}{fr:MA}{pos px:Pos}
end
section
variable{P:Program}{w:World}{K:W.Frag}{mg:Str->Option Value}{base:Heap}{N:List Str}{qual:Str}{scope:Scope}{f:Addr}{cdv:Value}{A:Around}{outer:List Env}{s0:Shared}{H0:Hp}{E:XK}
end
end L2
namespace L2
open PySem PySem.Spec PyProof.Rows RS
section
variable{X:Cx}
end
section
variable{p:Pa}
end
section
variable{X:Cx}{p:Pa}{a e ob:Expr}{fa fo:ME}{fr:MA}{pos px pt apos:Pos}{xT:Str}{subs known:List Str}
end
structure Gg(P:Program)(w:World)(K:W.Frag)(mg:Str->Option Value)(base:Heap)(p:Pa)(k:Nat)(x:Str)(n:Nat)(F:List D->aw->af D):Prop where
 len:∀ds μ,ds.length≠n->F ds μ=.bad
 fn:∃f fd ps,mg x=some (.ref f)/\W.keepIn K (.ref f)=true/\g7 K fd ps []/\ER P w K mg base vC k f fd ps (Ao p n F)
end L2
namespace L2
open PySem PySem.Spec PyProof.Rows RS
section
variable{X:Cx}{k n:Nat}{x:Str}{F:List D->aw->af D}{a b c d:Expr}{es:List Expr}{fr:MA}{pos px:Pos}
variable{p:Pa}{ta tb tc td:TE}{fa fb fc fd:ME}{op op' op'':CmpOp}{r r' r'':R2}{o1 o2 o3:D->D->aw->af D}
end
section
variable{X:Cx}
end
section
variable{p:Pa}
end
section
variable{X:Cx}{p:Pa}{e ob:Expr}{fo:ME}{fr:MA}{pos apos:Pos}
end
end L2
namespace L2
open PySem PySem.Spec PyProof.Rows RS
section
variable{X:Cx}{p:Pa}{a b:Expr}{fa fb:ME}{pos:Pos}
end
section
variable(K:W.Frag)(H:Hp)
end
section
variable{X:Cx}{pins:List (Addr×Obj)}{σ:St}{H:Hp}{s:Shared}
end
section
variable{K:W.Frag}{w:World}{H:Hp}{α:List Addr}{μ:aw}
end
end L2
namespace L2
open PySem PySem.Spec PyProof.Rows RS
section
variable{X:Cx}{p:Pa}{es:List Expr}{Fs:List (List D->aw->af D)}{fs:List Addr}
end
section
variable{X:Cx}{p:Pa}{es:List Expr}{Fs:List (List D->aw->af D)}{i:Nat}{x:Str}{a:Expr}{as:List Expr}{fr:MA}{pos ps pl pn:Pos}
end
section
variable{X:Cx}{E:XK}{k n:Nat}{x:Str}{F:List D->aw->af D}
end
end L2
namespace L2
open PySem PySem.W PyProof.Rows RS
section
variable{prog:Program}{w:World}{A:Around}{E:Value->Shared->Prop}
end
section
variable{X:Cx}
end
end L2
namespace RS
open PySem PySem.W PyProof.Rows
def gK:Nat->List Int->Int
 |0,_=>0
 |_+1,[]=>0
 |n+1,x::r=>(x+1)*7^n+gK n r
def h9(k:List Int):Int:=gK 6 k
def yq(k:List Int):Prop:=∀x∈k,0<=x/\x<6
def Sm(k:List Int):Prop:=k≠[]/\k.length<=6/\yq k
theorem lX:∀(n:Nat)(k:List Int),yq k->0<=gK n k/\gK n k<7^n
 |0,_,_=>by simp[gK]
 |n+1,[],_=>by
  have:(0:Int)<7^(n+1):=Kb (by decide);simp only[gK];omega
 |n+1,x::r,h=>by
  have ih:=lX n r fun y hy=>h y (GD _ hy);have hx:=h x GC;have p0:(0:Int)<7^n:=Kb (by decide);have a:0<=(x+1)*7^n:=Int.mul_nonneg (by omega) (by omega);have b:(x+1)*7^n<=6*7^n:=Kc (by omega) (by omega);simp only[gK];rw[Int.pow_succ];omega
def mO:List Int->List Int->Bool
 |[],[]=>false
 |[],_::_=>true
 |_::_,[]=>false
 |x::r,y::r'=>if x=y then mO r r' else decide (x<y)
theorem jP{n:Nat}{x y:Int}{r r':List Int}(hx:yq (x::r))(hy:yq (y::r'))(h:x<y):gK (n+1) (x::r)<gK (n+1) (y::r'):=by
 have a:=lX n r fun z hz=>hx z (GD _ hz);have b:=lX n r' fun z hz=>hy z (GD _ hz);have p0:(0:Int)<7^n:=Kb (by decide);have c:(x+1+1)*7^n<=(y+1)*7^n:=Kc (by omega) (by omega);rw[Int.add_mul (x+1) 1,Int.one_mul]at c;simp only[gK];omega
theorem lq:∀{n:Nat}{k k':List Int},yq k->yq k'->k.length<=n->k'.length<=n->decide (gK n k<gK n k')=mO k k'
 |n,[],[],_,_,_,_=>by cases n <;> simp[gK,mO]
 |0,_::_,_,_,_,h,_=>by simp at h
 |0,[],_::_,_,_,_,h=>by simp at h
 |n+1,[],y::r',_,hy,_,_=>by
  have b:=lX n r' fun z hz=>hy z (GD _ hz);have p0:(0:Int)<7^n:=Kb (by decide);have:=hy y GC;have:0<(y+1)*7^n:=Int.mul_pos (by omega) p0;exact HQ (by simp only[gK];omega)
 |n+1,x::r,[],hx,_,_,_=>by
  have b:=lX (n+1) (x::r) hx;exact Gm (by simp only[gK]at b⊢;omega)
 |n+1,x::r,y::r',hx,hy,h1,h2=>by
  simp only[HV]at h1 h2;unfold mO;by_cases e:x=y
  ·subst e;rw[Gq rfl,<- lq (n:=n) (fun z hz=>hx z (GD _ hz)) (fun z hz=>hy z (GD _ hz)) (by omega) (by omega)];rw[Jz];simp only[gK];constructor <;> intro h <;> omega
  ·rw [Gr e];by_cases l:x<y
   ·rw[HQ l,HQ (jP hx hy l)]
   ·have:=jP (n:=n) hy hx (show y<x by omega);rw[Gm l,Gm (by omega)]
theorem qm:∀{n:Nat}{k k':List Int},yq k->yq k'->k.length<=n->k'.length<=n->gK n k=gK n k'->k=k'
 |_,[],[],_,_,_,_,_=>rfl
 |n,[],y::r',hx,hy,h1,h2,e=>by
  have:=lq (n:=n) hx hy h1 h2;rw[e]at this;simp[mO]at this
 |n,x::r,[],hx,hy,h1,h2,e=>by
  have:=lq (n:=n) hy hx h2 h1;rw[e]at this;simp[mO]at this
 |0,_::_,_::_,_,_,h,_,_=>by simp at h
 |n+1,x::r,y::r',hx,hy,h1,h2,e=>by
  have xy:x=y:=by
   by_cases l:x<y
   ·have:=jP (n:=n) hx hy l;omega
   ·by_cases l' : y < x
    ·have:=jP (n:=n) hy hx l';omega
    ·omega
  subst xy;simp only[HV]at h1 h2;simp only[gK]at e;rw[qm (n:=n) (fun z hz=>hx z (GD _ hz)) (fun z hz=>hy z (GD _ hz)) (by omega) (by omega) (by omega)]
theorem ql{k k':List Int}(h:Sm k)(h':Sm k')(e:h9 k=h9 k'):k=k':=qm h.2.2 h'.2.2 h.2.1 h'.2.1 e
def fW(ps:List KP):Prop:=ps.Pairwise fun p q=>h9 p.1<h9 q.1
section
variable{prog:Program}{w:World}{A:Around}{E:Value->Shared->Prop}{s:Shared}
theorem mn:∀{k:List Int}{vs:List Value},ItemsAre (intKind prog w) k vs->IntsAre vs k
 |_,_,.nil=>.nil
 |a::k,v::vs,.cons h1 t=>by
  obtain⟨x1,e1⟩:=Gk (k:=a) h1;subst e1;exact .cons a x1 (mn t)
theorem og {h:Heap}{k:List Int}{r:Addr} (t:Tk prog w h k r):∃o n vs,h.get? r=some o/\o.cls=.type "tuple" /\ o.data=.seq vs n/\IntsAre vs.toList k:=by
 obtain⟨o,items,n,ho,hc,hd,hi⟩:=t;exact⟨o,n,items,ho,hc,hd,mn hi⟩
theorem qe{Q:Bool->Shared->Prop}{fin:Bool}:∀{k k':List Int}{vs us:List Value}{i:Nat},IntsAre vs k->IntsAre us k'->fin=decide (k.length<k'.length)->Q (mO k k') s->KatLex prog w A true fin Q (vs.zip us) i s
 |_,_,_,_,i,.nil,.nil,hf,q=>by
  subst hf;exact kat_nil q
 |_,_,_,_,i,.nil,.cons y t hu,hf,q=>by
  subst hf;rw[List.zip_nil_left];exact kat_nil (by simpa[mO] using q)
 |_,_,_,_,i,.cons x t hv,.nil,hf,q=>by
  subst hf;rw[List.zip_nil_right];exact kat_nil (by simpa[mO] using q)
 |_,_,_,_,i,.cons x t hv,.cons y t' hu,hf,q=>by
  rw[J4];refine kat_cons (Gp ?_);unfold mO at q;by_cases e:x=y
  ·rw[show (x == y)=true by simpa using e];rw[Gq e]at q;refine kat_yes (qe hv hu ?_ q);rw[hf];simp
  ·rw [show (x == y) = false by simpa using e];rw[Gr e]at q;refine kat_no ?_;cases i with
   |zero=>
    show wpAny _ A (keyLt' oneType' _ _) Q _ s;exact kat_lt_int q
   |succ i=>
    show wpAny _ A (oneLt' false _ _) Q _ s;exact kat_one _ _ (lt_int q)
theorem Br{x y:Addr}{k k':List Int}{Q:Bool->Shared->Prop}(hx:Tk prog w s.heap k x)(hy:Tk prog w s.heap k' y)(hk:Sm k)(hk':Sm k')(h:Q (decide (h9 k<h9 k')) s) :
  wpAny (model prog w) A (keyLt' (tuples' true) (.ref x) (.ref y)) Q E s:=by
 obtain⟨o,n,vs,ho,_,hd,hv⟩:=og hx;obtain⟨o',n',us,ho',_,hd',hu⟩:=og hy;refine kat_lt ho hd ho' hd' (qe hv hu ?_ ?_)
 ·have a:=hv.length;have b:=hu.length;simp only[GO]at a b;rw[a,b]
 ·unfold h9 at h;rw[lq hk.2.2 hk'.2.2 hk.2.1 hk'.2.1]at h;exact h
theorem pL{h:Heap}:∀{ps:List KP},(∀p∈ps,Sm p.1)->(∀p∈ps,Tk prog w h p.1 p.2)->∃fs,KatTups h (au ps) fs/\fs.length=ps.length/\∀v∈fs,∃i t,v=Value.int i t
 |[],_,_=>⟨[],KatTups.nil,rfl,fun v hv=>by simp at hv⟩
 |p::ps,hk,ht=>by
  obtain⟨fs,h1,h2,h3⟩:=pL (ps:=ps) (fun q hq=>hk q (GD _ hq)) (fun q hq=>ht q (GD _ hq));obtain⟨o,n,vs,ho,hc,hd,hi⟩:=og (ht p GC);have ne:=(hk p GC).1
  obtain⟨x,t,e0⟩:∃x t,vs[0]?=some (Value.int x t):=by
   cases e:p.1 with
   |nil=>exact absurd e ne
   |cons a r=>
    rw[e]at hi;generalize hl:vs.toList=l at hi;cases hi with
    |cons _ t _=>exact⟨a,t,by rw[<- Iu,hl];rfl⟩
  refine⟨.int x t::fs,KatTups.cons ho hc hd e0 h1,by rw[HV,HV,h2],fun v hv=>?_⟩;rcases GE.mp hv with q|q
  ·exact⟨x,t,q⟩
  ·exact h3 v q
theorem zH{ps:List KP}(hk:∀p∈ps,Sm p.1)(hn:(ps.map (·.1)).Nodup){p:Array Nat}(g:df ps.length p)(ha:vF (fun i=>h9 (ps.getD i ([],0)).1) p ps.length) :
  ∃out:List KP,(p.toList.map fun i=>(au ps).getD i Value.none)=au out/\out.Perm ps/\fW out:=by
 refine⟨p.toList.map fun i=>ps.getD i ([],0),?_,?_,?_⟩
 ·unfold au;rw[Iz];refine IA fun i hi=>?_;have hi':i<ps.length:=Gy.mp (g.perm.mem_iff.mp hi);simp[JA,hi']
 ·refine (g.perm.map _).trans ?_
  have:(List.range ps.length).map (fun i=>ps.getD i ([],0))=ps:=by
   apply JB;intro i;rw[Hj];by_cases hi:i<ps.length
   ·rw[JC hi];simp[hi]
   ·rw[JD (by simpa using hi),JD (by omega)];rfl
  rw[this]
 ·unfold fW;rw[JE];refine IG.mpr fun i j hi hj hij=>?_;have hi':i<p.size:=by simpa using hi
  have hj':j<p.size:=by simpa using hj
  have:=ha i j hij (by rw[<- g.size];exact hj');unfold at' at this;simpa[Array.getD,hi',hj'] using this
theorem uy {a:Addr}{ps:List KP}{n:Nat}{P:PySem.Fin->Shared->Prop} (ho:s.heap.get? a=some (seqObj "list" (au ps).toArray n)) (hk:∀p∈ps,Sm p.1) (hn:(ps.map (·.1)).Nodup) (hlen:ps.length<64) (hT:∀p∈ps,Tk prog w s.heap p.1 p.2)
  (h:∀out:List KP,out.Perm ps->fW out->P (.done (.ret .none)) {s with heap:=sortedHeap s.heap a (au ps) (au out).toArray}) :
  wpAny (model prog w) A (Builtin.«list.sort» ⟨[.ref a],[]⟩) P E s:=by
 have hvl:(au ps).length=ps.length:=by unfold au;rw[Hm]
 rw[list_sort_plain];have hal:a<s.heap.objs.size:=Gs ho;refine GR (JF ho rfl ?_);refine GR (JG ho rfl ?_ (by rw[G7,hvl];exact Gz (GA hlen) (by decide)) (Ig _));obtain⟨e1,ho1⟩:∃e1,(s.heap.update a (Obj.mapSeq fun _=>#[])).get? a=some (seqObj "list" #[] e1):=⟨_,JH ho (fun _=>#[])⟩;refine GR (JI ho1 rfl ?_);refine GR (wpAny_newTuple ?_);refine GR (JJ ?_);refine GS ?_
 have ho6:(((s.heap.update a (Obj.mapSeq fun _=>#[])).push (seqObj "tuple" (au ps).toArray 0)).push (seqObj "list" #[] 0)).get? a=some (seqObj "list" #[] e1):=by
  rw[Iv _ _ _ (by rw[JK,JL];exact Gw (HX hal)),Iv _ _ _ (by rw[JL];exact Gw hal)];exact ho1
 show wpAny (model prog w) A _ P E {s with heap:=((s.heap.update a (Obj.mapSeq fun _=>#[])).push (seqObj "tuple" (au ps).toArray 0)).push (seqObj "list" #[] 0)};dsimp only
 have hna:∀p∈ps,p.2≠a:=fun p hp e=>by
  obtain⟨o,items,m,ho',hc',_⟩:=hT p hp;rw[e,ho]at ho';have:=Gj ho';subst this;exact absurd (show Value.type "list" = Value.type "tuple" from hc') (by decide)
 generalize hS:({s with heap:=((s.heap.update a (Obj.mapSeq fun _=>#[])).push (seqObj "tuple" (au ps).toArray 0)).push (seqObj "list" #[] 0)}:Shared)=s1;have eh1:s1.heap=((s.heap.update a (Obj.mapSeq fun _=>#[])).push (seqObj "tuple" (au ps).toArray 0)).push (seqObj "list" #[] 0):=by rw[<- hS]
 have hT1:∀p∈ps,Tk prog w s1.heap p.1 p.2:=fun p hp=>by
  obtain⟨o,items,m,ho',rest⟩:=hT p hp;refine⟨o,items,m,?_,rest⟩;rw[eh1];refine GY _ (GY _ ?_);rw[JM _ _ _ _ (hna p hp)];exact ho'
 rw[<- eh1]at ho6
 have hfin:∀out:List KP,out.Perm ps->fW out->P (.done (.ret .none)) {s1 with heap:=s1.heap.update a (Obj.mapSeq fun _=>(au out).toArray)}:=fun out h1 h2=>by
  have q:=h out h1 h2;rw[<- hS];exact q
 have hszv:(au ps).toArray.size=ps.length:=by rw[G7,hvl]
 by_cases h2:(au ps).toArray.size<2
 ·rw [Gq h2, Gq h2];refine GR (GV ?_);rw[StateT.run_pure];refine GR (GV ?_);dsimp only;refine GR (JI ho6 rfl ?_)
  have eo:(arrOf (SortSt.mk' general' ((au ps).toArray.zip (au ps).toArray) #[] 7 none)).map (·.2)=(au ps).toArray:=by
   show (((au ps).toArray.zip (au ps).toArray)).map (·.2)=_;apply Jy.mp;rw[Jb,Array.toList_zip];exact List.map_snd_zip (G0 _)
  rw[eo];refine GR (JG ho6 rfl ?_ (Ig _) (by show (au ps).toArray.size<=_;rw[hszv];exact Gz (GA hlen) (by decide)));simp only[JN,HU,Hu];refine GV (hfin ps (JO _) ?_);rw[hszv]at h2
  match ps,h2 with
  |[],_=>exact List.Pairwise.nil
  |[_],_=>exact List.pairwise_singleton _ _
  |_::_::_,h=>rw[HV,HV]at h;omega
 ·rw [Gr h2, Gr h2];rw[hszv]at h2;obtain⟨fs,k1,k2,k3⟩:=pL hk hT1;refine GR (kat_kind (T:=Value.type "int") k1 (by omega) (fun v hv=>?_) (by rfl) ?_)
  ·obtain⟨i,t,e⟩:=k3 v hv;rw[e];exact .now
  ·have et : (Value.type "int" != Value.type "tuple") = true := by decide
   rw[et]
   refine GR (GM (kat_run (ks:=au ps) (vs:=au ps) (Q:=fun st' s'=>s'=s1/\failedOf st'=none/\∃out:List KP,out.Perm ps/\fW out/\(arrOf st').map (·.2)=(au out).toArray)
    (G:=fun p s'=>s'=s1/\∃out:List KP,(p.toList.map fun i=>(au ps).getD i Value.none)=au out/\out.Perm ps/\fW out) rfl (by rw[hvl];omega) (by rw[hvl];omega) ?_ ?_) ?_ fun _ _ e=>e)
   ·rintro p st' s' hp har hf ⟨e, out, o1, o2, o3⟩
    exact⟨e,hf,out,o2,o3,by rw[kat_snds rfl har,o1]⟩
   ·rw [hvl];refine sW (key:=fun i=>h9 (ps.getD i ([],0)).1) (fun i j hi hj e=>?_) (fun i j hi hj C hC=>?_) (by omega) _ (fun p g ha=>⟨rfl,zH hk hn g ha⟩)
    ·have hi' : ps.getD i ([], 0) = ps[i] := by simp [JA, hi]
     have hj':ps.getD j ([],0)=ps[j]:=by simp[JA,hj]
     simp only[hi',hj']at e;have e2:=ql (hk _ (JP hi)) (hk _ (JP hj)) e;have hil:i<(ps.map (·.1)).length:=by rw[Hm];exact hi
     have hjl:j<(ps.map (·.1)).length:=by rw[Hm];exact hj
     exact(GJ (h₀:=hil) (h₁:=hjl) hn).mp (by simpa using e2)
    ·unfold kas_ask;have gi:(au ps).getD i Value.none=.ref ps[i].2:=by unfold au;simp[JA,hi]
     have gj:(au ps).getD j Value.none=.ref ps[j].2:=by unfold au;simp[JA,hj]
     have hi':ps.getD i ([],0)=ps[i]:=by simp[JA,hi]
     have hj':ps.getD j ([],0)=ps[j]:=by simp[JA,hj]
     rw[gi,gj];simp only[hi',hj']at hC;exact Br (hT1 _ (JP hi)) (hT1 _ (JP hj)) (hk _ (JP hi)) (hk _ (JP hj)) hC
   ·rintro ⟨⟨⟩, st'⟩ s' ⟨rfl, hf, out, o1, o2, o3⟩
    dsimp only;refine GR (JI ho6 rfl ?_);rw[o3];refine GR (JG ho6 rfl ?_ (Ig _) (by show (au out).toArray.size<=_;rw[G7];unfold au;rw[Hm,o1.length_eq];exact Gz (GA hlen) (by decide)));rw[hf];simp only[JN,HU,Hu];exact GV (hfin out o1 o2)
theorem rN{x:Value}{ps:List KP}{Q:Value->Shared->Prop}(hk:∀p∈ps,Sm p.1)(hn:(ps.map (·.1)).Nodup)(h64:ps.length<64)(hT:∀p∈ps,Tk prog w s.heap p.1 p.2)
  (hcol:∀Q':List Value->Shared->Prop,(∀qs:List KP,qs.Perm ps->∀h',(∀b u,s.heap.get? b=some u->h'.get? b=some u)->s.heap.objs.size<=h'.objs.size->Q' (au qs) {s with heap:=h'})->wpAny (model prog w) A.in1 (collect x) Q' E s)
  (h:∀out:List KP,out.Perm ps->fW out->∀h' D,s.heap.objs.size<=D->(∀b u,s.heap.get? b=some u->h'.get? b=some u)->(∃n,h'.get? D=some (seqObj "list" (au out).toArray n))->Q (.ref D) {s with heap:=h'}) :
  wpAny (model prog w) A (call (.builtin "sorted") [x]) Q E s:=by
 refine JT JU JV JW (JX _) ?_;unfold Builtin.«sorted»;refine GR (m:=checkCount "sorted" 1 1 _) (GV ?_);refine GR (hcol _ fun qs hqs h1 k1 hsz=>?_);have hkq:∀p∈qs,Sm p.1:=fun p hp=>hk p (hqs.mem_iff.mp hp);have hnq:(qs.map (·.1)).Nodup:=(hqs.map _).nodup_iff.mpr hn;have hlen:qs.length<64:=by rw[hqs.length_eq];exact h64
 have hvl:(au qs).length<=63:=by unfold au;rw[Hm];exact IK hlen
 refine GR (JJ ?_ (Gz hvl (by decide)));have hoL:(h1.push (seqObj "list" (au qs).toArray 0)).get? h1.objs.size=some (seqObj "list" (au qs).toArray 0):=GZ _ rfl;have hnn:∀b u,h1.get? b=some u->b≠h1.objs.size:=fun b u q=>Gw (Gs q);refine GR (GS (HA JY (s:={s with heap:=h1.push (seqObj "list" (au qs).toArray 0)}) ⟨_,hoL,rfl⟩ JZ ?body (J0 _)))
 case body=>
  refine uy (s:={s with heap:=h1.push (seqObj "list" (au qs).toArray 0)}) hoL hkq hnq hlen (fun p hp=>?_) fun out h2 h3=>?_
  ·obtain⟨o,its,n,ho,rest⟩:=hT p (hqs.mem_iff.mp hp);exact⟨o,its,n,GY _ (k1 _ _ ho),rest⟩
  ·refine ⟨_, rfl, GV ⟨_, rfl, h out (h2.trans hqs) h3 _ h1.objs.size hsz (fun b u q => ?_) ?_⟩⟩
   ·have hb:=hnn b u (k1 b u q);unfold sortedHeap;rw[JM _ _ _ _ hb];refine GY _ (GY _ ?_);rw[JM _ _ _ _ hb];exact GY _ (k1 b u q)
   ·unfold sortedHeap;have g1:=JH hoL (fun _=>#[]);have g2:=GY (seqObj "list" #[] 0) (GY (seqObj "tuple" (au qs).toArray 0) g1);exact⟨_,JH g2 (fun _=>(au out).toArray)⟩
end
end RS
namespace L2
open PySem PySem.Spec PyProof.Rows RS
section
variable{X:Cx}
def wA(K:W.Frag):List V->Hp->VK->Prop:=fun xs H Q=>∃(a:Addr)(ps:List KP),xs=[.ref a]/\dW K H a (fq ps)/\(∀p∈ps,Sm p.1/\eD K H p.2 (p.1.map V.int))/\(ps.map (·.1)).Nodup/\ps.length<64 /\
 ∀out:List KP,out.Perm ps->fW out->∀l,H l=none->Q (.ref l) (cj H l (.lst (fq out)))
theorem si:bM X (.builtin "sorted") (wA X.K):=by
 intro pins s σ H xs us Q I r h;obtain⟨a,ps,rfl,ha,hT,hn,h64,q⟩:=h;obtain⟨u,rfl,ru⟩:=dm r;cases ru;obtain⟨its,rv,⟨o,n,e1,e2,_,e3⟩,hz⟩:=I.list ha;have ev:its=au ps:=iR rv;subst ev;have hl:(au ps).length<=sizeLine:=by unfold au;rw[Hm];exact Gz (GA h64) (by decide)
 refine rN (fun p hp=>(hT p hp).1) hn h64 (fun p hp=>sC I (hT p hp).2) (fun Q' hq=>kJ (.inl rfl) e1 e2 e3 (hq ps (JO _) _ (fun b u e=>?_) ?_) hl) fun out hp hr h' D hD hk hnn=>?_
 ·rw[JM _ _ _ _ (Gw (Gs e))];exact GY _ e
 ·rw[JL,JK];exact Iw _
 ·refine⟨.ref D,cj H D (.lst (fq out)),I.laid (t':=s.toks) (fun b ob e=>hk b ob e) hD ?_,rfl,q out hp hr _ (I.hok.fresh hD)⟩;obtain⟨n,e⟩:=hnn;refine⟨?_,au out,n,iy out,e⟩;unfold fq;rw[Hm,hp.length_eq];exact Gz (GA h64) (by decide)
end
def Fd(ns:List Int):Bool:=!ns.isEmpty&&(decide (ns.length<=6)&&ns.all fun x=>decide (0<=x)&&decide (x<6))
theorem y8{ns:List Int}:Fd ns=true↔Sm ns:=by
 unfold Fd Sm yq;rw[HC,HC,J3,Jd];constructor
 ·rintro ⟨h1, h2, h3⟩
  refine⟨fun e=>by subst e;simp at h1,h2,fun x hx=>by simpa using h3 x hx⟩
 ·rintro ⟨h1, h2, h3⟩
  refine⟨?_,h2,fun x hx=>by simpa using h3 x hx⟩;cases ns with
  |nil=>exact absurd rfl h1
  |cons=>rfl
def sA:D->Option (List Int)
 |.tup xs=>match ig xs with
  |some ns=>if Fd ns=true then some ns else none
  |none=>none
 |_=>none
def ph:List D->Option (List (List Int))
 |[]=>some []
 |x::xs=>match sA x with
  |some k=>match ph xs with
   |some ks=>some (k::ks)
   |none=>none
  |none=>none
theorem wW{x:D}{k:List Int}(h:sA x=some k):x=aA k/\Sm k:=by
 unfold sA at h;split at h
 ·split at h
  ·rename_i xs ns e;split at h
   ·rename_i hs;cases h;exact⟨by rw[dQ e];rfl,y8.mp hs⟩
   ·cases h
  ·cases h
 ·cases h
theorem pM:∀{xs:List D}{ks:List (List Int)},ph xs=some ks->xs=ks.map aA/\∀k∈ks,Sm k
 |[],ks,h=>by cases h;exact⟨rfl,by simp⟩
 |x::xs,ks,h=>by
  unfold ph at h;cases e1:sA x with
  |none=>rw[e1]at h;cases h
  |some k=>
   rw[e1]at h;cases e2:ph xs with
   |none=>rw[e2]at h;cases h
   |some r=>
    rw[e2]at h;cases h;obtain⟨a,b⟩:=wW e1;obtain⟨c,d⟩:=pM e2;exact⟨by rw[a,c];rfl,fun z hz=>(GE.mp hz).elim (fun y=>by rw[y];exact b) (d z)⟩
def sD(ks:List (List Int)):List (List Int):=ks.mergeSort fun a b=>decide (h9 a<=h9 b)
theorem mh{ks:List (List Int)}:(sD ks).Perm ks:=List.mergeSort_perm ks _
theorem xh{ks:List (List Int)}:(sD ks).Pairwise fun a b=>h9 a<=h9 b:=by
 have:=List.pairwise_mergeSort (le:=fun(a b:List Int)=>decide (h9 a<=h9 b)) (fun a b c h1 h2=>by simp at *;omega) (fun a b=>by simp;omega) ks;exact this.imp fun h=>by simpa using h
theorem xg{ks ks':List (List Int)}(hs:∀k∈ks,Sm k)(hp:ks'.Perm ks)(hr:ks'.Pairwise fun a b=>h9 a<=h9 b):ks'=sD ks:=
 (hp.trans mh.symm).eq_of_pairwise (fun a b ha hb h1 h2=>ql (hs a (hp.mem_iff.mp ha)) (hs b (mh.mem_iff.mp hb)) (J8 h1 h2)) hr xh
def gA(ds:List D)(μ:aw):af D:=match ds with
 |[.obj n]=>match μ[n]? with
  |some (.lst xs)=>match ph xs with
   |some ks=>if ks.Nodup/\ks.length<64 then .ok (.obj μ.length) (μ++[.lst ((sD ks).map aA)]) else .bad
   |none=>iP [.obj n] μ
  |_=>iP [.obj n] μ
 |ds=>iP ds μ
theorem rW{p:Pa}:qO p gA (fun xs H Q=>wA p.K xs H Q\/((rm p.K xs H Q\/rk p.K p.w xs H Q)\/rj p.w xs H Q)):=by
 intro ds vs H α μ Q S r P;unfold gA at P;split at P
 ·rename_i n;split at P
  ·rename_i xs hx;split at P
   ·rename_i ks hks;split at P
    ·rename_i hc;obtain⟨f1,f2⟩:=pM hks;obtain⟨v,rfl,r1⟩:=r.one;obtain⟨a,us,rfl,a1,h1,rr⟩:=b6 S r1 hx;rw[f1]at rr;obtain⟨qs,e1,e2,e3⟩:=rr.keys;subst e2;refine .inl ⟨a,qs,rfl,dW.of h1,fun q hq=>⟨f2 _ (by rw[<- e1];exact IQ hq),e3 q hq⟩,by rw[e1];exact hc.1,by rw[<- Hm (f:=(·.1)),e1];exact hc.2,fun out hp hr l hl=>?_⟩;have ro:p.Rs H α ((out.map (·.1)).map aA) (fq out):=iA fun q hq=>e3 q (hp.mem_iff.mp hq);have hk:(out.map (·.1)).Perm ks:=by rw[<- e1];exact hp.map _
     rw[xg f2 hk (JE.mpr (hr.imp fun h=>Int.le_of_lt h))]at ro;obtain⟨x1,x2,x3⟩:=b9 S hl ro;exact P _ _ x1 x2 _ x3
    ·exact P.elim
   ·exact .inr (kn _ _ _ _ _ _ S r P)
  ·exact .inr (kn _ _ _ _ _ _ S r P)
 ·exact .inr (kn _ _ _ _ _ _ S r P)
theorem vq {X:Cx}{p:Pa} (hc:X.calm=true:=by rfl) (hK:X.K=p.K:=by rfl) (hw:X.w=p.w:=by rfl):kY X p "sorted" gA:=⟨_,_,.inl ⟨_,rfl⟩,by decide +kernel,si.or ((so.or (sm hc)).or (sk hc)),by rw[hK,hw];exact rW,by decide,by decide⟩
end L2
namespace L2
open PySem PySem.Spec PyProof.Rows RS
open AutoSeq1 (wpAny_loadPart')
section
variable{prog:Program}{w:World}{A:Around}{E:Value->Shared->Prop}{s:Shared}
end
end L2
namespace L2
open PySem PySem.Spec PyProof.Rows RS
section
variable{X:Cx}{p:Pa}{a:Expr}{fr:MA}
end
end L2
namespace RS
open PySem PySem.W PyProof.Rows
section
variable{prog:Program}{w:World}{A:Around}{E:Value->Shared->Prop}{s:Shared}
end
end RS
namespace L2
open PySem PySem.Spec PyProof.Rows RS
section
variable{X:Cx}
end
end L2
namespace L2
open PySem PySem.Spec PyProof.Rows RS
end L2
namespace RS
open PySem PySem.W PyProof.Rows
structure ZA(z TI TO i1 i2:Addr)(f1 f2:List Addr):Prop where
 TIz:TI≠z
 TOz:TO≠z
 i1z:i1≠z
 i2z:i2≠z
 TOi1:TO≠i1
 TOi2:TO≠i2
 z1:z∉f1
 z2:z∉f2
 t1:TO∉f1
 t2:TO∉f2
 j1:i2∉f1
 j2:i1∉f2
section
variable{prog:Program}{w:World}{A:Around}{E:Value->Shared->Prop}{s:Shared}{z TI TO i1 i2:Addr}{f1 f2:List Addr}{n1 n2 k:Nat}{P1 P2:Nat->Value->Prop}{S1 S2:Nat->Heap->Prop}{a b:Value}
end
section
variable{prog:Program}{w:World}{A:Around}{E:Value->Shared->Prop}{s:Shared}
end
end RS
namespace L2
open PySem PySem.Spec PyProof.Rows RS
structure ZN(z TI TO i1 i2 a1 a2:Addr):Prop where
 nd:[z,TI,TO,i1,i2].Nodup
 n1:∀b∈[z,TI,TO,i1,i2],a1≠b
 n2:∀b∈[z,TI,TO,i1,i2],a2≠b
section
variable{X:Cx}{tg:Expr}
end
end L2
namespace L2
open PySem PySem.Spec PyProof.Rows RS
section
variable{X:Cx}{p:Pa}
end
section
variable{prog:Program}{w:World}{A:Around}{R:Result->Shared->Prop}{J:Addr}{fp wr:List Addr}{n:Nat}{P:Nat->Value->Prop}{St:Nat->Heap->Prop}
end
section
variable{X:Cx}{p:Pa}
end
end L2
namespace L2
open PySem PySem.Spec PyProof.Rows RS
section
variable{X:Cx}{p:Pa}{a b e ob tg:Expr}{es:List Expr}{fa fb fo:ME}{fr:MA}{pos apos:Pos}
theorem Fp {x i:Str} (h:∃t,X.mg x=some (.str i t)) (hg:Gl X x:=by rfl) (hd:(x == ("__debug__" : Str))=false:=by decide):Bx (PE X (.Name x pos) (tD p (cC (.str i)))):=Bx.mk (by
 obtain⟨t,ht⟩:=h
 exact t6 (tx (v:=.str i) hg ht ⟨t,rfl⟩ hd) fun _ _=>aD.mpr rfl)
def Bd(a b:D)(μ:aw):af D:=match a,b with
 |.str x,.str y=>.ok (.bl (!(Builtin.Str.occurrences y x 0 y.length 1).isEmpty)) μ
 |_,_=>.bad
theorem EA:jf X p .In Bd:=⟨_,uL,by
 intro a b v y H α μ Q S ra rb P;unfold Bd at P;split at P
 ·exact⟨_,_,aD.mp ra,aD.mp rb,P.now S _ (aQ.mpr rfl)⟩
 ·exact P.elim⟩
def ug(a b:D)(μ:aw):af D:=match a,b with
 |.str x,.int i=>match atI x.cps.toList i with
  |some c=>if x.length<=sizeLine then .ok (.str ⟨#[c]⟩) μ else .bad
  |none=>.bad
 |_,_=>.bad
theorem CN:mM p ug A7:=by
 intro a b v y H α μ Q S ra rb P;unfold ug at P;split at P
 ·split at P
  ·rename_i c hc;split at P
   ·rename_i hl;exact⟨_,_,c,aD.mp ra,aj.mp rb,hl,hc,P.now S _ (aD.mpr rfl)⟩
   ·exact P.elim
  ·exact P.elim
 ·exact P.elim
theorem D1(ha:Bx (PE X a (tD p fa)))(hb:Bx (PE X b (tD p fb)))(hs:ly b:=by exact fun _ _=>rfl):Bx (PE X (.Subscript a b pos) (tD p (aE ug fa fb))):=
 ⟨(AI wG ha.h hb.h hs).weak fun σ H Q ⟨α,ρ,μ,S,R,P⟩=>⟨α,ρ,μ,S,R,(aB.bind P).imp fun x μ1 H1 α1 X1 S1 P1 v rv=>⟨α1,ρ,μ1,S1,R.mono X1,(aB.bind P1).imp fun y μ2 H2 α2 X2 S2 P2 u ru=>CN x y v u H2 α2 μ2 Q S2 (rv.mono X2) ru P2⟩⟩⟩
def DC(x:Str):It:=⟨fun i _=>i<x.cps.size,fun i H v H'=>H'=H/\∃c,x.cps[i]?=some c/\v=.str ⟨#[c]⟩,fun i _=>x.cps.size<=i⟩
theorem wV {P:Program}{w:World}{K:W.Frag}{tg:Expr}{ty:String} (hty:ty = "str_ascii_iterator" \/ ty = "str_iterator") (x:Str) (t:Tok) (it:Addr):qX P w K tg (DC x) [it] it (fun i h=>h.IsStrIter it ty x t i) where
 mem:=by simp
 obj:=fun i h st b hb=>by
  have e:b=it:=by simpa using hb
  subst e;obtain⟨o,ho,hc,hd⟩:=st;exact⟨o,ho,fun v z=>by rw[hd]at z;cases z⟩
 keep:=fun i h h' st k=>by
  obtain⟨o,ho,r⟩:=st;exact⟨o,k it (by simp) o ho,r⟩
 item:=by
  intro X hP hw hK hc i pins s σ H E I hf st hg;subst hP hw hK;obtain⟨f0,f1,f2,f3,f4,f5⟩:=hf it (by simp);obtain⟨c,hx⟩:∃c,x.cps[i]?=some c:=⟨_,Jc (show i<x.cps.size from hg)⟩
  have fin:∀h',h'.IsStrIter it ty x t (i+1)->Heap.SameBut it s.heap h'->∃u,some (Value.str ⟨#[c]⟩ s.toks)=some u /\
    wpAny (model X.prog X.w) X.A (letOwnedTupleGo tg (.ref it) u) (fun _ s2=>∃y H',aN X pins σ H' s2/\bJ y u/\(DC x).yld i H y H'/\s2.heap.IsStrIter it ty x t (i+1)/\∀b∈[it],H' b=none) E {s with heap:=h',toks:=s.toks+1}:=by
   intro h' st' sb;have I1:aN X pins σ H {s with heap:=h',toks:=s.toks+1}:=I.turned (fun b o hb e=>sb.extBut b o hb e) f0 f1 f3 f4 f5;obtain⟨o,ho,ho1,ho2⟩:=id st';refine⟨_,rfl,sF (s:={s with heap:=h',toks:=s.toks+1}) ho ho1 ho2 (by rcases hty with rfl|rfl <;> decide) ⟨.str ⟨#[c]⟩,H,I1,⟨_,rfl⟩,⟨rfl,_,hx,rfl⟩,st',fun b hb=>(hf b hb).1⟩⟩
  rcases hty with rfl|rfl
  ·exact wpAny_pyNext_ascii_item st hx fin
  ·exact wpAny_pyNext_wide_item st hx fin
 done:=by
  intro X hP hw hK hc i pins s σ H E I hf st hg;subst hP hw hK;obtain⟨f0,f1,f2,f3,f4,f5⟩:=hf it (by simp);have hx:x.cps[i]?=none:=IZ.mpr hg;rcases hty with rfl|rfl
  ·exact wpAny_pyNext_ascii_end (I.ok.hd hc) st hx fun h' eb=>⟨rfl,I.turned (t':=s.toks) (fun b o hb e=>eb b o hb e) f0 f1 f3 f4 f5⟩
  ·exact wpAny_pyNext_wide_end (I.ok.hd hc) st hx fun h' eb=>⟨rfl,I.turned (t':=s.toks) (fun b o hb e=>eb b o hb e) f0 f1 f3 f4 f5⟩
 self:=fun _ _ _ _ _ st h=>by
  rcases hty with rfl|rfl
  ·exact wpAny_pyIter_striter_ascii st h
  ·exact wpAny_pyIter_striter_wide st h
def FL(tl:TE):TI:=fun σ H R=>tl σ H fun v H1=>∃x,v=.str x/\R (DC x) H1
theorem Cd{l:Expr}{tl:TE}(hl:PE X l tl):PI X tg l (FL tl):=by
 intro pins s σ H R I h;refine c0 (hl pins s σ H _ I h) fun v s1 ⟨x,H1,I1,r1,q1⟩=>?_;obtain⟨x,e,q⟩:=q1;subst e;obtain⟨t,rfl⟩:=r1
 have fin:∀(ty:String) (hty:ty = "str_ascii_iterator" \/ ty = "str_iterator"),E1 X pins σ tg R (.ref s1.heap.objs.size) {s1 with heap:=s1.heap.push {cls:=.type ty,data:=.fields #[.str x t,.int 0 0]}}:=by
  intro ty hty;refine⟨s1.heap.objs.size,[s1.heap.objs.size],_,_,H1,rfl,I1.kept (t':=s1.toks) fun b o e=>GY _ e,wV hty x t _,⟨_,GZ _ rfl,rfl,rfl⟩,fun b hb=>?_,q⟩;have e:b=s1.heap.objs.size:=by simpa using hb
  subst e;exact I1.fpOk (G0 _) (I1.hok.fresh (G0 _))
 cases ha:x.cps.all (·<128)
 ·exact wpAny_pyIter_wide ha (fin _ (.inr rfl))
 ·exact wpAny_pyIter_ascii ha (fin _ (.inl rfl))
def gM(x:Str):List D:=x.cps.toList.map fun c=>.str ⟨#[c]⟩
def DG(d:D)(μ:aw):af kT:=match d with
 |.str x=>.ok (.fix (gM x)) μ
 |_=>.bad
def A9(f:ME):MI:=fun ρ μ=>(f ρ μ).bind DG
theorem xZ{H:Hp}{α:List Addr}(x:Str):qY p (DC x) (.fix (gM x)) H α:=by
 intro H2 α2 μ2 X2 S2 ho;refine⟨fun i d hd=>?_,by simp[kT.items,gM,DC]⟩;have hd':(gM x)[i]?=some d:=hd;unfold gM at hd';rw[Hj,Iu]at hd';cases e:x.cps[i]? with
 |none=>rw[e]at hd';cases hd'
 |some c=>
  rw[e]at hd';cases hd';refine⟨?_,fun v H3 ⟨e1,c',hc,hv⟩=>?_⟩
  ·show i < x.cps.size;by_cases h:i<x.cps.size
   ·exact h
   ·rw[IZ.mpr (by omega)]at e;cases e
  ·subst e1 hv;rw[e]at hc;cases hc;exact⟨jw.refl,S2,aD.mpr rfl⟩
theorem ED{f:ME}(hl:Bx (PE X e (tD p f))):Bx (PI X tg e (qM p (A9 f))):=⟨(Cd hl.h).weak fun σ H R ⟨α,ρ,μ,S,Rr,P⟩=>by
 refine⟨α,ρ,μ,S,Rr,(aB.bind P).imp fun d μ1 H1 α1 X1 S1 P1 v rv=>?_⟩;unfold DG at P1;split at P1
 ·rename_i x;exact⟨x,aD.mp rv,P1.now S1 _ trivial (xZ x)⟩
 ·exact P1.elim⟩
end
end L2
namespace L2
open PySem PySem.Spec PyProof.Rows RS
open Builtin.Str (strKind occurrences partsBetween)
theorem Av:∀(l:List (Str×Tok)),aX ((l.map (·.1)).map V.str) (strValues l)
 |[]=>.nil
 |(x,t)::r=>.cons ⟨t,rfl⟩ (Av r)
theorem uj:∀{ts:List Str}{its:List Value},aX (ts.map V.str) its->∃l:List (Str×Tok),its=strValues l/\l.map (·.1)=ts:=by
 intro ts
 induction ts with
 |nil=>intro its h;cases h;exact⟨[],rfl,rfl⟩
 |cons x ts ih=>
  intro its h;cases h with
  |cons r rr=>
   obtain⟨t,rfl⟩:=r;obtain⟨l,rfl,e⟩:=ih rr;exact⟨(x,t)::l,rfl,by simp[e]⟩
section
variable{X:Cx}{p:Pa}{a b e ob tg:Expr}{es:List Expr}{fa fb fo:ME}{fr:MA}{pos apos:Pos}
def wz:V->List V->Hp->VK->Prop:=fun v vs H Q=>∃x y,v=.str x/\vs=[.str y]/\(y.length == 0)=false/\x.length<=sizeLine/\(Txt.split x y).length<=sizeLine /\
 ∀l,H l=none->Q (.ref l) (cj H l (.lst ((Txt.split x y).map V.str)))
theorem xS:DB X "str.split" wz:=by
 intro pins s σ H v vs vv us Q I rx rv h;obtain⟨x,y,rfl,rfl,hy,hx,hn,q⟩:=h;obtain⟨t,rfl⟩:=rx;obtain⟨u,rfl,u',rfl⟩:=dm rv
 have fin:∀(l:List (Str×Tok)) tk,l.map (·.1)=Txt.split x y->EP X pins σ Q (.ref s.heap.objs.size) {s with heap:=s.heap.push {cls:=.type "list",data:=.seq (strValues l).toArray},toks:=tk}:=
  fun l tk e=>⟨.ref _,_,I.lnew (t':=tk) (e ▸ Av l) (by rw[Hm];exact hn),rfl,q _ I.fresh⟩
 cases h1:(decide (x.length<y.length) || decide (strKind x<strKind y))
 ·cases hf : (occurrences x y 0 x.length (x.length + 1)).isEmpty
  ·have e:Txt.split x y=partsBetween x (occurrences x y 0 x.length (x.length+1)) y.length:=(Gr (Kd h1)).trans (Gr (Kd hf));refine HM Ke (HG _ _ _) Kf (Kg _ _) (meets_str_split_sep x y t u' h1 hy hf hx (by rw[<- e];exact hn)) ?_;rw[strsFrom_eq];exact fin (numbered s.toks _) _ ((numbered_texts _ _).trans e.symm)
  ·exact HM Ke (HG _ _ _) Kf (Kg _ _) (meets_str_split_not_found x y t u' h1 hy hf) (fin [(x,t)] _ ((Gr (Kd h1)).trans (Gq hf)).symm)
 ·exact HM Ke (HG _ _ _) Kf (Kg _ _) (meets_str_split_cannot_occur x y t u' h1) (fin [(x,t)] _ (Gq h1).symm)
def AG:V->List V->Hp->VK->Prop:=fun v vs H Q=>∃x l ts,v=.str x/\vs=[.ref l]/\H l=some (.lst (ts.map V.str))/\JoinOk x ts=true/\(Txt.join x ts).length<=sizeLine/\Q (.str (Txt.join x ts)) H
theorem zU:DB X "str.join" AG:=by
 intro pins s σ H v vs vv us Q I rx rv h;obtain⟨x,l,ts,rfl,rfl,hH,hj,hz,q⟩:=h;obtain⟨t,rfl⟩:=rx;obtain⟨u,rfl,ru⟩:=dm rv;cases ru;obtain⟨z,its,n,r,hl,e⟩:=I.lstM hH;obtain⟨ps,rfl,ep⟩:=uj r;subst ep;refine HM F.slot_str_join (HG _ _ _) F.entry_str_join (F.args_str_join_2 _ _) (meets_str_join_list x t l ps (by unfold JoinOk at hj;simpa using hj)) ⟨⟨_,e,rfl,n,rfl⟩,?_⟩
 match ps with
 |[]=>exact⟨hz,.str _,H,I.tok _,⟨_,rfl⟩,q⟩
 |[(y,u)]=>exact⟨.str _,H,I,⟨u,rfl⟩,q⟩
 |(y,u)::w::r=>exact⟨hz,.str _,H,I.tok _,⟨_,rfl⟩,q⟩
def Fh(d:D):Bool:=match d with
 |.str _=>true
 |_=>false
def lF(f:D->List D->aw->af D)(fo:ME)(fr:MA):ME:=fun ρ μ=>(fo ρ μ).bind fun o μ1=>if Fh o=true then (fr ρ μ1).bind fun ds μ2=>f o ds μ2 else .bad
theorem wu {o e:Expr}{es:List Expr}{fo:ME}{fr:MA}{name:Str}{apos cpos:Pos}{id:String}{rr:V->List V->Hp->VK->Prop}{f:D->List D->aw->af D} (slot:Slot "str" name id) (hty:typeOf (.builtin id)=pure (.type "method_descriptor")) (hm:DB X id rr) (hf:Dr p f rr)
  (ho:PE X o (tD p fo)) (ha:PA X (e::es) (j5 p fr)) (hbase:attributeBase o name X.env (eval o X.env)=eval o X.env)
  (hfew : ((backTo cpos (starEach (e :: es) X.env)).all (fun x => !x.1) && (backToKw cpos (keywordEach [] X.env)).all (fun x => x.1.isSome)
   && decide ((e::es).length+([]:List Keyword).length+(if ([]:List Keyword).isEmpty then 0 else 1)<30))=true)
  (hline:(apos.endLine == cpos.line)=true) (hs:starEach (e::es) X.env=(false,eval e X.env)::starEach es X.env) (hplain:(backTo cpos (starEach es X.env)).any (·.1)=false) :
  PE X (.Call (.Attribute o name apos) (e::es) [] cpos) (tD p (lF f fo fr)):=
 (AJ PySem.F.plainAttrs_str slot hty hm ho ha hbase hfew hline hs hplain).weak fun σ H Q ⟨α, ρ, μ, S, R, P⟩ => ⟨α, ρ, μ, S, R, (aB.bind P).imp fun d μ1 H1 α1 X1 S1 P1 v rv => by
  by_cases hl:Fh d=true
  ·rw [Gq hl] at P1;refine⟨?_,α1,ρ,μ1,S1,R.mono X1,(aB.bind P1).imp fun ds μ2 H2 α2 X2 S2 P2 vs rs=>hf d ds v vs H2 α2 μ2 Q S2 (rv.mono X2) rs P2⟩;unfold Fh at hl;split at hl
   ·rw[aD.mp rv];rfl
   ·cases hl
  ·rw[Gr hl]at P1;exact P1.elim⟩
def fJ(d:D)(ds:List D)(μ:aw):af D:=match d,ds with
 |.str x,[.str y]=>if (y.length == 0)=false/\x.length<=sizeLine/\(Txt.split x y).length<=sizeLine then .ok (.obj μ.length) (μ++[.lst ((Txt.split x y).map D.str)]) else .bad
 |_,_=>.bad
theorem pR{K:W.Frag}{H:Hp}{α:List Addr}:∀(ts:List Str),Reps K H α (ts.map D.str) (ts.map V.str)
 |[]=>Reps.nil
 |_::ts=>Reps.cons (aD.mpr rfl) (pR ts)
theorem uP:Dr p fJ wz:=by
 intro d ds v vs H α μ Q S rd rs P;unfold fJ at P;split at P
 ·rename_i x y;split at P
  ·rename_i hc;obtain⟨w,rfl,rw'⟩:=rs.one;refine⟨x,y,aD.mp rd,by rw[aD.mp rw'],hc.1,hc.2.1,hc.2.2,fun l hl=>?_⟩;obtain⟨x1,x2,x3⟩:=b9 S hl (pR (Txt.split x y));exact P _ _ x1 x2 _ x3
  ·exact P.elim
 ·exact P.elim
def lM:List D->Option (List Str)
 |[]=>some []
 |.str x::r=>(lM r).map fun t=>x::t
 |_=>none
theorem wZ:∀{ds:List D}{ts:List Str},lM ds=some ts->ds=ts.map D.str:=by
 intro ds
 induction ds with
 |nil=>intro ts h;cases h;rfl
 |cons d ds ih=>
  intro ts h;cases d with
  |str x=>
   simp only[lM]at h;cases e:lM ds with
   |none=>rw[e]at h;cases h
   |some r=>rw[e]at h;cases h;rw[ih e];rfl
  |_=>cases h
theorem uE:∀{ts:List Str}{K:W.Frag}{H:Hp}{α:List Addr}{vs:List V},Reps K H α (ts.map D.str) vs->vs=ts.map V.str:=by
 intro ts
 induction ts with
 |nil=>intro K H α vs h;simp only[HE,Reps]at h;exact h
 |cons x ts ih=>
  intro K H α vs h;simp only[HF,Reps]at h;obtain⟨v,r,rfl,h1,h2⟩:=h;rw[aD.mp h1,ih h2];rfl
def ij(d:D)(ds:List D)(μ:aw):af D:=match d,ds with
 |.str x,[.obj n]=>match μ[n]? with
  |some (.lst xs)=>match lM xs with
   |some ts=>if JoinOk x ts=true/\(Txt.join x ts).length<=sizeLine then .ok (.str (Txt.join x ts)) μ else .bad
   |none=>.bad
  |_=>.bad
 |_,_=>.bad
theorem xU:Dr p ij AG:=by
 intro d ds v vs H α μ Q S rd rs P;unfold ij at P;split at P
 ·rename_i x n;split at P
  ·rename_i xs hx;split at P
   ·rename_i ts ht;split at P
    ·rename_i hc;obtain⟨w,rfl,rw'⟩:=rs.one;obtain⟨a,us,rfl,a1,h1,rr⟩:=b6 S rw' hx;rw[wZ ht]at rr;rw[uE rr]at h1;exact⟨x,a,ts,aD.mp rd,rfl,h1,hc.1,hc.2,P.now S _ (aD.mpr rfl)⟩
    ·exact P.elim
   ·exact P.elim
  ·exact P.elim
 ·exact P.elim
theorem sM (ho:Bx (PE X ob (tD p fo))) (ha:Bx (PA X [e] (j5 p fr))) (hbase:attributeBase ob "split" X.env (eval ob X.env)=eval ob X.env:=by rfl) (hfew:((backTo pos (starEach [e] X.env)).all (fun x=>!x.1)&&(backToKw pos (keywordEach [] X.env)).all (fun x=>x.1.isSome)
   && decide ([e].length+([]:List Keyword).length+(if ([]:List Keyword).isEmpty then 0 else 1)<30))=true:=by rfl) (hline:(apos.endLine == pos.line)=true:=by rfl) (hs:starEach [e] X.env=(false,eval e X.env)::starEach [] X.env:=by rfl) (hpl:(backTo pos (starEach [] X.env)).any (·.1)=false:=by rfl):Bx (PE X (.Call (.Attribute ob "split" apos) [e] [] pos) (tD p (lF fJ fo fr))):=
 ⟨wu PySem.F.slot_str_split PySem.F.type_str_split xS uP ho.h ha.h hbase hfew hline hs hpl⟩
theorem wc (ho:Bx (PE X ob (tD p fo))) (ha:Bx (PA X [e] (j5 p fr))) (hbase:attributeBase ob "join" X.env (eval ob X.env)=eval ob X.env:=by rfl) (hfew:((backTo pos (starEach [e] X.env)).all (fun x=>!x.1)&&(backToKw pos (keywordEach [] X.env)).all (fun x=>x.1.isSome)
   && decide ([e].length+([]:List Keyword).length+(if ([]:List Keyword).isEmpty then 0 else 1)<30))=true:=by rfl) (hline:(apos.endLine == pos.line)=true:=by rfl) (hs:starEach [e] X.env=(false,eval e X.env)::starEach [] X.env:=by rfl) (hpl:(backTo pos (starEach [] X.env)).any (·.1)=false:=by rfl):Bx (PE X (.Call (.Attribute ob "join" apos) [e] [] pos) (tD p (lF ij fo fr))):=
 ⟨wu PySem.F.slot_str_join PySem.F.type_str_join zU xU ho.h ha.h hbase hfew hline hs hpl⟩
def mP(ds:List D)(μ:aw):af D:=match ds with
 |[.int i]=>if i.natAbs.log2<1920 then .ok (.str (toString i)) μ else .bad
 |_=>.bad
theorem sJ:kY X p "str" mP:=⟨_,_,.inr ⟨_,rfl⟩,rB,oQ,by
 intro ds vs H α μ Q S r P;unfold mP at P;split at P
 ·split at P
  ·rename_i hz;obtain⟨v,rfl,r1⟩:=r.one;exact⟨_,by rw[aj.mp r1],hz,P.now S _ (aD.mpr rfl)⟩
  ·exact P.elim
 ·exact P.elim,by decide,by decide⟩
def pE(ds:List D)(μ:aw):af D:=match ds with
 |[.str x]=>match PySem.intText? x with
  |some n=>if x.length<=640 then .ok (.int n) μ else .bad
  |none=>.bad
 |_=>.bad
theorem vh:bM X (.type "int") (fun xs H Q=>∃x n,xs=[.str x]/\PySem.intText? x=some n/\x.length<=640/\Q (.int n) H):=by
 intro pins s σ H xs us Q I r h;obtain⟨x,n,rfl,hn,hl,q⟩:=h;obtain⟨u,rfl,t,rfl⟩:=dm r;exact W.KIN.call_text hn hl ⟨.int n,H,I.tok _,⟨_,rfl⟩,q⟩
theorem Dn:kY X p "int" pE:=⟨_,_,.inr ⟨_,rfl⟩,rC,vh,by
 intro ds vs H α μ Q S r P;unfold pE at P;split at P
 ·split at P
  ·rename_i n hn;split at P
   ·rename_i hz;obtain⟨v,rfl,r1⟩:=r.one;exact⟨_,n,by rw[aD.mp r1],hn,hz,P.now S _ (aj.mpr rfl)⟩
   ·exact P.elim
  ·exact P.elim
 ·exact P.elim,by decide,by decide⟩
abbrev MJ:=Ro->aw->Str->af Str
def uc:MJ:=fun _ μ acc=>.ok acc μ
def jC(x:Str)(k:MJ):MJ:=fun ρ μ acc=>if (acc++x).length<=sizeLine then k ρ μ (acc++x) else .bad
def jI(d:D)(k:Str->af Str)(acc:Str):af Str:=match d with
 |.int i=>if i.natAbs.log2<1920/\(acc++(toString i:Str)).length<=sizeLine then k (acc++(toString i:Str)) else .bad
 |_=>.bad
def jF(f:ME)(k:MJ):MJ:=fun ρ μ acc=>(f ρ μ).bind fun d μ1=>jI d (k ρ μ1) acc
def ud(x:Str)(μ:aw):af D:=if x.length<=sizeLine then .ok (.str x) μ else .bad
def Dz(k:MJ):ME:=fun ρ μ=>(k ρ μ Str.empty).bind ud
def PJ(X:Cx)(p:Pa)(es:List Expr)(k:MJ):Prop:=∀pins s σ H acc (Q:VK),aN X pins σ H s->(∃α ρ μ,p.S H α μ/\dh p.K H α ρ σ/\aB p H α ((k ρ μ acc).bind ud) (RV p Q)) ->
 Joins (model X.prog X.w) X.A X.xe (evalEach es X.env) acc (fun out s1=>out.length<=sizeLine/\EP X pins σ Q (.str out s1.toks) {s1 with toks:=s1.toks+1}) s
theorem AO:Bx (PJ X p [] uc):=⟨by
 intro pins s σ H acc Q I ⟨α,ρ,μ,S,R,P⟩;unfold uc at P;simp only[aa,ud]at P;split at P
 ·rename_i hl;exact⟨hl,.str acc,H,I.tok _,⟨_,rfl⟩,P.now S _ (aD.mpr rfl)⟩
 ·exact P.elim⟩
theorem EY{x j}{k:MJ}(h:Bx (PJ X p es k)):Bx (PJ X p (.Constant (.str x) j pos::es) (jC x k)):=⟨by
 intro pins s σ H acc Q I ⟨α,ρ,μ,S,R,P⟩;unfold jC at P;split at P
 ·rename_i hl
  exact c0 (wB pins s σ H (fun v H1=>v=.str x/\H1=H) I ⟨rfl,rfl⟩) fun v s1 ⟨y,H1,I1,r1,e1,e2⟩=>by
   subst e1 e2;obtain⟨t,rfl⟩:=r1;exact⟨x,t,rfl,hl,h.h pins s1 σ H1 _ Q I1 ⟨α,ρ,μ,S,R,P⟩⟩
 ·exact P.elim⟩
theorem EX{f:ME}{k:MJ}{fpos:Pos}(he:Bx (PE X e (tD p f)))(h:Bx (PJ X p es k)):Bx (PJ X p (.FormattedValue e (-1) none fpos::es) (jF f k)):=⟨by
 intro pins s σ H acc Q I ⟨α,ρ,μ,S,R,P⟩
 have P':aB p H α ((f ρ μ).bind fun d μ1=>(jI d (k ρ μ1) acc).bind ud) (RV p Q):=by
  unfold jF at P;cases e:f ρ μ with
  |ok d μ1=>rw[e]at P;exact P
  |exc x μ1=>rw[e]at P;exact P
  |bad=>rw[e]at P;exact P
 refine wpAny_FormattedValue_plain (c0 (he.h pins s σ H (fun v H1=>∃i:Int,v=.int i/\i.natAbs.log2<1920/\(acc++(toString i:Str)).length<=sizeLine/\∃α1 μ1,p.S H1 α1 μ1/\dh p.K H1 α1 ρ σ/\aB p H1 α1 ((k ρ μ1 (acc++(toString i:Str))).bind ud) (RV p Q)) I ⟨α,ρ,μ,S,R,(aB.bind P').imp fun d μ1 H1 α1 X1 S1 P1 v rv=>?_⟩) fun v s1 ⟨x,H1,I1,r1,i,e1,h1,h2,α1,μ1,S1,R1,P1⟩=>?_)
 ·unfold jI at P1;split at P1
  ·rename_i i;split at P1
   ·rename_i hc;exact⟨i,aj.mp rv,hc.1,hc.2,α1,μ1,S1,R.mono X1,P1⟩
   ·exact P1.elim
  ·exact P1.elim
 ·subst e1;obtain⟨t,rfl⟩:=r1
  exact wpAny_formatField_int h1 ⟨_,_,rfl,h2,h.h pins _ σ H1 _ Q (I1.tok _) ⟨α1,ρ,μ1,S1,R1,P1⟩⟩⟩
theorem DE{k:MJ}(h:Bx (PJ X p (a::b::es) k)):Bx (PE X (.JoinedStr (a::b::es) pos) (tD p (Dz k))):=⟨by
 intro pins s σ H Q I ⟨α,ρ,μ,S,R,P⟩
 exact wpAny_JoinedStr (h.h pins s σ H Str.empty Q I ⟨α,ρ,μ,S,R,P⟩)⟩
end
end L2
namespace Lw
open PySem L2
section
variable{P:Program}{w:World}{K:W.Frag}{mg:Str->Option Value}{base:Heap}
structure Nm(mg:Str->Option Value):Prop where
 all:mg "all" = none
 bool:mg "bool" = none
 enumerate:mg "enumerate" = none
 int:mg "int" = none
 isinstance:mg "isinstance" = none
 len:mg "len" = none
 list:mg "list" = none
 max:mg "max" = none
 min:mg "min" = none
 range:mg "range" = none
 set:mg "set" = none
 sorted:mg "sorted" = none
 str:mg "str" = none
 tuple:mg "tuple" = none
theorem qy:aS ["thing"] ["thing"] (ar fY):=⟨rfl,rfl,rfl,by decide +kernel,rfl,by decide +kernel,by decide +kernel⟩
def jr:MS:=cn (gx (qS (ff "int") (ai 0)) (pH (qS (ff "bool") (ai 0))))
def dN:List D->aw->af D:=hV 1 1 jr
theorem kv:aS ["thing", "least", "most"] ["thing", "least", "most"] (ar c6):=⟨rfl,rfl,rfl,by decide +kernel,rfl,by decide +kernel,by decide +kernel⟩
def fk:MS:=cn (gx (aH dN (ah (ai 0) (aG))) (ip (gm .LtE) (gm .LtE) (ai 1) (ai 0) (ai 2)))
def bf:List D->aw->af D:=hV 3 3 fk
theorem qA:aS ["many", "thing"] ["many", "thing"] (ar fZ):=⟨rfl,rfl,rfl,by decide +kernel,rfl,by decide +kernel,by decide +kernel⟩
def mD:MS:=cn (aH bf (ah (ai 1) (ah (cC (.int 0)) (ah (aE iX (ai 0) (cC (.int 1))) (aG)))))
def fN:List D->aw->af D:=hV 2 2 mD
theorem oF:aS ["many", "thing"] ["many", "thing"] (ar d8):=⟨rfl,rfl,rfl,by decide +kernel,rfl,by decide +kernel,by decide +kernel⟩
theorem mK:(["place", "many"]:List Str).Nodup:=by decide +kernel
def gr:ME:=aH fN (ah (ai 1) (ah (ai 0) (aG)))
def kP:MS:=cn (gx (qS (ff "tuple") (ai 1)) (aH kW (ah (de (hW (ai 1)) [none,some 0] (ak 0) (bq) (gr)) (aG))))
def dS:List D->aw->af D:=hV 2 2 kP
theorem oE:aS ["things"] ["things"] (ar d7):=⟨rfl,rfl,rfl,by decide +kernel,rfl,by decide +kernel,by decide +kernel⟩
theorem mJ:(["at", "things"]:List Str).Nodup:=by decide +kernel
def ja:ME:=aE (gm .Lt) (aE dX (ai 1) (aE iX (ai 0) (cC (.int 1)))) (aE dX (ai 1) (ai 0))
def kO:MS:=cn (aH kW (ah (de (jz t8 (ah (cC (.int 1)) (ah (aH gk (ah (ai 0) (aG))) (aG)))) [none,some 0] (ak 0) (bq) (ja)) (aG)))
def dR:List D->aw->af D:=hV 1 1 kO
theorem rR:aS ["thing"] ["thing"] (ar gW):=⟨rfl,rfl,rfl,by decide +kernel,rfl,by decide +kernel,by decide +kernel⟩
def nU:MS:=cn (aH bf (ah (ai 0) (ah (cC (.int 1)) (ah (cC (.int 6)) (aG)))))
def gF:List D->aw->af D:=hV 1 1 nU
theorem rQ:aS ["many", "thing"] ["many", "thing"] (ar gU):=⟨rfl,rfl,rfl,by decide +kernel,rfl,by decide +kernel,by decide +kernel⟩
def nS:MS:=cn (gx (aH dS (ah (ai 0) (ah (ai 1) (aG)))) (gx (aE (lh false) (aH gk (ah (ai 1) (aG))) (cC (.int 2))) (aE (lh true) (aE dX (ai 1) (cC (.int 0))) (aE dX (ai 1) (cC (.int 1))))))
def gE:List D->aw->af D:=hV 2 2 nS
theorem uD:aS ["many", "thing"] ["many", "thing"] (ar iS):=⟨rfl,rfl,rfl,by decide +kernel,rfl,by decide +kernel,by decide +kernel⟩
def qt:MS:=cn (gx (aH gE (ah (ai 0) (ah (ai 1) (aG)))) (aE (gm .Lt) (aE dX (ai 1) (cC (.int 0))) (aE dX (ai 1) (cC (.int 1)))))
def ix:List D->aw->af D:=hV 2 2 qt
theorem rP:aS ["many", "thing"] ["many", "thing"] (ar fL):=⟨rfl,rfl,rfl,by decide +kernel,rfl,by decide +kernel,by decide +kernel⟩
theorem oP:(["tie", "many"]:List Str).Nodup:=by decide +kernel
def iC:ME:=aH ix (ah (ai 1) (ah (ai 0) (aG)))
def nR:MS:=cn (gx (qS (ff "tuple") (ai 1)) (gx (aH kW (ah (de (hW (ai 1)) [none,some 0] (ak 0) (bq) (iC)) (aG))) (aH dR (ah (ai 1) (aG)))))
def fD:List D->aw->af D:=hV 2 2 nR
theorem oG:aS ["word"] ["word"] (ar d9):=⟨rfl,rfl,rfl,by decide +kernel,rfl,by decide +kernel,by decide +kernel⟩
theorem mL:(["sign"]:List Str).Nodup:=by decide +kernel
def gu:ME:=aE (Bd) (ai 0) (cC (.str "0123456789"))
def kQ:MS:=bx (oW (je (fH (j6 (ip (gm .LtE) (gm .LtE) (cC (.int 1)) (aH gk (ah (ai 0) (aG))) (cC (.int 20))))) (fH (jA (aH kW (ah (de (A9 (ai 0)) [none] (ak 0) (bq) (gu)) (aG)))))) (cn (cC (.bl false))) (eT))
 (cn (yz (aE (lD false) (ai 0) (cC (.str "0"))) (aE (lD true) (aE ug (ai 0) (cC (.int 0))) (cC (.str "0")))))
def eX:List D->aw->af D:=hV 1 1 kQ
theorem f6:aS ["word", "many", "row", "words"] ["word", "many", "row"] (ar bt):=⟨rfl,rfl,rfl,by decide +kernel,rfl,by decide +kernel,by decide +kernel⟩
theorem iZ:(["one"]:List Str).Nodup:=by decide +kernel
theorem iY:(["one"]:List Str).Nodup:=by decide +kernel
def dO:ME:=aH eX (ah (ai 0) (aG))
def cz:ME:=aH pE (ah (ai 0) (aG))
def gH:MS:=bx (cB (lF fJ (ai 2) (ah (cC (.str " ")) (aG))) (ak 3))
 (bx (oW (je (j6 (aE (lh true) (aH gk (ah (ai 3) (aG))) (aE cm (ai 1) (cC (.int 1))))) (je (j6 (aE (lD true) (aE dX (ai 3) (cC (.int 0))) (ai 0))) (fH (jA (aH kW (ah (de (hW (A2 (ai 3) (kE (cC (.int 1))) (Dq))) [none] (ak 0) (bq) (dO)) (aG))))))) (cn (cC .non)) (eT))
 (cn (aH jk (ah (de (hW (A2 (ai 3) (kE (cC (.int 1))) (Dq))) [none] (ak 0) (bq) (cz)) (aG)))))
def aY:List D->aw->af D:=hV 3 4 gH
theorem gZ:aS ["web", "many", "ties"] ["web"] (ar d6):=⟨rfl,rfl,rfl,by decide +kernel,rfl,by decide +kernel,by decide +kernel⟩
theorem iF:(["a", "b"]:List Str).Nodup:=by decide +kernel
def eS:ME:=Dz (jC "tie " (jF (ai 0) (jC " " (jF (ai 1) (uc)))))
def kN:MS:=bx (cB (ai 0) (du 2 (aU (ak 1) (aU (ak 2) (dv)))))
 (cn (lF ij (cC (.str "\n")) (ah (aE cm (lG (ah (Dz (jC "web " (jF (ai 1) (jC " " (jF (aH gk (ah (ai 2) (aG))) (uc)))))) (aG))) (de (hW (ai 2)) [none,none] (du 2 (aU (ak 0) (aU (ak 1) (dv)))) (bq) (eS))) (aG))))
def eW:List D->aw->af D:=hV 1 3 kN
theorem bz:aS ["text", "rows", "head", "many", "due", "ties", "at", "row", "tie"] ["text"] (ar fX):=⟨rfl,rfl,rfl,by decide +kernel,rfl,by decide +kernel,by decide +kernel⟩
def fB:MS:=bx (cB (aH aY (ah (cC (.str "tie")) (ah (cC (.int 2)) (ah (ai 7) (aG))))) (ak 8))
 (bx (oW (je (j6 (aE (lh false) (ai 6) (ai 4))) (je (j6 (aE (vM false) (ai 8) (cC .non))) (fH (jA (aH fD (ah (ai 3) (ah (aE cm (ai 5) (eH (ah (ai 8) (aG)))) (aG)))))))) (t7) (eT))
 (cB (aE cm (ai 5) (eH (ah (ai 8) (aG)))) (ak 5)))
def mC:MS:=bx (oW (fH (jA (qS (ff "str") (ai 0)))) (t7) (eT))
 (bx (cB (lF fJ (ai 0) (ah (cC (.str "\n")) (aG))) (ak 1))
 (bx (cB (aH aY (ah (cC (.str "web")) (ah (cC (.int 2)) (ah (aE dX (ai 1) (cC (.int 0))) (aG))))) (ak 2))
 (bx (oW (je (j6 (aE (vM false) (ai 2) (cC .non))) (fH (jA (aH gF (ah (aE dX (ai 2) (cC (.int 0))) (aG)))))) (t7) (eT))
 (bx (cB (ai 2) (du 2 (aU (ak 3) (aU (ak 4) (dv)))))
 (bx (cB (eH (aG)) (ak 5))
 (bx (mN (jz m8 (ah (A2 (ai 1) (kE (cC (.int 1))) (Dq)) (aG))) (du 2 (aU (ak 6) (aU (ak 7) (dv)))) fB)
 (bx (oW (j6 (aE (gm .Lt) (aH gk (ah (ai 5) (aG))) (ai 4))) (t7) (eT))
 (cn (eH (ah (ai 3) (ah (ai 5) (aG))))))))))))
def fM:List D->aw->af D:=hV 1 9 mC
theorem k7:aS ["_law_script", "_law_k"] ["_law_script", "_law_k"] (ar dD):=⟨rfl,rfl,rfl,by decide +kernel,rfl,by decide +kernel,by decide +kernel⟩
def fP:MS:=bx (oW (j6 (aE (gm .Lt) (ai 1) (aH gk (ah (ai 0) (aG))))) (cn (aE dX (ai 0) (ai 1))) (eT))
 (cn (cC (.int 0)))
def cZ:List D->aw->af D:=hV 2 2 fP
theorem jU:aS ["_law_seed"] ["_law_seed"] (ar fy):=⟨rfl,rfl,rfl,by decide +kernel,rfl,by decide +kernel,by decide +kernel⟩
def kR:MS:=bx (cB (aE o6 (aE cm (ai 0) (cC (.int 7919))) (cC (.int 2147483647))) (ak 0))
 (cn (aE o6 (aE cm (aE cm (aE qW (ai 0) (ai 0)) (aE qW (cC (.int 48271)) (ai 0))) (cC (.int 12345))) (cC (.int 2147483629))))
def dU:List D->aw->af D:=hV 1 1 kR
theorem iE:aS ["_law_cell", "_law_left"] ["_law_cell"] (ar eA):=⟨rfl,rfl,rfl,by decide +kernel,rfl,by decide +kernel,by decide +kernel⟩
def jd:MS:=bx (cB (aH o7 (ah (ai 0) (ah (aE iX (cC (.int 0)) (ai 0)) (aG)))) (ak 1))
 (cn (lG (ah (ai 1) (ah (aH pF (ah (aE (gm .GtE) (ai 1) (aE Bc (cC (.int 10)) (cC (.int 18)))) (aG))) (ah (aE o6 (ai 1) (cC (.int 1000003))) (aG))))))
def dz:List D->aw->af D:=hV 1 2 jd
theorem jV:aS ["_law_pen", "_law_many", "_law_found"] ["_law_pen", "_law_many"] (ar fA):=⟨rfl,rfl,rfl,by decide +kernel,rfl,by decide +kernel,by decide +kernel⟩
def iD:MS:=bx (oW (j6 (aE (lh false) (aE dX (ai 0) (cC (.int 1))) (cC (.int 1)))) (bx (cB (aE o6 (aE dX (ai 0) (cC (.int 0))) (ai 1)) (ak 2))
 (bx (cB (aE pG (aE dX (ai 0) (cC (.int 0))) (ai 1)) (pA (ai 0) (cC (.int 0))))
 (cn (ai 2)))) (eT))
 (bx (cB (aH dU (ah (aE cm (aH dU (ah (aE dX (ai 0) (cC (.int 2))) (aG))) (cC (.int 7))) (aG))) (pA (ai 0) (cC (.int 2))))
 (cn (aE o6 (aE pG (aE dX (ai 0) (cC (.int 2))) (cC (.int 64))) (ai 1))))
def ba:List D->aw->af D:=hV 2 3 iD
theorem mU:aS ["_law_found"] ["_law_found"] (ar eR):=⟨rfl,rfl,rfl,by decide +kernel,rfl,by decide +kernel,by decide +kernel⟩
def oU:MS:=cn (gx (qS (ff "int") (ai 0)) (pH (qS (ff "bool") (ai 0))))
def cx:List D->aw->af D:=hV 1 1 oU
theorem mE:aS ["_law_many", "_law_ties"] ["_law_many", "_law_ties"] (ar cW):=⟨rfl,rfl,rfl,by decide +kernel,rfl,by decide +kernel,by decide +kernel⟩
theorem gG:(["_law_a", "_law_b"]:List Str).Nodup:=by decide +kernel
def fj:ME:=eH (ah (aH uf (ah (ai 0) (ah (ai 1) (aG)))) (ah (aH o7 (ah (ai 0) (ah (ai 1) (aG)))) (aG)))
def jb:MS:=cn (eH (ah (ai 0) (ah (aH jk (ah (aH gA (ah (aH qV (ah (de (hW (ai 1)) [none,none] (du 2 (aU (ak 0) (aU (ak 1) (dv)))) (bq) (fj)) (aG))) (aG))) (aG))) (aG))))
def aT:List D->aw->af D:=hV 2 2 jb
theorem bT:aS ["_law_pen", "_law_most", "_law_many", "_law_share", "_law_ties", "_law_one"] ["_law_pen", "_law_most"] (ar bS):=⟨rfl,rfl,rfl,by decide +kernel,rfl,by decide +kernel,by decide +kernel⟩
theorem i3:(["_law_other", "_law_one", "_law_pen", "_law_share"]:List Str).Nodup:=by decide +kernel
def cA:ME:=eH (ah (ai 0) (ah (ai 1) (aG)))
def cy:MT:=j6 (aE (lh false) (aH ba (ah (ai 2) (ah (ai 3) (aG)))) (cC (.int 0)))
def bH:MS:=kC (yo eQ (ai 4) (ah (de (jz jy (ah (ai 5) (aG))) [none,some 5,some 0,some 3] (ak 0) (cy) (cA)) (aG)))
def gI:MS:=bx (cB (aE cm (cC (.int 1)) (aH ba (ah (ai 0) (ah (ai 1) (aG))))) (ak 2))
 (bx (cB (aE cm (cC (.int 2)) (aH ba (ah (ai 0) (ah (cC (.int 3)) (aG))))) (ak 3))
 (bx (cB (lG (aG)) (ak 4))
 (bx (mN (jz jy (ah (ai 2) (aG))) (ak 5) bH)
 (cn (aH aT (ah (ai 2) (ah (ai 4) (aG))))))))
def bC:List D->aw->af D:=hV 2 6 gI
theorem kZ:aS ["_law_web", "_law_place"] ["_law_web", "_law_place"] (ar cH):=⟨rfl,rfl,rfl,by decide +kernel,rfl,by decide +kernel,by decide +kernel⟩
theorem f9:(["_law_a", "_law_b", "_law_place"]:List Str).Nodup:=by decide +kernel
def eO:ME:=aE iX (aE cm (ai 0) (ai 1)) (ai 2)
def eN:MT:=j6 (aE (vy false) (ai 2) (eH (ah (ai 0) (ah (ai 1) (aG)))))
def iH:MS:=cn (de (hW (aE dX (ai 0) (cC (.int 1)))) [none,none,some 1] (du 2 (aU (ak 0) (aU (ak 1) (dv)))) (eN) (eO))
def cY:List D->aw->af D:=hV 2 2 iH
theorem cg:aS ["_law_web", "_law_ties", "_law_place", "_law_near", "_law_one"] ["_law_web"] (ar cb):=⟨rfl,rfl,rfl,by decide +kernel,rfl,by decide +kernel,by decide +kernel⟩
theorem ju:(["_law_other", "_law_one"]:List Str).Nodup:=by decide +kernel
def cR:ME:=eH (ah (ai 1) (ah (ai 0) (aG)))
def cN:MT:=j6 (aE (gm .Lt) (ai 1) (ai 0))
def cP:MS:=kC (yo eQ (ai 1) (ah (de (hW (ai 3)) [none,some 4] (ak 0) (cN) (cR)) (aG)))
def cO:MS:=bx (cB (aH cY (ah (ai 0) (ah (ai 2) (aG)))) (ak 3))
 (mN (hW (ai 3)) (ak 4) cP)
def hG:MS:=bx (cB (aH pD (ah (aE dX (ai 0) (cC (.int 1))) (aG))) (ak 1))
 (bx (mN (jz jy (ah (aE dX (ai 0) (cC (.int 0))) (aG))) (ak 2) cO)
 (cn (aH aT (ah (aE dX (ai 0) (cC (.int 0))) (ah (ai 1) (aG))))))
def cJ:List D->aw->af D:=hV 1 5 hG
theorem bj:aS ["_law_pen", "_law_most", "_law_web", "_law_way", "_law_one", "_law_pair", "_law_some"] ["_law_pen", "_law_most"] (ar cI):=⟨rfl,rfl,rfl,by decide +kernel,rfl,by decide +kernel,by decide +kernel⟩
theorem j4:(["_law_tie", "_law_pair"]:List Str).Nodup:=by decide +kernel
def dc:ME:=ai 0
def c8:MT:=j6 (aE (lh true) (ai 0) (ai 1))
def eB:MS:=bx (cB (aH bC (ah (ai 0) (ah (ai 1) (aG)))) (ak 2))
 (bx (cB (aH ba (ah (ai 0) (ah (cC (.int 4)) (aG)))) (ak 3))
 (bx (oW (j6 (aE (lh false) (ai 3) (cC (.int 0)))) (cn (ai 2)) (eT))
 (bx (cB (aH cJ (ah (ai 2) (aG))) (ak 2))
 (bx (oW (sI (j6 (aE (lh false) (ai 3) (cC (.int 3)))) (j6 (aE (gm .Gt) (aE dX (ai 2) (cC (.int 0))) (cC (.int 1))))) (bx (cB (aH ba (ah (ai 0) (ah (aE iX (aE dX (ai 2) (cC (.int 0))) (cC (.int 1))) (aG)))) (ak 4))
 (bx (cB (eH (ah (ai 4) (ah (aE cm (aE cm (ai 4) (cC (.int 1))) (aH ba (ah (ai 0) (ah (aE iX (aE iX (aE dX (ai 2) (cC (.int 0))) (cC (.int 1))) (ai 4)) (aG))))) (aG)))) (ak 5))
 (bx (cB (de (hW (aE dX (ai 2) (cC (.int 1)))) [none,some 5] (ak 0) (c8) (dc)) (ak 6))
 (bx (oW (j6 (aE (vy true) (ai 5) (aE dX (ai 2) (cC (.int 1))))) (kC (yo fw (ai 6) (ah (ai 5) (aG)))) (eT))
 (cB (aH aT (ah (aE dX (ai 2) (cC (.int 0))) (ah (ai 6) (aG)))) (ak 2)))))) (eT))
 (cn (ai 2))))))
def bF:List D->aw->af D:=hV 2 7 eB
theorem eM:aS ["_law_many", "_law_ties", "_law_one"] ["_law_many"] (ar cf):=⟨rfl,rfl,rfl,by decide +kernel,rfl,by decide +kernel,by decide +kernel⟩
theorem jv:(["_law_other", "_law_one"]:List Str).Nodup:=by decide +kernel
def eC:ME:=eH (ah (ai 0) (ah (ai 1) (aG)))
def cQ:MS:=kC (yo eQ (ai 1) (ah (de (jz jy (ah (ai 2) (aG))) [none,some 2] (ak 0) (bq) (eC)) (aG)))
def hU:MS:=bx (cB (lG (aG)) (ak 1))
 (bx (mN (jz jy (ah (ai 0) (aG))) (ak 2) cQ)
 (cn (aH aT (ah (ai 0) (ah (ai 1) (aG))))))
def bK:List D->aw->af D:=hV 1 3 hU
theorem js:aS ["_law_found", "_law_due"] ["_law_found", "_law_due"] (ar bG):=⟨rfl,rfl,rfl,by decide +kernel,rfl,by decide +kernel,by decide +kernel⟩
theorem iJ:(["_law_one"]:List Str).Nodup:=by decide +kernel
theorem iI:(["_law_number"]:List Str).Nodup:=by decide +kernel
def bZ:ME:=aH cx (ah (ai 0) (aG))
def di:ME:=gx (qS (ff "tuple") (ai 0)) (aH kW (ah (de (hW (ai 0)) [none] (ak 0) (bq) (bZ)) (aG)))
def gb:MS:=bx (oW (je (fH (jA (qS (ff "tuple") (ai 0)))) (j6 (aE (lh true) (ai 0) (ai 1)))) (cn (cC (.bl false))) (eT))
 (cn (aH kW (ah (de (hW (ai 0)) [none] (ak 0) (bq) (di)) (aG))))
def bu:List D->aw->af D:=hV 2 2 gb
theorem mF:aS ["_law_found", "_law_due"] ["_law_found", "_law_due"] (ar ef):=⟨rfl,rfl,rfl,by decide +kernel,rfl,by decide +kernel,by decide +kernel⟩
def jc:MS:=bx (oW (je (fH (jA (qS (ff "tuple") (ai 0)))) (je (j6 (aE (lh true) (aH gk (ah (ai 0) (aG))) (cC (.int 2)))) (je (fH (jA (aH cx (ah (aE dX (ai 0) (cC (.int 0))) (aG))))) (j6 (aE (lh true) (ai 0) (ai 1)))))) (cn (cC (.bl false))) (eT))
 (cn (aH bu (ah (aE dX (ai 0) (cC (.int 1))) (ah (aE dX (ai 1) (cC (.int 1))) (aG)))))
def dy:List D->aw->af D:=hV 2 2 jc
theorem g8:aS ["_law_web", "_law_rows"] ["_law_web"] (ar cG):=⟨rfl,rfl,rfl,by decide +kernel,rfl,by decide +kernel,by decide +kernel⟩
theorem f7:(["_law_a", "_law_b"]:List Str).Nodup:=by decide +kernel
def c9:ME:=aE cm (aE cm (aE cm (cC (.str "tie ")) (aH mP (ah (ai 0) (aG)))) (cC (.str " "))) (aH mP (ah (ai 1) (aG)))
def iG:MS:=bx (cB (aE cm (lG (ah (aE cm (aE cm (aE cm (cC (.str "web ")) (aH mP (ah (aE dX (ai 0) (cC (.int 0))) (aG)))) (cC (.str " "))) (aH mP (ah (aH gk (ah (aE dX (ai 0) (cC (.int 1))) (aG))) (aG)))) (aG))) (de (hW (aE dX (ai 0) (cC (.int 1)))) [none,none] (du 2 (aU (ak 0) (aU (ak 1) (dv)))) (bq) (c9))) (ak 1))
 (cn (lF ij (cC (.str "\n")) (ah (ai 1) (aG))))
def cX:List D->aw->af D:=hV 1 2 iG
theorem kb:aS ["_law_script", "_law_some", "_law_cell", "_law_web", "_law_text", "_law_shown"] ["_law_script"] (ar jg):=⟨rfl,rfl,rfl,by decide +kernel,rfl,by decide +kernel,by decide +kernel⟩
def lA:MS:=kC (yo fw (ai 1) (ah (aH bF (ah (aH dz (ah (ai 2) (aG))) (ah (cC (.int 6)) (aG)))) (aG)))
def lz:MS:=bx (cB (aH cX (ah (ai 3) (aG))) (ak 4))
 (bx (cB (aH eW (ah (ai 3) (aG))) (ak 5))
 (oW (je (fH (jA (qS (ff "str") (ai 5)))) (je (j6 (aE (lD true) (ai 5) (ai 4))) (fH (jA (aH dy (ah (aH fM (ah (ai 4) (aG))) (ah (ai 3) (aG)))))))) (cn (cC (.bl false))) (eT)))
def AZ:MS:=bx (cB (lG (ah (eH (ah (cC (.int 1)) (ah (eH (aG)) (aG)))) (ah (eH (ah (cC (.int 6)) (ah (eH (aG)) (aG)))) (ah (aH bK (ah (cC (.int 6)) (aG))) (aG))))) (ak 1))
 (bx (mN (hW (aE cm (lG (ah (aH cZ (ah (ai 0) (ah (cC (.int 0)) (aG)))) (aG))) (A2 (ai 0) (kE (cC (.int 1))) (kE (cC (.int 8)))))) (ak 2) lA)
 (bx (mN (hW (ai 1)) (ak 3) lz)
 (cn (cC (.bl true)))))
def pI:List D->aw->af D:=hV 1 6 AZ
theorem qC (nm:Nm mg) {f:Addr}{fd:FuncData} (F:gh K "is_whole" "is_whole" fY f fd) (hm:mg "is_whole" = some (.ref f)):dB P w K mg base (dA K w) 1 "is_whole" 1 dN:=
 b5 F qy rfl hm (F.b1 (by rfl) fun _ _ _ _ _ _ _=>by rfl) fun cdv A outer s H E hr=>
 a6 (bp (i7 (ic (T:="int") (by decide) rC (by decide) (by decide) nm.isinstance nm.int (aM 0)) (jE (Ar (ic (T:="bool") (by decide) tW (by decide) (by decide) nm.isinstance nm.bool (aM 0))))))
theorem kx (nm:Nm mg) {f:Addr}{fd:FuncData} (F:gh K "is_whole_from" "is_whole_from" c6 f fd) (hm:mg "is_whole_from" = some (.ref f)) (d_is_whole:dB P w K mg base (dA K w) 1 "is_whole" 1 dN):dB P w K mg base (dA K w) 2 "is_whole_from" 3 bf:=
 b5 F kv rfl hm (F.b3 (by rfl) fun _ _ _ _ _ _ _ _ _=>by rfl) fun cdv A outer s H E hr=>
 a6 (bp (i7 (aV d_is_whole (hr.mono (by decide)) (aZ (aM 0) (br))) (jE (D2 (ie (op:=.LtE) hr.units) (ie (op:=.LtE) hr.units) (aM 1) (aM 0) (aM 2)))))
theorem qD (nm:Nm mg) {f:Addr}{fd:FuncData} (F:gh K "is_place" "is_place" fZ f fd) (hm:mg "is_place" = some (.ref f)) (d_is_whole_from:dB P w K mg base (dA K w) 2 "is_whole_from" 3 bf):dB P w K mg base (dA K w) 3 "is_place" 2 fN:=
 b5 F qA rfl hm (F.b2 (by rfl) fun _ _ _ _ _ _ _ _=>by rfl) fun cdv A outer s H E hr=>
 a6 (bp (aV d_is_whole_from (hr.mono (by decide)) (aZ (aM 1) (aZ (cK) (aZ (lK (aM 0) (cK)) (br))))))
theorem oJ (nm:Nm mg) {f:Addr}{fd:FuncData} (F:gh K "is_places" "is_places" d8 f fd) (hm:mg "is_places" = some (.ref f)) (d_is_place:dB P w K mg base (dA K w) 3 "is_place" 2 fN):dB P w K mg base (dA K w) 4 "is_places" 2 dS:=
 b5 F oF rfl hm (F.b2 (by rfl) fun _ _ _ _ _ _ _ _=>by rfl) fun cdv A outer s H E hr=>
 a6 (bp (i7 (ic (T:="tuple") (by decide) iw (by decide) (by decide) nm.isinstance nm.tuple (aM 1)) (jE (bI lS nm.all (aZ (dG (cw (N:=["many", "thing"]) (sc:=ar d8) (Nc:=["place", "many"]) (cap:=[none,some 0]) rfl rfl (by decide +kernel)) (qR (aM 1)) (fun _ _ _ _ _=>i5 0 mK) (fun _ _ _ _ _=>g6) (fun _ _ _ _ _=>aV d_is_place (hr.mono (by decide)) (aZ (aM 1) (aZ (aM 0) (br))))) (br))))))
theorem oI (nm:Nm mg) {f:Addr}{fd:FuncData} (F:gh K "is_rising" "is_rising" d7 f fd) (hm:mg "is_rising" = some (.ref f)):dB P w K mg base (dA K w) 1 "is_rising" 1 dR:=
 b5 F oE rfl hm (F.b1 (by rfl) fun _ _ _ _ _ _ _=>by rfl) fun cdv A outer s H E hr=>
 a6 (bp (bI lS nm.all (aZ (dG (cw (N:=["things"]) (sc:=ar d7) (Nc:=["at", "things"]) (cap:=[none,some 0]) rfl rfl (by decide +kernel)) (FJ nm.range (aZ (cK) (aZ (bI jH nm.len (aZ (aM 0) (br))) (br)))) (fun _ _ _ _ _=>i5 0 mJ) (fun _ _ _ _ _=>g6) (fun _ _ _ _ _=>kB (ie (op:=.Lt) hr.units) (dF (aM 1) (lK (aM 0) (cK))) (dF (aM 1) (aM 0)))) (br))))
theorem rZ (nm:Nm mg) {f:Addr}{fd:FuncData} (F:gh K "is_many" "is_many" gW f fd) (hm:mg "is_many" = some (.ref f)) (c_MOST_PLACES:∃t,mg "MOST_PLACES" = some (.int 6 t)) (d_is_whole_from:dB P w K mg base (dA K w) 2 "is_whole_from" 3 bf):dB P w K mg base (dA K w) 3 "is_many" 1 gF:=
 b5 F rR rfl hm (F.b1 (by rfl) fun _ _ _ _ _ _ _=>by rfl) fun cdv A outer s H E hr=>
 a6 (bp (aV d_is_whole_from (hr.mono (by decide)) (aZ (aM 0) (aZ (cK) (aZ (DD c_MOST_PLACES) (br))))))
theorem rY (nm:Nm mg) {f:Addr}{fd:FuncData} (F:gh K "is_pair" "is_pair" gU f fd) (hm:mg "is_pair" = some (.ref f)) (d_is_places:dB P w K mg base (dA K w) 4 "is_places" 2 dS):dB P w K mg base (dA K w) 5 "is_pair" 2 gE:=
 b5 F rQ rfl hm (F.b2 (by rfl) fun _ _ _ _ _ _ _ _=>by rfl) fun cdv A outer s H E hr=>
 a6 (bp (i7 (aV d_is_places (hr.mono (by decide)) (aZ (aM 0) (aZ (aM 1) (br)))) (i7 (kB (ub hr.units) (bI jH nm.len (aZ (aM 1) (br))) (cK)) (jE (kB (ua hr.units) (dF (aM 1) (cK)) (dF (aM 1) (cK)))))))
theorem uM (nm:Nm mg) {f:Addr}{fd:FuncData} (F:gh K "is_tie" "is_tie" iS f fd) (hm:mg "is_tie" = some (.ref f)) (d_is_pair:dB P w K mg base (dA K w) 5 "is_pair" 2 gE):dB P w K mg base (dA K w) 6 "is_tie" 2 ix:=
 b5 F uD rfl hm (F.b2 (by rfl) fun _ _ _ _ _ _ _ _=>by rfl) fun cdv A outer s H E hr=>
 a6 (bp (i7 (aV d_is_pair (hr.mono (by decide)) (aZ (aM 0) (aZ (aM 1) (br)))) (jE (kB (ie (op:=.Lt) hr.units) (dF (aM 1) (cK)) (dF (aM 1) (cK))))))
theorem rX (nm:Nm mg) {f:Addr}{fd:FuncData} (F:gh K "is_ties" "is_ties" fL f fd) (hm:mg "is_ties" = some (.ref f)) (d_is_tie:dB P w K mg base (dA K w) 6 "is_tie" 2 ix) (d_is_rising:dB P w K mg base (dA K w) 1 "is_rising" 1 dR):dB P w K mg base (dA K w) 7 "is_ties" 2 fD:=
 b5 F rP rfl hm (F.b2 (by rfl) fun _ _ _ _ _ _ _ _=>by rfl) fun cdv A outer s H E hr=>
 a6 (bp (i7 (ic (T:="tuple") (by decide) iw (by decide) (by decide) nm.isinstance nm.tuple (aM 1)) (i7 (bI lS nm.all (aZ (dG (cw (N:=["many", "thing"]) (sc:=ar fL) (Nc:=["tie", "many"]) (cap:=[none,some 0]) rfl rfl (by decide +kernel)) (qR (aM 1)) (fun _ _ _ _ _=>i5 0 oP) (fun _ _ _ _ _=>g6) (fun _ _ _ _ _=>aV d_is_tie (hr.mono (by decide)) (aZ (aM 1) (aZ (aM 0) (br))))) (br))) (jE (aV d_is_rising (hr.mono (by decide)) (aZ (aM 1) (br)))))))
theorem oK (nm:Nm mg) {f:Addr}{fd:FuncData} (F:gh K "is_number" "is_number" d9 f fd) (hm:mg "is_number" = some (.ref f)) (c_FIGURES:∃t,mg "FIGURES" = some (.str "0123456789" t)) (c_MOST_FIGURES:∃t,mg "MOST_FIGURES" = some (.int 20 t)):dB P w K mg base (dA K w) 1 "is_number" 1 eX:=
 b5 F oG rfl hm (F.b1 (by rfl) fun _ _ _ _ _ _ _=>by rfl) fun cdv A outer s H E hr=>
 aP (jx (oX (kU (ia (D3 (ie (op:=.LtE) hr.units) (ie (op:=.LtE) hr.units) (cK) (bI jH nm.len (aZ (aM 0) (br))) (DD c_MOST_FIGURES))) (lL (ia (yj (bI lS nm.all (aZ (dG (cw (N:=["word"]) (sc:=ar d9) (Nc:=["sign"]) (cap:=[none]) rfl rfl (by decide +kernel)) (ED (aM 0)) (fun _ _ _ _ _=>i5 0 mL) (fun _ _ _ _ _=>g6) (fun _ _ _ _ _=>kB (EA) (aM 0) (Fp c_FIGURES))) (br)))))))) (a6 (bp (Dv))) (fT))
 (a6 (bp (Fm (kB (EB) (aM 0) (vw)) (jE (kB (v3) (D1 (aM 0) (cK)) (vw))))))
theorem jZ (nm:Nm mg) {f:Addr}{fd:FuncData} (F:gh K "numbers_behind" "numbers_behind" bt f fd) (hm:mg "numbers_behind" = some (.ref f)) (d_is_number:dB P w K mg base (dA K w) 1 "is_number" 1 eX):dB P w K mg base (dA K w) 2 "numbers_behind" 3 aY:=
 b5 F f6 rfl hm (F.b3 (by rfl) fun _ _ _ _ _ _ _ _ _=>by rfl) fun cdv A outer s H E hr=>
 aP (cD 3 f6.nd (sM (aM 2) (aZ (vw) (br))))
 (aP (jx (oX (kU (dP (ua hr.units) (bI jH nm.len (aZ (aM 3) (br))) (dk (aM 1) (cK))) (kU (dP (v3) (dF (aM 3) (cK)) (aM 0)) (lL (ia (yj (bI lS nm.all (aZ (dG (cw (N:=["word", "many", "row", "words"]) (sc:=ar bt) (Nc:=["one"]) (cap:=[none]) rfl rfl (by decide +kernel)) (qR (yu (aM 3) (jJ (cK)) (n9))) (fun _ _ _ _ _=>i5 0 iZ) (fun _ _ _ _ _=>g6) (fun _ _ _ _ _=>aV d_is_number (hr.mono (by decide)) (aZ (aM 0) (br)))) (br))))))))) (a6 (bp (E9))) (fT))
 (a6 (bp (bI tX nm.tuple (aZ (dG (cw (N:=["word", "many", "row", "words"]) (sc:=ar bt) (Nc:=["one"]) (cap:=[none]) rfl rfl (by decide +kernel)) (qR (yu (aM 3) (jJ (cK)) (n9))) (fun _ _ _ _ _=>i5 0 iY) (fun _ _ _ _ _=>g6) (fun _ _ _ _ _=>bI Dn nm.int (aZ (aM 0) (br)))) (br))))))
theorem oH (nm:Nm mg) {f:Addr}{fd:FuncData} (F:gh K "web_shown" "web_shown" d6 f fd) (hm:mg "web_shown" = some (.ref f)):dB P w K mg base (dA K w) 1 "web_shown" 1 eW:=
 b5 F gZ rfl hm (F.b1 (by rfl) fun _ _ _ _ _ _ _=>by rfl) fun cdv A outer s H E hr=>
 aP (sE (aM 0) (lP (d4 (i5 1 gZ.nd) (d4 (i5 2 gZ.nd) (lQ)))))
 (a6 (bp (wc (vw) (aZ (dk (lJ (aZ (DE (EY (EX (aM 1) (EY (EX (bI jH nm.len (aZ (aM 2) (br))) (AO)))))) (br))) (dG (cw (N:=["web", "many", "ties"]) (sc:=ar d6) (Nc:=["a", "b"]) (cap:=[none,none]) rfl rfl (by decide +kernel)) (qR (aM 2)) (fun _ _ _ _ _=>lP (d4 (i5 0 iF) (d4 (i5 1 iF) (lQ)))) (fun _ _ _ _ _=>g6) (fun _ _ _ _ _=>DE (EY (EX (aM 0) (EY (EX (aM 1) (AO)))))))) (br)))))
theorem qB (nm:Nm mg) {f:Addr}{fd:FuncData} (F:gh K "web_read" "web_read" fX f fd) (hm:mg "web_read" = some (.ref f)) (d_numbers_behind:dB P w K mg base (dA K w) 2 "numbers_behind" 3 aY) (d_is_many:dB P w K mg base (dA K w) 3 "is_many" 1 gF) (d_is_ties:dB P w K mg base (dA K w) 7 "is_ties" 2 fD):dB P w K mg base (dA K w) 8 "web_read" 1 fM:=
 b5 F bz rfl hm (F.b1 (by rfl) fun _ _ _ _ _ _ _=>by rfl) fun cdv A outer s H E hr=>
 aP (jx (ia (yj (ic (T:="str") (by decide) rB (by decide) (by decide) nm.isinstance nm.str (aM 0)))) (a6 (lj)) (fT))
 (aP (cD 1 bz.nd (sM (aM 0) (aZ (vw) (br))))
 (aP (cD 2 bz.nd (aV d_numbers_behind (hr.mono (by decide)) (aZ (vw) (aZ (cK) (aZ (dF (aM 1) (cK)) (br))))))
 (aP (jx (oX (kU (dP (AN) (aM 2) (E9)) (lL (ia (yj (aV d_is_many (hr.mono (by decide)) (aZ (dF (aM 2) (cK)) (br)))))))) (a6 (lj)) (fT))
 (aP (sE (aM 2) (lP (d4 (i5 3 bz.nd) (d4 (i5 4 bz.nd) (lQ)))))
 (aP (cD 5 bz.nd (fE (br)))
 (aP (lO Kh (FK nm.enumerate (aZ (yu (aM 1) (jJ (cK)) (n9)) (br))) (lP (d4 (i5 6 bz.nd) (d4 (i5 7 bz.nd) (lQ)))) (aP (cD 8 bz.nd (aV d_numbers_behind (hr.mono (by decide)) (aZ (vw) (aZ (cK) (aZ (aM 7) (br))))))
 (aP (jx (oX (kU (dP (ub hr.units) (aM 6) (aM 4)) (kU (dP (AN) (aM 8) (E9)) (lL (ia (yj (aV d_is_ties (hr.mono (by decide)) (aZ (aM 3) (aZ (dk (aM 5) (fE (aZ (aM 8) (br)))) (br)))))))))) (a6 (lj)) (fT))
 (a6 (cD 5 bz.nd (dk (aM 5) (fE (aZ (aM 8) (br)))))))))
 (aP (jx (dP (ie (op:=.Lt) hr.units) (bI jH nm.len (aZ (aM 5) (br))) (aM 4)) (a6 (lj)) (fT))
 (a6 (bp (fE (aZ (aM 3) (aZ (aM 5) (br)))))))))))))
theorem la (nm:Nm mg) {f:Addr}{fd:FuncData} (F:gh K "_law_cell_at" "_law_cell_at" dD f fd) (hm:mg "_law_cell_at" = some (.ref f)):dB P w K mg base (dA K w) 1 "_law_cell_at" 2 cZ:=
 b5 F k7 rfl hm (F.b2 (by rfl) fun _ _ _ _ _ _ _ _=>by rfl) fun cdv A outer s H E hr=>
 aP (jx (dP (ie (op:=.Lt) hr.units) (aM 1) (bI jH nm.len (aZ (aM 0) (br)))) (a6 (bp (dF (aM 0) (aM 1)))) (fT))
 (a6 (bp (cK)))
theorem oM (nm:Nm mg) {f:Addr}{fd:FuncData} (F:gh K "_law_next" "_law_next" fy f fd) (hm:mg "_law_next" = some (.ref f)):dB P w K mg base (dA K w) 1 "_law_next" 1 dU:=
 b5 F jU rfl hm (F.b1 (by rfl) fun _ _ _ _ _ _ _=>by rfl) fun cdv A outer s H E hr=>
 aP (cD 0 jU.nd (pf (dk (aM 0) (cK)) (cK)))
 (a6 (bp (pf (dk (dk (As (aM 0) (aM 0)) (As (cK) (aM 0))) (cK)) (cK))))
theorem mI (nm:Nm mg) {f:Addr}{fd:FuncData} (F:gh K "_law_pen_of" "_law_pen_of" eA f fd) (hm:mg "_law_pen_of" = some (.ref f)):dB P w K mg base (dA K w) 1 "_law_pen_of" 1 dz:=
 b5 F iE rfl hm (F.b1 (by rfl) fun _ _ _ _ _ _ _=>by rfl) fun cdv A outer s H E hr=>
 aP (cD 1 iE.nd (bI AW nm.max (aZ (aM 0) (aZ (lK (cK) (aM 0)) (br)))))
 (a6 (bp (lJ (aZ (aM 1) (aZ (bI EN nm.int (aZ (kB (ie (op:=.GtE) hr.units) (aM 1) (D0 (cK) (cK))) (br))) (aZ (pf (aM 1) (cK)) (br)))))))
theorem oN (nm:Nm mg) {f:Addr}{fd:FuncData} (F:gh K "_law_draw" "_law_draw" fA f fd) (hm:mg "_law_draw" = some (.ref f)) (d__law_next:dB P w K mg base (dA K w) 1 "_law_next" 1 dU):dB P w K mg base (dA K w) 2 "_law_draw" 2 ba:=
 b5 F jV rfl hm (F.b2 (by rfl) fun _ _ _ _ _ _ _ _=>by rfl) fun cdv A outer s H E hr=>
 aP (jx (dP (ub hr.units) (dF (aM 0) (cK)) (cK)) (aP (cD 2 jV.nd (pf (dF (aM 0) (cK)) (aM 1)))
 (aP (sE (wd (dF (aM 0) (cK)) (aM 1)) (AR (aM 0) (cK)))
 (a6 (bp (aM 2))))) (fT))
 (aP (sE (aV d__law_next (hr.mono (by decide)) (aZ (dk (aV d__law_next (hr.mono (by decide)) (aZ (dF (aM 0) (cK)) (br))) (cK)) (br))) (AR (aM 0) (cK)))
 (a6 (bp (pf (wd (dF (aM 0) (cK)) (cK)) (aM 1)))))
theorem mV (nm:Nm mg) {f:Addr}{fd:FuncData} (F:gh K "_law_whole" "_law_whole" eR f fd) (hm:mg "_law_whole" = some (.ref f)):dB P w K mg base (dA K w) 1 "_law_whole" 1 cx:=
 b5 F mU rfl hm (F.b1 (by rfl) fun _ _ _ _ _ _ _=>by rfl) fun cdv A outer s H E hr=>
 a6 (bp (i7 (ic (T:="int") (by decide) rC (by decide) (by decide) nm.isinstance nm.int (aM 0)) (jE (Ar (ic (T:="bool") (by decide) tW (by decide) (by decide) nm.isinstance nm.bool (aM 0))))))
theorem mG (nm:Nm mg) {f:Addr}{fd:FuncData} (F:gh K "_law_web_of" "_law_web_of" cW f fd) (hm:mg "_law_web_of" = some (.ref f)):dB P w K mg base (dA K w) 1 "_law_web_of" 2 aT:=
 b5 F mE rfl hm (F.b2 (by rfl) fun _ _ _ _ _ _ _ _=>by rfl) fun cdv A outer s H E hr=>
 a6 (bp (fE (aZ (aM 0) (aZ (bI tX nm.tuple (aZ (bI vq nm.sorted (aZ (bI (EL hr.units) nm.set (aZ (dG (cw (N:=["_law_many", "_law_ties"]) (sc:=ar cW) (Nc:=["_law_a", "_law_b"]) (cap:=[none,none]) rfl rfl (by decide +kernel)) (qR (aM 1)) (fun _ _ _ _ _=>lP (d4 (i5 0 gG) (d4 (i5 1 gG) (lQ)))) (fun _ _ _ _ _=>g6) (fun _ _ _ _ _=>fE (aZ (bI EM nm.min (aZ (aM 0) (aZ (aM 1) (br)))) (aZ (bI AW nm.max (aZ (aM 0) (aZ (aM 1) (br)))) (br))))) (br))) (br))) (br))) (br)))))
theorem j3 (nm:Nm mg) {f:Addr}{fd:FuncData} (F:gh K "_law_drawn_web" "_law_drawn_web" bS f fd) (hm:mg "_law_drawn_web" = some (.ref f)) (d__law_draw:dB P w K mg base (dA K w) 2 "_law_draw" 2 ba) (d__law_web_of:dB P w K mg base (dA K w) 1 "_law_web_of" 2 aT):dB P w K mg base (dA K w) 3 "_law_drawn_web" 2 bC:=
 b5 F bT rfl hm (F.b2 (by rfl) fun _ _ _ _ _ _ _ _=>by rfl) fun cdv A outer s H E hr=>
 aP (cD 2 bT.nd (dk (cK) (aV d__law_draw (hr.mono (by decide)) (aZ (aM 0) (aZ (aM 1) (br))))))
 (aP (cD 3 bT.nd (dk (cK) (aV d__law_draw (hr.mono (by decide)) (aZ (aM 0) (aZ (cK) (br))))))
 (aP (cD 4 bT.nd (lJ (br)))
 (aP (lO Kh (vK nm.range (aZ (aM 2) (br))) (i5 5 bT.nd) (a6 (lT (vQ (aM 4) (aZ (dG (cw (N:=["_law_pen", "_law_most", "_law_many", "_law_share", "_law_ties", "_law_one"]) (sc:=ar bS) (Nc:=["_law_other", "_law_one", "_law_pen", "_law_share"]) (cap:=[none,some 5,some 0,some 3]) rfl rfl (by decide +kernel)) (vK nm.range (aZ (aM 5) (br))) (fun _ _ _ _ _=>i5 0 i3) (fun _ _ _ _ _=>sy (dP (ub hr.units) (aV d__law_draw (hr.mono (by decide)) (aZ (aM 2) (aZ (aM 3) (br)))) (cK))) (fun _ _ _ _ _=>fE (aZ (aM 0) (aZ (aM 1) (br))))) (br))))))
 (a6 (bp (aV d__law_web_of (hr.mono (by decide)) (aZ (aM 2) (aZ (aM 4) (br)))))))))
theorem k9 (nm:Nm mg) {f:Addr}{fd:FuncData} (F:gh K "_law_near_of" "_law_near_of" cH f fd) (hm:mg "_law_near_of" = some (.ref f)):dB P w K mg base (dA K w) 1 "_law_near_of" 2 cY:=
 b5 F kZ rfl hm (F.b2 (by rfl) fun _ _ _ _ _ _ _ _=>by rfl) fun cdv A outer s H E hr=>
 a6 (bp (dG (cw (N:=["_law_web", "_law_place"]) (sc:=ar cH) (Nc:=["_law_a", "_law_b", "_law_place"]) (cap:=[none,none,some 1]) rfl rfl (by decide +kernel)) (qR (dF (aM 0) (cK))) (fun _ _ _ _ _=>lP (d4 (i5 0 f9) (d4 (i5 1 f9) (lQ)))) (fun _ _ _ _ _=>sy (dP (FG hr.units) (aM 2) (fE (aZ (aM 0) (aZ (aM 1) (br)))))) (fun _ _ _ _ _=>lK (dk (aM 0) (aM 1)) (aM 2))))
theorem ky (nm:Nm mg) {f:Addr}{fd:FuncData} (F:gh K "_law_two_step" "_law_two_step" cb f fd) (hm:mg "_law_two_step" = some (.ref f)) (d__law_near_of:dB P w K mg base (dA K w) 1 "_law_near_of" 2 cY) (d__law_web_of:dB P w K mg base (dA K w) 1 "_law_web_of" 2 aT):dB P w K mg base (dA K w) 2 "_law_two_step" 1 cJ:=
 b5 F cg rfl hm (F.b1 (by rfl) fun _ _ _ _ _ _ _=>by rfl) fun cdv A outer s H E hr=>
 aP (cD 1 cg.nd (bI Dm nm.list (aZ (dF (aM 0) (cK)) (br))))
 (aP (lO Kh (vK nm.range (aZ (dF (aM 0) (cK)) (br))) (i5 2 cg.nd) (aP (cD 3 cg.nd (aV d__law_near_of (hr.mono (by decide)) (aZ (aM 0) (aZ (aM 2) (br)))))
 (a6 (lO Kh (qR (aM 3)) (i5 4 cg.nd) (a6 (lT (vQ (aM 1) (aZ (dG (cw (N:=["_law_web", "_law_ties", "_law_place", "_law_near", "_law_one"]) (sc:=ar cb) (Nc:=["_law_other", "_law_one"]) (cap:=[none,some 4]) rfl rfl (by decide +kernel)) (qR (aM 3)) (fun _ _ _ _ _=>i5 0 ju) (fun _ _ _ _ _=>sy (dP (ie (op:=.Lt) hr.units) (aM 1) (aM 0))) (fun _ _ _ _ _=>fE (aZ (aM 1) (aZ (aM 0) (br))))) (br)))))))))
 (a6 (bp (aV d__law_web_of (hr.mono (by decide)) (aZ (dF (aM 0) (cK)) (aZ (aM 1) (br)))))))
theorem lb (nm:Nm mg) {f:Addr}{fd:FuncData} (F:gh K "_law_any_web" "_law_any_web" cI f fd) (hm:mg "_law_any_web" = some (.ref f)) (d__law_drawn_web:dB P w K mg base (dA K w) 3 "_law_drawn_web" 2 bC) (d__law_draw:dB P w K mg base (dA K w) 2 "_law_draw" 2 ba) (d__law_two_step:dB P w K mg base (dA K w) 2 "_law_two_step" 1 cJ) (d__law_web_of:dB P w K mg base (dA K w) 1 "_law_web_of" 2 aT):dB P w K mg base (dA K w) 4 "_law_any_web" 2 bF:=
 b5 F bj rfl hm (F.b2 (by rfl) fun _ _ _ _ _ _ _ _=>by rfl) fun cdv A outer s H E hr=>
 aP (cD 2 bj.nd (aV d__law_drawn_web (hr.mono (by decide)) (aZ (aM 0) (aZ (aM 1) (br)))))
 (aP (cD 3 bj.nd (aV d__law_draw (hr.mono (by decide)) (aZ (aM 0) (aZ (cK) (br)))))
 (aP (jx (dP (ub hr.units) (aM 3) (cK)) (a6 (bp (aM 2))) (fT))
 (aP (cD 2 bj.nd (aV d__law_two_step (hr.mono (by decide)) (aZ (aM 2) (br))))
 (aP (jx (oX (D4 (dP (ub hr.units) (aM 3) (cK)) (Bu (dP (ie (op:=.Gt) hr.units) (dF (aM 2) (cK)) (cK))))) (aP (cD 4 bj.nd (aV d__law_draw (hr.mono (by decide)) (aZ (aM 0) (aZ (lK (dF (aM 2) (cK)) (cK)) (br)))))
 (aP (cD 5 bj.nd (fE (aZ (aM 4) (aZ (dk (dk (aM 4) (cK)) (aV d__law_draw (hr.mono (by decide)) (aZ (aM 0) (aZ (lK (lK (dF (aM 2) (cK)) (cK)) (aM 4)) (br))))) (br)))))
 (aP (B1 6 bj.nd (cw (N:=["_law_pen", "_law_most", "_law_web", "_law_way", "_law_one", "_law_pair", "_law_some"]) (sc:=ar cI) (Nc:=["_law_tie", "_law_pair"]) (cap:=[none,some 5]) rfl rfl (by decide +kernel)) (qR (dF (aM 2) (cK))) (fun _ _ _ _ _=>i5 0 j4) (fun _ _ _ _ _=>sy (dP (ua hr.units) (aM 0) (aM 1))) (fun _ _ _ _ _=>aM 0))
 (aP (jx (dP (Ez hr.units) (aM 5) (dF (aM 2) (cK))) (a6 (lT (Au (aM 6) (aZ (aM 5) (br))))) (fT))
 (a6 (cD 2 bj.nd (aV d__law_web_of (hr.mono (by decide)) (aZ (dF (aM 2) (cK)) (aZ (aM 6) (br)))))))))) (fT))
 (a6 (bp (aM 2)))))))
theorem kz (nm:Nm mg) {f:Addr}{fd:FuncData} (F:gh K "_law_all_tied" "_law_all_tied" cf f fd) (hm:mg "_law_all_tied" = some (.ref f)) (d__law_web_of:dB P w K mg base (dA K w) 1 "_law_web_of" 2 aT):dB P w K mg base (dA K w) 2 "_law_all_tied" 1 bK:=
 b5 F eM rfl hm (F.b1 (by rfl) fun _ _ _ _ _ _ _=>by rfl) fun cdv A outer s H E hr=>
 aP (cD 1 eM.nd (lJ (br)))
 (aP (lO Kh (vK nm.range (aZ (aM 0) (br))) (i5 2 eM.nd) (a6 (lT (vQ (aM 1) (aZ (dG (cw (N:=["_law_many", "_law_ties", "_law_one"]) (sc:=ar cf) (Nc:=["_law_other", "_law_one"]) (cap:=[none,some 2]) rfl rfl (by decide +kernel)) (vK nm.range (aZ (aM 2) (br))) (fun _ _ _ _ _=>i5 0 jv) (fun _ _ _ _ _=>g6) (fun _ _ _ _ _=>fE (aZ (aM 0) (aZ (aM 1) (br))))) (br))))))
 (a6 (bp (aV d__law_web_of (hr.mono (by decide)) (aZ (aM 0) (aZ (aM 1) (br)))))))
theorem jt (nm:Nm mg) {f:Addr}{fd:FuncData} (F:gh K "_law_tuples_are" "_law_tuples_are" bG f fd) (hm:mg "_law_tuples_are" = some (.ref f)) (d__law_whole:dB P w K mg base (dA K w) 1 "_law_whole" 1 cx):dB P w K mg base (dA K w) 2 "_law_tuples_are" 2 bu:=
 b5 F js rfl hm (F.b2 (by rfl) fun _ _ _ _ _ _ _ _=>by rfl) fun cdv A outer s H E hr=>
 aP (jx (oX (kU (ia (yj (ic (T:="tuple") (by decide) iw (by decide) (by decide) nm.isinstance nm.tuple (aM 0)))) (lL (dP (ua hr.units) (aM 0) (aM 1))))) (a6 (bp (Dv))) (fT))
 (a6 (bp (bI lS nm.all (aZ (dG (cw (N:=["_law_found", "_law_due"]) (sc:=ar bG) (Nc:=["_law_one"]) (cap:=[none]) rfl rfl (by decide +kernel)) (qR (aM 0)) (fun _ _ _ _ _=>i5 0 iJ) (fun _ _ _ _ _=>g6) (fun _ _ _ _ _=>i7 (ic (T:="tuple") (by decide) iw (by decide) (by decide) nm.isinstance nm.tuple (aM 0)) (jE (bI lS nm.all (aZ (dG (Aj (N:=["_law_one"]) (Nc:=["_law_number"]) (cap:=[none]) rfl rfl (by decide +kernel)) (qR (aM 0)) (fun _ _ _ _ _=>i5 0 iI) (fun _ _ _ _ _=>g6) (fun _ _ _ _ _=>aV d__law_whole (hr.mono (by decide)) (aZ (aM 0) (br)))) (br)))))) (br)))))
theorem mH (nm:Nm mg) {f:Addr}{fd:FuncData} (F:gh K "_law_web_is" "_law_web_is" ef f fd) (hm:mg "_law_web_is" = some (.ref f)) (d__law_whole:dB P w K mg base (dA K w) 1 "_law_whole" 1 cx) (d__law_tuples_are:dB P w K mg base (dA K w) 2 "_law_tuples_are" 2 bu):dB P w K mg base (dA K w) 3 "_law_web_is" 2 dy:=
 b5 F mF rfl hm (F.b2 (by rfl) fun _ _ _ _ _ _ _ _=>by rfl) fun cdv A outer s H E hr=>
 aP (jx (oX (kU (ia (yj (ic (T:="tuple") (by decide) iw (by decide) (by decide) nm.isinstance nm.tuple (aM 0)))) (kU (dP (ua hr.units) (bI jH nm.len (aZ (aM 0) (br))) (cK)) (kU (ia (yj (aV d__law_whole (hr.mono (by decide)) (aZ (dF (aM 0) (cK)) (br))))) (lL (dP (ua hr.units) (aM 0) (aM 1))))))) (a6 (bp (Dv))) (fT))
 (a6 (bp (aV d__law_tuples_are (hr.mono (by decide)) (aZ (dF (aM 0) (cK)) (aZ (dF (aM 1) (cK)) (br))))))
theorem k8 (nm:Nm mg) {f:Addr}{fd:FuncData} (F:gh K "_law_text_of" "_law_text_of" cG f fd) (hm:mg "_law_text_of" = some (.ref f)):dB P w K mg base (dA K w) 1 "_law_text_of" 1 cX:=
 b5 F g8 rfl hm (F.b1 (by rfl) fun _ _ _ _ _ _ _=>by rfl) fun cdv A outer s H E hr=>
 aP (cD 1 g8.nd (dk (lJ (aZ (dk (dk (dk (vw) (bI sJ nm.str (aZ (dF (aM 0) (cK)) (br)))) (vw)) (bI sJ nm.str (aZ (bI jH nm.len (aZ (dF (aM 0) (cK)) (br))) (br)))) (br))) (dG (cw (N:=["_law_web", "_law_rows"]) (sc:=ar cG) (Nc:=["_law_a", "_law_b"]) (cap:=[none,none]) rfl rfl (by decide +kernel)) (qR (dF (aM 0) (cK))) (fun _ _ _ _ _=>lP (d4 (i5 0 f7) (d4 (i5 1 f7) (lQ)))) (fun _ _ _ _ _=>g6) (fun _ _ _ _ _=>dk (dk (dk (vw) (bI sJ nm.str (aZ (aM 0) (br)))) (vw)) (bI sJ nm.str (aZ (aM 1) (br)))))))
 (a6 (bp (wc (vw) (aZ (aM 1) (br)))))
theorem De (nm:Nm mg) {f:Addr}{fd:FuncData} (F:gh K "law" "law" jg f fd) (d__law_all_tied:dB P w K mg base (dA K w) 2 "_law_all_tied" 1 bK) (d__law_cell_at:dB P w K mg base (dA K w) 1 "_law_cell_at" 2 cZ) (d__law_any_web:dB P w K mg base (dA K w) 4 "_law_any_web" 2 bF) (d__law_pen_of:dB P w K mg base (dA K w) 1 "_law_pen_of" 1 dz) (d__law_text_of:dB P w K mg base (dA K w) 1 "_law_text_of" 1 cX) (d_web_shown:dB P w K mg base (dA K w) 1 "web_shown" 1 eW) (d__law_web_is:dB P w K mg base (dA K w) 3 "_law_web_is" 2 dy) (d_web_read:dB P w K mg base (dA K w) 8 "web_read" 1 fM):mQ P w K mg base vC 9 f fd ["_law_script"] (Ao (dA K w) 1 pI):=
 EH F kb rfl fun cdv A outer s H E hr=>
 aP (cD 1 kb.nd (lJ (aZ (fE (aZ (cK) (aZ (fE (br)) (br)))) (aZ (fE (aZ (cK) (aZ (fE (br)) (br)))) (aZ (aV d__law_all_tied (hr.mono (by decide)) (aZ (cK) (br))) (br))))))
 (aP (lO Kh (qR (dk (lJ (aZ (aV d__law_cell_at (hr.mono (by decide)) (aZ (aM 0) (aZ (cK) (br)))) (br))) (yu (aM 0) (jJ (cK)) (jJ (cK))))) (i5 2 kb.nd) (a6 (lT (Au (aM 1) (aZ (aV d__law_any_web (hr.mono (by decide)) (aZ (aV d__law_pen_of (hr.mono (by decide)) (aZ (aM 2) (br))) (aZ (cK) (br)))) (br))))))
 (aP (lO Kh (qR (aM 1)) (i5 3 kb.nd) (aP (cD 4 kb.nd (aV d__law_text_of (hr.mono (by decide)) (aZ (aM 3) (br))))
 (aP (cD 5 kb.nd (aV d_web_shown (hr.mono (by decide)) (aZ (aM 3) (br))))
 (a6 (jx (oX (kU (ia (yj (ic (T:="str") (by decide) rB (by decide) (by decide) nm.isinstance nm.str (aM 5)))) (kU (dP (v3) (aM 5) (aM 4)) (lL (ia (yj (aV d__law_web_is (hr.mono (by decide)) (aZ (aV d_web_read (hr.mono (by decide)) (aZ (aM 4) (br))) (aZ (aM 3) (br)))))))))) (a6 (bp (Dv))) (fT))))))
 (a6 (bp (Dv)))))
end
end Lw
namespace Lv
variable{adj:Int->Int->Prop}{p:Int}
def R(adj:Int->Int->Prop)(p:Int):Nat->Int->Prop
 |0,q=>q=p
 |n+1,q=>R adj p n q\/∃r,adj r q/\R adj p n r
end Lv
namespace Lv
end Lv
namespace Lw
open PySem L2 RS
theorem bg:1000<=sizeLine:=by decide
theorem l5{lo:Int}{n:Nat}:bV lo n=(List.range n).map fun(i:Nat)=>D.int (lo+(i:Int)):=rfl
theorem sU{μ:aw}(s:Int):∃r:Int,dU [.int s] μ=.ok (.int r) μ:=by
 have h0:0<=(s+7919)%2147483647:=Ki _ (by decide);have h1:(s+7919)%2147483647<2147483647:=Kj _ (by decide);generalize ht:(s+7919)%2147483647=t at h0 h1;refine⟨(t*t+48271*t+12345)%2147483629,?_⟩;have c1:pd t t:=.inl ⟨by omega,by omega⟩;have c2:pd 48271 t:=.inl ⟨by omega,by omega⟩;unfold dU;rw[d5];simp[kR,ht,c1,c2];exact bW (by simp)
def dj(a b c:Int):O:=.lst [.int a,.int b,.int c]
theorem oq{n:Nat}{a b c:Int}:(dj a b c).low n:=by simp[dj,O.low]
theorem BL{μ:aw}(x:Int):∃a b c:Int,dz [.int x] μ=.ok (.obj μ.length) (μ++[dj a b c]):=by
 have e:∀i j:Int,o7 [.int i,.int j] μ=.ok (.int (if j>i then j else i)) μ:=fun _ _=>rfl;have p1:Bk 10 18:=⟨by decide,by decide,by decide⟩;have ib:∀k:Bool,∀μ,pF [.bl k] μ=.ok (.int (if k then 1 else 0)) μ:=fun _ _=>rfl;refine⟨(if 0-x>x then 0-x else x),(if dY .GtE (if 0-x>x then 0-x else x) (10^(18:Int).toNat) then 1 else 0),(if 0-x>x then 0-x else x)%1000003,?_⟩;unfold dz;rw[d5];have l3:(3:Nat)<=sizeLine:=by decide
 simp only[jd,aK,a8,az,aq,av,ag,ao,aL,bh,aa,ab,ae,AS,e,bD,aC,bb,ji,List.set,List.replicate,Kk,Kl];have pw:Bc (.int 10) (.int 18) μ=.ok (.int (10^(18:Int).toNat)) μ:=lW p1;have md:∀x,o6 (.int x) (.int 1000003) μ=.ok (.int (x%1000003)) μ:=fun x=>lW (show (0:Int)<1000003 by decide);simp only[pw,md,aa,ab,dC,ib,HV,ID,Gq l3,ae,aO];rw[AQ (by simp)];rfl
theorem y1{μ:aw}{i:Nat}{a b c m:Int}(hp:μ[i]?=some (dj a b c))(h0:0<m)(h1:m<1073741824) :
  ∃r a' b' c':Int,0<=r/\r<m/\ba [.obj i,.int m] μ=.ok (.int r) (μ.set i (dj a' b' c')):=by
 have hi:i<μ.length:=(GI.mp hp).1;have hp':μ[i]?=some (.lst [.int a,.int b,.int c]):=hp;have md:∀{x:Int}{μ:aw},o6 (.int x) (.int m) μ=.ok (.int (x%m)) μ:=fun {x μ}=>lW (show (fun _ j=>(0:Int)<j) x m from h0);have fd:∀{x:Int}{μ:aw},pG (.int x) (.int m) μ=.ok (.int (x / m)) μ:=fun {x μ}=>lW (show yD x m from⟨h0,by omega⟩);have f64:∀{x:Int}{μ:aw},pG (.int x) (.int 64) μ=.ok (.int (x / 64)) μ:=fun {x μ}=>lW (show yD x 64 from⟨by decide,by decide⟩);unfold ba;rw[dH];by_cases hb:b=1
 ·subst hb;refine⟨a%m,a / m,1,c,Ki _ (by omega),Kj _ h0,?_⟩;simp only[iD,aK,cu,cS,aL,ag,ao,bh,aa,ab];rw[il hp' wb];simp only[aa,ab,gn,HS,Hv,aW,ae,aK,a8,aL,ag,ao,bh];simp only[HU,Hu,Hv,aK,a8,aL,ag,ao,bh,aa,ab];rw[il hp' sL];simp only[aa,ab,md,ae,bD,aC,List.replicate,Kk,Kl,ag,ao,bh,aL,a8,aK];rw[il hp' sL];simp only[aa,ab,fd,ae,tP,ag,ao,bh];rw[tM hp' (n4 (by decide) (by simp))];simp only[aa,ab,ae,aC,bb,ag,ao,rh,aO];exact tK (by simp only[zZ]) (oq (a:=a / m) (b:=1) (c:=c))
 ·obtain ⟨s1, e1⟩ := sU (μ := μ) c;obtain⟨s2,e2⟩:=sU (μ:=μ) (s1+7);refine⟨s2 / 64%m,a,b,s2,Ki _ (by omega),Kj _ h0,?_⟩;have hb':(b == 1)=false:=by simpa using hb
  simp only[iD,aK,cu,cS,aL,ag,ao,bh,aa,ab];rw[il hp' wb];simp only[aa,ab,gn,hb',aW,ae,HU,Hu,bX,aC,aK,a8,az,aq,av,aL,ag,ao,bh];rw[il hp' AX];simp only[aa,ab,e1,gT,e2,ae,tP,ag,ao,bh];rw[tM hp' (n4 (by decide) (by simp))];have hg:(μ.set i (.lst ([D.int a,D.int b,D.int c].set (2:Int).toNat (.int s2))))[i]?=some (.lst [D.int a,D.int b,D.int s2]):=by rw[GK hi];rfl
  simp only[aa,ab,ae,aC,bb,aL,ag,ao,bh];rw[il hg AX];simp only[aa,ab,f64,md,ae,aO];exact tK (by simp) (oq (a:=a) (b:=b) (c:=s2))
theorem bN{μ g:aw}{i:Nat}{o:O}(h:μ[i]?=some o):(μ++g)[i]?=some o:=by
 rw[Hi (GI.mp h).1];exact h
theorem sX{μ g:aw}{i:Nat}{o:O}(h:i<μ.length):(μ++g).set i o=μ.set i o++g:=by
 rw[List.set_append_left _ _ h]
theorem lr{μ:aw}{i:Nat}{o:O}(h:i<μ.length):(μ.set i o)[i]?=some o:=GK h
def sx(m:Int)(k:List Int):Prop:=∃a b:Int,k=[a,b]/\0<=a/\a<b/\b<m
theorem sx.prs{m:Int}{k:List Int}(h:sx m k)(hm:m<=6):k∈prs:=by
 obtain⟨a,b,rfl,h1,h2,h3⟩:=h;exact tp h1 h2 (by omega)
def nc(d:D)(m:Int)(ks:List (List Int)):Prop:=d=.tup [.int m,.tup (ks.map aA)]/\1<=m/\m<=6/\(ks.Pairwise fun a b=>mZ a<mZ b)/\∀k∈ks,sx m k
theorem qv{m:Int}{ks:List (List Int)}(h0:1<=m)(h1:m<=6)(hk:∀k∈ks,sx m k):nc (.tup [.int m,.tup ((fm ks).map aA)]) m (fm ks):=by
 refine⟨rfl,h0,h1,ml.filter _,fun k h=>?_⟩;unfold fm at h;rw[Gx,J3]at h;exact hk k h.2
theorem bQ{m:Int}{ks:List (List Int)}{d:D}(h:nc d m ks):ks.length<=15:=by
 obtain⟨_,_,hm,hp,hk⟩:=h;have hn:ks.Nodup:=hp.imp fun h e=>by subst e;omega
 have hs:ks ⊆ prs:=fun k h=>(hk k h).prs hm;have:=hn.length_le_of_subset hs;rw[tq]at this;exact this
def eY(p:Int×Int):D:=.tup [.int p.1,.int p.2]
theorem l2:(2:Nat)<=sizeLine:=by decide
theorem Gc{u v:Int}{μ:aw}:uf [.tup [.int u,.int v]] μ=.ok (.int (min u v)) μ:=rfl
theorem Gd{u v:Int}{μ:aw}:o7 [.tup [.int u,.int v]] μ=.ok (.int (max u v)) μ:=rfl
theorem eV{n:Nat}{d:D}{m:Int}{ks:List (List Int)}(h:nc d m ks):d.low n:=by
 obtain⟨rfl,_⟩:=h;simp
 exact l7.mpr fun x hx=>by
  obtain⟨k,_,rfl⟩:=IJ.mp hx;simp[aA];exact l7.mpr (by simp)
theorem iU{lo:Int}{n:Nat}:bV lo (n+1)=.int lo::bV (lo+1) n:=by
 unfold bV;rw[Iy,HF,Iz];congr 1
 ·simp
 ·apply IA;intro i _;simp only[Function.comp_apply];congr 1;omega
theorem kh{lo:Int}:bV lo 0=[]:=rfl
theorem xt{lo:Int}{n:Nat}(h:bV lo n=[]):n=0:=by
 cases n with
 |zero=>rfl
 |succ n=>rw[iU]at h;cases h
theorem l1:(1:Nat)<=sizeLine:=by decide
end Lw
namespace Lw
open PySem L2 RS Lv
def Bb(ks:List (List Int)):List (Int×Int):=ks.flatMap fun k=>match k with
 |[u,v]=>[(u,v),(v,u)]
 |_=>[]
def Dt(ks:List (List Int))(a b:Int):Prop:=(a,b)∈Bb ks
section
variable{μ0 μ:aw}{m a:Nat}{web:D}{M p u v q r:Int}{n:Nat}{T:Int->Int->Option Nat}{f:Int->Option Nat}
theorem Ai{ks:List (List Int)}(hk:∀k∈ks,sx m k){x y:Int}(h:Dt ks x y):(0<=x/\x<m)/\(0<=y/\y<m):=by
 unfold Dt Bb at h;obtain⟨k,hk',hm⟩:=Km.mp h;obtain⟨u,v,rfl,u0,uv,v1⟩:=hk k hk';simp at hm;omega
end
end Lw
namespace Lw
open PySem L2 RS Lv
section
variable{μ0 μ:aw}{m a:Nat}{p q:Int}{k:Int}{T:Int->Int->Option Nat}
end
end Lw
namespace Lw
open PySem L2 RS Lv
theorem qi:∀fs:List Int,PyData.canLayAll0 (fs.map PyData.int)=true/\PyData.depthAll (fs.map PyData.int)=0
 |[]=>by simp[PyData.canLayAll0,PyData.depthAll]
 |x::fs=>by
  have:=qi fs;simp only[HF,PyData.canLayAll0,PyData.depthAll,PyData.canLay0,PyData.depth,this.1,this.2];exact⟨rfl,rfl⟩
theorem Ak{m:Int}{ks:List (List Int)}(hk:∀k∈ks,sx m k){a b:Int}:Dt ks a b↔([a,b]∈ks\/[b,a]∈ks):=by
 unfold Dt Bb;rw[Km];constructor
 ·rintro ⟨k, hk', hm⟩
  obtain⟨u,v,rfl,_⟩:=hk k hk';simp at hm;rcases hm with⟨rfl,rfl⟩|⟨rfl,rfl⟩
  ·exact .inl hk'
  ·exact .inr hk'
 ·rintro (h | h)
  ·exact⟨_,h,by simp⟩
  ·exact⟨_,h,by simp⟩
def eF(k:List Int):PyData:=.tuple (k.map PyData.int)
theorem nu{μ:aw}{m:Int}:∀{ks:List (List Int)},(∀k∈ks,sx m k)->fU μ (ks.map aA)=some (ks.map eF)
 |[],_=>rfl
 |k::ks,h=>by
  obtain⟨a,b,rfl,_⟩:=h k GC;have ih:=nu (μ:=μ) fun x hx=>h x (GD _ hx);simp only[HF,fU,ih];rfl
theorem kj{μ:aw}{m:Int}:∀{ks:List (List Int)},(∀k∈ks,sx m k)->toPs μ (ks.map aA)=some (ks.map eF)
 |[],_=>rfl
 |k::ks,h=>by
  obtain⟨a,b,rfl,_⟩:=h k GC;have ih:=kj (μ:=μ) fun x hx=>h x (GD _ hx);simp only[HF,toPs,ih];rfl
theorem km{m:Int}:∀{ks:List (List Int)},(∀k∈ks,sx m k)->PyData.canLayAll0 (ks.map eF)=true/\PyData.depthAll (ks.map eF)<=1
 |[],_=>by simp[PyData.canLayAll0,PyData.depthAll]
 |k::ks,h=>by
  obtain⟨a,b,rfl,_⟩:=h k GC;have ih:=km fun x hx=>h x (GD _ hx);simp only[HF,PyData.canLayAll0,PyData.depthAll,ih.1,eF,HE,PyData.canLay0,PyData.depth];refine⟨rfl,?_⟩;have:=ih.2;omega
def A6(m:Int)(ks:List (List Int)):PyData:=.tuple [.int m,.tuple (ks.map eF)]
theorem yJ{μ:aw}{d:D}{m:Int}{ks:List (List Int)}(h:nc d m ks):oV μ d=some (A6 m ks):=by
 obtain⟨rfl,_,_,_,hk⟩:=h
 have e:qP μ (.tup (ks.map aA))=some (.tuple (ks.map eF)):=by
  simp only[qP,kj hk,Option.map_some]
 unfold oV;dsimp only;simp only[fU,t4,qP,e,kj hk,Option.map_some,Option.bind_some];rfl
theorem yK{d:D}{m:Int}{ks:List (List Int)}(h:nc d m ks):fe (A6 m ks)=true:=by
 obtain⟨_,_,_,_,hk⟩:=h;have:=km hk;simp only[fe,A6,PyData.canLay0,PyData.canLayAll0,this.1,PyData.depth,PyData.depthAll,Bool.true_and,Bool.and_true];exact HQ (by have:=this.2;omega)
end Lw
namespace Lw
open PySem L2 RS
def Pn(μ0:aw)(i:Nat)(μ:aw):Prop:=∃a b c g,μ=μ0.set i (dj a b c)++g
theorem Pn.app{μ0 μ g:aw}{i:Nat}(h:Pn μ0 i μ):Pn μ0 i (μ++g):=by
 obtain⟨a,b,c,g',rfl⟩:=h;exact⟨a,b,c,g'++g,by rw[HK]⟩
theorem Pn.get{μ0 μ:aw}{i:Nat}(h:Pn μ0 i μ)(hi:i<μ0.length):∃a b c,μ[i]?=some (dj a b c):=by
 obtain⟨a,b,c,g',rfl⟩:=h;exact⟨a,b,c,bN (lr hi)⟩
theorem Pn.set{μ0 μ:aw}{i:Nat}{a b c:Int}(h:Pn μ0 i μ)(hi:i<μ0.length):Pn μ0 i (μ.set i (dj a b c)):=by
 obtain⟨a',b',c',g',rfl⟩:=h;exact⟨a,b,c,g',by rw[sX (by simpa using hi),List.set_set]⟩
theorem Pn.len{μ0 μ:aw}{i:Nat}(h:Pn μ0 i μ):μ0.length<=μ.length:=by
 obtain⟨a',b',c',g',rfl⟩:=h;simp
theorem Pn.self{μ0:aw}{i:Nat}{a b c:Int}(h:μ0[i]?=some (dj a b c)):Pn μ0 i μ0:=by
 refine⟨a,b,c,[],?_⟩;rw[G8];apply JB;intro j;by_cases e:i=j
 ·subst e;rw[lr (GI.mp h).1,h]
 ·rw[GL e]
theorem Pn.draw{μ0 μ:aw}{i:Nat}{m:Int}(h:Pn μ0 i μ)(hi:i<μ0.length)(h0:0<m)(h1:m<1073741824) :
  ∃r a b c:Int,0<=r/\r<m/\ba [.obj i,.int m] μ=.ok (.int r) (μ.set i (dj a b c))/\Pn μ0 i (μ.set i (dj a b c)):=by
 obtain⟨a,b,c,hp⟩:=h.get hi;obtain⟨r,a',b',c',r0,r1,e⟩:=y1 hp h0 h1;exact⟨r,a',b',c',r0,r1,e,h.set hi⟩
theorem Pn.gc{μ0 μ:aw}{i:Nat}{d:D}(h:Pn μ0 i μ)(hd:d.low μ0.length):∃a b c,mY μ0 (.ok d μ)=.ok d (μ0.set i (dj a b c)):=by
 obtain⟨a,b,c,g',rfl⟩:=h;exact⟨a,b,c,wK hd oq⟩
theorem yc{μ1:aw}{e:ME}{rest:Ro}{f:Int->Int×Int}{lo:Int}{n:Nat}(hn:n<1000)(he:∀v a,e (some (.int v)::rest) (μ1++[.lst a])=.ok (eY (f v)) (μ1++[.lst a])) :
  compLoop (.fix (bV lo n)) μ1.length (ak 0) bq e (bV lo n) (none::rest) (μ1++[.lst []])=.ok (.obj μ1.length) (μ1++[.lst (((List.range n).map fun k:Nat=>f (lo+(k:Int))).map eY)]):=by
 have:=iV (src:=.fix (bV lo n)) (g:=ak 0) (t:=bq) (e:=e) (μ1:=μ1) (q:=fun _=>true)
  (h:=fun d=>match d with | .int a=>eY (f a)|_=>.non) (fun ρ=>∃o,ρ=o::rest) (fun _=>trivial) (xs:=bV lo n) (acc:=[]) (ρ:=none::rest) ⟨none,rfl⟩
  (by unfold bV;rw[Hm,ID,IC];exact Gz (by omega) bg)
  (fun x hx a ρ hJJ => by
   obtain⟨o,ho⟩:=hJJ;unfold bV at hx;obtain⟨k,hk,rfl⟩:=IJ.mp hx
   exact⟨_,⟨_,rfl⟩,by subst ho;rfl,rfl,fun _=>he _ _⟩)
 rw[this,Kn.mpr (fun _ _=>rfl)];unfold bV;simp only[HP,Iz];rfl
theorem uJ{m:Int}{ks:List (List Int)}(h:∀k∈ks,sx m k):fe (.tuple (ks.map eF))=true:=by
 have:=km h;simp only[fe,PyData.canLay0,this.1,PyData.depth,Bool.true_and];exact HQ (by omega)
end Lw
namespace Lv
def rg(m:Nat):List Int:=(List.range m).map Int.ofNat
theorem wy{m:Nat}:(rg m).length=m:=by simp[rg]
structure Gh(m k:Nat)(w:List Int):Prop where
 len:w.length=k+1
 nd:w.Nodup
 rng:∀p∈w,0<=p/\p<(m:Int)
end Lv
namespace Lw
open PySem L2 RS Lv
theorem cF{U:Type}{en:U->D}{src:kT}{g:MG}{t:MT}{e:ME}{μ1:aw}{q:U->Bool}{h:U->D}(R:Ro->Prop)(ho:∀a,dq src (μ1++[.lst a])) :
  ∀{us:List U}{acc:List D}{ρ:Ro},R ρ->acc.length+us.length<=sizeLine->(∀x∈us,∀a ρ,R ρ->∃ρ1,R ρ1/\g (en x) ρ (μ1++[.lst a])=.ok ρ1 (μ1++[.lst a])/\t ρ1 (μ1++[.lst a])=.ok (q x) (μ1++[.lst a])/\(q x=true->e ρ1 (μ1++[.lst a])=.ok (h x) (μ1++[.lst a]))) ->
   compLoop src μ1.length g t e (us.map en) ρ (μ1++[.lst acc])=.ok (.obj μ1.length) (μ1++[.lst (acc++(us.filter q).map h)])
 |[],acc,ρ,hr,hl,he=>by
  rw[HE];unfold compLoop;rw[Gq (ho acc)];simp
 |x::xs,acc,ρ,hr,hl,he=>by
  obtain⟨ρ1,r1,e1,e2,e3⟩:=he x GC acc ρ hr;rw[HF];unfold compLoop;rw[Gq (ho acc),e1];simp only[ab,aa];rw[e2];simp only[ab,aa];have he':=fun y hy=>he y (GD _ hy);simp only[HV]at hl;cases hq:q x with
  |false=>
   rw[Gr G6,cF R ho r1 (by omega) he',Ka,hq];rfl
  |true=>
   rw[Gq rfl,e3 hq];simp only[ab,aa];rw[ki (by omega)];simp only[aa,ab];rw[cF R ho r1 (by simp;omega) he',Ka,hq];simp
theorem iu{U:Type}:∀{us:List U},us.filter (fun _=>true)=us
 |[]=>rfl
 |_::us=>by rw[Ka,Gq rfl,iu]
def Dy:D->Bool
 |.int _=>true
 |_=>false
def yk(m:Nat):D->Bool
 |.int i=>decide (0<=i/\i<(m:Int))
 |_=>false
def ym(μ:aw)(d:D):Prop:=A0 μ d≠none
theorem tF{μ:aw}{n:Nat}(h:ym μ (.obj n)):(∃xs,μ[n]?=some (.lst xs))\/μ[n]?=some .dic:=by
 unfold ym A0 at h;dsimp only at h;split at h
 ·rename_i xs e;exact .inl ⟨xs,e⟩
 ·rename_i e;exact .inr e
 ·exact absurd rfl h
theorem z9 {μ:aw}{d:D} (h:ym μ d):∃b,ff "int" d μ=.ok (.bl b) μ/\(b=true->∃c,ff "bool" d μ=.ok (.bl c) μ/\(!c)=Dy d)/\(b=false->Dy d=false):=by
 cases d with
 |non=>exact⟨false,rfl,nofun,fun _=>rfl⟩
 |bl b=>exact⟨true,rfl,fun _=>⟨true,rfl,rfl⟩,nofun⟩
 |int i=>exact⟨true,rfl,fun _=>⟨false,rfl,rfl⟩,nofun⟩
 |str x=>exact⟨false,rfl,nofun,fun _=>rfl⟩
 |tup xs=>exact⟨false,rfl,nofun,fun _=>rfl⟩
 |frz xs=>exact⟨false,rfl,nofun,fun _=>rfl⟩
 |obj n=>
  refine⟨false,?_,nofun,fun _=>rfl⟩;unfold ff A0;rcases tF h with⟨xs,e⟩|e <;> simp only[e] <;> rfl
theorem w9{μ:aw}{d:D}(h:ym μ d):dN [d] μ=.ok (.bl (Dy d)) μ:=by
 obtain⟨b,h1,h2,h3⟩:=z9 h;unfold dN;rw[d5];simp only[jr,List.replicate,bb,fv,tN,kF,ag,aa,ab,h1,aW];cases b with
 |false=>
  rw[Gr G6,ae,aO,h3 rfl];exact bW (by simp)
 |true=>
  obtain⟨c,c1,c2⟩:=h2 rfl;rw[Gq rfl,c1];simp only[aa,ab,aW,ae,aO,c2];exact bW (by simp)
theorem xc{μ:aw}{m:Nat}{d:D}(h:ym μ d):fN [.int m,d] μ=.ok (.bl (yk m d)) μ:=by
 have hw:bf [d,.int 0,.int ((m:Int)-1)] μ=.ok (.bl (yk m d)) μ:=by
  unfold bf;rw[rq];simp only[fk,List.replicate,bb,fv,az,aq,av,ag,ao,aa,ab,w9 h,aW,l9];cases d with
  |int i=>
   rw[show Dy (.int i)=true from rfl,Gq rfl];simp only[dC,aa,ab,aW];by_cases c:dY .LtE 0 i=true
   ·rw [Gq c, ae, aO]
    rw[show dY .LtE i ((m:Int)-1)=yk m (.int i) from by
     have c':(0:Int)<=i:=of_decide_eq_true c;show decide (i<=(m:Int)-1)=decide (0<=i/\i<(m:Int))
     exact Jz.mpr ⟨fun z=>⟨c',by omega⟩,fun z=>by omega⟩]
    exact bW (by simp)
   ·rw [Gr c, ae, aO]
    rw[show yk m (.int i)=false from by
     have c':¬ (0:Int)<=i:=fun z=>c (HQ z)
     exact Gm (fun z=>c' z.1)]
    exact bW (by simp)
  |_=>
   rw[show Dy _=false from rfl,Gr G6,ae,aO];exact bW (by simp)
 unfold fN;rw[dH];simp only[mD,List.replicate,bb,az,aq,av,ag,ao,bh,aL,aa,ab];rw[show iX (.int m) (.int 1) μ=.ok (.int ((m:Int)-1)) μ from rfl];simp only[aa,ab,hw,ae,aO];exact bW (by simp)
theorem xO{μ g:aw}{d:D}(h:ym μ d):ym (μ++g) d:=by
 cases d with
 |obj n=>
  unfold ym A0;rcases tF h with⟨xs,e⟩|e <;> simp only[bN e] <;> exact nofun
 |_=>exact h
theorem wm:100000<=sizeLine:=by decide
theorem rL{μ:aw}{m:Nat}{xs:List D}(h:∀x∈xs,ym μ x)(hl:xs.length<=1000):dS [.int m,.tup xs] μ=.ok (.bl (xs.all (yk m))) μ:=by
 have c:=cF (U:=D) (en:=fun x=>x) (src:=.fix xs) (g:=ak 0) (t:=bq) (e:=gr) (μ1:=μ) (q:=fun _=>true) (h:=fun x=>.bl (yk m x)) (fun ρ=>∃o,ρ=[o,some (.int m)]) (fun _=>trivial) (us:=xs) (acc:=[]) (ρ:=[none,some (.int m)]) ⟨_,rfl⟩
  (by rw[ID];exact Gz (by omega) bg)
  (fun x hx a ρ hJJ => by
   obtain⟨o,e⟩:=hJJ;subst e;refine⟨[some x,some (.int m)],⟨_,rfl⟩,rfl,rfl,fun _=>?_⟩;unfold gr
   simp only[az,aq,av,ao,ag,aa,ab,xc (xO (h x hx))])
 rw[List.map_id',HP,iu]at c;unfold dS;rw[dH];simp only[kP,List.replicate,bb,fv,kF,ao,ag,aa,ab];rw[show ff "tuple" (.tup xs) μ=.ok (.bl true) μ from rfl];simp only[aa,ab,aW,Hv,az,aq,av,bY,cv,ao,ag,iN,bo];rw[show gL [none,some 0] _=[none,some (.int m)] from rfl,c];simp only[aa,ab];rw[gS (bs:=xs.map (yk m)) (by rw[aJ,Iz];rfl)];simp only[ae,ab,aO];rw[show (xs.map (yk m)).all id=xs.all (yk m) from by rw[J7];rfl];exact d3 (by simp)
theorem x5{μ:aw}{m:Int}{ks:List (List Int)}{a b:Int}(hk:∀k∈ks,sx m k):vy false (.tup [.int a,.int b]) (.tup (ks.map aA)) μ=.ok (.bl (decide ([a,b]∈ks))) μ:=by
 have e1:oV μ (.tup [.int a,.int b])=some (.tuple [.int a,.int b]):=rfl
 have e2:oV μ (.tup (ks.map aA))=some (.tuple (ks.map eF)):=by
  simp only[oV,nu hk,Option.map_some]
 unfold vy;rw[e1,e2];dsimp only[wH];rw[Gq ⟨rfl,uJ hk⟩];simp only[HU,Hu];congr 2;rw[List.any_map];apply G5.mpr;rw[List.any_eq_true,J3];constructor
 ·rintro ⟨k, hk', e⟩
  obtain⟨u,v,rfl,_⟩:=hk k hk';have:u=a/\v=b:=by simpa[eF,PyData.eqv,PyData.eqvAll] using e
  rw[<- this.1,<- this.2];exact hk'
 ·intro h;exact⟨_,h,by simp[eF,PyData.eqv,PyData.eqvAll]⟩
theorem Ex{μ:aw}{a b:Int}:uf [.int a,.int b] μ=.ok (.int (min a b)) μ:=by
 show af.ok (D.int (if b<a then b else a)) μ=_;congr 2;split <;> omega
theorem Ey{μ:aw}{a b:Int}:o7 [.int a,.int b] μ=.ok (.int (max a b)) μ:=by
 show af.ok (D.int (if b>a then b else a)) μ=_;congr 2;split <;> omega
abbrev yi(w:List Int):D:=.tup (w.map D.int)
theorem B4{m:Nat}:bV 0 ((m:Int)).toNat=(rg m).map D.int:=by
 unfold bV rg;rw[Iz];simp
end Lw
namespace Lw
open PySem L2 RS Lv
section
variable{μ0:aw}{m A:Nat}{p:Int}{ks:List (List Int)}{w:D}
end
end Lw
namespace Lw
open PySem L2 RS Lv
theorem ui{μ:aw}{k:Int}(h0:1<=k)(h1:k<=6):bf [.int k,.int 1,.int 6] μ=.ok (.bl true) μ:=by
 have w:dN [.int k] μ=.ok (.bl true) μ:=by
  unfold dN;rw[d5];have e1:ff "int" (.int k) μ=.ok (.bl true) μ:=rfl;have e2:ff "bool" (.int k) μ=.ok (.bl false) μ:=rfl;simp only[jr,bb,fv,kF,tN,ag,aa,ab,e1,e2,aW,Hv,Jm,ae,aO];exact bW (by simp)
 unfold bf;rw[rq];simp only[fk,bb,fv,az,aq,av,ao,ag,aa,ab,w,aW,Hv,l9,dC];rw[show dY .LtE 1 k=true from HQ h0,show dY .LtE k 6=true from HQ h1];simp only[aW,aa,ab,Hv,ae,aO];exact bW (by simp)
end Lw
namespace Lv
section
variable{adj adj':Int->Int->Prop}{D:Int->Prop}{p:Int}
end
end Lv
namespace Lw
open PySem L2 RS Lv
abbrev ck(m:Nat)(ks:List (List Int)):D:=.tup [.int m,.tup (ks.map aA)]
abbrev GW(m:Nat)(ks:List (List Int)):Prop:=nc (ck m ks) m ks
end Lw
namespace Lw
open PySem L2 RS Lv
section
variable{m:Nat}{ks:List (List Int)}
theorem GW.m0(h:GW m ks):1<=m:=by have:=h.2.1;omega
theorem GW.m6(h:GW m ks):m<=6:=by have:=h.2.2.1;omega
theorem DW(h:GW m ks){a b:Int}(e:Dt ks a b):(0<=a/\a<(m:Int))/\(0<=b/\b<(m:Int)):=Ai h.2.2.2.2 e
end
end Lw
namespace Lw
open PySem L2 RS Lv
def yn(k k':List Int):Bool:=match k,k' with
 |[a,b],[c,d]=>decide (a<c) || (decide (a=c)&&decide (b<d))
 |_,_=>false
theorem u7{μ:aw}{a b c d:Int}:gm .Lt (aA [a,b]) (aA [c,d]) μ=.ok (.bl (yn [a,b] [c,d])) μ:=by
 have e:gm .Lt (aA [a,b]) (aA [c,d]) μ=(match cmpPs .Lt [.int a,.int b] [.int c,.int d] with|some k=>.ok (.bl k) μ|none=>.bad):=rfl;rw[e];simp only[cmpPs,fu,PyData.eqv,yn];by_cases h1:a=c
 ·subst h1;by_cases h2:b=d
  ·subst h2;simp[dY]
  ·simp[h2,dY]
 ·simp[h1,dY]
def Fl(k:List Int):Prop:=∃a b,k=[a,b]
def DI(ks:List (List Int)):Bool:=(List.range (ks.length-1)).all fun i=>yn (ks.getD i []) (ks.getD (i+1) [])
theorem ES:ja=aE (gm .Lt) (aE dX (ai 1) (aE iX (ai 0) (cC (.int 1)))) (aE dX (ai 1) (ai 0)):=rfl
theorem zk{μ:aw}{ks:List (List Int)}(hk:∀k∈ks,Fl k)(a:List D)(i:Nat)(hi:i<ks.length-1) :
  (aE (gm .Lt) (aE dX (ai 1) (aE iX (ai 0) (cC (.int 1)))) (aE dX (ai 1) (ai 0))) [some (.int (1+(i:Int))),some (.tup (ks.map aA))] (μ++[.lst a])=.ok (.bl (yn (ks.getD i []) (ks.getD (i+1) []))) (μ++[.lst a]):=by
 have h1:i<ks.length:=by omega
 have h2:i+1<ks.length:=by omega
 obtain⟨x,y,e1⟩:=hk ks[i] (JP h1);obtain⟨u,v,e2⟩:=hk ks[i+1] (JP h2)
 have g1:atI (ks.map aA) (1+(i:Int)-1)=some (aA [x,y]):=by
  rw[show (1+(i:Int)-1)=((i:Nat):Int) by omega];exact lx (by rw[Hj,JQ h1,e1];rfl)
 have g2:atI (ks.map aA) (1+(i:Int))=some (aA [u,v]):=by
  rw[show (1+(i:Int))=((i+1:Nat):Int) by omega];exact lx (by rw[Hj,JQ h2,e2];rfl)
 have k1:ks.getD i []=[x,y]:=by rw[JA,JQ h1,e1];rfl
 have k2:ks.getD (i+1) []=[u,v]:=by rw[JA,JQ h2,e2];rfl
 rw[k1,k2];simp only[aL,ao,ag,bh,aa,ab,AS];rw[n5 g1];simp only[aa,ab];rw[n5 g2];simp only[aa,ab];exact u7
theorem xu{μ:aw}{ks:List (List Int)}(hk:∀k∈ks,Fl k)(hl:ks.length<1000) :
  compLoop (kT.fix (bV 1 (ks.length-1))) μ.length (ak 0) bq (aE (gm CmpOp.Lt) (aE dX (ai 1) (aE iX (ai 0) (cC (D.int 1)))) (aE dX (ai 1) (ai 0))) (bV 1 (ks.length-1)) [none,some (D.tup (List.map aA ks))] (μ++[O.lst []]) =
   .ok (.obj μ.length) (μ++[.lst (((List.range (ks.length-1)).map fun i=>yn (ks.getD i []) (ks.getD (i+1) [])).map D.bl)]):=by
 have:=iV (src:=.fix (bV 1 (ks.length-1))) (g:=ak 0) (t:=bq) (e:=aE (gm .Lt) (aE dX (ai 1) (aE iX (ai 0) (cC (.int 1)))) (aE dX (ai 1) (ai 0))) (μ1:=μ) (q:=fun _=>true)
  (h:=fun d=>match d with | .int j=>.bl (yn (ks.getD (j-1).toNat []) (ks.getD ((j-1).toNat+1) []))|_=>.non) (fun ρ=>∃o,ρ=[o,some (.tup (ks.map aA))]) (fun _=>trivial) (xs:=bV 1 (ks.length-1)) (acc:=[]) (ρ:=[none,some (.tup (ks.map aA))]) ⟨none,rfl⟩
  (by rw[l5,Hm,IC,ID];exact Gz (by omega) bg)
  (fun x hx a ρ ⟨o, ho⟩ => by
   rw[l5]at hx;obtain⟨i,hi,rfl⟩:=IJ.mp hx;refine⟨[some (.int (1+(i:Int))),some (.tup (ks.map aA))],⟨_,rfl⟩,by subst ho;rfl,rfl,fun _=>?_⟩;rw[zk hk a i (by simpa using hi)];dsimp only
   rw[show (1+(i:Int)-1).toNat=i by omega])
 rw[this,Kn.mpr (fun _ _=>rfl),l5,Iz,HP,Iz];congr 4;apply IA;intro i _;show D.bl (yn (ks.getD (1+(i:Int)-1).toNat []) (ks.getD ((1+(i:Int)-1).toNat+1) []))=_;rw[show (1+(i:Int)-1).toNat=i by omega];rfl
theorem uw{μ:aw}{ks:List (List Int)}(hk:∀k∈ks,Fl k)(hl:ks.length<1000):dR [.tup (ks.map aA)] μ=.ok (.bl (DI ks)) μ:=by
 unfold dR;rw[d5];simp only[kO,bb,az,aq,bY,gR,bh,av,aa,ab,ag,iO,Hm];rw[Af (by omega) (by omega) (by omega) (by omega)];have hn:((ks.length:Int)-1).toNat=ks.length-1:=by omega
 simp only[aa,ab,bo,hn];rw[show gL [none,some 0] (some (D.tup (List.map aA ks))::List.replicate (1-1) none)=[none,some (D.tup (List.map aA ks))] from rfl];rw[ES,xu hk hl];simp only[aa,ab];rw[gS aJ];simp only[ae,ab,aO];rw[d3 (by simp)];simp[DI,J7,Function.comp_def]
theorem y0{μ:aw}{m:Nat}(h0:1<=m)(h1:m<=6):gF [.int m] μ=.ok (.bl true) μ:=by
 unfold gF;rw[d5];simp only[nU,List.replicate,bb,az,aq,av,ag,bh,aa,ab,ui (show (1:Int)<=(m:Int) by omega) (show (m:Int)<=6 by omega),ae,aO];exact bW (by simp)
theorem yY{μ:aw}{m:Nat}{a b:Int}(ha:0<=a/\a<(m:Int))(hb:0<=b/\b<(m:Int))(hn:a≠b):gE [.int m,.tup [.int a,.int b]] μ=.ok (.bl true) μ:=by
 have h1:dS [.int m,.tup [.int a,.int b]] μ=.ok (.bl true) μ:=by
  rw[rL (fun x hx=>by simp only[GE,Iq,Ir]at hx;rcases hx with rfl|rfl <;> exact nofun) (by simp)];congr 2;simp only[J6,List.all_nil,Bool.and_true,yk,HC,J3];exact⟨ha,hb⟩
 have h2:lh true (.int a) (.int b) μ=.ok (.bl true) μ:=by
  show af.ok (D.bl (!(a == b))) μ=_;rw[Gn.mpr hn];rfl
 have i0:dX (.tup [.int a,.int b]) (.int 0) μ=.ok (.int a) μ:=rfl;have i1:dX (.tup [.int a,.int b]) (.int 1) μ=.ok (.int b) μ:=rfl;have l2:lh false (.int (([.int a,.int b]:List D).length:Int)) (.int 2) μ=.ok (.bl true) μ:=rfl;unfold gE;rw[dH];simp only[nS,List.replicate,bb,fv,az,aq,av,ag,ao,bh,aa,ab,h1,aW,Hv,aL,iO,l2,i0,i1,h2,ae,aO];exact bW (by simp)
theorem BK{μ:aw}{m:Nat}{a b:Int}(h0:0<=a)(h1:a<b)(h2:b<(m:Int)):ix [.int m,.tup [.int a,.int b]] μ=.ok (.bl true) μ:=by
 have hp:=yY (μ:=μ) (m:=m) (a:=a) (b:=b) ⟨h0,by omega⟩ ⟨by omega,h2⟩ (by omega);have i0:dX (.tup [.int a,.int b]) (.int 0) μ=.ok (.int a) μ:=rfl;have i1:dX (.tup [.int a,.int b]) (.int 1) μ=.ok (.int b) μ:=rfl;unfold ix;rw[dH];simp only[qt,List.replicate,bb,fv,az,aq,av,ag,ao,bh,aa,ab,hp,aW,Hv,aL,i0,i1,dC,ae,aO];rw[show dY .Lt a b=true from HQ h1];exact bW (by simp)
theorem B5{m:Int}:∀{ks:List (List Int)},(∀k∈ks,sx m k)->m<=6->ks.Pairwise (fun a b=>mZ a<mZ b)->∀i,i<ks.length-1->yn (ks.getD i []) (ks.getD (i+1) [])=true:=fun {ks} hk hm hp i hi=>by
 have h1:i<ks.length:=by omega
 have h2:i+1<ks.length:=by omega
 have e1:ks.getD i []=ks[i]:=by rw[JA,JQ h1];rfl
 have e2:ks.getD (i+1) []=ks[i+1]:=by rw[JA,JQ h2];rfl
 have lt:=IG.mp hp i (i+1) h1 h2 (by omega);rw[e1,e2];obtain⟨a,b,ea,a1,a2,a3⟩:=hk _ (JP h1);obtain⟨c,d,ec,c1,c2,c3⟩:=hk _ (JP h2);rw[ea,ec]at lt⊢;have lt':a*6+b<c*6+d:=lt;unfold yn;dsimp only;by_cases z:a<c
 ·rw[HQ z];rfl
 ·have : a = c := by omega
  rw[Gm z,HQ this,HQ (show b<d by omega)];rfl
theorem yU{μ:aw}{m:Nat}{ks:List (List Int)}(h:GW m ks):fD [.int m,.tup (ks.map aA)] μ=.ok (.bl true) μ:=by
 have hl:=bQ h
 have hr:dR [.tup (ks.map aA)] (μ++[.lst (ks.map fun _=>D.bl true)])=.ok (.bl true) (μ++[.lst (ks.map fun _=>D.bl true)]):=by
  rw[uw (fun k hk=>by obtain⟨a,b,e,_⟩:=h.2.2.2.2 k hk;exact⟨a,b,e⟩) (by omega)];congr 2;exact Jd.mpr fun i hi=>B5 h.2.2.2.2 (by have:=h.m6;omega) h.2.2.2.1 i (by simpa using hi)
 have c:=cF (U:=List Int) (en:=aA) (src:=.fix (ks.map aA)) (g:=ak 0) (t:=bq) (e:=iC) (μ1:=μ) (q:=fun _=>true) (h:=fun _=>.bl true) (fun ρ=>∃o,ρ=[o,some (.int m)]) (fun _=>trivial) (us:=ks) (acc:=[]) (ρ:=[none,some (.int m)]) ⟨_,rfl⟩
  (by rw[ID];exact Gz (by omega) bg)
  (fun k hk a ρ hJJ => by
   obtain⟨o,e⟩:=hJJ;subst e;obtain⟨x,y,rfl,g1,g2,g3⟩:=h.2.2.2.2 k hk;refine⟨[some (aA [x,y]),some (.int m)],⟨_,rfl⟩,rfl,rfl,fun _=>?_⟩;unfold iC;simp only[az,aq,av,ag,ao,aa,ab]
   exact BK g1 g2 g3)
 rw[iu,HP]at c;unfold fD;rw[dH];simp only[nR,List.replicate,bb,fv,kF,az,aq,av,ag,ao,bh,aa,ab];rw[show ff "tuple" (.tup (ks.map aA)) μ=.ok (.bl true) μ from rfl];simp only[aa,ab,aW,Hv,bY,cv,ao,ag];rw[show oZ (.tup (ks.map aA)) μ=.ok (.fix (ks.map aA)) μ from rfl];simp only[aa,ab,bo];rw[show gL [none,some 0] (some (.int m)::some (.tup (ks.map aA))::List.replicate (2-2) none)=[none,some (.int m)] from rfl,c];simp only[aa,ab];rw[show ks.map (fun _=>D.bl true)=(ks.map fun _=>true).map D.bl from by rw[Iz];rfl];rw[gS aJ];rw[show (ks.map fun _=>true).all id=true from by simp];simp only[aa,ab,aW,Hv,az,aq,av,ao,ag];rw[show (ks.map fun _=>true).map D.bl=ks.map (fun _=>D.bl true) from by rw[Iz];rfl,hr];simp only[ae,ab,aO];exact d3 (by simp)
def mm(p:Int×Int):List Int:=[min p.1 p.2,max p.1 p.2]
def PP(m:Nat)(p:Int×Int):Prop:=(0<=p.1/\p.1<(m:Int))/\(0<=p.2/\p.2<(m:Int))/\p.1≠p.2
theorem PP.ok{m:Nat}{p:Int×Int}(h:PP m p):sx m (mm p):=⟨_,_,rfl,by have:=h.1;have:=h.2.1;omega,by have:=h.2.2;omega,by have:=h.1;have:=h.2.1;omega⟩
theorem jL{m:Nat}{ps:List (Int×Int)}(h0:1<=m)(hm:m<=6)(hps:∀p∈ps,PP m p):GW m (fm (ps.map mm)):=qv (by omega) (by omega) fun k hk=>by obtain⟨p,hp,rfl⟩:=IJ.mp hk;exact(hps p hp).ok
theorem iT{μ:aw}{m t:Nat}{ps:List (Int×Int)}(h0:1<=m)(hm:m<=6)(hl:ps.length<=100000)(ht:μ[t]?=some (.lst (ps.map eY)))(hps:∀p∈ps,PP m p):aT [.int m,.obj t] μ=.ok (ck m (fm (ps.map mm))) μ:=by
 have c:=cF (U:=Int×Int) (en:=eY) (src:=.own t (ps.map eY)) (g:=du 2 (aU (ak 0) (aU (ak 1) (dv)))) (t:=bq) (e:=fj) (μ1:=μ) (q:=fun _=>true) (h:=fun p=>aA (mm p)) (fun ρ=>∃o o',ρ=[o,o']) (fun _=>bN ht) (us:=ps) (acc:=[]) (ρ:=[none,none]) ⟨_,_,rfl⟩
  (by rw[ID];exact Gz (by omega) wm)
  (fun p hp a ρ hJJ => by
   obtain⟨o,o',e⟩:=hJJ;subst e;refine⟨[some (.int p.1),some (.int p.2)],⟨_,_,rfl⟩,rfl,rfl,fun _=>?_⟩;unfold fj;simp only[fI,az,aq,av,ag,ao,aa,ab,Ex,Ey,HV,ID,Gq l2]
   rfl)
 rw[iu,HP,show ps.map (fun p=>aA (mm p))=(ps.map mm).map aA from by rw[Iz];rfl]at c
 have hk:∀k∈ps.map mm,k∈prs:=fun k hk=>by
  obtain⟨p,hp,rfl⟩:=IJ.mp hk;exact(hps p hp).ok.prs (by omega)
 let M1:aw:=μ++[O.lst ((ps.map mm).map aA)]
 have s1:qV [.obj μ.length] M1=.ok (.obj M1.length) (M1++[.set (gq (ps.map mm))]):=by
  unfold qV;dsimp only;rw[show M1[μ.length]?=some (.lst ((ps.map mm).map aA)) from aJ];dsimp only;unfold pj;rw[qd hk]
 have s2:gA [.obj M1.length] (M1++[.set (gq (ps.map mm))])=.ok (.obj (M1++[O.set (gq (ps.map mm))]).length) ((M1++[.set (gq (ps.map mm))])++[.lst ((fm (ps.map mm)).map aA)]):=by
  unfold gA;dsimp only;rw[aJ];dsimp only;unfold iP;dsimp only;rw[aJ];dsimp only;rw[qw]
 unfold aT;rw[dH];simp only[jb,List.replicate,bb,fI,aq,av,az,ao,ag,aa,ab,bY,cv];rw[gO ht];simp only[aa,ab,eJ];rw[show gL [none,none] _=[none,none] from rfl,c];simp only[aa,ab];rw[show qV [.obj μ.length] (μ++[O.lst ((ps.map mm).map aA)])=_ from s1];simp only[aa,ab];rw[s2];simp only[aa,ab];rw[tL aJ];simp only[aa,ab,HV,ID,Gq l2,ae,aO,M1,HK];exact d3 (eV (jL h0 hm hps))
theorem Dj{μ0 μ1:aw}{i:Nat}{m q:Nat}{sh:Int}(hi:i<μ0.length)(h:Pn μ0 i μ1)(hq:q<m)(m6:m<=6)(s0:0<sh)(s1:sh<1000) :
  ∃(qs:List (Int×Int))(μ2:aw),(∀p∈qs,PP m p)/\qs.length<=q/\Pn μ0 i μ2/\μ2.length=μ1.length/\(∀j o,i≠j->μ1[j]?=some o->μ2[j]?=some o)/\compLoop (.fix (bV 0 q)) μ1.length (ak 0) cy cA (bV 0 q) [none,some (.int q),some (.obj i),some (.int sh)] (μ1++[.lst []])=.ok (.obj μ1.length) (μ2++[.lst (qs.map eY)]):=by
 have run:=jQ (src:=.fix (bV 0 q)) (g:=ak 0) (t:=cy) (e:=cA) (n:=μ1.length)
  (fun xs ys ρ μ2 s=>s=[]/\μ2.length=μ1.length/\Pn μ0 i μ2/\(∀j o,i≠j->μ1[j]?=some o->μ2[j]?=some o)/\(∃o,ρ=[o,some (.int q),some (.obj i),some (.int sh)])/\∃(lo n:Nat)(qs:List (Int×Int)),xs=bV lo n/\lo+n=q/\ys=qs.map eY/\qs.length<=lo/\(∀p∈qs,PP m p))
  (fun ys ρ μ2 s ⟨_,e1,_⟩=>⟨e1,trivial⟩)
  (fun x r ys ρ μ2 s hJJ => by
   obtain⟨es,e1,e2,ek,⟨o,e4⟩,lo,n,qs,e5,e7,e8,e9,e10⟩:=hJJ;subst es e4 e8;cases n with
   |zero=>rw[kh]at e5;cases e5
   |succ n=>
    rw[iU]at e5;injection e5 with ex er
    subst ex er;have i2:i<μ2.length:=Gu hi e2.len;obtain⟨v,a,b,c,v0,v1,ed,hp⟩:=(e2.app (g:=[.lst (qs.map eY)])).draw (m:=sh) hi s0 (by omega);rw[sX i2]at ed;refine⟨e1,trivial,[some (.int lo),some (.int q),some (.obj i),some (.int sh)],μ2,[],v == 0,μ2.set i (dj a b c),[],rfl,?_,fun hc=>?_,fun hc=>?_⟩
    ·unfold cy;simp only[cS,aL,az,aq,av,ao,ag,bh,aa,ab,ed,gn,HU,Hu,aW]
    ·refine ⟨eY ((lo : Int), (q : Int)), μ2.set i (dj a b c), [], ?_, ?_, by simpa using e1, rfl, by simpa using e1, e2.set hi, fun j o ne z => by rw [GL ne]; exact ek j o ne z, ⟨_, rfl⟩, lo + 1, n, qs ++ [((lo : Int), (q : Int))], by push_cast; rfl, by omega, by simp, by simp; omega, fun p hp => ?_⟩
     ·unfold cA;simp only[fI,aq,av,ao,ag,aa,ab,HV,ID,Gq l2];rfl
     ·rw[Hm];exact Gu (show qs.length<1000 by omega) bg
     ·rcases GG.mp hp with z | z
      ·exact e10 p z
      ·simp at z;subst z;exact⟨⟨by dsimp only;omega,by dsimp only;omega⟩,⟨by dsimp only;omega,by dsimp only;omega⟩,by dsimp only;omega⟩
    ·exact⟨rfl,by simpa using e1,e2.set hi,fun j o ne z=>by rw[GL ne];exact ek j o ne z,⟨_,rfl⟩,lo+1,n,qs,by push_cast;rfl,by omega,rfl,by omega,e10⟩)
  (xs:=bV 0 q) (ys:=[]) (ρ:=[none,some (.int q),some (.obj i),some (.int sh)]) (μ1:=μ1) (s:=[])
  ⟨rfl,rfl,h,fun _ _ _ z=>z,⟨_,rfl⟩,0,q,[],rfl,by omega,rfl,by simp,fun p hp=>by cases hp⟩
 obtain⟨ys',ρ',μ2,s',⟨es,e1,e2,ek,⟨o,e4⟩,lo,n,qs,e5,e7,e8,e9,e10⟩,run⟩:=run;subst es e8;exact⟨qs,μ2,e10,by omega,e2,e1,ek,run⟩
theorem Pn.put{μ0 M:aw}{i t:Nat}{o:O}(h:Pn μ0 i M)(ht:μ0.length<=t):Pn μ0 i (M.set t o):=by
 obtain⟨a,b,c,g,rfl⟩:=h;refine⟨a,b,c,g.set (t-μ0.length) o,?_⟩;rw[J9 _ _ (by simpa using ht)];simp
theorem Ae{M:aw}{t u:Nat}{xs ys:List D}(ht:M[t]?=some (.lst xs))(hu:M[u]?=some (.lst ys))(hl:xs.length+ys.length<=1000):eQ (.obj t) [.obj u] M=.ok .non (M.set t (.lst (xs++ys))):=by
 unfold eQ;dsimp only;rw[ht,hu];dsimp only;rw[Gq (Gz hl bg)]
theorem rn{M:aw}{t:Nat}{xs:List D}(h:M[t]?=some (.lst xs)):vD (.obj t) M=true:=by
 unfold vD;dsimp only;rw[h]
theorem xf{μ:aw}{i:Nat}{a b c:Int}(hp:μ[i]?=some (dj a b c)):∃m ks a' b' c',GW m ks/\bC [.obj i,.int 6] μ=.ok (ck m ks) (μ.set i (dj a' b' c')):=by
 have hi:i<μ.length:=(GI.mp hp).1;obtain⟨v,a1,b1,c1,v0,v1,ed,P1⟩:=(Pn.self hp).draw (m:=6) hi (by decide) (by decide);obtain⟨m,em⟩:∃m:Nat,(1:Int)+v=(m:Int):=⟨(1+v).toNat,by omega⟩;obtain⟨s,a2,b2,c2,s0,s1,ed2,P2⟩:=P1.draw (m:=3) hi (by decide) (by decide);let M2:aw:=(μ.set i (dj a1 b1 c1)).set i (dj a2 b2 c2)
 have lM2:M2.length=μ.length:=by simp[M2]
 obtain⟨ρ',M',⟨n,cc,ps,o5,e1,e2,e3,e4,e5,e6,e7⟩,run⟩:=iM (src:=.fix (bV 0 m)) (g:=ak 5) (fb:=bH)
  (fun xs ρ M=>∃(n cc:Nat)(ps:List (Int×Int))(o5:Option D),xs=bV n cc/\n+cc=m/\ρ=[some (.obj i),some (.int 6),some (.int m),some (.int (2+s)),some (.obj M2.length),o5]/\Pn μ i M/\M[M2.length]?=some (.lst (ps.map eY))/\ps.length<=6*n/\∀p∈ps,PP m p)
  (fun _ _ _=>trivial)
  (fun x xs ρ M hJJ => by
   obtain⟨n,cc,ps,o5,e1,e2,e3,e4,e5,e6,e7⟩:=hJJ;subst e3;cases cc with
   |zero=>rw[kh]at e1;cases e1
   |succ cc=>
    rw[iU]at e1;injection e1 with ex er
    subst ex er;obtain⟨qs,M3,q1,q2,q3,q4,q5,q6⟩:=Dj (m:=m) (q:=n) (sh:=2+s) hi e4 (by omega) (by omega) (by omega) (by omega);have t3:(M3++[O.lst (qs.map eY)])[M2.length]?=some (.lst (ps.map eY)):=bN (q5 _ _ (by omega) e5);have u3:(M3++[O.lst (qs.map eY)])[M.length]?=some (.lst (qs.map eY)):=by rw[<- q4];exact aJ
    have ex:=Ae t3 u3 (by rw[Hm,Hm];omega);refine⟨trivial,_,_,[some (.obj i),some (.int 6),some (.int m),some (.int (2+s)),some (.obj M2.length),some (.int n)],(M3++[O.lst (qs.map eY)]).set M2.length (.lst (ps.map eY++qs.map eY)),rfl,?_,n+1,cc,ps++qs,some (.int n),by push_cast;rfl,by omega,rfl,(q3.app).put (by omega),?_,by rw[Hl];omega,fun p hp=>?_⟩
    ·show bH [some (.obj i),some (.int 6),some (.int m),some (.int (2+s)),some (.obj M2.length),some (.int n)] M=_;unfold bH;simp only[jM,pC,ao,ag,aa,ab,rn e5,Hv,aq,av,bY,gR];rw[ou (by omega) (by omega)];simp only[aa,ab,bo,Hs];rw[show gL [none,some 5,some 0,some 3] [some (D.obj i),some (D.int 6),some (D.int m),some (D.int (2+s)),some (D.obj M2.length),some (D.int n)]=[none,some (.int n),some (.obj i),some (.int (2+s))] from rfl,q6];simp only[aa,ab,ex,ae]
    ·rw[lr (by have:=(GI.mp t3).1;exact this),IT]
    ·rcases GG.mp hp with z | z
     ·exact e7 p z
     ·exact q1 p z)
  (xs:=bV 0 m) (ρ:=[some (.obj i),some (.int 6),some (.int m),some (.int (2+s)),some (.obj M2.length),none]) (μ:=M2++[.lst []])
  ⟨0,m,[],none,rfl,by omega,rfl,P2.app,aJ,by simp,fun p hp=>by cases hp⟩
 have hz:=xt e1.symm;subst hz e3;have hg:GW m (fm (ps.map mm)):=jL (by omega) (by omega) e7;obtain⟨a7,b7,c7,hgc⟩:=e4.gc (eV hg);refine⟨m,_,a7,b7,c7,hg,?_⟩;unfold bC;rw[dH];simp only[gI,List.replicate];rw[aK,a8];simp only[aL,bh,az,aq,av,ag,ao,aa,ab,ed,gT,em,ae,bD,aC,Kk,Kl];rw[aK,a8];simp only[aL,bh,az,aq,av,ag,ao,aa,ab,ed2,gT,ae,bD,aC,Kk,Kl];rw[aK,a8];simp only[ji,av,aa,ab,ID,Gq (Ig sizeLine),ae,bD,aC,Kk,Kl];rw[aK,jj];simp only[gR,aq,av,ao,ag,aa,ab];rw[ou (by omega) (by omega)];simp only[ae,ab,bo,Hs];rw[show hX (.fix (bV 0 m)) (ak 5) bH (bV 0 m) [some (.obj i),some (.int 6),some (.int m),some (.int (2+s)),some (.obj M2.length),none] (M2++[O.lst []])=_ from run];simp only[aC,bb,az,aq,av,ao,ag,aa,ab,iT (show 1<=m by omega) (by omega) (by omega) e5 e7,ae,aO];exact hgc
def kS(k:List Int):Int×Int:=(k.getD 0 0,k.getD 1 0)
def ue(p:Int)(k:List Int):Bool:=decide (p=(kS k).1) || decide (p=(kS k).2)
def dr(ks:List (List Int))(p:Int):List Int:=(ks.filter (ue p)).map fun k=>(kS k).1+(kS k).2-p
def fQ(l:List Int)(x:Int):List (Int×Int):=(l.filter fun y=>decide (x<y)).map fun y=>(x,y)
def yv(m:Nat)(ks:List (List Int)):List (Int×Int):=ks.map kS++(rg m).flatMap fun p=>(dr ks p).flatMap (fQ (dr ks p))
theorem qk{M:aw}{t u:Nat}{xs ys:List D}(ht:M[t]?=some (.lst xs))(hu:M[u]?=some (.lst ys))(hl:xs.length+ys.length<=100000):eQ (.obj t) [.obj u] M=.ok .non (M.set t (.lst (xs++ys))):=by
 unfold eQ;dsimp only;rw[ht,hu];dsimp only;rw[Gq (Gz hl wm)]
theorem C7{μ:aw}{p a b:Int}:vy false (.int p) (.tup [.int a,.int b]) μ=.ok (.bl (decide (p=a) || decide (p=b))) μ:=by
 show af.ok (D.bl ((a == p) || ((b == p) || false))) μ=_;congr 2;rw[Bool.or_false];congr 1
 ·apply G5.mpr;rw[Ko,J3];exact eq_comm
 ·apply G5.mpr;rw[Ko,J3];exact eq_comm
section
variable{m:Nat}{ks:List (List Int)}
theorem p5(h:GW m ks){p:Int}:(dr ks p).length<=15:=by
 have:=bQ h;unfold dr;rw[Hm];exact Gz (Kq _ _) this
theorem p6(h:GW m ks){p x:Int}:x∈dr ks p↔Dt ks p x:=by
 rw[Ak h.2.2.2.2];unfold dr;rw[IJ];constructor
 ·rintro ⟨k, hk, rfl⟩
  obtain⟨h1,h2⟩:=Gx.mp hk;obtain⟨a,b,rfl,_⟩:=h.2.2.2.2 k h1;have h3:p=a\/p=b:=by simpa[ue,kS] using h2
  rcases h3 with rfl|rfl
  ·left;rw[show (kS [p,b]).1+(kS [p,b]).2-p=b from by show p+b-p=b;omega];exact h1
  ·right;rw[show (kS [a,p]).1+(kS [a,p]).2-p=a from by show a+p-p=a;omega];exact h1
 ·rintro (h1 | h1)
  ·exact⟨[p,x],Gx.mpr ⟨h1,by simp[ue,kS]⟩,by show p+x-p=x;omega⟩
  ·exact⟨[x,p],Gx.mpr ⟨h1,by simp[ue,kS]⟩,by show x+p-p=x;omega⟩
theorem yZ{μ:aw}{p:Int}(h:GW m ks):cY [ck m ks,.int p] μ=.ok (.obj μ.length) (μ++[.lst ((dr ks p).map D.int)]):=by
 have n2:0+1+1<=sizeLine:=l2
 have c:=cF (U:=List Int) (en:=aA) (src:=.fix (ks.map aA)) (g:=du 2 (aU (ak 0) (aU (ak 1) (dv)))) (t:=eN) (e:=eO) (μ1:=μ) (q:=ue p) (h:=fun k=>.int ((kS k).1+(kS k).2-p)) (fun ρ=>∃o o',ρ=[o,o',some (.int p)]) (fun _=>trivial) (us:=ks) (acc:=[]) (ρ:=[none,none,some (.int p)]) ⟨_,_,rfl⟩
  (by rw[ID];have:=bQ h;exact Gz (by omega) bg)
  (fun k hk a ρ hJJ => by
   obtain⟨o,o',e⟩:=hJJ;subst e;obtain⟨x,y,rfl,_⟩:=h.2.2.2.2 k hk;refine⟨[some (.int x),some (.int y),some (.int p)],⟨_,_,rfl⟩,rfl,?_,fun _=>?_⟩
   ·unfold eN;simp only[cS,aL,fI,aq,av,ao,ag,aa,ab,HV,ID,Gq n2,C7,aW];rfl
   ·unfold eO;simp only[aL,ao,ag,aa,ab,gT]
    rfl)
 rw[HP,show (ks.filter (ue p)).map (fun k=>D.int ((kS k).1+(kS k).2-p))=(dr ks p).map D.int from by unfold dr;rw[Iz];rfl]at c;unfold cY;rw[dH];simp only[iH,List.replicate,bb,bY,cv,aL,ag,bh,aa,ab,gQ,iN,bo];rw[show gL [none,none,some 1] _=[none,none,some (.int p)] from rfl,c];simp only[ae,ab,aO];exact AQ (by simp)
theorem yL{M:aw}{N:Nat}{l:List Int}{x:Int}(hN:M[N]?=some (.lst (l.map D.int)))(hl:l.length<=15):compLoop (.own N (l.map D.int)) M.length (ak 0) cN cR (l.map D.int) [none,some (.int x)] (M++[.lst []])=.ok (.obj M.length) (M++[.lst ((fQ l x).map eY)]):=by
 have c:=cF (U:=Int) (en:=D.int) (src:=.own N (l.map D.int)) (g:=ak 0) (t:=cN) (e:=cR) (μ1:=M) (q:=fun y=>decide (x<y)) (h:=fun y=>eY (x,y)) (fun ρ=>∃o,ρ=[o,some (.int x)]) (fun _=>bN hN) (us:=l) (acc:=[]) (ρ:=[none,some (.int x)]) ⟨_,rfl⟩
  (by rw[ID];exact Gz (by omega) bg)
  (fun y hy a ρ hJJ => by
   obtain⟨o,e⟩:=hJJ;subst e;refine⟨[some (.int y),some (.int x)],⟨_,rfl⟩,rfl,?_,fun _=>?_⟩
   ·unfold cN;simp only[cS,aL,ao,ag,aa,ab,dC,aW];rfl
   ·unfold cR;simp only[fI,aq,av,ao,ag,aa,ab,HV,ID,Gq l2]
    rfl)
 rw[HP,show (l.filter fun y=>decide (x<y)).map (fun y=>eY (x,y))=(fQ l x).map eY from by unfold fQ;rw[Iz];rfl]at c;exact c
theorem l4{l:List Int}{x:Int}:(fQ l x).length<=l.length:=by
 unfold fQ;rw[Hm];exact Kq _ _
theorem lu{α β:Type}{f:α->List β}{k:Nat}(h:∀x,(f x).length<=k):∀l:List α,(l.flatMap f).length<=l.length*k
 |[]=>by simp
 |w::l=>by
  rw[Kr,Hl,HV,Nat.succ_mul];have:=h w;have:=lu h l;omega
theorem wg{M:aw}{T N:Nat}{ps:List (Int×Int)}{l:List Int}{o0 o2:Option D}(hT:M[T]?=some (.lst (ps.map eY)))(hN:M[N]?=some (.lst (l.map D.int)))(ne:T≠N)(hl:l.length<=15)(hp:ps.length<=10000):∀(xs:List Int)(dn:List Int)(M1:aw)(o4:Option D),l=dn++xs->M1[T]?=some (.lst ((ps++dn.flatMap (fQ l)).map eY))->(∀j o,T≠j->M[j]?=some o->M1[j]?=some o) ->
  ∃(M2:aw)(o4':Option D),hX (.own N (l.map D.int)) (ak 4) cP (xs.map D.int) [o0,some (.obj T),o2,some (.obj N),o4] M1=.next [o0,some (.obj T),o2,some (.obj N),o4'] M2/\M2[T]?=some (.lst ((ps++l.flatMap (fQ l)).map eY))/\(∀j o,T≠j->M[j]?=some o->M2[j]?=some o)
 |[],dn,M1,o4,e,h1,h2=>by
  rw[G8]at e;subst e;refine⟨M1,o4,?_,h1,h2⟩;rw[HE];unfold hX;rw[Gq (show dq (.own N _) M1 from h2 N _ ne hN)]
 |x::xs,dn,M1,o4,e,h1,h2=>by
  have hN1:=h2 N _ ne hN;have c:=yL (M:=M1) (x:=x) hN1 hl
  have fl:(dn.flatMap (fQ l)).length<=15*15:=by
   have h3:=lu (f:=fQ l) (k:=15) (fun y=>Gz l4 hl) dn;have h4:dn.length<=15:=by have:=GP List.length e;simp at this;omega
   exact Gz h3 (Ks 15 h4)
  have rl:(fQ l x).length<=15:=Gz l4 hl;have ex:=qk (M:=M1++[.lst ((fQ l x).map eY)]) (bN h1) aJ (by rw[Hm,Hm,Hl];omega);have tl:T<M1.length:=(GI.mp h1).1
  obtain⟨M2,o4',r1,r2,r3⟩:=wg (o0:=o0) (o2:=o2) hT hN ne hl hp xs (dn++[x]) ((M1++[O.lst ((fQ l x).map eY)]).set T (.lst ((ps++dn.flatMap (fQ l)).map eY++(fQ l x).map eY))) (some (.int x)) (by rw[e];simp)
   (by rw[lr (by rw[Hl];omega),List.flatMap_append,Kr,Kt,G8,<- HK,IT (l₂:=fQ l x)])
   (fun j o nj z=>by rw[GL nj];exact bN (h2 j o nj z))
  refine⟨M2,o4',?_,r2,r3⟩;rw[HF];unfold hX;rw[Gq (show dq (.own N _) M1 from hN1)];simp only[bD,ae,ab,Kk,Kl]
  rw[show cP [o0,some (.obj T),o2,some (.obj N),some (.int x)] M1=.next [o0,some (.obj T),o2,some (.obj N),some (.int x)] ((M1++[O.lst ((fQ l x).map eY)]).set T (.lst ((ps++dn.flatMap (fQ l)).map eY++(fQ l x).map eY))) from by
   unfold cP;simp only[jM,pC,ao,ag,aa,ab,rn h1,Hv,aq,av,bY,cv];rw[gO hN1];simp only[aa,ab,eJ];rw[show gL [none,some 4] [o0,some (D.obj T),o2,some (D.obj N),some (D.int x)]=[none,some (.int x)] from rfl,c]
   simp only[aa,ab,ex,ae]]
  exact r1
end
end Lw
namespace Lw
open PySem L2 RS Lv
section
variable{m:Nat}{ks:List (List Int)}
def m4(ks:List (List Int))(l:List Int):List (Int×Int):=l.flatMap fun p=>(dr ks p).flatMap (fQ (dr ks p))
theorem uO(h:GW m ks){p:Int}:((dr ks p).flatMap (fQ (dr ks p))).length<=225:=by
 have hl:=p5 h (p:=p);have h3:=lu (f:=fQ (dr ks p)) (k:=15) (fun y=>Gz l4 hl) (dr ks p);exact Gz h3 (Ks 15 hl)
theorem pX(h:GW m ks)(l:List Int):(m4 ks l).length<=l.length*225:=lu (fun p=>uO h) l
theorem sN{T:Nat}{μ:aw}(h:GW m ks):∀(xs dn:List Int)(M:aw)(o2 o3 o4:Option D),dn.length+xs.length<=6->M[T]?=some (.lst ((ks.map kS++m4 ks dn).map eY))->μ.length<=T->(∀j,j<μ.length->M[j]?=μ[j]?) ->
  ∃(M':aw)(o2' o3' o4':Option D),hX (.fix ((rg m).map D.int)) (ak 2) cO (xs.map D.int) [some (ck m ks),some (.obj T),o2,o3,o4] M=.next [some (ck m ks),some (.obj T),o2',o3',o4'] M'/\M'[T]?=some (.lst ((ks.map kS++m4 ks (dn++xs)).map eY))/\(∀j,j<μ.length->M'[j]?=μ[j]?)
 |[],dn,M,o2,o3,o4,hl,hT,hμ,hk=>by
  refine⟨M,o2,o3,o4,?_,by rw[G8];exact hT,hk⟩;rw[HE];unfold hX;rw[Gq (show dq (.fix _) M from trivial)]
 |p::xs,dn,M,o2,o3,o4,hl,hT,hμ,hk=>by
  have nl:=p5 h (p:=p);have pl:=pX h dn;have kl:=bQ h;simp only[HV]at hl;have tl:T<M.length:=(GI.mp hT).1
  obtain⟨M2,o4',r1,r2,r3⟩:=wg (M:=M++[.lst ((dr ks p).map D.int)]) (T:=T) (N:=M.length) (ps:=ks.map kS++m4 ks dn) (l:=dr ks p) (o0:=some (ck m ks)) (o2:=some (.int p)) (bN hT) aJ (by omega) nl
   (by
    rw[Hl,Hm];have:dn.length*225<=6*225:=Ks 225 (by omega)
    omega) (dr ks p) [] (M++[.lst ((dr ks p).map D.int)]) o4 rfl (by rw[Kt,G8];exact bN hT) (fun _ _ _ z=>z)
  obtain⟨M',o2',o3',o4'',q1,q2,q3⟩:=sN h xs (dn++[p]) M2 (some (.int p)) (some (.obj M.length)) o4' (by rw[Hl];simp only[HV,ID];omega)
   (by rw [r2]; unfold m4; rw [List.flatMap_append, Kr, Kt, G8, HK]) hμ (fun j hj => by
    have hj':j<M.length:=by
     have:j<T:=by omega
     omega
    rw[r3 j M[j] (by omega) (by rw[Hi hj',JQ hj']),<- hk j hj,JQ hj'])
  refine⟨M',o2',o3',o4'',?_,by rw[q2,HK];rfl,q3⟩;rw[HF];unfold hX;rw[Gq (show dq (.fix _) M from trivial)];simp only[bD,ae,ab,Kk,Kl]
  rw[show cO [some (ck m ks),some (.obj T),some (.int p),o3,o4] M=.next [some (ck m ks),some (.obj T),some (.int p),some (.obj M.length),o4'] M2 from by
   unfold cO;rw[aK,a8];simp only[az,aq,av,ao,ag,aa,ab,yZ h,ae,bD,aC,Kk,Kl];rw[jj];simp only[cv,ao,ag,aa,ab];rw[gO (show (M++[O.lst ((dr ks p).map D.int)])[M.length]?=some (.lst ((dr ks p).map D.int)) from aJ)];simp only[ae,ab,eJ]
   exact r1]
  exact q1
theorem we(h:GW m ks):∀p∈yv m ks,PP m p:=fun p hp=>by
 rcases GG.mp hp with z|z
 ·obtain⟨k,hk,rfl⟩:=IJ.mp z;obtain⟨a,b,rfl,h1,h2,h3⟩:=h.2.2.2.2 k hk;exact⟨⟨h1,by show a<(m:Int);omega⟩,⟨by show 0<=b;omega,h3⟩,by show a≠b;omega⟩
 ·obtain⟨q,hq,z⟩:=Km.mp z;obtain⟨x,hx,z⟩:=Km.mp z;obtain⟨y,hy,rfl⟩:=IJ.mp z;obtain⟨hy,hxy⟩:=Gx.mp hy;have ax:=DW h ((p6 h).mp hx);have ay:=DW h ((p6 h).mp hy);have:=of_decide_eq_true hxy;exact⟨ax.2,ay.2,by dsimp only;omega⟩
def tw(m:Nat)(ks:List (List Int)):List (List Int):=fm ((yv m ks).map mm)
theorem sO(h:GW m ks):GW m (tw m ks):=jL h.m0 h.m6 (we h)
theorem sV{μ:aw}(h:GW m ks):cJ [ck m ks] μ=.ok (ck m (tw m ks)) μ:=by
 have m0:=h.m0;have m6:=h.m6;have kl:=bQ h
 have e0:ks.map aA=(ks.map kS).map eY:=by
  rw[Iz];apply IA;intro k hk;obtain⟨a,b,rfl,_⟩:=h.2.2.2.2 k hk;rfl
 obtain⟨M',o2,o3,o4,run,hT,hk⟩:=sN (T:=μ.length) (μ:=μ) h (rg m) [] (μ++[.lst (ks.map aA)]) none none none (by rw[wy];simpa using m6) (by rw[e0];show _=some (O.lst ((ks.map kS++[]).map eY));rw[G8];exact aJ) (G0 _) (fun j hj=>Hi hj);rw[HP]at hT
 obtain⟨g,hpre⟩:∃g,M'=μ++g:=by
  refine⟨M'.drop μ.length,?_⟩;apply JB;intro i;by_cases hi:i<μ.length
  ·rw[Hi hi,hk i hi]
  ·rw[Hh (by omega),List.getElem?_drop];congr 1;omega
 have hr:∀μ,jy [.int (m:Int)] μ=.ok (.fix ((rg m).map D.int)) μ:=fun μ=>by rw[ou (by omega) (by omega),B4]
 have wo:=iT (μ:=M') m0 m6 (ps:=yv m ks) (by
  unfold yv;rw[Hl,Hm];have:=pX h (rg m);unfold m4 at this;rw[wy]at this;have h2:m*225<=6*225:=Ks 225 m6
  omega) hT (we h)
 unfold cJ;rw[d5];simp only[hG,List.replicate];rw[aK,a8];simp only[az,aq,av,aL,ag,bh,aa,ab,gQ];rw[show pD [.tup (ks.map aA)] μ=.ok (.obj μ.length) (μ++[.lst (ks.map aA)]) from rfl];simp only[ae,ab,bD,aC,Kk,Kl];rw[aK,jj];simp only[gR,aq,av,aL,ag,bh,aa,ab,eP,hr,ae,bo];rw[run];simp only[aC,bb,az,aq,av,aL,ao,ag,bh,aa,ab,eP,wo,ae,aO];rw[hpre];exact d3 (eV (sO h))
end
end Lw
namespace Lw
open PySem L2 RS Lv
theorem uX{μ:aw}{m:Int}{ks:List (List Int)}{a b:Int}(hk:∀k∈ks,sx m k):vy true (.tup [.int a,.int b]) (.tup (ks.map aA)) μ=.ok (.bl (!decide ([a,b]∈ks))) μ:=by
 have e:=x5 (μ:=μ) (a:=a) (b:=b) hk;unfold vy at e⊢;split at e
 ·split at e
  ·split at e
   ·rename_i hf;rw[Gq hf,Gq rfl];rw[Gr G6]at e;injection e with e1
    injection e1 with e2
    rw[e2]
   ·cases e
  ·cases e
 ·cases e
theorem zT{μ:aw}{a b c d:Int}:lh true (.tup [.int a,.int b]) (.tup [.int c,.int d]) μ=.ok (.bl (!(decide (a=c)&&decide (b=d)))) μ:=by
 show af.ok (D.bl (!((a == c)&&((b == d)&&true)))) μ=_;congr 3;rw[Bool.and_true];rfl
section
variable{m:Nat}{ks:List (List Int)}
theorem BN{μ:aw}{i:Nat}{a b c:Int}(hp:μ[i]?=some (dj a b c)):∃m ks a' b' c',GW m ks/\bF [.obj i,.int 6] μ=.ok (ck m ks) (μ.set i (dj a' b' c')):=by
 have hi:i<μ.length:=(GI.mp hp).1;obtain⟨m,ks,a1,b1,c1,h,ed⟩:=xf hp;have m0:=h.m0;have m6:=h.m6;let M1:aw:=μ.set i (dj a1 b1 c1)
 have P1:Pn μ i M1:=(Pn.self hp).set hi;obtain⟨w,a2,b2,c2,w0,w1,ew,P2⟩:=P1.draw (m:=4) hi (by decide) (by decide);let M2:aw:=M1.set i (dj a2 b2 c2)
 have ed':bC [.obj i,.int 6] μ=.ok (ck m ks) M1:=ed;have ew':ba [.obj i,.int 4] M1=.ok (.int w) M2:=ew;have hg:=sO h;by_cases z0:w=0
 ·obtain⟨a7,b7,c7,hgc⟩:=P2.gc (eV h);refine⟨m,ks,a7,b7,c7,h,?_⟩;unfold bF;rw[dH];simp only[eB,List.replicate];rw[aK,a8];simp only[az,aq,av,ao,ag,aa,ab,ed',ae,bD,aC,Kk,Kl];rw[aK,a8];simp only[az,aq,av,ao,ag,bh,aa,ab,ew',ae,bD,aC,Kk,Kl];rw[aK,cu];simp only[cS,aL,ao,ag,bh,aa,ab,gn,HU,Hu,aW,ae];rw[show (w == 0)=true from by rw[Ko];exact z0];simp only[Hv,bb,ao,ag,ae,ab,rh,aO];exact hgc
 ·by_cases z3 : w = 3 /\ 1 < m
  ·
   obtain⟨u,a3,b3,c3,u0,u1,eu,P3⟩:=P2.draw (m:=(m:Int)-1) hi (by omega) (by omega);obtain⟨v,a4,b4,c4,v0,v1,ev',P4⟩:=P3.draw (m:=(m:Int)-1-u) hi (by omega) (by omega);let M4:aw:=(M2.set i (dj a3 b3 c3)).set i (dj a4 b4 c4)
   let y:Int:=u+1+v
   let ls:List (List Int):=(tw m ks).filter fun k=>!(decide (k.getD 0 0=u)&&decide (k.getD 1 0=y))
   have cc:=cF (U:=List Int) (en:=aA) (src:=.fix ((tw m ks).map aA)) (g:=ak 0) (t:=c8) (e:=dc) (μ1:=M4) (q:=fun k=>!(decide (k.getD 0 0=u)&&decide (k.getD 1 0=y))) (h:=aA) (fun ρ=>∃o,ρ=[o,some (.tup [.int u,.int y])]) (fun _=>trivial) (us:=tw m ks) (acc:=[]) (ρ:=[none,some (.tup [.int u,.int y])]) ⟨_,rfl⟩
    (by rw[ID];have:=bQ hg;exact Gz (by omega) bg)
    (fun k hk a ρ hJJ => by
     obtain⟨o,e⟩:=hJJ;subst e;obtain⟨x,z,rfl,_⟩:=hg.2.2.2.2 k hk;refine⟨[some (aA [x,z]),some (.tup [.int u,.int y])],⟨_,rfl⟩,rfl,?_,fun _=>by unfold dc;rw[ag]⟩;unfold c8;simp only[cS,aL,ao,ag,aa,ab];rw[show lh true (aA [x,z]) (.tup [.int u,.int y]) (M4++[O.lst a])=_ from zT];simp only[aa,ab,aW]
     rfl)
   rw[HP]at cc;let ps:List (Int×Int):=ls.map kS++(if ([u,y]∈tw m ks) then [] else [(u,y)])
   have pp:∀p∈ps,PP m p:=by
    intro p hp;rcases GG.mp hp with z|z
    ·obtain⟨k,hk,rfl⟩:=IJ.mp z;obtain⟨x,y',rfl,h1,h2,h3⟩:=hg.2.2.2.2 k (Gx.mp hk).1;exact⟨⟨h1,by show x<(m:Int);omega⟩,⟨by show 0<=y';omega,h3⟩,by show x≠y';omega⟩
    ·split at z
     ·cases z
     ·rw[Ih.mp z];exact⟨⟨u0,by show u<(m:Int);omega⟩,⟨by show 0<=u+1+v;omega,by show u+1+v<(m:Int);omega⟩,by show u≠u+1+v;omega⟩
   have e0:ls.map aA=(ls.map kS).map eY:=by
    rw[Iz];apply IA;intro k hk;obtain⟨x,z,rfl,_⟩:=hg.2.2.2.2 k (Gx.mp hk).1;rfl
   have lsl:ls.length<=15:=Gz (Kq _ _) (bQ hg);let M6:aw:=M4++[O.lst (ps.map eY)]
   have psl:ps.length<=100000:=by
    simp only[ps,Hl,Hm];split <;> simp only[HV,ID] <;> omega
   have wo:=iT (μ:=M6) (t:=M4.length) m0 m6 psl aJ pp;have gw:=jL m0 m6 pp;obtain⟨a7,b7,c7,hgc⟩:=(P4.app (g:=[O.lst (ps.map eY)])).gc (eV gw);refine⟨m,_,a7,b7,c7,gw,?_⟩;have n2:0+1+1<=sizeLine:=l2;unfold bF;rw[dH];simp only[eB,List.replicate];rw[aK,a8];simp only[az,aq,av,ao,ag,aa,ab,ed',ae,bD,aC,Kk,Kl];rw[aK,a8];simp only[az,aq,av,ao,ag,bh,aa,ab,ew',ae,bD,aC,Kk,Kl];rw[aK,cu];simp only[cS,aL,ao,ag,bh,aa,ab,gn,HU,Hu,aW,ae];rw[show (w == 0)=false from by rw[Gn];exact z0];simp only[HU,Hu,bX,aC];rw[aK,a8];simp only[az,aq,av,ao,ag,aa,ab,sV h,ae,bD,aC,Kk,Kl];rw[aK,cu];simp only[tQ,cS,aL,ao,ag,bh,aa,ab,gn,HU,Hu,aW,eP,dC];rw[show (w == 3)=true from by rw[Ko];exact z3.1,Gq rfl,show dY .Gt (m:Int) 1=true from HQ (by have:=z3.2;show (1:Int)<m;omega)];simp only[ae,ab,Hv];rw[aK,a8];simp only[az,aq,av,aL,ao,ag,bh,aa,ab,eP];rw[show iX (.int m) (.int 1) M2=.ok (.int ((m:Int)-1)) M2 from rfl];simp only[aa,ab];rw[show ba [.obj i,.int ((m:Int)-1)] M2=.ok (.int u) (M2.set i (dj a3 b3 c3)) from eu];simp only[ae,ab,bD,aC,Kk,Kl];rw[aK,a8];simp only[fI,az,aq,av,aL,ao,ag,bh,aa,ab,eP,gT];rw[show iX (.int m) (.int 1) (M2.set i (dj a3 b3 c3))=.ok (.int ((m:Int)-1)) (M2.set i (dj a3 b3 c3)) from rfl];simp only[aa,ab];rw[show iX (.int ((m:Int)-1)) (.int u) (M2.set i (dj a3 b3 c3))=.ok (.int ((m:Int)-1-u)) (M2.set i (dj a3 b3 c3)) from rfl];simp only[aa,ab];rw[show ba [.obj i,.int ((m:Int)-1-u)] (M2.set i (dj a3 b3 c3))=.ok (.int v) M4 from ev'];simp only[aa,ab,gT,HV,ID,Gq n2,ae,bD,aC,Kk,Kl];rw[aK,a8];simp only[bY,cv,aL,ao,ag,bh,aa,ab,gQ,iN,bo];rw[show gL [none,some 5] [some (D.obj i),some (D.int 6),some (ck m (tw m ks)),some (D.int w),some (D.int u),some (D.tup [D.int u,D.int (u+1+v)]),none]=[none,some (.tup [.int u,.int y])] from rfl];rw[show compLoop (.fix ((tw m ks).map aA)) M4.length (ak 0) c8 dc ((tw m ks).map aA) [none,some (.tup [.int u,.int y])] (M4++[O.lst []])=.ok (.obj M4.length) (M4++[O.lst (ls.map aA)]) from cc];simp only[ae,ab,bD,aC,Kk,Kl];rw[aK,cu];simp only[cS,aL,ao,ag,bh,aa,ab,gQ];rw[show vy true (.tup [.int u,.int (u+1+v)]) (.tup ((tw m ks).map aA)) (M4++[O.lst (ls.map aA)])=_ from uX hg.2.2.2.2];simp only[aa,ab,aW,ae];by_cases hc:[u,u+1+v]∈tw m ks
   ·rw [HQ hc];simp only[Je,HU,Hu,bX,aC];have ep:ps=ls.map kS:=by simp only[ps,y];rw[Gq hc,G8]
    rw[a8];simp only[az,aq,av,aL,ao,ag,bh,aa,ab,eP];rw[show aT [.int m,.obj M4.length] (M4++[O.lst (ls.map aA)])=.ok (ck m (fm (ps.map mm))) (M4++[O.lst (ps.map eY)]) from by rw[e0,<- ep];exact wo];simp only[ae,ab,bD,aC,Kk,Kl,bb,ao,ag,aO];exact hgc
   ·rw [Gm hc];simp only[Jm,Hv];have ep:ps=ls.map kS++[(u,u+1+v)]:=by simp only[ps,y];rw[Gr hc]
    rw[jM,pC];simp only[ao,ag,aa,ab];rw[rn (show (M4++[O.lst (ls.map aA)])[M4.length]?=some (.lst (ls.map aA)) from aJ),Gq rfl];simp only[aq,av,ao,ag,aa,ab]
    rw[show fw (.obj M4.length) [.tup [.int u,.int (u+1+v)]] (M4++[O.lst (ls.map aA)])=.ok .non (M4++[O.lst (ps.map eY)]) from by
     unfold fw;dsimp only;rw[aJ];dsimp only;rw[Gq (by rw[Hm];exact Gu (show ls.length<1000 by omega) bg),pP,e0,ep,IT]
     rfl]
    simp only[ae,ab,aC];rw[a8];simp only[az,aq,av,aL,ao,ag,bh,aa,ab,eP];rw[show aT [.int m,.obj M4.length] (M4++[O.lst (ps.map eY)])=.ok (ck m (fm (ps.map mm))) (M4++[O.lst (ps.map eY)]) from wo];simp only[ae,ab,bD,aC,Kk,Kl,bb,ao,ag,aO];exact hgc
  ·obtain ⟨a7, b7, c7, hgc⟩ := P2.gc (eV hg);refine⟨m,_,a7,b7,c7,hg,?_⟩;unfold bF;rw[dH];simp only[eB,List.replicate];rw[aK,a8];simp only[az,aq,av,ao,ag,aa,ab,ed',ae,bD,aC,Kk,Kl];rw[aK,a8];simp only[az,aq,av,ao,ag,bh,aa,ab,ew',ae,bD,aC,Kk,Kl];rw[aK,cu];simp only[cS,aL,ao,ag,bh,aa,ab,gn,HU,Hu,aW,ae];rw[show (w == 0)=false from by rw[Gn];exact z0];simp only[HU,Hu,bX,aC];rw[aK,a8];simp only[az,aq,av,ao,ag,aa,ab,sV h,ae,bD,aC,Kk,Kl];rw[aK,cu];simp only[tQ,cS,aL,ao,ag,bh,aa,ab,gn,HU,Hu,aW,eP,dC];by_cases c3:w=3
   ·rw[show (w == 3)=true from by rw[Ko];exact c3,Gq rfl,show dY .Gt (m:Int) 1=false from Gm (by show ¬ (1:Int)<m;intro z;exact z3 ⟨c3,by omega⟩)];simp only[ae,ab,HU,Hu,bX,aC,bb,ao,ag,aO];exact hgc
   ·rw[show (w == 3)=false from by rw[Gn];exact c3];simp only[HU,Hu,ae,ab,bX,aC,bb,ao,ag,aO];exact hgc
end
theorem oz{μ:aw}{a b:Nat}{xs ys:List D}(h:μ[a]?=some (.lst xs))(g:μ[b]?=some (.lst ys))(hn:xs.length+ys.length<=1000000):cm (.obj a) (.obj b) μ=.ok (.obj μ.length) (μ++[.lst (xs++ys)]):=by
 unfold cm;simp only[h,g];rw[Gq (Gz hn (by decide))]
theorem J2{μ:aw}{x:D}{p:PyData}{neg:Bool}(e:oV μ x=some p)(f:fe p=true):lh neg x x μ=.ok (.bl (!neg)) μ:=by
 unfold lh;rw[e];dsimp only;rw[Gq ⟨f,f⟩,SeqAt.eqv_refl _ (bE f)];cases neg <;> rfl
theorem qg{μ:aw}:∀fs:List Int,toPs μ (fs.map D.int)=some (fs.map PyData.int)
 |[]=>rfl
 |x::fs=>by simp only[HF,toPs,qg fs];rfl
theorem sT{μ:aw}:∀ls:List (List Int),fU μ (ls.map yi)=some (ls.map eF)
 |[]=>rfl
 |l::ls=>by
  have:t4 μ (yi l)=some (eF l):=by
   show (toPs μ (l.map D.int)).map PyData.tuple=_;rw[qg];rfl
  simp only[HF,fU,sT ls,this];rfl
abbrev Fc(ls:List (List Int)):D:=.tup (ls.map yi)
theorem Bz{μ:aw}{ls:List (List Int)}:oV μ (Fc ls)=some (.tuple (ls.map eF)):=by
 simp only[oV,sT,Option.map_some]
theorem wj:∀ls:List (List Int),PyData.canLayAll0 (ls.map eF)=true/\PyData.depthAll (ls.map eF)<=1
 |[]=>by simp[PyData.canLayAll0,PyData.depthAll]
 |l::ls=>by
  have ih:=wj ls;have f:=qi l;simp only[HF,PyData.canLayAll0,PyData.depthAll,ih.1,eF,PyData.canLay0,PyData.depth,f.1,f.2];have:=ih.2;exact⟨rfl,by omega⟩
theorem BB{ls:List (List Int)}:fe (.tuple (ls.map eF))=true:=by
 have:=wj ls;simp only[fe,PyData.canLay0,this.1,PyData.depth,Bool.true_and];exact HQ (by have:=this.2;omega)
theorem wI {μ:aw}{xs:List D}:ff "tuple" (.tup xs) μ=.ok (.bl true) μ:=rfl
theorem Ef{μ:aw}{w:List Int}:oZ (yi w) μ=.ok (.fix (w.map D.int)) μ:=rfl
theorem wk{μ:aw}{i:Int}:cx [.int i] μ=.ok (.bl true) μ:=by
 unfold cx;rw[d5];show mY μ (.ok (.bl true) μ)=_;exact bW (by simp)
theorem x6{w:List Int}{M:aw}(hl:w.length<=1000):compLoop (.fix (w.map D.int)) M.length (ak 0) bq bZ (w.map D.int) [none] (M++[.lst []])=.ok (.obj M.length) (M++[.lst ((w.map fun _=>true).map D.bl)]):=by
 have c:=cF (U:=Int) (en:=D.int) (src:=.fix (w.map D.int)) (g:=ak 0) (t:=bq) (e:=bZ) (μ1:=M) (q:=fun _=>true) (h:=fun _=>.bl true) (fun ρ=>∃o,ρ=[o]) (fun _=>trivial) (us:=w) (acc:=[]) (ρ:=[none]) ⟨_,rfl⟩
  (by rw[ID];exact Gz (by omega) bg)
  (fun k hk x ρ hJJ => by
   obtain⟨o,e'⟩:=hJJ;subst e';refine⟨[some (.int k)],⟨_,rfl⟩,rfl,rfl,fun _=>?_⟩;unfold bZ;simp only[az,aq,av,ag,aa,ab]
   exact wk)
 rw[c,iu,HP,Iz];rfl
theorem uu{μ:aw}{ls:List (List Int)}(h:∀k∈ls,k.length<=1000)(hl:ls.length<=1000):bu [Fc ls,Fc ls] μ=.ok (.bl true) μ:=by
 obtain⟨ys',ρ',μ2,s',⟨e1,n,L',e3,e4,e5,e6,e7⟩,run⟩:=jQ (src:=.fix (ls.map yi)) (g:=ak 0) (t:=bq) (e:=di) (n:=μ.length)
  (fun xs ys ρ μ2 s=>μ2=μ/\∃(n:Nat)(L':List (List Int)),xs=L'.map yi/\(∀k∈L',k.length<=1000)/\ys=(List.replicate n true).map D.bl/\n+L'.length<=1000/\∃o,ρ=[o])
  (fun ys ρ μ2 s ⟨e,_⟩=>⟨by rw[e],trivial⟩)
  (fun x r ys ρ μ2 s hJ => by
   obtain⟨e1,n,L',e3,e4,e5,e6,o,e7⟩:=hJ;subst e1 e5 e7;cases L' with
   |nil=>cases e3
   |cons k L'=>
    rw[HF]at e3;injection e3 with ex er
    subst ex er;have hk:=e4 k GC;simp only[HV]at e6;refine⟨rfl,trivial,[some (yi k)],μ2,s,true,μ2,s,rfl,rfl,fun _=>⟨.bl true,μ2,s++[.lst ((k.map fun _=>true).map D.bl)],?_,?_,rfl,rfl,n+1,L',rfl,fun k hk=>e4 k (GD _ hk),?_,by omega,_,rfl⟩,fun z=>by cases z⟩
    ·unfold di;simp only[fv,kF,ag,aa,ab];rw[show ff "tuple" (yi k) (μ2++O.lst ((List.replicate n true).map D.bl)::s)=.ok (.bl true) (μ2++O.lst ((List.replicate n true).map D.bl)::s) from rfl];simp only[aa,ab,aW,Hv,az,aq,av,bY,cv,ag,Ef,bo];rw[show gL [none] [some (yi k)]=[none] from rfl,x6 hk];simp only[aa,ab];refine(gS aJ).trans ?_;rw[show (k.map fun _=>true).all id=true from by simp];simp only[HK,IF]
    ·simp only[Hm,List.length_replicate];exact Gu (show n<1000 by omega) bg
    ·rw[List.replicate_succ',IT];rfl)
  (xs:=ls.map yi) (ys:=[]) (ρ:=[none]) (μ1:=μ) (s:=[]) ⟨rfl,0,ls,rfl,h,rfl,by omega,_,rfl⟩
 subst e1 e5;unfold bu;rw[dH];simp only[gb,List.replicate];rw[aK,cu];simp only[ik,gP,jh,kF,aL,cS,ao,ag,aa,ab,wI,fV,Je,HU,Hu,J2 Bz BB,aW,ae,bX,aC,bb,az,aq,av,bY,cv,iN,bo];rw[gB,iQ,run];simp only[aa,ab];rw[gS (bs:=List.replicate n true) (by rw[Hh (G0 _),Ja];rfl)];rw[show (List.replicate n true).all id=true from by simp];simp only[ae,ab,aO];exact d3 (by simp)
theorem AY(a b:Str):(a++b).cps.toList=a.cps.toList++b.cps.toList:=W.KT.app_list a b
theorem Ax{a b:Str}(h:a.cps.toList=b.cps.toList):a=b:=by
 cases a;cases b;simp at h;congr
theorem AU{c:Nat}:∀{a b s t:List Nat},c∉a->c∉b->a++c::s=b++c::t->a=b/\s=t
 |[],[],_,_,_,_,h=>⟨rfl,by simpa using h⟩
 |[],y::b,_,_,_,hb,h=>by simp at h;exact absurd h.1.symm (fun z=>hb (by simp[z]))
 |x::a,[],_,_,ha,_,h=>by simp at h;exact absurd h.1 (fun z=>ha (by simp[z]))
 |x::a,y::b,s,t,ha,hb,h=>by
  simp at h;obtain⟨e1,e2⟩:=AU (c:=c) (fun z=>ha (by simp[z])) (fun z=>hb (by simp[z])) h.2;exact⟨by rw[h.1,e1],e2⟩
theorem v5{c:Nat}(x y:Str)(r:List Str):(Str.join ⟨#[c]⟩ (x::y::r)).cps.toList=x.cps.toList++c::(Str.join ⟨#[c]⟩ (y::r)).cps.toList:=by
 show ((x++⟨#[c]⟩)++Str.join ⟨#[c]⟩ (y::r)).cps.toList=_;rw[AY,AY];simp
theorem xX{c:Nat}:∀{as bs:List Str},as≠[]->bs≠[]->(∀p∈as,c∉p.cps.toList)->(∀p∈bs,c∉p.cps.toList)->Str.join ⟨#[c]⟩ as=Str.join ⟨#[c]⟩ bs->as=bs:=by
 intro as
 induction as with
 |nil=>intro bs h;exact absurd rfl h
 |cons x r ih=>
  intro bs _ hb h1 h2 e;cases bs with
  |nil=>exact absurd rfl hb
  |cons y q=>
   cases r with
   |nil=>
    cases q with
    |nil=>have e':x=y:=e;rw[e']
    |cons y2 q=>
     have e':=GP (fun s:Str=>s.cps.toList) e;simp only[v5]at e';exact absurd (show c∈x.cps.toList by rw[show x.cps.toList=_ from e'];simp) (h1 x (by simp))
   |cons x2 r=>
    cases q with
    |nil=>
     have e':=GP (fun s:Str=>s.cps.toList) e;simp only[v5]at e';exact absurd (show c∈y.cps.toList by rw[show y.cps.toList=_ from e'.symm];simp) (h2 y (by simp))
    |cons y2 q=>
     have e':=GP (fun s:Str=>s.cps.toList) e;simp only[v5]at e';obtain⟨e1,e2⟩:=AU (h1 x (by simp)) (h2 y (by simp)) e';rw[Ax e1,ih (by simp) (by simp) (fun p hp=>h1 p (by simp[hp])) (fun p hp=>h2 p (by simp[hp])) (Ax e2)]
theorem nl:("\n" : Str)=⟨#[10]⟩:=by decide +kernel
theorem rK {rows:List Str} (hn:rows≠[]) (h:∀p∈rows,10∉p.cps.toList):Txt.split (Txt.join "\n" rows) "\n" = rows:=by
 rw[nl];refine xX (c:=10) (fun z=>?_) hn (StrLaws.split_free _ 10) h ?_
 ·have:=StrLaws.join_split (Txt.join ⟨#[10]⟩ rows) ⟨#[10]⟩;have l:=PyProof.Rows.split_pos (Txt.join ⟨#[10]⟩ rows) ⟨#[10]⟩;rw[z]at l;simp at l
 ·rw[StrLaws.join_split];exact StrLaws.glued_eq_join _ _
def nT(i:Int):Str:=(toString i:String)
def eZ (w:Str) (a b:Int):Str:=w++nT a ++ " " ++ nT b
def E4:Str:="0123456789"
def m5 (x:Str):Bool:=decide (1<=x.length)&&decide (x.length<=20)&&(x.cps.toList.all fun c=>!(Builtin.Str.occurrences E4 ⟨#[c]⟩ 0 E4.length 1).isEmpty)&&(decide (x = "0") || !decide (x.cps.toList.head?=some 48))
def kD (w ws:Str) (a b:Int):Bool:=decide (Txt.split (eZ ws a b) " " = [w,nT a,nT b])&&m5 (nT a)&&m5 (nT b)&&decide (PySem.intText? (nT a)=some a)&&decide (PySem.intText? (nT b)=some b)&&decide ((eZ ws a b).length<=30)&&decide (10∉(eZ ws a b).cps.toList)&&decide (w ≠ "")
theorem Bt:∀a<6,∀b<6,kD "tie" "tie " (a:Nat) (b:Nat)=true:=by decide +kernel
theorem Bo:∀a<7,∀b<16,kD "web" "web " (a:Nat) (b:Nat)=true:=by decide +kernel
theorem eq_str{neg:Bool}{x y:Str}{μ:aw}:lD neg (.str x) (.str y) μ=.ok (.bl (if neg then !decide (x=y) else decide (x=y))) μ:=J1 (_root_.eq_self _)
theorem len_str{x:Str}{μ:aw}(h:x.length<=1000):gk [.str x] μ=.ok (.int x.length) μ:=by
 unfold gk m9;dsimp only;rw[Gq (Gz h bg)]
def Dw(c:Nat):Bool:=!(Builtin.Str.occurrences E4 ⟨#[c]⟩ 0 E4.length 1).isEmpty
theorem xP{x:Str}{μ:aw}(hx:x.length<=1000):compLoop (.fix (gM x)) μ.length (ak 0) bq gu (gM x) [none] (μ++[.lst []])=.ok (.obj μ.length) (μ++[.lst ((x.cps.toList.map Dw).map D.bl)]):=by
 have cc:=cF (U:=Nat) (en:=fun c=>D.str ⟨#[c]⟩) (src:=.fix (gM x)) (g:=ak 0) (t:=bq) (e:=gu) (μ1:=μ) (q:=fun _=>true) (h:=fun c=>D.bl (Dw c)) (fun ρ=>∃o,ρ=[o]) (fun _=>trivial) (us:=x.cps.toList) (acc:=[]) (ρ:=[none]) ⟨_,rfl⟩
  (by
   have:x.cps.toList.length<=1000:=by simpa[Str.length] using hx
   rw[ID]
   exact Gz (by omega) bg)
  (fun c hc a ρ ⟨o,ho⟩=>⟨[some (.str ⟨#[c]⟩)],⟨_,rfl⟩,by subst ho;rfl,rfl,fun _=>rfl⟩)
 rw[Kn.mpr (fun _ _=>rfl),HP]at cc;rw[Iz];exact cc
theorem nk{x:Str}{μ:aw}(h:m5 x=true):eX [.str x] μ=.ok (.bl true) μ:=by
 unfold m5 at h;simp only[HC,J3]at h;obtain⟨⟨⟨h1,h2⟩,h3⟩,h4⟩:=h;unfold eX;rw[d5,show (some (D.str x)::List.replicate (1-1) none:Ro)=[some (D.str x)] from rfl];simp only[kQ];rw[aK,cu];simp only[ik,gP,cS,l9,bh,az,aq,av,ag,aa,len_str (Gz h2 (by decide:20<=1000)),dC,aW];rw[show dY .LtE 1 (x.length:Int)=true from HQ (by omega),show dY .LtE (x.length:Int) 20=true from HQ (by omega)];simp only[Hv,aa,dC,aW,Je,HU,Hu,jh,az,aq,av,bY];rw[show A9 (ai 0) [some (D.str x)] μ=.ok (.fix (gM x)) μ from rfl];simp only[aa,bo,gB,iQ];rw[xP (Gz h2 (by decide))];simp only[aa];rw[gS aJ];rw[show (x.cps.toList.map Dw).all id=true from by rw[J7];exact h3];simp only[aa,fV,Je,ae,HU,Hu,bX,aC,bb,Df,aL,ag,bh,eq_str,aW];by_cases e:x = "0"
 ·subst e;rw[show decide ((("0" : Str))=("0" : Str))=true from HQ rfl];simp only[Hv,ae,aO];exact d3 (by simp)
 ·rw [show decide (x = ("0" : Str)) = false from Gm e];simp only[HU,Hu]
  have hh:∃c r,x.cps.toList=c::r:=by
   cases z:x.cps.toList with
   | nil => exfalso; have : x.cps.toList.length = x.length := by simp [Str.length]
            rw[z]at this;simp at this;omega
   |cons c r=>exact⟨c,r,rfl⟩
  obtain⟨c,r,hc⟩:=hh;rw[hc]at h4
  rw[show ug (.str x) (.int 0) (μ++[O.lst ((x.cps.toList.map Dw).map D.bl)])=.ok (.str ⟨#[c]⟩) (μ++[O.lst ((x.cps.toList.map Dw).map D.bl)]) from by
   unfold ug;dsimp only;rw[hc];rw[show atI (c::r) 0=some c from by unfold atI;rw[show qQ (c::r).length 0=some 0 from n4 (by decide) (by simp)];rfl];dsimp only
   rw[Gq (Gz h2 (by decide))]]
  simp only[aa,eq_str]
  have hne:decide ((⟨#[c]⟩:Str)=("0" : Str))=false:=by
   rw[show ("0" : Str)=⟨#[48]⟩ from by decide +kernel];simp only[Bool.or_eq_true,J3,e,false_or,Bool.not_eq_true',decide_eq_false_iff_not,List.head?_cons,Option.some.injEq]at h4;simpa using h4
  rw[hne];simp only[Hv,Jm,ae,aO];exact d3 (by simp)
theorem pK{M:aw}{n:Nat}{x y:Str}{e:ME}{h:Str->D}(hn:M[n]?=some (.lst [.str x,.str y]))(he:∀z a,z=x\/z=y->e [some (.str z)] (M++[.lst a])=.ok (h z) (M++[.lst a])) :
  compLoop (.own n [.str x,.str y]) M.length (ak 0) bq e [.str x,.str y] [none] (M++[.lst []])=.ok (.obj M.length) (M++[.lst [h x,h y]]):=by
 have cc:=cF (U:=Str) (en:=D.str) (src:=.own n [.str x,.str y]) (g:=ak 0) (t:=bq) (e:=e) (μ1:=M) (q:=fun _=>true) (h:=h) (fun ρ=>∃o,ρ=[o]) (fun _=>bN hn) (us:=[x,y]) (acc:=[]) (ρ:=[none]) ⟨_,rfl⟩
  (by show 0+2<=sizeLine;decide)
  (fun z hz a ρ ⟨o,ho⟩=>⟨[some (.str z)],⟨_,rfl⟩,by subst ho;rfl,rfl,fun _=>he z a (by simpa using hz)⟩)
 rw[Kn.mpr (fun _ _=>rfl),HP]at cc;exact cc
theorem wq{M:aw}{n:Nat}{w x y:Str}(hn:M[n]?=some (.lst [.str w,.str x,.str y])):vx (.obj n) (some 1) none M=.ok (.obj M.length) (M++[.lst [.str x,.str y]]):=by
 unfold vx;dsimp only;rw[hn];rfl
theorem mf{w ws:Str}{a b:Int}{μ:aw}(h:kD w ws a b=true):aY [.str w,.int 2,.str (eZ ws a b)] μ=.ok (.tup [.int a,.int b]) μ:=by
 unfold kD at h;simp only[HC,J3]at h;obtain⟨⟨⟨⟨⟨⟨⟨h1,h2⟩,h3⟩,h4⟩,h5⟩,h6⟩,h7⟩,h8⟩:=h
 have l1:(nT a).length<=640:=by
  unfold m5 at h2;simp only[HC,J3]at h2;omega
 have l2:(nT b).length<=640:=by
  unfold m5 at h3;simp only[HC,J3]at h3;omega
 generalize eZ ws a b=row at h1 h6 h7⊢;let M1:aw:=μ++[O.lst [.str w,.str (nT a),.str (nT b)]]
 let M2:aw:=M1++[O.lst [.str (nT a),.str (nT b)]]
 let M3:aw:=M2++[O.lst [.bl true,.bl true]]
 let M4:aw:=M3++[O.lst [.str (nT a),.str (nT b)]]
 have g1:M1[μ.length]?=some (.lst [.str w,.str (nT a),.str (nT b)]):=aJ
 have s0:fJ (.str row) [.str " "] μ=.ok (.obj μ.length) M1:=by
  unfold fJ;dsimp only;rw[h1,Gq ⟨by decide +kernel,Gz h6 (by decide),by show 3<=sizeLine;decide⟩];rfl
 have i0:dX (.obj μ.length) (.int 0) M1=.ok (.str w) M1:=il g1 rfl;have s1:vx (.obj μ.length) (some 1) none M1=.ok (.obj M1.length) M2:=wq g1;have s2:vx (.obj μ.length) (some 1) none M3=.ok (.obj M3.length) M4:=wq (bN (bN g1))
 have c1:compLoop (.own M1.length [.str (nT a),.str (nT b)]) M2.length (ak 0) bq dO [.str (nT a),.str (nT b)] [none] (M2++[O.lst []])=.ok (.obj M2.length) M3:=
  pK (h:=fun _=>.bl true) aJ fun z c hz=>by
   unfold dO;simp only[az,aq,av,ag,aa];rcases hz with rfl|rfl
   ·exact nk h2
   ·exact nk h3
 have c2:compLoop (.own M3.length [.str (nT a),.str (nT b)]) M4.length (ak 0) bq cz [.str (nT a),.str (nT b)] [none] (M4++[O.lst []])=.ok (.obj M4.length) (M4++[O.lst [.int a,.int b]]):=by
  have:=pK (M:=M4) (n:=M3.length) (x:=nT a) (y:=nT b) (e:=cz) (h:=fun z=>match PySem.intText? z with|some i=>.int i|none=>.non) aJ fun z c hz=>by
   unfold cz;simp only[az,aq,av,ag,aa];rcases hz with rfl|rfl
   ·unfold pE;dsimp only;rw[h4];dsimp only;rw[Gq l1]
   ·unfold pE;dsimp only;rw[h5];dsimp only;rw[Gq l2]
  rw[h4,h5]at this;exact this
 unfold aY;rw[rq,show (some (D.str w)::some (D.int 2)::some (D.str row)::List.replicate (4-3) none:Ro)=[some (D.str w),some (.int 2),some (.str row),none] from rfl];simp only[gH];rw[aK,a8];rw[show lF fJ (ai 2) (ah (cC (D.str " ")) aG) [some (D.str w),some (.int 2),some (.str row),none] μ=.ok (.obj μ.length) M1 from s0];simp only[ae,bD,aC,Kk,Kl];rw[aK,cu];simp only[ik,gP,cS,aL,bh,az,aq,av,ag,ao,aa,Ag g1,gT,gn,aW,i0,eq_str,Hv,jh,bY,cv,sG,jO,rp,n6];rw[show (!((([D.str w,D.str (nT a),D.str (nT b)]:List D).length:Int) == 2+1))=false from rfl];simp only[HU,Hu,Hv,decide_true,Je,s1,aa,gO (show M2[M1.length]?=some (.lst [.str (nT a),.str (nT b)]) from aJ),eJ,gB,iQ,c1];rw[gS (bs:=[true,true]) (show M3[M2.length]?=_ from aJ)];simp only[aa,fV,J6,List.all_nil,id,Jh,Je,ae,HU,Hu,bX,aC,bb,az,aq,av,bY,cv,sG,ag,ao,bh,jO,rp,n6,s2,gO (show M4[M3.length]?=some (.lst [.str (nT a),.str (nT b)]) from aJ),eJ,gB,iQ,c2];rw[tL (show (M4++[O.lst [.int a,.int b]])[M4.length]?=_ from aJ)];simp only[ae,aO];simp only[M4,M3,M2,M1,HK];exact d3 (by simp)
theorem add_str{x y:Str}{μ:aw}(h:x.length+y.length<=1000):cm (.str x) (.str y) μ=.ok (.str (x++y)) μ:=by
 unfold cm;dsimp only;rw[Gq (Gz h bg)]
theorem Fg{i:Int}(h0:0<=i)(h:i<=15):i.natAbs.log2<1920:=by
 have:=(by decide:∀n<16,Nat.log2 n<1920) i.natAbs (by omega);exact this
theorem str_int{i:Int}{μ:aw}(h0:0<=i)(h:i<=15):mP [.int i] μ=.ok (.str (nT i)) μ:=by
 unfold mP;dsimp only;rw[Gq (Fg h0 h)];rfl
theorem tf {ws:Str}{a b:Int}:(eZ ws a b).length=ws.length+(nT a).length+(" " : Str).length+(nT b).length:=by
 unfold eZ;rw[Ku,Ku,Ku]
theorem wM{ws:Str}{a b:Int}{fa fb:MA}{ρ:Ro}{μ:aw}(ea:fa ρ μ=.ok [.int a] μ)(eb:fb ρ μ=.ok [.int b] μ)(a0:0<=a)(a1:a<=15)(b0:0<=b)(b1:b<=15)(h:(eZ ws a b).length<=30) :
  aE cm (aE cm (aE cm (cC (.str ws)) (aH mP fa)) (cC (.str " "))) (aH mP fb) ρ μ=.ok (.str (eZ ws a b)) μ:=by
 have hl:=tf (ws:=ws) (a:=a) (b:=b);simp only[aL,bh,az,aa,ea,str_int a0 a1];rw[add_str (by omega)];simp only[aa];rw[add_str (by rw[Ku];omega)];simp only[aa,eb,str_int b0 b1];rw[add_str (by rw[Ku,Ku];omega)];rfl
theorem wL{ws:Str}{a b:Int}{fa fb:ME}{ρ:Ro}{μ:aw}(ea:fa ρ μ=.ok (.int a) μ)(eb:fb ρ μ=.ok (.int b) μ)(a0:0<=a)(a1:a<=15)(b0:0<=b)(b1:b<=15)(h:(eZ ws a b).length<=30) :
  Dz (jC ws (jF fa (jC " " (jF fb uc)))) ρ μ=.ok (.str (eZ ws a b)) μ:=by
 have hl:=tf (ws:=ws) (a:=a) (b:=b);have s1:1000<=sizeLine:=bg;unfold Dz jC;rw[Str.empty_append];rw[Gq (by omega)];unfold jF;dsimp only;rw[ea];simp only[aa,jI];rw[show ((toString a:String):Str)=nT a from rfl,Gq ⟨Fg a0 a1,by rw[Ku];omega⟩];rw[Gq (by rw[Ku,Ku];omega),eb];simp only[aa];rw[show ((toString b:String):Str)=nT b from rfl,Gq ⟨Fg b0 b1,by rw[Ku,Ku,Ku];omega⟩];unfold uc ud;simp only[aa];rw[Gq (by rw[Ku,Ku,Ku];omega)];rfl
def dg (k:List Int):Str:=eZ "tie " (k.getD 0 0) (k.getD 1 0)
def eE (m:Nat) (ks:List (List Int)):List Str:=eZ "web " m ks.length::ks.map dg
def dZ (m:Nat) (ks:List (List Int)):Str:=Txt.join "\n" (eE m ks)
theorem lp {a b:Int} (a0:0<=a) (a1:a<6) (b0:0<=b) (b1:b<6):kD "tie" "tie " a b=true:=by
 obtain⟨x,rfl⟩:=Int.eq_ofNat_of_zero_le a0;obtain⟨y,rfl⟩:=Int.eq_ofNat_of_zero_le b0;exact Bt x (by omega) y (by omega)
theorem ll {m n:Nat} (h:m<=6) (h':n<=15):kD "web" "web " m n=true:=Bo m (by omega) n (by omega)
theorem kc{w ws:Str}{a b:Int}(h:kD w ws a b=true):(eZ ws a b).length<=30/\10∉(eZ ws a b).cps.toList:=by
 unfold kD at h;simp only[HC,J3]at h;exact⟨h.1.1.2,h.1.2⟩
section
variable{m:Nat}{ks:List (List Int)}{μ:aw}
theorem sZ(h:GW m ks):∀x∈eE m ks,x.length<=30/\10∉x.cps.toList:=by
 intro x hx;unfold eE at hx;rcases GE.mp hx with rfl|hx
 ·exact kc (ll h.m6 (bQ h))
 ·obtain⟨k,hk,rfl⟩:=IJ.mp hx;obtain⟨a,b,rfl,h1,h2,h3⟩:=h.2.2.2.2 k hk;have:=h.m6;exact kc (lp (a:=a) (b:=b) h1 (by omega) (by omega) (by omega))
theorem pQ(h:GW m ks):(eE m ks).length<=16:=by
 have:=bQ h;unfold eE;simp;omega
theorem By{l:List Str}(h:∀x∈l,x.length<=30):(l.map (·.length)).sum<=l.length*30:=by
 induction l with
 |nil=>simp
 |cons x r ih=>
  have:=h x (by simp);have:=ih fun y hy=>h y (by simp[hy]);simp only[HF,List.sum_cons,HV];omega
theorem l8 (h:GW m ks):JoinOk "\n" (eE m ks)=true/\(dZ m ks).length<=1000:=by
 have h1:=By (l:=eE m ks) fun x hx=>(sZ h x hx).1;have h2:=pQ h;have n1:("\n" : Str).length=1:=by decide +kernel
 constructor
 ·unfold JoinOk Builtin.Str.tooLong;rw[StrLaws.joinTotal,n1];simp only[Bool.not_eq_true',decide_eq_false_iff_not];have:1000<=sizeLine:=bg;omega
 ·unfold dZ;show (Builtin.Str.glued "\n" (eE m ks)).length<=1000;rw[StrLaws.glued_eq_join]
  have e:∀l:List Str,(Str.join "\n" l).length<=(l.map (·.length)).sum+l.length:=by
   intro l
   induction l with
   |nil=>exact Ig _
   |cons x r ih=>
    cases r with
    |nil=>show x.length<=_;simp
    |cons y r=>
     have q:Str.join "\n" (x::y::r)=x ++ "\n" ++ Str.join "\n" (y::r):=rfl;rw[q,Ku,Ku,n1];simp only[HF,List.sum_cons,HV]at ih⊢;omega
  have:=e (eE m ks);omega
theorem sQ:∀(l:List Str),lM (l.map D.str)=some l
 |[]=>rfl
 |x::r=>by simp only[HF,lM,sQ r,Option.map_some]
theorem tH {M:aw}{n:Nat} (h:GW m ks) (hn:M[n]?=some (.lst ((eE m ks).map D.str))):ij (.str "\n") [.obj n] M=.ok (.str (dZ m ks)) M:=by
 unfold ij;dsimp only;rw[hn];dsimp only;rw[sQ];dsimp only;rw[Gq ⟨(l8 h).1,Gz (l8 h).2 bg⟩];rfl
theorem nh {M:aw}{e:ME} (h:GW m ks) (he:∀a b c:Int,0<=a->a<6->0<=b->b<6->∀A,e [some (.int a),some (.int b)] (M++[.lst A])=.ok (.str (eZ "tie " a b)) (M++[.lst A])) :
  compLoop (.fix (ks.map aA)) M.length (du 2 (aU (ak 0) (aU (ak 1) (dv)))) bq e (ks.map aA) [none,none] (M++[.lst []])=.ok (.obj M.length) (M++[.lst ((ks.map dg).map D.str)]):=by
 have c:=cF (U:=List Int) (en:=aA) (src:=.fix (ks.map aA)) (g:=du 2 (aU (ak 0) (aU (ak 1) (dv)))) (t:=bq) (e:=e) (μ1:=M) (q:=fun _=>true) (h:=fun k=>.str (dg k)) (fun ρ=>∃o o',ρ=[o,o']) (fun _=>trivial) (us:=ks) (acc:=[]) (ρ:=[none,none]) ⟨_,_,rfl⟩
  (by rw[ID];have:=bQ h;exact Gz (by omega) bg)
  (fun k hk a ρ ⟨o, o', e⟩ => by
   subst e;obtain⟨x,y,rfl,h1,h2,h3⟩:=h.2.2.2.2 k hk;have:=h.m6
   exact⟨[some (.int x),some (.int y)],⟨_,_,rfl⟩,rfl,rfl,fun _=>he x y 0 h1 (by omega) (by omega) (by omega) a⟩)
 rw[Kn.mpr (fun _ _=>rfl),HP]at c;rw[Iz];exact c
theorem yW(h:GW m ks):cX [ck m ks] μ=.ok (.str (dZ m ks)) μ:=by
 have hl:=bQ h;have m6:=h.m6;let hd:Str:=eZ "web " m ks.length
 let M1:aw:=μ++[O.lst [.str hd]]
 let M2:aw:=M1++[O.lst ((ks.map dg).map D.str)]
 let M3:aw:=M2++[O.lst ((eE m ks).map D.str)]
 have e1:=wM (ws:="web ") (a:=m) (b:=ks.length) (fa:=ah (aE dX (ai 0) (cC (.int 0))) aG) (fb:=ah (aH gk (ah (aE dX (ai 0) (cC (.int 1))) aG)) aG) (ρ:=[some (ck m ks),none]) (μ:=μ)
  rfl (by simp only[aq,az,av,aL,ag,bh,aa,gQ,iO,Hm]) (by omega) (by omega) (by omega) (by omega) (kc (ll m6 hl)).1
 have c1:compLoop (.fix (ks.map aA)) M1.length (du 2 (aU (ak 0) (aU (ak 1) (dv)))) bq c9 (ks.map aA) [none,none] (M1++[.lst []])=.ok (.obj M1.length) M2:=
  nh h fun a b _ a0 a1 b0 b1 A=>by
   unfold c9;exact wM (ws:="tie ") rfl rfl a0 (by omega) b0 (by omega) (kc (lp a0 a1 b0 b1)).1
 have a1:cm (.obj μ.length) (.obj M1.length) M2=.ok (.obj M2.length) M3:=by
  have:=oz (μ:=M2) (a:=μ.length) (b:=M1.length) (xs:=[.str hd]) (ys:=(ks.map dg).map D.str) (bN aJ) aJ (by simp;omega);exact this
 unfold cX;rw[d5,show (some (ck m ks)::List.replicate (2-1) none:Ro)=[some (ck m ks),none] from rfl];simp only[iG];rw[aK,a8,aL,ji,aq,e1];simp only[aa,av,HV,ID];rw[Gq (Gz (by decide:0+1<=1000) bg)];simp only[aa,bY,cv,aL,ag,bh,gQ,iN,bo,gB,iQ];rw[show compLoop (.fix (ks.map aA)) (μ++[O.lst [.str (eZ "web " m ks.length)]]).length (du 2 (aU (ak 0) (aU (ak 1) (dv)))) bq c9 (ks.map aA) [none,none] ((μ++[O.lst [.str (eZ "web " m ks.length)]])++[.lst []])=.ok (.obj M1.length) M2 from c1];simp only[aa,a1,ae,bD,aC,Kk,Kl,bb];rw[show lF ij (cC (.str "\n")) (ah (ai 1) aG) [some (ck m ks),some (.obj M2.length)] M3=ij (.str "\n") [.obj M2.length] M3 from rfl,tH h aJ];simp only[ae,aO];simp only[M3,M2,M1,HK];exact d3 (by simp)
theorem xb(h:GW m ks):eW [ck m ks] μ=.ok (.str (dZ m ks)) μ:=by
 have hl:=bQ h;have m6:=h.m6;let hd:Str:=eZ "web " m ks.length
 let M1:aw:=μ++[O.lst [.str hd]]
 let M2:aw:=M1++[O.lst ((ks.map dg).map D.str)]
 let M3:aw:=M2++[O.lst ((eE m ks).map D.str)]
 have e1:=wL (ws:="web ") (a:=m) (b:=ks.length) (fa:=ai 1) (fb:=aH gk (ah (ai 2) aG)) (ρ:=[some (ck m ks),some (.int m),some (.tup (ks.map aA))]) (μ:=μ)
  rfl (by simp only[aq,az,av,ao,ag,aa,iO,Hm]) (by omega) (by omega) (by omega) (by omega) (kc (ll m6 hl)).1
 have c1:compLoop (.fix (ks.map aA)) M1.length (du 2 (aU (ak 0) (aU (ak 1) (dv)))) bq eS (ks.map aA) [none,none] (M1++[.lst []])=.ok (.obj M1.length) M2:=
  nh h fun a b _ a0 a1 b0 b1 A=>by
   unfold eS;exact wL (ws:="tie ") rfl rfl a0 (by omega) b0 (by omega) (kc (lp a0 a1 b0 b1)).1
 have a1:cm (.obj μ.length) (.obj M1.length) M2=.ok (.obj M2.length) M3:=by
  have:=oz (μ:=M2) (a:=μ.length) (b:=M1.length) (xs:=[.str hd]) (ys:=(ks.map dg).map D.str) (bN aJ) aJ (by simp;omega);exact this
 unfold eW;rw[d5,show (some (ck m ks)::List.replicate (3-1) none:Ro)=[some (ck m ks),none,none] from rfl];simp only[kN];rw[aK,a8];rw[show (ai 0 [some (ck m ks),none,none] μ).bindS (fun d μ1=>(du 2 (aU (ak 1) (aU (ak 2) dv)) d [some (ck m ks),none,none] μ1).bindS fun ρ' μ2=>SO.next ρ' μ2)=SO.next [some (ck m ks),some (.int m),some (.tup (ks.map aA))] μ from rfl];rw[aC,bb];rw[show ∀k:MA,lF ij (cC (.str "\n")) k [some (ck m ks),some (.int m),some (.tup (ks.map aA))] μ=(k [some (ck m ks),some (.int m),some (.tup (ks.map aA))] μ).bind (fun ds μ2=>ij (.str "\n") ds μ2) from fun _=>rfl];rw[aq,aL,ji,aq,e1];simp only[aa,av,HV,ID];rw[Gq (Gz (by decide:0+1<=1000) bg)];simp only[aa,bY,cv,ag,ao,iN,bo,gB,iQ];rw[show compLoop (.fix (ks.map aA)) (μ++[O.lst [.str (eZ "web " m ks.length)]]).length (du 2 (aU (ak 0) (aU (ak 1) (dv)))) bq eS (ks.map aA) [none,none] ((μ++[O.lst [.str (eZ "web " m ks.length)]])++[.lst []])=.ok (.obj M1.length) M2 from c1];simp only[aa,a1];rw[tH (M:=M3) (n:=M2.length) h aJ];simp only[ae,aO];simp only[M3,M2,M1,HK];exact d3 (by simp)
end
end Lw
namespace Lw
open PySem L2 RS Lv
section
variable{m:Nat}{ks:List (List Int)}{μ:aw}
theorem Da{dn r:List (List Int)}(h:GW m (dn++r)):GW m dn:=
 ⟨rfl,h.2.1,h.2.2.1,(List.pairwise_append.mp h.2.2.2.1).1,fun k hk=>h.2.2.2.2 k (GH _ hk)⟩
theorem EJ{β:Type}{x:β}{xs:List β}:lE (x::xs) (some 1) none=xs:=by
 unfold lE;rw[show HT.sIx (x::xs).length 0 (some 1)=1 from (HT.sIx_nat _ _ 1).trans (by simp),HT.sIx_none];simp
theorem Al{xs ys:List D}(h:xs.length+ys.length<=1000):cm (.tup xs) (.tup ys) μ=.ok (.tup (xs++ys)) μ:=by
 unfold cm;dsimp only;rw[Gq (Gz h bg)]
theorem yX(h:GW m ks):fM [.str (dZ m ks)] μ=.ok (ck m ks) μ:=by
 have hl:=bQ h;have m0:=h.m0;have m6:=h.m6;have sj:Txt.split (dZ m ks) "\n" = eE m ks:=rK (by unfold eE;simp) fun x hx=>(sZ h x hx).2;let M1:aw:=μ++[O.lst ((eE m ks).map D.str)]
 let M2:aw:=M1++[O.lst ((ks.map dg).map D.str)]
 have g1:M1[μ.length]?=some (.lst ((eE m ks).map D.str)):=aJ;have g2:M2[M1.length]?=some (.lst ((ks.map dg).map D.str)):=aJ
 have s0:fJ (.str (dZ m ks)) [.str "\n"] μ=.ok (.obj μ.length) M1:=by
  unfold fJ;dsimp only;rw[sj,Gq ⟨by decide +kernel,Gz (l8 h).2 bg,Gz (Gz (pQ h) (by decide:16<=1000)) bg⟩]
 have i0:dX (.obj μ.length) (.int 0) M1=.ok (.str (eZ "web " m ks.length)) M1:=il g1 (by
  unfold eE;rw[HF];unfold atI;rw[show qQ (D.str (eZ "web " m ks.length)::(ks.map dg).map D.str).length 0=some 0 from n4 (by decide) (by simp)]
  rfl)
 have n0:aY [.str "web",.int 2,.str (eZ "web " m ks.length)] M1=.ok (.tup [.int m,.int ks.length]) M1:=mf (ll m6 hl)
 have s1:vx (.obj μ.length) (some 1) none M1=.ok (.obj M1.length) M2:=by
  unfold vx;dsimp only;rw[g1];dsimp only;unfold eE;rw[HF,EJ]
 let R:List (List Int)->Option D->Option D->Option D->Ro:=fun dn a b c=>[some (.str (dZ m ks)),some (.obj μ.length),some (.tup [.int m,.int ks.length]),some (.int m),some (.int ks.length),some (.tup (dn.map aA)),a,b,c]
 obtain⟨ρ',μ',⟨dn,r,e1,e2,e3,a',b',c',e4⟩,fr⟩:=iM (src:=.eno M1.length ((ks.map dg).map D.str)) (g:=du 2 (aU (ak 6) (aU (ak 7) (dv)))) (fb:=fB)
  (fun xs ρ μ'=>∃dn r,ks=dn++r/\xs=fG dn.length ((r.map dg).map D.str)/\μ'=M2/\∃a b c,ρ=R dn a b c)
  (fun ρ μ' ⟨dn,r,e1,e2,e3,_⟩=>by subst e3;exact g2)
  (fun x q ρ μ' ⟨dn, r, e1, e2, e3, a, b, c, e4⟩ => by
   subst e3 e4;cases r with
   |nil=>cases e2
   |cons k r=>
    have gp:GW m (dn++[k]):=Da (r:=r) (by rw[HK];rw[e1]at h;exact h);have hdl:dn.length<ks.length:=by rw[e1];simp
    obtain⟨u,v,rfl,h1,h2,h3⟩:=h.2.2.2.2 k (by rw[e1];simp);simp only[HF,fG]at e2;injection e2 with ex eq
    subst ex;have nb:aY [.str "tie",.int 2,.str (dg [u,v])] M2=.ok (.tup [.int u,.int v]) M2:=mf (lp (a:=u) (b:=v) h1 (by omega) (by omega) (by omega))
    have at1:cm (.tup (dn.map aA)) (.tup [.tup [.int u,.int v]]) M2=.ok (.tup ((dn++[[u,v]]).map aA)) M2:=by
     rw[Al (by simp;omega),IT];rfl
    have it:fD [.int m,.tup ((dn++[[u,v]]).map aA)] M2=.ok (.bl true) M2:=yU gp;refine⟨g2,R dn (some (.int dn.length)) (some (.str (dg [u,v]))) c,M2,R (dn++[[u,v]]) (some (.int dn.length)) (some (.str (dg [u,v]))) (some (.tup [.int u,.int v])),M2,rfl,?_,dn++[[u,v]],r,by rw[e1];simp,by rw[eq];simp,rfl,_,_,_,rfl⟩;unfold fB;rw[aK,a8];rw[show aH aY (ah (cC (.str "tie")) (ah (cC (.int 2)) (ah (ai 7) aG))) (R dn (some (.int dn.length)) (some (.str (dg [u,v]))) c) M2=aY [.str "tie",.int 2,.str (dg [u,v])] M2 from rfl,nb];rw[ae,show ak 8 (.tup [.int u,.int v]) (R dn (some (.int dn.length)) (some (.str (dg [u,v]))) c) M2=.ok (R dn (some (.int dn.length)) (some (.str (dg [u,v]))) (some (.tup [.int u,.int v]))) M2 from rfl,ae,aC];rw[aK,cu,ik,cS,aL];rw[show ai 6 (R dn (some (.int dn.length)) (some (.str (dg [u,v]))) (some (.tup [.int u,.int v]))) M2=.ok (.int dn.length) M2 from rfl];rw[aa,show ai 4 (R dn (some (.int dn.length)) (some (.str (dg [u,v]))) (some (.tup [.int u,.int v]))) M2=.ok (.int ks.length) M2 from rfl];simp only[aa,gn,HU,Hu,aW];rw[show (((dn.length:Nat):Int) == ((ks.length:Nat):Int))=false from by simp;omega];simp only[HU,Hu];rw[ik,cS,aL];rw[show ai 8 (R dn (some (.int dn.length)) (some (.str (dg [u,v]))) (some (.tup [.int u,.int v]))) M2=.ok (.tup [.int u,.int v]) M2 from rfl];simp only[aa,bh,wN,D.isNon,HU,Hu,aW];rw[gP,jh]
    have ad:aE cm (ai 5) (eH (ah (ai 8) aG)) (R dn (some (.int dn.length)) (some (.str (dg [u,v]))) (some (.tup [.int u,.int v]))) M2=.ok (.tup ((dn++[[u,v]]).map aA)) M2:=by
     rw[aL,show ai 5 (R dn (some (.int dn.length)) (some (.str (dg [u,v]))) (some (.tup [.int u,.int v]))) M2=.ok (.tup (dn.map aA)) M2 from rfl]
     rw[aa,show eH (ah (ai 8) aG) (R dn (some (.int dn.length)) (some (.str (dg [u,v]))) (some (.tup [.int u,.int v]))) M2=.ok (.tup [.tup [.int u,.int v]]) M2 from by
      rw[fI,aq,show ai 8 (R dn (some (.int dn.length)) (some (.str (dg [u,v]))) (some (.tup [.int u,.int v]))) M2=.ok (.tup [.int u,.int v]) M2 from rfl];simp only[aa,av,HV,ID]
      rw[Gq (Gz (by decide:0+1<=1000) bg)]]
     rw[aa,at1]
    rw[az,aq,show ai 3 (R dn (some (.int dn.length)) (some (.str (dg [u,v]))) (some (.tup [.int u,.int v]))) M2=.ok (.int m) M2 from rfl];simp only[aa,aq,ad,av,it,fV,Je,ae,HU,Hu,bX,aC,a8]
    rfl)
  (xs:=fG 0 ((ks.map dg).map D.str)) (ρ:=R [] none none none) (μ:=M2) ⟨[],ks,rfl,rfl,rfl,_,_,_,rfl⟩
 subst e3 e4
 have er:r=[]:=by
  cases r with
  |nil=>rfl
  |cons k r=>cases e2
 subst er;rw[G8]at e1;subst e1;unfold fM;rw[d5,show (some (D.str (dZ m ks))::List.replicate (9-1) none:Ro)=[some (D.str (dZ m ks)),none,none,none,none,none,none,none,none] from rfl];simp only[mC];rw[aK,cu];rw[show fH (jA (qS (ff "str") (ai 0))) [some (D.str (dZ m ks)),none,none,none,none,none,none,none,none] μ=.ok false μ from rfl];simp only[ae,HU,Hu,bX,aC];rw[aK,a8];rw[show lF fJ (ai 0) (ah (cC (D.str "\n")) aG) [some (D.str (dZ m ks)),none,none,none,none,none,none,none,none] μ=.ok (.obj μ.length) M1 from s0];simp only[ae,bD,aC,Kk,Kl];rw[aK,a8];simp only[az,aq,av,bh,aL,ao,ag,aa,i0,n0,ae,bD,aC,Kk,Kl];rw[aK,cu];simp only[ik,cS,aL,ao,ag,bh,aa,wN,D.isNon,HU,Hu,aW,gP,jh,az,aq,av,eP,y0 m0 m6,fV,Je,ae,bX,aC];rw[aK,a8];rw[show ∀r9:List (Option D),(ai 2 (some (D.str (dZ m ks))::some (.obj μ.length)::some (.tup [.int m,.int ks.length])::none::none::r9) M1).bindS (fun d μ1=>(du 2 (aU (ak 3) (aU (ak 4) dv)) d (some (D.str (dZ m ks))::some (.obj μ.length)::some (.tup [.int m,.int ks.length])::none::none::r9) μ1).bindS fun ρ' μ2=>SO.next ρ' μ2)=SO.next (some (D.str (dZ m ks))::some (.obj μ.length)::some (.tup [.int m,.int ks.length])::some (.int m)::some (.int ks.length)::r9) M1 from fun _=>rfl];rw[aC,aK,a8];simp only[fI,av,aa,ID];rw[Gq (Ig _)];simp only[ae,bD,aC,Kk,Kl];rw[aK,jj];simp only[gR,aq,av,sG,ao,ag,bh,jO,rp,n6,aa,s1];rw[show m8 [.obj M1.length] M2=.ok (.eno M1.length ((ks.map dg).map D.str)) M2 from by unfold m8;dsimp only;rw[g2]];simp only[ae];rw[show (kT.eno M1.length ((ks.map dg).map D.str)).items=fG 0 ((ks.map dg).map D.str) from rfl];rw[show hX (.eno M1.length ((ks.map dg).map D.str)) (du 2 (aU (ak 6) (aU (ak 7) dv))) fB (fG 0 ((ks.map dg).map D.str)) [some (D.str (dZ m ks)),some (.obj μ.length),some (.tup [.int m,.int ks.length]),some (.int m),some (.int ks.length),some (.tup []),none,none,none] M2=.next (R ks a' b' c') M2 from fr];rw[aC,aK,cu,cS,aL]
 rw[show aH gk (ah (ai 5) aG) (R ks a' b' c') M2=.ok (.int ks.length) M2 from by
  rw[az,aq,show ai 5 (R ks a' b' c') M2=.ok (.tup (ks.map aA)) M2 from rfl]
  simp only[aa,av,iO,Hm]]
 rw[aa,show ai 4 (R ks a' b' c') M2=.ok (.int ks.length) M2 from rfl,aa,dC];rw[show dY .Lt ((ks.length:Nat):Int) ((ks.length:Nat):Int)=false from Gm (by omega)];simp only[aa,aW,ae,HU,Hu,bX,aC]
 rw[bb,show eH (ah (ai 3) (ah (ai 5) aG)) (R ks a' b' c') M2=.ok (ck m ks) M2 from by
  rw[fI,aq,show ai 3 (R ks a' b' c') M2=.ok (.int m) M2 from rfl,aa,aq,show ai 5 (R ks a' b' c') M2=.ok (.tup (ks.map aA)) M2 from rfl];simp only[aa,av,HV,ID]
  rw[Gq (Gz (by decide:0+1+1<=1000) bg)]]
 simp only[ae,aO];simp only[M2,M1,HK];exact d3 (eV h)
end
end Lw
namespace Lw
open PySem L2 RS Lv
theorem xa{μ:aw}{m:Nat}{ks:List (List Int)}(h:GW m ks):dy [ck m ks,ck m ks] μ=.ok (.bl true) μ:=by
 have hl:=bQ h;have tu:bu [.tup (ks.map aA),.tup (ks.map aA)] μ=.ok (.bl true) μ:=uu (fun k hk=>by obtain⟨a,b,rfl,_⟩:=h.2.2.2.2 k hk;simp) (by omega);have ln:lh true (.int (([.int (m:Int),.tup (ks.map aA)]:List D).length:Int)) (.int 2) μ=.ok (.bl false) μ:=rfl;unfold dy;rw[dH];simp only[jc,List.replicate];rw[aK,cu];simp only[ik,gP,jh,kF,aL,cS,az,aq,av,bh,ao,ag,aa,wI,fV,Je,HU,Hu,iO,ln,aW,eP,wk];simp only[aa,fV,Je,HU,Hu,J2 (yJ h) (yK h),aW,ae,bX,aC,bb,az,aq,av,aL,bh,ao,ag,gQ,tu,aO];exact bW (by simp)
theorem wX{M:aw}{T i:Nat}{ps:List (Int×Int)}{o:Option D}(hT:M[T]?=some (.lst (ps.map eY)))(hi:i<6)(hl:ps.length<=1000) :
  cQ [some (.int 6),some (.obj T),some (.int i)] M=.next [some (.int 6),some (.obj T),some (.int i)] ((M++[O.lst (((List.range i).map fun k:Nat=>((k:Int),(i:Int))).map eY)]).set T (.lst ((ps++(List.range i).map fun k:Nat=>((k:Int),(i:Int))).map eY))):=by
 have hTl:T<M.length:=(GI.mp hT).1
 have cr:=yc (μ1:=M) (e:=eC) (rest:=[some (.int i)]) (f:=fun v=>(v,(i:Int))) (lo:=0) (n:=i) (by omega) (fun v a=>by
  unfold eC;rw[fI,aq,ag,aa,aq];simp only[ao,ag,aa,av,HV,ID];rw[Gq (Gz (by decide:0+1+1<=1000) bg)]
  rfl)
 simp only[Int.zero_add]at cr;unfold cQ;rw[jM,pC];simp only[ao,ag,aa];rw[show vD (.obj T) M=true from by unfold vD;dsimp only;rw[hT]];simp only[Hv,aq,av,bY,gR,ao,ag,aa]
 rw[show jy [.int (i:Int)] M=.ok (.fix (bV 0 i)) M from by
  unfold jy;dsimp only;rw[Gq ⟨by omega,by omega⟩]
  rfl]
 simp only[aa,bo];rw[show gL [none,some 2] [some (D.int 6),some (.obj T),some (.int i)]=[none,some (.int i)] from rfl,cr];simp only[aa];rw[qk (bN hT) aJ (by simp only[Hm,IC];omega)];simp only[ae,IT]
theorem yV{μ:aw}:∃ks,GW 6 ks/\bK [.int 6] μ=.ok (ck 6 ks) μ:=by
 obtain⟨ρ',M',⟨i,ps,G,e1,e2,e3,e4,e5,o,e6⟩,fr⟩:=iM (src:=.fix (bV 0 6)) (g:=ak 2) (fb:=cQ)
  (fun xs ρ M=>∃(i:Nat)(ps:List (Int×Int))(G:aw),i<=6/\xs=bV i (6-i)/\M=μ++O.lst (ps.map eY)::G/\ps.length<=i*6/\(∀p∈ps,PP 6 p)/\∃o,ρ=[some (.int 6),some (.obj μ.length),o])
  (fun ρ M _=>trivial)
  (fun x r ρ M ⟨i, ps, G, e1, e2, e3, e4, e5, o, e6⟩ => by
   subst e3 e6
   have hi:i<6:=by
    by_cases z:i<6
    ·exact z
    ·rw[show 6-i=0 from by omega,kh]at e2;cases e2
   rw[show 6-i=(6-(i+1))+1 from by omega,iU]at e2;injection e2 with ex er
   subst ex;have tr:=wX (M:=μ++O.lst (ps.map eY)::G) (T:=μ.length) (i:=i) (ps:=ps) (o:=none) aJ hi (by omega);refine⟨trivial,_,_,_,_,rfl,tr,i+1,ps++(List.range i).map (fun k:Nat=>((k:Int),(i:Int))),G++[O.lst (((List.range i).map fun k:Nat=>((k:Int),(i:Int))).map eY)],by omega,by rw[er];simp,?_,?_,?_,_,rfl⟩
   ·rw[HK,IF,J9 _ _ (G0 _),Ja,Kl]
   ·rw[Hl,Hm,IC];omega
   ·intro p hp;rcases GG.mp hp with hp|hp
    ·exact e5 p hp
    ·obtain ⟨k, hk, rfl⟩ := IJ.mp hp;have hk:=Gy.mp hk
     refine⟨⟨?_,?_⟩,⟨?_,?_⟩,?_⟩ <;> dsimp only <;> omega)
  (xs:=bV 0 6) (ρ:=[some (.int 6),some (.obj μ.length),none]) (μ:=μ++[O.lst []]) ⟨0,[],[],by omega,rfl,rfl,by simp,by simp,_,rfl⟩
 subst e3 e6;have hg:=jL (m:=6) (ps:=ps) (by decide) (by decide) e5;have wo:=iT (μ:=μ++O.lst (ps.map eY)::G) (m:=6) (t:=μ.length) (ps:=ps) (by decide) (by decide) (by omega) aJ e5;refine⟨_,hg,?_⟩;unfold bK;rw[d5,show (some (D.int 6)::List.replicate (3-1) none:Ro)=[some (D.int 6),none,none] from rfl];simp only[hU];rw[aK,a8,ji,av,aa,ID,Gq (Ig _)];simp only[ae,bD,aC,Kk,Kl];rw[aK,jj];simp only[gR,aq,av,ag,aa];rw[show jy [.int 6] (μ++[O.lst []])=.ok (.fix (bV 0 6)) (μ++[O.lst []]) from rfl];simp only[ae,bo,fr,aC,bb,az,aq,av,ag,ao,aa];rw[show aT [.int 6,.obj μ.length] (μ++O.lst (ps.map eY)::G)=_ from wo];simp only[ae,aO];exact d3 (eV hg)
theorem y3{μ:aw}{ns:List Int}:∃x:Int,cZ [.frz (ns.map D.int),.int 0] μ=.ok (.int x) μ:=by
 unfold cZ;rw[dH];cases ns with
 |nil=>
  refine⟨0,?_⟩;simp only[fP,HE,List.replicate,aK,cu,cS,aL,ao,ag,az,aq,av,tO,ID,aa,ab,dC];rw[show dY .Lt 0 ((0:Nat):Int)=false from rfl];simp only[aW,ae,ab,HU,Hu,bX,aC,bb,bh,aO];exact bW (by simp)
 |cons x r=>
  refine⟨x,?_⟩;simp only[fP,HF,List.replicate,aK,cu,cS,aL,ao,ag,az,aq,av,tO,HV,aa,ab,dC];rw[show dY .Lt 0 (((r.map D.int).length+1:Nat):Int)=true from HQ (by omega)];simp only[aW,ae,Hv,bb,aL,ao,ag,aa,ab];rw[Dg sL];simp only[ae,ab,rh,aO];exact bW (by simp)
def Wb(d:D):Prop:=∃m ks,d=ck m ks/\GW m ks
theorem Do{M:aw}{n:Nat}{xs:List D}{d:D}(h:M[n]?=some (.lst xs))(hl:xs.length<=1000):fw (.obj n) [d] M=.ok .non (M.set n (.lst (xs++[d]))):=by
 unfold fw;dsimp only;rw[h];dsimp only;rw[Gq (Gu (show xs.length<1001 by omega) (by decide))]
theorem CU{M:aw}{x:Int}{ws:List D}{o0 o3 o4 o5:Option D}(h0:M[0]?=some (.lst ws))(hl:ws.length<=1000) :
  ∃w pn,Wb w/\lA [o0,some (.obj 0),some (.int x),o3,o4,o5] M=.next [o0,some (.obj 0),some (.int x),o3,o4,o5] ((M++[pn]).set 0 (.lst (ws++[w]))):=by
 obtain⟨a,b,c,ep⟩:=BL (μ:=M) x;obtain⟨m,ks,a',b',c',h,ea⟩:=BN (μ:=M++[dj a b c]) (i:=M.length) aJ;rw[J9 _ _ (G0 _),Ja,Kl]at ea;refine⟨ck m ks,dj a' b' c',⟨m,ks,rfl,h⟩,?_⟩;unfold lA;rw[jM,pC];simp only[ao,ag,aa];rw[show vD (.obj 0) M=true from by unfold vD;dsimp only;rw[h0]];simp only[Hv,aq,az,av,ao,ag,bh,aa,ep,ea];rw[Do (bN h0) hl];simp only[ae]
theorem CT{M:aw}{w:D}{o0 o2 o4 o5:Option D}(h:Wb w):∃t,lz [o0,some (.obj 0),o2,some w,o4,o5] M=.next [o0,some (.obj 0),o2,some w,t,t] M:=by
 obtain⟨m,ks,rfl,h⟩:=h;refine⟨some (.str (dZ m ks)),?_⟩;unfold lz;rw[aK,a8];simp only[az,aq,av,ao,ag,aa,yW h,ae,bD,aC,Kk,Kl];rw[aK,a8];simp only[az,aq,av,ao,ag,aa,xb h,ae,bD,aC,Kk,Kl];rw[cu];simp only[ik,gP,jh,kF,cS,aL,az,aq,av,ao,ag,aa];rw[show ff "str" (.str (dZ m ks)) M=.ok (.bl true) M from rfl];simp only[aa,fV,Je,HU,Hu,eq_str,decide_true,Hv,aW,yX h,xa h,ae,bX]
theorem wJ{m:Nat}(h0:1<=m)(h:m<=6):GW m []:=⟨rfl,by omega,by omega,.nil,fun k hk=>by cases hk⟩
theorem BM(ns:List Int):∃μ',pI [.frz (ns.map D.int)] []=.ok (.bl true) μ':=by
 obtain⟨ks,hg,et⟩:=yV (μ:=[]);let w0:List D:=[ck 1 [],ck 6 [],ck 6 ks]
 let M0:aw:=[O.lst w0]
 obtain⟨x0,ex0⟩:=y3 (μ:=M0) (ns:=ns)
 obtain⟨xs,hxs,hxl⟩:∃xs:List Int,lE (ns.map D.int) (some 1) (some 8)=xs.map D.int/\xs.length<=8:=by
  refine⟨(ns.drop (HT.sIx ns.length 0 (some 1))).take (HT.sIx ns.length ns.length (some 8)-HT.sIx ns.length 0 (some 1)),?_,?_⟩
  ·unfold lE;rw[Hm,IU,IV]
  ·rw[Hf];have h6:HT.sIx ns.length ns.length (some 8)=min 8 ns.length:=HT.sIx_nat _ _ 8;omega
 obtain⟨L,hL⟩:∃L:List Int,L=x0::xs:=⟨_,rfl⟩;have hLl:L.length<=9:=by rw[hL];simp;omega
 let M3:aw:=M0++[O.lst [.int x0]]++[O.lst (xs.map D.int)]++[O.lst (L.map D.int)]
 have h3:M3[3]?=some (.lst (L.map D.int)):=rfl;have h0:M3[0]?=some (.lst w0):=rfl
 obtain⟨ρ4,M4,⟨ws,k1,k2,k3,rs,k4,k5,o2,k6⟩,run1⟩:=iM (src:=.own 3 (L.map D.int)) (g:=ak 2) (fb:=lA)
  (fun zs ρ M=>∃ws:List D,M[3]?=some (O.lst (L.map D.int))/\M[0]?=some (.lst ws)/\(∀w∈ws,Wb w)/\∃rs:List Int,zs=rs.map D.int/\ws.length+rs.length<=20/\∃o2,ρ=[some (.frz (ns.map D.int)),some (.obj 0),o2,none,none,none])
  (fun ρ M ⟨ws,k1,_⟩=>k1)
  (fun x r ρ M ⟨ws, k1, k2, k3, rs, k4, k5, o2, k6⟩ => by
   subst k6;cases rs with
   |nil=>cases k4
   |cons y rs=>
    injection k4 with ex er
    subst ex er;simp only[HV]at k5;obtain⟨w,pn,hw,e⟩:=CU (M:=M) (x:=y) (o0:=some (.frz (ns.map D.int))) (o3:=none) (o4:=none) (o5:=none) k2 (by omega);refine⟨k1,_,_,_,_,rfl,e,ws++[w],?_,?_,?_,rs,rfl,?_,_,rfl⟩
    ·rw[GL (by decide)];exact bN k1
    ·have : 0 < (M ++ [pn]).length := by simp
     rw[GK this]
    ·intro v hv;rcases GG.mp hv with hv|hv
     ·exact k3 v hv
     ·rw[Ih.mp hv];exact hw
    ·rw[Hl];simp only[HV,ID];omega)
  (xs:=L.map D.int) (ρ:=[some (.frz (ns.map D.int)),some (.obj 0),none,none,none,none]) (μ:=M3)
  ⟨w0, h3, h0, fun w hw => by
   simp only[w0,GE,Iq,Ir]at hw;rcases hw with rfl|rfl|rfl
   ·exact⟨1,[],rfl,wJ (by decide) (by decide)⟩
   ·exact⟨6,[],rfl,wJ (by decide) (by decide)⟩
   ·exact⟨6,ks,rfl,hg⟩,L,rfl,by show 3+L.length<=20;omega,_,rfl⟩
 subst k6
 obtain⟨ρ5,M5,_,run2⟩:=iM (src:=.own 0 ws) (g:=ak 3) (fb:=lz)
  (fun zs ρ M=>M[0]?=some (.lst ws)/\(∀w∈zs,Wb w)/\∃o0 o2 o3 o4 o5,ρ=[o0,some (.obj 0),o2,o3,o4,o5])
  (fun ρ M k=>by obtain⟨k,_⟩:=k;exact k)
  (fun x r ρ M ⟨k1, k2, o0, o2, o3, o4, o5, k3⟩ => by
   subst k3;obtain⟨t,e⟩:=CT (M:=M) (w:=x) (o0:=o0) (o2:=o2) (o4:=o4) (o5:=o5) (k2 x GC)
   exact⟨k1,_,M,_,M,rfl,e,k1,fun w hw=>k2 w (GD _ hw),_,_,_,_,_,rfl⟩)
  (xs:=ws) (ρ:=[some (.frz (ns.map D.int)),some (.obj 0),o2,none,none,none]) (μ:=M4) ⟨k2,k3,_,_,_,_,_,rfl⟩
 have hend:∃μ',mY [] (.ok (.bl true) M5)=.ok (.bl true) μ':=by
  rcases Dc (μ:=[]) (d:=.bl true) (μ':=M5) with e|⟨e,_⟩ <;> exact⟨_,e⟩
 obtain⟨μ',hend⟩:=hend;refine⟨μ',?_⟩;have l1':([.int x0]:List D).length<=sizeLine:=by show 1<=sizeLine;decide
 have sl:∀μ,vx (.frz (ns.map D.int)) (some 1) (some 8) μ=.ok (.obj μ.length) (μ++[.lst (xs.map D.int)]):=fun μ=>by
  unfold vx;dsimp only;rw[hxs]
 have ad:cm (.obj 1) (.obj 2) (M0++[O.lst [.int x0]]++[O.lst (xs.map D.int)])=.ok (.obj 3) M3:=by
  have:=oz (μ:=M0++[O.lst [.int x0]]++[O.lst (xs.map D.int)]) (a:=1) (b:=2) rfl rfl (show ([.int x0]:List D).length+(xs.map D.int).length<=1000000 by rw[Hm];simp only[HV,ID];omega);rw[this];simp only[M3,hL];rfl
 unfold pI;rw[d5,show (some (D.frz (ns.map D.int))::List.replicate (6-1) none:Ro)=[some (D.frz (ns.map D.int)),none,none,none,none,none] from rfl];unfold AZ;rw[aK,a8]
 rw[show lG (ah (eH (ah (cC (.int 1)) (ah (eH aG) aG))) (ah (eH (ah (cC (.int 6)) (ah (eH aG) aG))) (ah (aH bK (ah (cC (.int 6)) aG)) aG))) [some (D.frz (ns.map D.int)),none,none,none,none,none] []=.ok (.obj 0) M0 from by
  have c1:∀(k:Int)(ρ:Ro),eH (ah (cC (.int k)) (ah (eH aG) aG)) ρ []=.ok (.tup [.int k,.tup []]) []:=fun _ _=>by
   simp only[fI,aq,av,bh,aa,ID,HV];rw[Gq (Ig _)];simp only[aa];rw[Gq (show ([D.int _,D.tup []]:List D).length<=sizeLine from Gz (by decide:2<=1000) bg)]
  rw[ji,aq,c1,aa,aq,c1,aa];simp only[aq,az,bh,av,aa,et,HV,ID];rw[Gq (Gz (by decide:0+1+1+1<=1000) bg)]
  rfl]
 simp only[ae,bD,aC,Kk,Kl];rw[aK,jj,cv,aL,ji,aq,az,aq,ag,aa,aq,bh,aa,av,aa,aa,aa,ex0,aa,av,aa,aa];simp only[Gq l1',aa,sG,ag,jO,bh,n6];rw[sl,aa];rw[show cm (.obj M0.length) (.obj (M0++[O.lst [.int x0]]).length) (M0++[O.lst [.int x0]]++[O.lst (xs.map D.int)])=_ from ad];rw[aa,gO h3,ae,eJ,run1,aC,aK,jj,cv,ao,ag,aa,gO k2,ae,eJ,run2,aC,bb,bh,ae,aO];exact hend
end Lw
namespace Lw
open PySem PySem.Spec PyProof.Rows L2 RS
theorem bU(P:Params)(f:Addr)(n m:Str)(t:Tok)(c:Addr)(st:Stmt)(l:(Kz P).lookup f=some (fo n st m t c))(q:W.codeIn (Kz P) (.ref c) n=true):gh (Kz P) n n st f (W.fnOf n n (c5 st) (bP st) (ar st) .none .none .none (.str m t) none (.ref c) .none):=Dd l q (by unfold W.keepIn;dsimp only;rw[l];rfl)
theorem Dp {l:W.OpenLaw}{w:World}{h:Heap}{mg:Str->Option Value}{fa:Addr} (X:(Kz w.params).In h) (G:h.Ns mainGlobals mg) (hfa:mg "law" = some (.ref fa)) :
  ∃fd:FuncData,(∀(s:Shared) (v:Value),BindsTo s fd ⟨[v],[]⟩ [("_law_script",v)])/\∀base:Heap,(Kz w.params).In base->base.Ns mainGlobals mg->mQ l.prog w (Kz w.params) mg base vC 9 fa fd ["_law_script"] (Ao (dA (Kz w.params) w) 1 pI):=by
 have e:=hfa.symm.trans (W.mg_of X G (v:=.ref 214) (by kernel_rfl));cases e;have nm:Nm mg:=⟨W.mg_none_of X G (by kernel_rfl),W.mg_none_of X G (by kernel_rfl),W.mg_none_of X G (by kernel_rfl),W.mg_none_of X G (by kernel_rfl),W.mg_none_of X G (by kernel_rfl),W.mg_none_of X G (by kernel_rfl),W.mg_none_of X G (by kernel_rfl),W.mg_none_of X G (by kernel_rfl),W.mg_none_of X G (by kernel_rfl),W.mg_none_of X G (by kernel_rfl),W.mg_none_of X G (by kernel_rfl),W.mg_none_of X G (by kernel_rfl),W.mg_none_of X G (by kernel_rfl),W.mg_none_of X G (by kernel_rfl)⟩;have c_MOST_PLACES:=W.mg_of X G (n:="MOST_PLACES") (v:=(.int 6 272)) (by kernel_rfl);have c_FIGURES:=W.mg_of X G (n:="FIGURES") (v:=(.str "0123456789" 305)) (by kernel_rfl);have c_MOST_FIGURES:=W.mg_of X G (n:="MOST_FIGURES") (v:=(.int 20 307)) (by kernel_rfl);have F:=bU w.params 214 "law" "law_rootwebs_k70_webs_written" 342 213 jg (by kernel_rfl) (by kernel_rfl);refine⟨W.fnOf "law" "law" (c5 jg) (bP jg) (ar jg) .none .none .none (.str "law_rootwebs_k70_webs_written" 342) none (.ref 213) .none,fun s v=>.of_eq rfl,fun base Xb Gb=>?_⟩;have d_is_whole:=qC (P:=l.prog) (w:=w) (base:=base)  nm (bU w.params 53 "is_whole" "rootwebs.kinds" 232 52 fY (by kernel_rfl) (by kernel_rfl)) (W.mg_of X G (by kernel_rfl));have d_is_whole_from:=kx (P:=l.prog) (w:=w) (base:=base)  nm (bU w.params 60 "is_whole_from" "rootwebs.kinds" 232 59 c6 (by kernel_rfl) (by kernel_rfl)) (W.mg_of X G (by kernel_rfl)) d_is_whole;have d_is_place:=qD (P:=l.prog) (w:=w) (base:=base)  nm (bU w.params 67 "is_place" "rootwebs.kinds" 232 66 fZ (by kernel_rfl) (by kernel_rfl)) (W.mg_of X G (by kernel_rfl)) d_is_whole_from;have d_is_places:=oJ (P:=l.prog) (w:=w) (base:=base)  nm (bU w.params 72 "is_places" "rootwebs.kinds" 232 71 d8 (by kernel_rfl) (by kernel_rfl)) (W.mg_of X G (by kernel_rfl)) d_is_place;have d_is_rising:=oI (P:=l.prog) (w:=w) (base:=base)  nm (bU w.params 77 "is_rising" "rootwebs.kinds" 232 76 d7 (by kernel_rfl) (by kernel_rfl)) (W.mg_of X G (by kernel_rfl));have d_is_many:=rZ (P:=l.prog) (w:=w) (base:=base)  nm (bU w.params 84 "is_many" "rootwebs.webs" 270 83 gW (by kernel_rfl) (by kernel_rfl)) (W.mg_of X G (by kernel_rfl)) ⟨_,c_MOST_PLACES⟩ d_is_whole_from;have d_is_pair:=rY (P:=l.prog) (w:=w) (base:=base)  nm (bU w.params 103 "is_pair" "rootwebs.webs" 270 102 gU (by kernel_rfl) (by kernel_rfl)) (W.mg_of X G (by kernel_rfl)) d_is_places;have d_is_tie:=uM (P:=l.prog) (w:=w) (base:=base)  nm (bU w.params 96 "is_tie" "rootwebs.webs" 270 95 iS (by kernel_rfl) (by kernel_rfl)) (W.mg_of X G (by kernel_rfl)) d_is_pair;have d_is_ties:=rX (P:=l.prog) (w:=w) (base:=base)  nm (bU w.params 89 "is_ties" "rootwebs.webs" 270 88 fL (by kernel_rfl) (by kernel_rfl)) (W.mg_of X G (by kernel_rfl)) d_is_tie d_is_rising;have d_is_number:=oK (P:=l.prog) (w:=w) (base:=base)  nm (bU w.params 108 "is_number" "rootwebs.texts" 303 107 d9 (by kernel_rfl) (by kernel_rfl)) (W.mg_of X G (by kernel_rfl)) ⟨_,c_FIGURES⟩ ⟨_,c_MOST_FIGURES⟩;have d_numbers_behind:=jZ (P:=l.prog) (w:=w) (base:=base)  nm (bU w.params 113 "numbers_behind" "rootwebs.texts" 303 112 bt (by kernel_rfl) (by kernel_rfl)) (W.mg_of X G (by kernel_rfl)) d_is_number;have d_web_shown:=oH (P:=l.prog) (w:=w) (base:=base)  nm (bU w.params 118 "web_shown" "rootwebs.texts" 303 117 d6 (by kernel_rfl) (by kernel_rfl)) (W.mg_of X G (by kernel_rfl));have d_web_read:=qB (P:=l.prog) (w:=w) (base:=base)  nm (bU w.params 125 "web_read" "rootwebs.texts" 303 124 fX (by kernel_rfl) (by kernel_rfl)) (W.mg_of X G (by kernel_rfl)) d_numbers_behind d_is_many d_is_ties;have d__law_cell_at:=la (P:=l.prog) (w:=w) (base:=base)  nm (bU w.params 132 "_law_cell_at" "law_rootwebs_k70_webs_written" 342 131 dD (by kernel_rfl) (by kernel_rfl)) (W.mg_of X G (by kernel_rfl));have d__law_next:=oM (P:=l.prog) (w:=w) (base:=base)  nm (bU w.params 139 "_law_next" "law_rootwebs_k70_webs_written" 342 138 fy (by kernel_rfl) (by kernel_rfl)) (W.mg_of X G (by kernel_rfl));have d__law_pen_of:=mI (P:=l.prog) (w:=w) (base:=base)  nm (bU w.params 146 "_law_pen_of" "law_rootwebs_k70_webs_written" 342 145 eA (by kernel_rfl) (by kernel_rfl)) (W.mg_of X G (by kernel_rfl));have d__law_draw:=oN (P:=l.prog) (w:=w) (base:=base)  nm (bU w.params 153 "_law_draw" "law_rootwebs_k70_webs_written" 342 152 fA (by kernel_rfl) (by kernel_rfl)) (W.mg_of X G (by kernel_rfl)) d__law_next;have d__law_whole:=mV (P:=l.prog) (w:=w) (base:=base)  nm (bU w.params 160 "_law_whole" "law_rootwebs_k70_webs_written" 342 159 eR (by kernel_rfl) (by kernel_rfl)) (W.mg_of X G (by kernel_rfl));have d__law_web_of:=mG (P:=l.prog) (w:=w) (base:=base)  nm (bU w.params 165 "_law_web_of" "law_rootwebs_k70_webs_written" 342 164 cW (by kernel_rfl) (by kernel_rfl)) (W.mg_of X G (by kernel_rfl));have d__law_drawn_web:=j3 (P:=l.prog) (w:=w) (base:=base)  nm (bU w.params 170 "_law_drawn_web" "law_rootwebs_k70_webs_written" 342 169 bS (by kernel_rfl) (by kernel_rfl)) (W.mg_of X G (by kernel_rfl)) d__law_draw d__law_web_of;have d__law_near_of:=k9 (P:=l.prog) (w:=w) (base:=base)  nm (bU w.params 175 "_law_near_of" "law_rootwebs_k70_webs_written" 342 174 cH (by kernel_rfl) (by kernel_rfl)) (W.mg_of X G (by kernel_rfl));have d__law_two_step:=ky (P:=l.prog) (w:=w) (base:=base)  nm (bU w.params 180 "_law_two_step" "law_rootwebs_k70_webs_written" 342 179 cb (by kernel_rfl) (by kernel_rfl)) (W.mg_of X G (by kernel_rfl)) d__law_near_of d__law_web_of;have d__law_any_web:=lb (P:=l.prog) (w:=w) (base:=base)  nm (bU w.params 185 "_law_any_web" "law_rootwebs_k70_webs_written" 342 184 cI (by kernel_rfl) (by kernel_rfl)) (W.mg_of X G (by kernel_rfl)) d__law_drawn_web d__law_draw d__law_two_step d__law_web_of;have d__law_all_tied:=kz (P:=l.prog) (w:=w) (base:=base)  nm (bU w.params 190 "_law_all_tied" "law_rootwebs_k70_webs_written" 342 189 cf (by kernel_rfl) (by kernel_rfl)) (W.mg_of X G (by kernel_rfl)) d__law_web_of;have d__law_tuples_are:=jt (P:=l.prog) (w:=w) (base:=base)  nm (bU w.params 195 "_law_tuples_are" "law_rootwebs_k70_webs_written" 342 194 bG (by kernel_rfl) (by kernel_rfl)) (W.mg_of X G (by kernel_rfl)) d__law_whole;have d__law_web_is:=mH (P:=l.prog) (w:=w) (base:=base)  nm (bU w.params 202 "_law_web_is" "law_rootwebs_k70_webs_written" 342 201 ef (by kernel_rfl) (by kernel_rfl)) (W.mg_of X G (by kernel_rfl)) d__law_whole d__law_tuples_are;have d__law_text_of:=k8 (P:=l.prog) (w:=w) (base:=base)  nm (bU w.params 207 "_law_text_of" "law_rootwebs_k70_webs_written" 342 206 cG (by kernel_rfl) (by kernel_rfl)) (W.mg_of X G (by kernel_rfl));exact De nm F d__law_all_tied d__law_cell_at d__law_any_web d__law_pen_of d__law_text_of d_web_shown d__law_web_is d_web_read
theorem Fo {l:W.OpenLaw}{q:Program}{loose:List Str}{XP:(Str->Option Value)->Heap->Prop}{d:DefRec} (hn:l.most=some 63) (hdf:d.params.defaults=[]) (hd:d.name = "law") :
  W.WalkO q loose XP (W.Hook.says Hz) l.row.toRowW d [] (fun f vs=>PySem.call f vs):=
 L2.walk_of (K:=Kz) (n:=63) (k:=9) (x:="_law_script") (CX:=fun _=>vC) (sp:=fun w=>Ao (dA (Kz w.params) w) 1 pI) hn (by decide) hdf ⟨rfl,by decide,by decide,rfl⟩ (fun _ _ Y=>W.kIn_of Y) (fun _ _ _ _ X G e=>Dp X G (hd ▸ e)) (fun w H a ns hl hO hS=>xV (BM ns) hO hS) fun _ _ _ _ _ z=>z
end Lw
open PySem PySem.W PyProof.Rows Lw
set_option maxRecDepth 100000 in
set_option maxHeartbeats 0 in
theorem PySem.Challenge.cw_rootwebs_k70_webs_written_holds : PySem.Challenge.rw_rootwebs_k70_webs_written.Holds := by
 w_on;refine holds_law Bl fun said=>?_
 exact holds_open (Xt:=Xz) (XP:=XL Qz []) (YP:=Hook.says Hz) Bm (Hook.of Hz) (Hook.keeps Hz) (fun s e=>xl_of s (Bool.and_eq_true_iff.mp e).1) XL.keeps (by rfl) (by rfl) (by rfl) (fun s e=>recFacts_of (Bool.and_eq_true_iff.mp e).2) (by rfl) said (by decide +kernel) ⟨rfl,rfl,rfl,rfl,rfl,by decide +kernel⟩ (by w_witness2) (Fo rfl rfl rfl)
