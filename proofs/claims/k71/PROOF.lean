import PyProof.Rows.All
import Wide.All
import OpenK.AllK
import Wide.FinOn
import PyProof.EqAt
import PyProof.EqKinds
import PyProof.TupleCall
import PyProof.P3In
import PyProof.NeData
import PyProof.ConsumeS
import PyProof.WalksMore
import PyProof.ReprRoads
import PyProof.ReprLen
import PyProof.Draws
import PyProof.EnumMake
import PyProof.EnumFor
import PyProof.CallFns
import PyProof.Rows.CallKwBuiltin
import Lean
import KE.KIntText
import PyProof.FString
import PyProof.StrWalks
import PyProof.MeetsStr
import PyProof.StrBlockG
import PyProof.StrCalls6
import PyProof.StrOps2
import PyProof.StrCalls3
import PyProof.ListStr
import PyProof.StrLawsTight
import KE.IntTextLaws
import PyProof.StrLawsIn
import PyProof.StrLawsReplace
import PySem.Challenge.RW_rootwebs_k71_texts_that_write_none
set_option Elab.async false
set_option compiler.extract_closed false
set_option linter.all false
set_option maxHeartbeats 1000000
set_option maxHeartbeats 2000000
set_option maxHeartbeats 400000
set_option maxHeartbeats 4000000
set_option maxRecDepth 100000
noncomputable section
abbrev Ou:=@Option.some.inj
abbrev Ov:=@PySem.Value.isInt_shape
abbrev Ow:=@decide_eq_false
abbrev Ox:=@beq_eq_false_iff_ne
abbrev Oy:=@PySem.wpAny_eqBool_int
abbrev OA:=@if_pos
abbrev OB:=@if_neg
abbrev OC:=@PySem.Heap.lt_size
abbrev OD:=@Nat.lt_of_lt_of_le
abbrev OE:=@Nat.lt_irrefl
abbrev OF:=@Nat.ne_of_lt
abbrev OG:=@List.mem_filter
abbrev OH:=@List.mem_range
abbrev OI:=@Nat.le_trans
abbrev OJ:=@Nat.le_of_lt
abbrev OK:=@List.filterMap_cons
abbrev OL:=@List.mem_cons_self
abbrev OM:=@List.mem_cons_of_mem
abbrev ON:=@PySem.Heap.get?_none_of_le
abbrev OO:=@List.mem_cons
abbrev OP:=@Ne.symm
abbrev OQ:=@List.mem_append
abbrev OR:=@List.mem_append_left
abbrev OS:=@List.getElem?_eq_some_iff
abbrev OT:=@List.getElem_inj
abbrev OU:=@List.getElem?_set_self
abbrev OV:=@List.getElem?_set_ne
abbrev OW:=@PySem.wpAny_mono
abbrev OX:=@PySem.Calls.Constant_str
abbrev OY:=@PySem.wpAny_truthy_bool
abbrev OZ:=@Array.length_toList
abbrev O0:=@congrArg
abbrev O1:=@PySem.wpAny_execs_nil
abbrev O2:=@PyProof.Rows.assignInOrder_cons
abbrev O3:=@PySem.wpAny_bind
abbrev O4:=@PySem.wpAny_holding
abbrev O5:=@PySem.wpAny_standAt
abbrev O6:=@PySem.wpAny_pure
abbrev O7:=@PySem.wpAny_newObj_type
abbrev O8:=@PySem.Heap.get?_push_of_some
abbrev O9:=@PySem.wpAny_rule
abbrev Pb:=@Nat.ne_of_gt
abbrev Pc:=@PySem.wpAny_load
abbrev Pd:=@Bool.false_and
abbrev Pe:=@PySem.Heap.get?_push_size
abbrev Pf:=@Nat.le_refl
abbrev Pg:=@PyProof.Rows.callWith_type1
abbrev Ph:=@List.mem_filterMap
abbrev Pi:=@List.mem_append_right
abbrev Pj:=@PySem.wpAny_passesOwn
abbrev Pl:=@Bool.eq_iff_iff
abbrev Pm:=@Bool.false_ne_true
abbrev Po:=@PyProof.Rows.eq_str
abbrev Pp:=@PySem.sizeLine_eq
abbrev Pq:=@List.size_toArray
abbrev Pr:=@PyProof.Rows.add_str
abbrev Pt:=@Array.mem_toList_iff
abbrev Pu:=@PySem.Calls.spliced_cons
abbrev Pv:=@List.append_nil
abbrev Pw:=@PySem.wpAny_call
abbrev Px:=@PySem.codeAny_mono
abbrev Py:=@PySem.wpAny_Call_Name_kw
abbrev Pz:=@List.nodup_cons
abbrev PB:=@List.of_mem_zip
abbrev PH:=@Option.isSome_iff_exists
abbrev PL:=@List.length_take
abbrev PM:=@PySem.mem_of_lookup
abbrev PN:=@List.getElem?_append_right
abbrev PQ:=@List.getElem?_replicate
abbrev PR:=@List.getElem?_append_left
abbrev PU:=@List.getElem?_map
abbrev PV:=@List.getElem?_take_of_lt
abbrev PX:=@List.mem_of_getElem?
abbrev PY:=@List.length_append
abbrev PZ:=@List.length_map
abbrev P0:=@List.length_replicate
abbrev P9:=@PySem.noFill_tuple_add
abbrev Qa:=@PySem.F.slot_tuple_add
abbrev Qb:=@PySem.F.entry_tuple_add
abbrev Qc:=@PySem.F.args_tuple_add_2
abbrev Qd:=@Int.toNat_natCast
abbrev Qe:=@Nat.min_le_right
abbrev Qf:=@if_false
abbrev Qg:=@if_true
abbrev Qh:=@PySem.wpAny_field
abbrev Qi:=@List.length_drop
abbrev Qj:=@PySem.wpAny_callSpecial?_slot
abbrev Qk:=@PyProof.Rows.slot_tuple_getitem
abbrev Ql:=@PySem.wpAny_call_entry
abbrev Qm:=@PySem.wpAny_typeOf
abbrev Qn:=@Bool.and_eq_true
abbrev Qo:=@List.map_nil
abbrev Qp:=@List.map_cons
abbrev Qq:=@PySem.typeIs_str
abbrev Qr:=@PySem.Heap.get?_update_self
abbrev Qs:=@PySem.Heap.get?_update_other
abbrev Qt:=@List.length_set
abbrev Qu:=@List.all_cons
abbrev Qv:=@PySem.Calls.callWith_builtin
abbrev Qw:=@List.replicate_succ
abbrev Qx:=@List.flatten_cons
abbrev Qy:=@List.append_assoc
abbrev QA:=@List.foldl_cons
abbrev QB:=@PySem.call_meets
abbrev QC:=@List.length_singleton
abbrev QD:=@Nat.succ_mul
abbrev QE:=@List.nil_append
abbrev QF:=@decide_eq_true
abbrev QG:=@List.lookup_cons
abbrev QH:=@beq_self_eq_true
abbrev QI:=@Bool.false_eq_true
abbrev QJ:=@List.length_cons
abbrev QK:=@Nat.lt_succ_self
abbrev QL:=@Nat.lt_succ_of_lt
abbrev QM:=@PySem.Heap.size_push
abbrev QN:=@PySem.pushCells_keeps
abbrev QO:=@PySem.codeAny_of_tree
abbrev QP:=@PySem.wpAny_askSetting
abbrev QR:=@Nat.zero_le
abbrev QS:=@List.mem_singleton
abbrev QT:=@PySem.F.slot_tuple_iterator_next
abbrev QU:=@PySem.F.entry_tuple_iterator_next
abbrev QV:=@PySem.F.args_tuple_iterator_next_1
abbrev QW:=@PySem.wpAny_seqItems
abbrev QX:=@PySem.wpAny_setField
abbrev QY:=@PySem.Heap.SameBut.update
abbrev QZ:=@PySem.Obj.isFreed_of_fields
abbrev Q0:=@PySem.Obj.data_mapFields
abbrev Q2:=@PySem.Obj.cls_mapFields
abbrev Q3:=@PySem.wpAny_of_eq
abbrev Q4:=@PySem.wpAny_pyIter_tuple
abbrev Q5:=@List.not_mem_nil
abbrev Q6:=@or_false
abbrev Q7:=@Array.getElem?_toList
abbrev Q8:=@PySem.Heap.get?_push_ne
abbrev Q9:=@Nat.le_succ
abbrev Ra:=@List.range_succ_eq_map
abbrev Rb:=@List.map_map
abbrev Rc:=@List.map_congr_left
abbrev Re:=@List.length_range
abbrev Rf:=@List.length_nil
abbrev Rg:=@List.cons.inj
abbrev Rh:=@List.cons_append
abbrev Ri:=@Array.getElem?_eq_some_iff
abbrev Rj:=@List.take_of_length_le
abbrev Rk:=@List.mem_map
abbrev Rm:=@Classical.byContradiction
abbrev Rn:=@List.nodup_range
abbrev Rp:=@List.getElem?_of_mem
abbrev Rq:=@List.mem_map_of_mem
abbrev Rt:=@List.take_append_drop
abbrev Ru:=@List.pairwise_cons
abbrev Rv:=@List.map_append
abbrev Rx:=@List.map_take
abbrev Ry:=@List.map_drop
abbrev Rz:=@Array.getD_eq_getD_getElem?
abbrev RA:=@Option.getD_some
abbrev RB:=@List.mem_of_mem_take
abbrev RC:=@List.mem_of_mem_drop
abbrev RD:=@Array.getElem?_eq_none_iff
abbrev RE:=@List.nodup_nil
abbrev RF:=@Nat.sub_self
abbrev RG:=@Option.some.injEq
abbrev RH:=@Array.getElem?_eq_getElem
abbrev RI:=@List.all_eq_true
abbrev RJ:=@Bool.not_true
abbrev RK:=@PySem.wpAny_forIn_list
abbrev RL:=@PySem.wpAny_setState_of
abbrev RM:=@List.nodup_append
abbrev RN:=@Bool.not_false
abbrev RO:=@PySem.codeAny_builtin
abbrev RP:=@PySem.Around.under_plainId
abbrev RQ:=@PyProof.Rows.F.plain_set_update_loop
abbrev RR:=@PySem.plainId_quiet
abbrev RT:=@PySem.isSubtype_type
abbrev RU:=@PySem.F.called_set
abbrev RW:=@PySem.Code.quiet_builtin
abbrev RY:=@PySem.codeAny_call_builtin
abbrev RZ:=@PySem.wpAny_pyIter_list
abbrev R0:=@PySem.wpAny_runValue
abbrev R6:=@PySem.W.KasT.kasWp_bind
abbrev R7:=@decide_eq_decide
abbrev R8:=@List.getD_eq_getElem?_getD
abbrev R9:=@List.ext_getElem?
abbrev Sa:=@List.getElem?_eq_none
abbrev Sb:=@PyProof.Rows.listUpdate_at
abbrev Sd:=@PyProof.Rows.get?_update_seq
abbrev Se:=@PySem.wpAny_newList
abbrev Sf:=@PyProof.Rows.size_push'
abbrev Sg:=@PySem.Heap.size_update
abbrev Sh:=@PySem.Heap.get?_update_ne
abbrev Si:=@bne_self_eq_false
abbrev Sj:=@List.getElem_mem
abbrev Sk:=@List.getElem?_eq_getElem
abbrev Sl:=@PySem.wpAny_setEntries_of
abbrev Sm:=@PySem.wpAny_setField_rec
abbrev Sn:=@Array.getElem?_setIfInBounds_ne
abbrev So:=@PySem.wpAny_loadPart_at
abbrev Sr:=@PySem.wpAny_Call_ofName
abbrev Ss:=@PySem.W.looks_findIn
abbrev Su:=@PySem.F.attr_ValueError
abbrev Sv:=@beq_iff_eq
abbrev Sw:=@of_eq_true
abbrev Sx:=@eq_self
abbrev Sy:=@decide_eq_true_eq
abbrev SA:=@PySem.AutoSeq1.sub_tuple_tuple
abbrev SB:=@List.zip_nil_left
abbrev SD:=@List.zip_nil_right
abbrev SE:=@List.zip_cons_cons
abbrev SG:=@PySem.richCompare_meets_room
abbrev SH:=@PySem.SeqAt.ReadsAll.length
abbrev SI:=@List.eq_nil_of_length_eq_zero
abbrev SJ:=@PyProof.Rows.boot_isinstance
abbrev SK:=@List.all_map
abbrev SL:=@Int.le_antisymm
abbrev SM:=@List.set_append_right
abbrev SN:=@List.filter_cons
abbrev SQ:=@List.contains_iff_mem
abbrev SR:=@ne_true_of_eq_false
abbrev SS:=@PySem.F.slot_str_split
abbrev SU:=@PySem.F.entry_str_split
abbrev SV:=@PySem.F.args_str_split_2
abbrev SW:=@PySem.F.plainAttrs_str
abbrev SY:=@PySem.F.slot_range_contains
abbrev SZ:=@PySem.AutoSeq1.wpAny_loadPart'
abbrev S7:=@List.drop_eq_nil_iff
abbrev S8:=@PySem.MeetsSeq3.plain_eq_loop
abbrev S9:=@PySem.MeetsSeq3.entry_eq_loop
abbrev Ta:=@PySem.PassesOwn.never
abbrev Tb:=@Int.emod_nonneg
abbrev Tc:=@Int.emod_lt_of_pos
abbrev Td:=@List.set_cons_succ
abbrev Te:=@List.set_cons_zero
abbrev Tf:=@List.mem_flatMap
abbrev Tg:=@Bool.true_and
abbrev Th:=@List.length_filter_le
abbrev Ti:=@List.flatMap_cons
abbrev Tj:=@Nat.mul_le_mul_right
abbrev Tn:=@List.flatMap_nil
abbrev To:=@of_decide_eq_true
abbrev Tp:=@Bool.and_true
abbrev Tq:=@List.filter_eq_self
abbrev Tr:=@Function.comp_def
abbrev Ts:=@PySem.StrLaws.join_split
abbrev Tt:=@PySem.StrLaws.glued_eq_join
abbrev Tu:=@PySem.Str.length_append
abbrev Tv:=@Int.eq_ofNat_of_zero_le
abbrev Tw:=@List.sum_cons
abbrev Tx:=@PySem.StrLaws.joinTotal
abbrev TB:=@Bool.not_eq_true'
abbrev TC:=@decide_eq_false_iff_not
abbrev TF:=@List.all_nil
abbrev TH:=@Sum.inl.injEq
variable{pins:List (PySem.Addr×PySem.Obj)}{fd:PySem.FuncData}{Q:PySem.Value->PySem.Shared->Prop}{s:PySem.Shared}{E:PySem.Value->PySem.Shared->Prop}{x:PySem.Str}{K:PySem.W.Frag}{J:List PySem.Addr}{A:PySem.Around}{f:PySem.Addr}{w:PySem.World}{n:Nat}{mg:PySem.Str->Option PySem.Value}{ks:List (List Int)}{i:Nat}{base:PySem.Heap}{a:PySem.Addr}{pos:PySem.Pos}{k:Nat}{P:PySem.Program}{dn:List (List Int)}{ps:List (Int×PySem.Value)}{prog:PySem.Program}{es:Array (Int×PySem.Value)}{outer:List PySem.Env}{ρ:List (Nat×Int×PySem.Value)}{us:List PySem.Value}{e:PySem.Expr}{N:List PySem.Str}{m:Int}{scope:PySem.Scope}{env:PySem.Env}{ns:List Int}{u:PySem.Value}{dx:Option PySem.Addr}{qual:PySem.Str}{st:PySem.Stmt}{px:PySem.Pos}{β:Type}{XP:(PySem.Str->Option PySem.Value)->PySem.Heap->Prop}{t:PySem.SetTable}{op:PySem.CmpOp}{C:PySem.Addr}{b:PySem.Addr}{cls:PySem.Value}{t':Nat}{tg:PySem.Expr}{j:Nat}{eks:List (Bool×Bool)}{body:List PySem.Stmt}{lo:Option Int}{l:PySem.Addr}{its:List PySem.Value}{apos:PySem.Pos}{osl:Array (Option PySem.Value)}{T:String}{fp:List PySem.Addr}{h':PySem.Heap}{known:List PySem.Str}{neg:Bool}{L:PySem.Addr}{it:PySem.Addr}{kw:List (PySem.Str×PySem.Value)}{mN:PySem.Str->Option PySem.Value}{elts:List PySem.Expr}{Nc:List PySem.Str}{α:Nat->PySem.Heap->Prop}{ls:List (List Int)}{z:Nat×Int×PySem.Value}{ch:List PySem.Addr}{a0:PySem.Value}{c:PySem.Str}{mask:Nat}{owner:Array (Option Nat)}{g:Comprehension}{subs:List PySem.Str}{loose:List PySem.Str}{np:PySem.Pos}{rest:List PySem.Expr}{pos':PySem.Pos}{YP:PySem.World->PySem.Heap->Prop}{tn:String}{cdv:PySem.Value}{s':PySem.Shared}{cl:List (PySem.Str×PySem.Addr)}{Γ:PySem.Ctx}{ws:List PySem.Str}{sc:PySem.Scope}{pos1:PySem.Pos}{hs:List Int}{fI:PySem.Addr}{g':Array GenState}{iter:PySem.Expr}{params:Arguments}{ea:PySem.Addr}{an:Option PySem.Addr}{cpos:PySem.Pos}{pos2:PySem.Pos}{I:PySem.Addr}{q:PySem.Program}{k1:Nat}{oe:PySem.Obj}{cd:ClassData}{vl:PySem.Value}{ob:PySem.Expr}{rows:List PySem.Str}{y:PySem.Str}{hadNext:Bool}{ox:PySem.Obj}{oI:PySem.Obj}{tk:PySem.Tok}{cp:PySem.Pos}{a_NoText:PySem.Addr}{p2:PySem.Pos}
namespace L2
open PySem PySem.Spec PyProof.Rows
def du(s:Stmt):Arguments:=match s with
 |.FunctionDef _ a _ _ _ _ _ _ _ _=>a
 |_=>{posonlyargs:=[],args:=[],vararg:=none,kwonlyargs:=[],kw_defaults:=[],kwarg:=none,defaults:=[]}
def bT(s:Stmt):List Stmt:=match s with
 |.FunctionDef _ _ b _ _ _ _ _ _ _=>b
 |_=>[]
def au(s:Stmt):Scope:=match s with
 |.FunctionDef _ _ _ _ _ _ sc _ _ _=>sc
 |_=>{kind:=.function,names:=[],isGenerator:=false,isCoroutine:=false}
def Mw(s:Stmt)(j:Nat):Stmt:=match s with
 |.ClassDef _ _ _ body _ _ _ _ _ _ _=>body.getD j s
 |s=>s
end L2
namespace Lw
open PySem PySem.Spec PyProof.Rows L2
def top(i:Nat):Stmt:=PySem.Challenge.pw_rootwebs_k71_texts_that_write_none.main.body.getD i (.Pass ⟨0,0,0,0⟩)
abbrev iY:Stmt:=top 11
abbrev eK:Stmt:=top 12
abbrev iZ:Stmt:=top 13
abbrev gn:Stmt:=top 14
abbrev gm:Stmt:=top 15
abbrev jO:Stmt:=top 18
abbrev jN:Stmt:=top 21
abbrev kZ:Stmt:=top 20
abbrev iF:Stmt:=top 19
abbrev gp:Stmt:=top 25
abbrev cu:Stmt:=top 26
abbrev iX:Stmt:=top 27
abbrev fE:Stmt:=top 29
abbrev iq:Stmt:=top 30
abbrev gu:Stmt:=top 31
abbrev ir:Stmt:=top 32
abbrev gQ:Stmt:=top 33
abbrev fD:Stmt:=top 34
abbrev d8:Stmt:=top 35
abbrev cU:Stmt:=top 36
abbrev dB:Stmt:=top 37
abbrev dg:Stmt:=top 38
abbrev dC:Stmt:=top 39
abbrev cL:Stmt:=top 40
abbrev gr:Stmt:=top 41
abbrev dA:Stmt:=top 42
abbrev fk:Stmt:=top 43
abbrev ip:Stmt:=top 44
abbrev fB:Stmt:=top 45
abbrev gv:Stmt:=top 46
abbrev gS:Stmt:=top 47
abbrev gR:Stmt:=top 48
abbrev fC:Stmt:=top 49
abbrev dS:Stmt:=top 50
abbrev lU:Stmt:=top 51
def en(P:Params)(n:Str)(t:Tok)(v:Value):DictEntry:=⟨PyData.keyHash P n,.str n t,v⟩
def fo (n:Str) (st:Stmt) (m:Str) (t:Tok) (c:Addr):Obj:=⟨.type "function",none,.func (W.fnOf n n (du st) (bT st) (au st) .none .none .none (.str m t) none (.ref c) .none),#[]⟩
def co (n:Str) (t:Tok) (l k i:Int) (a:Addr) (p:Bool) (u:Nat):Obj:=⟨.type "code",none,.fields #[.str n t,.str n (t+1),.str "/claim/cut.py" (t+2),.int l 0,.int k 0,.int 0 0,.int 0 0,.int 3 0,.ref a,.bool true,.int i 0,.ref (a+1),.none,bif p then .ref (a+2) else .none,bif p then .ref (a+3) else .none,.ref (bif p then a+4 else a+2),.int u 0,.int l 0,.str "/claim/cut.py" (u+1)],#[]⟩
def Nd (n q:Str) (st:Stmt) (m:Str) (t:Tok) (c:Addr):Obj:=⟨.type "function",none,.func (W.fnOf n q (du st) (bT st) (au st) .none .none .none (.str m t) none (.ref c) .none),#[]⟩
def Kz (P:Params):W.Frag:=[(3,⟨.type "dict",none,.dict #[en P "__name__" 165 (.str "law_rootwebs_k71_texts_that_write_none" 468),en P "__doc__" 166 .none,en P "__package__" 167 .none,en P "__loader__" 168 (.builtin "__main__.__loader__#opaque"),en P "__spec__" 169 .none,en P "__annotations__" 170 (.ref 6),en P "__builtins__" 171 (.ref 4),en P "__file__" 173 (.str "/claim/cut.py" 172),en P "__cached__" 174 .none,en P "RootError" 206 (.ref 24),en P "NoPlace" 222 (.ref 37),en P "NoNumber" 238 (.ref 49),en P "NoLine" 254 (.ref 61),en P "NoRoot" 270 (.ref 73),en P "NoTree" 286 (.ref 85),en P "NoWeb" 311 (.ref 104),en P "NoText" 336 (.ref 123),en P "TooGreat" 363 (.ref 142),en P "is_whole" 372 (.ref 151),en P "is_whole_from" 381 (.ref 158),en P "is_place" 389 (.ref 165),en P "is_places" 395 (.ref 170),en P "is_rising" 401 (.ref 175),en P "MOST_PLACES" 405 (.int 6 404),en P "is_many" 412 (.ref 182),en P "is_ties" 418 (.ref 187),en P "is_tie" 426 (.ref 194),en P "is_pair" 434 (.ref 201),en P "FIGURES" 438 (.str "0123456789" 437),en P "MOST_FIGURES" 440 (.int 20 439),en P "is_number" 446 (.ref 206),en P "numbers_behind" 452 (.ref 211),en P "web_read" 467 (.ref 218),en P "_law_cell_at" 477 (.ref 225),en P "_law_next" 484 (.ref 232),en P "_law_pen_of" 492 (.ref 239),en P "_law_draw" 501 (.ref 246),en P "_law_whole" 508 (.ref 253),en P "_law_kind_of" 516 (.ref 260),en P "_law_web_of" 522 (.ref 265),en P "_law_drawn_web" 528 (.ref 270),en P "_law_near_of" 534 (.ref 275),en P "_law_two_step" 540 (.ref 280),en P "_law_any_web" 546 (.ref 285),en P "_law_tuples_are" 552 (.ref 290),en P "_law_web_is" 560 (.ref 297),en P "_law_text_of" 566 (.ref 302),en P "_law_value" 572 (.ref 307),en P "_law_told" 580 (.ref 314),en P "_law_pair_of" 590 (.ref 321),en P "_law_due_of" 602 (.ref 328),en P "_law_right" 611 (.ref 335),en P "_law_signs" 618 (.ref 342),en P "_law_odd_row" 635 (.ref 349),en P "_law_spoilt_of" 646 (.ref 356),en P "law" 660 (.ref 363)] 56,#[]⟩),
 (23,⟨.type "dict",none,.dict #[en P "__module__" 196 (.str "rootwebs.errors" 187),en P "__firstlineno__" 200 (.int 2 199),en P "__static_attributes__" 201 (.ref 22),en P "__weakref__" 203 (.ref 25),en P "__doc__" 204 .none] 3,#[]⟩),
 (24,⟨.type "type",none,.cls ⟨"RootError",[(.type "ValueError")],[(.ref 24),(.type "ValueError"),(.type "Exception"),(.type "BaseException"),(.type "object")],23, "RootError",true,[],[(.ref 37),(.ref 49),(.ref 61),(.ref 73),(.ref 85),(.ref 104),(.ref 123),(.ref 142)],false,none,false⟩,#[some (.ref 15),none,some (.str "RootError" 189),some (.str "RootError" 197),some (.builtin "ValueError.__new__"),some (.bool true)]⟩),
 (36,⟨.type "dict",none,.dict #[en P "__module__" 214 (.str "rootwebs.errors" 187),en P "__firstlineno__" 218 (.int 4 217),en P "__static_attributes__" 219 (.ref 35),en P "__doc__" 220 .none] 2,#[]⟩),
 (37,⟨.type "type",none,.cls ⟨"NoPlace",[(.ref 24)],[(.ref 37),(.ref 24),(.type "ValueError"),(.type "Exception"),(.type "BaseException"),(.type "object")],36, "NoPlace",true,[],[],false,none,false⟩,#[some (.ref 28),none,some (.str "NoPlace" 207),some (.str "NoPlace" 215),some (.builtin "ValueError.__new__"),some (.bool true)]⟩),
 (48,⟨.type "dict",none,.dict #[en P "__module__" 230 (.str "rootwebs.errors" 187),en P "__firstlineno__" 234 (.int 6 233),en P "__static_attributes__" 235 (.ref 47),en P "__doc__" 236 .none] 2,#[]⟩),
 (49,⟨.type "type",none,.cls ⟨"NoNumber",[(.ref 24)],[(.ref 49),(.ref 24),(.type "ValueError"),(.type "Exception"),(.type "BaseException"),(.type "object")],48, "NoNumber",true,[],[],false,none,false⟩,#[some (.ref 40),none,some (.str "NoNumber" 223),some (.str "NoNumber" 231),some (.builtin "ValueError.__new__"),some (.bool true)]⟩),
 (60,⟨.type "dict",none,.dict #[en P "__module__" 246 (.str "rootwebs.errors" 187),en P "__firstlineno__" 250 (.int 8 249),en P "__static_attributes__" 251 (.ref 59),en P "__doc__" 252 .none] 2,#[]⟩),
 (61,⟨.type "type",none,.cls ⟨"NoLine",[(.ref 24)],[(.ref 61),(.ref 24),(.type "ValueError"),(.type "Exception"),(.type "BaseException"),(.type "object")],60, "NoLine",true,[],[],false,none,false⟩,#[some (.ref 52),none,some (.str "NoLine" 239),some (.str "NoLine" 247),some (.builtin "ValueError.__new__"),some (.bool true)]⟩),
 (72,⟨.type "dict",none,.dict #[en P "__module__" 262 (.str "rootwebs.errors" 187),en P "__firstlineno__" 266 (.int 10 265),en P "__static_attributes__" 267 (.ref 71),en P "__doc__" 268 .none] 2,#[]⟩),
 (73,⟨.type "type",none,.cls ⟨"NoRoot",[(.ref 24)],[(.ref 73),(.ref 24),(.type "ValueError"),(.type "Exception"),(.type "BaseException"),(.type "object")],72, "NoRoot",true,[],[],false,none,false⟩,#[some (.ref 64),none,some (.str "NoRoot" 255),some (.str "NoRoot" 263),some (.builtin "ValueError.__new__"),some (.bool true)]⟩),
 (84,⟨.type "dict",none,.dict #[en P "__module__" 278 (.str "rootwebs.errors" 187),en P "__firstlineno__" 282 (.int 12 281),en P "__static_attributes__" 283 (.ref 83),en P "__doc__" 284 .none] 2,#[]⟩),
 (85,⟨.type "type",none,.cls ⟨"NoTree",[(.ref 24)],[(.ref 85),(.ref 24),(.type "ValueError"),(.type "Exception"),(.type "BaseException"),(.type "object")],84, "NoTree",true,[],[],false,none,false⟩,#[some (.ref 76),none,some (.str "NoTree" 271),some (.str "NoTree" 279),some (.builtin "ValueError.__new__"),some (.bool true)]⟩),
 (103,⟨.type "dict",none,.dict #[en P "__module__" 294 (.str "rootwebs.errors" 187),en P "__firstlineno__" 298 (.int 14 297),en P "__init__" 306 (.ref 101),en P "__static_attributes__" 308 (.ref 102),en P "__doc__" 309 .none] 2,#[]⟩),
 (104,⟨.type "type",none,.cls ⟨"NoWeb",[(.ref 24)],[(.ref 104),(.ref 24),(.type "ValueError"),(.type "Exception"),(.type "BaseException"),(.type "object")],103, "NoWeb",true,[],[],false,none,false⟩,#[some (.ref 88),none,some (.str "NoWeb" 287),some (.str "NoWeb" 295),some (.builtin "ValueError.__new__"),some (.bool true)]⟩),
 (119,⟨.type "code",none,.fields #[(.str "__init__" 324),(.str "NoText.__init__" 325),(.str "/claim/cut.py" 326),(.int 20 0),(.int 2 0),(.int 0 0),(.int 0 0),(.int 3 0),(.ref 114),(.bool true),(.int 181 0),(.ref 115),.none,(.ref 116),(.ref 117),(.ref 118),(.int 329 0),(.int 20 0),(.str "/claim/cut.py" 330)],#[]⟩),
 (120,Nd "__init__" "NoText.__init__" (Mw (top 8) 0) "rootwebs.errors" 187 119),
 (122,⟨.type "dict",none,.dict #[en P "__module__" 319 (.str "rootwebs.errors" 187),en P "__firstlineno__" 323 (.int 18 322),en P "__init__" 331 (.ref 120),en P "__static_attributes__" 333 (.ref 121),en P "__doc__" 334 .none] 2,#[]⟩),
 (123,⟨.type "type",none,.cls ⟨"NoText",[(.ref 24)],[(.ref 123),(.ref 24),(.type "ValueError"),(.type "Exception"),(.type "BaseException"),(.type "object")],122, "NoText",true,[],[],false,none,false⟩,#[some (.ref 107),none,some (.str "NoText" 312),some (.str "NoText" 320),some (.builtin "ValueError.__new__"),some (.bool true)]⟩),
 (141,⟨.type "dict",none,.dict #[en P "__module__" 344 (.str "rootwebs.errors" 187),en P "__firstlineno__" 348 (.int 22 347),en P "__init__" 357 (.ref 139),en P "__static_attributes__" 360 (.ref 140),en P "__doc__" 361 .none] 2,#[]⟩),
 (142,⟨.type "type",none,.cls ⟨"TooGreat",[(.ref 24)],[(.ref 142),(.ref 24),(.type "ValueError"),(.type "Exception"),(.type "BaseException"),(.type "object")],141, "TooGreat",true,[],[],false,none,false⟩,#[some (.ref 126),none,some (.str "TooGreat" 337),some (.str "TooGreat" 345),some (.builtin "ValueError.__new__"),some (.bool true)]⟩),
 (150,co "is_whole" 366 28 1 181 145 true 370),
 (151,fo "is_whole" iY "rootwebs.kinds" 364 150),
 (157,co "is_whole_from" 373 30 3 181 152 true 379),
 (158,fo "is_whole_from" eK "rootwebs.kinds" 364 157),
 (164,co "is_place" 382 32 2 181 159 true 387),
 (165,fo "is_place" iZ "rootwebs.kinds" 364 164),
 (169,co "is_places" 390 34 2 181 166 false 393),
 (170,fo "is_places" gn "rootwebs.kinds" 364 169),
 (174,co "is_rising" 396 36 1 181 171 false 399),
 (175,fo "is_rising" gm "rootwebs.kinds" 364 174),
 (181,co "is_many" 406 40 1 181 176 true 410),
 (182,fo "is_many" jO "rootwebs.webs" 402 181),
 (186,co "is_ties" 413 42 2 181 183 false 416),
 (187,fo "is_ties" iF "rootwebs.webs" 402 186),
 (193,co "is_tie" 419 44 2 181 188 true 424),
 (194,fo "is_tie" kZ "rootwebs.webs" 402 193),
 (200,co "is_pair" 427 46 2 181 195 true 432),
 (201,fo "is_pair" jN "rootwebs.webs" 402 200),
 (205,co "is_number" 441 51 1 181 202 false 444),
 (206,fo "is_number" gp "rootwebs.texts" 435 205),
 (210,co "numbers_behind" 447 55 3 181 207 false 450),
 (211,fo "numbers_behind" cu "rootwebs.texts" 435 210),
 (217,co "web_read" 453 60 1 181 212 true 465),
 (218,fo "web_read" iX "rootwebs.texts" 435 217),
 (224,co "_law_cell_at" 470 78 2 181 219 true 475),
 (225,fo "_law_cell_at" fE "law_rootwebs_k71_texts_that_write_none" 468 224),
 (231,co "_law_next" 478 82 1 181 226 true 482),
 (232,fo "_law_next" iq "law_rootwebs_k71_texts_that_write_none" 468 231),
 (238,co "_law_pen_of" 485 85 1 181 233 true 490),
 (239,fo "_law_pen_of" gu "law_rootwebs_k71_texts_that_write_none" 468 238),
 (245,co "_law_draw" 493 88 2 181 240 true 499),
 (246,fo "_law_draw" ir "law_rootwebs_k71_texts_that_write_none" 468 245),
 (252,co "_law_whole" 502 95 1 181 247 true 506),
 (253,fo "_law_whole" gQ "law_rootwebs_k71_texts_that_write_none" 468 252),
 (259,co "_law_kind_of" 509 97 1 181 254 true 514),
 (260,fo "_law_kind_of" fD "law_rootwebs_k71_texts_that_write_none" 468 259),
 (264,co "_law_web_of" 517 103 2 181 261 false 520),
 (265,fo "_law_web_of" d8 "law_rootwebs_k71_texts_that_write_none" 468 264),
 (269,co "_law_drawn_web" 523 105 2 181 266 false 526),
 (270,fo "_law_drawn_web" cU "law_rootwebs_k71_texts_that_write_none" 468 269),
 (274,co "_law_near_of" 529 112 2 181 271 false 532),
 (275,fo "_law_near_of" dB "law_rootwebs_k71_texts_that_write_none" 468 274),
 (279,co "_law_two_step" 535 114 1 181 276 false 538),
 (280,fo "_law_two_step" dg "law_rootwebs_k71_texts_that_write_none" 468 279),
 (284,co "_law_any_web" 541 121 2 181 281 false 544),
 (285,fo "_law_any_web" dC "law_rootwebs_k71_texts_that_write_none" 468 284),
 (289,co "_law_tuples_are" 547 135 2 181 286 false 550),
 (290,fo "_law_tuples_are" cL "law_rootwebs_k71_texts_that_write_none" 468 289),
 (296,co "_law_web_is" 553 139 2 181 291 true 558),
 (297,fo "_law_web_is" gr "law_rootwebs_k71_texts_that_write_none" 468 296),
 (301,co "_law_text_of" 561 143 1 181 298 false 564),
 (302,fo "_law_text_of" dA "law_rootwebs_k71_texts_that_write_none" 468 301),
 (306,co "_law_value" 567 146 1 181 303 false 570),
 (307,fo "_law_value" fk "law_rootwebs_k71_texts_that_write_none" 468 306),
 (313,co "_law_told" 573 152 1 181 308 true 578),
 (314,fo "_law_told" ip "law_rootwebs_k71_texts_that_write_none" 468 313),
 (320,co "_law_pair_of" 581 159 2 181 315 true 588),
 (321,fo "_law_pair_of" fB "law_rootwebs_k71_texts_that_write_none" 468 320),
 (327,co "_law_due_of" 591 165 1 181 322 true 600),
 (328,fo "_law_due_of" gv "law_rootwebs_k71_texts_that_write_none" 468 327),
 (334,co "_law_right" 603 179 1 181 329 true 609),
 (335,fo "_law_right" gS "law_rootwebs_k71_texts_that_write_none" 468 334),
 (341,co "_law_signs" 612 185 0 181 336 true 616),
 (342,fo "_law_signs" gR "law_rootwebs_k71_texts_that_write_none" 468 341),
 (348,co "_law_odd_row" 619 188 2 181 343 true 633),
 (349,fo "_law_odd_row" fC "law_rootwebs_k71_texts_that_write_none" 468 348),
 (355,co "_law_spoilt_of" 636 203 2 181 350 true 644),
 (356,fo "_law_spoilt_of" dS "law_rootwebs_k71_texts_that_write_none" 468 355),
 (362,co "law" 647 216 1 181 357 true 658),
 (363,fo "law" lU "law_rootwebs_k71_texts_that_write_none" 468 362)]
def Qz:Program:=W.view PySem.Challenge.pw_rootwebs_k71_texts_that_write_none [1,2,3,4,5,6,7,8,9,11,12,13,14,15,17,18,19,20,21,23,24,25,26,27,29,30,31,32,33,34,35,36,37,38,39,40,41,42,43,44,45,46,47,48,49,50,51]
noncomputable abbrev Hz:W.Hook:=W.kHook Kz [3,23,24,36,37,48,49,60,61,72,73,84,85,103,104,119,120,122,123,141,142,150,151,157,158,164,165,169,170,174,175,181,182,186,187,193,194,200,201,205,206,210,211,217,218,224,225,231,232,238,239,245,246,252,253,259,260,264,265,269,270,274,275,279,280,284,285,289,290,296,297,301,302,306,307,313,314,320,321,327,328,334,335,341,342,348,349,355,356,362,363] fun _=>by kernel_rfl
theorem HC:PySem.Challenge.rw_rootwebs_k71_texts_that_write_none.wellSaid=true:=by kernel_rfl
noncomputable abbrev Xz(s:Shared):Bool:=W.xlAt Qz [] s&&W.recOk (W.RowW.records (W.OpenRow.toRowW (W.OpenLaw.row PySem.Challenge.rw_rootwebs_k71_texts_that_write_none))) s
theorem xP{B J β γ δ ε:Type _}{o:Option B}(F:B->J×β×γ×δ)(G:B->ε)(g:J×β×γ×δ)(v:ε)
  (h1:o.map (fun s=>(F s).1)=some g.1) (h2:o.map (fun s=>((F s).2.1,(F s).2.2.1))=some (g.2.1,g.2.2.1)) (h3:o.map (fun s=>(F s).2.2.2)=some g.2.2.2)
  (h4:o.map G=some v):o.map (fun s=>(F s,G s))=some (g,v):=by
 cases o with
 |none=>cases h4
 |some s=>
  have e1:(F s).1=g.1:=Ou h1;have e2:((F s).2.1,(F s).2.2.1)=(g.2.1,g.2.2.1):=Ou h2;have e3:(F s).2.2.2=g.2.2.2:=Ou h3;have e4:G s=v:=Ou h4;have e5:(F s).2.1=g.2.1:=(Prod.mk.inj e2).1;have e6:(F s).2.2.1=g.2.2.1:=(Prod.mk.inj e2).2;have e:F s=g:=Prod.ext e1 (Prod.ext e5 (Prod.ext e6 e3));show some (F s,G s)=some (g,v);rw[e,e4]
noncomputable abbrev Oz(w:World):=W.openEnds PySem.treeTable PySem.Challenge.rw_rootwebs_k71_texts_that_write_none.row.prog w 6300
noncomputable abbrev Sz:=W.openSeen Qz [] (PySem.importedModules PySem.Challenge.rw_rootwebs_k71_texts_that_write_none.row.prog.main.body) Xz true
noncomputable abbrev Tz:=W.openGood Qz []
theorem Et:∀w,(Oz w).map (fun s=>(Sz s).1)=some Tz.1:=fun w=>by kernel_rfl
theorem Es:∀w,(Oz w).map (fun s=>((Sz s).2.1,(Sz s).2.2.1))=some (Tz.2.1,Tz.2.2.1):=fun w=>by kernel_rfl
theorem Er:∀w,(Oz w).map (fun s=>(Sz s).2.2.2)=some Tz.2.2.2:=fun w=>by kernel_rfl
theorem Ep:∀w,(Oz w).map (W.Hook.obs Hz)=some (W.Hook.val Hz w):=fun w=>by kernel_rfl
theorem HD:W.LeftO PySem.Challenge.rw_rootwebs_k71_texts_that_write_none.row.prog Qz [] Xz (W.Hook.obs Hz) (W.Hook.val Hz) 6300:=fun w=>xP Sz (W.Hook.obs Hz) Tz (W.Hook.val Hz w) (Et w) (Es w) (Er w) (Ep w)
end Lw
namespace L2
open PySem PySem.Spec PyProof.Rows
abbrev qY:=Sum Int Str
def G3:qY->Value->Bool
 |.inl k,v=>Value.isInt k v
 |.inr x,v=>Value.isStrOf x v
def NK(w:World):qY->Int
 |.inl k=>hashInt k
 |.inr x=>hashStr w x
theorem cT:∀{k:qY}{v:Value},G3 k v=true->(∃i t,k=Sum.inl i/\v=Value.int i t)\/(∃x t,k=Sum.inr x/\v=Value.str x t)
 |.inl i,v,h=>by
  obtain⟨t,e⟩:=Ov (k:=i) (v:=v) h;exact .inl ⟨i,t,rfl,e⟩
 |.inr x,v,h=>by
  obtain⟨t,e⟩:=Value.isStrOf_shape (x:=x) (v:=v) h;exact .inr ⟨x,t,rfl,e⟩
theorem JW(a b:Int):decide ((Sum.inl a:qY)=Sum.inl b)=(a == b):=by
 by_cases e:a=b
 ·subst e;simp
 ·have h:¬ (Sum.inl a:qY)=Sum.inl b:=fun q=>e (Sum.inl.inj q);rw[Ow h];exact(Ox.mpr e).symm
theorem JT(a b:Str):decide ((Sum.inr a:qY)=Sum.inr b)=decide (a=b):=by
 by_cases e:a=b
 ·subst e;simp
 ·have h:¬ (Sum.inr a:qY)=Sum.inr b:=fun q=>e (Sum.inr.inj q);rw[Ow h,Ow e]
theorem JV(a:Int)(b:Str):decide ((Sum.inl a:qY)=Sum.inr b)=false:=Ow (fun q=>nomatch q)
theorem JU(a:Str)(b:Int):decide ((Sum.inr a:qY)=Sum.inl b)=false:=Ow (fun q=>nomatch q)
def pf(prog:Program)(w:World):PySem.KeyKind prog w qY where
 is:=G3
 hash:=NK w
 inj:=fun v a b ha hb=>by
  rcases cT ha with⟨i,t,rfl,rfl⟩|⟨x,t,rfl,rfl⟩
  ·rcases cT hb with ⟨j, u, rfl, e⟩ | ⟨y, u, rfl, e⟩
   ·injection e with e1 _;rw[e1]
   ·exact nomatch e
  ·rcases cT hb with ⟨j, u, rfl, e⟩ | ⟨y, u, rfl, e⟩
   ·exact nomatch e
   ·injection e with e1 _;rw[e1]
 byValue:=fun k v h=>by
  rcases cT h with⟨i,t,rfl,rfl⟩|⟨x,t,rfl,rfl⟩ <;> rfl
 pyHash:=fun hv h=>by
  rcases cT hv with⟨i,t,rfl,rfl⟩|⟨x,t,rfl,rfl⟩
  ·exact wpAny_pyHash_int h
  ·exact wpAny_pyHash_str h
 eqBool:=fun hu hv h=>by
  rcases cT hu with⟨i,t,rfl,rfl⟩|⟨x,t,rfl,rfl⟩
  ·rcases cT hv with ⟨j, u, rfl, rfl⟩ | ⟨y, u, rfl, rfl⟩
   ·rw[JW]at h;exact Oy h
   ·rw[JV]at h;exact SeqAt.EqAt.int_str i t y u _ _ _ _ h
  ·rcases cT hv with ⟨j, u, rfl, rfl⟩ | ⟨y, u, rfl, rfl⟩
   ·rw[JU]at h;exact SeqAt.EqAt.str_int x t j u _ _ _ _ h
   ·rw[JT]at h;exact wpAny_eqBool_str h
 «strs»:=fun k x t v h=>by
  rcases cT h with⟨i,u,rfl,e⟩|⟨y,u,rfl,e⟩
  ·exact nomatch e
  ·injection e with e1 _
   subst e1;cases v <;> rfl
inductive V where
 |non|bl (b:Bool)|int (i:Int)|str (x:Str)|byt (b:Array UInt8)|flt (b:UInt64)|ref (a:Addr)|ty (n:String)
 deriving DecidableEq
def bU:V->Value->Prop
 |.non,u=>u=Value.none
 |.bl b,u=>u=Value.bool b
 |.int i,u=>∃t,u=Value.int i t
 |.str x,u=>∃t,u=Value.str x t
 |.byt b,u=>∃t,u=Value.bytes b t
 |.flt b,u=>∃t,u=Value.float b t
 |.ref a,u=>u=Value.ref a
 |.ty n,u=>u=Value.type n
abbrev br:List V->List Value->Prop:=Paired bU
theorem br.length{xs:List V}(r:br xs us):xs.length=us.length:=Paired.length r
theorem br.get:∀{xs:List V}{us:List Value}{i:Nat}{x:V},br xs us->xs[i]?=some x->∃u,us[i]?=some u/\bU x u
 |_,_,_,_,.nil,e=>by simp at e
 |_,_,0,_,.cons r _,e=>by simp at e;subst e;exact⟨_,rfl,r⟩
 |_,_,i+1,x,.cons _ t,e=>by
  obtain⟨u,h1,h2⟩:=br.get (i:=i) (x:=x) t (by simpa using e);exact⟨u,by simpa using h1,h2⟩
theorem br.set{x:V}{u:Value}(r:bU x u):∀{xs:List V}{us:List Value}(i:Nat),br xs us->br (xs.set i x) (us.set i u)
 |_,_,_,.nil=>.nil
 |_,_,0,.cons _ t=>.cons r t
 |_,_,i+1,.cons q t=>.cons q (br.set r i t)
theorem br.append:∀{xs ys:List V}{us ws:List Value},br xs us->br ys ws->br (xs++ys) (us++ws)
 |_,_,_,_,.nil,s=>s
 |_,_,_,_,.cons r t,s=>.cons r (br.append t s)
theorem br.take:∀{xs:List V}{us:List Value}(n:Nat),br xs us->br (xs.take n) (us.take n)
 |_,_,0,_=>.nil
 |_,_,_+1,.nil=>.nil
 |_,_,n+1,.cons r t=>.cons r (br.take n t)
theorem br.drop:∀{xs:List V}{us:List Value}(n:Nat),br xs us->br (xs.drop n) (us.drop n)
 |_,_,0,r=>r
 |_,_,_+1,.nil=>.nil
 |_,_,n+1,.cons _ t=>br.drop n t
def K5:Option V->Option Value->Prop
 |some v,some u=>bU v u
 |none,none=>True
 |_,_=>False
def KV{κ:Type}:List (κ×V)->List (κ×Value)->Prop:=Paired fun(p:κ×V) (q:κ×Value)=>p.1=q.1/\bU p.2 q.2
def kV:qY->V
 |.inl i=>.int i
 |.inr x=>.str x
inductive HO where
 |lst (xs:List V)
 |tup (xs:List V)
 |dK (kvs:List (qY×V))|dT (kvs:List (List qY×V))
 |set (S:Int->Bool) (n:Nat)
 |ins (C dx:Addr) (fs:List (Str×V))
 |own (x:Addr)
 |xd (fs:List (Str×V))
 |met (f x:Addr)
 |rng (lo hi:Int)
 |frz (o:Obj) (u:HO)
 |tbl (ps:Array Value)
 |ext (φ:Heap->Prop)
abbrev Hp:=Addr->Option HO
def b9(H:Hp)(a:Addr)(o:HO):Hp:=fun b=>if b=a then some o else H b
theorem bj{H:Hp}{o:HO}:b9 H a o a=some o:=by unfold b9;rw[OA rfl]
theorem aV{H:Hp}{o:HO}(h:b≠a):b9 H a o b=H b:=by unfold b9;rw[OB h]
theorem yH{H:Hp}{o u:HO}(h:H a=some o)(h':H b=some u)(d:o≠u):a≠b:=by
 intro e;subst e;rw[h]at h';exact d (Ou h')
theorem bQ{H:Hp}{o:HO}(h:H a=some o)(h':H b=none):a≠b:=by
 intro e;subst e;rw[h]at h';cases h'
section
variable(P:Program)(w:World)
def dk(H:Hp)(h:Heap)(a:Addr):HO->Prop
 |.lst xs=>xs.length<=sizeLine/\∃(its:List Value) (n:Nat),br xs its/\h.get? a=some {cls:=.type "list",data:=.seq its.toArray n}
 |.tup xs=>xs.length<=sizeLine/\∃its:List Value,br xs its/\IsTup h a its.toArray
 |.dK kvs=>kvs.length<=sizeLine/\(a == sysModules)=false/\∃vs,KV kvs vs/\h.DictOf (pf P w) a vs
 |.dT kvs=>kvs.length<=sizeLine/\(a == sysModules)=false/\∃xs:List (List qY×Addr×Value),
   Paired (fun(p:List qY×V) (q:List qY×Addr×Value)=>p.1=q.1/\H q.2.1=some (.tup (p.1.map kV))/\bU p.2 q.2.2) kvs xs /\
   ∃o es ep,h.get? a=some o/\o.ExactDict/\o.data=.dict es ep/\es.toList=xs.map (entryOfKey (tupleKind (pf P w)))/\(xs.map (·.1)).Nodup
 |.set S n=>h.SetOf (intKind P w) a S n
 |.ins C dx fs=>H dx=some (.own a)/\fs.length<=1000/\dx≠a/\h.get? a=some (W.instObj C dx) /\
   ∃mA,h.Ns1 dx mA/\(∀f,K5 (fs.lookup f) (mA f))/\PySem.Within mA (fs.map (·.1))
 |.own _=>∃o,h.get? a=some o
 |.xd fs=>∃mA,h.Ns1 a mA/\∀f,K5 (fs.lookup f) (mA f)
 |.rng lo hi=>∃t u v,h.get? a=some {cls:=.type "range",data:=.fields #[.int lo t,.int hi u,.int 1 v]}
 |.frz o u=>h.get? a=some o/\dk H h a u
 |.tbl ps=>h.get? a=some {cls:=.none,data:=.fields ps}
 |.met f x=>h.get? a=some (W.methodObj (.ref f) (.ref x))
 |.ext φ=>φ h/\(∃o,h.get? a=some o)/\∀h1 h2:Heap,φ h1->(∀o,h1.get? a=some o->h2.get? a=some o)->φ h2
def nr(H:Hp)(h:Heap):Prop:=∀a o,H a=some o->dk P w H h a o
end
section
variable{H H':Hp}{h:Heap}{o:HO}
theorem dk.lt(x:dk P w H h a o):a<h.objs.size:=by
 cases o with
 |lst xs=>obtain⟨_,_,_,_,e⟩:=x;exact OC e
 |tup xs=>obtain⟨_,_,_,p⟩:=x;exact p.lt
 |dK kvs=>obtain⟨_,_,_,_,o,_,_,e,_⟩:=x;exact OC e
 |dT kvs=>obtain⟨_,_,_,_,o,_,_,e,_⟩:=x;exact OC e
 |set S n=>obtain⟨o,_,_,_,e,_⟩:=x;exact OC e
 |ins C dx fs=>obtain⟨_,_,_,e,_⟩:=x;exact OC e
 |own y=>obtain⟨_,e⟩:=x;exact OC e
 |xd fs=>obtain⟨_,⟨_,_,_,e,_⟩,_⟩:=x;exact OC e
 |rng lo hi=>obtain⟨_,_,_,e⟩:=x;exact OC e
 |frz ob u=>obtain⟨e,_⟩:=x;exact OC e
 |tbl ps=>exact OC (show h.get? a=some _ from x)
 |met f y=>exact OC (show h.get? a=some _ from x)
 |ext φ=>obtain⟨_,⟨_,e⟩,_⟩:=x;exact OC e
theorem ot{J β:Type}{F G:J->β->Prop}:∀{l₁:List J}{l₂:List β},Paired F l₁ l₂->(∀a b,F a b->G a b)->Paired G l₁ l₂
 |_,_,.nil,_=>.nil
 |_,_,.cons r t,f=>.cons (f _ _ r) (ot t f)
theorem dk.stay(x:dk P w H h a o)(k:∀b u,(b=a\/H b=some (.own a))->h.get? b=some u->h'.get? b=some u)
  (ho:∀b,H b=some (.own a)->H' b=some (.own a)) (ht:∀b xs,H b=some (.tup xs)->H' b=some (.tup xs)):dk P w H' h' a o:=by
 induction o with
 |lst xs=>obtain⟨z,its,n,r,e⟩:=x;exact⟨z,its,n,r,k _ _ (.inl rfl) e⟩
 |tup xs=>obtain⟨z,its,r,ob,e,c⟩:=x;exact⟨z,its,r,ob,k _ _ (.inl rfl) e,c⟩
 |dK kvs=>obtain⟨z,y,vs,r,ob,es,ep,e,c⟩:=x;exact⟨z,y,vs,r,ob,es,ep,k _ _ (.inl rfl) e,c⟩
 |dT kvs=>
  obtain⟨z,y,xs,r,ob,es,ep,e,c⟩:=x;exact⟨z,y,xs,ot r fun p q z=>⟨z.1,ht _ _ z.2.1,z.2.2⟩,ob,es,ep,k _ _ (.inl rfl) e,c⟩
 |set S n=>obtain⟨ob,es,ep,t,e,c⟩:=x;exact⟨ob,es,ep,t,k _ _ (.inl rfl) e,c⟩
 |ins C dx fs=>
  obtain⟨d,z,ne,e,mA,⟨od,es,ep,e2,c⟩,r⟩:=x;exact⟨ho _ d,z,ne,k _ _ (.inl rfl) e,mA,⟨od,es,ep,k _ _ (.inr d) e2,c⟩,r⟩
 |own y=>obtain⟨ob,e⟩:=x;exact⟨ob,k _ _ (.inl rfl) e⟩
 |xd fs=>obtain⟨mA,⟨od,es,ep,e,c⟩,r⟩:=x;exact⟨mA,⟨od,es,ep,k _ _ (.inl rfl) e,c⟩,r⟩
 |rng lo hi=>obtain⟨t,u,v,e⟩:=x;exact⟨t,u,v,k _ _ (.inl rfl) e⟩
 |frz ob u ih=>obtain⟨e,q⟩:=x;exact⟨k _ _ (.inl rfl) e,ih q⟩
 |tbl ps=>
  have e:h.get? a=some {cls:=.none,data:=.fields ps}:=x;show h'.get? a=some {cls:=.none,data:=.fields ps};exact k a _ (.inl rfl) e
 |met f y=>
  have e:h.get? a=some (W.methodObj (.ref f) (.ref y)):=x;show h'.get? a=some (W.methodObj (.ref f) (.ref y));exact k a _ (.inl rfl) e
 |ext φ=>obtain⟨p,⟨o,e⟩,st⟩:=x;exact⟨st _ _ p fun o q=>k _ _ (.inl rfl) q,⟨o,k _ _ (.inl rfl) e⟩,st⟩
theorem nr.lt(x:nr P w H h)(e:H a=some o):a<h.objs.size:=(x a o e).lt
theorem nr.fresh(x:nr P w H h)(e:h.objs.size<=a):H a=none:=by
 cases q:H a with
 |none=>rfl
 |some u=>exact absurd (OD (x.lt q) e) (OE _)
theorem nr.kept(x:nr P w H h)(k:∀b u,h.get? b=some u->h'.get? b=some u):nr P w H h':=fun a o e=>
 (x a o e).stay (fun b u _ q=>k b u q) (fun _ q=>q) fun _ _ q=>q
theorem nr.laid(x:nr P w H h)(k:∀b u,h.get? b=some u->h'.get? b=some u)(hp:h.objs.size<=a)(new:dk P w (b9 H a o) h' a o):nr P w (b9 H a o) h':=fun b u e=>by
 have hn:=x.fresh hp;by_cases hb:b=a
 ·subst hb;rw[bj]at e;cases e;exact new
 ·rw[aV hb]at e;exact(x b u e).stay (fun c v _ q=>k c v q) (fun c q=>by rw[aV (bQ q hn)];exact q) fun c xs q=>by rw[aV (bQ q hn)];exact q
end
def Rd(H:Hp)(a:Addr)(u:HO):Prop:=H a=some u\/∃o,H a=some (.frz o u)
theorem Rd.ok{H:Hp}{h:Heap}{u:HO}(r:Rd H a u)(x:nr P w H h):dk P w H h a u:=by
 rcases r with r|⟨o,r⟩
 ·exact x a u r
 ·obtain⟨_,q⟩:=x a _ r;exact q
def ML:Option HO->Prop
 |some (.lst _)=>True
 |some (.dK _)=>True
 |some (.dT _)=>True
 |some (.set _ _)=>True
 |some (.ins _ _ _)=>True
 |some (.ext _)=>True
 |_=>False
section
variable{H:Hp}{h:Heap}{x e:Addr}{o':HO}
theorem nr.write(ok:nr P w H h)(mu:ML (H x))(he:e=x\/H e=some (.own x))(k:∀b u,b≠e->h.get? b=some u->h'.get? b=some u)(heo:∃u,h'.get? e=some u)
  (new:dk P w (b9 H x o') h' x o'):nr P w (b9 H x o') h':=fun b u q=>by
 have nown:∀c y,H c=some (.own y)->c≠x:=fun c y r z=>by subst z;rw[r]at mu;exact mu
 have ntup:∀c xs,H c=some (.tup xs)->c≠x:=fun c xs r z=>by subst z;rw[r]at mu;exact mu
 by_cases hb:b=x
 ·subst hb;rw[bj]at q;cases q;exact new
 ·rw [aV hb] at q;by_cases hbe:b=e
  ·have q':H b=some (.own x):=by
    rcases he with z|z
    ·exact absurd (hbe.trans z) hb
    ·rw[hbe];exact z
   rw[q]at q';cases q';obtain⟨v,hv⟩:=heo;exact⟨v,by rw[hbe];exact hv⟩
  ·refine (ok b u q).stay (fun c v hc r => k c v ?_ r) (fun c r => by rw [aV (nown c b r)]; exact r) fun c xs r => by rw [aV (ntup c xs r)]; exact r
   rcases hc with rfl|hc
   ·exact hbe
   ·rintro rfl
    rcases he with z|z
    ·exact nown c b hc z
    ·rw[hc]at z;cases z;exact hb rfl
end
structure Un(fs ex:List Addr)(H H':Hp)(h h':Heap):Prop where
 keep:∀b o,h.get? b=some o->H b=none->b∉fs->b∉ex->h'.get? b=some o
 slot:∀b o,h.get? b=some o->H b=none->b∈fs->b∉ex->∃sl,h'.get? b=some {o with slots:=sl}
 free:∀b o,h.get? b=some o->H b=none->b∉ex->H' b=none
 there:∀b o,h.get? b=some o->b∉ex->∃o',h'.get? b=some o'
 tups:∀b xs,H b=some (.tup xs)->H' b=some (.tup xs)
 frzs:∀b o u,H b=some (.frz o u)->H' b=some (.frz o u)
 tbls:∀b ps,H b=some (.tbl ps)->∃more,H' b=some (.tbl (ps++more))
section
variable{fs fs' ex ex':List Addr}{H H1 H2:Hp}{h h1 h2:Heap}{x e:Addr}{o:HO}
theorem Un.any(u:Un fs ex H H1 h h1){ob:Obj}(q:h.get? b=some ob)(n:H b=none)(hx:b∉ex):∃sl,h1.get? b=some {ob with slots:=sl}:=by
 by_cases hb:b∈fs
 ·exact u.slot b ob q n hb hx
 ·exact⟨ob.slots,u.keep b ob q n hb hx⟩
theorem Un.kept(k:∀b u,h.get? b=some u->h'.get? b=some u):Un fs ex H H h h':=
 ⟨fun b ob q _ _ _=>k b ob q,fun b ob q _ _ _=>⟨ob.slots,k b ob q⟩,fun _ _ _ n _=>n,fun b ob q _=>⟨ob,k b ob q⟩,fun _ _ q=>q,fun _ _ _ q=>q,fun _ ps q=>⟨#[],by rw[q];simp⟩⟩
theorem Un.refl:Un fs ex H H h h:=Un.kept fun _ _ q=>q
theorem Un.laid(k:∀b u,h.get? b=some u->h'.get? b=some u)(hp:h.objs.size<=a)(hn:H a=none):Un fs ex H (b9 H a o) h h' where
 keep:=fun b u q _ _ _=>k b u q
 slot:=fun b u q _ _ _=>⟨u.slots,k b u q⟩
 free:=fun b u q n _=>by rw[aV (OF (OD (OC q) hp))];exact n
 there:=fun b u q _=>⟨u,k b u q⟩
 tups:=fun b xs q=>by rw[aV (bQ q hn)];exact q
 frzs:=fun b u xs q=>by rw[aV (bQ q hn)];exact q
 tbls:=fun b ps q=>⟨#[],by rw[aV (bQ q hn),q];simp⟩
theorem Un.write(mu:ML (H x))(he:e=x\/H e=some (.own x))(k:∀b u,b≠e->h.get? b=some u->h'.get? b=some u)(heo:∃u,h'.get? e=some u):Un fs ex H (b9 H x o) h h':=by
 have hx:∀b,H b=none->b≠x:=fun b n z=>by subst z;rw[n]at mu;exact mu
 have hb:∀b,H b=none->b≠e:=fun b n z=>by
  subst z;rcases he with r|r
  ·exact hx b n r
  ·rw[n]at r;cases r
 have hm:∀b u,H b=some u->¬ ML (some u)->b≠x:=fun b u q nm z=>by subst z;rw[q]at mu;exact nm mu
 refine⟨fun b u q n _ _=>k b u (hb b n) q,fun b u q n _ _=>⟨u.slots,k b u (hb b n) q⟩,fun b u q n _=>by rw[aV (hx b n)];exact n,fun b u q _=>?_,
  fun b xs q=>by rw[aV (hm b _ q fun z=>z)];exact q,fun b u xs q=>by rw[aV (hm b _ q fun z=>z)];exact q,fun b ps q=>⟨#[],by rw[aV (hm b _ q fun z=>z),q];simp⟩⟩
 by_cases hbe:b=e
 ·subst hbe;exact heo
 ·exact⟨u,k b u hbe q⟩
end
def Mt(h:Heap)(H:Hp):List Addr:=(List.range h.objs.size).filter fun a=>(H a).isSome
def sX(h:Heap)(H:Hp):Heap:=W.hideAll h (Mt h H)
theorem AJ(h:Heap)(H:Hp):(sX h H).objs.size=h.objs.size:=W.hideAll_size _ _
theorem DE{h:Heap}{H:Hp}{o:Obj}(e:h.get? b=some o)(n:H b=none):(sX h H).get? b=some o:=
 W.hideAll_get _ e fun hm=>by
  have q:(H b).isSome=true:=(OG.mp hm).2;rw[n]at q;simp at q
theorem FP{h:Heap}{H:Hp}{o:Obj}(e:(sX h H).get? b=some o):h.get? b=some o/\H b=none:=by
 have e':h.get? b=some o:=W.of_hideAll (Mt h H) e;refine⟨e',?_⟩;cases q:H b with
 |none=>rfl
 |some x=>
  have hm:b∈Mt h H:=OG.mpr ⟨OH.mpr (OC e'),by simp[q]⟩;have z:(sX h H).get? b=none:=W.hideAll_none (Mt h H) hm;rw[z]at e;cases e
end L2
variable{H:L2.Hp}{vs:List L2.V}{v:L2.V}{o:L2.HO}{H0:L2.Hp}
namespace L2
open PySem PySem.Spec PyProof.Rows
structure Mod(K:W.Frag)(mg:Str->Option Value)(base:Heap):Prop where
 kin:K.In base
 glob:base.Ns mainGlobals mg
 blt:∃mb,base.Ns builtinsNs mb/\∀x:Str,x ≠ "__name__" -> mb x=bootBuiltins x
 nolimit:base.NoLimit
structure Cx where
 prog:Program
 w:World
 K:W.Frag
 mg:Str->Option Value
 base:Heap
 A:Around
 N:List Str
 s₀:Shared
 H₀:Hp
 env:Env
 outer:List Env
 stack:List Env
 ex:List Addr
 fn:Str->Bool
 calm:Bool
 pn:List (Addr×Obj)
 xe:Value->Shared->Prop
def pM(l:List Env):List Addr:=l.filterMap (·.frame)
abbrev Cx.fs(X:Cx):List Addr:=pM X.outer
def Hi(sc:Scope)(x:Str):Prop:=sc.names.lookup x=some .local\/sc.names.lookup x=some .cell\/sc.names.lookup x=some .free
def D6(sc:Scope)(x:Str):Prop:=sc.names.lookup x=some .local\/sc.names.lookup x=some .cell
def NY(env:Env)(h:Heap)(m:Str->Option Value)(x:Str)(u:Value):Prop:=
 (env.kindOf x=some .local/\m x=some u)\/((env.kindOf x=some .cell\/env.kindOf x=some .free)/\∃c,env.cells.lookup x=some c/\h.IsCell c (some u))
structure Cx.Ok(X:Cx):Prop where
 mod:Mod X.K X.mg X.base
 kind:X.env.scope.kind=.function
 glob:X.env.globals=mainGlobals
 blt:X.env.builtins=builtinsNs
 above:X.s₀.heap.objs.size<=X.env.locals
 inj:∀x y c,X.env.cells.lookup x=some c->X.env.cells.lookup y=some c->x=y
 has:∀x,(X.env.kindOf x=some .cell\/X.env.kindOf x=some .free)->∃c,X.env.cells.lookup x=some c
 cab:∀x c,X.fn x=true->X.env.cells.lookup x=some c->X.s₀.heap.objs.size<=c
 hd:X.calm=true->X.A.handled=none
 frames:X.A.frames=some X.stack
 stk:X.stack=X.outer\/(X.stack=X.env::X.outer/\X.env.frame=some X.env.locals)
 exf:∀b∈X.ex,b≠X.env.locals/\∀x c,X.env.cells.lookup x=some c->c≠b
 bs:∀b o,X.base.get? b=some o->X.s₀.heap.get? b=some o/\X.H₀ b=none
 bsz:X.base.objs.size<=X.s₀.heap.objs.size
 noex:∀b o,X.base.get? b=some o->b∉X.ex
 exfs:∀b∈X.ex,b∉X.fs
 funs:X.s₀.heap.FunFrames X.base X.outer
 frf:∀b∈X.fs,X.H₀ b=none
structure aX(X:Cx)(pins:List (Addr×Obj))(B:List (Option V))(H:Hp)(s:Shared):Prop where
 ok:X.Ok
 os:s.os=X.s₀.os
 bare:AllBare s.gens
 base:Un X.fs X.ex X.H₀ H X.s₀.heap s.heap
 loc:∃m,s.heap.Ns X.env.locals m/\∀(i:Nat)(x:Str)(v:V),X.N[i]?=some x->B[i]?=some (some v)->Hi X.env.scope x->∃u,bU v u/\NY X.env s.heap m x u
 cell:∀x c,X.env.cells.lookup x=some c->∃v,s.heap.IsCell c v
 free:H X.env.locals=none
 freeC:∀x c,X.env.cells.lookup x=some c->H c=none
 pin:∀p∈X.pn++pins,s.heap.get? p.1=some p.2/\H p.1=none/\p.1≠X.env.locals/\p.1∉X.fs/\∀v,p.2.data≠.cell v
 hok:nr X.prog X.w H s.heap
 len:B.length=X.N.length
section
variable{X:Cx}{B:List (Option V)}{H':Hp}
theorem Cx.Ok.nofr(ok:X.Ok){o:Obj}(e:X.base.get? b=some o):b∉X.fs:=fun hb=>by
 have:=(ok.funs.mem hb).1;rw[e]at this;cases this
theorem aX.bs(I:aX X pins B H s):∀b o,X.base.get? b=some o->s.heap.get? b=some o/\H b=none:=fun b o e=>
 ⟨I.base.keep b o (I.ok.bs b o e).1 (I.ok.bs b o e).2 (I.ok.nofr e) (I.ok.noex b o e),I.base.free b o (I.ok.bs b o e).1 (I.ok.bs b o e).2 (I.ok.noex b o e)⟩
theorem aX.bk(I:aX X pins B H s):∀b o,X.base.get? b=some o->s.heap.get? b=some o:=fun b o e=>(I.bs b o e).1
theorem aX.mod(I:aX X pins B H s):Mod X.K X.mg X.base:=I.ok.mod
theorem aX.kIn(I:aX X pins B H s):X.K.In s.heap:=I.ok.mod.kin.keeps I.bk
theorem aX.lt(I:aX X pins B H s):X.env.locals<s.heap.objs.size:=let ⟨_,hn,_⟩:=I.loc;hn.lt
theorem aX.sz(I:aX X pins B H s):X.s₀.heap.objs.size<=s.heap.objs.size:=OI I.ok.above (OJ I.lt)
theorem aX.nofs(I:aX X pins B H s)(h:s.heap.objs.size<=a):a∉X.fs:=fun hb=>by
 obtain⟨_,o,ho,_⟩:=I.ok.funs.mem hb;exact absurd (OD (OC ho) (OI I.sz h)) (OE _)
theorem aX.cne(I:aX X pins B H s):∀x c,X.env.cells.lookup x=some c->c≠X.env.locals:=fun x c e z=>by
 obtain⟨v,o,ho,hd⟩:=I.cell x c e;obtain⟨m,⟨o',es,ep,ho',hd',_⟩,_⟩:=I.loc;rw[z,ho']at ho;cases ho;rw[hd']at hd;cases hd
theorem aX.funs(I:aX X pins B H s):s.heap.FunFrames X.base X.outer:=by
 have all:∀(l:List Env),(∀b∈pM l,b∈X.fs)->X.s₀.heap.FunFrames X.base l->s.heap.FunFrames X.base l:=by
  intro l
  induction l with
  |nil=>intro _ _;trivial
  |cons env r ih=>
   intro hs hl;obtain⟨hk,⟨L,o,hf,hn,ho,hd⟩,hr⟩:=hl;have hL:L∈X.fs:=hs L (by unfold pM;rw[OK,hf];exact OL);obtain⟨sl,e⟩:=I.base.slot L o ho (I.ok.frf L hL) hL fun z=>I.ok.exfs L z hL;exact⟨hk,⟨L,_,hf,hn,e,hd⟩,ih (fun b hb=>hs b (by unfold pM;rw[OK,hf];exact OM _ hb)) hr⟩
 exact all X.outer (fun _ hb=>hb) I.ok.funs
theorem aX.stack(I:aX X pins B H s):s.heap.FunFrames X.base X.stack:=by
 rcases I.ok.stk with e|⟨e,hf⟩
 ·rw[e];exact I.funs
 ·rw[e];obtain⟨m,hn,_⟩:=I.loc;refine .cons (by rw[I.ok.kind];decide) hf hn ?_ I.funs;exact ON (OI I.ok.bsz I.ok.above)
theorem aX.stkSub(I:aX X pins B H s):∀b∈pM X.stack,b∈X.env.locals::X.fs:=fun b hb=>by
 rcases I.ok.stk with e|⟨e,hf⟩
 ·rw[e]at hb;exact OM _ hb
 ·rw[e]at hb;unfold pM at hb;rw[OK,hf]at hb;exact hb
theorem aX.stkFree(I:aX X pins B H s):∀b∈pM X.stack,H b=none:=fun b hb=>by
 rcases OO.mp (I.stkSub b hb) with e|hb
 ·rw[e];exact I.free
 ·obtain⟨_,o,ho,_⟩:=I.ok.funs.mem hb;exact I.base.free b o ho (I.ok.frf b hb) fun z=>I.ok.exfs b z hb
theorem aX.step{d':Drawn}(I:aX X pins B H s)(hch:∀b∈ch,(b∈X.ex\/X.s₀.heap.objs.size<=b)/\b≠X.env.locals/\(∀x c,X.env.cells.lookup x=some c->c≠b)/\∀p∈X.pn++pins,p.1≠b)(keep:∀b o,b≠X.env.locals->b∉X.fs->b∉ch->s.heap.get? b=some o->H b=none->h'.get? b=some o)(slot:∀b o,b≠X.env.locals->b∈X.fs->b∉ch->s.heap.get? b=some o->H b=none->∃sl,h'.get? b=some {o with slots:=sl})(free:∀b o,b∉ch->s.heap.get? b=some o->H b=none->H' b=none)(there:∀b o,b∉ch->s.heap.get? b=some o->∃o',h'.get? b=some o')(tups:∀b xs,H b=some (.tup xs)->H' b=some (.tup xs))(frzs:∀b o u,H b=some (.frz o u)->H' b=some (.frz o u))(tbls:∀b ps,H b=some (.tbl ps)->∃more,H' b=some (.tbl (ps++more)))(ns:∀m,s.heap.Ns X.env.locals m->h'.Ns X.env.locals m)(hok:nr X.prog X.w H' h')(hg:AllBare g'):
  aX X pins B H' {s with heap:=h',gens:=g',drawn:=d',toks:=t'}:=by
 have neL:∀b o,X.s₀.heap.get? b=some o->b≠X.env.locals:=fun b o e=>OF (OD (OC e) I.ok.above)
 have neC:∀b o,X.s₀.heap.get? b=some o->b∉X.ex->b∉ch:=fun b o e hx hb=>by
  rcases (hch b hb).1 with z|z
  ·exact hx z
  ·exact absurd (OD (OC e) z) (OE _)
 have cellK:∀x c,X.env.cells.lookup x=some c->∀v,s.heap.IsCell c v->h'.IsCell c v:=fun x c e v ⟨o,ho,hd⟩=>by
  have nch:c∉ch:=fun z=>(hch c z).2.2.1 x c e rfl;by_cases hc:c∈X.fs
  ·obtain⟨sl,q⟩:=slot c o (I.cne x c e) hc nch ho (I.freeC x c e);exact⟨_,q,hd⟩
  ·exact⟨o,keep c o (I.cne x c e) hc nch ho (I.freeC x c e),hd⟩
 refine⟨I.ok,I.os,hg,⟨fun b o e n hb hx=>?_,fun b o e n hb hx=>?_,fun b o e n hx=>?_,fun b o e hx=>?_,fun b xs e=>tups b xs (I.base.tups b xs e),fun b o xs e=>frzs b o xs (I.base.frzs b o xs e),fun b ps e=>?_⟩,?_,fun x c e=>?_,?_,fun x c e=>?_,fun p hp=>?_,hok,I.len⟩
 ·exact keep b o (neL b o e) hb (neC b o e hx) (I.base.keep b o e n hb hx) (I.base.free b o e n hx)
 ·obtain⟨sl,e1⟩:=I.base.slot b o e n hb hx;obtain⟨sl',e2⟩:=slot b _ (neL b o e) hb (neC b o e hx) e1 (I.base.free b o e n hx);exact⟨sl',e2⟩
 ·obtain⟨o',e1⟩:=I.base.there b o e hx;exact free b o' (neC b o e hx) e1 (I.base.free b o e n hx)
 ·obtain⟨o',e1⟩:=I.base.there b o e hx;exact there b o' (neC b o e hx) e1
 ·obtain⟨m1,e1⟩:=I.base.tbls b ps e;obtain⟨m2,e2⟩:=tbls b _ e1;exact⟨m1++m2,by rw[e2,Array.append_assoc]⟩
 ·obtain ⟨m, hn, hl⟩ := I.loc;refine⟨m,ns m hn,fun i x v e1 e2 e3=>?_⟩;obtain⟨u,r,l⟩:=hl i x v e1 e2 e3;refine⟨u,r,?_⟩;rcases l with l|⟨k,c,e,z⟩
  ·exact .inl l
  ·exact .inr ⟨k,c,e,cellK x c e _ z⟩
 ·obtain⟨v,z⟩:=I.cell x c e;exact⟨v,cellK x c e v z⟩
 ·obtain⟨m,⟨o,_,_,ho,_⟩,_⟩:=I.loc;exact free _ o (fun z=>(hch _ z).2.1 rfl) ho I.free
 ·obtain⟨v,o,ho,hd⟩:=I.cell x c e;exact free c o (fun z=>(hch c z).2.2.1 x c e rfl) ho (I.freeC x c e)
 ·obtain⟨e,n,ne,nf,d⟩:=I.pin p hp;have nch:p.1∉ch:=fun z=>(hch p.1 z).2.2.2 p hp rfl;exact⟨keep p.1 p.2 ne nf nch e n,free p.1 p.2 nch e n,ne,nf,d⟩
theorem aX.un(I:aX X pins B H s)(u:Un X.fs [] H H' s.heap h')(hok:nr X.prog X.w H' h'):aX X pins B H' {s with heap:=h',toks:=t'}:=by
 obtain⟨m,⟨o,es,ep,ho,r⟩,_⟩:=id I.loc;obtain⟨sl,hL⟩:=u.any ho I.free (by simp)
 exact I.step (g':=s.gens) (d':=s.drawn) (ch:=[]) (fun _ z=>nomatch z) (fun b o _ hb _ e n=>u.keep b o e n hb (by simp)) (fun b o _ hb _ e n=>u.slot b o e n hb (by simp)) (fun b o _ e n=>u.free b o e n (by simp)) (fun b o _ e=>u.there b o e (by simp)) u.tups u.frzs u.tbls (fun m' hm=>by
  obtain⟨o',es',ep',ho',r'⟩:=hm;rw[ho]at ho';cases ho'
  exact⟨_,es',ep',hL,r'⟩) hok I.bare
theorem aX.call{d':Drawn}(I:aX X pins B H s)(u:Un (pM X.stack) ch H H' s.heap h')(hok:nr X.prog X.w H' h')(hg:AllBare g')(hch:∀b∈ch,(b∈X.ex\/X.s₀.heap.objs.size<=b)/\b≠X.env.locals/\(∀x c,X.env.cells.lookup x=some c->c≠b)/\∀p∈X.pn++pins,p.1≠b):
  aX X pins B H' {s with heap:=h',gens:=g',drawn:=d',toks:=t'}:=by
 obtain⟨m,⟨o,es,ep,ho,r⟩,_⟩:=id I.loc;obtain⟨sl,hL⟩:=u.any ho I.free fun z=>(hch _ z).2.1 rfl
 exact I.step (ch:=ch) hch (fun b o hL hb hc e n=>u.keep b o e n (fun z=>(OO.mp (I.stkSub b z)).elim hL hb) hc) (fun b o _ _ hc e n=>u.any e n hc) (fun b o hc e n=>u.free b o e n hc) (fun b o hc e=>u.there b o e hc) u.tups u.frzs u.tbls (fun m' hm=>by
  obtain⟨o',es',ep',ho',r'⟩:=hm;rw[ho]at ho';cases ho'
  exact⟨_,es',ep',hL,r'⟩) hok hg
theorem aX.turned(I:aX X pins B H s)(k:∀b o,b≠it->s.heap.get? b=some o->h'.get? b=some o)(hn:H it=none)(hL:it≠X.env.locals)(h1:it∈X.ex\/X.s₀.heap.objs.size<=it)(h2:∀x c,X.env.cells.lookup x=some c->c≠it)(h3:∀p∈X.pn++pins,p.1≠it):aX X pins B H {s with heap:=h',toks:=t'}:=by
 have nit:∀b u,H b=some u->b≠it:=fun b u e z=>by rw[z,hn]at e;cases e
 refine I.step (g':=s.gens) (d':=s.drawn) (ch:=[it]) (fun b hb=>?_) (fun b o _ _ hc e _=>k b o (fun z=>hc (by simp[z])) e) (fun b o _ _ hc e _=>⟨o.slots,k b o (fun z=>hc (by simp[z])) e⟩) (fun _ _ _ _ n=>n)
  (fun b o hc e=>⟨o,k b o (fun z=>hc (by simp[z])) e⟩) (fun _ _ e=>e) (fun _ _ _ e=>e) (fun b ps e=>⟨#[],by rw[e];simp⟩) (fun m hm=>?_) (fun b u e=>?_) I.bare
 ·have e : b = it := by simpa using hb
  subst e;exact⟨h1,hL,h2,h3⟩
 ·obtain⟨o,es,ep,ho,r⟩:=hm;exact⟨o,es,ep,k _ o (OP hL) ho,r⟩
 ·refine (I.hok b u e).stay (fun c v hc q => k c v ?_ q) (fun _ q => q) fun _ _ q => q;rcases hc with z|z
  ·rw[z];exact nit b u e
  ·exact nit c _ z
theorem aX.tok(I:aX X pins B H s)(t:Nat):aX X pins B H {s with toks:=t}:=I.un (h':=s.heap) (t':=t) Un.refl I.hok
theorem aX.kept(I:aX X pins B H s)(k:∀b u,s.heap.get? b=some u->h'.get? b=some u):aX X pins B H {s with heap:=h',toks:=t'}:=I.un (Un.kept k) (I.hok.kept k)
theorem aX.laid(I:aX X pins B H s)(k:∀b u,s.heap.get? b=some u->h'.get? b=some u)(hp:s.heap.objs.size<=a)(new:dk X.prog X.w (b9 H a o) h' a o):
  aX X pins B (b9 H a o) {s with heap:=h',toks:=t'}:=I.un (Un.laid k hp (I.hok.fresh hp)) (I.hok.laid k hp new)
theorem aX.write{x e:Addr}(I:aX X pins B H s)(mu:ML (H x))(he:e=x\/H e=some (.own x))(k:∀b u,b≠e->s.heap.get? b=some u->h'.get? b=some u)(heo:∃u,h'.get? e=some u)(new:dk X.prog X.w (b9 H x o) h' x o):aX X pins B (b9 H x o) {s with heap:=h',toks:=t'}:=I.un (Un.write mu he k heo) (I.hok.write mu he k heo new)
theorem aX.pins_of{pins':List (Addr×Obj)}(I:aX X pins B H s)(h:∀p∈pins',s.heap.get? p.1=some p.2/\H p.1=none/\p.1≠X.env.locals/\p.1∉X.fs/\∀v,p.2.data≠.cell v):aX X pins' B H s:=
 ⟨I.ok,I.os,I.bare,I.base,I.loc,I.cell,I.free,I.freeC,fun p hp=>(OQ.mp hp).elim (fun z=>I.pin p (OR _ z)) (h p),I.hok,I.len⟩
theorem vL(hN:N.Nodup)(a:N[i]?=some x)(b:N[j]?=some x):i=j:=by
 obtain⟨h1,e1⟩:=OS.mp a;obtain⟨h2,e2⟩:=OS.mp b;exact(OT hN).mp (e1.trans e2.symm)
theorem se{M:Model}{Q:Unit->Shared->Prop}(I:aX X pins B H s)(hN:X.N.Nodup)(hi:X.N[i]?=some x)(hx:D6 X.env.scope x)(r:bU v u)(h:∀s',aX X pins (B.set i (some v)) H s'->(∃a,Heap.SameBut a s.heap s'.heap/\(a=X.env.locals\/X.env.cells.lookup x=some a))->Q () s')(hf:X.fn x=true\/X.env.scope.names.lookup x=some .local:=by first|exact .inl rfl|exact .inr rfl|assumption):wpAny M A (storeName X.env x u) Q E s:=by
 obtain⟨m,hn,hl⟩:=id I.loc;have hcls:(X.env.scope.kind == .class || (X.env.scope.kind == .module&&X.env.locals != X.env.globals))=false:=by rw[I.ok.kind];rfl
 have hiσ:i<B.length:=by rw[I.len];exact(OS.mp hi).1
 have cne:=I.cne
 have tracked:∀{a:Addr}{h':Heap},(∃o,s.heap.get? a=some o/\H a=none)->Heap.SameBut a s.heap h'->nr X.prog X.w H h':=fun {a h'} ha hs b ob e=>by
  obtain⟨_,_,hfree⟩:=ha;refine(I.hok b ob e).stay (fun c w' hc q=>(hs.2 c ?_).trans q) (fun _ q=>q) fun _ _ q=>q
  rintro rfl
  rcases hc with rfl|hc
  ·rw[hfree]at e;cases e
  ·rw[hfree]at hc;cases hc
 rcases hx with hk|hk
 ·refine wpAny_storeName_local hk hn (fun h' hn' hs => ?_) hcls;obtain⟨oL,_,_,hoL,_⟩:=id hn;refine h _ ⟨I.ok,I.os,I.bare,⟨fun b o e n hb hx=>?_,fun b o e n hb hx=>?_,I.base.free,fun b o e hx=>?_,I.base.tups,I.base.frzs,I.base.tbls⟩,⟨_,hn',fun j y v' e1 e2 e3=>?_⟩,fun y c e=>?_,I.free,I.freeC,fun p hp=>?_,tracked ⟨oL,hoL,I.free⟩ hs,by simpa using I.len⟩ ⟨_,hs,.inl rfl⟩
  ·exact(hs.2 b (OF (OD (OC e) I.ok.above))).trans (I.base.keep b o e n hb hx)
  ·obtain⟨sl,e1⟩:=I.base.slot b o e n hb hx;exact⟨sl,(hs.2 b (OF (OD (OC e) I.ok.above))).trans e1⟩
  ·obtain⟨o',e1⟩:=I.base.there b o e hx;exact⟨o',(hs.2 b (OF (OD (OC e) I.ok.above))).trans e1⟩
  ·by_cases hj : j = i
   ·subst hj;rw[hi]at e1;cases e1;rw[OU hiσ]at e2;cases e2;exact⟨u,r,.inl ⟨hk,by simp⟩⟩
   ·rw [OV (OP hj)] at e2;obtain⟨u',r',q⟩:=hl j y v' e1 e2 e3;refine⟨u',r',?_⟩;rcases q with⟨k,e⟩|⟨k,c,e,z⟩
    ·refine .inl ⟨k,?_⟩;have:y≠x:=fun e=>hj (vL hN e1 (e ▸ hi));simp[this,e]
    ·exact .inr ⟨k,c,e,z.sameBut hs (cne y c e)⟩
  ·obtain⟨w',z⟩:=I.cell y c e;exact⟨w',z.sameBut hs (cne y c e)⟩
  ·obtain⟨e,n,ne,nf,d⟩:=I.pin p hp;exact⟨(hs.2 p.1 ne).trans e,n,ne,nf,d⟩
 ·have hfn:X.fn x=true:=by
   rcases hf with z|z
   ·exact z
   ·rw[z]at hk;cases hk
  obtain⟨c,hc⟩:=I.ok.has x (.inl hk);obtain⟨w',z⟩:=I.cell x c hc;refine wpAny_storeName_cell I.ok.kind hk hc z (fun h' hc' hs=>?_);obtain⟨oc,hoc,hocd⟩:=id z;refine h {s with heap:=h'} ⟨I.ok,I.os,I.bare,⟨fun b o e n hb hx=>?_,fun b o e n hb hx=>?_,I.base.free,fun b o e hx=>?_,I.base.tups,I.base.frzs,I.base.tbls⟩,⟨m,hn.sameBut hs (OP (cne x c hc)),fun j y v' e1 e2 e3=>?_⟩,fun y c' e=>?_,I.free,I.freeC,fun p hp=>?_,tracked ⟨oc,hoc,I.freeC x c hc⟩ hs,by simpa using I.len⟩ ⟨c,hs,.inr hc⟩
  ·exact(hs.2 b (OF (OD (OC e) (I.ok.cab x c hfn hc)))).trans (I.base.keep b o e n hb hx)
  ·obtain⟨sl,e1⟩:=I.base.slot b o e n hb hx;exact⟨sl,(hs.2 b (OF (OD (OC e) (I.ok.cab x c hfn hc)))).trans e1⟩
  ·obtain⟨o',e1⟩:=I.base.there b o e hx;exact⟨o',(hs.2 b (OF (OD (OC e) (I.ok.cab x c hfn hc)))).trans e1⟩
  ·by_cases hj : j = i
   ·subst hj;rw[hi]at e1;cases e1;rw[OU hiσ]at e2;cases e2;exact⟨u,r,.inr ⟨.inl hk,c,hc,hc'⟩⟩
   ·rw [OV (OP hj)] at e2;obtain⟨u',r',q⟩:=hl j y v' e1 e2 e3;refine⟨u',r',?_⟩;rcases q with q|⟨k,c',e,z'⟩
    ·exact .inl q
    ·refine .inr ⟨k, c', e, z'.sameBut hs ?_⟩
     rintro rfl
     exact hj (vL hN e1 (I.ok.inj _ _ _ e hc ▸ hi))
  ·by_cases hcc : c' = c
   ·subst hcc;exact⟨_,hc'⟩
   ·obtain⟨w2,z2⟩:=I.cell y c' e;exact⟨w2,z2.sameBut hs hcc⟩
  ·obtain⟨e,n,ne,nf,d⟩:=I.pin p hp;refine⟨(hs.2 p.1 ?_).trans e,n,ne,nf,d⟩;intro q;rw[q,hoc]at e;have q':oc=p.2:=Ou e;exact d w' (by rw[<- q'];exact hocd)
theorem ko{M:Model}{Q:Unit->Shared->Prop}(I:aX X pins B H s)(hN:X.N.Nodup)(hi:X.N[i]?=some x)(hx:D6 X.env.scope x)(r:bU v u)(h:∀s',aX X pins (B.set i (some v)) H s'->Q () s')(hf:X.fn x=true\/X.env.scope.names.lookup x=some .local:=by first|exact .inl rfl|exact .inr rfl|assumption):wpAny M A (storeName X.env x u) Q E s:=
 se I hN hi hx r (fun s' I' _=>h s' I') hf
theorem aX.call'(I:aX X pins B H s)(ho:s'.os=s.os)(u:Un (pM X.stack) ch H H' s.heap s'.heap)(hok:nr X.prog X.w H' s'.heap)(hg:AllBare s'.gens)(hch:∀b∈ch,(b∈X.ex\/X.s₀.heap.objs.size<=b)/\b≠X.env.locals/\(∀x c,X.env.cells.lookup x=some c->c≠b)/\∀p∈X.pn++pins,p.1≠b):aX X pins B H' s':=by
 obtain⟨h',g',d',t',o'⟩:=s';have e:o'=s.os:=ho;subst e;exact I.call (g':=g') (t':=t') (d':=d') u hok hg hch
end
abbrev XK:=Value->Option Addr->Hp->Prop
abbrev St:=List (Option V)
abbrev VK:=V->Hp->Prop
abbrev TE:=St->Hp->VK->Prop
abbrev TT:=St->Hp->(Bool->Hp->Prop)->Prop
abbrev TA:=St->Hp->(List V->Hp->Prop)->Prop
structure nv where
 nx:St->Hp->Prop
 rt:VK
 bk:St->Hp->Prop:=fun _ _=>False
 ct:St->Hp->Prop:=fun _ _=>False
abbrev TS:=nv->St->Hp->Prop
def EP(X:Cx)(pins:List (Addr×Obj))(B:St)(Q:VK)(u:Value)(s':Shared):Prop:=∃v H',aX X pins B H' s'/\bU v u/\Q v H'
def TP(X:Cx)(pins:List (Addr×Obj))(B:St)(Q:Bool->Hp->Prop)(b:Bool)(s':Shared):Prop:=∃H',aX X pins B H' s'/\Q b H'
def AP(X:Cx)(pins:List (Addr×Obj))(B:St)(Q:List V->Hp->Prop)(us:List Value)(s':Shared):Prop:=∃vs H',aX X pins B H' s'/\br vs us/\Q vs H'
def SP(X:Cx)(pins:List (Addr×Obj))(D:nv)(f:Flow)(s':Shared):Prop:=
 match f with
 |.next=>∃B' H',aX X pins B' H' s'/\D.nx B' H'
 |.brk=>∃B' H',aX X pins B' H' s'/\D.bk B' H'
 |.cont=>∃B' H',aX X pins B' H' s'/\D.ct B' H'
 |.ret u=>∃v B' H',aX X pins B' H' s'/\bU v u/\D.rt v H'
def PE(X:Cx)(e:Expr)(t:TE):Prop:=
 ∀(pins:List (Addr×Obj))(s:Shared)(B:St)(H:Hp)(Q:VK),aX X pins B H s->t B H Q->wpAny (model X.prog X.w) X.A (eval e X.env) (EP X pins B Q) X.xe s
def PT(X:Cx)(e:Expr)(t:TT):Prop:=
 ∀(pins:List (Addr×Obj))(s:Shared)(B:St)(H:Hp)(Q:Bool->Hp->Prop),aX X pins B H s->t B H Q->wpAny (model X.prog X.w) X.A (isTrue e X.env (eval e X.env)) (TP X pins B Q) X.xe s
def PW(X:Cx)(e:Expr)(t:TT):Prop:=
 ∀(whole:Sem Value)(pins:List (Addr×Obj))(s:Shared)(B:St)(H:Hp)(Q:Bool->Hp->Prop),aX X pins B H s->t B H Q->wpAny (model X.prog X.w) X.A (isTrue e X.env whole) (TP X pins B Q) X.xe s
theorem PW.pt{X:Cx}{t:TT}(h:PW X e t):PT X e t:=h _
def PA(X:Cx)(es:List Expr)(t:TA):Prop:=
 ∀(pos:Pos)(pins:List (Addr×Obj))(s:Shared)(B:St)(H:Hp)(Q:List V->Hp->Prop),aX X pins B H s->t B H Q->wpAny (model X.prog X.w) X.A (spliced (backTo pos (starEach es X.env))) (AP X pins B Q) X.xe s
def PS(X:Cx)(st:Stmt)(t:TS):Prop:=
 ∀(pins:List (Addr×Obj))(s:Shared)(B:St)(H:Hp)(D:nv),aX X pins B H s->t D B H->wpAny (model X.prog X.w) X.A (exec st X.env) (SP X pins D) X.xe s
def jy(X:Cx)(st:List Stmt)(t:TS):Prop:=
 ∀(pins:List (Addr×Obj))(s:Shared)(B:St)(H:Hp)(D:nv),aX X pins B H s->t D B H->wpAny (model X.prog X.w) X.A (execs st X.env) (SP X pins D) X.xe s
theorem cY{J:Type}{t:Sem J}{Q Q':J->Shared->Prop}{M:Model}(h:wpAny M A t Q E s)(hQ:∀a s,Q a s->Q' a s):wpAny M A t Q' E s:=OW h hQ fun _ _ x=>x
end L2
variable{B:L2.St}{r:L2.V->Option Int->Option Int->L2.Hp->L2.VK->Prop}{rr:L2.V->List L2.V->L2.Hp->L2.VK->Prop}{te:L2.TE}{ta:L2.TA}
namespace L2
open PySem PySem.Spec PyProof.Rows
section
variable{X:Cx}
def KC(i:Nat):TE:=fun B H Q=>∃v,B[i]?=some (some v)/\Q v H
def tC(v:V):TE:=fun _ H Q=>Q v H
theorem xC(hN:X.N[i]?=some x)(hv:Hi X.env.scope x)(hd:(x == ("__debug__" : Str))=false:=by decide)(hcd:(x == ("__classdict__" : Str))=false:=by decide):PE X (.Name x pos) (KC i):=by
 intro pins s B H Q I h;obtain⟨v,e,h⟩:=h;obtain⟨m,hn,hl⟩:=I.loc;obtain⟨u,r,l⟩:=hl i x v hN e hv;have fin:EP X pins B Q u s:=⟨v,H,I,r,h⟩;rcases l with⟨hk,hm⟩|⟨hk,c,hc,hcell⟩
 ·exact wpAny_Name (wpAny_loadName_local I.ok.kind hk hn hm fin) hd
 ·rcases hk with hk | hk
  ·exact wpAny_Name (wpAny_loadName_cell I.ok.kind hk hc hcell fin) hd
  ·exact wpAny_Name (wpAny_loadName_free I.ok.kind hk hc hcell fin hcd) hd
theorem Jh{i j pos}:PE X (.Constant (.int i) j pos) (tC (.int i)):=fun _ _ _ H _ I h=>wpAny_Constant_int ⟨.int i,H,I.tok _,⟨_,rfl⟩,h⟩
theorem LO{b j pos}:PE X (.Constant (.bool b) j pos) (tC (.bl b)):=fun _ _ _ H _ I h=>Constant_bool ⟨.bl b,H,I,rfl,h⟩
theorem Jf{j pos}:PE X (.Constant .none j pos) (tC .non):=fun _ _ _ H _ I h=>Constant_none ⟨.non,H,I,rfl,h⟩
theorem Jc{x j pos}:PE X (.Constant (.str x) j pos) (tC (.str x)):=fun _ _ _ H _ I h=>OX ⟨.str x,H,I.tok _,⟨_,rfl⟩,h⟩
def Gl(X:Cx)(x:Str):Prop:=X.env.kindOf x=some .globalImplicit
theorem kP(I:aX X pins B H s)(hg:Gl X x)(hm:X.mg x=some u)(h:Q u s)(hd:(x == ("__debug__" : Str))=false:=by decide):wpAny (model X.prog X.w) X.A (eval (.Name x pos) X.env) Q E s:=
 Calls.Name_function_global I.ok.kind hg (Calls.loadGlobal_global (by rw[I.ok.glob];exact I.mod.glob.keeps I.bk) hm h) hd
theorem lX(I:aX X pins B H s)(hg:Gl X x)(hm:X.mg x=none)(hv:bootBuiltins x=some u)(h:Q u s)(hn:x ≠ "__name__" := by decide)(hd:(x == ("__debug__" : Str))=false:=by decide):wpAny (model X.prog X.w) X.A (eval (.Name x pos) X.env) Q E s:=by
 obtain⟨mb,h1,h2⟩:=I.mod.blt;exact Calls.Name_function_global I.ok.kind hg (Calls.loadGlobal_builtin (by rw[I.ok.glob];exact I.mod.glob.keeps I.bk) hm (by rw[I.ok.blt];exact h1.keeps I.bk) ((h2 x hn).trans hv) h) hd
theorem tQ(hg:Gl X x)(hm:X.mg x=some u)(r:bU v u)(hd:(x == ("__debug__" : Str))=false:=by decide):PE X (.Name x pos) (tC v):=
 fun _ _ _ H _ I h=>kP I hg hm ⟨v,H,I,r,h⟩ hd
theorem zi(hg:Gl X x)(hm:X.mg x=none)(hv:bootBuiltins x=some u)(r:bU v u)(hn:x ≠ "__name__" := by decide)(hd:(x == ("__debug__" : Str))=false:=by decide):PE X (.Name x pos) (tC v):=
 fun _ _ _ H _ I h=>lX I hg hm hv ⟨v,H,I,r,h⟩ hn hd
variable{a b:Expr}{ta tb:TE}
variable{tA tB':TT}
def NB(t u:TT):TT:=fun B H Q=>t B H fun c H1=>if c=true then u B H1 Q else Q false H1
def Of(t u:TT):TT:=fun B H Q=>t B H fun c H1=>if c=true then Q true H1 else u B H1 Q
def Nw(t:TT):TT:=fun B H Q=>t B H fun c H1=>Q (!c) H1
theorem Fe(ha:PT X a tA):PW X (.BoolOp .And [a] pos) tA:=by
 intro wh pins s B H Q I h;refine isTrue_and (cY (ha pins s B H Q I h) fun c s1 e=>?_);cases c with
 |true=>exact isTrue_and_nil e
 |false=>exact e
theorem IP(ha:PT X a tA):PW X (.BoolOp .Or [a] pos) tA:=by
 intro wh pins s B H Q I h;refine isTrue_or (cY (ha pins s B H Q I h) fun c s1 e=>?_);cases c with
 |false=>exact isTrue_or_nil e
 |true=>exact e
theorem IQ(ha:PT X a tA)(hb:PW X (.BoolOp .And (b::rest) pos) tB'):PW X (.BoolOp .And (a::b::rest) pos) (NB tA tB'):=by
 intro wh pins s B H Q I h;refine isTrue_and (cY (ha pins s B H _ I h) fun c s1 ⟨H1,I1,q1⟩=>?_);cases c with
 |true=>exact hb wh pins s1 B H1 Q I1 q1
 |false=>exact⟨H1,I1,q1⟩
theorem LJ(ha:PT X a tA)(hb:PW X (.BoolOp .Or (b::rest) pos) tB'):PW X (.BoolOp .Or (a::b::rest) pos) (Of tA tB'):=by
 intro wh pins s B H Q I h;refine isTrue_or (cY (ha pins s B H _ I h) fun c s1 ⟨H1,I1,q1⟩=>?_);cases c with
 |true=>exact⟨H1,I1,q1⟩
 |false=>exact hb wh pins s1 B H1 Q I1 q1
theorem IR(ha:PT X a tA):PT X (.UnaryOp .Not a pos) (Nw tA):=by
 intro pins s B H Q I h;exact isTrue_not (ha pins s B H (fun c H1=>Q (!c) H1) I h)
def Lo(ta tb:TE):TE:=fun B H Q=>ta B H fun x H1=>∃c,x=.bl c/\if c=true then tb B H1 Q else Q (.bl false) H1
def Nv(ta tb:TE):TE:=fun B H Q=>ta B H fun x H1=>∃c,x=.bl c/\if c=true then Q (.bl true) H1 else tb B H1 Q
def Lj(ta:TE):TE:=fun B H Q=>ta B H fun x H1=>∃c,x=.bl c/\Q (.bl (!c)) H1
theorem Jd{op}{t:TE}(h:PE X a t):PE X (.BoolOp op [a] pos) t:=fun pins s B H Q I hw=>BoolOp_one (h pins s B H Q I hw)
theorem Jj(ha:PE X a ta)(hb:PE X (.BoolOp .And (b::rest) pos) tb):PE X (.BoolOp .And (a::b::rest) pos) (Lo ta tb):=by
 intro pins s B H Q I h;refine BoolOp_and (cY (ha pins s B H _ I h) fun v s1 ⟨x,H1,I1,r1,q1⟩=>?_);obtain⟨c,rfl,q1⟩:=q1;cases r1;refine OY ?_;cases c with
 |true=>exact hb pins s1 B H1 Q I1 q1
 |false=>exact⟨.bl false,H1,I1,rfl,q1⟩
theorem LM(ha:PE X a ta)(hb:PE X (.BoolOp .Or (b::rest) pos) tb):PE X (.BoolOp .Or (a::b::rest) pos) (Nv ta tb):=by
 intro pins s B H Q I h;refine BoolOp_or (cY (ha pins s B H _ I h) fun v s1 ⟨x,H1,I1,r1,q1⟩=>?_);obtain⟨c,rfl,q1⟩:=q1;cases r1;refine OY ?_;cases c with
 |false=>exact hb pins s1 B H1 Q I1 q1
 |true=>exact⟨.bl true,H1,I1,rfl,q1⟩
theorem Je(ha:PE X a ta):PE X (.UnaryOp .Not a pos) (Lj ta):=by
 intro pins s B H Q I h;refine UnaryOp_ (cY (ha pins s B H _ I h) fun v s1 ⟨x,H1,I1,r1,q1⟩=>?_);obtain⟨c,rfl,q1⟩:=q1;cases r1;exact not_of (OY ⟨.bl (!c),H1,I1,rfl,q1⟩)
def Og(t:TT)(ta tb:TE):TE:=fun B H Q=>t B H fun c H1=>if c=true then ta B H1 Q else tb B H1 Q
theorem Da{c:Expr}(hc:PT X c tA)(ha:PE X a ta)(hb:PE X b tb):PE X (.IfExp c a b pos) (Og tA ta tb):=by
 intro pins s B H Q I h;refine wpAny_IfExp (cY (hc pins s B H _ I h) fun d s1 ⟨H1,I1,q1⟩=>?_);cases d with
 |true=>exact ha pins s1 B H1 Q I1 q1
 |false=>exact hb pins s1 B H1 Q I1 q1
end
def gB(K:W.Frag)(H:Hp)(a:Addr)(xs:List V):Prop:=
 Rd H a (.lst xs) \/
  ∃(o:Obj) (its:Array Value) (n:Nat),K.lookup a=some o/\o.cls=.type "list" /\ o.dict=none/\o.data=.seq its n/\its.size<=sizeLine/\br xs its.toList
def gL(K:W.Frag)(H:Hp)(a:Addr)(xs:List V):Prop:=
 Rd H a (.tup xs) \/
  ∃(o:Obj) (its:Array Value) (n:Nat),K.lookup a=some o/\o.cls=.type "tuple" /\ o.data=.seq its n/\its.size<=sizeLine/\br xs its.toList
def NW:Value->Option V
 |.none=>some .non
 |.bool b=>some (.bl b)
 |.int i _=>some (.int i)
 |.str x _=>some (.str x)
 |.bytes b _=>some (.byt b)
 |.float b _=>some (.flt b)
 |.ref a=>some (.ref a)
 |.type n=>some (.ty n)
 |_=>none
theorem bU.abs{x:V}(r:bU x u):NW u=some x:=by
 cases x with
 |non=>cases r;rfl
 |bl _=>cases r;rfl
 |int _=>obtain⟨t,rfl⟩:=r;rfl
 |str _=>obtain⟨t,rfl⟩:=r;rfl
 |byt _=>obtain⟨t,rfl⟩:=r;rfl
 |flt _=>obtain⟨t,rfl⟩:=r;rfl
 |ref _=>cases r;rfl
 |ty _=>cases r;rfl
theorem bU.inj{x y:V}(r:bU x u)(q:bU y u):x=y:=Ou (r.abs.symm.trans q.abs)
theorem br.inj:∀{xs ys:List V}{us:List Value},br xs us->br ys us->xs=ys
 |_,_,_,.nil,.nil=>rfl
 |_,_,_,.cons r t,.cons r' t'=>by rw[r.inj r',br.inj t t']
section
variable{X:Cx}{xs ys:List V}
theorem gB.of(h:H a=some (.lst xs)):gB K H a xs:=.inl (.inl h)
theorem gL.of(h:H a=some (.tup xs)):gL K H a xs:=.inl (.inl h)
theorem aX.list(I:aX X pins B H s)(h:gB X.K H a xs):∃its:List Value,br xs its/\PlainL s.heap a its.toArray/\xs.length<=sizeLine:=by
 rcases h with h|⟨o,its,n,hk,hc,hd,hs,hz,r⟩
 ·obtain⟨z,its,n,r,e⟩:=h.ok I.hok;exact⟨its,r,⟨_,n,e,rfl,rfl,rfl⟩,z⟩
 ·refine⟨its.toList,r,⟨o,n,I.kIn a o hk,hc,hd,by simpa using hs⟩,?_⟩;have e:=r.length;simp only[OZ]at e;omega
theorem aX.tuple(I:aX X pins B H s)(h:gL X.K H a xs):∃its:List Value,br xs its/\IsTup s.heap a its.toArray/\xs.length<=sizeLine:=by
 rcases h with h|⟨o,its,n,hk,hc,hs,hz,r⟩
 ·obtain⟨z,its,r,p⟩:=h.ok I.hok;exact⟨its,r,p,z⟩
 ·refine⟨its.toList,r,⟨o,I.kIn a o hk,hc,n,by simpa using hs⟩,?_⟩;have e:=r.length;simp only[OZ]at e;omega
theorem aX.list_inj(I:aX X pins B H s)(h:gB X.K H a xs)(h':gB X.K H a ys):xs=ys:=by
 obtain⟨its,r,⟨o,n,e,_,_,d⟩,_⟩:=I.list h;obtain⟨its',r',⟨o',n',e',_,_,d'⟩,_⟩:=I.list h';rw[e]at e';cases e';rw[d]at d';injection d' with d1 _
 have:its=its':=by simpa using O0 Array.toList d1
 subst this;exact r.inj r'
theorem aX.tuple_inj(I:aX X pins B H s)(h:gL X.K H a xs)(h':gL X.K H a ys):xs=ys:=by
 obtain⟨its,r,⟨o,e,_,n,d⟩,_⟩:=I.tuple h;obtain⟨its',r',⟨o',e',_,n',d'⟩,_⟩:=I.tuple h';rw[e]at e';cases e';rw[d]at d';injection d' with d1 _
 have:its=its':=by simpa using O0 Array.toList d1
 subst this;exact r.inj r'
end
abbrev Cx.wish(X:Cx)(E:Value->Shared->Prop):Cx:={X with xe:=E}
abbrev Cx.nox(X:Cx):Cx:=X.wish fun _ _=>False
theorem Cx.Ok.wish{X:Cx}(ok:X.Ok)(E:Value->Shared->Prop):(X.wish E).Ok:=
 ⟨ok.mod,ok.kind,ok.glob,ok.blt,ok.above,ok.inj,ok.has,ok.cab,ok.hd,ok.frames,ok.stk,ok.exf,ok.bs,ok.bsz,ok.noex,ok.exfs,ok.funs,ok.frf⟩
theorem Cx.Ok.unwish{X:Cx}(ok:(X.wish E).Ok):X.Ok:=
 ⟨ok.mod,ok.kind,ok.glob,ok.blt,ok.above,ok.inj,ok.has,ok.cab,ok.hd,ok.frames,ok.stk,ok.exf,ok.bs,ok.bsz,ok.noex,ok.exfs,ok.funs,ok.frf⟩
section
variable{X:Cx}
theorem aX.wish(I:aX X pins B H s)(E:Value->Shared->Prop):aX (X.wish E) pins B H s:=⟨I.ok.wish E,I.os,I.bare,I.base,I.loc,I.cell,I.free,I.freeC,I.pin,I.hok,I.len⟩
theorem aX.unwish(I:aX (X.wish E) pins B H s):aX X pins B H s:=⟨I.ok.unwish,I.os,I.bare,I.base,I.loc,I.cell,I.free,I.freeC,I.pin,I.hok,I.len⟩
theorem SP.unwish{D:nv}{f:Flow}(h:SP (X.wish E) pins D f s'):SP X pins D f s':=by
 cases f with
 |next=>obtain⟨B',H',I,q⟩:=h;exact⟨B',H',I.unwish,q⟩
 |brk=>obtain⟨B',H',I,q⟩:=h;exact⟨B',H',I.unwish,q⟩
 |cont=>obtain⟨B',H',I,q⟩:=h;exact⟨B',H',I.unwish,q⟩
 |ret u=>obtain⟨v,B',H',I,r,q⟩:=h;exact⟨v,B',H',I.unwish,r,q⟩
theorem jy.nox{st:List Stmt}{t:TS}(h:jy X.nox st t):jy X st t:=fun pins s B H D I hw=>
 OW (h pins s B H D (I.wish _) hw) (fun _ _ q=>q.unwish) fun _ _ z=>False.elim z
end
section
variable{X:Cx}{rest:List Stmt}{t u:TS}
def Lk:TS:=fun D B H=>D.nx B H
def Nr(t u:TS):TS:=fun D B H=>t {D with nx:=u D} B H
theorem Fh:jy X [] Lk:=fun _ _ B H _ I h=>O1 ⟨B,H,I,h⟩
theorem C5(h1:PS X st t)(h2:jy X rest u):jy X (st::rest) (Nr t u):=by
 intro pins s B H D I h;refine wpAny_execs_cons (cY (h1 pins s B H {D with nx:=u D} I h) fun f s1 q=>?_);cases f with
 |next=>
  obtain⟨B',H',I',q⟩:=q;exact h2 pins s1 B' H' D I' q
 |ret v=>exact q
 |brk=>exact q
 |cont=>exact q
theorem zf(h1:PS X st t):jy X [st] t:=by
 intro pins s B H D I h;refine wpAny_execs_cons (cY (h1 pins s B H D I h) fun f s1 q=>?_);cases f with
 |next=>exact O1 q
 |ret v=>exact q
 |brk=>exact q
 |cont=>exact q
theorem aX.quiet(I:aX X pins B H s):interactive X.env=false:=by simp[interactive,I.ok.kind]
def Lm(te:TE):TS:=fun D B H=>te B H fun _ H1=>D.nx B H1
theorem Fk(he:PE X e te)(hs:swapsWith e none pos.line X.env=pure false:=by rfl):PS X (.Expr e pos) (Lm te):=by
 intro pins s B H D I h;exact wpAny_Expr_any (cY (he pins s B H _ I h) fun v s1 ⟨x,H1,I1,r1,q1⟩=>⟨B,H1,I1,q1⟩) I.quiet hs
def Nt(te:TE):TS:=fun D B H=>te B H D.rt
theorem IU(he:PE X e te):PS X (.Return (some e) pos) (Nt te):=by
 intro pins s B H D I h;exact wpAny_Return_some (cY (he pins s B H _ I h) fun v s1 ⟨x,H1,I1,r1,q1⟩=>⟨x,B,H1,I1,r1,q1⟩)
def Ny(c:TT)(t u:TS):TS:=fun D B H=>c B H fun b H1=>if b=true then t D B H1 else u D B H1
theorem LK{c:Expr}{a b:List Stmt}{tc:TT}(hc:PT X c tc)(ha:jy X a t)(hb:jy X b u):PS X (.If c a b pos) (Ny tc t u):=by
 intro pins s B H D I h;refine wpAny_If (cY (hc pins s B H _ I h) fun d s1 ⟨H1,I1,q1⟩=>?_);cases d with
 |true=>exact ha pins s1 B H1 D I1 q1
 |false=>exact hb pins s1 B H1 D I1 q1
end
abbrev TG:=V->St->Hp->(St->Hp->Prop)->Prop
abbrev D9:=List V->St->Hp->(St->Hp->Prop)->Prop
def PG(X:Cx)(target:Expr)(t:TG):Prop:=
 ∀(pins:List (Addr×Obj))(s:Shared)(B:St)(H:Hp)(v:V)(u:Value)(Q:St->Hp->Prop),aX X pins B H s->bU v u->t v B H Q ->
  wpAny (model X.prog X.w) X.A (assign target X.env u) (fun _ s'=>∃B' H',aX X pins B' H' s'/\Q B' H') X.xe s
def xj(X:Cx)(ts:List Expr)(t:D9):Prop:=
 ∀(pins:List (Addr×Obj))(s:Shared)(B:St)(H:Hp)(vs:List V)(us:List Value)(Q:St->Hp->Prop),aX X pins B H s->br vs us->t vs B H Q ->
  wpAny (model X.prog X.w) X.A (assignInOrder ((assignEach ts X.env).map (·.2)) us) (fun _ s'=>∃B' H',aX X pins B' H' s'/\Q B' H') X.xe s
abbrev Hy:=V->V->V->Hp->(Hp->Prop)->Prop
def K6(X:Cx)(t:Hy):Prop:=
 ∀(pins:List (Addr×Obj))(s:Shared)(B:St)(H:Hp)(o i v:V)(ov iv u:Value)(Q:Hp->Prop),aX X pins B H s->bU o ov->bU i iv->bU v u->t o i v H Q ->
  wpAny (model X.prog X.w) X.A (setItem ov iv u) (fun _ s'=>∃H',aX X pins B H' s'/\Q H') X.xe s
section
variable{X:Cx}
def uZ(i:Nat):TG:=fun v B H Q=>Q (B.set i (some v)) H
theorem Fq(hN:X.N.Nodup)(hi:X.N[i]?=some x)(hx:D6 X.env.scope x)(hf:X.fn x=true\/X.env.scope.names.lookup x=some .local:=by first|exact .inl rfl|exact .inr rfl|assumption):PG X (.Name x pos) (uZ i):=by
 intro pins s B H v u Q I r h;exact wpAny_assign_Name (ko I hN hi hx r (fun s' I'=>⟨_,H,I',h⟩) hf)
def NS:D9:=fun vs B H Q=>vs=[]/\Q B H
def Me(t:TG)(u:D9):D9:=fun vs B H Q=>∃v r,vs=v::r/\t v B H fun B' H'=>u r B' H' Q
theorem Fp:xj X [] NS:=by
 intro pins s B H vs us Q I r h;obtain⟨e,h⟩:=h;subst e;cases r;exact assignInOrder_nil ⟨B,H,I,h⟩
theorem C9{es:List Expr}{t:TG}{u:D9}(h1:PG X e t)(h2:xj X es u)(hs:(assignEach (e::es) X.env).map (·.2)=assign e X.env::(assignEach es X.env).map (·.2):=by rfl):xj X (e::es) (Me t u):=by
 intro pins s B H vs us Q I r h;obtain⟨v,vr,e1,h⟩:=h;subst e1;cases r with
 |cons r rr=>
  rw[hs];refine O2 (cY (h1 pins s B H _ _ _ I r h) fun _ s1 ⟨B1,H1,I1,q1⟩=>?_);exact h2 pins s1 B1 H1 _ _ Q I1 rr q1
def NQ(K:W.Frag)(n:Nat)(t:D9):TG:=fun v B H Q=>∃a xs,v=.ref a/\gL K H a xs/\xs.length=n/\t xs B H Q
theorem I0{es:List Expr}{t:D9}(hc:X.calm=true)(h:xj X es t)(hn:(assignEach es X.env).length=n:=by rfl)(hst:(assignEach es X.env).findIdx? (·.1)=none:=by rfl):PG X (.Tuple es k pos) (NQ X.K n t):=by
 intro pins s B H v u Q I r hw;obtain⟨a,xs,e1,hq,hl,hw⟩:=hw;subst e1;cases r;obtain⟨its,rv,ht,hz⟩:=I.tuple hq;refine assign_Tuple_tuple (I.ok.hd hc) ht (by simp[hn,<- hl,rv.length]) hst fun h' hx=>?_;have I1:aX X pins B H {s with heap:=h'}:=I.kept (t':=s.toks) fun b o e=>hx b o (OF (OC e)) e;exact h pins _ B H xs _ Q I1 (by simpa using rv) hw
def NR(to ti:TE)(t:Hy):TG:=fun v B H Q=>to B H fun o H1=>ti B H1 fun i H2=>t o i v H2 fun H3=>Q B H3
theorem Ja{o i:Expr}{to ti:TE}{t:Hy}(ho:PE X o to)(hi:PE X i ti)(hs:K6 X t)
  (ha : ∀ v, assign (.Subscript o i pos) X.env v = (do
   let ov <- holding [v] (eval o X.env)
   let iv <- holding [v,ov] (eval i X.env)
   standAt pos
   holding [v,ov,iv] (setItem ov iv v)
   release [v,ov,iv] []):=by intro _;rfl):PG X (.Subscript o i pos) (NR to ti t):=by
 intro pins s B H v u Q I r h;rw[ha];refine O3 (O4 (cY (ho pins s B H _ I h) fun ov s1 ⟨x,H1,I1,r1,q1⟩=>?_));refine O3 (O4 (cY (hi pins s1 B H1 _ I1 q1) fun iv s2 ⟨y,H2,I2,r2,q2⟩=>?_));refine O3 (O5 (O3 (O4 (cY (hs pins s2 B H2 x y v ov iv u _ I2 r1 r2 r q2) fun _ s3 ⟨H3,I3,q3⟩=>?_))));exact wpAny_release ⟨B,H3,I3,q3⟩
def Bb(te:TE)(g:TG):TS:=fun D B H=>te B H fun x H1=>g x B H1 D.nx
theorem IX{g:TG}(he:PE X e te)(hg:PG X tg g)(hs:swapsWithSole [tg] e pos.line X.env=pure false:=by rfl)(hw:swappedStores [tg] e X.env=pure none:=by rfl)(h1:(assignEach [tg] X.env).map (·.2)=[assign tg X.env]:=by rfl):PS X (.Assign [tg] e pos) (Bb te g):=by
 intro pins s B H D I h;refine wpAny_Assign_stores (cY (he pins s B H _ I h) fun v s1 ⟨x,H1,I1,r1,q1⟩=>?_) hs hw;rw[h1];exact cY (hg pins s1 B H1 x v _ I1 r1 q1) fun _ s2 q=>q
theorem IT(hN:X.N.Nodup)(hi:X.N[i]?=some x)(hx:D6 X.env.scope x)(he:PE X e te)(hs:swapsWith e (some (.Name x pos')) pos.line X.env=pure false:=by rfl)(hf:X.fn x=true\/X.env.scope.names.lookup x=some .local:=by first|exact .inl rfl|exact .inr rfl|assumption):
  PS X (.Assign [.Name x pos'] e pos) (Bb te (uZ i)):=by
 intro pins s B H D I h;refine wpAny_Assign_Name (cY (he pins s B H _ I h) fun v s1 ⟨y,H1,I1,r1,q1⟩=>?_) hs;exact ko I1 hN hi hx r1 (fun s2 I2=>⟨_,H1,I2,q1⟩) hf
def Nu(i j:Nat)(ta:TA):TS:=fun D B H=>ta B H fun vs H1=>∃v w,vs=[v,w]/\D.nx ((B.set i (some v)).set j (some w)) H1
theorem IV{a b:Expr}{py pt:Pos}{kt k2 pt2}(hc:X.calm=true)(hN:X.N.Nodup)(hi:X.N[i]?=some x)(hj:X.N[j]?=some y)(hij:i≠j)(hx:X.env.scope.names.lookup x=some .local)(hy:X.env.scope.names.lookup y=some .local)(ha:PA X [a,b] ta)(hw:swappedStores [.Tuple [.Name x px,.Name y py] kt pt] (.Tuple [a,b] k2 pt2) X.env=pure (some [x,y]))(hs:swapsWithSole [.Tuple [.Name x px,.Name y py] kt pt] (.Tuple [a,b] k2 pt2) pos.line X.env=pure false:=by rfl):
  PS X (.Assign [.Tuple [.Name x px,.Name y py] kt pt] (.Tuple [a,b] k2 pt2) pos) (Nu i j ta):=by
 intro pins s B H D I h;rw[exec_Assign_arm];refine O3 (O5 ?_);rw[hs];refine O3 (O6 ?_);rw[OB (by decide)];refine O3 (Tuple_ (cY (ha _ pins s B H _ I h) fun us s1 ⟨vs,H1,I1,r1,q1⟩=>?_));obtain⟨v,w,e1,q1⟩:=q1;subst e1
 obtain⟨u1,u2,rfl,rv,rw'⟩:∃u1 u2,us=[u1,u2]/\bU v u1/\bU w u2:=by
  cases r1 with
  |cons p q=>
   cases q with
   |cons p' q'=>
    cases q';exact⟨_,_,rfl,p,p'⟩
 refine O7 ?_ (by show 2<=sizeLine;decide);have I2:aX X pins B H1 {s1 with heap:=s1.heap.push {cls:=.type "tuple",data:=.seq [u1,u2].toArray}}:=I1.kept (t':=s1.toks) fun b o e=>O8 _ e;rw[hw];refine O3 (O6 ?_);show wpAny (model X.prog X.w) X.A (do rule "assign.swapped-stores";let items <- unpackItems (.ref s1.heap.objs.size) 2 none;assignInOrder [fun v=>bindName X.env y v,fun v=>bindName X.env x v] items.reverse;pure Flow.next) _ _ _;refine O3 (O9 (O3 (unpackItems_tuple (items:=#[u1,u2]) (I.ok.hd hc) (IsTup.new s1.heap _) fun h' hx'=>?_)));have I3:=I2.kept (h':=h') (t':=s1.toks) fun b o e=>hx' b o (OF (OC e)) e;show wpAny _ _ (assignInOrder [fun v=>bindName X.env y v,fun v=>bindName X.env x v] [u2,u1] >>= fun _=>pure Flow.next) _ _ _;refine O3 (O2 (wpAny_bindName (ko I3 hN hj (.inl hy) rw' (fun s2 I4=>?_) (.inr hy))));refine O2 (wpAny_bindName (ko I4 hN hi (.inl hx) rv (fun s3 I5=>assignInOrder_nil (O6 ?_)) (.inr hx)));rw[List.set_comm _ _ (OP hij)]at I5;exact⟨_,H1,I5,q1⟩
end
structure It where
 go:Nat->Hp->Prop
 yld:Nat->Hp->V->Hp->Prop
 stop:Nat->Hp->Prop
def mC(X:Cx)(pins:List (Addr×Obj))(H:Hp)(b:Addr):Prop:=
 H b=none/\b≠X.env.locals/\b∉X.fs/\(b∈X.ex\/X.s₀.heap.objs.size<=b)/\(∀x c,X.env.cells.lookup x=some c->c≠b)/\∀p∈X.pn++pins,p.1≠b
theorem aX.fpOk{X:Cx}{H':Hp}(I:aX X pins B H s)(hb:s.heap.objs.size<=b)(hn:H' b=none):mC X pins H' b:=by
 refine⟨hn,Pb (OD I.lt hb),I.nofs hb,.inr (OI I.sz hb),fun x c e z=>?_,fun p hp z=>?_⟩
 ·obtain⟨v,q⟩:=I.cell x c e;exact absurd (OD q.lt (by rw[z];exact hb)) (OE _)
 ·exact absurd (OD (OC (I.pin p hp).1) (by rw[z];exact hb)) (OE _)
structure xu(P:Program)(w:World)(K:W.Frag)(tg:Expr)(α:It)(fp:List Addr)(it:Addr)(tn:Nat->Heap->Prop):Prop where
 mem:it∈fp
 obj:∀i h,tn i h->∀b∈fp,∃o,h.get? b=some o/\∀v,o.data≠.cell v
 keep:∀i h h',tn i h->(∀b∈fp,∀o,h.get? b=some o->h'.get? b=some o)->tn i h'
 item:∀(X:Cx),X.prog=P->X.w=w->X.K=K->X.calm=true->∀(i:Nat)(pins:List (Addr×Obj))(s:Shared)(B:St)(H:Hp)(E:Value->Shared->Prop),aX X pins B H s->(∀b∈fp,mC X pins H b)->tn i s.heap->α.go i H ->
  wpAny (model P w) X.A (pyNext (.ref it)) (fun r s1=>∃u,r=some u /\
   wpAny (model P w) X.A (letOwnedTupleGo tg (.ref it) u) (fun _ s2=>∃x H',aX X pins B H' s2/\bU x u/\α.yld i H x H'/\tn (i+1) s2.heap/\∀b∈fp,H' b=none) E s1) E s
 done:∀(X:Cx),X.prog=P->X.w=w->X.K=K->X.calm=true->∀(i:Nat)(pins:List (Addr×Obj))(s:Shared)(B:St)(H:Hp)(E:Value->Shared->Prop),aX X pins B H s->(∀b∈fp,mC X pins H b)->tn i s.heap->α.stop i H ->
  wpAny (model P w) X.A (pyNext (.ref it)) (fun r s1=>r=none/\aX X pins B H s1) E s
 self:∀(A:Around)(i:Nat)(s:Shared)(Q:Value->Shared->Prop)(E:Value->Shared->Prop),tn i s.heap->Q (.ref it) s->wpAny (model P w) A (pyIter (.ref it)) Q E s
abbrev TI:=St->Hp->(It->Hp->Prop)->Prop
def MK(X:Cx)(pins:List (Addr×Obj))(B:St)(tg:Expr)(R:It->Hp->Prop)(itv:Value)(s2:Shared):Prop:=
 ∃(it:Addr)(fp:List Addr)(tn:Nat->Heap->Prop)(α:It)(H':Hp),itv=.ref it/\aX X pins B H' s2/\xu X.prog X.w X.K tg α fp it tn/\tn 0 s2.heap/\(∀b∈fp,mC X pins H' b)/\R α H'
def PI(X:Cx)(tg iter:Expr)(wi:TI):Prop:=
 ∀(pins:List (Addr×Obj))(s:Shared)(B:St)(H:Hp)(R:It->Hp->Prop),aX X pins B H s->wi B H R ->
  wpAny (model X.prog X.w) X.A (eval iter X.env) (fun v s1=>wpAny (model X.prog X.w) X.A (pyIter v) (MK X pins B tg R) X.xe s1) X.xe s
theorem yJ{M:Model}{o:Obj}{n:String}{vs:Array Value}{Q:Unit->Shared->Prop}(ho:s.heap.get? it=some o)(hc:o.cls=.type n)(hd:o.data=.fields vs)(hn:["enumerate", "zip", "dict_itemiterator", "dict_reverseitemiterator", "odict_iterator", "itertools.zip_longest", "itertools.pairwise"].contains n=false)(hQ:Q () s):wpAny M A (letOwnedTupleGo tg (.ref it) u) Q E s:=by
 unfold letOwnedTupleGo
 cases tg <;> first
  |exact O6 hQ
  |(cases u <;> first
    |exact O6 hQ
    | (refine O3 (Pc ho ?_)
       rw[hc,hd];show wpAny M A (if (["enumerate", "zip", "dict_itemiterator", "dict_reverseitemiterator", "odict_iterator", "itertools.zip_longest", "itertools.pairwise"].contains n&&vs[0]? == some (rawInt _))=true then _ else _) Q E s;rw[OB (by intro h;rw[hn,Pd]at h;cases h)]
       exact O6 hQ))
def MN(K:W.Frag)(a:Addr):It:=
 ⟨fun i H=>∃xs x,gB K H a xs/\xs[i]?=some x,fun i H x H'=>H'=H/\∀xs,gB K H a xs->xs[i]?=some x,fun i H=>∃xs,gB K H a xs/\xs.length<=i⟩
def Nf(K:W.Frag)(a:Addr):It:=
 ⟨fun i H=>∃xs x,gL K H a xs/\xs[i]?=some x,fun i H x H'=>H'=H/\∀xs,gL K H a xs->xs[i]?=some x,fun i H=>∃xs,gL K H a xs/\xs.length<=i⟩
def Kt(lo:Int)(n:Nat):It:=⟨fun i _=>i<n,fun i H x H'=>H'=H/\x=.int (lo+i),fun i _=>n<=i⟩
theorem zR(a it:Addr):xu P w K tg (MN K a) [it] it (fun i h=>h.IsListIter it a i) where
 mem:=by simp
 obj:=fun i h st b hb=>by
  have e:b=it:=by simpa using hb
  subst e;obtain⟨o,e,c,d⟩:=st;exact⟨o,e,fun v z=>by rw[d]at z;cases z⟩
 keep:=fun i h h' st k=>st.at fun o e=>k it (by simp) o e
 item:=by
  intro X hP hw hK hc i pins s B H E I hf st hg;subst hP hw hK;obtain⟨xs,x,hq,hx⟩:=hg;obtain⟨its,rv,p,hz⟩:=I.list hq;obtain⟨u,hu,ru⟩:=rv.get hx;obtain⟨f0,f1,f2,f3,f4,f5⟩:=hf it (by simp);refine wpAny_pyNext_list_item st p.isList (x:=u) (by simpa using hu) fun h' st' sb=>?_;have I1:aX X pins B H {s with heap:=h'}:=I.turned (t':=s.toks) (fun b o hb e=>(sb.2 b hb).trans e) f0 f1 f3 f4 f5;obtain⟨o,e,c,d⟩:=id st';exact⟨u,rfl,yJ (s:={s with heap:=h'}) e c d (by decide) ⟨x,H,I1,ru,⟨rfl,fun ys hy=>by rw[I.list_inj hy hq];exact hx⟩,st',fun b hb=>(hf b hb).1⟩⟩
 done:=by
  intro X hP hw hK hc i pins s B H E I hf st hg;subst hP hw hK;obtain⟨xs,hq,hx⟩:=hg;obtain⟨its,rv,p,hz⟩:=I.list hq;obtain⟨f0,f1,f2,f3,f4,f5⟩:=hf it (by simp);have hl:=rv.length;exact wpAny_pyNext_list_end (I.ok.hd hc) st p.isList (by simp;omega) fun h' eb=>⟨rfl,I.turned (t':=s.toks) (fun b o hb e=>eb b o hb e) f0 f1 f3 f4 f5⟩
 self:=fun _ _ _ _ _ st h=>wpAny_pyIter_listiter st h
theorem xK(a it:Addr):xu P w K tg (Nf K a) [it] it (fun i h=>h.IsTupleIter it a i) where
 mem:=by simp
 obj:=fun i h st b hb=>by
  have e:b=it:=by simpa using hb
  subst e;obtain⟨o,e,c,d⟩:=st;exact⟨o,e,fun v z=>by rw[d]at z;cases z⟩
 keep:=fun i h h' st k=>st.at fun o e=>k it (by simp) o e
 item:=by
  intro X hP hw hK hc i pins s B H E I hf st hg;subst hP hw hK;obtain⟨xs,x,hq,hx⟩:=hg;obtain⟨its,rv,p,hz⟩:=I.tuple hq;obtain⟨u,hu,ru⟩:=rv.get hx;obtain⟨f0,f1,f2,f3,f4,f5⟩:=hf it (by simp);refine wpAny_pyNext_tuple_item st (show s.heap.IsTuple a its.toArray from p) (x:=u) (by simpa using hu) fun h' st' sb=>?_;have I1:aX X pins B H {s with heap:=h'}:=I.turned (t':=s.toks) (fun b o hb e=>(sb.2 b hb).trans e) f0 f1 f3 f4 f5;obtain⟨o,e,c,d⟩:=id st';exact⟨u,rfl,yJ (s:={s with heap:=h'}) e c d (by decide) ⟨x,H,I1,ru,⟨rfl,fun ys hy=>by rw[I.tuple_inj hy hq];exact hx⟩,st',fun b hb=>(hf b hb).1⟩⟩
 done:=by
  intro X hP hw hK hc i pins s B H E I hf st hg;subst hP hw hK;obtain⟨xs,hq,hx⟩:=hg;obtain⟨its,rv,p,hz⟩:=I.tuple hq;obtain⟨f0,f1,f2,f3,f4,f5⟩:=hf it (by simp);have hl:=rv.length;exact wpAny_pyNext_tuple_end (I.ok.hd hc) st (show s.heap.IsTuple a its.toArray from p) (by simp;omega) fun h' eb=>⟨rfl,I.turned (t':=s.toks) (fun b o hb e=>eb b o hb e) f0 f1 f3 f4 f5⟩
 self:=fun _ _ _ _ _ st h=>wpAny_pyIter_tupleiter st h
theorem xM(it:Addr)(lo:Int)(n:Nat):xu P w K tg (Kt lo n) [it] it (fun i h=>IsRangeIter h it (lo+(i:Nat)*1) ((n:Int)-(i:Nat)) 1) where
 mem:=by simp
 obj:=fun i h st b hb=>by
  have e:b=it:=by simpa using hb
  subst e
  exact⟨_,st,fun v z=>by
   have z':Data.fields _=Data.cell v:=z
   cases z'⟩
 keep:=fun i h h' st k=>k it (by simp) _ st
 item:=by
  intro X hP hw hK hc i pins s B H E I hf st hg;subst hP hw hK;obtain⟨f0,f1,f2,f3,f4,f5⟩:=hf it (by simp);have W:=Walks.range (prog:=X.prog) (w:=X.w) (I.ok.hd hc) it lo 1 n;refine W.item i s _ _ hg st fun v h' tk hv st' kk=>?_;obtain⟨t,rfl⟩:=hv;have I1:aX X pins B H {s with heap:=h',toks:=tk}:=I.turned (fun b o hb e=>kk b o (by simpa using hb) e) f0 f1 f3 f4 f5;refine⟨_,rfl,yJ (s:={s with heap:=h',toks:=tk}) (n:="range_iterator") st' rfl rfl (by decide) ⟨.int (lo+i),H,I1,⟨t,?_⟩,⟨rfl,rfl⟩,st',fun b hb=>(hf b hb).1⟩⟩;rw[Int.mul_one]
 done:=by
  intro X hP hw hK hc i pins s B H E I hf st hg;subst hP hw hK;obtain⟨f0,f1,f2,f3,f4,f5⟩:=hf it (by simp);exact wpAny_pyNext_range_end (I.ok.hd hc) st (by have:n<=i:=hg;omega) fun h' eb=>⟨rfl,I.turned (t':=s.toks) (fun b o hb e=>eb b o hb e) f0 f1 f3 f4 f5⟩
 self:=fun _ _ _ _ _ st h=>wpAny_pyIter_rangeiter st h
section
variable{X:Cx}
theorem vB{R:It->Hp->Prop}{lo hi:Int}{t u v:Tok}{tk:Nat}(I:aX X pins B H s)(h1:-(2^62)<=lo)(h2:lo<2^62)(h3:-(2^62)<=hi)(h4:hi<2^62)(q:R (Kt lo (hi-lo).toNat) H):wpAny (model X.prog X.w) X.A (pyIter (.ref s.heap.objs.size)) (MK X pins B tg R) E {s with heap:=s.heap.push {cls:=.type "range",data:=.fields #[.int lo t,.int hi u,.int 1 v]},toks:=tk}:=by
 refine wpAny_pyIter_range (IsRange.new ..) (small_one h1 h2 h3 h4) ?_;have I1:aX X pins B H {s with heap:=s.heap.push {cls:=.type "range",data:=.fields #[.int lo t,.int hi u,.int 1 v]},toks:=tk}:=I.kept fun b o e=>O8 _ e
 refine⟨(s.heap.push {cls:=.type "range",data:=.fields #[.int lo t,.int hi u,.int 1 v]}).objs.size,[(s.heap.push {cls:=.type "range",data:=.fields #[.int lo t,.int hi u,.int 1 v]}).objs.size],_,_,H,rfl,
  I1.kept (t':=tk) fun b o e=>O8 _ e,xM _ lo (hi-lo).toNat,?_,fun b hb=>?_,q⟩
 ·have e1 : lo + ((0 : Nat) : Int) * 1 = lo := by simp
  have e2:(((hi-lo).toNat:Nat):Int)-((0:Nat):Int)=Builtin.Range.rangeSize lo hi 1:=by rw[rangeSize_one];split <;> omega
  show IsRangeIter _ _ (lo+((0:Nat):Int)*1) ((((hi-lo).toNat:Nat):Int)-((0:Nat):Int)) 1;rw[e1,e2];exact Pe _ rfl
 ·have e : b = (s.heap.push { cls := .type "range", data := .fields #[.int lo t, .int hi u, .int 1 v] }).objs.size := by simpa using hb
  subst e;exact I1.fpOk (Pf _) (I1.hok.fresh (Pf _))
def Md(ta:TA):TI:=fun B H R=>ta B H fun vs H1=>∃j:Int,vs=[.int j]/\-(2^62)<=j/\j<2^62/\R (Kt 0 j.toNat) H1
def Mc(ta:TA):TI:=fun B H R=>ta B H fun vs H1=>∃i j:Int,vs=[.int i,.int j]/\(-(2^62)<=i/\i<2^62/\-(2^62)<=j/\j<2^62)/\R (Kt i (j-i).toNat) H1
theorem Al{a:Expr}{p:Pos}(hg:Gl X "range")(hm:X.mg "range" = none)(ha:PA X [a] ta)(hs:starEach [a] X.env=[(false,eval a X.env)]:=by rfl):PI X tg (.Call (.Name "range" p) [a] [] pos) (Md ta):=by
 intro pins s B H R I h;refine Call_ (lX I hg hm boot_range (Pg (cY (ha pos pins s B H _ I h) fun us s1 ⟨vs,H1,I1,r1,q1⟩=>?_) hs rfl));obtain⟨j,e,q1,q2,q⟩:=q1;subst e;cases r1 with
 |cons r rr=>
  cases rr;obtain⟨t,rfl⟩:=r;exact call_range_1 (vB I1 (by omega) (by omega) q1 q2 (by simpa using q))
theorem Ak{a b:Expr}{p:Pos}(hg:Gl X "range")(hm:X.mg "range" = none)(ha:PA X [a,b] ta)(hs:starEach [a,b] X.env=[(false,eval a X.env),(false,eval b X.env)]:=by rfl)(hs2:starEach [b] X.env=[(false,eval b X.env)]:=by rfl):
  PI X tg (.Call (.Name "range" p) [a,b] [] pos) (Mc ta):=by
 intro pins s B H R I h;refine Call_ (lX I hg hm boot_range (Pg (cY (ha pos pins s B H _ I h) fun us s1 ⟨vs,H1,I1,r1,q1⟩=>?_) (by rw[hs,hs2]) (by rw[hs2];rfl)));obtain⟨i,j,e,⟨q1,q2,q3,q4⟩,q⟩:=q1;subst e;cases r1 with
 |cons r rr=>
  cases rr with
  |cons r' rr=>
   cases rr;obtain⟨t,rfl⟩:=r;obtain⟨t',rfl⟩:=r';exact call_range_2 (vB I1 q1 q2 q3 q4 q)
def Nz(wi:TI)(g:TG)(tb:TS):TS:=fun D B H=>wi B H fun α H1=>∃W:Nat->Nat->St->Hp->Prop,(∃m,W 0 m B H1)/\∀i m B H,W i m B H ->
 (α.stop i H/\D.nx B H)\/(α.go i H/\∃N:St->Hp->Prop,(∀B' H',N B' H'->∃m',m'<m/\W (i+1) m' B' H')/\∀x H',α.yld i H x H'->g x B H' fun B2 H2=>tb {D with nx:=N,ct:=N,bk:=D.nx} B2 H2)
def qc(fp:List Addr)(h:Heap):List (Addr×Obj):=fp.filterMap fun b=>(h.get? b).map fun o=>(b,o)
theorem jP{h:Heap}{o:Obj}(hb:b∈fp)(e:h.get? b=some o):(b,o)∈qc fp h:=Ph.mpr ⟨b,hb,by rw[e];rfl⟩
theorem Au{h:Heap}{p:Addr×Obj}(hp:p∈qc fp h):p.1∈fp/\h.get? p.1=some p.2:=by
 obtain⟨b,hb,e⟩:=Ph.mp hp;cases q:h.get? b with
 |none=>rw[q]at e;cases e
 |some o=>
  rw[q]at e;have e':(b,o)=p:=Ou e;subst e';exact⟨hb,q⟩
theorem aX.pinned(I:aX X pins B H s)(hf:∀b∈fp,mC X pins H b)(ho:∀b∈fp,∃o,s.heap.get? b=some o/\∀v,o.data≠.cell v):aX X (pins++qc fp s.heap) B H s:=
 I.pins_of fun p hp=>(OQ.mp hp).elim (fun z=>I.pin p (Pi _ z)) fun z=>by
  obtain⟨hb,e⟩:=Au z;obtain⟨f0,f1,f2,_⟩:=hf p.1 hb;obtain⟨o,e',d⟩:=ho p.1 hb;rw[e]at e';cases e';exact⟨e,f0,f1,f2,d⟩
theorem aX.unpinned{pl:List (Addr×Obj)}(I:aX X (pins++pl) B H s):aX X pins B H s:=I.pins_of fun p hp=>I.pin p (Pi _ (OR _ hp))
theorem IW{wi:TI}{g:TG}{tb:TS}(hp:PassesOwn (model X.prog X.w) X.A X.env X.xe)(hc:X.calm=true)(hi:PI X tg iter wi)(hg:PG X tg g)(hb:jy X body tb)(hs:∀x,foldedSetIterable iter X.env x=pure x:=by intro _;rfl):PS X (.For tg iter body [] pos) (Nz wi g tb):=by
 intro pins s B H D I h;refine wpAny_For (cY (hi pins s B H _ I h) fun v s1 h1=>cY h1 fun itv s2 h2=>?_) hs;obtain⟨it,fp,tn,α,H2,e,I2,T,st2,f2,W,⟨m0,w0⟩,turn⟩:=h2;subst e;have stat:∀{H':Hp},(∀b∈fp,H' b=none)->∀b∈fp,mC X pins H' b:=fun hn b hb=>⟨hn b hb,(f2 b hb).2⟩;refine codeAny_forLoop_any (fun n s'=>∃i B' H',aX X pins B' H' s'/\tn i s'.heap/\(∀b∈fp,H' b=none)/\W i n B' H') ?_ m0 ⟨0,B,H2,I2,st2,fun b hb=>(f2 b hb).1,w0⟩
 rintro n s3 ⟨i,B3,H3,I3,st3,fr3,w3⟩
 rcases turn i n B3 H3 w3 with⟨stop,qn⟩|⟨go,N,hN,step⟩
 ·refine Pj hp (cY (T.done X rfl rfl rfl hc i pins s3 B3 H3 X.xe I3 (stat fr3) st3 stop) fun r s4 ⟨hr,I4⟩=>?_);subst hr;exact O1 ⟨B3,H3,I4,qn⟩
 ·refine Pj hp (cY (T.item X rfl rfl rfl hc i pins s3 B3 H3 X.xe I3 (stat fr3) st3 go) fun r s4 ⟨u, hr, h4⟩ => ?_);subst hr;refine Pj hp (cY h4 fun _ s5 ⟨x,H5,I5,r5,y5,st5,fr5⟩=>?_);have I5':=I5.pinned (stat fr5) (T.obj _ _ st5);refine Pj hp (cY (hg _ s5 B3 H5 x u _ I5' r5 (step x H5 y5)) fun _ s6 ⟨B6,H6,I6,q6⟩=>?_);refine Pj hp (cY (hb _ s6 B6 H6 _ I6 q6) fun f s7 q7=>?_)
  have again:∀{B7:St}{H7:Hp},aX X (pins++qc fp s5.heap) B7 H7 s7->N B7 H7->∃m,m<n/\∃i B' H',aX X pins B' H' s7/\tn i s7.heap/\(∀b∈fp,H' b=none)/\W i m B' H':=fun {B7 H7} I7 n7=>by
   obtain⟨m',hm,w7⟩:=hN B7 H7 n7;refine⟨m',hm,i+1,B7,H7,I7.unpinned,T.keep _ _ _ st5 fun b hb o e=>(I7.pin (b,o) (Pi _ (Pi _ (jP hb e)))).1,fun b hb=>?_,w7⟩;obtain⟨o,e,d⟩:=T.obj _ _ st5 b hb;exact(I7.pin (b,o) (Pi _ (Pi _ (jP hb e)))).2.1
  cases f with
  |next=>obtain⟨B7,H7,I7,n7⟩:=q7;exact again I7 n7
  |cont=>obtain⟨B7,H7,I7,n7⟩:=q7;exact again I7 n7
  |brk=>obtain⟨B7,H7,I7,q7⟩:=q7;exact⟨B7,H7,I7.unpinned,q7⟩
  |ret v=>obtain⟨x7,B7,H7,I7,r7,q7⟩:=q7;exact⟨x7,B7,H7,I7.unpinned,r7,q7⟩
end
abbrev R2:=V->V->Hp->VK->Prop
def iy(X:Cx)(f:Value->Value->Sem Value)(r:R2):Prop:=
 ∀(pins:List (Addr×Obj))(s:Shared)(B:St)(H:Hp)(x y:V)(v u:Value)(Q:VK),aX X pins B H s->bU x v->bU y u->r x y H Q ->
  wpAny (model X.prog X.w) X.A (f v u) (EP X pins B Q) X.xe s
def Mz(X:Cx)(f:Value->Sem Value)(r:V->Hp->VK->Prop):Prop:=
 ∀(pins:List (Addr×Obj))(s:Shared)(B:St)(H:Hp)(x:V)(v:Value)(Q:VK),aX X pins B H s->bU x v->r x H Q ->
  wpAny (model X.prog X.w) X.A (f v) (EP X pins B Q) X.xe s
def cZ(X:Cx)(f:Value)(r:List V->Hp->VK->Prop):Prop:=
 ∀(pins:List (Addr×Obj))(s:Shared)(B:St)(H:Hp)(xs:List V)(us:List Value)(Q:VK),aX X pins B H s->br xs us->r xs H Q ->
  wpAny (model X.prog X.w) X.A (call f us) (EP X pins B Q) X.xe s
def NX(X:Cx)(r:V->Hp->(Bool->Hp->Prop)->Prop):Prop:=
 ∀(pins:List (Addr×Obj))(s:Shared)(B:St)(H:Hp)(x:V)(v:Value)(Q:Bool->Hp->Prop),aX X pins B H s->bU x v->r x H Q ->
  wpAny (model X.prog X.w) X.A (truthy v) (TP X pins B Q) X.xe s
def Kw(r:R2)(ta tb:TE):TE:=fun B H Q=>ta B H fun x H1=>tb B H1 fun y H2=>r x y H2 Q
def Od(r:V->Hp->VK->Prop)(ta:TE):TE:=fun B H Q=>ta B H fun x H1=>r x H1 Q
def rI(C:Int->Int->Prop)(g:Int->Int->V):R2:=fun x y H Q=>∃i j,x=.int i/\y=.int j/\C i j/\Q (g i j) H
def Kx(g:Int->Int->V):R2:=fun x y H Q=>∃i j,x=.int i/\y=.int j/\Q (g i j) H
def rU(g:Int->V):V->Hp->VK->Prop:=fun x H Q=>∃i,x=.int i/\Q (g i) H
section
variable{X:Cx}{a b c:Expr}{ta tb tc:TE}
theorem Hv(ha:PE X a ta)(hb:PE X b tb){R:V->V->Hp->Prop}(I:aX X pins B H s)(h:ta B H fun x H1=>tb B H1 fun y H2=>R x y H2){f:Value->Value->Sem Value}(hf:∀v u s2 x y H2,aX X pins B H2 s2->bU x v->bU y u->R x y H2->wpAny (model X.prog X.w) X.A (f v u) Q X.xe s2):
  wpAny (model X.prog X.w) X.A (eval a X.env) (fun v s₁=>wpAny (model X.prog X.w) X.A (eval b X.env) (fun u s₂=>wpAny (model X.prog X.w) X.A (f v u) Q X.xe s₂) X.xe s₁) X.xe s:=by
 refine cY (ha pins s B H _ I h) fun v s1 ⟨x,H1,I1,r1,q1⟩=>?_;refine cY (hb pins s1 B H1 _ I1 q1) fun u s2 ⟨y,H2,I2,r2,q2⟩=>?_;exact hf v u s2 x y H2 I2 r1 r2 q2
theorem LN{op:Operator}{r:R2}(ho:iy X (binaryOp op) r)(ha:PE X a ta)(hb:PE X b tb):PE X (.BinOp a op b pos) (Kw r ta tb):=by
 intro pins s B H Q I h;exact wpAny_BinOp (Hv ha hb I h fun v u s2 x y H2 I2 rx ry q=>ho pins s2 B H2 x y v u Q I2 rx ry q)
theorem LL{op:UnaryOp}{r:V->Hp->VK->Prop}(ho:Mz X (unaryOp op) r)(ha:PE X a ta):PE X (.UnaryOp op a pos) (Od r ta):=by
 intro pins s B H Q I h;exact UnaryOp_ (cY (ha pins s B H _ I h) fun v s1 ⟨x,H1,I1,r1,q1⟩=>ho pins s1 B H1 x v Q I1 r1 q1)
theorem Mv{f:Value->Value->Sem Value}{C:Int->Int->Prop}{g:Int->Int->Int}
  (rule:∀(i j:Int)(t u:Tok)(s:Shared)(Q:Value->Shared->Prop)(E:Value->Shared->Prop),C i j->Q (.int (g i j) s.toks) {s with toks:=s.toks+1}->wpAny (model X.prog X.w) X.A (f (.int i t) (.int j u)) Q E s) :
  iy X f (rI C fun i j=>.int (g i j)):=by
 intro pins s B H x y v u Q I rx ry h;obtain⟨i,j,rfl,rfl,hc,q⟩:=h;obtain⟨t,rfl⟩:=rx;obtain⟨t',rfl⟩:=ry;exact rule i j t t' s _ _ hc ⟨.int (g i j),H,I.tok _,⟨_,rfl⟩,q⟩
theorem KW{f:Value->Value->Sem Value}{g:Int->Int->Int}
  (rule:∀(i j:Int)(t u:Tok)(s:Shared)(Q:Value->Shared->Prop)(E:Value->Shared->Prop),Q (.int (g i j) s.toks) {s with toks:=s.toks+1}->wpAny (model X.prog X.w) X.A (f (.int i t) (.int j u)) Q E s) :
  iy X f (Kx fun i j=>.int (g i j)):=by
 intro pins s B H x y v u Q I rx ry h;obtain⟨i,j,rfl,rfl,q⟩:=h;obtain⟨t,rfl⟩:=rx;obtain⟨t',rfl⟩:=ry;exact rule i j t t' s _ _ ⟨.int (g i j),H,I.tok _,⟨_,rfl⟩,q⟩
def En(i j:Int):Prop:=0<j/\j<1073741824
def HB(i j:Int):Prop:=0<=j/\j<=1000000/\i.natAbs<2^64
def uU(i j:Int):Prop:=(-(2^64)<i/\i<2^64)\/(-(2^64)<j/\j<2^64)
theorem uU.ok{i j:Int}(h:uU i j):IntMulOk i j:=by
 rcases h with⟨h1,h2⟩|⟨h1,h2⟩
 ·exact .of_left (intBits_le_64 h1 h2)
 ·exact .of_right (intBits_le_64 h1 h2)
theorem Jx:iy X (binaryOp .Add) (Kx fun i j=>.int (i+j)):=KW fun _ _ _ _ _ _ _ q=>add_int q
theorem Jl:iy X (binaryOp .Sub) (Kx fun i j=>.int (i-j)):=KW fun _ _ _ _ _ _ _ q=>sub_int q
theorem Jq:iy X (binaryOp .Mult) (rI uU fun i j=>.int (i*j)):=Mv fun _ _ _ _ _ _ _ hc q=>mul_int q hc.ok
theorem FG:iy X (binaryOp .FloorDiv) (rI En fun i j=>.int (i / j)):=Mv fun i j _ _ _ _ _ hc q=>by
 have h1:(0:Int)<j:=hc.1;have h2:j<1073741824:=hc.2;exact floordiv_int (by omega) (by rw[Int.fdiv_eq_ediv_of_nonneg i (by omega)];exact q) (.inl (PyProof.noPylong_small (by omega)))
theorem Jr:iy X (binaryOp .Mod) (rI (fun _ j=>0<j) fun i j=>.int (i%j)):=Mv fun i j _ _ _ _ _ hc q=>by
 have h1:(0:Int)<j:=hc;exact mod_int' (by omega) (by rw[Int.fmod_eq_emod_of_nonneg i (by omega)];exact q)
theorem Jn:iy X (binaryOp .Pow) (rI HB fun i j=>.int (i^j.toNat)):=Mv fun _ _ _ _ _ _ _ hc q=>pow_int_small hc.1 hc.2.1 hc.2.2 q
theorem Oc{f:Value->Sem Value}{g:Int->Int}
  (rule:∀(i:Int)(t:Tok)(s:Shared)(Q:Value->Shared->Prop)(E:Value->Shared->Prop),Q (.int (g i) s.toks) {s with toks:=s.toks+1}->wpAny (model X.prog X.w) X.A (f (.int i t)) Q E s) :
  Mz X f (rU fun i=>.int (g i)):=by
 intro pins s B H x v Q I rx h;obtain⟨i,rfl,q⟩:=h;obtain⟨t,rfl⟩:=rx;exact rule i t s _ _ ⟨.int (g i),H,I.tok _,⟨_,rfl⟩,q⟩
theorem HK:Mz X (unaryOp .USub) (rU fun i=>.int (-i)):=Oc fun _ _ _ _ _ q=>neg_int q
end
def KG:V->V->Bool
 |.non,.non=>true | .non,.int _=>true | .int _,.non=>true | .non,.bl _=>true | .bl _,.non=>true | .non,.str _=>true | .str _,.non=>true
 |.int _,.int _=>true | .bl _,.bl _=>true | .str _,.str _=>true | .byt _,.byt _=>true
 |.int _,.str _=>true | .str _,.int _=>true | .bl _,.str _=>true | .str _,.bl _=>true
 |_,_=>false
def Na:R2:=fun x y H Q=>KG x y=true/\Q (.bl (decide (x=y))) H
def M0:R2:=fun x y H Q=>KG x y=true/\Q (.bl (!decide (x=y))) H
theorem zA{i j:Int}:decide (V.int i=V.int j)=(i == j):=by
 rw[Pl];simp
theorem Ct{i j:Bool}:decide (V.bl i=V.bl j)=(i == j):=by
 rw[Pl];simp
theorem zz{i j:Str}:decide (V.str i=V.str j)=(i == j):=by
 rw[Pl];simp
theorem zB{i j:Array UInt8}:decide (V.byt i=V.byt j)=(i.toList == j.toList):=by
 rw[Pl];cases i;cases j;simp
section
variable{X:Cx}{a b c:Expr}{ta tb tc:TE}
theorem bJ{Q:VK}{k k':Bool}(I:aX X pins B H s)(q:Q (.bl k) H)(e:k=k'):EP X pins B Q (.bool k') s:=by
 subst e;exact⟨.bl k,H,I,rfl,q⟩
theorem LS:iy X (compareOp .Eq) Na:=by
 intro pins s B H x y v u Q I rx ry h;obtain⟨hs,q⟩:=h;cases x with
 |non=>
  cases rx;cases y with
  |non=>cases ry;exact PySem.EqNone.eq_none_none (bJ I q (by simp))
  |bl j=>cases ry;exact PySem.EqNone.eq_none_bool (bJ I q (by simp))
  |int j=>obtain⟨t',rfl⟩:=ry;exact PySem.EqNone.eq_none_int (bJ I q (by simp))
  |str j=>obtain⟨t',rfl⟩:=ry;exact PySem.EqNone.eq_none_str (bJ I q (by simp))
  |_=>exact absurd (show false=true from hs) Pm
 |bl i=>
  cases rx;cases y with
  |non=>cases ry;exact PySem.EqNone.eq_bool_none (bJ I q (by simp))
  |bl j=>cases ry;exact eq_bool (bJ I q Ct)
  |str j=>obtain⟨t',rfl⟩:=ry;exact PySem.EqMixed.eq_bool_str (bJ I q (by simp))
  |_=>exact absurd (show false=true from hs) Pm
 |int i=>
  obtain⟨t,rfl⟩:=rx;cases y with
  |non=>cases ry;exact PySem.EqNone.eq_int_none (bJ I q (by simp))
  |int j=>obtain⟨t',rfl⟩:=ry;exact eq_int (bJ I q zA)
  |str j=>obtain⟨t',rfl⟩:=ry;exact PySem.EqMixed.eq_int_str (bJ I q (by simp))
  |_=>exact absurd (show false=true from hs) Pm
 |str i=>
  obtain⟨t,rfl⟩:=rx;cases y with
  |non=>cases ry;exact PySem.EqNone.eq_str_none (bJ I q (by simp))
  |bl j=>cases ry;exact PySem.EqMixed.eq_str_bool (bJ I q (by simp))
  |int j=>obtain⟨t',rfl⟩:=ry;exact PySem.EqMixed.eq_str_int (bJ I q (by simp))
  |str j=>obtain⟨t',rfl⟩:=ry;exact Po (bJ I q zz)
  |_=>exact absurd (show false=true from hs) Pm
 |byt i=>
  obtain⟨t,rfl⟩:=rx;cases y with
  |byt j=>obtain⟨t',rfl⟩:=ry;exact W.eq_bytes (bJ I q zB)
  |_=>exact absurd (show false=true from hs) Pm
 |_=>cases y <;> exact absurd (show false=true from hs) Pm
theorem LR:iy X (compareOp .NotEq) M0:=by
 intro pins s B H x y v u Q I rx ry h;obtain⟨hs,q⟩:=h;cases x with
 |non=>
  cases rx;cases y with
  |non=>cases ry;exact PySem.EqNone.ne_none_none (bJ I q (by simp))
  |bl j=>cases ry;exact PySem.EqNone.ne_none_bool (bJ I q (by simp))
  |int j=>obtain⟨t',rfl⟩:=ry;exact PySem.EqNone.ne_none_int (bJ I q (by simp))
  |str j=>obtain⟨t',rfl⟩:=ry;exact PySem.EqNone.ne_none_str (bJ I q (by simp))
  |_=>exact absurd (show false=true from hs) Pm
 |bl i=>
  cases rx;cases y with
  |non=>cases ry;exact PySem.EqNone.ne_bool_none (bJ I q (by simp))
  |bl j=>cases ry;exact ne_bool (bJ I q (O0 not Ct))
  |str j=>obtain⟨t',rfl⟩:=ry;exact PySem.EqMixed.ne_bool_str (bJ I q (by simp))
  |_=>exact absurd (show false=true from hs) Pm
 |int i=>
  obtain⟨t,rfl⟩:=rx;cases y with
  |non=>cases ry;exact PySem.EqNone.ne_int_none (bJ I q (by simp))
  |int j=>obtain⟨t',rfl⟩:=ry;exact ne_int (bJ I q (O0 not zA))
  |str j=>obtain⟨t',rfl⟩:=ry;exact PySem.EqMixed.ne_int_str (bJ I q (by simp))
  |_=>exact absurd (show false=true from hs) Pm
 |str i=>
  obtain⟨t,rfl⟩:=rx;cases y with
  |non=>cases ry;exact PySem.EqNone.ne_str_none (bJ I q (by simp))
  |bl j=>cases ry;exact PySem.EqMixed.ne_str_bool (bJ I q (by simp))
  |int j=>obtain⟨t',rfl⟩:=ry;exact PySem.EqMixed.ne_str_int (bJ I q (by simp))
  |str j=>obtain⟨t',rfl⟩:=ry;exact ne_str (bJ I q (O0 not zz))
  |_=>exact absurd (show false=true from hs) Pm
 |byt i=>
  obtain⟨t,rfl⟩:=rx;cases y with
  |byt j=>obtain⟨t',rfl⟩:=ry;exact W.ne_bytes (bJ I q (O0 not zB))
  |_=>exact absurd (show false=true from hs) Pm
 |_=>cases y <;> exact absurd (show false=true from hs) Pm
theorem Aq:iy X (compareOp .In) (fun x y H Q=>∃i j,x=.str i/\y=.str j/\Q (.bl (!(Builtin.Str.occurrences j i 0 j.length 1).isEmpty)) H):=by
 intro pins s B H x y v u Q I rx ry h;obtain⟨i,j,rfl,rfl,q⟩:=h;obtain⟨t,rfl⟩:=rx;obtain⟨t',rfl⟩:=ry;exact in_str (bJ I q rfl)
theorem Js:iy X (compareOp .Is) (fun x y H Q=>y=.non/\Q (.bl (decide (x=.non))) H):=by
 intro pins s B H x y v u Q I rx ry h;obtain⟨rfl,q⟩:=h;cases ry;refine is_none_gen (bJ I q ?_)
 cases x <;> first
  |(cases rx;rfl)
  |(obtain⟨t,rfl⟩:=rx;rfl)
theorem uq:iy X (compareOp .NotIn) (fun x y H Q=>∃i j,x=.str i/\y=.str j/\Q (.bl (!(!(Builtin.Str.occurrences j i 0 j.length 1).isEmpty))) H):=by
 intro pins s B H x y v u Q I rx ry h;obtain⟨i,j,rfl,rfl,q⟩:=h;obtain⟨t,rfl⟩:=rx;obtain⟨t',rfl⟩:=ry;exact notIn_str (bJ I q rfl)
theorem iy.or{f:Value->Value->Sem Value}{r r':R2}(h:iy X f r)(h':iy X f r'):iy X f (fun x y H Q=>r x y H Q\/r' x y H Q):=by
 intro pins s B H x y v u Q I rx ry q;rcases q with q|q
 ·exact h pins s B H x y v u Q I rx ry q
 ·exact h' pins s B H x y v u Q I rx ry q
theorem Fy{r:R2}(ho:iy X (compareOp op) r)(ha:PE X a ta)(hb:PE X b tb)(hm:behindInMarks op b=false):PE X (.Compare a [op] [b] pos) (Kw r ta tb):=by
 intro pins s B H Q I h;exact wpAny_Compare1 (Hv ha hb I h fun v u s2 x y H2 I2 rx ry q=>ho pins s2 B H2 x y v u Q I2 rx ry q) hm
def Bo(t:TE):TT:=fun B H Q=>t B H fun x H'=>∃k,x=.bl k/\Q k H'
theorem ze{r:R2}(ho:iy X (compareOp op) r)(ha:PE X a ta)(hb:PE X b tb)(hm:behindInMarks op b=false):PT X (.Compare a [op] [b] pos) (Bo (Kw r ta tb)):=by
 intro pins s B H Q I h
 refine wpAny_isTrue_Compare1 (cY (ha pins s B H _ I h) fun v s1 ⟨x,H1,I1,r1,q1⟩=>cY (hb pins s1 B H1 _ I1 q1) fun u s2 ⟨y,H2,I2,r2,q2⟩=>
  cY (ho pins s2 B H2 x y v u _ I2 r1 r2 q2) fun c s3 ⟨z,H3,I3,r3,k,e,q3⟩=>?_) hm
 subst e;cases r3;exact OY ⟨H3,I3,q3⟩
def xB(r r':R2)(ta tb tc:TE):TE:=fun B H Q=>ta B H fun x H1=>tb B H1 fun y H2=>r x y H2 fun z H3=>∃k,z=.bl k /\
 (if k=true then tc B H3 fun w' H4=>r' y w' H4 Q else Q (.bl false) H3)
theorem Dd{op':CmpOp}{r r':R2}(ho:iy X (compareOp op) r)(ho':iy X (compareOp op') r')(ha:PE X a ta)(hb:PE X b tb)(hc:PE X c tc)(hm:lastMarks [op,op'] [b,c]=false:=by with_unfolding_all rfl):PE X (.Compare a [op,op'] [b,c] pos) (xB r r' ta tb tc):=by
 intro pins s B H Q I h
 refine Compare_chain (cY (ha pins s B H _ I h) fun v s1 ⟨x,H1,I1,r1,q1⟩=>chain_link (cY (hb pins s1 B H1 _ I1 q1) fun u s2 ⟨y,H2,I2,r2,q2⟩=>
  cY (ho pins s2 B H2 x y v u _ I2 r1 r2 q2) fun d s3 ⟨z,H3,I3,r3,k,e,q3⟩=>?_)) hm
 subst e;cases r3;refine OY ?_;cases k with
 |false=>exact ite_ff ⟨.bl false,H3,I3,rfl,q3⟩
 |true=>exact ite_tt (chain_last (cY (hc pins s3 B H3 _ I3 q3) fun w' s4 ⟨z',H4,I4,r4,q4⟩=>ho' pins s4 B H4 y z' u w' Q I4 r2 r4 q4))
theorem C4{op':CmpOp}{r r':R2}(ho:iy X (compareOp op) r)(ho':iy X (compareOp op') r')(ha:PE X a ta)(hb:PE X b tb)(hc:PE X c tc)(hm:lastMarks [op,op'] [b,c]=false:=by with_unfolding_all rfl):PT X (.Compare a [op,op'] [b,c] pos) (Bo (xB r r' ta tb tc)):=by
 intro pins s B H Q I h
 refine isTrue_chain (cY (ha pins s B H _ I h) fun v s1 ⟨x,H1,I1,r1,q1⟩=>test_link (cY (hb pins s1 B H1 _ I1 q1) fun u s2 ⟨y,H2,I2,r2,q2⟩=>
  cY (ho pins s2 B H2 x y v u _ I2 r1 r2 q2) fun d s3 ⟨z,H3,I3,r3,k,e,q3⟩=>?_)) hm
 subst e;cases r3;refine OY ?_;cases k with
 |false=>
  obtain⟨k',e',q'⟩:=q3;cases e';exact ite_ff ⟨H3,I3,q'⟩
 |true=>
  refine ite_tt (test_last (cY (hc pins s3 B H3 _ I3 q3) fun w' s4 ⟨z',H4,I4,r4,q4⟩=>cY (ho' pins s4 B H4 y z' u w' _ I4 r2 r4 q4) fun d' s5 ⟨z2,H5,I5,r5,k2,e2,q5⟩=>?_));subst e2;cases r5;exact OY ⟨H5,I5,q5⟩
def Hw(K:W.Frag)(x:V)(H:Hp)(k:Bool):Prop:=
 match x with
 |.non=>k=false
 |.bl b=>k=b
 |.int i=>k=(i != 0)
 |.str y=>y.length<=sizeLine/\k=((y.length:Int) != 0)
 |.byt y=>y.size<=sizeLine/\k=((y.size:Int) != 0)
 |.ref p=>(∃xs,gB K H p xs/\k=!xs.isEmpty)\/(∃xs,gL K H p xs/\k=!xs.isEmpty)\/∃kvs,H p=some (.dK kvs)/\k=!kvs.isEmpty
 |_=>False
theorem yk{κ:Type}{kvs:List (κ×V)}{vs:List (κ×Value)}(r:KV kvs vs):(!vs.isEmpty)=!kvs.isEmpty:=by
 cases r <;> rfl
theorem qB{xs:List V}(r:br xs its):(!its.toArray.isEmpty)=!xs.isEmpty:=by
 cases r <;> simp
theorem ny:(sizeLine:Nat)<2^63:=by rw[Pp];decide
theorem HM:NX X (fun x H Q=>∃k,Hw X.K x H k/\Q k H):=by
 intro pins s B H x v Q I rx h;obtain⟨k,e,q⟩:=h;have hl:=ny;have hs:sizeLine=16777216:=Pp;cases x with
 |non=>
  cases rx;have e':k=false:=e;subst e';exact truthy_none ⟨H,I,q⟩
 |bl b=>
  cases rx;have e':k=b:=e;subst e';exact OY ⟨H,I,q⟩
 |int i=>
  obtain⟨t,rfl⟩:=rx;have e':k=(i != 0):=e;subst e';exact PySem.P.truthy_int ⟨H,I,q⟩
 |str y=>
  obtain⟨t,rfl⟩:=rx;obtain⟨hy,e'⟩:y.length<=sizeLine/\k=((y.length:Int) != 0):=e;subst e';exact PySem.P.truthy_str (by omega) ⟨H,I.tok _,q⟩
 |byt y=>
  obtain⟨t,rfl⟩:=rx;obtain⟨hy,e'⟩:y.size<=sizeLine/\k=((y.size:Int) != 0):=e;subst e';exact W.truthy_bytes (by omega) ⟨H,I.tok _,q⟩
 |ref p=>
  cases rx;have e':(∃xs,gB X.K H p xs/\k=!xs.isEmpty)\/(∃xs,gL X.K H p xs/\k=!xs.isEmpty)\/∃kvs,H p=some (.dK kvs)/\k=!kvs.isEmpty:=e;rcases e' with⟨xs,hx,e'⟩|⟨xs,hx,e'⟩|⟨kvs,hx,e'⟩
  ·subst e';obtain⟨its,r,pl,hz⟩:=I.list hx;have hlen:=r.length;exact wpAny_truthy_list pl.isList (by simp only[Pq];omega) ⟨H,I.tok _,by rw[qB r];exact q⟩
  ·subst e';obtain⟨its,r,pl,hz⟩:=I.tuple hx;have hlen:=r.length;exact truthy_tuple pl (by simp only[Pq];omega) ⟨H,I.tok _,by rw[qB r];exact q⟩
  ·subst e';obtain⟨hz,hS,vs,r,m⟩:kvs.length<=sizeLine/\(p == sysModules)=false/\∃vs,KV kvs vs/\s.heap.DictOf (pf X.prog X.w) p vs:=I.hok p _ hx;have hlen:kvs.length=vs.length:=Paired.length r;exact wpAny_truthy_dict hS m (by omega) ⟨H,I.tok _,by rw[yk r];exact q⟩
 |_=>exact(show False from e).elim
theorem C3(ha:PE X a ta)(he:∀whole,isTrue a X.env whole=(do let v <- whole;standAt a.pos;holding [v] (truthy v))) :
  PT X a (fun B H Q=>ta B H fun x H'=>∃k,Hw X.K x H' k/\Q k H'):=by
 intro pins s B H Q I h;exact isTrue_plain (cY (ha pins s B H _ I h) fun v s1 ⟨x,H1,I1,r1,q1⟩=>HM pins s1 B H1 x v Q I1 r1 q1) (he _)
theorem yc:iy X (binaryOp .Add) (fun x y H Q=>∃i j,x=.str i/\y=.str j/\i.length+j.length<=sizeLine/\Q (.str (i++j)) H):=by
 intro pins s B H x y v u Q I rx ry h;obtain⟨i,j,rfl,rfl,hz,q⟩:=h;obtain⟨t,rfl⟩:=rx;obtain⟨t',rfl⟩:=ry;exact Pr (fun t' tk=>⟨.str (i++j),H,I.tok _,⟨_,rfl⟩,q⟩) hz
theorem eP{x:V}(r:br [x] us):∃u,us=[u]/\bU x u:=by
 cases r with
 |cons r1 r2=>cases r2;exact⟨_,rfl,r1⟩
theorem Bl{x y:V}(r:br [x,y] us):∃u w',us=[u,w']/\bU x u/\bU y w':=by
 cases r with
 |cons r1 r2=>
  cases r2 with
  |cons r3 r4=>cases r4;exact⟨_,_,rfl,r1,r3⟩
theorem AV (hc:X.calm=true):cZ X (.builtin "max") (fun xs H Q=>∃i j,xs=[.int i,.int j]/\Q (.int (if j>i then j else i)) H):=by
 intro pins s B H xs us Q I r h;obtain⟨i,j,rfl,q⟩:=h;obtain⟨u,w',rfl,⟨t,rfl⟩,⟨t',rfl⟩⟩:=Bl r;refine max_two_ints (I.ok.hd hc) fun h' tk k=>⟨_,H,I.kept k,?_,q⟩;by_cases hj:j>i
 ·rw[OA hj,OA hj];exact⟨_,rfl⟩
 ·rw[OB hj,OB hj];exact⟨_,rfl⟩
theorem AS (hc:X.calm=true):cZ X (.builtin "min") (fun xs H Q=>∃i j,xs=[.int i,.int j]/\Q (.int (if j<i then j else i)) H):=by
 intro pins s B H xs us Q I r h;obtain⟨i,j,rfl,q⟩:=h;obtain⟨u,w',rfl,⟨t,rfl⟩,⟨t',rfl⟩⟩:=Bl r;refine min_two_ints (I.ok.hd hc) fun h' tk k=>⟨_,H,I.kept k,?_,q⟩;by_cases hj:j<i
 ·rw[OA hj,OA hj];exact⟨_,rfl⟩
 ·rw[OB hj,OB hj];exact⟨_,rfl⟩
theorem AY:cZ X (.type "int") (fun xs H Q=>(∃i,xs=[.int i]/\Q (.int i) H)\/∃k,xs=[.bl k]/\Q (.int (if k then 1 else 0)) H):=by
 intro pins s B H xs us Q I r h;rcases h with⟨i,rfl,q⟩|⟨k,rfl,q⟩
 ·obtain⟨u,rfl,t,rfl⟩:=eP r;exact call_int_int ⟨.int i,H,I,⟨_,rfl⟩,q⟩
 ·obtain⟨u,rfl,r1⟩:=eP r;cases r1;exact call_int_bool ⟨.int (if k then 1 else 0),H,I.tok _,⟨_,rfl⟩,q⟩
theorem uC:cZ X (.type "str") (fun xs H Q=>∃i,xs=[.int i]/\i.natAbs.log2<1920/\Q (.str (toString i)) H):=by
 intro pins s B H xs us Q I r h;obtain⟨i,rfl,hz,q⟩:=h;obtain⟨u,rfl,t,rfl⟩:=eP r;exact PySem.P.str_of_int hz ⟨.str _,H,I.tok _,⟨_,rfl⟩,q⟩
def HA(K:W.Frag)(x:V)(H:Hp)(n:Nat):Prop:=
 match x with
 |.str y=>y.length<=sizeLine/\n=y.length
 |.byt y=>y.size<=sizeLine/\n=y.size
 |.ref p=>(∃xs,gB K H p xs/\n=xs.length)\/∃xs,gL K H p xs/\n=xs.length
 |_=>False
theorem DN:cZ X (.builtin "len") (fun xs H Q=>∃x n,xs=[x]/\HA X.K x H n/\Q (.int n) H):=by
 intro pins s B H xs us Q I r h;obtain⟨x,n,rfl,e,q⟩:=h;obtain⟨u,rfl,rx⟩:=eP r;have hl:=ny;have hs:sizeLine=16777216:=Pp;cases x with
 |str y=>
  obtain⟨t,rfl⟩:=rx;obtain⟨hy,e'⟩:y.length<=sizeLine/\n=y.length:=e;subst e';exact len_str (by omega) ⟨.int _,H,I.tok _,⟨_,rfl⟩,q⟩
 |byt y=>
  obtain⟨t,rfl⟩:=rx;obtain⟨hy,e'⟩:y.size<=sizeLine/\n=y.size:=e;subst e';exact W.len_bytes (by omega) ⟨.int _,H,I.tok _,⟨_,rfl⟩,q⟩
 |ref p=>
  cases rx;have e':(∃xs,gB X.K H p xs/\n=xs.length)\/∃xs,gL X.K H p xs/\n=xs.length:=e;rcases e' with⟨xs,hx,e'⟩|⟨xs,hx,e'⟩
  ·subst e';obtain⟨its,r',pl,hz⟩:=I.list hx;have hlen:=r'.length;exact Calls.call_len_list pl.isList (by simp only[Pq];omega) ⟨.int xs.length,H,I.tok _,⟨_,by simp only[Pq];rw[hlen]⟩,q⟩
  ·subst e';obtain⟨its,r',pl,hz⟩:=I.tuple hx;have hlen:=r'.length;exact len_tuple pl (by simp only[Pq];omega) ⟨.int xs.length,H,I.tok _,⟨_,by simp only[Pq];rw[hlen]⟩,q⟩
 |_=>exact(show False from e).elim
end
structure Oo(h:Heap)(x dx C:Addr)(mA:Str->Option Value):Prop where
 obj:h.get? x=some (W.instObj C dx)
 ns:h.Ns1 dx mA
 ne:dx≠x
theorem AC{h:Heap}{dx:Addr}{mA:Str->Option Value}(n:h.Ns1 dx mA):∃od,h.get? dx=some od/\∀name,W.lookIn name od=some (mA name):=by
 obtain⟨o,es,ep,ho,hd,hk,_,hm⟩:=n;refine⟨o,ho,fun name=>?_⟩;have e:=hm name;unfold nsFind findBy at e;rw[<- Array.find?_toList]at e;unfold W.lookIn;rw[hd];dsimp only;split
 ·rename_i y q;rw[q]at e;exact O0 some e
 ·rename_i q;rw[q]at e
  have a:es.toList.any (·.refKey)=false:=by
   rw[List.any_eq_false];intro y hy;obtain⟨z,t,hkey⟩:=hk y (Pt.mp hy);simp[DictEntry.refKey,hkey]
  have a':¬ es.toList.any (·.refKey)=true:=by rw[a];exact Pm
  rw[OB a'];exact O0 some e
structure Ol(K:W.Frag)(C:Addr):Prop where
 pg:W.plainGet K C Str.empty=true
 hd:W.hasDictIn K C=true
 po:W.plainOver K C=true
 sa:W.findIn K (.ref C) "__setattr__" = some (some (.builtin "object.__setattr__"))
structure Ot(K:W.Frag)(C:Addr)(f:Str)(v:V)(u:Value):Prop where
 at_:W.findIn K (.ref C) f=some (some u)
 rel:bU v u
 get:W.specialIn K u "__get__" = some none
 cp:W.copiedNames.contains f=false
structure Oq(K:W.Frag)(C:Addr)(m:Str)(f:Addr):Prop where
 at_:W.findIn K (.ref C) m=some (some (.ref f))
 fn:W.isFn K (.ref f)=true
 kp:W.keepIn K (.ref f)=true
section
variable{X:Cx}{dx:Addr}{fs:List (Str×V)}{f:Str}
theorem Gp{f:Str}(hb:attributeBase e f env (eval e env)=eval e env)(h:wpAny (model prog w) A (eval e env) (fun o s₁=>wpAny (model prog w) A (getAttr o f true) Q E s₁) E s):wpAny (model prog w) A (eval (.Attribute e f pos) env) Q E s:=
 Attribute_any_ h (by rw[arm_eval_Attribute,hb])
end
section
variable{X:Cx}{c:Value}{b:Bool}
inductive pP(K:W.Frag)(H:Hp):V->Value->Prop where
 |non:pP K H .non (.type "NoneType")
 |bl (x:Bool):pP K H (.bl x) (.type "bool")
 |int (i:Int):pP K H (.int i) (.type "int")
 |str (x:Str):pP K H (.str x) (.type "str")
 |flt (x:UInt64):pP K H (.flt x) (.type "float")
 |lst {a:Addr}{xs:List V} (e:H a=some (.lst xs)):pP K H (.ref a) (.type "list")
 |frz {a:Addr}{o:Obj}{xs:List V} (e:H a=some (.frz o (.lst xs))):pP K H (.ref a) (.type "list")
 |tup {a:Addr}{xs:List V} (e:H a=some (.tup xs)):pP K H (.ref a) (.type "tuple")
 |dK {a:Addr}{kvs:List (qY×V)} (e:H a=some (.dK kvs)):pP K H (.ref a) (.type "dict")
 |dT {a:Addr}{kvs:List (List qY×V)} (e:H a=some (.dT kvs)):pP K H (.ref a) (.type "dict")
 |ins {a C dx:Addr}{fs:List (Str×V)} (e:H a=some (.ins C dx fs)) (cl:Ol K C) (ha:W.findIn K (.ref C) "__class__" = some (some (.builtin "object.__class__")))
   (hn:W.specialIn K (.builtin "object.__class__") "__get__" = some (some (.builtin "getset_descriptor.__get__"))) (htk:W.takesIn K (.builtin "object.__class__")=some true)
   (hm:W.mroIn K C (.type "object")=some true):pP K H (.ref a) (.ref C)
end
structure dG(k:Nat)(A:Around):Prop where
 hd:A.handled=none
 dp:A.depth+3*k+5<recursionLimit
 un:A.units+16*k+200<cLine
 gd:A.guards=some []
theorem dG.mono(r:dG k A)(h:j<=k):dG j A:=⟨r.hd,by have:=r.dp;omega,by have:=r.un;omega,r.gd⟩
theorem dG.deeper(r:dG (k+1) A)(env:Env):dG k (A.deeper env):=
 ⟨r.hd,by have:=r.dp;show A.depth+1+3*k+5<_;omega,by have:=r.un;show A.units+3+16*k+200<_;omega,r.gd⟩
theorem yi:(A.under (.builtin "type.__call__" ⟨.ref C::us,kw⟩)).depth=A.depth+1:=by
 first|rfl|simp[Around.under,Code.weight,Code.isCreation,Code.isGuard,Code.isCaller,Code.frames,Code.isFrame,guardIds]
theorem yh:(A.under (.builtin "type.__call__" ⟨.ref C::us,kw⟩)).units=A.units+1:=by
 first|rfl|simp[Around.under,Code.cUnits,Code.frames,Code.isFrame]
theorem wK:
  (A.under (.builtin "type.__call__" ⟨.ref C::us,kw⟩)).guards=A.guards:=by
 first|rfl|simp[Around.under,Code.guards,pushGuards,Code.isGuard,guardIds]
theorem dG.make(r:dG (k+1) A)(C:Addr)(us:List Value)(kw:List (Str×Value)):dG k (A.under (.builtin "type.__call__" ⟨.ref C::us,kw⟩)):=
 ⟨r.hd,by have:=r.dp;rw[yi];omega,by have:=r.un;rw[yh];omega,wK.trans r.gd⟩
theorem dG.depth(r:dG k A):A.depth<recursionLimit:=by have:=r.dp;omega
theorem dG.units(r:dG k A):A.units+64<cLine:=by have:=r.un;omega
def KD:TA:=fun _ H Q=>Q [] H
def yD(ta:TE)(tr:TA):TA:=fun B H Q=>ta B H fun x H1=>tr B H1 fun xs H2=>Q (x::xs) H2
section
variable{X:Cx}{es:List Expr}{t:TA}
theorem tE:PA X [] KD:=fun _ _ _ _ H Q I h=>Calls.spliced_nil ⟨[],H,I,.nil,h⟩
theorem jH(ha:PE X e te)(hr:PA X es t)(hs:starEach (e::es) X.env=(false,eval e X.env)::starEach es X.env:=by rfl):PA X (e::es) (yD te t):=by
 intro pos pins s B H Q I h;rw[hs];show wpAny _ _ (spliced ((false,eval e X.env)::backTo pos (starEach es X.env))) _ _ s;refine Pu (cY (ha pins s B H _ I h) fun u s1 ⟨x,H1,I1,r1,q1⟩=>?_);exact cY (hr pos pins s1 B H1 _ I1 q1) fun us s2 ⟨xs,H2,I2,r2,q2⟩=>⟨x::xs,H2,I2,.cons r1 r2,q2⟩
def Nq(t:TA):TE:=fun B H Q=>t B H fun xs H1=>xs.length<=sizeLine/\∀p,H1 p=none->Q (.ref p) (b9 H1 p (.tup xs))
def Nx(t:TA):TE:=fun B H Q=>t B H fun xs H1=>xs.length<=sizeLine/\∀p,H1 p=none->Q (.ref p) (b9 H1 p (.lst xs))
theorem Jb{x1}(h:PA X es t):PE X (.Tuple es x1 pos) (Nq t):=by
 intro pins s B H Q I hq;refine wpAny_Tuple_spliced (cY (h pos pins s B H _ I hq) fun us s1 ⟨xs,H1,I1,r,z,q⟩=>⟨by rw[<- r.length];exact z,?_⟩);have hf:H1 s1.heap.objs.size=none:=I1.hok.fresh (Pf _);refine⟨.ref s1.heap.objs.size,b9 H1 s1.heap.objs.size (.tup xs),I1.laid (t':=s1.toks) (fun b u e=>O8 _ e) (Pf _) ?_,rfl,q _ hf⟩;exact⟨z,us,r,⟨_,Pe _ rfl,rfl,_,rfl⟩⟩
theorem Jg(h:PA X es t):PE X (.List es pos) (Nx t):=by
 intro pins s B H Q I hq;refine wpAny_List_spliced (cY (h pos pins s B H _ I hq) fun us s1 ⟨xs,H1,I1,r,z,q⟩=>⟨by rw[<- r.length];exact z,?_⟩);have hf:H1 s1.heap.objs.size=none:=I1.hok.fresh (Pf _);refine⟨.ref s1.heap.objs.size,b9 H1 s1.heap.objs.size (.lst xs),I1.laid (t':=s1.toks) (fun b u e=>O8 _ e) (Pf _) ?_,rfl,q _ hf⟩;exact⟨z,us,0,r,Pe _ rfl⟩
end
abbrev Sp:=List V->Hp->VK->XK->Prop
abbrev uJ:=List Env->Hp->Shared->XK->Value->Shared->Prop
structure tj(P:Program)(w:World)(K:W.Frag)(mg:Str->Option Value)(base:Heap)(A:Around)(outer:List Env)(s:Shared)(H:Hp):Prop where
 frames:A.frames=some outer
 mod:Mod K mg base
 bs:∀b o,base.get? b=some o->s.heap.get? b=some o/\H b=none
 bsz:base.objs.size<=s.heap.objs.size
 funs:s.heap.FunFrames base outer
 frf:∀b∈pM outer,H b=none
 hok:nr P w H s.heap
 bare:AllBare s.gens
def CE(outer:List Env)(P:Program)(w:World)(H:Hp)(s:Shared)(Q:VK)(u:Value)(s':Shared):Prop:=
 ∃v H',s'.os=s.os/\AllBare s'.gens/\Un (pM outer) [] H H' s.heap s'.heap/\nr P w H' s'.heap/\bU v u/\Q v H'
def CR(CX:uJ)(outer:List Env)(P:Program)(w:World)(H:Hp)(s:Shared)(Q:VK)(E:XK)(r:Result)(s':Shared):Prop:=
 match r with
 |.ok (.ret u)=>CE outer P w H s Q u s'
 |.ok _=>False
 |.error e=>CX outer H s E e s'
structure ll(P:Program)(w:World)(K:W.Frag)(mg:Str->Option Value)(base:Heap)(CX:uJ)(k:Nat)(f:Addr)(fd:FuncData)(ps:List Str)(sp:Sp):Prop where
 len:∀vs H Q E,sp vs H Q E->vs.length=ps.length
 run:∀(A:Around)(outer:List Env)(s:Shared)(H:Hp)(args:Args)(us:List Value)(vs:List V)(Q:VK)(E:XK),dG k A->tj P w K mg base A outer s H->BindsTo s fd args (ps.zip us)->br vs us->sp vs H Q E ->
  codeAny (model P w) A (.call (.ref f) args) (CR CX outer P w H s Q E) s
theorem tj.make(e:tj P w K mg base A outer s H)(C:Addr)(us:List Value)(kw:List (Str×Value)):
  tj P w K mg base (A.under (.builtin "type.__call__" ⟨.ref C::us,kw⟩)) outer s H:=⟨by first|exact e.frames|(simpa[Around.under,Code.envs,Code.isFrame,pushEnvs] using e.frames),e.mod,e.bs,e.bsz,e.funs,e.frf,e.hok,e.bare⟩
section
variable{X:Cx}
theorem aX.env0(I:aX X pins B H s):tj X.prog X.w X.K X.mg X.base X.A X.stack s H:=
 ⟨I.ok.frames,I.ok.mod,I.bs,OI I.ok.bsz I.sz,I.stack,I.stkFree,I.hok,I.bare⟩
theorem aX.after{Q:VK}(I:aX X pins B H s)(h:CE X.stack X.prog X.w H s Q u s'):EP X pins B Q u s':=by
 obtain⟨v,H',os,bare,un,hok,r,q⟩:=h;obtain⟨hh,g,d,t,os'⟩:=s';obtain rfl:os'=s.os:=os;exact⟨v,H',I.call (h':=hh) (g':=g) (d':=d) (t':=t) (ch:=[]) un hok bare (fun b z=>absurd z (by simp)),r,q⟩
end
def Bq(sp:Sp)(dvs:List V)(E:XK)(t:TA):TE:=fun B H Q=>t B H fun vs H1=>sp (vs++dvs) H1 Q E
def eS(K:W.Frag)(fd:FuncData)(ps:List Str)(ds:List Value):Prop:=
 ∀(s:Shared)(us:List Value),K.In s.heap->(us++ds).length=ps.length->BindsTo s fd ⟨us,[]⟩ (ps.zip (us++ds))
theorem eS.all{ps:List Str}(h:∀us:List Value,us.length=ps.length->bindArgs fd ⟨us,[]⟩=pure (ps.zip us)):eS K fd ps []:=fun s us _ hl=>by
 rw[Pv]at hl⊢;exact .of_eq (h us hl)
def jG(CX:uJ)(X:Cx)(E:XK):Prop:=∀(pins:List (Addr×Obj))(B:St)(H:Hp)(s:Shared)(e:Value)(s':Shared),aX X pins B H s->CX X.stack H s E e s'->X.xe e s'
section
variable{X:Cx}{CX:uJ}{ps:List Str}{sp:Sp}{dvs:List V}{ds:List Value}{E:XK}{m:Str}{p:Pos}{o:Expr}{es:List Expr}{ta:TE}{t:TA}
theorem σ1{Q:VK}(F:ll X.prog X.w X.K X.mg X.base CX k f fd ps sp)(hr:dG k X.A)(hb:eS X.K fd ps ds)(hd:br dvs ds)(hx:jG CX X E)(I:aX X pins B H s)(r:br vs us)(h:sp (vs++dvs) H Q E):wpAny (model X.prog X.w) X.A (call (.ref f) us) (EP X pins B Q) X.xe s:=by
 have r2:br (vs++dvs) (us++ds):=r.append hd;have hl:(us++ds).length=ps.length:=by rw[<- r2.length];exact F.len _ _ _ _ h
 refine Pw (Px (F.run X.A X.stack s H ⟨us,[]⟩ (us++ds) (vs++dvs) Q E hr I.env0 (hb s us I.kIn hl) r2 h) fun r s' hq=>?_);cases r with
 |error e=>exact hx pins B H s e s' I hq
 |ok fl=>
  cases fl with
  |ret u=>exact I.after hq
  |next=>exact False.elim hq
  |brk=>exact False.elim hq
  |cont=>exact False.elim hq
theorem tR(F:ll X.prog X.w X.K X.mg X.base CX k f fd ps sp)(hr:dG k X.A)(hg:Gl X x)(hm:X.mg x=some (.ref f))(hk:W.keepIn X.K (.ref f)=true)(hb:eS X.K fd ps ds)(hd:br dvs ds)(hx:jG CX X E)
  (ha:PA X (e::es) t) (hdb:(x == ("__debug__" : Str))=false:=by decide) (he:starEach (e::es) X.env=(false,eval e X.env)::starEach es X.env:=by rfl) (hpl:(backTo pos (starEach es X.env)).any (·.1)=false:=by rfl) :
  PE X (.Call (.Name x p) (e::es) [] pos) (Bq sp dvs E t):=by
 intro pins s B H Q I h;refine Py (kP I hg hm ?_ hdb);refine W.callWith_K (h₀:=X.base) I.ok.mod.kin hk (cY (ha pos pins s B H _ I h) fun us s1 ⟨vs,H1,I1,r,q⟩=>⟨I1.kIn,?_⟩) he hpl;exact σ1 F hr hb hd hx I1 r q
theorem Df(F:ll X.prog X.w X.K X.mg X.base CX k f fd ps sp)(hr:dG k X.A)(hg:Gl X x)(hm:X.mg x=some (.ref f))(hk:W.keepIn X.K (.ref f)=true)(hb:eS X.K fd ps ds)(hd:br dvs ds)(hx:jG CX X E)
  (hdb:(x == ("__debug__" : Str))=false:=by decide):PE X (.Call (.Name x p) [] [] pos) (Bq sp dvs E KD):=by
 intro pins s B H Q I h;refine Py (kP I hg hm ?_ hdb);exact W.callWith_K0 I.kIn hk (σ1 (us:=[]) F hr hb hd hx I .nil h)
structure Mk(K:W.Frag)(C f:Addr):Prop where
 makes:W.makesIn K C=true
 init:W.findIn K (.ref C) "__init__" = some (some (.ref f))
 fn:W.isFn K (.ref f)=true
 kp:W.keepIn K (.ref C)=true
end
section
variable{X:Cx}{CX:uJ}{ps ks:List Str}{sp:Sp}{E:XK}{m:Str}{p kpos:Pos}{o:Expr}{es:List Expr}{kws:List Keyword}{ta:TE}{t tk:TA}{nm:Option Str}
structure N0(K:W.Frag)(fd:FuncData)(ps ks:List Str)(g:List Value->List Value->List Value)(gV:List V->List V->List V):Prop where
 to:∀(s:Shared)(us ws:List Value),K.In s.heap->(g us ws).length=ps.length->BindsTo s fd ⟨us,ks.zip ws⟩ (ps.zip (g us ws))
 rel:∀{vs:List V}{us:List Value}{zs:List V}{ws:List Value},br vs us->br zs ws->br (gV vs zs) (g us ws)
variable{g:List Value->List Value->List Value}{gV:List V->List V->List V}
end
structure aW(N P:List Str)(sc:Scope):Prop where
 kind:sc.kind=.function
 co:sc.isCoroutine=false
 gen:sc.isGenerator=false
 nd:N.Nodup
 pre:N.take P.length=P
 par:∀x∈P,sc.names.lookup x=some .local\/sc.names.lookup x=some .cell
 nofree:∀y∈sc.names,y.2≠.free
theorem sR{kindOf:Str->Option NameKind}{x:Str}:∀{binds:List (Str×Value)}{m:Str->Option Value},(∀v,(x,v)∉binds)->bindL kindOf binds m x=m x
 |[],_,_=>rfl
 |(n,v)::r,m,h=>by
  unfold bindL;rw[sR fun w hw=>h w (OM _ hw)];split
  ·have : x ≠ n := by rintro rfl; exact h v OL
   simp[this]
  ·rfl
theorem sS{kindOf:Str->Option NameKind}{x:Str}:∀{binds:List (Str×Value)}{m:Str->Option Value},(∀v,(x,v)∉binds)->bindC kindOf binds m x=m x
 |[],_,_=>rfl
 |(n,v)::r,m,h=>by
  unfold bindC;rw[sS fun w hw=>h w (OM _ hw)];split
  ·rfl
  ·have : x ≠ n := by rintro rfl; exact h v OL
   simp[this]
theorem nQ{kindOf:Str->Option NameKind}{x:Str}{v:Value}:∀{P:List Str}{vs:List Value}{i:Nat}{m:Str->Option Value},P.Nodup->P[i]?=some x->vs[i]?=some v->kindOf x=some .local ->
  bindL kindOf (P.zip vs) m x=some v
 |[],_,_,_,_,h,_,_=>by simp at h
 |_::_,[],_,_,_,_,h,_=>by simp at h
 |p::P,w::vs,0,m,nd,h1,h2,hk=>by
  simp at h1 h2;subst h1;subst h2;show bindL kindOf ((p,w)::P.zip vs) m p=_;unfold bindL;rw[sR fun v hv=>(Pz.mp nd).1 (PB hv).1,OA hk];simp
 |p::P,w::vs,i+1,m,nd,h1,h2,hk=>by
  show bindL kindOf ((p,w)::P.zip vs) m x=_;unfold bindL;exact nQ (i:=i) (Pz.mp nd).2 (by simpa using h1) (by simpa using h2) hk
theorem nR{kindOf:Str->Option NameKind}{x:Str}{v:Value}:∀{P:List Str}{vs:List Value}{i:Nat}{m:Str->Option Value},P.Nodup->P[i]?=some x->vs[i]?=some v->kindOf x≠some .local ->
  bindC kindOf (P.zip vs) m x=some v
 |[],_,_,_,_,h,_,_=>by simp at h
 |_::_,[],_,_,_,_,h,_=>by simp at h
 |p::P,w::vs,0,m,nd,h1,h2,hk=>by
  simp at h1 h2;subst h1;subst h2;show bindC kindOf ((p,w)::P.zip vs) m p=_;unfold bindC;rw[sS fun v hv=>(Pz.mp nd).1 (PB hv).1,OB hk];simp
 |p::P,w::vs,i+1,m,nd,h1,h2,hk=>by
  show bindC kindOf ((p,w)::P.zip vs) m x=_;unfold bindC;exact nR (i:=i) (Pz.mp nd).2 (by simpa using h1) (by simpa using h2) hk
def start(N:List Str)(vs:List V):St:=vs.map some++List.replicate (N.length-vs.length) none
def pO(CX:uJ)(P:Program)(w:World)(K:W.Frag)(mg:Str->Option Value)(base:Heap)(N:List Str)(qual:Str)(scope:Scope)(f:Addr)(cd:Value)(A:Around)(outer:List Env)(s:Shared)(H:Hp)(E:XK):Cx where
 prog:=P
 w:=w
 K:=K
 mg:=mg
 base:=base
 A:=A.deeper (envOfC qual scope s.heap.objs.size f cd)
 N:=N
 s₀:=s
 H₀:=H
 env:=envOfC qual scope s.heap.objs.size f cd
 outer:=outer
 stack:=envOfC qual scope s.heap.objs.size f cd::outer
 ex:=[]
 calm:=true
 fn:=fun _=>true
 pn:=[]
 xe:=fun e s'=>wpAny (model P w) (A.deeper (envOfC qual scope s.heap.objs.size f cd)) (leaving (envOfC qual scope s.heap.objs.size f cd) e) (fun _ s''=>CX outer H s E e s'') (fun e' s''=>CX outer H s E e' s'') s'
theorem mV(h:sc.names.lookup x=some .cell):∃c,(cellsFrom n sc.names []).lookup x=some c:=by
 have q:=W.cellsFrom_some sc.names n [] (.inl h);exact PH.mp q
theorem AG{CX:uJ}{ps:List Str}{cd:Value}{s1:Shared}{E:XK}(S:aW N ps scope)(hd:A.handled=none)(e0:tj P w K mg base A outer s H)(hl:vs.length=ps.length)(r:br vs us)(x:InCallC s s.heap.objs.size (bindL (envOfC qual scope s.heap.objs.size f cd).kindOf (ps.zip us) fun _=>none) (cellsFrom (s.heap.objs.size+1) scope.names []) (bindC (envOfC qual scope s.heap.objs.size f cd).kindOf (ps.zip us) fun _=>none) s1):
  aX (pO CX P w K mg base N qual scope f cd A outer s H E) [] (start N vs) H s1:=by
 have hpl:ps.length<=N.length:=by have:=O0 List.length S.pre;rw[PL]at this;omega
 obtain⟨h1,tk,rfl,hk⟩:=x.done;have noA:∀b:Addr,b∉(pO CX P w K mg base N qual scope f cd A outer s H E).ex:=fun b z=>absurd (show b∈([]:List Addr) from z) (by simp)
 refine⟨⟨e0.mod,S.kind,rfl,rfl,Pf _,fun y z c h1 h2=>?_,fun y hy=>?_,fun y c _ h=>?_,fun _=>hd,Around.frames_deeper e0.frames,.inr ⟨rfl,rfl⟩,fun b z=>absurd z (noA b),e0.bs,e0.bsz,fun b _ _=>noA b,fun b z=>absurd z (noA b),e0.funs,e0.frf⟩,
  rfl,e0.bare,Un.kept hk,⟨_,x.toInCall.ns,fun i y v h1 h2 h3=>?_⟩,fun y c h=>⟨_,x.cell y c h⟩,e0.hok.fresh (Pf _),fun y c h=>?_,fun p hp=>absurd (show p∈([]:List (Addr×Obj)) from hp) (by simp),e0.hok.kept hk,?_⟩
 ·exact name_of_addr x.apart (PM h1) (PM h2)
 ·have hy : scope.names.lookup y = some .cell \/ scope.names.lookup y = some .free := hy;rcases hy with hy|hy
  ·exact mV hy
  ·exact absurd rfl (S.nofree _ (PM hy))
 ·exact OJ (x.above y c (PM h))
 ·have hi:i<vs.length:=by
   unfold start at h2;by_cases hi:i<vs.length
   ·exact hi
   ·rw[PN (by simpa using hi)]at h2;rw[PQ]at h2;split at h2 <;> cases h2
  have ha:vs[i]?=some v:=by
   unfold start at h2;rw[PR (by simpa using hi),PU]at h2;cases e:vs[i]? with
   |none=>rw[e]at h2;cases h2
   |some a=>rw[e]at h2;cases h2;rfl
  obtain⟨u,hu,rv⟩:=r.get ha
  have hp:ps[i]?=some y:=by
   rw[<- S.pre,PV (by omega)];exact h1
  have ndP:ps.Nodup:=by rw[<- S.pre];exact S.nd.sublist (List.take_sublist _ _)
  refine⟨u,rv,?_⟩;rcases S.par y (PX hp) with k|k
  ·exact .inl ⟨k,nQ ndP hp hu k⟩
  ·obtain⟨c,e⟩:=mV (n:=s.heap.objs.size+1) k;refine .inr ⟨.inl k,c,e,?_⟩;have q:=x.cell y c e;rw[nR ndP hp hu (by show scope.names.lookup y≠_;rw[k];decide)]at q;exact q
 ·exact e0.hok.fresh (OJ (x.above y c (PM h)))
 ·unfold start;show _=N.length;rw[PY,PZ,P0];omega
theorem BA{CX:uJ}{name:Str}{dV kV doc pm ct oc:Value}{od:Option Addr}{ps:List Str}{sp:Sp}(lk:K.lookup f=some ⟨oc,od,.func (W.fnOf name qual params body scope dV kV doc pm an cdv ct),osl⟩)(hcd:W.codeIn K cdv qual=true)(S:aW N ps scope)(len:∀vs H Q E,sp vs H Q E->vs.length=ps.length)(hbody : ∀ (A : Around) (outer : List Env) (s : Shared) (H : Hp) (vs : List V) (Q : VK) (E : XK), dG k (A.deeper (envOfC qual scope s.heap.objs.size f cdv)) -> sp vs H Q E ->
   ∃t,jy (pO CX P w K mg base N qual scope f cdv A outer s H E) body t/\t {nx:=fun _ H'=>Q .non H',rt:=Q} (start N vs) H):
  ll P w K mg base CX (k+1) f (W.fnOf name qual params body scope dV kV doc pm an cdv ct) ps sp:=by
 refine⟨len,fun A outer s H args us vs Q E hr e0 hb r hsp=>?_⟩;have hl:=len _ _ _ _ hsp;have KX:K.In s.heap:=e0.mod.kin.keeps fun b o e=>(e0.bs b o e).1;have lim:s.heap.NoLimit:=e0.mod.nolimit.keeps fun b o e=>(e0.bs b o e).1
 have hkind:∀y∈ps.zip us,scope.names.lookup y.1=some .local\/(scope.names.lookup y.1=some .cell/\((cellsFrom (s.heap.objs.size+1) scope.names []).lookup y.1).isSome=true):=fun⟨n,v⟩ hy=>by
  rcases S.par n (PB hy).1 with q|q
  ·exact .inl q
  ·exact .inr ⟨q,W.cellsFrom_some _ _ _ (.inl q)⟩
 refine codeAny_call_function hr.depth (KX _ _ lk) rfl S.co S.gen rfl (W.codeRec_of KX hcd) (hb _ _ _ _ ?_);refine wpAny_newFunctionEnv_cells S.kind hkind fun env he s1 x=>?_;subst he;refine⟨lim.keeps x.toInCall.keep,codeAny_func ?_⟩;obtain⟨t,ht,hq⟩:=hbody A outer s H vs Q E (hr.deeper _) hsp;have I:aX (pO CX P w K mg base N qual scope f cdv A outer s H E) [] (start N vs) H s1:=AG S hr.hd e0 hl r x;refine OW (ht [] s1 (start N vs) H _ I hq) (fun fl s' hs=>?_) fun e s' hs=>hs
 have fin:∀{B':St}{H':Hp}{v:V}{u:Value},aX (pO CX P w K mg base N qual scope f cdv A outer s H E) [] B' H' s'->bU v u->Q v H'->CE outer P w H s Q u s':=
  fun {B' H' v u} α rv q=>⟨v,H',α.os,α.bare,α.base,α.hok,rv,q⟩
 cases fl with
 |ret u=>
  obtain⟨v,B',H',α,rv,q⟩:=hs;exact fin α rv q
 |next=>
  obtain⟨B',H',α,q⟩:=hs;exact fin (v:=V.non) (u:=Value.none) α rfl q
 |brk=>
  obtain⟨_,_,_,q⟩:=hs;exact False.elim q
 |cont=>
  obtain⟨_,_,_,q⟩:=hs;exact False.elim q
end L2
variable{CX:L2.uJ}{sp:L2.Sp}
namespace L2
open PySem PySem.Spec PyProof.Rows
section
variable{X:Cx}{p:Pos}{es:List Expr}{t:TA}{id:String}{r:List V->Hp->VK->Prop}
def N2(r:List V->Hp->VK->Prop)(t:TA):TE:=fun B H Q=>t B H fun vs H1=>r vs H1 Q
theorem mR (hc:cZ X (.builtin id) r) (hg:Gl X x) (hm:X.mg x=none) (hv:bootBuiltins x=some (.builtin id)) (ha:PA X (e::es) t) (hn:x ≠ "__name__" := by decide) (hdb:(x == ("__debug__" : Str))=false:=by decide)
  (he:starEach (e::es) X.env=(false,eval e X.env)::starEach es X.env:=by rfl) (hpl:(backTo pos (starEach es X.env)).any (·.1)=false:=by rfl):PE X (.Call (.Name x p) (e::es) [] pos) (N2 r t):=by
 intro pins s B H Q I h;refine Py (lX I hg hm hv ?_ hn hdb);exact PyProof.Rows.callWith_builtin1 (cY (ha pos pins s B H _ I h) fun us s1 ⟨vs,H1,I1,r1,q1⟩=>hc pins s1 B H1 vs us Q I1 r1 q1) he hpl
theorem An (hc:cZ X (.type T) r) (hg:Gl X x) (hm:X.mg x=none) (hv:bootBuiltins x=some (.type T)) (ha:PA X (e::es) t) (hn:x ≠ "__name__" := by decide) (hdb:(x == ("__debug__" : Str))=false:=by decide)
  (he:starEach (e::es) X.env=(false,eval e X.env)::starEach es X.env:=by rfl) (hpl:(backTo pos (starEach es X.env)).any (·.1)=false:=by rfl):PE X (.Call (.Name x p) (e::es) [] pos) (N2 r t):=by
 intro pins s B H Q I h;refine Py (lX I hg hm hv ?_ hn hdb);exact Pg (cY (ha pos pins s B H _ I h) fun us s1 ⟨vs,H1,I1,r1,q1⟩=>hc pins s1 B H1 vs us Q I1 r1 q1) he hpl
end
end L2
namespace HT
open PySem PyProof.Rows
section
theorem cat_tup{t:Addr}{vs ws:List Value}(ht:IsTup s.heap t vs.toArray)(hb:IsTup s.heap b ws.toArray)(hv:vs≠[])(h1:ws=[]->Q (.ref t) s)(h2:ws≠[]->Q (.ref s.heap.objs.size) {s with heap:=s.heap.push {cls:=.type "tuple",data:=.seq (vs++ws).toArray}})(hsz:vs.length+ws.length<=sizeLine):wpAny (model prog w) A (binaryOp .Add (.ref t) (.ref b)) Q E s:=by
 obtain⟨⟨cls,dd,data,sl⟩,ho,hc,n,hd⟩:=id ht;obtain⟨⟨cls2,dd2,data2,sl2⟩,ho2,hc2,n2,hd2⟩:=id hb;simp only at hc hd hc2 hd2;subst hc hd hc2 hd2;have e:vs.toArray++ws.toArray=(vs++ws).toArray:=by simp
 by_cases hw:ws=[]
 ·exact concat_meets ⟨_,ho,rfl⟩ ⟨_,ho2,rfl⟩ P9 seq_tuple_add Qa Qb (Qc _ _)
   (tuple_addW1 t b vs.toArray ws.toArray n n2 dd dd2 sl sl2 (by simpa using hv) (by simp[hw])) ⟨ho,ho2,h1 hw⟩
 ·refine concat_meets ⟨_,ho,rfl⟩ ⟨_,ho2,rfl⟩ P9 seq_tuple_add Qa Qb (Qc _ _)
   (tuple_addW2 t b vs.toArray ws.toArray n n2 dd dd2 sl sl2 (by simpa using hv) (by simpa using hw) (by rw[Pq,Pq];exact hsz)) ⟨ho,ho2,?_⟩
  rw[e];exact h2 hw
def sIx(n d:Nat):Option Int->Nat
 |none=>d
 |some v=>if v<0 then (v+(n:Int)).toNat else min v.toNat n
theorem sIx_none(n d:Nat):sIx n d none=d:=rfl
theorem sIx_nat(n d k:Nat):sIx n d (some (k:Int))=min k n:=by
 show (if (k:Int)<0 then ((k:Int)+(n:Int)).toNat else min (k:Int).toNat n)=min k n;rw[OB (by omega),Qd]
theorem IJ(n d:Nat)(hd:d<=n)(o:Option Int):sIx n d o<=n:=by
 cases o with
 |none=>exact hd
 |some v=>
  show (if v<0 then (v+(n:Int)).toNat else min v.toNat n)<=n;by_cases hv:v<0
  ·rw[OA hv];omega
  ·rw[OB hv];exact Qe _ _
theorem zC(v:Int)(n d:Nat):(if v<0 then max (v+(n:Int)) 0 else min v (n:Int))=((sIx n d (some v):Nat):Int):=by
 show (if v<0 then max (v+(n:Int)) 0 else min v (n:Int))=(((if v<0 then (v+(n:Int)).toNat else min v.toNat n):Nat):Int);by_cases hv:v<0
 ·simp only[OA hv];omega
 ·simp only[OB hv];omega
theorem yz(lo hi:Option Int)(n:Nat):Builtin.Slice.sliceAdjust lo hi 1 (n:Int)=(((sIx n 0 lo:Nat):Int),((sIx n n hi:Nat):Int)):=by
 have h1:¬ ((1:Int)<0):=by omega
 unfold Builtin.Slice.sliceAdjust;simp only[h1,Qf];refine Prod.ext ?_ ?_
 ·cases lo with
  |none=>rfl
  |some v=>exact zC v n 0
 ·cases hi with
  |none=>rfl
  |some v=>exact zC v n n
theorem yb(i j:Nat):Builtin.Slice.slicePlaces (i:Int) (j:Int) 1=j-i:=by
 unfold Builtin.Slice.slicePlaces;have h1:(1:Int)>0:=by omega
 simp only[h1,Qg,Int.ediv_one];split <;> omega
theorem qy{v:Value}{o:Option Int}{Q:Option Int->Shared->Prop}(p:IsPart v o)(h:Q o s):wpAny (model prog w) A (Builtin.Slice.slicePartIndex v) Q E s:=by
 cases p with
 |none=>exact slicePart_none h
 |int i t=>exact slicePart_int h
theorem sliceApplied_gen{sl:Addr}{vu:Value}{hi:Option Int}{Q:Int×Int×Nat->Shared->Prop}(hs:s.heap.IsSliceOf sl vl vu .none)(pl:IsPart vl lo)(pu:IsPart vu hi)(h:Q (((sIx n 0 lo:Nat):Int),1,sIx n n hi-sIx n 0 lo) s):wpAny (model prog w) A (Builtin.Slice.sliceApplied (.ref sl) (pure (n:Int))) Q E s:=by
 obtain⟨os,hos,hcs,hds⟩:=id hs;unfold Builtin.Slice.sliceApplied Builtin.Slice.sliceFields;refine O3 (O3 (Qh hos hds (x:=vl) rfl (O3 (Qh hos hds (x:=vu) rfl (O3 (Qh hos hds (x:=.none) rfl (O6 ?_)))))));refine O3 (slicePart_none ?_);show wpAny _ _ (if ((1:Int) == 0)=true then _ else _) _ _ s;rw[OB (by decide)];refine O3 (qy pl (O3 (qy pu (O3 (O6 ?_)))));show wpAny _ _ (match Builtin.Slice.sliceAdjust lo hi 1 (n:Int) with|(lo,hi)=>pure (lo,(1:Int),Builtin.Slice.slicePlaces lo hi 1)) _ _ s;rw[yz lo hi n];show wpAny _ _ (pure (((sIx n 0 lo:Nat):Int),(1:Int),Builtin.Slice.slicePlaces ((sIx n 0 lo:Nat):Int) ((sIx n n hi:Nat):Int) 1)) _ _ s;rw[yb];exact O6 h
theorem C8(xs:Array Value)(i k:Nat):((List.range k).filterMap fun(m:Nat)=>xs[((i:Int)+(m:Int)*1).toNat]?).toArray=((xs.toList.drop i).take k).toArray:=by
 have e:(fun(m:Nat)=>xs[((i:Int)+(m:Int)*1).toNat]?)=fun m=>xs[i+m]?:=by
  funext m;have:((i:Int)+(m:Int)*1).toNat=i+m:=by omega
  rw[this]
 rw[e];have:=pick_run xs i k;rw[List.filterMap_map]at this;have e2:((fun x=>xs[x]?) ∘ fun x=>i+x)=fun m=>xs[i+m]?:=rfl;rw[e2]at this;rw[this]
theorem getItem_tuple_cut{t sl:Addr}{items:Array Value}{vu:Value}{hi:Option Int}(ht:IsTup s.heap t items)(hs:s.heap.IsSliceOf sl vl vu .none)(pl:IsPart vl lo)(pu:IsPart vu hi)(hw:¬ (sIx items.size 0 lo=0/\sIx items.size items.size hi=items.size))(h:Q (.ref s.heap.objs.size) {s with heap:=s.heap.push {cls:=.type "tuple",data:=.seq ((items.toList.drop (sIx items.size 0 lo)).take (sIx items.size items.size hi-sIx items.size 0 lo)).toArray}})(hsz:items.size<=sizeLine):wpAny (model prog w) A (getItem (.ref t) (.ref sl)) Q E s:=by
 have htake:sizeOk (.seq ((items.toList.drop (sIx items.size 0 lo)).take (sIx items.size items.size hi-sIx items.size 0 lo)).toArray):=by
  show ((items.toList.drop (sIx items.size 0 lo)).take (sIx items.size items.size hi-sIx items.size 0 lo)).toArray.size<=sizeLine;rw[Pq,PL,Qi,OZ];omega
 have hj:sIx items.size items.size hi<=items.size:=IJ _ _ (Pf _) hi;obtain⟨os,hos,hcs,hds⟩:=id hs;have hTs:s.TypeIs (.ref sl) "slice" := ⟨os,hos,hcs⟩;unfold getItem
 try with_reducible refine O4 ?_
 first|refine O3 (O6 ?_)|skip
 refine O3 (wpAny_sequenceKey ht.typeIs (by decide) ?_)
 refine O3 (Qj (name:=Str.ofString "__getitem__") ht.typeIs Qk
  (Ql Qk ht.typeIs entry_tuple_getitem ?_ (args_tuple_getitem _ _)))
 show wpAny _ _ (Builtin.Tuple.tupleItemsOf (.ref t) >>= _) _ _ s;refine O3 (tupleItemsOf_ ht ?_);refine O3 (Qm hTs ?_);rw[OA (by decide)];refine O3 (sliceApplied_gen hs pl pu ?_)
 have hno:¬ ((((sIx items.size 0 lo:Nat):Int) == 0&&(1:Int) == 1&&(sIx items.size items.size hi-sIx items.size 0 lo) == items.size)=true):=by
  intro q;rw[Qn,Qn]at q;have q1:((sIx items.size 0 lo:Nat):Int)=0:=eq_of_beq q.1.1;have q2:sIx items.size items.size hi-sIx items.size 0 lo=items.size:=eq_of_beq q.2;exact hw ⟨by omega,by omega⟩
 show wpAny _ _ (if (((sIx items.size 0 lo:Nat):Int) == 0&&(1:Int) == 1&&(sIx items.size items.size hi-sIx items.size 0 lo) == items.size)=true then _ else _) _ _ s;rw[OB hno,C8]
 first
  |exact O3 (m:=Builtin.Tuple.tupleExact _) (O7 (O6 ⟨_,rfl,O6 h⟩) htake)
  |exact O3 (m:=Builtin.Tuple.tupleExact _) (O7 (O3 (O6 (O6 ⟨_,rfl,O6 h⟩))) htake)
  |exact O3 (O3 (m:=Builtin.Tuple.tupleExact _) (O7 (O6 (O6 ⟨_,rfl,O6 h⟩)) htake))
  |exact O3 (O3 (m:=Builtin.Tuple.tupleExact _) (O7 (O6 ⟨_,rfl,O6 h⟩) htake))
end
end HT
namespace L2
open PySem PySem.Spec PyProof.Rows
abbrev TO:=St->Hp->(Option Int->Hp->Prop)->Prop
def PO(X:Cx)(e:Option Expr)(t:TO):Prop:=
 ∀(pins:List (Addr×Obj))(s:Shared)(B:St)(H:Hp)(Q:Option Int->Hp->Prop),aX X pins B H s->t B H Q ->
  wpAny (model X.prog X.w) X.A (evalPart e X.env) (fun u s'=>∃o H',aX X pins B H' s'/\IsPart u o/\Q o H') X.xe s
def EE:TO:=fun _ H Q=>Q none H
def Li(t:TE):TO:=fun B H Q=>t B H fun x H1=>∃i,x=.int i/\Q (some i) H1
theorem iG:∀{us:List Value},br (ns.map V.int) us->IntsAre us ns:=by
 induction ns with
 |nil=>intro us r;rw[Qo]at r;cases r;exact .nil
 |cons n ns ih=>
  intro us r;rw[Qp]at r;cases r with
  |cons r1 r2=>
   obtain⟨t,e⟩:=r1;subst e;exact .cons n t (ih r2)
section
variable{X:Cx}{lo hi:Option Expr}{tl th:TO}
theorem Fm:PO X none EE:=by
 intro pins s B H Q I h;rw[evalPart_none];exact O6 ⟨none,H,I,.none,h⟩
theorem Fl(h:PE X e te):PO X (some e) (Li te):=by
 intro pins s B H Q I hw;rw[evalPart_some];refine cY (h pins s B H _ I hw) fun u s1 ⟨x,H1,I1,r1,q1⟩=>?_;obtain⟨i,rfl,q⟩:=q1;obtain⟨t,rfl⟩:=r1;exact⟨some i,H1,I1,.int i t,q⟩
def D3(X:Cx)(r:V->Option Int->Option Int->Hp->VK->Prop):Prop:=
 ∀(pins:List (Addr×Obj))(s:Shared)(B:St)(H:Hp)(x:V)(v vl vu:Value)(lo hi:Option Int)(sl:Addr)(Q:VK),aX X pins B H s->bU x v->s.heap.IsSliceOf sl vl vu .none->IsPart vl lo->IsPart vu hi->r x lo hi H Q ->
  ∃T id,typeLookup (.type T) "__getitem__" = pure (some (.builtin id))/\s.TypeIs v T/\wpAny (model X.prog X.w) X.A (getItem v (.ref sl)) (EP X pins B Q) X.xe s
theorem D3.or{r':V->Option Int->Option Int->Hp->VK->Prop}(h:D3 X r)(h':D3 X r'):D3 X (fun x lo hi H Q=>r x lo hi H Q\/r' x lo hi H Q):=by
 intro pins s B H x v vl vu lo hi sl Q I rx hs pl pu q;rcases q with q|q
 ·exact h pins s B H x v vl vu lo hi sl Q I rx hs pl pu q
 ·exact h' pins s B H x v vl vu lo hi sl Q I rx hs pl pu q
def Oe(r:V->Option Int->Option Int->Hp->VK->Prop)(te:TE)(tl th:TO):TE:=fun B H Q=>te B H fun x H1=>tl B H1 fun l H2=>th B H2 fun u H3=>r x l u H3 Q
theorem vD(hr:D3 X r)(he:PE X e te)(hl:PO X lo tl)(hu:PO X hi th):PE X (.Subscript e (.Slice lo hi none p2) pos) (Oe r te tl th):=by
 intro pins s B H Q I h;refine Subscript_ (cY (he pins s B H _ I h) fun v s1 ⟨x,H1,I1,r1,q1⟩=>?_);refine wpAny_Slice (cY (hl pins s1 B H1 _ I1 q1) fun vl s2 ⟨l,H2,I2,pl,q2⟩=>cY (hu pins s2 B H2 _ I2 q2) fun vu s3 ⟨u,H3,I3,pu,q3⟩=>?_);rw[evalPart_none];refine O6 ?_;have I4:aX X pins B H3 {s3 with heap:=s3.heap.push {cls:=.type "slice",data:=.fields #[vl,vu,.none]}}:=I3.kept (t':=s3.toks) fun b ob q=>O8 _ q;obtain⟨T,id,hT,ht,hg⟩:=hr pins {s3 with heap:=s3.heap.push {cls:=.type "slice",data:=.fields #[vl,vu,.none]}} B H3 x v vl vu l u s3.heap.objs.size Q I4 r1 (Heap.IsSliceOf.new ..) pl pu q3;show wpAny (model X.prog X.w) X.A (subscriptTail e (.Slice lo hi none p2) v (.ref s3.heap.objs.size)) (EP X pins B Q) X.xe {s3 with heap:=s3.heap.push {cls:=.type "slice",data:=.fields #[vl,vu,.none]}};exact tail_any (ops:=[.ref s3.heap.objs.size,v]) ht hT hg (by with_unfolding_all rfl)
def uR(xs:List V)(lo hi:Option Int):List V:=(xs.drop (HT.sIx xs.length 0 lo)).take (HT.sIx xs.length xs.length hi-HT.sIx xs.length 0 lo)
theorem om(xs:List V)(lo hi:Option Int):(uR xs lo hi).length<=xs.length:=by
 unfold uR;rw[PL,Qi];omega
def KH(K:W.Frag):V->Option Int->Option Int->Hp->VK->Prop:=fun x lo hi H Q=>∃a xs,x=.ref a/\gL K H a xs /\
 ¬ (HT.sIx xs.length 0 lo=0/\HT.sIx xs.length xs.length hi=xs.length)/\∀p,H p=none->Q (.ref p) (b9 H p (.tup (uR xs lo hi)))
theorem Ir:D3 X (KH X.K):=by
 intro pins s B H x v vl vu lo hi sl Q I rx hs pl pu h;obtain⟨a,xs,rfl,hx,hw,q⟩:=h;cases rx;obtain⟨its,r,ht,hz⟩:=I.tuple hx;have hlen:its.toArray.size=xs.length:=by rw[Pq];exact r.length.symm
 refine⟨"tuple",_,Qk.lookup,ht.typeIs,?_⟩;refine HT.getItem_tuple_cut ht hs pl pu (by rw[hlen];exact hw) ?_ (by rw[hlen];exact hz);rw[hlen];refine⟨.ref s.heap.objs.size,_,I.laid (t':=s.toks) (o:=.tup (uR xs lo hi)) (fun b ob q=>O8 _ q) (Pf _) ?_,rfl,q _ (I.hok.fresh (Pf _))⟩;exact⟨OI (om xs lo hi) hz,_,(r.drop (HT.sIx xs.length 0 lo)).take (HT.sIx xs.length xs.length hi-HT.sIx xs.length 0 lo),IsTup.new _ _⟩
def LI(K:W.Frag):R2:=fun x y H Q=>∃a b xs ys,x=.ref a/\y=.ref b/\gL K H a xs/\gL K H b ys/\xs≠[]/\xs.length+ys.length<=sizeLine /\
 (ys=[]->Q (.ref a) H)/\(ys≠[]->∀p,H p=none->Q (.ref p) (b9 H p (.tup (xs++ys))))
theorem br.nil_iff{xs:List V}(r:br xs us):us=[]↔xs=[]:=by
 cases r with
 |nil=>simp
 |cons _ _=>simp
theorem FI:iy X (binaryOp .Add) (LI X.K):=by
 intro pins s B H x y v u Q I rx ry h;obtain⟨a,b,xs,ys,rfl,rfl,ha,hb,hx,hz,q1,q2⟩:=h;cases rx;cases ry;obtain⟨its,r1,p1,_⟩:=I.tuple ha;obtain⟨its2,r2,p2,_⟩:=I.tuple hb;refine HT.cat_tup p1 p2 (fun z=>hx (r1.nil_iff.mp z)) (fun z=>⟨.ref a,H,I,rfl,q1 (r2.nil_iff.mp z)⟩) (fun z=>?_) (by rw[<- r1.length,<- r2.length];exact hz);refine⟨.ref s.heap.objs.size,_,I.laid (t':=s.toks) (o:=.tup (xs++ys)) (fun b ob q=>O8 _ q) (Pf _) ?_,rfl,q2 (fun w=>z (r2.nil_iff.mpr w)) _ (I.hok.fresh (Pf _))⟩;exact⟨by rw[PY];exact hz,_,r1.append r2,IsTup.new _ _⟩
end
def uK(n:Nat)(i:Int):Option Nat:=if 0<=i then (if i<n then some i.toNat else none) else if -(n:Int)<=i then some (i+n).toNat else none
def atI{J:Type}(xs:List J)(i:Int):Option J:=(uK xs.length i).bind fun j=>xs[j]?
theorem zp{i:Int}(h:uK n i=some j):seqIndex? i n=some j/\j<n/\-(n:Int)<=i/\i<n:=by
 unfold uK at h;by_cases h0:0<=i
 ·rw [OA h0] at h;by_cases h1:i<n
  ·rw[OA h1]at h;have e:i.toNat=j:=Ou h;exact⟨by rw[seqIndex_of h0 h1,e],by omega,by omega,h1⟩
  ·rw[OB h1]at h;cases h
 ·rw [OB h0] at h;by_cases h1:-(n:Int)<=i
  ·rw[OA h1]at h;have e:(i+n).toNat=j:=Ou h;exact⟨by rw[seqIndex_neg (by omega) h1,e],by omega,h1,by omega⟩
  ·rw[OB h1]at h;cases h
theorem t7{J:Type}{xs:List J}{i:Int}{v:J}(h:atI xs i=some v):∃j,seqIndex? i xs.length=some j/\xs[j]?=some v/\j<xs.length/\-(xs.length:Int)<=i/\i<xs.length:=by
 unfold atI at h;cases e:uK xs.length i with
 |none=>rw[e]at h;cases h
 |some j=>
  rw[e]at h;obtain⟨h1,h2,h3,h4⟩:=zp e;exact⟨j,h1,h,h2,h3,h4⟩
theorem pF{J:Type}{xs:List J}{v:J}(h:xs[j]?=some v):atI xs (j:Int)=some v:=by
 have hj:j<xs.length:=(OS.mp h).1
 have e:uK xs.length (j:Int)=some j:=by
  unfold uK;rw[OA (by omega),OA (by omega)];simp
 unfold atI;rw[e];exact h
def pH(b:Expr):Prop:=∀o i,subscripted b false o i=operate [o,i] (getItem o i)
def Eb(X:Cx)(r:R2):Prop:=
 ∀(value slice:Expr)(pins:List (Addr×Obj))(s:Shared)(B:St)(H:Hp)(x y:V)(v u:Value)(Q:VK),aX X pins B H s->bU x v->bU y u->r x y H Q ->
  subscripted slice false v u=operate [v,u] (getItem v u)->wpAny (model X.prog X.w) X.A (subscriptTail value slice v u) (EP X pins B Q) X.xe s
def Hl(X:Cx)(id:String)(r:V->List V->Hp->VK->Prop):Prop:=
 ∀(pins:List (Addr×Obj))(s:Shared)(B:St)(H:Hp)(x:V)(xs:List V)(v:Value)(us:List Value)(Q:VK),aX X pins B H s->bU x v->br xs us->r x xs H Q ->
  wpAny (model X.prog X.w) X.A (call (.builtin id) (v::us)) (EP X pins B Q) X.xe s
section
variable{X:Cx}{a b:Expr}{ta tb:TE}
theorem Eb.or{r r':R2}(h:Eb X r)(h':Eb X r'):Eb X (fun x y H Q=>r x y H Q\/r' x y H Q):=by
 intro value slice pins s B H x y v u Q I rx ry q hs;rcases q with q|q
 ·exact h value slice pins s B H x y v u Q I rx ry q hs
 ·exact h' value slice pins s B H x y v u Q I rx ry q hs
theorem GX{r:R2}(hr:Eb X r)(ha:PE X a ta)(hb:PE X b tb)(hs:pH b):PE X (.Subscript a b pos) (Kw r ta tb):=by
 intro pins s B H Q I h;exact Subscript_ (Hv ha hb I h fun v u s2 x y H2 I2 rx ry q=>hr a b pins s2 B H2 x y v u Q I2 rx ry q (hs _ _))
def KN(K:W.Frag):R2:=fun x y H Q=>∃p xs i v,x=.ref p/\y=.int i/\gB K H p xs/\atI xs i=some v/\Q v H
def KM(K:W.Frag):R2:=fun x y H Q=>∃p xs i v,x=.ref p/\y=.int i/\gL K H p xs/\atI xs i=some v/\Q v H
def Ho:R2:=fun x y H Q=>∃z i c,x=.str z/\y=.int i/\z.length<=sizeLine/\atI z.cps.toList i=some c/\Q (.str ⟨#[c]⟩) H
theorem F5:Eb X (KN X.K):=by
 intro value slice pins s B H x y v u Q I rx ry h hs;obtain⟨p,xs,i,z,rfl,rfl,hq,he,q⟩:=h;cases rx;obtain⟨t,rfl⟩:=ry;obtain⟨its,r,pl,hz⟩:=I.list hq;obtain⟨j,h1,h2,h3,h4,h5⟩:=t7 he;obtain⟨w,ew,rw'⟩:=r.get h2;have hl:=r.length;have hn:=ny;have fin:EP X pins B Q w s:=⟨z,H,I,rw',q⟩;by_cases h0:0<=i
 ·have hj:i.toNat=j:=by
   rw[seqIndex_of h0 h5]at h1;exact Ou h1
  exact item_listR pl.isList h0 (by omega) (by rw[hj];simpa using ew) fin hs
 ·have hj:(i+(its.toArray.size:Int)).toNat=j:=by
   rw[seqIndex_neg (by omega) h4]at h1;rw[Pq,<- hl];exact Ou h1
  exact subscriptTail_builtinR (x:=w) pl.isList.typeIs slot_list_getitem.lookup
   (wpAny_getItem_list_neg (Q:=fun r s'=>r=w/\EP X pins B Q r s') pl.isList (by omega) (by rw[Pq] <;> omega) (by omega) (by rw[hj];simpa using ew) ⟨rfl,fin⟩) hs
theorem JY:Eb X (KM X.K):=by
 intro value slice pins s B H x y v u Q I rx ry h hs;obtain⟨p,xs,i,z,rfl,rfl,hq,he,q⟩:=h;cases rx;obtain⟨t,rfl⟩:=ry;obtain⟨its,r,pl,hz⟩:=I.tuple hq;obtain⟨j,h1,h2,h3,h4,h5⟩:=t7 he;obtain⟨w,ew,rw'⟩:=r.get h2;have hl:=r.length;have hn:=ny;have fin:EP X pins B Q w s:=⟨z,H,I,rw',q⟩
 exact subscriptTail_builtinR (x:=w) pl.typeIs slot_tuple_getitem.lookup
  (getItem_tuple (j:=j) (Q:=fun r s'=>r=w/\EP X pins B Q r s') pl (by omega) (by omega) (by rw[Pq,<- hl];exact h1) (by simpa using ew) ⟨rfl,fin⟩) hs
theorem Cc:Eb X Ho:=by
 intro value slice pins s B H x y v u Q I rx ry h hs;obtain⟨z,i,c,rfl,rfl,hz,he,q⟩:=h;obtain⟨t,rfl⟩:=rx;obtain⟨t',rfl⟩:=ry;obtain⟨j,h1,h2,h3,h4,h5⟩:=t7 he;have hl:z.cps.toList.length=z.length:=by simp[Str.length]
 rw[hl]at h1 h4 h5;have hn:=ny
 exact tail_any (Qq s z t) slot_str_getitem.lookup (getItem_str (c:=c) (by
  have e1:decide (i < -(2^63:Int))=false:=Ow (by omega);have e2:decide (i ≥ 2^63)=false:=Ow (by omega)
  rw[e1,e2,Bool.or_false]) (by rw[h1];simpa using h2) ⟨.str ⟨#[c]⟩,H,I.tok _,⟨_,rfl⟩,q⟩) hs
def N4(K:W.Frag):R2:=fun x y H Q=>KN K x y H Q\/KM K x y H Q\/Ho x y H Q
theorem JZ:Eb X (N4 X.K):=F5.or (JY.or Cc)
theorem yg (its:List Value) (n j:Nat) (u:Value):Obj.mapSeq (·.setIfInBounds j u) {cls:=.type "list",data:=.seq its.toArray n}={cls:=.type "list",data:=.seq (its.set j u).toArray n}:=by
 simp[Obj.mapSeq]
theorem aX.lst{p:Addr}{xs:List V}(I:aX X pins B H s)(h:H p=some (.lst xs)):
  ∃(its:List Value) (n:Nat),br xs its/\s.heap.get? p=some {cls:=.type "list",data:=.seq its.toArray n}/\xs.length<=sizeLine:=by
 obtain⟨z,its,n,r,e⟩:=I.hok p _ h;exact⟨its,n,r,e,z⟩
theorem aX.lstUpd{p:Addr}{xs ys:List V}{its':List Value}{n':Nat}{f:Obj->Obj}(I:aX X pins B H s)(h:H p=some (.lst xs))(ho:s.heap.get? p=some {cls:=.type "list",data:=.seq its.toArray n})(hf:f {cls:=.type "list",data:=.seq its.toArray n}={cls:=.type "list",data:=.seq its'.toArray n'})(r:br ys its')(hz:ys.length<=sizeLine)(t:Nat):
  aX X pins B (b9 H p (.lst ys)) {s with heap:=s.heap.update p f,toks:=t}:=by
 have e:(s.heap.update p f).get? p=some {cls:=.type "list",data:=.seq its'.toArray n'}:=by
  rw[Qr f ho (by rw[hf] <;> rfl),hf]
 refine I.write (x:=p) (e:=p) (by rw[h];trivial) (.inl rfl) (fun b u hb q=>(Qs _ _ (OP hb)).trans q) ⟨_,e⟩ ?_;exact⟨hz,its',n',r,e⟩
def GQ:V->V->V->Hp->(Hp->Prop)->Prop:=fun o i v H Q=>∃p xs k j,o=.ref p/\i=.int k/\H p=some (.lst xs)/\uK xs.length k=some j/\Q (b9 H p (.lst (xs.set j v)))
theorem CS:K6 X GQ:=by
 intro pins s B H o i v ov iv u Q I ro ri rv h;obtain⟨p,xs,k,j,rfl,rfl,hp,hj,q⟩:=h;cases ro;obtain⟨t,rfl⟩:=ri;obtain⟨its,n,r,ho,hz⟩:=I.lst hp;obtain⟨h1,h2,h3,h4⟩:=zp hj;have hl:=r.length;have hn:=ny
 have I':aX X pins B (b9 H p (.lst (xs.set j v))) {s with heap:=s.heap.update p (Obj.mapSeq (·.setIfInBounds j u))}:=
  I.lstUpd hp ho (yg its n j u) (r.set rv j) (by rw[Qt];exact hz) s.toks
 by_cases h0:0<=k
 ·have hk:k.toNat=j:=by
   rw[seqIndex_of h0 h4]at h1;exact Ou h1
  exact W.ki_setAt ho h0 (by omega) (by rw[Pq,<- hl];exact h4) (by rw[hk];exact⟨_,I',q⟩)
 ·have hk:(k+(its.toArray.size:Int)).toNat=j:=by
   rw[seqIndex_neg (by omega) h3]at h1;rw[Pq,<- hl];exact Ou h1
  exact W.ki_setBack ho (by omega) (by rw[Pq,<- hl];exact h3) (by omega) (by rw[hk];exact⟨_,I',q⟩)
theorem ug(lo hi:Option Int)(n:Nat):(sliceBounds lo hi none n).1=((HT.sIx n 0 lo:Nat):Int)/\(sliceBounds lo hi none n).2.1=((HT.sIx n n hi:Nat):Int)/\(sliceBounds lo hi none n).2.2=1:=by
 refine⟨?_,?_,rfl⟩
 ·cases lo with
  |none=>simp[sliceBounds,HT.sIx]
  |some i=>
   simp only[sliceBounds,HT.sIx,Option.getD_none,show (1:Int)>0 by decide,Qg];by_cases h:i<0
   ·simp only[h,Qg] <;> omega
   ·simp only[h,Qf] <;> omega
 ·cases hi with
  |none=>simp[sliceBounds,HT.sIx]
  |some i=>
   simp only[sliceBounds,HT.sIx,Option.getD_none,show (1:Int)>0 by decide,Qg];by_cases h:i<0
   ·simp only[h,Qg] <;> omega
   ·simp only[h,Qf] <;> omega
theorem rq(its:List Value)(lo hi:Option Int):slicePick its.toArray lo hi none=((its.drop (HT.sIx its.length 0 lo)).take (HT.sIx its.length its.length hi-HT.sIx its.length 0 lo)).toArray:=by
 obtain⟨h1,h2,h3⟩:=ug lo hi its.toArray.size;unfold slicePick;rw[h1,h2,h3];simp only[sliceRange_one,pick_run,Pq] <;> rfl
def KI(K:W.Frag):V->Option Int->Option Int->Hp->VK->Prop:=fun x lo hi H Q=>∃a xs,x=.ref a/\gB K H a xs/\∀p,H p=none->Q (.ref p) (b9 H p (.lst (uR xs lo hi)))
theorem EV:D3 X (KI X.K):=by
 intro pins s B H x v vl vu lo hi sl Q I rx hs pl pu h;obtain⟨a,xs,rfl,hx,q⟩:=h;cases rx;obtain⟨its,r,ht,hz⟩:=I.list hx;have hlen:=r.length;refine⟨"list",_,slot_list_getitem.lookup,ht.isList.typeIs,?_⟩;refine wpAny_getItem_list_slice ht.isList hs pl pu .none (by simp) ?_ (by rw[Pq] <;> omega);rw[rq,<- hlen];refine⟨.ref s.heap.objs.size,_,I.laid (t':=s.toks) (o:=.lst (uR xs lo hi)) (fun b ob q=>O8 _ q) (Pf _) ?_,rfl,q _ (I.hok.fresh (Pf _))⟩;exact⟨OI (om xs lo hi) hz,_,0,(r.drop (HT.sIx xs.length 0 lo)).take (HT.sIx xs.length xs.length hi-HT.sIx xs.length 0 lo),Pe _ rfl⟩
def kf:V->Bool
 |.non=>true
 |.bl _=>true
 |.int _=>true
 |.str _=>true
 |_=>false
def yB:V->V->Bool
 |.non,.non=>true
 |.bl a,.bl b=>a == b
 |.bl a,.int b=>(if a then 1 else 0) == b
 |.int a,.bl b=>a == (if b then 1 else 0)
 |.int a,.int b=>a == b
 |.str a,.str b=>a == b
 |_,_=>false
theorem Kf{y x:V}{v:Value}(ry:bU y u)(rx:bU x v)(fy:kf y=true)(fx:kf x=true):SeqAt.EqAt A s u v (yB y x):=by
 cases y with
 |non=>
  cases ry;cases x with
  |non=>cases rx;exact SeqAt.EqAt.same _
  |bl b=>cases rx;exact SeqAt.EqAt.none_bool b
  |int b=>obtain⟨t,rfl⟩:=rx;exact SeqAt.EqAt.none_int b t
  |str b=>obtain⟨t,rfl⟩:=rx;exact SeqAt.EqAt.none_str b t
  |_=>exact absurd (show false=true from fx) Pm
 |bl a=>
  cases ry;cases x with
  |non=>cases rx;exact SeqAt.EqAt.bool_none a
  |bl b=>cases rx;exact SeqAt.EqAt.bool_bool a b
  |int b=>obtain⟨t,rfl⟩:=rx;exact SeqAt.EqAt.bool_int a b t
  |str b=>obtain⟨t,rfl⟩:=rx;exact SeqAt.EqAt.bool_str a b t
  |_=>exact absurd (show false=true from fx) Pm
 |int a=>
  obtain⟨t',rfl⟩:=ry;cases x with
  |non=>cases rx;exact SeqAt.EqAt.int_none a t'
  |bl b=>cases rx;exact SeqAt.EqAt.int_bool a t' b
  |int b=>obtain⟨t,rfl⟩:=rx;exact SeqAt.EqAt.int_int a t' b t
  |str b=>obtain⟨t,rfl⟩:=rx;exact SeqAt.EqAt.int_str a t' b t
  |_=>exact absurd (show false=true from fx) Pm
 |str a=>
  obtain⟨t',rfl⟩:=ry;cases x with
  |non=>cases rx;exact SeqAt.EqAt.str_none a t'
  |bl b=>cases rx;exact SeqAt.EqAt.str_bool a t' b
  |int b=>obtain⟨t,rfl⟩:=rx;exact SeqAt.EqAt.str_int a t' b t
  |str b=>obtain⟨t,rfl⟩:=rx;exact SeqAt.EqAt.str_str a t' b t
  |_=>exact absurd (show false=true from fx) Pm
 |_=>exact absurd (show false=true from fy) Pm
def Hg(x:V)(u:Value):Bool:=match u with
 |.none=>yB .non x
 |.bool b=>yB (.bl b) x
 |.int i _=>yB (.int i) x
 |.str z _=>yB (.str z) x
 |_=>false
theorem xF{x y:V}(r:bU y u)(f:kf y=true):Hg x u=yB y x:=by
 cases y with
 |non=>cases r;rfl
 |bl b=>cases r;rfl
 |int i=>obtain⟨t,rfl⟩:=r;rfl
 |str z=>obtain⟨t,rfl⟩:=r;rfl
 |_=>exact absurd (show false=true from f) Pm
theorem qp{A:Around}{s:Shared}{x:V}{v:Value}(rx:bU x v)(fx:kf x=true):∀{xs:List V}{us:List Value},br xs us->xs.all kf=true->∀u∈us,SeqAt.EqAt A s u v (Hg x u)
 |_,_,.nil,_=>fun u hu=>by cases hu
 |y::xs,u::us,.cons r t,f=>fun u' hu=>by
  rw[Qu,Qn]at f;rcases OO.mp hu with rfl|hu
  ·rw[xF r f.1];exact Kf r rx f.1 fx
  ·exact qp rx fx t f.2 u' hu
theorem cZ.or{f:Value}{r r':List V->Hp->VK->Prop}(h:cZ X f r)(h':cZ X f r'):cZ X f (fun xs H Q=>r xs H Q\/r' xs H Q):=by
 intro pins s B H xs us Q I rs q;rcases q with q|q
 ·exact h pins s B H xs us Q I rs q
 ·exact h' pins s B H xs us Q I rs q
theorem uD:cZ X (.type "list") (fun xs H Q=>∃p ys,xs=[.ref p]/\(gB X.K H p ys\/gL X.K H p ys)/\∀l,H l=none->Q (.ref l) (b9 H l (.lst ys))):=by
 intro pins s B H xs us Q I r h;obtain⟨p,ys,rfl,hq,q⟩:=h;obtain⟨u,rfl,rx⟩:=eP r;cases rx
 have fin:∀(its:List Value),br ys its->ys.length<=sizeLine->∀(h':Heap)(c':Nat),(∀b o',s.heap.get? b=some o'->h'.get? b=some o') ->
   h'.get? s.heap.objs.size=some {cls:=.type "list",dict:=none,data:=.seq its.toArray c',slots:=#[]}->EP X pins B Q (.ref s.heap.objs.size) {s with heap:=h'}:=fun its r' hz h' c' kp e=>
  ⟨.ref s.heap.objs.size,_,I.laid (t':=s.toks) kp (Pf _) (show dk X.prog X.w _ h' _ (.lst ys) from⟨hz,its,c',r',e⟩),rfl,q _ (I.hok.fresh (Pf _))⟩
 rcases hq with hq|hq
 ·obtain⟨its,r',pl,hz⟩:=I.list hq;have hlen:=r'.length;obtain⟨o,ho,hc,n,hd⟩:=pl.isList;exact call_list_seq p (.inl rfl) ho hc hd (fun h' c' kp e=>fin its r' hz h' c' kp e) (by simp only[Pq] <;> omega)
 ·obtain⟨its,r',pl,hz⟩:=I.tuple hq;have hlen:=r'.length;obtain⟨o,ho,hc,n,hd⟩:=pl;exact call_list_seq p (.inr rfl) ho hc hd (fun h' c' kp e=>fin its r' hz h' c' kp e) (by simp only[Pq] <;> omega)
theorem rK:cZ X (.type "tuple") (fun xs H Q=>∃p ys,xs=[.ref p]/\((gB X.K H p ys/\∀l,H l=none->Q (.ref l) (b9 H l (.tup ys)))\/(gL X.K H p ys/\Q (.ref p) H))):=by
 intro pins s B H xs us Q I r h;obtain⟨p,ys,rfl,h⟩:=h;obtain⟨u,rfl,rx⟩:=eP r;cases rx;rcases h with⟨hq,q⟩|⟨hq,q⟩
 ·obtain ⟨its, r', pl, hz⟩ := I.list hq;have hlen:=r'.length;refine call_tuple_list pl.isList (fun h' kp=>?_) (by simp only[Pq] <;> omega);have I1:aX X pins B H {s with heap:=h'}:=I.kept (t':=s.toks) kp
  have I2:aX X pins B (b9 H h'.objs.size (.tup ys)) {s with heap:=h'.push {cls:=.type "tuple",data:=.seq its.toArray}}:=
   I1.laid (t':=s.toks) (fun b o e=>O8 _ e) (Pf _) (show dk X.prog X.w _ _ _ (.tup ys) from⟨hz,its,r',IsTup.new _ _⟩)
  exact⟨.ref h'.objs.size,_,I2,rfl,q _ (I1.hok.fresh (Pf _))⟩
 ·obtain⟨its,r',pl,hz⟩:=I.tuple hq;exact call_tuple_same pl ⟨.ref p,H,I,rfl,q⟩
def Ms(K:W.Frag)(T:String)(x:V)(H:Hp):Prop:=match x with
 |.str _=>T = "str"
 |.int _=>T = "int"
 |.ref p=>(T = "list" /\ ∃xs,gB K H p xs)\/(T = "tuple" /\ ∃o,K.lookup p=some o/\o.cls=.type "tuple" /\ o.dict=none) \/
   (T = "dict" /\ ((∃kvs,H p=some (.dK kvs))\/∃kvs,H p=some (.dT kvs)))\/(T = "set" /\ ∃S n,H p=some (.set S n))
 |_=>False
theorem BL{x:V}{v:Value}(I:aX X pins B H s)(r:bU x v)(ty:Ms X.K T x H):
  s.TypeIs v T/\∀a,v=.ref a->∃ob,s.heap.get? a=some ob/\ob.dict=none:=by
 cases x with
 |str z=>
  obtain⟨t,rfl⟩:=r;cases (show T = "str" from ty);exact⟨Qq s z t,fun _ e=>nomatch e⟩
 |int i=>
  obtain⟨t,rfl⟩:=r;cases (show T = "int" from ty);exact⟨typeIs_int s i t,fun _ e=>nomatch e⟩
 |ref p=>
  cases r;rcases ty with⟨rfl,xs,hq⟩|⟨rfl,o,hk,hc,hd⟩|⟨rfl,hk⟩|⟨rfl,S,n,hk⟩
  ·obtain⟨its,_,pl,_⟩:=I.list hq;refine⟨pl.isList.typeIs,fun a e=>?_⟩;cases e;obtain⟨o,n,e,c,hd,_⟩:=pl;exact⟨o,e,hd⟩
  ·refine⟨⟨o,I.kIn p o hk,hc⟩,fun a e=>?_⟩;cases e;exact⟨o,I.kIn _ o hk,hd⟩
  ·have z:∃o,s.heap.get? p=some o/\o.ExactDict:=by
    rcases hk with⟨kvs,hk⟩|⟨kvs,hk⟩
    ·obtain⟨_,_,_,_,o,_,_,e,ex,_⟩:=I.hok p _ hk;exact⟨o,e,ex⟩
    ·obtain⟨_,_,_,_,o,_,_,e,ex,_⟩:=I.hok p _ hk;exact⟨o,e,ex⟩
   obtain⟨o,e,ex⟩:=z;refine⟨⟨o,e,ex.1⟩,fun a e2=>?_⟩;cases e2;exact⟨o,e,ex.2.1⟩
  ·obtain⟨o,_,_,_,e,ex,_⟩:=I.hok p _ hk;refine⟨⟨o,e,ex.1⟩,fun a e2=>?_⟩;cases e2;exact⟨o,e,ex.2.1⟩
 |_=>exact False.elim ty
def NA(K:W.Frag)(T:String)(r:V->List V->Hp->VK->Prop)(to:TE):TE:=fun B H Q=>to B H fun x H1=>Ms K T x H1/\r x [] H1 Q
def Oh(K:W.Frag)(T:String)(r:V->List V->Hp->VK->Prop)(to:TE)(t:TA):TE:=fun B H Q=>to B H fun x H1=>Ms K T x H1/\t B H1 fun xs H2=>r x xs H2 Q
variable{o:Expr}{es:List Expr}{to:TE}{t:TA}{name:Str}{id:String}{r:V->List V->Hp->VK->Prop}
theorem Ji (pa:PlainAttrs T) (slot:Slot T name id) (hty:typeOf (.builtin id)=pure (.type "method_descriptor")) (hm:Hl X id r) (ho:PE X o to)
  (hbase:attributeBase o name X.env (eval o X.env)=eval o X.env:=by rfl) (hline:(apos.endLine == cpos.line)=true:=by rfl):PE X (.Call (.Attribute o name apos) [] [] cpos) (NA X.K T r to):=by
 intro pins s B H Q I h;refine wpAny_Call_method0_late hbase hline (cY (ho pins s B H _ I h) fun v s1 ⟨x,H1,I1,r1,ty,q1⟩=>?_);obtain⟨h1,h2⟩:=BL I1 r1 ty;exact⟨T,id,pa,slot,hty,h1,h2,Qv rfl (PySem.evalArgs_none (hm pins s1 B H1 x [] v [] Q I1 r1 .nil q1))⟩
theorem GY (pa:PlainAttrs T) (slot:Slot T name id) (hty:typeOf (.builtin id)=pure (.type "method_descriptor")) (hm:Hl X id r) (ho:PE X o to) (ha:PA X (e::es) t)
  (hbase:attributeBase o name X.env (eval o X.env)=eval o X.env:=by rfl)
  (hfew : ((backTo cpos (starEach (e :: es) X.env)).all (fun x => !x.1) && (backToKw cpos (keywordEach [] X.env)).all (fun x => x.1.isSome)
   && decide ((e::es).length+([]:List Keyword).length+(if ([]:List Keyword).isEmpty then 0 else 1)<30))=true:=by rfl)
  (hline:(apos.endLine == cpos.line)=true:=by rfl) (hs:starEach (e::es) X.env=(false,eval e X.env)::starEach es X.env:=by rfl) (hplain:(backTo cpos (starEach es X.env)).any (·.1)=false:=by rfl) :
  PE X (.Call (.Attribute o name apos) (e::es) [] cpos) (Oh X.K T r to t):=by
 intro pins s B H Q I h;refine wpAny_Call_method_late hbase hfew hline rfl (cY (ho pins s B H _ I h) fun v s1 ⟨x,H1,I1,r1,ty,q1⟩=>?_);obtain⟨h1,h2⟩:=BL I1 r1 ty;refine⟨T,id,pa,slot,hty,h1,h2,?_⟩;have hA:=ha cpos pins s1 B H1 _ I1 q1;rw[hs]at hA⊢;refine Qv (by show (false || (backTo cpos (starEach es X.env)).any (·.1))=false;rw[hplain] <;> rfl) (Calls.evalArgs_plain ?_);exact cY hA fun us s2 ⟨vs,H2,I2,r2,q2⟩=>hm pins s2 B H2 x vs v us Q I2 r1 r2 q2
end
def MM(X:Cx)(id:String)(r:V->List V->Hp->VK->Prop):Prop:=
 ∀(pins:List (Addr×Obj))(s:Shared)(B:St)(H:Hp)(x:V)(xs:List V)(v:Value)(us:List Value)(Q:VK),aX X pins B H s->bU x v->br xs us->r x xs H Q ->
  wpAny (model X.prog X.w) X.A (call (.builtin id) (v::us)) (EP X pins B Q) X.xe s
theorem br.one:∀{x:V}{us:List Value},br [x] us->∃u,us=[u]/\bU x u
 |_,_,.cons r .nil=>⟨_,rfl,r⟩
theorem br.rep{xs:List V}{us:List Value}(h:br xs us):∀k:Nat,br (List.replicate k xs).flatten (List.replicate k us).flatten
 |0=>.nil
 |k+1=>by
  rw[Qw,Qw,Qx,Qx];exact br.append h (br.rep h k)
theorem sE(its:List Value):∀(k:Nat)(acc:List Value),
  List.foldl (fun x1 x2=>x1++x2) acc.toArray (List.replicate k its.toArray)=(acc++(List.replicate k its).flatten).toArray
 |0,acc=>by simp
 |k+1,acc=>by
  have e:acc.toArray++its.toArray=(acc++its).toArray:=by simp
  have e2:(acc++its)++(List.replicate k its).flatten=acc++(List.replicate (k+1) its).flatten:=by
   rw[Qw,Qx,Qy]
  rw[<- e2,<- sE its k (acc++its),<- e,Qw,QA]
section
variable{X:Cx}{xs ys zs:List V}
theorem aX.lset{its':List Value}{f:Array Value->Array Value}(I:aX X pins B H s)(hH:H l=some (.lst xs))(e:s.heap.get? l=some {cls:=.type "list",data:=.seq its.toArray n})(hf:f its.toArray=its'.toArray)(hv:br ys its')(hz:ys.length<=sizeLine):
  aX X pins B (b9 H l (.lst ys)) {s with heap:=s.heap.update l (Obj.mapSeq f),toks:=t'}:=by
 have q:=PySem.IsL.update e f;rw[hf]at q;refine I.write (x:=l) (e:=l) (by rw[hH];exact trivial) (.inl rfl) (fun b' u hb hu=>(Qs s.heap (Obj.mapSeq f) (OP hb)).trans hu) ⟨_,q⟩ ?_;exact⟨hz,its',_,hv,q⟩
theorem aX.lnew(I:aX X pins B H s)(hv:br ys its)(hz:ys.length<=sizeLine):
  aX X pins B (b9 H s.heap.objs.size (.lst ys)) {s with heap:=s.heap.push {cls:=.type "list",data:=.seq its.toArray},toks:=t'}:=
 I.laid (fun _ _ q=>O8 _ q) (Pf _) ⟨hz,its,0,hv,Pe _ rfl⟩
theorem aX.fresh(I:aX X pins B H s):H s.heap.objs.size=none:=I.hok.fresh (Pf _)
theorem aX.lstM (I:aX X pins B H s) (hH:H l=some (.lst xs)):xs.length<=sizeLine/\∃(its:List Value) (n:Nat),br xs its/\xs.length=its.length/\s.heap.get? l=some {cls:=.type "list",data:=.seq its.toArray n}:=by
 obtain⟨z,its,n,r,e⟩:=I.hok l _ hH;exact⟨z,its,n,r,r.length,e⟩
theorem vK(h:n<=sizeLine):Builtin.List.listTooLong n=false:=by
 unfold Builtin.List.listTooLong;exact Ow (by omega)
end
section
variable{X:Cx}
def zd:V->List V->Hp->VK->Prop:=fun x vs H Q=>∃l xs y,x=.ref l/\vs=[y]/\H l=some (.lst xs)/\xs.length<sizeLine/\Q .non (b9 H l (.lst (xs++[y])))
theorem sr:MM X "list.append" zd:=by
 intro pins s B H x vs v us Q I rx rv h;obtain⟨l,xs,y,rfl,rfl,hH,hz,q⟩:=h;cases rx;obtain⟨u,rfl,ru⟩:=rv.one;obtain⟨z,its,n,r,hl,e⟩:=I.lstM hH;refine QB F.slot_list_append ⟨_,e,rfl⟩ F.entry_list_append (F.args_list_append_2 _ _) (PySem.list_append l its.toArray n u (by rw[Pq];omega)) ⟨e,?_⟩;refine⟨.non,_,I.lset (its':=its++[u]) hH e (by simp) (r.append (.cons ru .nil)) ?_,rfl,q⟩;rw[PY,QC];omega
def zc:V->List V->Hp->VK->Prop:=fun x vs H Q=>∃l b xs zs,x=.ref l/\vs=[.ref b]/\H l=some (.lst xs)/\H b=some (.lst zs)/\xs.length+zs.length<=sizeLine/\Q .non (b9 H l (.lst (xs++zs)))
theorem Ay:MM X "list.extend" zc:=by
 intro pins s B H x vs v us Q I rx rv h;obtain⟨l,b,xs,zs,rfl,rfl,hH,hB,hz,q⟩:=h;cases rx;obtain⟨u,rfl,ru⟩:=rv.one;cases ru;obtain⟨z,its,n,r,hl,e⟩:=I.lstM hH;obtain⟨z2,its2,n2,r2,hl2,e2⟩:=I.lstM hB;have hsz:its.toArray.size+its2.toArray.size<=sizeLine:=by rw[Pq,Pq];omega
 have hlong:¬ (!its.toArray.isEmpty&&Builtin.List.listTooLong (its.toArray.size+its2.toArray.size))=true:=by
  rw[vK hsz,Bool.and_false];exact Pm
 refine QB F.slot_list_extend ⟨_,e,rfl⟩ F.entry_list_extend (F.args_list_extend_2 _ _)
  (AutoSeq1.list_extend_list_list_0 l its.toArray n b its2.toArray n2 hlong (by rw[Pq];omega) (by omega)) ⟨e,e2,?_⟩
 refine⟨.non,_,I.lset (its':=its++its2) hH e (by simp) (r.append r2) ?_,rfl,q⟩;rw[PY];omega
def KR:R2:=fun x y H Q=>∃l b xs zs,x=.ref l/\y=.ref b/\H l=some (.lst xs)/\H b=some (.lst zs)/\xs.length+zs.length<=sizeLine/\∀p,H p=none->Q (.ref p) (b9 H p (.lst (xs++zs)))
theorem Jw:iy X (binaryOp .Add) KR:=by
 intro pins s B H x y v u Q I rx ry h;obtain⟨l,b,xs,zs,rfl,rfl,hH,hB,hz,q⟩:=h;cases rx;cases ry;obtain⟨z,its,n,r,hl,e⟩:=I.lstM hH;obtain⟨z2,its2,n2,r2,hl2,e2⟩:=I.lstM hB;refine PySem.P.add_list e e2 ?_ (by rw[Pq,Pq];omega);have ea:its.toArray++its2.toArray=(its++its2).toArray:=by simp
 rw[ea];exact⟨.ref _,_,I.lnew (t':=s.toks) (r.append r2) (by rw[PY];omega),rfl,q _ I.fresh⟩
def KL:R2:=fun x y H Q=>∃l k xs,x=.ref l/\y=.int k/\H l=some (.lst xs)/\-(2^63)<=k/\k<2^63/\xs.length*k.toNat<=sizeLine /\
 ∀p,H p=none->Q (.ref p) (b9 H p (.lst (List.replicate k.toNat xs).flatten))
theorem F1{J:Type}(xs:List J)(k:Nat):(List.replicate k xs).flatten.length=k*xs.length:=by
 induction k with
 |zero=>simp
 |succ k ih=>rw[Qw,Qx,PY,ih,QD,Nat.add_comm]
theorem Jm:iy X (binaryOp .Mult) KL:=by
 intro pins s B H x y v u Q I rx ry h;obtain⟨l,k,xs,rfl,rfl,hH,h1,h2,hz,q⟩:=h;cases rx;obtain⟨t,rfl⟩:=ry;obtain⟨z,its,n,r,hl,e⟩:=I.lstM hH;have hlen:its.toArray.size*k.toNat<=sizeLine:=by rw[Pq,<- hl];exact hz
 have hcap:¬ its.toArray.size*k.toNat>(2^63-1) / 8:=by
  have:(sizeLine:Nat)<=(2^63-1) / 8:=by decide
  omega
 have hfit:¬ (!Builtin.List.listFitsIndex k)=true:=by
  rw[fitsIndex_both h1 h2];exact Pm
 have hlong:¬ Builtin.List.listTooLong (its.toArray.size*k.toNat)=true:=by
  rw[vK hlen];exact Pm
 have hnew:List.foldl (fun x1 x2=>x1++x2) #[] (List.replicate (if its.toArray.isEmpty=true then 0 else k.toNat) its.toArray)=(List.replicate k.toNat its).flatten.toArray:=by
  have f0:∀m:Nat,List.foldl (fun x1 x2=>x1++x2) #[] (List.replicate m its.toArray)=(List.replicate m its).flatten.toArray:=fun m=>by
   have:=sE its m [];rw[QE]at this;exact this
  rw[f0];cases its with
  |nil=>simp
  |cons a r'=>rw[OB (by simp)]
 refine wpAny_binaryOp_repeat_ref (T:="list") (U:="int") (by decide) ⟨_,e,rfl⟩ (fun s'=>typeIs_int s' k t) noFill_list_mul F.fills_int_mul F.slot_int_rmul repeat_list F.slot_int_index.lookup
  (QB F.slot_int_rmul (typeIs_int s k t) F.entry_int_rmul (F.args_int_rmul_2 _ _) (int___rmul___int_list k t l its.toArray n)
   ⟨e,rfl,⟨_,e,rfl⟩,QB F.slot_list_mul ⟨_,e,rfl⟩ F.entry_list_mul (F.args_list_mul_2 _ _) (AutoListH.list___mul___list_int_3 l its.toArray n k t hfit hcap hlong) ⟨e,?_⟩⟩)
 rw[hnew];exact⟨.ref _,_,I.lnew (t':=s.toks) (r.rep k.toNat) (by rw[F1,Nat.mul_comm];exact hz),rfl,q _ I.fresh⟩
end
end L2
namespace Att
open PySem PySem.W PySem.Calls PyProof.Rows
theorem oW{P:Params}{h:Heap}:∀(ns:List Int)(vs:List Value),WellAll P h vs (ns.map WData.int)->IntsAre vs ns:=by
 intro ns
 induction ns with
 |nil=>
  intro vs w;rw[Qo]at w;cases w;exact .nil
 |cons n ns ih=>
  intro vs w;rw[Qp]at w;cases w with
  |cons a b=>
   cases a;exact .cons _ _ (ih _ b)
theorem Ae{l:OpenLaw}(hn:l.most=some n){P:Params}{h:Heap}{args:List WData}{vals:List Value}(hpre:l.row.toRowW.claim.pre args=true)(hwl:WellAll P h vals args):
  ∃a vs ns,vals=[Value.ref a]/\args=[WData.list (ns.map WData.int)]/\h.get? a=some {cls:=.type "list",data:=.seq vs.toArray}/\IntsAre vs ns/\ns.length<=n:=by
 have hsh:WShape.hasAll [] args [.list .int]=true:=(pre_splitW hpre).1;have hc:l.pre.holds [] {args:=args}=true:=(pre_splitW hpre).2;obtain⟨d,r,rfl,h1,h2⟩:=hasAllW_cons hsh;obtain rfl:=hasAllW_nil h2;obtain⟨xs,rfl,h3⟩:=hasW_list h1;obtain⟨ns,rfl⟩:=items_int h3
 have hlen:ns.length<=n:=by
  unfold OpenLaw.pre at hc
  have h4:(WTm.not (.lt (.lit (.int (n:Int))) (.len (.arg 0)))).holds [] {args:=[.list (ns.map .int)]}=true:=by
   have h4:=(holds_andW hc).1;rw[hn]at h4;exact h4
  have h5:=condW_of h4 (w_not (w_lt w_lit (w_len_list (w_arg rfl))));rw[PZ]at h5;refine Nat.le_of_not_lt fun q=>?_;have q':(n:Int)<((ns.length:Nat):Int):=by omega
  first
   |(rw[QF q']at h5;exact absurd h5 (by decide))
   |(simp at h5;omega)
 cases hwl with
 |cons w1 w2=>
  cases w2;cases w1 with
  |list ho hall=>exact⟨_,_,ns,rfl,rfl,ho,oW ns _ hall,hlen⟩
theorem Aj(l:OpenLaw)(args:List WData):l.row.toRowW.claim.post args (.bool true) args=true:=
 postW_of (r:=l.row.toRowW) (X:=(true == true))
  (show WShape.has [] (.bool true) .bool=true by first|rfl|decide|simp[WShape.has,WShape.arms,WShape.armsAll])
  (show (WTm.eq .res (.lit (.bool true))).value [] {args:=args,res:=some (.bool true),after:=args}=some (.bool (true == true)) from w_eq_bool (w_res rfl) w_lit) rfl
theorem attach_call{l:OpenLaw}{d:DefRec}(hn:l.most=some n)(hdf:d.params.defaults=[])(call : ∀ (w : World) (s₀ s₁ : Shared) (mg mb : Str -> Option Value) (fa : Addr) (o : Obj) (pm cd doc : Value) (a : Addr) (vs : List Value) (ns : List Int),
   Ground q loose [] XP w s₀ mg mb s₁.heap->YP w s₁.heap ->
   s₁.heap.get? fa=some o->o.data=.func (docDef d.name d.params d.body d.scope pm cd doc)->s₁.heap.CodeRec cd d.name->mg d.name=some (.ref fa) ->
   s₁.heap.get? a=some {cls:=.type "list",data:=.seq vs.toArray}->IntsAre vs ns->ns.length<=n->s₁.gens=#[] ->
   codeAny (model l.prog w) callerA (.call (.ref fa) ⟨[.ref a],[]⟩) (fun r s'=>r=.ok (.ret (.bool true))/\OldK s₁.heap s'.heap/\s'.os=s₁.os/\AllBare s'.gens) s₁):
  WalkO q loose XP YP l.row.toRowW d [] (fun f vs=>PySem.call f vs):=by
 intro w s₀ s₁ mg mb G μ fa o pm cd doc dV kV ho hd hcd hD hmg hg args vals as hpre hlay hrd hwl hlo;obtain rfl:dV=.none:=Dflts.none hD hdf;obtain rfl:kV=.none:=Dflts.noKw hD;obtain⟨a,vs,ns,rfl,rfl,hobj,hints,hlen⟩:=Ae hn hpre hwl;refine enter_call (Px (call w s₀ s₁ mg mb fa o pm cd doc a vs ns G μ ho (fd_plain hd) hcd hmg hobj hints hlen hg) fun r s' hq=>?_);obtain⟨rfl,h2,h3,h4⟩:=hq;exact⟨.inl ⟨.bool true,.bool true,[],rfl,fun _=>rfl,.bool true,Aj l _,fun _=>⟨List.Pairwise.nil,fun _ hm=>(nomatch hm)⟩⟩,h2,h3,h4⟩
end Att
namespace L2
open PySem PySem.Spec PyProof.Rows
theorem sd:∀{vs:List Value}{ns:List Int},IntsAre vs ns->br (ns.map V.int) vs
 |_,_,.nil=>.nil
 |_,_,.cons n t h=>.cons ⟨t,rfl⟩ (sd h)
def Ek(H:Hp):Prop:=∀b,H b=none\/∃o xs,H b=some (.frz o (.lst xs))
theorem Dt{mb:Str->Option Value}{fa:Addr}{s₁:Shared}{vs:List Value}(KX:K.In s₁.heap)(hns:s₁.heap.Ns mainGlobals mg)(hb:s₁.heap.Ns builtinsNs mb)(hbb:∀x:Str,x ≠ "__name__" -> mb x=bootBuiltins x)(hlim:s₁.heap.NoLimit)(hg:s₁.gens=#[])(ha:s₁.heap.get? a=some {cls:=.type "list",data:=.seq vs.toArray})(hi:IntsAre vs ns)(hl:ns.length<=sizeLine)(hr:dG k callerA)(F:∀base:Heap,K.In base->base.Ns mainGlobals mg->ll P w K mg base CX k fa fd [x] sp)(hbind:∀(s:Shared)(u:Value),BindsTo s fd ⟨[u],[]⟩ [(x,u)])(hsp:∀H:Hp,Ek H->gB K H a (ns.map V.int)->sp [.ref a] H (fun v _=>v=.bl true) fun _ _ _=>False)(hCX:∀H e s',CX [] H s₁ (fun _ _ _=>False) e s'->False):
  codeAny (model P w) callerA (.call (.ref fa) ⟨[.ref a],[]⟩) (fun r s'=>r=.ok (.ret (.bool true))/\OldK s₁.heap s'.heap/\s'.os=s₁.os/\AllBare s'.gens) s₁:=by
 have rv:=sd hi;have lenV:=hi.length
 have core:∀H:Hp,Ek H->gB K H a (ns.map V.int)->nr P w H s₁.heap->(∀b,H b≠none->b=a)->(H a≠none->K.lookup a=none) ->
   codeAny (model P w) callerA (.call (.ref fa) ⟨[.ref a],[]⟩) (fun r s'=>r=.ok (.ret (.bool true))/\OldK s₁.heap s'.heap/\s'.os=s₁.os/\AllBare s'.gens) s₁:=by
  intro H hO hS hok hA hK;have base_of:∀{b:Addr}{o:Obj},s₁.heap.get? b=some o->H b=none->(sX s₁.heap H).get? b=some o:=fun e n=>DE e n
  have noA:∀{b:Addr}{o:Obj}{es:Array DictEntry}{ep:Nat},s₁.heap.get? b=some o->o.data=.dict es ep->H b=none:=fun {b o es ep} e d=>by
   cases q:H b with
   |none=>rfl
   |some u=>
    have e':b=a:=hA b (by rw[q];simp);subst e';rw[ha]at e;cases e;have d':Data.seq vs.toArray _=Data.dict es ep:=d;cases d'
  have nsK:∀{b:Addr}{m:Str->Option Value},s₁.heap.Ns b m->(sX s₁.heap H).Ns b m:=fun {b m} ⟨o,es,ep,e,d,r⟩=>⟨o,es,ep,base_of e (noA e d),d,r⟩
  have hKb:K.In (sX s₁.heap H):=fun b o e=>base_of (KX b o e) (by
   cases q:H b with
   |none=>rfl
   |some u=>
    have e':b=a:=hA b (by rw[q];simp);subst e'
    rw[hK (by rw[q];simp)]at e;cases e)
  have hM:Mod K mg (sX s₁.heap H):=⟨hKb,nsK hns,⟨mb,nsK hb,hbb⟩,let ⟨mc,h1,h2⟩:=hlim;⟨mc,nsK h1,h2⟩⟩;have e0:tj P w K mg (sX s₁.heap H) callerA [] s₁ H:=⟨rfl,hM,fun b o e=>FP e,Nat.le_of_eq (AJ _ _),trivial,fun b hb=>absurd (show b∈([]:List Addr) from hb) (by simp),hok,.of_eq hg⟩;refine Px ((F _ hKb (nsK hns)).run callerA [] s₁ H ⟨[.ref a],[]⟩ [.ref a] [.ref a] _ _ hr e0 (hbind s₁ (.ref a)) (.cons rfl .nil) (hsp H hO hS)) fun r s' h=>?_;cases r with
  |error e=>exact(hCX H e s' h).elim
  |ok fl=>
   cases fl with
   |next=>exact False.elim h
   |brk=>exact False.elim h
   |cont=>exact False.elim h
   |ret u=>
    obtain⟨v,H',os,bare,un,hok',r',q⟩:=h;have q':v=.bl true:=q;subst q';obtain rfl:u=Value.bool true:=r';refine⟨rfl,OldK.of_keep fun b o e=>?_,os,bare⟩;cases q:H b with
    |none=>exact un.keep b o e q (by intro z;exact absurd (show b∈([]:List Addr) from z) (by simp)) (by simp)
    |some u=>
     rcases hO b with z|⟨ob,xs,z⟩
     ·rw[q]at z;cases z
     ·have z2:=un.frzs b ob _ z;obtain⟨e1,_⟩:=hok b _ z;obtain⟨e2,_⟩:=hok' b _ z2;rw[e]at e1;cases e1;exact e2
 cases hk:K.lookup a with
 |some o=>
  have e:=KX a o hk;rw[ha]at e;cases e;refine core (fun _=>none) (fun _=>.inl rfl) (.inr ⟨_,vs.toArray,_,hk,rfl,rfl,rfl,by rw[Pq,lenV];exact hl,by simpa using rv⟩) (fun b u z=>by have z':(none:Option HO)=some u:=z;cases z') (fun b z=>absurd rfl z) fun z=>absurd rfl z
 |none=>
  refine core (fun b=>if b=a then some (.frz {cls:=.type "list",data:=.seq vs.toArray} (.lst (ns.map V.int))) else none) (fun b=>?_) (.inl (.inr ⟨{cls:=.type "list",data:=.seq vs.toArray},OA rfl⟩)) (fun b u z=>?_) (fun b z=>?_) fun _=>hk
  ·by_cases hb : b = a
   ·exact .inr ⟨_,_,OA hb⟩
   ·exact .inl (OB hb)
  ·by_cases hb : b = a
   ·have z':=(OA hb).symm.trans z;cases z';subst hb;exact⟨ha,by rw[PZ];exact hl,vs,_,rv,ha⟩
   ·have z':=(OB hb).symm.trans z;cases z'
  ·by_cases hb : b = a
   ·exact hb
   ·exact absurd (OB hb) z
theorem walk_of{l:W.OpenLaw}{d:DefRec}{K:Params->W.Frag}{CX:World->uJ}{sp:World->Sp}(hn:l.most=some n)(hn2:n<=sizeLine)(hdf:d.params.defaults=[])(hr:dG k callerA)(hY:∀(w:World)(h:Heap),YP w h->(K w.params).In h)(F : ∀ (w : World) (mg : Str -> Option Value) (fa : Addr) (h : Heap), (K w.params).In h -> h.Ns mainGlobals mg -> mg d.name = some (.ref fa) ->
   ∃fd:FuncData,(∀(s:Shared)(u:Value),BindsTo s fd ⟨[u],[]⟩ [(x,u)]) /\
    ∀base:Heap,(K w.params).In base->base.Ns mainGlobals mg->ll l.prog w (K w.params) mg base (CX w) k fa fd [x] (sp w))(hsp:∀(w:World)(H:Hp)(a:Addr)(ns:List Int),ns.length<=n->Ek H->gB (K w.params) H a (ns.map V.int)->sp w [.ref a] H (fun v _=>v=.bl true) fun _ _ _=>False)(hCX:∀(w:World)(H:Hp)(s:Shared)(e:Value)(s':Shared),CX w [] H s (fun _ _ _=>False) e s'->False):
  W.WalkO q loose XP YP l.row.toRowW d [] (fun f vs=>PySem.call f vs):=by
 refine Att.attach_call hn hdf fun w s₀ s₁ mg mb fa o pm cd doc a vs ns G μ ho hd hcd hmg hobj hints hlen hg=>?_;have KX:=hY w _ μ;obtain⟨fd,hb,hF⟩:=F w mg fa _ KX G.T.g hmg;exact Dt KX G.T.g G.T.b G.T.builtins G.T.nolimit hg hobj hints (OI hlen hn2) hr hF hb (fun H hO hS=>hsp w H a ns hlen hO hS) fun H e s'=>hCX w H s₁ e s'
abbrev xk:uJ:=fun _ _ _ _ _ _=>False
abbrev E0:XK:=fun _ _ _=>False
theorem yG{X:Cx}:jG xk X E0:=fun _ _ _ _ _ _ _ h=>h.elim
structure gF(K:W.Frag)(x qual:Str)(st:Stmt)(f:Addr)(fd:FuncData):Prop where
 ex:∃(oc:Value)(od:Option Addr)(kV doc pm:Value)(an:Option Addr)(cdv ct:Value)(osl:Array (Option Value)),
  fd=W.fnOf x qual (du st) (bT st) (au st) .none kV doc pm an cdv ct/\K.lookup f=some ⟨oc,od,.func fd,osl⟩/\W.codeIn K cdv qual=true
 kp:W.keepIn K (.ref f)=true
section
theorem gF.ok{ps:List Str}(F:gF K x qual st f fd)(S:aW N ps (au st))(len:∀vs H Q E,sp vs H Q E->vs.length=ps.length)(hbody : ∀ (cdv : Value) (A : Around) (outer : List Env) (s : Shared) (H : Hp) (vs : List V) (Q : VK) (E : XK), dG k (A.deeper (envOfC qual (au st) s.heap.objs.size f cdv)) -> sp vs H Q E ->
   ∃t,jy (pO xk P w K mg base N qual (au st) f cdv A outer s H E).nox (bT st) t/\t {nx:=fun _ H'=>Q .non H',rt:=Q} (start N vs) H):ll P w K mg base xk (k+1) f fd ps sp:=by
 obtain⟨oc,od,kV,doc,pm,an,cdv,ct,osl,rfl,lk,hcd⟩:=F.ex;refine BA lk hcd S len fun A outer s H vs Q E hr hsp=>?_;obtain⟨t,h,q⟩:=hbody cdv A outer s H vs Q E hr hsp;exact⟨t,h.nox,q⟩
theorem gF.binds{ps:List Str}(F:gF K x qual st f fd)(h:∀(kV doc pm:Value)(an:Option Addr)(cdv ct:Value)(us:List Value),us.length=ps.length->bindArgs (W.fnOf x qual (du st) (bT st) (au st) .none kV doc pm an cdv ct) ⟨us,[]⟩=pure (ps.zip us)):eS K fd ps []:=by
 obtain⟨oc,od,kV,doc,pm,an,cdv,ct,osl,rfl,lk,hcd⟩:=F.ex;exact .all (h kV doc pm an cdv ct)
theorem Cn{oc:Value}{od:Option Addr}{kV doc pm ct:Value}(l:K.lookup f=some ⟨oc,od,.func (W.fnOf x qual (du st) (bT st) (au st) .none kV doc pm an cdv ct),osl⟩)(c:W.codeIn K cdv qual=true)(k:W.keepIn K (.ref f)=true):gF K x qual st f (W.fnOf x qual (du st) (bT st) (au st) .none kV doc pm an cdv ct):=⟨⟨oc,od,kV,doc,pm,an,cdv,ct,osl,rfl,l,c⟩,k⟩
end
theorem NM{A σ:Prop}(h:σ):if false=true then A else σ:=by
 rw[OB Pm];exact h
theorem NL{A σ:Prop}(h:A):if true=true then A else σ:=by
 rw[OA rfl];exact h
theorem fF{x:Str}:∀{names:List (Str×NameKind)}{k:NameKind},names.lookup x=some k->(x,k)∈names
 |[],_,h=>by simp at h
 |(n,j)::r,k,h=>by
  rw[QG]at h;cases hx:x == n with
  |true=>
   rw[hx]at h;have e:x=n:=eq_of_beq hx;cases h;rw[e];exact OL
  |false=>rw[hx]at h;exact OM _ (fF h)
theorem iJ{env:Env}{x:Str}:∀{names:List (Str×NameKind)},
  (names.map fun (n, k) => if (k == NameKind.free && env.scope.kind == .function && env.kindOf n == some .cell) then (n, NameKind.cell) else (n, k)).lookup x =
   (names.lookup x).map fun k=>if (k == NameKind.free&&env.scope.kind == .function&&env.kindOf x == some .cell) then NameKind.cell else k
 |[]=>rfl
 |(n,k)::r=>by
  have ih:=iJ (env:=env) (x:=x) (names:=r);rw[Qp];show List.lookup x ((if (k == NameKind.free&&env.scope.kind == .function&&env.kindOf n == some .cell)=true then (n,NameKind.cell) else (n,k))::_)=_;cases hx:x == n with
  |true=>
   have e:x=n:=eq_of_beq hx;subst e;by_cases hc:(k == NameKind.free&&env.scope.kind == .function&&env.kindOf x == some .cell)=true
   ·rw[OA hc,QG,hx,QG,hx];show some NameKind.cell=some (if _ then _ else _);rw[OA hc]
   ·rw[OB hc,QG,hx,QG,hx];show some k=some (if _ then _ else _);rw[OB hc]
  |false=>
   by_cases hc:(k == NameKind.free&&env.scope.kind == .function&&env.kindOf n == some .cell)=true
   ·rw[OA hc,QG,hx,QG,hx];exact ih
   ·rw[OB hc,QG,hx,QG,hx];exact ih
theorem l9{env:Env}{f:Str×NameKind->List (Str×Addr)->Sem (ForInStep (List (Str×Addr)))}
  (h1:∀n c acc,env.cells.lookup n=some c->f (n,.free) acc=pure (.yield ((n,c)::acc))) (h2:∀n k acc,k≠.free->f (n,k) acc=pure (.yield acc)) :
  ∀(names:List (Str×NameKind))(acc:List (Str×Addr)),(∀y∈names,y.2=.free->∃c,env.cells.lookup y.1=some c)->(∀x c,acc.lookup x=some c->env.cells.lookup x=some c) ->
   ∃cl,forIn names acc f=(pure cl:Sem (List (Str×Addr)))/\(∀x c,cl.lookup x=some c->env.cells.lookup x=some c)/\(∀x,(acc.lookup x).isSome=true->(cl.lookup x).isSome=true)/\(∀y∈names,y.2=.free->(cl.lookup y.1).isSome=true)
 |[],acc,_,ha=>⟨acc,rfl,ha,fun _ h=>h,fun y hy=>by simp at hy⟩
 |(n,k)::r,acc,hn,ha=>by
  by_cases hk:k=.free
  ·subst hk;obtain⟨c,hc⟩:=hn (n,.free) OL rfl
   obtain⟨cl,e1,e2,e3,e4⟩:=l9 h1 h2 r ((n,c)::acc) (fun y hy=>hn y (OM _ hy)) (fun x d h=>by
    rw[QG]at h;cases hx:x == n with
    |true=>rw[hx]at h;cases h;rw[eq_of_beq hx];exact hc
    |false=>rw[hx]at h;exact ha x d h)
   refine⟨cl,?_,e2,fun x h=>e3 x ?_,fun y hy hf=>?_⟩
   ·rw[List.forIn_cons,h1 n c acc hc];exact e1
   ·rw[QG];cases hx:x == n <;> simp[h]
   ·rcases OO.mp hy with z | z
    ·subst z;exact e3 n (by simp[QG])
    ·exact e4 y z hf
  ·obtain ⟨cl, e1, e2, e3, e4⟩ := l9 h1 h2 r acc (fun y hy => hn y (OM _ hy)) ha;refine⟨cl,?_,e2,e3,fun y hy hf=>?_⟩
   ·rw[List.forIn_cons,h2 n k acc hk];exact e1
   ·rcases OO.mp hy with z | z
    ·subst z;exact absurd hf hk
    ·exact e4 y z hf
theorem wY{n:Str}{c:Addr}(h:env.cells.lookup n=some c):cellOf env n=pure c:=by
 unfold cellOf;rw[h]
def yM(env:Env)(x:Str×NameKind)(r:List (Str×Addr)):Sem (ForInStep (List (Str×Addr))):=
 match x with|(name,kind)=>if kind == .free then do let c <- cellOf env name;pure (.yield ((name,c)::r)) else pure (.yield r)
theorem yp(hn:∀y∈scope.names,y.2=.free->∃c,env.cells.lookup y.1=some c):
  ∃cl,closureFor scope env=pure cl/\(∀x c,cl.lookup x=some c->env.cells.lookup x=some c)/\(∀y∈scope.names,y.2=.free->(cl.lookup y.1).isSome=true):=by
 obtain⟨cl,e1,e2,_,e4⟩:=l9 (env:=env) (f:=yM env)
  (fun n c acc h=>by unfold yM;simp only[QH,Qg];rw[wY h];rfl)
  (fun n k acc h => by
   unfold yM;have:(k == NameKind.free)=false:=by simpa using h
   simp only[this,QI,Qf]) scope.names [] hn (fun x c h=>by simp at h)
 refine⟨cl,?_,e2,e4⟩;show (forIn scope.names [] (yM env) >>= fun s=>pure s)=pure cl;rw[e1];rfl
def j5(X:Cx)(Nc:List Str)(scope:Scope)(cl:List (Str×Addr))(C:Addr)(s:Shared)(H:Hp)(fp:List Addr):Cx where
 prog:=X.prog
 w:=X.w
 K:=X.K
 mg:=X.mg
 base:=X.base
 A:=X.A
 N:=Nc
 s₀:=s
 H₀:=H
 env:=compEnvC scope (cellsFrom (C+1) scope.names cl) C X.env
 outer:=X.stack
 stack:=X.stack
 ex:=fp
 fn:=fun x=>scope.names.lookup x == some .cell
 calm:=X.calm
 pn:=[]
 xe:=fun _ _=>False
def pZ(cap:List (Option Nat))(B:St):St:=cap.map fun o=>o.bind fun j=>(B[j]?).join
def gJ(N:List Str)(env:Env)(scope:Scope):List Str->List (Option Nat)->Bool
 |[],[]=>true
 |_::Nc,none::cap=>gJ N env scope Nc cap
 |x::Nc,some j::cap=>(N[j]? == some x)&&(scope.names.lookup x == some .free)&&gJ N env scope Nc cap
 |_,_=>false
theorem nO{N:List Str}{env:Env}{scope:Scope}:∀{Nc:List Str}{cap:List (Option Nat)},gJ N env scope Nc cap=true->cap.length=Nc.length
 |[],[],_=>rfl
 |[],_::_,h=>by simp[gJ]at h
 |_::_,[],h=>by simp[gJ]at h
 |_::Nc,none::cap,h=>by rw[QJ,QJ,nO (Nc:=Nc) (cap:=cap) h]
 |x::Nc,some j::cap,h=>by
  have h':gJ N env scope Nc cap=true:=by unfold gJ at h;simp only[Qn]at h;exact h.2
  rw[QJ,QJ,nO h']
theorem qt{N:List Str}{env:Env}{scope:Scope}:∀{Nc:List Str}{cap:List (Option Nat)}{i j:Nat}{x:Str},gJ N env scope Nc cap=true->cap[i]?=some (some j)->Nc[i]?=some x->N[j]?=some x/\scope.names.lookup x=some .free
 |[],_,_,_,_,_,_,e=>by simp at e
 |_::_,[],_,_,_,h,_,_=>by simp[gJ]at h
 |y::Nc,none::cap,0,j,x,h,e,_=>by simp at e
 |y::Nc,some k::cap,0,j,x,h,e,e2=>by
  simp at e e2;subst e;subst e2;unfold gJ at h;simp only[Qn]at h;exact⟨eq_of_beq h.1.1,eq_of_beq h.1.2⟩
 |y::Nc,none::cap,i+1,j,x,h,e,e2=>qt (Nc:=Nc) (cap:=cap) (i:=i) h (by simpa using e) (by simpa using e2)
 |y::Nc,some k::cap,i+1,j,x,h,e,e2=>by
  have h':gJ N env scope Nc cap=true:=by unfold gJ at h;simp only[Qn]at h;exact h.2
  exact qt (Nc:=Nc) (cap:=cap) (i:=i) h' (by simpa using e) (by simpa using e2)
structure cE(N:List Str)(env:Env)(scope:Scope)(Nc:List Str)(cap:List (Option Nat)):Prop where
 kind:scope.kind=.function
 nd:∀y∈scope.names,scope.names.lookup y.1=some y.2
 free:∀y∈scope.names,y.2=.free->env.kindOf y.1=some .cell\/env.kindOf y.1=some .free
 cap:gJ N env scope Nc cap=true
theorem lj{n0:Nat}{x:Str}{c:Addr}:∀{names:List (Str×NameKind)}{cl:List (Str×Addr)}{n:Nat},n0<=n->((x,NameKind.cell)∈names\/∃c',cl.lookup x=some c'/\n0<=c')->(cellsFrom n names cl).lookup x=some c->n0<=c
 |[],cl,n,_,h,e=>by
  rcases h with z|⟨c',z1,z2⟩
  ·simp at z
  ·have e':cl.lookup x=some c:=e;rw[z1]at e';cases e';exact z2
 |(y,k)::r,cl,n,hn,h,e=>by
  unfold cellsFrom at e;split at e
  ·rename_i hk;refine lj (n:=n+1) (by omega) ?_ e;cases hx:x == y with
   |true=>exact .inr ⟨n,by rw[QG,hx],hn⟩
   |false=>
    rcases h with z|⟨c',z1,z2⟩
    ·rcases OO.mp z with q | q
     ·have:x=y:=O0 Prod.fst q;rw[this]at hx;simp at hx
     ·exact .inl q
    ·exact .inr ⟨c',by rw[QG,hx];exact z1,z2⟩
  ·rename_i hk;refine lj hn ?_ e;rcases h with z|z
   ·rcases OO.mp z with q | q
    ·have:k=.cell:=(O0 Prod.snd q).symm;exact absurd (by rw[this];rfl) hk
    ·exact .inl q
   ·exact .inr z
theorem jr{x:Str}:∀{names:List (Str×NameKind)}{cl:List (Str×Addr)}{n:Nat},(x,NameKind.cell)∉names->(cellsFrom n names cl).lookup x=cl.lookup x
 |[],cl,n,_=>rfl
 |(y,k)::r,cl,n,hn=>by
  unfold cellsFrom;have hr:(x,NameKind.cell)∉r:=fun z=>hn (OM _ z);split
  ·rename_i hk;rw[jr hr,QG];cases hx:x == y with
   |true=>exact absurd (by rw[eq_of_beq hx,(eq_of_beq hk:k=.cell)];exact OL) hn
   |false=>rfl
  ·exact jr hr
theorem nN{n0:Nat}:∀{names:List (Str×NameKind)}{cl:List (Str×Addr)}{n:Nat},n0<=n->(∀x y c,cl.lookup x=some c->cl.lookup y=some c->n0<=c->x=y)->(∀x c,cl.lookup x=some c->c<n) ->
  ∀x y c,(cellsFrom n names cl).lookup x=some c->(cellsFrom n names cl).lookup y=some c->n0<=c->x=y
 |[],cl,n,_,h,_=>h
 |(z,k)::r,cl,n,hn,h,hb=>by
  unfold cellsFrom;split
  ·refine nN (n := n + 1) (by omega) (fun x y c e1 e2 hc => ?_) (fun x c e => ?_)
   ·rw [QG] at e1 e2;cases hx:x == z with
    |true=>
     cases hy:y == z with
     |true=>rw[eq_of_beq hx,eq_of_beq hy]
     |false=>
      rw[hx]at e1;rw[hy]at e2;cases e1;exact absurd (hb y _ e2) (OE _)
    |false=>
     cases hy:y == z with
     |true=>
      rw[hx]at e1;rw[hy]at e2;cases e2;exact absurd (hb x _ e1) (OE _)
     |false=>rw[hx]at e1;rw[hy]at e2;exact h x y c e1 e2 hc
   ·rw [QG] at e;cases hx:x == z with
    |true=>rw[hx]at e;cases e;exact QK _
    |false=>rw[hx]at e;exact QL (hb x c e)
  ·exact nN hn h hb
theorem kz{x:Str}{c:Addr}:∀{names:List (Str×NameKind)}{cl:List (Str×Addr)}{h:Heap},(cellsFrom h.objs.size names cl).lookup x=some c->cl.lookup x=some c\/(pushCells h names).IsCell c none
 |[],cl,h,e=>.inl e
 |(y,k)::r,cl,h,e=>by
  unfold cellsFrom at e;unfold pushCells;split at e
  ·rename_i hk;rw[OA hk];have e':(cellsFrom (h.push {cls:=.type "cell",data:=.cell none}).objs.size r ((y,h.objs.size)::cl)).lookup x=some c:=by rw[QM];exact e
   rcases kz e' with q|q
   ·rw [QG] at q;cases hx:x == y with
    |true=>
     rw[hx]at q;cases q;exact .inr ⟨_,QN _ _ _ _ (Pe _ rfl),rfl⟩
    |false=>rw[hx]at q;exact .inl q
   ·exact .inr q
  ·rename_i hk;rw[OB hk];exact kz e
theorem AH{X:Cx}{cap:List (Option Nat)}(I:aX X pins B H s)(hf:∀b∈fp,mC X pins H b)(hfs:∀b∈fp,b<s.heap.objs.size)(S:cE X.N X.env scope Nc cap)(hcl:∀x c,cl.lookup x=some c->X.env.cells.lookup x=some c)(hall:∀y∈scope.names,y.2=.free->(cl.lookup y.1).isSome=true)(hn:h'.Ns s.heap.objs.size (fun _=>none))(hk:∀b o,s.heap.get? b=some o->h'.get? b=some o)(hce:∀x c,(cellsFrom (s.heap.objs.size+1) scope.names cl).lookup x=some c->cl.lookup x=some c\/h'.IsCell c none):
  aX (j5 X Nc scope cl s.heap.objs.size s H fp) [] (pZ cap B) H {s with heap:=h',toks:=t'}:=by
 have hrl:∀x,(j5 X Nc scope cl s.heap.objs.size s H fp).env.kindOf x=(scope.names.lookup x).map fun k=>if (k == NameKind.free&&X.env.scope.kind == .function&&X.env.kindOf x == some .cell) then NameKind.cell else k:=fun x=>iJ
 have hcf:∀x,((j5 X Nc scope cl s.heap.objs.size s H fp).env.kindOf x=some .cell\/(j5 X Nc scope cl s.heap.objs.size s H fp).env.kindOf x=some .free)->scope.names.lookup x=some .free\/scope.names.lookup x=some .cell:=fun x hx=>by
  rw[hrl]at hx;cases e:scope.names.lookup x with
  |none=>rw[e]at hx;rcases hx with z|z <;> cases z
  |some k=>
   rw[e]at hx;by_cases hkf:k=.free
   ·rw[hkf];exact .inl rfl
   ·have : (k == NameKind.free) = false := by simpa using hkf
    simp only[this,Pd,Option.map_some]at hx;rcases hx with z|z
    ·have z' : k = .cell := by simpa using z
     rw[z'];exact .inr rfl
    ·have z' : k = .free := by simpa using z
     exact absurd z' hkf
 have hclx:∀x,scope.names.lookup x=some .free->∃c,cl.lookup x=some c:=fun x e=>PH.mp (hall (x,.free) (fF e) rfl)
 have hcb:∀x c,cl.lookup x=some c->c<s.heap.objs.size:=fun x c e=>by
  obtain⟨v,q⟩:=I.cell x c (hcl x c e);exact q.lt
 have hcell:∀x c,(cellsFrom (s.heap.objs.size+1) scope.names cl).lookup x=some c->(cl.lookup x=some c/\c<s.heap.objs.size)\/(s.heap.objs.size+1<=c/\h'.IsCell c none):=fun x c e=>by
  by_cases hm:(x,NameKind.cell)∈scope.names
  ·have h1 := lj (Pf _) (.inl hm) e;rcases hce x c e with z|z
   ·have:=hcb x c z;exact absurd (OD (QL this) h1) (OE _)
   ·exact .inr ⟨h1,z⟩
  ·rw[jr hm]at e;exact .inl ⟨e,hcb x c e⟩
 have hinj:∀x y c,(cellsFrom (s.heap.objs.size+1) scope.names cl).lookup x=some c->(cellsFrom (s.heap.objs.size+1) scope.names cl).lookup y=some c->x=y:=fun x y c e1 e2=>by
  rcases hcell x c e1 with⟨a1,a2⟩|⟨a1,a2⟩
  ·rcases hcell y c e2 with ⟨b1, b2⟩ | ⟨b1, b2⟩
   ·exact I.ok.inj x y c (hcl x c a1) (hcl y c b1)
   ·exact absurd (OD (QL a2) b1) (OE _)
  ·exact nN (Pf _) (fun x y c q _ hc=>absurd (OD (QL (hcb x c q)) hc) (OE _)) (fun x c q=>QL (hcb x c q)) x y c e1 e2 a1
 refine⟨⟨I.ok.mod,S.kind,I.ok.glob,I.ok.blt,Pf _,fun x y c e1 e2=>hinj x y c e1 e2,fun x hx=>?_,fun x c e e2=>?_,I.ok.hd,I.ok.frames,.inl rfl,
  fun b hb=>⟨OF (hfs b hb),fun x c e=>?_⟩,I.bs,OI I.ok.bsz I.sz,fun b o e hb=>?_,fun b hb z=>?_,I.stack,I.stkFree⟩,
  rfl,I.bare,Un.kept hk,⟨_,hn,fun i x v e1 e2 e3=>?_⟩,fun x c e=>?_,I.hok.fresh (Pf _),fun x c e=>?_,fun p hp=>absurd (show p∈([]:List (Addr×Obj)) from hp) (by simp),I.hok.kept hk,?_⟩
 ·rcases hcf x hx with q | q
  ·by_cases hm : (x, NameKind.cell) ∈ scope.names
   ·rcases PH.mp (W.cellsFrom_some scope.names (s.heap.objs.size + 1) cl (.inl (S.nd (x, .cell) hm))) with ⟨c, e⟩
    exact⟨c,e⟩
   ·obtain⟨c,e⟩:=hclx x q;exact⟨c,(jr hm).trans e⟩
  ·obtain⟨c,e⟩:=PH.mp (W.cellsFrom_some scope.names (s.heap.objs.size+1) cl (.inl q));exact⟨c,e⟩
 ·have hm:(x,NameKind.cell)∈scope.names:=fF (eq_of_beq (show (scope.names.lookup x == some .cell)=true from e));exact Nat.le_of_succ_le (lj (Pf _) (.inl hm) e2)
 ·rcases hcell x c e with ⟨a1, a2⟩ | ⟨a1, a2⟩
  ·exact(hf b hb).2.2.2.2.1 x c (hcl x c a1)
  ·exact fun z=>absurd (OD (QL (hfs b hb)) (by rw[<- z];exact a1)) (OE _)
 ·rcases (hf b hb).2.2.2.1 with z | z
  ·exact I.ok.noex b o e z
  ·exact absurd (OD (OD (OC e) I.ok.bsz) z) (OE _)
 ·rcases OO.mp (I.stkSub b z) with q | q
  ·exact(hf b hb).2.1 q
  ·exact(hf b hb).2.2.1 q
 ·have e2':∃j,cap[i]?=some (some j)/\B[j]?=some (some v):=by
   unfold pZ at e2;rw[PU]at e2;cases hc:cap[i]? with
   |none=>rw[hc]at e2;cases e2
   |some o=>
    rw[hc]at e2;cases o with
    |none=>cases e2
    |some j=>
     refine⟨j,rfl,?_⟩;simp only[Option.map_some,Option.bind_some]at e2;cases hj:B[j]? with
     |none=>rw[hj]at e2;cases e2
     |some q=>
      rw[hj]at e2;simp only[Option.join_some]at e2;rw[Ou e2]
  obtain⟨j,hj,hv⟩:=e2';obtain⟨hN,hx⟩:=qt S.cap hj e1;have hkx:=S.free (x,.free) (fF hx) rfl;obtain⟨m,hm,hl⟩:=I.loc;obtain⟨u,r,l⟩:=hl j x v hN hv (hkx.elim (fun z=>.inr (.inl z)) (fun z=>.inr (.inr z)));refine⟨u,r,.inr ⟨?_,?_⟩⟩
  ·rw [hrl, hx];show some (if _ then _ else _)=_\/some (if _ then _ else _)=_;by_cases hc:(NameKind.free == NameKind.free&&X.env.scope.kind == .function&&X.env.kindOf x == some .cell)=true
   ·rw[OA hc];exact .inl rfl
   ·rw[OB hc];exact .inr rfl
  ·obtain ⟨c, ec⟩ := hclx x hx
   have hm:(x,NameKind.cell)∉scope.names:=fun z=>by
    have:=S.nd (x,.cell) z;rw[hx]at this;cases this
   refine⟨c,(jr hm).trans ec,?_⟩;rcases l with⟨k,_⟩|⟨k,c',ec',z⟩
   ·rcases hkx with q|q <;> (rw[k]at q;cases q)
   ·have q:=hcl x c ec;rw[ec']at q;cases q;obtain⟨o,ho,hd⟩:=z;exact⟨o,hk _ o ho,hd⟩
 ·rcases hcell x c e with ⟨a1, a2⟩ | ⟨a1, a2⟩
  ·obtain⟨v,o,ho,hd⟩:=I.cell x c (hcl x c a1);exact⟨v,o,hk _ o ho,hd⟩
  ·exact⟨none,a2⟩
 ·rcases hcell x c e with ⟨a1, a2⟩ | ⟨a1, a2⟩
  ·exact I.freeC x c (hcl x c a1)
  ·exact I.hok.fresh (Nat.le_of_succ_le a1)
 ·show (cap.map _).length=Nc.length;rw[PZ,nO S.cap]
abbrev A6:Value->Shared->Prop:=fun _ _=>False
def tL(ifs:List Expr)(env:Env):Sem Bool:=forIn ifs true fun c r=>if r=true then do let ok <- isTrue c env (eval c env);pure (ForInStep.yield ok) else pure (ForInStep.yield r)
def xb(X:Cx)(ifs:List Expr)(t:TT):Prop:=
 ∀(pins:List (Addr×Obj))(s:Shared)(B:St)(H:Hp)(Q:Bool->Hp->Prop),aX X pins B H s->t B H Q->wpAny (model X.prog X.w) X.A (tL ifs X.env) (TP X pins B Q) X.xe s
def Lh:TT:=fun _ H Q=>Q true H
theorem Fg{X:Cx}:xb X [] Lh:=fun _ _ _ H _ I h=>O6 ⟨H,I,h⟩
theorem Ff{X:Cx}{c:Expr}{t:TT}(h:PT X c t):xb X [c] t:=fun pins s B H Q I q=>wpAny_tests_one (h pins s B H Q I q)
def Kh(e:Expr)(acc:Value)(env:Env):Sem Unit:=match e with
 |.ListComp elt _ _ _=>do let _ <- call (.builtin "list.append") [acc,<- eval elt env]
 |.SetComp elt _ _ _=>do let v <- eval elt env;standAt elt.pos;let _ <- call (.builtin "set.add") [acc,v]
 |_=>unsupported "internal:not-a-comprehension"
def qd:Expr->Bool
 |.ListComp ..=>true
 |.SetComp ..=>true
 |_=>false
def n9(M:Model)(A:Around)(e:Expr)(k:Nat)(acc:Value)(env:Env)(C:Shared->Prop)(E:Value->Shared->Prop)(s:Shared):Prop:=match (clausesOf e)[k]? with
 |some g=>wpAny M A (eval g.iter env) (fun x s1=>wpAny M A (foldedSetIterable g.iter env x) (fun x s2=>wpAny M A (pyIter x) (fun it s3=>
   codeAny M A (.compStart e k it acc env) (fun r s4=>(∃f,r=.ok f)/\C s4) s3) E s2) E s1) E s
 |none=>wpAny M A (Kh e acc env) (fun _ s1=>C s1) E s
theorem wk{M:Model}{acc:Value}{C C':Shared->Prop}(hC:∀s,C s->C' s)(h:n9 M A e k acc env C A6 s):n9 M A e k acc env C' E s:=by
 unfold n9 at h⊢;split at h
 ·exact OW h (fun _ _ h=>OW h (fun _ _ h=>OW h (fun _ _ h=>Px h fun _ _ h=>⟨h.1,hC _ h.2⟩) fun _ _ z=>z.elim) fun _ _ z=>z.elim) fun _ _ z=>z.elim
 ·exact OW h (fun _ _ h=>hC _ h) fun _ _ z=>z.elim
theorem Eu{M:Model}{d:Nat}{it acc:Value}{Q:Fin->Shared->Prop}(he:qd e=true)(hz:∀g∈clausesOf e,g.is_async=0)(hg:(clausesOf e)[d]?=some g)(h : wpAny M A (pyNext it) (fun r s₁ => match r with
   |none=>Q (.done .next) s₁
   |some v=>wpAny M A (letOwnedTupleGo g.target it v) (fun _ s₁'=>wpAny M A (assign g.target env v) (fun _ s₂=>wpAny M A (tL g.ifs env) (fun ok s₃=>
     if ok=true then n9 M A e (d+1) acc env (fun s₄=>wpAny M A (again (.compLoop e d it acc env)) Q E s₄) E s₃ else wpAny M A (again (.compLoop e d it acc env)) Q E s₃) E s₂) E s₁') E s₁) E s):
  wpAny M A (compTurn e d it acc env) Q E s:=by
 have h0:=hz g (PX hg);have h1:∀g',(clausesOf e)[d+1]?=some g'->g'.is_async=0:=fun g' h=>hz g' (PX h);unfold compTurn
 cases e <;> first
  |exact absurd (show false=true from he) Pm
  | (rename_i elt gens sc pos
     have hg':gens[d]?=some g:=hg;have h1':∀g',gens[d+1]?=some g'->g'.is_async=0:=h1;dsimp only;rw[hg'];dsimp only;rw[h0];refine O3 (O5 ?_);show wpAny M A (pyNext it >>= _) Q E s;refine O3 (OW h (fun r s₁ h₁=>?_) fun _ _ z=>z);cases r with
     |none=>exact O6 h₁
     |some v=>
      refine O3 (OW h₁ (fun _ s₁' h₁'=>?_) fun _ _ z=>z);refine O3 (OW h₁' (fun _ s₂ h₂=>?_) fun _ _ z=>z);refine O3 (OW h₂ (fun ok s₃ h₃=>?_) fun _ _ z=>z);cases ok with
      |false=>exact h₃
      |true=>
       simp only[Qg]at h₃⊢;unfold n9 at h₃;dsimp only[clausesOf]at h₃;cases e2:gens[d+1]? with
       |none=>
        rw[e2]at h₃;exact O3 h₃
       |some g'=>
        rw[e2]at h₃;have e3:=h1' g' e2;simp only[e3];refine O3 (OW h₃ (fun x s₄ h₄=>?_) fun _ _ z=>z);refine O3 (O5 ?_);show wpAny M A (foldedSetIterable g'.iter env x >>= _) Q E s₄;refine O3 (OW h₄ (fun x s₅ h₅=>?_) fun _ _ z=>z);refine O3 (O4 ?_);show wpAny M A (pyIter x) _ E s₅;refine OW h₅ (fun it' s₆ h₆=>?_) fun _ _ z=>z;refine O3 (wpAny_runOwn (Px h₆ fun r s₇ h₇=>?_));obtain⟨⟨f,rfl⟩,hc⟩:=h₇
        exact hc)
section
variable{R:Result->Shared->Prop}
theorem zW{it acc:Value}(he:qd e=true)(hz:∀g∈clausesOf e,g.is_async=0)(hg:(clausesOf e)[k]?=some g)(h0:codeAny (model prog w) A (.compLoop e k it acc env) R s)(h:wpAny (model prog w) A (pyIter it) (fun it' s'=>codeAny (model prog w) A (.compLoop e k it' acc env) R s') A6 s):
  codeAny (model prog w) A (.compStart e k it acc env) R s:=by
 have ha:=hz g (PX hg)
 cases e <;> first
  |exact absurd (show false=true from he) Pm
  | (refine QO ?_
     show wpAny _ _ ((compStart _ k it acc env).onRaise (fun x=>do noteFrame x env;standAt theWindowsPlace)) _ _ s;refine wpAny_notedAt ?_;unfold compStart;rw[hg];have e1:((some g).elim false fun x=>x.is_async != 0)=false:=by show (g.is_async != 0)=false;rw[ha];rfl
     rw[e1];simp only[QI,Qf];refine O3 (QP (wpAny_ite ?_));split
     ·exact O6 (And.intro rfl h0)
     ·refine O3 (O9 ?_);refine O3 (O5 ?_)
      exact O3 (OW h (fun it' s' h'=>O6 (And.intro rfl h')) fun _ _ z=>z.elim))
theorem AB{d:Nat}{it acc:Value}(he:qd e=true)(hz:∀g∈clausesOf e,g.is_async=0)(hg:(clausesOf e)[d]?=some g)(I:Nat->Shared->Prop)(turn : ∀ n s, I n s -> wpAny (model prog w) A (pyNext it) (fun r s₁ => match r with
   |none=>R (.ok .next) s₁
   |some v=>wpAny (model prog w) A (letOwnedTupleGo g.target it v) (fun _ s₁'=>wpAny (model prog w) A (assign g.target env v) (fun _ s₂=>
     wpAny (model prog w) A (tL g.ifs env) (fun ok s₃=>
      if ok=true then n9 (model prog w) A e (d+1) acc env (fun s₅=>∃m,m<n/\I m s₅) A6 s₃
      else ∃m,m<n/\I m s₃) A6 s₂) A6 s₁') A6 s₁) A6 s)(n:Nat)(h:I n s):codeAny (model prog w) A (.compLoop e d it acc env) R s:=by
 refine codeAny_loop (by cases e <;> first|exact absurd (show false=true from he) Pm|rfl) I (fun n s hI=>?_) n h
 cases e <;> first
  |exact absurd (show false=true from he) Pm
  | (show wpAny _ A ((compTurn _ d it acc env).onRaise (fun x => do noteFrame x env; theTreesLotGoes x)) _ _ s
     refine wpAny_noted (Eu he hz hg (OW (turn n s hI) (fun r s₁ h₁=>?_) fun _ _ z=>z.elim));cases r with
     |none=>exact h₁
     |some v=>
      refine OW h₁ (fun _ s₂ h₂=>OW h₂ (fun _ s₃ h₃=>OW h₃ (fun ok s₄ h₄=>?_) fun _ _ z=>z.elim) fun _ _ z=>z.elim) fun _ _ z=>z.elim;cases ok with
      |false=>exact O6 ⟨rfl,h₄⟩
      |true=>
       simp only[Qg]at h₄⊢
       exact wk (fun s₅ h₅=>O6 ⟨rfl,h₅⟩) h₄)
end
abbrev Hj:=St->Hp->(St->Hp->Prop)->Prop
def Ky(X:Cx)(e:Expr)(k:Nat)(acc:Addr)(t:Hj):Prop:=
 ∀(pins:List (Addr×Obj))(s:Shared)(B:St)(H:Hp)(N:St->Hp->Prop),aX X pins B H s->t B H N->n9 (model X.prog X.w) X.A e k (.ref acc) X.env (fun s'=>∃B' H',aX X pins B' H' s'/\N B' H') A6 s
def N1(α:It)(g:TG)(tt:TT)(tb:Hj)(N:St->Hp->Prop)(B:St)(H:Hp):Prop:=∃W:Nat->Nat->St->Hp->Prop,(∃m,W 0 m B H)/\∀i m B1 H,W i m B1 H ->
 (α.stop i H/\N B1 H)\/(α.go i H/\∃N':St->Hp->Prop,(∀B' H',N' B' H'->∃m',m'<m/\W (i+1) m' B' H')/\∀x H',α.yld i H x H'->g x B1 H' fun B2 H2=>tt B2 H2 fun b H3=>if b=true then tb B2 H3 N' else N' B2 H3)
section
variable{X:Cx}{d:Nat}{cl:Comprehension}{g:TG}{tt:TT}{tb:Hj}{acc:Addr}
theorem wX{α:It}{tn:Nat->Heap->Prop}{N:St->Hp->Prop}(he:qd e=true)(hz:∀g∈clausesOf e,g.is_async=0)(hg:(clausesOf e)[d]?=some cl)(hxe:X.xe=A6)(hc:X.calm=true)(T:xu X.prog X.w X.K cl.target α fp it tn)(hgc:PG X cl.target g)(htc:xb X cl.ifs tt)(hb:Ky X e (d+1) acc tb)(I:aX X pins B H s)(st:tn 0 s.heap)(fr:∀b∈fp,mC X pins H b)(h:N1 α g tt tb N B H):
  codeAny (model X.prog X.w) X.A (.compLoop e d (.ref it) (.ref acc) X.env) (fun r s'=>r=.ok .next/\∃B' H',aX X pins B' H' s'/\N B' H') s:=by
 obtain⟨W,⟨m0,w0⟩,turn⟩:=h;have stat:∀{H':Hp},(∀b∈fp,H' b=none)->∀b∈fp,mC X pins H' b:=fun hn b hb=>⟨hn b hb,(fr b hb).2⟩;refine AB he hz hg (fun n s'=>∃i B' H',aX X pins B' H' s'/\tn i s'.heap/\(∀b∈fp,H' b=none)/\W i n B' H') ?_ m0 ⟨0,_,_,I,st,fun b hb=>(fr b hb).1,w0⟩
 rintro n s5 ⟨i,B5,H5,I5,st5,fr5,w5⟩
 rcases turn i n B5 H5 w5 with⟨stop,qn⟩|⟨go,N',hN,step⟩
 ·refine cY (T.done X rfl rfl rfl hc i pins s5 B5 H5 A6 I5 (stat fr5) st5 stop) fun r s6 ⟨hr,I6⟩=>?_;subst hr;exact⟨rfl,_,_,I6,qn⟩
 ·refine cY (T.item X rfl rfl rfl hc i pins s5 B5 H5 A6 I5 (stat fr5) st5 go) fun r s6 ⟨u, hr, h6⟩ => ?_;subst hr;refine cY h6 fun _ s7 ⟨x,H7,I7,r7,y7,st7,fr7⟩=>?_;have I7':=I7.pinned (stat fr7) (T.obj _ _ st7);have z1:=hgc _ s7 B5 H7 x u _ I7' r7 (step x H7 y7);rw[hxe]at z1;refine cY z1 fun _ s8 ⟨B8,H8,I8,q8⟩=>?_;have z2:=htc _ s8 B8 H8 _ I8 q8;rw[hxe]at z2;refine cY z2 fun b s9 ⟨H9,I9,q9⟩=>?_
  have again:∀{σa:St}{Ha:Hp}{sa:Shared},aX X (pins++qc fp s7.heap) σa Ha sa->N' σa Ha->∃m,m<n/\∃i B' H',aX X pins B' H' sa/\tn i sa.heap/\(∀b∈fp,H' b=none)/\W i m B' H':=fun {σa Ha sa} Ia na=>by
   obtain⟨m',hm,wa⟩:=hN σa Ha na;refine⟨m',hm,i+1,σa,Ha,Ia.unpinned,T.keep _ _ _ st7 fun b hb o e=>(Ia.pin (b,o) (Pi _ (Pi _ (jP hb e)))).1,fun b hb=>?_,wa⟩;obtain⟨o,e,d⟩:=T.obj _ _ st7 b hb;exact(Ia.pin (b,o) (Pi _ (Pi _ (jP hb e)))).2.1
  cases b with
  |false=>
   rw[OB Pm]at q9⊢;exact again I9 q9
  |true=>
   rw[OA rfl]at q9⊢;exact wk (fun s' ⟨B',H',I',n'⟩=>again I' n') (hb _ s9 B8 H9 _ I9 q9)
def GL(te:TE)(acc:Addr):Hj:=fun B H N=>te B H fun y H4=>∃ys,H4 acc=some (.lst ys)/\ys.length<sizeLine/\N B (b9 H4 acc (.lst (ys++[y])))
theorem vE{elt:Expr}{gens:List Comprehension}(hg:gens[d]?=none)(hxe:X.xe=A6)(hel:PE X elt te):Ky X (.ListComp elt gens scope pos) d acc (GL te acc):=by
 intro pins s B H N I h;unfold n9;show (match gens[d]? with|some g=>_|none=>_:Prop);rw[hg];show wpAny _ _ (do let _ <- call (.builtin "list.append") [.ref acc,<- eval elt X.env]) _ _ _;have z:=hel pins s B H _ I h;rw[hxe]at z;refine O3 (cY z fun v10 s10 ⟨y,H10,I10,r10,ys,hy,hz,nn⟩=>?_);have z4:=sr (X:=X) pins s10 B H10 (.ref acc) [y] (.ref acc) [v10] (fun _ H'=>N B H') I10 rfl (.cons r10 .nil) ⟨_,ys,y,rfl,rfl,hy,hz,nn⟩;rw[hxe]at z4;exact O3 (cY z4 fun v11 s11 ⟨y',H11,I11,r11,n11⟩=>O6 ⟨_,_,I11,n11⟩)
end
theorem DI{M:Model}{Q:Env->Shared->Prop}(hQ : ∀ h', h'.Ns s.heap.objs.size (fun _ => none) -> (∀ b o, s.heap.get? b = some o -> h'.get? b = some o) -> (∀ x c, (cellsFrom (s.heap.objs.size + 1) scope.names cl).lookup x = some c -> cl.lookup x = some c \/ h'.IsCell c none) ->
   ∀cenv:Env,({cenv with scope:=relabel scope env}:Env)=compEnvC scope (cellsFrom (s.heap.objs.size+1) scope.names cl) s.heap.objs.size env->cenv.locals=s.heap.objs.size->Q cenv {s with heap:=h'}):
  wpAny M A (newFunctionEnv scope env.globals cl [] env.qual none .none (some env)) Q E s:=by
 simp only[newFunctionEnv,Option.isSome_some,Qg];refine O3 (wpAny_alloc ?_);refine O3 (wpAny_layCells _ (fun name kind cells=>by cases hkc:kind == NameKind.cell <;> simp[hkc]) _ _ _ _ ?_);have hsz:(s.heap.push {cls:=.type "dict",data:=.dict #[]}).objs.size=s.heap.objs.size+1:=QM ..;refine O3 (O6 (O6 ?_));show Q _ {s with heap:=pushCells (s.heap.push {cls:=.type "dict",data:=.dict #[]}) scope.names};refine hQ _ ((Heap.Ns.new s.heap (.type "dict")).keeps (QN _ _)) (fun b o e=>QN _ _ b o (O8 _ e)) (fun x c e=>?_) _ ?_ rfl
 ·rw[<- hsz]at e;exact kz e
 ·show _=_;unfold compEnvC;rw[<- hsz]
def tq(o0:Addr->HO)(wi:TI)(cap:List (Option Nat))(g:TG)(tt:TT)(tb:Addr->Hj):TE:=fun B H Q=>wi B H fun α H1=>∀acc,H1 acc=none->N1 α g tt (tb acc) (fun _ H'=>Q (.ref acc) H') (pZ cap B) (b9 H1 acc (o0 acc))
def Bp(wi:TI)(cap:List (Option Nat))(g:TG)(tt:TT)(te:TE):TE:=tq (fun _=>.lst []) wi cap g tt (GL te)
def N9(X:Cx)(newAcc:Sem Value)(o0:Addr->HO):Prop:=∀(pins:List (Addr×Obj))(s:Shared)(B:St)(H:Hp)(Q:Value->Shared->Prop),aX X pins B H s ->
 (∀s',aX X pins B (b9 H s.heap.objs.size (o0 s.heap.objs.size)) s'->(∀b o,s.heap.get? b=some o->s'.heap.get? b=some o)->s.heap.objs.size<s'.heap.objs.size->Q (.ref s.heap.objs.size) s')->wpAny (model X.prog X.w) X.A newAcc Q X.xe s
theorem vO{X:Cx}:N9 X (newList []) (fun _=>.lst []):=fun pins s B H Q I h=>
 O7 (h _ (I.lnew (t':=s.toks) (ys:=[]) (its:=[]) .nil (QR _)) (fun b o e=>O8 _ e) (by rw[QM];exact QK _))
section
variable{X:Cx}{cl0:Comprehension}{rest:List Comprehension}{cap:List (Option Nat)}{wi:TI}{g:TG}{tt:TT}{tb:Addr->Hj}{o0:Addr->HO}{newAcc:Sem Value}
theorem sQ{use:Option (Value->Sem Unit)}{Q:VK}{QQ:Value->Shared->Prop}(he:qd e=true)(hz:∀g∈clausesOf e,g.is_async=0)(hcl0:clausesOf e=cl0::rest)(hmk:N9 X newAcc o0)(hc:X.calm=true)(S:cE X.N X.env scope Nc cap)(hi:PI X cl0.target cl0.iter wi)(hg:∀cl C s H fp,PG (j5 X Nc scope cl C s H fp) cl0.target g)(ht:∀cl C s H fp,xb (j5 X Nc scope cl C s H fp) cl0.ifs tt)(hb:∀cl C s H fp acc,Ky (j5 X Nc scope cl C s H fp) e 1 acc (tb acc))(I:aX X pins B H s)(h:tq o0 wi cap g tt tb B H Q)(hfin:∀C acc s' H',aX X pins B H' s'->mC X pins H' C->(∃m,s'.heap.Ns C m)->Q (.ref acc) H'->compPost (model X.prog X.w) X.A X.xe use QQ (.ref acc) C (.ok .next) s')(hs:∀x,foldedSetIterable cl0.iter X.env x=pure x):
  wpAny (model X.prog X.w) X.A (comprehension e scope X.env pos' newAcc false (eval cl0.iter X.env) use) QQ X.xe s:=by
 obtain⟨cl,hclos,hcl,hall⟩:=yp (scope:=scope) (env:=X.env) (fun y hy hf=>I.ok.has y.1 (S.free y hy hf));have hg0:(clausesOf e)[0]?=some cl0:=by rw[hcl0];rfl
 refine wpAny_comprehension_free hcl0 hs hclos S.kind (fun x hx e=>by rw[S.nd x hx,e]) ?_;refine cY (hi pins s B H _ I h) fun v s1 h1=>cY h1 fun itv s2 h2=>?_;obtain⟨it,fp,tn,α,H2,e',I2,T,st2,f2,rd⟩:=h2;subst e';have rd:=rd _ I2.fresh;refine hmk pins s2 B H2 _ I2 fun s3 I3 hk3 hsz3=>?_;have st3:tn 0 s3.heap:=T.keep _ _ _ st2 fun b _ o e=>hk3 b o e
 have fpn:∀b∈fp,b≠s2.heap.objs.size:=fun b hb=>by
  obtain⟨o,eo,_⟩:=T.obj _ _ st2 b hb;exact OF (OC eo)
 have f3:∀b∈fp,mC X pins (b9 H2 s2.heap.objs.size (o0 s2.heap.objs.size)) b:=fun b hb=>⟨by rw[aV (fpn b hb)];exact(f2 b hb).1,(f2 b hb).2⟩
 have hfs:∀b∈fp,b<s3.heap.objs.size:=fun b hb=>by
  obtain⟨o,eo,_⟩:=T.obj _ _ st3 b hb;exact OC eo
 refine DI fun h1 hns1 hk1 hce cenv ecenv elc=>?_;rw[ecenv]
 have IB:aX (j5 X Nc scope cl s3.heap.objs.size s3 (b9 H2 s2.heap.objs.size (o0 s2.heap.objs.size)) fp) [] (pZ cap B) (b9 H2 s2.heap.objs.size (o0 s2.heap.objs.size)) {s3 with heap:=h1,toks:=s3.toks}:=
  AH I3 f3 hfs S hcl hall hns1 hk1 hce
 have stB:tn 0 h1:=T.keep _ _ _ st3 fun b _ o e=>hk1 b o e;rw[elc]
 have frB:∀b∈fp,mC (j5 X Nc scope cl s3.heap.objs.size s3 (b9 H2 s2.heap.objs.size (o0 s2.heap.objs.size)) fp) [] (b9 H2 s2.heap.objs.size (o0 s2.heap.objs.size)) b:=fun b hb=>
  ⟨(f3 b hb).1,(IB.ok.exf b hb).1,IB.ok.exfs b hb,.inl hb,(IB.ok.exf b hb).2,fun p hp=>absurd (show p∈([]:List (Addr×Obj)) from hp) (by simp)⟩
 have loop:=wX (X:=j5 X Nc scope cl s3.heap.objs.size s3 (b9 H2 s2.heap.objs.size (o0 s2.heap.objs.size)) fp) he hz hg0 rfl hc T (hg _ _ _ _ _) (ht _ _ _ _ _) (hb _ _ _ _ _ _) IB stB frB rd
 have fin:∀r s',(r=.ok .next/\∃B' H',aX (j5 X Nc scope cl s3.heap.objs.size s3 (b9 H2 s2.heap.objs.size (o0 s2.heap.objs.size)) fp) [] B' H' s'/\Q (.ref s2.heap.objs.size) H')->compPost (model X.prog X.w) X.A X.xe use QQ (.ref s2.heap.objs.size) s3.heap.objs.size r s':=by
  rintro r s' ⟨rfl,B',H',α',q⟩
  have I5:aX X pins B H' s':=I3.call' (ch:=fp) α'.os α'.base α'.hok α'.bare fun b hbf=>⟨(f3 b hbf).2.2.2.1,(f3 b hbf).2.1,(f3 b hbf).2.2.2.2.1,(f3 b hbf).2.2.2.2.2⟩;obtain⟨mm,hnn,_⟩:=α'.loc;exact hfin _ _ s' H' I5 (I3.fpOk (Pf _) α'.free) ⟨mm,hnn⟩ q
 exact zW he hz hg0 (Px loop fin) (T.self _ 0 _ _ _ stB (Px loop fin))
variable{elt:Expr}
theorem Dc(hc:X.calm=true)(hz:∀g∈cl0::rest,g.is_async=0)(S:cE X.N X.env scope Nc cap)(hi:PI X cl0.target cl0.iter wi)
  (hg:∀cl C s H fp,PG (j5 X Nc scope cl C s H fp) cl0.target g) (ht:∀cl C s H fp,xb (j5 X Nc scope cl C s H fp) cl0.ifs tt) (hb:∀cl C s H fp acc,Ky (j5 X Nc scope cl C s H fp) (.ListComp elt (cl0::rest) scope pos) 1 acc (tb acc))
  (hs:∀x,foldedSetIterable cl0.iter X.env x=pure x):PE X (.ListComp elt (cl0::rest) scope pos) (tq (fun _=>.lst []) wi cap g tt tb):=by
 intro pins s B H Q I h;have h0:=hz cl0 OL;obtain⟨tg0,it0,if0,as0⟩:=cl0;have h0':as0=0:=h0;subst h0';rw[arm_eval_ListComp];refine sQ (e:=.ListComp elt (_::rest) scope pos) (Q:=Q) rfl hz rfl vO hc S hi hg ht hb I h (fun C acc s' H' I' hf hn q=>?_) hs;obtain⟨m,hn⟩:=hn;refine⟨m,hn,fun h' sb=>⟨.ref acc,H',?_,rfl,q⟩⟩;exact I'.turned (t':=s'.toks) (it:=C) (fun b o hb e=>(sb.2 b hb).trans e) hf.1 hf.2.1 hf.2.2.2.1 hf.2.2.2.2.1 hf.2.2.2.2.2
theorem C6(hc:X.calm=true)(hz:∀g∈cl0::rest,g.is_async=0)(hN:X.N.Nodup)(hix:X.N[i]?=some x)(hx:X.env.scope.names.lookup x=some .local)(S:cE X.N X.env scope Nc cap)(hi:PI X cl0.target cl0.iter wi)(hg:∀cl C s H fp,PG (j5 X Nc scope cl C s H fp) cl0.target g)(ht:∀cl C s H fp,xb (j5 X Nc scope cl C s H fp) cl0.ifs tt)(hb:∀cl C s H fp acc,Ky (j5 X Nc scope cl C s H fp) (.ListComp elt (cl0::rest) scope pos) 1 acc (tb acc))(hsw:swapsWith (.ListComp elt (cl0::rest) scope pos) (some (.Name x pos1)) pos2.line X.env=pure true)(hs:∀x,foldedSetIterable cl0.iter X.env x=pure x):
  PS X (.Assign [.Name x pos1] (.ListComp elt (cl0::rest) scope pos) pos2) (Bb (tq (fun _=>.lst []) wi cap g tt tb) (uZ i)):=by
 intro pins s B H D I h;have h0:=hz cl0 OL;obtain⟨tg0,it0,if0,as0⟩:=cl0;have h0':as0=0:=h0;subst h0';rw[exec_Assign_Name_used _ _ _ _ hsw];refine O3 (O5 (O3 ?_));show wpAny _ X.A (do let _ <- comprehension (.ListComp elt (⟨tg0,it0,if0,0⟩::rest) scope pos) scope X.env _ (newList []) false (eval it0 X.env) (some (assign (.Name x pos1) X.env))) _ _ s
 refine O3 (OW (sQ (e:=.ListComp elt (_::rest) scope pos) (use:=some (assign (.Name x pos1) X.env)) (Q:=fun v H1=>D.nx (B.set i (some v)) H1) (QQ:=fun _ s'=>SP X pins D .next s') rfl hz rfl vO hc S hi hg ht hb I h (fun C acc s' H' I' hf hn q=>?_) hs)
  (fun _ s' hq=>O6 (O6 hq)) fun _ _ e=>e)
 obtain⟨m,hn⟩:=hn;show wpAny _ X.A (assign (.Name x pos1) X.env (.ref acc)) _ _ _;refine wpAny_assign_Name (se I' hN hix (.inl hx) (show bU (.ref acc) (.ref acc) from rfl) (fun s'' I'' hsb=>?_) (.inr hx));obtain⟨a,sb,ha⟩:=hsb
 have hCa:C≠a:=by
  rcases ha with z|z
  ·rw[z];exact hf.2.1
  ·exact fun e=>hf.2.2.2.2.1 x a z e.symm
 refine⟨m,hn.sameBut sb hCa,fun h' sb'=>⟨_,H',?_,q⟩⟩;exact I''.turned (t':=s''.toks) (it:=C) (fun b o hb e=>(sb'.2 b hb).trans e) hf.1 hf.2.1 hf.2.2.2.1 hf.2.2.2.2.1 hf.2.2.2.2.2
variable{ifs:List Expr}
theorem so:∀g∈([⟨tg,iter,ifs,0⟩]:List Comprehension),g.is_async=0:=fun g hg=>by rw[QS.mp hg]
theorem Fw(hc:X.calm=true)(S:cE X.N X.env scope Nc cap)(hi:PI X tg iter wi)
  (hg:∀cl C s H fp,PG (j5 X Nc scope cl C s H fp) tg g) (ht:∀cl C s H fp,xb (j5 X Nc scope cl C s H fp) ifs tt) (he:∀cl C s H fp,PE (j5 X Nc scope cl C s H fp) elt te)
  (hs:∀x,foldedSetIterable iter X.env x=pure x:=by intro _;rfl):PE X (.ListComp elt [⟨tg,iter,ifs,0⟩] scope pos) (Bp wi cap g tt te):=
 Dc (cl0:=⟨tg,iter,ifs,0⟩) hc so S hi hg ht (fun cl C s H fp acc=>vE rfl rfl (he cl C s H fp)) hs
theorem Fi(hc:X.calm=true)(hN:X.N.Nodup)(hix:X.N[i]?=some x)(hx:X.env.scope.names.lookup x=some .local)(S:cE X.N X.env scope Nc cap)(hi:PI X tg iter wi)(hg:∀cl C s H fp,PG (j5 X Nc scope cl C s H fp) tg g)(ht:∀cl C s H fp,xb (j5 X Nc scope cl C s H fp) ifs tt)(he:∀cl C s H fp,PE (j5 X Nc scope cl C s H fp) elt te)(hsw:swapsWith (.ListComp elt [⟨tg,iter,ifs,0⟩] scope pos) (some (.Name x pos1)) pos2.line X.env=pure true)(hs:∀x,foldedSetIterable iter X.env x=pure x:=by intro _;rfl):
  PS X (.Assign [.Name x pos1] (.ListComp elt [⟨tg,iter,ifs,0⟩] scope pos) pos2) (Bb (Bp wi cap g tt te) (uZ i)):=
 C6 (cl0:=⟨tg,iter,ifs,0⟩) hc so hN hix hx S hi hg ht (fun cl C s H fp acc=>vE rfl rfl (he cl C s H fp)) hsw hs
end
end L2
namespace RS
open PySem PySem.W PyProof.Rows
open AutoSeq1 (wpAny_loadPart')
section
theorem uA{t:Addr}{items}{x:Value}(hit:s.heap.IsTupleIter it t i)(ht:s.heap.IsTuple t items)(hx:items[i]?=some x)(hQ:∀h',h'.IsTupleIter it t (i+1)->Heap.SameBut it s.heap h'->Q x {s with heap:=h'}):wpAny (model prog w) A (Builtin.SmallTypes.nextOf (.ref it)) Q E s:=by
 obtain⟨o,ho,hc,hd⟩:=id hit;obtain⟨ol,hol,_,nl,hdl⟩:=ht;unfold Builtin.SmallTypes.nextOf;refine O3 (Qj (name:=Str.ofString "__next__") hit.typeIs QT (Ql QT hit.typeIs QU ?_ (QV _)));show wpAny _ _ (field (.ref it) 0 >>= _) _ _ s;refine O3 (Qh ho hd (x:=.ref t) rfl ?_);show wpAny _ _ (if (Value.ref t == Value.none)=true then _ else _) _ _ s;rw[OB (show ¬ ((Value.ref t == Value.none)=true) from Pm)];show wpAny _ _ (field (.ref it) 1 >>= _) _ _ s;refine O3 (Qh ho hd (x:=.int i 0) rfl ?_);show wpAny _ _ (seqItems? (.ref t) >>= _) _ _ s;refine O3 (QW hol hdl ?_);simp only[Qd,hx];refine O3 (QX ho hd (by simp) (O6 ⟨x,rfl,O6 (hQ _ ?_ (QY ..))⟩));exact⟨_,Qr _ ho (QZ (Q0 hd _)),(Q2 ..).trans hc,by rw[Q0 hd];simp[rawInt]⟩
theorem nZ{t:Addr}{items}(hh:A.handled=none)(hit:s.heap.IsTupleIter it t i)(ht:s.heap.IsTuple t items)(hx:items[i]?=none)(hE:∀h' e,Heap.ExtBut it s.heap h'->(∃o,h'.get? e=some o/\o.cls=.type "StopIteration")->E (.ref e) {s with heap:=h'}):wpAny (model prog w) A (Builtin.SmallTypes.nextOf (.ref it)) Q E s:=by
 obtain⟨o,ho,hc,hd⟩:=id hit;obtain⟨ol,hol,_,nl,hdl⟩:=ht;unfold Builtin.SmallTypes.nextOf;refine O3 (Qj (name:=Str.ofString "__next__") hit.typeIs QT (Ql QT hit.typeIs QU ?_ (QV _)));show wpAny _ _ (field (.ref it) 0 >>= _) _ _ s;refine O3 (Qh ho hd (x:=.ref t) rfl ?_);show wpAny _ _ (if (Value.ref t == Value.none)=true then _ else _) _ _ s;rw[OB (show ¬ ((Value.ref t == Value.none)=true) from Pm)];show wpAny _ _ (field (.ref it) 1 >>= _) _ _ s;refine O3 (Qh ho hd (x:=.int i 0) rfl ?_);show wpAny _ _ (seqItems? (.ref t) >>= _) _ _ s;refine O3 (QW hol hdl ?_);simp only[Qd,hx];refine O3 (O9 (O3 (QX ho hd (by simp) ?_)));show wpAny _ _ (newExc (.type "StopIteration") [] >>= _) _ _ _;refine O3 ?_;simp only[newExc,newTuple];refine O3 (O7 ?_ (by size_fits));refine O3 (m:=firstArgMember _ _) (Q3 (a:=Value.none) (by first|rfl|(simp only[firstArgMember];rfl)) ?_);refine O7 ?_ (by size_fits);simp only[raiseNew];refine O3 (wpAny_handled ?_)
 first|rw[show A.in1.handled=none from hh]|rw[hh]
 refine O3 (O6 (wpAny_throw ?_));exact hE _ _ (((QY ..).extBut.push _).push _) ⟨_,Pe _ rfl,rfl⟩
end
theorem Kj(hh:A.handled=none)(it l:Addr)(hne:l≠it)(items:Array Value):
  Draws prog w A it [it,l] items.size (fun i v=>items[i]?=some v) (fun i h=>h.IsTupleIter it l i/\h.IsTuple l items) where
 live:=fun _ _ st=>let ⟨o,ho,_⟩:=st.1;⟨o,ho⟩
 frame:=fun _ _ _ st hk=>⟨by
  obtain⟨o,ho,r⟩:=st.1;exact⟨o,hk it (by simp) o ho,r⟩,by
  obtain⟨o,ho,r⟩:=st.2
  exact⟨o,hk l (by simp) o ho,r⟩⟩
 item:=fun i s Q E hi st hQ=>by
  refine uA st.1 st.2 (x:=items[i]) (by simp[hi]) fun h' hit' hs'=>?_;refine hQ _ h' s.toks (by simp[hi]) ⟨hit',?_⟩ hs';obtain⟨o,ho,r⟩:=st.2;exact⟨o,(hs'.2 l hne).trans ho,r⟩
 done:=fun s Q E st hE=>nZ hh st.1 st.2 (by simp) hE
theorem wJ(l:Addr)(items:Array Value)(n:Nat)(dct:Option Addr)(sl:Array (Option Value)) :
  Meets (Builtin.«enumerate.__new__» ⟨[.type "enumerate",.ref l],[]⟩) (fun _ R s=>s.heap.get? l=some {cls:=.type "tuple",dict:=dct,data:=.seq items n,slots:=sl} /\
   R (.ok (.ret (.ref (s.heap.push {cls:=.type "tuple_iterator",data:=.fields #[.ref l,.int 0 0]}).objs.size)))
    {s with heap:=(s.heap.push {cls:=.type "tuple_iterator",data:=.fields #[.ref l,.int 0 0]}).push {cls:=.type "enumerate",data:=.fields #[.none,.bool false,.ref s.heap.objs.size,rawInt 0,.none,.none]}}):=
 .of_wp fun prog w A R s h=>by
  obtain⟨hp,g,d,tk,os⟩:=s;obtain⟨hl,h⟩:=h;have hsub:=sub_enumerate;have hL:Heap.IsTuple (Shared.heap ⟨hp,g,d,tk,os⟩) l items:=⟨_,hl,rfl,n,rfl⟩
  wp_walk using wpAny_loadPart' hl
  refine wpAny_stack_any fun st=>O6 ?_;split
  ·rename_i c _ _ _ _ _;cases (c == Value.type "enumerate")
   ·wp_walk using wpAny_loadPart' hl, Q4 hL
    exact⟨_,rfl,h⟩
   ·wp_walk using wpAny_loadPart' hl, Q4 hL
    exact⟨_,rfl,h⟩
  ·wp_walk using wpAny_loadPart' hl, Q4 hL
   exact⟨_,rfl,h⟩
section
theorem yy{items:Array Value}(hL:s.heap.IsTuple l items)(h : ∀ h', IsEnum h' (s.heap.objs.size + 1) s.heap.objs.size 0 .none -> h'.IsTupleIter s.heap.objs.size l 0 -> h'.objs.size = s.heap.objs.size + 2 ->
   (∀b o,s.heap.get? b=some o->h'.get? b=some o)->Q (.ref (s.heap.objs.size+1)) {s with heap:=h'}):
  wpAny (model prog w) A (call (.type "enumerate") [.ref l]) Q E s:=by
 obtain⟨⟨c,dct,dt,sl⟩,hl,hc,n,hd⟩:=hL;replace hc:c=.type "tuple" := hc;replace hd:dt=.seq items n:=hd;subst hc hd;refine callType_new F.called_enumerate (by decide) (F.typeCall_enumerate_1 _) (F.newCall_enumerate_1 _) (fun obj=>F.args_object_init_2 obj _) F.entry_enumerate_new (wJ l items n dct sl) ⟨hl,?_⟩;have hz:(s.heap.push {cls:=.type "tuple_iterator",data:=.fields #[.ref l,.int 0 0]}).objs.size=s.heap.objs.size+1:=QM ..;show _/\_;rw[hz]
 have he:IsEnum ((s.heap.push {cls:=.type "tuple_iterator",data:=.fields #[.ref l,.int 0 0]}).push
   {cls:=.type "enumerate",data:=.fields #[.none,.bool false,.ref s.heap.objs.size,rawInt 0,.none,.none]}) (s.heap.objs.size+1) s.heap.objs.size 0 .none:=by
  have:=Pe (s.heap.push {cls:=.type "tuple_iterator",data:=.fields #[.ref l,.int 0 0]})
   (o:={cls:=.type "enumerate",data:=.fields #[.none,.bool false,.ref s.heap.objs.size,rawInt 0,.none,.none]}) rfl
  rw[hz]at this;exact this
 exact⟨⟨_,he,rfl⟩,h _ he ⟨_,O8 _ (Pe _ rfl),rfl,rfl⟩ (by rw[QM,hz]) fun b o x=>O8 _ (O8 _ x)⟩
end
end RS
namespace L2
open PySem PySem.Spec PyProof.Rows RS
def Sq(b:Bool)(K:W.Frag)(H:Hp)(a:Addr)(xs:List V):Prop:=if b=true then gB K H a xs else gL K H a xs
def Ng(b:Bool)(K:W.Frag)(a:Addr):It:=
 ⟨fun i H => ∃ xs x, Sq b K H a xs /\ xs[i]? = some x,
  fun i H x H'=>∃q y,x=.ref q/\H q=none/\H'=b9 H q (.tup [.int i,y])/\∀xs,Sq b K H a xs->xs[i]?=some y,
  fun i H=>∃xs,Sq b K H a xs/\xs.length=i⟩
def tf(b:Bool)(h:Heap)(it a:Addr)(i:Nat):Prop:=if b=true then h.IsListIter it a i else h.IsTupleIter it a i
theorem tf.obj{b:Bool}{h:Heap}(x:tf b h it a i):∃o,h.get? it=some o/\∀v,o.data≠.cell v:=by
 cases b with
 |true=>obtain⟨o,e,c,d⟩:=(show h.IsListIter it a i from x);exact⟨o,e,fun v z=>by rw[d]at z;cases z⟩
 |false=>obtain⟨o,e,c,d⟩:=(show h.IsTupleIter it a i from x);exact⟨o,e,fun v z=>by rw[d]at z;cases z⟩
theorem tf.keep{b:Bool}{h:Heap}(x:tf b h it a i)(k:∀o,h.get? it=some o->h'.get? it=some o):tf b h' it a i:=by
 cases b with
 |true=>obtain⟨o,e,r⟩:=(show h.IsListIter it a i from x);exact(show h'.IsListIter it a i from⟨o,k o e,r⟩)
 |false=>obtain⟨o,e,r⟩:=(show h.IsTupleIter it a i from x);exact(show h'.IsTupleIter it a i from⟨o,k o e,r⟩)
theorem wc{X:Cx}{b:Bool}{xs:List V}(I:aX X pins B H s)(hc:X.calm=true)(hq:Sq b X.K H a xs)(hne:a≠it):
  ∃(its:Array Value)(St:Nat->Heap->Prop),br xs its.toList/\Draws X.prog X.w X.A.in1 it [it,a] its.size (fun i v=>its[i]?=some v) St/\(∀i,tf b s.heap it a i->St i s.heap)/\∀i h,St i h->tf b h it a i:=by
 have hh:X.A.in1.handled=none:=by simpa using I.ok.hd hc
 cases b with
 |true=>
  obtain⟨its,rv,p,hz⟩:=I.list (show gB X.K H a xs from hq);exact⟨its.toArray,_,by simpa using rv,Draws.list hh it a hne its.toArray,fun i h=>⟨h,p.isList⟩,fun i h st=>st.1⟩
 |false=>
  obtain⟨its,rv,p,hz⟩:=I.tuple (show gL X.K H a xs from hq);exact⟨its.toArray,_,by simpa using rv,Kj hh it a hne its.toArray,fun i h=>⟨h,p⟩,fun i h st=>st.1⟩
theorem Ij{X:Cx}{b:Bool}{xs ys:List V}(I:aX X pins B H s)(h1:Sq b X.K H a xs)(h2:Sq b X.K H a ys):xs=ys:=by
 cases b with
 |true=>exact I.list_inj h1 h2
 |false=>exact I.tuple_inj h1 h2
theorem aX.turns{X:Cx}(I:aX X pins B H s)(k:∀b o,b∉ch->s.heap.get? b=some o->h'.get? b=some o)(hf:∀b∈ch,mC X pins H b):aX X pins B H {s with heap:=h',toks:=t'}:=by
 have nit:∀b u,H b=some u->b∉ch:=fun b u e z=>by rw[(hf b z).1]at e;cases e
 refine I.step (g':=s.gens) (d':=s.drawn) (ch:=ch) (fun b hb=>?_) (fun b o _ _ hc e _=>k b o hc e) (fun b o _ _ hc e _=>⟨o.slots,k b o hc e⟩) (fun _ _ _ _ n=>n)
  (fun b o hc e=>⟨o,k b o hc e⟩) (fun _ _ e=>e) (fun _ _ _ e=>e) (fun b ps e=>⟨#[],by rw[e];simp⟩) (fun m hm=>?_) (fun b u e=>?_) I.bare
 ·obtain⟨f0,f1,f2,f3,f4,f5⟩:=hf b hb;exact⟨f3,f1,f4,f5⟩
 ·obtain⟨o,es,ep,ho,r⟩:=hm;exact⟨o,es,ep,k _ o (fun z=>(hf _ z).2.1 rfl) ho,r⟩
 ·refine (I.hok b u e).stay (fun c v hc q => k c v ?_ q) (fun _ q => q) fun _ _ q => q;rcases hc with z|z
  ·rw[z];exact nit b u e
  ·exact nit c _ z
theorem zS{b:Bool}(a it e:Addr)(hei:e≠it)(hai:a≠it)(hae:a≠e):
  xu P w K (.Tuple elts k1 pos) (Ng b K a) [e,it] e (fun i h=>(∃old,IsEnum h e it (i:Nat) old)/\tf b h it a i) where
 mem:=by simp
 obj:=fun i h st x hx=>by
  obtain⟨⟨old,he⟩,hi⟩:=st;rcases OO.mp hx with rfl|hx
  ·exact⟨_,he,fun v z=>by cases z⟩
  ·rw[QS.mp hx];exact hi.obj
 keep:=fun i h h' st k=>by
  obtain⟨⟨old,he⟩,hi⟩:=st;exact⟨⟨old,k e (by simp) _ he⟩,hi.keep fun o eo=>k it (by simp) o eo⟩
 item:=by
  intro X hP hw hK hc i pins s B H E I hf st hg;subst hP hw hK;obtain⟨⟨old,he⟩,hi⟩:=st;obtain⟨xs,x,hq,hx⟩:=hg;obtain⟨its,St,rv,D,d1,d2⟩:=wc I hc hq hai;obtain⟨u,hu,ru⟩:=rv.get hx
  have hlt:i<its.size:=by
   have:=(OS.mp hu).1;simpa using this
  have hef:e ∉ [it,a]:=by
   simp only[OO,Q5,Q6,not_or];exact⟨hei,OP hae⟩
  obtain⟨f0,f1,f2,f3,f4,f5⟩:=hf e (by simp);obtain⟨g0,g1,g2,g3,g4,g5⟩:=hf it (by simp);have helt:e<s.heap.objs.size:=OC he;have hilt:it<s.heap.objs.size:=by obtain⟨o,eo,_⟩:=hi.obj;exact OC eo
  refine wpAny_pyNext_enum_itemD D he (d1 i hi) hlt hei hef fun y h' tk hy ho hst' ht hsz hk=>?_
  have ey:y=u:=by
   rw[<- Q7,hu]at hy;exact(Ou hy).symm
  subst ey;refine⟨_,rfl,?_⟩;refine wpAny_letOwnedTupleGo_enum (s:={s with heap:=h',toks:=tk+1}) ho fun h2 he2 hs2=>?_;replace hs2:Heap.SameBut e h' h2:=hs2;have hold:∀b o,b≠e->b≠it->s.heap.get? b=some o->h2.get? b=some o:=fun b o h1 h3 q=>(hs2.2 b h1).trans (hk b o h1 h3 q);have ht2:h2.get? s.heap.objs.size=some {cls:=.type "tuple",data:=.seq #[.int i tk,y]}:=(hs2.2 _ (Pb helt)).trans ht;have hqn:H s.heap.objs.size=none:=I.hok.fresh (Pf _)
  have I1:aX X pins B (b9 H s.heap.objs.size (.tup [.int i,x])) {s with heap:=s.heap.push {cls:=.type "tuple",data:=.seq #[.int i tk,y]},toks:=tk}:=by
   refine I.laid (t':=tk) (fun b o eo=>O8 _ eo) (Pf _) ?_;exact⟨by show 2<=sizeLine;decide,[.int i tk,y],.cons ⟨tk,rfl⟩ (.cons ru .nil),_,Pe _ rfl,rfl,0,rfl⟩
  have hne:∀b∈[e,it],b≠s.heap.objs.size:=fun b hb=>by
   rcases OO.mp hb with rfl|hb
   ·exact OF helt
   ·rw[QS.mp hb];exact OF hilt
  have hf':∀b∈[e,it],mC X pins (b9 H s.heap.objs.size (.tup [.int i,x])) b:=fun b hb=>by
   obtain⟨k0,k1⟩:=hf b hb;exact⟨by rw[aV (hne b hb)];exact k0,k1⟩
  have I2:aX X pins B (b9 H s.heap.objs.size (.tup [.int i,x])) {s with heap:=h2,toks:=tk+1}:=by
   refine aX.turns (s:={s with heap:=s.heap.push {cls:=.type "tuple",data:=.seq #[.int i tk,y]},toks:=tk}) I1 (ch:=[e,it]) (t':=tk+1) (fun b o hb eo=>?_) hf';simp only[OO,Q5,Q6,not_or]at hb;by_cases hbq:b=s.heap.objs.size
   ·subst hbq;have:=(Pe s.heap (o:={cls:=.type "tuple",data:=.seq #[.int i tk,y]}) rfl).symm.trans eo;rw[ht2];exact this
   ·have:s.heap.get? b=some o:=by
     rw[Q8 _ _ _ hbq]at eo;exact eo
    exact hold b o hb.1 hb.2 this
  refine⟨.ref s.heap.objs.size,_,I2,rfl,⟨_,x,rfl,hqn,rfl,fun ys hy=>by rw[Ij I hy hq];exact hx⟩,⟨⟨y,by simpa using he2⟩,?_⟩,fun b hb=>(hf' b hb).1⟩;refine(d2 (i+1) h' hst').keep fun o eo=>?_;exact(hs2.2 it (OP hei)).trans eo
 done:=by
  intro X hP hw hK hc i pins s B H E I hf st hg;subst hP hw hK;obtain⟨⟨old,he⟩,hi⟩:=st;obtain⟨xs,hq,hx⟩:=hg;obtain⟨its,St,rv,D,d1,d2⟩:=wc I hc hq hai
  have hil:its.size=i:=by
   have h1:=rv.length;have h2:its.toList.length=its.size:=OZ;omega
  subst hil;refine wpAny_pyNext_enum_endD D he (d1 _ hi) fun h' hx=>⟨rfl,?_⟩;refine I.turns (ch:=[e,it]) (t':=s.toks) (fun b o hb eo=>hx b o (fun z=>hb (by rw[z];simp)) eo) hf
 self:=fun _ _ _ _ _ st h=>by
  obtain⟨⟨old,he⟩,hi⟩:=st;exact wpAny_pyIter_enum he h
section
variable{X:Cx}
def α4(K:W.Frag)(ta:TA):TI:=fun B H R=>ta B H fun vs H1=>∃a b,vs=[.ref a]/\(∃xs,Sq b K H1 a xs)/\R (Ng b K a) H1
theorem Fo{a:Expr}{p tpos:Pos}(hg:Gl X "enumerate")(hm:X.mg "enumerate" = none)(ha:PA X [a] ta)(hs:starEach [a] X.env=[(false,eval a X.env)]:=by rfl):PI X (.Tuple elts k1 tpos) (.Call (.Name "enumerate" p) [a] [] pos) (α4 X.K ta):=by
 intro pins s B H R I h;refine Call_ (lX I hg hm (by rfl) (Pg (cY (ha pos pins s B H _ I h) fun us s1 ⟨vs,H1,I1,r1,q1⟩=>?_) hs rfl));obtain⟨l,b,e,⟨xs,hq⟩,q⟩:=q1;subst e;obtain⟨u,rfl,ru⟩:=eP r1;cases ru
 have fin:∀h',IsEnum h' (s1.heap.objs.size+1) s1.heap.objs.size 0 .none->tf b h' s1.heap.objs.size l 0->l<s1.heap.objs.size->h'.objs.size=s1.heap.objs.size+2->(∀b o,s1.heap.get? b=some o->h'.get? b=some o) ->
   wpAny (model X.prog X.w) X.A (pyIter (.ref (s1.heap.objs.size+1))) (MK X pins B (.Tuple elts k1 tpos) R) X.xe {s1 with heap:=h'}:=by
  intro h' he hi hl hsz hk;have I2:aX X pins B H1 {s1 with heap:=h'}:=I1.kept (t':=s1.toks) hk;refine wpAny_pyIter_enum he ?_;refine⟨_,[s1.heap.objs.size+1,s1.heap.objs.size],_,_,H1,rfl,I2,zS (b:=b) l s1.heap.objs.size (s1.heap.objs.size+1) (Nat.succ_ne_self _) (OF hl) (OF (QL hl)),⟨⟨.none,he⟩,hi⟩,fun b hb=>?_,q⟩;rcases OO.mp hb with rfl|hb
  ·exact I1.fpOk (Q9 _) (I1.hok.fresh (Q9 _))
  ·rw[QS.mp hb];exact I1.fpOk (Pf _) (I1.hok.fresh (Pf _))
 cases b with
 |true=>
  obtain⟨its,rv,pl,hz⟩:=I1.list (show gB X.K H1 l xs from hq);have hl:l<s1.heap.objs.size:=by obtain⟨o,eo,_⟩:=pl.isList;exact OC eo
  exact call_enumerate_list pl.isList fun h' he hi hsz hk=>fin h' he hi hl hsz hk
 |false=>
  obtain⟨its,rv,pl,hz⟩:=I1.tuple (show gL X.K H1 l xs from hq);have hl:l<s1.heap.objs.size:=by obtain⟨o,eo,_⟩:=pl;exact OC eo
  exact yy pl fun h' he hi hsz hk=>fin h' he hi hl hsz hk
end
end L2
namespace RS
open PySem
def A3(mask:Nat):Nat->Nat->Nat->List Nat
 |0,_,_=>[]
 |n+1,i,pe=>(List.range (SetTable.runEnd mask i+1-i)).map (i+·)++A3 mask n (SetTable.leap mask i pe).1 (SetTable.leap mask i pe).2
def eQ(mask:Nat)(h:Int):List Nat:=A3 mask (SetTable.turns mask) (SetTable.bits h%(mask+1)) (SetTable.bits h)
def iR(t:SetTable):Nat->SetTable.Probe->List Nat
 |0,_=>[]
 |n+1,p=>p.j::iR t n (t.advance p)
def mJ(mask i pe:Nat)(d:Option Nat):SetTable.Probe:={j:=i,more:=SetTable.runEnd mask i-i,i,perturb:=pe,dummy:=d}
theorem vk(t:SetTable):∀(m n:Nat)(p:SetTable.Probe),p.more=m ->
  iR t (m+1+n) p=(List.range (m+1)).map (p.j+·)++iR t n (mJ t.mask (SetTable.leap t.mask p.i p.perturb).1 (SetTable.leap t.mask p.i p.perturb).2 p.dummy)
 |0,n,p,h=>by
  have e:0+1+n=n+1:=by omega
  rw[e];show p.j::iR t n (t.advance p)=_
  have ea:t.advance p=mJ t.mask (SetTable.leap t.mask p.i p.perturb).1 (SetTable.leap t.mask p.i p.perturb).2 p.dummy:=by
   unfold SetTable.advance;rw[OB (by omega)];rfl
  rw[ea];simp
 |m+1,n,p,h=>by
  have e:m+1+1+n=(m+1+n)+1:=by omega
  rw[e];show p.j::iR t (m+1+n) (t.advance p)=_
  have ea:t.advance p={p with j:=p.j+1,more:=p.more-1}:=by
   unfold SetTable.advance;rw[OA (by omega)]
  rw[ea,vk t m n {p with j:=p.j+1,more:=p.more-1} (by show p.more-1=m;omega)];rw[Ra (n:=m+1),Qp,Rb];show p.j::((List.range (m+1)).map (p.j+1+·)++_)=(p.j+0)::(List.map _ _)++_;rw[Nat.add_zero];show p.j::(_++_)=p.j::(_++_);congr 2;apply Rc;intro a _;show p.j+1+a=p.j+(a+1);omega
theorem σ0(mask i:Nat):i<=SetTable.runEnd mask i/\SetTable.runEnd mask i<=i+9:=by
 unfold SetTable.runEnd;split <;> omega
theorem vh(t:SetTable):∀(n i pe:Nat)(d:Option Nat),iR t (A3 t.mask n i pe).length (mJ t.mask i pe d)=A3 t.mask n i pe
 |0,_,_,_=>rfl
 |n+1,i,pe,d=>by
  have hr:=σ0 t.mask i;show iR t ((List.range (SetTable.runEnd t.mask i+1-i)).map (i+·)++_).length _=_;rw[PY,PZ,Re];have e:SetTable.runEnd t.mask i+1-i=(SetTable.runEnd t.mask i-i)+1:=by omega
  rw[e,vk t (SetTable.runEnd t.mask i-i) _ (mJ t.mask i pe d) rfl];show _++iR t (A3 t.mask n (SetTable.leap t.mask i pe).1 (SetTable.leap t.mask i pe).2).length (mJ t.mask (SetTable.leap t.mask i pe).1 (SetTable.leap t.mask i pe).2 d)=_;rw[vh t n];show _=(List.range (SetTable.runEnd t.mask i+1-i)).map (i+·)++_;rw[e];rfl
theorem yZ(mask:Nat):∀(n i pe:Nat),(A3 mask n i pe).length<=10*n
 |0,_,_=>QR _
 |n+1,i,pe=>by
  have hr:=σ0 mask i;have ih:=yZ mask n (SetTable.leap mask i pe).1 (SetTable.leap mask i pe).2;show ((List.range (SetTable.runEnd mask i+1-i)).map (i+·)++_).length<=_;rw[PY,PZ,Re];omega
theorem zr(t:SetTable)(hashAt:Nat->Int)(h:Int):∀(pre:List Nat)(j:Nat)(post:List Nat)(fuel:Nat)(p:SetTable.Probe),iR t (pre.length+1+post.length) p=pre++j::post->pre.length<fuel->p.dummy=none ->
  (∀k∈pre,∃i,t.slot k=.live i/\hashAt i≠h) ->
  (t.slot j=.empty->SetTable.probe.go t hashAt h fuel p=some (.empty j none))/\(∀i,t.slot j=.live i->hashAt i=h->∃nx,SetTable.probe.go t hashAt h fuel p=some (.candidate j i nx))
 |[],j,post,0,p,_,hf,_,_=>by simp at hf
 |[],j,post,fuel+1,p,hw,_,hd,_=>by
  have ew:iR t (([]:List Nat).length+1+post.length) p=p.j::iR t post.length (t.advance p):=by
   rw[Rf,show 0+1+post.length=post.length+1 from by omega];rfl
  rw[ew,QE]at hw;have ej:p.j=j:=(Rg hw).1;refine⟨fun he=>?_,fun i hl hh=>?_⟩
  ·show (match t.slot p.j with | .empty=>_ | .dummy=>_ | .live i=>_)=_;rw[ej,he,hd]
  ·refine⟨t.advance p,?_⟩;show (match t.slot p.j with | .empty=>_ | .dummy=>_ | .live i=>_)=_;rw[ej,hl];show (if (hashAt i == h)=true then _ else _)=_;rw[OA (by simpa using hh)]
 |x::pre,j,post,0,p,_,hf,_,_=>by simp at hf
 |x::pre,j,post,fuel+1,p,hw,hf,hd,hp=>by
  have ew:iR t ((x::pre).length+1+post.length) p=p.j::iR t (pre.length+1+post.length) (t.advance p):=by
   rw[QJ,show pre.length+1+1+post.length=(pre.length+1+post.length)+1 from by omega];rfl
  rw[ew,Rh]at hw;have ej:p.j=x:=(Rg hw).1;have er:=(Rg hw).2;obtain⟨i,hl,hne⟩:=hp x OL
  have hda:(t.advance p).dummy=none:=by
   unfold SetTable.advance;split
   ·exact hd
   ·exact hd
  have ih:=zr t hashAt h pre j post fuel (t.advance p) er (by rw[QJ]at hf;omega) hda (fun k hk=>hp k (OM _ hk))
  have eg:SetTable.probe.go t hashAt h (fuel+1) p=SetTable.probe.go t hashAt h fuel (t.advance p):=by
   show (match t.slot p.j with | .empty=>_ | .dummy=>_ | .live i=>_)=_;rw[ej,hl];show (if (hashAt i == h)=true then _ else _)=_;rw[OB (by simpa using hne)]
  rw[eg];exact ih
def D4(xs:List Nat):Prop:=xs.Pairwise (·<·)
theorem qv(xs:Array Nat)(j:Nat):∀(fuel lo hi:Nat),lo<=hi->hi<=xs.size->hi-lo<=fuel->(∀i k,i<k->k<xs.size->xs.getD i j<xs.getD k j)->(∀i,i<lo->xs.getD i j<j)->(∀i,hi<=i->i<xs.size->j<=xs.getD i j) ->
  let b:=SetTable.below.go xs j fuel lo hi
  b<=xs.size/\(∀i,i<b->xs.getD i j<j)/\(∀i,b<=i->i<xs.size->j<=xs.getD i j)
 |0,lo,hi,h1,h2,h3,hr,ha,hb=>by
  have e:lo=hi:=by omega
  subst e;exact⟨h2,ha,hb⟩
 |fuel+1,lo,hi,h1,h2,h3,hr,ha,hb=>by
  by_cases hlt:lo<hi
  ·simp only [SetTable.below.go, hlt, Qg];by_cases hc:xs.getD ((lo+hi) / 2) j<j
   ·rw [OA hc];refine qv xs j fuel _ hi (by omega) h2 (by omega) hr (fun i hi'=>?_) hb;by_cases e:i=(lo+hi) / 2
    ·rw[e];exact hc
    ·have:=hr i ((lo+hi) / 2) (by omega) (by omega);omega
   ·rw [OB hc];refine qv xs j fuel lo _ (by omega) (by omega) (by omega) hr ha (fun i hi' hs=>?_);by_cases e:i=(lo+hi) / 2
    ·rw[e];omega
    ·have:=hr ((lo+hi) / 2) i (by omega) hs;omega
  ·have e : lo = hi := by omega
   subst e;simp only[SetTable.below.go,hlt,Qf];exact⟨h2,ha,hb⟩
theorem tP{xs:Array Nat}(h:D4 xs.toList)(j:Nat):∀i k,i<k->k<xs.size->xs.getD i j<xs.getD k j:=fun i k hik hk=>by
 have hi:i<xs.size:=by omega
 have:=List.pairwise_iff_getElem.mp h i k (by simpa using hi) (by simpa using hk) hik;simpa[Array.getD,hi,hk] using this
theorem ma{xs:Array Nat}(h:D4 xs.toList)(j:Nat):SetTable.below xs j<=xs.size/\(∀i,i<SetTable.below xs j->xs.getD i j<j)/\(∀i,SetTable.below xs j<=i->i<xs.size->j<=xs.getD i j):=
 qv xs j xs.size 0 xs.size (QR _) (Pf _) (by omega) (tP h j) (fun i hi=>by omega) (fun i h1 h2=>by omega)
theorem A1{xs:Array Nat}(h:D4 xs.toList)(e:xs[i]?=some j):SetTable.below xs j=i:=by
 obtain⟨h1,h2,h3⟩:=ma h j
 have hi:i<xs.size:=by
  rcases Ri.mp e with⟨q,_⟩;exact q
 have ei:xs.getD i j=j:=by
  rcases Ri.mp e with⟨q,z⟩
  simp[Array.getD,hi,z]
 by_cases hlt:SetTable.below xs j<i
 ·have a:=h3 (SetTable.below xs j) (Pf _) (by omega);have b:=tP h j (SetTable.below xs j) i hlt hi;omega
 ·by_cases hgt : i < SetTable.below xs j
  ·have:=h2 i hgt;omega
  ·omega
theorem jU{J:Type}(xs:Array J)(p:Nat)(x:J):(SetTable.insertAt xs p x).toList=xs.toList.take p++x::xs.toList.drop p:=by
 unfold SetTable.insertAt;simp[Rj]
theorem l7{J:Type}(p:J->Prop):∀(l:List J),(∃x∈l,p x)->∃pre x post,l=pre++x::post/\p x/\∀y∈pre,¬ p y
 |[],h=>by obtain⟨x,hx,_⟩:=h;simp at hx
 |a::l,h=>by
  by_cases ha:p a
  ·exact⟨[],a,l,rfl,ha,fun y hy=>by simp at hy⟩
  ·obtain ⟨x, hx, px⟩ := h;rcases OO.mp hx with z|z
   ·rw[z]at px;exact absurd px ha
   ·obtain ⟨pre, y, post, e, py, hp⟩ := l7 p l ⟨x, z, px⟩;refine⟨a::pre,y,post,by rw[e];rfl,py,fun w hw=>?_⟩;rcases OO.mp hw with q|q
    ·rw[q];exact ha
    ·exact hp w q
structure uI(t:SetTable)(es:Array (Int×Value))(ρ:List (Nat×Int×Value)):Prop where
 place:t.place.toList=ρ.map (·.1)
 ents:es.toList=ρ.map (·.2)
 ris:D4 (ρ.map (·.1))
 top:∀z∈ρ,z.1<=t.mask
 dum:t.dummies=#[]
 reach:∀z∈ρ,∃pre post,eQ t.mask z.2.1=pre++z.1::post/\∀k∈pre,k∈ρ.map (·.1)
theorem uI.size(T:uI t es ρ):t.place.size=ρ.length/\es.size=ρ.length:=by
 have a:=O0 List.length T.place;have b:=O0 List.length T.ents;simp at a b;exact⟨a,b⟩
theorem uI.fill(T:uI t es ρ):t.fill=ρ.length:=by
 unfold SetTable.fill;rw[T.size.1,T.dum];rfl
theorem sy(j:Nat):SetTable.has #[] j=false:=by
 unfold SetTable.has;simp
theorem uI.slot_empty(T:uI t es ρ)(h:j∉ρ.map (·.1)):t.slot j=.empty:=by
 unfold SetTable.slot
 have hn:¬ (t.place[SetTable.below t.place j]? == some j)=true:=by
  intro e;have e':t.place[SetTable.below t.place j]?=some j:=by simpa using e
  apply h;rw[<- T.place];rw[<- Q7]at e';exact PX e'
 simp only[hn,T.dum,sy];rfl
theorem uI.slot_live(T:uI t es ρ)(h:ρ[i]?=some z):t.slot z.1=.live i:=by
 have e:t.place[i]?=some z.1:=by
  rw[<- Q7,T.place,PU,h];rfl
 have r:D4 t.place.toList:=by rw[T.place];exact T.ris
 have eb:=A1 r e;unfold SetTable.slot;have hc:(t.place[SetTable.below t.place z.1]? == some z.1)=true:=by rw[eb,e];simp
 simp only[hc,Qg];rw[eb]
theorem uI.hashAt(T:uI t es ρ)(h:ρ[i]?=some z):es[i]?=some z.2:=by
 rw[<- Q7,T.ents,PU,h];rfl
theorem mT{J:Type}:∀{l1 l2:List J},l1.Nodup->(∀x∈l1,x∈l2)->l1.length<=l2.length
 |[],_,_,_=>QR _
 |a::r,l2,hn,hs=>by
  obtain⟨s,t,e⟩:=List.append_of_mem (hs a OL);have hn':=Pz.mp hn
  have ih:=mT (l1:=r) (l2:=s++t) hn'.2 (fun x hx=>by
   have hx2:=hs x (OM _ hx);rw[e]at hx2;rcases OQ.mp hx2 with q|q
   ·exact OR _ q
   ·rcases OO.mp q with q | q
    ·rw[q]at hx;exact absurd hx hn'.1
    ·exact Pi _ q)
  rw[e,PY,QJ,QJ];rw[PY]at ih;omega
theorem yY(mask:Nat):∀(n i pe:Nat),i<=mask->∀j∈A3 mask n i pe,j<=mask
 |0,_,_,_,j,h=>by simp[A3]at h
 |n+1,i,pe,hi,j,h=>by
  rcases OQ.mp h with q|q
  ·obtain ⟨k, hk, e⟩ := Rk.mp q;have hk':=OH.mp hk;have:SetTable.runEnd mask i<=mask:=by unfold SetTable.runEnd;split <;> omega
   have e':i+k=j:=e;omega
  ·refine yY mask n _ _ ?_ j q;show (i*5+1+pe / 32)%(mask+1)<=mask;exact Nat.le_of_lt_succ (Nat.mod_lt _ (Nat.succ_pos mask))
theorem k6{h:Int}(e:j∈eQ mask h):j<=mask:=by
 refine yY mask _ _ _ ?_ j e;exact Nat.le_of_lt_succ (Nat.mod_lt _ (Nat.succ_pos mask))
theorem AK{m:Nat}{l:List Nat}(h:l.length<=m):∃j,j<=m/\j∉l:=by
 refine Rm fun hn=>?_
 have hall:∀j∈List.range (m+1),j∈l:=fun j hj=>by
  refine Rm fun hj'=>hn ⟨j,?_,hj'⟩;have:=OH.mp hj;omega
 have:=mT (Rn (n:=m+1)) hall;rw[Re]at this;omega
theorem uI.search(T:uI t es ρ){h:Int}(cov:∀j,j<=t.mask->j∈eQ t.mask h)(hz:ρ.length<=t.mask)(hA:Nat->Int)(hAe:∀i z,ρ[i]?=some z->hA i=z.2.1):
  (∃i z nx,ρ[i]?=some z/\z.2.1=h/\t.probe hA h (t.probeStart h)=some (.candidate z.1 i nx)) \/
  ((∀z∈ρ,z.2.1≠h)/\∃j pre post,t.probe hA h (t.probeStart h)=some (.empty j none)/\j<=t.mask/\j∉ρ.map (·.1)/\eQ t.mask h=pre++j::post/\∀k∈pre,k∈ρ.map (·.1)):=by
 obtain⟨j0,hj0,hn0⟩:=AK (m:=t.mask) (l:=ρ.map (·.1)) (by rw[PZ];exact hz);obtain⟨pre,j,post,e,hs,hp⟩:=l7 (fun j=>j∉ρ.map (·.1)\/∃z∈ρ,z.1=j/\z.2.1=h) (eQ t.mask h) ⟨j0,cov j0 hj0,.inl hn0⟩
 have hw:iR t (pre.length+1+post.length) (t.probeStart h)=pre++j::post:=by
  have q:=vh t (SetTable.turns t.mask) (SetTable.bits h%(t.mask+1)) (SetTable.bits h) none
  have el:(A3 t.mask (SetTable.turns t.mask) (SetTable.bits h%(t.mask+1)) (SetTable.bits h)).length=pre.length+1+post.length:=by
   show (eQ t.mask h).length=_;rw[e,PY,QJ];omega
  rw[el]at q;exact q.trans e
 have hlen:pre.length<10*SetTable.turns t.mask:=by
  have q:=yZ t.mask (SetTable.turns t.mask) (SetTable.bits h%(t.mask+1)) (SetTable.bits h)
  have el:(A3 t.mask (SetTable.turns t.mask) (SetTable.bits h%(t.mask+1)) (SetTable.bits h)).length=pre.length+1+post.length:=by
   show (eQ t.mask h).length=_;rw[e,PY,QJ];omega
  omega
 have occ:∀k∈pre,k∈ρ.map (·.1):=fun k hk=>by
  refine Rm fun q=>hp k hk (.inl q)
 have hpre:∀k∈pre,∃i,t.slot k=.live i/\hA i≠h:=fun k hk=>by
  obtain⟨z,hzm,ez⟩:=Rk.mp (occ k hk);obtain⟨i,hi⟩:=Rp hzm;refine⟨i,ez ▸ T.slot_live hi,fun q=>hp k hk (.inr ⟨z,hzm,ez,?_⟩)⟩;rw[<- hAe i z hi];exact q
 obtain⟨g1,g2⟩:=zr t hA h pre j post (10*SetTable.turns t.mask) (t.probeStart h) hw hlen rfl hpre;by_cases hany:∃z∈ρ,z.2.1=h
 ·obtain ⟨z, hzm, ez⟩ := hany;obtain⟨pz,qz,ezz,hoz⟩:=T.reach z hzm;rw[ez]at ezz
  have hjo:j∈ρ.map (·.1):=by
   have e2:pre++j::post=pz++z.1::qz:=by rw[<- e,<- ezz]
   rcases List.append_eq_append_iff.mp e2 with⟨a,h1,h2⟩|⟨c,h1,h2⟩
   ·cases a with
    |nil=>
     simp only[QE]at h2;rw[(Rg h2).1];exact Rq hzm
    |cons x a=>
     rw[Rh]at h2;have:j∈pz:=by rw[h1,(Rg h2).1];simp
     exact hoz j this
   ·cases c with
    |nil=>
     simp only[QE]at h2;rw[<- (Rg h2).1];exact Rq hzm
    |cons x c=>
     rw[Rh]at h2;have:z.1∈pre:=by rw[h1,(Rg h2).1];simp
     exact absurd (.inr ⟨z,hzm,rfl,ez⟩) (hp z.1 this)
  rcases hs with q|⟨z',hz',e1,e2⟩
  ·exact absurd hjo q
  ·obtain⟨i,hi⟩:=Rp hz';obtain⟨nx,en⟩:=g2 i (e1 ▸ T.slot_live hi) (by rw[hAe i z' hi];exact e2);exact .inl ⟨i,z',nx,hi,e2,by rw[e1];exact en⟩
 ·have hno : ∀ z ∈ ρ, z.2.1 ≠ h := fun z hz' e' => hany ⟨z, hz', e'⟩;rcases hs with q|⟨z',hz',e1,e2⟩
  ·have hjm:j<=t.mask:=k6 (h:=h) (by rw[e];simp);exact .inr ⟨hno,j,pre,post,g1 (T.slot_empty q),hjm,q,e,occ⟩
  ·exact absurd e2 (hno z' hz')
theorem xZ{l:List Nat}{p:Nat}(h:D4 l)(h1:∀x∈l.take p,x<j)(h2:∀x∈l.drop p,j<x):D4 (l.take p++j::l.drop p):=by
 unfold D4 at *;have h':(l.take p++l.drop p).Pairwise (·<·):=by rw[Rt];exact h
 rw[List.pairwise_append]at h'⊢;refine⟨h'.1,Ru.mpr ⟨fun x hx=>h2 x hx,h'.2.1⟩,fun a ha b hb=>?_⟩;rcases OO.mp hb with q|q
 ·rw[q];exact h1 a ha
 ·exact h'.2.2 a ha b q
theorem uI.put(T:uI t es ρ){h:Int}{x:Value}{pre post:List Nat}(hj:j<=t.mask)(hn:j∉ρ.map (·.1))(e:eQ t.mask h=pre++j::post)(hp:∀k∈pre,k∈ρ.map (·.1)):
  ∃ρ',uI (t.put j).1 (SetTable.insertAt es (t.put j).2 (h,x)) ρ'/\ρ'.Perm ((j,h,x)::ρ)/\(t.put j).1={t with place:=SetTable.insertAt t.place (SetTable.below t.place j) j}:=by
 have e1:(t.put j).1={t with place:=SetTable.insertAt t.place (SetTable.below t.place j) j}:=by
  unfold SetTable.put;simp only[T.dum,sy];rw[OB Pm]
 have e2:(t.put j).2=SetTable.below t.place j:=rfl;have r:D4 t.place.toList:=by rw[T.place];exact T.ris
 obtain⟨b1,b2,b3⟩:=ma r j;generalize hb:SetTable.below t.place j=p at *;refine⟨ρ.take p++(j,h,x)::ρ.drop p,⟨?_,?_,?_,fun z hz=>?_,by rw[e1];exact T.dum,fun z hz=>?_⟩,?_,e1⟩
 ·rw[e1];show (SetTable.insertAt t.place p j).toList=_;rw[jU,T.place,Rv,Qp,Rx,Ry]
 ·rw[e2,jU,T.ents,Rv,Qp,Rx,Ry]
 ·rw [Rv, Qp, Rx, Ry];have hlen:t.place.size=(ρ.map (·.1)).length:=by rw[<- T.place];simp
  refine xZ T.ris (fun y hy=>?_) (fun y hy=>?_)
  ·obtain ⟨i, hi⟩ := Rp hy;rw[List.getElem?_take]at hi;split at hi
   ·rename_i hlt;have q:=b2 i hlt;rw[<- T.place,Q7]at hi;simp only[Rz,hi,RA]at q;exact q
   ·cases hi
  ·obtain⟨i,hi⟩:=Rp hy;rw[List.getElem?_drop]at hi;have hmem:y∈ρ.map (·.1):=PX hi;rw[<- T.place,Q7]at hi;have hlt:p+i<t.place.size:=(Ri.mp hi).1;have q:=b3 (p+i) (by omega) hlt;simp only[Rz,hi,RA]at q;have:y≠j:=fun ey=>hn (ey ▸ hmem);omega
 ·rw [e1];show z.1<=t.mask;rcases OQ.mp hz with q|q
  ·exact T.top z (RB q)
  ·rcases OO.mp q with q | q
   ·rw[q];exact hj
   ·exact T.top z (RC q)
 ·rw [e1];show ∃pre post,eQ t.mask z.2.1=pre++z.1::post/\_
  have sub:∀k∈ρ.map (·.1),k∈(ρ.take p++(j,h,x)::ρ.drop p).map (·.1):=fun k hk=>by
   rw[<- Rt p ρ,Rv]at hk;rw[Rv,Qp];rcases OQ.mp hk with q|q
   ·exact OR _ q
   ·exact Pi _ (OM _ q)
  have old:∀z∈ρ,∃pre post,eQ t.mask z.2.1=pre++z.1::post/\∀k∈pre,k∈(ρ.take p++(j,h,x)::ρ.drop p).map (·.1):=fun z hz=>by
   obtain⟨a,b,c,d⟩:=T.reach z hz;exact⟨a,b,c,fun k hk=>sub k (d k hk)⟩
  rcases OQ.mp hz with q|q
  ·exact old z (RB q)
  ·rcases OO.mp q with q | q
   ·rw[q];exact⟨pre,post,e,fun k hk=>sub k (hp k hk)⟩
   ·exact old z (RC q)
 ·have q:(ρ.take p++(j,h,x)::ρ.drop p).Perm ((j,h,x)::(ρ.take p++ρ.drop p)):=List.perm_middle;rw[Rt]at q;exact q
theorem sC(mask:Nat)(owner:Array (Option Nat)):∀(n i pe:Nat),
  SetTable.layClean.free mask owner n i pe=(A3 mask n i pe).find? fun j=>(owner.getD j (some 0)).isNone
 |0,_,_=>rfl
 |n+1,i,pe=>by
  show (match (List.range (SetTable.runEnd mask i+1-i)).find? fun k=>(owner.getD (i+k) (some 0)).isNone with|some k=>_|none=>_)=_;show _=((List.range (SetTable.runEnd mask i+1-i)).map (i+·)++A3 mask n (SetTable.leap mask i pe).1 (SetTable.leap mask i pe).2).find? _;rw[List.find?_append,List.find?_map,<- sC mask owner n];have ec:((fun j=>(owner.getD j (some 0)).isNone) ∘ fun x=>i+x)=fun k=>(owner.getD (i+k) (some 0)).isNone:=rfl;rw[ec];cases (List.range (SetTable.runEnd mask i+1-i)).find? fun k=>(owner.getD (i+k) (some 0)).isNone with
  |some k=>rfl
  |none=>rfl
structure Hk(mask:Nat)(hs:List Int)(owner:Array (Option Nat)):Prop where
 size:owner.size=mask+1
 all:∀(i:Nat)(h:Int),hs[i]?=some h->∃j:Nat,j<=mask/\owner[j]?=some (some i)/\∃pre post,eQ mask h=pre++j::post/\∀k∈pre,∃i':Nat,owner[k]?=some (some i')
 lt:∀(j i:Nat),owner[j]?=some (some i)->i<hs.length
 inj:∀(j j' i:Nat),owner[j]?=some (some i)->owner[j']?=some (some i)->j=j'
theorem FA(mask:Nat):Hk mask [] (Array.replicate (mask+1) none):=by
 have hno:∀(j i:Nat),(Array.replicate (mask+1) (none:Option Nat))[j]?≠some (some i):=fun j i e=>by
  rw[Array.getElem?_replicate]at e;split at e <;> cases e
 exact⟨by simp,fun i h e=>by simp at e,fun j i e=>absurd e (hno j i),fun j j' i e=>absurd e (hno j i)⟩
theorem Dj(O:Hk mask hs owner)(hl:hs.length<=mask):∃j,j<=mask/\owner[j]?=some none:=by
 refine Rm fun hn=>?_
 have hall:∀j,j<=mask->∃i,owner[j]?=some (some i):=fun j hj=>by
  have hs':j<owner.size:=by rw[O.size];omega
  cases e:owner[j]? with
  |none=>rw[RD]at e;omega
  |some o=>
   cases o with
   |none=>exact absurd ⟨j,hj,e⟩ hn
   |some i=>exact⟨i,rfl⟩
 have key:∀n,n<=mask+1->∃l:List Nat,l.length=n/\l.Nodup/\(∀i∈l,i<hs.length)/\∀i∈l,∃j,j<n/\owner[j]?=some (some i):=by
  intro n
  induction n with
  |zero=>exact fun _=>⟨[],rfl,RE,fun _ h=>by simp at h,fun _ h=>by simp at h⟩
  |succ n ih=>
   intro hn';obtain⟨l,h1,h2,h3,h4⟩:=ih (by omega);obtain⟨i,hi⟩:=hall n (by omega);refine⟨i::l,by rw[QJ,h1],Pz.mpr ⟨fun hm=>?_,h2⟩,fun x hx=>?_,fun x hx=>?_⟩
   ·obtain⟨j,hj,ej⟩:=h4 i hm;have:=O.inj j n i ej hi;omega
   ·rcases OO.mp hx with q | q
    ·rw[q];exact O.lt n i hi
    ·exact h3 x q
   ·rcases OO.mp hx with q | q
    ·rw[q];exact⟨n,by omega,hi⟩
    ·obtain⟨j,hj,ej⟩:=h4 x q;exact⟨j,by omega,ej⟩
 obtain⟨l,h1,h2,h3,_⟩:=key (mask+1) (Pf _);have:=mT h2 (l2:=List.range hs.length) (fun x hx=>OH.mpr (h3 x hx));rw[Re,h1]at this;omega
theorem Di{h:Int}(O:Hk mask hs owner)(hl:hs.length<=mask)(cov:∀j,j<=mask->j∈eQ mask h):
  ∃j,SetTable.layClean.free mask owner (SetTable.turns mask) (SetTable.bits h%(mask+1)) (SetTable.bits h)=some j/\Hk mask (hs++[h]) (owner.setIfInBounds j (some hs.length)):=by
 obtain⟨j0,hj0,e0⟩:=Dj O hl
 have none_iff:∀j,((owner.getD j (some 0)).isNone=true)↔owner[j]?=some none:=fun j=>by
  rw[Rz];cases owner[j]? with
  |none=>simp
  |some o=>cases o <;> simp
 obtain⟨pre,j,post,e,hs',hp⟩:=l7 (fun j=>owner[j]?=some none) (eQ mask h) ⟨j0,cov j0 hj0,e0⟩;have hjm:j<=mask:=k6 (h:=h) (by rw[e];simp);have hjs:j<owner.size:=by rw[O.size];omega
 have hocc:∀k∈pre,∃i',owner[k]?=some (some i'):=fun k hk=>by
  have hkm:k<=mask:=k6 (h:=h) (by rw[e];simp[hk]);cases q:owner[k]? with
  |none=>
   rw[RD,O.size]at q;omega
  |some o=>
   cases o with
   |none=>exact absurd q (hp k hk)
   |some i=>exact⟨i,rfl⟩
 have hset:∀k,(owner.setIfInBounds j (some hs.length))[k]?=if j=k then some (some hs.length) else owner[k]?:=fun k=>by
  rw[Array.getElem?_setIfInBounds];by_cases q:j=k
  ·rw[OA q,OA q,OA hjs]
  ·rw[OB q,OB q]
 have keep:∀k i',owner[k]?=some (some i')->(owner.setIfInBounds j (some hs.length))[k]?=some (some i'):=fun k i' q=>by
  rw[hset,OB]
  ·exact q
  ·intro ej;rw[<- ej,hs']at q;cases q
 refine⟨j,?_,by simp[O.size],fun i h' ei=>?_,fun k i ei=>?_,fun k k' i e1 e2=>?_⟩
 ·rw [sC];show (eQ mask h).find? _=some j;rw[e,List.find?_append]
  have e1:pre.find? (fun j=>(owner.getD j (some 0)).isNone)=none:=by
   rw[List.find?_eq_none];intro k hk q;exact hp k hk ((none_iff k).mp q)
  simp only[e1,Option.none_or,List.find?_cons,(none_iff j).mpr hs']
 ·by_cases hi : i < hs.length
  ·rw[PR hi]at ei;obtain⟨j',a1,a2,pr,po,a3,a4⟩:=O.all i h' ei;exact⟨j',a1,keep j' i a2,pr,po,a3,fun k hk=>(a4 k hk).elim fun i' q=>⟨i',keep k i' q⟩⟩
  ·have hi':i=hs.length:=by
    have:=(OS.mp ei).1;simp at this;omega
   subst hi';rw[PN (Pf _),RF]at ei;have eh:h=h':=by simpa using ei
   subst eh;exact⟨j,hjm,by rw[hset,OA rfl],pre,post,e,fun k hk=>(hocc k hk).elim fun i' q=>⟨i',keep k i' q⟩⟩
 ·rw [hset] at ei;rw[PY,QC];split at ei
  ·cases ei;omega
  ·have:=O.lt k i ei;omega
 ·rw [hset] at e1 e2;split at e1
  ·rename_i q1;cases e1;split at e2
   ·rename_i q2;rw[<- q1,q2]
   ·have:=O.lt k' _ e2;omega
  ·split at e2
   ·cases e2;have:=O.lt k _ e1;omega
   ·exact O.inj k k' i e1 e2
theorem vG{mask:Nat}:∀(hs0 hs1:List Int)(owner:Array (Option Nat)),Hk mask hs0 owner->hs0.length+hs1.length<=mask+1->(∀h∈hs1,∀j,j<=mask->j∈eQ mask h) ->
  ∃owner',hs1.foldl (fun(acc:Option (Array (Option Nat)×Nat)) h=>do
   let (owner,k) <- acc
   let j <- SetTable.layClean.free mask owner (SetTable.turns mask) (SetTable.bits h%(mask+1)) (SetTable.bits h)
   pure (owner.setIfInBounds j (some k),k+1)) (some (owner,hs0.length))=some (owner',(hs0++hs1).length)/\Hk mask (hs0++hs1) owner'
 |hs0,[],owner,O,_,_=>⟨owner,by simp,by simpa using O⟩
 |hs0,h::hs1,owner,O,hl,cov=>by
  rw[QJ]at hl;obtain⟨j,ej,O'⟩:=Di (h:=h) O (by omega) (cov h OL);obtain⟨ow,e1,e2⟩:=vG (hs0++[h]) hs1 _ O' (by rw[PY,QC];omega) (fun x hx=>cov x (OM _ hx));rw[Qy,List.singleton_append]at e1 e2;refine⟨ow,?_,e2⟩;rw[QA];show List.foldl _ ((SetTable.layClean.free mask owner (SetTable.turns mask) (SetTable.bits h%(mask+1)) (SetTable.bits h)).bind fun j=>some (owner.setIfInBounds j (some hs0.length),hs0.length+1)) hs1=_;rw[ej];show List.foldl _ (some (owner.setIfInBounds j (some hs0.length),hs0.length+1)) hs1=_;rw[PY,QC]at e1;exact e1
theorem vC{J:Type}:∀l:List J,(List.range l.length).filterMap (fun i=>l[i]?)=l
 |[]=>rfl
 |a::l=>by
  rw[QJ,Ra,OK];show a::List.filterMap _ _=_;rw[List.filterMap_map];show a::List.filterMap (fun i=>l[i]?) _=_;rw[vC l]
theorem F2(hl:hs.length<=mask+1)(cov:∀h∈hs,∀j,j<=mask->j∈eQ mask h):∃owner,SetTable.layClean mask hs.toArray=some owner/\Hk mask hs owner:=by
 obtain⟨ow,e1,e2⟩:=vG [] hs _ (FA mask) (by rw[Rf,Nat.zero_add];exact hl) cov;refine⟨ow,?_,by simpa using e2⟩;unfold SetTable.layClean;rw[List.foldl_toArray']
 ·show Option.map (·.1) (hs.foldl _ (some (Array.replicate (mask+1) none,([]:List Int).length)))=_;rw[e1];rfl
 ·simp
theorem ya{wanted:Nat}(hm:SetTable.sizeAbove wanted-1=mask)(hl:es.size<=mask)(cov:∀e∈es.toList,∀j,j<=mask->j∈eQ mask e.1):
  ∃t' order ρ',t.relaid (es.map (·.1)) wanted=some (t',order)/\uI t' (order.filterMap (es[·]?)) ρ'/\(ρ'.map (·.2)).Perm es.toList/\t'.mask=mask/\t'.led=t.led/\t'.plain=t.plain/\order.toList.Perm (List.range es.size):=by
 have ea:es.map (·.1)=(es.toList.map (·.1)).toArray:=by rw[<- Array.toList_map]
 obtain⟨ow,e1,O⟩:=F2 (mask:=mask) (hs:=es.toList.map (·.1)) (by simp;omega) (fun h hh=>by
  obtain⟨e,he,q⟩:=Rk.mp hh
  rw[<- q];exact cov e he)
 let live:List (Nat×Nat):=(List.range (mask+1)).filterMap fun j=>(ow.getD j none).map (j,·)
 have hlive:∀j i,(j,i)∈live↔(j<=mask/\ow[j]?=some (some i)):=fun j i=>by
  simp only[live,Ph,OH];constructor
  ·rintro ⟨k, hk, q⟩
   rw[Rz]at q;cases e:ow[k]? with
   |none=>rw[e]at q;cases q
   |some o=>
    rw[e]at q;cases o with
    |none=>cases q
    |some i'=>
     simp only[RA,Option.map_some,RG,Prod.mk.injEq]at q;obtain⟨q1,q2⟩:=q;subst q1;subst q2;exact⟨by omega,e⟩
  ·rintro ⟨hj, e⟩
   refine⟨j,by omega,?_⟩;rw[Rz,e];rfl
 have hfst:(live.map (·.1)).Pairwise (·<·):=by
  have gen:∀(l:List Nat),l.Pairwise (·<·)->((l.filterMap fun j=>(ow.getD j none).map (j,·)).map (·.1)).Pairwise (·<·)/\∀x∈((l.filterMap fun j=>(ow.getD j none).map (j,·)).map (·.1)),x∈l:=by
   intro l
   induction l with
   |nil=>intro _;exact⟨List.Pairwise.nil,fun x hx=>by simp at hx⟩
   |cons a l ih=>
    intro hp;obtain⟨h1,h2⟩:=Ru.mp hp;obtain⟨i1,i2⟩:=ih h2;rw[OK];cases q:(ow.getD a none).map (a,·) with
    |none=>exact⟨i1,fun x hx=>OM _ (i2 x hx)⟩
    |some p=>
     have ep:p.1=a:=by
      cases hq:ow.getD a none with
      |none=>rw[hq]at q;cases q
      |some i=>rw[hq]at q;cases q;rfl
     show (p.1::List.map _ _).Pairwise _/\∀x∈p.1::List.map _ _,x∈a::l;rw[ep]
     exact⟨Ru.mpr ⟨fun x hx=>h1 x (i2 x hx),i1⟩,fun x hx=>by
      rcases OO.mp hx with z|z
      ·rw[z];exact OL
      ·exact OM _ (i2 x z)⟩
  exact(gen _ List.pairwise_lt_range).1
 have hnd:live.Nodup:=by
  have:=hfst.imp (fun h=>OF h);exact List.Pairwise.of_map (·.1) (fun a b h e=>h (by rw[e])) this
 have hsz:∀j i,(j,i)∈live->i<es.size:=fun j i h=>by
  have:=O.lt j i ((hlive j i).mp h).2;simpa using this
 have hsnd:(live.map (·.2)).Perm (List.range es.size):=by
  refine(List.perm_ext_iff_of_nodup ?_ Rn).mpr fun i=>?_
  ·refine List.Pairwise.map _ (fun a b h=>?_) (List.Pairwise.and_mem.mp hnd);obtain⟨ha,hb,hne⟩:=h;intro e;have q1:=((hlive a.1 a.2).mp ha).2;have q2:=((hlive b.1 b.2).mp hb).2;rw[<- e]at q2;exact hne (Prod.ext (O.inj _ _ _ q1 q2) e)
  ·rw [OH, Rk];constructor
   ·rintro⟨p,hp,e⟩;rw[<- e];exact hsz p.1 p.2 hp
   ·intro hi;obtain⟨j,hj,q,_⟩:=O.all i (es[i].1) (by rw[PU,Q7,RH hi];rfl);exact⟨(j,i),(hlive j i).mpr ⟨hj,q⟩,rfl⟩
 let ρ':List (Nat×Int×Value):=live.filterMap fun p=>(es[p.2]?).map fun e=>(p.1,e)
 have hZ1:ρ'.map (·.1)=live.map (·.1):=by
  have gen:∀l:List (Nat×Nat),(∀p∈l,p.2<es.size)->(l.filterMap fun p=>(es[p.2]?).map fun e=>(p.1,e)).map (·.1)=l.map (·.1):=by
   intro l
   induction l with
   |nil=>intro _;rfl
   |cons p l ih=>
    intro h;rw[OK,RH (h p OL)];show p.1::List.map _ _=p.1::List.map _ _;rw[ih fun q hq=>h q (OM _ hq)]
  exact gen live fun p hp=>hsz p.1 p.2 hp
 have hZ2:ρ'.map (·.2)=(live.map (·.2)).filterMap (es[·]?):=by
  have gen:∀l:List (Nat×Nat),(l.filterMap fun p=>(es[p.2]?).map fun e=>(p.1,e)).map (·.2)=(l.map (·.2)).filterMap (es[·]?):=by
   intro l
   induction l with
   |nil=>rfl
   |cons p l ih=>
    rw[OK,Qp,OK];cases es[p.2]? with
    |none=>exact ih
    |some e=>show e::List.map _ _=e::_;rw[ih]
  exact gen live
 have hes:(List.range es.size).filterMap (es[·]?)=es.toList:=by
  have q:=vC es.toList;rw[OZ]at q;simpa only[Q7] using q
 refine⟨{mask,place:=(live.map (·.1)).toArray,dummies:=#[],finger:=t.finger,led:=t.led,moves:=t.movedTo mask,plain:=t.plain},(live.map (·.2)).toArray,ρ',?_,⟨?_,?_,?_,fun z hz=>?_,rfl,fun z hz=>?_⟩,?_,rfl,rfl,rfl,hsnd⟩
 ·unfold SetTable.relaid SetTable.laid;rw[hm,ea,e1];rfl
 ·show (live.map (·.1))=_;rw[hZ1]
 ·rw[hZ2];simp
 ·rw[hZ1];exact hfst
 ·have : z.1 ∈ live.map (·.1) := by rw [<- hZ1]; exact Rq hz
  obtain⟨p,hp,q⟩:=Rk.mp this;rw[<- q];exact((hlive p.1 p.2).mp hp).1
 ·obtain⟨p,hp,q⟩:=Ph.mp hz;rw[RH (hsz p.1 p.2 hp)]at q;have ez:z=(p.1,es[p.2]'(hsz p.1 p.2 hp)):=(Ou q).symm;obtain⟨hj,ho⟩:=(hlive p.1 p.2).mp hp;obtain⟨j,a1,a2,pre,post,a3,a4⟩:=O.all p.2 (es[p.2]'(hsz p.1 p.2 hp)).1 (by rw[PU,Q7,RH (hsz p.1 p.2 hp)];rfl);have ejp:j=p.1:=O.inj _ _ _ a2 ho;refine⟨pre,post,by rw[ez];rw[ejp]at a3;exact a3,fun k hk=>?_⟩;obtain⟨i',hi'⟩:=a4 k hk;rw[hZ1];have hkm:k<=mask:=k6 (h:=(es[p.2]'(hsz p.1 p.2 hp)).1) (by rw[a3];simp[hk]);exact Rk.mpr ⟨(k,i'),(hlive k i').mpr ⟨hkm,hi'⟩,rfl⟩
 ·rw[hZ2,<- hes];exact hsnd.filterMap _
def prs:List (List Int):=((List.range 36).filter fun n=>n / 6<n%6).map fun n=>[((n / 6:Nat):Int),((n%6:Nat):Int)]
def hsh(ks:List Int):Int:=reduceHash (Builtin.Tuple.tupleHashOf (ks.map hashInt))
theorem α6(ks:List Int):tupleKeyHash (intKind prog w) ks=hsh ks:=rfl
def Hu(mask:Nat):Bool:=prs.all fun ks=>(List.range (mask+1)).all fun j=>(eQ mask (hsh ks)).contains j
theorem NV:Hu 7=true:=by decide +kernel
theorem G8:Hu 31=true:=by decide +kernel
theorem L7:(prs.map hsh).Nodup:=by decide +kernel
theorem zh:prs.length=15:=by decide +kernel
theorem xG(h:Hu mask=true){ks:List Int}(hk:ks∈prs):∀j,j<=mask->j∈eQ mask (hsh ks):=fun j hj=>by
 have a:=RI.mp h ks hk;have b:=RI.mp a j (OH.mpr (by omega));simpa using b
theorem α2{l:List (List Int)}(h:(l.map hsh).Nodup){a b:List Int}(ha:a∈l)(hb:b∈l)(e:hsh a=hsh b):a=b:=by
 induction l with
 |nil=>simp at ha
 |cons c l ih=>
  rw[Qp]at h;obtain⟨h1,h2⟩:=Pz.mp h;rcases OO.mp ha with qa|qa <;> rcases OO.mp hb with qb|qb
  ·rw[qa,qb]
  ·exact absurd (by rw[<- qa,e];exact Rq qb) h1
  ·exact absurd (by rw[<- qb,<- e];exact Rq qa) h1
  ·exact ih h2 qa qb
theorem F7{a b:List Int}(ha:a∈prs)(hb:b∈prs)(e:hsh a=hsh b):a=b:=α2 L7 ha hb e
theorem zg{a b:Int}(h1:0<=a)(h2:a<b)(h3:b<6):[a,b]∈prs:=by
 have key:∀x:Nat,x<6->∀y:Nat,y<6->x<y->[(x:Int),(y:Int)]∈prs:=by decide +kernel
 have:=key a.toNat (by omega) b.toNat (by omega) (by omega);rw[Int.toNat_of_nonneg h1,Int.toNat_of_nonneg (by omega)]at this;exact this
end RS
namespace RS
open PySem PyProof.Rows
abbrev KP:=List Int×Addr
structure fN(w:World)(h:Heap)(a:Addr)(qs:List (Int×Value))(o:Obj)(es:Array (Int×Value))(ep:Nat)(t:SetTable)(ρ:List (Nat×Int×Value)):Prop where
 ho:h.get? a=some o
 ex:o.ExactSet
 hd:o.data=.set es ep t
 tab:uI t es ρ
 plain:t.plain=true
 led:t.led=!w.params.followText "set-order"
 big:(t.mask=7/\ρ.length<=4)\/(t.mask=31/\ρ.length<=18)
 perm:(ρ.map (·.2)).Perm qs
def xn(p:KP):Int×Value:=(hsh p.1,Value.ref p.2)
def f6(w:World)(h:Heap)(a:Addr)(ps:List KP):Prop:=∃o es ep t ρ,fN w h a (ps.map xn) o es ep t ρ/\(∀p∈ps,p.1∈prs)/\(ps.map (·.1)).Nodup
theorem fN.len{h:Heap}{o es ep t ρ}(S:fN w h a ps o es ep t ρ):ρ.length=ps.length:=by
 have:=S.perm.length_eq;simpa using this
theorem mK{ps:List KP}(hk:∀p∈ps,p.1∈prs)(hn:(ps.map (·.1)).Nodup):ps.length<=15:=by
 have:=mT hn (l2:=prs) (fun x hx=>by obtain⟨p,hp,e⟩:=Rk.mp hx;rw[<- e];exact hk p hp);rw[PZ,zh]at this;exact this
theorem fN.fits{h:Heap}{o es ep t ρ}(S:fN w h a ps o es ep t ρ):t.fits es.size=true:=by
 unfold SetTable.fits;rw[S.tab.fill,S.tab.size.1,S.tab.size.2];rcases S.big with⟨h1,h2⟩|⟨h1,h2⟩ <;> simp[h1] <;> omega
theorem fN.cov{h:Heap}{o es ep t ρ}(S:fN w h a ps o es ep t ρ){k:List Int}(hk:k∈prs):∀j,j<=t.mask->j∈eQ t.mask (hsh k):=by
 rcases S.big with⟨h1,h2⟩|⟨h1,h2⟩ <;> rw[h1]
 ·exact xG NV hk
 ·exact xG G8 hk
theorem f6.keeps{h:Heap}{ps:List KP}(S:f6 w h a ps)(k:∀o,h.get? a=some o->h'.get? a=some o):f6 w h' a ps:=by
 obtain⟨o,es,ep,t,ρ,S,hk,hn⟩:=S;exact⟨o,es,ep,t,ρ,⟨k o S.ho,S.ex,S.hd,S.tab,S.plain,S.led,S.big,S.perm⟩,hk,hn⟩
section
abbrev Tk(prog:Program)(w:World)(h:Heap)(k:List Int)(r:Addr):Prop:=IsTupleKey (intKind prog w) h k r
theorem items_int{k:List Int}{vs:List Value}(h:ItemsAre (intKind prog w) k vs):∀v∈vs,∃i t,v=.int i t:=by
 induction h with
 |nil=>intro v hv;simp at hv
 | @cons k v' ks vs h1 _ ih=>
  intro v hv;rcases OO.mp hv with q|q
  ·obtain⟨t,e⟩:=Ov (k:=k) (v:=v') h1;exact⟨k,t,by rw[q,e]⟩
  ·exact ih v q
theorem vJ{k:List Int}{r:Addr}{Q:Bool->Shared->Prop}(hk:Tk prog w s.heap k r)(h:Q false s):wpAny (model prog w) A (ofAClassStatement 8 (.ref r)) Q E s:=by
 have hT:=hk.typeIs;obtain⟨o,items,n,ho,hc,hd,hi⟩:=hk;unfold ofAClassStatement;refine O3 (Qm hT ?_);dsimp only;simp only[QH,Qg];refine O3 (O6 ?_);simp only[RJ,QI,Qf];refine O3 (QW ho hd ?_);dsimp only;refine O3 ?_;show wpAny _ _ (forIn items _ _) _ _ s;rw[<- Array.forIn_toList];refine RK _ (fun rest r s'=>r.1=none/\s'=s/\∀v∈rest,∃i t,v=.int i t) _ ?_ ?_ _ _ ⟨rfl,rfl,items_int hi⟩
 ·rintro v rest r s' ⟨hr, rfl, hall⟩
  obtain⟨i,t,e⟩:=hall v OL;subst e;unfold ofAClassStatement;refine O3 (O6 ?_);simp only[QI,Qf];exact O6 ⟨rfl,rfl,fun u hu'=>hall u (OM _ hu')⟩
 ·rintro ⟨r1, r2⟩ s' ⟨hr, rfl, _⟩
  simp only at hr;subst hr;exact O6 h
theorem rJ{k:List Int}{r:Addr}{Q:Bool->Shared->Prop}(hk:Tk prog w s.heap k r)(h:Q true s):wpAny (model prog w) A (hashByValue 8 (.ref r)) Q E s:=by
 have hT:=hk.typeIs;obtain⟨o,items,n,ho,hc,hd,hi⟩:=hk;unfold hashByValue;refine O3 (wpAny_specialOf hT F.slot_tuple_hash.lookup ?_);dsimp only;refine O3 (QW ho hd ?_);refine O3 ?_;show wpAny _ _ (forIn items _ _) _ _ s;rw[<- Array.forIn_toList];refine RK _ (fun rest r s'=>r.1=none/\s'=s/\∀v∈rest,∃i t,v=.int i t) _ ?_ ?_ _ _ ⟨rfl,rfl,items_int hi⟩
 ·rintro v rest r s' ⟨hr, rfl, hall⟩
  obtain⟨i,t,e⟩:=hall v OL;subst e;unfold hashByValue;refine O3 (O6 ?_);simp only[RJ,QI,Qf];exact O6 ⟨rfl,rfl,fun u hu'=>hall u (OM _ hu')⟩
 ·rintro ⟨r1, r2⟩ s' ⟨hr, rfl, _⟩
  simp only at hr;subst hr;exact O6 h
theorem Dn{k:List Int}{r:Addr}{ys:List Value}{Q:Bool->Shared->Prop}(hk:Tk prog w s.heap k r)(hy:∀y∈ys,∃k' r',y=.ref r'/\Tk prog w s.heap k' r')(h:Q false s):wpAny (model prog w) A (searchCouldBeSeen (.ref r) ys) Q E s:=by
 unfold searchCouldBeSeen;refine O3 ?_;refine RK _ (fun rest r' s'=>r'.1=none/\s'=s/\∀y∈rest,∃k' r',y=.ref r'/\Tk prog w s.heap k' r') _ ?_ ?_ _ _ ⟨rfl,rfl,hy⟩
 ·rintro v rest q s' ⟨hr, rfl, hall⟩
  obtain⟨k',r',e,hk'⟩:=hall v OL;subst e;have hrest:=fun u hu'=>hall u (OM _ hu');dsimp only;by_cases hv:(r == r' || carriedByValue (Value.ref r)&&carriedByValue (Value.ref r'))=true
  ·rw[OA hv];exact O6 ⟨rfl,rfl,hrest⟩
  ·rw[OB hv];refine O3 (wpAny_eqIsQuiet_tuple hk ?_);simp only[RJ,QI,Qf];refine O3 (wpAny_eqIsQuiet_tuple hk' ?_);simp only[RJ,QI,Qf];refine O3 (vJ hk ?_);simp only[QI,Qf];refine O3 (vJ hk' ?_);simp only[QI,Qf];exact O6 ⟨rfl,rfl,hrest⟩
 ·rintro ⟨r1, r2⟩ s' ⟨hr, rfl, _⟩
  simp only at hr;subst hr;exact O6 h
end
end RS
variable{qs:List RS.KP}
namespace RS
open PySem PyProof.Rows
section
theorem Cs{h:Heap}{ps:List KP}{o es ep t ρ}(S:fN w h a (ps.map xn) o es ep t ρ)(hz:z∈ρ):∃p∈ps,z.2=(hsh p.1,Value.ref p.2):=by
 have:z.2∈ρ.map (·.2):=Rq hz;obtain⟨p,hp,e⟩:=Rk.mp (S.perm.mem_iff.mp this);exact⟨p,hp,e.symm⟩
theorem Kg{h:Heap}{ps:List KP}{o es ep t ρ}(S:fN w h a (ps.map xn) o es ep t ρ){p:KP}(hp:p∈ps):∃z∈ρ,z.2=(hsh p.1,Value.ref p.2):=by
 have:xn p∈ps.map xn:=Rq hp;obtain⟨z,hz,e⟩:=Rk.mp (S.perm.mem_iff.mpr this);exact⟨z,hz,e⟩
theorem zO{r:Addr}{k:List Int}{ps:List KP}{o es ep t ρ}{Q:SetFound->Shared->Prop}(S:fN w s.heap a (ps.map xn) o es ep t ρ)(hks:∀p∈ps,p.1∈prs)(hk:k∈prs)(hr:Tk prog w s.heap k r)(hps:∀p∈ps,Tk prog w s.heap p.1 p.2)(hu:A.units<cLine)(h1:k∈ps.map (·.1)->Q (.there none) s)(h2:k∉ps.map (·.1)->∀j pre post,j<=t.mask->j∉ρ.map (·.1)->eQ t.mask (hsh k)=pre++j::post->(∀x∈pre,x∈ρ.map (·.1))->Q (.free j false) s):
  wpAny (model prog w) A (setSearch a (.ref r) (hsh k) true) Q E s:=by
 have hodd:t.gaveWay=false:=by
  unfold SetTable.gaveWay;rcases S.big with⟨q,_⟩|⟨q,_⟩ <;> rw[q] <;> decide
 have hz:ρ.length<=t.mask:=by rcases S.big with⟨q,q2⟩|⟨q,q2⟩ <;> omega
 unfold setSearch setSearchFrom;refine O3 (RL S.ho S.hd S.fits ?_);dsimp only;rw[hodd];simp only[QI,Qf];generalize hpr:SetTable.probe t _ (hsh k) (Option.getD none (t.probeStart (hsh k)))=pr
 have key:∀(hA:Nat->Int) pr,(∀i z,ρ[i]?=some z->hA i=z.2.1)->t.probe hA (hsh k) (t.probeStart (hsh k))=pr ->
   (∃i z nx,ρ[i]?=some z/\z.2.1=hsh k/\pr=some (.candidate z.1 i nx)) \/
   ((∀z∈ρ,z.2.1≠hsh k)/\∃j pre post,pr=some (.empty j none)/\j<=t.mask/\j∉ρ.map (·.1)/\eQ t.mask (hsh k)=pre++j::post/\∀x∈pre,x∈ρ.map (·.1)):=fun hA pr hAe e=>by
  subst e;exact S.tab.search (S.cov hk) hz hA hAe
 rcases key _ pr (fun i z hi=>by show (Option.map (·.1) es[i]?).getD 0=_;rw[S.tab.hashAt hi];rfl) hpr with⟨i,z,nx,hi,ez,e⟩|⟨hno,j,pre,post,e,hj,hn,e2,hp⟩
 ·subst e;dsimp only;have hzm:z∈ρ:=PX hi;obtain⟨p,hp,ep'⟩:=Cs S hzm;have ek:p.1=k:=F7 (hks p hp) hk (by rw[<- ez,ep']);have hin:k∈ps.map (·.1):=by rw[<- ek];exact Rq hp
  have rest:wpAny (model prog w) A (do
    let some (_,y):=es[i]? | unsupported "internal:set-entry"
    let equal <- holding [y] (eqBool y (.ref r))
    let (es',_,t') <- setState a
    if true&&equal then return SetFound.there none
    let some same:=t'.sameMemory t.moves t.mask|unsupported "set.changed-during-lookup:is-the-new-block-at-the-old-address"
    let still <- match (if same then t'.slot z.1 else .empty) with
     |.live i'=>match es'[i']? with
      |some (_,y')=>do pure (if <- isSame y' y then some i' else none)
      |none=>pure none
     |_=>pure none
    match still with
    |none=>rule "set.search.anew";setSearchFrom a (.ref r) (hsh k) true 99999 none
    |some i'=>if equal then return .there (some i') else setSearchFrom a (.ref r) (hsh k) true 99999 (some nx)) Q E s:=by
   rw[S.tab.hashAt hi,ep'];dsimp only;refine O3 (O4 (wpAny_eqBool_tuple hu (hps p hp) hr ?_));refine O3 (RL S.ho S.hd S.fits ?_);dsimp only;rw[ek,QF rfl];simp only[Bool.and_self,Qg];exact O6 (h1 hin)
  by_cases hl:(!t.led)=true
  ·rw [OA hl];refine O3 (Dn hr (fun y hy=>?_) ?_)
   ·obtain ⟨e', he', q⟩ := Rk.mp hy
    have he2:e'∈es.toList:=by
     have:=Array.mem_filter.mp (Pt.mp he');exact Pt.mpr this.1
    rw[S.tab.ents]at he2;obtain⟨z',hz',q2⟩:=Rk.mp he2;obtain⟨p',hp',q3⟩:=Cs S hz';exact⟨p'.1,p'.2,by rw[<- q,<- q2,q3],hps p' hp'⟩
   ·simp only[QI,Qf];exact rest
  ·rw[OB hl];exact rest
 ·subst e;dsimp only;refine O6 (h2 (fun hin=>?_) j pre post hj hn e2 hp);obtain⟨p,hpm,ek⟩:=Rk.mp hin;obtain⟨z,hzm,ez⟩:=Kg S hpm;exact hno z hzm (by rw[ez,<- ek])
end
def mB(ps:List KP)(k:List Int)(r:Addr):List KP:=if k∈ps.map (·.1) then ps else ps++[(k,r)]
section
theorem HF{r:Addr}{k:List Int}{ps:List KP}{Q:Bool->Shared->Prop}(S:f6 w s.heap a ps)(hk:k∈prs)(hr:Tk prog w s.heap k r)(hps:∀p∈ps,Tk prog w s.heap p.1 p.2)(hu:A.units<cLine)(h:∀b h',Heap.SameBut a s.heap h'->f6 w h' a (mB ps k r)->Q b {s with heap:=h'}):wpAny (model prog w) A (setAddHashed a (.ref r) (hsh k)) Q E s:=by
 obtain⟨o,es,ep,t,ρ,S,hk0,hn0⟩:=S;unfold setAddHashed setAddHashedIn;refine O4 (O3 (RL S.ho S.hd S.fits ?_));dsimp only;have hsc:byScan (Value.ref r) es=false:=rfl;rw[hsc];simp only[QI,Qf];refine O3 (zO S hk0 hk hr hps hu (fun hin=>?_) fun hin j pre post hj hn e hp=>?_)
 ·dsimp only;refine O6 ?_;have q:=h false s.heap (Heap.SameBut.refl a s.heap) (by unfold mB;rw[OA hin];exact⟨o,es,ep,t,ρ,S,hk0,hn0⟩);cases s;exact q
 ·dsimp only;refine O3 (RL S.ho S.hd S.fits ?_);dsimp only;obtain⟨ρ',T',hperm,et⟩:=S.tab.put (x:=Value.ref r) hj hn e hp;have e2:(t.put j).2=SetTable.below t.place j:=rfl;have hpl:(t.put j).1.plain=true:=by rw[et];exact S.plain
  have hled:(t.put j).1.led=t.led:=by rw[et]
  have hmask:(t.put j).1.mask=t.mask:=by rw[et]
  have hperm':(ρ'.map (·.2)).Perm ((ps++[(k,r)]).map xn):=by
   have q1:=hperm.map (·.2);refine q1.trans ?_;rw[Qp,Rv];refine List.Perm.trans (List.Perm.cons _ S.perm) ?_;exact(List.perm_append_singleton _ _).symm
  have hkeys:∀p∈ps++[(k,r)],p.1∈prs:=fun p hp'=>by
   rcases OQ.mp hp' with q|q
   ·exact hk0 p q
   ·rw[QS]at q;rw[q];exact hk
  have hnd:((ps++[(k,r)]).map (·.1)).Nodup:=by
   rw[Rv];refine RM.mpr ⟨hn0,by simp,fun x hx y hy=>?_⟩;simp at hy;rw[hy];rintro rfl;exact hin hx
  have hlen15:=mK hkeys hnd;have hZ':ρ'.length=ps.length+1:=by rw[hperm.length_eq,QJ,S.len,PZ]
  have hesz:(SetTable.insertAt es (t.put j).2 (hsh k,Value.ref r)).size=ρ'.length:=T'.size.2;have hadd:mB ps k r=ps++[(k,r)]:=by unfold mB;rw[OB hin]
  rw[hadd]at h;rw[PY,QC]at hlen15;generalize ht1:(t.put j).1=t1 at *;generalize hes1:SetTable.insertAt es (t.put j).2 (hsh k,Value.ref r)=es1 at *;have hline:es1.size<=sizeLine:=by rw[hesz,hZ'];exact OI hlen15 (by decide)
  rw[hpl];simp only[Qg];refine O3 (rJ hr ?_);simp only[Qg];refine O3 (wpAny_storeSet_of S.ho S.hd ?_ hline)
  have hg:(s.heap.update a (Obj.putSet es1 t1)).get? a=some {o with data:=.set es1 (ep+1) t1}:=by
   have:=Qr (Obj.putSet es1 t1) S.ho (by rw[putSet_of es1 t1 S.hd];rfl);rw[putSet_of es1 t1 S.hd]at this;exact this
  have hsb1:=QY s.heap a (Obj.putSet es1 t1);have hfill:t1.fill=ps.length+1:=by rw[T'.fill,hZ']
  by_cases hfull:t1.tooFull=true
  ·simp only [hfull, RN, Bool.and_self, Qg]
   have hm7:t.mask=7/\ps.length=4:=by
    unfold SetTable.tooFull at hfull;rw[hfill,hmask]at hfull;have hf:(ps.length+1)*5 ≥ t.mask*3:=by simpa using hfull
    have hl:=S.len;rw[PZ]at hl;rcases S.big with⟨q,q2⟩|⟨q,q2⟩
    ·rw[q]at hf;exact⟨q,by omega⟩
    ·rw[q]at hf;omega
   have hes0:es.size=4:=by rw[S.tab.size.2,S.len,PZ,hm7.2]
   have hsz1:es1.size=5:=by rw[hesz,hZ',hm7.2]
   have hgr:SetTable.grown (es.size+1)=20:=by rw[hes0];rfl
   rw[hgr];unfold setRelay
   have hfits1:t1.fits es1.size=true:=by
    unfold SetTable.fits;rw[T'.fill,T'.size.1,hesz,hmask,hm7.1,hZ',hm7.2];rfl
   refine O3 (O3 (RL hg rfl hfits1 ?_));dsimp only;rw[OB (by decide)]
   obtain⟨t2,order,ρ2,er,T2,hp2,hm2,hl2,hpl2,_⟩:=ya (t:=t1) (es:=es1) (wanted:=20) (mask:=31) (by rfl) (by rw[hsz1];decide) (fun e' he'=>by
    rw[T'.ents]at he';obtain⟨p,hp',q⟩:=Rk.mp (hperm'.mem_iff.mp he');rw[<- q]
    exact xG G8 (hkeys p hp'))
   rw[er]
   have hZ2:ρ2.length=5:=by
    have:=hp2.length_eq;simp at this;omega
   have hes2:(order.filterMap (es1[·]?)).size=5:=by rw[T2.size.2,hZ2]
   have hne:((order.filterMap (es1[·]?)).size != es1.size)=false:=by rw[hes2,hsz1];rfl
   refine O3 ?_;show wpAny _ A (if ((order.filterMap (es1[·]?)).size != es1.size)=true then _ else _) _ _ _;rw[hne];simp only[QI,Qf];refine O6 ?_;refine wpAny_storeSet_of hg rfl ?_ (by rw[hes2];decide)
   have hg2:((s.heap.update a (Obj.putSet es1 t1)).update a (Obj.putSet (order.filterMap (es1[·]?)) t2)).get? a=some {o with data:=.set (order.filterMap (es1[·]?)) (ep+1+1) t2}:=by
    have:=Qr (Obj.putSet (order.filterMap (es1[·]?)) t2) hg (by rw[putSet_of _ t2 rfl];rfl);rw[putSet_of _ t2 rfl]at this;exact this
   refine O6 ?_;refine h true _ (hsb1.trans (QY _ a _)) ⟨_,_,_,t2,ρ2,⟨hg2,S.ex,rfl,T2,by rw[hpl2];exact hpl,by rw[hl2,hled];exact S.led,.inr ⟨hm2,by omega⟩,?_⟩,hkeys,hnd⟩;refine hp2.trans ?_;rw[T'.ents];exact hperm'
  ·have hf : t1.tooFull = false := by simpa using hfull
   simp only[hf,Bool.and_false,QI,Qf];refine O6 ?_;refine h true _ hsb1 ⟨_,_,_,t1,ρ',⟨hg,S.ex,rfl,T',hpl,by rw[hled];exact S.led,?_,hperm'⟩,hkeys,hnd⟩;unfold SetTable.tooFull at hf;rw[hfill,hmask]at hf;have hf':¬ ((ps.length+1)*5 ≥ t.mask*3):=by simpa using hf
   rw[hmask,hZ'];rcases S.big with⟨q,q2⟩|⟨q,q2⟩
   ·rw[q]at hf'⊢;exact .inl ⟨rfl,by omega⟩
   ·rw[q]at hf'⊢;exact .inr ⟨rfl,by omega⟩
end
def fJ(qs:List KP):List KP:=qs.foldl (fun ps p=>mB ps p.1 p.2) []
theorem wZ(qs:List KP)(p:KP):fJ (qs++[p])=mB (fJ qs) p.1 p.2:=by unfold fJ;rw[List.foldl_append];rfl
theorem DV{ps:List KP}{k:List Int}{r:Addr}{p:KP}(h:p∈mB ps k r):p∈ps\/p=(k,r):=by
 unfold mB at h;split at h
 ·exact .inl h
 ·rcases OQ.mp h with q | q
  ·exact .inl q
  ·exact .inr (QS.mp q)
theorem oo:∀{qs ps:List KP}{p:KP},p∈qs.foldl (fun ps p=>mB ps p.1 p.2) ps->p∈ps\/p∈qs
 |[],_,_,h=>.inl h
 |q::qs,ps,p,h=>by
  rw[QA]at h;rcases oo h with z|z
  ·rcases DV z with z | z
   ·exact .inl z
   ·exact .inr (by rw[z];exact OL)
  ·exact .inr (OM _ z)
theorem me{p:KP}(h:p∈fJ qs):p∈qs:=(oo h).elim (fun z=>by simp at z) id
theorem yA{ps:List KP}{k:List Int}{r:Addr}(h:(ps.map (·.1)).Nodup):((mB ps k r).map (·.1)).Nodup:=by
 unfold mB;split
 ·exact h
 ·rename_i hn;rw[Rv];refine RM.mpr ⟨h,by simp,fun x hx y hy=>?_⟩;simp at hy;rw[hy];rintro rfl;exact hn hx
theorem lI:∀{qs ps:List KP},(ps.map (·.1)).Nodup->((qs.foldl (fun ps p=>mB ps p.1 p.2) ps).map (·.1)).Nodup
 |[],_,h=>h
 |q::qs,ps,h=>by rw[QA];exact lI (yA h)
theorem uE:((fJ qs).map (·.1)).Nodup:=lI (ps:=[]) RE
def n6 (w:World):Bool:=!w.params.followText "set-order"
theorem oh{h:Heap}(e:h.get? a=some {cls:=.type "set",dict:=none,data:=.set #[] 0 (.fresh 0 0 (n6 w))}):f6 w h a []:=
 ⟨_,_,_,_,[],⟨e,⟨rfl,rfl,rfl⟩,rfl,⟨rfl,rfl,List.Pairwise.nil,fun z hz=>by simp at hz,rfl,fun z hz=>by simp at hz⟩,rfl,rfl,.inl ⟨rfl,by decide⟩,List.Perm.nil⟩,fun p hp=>by simp at hp,RE⟩
section
variable{R:Result->Shared->Prop}{wr:List Addr}{G:Array GenState->Array GenState->Prop}{P:Nat->Value->Prop}{St:Nat->Shared->Prop}
structure Eo(prog:Program)(w:World)(u:Nat)(S:Addr)(vs:List Value)(α:Nat->Heap->Prop):Prop where
 keep:∀i h h',(∀b o,b<=S->h.get? b=some o->h'.get? b=some o)->α i h->α i h'
 add:∀(A:Around)(i:Nat)(v:Value)(s:Shared)(E:Value->Shared->Prop)(Q:Bool->Shared->Prop),A.units<=u->vs[i]?=some v->α i s.heap ->
  (∀b h' tk,s.toks<=tk->Heap.SameBut S s.heap h'->α (i+1) h'->Q b {s with heap:=h',toks:=tk})->wpAny (model prog w) A (setAdd S v) Q E s
theorem vQ{u:Nat}{vs:List Value}(W:WalksS prog w A.in1 I fp wr G vs.length P St)(S:Addr)(hSf:S∉fp)(hwr:∀b∈wr,S<b)(hP:∀(i:Nat) v,P i v->vs[i]?=some v)(hJ:Eo prog w u S vs α)(hu:A.units+1<=u):
  ∀(k i:Nat)(s:Shared),vs.length-i=k->i<=vs.length->St i s->α i s.heap ->
   (∀s',Moved (S::wr) G s s'->α vs.length s'.heap->R (.ok (.ret .none)) s') ->
   codeAny (model prog w) A (.builtin "set.update.loop" ⟨[.ref S,.ref I],[]⟩) R s:=by
 have hSw:S∉wr:=fun h=>hSf (W.sub _ h);have hsub:∀b∈wr,b∈S::wr:=fun b hb=>OM _ hb;have hle:∀b,b<=S->b∉wr:=fun b hb z=>OE _ (OD (hwr b z) hb);intro k
 induction k with
 |zero=>
  intro i s ek hi hst hS hR;have hin:i=vs.length:=by omega
  subst hin;refine RO F.entry_set_update_loop ?_;rw[RP RQ _];show wpAny _ A.in1 (pyNext (.ref I) >>= _) _ _ s;refine O3 (W.done s _ _ hst fun s' hm=>?_);show wpAny _ A.in1 (ret Value.none) _ _ s';exact O6 (hR s' (hm.mono hsub) (hJ.keep _ _ _ (fun b o hb e=>hm.heap b o (hle b hb) e) hS))
 |succ k ih=>
  intro i s ek hi hst hS hR;have hlt:i<vs.length:=by omega
  refine RO F.entry_set_update_loop ?_;rw[RP RQ _];show wpAny _ A.in1 (pyNext (.ref I) >>= _) _ _ s;refine O3 (W.item i s _ _ hlt hst fun v s' hPv hst' hm=>?_);have hv:=hP i v hPv;have hS':=hJ.keep i _ s'.heap (fun b o hb e=>hm.heap b o (hle b hb) e) hS;show wpAny _ A.in1 (holding [v] (setAdd S v) >>= _) _ _ s';refine O3 (O4 ?_);refine hJ.add A.in1 i v s' _ _ (by show A.units+1<=u;exact hu) hv hS' fun b h' tk ht hsb hS2=>?_;have hkeep:∀b o,b≠S->s'.heap.get? b=some o->h'.get? b=some o:=fun b o hb e=>(hsb.2 b hb).trans e;refine O6 ⟨RR RQ _,ih (i+1) _ (by omega) hlt (W.frame _ s' _ _ hst' ht fun b hb o e=>hkeep b o (fun z=>hSf (by rw[<- z];exact hb)) e) hS2 fun s'' hm'' hS''=>?_⟩;refine hR s'' (Moved.trans W.gtrans ((hm.mono hsub).then_heap ht fun b o hb e=>?_) hm'') hS'';exact hkeep b o (fun z=>hb (by rw[z];exact OL)) e
end
section
theorem mZ(a:Value){Q1:Value->Shared->Prop}
  (h:Q1 (.ref s.heap.objs.size) {s with heap:=s.heap.push {cls:=.type "set",dict:=none,data:=.set #[] 0 (.fresh 0 0 (n6 w))}}) :
  codeAny (model prog w) A (.call (.builtin "set.__new__") ⟨[.type "set",a],[]⟩) (wants Q1 E) s:=by
 refine QO ?_;show wpAny _ A.in1 (do checkBuiltinCall "set.__new__" ⟨[.type "set",a],[]⟩;again (.builtin "set.__new__" ⟨[.type "set",a],[]⟩)) _ _ s;refine O3 (Q3 (F.newCall_set_1 a) (O6 ⟨RR F.plain_set_new _,RO F.entry_set_new ?_⟩));rw[RP F.plain_set_new _];unfold Builtin.«set.__new__» Builtin.Frozenset.newClass;have hsub:=sub_set_self;obtain⟨hp,g,d,tk,os⟩:=s;dsimp only
 wp_walk
 refine QP (O6 ?_);dsimp only;simp only[newObj];refine O3 (wpAny_alloc (O6 ?_));exact O6 h
namespace F
theorem sub_list_set:isSubtype (.type "list") (.type "set")=pure false:=by rw[RT];kernel_rfl
theorem sub_list_frozenset:isSubtype (.type "list") (.type "frozenset")=pure false:=by rw[RT];kernel_rfl
end F
theorem ui{items:Array Value}(hh:A.handled=none)(hl:s.heap.IsList l items)(hJ:Eo prog w (A.units+20) s.heap.objs.size items.toList α)(h0:∀h',(∀b o,s.heap.get? b=some o->h'.get? b=some o)->h'.get? s.heap.objs.size=some {cls:=.type "set",dict:=none,data:=.set #[] 0 (.fresh 0 0 (n6 w))}->α 0 h')(h:∀(h':Heap)(tk:Nat),α items.size h'->(∀b o,b<s.heap.objs.size->s.heap.get? b=some o->h'.get? b=some o)->Q (.ref s.heap.objs.size) {s with heap:=h',toks:=tk}):
  wpAny (model prog w) A (call (.type "set") [.ref l]) Q E s:=by
 obtain⟨c,tl,hmro⟩:=RU.mro;have hmade:=RU.made;have hsub:=RU.sub;refine Pw (QO ?_);show wpAny _ _ (callAny (.type "set") _) _ _ _;refine O6 ⟨RW _ (by decide +kernel),RO PySem.F.entry_type_call ?_⟩;rw[Around.under_plain (weight_type_call_type "set" [.ref l] []) rfl];have h1:=RU.notType;have h2:=RU.canCreate;have hct:=PySem.F.typeCall_set_1 (.ref l)
 repeat (any_goals (first|assumption|wp_step))
 refine Px (mZ (.ref l) (E:=E) (Q1:=fun obj s1=>obj=.ref s.heap.objs.size/\s1={s with heap:=s.heap.push {cls:=.type "set",dict:=none,data:=.set #[] 0 (.fresh 0 0 (n6 w))}}) ⟨rfl,rfl⟩) fun r s1 hr=>?_;cases r with
 |error e=>exact hr
 |ok fl=>
  cases fl with
  |ret obj=>
   obtain⟨rfl,rfl⟩:=hr;generalize hled:n6 w=led;have hS:(s.heap.push {cls:=.type "set",dict:=none,data:=.set #[] 0 (.fresh 0 0 led)}).get? s.heap.objs.size=some {cls:=.type "set",dict:=none,data:=.set #[] 0 (.fresh 0 0 led)}:=Pe _ rfl;have hTy:Shared.TypeIs {s with heap:=s.heap.push {cls:=.type "set",dict:=none,data:=.set #[] 0 (.fresh 0 0 led)}} (.ref s.heap.objs.size) "set" := ⟨_,hS,rfl⟩;have hli:=RU.init.lookup;have hbi:=RU.init.bind (.ref s.heap.objs.size)
   repeat (any_goals (first|assumption|wp_step))
   refine Px (RY (R:=wants (fun r s2=>r=.none/\∃h' tk,s2={s with heap:=h',toks:=tk}/\α items.size h' /\
     (∀b o,b<s.heap.objs.size->s.heap.get? b=some o->h'.get? b=some o)) E) RU.init.plain PySem.F.entry_set_init (check_set_init_1 hTy ?_)) fun r2 s2 hr2=>?_
   ·obtain ⟨ol, hol, hcl, nl, hdl⟩ := hl;obtain⟨ocls,odict,odata,oslots⟩:=ol;simp only at hcl hdl;subst hcl;subst hdl;have hol':(s.heap.push {cls:=.type "set",dict:=none,data:=.set #[] 0 (.fresh 0 0 led)}).get? l=some {cls:=.type "list",dict:=odict,data:=.seq items nl,slots:=oslots}:=O8 _ hol;have hsls:=F.sub_list_set;have hslf:=F.sub_list_frozenset;have hne:(Value.type "list" == Value.type "dict")=false:=by decide
    have hl1:(s.heap.push {cls:=.type "set",dict:=none,data:=.set #[] 0 (.fresh 0 0 led)}).IsList l items:=⟨_,hol',rfl,nl,rfl⟩;unfold Builtin.«set.__init__» noKeywords Builtin.Frozenset.updateFrom;generalize hPI:pyIter=PI
    wp_walk
    subst hPI;refine RZ hl1 ?_;refine O3 (R0 ?_);have hlS:l<s.heap.objs.size:=OC hol;have hh3:A.in1.in1.in1.handled=none:=by simp[hh]
    have hneI:l≠(s.heap.push {cls:=.type "set",dict:=none,data:=.set #[] 0 (.fresh 0 0 led)}).objs.size:=by
     rw[QM];exact OF (QL hlS)
    have hSf:s.heap.objs.size ∉ [(s.heap.push {cls:=.type "set",dict:=none,data:=.set #[] 0 (.fresh 0 0 led)}).objs.size,l]:=by
     rw[QM];simp only[OO,QS,Q5,Q6,not_or];exact⟨OF (QK _),Pb hlS⟩
    have W:=(Walks.list (prog:=prog) (w:=w) hh3 (s.heap.push {cls:=.type "set",dict:=none,data:=.set #[] 0 (.fresh 0 0 led)}).objs.size l hneI items).toS;rw[show items.size=items.toList.length by rw[OZ]]at W
    refine vQ W s.heap.objs.size hSf (fun b hb=>?_) (fun i v hv=>by rw[Q7];exact hv) hJ (by simp only[Around.in1];omega) (items.toList.length-0) 0 _ (by omega) (QR _)
     ⟨⟨_,Pe _ rfl,rfl,rfl⟩,?hL⟩ ?hS0 ?hR
    case hL=>
     obtain⟨o,ho,rest⟩:=hl1;exact⟨o,O8 _ ho,rest⟩
    case hS0=>
     refine h0 _ (fun b o e=>O8 _ (O8 _ e)) ?_;rw[hled];exact O8 _ hS
    case hR=>
     intro s' hm hS';obtain⟨h',g',d',tk',os'⟩:=s';have eg:g'=s.gens:=hm.gens;have ed:d'=s.drawn:=hm.drawn;have eo:os'=s.os:=hm.os;subst eg;subst ed;subst eo;show wpAny _ _ _ _ _ _;refine O6 ?_;show wpAny _ _ (ret Value.none) _ _ _;refine O6 ⟨rfl,h',tk',rfl,by rw[OZ]at hS';exact hS',fun b o hb e=>?_⟩;have hb1:b≠s.heap.objs.size:=OF hb
     have hb2:b≠(s.heap.push {cls:=.type "set",dict:=none,data:=.set #[] 0 (.fresh 0 0 led)}).objs.size:=by
      rw[QM];exact OF (QL hb)
     exact hm.heap b o (by simp only[OO,QS,Q5,Q6,not_or];exact⟨hb1,hb2⟩) (O8 _ (O8 _ e))
    ·rw[QM]at hb;rw[QS.mp hb];exact QK _
   ·cases r2 with
    |error e=>exact hr2
    |ok fl2=>
     cases fl2 with
     |ret r=>
      obtain⟨rfl,h',tk,rfl,hS',hk'⟩:=hr2
      repeat (any_goals (first|assumption|wp_step))
      exact h _ _ hS' hk'
     |_=>exact hr2.elim
  |_=>exact hr.elim
namespace F
theorem sub_tuple_set:isSubtype (.type "tuple") (.type "set")=pure false:=by rw[RT];kernel_rfl
theorem sub_tuple_frozenset:isSubtype (.type "tuple") (.type "frozenset")=pure false:=by rw[RT];kernel_rfl
end F
theorem rA{items:Array Value}(hh:A.handled=none)(hl:s.heap.IsTuple l items)(hJ:Eo prog w (A.units+20) s.heap.objs.size items.toList α)(h0:∀h',(∀b o,s.heap.get? b=some o->h'.get? b=some o)->h'.get? s.heap.objs.size=some {cls:=.type "set",dict:=none,data:=.set #[] 0 (.fresh 0 0 (n6 w))}->α 0 h')(h:∀(h':Heap)(tk:Nat),α items.size h'->(∀b o,b<s.heap.objs.size->s.heap.get? b=some o->h'.get? b=some o)->Q (.ref s.heap.objs.size) {s with heap:=h',toks:=tk}):
  wpAny (model prog w) A (call (.type "set") [.ref l]) Q E s:=by
 obtain⟨c,tl,hmro⟩:=RU.mro;have hmade:=RU.made;have hsub:=RU.sub;refine Pw (QO ?_);show wpAny _ _ (callAny (.type "set") _) _ _ _;refine O6 ⟨RW _ (by decide +kernel),RO PySem.F.entry_type_call ?_⟩;rw[Around.under_plain (weight_type_call_type "set" [.ref l] []) rfl];have h1:=RU.notType;have h2:=RU.canCreate;have hct:=PySem.F.typeCall_set_1 (.ref l)
 repeat (any_goals (first|assumption|wp_step))
 refine Px (mZ (.ref l) (E:=E) (Q1:=fun obj s1=>obj=.ref s.heap.objs.size/\s1={s with heap:=s.heap.push {cls:=.type "set",dict:=none,data:=.set #[] 0 (.fresh 0 0 (n6 w))}}) ⟨rfl,rfl⟩) fun r s1 hr=>?_;cases r with
 |error e=>exact hr
 |ok fl=>
  cases fl with
  |ret obj=>
   obtain⟨rfl,rfl⟩:=hr;generalize hled:n6 w=led;have hS:(s.heap.push {cls:=.type "set",dict:=none,data:=.set #[] 0 (.fresh 0 0 led)}).get? s.heap.objs.size=some {cls:=.type "set",dict:=none,data:=.set #[] 0 (.fresh 0 0 led)}:=Pe _ rfl;have hTy:Shared.TypeIs {s with heap:=s.heap.push {cls:=.type "set",dict:=none,data:=.set #[] 0 (.fresh 0 0 led)}} (.ref s.heap.objs.size) "set" := ⟨_,hS,rfl⟩;have hli:=RU.init.lookup;have hbi:=RU.init.bind (.ref s.heap.objs.size)
   repeat (any_goals (first|assumption|wp_step))
   refine Px (RY (R:=wants (fun r s2=>r=.none/\∃h' tk,s2={s with heap:=h',toks:=tk}/\α items.size h' /\
     (∀b o,b<s.heap.objs.size->s.heap.get? b=some o->h'.get? b=some o)) E) RU.init.plain PySem.F.entry_set_init (check_set_init_1 hTy ?_)) fun r2 s2 hr2=>?_
   ·obtain ⟨ol, hol, hcl, nl, hdl⟩ := hl;obtain⟨ocls,odict,odata,oslots⟩:=ol;simp only at hcl hdl;subst hcl;subst hdl;have hol':(s.heap.push {cls:=.type "set",dict:=none,data:=.set #[] 0 (.fresh 0 0 led)}).get? l=some {cls:=.type "tuple",dict:=odict,data:=.seq items nl,slots:=oslots}:=O8 _ hol;have hsls:=F.sub_tuple_set;have hslf:=F.sub_tuple_frozenset;have hne:(Value.type "tuple" == Value.type "dict")=false:=by decide
    have hl1:(s.heap.push {cls:=.type "set",dict:=none,data:=.set #[] 0 (.fresh 0 0 led)}).IsTuple l items:=⟨_,hol',rfl,nl,rfl⟩;unfold Builtin.«set.__init__» noKeywords Builtin.Frozenset.updateFrom;generalize hPI:pyIter=PI
    wp_walk
    subst hPI;refine Q4 hl1 ?_;refine O3 (R0 ?_);have hlS:l<s.heap.objs.size:=OC hol;have hh3:A.in1.in1.in1.handled=none:=by simp[hh]
    have hneI:l≠(s.heap.push {cls:=.type "set",dict:=none,data:=.set #[] 0 (.fresh 0 0 led)}).objs.size:=by
     rw[QM];exact OF (QL hlS)
    have hSf:s.heap.objs.size ∉ [(s.heap.push {cls:=.type "set",dict:=none,data:=.set #[] 0 (.fresh 0 0 led)}).objs.size,l]:=by
     rw[QM];simp only[OO,QS,Q5,Q6,not_or];exact⟨OF (QK _),Pb hlS⟩
    have W:=(Walks.tuple (prog:=prog) (w:=w) hh3 (s.heap.push {cls:=.type "set",dict:=none,data:=.set #[] 0 (.fresh 0 0 led)}).objs.size l hneI items).toS;rw[show items.size=items.toList.length by rw[OZ]]at W
    refine vQ W s.heap.objs.size hSf (fun b hb=>?_) (fun i v hv=>by rw[Q7];exact hv) hJ (by simp only[Around.in1];omega) (items.toList.length-0) 0 _ (by omega) (QR _)
     ⟨⟨_,Pe _ rfl,rfl,rfl⟩,?hL⟩ ?hS0 ?hR
    case hL=>
     obtain⟨o,ho,rest⟩:=hl1;exact⟨o,O8 _ ho,rest⟩
    case hS0=>
     refine h0 _ (fun b o e=>O8 _ (O8 _ e)) ?_;rw[hled];exact O8 _ hS
    case hR=>
     intro s' hm hS';obtain⟨h',g',d',tk',os'⟩:=s';have eg:g'=s.gens:=hm.gens;have ed:d'=s.drawn:=hm.drawn;have eo:os'=s.os:=hm.os;subst eg;subst ed;subst eo;show wpAny _ _ _ _ _ _;refine O6 ?_;show wpAny _ _ (ret Value.none) _ _ _;refine O6 ⟨rfl,h',tk',rfl,by rw[OZ]at hS';exact hS',fun b o hb e=>?_⟩;have hb1:b≠s.heap.objs.size:=OF hb
     have hb2:b≠(s.heap.push {cls:=.type "set",dict:=none,data:=.set #[] 0 (.fresh 0 0 led)}).objs.size:=by
      rw[QM];exact OF (QL hb)
     exact hm.heap b o (by simp only[OO,QS,Q5,Q6,not_or];exact⟨hb1,hb2⟩) (O8 _ (O8 _ e))
    ·rw[QM]at hb;rw[QS.mp hb];exact QK _
   ·cases r2 with
    |error e=>exact hr2
    |ok fl2=>
     cases fl2 with
     |ret r=>
      obtain⟨rfl,h',tk,rfl,hS',hk'⟩:=hr2
      repeat (any_goals (first|assumption|wp_step))
      exact h _ _ hS' hk'
     |_=>exact hr2.elim
  |_=>exact hr.elim
theorem qG{S:Addr}{u:Nat}(hk:∀p∈qs,p.1∈prs)(hS:∀p∈qs,p.2<S)(hu:u<cLine):Eo prog w u S (qs.map fun p=>Value.ref p.2) (fun i h=>f6 w h S (fJ (qs.take i))/\∀p∈qs,Tk prog w h p.1 p.2):=by
 have keepT:∀{h1 h2:Heap}{q:KP},q∈qs->(∀b o,b<S->h1.get? b=some o->h2.get? b=some o)->Tk prog w h1 q.1 q.2->Tk prog w h2 q.1 q.2:=fun {h1 h2 q} hq kk t=>by
  obtain⟨o,items,n,ho,r⟩:=t;exact⟨o,items,n,kk _ o (hS q hq) ho,r⟩
 refine⟨fun i h h' hk' ⟨j1,j2⟩=>⟨j1.keeps fun o e=>hk' S o (Pf _) e,fun p hp=>keepT hp (fun b o hb e=>hk' b o (OJ hb) e) (j2 p hp)⟩,fun A i v s E Q hA hv ⟨j1,j2⟩ hQ=>?_⟩;rw[PU]at hv;cases e:qs[i]? with
 |none=>rw[e]at hv;cases hv
 |some p=>
  rw[e]at hv;cases hv;have hpm:p∈qs:=PX e;unfold setAdd;refine O4 ?_;refine O3 (wpAny_pyHash_tuple (by omega) (j2 p hpm) ?_);rw[α6];refine HF (s:={s with toks:=s.toks+(p.1.length+1)}) j1 (hk p hpm) (j2 p hpm) (fun q hq=>j2 q (RB (me hq))) (by omega) fun b h' hsb hS2=>?_;have etk:qs.take (i+1)=qs.take i++[p]:=by rw[List.take_add_one,e];rfl
  refine hQ b h' _ (Nat.le_add_right _ _) hsb ⟨by rw[etk,wZ];exact hS2,fun q hq=>keepT hq (fun b o hb e=>(hsb.2 b (OF hb)).trans e) (j2 q hq)⟩
theorem Cb(hT:∀p∈qs,Tk prog w s.heap p.1 p.2):∀p∈qs,p.2<s.heap.objs.size:=fun p hp=>by
 obtain⟨o,_,_,ho,_⟩:=hT p hp;exact OC ho
theorem wy{items:Array Value}(hh:A.handled=none)(hl:s.heap.IsList l items)(hi:items.toList=qs.map fun p=>Value.ref p.2)(hk:∀p∈qs,p.1∈prs)(hT:∀p∈qs,Tk prog w s.heap p.1 p.2)(hu:A.units+20<cLine)(h:∀(h':Heap)(tk:Nat),f6 w h' s.heap.objs.size (fJ qs)->(∀b o,b<s.heap.objs.size->s.heap.get? b=some o->h'.get? b=some o)->Q (.ref s.heap.objs.size) {s with heap:=h',toks:=tk}):
  wpAny (model prog w) A (call (.type "set") [.ref l]) Q E s:=by
 have hlen:items.size=qs.length:=by rw[<- OZ,hi,PZ]
 refine ui hh hl (hi ▸ qG hk (Cb hT) hu) (fun h' k e=>⟨oh e,fun p hp=>?_⟩) fun h' tk ⟨j1,_⟩=>h h' tk ?_
 ·obtain⟨o,its,n,ho,rest⟩:=hT p hp;exact⟨o,its,n,k _ _ ho,rest⟩
 ·rw[hlen,List.take_length]at j1;exact j1
theorem uh{items:Array Value}(hh:A.handled=none)(hl:s.heap.IsTuple l items)(hi:items.toList=qs.map fun p=>Value.ref p.2)(hk:∀p∈qs,p.1∈prs)(hT:∀p∈qs,Tk prog w s.heap p.1 p.2)(hu:A.units+20<cLine)(h:∀(h':Heap)(tk:Nat),f6 w h' s.heap.objs.size (fJ qs)->(∀b o,b<s.heap.objs.size->s.heap.get? b=some o->h'.get? b=some o)->Q (.ref s.heap.objs.size) {s with heap:=h',toks:=tk}):
  wpAny (model prog w) A (call (.type "set") [.ref l]) Q E s:=by
 have hlen:items.size=qs.length:=by rw[<- OZ,hi,PZ]
 refine rA hh hl (hi ▸ qG hk (Cb hT) hu) (fun h' k e=>⟨oh e,fun p hp=>?_⟩) fun h' tk ⟨j1,_⟩=>h h' tk ?_
 ·obtain⟨o,its,n,ho,rest⟩:=hT p hp;exact⟨o,its,n,k _ _ ho,rest⟩
 ·rw[hlen,List.take_length]at j1;exact j1
end
end RS
namespace RS
open PySem PySem.W PyProof.Rows
structure fj(n:Nat)(p:Array Nat):Prop where
 size:p.size=n
 perm:p.toList.Perm (List.range n)
def at'(key:Nat->Int)(p:Array Nat)(k:Nat):Int:=key (p.getD k 0)
def D7(key:Nat->Int)(p:Array Nat)(m:Nat):Prop:=∀i j,i<j->j<m->at' key p i<at' key p j
def El(key:Nat->Int)(p:Array Nat)(m:Nat):Prop:=∀i j,i<j->j<m->at' key p j<at' key p i
section
variable{key:Nat->Int}{cmp:Nat->Nat->(Bool->Shared->Prop)->Shared->Prop}{p:Array Nat}
theorem fj.lt(g:fj n p)(hk:k<n):p.getD k 0<n:=by
 have hs:k<p.size:=by rw[g.size];exact hk
 have:p[k]∈p.toList:=by rw[Pt];exact Array.getElem_mem hs
 have:=g.perm.mem_iff.mp this;rw[OH]at this;simpa[Array.getD,hs] using this
theorem fj.inj(g:fj n p){k':Nat}(hk:k<n)(hk':k'<n)(e:p.getD k 0=p.getD k' 0):k=k':=by
 have hs:k<p.toList.length:=by rw[OZ,g.size];exact hk
 have hs':k'<p.toList.length:=by rw[OZ,g.size];exact hk'
 have nd:p.toList.Nodup:=g.perm.nodup_iff.mpr Rn;refine(OT (h₀:=hs) (h₁:=hs') nd).mp ?_;have h1:k<p.size:=by rw[g.size];exact hk
 have h2:k'<p.size:=by rw[g.size];exact hk'
 simpa[Array.getD,h1,h2] using e
variable(hkey:∀i j,i<n->j<n->key i=key j->i=j)(hc:∀i j,i<n->j<n->∀C:Bool->Shared->Prop,C (decide (key i<key j)) s->cmp i j C s)
include hkey in
theorem BF(g:fj n p){k':Nat}(hk:k<n)(hk':k'<n)(h:k≠k'):at' key p k≠at' key p k':=fun e=>h (g.inj hk hk' (hkey _ _ (g.lt hk) (g.lt hk') e))
include hkey hc
theorem xI(g:fj n p):∀(f m:Nat)(Q:Nat->Shared->Prop),1<=m->m+f<=n->D7 key p m->(∀m',m<=m'->m'<=m+f->D7 key p m'->(m'=m+f\/at' key p m'<at' key p (m'-1))->Q m' s)->(kas_asc p f m).kasWp cmp Q s
 |0,m,Q,h1,h2,ha,hQ=>hQ m (Pf _) (Pf _) ha (.inl rfl)
 |f+1,m,Q,h1,h2,ha,hQ=>by
  show cmp (p.getD m 0) (p.getD (m-1) 0) _ s;refine hc _ _ (g.lt (by omega)) (g.lt (by omega)) _ ?_;by_cases hlt:key (p.getD m 0)<key (p.getD (m-1) 0)
  ·rw[QF hlt];(show (if true=true then _ else _:KasT _).kasWp cmp _ s);rw[OA rfl];exact hQ m (Pf _) (by omega) ha (.inr hlt)
  ·rw [Ow hlt]; (show (if false = true then _ else _ : KasT _).kasWp cmp _ s); rw [OB Pm];have hne:=BF hkey g (k:=m) (k':=m-1) (by omega) (by omega) (by omega);have hgt:at' key p (m-1)<at' key p m:=by unfold at' at *;omega
   refine xI g f (m+1) Q (by omega) (by omega) (fun i j hij hj=>?_) (fun m' a b c d=>hQ m' (by omega) (by omega) c (d.elim (fun e=>.inl (by omega)) .inr));by_cases ej:j=m
   ·subst ej;by_cases ei:i=j-1
    ·rw[ei];exact hgt
    ·have:=ha i (j-1) (by omega) (by omega);omega
   ·exact ha i j hij (by omega)
theorem zy(g:fj n p):∀(f m:Nat)(Q:Array Nat×Nat×Nat->Shared->Prop),1<=m->m+f<=n->El key p m->(∀m',m<=m'->m'<=m+f->El key p m'->Q (p,m',0) s)->(kas_desc f p m 0).kasWp cmp Q s
 |0,m,Q,h1,h2,ha,hQ=>hQ m (Pf _) (Pf _) ha
 |f+1,m,Q,h1,h2,ha,hQ=>by
  show cmp (p.getD m 0) (p.getD (m-1) 0) _ s;refine hc _ _ (g.lt (by omega)) (g.lt (by omega)) _ ?_;by_cases hlt:key (p.getD m 0)<key (p.getD (m-1) 0)
  ·rw [QF hlt]; (show (if true = true then _ else _ : KasT _).kasWp cmp _ s); rw [OA rfl, OB (by omega)];refine zy g f (m+1) Q (by omega) (by omega) (fun i j hij hj=>?_) (fun m' a b c=>hQ m' (by omega) (by omega) c);by_cases ej:j=m
   ·subst ej;by_cases ei:i=j-1
    ·rw[ei];exact hlt
    ·have:=ha i (j-1) (by omega) (by omega);have:at' key p j<at' key p (j-1):=hlt;omega
   ·exact ha i j hij (by omega)
  ·rw [Ow hlt]; (show (if false = true then _ else _ : KasT _).kasWp cmp _ s); rw [OB Pm];show cmp (p.getD (m-1) 0) (p.getD m 0) _ s;refine hc _ _ (g.lt (by omega)) (g.lt (by omega)) _ ?_;have hne:=BF hkey g (k:=m) (k':=m-1) (by omega) (by omega) (by omega);have hgt:key (p.getD (m-1) 0)<key (p.getD m 0):=by unfold at' at hne;omega
   rw[QF hgt];(show (if true=true then _ else _:KasT _).kasWp cmp _ s);rw[OA rfl];exact hQ m (Pf _) (by omega) ha
omit hkey hc in
theorem qg{p p':Array Nat}{k':Nat}(h:p[k]?=p'[k']?):at' key p k=at' key p' k':=by
 unfold at';rw[Rz,Rz,h]
omit hkey hc in
theorem sA{p':Array Nat}(g:fj n p)(h:p'.Perm p)(hs:p'.size=p.size):fj n p':=⟨hs.trans g.size,(Array.perm_iff_toList_perm.mp h).trans g.perm⟩
omit hkey hc in
theorem Fb(g:fj n p){m:Nat}(hm:m<=n)(hd:El key p m):fj n (kas_rev p 0 m)/\D7 key (kas_rev p 0 m) m:=by
 have hs:m<=p.size:=by rw[g.size];exact hm
 refine⟨sA g (mirror_perm _ _ _ _) (mirror_size _ _ _ _),fun i j hij hj=>?_⟩;have ei:at' key (kas_rev p 0 m) i=at' key p (0+m-1-i):=qg (by unfold kas_rev;rw[getElem?_mirror_all hs,OA ⟨QR _,by omega⟩]);have ej:at' key (kas_rev p 0 m) j=at' key p (0+m-1-j):=qg (by unfold kas_rev;rw[getElem?_mirror_all hs,OA ⟨QR _,by omega⟩]);rw[ei,ej];exact hd _ _ (by omega) (by omega)
theorem CG(g:fj n p){m:Nat}(h1:1<=m)(hm:m<=n)(hd:El key p m)(Q:Nat×Array Nat->Shared->Prop)(hQ:∀m' p',fj n p'->1<=m'->m'<=n->D7 key p' m'->Q (m',p') s):(kas_tail3 m n p).kasWp cmp Q s:=by
 obtain⟨g',ha⟩:=Fb (key:=key) g hm hd;unfold kas_tail3;rw[R6];exact xI hkey hc g' (n-m) m _ h1 (by omega) ha fun m' a b c d=>hQ m' _ g' (by omega) (by omega) c
theorem DL(g:fj n p)(h2:2<=n)(Q:Nat×Array Nat->Shared->Prop)(hQ:∀m' p',fj n p'->1<=m'->m'<=n->D7 key p' m'->Q (m',p') s):(kas_count n p).kasWp cmp Q s:=by
 unfold kas_count;rw[R6];refine xI hkey hc g (n-1) 1 _ (Pf _) (by omega) (fun i j hij hj=>by omega) fun m a b c d=>?_;by_cases e:m=n
 ·rw[OA (by simpa using e)];exact hQ m p g a (by omega) c
 ·rw [OB (by simpa using e)];by_cases h1:m>1
  ·rw[OA h1];show cmp (p.getD 0 0) (p.getD (m-1) 0) _ s;refine hc _ _ (g.lt (by omega)) (g.lt (by omega)) _ ?_;have:at' key p 0<at' key p (m-1):=c 0 (m-1) (by omega) (by omega);rw[QF (show key (p.getD 0 0)<key (p.getD (m-1) 0) from this)];(show (if true=true then _ else _:KasT _).kasWp cmp _ s);rw[OA rfl];exact hQ m p g a (by omega) c
  ·rw [OB h1];have em:m=1:=by omega
   subst em;unfold kas_descPart;rw[R6];have hlt:at' key p 1<at' key p 0:=d.elim (fun e'=>by omega) id;refine zy hkey hc g (n-(1+1)) (1+1) _ (by omega) (by omega) (fun i j hij hj=>?_) fun m' a' b' c'=>?_
   ·have ei : i = 0 := by omega
    have ej:j=1:=by omega
    rw[ei,ej];exact hlt
   ·show (if (0:Nat)>0 then _ else _:KasT (Nat×Array Nat)).kasWp cmp Q s;rw[OB (by omega)];exact CG hkey hc g (by omega) (by omega) c' Q hQ
theorem qm(g:fj n p){k:Nat}(hk:k<n)(ha:D7 key p k):∀(f l r:Nat)(Q:Nat->Shared->Prop),l<=r->r<=k->r-l<=f->(∀i,i<l->at' key p i<at' key p k)->(∀i,r<=i->i<k->at' key p k<at' key p i) ->
  (∀l',l'<=k->(∀i,i<l'->at' key p i<at' key p k)->(∀i,l'<=i->i<k->at' key p k<at' key p i)->Q l' s)->(kas_place p k f l r).kasWp cmp Q s
 |0,l,r,Q,h1,h2,h3,ha1,hb1,hQ=>by
  have e:l=r:=by omega
  subst e;exact hQ l h2 ha1 hb1
 |f+1,l,r,Q,h1,h2,h3,ha1,hb1,hQ=>by
  unfold kas_place;by_cases e:l ≥ r
  ·rw [OA e];have e':l=r:=by omega
   subst e';exact hQ l h2 ha1 hb1
  ·rw [OB e];show cmp (p.getD k 0) (p.getD ((l+r) / 2) 0) _ s;refine hc _ _ (g.lt hk) (g.lt (by omega)) _ ?_;by_cases hlt:key (p.getD k 0)<key (p.getD ((l+r) / 2) 0)
   ·rw [QF hlt]; (show (if true = true then _ else _ : KasT _).kasWp cmp _ s); rw [OA rfl];refine qm g hk ha f l ((l+r) / 2) Q (by omega) (by omega) (by omega) ha1 (fun i hi hik=>?_) hQ;by_cases ei:i=(l+r) / 2
    ·rw[ei];exact hlt
    ·have:=ha ((l+r) / 2) i (by omega) hik;have:at' key p k<at' key p ((l+r) / 2):=hlt;omega
   ·rw [Ow hlt]; (show (if false = true then _ else _ : KasT _).kasWp cmp _ s); rw [OB Pm];have hne:=BF hkey g (k:=k) (k':=(l+r) / 2) hk (by omega) (by omega);have hgt:at' key p ((l+r) / 2)<at' key p k:=by unfold at' at *;omega
    refine qm g hk ha f ((l+r) / 2+1) r Q (by omega) h2 (by omega) (fun i hi=>?_) hb1 hQ;by_cases ei:i=(l+r) / 2
    ·rw[ei];exact hgt
    ·have:=ha i ((l+r) / 2) (by omega) (by omega);omega
theorem Cy:∀(f:Nat)(p:Array Nat)(k:Nat)(Q:Array Nat->Shared->Prop),fj n p->k+f=n->D7 key p k->(∀p',fj n p'->D7 key p' n->Q p' s)->(kas_bin f p k).kasWp cmp Q s
 |0,p,k,Q,g,hk,ha,hQ=>by
  have e:k=n:=by omega
  rw[e]at ha;exact hQ p g ha
 |f+1,p,k,Q,g,hk,ha,hQ=>by
  unfold kas_bin;rw[R6];refine qm hkey hc g (by omega) ha k 0 k _ (QR _) (Pf _) (by omega) (fun i hi=>by omega) (fun i h1 h2=>by omega) fun l hl ha1 hb1=>?_;have hs:k<p.size:=by rw[g.size];omega
  refine Cy f _ (k+1) Q (sA g (bubble_perm _ _ _) (bubble_size _ _ _)) (by omega) (fun i j hij hj=>?_) hQ
  have hb:∀x,at' key (bubble p k (k-l)) x=if x=l then at' key p k else if l<x/\x<=k then at' key p (x-1) else at' key p x:=fun x=>by
   have e:=getElem?_bubble hs (k-l) (by omega) x;have el:k-(k-l)=l:=by omega
   rw[el]at e;by_cases e1:x=l
   ·rw[OA e1]at e⊢;exact qg e
   ·rw [OB e1] at e ⊢;by_cases e2:l<x/\x<=k
    ·rw[OA e2]at e⊢;exact qg e
    ·rw[OB e2]at e⊢;exact qg e
  rw[hb i,hb j];by_cases i1:i=l
  ·rw[OA i1,OB (by omega),OA ⟨by omega,by omega⟩];exact hb1 (j-1) (by omega) (by omega)
  ·rw [OB i1];by_cases i2:l<i/\i<=k
   ·rw[OA i2,OB (by omega),OA ⟨by omega,by omega⟩];exact ha (i-1) (j-1) (by omega) (by omega)
   ·rw [OB i2];have hi:i<l:=by omega
    by_cases j1:j=l
    ·rw[OA j1];exact ha1 i hi
    ·rw [OB j1];by_cases j2:l<j/\j<=k
     ·rw [OA j2];by_cases ej:i=j-1
      ·omega
      ·exact ha i (j-1) (by omega) (by omega)
     ·rw[OB j2];exact ha i j hij (by omega)
theorem ER(h2:2<=n)(Q:Array Nat->Shared->Prop)(hQ:∀p',fj n p'->D7 key p' n->Q p' s):(kas_sort n).kasWp cmp Q s:=by
 unfold kas_sort;rw[R6];have g0:fj n (List.toArray (List.range n)):=⟨by simp,by simp⟩;refine DL hkey hc g0 h2 _ fun m p' g h1 hm ha=>?_;show (if m<n then _ else _:KasT (Array Nat)).kasWp cmp Q s;by_cases e:m<n
 ·rw [OA e];have em:max m 1=m:=by omega
  rw[em];exact Cy hkey hc (n-m) p' m Q g (by omega) ha hQ
 ·rw [OB e];have em:m=n:=by omega
  rw[em]at ha;exact hQ p' g ha
end
def uH(k:List Int):Int:=k.getD 0 0*6+k.getD 1 0
theorem iz{k:List Int}(h:k∈prs):∃a b:Int,k=[a,b]/\0<=a/\a<b/\b<6:=by
 have key:∀k∈prs,0<=k.getD 0 0/\k.getD 0 0<k.getD 1 0/\k.getD 1 0<6/\k=[k.getD 0 0,k.getD 1 0]:=by decide +kernel
 obtain⟨h1,h2,h3,h4⟩:=key k h;exact⟨_,_,h4,h1,h2,h3⟩
theorem Gg{k k':List Int}(h:k∈prs)(h':k'∈prs)(e:uH k=uH k'):k=k':=by
 obtain⟨a,b,rfl,h1,h2,h3⟩:=iz h;obtain⟨c,d,rfl,h4,h5,h6⟩:=iz h';have e':a*6+b=c*6+d:=e;have:a=c:=by omega
 have:b=d:=by omega
 subst_vars;rfl
section
theorem xA {h:Heap}{a b:Int}{r:Addr} (t:Tk prog w h [a,b] r):∃o n t1 t2,h.get? r=some o/\o.cls=.type "tuple" /\ o.data=.seq #[.int a t1,.int b t2] n:=by
 obtain⟨o,items,n,ho,hc,hd,hi⟩:=t;cases hi':items.toList with
 |nil=>rw[hi']at hi;cases hi
 |cons v1 r1=>
  rw[hi']at hi;cases hi with
  |cons h1 t1=>
   cases t1 with
   |cons h2 t2=>
    cases t2;obtain⟨x1,e1⟩:=Ov (k:=a) h1;obtain⟨x2,e2⟩:=Ov (k:=b) h2
    have e:items=#[.int a x1,.int b x2]:=by
     apply Array.toList_inj.mp;rw[hi',e1,e2]
    exact⟨o,n,x1,x2,ho,hc,by rw[hd,e]⟩
theorem Fz{x y:Addr}{k k':List Int}{Q:Bool->Shared->Prop}(hx:Tk prog w s.heap k x)(hy:Tk prog w s.heap k' y)(hk:k∈prs)(hk':k'∈prs)(h:Q (decide (uH k<uH k')) s) :
  wpAny (model prog w) A (keyLt' (tuples' true) (.ref x) (.ref y)) Q E s:=by
 obtain⟨a,b,rfl,h1,h2,h3⟩:=iz hk;obtain⟨c,d,rfl,h4,h5,h6⟩:=iz hk';obtain⟨o,n,t1,t2,ho,_,hd⟩:=xA hx;obtain⟨o',n',t1',t2',ho',_,hd'⟩:=xA hy;have h':Q (decide (a*6+b<c*6+d)) s:=h;refine kat_lt ho hd ho' hd' ?_;show KatLex prog w A true (decide (2<2)) Q [(.int a t1,.int c t1'),(.int b t2,.int d t2')] 0 s;refine kat_cons (Oy ?_);by_cases e1:a=c
 ·rw [show (a == c) = true by simpa using e1];refine kat_yes (kat_cons (Oy ?_));by_cases e2:b=d
  ·rw [show (b == d) = true by simpa using e2];refine kat_yes (kat_nil ?_);have:decide (a*6+b<c*6+d)=decide (2<2):=by rw[R7];omega
   rw[<- this];exact h'
  ·rw [show (b == d) = false by simpa using e2];refine kat_no ?_;show wpAny _ A (oneLt' false _ _) Q _ s;refine kat_one _ _ (lt_int ?_);have:decide (a*6+b<c*6+d)=decide (b<d):=by rw[R7];omega
   show Q _ s;rw[<- this];exact h'
 ·rw [show (a == c) = false by simpa using e1];refine kat_no ?_;show wpAny _ A (keyLt' oneType' _ _) Q _ s;refine kat_lt_int ?_;have:decide (a*6+b<c*6+d)=decide (a<c):=by rw[R7];omega
  rw[<- this];exact h'
end
def iE(ps:List KP):Prop:=ps.Pairwise fun p q=>uH p.1<uH q.1
def bg(ps:List KP):List Value:=ps.map fun p=>Value.ref p.2
section
theorem yU{h:Heap}:∀{ps:List KP},(∀p∈ps,p.1∈prs)->(∀p∈ps,Tk prog w h p.1 p.2)->∃fs,KatTups h (bg ps) fs/\fs.length=ps.length/\∀v∈fs,∃i t,v=Value.int i t
 |[],_,_=>⟨[],KatTups.nil,rfl,fun v hv=>by simp at hv⟩
 |p::ps,hk,ht=>by
  obtain⟨fs,h1,h2,h3⟩:=yU (ps:=ps) (fun q hq=>hk q (OM _ hq)) (fun q hq=>ht q (OM _ hq));obtain⟨a,b,e,_⟩:=iz (hk p OL);have t:=ht p OL;rw[e]at t;obtain⟨o,n,t1,t2,ho,hc,hd⟩:=xA t;refine⟨.int a t1::fs,KatTups.cons ho hc hd rfl h1,by rw[QJ,QJ,h2],fun v hv=>?_⟩;rcases OO.mp hv with q|q
  ·exact⟨a,t1,q⟩
  ·exact h3 v q
theorem Jk{ps:List KP}(hk:∀p∈ps,p.1∈prs)(hn:(ps.map (·.1)).Nodup){p:Array Nat}(g:fj ps.length p)(ha:D7 (fun i=>uH (ps.getD i ([],0)).1) p ps.length) :
  ∃out:List KP,(p.toList.map fun i=>(bg ps).getD i Value.none)=bg out/\out.Perm ps/\iE out:=by
 refine⟨p.toList.map fun i=>ps.getD i ([],0),?_,?_,?_⟩
 ·unfold bg;rw[Rb];refine Rc fun i hi=>?_;have hi':i<ps.length:=OH.mp (g.perm.mem_iff.mp hi);simp[R8,hi']
 ·refine (g.perm.map _).trans ?_
  have:(List.range ps.length).map (fun i=>ps.getD i ([],0))=ps:=by
   apply R9;intro i;rw[PU];by_cases hi:i<ps.length
   ·rw[List.getElem?_range hi];simp[hi]
   ·rw[Sa (by simpa using hi),Sa (by omega)];rfl
  rw[this]
 ·unfold iE;rw[List.pairwise_map];refine List.pairwise_iff_getElem.mpr fun i j hi hj hij=>?_;have hi':i<p.size:=by simpa using hi
  have hj':j<p.size:=by simpa using hj
  have:=ha i j hij (by rw[<- g.size];exact hj');unfold at' at this;simpa[Array.getD,hi',hj'] using this
theorem xV{ps:List KP}{P:PySem.Fin->Shared->Prop}(ho:s.heap.get? a=some (seqObj "list" (bg ps).toArray n))(hk:∀p∈ps,p.1∈prs)(hn:(ps.map (·.1)).Nodup)(hT:∀p∈ps,Tk prog w s.heap p.1 p.2)(h:∀out:List KP,out.Perm ps->iE out->P (.done (.ret .none)) {s with heap:=sortedHeap s.heap a (bg ps) (bg out).toArray}):
  wpAny (model prog w) A (Builtin.«list.sort» ⟨[.ref a],[]⟩) P E s:=by
 have hlen:=mK hk hn;have hvl:(bg ps).length=ps.length:=by unfold bg;rw[PZ]
 rw[list_sort_plain];have hal:a<s.heap.objs.size:=OC ho;refine O3 (listItems_at ho rfl ?_);refine O3 (Sb ho rfl ?_ (by rw[Pq,hvl];exact OI hlen (by decide)) (QR _));obtain⟨e1,ho1⟩:∃e1,(s.heap.update a (Obj.mapSeq fun _=>#[])).get? a=some (seqObj "list" #[] e1):=⟨_,Sd ho (fun _=>#[])⟩;refine O3 (seqEpoch_at ho1 rfl ?_);refine O3 (wpAny_newTuple ?_);refine O3 (Se ?_);refine O4 ?_
 have ho6:(((s.heap.update a (Obj.mapSeq fun _=>#[])).push (seqObj "tuple" (bg ps).toArray 0)).push (seqObj "list" #[] 0)).get? a=some (seqObj "list" #[] e1):=by
  rw[Q8 _ _ _ (by rw[Sf,Sg];exact OF (QL hal)),Q8 _ _ _ (by rw[Sg];exact OF hal)];exact ho1
 show wpAny (model prog w) A _ P E {s with heap:=((s.heap.update a (Obj.mapSeq fun _=>#[])).push (seqObj "tuple" (bg ps).toArray 0)).push (seqObj "list" #[] 0)};dsimp only
 have hna:∀p∈ps,p.2≠a:=fun p hp e=>by
  obtain⟨o,items,m,ho',hc',_⟩:=hT p hp;rw[e,ho]at ho';have:=Ou ho';subst this;exact absurd (show Value.type "list" = Value.type "tuple" from hc') (by decide)
 generalize hS:({s with heap:=((s.heap.update a (Obj.mapSeq fun _=>#[])).push (seqObj "tuple" (bg ps).toArray 0)).push (seqObj "list" #[] 0)}:Shared)=s1;have eh1:s1.heap=((s.heap.update a (Obj.mapSeq fun _=>#[])).push (seqObj "tuple" (bg ps).toArray 0)).push (seqObj "list" #[] 0):=by rw[<- hS]
 have hT1:∀p∈ps,Tk prog w s1.heap p.1 p.2:=fun p hp=>by
  obtain⟨o,items,m,ho',rest⟩:=hT p hp;refine⟨o,items,m,?_,rest⟩;rw[eh1];refine O8 _ (O8 _ ?_);rw[Sh _ _ _ _ (hna p hp)];exact ho'
 rw[<- eh1]at ho6
 have hfin:∀out:List KP,out.Perm ps->iE out->P (.done (.ret .none)) {s1 with heap:=s1.heap.update a (Obj.mapSeq fun _=>(bg out).toArray)}:=fun out h1 h2=>by
  have q:=h out h1 h2;rw[<- hS];exact q
 have hszv:(bg ps).toArray.size=ps.length:=by rw[Pq,hvl]
 by_cases h2:(bg ps).toArray.size<2
 ·rw [OA h2, OA h2];refine O3 (O6 ?_);rw[StateT.run_pure];refine O3 (O6 ?_);dsimp only;refine O3 (seqEpoch_at ho6 rfl ?_)
  have eo:(arrOf (SortSt.mk' general' ((bg ps).toArray.zip (bg ps).toArray) #[] 7 none)).map (·.2)=(bg ps).toArray:=by
   show (((bg ps).toArray.zip (bg ps).toArray)).map (·.2)=_;apply Array.toList_inj.mp;rw[Array.toList_map,Array.toList_zip];exact List.map_snd_zip (Pf _)
  rw[eo];refine O3 (Sb ho6 rfl ?_ (QR _) (by show (bg ps).toArray.size<=_;rw[hszv];exact OI hlen (by decide)));simp only[Si,QI,Qf];refine O6 (hfin ps (List.Perm.refl _) ?_);rw[hszv]at h2
  match ps,h2 with
  |[],_=>exact List.Pairwise.nil
  |[_],_=>exact List.pairwise_singleton _ _
  |_::_::_,h=>rw[QJ,QJ]at h;omega
 ·rw [OB h2, OB h2];rw[hszv]at h2;obtain⟨fs,k1,k2,k3⟩:=yU hk hT1;refine O3 (kat_kind (T:=Value.type "int") k1 (by omega) (fun v hv=>?_) (by rfl) ?_)
  ·obtain⟨i,t,e⟩:=k3 v hv;rw[e];exact .now
  ·have et : (Value.type "int" != Value.type "tuple") = true := by decide
   rw[et]
   refine O3 (OW (kat_run (ks:=bg ps) (vs:=bg ps) (Q:=fun st' s'=>s'=s1/\failedOf st'=none/\∃out:List KP,out.Perm ps/\iE out/\(arrOf st').map (·.2)=(bg out).toArray)
    (G:=fun p s'=>s'=s1/\∃out:List KP,(p.toList.map fun i=>(bg ps).getD i Value.none)=bg out/\out.Perm ps/\iE out) rfl (by rw[hvl];omega) (by rw[hvl];omega) ?_ ?_) ?_ fun _ _ e=>e)
   ·rintro p st' s' hp har hf ⟨e, out, o1, o2, o3⟩
    exact⟨e,hf,out,o2,o3,by rw[kat_snds rfl har,o1]⟩
   ·rw [hvl];refine ER (key:=fun i=>uH (ps.getD i ([],0)).1) (fun i j hi hj e=>?_) (fun i j hi hj C hC=>?_) (by omega) _ (fun p g ha=>⟨rfl,Jk hk hn g ha⟩)
    ·have hi' : ps.getD i ([], 0) = ps[i] := by simp [R8, hi]
     have hj':ps.getD j ([],0)=ps[j]:=by simp[R8,hj]
     simp only[hi',hj']at e;have e2:=Gg (hk _ (Sj hi)) (hk _ (Sj hj)) e;have hil:i<(ps.map (·.1)).length:=by rw[PZ];exact hi
     have hjl:j<(ps.map (·.1)).length:=by rw[PZ];exact hj
     exact(OT (h₀:=hil) (h₁:=hjl) hn).mp (by simpa using e2)
    ·unfold kas_ask;have gi:(bg ps).getD i Value.none=.ref ps[i].2:=by unfold bg;simp[R8,hi]
     have gj:(bg ps).getD j Value.none=.ref ps[j].2:=by unfold bg;simp[R8,hj]
     have hi':ps.getD i ([],0)=ps[i]:=by simp[R8,hi]
     have hj':ps.getD j ([],0)=ps[j]:=by simp[R8,hj]
     rw[gi,gj];simp only[hi',hj']at hC;exact Fz (hT1 _ (Sj hi)) (hT1 _ (Sj hj)) (hk _ (Sj hi)) (hk _ (Sj hj)) hC
   ·rintro ⟨⟨⟩, st'⟩ s' ⟨rfl, hf, out, o1, o2, o3⟩
    dsimp only;refine O3 (seqEpoch_at ho6 rfl ?_);rw[o3];refine O3 (Sb ho6 rfl ?_ (QR _) (by show (bg out).toArray.size<=_;rw[Pq];unfold bg;rw[PZ,o1.length_eq];exact OI hlen (by decide)));rw[hf];simp only[Si,QI,Qf];exact O6 (hfin out o1 o2)
end
namespace Fx
theorem slot_setiter_next:Slot "set_iterator" "__next__" "set_iterator.__next__" :=
 .of (owner:="set_iterator") (n:="__next__") (by rw[typeLookup_type,builtinLookup_eq_fast];kernel_rfl) (by decide +kernel) (by decide +kernel) (by decide +kernel)
  (by first|exact .inl (by decide +kernel)|exact .inr (by decide +kernel)) (by rw[RT];kernel_rfl)
theorem entry_setiter_next:entryFor table "set_iterator.__next__" = some Builtin.«set_iterator.__next__»:=entryFor_of_fast (by kernel_rfl)
theorem args_setiter_next (a:Value):argsOk "set_iterator.__next__" ⟨[a],[]⟩:=by unfold argsOk;kernel_rfl
theorem entry_set_iter:entryFor table "set.__iter__" = some Builtin.«frozenset.__iter__»:=
 entryFor_alias (id':="frozenset.__iter__") (by kernel_rfl) rfl (by decide +kernel) (by kernel_rfl)
end Fx
def dE (h:Heap) (I S:Addr) (i n ep slot:Nat):Prop:=h.get? I=some {cls:=.type "set_iterator",dict:=none,data:=.fields #[.int (slot:Int) 0,.int (i:Int) 0,.ref S,.int (n:Int) 0,.int (ep:Int) 0],slots:=#[]}
def dO (w:World) (S:Addr) (ep:Nat) (es:Array (Int×Value)):List (Int×Value):=if w.params.followText "set-order" then (pickOrder (w.params.setOrder S ep) es).toList else es.toList
def dq (w:World) (ρ:List (Nat×Int×Value)) (i:Nat):Nat:=if w.params.followText "set-order" then 0 else if i=0 then 0 else (ρ.getD (i-1) (0,0,.none)).1+1
theorem sj{J:Type}(next:Nat->Nat):∀(fuel k:Nat)(left:List J)(out:Array J),left.length=fuel->(pickOrder.go next fuel k left out).toList.Perm (out.toList++left)
 |0,k,left,out,h=>by
  have:left=[]:=List.length_eq_zero_iff.mp h;subst this;show out.toList.Perm (out.toList++[]);rw[Pv]
 |fuel+1,k,left,out,h=>by
  have hlt:next k%left.length<left.length:=Nat.mod_lt _ (by omega)
  show (match left[next k%left.length]? with|some x=>_|none=>_:Array J).toList.Perm _;rw[Sk hlt];show (pickOrder.go next fuel (k+1) (left.eraseIdx (next k%left.length)) (out.push left[next k%left.length])).toList.Perm _;refine(sj next fuel (k+1) _ _ (by rw[List.length_eraseIdx_of_lt hlt];omega)).trans ?_;rw[Array.toList_push,Qy];refine List.Perm.append_left _ ?_;rw[List.singleton_append,List.eraseIdx_eq_take_drop_succ]
  have q:(left.take (next k%left.length)++left[next k%left.length]::left.drop (next k%left.length+1))=left:=by
   rw[List.getElem_cons_drop];exact Rt _ _
  have q2:=(List.perm_middle (a:=left[next k%left.length]) (l₁:=left.take (next k%left.length)) (l₂:=left.drop (next k%left.length+1))).symm;rw[q]at q2;exact q2
theorem kr{S:Addr}{ep:Nat}:(dO w S ep es).Perm es.toList:=by
 unfold dO;split
 ·have:=sj (w.params.setOrder S ep) es.size 0 es.toList #[] (by simp);simpa[pickOrder] using this
 ·exact List.Perm.refl _
theorem DQ(T:uI t es ρ)(hb:w.params.followText "set-order" = false)(hi:i<=ρ.length):SetTable.below t.place (dq w ρ i)=i:=by
 have r:D4 t.place.toList:=by rw[T.place];exact T.ris
 obtain⟨b1,b2,b3⟩:=ma r (dq w ρ i);have hsz:=T.size.1
 have gz:∀k,k<ρ.length->t.place.getD k (dq w ρ i)=(ρ.getD k (0,0,.none)).1:=fun k hk=>by
  have e:t.place[k]?=some (ρ[k]).1:=by rw[<- Q7,T.place,PU,Sk hk];rfl
  rw[Rz,e,R8,Sk hk];rfl
 have hris:∀a b,a<b->b<ρ.length->(ρ.getD a (0,0,.none)).1<(ρ.getD b (0,0,.none)).1:=fun a b hab hbz=>by
  rw[<- gz a (by omega),<- gz b hbz];exact tP r _ a b hab (by omega)
 have hs:dq w ρ i=if i=0 then 0 else (ρ.getD (i-1) (0,0,.none)).1+1:=by
  unfold dq;rw[hb,OB Pm]
 by_cases h0:i=0
 ·rw [OA h0] at hs;rw[hs]at b2⊢;by_cases hz:SetTable.below t.place 0=0
  ·rw[hz,h0]
  ·have:=b2 0 (by omega);omega
 ·rw [OB h0] at hs
  have hlo:¬ SetTable.below t.place (dq w ρ i)<=i-1:=fun hle=>by
   have:=b3 (i-1) hle (by omega);rw[gz _ (by omega)]at this;omega
  have hhi:¬ i<SetTable.below t.place (dq w ρ i):=fun hlt=>by
   have:=b2 i hlt;have hiz:i<ρ.length:=by omega
   rw[gz i hiz]at this;have:=hris (i-1) i (by omega) hiz;omega
  omega
section
theorem vw{o es ep t ρ}{Q:Option (Value×Nat)->Shared->Prop}(S:fN w s.heap a ps o es ep t ρ)(hi:i<=ρ.length)(h:Q (((dO w a ep es)[i]?).map fun e=>(e.2,dq w ρ (i+1))) s):wpAny (model prog w) A (setNext a (dq w ρ i) i ep) Q E s:=by
 unfold setNext;refine O3 (RL S.ho S.hd S.fits ?_);dsimp only;unfold setsByText;refine O3 (O3 (QP (O6 ?_)));cases hb:w.params.followText "set-order" with
 |true=>
  have e1:dO w a ep es=(pickOrder (w.params.setOrder a ep) es).toList:=by unfold dO;rw[hb,OA rfl]
  have e2:∀j,dq w ρ j=0:=fun j=>by unfold dq;rw[hb,OA rfl]
  rw[e1,e2]at h;show wpAny _ _ (if (w.params.followText "set-order")=true then _ else _) _ _ _;rw[hb,OA rfl];rw[OB (by simp)];refine O3 ?_;unfold setWalk;refine O3 (RL S.ho S.hd S.fits ?_);dsimp only;unfold setsByText;refine O3 (O3 (QP (O6 ?_)));show wpAny _ _ (if (w.params.followText "set-order")=true then _ else _) _ _ _;rw[hb,OA rfl];refine O3 (QP (O6 (O6 ?_)));rw[e2,<- Q7];exact h
 |false=>
  have e1:dO w a ep es=es.toList:=by unfold dO;rw[hb,OB Pm]
  have hled:t.led=true:=by rw[S.led,hb];rfl
  show wpAny _ _ (if (w.params.followText "set-order")=true then _ else _) _ _ _;rw[hb,OB Pm];have hdr:(!t.plain&&decide (es.size>1))=false:=by rw[S.plain];rfl
  show wpAny _ _ (if (!t.plain&&decide (es.size>1))=true then _ else _) _ _ _;rw[hdr,OB Pm];refine O3 ?_;show wpAny _ _ (if (!t.led && !es.isEmpty)=true then _ else _) _ _ _;rw[hled];simp only[RJ,Pd,QI,Qf];refine O6 (O6 ?_);rw[DQ S.tab hb hi];rw[e1,Q7]at h;by_cases hlt:i<ρ.length
  ·have ez : ρ[i]? = some ρ[i] := Sk hlt;have ee:=S.tab.hashAt ez;have ep':t.place[i]?=some (ρ[i]).1:=by rw[<- Q7,S.tab.place,PU,ez];rfl
   rw[ee,ep'];rw[ee]at h
   have es':dq w ρ (i+1)=(ρ[i]).1+1:=by
    unfold dq;rw[hb,OB Pm,OB (by omega),Nat.add_sub_cancel,R8,ez];rfl
   rw[es']at h;exact h
  ·have : es[i]? = none := by rw [RD, S.tab.size.2]; omega
   rw[this];rw[this]at h;exact h
end
section
theorem dE.typeIs{S:Addr}{ep slot:Nat}(h:dE s.heap I S i n ep slot):s.TypeIs (.ref I) "set_iterator" := ⟨_,h,rfl⟩
theorem gM{o es ep t ρ}(S:fN w s.heap a ps o es ep t ρ):s.TypeIs (.ref a) "set" := ⟨o,S.ho,S.ex.1⟩
theorem CT{o es ep t ρ}(S:fN w s.heap a ps o es ep t ρ)(hQ:Q (.ref s.heap.objs.size) {s with heap:=s.heap.push {cls:=.type "set_iterator",data:=.fields #[.int ((0:Nat):Int) 0,.int ((0:Nat):Int) 0,.ref a,.int (ρ.length:Int) 0,.int (ep:Int) 0]}}):
  wpAny (model prog w) A (pyIter (.ref a)) Q E s:=by
 refine wpAny_pyIter_slot (gM S) PySem.F.slot_set_iter (Ql PySem.F.slot_set_iter (gM S) Fx.entry_set_iter ?_ (PySem.F.args_set_iter_1 _));unfold Builtin.«frozenset.__iter__» Builtin.Frozenset.sizeOf;refine O3 (m:=Builtin.Frozenset.slot0 "__iter__" _) (Q3 (a:=a) rfl ?_);refine O3 (O3 (Sl S.ho S.hd S.fits (O6 ?_)));unfold setDrawn;refine O3 (O3 (RL S.ho S.hd S.fits ?_));dsimp only;unfold setsByText;refine O3 (O3 (QP (O6 (O6 ?_))));have hdr:(!w.params.followText "set-order" && (!t.plain&&decide (es.size>1)))=false:=by rw[S.plain];simp
 show wpAny _ _ (if (!w.params.followText "set-order" && (!t.plain&&decide (es.size>1)))=true then _ else _) _ _ _;rw[hdr,OB Pm];refine O3 (O6 ?_);refine O3 (wpAny_setEpoch_of S.ho S.hd S.fits ?_);refine O3 (O7 (O6 ⟨_,rfl, "set_iterator",_,⟨_,Pe _ rfl,rfl⟩,Fx.slot_setiter_next.lookup,?_⟩));rw[S.tab.size.2];exact hQ
theorem CU{o es ep t ρ}{v:Int×Value}{Q:Option Value->Shared->Prop}(S:fN w s.heap a ps o es ep t ρ)(hit:dE s.heap I a i ρ.length ep (dq w ρ i))(hv:(dO w a ep es)[i]?=some v)(hQ:∀h',dE h' I a (i+1) ρ.length ep (dq w ρ (i+1))->Heap.SameBut I s.heap h'->Q (some v.2) {s with heap:=h'}):wpAny (model prog w) A (pyNext (.ref I)) Q E s:=by
 have hT:=hit.typeIs;have hoi:=hit;unfold dE at hoi
 have hil:i<ρ.length:=by
  have:=(OS.mp hv).1;rw[kr.length_eq,OZ,S.tab.size.2]at this;exact this
 unfold pyNext;refine O3 (wpAny_attempt (Qj (name:=Str.ofString "__next__") hT Fx.slot_setiter_next (Ql Fx.slot_setiter_next hT Fx.entry_setiter_next ?_ (Fx.args_setiter_next _))));unfold Builtin.«set_iterator.__next__»;refine O3 (m:=slotArgs "__next__" 0 _) (Q3 (a:=(.ref I,[])) rfl ?_);dsimp only;unfold fieldsOf;refine O3 (O3 (Pc hoi ?_));refine O6 ?_;refine O3 (Sl S.ho S.hd S.fits ?_);rw[S.tab.size.2];simp only[Si,QI,Qf,Qd];refine O3 (vw S (OJ hil) ?_);rw[hv];dsimp only[Option.map_some];refine O3 (Sm hoi (by simp) fun h1 e1 sb1=>?_);refine O3 (Sm (s:={s with heap:=h1}) e1 (by simp) fun h2 e2 sb2=>?_);refine O6 ⟨v.2,rfl,O6 (hQ h2 ?_ (sb1.trans sb2))⟩;unfold dE;rw[e2];simp[rawInt]
theorem E3{o es ep t ρ}{Q:Option Value->Shared->Prop}(hh:A.handled=none)(S:fN w s.heap a ps o es ep t ρ)(hit:dE s.heap I a ρ.length ρ.length ep (dq w ρ ρ.length))(hQ:∀h',Heap.ExtBut I s.heap h'->Q none {s with heap:=h'}):wpAny (model prog w) A (pyNext (.ref I)) Q E s:=by
 have hT:=hit.typeIs;have hoi:=hit;unfold dE at hoi
 have hv:(dO w a ep es)[ρ.length]?=none:=by
  rw[List.getElem?_eq_none_iff,kr.length_eq,OZ,S.tab.size.2];exact Pf _
 unfold pyNext;refine O3 (wpAny_attempt (Qj (name:=Str.ofString "__next__") hT Fx.slot_setiter_next (Ql Fx.slot_setiter_next hT Fx.entry_setiter_next ?_ (Fx.args_setiter_next _))));unfold Builtin.«set_iterator.__next__»;refine O3 (m:=slotArgs "__next__" 0 _) (Q3 (a:=(.ref I,[])) rfl ?_);dsimp only;unfold fieldsOf;refine O3 (O3 (Pc hoi ?_));refine O6 ?_;refine O3 (Sl S.ho S.hd S.fits ?_);rw[S.tab.size.2];simp only[Si,QI,Qf,Qd];refine O3 (vw S (Pf _) ?_);rw[hv];dsimp only[Option.map_none];refine O3 (Sm hoi (by simp) fun h1 e1 sb1=>?_);refine O3 ?_;simp only[newExc,newTuple];refine O3 (O7 ?_ (by size_fits));refine O3 (m:=firstArgMember _ _) (Q3 (a:=Value.none) (by first|rfl|(simp only[firstArgMember];rfl)) ?_);refine O7 ?_ (by size_fits);simp only[raiseNew];refine O3 (wpAny_handled ?_);rw[show A.in1.handled=none from hh];refine O3 (O6 (wpAny_throw ?_));refine O3 (wpAny_isInstance (T:="StopIteration") (b:=true) ⟨_,Pe _ rfl,rfl⟩ isSubtype_stop ?_);exact O6 (hQ _ ((sb1.extBut.push _).push _))
end
namespace Fx
theorem entry_extend_loop:entryFor table "list.extend.loop" = some Builtin.«list.extend.loop»:=entryFor_of_fast (by kernel_rfl)
theorem plain_extend_loop:plainId "list.extend.loop" = true:=by decide +kernel
theorem split_set_len:splitId "set.__len__" = some ("set", "__len__"):=by decide +kernel
end Fx
section
theorem wN{o es ep t ρ}{Q:Bool->Shared->Prop}(S:fN w s.heap a ps o es ep t ρ)(h:Q false s):wpAny (model prog w) A (Builtin.List.listLengthHint (.ref a)) Q E s:=by
 unfold Builtin.List.listLengthHint;refine O3 (wpAny_specialOf (gM S) PySem.F.slot_set_len.lookup ?_);dsimp only;rw[Fx.split_set_len];dsimp only;refine O3 (wpAny_isInstance (gM S) sub_set_self ?_);simp only[RJ,QI,Qf];rw[OA (by rfl)];refine O3 (Qm (gM S) ?_);exact O6 h
theorem wO{R:Result->Shared->Prop}{o es ep t ρ}(hh:A.handled=none)(hIa:I≠a)(hIL:I≠L)(hLa:L≠a)(hz:ρ.length<=100):
  ∀(k i n:Nat) (s:Shared),ρ.length-i=k->i<=ρ.length->fN w s.heap a ps o es ep t ρ->dE s.heap I a i ρ.length ep (dq w ρ i)->s.heap.get? L=some (seqObj "list" (((dO w a ep es).take i).map (·.2)).toArray n) ->
   (∀h' m,(∀b u,b≠I->b≠L->s.heap.get? b=some u->h'.get? b=some u)->h'.get? L=some (seqObj "list" ((dO w a ep es).map (·.2)).toArray m)->R (.ok (.ret (.ref L))) {s with heap:=h'}) ->
   codeAny (model prog w) A (.builtin "list.extend.loop" ⟨[.ref L,.ref I,.ref L],[]⟩) R s:=by
 intro k
 induction k with
 |zero=>
  intro i n s ek hi S hit hL hR;have e:i=ρ.length:=by omega
  subst e;refine RO Fx.entry_extend_loop ?_;rw[RP Fx.plain_extend_loop _];show wpAny _ A.in1 (pyNext (.ref I) >>= _) _ _ s;refine O3 (E3 (by simpa using hh) S hit fun h' eb=>?_);show wpAny _ A.in1 (ret (.ref L)) _ _ _;refine O6 (hR h' n (fun b u hb _ q=>eb b u hb q) ?_);rw[Rj (by rw[kr.length_eq,OZ,S.tab.size.2];exact Pf _)]at hL;exact eb L _ (OP hIL) hL
 |succ k ih=>
  intro i n s ek hi S hit hL hR;have hil:i<(dO w a ep es).length:=by rw[kr.length_eq,OZ,S.tab.size.2];omega
  refine RO Fx.entry_extend_loop ?_;rw[RP Fx.plain_extend_loop _];show wpAny _ A.in1 (pyNext (.ref I) >>= _) _ _ s;refine O3 (CU S hit (Sk hil) fun h' hit' sb=>?_);have hL':h'.get? L=some (seqObj "list" (((dO w a ep es).take i).map (·.2)).toArray n):=(sb.2 L (OP hIL)).trans hL
  have hsz:(((dO w a ep es).take i).map (·.2)).toArray.size<=100:=by
   rw[Pq,PZ,PL];omega
  show wpAny _ A.in1 (Builtin.List.listUpdate (.ref L) _ >>= _) _ _ _;refine O3 (Sb (s:={s with heap:=h'}) hL' rfl ?_ (OI hsz (by decide)) (by rw[Array.size_push];exact OI (Nat.succ_le_succ hsz) (by decide)));have hL2:=Sd hL' (·.push ((dO w a ep es)[i]).2)
  have eL:(((dO w a ep es).take i).map (·.2)).toArray.push ((dO w a ep es)[i]).2=(((dO w a ep es).take (i+1)).map (·.2)).toArray:=by
   have q:(dO w a ep es).take (i+1)=(dO w a ep es).take i++[(dO w a ep es)[i]]:=by rw[List.take_add_one,Sk hil];rfl
   rw[q,Rv,List.push_toArray];rfl
  rw[eL]at hL2;have hsb2:=QY h' L (Obj.mapSeq (·.push ((dO w a ep es)[i]).2));refine O6 ⟨RR Fx.plain_extend_loop _,ih (i+1) _ _ (by omega) (by omega) ?_ ?_ hL2 fun h'' m kk hm=>?_⟩
  ·refine⟨?_,S.ex,S.hd,S.tab,S.plain,S.led,S.big,S.perm⟩;exact(hsb2.2 a (OP hLa)).trans ((sb.2 a (OP hIa)).trans S.ho)
  ·exact(hsb2.2 I hIL).trans hit'
  ·refine hR h'' m (fun b u hb1 hb2 q=>kk b u hb1 hb2 ?_) hm;exact(hsb2.2 b hb2).trans ((sb.2 b hb1).trans q)
theorem uo{J:Type}{f:J->β}{l m:List β}(h:l.Perm m):∀ps:List J,m=ps.map f->∃qs:List J,qs.Perm ps/\l=qs.map f:=by
 induction h with
 |nil=>
  intro ps e;have:ps=[]:=List.map_eq_nil_iff.mp e.symm;exact⟨[],by rw[this],rfl⟩
 |cons x _ ih=>
  intro ps e;cases ps with
  |nil=>cases e
  |cons p ps=>
   rw[Qp]at e;obtain⟨qs,h1,h2⟩:=ih ps (Rg e).2;exact⟨p::qs,h1.cons p,by rw[Qp,<- h2,(Rg e).1]⟩
 |swap x y l=>
  intro ps e
  match ps,e with
  |p::q::r,e=>
   rw[Qp,Qp]at e;obtain⟨e1,e2⟩:=Rg e;obtain⟨e2,e3⟩:=Rg e2;exact⟨q::p::r,List.Perm.swap _ _ _,by rw[Qp,Qp,e1,e2,e3]⟩
 |trans _ _ ih1 ih2=>
  intro ps e;obtain⟨qs,h1,h2⟩:=ih2 ps e;obtain⟨rs,h3,h4⟩:=ih1 qs h2;exact⟨rs,h3.trans h1,h4⟩
theorem wV{o es ep t ρ}{Q:List Value->Shared->Prop}(hh:A.handled=none)(S:fN w s.heap a ps o es ep t ρ)(hz:ρ.length<=100)(h:∀qs:List (Int×Value),qs.Perm ps->∀h',(∀b u,s.heap.get? b=some u->h'.get? b=some u)->s.heap.objs.size<=h'.objs.size->Q (qs.map (·.2)) {s with heap:=h'}):wpAny (model prog w) A (collect (.ref a)) Q E s:=by
 have hal:a<s.heap.objs.size:=OC S.ho;unfold collect;refine O3 (R0 (RO entry_proto_collect' ?_));show wpAny _ _ (do again (.builtin "list.__iadd__" ⟨[<- newList [],.ref a],[]⟩)) _ _ s;refine O3 (Se (O6 ⟨RW _ (by decide +kernel),RO entry_list_iadd' ?_⟩));show wpAny _ _ (Builtin.List.listExtendWith (.ref s.heap.objs.size) (.ref a) (.ref s.heap.objs.size)) _ _ {s with heap:=s.heap.push (seqObj "list" #[] 0)};have S1:fN w (s.heap.push (seqObj "list" #[] 0)) a ps o es ep t ρ:=⟨O8 _ S.ho,S.ex,S.hd,S.tab,S.plain,S.led,S.big,S.perm⟩;unfold Builtin.List.listExtendWith;refine O3 (Qm (gM (s:={s with heap:=s.heap.push (seqObj "list" #[] 0)}) S1) ?_)
 have hsame:Builtin.List.listSameRef (.ref s.heap.objs.size) (.ref a)=false:=by
  show (s.heap.objs.size == a)=false;simpa using Pb hal
 rw[hsame,OB (by decide)];refine O3 (CT (s:={s with heap:=s.heap.push (seqObj "list" #[] 0)}) S1 ?_);dsimp only;generalize hH:(s.heap.push (seqObj "list" #[] 0)).push {cls:=.type "set_iterator",data:=.fields #[.int ((0:Nat):Int) 0,.int ((0:Nat):Int) 0,.ref a,.int (ρ.length:Int) 0,.int (ep:Int) 0]}=H2;have eI:(s.heap.push (seqObj "list" #[] 0)).objs.size=s.heap.objs.size+1:=by rw[Sf]
 have hk2:∀b u,s.heap.get? b=some u->H2.get? b=some u:=fun b u q=>by rw[<- hH];exact O8 _ (O8 _ q)
 have S2:fN w H2 a ps o es ep t ρ:=⟨hk2 a o S.ho,S.ex,S.hd,S.tab,S.plain,S.led,S.big,S.perm⟩;have hL2:H2.get? s.heap.objs.size=some (seqObj "list" #[] 0):=by rw[<- hH];exact O8 _ (Pe _ rfl)
 have hI2:H2.get? (s.heap.objs.size+1)=some {cls:=.type "set_iterator",data:=.fields #[.int ((0:Nat):Int) 0,.int ((0:Nat):Int) 0,.ref a,.int (ρ.length:Int) 0,.int (ep:Int) 0]}:=by
  rw[<- hH,<- eI];exact Pe _ rfl
 rw[eI];refine O3 (O4 (wN (s:={s with heap:=H2}) S2 ?_));rw[OA (by rfl)];refine O3 (O9 ?_);refine O3 ?_;unfold Builtin.List.listTouch;refine O3 (Sb (s:={s with heap:=H2}) hL2 rfl ?_ (QR _) (by decide));have hL3:=Sd hL2 (·.push Value.none);refine Sb (s:={s with heap:=H2.update s.heap.objs.size (Obj.mapSeq (·.push Value.none))}) hL3 rfl ?_ (by decide) (by decide);have hL4:=Sd hL3 (·.pop);have sb3:=QY H2 s.heap.objs.size (Obj.mapSeq (·.push Value.none));have sb4:=(sb3.trans (QY (H2.update s.heap.objs.size (Obj.mapSeq (·.push Value.none))) s.heap.objs.size (Obj.mapSeq (·.pop))));generalize hH4:(H2.update s.heap.objs.size (Obj.mapSeq (·.push Value.none))).update s.heap.objs.size (Obj.mapSeq (·.pop))=H4 at hL4 sb4;have neL:a≠s.heap.objs.size:=OF hal;have neI:s.heap.objs.size+1≠s.heap.objs.size:=Nat.succ_ne_self _;refine O6 ⟨RW _ (by decide +kernel),?_⟩
 refine wO (by simpa using hh) (Pb (QL hal)) neI (OP neL) hz (ρ.length-0) 0 _ {s with heap:=H4} (by omega) (QR _)
  ⟨(sb4.2 a neL).trans S2.ho,S.ex,S.hd,S.tab,S.plain,S.led,S.big,S.perm⟩ ?_ (by rw[List.take_zero];exact hL4) fun h' m kk hm=>?_
 ·unfold dE;have e0:dq w ρ 0=0:=by unfold dq;split <;> simp
  rw[e0];exact(sb4.2 _ neI).trans hI2
 ·dsimp only;refine O3 (Pc hm ?_);refine O6 ?_;have hp:(dO w a ep es).Perm ps:=kr.trans (by rw[S.tab.ents];exact S.perm)
  have fin:=h (dO w a ep es) hp h' fun b u q=>by
   have hb:b<s.heap.objs.size:=OC q;exact kk b u (OF (QL hb)) (OF hb) ((sb4.2 b (OF hb)).trans (hk2 b u q))
  exact fin (OJ (OC hm))
theorem wR{ps:List KP}{Q:List Value->Shared->Prop}(hh:A.handled=none)(S:f6 w s.heap a ps)(h:∀qs:List KP,qs.Perm ps->∀h',(∀b u,s.heap.get? b=some u->h'.get? b=some u)->s.heap.objs.size<=h'.objs.size->Q (bg qs) {s with heap:=h'}):wpAny (model prog w) A (collect (.ref a)) Q E s:=by
 obtain⟨o,es,ep,t,ρ,S,hk,hn⟩:=S;have h15:=mK hk hn;refine wV hh S (by rw[S.len,PZ];omega) fun qs hq h' k1 k2=>?_;obtain⟨rs,q1,q2⟩:=uo hq ps rfl;have q3:qs.map (·.2)=bg rs:=by rw[q2,Rb];rfl
 rw[q3];exact h rs q1 h' k1 k2
theorem Aa{x:Value}{ps:List KP}(hk:∀p∈ps,p.1∈prs)(hn:(ps.map (·.1)).Nodup)(hT:∀p∈ps,Tk prog w s.heap p.1 p.2)(hcol:∀Q':List Value->Shared->Prop,(∀qs:List KP,qs.Perm ps->∀h',(∀b u,s.heap.get? b=some u->h'.get? b=some u)->s.heap.objs.size<=h'.objs.size->Q' (bg qs) {s with heap:=h'})->wpAny (model prog w) A.in1 (collect x) Q' E s)(h:∀out:List KP,out.Perm ps->iE out->∀h' D,s.heap.objs.size<=D->(∀b u,s.heap.get? b=some u->h'.get? b=some u)->(∃n,h'.get? D=some (seqObj "list" (bg out).toArray n))->Q (.ref D) {s with heap:=h'}):
  wpAny (model prog w) A (call (.builtin "sorted") [x]) Q E s:=by
 refine Calls.call_function_entry kind_sorted plain_sorted entry_sorted (args_sorted1 _) ?_;unfold Builtin.«sorted»;refine O3 (m:=checkCount "sorted" 1 1 _) (O6 ?_);refine O3 (hcol _ fun qs hqs h1 k1 hsz=>?_);have hkq:∀p∈qs,p.1∈prs:=fun p hp=>hk p (hqs.mem_iff.mp hp);have hnq:(qs.map (·.1)).Nodup:=(hqs.map _).nodup_iff.mpr hn;have hlen:=mK hkq hnq;have hvl:(bg qs).length<=15:=by unfold bg;rw[PZ];exact hlen
 refine O3 (Se ?_ (OI hvl (by decide)));have hoL:(h1.push (seqObj "list" (bg qs).toArray 0)).get? h1.objs.size=some (seqObj "list" (bg qs).toArray 0):=Pe _ rfl;have hnn:∀b u,h1.get? b=some u->b≠h1.objs.size:=fun b u q=>OF (OC q);refine O3 (O4 (Ql slot_list_sort (s:={s with heap:=h1.push (seqObj "list" (bg qs).toArray 0)}) ⟨_,hoL,rfl⟩ entry_list_sort ?body (args_list_sort _)))
 case body=>
  refine xV (s:={s with heap:=h1.push (seqObj "list" (bg qs).toArray 0)}) hoL hkq hnq (fun p hp=>?_) fun out h2 h3=>?_
  ·obtain⟨o,its,n,ho,rest⟩:=hT p (hqs.mem_iff.mp hp);exact⟨o,its,n,O8 _ (k1 _ _ ho),rest⟩
  ·refine ⟨_, rfl, O6 ⟨_, rfl, h out (h2.trans hqs) h3 _ h1.objs.size hsz (fun b u q => ?_) ?_⟩⟩
   ·have hb:=hnn b u (k1 b u q);unfold sortedHeap;rw[Sh _ _ _ _ hb];refine O8 _ (O8 _ ?_);rw[Sh _ _ _ _ hb];exact O8 _ (k1 b u q)
   ·unfold sortedHeap;have g1:=Sd hoL (fun _=>#[]);have g2:=O8 (seqObj "list" #[] 0) (O8 (seqObj "tuple" (bg qs).toArray 0) g1);exact⟨_,Sd g2 (fun _=>(bg out).toArray)⟩
theorem xU{ps:List KP}(hh:A.handled=none)(S:f6 w s.heap a ps)(hT:∀p∈ps,Tk prog w s.heap p.1 p.2)(h:∀out:List KP,out.Perm ps->iE out->∀h' D,s.heap.objs.size<=D->(∀b u,s.heap.get? b=some u->h'.get? b=some u)->(∃n,h'.get? D=some (seqObj "list" (bg out).toArray n))->Q (.ref D) {s with heap:=h'}):
  wpAny (model prog w) A (call (.builtin "sorted") [.ref a]) Q E s:=by
 obtain⟨o,es,ep,t,ρ,S0,hk,hn⟩:=id S;exact Aa hk hn hT (fun Q' hq=>wR (by simpa using hh) S hq) h
end
end RS
namespace PySem
open Sem (wp)
theorem sM(o:Obj)(f):(o.mapFields f).dict=o.dict:=by
 obtain⟨c,d,dt,sl⟩:=o;cases dt <;> rfl
namespace Heap
def TracedD(h base:Heap)(e:Addr)(cls a0:Value)(dx:Option Addr):Prop:=
 ∃oe vs T oT ts,h.get? e=some oe/\(oe.cls=cls/\oe.dict=dx/\vs[0]?=some a0)/\oe.data=.fields vs/\vs[1]?=some (.ref T)/\base.get? T=none/\T≠e/\h.get? T=some oT/\oT.data=.fields ts/\ts[3]?=some .none
def TracedAtD(h base:Heap)(e:Addr)(cls a0:Value)(dx:Option Addr)(fl:Value):Prop:=
 ∃oe vs T oT ts,h.get? e=some oe/\(oe.cls=cls/\oe.dict=dx/\vs[0]?=some a0)/\oe.data=.fields vs/\vs[1]?=some (.ref T)/\base.get? T=none/\T≠e/\h.get? T=some oT/\oT.data=.fields ts/\ts[3]?=some fl
theorem TracedD.at{h:Heap}{e:Addr}(x:h.TracedD base e cls a0 dx):h.TracedAtD base e cls a0 dx .none:=x
def NotedD(base:Heap)(l:List Env)(e:Addr)(cls a0:Value)(dx:Option Addr)(fl:Value)(h h':Heap):Prop:=
 base.StaysIn h'/\h'.FunFrames base l/\h'.TracedAtD base e cls a0 dx fl/\∀b o,h.get? b=some o->(∀vs,o.data≠.fields vs)->∃sl,h'.get? b=some {o with slots:=sl}
end Heap
section
variable{M:Model}
def mh(base:Heap)(l:List Env)(e:Addr)(cls a0:Value)(dx:Option Addr)(h h':Heap):Prop:=
 base.StaysIn h'/\h'.FunFrames base l/\h'.TracedD base e cls a0 dx /\
  ∀b o,h.get? b=some o->(∀vs,o.data≠.fields vs)->∃sl,h'.get? b=some {o with slots:=sl}
theorem jS{e:Addr}{vs:Array Value}{head:Value}{Q:Unit->Shared->Prop}(hfr:A.frames=some (env::outer))(hl:s.heap.FunFrames base (env::outer))(hf:env.frame=some L)(he:s.heap.get? e=some oe)(hkb:base.StaysIn s.heap)(hen:base.get? e=none)(hd:oe.data=.fields vs)(hsz:1<vs.size)(h0:vs[0]?=some a0)(h:∀h',mh base (env::outer) e oe.cls a0 oe.dict s.heap h'->Q () {s with heap:=h'}):
  wpAny M A (do let a <- frameOf env;let pl <- entryPlaceOf L hadNext;let b <- EntryCells.newEntry head a .none (rawInt L) .none pl;setField (.ref e) 1 b) (fun _ s'=>wpAny M A (setFlight (.ref e) none) Q E s') E s:=by
 have hene:e∉(env::outer).filterMap (·.frame):=fun hm=>by
  obtain⟨_,o,ho,hnf⟩:=hl.mem hm;rw[he]at ho;injection ho with ho;subst ho;exact hnf vs hd
 refine O3 (wpAny_frameOf_fun hfr hl hf fun h₁ hs₁=>?_);refine O3 (wpAny_entryPlaceOf fun pl hpl=>?_);unfold EntryCells.newEntry newFields;refine O3 (O7 ?_ (hpl.sizeOk5 _ _ _ _ _));have he₁:h₁.get? e=some oe:=(hs₁.2.1 e hene).trans he;have kb₁:base.StaysIn h₁:=fun b o hbo=>(hs₁.2.1 b fun hm=>by rw[(hl.mem hm).1]at hbo;cases hbo).trans (hkb b o hbo);have he₂:=O8 (h:=h₁) {cls:=.type "traceback",dict:=none,data:=.fields ([head,.ref L,.none,rawInt L,.none]++(if pl.isEmpty then List.replicate 6 Value.none else pl)).toArray} he₁;refine QX he₂ hd hsz ?_;have hTe:h₁.objs.size≠e:=Pb (OC he₁);have hd₃:=Q0 hd (·.setIfInBounds 1 (Value.ref h₁.objs.size));have he₃:=Qr (Obj.mapFields (·.setIfInBounds 1 (Value.ref h₁.objs.size))) he₂ (QZ hd₃)
 have hT₃:=(Qs (h₁.push {cls:=.type "traceback",dict:=none,data:=.fields ([head,.ref L,.none,rawInt L,.none]++(if pl.isEmpty then List.replicate 6 Value.none else pl)).toArray})
  (Obj.mapFields (·.setIfInBounds 1 (Value.ref h₁.objs.size))) (OP hTe)).trans (Pe h₁ rfl)
 unfold setFlight;refine O3 (Qh he₃ hd₃ (x:=.ref h₁.objs.size) (by simp[hsz]) ?_);rw[OA (show (Value.ref h₁.objs.size != Value.none)=true from by simp)];refine QX hT₃ rfl (by simp only[Pq,PY,QJ,Rf] <;> omega) (h _ ?_)
 have keep:∀b o,b≠e->h₁.get? b=some o ->
   (((h₁.push { cls := .type "traceback", dict := none, data := .fields ([head, .ref L, .none, rawInt L, .none] ++ (if pl.isEmpty then List.replicate 6 Value.none else pl)).toArray }).update e (Obj.mapFields (·.setIfInBounds 1 (Value.ref h₁.objs.size)))).update h₁.objs.size
     (Obj.mapFields (·.setIfInBounds 3 ((none:Option Addr).elim Value.none fun f=>rawInt f)))).get? b=some o:=fun b o hbe hb=>by
  have hbT:h₁.objs.size≠b:=Pb (OC hb);rw[Qs _ _ hbT,Qs _ _ (OP hbe)];exact O8 _ hb
 have noRecord:∀b o,s.heap.get? b=some o->(∀vs,o.data≠.fields vs)->b≠e:=fun b o hb hnf q=>by
  rw[q,he]at hb;injection hb with hb;subst hb;exact hnf vs hd
 refine⟨fun b o hbo=>keep b o (fun q=>by rw[q,hen]at hbo;cases hbo) (kb₁ b o hbo),hl.of_keeps fun b o hb hnf=>?_,?_,fun b o hb hnf=>?_⟩
 ·obtain⟨sl,hs⟩:=hs₁.2.2 b o hb;exact⟨_,keep b _ (noRecord b o hb hnf) hs,rfl⟩
 ·refine⟨_,_,h₁.objs.size,_,_,?_,⟨Q2 _ _,sM _ _,by rw[Sn (by decide)];exact h0⟩,hd₃,by simp[hsz],kb₁.fresh,hTe,Qr _ hT₃ (QZ (Q0 rfl _)),Q0 rfl _,by first|(simp;done)|(rcases hpl with rfl|⟨_,_,_,_,_,_,_,rfl⟩ <;> simp)⟩;rw[Qs _ _ hTe];exact he₃
 ·obtain⟨sl,hs⟩:=hs₁.2.2 b o hb;exact⟨sl,keep b _ (noRecord b o hb hnf) hs⟩
theorem kK{e:Addr}{vs:Array Value}{Q:Unit->Shared->Prop}(hfr:A.frames=some (env::outer))(hl:s.heap.FunFrames base (env::outer))(hf:env.frame=some L)(he:s.heap.get? e=some oe)(hkb:base.StaysIn s.heap)(hen:base.get? e=none)(hd:oe.data=.fields vs)(h1:vs[1]?=some .none)(h0:vs[0]?=some a0)(h:∀h',mh base (env::outer) e oe.cls a0 oe.dict s.heap h'->Q () {s with heap:=h'}):wpAny M A (leaving env (.ref e)) Q E s:=by
 unfold leaving noteFrame;simp only[hf];refine O3 (O3 (Qh he hd h1 ?_));rw[OB (by decide)];exact jS hfr hl hf he hkb hen hd (Ri.mp h1).1 h0 h
theorem lr{e:Addr}{Q:Unit->Shared->Prop}(hfr:A.frames=some (env::outer))(hl:s.heap.FunFrames base (env::outer))(hf:env.frame=some L)(ht:s.heap.TracedD base e cls a0 dx)(hkb:base.StaysIn s.heap)(hen:base.get? e=none)(h:∀h',mh base (env::outer) e cls a0 dx s.heap h'->Q () {s with heap:=h'}):wpAny M A (leaving env (.ref e)) Q E s:=by
 obtain⟨oe,vs,T,oT,ts,he,⟨hcls,hdx,h0⟩,hd,h1,hnT,hTe,hT,hdT,h3⟩:=ht;subst hcls hdx;unfold leaving noteFrame;simp only[hf];refine O3 (O3 (Qh he hd h1 ?_));rw[OA (show (Value.ref T != Value.none)=true from by simp)];refine O3 (Qh hT hdT h3 ?_);rw[OB (show ¬ ((Value.none == rawInt L)=true) from by simp[rawInt])];refine O3 (QX hT hdT (Ri.mp h3).1 ?_);have other:∀b,b≠T->(s.heap.update T (Obj.mapFields (·.setIfInBounds 3 Value.none))).get? b=s.heap.get? b:=fun b hb=>Qs _ _ (OP hb)
 have noRecord:∀b o,s.heap.get? b=some o->(∀vs,o.data≠.fields vs)->b≠T:=fun b o hb hnf q=>by
  rw[q,hT]at hb;injection hb with hb;subst hb;exact hnf ts hdT
 refine jS hfr (hl.of_keeps fun b o hb hnf=>⟨o,(other b (noRecord b o hb hnf)).trans hb,rfl⟩) hf ((other e (OP hTe)).trans he)
  (fun b o hbo=>(other b fun q=>by rw[q,hnT]at hbo;cases hbo).trans (hkb b o hbo)) hen hd (Ri.mp h1).1 h0
  fun h' ⟨x1,x2,x3,x4⟩=>h h' ⟨x1,x2,x3,fun b o hb hnf=>x4 b o ((other b (noRecord b o hb hnf)).trans hb) hnf⟩
def bP(base:Heap)(l:List Env)(e:Addr)(cls a0:Value)(dx:Option Addr)(h:Heap):Prop:=
 base.StaysIn h/\base.get? e=none/\h.FunFrames base l/\h.TracedD base e cls a0 dx
theorem bP.there{h:Heap}{l:List Env}{e:Addr}(x:bP base l e cls a0 dx h):∃ob,h.get? e=some ob/\ob.cls=cls:=by
 obtain⟨_,_,_,oe,_,_,_,_,he,hc,_⟩:=x;exact⟨oe,he,hc.1⟩
theorem nU{e:Addr}{Q:Unit->Shared->Prop}(hfr:A.frames=some (env::outer))(hf:env.frame=some L)(hfl:bP base (env::outer) e cls a0 dx s.heap)(hQ:∀h',bP base outer e cls a0 dx h'->s.heap.UpToSlots h'->Q () {s with heap:=h'}):wpAny M A (leaving env (.ref e)) Q E s:=by
 obtain⟨f1,f2,f3,f4⟩:=hfl;refine lr hfr f3 hf f4 f1 f2 fun h' hL=>?_;obtain⟨k1,⟨_,_,k2⟩,k3,k4⟩:=hL;exact hQ h' ⟨k1,f2,k2,k3⟩ k4
theorem t9{e:Addr}{vs:Array Value}{head:Value}{Q:Unit->Shared->Prop}(hfr:A.frames=some (env::outer))(hl:s.heap.FunFrames base (env::outer))(hf:env.frame=some L)(he:s.heap.get? e=some oe)(hkb:base.StaysIn s.heap)(hen:base.get? e=none)(hd:oe.data=.fields vs)(hsz:1<vs.size)(h0:vs[0]?=some a0)(h:∀h',Heap.NotedD base (env::outer) e oe.cls a0 oe.dict (rawInt L) s.heap h'->Q () {s with heap:=h'}):
  wpAny M A (do let a <- frameOf env;let pl <- entryPlaceOf L hadNext;let b <- EntryCells.newEntry head a .none (rawInt L) .none pl;setField (.ref e) 1 b) Q E s:=by
 have hene:e∉(env::outer).filterMap (·.frame):=fun hm=>by
  obtain⟨_,o,ho,hnf⟩:=hl.mem hm;rw[he]at ho;injection ho with ho;subst ho;exact hnf vs hd
 refine O3 (wpAny_frameOf_fun hfr hl hf fun h₁ hs₁=>?_);refine O3 (wpAny_entryPlaceOf fun pl hpl=>?_);unfold EntryCells.newEntry newFields;refine O3 (O7 ?_ (hpl.sizeOk5 _ _ _ _ _));have he₁:h₁.get? e=some oe:=(hs₁.2.1 e hene).trans he;have kb₁:base.StaysIn h₁:=fun b o hbo=>(hs₁.2.1 b fun hm=>by rw[(hl.mem hm).1]at hbo;cases hbo).trans (hkb b o hbo);have he₂:=O8 (h:=h₁) {cls:=.type "traceback",dict:=none,data:=.fields ([head,.ref L,.none,rawInt L,.none]++(if pl.isEmpty then List.replicate 6 Value.none else pl)).toArray} he₁;refine QX he₂ hd hsz (h _ ?_);have hTe:h₁.objs.size≠e:=Pb (OC he₁);have hd₃:=Q0 hd (·.setIfInBounds 1 (Value.ref h₁.objs.size));have he₃:=Qr (Obj.mapFields (·.setIfInBounds 1 (Value.ref h₁.objs.size))) he₂ (QZ hd₃)
 have hT₃:=(Qs (h₁.push {cls:=.type "traceback",dict:=none,data:=.fields ([head,.ref L,.none,rawInt L,.none]++(if pl.isEmpty then List.replicate 6 Value.none else pl)).toArray})
  (Obj.mapFields (·.setIfInBounds 1 (Value.ref h₁.objs.size))) (OP hTe)).trans (Pe h₁ rfl)
 have keep:∀b o,b≠e->h₁.get? b=some o ->
   ((h₁.push {cls:=.type "traceback",dict:=none,data:=.fields ([head,.ref L,.none,rawInt L,.none]++(if pl.isEmpty then List.replicate 6 Value.none else pl)).toArray}).update e (Obj.mapFields (·.setIfInBounds 1 (Value.ref h₁.objs.size)))).get? b=some o:=
  fun b o hbe hb=>by
   rw[Qs _ _ (OP hbe)];exact O8 _ hb
 have noRecord:∀b o,s.heap.get? b=some o->(∀vs,o.data≠.fields vs)->b≠e:=fun b o hb hnf q=>by
  rw[q,he]at hb;injection hb with hb;subst hb;exact hnf vs hd
 refine⟨fun b o hbo=>keep b o (fun q=>by rw[q,hen]at hbo;cases hbo) (kb₁ b o hbo),hl.of_keeps fun b o hb hnf=>?_,?_,fun b o hb hnf=>?_⟩
 ·obtain⟨sl,hs⟩:=hs₁.2.2 b o hb;exact⟨_,keep b _ (noRecord b o hb hnf) hs,rfl⟩
 ·exact⟨_,_,h₁.objs.size,_,_,he₃,⟨Q2 _ _,sM _ _,by rw[Sn (by decide)];exact h0⟩,hd₃,by simp[hsz],kb₁.fresh,hTe,hT₃,rfl,by first|(simp;done)|(rcases hpl with rfl|⟨_,_,_,_,_,_,_,rfl⟩ <;> simp)⟩
 ·obtain⟨sl,hs⟩:=hs₁.2.2 b o hb;exact⟨sl,keep b _ (noRecord b o hb hnf) hs⟩
theorem lq{e:Addr}{Q:Unit->Shared->Prop}(hfr:A.frames=some (env::outer))(hl:s.heap.FunFrames base (env::outer))(hf:env.frame=some L)(ht:s.heap.TracedD base e cls a0 dx)(hkb:base.StaysIn s.heap)(hen:base.get? e=none)(h:∀h',Heap.NotedD base (env::outer) e cls a0 dx (rawInt L) s.heap h'->Q () {s with heap:=h'}):wpAny M A (noteFrame (.ref e) env) Q E s:=by
 obtain⟨oe,vs,T,oT,ts,he,⟨hcls,hdx,h0⟩,hd,h1,hnT,hTe,hT,hdT,h3⟩:=ht;subst hcls hdx;unfold noteFrame;simp only[hf];refine O3 (Qh he hd h1 ?_);rw[OA (show (Value.ref T != Value.none)=true from by simp)];refine O3 (Qh hT hdT h3 ?_);rw[OB (show ¬ ((Value.none == rawInt L)=true) from by simp[rawInt])];refine O3 (QX hT hdT (Ri.mp h3).1 ?_);have other:∀b,b≠T->(s.heap.update T (Obj.mapFields (·.setIfInBounds 3 Value.none))).get? b=s.heap.get? b:=fun b hb=>Qs _ _ (OP hb)
 have noRecord:∀b o,s.heap.get? b=some o->(∀vs,o.data≠.fields vs)->b≠T:=fun b o hb hnf q=>by
  rw[q,hT]at hb;injection hb with hb;subst hb;exact hnf ts hdT
 refine t9 hfr (hl.of_keeps fun b o hb hnf=>⟨o,(other b (noRecord b o hb hnf)).trans hb,rfl⟩) hf ((other e (OP hTe)).trans he)
  (fun b o hbo=>(other b fun q=>by rw[q,hnT]at hbo;cases hbo).trans (hkb b o hbo)) hen hd (Ri.mp h1).1 h0
  fun h' ⟨x1,x2,x3,x4⟩=>h h' ⟨x1,x2,x3,fun b o hb hnf=>x4 b o ((other b (noRecord b o hb hnf)).trans hb) hnf⟩
theorem gK{l:List Env}{e:Addr}{fl:Value}{Q:Unit->Shared->Prop}(hkb:base.StaysIn s.heap)(hl:s.heap.FunFrames base l)(ht:s.heap.TracedAtD base e cls a0 dx fl)(h:∀h',base.StaysIn h'->h'.FunFrames base l->h'.TracedD base e cls a0 dx->(∀b o,s.heap.get? b=some o->(∀vs,o.data≠.fields vs)->h'.get? b=some o)->Q () {s with heap:=h'}):
  wpAny M A (setFlight (.ref e) none) Q E s:=by
 obtain⟨oe,vs,T,oT,ts,he,hcls,hd,h1,hnT,hTe,hT,hdT,h3⟩:=ht;have hsz3:3<ts.size:=(Ri.mp h3).1
 have other:∀b,b≠T->(s.heap.update T (Obj.mapFields (·.setIfInBounds 3 ((none:Option Addr).elim Value.none fun f=>rawInt f)))).get? b=s.heap.get? b:=
  fun b hb=>Qs _ _ (OP hb)
 have noRecord:∀b o,s.heap.get? b=some o->(∀vs,o.data≠.fields vs)->b≠T:=fun b o hb hnf q=>by
  rw[q,hT]at hb;injection hb with hb;subst hb;exact hnf ts hdT
 unfold setFlight;refine O3 (Qh he hd h1 ?_);rw[OA (show (Value.ref T != Value.none)=true from by simp)]
 refine QX hT hdT hsz3 (h _ (fun b o hbo=>(other b fun q=>by rw[q,hnT]at hbo;cases hbo).trans (hkb b o hbo))
  (hl.of_keeps fun b o hb hnf=>⟨o,(other b (noRecord b o hb hnf)).trans hb,rfl⟩) ?_ fun b o hb hnf=>(other b (noRecord b o hb hnf)).trans hb)
 exact⟨oe,vs,T,_,_,(other e (OP hTe)).trans he,hcls,hd,h1,hnT,hTe,Qr _ hT (QZ (Q0 hdT _)),Q0 hdT _,by simp[hsz3]⟩
def qI(base:Heap)(l:List Env)(e:Addr)(cls a0:Value)(dx:Option Addr)(L:Addr)(h:Heap):Prop:=
 base.StaysIn h/\base.get? e=none/\h.FunFrames base l/\h.TracedAtD base e cls a0 dx (rawInt L)
theorem oJ{e:Addr}{Q:Unit->Shared->Prop}(hfr:A.frames=some (env::outer))(hf:env.frame=some L)(hfl:bP base (env::outer) e cls a0 dx s.heap)(hQ:∀h',qI base (env::outer) e cls a0 dx L h'->s.heap.UpToSlots h'->Q () {s with heap:=h'}):wpAny M A (noteFrame (.ref e) env) Q E s:=by
 obtain⟨f1,f2,f3,f4⟩:=hfl;refine lq hfr f3 hf f4 f1 f2 fun h' hN=>?_;obtain⟨k1,k2,k3,k4⟩:=hN;exact hQ h' ⟨k1,f2,k2,k3⟩ k4
theorem t8{l:List Env}{e:Addr}{Q:Unit->Shared->Prop}(hh:qI base l e cls a0 dx L s.heap)(hQ:∀h',bP base l e cls a0 dx h'->s.heap.UpToSlots h'->Q () {s with heap:=h'}):wpAny M A (setFlight (.ref e) none) Q E s:=by
 obtain⟨f1,f2,f3,f4⟩:=hh;exact gK f1 f3 f4 fun h' k1 k2 k3 k4=>hQ h' ⟨k1,f2,k2,k3⟩ fun b o hb hn=>⟨o.slots,k4 b o hb hn⟩
theorem mj{l:List Env}{e:Addr}{Q:Unit->Shared->Prop}(hh:bP base l e cls a0 dx s.heap)(hQ:∀h',bP base l e cls a0 dx h'->s.heap.UpToSlots h'->Q () {s with heap:=h'}):wpAny M A (setFlight (.ref e) none) Q E s:=by
 obtain⟨f1,f2,f3,f4⟩:=hh;exact gK f1 f3 f4.at fun h' k1 k2 k3 k4=>hQ h' ⟨k1,f2,k2,k3⟩ fun b o hb hn=>⟨o.slots,k4 b o hb hn⟩
theorem m8{e:Addr}{vs:Array Value}{Q:Unit->Shared->Prop}(hfr:A.frames=some (env::outer))(hf:env.frame=some L)(hkb:base.StaysIn s.heap)(hl:s.heap.FunFrames base (env::outer))(hen:base.get? e=none)(he:s.heap.get? e=some oe)(hd:oe.data=.fields vs)(h1:vs[1]?=some .none)(h0:vs[0]?=some a0)(hQ:∀h',bP base outer e oe.cls a0 oe.dict h'->s.heap.UpToSlots h'->Q () {s with heap:=h'}):wpAny M A (leaving env (.ref e)) Q E s:=by
 refine kK hfr hl hf he hkb hen hd h1 h0 fun h' hL=>?_;obtain⟨k1,⟨_,_,k2⟩,k3,k4⟩:=hL;exact hQ h' ⟨k1,hen,k2,k3⟩ k4
end
section
variable{h:Heap}{g:Array GenState}{d:Drawn}{t:Nat}{os:OsState}
variable{nm q:Str}{N:Addr}{bs bm bmB:List Value}{hdct:Bool}{sn:List Str}{sub:List Value}{ab:Bool}{col:Option Bool}{dd:Option Addr}{k0 k1 k2 k3 k5:Option Value}{σ newId initId:String}
theorem wq(F:ExcBaseFacts σ newId initId bmB)(T:OwnTail h bmB bm){rest:List Value}{Q:Fin->Shared->Prop}(hC:h.get? C=some (excClassObj nm q C N bs bm hdct sn sub ab col dd k0 k1 k2 k3 k5 newId))(hn:h.Ns N mN)(hi:mN "__init__" = some (.ref fI))(hfI:h.get? fI=some oI)(hfc:oI.cls=.type "function")(hq : ∀ h' e, Heap.MadeExcOf h h' e (.ref C) rest ->
   wpAny (model prog w) A (call (.ref fI) (.ref e::rest)) (fun r s'=>r=.none/\Q (.done (.ret (.ref e))) s') E ⟨h',g,d,t,os⟩)(hrest:rest.length<=sizeLine:=by size_fits):
  wpAny (model prog w) A (Builtin.«type.__call__» ⟨.ref C::rest,[]⟩) Q E ⟨h,g,d,t,os⟩:=by
 repeat (first|with_reducible refine So hC ?_|with_reducible refine wpAny_madeBy_exc hC ?_|wp_step)
 refine codeAny_call_builtin_code (RW _ F.quiet) (wpAny_check_new_subT F T hC ?_);refine codeAny_exc_new_subT F T hC ?_ hrest;show wpAny _ _ _ _ _ _
 have hC₁:=O8 {cls:=.ref C,data:=.fields #[.ref h.objs.size,.none,.none,.none,.bool false,.none]}
  (O8 {cls:=.type "tuple",data:=.seq rest.toArray} hC)
 have hfI₁:=O8 {cls:=.ref C,data:=.fields #[.ref h.objs.size,.none,.none,.none,.bool false,.none]}
  (O8 {cls:=.type "tuple",data:=.seq rest.toArray} hfI)
 have hn₁:((h.push {cls:=.type "tuple",data:=.seq rest.toArray}).push {cls:=.ref C,data:=.fields #[.ref h.objs.size,.none,.none,.none,.bool false,.none]}).Ns N mN:=
  let ⟨o,es,ep,e,r⟩:=hn;⟨o,es,ep,O8 _ (O8 _ e),r⟩
 have hget:((h.push {cls:=.type "tuple",data:=.seq rest.toArray}).push
   {cls:=.ref C,data:=.fields #[.ref h.objs.size,.none,.none,.none,.bool false,.none]}).get? (h.objs.size+1)=some
   {cls:=.ref C,data:=.fields #[.ref h.objs.size,.none,.none,.none,.bool false,.none]}:=by heap_get
 have hcC:(Value.ref C::bm).contains (.ref C)=true:=by simp
 have T₁:=T.keeps (h':=(h.push {cls:=.type "tuple",data:=.seq rest.toArray}).push {cls:=.ref C,data:=.fields #[.ref h.objs.size,.none,.none,.none,.bool false,.none]})
  fun b o e=>O8 _ (O8 _ e)
 unfold isInstance
 repeat (first|with_reducible refine So hget ?_|(with_reducible refine wpAny_isSubtype_exc hC₁ ?_;rw[hcC])|wp_step)
 show wpAny _ _ (typeLookup (.ref C) _) _ _ _;refine wpAny_typeLookup_tail hC₁ hn₁ T₁ F.mroIs F.init.lookup ?_;rw[hi];refine O4 (O3 ?_);unfold bindSpecial;refine O3 (Qm (T:="function") ⟨_,hfI₁,hfc⟩ ?_);rw[OA (by decide)];refine O6 (O3 (OW (hq _ (h.objs.size+1) ⟨fun b o hb=>O8 _ (O8 _ hb),ON (Q9 _),h.objs.size,hget,ON (Pf _),?_⟩) (fun r s' hr=>?_) fun _ _ x=>x))
 ·exact O8 _ (Heap.get?_push_at rfl rfl)
 ·obtain ⟨rfl, hQ⟩ := hr
  wp_walk
  exact hQ
theorem yw(F:ExcBaseFacts σ newId initId bmB)(T:OwnTail h bmB bm){rest:List Value}(hC:h.get? C=some (excClassObj nm q C N bs bm hdct sn sub ab col dd k0 k1 k2 k3 k5 newId))(hn:h.Ns N mN)(hi:mN "__init__" = some (.ref fI))(hfI:h.get? fI=some oI)(hfc:oI.cls=.type "function")(hq : ∀ h' e, Heap.MadeExcOf h h' e (.ref C) rest ->
   wpAny (model prog w) (A.under (.builtin "type.__call__" ⟨.ref C::rest,[]⟩)) (call (.ref fI) (.ref e::rest)) (fun r s'=>r=.none/\Q (.ref e) s') E ⟨h',g,d,t,os⟩)(hrest:rest.length<=sizeLine:=by size_fits):
  wpAny (model prog w) A (call (.ref C) rest) Q E ⟨h,g,d,t,os⟩:=by
 have f1:=tc_lookup;have f2:=tc_bind (.ref C);have hT:(⟨h,g,d,t,os⟩:Shared).TypeIs (.ref C) "type" := ⟨_,hC,rfl⟩;refine Pw (QO ?_);show wpAny _ _ (callAny (.ref C) _) _ _ _
 repeat (any_goals (first|assumption|with_reducible refine So hC ?_|wp_step))
 refine⟨rfl,?_⟩;refine codeAny_call_builtin_at (RW _ (by decide +kernel)) entry_typeCall (wpAny_check_type_call_sub hC (wq (hrest:=hrest) F T hC hn hi hfI hfc fun h' e hm=>?_));exact hq h' e hm
end
section
variable{M:Model}
variable{nm q:Str}{N:Addr}{bs bm:List Value}{hdct:Bool}{sn:List Str}{sub:List Value}{ab:Bool}{col:Option Bool}{dd:Option Addr}{k0 k1 k2 k3 k5:Option Value}{newId:String}
theorem ky{x:Sem Value}{Q:Flow->Shared->Prop}(hbase:bm.contains (.type "BaseException")=true)(hh:A.handled=none)(h : wpAny M A x (fun v s₁ => ∃ e dx t, v = .ref e /\ s₁.heap.get? C = some (excClassObj nm q C N bs bm hdct sn sub ab col dd k0 k1 k2 k3 k5 newId) /\
   s₁.heap.get? e=some {cls:=.ref C,dict:=dx,data:=.fields #[.ref t,.none,.none,.none,.bool false,.none]}/\E (.ref e) s₁) E s):
  wpAny M A (raiseStmt env (some x) none) Q E s:=by
 have hcB:(Value.ref C::bm).contains (.type "BaseException")=true:=by rw[List.contains_cons,hbase,Bool.or_true]
 unfold raiseStmt;refine O3 (OW h (fun v s₁ h₁=>?_) fun _ _ x=>x);obtain⟨e,dx,t,rfl,hC,he,hE⟩:=h₁;obtain⟨hp,g,d,tk,os⟩:=s₁
 repeat (first|with_reducible refine So he ?_|with_reducible refine So hC ?_|(with_reducible refine wpAny_isSubtype_exc hC ?_;rw[hcB])|wp_step)
 exact wpAny_raiseNew_none hh hE
end
section
variable{nm q:Str}{N:Addr}{bs bm bmB:List Value}{hdct:Bool}{sn:List Str}{sub:List Value}{ab:Bool}{col:Option Bool}{dd:Option Addr}{k0 k1 k2 k3 k5:Option Value}{σ newId initId:String}
theorem w9(F:ExcBaseFacts σ newId initId bmB){args:List Expr}{Q:Flow->Shared->Prop}(hbase:bm.contains (.type "BaseException")=true)(hh:A.handled=none)(hplain:(backTo cpos (starEach args env)).any (·.1)=false)(hi:mN "__init__" = some (.ref fI))(h : wpAny (model prog w) A (eval (.Name x np) env) (fun f s₁ => f = .ref C /\ wpAny (model prog w) A (evalArgs (.ref C) true (backTo cpos (starEach args env)) [])
   (fun a s₂ => a.kw = [] /\ a.pos.length <= sizeLine /\ s₂.heap.get? C = some (excClassObj nm q C N bs bm hdct sn sub ab col dd k0 k1 k2 k3 k5 newId) /\ s₂.heap.Ns N mN /\ OwnTail s₂.heap bmB bm /\
    (∃ oI, s₂.heap.get? fI = some oI /\ oI.cls = .type "function") /\ ∀ h' e, Heap.MadeExcOf s₂.heap h' e (.ref C) a.pos ->
     wpAny (model prog w) (A.under (.builtin "type.__call__" ⟨.ref C::a.pos,[]⟩)) (call (.ref fI) (.ref e::a.pos)) (fun r s₃=>r=.none/\∃dx t,s₃.heap.get? C=some (excClassObj nm q C N bs bm hdct sn sub ab col dd k0 k1 k2 k3 k5 newId) /\
      s₃.heap.get? e=some {cls:=.ref C,dict:=dx,data:=.fields #[.ref t,.none,.none,.none,.bool false,.none]}/\E (.ref e) s₃) E {s₂ with heap:=h'}) E s₁) E s):
  wpAny (model prog w) A (exec (.Raise (some (.Call (.Name x np) args [] cpos)) none pos) env) Q E s:=by
 rw[arm_exec_Raise]
 first
  |refine O3 (O5 (ky (C:=C) (nm:=nm) (q:=q) (N:=N) (bs:=bs) (bm:=bm) (hdct:=hdct) (sn:=sn) (sub:=sub) (ab:=ab) (col:=col) (dd:=dd) (k0:=k0) (k1:=k1) (k2:=k2) (k3:=k3) (k5:=k5) (newId:=newId) hbase hh (O3 (OW (Sr (OW h (fun f s₁ h₁=>?_) fun _ _ x=>x)) (fun v s₃ h₃=>O3 (O5 (O6 h₃))) fun _ _ x=>x))))
  |(simp only[evalOpt,Option.map];refine O3 (O5 (ky (C:=C) (nm:=nm) (q:=q) (N:=N) (bs:=bs) (bm:=bm) (hdct:=hdct) (sn:=sn) (sub:=sub) (ab:=ab) (col:=col) (dd:=dd) (k0:=k0) (k1:=k1) (k2:=k2) (k3:=k3) (k5:=k5) (newId:=newId) hbase hh (O3 (OW (Sr (OW h (fun f s₁ h₁=>?_) fun _ _ x=>x)) (fun v s₃ h₃=>O3 (O5 (O6 h₃))) fun _ _ x=>x)))))
  |(refine O3 (O5 (ky (C:=C) (nm:=nm) (q:=q) (N:=N) (bs:=bs) (bm:=bm) (hdct:=hdct) (sn:=sn) (sub:=sub) (ab:=ab) (col:=col) (dd:=dd) (k0:=k0) (k1:=k1) (k2:=k2) (k3:=k3) (k5:=k5) (newId:=newId) hbase hh ?_));refine O3 (OW (Sr (OW h (fun f s₁ h₁=>?_) fun _ _ x=>x)) (fun v s₃ h₃=>O3 (O5 (O6 h₃))) fun _ _ x=>x))
 obtain⟨rfl,h₁⟩:=h₁;unfold callWith;refine O3 (O4 (OW h₁ (fun a s₂ h₂=>O3 (O5 ?_)) fun _ _ x=>x));obtain⟨apos,akw⟩:=a;obtain⟨hkw,hlen,hC,hn,T,⟨oI,hfI,hfc⟩,h₂⟩:=h₂;obtain rfl:akw=[]:=hkw;obtain⟨hp,g,d,tk,os⟩:=s₂;simp only[hplain];refine O3 (wpAny_keeperOf_exc hC ?_);refine O3 (yw (hrest:=hlen) F T hC hn hi hfI hfc fun h' e hm=>OW (h₂ h' e hm) (fun r s' hr=>?_) fun _ _ x=>x);obtain⟨hr,dx,t,q1,q2,q3⟩:=hr;exact⟨hr,O3 (O4 (wpAny_point (O6 ⟨e,dx,t,rfl,q1,q2,q3⟩)))⟩
end
end PySem
namespace L2
open PySem PySem.Spec PyProof.Rows
theorem dk.thr{h:Heap}(x:dk P w H h a o):∃ob,h.get? a=some ob:=by
 cases o with
 |lst xs=>obtain⟨_,_,_,_,e⟩:=x;exact⟨_,e⟩
 |tup xs=>obtain⟨_,_,_,ob,e,_⟩:=x;exact⟨_,e⟩
 |dK kvs=>obtain⟨_,_,_,_,o,_,_,e,_⟩:=x;exact⟨_,e⟩
 |dT kvs=>obtain⟨_,_,_,_,o,_,_,e,_⟩:=x;exact⟨_,e⟩
 |set S n=>obtain⟨o,_,_,_,e,_⟩:=x;exact⟨_,e⟩
 |ins C dx fs=>obtain⟨_,_,_,e,_⟩:=x;exact⟨_,e⟩
 |own y=>obtain⟨_,e⟩:=x;exact⟨_,e⟩
 |xd fs=>obtain⟨_,⟨_,_,_,e,_⟩,_⟩:=x;exact⟨_,e⟩
 |rng lo hi=>obtain⟨_,_,_,e⟩:=x;exact⟨_,e⟩
 |frz ob u=>obtain⟨e,_⟩:=x;exact⟨_,e⟩
 |tbl ps=>exact⟨_,show h.get? a=some _ from x⟩
 |met f y=>exact⟨_,show h.get? a=some _ from x⟩
 |ext φ=>obtain⟨_,⟨_,e⟩,_⟩:=x;exact⟨_,e⟩
theorem Bm{fs:List Addr}{H':Hp}{h0 h1 σ:Heap}(u:Un fs [] H0 H' h0 h1)(hB:∀b o,h0.get? b=some o->b∉fs->∃o',σ.get? b=some o')(k1:σ.StaysIn h1)(k2:σ.StaysIn h')(up:h1.UpToSlots h')(hf:∀b∈fs,H0 b=none/\∃o,h0.get? b=some o/\∀vs,o.data≠.fields vs):Un fs [] H0 H' h0 h' where
 keep:=fun b o e n hb hx=>by
  obtain⟨o',q⟩:=hB b o e hb;have q1:=k1 b o' q;rw[u.keep b o e n hb hx]at q1;cases q1;exact k2 b o q
 slot:=fun b o e n hb hx=>by
  obtain⟨sl,q⟩:=u.slot b o e n hb hx;obtain⟨_,o1,e1,nf⟩:=hf b hb;rw[e]at e1;cases e1;obtain⟨sl',q'⟩:=up b _ q nf;exact⟨sl',q'⟩
 free:=u.free
 there:=fun b o e hx=>by
  by_cases hb:b∈fs
  ·obtain⟨n,o1,e1,nf⟩:=hf b hb;rw[e]at e1;cases e1;obtain⟨sl,q⟩:=u.slot b o e n hb hx;obtain⟨sl',q'⟩:=up b _ q nf;exact⟨_,q'⟩
  ·obtain⟨o',q⟩:=hB b o e hb;exact⟨o',k2 b o' q⟩
 tups:=u.tups
 frzs:=u.frzs
 tbls:=u.tbls
def ka(ea C:Addr)(dx:Option Addr):HO:=.ext fun h=>∃oe,h.get? ea=some oe/\oe.cls=.ref C/\oe.dict=dx/\W.notCls oe=true
def Ec(P:Program)(w:World):uJ:=fun outer H s E e s'=>
 ∃ea C a0 dx σ H',e=.ref ea/\s'.os=s.os/\AllBare s'.gens/\Un (pM outer) [] H H' s.heap s'.heap/\nr P w H' σ/\bP σ outer ea (.ref C) a0 dx s'.heap/\H' ea=none /\
  (∀b o,s.heap.get? b=some o->b∉pM outer->∃o',σ.get? b=some o')/\E (.ref C) (some ea) (b9 H' ea (ka ea C dx))
section
variable{s0:Shared}{E:XK}
abbrev nq(P:Program)(w:World)(K:W.Frag)(mg:Str->Option Value)(base:Heap)(N:List Str)(qual:Str)(scope:Scope)(f:Addr)(cdv:Value)(A:Around)(outer:List Env)(s0:Shared)(H0:Hp)(E:XK):Cx:=pO (Ec P w) P w K mg base N qual scope f cdv A outer s0 H0 E
theorem Ga(hb:b∈pM (envOfC qual scope s0.heap.objs.size f cdv::outer)):b=s0.heap.objs.size\/b∈pM outer:=by
 obtain⟨env,he,hf⟩:=Ph.mp hb;rcases OO.mp he with rfl|he
 ·exact .inl (Ou hf).symm
 ·exact .inr (Ph.mpr ⟨env,he,hf⟩)
theorem oj(I:aX (nq P w K mg base N qual scope f cdv A outer s0 H0 E) pins B H s){o:Obj}(e:s0.heap.get? b=some o)(hb:b∉pM outer):
  (∃o',s.heap.get? b=some o')/\b∉pM (envOfC qual scope s0.heap.objs.size f cdv::outer):=
 ⟨I.base.there b o e (fun z => by cases z), fun z => by
  rcases Ga z with z|z
  ·exact absurd (OC e) (by rw[z];exact OE _)
  ·exact hb z⟩
theorem sD(I:aX (nq P w K mg base N qual scope f cdv A outer s0 H0 E) pins B H s):∀b∈pM outer,H0 b=none/\∃o,s0.heap.get? b=some o/\∀vs,o.data≠.fields vs:=
 fun b hb=>⟨I.ok.frf b hb,(I.ok.funs.mem hb).2⟩
theorem LQ:jG (Ec P w) (nq P w K mg base N qual scope f cdv A outer s0 H0 E) E:=by
 intro pins B H s e s' I hc;obtain⟨ea,C,a0,dx,σ,H',rfl,os,bare,un,hok,fl,hn,bk,q⟩:=hc;have α:=I.call' os un (hok.kept fl.1) bare (ch:=[]) (fun b z=>absurd z (by simp))
 have hB:∀b o,s0.heap.get? b=some o->b∉pM outer->∃o',σ.get? b=some o':=fun b o e hb=>by
  obtain⟨⟨o1,e1⟩,nb⟩:=oj I e hb;exact bk b o1 e1 nb
 refine nU I.ok.frames rfl fl fun h' fl' up=>?_;exact⟨ea,C,a0,dx,σ,H',rfl,α.os,bare,Bm α.base hB fl.1 fl'.1 up (sD I),hok,fl',hn,hB,q⟩
end
structure Cx.Fn(X:Cx):Prop where
 ex:X.ex=[]
 stk:X.stack=X.env::X.outer
 fr:X.env.frame=some X.env.locals
def Mp(X:Cx)(pins:List (Addr×Obj))(E:XK)(e:Value)(s':Shared):Prop:=
 ∃ea C a0 dx σ B H',e=.ref ea/\aX X pins B H' s'/\nr X.prog X.w H' σ/\bP σ X.stack ea (.ref C) a0 dx s'.heap/\H' ea=none /\
  (∀b o,X.s₀.heap.get? b=some o->b∉X.fs->∃o',σ.get? b=some o')/\(∀p∈X.pn++pins,∃o',σ.get? p.1=some o')/\E (.ref C) (some ea) (b9 H' ea (ka ea C dx))
abbrev Cx.tri(X:Cx)(pins:List (Addr×Obj))(E:XK):Cx:={X with pn:=X.pn++pins,xe:=Mp X pins E}
theorem Cx.Ok.tri{X:Cx}{E:XK}(ok:X.Ok):(X.tri pins E).Ok:=
 ⟨ok.mod,ok.kind,ok.glob,ok.blt,ok.above,ok.inj,ok.has,ok.cab,ok.hd,ok.frames,ok.stk,ok.exf,ok.bs,ok.bsz,ok.noex,ok.exfs,ok.funs,ok.frf⟩
theorem Cx.Ok.untri{X:Cx}{E:XK}(ok:(X.tri pins E).Ok):X.Ok:=
 ⟨ok.mod,ok.kind,ok.glob,ok.blt,ok.above,ok.inj,ok.has,ok.cab,ok.hd,ok.frames,ok.stk,ok.exf,ok.bs,ok.bsz,ok.noex,ok.exfs,ok.funs,ok.frf⟩
section
variable{X:Cx}{pins':List (Addr×Obj)}{E:XK}
theorem aX.tri(I:aX X pins B H s):aX (X.tri pins E) [] B H s:=
 ⟨I.ok.tri,I.os,I.bare,I.base,I.loc,I.cell,I.free,I.freeC,fun p hp=>I.pin p (by simpa using hp),I.hok,I.len⟩
theorem aX.untri(I:aX (X.tri pins E) pins' B H s):aX X pins B H s:=
 ⟨I.ok.untri,I.os,I.bare,I.base,I.loc,I.cell,I.free,I.freeC,fun p hp=>I.pin p (OR _ hp),I.hok,I.len⟩
theorem SP.untri{D:nv}{f:Flow}(h:SP (X.tri pins E) pins' D f s'):SP X pins D f s':=by
 cases f with
 |next=>obtain⟨B',H',I,q⟩:=h;exact⟨B',H',I.untri,q⟩
 |brk=>obtain⟨B',H',I,q⟩:=h;exact⟨B',H',I.untri,q⟩
 |cont=>obtain⟨B',H',I,q⟩:=h;exact⟨B',H',I.untri,q⟩
 |ret u=>obtain⟨v,B',H',I,r,q⟩:=h;exact⟨v,B',H',I.untri,r,q⟩
end
theorem zu{X:Cx}(F:X.Fn)(hb:b∈pM X.stack):b=X.env.locals\/b∈X.fs:=by
 rw[F.stk]at hb;obtain⟨env,he,hf⟩:=Ph.mp hb;rcases OO.mp he with rfl|he
 ·rw[F.fr]at hf;exact .inl (Ou hf).symm
 ·exact .inr (Ph.mpr ⟨env,he,hf⟩)
theorem LP{X:Cx}{E:XK}(F:X.Fn):jG (Ec X.prog X.w) (X.tri pins E) E:=by
 intro pins' B H s e s' I hc;obtain⟨ea,C,a0,dx,σ,H',rfl,os,bare,un,hok,fl,hn,bk,q⟩:=hc;have α:=I.call' os un (hok.kept fl.1) bare (ch:=[]) (fun b z=>absurd z (by simp));refine⟨ea,C,a0,dx,σ,B,H',rfl,α.untri,hok,fl,hn,fun b o e hb=>?_,fun p hp=>?_,q⟩
 ·obtain ⟨o1, e1⟩ := I.base.there b o e (by show b ∉ X.ex; rw [F.ex]; exact fun z => by cases z);refine bk b o1 e1 fun z=>?_;rcases zu F z with z|z
  ·have:=I.ok.above;rw[z]at e;exact absurd (OC e) (Nat.not_lt.mpr this)
  ·exact hb z
 ·obtain ⟨p1, p2, p3, p4, p5⟩ := I.pin p (OR _ hp);refine bk p.1 p.2 p1 fun z=>?_;rcases zu F z with z|z
  ·exact p3 z
  ·exact p4 z
theorem zD{h:Heap}{c:Addr}{v:Option Value}(x:h.IsCell c v)(up:h.UpToSlots h'):h'.IsCell c v:=by
 obtain⟨o,ho,hd⟩:=x;obtain⟨sl,q⟩:=up c o ho fun vs z=>by rw[hd]at z;cases z
 exact⟨_,q,hd⟩
section
variable{X:Cx}{σ:Heap}
theorem aX.up(F:X.Fn)(I:aX X pins B H s)(hok:nr X.prog X.w H σ)(c1:∀b o,X.s₀.heap.get? b=some o->b∉X.fs->∃o',σ.get? b=some o')(c2:∀p∈X.pn++pins,∃o',σ.get? p.1=some o')
  (k1:σ.StaysIn s.heap) (k2:σ.StaysIn h') (up:s.heap.UpToSlots h'):aX X pins B H {s with heap:=h'}:=by
 have hb:Un X.fs [] X.H₀ H X.s₀.heap h':=Bm (by rw[<- F.ex];exact I.base) c1 k1 k2 up fun b hb=>⟨I.ok.frf b hb,(I.ok.funs.mem hb).2⟩;refine⟨I.ok,I.os,I.bare,by rw[F.ex];exact hb,?_,fun x c e=>?_,I.free,I.freeC,fun p hp=>?_,hok.kept k2,I.len⟩
 ·obtain ⟨m, hn, hl⟩ := I.loc;refine⟨m,up.ns hn,fun i x v a b c=>?_⟩;obtain⟨u,r,l⟩:=hl i x v a b c;refine⟨u,r,?_⟩;rcases l with l|⟨k,c,e,hc⟩
  ·exact .inl l
  ·exact .inr ⟨k,c,e,zD hc up⟩
 ·obtain⟨v,hv⟩:=I.cell x c e;exact⟨v,zD hv up⟩
 ·obtain⟨p1,p2⟩:=I.pin p hp;obtain⟨o',e⟩:=c2 p hp;have e1:=k1 _ _ e;rw[p1]at e1;cases e1;exact⟨k2 _ _ e,p2⟩
theorem Un.track{fs ex:List Addr}{h0 h:Heap}(u:Un fs ex H0 H h0 h)(hn:h0.get? ea=none)(hH:H ea=none):Un fs ex H0 (b9 H ea o) h0 h where
 keep:=u.keep
 slot:=u.slot
 free:=fun b ob e n hx=>by rw[aV fun z=>by rw[z,hn]at e;cases e];exact u.free b ob e n hx
 there:=u.there
 tups:=fun b xs q=>by have:=u.tups b xs q;rw[aV (bQ this hH)];exact this
 frzs:=fun b ob xs q=>by have:=u.frzs b ob xs q;rw[aV (bQ this hH)];exact this
 tbls:=fun b ps q=>by obtain⟨m,this⟩:=u.tbls b ps q;exact⟨m,by rw[aV (bQ this hH)];exact this⟩
theorem aX.track(F:X.Fn)(I:aX X pins B H s)(c1:∀b o,X.s₀.heap.get? b=some o->b∉X.fs->∃o',σ.get? b=some o')(c2:∀p∈X.pn++pins,∃o',σ.get? p.1=some o')
  (fl:bP σ X.stack ea (.ref C) a0 dx s.heap) (hH:H ea=none):aX X pins B (b9 H ea (ka ea C dx)) s:=by
 obtain⟨f1,f2,f3,oe,vs,T,oT,ts,he,⟨hc,hdx,_⟩,hd,_⟩:=fl
 have hn:X.s₀.heap.get? ea=none:=by
  cases z:X.s₀.heap.get? ea with
  |none=>rfl
  |some o=>
   by_cases hf:ea∈X.fs
   ·obtain⟨_,o1,e1,nf⟩:=I.ok.funs.mem hf;obtain⟨sl,e2⟩:=I.base.slot ea o1 e1 (I.ok.frf ea hf) hf (by rw[F.ex];exact fun z=>by cases z);rw[he]at e2;cases e2;exact absurd hd (nf vs)
   ·obtain⟨o',e⟩:=c1 ea o z hf;rw[f2]at e;cases e
 have nl:X.env.locals≠ea:=fun z=>by
  obtain⟨m,⟨o',es,ep,ho',hd',_⟩,_⟩:=I.loc;rw[z,he]at ho';cases ho';rw[hd]at hd';cases hd'
 refine⟨I.ok,I.os,I.bare,I.base.track hn hH,I.loc,I.cell,by rw[aV nl];exact I.free,fun x c e=>?_,fun p hp=>?_,fun b u q=>?_,I.len⟩
 ·rw [aV fun z => ?_]
  ·exact I.freeC x c e
  ·obtain⟨v,o',ho',hd'⟩:=I.cell x c e;rw[z,he]at ho';cases ho';rw[hd]at hd';cases hd'
 ·obtain ⟨p1, p2, p3, p4, p5⟩ := I.pin p hp;refine⟨p1,?_,p3,p4,p5⟩;rw[aV fun z=>?_]
  ·exact p2
  ·obtain⟨o',e⟩:=c2 p hp;rw[z,f2]at e;cases e
 ·by_cases hb : b = ea
  ·subst hb;rw[bj]at q;cases q;refine⟨⟨oe,he,hc,hdx,by unfold W.notCls;rw[hd]⟩,⟨oe,he⟩,fun h1 h2 a k=>?_⟩;obtain⟨o,e,c⟩:=a;exact⟨o,k o e,c⟩
  ·rw[aV hb]at q;exact(I.hok b u q).stay (fun _ _ _ r=>r) (fun c r=>by rw[aV (bQ r hH)];exact r) fun c xs r=>by rw[aV (bQ r hH)];exact r
end
abbrev Cx.hnd(X:Cx)(ea:Addr):Cx:={X with A:=X.A.mark (some (.ref ea)),calm:=false,xe:=fun _ _=>False}
theorem aX.hnd{X:Cx}(I:aX X pins B H s):aX (X.hnd ea) pins B H s:=
 ⟨⟨I.ok.mod, I.ok.kind, I.ok.glob, I.ok.blt, I.ok.above, I.ok.inj, I.ok.has, I.ok.cab, (fun z => by cases z), I.ok.frames, I.ok.stk, I.ok.exf, I.ok.bs, I.ok.bsz, I.ok.noex, I.ok.exfs, I.ok.funs, I.ok.frf⟩,
   I.os,I.bare,I.base,I.loc,I.cell,I.free,I.freeC,I.pin,I.hok,I.len⟩
theorem aX.unhnd{X:Cx}(ok:X.Ok)(I:aX (X.hnd ea) pins B H s):aX X pins B H s:=
 ⟨ok,I.os,I.bare,I.base,I.loc,I.cell,I.free,I.freeC,I.pin,I.hok,I.len⟩
theorem aX.forget{X:Cx}{m:Str->Option Value}(I:aX X pins B H s)(hn:h'.Ns X.env.locals m)(sb:Heap.SameBut X.env.locals s.heap h'):
  aX X pins (List.replicate X.N.length none) H {s with heap:=h',toks:=t'}:=by
 have ne:∀b o,X.s₀.heap.get? b=some o->b≠X.env.locals:=fun b o e z=>by
  have:=I.ok.above;rw[z]at e;exact absurd (OC e) (Nat.not_lt.mpr this)
 have same:∀b,b≠X.env.locals->h'.get? b=s.heap.get? b:=fun b hb=>sb.2 b hb;refine⟨I.ok,I.os,I.bare,⟨fun b o e n hb hx=>?_,fun b o e n hb hx=>?_,I.base.free,fun b o e hx=>?_,I.base.tups,I.base.frzs,I.base.tbls⟩,⟨m,hn,fun i x v _ e=>?_⟩,fun x c e=>?_,I.free,I.freeC,fun p hp=>?_,fun b u q=>?_,by simp⟩
 ·rw[same b (ne b o e)];exact I.base.keep b o e n hb hx
 ·rw[same b (ne b o e)];exact I.base.slot b o e n hb hx
 ·rw[same b (ne b o e)];exact I.base.there b o e hx
 ·rw[PQ]at e;split at e <;> cases e
 ·obtain⟨v,o,ho,hd⟩:=I.cell x c e;exact⟨v,o,by rw[same c (I.cne x c e)];exact ho,hd⟩
 ·obtain⟨p1,p2,p3,p4⟩:=I.pin p hp;exact⟨by rw[same _ p3];exact p1,p2,p3,p4⟩
 ·have nb : ∀ c u, H c = some u -> c ≠ X.env.locals := fun c u e z => by rw [z, I.free] at e; cases e
  exact(I.hok b u q).stay (fun c v hc r=>by
   rw[same c]
   ·exact r
   ·rcases hc with rfl | hc
    ·exact nb _ _ q
    ·exact nb _ _ hc) (fun _ r=>r) fun _ _ r=>r
theorem IS{X:Cx}(F:X.Fn){r n:Str}{R:Addr}{hpos:Pos}{suite:List Stmt}{b0:Stmt}{tb:XK->TS}{th:TS}(hN:X.N.Nodup)(hi:X.N[i]?=some n)(hx:D6 X.env.scope n)(hl:X.env.kindOf n=some .local)(hg:Gl X r)(hm:X.mg r=some (.ref R))(hd:(r == ("__debug__" : Str))=false)(hb:∀pins E,jy (X.tri pins E) body (tb E))(hs:∀ea,jy (X.hnd ea) (b0::suite) th):
  PS X (.Try body [.ExceptHandler (some (.Name r np)) (some n) (b0::suite) hpos] [] [] pos) (fun D B H=>∃E:XK,(∀C ea H',E (.ref C) (some ea) H'->W.exmOne X.K (.ref C) (.ref R)=some true /\
   ∀B':St,B'.length=X.N.length->th {nx:=fun _ _=>False,rt:=D.rt} (B'.set i (some (.ref ea))) H')/\tb E D B H):=by
 intro pins s B H D I hq;obtain⟨E,hE,hq⟩:=hq;refine wpAny_Try_except (OW (hb pins E [] s B H D I.tri hq) (fun f s1 h1=>?_) fun e s1 h1=>?_)
 ·cases f with
  |next=>exact O1 (SP.untri h1)
  |brk=>exact SP.untri h1
  |cont=>exact SP.untri h1
  |ret u=>exact SP.untri h1
 ·obtain ⟨ea, C, a0, dx, σ, B1, H1, rfl, I1, hok, fl, hn, c1, c2, q⟩ := h1;obtain⟨q1,q2⟩:=hE C ea _ q;have fl0:=fl;rw[F.stk]at fl;refine oJ (by rw[<- F.stk];exact I.ok.frames) F.fr fl fun h4 held4 up4=>?_;refine t8 held4 fun h5 fl5 up5=>?_;have fl5':=fl5;rw[<- F.stk]at fl5';have I5:=I1.up F hok c1 c2 fl0.1 fl5.1 (up4.trans up5);have α5:aX (X.hnd ea) pins B1 H1 {s1 with heap:=h5}:=I5.hnd;refine wpAny_handleBy_cons (codeAny_handlers_test (kP α5 hg hm ?_ hd)) (by intro q;cases q);obtain⟨ob,hob,hobc⟩:=fl5.there
  have LT:W.Looks (model X.prog X.w) h5 (typeOf (.ref ea)) (.ref C):=by
   rw[<- hobc];exact(W.Looks.ld hob).andThen .now
  refine(W.exm_one α5.kIn LT q1).here (codeAny_handlers_suite_as ?_);refine mj fl5 fun h6 fl6 up6=>?_;have fl6':=fl6;rw[<- F.stk]at fl6';have I6:=I5.up F hok c1 c2 fl5.1 fl6.1 up6;have I6':=I6.track F c1 c2 fl6' hn;refine ko (v:=.ref ea) I6' hN hi hx rfl (fun s7 I7=>?_) (.inr hl);refine OW (hs ea pins s7 _ _ _ I7.hnd (q2 B1 I1.len)) (fun f s8 h8=>?_) fun _ _ z=>False.elim z;cases f with
  |next=>obtain⟨_,_,_,z⟩:=h8;exact False.elim z
  |brk=>obtain⟨_,_,_,z⟩:=h8;exact False.elim z
  |cont=>obtain⟨_,_,_,z⟩:=h8;exact False.elim z
  |ret u=>
   obtain⟨v,B',H',I8,rv,z⟩:=h8;have I8':=I8.unhnd I.ok;obtain⟨m,hn8,_⟩:=I8'.loc;refine wpAny_nameGoes hl hn8 (by rw[I.ok.kind];rfl) fun h9 m9 hn9 sb=>?_;exact⟨v,_,H',I8'.forget hn9 sb,rv,z⟩
structure ff(k:Nat)(A:Around):Prop where
 dp:A.depth+3*k+5<recursionLimit
 un:A.units+16*k+200<cLine
 gd:A.guards=some []
theorem dG.h(r:dG k A):ff k A:=⟨r.dp,r.un,r.gd⟩
theorem ff.mark(r:ff k A)(e:Option Value):ff k (A.mark e):=⟨r.dp,r.un,r.gd⟩
theorem ff.mono(r:ff k A)(h:j<=k):ff j A:=⟨by have:=r.dp;omega,by have:=r.un;omega,r.gd⟩
theorem ff.deeper(r:ff (k+1) A)(env:Env):ff k (A.deeper env):=
 ⟨by have:=r.dp;show A.depth+1+3*k+5<_;omega,by have:=r.un;show A.units+3+16*k+200<_;omega,r.gd⟩
theorem ff.depth(r:ff k A):A.depth<recursionLimit:=by have:=r.dp;omega
theorem ff.units(r:ff k A):A.units+64<cLine:=by have:=r.un;omega
structure vf(P:Program)(w:World)(K:W.Frag)(mg:Str->Option Value)(base:Heap)(CX:uJ)(k:Nat)(f:Addr)(fd:FuncData)(ps:List Str)(sp:Sp):Prop where
 len:∀vs H Q E,sp vs H Q E->vs.length=ps.length
 run:∀(A:Around)(outer:List Env)(s:Shared)(H:Hp)(args:Args)(us:List Value)(vs:List V)(Q:VK)(E:XK),ff k A->tj P w K mg base A outer s H->BindsTo s fd args (ps.zip us)->br vs us->sp vs H Q E ->
  codeAny (model P w) A (.call (.ref f) args) (CR CX outer P w H s Q E) s
section
variable{X:Cx}{ps:List Str}{dvs:List V}{ds:List Value}{E:XK}{m:Str}{p:Pos}{o:Expr}{es:List Expr}{ta:TE}{t:TA}
theorem E7{Q:VK}(F:vf X.prog X.w X.K X.mg X.base CX k f fd ps sp)(hr:ff k X.A)(hb:eS X.K fd ps ds)(hd:br dvs ds)(hx:jG CX X E)(I:aX X pins B H s)(r:br vs us)(h:sp (vs++dvs) H Q E):wpAny (model X.prog X.w) X.A (call (.ref f) us) (EP X pins B Q) X.xe s:=by
 have r2:br (vs++dvs) (us++ds):=r.append hd;have hl:(us++ds).length=ps.length:=by rw[<- r2.length];exact F.len _ _ _ _ h
 refine Pw (Px (F.run X.A X.stack s H ⟨us,[]⟩ (us++ds) (vs++dvs) Q E hr I.env0 (hb s us I.kIn hl) r2 h) fun r s' hq=>?_);cases r with
 |error e=>exact hx pins B H s e s' I hq
 |ok fl=>
  cases fl with
  |ret u=>exact I.after hq
  |next=>exact False.elim hq
  |brk=>exact False.elim hq
  |cont=>exact False.elim hq
theorem De(F:vf X.prog X.w X.K X.mg X.base CX k f fd ps sp)(hr:ff k X.A)(hg:Gl X x)(hm:X.mg x=some (.ref f))(hk:W.keepIn X.K (.ref f)=true)(hb:eS X.K fd ps ds)(hd:br dvs ds)(hx:jG CX X E)
  (ha:PA X (e::es) t) (hdb:(x == ("__debug__" : Str))=false:=by decide) (he:starEach (e::es) X.env=(false,eval e X.env)::starEach es X.env:=by rfl) (hpl:(backTo pos (starEach es X.env)).any (·.1)=false:=by rfl) :
  PE X (.Call (.Name x p) (e::es) [] pos) (Bq sp dvs E t):=by
 intro pins s B H Q I h;refine Py (kP I hg hm ?_ hdb);refine W.callWith_K (h₀:=X.base) I.ok.mod.kin hk (cY (ha pos pins s B H _ I h) fun us s1 ⟨vs,H1,I1,r,q⟩=>⟨I1.kIn,?_⟩) he hpl;exact E7 F hr hb hd hx I1 r q
end
def pY(CX:uJ)(P:Program)(w:World)(K:W.Frag)(mg:Str->Option Value)(base:Heap)(N:List Str)(qual:Str)(scope:Scope)(f:Addr)(cd:Value)(A:Around)(outer:List Env)(s:Shared)(H:Hp)(E:XK):Cx where
 prog:=P
 w:=w
 K:=K
 mg:=mg
 base:=base
 A:=A.deeper (envOfC qual scope s.heap.objs.size f cd)
 N:=N
 s₀:=s
 H₀:=H
 env:=envOfC qual scope s.heap.objs.size f cd
 outer:=outer
 stack:=envOfC qual scope s.heap.objs.size f cd::outer
 ex:=[]
 calm:=false
 fn:=fun _=>true
 pn:=[]
 xe:=fun e s'=>wpAny (model P w) (A.deeper (envOfC qual scope s.heap.objs.size f cd)) (leaving (envOfC qual scope s.heap.objs.size f cd) e) (fun _ s''=>CX outer H s E e s'') (fun e' s''=>CX outer H s E e' s'') s'
theorem ym{ps:List Str}{cd:Value}{s1:Shared}{E:XK}(S:aW N ps scope)(e0:tj P w K mg base A outer s H)(hl:vs.length=ps.length)(r:br vs us)(x:InCallC s s.heap.objs.size (bindL (envOfC qual scope s.heap.objs.size f cd).kindOf (ps.zip us) fun _=>none) (cellsFrom (s.heap.objs.size+1) scope.names []) (bindC (envOfC qual scope s.heap.objs.size f cd).kindOf (ps.zip us) fun _=>none) s1):
  aX (pY CX P w K mg base N qual scope f cd A outer s H E) [] (start N vs) H s1:=by
 have hpl:ps.length<=N.length:=by have:=O0 List.length S.pre;rw[PL]at this;omega
 obtain⟨h1,tk,rfl,hk⟩:=x.done;have noA:∀b:Addr,b∉(pY CX P w K mg base N qual scope f cd A outer s H E).ex:=fun b z=>absurd (show b∈([]:List Addr) from z) (by simp)
 refine⟨⟨e0.mod,S.kind,rfl,rfl,Pf _,fun y z c h1 h2=>?_,fun y hy=>?_,fun y c _ h=>?_,(fun z=>by cases z),Around.frames_deeper e0.frames,.inr ⟨rfl,rfl⟩,fun b z=>absurd z (noA b),e0.bs,e0.bsz,fun b _ _=>noA b,fun b z=>absurd z (noA b),e0.funs,e0.frf⟩,
  rfl,e0.bare,Un.kept hk,⟨_,x.toInCall.ns,fun i y v h1 h2 h3=>?_⟩,fun y c h=>⟨_,x.cell y c h⟩,e0.hok.fresh (Pf _),fun y c h=>?_,fun p hp=>absurd (show p∈([]:List (Addr×Obj)) from hp) (by simp),e0.hok.kept hk,?_⟩
 ·exact name_of_addr x.apart (PM h1) (PM h2)
 ·have hy : scope.names.lookup y = some .cell \/ scope.names.lookup y = some .free := hy;rcases hy with hy|hy
  ·exact mV hy
  ·exact absurd rfl (S.nofree _ (PM hy))
 ·exact OJ (x.above y c (PM h))
 ·have hi:i<vs.length:=by
   unfold start at h2;by_cases hi:i<vs.length
   ·exact hi
   ·rw[PN (by simpa using hi)]at h2;rw[PQ]at h2;split at h2 <;> cases h2
  have ha:vs[i]?=some v:=by
   unfold start at h2;rw[PR (by simpa using hi),PU]at h2;cases e:vs[i]? with
   |none=>rw[e]at h2;cases h2
   |some a=>rw[e]at h2;cases h2;rfl
  obtain⟨u,hu,rv⟩:=r.get ha
  have hp:ps[i]?=some y:=by
   rw[<- S.pre,PV (by omega)];exact h1
  have ndP:ps.Nodup:=by rw[<- S.pre];exact S.nd.sublist (List.take_sublist _ _)
  refine⟨u,rv,?_⟩;rcases S.par y (PX hp) with k|k
  ·exact .inl ⟨k,nQ ndP hp hu k⟩
  ·obtain⟨c,e⟩:=mV (n:=s.heap.objs.size+1) k;refine .inr ⟨.inl k,c,e,?_⟩;have q:=x.cell y c e;rw[nR ndP hp hu (by show scope.names.lookup y≠_;rw[k];decide)]at q;exact q
 ·exact e0.hok.fresh (OJ (x.above y c (PM h)))
 ·unfold start;show _=N.length;rw[PY,PZ,P0];omega
theorem Ka{name:Str}{dV kV doc pm ct oc:Value}{od:Option Addr}{ps:List Str}(lk:K.lookup f=some ⟨oc,od,.func (W.fnOf name qual params body scope dV kV doc pm an cdv ct),osl⟩)(hcd:W.codeIn K cdv qual=true)(S:aW N ps scope)(len:∀vs H Q E,sp vs H Q E->vs.length=ps.length)(hbody : ∀ (A : Around) (outer : List Env) (s : Shared) (H : Hp) (vs : List V) (Q : VK) (E : XK), ff k (A.deeper (envOfC qual scope s.heap.objs.size f cdv)) -> sp vs H Q E ->
   ∃t,jy (pY CX P w K mg base N qual scope f cdv A outer s H E) body t/\t {nx:=fun _ H'=>Q .non H',rt:=Q} (start N vs) H):
  vf P w K mg base CX (k+1) f (W.fnOf name qual params body scope dV kV doc pm an cdv ct) ps sp:=by
 refine⟨len,fun A outer s H args us vs Q E hr e0 hb r hsp=>?_⟩;have hl:=len _ _ _ _ hsp;have KX:K.In s.heap:=e0.mod.kin.keeps fun b o e=>(e0.bs b o e).1;have lim:s.heap.NoLimit:=e0.mod.nolimit.keeps fun b o e=>(e0.bs b o e).1
 have hkind:∀y∈ps.zip us,scope.names.lookup y.1=some .local\/(scope.names.lookup y.1=some .cell/\((cellsFrom (s.heap.objs.size+1) scope.names []).lookup y.1).isSome=true):=fun⟨n,v⟩ hy=>by
  rcases S.par n (PB hy).1 with q|q
  ·exact .inl q
  ·exact .inr ⟨q,W.cellsFrom_some _ _ _ (.inl q)⟩
 refine codeAny_call_function hr.depth (KX _ _ lk) rfl S.co S.gen rfl (W.codeRec_of KX hcd) (hb _ _ _ _ ?_);refine wpAny_newFunctionEnv_cells S.kind hkind fun env he s1 x=>?_;subst he;refine⟨lim.keeps x.toInCall.keep,codeAny_func ?_⟩;obtain⟨t,ht,hq⟩:=hbody A outer s H vs Q E (hr.deeper _) hsp;have I:aX (pY CX P w K mg base N qual scope f cdv A outer s H E) [] (start N vs) H s1:=ym S e0 hl r x;refine OW (ht [] s1 (start N vs) H _ I hq) (fun fl s' hs=>?_) fun e s' hs=>hs
 have fin:∀{B':St}{H':Hp}{v:V}{u:Value},aX (pY CX P w K mg base N qual scope f cdv A outer s H E) [] B' H' s'->bU v u->Q v H'->CE outer P w H s Q u s':=
  fun {B' H' v u} α rv q=>⟨v,H',α.os,α.bare,α.base,α.hok,rv,q⟩
 cases fl with
 |ret u=>
  obtain⟨v,B',H',α,rv,q⟩:=hs;exact fin α rv q
 |next=>
  obtain⟨B',H',α,q⟩:=hs;exact fin (v:=V.non) (u:=Value.none) α rfl q
 |brk=>
  obtain⟨_,_,_,q⟩:=hs;exact False.elim q
 |cont=>
  obtain⟨_,_,_,q⟩:=hs;exact False.elim q
section
theorem gF.okH{ps:List Str}(F:gF K x qual st f fd)(S:aW N ps (au st))(len:∀vs H Q E,sp vs H Q E->vs.length=ps.length)(hbody : ∀ (cdv : Value) (A : Around) (outer : List Env) (s : Shared) (H : Hp) (vs : List V) (Q : VK) (E : XK), ff k (A.deeper (envOfC qual (au st) s.heap.objs.size f cdv)) -> sp vs H Q E ->
   ∃t,jy (pY xk P w K mg base N qual (au st) f cdv A outer s H E).nox (bT st) t/\t {nx:=fun _ H'=>Q .non H',rt:=Q} (start N vs) H):vf P w K mg base xk (k+1) f fd ps sp:=by
 obtain⟨oc,od,kV,doc,pm,an,cdv,ct,osl,rfl,lk,hcd⟩:=F.ex;refine Ka lk hcd S len fun A outer s H vs Q E hr hsp=>?_;obtain⟨t,h,q⟩:=hbody cdv A outer s H vs Q E hr hsp;exact⟨t,h.nox,q⟩
end
end L2
namespace PySem.W
open PySem PySem.Spec PySem.Calls PyProof.Rows
section
variable{K:Frag}{x D:Addr}{a g:Value}{name:Str}{h:Heap}{M:Model}
theorem wL (X:K.In h) (ha:findIn K (.ref D) name=some (some a)) (hg:specialIn K a "__get__" = some (some g)) (ht:takesIn K a=some true):Looks M h (Builtin.ObjectAttr.find (.ref x) (.ref D) name) (.bind g a):=
 (Ss X ha).andThen ((show Looks M h (Builtin.ObjectAttr.getOf (some a)) (some g) from looks_specialIn X hg).andThen ((show Looks M h (Builtin.ObjectAttr.dataDescriptor? (some a) (some g)) (some (g,a)) from (looks_takesIn X ht).andThen .now).andThen (Looks.tag .now)))
theorem yq {R:Result->Shared->Prop} (X:K.In s.heap) (L:Looks (model prog w) s.heap (typeOf (.ref x)) (.ref D)) (hm:mroIn K D (.type "object")=some true) (hr:R (.ok (.ret (.ref D))) s) :
  codeAny (model prog w) A (.call (.builtin "getset_descriptor.__get__") ⟨[.builtin "object.__class__",.ref x,.ref D],[]⟩) R s:=by
 obtain⟨hh,g,d,t,os⟩:=s;have L0:Looks (model prog w) hh (typeOf (.ref x)) (.ref D):=L;have L1:Looks (model prog w) hh (isSubtype (.ref D) (.type "object")) true:=looks_mroIn X hm;have hT5:(⟨hh,g,d,t,os⟩:Shared).TypeIs (.builtin "object.__class__") "getset_descriptor" := F.typeOf_object_class;have ow:(".".intercalate ("object.__class__".cutAt '.').dropLast) = "object" := by decide +kernel
 refine RY F.slot_gs_get.plain F.entry_gs_get (F.slot_gs_get.check _ _ _ _ _ _ _ _ hT5 (F.args_gs_get _ _ _) ?_)
 repeat (any_goals (first|assumption|with_reducible refine L0.at ?_|(rw[ow])|with_reducible refine L1.at ?_|wp_step))
 refine⟨RW _ (by decide +kernel),RO KF.entry_class ?_⟩;unfold Builtin.«object.__class__»
 repeat (any_goals (first|assumption|with_reducible refine L0.at ?_|wp_step))
theorem v7 {hh:Heap}{g:Array GenState}{d:Drawn}{t:Nat}{os:OsState}{M:Model}{nameV:Value}{Q:Unit->Shared->Prop} (X:K.In hh) (L0:Looks M hh (typeOf (.ref x)) (.ref D)) (hmB:mroIn K D (.type "BaseException")=some true) (hq:Q () ⟨hh,g,d,t,os⟩) :
  wpAny M A (checkBuiltinCall "BaseException.__getattribute__" ⟨[.ref x,nameV],[]⟩) Q E ⟨hh,g,d,t,os⟩:=by
 have hk:builtinKind "BaseException.__getattribute__" = some .slot:=by decide +kernel
 have hsplit:splitId "BaseException.__getattribute__" = some ("BaseException", "__getattribute__"):=by decide +kernel
 have ha:=F.args_bexc_ga (.ref x) nameV;have L1:=looks_mroIn (M:=M) X hmB;simp only[checkBuiltinCall,hk,hsplit];refine O3 ?_
 ·unfold isInstance
  repeat (first|lk|wp_step)
  exact hq
theorem DF{Q:Fin->Shared->Prop}(X:K.In s.heap)(L:Looks (model prog w) s.heap (typeOf (.ref x)) (.ref D))(ha:findIn K (.ref D) "__class__" = some (some (.builtin "object.__class__")))(hn:specialIn K (.builtin "object.__class__") "__get__" = some (some (.builtin "getset_descriptor.__get__")))(htk:takesIn K (.builtin "object.__class__")=some true)(hm:mroIn K D (.type "object")=some true)(hq:Q (.done (.ret (.ref D))) s):
  wpAny (model prog w) A (Builtin.«object.__getattribute__» ⟨[.ref x,.str "__class__" tk],[]⟩) Q E s:=by
 obtain⟨hh,g,d,t,os⟩:=s;have L0:Looks (model prog w) hh (typeOf (.ref x)) (.ref D):=L;have f3:Looks (model prog w) hh (Builtin.ObjectAttr.find (.ref x) (.ref D) "__class__") (.bind (.builtin "getset_descriptor.__get__") (.builtin "object.__class__")):=wL X ha hn htk;unfold Builtin.«object.__getattribute__»
 repeat (any_goals (first|assumption|with_reducible refine L0.at ?_|with_reducible refine f3.at ?_|wp_step))
 refine yq (s:=⟨hh,g,d,t,os⟩) X L hm ?_
 repeat (any_goals (first|assumption|wp_step))
theorem AN {Q:Option Value->Shared->Prop} (X:K.In s.heap) (L:Looks (model prog w) s.heap (typeOf (.ref x)) (.ref D)) (hga:findIn K (.ref D) "__getattribute__" = some (some (.builtin "BaseException.__getattribute__"))) (hgn:findIn K (.ref D) "__getattr__" = some none)
  (ha:findIn K (.ref D) "__class__" = some (some (.builtin "object.__class__"))) (hn:specialIn K (.builtin "object.__class__") "__get__" = some (some (.builtin "getset_descriptor.__get__"))) (htk:takesIn K (.builtin "object.__class__")=some true) (hm:mroIn K D (.type "object")=some true) (hmB:mroIn K D (.type "BaseException")=some true) (hq:Q (some (.ref D)) {s with toks:=s.toks+1}) :
  wpAny (model prog w) A (getAttr? (.ref x) "__class__") Q E s:=by
 obtain⟨hh,g,d,t,os⟩:=s;have L0:Looks (model prog w) hh (typeOf (.ref x)) (.ref D):=L;have L1:Looks (model prog w) hh (typeLookup (.ref D) "__getattribute__") (some (.builtin "BaseException.__getattribute__")):=Ss X hga;have L2:Looks (model prog w) hh (typeLookup (.ref D) "__getattr__") none:=Ss X hgn;have f3:=Su.ga.bind (.ref x);have hx2:(Value.builtin "BaseException.__getattribute__" == Value.builtin "object.__getattribute__")=false:=by decide +kernel
 have hx1:(onTheHeap (Value.ref D)&&Value.builtin "BaseException.__getattribute__" == Value.builtin "object.__getattribute__")=false:=by rw[hx2];rfl
 have hx0:(false&&onTheHeap (Value.builtin "BaseException.__getattribute__"))=false:=rfl;unfold getAttr? getAttrBy?
 repeat (any_goals (first|assumption|with_reducible refine L0.at ?_|with_reducible refine L1.at ?_|with_reducible refine L2.at ?_|wp_step))
 refine RY Su.ga.plain F.entry_bexc_ga (v7 X L0 hmB (DF (tk:=t) X L0 ha hn htk hm ?_))
 repeat (any_goals (first|assumption|wp_step))
end
def excCls (K:Frag) (D:Addr):Bool:=findIn K (.ref D) "__getattribute__" == some (some (.builtin "BaseException.__getattribute__"))&&findIn K (.ref D) "__getattr__" == some none&&(clsIn K D).isSome&&findIn K (.ref D) "__class__" == some (some (.builtin "object.__class__")) &&
 mroIn K D (.type "object") == some true&&mroIn K D (.type "BaseException") == some true&&specialIn K (.builtin "object.__class__") "__get__" == some (some (.builtin "getset_descriptor.__get__"))&&takesIn K (.builtin "object.__class__") == some true
section
variable{K:Frag}{x D:Addr}
theorem kitx_exc(e:excCls K D=true):KitX K (.ref x) (.ref D) (fun h=>∃ox,h.get? x=some ox/\ox.cls=.ref D):=by
 unfold excCls at e;simp only[Qn,Sv]at e;obtain⟨⟨⟨⟨⟨⟨⟨hga,hgn⟩,hc⟩,ha⟩,hm⟩,hmB⟩,hn⟩,htk⟩:=e
 exact {
  ty:=fun _ _ _ ⟨ox,h1,h2⟩=>h2 ▸ (Looks.ld h1).andThen .now
  it:=fun _ _ X _=>by
   obtain⟨cdD,hcD⟩:=PH.mp hc;unfold clsIn at hcD;split at hcD
   ·rename_i c' d' cd' sl' ho;intro A' Q' E' s' k q;unfold isType loadHead;exact O3 (wpAny_loadPart (k _ _ (X _ _ ho)) (O6 q))
   ·cases hcD
  ne:=fun h tp dd its n sl X htp=>by
   obtain⟨cdD,hcD⟩:=PH.mp hc;refine Bool.eq_false_iff.mpr fun q=>?_;have e:D=tp:=Value.ref.inj (Sv.mp q);subst e;unfold clsIn at hcD;split at hcD
   ·rename_i c' d' cd' sl' ho;have z:=(X _ _ ho).symm.trans htp;cases z
   ·cases hcD
  ca:=fun {prog w A E Q s} X ⟨ox,h1,h2⟩ h=>AN X (h2 ▸ (Looks.ld h1).andThen .now) hga hgn ha hn htk hm hmB h}
end
end PySem.W
namespace L2
open PySem PySem.Spec PyProof.Rows
def KQ(K:W.Frag)(u:Value):List V->Hp->VK->Prop:=fun xs H Q=>∃a D b v,xs=[.ref a,v]/\bU v u/\(∃dx,H a=some (ka a D dx))/\W.excCls K D=true/\W.kitOne K (.ref D) u=some b/\Q (.bl b) H
theorem we{X:Cx}(hu:∀v w,bU v u->bU v w->w=u):cZ X (.builtin "isinstance") (KQ X.K u):=by
 intro pins s B H xs us Q I r h;obtain⟨a,D,b,v,rfl,rv,⟨dx,ea⟩,hc,e,q⟩:=h;cases r with
 |cons r1 r2=>
  cases r2 with
  |cons r3 r4=>
   cases r4;cases (show _=Value.ref a from r1);have z:=hu v _ rv r3;subst z;obtain⟨⟨oe,h1,h2,_⟩,_⟩:=(show dk X.prog X.w H s.heap a (ka a D dx) from I.hok a _ ea);exact W.kia_one (W.kitx_exc hc) I.kIn ⟨oe,h1,h2⟩ e (fun z=>nomatch z) fun tk=>⟨.bl b,H,I.tok _,rfl,q⟩
end L2
namespace L2
open PySem PySem.Spec PyProof.Rows RS
inductive D where
 |non|bl (b:Bool)|int (i:Int)|str (x:Str)|tup (xs:List D)|frz (xs:List D)|obj (n:Nat)
inductive O where
 |lst (xs:List D)|set (ks:List (List Int))|dic|exc (c:Str)|exn (c:Str) (fs:List (Str×Int))
abbrev aA:=List O
abbrev Ro:=List (Option D)
def GA(K:W.Frag)(H:Hp)(a:Addr)(xs:List V):Prop:=
 (∃ o, H a = some (.frz o (.lst xs))) \/
  ∃(o:Obj) (its:Array Value) (n:Nat),K.lookup a=some o/\o.cls=.type "list" /\ o.dict=none/\o.data=.seq its n/\its.size<=sizeLine/\br xs its.toList
theorem GA.sq{xs:List V}(h:GA K H a xs):gB K H a xs:=by
 rcases h with⟨o,h⟩|h
 ·exact .inl (.inr ⟨o,h⟩)
 ·exact .inr h
section
variable(K:W.Frag)(H:Hp)(J:List Addr)
mutual
def aP:D->V->Prop
 |.non,v=>v=.non
 |.bl b,v=>v=.bl b
 |.int i,v=>v=.int i
 |.str x,v=>v=.str x
 |.tup xs,v=>∃a vs,v=.ref a/\gL K H a vs/\Reps xs vs
 |.frz xs,v=>∃a vs,v=.ref a/\GA K H a vs/\Reps xs vs
 |.obj n,v=>∃a,v=.ref a/\J[n]?=some a
def Reps:List D->List V->Prop
 |[],vs=>vs=[]
 |x::xs,vs=>∃v r,vs=v::r/\aP x v/\Reps xs r
end
end
structure lA(K:W.Frag)(H H':Hp)(J J':List Addr):Prop where
 tup:∀a xs,gL K H a xs->gL K H' a xs
 frz:∀a xs,GA K H a xs->GA K H' a xs
 pre:∀(n:Nat) a,J[n]?=some a->J'[n]?=some a
 xds:∀a fs,H a=some (.xd fs)->H' a=some (.xd fs)
section
variable{H' H1 H2:Hp}{J' J1 J2:List Addr}
theorem lA.refl:lA K H H J J:=⟨fun _ _ h=>h,fun _ _ h=>h,fun _ _ h=>h,fun _ _ h=>h⟩
theorem lA.trans(a:lA K H H1 J J1)(b:lA K H1 H2 J1 J2):lA K H H2 J J2:=
 ⟨fun c xs h=>b.tup c xs (a.tup c xs h),fun c xs h=>b.frz c xs (a.frz c xs h),fun n c h=>b.pre n c (a.pre n c h),fun c fs h=>b.xds c fs (a.xds c fs h)⟩
mutual
theorem aP.mono(e:lA K H H' J J'):∀{d:D}{v:V},aP K H J d v->aP K H' J' d v
 |.non,_,h=>by simp only[aP]at h⊢;exact h
 |.bl _,_,h=>by simp only[aP]at h⊢;exact h
 |.int _,_,h=>by simp only[aP]at h⊢;exact h
 |.str _,_,h=>by simp only[aP]at h⊢;exact h
 |.tup xs,_,h=>by
  simp only[aP]at h⊢;obtain⟨a,vs,rfl,h1,h2⟩:=h;exact⟨a,vs,rfl,e.tup a vs h1,Reps.mono e h2⟩
 |.frz xs,_,h=>by
  simp only[aP]at h⊢;obtain⟨a,vs,rfl,h1,h2⟩:=h;exact⟨a,vs,rfl,e.frz a vs h1,Reps.mono e h2⟩
 |.obj n,_,h=>by
  simp only[aP]at h⊢;obtain⟨a,rfl,h1⟩:=h;exact⟨a,rfl,e.pre n a h1⟩
theorem Reps.mono(e:lA K H H' J J'):∀{ds:List D}{vs:List V},Reps K H J ds vs->Reps K H' J' ds vs
 |[],_,h=>by simp only[Reps]at h⊢;exact h
 |d::ds,_,h=>by
  simp only[Reps]at h⊢;obtain⟨v,r,rfl,h1,h2⟩:=h;exact⟨v,r,rfl,aP.mono e h1,Reps.mono e h2⟩
end
theorem Reps.nil:Reps K H J [] []:=by simp only[Reps]
theorem Reps.cons{d:D}{ds:List D}(h1:aP K H J d v)(h2:Reps K H J ds vs):Reps K H J (d::ds) (v::vs):=by
 simp only[Reps];exact⟨v,vs,rfl,h1,h2⟩
theorem Reps.length:∀{ds:List D}{vs:List V},Reps K H J ds vs->vs.length=ds.length
 |[],vs,h=>by simp only[Reps]at h;rw[h];rfl
 |d::ds,vs,h=>by
  simp only[Reps]at h;obtain⟨v,r,rfl,h1,h2⟩:=h;simp[Reps.length h2]
theorem Reps.get:∀{ds:List D}{vs:List V}{i:Nat}{d:D},Reps K H J ds vs->ds[i]?=some d->∃v,vs[i]?=some v/\aP K H J d v
 |[],_,_,_,_,e=>by simp at e
 |d::ds,vs,i,x,h,e=>by
  simp only[Reps]at h;obtain⟨v,r,rfl,h1,h2⟩:=h;cases i with
  |zero=>simp at e;subst e;exact⟨v,rfl,h1⟩
  |succ i=>exact Reps.get (i:=i) h2 (by simpa using e)
theorem Reps.append:∀{ds es:List D}{vs ws:List V},Reps K H J ds vs->Reps K H J es ws->Reps K H J (ds++es) (vs++ws)
 |[],_,vs,_,h,g=>by simp only[Reps]at h;subst h;exact g
 |d::ds,_,vs,_,h,g=>by
  simp only[Reps]at h;obtain⟨v,r,rfl,h1,h2⟩:=h;exact Reps.cons h1 (Reps.append h2 g)
theorem Reps.take:∀{ds:List D}{vs:List V}(n:Nat),Reps K H J ds vs->Reps K H J (ds.take n) (vs.take n)
 |[],vs,n,h=>by simp only[Reps]at h;subst h;simpa using Reps.nil
 |d::ds,vs,n,h=>by
  simp only[Reps]at h;obtain⟨v,r,rfl,h1,h2⟩:=h;cases n with
  |zero=>exact Reps.nil
  |succ n=>exact Reps.cons h1 (Reps.take n h2)
theorem Reps.drop:∀{ds:List D}{vs:List V}(n:Nat),Reps K H J ds vs->Reps K H J (ds.drop n) (vs.drop n)
 |[],vs,n,h=>by simp only[Reps]at h;subst h;simpa using Reps.nil
 |d::ds,vs,n,h=>by
  cases n with
  |zero=>exact h
  |succ n=>
   simp only[Reps]at h;obtain⟨v,r,rfl,h1,h2⟩:=h;exact Reps.drop n h2
theorem Reps.set{d:D}{v:V}(q:aP K H J d v):∀{ds:List D}{vs:List V}(n:Nat),Reps K H J ds vs->Reps K H J (ds.set n d) (vs.set n v)
 |[],vs,n,h=>by simp only[Reps]at h;subst h;simpa using Reps.nil
 |e::ds,vs,n,h=>by
  simp only[Reps]at h;obtain⟨v',r,rfl,h1,h2⟩:=h;cases n with
  |zero=>exact Reps.cons q h2
  |succ n=>exact Reps.cons h1 (Reps.set q n h2)
theorem Reps.one{d:D}(h:Reps K H J [d] vs):∃v,vs=[v]/\aP K H J d v:=by
 simp only[Reps]at h;obtain⟨v,r,rfl,h1,rfl⟩:=h;exact⟨v,rfl,h1⟩
theorem Reps.two{d e:D}(h:Reps K H J [d,e] vs):∃v u,vs=[v,u]/\aP K H J d v/\aP K H J e u:=by
 simp only[Reps]at h;obtain⟨v,r,rfl,h1,u,r',rfl,h2,rfl⟩:=h;exact⟨v,u,rfl,h1,h2⟩
theorem Reps.snoc{d:D}{ds:List D}(h:Reps K H J ds vs)(q:aP K H J d v):Reps K H J (ds++[d]) (vs++[v]):=h.append (Reps.cons q Reps.nil)
theorem Reps.ints:∀{ns:List Int}{vs:List V},Reps K H J (ns.map D.int) vs->vs=ns.map V.int
 |[],vs,h=>by simp only[Qo,Reps]at h;exact h
 |n::ns,vs,h=>by
  simp only[Qp,Reps]at h;obtain⟨v,r,rfl,h1,h2⟩:=h;simp only[aP]at h1;rw[h1,Reps.ints h2];rfl
theorem kC:∀(ns:List Int),Reps K H J (ns.map D.int) (ns.map V.int)
 |[]=>Reps.nil
 |n::ns=>Reps.cons (by simp only[aP]) (kC ns)
theorem aQ{xs:List D}:aP K H J (.tup xs) v↔∃a vs,v=.ref a/\gL K H a vs/\Reps K H J xs vs:=by simp only[aP]
theorem bA{xs:List D}:aP K H J (.frz xs) v↔∃a vs,v=.ref a/\GA K H a vs/\Reps K H J xs vs:=by simp only[aP]
theorem bf:aP K H J (.obj n) v↔∃a,v=.ref a/\J[n]?=some a:=by simp only[aP]
theorem ar{n:Int}:aP K H J (.int n) v↔v=.int n:=by simp only[aP]
theorem aU{n:Bool}:aP K H J (.bl n) v↔v=.bl n:=by simp only[aP]
theorem aC{n:Str}:aP K H J (.str n) v↔v=.str n:=by simp only[aP]
theorem bK:aP K H J .non v↔v=.non:=by simp only[aP]
end
def uS(K:W.Frag)(w:World)(H:Hp)(J:List Addr):O->Addr->Prop
 |.lst xs,a=>∃vs,H a=some (.lst vs)/\Reps K H J xs vs
 |.set ks,a=>∃ps:List KP,ps.map (·.1)=ks/\H a=some (.ext fun h=>f6 w h a ps)/\(∀p∈ps,p.1∈prs)/\(ps.map (·.1)).Nodup/\∀p∈ps,gL K H p.2 (p.1.map V.int)
 |.dic,a=>H a=some (.dK [])
 |.exc c,a=>∃C dx,W.nsIn K mainGlobals c=some (some (.ref C))/\H a=some (ka a C dx)
 |.exn c fs,a=>∃C dx,W.nsIn K mainGlobals c=some (some (.ref C))/\H a=some (ka a C (some dx))/\H dx=some (.xd (fs.map fun p=>(p.1,V.int p.2)))
structure gG(K:W.Frag)(w:World)(H:Hp)(J:List Addr)(Y:aA):Prop where
 len:J.length=Y.length
 nd:J.Nodup
 ob:∀(n:Nat) o a,Y[n]?=some o->J[n]?=some a->uS K w H J o a
section
variable{H':Hp}{J':List Addr}{Y:aA}
theorem uS.live{o:O}(h:uS K w H J o a):H a≠none:=by
 cases o with
 |lst xs=>obtain⟨vs,e,_⟩:=h;rw[e];exact fun z=>by cases z
 |set ks=>obtain⟨ps,_,e,_⟩:=h;rw[e];exact fun z=>by cases z
 |dic=>have e:H a=some (.dK []):=h;rw[e];exact fun z=>by cases z
 |exc c=>obtain⟨C,dx,_,e⟩:=h;rw[e];exact fun z=>by cases z
 |exn c fs=>obtain⟨C,dx,_,e,_⟩:=h;rw[e];exact fun z=>by cases z
theorem uS.mono{o:O}(h:uS K w H J o a)(e:lA K H H' J J')(ha:H' a=H a):uS K w H' J' o a:=by
 cases o with
 |lst xs=>obtain⟨vs,q,r⟩:=h;exact⟨vs,ha.trans q,r.mono e⟩
 |set ks=>obtain⟨ps,h1,q,h2,h3,h4⟩:=h;exact⟨ps,h1,ha.trans q,h2,h3,fun p hp=>e.tup _ _ (h4 p hp)⟩
 |dic=>exact ha.trans h
 |exc c=>obtain⟨C,dx,h1,q⟩:=h;exact⟨C,dx,h1,ha.trans q⟩
 |exn c fs=>obtain⟨C,dx,h1,q,q2⟩:=h;exact⟨C,dx,h1,ha.trans q,e.xds dx _ q2⟩
theorem gG.at(S:gG K w H J Y){o:O}(e:Y[n]?=some o):∃a,J[n]?=some a/\uS K w H J o a:=by
 have hn:n<Y.length:=(OS.mp e).1;have hn':n<J.length:=by rw[S.len];exact hn
 exact⟨J[n],Sk hn',S.ob n o _ e (Sk hn')⟩
theorem gG.live(S:gG K w H J Y)(h:a∈J):H a≠none:=by
 obtain⟨n,hn,e⟩:=List.getElem_of_mem h;have hm:n<Y.length:=by rw[<- S.len];exact hn
 exact(S.ob n _ a (Sk hm) (by rw[<- e];exact Sk hn)).live
theorem gG.fresh(S:gG K w H J Y){p:Addr}(h:H p=none):p∉J:=fun z=>S.live z h
theorem gG.same(S:gG K w H J Y)(e:lA K H H' J J)(h:∀a,H a≠none->H' a=H a):gG K w H' J Y:=
 ⟨S.len,S.nd,fun n o a h1 h2=>(S.ob n o a h1 h2).mono e (h a (S.ob n o a h1 h2).live)⟩
theorem bV{p:Addr}(h:H p=none):lA K H (b9 H p o) J J:=by
 refine⟨fun a xs q=>?_,fun a xs q=>?_,fun _ _ z=>z,fun a fs q=>by rw[aV (bQ q h)];exact q⟩
 ·rcases q with (q | ⟨x, q⟩) | q
  ·exact .inl (.inl (by rw[aV (bQ q h)];exact q))
  ·exact .inl (.inr ⟨x,by rw[aV (bQ q h)];exact q⟩)
  ·exact .inr q
 ·rcases q with ⟨x, q⟩ | q
  ·exact .inl ⟨x,by rw[aV (bQ q h)];exact q⟩
  ·exact .inr q
theorem jJ{p:Addr}(h:H p=some (.lst vs)):lA K H (b9 H p o) J J:=by
 refine⟨fun a xs q=>?_,fun a xs q=>?_,fun _ _ z=>z,fun a fs q=>by rw[aV (yH q h (by intro z;cases z))];exact q⟩
 ·rcases q with (q | ⟨x, q⟩) | q
  ·exact .inl (.inl (by rw[aV (yH q h (by intro z;cases z))];exact q))
  ·exact .inl (.inr ⟨x,by rw[aV (yH q h (by intro z;cases z))];exact q⟩)
  ·exact .inr q
 ·rcases q with ⟨x, q⟩ | q
  ·exact .inl ⟨x,by rw[aV (yH q h (by intro z;cases z))];exact q⟩
  ·exact .inr q
theorem jk(β:List Addr):lA K H H J (J++β):=⟨fun _ _ h=>h,fun _ _ h=>h,fun n a h=>by rw[PR (OS.mp h).1];exact h,fun _ _ h=>h⟩
theorem gG.tuple(S:gG K w H J Y){p:Addr}(h:H p=none):gG K w (b9 H p (.tup vs)) J Y:=
 S.same (bV h) fun a ha=>aV fun z=>ha (by rw[z];exact h)
theorem gG.more(S:gG K w H J Y){p:Addr}{o:O}{ho:HO}(h:H p=none)(q:uS K w (b9 H p ho) (J++[p]) o p):gG K w (b9 H p ho) (J++[p]) (Y++[o]):=by
 refine⟨by simp[S.len],?_,fun n o' a h1 h2=>?_⟩
 ·rw[RM];exact⟨S.nd,by simp,fun x hx y hy z=>by simp at hy;subst hy;subst z;exact S.fresh h hx⟩
 ·by_cases hn : n < Y.length
  ·rw[PR hn]at h1;rw[PR (by rw[S.len];exact hn)]at h2;exact(S.ob n o' a h1 h2).mono ((bV h).trans (jk [p])) (aV fun z=>(S.ob n o' a h1 h2).live (by rw[z];exact h))
  ·have hn':n=Y.length:=by
    have:=(OS.mp h1).1;simp at this;omega
   subst hn';rw[PN (Pf _)]at h1;rw[PN (by rw[S.len];exact Pf _),S.len]at h2;simp at h1 h2;subst h1;subst h2;exact q
theorem gG.put(S:gG K w H J Y){xs ys:List D}{us:List V}(h1:Y[n]?=some (.lst xs))(h2:J[n]?=some a)(h3:H a=some (.lst us))(q:Reps K H J ys vs):gG K w (b9 H a (.lst vs)) J (Y.set n (.lst ys)):=by
 have e:=jJ (K:=K) (J:=J) (o:=.lst vs) h3;refine⟨by simp[S.len],S.nd,fun m o b g1 g2=>?_⟩;have hn:n<Y.length:=(OS.mp h1).1;by_cases hm:m=n
 ·subst hm;rw[OU hn]at g1;cases g1;rw[h2]at g2;cases g2;exact⟨vs,bj,q.mono e⟩
 ·rw[OV (fun z=>hm z.symm)]at g1;refine(S.ob m o b g1 g2).mono e (aV fun z=>hm ?_);subst z;have i1:=(OS.mp g2);have i2:=(OS.mp h2);obtain⟨l1,e1⟩:=i1;obtain⟨l2,e2⟩:=i2;exact(OT S.nd).mp (e1.trans e2.symm)
end
structure eT(K:W.Frag)(H:Hp)(J:List Addr)(Z:Ro)(B:St):Prop where
 len:Z.length=B.length
 at':∀(i:Nat) d,Z[i]?=some (some d)->∃v,B[i]?=some (some v)/\aP K H J d v
theorem eT.mono{H':Hp}{J':List Addr}{Z:Ro}(e:lA K H H' J J')(R:eT K H J Z B):eT K H' J' Z B:=
 ⟨R.len,fun i d h=>let ⟨v,h1,h2⟩:=R.at' i d h;⟨v,h1,h2.mono e⟩⟩
theorem eT.set{Z:Ro}{d:D}(R:eT K H J Z B)(i:Nat)(q:aP K H J d v):eT K H J (Z.set i (some d)) (B.set i (some v)):=by
 refine⟨by simp[R.len],fun j d' h=>?_⟩;by_cases hj:j=i
 ·subst hj;have hl:j<Z.length:=by have:=(OS.mp h).1;simpa using this
  rw[OU hl]at h;cases h;exact⟨v,by rw[OU (by rw[<- R.len];exact hl)],q⟩
 ·rw[OV (fun z=>hj z.symm)]at h⊢;exact R.at' j d' h
structure DX where
 cls:Str
 args:List (Str×Int)
inductive aj(β:Type) where
 |ok (a:β) (Y:aA)|exc (x:DX) (Y:aA)|bad
def aj.bind{γ:Type}(o:aj β)(g:β->aA->aj γ):aj γ:=match o with
 |.ok a Y=>g a Y
 |.exc x Y=>.exc x Y
 |.bad=>.bad
@[simp] theorem aa{γ:Type}{a:β}{Y:aA}{g:β->aA->aj γ}:(aj.ok a Y).bind g=g a Y:=Sw (Sx _)
inductive SO where
 |next (Z:Ro) (Y:aA)|ret (d:D) (Y:aA)|brk (Z:Ro) (Y:aA)|cnt (Z:Ro) (Y:aA)|exc (x:DX) (Y:aA)|bad
def aj.bindS(o:aj β)(g:β->aA->SO):SO:=match o with
 |.ok a Y=>g a Y
 |.exc x Y=>.exc x Y
 |.bad=>.bad
@[simp] theorem ae{a:β}{Y:aA}{g:β->aA->SO}:(aj.ok a Y).bindS g=g a Y:=Sw (Sx _)
@[simp] theorem rM{a:DX}{Y:aA}{g:β->aA->SO}:(aj.exc a Y:aj β).bindS g=.exc a Y:=Sw (Sx _)
def SO.bind(o:SO)(g:Ro->aA->SO):SO:=match o with
 |.next Z Y=>g Z Y
 |o=>o
structure Pa where
 K:W.Frag
 w:World
 xw:DX->aA->Hp->List Addr->Prop
abbrev Pa.S(p:Pa):=gG p.K p.w
abbrev Pa.X(p:Pa):=lA p.K
abbrev Pa.R(p:Pa):=aP p.K
abbrev Pa.Rs(p:Pa):=Reps p.K
def aO(p:Pa)(H:Hp)(J:List Addr)(o:aj β)(R:β->aA->Hp->List Addr->Prop):Prop:=match o with
 |.ok a Y'=>∀H' J',p.X H H' J J'->p.S H' J' Y'->R a Y' H' J'
 |.exc x Y'=>∀H' J',p.X H H' J J'->p.S H' J' Y'->p.xw x Y' H' J'
 |.bad=>False
def fg(p:Pa)(H:Hp)(J:List Addr)(o:SO)(D:nv):Prop:=match o with
 |.next Z' Y'=>∀H' J' B',p.X H H' J J'->p.S H' J' Y'->eT p.K H' J' Z' B'->D.nx B' H'
 |.brk Z' Y'=>∀H' J' B',p.X H H' J J'->p.S H' J' Y'->eT p.K H' J' Z' B'->D.bk B' H'
 |.cnt Z' Y'=>∀H' J' B',p.X H H' J J'->p.S H' J' Y'->eT p.K H' J' Z' B'->D.ct B' H'
 |.ret d Y'=>∀H' J' v,p.X H H' J J'->p.S H' J' Y'->p.R H' J' d v->D.rt v H'
 |.exc x Y'=>∀H' J',p.X H H' J J'->p.S H' J' Y'->p.xw x Y' H' J'
 |.bad=>False
section
variable{p:Pa}{H1:Hp}{J1:List Addr}{γ:Type}
theorem aO.imp{o:aj β}{R R':β->aA->Hp->List Addr->Prop}(h:aO p H J o R)(k:∀a Y' H' J',p.X H H' J J'->p.S H' J' Y'->R a Y' H' J'->R' a Y' H' J'):aO p H J o R':=by
 cases o with
 |ok a Y=>exact fun H' J' e s=>k a Y H' J' e s (h H' J' e s)
 |exc x Y=>exact h
 |bad=>exact h
theorem aO.from{o:aj β}{R:β->aA->Hp->List Addr->Prop}(e:p.X H H1 J J1)(h:aO p H J o R):aO p H1 J1 o R:=by
 cases o with
 |ok a Y=>exact fun H' J' e' s=>h H' J' (e.trans e') s
 |exc x Y=>exact fun H' J' e' s=>h H' J' (e.trans e') s
 |bad=>exact h
theorem aO.bind{o:aj β}{g:β->aA->aj γ}{R:γ->aA->Hp->List Addr->Prop}(h:aO p H J (o.bind g) R):aO p H J o (fun a Y1 H1 J1=>aO p H1 J1 (g a Y1) R):=by
 cases o with
 |ok a Y=>exact fun H' J' e s=>aO.from e h
 |exc x Y=>exact h
 |bad=>exact h
theorem aO.now{a:β}{Y:aA}{R:β->aA->Hp->List Addr->Prop}(h:aO p H J (.ok a Y) R)(s:p.S H J Y):R a Y H J:=h H J lA.refl s
theorem fg.from{o:SO}{D:nv}(e:p.X H H1 J J1)(h:fg p H J o D):fg p H1 J1 o D:=by
 cases o with
 |next Z Y=>exact fun H' J' B' e' s r=>h H' J' B' (e.trans e') s r
 |brk Z Y=>exact fun H' J' B' e' s r=>h H' J' B' (e.trans e') s r
 |cnt Z Y=>exact fun H' J' B' e' s r=>h H' J' B' (e.trans e') s r
 |ret d Y=>exact fun H' J' v e' s r=>h H' J' v (e.trans e') s r
 |exc x Y=>exact fun H' J' e' s=>h H' J' (e.trans e') s
 |bad=>exact h
theorem aO.bindS{o:aj β}{g:β->aA->SO}{D:nv}(h:fg p H J (o.bindS g) D):aO p H J o (fun a Y1 H1 J1=>fg p H1 J1 (g a Y1) D):=by
 cases o with
 |ok a Y=>exact fun H' J' e s=>fg.from e h
 |exc x Y=>exact h
 |bad=>exact h
end
abbrev ME:=Ro->aA->aj D
abbrev MT:=Ro->aA->aj Bool
abbrev MA:=Ro->aA->aj (List D)
abbrev MS:=Ro->aA->SO
abbrev MG:=D->Ro->aA->aj Ro
abbrev RV(p:Pa)(Q:VK):D->aA->Hp->List Addr->Prop:=fun d _ H' J'=>∀v,p.R H' J' d v->Q v H'
def tD(p:Pa)(f:ME):TE:=fun B H Q=>∃J Z Y,p.S H J Y/\eT p.K H J Z B/\aO p H J (f Z Y) (RV p Q)
def iO(p:Pa)(f:MT):TT:=fun B H Q=>∃J Z Y,p.S H J Y/\eT p.K H J Z B/\aO p H J (f Z Y) (fun b _ H' _=>Q b H')
def jw(p:Pa)(f:MA):TA:=fun B H Q=>∃J Z Y,p.S H J Y/\eT p.K H J Z B/\aO p H J (f Z Y) (fun ds _ H' J'=>∀vs,p.Rs H' J' ds vs->Q vs H')
def iw(p:Pa)(f:MS):TS:=fun D B H=>∃J Z Y,p.S H J Y/\eT p.K H J Z B/\fg p H J (f Z Y) D
def sW(p:Pa)(g:MG):TG:=fun v B H Q=>∃J Z Y d,p.S H J Y/\eT p.K H J Z B/\p.R H J d v/\aO p H J (g d Z Y) (fun Z' _ H' J'=>∀B',eT p.K H' J' Z' B'->Q B' H')
theorem PE.weak{X:Cx}{t t':TE}(h:PE X e t)(k:∀B H Q,t' B H Q->t B H Q):PE X e t':=fun pins s B H Q I q=>h pins s B H Q I (k B H Q q)
theorem PT.weak{X:Cx}{t t':TT}(h:PT X e t)(k:∀B H Q,t' B H Q->t B H Q):PT X e t':=fun pins s B H Q I q=>h pins s B H Q I (k B H Q q)
theorem PW.weak{X:Cx}{t t':TT}(h:PW X e t)(k:∀B H Q,t' B H Q->t B H Q):PW X e t':=fun wh pins s B H Q I q=>h wh pins s B H Q I (k B H Q q)
theorem PA.weak{X:Cx}{e:List Expr}{t t':TA}(h:PA X e t)(k:∀B H Q,t' B H Q->t B H Q):PA X e t':=fun pos pins s B H Q I q=>h pos pins s B H Q I (k B H Q q)
theorem PS.weak{X:Cx}{e:Stmt}{t t':TS}(h:PS X e t)(k:∀D B H,t' D B H->t D B H):PS X e t':=fun pins s B H Q I q=>h pins s B H Q I (k Q B H q)
theorem jy.weak{X:Cx}{e:List Stmt}{t t':TS}(h:jy X e t)(k:∀D B H,t' D B H->t D B H):jy X e t':=fun pins s B H Q I q=>h pins s B H Q I (k Q B H q)
def ah(i:Nat):ME:=fun Z Y=>match Z[i]? with
 |some (some d)=>.ok d Y
 |_=>.bad
def cC(d:D):ME:=fun _ Y=>.ok d Y
def av(op:D->D->aA->aj D)(fa fb:ME):ME:=fun Z Y=>(fa Z Y).bind fun a Y1=>(fb Z Y1).bind fun b Y2=>op a b Y2
def i7(op:D->aA->aj D)(fa:ME):ME:=fun Z Y=>(fa Z Y).bind fun a Y1=>op a Y1
def aD:MA:=fun _ Y=>.ok [] Y
def af(fa:ME)(fr:MA):MA:=fun Z Y=>(fa Z Y).bind fun a Y1=>(fr Z Y1).bind fun r Y2=>.ok (a::r) Y2
def aI(f:List D->aA->aj D)(fa:MA):ME:=fun Z Y=>(fa Z Y).bind f
def je(fa:MA):ME:=aI (fun ds Y=>if ds.length<=sizeLine then .ok (.tup ds) Y else .bad) fa
def fT(fa:MA):ME:=aI (fun ds Y=>if ds.length<=sizeLine then .ok (.obj Y.length) (Y++[.lst ds]) else .bad) fa
def A4:D->aA->aj Bool
 |.bl b,Y=>.ok b Y
 |_,_=>.bad
def fQ(f:ME):MT:=fun Z Y=>(f Z Y).bind A4
def vb(f g:MT):MT:=fun Z Y=>(f Z Y).bind fun b Y1=>if b=true then g Z Y1 else .ok false Y1
def fW(f g:MT):MT:=fun Z Y=>(f Z Y).bind fun b Y1=>if b=true then .ok true Y1 else g Z Y1
def gX(f:MT):MT:=fun Z Y=>(f Z Y).bind fun b Y1=>.ok (!b) Y1
def iT(f g:ME):ME:=fun Z Y=>(f Z Y).bind fun a Y1=>(A4 a Y1).bind fun b Y2=>if b=true then g Z Y2 else .ok (.bl false) Y2
def Ei(f g:ME):ME:=fun Z Y=>(f Z Y).bind fun a Y1=>(A4 a Y1).bind fun b Y2=>if b=true then .ok (.bl true) Y2 else g Z Y2
def va(f:ME):ME:=fun Z Y=>(f Z Y).bind fun a Y1=>(A4 a Y1).bind fun b Y2=>.ok (.bl (!b)) Y2
def Mx(c:MT)(f g:ME):ME:=fun Z Y=>(c Z Y).bind fun b Y1=>if b=true then f Z Y1 else g Z Y1
def qU(p:Pa)(op:D->D->aA->aj D)(r:R2):Prop:=∀a b v y H J Y Q,p.S H J Y->p.R H J a v->p.R H J b y->aO p H J (op a b Y) (RV p Q)->r v y H Q
def N8(p:Pa)(op:D->aA->aj D)(r:V->Hp->VK->Prop):Prop:=∀a v H J Y Q,p.S H J Y->p.R H J a v->aO p H J (op a Y) (RV p Q)->r v H Q
def xc(p:Pa)(f:List D->aA->aj D)(r:List V->Hp->VK->Prop):Prop:=∀ds vs H J Y Q,p.S H J Y->p.Rs H J ds vs->aO p H J (f ds Y) (RV p Q)->r vs H Q
section
variable{p:Pa}
theorem l0{d:D}{Y:aA}{R:Bool->aA->Hp->List Addr->Prop}(h:aO p H J (A4 d Y) R)(r:p.R H J d v)(s:p.S H J Y):∃b,d=.bl b/\v=.bl b/\R b Y H J:=by
 cases d with
 |bl b=>exact⟨b,rfl,aU.mp r,h.now s⟩
 |non=>exact h.elim
 |int i=>exact h.elim
 |str x=>exact h.elim
 |tup xs=>exact h.elim
 |frz xs=>exact h.elim
 |obj n=>exact h.elim
variable{X:Cx}{a b c:Expr}{es:List Expr}{fa fb fc:ME}
theorem Iz(h:PE X (.Name x pos) (KC i)):PE X (.Name x pos) (tD p (ah i)):=h.weak fun B H Q ⟨J,Z,Y,S,R,P⟩=>by
 unfold ah at P;cases e:Z[i]? with
 |none=>rw[e]at P;exact P.elim
 |some o=>
  rw[e]at P;cases o with
  |none=>exact P.elim
  |some d=>
   obtain⟨v,h1,h2⟩:=R.at' i d e;exact⟨v,h1,P.now S v h2⟩
theorem zJ{d:D}(h:PE X e (tC v))(r:∀H J,p.R H J d v):PE X e (tD p (cC d)):=h.weak fun B H Q ⟨J,Z,Y,S,R,P⟩=>P.now S v (r H J)
theorem lV{op:Operator}{o:D->D->aA->aj D}{r:R2}(ho:iy X (binaryOp op) r)(hd:qU p o r)(ha:PE X a (tD p fa))(hb:PE X b (tD p fb)):PE X (.BinOp a op b pos) (tD p (av o fa fb)):=
 (LN ho ha hb).weak fun B H Q ⟨J,Z,Y,S,R,P⟩=>⟨J,Z,Y,S,R,P.bind.imp fun x Y1 H1 J1 X1 S1 P1 v rv=>⟨J1,Z,Y1,S1,R.mono X1,P1.bind.imp fun y Y2 H2 J2 X2 S2 P2 u ru=>hd x y v u H2 J2 Y2 Q S2 (rv.mono X2) ru P2⟩⟩
theorem IG{o:D->D->aA->aj D}{r:R2}(ho:iy X (compareOp op) r)(hd:qU p o r)(ha:PE X a (tD p fa))(hb:PE X b (tD p fb))(hm:behindInMarks op b=false):PE X (.Compare a [op] [b] pos) (tD p (av o fa fb)):=
 (Fy ho ha hb hm).weak fun B H Q ⟨J,Z,Y,S,R,P⟩=>⟨J,Z,Y,S,R,P.bind.imp fun x Y1 H1 J1 X1 S1 P1 v rv=>⟨J1,Z,Y1,S1,R.mono X1,P1.bind.imp fun y Y2 H2 J2 X2 S2 P2 u ru=>hd x y v u H2 J2 Y2 Q S2 (rv.mono X2) ru P2⟩⟩
theorem HZ{o:D->D->aA->aj D}{r:R2}(ho:iy X (compareOp op) r)(hd:qU p o r)(ha:PE X a (tD p fa))(hb:PE X b (tD p fb))(hm:behindInMarks op b=false):PT X (.Compare a [op] [b] pos) (iO p (fQ (av o fa fb))):=
 (ze ho ha hb hm).weak fun B H Q ⟨J, Z, Y, S, R, P⟩ => ⟨J, Z, Y, S, R, P.bind.bind.imp fun x Y1 H1 J1 X1 S1 P1 v rv => ⟨J1, Z, Y1, S1, R.mono X1, P1.bind.imp fun y Y2 H2 J2 X2 S2 P2 u ru =>
  hd x y v u H2 J2 Y2 _ S2 (rv.mono X2) ru (P2.imp fun d Y3 H3 J3 X3 S3 P3 z rz=>by
   obtain⟨k,_,e,q⟩:=l0 P3 rz S3
   exact⟨k,e,q⟩)⟩⟩
theorem Lz{op:UnaryOp}{o:D->aA->aj D}{r:V->Hp->VK->Prop}(ho:Mz X (unaryOp op) r)(hd:N8 p o r)(ha:PE X a (tD p fa)):PE X (.UnaryOp op a pos) (tD p (i7 o fa)):=
 (LL ho ha).weak fun B H Q ⟨J,Z,Y,S,R,P⟩=>⟨J,Z,Y,S,R,P.bind.imp fun x Y1 H1 J1 X1 S1 P1 v rv=>hd x v H1 J1 Y1 Q S1 rv P1⟩
theorem BZ:PA X [] (jw p aD):=tE.weak fun B H Q ⟨J,Z,Y,S,R,P⟩=>P.now S [] Reps.nil
theorem tO{fr:MA}(ha:PE X a (tD p fa))(hr:PA X es (jw p fr))(hs:starEach (a::es) X.env=(false,eval a X.env)::starEach es X.env):PA X (a::es) (jw p (af fa fr)):=
 (jH ha hr hs).weak fun B H Q ⟨J,Z,Y,S,R,P⟩=>⟨J,Z,Y,S,R,P.bind.imp fun x Y1 H1 J1 X1 S1 P1 v rv=>⟨J1,Z,Y1,S1,R.mono X1,P1.bind.imp fun y Y2 H2 J2 X2 S2 P2 us ru=>P2.now S2 _ (Reps.cons (rv.mono X2) ru)⟩⟩
theorem IA{fr:MA}(h:PA X es (jw p fr)):PE X (.Tuple es k pos) (tD p (je fr)):=
 (Jb h).weak fun B H Q ⟨J, Z, Y, S, R, P⟩ => ⟨J, Z, Y, S, R, P.bind.imp fun ds Y1 H1 J1 X1 S1 P1 vs rv => by
  by_cases hl:ds.length<=sizeLine
  ·rw[OA hl]at P1;refine⟨by rw[rv.length];exact hl,fun q hq=>?_⟩;exact P1 _ _ (bV hq) (S1.tuple hq) _ (aQ.mpr ⟨q,vs,rfl,gL.of bj,rv.mono (bV hq)⟩)
  ·rw [OB hl] at P1
   exact P1.elim⟩
theorem c9{Y:aA}{ds:List D}{q:Addr}(S:p.S H J Y)(hq:H q=none)(rv:p.Rs H J ds vs):
  p.X H (b9 H q (.lst vs)) J (J++[q])/\p.S (b9 H q (.lst vs)) (J++[q]) (Y++[.lst ds])/\p.R (b9 H q (.lst vs)) (J++[q]) (.obj Y.length) (.ref q):=by
 have X1:p.X H (b9 H q (.lst vs)) J (J++[q]):=(bV hq).trans (jk [q]);exact⟨X1,S.more hq ⟨vs,bj,rv.mono X1⟩,bf.mpr ⟨q,rfl,by rw[<- S.len];simp⟩⟩
theorem ID{fr:MA}(h:PA X es (jw p fr)):PE X (.List es pos) (tD p (fT fr)):=
 (Jg h).weak fun B H Q ⟨J, Z, Y, S, R, P⟩ => ⟨J, Z, Y, S, R, P.bind.imp fun ds Y1 H1 J1 X1 S1 P1 vs rv => by
  by_cases hl:ds.length<=sizeLine
  ·rw[OA hl]at P1;refine⟨by rw[rv.length];exact hl,fun q hq=>?_⟩;obtain⟨x1,x2,x3⟩:=c9 S1 hq rv;exact P1 _ _ x1 x2 _ x3
  ·rw [OB hl] at P1
   exact P1.elim⟩
variable{ft gt:MT}
theorem HS(ha:PT X a (iO p ft))(hb:PW X (.BoolOp .And (b::rest) pos) (iO p gt)):PW X (.BoolOp .And (a::b::rest) pos) (iO p (vb ft gt)):=
 (IQ ha hb).weak fun B H Q ⟨J, Z, Y, S, R, P⟩ => ⟨J, Z, Y, S, R, P.bind.imp fun k Y1 H1 J1 X1 S1 P1 => by
  cases k with
  |true=>rw[OA rfl]at P1⊢;exact⟨J1,Z,Y1,S1,R.mono X1,P1⟩
  |false=>rw[OB Pm]at P1⊢;exact P1.now S1⟩
theorem Lp(ha:PT X a (iO p ft))(hb:PW X (.BoolOp .Or (b::rest) pos) (iO p gt)):PW X (.BoolOp .Or (a::b::rest) pos) (iO p (fW ft gt)):=
 (LJ ha hb).weak fun B H Q ⟨J, Z, Y, S, R, P⟩ => ⟨J, Z, Y, S, R, P.bind.imp fun k Y1 H1 J1 X1 S1 P1 => by
  cases k with
  |true=>rw[OA rfl]at P1⊢;exact P1.now S1
  |false=>rw[OB Pm]at P1⊢;exact⟨J1,Z,Y1,S1,R.mono X1,P1⟩⟩
theorem HX(ha:PT X a (iO p ft)):PT X (.UnaryOp .Not a pos) (iO p (gX ft)):=
 (IR ha).weak fun B H Q ⟨J,Z,Y,S,R,P⟩=>⟨J,Z,Y,S,R,P.bind.imp fun k Y1 H1 J1 X1 S1 P1=>P1.now S1⟩
theorem IH(ha:PE X a (tD p fa))(hb:PE X (.BoolOp .And (b::rest) pos) (tD p fb)):PE X (.BoolOp .And (a::b::rest) pos) (tD p (iT fa fb)):=
 (Jj ha hb).weak fun B H Q ⟨J, Z, Y, S, R, P⟩ => ⟨J, Z, Y, S, R, P.bind.imp fun d Y1 H1 J1 X1 S1 P1 v rv => by
  obtain⟨k,_,e,q⟩:=l0 P1.bind rv S1;refine⟨k,e,?_⟩;cases k with
  |true=>rw[OA rfl]at q⊢;exact⟨J1,Z,Y1,S1,R.mono X1,q⟩
  |false=>rw[OB Pm]at q⊢;exact q.now S1 _ (aU.mpr rfl)⟩
theorem LA(ha:PE X a (tD p fa))(hb:PE X (.BoolOp .Or (b::rest) pos) (tD p fb)):PE X (.BoolOp .Or (a::b::rest) pos) (tD p (Ei fa fb)):=
 (LM ha hb).weak fun B H Q ⟨J, Z, Y, S, R, P⟩ => ⟨J, Z, Y, S, R, P.bind.imp fun d Y1 H1 J1 X1 S1 P1 v rv => by
  obtain⟨k,_,e,q⟩:=l0 P1.bind rv S1;refine⟨k,e,?_⟩;cases k with
  |true=>rw[OA rfl]at q⊢;exact q.now S1 _ (aU.mpr rfl)
  |false=>rw[OB Pm]at q⊢;exact⟨J1,Z,Y1,S1,R.mono X1,q⟩⟩
theorem IC(ha:PE X a (tD p fa)):PE X (.UnaryOp .Not a pos) (tD p (va fa)):=
 (Je ha).weak fun B H Q ⟨J, Z, Y, S, R, P⟩ => ⟨J, Z, Y, S, R, P.bind.imp fun d Y1 H1 J1 X1 S1 P1 v rv => by
  obtain⟨k,_,e,q⟩:=l0 P1.bind rv S1
  exact⟨k,e,q.now S1 _ (aU.mpr rfl)⟩⟩
theorem LC(hc:PT X c (iO p ft))(ha:PE X a (tD p fa))(hb:PE X b (tD p fb)):PE X (.IfExp c a b pos) (tD p (Mx ft fa fb)):=
 (Da hc ha hb).weak fun B H Q ⟨J, Z, Y, S, R, P⟩ => ⟨J, Z, Y, S, R, P.bind.imp fun k Y1 H1 J1 X1 S1 P1 => by
  cases k with
  |true=>rw[OA rfl]at P1⊢;exact⟨J1,Z,Y1,S1,R.mono X1,P1⟩
  |false=>rw[OB Pm]at P1⊢;exact⟨J1,Z,Y1,S1,R.mono X1,P1⟩⟩
theorem CZ{id:String}{f:List D->aA->aj D}{fr:MA}{r:List V->Hp->VK->Prop}(hc:cZ X (.builtin id) r)(hd:xc p f r)(hg:Gl X x)(hm:X.mg x=none)(hv:bootBuiltins x=some (.builtin id))(ha:PA X (a::es) (jw p fr))(hn:x ≠ "__name__")(hdb:(x == ("__debug__" : Str))=false)(he:starEach (a::es) X.env=(false,eval a X.env)::starEach es X.env)(hpl:(backTo pos (starEach es X.env)).any (·.1)=false):PE X (.Call (.Name x px) (a::es) [] pos) (tD p (aI f fr)):=
 (mR hc hg hm hv ha hn hdb he hpl).weak fun B H Q ⟨J,Z,Y,S,R,P⟩=>⟨J,Z,Y,S,R,P.bind.imp fun ds Y1 H1 J1 X1 S1 P1 vs rv=>hd ds vs H1 J1 Y1 Q S1 rv P1⟩
theorem Ad{f:List D->aA->aj D}{fr:MA}{r:List V->Hp->VK->Prop}(hc:cZ X (.type T) r)(hd:xc p f r)(hg:Gl X x)(hm:X.mg x=none)(hv:bootBuiltins x=some (.type T))(ha:PA X (a::es) (jw p fr))(hn:x ≠ "__name__")(hdb:(x == ("__debug__" : Str))=false)(he:starEach (a::es) X.env=(false,eval a X.env)::starEach es X.env)(hpl:(backTo pos (starEach es X.env)).any (·.1)=false):PE X (.Call (.Name x px) (a::es) [] pos) (tD p (aI f fr)):=
 (An hc hg hm hv ha hn hdb he hpl).weak fun B H Q ⟨J,Z,Y,S,R,P⟩=>⟨J,Z,Y,S,R,P.bind.imp fun ds Y1 H1 J1 X1 S1 P1 vs rv=>hd ds vs H1 J1 Y1 Q S1 rv P1⟩
end
def bL(f:ME):MS:=fun Z Y=>(f Z Y).bindS fun d Y'=>.ret d Y'
def cf:MS:=fun Z Y=>.next Z Y
def bh(f g:MS):MS:=fun Z Y=>(f Z Y).bind g
def j3(c:MT)(f g:MS):MS:=fun Z Y=>(c Z Y).bindS fun b Y1=>if b=true then f Z Y1 else g Z Y1
def bR(f:ME)(g:MG):MS:=fun Z Y=>(f Z Y).bindS fun d Y1=>(g d Z Y1).bindS fun Z' Y2=>.next Z' Y2
def mG(f:ME):MS:=fun Z Y=>(f Z Y).bindS fun _ Y1=>.next Z Y1
def aq(i:Nat):MG:=fun d Z Y=>.ok (Z.set i (some d)) Y
abbrev Ea:=List D->Ro->aA->aj Ro
def fZ:Ea:=fun ds Z Y=>match ds with
 |[]=>.ok Z Y
 |_::_=>.bad
def bH(g:MG)(u:Ea):Ea:=fun ds Z Y=>match ds with
 |[]=>.bad
 |d::r=>(g d Z Y).bind fun Z' Y'=>u r Z' Y'
def fY(n:Nat)(u:Ea):MG:=fun d Z Y=>match d with
 |.tup xs=>if xs.length=n then u xs Z Y else .bad
 |_=>.bad
def uN(o i v:D)(Y:aA):aj Unit:=match o,i with
 |.obj n,.int k=>match Y[n]? with
  |some (.lst xs)=>match uK xs.length k with
   |some j=>.ok () (Y.set n (.lst (xs.set j v)))
   |none=>.bad
  |_=>.bad
 |_,_=>.bad
def pU(fo fi:ME):MG:=fun d Z Y=>(fo Z Y).bind fun o Y1=>(fi Z Y1).bind fun i Y2=>(uN o i d Y2).bind fun _ Y3=>.ok Z Y3
def uM(p:Pa)(g:Ea):D9:=fun vs B H Q=>∃J Z Y ds,p.S H J Y/\eT p.K H J Z B/\p.Rs H J ds vs/\aO p H J (g ds Z Y) (fun Z' _ H' J'=>∀B',eT p.K H' J' Z' B'->Q B' H')
theorem PG.weak{X:Cx}{t t':TG}(h:PG X e t)(k:∀v B H Q,t' v B H Q->t v B H Q):PG X e t':=fun pins s B H v u Q I r q=>h pins s B H v u Q I r (k v B H Q q)
theorem xj.weak{X:Cx}{e:List Expr}{t t':D9}(h:xj X e t)(k:∀v B H Q,t' v B H Q->t v B H Q):xj X e t':=fun pins s B H v u Q I r q=>h pins s B H v u Q I r (k v B H Q q)
theorem PI.weak{X:Cx}{t t':TI}(h:PI X tg e t)(k:∀B H R,t' B H R->t B H R):PI X tg e t':=fun pins s B H Q I q=>h pins s B H Q I (k B H Q q)
section
variable{p:Pa}{X:Cx}{a b c:Expr}{es:List Expr}{f:ME}{g:MG}{u:Ea}{sts:List Stmt}{fs gs:MS}{ft:MT}
theorem Ig:jy X [] (iw p cf):=Fh.weak fun D B H ⟨J,Z,Y,S,R,P⟩=>P H J B lA.refl S R
theorem CV{t u:TS}{D:nv}{B:St}{H:Hp}{J:List Addr}{o:SO}{k:MS}(h:fg p H J (o.bind k) D)
  (hk:∀D B H,iw p k D B H->u D B H):fg p H J o {D with nx:=u D}:=by
 cases o with
 |next Z Y=>exact fun H' J' B' e s r=>hk _ _ _ ⟨J',Z,Y,s,r,fg.from e h⟩
 |brk Z Y=>exact h
 |cnt Z Y=>exact h
 |ret d Y=>exact h
 |exc x Y=>exact h
 |bad=>exact h
theorem EK(h1:PS X st (iw p fs))(h2:jy X sts (iw p gs)):jy X (st::sts) (iw p (bh fs gs)):=
 (C5 h1 h2).weak fun D B H ⟨J,Z,Y,S,R,P⟩=>⟨J,Z,Y,S,R,CV (t:=iw p fs) (B:=B) P fun _ _ _ z=>z⟩
theorem Ie(h1:PS X st (iw p fs)):jy X [st] (iw p fs):=zf h1
theorem Ic(h:PE X e (tD p f)):PS X (.Return (some e) pos) (iw p (bL f)):=
 (IU h).weak fun D B H ⟨J,Z,Y,S,R,P⟩=>⟨J,Z,Y,S,R,(aO.bindS P).imp fun d Y1 H1 J1 X1 S1 P1 v rv=>P1 H1 J1 v lA.refl S1 rv⟩
theorem Lq{A σ:List Stmt}(hc:PT X c (iO p ft))(ha:jy X A (iw p fs))(hb:jy X σ (iw p gs)):PS X (.If c A σ pos) (iw p (j3 ft fs gs)):=
 (LK hc ha hb).weak fun D B H ⟨J, Z, Y, S, R, P⟩ => ⟨J, Z, Y, S, R, (aO.bindS P).imp fun k Y1 H1 J1 X1 S1 P1 => by
  cases k with
  |true=>rw[OA rfl]at P1⊢;exact⟨J1,Z,Y1,S1,R.mono X1,P1⟩
  |false=>rw[OB Pm]at P1⊢;exact⟨J1,Z,Y1,S1,R.mono X1,P1⟩⟩
theorem wj{D:nv}(h:iw p (bR f g) D B H):Bb (tD p f) (sW p g) D B H:=by
 obtain⟨J,Z,Y,S,R,P⟩:=h;exact⟨J,Z,Y,S,R,(aO.bindS P).imp fun d Y1 H1 J1 X1 S1 P1 v rv=>⟨J1,Z,Y1,d,S1,R.mono X1,rv,(aO.bindS P1).imp fun Z' Y2 H2 J2 X2 S2 P2 B' r'=>P2 H2 J2 B' lA.refl S2 r'⟩⟩
theorem Ii(he:PE X e (tD p f))(hg:PG X tg (sW p g))(hs:swapsWithSole [tg] e pos.line X.env=pure false)(hw:swappedStores [tg] e X.env=pure none)
  (h1:(assignEach [tg] X.env).map (·.2)=[assign tg X.env]):PS X (.Assign [tg] e pos) (iw p (bR f g)):=(IX he hg hs hw h1).weak fun D B H h=>wj h
theorem qC{Q:St->Hp->Prop}(h:sW p (aq i) v B H Q):uZ i v B H Q:=by
 obtain⟨J,Z,Y,d,S,R,r,P⟩:=h;exact P.now S _ (R.set i r)
theorem E1(hN:X.N.Nodup)(hi:X.N[i]?=some x)(hx:D6 X.env.scope x)(hf:X.fn x=true\/X.env.scope.names.lookup x=some .local):PG X (.Name x pos) (sW p (aq i)):=
 (Fq hN hi hx hf).weak fun v B H Q h=>qC h
theorem Ib(hN:X.N.Nodup)(hi:X.N[i]?=some x)(hx:D6 X.env.scope x)(he:PE X e (tD p f))(hs:swapsWith e (some (.Name x pos')) pos.line X.env=pure false)(hf:X.fn x=true\/X.env.scope.names.lookup x=some .local):
  PS X (.Assign [.Name x pos'] e pos) (iw p (bR f (aq i))):=(IT hN hi hx he hs hf).weak fun D B H h=>by
 obtain⟨J,Z,Y,S,R,P⟩:=wj h;exact⟨J,Z,Y,S,R,P.imp fun d Y1 H1 J1 X1 S1 P1 v rv=>qC (P1 v rv)⟩
theorem EJ(he:PE X e (tD p f))(hs:swapsWith e none pos.line X.env=pure false):PS X (.Expr e pos) (iw p (mG f)):=
 (Fk he hs).weak fun D B H ⟨J,Z,Y,S,R,P⟩=>⟨J,Z,Y,S,R,(aO.bindS P).imp fun d Y1 H1 J1 X1 S1 P1 v rv=>P1 H1 J1 B lA.refl S1 (R.mono X1)⟩
theorem EX:xj X [] (uM p fZ):=Fp.weak fun vs B H Q ⟨J,Z,Y,ds,S,R,r,P⟩=>by
 cases ds with
 |nil=>simp only[Reps]at r;exact⟨r,P.now S B R⟩
 |cons d ds=>exact P.elim
theorem CQ(h1:PG X e (sW p g))(h2:xj X es (uM p u))(hs:(assignEach (e::es) X.env).map (·.2)=assign e X.env::(assignEach es X.env).map (·.2)):xj X (e::es) (uM p (bH g u)):=
 (C9 h1 h2 hs).weak fun vs B H Q ⟨J, Z, Y, ds, S, R, r, P⟩ => by
  cases ds with
  |nil=>exact P.elim
  |cons d ds=>
   simp only[Reps]at r;obtain⟨v,vr,rfl,r1,r2⟩:=r;refine⟨v,vr,rfl,J,Z,Y,d,S,R,r1,?_⟩;exact(aO.bind (o:=g d Z Y) P).imp fun Z' Y1 H1 J1 X1 S1 P1 B' r'=>⟨J1,Z',Y1,ds,S1,r',r2.mono X1,P1⟩
theorem Iw(hK:X.K=p.K)(hc:X.calm=true)(h:xj X es (uM p u))(hn:(assignEach es X.env).length=n)(hst:(assignEach es X.env).findIdx? (·.1)=none):PG X (.Tuple es k pos) (sW p (fY n u)):=
 (I0 hc h hn hst).weak fun v B H Q ⟨J, Z, Y, d, S, R, r, P⟩ => by
  cases d with
  |tup xs=>
   obtain⟨a,vs,rfl,h1,h2⟩:=aQ.mp r;have P':aO p H J (if xs.length=n then u xs Z Y else .bad) _:=P;by_cases hl:xs.length=n
   ·rw[OA hl]at P';exact⟨a,vs,rfl,by rw[hK];exact h1,by rw[h2.length];exact hl,J,Z,Y,xs,S,R,h2,P'⟩
   ·rw[OB hl]at P';exact P'.elim
  |non=>exact P.elim
  |bl b=>exact P.elim
  |int i=>exact P.elim
  |str x=>exact P.elim
  |frz xs=>exact P.elim
  |obj n=>exact P.elim
theorem E4{o i d:D}{Y:aA}{R:Unit->aA->Hp->List Addr->Prop}{vo vi:V}(S:p.S H J Y)(ro:p.R H J o vo)(ri:p.R H J i vi)(rv:p.R H J d v)(P:aO p H J (uN o i d Y) R):
  GQ vo vi v H fun H'=>∃Y',p.X H H' J J/\p.S H' J Y'/\R () Y' H' J:=by
 unfold uN at P;split at P
 ·rename_i n k;split at P
  ·rename_i xs hx;split at P
   ·rename_i j hj;obtain⟨a,ea,us,hH,rr⟩:=S.at hx;obtain⟨a',rfl,ea'⟩:=bf.mp ro;rw[ea]at ea';cases ea';rw[ar.mp ri];have q:=rr.set rv j;refine⟨a,us,k,j,rfl,rfl,hH,by rw[rr.length];exact hj,_,jJ hH,S.put hx ea hH q,?_⟩;exact P _ _ (jJ hH) (S.put hx ea hH q)
   ·exact P.elim
  ·exact P.elim
 ·exact P.elim
theorem Iy{o i:Expr}{fo fi:ME}(ho:PE X o (tD p fo))(hi:PE X i (tD p fi))
  (ha : ∀ v, assign (.Subscript o i pos) X.env v = (do
   let ov <- holding [v] (eval o X.env)
   let iv <- holding [v,ov] (eval i X.env)
   standAt pos
   holding [v,ov,iv] (setItem ov iv v)
   release [v,ov,iv] [])):PG X (.Subscript o i pos) (sW p (pU fo fi)):=
 (Ja ho hi CS ha).weak fun v B H Q ⟨J, Z, Y, d, S, R, r, P⟩ => ⟨J, Z, Y, S, R, (aO.bind P).imp fun od Y1 H1 J1 X1 S1 P1 vo ro => ⟨J1, Z, Y1, S1, R.mono X1, (aO.bind P1).imp fun id Y2 H2 J2 X2 S2 P2 vi ri => by
  obtain⟨pp,xs,k,j,e1,e2,e3,e4,Y3,x3,s3,q⟩:=E4 S2 (ro.mono X2) ri ((r.mono X1).mono X2) (aO.bind P2)
  exact⟨pp,xs,k,j,e1,e2,e3,e4,q.now s3 B (((R.mono X1).mono X2).mono x3)⟩⟩⟩
end
inductive oF where
 |fix (xs:List D)|own (n:Nat) (xs:List D)|eno (n:Nat) (xs:List D)
def gW:Nat->List D->List D
 |_,[]=>[]
 |i,x::r=>.tup [.int i,x]::gW (i+1) r
theorem sL:∀{xs:List D}{k i:Nat},(gW k xs)[i]?=(xs[i]?).map fun x=>D.tup [.int ((k+i:Nat):Int),x]
 |[],_,_=>by simp[gW]
 |x::r,k,0=>by simp[gW]
 |x::r,k,i+1=>by
  simp only[gW,List.getElem?_cons_succ];rw[sL (xs:=r) (k:=k+1) (i:=i)];congr 1;funext y;congr 4;omega
theorem sH:∀{xs:List D}{k:Nat},(gW k xs).length=xs.length
 |[],_=>rfl
 |x::r,k=>by simp[gW,sH (xs:=r)]
def oF.items:oF->List D
 |.fix xs=>xs
 |.own _ xs=>xs
 |.eno _ xs=>gW 0 xs
def dz:oF->aA->Prop
 |.fix _,_=>True
 |.own n xs,Y=>Y[n]?=some (.lst xs)
 |.eno n xs,Y=>Y[n]?=some (.lst xs)
def xy(p:Pa)(α:It)(src:oF)(H0:Hp)(J0:List Addr):Prop:=
 ∀H2 J2 Y2,p.X H0 H2 J0 J2->p.S H2 J2 Y2->dz src Y2 ->
  (∀(i:Nat) d,src.items[i]?=some d->α.go i H2/\∀x H3,α.yld i H2 x H3->p.X H2 H3 J2 J2/\p.S H3 J2 Y2/\p.R H3 J2 d x)/\α.stop src.items.length H2
abbrev MI:=Ro->aA->aj oF
def xa(p:Pa)(f:MI):TI:=fun B H R=>∃J Z Y,p.S H J Y/\eT p.K H J Z B/\aO p H J (f Z Y) (fun src Y' H' J'=>∀α,dz src Y'->xy p α src H' J'->R α H')
def SO.loop(o:SO)(k:Ro->aA->SO):SO:=match o with
 |.next Z Y=>k Z Y
 |.cnt Z Y=>k Z Y
 |.brk Z Y=>.next Z Y
 |.ret d Y=>.ret d Y
 |.exc x Y=>.exc x Y
 |.bad=>.bad
open Classical in
def fU(src:oF)(g:MG)(fb:MS):List D->Ro->aA->SO
 |[],Z,Y=>if dz src Y then .next Z Y else .bad
 |d::r,Z,Y=>if dz src Y then (g d Z Y).bindS fun Z' Y'=>(fb Z' Y').loop (fU src g fb r) else .bad
def nt(fi:MI)(g:MG)(fb:MS):MS:=fun Z Y=>(fi Z Y).bindS fun src Y1=>fU src g fb src.items Z Y1
section
variable{p:Pa}{X:Cx}{c:Expr}{fi:MI}{g:MG}{fb:MS}{ft:MT}
theorem AA{o:SO}{k:Ro->aA->SO}{D:nv}{N:St->Hp->Prop}(h:fg p H J (o.loop k) D)(hN:∀Z Y H' J' B',p.X H H' J J'->p.S H' J' Y->eT p.K H' J' Z B'->fg p H' J' (k Z Y) D->N B' H'):fg p H J o {D with nx:=N,ct:=N,bk:=D.nx}:=by
 cases o with
 |next Z Y=>exact fun H' J' B' e s r=>hN Z Y H' J' B' e s r (fg.from e h)
 |cnt Z Y=>exact fun H' J' B' e s r=>hN Z Y H' J' B' e s r (fg.from e h)
 |brk Z Y=>exact h
 |ret d Y=>exact h
 |exc x Y=>exact h
 |bad=>exact h
theorem Ih(hp:PassesOwn (model X.prog X.w) X.A X.env X.xe)(hc:X.calm=true)(hi:PI X tg iter (xa p fi))(hg:PG X tg (sW p g))(hb:jy X body (iw p fb))(hs:∀x,foldedSetIterable iter X.env x=pure x) :
  PS X (.For tg iter body [] pos) (iw p (nt fi g fb)):=(IW hp hc hi hg hb hs).weak fun D B H ⟨J,Z,Y,S,R,P⟩=>by
 refine⟨J,Z,Y,S,R,(aO.bindS P).imp fun src Y1 H1 J1 X1 S1 P1 α hok hJ=>?_⟩
 refine⟨fun i m B2 H2=>m=src.items.length-i/\i<=src.items.length/\∃J2 Z2 Y2,p.X H1 H2 J1 J2/\p.S H2 J2 Y2/\eT p.K H2 J2 Z2 B2/\fg p H2 J2 (fU src g fb (src.items.drop i) Z2 Y2) D,
  ⟨_,rfl,QR _,J1,Z,Y1,lA.refl,S1,R.mono X1,by simpa using P1⟩,?_⟩
 rintro i m B2 H2 ⟨rfl,hi,J2,Z2,Y2,X2,S2,R2,P2⟩
 by_cases hlt:i<src.items.length
 ·rw [List.drop_eq_getElem_cons hlt] at P2;unfold fU at P2;by_cases ho:dz src Y2
  ·rw [OA ho] at P2;obtain⟨hgo,hy⟩:=(hJ H2 J2 Y2 X2 S2 ho).1 i _ (Sk hlt)
   refine .inr ⟨hgo,fun B' H'=>i+1<=src.items.length/\∃J2 Z2 Y2,p.X H1 H' J1 J2/\p.S H' J2 Y2/\eT p.K H' J2 Z2 B'/\fg p H' J2 (fU src g fb (src.items.drop (i+1)) Z2 Y2) D,
    fun B' H' ⟨h1,h2⟩=>⟨_,by omega,rfl,h1,h2⟩,fun x H3 yx=>?_⟩
   obtain⟨X3,S3,R3⟩:=hy x H3 yx;refine⟨J2,Z2,Y2,_,S3,R2.mono X3,R3,(aO.from X3 (aO.bindS P2)).imp fun Z4 Y4 H4 J4 X4 S4 P4 B4 R4=>⟨J4,Z4,Y4,S4,R4,AA P4 fun Z5 Y5 H5 J5 B5 X5 S5 R5 P5=>⟨hlt,J5,Z5,Y5,((X2.trans X3).trans X4).trans X5,S5,R5,P5⟩⟩⟩
  ·rw[OB ho]at P2;exact P2.elim
 ·have e : i = src.items.length := by omega
  subst e;rw[List.drop_length]at P2;unfold fU at P2;by_cases ho:dz src Y2
  ·rw[OA ho]at P2;exact .inl ⟨(hJ H2 J2 Y2 X2 S2 ho).2,P2 H2 J2 B2 lA.refl S2 R2⟩
  ·rw[OB ho]at P2;exact P2.elim
end
section
variable{p:Pa}{X:Cx}
theorem AE{Y:aA}{xs:List D}(S:p.S H J Y)(hn:Y[n]?=some (.lst xs))(ha:J[n]?=some a):xy p (MN p.K a) (.own n xs) H J:=by
 intro H2 J2 Y2 X2 S2 ho;obtain⟨a',ea,vs,hH,rr⟩:=S2.at ho;rw[X2.pre n a ha]at ea;cases ea;refine⟨fun i d hd=>?_,vs,gB.of hH,by rw[rr.length];exact Pf _⟩;obtain⟨v,hv,rv⟩:=rr.get hd;refine⟨⟨vs,v,gB.of hH,hv⟩,fun x H3 ⟨e,hx⟩=>?_⟩;subst e;have:=hx vs (gB.of hH);rw[hv]at this;cases this;exact⟨lA.refl,S2,rv⟩
theorem DA{xs:List D}(h:GA p.K H a vs)(r:p.Rs H J xs vs):xy p (MN p.K a) (.fix xs) H J:=by
 intro H2 J2 Y2 X2 S2 ho;have h2:=(X2.frz a vs h).sq;have rr:=r.mono X2;refine⟨fun i d hd=>?_,vs,h2,by rw[rr.length];exact Pf _⟩;obtain⟨v,hv,rv⟩:=rr.get hd;refine⟨⟨vs,v,h2,hv⟩,fun x H3 ⟨e,hx⟩=>?_⟩;subst e;have:=hx vs h2;rw[hv]at this;cases this;exact⟨lA.refl,S2,rv⟩
theorem Dy{xs:List D}(h:gL p.K H a vs)(r:p.Rs H J xs vs):xy p (Nf p.K a) (.fix xs) H J:=by
 intro H2 J2 Y2 X2 S2 ho;have h2:=X2.tup a vs h;have rr:=r.mono X2;refine⟨fun i d hd=>?_,vs,h2,by rw[rr.length];exact Pf _⟩;obtain⟨v,hv,rv⟩:=rr.get hd;refine⟨⟨vs,v,h2,hv⟩,fun x H3 ⟨e,hx⟩=>?_⟩;subst e;have:=hx vs h2;rw[hv]at this;cases this;exact⟨lA.refl,S2,rv⟩
def dF(lo:Int)(n:Nat):List D:=(List.range n).map fun(i:Nat)=>D.int (lo+(i:Int))
theorem vV(lo:Int)(n:Nat):xy p (Kt lo n) (.fix (dF lo n)) H J:=by
 intro H2 J2 Y2 X2 S2 ho;refine⟨fun i d hd=>?_,by simp[oF.items,dF,Kt]⟩;have hd':(dF lo n)[i]?=some d:=hd;unfold dF at hd';rw[PU]at hd';by_cases hi:i<n
 ·rw[List.getElem?_range hi]at hd';cases hd';refine⟨hi,fun x H3 ⟨e,hx⟩=>?_⟩;subst e;subst hx;exact⟨lA.refl,S2,ar.mpr rfl⟩
 ·rw[Sa (by simpa using hi)]at hd';cases hd'
def xl(d:D)(Y:aA):aj oF:=match d with
 |.tup xs=>.ok (.fix xs) Y
 |.frz xs=>.ok (.fix xs) Y
 |.obj n=>match Y[n]? with
  |some (.lst xs)=>.ok (.own n xs) Y
  |_=>.bad
 |_=>.bad
def jX(f:ME):MI:=fun Z Y=>(f Z Y).bind xl
def NP(K:W.Frag)(tl:TE):TI:=fun B H R=>tl B H fun x H1=>∃a,x=.ref a/\(((∃xs,gB K H1 a xs)/\R (MN K a) H1)\/((∃xs,gL K H1 a xs)/\R (Nf K a) H1))
theorem IZ{l:Expr}{tl:TE}(hl:PE X l tl):PI X tg l (NP X.K tl):=by
 intro pins s B H R I h;refine cY (hl pins s B H _ I h) fun v s1 ⟨x,H1,I1,r1,q1⟩=>?_;obtain⟨a,e,q⟩:=q1;subst e;cases r1;rcases q with⟨⟨xs,hq⟩,q⟩|⟨⟨xs,hq⟩,q⟩
 ·obtain ⟨its, rv, p, hz⟩ := I1.list hq;refine RZ p.isList ?_;refine⟨s1.heap.objs.size,[s1.heap.objs.size],_,_,H1,rfl,I1.kept (t':=s1.toks) fun b o e=>O8 _ e,zR a _,⟨_,Pe _ rfl,rfl,rfl⟩,fun b hb=>?_,q⟩;have e:b=s1.heap.objs.size:=by simpa using hb
  subst e;exact I1.fpOk (Pf _) (I1.hok.fresh (Pf _))
 ·obtain ⟨its, rv, p, hz⟩ := I1.tuple hq;refine Q4 (show s1.heap.IsTuple a its.toArray from p) ?_;refine⟨s1.heap.objs.size,[s1.heap.objs.size],_,_,H1,rfl,I1.kept (t':=s1.toks) fun b o e=>O8 _ e,xK a _,⟨_,Pe _ rfl,rfl,rfl⟩,fun b hb=>?_,q⟩;have e:b=s1.heap.objs.size:=by simpa using hb
  subst e;exact I1.fpOk (Pf _) (I1.hok.fresh (Pf _))
theorem Iv{l:Expr}{f:ME}(hK:X.K=p.K)(hl:PE X l (tD p f)):PI X tg l (xa p (jX f)):=(IZ hl).weak fun B H R ⟨J,Z,Y,S,Rr,P⟩=>by
 refine⟨J,Z,Y,S,Rr,(aO.bind P).imp fun d Y1 H1 J1 X1 S1 P1 v rv=>?_⟩;rw[hK];cases d with
 |tup xs=>
  obtain⟨a,vs,rfl,h1,h2⟩:=aQ.mp rv;exact⟨a,rfl,.inr ⟨⟨vs,h1⟩,P1.now S1 _ trivial (Dy h1 h2)⟩⟩
 |frz xs=>
  obtain⟨a,vs,rfl,h1,h2⟩:=bA.mp rv;exact⟨a,rfl,.inl ⟨⟨vs,h1.sq⟩,P1.now S1 _ trivial (DA h1 h2)⟩⟩
 |obj n=>
  obtain⟨a,rfl,ha⟩:=bf.mp rv;unfold xl at P1;dsimp only at P1;split at P1
  ·rename_i xs hx;obtain⟨a',ea,vs,hH,rr⟩:=S1.at hx;rw[ha]at ea;cases ea;exact⟨a,rfl,.inl ⟨⟨vs,gB.of hH⟩,P1.now S1 _ hx (AE S1 hx ha)⟩⟩
  ·exact P1.elim
 |non=>exact P1.elim
 |bl b=>exact P1.elim
 |int i=>exact P1.elim
 |str x=>exact P1.elim
def qZ(ds:List D)(Y:aA):aj oF:=match ds with
 |[.int j]=>if -(2^62)<=j/\j<2^62 then .ok (.fix (dF 0 j.toNat)) Y else .bad
 |_=>.bad
def xm(ds:List D)(Y:aA):aj oF:=match ds with
 |[.int i,.int j]=>if -(2^62)<=i/\i<2^62/\-(2^62)<=j/\j<2^62 then .ok (.fix (dF i (j-i).toNat)) Y else .bad
 |_=>.bad
def lQ(f:List D->aA->aj oF)(fa:MA):MI:=fun Z Y=>(fa Z Y).bind f
theorem Ac{a:Expr}{fa:MA}(hg:Gl X "range")(hm:X.mg "range" = none)(ha:PA X [a] (jw p fa))(hs:starEach [a] X.env=[(false,eval a X.env)]):PI X tg (.Call (.Name "range" px) [a] [] pos) (xa p (lQ qZ fa)):=
 (Al hg hm ha hs).weak fun B H R ⟨J, Z, Y, S, Rr, P⟩ => ⟨J, Z, Y, S, Rr, (aO.bind P).imp fun ds Y1 H1 J1 X1 S1 P1 vs rv => by
  unfold qZ at P1;split at P1
  ·rename_i j;obtain⟨v,rfl,r1⟩:=rv.one;rw[ar.mp r1];split at P1
   ·rename_i hj;exact⟨j,rfl,hj.1,hj.2,P1.now S1 _ trivial (vV 0 _)⟩
   ·exact P1.elim
  ·exact P1.elim⟩
theorem Ab{a b:Expr}{fa:MA}(hg:Gl X "range")(hm:X.mg "range" = none)(ha:PA X [a,b] (jw p fa))(hs:starEach [a,b] X.env=[(false,eval a X.env),(false,eval b X.env)])(hs2:starEach [b] X.env=[(false,eval b X.env)]):PI X tg (.Call (.Name "range" px) [a,b] [] pos) (xa p (lQ xm fa)):=
 (Ak hg hm ha hs hs2).weak fun B H R ⟨J, Z, Y, S, Rr, P⟩ => ⟨J, Z, Y, S, Rr, (aO.bind P).imp fun ds Y1 H1 J1 X1 S1 P1 vs rv => by
  unfold xm at P1;split at P1
  ·rename_i i j;obtain⟨v,u,rfl,r1,r2⟩:=rv.two;rw[ar.mp r1,ar.mp r2];split at P1
   ·rename_i hj;exact⟨i,j,rfl,hj,P1.now S1 _ trivial (vV i _)⟩
   ·exact P1.elim
  ·exact P1.elim⟩
theorem sv{b:Bool}{src:oF}{xs:List D}(hi:src.items=gW 0 xs)(hs:∀H2 J2 Y2,p.X H H2 J J2->p.S H2 J2 Y2->dz src Y2->∃vs,Sq b p.K H2 a vs/\p.Rs H2 J2 xs vs ):xy p (Ng b p.K a) src H J:=by
 intro H2 J2 Y2 X2 S2 ho;obtain⟨vs,h2,rr⟩:=hs H2 J2 Y2 X2 S2 ho;rw[hi];refine⟨fun i d hd=>?_,vs,h2,by rw[rr.length,sH]⟩;rw[sL]at hd;cases e:xs[i]? with
 |none=>rw[e]at hd;cases hd
 |some y=>
  rw[e]at hd;cases hd;obtain⟨v,hv,rv⟩:=rr.get e;refine⟨⟨vs,v,h2,hv⟩,fun x H3 ⟨q,w,e1,hq,e2,hx⟩=>?_⟩;subst e1 e2;have:=hx vs h2;rw[hv]at this;cases this;refine⟨bV hq,S2.tuple hq,aQ.mpr ⟨q,_,rfl,gL.of bj,?_⟩⟩;rw[Nat.zero_add];exact Reps.cons (ar.mpr rfl) (Reps.cons (rv.mono (bV hq)) Reps.nil)
def pW(ds:List D)(Y:aA):aj oF:=match ds with
 |[.tup xs]=>.ok (.fix (gW 0 xs)) Y
 |[.obj n]=>match Y[n]? with
  |some (.lst xs)=>.ok (.eno n xs) Y
  |_=>.bad
 |_=>.bad
theorem EW{a:Expr}{fa:MA}{tpos:Pos}(hK:X.K=p.K)(hg:Gl X "enumerate")(hm:X.mg "enumerate" = none)(ha:PA X [a] (jw p fa))(hs:starEach [a] X.env=[(false,eval a X.env)]):
  PI X (.Tuple elts k1 tpos) (.Call (.Name "enumerate" px) [a] [] pos) (xa p (lQ pW fa)):=
 (Fo hg hm ha hs).weak fun B H R ⟨J, Z, Y, S, Rr, P⟩ => ⟨J, Z, Y, S, Rr, (aO.bind P).imp fun ds Y1 H1 J1 X1 S1 P1 vs rv => by
  rw[hK];unfold pW at P1;split at P1
  ·rename_i xs;obtain⟨v,rfl,r1⟩:=rv.one;obtain⟨a,us,rfl,h1,h2⟩:=aQ.mp r1;exact⟨a,false,rfl,⟨us,h1⟩,P1.now S1 _ trivial (sv (b:=false) rfl fun H2 J2 Y2 X2 S2 _=>⟨us,X2.tup a us h1,h2.mono X2⟩)⟩
  ·rename_i n;split at P1
   ·rename_i xs hx;obtain⟨v,rfl,r1⟩:=rv.one;obtain⟨a,rfl,ha⟩:=bf.mp r1;obtain⟨a',ea,us,hH,rr⟩:=S1.at hx;rw[ha]at ea;cases ea;refine⟨a,true,rfl,⟨us,gB.of hH⟩,P1.now S1 _ hx (sv (b:=true) rfl fun H2 J2 Y2 X2 S2 ho=>?_)⟩;obtain⟨a2,ea2,us2,hH2,rr2⟩:=S2.at (show Y2[n]?=some (.lst xs) from ho);rw[X2.pre n a ha]at ea2;cases ea2;exact⟨us2,gB.of hH2,rr2⟩
   ·exact P1.elim
  ·exact P1.elim⟩
end
def aj.nox(o:aj β):aj β:=match o with
 |.exc _ _=>.bad
 |o=>o
@[simp] theorem ag{a:β}{Y:aA}:(aj.ok a Y).nox=.ok a Y:=Sw (Sx _)
abbrev Pa.nx(p:Pa):Pa:=⟨p.K,p.w,fun _ _ _ _=>False⟩
theorem mf{γ:Type}{p:Pa}{o:aj β}{k:β->aA->aj γ}{R:γ->aA->Hp->List Addr->Prop}(h:aO p H J (o.nox.bind k) R):aO p.nx H J o (fun a Y1 H1 J1=>aO p H1 J1 (k a Y1) R):=by
 cases o with
 |ok a Y=>exact fun H' J' e s=>aO.from e h
 |exc x Y=>exact False.elim h
 |bad=>exact h
def jY(cap:List (Option Nat))(Z:Ro):Ro:=cap.map fun o=>o.bind fun j=>(Z[j]?).join
theorem eT.cap{Z:Ro}(R:eT K H J Z B)(cap:List (Option Nat)):eT K H J (jY cap Z) (pZ cap B):=by
 refine⟨by simp[jY,pZ],fun i d h=>?_⟩;unfold jY at h;unfold pZ;rw[PU]at h⊢;cases e:cap[i]? with
 |none=>rw[e]at h;cases h
 |some o=>
  rw[e]at h;cases o with
  |none=>simp at h
  |some j=>
   simp at h⊢
   obtain⟨v,h1,h2⟩:=R.at' j d (by
    cases e2:Z[j]? with
    |none=>rw[e2]at h;simp at h
    |some x=>rw[e2]at h;simp at h;rw[h])
   exact⟨v,by rw[h1];rfl,h2⟩
def uY(n:Nat)(y:D)(Y:aA):aj Unit:=match Y[n]? with
 |some (.lst ys)=>if ys.length<sizeLine then .ok () (Y.set n (.lst (ys++[y]))) else .bad
 |_=>.bad
open Classical in
def compLoop(src:oF)(n:Nat)(g:MG)(t:MT)(e:ME):List D->Ro->aA->aj D
 |[],_,Y=>if dz src Y then .ok (.obj n) Y else .bad
 |d::r,Z,Y=>if dz src Y then (g d Z Y).nox.bind fun Z1 Y1=>(t Z1 Y1).nox.bind fun b Y2=>if b=true then (e Z1 Y2).nox.bind fun y Y3=>(uY n y Y3).bind fun _ Y4=>compLoop src n g t e r Z1 Y4 else compLoop src n g t e r Z1 Y2 else .bad
def fe(fi:MI)(cap:List (Option Nat))(g:MG)(t:MT)(e:ME):ME:=fun Z Y=>(fi Z Y).bind fun src Y1=>compLoop src Y1.length g t e src.items (jY cap Z) (Y1++[.lst []])
def cQ:MT:=fun _ Y=>.ok true Y
theorem C2{p:Pa}{y:D}{Y:aA}{R:Unit->aA->Hp->List Addr->Prop}{acc:Addr}(S:p.S H J Y)(ha:J[n]?=some acc)(rv:p.R H J y v)(P:aO p H J (uY n y Y) R):
  ∃ys,H acc=some (.lst ys)/\ys.length<sizeLine/\∃Y',p.X H (b9 H acc (.lst (ys++[v]))) J J/\p.S (b9 H acc (.lst (ys++[v]))) J Y'/\R () Y' (b9 H acc (.lst (ys++[v]))) J:=by
 unfold uY at P;split at P
 ·rename_i xs hx;obtain⟨a,ea,us,hH,rr⟩:=S.at hx;rw[ha]at ea;cases ea;split at P
  ·rename_i hl;have q:=rr.snoc rv;exact⟨us,hH,by rw[rr.length];exact hl,_,jJ hH,S.put hx ha hH q,P _ _ (jJ hH) (S.put hx ha hH q)⟩
  ·exact P.elim
 ·exact P.elim
section
variable{p:Pa}{X:Cx}{elt:Expr}{ifs:List Expr}{cap:List (Option Nat)}{fi:MI}{g:MG}{t:MT}{e:ME}
theorem sO{Q:VK}(h:tD p (fe fi cap g t e) B H Q):Bp (xa p fi) cap (sW p.nx g) (iO p.nx t) (tD p.nx e) B H Q:=by
 obtain⟨J,Z,Y,S,R,P⟩:=h;refine⟨J,Z,Y,S,R,(aO.bind P).imp fun src Y1 H1 J1 X1 S1 P1 α hok hJ acc hacc=>?_⟩;obtain⟨x1,s1,_⟩:=c9 (ds:=[]) (vs:=[]) S1 hacc Reps.nil;have hn:(J1++[acc])[Y1.length]?=some acc:=by rw[<- S1.len];simp
 refine⟨fun i m B2 H2=>m=src.items.length-i/\i<=src.items.length/\∃J2 Z2 Y2,p.X H1 H2 J1 J2/\p.S H2 J2 Y2/\eT p.K H2 J2 Z2 B2/\J2[Y1.length]?=some acc/\aO p H2 J2 (compLoop src Y1.length g t e (src.items.drop i) Z2 Y2) (RV p Q),
  ⟨_,rfl,QR _,J1++[acc],jY cap Z,Y1++[.lst []],x1,s1,((R.mono X1).cap cap).mono x1,hn,by simpa using aO.from x1 P1⟩,?_⟩
 rintro i m B2 H2 ⟨rfl,hi,J2,Z2,Y2,X2,S2,R2,a2,P2⟩
 by_cases hlt:i<src.items.length
 ·rw [List.drop_eq_getElem_cons hlt] at P2;unfold compLoop at P2;by_cases ho:dz src Y2
  ·rw [OA ho] at P2;obtain⟨hgo,hy⟩:=(hJ H2 J2 Y2 X2 S2 ho).1 i _ (Sk hlt)
   refine .inr ⟨hgo,fun B' H'=>i+1<=src.items.length/\∃J2 Z2 Y2,p.X H1 H' J1 J2/\p.S H' J2 Y2/\eT p.K H' J2 Z2 B'/\J2[Y1.length]?=some acc/\aO p H' J2 (compLoop src Y1.length g t e (src.items.drop (i+1)) Z2 Y2) (RV p Q),
    fun B' H' ⟨h1,h2⟩=>⟨_,by omega,rfl,h1,h2⟩,fun x H3 yx=>?_⟩
   obtain⟨X3,S3,R3⟩:=hy x H3 yx;refine⟨J2,Z2,Y2,_,S3,R2.mono X3,R3,(aO.from (p:=p.nx) X3 (mf P2)).imp fun Z4 Y4 H4 J4 X4 S4 P4 B4 R4=>?_⟩;refine⟨J4,Z4,Y4,S4,R4,(mf P4).imp fun b Y5 H5 J5 X5 S5 P5=>?_⟩;have xx:p.X H1 H5 J1 J5:=((X2.trans X3).trans X4).trans X5;have a5:J5[Y1.length]?=some acc:=X5.pre _ _ (X4.pre _ _ (X3.pre _ _ a2));cases b with
   |false=>
    rw[OB Pm]at P5;refine NM ?_;exact⟨hlt,J5,Z4,Y5,xx,S5,R4.mono X5,a5,P5⟩
   |true=>
    rw[OA rfl]at P5;refine NL ?_;refine⟨J5,Z4,Y5,S5,R4.mono X5,(mf P5).imp fun y Y6 H6 J6 X6 S6 P6 v rv=>?_⟩;obtain⟨ys,e1,e2,Y7,x7,s7,q7⟩:=C2 (p:=p) S6 (X6.pre _ _ a5) rv (aO.bind P6);exact⟨ys,e1,e2,hlt,J6,Z4,Y7,(xx.trans X6).trans x7,s7,((R4.mono X5).mono X6).mono x7,X6.pre _ _ a5,q7⟩
  ·rw[OB ho]at P2;exact P2.elim
 ·have e : i = src.items.length := by omega
  subst e;rw[List.drop_length]at P2;unfold compLoop at P2;by_cases ho:dz src Y2
  ·rw[OA ho]at P2;exact .inl ⟨(hJ H2 J2 Y2 X2 S2 ho).2,P2 H2 J2 lA.refl S2 _ (bf.mpr ⟨acc,rfl,a2⟩)⟩
  ·rw[OB ho]at P2;exact P2.elim
theorem EH{X:Cx}:xb X [] (iO p cQ):=fun pins s B H Q I h=>by
 obtain⟨J,Z,Y,S,R,P⟩:=h;exact Fg pins s B H Q I (P.now S)
theorem EG{X:Cx}{c:Expr}{t:MT}(h:PT X c (iO p t)):xb X [c] (iO p t):=Ff h
theorem E5(hc:X.calm=true)(S:cE X.N X.env scope Nc cap)(hi:PI X tg iter (xa p fi))
  (hg:∀cl C s H fp,PG (j5 X Nc scope cl C s H fp) tg (sW p.nx g)) (ht:∀cl C s H fp,xb (j5 X Nc scope cl C s H fp) ifs (iO p.nx t)) (he:∀cl C s H fp,PE (j5 X Nc scope cl C s H fp) elt (tD p.nx e))
  (hs:∀x,foldedSetIterable iter X.env x=pure x):PE X (.ListComp elt [⟨tg,iter,ifs,0⟩] scope pos) (tD p (fe fi cap g t e)):=
 (Fw hc S hi hg ht he hs).weak fun B H Q h=>sO h
theorem EI(hc:X.calm=true)(hN:X.N.Nodup)(hix:X.N[i]?=some x)(hx:X.env.scope.names.lookup x=some .local)(S:cE X.N X.env scope Nc cap)(hi:PI X tg iter (xa p fi))(hg:∀cl C s H fp,PG (j5 X Nc scope cl C s H fp) tg (sW p.nx g))(ht:∀cl C s H fp,xb (j5 X Nc scope cl C s H fp) ifs (iO p.nx t))(he:∀cl C s H fp,PE (j5 X Nc scope cl C s H fp) elt (tD p.nx e))(hsw:swapsWith (.ListComp elt [⟨tg,iter,ifs,0⟩] scope pos) (some (.Name x pos1)) pos2.line X.env=pure true)(hs:∀x,foldedSetIterable iter X.env x=pure x):
  PS X (.Assign [.Name x pos1] (.ListComp elt [⟨tg,iter,ifs,0⟩] scope pos) pos2) (iw p (bR (fe fi cap g t e) (aq i))):=
 (Fi hc hN hix hx S hi hg ht he hsw hs).weak fun D B H h => by
  obtain⟨J,Z,Y,S,R,P⟩:=h;refine sO ⟨J,Z,Y,S,R,(aO.bindS P).imp fun d Y1 H1 J1 X1 S1 P1 v rv=>?_⟩;exact P1 H1 J1 _ lA.refl S1 ((R.mono X1).set i rv)
end
mutual
def D.low(n:Nat):D->Prop
 |.tup xs=>D.lows n xs
 |.frz xs=>D.lows n xs
 |.obj m=>m<n
 |_=>True
def D.lows(n:Nat):List D->Prop
 |[]=>True
 |x::xs=>x.low n/\D.lows n xs
end
def O.low(n:Nat):O->Prop
 |.lst xs=>D.lows n xs
 |_=>True
section
variable{J':List Addr}
mutual
theorem aP.low:∀{d:D}{v:V},aP K H J d v->d.low J.length
 |.non,_,_=>trivial
 |.bl _,_,_=>trivial
 |.int _,_,_=>trivial
 |.str _,_,_=>trivial
 |.tup xs,_,h=>by
  obtain⟨a,vs,rfl,h1,h2⟩:=aQ.mp h;simp only[D.low];exact Reps.low h2
 |.frz xs,_,h=>by
  obtain⟨a,vs,rfl,h1,h2⟩:=bA.mp h;simp only[D.low];exact Reps.low h2
 |.obj n,_,h=>by
  obtain⟨a,rfl,h1⟩:=bf.mp h;simp only[D.low];exact(OS.mp h1).1
theorem Reps.low:∀{ds:List D}{vs:List V},Reps K H J ds vs->D.lows J.length ds
 |[],_,_=>trivial
 |d::ds,_,h=>by
  simp only[Reps]at h;obtain⟨v,r,rfl,h1,h2⟩:=h;simp only[D.lows];exact⟨aP.low h1,Reps.low h2⟩
end
mutual
theorem aP.cut{n:Nat}(e:∀m,m<n->J'[m]?=J[m]?):∀{d:D}{v:V},aP K H J' d v->d.low n->aP K H J d v
 |.non,_,h,_=>by simp only[aP]at h⊢;exact h
 |.bl _,_,h,_=>by simp only[aP]at h⊢;exact h
 |.int _,_,h,_=>by simp only[aP]at h⊢;exact h
 |.str _,_,h,_=>by simp only[aP]at h⊢;exact h
 |.tup xs,_,h,b=>by
  obtain⟨a,vs,rfl,h1,h2⟩:=aQ.mp h;simp only[D.low]at b;exact aQ.mpr ⟨a,vs,rfl,h1,Reps.cut e h2 b⟩
 |.frz xs,_,h,b=>by
  obtain⟨a,vs,rfl,h1,h2⟩:=bA.mp h;simp only[D.low]at b;exact bA.mpr ⟨a,vs,rfl,h1,Reps.cut e h2 b⟩
 |.obj m,_,h,b=>by
  obtain⟨a,rfl,h1⟩:=bf.mp h;simp only[D.low]at b;exact bf.mpr ⟨a,rfl,by rw[<- e m b];exact h1⟩
theorem Reps.cut{n:Nat}(e:∀m,m<n->J'[m]?=J[m]?):∀{ds:List D}{vs:List V},Reps K H J' ds vs->D.lows n ds->Reps K H J ds vs
 |[],_,h,_=>by simp only[Reps]at h⊢;exact h
 |d::ds,_,h,b=>by
  simp only[Reps]at h⊢;obtain⟨v,r,rfl,h1,h2⟩:=h;simp only[D.lows]at b;exact⟨v,r,rfl,aP.cut e h1 b.1,Reps.cut e h2 b.2⟩
end
end
def Hq(Y Y':aA)(d:D):Prop:=d.low Y.length/\Y.length<=Y'.length/\∀(i:Nat) o,i<Y.length->Y'[i]?=some o->Y[i]?=some o\/o.low Y.length
open Classical in
def oX(Y:aA)(o:aj D):aj D:=match o with
 |.ok d Y'=>if Hq Y Y' d then .ok d (Y'.take Y.length) else .ok d Y'
 |o=>o
theorem pk{p:Pa}{Y:aA}{o:aj D}{Q:VK}(S:p.S H J Y)(P:aO p H J (oX Y o) (RV p Q)):aO p H J o (RV p Q):=by
 cases o with
 |exc x Y'=>exact P
 |bad=>exact P
 |ok d Y'=>
  unfold oX at P;dsimp only at P;by_cases hg:Hq Y Y' d
  ·rw [OA hg] at P;obtain⟨g1,g2,g3⟩:=hg;intro H' J' e s v rv
   have al:∀m,m<Y.length->J'[m]?=J[m]?:=fun m hm=>by
    have hm':m<J.length:=by rw[S.len];exact hm
    rw[Sk hm'];exact e.pre m _ (Sk hm')
   refine P H' J ⟨e.tup,e.frz,fun _ _ z=>z,e.xds⟩ ⟨by rw[PL,S.len];omega,S.nd,fun n o a h1 h2=>?_⟩ v (aP.cut al rv g1);have hn:n<Y.length:=by rw[<- S.len];exact(OS.mp h2).1
   rw[PV hn]at h1;have q:=s.ob n o a h1 (e.pre n a h2)
   have ob:o.low Y.length:=by
    rcases g3 n o hn h1 with z|z
    ·have q0 := S.ob n o a z h2;cases o with
     |lst xs=>obtain⟨vs,_,r⟩:=q0;have:=r.low;rw[S.len]at this;exact this
     |set ks=>trivial
     |dic=>trivial
     |exc c=>trivial
     |exn c fs=>trivial
    ·exact z
   cases o with
   |lst xs=>obtain⟨vs,h3,r⟩:=q;exact⟨vs,h3,Reps.cut al r ob⟩
   |set ks=>exact q
   |dic=>exact q
   |exc c=>exact q
   |exn c fs=>exact q
  ·rw[OB hg]at P;exact P
def SO.out(o:SO):aj D:=match o with
 |.ret d Y=>.ok d Y
 |.next _ Y=>.ok .non Y
 |.exc x Y=>.exc x Y
 |_=>.bad
def hU(n N:Nat)(fb:MS):List D->aA->aj D:=fun ds Y=>if ds.length=n then oX Y (fb (ds.map some++List.replicate (N-n) none) Y).out else .bad
def A8(p:Pa)(n:Nat)(F:List D->aA->aj D):Sp:=fun vs H Q _=>vs.length=n/\∃J ds Y,p.S H J Y/\p.Rs H J ds vs/\aO p H J (F ds Y) (RV p Q)
structure dy(P:Program)(w:World)(K:W.Frag)(mg:Str->Option Value)(base:Heap)(p:Pa)(k:Nat)(x:Str)(n:Nat)(F:List D->aA->aj D):Prop where
 len:∀ds Y,ds.length≠n->F ds Y=.bad
 fn:∃f fd ps,mg x=some (.ref f)/\W.keepIn K (.ref f)=true/\eS K fd ps []/\ll P w K mg base xk k f fd ps (A8 p n F)
section
variable{p:Pa}{X:Cx}{F:List D->aA->aj D}{a:Expr}{es:List Expr}{fr:MA}
theorem E6 (h:dy X.prog X.w X.K X.mg X.base p k x n F) (hr:dG k X.A) (hg:Gl X x) (ha:PA X (a::es) (jw p fr)) (hdb:(x == ("__debug__" : Str))=false) (he:starEach (a::es) X.env=(false,eval a X.env)::starEach es X.env) (hpl:(backTo pos (starEach es X.env)).any (·.1)=false) :
  PE X (.Call (.Name x px) (a::es) [] pos) (tD p (aI F fr)):=by
 obtain⟨f,fd,ps,h1,h2,h3,h4⟩:=h.fn;refine(tR (dvs:=[]) (E:=E0) h4 hr hg h1 h2 h3 .nil yG ha hdb he hpl).weak fun B H Q ⟨J,Z,Y,S,R,P⟩=>⟨J,Z,Y,S,R,(aO.bind P).imp fun ds Y1 H1 J1 X1 S1 P1 vs rv=>?_⟩;show A8 p n F (vs++[]) H1 Q E0;rw[Pv];refine⟨?_,J1,ds,Y1,S1,rv,P1⟩;by_cases hl:ds.length=n
 ·rw[rv.length];exact hl
 ·rw[h.len ds Y1 hl]at P1;exact P1.elim
theorem C0 (h:dy X.prog X.w X.K X.mg X.base p k x n F) (hr:dG k X.A) (hg:Gl X x) (hdb:(x == ("__debug__" : Str))=false):PE X (.Call (.Name x px) [] [] pos) (tD p (aI F aD)):=by
 obtain⟨f,fd,ps,h1,h2,h3,h4⟩:=h.fn;refine(Df (dvs:=[]) (E:=E0) h4 hr hg h1 h2 h3 .nil yG hdb).weak fun B H Q ⟨J,Z,Y,S,R,P⟩=>?_;show A8 p n F ([]++[]) H Q E0;have P1:=P.bind.now S;refine⟨?_,J,[],Y,S,Reps.nil,P1⟩;by_cases hl:0=n
 ·exact hl
 ·rw[h.len [] Y hl]at P1;exact P1.elim
end
theorem jQ{ds:List D}(r:Reps K H J ds vs)(m:Nat):eT K H J (ds.map some++List.replicate m none) (vs.map some++List.replicate m none):=by
 refine⟨by simp[r.length],fun i d h=>?_⟩;by_cases hi:i<ds.length
 ·rw [PR (by simpa using hi), PU] at h;cases e:ds[i]? with
  |none=>rw[e]at h;cases h
  |some x=>
   rw[e]at h;cases h;obtain⟨v,hv,rv⟩:=r.get e;refine⟨v,?_,rv⟩;rw[PR (by simp[r.length,hi]),PU,hv];rfl
 ·rw[PN (by simpa using hi),PQ]at h;split at h <;> cases h
theorem Kk{p:Pa}{ps:List Str}{fb:MS}(F:gF K x qual st f fd)(S:aW N ps (au st))(hn:ps.length=n)(hm:mg x=some (.ref f))(hb:eS K fd ps [])(body : ∀ (cdv : Value) (A : Around) (outer : List Env) (s : Shared) (H : Hp) (E : XK), dG k (A.deeper (envOfC qual (au st) s.heap.objs.size f cdv)) ->
   jy (pO xk P w K mg base N qual (au st) f cdv A outer s H E).nox (bT st) (iw p fb)):dy P w K mg base p (k+1) x n (hU n N.length fb):=by
 refine⟨fun ds Y h=>by unfold hU;rw[OB h],f,fd,ps,hm,F.kp,hb,?_⟩;refine F.ok S (fun vs H Q E h=>h.1.trans hn.symm) fun cdv A outer s H vs Q E hr h=>?_;refine⟨_,body cdv A outer s H E hr,?_⟩;obtain⟨hl,J,ds,Y,S1,R1,P1⟩:=h;unfold hU at P1;have hd:ds.length=n:=by rw[<- R1.length];exact hl
 rw[OA hd]at P1;have P2:=pk S1 P1;unfold start;rw[hl];refine⟨J,_,Y,S1,jQ R1 _,?_⟩;cases e:fb (ds.map some++List.replicate (N.length-n) none) Y with
 |ret d Y'=>rw[e]at P2;exact fun H' J' v x s r=>P2 H' J' x s v r
 |next Z Y'=>rw[e]at P2;exact fun H' J' B' x s r=>P2 H' J' x s .non (bK.mpr rfl)
 |exc x Y'=>rw[e]at P2;exact P2
 |brk Z Y'=>rw[e]at P2;exact P2.elim
 |cnt Z Y'=>rw[e]at P2;exact P2.elim
 |bad=>rw[e]at P2;exact P2.elim
end L2
variable{Y:L2.aA}{xs:List L2.D}{p:L2.Pa}{F:List L2.D->L2.aA->L2.aj L2.D}{M:L2.aA}{fr:L2.MA}{Y0:L2.aA}{fa:L2.ME}{fb:L2.MS}{ds:List L2.D}{G:L2.aA}{Z:L2.Ro}{gd:Int->Int->L2.D}{gg:Int->Int->L2.D}{Y1:L2.aA}{ys:List L2.D}{fi:L2.MI}
namespace L2
open PySem PySem.Spec PyProof.Rows RS
section
variable(K:W.Frag)(H:Hp)
mutual
def mw:PyData->V->Prop
 |.none,v=>v=.non
 |.bool b,v=>v=.bl b
 |.int i,v=>v=.int i
 |.str x,v=>v=.str x
 |.tuple xs,v=>∃a vs,v=.ref a/\gL K H a vs/\RdPs xs vs
 |.list xs,v=>∃a vs,v=.ref a/\gB K H a vs/\RdPs xs vs
 |.dict _,_=>False
def RdPs:List PyData->List V->Prop
 |[],vs=>vs=[]
 |x::xs,vs=>∃v r,vs=v::r/\mw x v/\RdPs xs r
end
end
section
variable{X:Cx}
mutual
theorem c8(I:aX X pins B H s):∀(d:PyData)(x:V)(v:Value),mw X.K H d x->bU x v->∃as,Reads s.heap v d as
 |.none,_,_,h,r=>by simp only[mw]at h;subst h;cases r;exact⟨_,.none⟩
 |.bool b,_,_,h,r=>by simp only[mw]at h;subst h;cases r;exact⟨_,.bool b⟩
 |.int b,_,_,h,r=>by simp only[mw]at h;subst h;obtain⟨t,rfl⟩:=r;exact⟨_,.int b t⟩
 |.str b,_,_,h,r=>by simp only[mw]at h;subst h;obtain⟨t,rfl⟩:=r;exact⟨_,.str b t⟩
 |.tuple xs,_,_,h,r=>by
  simp only[mw]at h;obtain⟨a,vs,rfl,h1,h2⟩:=h;cases r;obtain⟨its,rv,⟨o,e1,e2,n,e3⟩,_⟩:=I.tuple h1;obtain⟨as,q⟩:=readsAll_of I xs vs its h2 rv;exact⟨_,.tuple e1 e2 e3 (by simpa using q)⟩
 |.list xs,_,_,h,r=>by
  simp only[mw]at h;obtain⟨a,vs,rfl,h1,h2⟩:=h;cases r;obtain⟨its,rv,⟨o,n,e1,e2,_,e3⟩,_⟩:=I.list h1;obtain⟨as,q⟩:=readsAll_of I xs vs its h2 rv;exact⟨_,.list e1 e2 e3 (by simpa using q)⟩
 |.dict _,_,_,h,_=>by simp only[mw]at h
theorem readsAll_of(I:aX X pins B H s):∀(ds:List PyData)(xs:List V)(vs:List Value),RdPs X.K H ds xs->br xs vs->∃as,ReadsAll s.heap vs ds as
 |[],_,_,h,r=>by simp only[RdPs]at h;subst h;cases r;exact⟨_,.nil⟩
 |d::ds,_,_,h,r=>by
  simp only[RdPs]at h;obtain⟨v,q,rfl,h1,h2⟩:=h;cases r with
  |cons r rr=>
   obtain⟨as,g1⟩:=c8 I d _ _ h1 r;obtain⟨bs,g2⟩:=readsAll_of I ds _ _ h2 rr;exact⟨_,.cons g1 g2⟩
end
def fS(d:PyData):Bool:=d.canLay0&&decide (d.depth<=60)
def Bf(K:W.Frag)(neg:Bool):R2:=fun x y H Q=>∃a b,mw K H a x/\mw K H b y/\fS a=true/\fS b=true/\Q (.bl (if neg then !PyData.eqv a b else PyData.eqv a b)) H
theorem lg{a b:PyData}(ha:fS a=true)(hu:A.units+64<cLine):A.units+min a.depth b.depth<cLine:=by
 unfold fS at ha;simp only[Qn,Sy]at ha;have:=Nat.min_le_left a.depth b.depth;omega
theorem cn{a:PyData}(ha:fS a=true):a.canLay0=true:=by
 unfold fS at ha;simp only[Qn,Sy]at ha;exact ha.1
theorem qD{a:PyData}(ha:fS a=true):a.depth<=60:=by
 unfold fS at ha;simp only[Qn,Sy]at ha;exact ha.2
theorem Jv(hu:X.A.units+64<cLine):iy X (compareOp .Eq) (Bf X.K false):=by
 intro pins s B H x y v u Q I rx ry h;obtain⟨a,b,h1,h2,h3,h4,q⟩:=h;obtain⟨as,r1⟩:=c8 I a x v h1 rx;obtain⟨bs,r2⟩:=c8 I b y u h2 ry;exact SeqAt.compareEq_reads r1 r2 (cn h3) (cn h4) (lg h3 hu) ⟨.bl _,H,I,rfl,q⟩
theorem Jo(hu:X.A.units+64<cLine):iy X (compareOp .NotEq) (Bf X.K true):=by
 intro pins s B H x y v u Q I rx ry h;obtain⟨a,b,h1,h2,h3,h4,q⟩:=h;obtain⟨as,r1⟩:=c8 I a x v h1 rx;obtain⟨bs,r2⟩:=c8 I b y u h2 ry;exact SeqAt.compareNe_reads r1 r2 (cn h3) (cn h4) (lg h3 hu) ⟨.bl _,H,I,rfl,q⟩
def Be(K:W.Frag)(neg:Bool):R2:=fun x y H Q=>∃a b xs,mw K H a x/\mw K H b y/\(b=.list xs\/b=.tuple xs)/\fS a=true/\fS b=true/\Q (.bl (if neg then !(xs.any fun y=>PyData.eqv y a) else xs.any fun y=>PyData.eqv y a)) H
theorem Jt(hu:X.A.units+64<cLine):iy X (compareOp .In) (Be X.K false):=by
 intro pins s B H x y v u Q I rx ry h;obtain⟨a,b,xs,h1,h2,hb,h3,h4,q⟩:=h;obtain⟨as,r1⟩:=c8 I a x v h1 rx;obtain⟨bs,r2⟩:=c8 I b y u h2 ry;have hd:=qD h3;rcases hb with rfl|rfl
 ·refine SeqAt.in_list_reads r2 r1 (by simpa[PyData.canLay0] using cn h4) (cn h3) ?_ ⟨.bl _,H,I,rfl,q⟩;have:=Qe (PyData.depthAll xs) a.depth;omega
 ·refine SeqAt.in_tuple_reads r2 r1 (by simpa[PyData.canLay0] using cn h4) (cn h3) ?_ ⟨.bl _,H,I,rfl,q⟩;have:=Qe (PyData.depthAll xs) a.depth;omega
theorem Ap(hu:X.A.units+64<cLine):iy X (compareOp .NotIn) (Be X.K true):=by
 intro pins s B H x y v u Q I rx ry h;obtain⟨a,b,xs,h1,h2,hb,h3,h4,q⟩:=h;obtain⟨as,r1⟩:=c8 I a x v h1 rx;obtain⟨bs,r2⟩:=c8 I b y u h2 ry;have hd:=qD h3;rcases hb with rfl|rfl
 ·refine SeqAt.notIn_list_reads r2 r1 (by simpa[PyData.canLay0] using cn h4) (cn h3) ?_ ⟨.bl _,H,I,rfl,q⟩;have:=Qe (PyData.depthAll xs) a.depth;omega
 ·refine SeqAt.notIn_tuple_reads r2 r1 (by simpa[PyData.canLay0] using cn h4) (cn h3) ?_ ⟨.bl _,H,I,rfl,q⟩;have:=Qe (PyData.depthAll xs) a.depth;omega
end
mutual
def xg(Y:aA):D->Option PyData
 |.non=>some .none
 |.bl b=>some (.bool b)
 |.int i=>some (.int i)
 |.str x=>some (.str x)
 |.tup xs=>(toPs Y xs).map .tuple
 |.frz xs=>(toPs Y xs).map .list
 |.obj _=>none
def toPs(Y:aA):List D->Option (List PyData)
 |[]=>some []
 |x::xs=>(xg Y x).bind fun a=>(toPs Y xs).map fun r=>a::r
end
def zI(Y:aA)(d:D):Option PyData:=match d with
 |.obj n=>match Y[n]? with
  |some (.lst xs)=>(toPs Y xs).map .list
  |_=>none
 |d=>xg Y d
def iS(Y:aA):List D->Option (List PyData)
 |[]=>some []
 |x::xs=>(zI Y x).bind fun a=>(iS Y xs).map fun r=>a::r
def oC(Y:aA)(d:D):Option PyData:=match d with
 |.obj n=>match Y[n]? with
  |some (.lst xs)=>(iS Y xs).map .list
  |_=>none
 |.tup xs=>(iS Y xs).map .tuple
 |d=>xg Y d
section
mutual
theorem hX:∀{d:D}{q:PyData}{v:V},xg Y d=some q->aP K H J d v->mw K H q v
 |.non,_,_,h,r=>by simp only[xg]at h;cases h;simp only[mw];exact bK.mp r
 |.bl b,_,_,h,r=>by simp only[xg]at h;cases h;simp only[mw];exact aU.mp r
 |.int b,_,_,h,r=>by simp only[xg]at h;cases h;simp only[mw];exact ar.mp r
 |.str b,_,_,h,r=>by simp only[xg]at h;cases h;simp only[mw];exact aC.mp r
 |.tup xs,_,_,h,r=>by
  simp only[xg]at h;cases e:toPs Y xs with
  |none=>rw[e]at h;cases h
  |some ys=>
   rw[e]at h;cases h;obtain⟨a,vs,rfl,h1,h2⟩:=aQ.mp r;simp only[mw];exact⟨a,vs,rfl,h1,toPs_ok e h2⟩
 |.frz xs,_,_,h,r=>by
  simp only[xg]at h;cases e:toPs Y xs with
  |none=>rw[e]at h;cases h
  |some ys=>
   rw[e]at h;cases h;obtain⟨a,vs,rfl,h1,h2⟩:=bA.mp r;simp only[mw];exact⟨a,vs,rfl,h1.sq,toPs_ok e h2⟩
 |.obj n,_,_,h,r=>by simp only[xg]at h;cases h
theorem toPs_ok:∀{ds:List D}{qs:List PyData}{vs:List V},toPs Y ds=some qs->Reps K H J ds vs->RdPs K H qs vs
 |[],_,_,h,r=>by simp only[toPs]at h;cases h;simp only[RdPs];simp only[Reps]at r;exact r
 |x::xs,_,_,h,r=>by
  simp only[toPs]at h;cases e1:xg Y x with
  |none=>rw[e1]at h;cases h
  |some a=>
   cases e2:toPs Y xs with
   |none=>rw[e1,e2]at h;cases h
   |some ys=>
    rw[e1,e2]at h;cases h;simp only[Reps]at r;obtain⟨v,vr,rfl,r1,r2⟩:=r;simp only[RdPs];exact⟨v,vr,rfl,hX e1 r1,toPs_ok e2 r2⟩
end
theorem ED{d:D}{q:PyData}(S:gG K w H J Y)(h:zI Y d=some q)(r:aP K H J d v):mw K H q v:=by
 cases d with
 |obj n=>
  unfold zI at h;dsimp only at h;split at h
  ·rename_i xs hx;obtain⟨a,ea,us,hH,rr⟩:=S.at hx;obtain⟨a',rfl,ea'⟩:=bf.mp r;rw[ea]at ea';cases ea';cases e:toPs Y xs with
   |none=>rw[e]at h;cases h
   |some ys=>
    rw[e]at h;cases h;simp only[mw];exact⟨a,us,rfl,gB.of hH,toPs_ok e rr⟩
  ·cases h
 |non=>exact hX h r
 |bl b=>exact hX h r
 |int i=>exact hX h r
 |str x=>exact hX h r
 |tup xs=>exact hX h r
 |frz xs=>exact hX h r
theorem qh(S:gG K w H J Y):∀{ds:List D}{qs:List PyData}{vs:List V},iS Y ds=some qs->Reps K H J ds vs->RdPs K H qs vs
 |[],_,_,h,r=>by simp only[iS]at h;cases h;simp only[RdPs];simp only[Reps]at r;exact r
 |x::xs,_,_,h,r=>by
  simp only[iS]at h;cases e1:zI Y x with
  |none=>rw[e1]at h;cases h
  |some a=>
   cases e2:iS Y xs with
   |none=>rw[e1,e2]at h;cases h
   |some ys=>
    rw[e1,e2]at h;cases h;simp only[Reps]at r;obtain⟨v,vr,rfl,r1,r2⟩:=r;simp only[RdPs];exact⟨v,vr,rfl,ED S e1 r1,qh S e2 r2⟩
theorem kh{d:D}{q:PyData}(S:gG K w H J Y)(h:oC Y d=some q)(r:aP K H J d v):mw K H q v:=by
 cases d with
 |obj n=>
  unfold oC at h;dsimp only at h;split at h
  ·rename_i xs hx;obtain⟨a,ea,us,hH,rr⟩:=S.at hx;obtain⟨a',rfl,ea'⟩:=bf.mp r;rw[ea]at ea';cases ea';cases e:iS Y xs with
   |none=>rw[e]at h;cases h
   |some ys=>
    rw[e]at h;cases h;simp only[mw];exact⟨a,us,rfl,gB.of hH,qh S e rr⟩
  ·cases h
 |tup xs=>
  unfold oC at h;dsimp only at h;cases e:iS Y xs with
  |none=>rw[e]at h;cases h
  |some ys=>
   rw[e]at h;cases h;obtain⟨a,vs,rfl,h1,h2⟩:=aQ.mp r;simp only[mw];exact⟨a,vs,rfl,h1,qh S e h2⟩
 |non=>exact hX h r
 |bl b=>exact hX h r
 |int i=>exact hX h r
 |str x=>exact hX h r
 |frz xs=>exact hX h r
end
def mv(neg:Bool)(a b:D)(Y:aA):aj D:=match oC Y a,oC Y b with
 |some p,some q=>if fS p=true/\fS q=true then .ok (.bl (if neg then !PyData.eqv p q else PyData.eqv p q)) Y else .bad
 |_,_=>.bad
def Cd:PyData->Option (List PyData)
 |.list xs=>some xs
 |.tuple xs=>some xs
 |_=>none
def uL(neg:Bool)(a b:D)(Y:aA):aj D:=match oC Y a,oC Y b with
 |some p,some q=>match Cd q with
  |some xs=>if fS p=true/\fS q=true then .ok (.bl (if neg then !(xs.any fun y=>PyData.eqv y p) else xs.any fun y=>PyData.eqv y p)) Y else .bad
  |none=>.bad
 |_,_=>.bad
theorem G2:qU p (mv neg) (Bf p.K neg):=by
 intro a b v y H J Y Q S ra rb P;unfold mv at P;split at P
 ·rename_i x z hx hz;split at P
  ·rename_i hf;exact⟨x,z,kh S hx ra,kh S hz rb,hf.1,hf.2,P.now S _ (aU.mpr rfl)⟩
  ·exact P.elim
 ·exact P.elim
theorem G1:qU p (uL neg) (Be p.K neg):=by
 intro a b v y H J Y Q S ra rb P;unfold uL at P;split at P
 ·rename_i x z hx hz;split at P
  ·rename_i xs hxs;split at P
   ·rename_i hf;refine⟨x,z,xs,kh S hx ra,kh S hz rb,?_,hf.1,hf.2,P.now S _ (aU.mpr rfl)⟩;cases z <;> first|(cases hxs;exact .inl rfl)|(cases hxs;exact .inr rfl)|(cases hxs)
   ·exact P.elim
  ·exact P.elim
 ·exact P.elim
def D.isNon:D->Bool
 |.non=>true
 |_=>false
def sZ(neg:Bool)(a b:D)(Y:aA):aj D:=match b with
 |.non=>.ok (.bl (if neg then !a.isNon else a.isNon)) Y
 |_=>.bad
theorem F6{a:D}(r:aP K H J a v):decide (v=.non)=a.isNon:=by
 cases a with
 |non=>rw[bK.mp r];rfl
 |bl b=>rw[aU.mp r];rfl
 |int b=>rw[ar.mp r];rfl
 |str b=>rw[aC.mp r];rfl
 |tup xs=>obtain⟨a,vs,rfl,_⟩:=aQ.mp r;rfl
 |frz xs=>obtain⟨a,vs,rfl,_⟩:=bA.mp r;rfl
 |obj xs=>obtain⟨a,rfl,_⟩:=bf.mp r;rfl
theorem JH:qU p (sZ false) (fun x y H Q=>y=.non/\Q (.bl (decide (x=.non))) H):=by
 intro a b v y H J Y Q S ra rb P;cases b with
 |non=>exact⟨bK.mp rb,P.now S _ (aU.mpr (by rw[F6 ra];rfl))⟩
 |bl b=>exact P.elim
 |int b=>exact P.elim
 |str b=>exact P.elim
 |tup xs=>exact P.elim
 |frz xs=>exact P.elim
 |obj xs=>exact P.elim
end L2
namespace L2
open PySem PySem.Spec PyProof.Rows RS
open PySem.SeqAt
open PySem.AutoSeq1 (wpAny_loadPart')
open PySem.MeetsSeq PySem.MeetsSeq2 PySem.MeetsSeq3
def Ej(op:CmpOp)(A:Around)(s:Shared)(y x:Value)(k:Bool):Prop:=∀(prog:Program)(w:World)(E:Value->Shared->Prop)(Q:Value->Shared->Prop),Q (.bool k) s->wpAny (model prog w) A (richCompare op y x) Q E s
def eD(t:Bool):List (Bool×Bool)->Bool
 |[]=>t
 |(e,k)::r=>if e=true then eD t r else k
def dm(op:CmpOp)(A:Around)(s:Shared):List Value->List Value->List (Bool×Bool)->Prop
 |[],_,[]=>True
 |_,[],[]=>True
 |y::ys,x::xs,(e,k)::r=>EqAt A s y x e/\(e=false->Ej op A s y x k)/\(e=true->dm op A s ys xs r)
 |_,_,_=>False
theorem ub(l b:Addr)(items items2:Array Value)(n n2:Nat)(dd dd2:Option Addr)(sl sl2:Array (Option Value))(eks:List (Bool×Bool)) :
  Meets (Builtin.«tuple.__lt__» ⟨[.ref l,.ref b],[]⟩)
   (fun A R s => s.heap.get? l = some { cls := .type "tuple", dict := dd, data := .seq items n, slots := sl } /\ s.heap.get? b = some { cls := .type "tuple", dict := dd2, data := .seq items2 n2, slots := sl2 } /\
    dm .Lt A.in1 s items.toList items2.toList eks/\R (.ok (.ret (.bool (eD (decide (items.size<items2.size)) eks)))) s):=
 .of_wp fun prog w A R s h=>by
  obtain⟨hp,g,d,tk,os⟩:=s;obtain⟨hl,hb,hc,h⟩:=h;have f2:=SA
  wp_walk using wpAny_loadPart' hl,wpAny_loadPart' hb,RK _ (fun rest b s'=>b.1=none/\s'=⟨hp,g,d,tk,os⟩/\∃(vs ws:List Value)(eks':List (Bool×Bool)),rest=vs.zip ws /\
   dm .Lt A.in1 ⟨hp,g,d,tk,os⟩ vs ws eks'/\R (.ok (.ret (.bool (eD (decide (items.size<items2.size)) eks')))) ⟨hp,g,d,tk,os⟩) _
  case turn=>
   rintro⟨y,x⟩ rest b s' ⟨hb',rfl,vs,ws,eks',hz,hci,hR⟩
   cases vs with
   |nil=>rw[SB]at hz;cases hz
   |cons a vs=>
    cases ws with
    |nil=>rw[SD]at hz;cases hz
    |cons c ws=>
     rw[SE]at hz;injection hz with hyx hrest
     injection hyx with hy hx
     subst hy hx;cases eks' with
     |nil=>simp only[dm]at hci
     |cons ek eks'=>
      obtain⟨e,k⟩:=ek;simp only[dm]at hci;obtain⟨he,hk,hci⟩:=hci;refine O3 (he prog w _ _ ?_);cases e with
      |true=>
       have hR':R (.ok (.ret (.bool (eD (decide (items.size<items2.size)) eks')))) ⟨hp,g,d,tk,os⟩:=hR
       wp_walk
       exact⟨rfl,rfl,_,_,_,hrest,hci rfl,hR'⟩
      |false=>
       have hR':R (.ok (.ret (.bool k))) ⟨hp,g,d,tk,os⟩:=hR;have hri:=hk rfl prog w
       wp_walk using hri
       exact⟨_,rfl,by simpa using hR'⟩
  case fin=>
   rintro⟨b1,b2⟩ s' ⟨hb',rfl,vs,ws,eks',hz,hci,hR⟩
   simp only at hb';subst hb'
   have hv:eks'=[]:=by
    cases vs with
    |nil=>cases eks' with
     |nil=>rfl
     |cons _ _=>simp only[dm]at hci
    |cons a vs=>cases ws with
     |nil=>cases eks' with
      |nil=>rfl
      |cons _ _=>simp only[dm]at hci
     |cons c ws=>rw[SE]at hz;cases hz
   subst hv;have hR':R (.ok (.ret (.bool (decide (items.size<items2.size))))) ⟨hp,g,d,tk,os⟩:=hR
   wp_walk
   exact⟨_,rfl,by simpa[Builtin.Tuple.tupleCompareSizes] using hR'⟩
  case h=>
   exact⟨rfl,rfl,items.toList,items2.toList,eks,rfl,hc,h⟩
theorem JO{items items2:Array Value}(hl:IsTup s.heap l items)(hb:IsTup s.heap b items2)(hc:dm .Lt A.in1 s items.toList items2.toList eks)(hu:A.units<cLine)(h:Q (.bool (eD (decide (items.size<items2.size)) eks)) s):wpAny (model prog w) A (richCompare .Lt (.ref l) (.ref b)) Q E s:=by
 obtain⟨⟨cls,dd,data,sl⟩,ho,hc',n,hd⟩:=id hl;obtain⟨⟨cls2,dd2,data2,sl2⟩,ho2,hc2,n2,hd2⟩:=id hb;simp only at hc' hd hc2 hd2;subst hc' hd hc2 hd2
 exact SG (op:=.Lt) ⟨_,ho,rfl⟩ ⟨_,ho2,rfl⟩ PySem.F.slot_tuple_lt PySem.F.entry_tuple_lt (PySem.F.args_tuple_lt_2 _ _) (ub l b items items2 n n2 dd dd2 sl sl2 eks)
  ⟨ho,ho2,hc,show Value.bool (eD (decide (items.size<items2.size)) eks)≠Value.notImplemented/\Q (.bool (eD (decide (items.size<items2.size)) eks)) s from⟨(fun x=>nomatch x),h⟩⟩ hu
theorem uc(l b:Addr)(items items2:Array Value)(n n2:Nat)(dd dd2:Option Addr)(sl sl2:Array (Option Value))(eks:List (Bool×Bool)) :
  Meets (Builtin.«tuple.__le__» ⟨[.ref l,.ref b],[]⟩)
   (fun A R s => s.heap.get? l = some { cls := .type "tuple", dict := dd, data := .seq items n, slots := sl } /\ s.heap.get? b = some { cls := .type "tuple", dict := dd2, data := .seq items2 n2, slots := sl2 } /\
    dm .LtE A.in1 s items.toList items2.toList eks/\R (.ok (.ret (.bool (eD (decide (items.size<=items2.size)) eks)))) s):=
 .of_wp fun prog w A R s h=>by
  obtain⟨hp,g,d,tk,os⟩:=s;obtain⟨hl,hb,hc,h⟩:=h;have f2:=SA
  wp_walk using wpAny_loadPart' hl,wpAny_loadPart' hb,RK _ (fun rest b s'=>b.1=none/\s'=⟨hp,g,d,tk,os⟩/\∃(vs ws:List Value)(eks':List (Bool×Bool)),rest=vs.zip ws /\
   dm .LtE A.in1 ⟨hp,g,d,tk,os⟩ vs ws eks'/\R (.ok (.ret (.bool (eD (decide (items.size<=items2.size)) eks')))) ⟨hp,g,d,tk,os⟩) _
  case turn=>
   rintro⟨y,x⟩ rest b s' ⟨hb',rfl,vs,ws,eks',hz,hci,hR⟩
   cases vs with
   |nil=>rw[SB]at hz;cases hz
   |cons a vs=>
    cases ws with
    |nil=>rw[SD]at hz;cases hz
    |cons c ws=>
     rw[SE]at hz;injection hz with hyx hrest
     injection hyx with hy hx
     subst hy hx;cases eks' with
     |nil=>simp only[dm]at hci
     |cons ek eks'=>
      obtain⟨e,k⟩:=ek;simp only[dm]at hci;obtain⟨he,hk,hci⟩:=hci;refine O3 (he prog w _ _ ?_);cases e with
      |true=>
       have hR':R (.ok (.ret (.bool (eD (decide (items.size<=items2.size)) eks')))) ⟨hp,g,d,tk,os⟩:=hR
       wp_walk
       exact⟨rfl,rfl,_,_,_,hrest,hci rfl,hR'⟩
      |false=>
       have hR':R (.ok (.ret (.bool k))) ⟨hp,g,d,tk,os⟩:=hR;have hri:=hk rfl prog w
       wp_walk using hri
       exact⟨_,rfl,by simpa using hR'⟩
  case fin=>
   rintro⟨b1,b2⟩ s' ⟨hb',rfl,vs,ws,eks',hz,hci,hR⟩
   simp only at hb';subst hb'
   have hv:eks'=[]:=by
    cases vs with
    |nil=>cases eks' with
     |nil=>rfl
     |cons _ _=>simp only[dm]at hci
    |cons a vs=>cases ws with
     |nil=>cases eks' with
      |nil=>rfl
      |cons _ _=>simp only[dm]at hci
     |cons c ws=>rw[SE]at hz;cases hz
   subst hv;have hR':R (.ok (.ret (.bool (decide (items.size<=items2.size))))) ⟨hp,g,d,tk,os⟩:=hR
   wp_walk
   exact⟨_,rfl,by simpa[Builtin.Tuple.tupleCompareSizes] using hR'⟩
  case h=>
   exact⟨rfl,rfl,items.toList,items2.toList,eks,rfl,hc,h⟩
theorem JQ{items items2:Array Value}(hl:IsTup s.heap l items)(hb:IsTup s.heap b items2)(hc:dm .LtE A.in1 s items.toList items2.toList eks)(hu:A.units<cLine)(h:Q (.bool (eD (decide (items.size<=items2.size)) eks)) s):wpAny (model prog w) A (richCompare .LtE (.ref l) (.ref b)) Q E s:=by
 obtain⟨⟨cls,dd,data,sl⟩,ho,hc',n,hd⟩:=id hl;obtain⟨⟨cls2,dd2,data2,sl2⟩,ho2,hc2,n2,hd2⟩:=id hb;simp only at hc' hd hc2 hd2;subst hc' hd hc2 hd2
 exact SG (op:=.LtE) ⟨_,ho,rfl⟩ ⟨_,ho2,rfl⟩ PySem.F.slot_tuple_le PySem.F.entry_tuple_le (PySem.F.args_tuple_le_2 _ _) (uc l b items items2 n n2 dd dd2 sl sl2 eks)
  ⟨ho,ho2,hc,show Value.bool (eD (decide (items.size<=items2.size)) eks)≠Value.notImplemented/\Q (.bool (eD (decide (items.size<=items2.size)) eks)) s from⟨(fun x=>nomatch x),h⟩⟩ hu
theorem ud(l b:Addr)(items items2:Array Value)(n n2:Nat)(dd dd2:Option Addr)(sl sl2:Array (Option Value))(eks:List (Bool×Bool)) :
  Meets (Builtin.«tuple.__gt__» ⟨[.ref l,.ref b],[]⟩)
   (fun A R s => s.heap.get? l = some { cls := .type "tuple", dict := dd, data := .seq items n, slots := sl } /\ s.heap.get? b = some { cls := .type "tuple", dict := dd2, data := .seq items2 n2, slots := sl2 } /\
    dm .Gt A.in1 s items.toList items2.toList eks/\R (.ok (.ret (.bool (eD (decide (items.size>items2.size)) eks)))) s):=
 .of_wp fun prog w A R s h=>by
  obtain⟨hp,g,d,tk,os⟩:=s;obtain⟨hl,hb,hc,h⟩:=h;have f2:=SA
  wp_walk using wpAny_loadPart' hl,wpAny_loadPart' hb,RK _ (fun rest b s'=>b.1=none/\s'=⟨hp,g,d,tk,os⟩/\∃(vs ws:List Value)(eks':List (Bool×Bool)),rest=vs.zip ws /\
   dm .Gt A.in1 ⟨hp,g,d,tk,os⟩ vs ws eks'/\R (.ok (.ret (.bool (eD (decide (items.size>items2.size)) eks')))) ⟨hp,g,d,tk,os⟩) _
  case turn=>
   rintro⟨y,x⟩ rest b s' ⟨hb',rfl,vs,ws,eks',hz,hci,hR⟩
   cases vs with
   |nil=>rw[SB]at hz;cases hz
   |cons a vs=>
    cases ws with
    |nil=>rw[SD]at hz;cases hz
    |cons c ws=>
     rw[SE]at hz;injection hz with hyx hrest
     injection hyx with hy hx
     subst hy hx;cases eks' with
     |nil=>simp only[dm]at hci
     |cons ek eks'=>
      obtain⟨e,k⟩:=ek;simp only[dm]at hci;obtain⟨he,hk,hci⟩:=hci;refine O3 (he prog w _ _ ?_);cases e with
      |true=>
       have hR':R (.ok (.ret (.bool (eD (decide (items.size>items2.size)) eks')))) ⟨hp,g,d,tk,os⟩:=hR
       wp_walk
       exact⟨rfl,rfl,_,_,_,hrest,hci rfl,hR'⟩
      |false=>
       have hR':R (.ok (.ret (.bool k))) ⟨hp,g,d,tk,os⟩:=hR;have hri:=hk rfl prog w
       wp_walk using hri
       exact⟨_,rfl,by simpa using hR'⟩
  case fin=>
   rintro⟨b1,b2⟩ s' ⟨hb',rfl,vs,ws,eks',hz,hci,hR⟩
   simp only at hb';subst hb'
   have hv:eks'=[]:=by
    cases vs with
    |nil=>cases eks' with
     |nil=>rfl
     |cons _ _=>simp only[dm]at hci
    |cons a vs=>cases ws with
     |nil=>cases eks' with
      |nil=>rfl
      |cons _ _=>simp only[dm]at hci
     |cons c ws=>rw[SE]at hz;cases hz
   subst hv;have hR':R (.ok (.ret (.bool (decide (items.size>items2.size))))) ⟨hp,g,d,tk,os⟩:=hR
   wp_walk
   exact⟨_,rfl,by simpa[Builtin.Tuple.tupleCompareSizes] using hR'⟩
  case h=>
   exact⟨rfl,rfl,items.toList,items2.toList,eks,rfl,hc,h⟩
theorem α7{items items2:Array Value}(hl:IsTup s.heap l items)(hb:IsTup s.heap b items2)(hc:dm .Gt A.in1 s items.toList items2.toList eks)(hu:A.units<cLine)(h:Q (.bool (eD (decide (items.size>items2.size)) eks)) s):wpAny (model prog w) A (richCompare .Gt (.ref l) (.ref b)) Q E s:=by
 obtain⟨⟨cls,dd,data,sl⟩,ho,hc',n,hd⟩:=id hl;obtain⟨⟨cls2,dd2,data2,sl2⟩,ho2,hc2,n2,hd2⟩:=id hb;simp only at hc' hd hc2 hd2;subst hc' hd hc2 hd2
 exact SG (op:=.Gt) ⟨_,ho,rfl⟩ ⟨_,ho2,rfl⟩ PySem.F.slot_tuple_gt PySem.F.entry_tuple_gt (PySem.F.args_tuple_gt_2 _ _) (ud l b items items2 n n2 dd dd2 sl sl2 eks)
  ⟨ho,ho2,hc,show Value.bool (eD (decide (items.size>items2.size)) eks)≠Value.notImplemented/\Q (.bool (eD (decide (items.size>items2.size)) eks)) s from⟨(fun x=>nomatch x),h⟩⟩ hu
theorem ue(l b:Addr)(items items2:Array Value)(n n2:Nat)(dd dd2:Option Addr)(sl sl2:Array (Option Value))(eks:List (Bool×Bool)) :
  Meets (Builtin.«tuple.__ge__» ⟨[.ref l,.ref b],[]⟩)
   (fun A R s => s.heap.get? l = some { cls := .type "tuple", dict := dd, data := .seq items n, slots := sl } /\ s.heap.get? b = some { cls := .type "tuple", dict := dd2, data := .seq items2 n2, slots := sl2 } /\
    dm .GtE A.in1 s items.toList items2.toList eks/\R (.ok (.ret (.bool (eD (decide (items.size ≥ items2.size)) eks)))) s):=
 .of_wp fun prog w A R s h=>by
  obtain⟨hp,g,d,tk,os⟩:=s;obtain⟨hl,hb,hc,h⟩:=h;have f2:=SA
  wp_walk using wpAny_loadPart' hl,wpAny_loadPart' hb,RK _ (fun rest b s'=>b.1=none/\s'=⟨hp,g,d,tk,os⟩/\∃(vs ws:List Value)(eks':List (Bool×Bool)),rest=vs.zip ws /\
   dm .GtE A.in1 ⟨hp,g,d,tk,os⟩ vs ws eks'/\R (.ok (.ret (.bool (eD (decide (items.size ≥ items2.size)) eks')))) ⟨hp,g,d,tk,os⟩) _
  case turn=>
   rintro⟨y,x⟩ rest b s' ⟨hb',rfl,vs,ws,eks',hz,hci,hR⟩
   cases vs with
   |nil=>rw[SB]at hz;cases hz
   |cons a vs=>
    cases ws with
    |nil=>rw[SD]at hz;cases hz
    |cons c ws=>
     rw[SE]at hz;injection hz with hyx hrest
     injection hyx with hy hx
     subst hy hx;cases eks' with
     |nil=>simp only[dm]at hci
     |cons ek eks'=>
      obtain⟨e,k⟩:=ek;simp only[dm]at hci;obtain⟨he,hk,hci⟩:=hci;refine O3 (he prog w _ _ ?_);cases e with
      |true=>
       have hR':R (.ok (.ret (.bool (eD (decide (items.size ≥ items2.size)) eks')))) ⟨hp,g,d,tk,os⟩:=hR
       wp_walk
       exact⟨rfl,rfl,_,_,_,hrest,hci rfl,hR'⟩
      |false=>
       have hR':R (.ok (.ret (.bool k))) ⟨hp,g,d,tk,os⟩:=hR;have hri:=hk rfl prog w
       wp_walk using hri
       exact⟨_,rfl,by simpa using hR'⟩
  case fin=>
   rintro⟨b1,b2⟩ s' ⟨hb',rfl,vs,ws,eks',hz,hci,hR⟩
   simp only at hb';subst hb'
   have hv:eks'=[]:=by
    cases vs with
    |nil=>cases eks' with
     |nil=>rfl
     |cons _ _=>simp only[dm]at hci
    |cons a vs=>cases ws with
     |nil=>cases eks' with
      |nil=>rfl
      |cons _ _=>simp only[dm]at hci
     |cons c ws=>rw[SE]at hz;cases hz
   subst hv;have hR':R (.ok (.ret (.bool (decide (items.size ≥ items2.size))))) ⟨hp,g,d,tk,os⟩:=hR
   wp_walk
   exact⟨_,rfl,by simpa[Builtin.Tuple.tupleCompareSizes] using hR'⟩
  case h=>
   exact⟨rfl,rfl,items.toList,items2.toList,eks,rfl,hc,h⟩
theorem α8{items items2:Array Value}(hl:IsTup s.heap l items)(hb:IsTup s.heap b items2)(hc:dm .GtE A.in1 s items.toList items2.toList eks)(hu:A.units<cLine)(h:Q (.bool (eD (decide (items.size ≥ items2.size)) eks)) s):wpAny (model prog w) A (richCompare .GtE (.ref l) (.ref b)) Q E s:=by
 obtain⟨⟨cls,dd,data,sl⟩,ho,hc',n,hd⟩:=id hl;obtain⟨⟨cls2,dd2,data2,sl2⟩,ho2,hc2,n2,hd2⟩:=id hb;simp only at hc' hd hc2 hd2;subst hc' hd hc2 hd2
 exact SG (op:=.GtE) ⟨_,ho,rfl⟩ ⟨_,ho2,rfl⟩ PySem.F.slot_tuple_ge PySem.F.entry_tuple_ge (PySem.F.args_tuple_ge_2 _ _) (ue l b items items2 n n2 dd dd2 sl sl2 eks)
  ⟨ho,ho2,hc,show Value.bool (eD (decide (items.size ≥ items2.size)) eks)≠Value.notImplemented/\Q (.bool (eD (decide (items.size ≥ items2.size)) eks)) s from⟨(fun x=>nomatch x),h⟩⟩ hu
end L2
namespace L2
open PySem PySem.Spec PyProof.Rows RS
def cj:CmpOp->Int->Int->Bool
 |.Lt,i,j=>decide (i<j)
 |.LtE,i,j=>decide (i<=j)
 |.Gt,i,j=>decide (i>j)
 |.GtE,i,j=>decide (i ≥ j)
 |_,_,_=>false
mutual
def hV(op:CmpOp):PyData->PyData->Option Bool
 |.int i,.int j=>some (cj op i j)
 |.tuple xs,.tuple ys=>cmpPs op xs ys
 |_,_=>none
def cmpPs(op:CmpOp):List PyData->List PyData->Option Bool
 |[],ys=>some (cj op 0 ys.length)
 |_::xs,[]=>some (cj op (xs.length+1) 0)
 |x::xs,y::ys=>if PyData.eqv x y=true then cmpPs op xs ys else hV op x y
end
def rW:CmpOp->Bool
 |.Lt | .LtE | .Gt | .GtE=>true
 |_=>false
theorem LH:∀{op:CmpOp}(ho:rW op=true){A:Around}{s:Shared}(a:Int)(t:Tok)(c:Int)(u:Tok),Ej op A s (.int a t) (.int c u) (cj op a c)
 |.Lt,_,A,s,a,t,c,u=>fun prog w E Q h=>(PyProof.Rows.lt_int h:wpAny (model prog w) A (compareOp .Lt (.int a t) (.int c u)) Q E s)
 |.LtE,_,A,s,a,t,c,u=>fun prog w E Q h=>(PyProof.Rows.le_int h:wpAny (model prog w) A (compareOp .LtE (.int a t) (.int c u)) Q E s)
 |.Gt,_,A,s,a,t,c,u=>fun prog w E Q h=>(PyProof.Rows.gt_int h:wpAny (model prog w) A (compareOp .Gt (.int a t) (.int c u)) Q E s)
 |.GtE,_,A,s,a,t,c,u=>fun prog w E Q h=>(PyProof.Rows.ge_int h:wpAny (model prog w) A (compareOp .GtE (.int a t) (.int c u)) Q E s)
theorem yo(i j:Nat):cj op ((i+1:Nat):Int) ((j+1:Nat):Int)=cj op (i:Int) (j:Int):=by
 cases op <;> first|rfl|(unfold cj;simp)
theorem LG:∀{op:CmpOp}(ho:rW op=true){A:Around}{s:Shared}{l b:Addr}{items items2:Array Value}{eks:List (Bool×Bool)}(hl:IsTup s.heap l items)(hb:IsTup s.heap b items2)(hc:dm op A.in1 s items.toList items2.toList eks)
  (hu:A.units<cLine),Ej op A s (.ref l) (.ref b) (eD (cj op items.size items2.size) eks)
 |.Lt,_,A,s,l,b,items,items2,eks,hl,hb,hc,hu=>fun prog w E Q h=>JO hl hb hc hu (by
   have e:decide (items.size<items2.size)=cj .Lt items.size items2.size:=by (unfold cj;simp)
   rw[e];exact h)
 |.LtE,_,A,s,l,b,items,items2,eks,hl,hb,hc,hu=>fun prog w E Q h=>JQ hl hb hc hu (by
   have e:decide (items.size<=items2.size)=cj .LtE items.size items2.size:=by (unfold cj;simp)
   rw[e];exact h)
 |.Gt,_,A,s,l,b,items,items2,eks,hl,hb,hc,hu=>fun prog w E Q h=>α7 hl hb hc hu (by
   have e:decide (items.size>items2.size)=cj .Gt items.size items2.size:=by (unfold cj;simp)
   rw[e];exact h)
 |.GtE,_,A,s,l,b,items,items2,eks,hl,hb,hc,hu=>fun prog w E Q h=>α8 hl hb hc hu (by
   have e:decide (items.size ≥ items2.size)=cj .GtE items.size items2.size:=by (unfold cj;simp)
   rw[e];exact h)
mutual
theorem vA{op:CmpOp}(ho:rW op=true):∀(da db:PyData)(A:Around)(s:Shared)(a b:Value)(as bs:List Addr)(k:Bool),Reads s.heap a da as->Reads s.heap b db bs->da.canLay0=true->db.canLay0=true ->
  A.units+min da.depth db.depth<cLine->hV op da db=some k->Ej op A s a b k
 |.int i,.int j,A,s,_,_,_,_,k,ra,rb,_,_,hu,hk=>by
  cases ra;cases rb;simp only[hV]at hk;cases hk;exact LH ho _ _ _ _
 |.tuple xs,.tuple ys,A,s,_,_,_,_,k,ra,rb,ha,hb,hu,hk=>by
  simp only[hV]at hk;cases ra with
  | @tuple l o vs n _ as₁ h1 h2 h3 h4=>
   cases rb with
   | @tuple l' o' vs' n' _ bs₁ k1 k2 k3 k4=>
    have n1:vs.size=xs.length:=by simpa using SH _ _ _ h4
    have n2:vs'.size=ys.length:=by simpa using SH _ _ _ k4
    obtain⟨eks,e1,e2⟩:=rc_readsAll ho xs ys A.in1 s vs.toList vs'.toList _ _ k h4 k4 (by simpa[PyData.canLay0] using ha) (by simpa[PyData.canLay0] using hb) (SeqAt.room_in hu) hk;have:=LG ho (A:=A) (s:=s) (l:=l) (b:=l') (items:=vs) (items2:=vs') (eks:=eks) ⟨_,h1,h2,_,h3⟩ ⟨_,k1,k2,_,k3⟩ e1 (SeqAt.room_here hu);rw[n1,n2,e2]at this;exact this
 |.none,_,_,_,_,_,_,_,_,_,_,_,_,_,hk=>by simp only[hV]at hk;cases hk
 |.bool _,_,_,_,_,_,_,_,_,_,_,_,_,_,hk=>by simp only[hV]at hk;cases hk
 |.str _,_,_,_,_,_,_,_,_,_,_,_,_,_,hk=>by simp only[hV]at hk;cases hk
 |.list _,_,_,_,_,_,_,_,_,_,_,_,_,_,hk=>by simp only[hV]at hk;cases hk
 |.dict _,_,_,_,_,_,_,_,_,_,_,_,_,_,hk=>by simp only[hV]at hk;cases hk
 |.int _,.none,_,_,_,_,_,_,_,_,_,_,_,_,hk=>by simp only[hV]at hk;cases hk
 |.int _,.bool _,_,_,_,_,_,_,_,_,_,_,_,_,hk=>by simp only[hV]at hk;cases hk
 |.int _,.str _,_,_,_,_,_,_,_,_,_,_,_,_,hk=>by simp only[hV]at hk;cases hk
 |.int _,.list _,_,_,_,_,_,_,_,_,_,_,_,_,hk=>by simp only[hV]at hk;cases hk
 |.int _,.tuple _,_,_,_,_,_,_,_,_,_,_,_,_,hk=>by simp only[hV]at hk;cases hk
 |.int _,.dict _,_,_,_,_,_,_,_,_,_,_,_,_,hk=>by simp only[hV]at hk;cases hk
 |.tuple _,.none,_,_,_,_,_,_,_,_,_,_,_,_,hk=>by simp only[hV]at hk;cases hk
 |.tuple _,.bool _,_,_,_,_,_,_,_,_,_,_,_,_,hk=>by simp only[hV]at hk;cases hk
 |.tuple _,.int _,_,_,_,_,_,_,_,_,_,_,_,_,hk=>by simp only[hV]at hk;cases hk
 |.tuple _,.str _,_,_,_,_,_,_,_,_,_,_,_,_,hk=>by simp only[hV]at hk;cases hk
 |.tuple _,.list _,_,_,_,_,_,_,_,_,_,_,_,_,hk=>by simp only[hV]at hk;cases hk
 |.tuple _,.dict _,_,_,_,_,_,_,_,_,_,_,_,_,hk=>by simp only[hV]at hk;cases hk
theorem rc_readsAll{op:CmpOp}(ho:rW op=true):∀(xs ys:List PyData)(A:Around)(s:Shared)(vs ws:List Value)(as bs:List Addr)(k:Bool),ReadsAll s.heap vs xs as->ReadsAll s.heap ws ys bs->PyData.canLayAll0 xs=true->PyData.canLayAll0 ys=true ->
  A.units+min (PyData.depthAll xs) (PyData.depthAll ys)<cLine->cmpPs op xs ys=some k->∃eks,dm op A s vs ws eks/\eD (cj op (xs.length:Nat) (ys.length:Nat)) eks=k
 |[],ys,A,s,_,_,_,_,k,ra,rb,_,_,_,hk=>by
  cases ra;simp only[cmpPs]at hk;cases hk;exact⟨[],by unfold dm;trivial,rfl⟩
 |x::xs,[],A,s,_,_,_,_,k,ra,rb,_,_,_,hk=>by
  cases rb;simp only[cmpPs]at hk;cases hk;cases ra;refine⟨[],by unfold dm;trivial,?_⟩;simp[eD]
 |x::xs,y::ys,A,s,_,_,_,_,k,ra,rb,ha,hb,hu,hk=>by
  have ha':x.canLay0=true/\PyData.canLayAll0 xs=true:=by simpa[PyData.canLayAll0] using ha
  have hb':y.canLay0=true/\PyData.canLayAll0 ys=true:=by simpa[PyData.canLayAll0] using hb
  cases ra with
  |cons r rs=>
   cases rb with
   |cons r' rs'=>
    have he:=SeqAt.eqAt_reads x y A s _ _ _ _ r r' ha'.1 hb'.1 (SeqAt.room_head hu);simp only[cmpPs]at hk;cases e:PyData.eqv x y with
    |true=>
     rw[OA e]at hk;rw[e]at he;obtain⟨eks,e1,e2⟩:=rc_readsAll ho xs ys A s _ _ _ _ k rs rs' ha'.2 hb'.2 (SeqAt.room_tail hu) hk;refine⟨(true,false)::eks,⟨he,fun z=>(by cases z),fun _=>e1⟩,?_⟩;show eD (cj op ((xs.length+1:Nat):Int) ((ys.length+1:Nat):Int)) eks=k;rw[yo];exact e2
    |false=>
     rw[OB (by rw[e];exact Pm)]at hk;rw[e]at he;refine⟨[(false,k)],⟨he,fun _=>vA ho x y A s _ _ _ _ k r r' ha'.1 hb'.1 (SeqAt.room_head hu) hk,fun z=>(by cases z)⟩,rfl⟩
end
def Bt(K:W.Frag)(op:CmpOp):R2:=fun x y H Q=>∃a b k,mw K H a x/\mw K H b y/\fS a=true/\fS b=true/\hV op a b=some k/\Q (.bl k) H
theorem FH{X:Cx}(hu:X.A.units+64<cLine):∀{op:CmpOp},rW op=true->iy X (compareOp op) (Bt X.K op):=by
 intro op ho pins s B H x y v u Q I rx ry h;obtain⟨a,b,k,h1,h2,h3,h4,h5,q⟩:=h;obtain⟨as,r1⟩:=c8 I a x v h1 rx;obtain⟨bs,r2⟩:=c8 I b y u h2 ry;have:=vA ho a b X.A s v u as bs k r1 r2 (cn h3) (cn h4) (lg h3 hu) h5 X.prog X.w X.xe (EP X pins B Q) ⟨.bl k,H,I,rfl,q⟩
 cases op <;> first
  |exact absurd ho (by decide)
  |exact this
def eV(op:CmpOp)(a b:D)(Y:aA):aj D:=match oC Y a,oC Y b with
 |some p,some q=>if fS p=true/\fS q=true then (match hV op p q with|some k=>.ok (.bl k) Y|none=>.bad) else .bad
 |_,_=>.bad
theorem JJ:qU p (eV op) (Bt p.K op):=by
 intro a b v y H J Y Q S ra rb P;unfold eV at P;split at P
 ·rename_i x z hx hz;split at P
  ·rename_i hf;split at P
   ·rename_i k hk;exact⟨x,z,k,kh S hx ra,kh S hz rb,hf.1,hf.2,hk,P.now S _ (aU.mpr rfl)⟩
   ·exact P.elim
  ·exact P.elim
 ·exact P.elim
def dI(g:Int->Int->D)(a b:D)(Y:aA):aj D:=match a,b with
 |.int i,.int j=>.ok (g i j) Y
 |_,_=>.bad
open Classical in
def Hh(C:Int->Int->Prop)(g:Int->Int->D)(a b:D)(Y:aA):aj D:=match a,b with
 |.int i,.int j=>if C i j then .ok (g i j) Y else .bad
 |_,_=>.bad
section
theorem ND{g:Int->Int->V}(h:∀i j H J,p.R H J (gd i j) (g i j)):qU p (dI gd) (Kx g):=by
 intro a b v y H J Y Q S ra rb P;unfold dI at P;split at P
 ·rename_i i j;exact⟨i,j,ar.mp ra,ar.mp rb,P.now S _ (h i j H J)⟩
 ·exact P.elim
theorem Bv{C:Int->Int->Prop}{g:Int->Int->V}(h:∀i j H J,p.R H J (gd i j) (g i j)):qU p (Hh C gd) (rI C g):=by
 intro a b v y H J Y Q S ra rb P;unfold Hh at P;split at P
 ·rename_i i j;split at P
  ·rename_i hc;exact⟨i,j,ar.mp ra,ar.mp rb,hc,P.now S _ (h i j H J)⟩
  ·exact P.elim
 ·exact P.elim
def sY(a:D)(Y:aA):aj D:=match a with
 |.int i=>.ok (.int (-i)) Y
 |_=>.bad
theorem JL:N8 p sY (rU fun i=>.int (-i)):=by
 intro a v H J Y Q S ra P;unfold sY at P;split at P
 ·rename_i i;exact⟨i,ar.mp ra,P.now S _ (ar.mpr rfl)⟩
 ·exact P.elim
def GV(K:W.Frag):R2:=fun x y H Q=>∃a b xs ys,x=.ref a/\y=.ref b/\gL K H a xs/\gL K H b ys/\xs.length+ys.length<=sizeLine /\
 (xs=[]->Q (.ref b) H)/\(xs≠[]->ys=[]->Q (.ref a) H)/\(xs≠[]->ys≠[]->∀p,H p=none->Q (.ref p) (b9 H p (.tup (xs++ys))))
theorem DM{t:Addr}{ws:List Value}(ht:IsTup s.heap t #[])(hb:IsTup s.heap b ws.toArray)(h0:Q (.ref b) s):wpAny (model prog w) A (binaryOp .Add (.ref t) (.ref b)) Q E s:=by
 obtain⟨⟨cls,dd,data,sl⟩,ho,hc,n,hd⟩:=id ht;obtain⟨⟨cls2,dd2,data2,sl2⟩,ho2,hc2,n2,hd2⟩:=id hb;simp only at hc hd hc2 hd2;subst hc hd hc2 hd2
 exact concat_meets ⟨_,ho,rfl⟩ ⟨_,ho2,rfl⟩ P9 seq_tuple_add Qa Qb (Qc _ _)
  (tuple_addW0 t b #[] ws.toArray n n2 dd dd2 sl sl2 (by simp)) ⟨ho,ho2,h0⟩
theorem FJ{X:Cx}:iy X (binaryOp .Add) (GV X.K):=by
 intro pins s B H x y v u Q I rx ry h;obtain⟨a,b,xs,ys,rfl,rfl,ha,hb,hz,q0,q1,q2⟩:=h;by_cases hx:xs=[]
 ·cases rx;cases ry;obtain⟨its,r1,p1,_⟩:=I.tuple ha;obtain⟨its2,r2,p2,_⟩:=I.tuple hb;subst hx;cases r1;exact DM p1 p2 ⟨.ref b,H,I,rfl,q0 rfl⟩
 ·exact FI pins s B H (.ref a) (.ref b) v u Q I rx ry ⟨a,b,xs,ys,rfl,rfl,ha,hb,hx,hz,q1 hx,q2 hx⟩
def Bu(K:W.Frag):R2:=fun x y H Q=>Kx (fun i j=>.int (i+j)) x y H Q\/GV K x y H Q\/KR x y H Q\/(∃i j,x=.str i/\y=.str j/\i.length+j.length<=sizeLine/\Q (.str (i++j)) H)
theorem FK{X:Cx}:iy X (binaryOp .Add) (Bu X.K):=Jx.or (FJ.or (Jw.or yc))
def bo(a b:D)(Y:aA):aj D:=match a,b with
 |.int i,.int j=>.ok (.int (i+j)) Y
 |.str x,.str y=>if x.length+y.length<=sizeLine then .ok (.str (x++y)) Y else .bad
 |.tup xs,.tup ys=>if xs.length+ys.length<=sizeLine then .ok (.tup (xs++ys)) Y else .bad
 |.obj m,.obj n=>match Y[m]?,Y[n]? with
  |some (.lst xs),some (.lst ys)=>if xs.length+ys.length<=sizeLine then .ok (.obj Y.length) (Y++[.lst (xs++ys)]) else .bad
  |_,_=>.bad
 |_,_=>.bad
theorem cI(S:p.S H J Y)(r:p.R H J (.obj n) v)(hx:Y[n]?=some (.lst xs)):∃a us,v=.ref a/\J[n]?=some a/\H a=some (.lst us)/\p.Rs H J xs us:=by
 obtain⟨a,ea,us,hH,rr⟩:=S.at hx;obtain⟨a',rfl,ea'⟩:=bf.mp r;rw[ea]at ea';cases ea';exact⟨a,us,rfl,ea,hH,rr⟩
theorem Reps.nil_iff'(r:Reps K H J xs vs):vs=[]↔xs=[]:=by
 have:=r.length;constructor
 ·intro h;subst h;simp at this;exact SI this.symm
 ·intro h;subst h;simp at this;exact this
theorem JK:qU p bo (Bu p.K):=by
 intro a b v y H J Y Q S ra rb P;unfold bo at P;split at P
 ·rename_i i j;exact .inl ⟨i,j,ar.mp ra,ar.mp rb,P.now S _ (ar.mpr rfl)⟩
 ·rename_i i j;split at P
  ·rename_i hl;exact .inr (.inr (.inr ⟨i,j,aC.mp ra,aC.mp rb,hl,P.now S _ (aC.mpr rfl)⟩))
  ·exact P.elim
 ·rename_i xs ys;split at P
  ·rename_i hl;obtain⟨a,us,rfl,h1,r1⟩:=aQ.mp ra;obtain⟨b,ws,rfl,h2,r2⟩:=aQ.mp rb;refine .inr (.inl ⟨a,b,us,ws,rfl,rfl,h1,h2,by rw[r1.length,r2.length];exact hl,fun e=>?_,fun _ e=>?_,fun _ _ q hq=>?_⟩)
   ·have ex:=r1.nil_iff'.mp e;subst ex;exact P.now S _ (by simpa using rb)
   ·have ey:=r2.nil_iff'.mp e;subst ey;exact P.now S _ (by simpa using ra)
   ·exact P _ _ (bV hq) (S.tuple hq) _ (aQ.mpr ⟨q,_,rfl,gL.of bj,(r1.append r2).mono (bV hq)⟩)
  ·exact P.elim
 ·rename_i m n;split at P
  ·rename_i xs ys hx hy;split at P
   ·rename_i hl;obtain⟨a,us,rfl,a1,h1,r1⟩:=cI S ra hx;obtain⟨b,ws,rfl,b1,h2,r2⟩:=cI S rb hy;refine .inr (.inr (.inl ⟨a,b,us,ws,rfl,rfl,h1,h2,by rw[r1.length,r2.length];exact hl,fun q hq=>?_⟩));obtain⟨x1,x2,x3⟩:=c9 S hq (r1.append r2);exact P _ _ x1 x2 _ x3
   ·exact P.elim
  ·exact P.elim
 ·exact P.elim
def GR:R2:=fun x y H Q=>rI uU (fun i j=>.int (i*j)) x y H Q\/KL x y H Q
theorem FF{X:Cx}:iy X (binaryOp .Mult) GR:=Jq.or Jm
open Classical in
def xq(a b:D)(Y:aA):aj D:=match a,b with
 |.int i,.int j=>if uU i j then .ok (.int (i*j)) Y else .bad
 |.obj m,.int k=>match Y[m]? with
  |some (.lst xs)=>if -(2^63)<=k/\k<2^63/\xs.length*k.toNat<=sizeLine then .ok (.obj Y.length) (Y++[.lst (List.replicate k.toNat xs).flatten]) else .bad
  |_=>.bad
 |_,_=>.bad
theorem Reps.rep{K:W.Frag}{H:Hp}{J:List Addr}{xs:List D}{vs:List V}(h:Reps K H J xs vs):∀k:Nat,Reps K H J (List.replicate k xs).flatten (List.replicate k vs).flatten
 |0=>by simpa using Reps.nil
 |k+1=>by
  rw[Qw,Qw,Qx,Qx];exact h.append (Reps.rep h k)
theorem JF:qU p xq GR:=by
 intro a b v y H J Y Q S ra rb P;unfold xq at P;split at P
 ·rename_i i j;split at P
  ·rename_i hc;exact .inl ⟨i,j,ar.mp ra,ar.mp rb,hc,P.now S _ (ar.mpr rfl)⟩
  ·exact P.elim
 ·rename_i m k;split at P
  ·rename_i xs hx;split at P
   ·rename_i hl;obtain⟨a,us,rfl,a1,h1,r1⟩:=cI S ra hx;refine .inr ⟨a,k,us,rfl,ar.mp rb,h1,hl.1,hl.2.1,by rw[r1.length];exact hl.2.2,fun q hq=>?_⟩;obtain⟨x1,x2,x3⟩:=c9 S hq (r1.rep k.toNat);exact P _ _ x1 x2 _ x3
   ·exact P.elim
  ·exact P.elim
 ·exact P.elim
def cx(a b:D)(Y:aA):aj D:=match a,b with
 |.tup xs,.int i=>match atI xs i with
  |some d=>.ok d Y
  |none=>.bad
 |.frz xs,.int i=>match atI xs i with
  |some d=>.ok d Y
  |none=>.bad
 |.obj n,.int i=>match Y[n]? with
  |some (.lst xs)=>match atI xs i with
   |some d=>.ok d Y
   |none=>.bad
  |_=>.bad
 |_,_=>.bad
theorem Reps.atI{i:Int}{d:D}(r:Reps K H J xs vs)(h:L2.atI xs i=some d):∃v,L2.atI vs i=some v/\aP K H J d v:=by
 unfold L2.atI at h⊢;rw[r.length];cases e:uK xs.length i with
 |none=>rw[e]at h;cases h
 |some j=>rw[e]at h;exact r.get h
theorem LU:qU p cx (N4 p.K):=by
 intro a b v y H J Y Q S ra rb P;unfold cx at P;split at P
 ·rename_i xs i;split at P
  ·rename_i d hd;obtain⟨a,us,rfl,h1,r1⟩:=aQ.mp ra;obtain⟨v,hv,rv⟩:=r1.atI hd;exact .inr (.inl ⟨a,us,i,v,rfl,ar.mp rb,h1,hv,P.now S _ rv⟩)
  ·exact P.elim
 ·rename_i xs i;split at P
  ·rename_i d hd;obtain⟨a,us,rfl,h1,r1⟩:=bA.mp ra;obtain⟨v,hv,rv⟩:=r1.atI hd;exact .inl ⟨a,us,i,v,rfl,ar.mp rb,h1.sq,hv,P.now S _ rv⟩
  ·exact P.elim
 ·rename_i n i;split at P
  ·rename_i xs hx;split at P
   ·rename_i d hd;obtain⟨a,us,rfl,a1,h1,r1⟩:=cI S ra hx;obtain⟨v,hv,rv⟩:=r1.atI hd;exact .inl ⟨a,us,i,v,rfl,ar.mp rb,gB.of h1,hv,P.now S _ rv⟩
   ·exact P.elim
  ·exact P.elim
 ·exact P.elim
theorem LB{X:Cx}{a b:Expr}{fb:ME}(hK:X.K=p.K)(ha:PE X a (tD p fa))(hb:PE X b (tD p fb))(hs:pH b):PE X (.Subscript a b pos) (tD p (av cx fa fb)):=
 (GX JZ ha hb hs).weak fun B H Q ⟨J, Z, Y, S, R, P⟩ => ⟨J, Z, Y, S, R, (aO.bind P).imp fun x Y1 H1 J1 X1 S1 P1 v rv => ⟨J1, Z, Y1, S1, R.mono X1, (aO.bind P1).imp fun y Y2 H2 J2 X2 S2 P2 u ru => by
  rw[hK];exact LU x y v u H2 J2 Y2 Q S2 (rv.mono X2) ru P2⟩⟩
theorem lz{t sl:Addr}{items:Array Value}{vu:Value}{hi:Option Int}(ht:IsTup s.heap t items)(hs:s.heap.IsSliceOf sl vl vu .none)(pl:IsPart vl lo)(pu:IsPart vu hi)(hw:HT.sIx items.size 0 lo=0/\HT.sIx items.size items.size hi=items.size)(h:Q (.ref t) s):wpAny (model prog w) A (getItem (.ref t) (.ref sl)) Q E s:=by
 obtain⟨os,hos,hcs,hds⟩:=id hs;have hTs:s.TypeIs (.ref sl) "slice" := ⟨os,hos,hcs⟩;unfold getItem
 try with_reducible refine O4 ?_
 first|refine O3 (O6 ?_)|skip
 refine O3 (wpAny_sequenceKey ht.typeIs (by decide) ?_)
 refine O3 (Qj (name:=Str.ofString "__getitem__") ht.typeIs Qk
  (Ql Qk ht.typeIs entry_tuple_getitem ?_ (args_tuple_getitem _ _)))
 show wpAny _ _ (Builtin.Tuple.tupleItemsOf (.ref t) >>= _) _ _ s;refine O3 (tupleItemsOf_ ht ?_);refine O3 (Qm hTs ?_);rw[OA (by decide)];refine O3 (HT.sliceApplied_gen hs pl pu ?_)
 have hno:(((HT.sIx items.size 0 lo:Nat):Int) == 0&&(1:Int) == 1&&(HT.sIx items.size items.size hi-HT.sIx items.size 0 lo) == items.size)=true:=by
  rw[hw.1,hw.2];simp
 show wpAny _ _ (if (((HT.sIx items.size 0 lo:Nat):Int) == 0&&(1:Int) == 1&&(HT.sIx items.size items.size hi-HT.sIx items.size 0 lo) == items.size)=true then _ else _) _ _ s;rw[OA hno];refine O3 (m:=Builtin.Tuple.tupleIsExact (.ref t)) (O3 (Qm ht.typeIs (O6 ?_)));rw[OA (by decide)];exact O3 (O9 (O6 ⟨_,rfl,O6 h⟩))
def jd(xs:List β)(lo hi:Option Int):List β:=(xs.drop (HT.sIx xs.length 0 lo)).take (HT.sIx xs.length xs.length hi-HT.sIx xs.length 0 lo)
theorem wQ(xs:List β)(lo hi:Option Int):(jd xs lo hi).length<=xs.length:=by
 unfold jd;rw[PL,Qi];omega
theorem yn(xs:List β)(lo hi:Option Int)(h:HT.sIx xs.length 0 lo=0/\HT.sIx xs.length xs.length hi=xs.length):jd xs lo hi=xs:=by
 unfold jd;rw[h.1,h.2];simp
def GP(K:W.Frag):V->Option Int->Option Int->Hp->VK->Prop:=fun x lo hi H Q=>∃a xs,x=.ref a/\gL K H a xs /\
 (HT.sIx xs.length 0 lo=0/\HT.sIx xs.length xs.length hi=xs.length)/\Q (.ref a) H
theorem EU{X:Cx}:D3 X (GP X.K):=by
 intro pins s B H x v vl vu lo hi sl Q I rx hs pl pu h;obtain⟨a,xs,rfl,hx,hw,q⟩:=h;cases rx;obtain⟨its,r,ht,hz⟩:=I.tuple hx;have hlen:its.toArray.size=xs.length:=by rw[Pq];exact r.length.symm
 refine⟨"tuple",_,Qk.lookup,ht.typeIs,?_⟩;exact lz ht hs pl pu (by rw[hlen];exact hw) ⟨.ref a,H,I,rfl,q⟩
def KJ(K:W.Frag):V->Option Int->Option Int->Hp->VK->Prop:=fun x lo hi H Q=>KH K x lo hi H Q\/GP K x lo hi H Q\/KI K x lo hi H Q
theorem NC{X:Cx}:D3 X (KJ X.K):=Ir.or (EU.or EV)
abbrev MO:=Ro->aA->aj (Option Int)
def j4:MO:=fun _ Y=>.ok none Y
def My(d:D)(Y:aA):aj (Option Int):=match d with
 |.int i=>.ok (some i) Y
 |_=>.bad
def bZ(f:ME):MO:=fun Z Y=>(f Z Y).bind My
def DZ(p:Pa)(f:MO):TO:=fun B H Q=>∃J Z Y,p.S H J Y/\eT p.K H J Z B/\aO p H J (f Z Y) (fun o _ H' _=>Q o H')
theorem PO.weak{X:Cx}{e:Option Expr}{t t':TO}(h:PO X e t)(k:∀B H Q,t' B H Q->t B H Q):PO X e t':=fun pins s B H Q I q=>h pins s B H Q I (k B H Q q)
theorem ET{X:Cx}:PO X none (DZ p j4):=Fm.weak fun B H Q ⟨J,Z,Y,S,R,P⟩=>P.now S
theorem ES{X:Cx}{f:ME}(h:PE X e (tD p f)):PO X (some e) (DZ p (bZ f)):=(Fl h).weak fun B H Q ⟨J,Z,Y,S,R,P⟩=>⟨J,Z,Y,S,R,(aO.bind P).imp fun d Y1 H1 J1 X1 S1 P1 v rv=>by
 unfold My at P1;split at P1
 ·rename_i i;exact⟨i,ar.mp rv,P1.now S1⟩
 ·exact P1.elim⟩
def rO(a:D)(lo hi:Option Int)(Y:aA):aj D:=match a with
 |.tup xs=>.ok (.tup (jd xs lo hi)) Y
 |.frz xs=>.ok (.obj Y.length) (Y++[.lst (jd xs lo hi)])
 |.obj n=>match Y[n]? with
  |some (.lst xs)=>.ok (.obj Y.length) (Y++[.lst (jd xs lo hi)])
  |_=>.bad
 |_=>.bad
def qW(fa:ME)(fl fh:MO):ME:=fun Z Y=>(fa Z Y).bind fun a Y1=>(fl Z Y1).bind fun lo Y2=>(fh Z Y2).bind fun hi Y3=>rO a lo hi Y3
theorem Reps.cut'(r:Reps K H J xs vs)(lo hi:Option Int):Reps K H J (jd xs lo hi) (uR vs lo hi):=by
 unfold jd uR;rw[r.length];exact(r.drop _).take _
theorem Lx{a:D}{hi:Option Int}{Q:VK}(S:p.S H J Y)(ra:p.R H J a v)(P:aO p H J (rO a lo hi Y) (RV p Q)):KJ p.K v lo hi H Q:=by
 unfold rO at P;split at P
 ·rename_i xs;obtain⟨a,us,rfl,h1,r1⟩:=aQ.mp ra;by_cases hw:HT.sIx us.length 0 lo=0/\HT.sIx us.length us.length hi=us.length
  ·refine .inr (.inl ⟨a,us,rfl,h1,hw,?_⟩);rw[r1.length]at hw;rw[yn xs lo hi hw]at P;exact P.now S _ ra
  ·exact .inl ⟨a,us,rfl,h1,hw,fun q hq=>P _ _ (bV hq) (S.tuple hq) _ (aQ.mpr ⟨q,_,rfl,gL.of bj,(r1.cut' lo hi).mono (bV hq)⟩)⟩
 ·rename_i xs;obtain⟨a,us,rfl,h1,r1⟩:=bA.mp ra;refine .inr (.inr ⟨a,us,rfl,h1.sq,fun q hq=>?_⟩);obtain⟨x1,x2,x3⟩:=c9 S hq (r1.cut' lo hi);exact P _ _ x1 x2 _ x3
 ·rename_i n;split at P
  ·rename_i xs hx;obtain⟨a,us,rfl,a1,h1,r1⟩:=cI S ra hx;refine .inr (.inr ⟨a,us,rfl,gB.of h1,fun q hq=>?_⟩);obtain⟨x1,x2,x3⟩:=c9 S hq (r1.cut' lo hi);exact P _ _ x1 x2 _ x3
  ·exact P.elim
 ·exact P.elim
theorem CW{X:Cx}{lo hi:Option Expr}{fl fh:MO}(hK:X.K=p.K)(he:PE X e (tD p fa))(hl:PO X lo (DZ p fl))(hu:PO X hi (DZ p fh)):PE X (.Subscript e (.Slice lo hi none p2) pos) (tD p (qW fa fl fh)):=
 (vD NC he hl hu).weak fun B H Q ⟨J, Z, Y, S, R, P⟩ => ⟨J, Z, Y, S, R, (aO.bind P).imp fun a Y1 H1 J1 X1 S1 P1 v rv => ⟨J1, Z, Y1, S1, R.mono X1, (aO.bind P1).imp fun l Y2 H2 J2 X2 S2 P2 => ⟨J2, Z, Y2, S2, (R.mono X1).mono X2, (aO.bind P2).imp fun h Y3 H3 J3 X3 S3 P3 => by
  rw[hK];exact Lx S3 ((rv.mono X2).mono X3) P3⟩⟩⟩
end
inductive A5(K:W.Frag)(H:Hp):V->String->Prop where
 |non:A5 K H .non "NoneType"
 |bl (x:Bool):A5 K H (.bl x) "bool"
 |int (i:Int):A5 K H (.int i) "int"
 |str (x:Str):A5 K H (.str x) "str"
 |lst {a:Addr}{xs:List V} (e:gB K H a xs):A5 K H (.ref a) "list"
 |tup {a:Addr}{xs:List V} (e:gL K H a xs):A5 K H (.ref a) "tuple"
 |dic {a:Addr}{kvs:List (qY×V)} (e:H a=some (.dK kvs)):A5 K H (.ref a) "dict"
def j7 (tn T:String):Bool:=tn == T || (tn == "bool" && T == "int")
def tJ:List String:=["NoneType", "bool", "int", "str", "list", "tuple", "dict"]
theorem JS:∀tn∈tJ,∀T∈["int", "bool", "tuple", "list", "str", "dict"],W.kitOne K (.type tn) (.type T)=some (j7 tn T):=by
 intro tn h1 T h2;simp only[tJ,OO,Q5,Q6]at h1 h2;rcases h1 with rfl|rfl|rfl|rfl|rfl|rfl|rfl <;> rcases h2 with rfl|rfl|rfl|rfl|rfl|rfl <;> rfl
theorem A5.mem{x:V}(h:A5 K H x tn):tn∈tJ:=by
 cases h <;> decide
section
variable{X:Cx}
theorem α0{c:Value}{b:Bool}{x:V}(I:aX X pins B H s)(rx:bU x u)(ty:A5 X.K H x tn)(e:W.kitOne X.K (.type tn) c=some b)(h:∀tk,Q (.bool b) {s with toks:=tk}):
  wpAny (model X.prog X.w) A (call (.builtin "isinstance") [u,c]) Q E s:=by
 cases ty with
 |non=>cases (show u=Value.none from rx);exact W.kia_one W.kitx_none I.kIn True.intro e (fun z=>nomatch z) h
 |bl y=>cases (show u=Value.bool y from rx);exact W.kia_one W.kitx_bool I.kIn True.intro e (fun z=>nomatch z) h
 |int i=>obtain⟨t,q⟩:=(show ∃t,u=Value.int i t from rx);cases q;exact W.kia_one W.kitx_int I.kIn True.intro e (fun z=>nomatch z) h
 |str y=>obtain⟨t,q⟩:=(show ∃t,u=Value.str y t from rx);cases q;exact W.kia_one W.kitx_str I.kIn True.intro e (fun z=>nomatch z) h
 | @lst a xs ea=>
  cases (show u=Value.ref a from rx);obtain⟨its,_,⟨o,n,h1,h2,_⟩,_⟩:=I.list ea;exact W.kia_one W.kitx_list I.kIn ⟨o,h1,h2⟩ e (fun z=>nomatch z) h
 | @tup a xs ea=>
  cases (show u=Value.ref a from rx);obtain⟨its,_,⟨o,h1,h2,_⟩,_⟩:=I.tuple ea;exact W.kia_one W.kitx_tuple I.kIn ⟨o,h1,h2⟩ e (fun z=>nomatch z) h
 | @dic a kvs ea=>
  cases (show u=Value.ref a from rx);obtain⟨_,_,vs,_,p⟩:=(show dk X.prog X.w H s.heap a (.dK kvs) from I.hok a _ ea);obtain⟨o,es,ep,h1,h2,_⟩:=p;exact W.kia_one W.kitx_dict I.kIn ⟨o,h1,h2.1⟩ e (fun z=>nomatch z) h
def KO(K:W.Frag):List V->Hp->VK->Prop:=fun xs H Q=>∃x T tn b,xs=[x,.ty T]/\A5 K H x tn/\W.kitOne K (.type tn) (.type T)=some b/\Q (.bl b) H
theorem DO:cZ X (.builtin "isinstance") (KO X.K):=by
 intro pins s B H xs us Q I r h;obtain⟨x,T,tn,b,rfl,ty,e,q⟩:=h;obtain⟨u,u2,rfl,ru,ru2⟩:=Bl r;cases ru2;exact α0 I ru ty e fun tk=>⟨.bl b,H,I.tok _,rfl,q⟩
end
def He(Y:aA):D->Option String
 |.non=>some "NoneType"
 |.bl _=>some "bool"
 |.int _=>some "int"
 |.str _=>some "str"
 |.tup _=>some "tuple"
 |.frz _=>some "list"
 |.obj n=>match Y[n]? with
  |some (.lst _)=>some "list"
  |some .dic=>some "dict"
  |_=>none
theorem HL{d:D}(S:p.S H J Y)(r:p.R H J d v)(h:He Y d=some tn):A5 p.K H v tn:=by
 cases d with
 |non=>cases h;rw[bK.mp r];exact .non
 |bl b=>cases h;rw[aU.mp r];exact .bl b
 |int b=>cases h;rw[ar.mp r];exact .int b
 |str b=>cases h;rw[aC.mp r];exact .str b
 |tup xs=>cases h;obtain⟨a,vs,rfl,h1,_⟩:=aQ.mp r;exact .tup h1
 |frz xs=>cases h;obtain⟨a,vs,rfl,h1,_⟩:=bA.mp r;exact .lst h1.sq
 |obj n=>
  unfold He at h;dsimp only at h;split at h
  ·rename_i xs hx;cases h;obtain⟨a,us,rfl,a1,h1,_⟩:=cI S r hx;exact .lst (gB.of h1)
  ·rename_i hx;cases h;obtain⟨a,ea,q⟩:=S.at hx;obtain⟨a',rfl,ea'⟩:=bf.mp r;rw[ea]at ea';cases ea';exact .dic q
  ·cases h
def fV(T:String)(d:D)(Y:aA):aj D:=match He Y d with
 |some tn=>.ok (.bl (j7 tn T)) Y
 |none=>.bad
theorem IE{X:Cx}{a:Expr}{xT:Str}{pt:Pos}(hK:X.K=p.K)(hT:T∈["int", "bool", "tuple", "list", "str", "dict"])(hg:Gl X "isinstance")(hm:X.mg "isinstance" = none)(hgT:Gl X xT)(hmT:X.mg xT=none)(hbT:bootBuiltins xT=some (.type T))(ha:PE X a (tD p fa))(hnT:xT ≠ "__name__")(hdT:(xT == ("__debug__" : Str))=false)(hs1:starEach [a,.Name xT pt] X.env=(false,eval a X.env)::starEach [.Name xT pt] X.env):
  PE X (.Call (.Name "isinstance" px) [a,.Name xT pt] [] pos) (tD p (i7 (fV T) fa)):=by
 have hb:PE X (.Name xT pt) (tC (.ty T)):=zi hgT hmT hbT rfl hnT hdT;refine(mR DO hg hm SJ (jH ha (jH hb tE rfl) hs1) (by decide) (by decide) hs1 rfl).weak fun B H Q ⟨J,Z,Y,S,R,P⟩=>⟨J,Z,Y,S,R,(aO.bind P).imp fun d Y1 H1 J1 X1 S1 P1 v rv=>?_⟩;show KO X.K [v,.ty T] H1 Q;unfold fV at P1;split at P1
 ·rename_i tn htn;have ty:=HL S1 rv htn;rw[hK];exact⟨v,T,tn,_,rfl,ty,JS tn ty.mem T hT,P1.now S1 _ (aU.mpr rfl)⟩
 ·exact P1.elim
def lZ:List D->Option (List Bool)
 |[]=>some []
 |.bl b::r=>(lZ r).map (b::·)
 |_::_=>none
theorem qF:∀{ds:List D}{bs:List Bool},lZ ds=some bs->ds=bs.map D.bl
 |[],bs,h=>by cases h;rfl
 |.bl b::r,bs,h=>by
  unfold lZ at h;cases e:lZ r with
  |none=>rw[e]at h;cases h
  |some cs=>rw[e]at h;cases h;rw[qF e];rfl
 |.non::r,bs,h=>by cases h
 |.int _::r,bs,h=>by cases h
 |.str _::r,bs,h=>by cases h
 |.tup _::r,bs,h=>by cases h
 |.frz _::r,bs,h=>by cases h
 |.obj _::r,bs,h=>by cases h
theorem A0(bs:List Bool):lZ (bs.map D.bl)=some bs:=by
 induction bs with
 |nil=>rfl
 |cons b r ih=>simp only[Qp,lZ,ih];rfl
theorem Reps.bools{K:W.Frag}{H:Hp}{J:List Addr}:∀{bs:List Bool}{vs:List V},Reps K H J (bs.map D.bl) vs->vs=bs.map V.bl
 |[],vs,h=>by simp only[Qo,Reps]at h;exact h
 |n::ns,vs,h=>by
  simp only[Qp,Reps]at h;obtain⟨v,r,rfl,h1,h2⟩:=h;rw[aU.mp h1,Reps.bools h2];rfl
theorem xJ{bs:List Bool}(h:br (bs.map V.bl) us):us=bs.map Value.bool:=by
 induction bs generalizing us with
 |nil=>cases h;rfl
 |cons b r ih=>
  cases h with
  |cons h1 h2=>cases h1;rw[ih h2];rfl
theorem A2{bs:List Bool}:(List.range bs.length).all (fun i=>bs.getD i false)=bs.all id:=by
 induction bs with
 |nil=>rfl
 |cons b r ih=>
  rw[QJ,Ra,Qu,SK,Qu];congr 1
section
variable{X:Cx}
def KS(K:W.Frag):List V->Hp->VK->Prop:=fun xs H Q=>∃(a:Addr)(bs:List Bool),xs=[.ref a]/\gB K H a (bs.map V.bl)/\Q (.bl (bs.all id)) H
theorem aX.fresh_it(I:aX X pins B H s){o:Obj}{tk:Nat}(hk:∀b ob,b ∉ [s.heap.objs.size]->(s.heap.push o).get? b=some ob->h'.get? b=some ob):aX X pins B H {s with heap:=h',toks:=tk}:=
 I.kept fun b ob e=>hk b ob (fun hm=>by
  have:b=s.heap.objs.size:=by simpa using hm
  subst this
  exact absurd (OC e) (OE _)) (O8 _ e)
theorem AZ (hc:X.calm=true):cZ X (.builtin "all") (KS X.K):=by
 intro pins s B H xs us Q I r h;obtain⟨a,bs,rfl,ha,q⟩:=h;obtain⟨u,rfl,ru⟩:=eP r;cases ru;obtain⟨its,rv,pl,hz⟩:=I.list ha;have hi:its=bs.map Value.bool:=xJ rv
 have hne:a≠s.heap.objs.size:=by
  obtain⟨o,n,e,_⟩:=pl;exact OF (OC e)
 refine call_all_walk (RZ pl.isList ?_);refine⟨s.heap.objs.size,[s.heap.objs.size,a],[s.heap.objs.size],_,_,_,fun i=>bs.getD i false,rfl,Walks.list (A:=X.A.in1) (show X.A.in1.handled=none from I.ok.hd hc) _ a hne its.toArray,⟨⟨_,Pe _ rfl,rfl,rfl⟩,pl.isList.at fun o e=>O8 _ e⟩,?_,?_⟩
 ·intro i v s' Q' E' hP hQ;subst hi;have hv:(bs.map Value.bool)[i]?=some v:=by simpa using hP
  rw[PU]at hv;cases e:bs[i]? with
  |none=>rw[e]at hv;cases hv
  |some b=>
   rw[e]at hv;cases hv;have:bs.getD i false=b:=by rw[R8,e];rfl
   dsimp only at hQ;rw[this]at hQ;exact OY hQ
 ·intro h' tk hk;have e2:its.toArray.size=bs.length:=by subst hi;simp
  rw[e2,A2];exact⟨.bl _,H,I.fresh_it hk,rfl,q⟩
end
def oH(ds:List D)(Y:aA):aj D:=match ds with
 |[.obj n]=>match Y[n]? with
  |some (.lst xs)=>match lZ xs with
   |some bs=>.ok (.bl (bs.all id)) Y
   |none=>.bad
  |_=>.bad
 |_=>.bad
theorem JD:xc p oH (KS p.K):=by
 intro ds vs H J Y Q S r P;unfold oH at P;split at P
 ·rename_i n;split at P
  ·rename_i xs hx;split at P
   ·rename_i bs hb;obtain⟨v,rfl,r1⟩:=r.one;obtain⟨a,us,rfl,a1,h1,rr⟩:=cI S r1 hx;rw[qF hb]at rr;exact⟨a,bs,rfl,by rw[<- rr.bools];exact gB.of h1,P.now S _ (aU.mpr rfl)⟩
   ·exact P.elim
  ·exact P.elim
 ·exact P.elim
def u5(ds:List D)(Y:aA):aj D:=match ds with
 |[.tup xs]=>.ok (.int xs.length) Y
 |[.frz xs]=>.ok (.int xs.length) Y
 |[.str x]=>if x.length<=sizeLine then .ok (.int x.length) Y else .bad
 |[.obj n]=>match Y[n]? with
  |some (.lst xs)=>.ok (.int xs.length) Y
  |_=>.bad
 |_=>.bad
theorem FO:xc p u5 (fun xs H Q=>∃x n,xs=[x]/\HA p.K x H n/\Q (.int n) H):=by
 intro ds vs H J Y Q S r P;unfold u5 at P;split at P
 ·rename_i xs;obtain⟨v,rfl,r1⟩:=r.one;obtain⟨a,us,rfl,h1,rr⟩:=aQ.mp r1;exact⟨_,xs.length,rfl,.inr ⟨us,h1,rr.length.symm⟩,P.now S _ (ar.mpr rfl)⟩
 ·rename_i xs;obtain⟨v,rfl,r1⟩:=r.one;obtain⟨a,us,rfl,h1,rr⟩:=bA.mp r1;exact⟨_,xs.length,rfl,.inl ⟨us,h1.sq,rr.length.symm⟩,P.now S _ (ar.mpr rfl)⟩
 ·rename_i x;obtain⟨v,rfl,r1⟩:=r.one;split at P
  ·rename_i hl;exact⟨v,x.length,rfl,by rw[aC.mp r1];exact⟨hl,rfl⟩,P.now S _ (ar.mpr rfl)⟩
  ·exact P.elim
 ·rename_i n;split at P
  ·rename_i xs hx;obtain⟨v,rfl,r1⟩:=r.one;obtain⟨a,us,rfl,a1,h1,rr⟩:=cI S r1 hx;exact⟨_,xs.length,rfl,.inl ⟨us,gB.of h1,rr.length.symm⟩,P.now S _ (ar.mpr rfl)⟩
  ·exact P.elim
 ·exact P.elim
def km(ds:List D)(Y:aA):aj D:=match ds with
 |[.tup xs]=>.ok (.tup xs) Y
 |[.frz xs]=>.ok (.tup xs) Y
 |[.obj n]=>match Y[n]? with
  |some (.lst xs)=>.ok (.tup xs) Y
  |_=>.bad
 |_=>.bad
theorem Dk:xc p km (fun xs H Q=>∃q ys,xs=[.ref q]/\((gB p.K H q ys/\∀l,H l=none->Q (.ref l) (b9 H l (.tup ys)))\/(gL p.K H q ys/\Q (.ref q) H))):=by
 intro ds vs H J Y Q S r P;unfold km at P;split at P
 ·rename_i xs;obtain⟨v,rfl,r1⟩:=r.one;obtain⟨a,us,rfl,h1,rr⟩:=aQ.mp r1;exact⟨a,us,rfl,.inr ⟨h1,P.now S _ r1⟩⟩
 ·rename_i xs;obtain⟨v,rfl,r1⟩:=r.one;obtain⟨a,us,rfl,h1,rr⟩:=bA.mp r1;exact⟨a,us,rfl,.inl ⟨h1.sq,fun q hq=>P _ _ (bV hq) (S.tuple hq) _ (aQ.mpr ⟨q,us,rfl,gL.of bj,rr.mono (bV hq)⟩)⟩⟩
 ·rename_i n;split at P
  ·rename_i xs hx;obtain⟨v,rfl,r1⟩:=r.one;obtain⟨a,us,rfl,a1,h1,rr⟩:=cI S r1 hx;exact⟨a,us,rfl,.inl ⟨gB.of h1,fun q hq=>P _ _ (bV hq) (S.tuple hq) _ (aQ.mpr ⟨q,us,rfl,gL.of bj,rr.mono (bV hq)⟩)⟩⟩
  ·exact P.elim
 ·exact P.elim
def u4(ds:List D)(Y:aA):aj D:=match ds with
 |[.tup xs]=>.ok (.obj Y.length) (Y++[.lst xs])
 |[.frz xs]=>.ok (.obj Y.length) (Y++[.lst xs])
 |[.obj n]=>match Y[n]? with
  |some (.lst xs)=>.ok (.obj Y.length) (Y++[.lst xs])
  |_=>.bad
 |_=>.bad
theorem FN:xc p u4 (fun xs H Q=>∃q ys,xs=[.ref q]/\(gB p.K H q ys\/gL p.K H q ys)/\∀l,H l=none->Q (.ref l) (b9 H l (.lst ys))):=by
 intro ds vs H J Y Q S r P;unfold u4 at P;split at P
 ·rename_i xs;obtain⟨v,rfl,r1⟩:=r.one;obtain⟨a,us,rfl,h1,rr⟩:=aQ.mp r1;refine⟨a,us,rfl,.inr h1,fun q hq=>?_⟩;obtain⟨x1,x2,x3⟩:=c9 S hq rr;exact P _ _ x1 x2 _ x3
 ·rename_i xs;obtain⟨v,rfl,r1⟩:=r.one;obtain⟨a,us,rfl,h1,rr⟩:=bA.mp r1;refine⟨a,us,rfl,.inl h1.sq,fun q hq=>?_⟩;obtain⟨x1,x2,x3⟩:=c9 S hq rr;exact P _ _ x1 x2 _ x3
 ·rename_i n;split at P
  ·rename_i xs hx;obtain⟨v,rfl,r1⟩:=r.one;obtain⟨a,us,rfl,a1,h1,rr⟩:=cI S r1 hx;refine⟨a,us,rfl,.inl (gB.of h1),fun q hq=>?_⟩;obtain⟨x1,x2,x3⟩:=c9 S hq rr;exact P _ _ x1 x2 _ x3
  ·exact P.elim
 ·exact P.elim
def u6(ds:List D)(Y:aA):aj D:=match ds with
 |[.int i]=>.ok (.int i) Y
 |[.bl k]=>.ok (.int (if k then 1 else 0)) Y
 |_=>.bad
theorem JC:xc p u6 (fun xs H Q=>(∃i,xs=[.int i]/\Q (.int i) H)\/∃k,xs=[.bl k]/\Q (.int (if k then 1 else 0)) H):=by
 intro ds vs H J Y Q S r P;unfold u6 at P;split at P
 ·rename_i i;obtain⟨v,rfl,r1⟩:=r.one;exact .inl ⟨i,by rw[ar.mp r1],P.now S _ (ar.mpr rfl)⟩
 ·rename_i i;obtain⟨v,rfl,r1⟩:=r.one;exact .inr ⟨i,by rw[aU.mp r1],P.now S _ (ar.mpr rfl)⟩
 ·exact P.elim
def BE(ds:List D)(Y:aA):aj D:=match ds with
 |[.int i,.int j]=>.ok (.int (if j>i then j else i)) Y
 |_=>.bad
def BD(ds:List D)(Y:aA):aj D:=match ds with
 |[.int i,.int j]=>.ok (.int (if j<i then j else i)) Y
 |_=>.bad
theorem FM:xc p BE (fun xs H Q=>∃i j,xs=[.int i,.int j]/\Q (.int (if j>i then j else i)) H):=by
 intro ds vs H J Y Q S r P;unfold BE at P;split at P
 ·rename_i i j;obtain⟨v,u,rfl,r1,r2⟩:=r.two;exact⟨i,j,by rw[ar.mp r1,ar.mp r2],P.now S _ (ar.mpr rfl)⟩
 ·exact P.elim
theorem FL:xc p BD (fun xs H Q=>∃i j,xs=[.int i,.int j]/\Q (.int (if j<i then j else i)) H):=by
 intro ds vs H J Y Q S r P;unfold BD at P;split at P
 ·rename_i i j;obtain⟨v,u,rfl,r1,r2⟩:=r.two;exact⟨i,j,by rw[ar.mp r1,ar.mp r2],P.now S _ (ar.mpr rfl)⟩
 ·exact P.elim
end L2
variable{fl:L2.MO}
namespace L2
open PySem PySem.Spec PyProof.Rows RS
section
theorem wU(hT:T = "list" \/ T = "tuple"){vs:List Value}{Q:List Value->Shared->Prop}{o:Obj}(ho:s.heap.get? l=some o)(hc:o.cls=.type T)(hd:o.data=.seq vs.toArray n)(h:Q vs {s with heap:=(s.heap.push (seqObj "list" #[] 0)).update s.heap.objs.size (Obj.mapSeq (·++vs.toArray))})(hsz:vs.length<=sizeLine):
  wpAny (model prog w) A (collect (.ref l)) Q E s:=by
 unfold collect;refine O3 (R0 (RO entry_proto_collect' ?_));show wpAny _ _ (do again (.builtin "list.__iadd__" ⟨[<- newList [],.ref l],[]⟩)) _ _ s;refine O3 (Se (O6 ⟨RW _ (by decide +kernel),RO entry_list_iadd' ?_⟩));show wpAny _ _ (Builtin.List.listExtendWith (.ref s.heap.objs.size) (.ref l) (.ref s.heap.objs.size)) _ _ {s with heap:=s.heap.push (seqObj "list" #[] 0)};unfold Builtin.List.listExtendWith;have ho':(s.heap.push (seqObj "list" #[] 0)).get? l=some o:=O8 _ ho;refine O3 (Qm (T:=T) ⟨o,ho',hc⟩ ?_);have h1:(Value.type "list" == Value.type "list")=true:=by rfl
 have h2:(Value.type "tuple" == Value.type "tuple")=true:=by rfl
 rw[OA (by rcases hT with rfl|rfl <;> simp[h1,h2])];refine O3 (listItems_at ho' hd ?_);refine O3 (listItems_at (xs:=#[]) (n:=0) (Pe _ rfl) rfl ?_);rw[OB (by simp)];refine O3 (Sb (xs:=#[]) (n:=0) (Pe _ rfl) rfl ?_ (QR _) (by show (#[]++vs.toArray).size<=sizeLine+1;simp only[Array.size_append,Pq,Rf];omega));refine O6 ?_
 show wpAny (model prog w) A (do
   let o <- load s.heap.objs.size
   match o.data with
   |.seq xs _=>pure xs.toList
   |_=>unsupported "internal:collect") Q E {s with heap:=(s.heap.push (seqObj "list" #[] 0)).update s.heap.objs.size (Obj.mapSeq (·++vs.toArray))}
 refine O3 (Pc (Sd (Pe _ rfl) _) ?_);show wpAny _ _ (pure ((#[]:Array Value)++vs.toArray).toList) Q E _;rw[show ((#[]:Array Value)++vs.toArray).toList=vs by simp];exact O6 h
theorem uf(hT:T = "list" \/ T = "tuple"){vs:List Value}{o:Obj}(ho:s.heap.get? l=some o)(hc:o.cls=.type T)(hd:o.data=.seq vs.toArray n)(hI:IntsAre vs ns)(h64:vs.length<64)(h:∀(out:Array Value)(ns':List Int),IntsAre out.toList ns'->ns'.Perm ns->ns'.Pairwise (·<=·)->Q (.ref (s.heap.objs.size+1)) {s with heap:=sortedAll s.heap vs out}):
  wpAny (model prog w) A (call (.builtin "sorted") [.ref l]) Q E s:=by
 have hsz0:vs.length<=sizeLine:=OI (OJ h64) (by decide);refine Calls.call_function_entry kind_sorted plain_sorted entry_sorted (args_sorted1 _) ?_;unfold Builtin.«sorted»;refine O3 (m:=checkCount "sorted" 1 1 _) (O6 ?_);refine O3 (wU hT ho hc hd ?_ hsz0);refine O3 (Se ?_ hsz0)
 have hsz:((s.heap.push (seqObj "list" #[] 0)).update s.heap.objs.size (Obj.mapSeq (·++vs.toArray))).objs.size=s.heap.objs.size+1:=by
  rw[Sg,Sf]
 have hoL:(((s.heap.push (seqObj "list" #[] 0)).update s.heap.objs.size (Obj.mapSeq (·++vs.toArray))).push (seqObj "list" vs.toArray 0)).get? (s.heap.objs.size+1)=some (seqObj "list" vs.toArray 0):=by
  rw[<- hsz];exact Pe _ rfl
 show wpAny _ _ _ _ _ {s with heap:=((s.heap.push (seqObj "list" #[] 0)).update s.heap.objs.size (Obj.mapSeq (·++vs.toArray))).push (seqObj "list" vs.toArray 0)};rw[hsz];refine O3 (O4 (Ql slot_list_sort ⟨_,hoL,rfl⟩ entry_list_sort (list_sort_tree hoL hI h64 fun out ns' a1 a2 a3=>⟨_,rfl,?_⟩) (args_list_sort _)));exact O6 ⟨_,rfl,h out ns' a1 a2 a3⟩
end
theorem rm{h:Heap}{vs:List Value}{out:Array Value}{u:Obj}(e:h.get? b=some u):(sortedAll h vs out).get? b=some u:=by
 have hb:=OC e;have n1:b≠h.objs.size:=OF hb;have n2:b≠h.objs.size+1:=OF (QL hb);unfold sortedAll sortedHeap;rw[Sh _ _ _ _ n2];refine O8 _ (O8 _ ?_);rw[Sh _ _ _ _ n2];refine O8 _ ?_;rw[Sh _ _ _ _ n1];exact O8 _ e
theorem rn {h:Heap}{vs:List Value}{out:Array Value}:∃n,(sortedAll h vs out).get? (h.objs.size+1)=some (seqObj "list" out n):=by
 unfold sortedAll sortedHeap
 have hsz:((h.push (seqObj "list" #[] 0)).update h.objs.size (Obj.mapSeq (·++vs.toArray))).objs.size=h.objs.size+1:=by
  rw[Sg,Sf]
 have hoL:(((h.push (seqObj "list" #[] 0)).update h.objs.size (Obj.mapSeq (·++vs.toArray))).push (seqObj "list" vs.toArray 0)).get? (h.objs.size+1)=some (seqObj "list" vs.toArray 0):=by
  rw[<- hsz];exact Pe _ rfl
 have g1:=Sd hoL (fun _=>#[]);have g2:=O8 (seqObj "list" #[] 0) (O8 (seqObj "tuple" vs.toArray 0) g1);exact⟨_,Sd g2 (fun _=>out)⟩
theorem ua(h:IntsAre us ns):br (ns.map V.int) us:=by
 induction h with
 |nil=>exact .nil
 |cons n t _ ih=>exact .cons ⟨t,rfl⟩ ih
section
variable{X:Cx}
def σ5(K:W.Frag):List V->Hp->VK->Prop:=fun xs H Q=>∃(a:Addr)(ns:List Int),xs=[.ref a]/\(gB K H a (ns.map V.int)\/gL K H a (ns.map V.int))/\ns.length<64 /\
 ∀ns':List Int,ns'.Perm ns->ns'.Pairwise (·<=·)->∀l,H l=none->Q (.ref l) (b9 H l (.lst (ns'.map V.int)))
theorem yt:cZ X (.builtin "sorted") (σ5 X.K):=by
 intro pins s B H xs us Q I r h;obtain⟨a,ns,rfl,ha,hl,q⟩:=h;obtain⟨u,rfl,ru⟩:=eP r;cases ru
 have core:∀(T:String),T = "list" \/ T = "tuple" -> ∀(its:List Value) (o:Obj) (n:Nat),s.heap.get? a=some o->o.cls=.type T->o.data=.seq its.toArray n->br (ns.map V.int) its->wpAny (model X.prog X.w) X.A (call (.builtin "sorted") [.ref a]) (EP X pins B Q) X.xe s:=by
  intro T hT its o n e1 e2 e3 rv;have hI:IntsAre its ns:=iG rv;refine uf hT e1 e2 e3 hI (by rw[hI.length];exact hl) fun out ns' h1 h2 h3=>?_;refine⟨.ref (s.heap.objs.size+1),b9 H (s.heap.objs.size+1) (.lst (ns'.map V.int)),I.laid (t':=s.toks) (fun b ob e=>rm e) (Q9 _) ?_,rfl,q ns' h2 h3 _ (I.hok.fresh (Q9 _))⟩;obtain⟨m,e⟩:=rn (h:=s.heap) (vs:=its) (out:=out);refine⟨?_,out.toList,m,ua h1,by simpa using e⟩;rw[PZ,h2.length_eq];exact OI (OJ hl) (by decide)
 rcases ha with ha|ha
 ·obtain⟨its,rv,⟨o,n,e1,e2,_,e3⟩,hz⟩:=I.list ha;exact core "list" (.inl rfl) its o n e1 e2 e3 rv
 ·obtain⟨its,rv,⟨o,e1,e2,n,e3⟩,hz⟩:=I.tuple ha;exact core "tuple" (.inr rfl) its o n e1 e2 e3 rv
theorem Bn{r:Addr}{k:List Int}(I:aX X pins B H s)(h:gL X.K H r (k.map V.int)):Tk X.prog X.w s.heap k r:=by
 obtain⟨its,rv,⟨o,e1,e2,n,e3⟩,_⟩:=I.tuple h;refine⟨o,its.toArray,n,e1,e2,e3,?_⟩
 have core:∀(k:List Int)(its:List Value),br (k.map V.int) its->PySem.ItemsAre (intKind X.prog X.w) k its:=by
  intro k
  induction k with
  |nil=>intro its h;cases h;exact .nil
  |cons i r ih=>
   intro its h;cases h with
   |cons h1 h2=>
    obtain⟨t,rfl⟩:=h1;exact .cons (by simp[intKind,Value.isInt]) (ih _ h2)
 simpa using core k its rv
def kd(qs:List KP):List V:=qs.map fun p=>V.ref p.2
theorem nB:∀{qs:List KP}{its:List Value},br (kd qs) its->its=qs.map fun p=>Value.ref p.2
 |[],its,h=>by cases h;rfl
 |q::qs,its,h=>by
  cases h with
  |cons h1 h2=>cases h1;rw[nB h2];rfl
theorem og:∀(qs:List KP),br (kd qs) (bg qs)
 |[]=>.nil
 |q::qs=>.cons rfl (og qs)
def Bs(K:W.Frag)(w:World):List V->Hp->VK->Prop:=fun xs H Q=>∃(a:Addr)(qs:List KP),xs=[.ref a]/\(gB K H a (kd qs)\/gL K H a (kd qs))/\(∀p∈qs,p.1∈prs/\gL K H p.2 (p.1.map V.int)) /\
 ∀l,H l=none->Q (.ref l) (b9 H l (.ext fun h=>f6 w h l (fJ qs)))
theorem AR (hc:X.calm=true) (hu:X.A.units+64<cLine):cZ X (.type "set") (Bs X.K X.w):=by
 intro pins s B H xs us Q I r h;obtain⟨a,qs,rfl,ha,hq,q⟩:=h;obtain⟨u,rfl,ru⟩:=eP r;cases ru
 have fin:∀(h':Heap)(tk:Nat),f6 X.w h' s.heap.objs.size (fJ qs)->(∀b o,b<s.heap.objs.size->s.heap.get? b=some o->h'.get? b=some o)->EP X pins B Q (.ref s.heap.objs.size) {s with heap:=h',toks:=tk}:=by
  intro h' tk hS hk;refine⟨.ref s.heap.objs.size,b9 H s.heap.objs.size (.ext fun h=>f6 X.w h s.heap.objs.size (fJ qs)),I.laid (t':=tk) (fun b ob e=>hk b ob (OC e) e) (Pf _) ?_,rfl,q _ (I.hok.fresh (Pf _))⟩;refine⟨hS,?_,fun h1 h2 g k=>g.keeps k⟩;obtain⟨o,es,ep,t,ρ,S0,_⟩:=hS;exact⟨o,S0.ho⟩
 rcases ha with ha|ha
 ·obtain⟨its,rv,pl,hz⟩:=I.list ha;exact wy (I.ok.hd hc) pl.isList (by simpa using nB rv) (fun p hp=>(hq p hp).1) (fun p hp=>Bn I (hq p hp).2) (by omega) fin
 ·obtain⟨its,rv,pl,hz⟩:=I.tuple ha;exact uh (I.ok.hd hc) pl (by simpa using nB rv) (fun p hp=>(hq p hp).1) (fun p hp=>Bn I (hq p hp).2) (by omega) fin
def σ4(K:W.Frag)(w:World):List V->Hp->VK->Prop:=fun xs H Q=>∃(a:Addr)(ps:List KP),xs=[.ref a]/\H a=some (.ext fun h=>f6 w h a ps)/\(∀p∈ps,gL K H p.2 (p.1.map V.int)) /\
 ∀out:List KP,out.Perm ps->iE out->∀l,H l=none->Q (.ref l) (b9 H l (.lst (kd out)))
theorem yr (hc:X.calm=true):cZ X (.builtin "sorted") (σ4 X.K X.w):=by
 intro pins s B H xs us Q I r h;obtain⟨a,ps,rfl,ha,hT,q⟩:=h;obtain⟨u,rfl,ru⟩:=eP r;cases ru;obtain⟨hS,_⟩:=(show dk X.prog X.w H s.heap a (.ext fun h=>f6 X.w h a ps) from I.hok a _ ha);refine xU (I.ok.hd hc) hS (fun p hp=>Bn I (hT p hp)) fun out hp hr h' D hD hk hn=>?_;refine⟨.ref D,b9 H D (.lst (kd out)),I.laid (t':=s.toks) (fun b ob e=>hk b ob e) hD ?_,rfl,q out hp hr _ (I.hok.fresh hD)⟩;obtain⟨n,e⟩:=hn;refine⟨?_,bg out,n,og out,e⟩
 have hl:out.length<=15:=by
  rw[hp.length_eq];obtain⟨o,es,ep,t,ρ,S0,hk,hn⟩:=hS;exact mK hk hn
 unfold kd;rw[PZ];exact OI hl (by decide)
end
def aG(k:List Int):D:=.tup (k.map D.int)
def zK:D->Option (List Int)
 |.tup [.int a,.int b]=>if 0<=a/\a<b/\b<6 then some [a,b] else none
 |_=>none
def rT:List D->Option (List (List Int))
 |[]=>some []
 |d::r=>match zK d,rT r with
  |some k,some ks=>some (k::ks)
  |_,_=>none
theorem F3{d:D}{k:List Int}(h:zK d=some k):d=aG k/\k∈prs:=by
 unfold zK at h;split at h
 ·split at h
  ·rename_i hc;cases h;exact⟨rfl,zg hc.1 hc.2.1 hc.2.2⟩
  ·cases h
 ·cases h
theorem AD{a b:Int}(h:0<=a/\a<b/\b<6):zK (.tup [.int a,.int b])=some [a,b]:=by
 simp only[zK,OA h]
theorem vR:∀{ds:List D}{ks:List (List Int)},rT ds=some ks->ds=ks.map aG/\∀k∈ks,k∈prs
 |[],ks,h=>by cases h;exact⟨rfl,fun k hk=>by simp at hk⟩
 |d::r,ks,h=>by
  unfold rT at h;split at h
  ·rename_i k ks' h1 h2;cases h;obtain⟨e1,e2⟩:=F3 h1;obtain⟨f1,f2⟩:=vR h2;refine⟨by rw[e1,f1];rfl,fun k' hk=>?_⟩;rcases OO.mp hk with z|z
   ·rw[z];exact e2
   ·exact f2 k' z
  ·cases h
theorem vS:∀{ks:List (List Int)},(∀k∈ks,k∈prs)->rT (ks.map aG)=some ks
 |[],_=>rfl
 |k::ks,h=>by
  obtain⟨a,b,rfl,h1,h2,h3⟩:=iz (h k OL);simp only[Qp,rT,vS fun k' hk=>h k' (OM _ hk)];have:zK (aG [a,b])=some [a,b]:=AD ⟨h1,h2,h3⟩;rw[this]
def Bj(ks:List (List Int))(k:List Int):List (List Int):=if k∈ks then ks else ks++[k]
def ja(ks:List (List Int)):List (List Int):=ks.foldl Bj []
def ig(ks:List (List Int)):List (List Int):=prs.filter fun k=>decide (k∈ks)
theorem qH:∀(qs ps:List KP),(qs.foldl (fun ps p=>mB ps p.1 p.2) ps).map (·.1)=(qs.map (·.1)).foldl Bj (ps.map (·.1))
 |[],ps=>rfl
 |q::qs,ps=>by
  rw[QA,Qp,QA,qH qs];congr 1;unfold mB Bj;split <;> simp
theorem AQ(qs:List KP):(fJ qs).map (·.1)=ja (qs.map (·.1)):=qH qs []
theorem AO{k:List Int}:k∈ja ks↔k∈ks:=by
 have core:∀(ks acc:List (List Int)),k∈ks.foldl Bj acc↔k∈acc\/k∈ks:=by
  intro ks
  induction ks with
  |nil=>intro acc;simp
  |cons x r ih=>
   intro acc;rw[QA,ih];unfold Bj;split
   ·rename_i hx;constructor
    ·rintro (h | h)
     ·exact .inl h
     ·exact .inr (OM _ h)
    ·rintro (h | h)
     ·exact .inl h
     ·rcases OO.mp h with z | z
      ·exact .inl (by rw[z];exact hx)
      ·exact .inr z
   ·simp[or_assoc]
 unfold ja;rw[core];simp
theorem qA:prs.Pairwise fun a b=>uH a<uH b:=by decide +kernel
theorem DJ{l m:List (List Int)}(hl:l.Pairwise fun a b=>uH a<uH b)(hm:m.Pairwise fun a b=>uH a<uH b)(h:∀k,k∈l↔k∈m):l=m:=by
 have nl:l.Nodup:=hl.imp fun h e=>by subst e;omega
 have nm:m.Nodup:=hm.imp fun h e=>by subst e;omega
 have hp:l.Perm m:=(List.perm_ext_iff_of_nodup nl nm).mpr h;refine hp.eq_of_pairwise (le:=fun a b=>uH a<uH b) (fun a b _ _ h1 h2=>by omega) hl hm
theorem CO{out:List KP}{ps:List KP}(hk:∀p∈ps,p.1∈prs)(hp:out.Perm ps)(hr:iE out):out.map (·.1)=ig (ps.map (·.1)):=by
 refine DJ ?_ (qA.filter _) fun k=>?_
 ·unfold iE at hr;rw[List.pairwise_map];exact hr
 ·have h1 : k ∈ out.map (·.1) ↔ k ∈ ps.map (·.1) := (hp.map _).mem_iff;rw[h1];unfold ig;rw[OG,Sy];constructor
  ·intro h;refine⟨?_,h⟩;obtain⟨p,hp',rfl⟩:=Rk.mp h;exact hk p hp'
  ·exact fun h=>h.2
theorem wx(ks:List (List Int)):ig (ja ks)=ig ks:=by
 unfold ig;apply List.filter_congr;intro k _;simp only[AO]
theorem Reps.keys{K:W.Frag}{H:Hp}{J:List Addr}:∀{ks:List (List Int)}{vs:List V},Reps K H J (ks.map aG) vs->∃qs:List KP,qs.map (·.1)=ks/\vs=kd qs/\∀p∈qs,gL K H p.2 (p.1.map V.int)
 |[],vs,h=>by simp only[Qo,Reps]at h;exact⟨[],rfl,h,fun p hp=>by simp at hp⟩
 |k::ks,vs,h=>by
  simp only[Qp,Reps]at h;obtain⟨v,r,rfl,h1,h2⟩:=h;obtain⟨a,us,rfl,h3,h4⟩:=aQ.mp h1;obtain⟨qs,e1,e2,e3⟩:=Reps.keys h2;refine⟨(k,a)::qs,by rw[Qp,e1],by rw[e2];rfl,fun p hp=>?_⟩;rcases OO.mp hp with z|z
  ·subst z;rw[<- h4.ints];exact h3
  ·exact e3 p z
theorem oq{K:W.Frag}{H:Hp}{J:List Addr}:∀{qs:List KP},(∀p∈qs,gL K H p.2 (p.1.map V.int))->Reps K H J ((qs.map (·.1)).map aG) (kd qs)
 |[],_=>Reps.nil
 |q::qs,h=>by
  refine Reps.cons (aQ.mpr ⟨q.2,_,rfl,h q OL,kC _⟩) (oq fun p hp=>h p (OM _ hp))
def mI:List D->Option (List Int)
 |[]=>some []
 |.int i::r=>(mI r).map (i::·)
 |_::_=>none
theorem iA:∀{ds:List D}{ns:List Int},mI ds=some ns->ds=ns.map D.int
 |[],bs,h=>by cases h;rfl
 |.int b::r,bs,h=>by
  unfold mI at h;cases e:mI r with
  |none=>rw[e]at h;cases h
  |some cs=>rw[e]at h;cases h;rw[iA e];rfl
 |.non::r,bs,h=>by cases h
 |.bl _::r,bs,h=>by cases h
 |.str _::r,bs,h=>by cases h
 |.tup _::r,bs,h=>by cases h
 |.frz _::r,bs,h=>by cases h
 |.obj _::r,bs,h=>by cases h
def uX(xs:List D)(Y:aA):aj D:=match rT xs with
 |some ks=>.ok (.obj Y.length) (Y++[.set (ja ks)])
 |none=>.bad
def xp(ds:List D)(Y:aA):aj D:=match ds with
 |[.tup xs]=>uX xs Y
 |[.obj n]=>match Y[n]? with
  |some (.lst xs)=>uX xs Y
  |_=>.bad
 |_=>.bad
section
theorem FR{Q:VK}(S:p.S H J Y)(hk:∀k∈ks,k∈prs)(r:p.Rs H J (ks.map aG) vs)(P:aO p H J (.ok (.obj Y.length) (Y++[.set (ja ks)])) (RV p Q)):
  ∃qs:List KP,vs=kd qs/\(∀q∈qs,q.1∈prs/\gL p.K H q.2 (q.1.map V.int))/\∀l,H l=none->Q (.ref l) (b9 H l (.ext fun h=>f6 p.w h l (fJ qs))):=by
 obtain⟨qs,e1,e2,e3⟩:=r.keys;refine⟨qs,e2,fun q hq=>⟨hk _ (by rw[<- e1];exact Rq hq),e3 q hq⟩,fun l hl=>?_⟩;have x1:p.X H (b9 H l (.ext fun h=>f6 p.w h l (fJ qs))) J (J++[l]):=(bV hl).trans (jk [l]);refine P _ _ x1 (S.more hl ⟨fJ qs,by rw[AQ,e1],bj,fun q hq=>?_,uE,fun q hq=>?_⟩) _ (bf.mpr ⟨l,rfl,by rw[<- S.len];simp⟩)
 ·exact hk _ (by rw[<- e1];exact Rq (me hq))
 ·exact x1.tup _ _ (e3 q (me hq))
theorem BX{us:List V}{Q:VK}(S:p.S H J Y)(h1:gB p.K H a us\/gL p.K H a us)(rr:p.Rs H J xs us)(P:aO p H J (uX xs Y) (RV p Q)):Bs p.K p.w [.ref a] H Q:=by
 unfold uX at P;split at P
 ·rename_i ks hks;obtain⟨f1,f2⟩:=vR hks;rw[f1]at rr;obtain⟨qs,e1,e2,e3⟩:=FR S f2 rr P;exact⟨a,qs,rfl,by rw[<- e1];exact h1,e2,e3⟩
 ·exact P.elim
theorem Jy:xc p xp (Bs p.K p.w):=by
 intro ds vs H J Y Q S r P;unfold xp at P;split at P
 ·rename_i xs;obtain⟨v,rfl,r1⟩:=r.one;obtain⟨a,us,rfl,h1,rr⟩:=aQ.mp r1;exact BX S (.inr h1) rr P
 ·rename_i n;split at P
  ·rename_i xs hx;obtain⟨v,rfl,r1⟩:=r.one;obtain⟨a,us,rfl,a1,h1,rr⟩:=cI S r1 hx;exact BX S (.inl (gB.of h1)) rr P
  ·exact P.elim
 ·exact P.elim
def rQ(ns:List Int):List Int:=ns.mergeSort fun a b=>decide (a<=b)
theorem CP{ns':List Int}(hp:ns'.Perm ns)(hs:ns'.Pairwise (·<=·)):ns'=rQ ns:=by
 have h1:(rQ ns).Perm ns:=List.mergeSort_perm ns _
 have h2:(rQ ns).Pairwise (·<=·):=by
  have:=List.pairwise_mergeSort (le:=fun(a b:Int)=>decide (a<=b)) (fun a b c h1 h2=>by simp at *;omega) (fun a b=>by simp;omega) ns;exact this.imp fun h=>by simpa using h
 exact(hp.trans h1.symm).eq_of_pairwise (fun a b _ _ h1 h2=>SL h1 h2) hs h2
def kU(ds:List D)(Y:aA):aj D:=match ds with
 |[.tup xs]=>match mI xs with
  |some ns=>if ns.length<64 then .ok (.obj Y.length) (Y++[.lst ((rQ ns).map D.int)]) else .bad
  |none=>.bad
 |[.obj n]=>match Y[n]? with
  |some (.lst xs)=>match mI xs with
   |some ns=>if ns.length<64 then .ok (.obj Y.length) (Y++[.lst ((rQ ns).map D.int)]) else .bad
   |none=>.bad
  |some (.set ks)=>.ok (.obj Y.length) (Y++[.lst ((ig ks).map aG)])
  |_=>.bad
 |_=>.bad
theorem Ar:xc p kU (fun xs H Q=>σ5 p.K xs H Q\/σ4 p.K p.w xs H Q):=by
 intro ds vs H J Y Q S r P
 have fin:∀{ns:List Int},aO p H J (.ok (.obj Y.length) (Y++[.lst ((rQ ns).map D.int)])) (RV p Q)->∀ns':List Int,ns'.Perm ns->ns'.Pairwise (·<=·)->∀l,H l=none->Q (.ref l) (b9 H l (.lst (ns'.map V.int))):=by
  intro ns P ns' h1 h2 l hl;rw[<- CP h1 h2]at P;obtain⟨x1,x2,x3⟩:=c9 S hl (kC ns');exact P _ _ x1 x2 _ x3
 unfold kU at P;split at P
 ·rename_i xs;split at P
  ·rename_i ns hns;split at P
   ·rename_i hl;obtain⟨v,rfl,r1⟩:=r.one;obtain⟨a,us,rfl,h1,rr⟩:=aQ.mp r1;rw[iA hns]at rr;exact .inl ⟨a,ns,rfl,.inr (by rw[<- rr.ints];exact h1),hl,fin P⟩
   ·exact P.elim
  ·exact P.elim
 ·rename_i n;split at P
  ·rename_i xs hx;split at P
   ·rename_i ns hns;split at P
    ·rename_i hl;obtain⟨v,rfl,r1⟩:=r.one;obtain⟨a,us,rfl,a1,h1,rr⟩:=cI S r1 hx;rw[iA hns]at rr;exact .inl ⟨a,ns,rfl,.inl (by rw[<- rr.ints];exact gB.of h1),hl,fin P⟩
    ·exact P.elim
   ·exact P.elim
  ·rename_i ks hx;obtain⟨v,rfl,r1⟩:=r.one;obtain⟨a,ea,ps,e1,e2,e3,e4,e5⟩:=S.at hx;obtain⟨a',rfl,ea'⟩:=bf.mp r1;rw[ea]at ea';cases ea';refine .inr ⟨a,ps,rfl,e2,e5,fun out hp hr l hl=>?_⟩;have rr:p.Rs H J ((out.map (·.1)).map aG) (kd out):=oq fun q hq=>e5 q (hp.mem_iff.mp hq);rw[CO e3 hp hr,e1]at rr;obtain⟨x1,x2,x3⟩:=c9 S hl rr;exact P _ _ x1 x2 _ x3
  ·exact P.elim
 ·exact P.elim
def d3(ds:List D)(Y:aA):aj D:=u5 ds Y
theorem JB:xc p d3 (fun xs H Q=>∃x n,xs=[x]/\HA p.K x H n/\Q (.int n) H):=FO
end
section
variable{X:Cx}
def GS(K:W.Frag):List V->Hp->VK->Prop:=fun xs H Q=>∃(a:Addr)(ns:List Int),xs=[.ref a]/\(gB K H a (ns.map V.int)\/gL K H a (ns.map V.int))/\ns≠[]/\∀m∈ns,(∀j∈ns,m<=j)->Q (.int m) H
def GT(K:W.Frag):List V->Hp->VK->Prop:=fun xs H Q=>∃(a:Addr)(ns:List Int),xs=[.ref a]/\(gB K H a (ns.map V.int)\/gL K H a (ns.map V.int))/\ns≠[]/\∀m∈ns,(∀j∈ns,j<=m)->Q (.int m) H
theorem kQ(h:IntsAre its ns){v:Value}(e:its.toArray[i]?=some v):∃t,v=.int (ns.getD i 0) t/\i<ns.length:=by
 have e':its[i]?=some v:=by simpa using e
 obtain⟨n,t,rfl,hn⟩:=h.at i v e';have hi:=(OS.mp hn).1;exact⟨t,by rw[R8,hn];rfl,hi⟩
theorem vY(h:i<ns.length):ns.getD i 0∈ns:=by
 rw[R8,Sk h];exact Sj h
theorem vP{j:Int}(h:j∈ns):∃i,i<ns.length/\ns.getD i 0=j:=by
 obtain⟨i,hi,e⟩:=List.getElem_of_mem h;exact⟨i,hi,by rw[R8,Sk hi];exact e⟩
theorem AU (hc:X.calm=true):cZ X (.builtin "min") (GS X.K):=by
 intro pins s B H xs us Q I r h;obtain⟨a,ns,rfl,ha,hne,q⟩:=h;obtain⟨u,rfl,ru⟩:=eP r;cases ru;have hpos:0<ns.length:=List.length_pos_iff.mpr hne
 have core:∀(its:List Value)(o:Obj),IntsAre its ns->∀v s',its.toArray[argBest (fun i j=>decide (ns.getD i 0<ns.getD j 0)) (its.toArray.size-1)]?=some v->Moved [s.heap.objs.size] (fun a b=>b=a) {s with heap:=s.heap.push o} s'->EP X pins B Q v s':=by
  intro its o hI v s' hv hm;obtain⟨t,rfl,hi⟩:=kQ hI hv;have hsz:its.toArray.size-1=ns.length-1:=by rw[Pq,hI.length]
  rw[hsz]at hi⊢;obtain⟨b1,b2⟩:=argBest_lt (fun i=>ns.getD i 0) (ns.length-1);obtain⟨hh,g,d,tk,os⟩:=s';have e1:g=s.gens:=hm.gens;have e2:d=s.drawn:=hm.drawn;have e3:os=s.os:=hm.os;subst e1 e2 e3;refine⟨.int _,H,I.fresh_it (o:=o) (h':=hh) (tk:=tk) fun b ob hb e=>hm.heap b ob hb e,⟨t,rfl⟩,q _ (vY hi) fun j hj=>?_⟩;obtain⟨i,hi',rfl⟩:=vP hj;exact b2 i (by omega)
 have cmp:∀(its:List Value),IntsAre its ns->CmpOf X.prog X.w X.A.in1 .Lt (fun i v=>its.toArray[i]?=some v) (fun i j=>decide (ns.getD i 0<ns.getD j 0)):=by
  intro its hI i j vi vj s' Q' E' h1 h2 hQ;obtain⟨t1,rfl,_⟩:=kQ hI h1;obtain⟨t2,rfl,_⟩:=kQ hI h2;exact(PyProof.Rows.lt_int hQ:wpAny _ _ (compareOp .Lt _ _) _ _ _)
 rcases ha with ha|ha
 ·obtain ⟨its, rv, pl, hz⟩ := I.list ha;have hI:IntsAre its ns:=iG rv
  have hne:a≠s.heap.objs.size:=by
   obtain⟨o,n,e,_⟩:=pl;exact OF (OC e)
  refine call_min_walkS (RZ pl.isList ?_);refine⟨s.heap.objs.size,[s.heap.objs.size,a],[s.heap.objs.size],_,_,_,_,_,rfl,(Walks.list (A:=X.A.in1) (show X.A.in1.handled=none from I.ok.hd hc) _ a hne its.toArray).toS,⟨⟨_,Pe _ rfl,rfl,rfl⟩,pl.isList.at fun o e=>O8 _ e⟩,fun b hb=>?_,by simp[hI.length,hpos],cmp its hI,fun v s' hv hm=>core its _ hI v s' hv hm⟩;obtain⟨o,n,e,_⟩:=pl;have:=OC e;simp only[OO,Q5,Q6]at hb;show b<(s.heap.push _).objs.size;rw[Sf];rcases hb with rfl|rfl
  ·exact QK _
  ·exact QL this
 ·obtain ⟨its, rv, pl, hz⟩ := I.tuple ha;have hI:IntsAre its ns:=iG rv
  have hne:a≠s.heap.objs.size:=by
   obtain⟨o,e,_⟩:=pl;exact OF (OC e)
  refine call_min_walkS (Q4 (show s.heap.IsTuple a its.toArray from pl) ?_);refine⟨s.heap.objs.size,[s.heap.objs.size,a],[s.heap.objs.size],_,_,_,_,_,rfl,(Walks.tuple (A:=X.A.in1) (show X.A.in1.handled=none from I.ok.hd hc) _ a hne its.toArray).toS,⟨⟨_,Pe _ rfl,rfl,rfl⟩,(show s.heap.IsTuple a its.toArray from pl).at fun o e=>O8 _ e⟩,fun b hb=>?_,by simp[hI.length,hpos],cmp its hI,fun v s' hv hm=>core its _ hI v s' hv hm⟩;obtain⟨o,e,_⟩:=pl;have:=OC e;simp only[OO,Q5,Q6]at hb;show b<(s.heap.push _).objs.size;rw[Sf];rcases hb with rfl|rfl
  ·exact QK _
  ·exact QL this
theorem AW (hc:X.calm=true):cZ X (.builtin "max") (GT X.K):=by
 intro pins s B H xs us Q I r h;obtain⟨a,ns,rfl,ha,hne,q⟩:=h;obtain⟨u,rfl,ru⟩:=eP r;cases ru;have hpos:0<ns.length:=List.length_pos_iff.mpr hne
 have core:∀(its:List Value)(o:Obj),IntsAre its ns->∀v s',its.toArray[argBest (fun i j=>decide (ns.getD i 0>ns.getD j 0)) (its.toArray.size-1)]?=some v->Moved [s.heap.objs.size] (fun a b=>b=a) {s with heap:=s.heap.push o} s'->EP X pins B Q v s':=by
  intro its o hI v s' hv hm;obtain⟨t,rfl,hi⟩:=kQ hI hv;have hsz:its.toArray.size-1=ns.length-1:=by rw[Pq,hI.length]
  rw[hsz]at hi⊢;obtain⟨b1,b2⟩:=argBest_gt (fun i=>ns.getD i 0) (ns.length-1);obtain⟨hh,g,d,tk,os⟩:=s';have e1:g=s.gens:=hm.gens;have e2:d=s.drawn:=hm.drawn;have e3:os=s.os:=hm.os;subst e1 e2 e3;refine⟨.int _,H,I.fresh_it (o:=o) (h':=hh) (tk:=tk) fun b ob hb e=>hm.heap b ob hb e,⟨t,rfl⟩,q _ (vY hi) fun j hj=>?_⟩;obtain⟨i,hi',rfl⟩:=vP hj;exact b2 i (by omega)
 have cmp:∀(its:List Value),IntsAre its ns->CmpOf X.prog X.w X.A.in1 .Gt (fun i v=>its.toArray[i]?=some v) (fun i j=>decide (ns.getD i 0>ns.getD j 0)):=by
  intro its hI i j vi vj s' Q' E' h1 h2 hQ;obtain⟨t1,rfl,_⟩:=kQ hI h1;obtain⟨t2,rfl,_⟩:=kQ hI h2;exact(PyProof.Rows.gt_int hQ:wpAny _ _ (compareOp .Gt _ _) _ _ _)
 rcases ha with ha|ha
 ·obtain ⟨its, rv, pl, hz⟩ := I.list ha;have hI:IntsAre its ns:=iG rv
  have hne:a≠s.heap.objs.size:=by
   obtain⟨o,n,e,_⟩:=pl;exact OF (OC e)
  refine call_max_walkS (RZ pl.isList ?_);refine⟨s.heap.objs.size,[s.heap.objs.size,a],[s.heap.objs.size],_,_,_,_,_,rfl,(Walks.list (A:=X.A.in1) (show X.A.in1.handled=none from I.ok.hd hc) _ a hne its.toArray).toS,⟨⟨_,Pe _ rfl,rfl,rfl⟩,pl.isList.at fun o e=>O8 _ e⟩,fun b hb=>?_,by simp[hI.length,hpos],cmp its hI,fun v s' hv hm=>core its _ hI v s' hv hm⟩;obtain⟨o,n,e,_⟩:=pl;have:=OC e;simp only[OO,Q5,Q6]at hb;show b<(s.heap.push _).objs.size;rw[Sf];rcases hb with rfl|rfl
  ·exact QK _
  ·exact QL this
 ·obtain ⟨its, rv, pl, hz⟩ := I.tuple ha;have hI:IntsAre its ns:=iG rv
  have hne:a≠s.heap.objs.size:=by
   obtain⟨o,e,_⟩:=pl;exact OF (OC e)
  refine call_max_walkS (Q4 (show s.heap.IsTuple a its.toArray from pl) ?_);refine⟨s.heap.objs.size,[s.heap.objs.size,a],[s.heap.objs.size],_,_,_,_,_,rfl,(Walks.tuple (A:=X.A.in1) (show X.A.in1.handled=none from I.ok.hd hc) _ a hne its.toArray).toS,⟨⟨_,Pe _ rfl,rfl,rfl⟩,(show s.heap.IsTuple a its.toArray from pl).at fun o e=>O8 _ e⟩,fun b hb=>?_,by simp[hI.length,hpos],cmp its hI,fun v s' hv hm=>core its _ hI v s' hv hm⟩;obtain⟨o,e,_⟩:=pl;have:=OC e;simp only[OO,Q5,Q6]at hb;show b<(s.heap.push _).objs.size;rw[Sf];rcases hb with rfl|rfl
  ·exact QK _
  ·exact QL this
end
def KZ:List Int->Int
 |[]=>0
 |x::r=>r.foldl min x
def K0:List Int->Int
 |[]=>0
 |x::r=>r.foldl max x
theorem AL(r:List Int):∀x:Int,(r.foldl min x=x\/r.foldl min x∈r)/\r.foldl min x<=x/\∀j∈r,r.foldl min x<=j:=by
 induction r with
 |nil=>intro x;exact⟨.inl rfl,Int.le_refl _,fun j hj=>by simp at hj⟩
 |cons y r ih=>
  intro x;obtain⟨h1,h2,h3⟩:=ih (min x y);rw[QA];have m1:min x y<=x:=Int.min_le_left _ _;have m2:min x y<=y:=Int.min_le_right _ _;refine⟨?_,by omega,fun j hj=>?_⟩
  ·rcases h1 with h | h
   ·rcases (by omega : min x y = x \/ min x y = y) with e | e
    ·exact .inl (by omega)
    ·exact .inr (by rw[h,e];exact OL)
   ·exact .inr (OM _ h)
  ·rcases OO.mp hj with e | e
   ·rw[e];omega
   ·exact h3 j e
theorem AM(r:List Int):∀x:Int,(r.foldl max x=x\/r.foldl max x∈r)/\x<=r.foldl max x/\∀j∈r,j<=r.foldl max x:=by
 induction r with
 |nil=>intro x;exact⟨.inl rfl,Int.le_refl _,fun j hj=>by simp at hj⟩
 |cons y r ih=>
  intro x;obtain⟨h1,h2,h3⟩:=ih (max x y);rw[QA];have m1:x<=max x y:=Int.le_max_left _ _;have m2:y<=max x y:=Int.le_max_right _ _;refine⟨?_,by omega,fun j hj=>?_⟩
  ·rcases h1 with h | h
   ·rcases (by omega : max x y = x \/ max x y = y) with e | e
    ·exact .inl (by omega)
    ·exact .inr (by rw[h,e];exact OL)
   ·exact .inr (OM _ h)
  ·rcases OO.mp hj with e | e
   ·rw[e];omega
   ·exact h3 j e
theorem FY(h:m∈ns)(hm:∀j∈ns,m<=j):m=KZ ns:=by
 cases ns with
 |nil=>simp at h
 |cons x r=>
  obtain⟨h1,h2,h3⟩:=AL r x
  have a1:m<=r.foldl min x:=by
   rcases h1 with e|e
   ·rw[e];exact hm x OL
   ·exact hm _ (OM _ e)
  have a2:r.foldl min x<=m:=by
   rcases OO.mp h with e|e
   ·rw[e];exact h2
   ·exact h3 m e
  exact SL a1 a2
theorem FZ(h:m∈ns)(hm:∀j∈ns,j<=m):m=K0 ns:=by
 cases ns with
 |nil=>simp at h
 |cons x r=>
  obtain⟨h1,h2,h3⟩:=AM r x
  have a1:r.foldl max x<=m:=by
   rcases h1 with e|e
   ·rw[e];exact hm x OL
   ·exact hm _ (OM _ e)
  have a2:m<=r.foldl max x:=by
   rcases OO.mp h with e|e
   ·rw[e];exact h2
   ·exact h3 m e
  exact SL a2 a1
def Ee(d:D)(Y:aA):Option (List Int):=match d with
 |.tup xs=>mI xs
 |.frz xs=>mI xs
 |.obj n=>match Y[n]? with
  |some (.lst xs)=>mI xs
  |_=>none
 |_=>none
theorem y9{d:D}(S:p.S H J Y)(r:p.R H J d v)(h:Ee d Y=some ns):∃a,v=.ref a/\(gB p.K H a (ns.map V.int)\/gL p.K H a (ns.map V.int)):=by
 unfold Ee at h;split at h
 ·obtain⟨a,us,rfl,h1,rr⟩:=aQ.mp r;rw[iA h]at rr;exact⟨a,rfl,.inr (by rw[<- rr.ints];exact h1)⟩
 ·obtain⟨a,us,rfl,h1,rr⟩:=bA.mp r;rw[iA h]at rr;exact⟨a,rfl,.inl (by rw[<- rr.ints];exact h1.sq)⟩
 ·split at h
  ·rename_i xs hx;obtain⟨a,us,rfl,a1,h1,rr⟩:=cI S r hx;rw[iA h]at rr;exact⟨a,rfl,.inl (by rw[<- rr.ints];exact gB.of h1)⟩
  ·cases h
 ·cases h
def zM(ds:List D)(Y:aA):aj D:=match ds with
 |[d]=>match Ee d Y with
  |some (n::ns)=>.ok (.int (KZ (n::ns))) Y
  |_=>.bad
 |ds=>BD ds Y
def uQ(ds:List D)(Y:aA):aj D:=match ds with
 |[d]=>match Ee d Y with
  |some (n::ns)=>.ok (.int (K0 (n::ns))) Y
  |_=>.bad
 |ds=>BE ds Y
theorem Jz:xc p zM (fun xs H Q=>GS p.K xs H Q\/∃i j,xs=[.int i,.int j]/\Q (.int (if j<i then j else i)) H):=by
 intro ds vs H J Y Q S r P;unfold zM at P;split at P
 ·rename_i d;split at P
  ·rename_i n ns hns;obtain⟨v,rfl,r1⟩:=r.one;obtain⟨a,rfl,h1⟩:=y9 S r1 hns;refine .inl ⟨a,n::ns,rfl,h1,by simp,fun m hm hj=>?_⟩;rw[FY hm hj];exact P.now S _ (ar.mpr rfl)
  ·exact P.elim
 ·exact .inr (FL ds vs H J Y Q S r P)
theorem JA:xc p uQ (fun xs H Q=>GT p.K xs H Q\/∃i j,xs=[.int i,.int j]/\Q (.int (if j>i then j else i)) H):=by
 intro ds vs H J Y Q S r P;unfold uQ at P;split at P
 ·rename_i d;split at P
  ·rename_i n ns hns;obtain⟨v,rfl,r1⟩:=r.one;obtain⟨a,rfl,h1⟩:=y9 S r1 hns;refine .inl ⟨a,n::ns,rfl,h1,by simp,fun m hm hj=>?_⟩;rw[FZ hm hj];exact P.now S _ (ar.mpr rfl)
  ·exact P.elim
 ·exact .inr (FM ds vs H J Y Q S r P)
theorem qw:∀{xs:List V}{us:List Value},xs.length=us.length->(∀(i:Nat) x u,xs[i]?=some x->us[i]?=some u->bU x u)->br xs us
 |[],[],_,_=>.nil
 |[],_::_,h,_=>by simp at h
 |_::_,[],h,_=>by simp at h
 |x::xs,u::us,h,k=>.cons (k 0 x u rfl rfl) (qw (by simpa using h) fun i x' u' h1 h2=>k (i+1) x' u' (by simpa using h1) (by simpa using h2))
def kn(o1 o2:D->D->aA->aj D)(fa fb fc:ME):ME:=fun Z Y=>(fa Z Y).bind fun a Y1=>(fb Z Y1).bind fun b Y2=>(o1 a b Y2).bind fun z Y3=>(A4 z Y3).bind fun k Y4=>
 if k=true then (fc Z Y4).bind fun c Y5=>o2 b c Y5 else .ok (.bl false) Y4
section
variable{X:Cx}{a b c d:Expr}{ta tb tc td:TE}{fb fc fd:ME}{op' op'':CmpOp}{r r' r'':R2}{o1 o2 o3:D->D->aA->aj D}
theorem qE(hd1:qU p o1 r)(hd2:qU p o2 r'){Q:VK}(h:tD p (kn o1 o2 fa fb fc) B H Q):xB r r' (tD p fa) (tD p fb) (tD p fc) B H Q:=by
 obtain⟨J,Z,Y,S,R,P⟩:=h;refine⟨J,Z,Y,S,R,(aO.bind P).imp fun x Y1 H1 J1 X1 S1 P1 v rv=>⟨J1,Z,Y1,S1,R.mono X1,(aO.bind P1).imp fun y Y2 H2 J2 X2 S2 P2 u ru=>?_⟩⟩;refine hd1 x y v u H2 J2 Y2 _ S2 (rv.mono X2) ru ((aO.bind P2).imp fun z Y3 H3 J3 X3 S3 P3 w rw'=>?_);obtain⟨k,_,e,q⟩:=l0 (aO.bind P3) rw' S3;refine⟨k,e,?_⟩;cases k with
 |true=>
  rw[OA rfl]at q⊢;exact⟨J3,Z,Y3,S3,((R.mono X1).mono X2).mono X3,(aO.bind q).imp fun c Y5 H5 J5 X5 S5 P5 t rt=>hd2 y c u t H5 J5 Y5 Q S5 ((ru.mono X3).mono X5) rt P5⟩
 |false=>rw[OB Pm]at q⊢;exact q.now S3 _ (aU.mpr rfl)
theorem CY(ho:iy X (compareOp op) r)(ho':iy X (compareOp op') r')(hd1:qU p o1 r)(hd2:qU p o2 r')(ha:PE X a (tD p fa))(hb:PE X b (tD p fb))(hc:PE X c (tD p fc))
  (hm:lastMarks [op,op'] [b,c]=false):PE X (.Compare a [op,op'] [b,c] pos) (tD p (kn o1 o2 fa fb fc)):=(Dd ho ho' ha hb hc hm).weak fun B H Q h=>qE hd1 hd2 h
theorem zU{t:TE}{f:ME}(hk:∀B H Q,tD p f B H Q->t B H Q){Q:Bool->Hp->Prop}(h:iO p (fQ f) B H Q):Bo t B H Q:=by
 obtain⟨J,Z,Y,S,R,P⟩:=h;refine hk B H _ ⟨J,Z,Y,S,R,(aO.bind P).imp fun d Y1 H1 J1 X1 S1 P1 v rv=>?_⟩;obtain⟨k,_,e,q⟩:=l0 P1 rv S1;exact⟨k,e,q⟩
theorem CJ(ho:iy X (compareOp op) r)(ho':iy X (compareOp op') r')(hd1:qU p o1 r)(hd2:qU p o2 r')(ha:PE X a (tD p fa))(hb:PE X b (tD p fb))(hc:PE X c (tD p fc))
  (hm:lastMarks [op,op'] [b,c]=false):PT X (.Compare a [op,op'] [b,c] pos) (iO p (fQ (kn o1 o2 fa fb fc))):=(C4 ho ho' ha hb hc hm).weak fun B H Q h=>zU (fun B H Q h=>qE hd1 hd2 h) h
def A9(d:D)(Y:aA):aj Bool:=match d with
 |.non=>.ok false Y
 |.bl b=>.ok b Y
 |.int i=>.ok (i != 0) Y
 |.str x=>if x.length<=sizeLine then .ok ((x.length:Int) != 0) Y else .bad
 |.tup xs=>.ok (!xs.isEmpty) Y
 |.frz xs=>.ok (!xs.isEmpty) Y
 |.obj n=>match Y[n]? with
  |some (.lst xs)=>.ok (!xs.isEmpty) Y
  |_=>.bad
def j9(f:ME):MT:=fun Z Y=>(f Z Y).bind A9
theorem Reps.isEmpty(r:Reps K H J xs vs):vs.isEmpty=xs.isEmpty:=by
 have:=r.length;cases xs with
 |nil=>have h:vs=[]:=SI (by simpa using this);rw[h];rfl
 |cons x r=>cases vs with
  |nil=>simp at this
  |cons _ _=>rfl
theorem EB{d:D}{R:Bool->aA->Hp->List Addr->Prop}(S:p.S H J Y)(r:p.R H J d v)(P:aO p H J (A9 d Y) R):∃k,Hw p.K v H k/\R k Y H J:=by
 unfold A9 at P;split at P
 ·rw[bK.mp r];exact⟨false,rfl,P.now S⟩
 ·rename_i b;rw[aU.mp r];exact⟨b,rfl,P.now S⟩
 ·rename_i i;rw[ar.mp r];exact⟨_,rfl,P.now S⟩
 ·rename_i x;split at P
  ·rename_i hl;rw[aC.mp r];exact⟨_,⟨hl,rfl⟩,P.now S⟩
  ·exact P.elim
 ·obtain⟨a,vs,rfl,h1,h2⟩:=aQ.mp r;exact⟨_,.inr (.inl ⟨vs,h1,by rw[h2.isEmpty]⟩),P.now S⟩
 ·obtain⟨a,vs,rfl,h1,h2⟩:=bA.mp r;exact⟨_,.inl ⟨vs,h1.sq,by rw[h2.isEmpty]⟩,P.now S⟩
 ·split at P
  ·rename_i xs hx;obtain⟨a,us,rfl,a1,h1,rr⟩:=cI S r hx;exact⟨_,.inl ⟨us,gB.of h1,by rw[rr.isEmpty]⟩,P.now S⟩
  ·exact P.elim
theorem CI{f:ME}(hK:X.K=p.K)(h:PE X e (tD p f))(he:∀whole,isTrue e X.env whole=(do let v <- whole;standAt e.pos;holding [v] (truthy v))):PT X e (iO p (j9 f)):=
 (C3 h he).weak fun B H Q ⟨J, Z, Y, S, R, P⟩ => ⟨J, Z, Y, S, R, (aO.bind P).imp fun d Y1 H1 J1 X1 S1 P1 v rv => by
  rw[hK];exact EB S1 rv P1⟩
def Ln:TE:=fun _ H Q=>∀q,H q=none->Q (.ref q) (b9 H q (.dK []))
theorem Fv:PE X (.Dict [] [] pos) Ln:=fun pins s B H Q I h=>by
 have hb:sysModules<s.heap.objs.size:=Nat.lt_trans (by decide) (I.mod.glob.keeps I.bk).lt;refine wpAny_Dict_empty ⟨.ref s.heap.objs.size,_,I.laid (a:=s.heap.objs.size) (o:=.dK []) (t':=s.toks) (fun _ _ q=>O8 _ q) (Pf _) ?_,rfl,h _ (I.hok.fresh (Pf _))⟩;exact⟨QR _,Ox.mpr (OP (OF hb)),[],.nil,Heap.DictOf.new s.heap⟩
def Bi:ME:=fun _ Y=>.ok (.obj Y.length) (Y++[.dic])
theorem IF:PE X (.Dict [] [] pos) (tD p Bi):=Fv.weak fun B H Q ⟨J,Z,Y,S,R,P⟩ q hq=>by
 have x1:p.X H (b9 H q (.dK [])) J (J++[q]):=(bV hq).trans (jk [q]);exact P _ _ x1 (S.more hq bj) _ (bf.mpr ⟨q,rfl,by rw[<- S.len];simp⟩)
def Gz(p:Pa)(f:D->List D->aA->aj D)(r:V->List V->Hp->VK->Prop):Prop:=∀d ds v vs H J Y Q,p.S H J Y->p.R H J d v->p.Rs H J ds vs->aO p H J (f d ds Y) (RV p Q)->r v vs H Q
def xh(d:D)(Y:aA):Bool:=match d with
 |.obj n=>match Y[n]? with
  |some (.lst _)=>true
  |_=>false
 |_=>false
def yC(f:D->List D->aA->aj D)(fo:ME)(fr:MA):ME:=fun Z Y=>(fo Z Y).bind fun o Y1=>if xh o Y1=true then (fr Z Y1).bind fun ds Y2=>f o ds Y2 else .bad
theorem α1{d:D}(S:p.S H J Y)(r:p.R H J d v)(h:xh d Y=true):Ms p.K "list" v H:=by
 unfold xh at h;split at h
 ·split at h
  ·rename_i xs hx;obtain⟨a,us,rfl,a1,h1,rr⟩:=cI S r hx;exact .inl ⟨rfl,us,gB.of h1⟩
  ·cases h
 ·cases h
theorem yE{o:Expr}{es:List Expr}{fo:ME}{name:Str}{id:String}{f:D->List D->aA->aj D}(hK:X.K=p.K)(slot:Slot "list" name id)(hty:typeOf (.builtin id)=pure (.type "method_descriptor"))(hm:Hl X id rr)(hf:Gz p f rr)(ho:PE X o (tD p fo))(ha:PA X (e::es) (jw p fr))(hbase:attributeBase o name X.env (eval o X.env)=eval o X.env)(hfew : ((backTo cpos (starEach (e :: es) X.env)).all (fun x => !x.1) && (backToKw cpos (keywordEach [] X.env)).all (fun x => x.1.isSome)
   && decide ((e::es).length+([]:List Keyword).length+(if ([]:List Keyword).isEmpty then 0 else 1)<30))=true)(hline:(apos.endLine == cpos.line)=true)(hs:starEach (e::es) X.env=(false,eval e X.env)::starEach es X.env)(hplain:(backTo cpos (starEach es X.env)).any (·.1)=false):
  PE X (.Call (.Attribute o name apos) (e::es) [] cpos) (tD p (yC f fo fr)):=
 (GY PySem.F.plainAttrs_list slot hty hm ho ha hbase hfew hline hs hplain).weak fun B H Q ⟨J, Z, Y, S, R, P⟩ => ⟨J, Z, Y, S, R, (aO.bind P).imp fun d Y1 H1 J1 X1 S1 P1 v rv => by
  by_cases hl:xh d Y1=true
  ·rw[OA hl]at P1;rw[hK];exact⟨α1 S1 rv hl,J1,Z,Y1,S1,R.mono X1,(aO.bind P1).imp fun ds Y2 H2 J2 X2 S2 P2 vs rs=>hf d ds v vs H2 J2 Y2 Q S2 (rv.mono X2) rs P2⟩
  ·rw[OB hl]at P1;exact P1.elim⟩
def dP(d:D)(ds:List D)(Y:aA):aj D:=match d,ds with
 |.obj n,[y]=>match Y[n]? with
  |some (.lst xs)=>if xs.length<sizeLine then .ok .non (Y.set n (.lst (xs++[y]))) else .bad
  |_=>.bad
 |_,_=>.bad
theorem FX:Gz p dP zd:=by
 intro d ds v vs H J Y Q S rd rs P;unfold dP at P;split at P
 ·rename_i n y;split at P
  ·rename_i xs hx;split at P
   ·rename_i hb;obtain⟨a,us,rfl,a1,h1,rr⟩:=cI S rd hx;obtain⟨w,rfl,rw'⟩:=rs.one;have q:=rr.snoc rw';exact⟨a,us,w,rfl,rfl,h1,by rw[rr.length];exact hb,P _ _ (jJ h1) (S.put hx a1 h1 q) _ (bK.mpr rfl)⟩
   ·exact P.elim
  ·exact P.elim
 ·exact P.elim
end
abbrev dj(K:W.Frag)(w:World):Pa:=⟨K,w,fun _ _ _ _=>False⟩
abbrev lR:D->D->aA->aj D:=dI fun i j=>.int (i-j)
noncomputable abbrev u7:D->D->aA->aj D:=Hh En fun i j=>.int (i / j)
noncomputable abbrev uP:D->D->aA->aj D:=Hh (fun _ j=>0<j) fun i j=>.int (i%j)
noncomputable abbrev Hs:D->D->aA->aj D:=Hh HB fun i j=>.int (i^j.toNat)
def tH(N:List Str)(sc scope:Scope)(Nc:List Str)(cap:List (Option Nat)):Bool:=
 (scope.kind == .function)&&scope.names.all (fun y=>scope.names.lookup y.1 == some y.2) &&
 scope.names.all (fun y=>y.2 != .free || sc.names.lookup y.1 == some .cell || sc.names.lookup y.1 == some .free)&&gJ N {scope:=sc,globals:=0,builtins:=0,locals:=0,cells:=[],qual:="",func:=none,code:=.none,frame:=none} scope Nc cap
theorem nP{N:List Str}{e1 e2:Env}{scope:Scope}:∀{Nc:List Str}{cap:List (Option Nat)},gJ N e1 scope Nc cap=gJ N e2 scope Nc cap
 |[],[]=>rfl
 |_::_,[]=>rfl
 |[],_::_=>rfl
 |_::Nc,none::cap=>by unfold gJ;exact nP
 |x::Nc,some j::cap=>by unfold gJ;rw[nP (Nc:=Nc) (cap:=cap) (e1:=e1) (e2:=e2)]
theorem sP{X:Cx}{cap:List (Option Nat)}(hN:X.N=N)(hk:∀x,(sc.names.lookup x=some .cell\/sc.names.lookup x=some .free)->X.env.kindOf x=some .cell\/X.env.kindOf x=some .free)(h:tH N sc scope Nc cap=true):cE X.N X.env scope Nc cap:=by
 unfold tH at h;simp only[Qn]at h;obtain⟨⟨⟨h1,h3⟩,h4⟩,h5⟩:=h;refine⟨eq_of_beq h1,fun y hy=>?_,fun y hy hf=>?_,?_⟩
 ·exact eq_of_beq (RI.mp h3 y hy)
 ·have := RI.mp h4 y hy;simp only[Bool.or_eq_true,hf]at this;refine hk _ ?_;rcases this with (z|z)|z
  ·exact absurd z (by decide)
  ·exact .inl (eq_of_beq z)
  ·exact .inr (eq_of_beq z)
 ·rw[hN,nP];exact h5
theorem dQ{X:Cx}{cap:List (Option Nat)}(hN:X.N=N)(hs:X.env.scope=sc)(h:tH N sc scope Nc cap=true):cE X.N X.env scope Nc cap:=
 sP hN (fun x hx=>by subst hs;exact hx) h
theorem Gk{X:Cx}{cap:List (Option Nat)}(hN:X.N=N)(hs:X.env.scope=relabel sc env)(h:tH N sc scope Nc cap=true):cE X.N X.env scope Nc cap:=
 sP hN (fun x hx=>by
  have e:X.env.kindOf x=(sc.names.lookup x).map fun k=>if (k == NameKind.free&&env.scope.kind == .function&&env.kindOf x == some .cell) then NameKind.cell else k:=by
   have:X.env.kindOf x=(relabel sc env).names.lookup x:=by rw[<- hs];rfl
   rw[this];exact iJ
  rw[e];rcases hx with z|z
  ·rw[z];exact .inl rfl
  ·rw [z];show some (if _ then _ else _)=_\/some (if _ then _ else _)=_;split
   ·exact .inl rfl
   ·exact .inr rfl) h
structure Bx(P:Prop):Prop where
 h:P
section
variable{X:Cx}{a b c d:Expr}{es:List Expr}{fb fc fd f:ME}{ft gt:MT}
theorem aN(i:Nat)(hN:X.N[i]?=some x:=by rfl)(hv:Hi X.env.scope x:=by first|exact Or.inl rfl|exact Or.inr (Or.inl rfl)|exact Or.inr (Or.inr rfl))(hd:(x == ("__debug__" : Str))=false:=by decide)(hcd:(x == ("__classdict__" : Str))=false:=by decide):Bx (PE X (.Name x pos) (tD p (ah i))):=⟨Iz (xC hN hv hd hcd)⟩
theorem bS{i j}:Bx (PE X (.Constant (.int i) j pos) (tD p (cC (.int i)))):=⟨zJ Jh fun _ _=>ar.mpr rfl⟩
theorem DW{i j}:Bx (PE X (.Constant (.bool i) j pos) (tD p (cC (.bl i)))):=⟨zJ LO fun _ _=>aU.mpr rfl⟩
theorem A7{j}:Bx (PE X (.Constant .none j pos) (tD p (cC .non))):=⟨zJ Jf fun _ _=>bK.mpr rfl⟩
theorem dZ{x j}:Bx (PE X (.Constant (.str x) j pos) (tD p (cC (.str x)))):=⟨zJ Jc fun _ _=>aC.mpr rfl⟩
theorem KB{i:Int}(h:∃t,X.mg x=some (.int i t))(hg:Gl X x:=by rfl)(hd:(x == ("__debug__" : Str))=false:=by decide):Bx (PE X (.Name x pos) (tD p (cC (.int i)))):=Bx.mk (by
 obtain⟨t,ht⟩:=h
 exact zJ (tQ (v:=.int i) hg ht ⟨t,rfl⟩ hd) fun _ _=>ar.mpr rfl)
theorem bB(ha:Bx (PE X a (tD p fa)))(hb:Bx (PE X b (tD p fb)))(hK:X.K=p.K:=by rfl):Bx (PE X (.BinOp a .Add b pos) (tD p (av bo fa fb))):=⟨lV (r:=Bu p.K) (hK ▸ FK) JK ha.h hb.h⟩
theorem pR(ha:Bx (PE X a (tD p fa)))(hb:Bx (PE X b (tD p fb))):Bx (PE X (.BinOp a .Sub b pos) (tD p (av lR fa fb))):=⟨lV Jl (ND fun _ _ _ _=>ar.mpr rfl) ha.h hb.h⟩
theorem GD(ha:Bx (PE X a (tD p fa)))(hb:Bx (PE X b (tD p fb))):Bx (PE X (.BinOp a .Mult b pos) (tD p (av xq fa fb))):=⟨lV FF JF ha.h hb.h⟩
theorem BJ(ha:Bx (PE X a (tD p fa)))(hb:Bx (PE X b (tD p fb))):Bx (PE X (.BinOp a .FloorDiv b pos) (tD p (av u7 fa fb))):=⟨lV FG (Bv fun _ _ _ _=>ar.mpr rfl) ha.h hb.h⟩
theorem uW(ha:Bx (PE X a (tD p fa)))(hb:Bx (PE X b (tD p fb))):Bx (PE X (.BinOp a .Mod b pos) (tD p (av uP fa fb))):=⟨lV Jr (Bv fun _ _ _ _=>ar.mpr rfl) ha.h hb.h⟩
theorem La(ha:Bx (PE X a (tD p fa)))(hb:Bx (PE X b (tD p fb))):Bx (PE X (.BinOp a .Pow b pos) (tD p (av Hs fa fb))):=⟨lV Jn (Bv fun _ _ _ _=>ar.mpr rfl) ha.h hb.h⟩
theorem GC(ha:Bx (PE X a (tD p fa))):Bx (PE X (.UnaryOp .USub a pos) (tD p (i7 sY fa))):=⟨Lz HK JL ha.h⟩
structure jZ(X:Cx)(p:Pa)(op:CmpOp)(o:D->D->aA->aj D):Prop where
 ex:∃r,iy X (compareOp op) r/\qU p o r
theorem pN(hu:X.A.units+64<cLine)(hK:X.K=p.K:=by rfl):jZ X p .Eq (mv false):=⟨Bf p.K false,hK ▸ Jv hu,G2⟩
theorem uO(hu:X.A.units+64<cLine)(hK:X.K=p.K:=by rfl):jZ X p .NotEq (mv true):=⟨Bf p.K true,hK ▸ Jo hu,G2⟩
theorem K1(hu:X.A.units+64<cLine)(hK:X.K=p.K:=by rfl):jZ X p .In (uL false):=⟨Be p.K false,hK ▸ Jt hu,G1⟩
theorem LZ(hu:X.A.units+64<cLine)(hK:X.K=p.K:=by rfl):jZ X p .NotIn (uL true):=⟨Be p.K true,hK ▸ Ap hu,G1⟩
theorem yI:jZ X p .Is (sZ false):=⟨_,Js,JH⟩
theorem gI(hu:X.A.units+64<cLine)(ho:rW op=true:=by rfl)(hK:X.K=p.K:=by rfl):jZ X p op (eV op):=⟨Bt p.K op,hK ▸ FH hu ho,JJ⟩
variable{op' op'':CmpOp}{o o' o'':D->D->aA->aj D}
theorem mE(k:jZ X p op o)(ha:Bx (PE X a (tD p fa)))(hb:Bx (PE X b (tD p fb)))(hm:behindInMarks op b=false:=by rfl):Bx (PE X (.Compare a [op] [b] pos) (tD p (av o fa fb))):=Bx.mk (let ⟨_,h1,h2⟩:=k.ex;IG h1 h2 ha.h hb.h hm)
theorem bM(k:jZ X p op o)(ha:Bx (PE X a (tD p fa)))(hb:Bx (PE X b (tD p fb)))(hm:behindInMarks op b=false:=by rfl):Bx (PT X (.Compare a [op] [b] pos) (iO p (fQ (av o fa fb)))):=Bx.mk (let ⟨_,h1,h2⟩:=k.ex;HZ h1 h2 ha.h hb.h hm)
theorem Le(k:jZ X p op o)(k':jZ X p op' o')(ha:Bx (PE X a (tD p fa)))(hb:Bx (PE X b (tD p fb)))(hc:Bx (PE X c (tD p fc)))(hm:lastMarks [op,op'] [b,c]=false:=by rfl):Bx (PE X (.Compare a [op,op'] [b,c] pos) (tD p (kn o o' fa fb fc))):=Bx.mk (let ⟨_,h1,h2⟩:=k.ex;let ⟨_,h3,h4⟩:=k'.ex;CY h1 h3 h2 h4 ha.h hb.h hc.h hm)
theorem Lg(k:jZ X p op o)(k':jZ X p op' o')(ha:Bx (PE X a (tD p fa)))(hb:Bx (PE X b (tD p fb)))(hc:Bx (PE X c (tD p fc)))(hm:lastMarks [op,op'] [b,c]=false:=by rfl):Bx (PT X (.Compare a [op,op'] [b,c] pos) (iO p (fQ (kn o o' fa fb fc)))):=Bx.mk (let ⟨_,h1,h2⟩:=k.ex;let ⟨_,h3,h4⟩:=k'.ex;CJ h1 h3 h2 h4 ha.h hb.h hc.h hm)
theorem zF(h:Bx (PE X e (tD p f)))(he:∀whole,isTrue e X.env whole=(do let v <- whole;standAt e.pos;holding [v] (truthy v)):=by intro _;rfl)(hK:X.K=p.K:=by rfl):Bx (PT X e (iO p (j9 f))):=⟨CI hK h.h he⟩
theorem GJ(ha:Bx (PT X a (iO p ft)))(hb:Bx (PW X (.BoolOp .And (b::rest) pos) (iO p gt))):Bx (PW X (.BoolOp .And (a::b::rest) pos) (iO p (vb ft gt))):=⟨HS ha.h hb.h⟩
theorem i9(ha:Bx (PT X a (iO p ft)))(hb:Bx (PW X (.BoolOp .Or (b::rest) pos) (iO p gt))):Bx (PW X (.BoolOp .Or (a::b::rest) pos) (iO p (fW ft gt))):=⟨Lp ha.h hb.h⟩
theorem BP(ha:Bx (PT X a (iO p ft))):Bx (PW X (.BoolOp .And [a] pos) (iO p ft)):=⟨Fe ha.h⟩
theorem jR(ha:Bx (PT X a (iO p ft))):Bx (PW X (.BoolOp .Or [a] pos) (iO p ft)):=⟨IP ha.h⟩
theorem lD{op}(ha:Bx (PE X a (tD p fa))):Bx (PE X (.BoolOp op [a] pos) (tD p fa)):=⟨Jd ha.h⟩
def Ca:Expr->Bool
 |.Starred _ _=>false
 |_=>true
theorem zX{a:Expr}{es:List Expr}(h:Ca a=true):starEach (a::es) env=(false,eval a env)::starEach es env:=by
 cases a <;> first|rfl|cases h
theorem aT(ha:Bx (PE X a (tD p fa)))(hr:Bx (PA X es (jw p fr)))(hs:Ca a=true:=by rfl):Bx (PA X (a::es) (jw p (af fa fr))):=⟨tO ha.h hr.h (zX hs)⟩
theorem bu  : Bx (PA X [] (jw p aD)):=⟨BZ⟩
theorem bc(h:dy X.prog X.w X.K X.mg X.base p k x n F)(hr:dG k X.A)(ha:Bx (PA X (a::es) (jw p fr)))(hg:Gl X x:=by rfl)(hdb:(x == ("__debug__" : Str))=false:=by decide)(he:starEach (a::es) X.env=(false,eval a X.env)::starEach es X.env:=by rfl)(hpl:(backTo pos (starEach es X.env)).any (·.1)=false:=by rfl):Bx (PE X (.Call (.Name x px) (a::es) [] pos) (tD p (aI F fr))):=⟨E6 h hr hg ha.h hdb he hpl⟩
structure mD(X:Cx)(p:Pa)(x:Str)(F:List D->aA->aj D):Prop where
 ex:∃(u:Value) (r:List V->Hp->VK->Prop),((∃id,u=.builtin id)\/∃T,u=.type T)/\bootBuiltins x=some u/\cZ X u r/\xc p F r/\x ≠ "__name__" /\ (x == ("__debug__" : Str))=false
theorem bF(k:mD X p x F)(hm:X.mg x=none)(ha:Bx (PA X (a::es) (jw p fr)))(hg:Gl X x:=by rfl)(he:starEach (a::es) X.env=(false,eval a X.env)::starEach es X.env:=by rfl)(hpl:(backTo pos (starEach es X.env)).any (·.1)=false:=by rfl):Bx (PE X (.Call (.Name x px) (a::es) [] pos) (tD p (aI F fr))):=Bx.mk (by
 obtain⟨u,r,hu,h1,h2,h3,h4,h5⟩:=k.ex;rcases hu with⟨id,rfl⟩|⟨T,rfl⟩
 ·exact CZ h2 h3 hg hm h1 ha.h h4 h5 he hpl
 ·exact Ad h2 h3 hg hm h1 ha.h h4 h5 he hpl)
theorem eR (hK:X.K=p.K:=by rfl) (hw:X.w=p.w:=by rfl):mD X p "len" d3:=⟨_,_,.inl ⟨_,rfl⟩,PySem.boot_len,DN,by rw[hK];exact JB,by decide,by decide⟩
theorem p0 (hc:X.calm=true:=by rfl) (hK:X.K=p.K:=by rfl):mD X p "all" oH:=⟨_,_,.inl ⟨_,rfl⟩,by decide +kernel,AZ hc,hK ▸ JD,by decide,by decide⟩
theorem tZ (hK:X.K=p.K:=by rfl):mD X p "tuple" km:=⟨_,_,.inr ⟨_,rfl⟩,by decide +kernel,rK,hK ▸ Dk,by decide,by decide⟩
theorem Km (hK:X.K=p.K:=by rfl):mD X p "list" u4:=⟨_,_,.inr ⟨_,rfl⟩,by decide +kernel,uD,hK ▸ FN,by decide,by decide⟩
theorem Mn:mD X p "int" u6:=⟨_,_,.inr ⟨_,rfl⟩,by decide +kernel,AY,JC,by decide,by decide⟩
theorem Mm (hc:X.calm=true:=by rfl) (hK:X.K=p.K:=by rfl):mD X p "min" zM:=⟨_,_,.inl ⟨_,rfl⟩,by decide +kernel,(AU hc).or (AS hc),hK ▸ Jz,by decide,by decide⟩
theorem G9 (hc:X.calm=true:=by rfl) (hK:X.K=p.K:=by rfl):mD X p "max" uQ:=⟨_,_,.inl ⟨_,rfl⟩,by decide +kernel,(AW hc).or (AV hc),hK ▸ JA,by decide,by decide⟩
theorem Ml (hu:X.A.units+64<cLine) (hc:X.calm=true:=by rfl) (hK:X.K=p.K:=by rfl) (hw:X.w=p.w:=by rfl):mD X p "set" xp:=⟨_,_,.inr ⟨_,rfl⟩,by decide +kernel,AR hc hu,by rw[hK,hw];exact Jy,by decide,by decide⟩
theorem DR (hc:X.calm=true:=by rfl) (hK:X.K=p.K:=by rfl) (hw:X.w=p.w:=by rfl):mD X p "sorted" kU:=⟨_,_,.inl ⟨_,rfl⟩,by decide +kernel,yt.or (yr hc),by rw[hK,hw];exact Ar,by decide,by decide⟩
theorem kc{xT:Str}{pt:Pos}(hT:T∈["int", "bool", "tuple", "list", "str", "dict"])(hbT:bootBuiltins xT=some (.type T))(hnT:xT ≠ "__name__")(hdT:(xT == ("__debug__" : Str))=false)(hm:X.mg "isinstance" = none)(hmT:X.mg xT=none)(ha:Bx (PE X a (tD p fa)))(hg:Gl X "isinstance" := by rfl)(hgT:Gl X xT:=by rfl)(hs1:starEach [a,.Name xT pt] X.env=(false,eval a X.env)::starEach [.Name xT pt] X.env:=by rfl)(hK:X.K=p.K:=by rfl):Bx (PE X (.Call (.Name "isinstance" px) [a,.Name xT pt] [] pos) (tD p (i7 (fV T) fa))):=⟨IE hK hT hg hm hgT hmT hbT ha.h hnT hdT hs1⟩
theorem xH:bootBuiltins "int" = some (.type "int"):=by decide +kernel
theorem zE:bootBuiltins "bool" = some (.type "bool"):=by decide +kernel
theorem jo:bootBuiltins "tuple" = some (.type "tuple"):=by decide +kernel
theorem Cw:bootBuiltins "str" = some (.type "str"):=by decide +kernel
theorem cb(ha:Bx (PE X a (tD p fa)))(hb:Bx (PE X b (tD p fb)))(hs:pH b:=by exact fun _ _=>rfl)(hK:X.K=p.K:=by rfl):Bx (PE X (.Subscript a b pos) (tD p (av cx fa fb))):=⟨LB hK ha.h hb.h hs⟩
theorem my{lo hi:Option Expr}{fh:MO}(he:Bx (PE X e (tD p fa)))(hl:Bx (PO X lo (DZ p fl)))(hu:Bx (PO X hi (DZ p fh)))(hK:X.K=p.K:=by rfl):Bx (PE X (.Subscript e (.Slice lo hi none p2) pos) (tD p (qW fa fl fh))):=⟨CW hK he.h hl.h hu.h⟩
theorem Bk{fo:ME}(ho:Bx (PE X ob (tD p fo)))(ha:Bx (PA X [e] (jw p fr)))(hbase:attributeBase ob "append" X.env (eval ob X.env)=eval ob X.env:=by rfl)(hfew:((backTo pos (starEach [e] X.env)).all (fun x=>!x.1)&&(backToKw pos (keywordEach [] X.env)).all (fun x=>x.1.isSome)
   && decide ([e].length+([]:List Keyword).length+(if ([]:List Keyword).isEmpty then 0 else 1)<30))=true:=by rfl)(hline:(apos.endLine == pos.line)=true:=by rfl)(hs:starEach [e] X.env=(false,eval e X.env)::starEach [] X.env:=by rfl)(hpl:(backTo pos (starEach [] X.env)).any (·.1)=false:=by rfl)(hK:X.K=p.K:=by rfl):Bx (PE X (.Call (.Attribute ob "append" apos) [e] [] pos) (tD p (yC dP fo fr))):=⟨yE hK PySem.F.slot_list_append PySem.F.type_list_append sr FX ho.h ha.h hbase hfew hline hs hpl⟩
variable{elt:Expr}{g:MG}{u:Ea}
theorem xi(hl:Bx (PE X e (tD p f)))(hK:X.K=p.K:=by rfl):Bx (PI X tg e (xa p (jX f))):=⟨Iv hK hl.h⟩
theorem Eg(hm:X.mg "range" = none)(ha:Bx (PA X [a] (jw p fr)))(hg:Gl X "range" := by rfl)(hs:starEach [a] X.env=[(false,eval a X.env)]:=by rfl):Bx (PI X tg (.Call (.Name "range" px) [a] [] pos) (xa p (lQ qZ fr))):=⟨Ac hg hm ha.h hs⟩
theorem K3(hm:X.mg "range" = none)(ha:Bx (PA X [a,b] (jw p fr)))(hg:Gl X "range" := by rfl)(hs:starEach [a,b] X.env=[(false,eval a X.env),(false,eval b X.env)]:=by rfl)(hs2:starEach [b] X.env=[(false,eval b X.env)]:=by rfl):Bx (PI X tg (.Call (.Name "range" px) [a,b] [] pos) (xa p (lQ xm fr))):=⟨Ab hg hm ha.h hs hs2⟩
theorem NN{tpos:Pos}(hm:X.mg "enumerate" = none)(ha:Bx (PA X [a] (jw p fr)))(hg:Gl X "enumerate" := by rfl)(hs:starEach [a] X.env=[(false,eval a X.env)]:=by rfl)(hK:X.K=p.K:=by rfl):Bx (PI X (.Tuple elts k1 tpos) (.Call (.Name "enumerate" px) [a] [] pos) (xa p (lQ pW fr))):=⟨EW hK hg hm ha.h hs⟩
theorem mr(i:Nat)(hN:X.N.Nodup)(hi:X.N[i]?=some x:=by rfl)(hx:D6 X.env.scope x:=by first|exact Or.inl rfl|exact Or.inr rfl)(hf:X.fn x=true\/X.env.scope.names.lookup x=some .local:=by first|exact .inl rfl|exact .inr rfl):Bx (PG X (.Name x pos) (sW p (aq i))):=⟨E1 hN hi hx hf⟩
theorem rY  : Bx (xj X [] (uM p fZ)):=⟨EX⟩
theorem hZ(h1:Bx (PG X e (sW p g)))(h2:Bx (xj X es (uM p u)))(hs:(assignEach (e::es) X.env).map (·.2)=assign e X.env::(assignEach es X.env).map (·.2):=by rfl):Bx (xj X (e::es) (uM p (bH g u))):=⟨CQ h1.h h2.h hs⟩
theorem rX(h:Bx (xj X es (uM p u)))(hc:X.calm=true:=by rfl)(hn:(assignEach es X.env).length=n:=by rfl)(hst:(assignEach es X.env).findIdx? (·.1)=none:=by rfl)(hK:X.K=p.K:=by rfl):Bx (PG X (.Tuple es k pos) (sW p (fY n u))):=⟨Iw hK hc h.h hn hst⟩
theorem yK{fo fi:ME}(ho:Bx (PE X a (tD p fo)))(hi:Bx (PE X b (tD p fi)))(ha:∀v,assign (.Subscript a b pos) X.env v=(do
   let ov <- holding [v] (eval a X.env)
   let iv <- holding [v,ov] (eval b X.env)
   standAt pos
   holding [v,ov,iv] (setItem ov iv v)
   release [v,ov,iv] []):=by intro _;rfl):Bx (PG X (.Subscript a b pos) (sW p (pU fo fi))):=⟨Iy ho.h hi.h ha⟩
variable{ifs:List Expr}{cap:List (Option Nat)}{tt:MT}{te:ME}
theorem f7(S:cE X.N X.env scope Nc cap)(hi:Bx (PI X tg iter (xa p fi)))(hg:∀cl C s H fp,Bx (PG (j5 X Nc scope cl C s H fp) tg (sW p.nx g)))(ht:∀cl C s H fp,Bx (xb (j5 X Nc scope cl C s H fp) ifs (iO p.nx tt)))(he:∀cl C s H fp,Bx (PE (j5 X Nc scope cl C s H fp) elt (tD p.nx te)))(hc:X.calm=true:=by rfl)(hs:∀x,foldedSetIterable iter X.env x=pure x:=by intro _;rfl):Bx (PE X (.ListComp elt [⟨tg,iter,ifs,0⟩] scope pos) (tD p (fe fi cap g tt te))):=⟨E5 hc S hi.h (fun cl C s H fp=>(hg cl C s H fp).h) (fun cl C s H fp=>(ht cl C s H fp).h) (fun cl C s H fp=>(he cl C s H fp).h) hs⟩
variable{mb:MB}{cl0:Comprehension}{rest:List Comprehension}{d:Nat}{acc:Addr}
variable{fs gs:MS}{sts A σ:List Stmt}
theorem bG(i:Nat)(hN:X.N.Nodup)(he:Bx (PE X e (tD p f)))(hi:X.N[i]?=some x:=by rfl)(hx:D6 X.env.scope x:=by first|exact Or.inl rfl|exact Or.inr rfl)(hs:swapsWith e (some (.Name x pos')) pos.line X.env=pure false:=by rfl)(hf:X.fn x=true\/X.env.scope.names.lookup x=some .local:=by first|exact .inl rfl|exact .inr rfl):Bx (PS X (.Assign [.Name x pos'] e pos) (iw p (bR f (aq i)))):=⟨Ib hN hi hx he.h hs hf⟩
theorem II(i:Nat)(hN:X.N.Nodup)(S:cE X.N X.env scope Nc cap)(hi:Bx (PI X tg iter (xa p fi)))(hg:∀cl C s H fp,Bx (PG (j5 X Nc scope cl C s H fp) tg (sW p.nx g)))(ht:∀cl C s H fp,Bx (xb (j5 X Nc scope cl C s H fp) ifs (iO p.nx tt)))(he:∀cl C s H fp,Bx (PE (j5 X Nc scope cl C s H fp) elt (tD p.nx te)))(hix:X.N[i]?=some x:=by rfl)(hx:X.env.scope.names.lookup x=some .local:=by rfl)(hc:X.calm=true:=by rfl)(hsw:swapsWith (.ListComp elt [⟨tg,iter,ifs,0⟩] scope pos) (some (.Name x pos1)) pos2.line X.env=pure true:=by rfl)(hs:∀x,foldedSetIterable iter X.env x=pure x:=by intro _;rfl):Bx (PS X (.Assign [.Name x pos1] (.ListComp elt [⟨tg,iter,ifs,0⟩] scope pos) pos2) (iw p (bR (fe fi cap g tt te) (aq i)))):=⟨EI hc hN hix hx S hi.h (fun cl C s H fp=>(hg cl C s H fp).h) (fun cl C s H fp=>(ht cl C s H fp).h) (fun cl C s H fp=>(he cl C s H fp).h) hsw hs⟩
theorem yF(he:Bx (PE X e (tD p f)))(hg:Bx (PG X tg (sW p g)))(hs:swapsWithSole [tg] e pos.line X.env=pure false:=by rfl)(hw:swappedStores [tg] e X.env=pure none:=by rfl)(h1:(assignEach [tg] X.env).map (·.2)=[assign tg X.env]:=by rfl):Bx (PS X (.Assign [tg] e pos) (iw p (bR f g))):=⟨Ii he.h hg.h hs hw h1⟩
theorem p9(he:Bx (PE X e (tD p f)))(hs:swapsWith e none pos.line X.env=pure false:=by rfl):Bx (PS X (.Expr e pos) (iw p (mG f))):=⟨EJ he.h hs⟩
theorem mF(hp:PassesOwn (model X.prog X.w) X.A X.env X.xe)(hi:Bx (PI X tg iter (xa p fi)))(hg:Bx (PG X tg (sW p g)))(hb:Bx (jy X body (iw p fs)))(hc:X.calm=true:=by rfl)(hs:∀x,foldedSetIterable iter X.env x=pure x:=by intro _;rfl):Bx (PS X (.For tg iter body [] pos) (iw p (nt fi g fs))):=⟨Ih hp hc hi.h hg.h hb.h hs⟩
end
section
variable{X:Cx}{a b c:Expr}{es:List Expr}{fb f:ME}{ft gt:MT}{fs gs:MS}{sts A σ:List Stmt}
theorem GB(ha:Bx (PE X a (tD p fa))):Bx (PE X (.UnaryOp .Not a pos) (tD p (va fa))):=⟨IC ha.h⟩
theorem kb(ha:Bx (PE X a (tD p fa)))(hb:Bx (PE X (.BoolOp .And (b::rest) pos) (tD p fb))):Bx (PE X (.BoolOp .And (a::b::rest) pos) (tD p (iT fa fb))):=⟨IH ha.h hb.h⟩
theorem Nh(ha:Bx (PE X a (tD p fa)))(hb:Bx (PE X (.BoolOp .Or (b::rest) pos) (tD p fb))):Bx (PE X (.BoolOp .Or (a::b::rest) pos) (tD p (Ei fa fb))):=⟨LA ha.h hb.h⟩
theorem Ni(hc:Bx (PT X c (iO p ft)))(ha:Bx (PE X a (tD p fa)))(hb:Bx (PE X b (tD p fb))):Bx (PE X (.IfExp c a b pos) (tD p (Mx ft fa fb))):=⟨LC hc.h ha.h hb.h⟩
theorem iQ(h:Bx (PA X es (jw p fr))):Bx (PE X (.Tuple es k pos) (tD p (je fr))):=⟨IA h.h⟩
theorem fM(h:Bx (PA X es (jw p fr))):Bx (PE X (.List es pos) (tD p (fT fr))):=⟨ID h.h⟩
theorem K8:Bx (PE X (.Dict [] [] pos) (tD p Bi)):=⟨IF⟩
theorem cz:Bx (PO X none (DZ p j4)):=⟨ET⟩
theorem ck(h:Bx (PE X e (tD p f))):Bx (PO X (some e) (DZ p (bZ f))):=⟨ES h.h⟩
theorem jf(ha:Bx (PT X a (iO p ft))):Bx (PT X (.UnaryOp .Not a pos) (iO p (gX ft))):=⟨HX ha.h⟩
theorem mx(h:Bx (PW X e (iO p ft))):Bx (PT X e (iO p ft)):=⟨h.h.pt⟩
theorem lC:Bx (xb X [] (iO p cQ)):=⟨EH⟩
theorem uV(h:Bx (PT X c (iO p ft))):Bx (xb X [c] (iO p ft)):=⟨EG h.h⟩
theorem cP:Bx (jy X [] (iw p cf)):=⟨Ig⟩
theorem aM(h1:Bx (PS X st (iw p fs)))(h2:Bx (jy X sts (iw p gs))):Bx (jy X (st::sts) (iw p (bh fs gs))):=⟨EK h1.h h2.h⟩
theorem ba(h1:Bx (PS X st (iw p fs))):Bx (jy X [st] (iw p fs)):=⟨Ie h1.h⟩
theorem bq(h:Bx (PE X e (tD p f))):Bx (PS X (.Return (some e) pos) (iw p (bL f))):=⟨Ic h.h⟩
theorem fR(hc:Bx (PT X c (iO p ft)))(ha:Bx (jy X A (iw p fs)))(hb:Bx (jy X σ (iw p gs))):Bx (PS X (.If c A σ pos) (iw p (j3 ft fs gs))):=⟨Lq hc.h ha.h hb.h⟩
end
theorem cH{ps:List Str}(F:gF K x qual st f fd)(S:aW N ps (au st))(hn:ps.length=n)(hm:mg x=some (.ref f))(hb:eS K fd ps [])(body : ∀ (cdv : Value) (A : Around) (outer : List Env) (s : Shared) (H : Hp) (E : XK), dG k (A.deeper (envOfC qual (au st) s.heap.objs.size f cdv)) ->
   Bx (jy (pO xk P w K mg base N qual (au st) f cdv A outer s H E).nox (bT st) (iw p fb))):dy P w K mg base p (k+1) x n (hU n N.length fb):=
 Kk F S hn hm hb fun cdv A outer s H E hr=>(body cdv A outer s H E hr).h
end L2
namespace L2
open PySem RS
section
variable{fb fc fd f:ME}{ft gt:MT}{op o1 o2 o3:D->D->aA->aj D}{fs gs:MS}{g:MG}
@[simp] theorem ai {d:D}{r:Ro}:ah 0 (some d::r) Y=.ok d Y:=Sw (Sx _)
@[simp] theorem ak{x:Option D}{r:Ro}:ah (i+1) (x::r) Y=ah i r Y:=Sw (Sx _)
@[simp] theorem bb {d:D}:cC d Z Y=.ok d Y:=Sw (Sx _)
@[simp] theorem aK:av op fa fb Z Y=(fa Z Y).bind fun a Y1=>(fb Z Y1).bind fun b Y2=>op a b Y2:=Sw (Sx _)
@[simp] theorem gU {o:D->aA->aj D}:i7 o fa Z Y=(fa Z Y).bind fun a Y1=>o a Y1:=Sw (Sx _)
@[simp] theorem az:aD Z Y=.ok [] Y:=Sw (Sx _)
@[simp] theorem ao:af fa fr Z Y=(fa Z Y).bind fun a Y1=>(fr Z Y1).bind fun r Y2=>.ok (a::r) Y2:=Sw (Sx _)
@[simp] theorem aE:aI F fr Z Y=(fr Z Y).bind F:=Sw (Sx _)
@[simp] theorem f9:je fr Z Y=(fr Z Y).bind fun ds Y=>if ds.length<=sizeLine then .ok (.tup ds) Y else .bad:=Sw (Sx _)
@[simp] theorem dH:fT fr Z Y=(fr Z Y).bind fun ds Y=>if ds.length<=sizeLine then .ok (.obj Y.length) (Y++[.lst ds]) else .bad:=Sw (Sx _)
@[simp] theorem a8 {b:Bool}:A4 (.bl b) Y=.ok b Y:=Sw (Sx _)
@[simp] theorem b8:fQ f Z Y=(f Z Y).bind A4:=Sw (Sx _)
@[simp] theorem tX:vb ft gt Z Y=(ft Z Y).bind fun b Y1=>if b=true then gt Z Y1 else .ok false Y1:=Sw (Sx _)
@[simp] theorem gf:fW ft gt Z Y=(ft Z Y).bind fun b Y1=>if b=true then .ok true Y1 else gt Z Y1:=Sw (Sx _)
@[simp] theorem fA:gX ft Z Y=(ft Z Y).bind fun b Y1=>.ok (!b) Y1:=Sw (Sx _)
@[simp] theorem zx:iT fa fb Z Y=(fa Z Y).bind fun a Y1=>(A4 a Y1).bind fun b Y2=>if b=true then fb Z Y2 else .ok (.bl false) Y2:=Sw (Sx _)
@[simp] theorem Kc:Ei fa fb Z Y=(fa Z Y).bind fun a Y1=>(A4 a Y1).bind fun b Y2=>if b=true then .ok (.bl true) Y2 else fb Z Y2:=Sw (Sx _)
@[simp] theorem MV:va f Z Y=(f Z Y).bind fun a Y1=>(A4 a Y1).bind fun b Y2=>.ok (.bl (!b)) Y2:=Sw (Sx _)
@[simp] theorem Mh:Mx ft fa fb Z Y=(ft Z Y).bind fun b Y1=>if b=true then fa Z Y1 else fb Z Y1:=Sw (Sx _)
@[simp] theorem DH:kn o1 o2 fa fb fc Z Y=(fa Z Y).bind fun a Y1=>(fb Z Y1).bind fun b Y2=>(o1 a b Y2).bind fun z Y3=>(A4 z Y3).bind fun k Y4=>
 if k=true then (fc Z Y4).bind fun c Y5=>o2 b c Y5 else .ok (.bl false) Y4:=Sw (Sx _)
@[simp] theorem gb:j9 f Z Y=(f Z Y).bind A9:=Sw (Sx _)
@[simp] theorem cN {b:Bool}:A9 (.bl b) Y=.ok b Y:=Sw (Sx _)
@[simp] theorem lF{fh:MO}:qW fa fl fh Z Y=(fa Z Y).bind fun a Y1=>(fl Z Y1).bind fun lo Y2=>(fh Z Y2).bind fun hi Y3=>rO a lo hi Y3:=Sw (Sx _)
@[simp] theorem h7:j4 Z Y=.ok none Y:=Sw (Sx _)
@[simp] theorem dc:bZ f Z Y=(f Z Y).bind My:=Sw (Sx _)
@[simp] theorem gh {i:Int}:My (.int i) Y=.ok (some i) Y:=Sw (Sx _)
@[simp] theorem Ke:Bi Z Y=.ok (.obj Y.length) (Y++[.dic]):=Sw (Sx _)
@[simp] theorem pV {F:D->List D->aA->aj D}{fo:ME}:yC F fo fr Z Y=(fo Z Y).bind fun o Y1=>if xh o Y1=true then (fr Z Y1).bind fun ds Y2=>F o ds Y2 else .bad:=Sw (Sx _)
@[simp] theorem aY:bL f Z Y=(f Z Y).bindS fun d Y'=>.ret d Y':=Sw (Sx _)
@[simp] theorem bw:cf Z Y=.next Z Y:=Sw (Sx _)
@[simp] theorem aJ:bh fs gs Z Y=(fs Z Y).bind gs:=Sw (Sx _)
@[simp] theorem bE:j3 ft fs gs Z Y=(ft Z Y).bindS fun b Y1=>if b=true then fs Z Y1 else gs Z Y1:=Sw (Sx _)
@[simp] theorem aZ:bR f g Z Y=(f Z Y).bindS fun d Y1=>(g d Z Y1).bindS fun Z' Y2=>.next Z' Y2:=Sw (Sx _)
@[simp] theorem mM:mG f Z Y=(f Z Y).bindS fun _ Y1=>.next Z Y1:=Sw (Sx _)
@[simp] theorem aw {g:MS}:(SO.next Z Y).bind g=g Z Y:=Sw (Sx _)
@[simp] theorem bN {d:D}{g:MS}:(SO.ret d Y).bind g=.ret d Y:=Sw (Sx _)
@[simp] theorem aR {d:D}:(SO.ret d Y).out=.ok d Y:=Sw (Sx _)
@[simp] theorem bx{d:D}:aq i d Z Y=.ok (Z.set i (some d)) Y:=Sw (Sx _)
@[simp] theorem pE {fo fi:ME}{d:D}:pU fo fi d Z Y=(fo Z Y).bind fun o Y1=>(fi Z Y1).bind fun i Y2=>(uN o i d Y2).bind fun _ Y3=>.ok Z Y3:=Sw (Sx _)
@[simp] theorem Ge{u:Ea}:fY n u (.tup xs) Z Y=if xs.length=n then u xs Z Y else .bad:=Sw (Sx _)
@[simp] theorem Gf:fZ [] Z Y=.ok Z Y:=Sw (Sx _)
@[simp] theorem v9 {u:Ea}{d:D}{r:List D}:bH g u (d::r) Z Y=(g d Z Y).bind fun Z' Y'=>u r Z' Y':=Sw (Sx _)
@[simp] theorem jE:nt fi g fs Z Y=(fi Z Y).bindS fun src Y1=>fU src g fs src.items Z Y1:=Sw (Sx _)
@[simp] theorem eE:jX f Z Y=(f Z Y).bind xl:=Sw (Sx _)
@[simp] theorem jL {F:List D->aA->aj oF}:lQ F fr Z Y=(fr Z Y).bind F:=Sw (Sx _)
@[simp] theorem mL:xl (.tup xs) Y=.ok (.fix xs) Y:=Sw (Sx _)
@[simp] theorem eF{cap:List (Option Nat)}:fe fi cap g ft f Z Y=(fi Z Y).bind fun src Y1=>compLoop src Y1.length g ft f src.items (jY cap Z) (Y1++[.lst []]):=Sw (Sx _)
@[simp] theorem cq:(oF.fix xs).items=xs:=Sw (Sx _)
@[simp] theorem fO:(oF.own n xs).items=xs:=Sw (Sx _)
@[simp] theorem kY:jY [] Z=[]:=Sw (Sx _)
@[simp] theorem jl {r:List (Option Nat)}:jY (none::r) Z=none::jY r Z:=Sw (Sx _)
@[simp] theorem Mr{r:List (Option Nat)}:jY (some j::r) Z=(Z[j]?).join::jY r Z:=Sw (Sx _)
theorem dN{N:Nat}{a:D}:hU 1 N fs [a] Y=oX Y (fs (some a::List.replicate (N-1) none) Y).out:=OA rfl
theorem dJ{N:Nat}{a b:D}:hU 2 N fs [a,b] Y=oX Y (fs (some a::some b::List.replicate (N-2) none) Y).out:=OA rfl
theorem Cr{N:Nat}{a b c:D}:hU 3 N fs [a,b,c] Y=oX Y (fs (some a::some b::some c::List.replicate (N-3) none) Y).out:=OA rfl
@[simp] theorem cW {op:CmpOp}{i j:Int}:eV op (.int i) (.int j) Y=.ok (.bl (cj op i j)) Y:=Sw (Sx _)
@[simp] theorem cS {i j:Int}:bo (.int i) (.int j) Y=.ok (.int (i+j)) Y:=Sw (Sx _)
@[simp] theorem G6{i j:Int}:dI gg (.int i) (.int j) Y=.ok (gg i j) Y:=Sw (Sx _)
@[simp] theorem qe{C:Int->Int->Prop}{i j:Int}(h:C i j):Hh C gg (.int i) (.int j) Y=.ok (gg i j) Y:=by unfold Hh;simp[h]
@[simp] theorem MW {i j:Int} (h:uU i j):xq (.int i) (.int j) Y=.ok (.int (i*j)) Y:=by unfold xq;simp[h]
@[simp] theorem Cq {i:Int}:sY (.int i) Y=.ok (.int (-i)) Y:=Sw (Sx _)
@[simp] theorem d5{i j:Int}:mv neg (.int i) (.int j) Y=.ok (.bl (if neg then !(i == j) else i == j)) Y:=Sw (Sx _)
@[simp] theorem nz{a:D}:sZ neg a .non Y=.ok (.bl (if neg then !a.isNon else a.isNon)) Y:=Sw (Sx _)
@[simp] theorem pC:d3 [.tup xs] Y=.ok (.int xs.length) Y:=Sw (Sx _)
@[simp] theorem zw:d3 [.frz xs] Y=.ok (.int xs.length) Y:=Sw (Sx _)
theorem gk(h:Y[n]?=some (.lst xs)):d3 [.obj n] Y=.ok (.int xs.length) Y:=by unfold d3 u5;simp[h]
theorem tW(h:Y[n]?=some (.lst xs)):km [.obj n] Y=.ok (.tup xs) Y:=by unfold km;simp[h]
theorem jM{bs:List Bool}(h:Y[n]?=some (.lst (bs.map D.bl))):oH [.obj n] Y=.ok (.bl (bs.all id)) Y:=by unfold oH;simp[h,A0]
theorem kj{i:Int}{d:D}(h:atI xs i=some d):cx (.tup xs) (.int i) Y=.ok d Y:=by unfold cx;simp[h]
theorem Kd{i:Int}{d:D}(h:atI xs i=some d):cx (.frz xs) (.int i) Y=.ok d Y:=by unfold cx;simp[h]
theorem fH{i:Int}{d:D}(hm:Y[n]?=some (.lst xs))(h:atI xs i=some d):cx (.obj n) (.int i) Y=.ok d Y:=by unfold cx;simp[hm,h]
theorem pA{i:Int}{d:D}(hm:Y[n]?=some (.lst xs))(h:uK xs.length i=some j):uN (.obj n) (.int i) d Y=.ok () (Y.set n (.lst (xs.set j d))):=by unfold uN;simp[hm,h]
theorem iW(hm:Y[n]?=some (.lst xs)):xl (.obj n) Y=.ok (.own n xs) Y:=by unfold xl;simp[hm]
theorem pB{j:Int}(h0:0<=j)(h:j<1000):qZ [.int j] Y=.ok (.fix (dF 0 j.toNat)) Y:=by
 unfold qZ;dsimp only;rw[OA];omega
theorem zv{i j:Int}(h0:0<=i)(h1:i<1000)(h2:-1000<=j)(h:j<1000):xm [.int i,.int j] Y=.ok (.fix (dF i (j-i).toNat)) Y:=by
 unfold xm;dsimp only;rw[OA];omega
theorem r9{J:Type}{x:J}{r:List J}:atI (x::r) 0=some x:=by unfold atI uK;simp
theorem vc{J:Type}{x y:J}{r:List J}:atI (x::y::r) 1=some y:=pF (j:=1) rfl
theorem Hb{J:Type}{x y z:J}{r:List J}:atI (x::y::z::r) 2=some z:=pF (j:=2) rfl
@[simp] theorem ik {x:D}{r:List D}:cx (.tup (x::r)) (.int 0) Y=.ok x Y:=kj r9
@[simp] theorem jK {x y:D}{r:List D}:cx (.tup (x::y::r)) (.int 1) Y=.ok y Y:=kj vc
theorem jD{i:Int}(h0:0<=i)(h:i<n):uK n i=some i.toNat:=by unfold uK;simp[h0,h]
end
section
variable{g:aA}{d:D}
@[simp] theorem F0{i:Int}:(D.int i).low n=True:=by simp[D.low]
@[simp] theorem NZ{i:Bool}:(D.bl i).low n=True:=by simp[D.low]
@[simp] theorem MU:D.non.low n=True:=by simp[D.low]
@[simp] theorem MQ:(D.str x).low n=True:=by simp[D.low]
@[simp] theorem MP:(D.tup xs).low n=D.lows n xs:=by simp[D.low]
@[simp] theorem MR{m:Nat}:(D.obj m).low n=(m<n):=by simp[D.low]
@[simp] theorem Mq:D.lows n []=True:=by simp[D.lows]
@[simp] theorem Kv{x:D}:D.lows n (x::xs)=(x.low n/\D.lows n xs):=by simp[D.lows]
theorem ku{n:Nat}:∀{xs:List D},D.lows n xs↔∀x∈xs,x.low n
 |[]=>by simp
 |x::xs=>by simp[ku (xs:=xs)]
theorem bD(hd:d.low Y.length):oX Y (.ok d (Y++g))=.ok d Y:=by
 unfold oX;dsimp only;rw[OA]
 ·simp
 ·refine⟨hd,by simp,fun i o hi h=>.inl ?_⟩;rw[PR hi]at h;exact h
theorem bt(hd:d.low Y.length):oX Y (.ok d Y)=.ok d Y:=by
 have:=bD (Y:=Y) (g:=[]) hd;simpa using this
theorem Ci{o:O}(hd:d.low Y.length)(ho:o.low Y.length):oX Y (.ok d (Y.set i o++g))=.ok d (Y.set i o):=by
 unfold oX;dsimp only;rw[OA]
 ·congr 1;rw[List.take_append_of_le_length (by simp)];exact Rj (by simp)
 ·refine ⟨hd, by simp, fun j o' hj h => ?_⟩;rw[PR (by simpa using hj)]at h;by_cases hij:i=j
  ·subst hij;rw[OU hj]at h;cases h;exact .inr ho
  ·rw[OV hij]at h;exact .inl h
theorem zt{o:O}(hd:d.low Y.length)(ho:o.low Y.length):oX Y (.ok d (Y.set i o))=.ok d (Y.set i o):=by
 have:=Ci (Y:=Y) (g:=[]) (i:=i) hd ho;simpa using this
theorem Bz{Y':aA}(h:¬ d.low Y.length):oX Y (.ok d Y')=.ok d Y':=by
 unfold oX;dsimp only;rw[OB fun z=>h z.1]
theorem Ck{Y':aA}:oX Y (.ok d Y')=.ok d Y'\/(oX Y (.ok d Y')=.ok d (Y'.take Y.length)/\d.low Y.length):=by
 unfold oX;dsimp only;by_cases h:Hq Y Y' d
 ·rw[OA h];exact .inr ⟨rfl,h.1⟩
 ·rw[OB h];exact .inl rfl
end
theorem vx{g:aA}{a b:O}:(Y1++a::g).set Y1.length b=Y1++b::g:=by
 rw[SM _ _ (Pf _),RF];rfl
theorem aF{g:aA}{a:O}:(Y1++a::g)[Y1.length]?=some a:=by
 rw[PN (Pf _),RF];rfl
theorem nK{g:aA}{y:D}(h:ys.length<sizeLine):uY Y1.length y (Y1++.lst ys::g)=.ok () (Y1++.lst (ys++[y])::g):=by
 unfold uY;rw[aF];dsimp only;rw[OA h,vx]
theorem lh{src:oF}{g:MG}{t:MT}{e:ME}{Y1:aA}{q:D->Bool}{h:D->D}(R:Ro->Prop)(ho:∀a,dz src (Y1++[.lst a])) :
  ∀{xs acc:List D}{Z:Ro},R Z->acc.length+xs.length<=sizeLine->(∀x∈xs,∀a Z,R Z->∃Z1,R Z1/\g x Z (Y1++[.lst a])=.ok Z1 (Y1++[.lst a])/\t Z1 (Y1++[.lst a])=.ok (q x) (Y1++[.lst a])/\(q x=true->e Z1 (Y1++[.lst a])=.ok (h x) (Y1++[.lst a]))) ->
   compLoop src Y1.length g t e xs Z (Y1++[.lst acc])=.ok (.obj Y1.length) (Y1++[.lst (acc++(xs.filter q).map h)])
 |[],acc,Z,hr,hl,he=>by
  unfold compLoop;rw[OA (ho acc)];simp
 |x::xs,acc,Z,hr,hl,he=>by
  obtain⟨Z1,r1,e1,e2,e3⟩:=he x OL acc Z hr;unfold compLoop;rw[OA (ho acc),e1];simp only[ag,aa];rw[e2];simp only[ag,aa];have he':=fun y hy=>he y (OM _ hy);simp only[QJ]at hl;cases hq:q x with
  |false=>
   rw[OB Pm,lh R ho r1 (by omega) he',SN,hq];rfl
  |true=>
   rw[OA rfl,e3 hq];simp only[ag,aa];rw[nK (by omega)];simp only[aa];rw[lh R ho r1 (by simp;omega) he',SN,hq];simp
theorem mU{src:oF}{g:MG}{t:MT}{e:ME}{n:Nat}(α:List D->List D->Ro->aA->aA->Prop)
  (fin:∀ys Z Y1 s,α [] ys Z Y1 s->Y1.length=n/\dz src (Y1++.lst ys::s))
  (step : ∀ x r ys Z Y1 s, α (x :: r) ys Z Y1 s -> Y1.length = n /\ dz src (Y1 ++ .lst ys :: s) /\ ∃ Z1 μa sa b μb sb, g x Z (Y1 ++ .lst ys :: s) = .ok Z1 (μa ++ .lst ys :: sa) /\ t Z1 (μa ++ .lst ys :: sa) = .ok b (μb ++ .lst ys :: sb) /\
   (b=true->∃y μc sc,e Z1 (μb++.lst ys::sb)=.ok y (μc++.lst ys::sc)/\ys.length<sizeLine/\μc.length=n/\α r (ys++[y]) Z1 μc sc)/\(b=false->α r ys Z1 μb sb)) :
  ∀{xs ys:List D}{Z:Ro}{Y1 s:aA},α xs ys Z Y1 s->∃ys' Z' Y1' s',α [] ys' Z' Y1' s'/\compLoop src n g t e xs Z (Y1++.lst ys::s)=.ok (.obj n) (Y1'++.lst ys'::s')
 |[],ys,Z,Y1,s,hJ=>by
  refine⟨ys,Z,Y1,s,hJ,?_⟩;unfold compLoop;rw[OA (fin ys Z Y1 s hJ).2]
 |x::xs,ys,Z,Y1,s,hJ=>by
  obtain⟨hn,ho,Z1,μa,sa,b,μb,sb,e1,e2,e3,e4⟩:=step x xs ys Z Y1 s hJ;unfold compLoop;rw[OA ho,e1];simp only[ag,aa];rw[e2];simp only[ag,aa];cases b with
  |false=>
   rw[OB Pm];exact mU α fin step (e4 rfl)
  |true=>
   obtain⟨y,μc,sc,f1,f2,f3,f4⟩:=e3 rfl;rw[OA rfl,f1];simp only[ag,aa];subst f3;rw[nK f2];simp only[aa];exact mU α fin step f4
theorem kT{src:oF}{g:MG}{fb:MS}(α:List D->Ro->aA->Prop)(fin:∀Z Y,α [] Z Y->dz src Y)
  (step:∀x r Z Y,α (x::r) Z Y->dz src Y/\∃Z1 Y1 Z2 Y2,g x Z Y=.ok Z1 Y1/\fb Z1 Y1=.next Z2 Y2/\α r Z2 Y2) :
  ∀{xs:List D}{Z:Ro}{Y:aA},α xs Z Y->∃Z' Y',α [] Z' Y'/\fU src g fb xs Z Y=.next Z' Y'
 |[],Z,Y,h=>⟨Z,Y,h,by unfold fU;rw[OA (fin Z Y h)]⟩
 |x::xs,Z,Y,h=>by
  obtain⟨ho,Z1,Y1,Z2,Y2,e1,e2,h2⟩:=step x xs Z Y h;obtain⟨Z',Y',h3,e3⟩:=kT α fin step h2;refine⟨Z',Y',h3,?_⟩;unfold fU;rw[OA ho,e1];simp only[ae];rw[e2];exact e3
end L2
namespace L2
open PySem PySem.Spec PyProof.Rows RS
theorem Mf{ps:List Str}(F:gF K x qual st f fd)(S:aW N ps (au st))(hn:ps.length=n)(body : ∀ (cdv : Value) (A : Around) (outer : List Env) (s : Shared) (H : Hp) (E : XK), dG k (A.deeper (envOfC qual (au st) s.heap.objs.size f cdv)) ->
   Bx (jy (pO xk P w K mg base N qual (au st) f cdv A outer s H E).nox (bT st) (iw p fb))):ll P w K mg base xk (k+1) f fd ps (A8 p n (hU n N.length fb)):=by
 refine F.ok S (fun vs H Q E h=>h.1.trans hn.symm) fun cdv A outer s H vs Q E hr h=>?_;refine⟨_,(body cdv A outer s H E hr).h,?_⟩;obtain⟨hl,J,ds,Y,S1,R1,P1⟩:=h;unfold hU at P1;have hd:ds.length=n:=by rw[<- R1.length];exact hl
 rw[OA hd]at P1;have P2:=pk S1 P1;unfold start;rw[hl];refine⟨J,_,Y,S1,jQ R1 _,?_⟩;cases e:fb (ds.map some++List.replicate (N.length-n) none) Y with
 |ret d Y'=>rw[e]at P2;exact fun H' J' v x s r=>P2 H' J' x s v r
 |next Z Y'=>rw[e]at P2;exact fun H' J' B' x s r=>P2 H' J' x s .non (bK.mpr rfl)
 |exc x Y'=>rw[e]at P2;exact P2
 |brk Z Y'=>rw[e]at P2;exact P2.elim
 |cnt Z Y'=>rw[e]at P2;exact P2.elim
 |bad=>rw[e]at P2;exact P2.elim
theorem sg{K:W.Frag}{H:Hp}{J:List Addr}:∀ns:List Int,Reps K H J (ns.map D.int) (ns.map V.int)
 |[]=>by simp only[Qo,Reps]
 |n::ns=>by
  simp only[Qp,Reps];exact⟨_,_,rfl,ar.mpr rfl,sg ns⟩
theorem Ds{E:XK}(hF:∃Y',F [.frz (ns.map D.int)] []=.ok (.bl true) Y')(hO:Ek H)(hS:gB K H a (ns.map V.int)):
  A8 (dj K w) 1 F [.ref a] H (fun v _=>v=.bl true) E:=by
 obtain⟨Y',e⟩:=hF
 have fz:GA K H a (ns.map V.int):=by
  rcases hS with (h|h)|h
  ·rcases hO a with z | ⟨o, xs, z⟩
   ·rw[h]at z;cases z
   ·rw[h]at z;cases z
  ·exact .inl h
  ·exact .inr h
 refine⟨rfl,[],[.frz (ns.map D.int)],[],⟨rfl,RE,fun n o a h=>by simp at h⟩,?_,?_⟩
 ·simp only[Reps];exact⟨_,_,rfl,bA.mpr ⟨a,_,rfl,fz,sg ns⟩,rfl⟩
 ·rw[e];exact fun H' J' x s v r=>aU.mp r
section
variable{X:Cx}
def Cg:D->Bool
 |.tup _=>true
 |.frz _=>true
 |.obj _=>true
 |_=>false
theorem yj{d:D}(h:Cg d=true)(r:aP K H J d v):∃a,v=.ref a:=by
 cases d with
 |tup xs=>obtain⟨a,us,rfl,_⟩:=aQ.mp r;exact⟨a,rfl⟩
 |frz xs=>obtain⟨a,us,rfl,_⟩:=bA.mp r;exact⟨a,rfl⟩
 |obj n=>obtain⟨a,rfl,_⟩:=bf.mp r;exact⟨a,rfl⟩
 |_=>cases h
def il(d:D)(ds:List D)(Y:aA):aj D:=match d,ds with
 |.obj m,[.obj n]=>match Y[m]?,Y[n]? with
  |some (.lst xs),some (.lst ys)=>if xs.length+ys.length<=sizeLine then .ok .non (Y.set m (.lst (xs++ys))) else .bad
  |_,_=>.bad
 |_,_=>.bad
theorem FW:Gz p il zc:=by
 intro d ds v vs H J Y Q S rd rs P;unfold il at P;split at P
 ·rename_i m n;split at P
  ·rename_i xs ys hx hy;split at P
   ·rename_i hb;obtain⟨a,us,rfl,a1,h1,rr⟩:=cI S rd hx;obtain⟨w,rfl,rw'⟩:=rs.one;obtain⟨a',us',rfl,a1',h1',rr'⟩:=cI S rw' hy;have q:=rr.append rr';exact⟨a,a',us,us',rfl,rfl,h1,h1',by rw[rr.length,rr'.length];exact hb,P _ _ (jJ h1) (S.put hx a1 h1 q) _ (bK.mpr rfl)⟩
   ·exact P.elim
  ·exact P.elim
 ·exact P.elim
def j8(neg:Bool)(a b:D)(Y:aA):aj D:=match a,b with
 |.str x,.str y=>.ok (.bl (if neg then !decide (x=y) else decide (x=y))) Y
 |_,_=>.bad
theorem yX:decide (V.str x=V.str y)=decide (x=y):=by
 by_cases e:x=y
 ·subst e;simp
 ·rw[Ow e,Ow];intro z;cases z;exact e rfl
theorem JI:qU p (j8 false) Na:=by
 intro a b v y H J Y Q S ra rb P;unfold j8 at P;split at P
 ·rename_i x z;obtain rfl:=aC.mp ra;obtain rfl:=aC.mp rb;exact⟨rfl,by rw[yX];exact P.now S _ (aU.mpr rfl)⟩
 ·exact P.elim
theorem JE:qU p (j8 true) M0:=by
 intro a b v y H J Y Q S ra rb P;unfold j8 at P;split at P
 ·rename_i x z;obtain rfl:=aC.mp ra;obtain rfl:=aC.mp rb;exact⟨rfl,by rw[yX];exact P.now S _ (aU.mpr rfl)⟩
 ·exact P.elim
theorem G4:jZ X p .Eq (j8 false):=⟨Na,LS,JI⟩
theorem rV:jZ X p .NotEq (j8 true):=⟨M0,LR,JE⟩
end
end L2
namespace L2
open PySem PySem.W PyProof.Rows RS
theorem Ob{J:Type}{P:List J->Prop}(h:∀a,P [a]):∀us:List J,us.length=1->P us
 |[a],_=>h a
theorem us2{J:Type}{P:List J->Prop}(h:∀a b,P [a,b]):∀us:List J,us.length=2->P us
 |[a,b],_=>h a b
theorem Oa{J:Type}{P:List J->Prop}(h:∀a b c,P [a,b,c]):∀us:List J,us.length=3->P us
 |[a,b,c],_=>h a b c
theorem gF.b1{ps:List Str}(F:gF K x qual st f fd)(hl:ps.length=1)(h:∀(kV doc pm:Value)(an:Option Addr)(cdv ct a:Value),bindArgs (W.fnOf x qual (du st) (bT st) (au st) .none kV doc pm an cdv ct) ⟨[a],[]⟩=pure (ps.zip [a])):eS K fd ps []:=
 F.binds fun kV doc pm an cdv ct us e=>Ob (P:=fun us=>bindArgs (W.fnOf x qual (du st) (bT st) (au st) .none kV doc pm an cdv ct) ⟨us,[]⟩=pure (ps.zip us)) (fun a=>h kV doc pm an cdv ct a) us (e.trans hl)
theorem gF.b2{ps:List Str}(F:gF K x qual st f fd)(hl:ps.length=2)(h:∀(kV doc pm:Value)(an:Option Addr)(cdv ct a b:Value),bindArgs (W.fnOf x qual (du st) (bT st) (au st) .none kV doc pm an cdv ct) ⟨[a,b],[]⟩=pure (ps.zip [a,b])):eS K fd ps []:=
 F.binds fun kV doc pm an cdv ct us e=>us2 (P:=fun us=>bindArgs (W.fnOf x qual (du st) (bT st) (au st) .none kV doc pm an cdv ct) ⟨us,[]⟩=pure (ps.zip us)) (fun a b=>h kV doc pm an cdv ct a b) us (e.trans hl)
theorem gF.b3{ps:List Str}(F:gF K x qual st f fd)(hl:ps.length=3)(h:∀(kV doc pm:Value)(an:Option Addr)(cdv ct a b c:Value),bindArgs (W.fnOf x qual (du st) (bT st) (au st) .none kV doc pm an cdv ct) ⟨[a,b,c],[]⟩=pure (ps.zip [a,b,c])):eS K fd ps []:=
 F.binds fun kV doc pm an cdv ct us e=>Oa (P:=fun us=>bindArgs (W.fnOf x qual (du st) (bT st) (au st) .none kV doc pm an cdv ct) ⟨us,[]⟩=pure (ps.zip us)) (fun a b c=>h kV doc pm an cdv ct a b c) us (e.trans hl)
end L2
namespace L2
open PySem PySem.Spec PyProof.Rows RS
section
variable{X:Cx}
theorem GF{fo:ME}(ho:Bx (PE X ob (tD p fo)))(ha:Bx (PA X [e] (jw p fr)))(hbase:attributeBase ob "extend" X.env (eval ob X.env)=eval ob X.env:=by rfl)(hfew:((backTo pos (starEach [e] X.env)).all (fun x=>!x.1)&&(backToKw pos (keywordEach [] X.env)).all (fun x=>x.1.isSome)
   && decide ([e].length+([]:List Keyword).length+(if ([]:List Keyword).isEmpty then 0 else 1)<30))=true:=by rfl)(hline:(apos.endLine == pos.line)=true:=by rfl)(hs:starEach [e] X.env=(false,eval e X.env)::starEach [] X.env:=by rfl)(hpl:(backTo pos (starEach [] X.env)).any (·.1)=false:=by rfl)(hK:X.K=p.K:=by rfl):Bx (PE X (.Call (.Attribute ob "extend" apos) [e] [] pos) (tD p (yC il fo fr))):=⟨yE hK PySem.F.slot_list_extend PySem.F.type_list_extend Ay FW ho.h ha.h hbase hfew hline hs hpl⟩
end
end L2
namespace PySem.W
open PySem PySem.Spec PySem.Calls PyProof.Rows Builtin Builtin.ObjectAttr
section
variable{R:Result->Shared->Prop}{K:Frag}{x:Addr}{name:Str}{v:Value}
theorem FC{od:Option Obj}(X:K.In s.heap)(I:InstAt s.heap x ox C od)(hc:clsIn K C=some cd)(hp:∀self,refuseLoop self "__setattr__" cd.mro=pure ())(hm:mroIn K C (.type "object")=some true)(ht:findIn K (.ref C) name=some none)(h : wpAny (model prog w) A.in1 (storeInOwnDict (.ref x) (.ref C) (.str name tk) name v false)
   (fun fin s'=>match fin with | .done f=>R (.ok f) s' | .again c'=>c'.quiet=true/\codeAny (model prog w) A c' R s') (fun e s'=>R (.error e) s') s):
  codeAny (model prog w) A (.call (.builtin "object.__setattr__") ⟨[.ref x,.str name tk,v],[]⟩) R s:=by
 have SF:=PySem.F.store_object;have sub:Looks (model prog w) s.heap (isInstance (.ref x) (.type "object")) true:=I.type.andThen (looks_mroIn X hm);refine RY SF.slot.plain SF.entry (@check_slot (model prog w) _ _ s "object.__setattr__" "object" "__setattr__" (.ref x) [.str name tk,v] [] _ SF.kind SF.split sub (SF.args (.ref x) (.str name tk) v) ?_);have hm2:Looks (model prog w) s.heap (mroOf (.ref C)) cd.mro:=(looks_clsIn X hc).andThen .now;rw[osa_eq,refuse_eq];refine O3 (O3 (I.type.here (O3 (hm2.here ?_))));rw[hp];exact O6 (O3 (I.type.here (O3 ((Ss X ht).here (O3 (Looks.now.here h))))))
theorem zV{b:Bool}{Q:Fin->Shared->Prop}(X:K.In s.heap)(hx:s.heap.get? x=some ox)(hC:ox.cls=.ref C)(hd:ox.dict=none)(hnc:notCls ox=true)(hc:clsIn K C=some cd)(hdc:cd.hasDict=true)(hq:∀h',h'.get? x=some {ox with dict:=some s.heap.objs.size}->h'.Ns1 s.heap.objs.size (fun y=>if y=name then some v else none)->(∀b o,b≠x->s.heap.get? b=some o->h'.get? b=some o)->∀tk',Q (.done (.ret .none)) {s with heap:=h',toks:=tk'}):
  wpAny (model prog w) A (storeInOwnDict (.ref x) (.ref C) (.str name tk) name v b) Q E s:=by
 obtain⟨hh,g,d,t,os⟩:=s;obtain⟨oc,od,odt,osl⟩:=ox;dsimp only at hC hd;subst hC hd;have hxs:x≠hh.objs.size:=OF (OC hx);have Lc:=looks_clsIn (M:=model prog w) X hc;unfold storeInOwnDict;refine O3 (O6 ?_);rw[OB (by simp)];refine O3 ?_;show wpAny _ _ (instanceDict x true) _ _ _;unfold instanceDict;refine O3 (wpAny_loadPart hx ?_);refine O3 (Lc.here ?_);rw[hdc,OB (by decide)];dsimp only;rw[OB (show ¬ (!true || !typeHasDict (Value.ref C))=true from Pm)];have hx1:(hh.push {cls:=.type "dict",data:=.dict #[]}).get? x=some ⟨.ref C,none,odt,osl⟩:=O8 _ hx
 have fin:wpAny (model prog w) A (do
   let d <- alloc {cls:=.type "dict",data:=.dict #[]}
   update x fun o=>{o with dict:=some d}
   dictMade (.ref C) x d) (fun a s'=>wpAny (model prog w) A (match a with|some d=>storeInDict d (.str name tk) name v|none=>noDictFor (.ref x) (.ref C) name b) Q E s') E ⟨hh,g,d,t,os⟩:=by
  refine O3 (wpAny_alloc' ?_);refine O3 (wpAny_update' hx1 ?_);refine O6 ?_;dsimp only
  have hgd:((hh.push {cls:=.type "dict",data:=.dict #[]}).update x fun o=>{cls:=o.cls,dict:=some hh.objs.size,data:=o.data,slots:=o.slots}).get? hh.objs.size
    = some {cls:=.type "dict",data:=.dict #[]}:=
   (Sh _ _ _ _ hxs.symm).trans (Heap.get?_push_at rfl rfl)
  have hnd:((hh.push {cls:=.type "dict",data:=.dict #[]}).update x fun o=>{cls:=o.cls,dict:=some hh.objs.size,data:=o.data,slots:=o.slots}).Ns hh.objs.size (fun _=>none):=
   ⟨_,#[],_,hgd,rfl,fun e he=>absurd he (by simp),fun _=>rfl⟩
  unfold storeInDict newKeyGuard;refine O3 (O6 (O3 (wpAny_nsSet1 (Heap.Ns1.of_empty hnd) fun h' hn' hs=>?_)));obtain⟨oD,esD,epD,hoD,hdD,hcD⟩:=hn'.count (Within.cons name v Within.nil);refine O3 (wpAny_lookBehind hoD (by rw[hdD];exact pastItsLine_dict (OI hcD (by rw[QJ,Rf,Pp];omega))) ?_);refine O6 (hq h' ?_ hn' (fun b ob hbx hb=>?_) _)
  ·refine(hs.2 x hxs).trans (Qr _ hx1 ?_);have hfr:=(Heap.get?_some_iff.mp hx).2;cases odt <;> first|rfl|exact hfr
  ·exact(hs.2 b (OF (OC hb))).trans ((Sh _ _ _ _ hbx).trans (O8 _ hb))
 cases odt with
 |cls c=>cases hnc
 |_=>exact fin
structure SetsX(K:Frag)(C:Addr):Prop where
 sa:findIn K (.ref C) "__setattr__" = some (some (.builtin "object.__setattr__"))
 obj:mroIn K C (.type "object")=some true
 cls:∃cd,clsIn K C=some cd/\cd.hasDict=true/\∀self,refuseLoop self "__setattr__" cd.mro=pure ()
theorem setx_one{Q:Unit->Shared->Prop}(X:K.In s.heap)(S:SetsX K C)(hf:findIn K (.ref C) name=some none)(hx:s.heap.get? x=some ox)(hC:ox.cls=.ref C)(hd:ox.dict=none)(hnc:notCls ox=true)(hq:∀h',h'.get? x=some {ox with dict:=some s.heap.objs.size}->h'.Ns1 s.heap.objs.size (fun y=>if y=name then some v else none)->(∀b o,b≠x->s.heap.get? b=some o->h'.get? b=some o)->∀tk',Q () {s with heap:=h',toks:=tk'}):
  wpAny (model prog w) A (setAttr (.ref x) name v) Q E s:=by
 obtain⟨cd,hc,hdc,hp⟩:=S.cls;have I:InstAt s.heap x ox C none:=⟨hx,hC,hnc,by rw[hd];trivial⟩;refine set_plain X I S.sa (FC (s:={s with toks:=s.toks+1}) X I hc hp S.obj hf (zV (s:={s with toks:=s.toks+1}) X hx hC hd hnc hc hdc fun h' q1 q2 q3 tk'=>?_));exact hq h' q1 q2 q3 tk'
end
section
variable{K:Frag}{x D:Addr}{od:Option Obj}{name:Str}{v:Value}
theorem getx{expr:Bool}(X:K.In s.heap)(I:InstAt s.heap x ox D od)(hga:findIn K (.ref D) "__getattribute__" = some (some (.builtin "BaseException.__getattribute__")))(hgn:findIn K (.ref D) "__getattr__" = some none)(hmB:mroIn K D (.type "BaseException")=some true)(hf:findObj K D od name=some (.value v))(hv:handedIn v=true)(hq:∀tk',Q v {s with toks:=tk'}):wpAny (model prog w) A (getAttr (.ref x) name expr) Q E s:=by
 obtain⟨hh,g,d,t,os⟩:=s;have L0:=I.type (M:=model prog w);have L1:Looks (model prog w) hh (typeLookup (.ref D) "__getattribute__") (some (.builtin "BaseException.__getattribute__")):=Ss X hga;have L2:Looks (model prog w) hh (typeLookup (.ref D) "__getattr__") none:=Ss X hgn;have Lf:=looks_find (M:=model prog w) X I hf;have f3:=Su.ga.bind (.ref x);have hx2:(Value.builtin "BaseException.__getattribute__" == Value.builtin "object.__getattribute__")=false:=by decide +kernel
 have hx1:(onTheHeap (Value.ref D)&&Value.builtin "BaseException.__getattribute__" == Value.builtin "object.__getattribute__")=false:=by rw[hx2];rfl
 have hx0:(false&&onTheHeap (Value.builtin "BaseException.__getattribute__"))=false:=rfl;unfold getAttr getAttrBy
 repeat (any_goals (first|assumption|with_reducible refine L0.at ?_|with_reducible refine L1.at ?_|with_reducible refine L2.at ?_|wp_step))
 rw[OB (show ¬ (expr&&onTheHeap (Value.builtin "BaseException.__getattribute__"))=true from by cases expr <;> exact Pm)];unfold boundAndCalled
 repeat (any_goals (first|assumption|with_reducible refine L0.at ?_|wp_step))
 refine RY Su.ga.plain F.entry_bexc_ga (v7 X L0 hmB ?_);unfold Builtin.«object.__getattribute__»
 repeat (any_goals (first|assumption|with_reducible refine L0.at ?_|with_reducible refine Lf.at ?_|wp_step))
 show wpAny _ _ (handedOut v) _ _ _;rw[handedOut_of hv];exact O6 (hq _)
end
end PySem.W
namespace L2
open PySem PySem.Spec PyProof.Rows
def uT(ea C:Addr):HO:=.ext fun h=>∃t:Addr,h.get? ea=some {cls:=.ref C,data:=.fields #[.ref t,.none,.none,.none,.bool false,.none]}
def kg(ea C dx:Addr):HO:=.ext fun h=>∃t:Addr,h.get? ea=some {cls:=.ref C,dict:=some dx,data:=.fields #[.ref t,.none,.none,.none,.bool false,.none]}
section
variable{X:Cx}{f:Str}
theorem E2{y:V}{Q:Unit->Shared->Prop}(I:aX X pins B H s)(e:H ea=some (uT ea C))(S:W.SetsX X.K C)(n:W.findIn X.K (.ref C) f=some none)(ry:bU y u)(h:∀s' dx,H dx=none->dx≠ea->aX X pins B (b9 (b9 H dx (.xd [(f,y)])) ea (kg ea C dx)) s'->Q () s'):wpAny (model X.prog X.w) A (setAttr (.ref ea) f u) Q E s:=by
 obtain⟨⟨t,he⟩,_,_⟩:=(show dk X.prog X.w H s.heap ea (uT ea C) from I.hok ea _ e);have hlt:=OC he;have hne:s.heap.objs.size≠ea:=Pb hlt;refine W.setx_one I.kIn S n he rfl rfl rfl fun h' q1 q2 q3 tk'=>h _ s.heap.objs.size I.fresh hne ?_;have ne:∀b,H b=none->b≠ea:=fun b z q=>by rw[q,e]at z;cases z
 have tr:∀b (o:HO),H b=some o->(∀φ,o≠.ext φ)->b9 (b9 H s.heap.objs.size (.xd [(f,y)])) ea (kg ea C s.heap.objs.size) b=some o:=fun b o q nx=>by
  rw[aV fun z=>?_,aV fun z=>?_]
  ·exact q
  ·rw[z,I.fresh]at q;cases q
  ·rw[z,e]at q;cases q;exact nx _ rfl
 refine I.call' (s':={s with heap:=h',toks:=tk'}) rfl ⟨fun b o q n _ _=>q3 b o (ne b n) q,fun b o q n _ _=>⟨o.slots,q3 b o (ne b n) q⟩,fun b o q n _=>?_,fun b o q _=>?_,fun b xs q=>tr b _ q (fun _ z=>nomatch z),fun b o u q=>tr b _ q (fun _ z=>nomatch z),
  fun b ps q=>⟨#[],by rw[tr b _ q (fun _ z=>nomatch z)];simp⟩⟩ (fun b o q=>?_) I.bare (ch:=[]) (fun b z=>absurd z (by simp))
 ·rw[aV (ne b n),aV (OF (OC q))];exact n
 ·by_cases z : b = ea
  ·exact⟨_,by rw[z];exact q1⟩
  ·exact⟨o,q3 b o z q⟩
 ·by_cases z : b = ea
  ·subst z;rw[bj]at q;cases q;exact⟨⟨t,q1⟩,⟨_,q1⟩,fun h1 h2 a k=>by obtain⟨t',a⟩:=a;exact⟨t',k _ a⟩⟩
  ·rw [aV z] at q;by_cases z2:b=s.heap.objs.size
   ·subst z2;rw[bj]at q;cases q;refine⟨_,q2,fun g=>?_⟩;by_cases hg:g=f
    ·subst hg;simp only[QG,QH,Qg];exact ry
    ·rw[OB hg,QG,show (g == f)=false from by simpa using hg];exact True.intro
   ·rw [aV z2] at q;refine(I.hok b o q).stay (fun c v hc r=>q3 c v ?_ r) (fun c r=>tr c _ r (fun _ z=>nomatch z)) fun c xs r=>tr c _ r (fun _ z=>nomatch z);rcases hc with rfl|hc
    ·exact z
    ·intro w;rw[w,e]at hc;cases hc
end
def LF(K:W.Frag)(ta tv:TE)(f:Str):TS:=fun D B H=>tv B H fun y H1=>ta B H1 fun x H2=>∃ea C,x=.ref ea/\H2 ea=some (uT ea C)/\W.SetsX K C/\W.findIn K (.ref C) f=some none /\
 ∀dx,H2 dx=none->dx≠ea->D.nx B (b9 (b9 H2 dx (.xd [(f,y)])) ea (kg ea C dx))
section
variable{X:Cx}{o value:Expr}{ta tv:TE}{f:Str}
theorem Fj(ha:PE X o ta)(hv:PE X value tv)(hs:swapsWith value (some (.Attribute o f pos')) pos.line X.env=pure false):PS X (.Assign [.Attribute o f pos'] value pos) (LF X.K ta tv f):=by
 intro pins s B H D I h;refine plainObj_wpAny_Assign_Attribute (cY (hv pins s B H _ I h) fun u s1 ⟨y,H1,I1,ry,q⟩=>cY (ha pins s1 B H1 _ I1 q) fun ov s2 ⟨x,H2,I2,rx,ea,C,ex,e,S,n,q2⟩=>?_) hs;subst ex;obtain rfl:ov=Value.ref ea:=rx;exact E2 I2 e S n ry fun s3 dx z1 z2 I3=>⟨B,_,I3,q2 dx z1 z2⟩
end
section
variable{s0:Shared}{E:XK}
theorem JP{dx:Addr}(I:aX (nq P w K mg base N qual scope f cdv A outer s0 H0 E) pins B H s)(e:H ea=some (kg ea C dx))(hn:s0.heap.get? ea=none)(q:E (.ref C) (some ea) (b9 H ea (ka ea C (some dx)))):(nq P w K mg base N qual scope f cdv A outer s0 H0 E).xe (.ref ea) s:=by
 obtain⟨⟨t,he⟩,_,_⟩:=(show dk P w H s.heap ea (kg ea C dx) from I.hok ea _ e);obtain⟨fs,hfs⟩:∃fs,fs=ea::pM (envOfC qual scope s0.heap.objs.size f cdv::outer):=⟨_,rfl⟩;have hin:∀env∈(envOfC qual scope s0.heap.objs.size f cdv::outer),∀b,env.frame=some b->b∈fs:=fun env he b hb=>by rw[hfs];exact OM _ (Ph.mpr ⟨env,he,hb⟩)
 have hst:(W.hideAll s.heap fs).StaysIn s.heap:=fun b o q=>W.of_hideAll _ q
 have hB:∀b o,s0.heap.get? b=some o->b∉pM outer->∃o',(W.hideAll s.heap fs).get? b=some o':=fun b o e hb=>by
  obtain⟨⟨o1,e1⟩,nb⟩:=oj I e hb;refine⟨o1,W.hideAll_get _ e1 ?_⟩;rw[hfs];intro z;rcases OO.mp z with z|z
  ·rw[z,hn]at e;cases e
  ·exact nb z
 obtain⟨H1,hH1⟩:∃H1:Hp,H1=fun b=>if b=ea then none else H b:=⟨_,rfl⟩
 have h1:H1 ea=none:=by rw[hH1];exact OA rfl
 have h2:∀b,b≠ea->H1 b=H b:=fun b hb=>by rw[hH1];exact OB hb
 have h3:b9 H1 ea (ka ea C (some dx))=b9 H ea (ka ea C (some dx)):=by
  funext b;by_cases hb:b=ea
  ·rw[hb,bj,bj]
  ·rw[aV hb,aV hb,h2 b hb]
 have ne:∀b (o:HO),H b=some o->(∀φ,o≠.ext φ)->b≠ea:=fun b o q nx z=>by rw[z,e]at q;cases q;exact nx _ rfl
 have hok:nr P w H1 (W.hideAll s.heap fs):=fun b u q=>by
  have hb:b≠ea:=fun z=>by rw[z,h1]at q;cases q
  rw[h2 b hb]at q
  have nfr:∀c v,H c=some v->c≠ea->c∉fs:=fun c v e z y=>by
   rw[hfs]at y;rcases OO.mp y with y|y
   ·exact z y
   ·rw[I.stkFree c y]at e;cases e
  refine(I.hok b u q).stay (fun c v hc r=>W.hideAll_get _ r ?_) (fun c r=>by rw[h2 c (ne c _ r (fun _ z=>nomatch z))];exact r) fun c xs r=>by rw[h2 c (ne c _ r (fun _ z=>nomatch z))];exact r
  rcases hc with rfl|hc
  ·exact nfr _ _ q hb
  ·exact nfr _ _ hc (ne c _ hc (fun _ z=>nomatch z))
 have hb1:Un (pM outer) [] H0 H1 s0.heap s.heap:=by
  have u:=I.base;refine⟨u.keep,u.slot,fun b o e n hx=>?_,u.there,fun b xs q=>?_,fun b o u' q=>?_,fun b ps q=>?_⟩
  ·by_cases z : b = ea
   ·rw[z];exact h1
   ·rw[h2 b z];exact u.free b o e n hx
  ·have:=u.tups b xs q;rw[h2 b (ne b _ this (fun _ z=>nomatch z))];exact this
  ·have:=u.frzs b o u' q;rw[h2 b (ne b _ this (fun _ z=>nomatch z))];exact this
  ·obtain⟨m,this⟩:=u.tbls b ps q;exact⟨m,by rw[h2 b (ne b _ this (fun _ z=>nomatch z))];exact this⟩
 show wpAny _ _ (leaving _ (.ref ea)) _ _ s;refine m8 (a0:=.ref t) I.ok.frames rfl hst (W.funFrames_hide I.stack hin) ?_ he rfl rfl rfl fun h' fl up=>?_
 ·exact W.hideAll_none _ (by rw[hfs];exact OL)
 ·exact⟨ea,C,.ref t,some dx,_,H1,rfl,I.os,I.bare,Bm hb1 hB hst fl.1 up (sD I),hok,fl,h1,hB,by rw[h3];exact q⟩
end
def Mu(a:Str)(C:Addr):Sp:=fun vs H Q _=>∃ea y,vs=[.ref ea,y]/\H ea=some (uT ea C)/\∀dx,H dx=none->dx≠ea->Q .non (b9 (b9 H dx (.xd [(a,y)])) ea (kg ea C dx))
def xv (mg:Str->Option Value) (base:Heap) (c:Str) (C fI:Addr):Prop:=mg c=some (.ref C)/\∃bmB newId σ initId bm N nm q bs hdct sn sub ab col dd k0 k1 k2 k3 k5 mN,base.get? C=some (excClassObj nm q C N bs bm hdct sn sub ab col dd k0 k1 k2 k3 k5 newId)/\base.Ns N mN/\mN "__init__" = some (.ref fI)/\OwnTail base bmB bm /\
 ExcBaseFacts σ newId initId bmB/\∃oI,base.get? fI=some oI/\oI.cls=.type "function"
section
variable{X:Cx}
theorem aX.newx(I:aX X pins B H s)(hm:Heap.MadeExcOf s.heap h' ea (.ref C) us):H ea=none/\aX X pins B (b9 H ea (uT ea C)) {s with heap:=h'}:=by
 have hn:H ea=none:=by
  cases z:H ea with
  |none=>rfl
  |some u=>
   obtain⟨o,e⟩:=(I.hok ea u z).thr;rw[hm.new]at e;cases e
 obtain⟨t,he,_,_⟩:=hm.there;have tr:∀b (o:HO),H b=some o->b9 H ea (uT ea C) b=some o:=fun b o q=>by rw[aV (bQ q hn)];exact q
 refine⟨hn,I.call' (s':={s with heap:=h'}) rfl ⟨fun b o q n _ _=>hm.keeps b o q,fun b o q n _ _=>⟨o.slots,hm.keeps b o q⟩,fun b o q n _=>?_,fun b o q _=>⟨o,hm.keeps b o q⟩,fun b xs q=>tr b _ q,fun b o u q=>tr b _ q,
  fun b ps q=>⟨#[],by rw[tr b _ q];simp⟩⟩ (fun b o q=>?_) I.bare (ch:=[]) (fun b z=>absurd z (by simp))⟩
 ·rw[aV fun z=>by rw[z,hm.new]at q;cases q];exact n
 ·by_cases z : b = ea
  ·subst z;rw[bj]at q;cases q;exact⟨⟨t,he⟩,⟨_,he⟩,fun h1 h2 a k=>by obtain⟨t',a⟩:=a;exact⟨t',k _ a⟩⟩
  ·rw[aV z]at q;exact(I.hok b o q).stay (fun c v _ r=>hm.keeps c v r) (fun c r=>tr c _ r) fun c xs r=>tr c _ r
end
section
variable{s0:Shared}{E:XK}
theorem Ai{a:Str}{ps:List Str}{t:TA}(O:xv mg base c C fI)(F:ll P w K mg base (Ec P w) k fI fd ps (Mu a C)){A':Around}(hr:dG (k+1) A')(hA:A'=(nq P w K mg base N qual scope f cdv A outer s0 H0 E).A)(hb:eS K fd ps [])(ha:PA (nq P w K mg base N qual scope f cdv A outer s0 H0 E) [e] t)(hg:Gl (nq P w K mg base N qual scope f cdv A outer s0 H0 E) c)(hd:(c == ("__debug__" : Str))=false)(he:starEach [e] (nq P w K mg base N qual scope f cdv A outer s0 H0 E).env=(false,eval e (nq P w K mg base N qual scope f cdv A outer s0 H0 E).env)::starEach [] (nq P w K mg base N qual scope f cdv A outer s0 H0 E).env:=by rfl):
  PS (nq P w K mg base N qual scope f cdv A outer s0 H0 E) (.Raise (some (.Call (.Name c np) [e] [] cpos)) none pos)
   (fun _ B H=>t B H fun vs H1=>∃y,vs=[y]/\∀ea dx,H1 ea=none->H1 dx=none->dx≠ea->E (.ref C) (some ea) (b9 (b9 H1 dx (.xd [(a,y)])) ea (ka ea C (some dx)))):=by
 intro pins s B H D I q;obtain⟨bound,bmB,newId,σ,initId,bm,Nn,nm,qn,bs,hdct,sn,sub,ab,col,dd,k0,k1,k2,k3,k5,mN,hC,hN,hi,T,FB,oI,hfI,hfc⟩:=O;subst hA
 refine w9 (C:=C) (nm:=nm) (q:=qn) (N:=Nn) (bs:=bs) (bm:=bm) (hdct:=hdct) (sn:=sn) (sub:=sub) (ab:=ab) (col:=col) (dd:=dd) (k0:=k0) (k1:=k1) (k2:=k2) (k3:=k3) (k5:=k5)
  FB (mN:=mN) (T.hasType FB.hasBase) (I.ok.hd rfl) (by rw[he];rfl) hi (kP I hg bound ⟨rfl,?_⟩ hd)
 have ha':=ha cpos pins s B H _ I q;rw[he]at ha'⊢;refine PySem.Calls.evalArgs_plain (cY ha' fun us s1 ⟨vs,H1,I1,r,y,ev,q1⟩=>?_);subst ev
 obtain⟨u,rfl⟩:∃u,us=[u]:=by
  cases r with
  |cons r1 r2=>cases r2;exact⟨_,rfl⟩
 have ry:bU y u:=by cases r with|cons r1 r2=>exact r1
 refine⟨rfl,?_,I1.bk _ _ hC,hN.keeps I1.bk,T.keeps I1.bk,⟨oI,I1.bk _ _ hfI,hfc⟩,fun h' ea hm=>?_⟩
 ·show 1<=sizeLine;decide
 obtain⟨hn,I2⟩:=I1.newx hm
 have hs0:s0.heap.get? ea=none:=by
  cases z:s0.heap.get? ea with
  |none=>rfl
  |some o=>
   obtain⟨o',e'⟩:=I1.base.there ea o z (fun z=>by cases z);rw[hm.new]at e';cases e'
 have hl:([Value.ref ea,u]++[]).length=ps.length:=by
  have:=F.len [.ref ea,y] (b9 H1 ea (uT ea C)) (fun _ _=>True) (fun _ _ _=>True) ⟨ea,y,rfl,bj,fun _ _ _=>trivial⟩;rw[<- this];rfl
 refine Pw (Px (F.run _ _ _ _ ⟨[.ref ea,u],[]⟩ ([.ref ea,u]++[]) [.ref ea,y] (fun v H2=>v=.non/\∃dx,H1 dx=none/\dx≠ea/\H2=b9 (b9 (b9 H1 ea (uT ea C)) dx (.xd [(a,y)])) ea (kg ea C dx)) E (hr.make C [u] []) (I2.env0.make C [u] [])
  (hb _ [.ref ea,u] I2.kIn hl) (.cons rfl (.cons ry .nil)) ⟨ea,y,rfl,bj,fun dx z1 z2=>⟨rfl,dx,by rw[aV z2]at z1;exact z1,z2,rfl⟩⟩) fun r s' hq'=>?_)
 cases r with
 |error e'=>exact LQ pins B _ _ e' s' I2 hq'
 |ok fl=>
  cases fl with
  |ret u'=>
   obtain⟨v,H',I3,rv,ev,dx,z1,z2,eH⟩:=I2.after hq';subst ev;have rv':u'=Value.none:=rv
   have eH':H'=b9 (b9 H1 dx (.xd [(a,y)])) ea (kg ea C dx):=by
    rw[eH];funext b;by_cases hb1:b=ea
    ·rw[hb1,bj,bj]
    ·rw [aV hb1, aV hb1];by_cases hb2:b=dx
     ·rw[hb2,bj,bj]
     ·rw[aV hb2,aV hb2,aV hb1]
   have e3:H' ea=some (kg ea C dx):=by rw[eH',bj]
   obtain⟨⟨t',het⟩,_,_⟩:=(show dk P w H' s'.heap ea (kg ea C dx) from I3.hok ea _ e3);refine⟨rv',some dx,t',I3.bk _ _ hC,het,JP I3 e3 hs0 ?_⟩;have q2:=q1 ea dx hn z1 z2;rw[eH']
   have:b9 (b9 (b9 H1 dx (.xd [(a,y)])) ea (kg ea C dx)) ea (ka ea C (some dx))=b9 (b9 H1 dx (.xd [(a,y)])) ea (ka ea C (some dx)):=by
    funext b;by_cases hb1:b=ea
    ·rw[hb1,bj,bj]
    ·rw[aV hb1,aV hb1,aV hb1]
   rw[this];exact q2
  |next=>exact False.elim hq'
  |brk=>exact False.elim hq'
  |cont=>exact False.elim hq'
end
def yO (K:W.Frag) (C:Addr) (f:Str):Bool:=W.findIn K (.ref C) "__getattribute__" == some (some (.builtin "BaseException.__getattribute__"))&&W.findIn K (.ref C) "__getattr__" == some none&&W.mroIn K C (.type "BaseException") == some true &&
 W.findIn K (.ref C) f == some none&&W.hasDictIn K C
def Ll(K:W.Frag)(ta:TE)(f:Str):TE:=fun B H Q=>ta B H fun x H1=>∃a C dx fs i,x=.ref a/\H1 a=some (ka a C (some dx))/\H1 dx=some (.xd fs)/\yO K C f=true/\fs.lookup f=some (.int i)/\Q (.int i) H1
section
variable{X:Cx}{ta:TE}{f:Str}
theorem Fu(he:PE X e ta)(hb:attributeBase e f X.env (eval e X.env)=eval e X.env):PE X (.Attribute e f pos) (Ll X.K ta f):=by
 intro pins s B H Q I h;refine Gp hb (cY (he pins s B H _ I h) fun u s1 ⟨x,H1,I1,rx,a,C,dx,fs,i,ex,ea,ed,hc,l,q⟩=>?_);subst ex;obtain rfl:u=Value.ref a:=rx;obtain⟨⟨oe,h1,h2,h3,h4⟩,_⟩:=(show dk X.prog X.w H1 s1.heap a (ka a C (some dx)) from I1.hok a _ ea);obtain⟨mA,hn,r⟩:=(show dk X.prog X.w H1 s1.heap dx (.xd fs) from I1.hok dx _ ed);obtain⟨od,ho,hl⟩:=AC hn;unfold yO at hc;simp only[Qn,Sv]at hc;obtain⟨⟨⟨⟨c1,c2⟩,c3⟩,c4⟩,c5⟩:=hc;have rf:=r f;rw[l]at rf
 obtain⟨v,hv,t,rfl⟩:∃v,mA f=some v/\∃t,v=.int i t:=by
  cases z:mA f with
  |none=>rw[z]at rf;exact False.elim rf
  |some v=>rw[z]at rf;exact⟨v,rfl,rf⟩
 exact W.getx I1.kIn ⟨h1,h2,h4,by rw[h3];exact ho⟩ c1 c2 c3 (W.findObj_own c5 c4 rfl (by rw[hl,hv])) rfl fun tk'=>⟨.int i,H1,I1.tok _,⟨t,rfl⟩,q⟩
end
end L2
namespace L2
open PySem PySem.Spec PyProof.Rows RS
def K9(E:XK)(C:Addr)(x:DX)(H:Hp):Prop:=(x.args=[]->∀ea,H ea=none->E (.ref C) (some ea) (b9 H ea (ka ea C none))) /\
 (x.args≠[]->∀ea dx,H ea=none->H dx=none->dx≠ea->E (.ref C) (some ea) (b9 (b9 H dx (.xd (x.args.map fun p=>(p.1,V.int p.2)))) ea (ka ea C (some dx))))
abbrev D2(K:W.Frag)(w:World)(E:XK):Pa:=⟨K,w,fun x _ H _=>∃C,W.nsIn K mainGlobals x.cls=some (some (.ref C))/\K9 E C x H⟩
def N3(K:W.Frag)(w:World)(n:Nat)(F:List D->aA->aj D):Sp:=fun vs H Q E=>vs.length=n/\∃J ds Y,gG K w H J Y/\Reps K H J ds vs/\aO (D2 K w E) H J (F ds Y) (RV (D2 K w E) Q)
structure Em(P:Program)(w:World)(K:W.Frag)(mg:Str->Option Value)(base:Heap)(k:Nat)(x:Str)(n:Nat)(F:List D->aA->aj D):Prop where
 len:∀ds Y,ds.length≠n->F ds Y=.bad
 fn:∃f fd ps,mg x=some (.ref f)/\W.keepIn K (.ref f)=true/\eS K fd ps []/\ll P w K mg base (Ec P w) k f fd ps (N3 K w n F)
theorem HE{ps:List Str}(F:gF K x qual st f fd)(S:aW N ps (au st))(hn:ps.length=n)(hm:mg x=some (.ref f))(hb:eS K fd ps [])(body : ∀ (cdv : Value) (A : Around) (outer : List Env) (s : Shared) (H : Hp) (E : XK), dG k (A.deeper (envOfC qual (au st) s.heap.objs.size f cdv)) ->
   Bx (jy (nq P w K mg base N qual (au st) f cdv A outer s H E) (bT st) (iw (D2 K w E) fb))):Em P w K mg base (k+1) x n (hU n N.length fb):=by
 refine⟨fun ds Y h=>by unfold hU;rw[OB h],f,fd,ps,hm,F.kp,hb,?_⟩;obtain⟨oc,od,kV,doc,pm,an,cdv,ct,osl,rfl,lk,hcd⟩:=F.ex;refine BA lk hcd S (fun vs H Q E h=>h.1.trans hn.symm) fun A outer s H vs Q E hr h=>?_;refine⟨_,(body cdv A outer s H E hr).h,?_⟩;obtain⟨hl,J,ds,Y,S1,R1,P1⟩:=h;unfold hU at P1;have hd:ds.length=n:=by rw[<- R1.length];exact hl
 rw[OA hd]at P1;have P2:=pk S1 P1;unfold start;rw[hl];refine⟨J,_,Y,S1,jQ R1 _,?_⟩;cases e:fb (ds.map some++List.replicate (N.length-n) none) Y with
 |ret d Y'=>rw[e]at P2;exact fun H' J' v x s r=>P2 H' J' x s v r
 |next Z Y'=>rw[e]at P2;exact fun H' J' B' x s r=>P2 H' J' x s .non (bK.mpr rfl)
 |exc x Y'=>rw[e]at P2;exact P2
 |brk Z Y'=>rw[e]at P2;exact P2.elim
 |cnt Z Y'=>rw[e]at P2;exact P2.elim
 |bad=>rw[e]at P2;exact P2.elim
section
variable{X:Cx}{E:XK}{a:Expr}{es:List Expr}
theorem Ex (h:Em X.prog X.w X.K X.mg X.base k x n F) (hp:jG (Ec X.prog X.w) X E) (hr:dG k X.A) (ha:Bx (PA X (a::es) (jw (D2 X.K X.w E) fr))) (hg:Gl X x:=by rfl) (hdb:(x == ("__debug__" : Str))=false:=by decide)
  (he:starEach (a::es) X.env=(false,eval a X.env)::starEach es X.env:=by rfl) (hpl:(backTo pos (starEach es X.env)).any (·.1)=false:=by rfl):Bx (PE X (.Call (.Name x px) (a::es) [] pos) (tD (D2 X.K X.w E) (aI F fr))):=Bx.mk (by
 obtain⟨f,fd,ps,h1,h2,h3,h4⟩:=h.fn;refine(tR (dvs:=[]) (E:=E) h4 hr hg h1 h2 h3 .nil hp ha.h hdb he hpl).weak fun B H Q ⟨J,Z,Y,S,R,P⟩=>⟨J,Z,Y,S,R,(aO.bind P).imp fun ds Y1 H1 J1 X1 S1 P1 vs rv=>?_⟩;show N3 X.K X.w n F (vs++[]) H1 Q E;rw[Pv];refine⟨?_,J1,ds,Y1,S1,rv,P1⟩;by_cases hl:ds.length=n
 ·rw[rv.length];exact hl
 ·rw[h.len ds Y1 hl]at P1;exact P1.elim)
theorem oY(h:dy X.prog X.w X.K X.mg X.base p.nx k x n F)(hr:dG k X.A)(ha:Bx (PA X (a::es) (jw p fr)))(hg:Gl X x:=by rfl)(hdb:(x == ("__debug__" : Str))=false:=by decide)(he:starEach (a::es) X.env=(false,eval a X.env)::starEach es X.env:=by rfl)(hpl:(backTo pos (starEach es X.env)).any (·.1)=false:=by rfl):Bx (PE X (.Call (.Name x px) (a::es) [] pos) (tD p (aI (fun ds Y=>(F ds Y).nox) fr))):=Bx.mk (by
 obtain⟨f,fd,ps,h1,h2,h3,h4⟩:=h.fn;refine(tR (dvs:=[]) (E:=E0) h4 hr hg h1 h2 h3 .nil yG ha.h hdb he hpl).weak fun B H Q ⟨J,Z,Y,S,R,P⟩=>⟨J,Z,Y,S,R,(aO.bind P).imp fun ds Y1 H1 J1 X1 S1 P1 vs rv=>?_⟩;show A8 p.nx n F (vs++[]) H1 Q E0;rw[Pv]
 have P2:aO p.nx H1 J1 (F ds Y1) (RV p.nx Q):=by
  cases e:F ds Y1 with
  |ok d Y'=>rw[e]at P1;exact P1
  |exc y Y'=>rw[e]at P1;exact False.elim P1
  |bad=>rw[e]at P1;exact P1
 refine⟨?_,J1,ds,Y1,S1,rv,P2⟩;by_cases hl:ds.length=n
 ·rw[rv.length];exact hl
 ·rw[h.len ds Y1 hl]at P2;exact P2.elim)
end
section
variable{s0:Shared}{E:XK}
def fw(c a:Str)(fr:MA):MS:=fun Z Y=>match fr Z Y with
 |.ok [.int i] Y1=>.exc ⟨c,[(a,i)]⟩ Y1
 |.exc x Y1=>.exc x Y1
 |_=>.bad
theorem CA{a:Str}{ps:List Str}(hc:W.nsIn K mainGlobals c=some (some (.ref C)))(O:xv mg base c C fI)(F:ll P w K mg base (Ec P w) k fI fd ps (Mu a C))(hr:dG (k+1) (nq P w K mg base N qual scope f cdv A outer s0 H0 E).A)(hb:eS K fd ps [])(ha:Bx (PA (nq P w K mg base N qual scope f cdv A outer s0 H0 E) [e] (jw (D2 K w E) fr)))(hg:Gl (nq P w K mg base N qual scope f cdv A outer s0 H0 E) c:=by rfl)(hd:(c == ("__debug__" : Str))=false:=by decide)(he:starEach [e] (nq P w K mg base N qual scope f cdv A outer s0 H0 E).env=(false,eval e (nq P w K mg base N qual scope f cdv A outer s0 H0 E).env)::starEach [] (nq P w K mg base N qual scope f cdv A outer s0 H0 E).env:=by rfl):
  Bx (PS (nq P w K mg base N qual scope f cdv A outer s0 H0 E) (.Raise (some (.Call (.Name c np) [e] [] cpos)) none pos) (iw (D2 K w E) (fw c a fr))):=Bx.mk (by
 refine(Ai O F hr rfl hb ha.h hg hd he).weak fun D B H ⟨J,Z,Y,S,R,P⟩=>⟨J,Z,Y,S,R,?_⟩;unfold fw at P;cases z:fr Z Y with
 |bad=>rw[z]at P;exact False.elim P
 |exc x Y1=>rw[z]at P;exact P
 |ok ds Y1=>
  rw[z]at P
  match ds,P with
  |[.int i],P=>
   intro H1 J1 X1 S1 vs rv
   obtain⟨y,rfl,ry⟩:∃y,vs=[y]/\y=V.int i:=by
    simp only[Reps,aP]at rv;obtain⟨v,r,e1,e2,e3⟩:=rv;subst e3;exact⟨v,e1,e2⟩
   subst ry;obtain⟨C',h1,h2⟩:=P H1 J1 X1 S1;rw[hc]at h1;cases h1
   exact⟨.int i,rfl,h2.2 (by simp)⟩)
end
def SO.ro(o:SO):SO:=match o with
 |.ret d Y=>.ret d Y
 |_=>.bad
def Gx(x:DX):O:=match x.args with
 |[]=>.exc x.cls
 |fs=>.exn x.cls fs
def Bc(known:List Str)(i N:Nat)(fb fh:MS):MS:=fun Z Y=>match fb Z Y with
 |.exc x Y'=>if known.contains x.cls=true then (fh ((List.replicate N none).set i (some (.obj Y'.length))) (Y'++[Gx x])).ro else .bad
 |o=>o
def vd(K:W.Frag)(r:Str)(R:Addr)(known:List Str):Prop:=∀c∈known,∃C,W.nsIn K mainGlobals c=some (some (.ref C))/\W.exmOne K (.ref C) (.ref R)=some true
theorem fg.ro{o:SO}{D:nv}(h:fg p H J o.ro D):fg p H J o {nx:=fun _ _=>False,rt:=D.rt}:=by
 cases o with
 |ret d Y=>exact h
 |next Z Y=>exact False.elim h
 |brk Z Y=>exact False.elim h
 |cnt Z Y=>exact False.elim h
 |exc x Y=>exact False.elim h
 |bad=>exact False.elim h
theorem K7{X:Cx}{xw:DX->aA->Hp->List Addr->Prop}{r n:Str}{R:Addr}{m:Nat}{hpos:Pos}{suite:List Stmt}{b0:Stmt}{fh:MS}(F:X.Fn)(hN:X.N.Nodup)(hk:vd X.K r R known)(hm:X.mg r=some (.ref R))(hb:∀pins E,Bx (jy (X.tri pins E) body (iw (D2 X.K X.w E) fb)))(hs:∀ea,Bx (jy (X.hnd ea) (b0::suite) (iw ⟨X.K,X.w,xw⟩ fh)))(hl:X.N.length=m:=by rfl)(hi:X.N[i]?=some n:=by rfl)(hx:D6 X.env.scope n:=by exact Or.inl rfl)(hlo:X.env.kindOf n=some .local:=by rfl)(hg:Gl X r:=by rfl)(hd:(r == ("__debug__" : Str))=false:=by decide):
  Bx (PS X (.Try body [.ExceptHandler (some (.Name r np)) (some n) (b0::suite) hpos] [] [] pos) (iw ⟨X.K,X.w,xw⟩ (Bc known i m fb fh))):=Bx.mk (by
 refine(IS F hN hi hx hlo hg hm hd (fun pins E=>(hb pins E).h) fun ea=>(hs ea).h).weak fun D B H ⟨J,Z,Y,S,Rl,P⟩=>?_
 refine⟨fun cls ea' H'=>∃C ea,cls=.ref C/\ea'=some ea/\(W.exmOne X.K (.ref C) (.ref R)=some true/\∀B':St,B'.length=X.N.length->iw ⟨X.K,X.w,xw⟩ fh {nx:=fun _ _=>False,rt:=D.rt} (B'.set i (some (.ref ea))) H'),
  fun C ea H' h=>?_,J,Z,Y,S,Rl,?_⟩
 ·obtain⟨C',ea',h1,h2,h3⟩:=h;cases h1;cases h2;exact h3
 ·unfold Bc at P;cases e:fb Z Y with
  |ret d Y'=>rw[e]at P;exact P
  |next Z' Y'=>rw[e]at P;exact P
  |brk Z' Y'=>rw[e]at P;exact P
  |cnt Z' Y'=>rw[e]at P;exact P
  |bad=>rw[e]at P;exact P
  |exc x Y'=>
   rw[e]at P;dsimp only at P;by_cases hc:known.contains x.cls=true
   ·rw [OA hc] at P;obtain⟨C,c1,c2⟩:=hk x.cls (SQ.mp hc);intro H' J' X' S';have X3:lA X.K H H' J J':=X'
    have core:∀(ea:Addr)(H2:Hp),lA X.K H' H2 J' (J'++[ea])->gG X.K X.w H2 (J'++[ea]) (Y'++[Gx x])->∀B':St,B'.length=X.N.length->iw ⟨X.K,X.w,xw⟩ fh {nx:=fun _ _=>False,rt:=D.rt} (B'.set i (some (.ref ea))) H2:=fun ea H2 X2 S2 B' hσ=>by
     refine⟨J'++[ea],_,_,S2,⟨by simp[hσ,hl],fun j d hj=>?_⟩,(fg.from (p:=⟨X.K,X.w,xw⟩) (X3.trans X2) P).ro⟩;by_cases hji:j=i
     ·subst hji
      have hlt:j<(List.replicate m (none:Option L2.D)).length:=by
       have:=(OS.mp hi).1;simp;omega
      rw[OU hlt]at hj;cases hj;refine⟨.ref ea,by rw[OU (by rw[hσ];simpa[hl] using hlt)],bf.mpr ⟨ea,rfl,?_⟩⟩;have hla:J'.length=Y'.length:=S'.len;rw[<- hla,PN (Pf _)];simp
     ·rw[OV (OP hji),PQ]at hj;split at hj <;> cases hj
    refine⟨C,c1,fun e0 ea hea=>⟨C,ea,rfl,rfl,c2,core ea _ ((bV hea).trans (jk [ea])) ?_⟩,fun e0 ea dx hea hdx hne=>⟨C,ea,rfl,rfl,c2,core ea _ ?_ ?_⟩⟩
    ·have hx : Gx x = .exc x.cls := by unfold Gx; rw [e0]
     rw[hx];exact gG.more S' hea ⟨C,none,c1,bj⟩
    ·exact(bV hdx).trans ((bV (by rw[aV (OP hne)];exact hea)).trans (jk [ea]))
    ·have hx:Gx x=.exn x.cls x.args:=by
      unfold Gx;cases z:x.args with
      |nil=>exact absurd z e0
      |cons _ _=>rfl
     rw[hx];have S1:gG X.K X.w (b9 H' dx (.xd (x.args.map fun p=>(p.1,V.int p.2)))) J' Y':=S'.same (bV hdx) fun a ha=>aV fun z=>ha (by rw[z];exact hdx);exact gG.more S1 (by rw[aV (OP hne)];exact hea) ⟨C,dx,c1,bj,by rw[aV hne,bj]⟩
   ·rw [OB hc] at P
    exact False.elim P)
theorem Co{E:XK}:(pO CX P w K mg base N qual scope f cdv A outer s H E).nox.Fn:=⟨rfl,rfl,rfl⟩
theorem sN{x:V}:∀{xs:List V}{us:List Value},br xs us->xs.all kf=true->us.countP (Hg x)=xs.countP fun y=>yB y x
 |_,_,.nil,_=>rfl
 |y::xs,u::us,.cons r t,f=>by
  rw[Qu,Qn]at f;rw[List.countP_cons,List.countP_cons,xF r f.1,sN t f.2]
def σ8:V->List V->Hp->VK->Prop:=fun x vs H Q=>∃l xs y,x=.ref l/\vs=[y]/\H l=some (.lst xs)/\kf y=true/\xs.all kf=true/\Q (.int (xs.countP fun z=>yB z y:Nat)) H
def σ7:V->List V->Hp->VK->Prop:=fun x vs H Q=>∃l xs y j,x=.ref l/\vs=[y]/\H l=some (.lst xs)/\kf y=true/\xs.all kf=true/\(∃z,xs[j]?=some z/\yB z y=true)/\(∀m z,m<j->xs[m]?=some z->yB z y=false)/\xs.length<1000/\Q (.int (j:Nat)) H
section
variable{X:Cx}
theorem Dr:MM X "list.count" σ8:=by
 intro pins s B H x vs v us Q I rx rv h;obtain⟨l,xs,y,rfl,rfl,hH,fy,fs,q⟩:=h;cases rx;obtain⟨u,rfl,ru⟩:=rv.one;obtain⟨z,its,n,r,hl,e⟩:=I.lstM hH;refine QB F.slot_list_count ⟨_,e,rfl⟩ F.entry_list_count (F.args_list_count_2 _ _) (SeqAt.list_countAt l its.toArray n none #[] u (Hg y)) ⟨e,fun w hw=>qp ru fy r fs w (by simpa using hw),?_⟩;refine⟨.int (xs.countP fun z=>yB z y:Nat),H,I.tok _,⟨s.toks,?_⟩,q⟩;rw[<- sN r fs]
theorem Dq:MM X "list.index" σ7:=by
 intro pins s B H x vs v us Q I rx rv h;obtain⟨l,xs,y,j,rfl,rfl,hH,fy,fs,⟨z0,hz,ht⟩,hno,hsz,q⟩:=h;cases rx;obtain⟨u,rfl,ru⟩:=rv.one;obtain⟨z,its,n,r,hl,e⟩:=I.lstM hH;have hlt:j<xs.length:=(OS.mp hz).1
 have hb:∀m w,its[m]?=some w->∃z,xs[m]?=some z/\Hg y w=yB z y:=fun m w hw=>by
  have hm:m<its.length:=(OS.mp hw).1;have hm':m<xs.length:=by rw[r.length];exact hm
  obtain⟨u',hu',ru'⟩:=r.get (Sk hm');rw[hw]at hu';cases hu';exact⟨_,Sk hm',xF ru' (RI.mp fs _ (Sj hm'))⟩
 have hlen:=r.length;refine QB F.slot_list_index ⟨_,e,rfl⟩ F.entry_list_index (F.args_list_index_2 _ _) (SeqAt.list_indexAt l its.toArray n none #[] u (Hg y) j (by rw[Pq];omega) (by omega) ?_ ?_) ⟨e,fun w hw=>qp ru fy r fs w (by simpa using hw),?_⟩
 ·have hw:its[j]?=some its[j]:=Sk (by omega);obtain⟨z1,a1,a2⟩:=hb j _ hw;rw[hz]at a1;cases a1;show Hg y its.toArray[j]=true;rw[List.getElem_toArray,a2];exact ht
 ·intro m hm hmj;have hm':m<its.length:=by rw[Pq]at hm;exact hm
  obtain⟨z1,a1,a2⟩:=hb m _ (Sk hm');rw[List.getElem_toArray,a2];exact hno m z1 hmj a1
 ·exact⟨.int (j:Nat),H,I.tok _,⟨s.toks,rfl⟩,q⟩
end
def ke:List D->Bool
 |[]=>true
 |.bl _::r=>ke r
 |_::_=>false
def nu:D->Bool
 |.bl b=>b
 |_=>false
theorem wg:∀{vs:List V},Reps K H J xs vs->ke xs=true->vs=xs.map fun d=>V.bl (nu d):=by
 induction xs with
 |nil=>intro vs h _;simp only[Reps]at h;exact h
 |cons d r ih=>
  intro vs h q;simp only[Reps]at h;obtain⟨v,r',rfl,h1,h2⟩:=h;cases d with
  |bl b=>rw[aU.mp h1,ih h2 (by simpa only[ke] using q)];rfl
  |non=>simp only[ke]at q;cases q
  |int i=>simp only[ke]at q;cases q
  |str i=>simp only[ke]at q;cases q
  |tup i=>simp only[ke]at q;cases q
  |frz i=>simp only[ke]at q;cases q
  |obj i=>simp only[ke]at q;cases q
theorem qu:∀xs:List D,(xs.map fun d=>V.bl (nu d)).all kf=true
 |[]=>rfl
 |_::xs=>by rw[Qp,Qu,qu xs];rfl
def kX(d:D)(ds:List D)(Y:aA):aj D:=match d,ds with
 |.obj n,[.bl true]=>match Y[n]? with
  |some (.lst xs)=>if ke xs=true then .ok (.int (xs.countP nu:Nat)) Y else .bad
  |_=>.bad
 |_,_=>.bad
def kW(d:D)(ds:List D)(Y:aA):aj D:=match d,ds with
 |.obj n,[.bl true]=>match Y[n]? with
  |some (.lst xs)=>if ke xs=true/\xs.length<1000/\xs.any nu=true then .ok (.int (xs.findIdx nu:Nat)) Y else .bad
  |_=>.bad
 |_,_=>.bad
section
theorem Az:Gz p kX σ8:=by
 intro d ds v vs H J Y Q S rd rs P;unfold kX at P;split at P
 ·split at P
  ·rename_i n xs hx;split at P
   ·rename_i hb;obtain⟨a,us,rfl,a1,h1,rr⟩:=cI S rd hx;have hv:=wg rr hb;simp only[Reps]at rs;obtain⟨y,r',rfl,h3,rfl⟩:=rs;rw[aU.mp h3];refine⟨a,us,.bl true,rfl,rfl,h1,rfl,by rw[hv];exact qu xs,?_⟩;have z:=P.now S (.int (xs.countP nu:Nat)) (ar.mpr rfl)
    have e:(us.countP fun z=>yB z (.bl true))=xs.countP nu:=by
     rw[hv,List.countP_map];congr 1;funext d;cases h:nu d <;> simp[yB,h]
    rw[e];exact z
   ·exact P.elim
  ·exact P.elim
 ·exact P.elim
theorem Ax:Gz p kW σ7:=by
 intro d ds v vs H J Y Q S rd rs P;unfold kW at P;split at P
 ·split at P
  ·rename_i n xs hx;split at P
   ·rename_i hb;obtain⟨hb,hlen,hany⟩:=hb;obtain⟨a,us,rfl,a1,h1,rr⟩:=cI S rd hx;have hv:=wg rr hb;simp only[Reps]at rs;obtain⟨y,r',rfl,h3,rfl⟩:=rs;rw[aU.mp h3];have hlt:xs.findIdx nu<xs.length:=List.findIdx_lt_length_of_exists (by simpa using hany);refine⟨a,us,.bl true,xs.findIdx nu,rfl,rfl,h1,rfl,by rw[hv];exact qu xs,⟨.bl true,?_,rfl⟩,fun m z hm hz=>?_,by rw[hv,PZ];exact hlen,P.now S (.int (xs.findIdx nu:Nat)) (ar.mpr rfl)⟩
    ·rw[hv,PU,Sk hlt];have:=List.findIdx_getElem (w:=hlt);simp[this]
    ·rw [hv, PU, Sk (by omega : m < xs.length)] at hz;cases hz;have hf:=List.not_of_lt_findIdx hm;show (nu _ == true)=false;rw[beq_true];cases z:nu xs[m] with
     |false=>rfl
     |true=>rw[z]at hf;exact absurd hf (by decide)
   ·exact P.elim
  ·exact P.elim
 ·exact P.elim
end
def lS(subs known:List Str)(d:D)(Y:aA):aj D:=match d with
 |.obj n=>match Y[n]? with
  |some (.exc c)=>if known.contains c=true then .ok (.bl (subs.contains c)) Y else .bad
  |some (.exn c _)=>if known.contains c=true then .ok (.bl (subs.contains c)) Y else .bad
  |_=>.bad
 |_=>.bad
def bW(K:W.Frag)(u:Value)(subs known:List Str):Prop:=∀c∈known,∃C,W.nsIn K mainGlobals c=some (some (.ref C))/\W.excCls K C=true/\W.kitOne K (.ref C) u=some (subs.contains c)
theorem Cf{x:V}{d:D}{Q:VK}(hK:K=p.K)(hk:bW K u subs known)(ru:bU v u)(S:p.S H J Y)(r:p.R H J d x)(P:aO p H J (lS subs known d Y) (RV p Q)):KQ K u [x,v] H Q:=by
 subst hK;unfold lS at P;split at P
 ·split at P
  ·rename_i n c hx;split at P
   ·rename_i hc;obtain⟨a,ea,C,dx,h1,h2⟩:=S.at hx;obtain⟨a',rfl,ea'⟩:=bf.mp r;rw[ea]at ea';cases ea';obtain⟨C',k1,k2,k3⟩:=hk c (SQ.mp hc);rw[h1]at k1;cases k1;exact⟨a,C,_,v,rfl,ru,⟨dx,h2⟩,k2,k3,P.now S _ (aU.mpr rfl)⟩
   ·exact P.elim
  ·rename_i n c fs hx;split at P
   ·rename_i hc;obtain⟨a,ea,C,dx,h1,h2,_⟩:=S.at hx;obtain⟨a',rfl,ea'⟩:=bf.mp r;rw[ea]at ea';cases ea';obtain⟨C',k1,k2,k3⟩:=hk c (SQ.mp hc);rw[h1]at k1;cases k1;exact⟨a,C,_,v,rfl,ru,⟨some dx,h2⟩,k2,k3,P.now S _ (aU.mpr rfl)⟩
   ·exact P.elim
  ·exact P.elim
 ·exact P.elim
section
variable{X:Cx}{a:Expr}{fo:ME}{pt:Pos}{xT:Str}
theorem n3(hk:bW X.K (.ref C) subs known)(hm:X.mg "isinstance" = none)(hmT:X.mg xT=some (.ref C))(ha:Bx (PE X a (tD p fa)))(hg:Gl X "isinstance" := by rfl)(hgT:Gl X xT:=by rfl)(hdT:(xT == ("__debug__" : Str))=false:=by decide)(hs1:starEach [a,.Name xT pt] X.env=(false,eval a X.env)::starEach [.Name xT pt] X.env:=by rfl)(hK:X.K=p.K:=by rfl):Bx (PE X (.Call (.Name "isinstance" px) [a,.Name xT pt] [] pos) (tD p (i7 (lS subs known) fa))):=Bx.mk (by
 have hb:PE X (.Name xT pt) (tC (.ref C)):=tQ hgT hmT rfl hdT;refine(mR (we (u:=.ref C) fun v w h1 h2=>?_) hg hm SJ (jH ha.h (jH hb tE rfl) hs1) (by decide) (by decide) hs1 rfl).weak fun B H Q ⟨J,Z,Y,S,R,P⟩=>⟨J,Z,Y,S,R,(aO.bind P).imp fun d Y1 H1 J1 X1 S1 P1 v rv=>?_⟩
 ·cases v with
  |ref b=>cases (show Value.ref C=Value.ref b from h1);exact h2
  |non=>cases (show Value.ref C=Value.none from h1)
  |bl b=>cases (show Value.ref C=Value.bool b from h1)
  |int b=>obtain⟨t,z⟩:=(show ∃t,Value.ref C=Value.int b t from h1);cases z
  |str b=>obtain⟨t,z⟩:=(show ∃t,Value.ref C=Value.str b t from h1);cases z
  |byt b=>obtain⟨t,z⟩:=(show ∃t,Value.ref C=Value.bytes b t from h1);cases z
  |flt b=>obtain⟨t,z⟩:=(show ∃t,Value.ref C=Value.float b t from h1);cases z
  |ty b=>cases (show Value.ref C=Value.type b from h1)
 ·exact Cf hK hk rfl S1 rv P1)
theorem HH(hk:bW X.K (.type T) subs known)(hm:X.mg "isinstance" = none)(hmT:X.mg xT=none)(hbT:bootBuiltins xT=some (.type T))(ha:Bx (PE X a (tD p fa)))(hg:Gl X "isinstance" := by rfl)(hgT:Gl X xT:=by rfl)(hnT:xT ≠ "__name__" := by decide)(hdT:(xT == ("__debug__" : Str))=false:=by decide)(hs1:starEach [a,.Name xT pt] X.env=(false,eval a X.env)::starEach [.Name xT pt] X.env:=by rfl)(hK:X.K=p.K:=by rfl):Bx (PE X (.Call (.Name "isinstance" px) [a,.Name xT pt] [] pos) (tD p (i7 (lS subs known) fa))):=Bx.mk (by
 have hb:PE X (.Name xT pt) (tC (.ty T)):=zi hgT hmT hbT rfl hnT hdT;refine(mR (we (u:=.type T) fun v w h1 h2=>?_) hg hm SJ (jH ha.h (jH hb tE rfl) hs1) (by decide) (by decide) hs1 rfl).weak fun B H Q ⟨J,Z,Y,S,R,P⟩=>⟨J,Z,Y,S,R,(aO.bind P).imp fun d Y1 H1 J1 X1 S1 P1 v rv=>?_⟩
 ·cases v with
  |ty b=>cases (show Value.type T=Value.type b from h1);exact h2
  |non=>cases (show Value.type T=Value.none from h1)
  |bl b=>cases (show Value.type T=Value.bool b from h1)
  |int b=>obtain⟨t,z⟩:=(show ∃t,Value.type T=Value.int b t from h1);cases z
  |str b=>obtain⟨t,z⟩:=(show ∃t,Value.type T=Value.str b t from h1);cases z
  |byt b=>obtain⟨t,z⟩:=(show ∃t,Value.type T=Value.bytes b t from h1);cases z
  |flt b=>obtain⟨t,z⟩:=(show ∃t,Value.type T=Value.float b t from h1);cases z
  |ref b=>cases (show Value.type T=Value.ref b from h1)
 ·exact Cf hK hk rfl S1 rv P1)
theorem Ld (ho:Bx (PE X ob (tD p fo))) (ha:Bx (PA X [e] (jw p fr))) (hbase:attributeBase ob "count" X.env (eval ob X.env)=eval ob X.env:=by rfl) (hfew:((backTo pos (starEach [e] X.env)).all (fun x=>!x.1)&&(backToKw pos (keywordEach [] X.env)).all (fun x=>x.1.isSome)
   && decide ([e].length+([]:List Keyword).length+(if ([]:List Keyword).isEmpty then 0 else 1)<30))=true:=by rfl) (hline:(apos.endLine == pos.line)=true:=by rfl) (hs:starEach [e] X.env=(false,eval e X.env)::starEach [] X.env:=by rfl) (hpl:(backTo pos (starEach [] X.env)).any (·.1)=false:=by rfl) (hK:X.K=p.K:=by rfl):Bx (PE X (.Call (.Attribute ob "count" apos) [e] [] pos) (tD p (yC kX fo fr))):=
 ⟨yE hK PySem.F.slot_list_count PySem.F.type_list_count Dr Az ho.h ha.h hbase hfew hline hs hpl⟩
theorem Lb (ho:Bx (PE X ob (tD p fo))) (ha:Bx (PA X [e] (jw p fr))) (hbase:attributeBase ob "index" X.env (eval ob X.env)=eval ob X.env:=by rfl) (hfew:((backTo pos (starEach [e] X.env)).all (fun x=>!x.1)&&(backToKw pos (keywordEach [] X.env)).all (fun x=>x.1.isSome)
   && decide ([e].length+([]:List Keyword).length+(if ([]:List Keyword).isEmpty then 0 else 1)<30))=true:=by rfl) (hline:(apos.endLine == pos.line)=true:=by rfl) (hs:starEach [e] X.env=(false,eval e X.env)::starEach [] X.env:=by rfl) (hpl:(backTo pos (starEach [] X.env)).any (·.1)=false:=by rfl) (hK:X.K=p.K:=by rfl):Bx (PE X (.Call (.Attribute ob "index" apos) [e] [] pos) (tD p (yC kW fo fr))):=
 ⟨yE hK PySem.F.slot_list_index PySem.F.type_list_index Dq Ax ho.h ha.h hbase hfew hline hs hpl⟩
end
structure pQ(P:Program)(w:World)(K:W.Frag)(mg:Str->Option Value)(base:Heap)(p:Pa)(k:Nat)(x:Str)(n:Nat)(F:List D->aA->aj D):Prop where
 len:∀ds Y,ds.length≠n->F ds Y=.bad
 fn:∃f fd ps,mg x=some (.ref f)/\W.keepIn K (.ref f)=true/\eS K fd ps []/\vf P w K mg base xk k f fd ps (A8 p n F)
theorem BG{ps:List Str}(F:gF K x qual st f fd)(S:aW N ps (au st))(hn:ps.length=n)(hm:mg x=some (.ref f))(hb:eS K fd ps [])(body : ∀ (cdv : Value) (A : Around) (outer : List Env) (s : Shared) (H : Hp) (E : XK), ff k (A.deeper (envOfC qual (au st) s.heap.objs.size f cdv)) ->
   Bx (jy (pY xk P w K mg base N qual (au st) f cdv A outer s H E).nox (bT st) (iw p fb))):pQ P w K mg base p (k+1) x n (hU n N.length fb):=by
 refine⟨fun ds Y h=>by unfold hU;rw[OB h],f,fd,ps,hm,F.kp,hb,?_⟩;refine F.okH S (fun vs H Q E h=>h.1.trans hn.symm) fun cdv A outer s H vs Q E hr h=>?_;refine⟨_,(body cdv A outer s H E hr).h,?_⟩;obtain⟨hl,J,ds,Y,S1,R1,P1⟩:=h;unfold hU at P1;have hd:ds.length=n:=by rw[<- R1.length];exact hl
 rw[OA hd]at P1;have P2:=pk S1 P1;unfold start;rw[hl];refine⟨J,_,Y,S1,jQ R1 _,?_⟩;cases e:fb (ds.map some++List.replicate (N.length-n) none) Y with
 |ret d Y'=>rw[e]at P2;exact fun H' J' v x s r=>P2 H' J' x s v r
 |next Z Y'=>rw[e]at P2;exact fun H' J' B' x s r=>P2 H' J' x s .non (bK.mpr rfl)
 |exc x Y'=>rw[e]at P2;exact P2
 |brk Z Y'=>rw[e]at P2;exact P2.elim
 |cnt Z Y'=>rw[e]at P2;exact P2.elim
 |bad=>rw[e]at P2;exact P2.elim
theorem yR{X:Cx}{a:Expr}{es:List Expr}(h:pQ X.prog X.w X.K X.mg X.base p k x n F)(hr:ff k X.A)(ha:Bx (PA X (a::es) (jw p fr)))(hg:Gl X x:=by rfl)(hdb:(x == ("__debug__" : Str))=false:=by decide)(he:starEach (a::es) X.env=(false,eval a X.env)::starEach es X.env:=by rfl)(hpl:(backTo pos (starEach es X.env)).any (·.1)=false:=by rfl):Bx (PE X (.Call (.Name x px) (a::es) [] pos) (tD p (aI F fr))):=Bx.mk (by
 obtain⟨f,fd,ps,h1,h2,h3,h4⟩:=h.fn;refine(De (dvs:=[]) (E:=E0) h4 hr hg h1 h2 h3 .nil yG ha.h hdb he hpl).weak fun B H Q ⟨J,Z,Y,S,R,P⟩=>⟨J,Z,Y,S,R,(aO.bind P).imp fun ds Y1 H1 J1 X1 S1 P1 vs rv=>?_⟩;show A8 p n F (vs++[]) H1 Q E0;rw[Pv];refine⟨?_,J1,ds,Y1,S1,rv,P1⟩;by_cases hl:ds.length=n
 ·rw[rv.length];exact hl
 ·rw[h.len ds Y1 hl]at P1;exact P1.elim)
theorem rL:bootBuiltins "ValueError" = some (.type "ValueError"):=PyProof.Rows.Boot.«ValueError»
def Du(K:W.Frag)(u:Value)(subs known:List Str):Bool:=known.all fun c=>match W.nsIn K mainGlobals c with
 |some (some (.ref C))=>W.excCls K C&&W.kitOne K (.ref C) u == some (subs.contains c)
 |_=>false
theorem bW.of(h:Du K u subs known=true):bW K u subs known:=fun c hc=>by
 have q:=RI.mp h c hc;split at q
 ·rename_i C e;rw[Qn]at q;exact⟨C,e,q.1,Sv.mp q.2⟩
 ·cases q
def JR(K:W.Frag)(R:Addr)(known:List Str):Bool:=known.all fun c=>match W.nsIn K mainGlobals c with
 |some (some (.ref C))=>W.exmOne K (.ref C) (.ref R) == some true
 |_=>false
theorem vd.of{r:Str}{R:Addr}(h:JR K R known=true):vd K r R known:=fun c hc=>by
 have q:=RI.mp h c hc;split at q
 ·rename_i C e;exact⟨C,e,Sv.mp q⟩
 ·cases q
section
variable(K:W.Frag)(H:Hp)
mutual
def qX:PyData->V->Prop
 |.none,v=>v=.non
 |.bool b,v=>v=.bl b
 |.int i,v=>v=.int i
 |.str x,v=>v=.str x
 |.tuple xs,v=>∃a vs,v=.ref a/\gL K H a vs/\RdGs xs vs
 |.list xs,v=>∃a vs,v=.ref a/\gB K H a vs/\RdGs xs vs
 |.dict kvs,v=>kvs=[]/\∃a,v=.ref a/\H a=some (.dK [])
def RdGs:List PyData->List V->Prop
 |[],vs=>vs=[]
 |x::xs,vs=>∃v r,vs=v::r/\qX x v/\RdGs xs r
end
end
mutual
def Kq:PyData->Bool
 |.list _=>false
 |.tuple xs=>noLs xs
 |_=>true
def noLs:List PyData->Bool
 |[]=>true
 |x::xs=>Kq x&&noLs xs
end
section
variable{X:Cx}
theorem JM(h:(a == sysModules)=false):a≠sysModules:=by simpa using h
mutual
theorem si(I:aX X pins B H s):∀(d:PyData)(x:V)(v:Value),qX X.K H d x->bU x v->∃as,Reads s.heap v d as/\(Kq d=true->sysModules∉as)
 |.none,_,_,h,r=>by simp only[qX]at h;subst h;cases r;exact⟨_,.none,fun _ z=>by cases z⟩
 |.bool b,_,_,h,r=>by simp only[qX]at h;subst h;cases r;exact⟨_,.bool b,fun _ z=>by cases z⟩
 |.int b,_,_,h,r=>by simp only[qX]at h;subst h;obtain⟨t,rfl⟩:=r;exact⟨_,.int b t,fun _ z=>by cases z⟩
 |.str b,_,_,h,r=>by simp only[qX]at h;subst h;obtain⟨t,rfl⟩:=r;exact⟨_,.str b t,fun _ z=>by cases z⟩
 |.tuple xs,_,_,h,r=>by
  simp only[qX]at h;obtain⟨a,vs,rfl,h1,h2⟩:=h;cases r;obtain⟨its,rv,⟨o,e1,e2,n,e3⟩,_⟩:=I.tuple h1;obtain⟨as,q,hn⟩:=readsAllG_of I xs vs its h2 rv;exact⟨_,.tuple e1 e2 e3 (by simpa using q),fun z=>hn (by simpa only[Kq] using z)⟩
 |.list xs,_,_,h,r=>by
  simp only[qX]at h;obtain⟨a,vs,rfl,h1,h2⟩:=h;cases r;obtain⟨its,rv,⟨o,n,e1,e2,_,e3⟩,_⟩:=I.list h1;obtain⟨as,q,_⟩:=readsAllG_of I xs vs its h2 rv;exact⟨_,.list e1 e2 e3 (by simpa using q),fun z=>by simp only[Kq]at z;cases z⟩
 |.dict kvs,_,_,h,r=>by
  simp only[qX]at h;obtain⟨rfl,a,rfl,h1⟩:=h;cases r;obtain⟨_,hS,vs,rv,o,es,n,e1,e2,e3,_,e4,_⟩:([]:List (qY×V)).length<=sizeLine/\(a == sysModules)=false/\∃vs,KV ([]:List (qY×V)) vs/\s.heap.DictOf (pf X.prog X.w) a vs:=I.hok a _ h1;cases rv
  have hes:es.toList=[]:=by
   generalize es.toList=l at e4;cases e4;rfl
  refine⟨[a]++[],Reads.dict (as:=[]) (bs:=[]) e1 e2.1 e3 ?_ ?_,fun _ z=>?_⟩
  ·rw[hes];exact .nil
  ·rw[hes];exact .nil
  ·simp at z;exact JM hS z.symm
theorem readsAllG_of(I:aX X pins B H s):∀(ds:List PyData)(xs:List V)(vs:List Value),RdGs X.K H ds xs->br xs vs->∃as,ReadsAll s.heap vs ds as/\(noLs ds=true->sysModules∉as)
 |[],_,_,h,r=>by simp only[RdGs]at h;subst h;cases r;exact⟨_,.nil,fun _ z=>by cases z⟩
 |d::ds,_,_,h,r=>by
  simp only[RdGs]at h;obtain⟨v,q,rfl,h1,h2⟩:=h;cases r with
  |cons r rr=>
   obtain⟨as,g1,n1⟩:=si I d _ _ h1 r;obtain⟨bs,g2,n2⟩:=readsAllG_of I ds _ _ h2 rr;refine⟨_,.cons g1 g2,fun z=>?_⟩;simp only[noLs,Qn]at z;intro y;rcases OQ.mp y with y|y
   ·exact n1 z.1 y
   ·exact n2 z.2 y
end
end
def σ6(K:W.Frag):List V->Hp->VK->Prop:=fun xs H Q=>(∃a d,xs=[.ref a]/\qX K H d (.ref a)/\d.showable=true/\(d.hasDict=true->Kq d=true)/\d.depth<=60/\d.shown.length<=sizeLine/\Q (.str d.shown) H) \/
 (xs=[.non]/\Q (.str "None") H)\/(∃a:Int,xs=[.int a]/\a.natAbs.log2<1920/\Q (.str (toString a)) H)\/(∃b:Bool,xs=[.bl b]/\Q (.str (if b then "True" else "False")) H)\/∃x:Str,xs=[.str x]/\(reprText x).length<=sizeLine/\Q (.str (reprText x)) H
theorem yu {X:Cx} (hu:X.A.units+64<cLine) (hg:X.A.guards=some []):cZ X (.builtin "repr") (σ6 X.K):=by
 intro pins s B H xs us Q I r h;rcases h with⟨a,d,rfl,h1,hs,hd,hdp,hz,q⟩|⟨rfl,q⟩|⟨a,rfl,ha,q⟩|⟨b,rfl,q⟩|⟨x,rfl,hx,q⟩
 ·obtain⟨u,rfl,ru⟩:=eP r;cases ru;obtain⟨as,r1,hn⟩:=si I d (.ref a) (.ref a) h1 rfl;exact PySem.repr_of_reads' (h₀:=s.heap) r1 hs (fun z=>hn (hd z)) hg (by omega) (fun _ _ e=>e) (fun h' u tk hk=>⟨.str _,H,I.kept hk,⟨u,rfl⟩,q⟩) hz
 ·obtain⟨u,rfl,ru⟩:=eP r;cases ru;exact PySem.P.repr_of_none ⟨.str _,H,I.kept (fun _ _ e=>e),⟨_,rfl⟩,q⟩
 ·obtain⟨u,rfl,t,rfl⟩:=eP r;exact PySem.P.repr_of_int ha ⟨.str _,H,I.kept (fun _ _ e=>e),⟨_,rfl⟩,q⟩
 ·obtain⟨u,rfl,ru⟩:=eP r;cases ru;refine PySem.P.repr_of_bool ⟨.str _,H,I.kept (fun _ _ e=>e),⟨_,rfl⟩,?_⟩;cases b <;> exact q
 ·obtain⟨u,rfl,t,rfl⟩:=eP r;exact PySem.P.repr_of_str ⟨.str _,H,I.kept (fun _ _ e=>e),⟨_,rfl⟩,q⟩ hx
def BB:D->Option PyData
 |.non=>some .none
 |.bl b=>some (.bool b)
 |.int i=>some (.int i)
 |.str x=>some (.str x)
 |_=>none
def rj(f:D->Option PyData):List D->Option (List PyData)
 |[]=>some []
 |x::xs=>(f x).bind fun a=>(rj f xs).map fun r=>a::r
def D8(Y:aA):Nat->D->Option PyData
 |0,d=>BB d
 |n+1,d=>match d with
  |.tup xs=>(rj (D8 Y n) xs).map .tuple
  |.frz xs=>(rj (D8 Y n) xs).map .list
  |.obj k=>match Y[k]? with
   |some (.lst xs)=>(rj (D8 Y n) xs).map .list
   |some .dic=>some (.dict [])
   |_=>none
  |d=>BB d
section
theorem v8{d:D}{q:PyData}(h:BB d=some q)(r:aP K H J d v):qX K H q v:=by
 cases d with
 |non=>cases h;simp only[qX];exact bK.mp r
 |bl b=>cases h;simp only[qX];exact aU.mp r
 |int b=>cases h;simp only[qX];exact ar.mp r
 |str b=>cases h;simp only[qX];exact aC.mp r
 |tup _=>cases h
 |frz _=>cases h
 |obj _=>cases h
theorem tT{f:D->Option PyData}(hf:∀d q v,f d=some q->aP K H J d v->qX K H q v):∀{ds:List D}{qs:List PyData}{vs:List V},rj f ds=some qs->Reps K H J ds vs->RdGs K H qs vs:=by
 intro ds
 induction ds with
 |nil=>intro qs vs h r;cases h;simp only[Reps]at r;simp only[RdGs];exact r
 |cons d ds ih=>
  intro qs vs h r;simp only[rj]at h;cases e1:f d with
  |none=>rw[e1]at h;cases h
  |some a=>
   rw[e1]at h;cases e2:rj f ds with
   |none=>rw[e2]at h;cases h
   |some t=>
    rw[e2]at h;cases h;simp only[Reps]at r;obtain⟨v,r',rfl,h1,h2⟩:=r;simp only[RdGs];exact⟨v,r',rfl,hf d a v e1 h1,ih e2 h2⟩
theorem HN(S:gG K w H J Y):∀(n:Nat)(d:D)(q:PyData)(v:V),D8 Y n d=some q->aP K H J d v->qX K H q v:=by
 intro n
 induction n with
 |zero=>intro d q v h r;exact v8 h r
 |succ n ih=>
  intro d q v h r;unfold D8 at h;split at h
  ·rename_i xs;cases e:rj (D8 Y n) xs with
   |none=>rw[e]at h;cases h
   |some qs=>
    rw[e]at h;cases h;obtain⟨a,us,rfl,h1,h2⟩:=aQ.mp r;simp only[qX];exact⟨a,us,rfl,h1,tT ih e h2⟩
  ·rename_i xs;cases e:rj (D8 Y n) xs with
   |none=>rw[e]at h;cases h
   |some qs=>
    rw[e]at h;cases h;obtain⟨a,us,rfl,h1,h2⟩:=bA.mp r;simp only[qX];exact⟨a,us,rfl,h1.sq,tT ih e h2⟩
  ·rename_i k;split at h
   ·rename_i xs hx;cases e:rj (D8 Y n) xs with
    |none=>rw[e]at h;cases h
    |some qs=>
     rw[e]at h;cases h;obtain⟨a,ea,us,h1,h2⟩:=S.at hx;obtain⟨a',rfl,ea'⟩:=bf.mp r;rw[ea]at ea';cases ea';simp only[qX];exact⟨a,us,rfl,.inl (.inl h1),tT ih e h2⟩
   ·rename_i hx;cases h;obtain⟨a,ea,h1⟩:=S.at hx;obtain⟨a',rfl,ea'⟩:=bf.mp r;rw[ea]at ea';cases ea';simp only[qX];exact⟨trivial,a,rfl,h1⟩
   ·cases h
  ·exact v8 h r
end
def zm(q:PyData):Bool:=q.showable&&(!q.hasDict || Kq q)&&decide (q.depth<=60)&&decide (q.shown.length<=sizeLine)
def nA(ds:List D)(Y:aA):aj D:=match ds with
 |[.non]=>.ok (.str "None") Y
 |[.int a]=>if a.natAbs.log2<1920 then .ok (.str (toString a)) Y else .bad
 |[.bl b]=>.ok (.str (if b then "True" else "False")) Y
 |[.str x]=>if (reprText x).length<=sizeLine then .ok (.str (reprText x)) Y else .bad
 |[d]=>match D8 Y 5 d with
  |some q=>if Cg d=true/\zm q=true then .ok (.str q.shown) Y else .bad
  |none=>.bad
 |_=>.bad
theorem Dl:xc p nA (σ6 p.K):=by
 intro ds vs H J Y Q S r P;unfold nA at P;split at P
 ·obtain⟨v,rfl,r1⟩:=r.one;rw[bK.mp r1];exact .inr (.inl ⟨rfl,P.now S _ (aC.mpr rfl)⟩)
 ·obtain ⟨v, rfl, r1⟩ := r.one;rw[ar.mp r1];split at P
  ·rename_i ha;exact .inr (.inr (.inl ⟨_,rfl,ha,P.now S _ (aC.mpr rfl)⟩))
  ·exact P.elim
 ·obtain⟨v,rfl,r1⟩:=r.one;rw[aU.mp r1];exact .inr (.inr (.inr (.inl ⟨_,rfl,P.now S _ (aC.mpr rfl)⟩)))
 ·obtain ⟨v, rfl, r1⟩ := r.one;rw[aC.mp r1];split at P
  ·rename_i ha;exact .inr (.inr (.inr (.inr ⟨_,rfl,ha,P.now S _ (aC.mpr rfl)⟩)))
  ·exact P.elim
 ·rename_i d _ _ _ _;split at P
  ·rename_i q hq;split at P
   ·rename_i hf;obtain⟨v,rfl,r1⟩:=r.one;obtain⟨a,rfl⟩:=yj hf.1 r1;have h2:=hf.2;unfold zm at h2;simp only[Qn,Sy]at h2;refine .inl ⟨a,q,rfl,HN S 5 d q _ hq r1,h2.1.1.1,fun z=>?_,h2.1.2,h2.2,P.now S _ (aC.mpr rfl)⟩;have h3:=h2.1.1.2;rw[z]at h3;simpa using h3
   ·exact P.elim
  ·exact P.elim
 ·exact P.elim
theorem Gm{X:Cx}(hr:dG k X.A)(hK:X.K=p.K:=by rfl):mD X p "repr" nA:=⟨_,_,.inl ⟨_,rfl⟩,by decide +kernel,yu hr.units hr.gd,hK ▸ Dl,by decide,by decide⟩
def r8(known:List Str)(a:Str)(d:D)(Y:aA):aj D:=match d with
 |.obj n=>match Y[n]? with
  |some (.exn c fs)=>if known.contains c=true then (match fs.lookup a with
   |some i=>.ok (.int i) Y
   |none=>.bad) else .bad
  |_=>.bad
 |_=>.bad
def mP(K:W.Frag)(a:Str)(known:List Str):Prop:=∀c∈known,∃C,W.nsIn K mainGlobals c=some (some (.ref C))/\yO K C a=true
theorem mP.of{a:Str}(h:(known.all fun c=>match W.nsIn K mainGlobals c with|some (some (.ref C))=>yO K C a|_=>false)=true):mP K a known:=by
 intro c hc;have:=RI.mp h c hc;split at this
 ·rename_i C e;exact⟨C,e,this⟩
 ·cases this
theorem oi{a:Str}:∀{fs:List (Str×Int)}{i:Int},fs.lookup a=some i->(fs.map fun p=>(p.1,V.int p.2)).lookup a=some (V.int i)
 |[],_,h=>by cases h
 |(x,j)::r,i,h=>by
  rw[Qp];rw[QG]at h⊢;cases e:a == x with
  |true=>rw[e]at h;cases h;rfl
  |false=>rw[e]at h;exact oi h
section
variable{X:Cx}{a:Str}
theorem BK(hk:mP X.K a known)(ha:Bx (PE X e (tD p fa)))(hb:attributeBase e a X.env (eval e X.env)=eval e X.env:=by rfl)(hK:X.K=p.K:=by rfl):Bx (PE X (.Attribute e a pos) (tD p (i7 (r8 known a) fa))):=Bx.mk (by
 refine(Fu (f:=a) ha.h hb).weak fun B H Q ⟨J,Z,Y,S,R,P⟩=>⟨J,Z,Y,S,R,(aO.bind P).imp fun d Y1 H1 J1 X1 S1 P1 v rv=>?_⟩;unfold r8 at P1;split at P1
 ·split at P1
  ·rename_i n c fs hx;split at P1
   ·rename_i hc;split at P1
    ·rename_i i hl;obtain⟨b,eb,C,dx,h1,h2,h3⟩:=S1.at hx;obtain⟨b',rfl,eb'⟩:=bf.mp rv;rw[eb]at eb';cases eb';obtain⟨C',k1,k2⟩:=hk c (SQ.mp hc);rw[hK]at k1;rw[h1]at k1;cases k1;exact⟨b,C,dx,_,i,rfl,h2,h3,k2,oi hl,P1.now S1 _ (ar.mpr rfl)⟩
    ·exact P1.elim
   ·exact P1.elim
  ·exact P1.elim
 ·exact P1.elim)
end
theorem Gc{nm sf a:Str}{p1 p3:Pos}(F:gF K nm qual st f fd)(S:aW [sf,y] [sf,y] (au st))(hb:bT st=[.Assign [.Attribute (.Name sf p1) a p2] (.Name y p3) pos])(SX:W.SetsX K C)(hf:W.findIn K (.ref C) a=some none)(v0:Hi (au st) sf)(v1:Hi (au st) y)(d0:(sf == ("__debug__" : Str))=false:=by decide)(d1:(y == ("__debug__" : Str))=false:=by decide)(c0:(sf == ("__classdict__" : Str))=false:=by decide)(c1:(y == ("__classdict__" : Str))=false:=by decide)(hs:∀env,swapsWith (.Name y p3) (some (.Attribute (.Name sf p1) a p2)) pos.line env=pure false:=by intro _;rfl):ll P w K mg base (Ec P w) (k+1) f fd [sf,y] (Mu a C):=by
 obtain⟨oc,od,kV,doc,pm,an,cdv,ct,osl,rfl,lk,hcd⟩:=F.ex;refine BA lk hcd S (fun vs H Q E h=>by obtain⟨ea,y,rfl,_⟩:=h;rfl) fun A outer s H vs Q E hr h=>?_;rw[hb];refine⟨_,zf (Fj (xC (i:=0) rfl v0 d0 c0) (xC (i:=1) rfl v1 d1 c1) (hs _)),?_⟩;obtain⟨ea,v,rfl,e,q⟩:=h;exact⟨v,rfl,.ref ea,rfl,ea,C,rfl,e,SX,hf,q⟩
theorem SetsX.of{R1 R2:Addr}(h1:W.findIn K (.ref C) "__setattr__" = some (some (.builtin "object.__setattr__")))(h2:W.mroIn K C (.type "object")=some true)(h3:W.clsIn K C=some cd)(h4:cd.hasDict=true)(h5:cd.mro=[.ref R1,.ref R2,.type "ValueError",.type "Exception",.type "BaseException",.type "object"]):W.SetsX K C:=⟨h1,h2,cd,h3,h4,fun self=>by
 rw[h5,refuseLoop_ref,refuseLoop_ref]
 exact PySem.F.store_ValueError.passes self⟩
theorem LV{h:Heap}{M:Addr}{m:Str->Option Value}{v:Value}(X:K.In h)(G:h.Ns M m)(e:W.nsIn K M x=some (some v)):m x=some v:=by
 obtain⟨ob,es,ep,h1,h2,_,h3⟩:=G;unfold W.nsIn at e;split at e
 ·rename_i q;have z:=X _ _ q;rw[h1]at z;cases z;cases h2;split at e
  ·rename_i y he;cases e;rw[<- h3];unfold nsFind findBy;rw[<- Array.find?_toList,he];rfl
  ·split at e <;> cases e
 ·cases e
theorem xv.of{nm q:Str}{N:Addr}{bs bm:List Value}{hd:Bool}{sn:List Str}{sub:List Value}{ab:Bool}{col:Option Bool}{dd:Option Addr}{k0 k1 k2 k3 k5:Option Value}(X:K.In base)(G:base.Ns mainGlobals mg)(e:W.nsIn K mainGlobals x=some (some (.ref C)))(l:K.lookup C=some (excClassObj nm q C N bs bm hd sn sub ab col dd k0 k1 k2 k3 k5 "ValueError.__new__"))(h1:W.nsOkIn K N=true)(h2:W.nsIn K N "__init__" = some (some (.ref fI)))(h3:W.tailIn K [.type "ValueError",.type "Exception",.type "BaseException",.type "object"] bm=true)(h4:K.lookup fI=some oI)(h5:oI.cls=.type "function"):xv mg base x C fI:=
 ⟨W.mg_of X G e,_,_,_,_,bm,N,nm,q,bs,hd,sn,sub,ab,col,dd,k0,k1,k2,k3,k5,_,X _ _ l,.of_isNs (W.isNs_of_in X h1),LV X (.of_isNs (W.isNs_of_in X h1)) h2,W.tail_of_in X h3,PySem.F.excBase_ValueError,oI,X _ _ h4,h5⟩
def ve(P:Program)(w:World)(K:W.Frag)(mg:Str->Option Value)(base:Heap)(c a:Str)(C:Addr):Prop:=∃fI fd ps,xv mg base c C fI/\ll P w K mg base (Ec P w) 1 fI fd ps (Mu a C)/\eS K fd ps []
section
variable{s0:Shared}{E:XK}
theorem mQ{a:Str}(hc:W.nsIn K mainGlobals c=some (some (.ref C)))(I:ve P w K mg base c a C)(hr:dG 2 (nq P w K mg base N qual scope f cdv A outer s0 H0 E).A)(ha:Bx (PA (nq P w K mg base N qual scope f cdv A outer s0 H0 E) [e] (jw (D2 K w E) fr)))(hg:Gl (nq P w K mg base N qual scope f cdv A outer s0 H0 E) c:=by rfl)(hd:(c == ("__debug__" : Str))=false:=by decide)(he:starEach [e] (nq P w K mg base N qual scope f cdv A outer s0 H0 E).env=(false,eval e (nq P w K mg base N qual scope f cdv A outer s0 H0 E).env)::starEach [] (nq P w K mg base N qual scope f cdv A outer s0 H0 E).env:=by rfl):
  Bx (PS (nq P w K mg base N qual scope f cdv A outer s0 H0 E) (.Raise (some (.Call (.Name c np) [e] [] cpos)) none pos) (iw (D2 K w E) (fw c a fr))):=by
 obtain⟨fI,fd,ps,O,F,σ⟩:=I;exact CA hc O F hr σ ha hg hd he
end
theorem pQ.d(h:pQ P w K mg base p k x n F):dy P w K mg base p k x n F:=by
 obtain⟨h1,f,fd,ps,h2,h3,h4,h5⟩:=h;exact⟨h1,f,fd,ps,h2,h3,h4,h5.len,fun A outer s H args us vs Q E hr=>h5.run A outer s H args us vs Q E hr.h⟩
theorem ve.of{a nm sf:Str}{R1 R2:Addr}{p1 p3:Pos}(O:xv mg base c C fI)(F:gF K nm qual st fI fd)(S:aW [sf,y] [sf,y] (au st))(hb:bT st=[.Assign [.Attribute (.Name sf p1) a p2] (.Name y p3) pos])(h1:W.findIn K (.ref C) "__setattr__" = some (some (.builtin "object.__setattr__")))(h2:W.mroIn K C (.type "object")=some true)(h3:W.clsIn K C=some cd)(h4:cd.hasDict=true)(h5:cd.mro=[.ref R1,.ref R2,.type "ValueError",.type "Exception",.type "BaseException",.type "object"])(hf:W.findIn K (.ref C) a=some none)(v0:Hi (au st) sf)(v1:Hi (au st) y)(σ:eS K fd [sf,y] [])(d0:(sf == ("__debug__" : Str))=false:=by decide)(d1:(y == ("__debug__" : Str))=false:=by decide)(c0:(sf == ("__classdict__" : Str))=false:=by decide)(c1:(y == ("__classdict__" : Str))=false:=by decide)(hs:∀env,swapsWith (.Name y p3) (some (.Attribute (.Name sf p1) a p2)) pos.line env=pure false:=by intro _;rfl):ve P w K mg base c a C:=
 ⟨fI,fd,[sf,y],O,Gc (k:=0) F S hb (SetsX.of h1 h2 h3 h4 h5) hf v0 v1 d0 d1 c0 c1 hs,σ⟩
section
variable{X:Cx}{a b:Expr}{es:List Expr}{fb fo:ME}
theorem Nl{i:Str}(h:∃t,X.mg x=some (.str i t))(hg:Gl X x:=by rfl)(hd:(x == ("__debug__" : Str))=false:=by decide):Bx (PE X (.Name x pos) (tD p (cC (.str i)))):=Bx.mk (by
 obtain⟨t,ht⟩:=h
 exact zJ (tQ (v:=.str i) hg ht ⟨t,rfl⟩ hd) fun _ _=>aC.mpr rfl)
def Ht(a b:D)(Y:aA):aj D:=match a,b with
 |.str x,.str y=>.ok (.bl (!(Builtin.Str.occurrences y x 0 y.length 1).isEmpty)) Y
 |_,_=>.bad
theorem L4:jZ X p .In Ht:=⟨_,Aq,by
 intro a b v y H J Y Q S ra rb P;unfold Ht at P;split at P
 ·exact⟨_,_,aC.mp ra,aC.mp rb,P.now S _ (aU.mpr rfl)⟩
 ·exact P.elim⟩
def xr(a b:D)(Y:aA):aj D:=match a,b with
 |.str x,.int i=>match atI x.cps.toList i with
  |some c=>if x.length<=sizeLine then .ok (.str ⟨#[c]⟩) Y else .bad
  |none=>.bad
 |_,_=>.bad
theorem JG:qU p xr Ho:=by
 intro a b v y H J Y Q S ra rb P;unfold xr at P;split at P
 ·split at P
  ·rename_i c hc;split at P
   ·rename_i hl;exact⟨_,_,c,aC.mp ra,ar.mp rb,hl,hc,P.now S _ (aC.mpr rfl)⟩
   ·exact P.elim
  ·exact P.elim
 ·exact P.elim
theorem GE(ha:Bx (PE X a (tD p fa)))(hb:Bx (PE X b (tD p fb)))(hs:pH b:=by exact fun _ _=>rfl):Bx (PE X (.Subscript a b pos) (tD p (av xr fa fb))):=
 ⟨(GX Cc ha.h hb.h hs).weak fun B H Q ⟨J,Z,Y,S,R,P⟩=>⟨J,Z,Y,S,R,(aO.bind P).imp fun x Y1 H1 J1 X1 S1 P1 v rv=>⟨J1,Z,Y1,S1,R.mono X1,(aO.bind P1).imp fun y Y2 H2 J2 X2 S2 P2 u ru=>JG x y v u H2 J2 Y2 Q S2 (rv.mono X2) ru P2⟩⟩⟩
def KA(x:Str):It:=⟨fun i _=>i<x.cps.size,fun i H v H'=>H'=H/\∃c,x.cps[i]?=some c/\v=.str ⟨#[c]⟩,fun i _=>x.cps.size<=i⟩
theorem CC{ty:String}(hty:ty = "str_ascii_iterator" \/ ty = "str_iterator")(x:Str)(t:Tok)(it:Addr):xu P w K tg (KA x) [it] it (fun i h=>h.IsStrIter it ty x t i) where
 mem:=by simp
 obj:=fun i h st b hb=>by
  have e:b=it:=by simpa using hb
  subst e;obtain⟨o,ho,hc,hd⟩:=st;exact⟨o,ho,fun v z=>by rw[hd]at z;cases z⟩
 keep:=fun i h h' st k=>by
  obtain⟨o,ho,r⟩:=st;exact⟨o,k it (by simp) o ho,r⟩
 item:=by
  intro X hP hw hK hc i pins s B H E I hf st hg;subst hP hw hK;obtain⟨f0,f1,f2,f3,f4,f5⟩:=hf it (by simp);obtain⟨c,hx⟩:∃c,x.cps[i]?=some c:=⟨_,RH (show i<x.cps.size from hg)⟩
  have fin:∀h',h'.IsStrIter it ty x t (i+1)->Heap.SameBut it s.heap h'->∃u,some (Value.str ⟨#[c]⟩ s.toks)=some u /\
    wpAny (model X.prog X.w) X.A (letOwnedTupleGo tg (.ref it) u) (fun _ s2=>∃y H',aX X pins B H' s2/\bU y u/\(KA x).yld i H y H'/\s2.heap.IsStrIter it ty x t (i+1)/\∀b∈[it],H' b=none) E {s with heap:=h',toks:=s.toks+1}:=by
   intro h' st' sb;have I1:aX X pins B H {s with heap:=h',toks:=s.toks+1}:=I.turned (fun b o hb e=>sb.extBut b o hb e) f0 f1 f3 f4 f5;obtain⟨o,ho,ho1,ho2⟩:=id st';refine⟨_,rfl,yJ (s:={s with heap:=h',toks:=s.toks+1}) ho ho1 ho2 (by rcases hty with rfl|rfl <;> decide) ⟨.str ⟨#[c]⟩,H,I1,⟨_,rfl⟩,⟨rfl,_,hx,rfl⟩,st',fun b hb=>(hf b hb).1⟩⟩
  rcases hty with rfl|rfl
  ·exact wpAny_pyNext_ascii_item st hx fin
  ·exact wpAny_pyNext_wide_item st hx fin
 done:=by
  intro X hP hw hK hc i pins s B H E I hf st hg;subst hP hw hK;obtain⟨f0,f1,f2,f3,f4,f5⟩:=hf it (by simp);have hx:x.cps[i]?=none:=RD.mpr hg;rcases hty with rfl|rfl
  ·exact wpAny_pyNext_ascii_end (I.ok.hd hc) st hx fun h' eb=>⟨rfl,I.turned (t':=s.toks) (fun b o hb e=>eb b o hb e) f0 f1 f3 f4 f5⟩
  ·exact wpAny_pyNext_wide_end (I.ok.hd hc) st hx fun h' eb=>⟨rfl,I.turned (t':=s.toks) (fun b o hb e=>eb b o hb e) f0 f1 f3 f4 f5⟩
 self:=fun _ _ _ _ _ st h=>by
  rcases hty with rfl|rfl
  ·exact wpAny_pyIter_striter_ascii st h
  ·exact wpAny_pyIter_striter_wide st h
def NO(tl:TE):TI:=fun B H R=>tl B H fun v H1=>∃x,v=.str x/\R (KA x) H1
theorem IY{l:Expr}{tl:TE}(hl:PE X l tl):PI X tg l (NO tl):=by
 intro pins s B H R I h;refine cY (hl pins s B H _ I h) fun v s1 ⟨x,H1,I1,r1,q1⟩=>?_;obtain⟨x,e,q⟩:=q1;subst e;obtain⟨t,rfl⟩:=r1
 have fin:∀(ty:String) (hty:ty = "str_ascii_iterator" \/ ty = "str_iterator"),MK X pins B tg R (.ref s1.heap.objs.size) {s1 with heap:=s1.heap.push {cls:=.type ty,data:=.fields #[.str x t,.int 0 0]}}:=by
  intro ty hty;refine⟨s1.heap.objs.size,[s1.heap.objs.size],_,_,H1,rfl,I1.kept (t':=s1.toks) fun b o e=>O8 _ e,CC hty x t _,⟨_,Pe _ rfl,rfl,rfl⟩,fun b hb=>?_,q⟩;have e:b=s1.heap.objs.size:=by simpa using hb
  subst e;exact I1.fpOk (Pf _) (I1.hok.fresh (Pf _))
 cases ha:x.cps.all (·<128)
 ·exact wpAny_pyIter_wide ha (fin _ (.inr rfl))
 ·exact wpAny_pyIter_ascii ha (fin _ (.inl rfl))
def dr(x:Str):List D:=x.cps.toList.map fun c=>.str ⟨#[c]⟩
def KE(d:D)(Y:aA):aj oF:=match d with
 |.str x=>.ok (.fix (dr x)) Y
 |_=>.bad
def Bg(f:ME):MI:=fun Z Y=>(f Z Y).bind KE
theorem Dz(x:Str):xy p (KA x) (.fix (dr x)) H J:=by
 intro H2 J2 Y2 X2 S2 ho;refine⟨fun i d hd=>?_,by simp[oF.items,dr,KA]⟩;have hd':(dr x)[i]?=some d:=hd;unfold dr at hd';rw[PU,Q7]at hd';cases e:x.cps[i]? with
 |none=>rw[e]at hd';cases hd'
 |some c=>
  rw[e]at hd';cases hd';refine⟨?_,fun v H3 ⟨e1,c',hc,hv⟩=>?_⟩
  ·show i < x.cps.size;by_cases h:i<x.cps.size
   ·exact h
   ·rw[RD.mpr (by omega)]at e;cases e
  ·subst e1 hv;rw[e]at hc;cases hc;exact⟨lA.refl,S2,aC.mpr rfl⟩
theorem G5{f:ME}(hl:Bx (PE X e (tD p f))):Bx (PI X tg e (xa p (Bg f))):=⟨(IY hl.h).weak fun B H R ⟨J,Z,Y,S,Rr,P⟩=>by
 refine⟨J,Z,Y,S,Rr,(aO.bind P).imp fun d Y1 H1 J1 X1 S1 P1 v rv=>?_⟩;unfold KE at P1;split at P1
 ·rename_i x;exact⟨x,aC.mp rv,P1.now S1 _ trivial (Dz x)⟩
 ·exact P1.elim⟩
end
end L2
namespace L2
open PySem PySem.Spec PyProof.Rows RS
open Builtin.Str (strKind occurrences partsBetween)
theorem GG:∀(l:List (Str×Tok)),br ((l.map (·.1)).map V.str) (strValues l)
 |[]=>.nil
 |(x,t)::r=>.cons ⟨t,rfl⟩ (GG r)
theorem zQ:∀{ts:List Str}{its:List Value},br (ts.map V.str) its->∃l:List (Str×Tok),its=strValues l/\l.map (·.1)=ts:=by
 intro ts
 induction ts with
 |nil=>intro its h;cases h;exact⟨[],rfl,rfl⟩
 |cons x ts ih=>
  intro its h;cases h with
  |cons r rr=>
   obtain⟨t,rfl⟩:=r;obtain⟨l,rfl,e⟩:=ih rr;exact⟨(x,t)::l,rfl,by simp[e]⟩
section
variable{X:Cx}{a b:Expr}{es:List Expr}{fb fo:ME}
def σ3:V->List V->Hp->VK->Prop:=fun v vs H Q=>∃x y,v=.str x/\vs=[.str y]/\(y.length == 0)=false/\x.length<=sizeLine/\(Txt.split x y).length<=sizeLine /\
 ∀l,H l=none->Q (.ref l) (b9 H l (.lst ((Txt.split x y).map V.str)))
theorem Do:Hl X "str.split" σ3:=by
 intro pins s B H v vs vv us Q I rx rv h;obtain⟨x,y,rfl,rfl,hy,hx,hn,q⟩:=h;obtain⟨t,rfl⟩:=rx;obtain⟨u,rfl,u',rfl⟩:=eP rv
 have fin:∀(l:List (Str×Tok)) tk,l.map (·.1)=Txt.split x y->EP X pins B Q (.ref s.heap.objs.size) {s with heap:=s.heap.push {cls:=.type "list",data:=.seq (strValues l).toArray},toks:=tk}:=
  fun l tk e=>⟨.ref _,_,I.lnew (t':=tk) (e ▸ GG l) (by rw[PZ];exact hn),rfl,q _ I.fresh⟩
 cases h1:(decide (x.length<y.length) || decide (strKind x<strKind y))
 ·cases hf : (occurrences x y 0 x.length (x.length + 1)).isEmpty
  ·have e:Txt.split x y=partsBetween x (occurrences x y 0 x.length (x.length+1)) y.length:=(OB (SR h1)).trans (OB (SR hf));refine QB SS (Qq _ _ _) SU (SV _ _) (meets_str_split_sep x y t u' h1 hy hf hx (by rw[<- e];exact hn)) ?_;rw[strsFrom_eq];exact fin (numbered s.toks _) _ ((numbered_texts _ _).trans e.symm)
  ·exact QB SS (Qq _ _ _) SU (SV _ _) (meets_str_split_not_found x y t u' h1 hy hf) (fin [(x,t)] _ ((OB (SR h1)).trans (OA hf)).symm)
 ·exact QB SS (Qq _ _ _) SU (SV _ _) (meets_str_split_cannot_occur x y t u' h1) (fin [(x,t)] _ (OA h1).symm)
def GU:V->List V->Hp->VK->Prop:=fun v vs H Q=>∃x l ts,v=.str x/\vs=[.ref l]/\H l=some (.lst (ts.map V.str))/\JoinOk x ts=true/\(Txt.join x ts).length<=sizeLine/\Q (.str (Txt.join x ts)) H
theorem FV:Hl X "str.join" GU:=by
 intro pins s B H v vs vv us Q I rx rv h;obtain⟨x,l,ts,rfl,rfl,hH,hj,hz,q⟩:=h;obtain⟨t,rfl⟩:=rx;obtain⟨u,rfl,ru⟩:=eP rv;cases ru;obtain⟨z,its,n,r,hl,e⟩:=I.lstM hH;obtain⟨ps,rfl,ep⟩:=zQ r;subst ep;refine QB F.slot_str_join (Qq _ _ _) F.entry_str_join (F.args_str_join_2 _ _) (meets_str_join_list x t l ps (by unfold JoinOk at hj;simpa using hj)) ⟨⟨_,e,rfl,n,rfl⟩,?_⟩
 match ps with
 |[]=>exact⟨hz,.str _,H,I.tok _,⟨_,rfl⟩,q⟩
 |[(y,u)]=>exact⟨.str _,H,I,⟨u,rfl⟩,q⟩
 |(y,u)::w::r=>exact⟨hz,.str _,H,I.tok _,⟨_,rfl⟩,q⟩
def Nb(d:D):Bool:=match d with
 |.str _=>true
 |_=>false
def hW(f:D->List D->aA->aj D)(fo:ME)(fr:MA):ME:=fun Z Y=>(fo Z Y).bind fun o Y1=>if Nb o=true then (fr Z Y1).bind fun ds Y2=>f o ds Y2 else .bad
theorem BY{o:Expr}{es:List Expr}{fo:ME}{name:Str}{id:String}{f:D->List D->aA->aj D}(slot:Slot "str" name id)(hty:typeOf (.builtin id)=pure (.type "method_descriptor"))(hm:Hl X id rr)(hf:Gz p f rr)(ho:PE X o (tD p fo))(ha:PA X (e::es) (jw p fr))(hbase:attributeBase o name X.env (eval o X.env)=eval o X.env)(hfew : ((backTo cpos (starEach (e :: es) X.env)).all (fun x => !x.1) && (backToKw cpos (keywordEach [] X.env)).all (fun x => x.1.isSome)
   && decide ((e::es).length+([]:List Keyword).length+(if ([]:List Keyword).isEmpty then 0 else 1)<30))=true)(hline:(apos.endLine == cpos.line)=true)(hs:starEach (e::es) X.env=(false,eval e X.env)::starEach es X.env)(hplain:(backTo cpos (starEach es X.env)).any (·.1)=false):
  PE X (.Call (.Attribute o name apos) (e::es) [] cpos) (tD p (hW f fo fr)):=
 (GY SW slot hty hm ho ha hbase hfew hline hs hplain).weak fun B H Q ⟨J, Z, Y, S, R, P⟩ => ⟨J, Z, Y, S, R, (aO.bind P).imp fun d Y1 H1 J1 X1 S1 P1 v rv => by
  by_cases hl:Nb d=true
  ·rw [OA hl] at P1;refine⟨?_,J1,Z,Y1,S1,R.mono X1,(aO.bind P1).imp fun ds Y2 H2 J2 X2 S2 P2 vs rs=>hf d ds v vs H2 J2 Y2 Q S2 (rv.mono X2) rs P2⟩;unfold Nb at hl;split at hl
   ·rw[aC.mp rv];rfl
   ·cases hl
  ·rw[OB hl]at P1;exact P1.elim⟩
def cy(d:D)(ds:List D)(Y:aA):aj D:=match d,ds with
 |.str x,[.str y]=>if (y.length == 0)=false/\x.length<=sizeLine/\(Txt.split x y).length<=sizeLine then .ok (.obj Y.length) (Y++[.lst ((Txt.split x y).map D.str)]) else .bad
 |_,_=>.bad
theorem ql{K:W.Frag}{H:Hp}{J:List Addr}:∀(ts:List Str),Reps K H J (ts.map D.str) (ts.map V.str)
 |[]=>Reps.nil
 |_::ts=>Reps.cons (aC.mpr rfl) (ql ts)
theorem Aw:Gz p cy σ3:=by
 intro d ds v vs H J Y Q S rd rs P;unfold cy at P;split at P
 ·rename_i x y;split at P
  ·rename_i hc;obtain⟨w,rfl,rw'⟩:=rs.one;refine⟨x,y,aC.mp rd,by rw[aC.mp rw'],hc.1,hc.2.1,hc.2.2,fun l hl=>?_⟩;obtain⟨x1,x2,x3⟩:=c9 S hl (ql (Txt.split x y));exact P _ _ x1 x2 _ x3
  ·exact P.elim
 ·exact P.elim
def pS:List D->Option (List Str)
 |[]=>some []
 |.str x::r=>(pS r).map fun t=>x::t
 |_=>none
theorem CH:∀{ds:List D}{ts:List Str},pS ds=some ts->ds=ts.map D.str:=by
 intro ds
 induction ds with
 |nil=>intro ts h;cases h;rfl
 |cons d ds ih=>
  intro ts h;cases d with
  |str x=>
   simp only[pS]at h;cases e:pS ds with
   |none=>rw[e]at h;cases h
   |some r=>rw[e]at h;cases h;rw[ih e];rfl
  |_=>cases h
theorem Ah:∀{ts:List Str}{K:W.Frag}{H:Hp}{J:List Addr}{vs:List V},Reps K H J (ts.map D.str) vs->vs=ts.map V.str:=by
 intro ts
 induction ts with
 |nil=>intro K H J vs h;simp only[Qo,Reps]at h;exact h
 |cons x ts ih=>
  intro K H J vs h;simp only[Qp,Reps]at h;obtain⟨v,r,rfl,h1,h2⟩:=h;rw[aC.mp h1,ih h2];rfl
def d4(d:D)(ds:List D)(Y:aA):aj D:=match d,ds with
 |.str x,[.obj n]=>match Y[n]? with
  |some (.lst xs)=>match pS xs with
   |some ts=>if JoinOk x ts=true/\(Txt.join x ts).length<=sizeLine then .ok (.str (Txt.join x ts)) Y else .bad
   |none=>.bad
  |_=>.bad
 |_,_=>.bad
theorem Dp:Gz p d4 GU:=by
 intro d ds v vs H J Y Q S rd rs P;unfold d4 at P;split at P
 ·rename_i x n;split at P
  ·rename_i xs hx;split at P
   ·rename_i ts ht;split at P
    ·rename_i hc;obtain⟨w,rfl,rw'⟩:=rs.one;obtain⟨a,us,rfl,a1,h1,rr⟩:=cI S rw' hx;rw[CH ht]at rr;rw[Ah rr]at h1;exact⟨x,a,ts,aC.mp rd,rfl,h1,hc.1,hc.2,P.now S _ (aC.mpr rfl)⟩
    ·exact P.elim
   ·exact P.elim
  ·exact P.elim
 ·exact P.elim
theorem kN (ho:Bx (PE X ob (tD p fo))) (ha:Bx (PA X [e] (jw p fr))) (hbase:attributeBase ob "split" X.env (eval ob X.env)=eval ob X.env:=by rfl) (hfew:((backTo pos (starEach [e] X.env)).all (fun x=>!x.1)&&(backToKw pos (keywordEach [] X.env)).all (fun x=>x.1.isSome)
   && decide ([e].length+([]:List Keyword).length+(if ([]:List Keyword).isEmpty then 0 else 1)<30))=true:=by rfl) (hline:(apos.endLine == pos.line)=true:=by rfl) (hs:starEach [e] X.env=(false,eval e X.env)::starEach [] X.env:=by rfl) (hpl:(backTo pos (starEach [] X.env)).any (·.1)=false:=by rfl):Bx (PE X (.Call (.Attribute ob "split" apos) [e] [] pos) (tD p (hW cy fo fr))):=
 ⟨BY PySem.F.slot_str_split PySem.F.type_str_split Do Aw ho.h ha.h hbase hfew hline hs hpl⟩
theorem tm (ho:Bx (PE X ob (tD p fo))) (ha:Bx (PA X [e] (jw p fr))) (hbase:attributeBase ob "join" X.env (eval ob X.env)=eval ob X.env:=by rfl) (hfew:((backTo pos (starEach [e] X.env)).all (fun x=>!x.1)&&(backToKw pos (keywordEach [] X.env)).all (fun x=>x.1.isSome)
   && decide ([e].length+([]:List Keyword).length+(if ([]:List Keyword).isEmpty then 0 else 1)<30))=true:=by rfl) (hline:(apos.endLine == pos.line)=true:=by rfl) (hs:starEach [e] X.env=(false,eval e X.env)::starEach [] X.env:=by rfl) (hpl:(backTo pos (starEach [] X.env)).any (·.1)=false:=by rfl):Bx (PE X (.Call (.Attribute ob "join" apos) [e] [] pos) (tD p (hW d4 fo fr))):=
 ⟨BY PySem.F.slot_str_join PySem.F.type_str_join FV Dp ho.h ha.h hbase hfew hline hs hpl⟩
def rk(ds:List D)(Y:aA):aj D:=match ds with
 |[.int i]=>if i.natAbs.log2<1920 then .ok (.str (toString i)) Y else .bad
 |_=>.bad
theorem yN:mD X p "str" rk:=⟨_,_,.inr ⟨_,rfl⟩,Cw,uC,by
 intro ds vs H J Y Q S r P;unfold rk at P;split at P
 ·split at P
  ·rename_i hz;obtain⟨v,rfl,r1⟩:=r.one;exact⟨_,by rw[ar.mp r1],hz,P.now S _ (aC.mpr rfl)⟩
  ·exact P.elim
 ·exact P.elim,by decide,by decide⟩
def rZ(ds:List D)(Y:aA):aj D:=match ds with
 |[.str x]=>match PySem.intText? x with
  |some n=>if x.length<=640 then .ok (.int n) Y else .bad
  |none=>.bad
 |_=>.bad
theorem AX:cZ X (.type "int") (fun xs H Q=>∃x n,xs=[.str x]/\PySem.intText? x=some n/\x.length<=640/\Q (.int n) H):=by
 intro pins s B H xs us Q I r h;obtain⟨x,n,rfl,hn,hl,q⟩:=h;obtain⟨u,rfl,t,rfl⟩:=eP r;exact W.KIN.call_text hn hl ⟨.int n,H,I.tok _,⟨_,rfl⟩,q⟩
theorem Cz:mD X p "int" rZ:=⟨_,_,.inr ⟨_,rfl⟩,xH,AX,by
 intro ds vs H J Y Q S r P;unfold rZ at P;split at P
 ·split at P
  ·rename_i n hn;split at P
   ·rename_i hz;obtain⟨v,rfl,r1⟩:=r.one;exact⟨_,n,by rw[aC.mp r1],hn,hz,P.now S _ (ar.mpr rfl)⟩
   ·exact P.elim
  ·exact P.elim
 ·exact P.elim,by decide,by decide⟩
end
end L2
namespace RS
open PySem PySem.Spec PyProof.Rows
theorem qj{M:Model}{p:Pos}{t:Sem Fin}{fs:List Frame}{e:End}(h:Runs M Γ p t fs s e s'):s.toks<=s'.toks:=by
 induction h with
 |done|raise|yield=>exact Pf _
 |fresh _ ih=>exact OI (Q9 _) ih
 |again _ _ ih|rule _ ih | «at» _ ih|load _ _ ih|update _ _ ih|loadIfAlive _ ih|point _ ih|alloc _ ih|ask _ ih|choose _ _ ih|os _ ih|handled _ ih|genState _ _ ih|stack _ ih|thread _ ih|newGen _ ih=>exact ih
 |callSusp _ ih=>exact ih
 |resumeJustStarted _ _ _ ih|resumeThrowFresh _ _ ih|resumeRunning _ _ ih|resumeFinished _ _ ih=>exact ih
 |call _ _ ih1 ih2|segRet _ _ ih1 ih2|segGen _ _ ih1 ih2=>exact OI ih1 ih2
 |resumeFresh _ _ _ _ ih1 ih2|resumeSuspended _ _ _ _ ih1 ih2=>exact OI ih1 ih2
 |segSuspOut _ _ ih=>exact ih
 |segSuspGen _ _ _ _ ih1 ih2=>exact OI ih1 ih2
theorem zP{M:Model}{p:Pos}{g:Nat}{r:Resume}{res:GenResult}(h:Wakes M Γ p g r s res s'):s.toks<=s'.toks:=by
 unfold Wakes at h;split at h
 ·exact h.elim
 ·split at h
  ·obtain⟨e,s1,h1,_,_,rfl⟩:=h;exact(qj h1:(s.setGen g .running).toks<=s1.toks)
  ·rw[h.2];exact Pf _
  ·rw[h.2];exact Pf _
 ·obtain⟨e,s1,h1,_,_,rfl⟩:=h;exact(qj h1:(s.setGen g .running).toks<=s1.toks)
 ·rw[h.2];exact Pf _
 ·rw[h.2];exact Pf _
theorem BH{J:Type}{M:Model}(t:Sem J):∀{Q:J->Pos->Shared->Prop}{E:Value->Pos->Shared->Prop}(p:Pos)(s:Shared),n<=s.toks->Sem.wp M Γ t Q E p s->Sem.wp M Γ t (fun a p' s'=>Q a p' s'/\n<=s'.toks) E p s:=by
 induction t with
 |pure a=>exact fun p s hn h=>⟨h,hn⟩
 |raise e=>exact fun p s hn h=>h
 |unsupported|finish|register|yield|fork|await=>exact fun p s hn h=>h
 |rule _ k ih | «at» _ k ih|alloc _ k ih|loadIfAlive _ k ih|point _ k ih|ask k ih|os _ _ k ih|handled _ k ih|newGen _ k ih|stack k ih|thread k ih=>exact fun p s hn h=>ih _ _ _ hn h
 |fresh k ih=>exact fun p s hn h=>ih _ _ _ (Nat.le_succ_of_le hn) h
 |load a _ k ih|genState a k ih=>exact fun p s hn ⟨o,ho,h⟩=>⟨o,ho,ih _ _ _ hn h⟩
 |update a _ f k ih|choose _ _ k ih=>exact fun p s hn ⟨ha,h⟩=>⟨ha,ih _ _ _ hn h⟩
 |call c h g l k ih=>exact fun p s hn ⟨r,s',hr,h⟩=>⟨r,s',hr,ih _ _ _ (OI hn (qj hr)) h⟩
 |resume g r l k ih=>exact fun p s hn ⟨res,s',hw,h⟩=>⟨res,s',hw,ih _ _ _ (OI hn (zP hw)) h⟩
theorem Gq{J:Type}{M:Model}{t:Sem J}{Q:J->Shared->Prop}(hn:n<=s.toks)(h:wpAny M A t Q E s):wpAny M A t (fun a s'=>Q a s'/\n<=s'.toks) E s:=
 fun Γ p hΓ=>BH t p s hn (h Γ p hΓ)
theorem Gr{M:Model}(h:wpAny M A (eval (.BinOp e .Add (.Constant (.str c) j cp) pos) env) Q E s):
  wpAny M A (eval (.BinOp e .Add (.Constant (.str c) j cp) pos) env) (fun v s'=>Q v s'/\1<=s'.toks) E s:=by
 intro Γ p hΓ;have h1:=h Γ p hΓ;simp only[eval_BinOp,Sem.wp_bind',Sem.wp_holding,Sem.wp_cmd_standAt,Sem.wp_operate]at h1⊢;refine Sem.wp_mono M Γ _ (fun a p₁ s₁ h₂=>?_) (fun _ _ _ h'=>h') _ _ h1;have h3:Sem.wp M Γ (binaryOp .Add a (.str c s₁.toks)) (fun a _ s'=>Q a s') (fun e _ s'=>E e s') _ {s₁ with toks:=s₁.toks+1}:=h₂;exact BH _ _ _ (Nat.succ_le_succ (QR _)) h3
end RS
namespace L2
open PySem PySem.Spec PyProof.Rows RS
open Builtin.Str (strKind occurrences partsBetween)
section
variable{X:Cx}{a b:Expr}{es:List Expr}{fb fo f1:ME}{p1:Pos}
def yL(y z:Str)(d:D)(Y:aA):aj D:=match d with
 |.str x=>if (y == z)=false/\x.length<=1048576/\z.length<=14 then .ok (.str (Txt.replace x y z)) Y else .bad
 |_=>.bad
def u9(y z:Str)(fo:ME):ME:=i7 (yL y z) fo
def N6(X:Cx)(e:Expr)(t:TE):Prop:=
 ∀(pins:List (Addr×Obj))(s:Shared)(B:St)(H:Hp)(Q:VK),1<=s.toks->aX X pins B H s->t B H Q->wpAny (model X.prog X.w) X.A (eval e X.env) (EP X pins B Q) X.xe s
def N7(X:Cx)(es:List Expr)(t:TA):Prop:=
 ∀(pos:Pos)(pins:List (Addr×Obj))(s:Shared)(B:St)(H:Hp)(Q:List V->Hp->Prop),1<=s.toks->aX X pins B H s->t B H Q->wpAny (model X.prog X.w) X.A (spliced (backTo pos (starEach es X.env))) (AP X pins B Q) X.xe s
theorem Dg{t:TA}(ha:N6 X e te)(hr:PA X es t)(hs:starEach (e::es) X.env=(false,eval e X.env)::starEach es X.env):N7 X (e::es) (yD te t):=by
 intro pos pins s B H Q ht I h;rw[hs];show wpAny _ _ (spliced ((false,eval e X.env)::backTo pos (starEach es X.env))) _ _ s;refine Pu (cY (ha pins s B H _ ht I h) fun u s1 ⟨x,H1,I1,r1,q1⟩=>?_);exact cY (hr pos pins s1 B H1 _ I1 q1) fun us s2 ⟨xs,H2,I2,r2,q2⟩=>⟨x::xs,H2,I2,.cons r1 r2,q2⟩
theorem Dh{t:TA}{bp:Pos}(ha:PE X (.BinOp a .Add (.Constant (.str c) j cp) bp) te)(hr:N7 X es t)(hs:starEach (.BinOp a .Add (.Constant (.str c) j cp) bp::es) X.env=(false,eval (.BinOp a .Add (.Constant (.str c) j cp) bp) X.env)::starEach es X.env):PA X (.BinOp a .Add (.Constant (.str c) j cp) bp::es) (yD te t):=by
 intro pos pins s B H Q I h;rw[hs];show wpAny _ _ (spliced ((false,eval (.BinOp a .Add (.Constant (.str c) j cp) bp) X.env)::backTo pos (starEach es X.env))) _ _ s;refine Pu (cY (Gr (ha pins s B H _ I h)) fun u s1 ⟨⟨x,H1,I1,r1,q1⟩,ht⟩=>?_);exact cY (hr pos pins s1 B H1 _ ht I1 q1) fun us s2 ⟨xs,H2,I2,r2,q2⟩=>⟨x::xs,H2,I2,.cons r1 r2,q2⟩
theorem yQ{Q:List V->Hp->Prop}(h:jw p (af fa fr) B H Q):yD (tD p fa) (jw p fr) B H Q:=by
 obtain⟨J,Z,Y,S,R,P⟩:=h;exact⟨J,Z,Y,S,R,P.bind.imp fun x Y1 H1 J1 X1 S1 P1 v rv=>⟨J1,Z,Y1,S1,R.mono X1,P1.bind.imp fun y Y2 H2 J2 X2 S2 P2 us ru=>P2.now S2 _ (Reps.cons (rv.mono X2) ru)⟩⟩
theorem Ft{z:Str}{j1 j2:Nat}{q1 q2:Pos}(ho:PE X ob (tD p fo))(hbase:attributeBase ob "replace" X.env (eval ob X.env)=eval ob X.env)(hline:(apos.endLine == pos.line)=true):
  N6 X (.Call (.Attribute ob "replace" apos) [.Constant (.str y) j1 q1,.Constant (.str z) j2 q2] [] pos) (tD p (u9 y z fo)):=by
 intro pins s B H Q ht I ⟨J,Z,Y,S,R,P⟩;refine wpAny_Call_method_late hbase rfl hline rfl (cY (Gq ht (ho pins s B H (fun v H1=>∃x,v=.str x/\(y == z)=false/\x.length<=1048576/\z.length<=14/\Q (.str (Txt.replace x y z)) H1) I ⟨J,Z,Y,S,R,?_⟩)) fun v s1 ⟨⟨x,H1,I1,r1,w,hx,h1,h2,h3,q⟩,ht1⟩=>?_)
 ·refine P.bind.imp fun d Y1 H1 J1 X1 S1 P1 v rv => ?_;unfold yL at P1;split at P1
  ·rename_i x;split at P1
   ·rename_i hc;exact⟨x,aC.mp rv,hc.1,hc.2.1,hc.2.2,P1.now S1 _ (aC.mpr rfl)⟩
   ·exact P1.elim
  ·exact P1.elim
 ·subst hx;obtain⟨t,rfl⟩:=r1;refine⟨"str",_,SW,PySem.F.slot_str_replace,PySem.F.type_str_replace,Qq _ _ _,(fun _ e=>nomatch e),?_⟩;refine Qv rfl (Calls.evalArgs_plain (Pu (OX (k:=j1) (pos:=q1) (Pu (OX (k:=j2) (pos:=q2) (Calls.spliced_nil ?_))))));exact PySem.SC.replaceW (by show s1.toks≠0;omega) (by show s1.toks+1≠0;omega) (by show s1.toks≠s1.toks+1;omega) h1 h2 h3 fun t' k=>⟨.str _,H1,I1.tok _,⟨_,rfl⟩,q⟩
theorem Mo{z:Str}{j1 j2:Nat}{bp q1 q2:Pos}(h1:Bx (PE X (.BinOp a .Add (.Constant (.str c) j cp) bp) (tD p f1)))(ho:Bx (PE X ob (tD p fo)))(hr:Bx (PA X es (jw p fr)))(hbase:attributeBase ob "replace" X.env (eval ob X.env)=eval ob X.env:=by rfl)(hline:(apos.endLine == pos.line)=true:=by rfl):
  Bx (PA X (.BinOp a .Add (.Constant (.str c) j cp) bp::.Call (.Attribute ob "replace" apos) [.Constant (.str y) j1 q1,.Constant (.str z) j2 q2] [] pos::es) (jw p (af f1 (af (u9 y z fo) fr)))):=
 ⟨(Dh h1.h (fun ps pins s B H Q ht I h=>Dg (Ft ho.h hbase hline) hr.h rfl ps pins s B H Q ht I (yQ h)) rfl).weak fun B H Q h=>yQ h⟩
def Kr(d:D)(Y:aA):aj D:=match d with
 |.str x=>if (Txt.upper x).length<=sizeLine then .ok (.str (Txt.upper x)) Y else .bad
 |_=>.bad
theorem LW:Hl X "str.upper" (fun v vs H Q=>∃x,v=.str x/\vs=[]/\(Txt.upper x).length<=sizeLine/\Q (.str (Txt.upper x)) H):=by
 intro pins s B H v vs vv us Q I rx rv h;obtain⟨x,rfl,rfl,hl,q⟩:=h;obtain⟨t,rfl⟩:=rx;cases rv;have hf:Builtin.Str.tooLong (Txt.upper x).length=false:=by unfold Builtin.Str.tooLong;exact Ow (by omega)
 exact call_gives F.slot_str_upper (Qq _ _ _) F.entry_str_upper (F.args_str_upper_1 _) (gives_str_upper x t hf) ⟨hl,.str _,H,I.tok _,⟨_,rfl⟩,q⟩
theorem Nk (ho:Bx (PE X ob (tD p fo))) (hbase:attributeBase ob "upper" X.env (eval ob X.env)=eval ob X.env:=by rfl) (hline:(apos.endLine == pos.line)=true:=by rfl) :
  Bx (PE X (.Call (.Attribute ob "upper" apos) [] [] pos) (tD p (i7 Kr fo))):=
 ⟨(Ji SW PySem.F.slot_str_upper PySem.F.type_str_upper LW ho.h hbase hline).weak fun B H Q ⟨J, Z, Y, S, R, P⟩ => ⟨J, Z, Y, S, R, P.bind.imp fun d Y1 H1 J1 X1 S1 P1 v rv => by
   unfold Kr at P1;split at P1
   ·rename_i x;split at P1
    ·rename_i hc;rw[aC.mp rv];exact⟨rfl,x,rfl,rfl,hc,P1.now S1 _ (aC.mpr rfl)⟩
    ·exact P1.elim
   ·exact P1.elim⟩⟩
def Eh(d:D)(lo hi:Option Int)(Y:aA):aj D:=match d with
 |.str x=>if x.length<=sizeLine then .ok (.str (Txt.slice x lo hi)) Y else .bad
 |_=>.bad
def jA(fa:ME)(fl fh:MO):ME:=fun Z Y=>(fa Z Y).bind fun a Y1=>(fl Z Y1).bind fun lo Y2=>(fh Z Y2).bind fun hi Y3=>Eh a lo hi Y3
theorem zj{v:Value}{o:Option Int}(h:IsPart v o):∃q:Option (Int×Tok),v=partValue q/\q.map (·.1)=o:=by
 cases h with
 |none=>exact⟨none,rfl,rfl⟩
 |int i t=>exact⟨some (i,t),rfl,rfl⟩
theorem Iu:D3 X (fun x lo hi H Q=>∃z,x=.str z/\z.length<=sizeLine/\Q (.str (Txt.slice z lo hi)) H):=by
 intro pins s B H x v vl vu lo hi sl Q I rx hs pl pu h;obtain⟨z,rfl,hz,q⟩:=h;obtain⟨t,rfl⟩:=rx;obtain⟨l,rfl,rfl⟩:=zj pl;obtain⟨u,rfl,rfl⟩:=zj pu;refine⟨"str",_,F.slot_str_getitem.lookup,Qq _ _ _,wpAny_getItem_str_slice (l:=l) (u:=u) (st:=none) hs rfl (post_val_or_str ⟨OI (Txt.slice_le z _ _) hz,fun t' k=>?_⟩)⟩;exact⟨.str _,H,I.tok _,⟨_,rfl⟩,q⟩
theorem rP{lo hi:Option Expr}{fh:MO}(he:Bx (PE X e (tD p fa)))(hl:Bx (PO X lo (DZ p fl)))(hu:Bx (PO X hi (DZ p fh))):Bx (PE X (.Subscript e (.Slice lo hi none p2) pos) (tD p (jA fa fl fh))):=
 ⟨(vD Iu he.h hl.h hu.h).weak fun B H Q ⟨J, Z, Y, S, R, P⟩ => ⟨J, Z, Y, S, R, P.bind.imp fun a Y1 H1 J1 X1 S1 P1 v rv => ⟨J1, Z, Y1, S1, R.mono X1, P1.bind.imp fun l Y2 H2 J2 X2 S2 P2 => ⟨J2, Z, Y2, S2, (R.mono X1).mono X2, P2.bind.imp fun h Y3 H3 J3 X3 S3 P3 => by
   unfold Eh at P3;split at P3
   ·rename_i x;split at P3
    ·rename_i hc;exact⟨x,aC.mp rv,hc,P3.now S3 _ (aC.mpr rfl)⟩
    ·exact P3.elim
   ·exact P3.elim⟩⟩⟩⟩
def ki(x:Str)(n:Nat):Str:=⟨(List.replicate n x.cps).foldl (·++·) #[]⟩
theorem sG:∀(n:Nat)(c acc:Array Nat),((List.replicate n c).foldl (·++·) acc).size=acc.size+n*c.size
 |0,c,acc=>by simp
 |n+1,c,acc=>by
  rw[Qw,QA,sG n c,Array.size_append,QD];omega
theorem xN(x:Str)(n:Nat):(ki x n).length=n*x.length:=by
 have:=sG n x.cps #[];simpa[ki,Str.length] using this
def n8(a b:D)(Y:aA):aj D:=match a,b with
 |.str x,.int k=>if 2<=k/\k<=1000/\x.length=1 then .ok (.str (ki x k.toNat)) Y else .bad
 |_,_=>.bad
theorem FE:iy X (binaryOp .Mult) (fun x y H Q=>∃z k,x=.str z/\y=.int k/\2<=k/\k<=1000/\z.length=1/\Q (.str (ki z k.toNat)) H):=by
 intro pins s B H x y v u Q I rx ry h;obtain⟨z,k,rfl,rfl,h1,h2,h3,q⟩:=h;obtain⟨t,rfl⟩:=rx;obtain⟨t',rfl⟩:=ry;have e1:¬ k<1:=by omega
 have e2:¬ (k == 1 || z.length == 0)=true:=by simp;omega
 refine PySem.P.mul_str (by simp;omega) (fun _ _=>?_) (fun _ _=>?_) ?_
 ·rw[h3];have:(2^63-1:Int) / k ≥ 1:=(Int.le_ediv_iff_mul_le (by omega)).mpr (by omega);omega
 ·rw[h3];unfold Builtin.Str.tooLong;exact Ow (by rw[Pp];omega)
 ·rw[OB e1,OB e2];refine⟨?_,.str _,H,I.tok _,⟨_,rfl⟩,q⟩;have hlen:=xN z k.toNat;show (ki z k.toNat).length<=sizeLine;rw[hlen,h3,Pp];omega
theorem BI(ha:Bx (PE X a (tD p fa)))(hb:Bx (PE X b (tD p fb))):Bx (PE X (.BinOp a .Mult b pos) (tD p (av n8 fa fb))):=⟨lV FE (by
 intro a b v y H J Y Q S ra rb P;unfold n8 at P;split at P
 ·split at P
  ·rename_i hc;exact⟨_,_,aC.mp ra,ar.mp rb,hc.1,hc.2.1,hc.2.2,P.now S _ (aC.mpr rfl)⟩
  ·exact P.elim
 ·exact P.elim) ha.h hb.h⟩
def BC(a b:D)(Y:aA):aj D:=match a,b with
 |.str x,.str y=>.ok (.bl (!(!(Builtin.Str.occurrences y x 0 y.length 1).isEmpty))) Y
 |_,_=>.bad
theorem JX:jZ X p .NotIn BC:=⟨_,uq,by
 intro a b v y H J Y Q S ra rb P;unfold BC at P;split at P
 ·exact⟨_,_,aC.mp ra,aC.mp rb,P.now S _ (aU.mpr rfl)⟩
 ·exact P.elim⟩
def GK(ta:TA):TE:=fun B H Q=>ta B H fun vs H1=>∃i j:Int,vs=[.int i,.int j]/\∀r,H1 r=none->Q (.ref r) (b9 H1 r (.rng i j))
theorem Am(hg:Gl X "range")(hm:X.mg "range" = none)(ha:PA X [a,b] ta)(hs:starEach [a,b] X.env=(false,eval a X.env)::starEach [b] X.env)(hpl:(backTo pos (starEach [b] X.env)).any (·.1)=false):PE X (.Call (.Name "range" p1) [a,b] [] pos) (GK ta):=by
 intro pins s B H Q I h;refine Call_ (lX I hg hm boot_range (Pg (cY (ha pos pins s B H _ I h) fun us s1 ⟨vs,H1,I1,r1,q1⟩=>?_) hs hpl));obtain⟨i,j,e,q⟩:=q1;subst e;cases r1 with
 |cons r rr=>
  cases rr with
  |cons r' rr'=>
   cases rr';obtain⟨t,rfl⟩:=r;obtain⟨t',rfl⟩:=r';refine call_range_2 ?_;refine⟨.ref s1.heap.objs.size,b9 H1 s1.heap.objs.size (.rng i j),I1.laid (fun b ob e=>O8 _ e) (Pf _) ⟨_,_,_,Pe _ rfl⟩,rfl,q _ (I1.hok.fresh (Pf _))⟩
theorem DP{r:Addr}{lo hi i:Int}{t u v t':Tok}(hr:s.heap.get? r=some {cls:=.type "range",data:=.fields #[.int lo t,.int hi u,.int 1 v]})(h:Q (.bool (Builtin.Range.rangePlace? lo hi 1 i).isSome) s):
  wpAny (model prog w) A (call (.builtin "range.__contains__") [.ref r,.int i t']) Q E s:=by
 have hT:s.TypeIs (.ref r) "range" := ⟨_,hr,rfl⟩;refine Ql SY hT PySem.F.entry_range_contains ?_ (PySem.F.args_range_contains_2 _ _);obtain⟨hp,g,d,tk,os⟩:=s
 wp_walk using SZ hr
 exact⟨_,rfl,h⟩
theorem FD:iy X (compareOp .NotIn) (fun x y H Q=>∃i r lo hi,x=.int i/\y=.ref r/\H r=some (.rng lo hi)/\Q (.bl (!decide (lo<=i/\i<hi))) H):=by
 intro pins s B H x y v u Q I rx ry h;obtain⟨i,r,lo,hi,rfl,rfl,hr,q⟩:=h;obtain⟨t,rfl⟩:=rx;cases ry;obtain⟨t1,t2,t3,hg⟩:=(show dk X.prog X.w H s.heap r (.rng lo hi) from I.hok r _ hr);refine PyProof.Rows.NotIn_slot (T:="range") ⟨_,hg,rfl⟩ SY (DP hg (OY ⟨.bl _,H,I,?_,q⟩));show Value.bool _=Value.bool _;congr 2;unfold Builtin.Range.rangePlace?;by_cases h:lo<=i/\i<hi
 ·simp[h]
 ·rw [Ow h];by_cases h1:lo<=i
  ·have:¬ i<hi:=fun h2=>h ⟨h1,h2⟩;simp[h1,this]
  ·simp[h1]
theorem x9{i j:Int}(h:Reps K H J [.int i,.int j] vs):vs=[.int i,.int j]:=by
 simp only[Reps]at h;obtain⟨v,r,rfl,h1,w,r',rfl,h2,rfl⟩:=h;rw[ar.mp h1,ar.mp h2]
def pX(lo hi:Int)(d:D)(Y:aA):aj D:=match d with
 |.int i=>.ok (.bl (!decide (lo<=i/\i<hi))) Y
 |_=>.bad
theorem Ew{lo hi:Int}{Q:VK}(h:tD p (i7 (pX lo hi) fa) B H Q):
  Kw (fun x y H Q=>∃i r lo hi,x=.int i/\y=.ref r/\H r=some (.rng lo hi)/\Q (.bl (!decide (lo<=i/\i<hi))) H) (tD p fa) (GK (jw p (af (cC (.int lo)) (af (cC (.int hi)) aD)))) B H Q:=by
 obtain⟨J,Z,Y,S,R,P⟩:=h;refine⟨J,Z,Y,S,R,P.bind.imp fun d Y1 H1 J1 X1 S1 P1 v rv=>?_⟩;unfold pX at P1;split at P1
 ·rename_i i;refine⟨J1,Z,Y1,S1,R.mono X1,fun H2 J2 X2 S2 vs rs=>⟨lo,hi,?_,fun r hr=>?_⟩⟩
  ·exact x9 rs
  ·refine⟨i,r,lo,hi,ar.mp rv,rfl,bj,?_⟩;exact P1 _ _ (X2.trans (bV hr)) (S2.same (bV hr) fun a ha=>aV fun z=>ha (by rw[z];exact hr)) _ (aU.mpr rfl)
 ·exact P1.elim
theorem BO {lo hi:Int}{j1 j2:Nat}{q1 q2:Pos} (ha:Bx (PE X a (tD p fa))) (hm:X.mg "range" = none) (hg:Gl X "range" := by rfl):Bx (PT X (.Compare a [.NotIn] [.Call (.Name "range" p1) [.Constant (.int lo) j1 q1,.Constant (.int hi) j2 q2] [] p2] pos) (iO p (fQ (i7 (pX lo hi) fa)))):=
 ⟨(ze FD ha.h (Am hg hm (tO bS.h (tO bS.h BZ rfl) rfl) rfl rfl) rfl).weak fun B H Q ⟨J, Z, Y, S, R, P⟩ => Ew ⟨J, Z, Y, S, R, P.bind.imp fun d Y3 H3 J3 X3 S3 P3 z rz => by
   obtain⟨k,_,e,q⟩:=l0 P3 rz S3
   exact⟨k,e,q⟩⟩⟩
def qf(ds:List D)(Y:aA):aj D:=match ds with
 |[.str x]=>if x.length<=sizeLine then .ok (.obj Y.length) (Y++[.lst (dr x)]) else .bad
 |_=>.bad
theorem yv (hc:X.calm=true):cZ X (.type "list") (fun xs H Q=>∃x,xs=[.str x]/\x.length<=sizeLine/\∀l,H l=none->Q (.ref l) (b9 H l (.lst (x.cps.toList.map fun c=>V.str ⟨#[c]⟩)))):=by
 intro pins s B H xs us Q I r h;obtain⟨x,rfl,hl,q⟩:=h;obtain⟨u,rfl,t,rfl⟩:=eP r;refine call_list_str (I.ok.hd hc) x t (fun h' tk acc' c' hk hl' hit=>?_) hl
 have hv:br (x.cps.toList.map fun c=>V.str ⟨#[c]⟩) acc'.toList:=by
  obtain⟨e1,e2⟩:=hit;refine qw (by simp[e1]) fun i x' u h1 h2=>?_;rw[Q7]at h2;obtain⟨c,tk',hcc,rfl⟩:=e2 i u h2;rw[PU,Q7,hcc]at h1;cases h1;exact⟨_,rfl⟩
 exact⟨.ref _,_,I.laid hk (Pf _) (show dk X.prog X.w _ h' _ (.lst _) from⟨by simpa[Str.length] using hl,acc'.toList,c',hv,by simpa using hl'⟩),rfl,q _ (I.hok.fresh (Pf _))⟩
theorem Gn (hc:X.calm=true):mD X p "list" qf:=⟨_,_,.inr ⟨_,rfl⟩,boot_list,yv hc,by
 intro ds vs H J Y Q S r P;unfold qf at P;split at P
 ·split at P
  ·rename_i x hz;obtain⟨v,rfl,r1⟩:=r.one;refine⟨x,by rw[aC.mp r1],hz,fun l hl=>?_⟩;have e1:dr x=(x.cps.toList.map fun c=>(⟨#[c]⟩:Str)).map D.str:=by unfold dr;rw[Rb];rfl
   have e2:(x.cps.toList.map fun c=>V.str ⟨#[c]⟩)=(x.cps.toList.map fun c=>(⟨#[c]⟩:Str)).map V.str:=by rw[Rb];rfl
   rw[e1]at P;rw[e2];obtain⟨x1,x2,x3⟩:=c9 S hl (ql _);exact P _ _ x1 x2 _ x3
  ·exact P.elim
 ·exact P.elim,by decide,by decide⟩
theorem F8(l b:Addr)(items items2:Array Value)(n n2:Nat)(dd dd2:Option Addr)(sl sl2:Array (Option Value))(eks:List (Bool×Bool)) :
  ∀i:Nat,Meets (Builtin.«list.__eq__.loop» ⟨[.ref l,.ref b,rawInt i,rawInt 5],[]⟩)
   (fun A R s => s.heap.get? l = some { cls := .type "list", dict := dd, data := .seq items n, slots := sl } /\ s.heap.get? b = some { cls := .type "list", dict := dd2, data := .seq items2 n2, slots := sl2 } /\
    dm .GtE A.in1 s (items.toList.drop i) (items2.toList.drop i) eks/\R (.ok (.ret (.bool (eD (decide (items.size ≥ items2.size)) eks)))) s):=by
 induction eks with
 |nil=>
  intro i prog w A R s h;obtain⟨hp,g,d,tk,os⟩:=s;obtain⟨hl,hb,hc,h⟩:=h
  have hh:items[i]?=none\/items2[i]?=none:=by
   cases e1:items.toList.drop i with
   |nil=>exact .inl (by have:=S7.mp e1;simp at this⊢;exact this)
   |cons x r=>
    cases e2:items2.toList.drop i with
    |nil=>exact .inr (by have:=S7.mp e2;simp at this⊢;exact this)
    |cons y r'=>rw[e1,e2]at hc;simp only[dm]at hc
  have hR:R (.ok (.ret (.bool (decide (items.size ≥ items2.size))))) ⟨hp,g,d,tk,os⟩:=h
  wp_walk using SZ hl,SZ hb
  have ht:((i:Nat):Int).toNat=i:=by simp
  rw[ht];rcases hh with hh|hh
  ·rw [hh]
   wp_walk using SZ hl,SZ hb
   exact hR
  ·rw[hh];cases items[i]? <;> (wp_walk using SZ hl,SZ hb) <;> exact hR
 |cons ek eks ih=>
  intro i prog w A R s h;obtain⟨hp,g,d,tk,os⟩:=s;obtain⟨hl,hb,hc,h⟩:=h;obtain⟨e,k⟩:=ek;cases e1:items.toList.drop i with
  |nil=>rw[e1]at hc;cases h2:items2.toList.drop i <;> rw[h2]at hc <;> simp only[dm]at hc
  |cons x r=>
   cases e2:items2.toList.drop i with
   |nil=>rw[e1,e2]at hc;simp only[dm]at hc
   |cons y r'=>
    have a1:items[i]?=some x:=by
     have:=O0 (fun l=>l[0]?) e1;simpa using this
    have a2:items2[i]?=some y:=by
     have:=O0 (fun l=>l[0]?) e2;simpa using this
    have d1:items.toList.drop (i+1)=r:=by rw[<- List.drop_drop,e1];rfl
    have d2:items2.toList.drop (i+1)=r':=by rw[<- List.drop_drop,e2];rfl
    rw[e1,e2]at hc;simp only[dm]at hc;obtain⟨he,hk,hci⟩:=hc;have ht:((i:Nat):Int).toNat=i:=by simp
    have hc':((i:Int)+1)=((i+1:Nat):Int):=by push_cast;rfl
    wp_walk using SZ hl,SZ hb
    rw[ht,a1,a2];refine O3 (he prog w _ _ ?_);cases e with
    |true=>
     have hR:R (.ok (.ret (.bool (eD (decide (items.size ≥ items2.size)) eks)))) ⟨hp,g,d,tk,os⟩:=h
     wp_walk
     rw[hc']
     exact⟨RR S8 _,RO S9 (by
      rw[RP S8 _]
      exact ih (i+1) prog w A R _ ⟨hl,hb,by rw[d1,d2];exact hci rfl,hR⟩)⟩
    |false=>
     have hR:R (.ok (.ret (.bool k))) ⟨hp,g,d,tk,os⟩:=h;have hri:=hk rfl prog w
     wp_walk using SZ hl,SZ hb
     rw[a1,a2]
     wp_walk using hri
     exact hR
theorem wM(l b:Addr)(items items2:Array Value)(n n2:Nat)(dd dd2:Option Addr)(sl sl2:Array (Option Value))(eks:List (Bool×Bool)) :
  Meets (Builtin.«list.__ge__» ⟨[.ref l,.ref b],[]⟩)
   (fun A R s => s.heap.get? l = some { cls := .type "list", dict := dd, data := .seq items n, slots := sl } /\ s.heap.get? b = some { cls := .type "list", dict := dd2, data := .seq items2 n2, slots := sl2 } /\
    dm .GtE A.in1 s items.toList items2.toList eks/\R (.ok (.ret (.bool (eD (decide (items.size ≥ items2.size)) eks)))) s):=by
 intro prog w A R s h;obtain⟨hp,g,d,tk,os⟩:=s;obtain⟨hl,hb,hc,h⟩:=h;have f3:=PySem.AutoSeq1.sub_list_list
 wp_walk using SZ hl,SZ hb
 exact⟨RR S8 _,RO S9 (by
  rw[RP S8 _]
  exact F8 l b items items2 n n2 dd dd2 sl sl2 eks 0 prog w A R _ ⟨hl,hb,hc,h⟩)⟩
theorem Ju(hu:X.A.units+64<cLine):iy X (compareOp .GtE) (fun x y H Q=>∃ps qs k,mw X.K H (.list ps) x/\mw X.K H (.list qs) y/\fS (.list ps)=true/\fS (.list qs)=true/\cmpPs .GtE ps qs=some k/\Q (.bl k) H):=by
 intro pins s B H x y v u Q I rx ry h;obtain⟨ps,qs,k,h1,h2,h3,h4,h5,q⟩:=h;obtain⟨as,r1⟩:=c8 I (.list ps) x v h1 rx;obtain⟨bs,r2⟩:=c8 I (.list qs) y u h2 ry;have hroom:=lg (b:=.list qs) h3 hu;cases r1 with
 | @list l o vs n _ as₁ a1 a2 a3 a4=>
  cases r2 with
  | @list l' o' vs' n' _ bs₁ b1 b2 b3 b4=>
   have n1:vs.size=ps.length:=by simpa using SH _ _ _ a4
   have n2:vs'.size=qs.length:=by simpa using SH _ _ _ b4
   obtain⟨eks,e1,e2⟩:=rc_readsAll (op:=.GtE) rfl ps qs X.A.in1 s vs.toList vs'.toList _ _ k a4 b4 (by simpa[PyData.canLay0] using cn h3) (by simpa[PyData.canLay0] using cn h4) (SeqAt.room_in hroom) h5;obtain⟨cls,dd,data,sl⟩:=o;obtain⟨cls',dd',data',sl'⟩:=o';simp only at a2 a3 b2 b3;subst a2 a3 b2 b3;have e:decide (vs.size ≥ vs'.size)=cj .GtE (ps.length:Nat) (qs.length:Nat):=by rw[n1,n2];unfold cj;simp
   exact SG (op:=.GtE) ⟨_,a1,rfl⟩ ⟨_,b1,rfl⟩ PySem.F.slot_list_ge PySem.F.entry_list_ge (PySem.F.args_list_ge_2 _ _) (wM l l' vs vs' n n' dd dd' sl sl' eks)
    ⟨a1,b1,e1,show Value.bool (eD (decide (vs.size ≥ vs'.size)) eks)≠Value.notImplemented/\EP X pins B Q (.bool (eD (decide (vs.size ≥ vs'.size)) eks)) s from⟨(fun x=>nomatch x),⟨.bl k,H,I,by rw[e,e2];rfl,q⟩⟩⟩ (SeqAt.room_here hroom)
def zN(a b:D)(Y:aA):aj D:=match oC Y a,oC Y b with
 |some (.list ps),some (.list qs)=>if fS (.list ps)=true/\fS (.list qs)=true then (match cmpPs .GtE ps qs with|some k=>.ok (.bl k) Y|none=>.bad) else .bad
 |_,_=>.bad
theorem L5(hu:X.A.units+64<cLine)(hK:X.K=p.K:=by rfl):jZ X p .GtE zN:=⟨_,Ju hu,by
 intro a b v y H J Y Q S ra rb P;unfold zN at P;split at P
 ·rename_i ps qs hx hz;split at P
  ·rename_i hf;split at P
   ·rename_i k hk;exact⟨ps,qs,k,hK ▸ kh S hx ra,hK ▸ kh S hz rb,hf.1,hf.2,hk,P.now S _ (aU.mpr rfl)⟩
   ·exact P.elim
  ·exact P.elim
 ·exact P.elim⟩
theorem Ey(h:dy X.prog X.w X.K X.mg X.base p k x n F)(hr:dG k X.A)(hg:Gl X x:=by rfl)(hdb:(x == ("__debug__" : Str))=false:=by decide):Bx (PE X (.Call (.Name x p1) [] [] pos) (tD p (aI F aD))):=⟨C0 h hr hg hdb⟩
def KU(i j:Nat)(ds:List D)(Z:Ro)(Y:aA):SO:=match ds with
 |[d,e]=>.next ((Z.set i (some d)).set j (some e)) Y
 |_=>.bad
def Ef(i j:Nat)(fr:MA):MS:=fun Z Y=>(fr Z Y).bindS fun ds Y1=>KU i j ds Z Y1
theorem LD(i j:Nat){py pt pt2:Pos}{kt k2:Nat}(hN:X.N.Nodup)(ha:Bx (PA X [a,b] (jw p fr)))(hij:i≠j:=by decide)(hi:X.N[i]?=some x:=by rfl)(hj:X.N[j]?=some y:=by rfl)(hx:X.env.scope.names.lookup x=some .local:=by rfl)(hy:X.env.scope.names.lookup y=some .local:=by rfl)(hc:X.calm=true:=by rfl)(hw:swappedStores [.Tuple [.Name x px,.Name y py] kt pt] (.Tuple [a,b] k2 pt2) X.env=pure (some [x,y]):=by rfl)(hs:swapsWithSole [.Tuple [.Name x px,.Name y py] kt pt] (.Tuple [a,b] k2 pt2) pos.line X.env=pure false:=by rfl):
  Bx (PS X (.Assign [.Tuple [.Name x px,.Name y py] kt pt] (.Tuple [a,b] k2 pt2) pos) (iw p (Ef i j fr))):=
 ⟨(IV hc hN hi hj hij hx hy ha.h hw hs).weak fun D B H ⟨J, Z, Y, S, R, P⟩ => ⟨J, Z, Y, S, R, (aO.bindS P).imp fun ds Y1 H1 J1 X1 S1 P1 vs rv => by
   unfold KU at P1;split at P1
   ·rename_i d e;simp only[Pa.Rs,Reps]at rv;obtain⟨v,r,rfl,h1,w,r',rfl,h2,rfl⟩:=rv;exact⟨v,w,rfl,P1 H1 J1 _ lA.refl S1 (((R.mono X1).set i h1).set j h2)⟩
   ·exact P1.elim⟩⟩
theorem Jp(hu:X.A.units+64<cLine):iy X (compareOp .NotEq) (fun x y H Q=>∃a b xs,x=.ref a/\y=.ref b/\H a=some (.lst xs)/\H b=some (.lst [])/\Q (.bl (!xs.isEmpty)) H):=by
 intro pins s B H x y v u Q I rx ry h;obtain⟨a,b,xs,rfl,rfl,h1,h2,q⟩:=h;cases rx;cases ry;obtain⟨z,its,n,r,hl,e⟩:=I.lstM h1;obtain⟨z',its',n',r',hl',e'⟩:=I.lstM h2;cases r';have i1:s.heap.IsList a its.toArray:=⟨_,e,rfl,n,rfl⟩;have i2:s.heap.IsList b ([]:List Value).toArray:=⟨_,e',rfl,n',rfl⟩;have hr:X.A.units<cLine:=by omega
 have fin:EP X pins B Q (.bool (!xs.isEmpty)) s:=⟨.bl _,H,I,rfl,q⟩;cases r with
 |nil=>exact PySem.SeqAt.RcNeAt.lists (e:=fun _=>true) i1 i2 rfl hr (fun j h1 h2=>absurd h1 (Nat.not_lt_zero j)) X.prog X.w X.xe _ fin
 |cons _ _=>exact PySem.SeqAt.RcNeAt.lists_lengths i1 i2 (by simp) hr X.prog X.w X.xe _ fin
def Bh(a b:D)(Y:aA):aj D:=match a,b with
 |.obj m,.obj n=>match Y[m]?,Y[n]? with
  |some (.lst xs),some (.lst [])=>.ok (.bl (!xs.isEmpty)) Y
  |_,_=>.bad
 |_,_=>.bad
theorem L3(hu:X.A.units+64<cLine):jZ X p .NotEq Bh:=⟨_,Jp hu,by
 intro a b v y H J Y Q S ra rb P;unfold Bh at P;split at P
 ·split at P
  ·rename_i xs h1 h2;obtain⟨a,us,rfl,a1,e1,r1⟩:=cI S ra h1;obtain⟨b,vs,rfl,b1,e2,r2⟩:=cI S rb h2;have:vs=[]:=by simpa using r2.length
   subst this;refine⟨a,b,us,rfl,rfl,e1,e2,?_⟩;have hl:=r1.length;have:us.isEmpty=xs.isEmpty:=by cases us <;> cases xs <;> simp_all
   rw[this];exact P.now S _ (aU.mpr rfl)
  ·exact P.elim
 ·exact P.elim⟩
end
end L2
namespace Lw
open PySem L2
section
structure Nm(mg:Str->Option Value):Prop where
 ValueError:mg "ValueError" = none
 all:mg "all" = none
 bool:mg "bool" = none
 enumerate:mg "enumerate" = none
 int:mg "int" = none
 isinstance:mg "isinstance" = none
 len:mg "len" = none
 list:mg "list" = none
 max:mg "max" = none
 min:mg "min" = none
 range:mg "range" = none
 repr:mg "repr" = none
 set:mg "set" = none
 sorted:mg "sorted" = none
 str:mg "str" = none
 tuple:mg "tuple" = none
theorem wz:aW ["thing"] ["thing"] (au iY):=⟨rfl,rfl,rfl,by decide +kernel,rfl,by decide +kernel,by decide +kernel⟩
def qJ:MS:=bL (iT (i7 (fV "int") (ah 0)) (va (i7 (fV "bool") (ah 0))))
def iH:List D->aA->aj D:=hU 1 1 qJ
theorem nV:aW ["thing", "least", "most"] ["thing", "least", "most"] (au eK):=⟨rfl,rfl,rfl,by decide +kernel,rfl,by decide +kernel,by decide +kernel⟩
def jV:MS:=bL (iT (aI iH (af (ah 0) (aD))) (kn (eV .LtE) (eV .LtE) (ah 1) (ah 0) (ah 2)))
def cw:List D->aA->aj D:=hU 3 3 jV
theorem wB:aW ["many", "thing"] ["many", "thing"] (au iZ):=⟨rfl,rfl,rfl,by decide +kernel,rfl,by decide +kernel,by decide +kernel⟩
def qK:MS:=bL (aI cw (af (ah 1) (af (cC (.int 0)) (af (av lR (ah 0) (cC (.int 1))) (aD)))))
def iI:List D->aA->aj D:=hU 2 2 qK
theorem uk:aW ["many", "thing"] ["many", "thing"] (au gn):=⟨rfl,rfl,rfl,by decide +kernel,rfl,by decide +kernel,by decide +kernel⟩
theorem qS:(["place", "many"]:List Str).Nodup:=by decide +kernel
def lK:ME:=aI iI (af (ah 1) (af (ah 0) (aD)))
def oz:MS:=bL (iT (i7 (fV "tuple") (ah 1)) (aI oH (af (fe (jX (ah 1)) [none,some 0] (aq 0) (cQ) (lK)) (aD))))
def g9:List D->aA->aj D:=hU 2 2 oz
theorem uj:aW ["things"] ["things"] (au gm):=⟨rfl,rfl,rfl,by decide +kernel,rfl,by decide +kernel,by decide +kernel⟩
theorem qR:(["at", "things"]:List Str).Nodup:=by decide +kernel
def lJ:ME:=av (eV .Lt) (av cx (ah 1) (av lR (ah 0) (cC (.int 1)))) (av cx (ah 1) (ah 0))
def oy:MS:=bL (aI oH (af (fe (lQ xm (af (cC (.int 1)) (af (aI d3 (af (ah 0) (aD))) (aD)))) [none,some 0] (aq 0) (cQ) (lJ)) (aD)))
def g7:List D->aA->aj D:=hU 1 1 oy
theorem xY:aW ["thing"] ["thing"] (au jO):=⟨rfl,rfl,rfl,by decide +kernel,rfl,by decide +kernel,by decide +kernel⟩
def sV:MS:=bL (aI cw (af (ah 0) (af (cC (.int 1)) (af (cC (.int 6)) (aD)))))
def iC:List D->aA->aj D:=hU 1 1 sV
theorem xX:aW ["many", "thing"] ["many", "thing"] (au jN):=⟨rfl,rfl,rfl,by decide +kernel,rfl,by decide +kernel,by decide +kernel⟩
def sU:MS:=bL (iT (aI g9 (af (ah 0) (af (ah 1) (aD)))) (iT (av (mv false) (aI d3 (af (ah 1) (aD))) (cC (.int 2))) (av (mv true) (av cx (ah 1) (cC (.int 0))) (av cx (ah 1) (cC (.int 1))))))
def js:List D->aA->aj D:=hU 2 2 sU
theorem Af:aW ["many", "thing"] ["many", "thing"] (au kZ):=⟨rfl,rfl,rfl,by decide +kernel,rfl,by decide +kernel,by decide +kernel⟩
def wm:MS:=bL (iT (aI js (af (ah 0) (af (ah 1) (aD)))) (av (eV .Lt) (av cx (ah 1) (cC (.int 0))) (av cx (ah 1) (cC (.int 1)))))
def kx:List D->aA->aj D:=hU 2 2 wm
theorem xW:aW ["many", "thing"] ["many", "thing"] (au iF):=⟨rfl,rfl,rfl,by decide +kernel,rfl,by decide +kernel,by decide +kernel⟩
theorem uB:(["tie", "many"]:List Str).Nodup:=by decide +kernel
def ou:ME:=aI kx (af (ah 1) (af (ah 0) (aD)))
def sT:MS:=bL (iT (i7 (fV "tuple") (ah 1)) (iT (aI oH (af (fe (jX (ah 1)) [none,some 0] (aq 0) (cQ) (ou)) (aD))) (aI g7 (af (ah 1) (aD)))))
def iB:List D->aA->aj D:=hU 2 2 sT
theorem um:aW ["word"] ["word"] (au gp):=⟨rfl,rfl,rfl,by decide +kernel,rfl,by decide +kernel,by decide +kernel⟩
theorem qT:(["sign"]:List Str).Nodup:=by decide +kernel
def jc:ME:=av (Ht) (ah 0) (cC (.str "0123456789"))
def oA:MS:=bh (j3 (fW (gX (fQ (kn (eV .LtE) (eV .LtE) (cC (.int 1)) (aI d3 (af (ah 0) (aD))) (cC (.int 20))))) (gX (j9 (aI oH (af (fe (Bg (ah 0)) [none] (aq 0) (cQ) (jc)) (aD)))))) (bL (cC (.bl false))) (cf))
 (bL (Ei (av (j8 false) (ah 0) (cC (.str "0"))) (av (j8 true) (av xr (ah 0) (cC (.int 0))) (cC (.str "0")))))
def hG:List D->aA->aj D:=hU 1 1 oA
theorem i3:aW ["word", "many", "row", "words"] ["word", "many", "row"] (au cu):=⟨rfl,rfl,rfl,by decide +kernel,rfl,by decide +kernel,by decide +kernel⟩
theorem lx:(["one"]:List Str).Nodup:=by decide +kernel
theorem lu:(["one"]:List Str).Nodup:=by decide +kernel
def fL:ME:=aI hG (af (ah 0) (aD))
def fK:ME:=aI rZ (af (ah 0) (aD))
def ju:MS:=bh (bR (hW cy (ah 2) (af (cC (.str " ")) (aD))) (aq 3))
 (bh (j3 (fW (fQ (av (mv true) (aI d3 (af (ah 3) (aD))) (av bo (ah 1) (cC (.int 1))))) (fW (fQ (av (j8 true) (av cx (ah 3) (cC (.int 0))) (ah 0))) (gX (j9 (aI oH (af (fe (jX (qW (ah 3) (bZ (cC (.int 1))) (j4))) [none] (aq 0) (cQ) (fL)) (aD))))))) (bL (cC .non)) (cf))
 (bL (aI km (af (fe (jX (qW (ah 3) (bZ (cC (.int 1))) (j4))) [none] (aq 0) (cQ) (fK)) (aD)))))
def cF:List D->aA->aj D:=hU 3 4 ju
theorem cB:aW ["text", "rows", "head", "many", "due", "ties", "at", "row", "tie"] ["text"] (au iX):=⟨rfl,rfl,rfl,by decide +kernel,rfl,by decide +kernel,by decide +kernel⟩
def cA:MS:=bh (bR (aI (fun ds Y=>(cF ds Y).nox) (af (cC (.str "tie")) (af (cC (.int 2)) (af (ah 7) (aD))))) (aq 8))
 (bh (j3 (fW (fQ (av (mv false) (ah 6) (ah 4))) (fW (fQ (av (sZ false) (ah 8) (cC .non))) (gX (j9 (aI (fun ds Y=>(iB ds Y).nox) (af (ah 3) (af (av bo (ah 5) (je (af (ah 8) (aD)))) (aD)))))))) (fw "NoText" "row" (af (av bo (ah 6) (cC (.int 2))) (aD))) (cf))
 (bR (av bo (ah 5) (je (af (ah 8) (aD)))) (aq 5)))
def mi:MS:=bh (j3 (gX (j9 (i7 (fV "str") (ah 0)))) (fw "NoText" "row" (af (cC (.int 0)) (aD))) (cf))
 (bh (bR (hW cy (ah 0) (af (cC (.str "\n")) (aD))) (aq 1))
 (bh (bR (aI (fun ds Y=>(cF ds Y).nox) (af (cC (.str "web")) (af (cC (.int 2)) (af (av cx (ah 1) (cC (.int 0))) (aD))))) (aq 2))
 (bh (j3 (fW (fQ (av (sZ false) (ah 2) (cC .non))) (gX (j9 (aI (fun ds Y=>(iC ds Y).nox) (af (av cx (ah 2) (cC (.int 0))) (aD)))))) (fw "NoText" "row" (af (cC (.int 1)) (aD))) (cf))
 (bh (bR (ah 2) (fY 2 (bH (aq 3) (bH (aq 4) (fZ)))))
 (bh (bR (je (aD)) (aq 5))
 (bh (nt (lQ pW (af (qW (ah 1) (bZ (cC (.int 1))) (j4)) (aD))) (fY 2 (bH (aq 6) (bH (aq 7) (fZ)))) cA)
 (bh (j3 (fQ (av (eV .Lt) (aI d3 (af (ah 5) (aD))) (ah 4))) (fw "NoText" "row" (af (av bo (aI d3 (af (ah 1) (aD))) (cC (.int 1))) (aD))) (cf))
 (bL (je (af (ah 3) (af (ah 5) (aD))))))))))))
def cJ:List D->aA->aj D:=hU 1 9 mi
theorem oM:aW ["_law_script", "_law_k"] ["_law_script", "_law_k"] (au fE):=⟨rfl,rfl,rfl,by decide +kernel,rfl,by decide +kernel,by decide +kernel⟩
def iN:MS:=bh (j3 (fQ (av (eV .Lt) (ah 1) (aI d3 (af (ah 0) (aD))))) (bL (av cx (ah 0) (ah 1))) (cf))
 (bL (cC (.int 0)))
def eC:List D->aA->aj D:=hU 2 2 iN
theorem mX:aW ["_law_seed"] ["_law_seed"] (au iq):=⟨rfl,rfl,rfl,by decide +kernel,rfl,by decide +kernel,by decide +kernel⟩
def oB:MS:=bh (bR (av uP (av bo (ah 0) (cC (.int 7919))) (cC (.int 2147483647))) (aq 0))
 (bL (av uP (av bo (av bo (av xq (ah 0) (ah 0)) (av xq (cC (.int 48271)) (ah 0))) (cC (.int 12345))) (cC (.int 2147483629))))
def fP:List D->aA->aj D:=hU 1 1 oB
theorem kF:aW ["_law_cell", "_law_left"] ["_law_cell"] (au gu):=⟨rfl,rfl,rfl,by decide +kernel,rfl,by decide +kernel,by decide +kernel⟩
def lO:MS:=bh (bR (aI uQ (af (ah 0) (af (av lR (cC (.int 0)) (ah 0)) (aD)))) (aq 1))
 (bL (fT (af (ah 1) (af (aI u6 (af (av (eV .GtE) (ah 1) (av Hs (cC (.int 10)) (cC (.int 18)))) (aD))) (af (av uP (ah 1) (cC (.int 1000003))) (aD))))))
def fu:List D->aA->aj D:=hU 1 2 lO
theorem mY:aW ["_law_pen", "_law_many", "_law_found"] ["_law_pen", "_law_many"] (au ir):=⟨rfl,rfl,rfl,by decide +kernel,rfl,by decide +kernel,by decide +kernel⟩
def kE:MS:=bh (j3 (fQ (av (mv false) (av cx (ah 0) (cC (.int 1))) (cC (.int 1)))) (bh (bR (av uP (av cx (ah 0) (cC (.int 0))) (ah 1)) (aq 2))
 (bh (bR (av u7 (av cx (ah 0) (cC (.int 0))) (ah 1)) (pU (ah 0) (cC (.int 0))))
 (bL (ah 2)))) (cf))
 (bh (bR (aI fP (af (av bo (aI fP (af (av cx (ah 0) (cC (.int 2))) (aD))) (cC (.int 7))) (aD))) (pU (ah 0) (cC (.int 2))))
 (bL (av uP (av u7 (av cx (ah 0) (cC (.int 2))) (cC (.int 64))) (ah 1))))
def aL:List D->aA->aj D:=hU 2 3 kE
theorem rB:aW ["_law_found"] ["_law_found"] (au gQ):=⟨rfl,rfl,rfl,by decide +kernel,rfl,by decide +kernel,by decide +kernel⟩
def uF:MS:=bL (iT (i7 (fV "int") (ah 0)) (va (i7 (fV "bool") (ah 0))))
def bX:List D->aA->aj D:=hU 1 1 uF
theorem ic:aW ["_law_e", "_law_marks"] ["_law_e"] (au fD):=⟨rfl,rfl,rfl,by decide +kernel,rfl,by decide +kernel,by decide +kernel⟩
def kJ:MS:=bh (bR (fT (af (i7 (lS [] ["NoText"]) (ah 0)) (af (i7 (lS [] ["NoText"]) (ah 0)) (af (i7 (lS [] ["NoText"]) (ah 0)) (af (i7 (lS [] ["NoText"]) (ah 0)) (aD)))))) (aq 1))
 (bh (bR (av bo (ah 1) (fT (af (i7 (lS [] ["NoText"]) (ah 0)) (af (i7 (lS [] ["NoText"]) (ah 0)) (af (i7 (lS ["NoText"] ["NoText"]) (ah 0)) (af (i7 (lS [] ["NoText"]) (ah 0)) (aD))))))) (aq 1))
 (bh (j3 (fW (gX (j9 (i7 (lS ["NoText"] ["NoText"]) (ah 0)))) (fQ (av (mv true) (yC kX (ah 1) (af (cC (.bl true)) (aD))) (cC (.int 1))))) (bL (cC (.str "other"))) (cf))
 (bL (av cx (fT (af (cC (.str "place")) (af (cC (.str "number")) (af (cC (.str "line")) (af (cC (.str "root")) (af (cC (.str "tree")) (af (cC (.str "web")) (af (cC (.str "text")) (af (cC (.str "great")) (aD)))))))))) (yC kW (ah 1) (af (cC (.bl true)) (aD)))))))
def eB:List D->aA->aj D:=hU 1 2 kJ
theorem qL:aW ["_law_many", "_law_ties"] ["_law_many", "_law_ties"] (au d8):=⟨rfl,rfl,rfl,by decide +kernel,rfl,by decide +kernel,by decide +kernel⟩
theorem jt:(["_law_a", "_law_b"]:List Str).Nodup:=by decide +kernel
def ie:ME:=je (af (aI zM (af (ah 0) (af (ah 1) (aD)))) (af (aI uQ (af (ah 0) (af (ah 1) (aD)))) (aD)))
def lL:MS:=bL (je (af (ah 0) (af (aI km (af (aI kU (af (aI xp (af (fe (jX (ah 1)) [none,none] (fY 2 (bH (aq 0) (bH (aq 1) (fZ)))) (cQ) (ie)) (aD))) (aD))) (aD))) (aD))))
def bO:List D->aA->aj D:=hU 2 2 lL
theorem cV:aW ["_law_pen", "_law_most", "_law_many", "_law_share", "_law_ties", "_law_one"] ["_law_pen", "_law_most"] (au cU):=⟨rfl,rfl,rfl,by decide +kernel,rfl,by decide +kernel,by decide +kernel⟩
theorem ly:(["_law_other", "_law_one", "_law_pen", "_law_share"]:List Str).Nodup:=by decide +kernel
def dw:ME:=je (af (ah 0) (af (ah 1) (aD)))
def dv:MT:=fQ (av (mv false) (aI aL (af (ah 2) (af (ah 3) (aD)))) (cC (.int 0)))
def cM:MS:=mG (yC il (ah 4) (af (fe (lQ qZ (af (ah 5) (aD))) [none,some 5,some 0,some 3] (aq 0) (dv) (dw)) (aD)))
def jv:MS:=bh (bR (av bo (cC (.int 1)) (aI aL (af (ah 0) (af (ah 1) (aD))))) (aq 2))
 (bh (bR (av bo (cC (.int 2)) (aI aL (af (ah 0) (af (cC (.int 3)) (aD))))) (aq 3))
 (bh (bR (fT (aD)) (aq 4))
 (bh (nt (lQ qZ (af (ah 2) (aD))) (aq 5) cM)
 (bL (aI bO (af (ah 2) (af (ah 4) (aD))))))))
def cG:List D->aA->aj D:=hU 2 6 jv
theorem oK:aW ["_law_web", "_law_place"] ["_law_web", "_law_place"] (au dB):=⟨rfl,rfl,rfl,by decide +kernel,rfl,by decide +kernel,by decide +kernel⟩
theorem i5:(["_law_a", "_law_b", "_law_place"]:List Str).Nodup:=by decide +kernel
def gO:ME:=av lR (av bo (ah 0) (ah 1)) (ah 2)
def gN:MT:=fQ (av (uL false) (ah 2) (je (af (ah 0) (af (ah 1) (aD)))))
def kI:MS:=bL (fe (jX (av cx (ah 0) (cC (.int 1)))) [none,none,some 1] (fY 2 (bH (aq 0) (bH (aq 1) (fZ)))) (gN) (gO))
def eA:List D->aA->aj D:=hU 2 2 kI
theorem dh:aW ["_law_web", "_law_ties", "_law_place", "_law_near", "_law_one"] ["_law_web"] (au dg):=⟨rfl,rfl,rfl,by decide +kernel,rfl,by decide +kernel,by decide +kernel⟩
theorem mq:(["_law_other", "_law_one"]:List Str).Nodup:=by decide +kernel
def dY:ME:=je (af (ah 1) (af (ah 0) (aD)))
def dU:MT:=fQ (av (eV .Lt) (ah 1) (ah 0))
def dX:MS:=mG (yC il (ah 1) (af (fe (jX (ah 3)) [none,some 4] (aq 0) (dU) (dY)) (aD)))
def dW:MS:=bh (bR (aI eA (af (ah 0) (af (ah 2) (aD)))) (aq 3))
 (nt (jX (ah 3)) (aq 4) dX)
def jW:MS:=bh (bR (aI u4 (af (av cx (ah 0) (cC (.int 1))) (aD))) (aq 1))
 (bh (nt (lQ qZ (af (av cx (ah 0) (cC (.int 0))) (aD))) (aq 2) dW)
 (bL (aI bO (af (av cx (ah 0) (cC (.int 0))) (af (ah 1) (aD))))))
def dD:List D->aA->aj D:=hU 1 5 jW
theorem bY:aW ["_law_pen", "_law_most", "_law_web", "_law_way", "_law_one", "_law_pair", "_law_some"] ["_law_pen", "_law_most"] (au dC):=⟨rfl,rfl,rfl,by decide +kernel,rfl,by decide +kernel,by decide +kernel⟩
theorem ni:(["_law_tie", "_law_pair"]:List Str).Nodup:=by decide +kernel
def eO:ME:=ah 0
def eM:MT:=fQ (av (mv true) (ah 0) (ah 1))
def gx:MS:=bh (bR (aI cG (af (ah 0) (af (ah 1) (aD)))) (aq 2))
 (bh (bR (aI aL (af (ah 0) (af (cC (.int 4)) (aD)))) (aq 3))
 (bh (j3 (fQ (av (mv false) (ah 3) (cC (.int 0)))) (bL (ah 2)) (cf))
 (bh (bR (aI dD (af (ah 2) (aD))) (aq 2))
 (bh (j3 (vb (fQ (av (mv false) (ah 3) (cC (.int 3)))) (fQ (av (eV .Gt) (av cx (ah 2) (cC (.int 0))) (cC (.int 1))))) (bh (bR (aI aL (af (ah 0) (af (av lR (av cx (ah 2) (cC (.int 0))) (cC (.int 1))) (aD)))) (aq 4))
 (bh (bR (je (af (ah 4) (af (av bo (av bo (ah 4) (cC (.int 1))) (aI aL (af (ah 0) (af (av lR (av lR (av cx (ah 2) (cC (.int 0))) (cC (.int 1))) (ah 4)) (aD))))) (aD)))) (aq 5))
 (bh (bR (fe (jX (av cx (ah 2) (cC (.int 1)))) [none,some 5] (aq 0) (eM) (eO)) (aq 6))
 (bh (j3 (fQ (av (uL true) (ah 5) (av cx (ah 2) (cC (.int 1))))) (mG (yC dP (ah 6) (af (ah 5) (aD)))) (cf))
 (bR (aI bO (af (av cx (ah 2) (cC (.int 0))) (af (ah 6) (aD)))) (aq 2)))))) (cf))
 (bL (ah 2))))))
def cK:List D->aA->aj D:=hU 2 7 gx
theorem ml:aW ["_law_found", "_law_due"] ["_law_found", "_law_due"] (au cL):=⟨rfl,rfl,rfl,by decide +kernel,rfl,by decide +kernel,by decide +kernel⟩
theorem kM:(["_law_one"]:List Str).Nodup:=by decide +kernel
theorem kL:(["_law_number"]:List Str).Nodup:=by decide +kernel
def cX:ME:=aI bX (af (ah 0) (aD))
def eU:ME:=iT (i7 (fV "tuple") (ah 0)) (aI oH (af (fe (jX (ah 0)) [none] (aq 0) (cQ) (cX)) (aD)))
def i6:MS:=bh (j3 (fW (gX (j9 (i7 (fV "tuple") (ah 0)))) (fQ (av (mv true) (ah 0) (ah 1)))) (bL (cC (.bl false))) (cf))
 (bL (aI oH (af (fe (jX (ah 0)) [none] (aq 0) (cQ) (eU)) (aD))))
def cv:List D->aA->aj D:=hU 2 2 i6
theorem qM:aW ["_law_found", "_law_due"] ["_law_found", "_law_due"] (au gr):=⟨rfl,rfl,rfl,by decide +kernel,rfl,by decide +kernel,by decide +kernel⟩
def lN:MS:=bh (j3 (fW (gX (j9 (i7 (fV "tuple") (ah 0)))) (fW (fQ (av (mv true) (aI d3 (af (ah 0) (aD))) (cC (.int 2)))) (fW (gX (j9 (aI bX (af (av cx (ah 0) (cC (.int 0))) (aD))))) (fQ (av (mv true) (ah 0) (ah 1)))))) (bL (cC (.bl false))) (cf))
 (bL (aI cv (af (av cx (ah 0) (cC (.int 1))) (af (av cx (ah 1) (cC (.int 1))) (aD)))))
def fq:List D->aA->aj D:=hU 2 2 lN
theorem jT:aW ["_law_web", "_law_rows"] ["_law_web"] (au dA):=⟨rfl,rfl,rfl,by decide +kernel,rfl,by decide +kernel,by decide +kernel⟩
theorem i4:(["_law_a", "_law_b"]:List Str).Nodup:=by decide +kernel
def eN:ME:=av bo (av bo (av bo (cC (.str "tie ")) (aI rk (af (ah 0) (aD)))) (cC (.str " "))) (aI rk (af (ah 1) (aD)))
def kG:MS:=bh (bR (av bo (fT (af (av bo (av bo (av bo (cC (.str "web ")) (aI rk (af (av cx (ah 0) (cC (.int 0))) (aD)))) (cC (.str " "))) (aI rk (af (aI d3 (af (av cx (ah 0) (cC (.int 1))) (aD))) (aD)))) (aD))) (fe (jX (av cx (ah 0) (cC (.int 1)))) [none,none] (fY 2 (bH (aq 0) (bH (aq 1) (fZ)))) (cQ) (eN))) (aq 1))
 (bL (hW d4 (cC (.str "\n")) (af (ah 1) (aD))))
def d9:List D->aA->aj D:=hU 1 2 kG
theorem rC:aW ["_law_word"] ["_law_word"] (au fk):=⟨rfl,rfl,rfl,by decide +kernel,rfl,by decide +kernel,by decide +kernel⟩
theorem oV:(["_law_sign"]:List Str).Nodup:=by decide +kernel
def iL:ME:=ah 0
def iK:MT:=fQ (av (BC) (ah 0) (cC (.str "0123456789")))
def m5:MS:=bh (j3 (fW (fQ (i7 (pX 1 61) (aI d3 (af (ah 0) (aD))))) (fQ (av (Bh) (fe (Bg (ah 0)) [none] (aq 0) (iK) (iL)) (fT (aD))))) (bL (cC .non)) (cf))
 (bh (j3 (vb (fQ (av (j8 false) (av xr (ah 0) (cC (.int 0))) (cC (.str "0")))) (fQ (av (j8 true) (ah 0) (cC (.str "0"))))) (bL (cC .non)) (cf))
 (bL (aI rZ (af (ah 0) (aD)))))
def eG:List D->aA->aj D:=hU 1 1 m5
theorem mW:aW ["_law_text", "_law_e"] ["_law_text"] (au ip):=⟨rfl,rfl,rfl,by decide +kernel,rfl,by decide +kernel,by decide +kernel⟩
def fm:MS:=bL (aI cJ (af (ah 0) (aD)))
def gT:MS:=bh (j3 (fW (fQ (av (j8 true) (aI eB (af (ah 1) (aD))) (cC (.str "text")))) (gX (j9 (aI bX (af (i7 (r8 ["NoText"] "row") (ah 1)) (aD)))))) (bL (cC (.str "other"))) (cf))
 (bL (i7 (r8 ["NoText"] "row") (ah 1)))
def kD:MS:=Bc ["NoText"] 1 2 fm gT
def cD:List D->aA->aj D:=hU 1 2 kD
theorem ia:aW ["_law_row", "_law_word", "_law_words", "_law_found"] ["_law_row", "_law_word"] (au fB):=⟨rfl,rfl,rfl,by decide +kernel,rfl,by decide +kernel,by decide +kernel⟩
def kH:MS:=bh (bR (hW cy (ah 0) (af (cC (.str " ")) (aD))) (aq 2))
 (bh (j3 (fW (fQ (av (mv true) (aI d3 (af (ah 2) (aD))) (cC (.int 3)))) (fW (fQ (av (j8 true) (av cx (ah 2) (cC (.int 0))) (ah 1))) (fW (fQ (av (eV .Gt) (aI d3 (af (av cx (ah 2) (cC (.int 1))) (aD))) (cC (.int 20)))) (fQ (av (eV .Gt) (aI d3 (af (av cx (ah 2) (cC (.int 2))) (aD))) (cC (.int 20))))))) (bL (cC .non)) (cf))
 (bh (bR (je (af (aI eG (af (av cx (ah 2) (cC (.int 1))) (aD))) (af (aI eG (af (av cx (ah 2) (cC (.int 2))) (aD))) (aD)))) (aq 3))
 (bL (Mx (fQ (av (uL false) (cC .non) (ah 3))) (cC .non) (ah 3)))))
def df:List D->aA->aj D:=hU 2 4 kH
theorem de:aW ["_law_text", "_law_rows", "_law_head", "_law_ties", "_law_k", "_law_pair"] ["_law_text"] (au gv):=⟨rfl,rfl,rfl,by decide +kernel,rfl,by decide +kernel,by decide +kernel⟩
def bI:MS:=bh (bR (aI df (af (av cx (ah 1) (ah 4)) (af (cC (.str "tie")) (aD)))) (aq 5))
 (bh (j3 (fW (fQ (av (eV .Gt) (ah 4) (av cx (ah 2) (cC (.int 1))))) (fW (fQ (av (sZ false) (ah 5) (cC .non))) (fW (fQ (av (eV .GtE) (av cx (ah 5) (cC (.int 0))) (av cx (ah 5) (cC (.int 1))))) (fW (fQ (av (eV .GtE) (av cx (ah 5) (cC (.int 1))) (av cx (ah 2) (cC (.int 0))))) (fQ (av (zN) (qW (ah 3) (bZ (i7 sY (cC (.int 1)))) (j4)) (fT (af (ah 5) (aD))))))))) (bL (av bo (ah 4) (cC (.int 1)))) (cf))
 (mG (yC dP (ah 3) (af (ah 5) (aD)))))
def lP:MS:=bh (bR (hW cy (ah 0) (af (cC (.str "\n")) (aD))) (aq 1))
 (bh (bR (aI df (af (av cx (ah 1) (cC (.int 0))) (af (cC (.str "web")) (aD)))) (aq 2))
 (bh (j3 (fW (fQ (av (sZ false) (ah 2) (cC .non))) (fQ (i7 (pX 1 7) (av cx (ah 2) (cC (.int 0)))))) (bL (cC (.int 1))) (cf))
 (bh (bR (fT (aD)) (aq 3))
 (bh (nt (lQ xm (af (cC (.int 1)) (af (aI d3 (af (ah 1) (aD))) (aD)))) (aq 4) bI)
 (bh (j3 (fQ (av (eV .Lt) (aI d3 (af (ah 3) (aD))) (av cx (ah 2) (cC (.int 1))))) (bL (av bo (aI d3 (af (ah 1) (aD))) (cC (.int 1)))) (cf))
 (bL (je (af (av cx (ah 2) (cC (.int 0))) (af (aI km (af (ah 3) (aD))) (aD))))))))))
def fv:List D->aA->aj D:=hU 1 6 lP
theorem jb:aW ["_law_text", "_law_due", "_law_found"] ["_law_text"] (au gS):=⟨rfl,rfl,rfl,by decide +kernel,rfl,by decide +kernel,by decide +kernel⟩
def m7:MS:=bh (bR (aI fv (af (ah 0) (aD))) (aq 1))
 (bh (bR (aI cD (af (ah 0) (aD))) (aq 2))
 (bh (j3 (j9 (i7 (fV "tuple") (ah 1))) (bL (aI fq (af (ah 2) (af (ah 1) (aD))))) (cf))
 (bL (iT (aI bX (af (ah 2) (aD))) (av (mv false) (ah 2) (ah 1))))))
def eJ:List D->aA->aj D:=hU 1 3 m7
theorem lG:aW ["_law_signs_here"] [] (au gR):=⟨rfl,rfl,rfl,by decide +kernel,rfl,by decide +kernel,by decide +kernel⟩
def iu:MS:=bh (bR (cC (.str " !#$&'()*+,-./0123456789:;<=>?@ABCDEFGHIJKLMNOPQRSTUVWXYZ[]^_`abcdefghijklmnopqrstuvwxyz{|}~")) (aq 0))
 (bL (aI qf (af (av bo (ah 0) (cC (.str "\"\\"))) (aD))))
def gq:List D->aA->aj D:=hU 0 1 iu
theorem bC:aW ["_law_pen", "_law_row", "_law_words", "_law_spot", "_law_signs_here", "_law_odd", "_law_one", "_law_at", "_law_sign", "_law_some", "_law_way"] ["_law_pen", "_law_row"] (au fC):=⟨rfl,rfl,rfl,by decide +kernel,rfl,by decide +kernel,by decide +kernel⟩
def iM:MS:=bh (bR (hW cy (ah 1) (af (cC (.str " ")) (aD))) (aq 2))
 (bh (bR (aI aL (af (ah 0) (af (aI d3 (af (ah 2) (aD))) (aD)))) (aq 3))
 (bh (bR (aI gq aD) (aq 4))
 (bh (bR (fT (af (cC (.str "")) (af (cC (.str "0")) (af (cC (.str "00")) (af (cC (.str "-1")) (af (cC (.str "+1")) (af (cC (.str "1.0")) (af (cC (.str "6")) (af (cC (.str "7")) (af (av bo (cC (.str "1")) (av n8 (cC (.str "0")) (cC (.int 19)))) (af (av n8 (cC (.str "1")) (cC (.int 21))) (af (cC (.str "web")) (af (cC (.str "tie")) (af (cC (.str "01")) (af (cC (.str "7")) (aD)))))))))))))))) (aq 5))
 (bh (mG (yC dP (ah 5) (af (av cx (ah 4) (aI aL (af (ah 0) (af (aI d3 (af (ah 4) (aD))) (aD))))) (aD))))
 (bh (bR (av bo (av bo (qW (ah 2) (j4) (bZ (ah 3))) (fT (af (av cx (ah 5) (aI aL (af (ah 0) (af (cC (.int 15)) (aD))))) (aD)))) (qW (ah 2) (bZ (av bo (ah 3) (cC (.int 1)))) (j4))) (aq 6))
 (bh (bR (aI aL (af (ah 0) (af (av bo (aI d3 (af (ah 1) (aD))) (cC (.int 1))) (aD)))) (aq 7))
 (bh (bR (av cx (ah 4) (aI aL (af (ah 0) (af (aI d3 (af (ah 4) (aD))) (aD))))) (aq 8))
 (bh (bR (fT (af (av bo (av bo (jA (ah 1) (j4) (bZ (ah 7))) (ah 8)) (jA (ah 1) (bZ (ah 7)) (j4))) (af (av bo (jA (ah 1) (j4) (bZ (ah 7))) (jA (ah 1) (bZ (av bo (ah 7) (cC (.int 1)))) (j4))) (af (av bo (av bo (jA (ah 1) (j4) (bZ (ah 7))) (ah 8)) (jA (ah 1) (bZ (av bo (ah 7) (cC (.int 1)))) (j4))) (af (cC (.str "")) (af (av bo (cC (.str " ")) (ah 1)) (aD))))))) (aq 9))
 (bh (bR (av bo (ah 9) (fT (af (av bo (ah 1) (cC (.str " "))) (af (u9 " " "  " (ah 1)) (af (hW d4 (cC (.str " ")) (af (qW (ah 2) (j4) (bZ (i7 sY (cC (.int 1))))) (aD))) (af (av bo (ah 1) (cC (.str " 0"))) (af (av bo (ah 1) (cC (.str "0"))) (af (i7 Kr (ah 1)) (aD))))))))) (aq 9))
 (bh (bR (aI aL (af (ah 0) (af (cC (.int 16)) (aD)))) (aq 10))
 (bh (j3 (fQ (av (eV .Lt) (ah 10) (cC (.int 11)))) (bL (av cx (ah 9) (ah 10))) (cf))
 (bL (hW d4 (cC (.str " ")) (af (ah 6) (aD)))))))))))))))
def ef:List D->aA->aj D:=hU 2 11 iM
theorem gy:aW ["_law_pen", "_law_rows", "_law_spot", "_law_other", "_law_way"] ["_law_pen", "_law_rows"] (au dS):=⟨rfl,rfl,rfl,by decide +kernel,rfl,by decide +kernel,by decide +kernel⟩
def gP:MS:=bh (Ef 2 3 (af (aI aL (af (ah 0) (af (aI d3 (af (ah 1) (aD))) (aD)))) (af (aI aL (af (ah 0) (af (aI d3 (af (ah 1) (aD))) (aD)))) (aD))))
 (bh (bR (aI aL (af (ah 0) (af (cC (.int 8)) (aD)))) (aq 4))
 (bh (j3 (fQ (av (mv false) (ah 4) (cC (.int 0)))) (bL (av bo (qW (ah 1) (j4) (bZ (ah 2))) (qW (ah 1) (bZ (av bo (ah 2) (cC (.int 1)))) (j4)))) (cf))
 (bh (j3 (fQ (av (mv false) (ah 4) (cC (.int 1)))) (bL (av bo (qW (ah 1) (j4) (bZ (av bo (ah 2) (cC (.int 1))))) (qW (ah 1) (bZ (ah 2)) (j4)))) (cf))
 (bh (j3 (fQ (av (mv false) (ah 4) (cC (.int 2)))) (bh (bR (je (af (av cx (ah 1) (ah 3)) (af (av cx (ah 1) (ah 2)) (aD)))) (fY 2 (bH (pU (ah 1) (ah 2)) (bH (pU (ah 1) (ah 3)) (fZ)))))
 (bL (ah 1))) (cf))
 (bh (j3 (fQ (av (mv false) (ah 4) (cC (.int 3)))) (bL (av bo (ah 1) (fT (af (av cx (fT (af (cC (.str "tie 0 1")) (af (cC (.str "")) (af (cC (.str "tie 4 5")) (af (cC (.str "web 1 0")) (aD)))))) (aI aL (af (ah 0) (af (cC (.int 4)) (aD))))) (aD))))) (cf))
 (bL (av bo (av bo (qW (ah 1) (j4) (bZ (ah 2))) (fT (af (aI ef (af (ah 0) (af (av cx (ah 1) (ah 2)) (aD)))) (aD)))) (qW (ah 1) (bZ (av bo (ah 2) (cC (.int 1)))) (j4)))))))))
def di:List D->aA->aj D:=hU 2 5 gP
theorem jB:aW ["_law_script", "_law_thing", "_law_some", "_law_text", "_law_cell", "_law_pen", "_law_turn", "_law_spoilt"] ["_law_script"] (au lU):=⟨rfl,rfl,rfl,by decide +kernel,rfl,by decide +kernel,by decide +kernel⟩
def pL:MS:=j3 (fQ (av (j8 true) (aI nA (af (aI cD (af (ah 1) (aD))) (aD))) (cC (.str "0")))) (bL (cC (.bl false))) (cf)
def pK:MS:=j3 (gX (j9 (aI eJ (af (ah 3) (aD))))) (bL (cC (.bl false))) (cf)
def pJ:MS:=bh (bR (hW d4 (cC (.str "\n")) (af (aI di (af (ah 5) (af (hW cy (ah 3) (af (cC (.str "\n")) (aD))) (aD)))) (aD))) (aq 7))
 (j3 (gX (j9 (aI eJ (af (ah 7) (aD))))) (bL (cC (.bl false))) (cf))
def pI:MS:=bh (bR (aI fu (af (ah 4) (aD))) (aq 5))
 (bh (bR (aI d9 (af (aI cK (af (ah 5) (af (cC (.int 6)) (aD)))) (aD))) (aq 3))
 (nt (lQ qZ (af (cC (.int 6)) (aD))) (aq 6) pJ))
def Hd:MS:=bh (nt (jX (fT (af (cC .non) (af (cC (.int 0)) (af (cC (.bl true)) (af (fT (af (cC (.str "web 1 0")) (aD))) (af (je (af (cC (.str "web 1 0")) (aD))) (af (Bi) (aD))))))))) (aq 1) pL)
 (bh (bR (fT (af (cC (.str "")) (af (cC (.str "web 1 0")) (af (cC (.str "web 6 0")) (af (cC (.str "web 7 0")) (af (cC (.str "web 0 0")) (af (cC (.str "web 2 1\ntie 0 1")) (af (cC (.str "web 2 1")) (af (cC (.str "web 1 0\n")) (af (cC (.str "\n")) (af (cC (.str "web")) (aD)))))))))))) (aq 2))
 (bh (nt (jX (ah 2)) (aq 3) pK)
 (bh (nt (jX (av bo (fT (af (aI eC (af (ah 0) (af (cC (.int 0)) (aD)))) (aD))) (qW (ah 0) (bZ (cC (.int 1))) (bZ (cC (.int 6)))))) (aq 4) pI)
 (bL (cC (.bl true))))))
def vg:List D->aA->aj D:=hU 1 8 Hd
theorem wH(nm:Nm mg)(F:gF K "is_whole" "is_whole" iY f fd)(hm:mg "is_whole" = some (.ref f)):dy P w K mg base (dj K w) 1 "is_whole" 1 iH:=
 cH F wz rfl hm (F.b1 (by rfl) fun _ _ _ _ _ _ _=>by rfl) fun cdv A outer s H E hr=>
 ba (bq (kb (kc (T:="int") (by decide) xH (by decide) (by decide) nm.isinstance nm.int (aN 0)) (lD (GB (kc (T:="bool") (by decide) zE (by decide) (by decide) nm.isinstance nm.bool (aN 0))))))
theorem nX(nm:Nm mg)(F:gF K "is_whole_from" "is_whole_from" eK f fd)(hm:mg "is_whole_from" = some (.ref f))(d_is_whole:dy P w K mg base (dj K w) 1 "is_whole" 1 iH):dy P w K mg base (dj K w) 2 "is_whole_from" 3 cw:=
 cH F nV rfl hm (F.b3 (by rfl) fun _ _ _ _ _ _ _ _ _=>by rfl) fun cdv A outer s H E hr=>
 ba (bq (kb (bc d_is_whole (hr.mono (by decide)) (aT (aN 0) (bu))) (lD (Le (gI (op:=.LtE) hr.units) (gI (op:=.LtE) hr.units) (aN 1) (aN 0) (aN 2)))))
theorem wI(nm:Nm mg)(F:gF K "is_place" "is_place" iZ f fd)(hm:mg "is_place" = some (.ref f))(d_is_whole_from:dy P w K mg base (dj K w) 2 "is_whole_from" 3 cw):dy P w K mg base (dj K w) 3 "is_place" 2 iI:=
 cH F wB rfl hm (F.b2 (by rfl) fun _ _ _ _ _ _ _ _=>by rfl) fun cdv A outer s H E hr=>
 ba (bq (bc d_is_whole_from (hr.mono (by decide)) (aT (aN 1) (aT (bS) (aT (pR (aN 0) (bS)) (bu))))))
theorem uu(nm:Nm mg)(F:gF K "is_places" "is_places" gn f fd)(hm:mg "is_places" = some (.ref f))(d_is_place:dy P w K mg base (dj K w) 3 "is_place" 2 iI):dy P w K mg base (dj K w) 4 "is_places" 2 g9:=
 cH F uk rfl hm (F.b2 (by rfl) fun _ _ _ _ _ _ _ _=>by rfl) fun cdv A outer s H E hr=>
 ba (bq (kb (kc (T:="tuple") (by decide) jo (by decide) (by decide) nm.isinstance nm.tuple (aN 1)) (lD (bF p0 nm.all (aT (f7 (dQ (N:=["many", "thing"]) (sc:=au gn) (Nc:=["place", "many"]) (cap:=[none,some 0]) rfl rfl (by decide +kernel)) (xi (aN 1)) (fun _ _ _ _ _=>mr 0 qS) (fun _ _ _ _ _=>lC) (fun _ _ _ _ _=>bc d_is_place (hr.mono (by decide)) (aT (aN 1) (aT (aN 0) (bu))))) (bu))))))
theorem ur(nm:Nm mg)(F:gF K "is_rising" "is_rising" gm f fd)(hm:mg "is_rising" = some (.ref f)):dy P w K mg base (dj K w) 1 "is_rising" 1 g7:=
 cH F uj rfl hm (F.b1 (by rfl) fun _ _ _ _ _ _ _=>by rfl) fun cdv A outer s H E hr=>
 ba (bq (bF p0 nm.all (aT (f7 (dQ (N:=["things"]) (sc:=au gm) (Nc:=["at", "things"]) (cap:=[none,some 0]) rfl rfl (by decide +kernel)) (K3 nm.range (aT (bS) (aT (bF eR nm.len (aT (aN 0) (bu))) (bu)))) (fun _ _ _ _ _=>mr 0 qR) (fun _ _ _ _ _=>lC) (fun _ _ _ _ _=>mE (gI (op:=.Lt) hr.units) (cb (aN 1) (pR (aN 0) (bS))) (cb (aN 1) (aN 0)))) (bu))))
theorem yf(nm:Nm mg)(F:gF K "is_many" "is_many" jO f fd)(hm:mg "is_many" = some (.ref f))(c_MOST_PLACES:∃t,mg "MOST_PLACES" = some (.int 6 t))(d_is_whole_from:dy P w K mg base (dj K w) 2 "is_whole_from" 3 cw):dy P w K mg base (dj K w) 3 "is_many" 1 iC:=
 cH F xY rfl hm (F.b1 (by rfl) fun _ _ _ _ _ _ _=>by rfl) fun cdv A outer s H E hr=>
 ba (bq (bc d_is_whole_from (hr.mono (by decide)) (aT (aN 0) (aT (bS) (aT (KB c_MOST_PLACES) (bu))))))
theorem ye(nm:Nm mg)(F:gF K "is_pair" "is_pair" jN f fd)(hm:mg "is_pair" = some (.ref f))(d_is_places:dy P w K mg base (dj K w) 4 "is_places" 2 g9):dy P w K mg base (dj K w) 5 "is_pair" 2 js:=
 cH F xX rfl hm (F.b2 (by rfl) fun _ _ _ _ _ _ _ _=>by rfl) fun cdv A outer s H E hr=>
 ba (bq (kb (bc d_is_places (hr.mono (by decide)) (aT (aN 0) (aT (aN 1) (bu)))) (kb (mE (pN hr.units) (bF eR nm.len (aT (aN 1) (bu))) (bS)) (lD (mE (uO hr.units) (cb (aN 1) (bS)) (cb (aN 1) (bS)))))))
theorem As(nm:Nm mg)(F:gF K "is_tie" "is_tie" kZ f fd)(hm:mg "is_tie" = some (.ref f))(d_is_pair:dy P w K mg base (dj K w) 5 "is_pair" 2 js):dy P w K mg base (dj K w) 6 "is_tie" 2 kx:=
 cH F Af rfl hm (F.b2 (by rfl) fun _ _ _ _ _ _ _ _=>by rfl) fun cdv A outer s H E hr=>
 ba (bq (kb (bc d_is_pair (hr.mono (by decide)) (aT (aN 0) (aT (aN 1) (bu)))) (lD (mE (gI (op:=.Lt) hr.units) (cb (aN 1) (bS)) (cb (aN 1) (bS))))))
theorem yd(nm:Nm mg)(F:gF K "is_ties" "is_ties" iF f fd)(hm:mg "is_ties" = some (.ref f))(d_is_tie:dy P w K mg base (dj K w) 6 "is_tie" 2 kx)(d_is_rising:dy P w K mg base (dj K w) 1 "is_rising" 1 g7):dy P w K mg base (dj K w) 7 "is_ties" 2 iB:=
 cH F xW rfl hm (F.b2 (by rfl) fun _ _ _ _ _ _ _ _=>by rfl) fun cdv A outer s H E hr=>
 ba (bq (kb (kc (T:="tuple") (by decide) jo (by decide) (by decide) nm.isinstance nm.tuple (aN 1)) (kb (bF p0 nm.all (aT (f7 (dQ (N:=["many", "thing"]) (sc:=au iF) (Nc:=["tie", "many"]) (cap:=[none,some 0]) rfl rfl (by decide +kernel)) (xi (aN 1)) (fun _ _ _ _ _=>mr 0 uB) (fun _ _ _ _ _=>lC) (fun _ _ _ _ _=>bc d_is_tie (hr.mono (by decide)) (aT (aN 1) (aT (aN 0) (bu))))) (bu))) (lD (bc d_is_rising (hr.mono (by decide)) (aT (aN 1) (bu)))))))
theorem uw(nm:Nm mg)(F:gF K "is_number" "is_number" gp f fd)(hm:mg "is_number" = some (.ref f))(c_FIGURES:∃t,mg "FIGURES" = some (.str "0123456789" t))(c_MOST_FIGURES:∃t,mg "MOST_FIGURES" = some (.int 20 t)):dy P w K mg base (dj K w) 1 "is_number" 1 hG:=
 cH F um rfl hm (F.b1 (by rfl) fun _ _ _ _ _ _ _=>by rfl) fun cdv A outer s H E hr=>
 aM (fR (mx (i9 (jf (Lg (gI (op:=.LtE) hr.units) (gI (op:=.LtE) hr.units) (bS) (bF eR nm.len (aT (aN 0) (bu))) (KB c_MOST_FIGURES))) (jR (jf (zF (bF p0 nm.all (aT (f7 (dQ (N:=["word"]) (sc:=au gp) (Nc:=["sign"]) (cap:=[none]) rfl rfl (by decide +kernel)) (G5 (aN 0)) (fun _ _ _ _ _=>mr 0 qT) (fun _ _ _ _ _=>lC) (fun _ _ _ _ _=>mE (L4) (aN 0) (Nl c_FIGURES))) (bu)))))))) (ba (bq (DW))) (cP))
 (ba (bq (Nh (mE (G4) (aN 0) (dZ)) (lD (mE (rV) (GE (aN 0) (bS)) (dZ))))))
theorem nc(nm:Nm mg)(F:gF K "numbers_behind" "numbers_behind" cu f fd)(hm:mg "numbers_behind" = some (.ref f))(d_is_number:dy P w K mg base (dj K w) 1 "is_number" 1 hG):dy P w K mg base (dj K w) 2 "numbers_behind" 3 cF:=
 cH F i3 rfl hm (F.b3 (by rfl) fun _ _ _ _ _ _ _ _ _=>by rfl) fun cdv A outer s H E hr=>
 aM (bG 3 i3.nd (kN (aN 2) (aT (dZ) (bu))))
 (aM (fR (mx (i9 (bM (uO hr.units) (bF eR nm.len (aT (aN 3) (bu))) (bB (aN 1) (bS))) (i9 (bM (rV) (cb (aN 3) (bS)) (aN 0)) (jR (jf (zF (bF p0 nm.all (aT (f7 (dQ (N:=["word", "many", "row", "words"]) (sc:=au cu) (Nc:=["one"]) (cap:=[none]) rfl rfl (by decide +kernel)) (xi (my (aN 3) (ck (bS)) (cz))) (fun _ _ _ _ _=>mr 0 lx) (fun _ _ _ _ _=>lC) (fun _ _ _ _ _=>bc d_is_number (hr.mono (by decide)) (aT (aN 0) (bu)))) (bu))))))))) (ba (bq (A7))) (cP))
 (ba (bq (bF tZ nm.tuple (aT (f7 (dQ (N:=["word", "many", "row", "words"]) (sc:=au cu) (Nc:=["one"]) (cap:=[none]) rfl rfl (by decide +kernel)) (xi (my (aN 3) (ck (bS)) (cz))) (fun _ _ _ _ _=>mr 0 lu) (fun _ _ _ _ _=>lC) (fun _ _ _ _ _=>bF Cz nm.int (aT (aN 0) (bu)))) (bu))))))
theorem wG(nm:Nm mg)(F:gF K "web_read" "web_read" iX f fd)(hm:mg "web_read" = some (.ref f))(k_NoText:W.nsIn K mainGlobals "NoText" = some (some (.ref a_NoText)))(i_NoText:ve P w K mg base "NoText" "row" a_NoText)(d_numbers_behind:dy P w K mg base (dj K w) 2 "numbers_behind" 3 cF)(d_is_many:dy P w K mg base (dj K w) 3 "is_many" 1 iC)(d_is_ties:dy P w K mg base (dj K w) 7 "is_ties" 2 iB):Em P w K mg base 8 "web_read" 1 cJ:=
 HE F cB rfl hm (F.b1 (by rfl) fun _ _ _ _ _ _ _=>by rfl) fun cdv A outer s H E hr=>
 aM (fR (jf (zF (kc (T:="str") (by decide) Cw (by decide) (by decide) nm.isinstance nm.str (aN 0)))) (ba (mQ k_NoText i_NoText (hr.mono (by decide)) (aT (bS) (bu)))) (cP))
 (aM (bG 1 cB.nd (kN (aN 0) (aT (dZ) (bu))))
 (aM (bG 2 cB.nd (oY d_numbers_behind (hr.mono (by decide)) (aT (dZ) (aT (bS) (aT (cb (aN 1) (bS)) (bu))))))
 (aM (fR (mx (i9 (bM (yI) (aN 2) (A7)) (jR (jf (zF (oY d_is_many (hr.mono (by decide)) (aT (cb (aN 2) (bS)) (bu)))))))) (ba (mQ k_NoText i_NoText (hr.mono (by decide)) (aT (bS) (bu)))) (cP))
 (aM (yF (aN 2) (rX (hZ (mr 3 cB.nd) (hZ (mr 4 cB.nd) (rY)))))
 (aM (bG 5 cB.nd (iQ (bu)))
 (aM (mF PassesOwn.leaving (NN nm.enumerate (aT (my (aN 1) (ck (bS)) (cz)) (bu))) (rX (hZ (mr 6 cB.nd) (hZ (mr 7 cB.nd) (rY)))) (aM (bG 8 cB.nd (oY d_numbers_behind (hr.mono (by decide)) (aT (dZ) (aT (bS) (aT (aN 7) (bu))))))
 (aM (fR (mx (i9 (bM (pN hr.units) (aN 6) (aN 4)) (i9 (bM (yI) (aN 8) (A7)) (jR (jf (zF (oY d_is_ties (hr.mono (by decide)) (aT (aN 3) (aT (bB (aN 5) (iQ (aT (aN 8) (bu)))) (bu)))))))))) (ba (mQ k_NoText i_NoText (hr.mono (by decide)) (aT (bB (aN 6) (bS)) (bu)))) (cP))
 (ba (bG 5 cB.nd (bB (aN 5) (iQ (aT (aN 8) (bu)))))))))
 (aM (fR (bM (gI (op:=.Lt) hr.units) (bF eR nm.len (aT (aN 5) (bu))) (aN 4)) (ba (mQ k_NoText i_NoText (hr.mono (by decide)) (aT (bB (bF eR nm.len (aT (aN 1) (bu))) (bS)) (bu)))) (cP))
 (ba (bq (iQ (aT (aN 3) (aT (aN 5) (bu)))))))))))))
theorem oS(nm:Nm mg)(F:gF K "_law_cell_at" "_law_cell_at" fE f fd)(hm:mg "_law_cell_at" = some (.ref f)):dy P w K mg base (dj K w) 1 "_law_cell_at" 2 eC:=
 cH F oM rfl hm (F.b2 (by rfl) fun _ _ _ _ _ _ _ _=>by rfl) fun cdv A outer s H E hr=>
 aM (fR (bM (gI (op:=.Lt) hr.units) (aN 1) (bF eR nm.len (aT (aN 0) (bu)))) (ba (bq (cb (aN 0) (aN 1)))) (cP))
 (ba (bq (bS)))
theorem uy(nm:Nm mg)(F:gF K "_law_next" "_law_next" iq f fd)(hm:mg "_law_next" = some (.ref f)):dy P w K mg base (dj K w) 1 "_law_next" 1 fP:=
 cH F mX rfl hm (F.b1 (by rfl) fun _ _ _ _ _ _ _=>by rfl) fun cdv A outer s H E hr=>
 aM (bG 0 mX.nd (uW (bB (aN 0) (bS)) (bS)))
 (ba (bq (uW (bB (bB (GD (aN 0) (aN 0)) (GD (bS) (aN 0))) (bS)) (bS))))
theorem qP(nm:Nm mg)(F:gF K "_law_pen_of" "_law_pen_of" gu f fd)(hm:mg "_law_pen_of" = some (.ref f)):dy P w K mg base (dj K w) 1 "_law_pen_of" 1 fu:=
 cH F kF rfl hm (F.b1 (by rfl) fun _ _ _ _ _ _ _=>by rfl) fun cdv A outer s H E hr=>
 aM (bG 1 kF.nd (bF G9 nm.max (aT (aN 0) (aT (pR (bS) (aN 0)) (bu)))))
 (ba (bq (fM (aT (aN 1) (aT (bF Mn nm.int (aT (mE (gI (op:=.GtE) hr.units) (aN 1) (La (bS) (bS))) (bu))) (aT (uW (aN 1) (bS)) (bu)))))))
theorem uz(nm:Nm mg)(F:gF K "_law_draw" "_law_draw" ir f fd)(hm:mg "_law_draw" = some (.ref f))(d__law_next:dy P w K mg base (dj K w) 1 "_law_next" 1 fP):dy P w K mg base (dj K w) 2 "_law_draw" 2 aL:=
 cH F mY rfl hm (F.b2 (by rfl) fun _ _ _ _ _ _ _ _=>by rfl) fun cdv A outer s H E hr=>
 aM (fR (bM (pN hr.units) (cb (aN 0) (bS)) (bS)) (aM (bG 2 mY.nd (uW (cb (aN 0) (bS)) (aN 1)))
 (aM (yF (BJ (cb (aN 0) (bS)) (aN 1)) (yK (aN 0) (bS)))
 (ba (bq (aN 2))))) (cP))
 (aM (yF (bc d__law_next (hr.mono (by decide)) (aT (bB (bc d__law_next (hr.mono (by decide)) (aT (cb (aN 0) (bS)) (bu))) (bS)) (bu))) (yK (aN 0) (bS)))
 (ba (bq (uW (BJ (cb (aN 0) (bS)) (bS)) (aN 1)))))
theorem rD(nm:Nm mg)(F:gF K "_law_whole" "_law_whole" gQ f fd)(hm:mg "_law_whole" = some (.ref f)):pQ P w K mg base (dj K w) 1 "_law_whole" 1 bX:=
 BG F rB rfl hm (F.b1 (by rfl) fun _ _ _ _ _ _ _=>by rfl) fun cdv A outer s H E hr=>
 ba (bq (kb (kc (T:="int") (by decide) xH (by decide) (by decide) nm.isinstance nm.int (aN 0)) (lD (GB (kc (T:="bool") (by decide) zE (by decide) (by decide) nm.isinstance nm.bool (aN 0))))))
theorem oR(nm:Nm mg)(F:gF K "_law_kind_of" "_law_kind_of" fD f fd)(hm:mg "_law_kind_of" = some (.ref f)){a_NoLine a_NoNumber a_NoPlace a_NoRoot a_NoTree a_NoWeb a_TooGreat:Addr}(q_NoLine:bW K (.ref a_NoLine) [] ["NoText"])(q_NoNumber:bW K (.ref a_NoNumber) [] ["NoText"])(q_NoPlace:bW K (.ref a_NoPlace) [] ["NoText"])(q_NoRoot:bW K (.ref a_NoRoot) [] ["NoText"])(q_NoText:bW K (.ref a_NoText) ["NoText"] ["NoText"])(q_NoTree:bW K (.ref a_NoTree) [] ["NoText"])(q_NoWeb:bW K (.ref a_NoWeb) [] ["NoText"])(q_TooGreat:bW K (.ref a_TooGreat) [] ["NoText"])(q_ValueError:bW K (.type "ValueError") ["NoText"] ["NoText"])(m_NoLine:mg "NoLine" = some (.ref a_NoLine))(m_NoNumber:mg "NoNumber" = some (.ref a_NoNumber))(m_NoPlace:mg "NoPlace" = some (.ref a_NoPlace))(m_NoRoot:mg "NoRoot" = some (.ref a_NoRoot))(m_NoText:mg "NoText" = some (.ref a_NoText))(m_NoTree:mg "NoTree" = some (.ref a_NoTree))(m_NoWeb:mg "NoWeb" = some (.ref a_NoWeb))(m_TooGreat:mg "TooGreat" = some (.ref a_TooGreat)):pQ P w K mg base (dj K w) 1 "_law_kind_of" 1 eB:=
 BG F ic rfl hm (F.b1 (by rfl) fun _ _ _ _ _ _ _=>by rfl) fun cdv A outer s H E hr=>
 aM (bG 1 ic.nd (fM (aT (n3 q_NoPlace nm.isinstance m_NoPlace (aN 0)) (aT (n3 q_NoNumber nm.isinstance m_NoNumber (aN 0)) (aT (n3 q_NoLine nm.isinstance m_NoLine (aN 0)) (aT (n3 q_NoRoot nm.isinstance m_NoRoot (aN 0)) (bu)))))))
 (aM (bG 1 ic.nd (bB (aN 1) (fM (aT (n3 q_NoTree nm.isinstance m_NoTree (aN 0)) (aT (n3 q_NoWeb nm.isinstance m_NoWeb (aN 0)) (aT (n3 q_NoText nm.isinstance m_NoText (aN 0)) (aT (n3 q_TooGreat nm.isinstance m_TooGreat (aN 0)) (bu))))))))
 (aM (fR (mx (i9 (jf (zF (HH q_ValueError nm.isinstance nm.ValueError rL (aN 0)))) (jR (bM (uO hr.units) (Ld (aN 1) (aT (DW) (bu))) (bS))))) (ba (bq (dZ))) (cP))
 (ba (bq (cb (fM (aT (dZ) (aT (dZ) (aT (dZ) (aT (dZ) (aT (dZ) (aT (dZ) (aT (dZ) (aT (dZ) (bu)))))))))) (Lb (aN 1) (aT (DW) (bu))))))))
theorem qN(nm:Nm mg)(F:gF K "_law_web_of" "_law_web_of" d8 f fd)(hm:mg "_law_web_of" = some (.ref f)):dy P w K mg base (dj K w) 1 "_law_web_of" 2 bO:=
 cH F qL rfl hm (F.b2 (by rfl) fun _ _ _ _ _ _ _ _=>by rfl) fun cdv A outer s H E hr=>
 ba (bq (iQ (aT (aN 0) (aT (bF tZ nm.tuple (aT (bF DR nm.sorted (aT (bF (Ml hr.units) nm.set (aT (f7 (dQ (N:=["_law_many", "_law_ties"]) (sc:=au d8) (Nc:=["_law_a", "_law_b"]) (cap:=[none,none]) rfl rfl (by decide +kernel)) (xi (aN 1)) (fun _ _ _ _ _=>rX (hZ (mr 0 jt) (hZ (mr 1 jt) (rY)))) (fun _ _ _ _ _=>lC) (fun _ _ _ _ _=>iQ (aT (bF Mm nm.min (aT (aN 0) (aT (aN 1) (bu)))) (aT (bF G9 nm.max (aT (aN 0) (aT (aN 1) (bu)))) (bu))))) (bu))) (bu))) (bu))) (bu)))))
theorem nh(nm:Nm mg)(F:gF K "_law_drawn_web" "_law_drawn_web" cU f fd)(hm:mg "_law_drawn_web" = some (.ref f))(d__law_draw:dy P w K mg base (dj K w) 2 "_law_draw" 2 aL)(d__law_web_of:dy P w K mg base (dj K w) 1 "_law_web_of" 2 bO):dy P w K mg base (dj K w) 3 "_law_drawn_web" 2 cG:=
 cH F cV rfl hm (F.b2 (by rfl) fun _ _ _ _ _ _ _ _=>by rfl) fun cdv A outer s H E hr=>
 aM (bG 2 cV.nd (bB (bS) (bc d__law_draw (hr.mono (by decide)) (aT (aN 0) (aT (aN 1) (bu))))))
 (aM (bG 3 cV.nd (bB (bS) (bc d__law_draw (hr.mono (by decide)) (aT (aN 0) (aT (bS) (bu))))))
 (aM (bG 4 cV.nd (fM (bu)))
 (aM (mF Ta (Eg nm.range (aT (aN 2) (bu))) (mr 5 cV.nd) (ba (p9 (GF (aN 4) (aT (f7 (dQ (N:=["_law_pen", "_law_most", "_law_many", "_law_share", "_law_ties", "_law_one"]) (sc:=au cU) (Nc:=["_law_other", "_law_one", "_law_pen", "_law_share"]) (cap:=[none,some 5,some 0,some 3]) rfl rfl (by decide +kernel)) (Eg nm.range (aT (aN 5) (bu))) (fun _ _ _ _ _=>mr 0 ly) (fun _ _ _ _ _=>uV (bM (pN hr.units) (bc d__law_draw (hr.mono (by decide)) (aT (aN 2) (aT (aN 3) (bu)))) (bS))) (fun _ _ _ _ _=>iQ (aT (aN 0) (aT (aN 1) (bu))))) (bu))))))
 (ba (bq (bc d__law_web_of (hr.mono (by decide)) (aT (aN 2) (aT (aN 4) (bu)))))))))
theorem oQ(nm:Nm mg)(F:gF K "_law_near_of" "_law_near_of" dB f fd)(hm:mg "_law_near_of" = some (.ref f)):dy P w K mg base (dj K w) 1 "_law_near_of" 2 eA:=
 cH F oK rfl hm (F.b2 (by rfl) fun _ _ _ _ _ _ _ _=>by rfl) fun cdv A outer s H E hr=>
 ba (bq (f7 (dQ (N:=["_law_web", "_law_place"]) (sc:=au dB) (Nc:=["_law_a", "_law_b", "_law_place"]) (cap:=[none,none,some 1]) rfl rfl (by decide +kernel)) (xi (cb (aN 0) (bS))) (fun _ _ _ _ _=>rX (hZ (mr 0 i5) (hZ (mr 1 i5) (rY)))) (fun _ _ _ _ _=>uV (bM (K1 hr.units) (aN 2) (iQ (aT (aN 0) (aT (aN 1) (bu)))))) (fun _ _ _ _ _=>pR (bB (aN 0) (aN 1)) (aN 2))))
theorem nY(nm:Nm mg)(F:gF K "_law_two_step" "_law_two_step" dg f fd)(hm:mg "_law_two_step" = some (.ref f))(d__law_near_of:dy P w K mg base (dj K w) 1 "_law_near_of" 2 eA)(d__law_web_of:dy P w K mg base (dj K w) 1 "_law_web_of" 2 bO):dy P w K mg base (dj K w) 2 "_law_two_step" 1 dD:=
 cH F dh rfl hm (F.b1 (by rfl) fun _ _ _ _ _ _ _=>by rfl) fun cdv A outer s H E hr=>
 aM (bG 1 dh.nd (bF Km nm.list (aT (cb (aN 0) (bS)) (bu))))
 (aM (mF Ta (Eg nm.range (aT (cb (aN 0) (bS)) (bu))) (mr 2 dh.nd) (aM (bG 3 dh.nd (bc d__law_near_of (hr.mono (by decide)) (aT (aN 0) (aT (aN 2) (bu)))))
 (ba (mF Ta (xi (aN 3)) (mr 4 dh.nd) (ba (p9 (GF (aN 1) (aT (f7 (dQ (N:=["_law_web", "_law_ties", "_law_place", "_law_near", "_law_one"]) (sc:=au dg) (Nc:=["_law_other", "_law_one"]) (cap:=[none,some 4]) rfl rfl (by decide +kernel)) (xi (aN 3)) (fun _ _ _ _ _=>mr 0 mq) (fun _ _ _ _ _=>uV (bM (gI (op:=.Lt) hr.units) (aN 1) (aN 0))) (fun _ _ _ _ _=>iQ (aT (aN 1) (aT (aN 0) (bu))))) (bu)))))))))
 (ba (bq (bc d__law_web_of (hr.mono (by decide)) (aT (cb (aN 0) (bS)) (aT (aN 1) (bu)))))))
theorem oU(nm:Nm mg)(F:gF K "_law_any_web" "_law_any_web" dC f fd)(hm:mg "_law_any_web" = some (.ref f))(d__law_drawn_web:dy P w K mg base (dj K w) 3 "_law_drawn_web" 2 cG)(d__law_draw:dy P w K mg base (dj K w) 2 "_law_draw" 2 aL)(d__law_two_step:dy P w K mg base (dj K w) 2 "_law_two_step" 1 dD)(d__law_web_of:dy P w K mg base (dj K w) 1 "_law_web_of" 2 bO):dy P w K mg base (dj K w) 4 "_law_any_web" 2 cK:=
 cH F bY rfl hm (F.b2 (by rfl) fun _ _ _ _ _ _ _ _=>by rfl) fun cdv A outer s H E hr=>
 aM (bG 2 bY.nd (bc d__law_drawn_web (hr.mono (by decide)) (aT (aN 0) (aT (aN 1) (bu)))))
 (aM (bG 3 bY.nd (bc d__law_draw (hr.mono (by decide)) (aT (aN 0) (aT (bS) (bu)))))
 (aM (fR (bM (pN hr.units) (aN 3) (bS)) (ba (bq (aN 2))) (cP))
 (aM (bG 2 bY.nd (bc d__law_two_step (hr.mono (by decide)) (aT (aN 2) (bu))))
 (aM (fR (mx (GJ (bM (pN hr.units) (aN 3) (bS)) (BP (bM (gI (op:=.Gt) hr.units) (cb (aN 2) (bS)) (bS))))) (aM (bG 4 bY.nd (bc d__law_draw (hr.mono (by decide)) (aT (aN 0) (aT (pR (cb (aN 2) (bS)) (bS)) (bu)))))
 (aM (bG 5 bY.nd (iQ (aT (aN 4) (aT (bB (bB (aN 4) (bS)) (bc d__law_draw (hr.mono (by decide)) (aT (aN 0) (aT (pR (pR (cb (aN 2) (bS)) (bS)) (aN 4)) (bu))))) (bu)))))
 (aM (II 6 bY.nd (dQ (N:=["_law_pen", "_law_most", "_law_web", "_law_way", "_law_one", "_law_pair", "_law_some"]) (sc:=au dC) (Nc:=["_law_tie", "_law_pair"]) (cap:=[none,some 5]) rfl rfl (by decide +kernel)) (xi (cb (aN 2) (bS))) (fun _ _ _ _ _=>mr 0 ni) (fun _ _ _ _ _=>uV (bM (uO hr.units) (aN 0) (aN 1))) (fun _ _ _ _ _=>aN 0))
 (aM (fR (bM (LZ hr.units) (aN 5) (cb (aN 2) (bS))) (ba (p9 (Bk (aN 6) (aT (aN 5) (bu))))) (cP))
 (ba (bG 2 bY.nd (bc d__law_web_of (hr.mono (by decide)) (aT (cb (aN 2) (bS)) (aT (aN 6) (bu)))))))))) (cP))
 (ba (bq (aN 2)))))))
theorem mn(nm:Nm mg)(F:gF K "_law_tuples_are" "_law_tuples_are" cL f fd)(hm:mg "_law_tuples_are" = some (.ref f))(d__law_whole:pQ P w K mg base (dj K w) 1 "_law_whole" 1 bX):dy P w K mg base (dj K w) 2 "_law_tuples_are" 2 cv:=
 cH F ml rfl hm (F.b2 (by rfl) fun _ _ _ _ _ _ _ _=>by rfl) fun cdv A outer s H E hr=>
 aM (fR (mx (i9 (jf (zF (kc (T:="tuple") (by decide) jo (by decide) (by decide) nm.isinstance nm.tuple (aN 0)))) (jR (bM (uO hr.units) (aN 0) (aN 1))))) (ba (bq (DW))) (cP))
 (ba (bq (bF p0 nm.all (aT (f7 (dQ (N:=["_law_found", "_law_due"]) (sc:=au cL) (Nc:=["_law_one"]) (cap:=[none]) rfl rfl (by decide +kernel)) (xi (aN 0)) (fun _ _ _ _ _=>mr 0 kM) (fun _ _ _ _ _=>lC) (fun _ _ _ _ _=>kb (kc (T:="tuple") (by decide) jo (by decide) (by decide) nm.isinstance nm.tuple (aN 0)) (lD (bF p0 nm.all (aT (f7 (Gk (N:=["_law_one"]) (Nc:=["_law_number"]) (cap:=[none]) rfl rfl (by decide +kernel)) (xi (aN 0)) (fun _ _ _ _ _=>mr 0 kL) (fun _ _ _ _ _=>lC) (fun _ _ _ _ _=>bc d__law_whole.d (hr.mono (by decide)) (aT (aN 0) (bu)))) (bu)))))) (bu)))))
theorem qO(nm:Nm mg)(F:gF K "_law_web_is" "_law_web_is" gr f fd)(hm:mg "_law_web_is" = some (.ref f))(d__law_whole:pQ P w K mg base (dj K w) 1 "_law_whole" 1 bX)(d__law_tuples_are:dy P w K mg base (dj K w) 2 "_law_tuples_are" 2 cv):dy P w K mg base (dj K w) 3 "_law_web_is" 2 fq:=
 cH F qM rfl hm (F.b2 (by rfl) fun _ _ _ _ _ _ _ _=>by rfl) fun cdv A outer s H E hr=>
 aM (fR (mx (i9 (jf (zF (kc (T:="tuple") (by decide) jo (by decide) (by decide) nm.isinstance nm.tuple (aN 0)))) (i9 (bM (uO hr.units) (bF eR nm.len (aT (aN 0) (bu))) (bS)) (i9 (jf (zF (bc d__law_whole.d (hr.mono (by decide)) (aT (cb (aN 0) (bS)) (bu))))) (jR (bM (uO hr.units) (aN 0) (aN 1))))))) (ba (bq (DW))) (cP))
 (ba (bq (bc d__law_tuples_are (hr.mono (by decide)) (aT (cb (aN 0) (bS)) (aT (cb (aN 1) (bS)) (bu))))))
theorem oN(nm:Nm mg)(F:gF K "_law_text_of" "_law_text_of" dA f fd)(hm:mg "_law_text_of" = some (.ref f)):dy P w K mg base (dj K w) 1 "_law_text_of" 1 d9:=
 cH F jT rfl hm (F.b1 (by rfl) fun _ _ _ _ _ _ _=>by rfl) fun cdv A outer s H E hr=>
 aM (bG 1 jT.nd (bB (fM (aT (bB (bB (bB (dZ) (bF yN nm.str (aT (cb (aN 0) (bS)) (bu)))) (dZ)) (bF yN nm.str (aT (bF eR nm.len (aT (cb (aN 0) (bS)) (bu))) (bu)))) (bu))) (f7 (dQ (N:=["_law_web", "_law_rows"]) (sc:=au dA) (Nc:=["_law_a", "_law_b"]) (cap:=[none,none]) rfl rfl (by decide +kernel)) (xi (cb (aN 0) (bS))) (fun _ _ _ _ _=>rX (hZ (mr 0 i4) (hZ (mr 1 i4) (rY)))) (fun _ _ _ _ _=>lC) (fun _ _ _ _ _=>bB (bB (bB (dZ) (bF yN nm.str (aT (aN 0) (bu)))) (dZ)) (bF yN nm.str (aT (aN 1) (bu)))))))
 (ba (bq (tm (dZ) (aT (aN 1) (bu)))))
theorem rE(nm:Nm mg)(F:gF K "_law_value" "_law_value" fk f fd)(hm:mg "_law_value" = some (.ref f)):dy P w K mg base (dj K w) 1 "_law_value" 1 eG:=
 cH F rC rfl hm (F.b1 (by rfl) fun _ _ _ _ _ _ _=>by rfl) fun cdv A outer s H E hr=>
 aM (fR (mx (i9 (BO (bF eR nm.len (aT (aN 0) (bu))) nm.range) (jR (bM (L3 hr.units) (f7 (dQ (N:=["_law_word"]) (sc:=au fk) (Nc:=["_law_sign"]) (cap:=[none]) rfl rfl (by decide +kernel)) (G5 (aN 0)) (fun _ _ _ _ _=>mr 0 oV) (fun _ _ _ _ _=>uV (bM (JX) (aN 0) (dZ))) (fun _ _ _ _ _=>aN 0)) (fM (bu)))))) (ba (bq (A7))) (cP))
 (aM (fR (mx (GJ (bM (G4) (GE (aN 0) (bS)) (dZ)) (BP (bM (rV) (aN 0) (dZ))))) (ba (bq (A7))) (cP))
 (ba (bq (bF Cz nm.int (aT (aN 0) (bu))))))
theorem ux(nm:Nm mg)(F:gF K "_law_told" "_law_told" ip f fd)(hm:mg "_law_told" = some (.ref f)){a_RootError:Addr}(m_RootError:mg "RootError" = some (.ref a_RootError))(kn_RootError:vd K "RootError" a_RootError ["NoText"])(ka_row:mP K "row" ["NoText"])(d_web_read:Em P w K mg base 8 "web_read" 1 cJ)(d__law_kind_of:pQ P w K mg base (dj K w) 1 "_law_kind_of" 1 eB)(d__law_whole:pQ P w K mg base (dj K w) 1 "_law_whole" 1 bX):dy P w K mg base (dj K w) 9 "_law_told" 1 cD:=
 cH F mW rfl hm (F.b1 (by rfl) fun _ _ _ _ _ _ _=>by rfl) fun cdv A outer s H E hr=>
 ba (K7 Co mW.nd kn_RootError m_RootError (fun pins E=>ba (bq (Ex d_web_read (LP Co) (hr.mono (by decide)) (aT (aN 0) (bu))))) (fun ea=>aM (fR (mx (i9 (bM (rV) (yR d__law_kind_of ((hr.h.mark _).mono (by decide)) (aT (aN 1) (bu))) (dZ)) (jR (jf (zF (yR d__law_whole ((hr.h.mark _).mono (by decide)) (aT (BK ka_row (aN 1)) (bu)))))))) (ba (bq (dZ))) (cP))
 (ba (bq (BK ka_row (aN 1))))))
theorem oO(nm:Nm mg)(F:gF K "_law_pair_of" "_law_pair_of" fB f fd)(hm:mg "_law_pair_of" = some (.ref f))(d__law_value:dy P w K mg base (dj K w) 1 "_law_value" 1 eG):dy P w K mg base (dj K w) 2 "_law_pair_of" 2 df:=
 cH F ia rfl hm (F.b2 (by rfl) fun _ _ _ _ _ _ _ _=>by rfl) fun cdv A outer s H E hr=>
 aM (bG 2 ia.nd (kN (aN 0) (aT (dZ) (bu))))
 (aM (fR (mx (i9 (bM (uO hr.units) (bF eR nm.len (aT (aN 2) (bu))) (bS)) (i9 (bM (rV) (cb (aN 2) (bS)) (aN 1)) (i9 (bM (gI (op:=.Gt) hr.units) (bF eR nm.len (aT (cb (aN 2) (bS)) (bu))) (bS)) (jR (bM (gI (op:=.Gt) hr.units) (bF eR nm.len (aT (cb (aN 2) (bS)) (bu))) (bS))))))) (ba (bq (A7))) (cP))
 (aM (bG 3 ia.nd (iQ (aT (bc d__law_value (hr.mono (by decide)) (aT (cb (aN 2) (bS)) (bu))) (aT (bc d__law_value (hr.mono (by decide)) (aT (cb (aN 2) (bS)) (bu))) (bu)))))
 (ba (bq (Ni (bM (K1 hr.units) (A7) (aN 3)) (A7) (aN 3))))))
theorem qQ(nm:Nm mg)(F:gF K "_law_due_of" "_law_due_of" gv f fd)(hm:mg "_law_due_of" = some (.ref f))(d__law_pair_of:dy P w K mg base (dj K w) 2 "_law_pair_of" 2 df):dy P w K mg base (dj K w) 3 "_law_due_of" 1 fv:=
 cH F de rfl hm (F.b1 (by rfl) fun _ _ _ _ _ _ _=>by rfl) fun cdv A outer s H E hr=>
 aM (bG 1 de.nd (kN (aN 0) (aT (dZ) (bu))))
 (aM (bG 2 de.nd (bc d__law_pair_of (hr.mono (by decide)) (aT (cb (aN 1) (bS)) (aT (dZ) (bu)))))
 (aM (fR (mx (i9 (bM (yI) (aN 2) (A7)) (jR (BO (cb (aN 2) (bS)) nm.range)))) (ba (bq (bS))) (cP))
 (aM (bG 3 de.nd (fM (bu)))
 (aM (mF Ta (K3 nm.range (aT (bS) (aT (bF eR nm.len (aT (aN 1) (bu))) (bu)))) (mr 4 de.nd) (aM (bG 5 de.nd (bc d__law_pair_of (hr.mono (by decide)) (aT (cb (aN 1) (aN 4)) (aT (dZ) (bu)))))
 (aM (fR (mx (i9 (bM (gI (op:=.Gt) hr.units) (aN 4) (cb (aN 2) (bS))) (i9 (bM (yI) (aN 5) (A7)) (i9 (bM (gI (op:=.GtE) hr.units) (cb (aN 5) (bS)) (cb (aN 5) (bS))) (i9 (bM (gI (op:=.GtE) hr.units) (cb (aN 5) (bS)) (cb (aN 2) (bS))) (jR (bM (L5 hr.units) (my (aN 3) (ck (GC (bS))) (cz)) (fM (aT (aN 5) (bu)))))))))) (ba (bq (bB (aN 4) (bS)))) (cP))
 (ba (p9 (Bk (aN 3) (aT (aN 5) (bu))))))))
 (aM (fR (bM (gI (op:=.Lt) hr.units) (bF eR nm.len (aT (aN 3) (bu))) (cb (aN 2) (bS))) (ba (bq (bB (bF eR nm.len (aT (aN 1) (bu))) (bS)))) (cP))
 (ba (bq (iQ (aT (cb (aN 2) (bS)) (aT (bF tZ nm.tuple (aT (aN 3) (bu))) (bu)))))))))))
theorem rH(nm:Nm mg)(F:gF K "_law_right" "_law_right" gS f fd)(hm:mg "_law_right" = some (.ref f))(d__law_due_of:dy P w K mg base (dj K w) 3 "_law_due_of" 1 fv)(d__law_told:dy P w K mg base (dj K w) 9 "_law_told" 1 cD)(d__law_web_is:dy P w K mg base (dj K w) 3 "_law_web_is" 2 fq)(d__law_whole:pQ P w K mg base (dj K w) 1 "_law_whole" 1 bX):dy P w K mg base (dj K w) 10 "_law_right" 1 eJ:=
 cH F jb rfl hm (F.b1 (by rfl) fun _ _ _ _ _ _ _=>by rfl) fun cdv A outer s H E hr=>
 aM (bG 1 jb.nd (bc d__law_due_of (hr.mono (by decide)) (aT (aN 0) (bu))))
 (aM (bG 2 jb.nd (bc d__law_told (hr.mono (by decide)) (aT (aN 0) (bu))))
 (aM (fR (zF (kc (T:="tuple") (by decide) jo (by decide) (by decide) nm.isinstance nm.tuple (aN 1))) (ba (bq (bc d__law_web_is (hr.mono (by decide)) (aT (aN 2) (aT (aN 1) (bu)))))) (cP))
 (ba (bq (kb (bc d__law_whole.d (hr.mono (by decide)) (aT (aN 2) (bu))) (lD (mE (pN hr.units) (aN 2) (aN 1))))))))
theorem rF(nm:Nm mg)(F:gF K "_law_signs" "_law_signs" gR f fd)(hm:mg "_law_signs" = some (.ref f)):dy P w K mg base (dj K w) 1 "_law_signs" 0 gq:=
 cH F lG rfl hm (F.binds fun _ _ _ _ _ _ us hl=>match us,hl with | [],_=>rfl) fun cdv A outer s H E hr=>
 aM (bG 0 lG.nd (dZ))
 (ba (bq (bF (Gn rfl) nm.list (aT (bB (aN 0) (dZ)) (bu)))))
theorem oP(nm:Nm mg)(F:gF K "_law_odd_row" "_law_odd_row" fC f fd)(hm:mg "_law_odd_row" = some (.ref f))(d__law_draw:dy P w K mg base (dj K w) 2 "_law_draw" 2 aL)(d__law_signs:dy P w K mg base (dj K w) 1 "_law_signs" 0 gq):dy P w K mg base (dj K w) 3 "_law_odd_row" 2 ef:=
 cH F bC rfl hm (F.b2 (by rfl) fun _ _ _ _ _ _ _ _=>by rfl) fun cdv A outer s H E hr=>
 aM (bG 2 bC.nd (kN (aN 1) (aT (dZ) (bu))))
 (aM (bG 3 bC.nd (bc d__law_draw (hr.mono (by decide)) (aT (aN 0) (aT (bF eR nm.len (aT (aN 2) (bu))) (bu)))))
 (aM (bG 4 bC.nd (Ey d__law_signs (hr.mono (by decide))))
 (aM (bG 5 bC.nd (fM (aT (dZ) (aT (dZ) (aT (dZ) (aT (dZ) (aT (dZ) (aT (dZ) (aT (dZ) (aT (dZ) (aT (bB (dZ) (BI (dZ) (bS))) (aT (BI (dZ) (bS)) (aT (dZ) (aT (dZ) (aT (dZ) (aT (dZ) (bu)))))))))))))))))
 (aM (p9 (Bk (aN 5) (aT (cb (aN 4) (bc d__law_draw (hr.mono (by decide)) (aT (aN 0) (aT (bF eR nm.len (aT (aN 4) (bu))) (bu))))) (bu))))
 (aM (bG 6 bC.nd (bB (bB (my (aN 2) (cz) (ck (aN 3))) (fM (aT (cb (aN 5) (bc d__law_draw (hr.mono (by decide)) (aT (aN 0) (aT (bS) (bu))))) (bu)))) (my (aN 2) (ck (bB (aN 3) (bS))) (cz))))
 (aM (bG 7 bC.nd (bc d__law_draw (hr.mono (by decide)) (aT (aN 0) (aT (bB (bF eR nm.len (aT (aN 1) (bu))) (bS)) (bu)))))
 (aM (bG 8 bC.nd (cb (aN 4) (bc d__law_draw (hr.mono (by decide)) (aT (aN 0) (aT (bF eR nm.len (aT (aN 4) (bu))) (bu))))))
 (aM (bG 9 bC.nd (fM (aT (bB (bB (rP (aN 1) (cz) (ck (aN 7))) (aN 8)) (rP (aN 1) (ck (aN 7)) (cz))) (aT (bB (rP (aN 1) (cz) (ck (aN 7))) (rP (aN 1) (ck (bB (aN 7) (bS))) (cz))) (aT (bB (bB (rP (aN 1) (cz) (ck (aN 7))) (aN 8)) (rP (aN 1) (ck (bB (aN 7) (bS))) (cz))) (aT (dZ) (aT (bB (dZ) (aN 1)) (bu))))))))
 (aM (bG 9 bC.nd (bB (aN 9) (fM (Mo (bB (aN 1) (dZ)) (aN 1) (aT (tm (dZ) (aT (my (aN 2) (cz) (ck (GC (bS)))) (bu))) (aT (bB (aN 1) (dZ)) (aT (bB (aN 1) (dZ)) (aT (Nk (aN 1)) (bu)))))))))
 (aM (bG 10 bC.nd (bc d__law_draw (hr.mono (by decide)) (aT (aN 0) (aT (bS) (bu)))))
 (aM (fR (bM (gI (op:=.Lt) hr.units) (aN 10) (bS)) (ba (bq (cb (aN 9) (aN 10)))) (cP))
 (ba (bq (tm (dZ) (aT (aN 6) (bu))))))))))))))))
theorem ng(nm:Nm mg)(F:gF K "_law_spoilt_of" "_law_spoilt_of" dS f fd)(hm:mg "_law_spoilt_of" = some (.ref f))(d__law_draw:dy P w K mg base (dj K w) 2 "_law_draw" 2 aL)(d__law_odd_row:dy P w K mg base (dj K w) 3 "_law_odd_row" 2 ef):dy P w K mg base (dj K w) 4 "_law_spoilt_of" 2 di:=
 cH F gy rfl hm (F.b2 (by rfl) fun _ _ _ _ _ _ _ _=>by rfl) fun cdv A outer s H E hr=>
 aM (LD 2 3 gy.nd (aT (bc d__law_draw (hr.mono (by decide)) (aT (aN 0) (aT (bF eR nm.len (aT (aN 1) (bu))) (bu)))) (aT (bc d__law_draw (hr.mono (by decide)) (aT (aN 0) (aT (bF eR nm.len (aT (aN 1) (bu))) (bu)))) (bu))))
 (aM (bG 4 gy.nd (bc d__law_draw (hr.mono (by decide)) (aT (aN 0) (aT (bS) (bu)))))
 (aM (fR (bM (pN hr.units) (aN 4) (bS)) (ba (bq (bB (my (aN 1) (cz) (ck (aN 2))) (my (aN 1) (ck (bB (aN 2) (bS))) (cz))))) (cP))
 (aM (fR (bM (pN hr.units) (aN 4) (bS)) (ba (bq (bB (my (aN 1) (cz) (ck (bB (aN 2) (bS)))) (my (aN 1) (ck (aN 2)) (cz))))) (cP))
 (aM (fR (bM (pN hr.units) (aN 4) (bS)) (aM (yF (iQ (aT (cb (aN 1) (aN 3)) (aT (cb (aN 1) (aN 2)) (bu)))) (rX (hZ (yK (aN 1) (aN 2)) (hZ (yK (aN 1) (aN 3)) (rY)))))
 (ba (bq (aN 1)))) (cP))
 (aM (fR (bM (pN hr.units) (aN 4) (bS)) (ba (bq (bB (aN 1) (fM (aT (cb (fM (aT (dZ) (aT (dZ) (aT (dZ) (aT (dZ) (bu)))))) (bc d__law_draw (hr.mono (by decide)) (aT (aN 0) (aT (bS) (bu))))) (bu)))))) (cP))
 (ba (bq (bB (bB (my (aN 1) (cz) (ck (aN 2))) (fM (aT (bc d__law_odd_row (hr.mono (by decide)) (aT (aN 0) (aT (cb (aN 1) (aN 2)) (bu)))) (bu)))) (my (aN 1) (ck (bB (aN 2) (bS))) (cz))))))))))
theorem Kb(nm:Nm mg)(F:gF K "law" "law" lU f fd)(d__law_told:dy P w K mg base (dj K w) 9 "_law_told" 1 cD)(d__law_right:dy P w K mg base (dj K w) 10 "_law_right" 1 eJ)(d__law_cell_at:dy P w K mg base (dj K w) 1 "_law_cell_at" 2 eC)(d__law_pen_of:dy P w K mg base (dj K w) 1 "_law_pen_of" 1 fu)(d__law_text_of:dy P w K mg base (dj K w) 1 "_law_text_of" 1 d9)(d__law_any_web:dy P w K mg base (dj K w) 4 "_law_any_web" 2 cK)(d__law_spoilt_of:dy P w K mg base (dj K w) 4 "_law_spoilt_of" 2 di):ll P w K mg base xk 11 f fd ["_law_script"] (A8 (dj K w) 1 vg):=
 Mf F jB rfl fun cdv A outer s H E hr=>
 aM (mF Ta (xi (fM (aT (A7) (aT (bS) (aT (DW) (aT (fM (aT (dZ) (bu))) (aT (iQ (aT (dZ) (bu))) (aT (K8) (bu))))))))) (mr 1 jB.nd) (ba (fR (bM (rV) (bF (Gm hr) nm.repr (aT (bc d__law_told (hr.mono (by decide)) (aT (aN 1) (bu))) (bu))) (dZ)) (ba (bq (DW))) (cP))))
 (aM (bG 2 jB.nd (fM (aT (dZ) (aT (dZ) (aT (dZ) (aT (dZ) (aT (dZ) (aT (dZ) (aT (dZ) (aT (dZ) (aT (dZ) (aT (dZ) (bu)))))))))))))
 (aM (mF Ta (xi (aN 2)) (mr 3 jB.nd) (ba (fR (jf (zF (bc d__law_right (hr.mono (by decide)) (aT (aN 3) (bu))))) (ba (bq (DW))) (cP))))
 (aM (mF Ta (xi (bB (fM (aT (bc d__law_cell_at (hr.mono (by decide)) (aT (aN 0) (aT (bS) (bu)))) (bu))) (my (aN 0) (ck (bS)) (ck (bS))))) (mr 4 jB.nd) (aM (bG 5 jB.nd (bc d__law_pen_of (hr.mono (by decide)) (aT (aN 4) (bu))))
 (aM (bG 3 jB.nd (bc d__law_text_of (hr.mono (by decide)) (aT (bc d__law_any_web (hr.mono (by decide)) (aT (aN 5) (aT (bS) (bu)))) (bu))))
 (ba (mF Ta (Eg nm.range (aT (bS) (bu))) (mr 6 jB.nd) (aM (bG 7 jB.nd (tm (dZ) (aT (bc d__law_spoilt_of (hr.mono (by decide)) (aT (aN 5) (aT (kN (aN 3) (aT (dZ) (bu))) (bu)))) (bu))))
 (ba (fR (jf (zF (bc d__law_right (hr.mono (by decide)) (aT (aN 7) (bu))))) (ba (bq (DW))) (cP)))))))))
 (ba (bq (DW))))))
end
end Lw
namespace Lv
variable{adj:Int->Int->Prop}{p:Int}
def R(adj:Int->Int->Prop)(p:Int):Nat->Int->Prop
 |0,q=>q=p
 |n+1,q=>R adj p n q\/∃r,adj r q/\R adj p n r
end Lv
namespace Lw
open PySem L2 RS
theorem cR:1000<=sizeLine:=by decide
theorem y4(s:Int):∃r:Int,fP [.int s] Y=.ok (.int r) Y:=by
 have h0:0<=(s+7919)%2147483647:=Tb _ (by decide);have h1:(s+7919)%2147483647<2147483647:=Tc _ (by decide);generalize ht:(s+7919)%2147483647=t at h0 h1;refine⟨(t*t+48271*t+12345)%2147483629,?_⟩;have c1:uU t t:=.inl ⟨by omega,by omega⟩;have c2:uU 48271 t:=.inl ⟨by omega,by omega⟩;unfold fP;rw[dN];simp[oB,ht,c1,c2];exact bt (by simp)
def cO(a b c:Int):O:=.lst [.int a,.int b,.int c]
theorem tU{a b c:Int}:(cO a b c).low n:=by simp[cO,O.low]
theorem Ik(x:Int):∃a b c:Int,fu [.int x] Y=.ok (.obj Y.length) (Y++[cO a b c]):=by
 have e:∀i j:Int,uQ [.int i,.int j] Y=.ok (.int (if j>i then j else i)) Y:=fun _ _=>rfl;have p1:HB 10 18:=⟨by decide,by decide,by decide⟩;have ib:∀k:Bool,∀Y,u6 [.bl k] Y=.ok (.int (if k then 1 else 0)) Y:=fun _ _=>rfl;refine⟨(if 0-x>x then 0-x else x),(if cj .GtE (if 0-x>x then 0-x else x) (10^(18:Int).toNat) then 1 else 0),(if 0-x>x then 0-x else x)%1000003,?_⟩;unfold fu;rw[dN];have l3:(3:Nat)<=sizeLine:=by decide
 simp only[lO,aJ,aZ,aE,ao,az,ai,ak,aK,bb,aa,ag,ae,G6,e,bx,aw,aY,dH,List.set,List.replicate,Td,Te];have pw:Hs (.int 10) (.int 18) Y=.ok (.int (10^(18:Int).toNat)) Y:=qe p1;have md:∀x,uP (.int x) (.int 1000003) Y=.ok (.int (x%1000003)) Y:=fun x=>qe (show (0:Int)<1000003 by decide);simp only[pw,md,aa,ag,cW,ib,QJ,Rf,OA l3,ae,aR];rw[Bz (by simp)];rfl
theorem EN{a b c:Int}(hp:Y[i]?=some (cO a b c))(h0:0<m)(h1:m<1073741824):
  ∃r a' b' c':Int,0<=r/\r<m/\aL [.obj i,.int m] Y=.ok (.int r) (Y.set i (cO a' b' c')):=by
 have hi:i<Y.length:=(OS.mp hp).1;have hp':Y[i]?=some (.lst [.int a,.int b,.int c]):=hp;have md:∀{x:Int}{Y:aA},uP (.int x) (.int m) Y=.ok (.int (x%m)) Y:=fun {x Y}=>qe (show (fun _ j=>(0:Int)<j) x m from h0);have fd:∀{x:Int}{Y:aA},u7 (.int x) (.int m) Y=.ok (.int (x / m)) Y:=fun {x Y}=>qe (show En x m from⟨h0,by omega⟩);have f64:∀{x:Int}{Y:aA},u7 (.int x) (.int 64) Y=.ok (.int (x / 64)) Y:=fun {x Y}=>qe (show En x 64 from⟨by decide,by decide⟩);unfold aL;rw[dJ];by_cases hb:b=1
 ·subst hb;refine⟨a%m,a / m,1,c,Tb _ (by omega),Tc _ h0,?_⟩;simp only[kE,aJ,bE,b8,aK,ai,ak,bb,aa,ag];rw[fH hp' vc];simp only[aa,ag,d5,QH,Qg,a8,ae,aJ,aZ,aK,ai,ak,bb];simp only[QI,Qf,Qg,aJ,aZ,aK,ai,ak,bb,aa,ag];rw[fH hp' r9];simp only[aa,ag,md,ae,bx,aw,List.replicate,Td,Te,ai,ak,bb,aK,aZ,aJ];rw[fH hp' r9];simp only[aa,ag,fd,ae,pE,ai,ak,bb];rw[pA hp' (jD (by decide) (by simp))];simp only[aa,ag,ae,aw,aY,ai,ak,bN,aR];exact zt (by simp only[F0]) (tU (a:=a / m) (b:=1) (c:=c))
 ·obtain ⟨s1, e1⟩ := y4 (Y := Y) c;obtain⟨s2,e2⟩:=y4 (Y:=Y) (s1+7);refine⟨s2 / 64%m,a,b,s2,Tb _ (by omega),Tc _ h0,?_⟩;have hb':(b == 1)=false:=by simpa using hb
  simp only[kE,aJ,bE,b8,aK,ai,ak,bb,aa,ag];rw[fH hp' vc];simp only[aa,ag,d5,hb',a8,ae,QI,Qf,bw,aw,aJ,aZ,aE,ao,az,aK,ai,ak,bb];rw[fH hp' Hb];simp only[aa,ag,e1,cS,e2,ae,pE,ai,ak,bb];rw[pA hp' (jD (by decide) (by simp))];have hg:(Y.set i (.lst ([D.int a,D.int b,D.int c].set (2:Int).toNat (.int s2))))[i]?=some (.lst [D.int a,D.int b,D.int s2]):=by rw[OU hi];rfl
  simp only[aa,ag,ae,aw,aY,aK,ai,ak,bb];rw[fH hg Hb];simp only[aa,ag,f64,md,ae,aR];exact zt (by simp) (tU (a:=a) (b:=b) (c:=s2))
theorem aS{g:aA}{o:O}(h:Y[i]?=some o):(Y++g)[i]?=some o:=by
 rw[PR (OS.mp h).1];exact h
theorem y8{g:aA}{o:O}(h:i<Y.length):(Y++g).set i o=Y.set i o++g:=by
 rw[List.set_append_left _ _ h]
theorem pj{o:O}(h:i<Y.length):(Y.set i o)[i]?=some o:=OU h
def xf(m:Int)(k:List Int):Prop:=∃a b:Int,k=[a,b]/\0<=a/\a<b/\b<m
theorem xf.prs{k:List Int}(h:xf m k)(hm:m<=6):k∈prs:=by
 obtain⟨a,b,rfl,h1,h2,h3⟩:=h;exact zg h1 h2 (by omega)
def yP(d:D)(m:Int)(ks:List (List Int)):Prop:=d=.tup [.int m,.tup (ks.map aG)]/\1<=m/\m<=6/\(ks.Pairwise fun a b=>uH a<uH b)/\∀k∈ks,xf m k
theorem wu(h0:1<=m)(h1:m<=6)(hk:∀k∈ks,xf m k):yP (.tup [.int m,.tup ((ig ks).map aG)]) m (ig ks):=by
 refine⟨rfl,h0,h1,qA.filter _,fun k h=>?_⟩;unfold ig at h;rw[OG,Sy]at h;exact hk k h.2
theorem d6{d:D}(h:yP d m ks):ks.length<=15:=by
 obtain⟨_,_,hm,hp,hk⟩:=h;have hn:ks.Nodup:=hp.imp fun h e=>by subst e;omega
 have hs:ks ⊆ prs:=fun k h=>(hk k h).prs hm;have:=hn.length_le_of_subset hs;rw[zh]at this;exact this
def jx(p:Int×Int):D:=.tup [.int p.1,.int p.2]
theorem l2:(2:Nat)<=sizeLine:=by decide
theorem Om{u v:Int}:zM [.tup [.int u,.int v]] Y=.ok (.int (min u v)) Y:=rfl
theorem On{u v:Int}:uQ [.tup [.int u,.int v]] Y=.ok (.int (max u v)) Y:=rfl
theorem ji{d:D}(h:yP d m ks):d.low n:=by
 obtain⟨rfl,_⟩:=h;simp
 exact ku.mpr fun x hx=>by
  obtain⟨k,_,rfl⟩:=Rk.mp hx;simp[aG];exact ku.mpr (by simp)
theorem la{lo:Int}:dF lo (n+1)=.int lo::dF (lo+1) n:=by
 unfold dF;rw[Ra,Qp,Rb];congr 1
 ·simp
 ·apply Rc;intro i _;simp only[Function.comp_apply];congr 1;omega
theorem nH{lo:Int}:dF lo 0=[]:=rfl
theorem C1{lo:Int}(h:dF lo n=[]):n=0:=by
 cases n with
 |zero=>rfl
 |succ n=>rw[la]at h;cases h
theorem l1:(1:Nat)<=sizeLine:=by decide
end Lw
namespace Lw
open PySem L2 RS Lv
def Hr(ks:List (List Int)):List (Int×Int):=ks.flatMap fun k=>match k with
 |[u,v]=>[(u,v),(v,u)]
 |_=>[]
def Ku(ks:List (List Int))(a b:Int):Prop:=(a,b)∈Hr ks
section
variable{m a:Nat}{web:D}{M p u v q r:Int}{T:Int->Int->Option Nat}{f:Int->Option Nat}
theorem Gj(hk:∀k∈ks,xf m k){x y:Int}(h:Ku ks x y):(0<=x/\x<m)/\(0<=y/\y<m):=by
 unfold Ku Hr at h;obtain⟨k,hk',hm⟩:=Tf.mp h;obtain⟨u,v,rfl,u0,uv,v1⟩:=hk k hk';simp at hm;omega
end
theorem vX:∀fs:List Int,PyData.canLayAll0 (fs.map PyData.int)=true/\PyData.depthAll (fs.map PyData.int)=0
 |[]=>by simp[PyData.canLayAll0,PyData.depthAll]
 |x::fs=>by
  have:=vX fs;simp only[Qp,PyData.canLayAll0,PyData.depthAll,PyData.canLay0,PyData.depth,this.1,this.2];exact⟨rfl,rfl⟩
theorem Gu(hk:∀k∈ks,xf m k){a b:Int}:Ku ks a b↔([a,b]∈ks\/[b,a]∈ks):=by
 unfold Ku Hr;rw[Tf];constructor
 ·rintro ⟨k, hk', hm⟩
  obtain⟨u,v,rfl,_⟩:=hk k hk';simp at hm;rcases hm with⟨rfl,rfl⟩|⟨rfl,rfl⟩
  ·exact .inl hk'
  ·exact .inr hk'
 ·rintro (h | h)
  ·exact⟨_,h,by simp⟩
  ·exact⟨_,h,by simp⟩
theorem bz{o o':O}(h:Y[j]?=some o')(ne:i≠j):(Y.set i o)[j]?=some o':=by rw[OV ne];exact h
def gH(k:List Int):PyData:=.tuple (k.map PyData.int)
theorem sk{Y:aA}{m:Int}:∀{ks:List (List Int)},(∀k∈ks,xf m k)->iS Y (ks.map aG)=some (ks.map gH)
 |[],_=>rfl
 |k::ks,h=>by
  obtain⟨a,b,rfl,_⟩:=h k OL;have ih:=sk (Y:=Y) fun x hx=>h x (OM _ hx);simp only[Qp,iS,ih];rfl
theorem nL{Y:aA}{m:Int}:∀{ks:List (List Int)},(∀k∈ks,xf m k)->toPs Y (ks.map aG)=some (ks.map gH)
 |[],_=>rfl
 |k::ks,h=>by
  obtain⟨a,b,rfl,_⟩:=h k OL;have ih:=nL (Y:=Y) fun x hx=>h x (OM _ hx);simp only[Qp,toPs,ih];rfl
theorem nM{m:Int}:∀{ks:List (List Int)},(∀k∈ks,xf m k)->PyData.canLayAll0 (ks.map gH)=true/\PyData.depthAll (ks.map gH)<=1
 |[],_=>by simp[PyData.canLayAll0,PyData.depthAll]
 |k::ks,h=>by
  obtain⟨a,b,rfl,_⟩:=h k OL;have ih:=nM fun x hx=>h x (OM _ hx);simp only[Qp,PyData.canLayAll0,PyData.depthAll,ih.1,gH,Qo,PyData.canLay0,PyData.depth];refine⟨rfl,?_⟩;have:=ih.2;omega
def Hn(m:Int)(ks:List (List Int)):PyData:=.tuple [.int m,.tuple (ks.map gH)]
end Lw
namespace Lw
open PySem L2 RS
def Pn(Y0:aA)(i:Nat)(Y:aA):Prop:=∃a b c g,Y=Y0.set i (cO a b c)++g
theorem Pn.app{g:aA}(h:Pn Y0 i Y):Pn Y0 i (Y++g):=by
 obtain⟨a,b,c,g',rfl⟩:=h;exact⟨a,b,c,g'++g,by rw[Qy]⟩
theorem Pn.get(h:Pn Y0 i Y)(hi:i<Y0.length):∃a b c,Y[i]?=some (cO a b c):=by
 obtain⟨a,b,c,g',rfl⟩:=h;exact⟨a,b,c,aS (pj hi)⟩
theorem Pn.set{a b c:Int}(h:Pn Y0 i Y)(hi:i<Y0.length):Pn Y0 i (Y.set i (cO a b c)):=by
 obtain⟨a',b',c',g',rfl⟩:=h;exact⟨a,b,c,g',by rw[y8 (by simpa using hi),List.set_set]⟩
theorem Pn.len(h:Pn Y0 i Y):Y0.length<=Y.length:=by
 obtain⟨a',b',c',g',rfl⟩:=h;simp
theorem Pn.self{a b c:Int}(h:Y0[i]?=some (cO a b c)):Pn Y0 i Y0:=by
 refine⟨a,b,c,[],?_⟩;rw[Pv];apply R9;intro j;by_cases e:i=j
 ·subst e;rw[pj (OS.mp h).1,h]
 ·rw[OV e]
theorem Pn.draw(h:Pn Y0 i Y)(hi:i<Y0.length)(h0:0<m)(h1:m<1073741824):
  ∃r a b c:Int,0<=r/\r<m/\aL [.obj i,.int m] Y=.ok (.int r) (Y.set i (cO a b c))/\Pn Y0 i (Y.set i (cO a b c)):=by
 obtain⟨a,b,c,hp⟩:=h.get hi;obtain⟨r,a',b',c',r0,r1,e⟩:=EN hp h0 h1;exact⟨r,a',b',c',r0,r1,e,h.set hi⟩
theorem Pn.gc{d:D}(h:Pn Y0 i Y)(hd:d.low Y0.length):∃a b c,oX Y0 (.ok d Y)=.ok d (Y0.set i (cO a b c)):=by
 obtain⟨a,b,c,g',rfl⟩:=h;exact⟨a,b,c,Ci hd tU⟩
theorem Ao(h:∀k∈ks,xf m k):fS (.tuple (ks.map gH))=true:=by
 have:=nM h;simp only[fS,PyData.canLay0,this.1,PyData.depth,Tg];exact QF (by omega)
end Lw
namespace Lv
def rg(m:Nat):List Int:=(List.range m).map Int.ofNat
theorem σ2{m:Nat}:(rg m).length=m:=by simp[rg]
structure Os(m k:Nat)(w:List Int):Prop where
 len:w.length=k+1
 nd:w.Nodup
 rng:∀p∈w,0<=p/\p<(m:Int)
end Lv
namespace Lw
open PySem L2 RS Lv
theorem d7{U:Type}{en:U->D}{src:oF}{g:MG}{t:MT}{e:ME}{Y1:aA}{q:U->Bool}{h:U->D}(R:Ro->Prop)(ho:∀a,dz src (Y1++[.lst a])) :
  ∀{us:List U}{acc:List D}{Z:Ro},R Z->acc.length+us.length<=sizeLine->(∀x∈us,∀a Z,R Z->∃Z1,R Z1/\g (en x) Z (Y1++[.lst a])=.ok Z1 (Y1++[.lst a])/\t Z1 (Y1++[.lst a])=.ok (q x) (Y1++[.lst a])/\(q x=true->e Z1 (Y1++[.lst a])=.ok (h x) (Y1++[.lst a]))) ->
   compLoop src Y1.length g t e (us.map en) Z (Y1++[.lst acc])=.ok (.obj Y1.length) (Y1++[.lst (acc++(us.filter q).map h)])
 |[],acc,Z,hr,hl,he=>by
  rw[Qo];unfold compLoop;rw[OA (ho acc)];simp
 |x::xs,acc,Z,hr,hl,he=>by
  obtain⟨Z1,r1,e1,e2,e3⟩:=he x OL acc Z hr;rw[Qp];unfold compLoop;rw[OA (ho acc),e1];simp only[ag,aa];rw[e2];simp only[ag,aa];have he':=fun y hy=>he y (OM _ hy);simp only[QJ]at hl;cases hq:q x with
  |false=>
   rw[OB Pm,d7 R ho r1 (by omega) he',SN,hq];rfl
  |true=>
   rw[OA rfl,e3 hq];simp only[ag,aa];rw[nK (by omega)];simp only[aa,ag];rw[d7 R ho r1 (by simp;omega) he',SN,hq];simp
theorem qr{U:Type}:∀{us:List U},us.filter (fun _=>true)=us
 |[]=>rfl
 |_::us=>by rw[SN,OA rfl,qr]
theorem BU:100000<=sizeLine:=by decide
theorem DC{a b:Int}(hk:∀k∈ks,xf m k):uL false (.tup [.int a,.int b]) (.tup (ks.map aG)) Y=.ok (.bl (decide ([a,b]∈ks))) Y:=by
 have e1:oC Y (.tup [.int a,.int b])=some (.tuple [.int a,.int b]):=rfl
 have e2:oC Y (.tup (ks.map aG))=some (.tuple (ks.map gH)):=by
  simp only[oC,sk hk,Option.map_some]
 unfold uL;rw[e1,e2];dsimp only[Cd];rw[OA ⟨rfl,Ao hk⟩];simp only[QI,Qf];congr 2;rw[List.any_map];apply Pl.mpr;rw[List.any_eq_true,Sy];constructor
 ·rintro ⟨k, hk', e⟩
  obtain⟨u,v,rfl,_⟩:=hk k hk';have:u=a/\v=b:=by simpa[gH,PyData.eqv,PyData.eqvAll] using e
  rw[<- this.1,<- this.2];exact hk'
 ·intro h;exact⟨_,h,by simp[gH,PyData.eqv,PyData.eqvAll]⟩
theorem LX{a b:Int}:zM [.int a,.int b] Y=.ok (.int (min a b)) Y:=by
 show aj.ok (D.int (if b<a then b else a)) Y=_;congr 2;split <;> omega
theorem LY{a b:Int}:uQ [.int a,.int b] Y=.ok (.int (max a b)) Y:=by
 show aj.ok (D.int (if b>a then b else a)) Y=_;congr 2;split <;> omega
abbrev DY(w:List Int):D:=.tup (w.map D.int)
theorem IK{m:Nat}:dF 0 ((m:Int)).toNat=(rg m).map D.int:=by
 unfold dF rg;rw[Rb];simp
abbrev i8(m:Nat)(ks:List (List Int)):D:=.tup [.int m,.tup (ks.map aG)]
abbrev GW(m:Nat)(ks:List (List Int)):Prop:=yP (i8 m ks) m ks
section
variable{m:Nat}
theorem GW.m0(h:GW m ks):1<=m:=by have:=h.2.1;omega
theorem GW.m6(h:GW m ks):m<=6:=by have:=h.2.2.1;omega
theorem K4(h:GW m ks){a b:Int}(e:Ku ks a b):(0<=a/\a<(m:Int))/\(0<=b/\b<(m:Int)):=Gj h.2.2.2.2 e
end
def mm(p:Int×Int):List Int:=[min p.1 p.2,max p.1 p.2]
def PP(m:Nat)(p:Int×Int):Prop:=(0<=p.1/\p.1<(m:Int))/\(0<=p.2/\p.2<(m:Int))/\p.1≠p.2
theorem PP.ok{m:Nat}{p:Int×Int}(h:PP m p):xf m (mm p):=⟨_,_,rfl,by have:=h.1;have:=h.2.1;omega,by have:=h.2.2;omega,by have:=h.1;have:=h.2.1;omega⟩
theorem o9{m:Nat}{ps:List (Int×Int)}(h0:1<=m)(hm:m<=6)(hps:∀p∈ps,PP m p):GW m (ig (ps.map mm)):=wu (by omega) (by omega) fun k hk=>by obtain⟨p,hp,rfl⟩:=Rk.mp hk;exact(hps p hp).ok
theorem nG{m t:Nat}{ps:List (Int×Int)}(h0:1<=m)(hm:m<=6)(hl:ps.length<=100000)(ht:Y[t]?=some (.lst (ps.map jx)))(hps:∀p∈ps,PP m p):bO [.int m,.obj t] Y=.ok (i8 m (ig (ps.map mm))) Y:=by
 have c:=d7 (U:=Int×Int) (en:=jx) (src:=.own t (ps.map jx)) (g:=fY 2 (bH (aq 0) (bH (aq 1) (fZ)))) (t:=cQ) (e:=ie) (Y1:=Y) (q:=fun _=>true) (h:=fun p=>aG (mm p)) (fun Z=>∃o o',Z=[o,o']) (fun _=>aS ht) (us:=ps) (acc:=[]) (Z:=[none,none]) ⟨_,_,rfl⟩
  (by rw[Rf];exact OI (by omega) BU)
  (fun p hp a Z hJJ => by
   obtain⟨o,o',e⟩:=hJJ;subst e;refine⟨[some (.int p.1),some (.int p.2)],⟨_,_,rfl⟩,rfl,rfl,fun _=>?_⟩;unfold ie;simp only[f9,aE,ao,az,ai,ak,aa,ag,LX,LY,QJ,Rf,OA l2]
   rfl)
 rw[qr,QE,show ps.map (fun p=>aG (mm p))=(ps.map mm).map aG from by rw[Rb];rfl]at c
 have hk:∀k∈ps.map mm,k∈prs:=fun k hk=>by
  obtain⟨p,hp,rfl⟩:=Rk.mp hk;exact(hps p hp).ok.prs (by omega)
 let M1:aA:=Y++[O.lst ((ps.map mm).map aG)]
 have s1:xp [.obj Y.length] M1=.ok (.obj M1.length) (M1++[.set (ja (ps.map mm))]):=by
  unfold xp;dsimp only;rw[show M1[Y.length]?=some (.lst ((ps.map mm).map aG)) from aF];dsimp only;unfold uX;rw[vS hk]
 have s2:kU [.obj M1.length] (M1++[.set (ja (ps.map mm))])=.ok (.obj (M1++[O.set (ja (ps.map mm))]).length) ((M1++[.set (ja (ps.map mm))])++[.lst ((ig (ps.map mm)).map aG)]):=by
  unfold kU;dsimp only;rw[aF];dsimp only;rw[wx]
 unfold bO;rw[dJ];simp only[lL,List.replicate,aY,f9,ao,az,aE,ak,ai,aa,ag,eF,eE];rw[iW ht];simp only[aa,ag,fO];rw[show jY [none,none] _=[none,none] from rfl,c];simp only[aa,ag];rw[show xp [.obj Y.length] (Y++[O.lst ((ps.map mm).map aG)])=_ from s1];simp only[aa,ag];rw[s2];simp only[aa,ag];rw[tW aF];simp only[aa,ag,QJ,Rf,OA l2,ae,aR,M1,Qy];exact bD (ji (o9 h0 hm hps))
theorem Ki{m q:Nat}{sh:Int}(hi:i<Y0.length)(h:Pn Y0 i Y1)(hq:q<m)(m6:m<=6)(s0:0<sh)(s1:sh<1000):
  ∃(qs:List (Int×Int))(Y2:aA),(∀p∈qs,PP m p)/\qs.length<=q/\Pn Y0 i Y2/\Y2.length=Y1.length/\(∀j o,i≠j->Y1[j]?=some o->Y2[j]?=some o)/\compLoop (.fix (dF 0 q)) Y1.length (aq 0) dv dw (dF 0 q) [none,some (.int q),some (.obj i),some (.int sh)] (Y1++[.lst []])=.ok (.obj Y1.length) (Y2++[.lst (qs.map jx)]):=by
 have run:=mU (src:=.fix (dF 0 q)) (g:=aq 0) (t:=dv) (e:=dw) (n:=Y1.length)
  (fun xs ys Z Y2 s=>s=[]/\Y2.length=Y1.length/\Pn Y0 i Y2/\(∀j o,i≠j->Y1[j]?=some o->Y2[j]?=some o)/\(∃o,Z=[o,some (.int q),some (.obj i),some (.int sh)])/\∃(lo n:Nat)(qs:List (Int×Int)),xs=dF lo n/\lo+n=q/\ys=qs.map jx/\qs.length<=lo/\(∀p∈qs,PP m p))
  (fun ys Z Y2 s ⟨_,e1,_⟩=>⟨e1,trivial⟩)
  (fun x r ys Z Y2 s hJJ => by
   obtain⟨es,e1,e2,ek,⟨o,e4⟩,lo,n,qs,e5,e7,e8,e9,e10⟩:=hJJ;subst es e4 e8;cases n with
   |zero=>rw[nH]at e5;cases e5
   |succ n=>
    rw[la]at e5;injection e5 with ex er
    subst ex er;have i2:i<Y2.length:=OD hi e2.len;obtain⟨v,a,b,c,v0,v1,ed,hp⟩:=(e2.app (g:=[.lst (qs.map jx)])).draw (m:=sh) hi s0 (by omega);rw[y8 i2]at ed;refine⟨e1,trivial,[some (.int lo),some (.int q),some (.obj i),some (.int sh)],Y2,[],v == 0,Y2.set i (cO a b c),[],rfl,?_,fun hc=>?_,fun hc=>?_⟩
    ·unfold dv;simp only[b8,aK,aE,ao,az,ak,ai,bb,aa,ag,ed,d5,QI,Qf,a8]
    ·refine ⟨jx ((lo : Int), (q : Int)), Y2.set i (cO a b c), [], ?_, ?_, by simpa using e1, rfl, by simpa using e1, e2.set hi, fun j o ne z => by rw [OV ne]; exact ek j o ne z, ⟨_, rfl⟩, lo + 1, n, qs ++ [((lo : Int), (q : Int))], by push_cast; rfl, by omega, by simp, by simp; omega, fun p hp => ?_⟩
     ·unfold dw;simp only[f9,ao,az,ak,ai,aa,ag,QJ,Rf,OA l2];rfl
     ·rw[PZ];exact OD (show qs.length<1000 by omega) cR
     ·rcases OQ.mp hp with z | z
      ·exact e10 p z
      ·simp at z;subst z;exact⟨⟨by dsimp only;omega,by dsimp only;omega⟩,⟨by dsimp only;omega,by dsimp only;omega⟩,by dsimp only;omega⟩
    ·exact⟨rfl,by simpa using e1,e2.set hi,fun j o ne z=>by rw[OV ne];exact ek j o ne z,⟨_,rfl⟩,lo+1,n,qs,by push_cast;rfl,by omega,rfl,by omega,e10⟩)
  (xs:=dF 0 q) (ys:=[]) (Z:=[none,some (.int q),some (.obj i),some (.int sh)]) (Y1:=Y1) (s:=[])
  ⟨rfl,rfl,h,fun _ _ _ z=>z,⟨_,rfl⟩,0,q,[],rfl,by omega,rfl,by simp,fun p hp=>by cases hp⟩
 obtain⟨ys',Z',Y2,s',⟨es,e1,e2,ek,⟨o,e4⟩,lo,n,qs,e5,e7,e8,e9,e10⟩,run⟩:=run;subst es e8;exact⟨qs,Y2,e10,by omega,e2,e1,ek,run⟩
theorem Pn.put{t:Nat}{o:O}(h:Pn Y0 i M)(ht:Y0.length<=t):Pn Y0 i (M.set t o):=by
 obtain⟨a,b,c,g,rfl⟩:=h;refine⟨a,b,c,g.set (t-Y0.length) o,?_⟩;rw[SM _ _ (by simpa using ht)];simp
theorem Gd{t u:Nat}(ht:M[t]?=some (.lst xs))(hu:M[u]?=some (.lst ys))(hl:xs.length+ys.length<=1000):il (.obj t) [.obj u] M=.ok .non (M.set t (.lst (xs++ys))):=by
 unfold il;dsimp only;rw[ht,hu];dsimp only;rw[OA (OI hl cR)]
theorem xD{t:Nat}(h:M[t]?=some (.lst xs)):xh (.obj t) M=true:=by
 unfold xh;dsimp only;rw[h]
theorem CN{a b c:Int}(hp:Y[i]?=some (cO a b c)):∃m ks a' b' c',GW m ks/\cG [.obj i,.int 6] Y=.ok (i8 m ks) (Y.set i (cO a' b' c')):=by
 have hi:i<Y.length:=(OS.mp hp).1;obtain⟨v,a1,b1,c1,v0,v1,ed,P1⟩:=(Pn.self hp).draw (m:=6) hi (by decide) (by decide);obtain⟨m,em⟩:∃m:Nat,(1:Int)+v=(m:Int):=⟨(1+v).toNat,by omega⟩;obtain⟨s,a2,b2,c2,s0,s1,ed2,P2⟩:=P1.draw (m:=3) hi (by decide) (by decide);let M2:aA:=(Y.set i (cO a1 b1 c1)).set i (cO a2 b2 c2)
 have lM2:M2.length=Y.length:=by simp[M2]
 obtain⟨Z',M',⟨n,cc,ps,o5,e1,e2,e3,e4,e5,e6,e7⟩,run⟩:=kT (src:=.fix (dF 0 m)) (g:=aq 5) (fb:=cM)
  (fun xs Z M=>∃(n cc:Nat)(ps:List (Int×Int))(o5:Option D),xs=dF n cc/\n+cc=m/\Z=[some (.obj i),some (.int 6),some (.int m),some (.int (2+s)),some (.obj M2.length),o5]/\Pn Y i M/\M[M2.length]?=some (.lst (ps.map jx))/\ps.length<=6*n/\∀p∈ps,PP m p)
  (fun _ _ _=>trivial)
  (fun x xs Z M hJJ => by
   obtain⟨n,cc,ps,o5,e1,e2,e3,e4,e5,e6,e7⟩:=hJJ;subst e3;cases cc with
   |zero=>rw[nH]at e1;cases e1
   |succ cc=>
    rw[la]at e1;injection e1 with ex er
    subst ex er;obtain⟨qs,M3,q1,q2,q3,q4,q5,q6⟩:=Ki (m:=m) (q:=n) (sh:=2+s) hi e4 (by omega) (by omega) (by omega) (by omega);have t3:(M3++[O.lst (qs.map jx)])[M2.length]?=some (.lst (ps.map jx)):=aS (q5 _ _ (by omega) e5);have u3:(M3++[O.lst (qs.map jx)])[M.length]?=some (.lst (qs.map jx)):=by rw[<- q4];exact aF
    have ex:=Gd t3 u3 (by rw[PZ,PZ];omega);refine⟨trivial,_,_,[some (.obj i),some (.int 6),some (.int m),some (.int (2+s)),some (.obj M2.length),some (.int n)],(M3++[O.lst (qs.map jx)]).set M2.length (.lst (ps.map jx++qs.map jx)),rfl,?_,n+1,cc,ps++qs,some (.int n),by push_cast;rfl,by omega,rfl,(q3.app).put (by omega),?_,by rw[PY];omega,fun p hp=>?_⟩
    ·show cM [some (.obj i),some (.int 6),some (.int m),some (.int (2+s)),some (.obj M2.length),some (.int n)] M=_;unfold cM;simp only[mM,pV,ak,ai,aa,ag,xD e5,Qg,ao,az,eF,jL];rw[pB (by omega) (by omega)];simp only[aa,ag,cq,Qd];rw[show jY [none,some 5,some 0,some 3] [some (D.obj i),some (D.int 6),some (D.int m),some (D.int (2+s)),some (D.obj M2.length),some (D.int n)]=[none,some (.int n),some (.obj i),some (.int (2+s))] from rfl,q6];simp only[aa,ag,ex,ae]
    ·rw[pj (by have:=(OS.mp t3).1;exact this),Rv]
    ·rcases OQ.mp hp with z | z
     ·exact e7 p z
     ·exact q1 p z)
  (xs:=dF 0 m) (Z:=[some (.obj i),some (.int 6),some (.int m),some (.int (2+s)),some (.obj M2.length),none]) (Y:=M2++[.lst []])
  ⟨0,m,[],none,rfl,by omega,rfl,P2.app,aF,by simp,fun p hp=>by cases hp⟩
 have hz:=C1 e1.symm;subst hz e3;have hg:GW m (ig (ps.map mm)):=o9 (by omega) (by omega) e7;obtain⟨a7,b7,c7,hgc⟩:=e4.gc (ji hg);refine⟨m,_,a7,b7,c7,hg,?_⟩;unfold cG;rw[dJ];simp only[jv,List.replicate];rw[aJ,aZ];simp only[aK,bb,aE,ao,az,ai,ak,aa,ag,ed,cS,em,ae,bx,aw,Td,Te];rw[aJ,aZ];simp only[aK,bb,aE,ao,az,ai,ak,aa,ag,ed2,cS,ae,bx,aw,Td,Te];rw[aJ,aZ];simp only[dH,az,aa,ag,Rf,OA (QR sizeLine),ae,bx,aw,Td,Te];rw[aJ,jE];simp only[jL,ao,az,ak,ai,aa,ag];rw[pB (by omega) (by omega)];simp only[ae,ag,cq,Qd];rw[show fU (.fix (dF 0 m)) (aq 5) cM (dF 0 m) [some (.obj i),some (.int 6),some (.int m),some (.int (2+s)),some (.obj M2.length),none] (M2++[O.lst []])=_ from run];simp only[aw,aY,aE,ao,az,ak,ai,aa,ag,nG (show 1<=m by omega) (by omega) (by omega) e5 e7,ae,aR];exact hgc
def oE(k:List Int):Int×Int:=(k.getD 0 0,k.getD 1 0)
def zL(p:Int)(k:List Int):Bool:=decide (p=(oE k).1) || decide (p=(oE k).2)
def eY(ks:List (List Int))(p:Int):List Int:=(ks.filter (zL p)).map fun k=>(oE k).1+(oE k).2-p
def iP(l:List Int)(x:Int):List (Int×Int):=(l.filter fun y=>decide (x<y)).map fun y=>(x,y)
def Ed(m:Nat)(ks:List (List Int)):List (Int×Int):=ks.map oE++(rg m).flatMap fun p=>(eY ks p).flatMap (iP (eY ks p))
theorem DG{t u:Nat}(ht:M[t]?=some (.lst xs))(hu:M[u]?=some (.lst ys))(hl:xs.length+ys.length<=100000):il (.obj t) [.obj u] M=.ok .non (M.set t (.lst (xs++ys))):=by
 unfold il;dsimp only;rw[ht,hu];dsimp only;rw[OA (OI hl BU)]
theorem α3{p a b:Int}:uL false (.int p) (.tup [.int a,.int b]) Y=.ok (.bl (decide (p=a) || decide (p=b))) Y:=by
 show aj.ok (D.bl ((a == p) || ((b == p) || false))) Y=_;congr 2;rw[Bool.or_false];congr 1
 ·apply Pl.mpr;rw[Sv,Sy];exact eq_comm
 ·apply Pl.mpr;rw[Sv,Sy];exact eq_comm
section
variable{m:Nat}
theorem vM(h:GW m ks){p:Int}:(eY ks p).length<=15:=by
 have:=d6 h;unfold eY;rw[PZ];exact OI (Th _ _) this
theorem vN(h:GW m ks){p x:Int}:x∈eY ks p↔Ku ks p x:=by
 rw[Gu h.2.2.2.2];unfold eY;rw[Rk];constructor
 ·rintro ⟨k, hk, rfl⟩
  obtain⟨h1,h2⟩:=OG.mp hk;obtain⟨a,b,rfl,_⟩:=h.2.2.2.2 k h1;have h3:p=a\/p=b:=by simpa[zL,oE] using h2
  rcases h3 with rfl|rfl
  ·left;rw[show (oE [p,b]).1+(oE [p,b]).2-p=b from by show p+b-p=b;omega];exact h1
  ·right;rw[show (oE [a,p]).1+(oE [a,p]).2-p=a from by show a+p-p=a;omega];exact h1
 ·rintro (h1 | h1)
  ·exact⟨[p,x],OG.mpr ⟨h1,by simp[zL,oE]⟩,by show p+x-p=x;omega⟩
  ·exact⟨[x,p],OG.mpr ⟨h1,by simp[zL,oE]⟩,by show x+p-p=x;omega⟩
theorem EM{p:Int}(h:GW m ks):eA [i8 m ks,.int p] Y=.ok (.obj Y.length) (Y++[.lst ((eY ks p).map D.int)]):=by
 have n2:0+1+1<=sizeLine:=l2
 have c:=d7 (U:=List Int) (en:=aG) (src:=.fix (ks.map aG)) (g:=fY 2 (bH (aq 0) (bH (aq 1) (fZ)))) (t:=gN) (e:=gO) (Y1:=Y) (q:=zL p) (h:=fun k=>.int ((oE k).1+(oE k).2-p)) (fun Z=>∃o o',Z=[o,o',some (.int p)]) (fun _=>trivial) (us:=ks) (acc:=[]) (Z:=[none,none,some (.int p)]) ⟨_,_,rfl⟩
  (by rw[Rf];have:=d6 h;exact OI (by omega) cR)
  (fun k hk a Z hJJ => by
   obtain⟨o,o',e⟩:=hJJ;subst e;obtain⟨x,y,rfl,_⟩:=h.2.2.2.2 k hk;refine⟨[some (.int x),some (.int y),some (.int p)],⟨_,_,rfl⟩,rfl,?_,fun _=>?_⟩
   ·unfold gN;simp only[b8,aK,f9,ao,az,ak,ai,aa,ag,QJ,Rf,OA n2,α3,a8];rfl
   ·unfold gO;simp only[aK,ak,ai,aa,ag,cS]
    rfl)
 rw[QE,show (ks.filter (zL p)).map (fun k=>D.int ((oE k).1+(oE k).2-p))=(eY ks p).map D.int from by unfold eY;rw[Rb];rfl]at c;unfold eA;rw[dJ];simp only[kI,List.replicate,aY,eF,eE,aK,ai,bb,aa,ag,jK,mL,cq];rw[show jY [none,none,some 1] _=[none,none,some (.int p)] from rfl,c];simp only[ae,ag,aR];exact Bz (by simp)
theorem EA{N:Nat}{l:List Int}{x:Int}(hN:M[N]?=some (.lst (l.map D.int)))(hl:l.length<=15):compLoop (.own N (l.map D.int)) M.length (aq 0) dU dY (l.map D.int) [none,some (.int x)] (M++[.lst []])=.ok (.obj M.length) (M++[.lst ((iP l x).map jx)]):=by
 have c:=d7 (U:=Int) (en:=D.int) (src:=.own N (l.map D.int)) (g:=aq 0) (t:=dU) (e:=dY) (Y1:=M) (q:=fun y=>decide (x<y)) (h:=fun y=>jx (x,y)) (fun Z=>∃o,Z=[o,some (.int x)]) (fun _=>aS hN) (us:=l) (acc:=[]) (Z:=[none,some (.int x)]) ⟨_,rfl⟩
  (by rw[Rf];exact OI (by omega) cR)
  (fun y hy a Z hJJ => by
   obtain⟨o,e⟩:=hJJ;subst e;refine⟨[some (.int y),some (.int x)],⟨_,rfl⟩,rfl,?_,fun _=>?_⟩
   ·unfold dU;simp only[b8,aK,ak,ai,aa,ag,cW,a8];rfl
   ·unfold dY;simp only[f9,ao,az,ak,ai,aa,ag,QJ,Rf,OA l2]
    rfl)
 rw[QE,show (l.filter fun y=>decide (x<y)).map (fun y=>jx (x,y))=(iP l x).map jx from by unfold iP;rw[Rb];rfl]at c;exact c
theorem qk{l:List Int}{x:Int}:(iP l x).length<=l.length:=by
 unfold iP;rw[PZ];exact Th _ _
theorem pq{J β:Type}{f:J->List β}{k:Nat}(h:∀x,(f x).length<=k):∀l:List J,(l.flatMap f).length<=l.length*k
 |[]=>by simp
 |w::l=>by
  rw[Ti,PY,QJ,QD];have:=h w;have:=pq h l;omega
theorem BN{M:aA}{T N:Nat}{ps:List (Int×Int)}{l:List Int}{o0 o2:Option D}(hT:M[T]?=some (.lst (ps.map jx)))(hN:M[N]?=some (.lst (l.map D.int)))(ne:T≠N)(hl:l.length<=15)(hp:ps.length<=10000):∀(xs:List Int)(dn:List Int)(M1:aA)(o4:Option D),l=dn++xs->M1[T]?=some (.lst ((ps++dn.flatMap (iP l)).map jx))->(∀j o,T≠j->M[j]?=some o->M1[j]?=some o) ->
  ∃(M2:aA)(o4':Option D),fU (.own N (l.map D.int)) (aq 4) dX (xs.map D.int) [o0,some (.obj T),o2,some (.obj N),o4] M1=.next [o0,some (.obj T),o2,some (.obj N),o4'] M2/\M2[T]?=some (.lst ((ps++l.flatMap (iP l)).map jx))/\(∀j o,T≠j->M[j]?=some o->M2[j]?=some o)
 |[],dn,M1,o4,e,h1,h2=>by
  rw[Pv]at e;subst e;refine⟨M1,o4,?_,h1,h2⟩;rw[Qo];unfold fU;rw[OA (show dz (.own N _) M1 from h2 N _ ne hN)]
 |x::xs,dn,M1,o4,e,h1,h2=>by
  have hN1:=h2 N _ ne hN;have c:=EA (M:=M1) (x:=x) hN1 hl
  have fl:(dn.flatMap (iP l)).length<=15*15:=by
   have h3:=pq (f:=iP l) (k:=15) (fun y=>OI qk hl) dn;have h4:dn.length<=15:=by have:=O0 List.length e;simp at this;omega
   exact OI h3 (Tj 15 h4)
  have rl:(iP l x).length<=15:=OI qk hl;have ex:=DG (M:=M1++[.lst ((iP l x).map jx)]) (aS h1) aF (by rw[PZ,PZ,PY];omega);have tl:T<M1.length:=(OS.mp h1).1
  obtain⟨M2,o4',r1,r2,r3⟩:=BN (o0:=o0) (o2:=o2) hT hN ne hl hp xs (dn++[x]) ((M1++[O.lst ((iP l x).map jx)]).set T (.lst ((ps++dn.flatMap (iP l)).map jx++(iP l x).map jx))) (some (.int x)) (by rw[e];simp)
   (by rw[pj (by rw[PY];omega),List.flatMap_append,Ti,Tn,Pv,<- Qy,Rv (l₂:=iP l x)])
   (fun j o nj z=>by rw[OV nj];exact aS (h2 j o nj z))
  refine⟨M2,o4',?_,r2,r3⟩;rw[Qp];unfold fU;rw[OA (show dz (.own N _) M1 from hN1)];simp only[bx,ae,ag,Td,Te]
  rw[show dX [o0,some (.obj T),o2,some (.obj N),some (.int x)] M1=.next [o0,some (.obj T),o2,some (.obj N),some (.int x)] ((M1++[O.lst ((iP l x).map jx)]).set T (.lst ((ps++dn.flatMap (iP l)).map jx++(iP l x).map jx))) from by
   unfold dX;simp only[mM,pV,ak,ai,aa,ag,xD h1,Qg,ao,az,eF,eE];rw[iW hN1];simp only[aa,ag,fO];rw[show jY [none,some 4] [o0,some (D.obj T),o2,some (D.obj N),some (D.int x)]=[none,some (.int x)] from rfl,c]
   simp only[aa,ag,ex,ae]]
  exact r1
end
section
variable{m:Nat}
def rS(ks:List (List Int))(l:List Int):List (Int×Int):=l.flatMap fun p=>(eY ks p).flatMap (iP (eY ks p))
theorem Av(h:GW m ks){p:Int}:((eY ks p).flatMap (iP (eY ks p))).length<=225:=by
 have hl:=vM h (p:=p);have h3:=pq (f:=iP (eY ks p)) (k:=15) (fun y=>OI qk hl) (eY ks p);exact OI h3 (Tj 15 hl)
theorem vF(h:GW m ks)(l:List Int):(rS ks l).length<=l.length*225:=pq (fun p=>Av h) l
theorem yS{T:Nat}{Y:aA}(h:GW m ks):∀(xs dn:List Int)(M:aA)(o2 o3 o4:Option D),dn.length+xs.length<=6->M[T]?=some (.lst ((ks.map oE++rS ks dn).map jx))->Y.length<=T->(∀j,j<Y.length->M[j]?=Y[j]?) ->
  ∃(M':aA)(o2' o3' o4':Option D),fU (.fix ((rg m).map D.int)) (aq 2) dW (xs.map D.int) [some (i8 m ks),some (.obj T),o2,o3,o4] M=.next [some (i8 m ks),some (.obj T),o2',o3',o4'] M'/\M'[T]?=some (.lst ((ks.map oE++rS ks (dn++xs)).map jx))/\(∀j,j<Y.length->M'[j]?=Y[j]?)
 |[],dn,M,o2,o3,o4,hl,hT,hμ,hk=>by
  refine⟨M,o2,o3,o4,?_,by rw[Pv];exact hT,hk⟩;rw[Qo];unfold fU;rw[OA (show dz (.fix _) M from trivial)]
 |p::xs,dn,M,o2,o3,o4,hl,hT,hμ,hk=>by
  have nl:=vM h (p:=p);have pl:=vF h dn;have kl:=d6 h;simp only[QJ]at hl;have tl:T<M.length:=(OS.mp hT).1
  obtain⟨M2,o4',r1,r2,r3⟩:=BN (M:=M++[.lst ((eY ks p).map D.int)]) (T:=T) (N:=M.length) (ps:=ks.map oE++rS ks dn) (l:=eY ks p) (o0:=some (i8 m ks)) (o2:=some (.int p)) (aS hT) aF (by omega) nl
   (by
    rw[PY,PZ];have:dn.length*225<=6*225:=Tj 225 (by omega)
    omega) (eY ks p) [] (M++[.lst ((eY ks p).map D.int)]) o4 rfl (by rw[Tn,Pv];exact aS hT) (fun _ _ _ z=>z)
  obtain⟨M',o2',o3',o4'',q1,q2,q3⟩:=yS h xs (dn++[p]) M2 (some (.int p)) (some (.obj M.length)) o4' (by rw[PY];simp only[QJ,Rf];omega)
   (by rw [r2]; unfold rS; rw [List.flatMap_append, Ti, Tn, Pv, Qy]) hμ (fun j hj => by
    have hj':j<M.length:=by
     have:j<T:=by omega
     omega
    rw[r3 j M[j] (by omega) (by rw[PR hj',Sk hj']),<- hk j hj,Sk hj'])
  refine⟨M',o2',o3',o4'',?_,by rw[q2,Qy];rfl,q3⟩;rw[Qp];unfold fU;rw[OA (show dz (.fix _) M from trivial)];simp only[bx,ae,ag,Td,Te]
  rw[show dW [some (i8 m ks),some (.obj T),some (.int p),o3,o4] M=.next [some (i8 m ks),some (.obj T),some (.int p),some (.obj M.length),o4'] M2 from by
   unfold dW;rw[aJ,aZ];simp only[aE,ao,az,ak,ai,aa,ag,EM h,ae,bx,aw,Td,Te];rw[jE];simp only[eE,ak,ai,aa,ag];rw[iW (show (M++[O.lst ((eY ks p).map D.int)])[M.length]?=some (.lst ((eY ks p).map D.int)) from aF)];simp only[ae,ag,fO]
   exact r1]
  exact q1
theorem BM(h:GW m ks):∀p∈Ed m ks,PP m p:=fun p hp=>by
 rcases OQ.mp hp with z|z
 ·obtain⟨k,hk,rfl⟩:=Rk.mp z;obtain⟨a,b,rfl,h1,h2,h3⟩:=h.2.2.2.2 k hk;exact⟨⟨h1,by show a<(m:Int);omega⟩,⟨by show 0<=b;omega,h3⟩,by show a≠b;omega⟩
 ·obtain⟨q,hq,z⟩:=Tf.mp z;obtain⟨x,hx,z⟩:=Tf.mp z;obtain⟨y,hy,rfl⟩:=Rk.mp z;obtain⟨hy,hxy⟩:=OG.mp hy;have ax:=K4 h ((vN h).mp hx);have ay:=K4 h ((vN h).mp hy);have:=To hxy;exact⟨ax.2,ay.2,by dsimp only;omega⟩
def tw(m:Nat)(ks:List (List Int)):List (List Int):=ig ((Ed m ks).map mm)
theorem yT(h:GW m ks):GW m (tw m ks):=o9 h.m0 h.m6 (BM h)
theorem y6(h:GW m ks):dD [i8 m ks] Y=.ok (i8 m (tw m ks)) Y:=by
 have m0:=h.m0;have m6:=h.m6;have kl:=d6 h
 have e0:ks.map aG=(ks.map oE).map jx:=by
  rw[Rb];apply Rc;intro k hk;obtain⟨a,b,rfl,_⟩:=h.2.2.2.2 k hk;rfl
 obtain⟨M',o2,o3,o4,run,hT,hk⟩:=yS (T:=Y.length) (Y:=Y) h (rg m) [] (Y++[.lst (ks.map aG)]) none none none (by rw[σ2];simpa using m6) (by rw[e0];show _=some (O.lst ((ks.map oE++[]).map jx));rw[Pv];exact aF) (Pf _) (fun j hj=>PR hj);rw[QE]at hT
 obtain⟨g,hpre⟩:∃g,M'=Y++g:=by
  refine⟨M'.drop Y.length,?_⟩;apply R9;intro i;by_cases hi:i<Y.length
  ·rw[PR hi,hk i hi]
  ·rw[PN (by omega),List.getElem?_drop];congr 1;omega
 have hr:∀Y,qZ [.int (m:Int)] Y=.ok (.fix ((rg m).map D.int)) Y:=fun Y=>by rw[pB (by omega) (by omega),IK]
 have wo:=nG (Y:=M') m0 m6 (ps:=Ed m ks) (by
  unfold Ed;rw[PY,PZ];have:=vF h (rg m);unfold rS at this;rw[σ2]at this;have h2:m*225<=6*225:=Tj 225 m6
  omega) hT (BM h)
 unfold dD;rw[dN];simp only[jW,List.replicate];rw[aJ,aZ];simp only[aE,ao,az,aK,ai,bb,aa,ag,jK];rw[show u4 [.tup (ks.map aG)] Y=.ok (.obj Y.length) (Y++[.lst (ks.map aG)]) from rfl];simp only[ae,ag,bx,aw,Td,Te];rw[aJ,jE];simp only[jL,ao,az,aK,ai,bb,aa,ag,ik,hr,ae,cq];rw[run];simp only[aw,aY,aE,ao,az,aK,ak,ai,bb,aa,ag,ik,wo,ae,aR];rw[hpre];exact bD (ji (yT h))
end
theorem AI{a b:Int}(hk:∀k∈ks,xf m k):uL true (.tup [.int a,.int b]) (.tup (ks.map aG)) Y=.ok (.bl (!decide ([a,b]∈ks))) Y:=by
 have e:=DC (Y:=Y) (a:=a) (b:=b) hk;unfold uL at e⊢;split at e
 ·split at e
  ·split at e
   ·rename_i hf;rw[OA hf,OA rfl];rw[OB Pm]at e;injection e with e1
    injection e1 with e2
    rw[e2]
   ·cases e
  ·cases e
 ·cases e
theorem FS{a b c d:Int}:mv true (.tup [.int a,.int b]) (.tup [.int c,.int d]) Y=.ok (.bl (!(decide (a=c)&&decide (b=d)))) Y:=by
 show aj.ok (D.bl (!((a == c)&&((b == d)&&true)))) Y=_;congr 3;rw[Tp];rfl
section
variable{m:Nat}
theorem Ip{a b c:Int}(hp:Y[i]?=some (cO a b c)):∃m ks a' b' c',GW m ks/\cK [.obj i,.int 6] Y=.ok (i8 m ks) (Y.set i (cO a' b' c')):=by
 have hi:i<Y.length:=(OS.mp hp).1;obtain⟨m,ks,a1,b1,c1,h,ed⟩:=CN hp;have m0:=h.m0;have m6:=h.m6;let M1:aA:=Y.set i (cO a1 b1 c1)
 have P1:Pn Y i M1:=(Pn.self hp).set hi;obtain⟨w,a2,b2,c2,w0,w1,ew,P2⟩:=P1.draw (m:=4) hi (by decide) (by decide);let M2:aA:=M1.set i (cO a2 b2 c2)
 have ed':cG [.obj i,.int 6] Y=.ok (i8 m ks) M1:=ed;have ew':aL [.obj i,.int 4] M1=.ok (.int w) M2:=ew;have hg:=yT h;by_cases z0:w=0
 ·obtain⟨a7,b7,c7,hgc⟩:=P2.gc (ji h);refine⟨m,ks,a7,b7,c7,h,?_⟩;unfold cK;rw[dJ];simp only[gx,List.replicate];rw[aJ,aZ];simp only[aE,ao,az,ak,ai,aa,ag,ed',ae,bx,aw,Td,Te];rw[aJ,aZ];simp only[aE,ao,az,ak,ai,bb,aa,ag,ew',ae,bx,aw,Td,Te];rw[aJ,bE];simp only[b8,aK,ak,ai,bb,aa,ag,d5,QI,Qf,a8,ae];rw[show (w == 0)=true from by rw[Sv];exact z0];simp only[Qg,aY,ak,ai,ae,ag,bN,aR];exact hgc
 ·by_cases z3 : w = 3 /\ 1 < m
  ·
   obtain⟨u,a3,b3,c3,u0,u1,eu,P3⟩:=P2.draw (m:=(m:Int)-1) hi (by omega) (by omega);obtain⟨v,a4,b4,c4,v0,v1,ev',P4⟩:=P3.draw (m:=(m:Int)-1-u) hi (by omega) (by omega);let M4:aA:=(M2.set i (cO a3 b3 c3)).set i (cO a4 b4 c4)
   let y:Int:=u+1+v
   let ls:List (List Int):=(tw m ks).filter fun k=>!(decide (k.getD 0 0=u)&&decide (k.getD 1 0=y))
   have cc:=d7 (U:=List Int) (en:=aG) (src:=.fix ((tw m ks).map aG)) (g:=aq 0) (t:=eM) (e:=eO) (Y1:=M4) (q:=fun k=>!(decide (k.getD 0 0=u)&&decide (k.getD 1 0=y))) (h:=aG) (fun Z=>∃o,Z=[o,some (.tup [.int u,.int y])]) (fun _=>trivial) (us:=tw m ks) (acc:=[]) (Z:=[none,some (.tup [.int u,.int y])]) ⟨_,rfl⟩
    (by rw[Rf];have:=d6 hg;exact OI (by omega) cR)
    (fun k hk a Z hJJ => by
     obtain⟨o,e⟩:=hJJ;subst e;obtain⟨x,z,rfl,_⟩:=hg.2.2.2.2 k hk;refine⟨[some (aG [x,z]),some (.tup [.int u,.int y])],⟨_,rfl⟩,rfl,?_,fun _=>by unfold eO;rw[ai]⟩;unfold eM;simp only[b8,aK,ak,ai,aa,ag];rw[show mv true (aG [x,z]) (.tup [.int u,.int y]) (M4++[O.lst a])=_ from FS];simp only[aa,ag,a8]
     rfl)
   rw[QE]at cc;let ps:List (Int×Int):=ls.map oE++(if ([u,y]∈tw m ks) then [] else [(u,y)])
   have pp:∀p∈ps,PP m p:=by
    intro p hp;rcases OQ.mp hp with z|z
    ·obtain⟨k,hk,rfl⟩:=Rk.mp z;obtain⟨x,y',rfl,h1,h2,h3⟩:=hg.2.2.2.2 k (OG.mp hk).1;exact⟨⟨h1,by show x<(m:Int);omega⟩,⟨by show 0<=y';omega,h3⟩,by show x≠y';omega⟩
    ·split at z
     ·cases z
     ·rw[QS.mp z];exact⟨⟨u0,by show u<(m:Int);omega⟩,⟨by show 0<=u+1+v;omega,by show u+1+v<(m:Int);omega⟩,by show u≠u+1+v;omega⟩
   have e0:ls.map aG=(ls.map oE).map jx:=by
    rw[Rb];apply Rc;intro k hk;obtain⟨x,z,rfl,_⟩:=hg.2.2.2.2 k (OG.mp hk).1;rfl
   have lsl:ls.length<=15:=OI (Th _ _) (d6 hg);let M6:aA:=M4++[O.lst (ps.map jx)]
   have psl:ps.length<=100000:=by
    simp only[ps,PY,PZ];split <;> simp only[QJ,Rf] <;> omega
   have wo:=nG (Y:=M6) (t:=M4.length) m0 m6 psl aF pp;have gw:=o9 m0 m6 pp;obtain⟨a7,b7,c7,hgc⟩:=(P4.app (g:=[O.lst (ps.map jx)])).gc (ji gw);refine⟨m,_,a7,b7,c7,gw,?_⟩;have n2:0+1+1<=sizeLine:=l2;unfold cK;rw[dJ];simp only[gx,List.replicate];rw[aJ,aZ];simp only[aE,ao,az,ak,ai,aa,ag,ed',ae,bx,aw,Td,Te];rw[aJ,aZ];simp only[aE,ao,az,ak,ai,bb,aa,ag,ew',ae,bx,aw,Td,Te];rw[aJ,bE];simp only[b8,aK,ak,ai,bb,aa,ag,d5,QI,Qf,a8,ae];rw[show (w == 0)=false from by rw[Ox];exact z0];simp only[QI,Qf,bw,aw];rw[aJ,aZ];simp only[aE,ao,az,ak,ai,aa,ag,y6 h,ae,bx,aw,Td,Te];rw[aJ,bE];simp only[tX,b8,aK,ak,ai,bb,aa,ag,d5,QI,Qf,a8,ik,cW];rw[show (w == 3)=true from by rw[Sv];exact z3.1,OA rfl,show cj .Gt (m:Int) 1=true from QF (by have:=z3.2;show (1:Int)<m;omega)];simp only[ae,ag,Qg];rw[aJ,aZ];simp only[aE,ao,az,aK,ak,ai,bb,aa,ag,ik];rw[show lR (.int m) (.int 1) M2=.ok (.int ((m:Int)-1)) M2 from rfl];simp only[aa,ag];rw[show aL [.obj i,.int ((m:Int)-1)] M2=.ok (.int u) (M2.set i (cO a3 b3 c3)) from eu];simp only[ae,ag,bx,aw,Td,Te];rw[aJ,aZ];simp only[f9,aE,ao,az,aK,ak,ai,bb,aa,ag,ik,cS];rw[show lR (.int m) (.int 1) (M2.set i (cO a3 b3 c3))=.ok (.int ((m:Int)-1)) (M2.set i (cO a3 b3 c3)) from rfl];simp only[aa,ag];rw[show lR (.int ((m:Int)-1)) (.int u) (M2.set i (cO a3 b3 c3))=.ok (.int ((m:Int)-1-u)) (M2.set i (cO a3 b3 c3)) from rfl];simp only[aa,ag];rw[show aL [.obj i,.int ((m:Int)-1-u)] (M2.set i (cO a3 b3 c3))=.ok (.int v) M4 from ev'];simp only[aa,ag,cS,QJ,Rf,OA n2,ae,bx,aw,Td,Te];rw[aJ,aZ];simp only[eF,eE,aK,ak,ai,bb,aa,ag,jK,mL,cq];rw[show jY [none,some 5] [some (D.obj i),some (D.int 6),some (i8 m (tw m ks)),some (D.int w),some (D.int u),some (D.tup [D.int u,D.int (u+1+v)]),none]=[none,some (.tup [.int u,.int y])] from rfl];rw[show compLoop (.fix ((tw m ks).map aG)) M4.length (aq 0) eM eO ((tw m ks).map aG) [none,some (.tup [.int u,.int y])] (M4++[O.lst []])=.ok (.obj M4.length) (M4++[O.lst (ls.map aG)]) from cc];simp only[ae,ag,bx,aw,Td,Te];rw[aJ,bE];simp only[b8,aK,ak,ai,bb,aa,ag,jK];rw[show uL true (.tup [.int u,.int (u+1+v)]) (.tup ((tw m ks).map aG)) (M4++[O.lst (ls.map aG)])=_ from AI hg.2.2.2.2];simp only[aa,ag,a8,ae];by_cases hc:[u,u+1+v]∈tw m ks
   ·rw [QF hc];simp only[RJ,QI,Qf,bw,aw];have ep:ps=ls.map oE:=by simp only[ps,y];rw[OA hc,Pv]
    rw[aZ];simp only[aE,ao,az,aK,ak,ai,bb,aa,ag,ik];rw[show bO [.int m,.obj M4.length] (M4++[O.lst (ls.map aG)])=.ok (i8 m (ig (ps.map mm))) (M4++[O.lst (ps.map jx)]) from by rw[e0,<- ep];exact wo];simp only[ae,ag,bx,aw,Td,Te,aY,ak,ai,aR];exact hgc
   ·rw [Ow hc];simp only[RN,Qg];have ep:ps=ls.map oE++[(u,u+1+v)]:=by simp only[ps,y];rw[OB hc]
    rw[mM,pV];simp only[ak,ai,aa,ag];rw[xD (show (M4++[O.lst (ls.map aG)])[M4.length]?=some (.lst (ls.map aG)) from aF),OA rfl];simp only[ao,az,ak,ai,aa,ag]
    rw[show dP (.obj M4.length) [.tup [.int u,.int (u+1+v)]] (M4++[O.lst (ls.map aG)])=.ok .non (M4++[O.lst (ps.map jx)]) from by
     unfold dP;dsimp only;rw[aF];dsimp only;rw[OA (by rw[PZ];exact OD (show ls.length<1000 by omega) cR),vx,e0,ep,Rv]
     rfl]
    simp only[ae,ag,aw];rw[aZ];simp only[aE,ao,az,aK,ak,ai,bb,aa,ag,ik];rw[show bO [.int m,.obj M4.length] (M4++[O.lst (ps.map jx)])=.ok (i8 m (ig (ps.map mm))) (M4++[O.lst (ps.map jx)]) from wo];simp only[ae,ag,bx,aw,Td,Te,aY,ak,ai,aR];exact hgc
  ·obtain ⟨a7, b7, c7, hgc⟩ := P2.gc (ji hg);refine⟨m,_,a7,b7,c7,hg,?_⟩;unfold cK;rw[dJ];simp only[gx,List.replicate];rw[aJ,aZ];simp only[aE,ao,az,ak,ai,aa,ag,ed',ae,bx,aw,Td,Te];rw[aJ,aZ];simp only[aE,ao,az,ak,ai,bb,aa,ag,ew',ae,bx,aw,Td,Te];rw[aJ,bE];simp only[b8,aK,ak,ai,bb,aa,ag,d5,QI,Qf,a8,ae];rw[show (w == 0)=false from by rw[Ox];exact z0];simp only[QI,Qf,bw,aw];rw[aJ,aZ];simp only[aE,ao,az,ak,ai,aa,ag,y6 h,ae,bx,aw,Td,Te];rw[aJ,bE];simp only[tX,b8,aK,ak,ai,bb,aa,ag,d5,QI,Qf,a8,ik,cW];by_cases c3:w=3
   ·rw[show (w == 3)=true from by rw[Sv];exact c3,OA rfl,show cj .Gt (m:Int) 1=false from Ow (by show ¬ (1:Int)<m;intro z;exact z3 ⟨c3,by omega⟩)];simp only[ae,ag,QI,Qf,bw,aw,aY,ak,ai,aR];exact hgc
   ·rw[show (w == 3)=false from by rw[Ox];exact c3];simp only[QI,Qf,ae,ag,bw,aw,aY,ak,ai,aR];exact hgc
end
theorem pG{a b:Nat}(h:Y[a]?=some (.lst xs))(g:Y[b]?=some (.lst ys))(hn:xs.length+ys.length<=1000000):bo (.obj a) (.obj b) Y=.ok (.obj Y.length) (Y++[.lst (xs++ys)]):=by
 unfold bo;simp only[h,g];rw[OA (OI hn (by decide))]
theorem Sx{x:D}{p:PyData}(e:oC Y x=some p)(f:fS p=true):mv neg x x Y=.ok (.bl (!neg)) Y:=by
 unfold mv;rw[e];dsimp only;rw[OA ⟨f,f⟩,SeqAt.eqv_refl _ (cn f)];cases neg <;> rfl
theorem NU:j8 neg (.str x) (.str x) M=.ok (.bl (!neg)) M:=by
 unfold j8;dsimp only;rw[QF rfl];cases neg <;> rfl
theorem vW{Y:aA}:∀fs:List Int,toPs Y (fs.map D.int)=some (fs.map PyData.int)
 |[]=>rfl
 |x::fs=>by simp only[Qp,toPs,vW fs];rfl
theorem y0{Y:aA}:∀ls:List (List Int),iS Y (ls.map DY)=some (ls.map gH)
 |[]=>rfl
 |l::ls=>by
  have:zI Y (DY l)=some (gH l):=by
   show (toPs Y (l.map D.int)).map PyData.tuple=_;rw[vW];rfl
  simp only[Qp,iS,y0 ls,this];rfl
abbrev MX(ls:List (List Int)):D:=.tup (ls.map DY)
theorem HW:oC Y (MX ls)=some (.tuple (ls.map gH)):=by
 simp only[oC,y0,Option.map_some]
theorem BQ:∀ls:List (List Int),PyData.canLayAll0 (ls.map gH)=true/\PyData.depthAll (ls.map gH)<=1
 |[]=>by simp[PyData.canLayAll0,PyData.depthAll]
 |l::ls=>by
  have ih:=BQ ls;have f:=vX l;simp only[Qp,PyData.canLayAll0,PyData.depthAll,ih.1,gH,PyData.canLay0,PyData.depth,f.1,f.2];have:=ih.2;exact⟨rfl,by omega⟩
theorem HY:fS (.tuple (ls.map gH))=true:=by
 have:=BQ ls;simp only[fS,PyData.canLay0,this.1,PyData.depth,Tg];exact QF (by have:=this.2;omega)
theorem Ce:fV "tuple" (.tup xs) Y=.ok (.bl true) Y:=rfl
theorem Lr{w:List Int}:xl (DY w) Y=.ok (.fix (w.map D.int)) Y:=rfl
theorem tx{i:Int}:bX [.int i] Y=.ok (.bl true) Y:=by
 unfold bX;rw[dN];show oX Y (.ok (.bl true) Y)=_;exact bt (by simp)
theorem DD{w:List Int}(hl:w.length<=1000):compLoop (.fix (w.map D.int)) M.length (aq 0) cQ cX (w.map D.int) [none] (M++[.lst []])=.ok (.obj M.length) (M++[.lst ((w.map fun _=>true).map D.bl)]):=by
 have c:=d7 (U:=Int) (en:=D.int) (src:=.fix (w.map D.int)) (g:=aq 0) (t:=cQ) (e:=cX) (Y1:=M) (q:=fun _=>true) (h:=fun _=>.bl true) (fun Z=>∃o,Z=[o]) (fun _=>trivial) (us:=w) (acc:=[]) (Z:=[none]) ⟨_,rfl⟩
  (by rw[Rf];exact OI (by omega) cR)
  (fun k hk x Z hJJ => by
   obtain⟨o,e'⟩:=hJJ;subst e';refine⟨[some (.int k)],⟨_,rfl⟩,rfl,rfl,fun _=>?_⟩;unfold cX;simp only[aE,ao,az,ai,aa,ag]
   exact tx)
 rw[c,qr,QE,Rb];rfl
theorem zY(h:∀k∈ls,k.length<=1000)(hl:ls.length<=1000):cv [MX ls,MX ls] Y=.ok (.bl true) Y:=by
 obtain⟨ys',Z',Y2,s',⟨e1,n,L',e3,e4,e5,e6,e7⟩,run⟩:=mU (src:=.fix (ls.map DY)) (g:=aq 0) (t:=cQ) (e:=eU) (n:=Y.length)
  (fun xs ys Z Y2 s=>Y2=Y/\∃(n:Nat)(L':List (List Int)),xs=L'.map DY/\(∀k∈L',k.length<=1000)/\ys=(List.replicate n true).map D.bl/\n+L'.length<=1000/\∃o,Z=[o])
  (fun ys Z Y2 s ⟨e,_⟩=>⟨by rw[e],trivial⟩)
  (fun x r ys Z Y2 s hJ => by
   obtain⟨e1,n,L',e3,e4,e5,e6,o,e7⟩:=hJ;subst e1 e5 e7;cases L' with
   |nil=>cases e3
   |cons k L'=>
    rw[Qp]at e3;injection e3 with ex er
    subst ex er;have hk:=e4 k OL;simp only[QJ]at e6;refine⟨rfl,trivial,[some (DY k)],Y2,s,true,Y2,s,rfl,rfl,fun _=>⟨.bl true,Y2,s++[.lst ((k.map fun _=>true).map D.bl)],?_,?_,rfl,rfl,n+1,L',rfl,fun k hk=>e4 k (OM _ hk),?_,by omega,_,rfl⟩,fun z=>by cases z⟩
    ·unfold eU;simp only[zx,gU,ai,aa,ag];rw[show fV "tuple" (DY k) (Y2++O.lst ((List.replicate n true).map D.bl)::s)=.ok (.bl true) (Y2++O.lst ((List.replicate n true).map D.bl)::s) from rfl];simp only[aa,ag,a8,Qg,aE,ao,az,eF,eE,ai,Lr,cq];rw[show jY [none] [some (DY k)]=[none] from rfl,DD hk];simp only[aa,ag];refine(jM aF).trans ?_;rw[show (k.map fun _=>true).all id=true from by simp];simp only[Qy,Rh]
    ·simp only[PZ,P0];exact OD (show n<1000 by omega) cR
    ·rw[List.replicate_succ',Rv];rfl)
  (xs:=ls.map DY) (ys:=[]) (Z:=[none]) (Y1:=Y) (s:=[]) ⟨rfl,0,ls,rfl,h,rfl,by omega,_,rfl⟩
 subst e1 e5;unfold cv;rw[dJ];simp only[i6,List.replicate];rw[aJ,bE];simp only[gf,fA,gb,gU,aK,b8,ak,ai,aa,ag,Ce,cN,RJ,QI,Qf,Sx HW HY,a8,ae,bw,aw,aY,aE,ao,az,eF,eE,mL,cq];rw[jl,kY,run];simp only[aa,ag];rw[jM (bs:=List.replicate n true) (by rw[PN (Pf _),RF];rfl)];rw[show (List.replicate n true).all id=true from by simp];simp only[ae,ag,aR];exact bD (by simp)
mutual
def Kn(Y:aA):D->Prop
 |.tup xs=>xs.length<1000/\Kns Y xs
 |.obj n=>∃tn,He Y (.obj n)=some tn/\tn ≠ "int" /\ tn ≠ "bool" /\ tn ≠ "tuple"
 |_=>True
def Kns(Y:aA):List D->Prop
 |[]=>True
 |x::xs=>Kn Y x/\Kns Y xs
end
theorem ph{Y:aA}:∀{xs:List D},Kns Y xs↔∀x∈xs,Kn Y x
 |[]=>by simp[Kns]
 |x::xs=>by simp[Kns,ph (xs:=xs)]
theorem Ez{g:aA}(h:He Y (.obj n)=some tn):He (Y++g) (.obj n)=some tn:=by
 unfold He at h⊢;dsimp only at h⊢;cases e:Y[n]? with
 |none=>rw[e]at h;cases h
 |some o=>rw[PR (OS.mp e).1,e];rw[e]at h;exact h
mutual
theorem tV{Y:aA}(g:aA):∀{d:D},Kn Y d->Kn (Y++g) d
 |.non,_=>by simp[Kn]
 |.bl _,_=>by simp[Kn]
 |.int _,_=>by simp[Kn]
 |.str _,_=>by simp[Kn]
 |.frz _,_=>by simp[Kn]
 |.obj n,h=>by
  simp only[Kn]at h⊢;obtain⟨tn,h1,h2⟩:=h;exact⟨tn,Ez h1,h2⟩
 |.tup xs,h=>by
  simp only[Kn]at h⊢;exact⟨h.1,kns_more g h.2⟩
theorem kns_more{Y:aA}(g:aA):∀{xs:List D},Kns Y xs->Kns (Y++g) xs
 |[],_=>by simp[Kns]
 |x::xs,h=>by
  simp only[Kns]at h⊢;exact⟨tV g h.1,kns_more g h.2⟩
end
def isInt:D->Bool
 |.int _=>true
 |_=>false
def ij:D->Bool
 |.tup _=>true
 |_=>false
def eZ(a b:Int):D->Bool
 |.int i=>decide (a<=i)&&decide (i<=b)
 |_=>false
theorem AF{d:D}(h:Kn Y d):∃b,fV "int" d Y=.ok (.bl b) Y/\(b=true↔(isInt d=true\/∃c,d=.bl c)):=by
 cases d with
 |obj n=>
  simp only[Kn]at h;obtain⟨tn,h1,h2,h3,h4⟩:=h;refine⟨_,by unfold fV;rw[h1],?_⟩;simp[j7,isInt,h2,h3]
 |non=>exact⟨_,rfl,by simp[j7,isInt]⟩
 |bl b=>exact⟨_,rfl,by simp[j7,isInt]⟩
 |int b=>exact⟨_,rfl,by simp[j7,isInt]⟩
 |str b=>exact⟨_,rfl,by simp[j7,isInt]⟩
 |tup b=>exact⟨_,rfl,by simp[j7,isInt]⟩
 |frz b=>exact⟨_,rfl,by simp[j7,isInt]⟩
theorem DB{d:D}(h:Kn Y d):∃b,fV "bool" d Y=.ok (.bl b) Y/\(b=true↔∃c,d=.bl c):=by
 cases d with
 |obj n=>
  simp only[Kn]at h;obtain⟨tn,h1,h2,h3,h4⟩:=h;refine⟨_,by unfold fV;rw[h1],?_⟩;simp[j7,h2,h3]
 |non=>exact⟨_,rfl,by simp[j7]⟩
 |bl b=>exact⟨_,rfl,by simp[j7]⟩
 |int b=>exact⟨_,rfl,by simp[j7]⟩
 |str b=>exact⟨_,rfl,by simp[j7]⟩
 |tup b=>exact⟨_,rfl,by simp[j7]⟩
 |frz b=>exact⟨_,rfl,by simp[j7]⟩
theorem sx{d:D}(h:Kn Y d):fV "tuple" d Y=.ok (.bl (ij d)) Y:=by
 cases d with
 |obj n=>
  simp only[Kn]at h;obtain⟨tn,h1,h2,h3,h4⟩:=h;unfold fV;rw[h1];simp[j7,ij,h4]
 |non=>rfl
 |bl b=>rfl
 |int b=>rfl
 |str b=>rfl
 |tup b=>rfl
 |frz b=>rfl
theorem xR{d:D}(h:Kn Y d):iH [d] Y=.ok (.bl (isInt d)) Y:=by
 obtain⟨b1,e1,f1⟩:=AF h;obtain⟨b2,e2,f2⟩:=DB h;unfold iH;rw[dN]
 have:(b1 && !b2)=isInt d:=by
  cases d <;> simp[isInt]at f1 f2⊢ <;> simp[f1,f2]
 simp[qJ,e1,e2];cases b1 <;> cases b2 <;> simp at this⊢ <;> rw[<- this] <;> exact bt (by simp)
theorem vp{d:D}{a b:Int}(h:Kn Y d):cw [d,.int a,.int b] Y=.ok (.bl (eZ a b d)) Y:=by
 unfold cw;rw[Cr];simp[jV,xR h]
 cases d <;> simp[isInt,eZ] <;> first
  |exact bt (by simp)
  |skip
 simp[cj];split <;> (rename_i hc;simp[hc];exact bt (by simp))
theorem xS{d:D}(h:Kn Y d):iI [.int m,d] Y=.ok (.bl (eZ 0 (m-1) d)) Y:=by
 unfold iI;rw[dJ];simp[qK,vp h];exact bt (by simp)
theorem z9{d:D}(h:Kn Y d):iC [d] Y=.ok (.bl (eZ 1 6 d)) Y:=by
 unfold iC;rw[dN];simp[sV,vp h];exact bt (by simp)
def qV(m:Int):D->Bool
 |.tup xs=>xs.all (eZ 0 (m-1))
 |_=>false
theorem wd{h:D->Bool}{e:ME}{c:D}(hl:xs.length<=sizeLine)(he:∀x∈xs,∀a,e [some x,some c] (Y++[.lst a])=.ok (.bl (h x)) (Y++[.lst a])):
  compLoop (.fix xs) Y.length (aq 0) cQ e xs [none,some c] (Y++[.lst []])=.ok (.obj Y.length) (Y++[.lst ((xs.map h).map D.bl)]):=by
 have:=lh (src:=.fix xs) (g:=aq 0) (t:=cQ) (e:=e) (Y1:=Y) (q:=fun _=>true) (h:=fun x=>D.bl (h x)) (fun Z=>∃o,Z=[o,some c]) (fun _=>trivial) (xs:=xs) (acc:=[]) (Z:=[none,some c]) ⟨none,rfl⟩ (by simpa using hl)
  (fun x hx a Z ⟨o,ho⟩=>⟨[some x,some c],⟨_,rfl⟩,by subst ho;rfl,rfl,fun _=>he x hx a⟩)
 rw[this,Tq.mpr (fun _ _=>rfl)];simp[Rb,Tr]
theorem qi:1000<=sizeLine:=by decide
theorem z7{d:D}(h:Kn Y d):g9 [.int m,d] Y=.ok (.bl (qV m d)) Y:=by
 unfold g9;rw[dJ];simp[oz,sx h];cases d with
 |tup xs=>
  simp only[ij,Qg,qV];simp;simp only[Kn]at h;rw[wd (h:=eZ 0 (m-1)) (OI (OJ h.1) qi) fun x hx a=>?_]
  ·simp;rw[jM (bs:=xs.map (eZ 0 (m-1))) (by simp)];simp[SK,Tr];exact bD (by simp)
  ·simp[lK];exact xS (tV _ (ph.mp h.2 x hx))
 |non=>simp[ij,qV];exact bt (by simp)
 |bl b=>simp[ij,qV];exact bt (by simp)
 |int b=>simp[ij,qV];exact bt (by simp)
 |str b=>simp[ij,qV];exact bt (by simp)
 |frz b=>simp[ij,qV];exact bt (by simp)
 |obj b=>simp[ij,qV];exact bt (by simp)
def mH(m:Int)(d:D):Bool:=qV m d&&(match d with
 |.tup [.int a,.int b]=>a != b
 |_=>false)
def mz(m:Int)(d:D):Bool:=qV m d&&(match d with
 |.tup [.int a,.int b]=>decide (a<b)
 |_=>false)
theorem C7(h:qV m (.tup xs)=true):∃ns:List Int,xs=ns.map D.int/\∀n∈ns,0<=n/\n<=m-1:=by
 simp only[qV]at h
 induction xs with
 |nil=>exact⟨[],rfl,by simp⟩
 |cons x r ih=>
  rw[Qu,Qn]at h;obtain⟨ns,e,f⟩:=ih h.2;cases x with
  |int i=>
   simp[eZ]at h;exact⟨i::ns,by rw[e];rfl,fun n hn=>(OO.mp hn).elim (fun z=>by rw[z];exact h.1) (f n)⟩
  |non=>simp[eZ]at h
  |bl b=>simp[eZ]at h
  |str b=>simp[eZ]at h
  |tup b=>simp[eZ]at h
  |frz b=>simp[eZ]at h
  |obj b=>simp[eZ]at h
theorem z8{d:D}(h:Kn Y d):js [.int m,d] Y=.ok (.bl (mH m d)) Y:=by
 unfold js;rw[dJ];simp[sU,z7 h];cases hp:qV m d with
 |false=>simp[mH,hp];exact bt (by simp)
 |true=>
  cases d with
  |tup xs=>
   obtain⟨ns,rfl,_⟩:=C7 hp;simp
   match ns with
   |[]=>simp[mH];exact bt (by simp)
   |[a]=>simp[mH];exact bt (by simp)
   |[a,b]=>
    simp only[QJ,Rf,Qp,Qo];simp[kj (r9),kj (vc),mH,hp];simp at hp;rw[hp];simp[bne];exact bt (by simp)
   |a::b::c::r=>
    have:((r.length:Int)+1+1+1 == 2)=false:=by simp;omega
    simp[this,mH];exact bt (by simp)
  |non=>simp[qV]at hp
  |bl b=>simp[qV]at hp
  |int b=>simp[qV]at hp
  |str b=>simp[qV]at hp
  |frz b=>simp[qV]at hp
  |obj b=>simp[qV]at hp
theorem CL{d:D}(h:Kn Y d):kx [.int m,d] Y=.ok (.bl (mz m d)) Y:=by
 unfold kx;rw[dJ];simp[wm,z8 h];cases hp:mH m d with
 |false=>
  have:mz m d=false:=by
   unfold mH at hp;unfold mz;cases hq:qV m d with
   |false=>rfl
   |true=>
    rw[hq]at hp;simp only[Tg]at hp⊢;split at hp
    ·simp at hp⊢;omega
    ·rfl
  simp[this];exact bt (by simp)
 |true=>
  unfold mH at hp;rw[Qn]at hp;obtain⟨hp1,hp2⟩:=hp;split at hp2
  ·rename_i a b;simp[kj (r9),kj (vc),mz,hp1,cj];exact bt (by simp)
  ·cases hp2
theorem CF{d:D}(h:mz m d=true):∃a b:Int,d=aG [a,b]/\0<=a/\a<b/\b<=m-1:=by
 unfold mz at h;rw[Qn]at h;obtain⟨h1,h2⟩:=h;split at h2
 ·rename_i a b;simp[qV,eZ]at h1;simp at h2;exact⟨a,b,rfl,by omega,h2,by omega⟩
 ·cases h2
def jh(k k':List Int):Bool:=match k,k' with
 |[a,b],[c,d]=>decide (a<c) || (decide (a=c)&&decide (b<d))
 |_,_=>false
theorem wW{a b c d:Int}:eV .Lt (aG [a,b]) (aG [c,d]) Y=.ok (.bl (jh [a,b] [c,d])) Y:=by
 have e:eV .Lt (aG [a,b]) (aG [c,d]) Y=(match cmpPs .Lt [.int a,.int b] [.int c,.int d] with|some k=>.ok (.bl k) Y|none=>.bad):=rfl;rw[e];simp only[cmpPs,hV,PyData.eqv,jh];by_cases h1:a=c
 ·subst h1;by_cases h2:b=d
  ·subst h2;simp[cj]
  ·simp[h2,cj]
 ·simp[h1,cj]
def oa(k:List Int):Prop:=∃a b,k=[a,b]
def lW(ks:List (List Int)):Bool:=(List.range (ks.length-1)).all fun i=>jh (ks.getD i []) (ks.getD (i+1) [])
theorem l6{lo:Int}:dF lo n=(List.range n).map fun(i:Nat)=>D.int (lo+(i:Int)):=rfl
theorem Gv:lJ=av (eV .Lt) (av cx (ah 1) (av lR (ah 0) (cC (.int 1)))) (av cx (ah 1) (ah 0)):=rfl
theorem Ag(hk:∀k∈ks,oa k)(a:List D)(i:Nat)(hi:i<ks.length-1):
  (av (eV .Lt) (av cx (ah 1) (av lR (ah 0) (cC (.int 1)))) (av cx (ah 1) (ah 0))) [some (.int (1+(i:Int))),some (.tup (ks.map aG))] (Y++[.lst a])=.ok (.bl (jh (ks.getD i []) (ks.getD (i+1) []))) (Y++[.lst a]):=by
 have h1:i<ks.length:=by omega
 have h2:i+1<ks.length:=by omega
 obtain⟨x,y,e1⟩:=hk ks[i] (Sj h1);obtain⟨u,v,e2⟩:=hk ks[i+1] (Sj h2)
 have g1:atI (ks.map aG) (1+(i:Int)-1)=some (aG [x,y]):=by
  rw[show (1+(i:Int)-1)=((i:Nat):Int) by omega];exact pF (by rw[PU,Sk h1,e1];rfl)
 have g2:atI (ks.map aG) (1+(i:Int))=some (aG [u,v]):=by
  rw[show (1+(i:Int))=((i+1:Nat):Int) by omega];exact pF (by rw[PU,Sk h2,e2];rfl)
 have k1:ks.getD i []=[x,y]:=by rw[R8,Sk h1,e1];rfl
 have k2:ks.getD (i+1) []=[u,v]:=by rw[R8,Sk h2,e2];rfl
 rw[k1,k2];simp only[aK,ak,ai,bb,aa,G6];rw[kj g1];simp only[aa];rw[kj g2];simp only[aa];exact wW
theorem x8(hk:∀k∈ks,oa k)(hl:ks.length<1000):
  compLoop (oF.fix (dF 1 (ks.length-1))) Y.length (aq 0) cQ (av (eV CmpOp.Lt) (av cx (ah 1) (av lR (ah 0) (cC (D.int 1)))) (av cx (ah 1) (ah 0))) (dF 1 (ks.length-1)) [none,some (D.tup (List.map aG ks))] (Y++[O.lst []]) =
   .ok (.obj Y.length) (Y++[.lst (((List.range (ks.length-1)).map fun i=>jh (ks.getD i []) (ks.getD (i+1) [])).map D.bl)]):=by
 have:=lh (src:=.fix (dF 1 (ks.length-1))) (g:=aq 0) (t:=cQ) (e:=av (eV .Lt) (av cx (ah 1) (av lR (ah 0) (cC (.int 1)))) (av cx (ah 1) (ah 0))) (Y1:=Y) (q:=fun _=>true)
  (h:=fun d=>match d with | .int j=>.bl (jh (ks.getD (j-1).toNat []) (ks.getD ((j-1).toNat+1) []))|_=>.non) (fun Z=>∃o,Z=[o,some (.tup (ks.map aG))]) (fun _=>trivial) (xs:=dF 1 (ks.length-1)) (acc:=[]) (Z:=[none,some (.tup (ks.map aG))]) ⟨none,rfl⟩
  (by rw[l6,PZ,Re,Rf];exact OI (by omega) qi)
  (fun x hx a Z ⟨o, ho⟩ => by
   rw[l6]at hx;obtain⟨i,hi,rfl⟩:=Rk.mp hx;refine⟨[some (.int (1+(i:Int))),some (.tup (ks.map aG))],⟨_,rfl⟩,by subst ho;rfl,rfl,fun _=>?_⟩;rw[Ag hk a i (by simpa using hi)];dsimp only
   rw[show (1+(i:Int)-1).toNat=i by omega])
 rw[this,Tq.mpr (fun _ _=>rfl),l6,Rb,QE,Rb];congr 4;apply Rc;intro i _;show D.bl (jh (ks.getD (1+(i:Int)-1).toNat []) (ks.getD ((1+(i:Int)-1).toNat+1) []))=_;rw[show (1+(i:Int)-1).toNat=i by omega];rfl
theorem wt(hk:∀k∈ks,oa k)(hl:ks.length<1000):g7 [.tup (ks.map aG)] Y=.ok (.bl (lW ks)) Y:=by
 unfold g7;rw[dN];simp only[oy,aY,aE,ao,eF,jL,bb,az,aa,ai,pC,PZ];rw[zv (by omega) (by omega) (by omega) (by omega)];have hn:((ks.length:Int)-1).toNat=ks.length-1:=by omega
 simp only[aa,cq,hn];rw[show jY [none,some 0] (some (D.tup (List.map aG ks))::List.replicate (1-1) none)=[none,some (D.tup (List.map aG ks))] from rfl];rw[Gv,x8 hk hl];simp only[aa];rw[jM aF];simp only[ae,aR];rw[bD (by simp)];simp[lW,SK,Tr]
def Bw:D->List Int
 |.tup [.int a,.int b]=>[a,b]
 |_=>[]
def lE(m:Int)(d:D):Bool:=match d with
 |.tup ts=>ts.all (mz m)&&lW (ts.map Bw)
 |_=>false
theorem DT{ts:List D}(h:ts.all (mz m)=true):∃ks:List (List Int),ts=ks.map aG/\ts.map Bw=ks/\∀k∈ks,∃a b:Int,k=[a,b]/\0<=a/\a<b/\b<=m-1:=by
 induction ts with
 |nil=>exact⟨[],rfl,rfl,by simp⟩
 |cons x r ih=>
  rw[Qu,Qn]at h;obtain⟨ks,e1,e2,e3⟩:=ih h.2;obtain⟨a,b,rfl,h1,h2,h3⟩:=CF h.1;refine⟨[a,b]::ks,by rw[e1];rfl,by rw[Qp,e2];rfl,fun k hk=>?_⟩;rcases OO.mp hk with z|z
  ·exact⟨a,b,z,h1,h2,h3⟩
  ·exact e3 k z
theorem zZ{d:D}(h:Kn Y d):iB [.int m,d] Y=.ok (.bl (lE m d)) Y:=by
 unfold iB;rw[dJ];simp[sT,sx h];cases d with
 |tup ts=>
  simp only[ij,Qg,lE];simp only[Kn]at h;rw[mL];simp only[aa,cq];rw[wd (h:=mz m) (OI (OJ h.1) qi) fun x hx a=>?_]
  ·simp only [aa];rw[jM aF];simp only[aa,a8];cases ha:ts.all (mz m) with
   |false=>
    have:((ts.map (mz m)).all id)=false:=by rw[SK];simpa[Tr] using ha
    rw[this];simp;exact bD (by simp)
   |true=>
    have:((ts.map (mz m)).all id)=true:=by rw[SK];simpa[Tr] using ha
    rw[this];obtain⟨ks,e1,e2,e3⟩:=DT ha;simp only[Qg,Tg];rw[e2,e1,wt (fun k hk=>let ⟨a,b,e,_⟩:=e3 k hk;⟨a,b,e⟩) (by rw[e1]at h;simpa using h.1)];simp;exact bD (by simp)
  ·simp[ou];exact CL (tV _ (ph.mp h.2 x hx))
 |non=>simp[ij,lE];exact bt (by simp)
 |bl b=>simp[ij,lE];exact bt (by simp)
 |int b=>simp[ij,lE];exact bt (by simp)
 |str b=>simp[ij,lE];exact bt (by simp)
 |frz b=>simp[ij,lE];exact bt (by simp)
 |obj b=>simp[ij,lE];exact bt (by simp)
theorem Hc(a b:Str):(a++b).cps.toList=a.cps.toList++b.cps.toList:=W.KT.app_list a b
theorem GM{a b:Str}(h:a.cps.toList=b.cps.toList):a=b:=by
 cases a;cases b;simp at h;congr
theorem G7{c:Nat}:∀{a b s t:List Nat},c∉a->c∉b->a++c::s=b++c::t->a=b/\s=t
 |[],[],_,_,_,_,h=>⟨rfl,by simpa using h⟩
 |[],y::b,_,_,_,hb,h=>by simp at h;exact absurd h.1.symm (fun z=>hb (by simp[z]))
 |x::a,[],_,_,ha,_,h=>by simp at h;exact absurd h.1 (fun z=>ha (by simp[z]))
 |x::a,y::b,s,t,ha,hb,h=>by
  simp at h;obtain⟨e1,e2⟩:=G7 (c:=c) (fun z=>ha (by simp[z])) (fun z=>hb (by simp[z])) h.2;exact⟨by rw[h.1,e1],e2⟩
theorem By{c:Nat}(x y:Str)(r:List Str):(Str.join ⟨#[c]⟩ (x::y::r)).cps.toList=x.cps.toList++c::(Str.join ⟨#[c]⟩ (y::r)).cps.toList:=by
 show ((x++⟨#[c]⟩)++Str.join ⟨#[c]⟩ (y::r)).cps.toList=_;rw[Hc,Hc];simp
theorem Dx{c:Nat}:∀{as bs:List Str},as≠[]->bs≠[]->(∀p∈as,c∉p.cps.toList)->(∀p∈bs,c∉p.cps.toList)->Str.join ⟨#[c]⟩ as=Str.join ⟨#[c]⟩ bs->as=bs:=by
 intro as
 induction as with
 |nil=>intro bs h;exact absurd rfl h
 |cons x r ih=>
  intro bs _ hb h1 h2 e;cases bs with
  |nil=>exact absurd rfl hb
  |cons y q=>
   cases r with
   |nil=>
    cases q with
    |nil=>have e':x=y:=e;rw[e']
    |cons y2 q=>
     have e':=O0 (fun s:Str=>s.cps.toList) e;simp only[By]at e';exact absurd (show c∈x.cps.toList by rw[show x.cps.toList=_ from e'];simp) (h1 x (by simp))
   |cons x2 r=>
    cases q with
    |nil=>
     have e':=O0 (fun s:Str=>s.cps.toList) e;simp only[By]at e';exact absurd (show c∈y.cps.toList by rw[show y.cps.toList=_ from e'.symm];simp) (h2 y (by simp))
    |cons y2 q=>
     have e':=O0 (fun s:Str=>s.cps.toList) e;simp only[By]at e';obtain⟨e1,e2⟩:=G7 (h1 x (by simp)) (h2 y (by simp)) e';rw[GM e1,ih (by simp) (by simp) (fun p hp=>h1 p (by simp[hp])) (fun p hp=>h2 p (by simp[hp])) (GM e2)]
theorem nl:("\n" : Str)=⟨#[10]⟩:=by decide +kernel
theorem xQ(hn:rows≠[])(h:∀p∈rows,10∉p.cps.toList):Txt.split (Txt.join "\n" rows) "\n" = rows:=by
 rw[nl];refine Dx (c:=10) (fun z=>?_) hn (StrLaws.split_free _ 10) h ?_
 ·have:=Ts (Txt.join ⟨#[10]⟩ rows) ⟨#[10]⟩;have l:=PyProof.Rows.split_pos (Txt.join ⟨#[10]⟩ rows) ⟨#[10]⟩;rw[z]at l;simp at l
 ·rw[Ts];exact Tt _ _
def nT(i:Int):Str:=(toString i:String)
def jz (w:Str) (a b:Int):Str:=w++nT a ++ " " ++ nT b
def zH:Str:="0123456789"
def cg (x:Str):Bool:=decide (1<=x.length)&&decide (x.length<=20)&&(x.cps.toList.all fun c=>!(Builtin.Str.occurrences zH ⟨#[c]⟩ 0 zH.length 1).isEmpty)&&(decide (x = "0") || !decide (x.cps.toList.head?=some 48))
def n4 (w ws:Str) (a b:Int):Bool:=decide (Txt.split (jz ws a b) " " = [w,nT a,nT b])&&cg (nT a)&&cg (nT b)&&decide (PySem.intText? (nT a)=some a)&&decide (PySem.intText? (nT b)=some b)&&decide ((jz ws a b).length<=30)&&decide (10∉(jz ws a b).cps.toList)&&decide (w ≠ "")
theorem HQ:∀a<6,∀b<6,n4 "tie" "tie " (a:Nat) (b:Nat)=true:=by decide +kernel
theorem HG:∀a<7,∀b<16,n4 "web" "web " (a:Nat) (b:Nat)=true:=by decide +kernel
theorem Po:j8 neg (.str x) (.str y) Y=.ok (.bl (if neg then !decide (x=y) else decide (x=y))) Y:=Sw (_root_.eq_self _)
def D1(c:Nat):Bool:=!(Builtin.Str.occurrences zH ⟨#[c]⟩ 0 zH.length 1).isEmpty
theorem Dm(hx:x.length<=1000):compLoop (.fix (dr x)) Y.length (aq 0) cQ jc (dr x) [none] (Y++[.lst []])=.ok (.obj Y.length) (Y++[.lst ((x.cps.toList.map D1).map D.bl)]):=by
 have cc:=d7 (U:=Nat) (en:=fun c=>D.str ⟨#[c]⟩) (src:=.fix (dr x)) (g:=aq 0) (t:=cQ) (e:=jc) (Y1:=Y) (q:=fun _=>true) (h:=fun c=>D.bl (D1 c)) (fun Z=>∃o,Z=[o]) (fun _=>trivial) (us:=x.cps.toList) (acc:=[]) (Z:=[none]) ⟨_,rfl⟩
  (by
   have:x.cps.toList.length<=1000:=by simpa[Str.length] using hx
   rw[Rf]
   exact OI (by omega) cR)
  (fun c hc a Z ⟨o,ho⟩=>⟨[some (.str ⟨#[c]⟩)],⟨_,rfl⟩,by subst ho;rfl,rfl,fun _=>rfl⟩)
 rw[Tq.mpr (fun _ _=>rfl),QE]at cc;rw[Rb];exact cc
theorem vm{e:ME}{h:Str->D}(hn:M[n]?=some (.lst [.str x,.str y]))(he:∀z a,z=x\/z=y->e [some (.str z)] (M++[.lst a])=.ok (h z) (M++[.lst a])):
  compLoop (.own n [.str x,.str y]) M.length (aq 0) cQ e [.str x,.str y] [none] (M++[.lst []])=.ok (.obj M.length) (M++[.lst [h x,h y]]):=by
 have cc:=d7 (U:=Str) (en:=D.str) (src:=.own n [.str x,.str y]) (g:=aq 0) (t:=cQ) (e:=e) (Y1:=M) (q:=fun _=>true) (h:=h) (fun Z=>∃o,Z=[o]) (fun _=>aS hn) (us:=[x,y]) (acc:=[]) (Z:=[none]) ⟨_,rfl⟩
  (by show 0+2<=sizeLine;decide)
  (fun z hz a Z ⟨o,ho⟩=>⟨[some (.str z)],⟨_,rfl⟩,by subst ho;rfl,rfl,fun _=>he z a (by simpa using hz)⟩)
 rw[Tq.mpr (fun _ _=>rfl),QE]at cc;exact cc
theorem BV{w:Str}(hn:M[n]?=some (.lst [.str w,.str x,.str y])):rO (.obj n) (some 1) none M=.ok (.obj M.length) (M++[.lst [.str x,.str y]]):=by
 unfold rO;dsimp only;rw[hn];rfl
theorem Pr(h:x.length+y.length<=1000):bo (.str x) (.str y) Y=.ok (.str (x++y)) Y:=by
 unfold bo;dsimp only;rw[OA (OI h cR)]
theorem Oj{i:Int}(h0:0<=i)(h:i<=15):i.natAbs.log2<1920:=by
 have:=(by decide:∀n<16,Nat.log2 n<1920) i.natAbs (by omega);exact this
theorem str_int{i:Int}(h0:0<=i)(h:i<=15):rk [.int i] Y=.ok (.str (nT i)) Y:=by
 unfold rk;dsimp only;rw[OA (Oj h0 h)];rfl
theorem E9 {ws:Str}{a b:Int}:(jz ws a b).length=ws.length+(nT a).length+(" " : Str).length+(nT b).length:=by
 unfold jz;rw[Tu,Tu,Tu]
theorem Cp{ws:Str}{a b:Int}{fa fb:MA}(ea:fa Z Y=.ok [.int a] Y)(eb:fb Z Y=.ok [.int b] Y)(a0:0<=a)(a1:a<=15)(b0:0<=b)(b1:b<=15)(h:(jz ws a b).length<=30):
  av bo (av bo (av bo (cC (.str ws)) (aI rk fa)) (cC (.str " "))) (aI rk fb) Z Y=.ok (.str (jz ws a b)) Y:=by
 have hl:=E9 (ws:=ws) (a:=a) (b:=b);simp only[aK,bb,aE,aa,ag,ea,str_int a0 a1];rw[Pr (by omega)];simp only[aa,ag];rw[Pr (by rw[Tu];omega)];simp only[aa,ag,eb,str_int b0 b1];rw[Pr (by rw[Tu,Tu];omega)];rfl
def Ba (k:List Int):Str:=jz "tie " (k.getD 0 0) (k.getD 1 0)
def fX (m:Nat) (ks:List (List Int)):List Str:=jz "web " m ks.length::ks.map Ba
def jg (m:Nat) (ks:List (List Int)):Str:=Txt.join "\n" (fX m ks)
theorem tK {a b:Int} (a0:0<=a) (a1:a<6) (b0:0<=b) (b1:b<6):n4 "tie" "tie " a b=true:=by
 obtain⟨x,rfl⟩:=Tv a0;obtain⟨y,rfl⟩:=Tv b0;exact HQ x (by omega) y (by omega)
theorem tI{m:Nat}(h:m<=6)(h':n<=15):n4 "web" "web " m n=true:=HG m (by omega) n (by omega)
theorem tF{w ws:Str}{a b:Int}(h:n4 w ws a b=true):(jz ws a b).length<=30/\10∉(jz ws a b).cps.toList:=by
 unfold n4 at h;simp only[Qn,Sy]at h;exact⟨h.1.1.2,h.1.2⟩
section
variable{m:Nat}
theorem za(h:GW m ks):∀x∈fX m ks,x.length<=30/\10∉x.cps.toList:=by
 intro x hx;unfold fX at hx;rcases OO.mp hx with rfl|hx
 ·exact tF (tI h.m6 (d6 h))
 ·obtain⟨k,hk,rfl⟩:=Rk.mp hx;obtain⟨a,b,rfl,h1,h2,h3⟩:=h.2.2.2.2 k hk;have:=h.m6;exact tF (tK (a:=a) (b:=b) h1 (by omega) (by omega) (by omega))
theorem vy(h:GW m ks):(fX m ks).length<=16:=by
 have:=d6 h;unfold fX;simp;omega
theorem HU{l:List Str}(h:∀x∈l,x.length<=30):(l.map (·.length)).sum<=l.length*30:=by
 induction l with
 |nil=>simp
 |cons x r ih=>
  have:=h x (by simp);have:=ih fun y hy=>h y (by simp[hy]);simp only[Qp,Tw,QJ];omega
theorem qq (h:GW m ks):JoinOk "\n" (fX m ks)=true/\(jg m ks).length<=1000:=by
 have h1:=HU (l:=fX m ks) fun x hx=>(za h x hx).1;have h2:=vy h;have n1:("\n" : Str).length=1:=by decide +kernel
 constructor
 ·unfold JoinOk Builtin.Str.tooLong;rw[Tx,n1];simp only[TB,TC];have:1000<=sizeLine:=cR;omega
 ·unfold jg;show (Builtin.Str.glued "\n" (fX m ks)).length<=1000;rw[Tt]
  have e:∀l:List Str,(Str.join "\n" l).length<=(l.map (·.length)).sum+l.length:=by
   intro l
   induction l with
   |nil=>exact QR _
   |cons x r ih=>
    cases r with
    |nil=>show x.length<=_;simp
    |cons y r=>
     have q:Str.join "\n" (x::y::r)=x ++ "\n" ++ Str.join "\n" (y::r):=rfl;rw[q,Tu,Tu,n1];simp only[Qp,Tw,QJ]at ih⊢;omega
  have:=e (fX m ks);omega
theorem oZ:∀(l:List Str),pS (l.map D.str)=some l
 |[]=>rfl
 |x::r=>by simp only[Qp,pS,oZ r,Option.map_some]
theorem F4(h:GW m ks)(hn:M[n]?=some (.lst ((fX m ks).map D.str))):d4 (.str "\n") [.obj n] M=.ok (.str (jg m ks)) M:=by
 unfold d4;dsimp only;rw[hn];dsimp only;rw[oZ];dsimp only;rw[OA ⟨(qq h).1,OI (qq h).2 cR⟩];rfl
theorem zT{e:ME}(h:GW m ks)(he:∀a b c:Int,0<=a->a<6->0<=b->b<6->∀A,e [some (.int a),some (.int b)] (M++[.lst A])=.ok (.str (jz "tie " a b)) (M++[.lst A])):
  compLoop (.fix (ks.map aG)) M.length (fY 2 (bH (aq 0) (bH (aq 1) (fZ)))) cQ e (ks.map aG) [none,none] (M++[.lst []])=.ok (.obj M.length) (M++[.lst ((ks.map Ba).map D.str)]):=by
 have c:=d7 (U:=List Int) (en:=aG) (src:=.fix (ks.map aG)) (g:=fY 2 (bH (aq 0) (bH (aq 1) (fZ)))) (t:=cQ) (e:=e) (Y1:=M) (q:=fun _=>true) (h:=fun k=>.str (Ba k)) (fun Z=>∃o o',Z=[o,o']) (fun _=>trivial) (us:=ks) (acc:=[]) (Z:=[none,none]) ⟨_,_,rfl⟩
  (by rw[Rf];have:=d6 h;exact OI (by omega) cR)
  (fun k hk a Z ⟨o, o', e⟩ => by
   subst e;obtain⟨x,y,rfl,h1,h2,h3⟩:=h.2.2.2.2 k hk;have:=h.m6
   exact⟨[some (.int x),some (.int y)],⟨_,_,rfl⟩,rfl,rfl,fun _=>he x y 0 h1 (by omega) (by omega) (by omega) a⟩)
 rw[Tq.mpr (fun _ _=>rfl),QE]at c;rw[Rb];exact c
theorem EL(h:GW m ks):d9 [i8 m ks] Y=.ok (.str (jg m ks)) Y:=by
 have hl:=d6 h;have m6:=h.m6;let hd:Str:=jz "web " m ks.length
 let M1:aA:=Y++[O.lst [.str hd]]
 let M2:aA:=M1++[O.lst ((ks.map Ba).map D.str)]
 let M3:aA:=M2++[O.lst ((fX m ks).map D.str)]
 have e1:=Cp (ws:="web ") (a:=m) (b:=ks.length) (fa:=af (av cx (ah 0) (cC (.int 0))) aD) (fb:=af (aI d3 (af (av cx (ah 0) (cC (.int 1))) aD)) aD) (Z:=[some (i8 m ks),none]) (Y:=Y)
  rfl (by simp only[ao,aE,az,aK,ai,bb,aa,ag,jK,pC,PZ]) (by omega) (by omega) (by omega) (by omega) (tF (tI m6 hl)).1
 have c1:compLoop (.fix (ks.map aG)) M1.length (fY 2 (bH (aq 0) (bH (aq 1) (fZ)))) cQ eN (ks.map aG) [none,none] (M1++[.lst []])=.ok (.obj M1.length) M2:=
  zT h fun a b _ a0 a1 b0 b1 A=>by
   unfold eN;exact Cp (ws:="tie ") rfl rfl a0 (by omega) b0 (by omega) (tF (tK a0 a1 b0 b1)).1
 have a1:bo (.obj Y.length) (.obj M1.length) M2=.ok (.obj M2.length) M3:=by
  have:=pG (Y:=M2) (a:=Y.length) (b:=M1.length) (xs:=[.str hd]) (ys:=(ks.map Ba).map D.str) (aS aF) aF (by simp;omega);exact this
 unfold d9;rw[dN,show (some (i8 m ks)::List.replicate (2-1) none:Ro)=[some (i8 m ks),none] from rfl];simp only[kG];rw[aJ,aZ,aK,dH,ao,e1];simp only[aa,ag,az,QJ,Rf];rw[OA (OI (by decide:0+1<=1000) cR)];simp only[aa,ag,eF,eE,aK,ai,bb,jK,mL,cq,jl,kY];rw[show compLoop (.fix (ks.map aG)) (Y++[O.lst [.str (jz "web " m ks.length)]]).length (fY 2 (bH (aq 0) (bH (aq 1) (fZ)))) cQ eN (ks.map aG) [none,none] ((Y++[O.lst [.str (jz "web " m ks.length)]])++[.lst []])=.ok (.obj M1.length) M2 from c1];simp only[aa,ag,a1,ae,bx,aw,Td,Te,aY];rw[show hW d4 (cC (.str "\n")) (af (ah 1) aD) [some (i8 m ks),some (.obj M2.length)] M3=d4 (.str "\n") [.obj M2.length] M3 from rfl,F4 h aF];simp only[ae,ag,aR];simp only[M3,M2,M1,Qy];exact bD (by simp)
end
theorem MZ:100000<=sizeLine:=by decide
theorem Mg:zH.cps.toList=[48,49,50,51,52,53,54,55,56,57]:=by decide +kernel
theorem EZ(c:Nat):D1 c=decide (c∈zH.cps.toList):=by
 unfold D1;exact StrLaws.found_one zH c
theorem EY{c:Nat}:D1 c=true↔48<=c/\c<=57:=by
 rw[EZ,Mg,Sy];simp only[OO,Q5,Q6];omega
def j6(x:Str):Int:=(PySem.intText? x).getD 0
theorem tS(h:cg x=true):PySem.intText? x=some (j6 x)/\0<=j6 x/\1<=x.length/\x.length<=20:=by
 unfold cg at h;simp only[Qn,Sy]at h;obtain⟨⟨⟨h1,h2⟩,h3⟩,h4⟩:=h;have hd:NumText.AllDigits x.cps.toList:=fun c hc=>EY.mp (RI.mp h3 c hc)
 have hn:x.cps.toList≠[]:=fun z=>by
  have:x.cps.toList.length=x.length:=by simp[Str.length]
  rw[z]at this;simp at this;omega
 have e:=intText_digits hd hn (by omega);refine⟨by unfold j6;rw[e];rfl,by unfold j6;rw[e];exact Int.natCast_nonneg _,h1,h2⟩
theorem kv(h:x.length<=100000):d3 [.str x] Y=.ok (.int x.length) Y:=by
 unfold d3 u5;dsimp only;rw[OA (OI h MZ)]
theorem zq(h:1<=x.length):∃c r,x.cps.toList=c::r:=by
 cases z:x.cps.toList with
 | nil => exfalso; have : x.cps.toList.length = x.length := by simp [Str.length]
          rw[z]at this;simp at this;omega
 |cons c r=>exact⟨c,r,rfl⟩
theorem K2{c:Nat}{r:List Nat}(hc:x.cps.toList=c::r)(h:x.length<=100000):xr (.str x) (.int 0) M=.ok (.str ⟨#[c]⟩) M:=by
 unfold xr;dsimp only;rw[hc];rw[show atI (c::r) 0=some c from by unfold atI;rw[show uK (c::r).length 0=some 0 from jD (by decide) (by simp)];rfl];dsimp only;rw[OA (OI h MZ)]
theorem N5 {c:Nat}:decide ((⟨#[c]⟩:Str)=("0" : Str))=decide (c=48):=by
 rw[show ("0" : Str)=⟨#[48]⟩ from by decide +kernel];by_cases e:c=48
 ·subst e;simp
 ·rw[Ow e,Ow];intro z;apply e;simpa using z
theorem BS(hx:x.length<=100000):hG [.str x] Y=.ok (.bl (cg x)) Y:=by
 unfold hG;rw[dN,show (some (D.str x)::List.replicate (1-1) none:Ro)=[some (D.str x)] from rfl];simp only[oA];rw[aJ,bE];simp only[gf,fA,b8,DH,bb,aE,ao,az,ai,aa,kv hx,cW,a8];by_cases h1:1<=x.length
 ·rw [show cj .LtE 1 (x.length : Int) = true from QF (by omega)];by_cases h2:x.length<=20
  ·rw [show cj .LtE (x.length : Int) 20 = true from QF (by omega)];simp only[Qg,aa,cW,a8,RJ,QI,Qf,gb,aE,ao,az,eF];rw[show Bg (ah 0) [some (D.str x)] Y=.ok (.fix (dr x)) Y from rfl];simp only[aa,cq,jl,kY];rw[Dm (OI h2 (by decide))];simp only[aa];rw[jM aF];cases h3:(x.cps.toList.map D1).all id with
   |false=>
    simp only[aa,cN,RN,ae,Qg,aY,bb,aR,bN];rw[bD (by simp)];unfold cg;rw[show (x.cps.toList.all fun c=>!(Builtin.Str.occurrences zH ⟨#[c]⟩ 0 zH.length 1).isEmpty)=false from by rw[SK]at h3;exact h3];simp
   |true=>
    simp only[aa,cN,RJ,ae,QI,Qf,bw,aw,aY,Kc,aK,ai,bb,Po,a8]
    have e4:cg x=(decide (x = "0") || !decide (x.cps.toList.head?=some 48)):=by
     unfold cg;rw[show (x.cps.toList.all fun c=>!(Builtin.Str.occurrences zH ⟨#[c]⟩ 0 zH.length 1).isEmpty)=true from by rw[SK]at h3;exact h3];simp[h1,h2]
    rw[e4];by_cases e:x = "0"
    ·subst e;rw[show decide ((("0" : Str))=("0" : Str))=true from QF rfl];simp only[Qg,ae,aR,Bool.true_or];exact bD (by simp)
    ·rw[show decide (x=("0" : Str))=false from Ow e];obtain⟨c,r,hc⟩:=zq h1;simp only[QI,Qf,K2 hc hx,aa,Po,Qg,ae,aR,N5,Bool.false_or,hc,List.head?_cons,RG];exact bD (by simp)
  ·rw[show cj .LtE (x.length:Int) 20=false from Ow (by omega)];simp only[Qg,aa,cW,a8,RN,ae,aY,bb,aR,bN];rw[bt (by simp)];unfold cg;simp[h2]
 ·rw[show cj .LtE 1 (x.length:Int)=false from Ow (by omega)];simp only[QI,Qf,aa,cW,a8,RN,ae,Qg,aY,bb,aR,bN];rw[bt (by simp)];unfold cg;simp[h1]
theorem zo{c:Nat}:∀{l:List Str}{p:Str},p∈l->p.length<=(Str.join ⟨#[c]⟩ l).length
 |[x],p,h=>by simp at h;subst h;exact Pf _
 |x::y::r,p,h=>by
  have e:(Str.join ⟨#[c]⟩ (x::y::r)).length=x.length+1+(Str.join ⟨#[c]⟩ (y::r)).length:=by
   show ((x++⟨#[c]⟩)++Str.join ⟨#[c]⟩ (y::r)).length=_;rw[Tu,Tu];rfl
  rcases OO.mp h with rfl|h
  ·omega
  ·have:=zo (c:=c) h;omega
theorem kO{p:Str}{c:Nat}(h:p∈Txt.split x ⟨#[c]⟩):p.length<=x.length:=by
 have:=zo (c:=c) h
 rwa [Ts x ⟨#[c]⟩]at this
theorem D0:(" " : Str)=⟨#[32]⟩:=by decide +kernel
theorem kq{c:Nat}(h:x.length<=100000):cy (.str x) [.str ⟨#[c]⟩] Y=.ok (.obj Y.length) (Y++[.lst ((Txt.split x ⟨#[c]⟩).map D.str)]):=by
 unfold cy;dsimp only;have:=PyProof.Rows.split_le x ⟨#[c]⟩;have e:sizeLine=16777216:=by decide
 rw[OA ⟨rfl,by omega,by omega⟩]
def eX (w row:Str):Option (Int×Int):=match Txt.split row " " with
 |[a,b,c]=>if a=w/\cg b=true/\cg c=true then some (j6 b,j6 c) else none
 |_=>none
def pD:Option (Int×Int)->D
 |none=>.non
 |some (a,b)=>.tup [.int a,.int b]
theorem JN(h:ws.length≠3):(!(((ws.map D.str).length:Int) == 2+1))=true:=by
 have:¬ ((ws.map D.str).length:Int)=3:=by rw[PZ];omega
 simpa using this
theorem GZ {w row:Str} (h:(Txt.split row " ").length≠3):eX w row=none:=by
 unfold eX;split
 ·rename_i h';rw[h']at h;exact absurd rfl h
 ·rfl
theorem GI(h:ws.length=3):∃a b c,ws=[a,b,c]:=by
 match ws,h with
 |[a,b,c],_=>exact⟨a,b,c,rfl⟩
theorem tG{z:Str}(h:cg z=true):rZ [.str z] M=.ok (.int (j6 z)) M:=by
 obtain⟨h1,h2,h3,h4⟩:=tS h;unfold rZ;dsimp only;rw[h1];dsimp only;rw[OA (by omega)]
theorem GO{w row:Str}(h:row.length<=100000):cF [.str w,.int 2,.str row] Y=.ok (pD (eX w row)) Y:=by
 let M1:aA:=Y++[O.lst ((Txt.split row " ").map D.str)]
 have g1:M1[Y.length]?=some (.lst ((Txt.split row " ").map D.str)):=aF
 have s0:cy (.str row) [.str " "] Y=.ok (.obj Y.length) M1:=by
  have:=kq (c:=32) (Y:=Y) h;rw[<- D0]at this;exact this
 unfold cF;rw[Cr,show (some (D.str w)::some (D.int 2)::some (D.str row)::List.replicate (4-3) none:Ro)=[some (D.str w),some (.int 2),some (.str row),none] from rfl];simp only[ju];rw[aJ,aZ];rw[show hW cy (ah 2) (af (cC (D.str " ")) aD) [some (D.str w),some (.int 2),some (.str row),none] Y=.ok (.obj Y.length) M1 from s0];simp only[ae,bx,aw,Td,Te];rw[aJ,bE];simp only[gf,fA,b8,aK,bb,aE,ao,az,ai,ak,aa,gk g1,cS,d5,a8,Qg];by_cases hl:(Txt.split row " ").length=3
 ·obtain ⟨a, b, c, hw⟩ := GI hl;have hb:b.length<=100000:=OI (kO (c:=32) (x:=row) (by rw[<- D0,hw];simp)) h;have hc:c.length<=100000:=OI (kO (c:=32) (x:=row) (by rw[<- D0,hw];simp)) h;rw[hw]at g1;let M2:aA:=M1++[O.lst [.str b,.str c]]
  let M3:aA:=M2++[O.lst [.bl (cg b),.bl (cg c)]]
  let M4:aA:=M3++[O.lst [.str b,.str c]]
  have i0:cx (.obj Y.length) (.int 0) M1=.ok (.str a) M1:=fH g1 rfl;have s1:rO (.obj Y.length) (some 1) none M1=.ok (.obj M1.length) M2:=BV g1;have s2:rO (.obj Y.length) (some 1) none M3=.ok (.obj M3.length) M4:=BV (aS (aS g1))
  have c1:compLoop (.own M1.length [.str b,.str c]) M2.length (aq 0) cQ fL [.str b,.str c] [none] (M2++[O.lst []])=.ok (.obj M2.length) M3:=
   vm (h:=fun z=>.bl (cg z)) aF fun z q hz=>by
    unfold fL;simp only[aE,ao,az,ai,aa];rcases hz with rfl|rfl
    ·exact BS hb
    ·exact BS hc
  rw[hw,show (!((([a,b,c]:List Str).map D.str).length:Int) == 2+1)=false from rfl];simp only[QI,Qf,i0,aa,Po,Qg,a8];have pe:eX w row=if a=w/\cg b=true/\cg c=true then some (j6 b,j6 c) else none:=by unfold eX;rw[hw]
  rw[pe];by_cases ea:a=w
  ·rw [QF ea];simp only[RJ,QI,Qf,gb,aE,ao,az,eF,eE,lF,dc,h7,gh,bb,ak,ai,s1,aa,iW (show M2[M1.length]?=some (.lst [.str b,.str c]) from aF),fO,jl,kY,c1];rw[jM (bs:=[cg b,cg c]) (show M3[M2.length]?=_ from aF)];cases h2:cg b with
   |false=>
    simp only[aa,cN,Qu,TF,id,Pd,RN,ae,Qg,aY,bb,bN,aR];simp only[M3,M2,M1,Qy];rw[OB (fun z=>absurd z.2.1 (by simp))];exact bD (by simp[pD])
   |true=>
    cases h3:cg c with
    |false=>
     simp only[aa,cN,Qu,TF,id,Pd,Bool.and_false,RN,ae,Qg,aY,bb,bN,aR];simp only[M3,M2,M1,Qy];rw[OB (fun z=>absurd z.2.2 (by simp))];exact bD (by simp[pD])
    |true=>
     have c2:compLoop (.own M3.length [.str b,.str c]) M4.length (aq 0) cQ fK [.str b,.str c] [none] (M4++[O.lst []])=.ok (.obj M4.length) (M4++[O.lst [.int (j6 b),.int (j6 c)]]):=
      vm (h:=fun z=>.int (j6 z)) aF fun z q hz=>by
       unfold fK;simp only[aE,ao,az,ai,aa];rcases hz with rfl|rfl
       ·exact tG h2
       ·exact tG h3
     simp only[aa,cN,Qu,TF,id,Bool.and_self,RJ,ae,QI,Qf,bw,aw,aY,aE,ao,az,eF,eE,lF,ai,ak,bb,dc,h7,gh,s2,iW (show M4[M3.length]?=some (.lst [.str b,.str c]) from aF),fO,jl,kY,c2];rw[tW (show (M4++[O.lst [.int (j6 b),.int (j6 c)]])[M4.length]?=_ from aF)];simp only[ae,aR];simp only[M4,M3,M2,M1,Qy];rw[OA (by simpa using ea)];exact bD (by simp[pD])
  ·rw[Ow ea];simp only[RN,aa,ae,Qg,aY,bb,bN,aR];rw[OB (fun z=>ea z.1)];exact bD (by simp[pD])
 ·rw[JN hl];simp only[Qg,ae,aY,bb,bN,aR];rw[GZ hl];exact bD (by simp[pD])
def xt(x:Str):List Nat:=x.cps.toList.filter fun c=>!D1 c
theorem CB(hx:x.length<=100000):compLoop (.fix (dr x)) Y.length (aq 0) iK iL (dr x) [none] (Y++[.lst []])=.ok (.obj Y.length) (Y++[.lst ((xt x).map fun c=>D.str ⟨#[c]⟩)]):=by
 have cc:=d7 (U:=Nat) (en:=fun c=>D.str ⟨#[c]⟩) (src:=.fix (dr x)) (g:=aq 0) (t:=iK) (e:=iL) (Y1:=Y) (q:=fun c=>!D1 c) (h:=fun c=>D.str ⟨#[c]⟩) (fun Z=>∃o,Z=[o]) (fun _=>trivial) (us:=x.cps.toList) (acc:=[]) (Z:=[none]) ⟨_,rfl⟩
  (by
   have:x.cps.toList.length<=100000:=by simpa[Str.length] using hx
   rw[Rf]
   exact OI (by omega) MZ)
  (fun c hc a Z ⟨o,ho⟩=>⟨[some (.str ⟨#[c]⟩)],⟨_,rfl⟩,by subst ho;rfl,rfl,fun _=>rfl⟩)
 rw[QE]at cc;exact cc
theorem Gs:(x.cps.toList.all fun c=>!(Builtin.Str.occurrences zH ⟨#[c]⟩ 0 zH.length 1).isEmpty)=(xt x).isEmpty:=by
 show x.cps.toList.all D1=_;unfold xt
 induction x.cps.toList with
 |nil=>rfl
 |cons c r ih=>
  rw[Qu,SN];cases h:D1 c with
  |true=>simp[ih]
  |false=>simp
theorem NF{m:Nat}(h:M[m]?=some (.lst xs))(h':M[n]?=some (.lst [])):Bh (.obj m) (.obj n) M=.ok (.bl (!xs.isEmpty)) M:=by
 unfold Bh;dsimp only;rw[h,h']
theorem vq(hx:x.length<=20):eG [.str x] Y=.ok (if cg x=true then .int (j6 x) else .non) Y:=by
 have h5:x.length<=100000:=by omega
 unfold eG;rw[dN,show (some (D.str x)::List.replicate (1-1) none:Ro)=[some (D.str x)] from rfl];simp only[m5];rw[aJ,bE];simp only[gf,b8,gU,aE,ao,az,ai,aa,kv h5];rw[show pX 1 61 (.int x.length) Y=.ok (.bl (!decide ((1:Int)<=x.length/\(x.length:Int)<61))) Y from rfl];simp only[aa,a8];by_cases h1:1<=x.length
 ·rw [show decide ((1 : Int) <= x.length /\ (x.length : Int) < 61) = true from QF (by omega)];simp only[RJ,QI,Qf,aK,eF];rw[show Bg (ah 0) [some (D.str x)] Y=.ok (.fix (dr x)) Y from rfl];simp only[aa,cq,jl,kY,CB h5,dH,az,Rf,QR,Qg];rw[NF (M:=(Y++[O.lst ((xt x).map fun c=>D.str ⟨#[c]⟩)])++[O.lst []]) (xs:=(xt x).map fun c=>D.str ⟨#[c]⟩) (aS aF) aF]
  have e0:cg x=((xt x).isEmpty&&(decide (x = "0") || !decide (x.cps.toList.head?=some 48))):=by
   unfold cg;rw[Gs];simp[h1,hx]
  simp only[aa,a8,List.isEmpty_map];cases hb:(xt x).isEmpty with
  |false=>
   simp only[RN,ae,Qg,aY,bb,bN,aR];rw[e0,hb];simp only[Pd,QI,Qf,Qy];exact bD (by simp)
  |true=>
   obtain⟨c,r,hc⟩:=zq h1;simp only[RJ,ae,QI,Qf,bw,aw];rw[aJ,bE];simp only[tX,b8,aK,ai,bb,aa,K2 hc h5,Po,Qg,QI,Qf,N5,a8];rw[e0,hb,hc];simp only[List.head?_cons,RG,Tg];by_cases e:x = "0"
   ·have hc':c=48:=by
     subst e;rw[show ("0" : Str).cps.toList=[48] from by decide +kernel]at hc;injection hc with z _
     exact z.symm
    have hn:cg x=true:=by rw[e0,hb,hc,QF e];rfl
    rw[QF hc',QF e];simp only[Qg,RJ,aa,ae,QI,Qf,bw,aw,aY,aE,ao,az,ai,tG hn,Bool.true_or,aR,Qy,Po,a8];exact bD (by simp)
   ·rw [Ow e];by_cases hc':c=48
    ·rw[QF hc'];simp only[Qg,RN,RJ,aa,ae,aY,bb,bN,aR,Bool.false_or,QI,Qf,Qy,Po,a8];exact bD (by simp)
    ·have hn : cg x = true := by rw [e0, hb, hc]; simp [hc']
     rw[Ow hc'];simp only[QI,Qf,RN,ae,bw,aw,aY,aE,ao,az,ai,aa,tG hn,Bool.false_or,Qg,aR,Qy];exact bD (by simp)
 ·rw [show decide ((1 : Int) <= x.length /\ (x.length : Int) < 61) = false from Ow (by omega)];have hn:cg x=false:=by unfold cg;simp[h1]
  simp only[RN,Qg,ae,aY,bb,bN,aR,hn,QI,Qf];exact bt (by simp)
theorem Mb{i j:Int}:uL false .non (.tup [.int i,.int j]) M=.ok (.bl false) M:=rfl
theorem Ma{i:Int}:uL false .non (.tup [.int i,.non]) M=.ok (.bl true) M:=rfl
theorem L9{i:Int}:uL false .non (.tup [.non,.int i]) M=.ok (.bl true) M:=rfl
theorem L8:uL false .non (.tup [.non,.non]) M=.ok (.bl true) M:=rfl
theorem FU(h:ws.length≠3):(!(((ws.map D.str).length:Int) == 3))=true:=by
 have:¬ ((ws.map D.str).length:Int)=3:=by rw[PZ];omega
 simpa using this
theorem σ9{b:Str}(h:¬ b.length<=20):cg b=false:=by
 unfold cg;simp[h]
theorem GN{w row:Str}(h:row.length<=100000):df [.str row,.str w] Y=.ok (pD (eX w row)) Y:=by
 let M1:aA:=Y++[O.lst ((Txt.split row " ").map D.str)]
 have g1:M1[Y.length]?=some (.lst ((Txt.split row " ").map D.str)):=aF
 have s0:cy (.str row) [.str " "] Y=.ok (.obj Y.length) M1:=by
  have:=kq (c:=32) (Y:=Y) h;rw[<- D0]at this;exact this
 unfold df;rw[dJ,show (some (D.str row)::some (D.str w)::List.replicate (4-2) none:Ro)=[some (D.str row),some (.str w),none,none] from rfl];simp only[kH];rw[aJ,aZ];rw[show hW cy (ah 0) (af (cC (D.str " ")) aD) [some (D.str row),some (.str w),none,none] Y=.ok (.obj Y.length) M1 from s0];simp only[ae,bx,aw,Td,Te];rw[aJ,bE];simp only[gf,b8,aK,bb,aE,ao,az,ai,ak,aa,gk g1,d5,a8,Qg];by_cases hl:(Txt.split row " ").length=3
 ·obtain ⟨a, b, c, hw⟩ := GI hl;have hb:b.length<=100000:=OI (kO (c:=32) (x:=row) (by rw[<- D0,hw];simp)) h;have hc:c.length<=100000:=OI (kO (c:=32) (x:=row) (by rw[<- D0,hw];simp)) h;rw[hw]at g1;have i0:cx (.obj Y.length) (.int 0) M1=.ok (.str a) M1:=fH g1 rfl;have i1:cx (.obj Y.length) (.int 1) M1=.ok (.str b) M1:=fH g1 rfl;have i2:cx (.obj Y.length) (.int 2) M1=.ok (.str c) M1:=fH g1 rfl;rw[hw,show (!((([a,b,c]:List Str).map D.str).length:Int) == 3)=false from rfl];simp only[QI,Qf,i0,i1,i2,aa,Po,Qg,a8,kv hb,kv hc,cW];have pe:eX w row=if a=w/\cg b=true/\cg c=true then some (j6 b,j6 c) else none:=by unfold eX;rw[hw]
  rw[pe];by_cases ea:a=w
  ·rw [QF ea];simp only[RJ,QI,Qf];by_cases lb:b.length<=20
   ·rw [show cj .Gt (b.length : Int) 20 = false from Ow (by omega)];simp only[QI,Qf];by_cases lc:c.length<=20
    ·rw [show cj .Gt (c.length : Int) 20 = false from Ow (by omega)];simp only[QI,Qf,ae,bw,aw];rw[aJ,aZ];simp only[f9,ao,aE,az,aK,ak,ai,bb,aa,i1,i2,vq lb,vq lc,QJ,Rf];rw[OA (show 0+1+1<=sizeLine by decide)];simp only[ae,bx,aw,Td,Te,aY,Mh,b8,aK,bb,ak,ai,aa];cases h2:cg b with
     |false=>
      cases h3:cg c with
      |false=>
       simp only[QI,Qf,false_and,and_false,L8,aa,a8,Qg,ae,aR];exact bD (by simp[pD])
      |true=>
       simp only[QI,Qf,false_and,and_false,Qg,L9,aa,a8,ae,aR];exact bD (by simp[pD])
     |true=>
      cases h3:cg c with
      |false=>
       simp only[QI,Qf,and_false,Qg,Ma,aa,a8,ae,aR];exact bD (by simp[pD])
      |true=>
       simp only[ea,and_self,Qg,Mb,aa,a8,QI,Qf,ae,aR];exact bD (by simp[pD])
    ·rw[show cj .Gt (c.length:Int) 20=true from QF (by omega)];simp only[Qg,ae,aY,bb,bN,aR];rw[OB (fun z=>absurd z.2.2 (by rw[σ9 lc];exact Pm))];exact bD (by simp[pD])
   ·rw[show cj .Gt (b.length:Int) 20=true from QF (by omega)];simp only[Qg,ae,aY,bb,bN,aR];rw[OB (fun z=>absurd z.2.1 (by rw[σ9 lb];exact Pm))];exact bD (by simp[pD])
  ·rw[Ow ea];simp only[RN,Qg,ae,aY,bb,bN,aR];rw[OB (fun z=>ea z.1)];exact bD (by simp[pD])
 ·rw[FU hl];simp only[Qg,ae,aY,bb,bN,aR];rw[GZ hl];exact bD (by simp[pD])
theorem mS{w row:Str}{a b:Int}(h:eX w row=some (a,b)):0<=a/\0<=b:=by
 unfold eX at h;split at h
 ·split at h
  ·rename_i hc;simp only[RG,Prod.mk.injEq]at h;rw[<- h.1,<- h.2];exact⟨(tS hc.2.1).2.1,(tS hc.2.2).2.1⟩
  ·cases h
 ·cases h
def fG(dn:List (List Int))(k:List Int):Bool:=match dn.getLast? with
 |none=>true
 |some l=>jh l k
def eW (m due:Int) (dn:List (List Int)) (r:Str):Option (List Int):=match eX "tie" r with
 |some (a,b)=>if (dn.length:Int)<due/\a<b/\b<m/\fG dn [a,b]=true then some [a,b] else none
 |none=>none
def nk(m due:Int):List (List Int)->List Str->Int ⊕ List (List Int)
 |dn,[]=>.inr dn
 |dn,r::rs=>match eW m due dn r with
  |some k=>nk m due (dn++[k]) rs
  |none=>.inl ((dn.length:Int)+2)
def n5 (x:Str):Int ⊕ (Int×List (List Int)):=match Txt.split x "\n" with
 |[]=>.inl 1
 |r::rs=>match eX "web" r with
  |none=>.inl 1
  |some (m,due)=>if 1<=m/\m<=6 then (match nk m due [] rs with
   |.inl k=>.inl k
   |.inr ks=>if (ks.length:Int)<due then .inl ((ks.length:Int)+2) else .inr (m,ks)) else .inl 1
structure zG(m:Int)(dn:List (List Int)):Prop where
 mem:∀k∈dn,∃a b:Int,k=[a,b]/\0<=a/\a<b/\b<=m-1
 ris:lW dn=true
theorem zl:zG m []:=⟨by simp,rfl⟩
theorem Dw(h:∀k∈dn,oa k):(dn.map aG).map Bw=dn:=by
 induction dn with
 |nil=>rfl
 |cons k r ih=>
  obtain⟨a,b,rfl⟩:=h k (by simp);rw[Qp,Qp,ih fun z hz=>h z (by simp[hz])];rfl
theorem vZ{l r:List (List Int)}(h:i<l.length):(l++r).getD i []=l.getD i []:=by
 rw[R8,R8,PR h]
theorem GH{a b:Int}(ha:0<=a)(hb:0<=b):mz m (aG [a,b])=(decide (a<b)&&decide (b<m)):=by
 show (([D.int a,D.int b].all (eZ 0 (m-1)))&&decide (a<b))=_;simp only[Qu,TF,Tp,eZ];by_cases h1:a<b
 ·by_cases h2 : b < m
  ·rw[QF h1,QF h2];simp;omega
  ·rw[QF h1,Ow h2];simp;omega
 ·rw[Ow h1];simp
theorem vz{k:List Int}(h:lW dn=true):lW (dn++[k])=fG dn k:=by
 unfold lW at *;cases hd:dn.reverse with
 |nil=>
  have:dn=[]:=by simpa using hd
  subst this;rfl
 |cons l r=>
  have e:dn=r.reverse++[l]:=by
   have:=O0 List.reverse hd;simpa using this
  subst e;have hl:fG (r.reverse++[l]) k=jh l k:=by unfold fG;simp
  rw[hl];have n1:(r.reverse++[l]++[k]).length-1=r.length+1:=by simp
  have n2:(r.reverse++[l]).length-1=r.length:=by simp
  rw[n2]at h;rw[n1,List.range_succ,List.all_append]
  have e1:((List.range r.length).all fun i=>jh ((r.reverse++[l]++[k]).getD i []) ((r.reverse++[l]++[k]).getD (i+1) []))=true:=by
   rw[RI]at h⊢;intro i hi;have hi':i<r.length:=by simpa using hi
   have:=h i hi;rw[show (r.reverse++[l]++[k]).getD i []=(r.reverse++[l]).getD i [] from by rw[vZ (by simp;omega)],show (r.reverse++[l]++[k]).getD (i+1) []=(r.reverse++[l]).getD (i+1) [] from by rw[vZ (by simp;omega)]];exact this
  rw[e1];simp
theorem HP{a b:Int}(h:zG m dn)(ha:0<=a)(hb:0<=b):lE m (.tup ((dn++[[a,b]]).map aG))=(decide (a<b)&&decide (b<m)&&fG dn [a,b]):=by
 unfold lE;dsimp only
 rw[Dw (fun k hk=>by
  rcases OQ.mp hk with hk|hk
  ·obtain⟨x,y,e,_⟩:=h.mem k hk;exact⟨x,y,e⟩
  ·rw[QS.mp hk];exact⟨a,b,rfl⟩),vz h.ris,Rv,List.all_append]
 have e1:(dn.map aG).all (mz m)=true:=by
  rw[RI];intro d hd;obtain⟨k,hk,rfl⟩:=Rk.mp hd;obtain⟨x,y,rfl,h1,h2,h3⟩:=h.mem k hk;rw[GH h1 (by omega),QF h2,QF (show y<m by omega)];rfl
 rw[e1];simp only[Qp,Qo,Qu,TF,Tp,Tg,GH ha hb]
theorem vI{due:Int}{r:Str}{k:List Int}(h:zG m dn)(e:eW m due dn r=some k):zG m (dn++[k])/\(dn.length:Int)<due/\∃a b,eX "tie" r=some (a,b)/\k=[a,b]:=by
 unfold eW at e;split at e
 ·rename_i a b hp;split at e
  ·rename_i hc;simp only[RG]at e;subst e;obtain⟨p1,p2⟩:=mS hp;refine⟨⟨fun k hk=>?_,by rw[vz h.ris];exact hc.2.2.2⟩,hc.1,a,b,hp,rfl⟩;rcases OQ.mp hk with hk|hk
   ·exact h.mem k hk
   ·rw[QS.mp hk];exact⟨a,b,rfl,p1,hc.2.1,by omega⟩
  ·cases e
 ·cases e
theorem Dv(h:∀k∈ks,oa k)(hl:ks.length<1000):Kn Y (.tup (ks.map aG)):=by
 simp only[Kn];refine⟨by simpa using hl,ph.mpr fun d hd=>?_⟩;obtain⟨k,hk,rfl⟩:=Rk.mp hd;obtain⟨a,b,rfl⟩:=h k hk;show Kn Y (.tup [.int a,.int b]);simp only[Kn,Kns];simp
theorem iU{x:DX}{g:MS}:(SO.exc x Y).bind g=.exc x Y:=Sw (_root_.eq_self _)
theorem vH{x:DX}:(SO.exc x Y).out=.exc x Y:=Sw (_root_.eq_self _)
theorem Cj{x:DX}{Y':aA}:oX Y (.exc x Y')=.exc x Y':=Sw (_root_.eq_self _)
theorem jq{a:Str}{i:Int}(h:fr Z Y=.ok [.int i] Y1):fw c a fr Z Y=.exc ⟨c,[(a,i)]⟩ Y1:=by
 unfold fw;rw[h]
def RX (k:Int):DX:=⟨"NoText",[("row",k)]⟩
theorem DU(h:xs.length+ys.length<=1000):bo (.tup xs) (.tup ys) Y=.ok (.tup (xs++ys)) Y:=by
 unfold bo;dsimp only;rw[OA (OI h cR)]
theorem Mj{x:β}{xs:List β}:jd (x::xs) (some 1) none=xs:=by
 unfold jd;rw[show HT.sIx (x::xs).length 0 (some 1)=1 from (HT.sIx_nat _ _ 1).trans (by simp),HT.sIx_none];simp
section
variable{N:Nat}{due:Int}
abbrev rR(x:Str)(N:Nat)(m due:Int)(dn:List (List Int))(a b c:Option D):Ro:=[some (.str x),some (.obj N),some (.tup [.int m,.int due]),some (.int m),some (.int due),some (.tup (dn.map aG)),a,b,c]
abbrev rG:MG:=fY 2 (bH (aq 6) (bH (aq 7) (fZ)))
theorem Fc{r:Str}{o8:Option D}(h:zG m dn)(hd:(dn.length:Int)<=due)(hr:r.length<=100000)(hl:dn.length<900):
  cA (rR x N m due dn (some (.int dn.length)) (some (.str r)) o8) M=match eW m due dn r with
   |some k=>.next (rR x N m due (dn++[k]) (some (.int dn.length)) (some (.str r)) (some (aG k))) M
   |none=>.exc (RX ((dn.length:Int)+2)) M:=by
 have rs:∀d:Option D,fw "NoText" "row" (af (av bo (ah 6) (cC (.int 2))) aD) (rR x N m due dn (some (.int dn.length)) (some (.str r)) d) M=.exc (RX ((dn.length:Int)+2)) M:=fun d=>
  jq (by simp only[ao,az,aK,bb,ak,ai,cS,aa])
 unfold cA;rw[aJ,aZ];simp only[aE,ao,az,bb,ak,ai,aa,GO hr,ag,ae,bx,aw,Td,Te];rw[aJ,bE];simp only[gf,fA,b8,gb,aK,bb,aE,ao,az,ai,ak,aa,d5,a8,nz,QI,Qf];by_cases e:(dn.length:Int)=due
 ·rw [show ((dn.length : Int) == due) = true from by simpa using e]
  have hs:eW m due dn r=none:=by
   unfold eW;split
   ·rw[OB (by omega)]
   ·rfl
  simp only[Qg,ae,hs];rw[rs,iU]
 ·rw [show ((dn.length : Int) == due) = false from by simpa using e];simp only[QI,Qf];cases hp:eX "tie" r with
  |none=>
   have hs:eW m due dn r=none:=by unfold eW;rw[hp]
   simp only[pD,D.isNon,Qg,ae,hs];have:=rs (some .non);rw[this,iU]
  |some ab=>
   obtain⟨a,b⟩:=ab;obtain⟨p1,p2⟩:=mS hp
   have ha:bo (.tup (dn.map aG)) (.tup [aG [a,b]]) M=.ok (.tup ((dn++[[a,b]]).map aG)) M:=by
    rw[DU (by simp;omega),Rv];rfl
   have ht:iB [.int m,.tup ((dn++[[a,b]]).map aG)] M=.ok (.bl (decide (a<b)&&decide (b<m)&&fG dn [a,b])) M:=by
    rw[zZ (Dv (fun k hk=>by
     rcases OQ.mp hk with hk|hk
     ·obtain⟨x,y,e,_⟩:=h.mem k hk;exact⟨x,y,e⟩
     ·rw[QS.mp hk];exact⟨a,b,rfl⟩) (by simp;omega)),HP h p1 p2]
   simp only[show pD (some (a,b))=aG [a,b] from rfl,show (aG [a,b]).isNon=false from rfl,QI,Qf,f9,ao,az,ak,ai,aa,QJ,Rf];rw[OA (show 0+1<=sizeLine by decide)];simp only[aa,ha,ht,ag,cN];have hs:eW m due dn r=if (dn.length:Int)<due/\a<b/\b<m/\fG dn [a,b]=true then some [a,b] else none:=by unfold eW;rw[hp]
   cases hb:(decide (a<b)&&decide (b<m)&&fG dn [a,b]) with
   |false=>
    have hn:eW m due dn r=none:=by
     rw[hs,OB]
     rintro⟨_,z1,z2,z3⟩
     rw[QF z1,QF z2,z3]at hb;cases hb
    simp only[RN,ae,Qg,hn];have:=rs (some (aG [a,b]));rw[this,iU]
   |true=>
    have hn:eW m due dn r=some [a,b]:=by
     simp only[Qn,Sy]at hb;rw[hs,OA ⟨by omega,hb.1.1,hb.1.2,hb.2⟩]
    simp only[RJ,ae,QI,Qf,hn,bw,aw,aZ,aK,ak,ai,f9,ao,az,aa,QJ,Rf];rw[OA (show 0+1<=sizeLine by decide)];simp only[aa,ha,ae,bx,Td,Te]
theorem Fd{all:List D}(ht:M[n]?=some (.lst all)):∀(rs:List Str)(dn:List (List Int))(o6 o7 o8:Option D),zG m dn->(dn.length:Int)<=due->(∀r∈rs,r.length<=100000)->dn.length+rs.length<900 ->
  (∀k,nk m due dn rs=.inl k->fU (.eno n all) rG cA (gW dn.length (rs.map D.str)) (rR x N m due dn o6 o7 o8) M=.exc (RX k) M) /\
  (∀ks,nk m due dn rs=.inr ks->zG m ks/\ks.length=dn.length+rs.length/\∃p6 p7 p8,fU (.eno n all) rG cA (gW dn.length (rs.map D.str)) (rR x N m due dn o6 o7 o8) M=.next (rR x N m due ks p6 p7 p8) M):=by
 intro rs
 induction rs with
 |nil=>
  intro dn o6 o7 o8 h hd hr hl;refine⟨fun k e=>by simp[nk]at e,fun ks e=>?_⟩;simp only[nk,Sum.inr.injEq]at e;subst e;refine⟨h,by simp,o6,o7,o8,?_⟩;simp only[Qo,gW];unfold fU;rw[OA (show dz (.eno n all) M from ht)]
 |cons r rs ih=>
  intro dn o6 o7 o8 h hd hr hl;simp only[QJ]at hl;have st:=Fc (x:=x) (N:=N) (M:=M) (o8:=o8) h hd (hr r (by simp)) (by omega)
  have un:fU (.eno n all) rG cA (gW dn.length ((r::rs).map D.str)) (rR x N m due dn o6 o7 o8) M=(cA (rR x N m due dn (some (.int dn.length)) (some (.str r)) o8) M).loop (fU (.eno n all) rG cA (gW (dn.length+1) (rs.map D.str))):=by
   simp only[Qp,gW]
   conv=>lhs;unfold fU
   rw[OA (show dz (.eno n all) M from ht)];rfl
  cases hs:eW m due dn r with
  |none=>
   rw[hs]at st;refine⟨fun k e=>?_,fun ks e=>by simp[nk,hs]at e⟩;simp only[nk,hs,TH]at e;subst e;rw[un,st];rfl
  |some k=>
   rw[hs]at st;obtain⟨h2,h3,a,b,_,hk⟩:=vI h hs;have:=ih (dn++[k]) (some (.int dn.length)) (some (.str r)) (some (aG k)) h2 (by simp;omega) (fun z hz=>hr z (by simp[hz])) (by simp;omega);have eg:nk m due dn (r::rs)=nk m due (dn++[k]) rs:=by simp[nk,hs]
   rw[eg,un,st];show _/\_;rw[show (dn++[k]).length=dn.length+1 from by simp]at this;refine⟨fun j e=>this.1 j e,fun ks e=>?_⟩;obtain⟨z1,z2,z3⟩:=this.2 ks e;exact⟨z1,by simp;omega,z3⟩
theorem BR(h:x.length<=800):cy (.str x) [.str "\n"] Y=.ok (.obj Y.length) (Y++[.lst ((Txt.split x "\n").map D.str)]):=by
 rw[nl];exact kq (by omega)
theorem qx(h:x.length<=800):(Txt.split x "\n").length<=802/\∀r∈Txt.split x "\n",r.length<=100000:=by
 have:=PyProof.Rows.split_le x "\n";refine⟨by omega,fun r hr=>?_⟩;rw[nl]at hr;have:=kO hr;omega
theorem vn:∃r rs,Txt.split x "\n" = r::rs:=by
 have:=PyProof.Rows.split_pos x "\n";cases h:Txt.split x "\n" with
 |nil=>rw[h]at this;simp at this
 |cons r rs=>exact⟨r,rs,rfl⟩
def oG:Int×List (List Int)->D:=fun z=>.tup [.int z.1,.tup (z.2.map aG)]
def Hx:MS:=bh (bR (ah 2) (fY 2 (bH (aq 3) (bH (aq 4) (fZ)))))
 (bh (bR (je (aD)) (aq 5))
 (bh (nt (lQ pW (af (qW (ah 1) (bZ (cC (.int 1))) (j4)) (aD))) (fY 2 (bH (aq 6) (bH (aq 7) (fZ)))) cA)
 (bh (j3 (fQ (av (eV .Lt) (aI d3 (af (ah 5) (aD))) (ah 4))) (fw "NoText" "row" (af (av bo (aI d3 (af (ah 1) (aD))) (cC (.int 1))) (aD))) (cf))
 (bL (je (af (ah 3) (af (ah 5) (aD))))))))
theorem zb{r0:Str}{rs:List Str}(g1:M[N]?=some (.lst ((r0::rs).map D.str)))(hd:0<=due)(hr:∀r∈rs,r.length<=100000)(hl:rs.length<900) :
  Hx [some (.str x),some (.obj N),some (.tup [.int m,.int due]),none,none,none,none,none,none] M=(match nk m due [] rs with
   |.inl k=>.exc (RX k) (M++[O.lst (rs.map D.str)])
   |.inr ks=>if (ks.length:Int)<due then .exc (RX ((ks.length:Int)+2)) (M++[O.lst (rs.map D.str)]) else .ret (oG (m,ks)) (M++[O.lst (rs.map D.str)]))/\(∀ks,nk m due [] rs=.inr ks->zG m ks/\ks.length=rs.length):=by
 let M2:aA:=M++[O.lst (rs.map D.str)]
 have g2:M2[M.length]?=some (.lst (rs.map D.str)):=aF
 have s1:rO (.obj N) (some 1) none M=.ok (.obj M.length) M2:=by
  unfold rO;dsimp only;rw[g1];dsimp only;rw[Qp,Mj]
 have lp:=Fd (x:=x) (N:=N) (m:=m) (due:=due) g2 rs [] none none none zl hd hr (by simpa using hl);refine⟨?_,fun ks e=>?_⟩
 ·unfold Hx;rw[aJ,aZ];rw[show (ah 2 [some (.str x),some (.obj N),some (.tup [.int m,.int due]),none,none,none,none,none,none] M).bindS (fun d Y1=>(fY 2 (bH (aq 3) (bH (aq 4) fZ)) d [some (.str x),some (.obj N),some (.tup [.int m,.int due]),none,none,none,none,none,none] Y1).bindS fun Z' Y2=>SO.next Z' Y2)=SO.next [some (.str x),some (.obj N),some (.tup [.int m,.int due]),some (.int m),some (.int due),none,none,none,none] M from rfl];rw[aw,aJ,aZ,f9,az,aa,Rf,OA (QR _)];simp only[ae,bx,aw,Td,Te];rw[aJ,jE];simp only[jL,ao,az,lF,ak,ai,dc,h7,bb,gh,aa,s1];rw[show pW [.obj M.length] M2=.ok (.eno M.length (rs.map D.str)) M2 from by unfold pW;dsimp only;rw[g2]];simp only[ae];rw[show (oF.eno M.length (rs.map D.str)).items=gW ([]:List (List Int)).length (rs.map D.str) from rfl];cases hg:nk m due [] rs with
  |inl k=>
   have:=lp.1 k hg;rw[show [some (D.str x),some (.obj N),some (.tup [.int m,.int due]),some (.int m),some (.int due),some (.tup []),none,none,none]=rR x N m due [] none none none from rfl,this,iU]
  |inr ks=>
   obtain⟨hk,hkl,p6,p7,p8,e⟩:=lp.2 ks hg;simp only[Rf,Nat.zero_add]at hkl;rw[show [some (D.str x),some (.obj N),some (.tup [.int m,.int due]),some (.int m),some (.int due),some (.tup []),none,none,none]=rR x N m due [] none none none from rfl,e,aw,aJ,bE];simp only[b8,aK,aE,ao,az,ak,ai,aa,pC,PZ,cW,a8];by_cases hc:(ks.length:Int)<due
   ·rw [show cj .Lt (ks.length : Int) due = true from QF hc, OA hc];simp only[ae,Qg]
    rw[jq (i:=(ks.length:Int)+2) (Y1:=M2) (by
     have g3:M2[N]?=some (.lst ((r0::rs).map D.str)):=aS g1;simp only[ao,az,aK,aE,ak,ai,bb,aa];rw[gk g3];simp only[aa,cS,PZ,QJ]
     rw[show ((rs.length+1:Nat):Int)+1=(ks.length:Int)+2 from by omega]),iU]
    rfl
   ·rw[show cj .Lt (ks.length:Int) due=false from Ow hc,OB hc];simp only[ae,QI,Qf,bw,aw,aY,f9,ao,az,ak,ai,aa,QJ,Rf];rw[OA (show 0+1+1<=sizeLine by decide)];rfl
 ·obtain⟨a,b,_⟩:=lp.2 ks e;exact⟨a,by simpa using b⟩
theorem qo(h:∀k∈ks,oa k)(m:Int):(oG (m,ks)).low n:=by
 unfold oG;simp
 exact ku.mpr fun x hx=>by
  obtain⟨k,_,rfl⟩:=Rk.mp hx;simp[aG];exact ku.mpr (by simp)
theorem Ls(hx:x.length<=800):(∀k,n5 x=.inl k->∃Y',cJ [.str x] Y=.exc (RX k) (Y++Y'))/\(∀z,n5 x=.inr z->cJ [.str x] Y=.ok (oG z) Y/\1<=z.1/\z.1<=6/\zG z.1 z.2/\z.2.length<900):=by
 obtain⟨r0,rs,hw⟩:=vn (x:=x);obtain⟨hl,hm⟩:=qx hx;rw[hw]at hl hm;simp only[QJ]at hl;let M1:aA:=Y++[O.lst ((r0::rs).map D.str)]
 have g1:M1[Y.length]?=some (.lst ((r0::rs).map D.str)):=aF;have s0:cy (.str x) [.str "\n"] Y=.ok (.obj Y.length) M1:=by rw[BR hx,hw]
 have i0:cx (.obj Y.length) (.int 0) M1=.ok (.str r0) M1:=fH g1 (by
  rw[Qp];unfold atI;rw[show uK (D.str r0::rs.map D.str).length 0=some 0 from jD (by decide) (by simp)]
  rfl)
 have hrd:n5 x=match eX "web" r0 with
  |none=>.inl 1
  |some (m,due)=>if 1<=m/\m<=6 then (match nk m due [] rs with
   |.inl k=>.inl k
   |.inr ks=>if (ks.length:Int)<due then .inl ((ks.length:Int)+2) else .inr (m,ks)) else .inl 1:=by unfold n5;rw[hw]<;>rfl
 have st:cJ [.str x] Y=oX Y ((bh (j3 (fW (fQ (av (sZ false) (ah 2) (cC .non))) (gX (j9 (aI (fun ds Y=>(iC ds Y).nox) (af (av cx (ah 2) (cC (.int 0))) (aD)))))) (fw "NoText" "row" (af (cC (.int 1)) (aD))) (cf)) Hx) [some (.str x),some (.obj Y.length),some (pD (eX "web" r0)),none,none,none,none,none,none] M1).out:=by
  unfold cJ;rw[dN,show (some (D.str x)::List.replicate (9-1) none:Ro)=[some (.str x),none,none,none,none,none,none,none,none] from rfl];unfold mi;rw[aJ,bE];simp only[fA,gb,gU,ai,aa];rw[show fV "str" (.str x) Y=.ok (.bl true) Y from rfl];simp only[aa,cN,RJ,ae,QI,Qf,bw,aw];rw[aJ,aZ];rw[show hW cy (ah 0) (af (cC (D.str "\n")) aD) [some (.str x),none,none,none,none,none,none,none,none] Y=.ok (.obj Y.length) M1 from s0];simp only[ae,bx,aw,Td,Te];rw[aJ,aZ];simp only[aE,ao,az,bb,aK,ak,ai,aa,i0,GO (hm r0 (by simp)),ag,ae,bx,aw,Td,Te];rfl
 rw[st,aJ,bE,hrd];cases hp:eX "web" r0 with
 |none=>
  dsimp only;refine⟨fun k hk=>?_,fun z hz=>by cases hz⟩;simp only[TH]at hk;subst hk;refine⟨[O.lst ((r0::rs).map D.str)],?_⟩;simp only[gf,b8,aK,bb,ak,ai,aa,nz,pD,D.isNon,a8,Qg,ae,QI,Qf];rw[jq (i:=1) (Y1:=M1) rfl,iU];rfl
 |some md=>
  obtain⟨m,due⟩:=md;obtain⟨p1,p2⟩:=mS hp;dsimp only;simp only[gf,fA,b8,gb,aK,bb,aE,ao,az,ak,ai,aa,nz,show pD (some (m,due))=.tup [.int m,.int due] from rfl,show (D.tup [D.int m,D.int due]).isNon=false from rfl,a8,QI,Qf,show cx (.tup [.int m,.int due]) (.int 0) M1=.ok (.int m) M1 from rfl,z9 (show Kn M1 (.int m) from trivial),ag,cN];by_cases hmm:1<=m/\m<=6
  ·rw [OA hmm];rw[show eZ 1 6 (.int m)=true from by unfold eZ;simp[hmm.1,hmm.2]];simp only[RJ,ae,QI,Qf,bw,aw];obtain⟨tl,ok⟩:=zb (x:=x) (m:=m) (due:=due) g1 p2 (fun r hr=>hm r (by simp[hr])) (by omega);rw[tl];cases hg:nk m due [] rs with
   |inl k=>
    refine⟨fun j hj=>?_,fun z hz=>by cases hz⟩;simp only[TH]at hj;subst hj;exact⟨_,by rw[vH,Cj,Qy]⟩
   |inr ks=>
    obtain⟨o1,o2⟩:=ok ks hg;dsimp only;by_cases hc:(ks.length:Int)<due
    ·rw[OA hc,OA hc];refine⟨fun j hj=>?_,fun z hz=>by cases hz⟩;simp only[TH]at hj;subst hj;exact⟨_,by rw[vH,Cj,Qy]⟩
    ·rw[OB hc,OB hc];refine⟨fun j hj=>(by cases hj),fun z hz=>?_⟩;simp only[Sum.inr.injEq]at hz;subst hz;refine⟨?_,hmm.1,hmm.2,o1,by show ks.length<900;omega⟩;rw[aR];simp only[M1,Qy];exact bD (qo (fun k hk=>by obtain⟨a,b,e,_⟩:=o1.mem k hk;exact⟨a,b,e⟩) m)
  ·rw[OB hmm];rw[show eZ 1 6 (.int m)=false from by unfold eZ;simpa using hmm];refine⟨fun k hk=>?_,fun z hz=>by cases hz⟩;simp only[TH]at hk;subst hk;refine⟨[O.lst ((r0::rs).map D.str)],?_⟩;simp only[RN,ae,Qg];rw[jq (i:=1) (Y1:=M1) rfl,iU];rfl
end
def iD(dn:List (List Int)):List (List Int):=match dn.getLast? with
 |none=>[]
 |some l=>[l]
theorem DK:jd (dn.map aG) (some (-1)) none=(iD dn).map aG:=by
 cases hd:dn.reverse with
 |nil=>
  have:dn=[]:=by simpa using hd
  subst this;rfl
 |cons l r=>
  have e:dn=r.reverse++[l]:=by
   have:=O0 List.reverse hd;simpa using this
  subst e;have hl:iD (r.reverse++[l])=[l]:=by unfold iD;simp
  rw[hl];unfold jd
  rw[HT.sIx_none,show HT.sIx ((r.reverse++[l]).map aG).length 0 (some (-1))=r.length from by
   unfold HT.sIx;dsimp only;rw[OA (by decide)];simp
   omega]
  rw[Rv,List.drop_append_of_le_length (by simp),show ((r.reverse).map aG).drop r.length=[] from S7.mpr (by simp)];simp
theorem F9{p:Nat}{a b:Int}(hd:∀k∈dn,oa k)(h1:M[n]?=some (.lst ((iD dn).map aG)))(h2:M[p]?=some (.lst [aG [a,b]])):zN (.obj n) (.obj p) M=.ok (.bl (!fG dn [a,b])) M:=by
 have t2:oC M (.obj p)=some (.list [.tuple [.int a,.int b]]):=by
  unfold oC;dsimp only;rw[h2];rfl
 have f2:fS (.list [.tuple [.int a,.int b]])=true:=rfl
 have ge:∀x y:Int,decide (y<=x)=!decide (x<y):=fun x y=>by
  by_cases h:y<=x
  ·rw[QF h,Ow (by omega)];rfl
  ·rw[Ow h,QF (by omega)];rfl
 unfold zN;rw[t2];cases hl:dn.getLast? with
 |none=>
  have e1:iD dn=[]:=by unfold iD;rw[hl]
  have t1:oC M (.obj n)=some (.list []):=by
   unfold oC;dsimp only;rw[h1,e1];rfl
  rw[t1];have:fG dn [a,b]=true:=by unfold fG;rw[hl]
  rw[this];rfl
 |some l=>
  obtain⟨c,d,rfl⟩:=hd l (List.mem_of_getLast? hl);have e1:iD dn=[[c,d]]:=by unfold iD;rw[hl]
  have t1:oC M (.obj n)=some (.list [.tuple [.int c,.int d]]):=by
   unfold oC;dsimp only;rw[h1,e1];rfl
  rw[t1];have e2:fG dn [a,b]=jh [c,d] [a,b]:=by unfold fG;rw[hl]
  rw[e2];dsimp only;rw[OA ⟨rfl,rfl⟩]
  have e3:cmpPs .GtE [.tuple [.int c,.int d]] [.tuple [.int a,.int b]]=some (!jh [c,d] [a,b]):=by
   simp only[cmpPs,hV,PyData.eqv,PyData.eqvAll,jh];by_cases h1:c=a
   ·subst h1;by_cases h2:d=b
    ·subst h2;simp[cj]
    ·simp[h2,cj,ge]
   ·simp[h1,cj,ge]
  rw[e3]
section
variable{due:Int}
abbrev dM(Y:aA)(rows:List Str)(dn:List (List Int))(G:aA):aA:=Y++[O.lst (rows.map D.str)]++O.lst (dn.map aG)::G
abbrev dR(x:Str)(N:Nat)(m due:Int)(a b:Option D):Ro:=[some (.str x),some (.obj N),some (.tup [.int m,.int due]),some (.obj (N+1)),a,b]
theorem tY:(dM Y rows dn G)[Y.length]?=some (.lst (rows.map D.str)):=by
 show (Y++[O.lst (rows.map D.str)]++O.lst (dn.map aG)::G)[Y.length]?=_;simp
theorem mO:(dM Y rows dn G)[Y.length+1]?=some (.lst (dn.map aG)):=by
 show (Y++[O.lst (rows.map D.str)]++O.lst (dn.map aG)::G)[Y.length+1]?=_;simp
theorem Cv{G':aA}:dM Y rows dn G++G'=dM Y rows dn (G++G'):=by
 simp[dM]
theorem Kl{k:List Int}:(dM Y rows dn G).set (Y.length+1) (.lst (dn.map aG++[aG k]))=dM Y rows (dn++[k]) G:=by
 simp[dM]
theorem lY:dM Y rows dn G=Y++(O.lst (rows.map D.str)::O.lst (dn.map aG)::G):=by
 simp[dM]
theorem Gh{r:Str}{o5:Option D}(h:zG m dn)(hi:rows[dn.length+1]?=some r)(hr:r.length<=100000)(hl:dn.length<900):
  match eW m due dn r with
  |some k=>∃G',bI (dR x Y.length m due (some (.int ((dn.length:Int)+1))) o5) (dM Y rows dn G)=.next (dR x Y.length m due (some (.int ((dn.length:Int)+1))) (some (aG k))) (dM Y rows (dn++[k]) G')
  |none=>∃G',bI (dR x Y.length m due (some (.int ((dn.length:Int)+1))) o5) (dM Y rows dn G)=.ret (.int ((dn.length:Int)+2)) (Y++G'):=by
 have hd:∀k∈dn,oa k:=fun k hk=>by obtain⟨a,b,e,_⟩:=h.mem k hk;exact⟨a,b,e⟩
 have ix:cx (.obj Y.length) (.int ((dn.length:Int)+1)) (dM Y rows dn G)=.ok (.str r) (dM Y rows dn G):=fH tY (by
  have hlt:dn.length+1<rows.length:=(OS.mp hi).1;unfold atI
  rw[show uK (rows.map D.str).length ((dn.length:Int)+1)=some (dn.length+1) from by
   have:=jD (n:=(rows.map D.str).length) (i:=((dn.length+1:Nat):Int)) (by omega) (by simp;omega)
   simpa using this]
  show (rows.map D.str)[dn.length+1]?=_;rw[PU,hi]
  rfl)
 have rt:∀o M,bL (av bo (ah 4) (cC (.int 1))) (dR x Y.length m due (some (.int ((dn.length:Int)+1))) o) M=.ret (.int ((dn.length:Int)+2)) M:=fun o M=>by
  simp only[aY,aK,ak,ai,bb,aa,cS,ae];rw[show (dn.length:Int)+1+1=(dn.length:Int)+2 from by omega]
 have st:∀ρ:SO,bI (dR x Y.length m due (some (.int ((dn.length:Int)+1))) o5) (dM Y rows dn G)=ρ↔(bh (j3 (fW (fQ (av (eV .Gt) (ah 4) (av cx (ah 2) (cC (.int 1))))) (fW (fQ (av (sZ false) (ah 5) (cC .non))) (fW (fQ (av (eV .GtE) (av cx (ah 5) (cC (.int 0))) (av cx (ah 5) (cC (.int 1))))) (fW (fQ (av (eV .GtE) (av cx (ah 5) (cC (.int 1))) (av cx (ah 2) (cC (.int 0))))) (fQ (av (zN) (qW (ah 3) (bZ (i7 sY (cC (.int 1)))) (j4)) (fT (af (ah 5) (aD))))))))) (bL (av bo (ah 4) (cC (.int 1)))) (cf))
 (mG (yC dP (ah 3) (af (ah 5) (aD))))) (dR x Y.length m due (some (.int ((dn.length : Int) + 1))) (some (pD (eX "tie" r)))) (dM Y rows dn G) = ρ := fun ρ => by
  unfold bI;rw[aJ,aZ];simp only[aE,ao,az,bb,aK,ak,ai,aa,ix,GN hr,ae,bx,aw,Td,Te]
 simp only[st];rw[aJ,bE];simp only[gf,b8,aK,bb,ak,ai,aa,show ∀M,cx (.tup [.int m,.int due]) (.int 1) M=.ok (.int due) M from fun _=>rfl,show ∀M,cx (.tup [.int m,.int due]) (.int 0) M=.ok (.int m) M from fun _=>rfl,cW,a8,nz,QI,Qf];by_cases e:(dn.length:Int)<due
 ·rw [show cj .Gt ((dn.length : Int) + 1) due = false from Ow (by omega)];simp only[QI,Qf];cases hp:eX "tie" r with
  |none=>
   have hs:eW m due dn r=none:=by unfold eW;rw[hp]
   rw[hs];refine⟨O.lst (rows.map D.str)::O.lst (dn.map aG)::G,?_⟩;simp only[pD,D.isNon,Qg,ae];rw[rt,bN,lY]
  |some ab=>
   obtain⟨a,b⟩:=ab;have hs:eW m due dn r=if (dn.length:Int)<due/\a<b/\b<m/\fG dn [a,b]=true then some [a,b] else none:=by unfold eW;rw[hp]
   simp only[show pD (some (a,b))=aG [a,b] from rfl,show (aG [a,b]).isNon=false from rfl,QI,Qf,show ∀M,cx (aG [a,b]) (.int 0) M=.ok (.int a) M from fun _=>rfl,show ∀M,cx (aG [a,b]) (.int 1) M=.ok (.int b) M from fun _=>rfl,aa,cW,a8];by_cases h1:a<b
   ·rw [show cj .GtE a b = false from Ow (by omega)];simp only[QI,Qf];by_cases h2:b<m
    ·rw [show cj .GtE b m = false from Ow (by omega)];simp only[QI,Qf,lF,ak,ai,dc,h7,gU,bb,Cq,gh,aa]
     rw[show rO (.obj (Y.length+1)) (some (-1)) none (dM Y rows dn G)=.ok (.obj (dM Y rows dn G).length) (dM Y rows dn G++[O.lst ((iD dn).map aG)]) from by
      unfold rO;dsimp only;rw[mO];dsimp only
      rw[DK]]
     simp only[aa,dH,ao,az,ak,ai,QJ,Rf];rw[OA (show 0+1<=sizeLine by decide)];simp only[aa];rw[F9 hd (M:=dM Y rows dn G++[O.lst ((iD dn).map aG)]++[O.lst [aG [a,b]]]) (aS aF) aF];simp only[aa,a8];cases h3:fG dn [a,b] with
     |false=>
      rw[h3]at hs;rw[hs,OB (fun z=>absurd z.2.2.2 Pm)];refine⟨(O.lst (rows.map D.str)::O.lst (dn.map aG)::G)++([O.lst ((iD dn).map aG)]++[O.lst [aG [a,b]]]),?_⟩;simp only[RN,ae,Qg];rw[rt,bN,lY,Qy,Qy]
     |true=>
      rw[h3]at hs;rw[hs,OA ⟨e,h1,h2,rfl⟩];refine⟨G++[O.lst ((iD dn).map aG)]++[O.lst [aG [a,b]]],?_⟩;simp only[RJ,ae,QI,Qf,bw,aw];rw[Cv,Cv,mM,pV];simp only[ak,ai,aa];rw[show xh (.obj (Y.length+1)) (dM Y rows dn (G++[O.lst ((iD dn).map aG)]++[O.lst [aG [a,b]]]))=true from by unfold xh;dsimp only;rw[mO]];simp only[Qg,ao,az,ak,ai,aa]
      rw[show dP (.obj (Y.length+1)) [aG [a,b]] (dM Y rows dn (G++[O.lst ((iD dn).map aG)]++[O.lst [aG [a,b]]]))=.ok .non (dM Y rows (dn++[[a,b]]) (G++[O.lst ((iD dn).map aG)]++[O.lst [aG [a,b]]])) from by
       unfold dP;dsimp only;rw[mO];dsimp only
       rw[OA (by rw[PZ];exact OD hl (by decide)),Kl]]
      simp only[ae]
    ·rw[show cj .GtE b m=true from QF (by omega)];rw[hs,OB (fun z=>h2 z.2.2.1)];refine⟨O.lst (rows.map D.str)::O.lst (dn.map aG)::G,?_⟩;simp only[Qg,ae];rw[rt,bN,lY]
   ·rw[show cj .GtE a b=true from QF (by omega)];rw[hs,OB (fun z=>h1 z.2.1)];refine⟨O.lst (rows.map D.str)::O.lst (dn.map aG)::G,?_⟩;simp only[Qg,ae];rw[rt,bN,lY]
 ·rw [show cj .Gt ((dn.length : Int) + 1) due = true from QF (by omega)]
  have hs:eW m due dn r=none:=by
   unfold eW;split
   ·rw[OB (fun z=>e z.1)]
   ·rfl
  rw[hs];refine⟨O.lst (rows.map D.str)::O.lst (dn.map aG)::G,?_⟩;simp only[Qg,ae];rw[rt,bN,lY]
end
section
variable{due:Int}
theorem Gi{all:List D}:∀(rs pre:List Str)(dn:List (List Int))(G:aA)(o4 o5:Option D),rows=pre++rs->pre.length=dn.length+1->zG m dn->(∀r∈rs,r.length<=100000)->dn.length+rs.length<900 ->
  (∀k,nk m due dn rs=.inl k->∃G',fU (.fix all) (aq 4) bI (dF ((dn.length:Int)+1) rs.length) (dR x Y.length m due o4 o5) (dM Y rows dn G)=.ret (.int k) (Y++G')) /\
  (∀ks,nk m due dn rs=.inr ks->∃G' p4 p5,fU (.fix all) (aq 4) bI (dF ((dn.length:Int)+1) rs.length) (dR x Y.length m due o4 o5) (dM Y rows dn G)=.next (dR x Y.length m due p4 p5) (dM Y rows ks G')):=by
 intro rs
 induction rs with
 |nil=>
  intro pre dn G o4 o5 hw hp h hr hl;refine⟨fun k e=>by simp[nk]at e,fun ks e=>?_⟩;simp only[nk,Sum.inr.injEq]at e;subst e;refine⟨G,o4,o5,?_⟩;rw[Rf,nH];unfold fU;rw[OA (show dz (.fix all) _ from trivial)]
 |cons r rs ih=>
  intro pre dn G o4 o5 hw hp h hr hl;simp only[QJ]at hl
  have hi:rows[dn.length+1]?=some r:=by
   rw[hw,<- hp,PN (Pf _)];simp
  have st:=Gh (x:=x) (due:=due) (Y:=Y) (G:=G) (o5:=o5) h hi (hr r (by simp)) (by omega)
  have un:fU (.fix all) (aq 4) bI (dF ((dn.length:Int)+1) (r::rs).length) (dR x Y.length m due o4 o5) (dM Y rows dn G)=(bI (dR x Y.length m due (some (.int ((dn.length:Int)+1))) o5) (dM Y rows dn G)).loop (fU (.fix all) (aq 4) bI (dF ((dn.length:Int)+1+1) rs.length)):=by
   rw[QJ,la]
   conv=>lhs;unfold fU
   rw[OA (show dz (.fix all) _ from trivial)];rfl
  cases hs:eW m due dn r with
  |none=>
   rw[hs]at st;obtain⟨G',st⟩:=st;refine⟨fun k e=>?_,fun ks e=>by simp[nk,hs]at e⟩;simp only[nk,hs,TH]at e;subst e;refine⟨G',?_⟩;rw[un,st];rfl
  |some k=>
   rw[hs]at st;obtain⟨G',st⟩:=st;obtain⟨h2,h3,a,b,_,hk⟩:=vI h hs;have:=ih (pre++[r]) (dn++[k]) G' (some (.int ((dn.length:Int)+1))) (some (aG k)) (by rw[hw];simp) (by simp;omega) h2 (fun z hz=>hr z (by simp[hz])) (by simp;omega);have eg:nk m due dn (r::rs)=nk m due (dn++[k]) rs:=by simp[nk,hs]
   rw[eg,un,st];rw[show ((dn++[k]).length:Int)+1=(dn.length:Int)+1+1 from by simp]at this;exact⟨fun j e=>this.1 j e,fun ks e=>this.2 ks e⟩
def xo:Int ⊕ (Int×List (List Int))->D
 |.inl k=>.int k
 |.inr z=>oG z
theorem Io(hx:x.length<=800):fv [.str x] Y=.ok (xo (n5 x)) Y:=by
 obtain⟨r0,rs,hw⟩:=vn (x:=x);obtain⟨hl,hm⟩:=qx hx;rw[hw]at hl hm;simp only[QJ]at hl;let M1:aA:=Y++[O.lst ((r0::rs).map D.str)]
 have g1:M1[Y.length]?=some (.lst ((r0::rs).map D.str)):=aF;have s0:cy (.str x) [.str "\n"] Y=.ok (.obj Y.length) M1:=by rw[BR hx,hw]
 have i0:cx (.obj Y.length) (.int 0) M1=.ok (.str r0) M1:=fH g1 (by
  rw[Qp];unfold atI;rw[show uK (D.str r0::rs.map D.str).length 0=some 0 from jD (by decide) (by simp)]
  rfl)
 have hrd:n5 x=match eX "web" r0 with
  |none=>.inl 1
  |some (m,due)=>if 1<=m/\m<=6 then (match nk m due [] rs with
   |.inl k=>.inl k
   |.inr ks=>if (ks.length:Int)<due then .inl ((ks.length:Int)+2) else .inr (m,ks)) else .inl 1:=by unfold n5;rw[hw]<;>rfl
 unfold fv;rw[dN,show (some (D.str x)::List.replicate (6-1) none:Ro)=[some (.str x),none,none,none,none,none] from rfl];unfold lP;rw[aJ,aZ];rw[show hW cy (ah 0) (af (cC (D.str "\n")) aD) [some (.str x),none,none,none,none,none] Y=.ok (.obj Y.length) M1 from s0];simp only[ae,bx,aw,Td,Te];rw[aJ,aZ];simp only[aE,ao,az,bb,aK,ak,ai,aa,i0,GN (hm r0 (by simp)),ae,bx,aw,Td,Te];rw[aJ,bE,hrd];cases hp:eX "web" r0 with
 |none=>
  dsimp only;simp only[gf,b8,aK,bb,ak,ai,aa,nz,pD,D.isNon,a8,Qg,ae,QI,Qf,aY,bN,aR,xo];exact bD (by simp)
 |some md=>
  obtain⟨m,due⟩:=md;obtain⟨p1,p2⟩:=mS hp;dsimp only;simp only[gf,b8,aK,gU,bb,ak,ai,aa,nz,show pD (some (m,due))=.tup [.int m,.int due] from rfl,show (D.tup [D.int m,D.int due]).isNon=false from rfl,a8,QI,Qf,show cx (.tup [.int m,.int due]) (.int 0) M1=.ok (.int m) M1 from rfl];rw[show pX 1 7 (.int m) M1=.ok (.bl (!decide ((1:Int)<=m/\m<7))) M1 from rfl];simp only[aa,a8];by_cases hmm:1<=m/\m<=6
  ·rw [OA hmm, show decide ((1 : Int) <= m /\ m < 7) = true from QF (by omega)];simp only[RJ,ae,QI,Qf,bw,aw];rw[aJ,aZ,dH,az,aa,Rf,OA (QR _)];simp only[ae,bx,aw,Td,Te];rw[show M1++[O.lst []]=dM Y (r0::rs) [] [] from rfl,show M1.length=Y.length+1 from by simp[M1]];rw[aJ,jE];simp only[jL,ao,az,bb,aE,ak,ai,aa];rw[gk tY,aa,aa,aa];rw[zv (by omega) (by omega) (by omega) (by rw[PZ,QJ];omega)];simp only[ae,cq];rw[show ((((r0::rs).map D.str).length:Int)-1).toNat=rs.length from by rw[PZ,QJ];omega];obtain⟨l1,l2⟩:=Gi (x:=x) (m:=m) (due:=due) (Y:=Y) (rows:=r0::rs) (all:=dF 1 rs.length) rs [r0] [] [] none none rfl rfl zl (fun r hr=>hm r (by simp[hr])) (by simp;omega);rw[show ((([]:List (List Int)).length:Int)+1)=1 from rfl]at l1 l2;cases hg:nk m due [] rs with
   |inl k=>
    obtain⟨G',e⟩:=l1 k hg;rw[show [some (D.str x),some (.obj Y.length),some (.tup [.int m,.int due]),some (.obj (Y.length+1)),none,none]=dR x Y.length m due none none from rfl,e,bN,aR];exact bD (by simp[xo])
   |inr ks=>
    obtain⟨G',p4,p5,e⟩:=l2 ks hg;have hok:=(zb (x:=x) (m:=m) (due:=due) (N:=Y.length) g1 p2 (fun r hr=>hm r (by simp[hr])) (by omega)).2 ks hg;rw[show [some (D.str x),some (.obj Y.length),some (.tup [.int m,.int due]),some (.obj (Y.length+1)),none,none]=dR x Y.length m due none none from rfl,e,aw,aJ,bE];simp only[b8,aK,aE,ao,az,ak,ai,bb,aa];rw[gk mO];simp only[aa,show ∀M,cx (.tup [.int m,.int due]) (.int 1) M=.ok (.int due) M from fun _=>rfl,cW,a8,PZ];by_cases hc:(ks.length:Int)<due
    ·rw[show cj .Lt (ks.length:Int) due=true from QF hc];rw[OA hc];simp only[ae,Qg,aY,aK,aE,ao,az,ak,ai,bb,aa];rw[gk tY];simp only[aa,cS,ae,bN,aR,PZ,QJ,xo,lY];rw[show ((rs.length+1:Nat):Int)+1=(ks.length:Int)+2 from by omega];exact bD (by simp)
    ·rw[show cj .Lt (ks.length:Int) due=false from Ow hc];rw[OB hc];simp only[ae,QI,Qf,bw,aw,aY,f9,ao,az,aK,aE,ak,ai,bb,aa,show ∀M,cx (.tup [.int m,.int due]) (.int 0) M=.ok (.int m) M from fun _=>rfl];rw[tW mO];simp only[aa,QJ,Rf];rw[OA (show 0+1+1<=sizeLine by decide)];simp only[ae,aR,lY];exact bD (qo (fun k hk=>by obtain⟨a,b,e,_⟩:=hok.1.mem k hk;exact⟨a,b,e⟩) m)
  ·rw[OB hmm,show decide ((1:Int)<=m/\m<7)=false from Ow (by omega)];simp only[RN,ae,Qg,aY,bb,bN,aR,xo];exact bD (by simp)
end
theorem xE{fs:List (Str×Int)}(h:Y[n]?=some (.exn "NoText" fs)):lS subs ["NoText"] (.obj n) Y=.ok (.bl (subs.contains "NoText")) Y:=by
 unfold lS;dsimp only;rw[h];dsimp only;rw[OA (by decide +kernel)]
theorem Mi{i:Int}(h:Y[n]?=some (.exn "NoText" [("row",i)])):r8 ["NoText"] "row" (.obj n) Y=.ok (.int i) Y:=by
 unfold r8;dsimp only;rw[h];dsimp only;rw[OA (by decide +kernel)];rw[show List.lookup ("row" : Str) [("row",i)]=some i from by simp[QG]]
theorem l4:(4:Nat)<=sizeLine:=by decide
theorem l8:(8:Nat)<=sizeLine:=by decide
abbrev pT:List D:=[.str "place",.str "number",.str "line",.str "root",.str "tree",.str "web",.str "text",.str "great"]
abbrev kA:List D:=[D.bl false,D.bl false,D.bl false,D.bl false]
abbrev kB:List D:=[D.bl false,D.bl false,D.bl true,D.bl false]
abbrev kR(Y:aA):aA:=Y++[O.lst kA]++[O.lst kB]
abbrev kS(Y:aA):aA:=kR Y++[O.lst (kA++kB)]
theorem Lu{fs:List (Str×Int)}(h:Y[n]?=some (.exn "NoText" fs)):eB [.obj n] Y=.ok (.str "text") Y:=by
 have h1:(Y++[O.lst kA])[n]?=some (.exn "NoText" fs):=aS h;have h2:(kR Y)[n]?=some (.exn "NoText" fs):=aS h1;have h3:(kS Y)[n]?=some (.exn "NoText" fs):=aS h2;have m3:(kS Y)[(kR Y).length]?=some (.lst (kA++kB)):=aF;have m4:(kS Y++[O.lst pT])[(kR Y).length]?=some (.lst (kA++kB)):=aS m3;have k4:(kS Y++[O.lst pT])[(kS Y).length]?=some (.lst pT):=aF;have a1:=pG (Y:=kR Y) (a:=Y.length) (b:=(Y++[O.lst kA]).length) (xs:=kA) (ys:=kB) (aS aF) aF (show 8<=1000000 by decide)
 have c1:kX (.obj (kR Y).length) [.bl true] (kS Y)=.ok (.int 1) (kS Y):=by
  unfold kX;dsimp only;rw[m3];rfl
 have i1:kW (.obj (kR Y).length) [.bl true] (kS Y++[O.lst pT])=.ok (.int 6) (kS Y++[O.lst pT]):=by
  unfold kW;dsimp only;rw[m4];dsimp only;rw[OA ⟨by rfl,by simp,by rfl⟩];rfl
 have e3:xh (.obj (kR Y).length) (kS Y)=true:=by unfold xh;dsimp only;rw[m3]
 have e4:xh (.obj (kR Y).length) (kS Y++[O.lst pT])=true:=by unfold xh;dsimp only;rw[m4]
 have ct:((["NoText"]:List Str).contains "NoText")=true:=by decide +kernel
 have c0:(([]:List Str).contains "NoText")=false:=rfl;unfold eB;rw[dN];simp only[kJ,List.replicate,aJ,aZ,dH,ao,az,gU,ai,aa,ag,xE h,ct,c0];rw[OA (show kA.length<=sizeLine from l4)];simp only[ae,ag];rw[show aq 1 (D.obj Y.length) [some (D.obj n),none] (Y++[O.lst kA])=.ok [some (D.obj n),some (D.obj Y.length)] (Y++[O.lst kA]) from rfl];simp only[ae,aw,aJ,aZ,aK,dH,ao,az,gU,ai,ak,aa,ag,xE h1,ct,c0];rw[OA (show kB.length<=sizeLine from l4)];simp only[aa,ag];rw[a1];simp only[ae,ag];rw[show aq 1 (D.obj (kR Y).length) [some (D.obj n),some (D.obj Y.length)] (kS Y)=.ok [some (D.obj n),some (D.obj (kR Y).length)] (kS Y) from rfl];simp only[ae,aw,aJ,bE,gf,fA,gb,gU,aK,ao,az,ai,ak,bb,aa,ag,xE h3,ct,c0,cN,RJ,QI,Qf];unfold fQ;simp only[aK,pV,ao,az,ai,ak,bb,aa,ag,e3,Qg,c1,d5,a8];rw[show (!((1:Int) == 1))=false from rfl];simp only[ae,QI,Qf,bw,aw,aY,aK,dH,ao,az,bb,aa,ag];rw[OA (show [D.str "place",D.str "number",D.str "line",D.str "root",D.str "tree",D.str "web",D.str "text",D.str "great"].length<=sizeLine from l8)];simp only[aa,ag,pV,ao,az,ak,ai,bb,e4,Qg,i1];rw[fH (xs:=pT) (d:=.str "text") k4 (by rfl)];simp only[ae,ag,aR,Qy];exact bD (by simp)
theorem EC{d v:D}(h:cJ [d] Y=.ok v Y)(hv:v.low Y.length):cD [d] Y=.ok v Y:=by
 unfold cD;rw[dN,show (some d::List.replicate (2-1) none:Ro)=[some d,none] from rfl];unfold kD Bc
 rw[show fm [some d,none] Y=.ret v Y from by
  unfold fm
  simp only[aY,aE,ao,az,ai,aa,h,ae]]
 dsimp only;rw[aR];exact bt hv
theorem yW{g:aA}{d:D}{k:Int}(h:cJ [d] Y=.exc (RX k) (Y++g)):cD [d] Y=.ok (.int k) Y:=by
 let M:aA:=Y++g++[Gx (RX k)]
 have x2:M[(Y++g).length]?=some (.exn "NoText" [("row",k)]):=aF
 have e2:gT [none,some (.obj (Y++g).length)] M=.ret (.int k) M:=by
  unfold gT;rw[aJ,bE];simp only[gf,fA,gb,b8,aK,gU,aE,ao,az,ai,ak,bb,aa,Lu x2,NU,RJ,a8,QI,Qf,Mi x2,tx,cN,ae,bw,aw,aY,gU]
 unfold cD;rw[dN,show (some d::List.replicate (2-1) none:Ro)=[some d,none] from rfl];unfold kD Bc
 rw[show fm [some d,none] Y=.exc (RX k) (Y++g) from by
  unfold fm
  simp only[aY,aE,ao,az,ai,aa,h,rM]]
 dsimp only;rw[OA (show (["NoText"]:List Str).contains (RX k).cls=true from (by decide +kernel:(["NoText"]:List Str).contains "NoText" = true))];rw[show ((List.replicate 2 none).set 1 (some (.obj (Y++g).length)):Ro)=[none,some (.obj (Y++g).length)] from rfl];rw[show gT [none,some (.obj (Y++g).length)] (Y++g++[Gx (RX k)])=.ret (.int k) M from e2];rw[show (SO.ret (.int k) M).ro=.ret (.int k) M from rfl,aR];simp only[M,Qy];exact bD (by simp)
theorem IM{d:D}(h:fV "str" d Y=.ok (.bl false) Y):cJ [d] Y=.exc (RX 0) Y:=by
 unfold cJ;rw[dN];unfold mi;rw[aJ,bE];simp only[fA,gb,gU,ai,aa,h,cN,RN,ae,Qg];rw[jq (i:=0) (Y1:=Y) rfl,iU];rfl
theorem CD{d:D}(h:fV "str" d Y=.ok (.bl false) Y):cD [d] Y=.ok (.int 0) Y:=yW (g:=[]) (by rw[Pv];exact IM h)
theorem zk(h:zG m ks):∀k∈ks,xf m k:=fun k hk=>by
 obtain⟨a,b,e,h1,h2,h3⟩:=h.mem k hk;exact⟨a,b,e,h1,h2,by omega⟩
theorem Np(hk:∀k∈ks,xf m k):oC Y (oG (m,ks))=some (Hn m ks):=by
 have e:xg Y (.tup (ks.map aG))=some (.tuple (ks.map gH)):=by
  simp only[xg,nL hk,Option.map_some]
 unfold oC oG;dsimp only;simp only[iS,zI,xg,e,nL hk,Option.map_some,Option.bind_some];rfl
theorem NT(hk:∀k∈ks,xf m k):fS (Hn m ks)=true:=by
 have:=nM hk;simp only[fS,Hn,PyData.canLay0,PyData.canLayAll0,this.1,PyData.depth,PyData.depthAll,Tg,Tp];exact QF (by have:=this.2;omega)
theorem CK(h:zG m ks)(hl:ks.length<900):fq [oG (m,ks),oG (m,ks)] Y=.ok (.bl true) Y:=by
 have tu:cv [.tup (ks.map aG),.tup (ks.map aG)] Y=.ok (.bl true) Y:=zY (fun k hk=>by obtain⟨a,b,rfl,_⟩:=h.mem k hk;simp) (by omega);have ln:mv true (.int (([.int m,.tup (ks.map aG)]:List D).length:Int)) (.int 2) Y=.ok (.bl false) Y:=rfl;have es:=Sx (Y:=Y) (neg:=true) (Np (Y:=Y) (zk h)) (NT (zk h));unfold oG at es⊢;unfold fq;rw[dJ];simp only[lN,List.replicate];rw[aJ,bE];simp only[gf,fA,gb,gU,aK,b8,aE,ao,az,bb,ak,ai,aa,Ce,cN,RJ,QI,Qf,pC,ln,a8,ik,tx];simp only[aa,cN,RJ,QI,Qf,es,a8,ae,bw,aw,aY,aE,ao,az,aK,bb,ak,ai,jK,tu,aR];exact bt (by simp)
theorem vt(hx:x.length<=800):eJ [.str x] Y=.ok (.bl true) Y:=by
 have hd:=Io (Y:=Y) hx;obtain⟨r1,r2⟩:=Ls (Y:=Y) hx;unfold eJ;rw[dN,show (some (D.str x)::List.replicate (3-1) none:Ro)=[some (.str x),none,none] from rfl];unfold m7;rw[aJ,aZ];simp only[aE,ao,az,ai,aa,hd,ae,bx,aw,Td,Te];rw[aJ,aZ];cases hz:n5 x with
 |inl k=>
  obtain⟨g,e⟩:=r1 k hz;simp only[aE,ao,az,ai,aa,yW e,ae,bx,aw,Td,Te,xo];rw[aJ,bE];simp only[gb,gU,ak,ai,aa];rw[show fV "tuple" (.int k) Y=.ok (.bl false) Y from rfl];simp only[aa,cN,ae,QI,Qf,bw,aw,aY,zx,aE,ao,az,ak,ai,tx,a8,Qg,aK,d5,aR,QH];exact bt (by simp)
 |inr z=>
  obtain⟨e,h1,h6,ok,hl⟩:=r2 z hz;obtain⟨m,ks⟩:=z;have lw:(oG (m,ks)).low Y.length:=qo (fun k hk=>by obtain⟨a,b,e,_⟩:=ok.mem k hk;exact⟨a,b,e⟩) m;simp only[aE,ao,az,ai,aa,EC e lw,ae,bx,aw,Td,Te,xo];rw[aJ,bE];simp only[gb,gU,ak,ai,aa];rw[show fV "tuple" (oG (m,ks)) Y=.ok (.bl true) Y from rfl];simp only[aa,cN,ae,Qg,aY,aE,ao,az,ak,ai,CK ok hl,bN,aR];exact bt (by simp)
def Bd(k:Nat)(ts:List Str):Prop:=∀t∈ts,t.length<=k
section
variable{a b:Nat}{ts us:List Str}
theorem iV{i:Int}(h:M[n]?=some (.lst (ts.map D.str)))(h0:0<=i)(h1:i<ts.length):∃t,t∈ts/\cx (.obj n) (.int i) M=.ok (.str t) M:=by
 have hl:i.toNat<ts.length:=by omega
 refine⟨ts[i.toNat],Sj hl,fH h ?_⟩;unfold atI;rw[jD h0 (by rw[PZ];exact h1)];show (ts.map D.str)[i.toNat]?=_;rw[PU,Sk hl];rfl
theorem tM{hi:Option Int}(h:M[n]?=some (.lst (ts.map D.str))):∃us:List Str,(∀u∈us,u∈ts)/\us.length<=ts.length/\rO (.obj n) lo hi M=.ok (.obj M.length) (M++[.lst (us.map D.str)]):=by
 refine⟨jd ts lo hi,fun u hu=>?_,wQ ts lo hi,?_⟩
 ·unfold jd at hu;exact RC (RB hu)
 ·unfold rO;dsimp only;rw[h];dsimp only;congr 3;unfold jd;rw[PZ,Rx,Ry]
theorem gZ(ha:M[a]?=some (.lst (ts.map D.str)))(hb:M[b]?=some (.lst (us.map D.str)))(hl:ts.length+us.length<=1000):bo (.obj a) (.obj b) M=.ok (.obj M.length) (M++[.lst ((ts++us).map D.str)]):=by
 rw[pG ha hb (by rw[PZ,PZ];omega),Rv]
theorem vU{c:Nat}:∀{l:List Str},Bd k l->(Str.join ⟨#[c]⟩ l).length<=l.length*(k+1)
 |[],_=>QR _
 |[x],h=>by
  have:=h x (by simp);show x.length<=_;simp;omega
 |x::y::r,h=>by
  have e:(Str.join ⟨#[c]⟩ (x::y::r)).length=x.length+1+(Str.join ⟨#[c]⟩ (y::r)).length:=by
   show ((x++⟨#[c]⟩)++Str.join ⟨#[c]⟩ (y::r)).length=_;rw[Tu,Tu];rfl
  have h1:=vU (c:=c) (l:=y::r) fun t ht=>h t (by simp[ht]);have h2:=h x (by simp);rw[e,QJ,QD];omega
theorem HV{l:List Str}(h:Bd k l):(l.map (·.length)).sum<=l.length*k:=by
 induction l with
 |nil=>simp
 |cons x r ih=>
  have:=h x (by simp);have:=ih fun y hy=>h y (by simp[hy]);simp only[Qp,Tw,QJ,QD];omega
theorem su{c:Nat}(h:M[n]?=some (.lst (ts.map D.str)))(hb:Bd k ts)(hl:ts.length*(k+1)<=10000):∃y:Str,y.length<=ts.length*(k+1)/\d4 (.str ⟨#[c]⟩) [.obj n] M=.ok (.str y) M:=by
 have j1:=vU (c:=c) hb;have s1:=HV hb;have e1:ts.length*(k+1)=ts.length*k+ts.length:=Nat.mul_succ _ _;have z:sizeLine=16777216:=by decide
 have hj:JoinOk ⟨#[c]⟩ ts=true:=by
  unfold JoinOk Builtin.Str.tooLong;rw[Tx];simp only[TB,TC];have:(⟨#[c]⟩:Str).length=1:=rfl;rw[this,z];omega
 have hg:(Txt.join ⟨#[c]⟩ ts).length<=ts.length*(k+1):=by
  show (Builtin.Str.glued ⟨#[c]⟩ ts).length<=_;rw[Tt];exact j1
 refine⟨Txt.join ⟨#[c]⟩ ts,hg,?_⟩;unfold d4;dsimp only;rw[h];dsimp only;rw[oZ];dsimp only;rw[OA ⟨hj,by omega⟩]
theorem gY(ts:List Str)(hl:ts.length<=1000):(if (ts.map D.str).length<=sizeLine then aj.ok (D.obj M.length) (M++[O.lst (ts.map D.str)]) else .bad)=.ok (.obj M.length) (M++[.lst (ts.map D.str)]):=by
 rw[OA (by rw[PZ];exact OI hl cR)]
theorem DS{t:Str}(h:M[n]?=some (.lst (ts.map D.str)))(hl:ts.length<=1000):dP (.obj n) [.str t] M=.ok .non (M.set n (.lst ((ts++[t]).map D.str))):=by
 unfold dP;dsimp only;rw[h];dsimp only;rw[OA (by rw[PZ];exact OD (show ts.length<1001 by omega) (by decide)),Rv];rfl
end
theorem Cu(c:Nat):∀l:List Nat,(StrLaws.dbl c l).length<=2*l.length
 |[]=>by simp[StrLaws.dbl]
 |x::l=>by
  have:=Cu c l;unfold StrLaws.dbl;split <;> simp <;> omega
theorem IL (x:Str):(Txt.replace x " " "  ").length<=2*x.length:=by
 have e:=StrLaws.replace_double x 32;rw[show (⟨#[32]⟩:Str) = " " from by decide +kernel,show (⟨#[32,32]⟩:Str) = "  " from by decide +kernel]at e;have h:=Cu 32 x.cps.toList;rw[<- e]at h;simpa[Str.length] using h
def Ks:Str:=" !#$&'()*+,-./0123456789:;<=>?@ABCDEFGHIJKLMNOPQRSTUVWXYZ[]^_`abcdefghijklmnopqrstuvwxyz{|}~" ++ "\"\\"
def uG:List Str:=Ks.cps.toList.map fun c=>⟨#[c]⟩
theorem Ly:dr Ks=uG.map D.str:=by unfold dr uG;rw[Rb];rfl
theorem pd:uG.length=94:=by decide +kernel
theorem BW:Bd 1 uG:=fun t ht=>by
 obtain⟨c,_,rfl⟩:=Rk.mp ht;exact Pf 1
theorem CM:gq [] Y=.ok (.obj Y.length) (Y++[.lst (uG.map D.str)]):=by
 unfold gq;rw[show hU 0 1 iu [] Y=oX Y (iu [none] Y).out from rfl];unfold iu;rw[aJ,aZ];simp only[bb,ae,bx,aw,Te,aY,aE,ao,az,aK,ai,aa];rw[show bo (.str " !#$&'()*+,-./0123456789:;<=>?@ABCDEFGHIJKLMNOPQRSTUVWXYZ[]^_`abcdefghijklmnopqrstuvwxyz{|}~") (.str "\"\\") Y=.ok (.str Ks) Y from Pr (by decide +kernel)];simp only[aa]
 rw[show qf [.str Ks] Y=.ok (.obj Y.length) (Y++[.lst (dr Ks)]) from by
  unfold qf;dsimp only
  rw[OA (OI (show Ks.length<=1000 by decide +kernel) cR)],Ly]
 simp only[ae,aR];exact Bz (by simp)
def rh:List Str:=["", "0", "00", "-1", "+1", "1.0", "6", "7",("1" : Str)++ki "0" 19,ki "1" 21, "web", "tie", "01", "7"]
theorem FQ:Bd 21 rh:=by
 have:(rh.all fun t=>decide (t.length<=21))=true:=by decide +kernel
 intro t ht;exact To (RI.mp this t ht)
theorem KY{k:Int}(h1:2<=k)(h2:k<=1000)(h3:x.length=1):n8 (.str x) (.int k) M=.ok (.str (ki x k.toNat)) M:=by
 unfold n8;dsimp only;rw[OA ⟨h1,h2,h3⟩]
theorem MY{hi:Option Int}(h:x.length<=30):∃y:Str,y.length<=30/\Eh (.str x) lo hi M=.ok (.str y) M:=by
 refine⟨Txt.slice x lo hi,OI (Txt.slice_le x _ _) h,?_⟩;unfold Eh;dsimp only;rw[OA (OI (OI h (by decide:30<=1000)) cR)]
section
variable{a b c:Int}{row:Str}
structure Rw(row:Str):Prop where
 len:row.length<=30
 ws:(Txt.split row " ").length=3
 up:(Txt.upper row).length<=30
theorem Gy{l:Nat}(hx:x.length<=k)(hy:y.length<=l)(h:k+l<=1000):bo (.str x) (.str y) M=.ok (.str (x++y)) M/\(x++y).length<=k+l:=
 ⟨Pr (by omega),by rw[Tu];omega⟩
theorem Il(hp:Y[i]?=some (cO a b c))(h:Rw row):∃y a' b' c',(y:Str).length<=220/\ef [.obj i,.str row] Y=.ok (.str y) (Y.set i (cO a' b' c')):=by
 have hi:i<Y.length:=(OS.mp hp).1;have l5:row.length<=100000:=OI h.len (by decide);obtain⟨ws,hws⟩:∃ws,ws=Txt.split row " " := ⟨_,rfl⟩;have hw3:ws.length=3:=by rw[hws];exact h.ws
 have wb:Bd 30 ws:=fun t ht=>by
  rw[hws,D0]at ht;exact OI (kO ht) h.len
 let W:=Y.length
 let M1:aA:=Y++[O.lst (ws.map D.str)]
 have s1:cy (.str row) [.str " "] Y=.ok (.obj W) M1:=by
  have:=kq (c:=32) (Y:=Y) l5;rw[<- D0,<- hws]at this;exact this
 have P1:Pn Y i M1:=(Pn.self hp).app;have w1:M1[W]?=some (.lst (ws.map D.str)):=aF;obtain⟨v1,a1,b1,c1,v10,v11,e1,P2⟩:=P1.draw (m:=3) hi (by decide) (by decide);let M2:aA:=M1.set i (cO a1 b1 c1)
 have w2:M2[W]?=some (.lst (ws.map D.str)):=bz w1 (by show i≠Y.length;omega);let S:=M2.length
 let M3:aA:=M2++[O.lst (uG.map D.str)]
 have w3:M3[W]?=some (.lst (ws.map D.str)):=aS w2;have g3:M3[S]?=some (.lst (uG.map D.str)):=aF;have P3:Pn Y i M3:=P2.app;have hS:Y.length<=S:=P2.len;let O':=M3.length
 let M4:aA:=M3++[O.lst (rh.map D.str)]
 have w4:M4[W]?=some (.lst (ws.map D.str)):=aS w3;have g4:M4[S]?=some (.lst (uG.map D.str)):=aS g3;have o4:M4[O']?=some (.lst (rh.map D.str)):=aF;have P4:Pn Y i M4:=P3.app;have hO:Y.length<=O':=P3.len;have nS:S<O':=by show M2.length<(M2++[O.lst (uG.map D.str)]).length;simp
 have nW:W<S:=by show Y.length<(M1.set i (cO a1 b1 c1)).length;simp[M1]
 obtain⟨v2,a2,b2,c2,v20,v21,e2,P5⟩:=P4.draw (m:=94) hi (by decide) (by decide);let M5:aA:=M4.set i (cO a2 b2 c2)
 have w5:M5[W]?=some (.lst (ws.map D.str)):=bz w4 (by show i≠Y.length;omega);have g5:M5[S]?=some (.lst (uG.map D.str)):=bz g4 (by omega);have o5:M5[O']?=some (.lst (rh.map D.str)):=bz o4 (by omega);obtain⟨t2,ht2,x2⟩:=iV g5 v20 (by rw[pd];exact v21);let M6:aA:=M5.set O' (.lst ((rh++[t2]).map D.str))
 have q6:dP (.obj O') [.str t2] M5=.ok .non M6:=DS o5 (by decide);have P6:Pn Y i M6:=P5.put hO;have w6:M6[W]?=some (.lst (ws.map D.str)):=bz w5 (by omega);have g6:M6[S]?=some (.lst (uG.map D.str)):=bz g5 (by omega);have o6:M6[O']?=some (.lst ((rh++[t2]).map D.str)):=OU (OS.mp o5).1
 have ob:Bd 21 (rh++[t2]):=fun t ht=>by
  rcases OQ.mp ht with ht|ht
  ·exact FQ t ht
  ·rw[QS.mp ht];exact OI (BW t2 ht2) (by decide)
 obtain⟨u1,hu1,lu1,y1⟩:=tM (lo:=none) (hi:=some v1) w6;let M7:aA:=M6++[O.lst (u1.map D.str)]
 have P7:Pn Y i M7:=P6.app;obtain⟨v3,a3,b3,c3,v30,v31,e3,P8⟩:=P7.draw (m:=15) hi (by decide) (by decide);let M8:aA:=M7.set i (cO a3 b3 c3)
 have lM6:Y.length<=M6.length:=P6.len;have w8:M8[W]?=some (.lst (ws.map D.str)):=bz (aS w6) (by show i≠Y.length;omega);have g8:M8[S]?=some (.lst (uG.map D.str)):=bz (aS g6) (by omega);have o8:M8[O']?=some (.lst ((rh++[t2]).map D.str)):=bz (aS o6) (by omega);have u8:M8[M6.length]?=some (.lst (u1.map D.str)):=bz (show M7[M6.length]?=_ from aF) (by omega);obtain⟨t3,ht3,x3⟩:=iV o8 v30 (by rw[PY];exact v31);let M9:aA:=M8++[O.lst ([t3].map D.str)]
 have a9:bo (.obj M6.length) (.obj M8.length) M9=.ok (.obj M9.length) (M9++[O.lst ((u1++[t3]).map D.str)]):=gZ (aS u8) aF (by simp;omega);let MAx:aA:=M9++[O.lst ((u1++[t3]).map D.str)]
 have wA:MAx[W]?=some (.lst (ws.map D.str)):=aS (aS w8);have gA:MAx[S]?=some (.lst (uG.map D.str)):=aS (aS g8);obtain⟨u2,hu2,lu2,y2⟩:=tM (lo:=some (v1+1)) (hi:=none) wA;let MB:aA:=MAx++[O.lst (u2.map D.str)]
 have aB:bo (.obj M9.length) (.obj MAx.length) MB=.ok (.obj MB.length) (MB++[O.lst ((u1++[t3]++u2).map D.str)]):=gZ (aS aF) aF (by simp;omega);let MC:aA:=MB++[O.lst ((u1++[t3]++u2).map D.str)]
 have PC:Pn Y i MC:=((((P8.app).app).app).app);have wC:MC[W]?=some (.lst (ws.map D.str)):=aS (aS wA);have gC:MC[S]?=some (.lst (uG.map D.str)):=aS (aS gA);have nC:MC[MB.length]?=some (.lst ((u1++[t3]++u2).map D.str)):=aF;have lB:Y.length<=MB.length:=(((P8.app).app).app:Pn Y i MB).len
 have nb:Bd 30 (u1++[t3]++u2):=fun t ht=>by
  rcases OQ.mp ht with ht|ht
  ·rcases OQ.mp ht with ht | ht
   ·exact wb t (hu1 t ht)
   ·rw[QS.mp ht];exact OI (ob t3 ht3) (by decide)
  ·exact wb t (hu2 t ht)
 obtain⟨v4,a4,b4,c4,v40,v41,e4,PD⟩:=PC.draw (m:=(row.length:Int)+1) hi (by omega) (by have:=h.len;omega);let MD:aA:=MC.set i (cO a4 b4 c4)
 have wD:MD[W]?=some (.lst (ws.map D.str)):=bz wC (by show i≠Y.length;omega);have gD:MD[S]?=some (.lst (uG.map D.str)):=bz gC (by omega);have nD:MD[MB.length]?=some (.lst ((u1++[t3]++u2).map D.str)):=bz nC (by omega);obtain⟨v5,a5,b5,c5,v50,v51,e5,PE'⟩:=PD.draw (m:=94) hi (by decide) (by decide);let ME':aA:=MD.set i (cO a5 b5 c5)
 have wE:ME'[W]?=some (.lst (ws.map D.str)):=bz wD (by show i≠Y.length;omega);have gE:ME'[S]?=some (.lst (uG.map D.str)):=bz gD (by omega);have nE:ME'[MB.length]?=some (.lst ((u1++[t3]++u2).map D.str)):=bz nD (by omega);obtain⟨t5,ht5,x5⟩:=iV gE v50 (by rw[pd];exact v51);have k5:t5.length<=1:=BW t5 ht5;obtain⟨p1,p1l,p1e⟩:=MY (x:=row) (lo:=none) (hi:=some v4) (M:=ME') h.len;obtain⟨p2,p2l,p2e⟩:=MY (x:=row) (lo:=some v4) (hi:=none) (M:=ME') h.len;obtain⟨p3,p3l,p3e⟩:=MY (x:=row) (lo:=some (v4+1)) (hi:=none) (M:=ME') h.len;obtain⟨r1,r1l⟩:=Gy (M:=ME') p1l k5 (by decide);obtain⟨r2,r2l⟩:=Gy (M:=ME') r1l p2l (by decide);obtain⟨r3,r3l⟩:=Gy (M:=ME') p1l p3l (by decide);obtain⟨r4,r4l⟩:=Gy (M:=ME') r1l p3l (by decide);have one1:(" " : Str).length<=1:=by decide +kernel
 have one2:(" 0" : Str).length<=2:=by decide +kernel
 have one3:("0" : Str).length<=1:=by decide +kernel
 obtain⟨r5,r5l⟩:=Gy (M:=ME') one1 h.len (by decide);let sm:List Str:=[p1++t5++p2,p1++p3,p1++t5++p3, "",(" " : Str)++row]
 let MF:aA:=ME'++[O.lst (sm.map D.str)]
 have wF:MF[W]?=some (.lst (ws.map D.str)):=aS wE;have nF:MF[MB.length]?=some (.lst ((u1++[t3]++u2).map D.str)):=aS nE;have sF:MF[ME'.length]?=some (.lst (sm.map D.str)):=aF;have PF:Pn Y i MF:=PE'.app;obtain⟨q1,q1l⟩:=Gy (M:=MF) h.len one1 (by decide)
 have rp:yL " " "  " (.str row) MF=.ok (.str (Txt.replace row " " "  ")) MF:=by
  unfold yL;dsimp only;rw[OA ⟨by decide +kernel,OI h.len (by decide),by decide +kernel⟩]
 obtain⟨u3,hu3,lu3,y3⟩:=tM (lo:=none) (hi:=some (-1)) wF;let MG':aA:=MF++[O.lst (u3.map D.str)]
 obtain⟨jn,jnl,jne⟩:=su (c:=32) (M:=MG') (n:=MF.length) (ts:=u3) aF (fun t ht=>wb t (hu3 t ht)) (by rw[hw3]at lu3;omega);obtain⟨q2,q2l⟩:=Gy (M:=MG') h.len one2 (by decide);obtain⟨q3,q3l⟩:=Gy (M:=MG') h.len one3 (by decide)
 have up:Kr (.str row) MG'=.ok (.str (Txt.upper row)) MG':=by
  unfold Kr;dsimp only;rw[OA (OI (OI h.up (by decide:30<=1000)) cR)]
 let sn:List Str:=[row ++ " ",Txt.replace row " " "  ",jn,row ++ " 0",row ++ "0",Txt.upper row]
 let MH:aA:=MG'++[O.lst (sn.map D.str)]
 have aH:bo (.obj ME'.length) (.obj MG'.length) MH=.ok (.obj MH.length) (MH++[O.lst ((sm++sn).map D.str)]):=gZ (aS (aS sF)) aF (by show 5+6<=1000;decide);let MI:aA:=MH++[O.lst ((sm++sn).map D.str)]
 have PI':Pn Y i MI:=((PF.app).app).app;have lH:Y.length<=MH.length:=((PF.app).app:Pn Y i MH).len;have nI:MI[MB.length]?=some (.lst ((u1++[t3]++u2).map D.str)):=aS (aS (aS nF));have sI:MI[MH.length]?=some (.lst ((sm++sn).map D.str)):=aF;obtain⟨v6,a6,b6,c6,v60,v61,e6,PJ⟩:=PI'.draw (m:=16) hi (by decide) (by decide);let MJ':aA:=MI.set i (cO a6 b6 c6)
 have nJ:MJ'[MB.length]?=some (.lst ((u1++[t3]++u2).map D.str)):=bz nI (by omega);have sJ:MJ'[MH.length]?=some (.lst ((sm++sn).map D.str)):=bz sI (by omega);have lu1':u1.length<=3:=by omega
 have lu2':u2.length<=3:=by omega
 have lu3':u3.length<=3:=by omega
 obtain⟨jm,jml,jme⟩:=su (c:=32) (M:=MJ') (n:=MB.length) (ts:=u1++[t3]++u2) nJ nb (by simp;omega)
 have jml':jm.length<=220:=by
  have:(u1++[t3]++u2).length<=7:=by simp;omega
  omega
 have smb:Bd 220 (sm++sn):=by
  have hr:=IL row;have hl:=h.len;have hu:=h.up;have:(("" : Str)).length<=220:=by decide +kernel
  intro t ht;simp only[sm,sn,Rh,QE,OO,Q5,Q6]at ht;rcases ht with rfl|rfl|rfl|rfl|rfl|rfl|rfl|rfl|rfl|rfl|rfl <;> omega
 have lsm:(sm++sn).length=11:=rfl
 have run:∃y:Str,y.length<=220/\iM [some (.obj i),some (.str row),none,none,none,none,none,none,none,none,none] Y=.ret (.str y) MJ':=by
  unfold iM;rw[aJ,aZ];rw[show hW cy (ah 1) (af (cC (D.str " ")) aD) [some (.obj i),some (.str row),none,none,none,none,none,none,none,none,none] Y=.ok (.obj W) M1 from s1];simp only[ae,bx,aw,Td,Te];rw[aJ,aZ];simp only[aE,ao,az,ai,ak,aa];rw[gk w1];simp only[aa];rw[show aL [.obj i,.int ((ws.map D.str).length:Int)] M1=.ok (.int v1) M2 from by rw[PZ,hw3];exact e1];simp only[ae,bx,aw,Td,Te];rw[aJ,aZ];simp only[aE,az,aa];rw[CM];simp only[ae,bx,aw,Td,Te];rw[aJ,aZ]
  rw[show fT (af (cC (.str "")) (af (cC (.str "0")) (af (cC (.str "00")) (af (cC (.str "-1")) (af (cC (.str "+1")) (af (cC (.str "1.0")) (af (cC (.str "6")) (af (cC (.str "7")) (af (av bo (cC (.str "1")) (av n8 (cC (.str "0")) (cC (.int 19)))) (af (av n8 (cC (.str "1")) (cC (.int 21))) (af (cC (.str "web")) (af (cC (.str "tie")) (af (cC (.str "01")) (af (cC (.str "7")) (aD))))))))))))))) [some (.obj i),some (.str row),some (.obj W),some (.int v1),some (.obj S),none,none,none,none,none,none] M3=.ok (.obj O') M4 from by
   rw[dH];simp only[ao,az,bb,aK,aa,KY (x:="0") (k:=19) (by decide) (by decide) (by decide +kernel),KY (x:="1") (k:=21) (by decide) (by decide) (by decide +kernel)];rw[Pr (by decide +kernel)]
   exact gY rh (by decide)]
  simp only[ae,bx,aw,Td,Te];rw[aJ,mM,pV];simp only[ak,ai,aa];rw[show xh (.obj O') M4=true from by unfold xh;dsimp only;rw[o4]];simp only[Qg,ao,az,aK,aE,ak,ai,aa];rw[gk g4];simp only[aa];rw[show aL [.obj i,.int ((uG.map D.str).length:Int)] M4=.ok (.int v2) M5 from by rw[PZ,pd];exact e2];simp only[aa];rw[x2];simp only[aa];rw[q6];simp only[ae,aw];rw[aJ,aZ];simp only[aK,lF,ak,ai,h7,dc,gh,aa];rw[y1];simp only[aa,dH,ao,az,aK,aE,ak,ai,bb];rw[show aL [.obj i,.int 15] (M6++[O.lst (u1.map D.str)])=.ok (.int v3) M8 from e3];simp only[aa];rw[x3];simp only[aa];rw[show (if ([D.str t3]:List D).length<=sizeLine then aj.ok (D.obj M8.length) (M8++[O.lst [D.str t3]]) else .bad)=.ok (.obj M8.length) M9 from gY [t3] (by show 1<=1000;decide)];simp only[aa];rw[a9];simp only[aa,cS,gh];rw[y2];simp only[aa];rw[aB];simp only[ae,bx,aw,Td,Te];rw[aJ,aZ];simp only[aE,ao,az,aK,bb,ak,ai,aa,kv l5,cS];rw[show aL [.obj i,.int ((row.length:Int)+1)] (MB++[O.lst ((u1++[t3]++u2).map D.str)])=.ok (.int v4) MD from e4];simp only[ae,bx,aw,Td,Te];rw[aJ,aZ];simp only[aK,aE,ao,az,ak,ai,aa];rw[gk gD];simp only[aa];rw[show aL [.obj i,.int ((uG.map D.str).length:Int)] MD=.ok (.int v5) ME' from by rw[PZ,pd];exact e5];simp only[aa];rw[x5];simp only[ae,bx,aw,Td,Te];rw[aJ,aZ]
  rw[show fT (af (av bo (av bo (jA (ah 1) (j4) (bZ (ah 7))) (ah 8)) (jA (ah 1) (bZ (ah 7)) (j4))) (af (av bo (jA (ah 1) (j4) (bZ (ah 7))) (jA (ah 1) (bZ (av bo (ah 7) (cC (.int 1)))) (j4))) (af (av bo (av bo (jA (ah 1) (j4) (bZ (ah 7))) (ah 8)) (jA (ah 1) (bZ (av bo (ah 7) (cC (.int 1)))) (j4))) (af (cC (.str "")) (af (av bo (cC (.str " ")) (ah 1)) (aD)))))) [some (.obj i),some (.str row),some (.obj W),some (.int v1),some (.obj S),some (.obj O'),some (.obj MB.length),some (.int v4),some (.str t5),none,none] ME'=.ok (.obj ME'.length) MF from by
   obtain⟨R,hR⟩:∃R:Ro,R=[some (.obj i),some (.str row),some (.obj W),some (.int v1),some (.obj S),some (.obj O'),some (.obj MB.length),some (.int v4),some (.str t5),none,none]:=⟨_,rfl⟩;rw[<- hR];have k1:ah 1 R ME'=.ok (.str row) ME':=by rw[hR];rfl
   have k7:ah 7 R ME'=.ok (.int v4) ME':=by rw[hR];rfl
   have k8:ah 8 R ME'=.ok (.str t5) ME':=by rw[hR];rfl
   have z1:jA (ah 1) j4 (bZ (ah 7)) R ME'=.ok (.str p1) ME':=by
    unfold jA;simp only[k1,h7,dc,k7,aa,gh,p1e]
   have z2:jA (ah 1) (bZ (ah 7)) j4 R ME'=.ok (.str p2) ME':=by
    unfold jA;simp only[k1,h7,dc,k7,aa,gh,p2e]
   have z3:jA (ah 1) (bZ (av bo (ah 7) (cC (.int 1)))) j4 R ME'=.ok (.str p3) ME':=by
    unfold jA;simp only[k1,h7,dc,aK,k7,bb,cS,aa,gh,p3e]
   rw[dH];simp only[ao,az,aK,bb,z1,z2,z3,k1,k8,aa,r1,r2,r3,r4,r5]
   exact gY sm (by show 5<=1000;decide)]
  simp only[ae,bx,aw,Td,Te];rw[aJ,aZ,aK];obtain⟨R,hR⟩:∃R:Ro,R=[some (.obj i),some (.str row),some (.obj W),some (.int v1),some (.obj S),some (.obj O'),some (.obj MB.length),some (.int v4),some (.str t5),some (.obj ME'.length),none]:=⟨_,rfl⟩;have k9:ah 9 R MF=.ok (.obj ME'.length) MF:=by rw[hR];rfl
  have k1:∀M,ah 1 R M=.ok (.str row) M:=fun M=>by rw[hR];rfl
  have k2:ah 2 R MF=.ok (.obj W) MF:=by rw[hR];rfl
  have jj:hW d4 (cC (.str " ")) (af (qW (ah 2) (j4) (bZ (i7 sY (cC (.int 1))))) (aD)) R MF=.ok (.str jn) MG':=by
   rw[show ∀k:MA,hW d4 (cC (.str " ")) k R MF=(k R MF).bind (fun ds Y2=>d4 (.str " ") ds Y2) from fun _=>rfl];simp only[ao,az,lF,k2,h7,dc,gU,bb,Cq,gh,aa];rw[y3];simp only[aa];rw[D0];exact jne
  have ls:fT (af (av bo (ah 1) (cC (.str " "))) (af (u9 " " "  " (ah 1)) (af (hW d4 (cC (.str " ")) (af (qW (ah 2) (j4) (bZ (i7 sY (cC (.int 1))))) (aD))) (af (av bo (ah 1) (cC (.str " 0"))) (af (av bo (ah 1) (cC (.str "0"))) (af (i7 Kr (ah 1)) (aD))))))) R MF=.ok (.obj MG'.length) MH:=by
   rw[dH];simp only[ao,az,aK,gU,u9,bb,k1,aa,q1,rp,jj,q2,q3,up];exact gY sn (by show 6<=1000;decide)
  rw[<- hR,k9,aa,ls,aa,aH,hR];simp only[ae,bx,aw,Td,Te];rw[aJ,aZ];simp only[aE,ao,az,bb,ak,ai,aa];rw[show aL [.obj i,.int 16] (MH++[O.lst ((sm++sn).map D.str)])=.ok (.int v6) MJ' from e6];simp only[ae,bx,aw,Td,Te];rw[aJ,bE];simp only[b8,aK,bb,ak,ai,aa,cW,a8];by_cases hv:v6<11
  ·rw[show cj .Lt v6 11=true from QF hv];obtain⟨t6,ht6,x6⟩:=iV sJ v60 (by rw[lsm];exact hv);refine⟨t6,smb t6 ht6,?_⟩;simp only[ae,Qg,aY,aK,ak,ai,aa];rw[x6];simp only[ae,bN]
  ·rw[show cj .Lt v6 11=false from Ow hv];refine⟨jm,jml',?_⟩;simp only[ae,QI,Qf,bw,aw,aY];rw[show ∀(k:MA) (R:Ro),hW d4 (cC (.str " ")) k R MJ'=(k R MJ').bind (fun ds Y2=>d4 (.str " ") ds Y2) from fun _ _=>rfl];simp only[ao,az,ak,ai,aa];rw[D0,jme];simp only[ae]
 obtain⟨y,yl,ey⟩:=run;obtain⟨a',b',c',eg⟩:=PJ.gc (d:=.str y) (by simp);refine⟨y,a',b',c',yl,?_⟩;unfold ef;rw[dJ,show (some (D.obj i)::some (D.str row)::List.replicate (11-2) none:Ro)=[some (.obj i),some (.str row),none,none,none,none,none,none,none,none,none] from rfl,ey,aR];exact eg
end
def rN(ts:List Str):Nat:=(ts.map fun t=>t.length+1).sum
theorem yV(a b:List Str):rN (a++b)=rN a+rN b:=by unfold rN;rw[Rv,List.sum_append]
theorem lT{k:Nat}:∀{ts:List Str},Bd k ts->rN ts<=ts.length*(k+1)
 |[],_=>by simp[rN]
 |t::ts,h=>by
  have h1:=lT (ts:=ts) fun x hx=>h x (by simp[hx]);have h2:=h t (by simp);unfold rN at h1⊢;rw[Qp,Tw,QJ,QD];omega
theorem vT{c:Nat}:∀(l:List Str),(Str.join ⟨#[c]⟩ l).length<=rN l
 |[]=>QR _
 |[x]=>by
  show x.length<=_;simp[rN]
 |x::y::r=>by
  have e:(Str.join ⟨#[c]⟩ (x::y::r)).length=x.length+1+(Str.join ⟨#[c]⟩ (y::r)).length:=by
   show ((x++⟨#[c]⟩)++Str.join ⟨#[c]⟩ (y::r)).length=_;rw[Tu,Tu];rfl
  have h1:=vT (c:=c) (y::r);have e2:rN (x::y::r)=x.length+1+rN (y::r):=by simp[rN]
  rw[e,e2];omega
theorem EF(l:List Str):(l.map (·.length)).sum+l.length=rN l:=by
 induction l with
 |nil=>rfl
 |cons x r ih=>
  unfold rN at ih⊢;simp only[Qp,Tw,QJ];omega
theorem L6{ts:List Str}(h:M[n]?=some (.lst (ts.map D.str)))(ht:rN ts<=800):∃y:Str,y.length<=800/\d4 (.str "\n") [.obj n] M=.ok (.str y) M:=by
 have j1:=vT (c:=10) ts;have s1:=EF ts;have z:sizeLine=16777216:=by decide
 have hj:JoinOk ⟨#[10]⟩ ts=true:=by
  unfold JoinOk Builtin.Str.tooLong;rw[Tx];simp only[TB,TC];have:(⟨#[10]⟩:Str).length=1:=rfl;rw[this,z];omega
 have hg:(Txt.join ⟨#[10]⟩ ts).length<=rN ts:=by
  show (Builtin.Str.glued ⟨#[10]⟩ ts).length<=_;rw[Tt];exact j1
 rw[nl];refine⟨Txt.join ⟨#[10]⟩ ts,by omega,?_⟩;unfold d4;dsimp only;rw[h];dsimp only;rw[oZ];dsimp only;rw[OA ⟨hj,by omega⟩]
section
variable{ts:List Str}
theorem Br{v:Int}(h:M[n]?=some (.lst (ts.map D.str)))(h0:0<=v):rO (.obj n) none (some v) M=.ok (.obj M.length) (M++[.lst ((ts.take v.toNat).map D.str)]):=by
 unfold rO;dsimp only;rw[h];dsimp only;congr 3;obtain⟨k,rfl⟩:=Tv h0;unfold jd;rw[HT.sIx_none,show HT.sIx (ts.map D.str).length (ts.map D.str).length (some (k:Int))=min k (ts.map D.str).length from HT.sIx_nat _ _ k];simp[Rx]
theorem tN{v:Int}(h:M[n]?=some (.lst (ts.map D.str)))(h0:0<=v):rO (.obj n) (some v) none M=.ok (.obj M.length) (M++[.lst ((ts.drop v.toNat).map D.str)]):=by
 unfold rO;dsimp only;rw[h];dsimp only;congr 3;obtain⟨k,rfl⟩:=Tv h0;unfold jd;rw[HT.sIx_none,show HT.sIx (ts.map D.str).length 0 (some (k:Int))=min k (ts.map D.str).length from HT.sIx_nat _ _ k];rw[Rj (by simp),Ry];simp only[Qd];by_cases hk:k<=(ts.map D.str).length
 ·rw[Nat.min_eq_left hk]
 ·rw[Nat.min_eq_right (by omega),S7.mpr (by omega),S7.mpr (by omega)]
end
theorem α9{r:Nat}(h:Y.length<=r\/M.length=Y.length):oX Y (.ok (.obj r) M)=.ok (.obj r) M:=by
 rcases Ck (Y:=Y) (d:=.obj r) (Y':=M) with e|⟨e,hl⟩
 ·exact e
 ·rw [e];simp at hl;rcases h with h|h
  ·omega
  ·rw[Rj (by omega)]
section
variable{L:Nat}
theorem z6(h:Pn Y0 i Y)(hi:i<Y0.length)(hL:Y0.length<=L)(hr:Y[L]?=some (.lst (rows.map D.str)))(h1:1<=rows.length)(h16:rows.length<=16)(hw:∀r∈rows,Rw r) :
  ∃r M' ts,di [.obj i,.obj L] Y=.ok (.obj r) M'/\Pn Y0 i M'/\M'[r]?=some (.lst ((ts:List Str).map D.str))/\rN ts<=800:=by
 have rb:Bd 30 rows:=fun t ht=>(hw t ht).len;have hLl:L<Y.length:=(OS.mp hr).1;obtain⟨v1,a1,b1,c1,v10,v11,e1,P1⟩:=h.draw (m:=rows.length) hi (by omega) (by omega);let M1:aA:=Y.set i (cO a1 b1 c1)
 have r1:M1[L]?=some (.lst (rows.map D.str)):=bz hr (by omega);obtain⟨v2,a2,b2,c2,v20,v21,e2,P2⟩:=P1.draw (m:=rows.length) hi (by omega) (by omega);let M2:aA:=M1.set i (cO a2 b2 c2)
 have r2:M2[L]?=some (.lst (rows.map D.str)):=bz r1 (by omega);obtain⟨v3,a3,b3,c3,v30,v31,e3,P3⟩:=P2.draw (m:=8) hi (by decide) (by decide);let M3:aA:=M2.set i (cO a3 b3 c3)
 have r3:M3[L]?=some (.lst (rows.map D.str)):=bz r2 (by omega);have lM3:M3.length=Y.length:=by simp[M3,M2,M1]
 suffices z:∃r M' ts,gP [some (.obj i),some (.obj L),none,none,none] Y=.ret (.obj r) M'/\(Y.length<=r\/M'.length=Y.length)/\Pn Y0 i M'/\M'[r]?=some (.lst ((ts:List Str).map D.str))/\rN ts<=800 by
  obtain⟨r,M',ts,z1,z2,z3,z4,z5⟩:=z;refine⟨r,M',ts,?_,z3,z4,z5⟩;unfold di;rw[dJ,show (some (D.obj i)::some (D.obj L)::List.replicate (5-2) none:Ro)=[some (.obj i),some (.obj L),none,none,none] from rfl,z1,aR];exact α9 z2
 unfold gP;rw[aJ]
 rw[show Ef 2 3 (af (aI aL (af (ah 0) (af (aI d3 (af (ah 1) (aD))) (aD)))) (af (aI aL (af (ah 0) (af (aI d3 (af (ah 1) (aD))) (aD)))) (aD))) [some (.obj i),some (.obj L),none,none,none] Y=.next [some (.obj i),some (.obj L),some (.int v1),some (.int v2),none] M2 from by
  unfold Ef;simp only[ao,az,aE,ak,ai,aa];rw[gk hr];simp only[aa];rw[show aL [.obj i,.int ((rows.map D.str).length:Int)] Y=.ok (.int v1) M1 from by rw[PZ];exact e1];simp only[aa];rw[gk r1];simp only[aa];rw[show aL [.obj i,.int ((rows.map D.str).length:Int)] M1=.ok (.int v2) M2 from by rw[PZ];exact e2]
  rfl]
 rw[aw,aJ,aZ];simp only[aE,ao,az,bb,ak,ai,aa];rw[show aL [.obj i,.int 8] M2=.ok (.int v3) M3 from e3];simp only[ae,bx,aw,Td,Te];rw[aJ,bE];simp only[b8,aK,bb,ak,ai,aa,d5,a8,QI,Qf,ae];by_cases w0:v3=0
 ·
  rw[show (v3 == 0)=true from by simpa using w0];let M4:aA:=M3++[O.lst ((rows.take v1.toNat).map D.str)]
  let M5:aA:=M4++[O.lst ((rows.drop (v1+1).toNat).map D.str)]
  have q1:=Br r3 v10;have q2:=tN (M:=M4) (v:=v1+1) (aS r3) (by omega);have q3:=gZ (M:=M5) (a:=M3.length) (b:=M4.length) (ts:=rows.take v1.toNat) (us:=rows.drop (v1+1).toNat) (aS aF) aF (by simp;omega);refine⟨M5.length,M5++[O.lst ((rows.take v1.toNat++rows.drop (v1+1).toNat).map D.str)],rows.take v1.toNat++rows.drop (v1+1).toNat,?_,.inl (by simp[M5,M4,lM3]),((P3.app).app).app,aF,?_⟩
  ·simp only[Qg,aY,aK,lF,ak,ai,h7,dc,bb,cS,gh,aa];rw[q1];simp only[aa];rw[q2];simp only[aa];rw[q3];simp only[ae,bN]
  ·have:=lT (k:=30) (ts:=rows.take v1.toNat++rows.drop (v1+1).toNat) (fun t ht=>by
    rcases OQ.mp ht with ht|ht
    ·exact rb t (RB ht)
    ·exact rb t (RC ht))
   have hl:(rows.take v1.toNat++rows.drop (v1+1).toNat).length<=16:=by simp;omega
   omega
 rw[show (v3 == 0)=false from by simpa using w0];simp only[QI,Qf,bw,aw];rw[aJ,bE];simp only[b8,aK,bb,ak,ai,aa,d5,a8,QI,Qf,ae];by_cases w1:v3=1
 ·
  rw[show (v3 == 1)=true from by simpa using w1];let M4:aA:=M3++[O.lst ((rows.take (v1+1).toNat).map D.str)]
  let M5:aA:=M4++[O.lst ((rows.drop v1.toNat).map D.str)]
  have q1:=Br (v:=v1+1) r3 (by omega);have q2:=tN (M:=M4) (aS r3) v10;have q3:=gZ (M:=M5) (a:=M3.length) (b:=M4.length) (ts:=rows.take (v1+1).toNat) (us:=rows.drop v1.toNat) (aS aF) aF (by simp;omega);refine⟨M5.length,M5++[O.lst ((rows.take (v1+1).toNat++rows.drop v1.toNat).map D.str)],rows.take (v1+1).toNat++rows.drop v1.toNat,?_,.inl (by simp[M5,M4,lM3]),((P3.app).app).app,aF,?_⟩
  ·simp only[Qg,aY,aK,lF,ak,ai,h7,dc,bb,cS,gh,aa];rw[q1];simp only[aa];rw[q2];simp only[aa];rw[q3];simp only[ae,bN]
  ·have:=lT (k:=30) (ts:=rows.take (v1+1).toNat++rows.drop v1.toNat) (fun t ht=>by
    rcases OQ.mp ht with ht|ht
    ·exact rb t (RB ht)
    ·exact rb t (RC ht))
   have hl:(rows.take (v1+1).toNat++rows.drop v1.toNat).length<=17:=by simp;omega
   omega
 rw[show (v3 == 1)=false from by simpa using w1];simp only[QI,Qf,bw,aw];rw[aJ,bE];simp only[b8,aK,bb,ak,ai,aa,d5,a8,QI,Qf,ae];by_cases w2:v3=2
 ·
  rw[show (v3 == 2)=true from by simpa using w2];obtain⟨t1,ht1,x1⟩:=iV r3 v10 v11;obtain⟨t2,ht2,x2⟩:=iV r3 v20 v21;let M4:aA:=M3.set L (.lst ((rows.set v1.toNat t2).map D.str))
  have hL3:L<M3.length:=by omega
  have r4:M4[L]?=some (.lst ((rows.set v1.toNat t2).map D.str)):=OU hL3;let M5:aA:=M4.set L (.lst (((rows.set v1.toNat t2).set v2.toNat t1).map D.str))
  have q1:uN (.obj L) (.int v1) (.str t2) M3=.ok () M4:=by
   rw[pA r3 (jD v10 (by rw[PZ];exact v11)),<- List.map_set]
  have q2:uN (.obj L) (.int v2) (.str t1) M4=.ok () M5:=by
   rw[pA r4 (jD v20 (by rw[PZ,Qt];exact v21)),<- List.map_set]
  refine⟨L,M5,(rows.set v1.toNat t2).set v2.toNat t1,?_,.inr (by simp[M5,M4,lM3]),(P3.put hL).put hL,OU (by simp[M4];omega),?_⟩
  ·simp only[Qg,aJ,aZ,f9,ao,az,aK,ak,ai,aa];rw[x2];simp only[aa];rw[x1];simp only[aa,QJ,Rf];rw[OA (show 0+1+1<=sizeLine by decide)];simp only[ae,Ge,QJ,Rf,Qg,v9,pE,ak,ai,aa];rw[q1];simp only[aa,v9,pE,ak,ai];rw[q2];simp only[aa,Gf,ae,aw,aY,ak,ai,bN]
  ·have:=lT (k:=30) (ts:=(rows.set v1.toNat t2).set v2.toNat t1) (fun t ht=>by
    rcases List.mem_or_eq_of_mem_set ht with ht|rfl
    ·rcases List.mem_or_eq_of_mem_set ht with ht | rfl
     ·exact rb t ht
     ·exact rb _ ht2
    ·exact rb _ ht1)
   rw[Qt,Qt]at this;omega
 rw[show (v3 == 2)=false from by simpa using w2];simp only[QI,Qf,bw,aw];rw[aJ,bE];simp only[b8,aK,bb,ak,ai,aa,d5,a8,QI,Qf,ae];by_cases w3:v3=3
 ·
  rw[show (v3 == 3)=true from by simpa using w3];let fo:List Str:=["tie 0 1", "", "tie 4 5", "web 1 0"]
  have fb:Bd 30 fo:=by
   have:(fo.all fun t=>decide (t.length<=30))=true:=by decide +kernel
   intro t ht;exact To (RI.mp this t ht)
  let M4:aA:=M3++[O.lst (fo.map D.str)]
  have P4:Pn Y0 i M4:=P3.app;obtain⟨v4,a4,b4,c4,v40,v41,e4,P5⟩:=P4.draw (m:=4) hi (by decide) (by decide);let M5:aA:=M4.set i (cO a4 b4 c4)
  have lM:=P3.len;have f5:M5[M3.length]?=some (.lst (fo.map D.str)):=bz (show M4[M3.length]?=_ from aF) (by omega);obtain⟨t4,ht4,x4⟩:=iV f5 v40 v41;let M6:aA:=M5++[O.lst ([t4].map D.str)]
  have r6:M6[L]?=some (.lst (rows.map D.str)):=aS (bz (aS r3) (by omega));have q3:=gZ (M:=M6) (a:=L) (b:=M5.length) (ts:=rows) (us:=[t4]) r6 aF (by simp;omega);refine⟨M6.length,M6++[O.lst ((rows++[t4]).map D.str)],rows++[t4],?_,.inl (by simp[M6,M5,M4,lM3];omega),(P5.app).app,aF,?_⟩
  ·simp only[Qg,aY,aK,dH,ao,az,aE,ak,ai,bb,aa];rw[show (if ([D.str "tie 0 1",D.str "",D.str "tie 4 5",D.str "web 1 0"]:List D).length<=sizeLine then aj.ok (D.obj M3.length) (M3++[O.lst [D.str "tie 0 1",D.str "",D.str "tie 4 5",D.str "web 1 0"]]) else .bad)=.ok (.obj M3.length) M4 from gY fo (by decide)];simp only[aa];rw[show aL [.obj i,.int 4] M4=.ok (.int v4) M5 from e4];simp only[aa];rw[x4];simp only[aa];rw[show (if ([D.str t4]:List D).length<=sizeLine then aj.ok (D.obj M5.length) (M5++[O.lst [D.str t4]]) else .bad)=.ok (.obj M5.length) M6 from gY [t4] (by show 1<=1000;decide)];simp only[aa];rw[q3];simp only[ae,bN]
  ·have:=lT (k:=30) (ts:=rows++[t4]) (fun t ht=>by
    rcases OQ.mp ht with ht|ht
    ·exact rb t ht
    ·rw[QS.mp ht];exact fb t4 ht4)
   rw[PY]at this;simp only[QJ,Rf]at this;omega
 rw[show (v3 == 3)=false from by simpa using w3];simp only[QI,Qf,bw,aw];have q1:=Br r3 v10;let M4:aA:=M3++[O.lst ((rows.take v1.toNat).map D.str)]
 have P4:Pn Y0 i M4:=P3.app;have r4:M4[L]?=some (.lst (rows.map D.str)):=aS r3;obtain⟨t1,ht1,x1⟩:=iV r4 v10 v11;obtain⟨pa,pb,pc,hp4⟩:=P4.get hi;obtain⟨y,a',b',c',yl,eo⟩:=Il hp4 (hw t1 ht1);let M5:aA:=M4.set i (cO a' b' c')
 have P5:Pn Y0 i M5:=P4.set hi;have lM:=P3.len;have f5:M5[M3.length]?=some (.lst ((rows.take v1.toNat).map D.str)):=bz (show M4[M3.length]?=_ from aF) (by omega);have r5:M5[L]?=some (.lst (rows.map D.str)):=bz r4 (by omega);let M6:aA:=M5++[O.lst ([y].map D.str)]
 have q3:=gZ (M:=M6) (a:=M3.length) (b:=M5.length) (ts:=rows.take v1.toNat) (us:=[y]) (aS f5) aF (by simp;omega);let M7:aA:=M6++[O.lst ((rows.take v1.toNat++[y]).map D.str)]
 have q4:=tN (M:=M7) (v:=v1+1) (aS (aS r5)) (by omega);let M8:aA:=M7++[O.lst ((rows.drop (v1+1).toNat).map D.str)]
 have q5:=gZ (M:=M8) (a:=M6.length) (b:=M7.length) (ts:=rows.take v1.toNat++[y]) (us:=rows.drop (v1+1).toNat) (aS aF) aF (by simp;omega);refine⟨M8.length,M8++[O.lst ((rows.take v1.toNat++[y]++rows.drop (v1+1).toNat).map D.str)],rows.take v1.toNat++[y]++rows.drop (v1+1).toNat,?_,.inl (by simp[M8,M7,M6,M5,M4,lM3];omega),(((P5.app).app).app).app,aF,?_⟩
 ·simp only[aY,aK,lF,dH,ao,az,aE,ak,ai,h7,dc,bb,cS,gh,aa];rw[q1];simp only[aa];rw[x1];simp only[aa];rw[eo];simp only[aa];rw[show (if ([D.str y]:List D).length<=sizeLine then aj.ok (D.obj M5.length) (M5++[O.lst [D.str y]]) else .bad)=.ok (.obj M5.length) M6 from gY [y] (by show 1<=1000;decide)];simp only[aa];rw[q3];simp only[aa];rw[q4];simp only[aa];rw[q5];simp only[ae]
 ·have h1 := lT (k := 30) (ts := rows.take v1.toNat) (fun t ht => rb t (RB ht));have h2:=lT (k:=30) (ts:=rows.drop (v1+1).toNat) (fun t ht=>rb t (RC ht));rw[yV,yV,show rN [y]=y.length+1 from by simp[rN]];have l1:(rows.take v1.toNat).length=v1.toNat:=by simp;omega
  have l2:(rows.drop (v1+1).toNat).length=rows.length-(v1+1).toNat:=by simp
  rw[l1]at h1;rw[l2]at h2;omega
end
theorem HJ:∀a<6,∀b<6,(Txt.upper (jz "tie " ((a:Nat):Int) ((b:Nat):Int))).length<=30:=by decide +kernel
theorem HI:∀a<7,∀b<16,(Txt.upper (jz "web " ((a:Nat):Int) ((b:Nat):Int))).length<=30:=by decide +kernel
theorem G0{w ws:Str}{a b:Int}(h:n4 w ws a b=true)(hu:(Txt.upper (jz ws a b)).length<=30):Rw (jz ws a b):=by
 unfold n4 at h;simp only[Qn,Sy]at h;exact⟨h.1.1.2,by rw[h.1.1.1.1.1.1.1];rfl,hu⟩
section
variable{m:Nat}{o0 o1 o2 o3 o4 o5 o6 o7:Option D}
theorem E8(h:GW m ks):∀x∈fX m ks,Rw x:=by
 intro x hx;unfold fX at hx;rcases OO.mp hx with rfl|hx
 ·have h6:=h.m6;have hl:=d6 h;exact G0 (tI h6 hl) (HI m (by omega) _ (by omega))
 ·obtain⟨k,hk,rfl⟩:=Rk.mp hx;obtain⟨a,b,rfl,h1,h2,h3⟩:=h.2.2.2.2 k hk;have:=h.m6;obtain⟨a,rfl⟩:=Tv h1;obtain⟨b,rfl⟩:=Tv (show 0<=b by omega);exact G0 (tK (a:=a) (b:=b) h1 (by omega) (by omega) (by omega)) (HJ a (by omega) b (by omega))
theorem xO (h:GW m ks):cy (.str (jg m ks)) [.str "\n"] M=.ok (.obj M.length) (M++[.lst ((fX m ks).map D.str)]):=by
 have hs:Txt.split (jg m ks) "\n" = fX m ks:=xQ (by unfold fX;simp) fun p hp=>(za h p hp).2;have:=kq (x:=jg m ks) (c:=10) (Y:=M) (OI (qq h).2 (by decide));rw[<- nl,hs]at this;exact this
theorem Oi:nA [.int 0] M=.ok (.str "0") M:=by
 unfold nA;dsimp only;rw[OA (by decide)];rfl
theorem NJ {d:D} (h:fV "str" d M=.ok (.bl false) M):pL [o0,some d,o2,o3,o4,o5,o6,o7] M=.next [o0,some d,o2,o3,o4,o5,o6,o7] M:=by
 unfold pL;rw[bE];simp only[b8,aK,aE,ao,az,ak,ai,bb,aa,CD h,Oi,Po,decide_true,RJ,Qg,a8,ae,QI,Qf,bw]
theorem NI(h:x.length<=800):pK [o0,o1,o2,some (.str x),o4,o5,o6,o7] M=.next [o0,o1,o2,some (.str x),o4,o5,o6,o7] M:=by
 unfold pK;rw[bE];simp only[fA,gb,aE,ao,az,ak,ai,aa,vt h,cN,RJ,ae,QI,Qf,bw]
theorem NH(h:GW m ks)(P:Pn Y0 i M)(hi:i<Y0.length):∃y M',Pn Y0 i M'/\pJ [o0,o1,o2,some (.str (jg m ks)),o4,some (.obj i),o6,o7] M=.next [o0,o1,o2,some (.str (jg m ks)),o4,some (.obj i),o6,some (.str y)] M':=by
 obtain⟨r,M',ts,e1,P',g',ht⟩:=z6 (Y:=M++[.lst ((fX m ks).map D.str)]) (L:=M.length) P.app hi P.len aF (by unfold fX;simp) (vy h) (E8 h);obtain⟨y,hy,ej⟩:=L6 g' ht;refine⟨y,M',P',?_⟩;unfold pJ;rw[aJ,aZ];rw[show ∀(k:MA) (R:Ro),hW d4 (cC (.str "\n")) k R M=(k R M).bind (fun ds Y2=>d4 (.str "\n") ds Y2) from fun _ _=>rfl];simp only[aE,ao,az,ak,ai,aa];rw[show hW cy (ah 3) (af (cC (.str "\n")) (aD)) [o0,o1,o2,some (.str (jg m ks)),o4,some (.obj i),o6,o7] M=.ok (.obj M.length) (M++[.lst ((fX m ks).map D.str)]) from xO h];simp only[aa];rw[e1];simp only[aa];rw[ej];simp only[ae,bx,aw,Td,Te];rw[bE];simp only[fA,gb,aE,ao,az,ak,ai,aa,vt hy,cN,RJ,ae,QI,Qf,bw]
theorem NG{x:Int}:∃(M':aA)(p3 p5 p6 p7:Option D),(∀(n:Nat)(o:O),M[n]?=some o->M'[n]?=some o)/\pI [o0,o1,o2,o3,some (.int x),o5,o6,o7] M=.next [o0,o1,o2,p3,some (.int x),p5,p6,p7] M':=by
 obtain⟨a,b,c,ep⟩:=Ik (Y:=M) x;obtain⟨m,ks,a',b',c',h,ea⟩:=Ip (Y:=M++[cO a b c]) (i:=M.length) aF;rw[SM _ _ (Pf _),RF,Te]at ea;let N:aA:=M++[cO a' b' c']
 have hN:M.length<N.length:=by simp[N]
 obtain⟨Z',M',⟨P',p6,p7,rfl⟩,run⟩:=kT (src:=.fix (dF 0 6)) (g:=aq 6) (fb:=pJ)
  (fun zs Z Y=>Pn N M.length Y/\∃o6 o7,Z=[o0,o1,o2,some (.str (jg m ks)),some (.int x),some (.obj M.length),o6,o7])
  (fun Z Y _=>trivial)
  (fun z r Z Y hJ => by
   obtain⟨P,o6,o7,rfl⟩:=hJ;obtain⟨y,M2,P2,e⟩:=NH (o0:=o0) (o1:=o1) (o2:=o2) (o4:=some (.int x)) (o6:=some z) (o7:=o7) h P hN
   exact⟨trivial,_,Y,_,M2,rfl,e,P2,_,_,rfl⟩)
  (xs:=dF 0 6) (Z:=[o0,o1,o2,some (.str (jg m ks)),some (.int x),some (.obj M.length),o6,o7]) (Y:=N)
  ⟨Pn.self (i:=M.length) (a:=a') (b:=b') (c:=c') aF,_,_,rfl⟩
 refine⟨M',some (.str (jg m ks)),some (.obj M.length),p6,p7,?_,?_⟩
 ·intro n o hn;have hl:n<M.length:=(OS.mp hn).1;obtain⟨u,v,w,g,rfl⟩:=P';exact aS (bz (aS hn) (by omega))
 ·unfold pI;rw[aJ,aZ];simp only[aE,ao,az,ak,ai,aa,ep,ae,bx,Td,Te,aw];rw[aJ,aZ];simp only[aE,ao,az,ak,ai,bb,aa,ea,EL h,ae,bx,Td,Te,aw];rw[jE];simp only[jL,ao,az,bb,aa];rw[pB (by omega) (by omega),ae,cq];exact run
end
theorem EO:∃x:Int,eC [.frz (ns.map D.int),.int 0] Y=.ok (.int x) Y:=by
 unfold eC;rw[dJ];cases ns with
 |nil=>
  refine⟨0,?_⟩;simp only[iN,Qo,List.replicate,aJ,bE,b8,aK,ak,ai,aE,ao,az,zw,Rf,aa,ag,cW];rw[show cj .Lt 0 ((0:Nat):Int)=false from rfl];simp only[a8,ae,ag,QI,Qf,bw,aw,aY,bb,aR];exact bt (by simp)
 |cons x r=>
  refine⟨x,?_⟩;simp only[iN,Qp,List.replicate,aJ,bE,b8,aK,ak,ai,aE,ao,az,zw,QJ,aa,ag,cW];rw[show cj .Lt 0 (((r.map D.int).length+1:Nat):Int)=true from QF (by omega)];simp only[a8,ae,Qg,aY,aK,ak,ai,aa,ag];rw[Kd r9];simp only[ae,ag,bN,aR];exact bt (by simp)
def Hf:List D:=[.non,.int 0,.bl true,.obj 0,.tup [.str "web 1 0"],.obj 1]
def Gw:List Str:=["", "web 1 0", "web 6 0", "web 7 0", "web 0 0", "web 2 1\ntie 0 1", "web 2 1", "web 1 0\n", "\n", "web"]
def Hm:aA:=[O.lst [.str "web 1 0"],O.dic,O.lst Hf]
def D5:aA:=Hm++[O.lst (Gw.map D.str)]
theorem HR:∀d∈Hf,fV "str" d Hm=.ok (.bl false) Hm:=by
 intro d hd;simp only[Hf,OO,Q5,Q6]at hd;rcases hd with rfl|rfl|rfl|rfl|rfl|rfl <;> rfl
theorem Iq:Bd 800 Gw:=by
 have:(Gw.all fun t=>decide (t.length<=800))=true:=by decide +kernel
 intro t ht;exact To (RI.mp this t ht)
theorem Im(ns:List Int):∃Y',vg [.frz (ns.map D.int)] []=.ok (.bl true) Y':=by
 obtain⟨x0,ex0⟩:=EO (Y:=D5) (ns:=ns)
 obtain⟨xs,hxs,hxl⟩:∃xs:List Int,jd (ns.map D.int) (some 1) (some 6)=xs.map D.int/\xs.length<=9:=by
  refine⟨(ns.drop (HT.sIx ns.length 0 (some 1))).take (HT.sIx ns.length ns.length (some 6)-HT.sIx ns.length 0 (some 1)),?_,?_⟩
  ·unfold jd;rw[PZ,Rx,Ry]
  ·rw[PL];have h6:HT.sIx ns.length ns.length (some 6)=min 6 ns.length:=HT.sIx_nat _ _ 6;omega
 obtain⟨L,hL⟩:∃L:List Int,L=x0::xs:=⟨_,rfl⟩;let M5:aA:=(D5++[O.lst [.int x0]]++[O.lst (xs.map D.int)])++[O.lst (L.map D.int)]
 have h5:M5[6]?=some (.lst (L.map D.int)):=rfl
 obtain⟨Z1,M1,⟨hM1,_,o1,eρ1⟩,run1⟩:=kT (src:=.own 2 Hf) (g:=aq 1) (fb:=pL)
  (fun zs Z Y=>Y=Hm/\(∀d∈zs,d∈Hf)/\∃o1,Z=[some (.frz (ns.map D.int)),o1,none,none,none,none,none,none])
  (fun Z Y hJ=>by rw[hJ.1];rfl)
  (fun x r Z Y hJ => by
   obtain⟨e1,e2,o1,e3⟩:=hJ;subst e1 e3
   exact⟨rfl,_,_,_,_,rfl,NJ (HR x (e2 x (by simp))),rfl,fun d hd=>e2 d (by simp[hd]),_,rfl⟩)
  (xs:=Hf) (Z:=[some (.frz (ns.map D.int)),none,none,none,none,none,none,none]) (Y:=Hm)
  ⟨rfl,fun d hd=>hd,_,rfl⟩
 subst hM1 eρ1
 obtain⟨Z2,M2,⟨hM2,_,o3,eρ2⟩,run2⟩:=kT (src:=.own 3 (Gw.map D.str)) (g:=aq 3) (fb:=pK)
  (fun zs Z Y=>Y=D5/\(∀d∈zs,∃x:Str,d=.str x/\x∈Gw)/\∃o3,Z=[some (.frz (ns.map D.int)),o1,some (.obj 3),o3,none,none,none,none])
  (fun Z Y hJ=>by rw[hJ.1];rfl)
  (fun x r Z Y hJ => by
   obtain⟨e1,e2,o3,e3⟩:=hJ;subst e1 e3;obtain⟨y,rfl,hy⟩:=e2 x (by simp)
   exact⟨rfl,_,_,_,_,rfl,NI (Iq y hy),rfl,fun d hd=>e2 d (by simp[hd]),_,rfl⟩)
  (xs:=Gw.map D.str) (Z:=[some (.frz (ns.map D.int)),o1,some (.obj 3),none,none,none,none,none]) (Y:=D5)
  ⟨rfl,fun d hd=>by obtain⟨x,hx,rfl⟩:=Rk.mp hd;exact⟨x,rfl,hx⟩,_,rfl⟩
 subst hM2 eρ2
 obtain⟨Z3,M6,_,run3⟩:=kT (src:=.own 6 (L.map D.int)) (g:=aq 4) (fb:=pI)
  (fun zs Z Y=>Y[6]?=some (O.lst (L.map D.int))/\(∃rs:List Int,zs=rs.map D.int)/\∃o0 o1 o2 o3 o4 o5 o6 o7,Z=[o0,o1,o2,o3,o4,o5,o6,o7])
  (fun Z Y hJJ=>hJJ.1)
  (fun x r Z Y hJJ => by
   obtain⟨h2,⟨rs,er⟩,o0,o1,o2,o3,o4,o5,o6,o7,eρ⟩:=hJJ;subst eρ;cases rs with
   |nil=>cases er
   |cons y rs=>
    injection er with ex er
    subst ex er;obtain⟨M',p3,p5,p6,p7,e2,e1⟩:=NG (M:=Y) (x:=y) (o0:=o0) (o1:=o1) (o2:=o2) (o3:=o3) (o5:=o5) (o6:=o6) (o7:=o7)
    exact⟨h2,_,Y,_,_,rfl,e1,e2 6 _ h2,⟨rs,rfl⟩,_,_,_,_,_,_,_,_,rfl⟩)
  (xs:=L.map D.int) (Z:=[some (.frz (ns.map D.int)),o1,some (.obj 3),o3,none,none,none,none]) (Y:=M5)
  ⟨h5,⟨L,rfl⟩,_,_,_,_,_,_,_,_,rfl⟩
 have hend:∃Y',oX [] (.ok (.bl true) M6)=.ok (.bl true) Y':=by
  rcases Ck (Y:=[]) (d:=.bl true) (Y':=M6) with e|⟨e,_⟩ <;> exact⟨_,e⟩
 obtain⟨Y',hend⟩:=hend;refine⟨Y',?_⟩;unfold vg;rw[dN];unfold Hd;have l1:([.int x0]:List D).length<=sizeLine:=by show 1<=sizeLine;decide
 have sl:∀Y,rO (.frz (ns.map D.int)) (some 1) (some 6) Y=.ok (.obj Y.length) (Y++[.lst (xs.map D.int)]):=fun Y=>by
  unfold rO;dsimp only;rw[hxs]
 have ad:bo (.obj 4) (.obj 5) (D5++[O.lst [.int x0]]++[O.lst (xs.map D.int)])=.ok (.obj 6) M5:=by
  have:=pG (Y:=D5++[O.lst [.int x0]]++[O.lst (xs.map D.int)]) (a:=4) (b:=5) rfl rfl (show ([.int x0]:List D).length+(xs.map D.int).length<=1000000 by rw[PZ];simp only[QJ,Rf];omega);rw[this];simp only[M5,hL];rfl
 simp only[List.replicate]
 have q1:fT (af (cC .non) (af (cC (.int 0)) (af (cC (.bl true)) (af (fT (af (cC (.str "web 1 0")) (aD))) (af (je (af (cC (.str "web 1 0")) (aD))) (af (Bi) (aD))))))) [some (.frz (ns.map D.int)),none,none,none,none,none,none,none] []=.ok (.obj 2) Hm:=by
  simp only[dH,f9,ao,az,bb,Ke,aa,QJ,Rf];rw[OA (OI (show 0+1<=1000 by decide) cR)];simp only[aa];rw[OA (OI (show 0+1<=1000 by decide) cR)];simp only[aa];exact OA (OI (show 6<=1000 by decide) cR)
 have q2:fT (af (cC (.str "")) (af (cC (.str "web 1 0")) (af (cC (.str "web 6 0")) (af (cC (.str "web 7 0")) (af (cC (.str "web 0 0")) (af (cC (.str "web 2 1\ntie 0 1")) (af (cC (.str "web 2 1")) (af (cC (.str "web 1 0\n")) (af (cC (.str "\n")) (af (cC (.str "web")) (aD))))))))))) [some (.frz (ns.map D.int)),o1,none,none,none,none,none,none] Hm=.ok (.obj 3) D5:=by
  rw[dH];simp only[ao,az,bb,aa];exact gY Gw (by decide)
 rw[aJ,jE,eE,q1,aa,iW (xs:=Hf) rfl,ae,fO,run1,aw];rw[aJ,aZ,q2];simp only[ae,bx,aw,Td,Te];rw[aJ,jE,eE,ak,ak,ai,aa,iW (xs:=Gw.map D.str) rfl,ae,fO,run2,aw];rw[aJ,jE,eE,aK,dH,ao,aE,ao,ai,aa,ao,bb,aa,az,aa,aa,aa,ex0,aa,az,aa,aa];simp only[OA l1,aa,lF,ai,dc,bb,gh];rw[sl,aa];rw[show bo (.obj D5.length) (.obj (D5++[O.lst [.int x0]]).length) (D5++[O.lst [.int x0]]++[O.lst (xs.map D.int)])=_ from ad];rw[aa,iW h5,ae,fO,run3,aw,aY,bb,ae,aR];exact hend
end Lw
namespace Lw
open PySem PySem.Spec PyProof.Rows L2 RS
theorem cm(P:Params)(f:Addr)(n m:Str)(t:Tok)(c:Addr)(st:Stmt)(l:(Kz P).lookup f=some (fo n st m t c))(q:W.codeIn (Kz P) (.ref c) n=true):gF (Kz P) n n st f (W.fnOf n n (du st) (bT st) (au st) .none .none .none (.str m t) none (.ref c) .none):=Cn l q (by unfold W.keepIn;dsimp only;rw[l];rfl)
theorem Cm(P:Params)(f:Addr)(n q m:Str)(t:Tok)(c:Addr)(st:Stmt)(l:(Kz P).lookup f=some (Nd n q st m t c))(e:W.codeIn (Kz P) (.ref c) q=true):gF (Kz P) n q st f (W.fnOf n q (du st) (bT st) (au st) .none .none .none (.str m t) none (.ref c) .none):=Cn l e (by unfold W.keepIn;dsimp only;rw[l];rfl)
theorem Ko{l:W.OpenLaw}{h:Heap}{fa:Addr}(X:(Kz w.params).In h)(G:h.Ns mainGlobals mg)(hfa:mg "law" = some (.ref fa)):
  ∃fd:FuncData,(∀(s:Shared) (v:Value),BindsTo s fd ⟨[v],[]⟩ [("_law_script",v)])/\∀base:Heap,(Kz w.params).In base->base.Ns mainGlobals mg->ll l.prog w (Kz w.params) mg base xk 11 fa fd ["_law_script"] (A8 (dj (Kz w.params) w) 1 vg):=by
 have e:=hfa.symm.trans (W.mg_of X G (v:=.ref 363) (by kernel_rfl));cases e;have nm:Nm mg:=⟨W.mg_none_of X G (by kernel_rfl),W.mg_none_of X G (by kernel_rfl),W.mg_none_of X G (by kernel_rfl),W.mg_none_of X G (by kernel_rfl),W.mg_none_of X G (by kernel_rfl),W.mg_none_of X G (by kernel_rfl),W.mg_none_of X G (by kernel_rfl),W.mg_none_of X G (by kernel_rfl),W.mg_none_of X G (by kernel_rfl),W.mg_none_of X G (by kernel_rfl),W.mg_none_of X G (by kernel_rfl),W.mg_none_of X G (by kernel_rfl),W.mg_none_of X G (by kernel_rfl),W.mg_none_of X G (by kernel_rfl),W.mg_none_of X G (by kernel_rfl),W.mg_none_of X G (by kernel_rfl)⟩;have c_MOST_PLACES:=W.mg_of X G (n:="MOST_PLACES") (v:=(.int 6 404)) (by kernel_rfl);have c_FIGURES:=W.mg_of X G (n:="FIGURES") (v:=(.str "0123456789" 437)) (by kernel_rfl);have c_MOST_FIGURES:=W.mg_of X G (n:="MOST_FIGURES") (v:=(.int 20 439)) (by kernel_rfl);have F:=cm w.params 363 "law" "law_rootwebs_k71_texts_that_write_none" 468 362 lU (by kernel_rfl) (by kernel_rfl);refine⟨W.fnOf "law" "law" (du lU) (bT lU) (au lU) .none .none .none (.str "law_rootwebs_k71_texts_that_write_none" 468) none (.ref 362) .none,fun s v=>.of_eq rfl,fun base Xb Gb=>?_⟩;have d_is_whole:=wH (P:=l.prog) (w:=w) (base:=base)  nm (cm w.params 151 "is_whole" "rootwebs.kinds" 364 150 iY (by kernel_rfl) (by kernel_rfl)) (W.mg_of X G (by kernel_rfl));have d_is_whole_from:=nX (P:=l.prog) (w:=w) (base:=base)  nm (cm w.params 158 "is_whole_from" "rootwebs.kinds" 364 157 eK (by kernel_rfl) (by kernel_rfl)) (W.mg_of X G (by kernel_rfl)) d_is_whole;have d_is_place:=wI (P:=l.prog) (w:=w) (base:=base)  nm (cm w.params 165 "is_place" "rootwebs.kinds" 364 164 iZ (by kernel_rfl) (by kernel_rfl)) (W.mg_of X G (by kernel_rfl)) d_is_whole_from;have d_is_places:=uu (P:=l.prog) (w:=w) (base:=base)  nm (cm w.params 170 "is_places" "rootwebs.kinds" 364 169 gn (by kernel_rfl) (by kernel_rfl)) (W.mg_of X G (by kernel_rfl)) d_is_place;have d_is_rising:=ur (P:=l.prog) (w:=w) (base:=base)  nm (cm w.params 175 "is_rising" "rootwebs.kinds" 364 174 gm (by kernel_rfl) (by kernel_rfl)) (W.mg_of X G (by kernel_rfl));have d_is_many:=yf (P:=l.prog) (w:=w) (base:=base)  nm (cm w.params 182 "is_many" "rootwebs.webs" 402 181 jO (by kernel_rfl) (by kernel_rfl)) (W.mg_of X G (by kernel_rfl)) ⟨_,c_MOST_PLACES⟩ d_is_whole_from;have d_is_pair:=ye (P:=l.prog) (w:=w) (base:=base)  nm (cm w.params 201 "is_pair" "rootwebs.webs" 402 200 jN (by kernel_rfl) (by kernel_rfl)) (W.mg_of X G (by kernel_rfl)) d_is_places;have d_is_tie:=As (P:=l.prog) (w:=w) (base:=base)  nm (cm w.params 194 "is_tie" "rootwebs.webs" 402 193 kZ (by kernel_rfl) (by kernel_rfl)) (W.mg_of X G (by kernel_rfl)) d_is_pair;have d_is_ties:=yd (P:=l.prog) (w:=w) (base:=base)  nm (cm w.params 187 "is_ties" "rootwebs.webs" 402 186 iF (by kernel_rfl) (by kernel_rfl)) (W.mg_of X G (by kernel_rfl)) d_is_tie d_is_rising;have d_is_number:=uw (P:=l.prog) (w:=w) (base:=base)  nm (cm w.params 206 "is_number" "rootwebs.texts" 435 205 gp (by kernel_rfl) (by kernel_rfl)) (W.mg_of X G (by kernel_rfl)) ⟨_,c_FIGURES⟩ ⟨_,c_MOST_FIGURES⟩;have d_numbers_behind:=nc (P:=l.prog) (w:=w) (base:=base)  nm (cm w.params 211 "numbers_behind" "rootwebs.texts" 435 210 cu (by kernel_rfl) (by kernel_rfl)) (W.mg_of X G (by kernel_rfl)) d_is_number;have d_web_read:=wG (P:=l.prog) (w:=w) (base:=base) (a_NoText:=123) nm (cm w.params 218 "web_read" "rootwebs.texts" 435 217 iX (by kernel_rfl) (by kernel_rfl)) (W.mg_of X G (by kernel_rfl)) (by kernel_rfl) (ve.of (xv.of (fI:=120) (oI:=Nd "__init__" "NoText.__init__" (Mw (top 8) 0) "rootwebs.errors" 187 119) (nm:="NoText") (q:="NoText") (N:=122) (bs:=[(.ref 24)]) (bm:=[(.ref 24),(.type "ValueError"),(.type "Exception"),(.type "BaseException"),(.type "object")]) (hd:=true) (sn:=[]) (sub:=[]) (ab:=false) (col:=none) (dd:=none) (k0:=some (.ref 107)) (k1:=none) (k2:=some (.str "NoText" 312)) (k3:=some (.str "NoText" 320)) (k5:=some (.bool true)) Xb Gb (by kernel_rfl) (by kernel_rfl) (by kernel_rfl) (by kernel_rfl) (by kernel_rfl) (by kernel_rfl) rfl) (Cm w.params 120 "__init__" "NoText.__init__" "rootwebs.errors" 187 119 (Mw (top 8) 0) (by kernel_rfl) (by kernel_rfl)) ⟨rfl,rfl,rfl,by decide +kernel,rfl,by decide +kernel,by decide +kernel⟩ rfl (by kernel_rfl) (by kernel_rfl) (cd:=⟨"NoText",[(.ref 24)],[(.ref 123),(.ref 24),(.type "ValueError"),(.type "Exception"),(.type "BaseException"),(.type "object")],122, "NoText",true,[],[],false,none,false⟩) (by kernel_rfl) rfl rfl (by kernel_rfl) (.inl rfl) (.inl rfl) ((Cm w.params 120 "__init__" "NoText.__init__" "rootwebs.errors" 187 119 (Mw (top 8) 0) (by kernel_rfl) (by kernel_rfl)).b2 (by rfl) fun _ _ _ _ _ _ _ _=>by rfl)) d_numbers_behind d_is_many d_is_ties;have d__law_cell_at:=oS (P:=l.prog) (w:=w) (base:=base)  nm (cm w.params 225 "_law_cell_at" "law_rootwebs_k71_texts_that_write_none" 468 224 fE (by kernel_rfl) (by kernel_rfl)) (W.mg_of X G (by kernel_rfl));have d__law_next:=uy (P:=l.prog) (w:=w) (base:=base)  nm (cm w.params 232 "_law_next" "law_rootwebs_k71_texts_that_write_none" 468 231 iq (by kernel_rfl) (by kernel_rfl)) (W.mg_of X G (by kernel_rfl));have d__law_pen_of:=qP (P:=l.prog) (w:=w) (base:=base)  nm (cm w.params 239 "_law_pen_of" "law_rootwebs_k71_texts_that_write_none" 468 238 gu (by kernel_rfl) (by kernel_rfl)) (W.mg_of X G (by kernel_rfl));have d__law_draw:=uz (P:=l.prog) (w:=w) (base:=base)  nm (cm w.params 246 "_law_draw" "law_rootwebs_k71_texts_that_write_none" 468 245 ir (by kernel_rfl) (by kernel_rfl)) (W.mg_of X G (by kernel_rfl)) d__law_next;have d__law_whole:=rD (P:=l.prog) (w:=w) (base:=base)  nm (cm w.params 253 "_law_whole" "law_rootwebs_k71_texts_that_write_none" 468 252 gQ (by kernel_rfl) (by kernel_rfl)) (W.mg_of X G (by kernel_rfl));have d__law_kind_of:=oR (P:=l.prog) (w:=w) (base:=base) (a_NoLine:=61) (a_NoNumber:=49) (a_NoPlace:=37) (a_NoRoot:=73) (a_NoText:=123) (a_NoTree:=85) (a_NoWeb:=104) (a_TooGreat:=142) nm (cm w.params 260 "_law_kind_of" "law_rootwebs_k71_texts_that_write_none" 468 259 fD (by kernel_rfl) (by kernel_rfl)) (W.mg_of X G (by kernel_rfl)) (bW.of (by kernel_rfl)) (bW.of (by kernel_rfl)) (bW.of (by kernel_rfl)) (bW.of (by kernel_rfl)) (bW.of (by kernel_rfl)) (bW.of (by kernel_rfl)) (bW.of (by kernel_rfl)) (bW.of (by kernel_rfl)) (bW.of (by kernel_rfl)) (W.mg_of X G (by kernel_rfl)) (W.mg_of X G (by kernel_rfl)) (W.mg_of X G (by kernel_rfl)) (W.mg_of X G (by kernel_rfl)) (W.mg_of X G (by kernel_rfl)) (W.mg_of X G (by kernel_rfl)) (W.mg_of X G (by kernel_rfl)) (W.mg_of X G (by kernel_rfl));have d__law_web_of:=qN (P:=l.prog) (w:=w) (base:=base)  nm (cm w.params 265 "_law_web_of" "law_rootwebs_k71_texts_that_write_none" 468 264 d8 (by kernel_rfl) (by kernel_rfl)) (W.mg_of X G (by kernel_rfl));have d__law_drawn_web:=nh (P:=l.prog) (w:=w) (base:=base)  nm (cm w.params 270 "_law_drawn_web" "law_rootwebs_k71_texts_that_write_none" 468 269 cU (by kernel_rfl) (by kernel_rfl)) (W.mg_of X G (by kernel_rfl)) d__law_draw d__law_web_of;have d__law_near_of:=oQ (P:=l.prog) (w:=w) (base:=base)  nm (cm w.params 275 "_law_near_of" "law_rootwebs_k71_texts_that_write_none" 468 274 dB (by kernel_rfl) (by kernel_rfl)) (W.mg_of X G (by kernel_rfl));have d__law_two_step:=nY (P:=l.prog) (w:=w) (base:=base)  nm (cm w.params 280 "_law_two_step" "law_rootwebs_k71_texts_that_write_none" 468 279 dg (by kernel_rfl) (by kernel_rfl)) (W.mg_of X G (by kernel_rfl)) d__law_near_of d__law_web_of;have d__law_any_web:=oU (P:=l.prog) (w:=w) (base:=base)  nm (cm w.params 285 "_law_any_web" "law_rootwebs_k71_texts_that_write_none" 468 284 dC (by kernel_rfl) (by kernel_rfl)) (W.mg_of X G (by kernel_rfl)) d__law_drawn_web d__law_draw d__law_two_step d__law_web_of;have d__law_tuples_are:=mn (P:=l.prog) (w:=w) (base:=base)  nm (cm w.params 290 "_law_tuples_are" "law_rootwebs_k71_texts_that_write_none" 468 289 cL (by kernel_rfl) (by kernel_rfl)) (W.mg_of X G (by kernel_rfl)) d__law_whole;have d__law_web_is:=qO (P:=l.prog) (w:=w) (base:=base)  nm (cm w.params 297 "_law_web_is" "law_rootwebs_k71_texts_that_write_none" 468 296 gr (by kernel_rfl) (by kernel_rfl)) (W.mg_of X G (by kernel_rfl)) d__law_whole d__law_tuples_are;have d__law_text_of:=oN (P:=l.prog) (w:=w) (base:=base)  nm (cm w.params 302 "_law_text_of" "law_rootwebs_k71_texts_that_write_none" 468 301 dA (by kernel_rfl) (by kernel_rfl)) (W.mg_of X G (by kernel_rfl));have d__law_value:=rE (P:=l.prog) (w:=w) (base:=base)  nm (cm w.params 307 "_law_value" "law_rootwebs_k71_texts_that_write_none" 468 306 fk (by kernel_rfl) (by kernel_rfl)) (W.mg_of X G (by kernel_rfl));have d__law_told:=ux (P:=l.prog) (w:=w) (base:=base) (a_RootError:=24) nm (cm w.params 314 "_law_told" "law_rootwebs_k71_texts_that_write_none" 468 313 ip (by kernel_rfl) (by kernel_rfl)) (W.mg_of X G (by kernel_rfl)) (W.mg_of X G (by kernel_rfl)) (vd.of (by kernel_rfl)) (mP.of (by kernel_rfl)) d_web_read d__law_kind_of d__law_whole;have d__law_pair_of:=oO (P:=l.prog) (w:=w) (base:=base)  nm (cm w.params 321 "_law_pair_of" "law_rootwebs_k71_texts_that_write_none" 468 320 fB (by kernel_rfl) (by kernel_rfl)) (W.mg_of X G (by kernel_rfl)) d__law_value;have d__law_due_of:=qQ (P:=l.prog) (w:=w) (base:=base)  nm (cm w.params 328 "_law_due_of" "law_rootwebs_k71_texts_that_write_none" 468 327 gv (by kernel_rfl) (by kernel_rfl)) (W.mg_of X G (by kernel_rfl)) d__law_pair_of;have d__law_right:=rH (P:=l.prog) (w:=w) (base:=base)  nm (cm w.params 335 "_law_right" "law_rootwebs_k71_texts_that_write_none" 468 334 gS (by kernel_rfl) (by kernel_rfl)) (W.mg_of X G (by kernel_rfl)) d__law_due_of d__law_told d__law_web_is d__law_whole;have d__law_signs:=rF (P:=l.prog) (w:=w) (base:=base)  nm (cm w.params 342 "_law_signs" "law_rootwebs_k71_texts_that_write_none" 468 341 gR (by kernel_rfl) (by kernel_rfl)) (W.mg_of X G (by kernel_rfl));have d__law_odd_row:=oP (P:=l.prog) (w:=w) (base:=base)  nm (cm w.params 349 "_law_odd_row" "law_rootwebs_k71_texts_that_write_none" 468 348 fC (by kernel_rfl) (by kernel_rfl)) (W.mg_of X G (by kernel_rfl)) d__law_draw d__law_signs;have d__law_spoilt_of:=ng (P:=l.prog) (w:=w) (base:=base)  nm (cm w.params 356 "_law_spoilt_of" "law_rootwebs_k71_texts_that_write_none" 468 355 dS (by kernel_rfl) (by kernel_rfl)) (W.mg_of X G (by kernel_rfl)) d__law_draw d__law_odd_row;exact Kb nm F d__law_told d__law_right d__law_cell_at d__law_pen_of d__law_text_of d__law_any_web d__law_spoilt_of
theorem Nj{l:W.OpenLaw}{d:DefRec}(hn:l.most=some 63)(hdf:d.params.defaults=[])(hd:d.name = "law"):
  W.WalkO q loose XP (W.Hook.says Hz) l.row.toRowW d [] (fun f vs=>PySem.call f vs):=
 L2.walk_of (K:=Kz) (n:=63) (k:=11) (x:="_law_script") (CX:=fun _=>xk) (sp:=fun w=>A8 (dj (Kz w.params) w) 1 vg) hn (by decide) hdf ⟨rfl,by decide,by decide,rfl⟩ (fun _ _ μ=>W.kIn_of μ) (fun _ _ _ _ X G e=>Ko X G (hd ▸ e)) (fun w H a ns hl hO hS=>Ds (Im ns) hO hS) fun _ _ _ _ _ z=>z
end Lw
open PySem PySem.W PyProof.Rows Lw
set_option maxRecDepth 100000 in
set_option maxHeartbeats 0 in
theorem PySem.Challenge.cw_rootwebs_k71_texts_that_write_none_holds : PySem.Challenge.rw_rootwebs_k71_texts_that_write_none.Holds := by
 w_on;refine holds_law HC fun said=>?_
 exact holds_open (Xt:=Xz) (XP:=XL Qz []) (YP:=Hook.says Hz) HD (Hook.of Hz) (Hook.keeps Hz) (fun s e=>xl_of s (Bool.and_eq_true_iff.mp e).1) XL.keeps (by rfl) (by rfl) (by rfl) (fun s e=>recFacts_of (Bool.and_eq_true_iff.mp e).2) (by rfl) said (by decide +kernel) ⟨rfl,rfl,rfl,rfl,rfl,by decide +kernel⟩ (by w_witness2) (Nj rfl rfl rfl)
