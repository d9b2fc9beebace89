import PyProof.Rows.All
import Wide.All
import OpenK.AllK
import Wide.FinOn
import PyProof.EqAt
import PyProof.EqKinds
import PyProof.TupleCall
import PyProof.P3In
import PyProof.NeData
import PyProof.ConsumeS
import PyProof.WalksMore
import PyProof.ReprRoads
import PyProof.ReprLen
import PyProof.Draws
import PyProof.EnumMake
import PyProof.EnumFor
import PyProof.CallFns
import PyProof.Rows.CallKwBuiltin
import Lean
import PySem.Challenge.RW_rootwebs_k10_steps_and_shows
set_option Elab.async false
set_option linter.all false
set_option maxHeartbeats 1000000
set_option maxHeartbeats 2000000
set_option maxHeartbeats 400000
set_option maxHeartbeats 4000000
set_option maxRecDepth 100000
noncomputable section
abbrev ON:=@Option.some.inj
abbrev OO:=@PySem.Value.isInt_shape
abbrev OP:=@decide_eq_false
abbrev OQ:=@beq_eq_false_iff_ne
abbrev OR:=@PySem.wpAny_eqBool_int
abbrev OS:=@if_pos
abbrev OT:=@if_neg
abbrev OU:=@PySem.Heap.lt_size
abbrev OV:=@Nat.lt_of_lt_of_le
abbrev OW:=@Nat.lt_irrefl
abbrev OX:=@Nat.ne_of_lt
abbrev OY:=@List.mem_filter
abbrev OZ:=@List.mem_range
abbrev O0:=@Nat.le_trans
abbrev O1:=@Nat.le_of_lt
abbrev O2:=@List.filterMap_cons
abbrev O3:=@List.mem_cons_self
abbrev O4:=@List.mem_cons_of_mem
abbrev O5:=@List.mem_cons
abbrev O6:=@Ne.symm
abbrev O7:=@List.mem_append
abbrev O8:=@List.mem_append_left
abbrev O9:=@List.getElem?_eq_some_iff
abbrev Pb:=@List.getElem_inj
abbrev Pc:=@List.getElem?_set_self
abbrev Pd:=@List.getElem?_set_ne
abbrev Pe:=@PySem.wpAny_mono
abbrev Pf:=@PySem.wpAny_truthy_bool
abbrev Pg:=@Array.length_toList
abbrev Ph:=@congrArg
abbrev Pi:=@PySem.wpAny_execs_nil
abbrev Pj:=@PySem.wpAny_bind
abbrev Pl:=@PySem.wpAny_holding
abbrev Pm:=@PySem.wpAny_standAt
abbrev Po:=@Nat.ne_of_gt
abbrev Pp:=@PySem.wpAny_pure
abbrev Pq:=@PySem.wpAny_load
abbrev Pr:=@Bool.false_and
abbrev Pt:=@PySem.Heap.get?_push_of_some
abbrev Pu:=@PySem.Heap.get?_push_size
abbrev Pv:=@Nat.le_refl
abbrev Pw:=@PyProof.Rows.callWith_type1
abbrev Px:=@List.mem_filterMap
abbrev Py:=@List.mem_append_right
abbrev Pz:=@PySem.wpAny_passesOwn
abbrev PB:=@Bool.eq_iff_iff
abbrev PD:=@Bool.false_ne_true
abbrev PF:=@PySem.sizeLine_eq
abbrev PH:=@List.size_toArray
abbrev PJ:=@List.append_nil
abbrev PL:=@PySem.codeAny_mono
abbrev PM:=@PySem.wpAny_Call_Name_kw
abbrev PN:=@List.nodup_cons
abbrev PQ:=@List.of_mem_zip
abbrev PR:=@Option.isSome_iff_exists
abbrev PU:=@List.length_take
abbrev PV:=@PySem.mem_of_lookup
abbrev PX:=@List.getElem?_append_right
abbrev PY:=@List.getElem?_replicate
abbrev PZ:=@List.getElem?_append_left
abbrev P0:=@List.getElem?_map
abbrev Qa:=@List.getElem?_take_of_lt
abbrev Qb:=@List.mem_of_getElem?
abbrev Qc:=@List.length_append
abbrev Qd:=@List.length_map
abbrev Qe:=@List.length_replicate
abbrev Qf:=@PySem.noFill_tuple_add
abbrev Qg:=@PySem.F.slot_tuple_add
abbrev Qh:=@PySem.F.entry_tuple_add
abbrev Qi:=@PySem.F.args_tuple_add_2
abbrev Qj:=@Int.toNat_natCast
abbrev Qk:=@Nat.min_le_right
abbrev Ql:=@if_false
abbrev Qm:=@if_true
abbrev Qn:=@PyProof.Rows.slicePart_none
abbrev Qo:=@PySem.wpAny_field
abbrev Qp:=@List.filterMap_map
abbrev Qq:=@List.length_drop
abbrev Qr:=@PySem.wpAny_sequenceKey
abbrev Qs:=@PySem.wpAny_callSpecial?_slot
abbrev Qt:=@PyProof.Rows.slot_tuple_getitem
abbrev Qu:=@PySem.wpAny_call_entry
abbrev Qv:=@PyProof.Rows.entry_tuple_getitem
abbrev Qw:=@PyProof.Rows.args_tuple_getitem
abbrev Qx:=@PySem.wpAny_typeOf
abbrev Qy:=@Bool.and_eq_true
abbrev QA:=@PySem.wpAny_newObj_type
abbrev QB:=@List.map_nil
abbrev QC:=@List.map_cons
abbrev QD:=@PySem.Heap.IsSliceOf.new
abbrev QE:=@PySem.slot_list_getitem
abbrev QF:=@PySem.Heap.get?_update_self
abbrev QG:=@List.all_cons
abbrev QH:=@List.reverse_cons
abbrev QI:=@List.replicate_succ
abbrev QJ:=@List.flatten_cons
abbrev QK:=@List.append_assoc
abbrev QL:=@List.foldl_cons
abbrev QM:=@PySem.call_meets
abbrev QN:=@List.length_singleton
abbrev QO:=@List.nil_append
abbrev QP:=@decide_eq_true
abbrev QR:=@List.lookup_cons
abbrev QS:=@List.forIn_cons
abbrev QT:=@beq_self_eq_true
abbrev QU:=@Bool.false_eq_true
abbrev QV:=@List.length_cons
abbrev QW:=@Nat.lt_succ_self
abbrev QX:=@Nat.lt_succ_of_lt
abbrev QY:=@PySem.Heap.size_push
abbrev QZ:=@PySem.pushCells_keeps
abbrev Q0:=@PySem.codeAny_of_tree
abbrev Q2:=@PySem.wpAny_askSetting
abbrev Q3:=@PySem.wpAny_rule
abbrev Q4:=@Nat.zero_le
abbrev Q5:=@List.mem_singleton
abbrev Q6:=@PySem.F.slot_tuple_iterator_next
abbrev Q7:=@PySem.F.entry_tuple_iterator_next
abbrev Q8:=@PySem.F.args_tuple_iterator_next_1
abbrev Q9:=@PySem.wpAny_seqItems
abbrev Ra:=@PySem.Heap.SameBut.update
abbrev Rb:=@PySem.wpAny_of_eq
abbrev Rc:=@List.range_succ_eq_map
abbrev Re:=@List.map_map
abbrev Rf:=@List.map_congr_left
abbrev Rg:=@List.length_range
abbrev Rh:=@List.length_nil
abbrev Ri:=@List.cons.inj
abbrev Rj:=@List.cons_append
abbrev Rk:=@List.pairwise_iff_getElem
abbrev Rm:=@Array.getElem?_eq_some_iff
abbrev Rn:=@List.take_of_length_le
abbrev Rp:=@Array.getElem?_toList
abbrev Rq:=@List.mem_map
abbrev Rt:=@Nat.le_of_lt_succ
abbrev Ru:=@Classical.byContradiction
abbrev Rv:=@List.nodup_range
abbrev Rw:=@List.getElem?_of_mem
abbrev Rx:=@List.mem_map_of_mem
abbrev Ry:=@List.take_append_drop
abbrev Rz:=@List.pairwise_cons
abbrev RA:=@List.map_append
abbrev RB:=@List.map_take
abbrev RC:=@List.map_drop
abbrev RD:=@Array.getD_eq_getD_getElem?
abbrev RE:=@Option.getD_some
abbrev RF:=@List.getElem?_drop
abbrev RG:=@List.mem_of_mem_take
abbrev RH:=@List.mem_of_mem_drop
abbrev RI:=@Array.getElem?_eq_none_iff
abbrev RJ:=@List.nodup_nil
abbrev RK:=@Nat.sub_self
abbrev RL:=@Array.toList_map
abbrev RM:=@Option.some.injEq
abbrev RN:=@List.perm_ext_iff_of_nodup
abbrev RO:=@Array.getElem?_eq_getElem
abbrev RP:=@List.all_eq_true
abbrev RQ:=@Bool.not_true
abbrev RR:=@PySem.wpAny_forIn_list
abbrev RT:=@PySem.wpAny_setState_of
abbrev RU:=@Bool.and_self
abbrev RW:=@Array.mem_toList_iff
abbrev RX:=@List.nodup_append
abbrev RY:=@PySem.wpAny_storeSet_of
abbrev RZ:=@PySem.putSet_of
abbrev R0:=@Bool.not_false
abbrev R6:=@PySem.codeAny_builtin
abbrev R7:=@PySem.Around.under_plainId
abbrev R8:=@PyProof.Rows.F.plain_set_update_loop
abbrev R9:=@PySem.plainId_quiet
abbrev Sa:=@PySem.isSubtype_type
abbrev Sb:=@PySem.F.called_set
abbrev Sd:=@PySem.Code.quiet_builtin
abbrev Se:=@PySem.codeAny_call_builtin
abbrev Sf:=@PySem.wpAny_pyIter_list
abbrev Sg:=@List.not_mem_nil
abbrev Sh:=@or_false
abbrev Si:=@not_or
abbrev Sj:=@PySem.Walks.list
abbrev Sk:=@List.take_add_one
abbrev Sl:=@PySem.W.KasT.kasWp_bind
abbrev Sn:=@Array.toList_inj
abbrev So:=@decide_eq_decide
abbrev Sr:=@List.getD_eq_getElem?_getD
abbrev Ss:=@List.ext_getElem?
abbrev Su:=@List.getElem?_range
abbrev Sv:=@List.getElem?_eq_none
abbrev Sw:=@List.pairwise_map
abbrev Sx:=@PyProof.Rows.listItems_at
abbrev Sy:=@PyProof.Rows.listUpdate_at
abbrev SA:=@PyProof.Rows.get?_update_seq
abbrev SB:=@PyProof.Rows.seqEpoch_at
abbrev SC:=@PySem.wpAny_newList
abbrev SD:=@PySem.Heap.get?_push_ne
abbrev SE:=@PyProof.Rows.size_push'
abbrev SF:=@PySem.Heap.size_update
abbrev SG:=@PySem.Heap.get?_update_ne
abbrev SH:=@bne_self_eq_false
abbrev SI:=@List.Perm.refl
abbrev SJ:=@List.getElem_mem
abbrev SK:=@List.getElem?_eq_getElem
abbrev SL:=@PySem.wpAny_setEntries_of
abbrev SM:=@PySem.wpAny_attempt
abbrev SN:=@PySem.wpAny_setField_rec
abbrev SQ:=@PySem.wpAny_isInstance
abbrev SR:=@PySem.Calls.call_function_entry
abbrev SS:=@PyProof.Rows.kind_sorted
abbrev SU:=@PyProof.Rows.plain_sorted
abbrev SV:=@PyProof.Rows.entry_sorted
abbrev SW:=@PyProof.Rows.args_sorted1
abbrev SX:=@PyProof.Rows.slot_list_sort
abbrev SY:=@PyProof.Rows.entry_list_sort
abbrev SZ:=@PyProof.Rows.args_list_sort
abbrev S8:=@beq_iff_eq
abbrev S9:=@of_eq_true
abbrev Ta:=@eq_self
abbrev Tb:=@List.drop_eq_getElem_cons
abbrev Tc:=@PySem.wpAny_pyIter_tuple
abbrev Td:=@decide_eq_true_eq
abbrev Te:=@List.zip_nil_left
abbrev Tf:=@List.zip_nil_right
abbrev Tg:=@List.zip_cons_cons
abbrev Th:=@List.eq_nil_of_length_eq_zero
abbrev Ti:=@PyProof.Rows.boot_isinstance
abbrev Tj:=@List.all_map
abbrev Tn:=@List.mergeSort_perm
abbrev To:=@Int.le_antisymm
abbrev Tp:=@Bool.or_eq_true
abbrev Tq:=@List.take_append_of_le_length
abbrev Tr:=@List.set_append_right
abbrev Ts:=@List.filter_cons
abbrev Tt:=@List.length_reverse
abbrev Tu:=@Int.pow_pos
abbrev Tv:=@Int.mul_le_mul_of_nonneg_right
abbrev Tw:=@Bool.true_and
abbrev Tx:=@PySem.wpAny_onRaise
abbrev TB:=@PySem.wpAny_updateSeq_pair
abbrev TC:=@PySem.wpAny_letGo
abbrev TF:=@PySem.F.slot_zip_next
abbrev TH:=@forall_eq_or_imp
abbrev TJ:=@forall_eq
abbrev TK:=@PySem.F.plain_all_loop
abbrev TL:=@PySem.PassesOwn.never
abbrev TM:=@Int.emod_nonneg
abbrev TN:=@Int.emod_lt_of_pos
abbrev TQ:=@List.set_cons_succ
abbrev TR:=@List.set_cons_zero
abbrev TU:=@List.set_append_left
abbrev TV:=@Function.comp_apply
abbrev TX:=@List.mem_flatMap
abbrev TY:=@List.any_eq_true
abbrev TZ:=@of_decide_eq_true
abbrev T4:=@List.filter_eq_self
abbrev T5:=@Function.comp_def
abbrev T6:=@List.length_filter_le
abbrev T7:=@List.flatMap_cons
abbrev T8:=@Nat.mul_le_mul_right
abbrev T9:=@List.flatMap_nil
abbrev Ua:=@PyProof.Rows.gt_int
abbrev Ub:=@decide_eq_false_iff_not
abbrev Uc:=@List.length_zip
abbrev Ud:=@List.mem_reverse
abbrev Ue:=@Bool.and_eq_false_iff
variable{pins:List (PySem.Addr×PySem.Obj)}{fd:PySem.FuncData}{Q:PySem.Value->PySem.Shared->Prop}{n:Nat}{s:PySem.Shared}{E:PySem.Value->PySem.Shared->Prop}{Z:List PySem.Addr}{f:PySem.Addr}{K:PySem.W.Frag}{ks:List (List Int)}{a:PySem.Addr}{A:PySem.Around}{i:Nat}{x:PySem.Str}{k:List Int}{mg:PySem.Str->Option PySem.Value}{ns:List Int}{pos:PySem.Pos}{ps:List (Int×PySem.Value)}{es:Array (Int×PySem.Value)}{α:List (Nat×Int×PySem.Value)}{prog:PySem.Program}{P:PySem.Program}{N:List PySem.Str}{e:PySem.Expr}{m:Int}{us:List PySem.Value}{scope:PySem.Scope}{base:PySem.Heap}{u:PySem.Value}{Ls:List (List (List Int))}{β:Type}{st:PySem.Stmt}{t:PySem.SetTable}{px:PySem.Pos}{qual:PySem.Str}{op:PySem.CmpOp}{XP:(PySem.Str->Option PySem.Value)->PySem.Heap->Prop}{b:PySem.Addr}{t':Nat}{its:List PySem.Value}{fp:List PySem.Addr}{body:List PySem.Stmt}{env:PySem.Env}{neg:Bool}{tg:PySem.Expr}{osl:Array (Option PySem.Value)}{L:List (List Int)}{it:PySem.Addr}{lo:Option Int}{h':PySem.Heap}{j:Nat}{mask:Nat}{elts:List PySem.Expr}{Nc:List PySem.Str}{outer:List PySem.Env}{ls:List (List Int)}{z:Nat×Int×PySem.Value}{ch:List PySem.Addr}{known:List PySem.Str}{apos:PySem.Pos}{C:Int->Int->Prop}{owner:Array (Option Nat)}{g:Comprehension}{l:PySem.Addr}{q:PyData}{subs:List PySem.Str}{c:PySem.Expr}{loose:List PySem.Str}{rest:List PySem.Expr}{eks:List (Bool×Bool)}{YP:PySem.World->PySem.Heap->Prop}{tn:String}{cl:List (PySem.Str×PySem.Addr)}{pos':PySem.Pos}{sc:PySem.Scope}{pos1:PySem.Pos}{ks':List (List Int)}{sh:List (List Int)}{ws:List (List Int)}{w2:List (List Int)}{s':PySem.Shared}{hs:List Int}{g':Array GenState}{J:Nat->PySem.Heap->Prop}{iter:PySem.Expr}{params:Arguments}{an:Option PySem.Addr}{pos2:PySem.Pos}{I:PySem.Addr}{np:PySem.Pos}{k1:Nat}{cdv:PySem.Value}{vl:PySem.Value}{ea:PySem.Addr}{sl:PySem.Addr}{a_NoPlace:PySem.Addr}{tk:PySem.Tok}{a_NoRoot:PySem.Addr}
namespace L2
open PySem PySem.Spec PyProof.Rows
def fv(s:Stmt):Arguments:=match s with
 |.FunctionDef _ a _ _ _ _ _ _ _ _=>a
 |_=>{posonlyargs:=[],args:=[],vararg:=none,kwonlyargs:=[],kw_defaults:=[],kwarg:=none,defaults:=[]}
def cM(s:Stmt):List Stmt:=match s with
 |.FunctionDef _ _ b _ _ _ _ _ _ _=>b
 |_=>[]
def ar(s:Stmt):Scope:=match s with
 |.FunctionDef _ _ _ _ _ _ sc _ _ _=>sc
 |_=>{kind:=.function,names:=[],isGenerator:=false,isCoroutine:=false}
end L2
namespace Lw
open PySem PySem.Spec PyProof.Rows L2
def top(i:Nat):Stmt:=PySem.Challenge.pw_rootwebs_k10_steps_and_shows.main.body.getD i (.Pass ⟨0,0,0,0⟩)
abbrev jA:Stmt:=top 11
abbrev fA:Stmt:=top 12
abbrev jB:Stmt:=top 13
abbrev gI:Stmt:=top 14
abbrev gH:Stmt:=top 15
abbrev kx:Stmt:=top 19
abbrev kv:Stmt:=top 22
abbrev mh:Stmt:=top 21
abbrev ja:Stmt:=top 20
abbrev jz:Stmt:=top 18
abbrev gJ:Stmt:=top 23
abbrev dQ:Stmt:=top 24
abbrev kr:Stmt:=top 25
abbrev gK:Stmt:=top 27
abbrev eC:Stmt:=top 28
abbrev ku:Stmt:=top 29
abbrev gG:Stmt:=top 30
abbrev eD:Stmt:=top 31
abbrev fX:Stmt:=top 33
abbrev iP:Stmt:=top 34
abbrev gL:Stmt:=top 35
abbrev iQ:Stmt:=top 36
abbrev ij:Stmt:=top 37
abbrev fW:Stmt:=top 38
abbrev fe:Stmt:=top 39
abbrev dz:Stmt:=top 40
abbrev ef:Stmt:=top 41
abbrev dR:Stmt:=top 42
abbrev fD:Stmt:=top 43
abbrev fB:Stmt:=top 44
abbrev fC:Stmt:=top 45
abbrev de:Stmt:=top 46
abbrev iO:Stmt:=top 47
abbrev dS:Stmt:=top 48
abbrev eu:Stmt:=top 49
abbrev fY:Stmt:=top 50
abbrev cT:Stmt:=top 51
abbrev jI:Stmt:=top 52
def en(P:Params)(n:Str)(t:Tok)(v:Value):DictEntry:=⟨PyData.keyHash P n,.str n t,v⟩
def fo (n:Str) (st:Stmt) (m:Str) (t:Tok) (c:Addr):Obj:=⟨.type "function",none,.func (W.fnOf n n (fv st) (cM st) (ar st) .none .none .none (.str m t) none (.ref c) .none),#[]⟩
def co (n:Str) (t:Tok) (l k i:Int) (a:Addr) (p:Bool) (u:Nat):Obj:=⟨.type "code",none,.fields #[.str n t,.str n (t+1),.str "/claim/cut.py" (t+2),.int l 0,.int k 0,.int 0 0,.int 0 0,.int 3 0,.ref a,.bool true,.int i 0,.ref (a+1),.none,bif p then .ref (a+2) else .none,bif p then .ref (a+3) else .none,.ref (bif p then a+4 else a+2),.int u 0,.int l 0,.str "/claim/cut.py" (u+1)],#[]⟩
def Kz (P:Params):W.Frag:=[(3,⟨.type "dict",none,.dict #[en P "__name__" 165 (.str "law_rootwebs_k10_steps_and_shows" 503),en P "__doc__" 166 .none,en P "__package__" 167 .none,en P "__loader__" 168 (.builtin "__main__.__loader__#opaque"),en P "__spec__" 169 .none,en P "__annotations__" 170 (.ref 6),en P "__builtins__" 171 (.ref 4),en P "__file__" 173 (.str "/claim/cut.py" 172),en P "__cached__" 174 .none,en P "RootError" 206 (.ref 24),en P "NoPlace" 222 (.ref 37),en P "NoNumber" 238 (.ref 49),en P "NoLine" 254 (.ref 61),en P "NoRoot" 270 (.ref 73),en P "NoTree" 286 (.ref 85),en P "NoWeb" 311 (.ref 104),en P "NoText" 336 (.ref 123),en P "TooGreat" 363 (.ref 142),en P "is_whole" 372 (.ref 151),en P "is_whole_from" 381 (.ref 158),en P "is_place" 389 (.ref 165),en P "is_places" 395 (.ref 170),en P "is_rising" 401 (.ref 175),en P "MOST_PLACES" 405 (.int 6 404),en P "web_good" 414 (.ref 182),en P "is_many" 421 (.ref 189),en P "is_ties" 427 (.ref 194),en P "is_tie" 435 (.ref 201),en P "is_pair" 443 (.ref 208),en P "check_place" 451 (.ref 215),en P "next_places" 457 (.ref 220),en P "star_of" 465 (.ref 227),en P "check_other" 475 (.ref 234),en P "steps_from" 481 (.ref 239),en P "is_step" 490 (.ref 246),en P "show_good" 496 (.ref 251),en P "first_show" 502 (.ref 256),en P "_law_cell_at" 512 (.ref 263),en P "_law_next" 519 (.ref 270),en P "_law_pen_of" 527 (.ref 277),en P "_law_draw" 536 (.ref 284),en P "_law_whole" 543 (.ref 291),en P "_law_kind_of" 551 (.ref 298),en P "_law_web_of" 557 (.ref 303),en P "_law_drawn_web" 563 (.ref 308),en P "_law_near_of" 569 (.ref 313),en P "_law_two_step" 575 (.ref 318),en P "_law_bent_web" 591 (.ref 325),en P "_law_web_like" 600 (.ref 332),en P "_law_no_place" 609 (.ref 339),en P "_law_tuples_are" 615 (.ref 344),en P "_law_told" 626 (.ref 351),en P "_law_steps_of" 632 (.ref 356),en P "_law_is_show" 638 (.ref 361),en P "_law_bent_of" 653 (.ref 368),en P "_law_right" 659 (.ref 373),en P "law" 665 (.ref 378)] 57,#[]⟩),
 (23,⟨.type "dict",none,.dict #[en P "__module__" 196 (.str "rootwebs.errors" 187),en P "__firstlineno__" 200 (.int 2 199),en P "__static_attributes__" 201 (.ref 22),en P "__weakref__" 203 (.ref 25),en P "__doc__" 204 .none] 3,#[]⟩),
 (24,⟨.type "type",none,.cls ⟨"RootError",[(.type "ValueError")],[(.ref 24),(.type "ValueError"),(.type "Exception"),(.type "BaseException"),(.type "object")],23, "RootError",true,[],[(.ref 37),(.ref 49),(.ref 61),(.ref 73),(.ref 85),(.ref 104),(.ref 123),(.ref 142)],false,none,false⟩,#[some (.ref 15),none,some (.str "RootError" 189),some (.str "RootError" 197),some (.builtin "ValueError.__new__"),some (.bool true)]⟩),
 (36,⟨.type "dict",none,.dict #[en P "__module__" 214 (.str "rootwebs.errors" 187),en P "__firstlineno__" 218 (.int 4 217),en P "__static_attributes__" 219 (.ref 35),en P "__doc__" 220 .none] 2,#[]⟩),
 (37,⟨.type "type",none,.cls ⟨"NoPlace",[(.ref 24)],[(.ref 37),(.ref 24),(.type "ValueError"),(.type "Exception"),(.type "BaseException"),(.type "object")],36, "NoPlace",true,[],[],false,none,false⟩,#[some (.ref 28),none,some (.str "NoPlace" 207),some (.str "NoPlace" 215),some (.builtin "ValueError.__new__"),some (.bool true)]⟩),
 (48,⟨.type "dict",none,.dict #[en P "__module__" 230 (.str "rootwebs.errors" 187),en P "__firstlineno__" 234 (.int 6 233),en P "__static_attributes__" 235 (.ref 47),en P "__doc__" 236 .none] 2,#[]⟩),
 (49,⟨.type "type",none,.cls ⟨"NoNumber",[(.ref 24)],[(.ref 49),(.ref 24),(.type "ValueError"),(.type "Exception"),(.type "BaseException"),(.type "object")],48, "NoNumber",true,[],[],false,none,false⟩,#[some (.ref 40),none,some (.str "NoNumber" 223),some (.str "NoNumber" 231),some (.builtin "ValueError.__new__"),some (.bool true)]⟩),
 (60,⟨.type "dict",none,.dict #[en P "__module__" 246 (.str "rootwebs.errors" 187),en P "__firstlineno__" 250 (.int 8 249),en P "__static_attributes__" 251 (.ref 59),en P "__doc__" 252 .none] 2,#[]⟩),
 (61,⟨.type "type",none,.cls ⟨"NoLine",[(.ref 24)],[(.ref 61),(.ref 24),(.type "ValueError"),(.type "Exception"),(.type "BaseException"),(.type "object")],60, "NoLine",true,[],[],false,none,false⟩,#[some (.ref 52),none,some (.str "NoLine" 239),some (.str "NoLine" 247),some (.builtin "ValueError.__new__"),some (.bool true)]⟩),
 (72,⟨.type "dict",none,.dict #[en P "__module__" 262 (.str "rootwebs.errors" 187),en P "__firstlineno__" 266 (.int 10 265),en P "__static_attributes__" 267 (.ref 71),en P "__doc__" 268 .none] 2,#[]⟩),
 (73,⟨.type "type",none,.cls ⟨"NoRoot",[(.ref 24)],[(.ref 73),(.ref 24),(.type "ValueError"),(.type "Exception"),(.type "BaseException"),(.type "object")],72, "NoRoot",true,[],[],false,none,false⟩,#[some (.ref 64),none,some (.str "NoRoot" 255),some (.str "NoRoot" 263),some (.builtin "ValueError.__new__"),some (.bool true)]⟩),
 (84,⟨.type "dict",none,.dict #[en P "__module__" 278 (.str "rootwebs.errors" 187),en P "__firstlineno__" 282 (.int 12 281),en P "__static_attributes__" 283 (.ref 83),en P "__doc__" 284 .none] 2,#[]⟩),
 (85,⟨.type "type",none,.cls ⟨"NoTree",[(.ref 24)],[(.ref 85),(.ref 24),(.type "ValueError"),(.type "Exception"),(.type "BaseException"),(.type "object")],84, "NoTree",true,[],[],false,none,false⟩,#[some (.ref 76),none,some (.str "NoTree" 271),some (.str "NoTree" 279),some (.builtin "ValueError.__new__"),some (.bool true)]⟩),
 (103,⟨.type "dict",none,.dict #[en P "__module__" 294 (.str "rootwebs.errors" 187),en P "__firstlineno__" 298 (.int 14 297),en P "__init__" 306 (.ref 101),en P "__static_attributes__" 308 (.ref 102),en P "__doc__" 309 .none] 2,#[]⟩),
 (104,⟨.type "type",none,.cls ⟨"NoWeb",[(.ref 24)],[(.ref 104),(.ref 24),(.type "ValueError"),(.type "Exception"),(.type "BaseException"),(.type "object")],103, "NoWeb",true,[],[],false,none,false⟩,#[some (.ref 88),none,some (.str "NoWeb" 287),some (.str "NoWeb" 295),some (.builtin "ValueError.__new__"),some (.bool true)]⟩),
 (122,⟨.type "dict",none,.dict #[en P "__module__" 319 (.str "rootwebs.errors" 187),en P "__firstlineno__" 323 (.int 18 322),en P "__init__" 331 (.ref 120),en P "__static_attributes__" 333 (.ref 121),en P "__doc__" 334 .none] 2,#[]⟩),
 (123,⟨.type "type",none,.cls ⟨"NoText",[(.ref 24)],[(.ref 123),(.ref 24),(.type "ValueError"),(.type "Exception"),(.type "BaseException"),(.type "object")],122, "NoText",true,[],[],false,none,false⟩,#[some (.ref 107),none,some (.str "NoText" 312),some (.str "NoText" 320),some (.builtin "ValueError.__new__"),some (.bool true)]⟩),
 (141,⟨.type "dict",none,.dict #[en P "__module__" 344 (.str "rootwebs.errors" 187),en P "__firstlineno__" 348 (.int 22 347),en P "__init__" 357 (.ref 139),en P "__static_attributes__" 360 (.ref 140),en P "__doc__" 361 .none] 2,#[]⟩),
 (142,⟨.type "type",none,.cls ⟨"TooGreat",[(.ref 24)],[(.ref 142),(.ref 24),(.type "ValueError"),(.type "Exception"),(.type "BaseException"),(.type "object")],141, "TooGreat",true,[],[],false,none,false⟩,#[some (.ref 126),none,some (.str "TooGreat" 337),some (.str "TooGreat" 345),some (.builtin "ValueError.__new__"),some (.bool true)]⟩),
 (150,co "is_whole" 366 28 1 181 145 true 370),
 (151,fo "is_whole" jA "rootwebs.kinds" 364 150),
 (157,co "is_whole_from" 373 30 3 181 152 true 379),
 (158,fo "is_whole_from" fA "rootwebs.kinds" 364 157),
 (164,co "is_place" 382 32 2 181 159 true 387),
 (165,fo "is_place" jB "rootwebs.kinds" 364 164),
 (169,co "is_places" 390 34 2 181 166 false 393),
 (170,fo "is_places" gI "rootwebs.kinds" 364 169),
 (174,co "is_rising" 396 36 1 181 171 false 399),
 (175,fo "is_rising" gH "rootwebs.kinds" 364 174),
 (181,co "web_good" 406 40 1 181 176 true 412),
 (182,fo "web_good" jz "rootwebs.webs" 402 181),
 (188,co "is_many" 415 45 1 181 183 true 419),
 (189,fo "is_many" kx "rootwebs.webs" 402 188),
 (193,co "is_ties" 422 47 2 181 190 false 425),
 (194,fo "is_ties" ja "rootwebs.webs" 402 193),
 (200,co "is_tie" 428 49 2 181 195 true 433),
 (201,fo "is_tie" mh "rootwebs.webs" 402 200),
 (207,co "is_pair" 436 51 2 181 202 true 441),
 (208,fo "is_pair" kv "rootwebs.webs" 402 207),
 (214,co "check_place" 444 53 2 181 209 true 449),
 (215,fo "check_place" gJ "rootwebs.webs" 402 214),
 (219,co "next_places" 452 56 2 181 216 false 455),
 (220,fo "next_places" dQ "rootwebs.webs" 402 219),
 (226,co "star_of" 458 58 2 181 221 true 463),
 (227,fo "star_of" kr "rootwebs.webs" 402 226),
 (233,co "check_other" 468 62 2 181 228 true 473),
 (234,fo "check_other" gK "rootwebs.looks" 466 233),
 (238,co "steps_from" 476 65 3 181 235 false 479),
 (239,fo "steps_from" eC "rootwebs.looks" 466 238),
 (245,co "is_step" 482 76 3 181 240 true 488),
 (246,fo "is_step" ku "rootwebs.looks" 466 245),
 (250,co "show_good" 491 80 3 181 247 false 494),
 (251,fo "show_good" gG "rootwebs.looks" 466 250),
 (255,co "first_show" 497 86 2 181 252 false 500),
 (256,fo "first_show" eD "rootwebs.looks" 466 255),
 (262,co "_law_cell_at" 505 93 2 181 257 true 510),
 (263,fo "_law_cell_at" fX "law_rootwebs_k10_steps_and_shows" 503 262),
 (269,co "_law_next" 513 97 1 181 264 true 517),
 (270,fo "_law_next" iP "law_rootwebs_k10_steps_and_shows" 503 269),
 (276,co "_law_pen_of" 520 100 1 181 271 true 525),
 (277,fo "_law_pen_of" gL "law_rootwebs_k10_steps_and_shows" 503 276),
 (283,co "_law_draw" 528 103 2 181 278 true 534),
 (284,fo "_law_draw" iQ "law_rootwebs_k10_steps_and_shows" 503 283),
 (290,co "_law_whole" 537 110 1 181 285 true 541),
 (291,fo "_law_whole" ij "law_rootwebs_k10_steps_and_shows" 503 290),
 (297,co "_law_kind_of" 544 112 1 181 292 true 549),
 (298,fo "_law_kind_of" fW "law_rootwebs_k10_steps_and_shows" 503 297),
 (302,co "_law_web_of" 552 118 2 181 299 false 555),
 (303,fo "_law_web_of" fe "law_rootwebs_k10_steps_and_shows" 503 302),
 (307,co "_law_drawn_web" 558 120 2 181 304 false 561),
 (308,fo "_law_drawn_web" dz "law_rootwebs_k10_steps_and_shows" 503 307),
 (312,co "_law_near_of" 564 127 2 181 309 false 567),
 (313,fo "_law_near_of" ef "law_rootwebs_k10_steps_and_shows" 503 312),
 (317,co "_law_two_step" 570 129 1 181 314 false 573),
 (318,fo "_law_two_step" dR "law_rootwebs_k10_steps_and_shows" 503 317),
 (324,co "_law_bent_web" 576 136 2 181 319 true 589),
 (325,fo "_law_bent_web" fD "law_rootwebs_k10_steps_and_shows" 503 324),
 (331,co "_law_web_like" 592 146 1 181 326 true 598),
 (332,fo "_law_web_like" fB "law_rootwebs_k10_steps_and_shows" 503 331),
 (338,co "_law_no_place" 601 159 2 181 333 true 607),
 (339,fo "_law_no_place" fC "law_rootwebs_k10_steps_and_shows" 503 338),
 (343,co "_law_tuples_are" 610 162 2 181 340 false 613),
 (344,fo "_law_tuples_are" de "law_rootwebs_k10_steps_and_shows" 503 343),
 (350,co "_law_told" 616 166 4 181 345 true 624),
 (351,fo "_law_told" iO "law_rootwebs_k10_steps_and_shows" 503 350),
 (355,co "_law_steps_of" 627 175 3 181 352 false 630),
 (356,fo "_law_steps_of" dS "law_rootwebs_k10_steps_and_shows" 503 355),
 (360,co "_law_is_show" 633 182 3 181 357 false 636),
 (361,fo "_law_is_show" eu "law_rootwebs_k10_steps_and_shows" 503 360),
 (367,co "_law_bent_of" 639 191 3 181 362 true 651),
 (368,fo "_law_bent_of" fY "law_rootwebs_k10_steps_and_shows" 503 367),
 (372,co "_law_right" 654 202 3 181 369 false 657),
 (373,fo "_law_right" cT "law_rootwebs_k10_steps_and_shows" 503 372),
 (377,co "law" 660 217 1 181 374 false 663),
 (378,fo "law" jI "law_rootwebs_k10_steps_and_shows" 503 377)]
def Qz:Program:=W.view PySem.Challenge.pw_rootwebs_k10_steps_and_shows [1,2,3,4,5,6,7,8,9,11,12,13,14,15,17,18,19,20,21,22,23,24,25,27,28,29,30,31,33,34,35,36,37,38,39,40,41,42,43,44,45,46,47,48,49,50,51,52]
noncomputable abbrev Hz:W.Hook:=W.kHook Kz [3,23,24,36,37,48,49,60,61,72,73,84,85,103,104,122,123,141,142,150,151,157,158,164,165,169,170,174,175,181,182,188,189,193,194,200,201,207,208,214,215,219,220,226,227,233,234,238,239,245,246,250,251,255,256,262,263,269,270,276,277,283,284,290,291,297,298,302,303,307,308,312,313,317,318,324,325,331,332,338,339,343,344,350,351,355,356,360,361,367,368,372,373,377,378] fun _=>by kernel_rfl
theorem Iv:PySem.Challenge.rw_rootwebs_k10_steps_and_shows.wellSaid=true:=by kernel_rfl
noncomputable abbrev Xz(s:Shared):Bool:=W.xlAt Qz [] s&&W.recOk (W.RowW.records (W.OpenRow.toRowW (W.OpenLaw.row PySem.Challenge.rw_rootwebs_k10_steps_and_shows))) s
theorem yQ{B Z β γ δ ε:Type _}{o:Option B}(F:B->Z×β×γ×δ)(G:B->ε)(g:Z×β×γ×δ)(v:ε)
  (h1:o.map (fun s=>(F s).1)=some g.1) (h2:o.map (fun s=>((F s).2.1,(F s).2.2.1))=some (g.2.1,g.2.2.1)) (h3:o.map (fun s=>(F s).2.2.2)=some g.2.2.2)
  (h4:o.map G=some v):o.map (fun s=>(F s,G s))=some (g,v):=by
 cases o with
 |none=>cases h4
 |some s=>
  have e1:(F s).1=g.1:=ON h1;have e2:((F s).2.1,(F s).2.2.1)=(g.2.1,g.2.2.1):=ON h2;have e3:(F s).2.2.2=g.2.2.2:=ON h3;have e4:G s=v:=ON h4;have e5:(F s).2.1=g.2.1:=(Prod.mk.inj e2).1;have e6:(F s).2.2.1=g.2.2.1:=(Prod.mk.inj e2).2;have e:F s=g:=Prod.ext e1 (Prod.ext e5 (Prod.ext e6 e3));show some (F s,G s)=some (g,v);rw[e,e4]
noncomputable abbrev Oz(w:World):=W.openEnds PySem.treeTable PySem.Challenge.rw_rootwebs_k10_steps_and_shows.row.prog w 6402
noncomputable abbrev Sz:=W.openSeen Qz [] (PySem.importedModules PySem.Challenge.rw_rootwebs_k10_steps_and_shows.row.prog.main.body) Xz true
noncomputable abbrev Tz:=W.openGood Qz []
theorem Fj:∀w,(Oz w).map (fun s=>(Sz s).1)=some Tz.1:=fun w=>by kernel_rfl
theorem Fi:∀w,(Oz w).map (fun s=>((Sz s).2.1,(Sz s).2.2.1))=some (Tz.2.1,Tz.2.2.1):=fun w=>by kernel_rfl
theorem Fh:∀w,(Oz w).map (fun s=>(Sz s).2.2.2)=some Tz.2.2.2:=fun w=>by kernel_rfl
theorem Fg:∀w,(Oz w).map (W.Hook.obs Hz)=some (W.Hook.val Hz w):=fun w=>by kernel_rfl
theorem Iw:W.LeftO PySem.Challenge.rw_rootwebs_k10_steps_and_shows.row.prog Qz [] Xz (W.Hook.obs Hz) (W.Hook.val Hz) 6402:=fun w=>yQ Sz (W.Hook.obs Hz) Tz (W.Hook.val Hz w) (Fj w) (Fi w) (Fh w) (Fg w)
end Lw
namespace L2
open PySem PySem.Spec PyProof.Rows
abbrev sU:=Sum Int Str
def HJ:sU->Value->Bool
 |.inl k,v=>Value.isInt k v
 |.inr x,v=>Value.isStrOf x v
def NX(w:World):sU->Int
 |.inl k=>hashInt k
 |.inr x=>hashStr w x
theorem dv:∀{k:sU}{v:Value},HJ k v=true->(∃i t,k=Sum.inl i/\v=Value.int i t)\/(∃x t,k=Sum.inr x/\v=Value.str x t)
 |.inl i,v,h=>by
  obtain⟨t,e⟩:=OO (k:=i) (v:=v) h;exact .inl ⟨i,t,rfl,e⟩
 |.inr x,v,h=>by
  obtain⟨t,e⟩:=Value.isStrOf_shape (x:=x) (v:=v) h;exact .inr ⟨x,t,rfl,e⟩
theorem Kx(a b:Int):decide ((Sum.inl a:sU)=Sum.inl b)=(a == b):=by
 by_cases e:a=b
 ·subst e;simp
 ·have h:¬ (Sum.inl a:sU)=Sum.inl b:=fun q=>e (Sum.inl.inj q);rw[OP h];exact(OQ.mpr e).symm
theorem Kt(a b:Str):decide ((Sum.inr a:sU)=Sum.inr b)=decide (a=b):=by
 by_cases e:a=b
 ·subst e;simp
 ·have h:¬ (Sum.inr a:sU)=Sum.inr b:=fun q=>e (Sum.inr.inj q);rw[OP h,OP e]
theorem Kv(a:Int)(b:Str):decide ((Sum.inl a:sU)=Sum.inr b)=false:=OP (fun q=>nomatch q)
theorem Ku(a:Str)(b:Int):decide ((Sum.inr a:sU)=Sum.inl b)=false:=OP (fun q=>nomatch q)
def qE(prog:Program)(w:World):PySem.KeyKind prog w sU where
 is:=HJ
 hash:=NX w
 inj:=fun v a b ha hb=>by
  rcases dv ha with⟨i,t,rfl,rfl⟩|⟨x,t,rfl,rfl⟩
  ·rcases dv hb with ⟨j, u, rfl, e⟩ | ⟨y, u, rfl, e⟩
   ·injection e with e1 _;rw[e1]
   ·exact nomatch e
  ·rcases dv hb with ⟨j, u, rfl, e⟩ | ⟨y, u, rfl, e⟩
   ·exact nomatch e
   ·injection e with e1 _;rw[e1]
 byValue:=fun k v h=>by
  rcases dv h with⟨i,t,rfl,rfl⟩|⟨x,t,rfl,rfl⟩ <;> rfl
 pyHash:=fun hv h=>by
  rcases dv hv with⟨i,t,rfl,rfl⟩|⟨x,t,rfl,rfl⟩
  ·exact wpAny_pyHash_int h
  ·exact wpAny_pyHash_str h
 eqBool:=fun hu hv h=>by
  rcases dv hu with⟨i,t,rfl,rfl⟩|⟨x,t,rfl,rfl⟩
  ·rcases dv hv with ⟨j, u, rfl, rfl⟩ | ⟨y, u, rfl, rfl⟩
   ·rw[Kx]at h;exact OR h
   ·rw[Kv]at h;exact SeqAt.EqAt.int_str i t y u _ _ _ _ h
  ·rcases dv hv with ⟨j, u, rfl, rfl⟩ | ⟨y, u, rfl, rfl⟩
   ·rw[Ku]at h;exact SeqAt.EqAt.str_int x t j u _ _ _ _ h
   ·rw[Kt]at h;exact wpAny_eqBool_str h
 «strs»:=fun k x t v h=>by
  rcases dv h with⟨i,u,rfl,e⟩|⟨y,u,rfl,e⟩
  ·exact nomatch e
  ·injection e with e1 _
   subst e1;cases v <;> rfl
inductive V where
 |non|bl (b:Bool)|int (i:Int)|str (x:Str)|byt (b:Array UInt8)|flt (b:UInt64)|ref (a:Addr)|ty (n:String)
 deriving DecidableEq
def cx:V->Value->Prop
 |.non,u=>u=Value.none
 |.bl b,u=>u=Value.bool b
 |.int i,u=>∃t,u=Value.int i t
 |.str x,u=>∃t,u=Value.str x t
 |.byt b,u=>∃t,u=Value.bytes b t
 |.flt b,u=>∃t,u=Value.float b t
 |.ref a,u=>u=Value.ref a
 |.ty n,u=>u=Value.type n
abbrev bp:List V->List Value->Prop:=Paired cx
theorem bp.length{xs:List V}(r:bp xs us):xs.length=us.length:=Paired.length r
theorem bp.get:∀{xs:List V}{us:List Value}{i:Nat}{x:V},bp xs us->xs[i]?=some x->∃u,us[i]?=some u/\cx x u
 |_,_,_,_,.nil,e=>by simp at e
 |_,_,0,_,.cons r _,e=>by simp at e;subst e;exact⟨_,rfl,r⟩
 |_,_,i+1,x,.cons _ t,e=>by
  obtain⟨u,h1,h2⟩:=bp.get (i:=i) (x:=x) t (by simpa using e);exact⟨u,by simpa using h1,h2⟩
theorem bp.set{x:V}{u:Value}(r:cx x u):∀{xs:List V}{us:List Value}(i:Nat),bp xs us->bp (xs.set i x) (us.set i u)
 |_,_,_,.nil=>.nil
 |_,_,0,.cons _ t=>.cons r t
 |_,_,i+1,.cons q t=>.cons q (bp.set r i t)
theorem bp.append:∀{xs ys:List V}{us ws:List Value},bp xs us->bp ys ws->bp (xs++ys) (us++ws)
 |_,_,_,_,.nil,s=>s
 |_,_,_,_,.cons r t,s=>.cons r (bp.append t s)
theorem bp.take:∀{xs:List V}{us:List Value}(n:Nat),bp xs us->bp (xs.take n) (us.take n)
 |_,_,0,_=>.nil
 |_,_,_+1,.nil=>.nil
 |_,_,n+1,.cons r t=>.cons r (bp.take n t)
theorem bp.drop:∀{xs:List V}{us:List Value}(n:Nat),bp xs us->bp (xs.drop n) (us.drop n)
 |_,_,0,r=>r
 |_,_,_+1,.nil=>.nil
 |_,_,n+1,.cons _ t=>bp.drop n t
def LK:Option V->Option Value->Prop
 |some v,some u=>cx v u
 |none,none=>True
 |_,_=>False
def KV{κ:Type}:List (κ×V)->List (κ×Value)->Prop:=Paired fun(p:κ×V) (q:κ×Value)=>p.1=q.1/\cx p.2 q.2
def kV:sU->V
 |.inl i=>.int i
 |.inr x=>.str x
inductive HO where
 |lst (xs:List V)
 |tup (xs:List V)
 |dK (kvs:List (sU×V))|dT (kvs:List (List sU×V))
 |set (S:Int->Bool) (n:Nat)
 |ins (C dx:Addr) (fs:List (Str×V))
 |own (x:Addr)
 |xd (fs:List (Str×V))
 |met (f x:Addr)
 |rng (lo hi:Int)
 |frz (o:Obj) (u:HO)
 |tbl (ps:Array Value)
 |ext (φ:Heap->Prop)
abbrev Hp:=Addr->Option HO
def dk(H:Hp)(a:Addr)(o:HO):Hp:=fun b=>if b=a then some o else H b
theorem cP{H:Hp}{o:HO}:dk H a o a=some o:=by unfold dk;rw[OS rfl]
theorem bJ{H:Hp}{o:HO}(h:b≠a):dk H a o b=H b:=by unfold dk;rw[OT h]
theorem CJ{H:Hp}{o u:HO}(h:H a=some o)(h':H b=some u)(d:o≠u):a≠b:=by
 intro e;subst e;rw[h]at h';exact d (ON h')
theorem cB{H:Hp}{o:HO}(h:H a=some o)(h':H b=none):a≠b:=by
 intro e;subst e;rw[h]at h';cases h'
section
variable(P:Program)(w:World)
def fJ(H:Hp)(h:Heap)(a:Addr):HO->Prop
 |.lst xs=>xs.length<=sizeLine/\∃(its:List Value) (n:Nat),bp xs its/\h.get? a=some {cls:=.type "list",data:=.seq its.toArray n}
 |.tup xs=>xs.length<=sizeLine/\∃its:List Value,bp xs its/\IsTup h a its.toArray
 |.dK kvs=>kvs.length<=sizeLine/\(a == sysModules)=false/\∃vs,KV kvs vs/\h.DictOf (qE P w) a vs
 |.dT kvs=>kvs.length<=sizeLine/\(a == sysModules)=false/\∃xs:List (List sU×Addr×Value),
   Paired (fun(p:List sU×V) (q:List sU×Addr×Value)=>p.1=q.1/\H q.2.1=some (.tup (p.1.map kV))/\cx p.2 q.2.2) kvs xs /\
   ∃o es ep,h.get? a=some o/\o.ExactDict/\o.data=.dict es ep/\es.toList=xs.map (entryOfKey (tupleKind (qE P w)))/\(xs.map (·.1)).Nodup
 |.set S n=>h.SetOf (intKind P w) a S n
 |.ins C dx fs=>H dx=some (.own a)/\fs.length<=1000/\dx≠a/\h.get? a=some (W.instObj C dx) /\
   ∃mA,h.Ns1 dx mA/\(∀f,LK (fs.lookup f) (mA f))/\PySem.Within mA (fs.map (·.1))
 |.own _=>∃o,h.get? a=some o
 |.xd fs=>∃mA,h.Ns1 a mA/\∀f,LK (fs.lookup f) (mA f)
 |.rng lo hi=>∃t u v,h.get? a=some {cls:=.type "range",data:=.fields #[.int lo t,.int hi u,.int 1 v]}
 |.frz o u=>h.get? a=some o/\fJ H h a u
 |.tbl ps=>h.get? a=some {cls:=.none,data:=.fields ps}
 |.met f x=>h.get? a=some (W.methodObj (.ref f) (.ref x))
 |.ext φ=>φ h/\(∃o,h.get? a=some o)/\∀h1 h2:Heap,φ h1->(∀o,h1.get? a=some o->h2.get? a=some o)->φ h2
def ou(H:Hp)(h:Heap):Prop:=∀a o,H a=some o->fJ P w H h a o
end
section
variable{w:World}{H H':Hp}{h:Heap}{o:HO}
theorem fJ.lt(x:fJ P w H h a o):a<h.objs.size:=by
 cases o with
 |lst xs=>obtain⟨_,_,_,_,e⟩:=x;exact OU e
 |tup xs=>obtain⟨_,_,_,p⟩:=x;exact p.lt
 |dK kvs=>obtain⟨_,_,_,_,o,_,_,e,_⟩:=x;exact OU e
 |dT kvs=>obtain⟨_,_,_,_,o,_,_,e,_⟩:=x;exact OU e
 |set S n=>obtain⟨o,_,_,_,e,_⟩:=x;exact OU e
 |ins C dx fs=>obtain⟨_,_,_,e,_⟩:=x;exact OU e
 |own y=>obtain⟨_,e⟩:=x;exact OU e
 |xd fs=>obtain⟨_,⟨_,_,_,e,_⟩,_⟩:=x;exact OU e
 |rng lo hi=>obtain⟨_,_,_,e⟩:=x;exact OU e
 |frz ob u=>obtain⟨e,_⟩:=x;exact OU e
 |tbl ps=>exact OU (show h.get? a=some _ from x)
 |met f y=>exact OU (show h.get? a=some _ from x)
 |ext φ=>obtain⟨_,⟨_,e⟩,_⟩:=x;exact OU e
theorem pX{Z β:Type}{F G:Z->β->Prop}:∀{l₁:List Z}{l₂:List β},Paired F l₁ l₂->(∀a b,F a b->G a b)->Paired G l₁ l₂
 |_,_,.nil,_=>.nil
 |_,_,.cons r t,f=>.cons (f _ _ r) (pX t f)
theorem fJ.stay(x:fJ P w H h a o)(k:∀b u,(b=a\/H b=some (.own a))->h.get? b=some u->h'.get? b=some u)
  (ho:∀b,H b=some (.own a)->H' b=some (.own a)) (ht:∀b xs,H b=some (.tup xs)->H' b=some (.tup xs)):fJ P w H' h' a o:=by
 induction o with
 |lst xs=>obtain⟨z,its,n,r,e⟩:=x;exact⟨z,its,n,r,k _ _ (.inl rfl) e⟩
 |tup xs=>obtain⟨z,its,r,ob,e,c⟩:=x;exact⟨z,its,r,ob,k _ _ (.inl rfl) e,c⟩
 |dK kvs=>obtain⟨z,y,vs,r,ob,es,ep,e,c⟩:=x;exact⟨z,y,vs,r,ob,es,ep,k _ _ (.inl rfl) e,c⟩
 |dT kvs=>
  obtain⟨z,y,xs,r,ob,es,ep,e,c⟩:=x;exact⟨z,y,xs,pX r fun p q z=>⟨z.1,ht _ _ z.2.1,z.2.2⟩,ob,es,ep,k _ _ (.inl rfl) e,c⟩
 |set S n=>obtain⟨ob,es,ep,t,e,c⟩:=x;exact⟨ob,es,ep,t,k _ _ (.inl rfl) e,c⟩
 |ins C dx fs=>
  obtain⟨d,z,ne,e,mA,⟨od,es,ep,e2,c⟩,r⟩:=x;exact⟨ho _ d,z,ne,k _ _ (.inl rfl) e,mA,⟨od,es,ep,k _ _ (.inr d) e2,c⟩,r⟩
 |own y=>obtain⟨ob,e⟩:=x;exact⟨ob,k _ _ (.inl rfl) e⟩
 |xd fs=>obtain⟨mA,⟨od,es,ep,e,c⟩,r⟩:=x;exact⟨mA,⟨od,es,ep,k _ _ (.inl rfl) e,c⟩,r⟩
 |rng lo hi=>obtain⟨t,u,v,e⟩:=x;exact⟨t,u,v,k _ _ (.inl rfl) e⟩
 |frz ob u ih=>obtain⟨e,q⟩:=x;exact⟨k _ _ (.inl rfl) e,ih q⟩
 |tbl ps=>
  have e:h.get? a=some {cls:=.none,data:=.fields ps}:=x;show h'.get? a=some {cls:=.none,data:=.fields ps};exact k a _ (.inl rfl) e
 |met f y=>
  have e:h.get? a=some (W.methodObj (.ref f) (.ref y)):=x;show h'.get? a=some (W.methodObj (.ref f) (.ref y));exact k a _ (.inl rfl) e
 |ext φ=>obtain⟨p,⟨o,e⟩,st⟩:=x;exact⟨st _ _ p fun o q=>k _ _ (.inl rfl) q,⟨o,k _ _ (.inl rfl) e⟩,st⟩
theorem ou.lt(x:ou P w H h)(e:H a=some o):a<h.objs.size:=(x a o e).lt
theorem ou.fresh(x:ou P w H h)(e:h.objs.size<=a):H a=none:=by
 cases q:H a with
 |none=>rfl
 |some u=>exact absurd (OV (x.lt q) e) (OW _)
theorem ou.kept(x:ou P w H h)(k:∀b u,h.get? b=some u->h'.get? b=some u):ou P w H h':=fun a o e=>
 (x a o e).stay (fun b u _ q=>k b u q) (fun _ q=>q) fun _ _ q=>q
theorem ou.laid(x:ou P w H h)(k:∀b u,h.get? b=some u->h'.get? b=some u)(hp:h.objs.size<=a)(new:fJ P w (dk H a o) h' a o):ou P w (dk H a o) h':=fun b u e=>by
 have hn:=x.fresh hp;by_cases hb:b=a
 ·subst hb;rw[cP]at e;cases e;exact new
 ·rw[bJ hb]at e;exact(x b u e).stay (fun c v _ q=>k c v q) (fun c q=>by rw[bJ (cB q hn)];exact q) fun c xs q=>by rw[bJ (cB q hn)];exact q
end
def Rd(H:Hp)(a:Addr)(u:HO):Prop:=H a=some u\/∃o,H a=some (.frz o u)
theorem Rd.ok{w:World}{H:Hp}{h:Heap}{u:HO}(r:Rd H a u)(x:ou P w H h):fJ P w H h a u:=by
 rcases r with r|⟨o,r⟩
 ·exact x a u r
 ·obtain⟨_,q⟩:=x a _ r;exact q
def Ng:Option HO->Prop
 |some (.lst _)=>True
 |some (.dK _)=>True
 |some (.dT _)=>True
 |some (.set _ _)=>True
 |some (.ins _ _ _)=>True
 |some (.ext _)=>True
 |_=>False
section
variable{w:World}{H:Hp}{h:Heap}{x e:Addr}{o':HO}
theorem ou.write(ok:ou P w H h)(mu:Ng (H x))(he:e=x\/H e=some (.own x))(k:∀b u,b≠e->h.get? b=some u->h'.get? b=some u)(heo:∃u,h'.get? e=some u)
  (new:fJ P w (dk H x o') h' x o'):ou P w (dk H x o') h':=fun b u q=>by
 have nown:∀c y,H c=some (.own y)->c≠x:=fun c y r z=>by subst z;rw[r]at mu;exact mu
 have ntup:∀c xs,H c=some (.tup xs)->c≠x:=fun c xs r z=>by subst z;rw[r]at mu;exact mu
 by_cases hb:b=x
 ·subst hb;rw[cP]at q;cases q;exact new
 ·rw [bJ hb] at q;by_cases hbe:b=e
  ·have q':H b=some (.own x):=by
    rcases he with z|z
    ·exact absurd (hbe.trans z) hb
    ·rw[hbe];exact z
   rw[q]at q';cases q';obtain⟨v,hv⟩:=heo;exact⟨v,by rw[hbe];exact hv⟩
  ·refine (ok b u q).stay (fun c v hc r => k c v ?_ r) (fun c r => by rw [bJ (nown c b r)]; exact r) fun c xs r => by rw [bJ (ntup c xs r)]; exact r
   rcases hc with rfl|hc
   ·exact hbe
   ·rintro rfl
    rcases he with z|z
    ·exact nown c b hc z
    ·rw[hc]at z;cases z;exact hb rfl
end
structure Un(fs ex:List Addr)(H H':Hp)(h h':Heap):Prop where
 keep:∀b o,h.get? b=some o->H b=none->b∉fs->b∉ex->h'.get? b=some o
 slot:∀b o,h.get? b=some o->H b=none->b∈fs->b∉ex->∃sl,h'.get? b=some {o with slots:=sl}
 free:∀b o,h.get? b=some o->H b=none->b∉ex->H' b=none
 there:∀b o,h.get? b=some o->b∉ex->∃o',h'.get? b=some o'
 tups:∀b xs,H b=some (.tup xs)->H' b=some (.tup xs)
 frzs:∀b o u,H b=some (.frz o u)->H' b=some (.frz o u)
 tbls:∀b ps,H b=some (.tbl ps)->∃more,H' b=some (.tbl (ps++more))
section
variable{fs fs' ex ex':List Addr}{H H1 H2:Hp}{h h1 h2:Heap}{x e:Addr}{o:HO}
theorem Un.any(u:Un fs ex H H1 h h1){ob:Obj}(q:h.get? b=some ob)(n:H b=none)(hx:b∉ex):∃sl,h1.get? b=some {ob with slots:=sl}:=by
 by_cases hb:b∈fs
 ·exact u.slot b ob q n hb hx
 ·exact⟨ob.slots,u.keep b ob q n hb hx⟩
theorem Un.kept(k:∀b u,h.get? b=some u->h'.get? b=some u):Un fs ex H H h h':=
 ⟨fun b ob q _ _ _=>k b ob q,fun b ob q _ _ _=>⟨ob.slots,k b ob q⟩,fun _ _ _ n _=>n,fun b ob q _=>⟨ob,k b ob q⟩,fun _ _ q=>q,fun _ _ _ q=>q,fun _ ps q=>⟨#[],by rw[q];simp⟩⟩
theorem Un.refl:Un fs ex H H h h:=Un.kept fun _ _ q=>q
theorem Un.laid(k:∀b u,h.get? b=some u->h'.get? b=some u)(hp:h.objs.size<=a)(hn:H a=none):Un fs ex H (dk H a o) h h' where
 keep:=fun b u q _ _ _=>k b u q
 slot:=fun b u q _ _ _=>⟨u.slots,k b u q⟩
 free:=fun b u q n _=>by rw[bJ (OX (OV (OU q) hp))];exact n
 there:=fun b u q _=>⟨u,k b u q⟩
 tups:=fun b xs q=>by rw[bJ (cB q hn)];exact q
 frzs:=fun b u xs q=>by rw[bJ (cB q hn)];exact q
 tbls:=fun b ps q=>⟨#[],by rw[bJ (cB q hn),q];simp⟩
theorem Un.write(mu:Ng (H x))(he:e=x\/H e=some (.own x))(k:∀b u,b≠e->h.get? b=some u->h'.get? b=some u)(heo:∃u,h'.get? e=some u):Un fs ex H (dk H x o) h h':=by
 have hx:∀b,H b=none->b≠x:=fun b n z=>by subst z;rw[n]at mu;exact mu
 have hb:∀b,H b=none->b≠e:=fun b n z=>by
  subst z;rcases he with r|r
  ·exact hx b n r
  ·rw[n]at r;cases r
 have hm:∀b u,H b=some u->¬ Ng (some u)->b≠x:=fun b u q nm z=>by subst z;rw[q]at mu;exact nm mu
 refine⟨fun b u q n _ _=>k b u (hb b n) q,fun b u q n _ _=>⟨u.slots,k b u (hb b n) q⟩,fun b u q n _=>by rw[bJ (hx b n)];exact n,fun b u q _=>?_,
  fun b xs q=>by rw[bJ (hm b _ q fun z=>z)];exact q,fun b u xs q=>by rw[bJ (hm b _ q fun z=>z)];exact q,fun b ps q=>⟨#[],by rw[bJ (hm b _ q fun z=>z),q];simp⟩⟩
 by_cases hbe:b=e
 ·subst hbe;exact heo
 ·exact⟨u,k b u hbe q⟩
end
def MY(h:Heap)(H:Hp):List Addr:=(List.range h.objs.size).filter fun a=>(H a).isSome
def uL(h:Heap)(H:Hp):Heap:=W.hideAll h (MY h H)
theorem BM(h:Heap)(H:Hp):(uL h H).objs.size=h.objs.size:=W.hideAll_size _ _
theorem Ew{h:Heap}{H:Hp}{o:Obj}(e:h.get? b=some o)(n:H b=none):(uL h H).get? b=some o:=
 W.hideAll_get _ e fun hm=>by
  have q:(H b).isSome=true:=(OY.mp hm).2;rw[n]at q;simp at q
theorem GC{h:Heap}{H:Hp}{o:Obj}(e:(uL h H).get? b=some o):h.get? b=some o/\H b=none:=by
 have e':h.get? b=some o:=W.of_hideAll (MY h H) e;refine⟨e',?_⟩;cases q:H b with
 |none=>rfl
 |some x=>
  have hm:b∈MY h H:=OY.mpr ⟨OZ.mpr (OU e'),by simp[q]⟩;have z:(uL h H).get? b=none:=W.hideAll_none (MY h H) hm;rw[z]at e;cases e
end L2
variable{H:L2.Hp}{vs:List L2.V}{v:L2.V}{o:L2.HO}
namespace L2
open PySem PySem.Spec PyProof.Rows
structure Mod(K:W.Frag)(mg:Str->Option Value)(base:Heap):Prop where
 kin:K.In base
 glob:base.Ns mainGlobals mg
 blt:∃mb,base.Ns builtinsNs mb/\∀x:Str,x ≠ "__name__" -> mb x=bootBuiltins x
 nolimit:base.NoLimit
structure Cx where
 prog:Program
 w:World
 K:W.Frag
 mg:Str->Option Value
 base:Heap
 A:Around
 N:List Str
 s₀:Shared
 H₀:Hp
 env:Env
 outer:List Env
 stack:List Env
 ex:List Addr
 fn:Str->Bool
 calm:Bool
 pn:List (Addr×Obj)
 xe:Value->Shared->Prop
def pF(l:List Env):List Addr:=l.filterMap (·.frame)
abbrev Cx.fs(X:Cx):List Addr:=pF X.outer
def Ny(sc:Scope)(x:Str):Prop:=sc.names.lookup x=some .local\/sc.names.lookup x=some .cell\/sc.names.lookup x=some .free
def EU(sc:Scope)(x:Str):Prop:=sc.names.lookup x=some .local\/sc.names.lookup x=some .cell
def Oj(env:Env)(h:Heap)(m:Str->Option Value)(x:Str)(u:Value):Prop:=
 (env.kindOf x=some .local/\m x=some u)\/((env.kindOf x=some .cell\/env.kindOf x=some .free)/\∃c,env.cells.lookup x=some c/\h.IsCell c (some u))
structure Cx.Ok(X:Cx):Prop where
 mod:Mod X.K X.mg X.base
 kind:X.env.scope.kind=.function
 glob:X.env.globals=mainGlobals
 blt:X.env.builtins=builtinsNs
 above:X.s₀.heap.objs.size<=X.env.locals
 inj:∀x y c,X.env.cells.lookup x=some c->X.env.cells.lookup y=some c->x=y
 has:∀x,(X.env.kindOf x=some .cell\/X.env.kindOf x=some .free)->∃c,X.env.cells.lookup x=some c
 cab:∀x c,X.fn x=true->X.env.cells.lookup x=some c->X.s₀.heap.objs.size<=c
 hd:X.calm=true->X.A.handled=none
 frames:X.A.frames=some X.stack
 stk:X.stack=X.outer\/(X.stack=X.env::X.outer/\X.env.frame=some X.env.locals)
 exf:∀b∈X.ex,b≠X.env.locals/\∀x c,X.env.cells.lookup x=some c->c≠b
 bs:∀b o,X.base.get? b=some o->X.s₀.heap.get? b=some o/\X.H₀ b=none
 bsz:X.base.objs.size<=X.s₀.heap.objs.size
 noex:∀b o,X.base.get? b=some o->b∉X.ex
 exfs:∀b∈X.ex,b∉X.fs
 funs:X.s₀.heap.FunFrames X.base X.outer
 frf:∀b∈X.fs,X.H₀ b=none
structure aZ(X:Cx)(pins:List (Addr×Obj))(B:List (Option V))(H:Hp)(s:Shared):Prop where
 ok:X.Ok
 os:s.os=X.s₀.os
 bare:AllBare s.gens
 base:Un X.fs X.ex X.H₀ H X.s₀.heap s.heap
 loc:∃m,s.heap.Ns X.env.locals m/\∀(i:Nat)(x:Str)(v:V),X.N[i]?=some x->B[i]?=some (some v)->Ny X.env.scope x->∃u,cx v u/\Oj X.env s.heap m x u
 cell:∀x c,X.env.cells.lookup x=some c->∃v,s.heap.IsCell c v
 free:H X.env.locals=none
 freeC:∀x c,X.env.cells.lookup x=some c->H c=none
 pin:∀p∈X.pn++pins,s.heap.get? p.1=some p.2/\H p.1=none/\p.1≠X.env.locals/\p.1∉X.fs/\∀v,p.2.data≠.cell v
 hok:ou X.prog X.w H s.heap
 len:B.length=X.N.length
section
variable{X:Cx}{B:List (Option V)}{H':Hp}
theorem Cx.Ok.nofr(ok:X.Ok){o:Obj}(e:X.base.get? b=some o):b∉X.fs:=fun hb=>by
 have:=(ok.funs.mem hb).1;rw[e]at this;cases this
theorem aZ.bs(I:aZ X pins B H s):∀b o,X.base.get? b=some o->s.heap.get? b=some o/\H b=none:=fun b o e=>
 ⟨I.base.keep b o (I.ok.bs b o e).1 (I.ok.bs b o e).2 (I.ok.nofr e) (I.ok.noex b o e),I.base.free b o (I.ok.bs b o e).1 (I.ok.bs b o e).2 (I.ok.noex b o e)⟩
theorem aZ.bk(I:aZ X pins B H s):∀b o,X.base.get? b=some o->s.heap.get? b=some o:=fun b o e=>(I.bs b o e).1
theorem aZ.mod(I:aZ X pins B H s):Mod X.K X.mg X.base:=I.ok.mod
theorem aZ.kIn(I:aZ X pins B H s):X.K.In s.heap:=I.ok.mod.kin.keeps I.bk
theorem aZ.lt(I:aZ X pins B H s):X.env.locals<s.heap.objs.size:=let ⟨_,hn,_⟩:=I.loc;hn.lt
theorem aZ.sz(I:aZ X pins B H s):X.s₀.heap.objs.size<=s.heap.objs.size:=O0 I.ok.above (O1 I.lt)
theorem aZ.nofs(I:aZ X pins B H s)(h:s.heap.objs.size<=a):a∉X.fs:=fun hb=>by
 obtain⟨_,o,ho,_⟩:=I.ok.funs.mem hb;exact absurd (OV (OU ho) (O0 I.sz h)) (OW _)
theorem aZ.cne(I:aZ X pins B H s):∀x c,X.env.cells.lookup x=some c->c≠X.env.locals:=fun x c e z=>by
 obtain⟨v,o,ho,hd⟩:=I.cell x c e;obtain⟨m,⟨o',es,ep,ho',hd',_⟩,_⟩:=I.loc;rw[z,ho']at ho;cases ho;rw[hd']at hd;cases hd
theorem aZ.funs(I:aZ X pins B H s):s.heap.FunFrames X.base X.outer:=by
 have all:∀(l:List Env),(∀b∈pF l,b∈X.fs)->X.s₀.heap.FunFrames X.base l->s.heap.FunFrames X.base l:=by
  intro l
  induction l with
  |nil=>intro _ _;trivial
  |cons env r ih=>
   intro hs hl;obtain⟨hk,⟨L,o,hf,hn,ho,hd⟩,hr⟩:=hl;have hL:L∈X.fs:=hs L (by unfold pF;rw[O2,hf];exact O3);obtain⟨sl,e⟩:=I.base.slot L o ho (I.ok.frf L hL) hL fun z=>I.ok.exfs L z hL;exact⟨hk,⟨L,_,hf,hn,e,hd⟩,ih (fun b hb=>hs b (by unfold pF;rw[O2,hf];exact O4 _ hb)) hr⟩
 exact all X.outer (fun _ hb=>hb) I.ok.funs
theorem aZ.stack(I:aZ X pins B H s):s.heap.FunFrames X.base X.stack:=by
 rcases I.ok.stk with e|⟨e,hf⟩
 ·rw[e];exact I.funs
 ·rw[e];obtain⟨m,hn,_⟩:=I.loc;refine .cons (by rw[I.ok.kind];decide) hf hn ?_ I.funs;exact Heap.get?_none_of_le (O0 I.ok.bsz I.ok.above)
theorem aZ.stkSub(I:aZ X pins B H s):∀b∈pF X.stack,b∈X.env.locals::X.fs:=fun b hb=>by
 rcases I.ok.stk with e|⟨e,hf⟩
 ·rw[e]at hb;exact O4 _ hb
 ·rw[e]at hb;unfold pF at hb;rw[O2,hf]at hb;exact hb
theorem aZ.stkFree(I:aZ X pins B H s):∀b∈pF X.stack,H b=none:=fun b hb=>by
 rcases O5.mp (I.stkSub b hb) with e|hb
 ·rw[e];exact I.free
 ·obtain⟨_,o,ho,_⟩:=I.ok.funs.mem hb;exact I.base.free b o ho (I.ok.frf b hb) fun z=>I.ok.exfs b z hb
theorem aZ.step{d':Drawn}(I:aZ X pins B H s)(hch:∀b∈ch,(b∈X.ex\/X.s₀.heap.objs.size<=b)/\b≠X.env.locals/\(∀x c,X.env.cells.lookup x=some c->c≠b)/\∀p∈X.pn++pins,p.1≠b)(keep:∀b o,b≠X.env.locals->b∉X.fs->b∉ch->s.heap.get? b=some o->H b=none->h'.get? b=some o)(slot:∀b o,b≠X.env.locals->b∈X.fs->b∉ch->s.heap.get? b=some o->H b=none->∃sl,h'.get? b=some {o with slots:=sl})(free:∀b o,b∉ch->s.heap.get? b=some o->H b=none->H' b=none)(there:∀b o,b∉ch->s.heap.get? b=some o->∃o',h'.get? b=some o')(tups:∀b xs,H b=some (.tup xs)->H' b=some (.tup xs))(frzs:∀b o u,H b=some (.frz o u)->H' b=some (.frz o u))(tbls:∀b ps,H b=some (.tbl ps)->∃more,H' b=some (.tbl (ps++more)))(ns:∀m,s.heap.Ns X.env.locals m->h'.Ns X.env.locals m)(hok:ou X.prog X.w H' h')(hg:AllBare g'):
  aZ X pins B H' {s with heap:=h',gens:=g',drawn:=d',toks:=t'}:=by
 have neL:∀b o,X.s₀.heap.get? b=some o->b≠X.env.locals:=fun b o e=>OX (OV (OU e) I.ok.above)
 have neC:∀b o,X.s₀.heap.get? b=some o->b∉X.ex->b∉ch:=fun b o e hx hb=>by
  rcases (hch b hb).1 with z|z
  ·exact hx z
  ·exact absurd (OV (OU e) z) (OW _)
 have cellK:∀x c,X.env.cells.lookup x=some c->∀v,s.heap.IsCell c v->h'.IsCell c v:=fun x c e v ⟨o,ho,hd⟩=>by
  have nch:c∉ch:=fun z=>(hch c z).2.2.1 x c e rfl;by_cases hc:c∈X.fs
  ·obtain⟨sl,q⟩:=slot c o (I.cne x c e) hc nch ho (I.freeC x c e);exact⟨_,q,hd⟩
  ·exact⟨o,keep c o (I.cne x c e) hc nch ho (I.freeC x c e),hd⟩
 refine⟨I.ok,I.os,hg,⟨fun b o e n hb hx=>?_,fun b o e n hb hx=>?_,fun b o e n hx=>?_,fun b o e hx=>?_,fun b xs e=>tups b xs (I.base.tups b xs e),fun b o xs e=>frzs b o xs (I.base.frzs b o xs e),fun b ps e=>?_⟩,?_,fun x c e=>?_,?_,fun x c e=>?_,fun p hp=>?_,hok,I.len⟩
 ·exact keep b o (neL b o e) hb (neC b o e hx) (I.base.keep b o e n hb hx) (I.base.free b o e n hx)
 ·obtain⟨sl,e1⟩:=I.base.slot b o e n hb hx;obtain⟨sl',e2⟩:=slot b _ (neL b o e) hb (neC b o e hx) e1 (I.base.free b o e n hx);exact⟨sl',e2⟩
 ·obtain⟨o',e1⟩:=I.base.there b o e hx;exact free b o' (neC b o e hx) e1 (I.base.free b o e n hx)
 ·obtain⟨o',e1⟩:=I.base.there b o e hx;exact there b o' (neC b o e hx) e1
 ·obtain⟨m1,e1⟩:=I.base.tbls b ps e;obtain⟨m2,e2⟩:=tbls b _ e1;exact⟨m1++m2,by rw[e2,Array.append_assoc]⟩
 ·obtain ⟨m, hn, hl⟩ := I.loc;refine⟨m,ns m hn,fun i x v e1 e2 e3=>?_⟩;obtain⟨u,r,l⟩:=hl i x v e1 e2 e3;refine⟨u,r,?_⟩;rcases l with l|⟨k,c,e,z⟩
  ·exact .inl l
  ·exact .inr ⟨k,c,e,cellK x c e _ z⟩
 ·obtain⟨v,z⟩:=I.cell x c e;exact⟨v,cellK x c e v z⟩
 ·obtain⟨m,⟨o,_,_,ho,_⟩,_⟩:=I.loc;exact free _ o (fun z=>(hch _ z).2.1 rfl) ho I.free
 ·obtain⟨v,o,ho,hd⟩:=I.cell x c e;exact free c o (fun z=>(hch c z).2.2.1 x c e rfl) ho (I.freeC x c e)
 ·obtain⟨e,n,ne,nf,d⟩:=I.pin p hp;have nch:p.1∉ch:=fun z=>(hch p.1 z).2.2.2 p hp rfl;exact⟨keep p.1 p.2 ne nf nch e n,free p.1 p.2 nch e n,ne,nf,d⟩
theorem aZ.un(I:aZ X pins B H s)(u:Un X.fs [] H H' s.heap h')(hok:ou X.prog X.w H' h'):aZ X pins B H' {s with heap:=h',toks:=t'}:=by
 obtain⟨m,⟨o,es,ep,ho,r⟩,_⟩:=id I.loc;obtain⟨sl,hL⟩:=u.any ho I.free (by simp)
 exact I.step (g':=s.gens) (d':=s.drawn) (ch:=[]) (fun _ z=>nomatch z) (fun b o _ hb _ e n=>u.keep b o e n hb (by simp)) (fun b o _ hb _ e n=>u.slot b o e n hb (by simp)) (fun b o _ e n=>u.free b o e n (by simp)) (fun b o _ e=>u.there b o e (by simp)) u.tups u.frzs u.tbls (fun m' hm=>by
  obtain⟨o',es',ep',ho',r'⟩:=hm;rw[ho]at ho';cases ho'
  exact⟨_,es',ep',hL,r'⟩) hok I.bare
theorem aZ.call{d':Drawn}(I:aZ X pins B H s)(u:Un (pF X.stack) ch H H' s.heap h')(hok:ou X.prog X.w H' h')(hg:AllBare g')(hch:∀b∈ch,(b∈X.ex\/X.s₀.heap.objs.size<=b)/\b≠X.env.locals/\(∀x c,X.env.cells.lookup x=some c->c≠b)/\∀p∈X.pn++pins,p.1≠b):
  aZ X pins B H' {s with heap:=h',gens:=g',drawn:=d',toks:=t'}:=by
 obtain⟨m,⟨o,es,ep,ho,r⟩,_⟩:=id I.loc;obtain⟨sl,hL⟩:=u.any ho I.free fun z=>(hch _ z).2.1 rfl
 exact I.step (ch:=ch) hch (fun b o hL hb hc e n=>u.keep b o e n (fun z=>(O5.mp (I.stkSub b z)).elim hL hb) hc) (fun b o _ _ hc e n=>u.any e n hc) (fun b o hc e n=>u.free b o e n hc) (fun b o hc e=>u.there b o e hc) u.tups u.frzs u.tbls (fun m' hm=>by
  obtain⟨o',es',ep',ho',r'⟩:=hm;rw[ho]at ho';cases ho'
  exact⟨_,es',ep',hL,r'⟩) hok hg
theorem aZ.turned(I:aZ X pins B H s)(k:∀b o,b≠it->s.heap.get? b=some o->h'.get? b=some o)(hn:H it=none)(hL:it≠X.env.locals)(h1:it∈X.ex\/X.s₀.heap.objs.size<=it)(h2:∀x c,X.env.cells.lookup x=some c->c≠it)(h3:∀p∈X.pn++pins,p.1≠it):aZ X pins B H {s with heap:=h',toks:=t'}:=by
 have nit:∀b u,H b=some u->b≠it:=fun b u e z=>by rw[z,hn]at e;cases e
 refine I.step (g':=s.gens) (d':=s.drawn) (ch:=[it]) (fun b hb=>?_) (fun b o _ _ hc e _=>k b o (fun z=>hc (by simp[z])) e) (fun b o _ _ hc e _=>⟨o.slots,k b o (fun z=>hc (by simp[z])) e⟩) (fun _ _ _ _ n=>n)
  (fun b o hc e=>⟨o,k b o (fun z=>hc (by simp[z])) e⟩) (fun _ _ e=>e) (fun _ _ _ e=>e) (fun b ps e=>⟨#[],by rw[e];simp⟩) (fun m hm=>?_) (fun b u e=>?_) I.bare
 ·have e : b = it := by simpa using hb
  subst e;exact⟨h1,hL,h2,h3⟩
 ·obtain⟨o,es,ep,ho,r⟩:=hm;exact⟨o,es,ep,k _ o (O6 hL) ho,r⟩
 ·refine (I.hok b u e).stay (fun c v hc q => k c v ?_ q) (fun _ q => q) fun _ _ q => q;rcases hc with z|z
  ·rw[z];exact nit b u e
  ·exact nit c _ z
theorem aZ.tok(I:aZ X pins B H s)(t:Nat):aZ X pins B H {s with toks:=t}:=I.un (h':=s.heap) (t':=t) Un.refl I.hok
theorem aZ.kept(I:aZ X pins B H s)(k:∀b u,s.heap.get? b=some u->h'.get? b=some u):aZ X pins B H {s with heap:=h',toks:=t'}:=I.un (Un.kept k) (I.hok.kept k)
theorem aZ.laid(I:aZ X pins B H s)(k:∀b u,s.heap.get? b=some u->h'.get? b=some u)(hp:s.heap.objs.size<=a)(new:fJ X.prog X.w (dk H a o) h' a o):
  aZ X pins B (dk H a o) {s with heap:=h',toks:=t'}:=I.un (Un.laid k hp (I.hok.fresh hp)) (I.hok.laid k hp new)
theorem aZ.write{x e:Addr}(I:aZ X pins B H s)(mu:Ng (H x))(he:e=x\/H e=some (.own x))(k:∀b u,b≠e->s.heap.get? b=some u->h'.get? b=some u)(heo:∃u,h'.get? e=some u)(new:fJ X.prog X.w (dk H x o) h' x o):aZ X pins B (dk H x o) {s with heap:=h',toks:=t'}:=I.un (Un.write mu he k heo) (I.hok.write mu he k heo new)
theorem aZ.pins_of{pins':List (Addr×Obj)}(I:aZ X pins B H s)(h:∀p∈pins',s.heap.get? p.1=some p.2/\H p.1=none/\p.1≠X.env.locals/\p.1∉X.fs/\∀v,p.2.data≠.cell v):aZ X pins' B H s:=
 ⟨I.ok,I.os,I.bare,I.base,I.loc,I.cell,I.free,I.freeC,fun p hp=>(O7.mp hp).elim (fun z=>I.pin p (O8 _ z)) (h p),I.hok,I.len⟩
theorem xj(hN:N.Nodup)(a:N[i]?=some x)(b:N[j]?=some x):i=j:=by
 obtain⟨h1,e1⟩:=O9.mp a;obtain⟨h2,e2⟩:=O9.mp b;exact(Pb hN).mp (e1.trans e2.symm)
theorem tV{M:Model}{Q:Unit->Shared->Prop}(I:aZ X pins B H s)(hN:X.N.Nodup)(hi:X.N[i]?=some x)(hx:EU X.env.scope x)(r:cx v u)(h:∀s',aZ X pins (B.set i (some v)) H s'->(∃a,Heap.SameBut a s.heap s'.heap/\(a=X.env.locals\/X.env.cells.lookup x=some a))->Q () s')(hf:X.fn x=true\/X.env.scope.names.lookup x=some .local:=by first|exact .inl rfl|exact .inr rfl|assumption):wpAny M A (storeName X.env x u) Q E s:=by
 obtain⟨m,hn,hl⟩:=id I.loc;have hcls:(X.env.scope.kind == .class || (X.env.scope.kind == .module&&X.env.locals != X.env.globals))=false:=by rw[I.ok.kind];rfl
 have hiσ:i<B.length:=by rw[I.len];exact(O9.mp hi).1
 have cne:=I.cne
 have tracked:∀{a:Addr}{h':Heap},(∃o,s.heap.get? a=some o/\H a=none)->Heap.SameBut a s.heap h'->ou X.prog X.w H h':=fun {a h'} ha hs b ob e=>by
  obtain⟨_,_,hfree⟩:=ha;refine(I.hok b ob e).stay (fun c w' hc q=>(hs.2 c ?_).trans q) (fun _ q=>q) fun _ _ q=>q
  rintro rfl
  rcases hc with rfl|hc
  ·rw[hfree]at e;cases e
  ·rw[hfree]at hc;cases hc
 rcases hx with hk|hk
 ·refine wpAny_storeName_local hk hn (fun h' hn' hs => ?_) hcls;obtain⟨oL,_,_,hoL,_⟩:=id hn;refine h _ ⟨I.ok,I.os,I.bare,⟨fun b o e n hb hx=>?_,fun b o e n hb hx=>?_,I.base.free,fun b o e hx=>?_,I.base.tups,I.base.frzs,I.base.tbls⟩,⟨_,hn',fun j y v' e1 e2 e3=>?_⟩,fun y c e=>?_,I.free,I.freeC,fun p hp=>?_,tracked ⟨oL,hoL,I.free⟩ hs,by simpa using I.len⟩ ⟨_,hs,.inl rfl⟩
  ·exact(hs.2 b (OX (OV (OU e) I.ok.above))).trans (I.base.keep b o e n hb hx)
  ·obtain⟨sl,e1⟩:=I.base.slot b o e n hb hx;exact⟨sl,(hs.2 b (OX (OV (OU e) I.ok.above))).trans e1⟩
  ·obtain⟨o',e1⟩:=I.base.there b o e hx;exact⟨o',(hs.2 b (OX (OV (OU e) I.ok.above))).trans e1⟩
  ·by_cases hj : j = i
   ·subst hj;rw[hi]at e1;cases e1;rw[Pc hiσ]at e2;cases e2;exact⟨u,r,.inl ⟨hk,by simp⟩⟩
   ·rw [Pd (O6 hj)] at e2;obtain⟨u',r',q⟩:=hl j y v' e1 e2 e3;refine⟨u',r',?_⟩;rcases q with⟨k,e⟩|⟨k,c,e,z⟩
    ·refine .inl ⟨k,?_⟩;have:y≠x:=fun e=>hj (xj hN e1 (e ▸ hi));simp[this,e]
    ·exact .inr ⟨k,c,e,z.sameBut hs (cne y c e)⟩
  ·obtain⟨w',z⟩:=I.cell y c e;exact⟨w',z.sameBut hs (cne y c e)⟩
  ·obtain⟨e,n,ne,nf,d⟩:=I.pin p hp;exact⟨(hs.2 p.1 ne).trans e,n,ne,nf,d⟩
 ·have hfn:X.fn x=true:=by
   rcases hf with z|z
   ·exact z
   ·rw[z]at hk;cases hk
  obtain⟨c,hc⟩:=I.ok.has x (.inl hk);obtain⟨w',z⟩:=I.cell x c hc;refine wpAny_storeName_cell I.ok.kind hk hc z (fun h' hc' hs=>?_);obtain⟨oc,hoc,hocd⟩:=id z;refine h {s with heap:=h'} ⟨I.ok,I.os,I.bare,⟨fun b o e n hb hx=>?_,fun b o e n hb hx=>?_,I.base.free,fun b o e hx=>?_,I.base.tups,I.base.frzs,I.base.tbls⟩,⟨m,hn.sameBut hs (O6 (cne x c hc)),fun j y v' e1 e2 e3=>?_⟩,fun y c' e=>?_,I.free,I.freeC,fun p hp=>?_,tracked ⟨oc,hoc,I.freeC x c hc⟩ hs,by simpa using I.len⟩ ⟨c,hs,.inr hc⟩
  ·exact(hs.2 b (OX (OV (OU e) (I.ok.cab x c hfn hc)))).trans (I.base.keep b o e n hb hx)
  ·obtain⟨sl,e1⟩:=I.base.slot b o e n hb hx;exact⟨sl,(hs.2 b (OX (OV (OU e) (I.ok.cab x c hfn hc)))).trans e1⟩
  ·obtain⟨o',e1⟩:=I.base.there b o e hx;exact⟨o',(hs.2 b (OX (OV (OU e) (I.ok.cab x c hfn hc)))).trans e1⟩
  ·by_cases hj : j = i
   ·subst hj;rw[hi]at e1;cases e1;rw[Pc hiσ]at e2;cases e2;exact⟨u,r,.inr ⟨.inl hk,c,hc,hc'⟩⟩
   ·rw [Pd (O6 hj)] at e2;obtain⟨u',r',q⟩:=hl j y v' e1 e2 e3;refine⟨u',r',?_⟩;rcases q with q|⟨k,c',e,z'⟩
    ·exact .inl q
    ·refine .inr ⟨k, c', e, z'.sameBut hs ?_⟩
     rintro rfl
     exact hj (xj hN e1 (I.ok.inj _ _ _ e hc ▸ hi))
  ·by_cases hcc : c' = c
   ·subst hcc;exact⟨_,hc'⟩
   ·obtain⟨w2,z2⟩:=I.cell y c' e;exact⟨w2,z2.sameBut hs hcc⟩
  ·obtain⟨e,n,ne,nf,d⟩:=I.pin p hp;refine⟨(hs.2 p.1 ?_).trans e,n,ne,nf,d⟩;intro q;rw[q,hoc]at e;have q':oc=p.2:=ON e;exact d w' (by rw[<- q'];exact hocd)
theorem rH{M:Model}{Q:Unit->Shared->Prop}(I:aZ X pins B H s)(hN:X.N.Nodup)(hi:X.N[i]?=some x)(hx:EU X.env.scope x)(r:cx v u)(h:∀s',aZ X pins (B.set i (some v)) H s'->Q () s')(hf:X.fn x=true\/X.env.scope.names.lookup x=some .local:=by first|exact .inl rfl|exact .inr rfl|assumption):wpAny M A (storeName X.env x u) Q E s:=
 tV I hN hi hx r (fun s' I' _=>h s' I') hf
theorem aZ.call'(I:aZ X pins B H s)(ho:s'.os=s.os)(u:Un (pF X.stack) ch H H' s.heap s'.heap)(hok:ou X.prog X.w H' s'.heap)(hg:AllBare s'.gens)(hch:∀b∈ch,(b∈X.ex\/X.s₀.heap.objs.size<=b)/\b≠X.env.locals/\(∀x c,X.env.cells.lookup x=some c->c≠b)/\∀p∈X.pn++pins,p.1≠b):aZ X pins B H' s':=by
 obtain⟨h',g',d',t',o'⟩:=s';have e:o'=s.os:=ho;subst e;exact I.call (g':=g') (t':=t') (d':=d') u hok hg hch
end
abbrev XK:=Value->Option Addr->Hp->Prop
abbrev St:=List (Option V)
abbrev VK:=V->Hp->Prop
abbrev TE:=St->Hp->VK->Prop
abbrev TT:=St->Hp->(Bool->Hp->Prop)->Prop
abbrev TA:=St->Hp->(List V->Hp->Prop)->Prop
structure oB where
 nx:St->Hp->Prop
 rt:VK
 bk:St->Hp->Prop:=fun _ _=>False
 ct:St->Hp->Prop:=fun _ _=>False
abbrev TS:=oB->St->Hp->Prop
def EP(X:Cx)(pins:List (Addr×Obj))(B:St)(Q:VK)(u:Value)(s':Shared):Prop:=∃v H',aZ X pins B H' s'/\cx v u/\Q v H'
def TP(X:Cx)(pins:List (Addr×Obj))(B:St)(Q:Bool->Hp->Prop)(b:Bool)(s':Shared):Prop:=∃H',aZ X pins B H' s'/\Q b H'
def AP(X:Cx)(pins:List (Addr×Obj))(B:St)(Q:List V->Hp->Prop)(us:List Value)(s':Shared):Prop:=∃vs H',aZ X pins B H' s'/\bp vs us/\Q vs H'
def SP(X:Cx)(pins:List (Addr×Obj))(D:oB)(f:Flow)(s':Shared):Prop:=
 match f with
 |.next=>∃B' H',aZ X pins B' H' s'/\D.nx B' H'
 |.brk=>∃B' H',aZ X pins B' H' s'/\D.bk B' H'
 |.cont=>∃B' H',aZ X pins B' H' s'/\D.ct B' H'
 |.ret u=>∃v B' H',aZ X pins B' H' s'/\cx v u/\D.rt v H'
def PE(X:Cx)(e:Expr)(t:TE):Prop:=
 ∀(pins:List (Addr×Obj))(s:Shared)(B:St)(H:Hp)(Q:VK),aZ X pins B H s->t B H Q->wpAny (model X.prog X.w) X.A (eval e X.env) (EP X pins B Q) X.xe s
def PT(X:Cx)(e:Expr)(t:TT):Prop:=
 ∀(pins:List (Addr×Obj))(s:Shared)(B:St)(H:Hp)(Q:Bool->Hp->Prop),aZ X pins B H s->t B H Q->wpAny (model X.prog X.w) X.A (isTrue e X.env (eval e X.env)) (TP X pins B Q) X.xe s
def PW(X:Cx)(e:Expr)(t:TT):Prop:=
 ∀(whole:Sem Value)(pins:List (Addr×Obj))(s:Shared)(B:St)(H:Hp)(Q:Bool->Hp->Prop),aZ X pins B H s->t B H Q->wpAny (model X.prog X.w) X.A (isTrue e X.env whole) (TP X pins B Q) X.xe s
theorem PW.pt{X:Cx}{t:TT}(h:PW X e t):PT X e t:=h _
def PA(X:Cx)(es:List Expr)(t:TA):Prop:=
 ∀(pos:Pos)(pins:List (Addr×Obj))(s:Shared)(B:St)(H:Hp)(Q:List V->Hp->Prop),aZ X pins B H s->t B H Q->wpAny (model X.prog X.w) X.A (spliced (backTo pos (starEach es X.env))) (AP X pins B Q) X.xe s
def PS(X:Cx)(st:Stmt)(t:TS):Prop:=
 ∀(pins:List (Addr×Obj))(s:Shared)(B:St)(H:Hp)(D:oB),aZ X pins B H s->t D B H->wpAny (model X.prog X.w) X.A (exec st X.env) (SP X pins D) X.xe s
def j9(X:Cx)(st:List Stmt)(t:TS):Prop:=
 ∀(pins:List (Addr×Obj))(s:Shared)(B:St)(H:Hp)(D:oB),aZ X pins B H s->t D B H->wpAny (model X.prog X.w) X.A (execs st X.env) (SP X pins D) X.xe s
theorem d8{Z:Type}{t:Sem Z}{Q Q':Z->Shared->Prop}{M:Model}(h:wpAny M A t Q E s)(hQ:∀a s,Q a s->Q' a s):wpAny M A t Q' E s:=Pe h hQ fun _ _ x=>x
end L2
variable{B:L2.St}{r:L2.V->Option Int->Option Int->L2.Hp->L2.VK->Prop}{te:L2.TE}{ta:L2.TE}
namespace L2
open PySem PySem.Spec PyProof.Rows
section
variable{X:Cx}
def Lp(i:Nat):TE:=fun B H Q=>∃v,B[i]?=some (some v)/\Q v H
def tC(v:V):TE:=fun _ H Q=>Q v H
theorem JH(hN:X.N[i]?=some x)(hv:Ny X.env.scope x)(hd:(x == ("__debug__" : Str))=false:=by decide)(hcd:(x == ("__classdict__" : Str))=false:=by decide):PE X (.Name x pos) (Lp i):=by
 intro pins s B H Q I h;obtain⟨v,e,h⟩:=h;obtain⟨m,hn,hl⟩:=I.loc;obtain⟨u,r,l⟩:=hl i x v hN e hv;have fin:EP X pins B Q u s:=⟨v,H,I,r,h⟩;rcases l with⟨hk,hm⟩|⟨hk,c,hc,hcell⟩
 ·exact wpAny_Name (wpAny_loadName_local I.ok.kind hk hn hm fin) hd
 ·rcases hk with hk | hk
  ·exact wpAny_Name (wpAny_loadName_cell I.ok.kind hk hc hcell fin) hd
  ·exact wpAny_Name (wpAny_loadName_free I.ok.kind hk hc hcell fin hcd) hd
theorem JO{i j pos}:PE X (.Constant (.int i) j pos) (tC (.int i)):=fun _ _ _ H _ I h=>wpAny_Constant_int ⟨.int i,H,I.tok _,⟨_,rfl⟩,h⟩
theorem Mn{b j pos}:PE X (.Constant (.bool b) j pos) (tC (.bl b)):=fun _ _ _ H _ I h=>Constant_bool ⟨.bl b,H,I,rfl,h⟩
theorem JM{j pos}:PE X (.Constant .none j pos) (tC .non):=fun _ _ _ H _ I h=>Constant_none ⟨.non,H,I,rfl,h⟩
theorem JJ{x j pos}:PE X (.Constant (.str x) j pos) (tC (.str x)):=fun _ _ _ H _ I h=>Calls.Constant_str ⟨.str x,H,I.tok _,⟨_,rfl⟩,h⟩
def Gl(X:Cx)(x:Str):Prop:=X.env.kindOf x=some .globalImplicit
theorem nG(I:aZ X pins B H s)(hg:Gl X x)(hm:X.mg x=some u)(h:Q u s)(hd:(x == ("__debug__" : Str))=false:=by decide):wpAny (model X.prog X.w) X.A (eval (.Name x pos) X.env) Q E s:=
 Calls.Name_function_global I.ok.kind hg (Calls.loadGlobal_global (by rw[I.ok.glob];exact I.mod.glob.keeps I.bk) hm h) hd
theorem oG(I:aZ X pins B H s)(hg:Gl X x)(hm:X.mg x=none)(hv:bootBuiltins x=some u)(h:Q u s)(hn:x ≠ "__name__" := by decide)(hd:(x == ("__debug__" : Str))=false:=by decide):wpAny (model X.prog X.w) X.A (eval (.Name x pos) X.env) Q E s:=by
 obtain⟨mb,h1,h2⟩:=I.mod.blt;exact Calls.Name_function_global I.ok.kind hg (Calls.loadGlobal_builtin (by rw[I.ok.glob];exact I.mod.glob.keeps I.bk) hm (by rw[I.ok.blt];exact h1.keeps I.bk) ((h2 x hn).trans hv) h) hd
theorem Ai(hg:Gl X x)(hm:X.mg x=some u)(r:cx v u)(hd:(x == ("__debug__" : Str))=false:=by decide):PE X (.Name x pos) (tC v):=
 fun _ _ _ H _ I h=>nG I hg hm ⟨v,H,I,r,h⟩ hd
theorem Aj(hg:Gl X x)(hm:X.mg x=none)(hv:bootBuiltins x=some u)(r:cx v u)(hn:x ≠ "__name__" := by decide)(hd:(x == ("__debug__" : Str))=false:=by decide):PE X (.Name x pos) (tC v):=
 fun _ _ _ H _ I h=>oG I hg hm hv ⟨v,H,I,r,h⟩ hn hd
variable{a b:Expr}{tb:TE}
variable{tA tB':TT}
def NN(t u:TT):TT:=fun B H Q=>t B H fun c H1=>if c=true then u B H1 Q else Q false H1
def OD(t u:TT):TT:=fun B H Q=>t B H fun c H1=>if c=true then Q true H1 else u B H1 Q
def NI(t:TT):TT:=fun B H Q=>t B H fun c H1=>Q (!c) H1
theorem F3(ha:PT X a tA):PW X (.BoolOp .And [a] pos) tA:=by
 intro wh pins s B H Q I h;refine isTrue_and (d8 (ha pins s B H Q I h) fun c s1 e=>?_);cases c with
 |true=>exact isTrue_and_nil e
 |false=>exact e
theorem Ju(ha:PT X a tA):PW X (.BoolOp .Or [a] pos) tA:=by
 intro wh pins s B H Q I h;refine isTrue_or (d8 (ha pins s B H Q I h) fun c s1 e=>?_);cases c with
 |false=>exact isTrue_or_nil e
 |true=>exact e
theorem Jv(ha:PT X a tA)(hb:PW X (.BoolOp .And (b::rest) pos) tB'):PW X (.BoolOp .And (a::b::rest) pos) (NN tA tB'):=by
 intro wh pins s B H Q I h;refine isTrue_and (d8 (ha pins s B H _ I h) fun c s1 ⟨H1,I1,q1⟩=>?_);cases c with
 |true=>exact hb wh pins s1 B H1 Q I1 q1
 |false=>exact⟨H1,I1,q1⟩
theorem Mf(ha:PT X a tA)(hb:PW X (.BoolOp .Or (b::rest) pos) tB'):PW X (.BoolOp .Or (a::b::rest) pos) (OD tA tB'):=by
 intro wh pins s B H Q I h;refine isTrue_or (d8 (ha pins s B H _ I h) fun c s1 ⟨H1,I1,q1⟩=>?_);cases c with
 |true=>exact⟨H1,I1,q1⟩
 |false=>exact hb wh pins s1 B H1 Q I1 q1
theorem Jx(ha:PT X a tA):PT X (.UnaryOp .Not a pos) (NI tA):=by
 intro pins s B H Q I h;exact isTrue_not (ha pins s B H (fun c H1=>Q (!c) H1) I h)
def L4(ta tb:TE):TE:=fun B H Q=>ta B H fun x H1=>∃c,x=.bl c/\if c=true then tb B H1 Q else Q (.bl false) H1
def LW(ta:TE):TE:=fun B H Q=>ta B H fun x H1=>∃c,x=.bl c/\Q (.bl (!c)) H1
theorem JK{op}{t:TE}(h:PE X a t):PE X (.BoolOp op [a] pos) t:=fun pins s B H Q I hw=>BoolOp_one (h pins s B H Q I hw)
theorem JP(ha:PE X a ta)(hb:PE X (.BoolOp .And (b::rest) pos) tb):PE X (.BoolOp .And (a::b::rest) pos) (L4 ta tb):=by
 intro pins s B H Q I h;refine BoolOp_and (d8 (ha pins s B H _ I h) fun v s1 ⟨x,H1,I1,r1,q1⟩=>?_);obtain⟨c,rfl,q1⟩:=q1;cases r1;refine Pf ?_;cases c with
 |true=>exact hb pins s1 B H1 Q I1 q1
 |false=>exact⟨.bl false,H1,I1,rfl,q1⟩
theorem JL(ha:PE X a ta):PE X (.UnaryOp .Not a pos) (LW ta):=by
 intro pins s B H Q I h;refine UnaryOp_ (d8 (ha pins s B H _ I h) fun v s1 ⟨x,H1,I1,r1,q1⟩=>?_);obtain⟨c,rfl,q1⟩:=q1;cases r1;exact not_of (Pf ⟨.bl (!c),H1,I1,rfl,q1⟩)
end
def fK(K:W.Frag)(H:Hp)(a:Addr)(xs:List V):Prop:=
 Rd H a (.lst xs) \/
  ∃(o:Obj) (its:Array Value) (n:Nat),K.lookup a=some o/\o.cls=.type "list" /\ o.dict=none/\o.data=.seq its n/\its.size<=sizeLine/\bp xs its.toList
def gr(K:W.Frag)(H:Hp)(a:Addr)(xs:List V):Prop:=
 Rd H a (.tup xs) \/
  ∃(o:Obj) (its:Array Value) (n:Nat),K.lookup a=some o/\o.cls=.type "tuple" /\ o.data=.seq its n/\its.size<=sizeLine/\bp xs its.toList
def Oh:Value->Option V
 |.none=>some .non
 |.bool b=>some (.bl b)
 |.int i _=>some (.int i)
 |.str x _=>some (.str x)
 |.bytes b _=>some (.byt b)
 |.float b _=>some (.flt b)
 |.ref a=>some (.ref a)
 |.type n=>some (.ty n)
 |_=>none
theorem cx.abs{x:V}(r:cx x u):Oh u=some x:=by
 cases x with
 |non=>cases r;rfl
 |bl _=>cases r;rfl
 |int _=>obtain⟨t,rfl⟩:=r;rfl
 |str _=>obtain⟨t,rfl⟩:=r;rfl
 |byt _=>obtain⟨t,rfl⟩:=r;rfl
 |flt _=>obtain⟨t,rfl⟩:=r;rfl
 |ref _=>cases r;rfl
 |ty _=>cases r;rfl
theorem cx.inj{x y:V}(r:cx x u)(q:cx y u):x=y:=ON (r.abs.symm.trans q.abs)
theorem bp.inj:∀{xs ys:List V}{us:List Value},bp xs us->bp ys us->xs=ys
 |_,_,_,.nil,.nil=>rfl
 |_,_,_,.cons r t,.cons r' t'=>by rw[r.inj r',bp.inj t t']
section
variable{X:Cx}{xs ys:List V}
theorem fK.of(h:H a=some (.lst xs)):fK K H a xs:=.inl (.inl h)
theorem gr.of(h:H a=some (.tup xs)):gr K H a xs:=.inl (.inl h)
theorem aZ.list(I:aZ X pins B H s)(h:fK X.K H a xs):∃its:List Value,bp xs its/\PlainL s.heap a its.toArray/\xs.length<=sizeLine:=by
 rcases h with h|⟨o,its,n,hk,hc,hd,hs,hz,r⟩
 ·obtain⟨z,its,n,r,e⟩:=h.ok I.hok;exact⟨its,r,⟨_,n,e,rfl,rfl,rfl⟩,z⟩
 ·refine⟨its.toList,r,⟨o,n,I.kIn a o hk,hc,hd,by simpa using hs⟩,?_⟩;have e:=r.length;simp only[Pg]at e;omega
theorem aZ.tuple(I:aZ X pins B H s)(h:gr X.K H a xs):∃its:List Value,bp xs its/\IsTup s.heap a its.toArray/\xs.length<=sizeLine:=by
 rcases h with h|⟨o,its,n,hk,hc,hs,hz,r⟩
 ·obtain⟨z,its,r,p⟩:=h.ok I.hok;exact⟨its,r,p,z⟩
 ·refine⟨its.toList,r,⟨o,I.kIn a o hk,hc,n,by simpa using hs⟩,?_⟩;have e:=r.length;simp only[Pg]at e;omega
theorem aZ.list_inj(I:aZ X pins B H s)(h:fK X.K H a xs)(h':fK X.K H a ys):xs=ys:=by
 obtain⟨its,r,⟨o,n,e,_,_,d⟩,_⟩:=I.list h;obtain⟨its',r',⟨o',n',e',_,_,d'⟩,_⟩:=I.list h';rw[e]at e';cases e';rw[d]at d';injection d' with d1 _
 have:its=its':=by simpa using Ph Array.toList d1
 subst this;exact r.inj r'
theorem aZ.tuple_inj(I:aZ X pins B H s)(h:gr X.K H a xs)(h':gr X.K H a ys):xs=ys:=by
 obtain⟨its,r,⟨o,e,_,n,d⟩,_⟩:=I.tuple h;obtain⟨its',r',⟨o',e',_,n',d'⟩,_⟩:=I.tuple h';rw[e]at e';cases e';rw[d]at d';injection d' with d1 _
 have:its=its':=by simpa using Ph Array.toList d1
 subst this;exact r.inj r'
end
abbrev Cx.wish(X:Cx)(E:Value->Shared->Prop):Cx:={X with xe:=E}
abbrev Cx.nox(X:Cx):Cx:=X.wish fun _ _=>False
theorem Cx.Ok.wish{X:Cx}(ok:X.Ok)(E:Value->Shared->Prop):(X.wish E).Ok:=
 ⟨ok.mod,ok.kind,ok.glob,ok.blt,ok.above,ok.inj,ok.has,ok.cab,ok.hd,ok.frames,ok.stk,ok.exf,ok.bs,ok.bsz,ok.noex,ok.exfs,ok.funs,ok.frf⟩
theorem Cx.Ok.unwish{X:Cx}(ok:(X.wish E).Ok):X.Ok:=
 ⟨ok.mod,ok.kind,ok.glob,ok.blt,ok.above,ok.inj,ok.has,ok.cab,ok.hd,ok.frames,ok.stk,ok.exf,ok.bs,ok.bsz,ok.noex,ok.exfs,ok.funs,ok.frf⟩
section
variable{X:Cx}
theorem aZ.wish(I:aZ X pins B H s)(E:Value->Shared->Prop):aZ (X.wish E) pins B H s:=⟨I.ok.wish E,I.os,I.bare,I.base,I.loc,I.cell,I.free,I.freeC,I.pin,I.hok,I.len⟩
theorem aZ.unwish(I:aZ (X.wish E) pins B H s):aZ X pins B H s:=⟨I.ok.unwish,I.os,I.bare,I.base,I.loc,I.cell,I.free,I.freeC,I.pin,I.hok,I.len⟩
theorem SP.unwish{D:oB}{f:Flow}(h:SP (X.wish E) pins D f s'):SP X pins D f s':=by
 cases f with
 |next=>obtain⟨B',H',I,q⟩:=h;exact⟨B',H',I.unwish,q⟩
 |brk=>obtain⟨B',H',I,q⟩:=h;exact⟨B',H',I.unwish,q⟩
 |cont=>obtain⟨B',H',I,q⟩:=h;exact⟨B',H',I.unwish,q⟩
 |ret u=>obtain⟨v,B',H',I,r,q⟩:=h;exact⟨v,B',H',I.unwish,r,q⟩
theorem j9.nox{st:List Stmt}{t:TS}(h:j9 X.nox st t):j9 X st t:=fun pins s B H D I hw=>
 Pe (h pins s B H D (I.wish _) hw) (fun _ _ q=>q.unwish) fun _ _ z=>False.elim z
end
section
variable{X:Cx}{rest:List Stmt}{t u:TS}
def LX:TS:=fun D B H=>D.nx B H
def NG(t u:TS):TS:=fun D B H=>t {D with nx:=u D} B H
theorem F8:j9 X [] LX:=fun _ _ B H _ I h=>Pi ⟨B,H,I,h⟩
theorem DZ(h1:PS X st t)(h2:j9 X rest u):j9 X (st::rest) (NG t u):=by
 intro pins s B H D I h;refine wpAny_execs_cons (d8 (h1 pins s B H {D with nx:=u D} I h) fun f s1 q=>?_);cases f with
 |next=>
  obtain⟨B',H',I',q⟩:=q;exact h2 pins s1 B' H' D I' q
 |ret v=>exact q
 |brk=>exact q
 |cont=>exact q
theorem F7(h1:PS X st t):j9 X [st] t:=by
 intro pins s B H D I h;refine wpAny_execs_cons (d8 (h1 pins s B H D I h) fun f s1 q=>?_);cases f with
 |next=>exact Pi q
 |ret v=>exact q
 |brk=>exact q
 |cont=>exact q
theorem aZ.quiet(I:aZ X pins B H s):interactive X.env=false:=by simp[interactive,I.ok.kind]
def LY(te:TE):TS:=fun D B H=>te B H fun _ H1=>D.nx B H1
theorem Ga(he:PE X e te)(hs:swapsWith e none pos.line X.env=pure false:=by rfl):PS X (.Expr e pos) (LY te):=by
 intro pins s B H D I h;exact wpAny_Expr_any (d8 (he pins s B H _ I h) fun v s1 ⟨x,H1,I1,r1,q1⟩=>⟨B,H1,I1,q1⟩) I.quiet hs
def NH(te:TE):TS:=fun D B H=>te B H D.rt
theorem JA(he:PE X e te):PS X (.Return (some e) pos) (NH te):=by
 intro pins s B H D I h;exact wpAny_Return_some (d8 (he pins s B H _ I h) fun v s1 ⟨x,H1,I1,r1,q1⟩=>⟨x,B,H1,I1,r1,q1⟩)
def NL(c:TT)(t u:TS):TS:=fun D B H=>c B H fun b H1=>if b=true then t D B H1 else u D B H1
theorem Mg{a b:List Stmt}{tc:TT}(hc:PT X c tc)(ha:j9 X a t)(hb:j9 X b u):PS X (.If c a b pos) (NL tc t u):=by
 intro pins s B H D I h;refine wpAny_If (d8 (hc pins s B H _ I h) fun d s1 ⟨H1,I1,q1⟩=>?_);cases d with
 |true=>exact ha pins s1 B H1 D I1 q1
 |false=>exact hb pins s1 B H1 D I1 q1
end
abbrev TG:=V->St->Hp->(St->Hp->Prop)->Prop
abbrev EY:=List V->St->Hp->(St->Hp->Prop)->Prop
def PG(X:Cx)(target:Expr)(t:TG):Prop:=
 ∀(pins:List (Addr×Obj))(s:Shared)(B:St)(H:Hp)(v:V)(u:Value)(Q:St->Hp->Prop),aZ X pins B H s->cx v u->t v B H Q ->
  wpAny (model X.prog X.w) X.A (assign target X.env u) (fun _ s'=>∃B' H',aZ X pins B' H' s'/\Q B' H') X.xe s
def yh(X:Cx)(ts:List Expr)(t:EY):Prop:=
 ∀(pins:List (Addr×Obj))(s:Shared)(B:St)(H:Hp)(vs:List V)(us:List Value)(Q:St->Hp->Prop),aZ X pins B H s->bp vs us->t vs B H Q ->
  wpAny (model X.prog X.w) X.A (assignInOrder ((assignEach ts X.env).map (·.2)) us) (fun _ s'=>∃B' H',aZ X pins B' H' s'/\Q B' H') X.xe s
abbrev Ir:=V->V->V->Hp->(Hp->Prop)->Prop
def LL(X:Cx)(t:Ir):Prop:=
 ∀(pins:List (Addr×Obj))(s:Shared)(B:St)(H:Hp)(o i v:V)(ov iv u:Value)(Q:Hp->Prop),aZ X pins B H s->cx o ov->cx i iv->cx v u->t o i v H Q ->
  wpAny (model X.prog X.w) X.A (setItem ov iv u) (fun _ s'=>∃H',aZ X pins B H' s'/\Q H') X.xe s
section
variable{X:Cx}
def wt(i:Nat):TG:=fun v B H Q=>Q (B.set i (some v)) H
theorem Gf(hN:X.N.Nodup)(hi:X.N[i]?=some x)(hx:EU X.env.scope x)(hf:X.fn x=true\/X.env.scope.names.lookup x=some .local:=by first|exact .inl rfl|exact .inr rfl|assumption):PG X (.Name x pos) (wt i):=by
 intro pins s B H v u Q I r h;exact wpAny_assign_Name (rH I hN hi hx r (fun s' I'=>⟨_,H,I',h⟩) hf)
def Od:EY:=fun vs B H Q=>vs=[]/\Q B H
def MD(t:TG)(u:EY):EY:=fun vs B H Q=>∃v r,vs=v::r/\t v B H fun B' H'=>u r B' H' Q
theorem Ge:yh X [] Od:=by
 intro pins s B H vs us Q I r h;obtain⟨e,h⟩:=h;subst e;cases r;exact assignInOrder_nil ⟨B,H,I,h⟩
theorem D4{es:List Expr}{t:TG}{u:EY}(h1:PG X e t)(h2:yh X es u)(hs:(assignEach (e::es) X.env).map (·.2)=assign e X.env::(assignEach es X.env).map (·.2):=by rfl):yh X (e::es) (MD t u):=by
 intro pins s B H vs us Q I r h;obtain⟨v,vr,e1,h⟩:=h;subst e1;cases r with
 |cons r rr=>
  rw[hs];refine assignInOrder_cons (d8 (h1 pins s B H _ _ _ I r h) fun _ s1 ⟨B1,H1,I1,q1⟩=>?_);exact h2 pins s1 B1 H1 _ _ Q I1 rr q1
def Ob(K:W.Frag)(n:Nat)(t:EY):TG:=fun v B H Q=>∃a xs,v=.ref a/\gr K H a xs/\xs.length=n/\t xs B H Q
theorem JF{es:List Expr}{k:Nat}{t:EY}(hc:X.calm=true)(h:yh X es t)(hn:(assignEach es X.env).length=n:=by rfl)(hst:(assignEach es X.env).findIdx? (·.1)=none:=by rfl):PG X (.Tuple es k pos) (Ob X.K n t):=by
 intro pins s B H v u Q I r hw;obtain⟨a,xs,e1,hq,hl,hw⟩:=hw;subst e1;cases r;obtain⟨its,rv,ht,hz⟩:=I.tuple hq;refine assign_Tuple_tuple (I.ok.hd hc) ht (by simp[hn,<- hl,rv.length]) hst fun h' hx=>?_;have I1:aZ X pins B H {s with heap:=h'}:=I.kept (t':=s.toks) fun b o e=>hx b o (OX (OU e)) e;exact h pins _ B H xs _ Q I1 (by simpa using rv) hw
def Oc(to ti:TE)(t:Ir):TG:=fun v B H Q=>to B H fun o H1=>ti B H1 fun i H2=>t o i v H2 fun H3=>Q B H3
theorem JG{o i:Expr}{to ti:TE}{t:Ir}(ho:PE X o to)(hi:PE X i ti)(hs:LL X t)
  (ha : ∀ v, assign (.Subscript o i pos) X.env v = (do
   let ov <- holding [v] (eval o X.env)
   let iv <- holding [v,ov] (eval i X.env)
   standAt pos
   holding [v,ov,iv] (setItem ov iv v)
   release [v,ov,iv] []):=by intro _;rfl):PG X (.Subscript o i pos) (Oc to ti t):=by
 intro pins s B H v u Q I r h;rw[ha];refine Pj (Pl (d8 (ho pins s B H _ I h) fun ov s1 ⟨x,H1,I1,r1,q1⟩=>?_));refine Pj (Pl (d8 (hi pins s1 B H1 _ I1 q1) fun iv s2 ⟨y,H2,I2,r2,q2⟩=>?_));refine Pj (Pm (Pj (Pl (d8 (hs pins s2 B H2 x y v ov iv u _ I2 r1 r2 r q2) fun _ s3 ⟨H3,I3,q3⟩=>?_))));exact wpAny_release ⟨B,H3,I3,q3⟩
def Cj(te:TE)(g:TG):TS:=fun D B H=>te B H fun x H1=>g x B H1 D.nx
theorem JC{g:TG}(he:PE X e te)(hg:PG X tg g)(hs:swapsWithSole [tg] e pos.line X.env=pure false:=by rfl)(hw:swappedStores [tg] e X.env=pure none:=by rfl)(h1:(assignEach [tg] X.env).map (·.2)=[assign tg X.env]:=by rfl):PS X (.Assign [tg] e pos) (Cj te g):=by
 intro pins s B H D I h;refine wpAny_Assign_stores (d8 (he pins s B H _ I h) fun v s1 ⟨x,H1,I1,r1,q1⟩=>?_) hs hw;rw[h1];exact d8 (hg pins s1 B H1 x v _ I1 r1 q1) fun _ s2 q=>q
theorem Jz(hN:X.N.Nodup)(hi:X.N[i]?=some x)(hx:EU X.env.scope x)(he:PE X e te)(hs:swapsWith e (some (.Name x pos')) pos.line X.env=pure false:=by rfl)(hf:X.fn x=true\/X.env.scope.names.lookup x=some .local:=by first|exact .inl rfl|exact .inr rfl|assumption):
  PS X (.Assign [.Name x pos'] e pos) (Cj te (wt i)):=by
 intro pins s B H D I h;refine wpAny_Assign_Name (d8 (he pins s B H _ I h) fun v s1 ⟨y,H1,I1,r1,q1⟩=>?_) hs;exact rH I1 hN hi hx r1 (fun s2 I2=>⟨_,H1,I2,q1⟩) hf
end
structure It where
 go:Nat->Hp->Prop
 yld:Nat->Hp->V->Hp->Prop
 stop:Nat->Hp->Prop
def ny(X:Cx)(pins:List (Addr×Obj))(H:Hp)(b:Addr):Prop:=
 H b=none/\b≠X.env.locals/\b∉X.fs/\(b∈X.ex\/X.s₀.heap.objs.size<=b)/\(∀x c,X.env.cells.lookup x=some c->c≠b)/\∀p∈X.pn++pins,p.1≠b
theorem aZ.fpOk{X:Cx}{H':Hp}(I:aZ X pins B H s)(hb:s.heap.objs.size<=b)(hn:H' b=none):ny X pins H' b:=by
 refine⟨hn,Po (OV I.lt hb),I.nofs hb,.inr (O0 I.sz hb),fun x c e z=>?_,fun p hp z=>?_⟩
 ·obtain⟨v,q⟩:=I.cell x c e;exact absurd (OV q.lt (by rw[z];exact hb)) (OW _)
 ·exact absurd (OV (OU (I.pin p hp).1) (by rw[z];exact hb)) (OW _)
structure AU(P:Program)(w:World)(K:W.Frag)(tg:Expr)(J:It)(fp:List Addr)(it:Addr)(tn:Nat->Heap->Prop):Prop where
 mem:it∈fp
 obj:∀i h,tn i h->∀b∈fp,∃o,h.get? b=some o/\∀v,o.data≠.cell v
 keep:∀i h h',tn i h->(∀b∈fp,∀o,h.get? b=some o->h'.get? b=some o)->tn i h'
 item:∀(X:Cx),X.prog=P->X.w=w->X.K=K->X.calm=true->∀(i:Nat)(pins:List (Addr×Obj))(s:Shared)(B:St)(H:Hp)(E:Value->Shared->Prop),aZ X pins B H s->(∀b∈fp,ny X pins H b)->tn i s.heap->J.go i H ->
  wpAny (model P w) X.A (pyNext (.ref it)) (fun r s1=>∃u,r=some u /\
   wpAny (model P w) X.A (letOwnedTupleGo tg (.ref it) u) (fun _ s2=>∃x H',aZ X pins B H' s2/\cx x u/\J.yld i H x H'/\tn (i+1) s2.heap/\∀b∈fp,H' b=none) E s1) E s
 done:∀(X:Cx),X.prog=P->X.w=w->X.K=K->X.calm=true->∀(i:Nat)(pins:List (Addr×Obj))(s:Shared)(B:St)(H:Hp)(E:Value->Shared->Prop),aZ X pins B H s->(∀b∈fp,ny X pins H b)->tn i s.heap->J.stop i H ->
  wpAny (model P w) X.A (pyNext (.ref it)) (fun r s1=>r=none/\aZ X pins B H s1) E s
 self:∀(A:Around)(i:Nat)(s:Shared)(Q:Value->Shared->Prop)(E:Value->Shared->Prop),tn i s.heap->Q (.ref it) s->wpAny (model P w) A (pyIter (.ref it)) Q E s
abbrev TI:=St->Hp->(It->Hp->Prop)->Prop
def Nz(X:Cx)(pins:List (Addr×Obj))(B:St)(tg:Expr)(R:It->Hp->Prop)(itv:Value)(s2:Shared):Prop:=
 ∃(it:Addr)(fp:List Addr)(tn:Nat->Heap->Prop)(J:It)(H':Hp),itv=.ref it/\aZ X pins B H' s2/\AU X.prog X.w X.K tg J fp it tn/\tn 0 s2.heap/\(∀b∈fp,ny X pins H' b)/\R J H'
def PI(X:Cx)(tg iter:Expr)(wi:TI):Prop:=
 ∀(pins:List (Addr×Obj))(s:Shared)(B:St)(H:Hp)(R:It->Hp->Prop),aZ X pins B H s->wi B H R ->
  wpAny (model X.prog X.w) X.A (eval iter X.env) (fun v s1=>wpAny (model X.prog X.w) X.A (pyIter v) (Nz X pins B tg R) X.xe s1) X.xe s
theorem CM{M:Model}{o:Obj}{n:String}{vs:Array Value}{Q:Unit->Shared->Prop}(ho:s.heap.get? it=some o)(hc:o.cls=.type n)(hd:o.data=.fields vs)(hn:["enumerate", "zip", "dict_itemiterator", "dict_reverseitemiterator", "odict_iterator", "itertools.zip_longest", "itertools.pairwise"].contains n=false)(hQ:Q () s):wpAny M A (letOwnedTupleGo tg (.ref it) u) Q E s:=by
 unfold letOwnedTupleGo
 cases tg <;> first
  |exact Pp hQ
  |(cases u <;> first
    |exact Pp hQ
    | (refine Pj (Pq ho ?_)
       rw[hc,hd];show wpAny M A (if (["enumerate", "zip", "dict_itemiterator", "dict_reverseitemiterator", "odict_iterator", "itertools.zip_longest", "itertools.pairwise"].contains n&&vs[0]? == some (rawInt _))=true then _ else _) Q E s;rw[OT (by intro h;rw[hn,Pr]at h;cases h)]
       exact Pp hQ))
def Ni(K:W.Frag)(a:Addr):It:=
 ⟨fun i H=>∃xs x,fK K H a xs/\xs[i]?=some x,fun i H x H'=>H'=H/\∀xs,fK K H a xs->xs[i]?=some x,fun i H=>∃xs,fK K H a xs/\xs.length<=i⟩
def NB(K:W.Frag)(a:Addr):It:=
 ⟨fun i H=>∃xs x,gr K H a xs/\xs[i]?=some x,fun i H x H'=>H'=H/\∀xs,gr K H a xs->xs[i]?=some x,fun i H=>∃xs,gr K H a xs/\xs.length<=i⟩
def Le(lo:Int)(n:Nat):It:=⟨fun i _=>i<n,fun i H x H'=>H'=H/\x=.int (lo+i),fun i _=>n<=i⟩
theorem AZ{w:World}(a it:Addr):AU P w K tg (Ni K a) [it] it (fun i h=>h.IsListIter it a i) where
 mem:=by simp
 obj:=fun i h st b hb=>by
  have e:b=it:=by simpa using hb
  subst e;obtain⟨o,e,c,d⟩:=st;exact⟨o,e,fun v z=>by rw[d]at z;cases z⟩
 keep:=fun i h h' st k=>st.at fun o e=>k it (by simp) o e
 item:=by
  intro X hP hw hK hc i pins s B H E I hf st hg;subst hP hw hK;obtain⟨xs,x,hq,hx⟩:=hg;obtain⟨its,rv,p,hz⟩:=I.list hq;obtain⟨u,hu,ru⟩:=rv.get hx;obtain⟨f0,f1,f2,f3,f4,f5⟩:=hf it (by simp);refine wpAny_pyNext_list_item st p.isList (x:=u) (by simpa using hu) fun h' st' sb=>?_;have I1:aZ X pins B H {s with heap:=h'}:=I.turned (t':=s.toks) (fun b o hb e=>(sb.2 b hb).trans e) f0 f1 f3 f4 f5;obtain⟨o,e,c,d⟩:=id st';exact⟨u,rfl,CM (s:={s with heap:=h'}) e c d (by decide) ⟨x,H,I1,ru,⟨rfl,fun ys hy=>by rw[I.list_inj hy hq];exact hx⟩,st',fun b hb=>(hf b hb).1⟩⟩
 done:=by
  intro X hP hw hK hc i pins s B H E I hf st hg;subst hP hw hK;obtain⟨xs,hq,hx⟩:=hg;obtain⟨its,rv,p,hz⟩:=I.list hq;obtain⟨f0,f1,f2,f3,f4,f5⟩:=hf it (by simp);have hl:=rv.length;exact wpAny_pyNext_list_end (I.ok.hd hc) st p.isList (by simp;omega) fun h' eb=>⟨rfl,I.turned (t':=s.toks) (fun b o hb e=>eb b o hb e) f0 f1 f3 f4 f5⟩
 self:=fun _ _ _ _ _ st h=>wpAny_pyIter_listiter st h
theorem yM{w:World}(a it:Addr):AU P w K tg (NB K a) [it] it (fun i h=>h.IsTupleIter it a i) where
 mem:=by simp
 obj:=fun i h st b hb=>by
  have e:b=it:=by simpa using hb
  subst e;obtain⟨o,e,c,d⟩:=st;exact⟨o,e,fun v z=>by rw[d]at z;cases z⟩
 keep:=fun i h h' st k=>st.at fun o e=>k it (by simp) o e
 item:=by
  intro X hP hw hK hc i pins s B H E I hf st hg;subst hP hw hK;obtain⟨xs,x,hq,hx⟩:=hg;obtain⟨its,rv,p,hz⟩:=I.tuple hq;obtain⟨u,hu,ru⟩:=rv.get hx;obtain⟨f0,f1,f2,f3,f4,f5⟩:=hf it (by simp);refine wpAny_pyNext_tuple_item st (show s.heap.IsTuple a its.toArray from p) (x:=u) (by simpa using hu) fun h' st' sb=>?_;have I1:aZ X pins B H {s with heap:=h'}:=I.turned (t':=s.toks) (fun b o hb e=>(sb.2 b hb).trans e) f0 f1 f3 f4 f5;obtain⟨o,e,c,d⟩:=id st';exact⟨u,rfl,CM (s:={s with heap:=h'}) e c d (by decide) ⟨x,H,I1,ru,⟨rfl,fun ys hy=>by rw[I.tuple_inj hy hq];exact hx⟩,st',fun b hb=>(hf b hb).1⟩⟩
 done:=by
  intro X hP hw hK hc i pins s B H E I hf st hg;subst hP hw hK;obtain⟨xs,hq,hx⟩:=hg;obtain⟨its,rv,p,hz⟩:=I.tuple hq;obtain⟨f0,f1,f2,f3,f4,f5⟩:=hf it (by simp);have hl:=rv.length;exact wpAny_pyNext_tuple_end (I.ok.hd hc) st (show s.heap.IsTuple a its.toArray from p) (by simp;omega) fun h' eb=>⟨rfl,I.turned (t':=s.toks) (fun b o hb e=>eb b o hb e) f0 f1 f3 f4 f5⟩
 self:=fun _ _ _ _ _ st h=>wpAny_pyIter_tupleiter st h
theorem yN{w:World}(it:Addr)(lo:Int)(n:Nat):AU P w K tg (Le lo n) [it] it (fun i h=>IsRangeIter h it (lo+(i:Nat)*1) ((n:Int)-(i:Nat)) 1) where
 mem:=by simp
 obj:=fun i h st b hb=>by
  have e:b=it:=by simpa using hb
  subst e
  exact⟨_,st,fun v z=>by
   have z':Data.fields _=Data.cell v:=z
   cases z'⟩
 keep:=fun i h h' st k=>k it (by simp) _ st
 item:=by
  intro X hP hw hK hc i pins s B H E I hf st hg;subst hP hw hK;obtain⟨f0,f1,f2,f3,f4,f5⟩:=hf it (by simp);have W:=Walks.range (prog:=X.prog) (w:=X.w) (I.ok.hd hc) it lo 1 n;refine W.item i s _ _ hg st fun v h' tk hv st' kk=>?_;obtain⟨t,rfl⟩:=hv;have I1:aZ X pins B H {s with heap:=h',toks:=tk}:=I.turned (fun b o hb e=>kk b o (by simpa using hb) e) f0 f1 f3 f4 f5;refine⟨_,rfl,CM (s:={s with heap:=h',toks:=tk}) (n:="range_iterator") st' rfl rfl (by decide) ⟨.int (lo+i),H,I1,⟨t,?_⟩,⟨rfl,rfl⟩,st',fun b hb=>(hf b hb).1⟩⟩;rw[Int.mul_one]
 done:=by
  intro X hP hw hK hc i pins s B H E I hf st hg;subst hP hw hK;obtain⟨f0,f1,f2,f3,f4,f5⟩:=hf it (by simp);exact wpAny_pyNext_range_end (I.ok.hd hc) st (by have:n<=i:=hg;omega) fun h' eb=>⟨rfl,I.turned (t':=s.toks) (fun b o hb e=>eb b o hb e) f0 f1 f3 f4 f5⟩
 self:=fun _ _ _ _ _ st h=>wpAny_pyIter_rangeiter st h
section
variable{X:Cx}
theorem wZ{R:It->Hp->Prop}{lo hi:Int}{t u v:Tok}{tk:Nat}(I:aZ X pins B H s)(h1:-(2^62)<=lo)(h2:lo<2^62)(h3:-(2^62)<=hi)(h4:hi<2^62)(q:R (Le lo (hi-lo).toNat) H):wpAny (model X.prog X.w) X.A (pyIter (.ref s.heap.objs.size)) (Nz X pins B tg R) E {s with heap:=s.heap.push {cls:=.type "range",data:=.fields #[.int lo t,.int hi u,.int 1 v]},toks:=tk}:=by
 refine wpAny_pyIter_range (IsRange.new ..) (small_one h1 h2 h3 h4) ?_;have I1:aZ X pins B H {s with heap:=s.heap.push {cls:=.type "range",data:=.fields #[.int lo t,.int hi u,.int 1 v]},toks:=tk}:=I.kept fun b o e=>Pt _ e
 refine⟨(s.heap.push {cls:=.type "range",data:=.fields #[.int lo t,.int hi u,.int 1 v]}).objs.size,[(s.heap.push {cls:=.type "range",data:=.fields #[.int lo t,.int hi u,.int 1 v]}).objs.size],_,_,H,rfl,
  I1.kept (t':=tk) fun b o e=>Pt _ e,yN _ lo (hi-lo).toNat,?_,fun b hb=>?_,q⟩
 ·have e1 : lo + ((0 : Nat) : Int) * 1 = lo := by simp
  have e2:(((hi-lo).toNat:Nat):Int)-((0:Nat):Int)=Builtin.Range.rangeSize lo hi 1:=by rw[rangeSize_one];split <;> omega
  show IsRangeIter _ _ (lo+((0:Nat):Int)*1) ((((hi-lo).toNat:Nat):Int)-((0:Nat):Int)) 1;rw[e1,e2];exact Pu _ rfl
 ·have e : b = (s.heap.push { cls := .type "range", data := .fields #[.int lo t, .int hi u, .int 1 v] }).objs.size := by simpa using hb
  subst e;exact I1.fpOk (Pv _) (I1.hok.fresh (Pv _))
def Mz(ta:TA):TI:=fun B H R=>ta B H fun vs H1=>∃j:Int,vs=[.int j]/\-(2^62)<=j/\j<2^62/\R (Le 0 j.toNat) H1
def My(ta:TA):TI:=fun B H R=>ta B H fun vs H1=>∃i j:Int,vs=[.int i,.int j]/\(-(2^62)<=i/\i<2^62/\-(2^62)<=j/\j<2^62)/\R (Le i (j-i).toNat) H1
theorem Bs{a:Expr}{ta:TA}{p:Pos}(hg:Gl X "range")(hm:X.mg "range" = none)(ha:PA X [a] ta)(hs:starEach [a] X.env=[(false,eval a X.env)]:=by rfl):PI X tg (.Call (.Name "range" p) [a] [] pos) (Mz ta):=by
 intro pins s B H R I h;refine Call_ (oG I hg hm boot_range (Pw (d8 (ha pos pins s B H _ I h) fun us s1 ⟨vs,H1,I1,r1,q1⟩=>?_) hs rfl));obtain⟨j,e,q1,q2,q⟩:=q1;subst e;cases r1 with
 |cons r rr=>
  cases rr;obtain⟨t,rfl⟩:=r;exact call_range_1 (wZ I1 (by omega) (by omega) q1 q2 (by simpa using q))
theorem Br{a b:Expr}{ta:TA}{p:Pos}(hg:Gl X "range")(hm:X.mg "range" = none)(ha:PA X [a,b] ta)(hs:starEach [a,b] X.env=[(false,eval a X.env),(false,eval b X.env)]:=by rfl)(hs2:starEach [b] X.env=[(false,eval b X.env)]:=by rfl):
  PI X tg (.Call (.Name "range" p) [a,b] [] pos) (My ta):=by
 intro pins s B H R I h;refine Call_ (oG I hg hm boot_range (Pw (d8 (ha pos pins s B H _ I h) fun us s1 ⟨vs,H1,I1,r1,q1⟩=>?_) (by rw[hs,hs2]) (by rw[hs2];rfl)));obtain⟨i,j,e,⟨q1,q2,q3,q4⟩,q⟩:=q1;subst e;cases r1 with
 |cons r rr=>
  cases rr with
  |cons r' rr=>
   cases rr;obtain⟨t,rfl⟩:=r;obtain⟨t',rfl⟩:=r';exact call_range_2 (wZ I1 q1 q2 q3 q4 q)
def NM(wi:TI)(g:TG)(tb:TS):TS:=fun D B H=>wi B H fun J H1=>∃W:Nat->Nat->St->Hp->Prop,(∃m,W 0 m B H1)/\∀i m B H,W i m B H ->
 (J.stop i H/\D.nx B H)\/(J.go i H/\∃N:St->Hp->Prop,(∀B' H',N B' H'->∃m',m'<m/\W (i+1) m' B' H')/\∀x H',J.yld i H x H'->g x B H' fun B2 H2=>tb {D with nx:=N,ct:=N,bk:=D.nx} B2 H2)
def rm(fp:List Addr)(h:Heap):List (Addr×Obj):=fp.filterMap fun b=>(h.get? b).map fun o=>(b,o)
theorem ky{h:Heap}{o:Obj}(hb:b∈fp)(e:h.get? b=some o):(b,o)∈rm fp h:=Px.mpr ⟨b,hb,by rw[e];rfl⟩
theorem By{h:Heap}{p:Addr×Obj}(hp:p∈rm fp h):p.1∈fp/\h.get? p.1=some p.2:=by
 obtain⟨b,hb,e⟩:=Px.mp hp;cases q:h.get? b with
 |none=>rw[q]at e;cases e
 |some o=>
  rw[q]at e;have e':(b,o)=p:=ON e;subst e';exact⟨hb,q⟩
theorem aZ.pinned(I:aZ X pins B H s)(hf:∀b∈fp,ny X pins H b)(ho:∀b∈fp,∃o,s.heap.get? b=some o/\∀v,o.data≠.cell v):aZ X (pins++rm fp s.heap) B H s:=
 I.pins_of fun p hp=>(O7.mp hp).elim (fun z=>I.pin p (Py _ z)) fun z=>by
  obtain⟨hb,e⟩:=By z;obtain⟨f0,f1,f2,_⟩:=hf p.1 hb;obtain⟨o,e',d⟩:=ho p.1 hb;rw[e]at e';cases e';exact⟨e,f0,f1,f2,d⟩
theorem aZ.unpinned{pl:List (Addr×Obj)}(I:aZ X (pins++pl) B H s):aZ X pins B H s:=I.pins_of fun p hp=>I.pin p (Py _ (O8 _ hp))
theorem JB{wi:TI}{g:TG}{tb:TS}(hp:PassesOwn (model X.prog X.w) X.A X.env X.xe)(hc:X.calm=true)(hi:PI X tg iter wi)(hg:PG X tg g)(hb:j9 X body tb)(hs:∀x,foldedSetIterable iter X.env x=pure x:=by intro _;rfl):PS X (.For tg iter body [] pos) (NM wi g tb):=by
 intro pins s B H D I h;refine wpAny_For (d8 (hi pins s B H _ I h) fun v s1 h1=>d8 h1 fun itv s2 h2=>?_) hs;obtain⟨it,fp,tn,J,H2,e,I2,T,st2,f2,W,⟨m0,w0⟩,turn⟩:=h2;subst e;have stat:∀{H':Hp},(∀b∈fp,H' b=none)->∀b∈fp,ny X pins H' b:=fun hn b hb=>⟨hn b hb,(f2 b hb).2⟩;refine codeAny_forLoop_any (fun n s'=>∃i B' H',aZ X pins B' H' s'/\tn i s'.heap/\(∀b∈fp,H' b=none)/\W i n B' H') ?_ m0 ⟨0,B,H2,I2,st2,fun b hb=>(f2 b hb).1,w0⟩
 rintro n s3 ⟨i,B3,H3,I3,st3,fr3,w3⟩
 rcases turn i n B3 H3 w3 with⟨stop,qn⟩|⟨go,N,hN,step⟩
 ·refine Pz hp (d8 (T.done X rfl rfl rfl hc i pins s3 B3 H3 X.xe I3 (stat fr3) st3 stop) fun r s4 ⟨hr,I4⟩=>?_);subst hr;exact Pi ⟨B3,H3,I4,qn⟩
 ·refine Pz hp (d8 (T.item X rfl rfl rfl hc i pins s3 B3 H3 X.xe I3 (stat fr3) st3 go) fun r s4 ⟨u, hr, h4⟩ => ?_);subst hr;refine Pz hp (d8 h4 fun _ s5 ⟨x,H5,I5,r5,y5,st5,fr5⟩=>?_);have I5':=I5.pinned (stat fr5) (T.obj _ _ st5);refine Pz hp (d8 (hg _ s5 B3 H5 x u _ I5' r5 (step x H5 y5)) fun _ s6 ⟨B6,H6,I6,q6⟩=>?_);refine Pz hp (d8 (hb _ s6 B6 H6 _ I6 q6) fun f s7 q7=>?_)
  have again:∀{B7:St}{H7:Hp},aZ X (pins++rm fp s5.heap) B7 H7 s7->N B7 H7->∃m,m<n/\∃i B' H',aZ X pins B' H' s7/\tn i s7.heap/\(∀b∈fp,H' b=none)/\W i m B' H':=fun {B7 H7} I7 n7=>by
   obtain⟨m',hm,w7⟩:=hN B7 H7 n7;refine⟨m',hm,i+1,B7,H7,I7.unpinned,T.keep _ _ _ st5 fun b hb o e=>(I7.pin (b,o) (Py _ (Py _ (ky hb e)))).1,fun b hb=>?_,w7⟩;obtain⟨o,e,d⟩:=T.obj _ _ st5 b hb;exact(I7.pin (b,o) (Py _ (Py _ (ky hb e)))).2.1
  cases f with
  |next=>obtain⟨B7,H7,I7,n7⟩:=q7;exact again I7 n7
  |cont=>obtain⟨B7,H7,I7,n7⟩:=q7;exact again I7 n7
  |brk=>obtain⟨B7,H7,I7,q7⟩:=q7;exact⟨B7,H7,I7.unpinned,q7⟩
  |ret v=>obtain⟨x7,B7,H7,I7,r7,q7⟩:=q7;exact⟨x7,B7,H7,I7.unpinned,r7,q7⟩
end
abbrev R2:=V->V->Hp->VK->Prop
def iJ(X:Cx)(f:Value->Value->Sem Value)(r:R2):Prop:=
 ∀(pins:List (Addr×Obj))(s:Shared)(B:St)(H:Hp)(x y:V)(v u:Value)(Q:VK),aZ X pins B H s->cx x v->cx y u->r x y H Q ->
  wpAny (model X.prog X.w) X.A (f v u) (EP X pins B Q) X.xe s
def Nf(X:Cx)(f:Value->Sem Value)(r:V->Hp->VK->Prop):Prop:=
 ∀(pins:List (Addr×Obj))(s:Shared)(B:St)(H:Hp)(x:V)(v:Value)(Q:VK),aZ X pins B H s->cx x v->r x H Q ->
  wpAny (model X.prog X.w) X.A (f v) (EP X pins B Q) X.xe s
def cY(X:Cx)(f:Value)(r:List V->Hp->VK->Prop):Prop:=
 ∀(pins:List (Addr×Obj))(s:Shared)(B:St)(H:Hp)(xs:List V)(us:List Value)(Q:VK),aZ X pins B H s->bp xs us->r xs H Q ->
  wpAny (model X.prog X.w) X.A (call f us) (EP X pins B Q) X.xe s
def Oi(X:Cx)(r:V->Hp->(Bool->Hp->Prop)->Prop):Prop:=
 ∀(pins:List (Addr×Obj))(s:Shared)(B:St)(H:Hp)(x:V)(v:Value)(Q:Bool->Hp->Prop),aZ X pins B H s->cx x v->r x H Q ->
  wpAny (model X.prog X.w) X.A (truthy v) (TP X pins B Q) X.xe s
def MZ(r:R2)(ta tb:TE):TE:=fun B H Q=>ta B H fun x H1=>tb B H1 fun y H2=>r x y H2 Q
def OB(r:V->Hp->VK->Prop)(ta:TE):TE:=fun B H Q=>ta B H fun x H1=>r x H1 Q
def rI(C:Int->Int->Prop)(g:Int->Int->V):R2:=fun x y H Q=>∃i j,x=.int i/\y=.int j/\C i j/\Q (g i j) H
def Li(g:Int->Int->V):R2:=fun x y H Q=>∃i j,x=.int i/\y=.int j/\Q (g i j) H
def rU(g:Int->V):V->Hp->VK->Prop:=fun x H Q=>∃i,x=.int i/\Q (g i) H
section
variable{X:Cx}{a b:Expr}{tb tc:TE}
theorem Ip(ha:PE X a ta)(hb:PE X b tb){R:V->V->Hp->Prop}(I:aZ X pins B H s)(h:ta B H fun x H1=>tb B H1 fun y H2=>R x y H2){f:Value->Value->Sem Value}(hf:∀v u s2 x y H2,aZ X pins B H2 s2->cx x v->cx y u->R x y H2->wpAny (model X.prog X.w) X.A (f v u) Q X.xe s2):
  wpAny (model X.prog X.w) X.A (eval a X.env) (fun v s₁=>wpAny (model X.prog X.w) X.A (eval b X.env) (fun u s₂=>wpAny (model X.prog X.w) X.A (f v u) Q X.xe s₂) X.xe s₁) X.xe s:=by
 refine d8 (ha pins s B H _ I h) fun v s1 ⟨x,H1,I1,r1,q1⟩=>?_;refine d8 (hb pins s1 B H1 _ I1 q1) fun u s2 ⟨y,H2,I2,r2,q2⟩=>?_;exact hf v u s2 x y H2 I2 r1 r2 q2
theorem Mj{op:Operator}{r:R2}(ho:iJ X (binaryOp op) r)(ha:PE X a ta)(hb:PE X b tb):PE X (.BinOp a op b pos) (MZ r ta tb):=by
 intro pins s B H Q I h;exact wpAny_BinOp (Ip ha hb I h fun v u s2 x y H2 I2 rx ry q=>ho pins s2 B H2 x y v u Q I2 rx ry q)
theorem Mi{op:UnaryOp}{r:V->Hp->VK->Prop}(ho:Nf X (unaryOp op) r)(ha:PE X a ta):PE X (.UnaryOp op a pos) (OB r ta):=by
 intro pins s B H Q I h;exact UnaryOp_ (d8 (ha pins s B H _ I h) fun v s1 ⟨x,H1,I1,r1,q1⟩=>ho pins s1 B H1 x v Q I1 r1 q1)
theorem Nb{f:Value->Value->Sem Value}{g:Int->Int->Int}(rule:∀(i j:Int)(t u:Tok)(s:Shared)(Q:Value->Shared->Prop)(E:Value->Shared->Prop),C i j->Q (.int (g i j) s.toks) {s with toks:=s.toks+1}->wpAny (model X.prog X.w) X.A (f (.int i t) (.int j u)) Q E s):
  iJ X f (rI C fun i j=>.int (g i j)):=by
 intro pins s B H x y v u Q I rx ry h;obtain⟨i,j,rfl,rfl,hc,q⟩:=h;obtain⟨t,rfl⟩:=rx;obtain⟨t',rfl⟩:=ry;exact rule i j t t' s _ _ hc ⟨.int (g i j),H,I.tok _,⟨_,rfl⟩,q⟩
theorem LG{f:Value->Value->Sem Value}{g:Int->Int->Int}
  (rule:∀(i j:Int)(t u:Tok)(s:Shared)(Q:Value->Shared->Prop)(E:Value->Shared->Prop),Q (.int (g i j) s.toks) {s with toks:=s.toks+1}->wpAny (model X.prog X.w) X.A (f (.int i t) (.int j u)) Q E s) :
  iJ X f (Li fun i j=>.int (g i j)):=by
 intro pins s B H x y v u Q I rx ry h;obtain⟨i,j,rfl,rfl,q⟩:=h;obtain⟨t,rfl⟩:=rx;obtain⟨t',rfl⟩:=ry;exact rule i j t t' s _ _ ⟨.int (g i j),H,I.tok _,⟨_,rfl⟩,q⟩
def Fe(i j:Int):Prop:=0<j/\j<1073741824
def yp(i j:Int):Prop:=0<=j/\j<=1000000/\i.natAbs<2^64
def wd(i j:Int):Prop:=(-(2^64)<i/\i<2^64)\/(-(2^64)<j/\j<2^64)
theorem wd.ok{i j:Int}(h:wd i j):IntMulOk i j:=by
 rcases h with⟨h1,h2⟩|⟨h1,h2⟩
 ·exact .of_left (intBits_le_64 h1 h2)
 ·exact .of_right (intBits_le_64 h1 h2)
theorem J1:iJ X (binaryOp .Add) (Li fun i j=>.int (i+j)):=LG fun _ _ _ _ _ _ _ q=>add_int q
theorem JR:iJ X (binaryOp .Sub) (Li fun i j=>.int (i-j)):=LG fun _ _ _ _ _ _ _ q=>sub_int q
theorem JV:iJ X (binaryOp .Mult) (rI wd fun i j=>.int (i*j)):=Nb fun _ _ _ _ _ _ _ hc q=>mul_int q hc.ok
theorem Gr:iJ X (binaryOp .FloorDiv) (rI Fe fun i j=>.int (i / j)):=Nb fun i j _ _ _ _ _ hc q=>by
 have h1:(0:Int)<j:=hc.1;have h2:j<1073741824:=hc.2;exact floordiv_int (by omega) (by rw[Int.fdiv_eq_ediv_of_nonneg i (by omega)];exact q) (.inl (PyProof.noPylong_small (by omega)))
theorem JW:iJ X (binaryOp .Mod) (rI (fun _ j=>0<j) fun i j=>.int (i%j)):=Nb fun i j _ _ _ _ _ hc q=>by
 have h1:(0:Int)<j:=hc;exact mod_int' (by omega) (by rw[Int.fmod_eq_emod_of_nonneg i (by omega)];exact q)
theorem JT:iJ X (binaryOp .Pow) (rI yp fun i j=>.int (i^j.toNat)):=Nb fun _ _ _ _ _ _ _ hc q=>pow_int_small hc.1 hc.2.1 hc.2.2 q
theorem OA{f:Value->Sem Value}{g:Int->Int}
  (rule:∀(i:Int)(t:Tok)(s:Shared)(Q:Value->Shared->Prop)(E:Value->Shared->Prop),Q (.int (g i) s.toks) {s with toks:=s.toks+1}->wpAny (model X.prog X.w) X.A (f (.int i t)) Q E s) :
  Nf X f (rU fun i=>.int (g i)):=by
 intro pins s B H x v Q I rx h;obtain⟨i,rfl,q⟩:=h;obtain⟨t,rfl⟩:=rx;exact rule i t s _ _ ⟨.int (g i),H,I.tok _,⟨_,rfl⟩,q⟩
theorem IC:Nf X (unaryOp .USub) (rU fun i=>.int (-i)):=OA fun _ _ _ _ _ q=>neg_int q
end
def NP:V->V->Bool
 |.non,.non=>true | .non,.int _=>true | .int _,.non=>true | .non,.bl _=>true | .bl _,.non=>true | .non,.str _=>true | .str _,.non=>true
 |.int _,.int _=>true | .bl _,.bl _=>true | .str _,.str _=>true | .byt _,.byt _=>true
 |.int _,.str _=>true | .str _,.int _=>true | .bl _,.str _=>true | .str _,.bl _=>true
 |_,_=>false
def Nu:R2:=fun x y H Q=>NP x y=true/\Q (.bl (!decide (x=y))) H
theorem Hd{i j:Int}:decide (V.int i=V.int j)=(i == j):=by
 rw[PB];simp
theorem K6{i j:Bool}:decide (V.bl i=V.bl j)=(i == j):=by
 rw[PB];simp
theorem Hc{i j:Str}:decide (V.str i=V.str j)=(i == j):=by
 rw[PB];simp
theorem He{i j:Array UInt8}:decide (V.byt i=V.byt j)=(i.toList == j.toList):=by
 rw[PB];cases i;cases j;simp
section
variable{X:Cx}{a b:Expr}{tb tc:TE}
theorem eU{Q:VK}{k k':Bool}(I:aZ X pins B H s)(q:Q (.bl k) H)(e:k=k'):EP X pins B Q (.bool k') s:=by
 subst e;exact⟨.bl k,H,I,rfl,q⟩
theorem Mp:iJ X (compareOp .NotEq) Nu:=by
 intro pins s B H x y v u Q I rx ry h;obtain⟨hs,q⟩:=h;cases x with
 |non=>
  cases rx;cases y with
  |non=>cases ry;exact PySem.EqNone.ne_none_none (eU I q (by simp))
  |bl j=>cases ry;exact PySem.EqNone.ne_none_bool (eU I q (by simp))
  |int j=>obtain⟨t',rfl⟩:=ry;exact PySem.EqNone.ne_none_int (eU I q (by simp))
  |str j=>obtain⟨t',rfl⟩:=ry;exact PySem.EqNone.ne_none_str (eU I q (by simp))
  |_=>exact absurd (show false=true from hs) PD
 |bl i=>
  cases rx;cases y with
  |non=>cases ry;exact PySem.EqNone.ne_bool_none (eU I q (by simp))
  |bl j=>cases ry;exact ne_bool (eU I q (Ph not K6))
  |str j=>obtain⟨t',rfl⟩:=ry;exact PySem.EqMixed.ne_bool_str (eU I q (by simp))
  |_=>exact absurd (show false=true from hs) PD
 |int i=>
  obtain⟨t,rfl⟩:=rx;cases y with
  |non=>cases ry;exact PySem.EqNone.ne_int_none (eU I q (by simp))
  |int j=>obtain⟨t',rfl⟩:=ry;exact ne_int (eU I q (Ph not Hd))
  |str j=>obtain⟨t',rfl⟩:=ry;exact PySem.EqMixed.ne_int_str (eU I q (by simp))
  |_=>exact absurd (show false=true from hs) PD
 |str i=>
  obtain⟨t,rfl⟩:=rx;cases y with
  |non=>cases ry;exact PySem.EqNone.ne_str_none (eU I q (by simp))
  |bl j=>cases ry;exact PySem.EqMixed.ne_str_bool (eU I q (by simp))
  |int j=>obtain⟨t',rfl⟩:=ry;exact PySem.EqMixed.ne_str_int (eU I q (by simp))
  |str j=>obtain⟨t',rfl⟩:=ry;exact ne_str (eU I q (Ph not Hc))
  |_=>exact absurd (show false=true from hs) PD
 |byt i=>
  obtain⟨t,rfl⟩:=rx;cases y with
  |byt j=>obtain⟨t',rfl⟩:=ry;exact W.ne_bytes (eU I q (Ph not He))
  |_=>exact absurd (show false=true from hs) PD
 |_=>cases y <;> exact absurd (show false=true from hs) PD
theorem JX:iJ X (compareOp .Is) (fun x y H Q=>y=.non/\Q (.bl (decide (x=.non))) H):=by
 intro pins s B H x y v u Q I rx ry h;obtain⟨rfl,q⟩:=h;cases ry;refine is_none_gen (eU I q ?_)
 cases x <;> first
  |(cases rx;rfl)
  |(obtain⟨t,rfl⟩:=rx;rfl)
theorem Gp:iJ X (compareOp .IsNot) (fun x y H Q=>y=.non/\Q (.bl (!decide (x=.non))) H):=by
 intro pins s B H x y v u Q I rx ry h;obtain⟨rfl,q⟩:=h;cases ry;refine isnot_none_gen (eU I q ?_)
 cases x <;> first
  |(cases rx;rfl)
  |(obtain⟨t,rfl⟩:=rx;rfl)
theorem iJ.or{f:Value->Value->Sem Value}{r r':R2}(h:iJ X f r)(h':iJ X f r'):iJ X f (fun x y H Q=>r x y H Q\/r' x y H Q):=by
 intro pins s B H x y v u Q I rx ry q;rcases q with q|q
 ·exact h pins s B H x y v u Q I rx ry q
 ·exact h' pins s B H x y v u Q I rx ry q
theorem Gj{r:R2}(ho:iJ X (compareOp op) r)(ha:PE X a ta)(hb:PE X b tb)(hm:behindInMarks op b=false):PE X (.Compare a [op] [b] pos) (MZ r ta tb):=by
 intro pins s B H Q I h;exact wpAny_Compare1 (Ip ha hb I h fun v u s2 x y H2 I2 rx ry q=>ho pins s2 B H2 x y v u Q I2 rx ry q) hm
def zM(t:TE):TT:=fun B H Q=>t B H fun x H'=>∃k,x=.bl k/\Q k H'
theorem F6{r:R2}(ho:iJ X (compareOp op) r)(ha:PE X a ta)(hb:PE X b tb)(hm:behindInMarks op b=false):PT X (.Compare a [op] [b] pos) (zM (MZ r ta tb)):=by
 intro pins s B H Q I h
 refine wpAny_isTrue_Compare1 (d8 (ha pins s B H _ I h) fun v s1 ⟨x,H1,I1,r1,q1⟩=>d8 (hb pins s1 B H1 _ I1 q1) fun u s2 ⟨y,H2,I2,r2,q2⟩=>
  d8 (ho pins s2 B H2 x y v u _ I2 r1 r2 q2) fun c s3 ⟨z,H3,I3,r3,k,e,q3⟩=>?_) hm
 subst e;cases r3;exact Pf ⟨H3,I3,q3⟩
def yv(r r':R2)(ta tb tc:TE):TE:=fun B H Q=>ta B H fun x H1=>tb B H1 fun y H2=>r x y H2 fun z H3=>∃k,z=.bl k /\
 (if k=true then tc B H3 fun w' H4=>r' y w' H4 Q else Q (.bl false) H3)
theorem D7{op':CmpOp}{r r':R2}(ho:iJ X (compareOp op) r)(ho':iJ X (compareOp op') r')(ha:PE X a ta)(hb:PE X b tb)(hc:PE X c tc)(hm:lastMarks [op,op'] [b,c]=false:=by with_unfolding_all rfl):PE X (.Compare a [op,op'] [b,c] pos) (yv r r' ta tb tc):=by
 intro pins s B H Q I h
 refine Compare_chain (d8 (ha pins s B H _ I h) fun v s1 ⟨x,H1,I1,r1,q1⟩=>chain_link (d8 (hb pins s1 B H1 _ I1 q1) fun u s2 ⟨y,H2,I2,r2,q2⟩=>
  d8 (ho pins s2 B H2 x y v u _ I2 r1 r2 q2) fun d s3 ⟨z,H3,I3,r3,k,e,q3⟩=>?_)) hm
 subst e;cases r3;refine Pf ?_;cases k with
 |false=>exact ite_ff ⟨.bl false,H3,I3,rfl,q3⟩
 |true=>exact ite_tt (chain_last (d8 (hc pins s3 B H3 _ I3 q3) fun w' s4 ⟨z',H4,I4,r4,q4⟩=>ho' pins s4 B H4 y z' u w' Q I4 r2 r4 q4))
theorem DY{op':CmpOp}{r r':R2}(ho:iJ X (compareOp op) r)(ho':iJ X (compareOp op') r')(ha:PE X a ta)(hb:PE X b tb)(hc:PE X c tc)(hm:lastMarks [op,op'] [b,c]=false:=by with_unfolding_all rfl):PT X (.Compare a [op,op'] [b,c] pos) (zM (yv r r' ta tb tc)):=by
 intro pins s B H Q I h
 refine isTrue_chain (d8 (ha pins s B H _ I h) fun v s1 ⟨x,H1,I1,r1,q1⟩=>test_link (d8 (hb pins s1 B H1 _ I1 q1) fun u s2 ⟨y,H2,I2,r2,q2⟩=>
  d8 (ho pins s2 B H2 x y v u _ I2 r1 r2 q2) fun d s3 ⟨z,H3,I3,r3,k,e,q3⟩=>?_)) hm
 subst e;cases r3;refine Pf ?_;cases k with
 |false=>
  obtain⟨k',e',q'⟩:=q3;cases e';exact ite_ff ⟨H3,I3,q'⟩
 |true=>
  refine ite_tt (test_last (d8 (hc pins s3 B H3 _ I3 q3) fun w' s4 ⟨z',H4,I4,r4,q4⟩=>d8 (ho' pins s4 B H4 y z' u w' _ I4 r2 r4 q4) fun d' s5 ⟨z2,H5,I5,r5,k2,e2,q5⟩=>?_));subst e2;cases r5;exact Pf ⟨H5,I5,q5⟩
def Iq(K:W.Frag)(x:V)(H:Hp)(k:Bool):Prop:=
 match x with
 |.non=>k=false
 |.bl b=>k=b
 |.int i=>k=(i != 0)
 |.str y=>y.length<=sizeLine/\k=((y.length:Int) != 0)
 |.byt y=>y.size<=sizeLine/\k=((y.size:Int) != 0)
 |.ref p=>(∃xs,fK K H p xs/\k=!xs.isEmpty)\/(∃xs,gr K H p xs/\k=!xs.isEmpty)\/∃kvs,H p=some (.dK kvs)/\k=!kvs.isEmpty
 |_=>False
theorem zi{κ:Type}{kvs:List (κ×V)}{vs:List (κ×Value)}(r:KV kvs vs):(!vs.isEmpty)=!kvs.isEmpty:=by
 cases r <;> rfl
theorem sv{xs:List V}(r:bp xs its):(!its.toArray.isEmpty)=!xs.isEmpty:=by
 cases r <;> simp
theorem oF:(sizeLine:Nat)<2^63:=by rw[PF];decide
theorem IG:Oi X (fun x H Q=>∃k,Iq X.K x H k/\Q k H):=by
 intro pins s B H x v Q I rx h;obtain⟨k,e,q⟩:=h;have hl:=oF;have hs:sizeLine=16777216:=PF;cases x with
 |non=>
  cases rx;have e':k=false:=e;subst e';exact truthy_none ⟨H,I,q⟩
 |bl b=>
  cases rx;have e':k=b:=e;subst e';exact Pf ⟨H,I,q⟩
 |int i=>
  obtain⟨t,rfl⟩:=rx;have e':k=(i != 0):=e;subst e';exact PySem.P.truthy_int ⟨H,I,q⟩
 |str y=>
  obtain⟨t,rfl⟩:=rx;obtain⟨hy,e'⟩:y.length<=sizeLine/\k=((y.length:Int) != 0):=e;subst e';exact PySem.P.truthy_str (by omega) ⟨H,I.tok _,q⟩
 |byt y=>
  obtain⟨t,rfl⟩:=rx;obtain⟨hy,e'⟩:y.size<=sizeLine/\k=((y.size:Int) != 0):=e;subst e';exact W.truthy_bytes (by omega) ⟨H,I.tok _,q⟩
 |ref p=>
  cases rx;have e':(∃xs,fK X.K H p xs/\k=!xs.isEmpty)\/(∃xs,gr X.K H p xs/\k=!xs.isEmpty)\/∃kvs,H p=some (.dK kvs)/\k=!kvs.isEmpty:=e;rcases e' with⟨xs,hx,e'⟩|⟨xs,hx,e'⟩|⟨kvs,hx,e'⟩
  ·subst e';obtain⟨its,r,pl,hz⟩:=I.list hx;have hlen:=r.length;exact wpAny_truthy_list pl.isList (by simp only[PH];omega) ⟨H,I.tok _,by rw[sv r];exact q⟩
  ·subst e';obtain⟨its,r,pl,hz⟩:=I.tuple hx;have hlen:=r.length;exact truthy_tuple pl (by simp only[PH];omega) ⟨H,I.tok _,by rw[sv r];exact q⟩
  ·subst e';obtain⟨hz,hS,vs,r,m⟩:kvs.length<=sizeLine/\(p == sysModules)=false/\∃vs,KV kvs vs/\s.heap.DictOf (qE X.prog X.w) p vs:=I.hok p _ hx;have hlen:kvs.length=vs.length:=Paired.length r;exact wpAny_truthy_dict hS m (by omega) ⟨H,I.tok _,by rw[zi r];exact q⟩
 |_=>exact(show False from e).elim
theorem DW(ha:PE X a ta)(he:∀whole,isTrue a X.env whole=(do let v <- whole;standAt a.pos;holding [v] (truthy v))) :
  PT X a (fun B H Q=>ta B H fun x H'=>∃k,Iq X.K x H' k/\Q k H'):=by
 intro pins s B H Q I h;exact isTrue_plain (d8 (ha pins s B H _ I h) fun v s1 ⟨x,H1,I1,r1,q1⟩=>IG pins s1 B H1 x v Q I1 r1 q1) (he _)
theorem y6:iJ X (binaryOp .Add) (fun x y H Q=>∃i j,x=.str i/\y=.str j/\i.length+j.length<=sizeLine/\Q (.str (i++j)) H):=by
 intro pins s B H x y v u Q I rx ry h;obtain⟨i,j,rfl,rfl,hz,q⟩:=h;obtain⟨t,rfl⟩:=rx;obtain⟨t',rfl⟩:=ry;exact add_str (fun t' tk=>⟨.str (i++j),H,I.tok _,⟨_,rfl⟩,q⟩) hz
theorem fH{x:V}(r:bp [x] us):∃u,us=[u]/\cx x u:=by
 cases r with
 |cons r1 r2=>cases r2;exact⟨_,rfl,r1⟩
theorem zL{x y:V}(r:bp [x,y] us):∃u w',us=[u,w']/\cx x u/\cx y w':=by
 cases r with
 |cons r1 r2=>
  cases r2 with
  |cons r3 r4=>cases r4;exact⟨_,_,rfl,r1,r3⟩
theorem BZ (hc:X.calm=true):cY X (.builtin "max") (fun xs H Q=>∃i j,xs=[.int i,.int j]/\Q (.int (if j>i then j else i)) H):=by
 intro pins s B H xs us Q I r h;obtain⟨i,j,rfl,q⟩:=h;obtain⟨u,w',rfl,⟨t,rfl⟩,⟨t',rfl⟩⟩:=zL r;refine max_two_ints (I.ok.hd hc) fun h' tk k=>⟨_,H,I.kept k,?_,q⟩;by_cases hj:j>i
 ·rw[OS hj,OS hj];exact⟨_,rfl⟩
 ·rw[OT hj,OT hj];exact⟨_,rfl⟩
theorem BX (hc:X.calm=true):cY X (.builtin "min") (fun xs H Q=>∃i j,xs=[.int i,.int j]/\Q (.int (if j<i then j else i)) H):=by
 intro pins s B H xs us Q I r h;obtain⟨i,j,rfl,q⟩:=h;obtain⟨u,w',rfl,⟨t,rfl⟩,⟨t',rfl⟩⟩:=zL r;refine min_two_ints (I.ok.hd hc) fun h' tk k=>⟨_,H,I.kept k,?_,q⟩;by_cases hj:j<i
 ·rw[OS hj,OS hj];exact⟨_,rfl⟩
 ·rw[OT hj,OT hj];exact⟨_,rfl⟩
theorem σ3:cY X (.type "int") (fun xs H Q=>(∃i,xs=[.int i]/\Q (.int i) H)\/∃k,xs=[.bl k]/\Q (.int (if k then 1 else 0)) H):=by
 intro pins s B H xs us Q I r h;rcases h with⟨i,rfl,q⟩|⟨k,rfl,q⟩
 ·obtain⟨u,rfl,t,rfl⟩:=fH r;exact call_int_int ⟨.int i,H,I,⟨_,rfl⟩,q⟩
 ·obtain⟨u,rfl,r1⟩:=fH r;cases r1;exact call_int_bool ⟨.int (if k then 1 else 0),H,I.tok _,⟨_,rfl⟩,q⟩
def Iu(K:W.Frag)(x:V)(H:Hp)(n:Nat):Prop:=
 match x with
 |.str y=>y.length<=sizeLine/\n=y.length
 |.byt y=>y.size<=sizeLine/\n=y.size
 |.ref p=>(∃xs,fK K H p xs/\n=xs.length)\/∃xs,gr K H p xs/\n=xs.length
 |_=>False
theorem EH:cY X (.builtin "len") (fun xs H Q=>∃x n,xs=[x]/\Iu X.K x H n/\Q (.int n) H):=by
 intro pins s B H xs us Q I r h;obtain⟨x,n,rfl,e,q⟩:=h;obtain⟨u,rfl,rx⟩:=fH r;have hl:=oF;have hs:sizeLine=16777216:=PF;cases x with
 |str y=>
  obtain⟨t,rfl⟩:=rx;obtain⟨hy,e'⟩:y.length<=sizeLine/\n=y.length:=e;subst e';exact len_str (by omega) ⟨.int _,H,I.tok _,⟨_,rfl⟩,q⟩
 |byt y=>
  obtain⟨t,rfl⟩:=rx;obtain⟨hy,e'⟩:y.size<=sizeLine/\n=y.size:=e;subst e';exact W.len_bytes (by omega) ⟨.int _,H,I.tok _,⟨_,rfl⟩,q⟩
 |ref p=>
  cases rx;have e':(∃xs,fK X.K H p xs/\n=xs.length)\/∃xs,gr X.K H p xs/\n=xs.length:=e;rcases e' with⟨xs,hx,e'⟩|⟨xs,hx,e'⟩
  ·subst e';obtain⟨its,r',pl,hz⟩:=I.list hx;have hlen:=r'.length;exact Calls.call_len_list pl.isList (by simp only[PH];omega) ⟨.int xs.length,H,I.tok _,⟨_,by simp only[PH];rw[hlen]⟩,q⟩
  ·subst e';obtain⟨its,r',pl,hz⟩:=I.tuple hx;have hlen:=r'.length;exact len_tuple pl (by simp only[PH];omega) ⟨.int xs.length,H,I.tok _,⟨_,by simp only[PH];rw[hlen]⟩,q⟩
 |_=>exact(show False from e).elim
end
structure OJ(h:Heap)(x dx C:Addr)(mA:Str->Option Value):Prop where
 obj:h.get? x=some (W.instObj C dx)
 ns:h.Ns1 dx mA
 ne:dx≠x
structure OG(K:W.Frag)(C:Addr):Prop where
 pg:W.plainGet K C Str.empty=true
 hd:W.hasDictIn K C=true
 po:W.plainOver K C=true
 sa:W.findIn K (.ref C) "__setattr__" = some (some (.builtin "object.__setattr__"))
structure OM(K:W.Frag)(C:Addr)(f:Str)(v:V)(u:Value):Prop where
 at_:W.findIn K (.ref C) f=some (some u)
 rel:cx v u
 get:W.specialIn K u "__get__" = some none
 cp:W.copiedNames.contains f=false
structure OK(K:W.Frag)(C:Addr)(m:Str)(f:Addr):Prop where
 at_:W.findIn K (.ref C) m=some (some (.ref f))
 fn:W.isFn K (.ref f)=true
 kp:W.keepIn K (.ref f)=true
section
variable{X:Cx}{c:Value}{b:Bool}
inductive qP(K:W.Frag)(H:Hp):V->Value->Prop where
 |non:qP K H .non (.type "NoneType")
 |bl (x:Bool):qP K H (.bl x) (.type "bool")
 |int (i:Int):qP K H (.int i) (.type "int")
 |str (x:Str):qP K H (.str x) (.type "str")
 |flt (x:UInt64):qP K H (.flt x) (.type "float")
 |lst {a:Addr}{xs:List V} (e:H a=some (.lst xs)):qP K H (.ref a) (.type "list")
 |frz {a:Addr}{o:Obj}{xs:List V} (e:H a=some (.frz o (.lst xs))):qP K H (.ref a) (.type "list")
 |tup {a:Addr}{xs:List V} (e:H a=some (.tup xs)):qP K H (.ref a) (.type "tuple")
 |dK {a:Addr}{kvs:List (sU×V)} (e:H a=some (.dK kvs)):qP K H (.ref a) (.type "dict")
 |dT {a:Addr}{kvs:List (List sU×V)} (e:H a=some (.dT kvs)):qP K H (.ref a) (.type "dict")
 |ins {a C dx:Addr}{fs:List (Str×V)} (e:H a=some (.ins C dx fs)) (cl:OG K C) (ha:W.findIn K (.ref C) "__class__" = some (some (.builtin "object.__class__")))
   (hn:W.specialIn K (.builtin "object.__class__") "__get__" = some (some (.builtin "getset_descriptor.__get__"))) (htk:W.takesIn K (.builtin "object.__class__")=some true)
   (hm:W.mroIn K C (.type "object")=some true):qP K H (.ref a) (.ref C)
end
structure gv(k:Nat)(A:Around):Prop where
 hd:A.handled=none
 dp:A.depth+3*k+5<recursionLimit
 un:A.units+16*k+200<cLine
 gd:A.guards=some []
theorem gv.mono{k:Nat}(r:gv k A)(h:j<=k):gv j A:=⟨r.hd,by have:=r.dp;omega,by have:=r.un;omega,r.gd⟩
theorem gv.deeper{k:Nat}(r:gv (k+1) A)(env:Env):gv k (A.deeper env):=
 ⟨r.hd,by have:=r.dp;show A.depth+1+3*k+5<_;omega,by have:=r.un;show A.units+3+16*k+200<_;omega,r.gd⟩
theorem gv.depth{k:Nat}(r:gv k A):A.depth<recursionLimit:=by have:=r.dp;omega
theorem gv.units{k:Nat}(r:gv k A):A.units+64<cLine:=by have:=r.un;omega
def NJ:TA:=fun _ H Q=>Q [] H
def L3(ta:TE)(tr:TA):TA:=fun B H Q=>ta B H fun x H1=>tr B H1 fun xs H2=>Q (x::xs) H2
section
variable{X:Cx}{es:List Expr}{t:TA}
theorem uQ:PA X [] NJ:=fun _ _ _ _ H Q I h=>Calls.spliced_nil ⟨[],H,I,.nil,h⟩
theorem kh(ha:PE X e te)(hr:PA X es t)(hs:starEach (e::es) X.env=(false,eval e X.env)::starEach es X.env:=by rfl):PA X (e::es) (L3 te t):=by
 intro pos pins s B H Q I h;rw[hs];show wpAny _ _ (spliced ((false,eval e X.env)::backTo pos (starEach es X.env))) _ _ s;refine Calls.spliced_cons (d8 (ha pins s B H _ I h) fun u s1 ⟨x,H1,I1,r1,q1⟩=>?_);exact d8 (hr pos pins s1 B H1 _ I1 q1) fun us s2 ⟨xs,H2,I2,r2,q2⟩=>⟨x::xs,H2,I2,.cons r1 r2,q2⟩
def NF(t:TA):TE:=fun B H Q=>t B H fun xs H1=>xs.length<=sizeLine/\∀p,H1 p=none->Q (.ref p) (dk H1 p (.tup xs))
def NK(t:TA):TE:=fun B H Q=>t B H fun xs H1=>xs.length<=sizeLine/\∀p,H1 p=none->Q (.ref p) (dk H1 p (.lst xs))
theorem JI{x1}(h:PA X es t):PE X (.Tuple es x1 pos) (NF t):=by
 intro pins s B H Q I hq;refine wpAny_Tuple_spliced (d8 (h pos pins s B H _ I hq) fun us s1 ⟨xs,H1,I1,r,z,q⟩=>⟨by rw[<- r.length];exact z,?_⟩);have hf:H1 s1.heap.objs.size=none:=I1.hok.fresh (Pv _);refine⟨.ref s1.heap.objs.size,dk H1 s1.heap.objs.size (.tup xs),I1.laid (t':=s1.toks) (fun b u e=>Pt _ e) (Pv _) ?_,rfl,q _ hf⟩;exact⟨z,us,r,⟨_,Pu _ rfl,rfl,_,rfl⟩⟩
theorem JN(h:PA X es t):PE X (.List es pos) (NK t):=by
 intro pins s B H Q I hq;refine wpAny_List_spliced (d8 (h pos pins s B H _ I hq) fun us s1 ⟨xs,H1,I1,r,z,q⟩=>⟨by rw[<- r.length];exact z,?_⟩);have hf:H1 s1.heap.objs.size=none:=I1.hok.fresh (Pv _);refine⟨.ref s1.heap.objs.size,dk H1 s1.heap.objs.size (.lst xs),I1.laid (t':=s1.toks) (fun b u e=>Pt _ e) (Pv _) ?_,rfl,q _ hf⟩;exact⟨z,us,0,r,Pu _ rfl⟩
end
abbrev Sp:=List V->Hp->VK->XK->Prop
abbrev vT:=List Env->Hp->Shared->XK->Value->Shared->Prop
structure AW(P:Program)(w:World)(K:W.Frag)(mg:Str->Option Value)(base:Heap)(A:Around)(outer:List Env)(s:Shared)(H:Hp):Prop where
 frames:A.frames=some outer
 mod:Mod K mg base
 bs:∀b o,base.get? b=some o->s.heap.get? b=some o/\H b=none
 bsz:base.objs.size<=s.heap.objs.size
 funs:s.heap.FunFrames base outer
 frf:∀b∈pF outer,H b=none
 hok:ou P w H s.heap
 bare:AllBare s.gens
def CE(outer:List Env)(P:Program)(w:World)(H:Hp)(s:Shared)(Q:VK)(u:Value)(s':Shared):Prop:=
 ∃v H',s'.os=s.os/\AllBare s'.gens/\Un (pF outer) [] H H' s.heap s'.heap/\ou P w H' s'.heap/\cx v u/\Q v H'
def CR(CX:vT)(outer:List Env)(P:Program)(w:World)(H:Hp)(s:Shared)(Q:VK)(E:XK)(r:Result)(s':Shared):Prop:=
 match r with
 |.ok (.ret u)=>CE outer P w H s Q u s'
 |.ok _=>False
 |.error e=>CX outer H s E e s'
structure qR(P:Program)(w:World)(K:W.Frag)(mg:Str->Option Value)(base:Heap)(CX:vT)(k:Nat)(f:Addr)(fd:FuncData)(ps:List Str)(sp:Sp):Prop where
 len:∀vs H Q E,sp vs H Q E->vs.length=ps.length
 run:∀(A:Around)(outer:List Env)(s:Shared)(H:Hp)(args:Args)(us:List Value)(vs:List V)(Q:VK)(E:XK),gv k A->AW P w K mg base A outer s H->BindsTo s fd args (ps.zip us)->bp vs us->sp vs H Q E ->
  codeAny (model P w) A (.call (.ref f) args) (CR CX outer P w H s Q E) s
section
variable{X:Cx}
theorem aZ.env0(I:aZ X pins B H s):AW X.prog X.w X.K X.mg X.base X.A X.stack s H:=
 ⟨I.ok.frames,I.ok.mod,I.bs,O0 I.ok.bsz I.sz,I.stack,I.stkFree,I.hok,I.bare⟩
theorem aZ.after{Q:VK}(I:aZ X pins B H s)(h:CE X.stack X.prog X.w H s Q u s'):EP X pins B Q u s':=by
 obtain⟨v,H',os,bare,un,hok,r,q⟩:=h;obtain⟨hh,g,d,t,os'⟩:=s';obtain rfl:os'=s.os:=os;exact⟨v,H',I.call (h':=hh) (g':=g) (d':=d) (t':=t) (ch:=[]) un hok bare (fun b z=>absurd z (by simp)),r,q⟩
end
def Hv(sp:Sp)(dvs:List V)(E:XK)(t:TA):TE:=fun B H Q=>t B H fun vs H1=>sp (vs++dvs) H1 Q E
def iw(K:W.Frag)(fd:FuncData)(ps:List Str)(ds:List Value):Prop:=
 ∀(s:Shared)(us:List Value),K.In s.heap->(us++ds).length=ps.length->BindsTo s fd ⟨us,[]⟩ (ps.zip (us++ds))
theorem iw.all{ps:List Str}(h:∀us:List Value,us.length=ps.length->bindArgs fd ⟨us,[]⟩=pure (ps.zip us)):iw K fd ps []:=fun s us _ hl=>by
 rw[PJ]at hl⊢;exact .of_eq (h us hl)
def kg(CX:vT)(X:Cx)(E:XK):Prop:=∀(pins:List (Addr×Obj))(B:St)(H:Hp)(s:Shared)(e:Value)(s':Shared),aZ X pins B H s->CX X.stack H s E e s'->X.xe e s'
section
variable{X:Cx}{CX:vT}{k:Nat}{C:Addr}{ps:List Str}{sp:Sp}{dvs:List V}{ds:List Value}{E:XK}{m:Str}{p:Pos}{o:Expr}{es:List Expr}{t:TA}
theorem Js{Q:VK}(F:qR X.prog X.w X.K X.mg X.base CX k f fd ps sp)(hr:gv k X.A)(hb:iw X.K fd ps ds)(hd:bp dvs ds)(hx:kg CX X E)(I:aZ X pins B H s)(r:bp vs us)(h:sp (vs++dvs) H Q E):wpAny (model X.prog X.w) X.A (call (.ref f) us) (EP X pins B Q) X.xe s:=by
 have r2:bp (vs++dvs) (us++ds):=r.append hd;have hl:(us++ds).length=ps.length:=by rw[<- r2.length];exact F.len _ _ _ _ h
 refine wpAny_call (PL (F.run X.A X.stack s H ⟨us,[]⟩ (us++ds) (vs++dvs) Q E hr I.env0 (hb s us I.kIn hl) r2 h) fun r s' hq=>?_);cases r with
 |error e=>exact hx pins B H s e s' I hq
 |ok fl=>
  cases fl with
  |ret u=>exact I.after hq
  |next=>exact False.elim hq
  |brk=>exact False.elim hq
  |cont=>exact False.elim hq
theorem qC(F:qR X.prog X.w X.K X.mg X.base CX k f fd ps sp)(hr:gv k X.A)(hg:Gl X x)(hm:X.mg x=some (.ref f))(hk:W.keepIn X.K (.ref f)=true)(hb:iw X.K fd ps ds)(hd:bp dvs ds)(hx:kg CX X E)
  (ha:PA X (e::es) t) (hdb:(x == ("__debug__" : Str))=false:=by decide) (he:starEach (e::es) X.env=(false,eval e X.env)::starEach es X.env:=by rfl) (hpl:(backTo pos (starEach es X.env)).any (·.1)=false:=by rfl) :
  PE X (.Call (.Name x p) (e::es) [] pos) (Hv sp dvs E t):=by
 intro pins s B H Q I h;refine PM (nG I hg hm ?_ hdb);refine W.callWith_K (h₀:=X.base) I.ok.mod.kin hk (d8 (ha pos pins s B H _ I h) fun us s1 ⟨vs,H1,I1,r,q⟩=>⟨I1.kIn,?_⟩) he hpl;exact Js F hr hb hd hx I1 r q
structure Mk(K:W.Frag)(C f:Addr):Prop where
 makes:W.makesIn K C=true
 init:W.findIn K (.ref C) "__init__" = some (some (.ref f))
 fn:W.isFn K (.ref f)=true
 kp:W.keepIn K (.ref C)=true
end
section
variable{X:Cx}{CX:vT}{k:Nat}{C:Addr}{ps ks:List Str}{sp:Sp}{E:XK}{m:Str}{p kpos:Pos}{o:Expr}{es:List Expr}{kws:List Keyword}{t tk:TA}{nm:Option Str}
structure Om(K:W.Frag)(fd:FuncData)(ps ks:List Str)(g:List Value->List Value->List Value)(gV:List V->List V->List V):Prop where
 to:∀(s:Shared)(us ws:List Value),K.In s.heap->(g us ws).length=ps.length->BindsTo s fd ⟨us,ks.zip ws⟩ (ps.zip (g us ws))
 rel:∀{vs:List V}{us:List Value}{zs:List V}{ws:List Value},bp vs us->bp zs ws->bp (gV vs zs) (g us ws)
variable{g:List Value->List Value->List Value}{gV:List V->List V->List V}
end
structure aV(N P:List Str)(sc:Scope):Prop where
 kind:sc.kind=.function
 co:sc.isCoroutine=false
 gen:sc.isGenerator=false
 nd:N.Nodup
 pre:N.take P.length=P
 par:∀x∈P,sc.names.lookup x=some .local\/sc.names.lookup x=some .cell
 nofree:∀y∈sc.names,y.2≠.free
theorem uC{kindOf:Str->Option NameKind}{x:Str}:∀{binds:List (Str×Value)}{m:Str->Option Value},(∀v,(x,v)∉binds)->bindL kindOf binds m x=m x
 |[],_,_=>rfl
 |(n,v)::r,m,h=>by
  unfold bindL;rw[uC fun w hw=>h w (O4 _ hw)];split
  ·have : x ≠ n := by rintro rfl; exact h v O3
   simp[this]
  ·rfl
theorem uD{kindOf:Str->Option NameKind}{x:Str}:∀{binds:List (Str×Value)}{m:Str->Option Value},(∀v,(x,v)∉binds)->bindC kindOf binds m x=m x
 |[],_,_=>rfl
 |(n,v)::r,m,h=>by
  unfold bindC;rw[uD fun w hw=>h w (O4 _ hw)];split
  ·rfl
  ·have : x ≠ n := by rintro rfl; exact h v O3
   simp[this]
theorem oZ{kindOf:Str->Option NameKind}{x:Str}{v:Value}:∀{P:List Str}{vs:List Value}{i:Nat}{m:Str->Option Value},P.Nodup->P[i]?=some x->vs[i]?=some v->kindOf x=some .local ->
  bindL kindOf (P.zip vs) m x=some v
 |[],_,_,_,_,h,_,_=>by simp at h
 |_::_,[],_,_,_,_,h,_=>by simp at h
 |p::P,w::vs,0,m,nd,h1,h2,hk=>by
  simp at h1 h2;subst h1;subst h2;show bindL kindOf ((p,w)::P.zip vs) m p=_;unfold bindL;rw[uC fun v hv=>(PN.mp nd).1 (PQ hv).1,OS hk];simp
 |p::P,w::vs,i+1,m,nd,h1,h2,hk=>by
  show bindL kindOf ((p,w)::P.zip vs) m x=_;unfold bindL;exact oZ (i:=i) (PN.mp nd).2 (by simpa using h1) (by simpa using h2) hk
theorem pd{kindOf:Str->Option NameKind}{x:Str}{v:Value}:∀{P:List Str}{vs:List Value}{i:Nat}{m:Str->Option Value},P.Nodup->P[i]?=some x->vs[i]?=some v->kindOf x≠some .local ->
  bindC kindOf (P.zip vs) m x=some v
 |[],_,_,_,_,h,_,_=>by simp at h
 |_::_,[],_,_,_,_,h,_=>by simp at h
 |p::P,w::vs,0,m,nd,h1,h2,hk=>by
  simp at h1 h2;subst h1;subst h2;show bindC kindOf ((p,w)::P.zip vs) m p=_;unfold bindC;rw[uD fun v hv=>(PN.mp nd).1 (PQ hv).1,OT hk];simp
 |p::P,w::vs,i+1,m,nd,h1,h2,hk=>by
  show bindC kindOf ((p,w)::P.zip vs) m x=_;unfold bindC;exact pd (i:=i) (PN.mp nd).2 (by simpa using h1) (by simpa using h2) hk
def start(N:List Str)(vs:List V):St:=vs.map some++List.replicate (N.length-vs.length) none
def qO(CX:vT)(P:Program)(w:World)(K:W.Frag)(mg:Str->Option Value)(base:Heap)(N:List Str)(qual:Str)(scope:Scope)(f:Addr)(cd:Value)(A:Around)(outer:List Env)(s:Shared)(H:Hp)(E:XK):Cx where
 prog:=P
 w:=w
 K:=K
 mg:=mg
 base:=base
 A:=A.deeper (envOfC qual scope s.heap.objs.size f cd)
 N:=N
 s₀:=s
 H₀:=H
 env:=envOfC qual scope s.heap.objs.size f cd
 outer:=outer
 stack:=envOfC qual scope s.heap.objs.size f cd::outer
 ex:=[]
 calm:=true
 fn:=fun _=>true
 pn:=[]
 xe:=fun e s'=>wpAny (model P w) (A.deeper (envOfC qual scope s.heap.objs.size f cd)) (leaving (envOfC qual scope s.heap.objs.size f cd) e) (fun _ s''=>CX outer H s E e s'') (fun e' s''=>CX outer H s E e' s'') s'
theorem nT(h:sc.names.lookup x=some .cell):∃c,(cellsFrom n sc.names []).lookup x=some c:=by
 have q:=W.cellsFrom_some sc.names n [] (.inl h);exact PR.mp q
theorem BK{CX:vT}{w:World}{ps:List Str}{cd:Value}{s1:Shared}{E:XK}(S:aV N ps scope)(hd:A.handled=none)(e0:AW P w K mg base A outer s H)(hl:vs.length=ps.length)(r:bp vs us)(x:InCallC s s.heap.objs.size (bindL (envOfC qual scope s.heap.objs.size f cd).kindOf (ps.zip us) fun _=>none) (cellsFrom (s.heap.objs.size+1) scope.names []) (bindC (envOfC qual scope s.heap.objs.size f cd).kindOf (ps.zip us) fun _=>none) s1):
  aZ (qO CX P w K mg base N qual scope f cd A outer s H E) [] (start N vs) H s1:=by
 have hpl:ps.length<=N.length:=by have:=Ph List.length S.pre;rw[PU]at this;omega
 obtain⟨h1,tk,rfl,hk⟩:=x.done;have noA:∀b:Addr,b∉(qO CX P w K mg base N qual scope f cd A outer s H E).ex:=fun b z=>absurd (show b∈([]:List Addr) from z) (by simp)
 refine⟨⟨e0.mod,S.kind,rfl,rfl,Pv _,fun y z c h1 h2=>?_,fun y hy=>?_,fun y c _ h=>?_,fun _=>hd,Around.frames_deeper e0.frames,.inr ⟨rfl,rfl⟩,fun b z=>absurd z (noA b),e0.bs,e0.bsz,fun b _ _=>noA b,fun b z=>absurd z (noA b),e0.funs,e0.frf⟩,
  rfl,e0.bare,Un.kept hk,⟨_,x.toInCall.ns,fun i y v h1 h2 h3=>?_⟩,fun y c h=>⟨_,x.cell y c h⟩,e0.hok.fresh (Pv _),fun y c h=>?_,fun p hp=>absurd (show p∈([]:List (Addr×Obj)) from hp) (by simp),e0.hok.kept hk,?_⟩
 ·exact name_of_addr x.apart (PV h1) (PV h2)
 ·have hy : scope.names.lookup y = some .cell \/ scope.names.lookup y = some .free := hy;rcases hy with hy|hy
  ·exact nT hy
  ·exact absurd rfl (S.nofree _ (PV hy))
 ·exact O1 (x.above y c (PV h))
 ·have hi:i<vs.length:=by
   unfold start at h2;by_cases hi:i<vs.length
   ·exact hi
   ·rw[PX (by simpa using hi)]at h2;rw[PY]at h2;split at h2 <;> cases h2
  have ha:vs[i]?=some v:=by
   unfold start at h2;rw[PZ (by simpa using hi),P0]at h2;cases e:vs[i]? with
   |none=>rw[e]at h2;cases h2
   |some a=>rw[e]at h2;cases h2;rfl
  obtain⟨u,hu,rv⟩:=r.get ha
  have hp:ps[i]?=some y:=by
   rw[<- S.pre,Qa (by omega)];exact h1
  have ndP:ps.Nodup:=by rw[<- S.pre];exact S.nd.sublist (List.take_sublist _ _)
  refine⟨u,rv,?_⟩;rcases S.par y (Qb hp) with k|k
  ·exact .inl ⟨k,oZ ndP hp hu k⟩
  ·obtain⟨c,e⟩:=nT (n:=s.heap.objs.size+1) k;refine .inr ⟨.inl k,c,e,?_⟩;have q:=x.cell y c e;rw[pd ndP hp hu (by show scope.names.lookup y≠_;rw[k];decide)]at q;exact q
 ·exact e0.hok.fresh (O1 (x.above y c (PV h)))
 ·unfold start;show _=N.length;rw[Qc,Qd,Qe];omega
theorem HP{CX:vT}{w:World}{k:Nat}{name:Str}{dV kV doc pm ct oc:Value}{od:Option Addr}{ps:List Str}{sp:Sp}(lk:K.lookup f=some ⟨oc,od,.func (W.fnOf name qual params body scope dV kV doc pm an cdv ct),osl⟩)(hcd:W.codeIn K cdv qual=true)(S:aV N ps scope)(len:∀vs H Q E,sp vs H Q E->vs.length=ps.length)(hbody : ∀ (A : Around) (outer : List Env) (s : Shared) (H : Hp) (vs : List V) (Q : VK) (E : XK), gv k (A.deeper (envOfC qual scope s.heap.objs.size f cdv)) -> sp vs H Q E ->
   ∃t,j9 (qO CX P w K mg base N qual scope f cdv A outer s H E) body t/\t {nx:=fun _ H'=>Q .non H',rt:=Q} (start N vs) H):
  qR P w K mg base CX (k+1) f (W.fnOf name qual params body scope dV kV doc pm an cdv ct) ps sp:=by
 refine⟨len,fun A outer s H args us vs Q E hr e0 hb r hsp=>?_⟩;have hl:=len _ _ _ _ hsp;have KX:K.In s.heap:=e0.mod.kin.keeps fun b o e=>(e0.bs b o e).1;have lim:s.heap.NoLimit:=e0.mod.nolimit.keeps fun b o e=>(e0.bs b o e).1
 have hkind:∀y∈ps.zip us,scope.names.lookup y.1=some .local\/(scope.names.lookup y.1=some .cell/\((cellsFrom (s.heap.objs.size+1) scope.names []).lookup y.1).isSome=true):=fun⟨n,v⟩ hy=>by
  rcases S.par n (PQ hy).1 with q|q
  ·exact .inl q
  ·exact .inr ⟨q,W.cellsFrom_some _ _ _ (.inl q)⟩
 refine codeAny_call_function hr.depth (KX _ _ lk) rfl S.co S.gen rfl (W.codeRec_of KX hcd) (hb _ _ _ _ ?_);refine wpAny_newFunctionEnv_cells S.kind hkind fun env he s1 x=>?_;subst he;refine⟨lim.keeps x.toInCall.keep,codeAny_func ?_⟩;obtain⟨t,ht,hq⟩:=hbody A outer s H vs Q E (hr.deeper _) hsp;have I:aZ (qO CX P w K mg base N qual scope f cdv A outer s H E) [] (start N vs) H s1:=BK S hr.hd e0 hl r x;refine Pe (ht [] s1 (start N vs) H _ I hq) (fun fl s' hs=>?_) fun e s' hs=>hs
 have fin:∀{B':St}{H':Hp}{v:V}{u:Value},aZ (qO CX P w K mg base N qual scope f cdv A outer s H E) [] B' H' s'->cx v u->Q v H'->CE outer P w H s Q u s':=
  fun {B' H' v u} J rv q=>⟨v,H',J.os,J.bare,J.base,J.hok,rv,q⟩
 cases fl with
 |ret u=>
  obtain⟨v,B',H',J,rv,q⟩:=hs;exact fin J rv q
 |next=>
  obtain⟨B',H',J,q⟩:=hs;exact fin (v:=V.non) (u:=Value.none) J rfl q
 |brk=>
  obtain⟨_,_,_,q⟩:=hs;exact False.elim q
 |cont=>
  obtain⟨_,_,_,q⟩:=hs;exact False.elim q
end L2
variable{CX:L2.vT}{sp:L2.Sp}
namespace L2
open PySem PySem.Spec PyProof.Rows
section
variable{X:Cx}{p:Pos}{es:List Expr}{t:TA}{id T:String}{r:List V->Hp->VK->Prop}
def Oo(r:List V->Hp->VK->Prop)(t:TA):TE:=fun B H Q=>t B H fun vs H1=>r vs H1 Q
theorem nP (hc:cY X (.builtin id) r) (hg:Gl X x) (hm:X.mg x=none) (hv:bootBuiltins x=some (.builtin id)) (ha:PA X (e::es) t) (hn:x ≠ "__name__" := by decide) (hdb:(x == ("__debug__" : Str))=false:=by decide)
  (he:starEach (e::es) X.env=(false,eval e X.env)::starEach es X.env:=by rfl) (hpl:(backTo pos (starEach es X.env)).any (·.1)=false:=by rfl):PE X (.Call (.Name x p) (e::es) [] pos) (Oo r t):=by
 intro pins s B H Q I h;refine PM (oG I hg hm hv ?_ hn hdb);exact PyProof.Rows.callWith_builtin1 (d8 (ha pos pins s B H _ I h) fun us s1 ⟨vs,H1,I1,r1,q1⟩=>hc pins s1 B H1 vs us Q I1 r1 q1) he hpl
theorem Bt (hc:cY X (.type T) r) (hg:Gl X x) (hm:X.mg x=none) (hv:bootBuiltins x=some (.type T)) (ha:PA X (e::es) t) (hn:x ≠ "__name__" := by decide) (hdb:(x == ("__debug__" : Str))=false:=by decide)
  (he:starEach (e::es) X.env=(false,eval e X.env)::starEach es X.env:=by rfl) (hpl:(backTo pos (starEach es X.env)).any (·.1)=false:=by rfl):PE X (.Call (.Name x p) (e::es) [] pos) (Oo r t):=by
 intro pins s B H Q I h;refine PM (oG I hg hm hv ?_ hn hdb);exact Pw (d8 (ha pos pins s B H _ I h) fun us s1 ⟨vs,H1,I1,r1,q1⟩=>hc pins s1 B H1 vs us Q I1 r1 q1) he hpl
end
end L2
namespace HT
open PySem PyProof.Rows
section
variable{w:World}
theorem cat_tup{t:Addr}{vs ws:List Value}(ht:IsTup s.heap t vs.toArray)(hb:IsTup s.heap b ws.toArray)(hv:vs≠[])(h1:ws=[]->Q (.ref t) s)(h2:ws≠[]->Q (.ref s.heap.objs.size) {s with heap:=s.heap.push {cls:=.type "tuple",data:=.seq (vs++ws).toArray}})(hsz:vs.length+ws.length<=sizeLine):wpAny (model prog w) A (binaryOp .Add (.ref t) (.ref b)) Q E s:=by
 obtain⟨⟨cls,dd,data,sl⟩,ho,hc,n,hd⟩:=id ht;obtain⟨⟨cls2,dd2,data2,sl2⟩,ho2,hc2,n2,hd2⟩:=id hb;simp only at hc hd hc2 hd2;subst hc hd hc2 hd2;have e:vs.toArray++ws.toArray=(vs++ws).toArray:=by simp
 by_cases hw:ws=[]
 ·exact concat_meets ⟨_,ho,rfl⟩ ⟨_,ho2,rfl⟩ Qf seq_tuple_add Qg Qh (Qi _ _)
   (tuple_addW1 t b vs.toArray ws.toArray n n2 dd dd2 sl sl2 (by simpa using hv) (by simp[hw])) ⟨ho,ho2,h1 hw⟩
 ·refine concat_meets ⟨_,ho,rfl⟩ ⟨_,ho2,rfl⟩ Qf seq_tuple_add Qg Qh (Qi _ _)
   (tuple_addW2 t b vs.toArray ws.toArray n n2 dd dd2 sl sl2 (by simpa using hv) (by simpa using hw) (by rw[PH,PH];exact hsz)) ⟨ho,ho2,?_⟩
  rw[e];exact h2 hw
def sIx(n d:Nat):Option Int->Nat
 |none=>d
 |some v=>if v<0 then (v+(n:Int)).toNat else min v.toNat n
theorem sIx_none(n d:Nat):sIx n d none=d:=rfl
theorem sIx_nat(n d k:Nat):sIx n d (some (k:Int))=min k n:=by
 show (if (k:Int)<0 then ((k:Int)+(n:Int)).toNat else min (k:Int).toNat n)=min k n;rw[OT (by omega),Qj]
theorem Jr(n d:Nat)(hd:d<=n)(o:Option Int):sIx n d o<=n:=by
 cases o with
 |none=>exact hd
 |some v=>
  show (if v<0 then (v+(n:Int)).toNat else min v.toNat n)<=n;by_cases hv:v<0
  ·rw[OS hv];omega
  ·rw[OT hv];exact Qk _ _
theorem AB(v:Int)(n d:Nat):(if v<0 then max (v+(n:Int)) 0 else min v (n:Int))=((sIx n d (some v):Nat):Int):=by
 show (if v<0 then max (v+(n:Int)) 0 else min v (n:Int))=(((if v<0 then (v+(n:Int)).toNat else min v.toNat n):Nat):Int);by_cases hv:v<0
 ·simp only[OS hv];omega
 ·simp only[OT hv];omega
theorem zA(lo hi:Option Int)(n:Nat):Builtin.Slice.sliceAdjust lo hi 1 (n:Int)=(((sIx n 0 lo:Nat):Int),((sIx n n hi:Nat):Int)):=by
 have h1:¬ ((1:Int)<0):=by omega
 unfold Builtin.Slice.sliceAdjust;simp only[h1,Ql];refine Prod.ext ?_ ?_
 ·cases lo with
  |none=>rfl
  |some v=>exact AB v n 0
 ·cases hi with
  |none=>rfl
  |some v=>exact AB v n n
theorem y3(i j:Nat):Builtin.Slice.slicePlaces (i:Int) (j:Int) 1=j-i:=by
 unfold Builtin.Slice.slicePlaces;have h1:(1:Int)>0:=by omega
 simp only[h1,Qm,Int.ediv_one];split <;> omega
theorem sj{v:Value}{o:Option Int}{Q:Option Int->Shared->Prop}(p:IsPart v o)(h:Q o s):wpAny (model prog w) A (Builtin.Slice.slicePartIndex v) Q E s:=by
 cases p with
 |none=>exact Qn h
 |int i t=>exact slicePart_int h
theorem sliceApplied_gen{vu:Value}{hi:Option Int}{Q:Int×Int×Nat->Shared->Prop}(hs:s.heap.IsSliceOf sl vl vu .none)(pl:IsPart vl lo)(pu:IsPart vu hi)(h:Q (((sIx n 0 lo:Nat):Int),1,sIx n n hi-sIx n 0 lo) s):wpAny (model prog w) A (Builtin.Slice.sliceApplied (.ref sl) (pure (n:Int))) Q E s:=by
 obtain⟨os,hos,hcs,hds⟩:=id hs;unfold Builtin.Slice.sliceApplied Builtin.Slice.sliceFields;refine Pj (Pj (Qo hos hds (x:=vl) rfl (Pj (Qo hos hds (x:=vu) rfl (Pj (Qo hos hds (x:=.none) rfl (Pp ?_)))))));refine Pj (Qn ?_);show wpAny _ _ (if ((1:Int) == 0)=true then _ else _) _ _ s;rw[OT (by decide)];refine Pj (sj pl (Pj (sj pu (Pj (Pp ?_)))));show wpAny _ _ (match Builtin.Slice.sliceAdjust lo hi 1 (n:Int) with|(lo,hi)=>pure (lo,(1:Int),Builtin.Slice.slicePlaces lo hi 1)) _ _ s;rw[zA lo hi n];show wpAny _ _ (pure (((sIx n 0 lo:Nat):Int),(1:Int),Builtin.Slice.slicePlaces ((sIx n 0 lo:Nat):Int) ((sIx n n hi:Nat):Int) 1)) _ _ s;rw[y3];exact Pp h
theorem D3(xs:Array Value)(i k:Nat):((List.range k).filterMap fun(m:Nat)=>xs[((i:Int)+(m:Int)*1).toNat]?).toArray=((xs.toList.drop i).take k).toArray:=by
 have e:(fun(m:Nat)=>xs[((i:Int)+(m:Int)*1).toNat]?)=fun m=>xs[i+m]?:=by
  funext m;have:((i:Int)+(m:Int)*1).toNat=i+m:=by omega
  rw[this]
 rw[e];have:=pick_run xs i k;rw[Qp]at this;have e2:((fun x=>xs[x]?) ∘ fun x=>i+x)=fun m=>xs[i+m]?:=rfl;rw[e2]at this;rw[this]
theorem getItem_tuple_cut{t:Addr}{items:Array Value}{vu:Value}{hi:Option Int}(ht:IsTup s.heap t items)(hs:s.heap.IsSliceOf sl vl vu .none)(pl:IsPart vl lo)(pu:IsPart vu hi)(hw:¬ (sIx items.size 0 lo=0/\sIx items.size items.size hi=items.size))(h:Q (.ref s.heap.objs.size) {s with heap:=s.heap.push {cls:=.type "tuple",data:=.seq ((items.toList.drop (sIx items.size 0 lo)).take (sIx items.size items.size hi-sIx items.size 0 lo)).toArray}})(hsz:items.size<=sizeLine):wpAny (model prog w) A (getItem (.ref t) (.ref sl)) Q E s:=by
 have htake:sizeOk (.seq ((items.toList.drop (sIx items.size 0 lo)).take (sIx items.size items.size hi-sIx items.size 0 lo)).toArray):=by
  show ((items.toList.drop (sIx items.size 0 lo)).take (sIx items.size items.size hi-sIx items.size 0 lo)).toArray.size<=sizeLine;rw[PH,PU,Qq,Pg];omega
 have hj:sIx items.size items.size hi<=items.size:=Jr _ _ (Pv _) hi;obtain⟨os,hos,hcs,hds⟩:=id hs;have hTs:s.TypeIs (.ref sl) "slice" := ⟨os,hos,hcs⟩;unfold getItem
 try with_reducible refine Pl ?_
 first|refine Pj (Pp ?_)|skip
 refine Pj (Qr ht.typeIs (by decide) ?_)
 refine Pj (Qs (name:=Str.ofString "__getitem__") ht.typeIs Qt
  (Qu Qt ht.typeIs Qv ?_ (Qw _ _)))
 show wpAny _ _ (Builtin.Tuple.tupleItemsOf (.ref t) >>= _) _ _ s;refine Pj (tupleItemsOf_ ht ?_);refine Pj (Qx hTs ?_);rw[OS (by decide)];refine Pj (sliceApplied_gen hs pl pu ?_)
 have hno:¬ ((((sIx items.size 0 lo:Nat):Int) == 0&&(1:Int) == 1&&(sIx items.size items.size hi-sIx items.size 0 lo) == items.size)=true):=by
  intro q;rw[Qy,Qy]at q;have q1:((sIx items.size 0 lo:Nat):Int)=0:=eq_of_beq q.1.1;have q2:sIx items.size items.size hi-sIx items.size 0 lo=items.size:=eq_of_beq q.2;exact hw ⟨by omega,by omega⟩
 show wpAny _ _ (if (((sIx items.size 0 lo:Nat):Int) == 0&&(1:Int) == 1&&(sIx items.size items.size hi-sIx items.size 0 lo) == items.size)=true then _ else _) _ _ s;rw[OT hno,D3]
 first
  |exact Pj (m:=Builtin.Tuple.tupleExact _) (QA (Pp ⟨_,rfl,Pp h⟩) htake)
  |exact Pj (m:=Builtin.Tuple.tupleExact _) (QA (Pj (Pp (Pp ⟨_,rfl,Pp h⟩))) htake)
  |exact Pj (Pj (m:=Builtin.Tuple.tupleExact _) (QA (Pp (Pp ⟨_,rfl,Pp h⟩)) htake))
  |exact Pj (Pj (m:=Builtin.Tuple.tupleExact _) (QA (Pp ⟨_,rfl,Pp h⟩) htake))
end
end HT
namespace L2
open PySem PySem.Spec PyProof.Rows
abbrev TO:=St->Hp->(Option Int->Hp->Prop)->Prop
def PO(X:Cx)(e:Option Expr)(t:TO):Prop:=
 ∀(pins:List (Addr×Obj))(s:Shared)(B:St)(H:Hp)(Q:Option Int->Hp->Prop),aZ X pins B H s->t B H Q ->
  wpAny (model X.prog X.w) X.A (evalPart e X.env) (fun u s'=>∃o H',aZ X pins B H' s'/\IsPart u o/\Q o H') X.xe s
def FA:TO:=fun _ H Q=>Q none H
def LV(t:TE):TO:=fun B H Q=>t B H fun x H1=>∃i,x=.int i/\Q (some i) H1
theorem g9:∀{us:List Value},bp (ns.map V.int) us->IntsAre us ns:=by
 induction ns with
 |nil=>intro us r;rw[QB]at r;cases r;exact .nil
 |cons n ns ih=>
  intro us r;rw[QC]at r;cases r with
  |cons r1 r2=>
   obtain⟨t,e⟩:=r1;subst e;exact .cons n t (ih r2)
section
variable{X:Cx}{lo hi:Option Expr}{tl th:TO}{p2:Pos}
theorem Gd:PO X none FA:=by
 intro pins s B H Q I h;rw[evalPart_none];exact Pp ⟨none,H,I,.none,h⟩
theorem Gc(h:PE X e te):PO X (some e) (LV te):=by
 intro pins s B H Q I hw;rw[evalPart_some];refine d8 (h pins s B H _ I hw) fun u s1 ⟨x,H1,I1,r1,q1⟩=>?_;obtain⟨i,rfl,q⟩:=q1;obtain⟨t,rfl⟩:=r1;exact⟨some i,H1,I1,.int i t,q⟩
def EZ(X:Cx)(r:V->Option Int->Option Int->Hp->VK->Prop):Prop:=
 ∀(pins:List (Addr×Obj))(s:Shared)(B:St)(H:Hp)(x:V)(v vl vu:Value)(lo hi:Option Int)(sl:Addr)(Q:VK),aZ X pins B H s->cx x v->s.heap.IsSliceOf sl vl vu .none->IsPart vl lo->IsPart vu hi->r x lo hi H Q ->
  ∃T id,typeLookup (.type T) "__getitem__" = pure (some (.builtin id))/\s.TypeIs v T/\wpAny (model X.prog X.w) X.A (getItem v (.ref sl)) (EP X pins B Q) X.xe s
theorem EZ.or{r':V->Option Int->Option Int->Hp->VK->Prop}(h:EZ X r)(h':EZ X r'):EZ X (fun x lo hi H Q=>r x lo hi H Q\/r' x lo hi H Q):=by
 intro pins s B H x v vl vu lo hi sl Q I rx hs pl pu q;rcases q with q|q
 ·exact h pins s B H x v vl vu lo hi sl Q I rx hs pl pu q
 ·exact h' pins s B H x v vl vu lo hi sl Q I rx hs pl pu q
def OC(r:V->Option Int->Option Int->Hp->VK->Prop)(te:TE)(tl th:TO):TE:=fun B H Q=>te B H fun x H1=>tl B H1 fun l H2=>th B H2 fun u H3=>r x l u H3 Q
theorem D5(hr:EZ X r)(he:PE X e te)(hl:PO X lo tl)(hu:PO X hi th):PE X (.Subscript e (.Slice lo hi none p2) pos) (OC r te tl th):=by
 intro pins s B H Q I h;refine Subscript_ (d8 (he pins s B H _ I h) fun v s1 ⟨x,H1,I1,r1,q1⟩=>?_);refine wpAny_Slice (d8 (hl pins s1 B H1 _ I1 q1) fun vl s2 ⟨l,H2,I2,pl,q2⟩=>d8 (hu pins s2 B H2 _ I2 q2) fun vu s3 ⟨u,H3,I3,pu,q3⟩=>?_);rw[evalPart_none];refine Pp ?_;have I4:aZ X pins B H3 {s3 with heap:=s3.heap.push {cls:=.type "slice",data:=.fields #[vl,vu,.none]}}:=I3.kept (t':=s3.toks) fun b ob q=>Pt _ q;obtain⟨T,id,hT,ht,hg⟩:=hr pins {s3 with heap:=s3.heap.push {cls:=.type "slice",data:=.fields #[vl,vu,.none]}} B H3 x v vl vu l u s3.heap.objs.size Q I4 r1 (QD ..) pl pu q3;show wpAny (model X.prog X.w) X.A (subscriptTail e (.Slice lo hi none p2) v (.ref s3.heap.objs.size)) (EP X pins B Q) X.xe {s3 with heap:=s3.heap.push {cls:=.type "slice",data:=.fields #[vl,vu,.none]}};exact tail_any (ops:=[.ref s3.heap.objs.size,v]) ht hT hg (by with_unfolding_all rfl)
def v7(xs:List V)(lo hi:Option Int):List V:=(xs.drop (HT.sIx xs.length 0 lo)).take (HT.sIx xs.length xs.length hi-HT.sIx xs.length 0 lo)
theorem pR(xs:List V)(lo hi:Option Int):(v7 xs lo hi).length<=xs.length:=by
 unfold v7;rw[PU,Qq];omega
def Lq(K:W.Frag):V->Option Int->Option Int->Hp->VK->Prop:=fun x lo hi H Q=>∃a xs,x=.ref a/\gr K H a xs /\
 ¬ (HT.sIx xs.length 0 lo=0/\HT.sIx xs.length xs.length hi=xs.length)/\∀p,H p=none->Q (.ref p) (dk H p (.tup (v7 xs lo hi)))
theorem Jb:EZ X (Lq X.K):=by
 intro pins s B H x v vl vu lo hi sl Q I rx hs pl pu h;obtain⟨a,xs,rfl,hx,hw,q⟩:=h;cases rx;obtain⟨its,r,ht,hz⟩:=I.tuple hx;have hlen:its.toArray.size=xs.length:=by rw[PH];exact r.length.symm
 refine⟨"tuple",_,Qt.lookup,ht.typeIs,?_⟩;refine HT.getItem_tuple_cut ht hs pl pu (by rw[hlen];exact hw) ?_ (by rw[hlen];exact hz);rw[hlen];refine⟨.ref s.heap.objs.size,_,I.laid (t':=s.toks) (o:=.tup (v7 xs lo hi)) (fun b ob q=>Pt _ q) (Pv _) ?_,rfl,q _ (I.hok.fresh (Pv _))⟩;exact⟨O0 (pR xs lo hi) hz,_,(r.drop (HT.sIx xs.length 0 lo)).take (HT.sIx xs.length xs.length hi-HT.sIx xs.length 0 lo),IsTup.new _ _⟩
def Me(K:W.Frag):R2:=fun x y H Q=>∃a b xs ys,x=.ref a/\y=.ref b/\gr K H a xs/\gr K H b ys/\xs≠[]/\xs.length+ys.length<=sizeLine /\
 (ys=[]->Q (.ref a) H)/\(ys≠[]->∀p,H p=none->Q (.ref p) (dk H p (.tup (xs++ys))))
theorem bp.nil_iff{xs:List V}(r:bp xs us):us=[]↔xs=[]:=by
 cases r with
 |nil=>simp
 |cons _ _=>simp
theorem Gu:iJ X (binaryOp .Add) (Me X.K):=by
 intro pins s B H x y v u Q I rx ry h;obtain⟨a,b,xs,ys,rfl,rfl,ha,hb,hx,hz,q1,q2⟩:=h;cases rx;cases ry;obtain⟨its,r1,p1,_⟩:=I.tuple ha;obtain⟨its2,r2,p2,_⟩:=I.tuple hb;refine HT.cat_tup p1 p2 (fun z=>hx (r1.nil_iff.mp z)) (fun z=>⟨.ref a,H,I,rfl,q1 (r2.nil_iff.mp z)⟩) (fun z=>?_) (by rw[<- r1.length,<- r2.length];exact hz);refine⟨.ref s.heap.objs.size,_,I.laid (t':=s.toks) (o:=.tup (xs++ys)) (fun b ob q=>Pt _ q) (Pv _) ?_,rfl,q2 (fun w=>z (r2.nil_iff.mpr w)) _ (I.hok.fresh (Pv _))⟩;exact⟨by rw[Qc];exact hz,_,r1.append r2,IsTup.new _ _⟩
end
def AH(n:Nat)(i:Int):Option Nat:=if 0<=i then (if i<n then some i.toNat else none) else if -(n:Int)<=i then some (i+n).toNat else none
def atI{Z:Type}(xs:List Z)(i:Int):Option Z:=(AH xs.length i).bind fun j=>xs[j]?
theorem Aq{i:Int}(h:AH n i=some j):seqIndex? i n=some j/\j<n/\-(n:Int)<=i/\i<n:=by
 unfold AH at h;by_cases h0:0<=i
 ·rw [OS h0] at h;by_cases h1:i<n
  ·rw[OS h1]at h;have e:i.toNat=j:=ON h;exact⟨by rw[seqIndex_of h0 h1,e],by omega,by omega,h1⟩
  ·rw[OT h1]at h;cases h
 ·rw [OT h0] at h;by_cases h1:-(n:Int)<=i
  ·rw[OS h1]at h;have e:(i+n).toNat=j:=ON h;exact⟨by rw[seqIndex_neg (by omega) h1,e],by omega,h1,by omega⟩
  ·rw[OT h1]at h;cases h
theorem vq{Z:Type}{xs:List Z}{i:Int}{v:Z}(h:atI xs i=some v):∃j,seqIndex? i xs.length=some j/\xs[j]?=some v/\j<xs.length/\-(xs.length:Int)<=i/\i<xs.length:=by
 unfold atI at h;cases e:AH xs.length i with
 |none=>rw[e]at h;cases h
 |some j=>
  rw[e]at h;obtain⟨h1,h2,h3,h4⟩:=Aq e;exact⟨j,h1,h,h2,h3,h4⟩
theorem l9{Z:Type}{xs:List Z}{v:Z}(h:xs[j]?=some v):atI xs (j:Int)=some v:=by
 have hj:j<xs.length:=(O9.mp h).1
 have e:AH xs.length (j:Int)=some j:=by
  unfold AH;rw[OS (by omega),OS (by omega)];simp
 unfold atI;rw[e];exact h
def vt(b:Expr):Prop:=∀o i,subscripted b false o i=operate [o,i] (getItem o i)
def E2(X:Cx)(r:R2):Prop:=
 ∀(value slice:Expr)(pins:List (Addr×Obj))(s:Shared)(B:St)(H:Hp)(x y:V)(v u:Value)(Q:VK),aZ X pins B H s->cx x v->cx y u->r x y H Q ->
  subscripted slice false v u=operate [v,u] (getItem v u)->wpAny (model X.prog X.w) X.A (subscriptTail value slice v u) (EP X pins B Q) X.xe s
def Ou(X:Cx)(id:String)(r:V->List V->Hp->VK->Prop):Prop:=
 ∀(pins:List (Addr×Obj))(s:Shared)(B:St)(H:Hp)(x:V)(xs:List V)(v:Value)(us:List Value)(Q:VK),aZ X pins B H s->cx x v->bp xs us->r x xs H Q ->
  wpAny (model X.prog X.w) X.A (call (.builtin id) (v::us)) (EP X pins B Q) X.xe s
section
variable{X:Cx}{a b:Expr}{tb:TE}
theorem E2.or{r r':R2}(h:E2 X r)(h':E2 X r'):E2 X (fun x y H Q=>r x y H Q\/r' x y H Q):=by
 intro value slice pins s B H x y v u Q I rx ry q hs;rcases q with q|q
 ·exact h value slice pins s B H x y v u Q I rx ry q hs
 ·exact h' value slice pins s B H x y v u Q I rx ry q hs
theorem Ml{r:R2}(hr:E2 X r)(ha:PE X a ta)(hb:PE X b tb)(hs:vt b):PE X (.Subscript a b pos) (MZ r ta tb):=by
 intro pins s B H Q I h;exact Subscript_ (Ip ha hb I h fun v u s2 x y H2 I2 rx ry q=>hr a b pins s2 B H2 x y v u Q I2 rx ry q (hs _ _))
def LA(K:W.Frag):R2:=fun x y H Q=>∃p xs i v,x=.ref p/\y=.int i/\fK K H p xs/\atI xs i=some v/\Q v H
def Ly(K:W.Frag):R2:=fun x y H Q=>∃p xs i v,x=.ref p/\y=.int i/\gr K H p xs/\atI xs i=some v/\Q v H
def Lz:R2:=fun x y H Q=>∃z i c,x=.str z/\y=.int i/\z.length<=sizeLine/\atI z.cps.toList i=some c/\Q (.str ⟨#[c]⟩) H
theorem GQ:E2 X (LA X.K):=by
 intro value slice pins s B H x y v u Q I rx ry h hs;obtain⟨p,xs,i,z,rfl,rfl,hq,he,q⟩:=h;cases rx;obtain⟨t,rfl⟩:=ry;obtain⟨its,r,pl,hz⟩:=I.list hq;obtain⟨j,h1,h2,h3,h4,h5⟩:=vq he;obtain⟨w,ew,rw'⟩:=r.get h2;have hl:=r.length;have hn:=oF;have fin:EP X pins B Q w s:=⟨z,H,I,rw',q⟩;by_cases h0:0<=i
 ·have hj:i.toNat=j:=by
   rw[seqIndex_of h0 h5]at h1;exact ON h1
  exact item_listR pl.isList h0 (by omega) (by rw[hj];simpa using ew) fin hs
 ·have hj:(i+(its.toArray.size:Int)).toNat=j:=by
   rw[seqIndex_neg (by omega) h4]at h1;rw[PH,<- hl];exact ON h1
  exact subscriptTail_builtinR (x:=w) pl.isList.typeIs QE.lookup
   (wpAny_getItem_list_neg (Q:=fun r s'=>r=w/\EP X pins B Q r s') pl.isList (by omega) (by rw[PH] <;> omega) (by omega) (by rw[hj];simpa using ew) ⟨rfl,fin⟩) hs
theorem Ky:E2 X (Ly X.K):=by
 intro value slice pins s B H x y v u Q I rx ry h hs;obtain⟨p,xs,i,z,rfl,rfl,hq,he,q⟩:=h;cases rx;obtain⟨t,rfl⟩:=ry;obtain⟨its,r,pl,hz⟩:=I.tuple hq;obtain⟨j,h1,h2,h3,h4,h5⟩:=vq he;obtain⟨w,ew,rw'⟩:=r.get h2;have hl:=r.length;have hn:=oF;have fin:EP X pins B Q w s:=⟨z,H,I,rw',q⟩
 exact subscriptTail_builtinR (x:=w) pl.typeIs slot_tuple_getitem.lookup
  (getItem_tuple (j:=j) (Q:=fun r s'=>r=w/\EP X pins B Q r s') pl (by omega) (by omega) (by rw[PH,<- hl];exact h1) (by simpa using ew) ⟨rfl,fin⟩) hs
theorem KA:E2 X Lz:=by
 intro value slice pins s B H x y v u Q I rx ry h hs;obtain⟨z,i,c,rfl,rfl,hz,he,q⟩:=h;obtain⟨t,rfl⟩:=rx;obtain⟨t',rfl⟩:=ry;obtain⟨j,h1,h2,h3,h4,h5⟩:=vq he;have hl:z.cps.toList.length=z.length:=by simp[Str.length]
 rw[hl]at h1 h4 h5;have hn:=oF
 exact tail_any (typeIs_str s z t) slot_str_getitem.lookup (getItem_str (c:=c) (by
  have e1:decide (i < -(2^63:Int))=false:=OP (by omega);have e2:decide (i ≥ 2^63)=false:=OP (by omega)
  rw[e1,e2,Bool.or_false]) (by rw[h1];simpa using h2) ⟨.str ⟨#[c]⟩,H,I.tok _,⟨_,rfl⟩,q⟩) hs
def Oq(K:W.Frag):R2:=fun x y H Q=>LA K x y H Q\/Ly K x y H Q\/Lz x y H Q
theorem KB:E2 X (Oq X.K):=GQ.or (Ky.or KA)
theorem zg (its:List Value) (n j:Nat) (u:Value):Obj.mapSeq (·.setIfInBounds j u) {cls:=.type "list",data:=.seq its.toArray n}={cls:=.type "list",data:=.seq (its.set j u).toArray n}:=by
 simp[Obj.mapSeq]
theorem aZ.lst{p:Addr}{xs:List V}(I:aZ X pins B H s)(h:H p=some (.lst xs)):
  ∃(its:List Value) (n:Nat),bp xs its/\s.heap.get? p=some {cls:=.type "list",data:=.seq its.toArray n}/\xs.length<=sizeLine:=by
 obtain⟨z,its,n,r,e⟩:=I.hok p _ h;exact⟨its,n,r,e,z⟩
theorem aZ.lstUpd{p:Addr}{xs ys:List V}{its':List Value}{n':Nat}{f:Obj->Obj}(I:aZ X pins B H s)(h:H p=some (.lst xs))(ho:s.heap.get? p=some {cls:=.type "list",data:=.seq its.toArray n})(hf:f {cls:=.type "list",data:=.seq its.toArray n}={cls:=.type "list",data:=.seq its'.toArray n'})(r:bp ys its')(hz:ys.length<=sizeLine)(t:Nat):
  aZ X pins B (dk H p (.lst ys)) {s with heap:=s.heap.update p f,toks:=t}:=by
 have e:(s.heap.update p f).get? p=some {cls:=.type "list",data:=.seq its'.toArray n'}:=by
  rw[QF f ho (by rw[hf] <;> rfl),hf]
 refine I.write (x:=p) (e:=p) (by rw[h];trivial) (.inl rfl) (fun b u hb q=>(Heap.get?_update_other _ _ (O6 hb)).trans q) ⟨_,e⟩ ?_;exact⟨hz,its',n',r,e⟩
def HA:V->V->V->Hp->(Hp->Prop)->Prop:=fun o i v H Q=>∃p xs k j,o=.ref p/\i=.int k/\H p=some (.lst xs)/\AH xs.length k=some j/\Q (dk H p (.lst (xs.set j v)))
theorem DM:LL X HA:=by
 intro pins s B H o i v ov iv u Q I ro ri rv h;obtain⟨p,xs,k,j,rfl,rfl,hp,hj,q⟩:=h;cases ro;obtain⟨t,rfl⟩:=ri;obtain⟨its,n,r,ho,hz⟩:=I.lst hp;obtain⟨h1,h2,h3,h4⟩:=Aq hj;have hl:=r.length;have hn:=oF
 have I':aZ X pins B (dk H p (.lst (xs.set j v))) {s with heap:=s.heap.update p (Obj.mapSeq (·.setIfInBounds j u))}:=
  I.lstUpd hp ho (zg its n j u) (r.set rv j) (by rw[List.length_set];exact hz) s.toks
 by_cases h0:0<=k
 ·have hk:k.toNat=j:=by
   rw[seqIndex_of h0 h4]at h1;exact ON h1
  exact W.ki_setAt ho h0 (by omega) (by rw[PH,<- hl];exact h4) (by rw[hk];exact⟨_,I',q⟩)
 ·have hk:(k+(its.toArray.size:Int)).toNat=j:=by
   rw[seqIndex_neg (by omega) h3]at h1;rw[PH,<- hl];exact ON h1
  exact W.ki_setBack ho (by omega) (by rw[PH,<- hl];exact h3) (by omega) (by rw[hk];exact⟨_,I',q⟩)
theorem vy(lo hi:Option Int)(n:Nat):(sliceBounds lo hi none n).1=((HT.sIx n 0 lo:Nat):Int)/\(sliceBounds lo hi none n).2.1=((HT.sIx n n hi:Nat):Int)/\(sliceBounds lo hi none n).2.2=1:=by
 refine⟨?_,?_,rfl⟩
 ·cases lo with
  |none=>simp[sliceBounds,HT.sIx]
  |some i=>
   simp only[sliceBounds,HT.sIx,Option.getD_none,show (1:Int)>0 by decide,Qm];by_cases h:i<0
   ·simp only[h,Qm] <;> omega
   ·simp only[h,Ql] <;> omega
 ·cases hi with
  |none=>simp[sliceBounds,HT.sIx]
  |some i=>
   simp only[sliceBounds,HT.sIx,Option.getD_none,show (1:Int)>0 by decide,Qm];by_cases h:i<0
   ·simp only[h,Qm] <;> omega
   ·simp only[h,Ql] <;> omega
theorem tq(its:List Value)(lo hi:Option Int):slicePick its.toArray lo hi none=((its.drop (HT.sIx its.length 0 lo)).take (HT.sIx its.length its.length hi-HT.sIx its.length 0 lo)).toArray:=by
 obtain⟨h1,h2,h3⟩:=vy lo hi its.toArray.size;unfold slicePick;rw[h1,h2,h3];simp only[sliceRange_one,pick_run,PH] <;> rfl
def Lr(K:W.Frag):V->Option Int->Option Int->Hp->VK->Prop:=fun x lo hi H Q=>∃a xs,x=.ref a/\fK K H a xs/\∀p,H p=none->Q (.ref p) (dk H p (.lst (v7 xs lo hi)))
theorem FS:EZ X (Lr X.K):=by
 intro pins s B H x v vl vu lo hi sl Q I rx hs pl pu h;obtain⟨a,xs,rfl,hx,q⟩:=h;cases rx;obtain⟨its,r,ht,hz⟩:=I.list hx;have hlen:=r.length;refine⟨"list",_,QE.lookup,ht.isList.typeIs,?_⟩;refine wpAny_getItem_list_slice ht.isList hs pl pu .none (by simp) ?_ (by rw[PH] <;> omega);rw[tq,<- hlen];refine⟨.ref s.heap.objs.size,_,I.laid (t':=s.toks) (o:=.lst (v7 xs lo hi)) (fun b ob q=>Pt _ q) (Pv _) ?_,rfl,q _ (I.hok.fresh (Pv _))⟩;exact⟨O0 (pR xs lo hi) hz,_,0,(r.drop (HT.sIx xs.length 0 lo)).take (HT.sIx xs.length xs.length hi-HT.sIx xs.length 0 lo),Pu _ rfl⟩
def lr:V->Bool
 |.non=>true
 |.bl _=>true
 |.int _=>true
 |.str _=>true
 |_=>false
def zF:V->V->Bool
 |.non,.non=>true
 |.bl a,.bl b=>a == b
 |.bl a,.int b=>(if a then 1 else 0) == b
 |.int a,.bl b=>a == (if b then 1 else 0)
 |.int a,.int b=>a == b
 |.str a,.str b=>a == b
 |_,_=>false
theorem KZ{y x:V}{v:Value}(ry:cx y u)(rx:cx x v)(fy:lr y=true)(fx:lr x=true):SeqAt.EqAt A s u v (zF y x):=by
 cases y with
 |non=>
  cases ry;cases x with
  |non=>cases rx;exact SeqAt.EqAt.same _
  |bl b=>cases rx;exact SeqAt.EqAt.none_bool b
  |int b=>obtain⟨t,rfl⟩:=rx;exact SeqAt.EqAt.none_int b t
  |str b=>obtain⟨t,rfl⟩:=rx;exact SeqAt.EqAt.none_str b t
  |_=>exact absurd (show false=true from fx) PD
 |bl a=>
  cases ry;cases x with
  |non=>cases rx;exact SeqAt.EqAt.bool_none a
  |bl b=>cases rx;exact SeqAt.EqAt.bool_bool a b
  |int b=>obtain⟨t,rfl⟩:=rx;exact SeqAt.EqAt.bool_int a b t
  |str b=>obtain⟨t,rfl⟩:=rx;exact SeqAt.EqAt.bool_str a b t
  |_=>exact absurd (show false=true from fx) PD
 |int a=>
  obtain⟨t',rfl⟩:=ry;cases x with
  |non=>cases rx;exact SeqAt.EqAt.int_none a t'
  |bl b=>cases rx;exact SeqAt.EqAt.int_bool a t' b
  |int b=>obtain⟨t,rfl⟩:=rx;exact SeqAt.EqAt.int_int a t' b t
  |str b=>obtain⟨t,rfl⟩:=rx;exact SeqAt.EqAt.int_str a t' b t
  |_=>exact absurd (show false=true from fx) PD
 |str a=>
  obtain⟨t',rfl⟩:=ry;cases x with
  |non=>cases rx;exact SeqAt.EqAt.str_none a t'
  |bl b=>cases rx;exact SeqAt.EqAt.str_bool a t' b
  |int b=>obtain⟨t,rfl⟩:=rx;exact SeqAt.EqAt.str_int a t' b t
  |str b=>obtain⟨t,rfl⟩:=rx;exact SeqAt.EqAt.str_str a t' b t
  |_=>exact absurd (show false=true from fx) PD
 |_=>exact absurd (show false=true from fy) PD
def Ic(x:V)(u:Value):Bool:=match u with
 |.none=>zF .non x
 |.bool b=>zF (.bl b) x
 |.int i _=>zF (.int i) x
 |.str z _=>zF (.str z) x
 |_=>false
theorem yG{x y:V}(r:cx y u)(f:lr y=true):Ic x u=zF y x:=by
 cases y with
 |non=>cases r;rfl
 |bl b=>cases r;rfl
 |int i=>obtain⟨t,rfl⟩:=r;rfl
 |str z=>obtain⟨t,rfl⟩:=r;rfl
 |_=>exact absurd (show false=true from f) PD
theorem rO{A:Around}{s:Shared}{x:V}{v:Value}(rx:cx x v)(fx:lr x=true):∀{xs:List V}{us:List Value},bp xs us->xs.all lr=true->∀u∈us,SeqAt.EqAt A s u v (Ic x u)
 |_,_,.nil,_=>fun u hu=>by cases hu
 |y::xs,u::us,.cons r t,f=>fun u' hu=>by
  rw[QG,Qy]at f;rcases O5.mp hu with rfl|hu
  ·rw[yG r f.1];exact KZ r rx f.1 fx
  ·exact rO rx fx t f.2 u' hu
theorem cY.or{f:Value}{r r':List V->Hp->VK->Prop}(h:cY X f r)(h':cY X f r'):cY X f (fun xs H Q=>r xs H Q\/r' xs H Q):=by
 intro pins s B H xs us Q I rs q;rcases q with q|q
 ·exact h pins s B H xs us Q I rs q
 ·exact h' pins s B H xs us Q I rs q
theorem vM:cY X (.type "list") (fun xs H Q=>∃p ys,xs=[.ref p]/\(fK X.K H p ys\/gr X.K H p ys)/\∀l,H l=none->Q (.ref l) (dk H l (.lst ys))):=by
 intro pins s B H xs us Q I r h;obtain⟨p,ys,rfl,hq,q⟩:=h;obtain⟨u,rfl,rx⟩:=fH r;cases rx
 have fin:∀(its:List Value),bp ys its->ys.length<=sizeLine->∀(h':Heap)(c':Nat),(∀b o',s.heap.get? b=some o'->h'.get? b=some o') ->
   h'.get? s.heap.objs.size=some {cls:=.type "list",dict:=none,data:=.seq its.toArray c',slots:=#[]}->EP X pins B Q (.ref s.heap.objs.size) {s with heap:=h'}:=fun its r' hz h' c' kp e=>
  ⟨.ref s.heap.objs.size,_,I.laid (t':=s.toks) kp (Pv _) (show fJ X.prog X.w _ h' _ (.lst ys) from⟨hz,its,c',r',e⟩),rfl,q _ (I.hok.fresh (Pv _))⟩
 rcases hq with hq|hq
 ·obtain⟨its,r',pl,hz⟩:=I.list hq;have hlen:=r'.length;obtain⟨o,ho,hc,n,hd⟩:=pl.isList;exact call_list_seq p (.inl rfl) ho hc hd (fun h' c' kp e=>fin its r' hz h' c' kp e) (by simp only[PH] <;> omega)
 ·obtain⟨its,r',pl,hz⟩:=I.tuple hq;have hlen:=r'.length;obtain⟨o,ho,hc,n,hd⟩:=pl;exact call_list_seq p (.inr rfl) ho hc hd (fun h' c' kp e=>fin its r' hz h' c' kp e) (by simp only[PH] <;> omega)
theorem tJ:cY X (.type "tuple") (fun xs H Q=>∃p ys,xs=[.ref p]/\((fK X.K H p ys/\∀l,H l=none->Q (.ref l) (dk H l (.tup ys)))\/(gr X.K H p ys/\Q (.ref p) H))):=by
 intro pins s B H xs us Q I r h;obtain⟨p,ys,rfl,h⟩:=h;obtain⟨u,rfl,rx⟩:=fH r;cases rx;rcases h with⟨hq,q⟩|⟨hq,q⟩
 ·obtain ⟨its, r', pl, hz⟩ := I.list hq;have hlen:=r'.length;refine call_tuple_list pl.isList (fun h' kp=>?_) (by simp only[PH] <;> omega);have I1:aZ X pins B H {s with heap:=h'}:=I.kept (t':=s.toks) kp
  have I2:aZ X pins B (dk H h'.objs.size (.tup ys)) {s with heap:=h'.push {cls:=.type "tuple",data:=.seq its.toArray}}:=
   I1.laid (t':=s.toks) (fun b o e=>Pt _ e) (Pv _) (show fJ X.prog X.w _ _ _ (.tup ys) from⟨hz,its,r',IsTup.new _ _⟩)
  exact⟨.ref h'.objs.size,_,I2,rfl,q _ (I1.hok.fresh (Pv _))⟩
 ·obtain⟨its,r',pl,hz⟩:=I.tuple hq;exact call_tuple_same pl ⟨.ref p,H,I,rfl,q⟩
def Nr(K:W.Frag)(T:String)(x:V)(H:Hp):Prop:=match x with
 |.str _=>T = "str"
 |.int _=>T = "int"
 |.ref p=>(T = "list" /\ ∃xs,fK K H p xs)\/(T = "tuple" /\ ∃o,K.lookup p=some o/\o.cls=.type "tuple" /\ o.dict=none) \/
   (T = "dict" /\ ((∃kvs,H p=some (.dK kvs))\/∃kvs,H p=some (.dT kvs)))\/(T = "set" /\ ∃S n,H p=some (.set S n))
 |_=>False
theorem ID{T:String}{x:V}{v:Value}(I:aZ X pins B H s)(r:cx x v)(ty:Nr X.K T x H):
  s.TypeIs v T/\∀a,v=.ref a->∃ob,s.heap.get? a=some ob/\ob.dict=none:=by
 cases x with
 |str z=>
  obtain⟨t,rfl⟩:=r;cases (show T = "str" from ty);exact⟨typeIs_str s z t,fun _ e=>nomatch e⟩
 |int i=>
  obtain⟨t,rfl⟩:=r;cases (show T = "int" from ty);exact⟨typeIs_int s i t,fun _ e=>nomatch e⟩
 |ref p=>
  cases r;rcases ty with⟨rfl,xs,hq⟩|⟨rfl,o,hk,hc,hd⟩|⟨rfl,hk⟩|⟨rfl,S,n,hk⟩
  ·obtain⟨its,_,pl,_⟩:=I.list hq;refine⟨pl.isList.typeIs,fun a e=>?_⟩;cases e;obtain⟨o,n,e,c,hd,_⟩:=pl;exact⟨o,e,hd⟩
  ·refine⟨⟨o,I.kIn p o hk,hc⟩,fun a e=>?_⟩;cases e;exact⟨o,I.kIn _ o hk,hd⟩
  ·have z:∃o,s.heap.get? p=some o/\o.ExactDict:=by
    rcases hk with⟨kvs,hk⟩|⟨kvs,hk⟩
    ·obtain⟨_,_,_,_,o,_,_,e,ex,_⟩:=I.hok p _ hk;exact⟨o,e,ex⟩
    ·obtain⟨_,_,_,_,o,_,_,e,ex,_⟩:=I.hok p _ hk;exact⟨o,e,ex⟩
   obtain⟨o,e,ex⟩:=z;refine⟨⟨o,e,ex.1⟩,fun a e2=>?_⟩;cases e2;exact⟨o,e,ex.2.1⟩
  ·obtain⟨o,_,_,_,e,ex,_⟩:=I.hok p _ hk;refine⟨⟨o,e,ex.1⟩,fun a e2=>?_⟩;cases e2;exact⟨o,e,ex.2.1⟩
 |_=>exact False.elim ty
def OE(K:W.Frag)(T:String)(r:V->List V->Hp->VK->Prop)(to:TE)(t:TA):TE:=fun B H Q=>to B H fun x H1=>Nr K T x H1/\t B H1 fun xs H2=>r x xs H2 Q
variable{o:Expr}{es:List Expr}{to:TE}{t:TA}{name:Str}{cpos:Pos}{T id:String}{r:V->List V->Hp->VK->Prop}
theorem Mm (pa:PlainAttrs T) (slot:Slot T name id) (hty:typeOf (.builtin id)=pure (.type "method_descriptor")) (hm:Ou X id r) (ho:PE X o to) (ha:PA X (e::es) t)
  (hbase:attributeBase o name X.env (eval o X.env)=eval o X.env:=by rfl)
  (hfew : ((backTo cpos (starEach (e :: es) X.env)).all (fun x => !x.1) && (backToKw cpos (keywordEach [] X.env)).all (fun x => x.1.isSome)
   && decide ((e::es).length+([]:List Keyword).length+(if ([]:List Keyword).isEmpty then 0 else 1)<30))=true:=by rfl)
  (hline:(apos.endLine == cpos.line)=true:=by rfl) (hs:starEach (e::es) X.env=(false,eval e X.env)::starEach es X.env:=by rfl) (hplain:(backTo cpos (starEach es X.env)).any (·.1)=false:=by rfl) :
  PE X (.Call (.Attribute o name apos) (e::es) [] cpos) (OE X.K T r to t):=by
 intro pins s B H Q I h;refine wpAny_Call_method_late hbase hfew hline rfl (d8 (ho pins s B H _ I h) fun v s1 ⟨x,H1,I1,r1,ty,q1⟩=>?_);obtain⟨h1,h2⟩:=ID I1 r1 ty;refine⟨T,id,pa,slot,hty,h1,h2,?_⟩;have hA:=ha cpos pins s1 B H1 _ I1 q1;rw[hs]at hA⊢;refine Calls.callWith_builtin (by show (false || (backTo cpos (starEach es X.env)).any (·.1))=false;rw[hplain] <;> rfl) (Calls.evalArgs_plain ?_);exact d8 hA fun us s2 ⟨vs,H2,I2,r2,q2⟩=>hm pins s2 B H2 x vs v us Q I2 r1 r2 q2
end
def Nh(X:Cx)(id:String)(r:V->List V->Hp->VK->Prop):Prop:=
 ∀(pins:List (Addr×Obj))(s:Shared)(B:St)(H:Hp)(x:V)(xs:List V)(v:Value)(us:List Value)(Q:VK),aZ X pins B H s->cx x v->bp xs us->r x xs H Q ->
  wpAny (model X.prog X.w) X.A (call (.builtin id) (v::us)) (EP X pins B Q) X.xe s
theorem bp.one:∀{x:V}{us:List Value},bp [x] us->∃u,us=[u]/\cx x u
 |_,_,.cons r .nil=>⟨_,rfl,r⟩
theorem bp.reverse{xs:List V}(h:bp xs us):bp xs.reverse us.reverse:=by
 induction h with
 |nil=>exact .nil
 |cons r t ih=>rw[QH,QH];exact bp.append ih (.cons r .nil)
theorem bp.rep{xs:List V}{us:List Value}(h:bp xs us):∀k:Nat,bp (List.replicate k xs).flatten (List.replicate k us).flatten
 |0=>.nil
 |k+1=>by
  rw[QI,QI,QJ,QJ];exact bp.append h (bp.rep h k)
theorem uu(its:List Value):∀(k:Nat)(acc:List Value),
  List.foldl (fun x1 x2=>x1++x2) acc.toArray (List.replicate k its.toArray)=(acc++(List.replicate k its).flatten).toArray
 |0,acc=>by simp
 |k+1,acc=>by
  have e:acc.toArray++its.toArray=(acc++its).toArray:=by simp
  have e2:(acc++its)++(List.replicate k its).flatten=acc++(List.replicate (k+1) its).flatten:=by
   rw[QI,QJ,QK]
  rw[<- e2,<- uu its k (acc++its),<- e,QI,QL]
section
variable{X:Cx}{xs ys zs:List V}
theorem aZ.lset{its':List Value}{f:Array Value->Array Value}(I:aZ X pins B H s)(hH:H l=some (.lst xs))(e:s.heap.get? l=some {cls:=.type "list",data:=.seq its.toArray n})(hf:f its.toArray=its'.toArray)(hv:bp ys its')(hz:ys.length<=sizeLine):
  aZ X pins B (dk H l (.lst ys)) {s with heap:=s.heap.update l (Obj.mapSeq f),toks:=t'}:=by
 have q:=PySem.IsL.update e f;rw[hf]at q;refine I.write (x:=l) (e:=l) (by rw[hH];exact trivial) (.inl rfl) (fun b' u hb hu=>(Heap.get?_update_other s.heap (Obj.mapSeq f) (O6 hb)).trans hu) ⟨_,q⟩ ?_;exact⟨hz,its',_,hv,q⟩
theorem aZ.lnew(I:aZ X pins B H s)(hv:bp ys its)(hz:ys.length<=sizeLine):
  aZ X pins B (dk H s.heap.objs.size (.lst ys)) {s with heap:=s.heap.push {cls:=.type "list",data:=.seq its.toArray},toks:=t'}:=
 I.laid (fun _ _ q=>Pt _ q) (Pv _) ⟨hz,its,0,hv,Pu _ rfl⟩
theorem aZ.fresh(I:aZ X pins B H s):H s.heap.objs.size=none:=I.hok.fresh (Pv _)
theorem aZ.lstM (I:aZ X pins B H s) (hH:H l=some (.lst xs)):xs.length<=sizeLine/\∃(its:List Value) (n:Nat),bp xs its/\xs.length=its.length/\s.heap.get? l=some {cls:=.type "list",data:=.seq its.toArray n}:=by
 obtain⟨z,its,n,r,e⟩:=I.hok l _ hH;exact⟨z,its,n,r,r.length,e⟩
theorem xi(h:n<=sizeLine):Builtin.List.listTooLong n=false:=by
 unfold Builtin.List.listTooLong;exact OP (by omega)
end
section
variable{X:Cx}
def Af:V->List V->Hp->VK->Prop:=fun x vs H Q=>∃l xs y,x=.ref l/\vs=[y]/\H l=some (.lst xs)/\xs.length<sizeLine/\Q .non (dk H l (.lst (xs++[y])))
theorem uh:Nh X "list.append" Af:=by
 intro pins s B H x vs v us Q I rx rv h;obtain⟨l,xs,y,rfl,rfl,hH,hz,q⟩:=h;cases rx;obtain⟨u,rfl,ru⟩:=rv.one;obtain⟨z,its,n,r,hl,e⟩:=I.lstM hH;refine QM F.slot_list_append ⟨_,e,rfl⟩ F.entry_list_append (F.args_list_append_2 _ _) (PySem.list_append l its.toArray n u (by rw[PH];omega)) ⟨e,?_⟩;refine⟨.non,_,I.lset (its':=its++[u]) hH e (by simp) (r.append (.cons ru .nil)) ?_,rfl,q⟩;rw[Qc,QN];omega
def Ae:V->List V->Hp->VK->Prop:=fun x vs H Q=>∃l b xs zs,x=.ref l/\vs=[.ref b]/\H l=some (.lst xs)/\H b=some (.lst zs)/\xs.length+zs.length<=sizeLine/\Q .non (dk H l (.lst (xs++zs)))
theorem BD:Nh X "list.extend" Ae:=by
 intro pins s B H x vs v us Q I rx rv h;obtain⟨l,b,xs,zs,rfl,rfl,hH,hB,hz,q⟩:=h;cases rx;obtain⟨u,rfl,ru⟩:=rv.one;cases ru;obtain⟨z,its,n,r,hl,e⟩:=I.lstM hH;obtain⟨z2,its2,n2,r2,hl2,e2⟩:=I.lstM hB;have hsz:its.toArray.size+its2.toArray.size<=sizeLine:=by rw[PH,PH];omega
 have hlong:¬ (!its.toArray.isEmpty&&Builtin.List.listTooLong (its.toArray.size+its2.toArray.size))=true:=by
  rw[xi hsz,Bool.and_false];exact PD
 refine QM F.slot_list_extend ⟨_,e,rfl⟩ F.entry_list_extend (F.args_list_extend_2 _ _)
  (AutoSeq1.list_extend_list_list_0 l its.toArray n b its2.toArray n2 hlong (by rw[PH];omega) (by omega)) ⟨e,e2,?_⟩
 refine⟨.non,_,I.lset (its':=its++its2) hH e (by simp) (r.append r2) ?_,rfl,q⟩;rw[Qc];omega
def LF:R2:=fun x y H Q=>∃l b xs zs,x=.ref l/\y=.ref b/\H l=some (.lst xs)/\H b=some (.lst zs)/\xs.length+zs.length<=sizeLine/\∀p,H p=none->Q (.ref p) (dk H p (.lst (xs++zs)))
theorem J0:iJ X (binaryOp .Add) LF:=by
 intro pins s B H x y v u Q I rx ry h;obtain⟨l,b,xs,zs,rfl,rfl,hH,hB,hz,q⟩:=h;cases rx;cases ry;obtain⟨z,its,n,r,hl,e⟩:=I.lstM hH;obtain⟨z2,its2,n2,r2,hl2,e2⟩:=I.lstM hB;refine PySem.P.add_list e e2 ?_ (by rw[PH,PH];omega);have ea:its.toArray++its2.toArray=(its++its2).toArray:=by simp
 rw[ea];exact⟨.ref _,_,I.lnew (t':=s.toks) (r.append r2) (by rw[Qc];omega),rfl,q _ I.fresh⟩
def Lx:R2:=fun x y H Q=>∃l k xs,x=.ref l/\y=.int k/\H l=some (.lst xs)/\-(2^63)<=k/\k<2^63/\xs.length*k.toNat<=sizeLine /\
 ∀p,H p=none->Q (.ref p) (dk H p (.lst (List.replicate k.toNat xs).flatten))
theorem GN{Z:Type}(xs:List Z)(k:Nat):(List.replicate k xs).flatten.length=k*xs.length:=by
 induction k with
 |zero=>simp
 |succ k ih=>rw[QI,QJ,Qc,ih,Nat.succ_mul,Nat.add_comm]
theorem JS:iJ X (binaryOp .Mult) Lx:=by
 intro pins s B H x y v u Q I rx ry h;obtain⟨l,k,xs,rfl,rfl,hH,h1,h2,hz,q⟩:=h;cases rx;obtain⟨t,rfl⟩:=ry;obtain⟨z,its,n,r,hl,e⟩:=I.lstM hH;have hlen:its.toArray.size*k.toNat<=sizeLine:=by rw[PH,<- hl];exact hz
 have hcap:¬ its.toArray.size*k.toNat>(2^63-1) / 8:=by
  have:(sizeLine:Nat)<=(2^63-1) / 8:=by decide
  omega
 have hfit:¬ (!Builtin.List.listFitsIndex k)=true:=by
  rw[fitsIndex_both h1 h2];exact PD
 have hlong:¬ Builtin.List.listTooLong (its.toArray.size*k.toNat)=true:=by
  rw[xi hlen];exact PD
 have hnew:List.foldl (fun x1 x2=>x1++x2) #[] (List.replicate (if its.toArray.isEmpty=true then 0 else k.toNat) its.toArray)=(List.replicate k.toNat its).flatten.toArray:=by
  have f0:∀m:Nat,List.foldl (fun x1 x2=>x1++x2) #[] (List.replicate m its.toArray)=(List.replicate m its).flatten.toArray:=fun m=>by
   have:=uu its m [];rw[QO]at this;exact this
  rw[f0];cases its with
  |nil=>simp
  |cons a r'=>rw[OT (by simp)]
 refine wpAny_binaryOp_repeat_ref (T:="list") (U:="int") (by decide) ⟨_,e,rfl⟩ (fun s'=>typeIs_int s' k t) noFill_list_mul F.fills_int_mul F.slot_int_rmul repeat_list F.slot_int_index.lookup
  (QM F.slot_int_rmul (typeIs_int s k t) F.entry_int_rmul (F.args_int_rmul_2 _ _) (int___rmul___int_list k t l its.toArray n)
   ⟨e,rfl,⟨_,e,rfl⟩,QM F.slot_list_mul ⟨_,e,rfl⟩ F.entry_list_mul (F.args_list_mul_2 _ _) (AutoListH.list___mul___list_int_3 l its.toArray n k t hfit hcap hlong) ⟨e,?_⟩⟩)
 rw[hnew];exact⟨.ref _,_,I.lnew (t':=s.toks) (r.rep k.toNat) (by rw[GN,Nat.mul_comm];exact hz),rfl,q _ I.fresh⟩
end
end L2
namespace Att
open PySem PySem.W PySem.Calls PyProof.Rows
theorem qy{P:Params}{h:Heap}:∀(ns:List Int)(vs:List Value),WellAll P h vs (ns.map WData.int)->IntsAre vs ns:=by
 intro ns
 induction ns with
 |nil=>
  intro vs w;rw[QB]at w;cases w;exact .nil
 |cons n ns ih=>
  intro vs w;rw[QC]at w;cases w with
  |cons a b=>
   cases a;exact .cons _ _ (ih _ b)
theorem Bi{l:OpenLaw}(hn:l.most=some n){P:Params}{h:Heap}{args:List WData}{vals:List Value}(hpre:l.row.toRowW.claim.pre args=true)(hwl:WellAll P h vals args):
  ∃a vs ns,vals=[Value.ref a]/\args=[WData.list (ns.map WData.int)]/\h.get? a=some {cls:=.type "list",data:=.seq vs.toArray}/\IntsAre vs ns/\ns.length<=n:=by
 have hsh:WShape.hasAll [] args [.list .int]=true:=(pre_splitW hpre).1;have hc:l.pre.holds [] {args:=args}=true:=(pre_splitW hpre).2;obtain⟨d,r,rfl,h1,h2⟩:=hasAllW_cons hsh;obtain rfl:=hasAllW_nil h2;obtain⟨xs,rfl,h3⟩:=hasW_list h1;obtain⟨ns,rfl⟩:=items_int h3
 have hlen:ns.length<=n:=by
  unfold OpenLaw.pre at hc
  have h4:(WTm.not (.lt (.lit (.int (n:Int))) (.len (.arg 0)))).holds [] {args:=[.list (ns.map .int)]}=true:=by
   have h4:=(holds_andW hc).1;rw[hn]at h4;exact h4
  have h5:=condW_of h4 (w_not (w_lt w_lit (w_len_list (w_arg rfl))));rw[Qd]at h5;refine Nat.le_of_not_lt fun q=>?_;have q':(n:Int)<((ns.length:Nat):Int):=by omega
  first
   |(rw[QP q']at h5;exact absurd h5 (by decide))
   |(simp at h5;omega)
 cases hwl with
 |cons w1 w2=>
  cases w2;cases w1 with
  |list ho hall=>exact⟨_,_,ns,rfl,rfl,ho,qy ns _ hall,hlen⟩
theorem Bp(l:OpenLaw)(args:List WData):l.row.toRowW.claim.post args (.bool true) args=true:=
 postW_of (r:=l.row.toRowW) (X:=(true == true))
  (show WShape.has [] (.bool true) .bool=true by first|rfl|decide|simp[WShape.has,WShape.arms,WShape.armsAll])
  (show (WTm.eq .res (.lit (.bool true))).value [] {args:=args,res:=some (.bool true),after:=args}=some (.bool (true == true)) from w_eq_bool (w_res rfl) w_lit) rfl
theorem attach_call{l:OpenLaw}{q:Program}{d:DefRec}(hn:l.most=some n)(hdf:d.params.defaults=[])(call : ∀ (w : World) (s₀ s₁ : Shared) (mg mb : Str -> Option Value) (fa : Addr) (o : Obj) (pm cd doc : Value) (a : Addr) (vs : List Value) (ns : List Int),
   Ground q loose [] XP w s₀ mg mb s₁.heap->YP w s₁.heap ->
   s₁.heap.get? fa=some o->o.data=.func (docDef d.name d.params d.body d.scope pm cd doc)->s₁.heap.CodeRec cd d.name->mg d.name=some (.ref fa) ->
   s₁.heap.get? a=some {cls:=.type "list",data:=.seq vs.toArray}->IntsAre vs ns->ns.length<=n->s₁.gens=#[] ->
   codeAny (model l.prog w) callerA (.call (.ref fa) ⟨[.ref a],[]⟩) (fun r s'=>r=.ok (.ret (.bool true))/\OldK s₁.heap s'.heap/\s'.os=s₁.os/\AllBare s'.gens) s₁):
  WalkO q loose XP YP l.row.toRowW d [] (fun f vs=>PySem.call f vs):=by
 intro w s₀ s₁ mg mb G μ fa o pm cd doc dV kV ho hd hcd hD hmg hg args vals as hpre hlay hrd hwl hlo;obtain rfl:dV=.none:=Dflts.none hD hdf;obtain rfl:kV=.none:=Dflts.noKw hD;obtain⟨a,vs,ns,rfl,rfl,hobj,hints,hlen⟩:=Bi hn hpre hwl;refine enter_call (PL (call w s₀ s₁ mg mb fa o pm cd doc a vs ns G μ ho (fd_plain hd) hcd hmg hobj hints hlen hg) fun r s' hq=>?_);obtain⟨rfl,h2,h3,h4⟩:=hq;exact⟨.inl ⟨.bool true,.bool true,[],rfl,fun _=>rfl,.bool true,Bp l _,fun _=>⟨List.Pairwise.nil,fun _ hm=>(nomatch hm)⟩⟩,h2,h3,h4⟩
end Att
namespace L2
open PySem PySem.Spec PyProof.Rows
theorem tS:∀{vs:List Value}{ns:List Int},IntsAre vs ns->bp (ns.map V.int) vs
 |_,_,.nil=>.nil
 |_,_,.cons n t h=>.cons ⟨t,rfl⟩ (tS h)
def Fb(H:Hp):Prop:=∀b,H b=none\/∃o xs,H b=some (.frz o (.lst xs))
theorem Em{w:World}{mb:Str->Option Value}{k:Nat}{fa:Addr}{s₁:Shared}{vs:List Value}(KX:K.In s₁.heap)(hns:s₁.heap.Ns mainGlobals mg)(hb:s₁.heap.Ns builtinsNs mb)(hbb:∀x:Str,x ≠ "__name__" -> mb x=bootBuiltins x)(hlim:s₁.heap.NoLimit)(hg:s₁.gens=#[])(ha:s₁.heap.get? a=some {cls:=.type "list",data:=.seq vs.toArray})(hi:IntsAre vs ns)(hl:ns.length<=sizeLine)(hr:gv k callerA)(F:∀base:Heap,K.In base->base.Ns mainGlobals mg->qR P w K mg base CX k fa fd [x] sp)(hbind:∀(s:Shared)(u:Value),BindsTo s fd ⟨[u],[]⟩ [(x,u)])(hsp:∀H:Hp,Fb H->fK K H a (ns.map V.int)->sp [.ref a] H (fun v _=>v=.bl true) fun _ _ _=>False)(hCX:∀H e s',CX [] H s₁ (fun _ _ _=>False) e s'->False):
  codeAny (model P w) callerA (.call (.ref fa) ⟨[.ref a],[]⟩) (fun r s'=>r=.ok (.ret (.bool true))/\OldK s₁.heap s'.heap/\s'.os=s₁.os/\AllBare s'.gens) s₁:=by
 have rv:=tS hi;have lenV:=hi.length
 have core:∀H:Hp,Fb H->fK K H a (ns.map V.int)->ou P w H s₁.heap->(∀b,H b≠none->b=a)->(H a≠none->K.lookup a=none) ->
   codeAny (model P w) callerA (.call (.ref fa) ⟨[.ref a],[]⟩) (fun r s'=>r=.ok (.ret (.bool true))/\OldK s₁.heap s'.heap/\s'.os=s₁.os/\AllBare s'.gens) s₁:=by
  intro H hO hS hok hA hK;have base_of:∀{b:Addr}{o:Obj},s₁.heap.get? b=some o->H b=none->(uL s₁.heap H).get? b=some o:=fun e n=>Ew e n
  have noA:∀{b:Addr}{o:Obj}{es:Array DictEntry}{ep:Nat},s₁.heap.get? b=some o->o.data=.dict es ep->H b=none:=fun {b o es ep} e d=>by
   cases q:H b with
   |none=>rfl
   |some u=>
    have e':b=a:=hA b (by rw[q];simp);subst e';rw[ha]at e;cases e;have d':Data.seq vs.toArray _=Data.dict es ep:=d;cases d'
  have nsK:∀{b:Addr}{m:Str->Option Value},s₁.heap.Ns b m->(uL s₁.heap H).Ns b m:=fun {b m} ⟨o,es,ep,e,d,r⟩=>⟨o,es,ep,base_of e (noA e d),d,r⟩
  have hKb:K.In (uL s₁.heap H):=fun b o e=>base_of (KX b o e) (by
   cases q:H b with
   |none=>rfl
   |some u=>
    have e':b=a:=hA b (by rw[q];simp);subst e'
    rw[hK (by rw[q];simp)]at e;cases e)
  have hM:Mod K mg (uL s₁.heap H):=⟨hKb,nsK hns,⟨mb,nsK hb,hbb⟩,let ⟨mc,h1,h2⟩:=hlim;⟨mc,nsK h1,h2⟩⟩;have e0:AW P w K mg (uL s₁.heap H) callerA [] s₁ H:=⟨rfl,hM,fun b o e=>GC e,Nat.le_of_eq (BM _ _),trivial,fun b hb=>absurd (show b∈([]:List Addr) from hb) (by simp),hok,.of_eq hg⟩;refine PL ((F _ hKb (nsK hns)).run callerA [] s₁ H ⟨[.ref a],[]⟩ [.ref a] [.ref a] _ _ hr e0 (hbind s₁ (.ref a)) (.cons rfl .nil) (hsp H hO hS)) fun r s' h=>?_;cases r with
  |error e=>exact(hCX H e s' h).elim
  |ok fl=>
   cases fl with
   |next=>exact False.elim h
   |brk=>exact False.elim h
   |cont=>exact False.elim h
   |ret u=>
    obtain⟨v,H',os,bare,un,hok',r',q⟩:=h;have q':v=.bl true:=q;subst q';obtain rfl:u=Value.bool true:=r';refine⟨rfl,OldK.of_keep fun b o e=>?_,os,bare⟩;cases q:H b with
    |none=>exact un.keep b o e q (by intro z;exact absurd (show b∈([]:List Addr) from z) (by simp)) (by simp)
    |some u=>
     rcases hO b with z|⟨ob,xs,z⟩
     ·rw[q]at z;cases z
     ·have z2:=un.frzs b ob _ z;obtain⟨e1,_⟩:=hok b _ z;obtain⟨e2,_⟩:=hok' b _ z2;rw[e]at e1;cases e1;exact e2
 cases hk:K.lookup a with
 |some o=>
  have e:=KX a o hk;rw[ha]at e;cases e;refine core (fun _=>none) (fun _=>.inl rfl) (.inr ⟨_,vs.toArray,_,hk,rfl,rfl,rfl,by rw[PH,lenV];exact hl,by simpa using rv⟩) (fun b u z=>by have z':(none:Option HO)=some u:=z;cases z') (fun b z=>absurd rfl z) fun z=>absurd rfl z
 |none=>
  refine core (fun b=>if b=a then some (.frz {cls:=.type "list",data:=.seq vs.toArray} (.lst (ns.map V.int))) else none) (fun b=>?_) (.inl (.inr ⟨{cls:=.type "list",data:=.seq vs.toArray},OS rfl⟩)) (fun b u z=>?_) (fun b z=>?_) fun _=>hk
  ·by_cases hb : b = a
   ·exact .inr ⟨_,_,OS hb⟩
   ·exact .inl (OT hb)
  ·by_cases hb : b = a
   ·have z':=(OS hb).symm.trans z;cases z';subst hb;exact⟨ha,by rw[Qd];exact hl,vs,_,rv,ha⟩
   ·have z':=(OT hb).symm.trans z;cases z'
  ·by_cases hb : b = a
   ·exact hb
   ·exact absurd (OT hb) z
theorem walk_of{l:W.OpenLaw}{k:Nat}{q:Program}{d:DefRec}{K:Params->W.Frag}{CX:World->vT}{sp:World->Sp}(hn:l.most=some n)(hn2:n<=sizeLine)(hdf:d.params.defaults=[])(hr:gv k callerA)(hY:∀(w:World)(h:Heap),YP w h->(K w.params).In h)(F : ∀ (w : World) (mg : Str -> Option Value) (fa : Addr) (h : Heap), (K w.params).In h -> h.Ns mainGlobals mg -> mg d.name = some (.ref fa) ->
   ∃fd:FuncData,(∀(s:Shared)(u:Value),BindsTo s fd ⟨[u],[]⟩ [(x,u)]) /\
    ∀base:Heap,(K w.params).In base->base.Ns mainGlobals mg->qR l.prog w (K w.params) mg base (CX w) k fa fd [x] (sp w))(hsp:∀(w:World)(H:Hp)(a:Addr)(ns:List Int),ns.length<=n->Fb H->fK (K w.params) H a (ns.map V.int)->sp w [.ref a] H (fun v _=>v=.bl true) fun _ _ _=>False)(hCX:∀(w:World)(H:Hp)(s:Shared)(e:Value)(s':Shared),CX w [] H s (fun _ _ _=>False) e s'->False):
  W.WalkO q loose XP YP l.row.toRowW d [] (fun f vs=>PySem.call f vs):=by
 refine Att.attach_call hn hdf fun w s₀ s₁ mg mb fa o pm cd doc a vs ns G μ ho hd hcd hmg hobj hints hlen hg=>?_;have KX:=hY w _ μ;obtain⟨fd,hb,hF⟩:=F w mg fa _ KX G.T.g hmg;exact Em KX G.T.g G.T.b G.T.builtins G.T.nolimit hg hobj hints (O0 hlen hn2) hr hF hb (fun H hO hS=>hsp w H a ns hlen hO hS) fun H e s'=>hCX w H s₁ e s'
abbrev yi:vT:=fun _ _ _ _ _ _=>False
abbrev E0:XK:=fun _ _ _=>False
theorem CG{X:Cx}:kg yi X E0:=fun _ _ _ _ _ _ _ h=>h.elim
structure gS(K:W.Frag)(x qual:Str)(st:Stmt)(f:Addr)(fd:FuncData):Prop where
 ex:∃(oc:Value)(od:Option Addr)(kV doc pm:Value)(an:Option Addr)(cdv ct:Value)(osl:Array (Option Value)),
  fd=W.fnOf x qual (fv st) (cM st) (ar st) .none kV doc pm an cdv ct/\K.lookup f=some ⟨oc,od,.func fd,osl⟩/\W.codeIn K cdv qual=true
 kp:W.keepIn K (.ref f)=true
section
variable{w:World}
theorem gS.ok{ps:List Str}{k:Nat}(F:gS K x qual st f fd)(S:aV N ps (ar st))(len:∀vs H Q E,sp vs H Q E->vs.length=ps.length)(hbody : ∀ (cdv : Value) (A : Around) (outer : List Env) (s : Shared) (H : Hp) (vs : List V) (Q : VK) (E : XK), gv k (A.deeper (envOfC qual (ar st) s.heap.objs.size f cdv)) -> sp vs H Q E ->
   ∃t,j9 (qO yi P w K mg base N qual (ar st) f cdv A outer s H E).nox (cM st) t/\t {nx:=fun _ H'=>Q .non H',rt:=Q} (start N vs) H):qR P w K mg base yi (k+1) f fd ps sp:=by
 obtain⟨oc,od,kV,doc,pm,an,cdv,ct,osl,rfl,lk,hcd⟩:=F.ex;refine HP lk hcd S len fun A outer s H vs Q E hr hsp=>?_;obtain⟨t,h,q⟩:=hbody cdv A outer s H vs Q E hr hsp;exact⟨t,h.nox,q⟩
theorem gS.binds{ps:List Str}(F:gS K x qual st f fd)(h:∀(kV doc pm:Value)(an:Option Addr)(cdv ct:Value)(us:List Value),us.length=ps.length->bindArgs (W.fnOf x qual (fv st) (cM st) (ar st) .none kV doc pm an cdv ct) ⟨us,[]⟩=pure (ps.zip us)):iw K fd ps []:=by
 obtain⟨oc,od,kV,doc,pm,an,cdv,ct,osl,rfl,lk,hcd⟩:=F.ex;exact .all (h kV doc pm an cdv ct)
theorem KR{oc:Value}{od:Option Addr}{kV doc pm ct:Value}(l:K.lookup f=some ⟨oc,od,.func (W.fnOf x qual (fv st) (cM st) (ar st) .none kV doc pm an cdv ct),osl⟩)(c:W.codeIn K cdv qual=true)(k:W.keepIn K (.ref f)=true):gS K x qual st f (W.fnOf x qual (fv st) (cM st) (ar st) .none kV doc pm an cdv ct):=⟨⟨oc,od,kV,doc,pm,an,cdv,ct,osl,rfl,l,c⟩,k⟩
end
theorem NZ{A σ:Prop}(h:σ):if false=true then A else σ:=by
 rw[OT PD];exact h
theorem NY{A σ:Prop}(h:A):if true=true then A else σ:=by
 rw[OS rfl];exact h
theorem fZ{x:Str}:∀{names:List (Str×NameKind)}{k:NameKind},names.lookup x=some k->(x,k)∈names
 |[],_,h=>by simp at h
 |(n,j)::r,k,h=>by
  rw[QR]at h;cases hx:x == n with
  |true=>
   rw[hx]at h;have e:x=n:=eq_of_beq hx;cases h;rw[e];exact O3
  |false=>rw[hx]at h;exact O4 _ (fZ h)
theorem jc{env:Env}{x:Str}:∀{names:List (Str×NameKind)},
  (names.map fun (n, k) => if (k == NameKind.free && env.scope.kind == .function && env.kindOf n == some .cell) then (n, NameKind.cell) else (n, k)).lookup x =
   (names.lookup x).map fun k=>if (k == NameKind.free&&env.scope.kind == .function&&env.kindOf x == some .cell) then NameKind.cell else k
 |[]=>rfl
 |(n,k)::r=>by
  have ih:=jc (env:=env) (x:=x) (names:=r);rw[QC];show List.lookup x ((if (k == NameKind.free&&env.scope.kind == .function&&env.kindOf n == some .cell)=true then (n,NameKind.cell) else (n,k))::_)=_;cases hx:x == n with
  |true=>
   have e:x=n:=eq_of_beq hx;subst e;by_cases hc:(k == NameKind.free&&env.scope.kind == .function&&env.kindOf x == some .cell)=true
   ·rw[OS hc,QR,hx,QR,hx];show some NameKind.cell=some (if _ then _ else _);rw[OS hc]
   ·rw[OT hc,QR,hx,QR,hx];show some k=some (if _ then _ else _);rw[OT hc]
  |false=>
   by_cases hc:(k == NameKind.free&&env.scope.kind == .function&&env.kindOf n == some .cell)=true
   ·rw[OS hc,QR,hx,QR,hx];exact ih
   ·rw[OT hc,QR,hx,QR,hx];exact ih
theorem mV{env:Env}{f:Str×NameKind->List (Str×Addr)->Sem (ForInStep (List (Str×Addr)))}
  (h1:∀n c acc,env.cells.lookup n=some c->f (n,.free) acc=pure (.yield ((n,c)::acc))) (h2:∀n k acc,k≠.free->f (n,k) acc=pure (.yield acc)) :
  ∀(names:List (Str×NameKind))(acc:List (Str×Addr)),(∀y∈names,y.2=.free->∃c,env.cells.lookup y.1=some c)->(∀x c,acc.lookup x=some c->env.cells.lookup x=some c) ->
   ∃cl,forIn names acc f=(pure cl:Sem (List (Str×Addr)))/\(∀x c,cl.lookup x=some c->env.cells.lookup x=some c)/\(∀x,(acc.lookup x).isSome=true->(cl.lookup x).isSome=true)/\(∀y∈names,y.2=.free->(cl.lookup y.1).isSome=true)
 |[],acc,_,ha=>⟨acc,rfl,ha,fun _ h=>h,fun y hy=>by simp at hy⟩
 |(n,k)::r,acc,hn,ha=>by
  by_cases hk:k=.free
  ·subst hk;obtain⟨c,hc⟩:=hn (n,.free) O3 rfl
   obtain⟨cl,e1,e2,e3,e4⟩:=mV h1 h2 r ((n,c)::acc) (fun y hy=>hn y (O4 _ hy)) (fun x d h=>by
    rw[QR]at h;cases hx:x == n with
    |true=>rw[hx]at h;cases h;rw[eq_of_beq hx];exact hc
    |false=>rw[hx]at h;exact ha x d h)
   refine⟨cl,?_,e2,fun x h=>e3 x ?_,fun y hy hf=>?_⟩
   ·rw[QS,h1 n c acc hc];exact e1
   ·rw[QR];cases hx:x == n <;> simp[h]
   ·rcases O5.mp hy with z | z
    ·subst z;exact e3 n (by simp[QR])
    ·exact e4 y z hf
  ·obtain ⟨cl, e1, e2, e3, e4⟩ := mV h1 h2 r acc (fun y hy => hn y (O4 _ hy)) ha;refine⟨cl,?_,e2,e3,fun y hy hf=>?_⟩
   ·rw[QS,h2 n k acc hk];exact e1
   ·rcases O5.mp hy with z | z
    ·subst z;exact absurd hf hk
    ·exact e4 y z hf
theorem x8{n:Str}{c:Addr}(h:env.cells.lookup n=some c):cellOf env n=pure c:=by
 unfold cellOf;rw[h]
def zP(env:Env)(x:Str×NameKind)(r:List (Str×Addr)):Sem (ForInStep (List (Str×Addr))):=
 match x with|(name,kind)=>if kind == .free then do let c <- cellOf env name;pure (.yield ((name,c)::r)) else pure (.yield r)
theorem zr(hn:∀y∈scope.names,y.2=.free->∃c,env.cells.lookup y.1=some c):
  ∃cl,closureFor scope env=pure cl/\(∀x c,cl.lookup x=some c->env.cells.lookup x=some c)/\(∀y∈scope.names,y.2=.free->(cl.lookup y.1).isSome=true):=by
 obtain⟨cl,e1,e2,_,e4⟩:=mV (env:=env) (f:=zP env)
  (fun n c acc h=>by unfold zP;simp only[QT,Qm];rw[x8 h];rfl)
  (fun n k acc h => by
   unfold zP;have:(k == NameKind.free)=false:=by simpa using h
   simp only[this,QU,Ql]) scope.names [] hn (fun x c h=>by simp at h)
 refine⟨cl,?_,e2,e4⟩;show (forIn scope.names [] (zP env) >>= fun s=>pure s)=pure cl;rw[e1];rfl
def k8(X:Cx)(Nc:List Str)(scope:Scope)(cl:List (Str×Addr))(C:Addr)(s:Shared)(H:Hp)(fp:List Addr):Cx where
 prog:=X.prog
 w:=X.w
 K:=X.K
 mg:=X.mg
 base:=X.base
 A:=X.A
 N:=Nc
 s₀:=s
 H₀:=H
 env:=compEnvC scope (cellsFrom (C+1) scope.names cl) C X.env
 outer:=X.stack
 stack:=X.stack
 ex:=fp
 fn:=fun x=>scope.names.lookup x == some .cell
 calm:=X.calm
 pn:=[]
 xe:=fun _ _=>False
def rf(cap:List (Option Nat))(B:St):St:=cap.map fun o=>o.bind fun j=>(B[j]?).join
def gX(N:List Str)(env:Env)(scope:Scope):List Str->List (Option Nat)->Bool
 |[],[]=>true
 |_::Nc,none::cap=>gX N env scope Nc cap
 |x::Nc,some j::cap=>(N[j]? == some x)&&(scope.names.lookup x == some .free)&&gX N env scope Nc cap
 |_,_=>false
theorem oX{N:List Str}{env:Env}{scope:Scope}:∀{Nc:List Str}{cap:List (Option Nat)},gX N env scope Nc cap=true->cap.length=Nc.length
 |[],[],_=>rfl
 |[],_::_,h=>by simp[gX]at h
 |_::_,[],h=>by simp[gX]at h
 |_::Nc,none::cap,h=>by rw[QV,QV,oX (Nc:=Nc) (cap:=cap) h]
 |x::Nc,some j::cap,h=>by
  have h':gX N env scope Nc cap=true:=by unfold gX at h;simp only[Qy]at h;exact h.2
  rw[QV,QV,oX h']
theorem r8{N:List Str}{env:Env}{scope:Scope}:∀{Nc:List Str}{cap:List (Option Nat)}{i j:Nat}{x:Str},gX N env scope Nc cap=true->cap[i]?=some (some j)->Nc[i]?=some x->N[j]?=some x/\scope.names.lookup x=some .free
 |[],_,_,_,_,_,_,e=>by simp at e
 |_::_,[],_,_,_,h,_,_=>by simp[gX]at h
 |y::Nc,none::cap,0,j,x,h,e,_=>by simp at e
 |y::Nc,some k::cap,0,j,x,h,e,e2=>by
  simp at e e2;subst e;subst e2;unfold gX at h;simp only[Qy]at h;exact⟨eq_of_beq h.1.1,eq_of_beq h.1.2⟩
 |y::Nc,none::cap,i+1,j,x,h,e,e2=>r8 (Nc:=Nc) (cap:=cap) (i:=i) h (by simpa using e) (by simpa using e2)
 |y::Nc,some k::cap,i+1,j,x,h,e,e2=>by
  have h':gX N env scope Nc cap=true:=by unfold gX at h;simp only[Qy]at h;exact h.2
  exact r8 (Nc:=Nc) (cap:=cap) (i:=i) h' (by simpa using e) (by simpa using e2)
structure cV(N:List Str)(env:Env)(scope:Scope)(Nc:List Str)(cap:List (Option Nat)):Prop where
 kind:scope.kind=.function
 nd:∀y∈scope.names,scope.names.lookup y.1=some y.2
 free:∀y∈scope.names,y.2=.free->env.kindOf y.1=some .cell\/env.kindOf y.1=some .free
 cap:gX N env scope Nc cap=true
theorem mi{n0:Nat}{x:Str}{c:Addr}:∀{names:List (Str×NameKind)}{cl:List (Str×Addr)}{n:Nat},n0<=n->((x,NameKind.cell)∈names\/∃c',cl.lookup x=some c'/\n0<=c')->(cellsFrom n names cl).lookup x=some c->n0<=c
 |[],cl,n,_,h,e=>by
  rcases h with z|⟨c',z1,z2⟩
  ·simp at z
  ·have e':cl.lookup x=some c:=e;rw[z1]at e';cases e';exact z2
 |(y,k)::r,cl,n,hn,h,e=>by
  unfold cellsFrom at e;split at e
  ·rename_i hk;refine mi (n:=n+1) (by omega) ?_ e;cases hx:x == y with
   |true=>exact .inr ⟨n,by rw[QR,hx],hn⟩
   |false=>
    rcases h with z|⟨c',z1,z2⟩
    ·rcases O5.mp z with q | q
     ·have:x=y:=Ph Prod.fst q;rw[this]at hx;simp at hx
     ·exact .inl q
    ·exact .inr ⟨c',by rw[QR,hx];exact z1,z2⟩
  ·rename_i hk;refine mi hn ?_ e;rcases h with z|z
   ·rcases O5.mp z with q | q
    ·have:k=.cell:=(Ph Prod.snd q).symm;exact absurd (by rw[this];rfl) hk
    ·exact .inl q
   ·exact .inr z
theorem jV{x:Str}:∀{names:List (Str×NameKind)}{cl:List (Str×Addr)}{n:Nat},(x,NameKind.cell)∉names->(cellsFrom n names cl).lookup x=cl.lookup x
 |[],cl,n,_=>rfl
 |(y,k)::r,cl,n,hn=>by
  unfold cellsFrom;have hr:(x,NameKind.cell)∉r:=fun z=>hn (O4 _ z);split
  ·rename_i hk;rw[jV hr,QR];cases hx:x == y with
   |true=>exact absurd (by rw[eq_of_beq hx,(eq_of_beq hk:k=.cell)];exact O3) hn
   |false=>rfl
  ·exact jV hr
theorem oW{n0:Nat}:∀{names:List (Str×NameKind)}{cl:List (Str×Addr)}{n:Nat},n0<=n->(∀x y c,cl.lookup x=some c->cl.lookup y=some c->n0<=c->x=y)->(∀x c,cl.lookup x=some c->c<n) ->
  ∀x y c,(cellsFrom n names cl).lookup x=some c->(cellsFrom n names cl).lookup y=some c->n0<=c->x=y
 |[],cl,n,_,h,_=>h
 |(z,k)::r,cl,n,hn,h,hb=>by
  unfold cellsFrom;split
  ·refine oW (n := n + 1) (by omega) (fun x y c e1 e2 hc => ?_) (fun x c e => ?_)
   ·rw [QR] at e1 e2;cases hx:x == z with
    |true=>
     cases hy:y == z with
     |true=>rw[eq_of_beq hx,eq_of_beq hy]
     |false=>
      rw[hx]at e1;rw[hy]at e2;cases e1;exact absurd (hb y _ e2) (OW _)
    |false=>
     cases hy:y == z with
     |true=>
      rw[hx]at e1;rw[hy]at e2;cases e2;exact absurd (hb x _ e1) (OW _)
     |false=>rw[hx]at e1;rw[hy]at e2;exact h x y c e1 e2 hc
   ·rw [QR] at e;cases hx:x == z with
    |true=>rw[hx]at e;cases e;exact QW _
    |false=>rw[hx]at e;exact QX (hb x c e)
  ·exact oW hn h hb
theorem lG{x:Str}{c:Addr}:∀{names:List (Str×NameKind)}{cl:List (Str×Addr)}{h:Heap},(cellsFrom h.objs.size names cl).lookup x=some c->cl.lookup x=some c\/(pushCells h names).IsCell c none
 |[],cl,h,e=>.inl e
 |(y,k)::r,cl,h,e=>by
  unfold cellsFrom at e;unfold pushCells;split at e
  ·rename_i hk;rw[OS hk];have e':(cellsFrom (h.push {cls:=.type "cell",data:=.cell none}).objs.size r ((y,h.objs.size)::cl)).lookup x=some c:=by rw[QY];exact e
   rcases lG e' with q|q
   ·rw [QR] at q;cases hx:x == y with
    |true=>
     rw[hx]at q;cases q;exact .inr ⟨_,QZ _ _ _ _ (Pu _ rfl),rfl⟩
    |false=>rw[hx]at q;exact .inl q
   ·exact .inr q
  ·rename_i hk;rw[OT hk];exact lG e
theorem BL{X:Cx}{cap:List (Option Nat)}(I:aZ X pins B H s)(hf:∀b∈fp,ny X pins H b)(hfs:∀b∈fp,b<s.heap.objs.size)(S:cV X.N X.env scope Nc cap)(hcl:∀x c,cl.lookup x=some c->X.env.cells.lookup x=some c)(hall:∀y∈scope.names,y.2=.free->(cl.lookup y.1).isSome=true)(hn:h'.Ns s.heap.objs.size (fun _=>none))(hk:∀b o,s.heap.get? b=some o->h'.get? b=some o)(hce:∀x c,(cellsFrom (s.heap.objs.size+1) scope.names cl).lookup x=some c->cl.lookup x=some c\/h'.IsCell c none):
  aZ (k8 X Nc scope cl s.heap.objs.size s H fp) [] (rf cap B) H {s with heap:=h',toks:=t'}:=by
 have hrl:∀x,(k8 X Nc scope cl s.heap.objs.size s H fp).env.kindOf x=(scope.names.lookup x).map fun k=>if (k == NameKind.free&&X.env.scope.kind == .function&&X.env.kindOf x == some .cell) then NameKind.cell else k:=fun x=>jc
 have hcf:∀x,((k8 X Nc scope cl s.heap.objs.size s H fp).env.kindOf x=some .cell\/(k8 X Nc scope cl s.heap.objs.size s H fp).env.kindOf x=some .free)->scope.names.lookup x=some .free\/scope.names.lookup x=some .cell:=fun x hx=>by
  rw[hrl]at hx;cases e:scope.names.lookup x with
  |none=>rw[e]at hx;rcases hx with z|z <;> cases z
  |some k=>
   rw[e]at hx;by_cases hkf:k=.free
   ·rw[hkf];exact .inl rfl
   ·have : (k == NameKind.free) = false := by simpa using hkf
    simp only[this,Pr,Option.map_some]at hx;rcases hx with z|z
    ·have z' : k = .cell := by simpa using z
     rw[z'];exact .inr rfl
    ·have z' : k = .free := by simpa using z
     exact absurd z' hkf
 have hclx:∀x,scope.names.lookup x=some .free->∃c,cl.lookup x=some c:=fun x e=>PR.mp (hall (x,.free) (fZ e) rfl)
 have hcb:∀x c,cl.lookup x=some c->c<s.heap.objs.size:=fun x c e=>by
  obtain⟨v,q⟩:=I.cell x c (hcl x c e);exact q.lt
 have hcell:∀x c,(cellsFrom (s.heap.objs.size+1) scope.names cl).lookup x=some c->(cl.lookup x=some c/\c<s.heap.objs.size)\/(s.heap.objs.size+1<=c/\h'.IsCell c none):=fun x c e=>by
  by_cases hm:(x,NameKind.cell)∈scope.names
  ·have h1 := mi (Pv _) (.inl hm) e;rcases hce x c e with z|z
   ·have:=hcb x c z;exact absurd (OV (QX this) h1) (OW _)
   ·exact .inr ⟨h1,z⟩
  ·rw[jV hm]at e;exact .inl ⟨e,hcb x c e⟩
 have hinj:∀x y c,(cellsFrom (s.heap.objs.size+1) scope.names cl).lookup x=some c->(cellsFrom (s.heap.objs.size+1) scope.names cl).lookup y=some c->x=y:=fun x y c e1 e2=>by
  rcases hcell x c e1 with⟨a1,a2⟩|⟨a1,a2⟩
  ·rcases hcell y c e2 with ⟨b1, b2⟩ | ⟨b1, b2⟩
   ·exact I.ok.inj x y c (hcl x c a1) (hcl y c b1)
   ·exact absurd (OV (QX a2) b1) (OW _)
  ·exact oW (Pv _) (fun x y c q _ hc=>absurd (OV (QX (hcb x c q)) hc) (OW _)) (fun x c q=>QX (hcb x c q)) x y c e1 e2 a1
 refine⟨⟨I.ok.mod,S.kind,I.ok.glob,I.ok.blt,Pv _,fun x y c e1 e2=>hinj x y c e1 e2,fun x hx=>?_,fun x c e e2=>?_,I.ok.hd,I.ok.frames,.inl rfl,
  fun b hb=>⟨OX (hfs b hb),fun x c e=>?_⟩,I.bs,O0 I.ok.bsz I.sz,fun b o e hb=>?_,fun b hb z=>?_,I.stack,I.stkFree⟩,
  rfl,I.bare,Un.kept hk,⟨_,hn,fun i x v e1 e2 e3=>?_⟩,fun x c e=>?_,I.hok.fresh (Pv _),fun x c e=>?_,fun p hp=>absurd (show p∈([]:List (Addr×Obj)) from hp) (by simp),I.hok.kept hk,?_⟩
 ·rcases hcf x hx with q | q
  ·by_cases hm : (x, NameKind.cell) ∈ scope.names
   ·rcases PR.mp (W.cellsFrom_some scope.names (s.heap.objs.size + 1) cl (.inl (S.nd (x, .cell) hm))) with ⟨c, e⟩
    exact⟨c,e⟩
   ·obtain⟨c,e⟩:=hclx x q;exact⟨c,(jV hm).trans e⟩
  ·obtain⟨c,e⟩:=PR.mp (W.cellsFrom_some scope.names (s.heap.objs.size+1) cl (.inl q));exact⟨c,e⟩
 ·have hm:(x,NameKind.cell)∈scope.names:=fZ (eq_of_beq (show (scope.names.lookup x == some .cell)=true from e));exact Nat.le_of_succ_le (mi (Pv _) (.inl hm) e2)
 ·rcases hcell x c e with ⟨a1, a2⟩ | ⟨a1, a2⟩
  ·exact(hf b hb).2.2.2.2.1 x c (hcl x c a1)
  ·exact fun z=>absurd (OV (QX (hfs b hb)) (by rw[<- z];exact a1)) (OW _)
 ·rcases (hf b hb).2.2.2.1 with z | z
  ·exact I.ok.noex b o e z
  ·exact absurd (OV (OV (OU e) I.ok.bsz) z) (OW _)
 ·rcases O5.mp (I.stkSub b z) with q | q
  ·exact(hf b hb).2.1 q
  ·exact(hf b hb).2.2.1 q
 ·have e2':∃j,cap[i]?=some (some j)/\B[j]?=some (some v):=by
   unfold rf at e2;rw[P0]at e2;cases hc:cap[i]? with
   |none=>rw[hc]at e2;cases e2
   |some o=>
    rw[hc]at e2;cases o with
    |none=>cases e2
    |some j=>
     refine⟨j,rfl,?_⟩;simp only[Option.map_some,Option.bind_some]at e2;cases hj:B[j]? with
     |none=>rw[hj]at e2;cases e2
     |some q=>
      rw[hj]at e2;simp only[Option.join_some]at e2;rw[ON e2]
  obtain⟨j,hj,hv⟩:=e2';obtain⟨hN,hx⟩:=r8 S.cap hj e1;have hkx:=S.free (x,.free) (fZ hx) rfl;obtain⟨m,hm,hl⟩:=I.loc;obtain⟨u,r,l⟩:=hl j x v hN hv (hkx.elim (fun z=>.inr (.inl z)) (fun z=>.inr (.inr z)));refine⟨u,r,.inr ⟨?_,?_⟩⟩
  ·rw [hrl, hx];show some (if _ then _ else _)=_\/some (if _ then _ else _)=_;by_cases hc:(NameKind.free == NameKind.free&&X.env.scope.kind == .function&&X.env.kindOf x == some .cell)=true
   ·rw[OS hc];exact .inl rfl
   ·rw[OT hc];exact .inr rfl
  ·obtain ⟨c, ec⟩ := hclx x hx
   have hm:(x,NameKind.cell)∉scope.names:=fun z=>by
    have:=S.nd (x,.cell) z;rw[hx]at this;cases this
   refine⟨c,(jV hm).trans ec,?_⟩;rcases l with⟨k,_⟩|⟨k,c',ec',z⟩
   ·rcases hkx with q|q <;> (rw[k]at q;cases q)
   ·have q:=hcl x c ec;rw[ec']at q;cases q;obtain⟨o,ho,hd⟩:=z;exact⟨o,hk _ o ho,hd⟩
 ·rcases hcell x c e with ⟨a1, a2⟩ | ⟨a1, a2⟩
  ·obtain⟨v,o,ho,hd⟩:=I.cell x c (hcl x c a1);exact⟨v,o,hk _ o ho,hd⟩
  ·exact⟨none,a2⟩
 ·rcases hcell x c e with ⟨a1, a2⟩ | ⟨a1, a2⟩
  ·exact I.freeC x c (hcl x c a1)
  ·exact I.hok.fresh (Nat.le_of_succ_le a1)
 ·show (cap.map _).length=Nc.length;rw[Qd,oX S.cap]
abbrev Cc:Value->Shared->Prop:=fun _ _=>False
def uY(ifs:List Expr)(env:Env):Sem Bool:=forIn ifs true fun c r=>if r=true then do let ok <- isTrue c env (eval c env);pure (ForInStep.yield ok) else pure (ForInStep.yield r)
def yb(X:Cx)(ifs:List Expr)(t:TT):Prop:=
 ∀(pins:List (Addr×Obj))(s:Shared)(B:St)(H:Hp)(Q:Bool->Hp->Prop),aZ X pins B H s->t B H Q->wpAny (model X.prog X.w) X.A (uY ifs X.env) (TP X pins B Q) X.xe s
def LS:TT:=fun _ H Q=>Q true H
theorem F5{X:Cx}:yb X [] LS:=fun _ _ _ H _ I h=>Pp ⟨H,I,h⟩
theorem F4{X:Cx}{t:TT}(h:PT X c t):yb X [c] t:=fun pins s B H Q I q=>wpAny_tests_one (h pins s B H Q I q)
def K2(e:Expr)(acc:Value)(env:Env):Sem Unit:=match e with
 |.ListComp elt _ _ _=>do let _ <- call (.builtin "list.append") [acc,<- eval elt env]
 |.SetComp elt _ _ _=>do let v <- eval elt env;standAt elt.pos;let _ <- call (.builtin "set.add") [acc,v]
 |_=>unsupported "internal:not-a-comprehension"
def rq:Expr->Bool
 |.ListComp ..=>true
 |.SetComp ..=>true
 |_=>false
def pO(M:Model)(A:Around)(e:Expr)(k:Nat)(acc:Value)(env:Env)(C:Shared->Prop)(E:Value->Shared->Prop)(s:Shared):Prop:=match (clausesOf e)[k]? with
 |some g=>wpAny M A (eval g.iter env) (fun x s1=>wpAny M A (foldedSetIterable g.iter env x) (fun x s2=>wpAny M A (pyIter x) (fun it s3=>
   codeAny M A (.compStart e k it acc env) (fun r s4=>(∃f,r=.ok f)/\C s4) s3) E s2) E s1) E s
 |none=>wpAny M A (K2 e acc env) (fun _ s1=>C s1) E s
theorem xH{M:Model}{k:Nat}{acc:Value}{C C':Shared->Prop}(hC:∀s,C s->C' s)(h:pO M A e k acc env C Cc s):pO M A e k acc env C' E s:=by
 unfold pO at h⊢;split at h
 ·exact Pe h (fun _ _ h=>Pe h (fun _ _ h=>Pe h (fun _ _ h=>PL h fun _ _ h=>⟨h.1,hC _ h.2⟩) fun _ _ z=>z.elim) fun _ _ z=>z.elim) fun _ _ z=>z.elim
 ·exact Pe h (fun _ _ h=>hC _ h) fun _ _ z=>z.elim
theorem Fk{M:Model}{d:Nat}{it acc:Value}{Q:Fin->Shared->Prop}(he:rq e=true)(hz:∀g∈clausesOf e,g.is_async=0)(hg:(clausesOf e)[d]?=some g)(h : wpAny M A (pyNext it) (fun r s₁ => match r with
   |none=>Q (.done .next) s₁
   |some v=>wpAny M A (letOwnedTupleGo g.target it v) (fun _ s₁'=>wpAny M A (assign g.target env v) (fun _ s₂=>wpAny M A (uY g.ifs env) (fun ok s₃=>
     if ok=true then pO M A e (d+1) acc env (fun s₄=>wpAny M A (again (.compLoop e d it acc env)) Q E s₄) E s₃ else wpAny M A (again (.compLoop e d it acc env)) Q E s₃) E s₂) E s₁') E s₁) E s):
  wpAny M A (compTurn e d it acc env) Q E s:=by
 have h0:=hz g (Qb hg);have h1:∀g',(clausesOf e)[d+1]?=some g'->g'.is_async=0:=fun g' h=>hz g' (Qb h);unfold compTurn
 cases e <;> first
  |exact absurd (show false=true from he) PD
  | (rename_i elt gens sc pos
     have hg':gens[d]?=some g:=hg;have h1':∀g',gens[d+1]?=some g'->g'.is_async=0:=h1;dsimp only;rw[hg'];dsimp only;rw[h0];refine Pj (Pm ?_);show wpAny M A (pyNext it >>= _) Q E s;refine Pj (Pe h (fun r s₁ h₁=>?_) fun _ _ z=>z);cases r with
     |none=>exact Pp h₁
     |some v=>
      refine Pj (Pe h₁ (fun _ s₁' h₁'=>?_) fun _ _ z=>z);refine Pj (Pe h₁' (fun _ s₂ h₂=>?_) fun _ _ z=>z);refine Pj (Pe h₂ (fun ok s₃ h₃=>?_) fun _ _ z=>z);cases ok with
      |false=>exact h₃
      |true=>
       simp only[Qm]at h₃⊢;unfold pO at h₃;dsimp only[clausesOf]at h₃;cases e2:gens[d+1]? with
       |none=>
        rw[e2]at h₃;exact Pj h₃
       |some g'=>
        rw[e2]at h₃;have e3:=h1' g' e2;simp only[e3];refine Pj (Pe h₃ (fun x s₄ h₄=>?_) fun _ _ z=>z);refine Pj (Pm ?_);show wpAny M A (foldedSetIterable g'.iter env x >>= _) Q E s₄;refine Pj (Pe h₄ (fun x s₅ h₅=>?_) fun _ _ z=>z);refine Pj (Pl ?_);show wpAny M A (pyIter x) _ E s₅;refine Pe h₅ (fun it' s₆ h₆=>?_) fun _ _ z=>z;refine Pj (wpAny_runOwn (PL h₆ fun r s₇ h₇=>?_));obtain⟨⟨f,rfl⟩,hc⟩:=h₇
        exact hc)
section
variable{w:World}{R:Result->Shared->Prop}
theorem A2{k:Nat}{it acc:Value}(he:rq e=true)(hz:∀g∈clausesOf e,g.is_async=0)(hg:(clausesOf e)[k]?=some g)(h0:codeAny (model prog w) A (.compLoop e k it acc env) R s)(h:wpAny (model prog w) A (pyIter it) (fun it' s'=>codeAny (model prog w) A (.compLoop e k it' acc env) R s') Cc s):
  codeAny (model prog w) A (.compStart e k it acc env) R s:=by
 have ha:=hz g (Qb hg)
 cases e <;> first
  |exact absurd (show false=true from he) PD
  | (refine Q0 ?_
     show wpAny _ _ ((compStart _ k it acc env).onRaise (fun x=>do noteFrame x env;standAt theWindowsPlace)) _ _ s;refine wpAny_notedAt ?_;unfold compStart;rw[hg];have e1:((some g).elim false fun x=>x.is_async != 0)=false:=by show (g.is_async != 0)=false;rw[ha];rfl
     rw[e1];simp only[QU,Ql];refine Pj (Q2 (wpAny_ite ?_));split
     ·exact Pp (And.intro rfl h0)
     ·refine Pj (Q3 ?_);refine Pj (Pm ?_)
      exact Pj (Pe h (fun it' s' h'=>Pp (And.intro rfl h')) fun _ _ z=>z.elim))
theorem BG{d:Nat}{it acc:Value}(he:rq e=true)(hz:∀g∈clausesOf e,g.is_async=0)(hg:(clausesOf e)[d]?=some g)(I:Nat->Shared->Prop)(turn : ∀ n s, I n s -> wpAny (model prog w) A (pyNext it) (fun r s₁ => match r with
   |none=>R (.ok .next) s₁
   |some v=>wpAny (model prog w) A (letOwnedTupleGo g.target it v) (fun _ s₁'=>wpAny (model prog w) A (assign g.target env v) (fun _ s₂=>
     wpAny (model prog w) A (uY g.ifs env) (fun ok s₃=>
      if ok=true then pO (model prog w) A e (d+1) acc env (fun s₅=>∃m,m<n/\I m s₅) Cc s₃
      else ∃m,m<n/\I m s₃) Cc s₂) Cc s₁') Cc s₁) Cc s)(n:Nat)(h:I n s):codeAny (model prog w) A (.compLoop e d it acc env) R s:=by
 refine codeAny_loop (by cases e <;> first|exact absurd (show false=true from he) PD|rfl) I (fun n s hI=>?_) n h
 cases e <;> first
  |exact absurd (show false=true from he) PD
  | (show wpAny _ A ((compTurn _ d it acc env).onRaise (fun x => do noteFrame x env; theTreesLotGoes x)) _ _ s
     refine wpAny_noted (Fk he hz hg (Pe (turn n s hI) (fun r s₁ h₁=>?_) fun _ _ z=>z.elim));cases r with
     |none=>exact h₁
     |some v=>
      refine Pe h₁ (fun _ s₂ h₂=>Pe h₂ (fun _ s₃ h₃=>Pe h₃ (fun ok s₄ h₄=>?_) fun _ _ z=>z.elim) fun _ _ z=>z.elim) fun _ _ z=>z.elim;cases ok with
      |false=>exact Pp ⟨rfl,h₄⟩
      |true=>
       simp only[Qm]at h₄⊢
       exact xH (fun s₅ h₅=>Pp ⟨rfl,h₅⟩) h₄)
end
abbrev Ig:=St->Hp->(St->Hp->Prop)->Prop
def Lm(X:Cx)(e:Expr)(k:Nat)(acc:Addr)(t:Ig):Prop:=
 ∀(pins:List (Addr×Obj))(s:Shared)(B:St)(H:Hp)(N:St->Hp->Prop),aZ X pins B H s->t B H N->pO (model X.prog X.w) X.A e k (.ref acc) X.env (fun s'=>∃B' H',aZ X pins B' H' s'/\N B' H') Cc s
def On(J:It)(g:TG)(tt:TT)(tb:Ig)(N:St->Hp->Prop)(B:St)(H:Hp):Prop:=∃W:Nat->Nat->St->Hp->Prop,(∃m,W 0 m B H)/\∀i m B1 H,W i m B1 H ->
 (J.stop i H/\N B1 H)\/(J.go i H/\∃N':St->Hp->Prop,(∀B' H',N' B' H'->∃m',m'<m/\W (i+1) m' B' H')/\∀x H',J.yld i H x H'->g x B1 H' fun B2 H2=>tt B2 H2 fun b H3=>if b=true then tb B2 H3 N' else N' B2 H3)
section
variable{X:Cx}{d:Nat}{cl:Comprehension}{g:TG}{tt:TT}{tb:Ig}{acc:Addr}
theorem x6{J:It}{tn:Nat->Heap->Prop}{N:St->Hp->Prop}(he:rq e=true)(hz:∀g∈clausesOf e,g.is_async=0)(hg:(clausesOf e)[d]?=some cl)(hxe:X.xe=Cc)(hc:X.calm=true)(T:AU X.prog X.w X.K cl.target J fp it tn)(hgc:PG X cl.target g)(htc:yb X cl.ifs tt)(hb:Lm X e (d+1) acc tb)(I:aZ X pins B H s)(st:tn 0 s.heap)(fr:∀b∈fp,ny X pins H b)(h:On J g tt tb N B H):
  codeAny (model X.prog X.w) X.A (.compLoop e d (.ref it) (.ref acc) X.env) (fun r s'=>r=.ok .next/\∃B' H',aZ X pins B' H' s'/\N B' H') s:=by
 obtain⟨W,⟨m0,w0⟩,turn⟩:=h;have stat:∀{H':Hp},(∀b∈fp,H' b=none)->∀b∈fp,ny X pins H' b:=fun hn b hb=>⟨hn b hb,(fr b hb).2⟩;refine BG he hz hg (fun n s'=>∃i B' H',aZ X pins B' H' s'/\tn i s'.heap/\(∀b∈fp,H' b=none)/\W i n B' H') ?_ m0 ⟨0,_,_,I,st,fun b hb=>(fr b hb).1,w0⟩
 rintro n s5 ⟨i,B5,H5,I5,st5,fr5,w5⟩
 rcases turn i n B5 H5 w5 with⟨stop,qn⟩|⟨go,N',hN,step⟩
 ·refine d8 (T.done X rfl rfl rfl hc i pins s5 B5 H5 Cc I5 (stat fr5) st5 stop) fun r s6 ⟨hr,I6⟩=>?_;subst hr;exact⟨rfl,_,_,I6,qn⟩
 ·refine d8 (T.item X rfl rfl rfl hc i pins s5 B5 H5 Cc I5 (stat fr5) st5 go) fun r s6 ⟨u, hr, h6⟩ => ?_;subst hr;refine d8 h6 fun _ s7 ⟨x,H7,I7,r7,y7,st7,fr7⟩=>?_;have I7':=I7.pinned (stat fr7) (T.obj _ _ st7);have z1:=hgc _ s7 B5 H7 x u _ I7' r7 (step x H7 y7);rw[hxe]at z1;refine d8 z1 fun _ s8 ⟨B8,H8,I8,q8⟩=>?_;have z2:=htc _ s8 B8 H8 _ I8 q8;rw[hxe]at z2;refine d8 z2 fun b s9 ⟨H9,I9,q9⟩=>?_
  have again:∀{σa:St}{Ha:Hp}{sa:Shared},aZ X (pins++rm fp s7.heap) σa Ha sa->N' σa Ha->∃m,m<n/\∃i B' H',aZ X pins B' H' sa/\tn i sa.heap/\(∀b∈fp,H' b=none)/\W i m B' H':=fun {σa Ha sa} Ia na=>by
   obtain⟨m',hm,wa⟩:=hN σa Ha na;refine⟨m',hm,i+1,σa,Ha,Ia.unpinned,T.keep _ _ _ st7 fun b hb o e=>(Ia.pin (b,o) (Py _ (Py _ (ky hb e)))).1,fun b hb=>?_,wa⟩;obtain⟨o,e,d⟩:=T.obj _ _ st7 b hb;exact(Ia.pin (b,o) (Py _ (Py _ (ky hb e)))).2.1
  cases b with
  |false=>
   rw[OT PD]at q9⊢;exact again I9 q9
  |true=>
   rw[OS rfl]at q9⊢;exact xH (fun s' ⟨B',H',I',n'⟩=>again I' n') (hb _ s9 B8 H9 _ I9 q9)
def Hu(te:TE)(acc:Addr):Ig:=fun B H N=>te B H fun y H4=>∃ys,H4 acc=some (.lst ys)/\ys.length<sizeLine/\N B (dk H4 acc (.lst (ys++[y])))
theorem xa{elt:Expr}{gens:List Comprehension}(hg:gens[d]?=none)(hxe:X.xe=Cc)(hel:PE X elt te):Lm X (.ListComp elt gens scope pos) d acc (Hu te acc):=by
 intro pins s B H N I h;unfold pO;show (match gens[d]? with|some g=>_|none=>_:Prop);rw[hg];show wpAny _ _ (do let _ <- call (.builtin "list.append") [.ref acc,<- eval elt X.env]) _ _ _;have z:=hel pins s B H _ I h;rw[hxe]at z;refine Pj (d8 z fun v10 s10 ⟨y,H10,I10,r10,ys,hy,hz,nn⟩=>?_);have z4:=uh (X:=X) pins s10 B H10 (.ref acc) [y] (.ref acc) [v10] (fun _ H'=>N B H') I10 rfl (.cons r10 .nil) ⟨_,ys,y,rfl,rfl,hy,hz,nn⟩;rw[hxe]at z4;exact Pj (d8 z4 fun v11 s11 ⟨y',H11,I11,r11,n11⟩=>Pp ⟨_,_,I11,n11⟩)
end
theorem EB{M:Model}{Q:Env->Shared->Prop}(hQ : ∀ h', h'.Ns s.heap.objs.size (fun _ => none) -> (∀ b o, s.heap.get? b = some o -> h'.get? b = some o) -> (∀ x c, (cellsFrom (s.heap.objs.size + 1) scope.names cl).lookup x = some c -> cl.lookup x = some c \/ h'.IsCell c none) ->
   ∀cenv:Env,({cenv with scope:=relabel scope env}:Env)=compEnvC scope (cellsFrom (s.heap.objs.size+1) scope.names cl) s.heap.objs.size env->cenv.locals=s.heap.objs.size->Q cenv {s with heap:=h'}):
  wpAny M A (newFunctionEnv scope env.globals cl [] env.qual none .none (some env)) Q E s:=by
 simp only[newFunctionEnv,Option.isSome_some,Qm];refine Pj (wpAny_alloc ?_);refine Pj (wpAny_layCells _ (fun name kind cells=>by cases hkc:kind == NameKind.cell <;> simp[hkc]) _ _ _ _ ?_);have hsz:(s.heap.push {cls:=.type "dict",data:=.dict #[]}).objs.size=s.heap.objs.size+1:=QY ..;refine Pj (Pp (Pp ?_));show Q _ {s with heap:=pushCells (s.heap.push {cls:=.type "dict",data:=.dict #[]}) scope.names};refine hQ _ ((Heap.Ns.new s.heap (.type "dict")).keeps (QZ _ _)) (fun b o e=>QZ _ _ b o (Pt _ e)) (fun x c e=>?_) _ ?_ rfl
 ·rw[<- hsz]at e;exact lG e
 ·show _=_;unfold compEnvC;rw[<- hsz]
def uN(o0:Addr->HO)(wi:TI)(cap:List (Option Nat))(g:TG)(tt:TT)(tb:Addr->Ig):TE:=fun B H Q=>wi B H fun J H1=>∀acc,H1 acc=none->On J g tt (tb acc) (fun _ H'=>Q (.ref acc) H') (rf cap B) (dk H1 acc (o0 acc))
def Cw(wi:TI)(cap:List (Option Nat))(g:TG)(tt:TT)(te:TE):TE:=uN (fun _=>.lst []) wi cap g tt (Hu te)
def Ov(X:Cx)(newAcc:Sem Value)(o0:Addr->HO):Prop:=∀(pins:List (Addr×Obj))(s:Shared)(B:St)(H:Hp)(Q:Value->Shared->Prop),aZ X pins B H s ->
 (∀s',aZ X pins B (dk H s.heap.objs.size (o0 s.heap.objs.size)) s'->(∀b o,s.heap.get? b=some o->s'.heap.get? b=some o)->s.heap.objs.size<s'.heap.objs.size->Q (.ref s.heap.objs.size) s')->wpAny (model X.prog X.w) X.A newAcc Q X.xe s
theorem xm{X:Cx}:Ov X (newList []) (fun _=>.lst []):=fun pins s B H Q I h=>
 QA (h _ (I.lnew (t':=s.toks) (ys:=[]) (its:=[]) .nil (Q4 _)) (fun b o e=>Pt _ e) (by rw[QY];exact QW _))
section
variable{X:Cx}{cl0:Comprehension}{rest:List Comprehension}{cap:List (Option Nat)}{wi:TI}{g:TG}{tt:TT}{tb:Addr->Ig}{o0:Addr->HO}{newAcc:Sem Value}
theorem uz{use:Option (Value->Sem Unit)}{Q:VK}{QQ:Value->Shared->Prop}(he:rq e=true)(hz:∀g∈clausesOf e,g.is_async=0)(hcl0:clausesOf e=cl0::rest)(hmk:Ov X newAcc o0)(hc:X.calm=true)(S:cV X.N X.env scope Nc cap)(hi:PI X cl0.target cl0.iter wi)(hg:∀cl C s H fp,PG (k8 X Nc scope cl C s H fp) cl0.target g)(ht:∀cl C s H fp,yb (k8 X Nc scope cl C s H fp) cl0.ifs tt)(hb:∀cl C s H fp acc,Lm (k8 X Nc scope cl C s H fp) e 1 acc (tb acc))(I:aZ X pins B H s)(h:uN o0 wi cap g tt tb B H Q)(hfin:∀C acc s' H',aZ X pins B H' s'->ny X pins H' C->(∃m,s'.heap.Ns C m)->Q (.ref acc) H'->compPost (model X.prog X.w) X.A X.xe use QQ (.ref acc) C (.ok .next) s')(hs:∀x,foldedSetIterable cl0.iter X.env x=pure x):
  wpAny (model X.prog X.w) X.A (comprehension e scope X.env pos' newAcc false (eval cl0.iter X.env) use) QQ X.xe s:=by
 obtain⟨cl,hclos,hcl,hall⟩:=zr (scope:=scope) (env:=X.env) (fun y hy hf=>I.ok.has y.1 (S.free y hy hf));have hg0:(clausesOf e)[0]?=some cl0:=by rw[hcl0];rfl
 refine wpAny_comprehension_free hcl0 hs hclos S.kind (fun x hx e=>by rw[S.nd x hx,e]) ?_;refine d8 (hi pins s B H _ I h) fun v s1 h1=>d8 h1 fun itv s2 h2=>?_;obtain⟨it,fp,tn,J,H2,e',I2,T,st2,f2,rd⟩:=h2;subst e';have rd:=rd _ I2.fresh;refine hmk pins s2 B H2 _ I2 fun s3 I3 hk3 hsz3=>?_;have st3:tn 0 s3.heap:=T.keep _ _ _ st2 fun b _ o e=>hk3 b o e
 have fpn:∀b∈fp,b≠s2.heap.objs.size:=fun b hb=>by
  obtain⟨o,eo,_⟩:=T.obj _ _ st2 b hb;exact OX (OU eo)
 have f3:∀b∈fp,ny X pins (dk H2 s2.heap.objs.size (o0 s2.heap.objs.size)) b:=fun b hb=>⟨by rw[bJ (fpn b hb)];exact(f2 b hb).1,(f2 b hb).2⟩
 have hfs:∀b∈fp,b<s3.heap.objs.size:=fun b hb=>by
  obtain⟨o,eo,_⟩:=T.obj _ _ st3 b hb;exact OU eo
 refine EB fun h1 hns1 hk1 hce cenv ecenv elc=>?_;rw[ecenv]
 have IB:aZ (k8 X Nc scope cl s3.heap.objs.size s3 (dk H2 s2.heap.objs.size (o0 s2.heap.objs.size)) fp) [] (rf cap B) (dk H2 s2.heap.objs.size (o0 s2.heap.objs.size)) {s3 with heap:=h1,toks:=s3.toks}:=
  BL I3 f3 hfs S hcl hall hns1 hk1 hce
 have stB:tn 0 h1:=T.keep _ _ _ st3 fun b _ o e=>hk1 b o e;rw[elc]
 have frB:∀b∈fp,ny (k8 X Nc scope cl s3.heap.objs.size s3 (dk H2 s2.heap.objs.size (o0 s2.heap.objs.size)) fp) [] (dk H2 s2.heap.objs.size (o0 s2.heap.objs.size)) b:=fun b hb=>
  ⟨(f3 b hb).1,(IB.ok.exf b hb).1,IB.ok.exfs b hb,.inl hb,(IB.ok.exf b hb).2,fun p hp=>absurd (show p∈([]:List (Addr×Obj)) from hp) (by simp)⟩
 have loop:=x6 (X:=k8 X Nc scope cl s3.heap.objs.size s3 (dk H2 s2.heap.objs.size (o0 s2.heap.objs.size)) fp) he hz hg0 rfl hc T (hg _ _ _ _ _) (ht _ _ _ _ _) (hb _ _ _ _ _ _) IB stB frB rd
 have fin:∀r s',(r=.ok .next/\∃B' H',aZ (k8 X Nc scope cl s3.heap.objs.size s3 (dk H2 s2.heap.objs.size (o0 s2.heap.objs.size)) fp) [] B' H' s'/\Q (.ref s2.heap.objs.size) H')->compPost (model X.prog X.w) X.A X.xe use QQ (.ref s2.heap.objs.size) s3.heap.objs.size r s':=by
  rintro r s' ⟨rfl,B',H',J',q⟩
  have I5:aZ X pins B H' s':=I3.call' (ch:=fp) J'.os J'.base J'.hok J'.bare fun b hbf=>⟨(f3 b hbf).2.2.2.1,(f3 b hbf).2.1,(f3 b hbf).2.2.2.2.1,(f3 b hbf).2.2.2.2.2⟩;obtain⟨mm,hnn,_⟩:=J'.loc;exact hfin _ _ s' H' I5 (I3.fpOk (Pv _) J'.free) ⟨mm,hnn⟩ q
 exact A2 he hz hg0 (PL loop fin) (T.self _ 0 _ _ _ stB (PL loop fin))
variable{elt:Expr}
theorem D6(hc:X.calm=true)(hz:∀g∈cl0::rest,g.is_async=0)(S:cV X.N X.env scope Nc cap)(hi:PI X cl0.target cl0.iter wi)
  (hg:∀cl C s H fp,PG (k8 X Nc scope cl C s H fp) cl0.target g) (ht:∀cl C s H fp,yb (k8 X Nc scope cl C s H fp) cl0.ifs tt) (hb:∀cl C s H fp acc,Lm (k8 X Nc scope cl C s H fp) (.ListComp elt (cl0::rest) scope pos) 1 acc (tb acc))
  (hs:∀x,foldedSetIterable cl0.iter X.env x=pure x):PE X (.ListComp elt (cl0::rest) scope pos) (uN (fun _=>.lst []) wi cap g tt tb):=by
 intro pins s B H Q I h;have h0:=hz cl0 O3;obtain⟨tg0,it0,if0,as0⟩:=cl0;have h0':as0=0:=h0;subst h0';rw[arm_eval_ListComp];refine uz (e:=.ListComp elt (_::rest) scope pos) (Q:=Q) rfl hz rfl xm hc S hi hg ht hb I h (fun C acc s' H' I' hf hn q=>?_) hs;obtain⟨m,hn⟩:=hn;refine⟨m,hn,fun h' sb=>⟨.ref acc,H',?_,rfl,q⟩⟩;exact I'.turned (t':=s'.toks) (it:=C) (fun b o hb e=>(sb.2 b hb).trans e) hf.1 hf.2.1 hf.2.2.2.1 hf.2.2.2.2.1 hf.2.2.2.2.2
theorem D0(hc:X.calm=true)(hz:∀g∈cl0::rest,g.is_async=0)(hN:X.N.Nodup)(hix:X.N[i]?=some x)(hx:X.env.scope.names.lookup x=some .local)(S:cV X.N X.env scope Nc cap)(hi:PI X cl0.target cl0.iter wi)(hg:∀cl C s H fp,PG (k8 X Nc scope cl C s H fp) cl0.target g)(ht:∀cl C s H fp,yb (k8 X Nc scope cl C s H fp) cl0.ifs tt)(hb:∀cl C s H fp acc,Lm (k8 X Nc scope cl C s H fp) (.ListComp elt (cl0::rest) scope pos) 1 acc (tb acc))(hsw:swapsWith (.ListComp elt (cl0::rest) scope pos) (some (.Name x pos1)) pos2.line X.env=pure true)(hs:∀x,foldedSetIterable cl0.iter X.env x=pure x):
  PS X (.Assign [.Name x pos1] (.ListComp elt (cl0::rest) scope pos) pos2) (Cj (uN (fun _=>.lst []) wi cap g tt tb) (wt i)):=by
 intro pins s B H D I h;have h0:=hz cl0 O3;obtain⟨tg0,it0,if0,as0⟩:=cl0;have h0':as0=0:=h0;subst h0';rw[exec_Assign_Name_used _ _ _ _ hsw];refine Pj (Pm (Pj ?_));show wpAny _ X.A (do let _ <- comprehension (.ListComp elt (⟨tg0,it0,if0,0⟩::rest) scope pos) scope X.env _ (newList []) false (eval it0 X.env) (some (assign (.Name x pos1) X.env))) _ _ s
 refine Pj (Pe (uz (e:=.ListComp elt (_::rest) scope pos) (use:=some (assign (.Name x pos1) X.env)) (Q:=fun v H1=>D.nx (B.set i (some v)) H1) (QQ:=fun _ s'=>SP X pins D .next s') rfl hz rfl xm hc S hi hg ht hb I h (fun C acc s' H' I' hf hn q=>?_) hs)
  (fun _ s' hq=>Pp (Pp hq)) fun _ _ e=>e)
 obtain⟨m,hn⟩:=hn;show wpAny _ X.A (assign (.Name x pos1) X.env (.ref acc)) _ _ _;refine wpAny_assign_Name (tV I' hN hix (.inl hx) (show cx (.ref acc) (.ref acc) from rfl) (fun s'' I'' hsb=>?_) (.inr hx));obtain⟨a,sb,ha⟩:=hsb
 have hCa:C≠a:=by
  rcases ha with z|z
  ·rw[z];exact hf.2.1
  ·exact fun e=>hf.2.2.2.2.1 x a z e.symm
 refine⟨m,hn.sameBut sb hCa,fun h' sb'=>⟨_,H',?_,q⟩⟩;exact I''.turned (t':=s''.toks) (it:=C) (fun b o hb e=>(sb'.2 b hb).trans e) hf.1 hf.2.1 hf.2.2.2.1 hf.2.2.2.2.1 hf.2.2.2.2.2
variable{ifs:List Expr}
theorem ug:∀g∈([⟨tg,iter,ifs,0⟩]:List Comprehension),g.is_async=0:=fun g hg=>by rw[Q5.mp hg]
theorem Gi(hc:X.calm=true)(S:cV X.N X.env scope Nc cap)(hi:PI X tg iter wi)
  (hg:∀cl C s H fp,PG (k8 X Nc scope cl C s H fp) tg g) (ht:∀cl C s H fp,yb (k8 X Nc scope cl C s H fp) ifs tt) (he:∀cl C s H fp,PE (k8 X Nc scope cl C s H fp) elt te)
  (hs:∀x,foldedSetIterable iter X.env x=pure x:=by intro _;rfl):PE X (.ListComp elt [⟨tg,iter,ifs,0⟩] scope pos) (Cw wi cap g tt te):=
 D6 (cl0:=⟨tg,iter,ifs,0⟩) hc ug S hi hg ht (fun cl C s H fp acc=>xa rfl rfl (he cl C s H fp)) hs
theorem F9(hc:X.calm=true)(hN:X.N.Nodup)(hix:X.N[i]?=some x)(hx:X.env.scope.names.lookup x=some .local)(S:cV X.N X.env scope Nc cap)(hi:PI X tg iter wi)(hg:∀cl C s H fp,PG (k8 X Nc scope cl C s H fp) tg g)(ht:∀cl C s H fp,yb (k8 X Nc scope cl C s H fp) ifs tt)(he:∀cl C s H fp,PE (k8 X Nc scope cl C s H fp) elt te)(hsw:swapsWith (.ListComp elt [⟨tg,iter,ifs,0⟩] scope pos) (some (.Name x pos1)) pos2.line X.env=pure true)(hs:∀x,foldedSetIterable iter X.env x=pure x:=by intro _;rfl):
  PS X (.Assign [.Name x pos1] (.ListComp elt [⟨tg,iter,ifs,0⟩] scope pos) pos2) (Cj (Cw wi cap g tt te) (wt i)):=
 D0 (cl0:=⟨tg,iter,ifs,0⟩) hc ug hN hix hx S hi hg ht (fun cl C s H fp acc=>xa rfl rfl (he cl C s H fp)) hsw hs
end
end L2
namespace RS
open PySem PySem.W PyProof.Rows
open AutoSeq1 (wpAny_loadPart')
section
variable{w:World}
theorem vI{t:Addr}{items}{x:Value}(hit:s.heap.IsTupleIter it t i)(ht:s.heap.IsTuple t items)(hx:items[i]?=some x)(hQ:∀h',h'.IsTupleIter it t (i+1)->Heap.SameBut it s.heap h'->Q x {s with heap:=h'}):wpAny (model prog w) A (Builtin.SmallTypes.nextOf (.ref it)) Q E s:=by
 obtain⟨o,ho,hc,hd⟩:=id hit;obtain⟨ol,hol,_,nl,hdl⟩:=ht;unfold Builtin.SmallTypes.nextOf;refine Pj (Qs (name:=Str.ofString "__next__") hit.typeIs Q6 (Qu Q6 hit.typeIs Q7 ?_ (Q8 _)));show wpAny _ _ (field (.ref it) 0 >>= _) _ _ s;refine Pj (Qo ho hd (x:=.ref t) rfl ?_);show wpAny _ _ (if (Value.ref t == Value.none)=true then _ else _) _ _ s;rw[OT (show ¬ ((Value.ref t == Value.none)=true) from PD)];show wpAny _ _ (field (.ref it) 1 >>= _) _ _ s;refine Pj (Qo ho hd (x:=.int i 0) rfl ?_);show wpAny _ _ (seqItems? (.ref t) >>= _) _ _ s;refine Pj (Q9 hol hdl ?_);simp only[Qj,hx];refine Pj (wpAny_setField ho hd (by simp) (Pp ⟨x,rfl,Pp (hQ _ ?_ (Ra ..))⟩));exact⟨_,QF _ ho (Obj.isFreed_of_fields (Obj.data_mapFields hd _)),(Obj.cls_mapFields ..).trans hc,by rw[Obj.data_mapFields hd];simp[rawInt]⟩
theorem pE{t:Addr}{items}(hh:A.handled=none)(hit:s.heap.IsTupleIter it t i)(ht:s.heap.IsTuple t items)(hx:items[i]?=none)(hE:∀h' e,Heap.ExtBut it s.heap h'->(∃o,h'.get? e=some o/\o.cls=.type "StopIteration")->E (.ref e) {s with heap:=h'}):wpAny (model prog w) A (Builtin.SmallTypes.nextOf (.ref it)) Q E s:=by
 obtain⟨o,ho,hc,hd⟩:=id hit;obtain⟨ol,hol,_,nl,hdl⟩:=ht;unfold Builtin.SmallTypes.nextOf;refine Pj (Qs (name:=Str.ofString "__next__") hit.typeIs Q6 (Qu Q6 hit.typeIs Q7 ?_ (Q8 _)));show wpAny _ _ (field (.ref it) 0 >>= _) _ _ s;refine Pj (Qo ho hd (x:=.ref t) rfl ?_);show wpAny _ _ (if (Value.ref t == Value.none)=true then _ else _) _ _ s;rw[OT (show ¬ ((Value.ref t == Value.none)=true) from PD)];show wpAny _ _ (field (.ref it) 1 >>= _) _ _ s;refine Pj (Qo ho hd (x:=.int i 0) rfl ?_);show wpAny _ _ (seqItems? (.ref t) >>= _) _ _ s;refine Pj (Q9 hol hdl ?_);simp only[Qj,hx];refine Pj (Q3 (Pj (wpAny_setField ho hd (by simp) ?_)));show wpAny _ _ (newExc (.type "StopIteration") [] >>= _) _ _ _;refine Pj ?_;simp only[newExc,newTuple];refine Pj (QA ?_ (by size_fits));refine Pj (m:=firstArgMember _ _) (Rb (a:=Value.none) (by first|rfl|(simp only[firstArgMember];rfl)) ?_);refine QA ?_ (by size_fits);simp only[raiseNew];refine Pj (wpAny_handled ?_)
 first|rw[show A.in1.handled=none from hh]|rw[hh]
 refine Pj (Pp (wpAny_throw ?_));exact hE _ _ (((Ra ..).extBut.push _).push _) ⟨_,Pu _ rfl,rfl⟩
end
theorem K4{w:World}(hh:A.handled=none)(it l:Addr)(hne:l≠it)(items:Array Value):
  Draws prog w A it [it,l] items.size (fun i v=>items[i]?=some v) (fun i h=>h.IsTupleIter it l i/\h.IsTuple l items) where
 live:=fun _ _ st=>let ⟨o,ho,_⟩:=st.1;⟨o,ho⟩
 frame:=fun _ _ _ st hk=>⟨by
  obtain⟨o,ho,r⟩:=st.1;exact⟨o,hk it (by simp) o ho,r⟩,by
  obtain⟨o,ho,r⟩:=st.2
  exact⟨o,hk l (by simp) o ho,r⟩⟩
 item:=fun i s Q E hi st hQ=>by
  refine vI st.1 st.2 (x:=items[i]) (by simp[hi]) fun h' hit' hs'=>?_;refine hQ _ h' s.toks (by simp[hi]) ⟨hit',?_⟩ hs';obtain⟨o,ho,r⟩:=st.2;exact⟨o,(hs'.2 l hne).trans ho,r⟩
 done:=fun s Q E st hE=>pE hh st.1 st.2 (by simp) hE
end RS
namespace L2
open PySem PySem.Spec PyProof.Rows RS
def Sq(b:Bool)(K:W.Frag)(H:Hp)(a:Addr)(xs:List V):Prop:=if b=true then fK K H a xs else gr K H a xs
def qQ(b:Bool)(h:Heap)(it a:Addr)(i:Nat):Prop:=if b=true then h.IsListIter it a i else h.IsTupleIter it a i
theorem qQ.obj{b:Bool}{h:Heap}(x:qQ b h it a i):∃o,h.get? it=some o/\∀v,o.data≠.cell v:=by
 cases b with
 |true=>obtain⟨o,e,c,d⟩:=(show h.IsListIter it a i from x);exact⟨o,e,fun v z=>by rw[d]at z;cases z⟩
 |false=>obtain⟨o,e,c,d⟩:=(show h.IsTupleIter it a i from x);exact⟨o,e,fun v z=>by rw[d]at z;cases z⟩
theorem qQ.keep{b:Bool}{h:Heap}(x:qQ b h it a i)(k:∀o,h.get? it=some o->h'.get? it=some o):qQ b h' it a i:=by
 cases b with
 |true=>obtain⟨o,e,r⟩:=(show h.IsListIter it a i from x);exact(show h'.IsListIter it a i from⟨o,k o e,r⟩)
 |false=>obtain⟨o,e,r⟩:=(show h.IsTupleIter it a i from x);exact(show h'.IsTupleIter it a i from⟨o,k o e,r⟩)
theorem nS{X:Cx}{b:Bool}{xs:List V}(I:aZ X pins B H s)(hc:X.calm=true)(hq:Sq b X.K H a xs)(hne:a≠it):
  ∃(its:Array Value)(St:Nat->Heap->Prop),bp xs its.toList/\Draws X.prog X.w X.A.in1 it [it,a] its.size (fun i v=>its[i]?=some v) St/\(∀i,qQ b s.heap it a i->St i s.heap)/\∀i h,St i h->qQ b h it a i:=by
 have hh:X.A.in1.handled=none:=by simpa using I.ok.hd hc
 cases b with
 |true=>
  obtain⟨its,rv,p,hz⟩:=I.list (show fK X.K H a xs from hq);exact⟨its.toArray,_,by simpa using rv,Draws.list hh it a hne its.toArray,fun i h=>⟨h,p.isList⟩,fun i h st=>st.1⟩
 |false=>
  obtain⟨its,rv,p,hz⟩:=I.tuple (show gr X.K H a xs from hq);exact⟨its.toArray,_,by simpa using rv,K4 hh it a hne its.toArray,fun i h=>⟨h,p⟩,fun i h st=>st.1⟩
theorem CZ{X:Cx}{b:Bool}{xs ys:List V}(I:aZ X pins B H s)(h1:Sq b X.K H a xs)(h2:Sq b X.K H a ys):xs=ys:=by
 cases b with
 |true=>exact I.list_inj h1 h2
 |false=>exact I.tuple_inj h1 h2
theorem aZ.turns{X:Cx}(I:aZ X pins B H s)(k:∀b o,b∉ch->s.heap.get? b=some o->h'.get? b=some o)(hf:∀b∈ch,ny X pins H b):aZ X pins B H {s with heap:=h',toks:=t'}:=by
 have nit:∀b u,H b=some u->b∉ch:=fun b u e z=>by rw[(hf b z).1]at e;cases e
 refine I.step (g':=s.gens) (d':=s.drawn) (ch:=ch) (fun b hb=>?_) (fun b o _ _ hc e _=>k b o hc e) (fun b o _ _ hc e _=>⟨o.slots,k b o hc e⟩) (fun _ _ _ _ n=>n)
  (fun b o hc e=>⟨o,k b o hc e⟩) (fun _ _ e=>e) (fun _ _ _ e=>e) (fun b ps e=>⟨#[],by rw[e];simp⟩) (fun m hm=>?_) (fun b u e=>?_) I.bare
 ·obtain⟨f0,f1,f2,f3,f4,f5⟩:=hf b hb;exact⟨f3,f1,f4,f5⟩
 ·obtain⟨o,es,ep,ho,r⟩:=hm;exact⟨o,es,ep,k _ o (fun z=>(hf _ z).2.1 rfl) ho,r⟩
 ·refine (I.hok b u e).stay (fun c v hc q => k c v ?_ q) (fun _ q => q) fun _ _ q => q;rcases hc with z|z
  ·rw[z];exact nit b u e
  ·exact nit c _ z
end L2
namespace RS
open PySem
def AG(mask:Nat):Nat->Nat->Nat->List Nat
 |0,_,_=>[]
 |n+1,i,pe=>(List.range (SetTable.runEnd mask i+1-i)).map (i+·)++AG mask n (SetTable.leap mask i pe).1 (SetTable.leap mask i pe).2
def du(mask:Nat)(h:Int):List Nat:=AG mask (SetTable.turns mask) (SetTable.bits h%(mask+1)) (SetTable.bits h)
def iW(t:SetTable):Nat->SetTable.Probe->List Nat
 |0,_=>[]
 |n+1,p=>p.j::iW t n (t.advance p)
def nD(mask i pe:Nat)(d:Option Nat):SetTable.Probe:={j:=i,more:=SetTable.runEnd mask i-i,i,perturb:=pe,dummy:=d}
theorem wI(t:SetTable):∀(m n:Nat)(p:SetTable.Probe),p.more=m ->
  iW t (m+1+n) p=(List.range (m+1)).map (p.j+·)++iW t n (nD t.mask (SetTable.leap t.mask p.i p.perturb).1 (SetTable.leap t.mask p.i p.perturb).2 p.dummy)
 |0,n,p,h=>by
  have e:0+1+n=n+1:=by omega
  rw[e];show p.j::iW t n (t.advance p)=_
  have ea:t.advance p=nD t.mask (SetTable.leap t.mask p.i p.perturb).1 (SetTable.leap t.mask p.i p.perturb).2 p.dummy:=by
   unfold SetTable.advance;rw[OT (by omega)];rfl
  rw[ea];simp
 |m+1,n,p,h=>by
  have e:m+1+1+n=(m+1+n)+1:=by omega
  rw[e];show p.j::iW t (m+1+n) (t.advance p)=_
  have ea:t.advance p={p with j:=p.j+1,more:=p.more-1}:=by
   unfold SetTable.advance;rw[OS (by omega)]
  rw[ea,wI t m n {p with j:=p.j+1,more:=p.more-1} (by show p.more-1=m;omega)];rw[Rc (n:=m+1),QC,Re];show p.j::((List.range (m+1)).map (p.j+1+·)++_)=(p.j+0)::(List.map _ _)++_;rw[Nat.add_zero];show p.j::(_++_)=p.j::(_++_);congr 2;apply Rf;intro a _;show p.j+1+a=p.j+(a+1);omega
theorem C3(mask i:Nat):i<=SetTable.runEnd mask i/\SetTable.runEnd mask i<=i+9:=by
 unfold SetTable.runEnd;split <;> omega
theorem rE(t:SetTable):∀(n i pe:Nat)(d:Option Nat),iW t (AG t.mask n i pe).length (nD t.mask i pe d)=AG t.mask n i pe
 |0,_,_,_=>rfl
 |n+1,i,pe,d=>by
  have hr:=C3 t.mask i;show iW t ((List.range (SetTable.runEnd t.mask i+1-i)).map (i+·)++_).length _=_;rw[Qc,Qd,Rg];have e:SetTable.runEnd t.mask i+1-i=(SetTable.runEnd t.mask i-i)+1:=by omega
  rw[e,wI t (SetTable.runEnd t.mask i-i) _ (nD t.mask i pe d) rfl];show _++iW t (AG t.mask n (SetTable.leap t.mask i pe).1 (SetTable.leap t.mask i pe).2).length (nD t.mask (SetTable.leap t.mask i pe).1 (SetTable.leap t.mask i pe).2 d)=_;rw[rE t n];show _=(List.range (SetTable.runEnd t.mask i+1-i)).map (i+·)++_;rw[e];rfl
theorem u6(mask:Nat):∀(n i pe:Nat),(AG mask n i pe).length<=10*n
 |0,_,_=>Q4 _
 |n+1,i,pe=>by
  have hr:=C3 mask i;have ih:=u6 mask n (SetTable.leap mask i pe).1 (SetTable.leap mask i pe).2;show ((List.range (SetTable.runEnd mask i+1-i)).map (i+·)++_).length<=_;rw[Qc,Qd,Rg];omega
theorem vk(t:SetTable)(hashAt:Nat->Int)(h:Int):∀(pre:List Nat)(j:Nat)(post:List Nat)(fuel:Nat)(p:SetTable.Probe),iW t (pre.length+1+post.length) p=pre++j::post->pre.length<fuel->p.dummy=none ->
  (∀k∈pre,∃i,t.slot k=.live i/\hashAt i≠h) ->
  (t.slot j=.empty->SetTable.probe.go t hashAt h fuel p=some (.empty j none))/\(∀i,t.slot j=.live i->hashAt i=h->∃nx,SetTable.probe.go t hashAt h fuel p=some (.candidate j i nx))
 |[],j,post,0,p,_,hf,_,_=>by simp at hf
 |[],j,post,fuel+1,p,hw,_,hd,_=>by
  have ew:iW t (([]:List Nat).length+1+post.length) p=p.j::iW t post.length (t.advance p):=by
   rw[Rh,show 0+1+post.length=post.length+1 from by omega];rfl
  rw[ew,QO]at hw;have ej:p.j=j:=(Ri hw).1;refine⟨fun he=>?_,fun i hl hh=>?_⟩
  ·show (match t.slot p.j with | .empty=>_ | .dummy=>_ | .live i=>_)=_;rw[ej,he,hd]
  ·refine⟨t.advance p,?_⟩;show (match t.slot p.j with | .empty=>_ | .dummy=>_ | .live i=>_)=_;rw[ej,hl];show (if (hashAt i == h)=true then _ else _)=_;rw[OS (by simpa using hh)]
 |x::pre,j,post,0,p,_,hf,_,_=>by simp at hf
 |x::pre,j,post,fuel+1,p,hw,hf,hd,hp=>by
  have ew:iW t ((x::pre).length+1+post.length) p=p.j::iW t (pre.length+1+post.length) (t.advance p):=by
   rw[QV,show pre.length+1+1+post.length=(pre.length+1+post.length)+1 from by omega];rfl
  rw[ew,Rj]at hw;have ej:p.j=x:=(Ri hw).1;have er:=(Ri hw).2;obtain⟨i,hl,hne⟩:=hp x O3
  have hda:(t.advance p).dummy=none:=by
   unfold SetTable.advance;split
   ·exact hd
   ·exact hd
  have ih:=vk t hashAt h pre j post fuel (t.advance p) er (by rw[QV]at hf;omega) hda (fun k hk=>hp k (O4 _ hk))
  have eg:SetTable.probe.go t hashAt h (fuel+1) p=SetTable.probe.go t hashAt h fuel (t.advance p):=by
   show (match t.slot p.j with | .empty=>_ | .dummy=>_ | .live i=>_)=_;rw[ej,hl];show (if (hashAt i == h)=true then _ else _)=_;rw[OT (by simpa using hne)]
  rw[eg];exact ih
def ET(xs:List Nat):Prop:=xs.Pairwise (·<·)
theorem sd(xs:Array Nat)(j:Nat):∀(fuel lo hi:Nat),lo<=hi->hi<=xs.size->hi-lo<=fuel->(∀i k,i<k->k<xs.size->xs.getD i j<xs.getD k j)->(∀i,i<lo->xs.getD i j<j)->(∀i,hi<=i->i<xs.size->j<=xs.getD i j) ->
  let b:=SetTable.below.go xs j fuel lo hi
  b<=xs.size/\(∀i,i<b->xs.getD i j<j)/\(∀i,b<=i->i<xs.size->j<=xs.getD i j)
 |0,lo,hi,h1,h2,h3,hr,ha,hb=>by
  have e:lo=hi:=by omega
  subst e;exact⟨h2,ha,hb⟩
 |fuel+1,lo,hi,h1,h2,h3,hr,ha,hb=>by
  by_cases hlt:lo<hi
  ·simp only [SetTable.below.go, hlt, Qm];by_cases hc:xs.getD ((lo+hi) / 2) j<j
   ·rw [OS hc];refine sd xs j fuel _ hi (by omega) h2 (by omega) hr (fun i hi'=>?_) hb;by_cases e:i=(lo+hi) / 2
    ·rw[e];exact hc
    ·have:=hr i ((lo+hi) / 2) (by omega) (by omega);omega
   ·rw [OT hc];refine sd xs j fuel lo _ (by omega) (by omega) (by omega) hr ha (fun i hi' hs=>?_);by_cases e:i=(lo+hi) / 2
    ·rw[e];omega
    ·have:=hr ((lo+hi) / 2) i (by omega) hs;omega
  ·have e : lo = hi := by omega
   subst e;simp only[SetTable.below.go,hlt,Ql];exact⟨h2,ha,hb⟩
theorem vb{xs:Array Nat}(h:ET xs.toList)(j:Nat):∀i k,i<k->k<xs.size->xs.getD i j<xs.getD k j:=fun i k hik hk=>by
 have hi:i<xs.size:=by omega
 have:=Rk.mp h i k (by simpa using hi) (by simpa using hk) hik;simpa[Array.getD,hi,hk] using this
theorem mX{xs:Array Nat}(h:ET xs.toList)(j:Nat):SetTable.below xs j<=xs.size/\(∀i,i<SetTable.below xs j->xs.getD i j<j)/\(∀i,SetTable.below xs j<=i->i<xs.size->j<=xs.getD i j):=
 sd xs j xs.size 0 xs.size (Q4 _) (Pv _) (by omega) (vb h j) (fun i hi=>by omega) (fun i h1 h2=>by omega)
theorem σ8{xs:Array Nat}(h:ET xs.toList)(e:xs[i]?=some j):SetTable.below xs j=i:=by
 obtain⟨h1,h2,h3⟩:=mX h j
 have hi:i<xs.size:=by
  rcases Rm.mp e with⟨q,_⟩;exact q
 have ei:xs.getD i j=j:=by
  rcases Rm.mp e with⟨q,z⟩
  simp[Array.getD,hi,z]
 by_cases hlt:SetTable.below xs j<i
 ·have a:=h3 (SetTable.below xs j) (Pv _) (by omega);have b:=vb h j (SetTable.below xs j) i hlt hi;omega
 ·by_cases hgt : i < SetTable.below xs j
  ·have:=h2 i hgt;omega
  ·omega
theorem kJ{Z:Type}(xs:Array Z)(p:Nat)(x:Z):(SetTable.insertAt xs p x).toList=xs.toList.take p++x::xs.toList.drop p:=by
 unfold SetTable.insertAt;simp[Rn]
theorem kz{Z:Type}(p:Z->Prop):∀(l:List Z),(∃x∈l,p x)->∃pre x post,l=pre++x::post/\p x/\∀y∈pre,¬ p y
 |[],h=>by obtain⟨x,hx,_⟩:=h;simp at hx
 |a::l,h=>by
  by_cases ha:p a
  ·exact⟨[],a,l,rfl,ha,fun y hy=>by simp at hy⟩
  ·obtain ⟨x, hx, px⟩ := h;rcases O5.mp hx with z|z
   ·rw[z]at px;exact absurd px ha
   ·obtain ⟨pre, y, post, e, py, hp⟩ := kz p l ⟨x, z, px⟩;refine⟨a::pre,y,post,by rw[e];rfl,py,fun w hw=>?_⟩;rcases O5.mp hw with q|q
    ·rw[q];exact ha
    ·exact hp w q
structure tN(t:SetTable)(es:Array (Int×Value))(α:List (Nat×Int×Value)):Prop where
 place:t.place.toList=α.map (·.1)
 ents:es.toList=α.map (·.2)
 ris:ET (α.map (·.1))
 top:∀z∈α,z.1<=t.mask
 dum:t.dummies=#[]
 reach:∀z∈α,∃pre post,du t.mask z.2.1=pre++z.1::post/\∀k∈pre,k∈α.map (·.1)
theorem tN.size(T:tN t es α):t.place.size=α.length/\es.size=α.length:=by
 have a:=Ph List.length T.place;have b:=Ph List.length T.ents;simp at a b;exact⟨a,b⟩
theorem tN.fill(T:tN t es α):t.fill=α.length:=by
 unfold SetTable.fill;rw[T.size.1,T.dum];rfl
theorem uk(j:Nat):SetTable.has #[] j=false:=by
 unfold SetTable.has;simp
theorem tN.slot_empty(T:tN t es α)(h:j∉α.map (·.1)):t.slot j=.empty:=by
 unfold SetTable.slot
 have hn:¬ (t.place[SetTable.below t.place j]? == some j)=true:=by
  intro e;have e':t.place[SetTable.below t.place j]?=some j:=by simpa using e
  apply h;rw[<- T.place];rw[<- Rp]at e';exact Qb e'
 simp only[hn,T.dum,uk];rfl
theorem tN.slot_live(T:tN t es α)(h:α[i]?=some z):t.slot z.1=.live i:=by
 have e:t.place[i]?=some z.1:=by
  rw[<- Rp,T.place,P0,h];rfl
 have r:ET t.place.toList:=by rw[T.place];exact T.ris
 have eb:=σ8 r e;unfold SetTable.slot;have hc:(t.place[SetTable.below t.place z.1]? == some z.1)=true:=by rw[eb,e];simp
 simp only[hc,Qm];rw[eb]
theorem tN.hashAt(T:tN t es α)(h:α[i]?=some z):es[i]?=some z.2:=by
 rw[<- Rp,T.ents,P0,h];rfl
theorem jQ{Z:Type}:∀{l1 l2:List Z},l1.Nodup->(∀x∈l1,x∈l2)->l1.length<=l2.length
 |[],_,_,_=>Q4 _
 |a::r,l2,hn,hs=>by
  obtain⟨s,t,e⟩:=List.append_of_mem (hs a O3);have hn':=PN.mp hn
  have ih:=jQ (l1:=r) (l2:=s++t) hn'.2 (fun x hx=>by
   have hx2:=hs x (O4 _ hx);rw[e]at hx2;rcases O7.mp hx2 with q|q
   ·exact O8 _ q
   ·rcases O5.mp q with q | q
    ·rw[q]at hx;exact absurd hx hn'.1
    ·exact Py _ q)
  rw[e,Qc,QV,QV];rw[Qc]at ih;omega
theorem zY(mask:Nat):∀(n i pe:Nat),i<=mask->∀j∈AG mask n i pe,j<=mask
 |0,_,_,_,j,h=>by simp[AG]at h
 |n+1,i,pe,hi,j,h=>by
  rcases O7.mp h with q|q
  ·obtain ⟨k, hk, e⟩ := Rq.mp q;have hk':=OZ.mp hk;have:SetTable.runEnd mask i<=mask:=by unfold SetTable.runEnd;split <;> omega
   have e':i+k=j:=e;omega
  ·refine zY mask n _ _ ?_ j q;show (i*5+1+pe / 32)%(mask+1)<=mask;exact Rt (Nat.mod_lt _ (Nat.succ_pos mask))
theorem jT{h:Int}(e:j∈du mask h):j<=mask:=by
 refine zY mask _ _ _ ?_ j e;exact Rt (Nat.mod_lt _ (Nat.succ_pos mask))
theorem uo{m:Nat}{l:List Nat}(h:l.length<=m):∃j,j<=m/\j∉l:=by
 refine Ru fun hn=>?_
 have hall:∀j∈List.range (m+1),j∈l:=fun j hj=>by
  refine Ru fun hj'=>hn ⟨j,?_,hj'⟩;have:=OZ.mp hj;omega
 have:=jQ (Rv (n:=m+1)) hall;rw[Rg]at this;omega
theorem tN.search(T:tN t es α){h:Int}(cov:∀j,j<=t.mask->j∈du t.mask h)(hz:α.length<=t.mask)(hA:Nat->Int)(hAe:∀i z,α[i]?=some z->hA i=z.2.1):
  (∃i z nx,α[i]?=some z/\z.2.1=h/\t.probe hA h (t.probeStart h)=some (.candidate z.1 i nx)) \/
  ((∀z∈α,z.2.1≠h)/\∃j pre post,t.probe hA h (t.probeStart h)=some (.empty j none)/\j<=t.mask/\j∉α.map (·.1)/\du t.mask h=pre++j::post/\∀k∈pre,k∈α.map (·.1)):=by
 obtain⟨j0,hj0,hn0⟩:=uo (m:=t.mask) (l:=α.map (·.1)) (by rw[Qd];exact hz);obtain⟨pre,j,post,e,hs,hp⟩:=kz (fun j=>j∉α.map (·.1)\/∃z∈α,z.1=j/\z.2.1=h) (du t.mask h) ⟨j0,cov j0 hj0,.inl hn0⟩
 have hw:iW t (pre.length+1+post.length) (t.probeStart h)=pre++j::post:=by
  have q:=rE t (SetTable.turns t.mask) (SetTable.bits h%(t.mask+1)) (SetTable.bits h) none
  have el:(AG t.mask (SetTable.turns t.mask) (SetTable.bits h%(t.mask+1)) (SetTable.bits h)).length=pre.length+1+post.length:=by
   show (du t.mask h).length=_;rw[e,Qc,QV];omega
  rw[el]at q;exact q.trans e
 have hlen:pre.length<10*SetTable.turns t.mask:=by
  have q:=u6 t.mask (SetTable.turns t.mask) (SetTable.bits h%(t.mask+1)) (SetTable.bits h)
  have el:(AG t.mask (SetTable.turns t.mask) (SetTable.bits h%(t.mask+1)) (SetTable.bits h)).length=pre.length+1+post.length:=by
   show (du t.mask h).length=_;rw[e,Qc,QV];omega
  omega
 have occ:∀k∈pre,k∈α.map (·.1):=fun k hk=>by
  refine Ru fun q=>hp k hk (.inl q)
 have hpre:∀k∈pre,∃i,t.slot k=.live i/\hA i≠h:=fun k hk=>by
  obtain⟨z,hzm,ez⟩:=Rq.mp (occ k hk);obtain⟨i,hi⟩:=Rw hzm;refine⟨i,ez ▸ T.slot_live hi,fun q=>hp k hk (.inr ⟨z,hzm,ez,?_⟩)⟩;rw[<- hAe i z hi];exact q
 obtain⟨g1,g2⟩:=vk t hA h pre j post (10*SetTable.turns t.mask) (t.probeStart h) hw hlen rfl hpre;by_cases hany:∃z∈α,z.2.1=h
 ·obtain ⟨z, hzm, ez⟩ := hany;obtain⟨pz,qz,ezz,hoz⟩:=T.reach z hzm;rw[ez]at ezz
  have hjo:j∈α.map (·.1):=by
   have e2:pre++j::post=pz++z.1::qz:=by rw[<- e,<- ezz]
   rcases List.append_eq_append_iff.mp e2 with⟨a,h1,h2⟩|⟨c,h1,h2⟩
   ·cases a with
    |nil=>
     simp only[QO]at h2;rw[(Ri h2).1];exact Rx hzm
    |cons x a=>
     rw[Rj]at h2;have:j∈pz:=by rw[h1,(Ri h2).1];simp
     exact hoz j this
   ·cases c with
    |nil=>
     simp only[QO]at h2;rw[<- (Ri h2).1];exact Rx hzm
    |cons x c=>
     rw[Rj]at h2;have:z.1∈pre:=by rw[h1,(Ri h2).1];simp
     exact absurd (.inr ⟨z,hzm,rfl,ez⟩) (hp z.1 this)
  rcases hs with q|⟨z',hz',e1,e2⟩
  ·exact absurd hjo q
  ·obtain⟨i,hi⟩:=Rw hz';obtain⟨nx,en⟩:=g2 i (e1 ▸ T.slot_live hi) (by rw[hAe i z' hi];exact e2);exact .inl ⟨i,z',nx,hi,e2,by rw[e1];exact en⟩
 ·have hno : ∀ z ∈ α, z.2.1 ≠ h := fun z hz' e' => hany ⟨z, hz', e'⟩;rcases hs with q|⟨z',hz',e1,e2⟩
  ·have hjm:j<=t.mask:=jT (h:=h) (by rw[e];simp);exact .inr ⟨hno,j,pre,post,g1 (T.slot_empty q),hjm,q,e,occ⟩
  ·exact absurd e2 (hno z' hz')
theorem y1{l:List Nat}{p:Nat}(h:ET l)(h1:∀x∈l.take p,x<j)(h2:∀x∈l.drop p,j<x):ET (l.take p++j::l.drop p):=by
 unfold ET at *;have h':(l.take p++l.drop p).Pairwise (·<·):=by rw[Ry];exact h
 rw[List.pairwise_append]at h'⊢;refine⟨h'.1,Rz.mpr ⟨fun x hx=>h2 x hx,h'.2.1⟩,fun a ha b hb=>?_⟩;rcases O5.mp hb with q|q
 ·rw[q];exact h1 a ha
 ·exact h'.2.2 a ha b q
theorem tN.put(T:tN t es α){h:Int}{x:Value}{pre post:List Nat}(hj:j<=t.mask)(hn:j∉α.map (·.1))(e:du t.mask h=pre++j::post)(hp:∀k∈pre,k∈α.map (·.1)):
  ∃α',tN (t.put j).1 (SetTable.insertAt es (t.put j).2 (h,x)) α'/\α'.Perm ((j,h,x)::α)/\(t.put j).1={t with place:=SetTable.insertAt t.place (SetTable.below t.place j) j}:=by
 have e1:(t.put j).1={t with place:=SetTable.insertAt t.place (SetTable.below t.place j) j}:=by
  unfold SetTable.put;simp only[T.dum,uk];rw[OT PD]
 have e2:(t.put j).2=SetTable.below t.place j:=rfl;have r:ET t.place.toList:=by rw[T.place];exact T.ris
 obtain⟨b1,b2,b3⟩:=mX r j;generalize hb:SetTable.below t.place j=p at *;refine⟨α.take p++(j,h,x)::α.drop p,⟨?_,?_,?_,fun z hz=>?_,by rw[e1];exact T.dum,fun z hz=>?_⟩,?_,e1⟩
 ·rw[e1];show (SetTable.insertAt t.place p j).toList=_;rw[kJ,T.place,RA,QC,RB,RC]
 ·rw[e2,kJ,T.ents,RA,QC,RB,RC]
 ·rw [RA, QC, RB, RC];have hlen:t.place.size=(α.map (·.1)).length:=by rw[<- T.place];simp
  refine y1 T.ris (fun y hy=>?_) (fun y hy=>?_)
  ·obtain ⟨i, hi⟩ := Rw hy;rw[List.getElem?_take]at hi;split at hi
   ·rename_i hlt;have q:=b2 i hlt;rw[<- T.place,Rp]at hi;simp only[RD,hi,RE]at q;exact q
   ·cases hi
  ·obtain⟨i,hi⟩:=Rw hy;rw[RF]at hi;have hmem:y∈α.map (·.1):=Qb hi;rw[<- T.place,Rp]at hi;have hlt:p+i<t.place.size:=(Rm.mp hi).1;have q:=b3 (p+i) (by omega) hlt;simp only[RD,hi,RE]at q;have:y≠j:=fun ey=>hn (ey ▸ hmem);omega
 ·rw [e1];show z.1<=t.mask;rcases O7.mp hz with q|q
  ·exact T.top z (RG q)
  ·rcases O5.mp q with q | q
   ·rw[q];exact hj
   ·exact T.top z (RH q)
 ·rw [e1];show ∃pre post,du t.mask z.2.1=pre++z.1::post/\_
  have sub:∀k∈α.map (·.1),k∈(α.take p++(j,h,x)::α.drop p).map (·.1):=fun k hk=>by
   rw[<- Ry p α,RA]at hk;rw[RA,QC];rcases O7.mp hk with q|q
   ·exact O8 _ q
   ·exact Py _ (O4 _ q)
  have old:∀z∈α,∃pre post,du t.mask z.2.1=pre++z.1::post/\∀k∈pre,k∈(α.take p++(j,h,x)::α.drop p).map (·.1):=fun z hz=>by
   obtain⟨a,b,c,d⟩:=T.reach z hz;exact⟨a,b,c,fun k hk=>sub k (d k hk)⟩
  rcases O7.mp hz with q|q
  ·exact old z (RG q)
  ·rcases O5.mp q with q | q
   ·rw[q];exact⟨pre,post,e,fun k hk=>sub k (hp k hk)⟩
   ·exact old z (RH q)
 ·have q:(α.take p++(j,h,x)::α.drop p).Perm ((j,h,x)::(α.take p++α.drop p)):=List.perm_middle;rw[Ry]at q;exact q
theorem uq(mask:Nat)(owner:Array (Option Nat)):∀(n i pe:Nat),
  SetTable.layClean.free mask owner n i pe=(AG mask n i pe).find? fun j=>(owner.getD j (some 0)).isNone
 |0,_,_=>rfl
 |n+1,i,pe=>by
  show (match (List.range (SetTable.runEnd mask i+1-i)).find? fun k=>(owner.getD (i+k) (some 0)).isNone with|some k=>_|none=>_)=_;show _=((List.range (SetTable.runEnd mask i+1-i)).map (i+·)++AG mask n (SetTable.leap mask i pe).1 (SetTable.leap mask i pe).2).find? _;rw[List.find?_append,List.find?_map,<- uq mask owner n];have ec:((fun j=>(owner.getD j (some 0)).isNone) ∘ fun x=>i+x)=fun k=>(owner.getD (i+k) (some 0)).isNone:=rfl;rw[ec];cases (List.range (SetTable.runEnd mask i+1-i)).find? fun k=>(owner.getD (i+k) (some 0)).isNone with
  |some k=>rfl
  |none=>rfl
structure Ih(mask:Nat)(hs:List Int)(owner:Array (Option Nat)):Prop where
 size:owner.size=mask+1
 all:∀(i:Nat)(h:Int),hs[i]?=some h->∃j:Nat,j<=mask/\owner[j]?=some (some i)/\∃pre post,du mask h=pre++j::post/\∀k∈pre,∃i':Nat,owner[k]?=some (some i')
 lt:∀(j i:Nat),owner[j]?=some (some i)->i<hs.length
 inj:∀(j j' i:Nat),owner[j]?=some (some i)->owner[j']?=some (some i)->j=j'
theorem Gm(mask:Nat):Ih mask [] (Array.replicate (mask+1) none):=by
 have hno:∀(j i:Nat),(Array.replicate (mask+1) (none:Option Nat))[j]?≠some (some i):=fun j i e=>by
  rw[Array.getElem?_replicate]at e;split at e <;> cases e
 exact⟨by simp,fun i h e=>by simp at e,fun j i e=>absurd e (hno j i),fun j j' i e=>absurd e (hno j i)⟩
theorem Ea(O:Ih mask hs owner)(hl:hs.length<=mask):∃j,j<=mask/\owner[j]?=some none:=by
 refine Ru fun hn=>?_
 have hall:∀j,j<=mask->∃i,owner[j]?=some (some i):=fun j hj=>by
  have hs':j<owner.size:=by rw[O.size];omega
  cases e:owner[j]? with
  |none=>rw[RI]at e;omega
  |some o=>
   cases o with
   |none=>exact absurd ⟨j,hj,e⟩ hn
   |some i=>exact⟨i,rfl⟩
 have key:∀n,n<=mask+1->∃l:List Nat,l.length=n/\l.Nodup/\(∀i∈l,i<hs.length)/\∀i∈l,∃j,j<n/\owner[j]?=some (some i):=by
  intro n
  induction n with
  |zero=>exact fun _=>⟨[],rfl,RJ,fun _ h=>by simp at h,fun _ h=>by simp at h⟩
  |succ n ih=>
   intro hn';obtain⟨l,h1,h2,h3,h4⟩:=ih (by omega);obtain⟨i,hi⟩:=hall n (by omega);refine⟨i::l,by rw[QV,h1],PN.mpr ⟨fun hm=>?_,h2⟩,fun x hx=>?_,fun x hx=>?_⟩
   ·obtain⟨j,hj,ej⟩:=h4 i hm;have:=O.inj j n i ej hi;omega
   ·rcases O5.mp hx with q | q
    ·rw[q];exact O.lt n i hi
    ·exact h3 x q
   ·rcases O5.mp hx with q | q
    ·rw[q];exact⟨n,by omega,hi⟩
    ·obtain⟨j,hj,ej⟩:=h4 x q;exact⟨j,by omega,ej⟩
 obtain⟨l,h1,h2,h3,_⟩:=key (mask+1) (Pv _);have:=jQ h2 (l2:=List.range hs.length) (fun x hx=>OZ.mpr (h3 x hx));rw[Rg,h1]at this;omega
theorem D9{h:Int}(O:Ih mask hs owner)(hl:hs.length<=mask)(cov:∀j,j<=mask->j∈du mask h):
  ∃j,SetTable.layClean.free mask owner (SetTable.turns mask) (SetTable.bits h%(mask+1)) (SetTable.bits h)=some j/\Ih mask (hs++[h]) (owner.setIfInBounds j (some hs.length)):=by
 obtain⟨j0,hj0,e0⟩:=Ea O hl
 have none_iff:∀j,((owner.getD j (some 0)).isNone=true)↔owner[j]?=some none:=fun j=>by
  rw[RD];cases owner[j]? with
  |none=>simp
  |some o=>cases o <;> simp
 obtain⟨pre,j,post,e,hs',hp⟩:=kz (fun j=>owner[j]?=some none) (du mask h) ⟨j0,cov j0 hj0,e0⟩;have hjm:j<=mask:=jT (h:=h) (by rw[e];simp);have hjs:j<owner.size:=by rw[O.size];omega
 have hocc:∀k∈pre,∃i',owner[k]?=some (some i'):=fun k hk=>by
  have hkm:k<=mask:=jT (h:=h) (by rw[e];simp[hk]);cases q:owner[k]? with
  |none=>
   rw[RI,O.size]at q;omega
  |some o=>
   cases o with
   |none=>exact absurd q (hp k hk)
   |some i=>exact⟨i,rfl⟩
 have hset:∀k,(owner.setIfInBounds j (some hs.length))[k]?=if j=k then some (some hs.length) else owner[k]?:=fun k=>by
  rw[Array.getElem?_setIfInBounds];by_cases q:j=k
  ·rw[OS q,OS q,OS hjs]
  ·rw[OT q,OT q]
 have keep:∀k i',owner[k]?=some (some i')->(owner.setIfInBounds j (some hs.length))[k]?=some (some i'):=fun k i' q=>by
  rw[hset,OT]
  ·exact q
  ·intro ej;rw[<- ej,hs']at q;cases q
 refine⟨j,?_,by simp[O.size],fun i h' ei=>?_,fun k i ei=>?_,fun k k' i e1 e2=>?_⟩
 ·rw [uq];show (du mask h).find? _=some j;rw[e,List.find?_append]
  have e1:pre.find? (fun j=>(owner.getD j (some 0)).isNone)=none:=by
   rw[List.find?_eq_none];intro k hk q;exact hp k hk ((none_iff k).mp q)
  simp only[e1,Option.none_or,List.find?_cons,(none_iff j).mpr hs']
 ·by_cases hi : i < hs.length
  ·rw[PZ hi]at ei;obtain⟨j',a1,a2,pr,po,a3,a4⟩:=O.all i h' ei;exact⟨j',a1,keep j' i a2,pr,po,a3,fun k hk=>(a4 k hk).elim fun i' q=>⟨i',keep k i' q⟩⟩
  ·have hi':i=hs.length:=by
    have:=(O9.mp ei).1;simp at this;omega
   subst hi';rw[PX (Pv _),RK]at ei;have eh:h=h':=by simpa using ei
   subst eh;exact⟨j,hjm,by rw[hset,OS rfl],pre,post,e,fun k hk=>(hocc k hk).elim fun i' q=>⟨i',keep k i' q⟩⟩
 ·rw [hset] at ei;rw[Qc,QN];split at ei
  ·cases ei;omega
  ·have:=O.lt k i ei;omega
 ·rw [hset] at e1 e2;split at e1
  ·rename_i q1;cases e1;split at e2
   ·rename_i q2;rw[<- q1,q2]
   ·have:=O.lt k' _ e2;omega
  ·split at e2
   ·cases e2;have:=O.lt k _ e1;omega
   ·exact O.inj k k' i e1 e2
theorem xc{mask:Nat}:∀(hs0 hs1:List Int)(owner:Array (Option Nat)),Ih mask hs0 owner->hs0.length+hs1.length<=mask+1->(∀h∈hs1,∀j,j<=mask->j∈du mask h) ->
  ∃owner',hs1.foldl (fun(acc:Option (Array (Option Nat)×Nat)) h=>do
   let (owner,k) <- acc
   let j <- SetTable.layClean.free mask owner (SetTable.turns mask) (SetTable.bits h%(mask+1)) (SetTable.bits h)
   pure (owner.setIfInBounds j (some k),k+1)) (some (owner,hs0.length))=some (owner',(hs0++hs1).length)/\Ih mask (hs0++hs1) owner'
 |hs0,[],owner,O,_,_=>⟨owner,by simp,by simpa using O⟩
 |hs0,h::hs1,owner,O,hl,cov=>by
  rw[QV]at hl;obtain⟨j,ej,O'⟩:=D9 (h:=h) O (by omega) (cov h O3);obtain⟨ow,e1,e2⟩:=xc (hs0++[h]) hs1 _ O' (by rw[Qc,QN];omega) (fun x hx=>cov x (O4 _ hx));rw[QK,List.singleton_append]at e1 e2;refine⟨ow,?_,e2⟩;rw[QL];show List.foldl _ ((SetTable.layClean.free mask owner (SetTable.turns mask) (SetTable.bits h%(mask+1)) (SetTable.bits h)).bind fun j=>some (owner.setIfInBounds j (some hs0.length),hs0.length+1)) hs1=_;rw[ej];show List.foldl _ (some (owner.setIfInBounds j (some hs0.length),hs0.length+1)) hs1=_;rw[Qc,QN]at e1;exact e1
theorem w6{Z:Type}:∀l:List Z,(List.range l.length).filterMap (fun i=>l[i]?)=l
 |[]=>rfl
 |a::l=>by
  rw[QV,Rc,O2];show a::List.filterMap _ _=_;rw[Qp];show a::List.filterMap (fun i=>l[i]?) _=_;rw[w6 l]
theorem GO(hl:hs.length<=mask+1)(cov:∀h∈hs,∀j,j<=mask->j∈du mask h):∃owner,SetTable.layClean mask hs.toArray=some owner/\Ih mask hs owner:=by
 obtain⟨ow,e1,e2⟩:=xc [] hs _ (Gm mask) (by rw[Rh,Nat.zero_add];exact hl) cov;refine⟨ow,?_,by simpa using e2⟩;unfold SetTable.layClean;rw[List.foldl_toArray']
 ·show Option.map (·.1) (hs.foldl _ (some (Array.replicate (mask+1) none,([]:List Int).length)))=_;rw[e1];rfl
 ·simp
theorem sk{wanted:Nat}(hm:SetTable.sizeAbove wanted-1=mask)(hl:es.size<=mask)(cov:∀e∈es.toList,∀j,j<=mask->j∈du mask e.1):
  ∃t' order α',t.relaid (es.map (·.1)) wanted=some (t',order)/\tN t' (order.filterMap (es[·]?)) α'/\(α'.map (·.2)).Perm es.toList/\t'.mask=mask/\t'.led=t.led/\t'.plain=t.plain/\order.toList.Perm (List.range es.size):=by
 have ea:es.map (·.1)=(es.toList.map (·.1)).toArray:=by rw[<- RL]
 obtain⟨ow,e1,O⟩:=GO (mask:=mask) (hs:=es.toList.map (·.1)) (by simp;omega) (fun h hh=>by
  obtain⟨e,he,q⟩:=Rq.mp hh
  rw[<- q];exact cov e he)
 let live:List (Nat×Nat):=(List.range (mask+1)).filterMap fun j=>(ow.getD j none).map (j,·)
 have hlive:∀j i,(j,i)∈live↔(j<=mask/\ow[j]?=some (some i)):=fun j i=>by
  simp only[live,Px,OZ];constructor
  ·rintro ⟨k, hk, q⟩
   rw[RD]at q;cases e:ow[k]? with
   |none=>rw[e]at q;cases q
   |some o=>
    rw[e]at q;cases o with
    |none=>cases q
    |some i'=>
     simp only[RE,Option.map_some,RM,Prod.mk.injEq]at q;obtain⟨q1,q2⟩:=q;subst q1;subst q2;exact⟨by omega,e⟩
  ·rintro ⟨hj, e⟩
   refine⟨j,by omega,?_⟩;rw[RD,e];rfl
 have hfst:(live.map (·.1)).Pairwise (·<·):=by
  have gen:∀(l:List Nat),l.Pairwise (·<·)->((l.filterMap fun j=>(ow.getD j none).map (j,·)).map (·.1)).Pairwise (·<·)/\∀x∈((l.filterMap fun j=>(ow.getD j none).map (j,·)).map (·.1)),x∈l:=by
   intro l
   induction l with
   |nil=>intro _;exact⟨List.Pairwise.nil,fun x hx=>by simp at hx⟩
   |cons a l ih=>
    intro hp;obtain⟨h1,h2⟩:=Rz.mp hp;obtain⟨i1,i2⟩:=ih h2;rw[O2];cases q:(ow.getD a none).map (a,·) with
    |none=>exact⟨i1,fun x hx=>O4 _ (i2 x hx)⟩
    |some p=>
     have ep:p.1=a:=by
      cases hq:ow.getD a none with
      |none=>rw[hq]at q;cases q
      |some i=>rw[hq]at q;cases q;rfl
     show (p.1::List.map _ _).Pairwise _/\∀x∈p.1::List.map _ _,x∈a::l;rw[ep]
     exact⟨Rz.mpr ⟨fun x hx=>h1 x (i2 x hx),i1⟩,fun x hx=>by
      rcases O5.mp hx with z|z
      ·rw[z];exact O3
      ·exact O4 _ (i2 x z)⟩
  exact(gen _ List.pairwise_lt_range).1
 have hnd:live.Nodup:=by
  have:=hfst.imp (fun h=>OX h);exact List.Pairwise.of_map (·.1) (fun a b h e=>h (by rw[e])) this
 have hsz:∀j i,(j,i)∈live->i<es.size:=fun j i h=>by
  have:=O.lt j i ((hlive j i).mp h).2;simpa using this
 have hsnd:(live.map (·.2)).Perm (List.range es.size):=by
  refine(RN ?_ Rv).mpr fun i=>?_
  ·refine List.Pairwise.map _ (fun a b h=>?_) (List.Pairwise.and_mem.mp hnd);obtain⟨ha,hb,hne⟩:=h;intro e;have q1:=((hlive a.1 a.2).mp ha).2;have q2:=((hlive b.1 b.2).mp hb).2;rw[<- e]at q2;exact hne (Prod.ext (O.inj _ _ _ q1 q2) e)
  ·rw [OZ, Rq];constructor
   ·rintro⟨p,hp,e⟩;rw[<- e];exact hsz p.1 p.2 hp
   ·intro hi;obtain⟨j,hj,q,_⟩:=O.all i (es[i].1) (by rw[P0,Rp,RO hi];rfl);exact⟨(j,i),(hlive j i).mpr ⟨hj,q⟩,rfl⟩
 let α':List (Nat×Int×Value):=live.filterMap fun p=>(es[p.2]?).map fun e=>(p.1,e)
 have hZ1:α'.map (·.1)=live.map (·.1):=by
  have gen:∀l:List (Nat×Nat),(∀p∈l,p.2<es.size)->(l.filterMap fun p=>(es[p.2]?).map fun e=>(p.1,e)).map (·.1)=l.map (·.1):=by
   intro l
   induction l with
   |nil=>intro _;rfl
   |cons p l ih=>
    intro h;rw[O2,RO (h p O3)];show p.1::List.map _ _=p.1::List.map _ _;rw[ih fun q hq=>h q (O4 _ hq)]
  exact gen live fun p hp=>hsz p.1 p.2 hp
 have hZ2:α'.map (·.2)=(live.map (·.2)).filterMap (es[·]?):=by
  have gen:∀l:List (Nat×Nat),(l.filterMap fun p=>(es[p.2]?).map fun e=>(p.1,e)).map (·.2)=(l.map (·.2)).filterMap (es[·]?):=by
   intro l
   induction l with
   |nil=>rfl
   |cons p l ih=>
    rw[O2,QC,O2];cases es[p.2]? with
    |none=>exact ih
    |some e=>show e::List.map _ _=e::_;rw[ih]
  exact gen live
 have hes:(List.range es.size).filterMap (es[·]?)=es.toList:=by
  have q:=w6 es.toList;rw[Pg]at q;simpa only[Rp] using q
 refine⟨{mask,place:=(live.map (·.1)).toArray,dummies:=#[],finger:=t.finger,led:=t.led,moves:=t.movedTo mask,plain:=t.plain},(live.map (·.2)).toArray,α',?_,⟨?_,?_,?_,fun z hz=>?_,rfl,fun z hz=>?_⟩,?_,rfl,rfl,rfl,hsnd⟩
 ·unfold SetTable.relaid SetTable.laid;rw[hm,ea,e1];rfl
 ·show (live.map (·.1))=_;rw[hZ1]
 ·rw[hZ2];simp
 ·rw[hZ1];exact hfst
 ·have : z.1 ∈ live.map (·.1) := by rw [<- hZ1]; exact Rx hz
  obtain⟨p,hp,q⟩:=Rq.mp this;rw[<- q];exact((hlive p.1 p.2).mp hp).1
 ·obtain⟨p,hp,q⟩:=Px.mp hz;rw[RO (hsz p.1 p.2 hp)]at q;have ez:z=(p.1,es[p.2]'(hsz p.1 p.2 hp)):=(ON q).symm;obtain⟨hj,ho⟩:=(hlive p.1 p.2).mp hp;obtain⟨j,a1,a2,pre,post,a3,a4⟩:=O.all p.2 (es[p.2]'(hsz p.1 p.2 hp)).1 (by rw[P0,Rp,RO (hsz p.1 p.2 hp)];rfl);have ejp:j=p.1:=O.inj _ _ _ a2 ho;refine⟨pre,post,by rw[ez];rw[ejp]at a3;exact a3,fun k hk=>?_⟩;obtain⟨i',hi'⟩:=a4 k hk;rw[hZ1];have hkm:k<=mask:=jT (h:=(es[p.2]'(hsz p.1 p.2 hp)).1) (by rw[a3];simp[hk]);exact Rq.mpr ⟨(k,i'),(hlive k i').mpr ⟨hkm,hi'⟩,rfl⟩
 ·rw[hZ2,<- hes];exact hsnd.filterMap _
def prs:List (List Int):=((List.range 36).filter fun n=>n / 6<n%6).map fun n=>[((n / 6:Nat):Int),((n%6:Nat):Int)]
def hsh(ks:List Int):Int:=reduceHash (Builtin.Tuple.tupleHashOf (ks.map hashInt))
theorem KM{w:World}(ks:List Int):tupleKeyHash (intKind prog w) ks=hsh ks:=rfl
def Io(mask:Nat):Bool:=prs.all fun ks=>(List.range (mask+1)).all fun j=>(du mask (hsh ks)).contains j
theorem Og:Io 7=true:=by decide +kernel
theorem HS:Io 31=true:=by decide +kernel
theorem Mw:(prs.map hsh).Nodup:=by decide +kernel
theorem Ah:prs.length=15:=by decide +kernel
theorem yH(h:Io mask=true){ks:List Int}(hk:ks∈prs):∀j,j<=mask->j∈du mask (hsh ks):=fun j hj=>by
 have a:=RP.mp h ks hk;have b:=RP.mp a j (OZ.mpr (by omega));simpa using b
theorem KH{l:List (List Int)}(h:(l.map hsh).Nodup){a b:List Int}(ha:a∈l)(hb:b∈l)(e:hsh a=hsh b):a=b:=by
 induction l with
 |nil=>simp at ha
 |cons c l ih=>
  rw[QC]at h;obtain⟨h1,h2⟩:=PN.mp h;rcases O5.mp ha with qa|qa <;> rcases O5.mp hb with qb|qb
  ·rw[qa,qb]
  ·exact absurd (by rw[<- qa,e];exact Rx qb) h1
  ·exact absurd (by rw[<- qb,<- e];exact Rx qa) h1
  ·exact ih h2 qa qb
theorem GZ{a b:List Int}(ha:a∈prs)(hb:b∈prs)(e:hsh a=hsh b):a=b:=KH Mw ha hb e
theorem Ag{a b:Int}(h1:0<=a)(h2:a<b)(h3:b<6):[a,b]∈prs:=by
 have key:∀x:Nat,x<6->∀y:Nat,y<6->x<y->[(x:Int),(y:Int)]∈prs:=by decide +kernel
 have:=key a.toNat (by omega) b.toNat (by omega) (by omega);rw[Int.toNat_of_nonneg h1,Int.toNat_of_nonneg (by omega)]at this;exact this
end RS
namespace RS
open PySem PyProof.Rows
abbrev KP:=List Int×Addr
structure eT(w:World)(h:Heap)(a:Addr)(qs:List (Int×Value))(o:Obj)(es:Array (Int×Value))(ep:Nat)(t:SetTable)(α:List (Nat×Int×Value)):Prop where
 ho:h.get? a=some o
 ex:o.ExactSet
 hd:o.data=.set es ep t
 tab:tN t es α
 plain:t.plain=true
 led:t.led=!w.params.followText "set-order"
 big:(t.mask=7/\α.length<=4)\/(t.mask=31/\α.length<=18)
 perm:(α.map (·.2)).Perm qs
def yn(p:KP):Int×Value:=(hsh p.1,Value.ref p.2)
def gh(w:World)(h:Heap)(a:Addr)(ps:List KP):Prop:=∃o es ep t α,eT w h a (ps.map yn) o es ep t α/\(∀p∈ps,p.1∈prs)/\(ps.map (·.1)).Nodup
theorem eT.len{w:World}{h:Heap}{o es ep t α}(S:eT w h a ps o es ep t α):α.length=ps.length:=by
 have:=S.perm.length_eq;simpa using this
theorem lW{ps:List KP}(hk:∀p∈ps,p.1∈prs)(hn:(ps.map (·.1)).Nodup):ps.length<=15:=by
 have:=jQ hn (l2:=prs) (fun x hx=>by obtain⟨p,hp,e⟩:=Rq.mp hx;rw[<- e];exact hk p hp);rw[Qd,Ah]at this;exact this
theorem eT.fits{w:World}{h:Heap}{o es ep t α}(S:eT w h a ps o es ep t α):t.fits es.size=true:=by
 unfold SetTable.fits;rw[S.tab.fill,S.tab.size.1,S.tab.size.2];rcases S.big with⟨h1,h2⟩|⟨h1,h2⟩ <;> simp[h1] <;> omega
theorem eT.cov{w:World}{h:Heap}{o es ep t α}(S:eT w h a ps o es ep t α)(hk:k∈prs):∀j,j<=t.mask->j∈du t.mask (hsh k):=by
 rcases S.big with⟨h1,h2⟩|⟨h1,h2⟩ <;> rw[h1]
 ·exact yH Og hk
 ·exact yH HS hk
theorem gh.keeps{w:World}{h:Heap}{ps:List KP}(S:gh w h a ps)(k:∀o,h.get? a=some o->h'.get? a=some o):gh w h' a ps:=by
 obtain⟨o,es,ep,t,α,S,hk,hn⟩:=S;exact⟨o,es,ep,t,α,⟨k o S.ho,S.ex,S.hd,S.tab,S.plain,S.led,S.big,S.perm⟩,hk,hn⟩
section
variable{w:World}
abbrev Tk(prog:Program)(w:World)(h:Heap)(k:List Int)(r:Addr):Prop:=IsTupleKey (intKind prog w) h k r
theorem items_int{vs:List Value}(h:ItemsAre (intKind prog w) k vs):∀v∈vs,∃i t,v=.int i t:=by
 induction h with
 |nil=>intro v hv;simp at hv
 | @cons k v' ks vs h1 _ ih=>
  intro v hv;rcases O5.mp hv with q|q
  ·obtain⟨t,e⟩:=OO (k:=k) (v:=v') h1;exact⟨k,t,by rw[q,e]⟩
  ·exact ih v q
theorem xg{r:Addr}{Q:Bool->Shared->Prop}(hk:Tk prog w s.heap k r)(h:Q false s):wpAny (model prog w) A (ofAClassStatement 8 (.ref r)) Q E s:=by
 have hT:=hk.typeIs;obtain⟨o,items,n,ho,hc,hd,hi⟩:=hk;unfold ofAClassStatement;refine Pj (Qx hT ?_);dsimp only;simp only[QT,Qm];refine Pj (Pp ?_);simp only[RQ,QU,Ql];refine Pj (Q9 ho hd ?_);dsimp only;refine Pj ?_;show wpAny _ _ (forIn items _ _) _ _ s;rw[<- Array.forIn_toList];refine RR _ (fun rest r s'=>r.1=none/\s'=s/\∀v∈rest,∃i t,v=.int i t) _ ?_ ?_ _ _ ⟨rfl,rfl,items_int hi⟩
 ·rintro v rest r s' ⟨hr, rfl, hall⟩
  obtain⟨i,t,e⟩:=hall v O3;subst e;unfold ofAClassStatement;refine Pj (Pp ?_);simp only[QU,Ql];exact Pp ⟨rfl,rfl,fun u hu'=>hall u (O4 _ hu')⟩
 ·rintro ⟨r1, r2⟩ s' ⟨hr, rfl, _⟩
  simp only at hr;subst hr;exact Pp h
theorem tI{r:Addr}{Q:Bool->Shared->Prop}(hk:Tk prog w s.heap k r)(h:Q true s):wpAny (model prog w) A (hashByValue 8 (.ref r)) Q E s:=by
 have hT:=hk.typeIs;obtain⟨o,items,n,ho,hc,hd,hi⟩:=hk;unfold hashByValue;refine Pj (wpAny_specialOf hT F.slot_tuple_hash.lookup ?_);dsimp only;refine Pj (Q9 ho hd ?_);refine Pj ?_;show wpAny _ _ (forIn items _ _) _ _ s;rw[<- Array.forIn_toList];refine RR _ (fun rest r s'=>r.1=none/\s'=s/\∀v∈rest,∃i t,v=.int i t) _ ?_ ?_ _ _ ⟨rfl,rfl,items_int hi⟩
 ·rintro v rest r s' ⟨hr, rfl, hall⟩
  obtain⟨i,t,e⟩:=hall v O3;subst e;unfold hashByValue;refine Pj (Pp ?_);simp only[RQ,QU,Ql];exact Pp ⟨rfl,rfl,fun u hu'=>hall u (O4 _ hu')⟩
 ·rintro ⟨r1, r2⟩ s' ⟨hr, rfl, _⟩
  simp only at hr;subst hr;exact Pp h
theorem Ed{r:Addr}{ys:List Value}{Q:Bool->Shared->Prop}(hk:Tk prog w s.heap k r)(hy:∀y∈ys,∃k' r',y=.ref r'/\Tk prog w s.heap k' r')(h:Q false s):wpAny (model prog w) A (searchCouldBeSeen (.ref r) ys) Q E s:=by
 unfold searchCouldBeSeen;refine Pj ?_;refine RR _ (fun rest r' s'=>r'.1=none/\s'=s/\∀y∈rest,∃k' r',y=.ref r'/\Tk prog w s.heap k' r') _ ?_ ?_ _ _ ⟨rfl,rfl,hy⟩
 ·rintro v rest q s' ⟨hr, rfl, hall⟩
  obtain⟨k',r',e,hk'⟩:=hall v O3;subst e;have hrest:=fun u hu'=>hall u (O4 _ hu');dsimp only;by_cases hv:(r == r' || carriedByValue (Value.ref r)&&carriedByValue (Value.ref r'))=true
  ·rw[OS hv];exact Pp ⟨rfl,rfl,hrest⟩
  ·rw[OT hv];refine Pj (wpAny_eqIsQuiet_tuple hk ?_);simp only[RQ,QU,Ql];refine Pj (wpAny_eqIsQuiet_tuple hk' ?_);simp only[RQ,QU,Ql];refine Pj (xg hk ?_);simp only[QU,Ql];refine Pj (xg hk' ?_);simp only[QU,Ql];exact Pp ⟨rfl,rfl,hrest⟩
 ·rintro ⟨r1, r2⟩ s' ⟨hr, rfl, _⟩
  simp only at hr;subst hr;exact Pp h
end
end RS
variable{qs:List RS.KP}
namespace RS
open PySem PyProof.Rows
section
variable{w:World}
theorem Dn{h:Heap}{ps:List KP}{o es ep t α}(S:eT w h a (ps.map yn) o es ep t α)(hz:z∈α):∃p∈ps,z.2=(hsh p.1,Value.ref p.2):=by
 have:z.2∈α.map (·.2):=Rx hz;obtain⟨p,hp,e⟩:=Rq.mp (S.perm.mem_iff.mp this);exact⟨p,hp,e.symm⟩
theorem K0{h:Heap}{ps:List KP}{o es ep t α}(S:eT w h a (ps.map yn) o es ep t α){p:KP}(hp:p∈ps):∃z∈α,z.2=(hsh p.1,Value.ref p.2):=by
 have:yn p∈ps.map yn:=Rx hp;obtain⟨z,hz,e⟩:=Rq.mp (S.perm.mem_iff.mpr this);exact⟨z,hz,e⟩
theorem AY{r:Addr}{ps:List KP}{o es ep t α}{Q:SetFound->Shared->Prop}(S:eT w s.heap a (ps.map yn) o es ep t α)(hks:∀p∈ps,p.1∈prs)(hk:k∈prs)(hr:Tk prog w s.heap k r)(hps:∀p∈ps,Tk prog w s.heap p.1 p.2)(hu:A.units<cLine)(h1:k∈ps.map (·.1)->Q (.there none) s)(h2:k∉ps.map (·.1)->∀j pre post,j<=t.mask->j∉α.map (·.1)->du t.mask (hsh k)=pre++j::post->(∀x∈pre,x∈α.map (·.1))->Q (.free j false) s):
  wpAny (model prog w) A (setSearch a (.ref r) (hsh k) true) Q E s:=by
 have hodd:t.gaveWay=false:=by
  unfold SetTable.gaveWay;rcases S.big with⟨q,_⟩|⟨q,_⟩ <;> rw[q] <;> decide
 have hz:α.length<=t.mask:=by rcases S.big with⟨q,q2⟩|⟨q,q2⟩ <;> omega
 unfold setSearch setSearchFrom;refine Pj (RT S.ho S.hd S.fits ?_);dsimp only;rw[hodd];simp only[QU,Ql];generalize hpr:SetTable.probe t _ (hsh k) (Option.getD none (t.probeStart (hsh k)))=pr
 have key:∀(hA:Nat->Int) pr,(∀i z,α[i]?=some z->hA i=z.2.1)->t.probe hA (hsh k) (t.probeStart (hsh k))=pr ->
   (∃i z nx,α[i]?=some z/\z.2.1=hsh k/\pr=some (.candidate z.1 i nx)) \/
   ((∀z∈α,z.2.1≠hsh k)/\∃j pre post,pr=some (.empty j none)/\j<=t.mask/\j∉α.map (·.1)/\du t.mask (hsh k)=pre++j::post/\∀x∈pre,x∈α.map (·.1)):=fun hA pr hAe e=>by
  subst e;exact S.tab.search (S.cov hk) hz hA hAe
 rcases key _ pr (fun i z hi=>by show (Option.map (·.1) es[i]?).getD 0=_;rw[S.tab.hashAt hi];rfl) hpr with⟨i,z,nx,hi,ez,e⟩|⟨hno,j,pre,post,e,hj,hn,e2,hp⟩
 ·subst e;dsimp only;have hzm:z∈α:=Qb hi;obtain⟨p,hp,ep'⟩:=Dn S hzm;have ek:p.1=k:=GZ (hks p hp) hk (by rw[<- ez,ep']);have hin:k∈ps.map (·.1):=by rw[<- ek];exact Rx hp
  have rest:wpAny (model prog w) A (do
    let some (_,y):=es[i]? | unsupported "internal:set-entry"
    let equal <- holding [y] (eqBool y (.ref r))
    let (es',_,t') <- setState a
    if true&&equal then return SetFound.there none
    let some same:=t'.sameMemory t.moves t.mask|unsupported "set.changed-during-lookup:is-the-new-block-at-the-old-address"
    let still <- match (if same then t'.slot z.1 else .empty) with
     |.live i'=>match es'[i']? with
      |some (_,y')=>do pure (if <- isSame y' y then some i' else none)
      |none=>pure none
     |_=>pure none
    match still with
    |none=>rule "set.search.anew";setSearchFrom a (.ref r) (hsh k) true 99999 none
    |some i'=>if equal then return .there (some i') else setSearchFrom a (.ref r) (hsh k) true 99999 (some nx)) Q E s:=by
   rw[S.tab.hashAt hi,ep'];dsimp only;refine Pj (Pl (wpAny_eqBool_tuple hu (hps p hp) hr ?_));refine Pj (RT S.ho S.hd S.fits ?_);dsimp only;rw[ek,QP rfl];simp only[RU,Qm];exact Pp (h1 hin)
  by_cases hl:(!t.led)=true
  ·rw [OS hl];refine Pj (Ed hr (fun y hy=>?_) ?_)
   ·obtain ⟨e', he', q⟩ := Rq.mp hy
    have he2:e'∈es.toList:=by
     have:=Array.mem_filter.mp (RW.mp he');exact RW.mpr this.1
    rw[S.tab.ents]at he2;obtain⟨z',hz',q2⟩:=Rq.mp he2;obtain⟨p',hp',q3⟩:=Dn S hz';exact⟨p'.1,p'.2,by rw[<- q,<- q2,q3],hps p' hp'⟩
   ·simp only[QU,Ql];exact rest
  ·rw[OT hl];exact rest
 ·subst e;dsimp only;refine Pp (h2 (fun hin=>?_) j pre post hj hn e2 hp);obtain⟨p,hpm,ek⟩:=Rq.mp hin;obtain⟨z,hzm,ez⟩:=K0 S hpm;exact hno z hzm (by rw[ez,<- ek])
end
def nv(ps:List KP)(k:List Int)(r:Addr):List KP:=if k∈ps.map (·.1) then ps else ps++[(k,r)]
section
variable{w:World}
theorem Iz{r:Addr}{ps:List KP}{Q:Bool->Shared->Prop}(S:gh w s.heap a ps)(hk:k∈prs)(hr:Tk prog w s.heap k r)(hps:∀p∈ps,Tk prog w s.heap p.1 p.2)(hu:A.units<cLine)(h:∀b h',Heap.SameBut a s.heap h'->gh w h' a (nv ps k r)->Q b {s with heap:=h'}):wpAny (model prog w) A (setAddHashed a (.ref r) (hsh k)) Q E s:=by
 obtain⟨o,es,ep,t,α,S,hk0,hn0⟩:=S;unfold setAddHashed setAddHashedIn;refine Pl (Pj (RT S.ho S.hd S.fits ?_));dsimp only;have hsc:byScan (Value.ref r) es=false:=rfl;rw[hsc];simp only[QU,Ql];refine Pj (AY S hk0 hk hr hps hu (fun hin=>?_) fun hin j pre post hj hn e hp=>?_)
 ·dsimp only;refine Pp ?_;have q:=h false s.heap (Heap.SameBut.refl a s.heap) (by unfold nv;rw[OS hin];exact⟨o,es,ep,t,α,S,hk0,hn0⟩);cases s;exact q
 ·dsimp only;refine Pj (RT S.ho S.hd S.fits ?_);dsimp only;obtain⟨α',T',hperm,et⟩:=S.tab.put (x:=Value.ref r) hj hn e hp;have e2:(t.put j).2=SetTable.below t.place j:=rfl;have hpl:(t.put j).1.plain=true:=by rw[et];exact S.plain
  have hled:(t.put j).1.led=t.led:=by rw[et]
  have hmask:(t.put j).1.mask=t.mask:=by rw[et]
  have hperm':(α'.map (·.2)).Perm ((ps++[(k,r)]).map yn):=by
   have q1:=hperm.map (·.2);refine q1.trans ?_;rw[QC,RA];refine List.Perm.trans (List.Perm.cons _ S.perm) ?_;exact(List.perm_append_singleton _ _).symm
  have hkeys:∀p∈ps++[(k,r)],p.1∈prs:=fun p hp'=>by
   rcases O7.mp hp' with q|q
   ·exact hk0 p q
   ·rw[Q5]at q;rw[q];exact hk
  have hnd:((ps++[(k,r)]).map (·.1)).Nodup:=by
   rw[RA];refine RX.mpr ⟨hn0,by simp,fun x hx y hy=>?_⟩;simp at hy;rw[hy];rintro rfl;exact hin hx
  have hlen15:=lW hkeys hnd;have hZ':α'.length=ps.length+1:=by rw[hperm.length_eq,QV,S.len,Qd]
  have hesz:(SetTable.insertAt es (t.put j).2 (hsh k,Value.ref r)).size=α'.length:=T'.size.2;have hadd:nv ps k r=ps++[(k,r)]:=by unfold nv;rw[OT hin]
  rw[hadd]at h;rw[Qc,QN]at hlen15;generalize ht1:(t.put j).1=t1 at *;generalize hes1:SetTable.insertAt es (t.put j).2 (hsh k,Value.ref r)=es1 at *;have hline:es1.size<=sizeLine:=by rw[hesz,hZ'];exact O0 hlen15 (by decide)
  rw[hpl];simp only[Qm];refine Pj (tI hr ?_);simp only[Qm];refine Pj (RY S.ho S.hd ?_ hline)
  have hg:(s.heap.update a (Obj.putSet es1 t1)).get? a=some {o with data:=.set es1 (ep+1) t1}:=by
   have:=QF (Obj.putSet es1 t1) S.ho (by rw[RZ es1 t1 S.hd];rfl);rw[RZ es1 t1 S.hd]at this;exact this
  have hsb1:=Ra s.heap a (Obj.putSet es1 t1);have hfill:t1.fill=ps.length+1:=by rw[T'.fill,hZ']
  by_cases hfull:t1.tooFull=true
  ·simp only [hfull, R0, RU, Qm]
   have hm7:t.mask=7/\ps.length=4:=by
    unfold SetTable.tooFull at hfull;rw[hfill,hmask]at hfull;have hf:(ps.length+1)*5 ≥ t.mask*3:=by simpa using hfull
    have hl:=S.len;rw[Qd]at hl;rcases S.big with⟨q,q2⟩|⟨q,q2⟩
    ·rw[q]at hf;exact⟨q,by omega⟩
    ·rw[q]at hf;omega
   have hes0:es.size=4:=by rw[S.tab.size.2,S.len,Qd,hm7.2]
   have hsz1:es1.size=5:=by rw[hesz,hZ',hm7.2]
   have hgr:SetTable.grown (es.size+1)=20:=by rw[hes0];rfl
   rw[hgr];unfold setRelay
   have hfits1:t1.fits es1.size=true:=by
    unfold SetTable.fits;rw[T'.fill,T'.size.1,hesz,hmask,hm7.1,hZ',hm7.2];rfl
   refine Pj (Pj (RT hg rfl hfits1 ?_));dsimp only;rw[OT (by decide)]
   obtain⟨t2,order,α2,er,T2,hp2,hm2,hl2,hpl2,_⟩:=sk (t:=t1) (es:=es1) (wanted:=20) (mask:=31) (by rfl) (by rw[hsz1];decide) (fun e' he'=>by
    rw[T'.ents]at he';obtain⟨p,hp',q⟩:=Rq.mp (hperm'.mem_iff.mp he');rw[<- q]
    exact yH HS (hkeys p hp'))
   rw[er]
   have hZ2:α2.length=5:=by
    have:=hp2.length_eq;simp at this;omega
   have hes2:(order.filterMap (es1[·]?)).size=5:=by rw[T2.size.2,hZ2]
   have hne:((order.filterMap (es1[·]?)).size != es1.size)=false:=by rw[hes2,hsz1];rfl
   refine Pj ?_;show wpAny _ A (if ((order.filterMap (es1[·]?)).size != es1.size)=true then _ else _) _ _ _;rw[hne];simp only[QU,Ql];refine Pp ?_;refine RY hg rfl ?_ (by rw[hes2];decide)
   have hg2:((s.heap.update a (Obj.putSet es1 t1)).update a (Obj.putSet (order.filterMap (es1[·]?)) t2)).get? a=some {o with data:=.set (order.filterMap (es1[·]?)) (ep+1+1) t2}:=by
    have:=QF (Obj.putSet (order.filterMap (es1[·]?)) t2) hg (by rw[RZ _ t2 rfl];rfl);rw[RZ _ t2 rfl]at this;exact this
   refine Pp ?_;refine h true _ (hsb1.trans (Ra _ a _)) ⟨_,_,_,t2,α2,⟨hg2,S.ex,rfl,T2,by rw[hpl2];exact hpl,by rw[hl2,hled];exact S.led,.inr ⟨hm2,by omega⟩,?_⟩,hkeys,hnd⟩;refine hp2.trans ?_;rw[T'.ents];exact hperm'
  ·have hf : t1.tooFull = false := by simpa using hfull
   simp only[hf,Bool.and_false,QU,Ql];refine Pp ?_;refine h true _ hsb1 ⟨_,_,_,t1,α',⟨hg,S.ex,rfl,T',hpl,by rw[hled];exact S.led,?_,hperm'⟩,hkeys,hnd⟩;unfold SetTable.tooFull at hf;rw[hfill,hmask]at hf;have hf':¬ ((ps.length+1)*5 ≥ t.mask*3):=by simpa using hf
   rw[hmask,hZ'];rcases S.big with⟨q,q2⟩|⟨q,q2⟩
   ·rw[q]at hf'⊢;exact .inl ⟨rfl,by omega⟩
   ·rw[q]at hf'⊢;exact .inr ⟨rfl,by omega⟩
end
def gC(qs:List KP):List KP:=qs.foldl (fun ps p=>nv ps p.1 p.2) []
theorem x9(qs:List KP)(p:KP):gC (qs++[p])=nv (gC qs) p.1 p.2:=by unfold gC;rw[List.foldl_append];rfl
theorem EL{ps:List KP}{r:Addr}{p:KP}(h:p∈nv ps k r):p∈ps\/p=(k,r):=by
 unfold nv at h;split at h
 ·exact .inl h
 ·rcases O7.mp h with q | q
  ·exact .inl q
  ·exact .inr (Q5.mp q)
theorem pW:∀{qs ps:List KP}{p:KP},p∈qs.foldl (fun ps p=>nv ps p.1 p.2) ps->p∈ps\/p∈qs
 |[],_,_,h=>.inl h
 |q::qs,ps,p,h=>by
  rw[QL]at h;rcases pW h with z|z
  ·rcases EL z with z | z
   ·exact .inl z
   ·exact .inr (by rw[z];exact O3)
  ·exact .inr (O4 _ z)
theorem mY{p:KP}(h:p∈gC qs):p∈qs:=(pW h).elim (fun z=>by simp at z) id
theorem zC{ps:List KP}{r:Addr}(h:(ps.map (·.1)).Nodup):((nv ps k r).map (·.1)).Nodup:=by
 unfold nv;split
 ·exact h
 ·rename_i hn;rw[RA];refine RX.mpr ⟨h,by simp,fun x hx y hy=>?_⟩;simp at hy;rw[hy];rintro rfl;exact hn hx
theorem mB:∀{qs ps:List KP},(ps.map (·.1)).Nodup->((qs.foldl (fun ps p=>nv ps p.1 p.2) ps).map (·.1)).Nodup
 |[],_,h=>h
 |q::qs,ps,h=>by rw[QL];exact mB (zC h)
theorem vN:((gC qs).map (·.1)).Nodup:=mB (ps:=[]) RJ
def tQ (w:World):Bool:=!w.params.followText "set-order"
theorem xP{w:World}{h:Heap}(e:h.get? a=some {cls:=.type "set",dict:=none,data:=.set #[] 0 (.fresh 0 0 (tQ w))}):gh w h a []:=
 ⟨_,_,_,_,[],⟨e,⟨rfl,rfl,rfl⟩,rfl,⟨rfl,rfl,List.Pairwise.nil,fun z hz=>by simp at hz,rfl,fun z hz=>by simp at hz⟩,rfl,rfl,.inl ⟨rfl,by decide⟩,List.Perm.nil⟩,fun p hp=>by simp at hp,RJ⟩
section
variable{w:World}{R:Result->Shared->Prop}{wr:List Addr}{G:Array GenState->Array GenState->Prop}{P:Nat->Value->Prop}{St:Nat->Shared->Prop}
structure Ff(prog:Program)(w:World)(u:Nat)(S:Addr)(vs:List Value)(J:Nat->Heap->Prop):Prop where
 keep:∀i h h',(∀b o,b<=S->h.get? b=some o->h'.get? b=some o)->J i h->J i h'
 add:∀(A:Around)(i:Nat)(v:Value)(s:Shared)(E:Value->Shared->Prop)(Q:Bool->Shared->Prop),A.units<=u->vs[i]?=some v->J i s.heap ->
  (∀b h' tk,s.toks<=tk->Heap.SameBut S s.heap h'->J (i+1) h'->Q b {s with heap:=h',toks:=tk})->wpAny (model prog w) A (setAdd S v) Q E s
theorem Ek{u:Nat}{vs:List Value}(W:WalksS prog w A.in1 I fp wr G vs.length P St)(S:Addr)(hSf:S∉fp)(hwr:∀b∈wr,S<b)(hP:∀(i:Nat) v,P i v->vs[i]?=some v)(hJ:Ff prog w u S vs J)(hu:A.units+1<=u):
  ∀(k i:Nat)(s:Shared),vs.length-i=k->i<=vs.length->St i s->J i s.heap ->
   (∀s',Moved (S::wr) G s s'->J vs.length s'.heap->R (.ok (.ret .none)) s') ->
   codeAny (model prog w) A (.builtin "set.update.loop" ⟨[.ref S,.ref I],[]⟩) R s:=by
 have hSw:S∉wr:=fun h=>hSf (W.sub _ h);have hsub:∀b∈wr,b∈S::wr:=fun b hb=>O4 _ hb;have hle:∀b,b<=S->b∉wr:=fun b hb z=>OW _ (OV (hwr b z) hb);intro k
 induction k with
 |zero=>
  intro i s ek hi hst hS hR;have hin:i=vs.length:=by omega
  subst hin;refine R6 F.entry_set_update_loop ?_;rw[R7 R8 _];show wpAny _ A.in1 (pyNext (.ref I) >>= _) _ _ s;refine Pj (W.done s _ _ hst fun s' hm=>?_);show wpAny _ A.in1 (ret Value.none) _ _ s';exact Pp (hR s' (hm.mono hsub) (hJ.keep _ _ _ (fun b o hb e=>hm.heap b o (hle b hb) e) hS))
 |succ k ih=>
  intro i s ek hi hst hS hR;have hlt:i<vs.length:=by omega
  refine R6 F.entry_set_update_loop ?_;rw[R7 R8 _];show wpAny _ A.in1 (pyNext (.ref I) >>= _) _ _ s;refine Pj (W.item i s _ _ hlt hst fun v s' hPv hst' hm=>?_);have hv:=hP i v hPv;have hS':=hJ.keep i _ s'.heap (fun b o hb e=>hm.heap b o (hle b hb) e) hS;show wpAny _ A.in1 (holding [v] (setAdd S v) >>= _) _ _ s';refine Pj (Pl ?_);refine hJ.add A.in1 i v s' _ _ (by show A.units+1<=u;exact hu) hv hS' fun b h' tk ht hsb hS2=>?_;have hkeep:∀b o,b≠S->s'.heap.get? b=some o->h'.get? b=some o:=fun b o hb e=>(hsb.2 b hb).trans e;refine Pp ⟨R9 R8 _,ih (i+1) _ (by omega) hlt (W.frame _ s' _ _ hst' ht fun b hb o e=>hkeep b o (fun z=>hSf (by rw[<- z];exact hb)) e) hS2 fun s'' hm'' hS''=>?_⟩;refine hR s'' (Moved.trans W.gtrans ((hm.mono hsub).then_heap ht fun b o hb e=>?_) hm'') hS'';exact hkeep b o (fun z=>hb (by rw[z];exact O3)) e
end
section
variable{w:World}
theorem vK(a:Value){Q1:Value->Shared->Prop}
  (h:Q1 (.ref s.heap.objs.size) {s with heap:=s.heap.push {cls:=.type "set",dict:=none,data:=.set #[] 0 (.fresh 0 0 (tQ w))}}) :
  codeAny (model prog w) A (.call (.builtin "set.__new__") ⟨[.type "set",a],[]⟩) (wants Q1 E) s:=by
 refine Q0 ?_;show wpAny _ A.in1 (do checkBuiltinCall "set.__new__" ⟨[.type "set",a],[]⟩;again (.builtin "set.__new__" ⟨[.type "set",a],[]⟩)) _ _ s;refine Pj (Rb (F.newCall_set_1 a) (Pp ⟨R9 F.plain_set_new _,R6 F.entry_set_new ?_⟩));rw[R7 F.plain_set_new _];unfold Builtin.«set.__new__» Builtin.Frozenset.newClass;have hsub:=sub_set_self;obtain⟨hp,g,d,tk,os⟩:=s;dsimp only
 wp_walk
 refine Q2 (Pp ?_);dsimp only;simp only[newObj];refine Pj (wpAny_alloc (Pp ?_));exact Pp h
namespace F
theorem sub_list_set:isSubtype (.type "list") (.type "set")=pure false:=by rw[Sa];kernel_rfl
theorem sub_list_frozenset:isSubtype (.type "list") (.type "frozenset")=pure false:=by rw[Sa];kernel_rfl
end F
theorem nV{items:Array Value}(hh:A.handled=none)(hl:s.heap.IsList l items)(hJ:Ff prog w (A.units+20) s.heap.objs.size items.toList J)(h0:∀h',(∀b o,s.heap.get? b=some o->h'.get? b=some o)->h'.get? s.heap.objs.size=some {cls:=.type "set",dict:=none,data:=.set #[] 0 (.fresh 0 0 (tQ w))}->J 0 h')(h:∀(h':Heap)(tk:Nat),J items.size h'->(∀b o,b<s.heap.objs.size->s.heap.get? b=some o->h'.get? b=some o)->Q (.ref s.heap.objs.size) {s with heap:=h',toks:=tk}):
  wpAny (model prog w) A (call (.type "set") [.ref l]) Q E s:=by
 obtain⟨c,tl,hmro⟩:=Sb.mro;have hmade:=Sb.made;have hsub:=Sb.sub;refine wpAny_call (Q0 ?_);show wpAny _ _ (callAny (.type "set") _) _ _ _;refine Pp ⟨Sd _ (by decide +kernel),R6 PySem.F.entry_type_call ?_⟩;rw[Around.under_plain (weight_type_call_type "set" [.ref l] []) rfl];have h1:=Sb.notType;have h2:=Sb.canCreate;have hct:=PySem.F.typeCall_set_1 (.ref l)
 repeat (any_goals (first|assumption|wp_step))
 refine PL (vK (.ref l) (E:=E) (Q1:=fun obj s1=>obj=.ref s.heap.objs.size/\s1={s with heap:=s.heap.push {cls:=.type "set",dict:=none,data:=.set #[] 0 (.fresh 0 0 (tQ w))}}) ⟨rfl,rfl⟩) fun r s1 hr=>?_;cases r with
 |error e=>exact hr
 |ok fl=>
  cases fl with
  |ret obj=>
   obtain⟨rfl,rfl⟩:=hr;generalize hled:tQ w=led;have hS:(s.heap.push {cls:=.type "set",dict:=none,data:=.set #[] 0 (.fresh 0 0 led)}).get? s.heap.objs.size=some {cls:=.type "set",dict:=none,data:=.set #[] 0 (.fresh 0 0 led)}:=Pu _ rfl;have hTy:Shared.TypeIs {s with heap:=s.heap.push {cls:=.type "set",dict:=none,data:=.set #[] 0 (.fresh 0 0 led)}} (.ref s.heap.objs.size) "set" := ⟨_,hS,rfl⟩;have hli:=Sb.init.lookup;have hbi:=Sb.init.bind (.ref s.heap.objs.size)
   repeat (any_goals (first|assumption|wp_step))
   refine PL (Se (R:=wants (fun r s2=>r=.none/\∃h' tk,s2={s with heap:=h',toks:=tk}/\J items.size h' /\
     (∀b o,b<s.heap.objs.size->s.heap.get? b=some o->h'.get? b=some o)) E) Sb.init.plain PySem.F.entry_set_init (check_set_init_1 hTy ?_)) fun r2 s2 hr2=>?_
   ·obtain ⟨ol, hol, hcl, nl, hdl⟩ := hl;obtain⟨ocls,odict,odata,oslots⟩:=ol;simp only at hcl hdl;subst hcl;subst hdl;have hol':(s.heap.push {cls:=.type "set",dict:=none,data:=.set #[] 0 (.fresh 0 0 led)}).get? l=some {cls:=.type "list",dict:=odict,data:=.seq items nl,slots:=oslots}:=Pt _ hol;have hsls:=F.sub_list_set;have hslf:=F.sub_list_frozenset;have hne:(Value.type "list" == Value.type "dict")=false:=by decide
    have hl1:(s.heap.push {cls:=.type "set",dict:=none,data:=.set #[] 0 (.fresh 0 0 led)}).IsList l items:=⟨_,hol',rfl,nl,rfl⟩;unfold Builtin.«set.__init__» noKeywords Builtin.Frozenset.updateFrom;generalize hPI:pyIter=PI
    wp_walk
    subst hPI;refine Sf hl1 ?_;refine Pj (wpAny_runValue ?_);have hlS:l<s.heap.objs.size:=OU hol;have hh3:A.in1.in1.in1.handled=none:=by simp[hh]
    have hneI:l≠(s.heap.push {cls:=.type "set",dict:=none,data:=.set #[] 0 (.fresh 0 0 led)}).objs.size:=by
     rw[QY];exact OX (QX hlS)
    have hSf:s.heap.objs.size ∉ [(s.heap.push {cls:=.type "set",dict:=none,data:=.set #[] 0 (.fresh 0 0 led)}).objs.size,l]:=by
     rw[QY];simp only[O5,Q5,Sg,Sh,Si];exact⟨OX (QW _),Po hlS⟩
    have W:=(Sj (prog:=prog) (w:=w) hh3 (s.heap.push {cls:=.type "set",dict:=none,data:=.set #[] 0 (.fresh 0 0 led)}).objs.size l hneI items).toS;rw[show items.size=items.toList.length by rw[Pg]]at W
    refine Ek W s.heap.objs.size hSf (fun b hb=>?_) (fun i v hv=>by rw[Rp];exact hv) hJ (by simp only[Around.in1];omega) (items.toList.length-0) 0 _ (by omega) (Q4 _)
     ⟨⟨_,Pu _ rfl,rfl,rfl⟩,?hL⟩ ?hS0 ?hR
    case hL=>
     obtain⟨o,ho,rest⟩:=hl1;exact⟨o,Pt _ ho,rest⟩
    case hS0=>
     refine h0 _ (fun b o e=>Pt _ (Pt _ e)) ?_;rw[hled];exact Pt _ hS
    case hR=>
     intro s' hm hS';obtain⟨h',g',d',tk',os'⟩:=s';have eg:g'=s.gens:=hm.gens;have ed:d'=s.drawn:=hm.drawn;have eo:os'=s.os:=hm.os;subst eg;subst ed;subst eo;show wpAny _ _ _ _ _ _;refine Pp ?_;show wpAny _ _ (ret Value.none) _ _ _;refine Pp ⟨rfl,h',tk',rfl,by rw[Pg]at hS';exact hS',fun b o hb e=>?_⟩;have hb1:b≠s.heap.objs.size:=OX hb
     have hb2:b≠(s.heap.push {cls:=.type "set",dict:=none,data:=.set #[] 0 (.fresh 0 0 led)}).objs.size:=by
      rw[QY];exact OX (QX hb)
     exact hm.heap b o (by simp only[O5,Q5,Sg,Sh,Si];exact⟨hb1,hb2⟩) (Pt _ (Pt _ e))
    ·rw[QY]at hb;rw[Q5.mp hb];exact QW _
   ·cases r2 with
    |error e=>exact hr2
    |ok fl2=>
     cases fl2 with
     |ret r=>
      obtain⟨rfl,h',tk,rfl,hS',hk'⟩:=hr2
      repeat (any_goals (first|assumption|wp_step))
      exact h _ _ hS' hk'
     |_=>exact hr2.elim
  |_=>exact hr.elim
namespace F
theorem EV:isSubtype (.type "tuple") (.type "set")=pure false:=by rw[Sa];kernel_rfl
theorem yc:isSubtype (.type "tuple") (.type "frozenset")=pure false:=by rw[Sa];kernel_rfl
end F
theorem zB{S:Addr}{u:Nat}(hk:∀p∈qs,p.1∈prs)(hS:∀p∈qs,p.2<S)(hu:u<cLine):Ff prog w u S (qs.map fun p=>Value.ref p.2) (fun i h=>gh w h S (gC (qs.take i))/\∀p∈qs,Tk prog w h p.1 p.2):=by
 have keepT:∀{h1 h2:Heap}{q:KP},q∈qs->(∀b o,b<S->h1.get? b=some o->h2.get? b=some o)->Tk prog w h1 q.1 q.2->Tk prog w h2 q.1 q.2:=fun {h1 h2 q} hq kk t=>by
  obtain⟨o,items,n,ho,r⟩:=t;exact⟨o,items,n,kk _ o (hS q hq) ho,r⟩
 refine⟨fun i h h' hk' ⟨j1,j2⟩=>⟨j1.keeps fun o e=>hk' S o (Pv _) e,fun p hp=>keepT hp (fun b o hb e=>hk' b o (O1 hb) e) (j2 p hp)⟩,fun A i v s E Q hA hv ⟨j1,j2⟩ hQ=>?_⟩;rw[P0]at hv;cases e:qs[i]? with
 |none=>rw[e]at hv;cases hv
 |some p=>
  rw[e]at hv;cases hv;have hpm:p∈qs:=Qb e;unfold setAdd;refine Pl ?_;refine Pj (wpAny_pyHash_tuple (by omega) (j2 p hpm) ?_);rw[KM];refine Iz (s:={s with toks:=s.toks+(p.1.length+1)}) j1 (hk p hpm) (j2 p hpm) (fun q hq=>j2 q (RG (mY hq))) (by omega) fun b h' hsb hS2=>?_;have etk:qs.take (i+1)=qs.take i++[p]:=by rw[Sk,e];rfl
  refine hQ b h' _ (Nat.le_add_right _ _) hsb ⟨by rw[etk,x9];exact hS2,fun q hq=>keepT hq (fun b o hb e=>(hsb.2 b (OX hb)).trans e) (j2 q hq)⟩
theorem Kk(hT:∀p∈qs,Tk prog w s.heap p.1 p.2):∀p∈qs,p.2<s.heap.objs.size:=fun p hp=>by
 obtain⟨o,_,_,ho,_⟩:=hT p hp;exact OU ho
theorem xO{items:Array Value}(hh:A.handled=none)(hl:s.heap.IsList l items)(hi:items.toList=qs.map fun p=>Value.ref p.2)(hk:∀p∈qs,p.1∈prs)(hT:∀p∈qs,Tk prog w s.heap p.1 p.2)(hu:A.units+20<cLine)(h:∀(h':Heap)(tk:Nat),gh w h' s.heap.objs.size (gC qs)->(∀b o,b<s.heap.objs.size->s.heap.get? b=some o->h'.get? b=some o)->Q (.ref s.heap.objs.size) {s with heap:=h',toks:=tk}):
  wpAny (model prog w) A (call (.type "set") [.ref l]) Q E s:=by
 have hlen:items.size=qs.length:=by rw[<- Pg,hi,Qd]
 refine nV hh hl (hi ▸ zB hk (Kk hT) hu) (fun h' k e=>⟨xP e,fun p hp=>?_⟩) fun h' tk ⟨j1,_⟩=>h h' tk ?_
 ·obtain⟨o,its,n,ho,rest⟩:=hT p hp;exact⟨o,its,n,k _ _ ho,rest⟩
 ·rw[hlen,List.take_length]at j1;exact j1
end
end RS
namespace RS
open PySem PySem.W PyProof.Rows
structure fI(n:Nat)(p:Array Nat):Prop where
 size:p.size=n
 perm:p.toList.Perm (List.range n)
def at'(key:Nat->Int)(p:Array Nat)(k:Nat):Int:=key (p.getD k 0)
def Cg(key:Nat->Int)(p:Array Nat)(m:Nat):Prop:=∀i j,i<j->j<m->at' key p i<at' key p j
def Fc(key:Nat->Int)(p:Array Nat)(m:Nat):Prop:=∀i j,i<j->j<m->at' key p j<at' key p i
section
variable{key:Nat->Int}{cmp:Nat->Nat->(Bool->Shared->Prop)->Shared->Prop}{p:Array Nat}
theorem fI.lt(g:fI n p){k:Nat}(hk:k<n):p.getD k 0<n:=by
 have hs:k<p.size:=by rw[g.size];exact hk
 have:p[k]∈p.toList:=by rw[RW];exact Array.getElem_mem hs
 have:=g.perm.mem_iff.mp this;rw[OZ]at this;simpa[Array.getD,hs] using this
theorem fI.inj(g:fI n p){k k':Nat}(hk:k<n)(hk':k'<n)(e:p.getD k 0=p.getD k' 0):k=k':=by
 have hs:k<p.toList.length:=by rw[Pg,g.size];exact hk
 have hs':k'<p.toList.length:=by rw[Pg,g.size];exact hk'
 have nd:p.toList.Nodup:=g.perm.nodup_iff.mpr Rv;refine(Pb (h₀:=hs) (h₁:=hs') nd).mp ?_;have h1:k<p.size:=by rw[g.size];exact hk
 have h2:k'<p.size:=by rw[g.size];exact hk'
 simpa[Array.getD,h1,h2] using e
variable(hkey:∀i j,i<n->j<n->key i=key j->i=j)(hc:∀i j,i<n->j<n->∀C:Bool->Shared->Prop,C (decide (key i<key j)) s->cmp i j C s)
include hkey in
theorem CP(g:fI n p){k k':Nat}(hk:k<n)(hk':k'<n)(h:k≠k'):at' key p k≠at' key p k':=fun e=>h (g.inj hk hk' (hkey _ _ (g.lt hk) (g.lt hk') e))
include hkey hc
theorem yJ(g:fI n p):∀(f m:Nat)(Q:Nat->Shared->Prop),1<=m->m+f<=n->Cg key p m->(∀m',m<=m'->m'<=m+f->Cg key p m'->(m'=m+f\/at' key p m'<at' key p (m'-1))->Q m' s)->(kas_asc p f m).kasWp cmp Q s
 |0,m,Q,h1,h2,ha,hQ=>hQ m (Pv _) (Pv _) ha (.inl rfl)
 |f+1,m,Q,h1,h2,ha,hQ=>by
  show cmp (p.getD m 0) (p.getD (m-1) 0) _ s;refine hc _ _ (g.lt (by omega)) (g.lt (by omega)) _ ?_;by_cases hlt:key (p.getD m 0)<key (p.getD (m-1) 0)
  ·rw[QP hlt];(show (if true=true then _ else _:KasT _).kasWp cmp _ s);rw[OS rfl];exact hQ m (Pv _) (by omega) ha (.inr hlt)
  ·rw [OP hlt]; (show (if false = true then _ else _ : KasT _).kasWp cmp _ s); rw [OT PD];have hne:=CP hkey g (k:=m) (k':=m-1) (by omega) (by omega) (by omega);have hgt:at' key p (m-1)<at' key p m:=by unfold at' at *;omega
   refine yJ g f (m+1) Q (by omega) (by omega) (fun i j hij hj=>?_) (fun m' a b c d=>hQ m' (by omega) (by omega) c (d.elim (fun e=>.inl (by omega)) .inr));by_cases ej:j=m
   ·subst ej;by_cases ei:i=j-1
    ·rw[ei];exact hgt
    ·have:=ha i (j-1) (by omega) (by omega);omega
   ·exact ha i j hij (by omega)
theorem AA(g:fI n p):∀(f m:Nat)(Q:Array Nat×Nat×Nat->Shared->Prop),1<=m->m+f<=n->Fc key p m->(∀m',m<=m'->m'<=m+f->Fc key p m'->Q (p,m',0) s)->(kas_desc f p m 0).kasWp cmp Q s
 |0,m,Q,h1,h2,ha,hQ=>hQ m (Pv _) (Pv _) ha
 |f+1,m,Q,h1,h2,ha,hQ=>by
  show cmp (p.getD m 0) (p.getD (m-1) 0) _ s;refine hc _ _ (g.lt (by omega)) (g.lt (by omega)) _ ?_;by_cases hlt:key (p.getD m 0)<key (p.getD (m-1) 0)
  ·rw [QP hlt]; (show (if true = true then _ else _ : KasT _).kasWp cmp _ s); rw [OS rfl, OT (by omega)];refine AA g f (m+1) Q (by omega) (by omega) (fun i j hij hj=>?_) (fun m' a b c=>hQ m' (by omega) (by omega) c);by_cases ej:j=m
   ·subst ej;by_cases ei:i=j-1
    ·rw[ei];exact hlt
    ·have:=ha i (j-1) (by omega) (by omega);have:at' key p j<at' key p (j-1):=hlt;omega
   ·exact ha i j hij (by omega)
  ·rw [OP hlt]; (show (if false = true then _ else _ : KasT _).kasWp cmp _ s); rw [OT PD];show cmp (p.getD (m-1) 0) (p.getD m 0) _ s;refine hc _ _ (g.lt (by omega)) (g.lt (by omega)) _ ?_;have hne:=CP hkey g (k:=m) (k':=m-1) (by omega) (by omega) (by omega);have hgt:key (p.getD (m-1) 0)<key (p.getD m 0):=by unfold at' at hne;omega
   rw[QP hgt];(show (if true=true then _ else _:KasT _).kasWp cmp _ s);rw[OS rfl];exact hQ m (Pv _) (by omega) ha
omit hkey hc in
theorem rD{p p':Array Nat}{k k':Nat}(h:p[k]?=p'[k']?):at' key p k=at' key p' k':=by
 unfold at';rw[RD,RD,h]
omit hkey hc in
theorem um{p':Array Nat}(g:fI n p)(h:p'.Perm p)(hs:p'.size=p.size):fI n p':=⟨hs.trans g.size,(Array.perm_iff_toList_perm.mp h).trans g.perm⟩
omit hkey hc in
theorem F2(g:fI n p){m:Nat}(hm:m<=n)(hd:Fc key p m):fI n (kas_rev p 0 m)/\Cg key (kas_rev p 0 m) m:=by
 have hs:m<=p.size:=by rw[g.size];exact hm
 refine⟨um g (mirror_perm _ _ _ _) (mirror_size _ _ _ _),fun i j hij hj=>?_⟩;have ei:at' key (kas_rev p 0 m) i=at' key p (0+m-1-i):=rD (by unfold kas_rev;rw[getElem?_mirror_all hs,OS ⟨Q4 _,by omega⟩]);have ej:at' key (kas_rev p 0 m) j=at' key p (0+m-1-j):=rD (by unfold kas_rev;rw[getElem?_mirror_all hs,OS ⟨Q4 _,by omega⟩]);rw[ei,ej];exact hd _ _ (by omega) (by omega)
theorem Dz(g:fI n p){m:Nat}(h1:1<=m)(hm:m<=n)(hd:Fc key p m)(Q:Nat×Array Nat->Shared->Prop)(hQ:∀m' p',fI n p'->1<=m'->m'<=n->Cg key p' m'->Q (m',p') s):(kas_tail3 m n p).kasWp cmp Q s:=by
 obtain⟨g',ha⟩:=F2 (key:=key) g hm hd;unfold kas_tail3;rw[Sl];exact yJ hkey hc g' (n-m) m _ h1 (by omega) ha fun m' a b c d=>hQ m' _ g' (by omega) (by omega) c
theorem EE(g:fI n p)(h2:2<=n)(Q:Nat×Array Nat->Shared->Prop)(hQ:∀m' p',fI n p'->1<=m'->m'<=n->Cg key p' m'->Q (m',p') s):(kas_count n p).kasWp cmp Q s:=by
 unfold kas_count;rw[Sl];refine yJ hkey hc g (n-1) 1 _ (Pv _) (by omega) (fun i j hij hj=>by omega) fun m a b c d=>?_;by_cases e:m=n
 ·rw[OS (by simpa using e)];exact hQ m p g a (by omega) c
 ·rw [OT (by simpa using e)];by_cases h1:m>1
  ·rw[OS h1];show cmp (p.getD 0 0) (p.getD (m-1) 0) _ s;refine hc _ _ (g.lt (by omega)) (g.lt (by omega)) _ ?_;have:at' key p 0<at' key p (m-1):=c 0 (m-1) (by omega) (by omega);rw[QP (show key (p.getD 0 0)<key (p.getD (m-1) 0) from this)];(show (if true=true then _ else _:KasT _).kasWp cmp _ s);rw[OS rfl];exact hQ m p g a (by omega) c
  ·rw [OT h1];have em:m=1:=by omega
   subst em;unfold kas_descPart;rw[Sl];have hlt:at' key p 1<at' key p 0:=d.elim (fun e'=>by omega) id;refine AA hkey hc g (n-(1+1)) (1+1) _ (by omega) (by omega) (fun i j hij hj=>?_) fun m' a' b' c'=>?_
   ·have ei : i = 0 := by omega
    have ej:j=1:=by omega
    rw[ei,ej];exact hlt
   ·show (if (0:Nat)>0 then _ else _:KasT (Nat×Array Nat)).kasWp cmp Q s;rw[OT (by omega)];exact Dz hkey hc g (by omega) (by omega) c' Q hQ
theorem rN(g:fI n p){k:Nat}(hk:k<n)(ha:Cg key p k):∀(f l r:Nat)(Q:Nat->Shared->Prop),l<=r->r<=k->r-l<=f->(∀i,i<l->at' key p i<at' key p k)->(∀i,r<=i->i<k->at' key p k<at' key p i) ->
  (∀l',l'<=k->(∀i,i<l'->at' key p i<at' key p k)->(∀i,l'<=i->i<k->at' key p k<at' key p i)->Q l' s)->(kas_place p k f l r).kasWp cmp Q s
 |0,l,r,Q,h1,h2,h3,ha1,hb1,hQ=>by
  have e:l=r:=by omega
  subst e;exact hQ l h2 ha1 hb1
 |f+1,l,r,Q,h1,h2,h3,ha1,hb1,hQ=>by
  unfold kas_place;by_cases e:l ≥ r
  ·rw [OS e];have e':l=r:=by omega
   subst e';exact hQ l h2 ha1 hb1
  ·rw [OT e];show cmp (p.getD k 0) (p.getD ((l+r) / 2) 0) _ s;refine hc _ _ (g.lt hk) (g.lt (by omega)) _ ?_;by_cases hlt:key (p.getD k 0)<key (p.getD ((l+r) / 2) 0)
   ·rw [QP hlt]; (show (if true = true then _ else _ : KasT _).kasWp cmp _ s); rw [OS rfl];refine rN g hk ha f l ((l+r) / 2) Q (by omega) (by omega) (by omega) ha1 (fun i hi hik=>?_) hQ;by_cases ei:i=(l+r) / 2
    ·rw[ei];exact hlt
    ·have:=ha ((l+r) / 2) i (by omega) hik;have:at' key p k<at' key p ((l+r) / 2):=hlt;omega
   ·rw [OP hlt]; (show (if false = true then _ else _ : KasT _).kasWp cmp _ s); rw [OT PD];have hne:=CP hkey g (k:=k) (k':=(l+r) / 2) hk (by omega) (by omega);have hgt:at' key p ((l+r) / 2)<at' key p k:=by unfold at' at *;omega
    refine rN g hk ha f ((l+r) / 2+1) r Q (by omega) h2 (by omega) (fun i hi=>?_) hb1 hQ;by_cases ei:i=(l+r) / 2
    ·rw[ei];exact hgt
    ·have:=ha i ((l+r) / 2) (by omega) (by omega);omega
theorem Du:∀(f:Nat)(p:Array Nat)(k:Nat)(Q:Array Nat->Shared->Prop),fI n p->k+f=n->Cg key p k->(∀p',fI n p'->Cg key p' n->Q p' s)->(kas_bin f p k).kasWp cmp Q s
 |0,p,k,Q,g,hk,ha,hQ=>by
  have e:k=n:=by omega
  rw[e]at ha;exact hQ p g ha
 |f+1,p,k,Q,g,hk,ha,hQ=>by
  unfold kas_bin;rw[Sl];refine rN hkey hc g (by omega) ha k 0 k _ (Q4 _) (Pv _) (by omega) (fun i hi=>by omega) (fun i h1 h2=>by omega) fun l hl ha1 hb1=>?_;have hs:k<p.size:=by rw[g.size];omega
  refine Du f _ (k+1) Q (um g (bubble_perm _ _ _) (bubble_size _ _ _)) (by omega) (fun i j hij hj=>?_) hQ
  have hb:∀x,at' key (bubble p k (k-l)) x=if x=l then at' key p k else if l<x/\x<=k then at' key p (x-1) else at' key p x:=fun x=>by
   have e:=getElem?_bubble hs (k-l) (by omega) x;have el:k-(k-l)=l:=by omega
   rw[el]at e;by_cases e1:x=l
   ·rw[OS e1]at e⊢;exact rD e
   ·rw [OT e1] at e ⊢;by_cases e2:l<x/\x<=k
    ·rw[OS e2]at e⊢;exact rD e
    ·rw[OT e2]at e⊢;exact rD e
  rw[hb i,hb j];by_cases i1:i=l
  ·rw[OS i1,OT (by omega),OS ⟨by omega,by omega⟩];exact hb1 (j-1) (by omega) (by omega)
  ·rw [OT i1];by_cases i2:l<i/\i<=k
   ·rw[OS i2,OT (by omega),OS ⟨by omega,by omega⟩];exact ha (i-1) (j-1) (by omega) (by omega)
   ·rw [OT i2];have hi:i<l:=by omega
    by_cases j1:j=l
    ·rw[OS j1];exact ha1 i hi
    ·rw [OT j1];by_cases j2:l<j/\j<=k
     ·rw [OS j2];by_cases ej:i=j-1
      ·omega
      ·exact ha i (j-1) (by omega) (by omega)
     ·rw[OT j2];exact ha i j hij (by omega)
theorem z9(h2:2<=n)(Q:Array Nat->Shared->Prop)(hQ:∀p',fI n p'->Cg key p' n->Q p' s):(kas_sort n).kasWp cmp Q s:=by
 unfold kas_sort;rw[Sl];have g0:fI n (List.toArray (List.range n)):=⟨by simp,by simp⟩;refine EE hkey hc g0 h2 _ fun m p' g h1 hm ha=>?_;show (if m<n then _ else _:KasT (Array Nat)).kasWp cmp Q s;by_cases e:m<n
 ·rw [OS e];have em:max m 1=m:=by omega
  rw[em];exact Du hkey hc (n-m) p' m Q g (by omega) ha hQ
 ·rw [OT e];have em:m=n:=by omega
  rw[em]at ha;exact hQ p' g ha
end
def qc(k:List Int):Int:=k.getD 0 0*6+k.getD 1 0
theorem iS(h:k∈prs):∃a b:Int,k=[a,b]/\0<=a/\a<b/\b<6:=by
 have key:∀k∈prs,0<=k.getD 0 0/\k.getD 0 0<k.getD 1 0/\k.getD 1 0<6/\k=[k.getD 0 0,k.getD 1 0]:=by decide +kernel
 obtain⟨h1,h2,h3,h4⟩:=key k h;exact⟨_,_,h4,h1,h2,h3⟩
theorem G9{k':List Int}(h:k∈prs)(h':k'∈prs)(e:qc k=qc k'):k=k':=by
 obtain⟨a,b,rfl,h1,h2,h3⟩:=iS h;obtain⟨c,d,rfl,h4,h5,h6⟩:=iS h';have e':a*6+b=c*6+d:=e;have:a=c:=by omega
 have:b=d:=by omega
 subst_vars;rfl
section
variable{w:World}
theorem yt {h:Heap}{a b:Int}{r:Addr} (t:Tk prog w h [a,b] r):∃o n t1 t2,h.get? r=some o/\o.cls=.type "tuple" /\ o.data=.seq #[.int a t1,.int b t2] n:=by
 obtain⟨o,items,n,ho,hc,hd,hi⟩:=t;cases hi':items.toList with
 |nil=>rw[hi']at hi;cases hi
 |cons v1 r1=>
  rw[hi']at hi;cases hi with
  |cons h1 t1=>
   cases t1 with
   |cons h2 t2=>
    cases t2;obtain⟨x1,e1⟩:=OO (k:=a) h1;obtain⟨x2,e2⟩:=OO (k:=b) h2
    have e:items=#[.int a x1,.int b x2]:=by
     apply Sn.mp;rw[hi',e1,e2]
    exact⟨o,n,x1,x2,ho,hc,by rw[hd,e]⟩
theorem Gk{x y:Addr}{k':List Int}{Q:Bool->Shared->Prop}(hx:Tk prog w s.heap k x)(hy:Tk prog w s.heap k' y)(hk:k∈prs)(hk':k'∈prs)(h:Q (decide (qc k<qc k')) s):
  wpAny (model prog w) A (keyLt' (tuples' true) (.ref x) (.ref y)) Q E s:=by
 obtain⟨a,b,rfl,h1,h2,h3⟩:=iS hk;obtain⟨c,d,rfl,h4,h5,h6⟩:=iS hk';obtain⟨o,n,t1,t2,ho,_,hd⟩:=yt hx;obtain⟨o',n',t1',t2',ho',_,hd'⟩:=yt hy;have h':Q (decide (a*6+b<c*6+d)) s:=h;refine kat_lt ho hd ho' hd' ?_;show KatLex prog w A true (decide (2<2)) Q [(.int a t1,.int c t1'),(.int b t2,.int d t2')] 0 s;refine kat_cons (OR ?_);by_cases e1:a=c
 ·rw [show (a == c) = true by simpa using e1];refine kat_yes (kat_cons (OR ?_));by_cases e2:b=d
  ·rw [show (b == d) = true by simpa using e2];refine kat_yes (kat_nil ?_);have:decide (a*6+b<c*6+d)=decide (2<2):=by rw[So];omega
   rw[<- this];exact h'
  ·rw [show (b == d) = false by simpa using e2];refine kat_no ?_;show wpAny _ A (oneLt' false _ _) Q _ s;refine kat_one _ _ (lt_int ?_);have:decide (a*6+b<c*6+d)=decide (b<d):=by rw[So];omega
   show Q _ s;rw[<- this];exact h'
 ·rw [show (a == c) = false by simpa using e1];refine kat_no ?_;show wpAny _ A (keyLt' oneType' _ _) Q _ s;refine kat_lt_int ?_;have:decide (a*6+b<c*6+d)=decide (a<c):=by rw[So];omega
  rw[<- this];exact h'
end
def i5(ps:List KP):Prop:=ps.Pairwise fun p q=>qc p.1<qc q.1
def aJ(ps:List KP):List Value:=ps.map fun p=>Value.ref p.2
section
variable{w:World}
theorem zU{h:Heap}:∀{ps:List KP},(∀p∈ps,p.1∈prs)->(∀p∈ps,Tk prog w h p.1 p.2)->∃fs,KatTups h (aJ ps) fs/\fs.length=ps.length/\∀v∈fs,∃i t,v=Value.int i t
 |[],_,_=>⟨[],KatTups.nil,rfl,fun v hv=>by simp at hv⟩
 |p::ps,hk,ht=>by
  obtain⟨fs,h1,h2,h3⟩:=zU (ps:=ps) (fun q hq=>hk q (O4 _ hq)) (fun q hq=>ht q (O4 _ hq));obtain⟨a,b,e,_⟩:=iS (hk p O3);have t:=ht p O3;rw[e]at t;obtain⟨o,n,t1,t2,ho,hc,hd⟩:=yt t;refine⟨.int a t1::fs,KatTups.cons ho hc hd rfl h1,by rw[QV,QV,h2],fun v hv=>?_⟩;rcases O5.mp hv with q|q
  ·exact⟨a,t1,q⟩
  ·exact h3 v q
theorem JQ{ps:List KP}(hk:∀p∈ps,p.1∈prs)(hn:(ps.map (·.1)).Nodup){p:Array Nat}(g:fI ps.length p)(ha:Cg (fun i=>qc (ps.getD i ([],0)).1) p ps.length) :
  ∃out:List KP,(p.toList.map fun i=>(aJ ps).getD i Value.none)=aJ out/\out.Perm ps/\i5 out:=by
 refine⟨p.toList.map fun i=>ps.getD i ([],0),?_,?_,?_⟩
 ·unfold aJ;rw[Re];refine Rf fun i hi=>?_;have hi':i<ps.length:=OZ.mp (g.perm.mem_iff.mp hi);simp[Sr,hi']
 ·refine (g.perm.map _).trans ?_
  have:(List.range ps.length).map (fun i=>ps.getD i ([],0))=ps:=by
   apply Ss;intro i;rw[P0];by_cases hi:i<ps.length
   ·rw[Su hi];simp[hi]
   ·rw[Sv (by simpa using hi),Sv (by omega)];rfl
  rw[this]
 ·unfold i5;rw[Sw];refine Rk.mpr fun i j hi hj hij=>?_;have hi':i<p.size:=by simpa using hi
  have hj':j<p.size:=by simpa using hj
  have:=ha i j hij (by rw[<- g.size];exact hj');unfold at' at this;simpa[Array.getD,hi',hj'] using this
theorem yU{ps:List KP}{P:PySem.Fin->Shared->Prop}(ho:s.heap.get? a=some (seqObj "list" (aJ ps).toArray n))(hk:∀p∈ps,p.1∈prs)(hn:(ps.map (·.1)).Nodup)(hT:∀p∈ps,Tk prog w s.heap p.1 p.2)(h:∀out:List KP,out.Perm ps->i5 out->P (.done (.ret .none)) {s with heap:=sortedHeap s.heap a (aJ ps) (aJ out).toArray}):
  wpAny (model prog w) A (Builtin.«list.sort» ⟨[.ref a],[]⟩) P E s:=by
 have hlen:=lW hk hn;have hvl:(aJ ps).length=ps.length:=by unfold aJ;rw[Qd]
 rw[list_sort_plain];have hal:a<s.heap.objs.size:=OU ho;refine Pj (Sx ho rfl ?_);refine Pj (Sy ho rfl ?_ (by rw[PH,hvl];exact O0 hlen (by decide)) (Q4 _));obtain⟨e1,ho1⟩:∃e1,(s.heap.update a (Obj.mapSeq fun _=>#[])).get? a=some (seqObj "list" #[] e1):=⟨_,SA ho (fun _=>#[])⟩;refine Pj (SB ho1 rfl ?_);refine Pj (wpAny_newTuple ?_);refine Pj (SC ?_);refine Pl ?_
 have ho6:(((s.heap.update a (Obj.mapSeq fun _=>#[])).push (seqObj "tuple" (aJ ps).toArray 0)).push (seqObj "list" #[] 0)).get? a=some (seqObj "list" #[] e1):=by
  rw[SD _ _ _ (by rw[SE,SF];exact OX (QX hal)),SD _ _ _ (by rw[SF];exact OX hal)];exact ho1
 show wpAny (model prog w) A _ P E {s with heap:=((s.heap.update a (Obj.mapSeq fun _=>#[])).push (seqObj "tuple" (aJ ps).toArray 0)).push (seqObj "list" #[] 0)};dsimp only
 have hna:∀p∈ps,p.2≠a:=fun p hp e=>by
  obtain⟨o,items,m,ho',hc',_⟩:=hT p hp;rw[e,ho]at ho';have:=ON ho';subst this;exact absurd (show Value.type "list" = Value.type "tuple" from hc') (by decide)
 generalize hS:({s with heap:=((s.heap.update a (Obj.mapSeq fun _=>#[])).push (seqObj "tuple" (aJ ps).toArray 0)).push (seqObj "list" #[] 0)}:Shared)=s1;have eh1:s1.heap=((s.heap.update a (Obj.mapSeq fun _=>#[])).push (seqObj "tuple" (aJ ps).toArray 0)).push (seqObj "list" #[] 0):=by rw[<- hS]
 have hT1:∀p∈ps,Tk prog w s1.heap p.1 p.2:=fun p hp=>by
  obtain⟨o,items,m,ho',rest⟩:=hT p hp;refine⟨o,items,m,?_,rest⟩;rw[eh1];refine Pt _ (Pt _ ?_);rw[SG _ _ _ _ (hna p hp)];exact ho'
 rw[<- eh1]at ho6
 have hfin:∀out:List KP,out.Perm ps->i5 out->P (.done (.ret .none)) {s1 with heap:=s1.heap.update a (Obj.mapSeq fun _=>(aJ out).toArray)}:=fun out h1 h2=>by
  have q:=h out h1 h2;rw[<- hS];exact q
 have hszv:(aJ ps).toArray.size=ps.length:=by rw[PH,hvl]
 by_cases h2:(aJ ps).toArray.size<2
 ·rw [OS h2, OS h2];refine Pj (Pp ?_);rw[StateT.run_pure];refine Pj (Pp ?_);dsimp only;refine Pj (SB ho6 rfl ?_)
  have eo:(arrOf (SortSt.mk' general' ((aJ ps).toArray.zip (aJ ps).toArray) #[] 7 none)).map (·.2)=(aJ ps).toArray:=by
   show (((aJ ps).toArray.zip (aJ ps).toArray)).map (·.2)=_;apply Sn.mp;rw[RL,Array.toList_zip];exact List.map_snd_zip (Pv _)
  rw[eo];refine Pj (Sy ho6 rfl ?_ (Q4 _) (by show (aJ ps).toArray.size<=_;rw[hszv];exact O0 hlen (by decide)));simp only[SH,QU,Ql];refine Pp (hfin ps (SI _) ?_);rw[hszv]at h2
  match ps,h2 with
  |[],_=>exact List.Pairwise.nil
  |[_],_=>exact List.pairwise_singleton _ _
  |_::_::_,h=>rw[QV,QV]at h;omega
 ·rw [OT h2, OT h2];rw[hszv]at h2;obtain⟨fs,k1,k2,k3⟩:=zU hk hT1;refine Pj (kat_kind (T:=Value.type "int") k1 (by omega) (fun v hv=>?_) (by rfl) ?_)
  ·obtain⟨i,t,e⟩:=k3 v hv;rw[e];exact .now
  ·have et : (Value.type "int" != Value.type "tuple") = true := by decide
   rw[et]
   refine Pj (Pe (kat_run (ks:=aJ ps) (vs:=aJ ps) (Q:=fun st' s'=>s'=s1/\failedOf st'=none/\∃out:List KP,out.Perm ps/\i5 out/\(arrOf st').map (·.2)=(aJ out).toArray)
    (G:=fun p s'=>s'=s1/\∃out:List KP,(p.toList.map fun i=>(aJ ps).getD i Value.none)=aJ out/\out.Perm ps/\i5 out) rfl (by rw[hvl];omega) (by rw[hvl];omega) ?_ ?_) ?_ fun _ _ e=>e)
   ·rintro p st' s' hp har hf ⟨e, out, o1, o2, o3⟩
    exact⟨e,hf,out,o2,o3,by rw[kat_snds rfl har,o1]⟩
   ·rw [hvl];refine z9 (key:=fun i=>qc (ps.getD i ([],0)).1) (fun i j hi hj e=>?_) (fun i j hi hj C hC=>?_) (by omega) _ (fun p g ha=>⟨rfl,JQ hk hn g ha⟩)
    ·have hi' : ps.getD i ([], 0) = ps[i] := by simp [Sr, hi]
     have hj':ps.getD j ([],0)=ps[j]:=by simp[Sr,hj]
     simp only[hi',hj']at e;have e2:=G9 (hk _ (SJ hi)) (hk _ (SJ hj)) e;have hil:i<(ps.map (·.1)).length:=by rw[Qd];exact hi
     have hjl:j<(ps.map (·.1)).length:=by rw[Qd];exact hj
     exact(Pb (h₀:=hil) (h₁:=hjl) hn).mp (by simpa using e2)
    ·unfold kas_ask;have gi:(aJ ps).getD i Value.none=.ref ps[i].2:=by unfold aJ;simp[Sr,hi]
     have gj:(aJ ps).getD j Value.none=.ref ps[j].2:=by unfold aJ;simp[Sr,hj]
     have hi':ps.getD i ([],0)=ps[i]:=by simp[Sr,hi]
     have hj':ps.getD j ([],0)=ps[j]:=by simp[Sr,hj]
     rw[gi,gj];simp only[hi',hj']at hC;exact Gk (hT1 _ (SJ hi)) (hT1 _ (SJ hj)) (hk _ (SJ hi)) (hk _ (SJ hj)) hC
   ·rintro ⟨⟨⟩, st'⟩ s' ⟨rfl, hf, out, o1, o2, o3⟩
    dsimp only;refine Pj (SB ho6 rfl ?_);rw[o3];refine Pj (Sy ho6 rfl ?_ (Q4 _) (by show (aJ out).toArray.size<=_;rw[PH];unfold aJ;rw[Qd,o1.length_eq];exact O0 hlen (by decide)));rw[hf];simp only[SH,QU,Ql];exact Pp (hfin out o1 o2)
end
namespace Fx
theorem slot_setiter_next:Slot "set_iterator" "__next__" "set_iterator.__next__" :=
 .of (owner:="set_iterator") (n:="__next__") (by rw[typeLookup_type,builtinLookup_eq_fast];kernel_rfl) (by decide +kernel) (by decide +kernel) (by decide +kernel)
  (by first|exact .inl (by decide +kernel)|exact .inr (by decide +kernel)) (by rw[Sa];kernel_rfl)
theorem entry_setiter_next:entryFor table "set_iterator.__next__" = some Builtin.«set_iterator.__next__»:=entryFor_of_fast (by kernel_rfl)
theorem args_setiter_next (a:Value):argsOk "set_iterator.__next__" ⟨[a],[]⟩:=by unfold argsOk;kernel_rfl
theorem entry_set_iter:entryFor table "set.__iter__" = some Builtin.«frozenset.__iter__»:=
 entryFor_alias (id':="frozenset.__iter__") (by kernel_rfl) rfl (by decide +kernel) (by kernel_rfl)
end Fx
def eB (h:Heap) (I S:Addr) (i n ep slot:Nat):Prop:=h.get? I=some {cls:=.type "set_iterator",dict:=none,data:=.fields #[.int (slot:Int) 0,.int (i:Int) 0,.ref S,.int (n:Int) 0,.int (ep:Int) 0],slots:=#[]}
def eF (w:World) (S:Addr) (ep:Nat) (es:Array (Int×Value)):List (Int×Value):=if w.params.followText "set-order" then (pickOrder (w.params.setOrder S ep) es).toList else es.toList
def d3 (w:World) (α:List (Nat×Int×Value)) (i:Nat):Nat:=if w.params.followText "set-order" then 0 else if i=0 then 0 else (α.getD (i-1) (0,0,.none)).1+1
theorem uf{Z:Type}(next:Nat->Nat):∀(fuel k:Nat)(left:List Z)(out:Array Z),left.length=fuel->(pickOrder.go next fuel k left out).toList.Perm (out.toList++left)
 |0,k,left,out,h=>by
  have:left=[]:=List.length_eq_zero_iff.mp h;subst this;show out.toList.Perm (out.toList++[]);rw[PJ]
 |fuel+1,k,left,out,h=>by
  have hlt:next k%left.length<left.length:=Nat.mod_lt _ (by omega)
  show (match left[next k%left.length]? with|some x=>_|none=>_:Array Z).toList.Perm _;rw[SK hlt];show (pickOrder.go next fuel (k+1) (left.eraseIdx (next k%left.length)) (out.push left[next k%left.length])).toList.Perm _;refine(uf next fuel (k+1) _ _ (by rw[List.length_eraseIdx_of_lt hlt];omega)).trans ?_;rw[Array.toList_push,QK];refine List.Perm.append_left _ ?_;rw[List.singleton_append,List.eraseIdx_eq_take_drop_succ]
  have q:(left.take (next k%left.length)++left[next k%left.length]::left.drop (next k%left.length+1))=left:=by
   rw[List.getElem_cons_drop];exact Ry _ _
  have q2:=(List.perm_middle (a:=left[next k%left.length]) (l₁:=left.take (next k%left.length)) (l₂:=left.drop (next k%left.length+1))).symm;rw[q]at q2;exact q2
theorem lz{w:World}{S:Addr}{ep:Nat}:(eF w S ep es).Perm es.toList:=by
 unfold eF;split
 ·have:=uf (w.params.setOrder S ep) es.size 0 es.toList #[] (by simp);simpa[pickOrder] using this
 ·exact SI _
theorem EK(T:tN t es α){w:World}(hb:w.params.followText "set-order" = false)(hi:i<=α.length):SetTable.below t.place (d3 w α i)=i:=by
 have r:ET t.place.toList:=by rw[T.place];exact T.ris
 obtain⟨b1,b2,b3⟩:=mX r (d3 w α i);have hsz:=T.size.1
 have gz:∀k,k<α.length->t.place.getD k (d3 w α i)=(α.getD k (0,0,.none)).1:=fun k hk=>by
  have e:t.place[k]?=some (α[k]).1:=by rw[<- Rp,T.place,P0,SK hk];rfl
  rw[RD,e,Sr,SK hk];rfl
 have hris:∀a b,a<b->b<α.length->(α.getD a (0,0,.none)).1<(α.getD b (0,0,.none)).1:=fun a b hab hbz=>by
  rw[<- gz a (by omega),<- gz b hbz];exact vb r _ a b hab (by omega)
 have hs:d3 w α i=if i=0 then 0 else (α.getD (i-1) (0,0,.none)).1+1:=by
  unfold d3;rw[hb,OT PD]
 by_cases h0:i=0
 ·rw [OS h0] at hs;rw[hs]at b2⊢;by_cases hz:SetTable.below t.place 0=0
  ·rw[hz,h0]
  ·have:=b2 0 (by omega);omega
 ·rw [OT h0] at hs
  have hlo:¬ SetTable.below t.place (d3 w α i)<=i-1:=fun hle=>by
   have:=b3 (i-1) hle (by omega);rw[gz _ (by omega)]at this;omega
  have hhi:¬ i<SetTable.below t.place (d3 w α i):=fun hlt=>by
   have:=b2 i hlt;have hiz:i<α.length:=by omega
   rw[gz i hiz]at this;have:=hris (i-1) i (by omega) hiz;omega
  omega
section
variable{w:World}
theorem wV{o es ep t α}{Q:Option (Value×Nat)->Shared->Prop}(S:eT w s.heap a ps o es ep t α)(hi:i<=α.length)(h:Q (((eF w a ep es)[i]?).map fun e=>(e.2,d3 w α (i+1))) s):wpAny (model prog w) A (setNext a (d3 w α i) i ep) Q E s:=by
 unfold setNext;refine Pj (RT S.ho S.hd S.fits ?_);dsimp only;unfold setsByText;refine Pj (Pj (Q2 (Pp ?_)));cases hb:w.params.followText "set-order" with
 |true=>
  have e1:eF w a ep es=(pickOrder (w.params.setOrder a ep) es).toList:=by unfold eF;rw[hb,OS rfl]
  have e2:∀j,d3 w α j=0:=fun j=>by unfold d3;rw[hb,OS rfl]
  rw[e1,e2]at h;show wpAny _ _ (if (w.params.followText "set-order")=true then _ else _) _ _ _;rw[hb,OS rfl];rw[OT (by simp)];refine Pj ?_;unfold setWalk;refine Pj (RT S.ho S.hd S.fits ?_);dsimp only;unfold setsByText;refine Pj (Pj (Q2 (Pp ?_)));show wpAny _ _ (if (w.params.followText "set-order")=true then _ else _) _ _ _;rw[hb,OS rfl];refine Pj (Q2 (Pp (Pp ?_)));rw[e2,<- Rp];exact h
 |false=>
  have e1:eF w a ep es=es.toList:=by unfold eF;rw[hb,OT PD]
  have hled:t.led=true:=by rw[S.led,hb];rfl
  show wpAny _ _ (if (w.params.followText "set-order")=true then _ else _) _ _ _;rw[hb,OT PD];have hdr:(!t.plain&&decide (es.size>1))=false:=by rw[S.plain];rfl
  show wpAny _ _ (if (!t.plain&&decide (es.size>1))=true then _ else _) _ _ _;rw[hdr,OT PD];refine Pj ?_;show wpAny _ _ (if (!t.led && !es.isEmpty)=true then _ else _) _ _ _;rw[hled];simp only[RQ,Pr,QU,Ql];refine Pp (Pp ?_);rw[EK S.tab hb hi];rw[e1,Rp]at h;by_cases hlt:i<α.length
  ·have ez : α[i]? = some α[i] := SK hlt;have ee:=S.tab.hashAt ez;have ep':t.place[i]?=some (α[i]).1:=by rw[<- Rp,S.tab.place,P0,ez];rfl
   rw[ee,ep'];rw[ee]at h
   have es':d3 w α (i+1)=(α[i]).1+1:=by
    unfold d3;rw[hb,OT PD,OT (by omega),Nat.add_sub_cancel,Sr,ez];rfl
   rw[es']at h;exact h
  ·have : es[i]? = none := by rw [RI, S.tab.size.2]; omega
   rw[this];rw[this]at h;exact h
end
section
variable{w:World}
theorem eB.typeIs{S:Addr}{ep slot:Nat}(h:eB s.heap I S i n ep slot):s.TypeIs (.ref I) "set_iterator" := ⟨_,h,rfl⟩
theorem g8{o es ep t α}(S:eT w s.heap a ps o es ep t α):s.TypeIs (.ref a) "set" := ⟨o,S.ho,S.ex.1⟩
theorem DN{o es ep t α}(S:eT w s.heap a ps o es ep t α)(hQ:Q (.ref s.heap.objs.size) {s with heap:=s.heap.push {cls:=.type "set_iterator",data:=.fields #[.int ((0:Nat):Int) 0,.int ((0:Nat):Int) 0,.ref a,.int (α.length:Int) 0,.int (ep:Int) 0]}}):
  wpAny (model prog w) A (pyIter (.ref a)) Q E s:=by
 refine wpAny_pyIter_slot (g8 S) PySem.F.slot_set_iter (Qu PySem.F.slot_set_iter (g8 S) Fx.entry_set_iter ?_ (PySem.F.args_set_iter_1 _));unfold Builtin.«frozenset.__iter__» Builtin.Frozenset.sizeOf;refine Pj (m:=Builtin.Frozenset.slot0 "__iter__" _) (Rb (a:=a) rfl ?_);refine Pj (Pj (SL S.ho S.hd S.fits (Pp ?_)));unfold setDrawn;refine Pj (Pj (RT S.ho S.hd S.fits ?_));dsimp only;unfold setsByText;refine Pj (Pj (Q2 (Pp (Pp ?_))));have hdr:(!w.params.followText "set-order" && (!t.plain&&decide (es.size>1)))=false:=by rw[S.plain];simp
 show wpAny _ _ (if (!w.params.followText "set-order" && (!t.plain&&decide (es.size>1)))=true then _ else _) _ _ _;rw[hdr,OT PD];refine Pj (Pp ?_);refine Pj (wpAny_setEpoch_of S.ho S.hd S.fits ?_);refine Pj (QA (Pp ⟨_,rfl, "set_iterator",_,⟨_,Pu _ rfl,rfl⟩,Fx.slot_setiter_next.lookup,?_⟩));rw[S.tab.size.2];exact hQ
theorem DO{o es ep t α}{v:Int×Value}{Q:Option Value->Shared->Prop}(S:eT w s.heap a ps o es ep t α)(hit:eB s.heap I a i α.length ep (d3 w α i))(hv:(eF w a ep es)[i]?=some v)(hQ:∀h',eB h' I a (i+1) α.length ep (d3 w α (i+1))->Heap.SameBut I s.heap h'->Q (some v.2) {s with heap:=h'}):wpAny (model prog w) A (pyNext (.ref I)) Q E s:=by
 have hT:=hit.typeIs;have hoi:=hit;unfold eB at hoi
 have hil:i<α.length:=by
  have:=(O9.mp hv).1;rw[lz.length_eq,Pg,S.tab.size.2]at this;exact this
 unfold pyNext;refine Pj (SM (Qs (name:=Str.ofString "__next__") hT Fx.slot_setiter_next (Qu Fx.slot_setiter_next hT Fx.entry_setiter_next ?_ (Fx.args_setiter_next _))));unfold Builtin.«set_iterator.__next__»;refine Pj (m:=slotArgs "__next__" 0 _) (Rb (a:=(.ref I,[])) rfl ?_);dsimp only;unfold fieldsOf;refine Pj (Pj (Pq hoi ?_));refine Pp ?_;refine Pj (SL S.ho S.hd S.fits ?_);rw[S.tab.size.2];simp only[SH,QU,Ql,Qj];refine Pj (wV S (O1 hil) ?_);rw[hv];dsimp only[Option.map_some];refine Pj (SN hoi (by simp) fun h1 e1 sb1=>?_);refine Pj (SN (s:={s with heap:=h1}) e1 (by simp) fun h2 e2 sb2=>?_);refine Pp ⟨v.2,rfl,Pp (hQ h2 ?_ (sb1.trans sb2))⟩;unfold eB;rw[e2];simp[rawInt]
theorem FW{o es ep t α}{Q:Option Value->Shared->Prop}(hh:A.handled=none)(S:eT w s.heap a ps o es ep t α)(hit:eB s.heap I a α.length α.length ep (d3 w α α.length))(hQ:∀h',Heap.ExtBut I s.heap h'->Q none {s with heap:=h'}):wpAny (model prog w) A (pyNext (.ref I)) Q E s:=by
 have hT:=hit.typeIs;have hoi:=hit;unfold eB at hoi
 have hv:(eF w a ep es)[α.length]?=none:=by
  rw[List.getElem?_eq_none_iff,lz.length_eq,Pg,S.tab.size.2];exact Pv _
 unfold pyNext;refine Pj (SM (Qs (name:=Str.ofString "__next__") hT Fx.slot_setiter_next (Qu Fx.slot_setiter_next hT Fx.entry_setiter_next ?_ (Fx.args_setiter_next _))));unfold Builtin.«set_iterator.__next__»;refine Pj (m:=slotArgs "__next__" 0 _) (Rb (a:=(.ref I,[])) rfl ?_);dsimp only;unfold fieldsOf;refine Pj (Pj (Pq hoi ?_));refine Pp ?_;refine Pj (SL S.ho S.hd S.fits ?_);rw[S.tab.size.2];simp only[SH,QU,Ql,Qj];refine Pj (wV S (Pv _) ?_);rw[hv];dsimp only[Option.map_none];refine Pj (SN hoi (by simp) fun h1 e1 sb1=>?_);refine Pj ?_;simp only[newExc,newTuple];refine Pj (QA ?_ (by size_fits));refine Pj (m:=firstArgMember _ _) (Rb (a:=Value.none) (by first|rfl|(simp only[firstArgMember];rfl)) ?_);refine QA ?_ (by size_fits);simp only[raiseNew];refine Pj (wpAny_handled ?_);rw[show A.in1.handled=none from hh];refine Pj (Pp (wpAny_throw ?_));refine Pj (SQ (T:="StopIteration") (b:=true) ⟨_,Pu _ rfl,rfl⟩ isSubtype_stop ?_);exact Pp (hQ _ ((sb1.extBut.push _).push _))
end
namespace Fx
theorem entry_extend_loop:entryFor table "list.extend.loop" = some Builtin.«list.extend.loop»:=entryFor_of_fast (by kernel_rfl)
theorem plain_extend_loop:plainId "list.extend.loop" = true:=by decide +kernel
theorem split_set_len:splitId "set.__len__" = some ("set", "__len__"):=by decide +kernel
end Fx
section
variable{w:World}
theorem xX{o es ep t α}{Q:Bool->Shared->Prop}(S:eT w s.heap a ps o es ep t α)(h:Q false s):wpAny (model prog w) A (Builtin.List.listLengthHint (.ref a)) Q E s:=by
 unfold Builtin.List.listLengthHint;refine Pj (wpAny_specialOf (g8 S) PySem.F.slot_set_len.lookup ?_);dsimp only;rw[Fx.split_set_len];dsimp only;refine Pj (SQ (g8 S) sub_set_self ?_);simp only[RQ,QU,Ql];rw[OS (by rfl)];refine Pj (Qx (g8 S) ?_);exact Pp h
theorem xZ{R:Result->Shared->Prop}{L:Addr}{o es ep t α}(hh:A.handled=none)(hIa:I≠a)(hIL:I≠L)(hLa:L≠a)(hz:α.length<=100):
  ∀(k i n:Nat) (s:Shared),α.length-i=k->i<=α.length->eT w s.heap a ps o es ep t α->eB s.heap I a i α.length ep (d3 w α i)->s.heap.get? L=some (seqObj "list" (((eF w a ep es).take i).map (·.2)).toArray n) ->
   (∀h' m,(∀b u,b≠I->b≠L->s.heap.get? b=some u->h'.get? b=some u)->h'.get? L=some (seqObj "list" ((eF w a ep es).map (·.2)).toArray m)->R (.ok (.ret (.ref L))) {s with heap:=h'}) ->
   codeAny (model prog w) A (.builtin "list.extend.loop" ⟨[.ref L,.ref I,.ref L],[]⟩) R s:=by
 intro k
 induction k with
 |zero=>
  intro i n s ek hi S hit hL hR;have e:i=α.length:=by omega
  subst e;refine R6 Fx.entry_extend_loop ?_;rw[R7 Fx.plain_extend_loop _];show wpAny _ A.in1 (pyNext (.ref I) >>= _) _ _ s;refine Pj (FW (by simpa using hh) S hit fun h' eb=>?_);show wpAny _ A.in1 (ret (.ref L)) _ _ _;refine Pp (hR h' n (fun b u hb _ q=>eb b u hb q) ?_);rw[Rn (by rw[lz.length_eq,Pg,S.tab.size.2];exact Pv _)]at hL;exact eb L _ (O6 hIL) hL
 |succ k ih=>
  intro i n s ek hi S hit hL hR;have hil:i<(eF w a ep es).length:=by rw[lz.length_eq,Pg,S.tab.size.2];omega
  refine R6 Fx.entry_extend_loop ?_;rw[R7 Fx.plain_extend_loop _];show wpAny _ A.in1 (pyNext (.ref I) >>= _) _ _ s;refine Pj (DO S hit (SK hil) fun h' hit' sb=>?_);have hL':h'.get? L=some (seqObj "list" (((eF w a ep es).take i).map (·.2)).toArray n):=(sb.2 L (O6 hIL)).trans hL
  have hsz:(((eF w a ep es).take i).map (·.2)).toArray.size<=100:=by
   rw[PH,Qd,PU];omega
  show wpAny _ A.in1 (Builtin.List.listUpdate (.ref L) _ >>= _) _ _ _;refine Pj (Sy (s:={s with heap:=h'}) hL' rfl ?_ (O0 hsz (by decide)) (by rw[Array.size_push];exact O0 (Nat.succ_le_succ hsz) (by decide)));have hL2:=SA hL' (·.push ((eF w a ep es)[i]).2)
  have eL:(((eF w a ep es).take i).map (·.2)).toArray.push ((eF w a ep es)[i]).2=(((eF w a ep es).take (i+1)).map (·.2)).toArray:=by
   have q:(eF w a ep es).take (i+1)=(eF w a ep es).take i++[(eF w a ep es)[i]]:=by rw[Sk,SK hil];rfl
   rw[q,RA,List.push_toArray];rfl
  rw[eL]at hL2;have hsb2:=Ra h' L (Obj.mapSeq (·.push ((eF w a ep es)[i]).2));refine Pp ⟨R9 Fx.plain_extend_loop _,ih (i+1) _ _ (by omega) (by omega) ?_ ?_ hL2 fun h'' m kk hm=>?_⟩
  ·refine⟨?_,S.ex,S.hd,S.tab,S.plain,S.led,S.big,S.perm⟩;exact(hsb2.2 a (O6 hLa)).trans ((sb.2 a (O6 hIa)).trans S.ho)
  ·exact(hsb2.2 I hIL).trans hit'
  ·refine hR h'' m (fun b u hb1 hb2 q=>kk b u hb1 hb2 ?_) hm;exact(hsb2.2 b hb2).trans ((sb.2 b hb1).trans q)
theorem n4{Z:Type}{f:Z->β}{l m:List β}(h:l.Perm m):∀ps:List Z,m=ps.map f->∃qs:List Z,qs.Perm ps/\l=qs.map f:=by
 induction h with
 |nil=>
  intro ps e;have:ps=[]:=List.map_eq_nil_iff.mp e.symm;exact⟨[],by rw[this],rfl⟩
 |cons x _ ih=>
  intro ps e;cases ps with
  |nil=>cases e
  |cons p ps=>
   rw[QC]at e;obtain⟨qs,h1,h2⟩:=ih ps (Ri e).2;exact⟨p::qs,h1.cons p,by rw[QC,<- h2,(Ri e).1]⟩
 |swap x y l=>
  intro ps e
  match ps,e with
  |p::q::r,e=>
   rw[QC,QC]at e;obtain⟨e1,e2⟩:=Ri e;obtain⟨e2,e3⟩:=Ri e2;exact⟨q::p::r,List.Perm.swap _ _ _,by rw[QC,QC,e1,e2,e3]⟩
 |trans _ _ ih1 ih2=>
  intro ps e;obtain⟨qs,h1,h2⟩:=ih2 ps e;obtain⟨rs,h3,h4⟩:=ih1 qs h2;exact⟨rs,h3.trans h1,h4⟩
theorem pV{o es ep t α}{Q:List Value->Shared->Prop}(hh:A.handled=none)(S:eT w s.heap a ps o es ep t α)(hz:α.length<=100)(h:∀qs:List (Int×Value),qs.Perm ps->∀h',(∀b u,s.heap.get? b=some u->h'.get? b=some u)->s.heap.objs.size<=h'.objs.size->Q (qs.map (·.2)) {s with heap:=h'}):wpAny (model prog w) A (collect (.ref a)) Q E s:=by
 have hal:a<s.heap.objs.size:=OU S.ho;unfold collect;refine Pj (wpAny_runValue (R6 entry_proto_collect' ?_));show wpAny _ _ (do again (.builtin "list.__iadd__" ⟨[<- newList [],.ref a],[]⟩)) _ _ s;refine Pj (SC (Pp ⟨Sd _ (by decide +kernel),R6 entry_list_iadd' ?_⟩));show wpAny _ _ (Builtin.List.listExtendWith (.ref s.heap.objs.size) (.ref a) (.ref s.heap.objs.size)) _ _ {s with heap:=s.heap.push (seqObj "list" #[] 0)};have S1:eT w (s.heap.push (seqObj "list" #[] 0)) a ps o es ep t α:=⟨Pt _ S.ho,S.ex,S.hd,S.tab,S.plain,S.led,S.big,S.perm⟩;unfold Builtin.List.listExtendWith;refine Pj (Qx (g8 (s:={s with heap:=s.heap.push (seqObj "list" #[] 0)}) S1) ?_)
 have hsame:Builtin.List.listSameRef (.ref s.heap.objs.size) (.ref a)=false:=by
  show (s.heap.objs.size == a)=false;simpa using Po hal
 rw[hsame,OT (by decide)];refine Pj (DN (s:={s with heap:=s.heap.push (seqObj "list" #[] 0)}) S1 ?_);dsimp only;generalize hH:(s.heap.push (seqObj "list" #[] 0)).push {cls:=.type "set_iterator",data:=.fields #[.int ((0:Nat):Int) 0,.int ((0:Nat):Int) 0,.ref a,.int (α.length:Int) 0,.int (ep:Int) 0]}=H2;have eI:(s.heap.push (seqObj "list" #[] 0)).objs.size=s.heap.objs.size+1:=by rw[SE]
 have hk2:∀b u,s.heap.get? b=some u->H2.get? b=some u:=fun b u q=>by rw[<- hH];exact Pt _ (Pt _ q)
 have S2:eT w H2 a ps o es ep t α:=⟨hk2 a o S.ho,S.ex,S.hd,S.tab,S.plain,S.led,S.big,S.perm⟩;have hL2:H2.get? s.heap.objs.size=some (seqObj "list" #[] 0):=by rw[<- hH];exact Pt _ (Pu _ rfl)
 have hI2:H2.get? (s.heap.objs.size+1)=some {cls:=.type "set_iterator",data:=.fields #[.int ((0:Nat):Int) 0,.int ((0:Nat):Int) 0,.ref a,.int (α.length:Int) 0,.int (ep:Int) 0]}:=by
  rw[<- hH,<- eI];exact Pu _ rfl
 rw[eI];refine Pj (Pl (xX (s:={s with heap:=H2}) S2 ?_));rw[OS (by rfl)];refine Pj (Q3 ?_);refine Pj ?_;unfold Builtin.List.listTouch;refine Pj (Sy (s:={s with heap:=H2}) hL2 rfl ?_ (Q4 _) (by decide));have hL3:=SA hL2 (·.push Value.none);refine Sy (s:={s with heap:=H2.update s.heap.objs.size (Obj.mapSeq (·.push Value.none))}) hL3 rfl ?_ (by decide) (by decide);have hL4:=SA hL3 (·.pop);have sb3:=Ra H2 s.heap.objs.size (Obj.mapSeq (·.push Value.none));have sb4:=(sb3.trans (Ra (H2.update s.heap.objs.size (Obj.mapSeq (·.push Value.none))) s.heap.objs.size (Obj.mapSeq (·.pop))));generalize hH4:(H2.update s.heap.objs.size (Obj.mapSeq (·.push Value.none))).update s.heap.objs.size (Obj.mapSeq (·.pop))=H4 at hL4 sb4;have neL:a≠s.heap.objs.size:=OX hal;have neI:s.heap.objs.size+1≠s.heap.objs.size:=Nat.succ_ne_self _;refine Pp ⟨Sd _ (by decide +kernel),?_⟩
 refine xZ (by simpa using hh) (Po (QX hal)) neI (O6 neL) hz (α.length-0) 0 _ {s with heap:=H4} (by omega) (Q4 _)
  ⟨(sb4.2 a neL).trans S2.ho,S.ex,S.hd,S.tab,S.plain,S.led,S.big,S.perm⟩ ?_ (by rw[List.take_zero];exact hL4) fun h' m kk hm=>?_
 ·unfold eB;have e0:d3 w α 0=0:=by unfold d3;split <;> simp
  rw[e0];exact(sb4.2 _ neI).trans hI2
 ·dsimp only;refine Pj (Pq hm ?_);refine Pp ?_;have hp:(eF w a ep es).Perm ps:=lz.trans (by rw[S.tab.ents];exact S.perm)
  have fin:=h (eF w a ep es) hp h' fun b u q=>by
   have hb:b<s.heap.objs.size:=OU q;exact kk b u (OX (QX hb)) (OX hb) ((sb4.2 b (OX hb)).trans (hk2 b u q))
  exact fin (O1 (OU hm))
theorem x4{ps:List KP}{Q:List Value->Shared->Prop}(hh:A.handled=none)(S:gh w s.heap a ps)(h:∀qs:List KP,qs.Perm ps->∀h',(∀b u,s.heap.get? b=some u->h'.get? b=some u)->s.heap.objs.size<=h'.objs.size->Q (aJ qs) {s with heap:=h'}):wpAny (model prog w) A (collect (.ref a)) Q E s:=by
 obtain⟨o,es,ep,t,α,S,hk,hn⟩:=S;have h15:=lW hk hn;refine pV hh S (by rw[S.len,Qd];omega) fun qs hq h' k1 k2=>?_;obtain⟨rs,q1,q2⟩:=n4 hq ps rfl;have q3:qs.map (·.2)=aJ rs:=by rw[q2,Re];rfl
 rw[q3];exact h rs q1 h' k1 k2
theorem Bb{x:Value}{ps:List KP}(hk:∀p∈ps,p.1∈prs)(hn:(ps.map (·.1)).Nodup)(hT:∀p∈ps,Tk prog w s.heap p.1 p.2)(hcol:∀Q':List Value->Shared->Prop,(∀qs:List KP,qs.Perm ps->∀h',(∀b u,s.heap.get? b=some u->h'.get? b=some u)->s.heap.objs.size<=h'.objs.size->Q' (aJ qs) {s with heap:=h'})->wpAny (model prog w) A.in1 (collect x) Q' E s)(h:∀out:List KP,out.Perm ps->i5 out->∀h' D,s.heap.objs.size<=D->(∀b u,s.heap.get? b=some u->h'.get? b=some u)->(∃n,h'.get? D=some (seqObj "list" (aJ out).toArray n))->Q (.ref D) {s with heap:=h'}):
  wpAny (model prog w) A (call (.builtin "sorted") [x]) Q E s:=by
 refine SR SS SU SV (SW _) ?_;unfold Builtin.«sorted»;refine Pj (m:=checkCount "sorted" 1 1 _) (Pp ?_);refine Pj (hcol _ fun qs hqs h1 k1 hsz=>?_);have hkq:∀p∈qs,p.1∈prs:=fun p hp=>hk p (hqs.mem_iff.mp hp);have hnq:(qs.map (·.1)).Nodup:=(hqs.map _).nodup_iff.mpr hn;have hlen:=lW hkq hnq;have hvl:(aJ qs).length<=15:=by unfold aJ;rw[Qd];exact hlen
 refine Pj (SC ?_ (O0 hvl (by decide)));have hoL:(h1.push (seqObj "list" (aJ qs).toArray 0)).get? h1.objs.size=some (seqObj "list" (aJ qs).toArray 0):=Pu _ rfl;have hnn:∀b u,h1.get? b=some u->b≠h1.objs.size:=fun b u q=>OX (OU q);refine Pj (Pl (Qu SX (s:={s with heap:=h1.push (seqObj "list" (aJ qs).toArray 0)}) ⟨_,hoL,rfl⟩ SY ?body (SZ _)))
 case body=>
  refine yU (s:={s with heap:=h1.push (seqObj "list" (aJ qs).toArray 0)}) hoL hkq hnq (fun p hp=>?_) fun out h2 h3=>?_
  ·obtain⟨o,its,n,ho,rest⟩:=hT p (hqs.mem_iff.mp hp);exact⟨o,its,n,Pt _ (k1 _ _ ho),rest⟩
  ·refine ⟨_, rfl, Pp ⟨_, rfl, h out (h2.trans hqs) h3 _ h1.objs.size hsz (fun b u q => ?_) ?_⟩⟩
   ·have hb:=hnn b u (k1 b u q);unfold sortedHeap;rw[SG _ _ _ _ hb];refine Pt _ (Pt _ ?_);rw[SG _ _ _ _ hb];exact Pt _ (k1 b u q)
   ·unfold sortedHeap;have g1:=SA hoL (fun _=>#[]);have g2:=Pt (seqObj "list" #[] 0) (Pt (seqObj "tuple" (aJ qs).toArray 0) g1);exact⟨_,SA g2 (fun _=>(aJ out).toArray)⟩
theorem yS{ps:List KP}(hh:A.handled=none)(S:gh w s.heap a ps)(hT:∀p∈ps,Tk prog w s.heap p.1 p.2)(h:∀out:List KP,out.Perm ps->i5 out->∀h' D,s.heap.objs.size<=D->(∀b u,s.heap.get? b=some u->h'.get? b=some u)->(∃n,h'.get? D=some (seqObj "list" (aJ out).toArray n))->Q (.ref D) {s with heap:=h'}):
  wpAny (model prog w) A (call (.builtin "sorted") [.ref a]) Q E s:=by
 obtain⟨o,es,ep,t,α,S0,hk,hn⟩:=id S;exact Bb hk hn hT (fun Q' hq=>x4 (by simpa using hh) S hq) h
end
theorem tN.free(T:tN t es α){h:Int}(cov:∀j,j<=t.mask->j∈du t.mask h)(hz:α.length<=t.mask)(hA:Nat->Int)(hne:∀i,hA i≠h):
  ∃j pre post,t.probe hA h (t.probeStart h)=some (.empty j none)/\j<=t.mask/\j∉α.map (·.1)/\du t.mask h=pre++j::post/\∀k∈pre,k∈α.map (·.1):=by
 obtain⟨j0,hj0,hn0⟩:=uo (m:=t.mask) (l:=α.map (·.1)) (by rw[Qd];exact hz);obtain⟨pre,j,post,e,hs,hp⟩:=kz (fun j=>j∉α.map (·.1)) (du t.mask h) ⟨j0,cov j0 hj0,hn0⟩
 have el:(AG t.mask (SetTable.turns t.mask) (SetTable.bits h%(t.mask+1)) (SetTable.bits h)).length=pre.length+1+post.length:=by
  show (du t.mask h).length=_;rw[e,Qc,QV];omega
 have hw:iW t (pre.length+1+post.length) (t.probeStart h)=pre++j::post:=by
  have q:=rE t (SetTable.turns t.mask) (SetTable.bits h%(t.mask+1)) (SetTable.bits h) none;rw[el]at q;exact q.trans e
 have hlen:pre.length<10*SetTable.turns t.mask:=by
  have q:=u6 t.mask (SetTable.turns t.mask) (SetTable.bits h%(t.mask+1)) (SetTable.bits h);omega
 have occ:∀k∈pre,k∈α.map (·.1):=fun k hk=>Ru fun q=>hp k hk q
 have hpre:∀k∈pre,∃i,t.slot k=.live i/\hA i≠h:=fun k hk=>by
  obtain⟨z,hzm,ez⟩:=Rq.mp (occ k hk);obtain⟨i,hi⟩:=Rw hzm;exact⟨i,ez ▸ T.slot_live hi,hne i⟩
 obtain⟨g1,g2⟩:=vk t hA h pre j post (10*SetTable.turns t.mask) (t.probeStart h) hw hlen rfl hpre;exact⟨j,pre,post,g1 (T.slot_empty hs),jT (h:=h) (by rw[e];simp),hs,e,occ⟩
abbrev KI:=Int×Tok
def Co(p:KI):Int×Value:=(hashInt p.1,Value.int p.1 p.2)
def ins:List Int:=[0,1,2,3,4,5]
theorem GU{i:Int}:i∈ins↔0<=i/\i<6:=by
 unfold ins;simp only[O5,Sg,Sh];omega
def Im(mask:Nat):Bool:=ins.all fun k=>(List.range (mask+1)).all fun j=>(du mask (hashInt k)).contains j
theorem MJ:Im 7=true:=by decide +kernel
theorem Dq:Im 31=true:=by decide +kernel
theorem vn(h:Im mask=true){k:Int}(hk:k∈ins):∀j,j<=mask->j∈du mask (hashInt k):=fun j hj=>by
 have a:=RP.mp h k hk;have b:=RP.mp a j (OZ.mpr (by omega));simpa using b
theorem uj{a b:Int}(ha:a∈ins)(hb:b∈ins)(e:hashInt a=hashInt b):a=b:=by
 have key:∀x∈ins,∀y∈ins,hashInt x=hashInt y->x=y:=by decide +kernel
 exact key a ha b hb e
def d4(w:World)(h:Heap)(a:Addr)(ps:List KI):Prop:=∃o es ep t α,eT w h a (ps.map Co) o es ep t α/\(∀p∈ps,p.1∈ins)/\(ps.map (·.1)).Nodup
theorem lA{ps:List KI}(hk:∀p∈ps,p.1∈ins)(hn:(ps.map (·.1)).Nodup):ps.length<=6:=by
 have:=jQ hn (l2:=ins) (fun x hx=>by obtain⟨p,hp,e⟩:=Rq.mp hx;rw[<- e];exact hk p hp);rw[Qd]at this;exact this
theorem d4.keeps{w:World}{h:Heap}{ps:List KI}(S:d4 w h a ps)(k:∀o,h.get? a=some o->h'.get? a=some o):d4 w h' a ps:=by
 obtain⟨o,es,ep,t,α,S,hk,hn⟩:=S;exact⟨o,es,ep,t,α,⟨k o S.ho,S.ex,S.hd,S.tab,S.plain,S.led,S.big,S.perm⟩,hk,hn⟩
theorem Of{w:World}{h:Heap}{o es ep t α}(S:eT w h a ps o es ep t α){k:Int}(hk:k∈ins):∀j,j<=t.mask->j∈du t.mask (hashInt k):=by
 rcases S.big with⟨h1,h2⟩|⟨h1,h2⟩ <;> rw[h1]
 ·exact vn MJ hk
 ·exact vn Dq hk
def v8(ps:List KI)(k:Int)(t:Tok):List KI:=if k∈ps.map (·.1) then ps else ps++[(k,t)]
section
variable{w:World}
theorem tZ{a:Addr}{k:Int}{tk:Tok}{ps0:List (Int×Value)}{o es ep t α}(S:eT w s.heap a ps0 o es ep t α){Q:ScanMet->Shared->Prop} :
  ∀(l:List (Int×Value))(n:Nat),(∀e∈l,∃p:KI,e=Co p/\p.1∈ins)->k∈ins->((∃e∈l,e.1=hashInt k)->∀i,Q (.found i) s)->((∀e∈l,e.1≠hashInt k)->Q .absent s)->wpAny (model prog w) A (setScanFrom a (.int k tk) (hashInt k) true l n) Q E s
 |[],n,_,_,h1,h2=>by
  unfold setScanFrom;exact Pp (h2 fun e he=>by simp at he)
 |e::l,n,hl,hk,h1,h2=>by
  obtain⟨p,rfl,hp⟩:=hl e O3;show wpAny _ _ (setScanFrom a _ _ true ((hashInt p.1,Value.int p.1 p.2)::l) n) _ _ _;unfold setScanFrom;by_cases he:hashInt p.1=hashInt k
  ·rw[OS (by simpa using he)];have ek:=uj hp hk he;refine Pj (m:=setEpoch a) (wpAny_setEpoch_of S.ho S.hd S.fits ?_);refine Pj (OR ?_);rw[ek];simp only[QT,RU,Qm];exact Pp (h1 ⟨_,O3,he⟩ _)
  ·rw [OT (by simpa using he)];refine tZ S l (n+1) (fun x hx=>hl x (O4 _ hx)) hk (fun⟨x,hx,ex⟩=>h1 ⟨x,O4 _ hx,ex⟩) fun hx=>h2 fun x hxm=>?_;rcases O5.mp hxm with z|z
   ·rw[z];exact he
   ·exact hx x z
theorem Hk{k:Int}{ps:List KI}{Q:Bool->Shared->Prop}(S:d4 w s.heap a ps)(hk:k∈ins)(h:∀b h',Heap.SameBut a s.heap h'->d4 w h' a (v8 ps k tk)->Q b {s with heap:=h'}):wpAny (model prog w) A (setAddHashed a (.int k tk) (hashInt k)) Q E s:=by
 obtain⟨o,es,ep,t,α,S,hk0,hn0⟩:=S
 have hent:∀e∈es.toList,∃p∈ps,e=Co p:=fun e he=>by
  rw[S.tab.ents]at he;obtain⟨p,hp,q⟩:=Rq.mp (S.perm.mem_iff.mp he);exact⟨p,hp,q.symm⟩
 have hto:∀p∈ps,Co p∈es.toList:=fun p hp=>by
  rw[S.tab.ents];exact S.perm.mem_iff.mpr (Rx hp)
 have hlen6:=lA hk0 hn0;have hZl:α.length=ps.length:=by rw[S.len,Qd]
 have hesz0:es.size=ps.length:=by rw[S.tab.size.2,hZl]
 have hz:α.length<=t.mask:=by rcases S.big with⟨q,q2⟩|⟨q,q2⟩ <;> omega
 unfold setAddHashed setAddHashedIn;refine Pl (Pj (RT S.ho S.hd S.fits ?_));dsimp only
 have hsc:byScan (Value.int k tk) es=true:=by
  unfold byScan;have h1:decide (es.size<scanBound)=true:=QP (by rw[hesz0];unfold scanBound;omega)
  have h2:es.all (fun x=>x.2.scannable)=true:=by
   rw[<- Array.all_toList,RP];intro e he;obtain⟨p,_,rfl⟩:=hent e he;rfl
  rw[h1,h2];rfl
 rw[hsc];simp only[Qm];refine Pj ?_;unfold setAddByScan;refine Pj (Q3 ?_);refine Pj ?_;show wpAny _ _ (setScanFrom a (.int k tk) (hashInt k) true es.toList 0) _ _ _;refine tZ S es.toList 0 (fun e he=>by obtain⟨p,hp,e'⟩:=hent e he;exact⟨p,e',hk0 p hp⟩) hk (fun hex i=>?_) fun hno=>?_
 ·obtain ⟨e, he, q⟩ := hex;obtain⟨p,hp,rfl⟩:=hent e he;have ek:p.1=k:=uj (hk0 p hp) hk q;refine Pp (Pp ?_)
  have q:=h false s.heap (Heap.SameBut.refl a s.heap) (by
   unfold v8;rw[OS (by rw[<- ek];exact Rx hp)];exact⟨o,es,ep,t,α,S,hk0,hn0⟩)
  cases s;exact q
 ·have hin:k∉ps.map (·.1):=fun hx=>by
   obtain⟨p,hp,e⟩:=Rq.mp hx;exact hno _ (hto p hp) (by rw[<- e];rfl)
  dsimp only;obtain⟨j,pre,post,epr,hj,hn,e,hp⟩:=S.tab.free (Of S hk) hz (fun _=>hashInt k+1) (fun _=>by omega);obtain⟨α',T',hperm,et⟩:=S.tab.put (x:=Value.int k tk) hj hn e hp
  have hfree:t.freeSlot (hashInt k)=some (j,false):=by
   unfold SetTable.freeSlot;rw[epr];rfl
  have hpl:(t.put j).1.plain=true:=by rw[et];exact S.plain
  have hled:(t.put j).1.led=t.led:=by rw[et]
  have hmask:(t.put j).1.mask=t.mask:=by rw[et]
  have hperm':(α'.map (·.2)).Perm ((ps++[(k,tk)]).map Co):=by
   refine(hperm.map (·.2)).trans ?_;rw[QC,RA];refine List.Perm.trans (List.Perm.cons _ S.perm) ?_;exact(List.perm_append_singleton _ _).symm
  have hkeys:∀p∈ps++[(k,tk)],p.1∈ins:=fun p hp'=>by
   rcases O7.mp hp' with q|q
   ·exact hk0 p q
   ·rw[Q5]at q;rw[q];exact hk
  have hnd:((ps++[(k,tk)]).map (·.1)).Nodup:=by
   rw[RA];refine RX.mpr ⟨hn0,by simp,fun x hx y hy=>?_⟩;simp at hy;rw[hy];rintro rfl;exact hin hx
  have hlen:=lA hkeys hnd;have hZ':α'.length=ps.length+1:=by rw[hperm.length_eq,QV,hZl]
  have hesz:(SetTable.insertAt es (t.put j).2 (hashInt k,Value.int k tk)).size=α'.length:=T'.size.2;have hadd:v8 ps k tk=ps++[(k,tk)]:=by unfold v8;rw[OT hin]
  rw[hadd]at h;rw[Qc,QN]at hlen
  have hfit:(t.put j).1.fits (SetTable.insertAt es (t.put j).2 (hashInt k,Value.int k tk)).size=true:=by
   unfold SetTable.fits;rw[T'.fill,T'.size.1,hesz,hmask];rcases S.big with⟨q,q2⟩|⟨q,q2⟩ <;> simp[q] <;> omega
  have hlay:layNew t es (hashInt k) (.int k tk)=(SetTable.insertAt es (t.put j).2 (hashInt k,Value.int k tk),(t.put j).1,false,false):=by
   unfold layNew;rw[hfree];dsimp only;unfold SetTable.orStandIn;rw[hfit];rfl
  rw[hlay];dsimp only;generalize ht1:(t.put j).1=t1 at *;generalize hes1:SetTable.insertAt es (t.put j).2 (hashInt k,Value.int k tk)=es1 at *;have hline:es1.size<=sizeLine:=by rw[hesz,hZ'];exact O0 hlen (by decide)
  refine Pj (Pp ?_);refine Pj (Pp ?_);rw[hpl];simp only[Qm];refine Pj (m:=hashByValue 8 (.int k tk)) (Pp ?_);simp only[Qm];refine Pj (RY S.ho S.hd ?_ hline)
  have hg:(s.heap.update a (Obj.putSet es1 t1)).get? a=some {o with data:=.set es1 (ep+1) t1}:=by
   have:=QF (Obj.putSet es1 t1) S.ho (by rw[RZ es1 t1 S.hd];rfl);rw[RZ es1 t1 S.hd]at this;exact this
  have hsb1:=Ra s.heap a (Obj.putSet es1 t1);have hfill:t1.fill=ps.length+1:=by rw[T'.fill,hZ']
  by_cases hfull:t1.tooFull=true
  ·simp only [hfull, R0, RU, Qm]
   have hm7:t.mask=7/\ps.length=4:=by
    unfold SetTable.tooFull at hfull;rw[hfill,hmask]at hfull;have hf:(ps.length+1)*5 ≥ t.mask*3:=by simpa using hfull
    rcases S.big with⟨q,q2⟩|⟨q,q2⟩
    ·rw[q]at hf;exact⟨q,by omega⟩
    ·rw[q]at hf;omega
   have hsz1:es1.size=5:=by rw[hesz,hZ',hm7.2]
   have hgr:SetTable.grown es1.size=20:=by rw[hsz1];rfl
   rw[hgr]
   obtain⟨t2,order,α2,er,T2,hp2,hm2,hl2,hpl2,hord⟩:=sk (t:=t1) (es:=es1) (wanted:=20) (mask:=31) (by rfl) (by rw[hsz1];decide) (fun e' he'=>by
    rw[T'.ents]at he';obtain⟨p,hp',q⟩:=Rq.mp (hperm'.mem_iff.mp he');rw[<- q]
    exact vn Dq (hkeys p hp'))
   have hZ2:α2.length=5:=by
    have:=hp2.length_eq;simp at this;omega
   have hes2:(order.filterMap (es1[·]?)).size=5:=by rw[T2.size.2,hZ2]
   have hrel:relayAll t1 es1 20=(order.filterMap (es1[·]?),t2,false):=by
    unfold relayAll;rw[er];dsimp only
    have c1:coversAll order es1.size=true:=by
     unfold coversAll;exact List.isPerm_iff.mpr hord
    have c2:t2.fits (order.filterMap (es1[·]?)).size=true:=by
     unfold SetTable.fits;rw[T2.fill,T2.size.1,hes2,hm2,hZ2];rfl
    rw[c1,c2];rfl
   rw[hrel];dsimp only;refine Pj (Pj (Pp (Pp ?_)));refine Pj (RY hg rfl ?_ (by rw[hes2];decide))
   have hg2:((s.heap.update a (Obj.putSet es1 t1)).update a (Obj.putSet (order.filterMap (es1[·]?)) t2)).get? a=some {o with data:=.set (order.filterMap (es1[·]?)) (ep+1+1) t2}:=by
    have:=QF (Obj.putSet (order.filterMap (es1[·]?)) t2) hg (by rw[RZ _ t2 rfl];rfl);rw[RZ _ t2 rfl]at this;exact this
   refine Pp (Pp ?_);refine h true _ (hsb1.trans (Ra _ a _)) ⟨_,_,_,t2,α2,⟨hg2,S.ex,rfl,T2,by rw[hpl2];exact hpl,by rw[hl2,hled];exact S.led,.inr ⟨hm2,by omega⟩,?_⟩,hkeys,hnd⟩;refine hp2.trans ?_;rw[T'.ents];exact hperm'
  ·have hf : t1.tooFull = false := by simpa using hfull
   simp only[hf,Bool.and_false,QU,Ql];refine Pp (Pp ?_);refine h true _ hsb1 ⟨_,_,_,t1,α',⟨hg,S.ex,rfl,T',hpl,by rw[hled];exact S.led,?_,hperm'⟩,hkeys,hnd⟩;unfold SetTable.tooFull at hf;rw[hfill,hmask]at hf;have hf':¬ ((ps.length+1)*5 ≥ t.mask*3):=by simpa using hf
   rw[hmask,hZ'];rcases S.big with⟨q,q2⟩|⟨q,q2⟩
   ·rw[q]at hf'⊢;exact .inl ⟨rfl,by omega⟩
   ·rw[q]at hf'⊢;exact .inr ⟨rfl,by omega⟩
end
end RS
namespace L2
open PySem PySem.Spec PyProof.Rows
theorem fJ.thr{w:World}{h:Heap}(x:fJ P w H h a o):∃ob,h.get? a=some ob:=by
 cases o with
 |lst xs=>obtain⟨_,_,_,_,e⟩:=x;exact⟨_,e⟩
 |tup xs=>obtain⟨_,_,_,ob,e,_⟩:=x;exact⟨_,e⟩
 |dK kvs=>obtain⟨_,_,_,_,o,_,_,e,_⟩:=x;exact⟨_,e⟩
 |dT kvs=>obtain⟨_,_,_,_,o,_,_,e,_⟩:=x;exact⟨_,e⟩
 |set S n=>obtain⟨o,_,_,_,e,_⟩:=x;exact⟨_,e⟩
 |ins C dx fs=>obtain⟨_,_,_,e,_⟩:=x;exact⟨_,e⟩
 |own y=>obtain⟨_,e⟩:=x;exact⟨_,e⟩
 |xd fs=>obtain⟨_,⟨_,_,_,e,_⟩,_⟩:=x;exact⟨_,e⟩
 |rng lo hi=>obtain⟨_,_,_,e⟩:=x;exact⟨_,e⟩
 |frz ob u=>obtain⟨e,_⟩:=x;exact⟨_,e⟩
 |tbl ps=>exact⟨_,show h.get? a=some _ from x⟩
 |met f y=>exact⟨_,show h.get? a=some _ from x⟩
 |ext φ=>obtain⟨_,⟨_,e⟩,_⟩:=x;exact⟨_,e⟩
theorem Cs{fs:List Addr}{H0 H':Hp}{h0 h1 σ:Heap}(u:Un fs [] H0 H' h0 h1)(hB:∀b o,h0.get? b=some o->b∉fs->∃o',σ.get? b=some o')(k1:σ.StaysIn h1)(k2:σ.StaysIn h')(up:h1.UpToSlots h')(hf:∀b∈fs,H0 b=none/\∃o,h0.get? b=some o/\∀vs,o.data≠.fields vs):Un fs [] H0 H' h0 h' where
 keep:=fun b o e n hb hx=>by
  obtain⟨o',q⟩:=hB b o e hb;have q1:=k1 b o' q;rw[u.keep b o e n hb hx]at q1;cases q1;exact k2 b o q
 slot:=fun b o e n hb hx=>by
  obtain⟨sl,q⟩:=u.slot b o e n hb hx;obtain⟨_,o1,e1,nf⟩:=hf b hb;rw[e]at e1;cases e1;obtain⟨sl',q'⟩:=up b _ q nf;exact⟨sl',q'⟩
 free:=u.free
 there:=fun b o e hx=>by
  by_cases hb:b∈fs
  ·obtain⟨n,o1,e1,nf⟩:=hf b hb;rw[e]at e1;cases e1;obtain⟨sl,q⟩:=u.slot b o e n hb hx;obtain⟨sl',q'⟩:=up b _ q nf;exact⟨_,q'⟩
  ·obtain⟨o',q⟩:=hB b o e hb;exact⟨o',k2 b o' q⟩
 tups:=u.tups
 frzs:=u.frzs
 tbls:=u.tbls
def Lf(P:Program)(w:World):vT:=fun outer H s E e s'=>
 ∃ea C a0 σ H',e=.ref ea/\s'.os=s.os/\AllBare s'.gens/\Un (pF outer) [] H H' s.heap s'.heap/\ou P w H' σ/\Heap.FlyingW σ outer ea (.ref C) a0 s'.heap/\H' ea=none /\
  (∀b o,s.heap.get? b=some o->b∉pF outer->∃o',σ.get? b=some o')/\E (.ref C) (some ea) H'
section
variable{w:World}{s0:Shared}{H0:Hp}{E:XK}
abbrev ER(P:Program)(w:World)(K:W.Frag)(mg:Str->Option Value)(base:Heap)(N:List Str)(qual:Str)(scope:Scope)(f:Addr)(cdv:Value)(A:Around)(outer:List Env)(s0:Shared)(H0:Hp)(E:XK):Cx:=qO (Lf P w) P w K mg base N qual scope f cdv A outer s0 H0 E
theorem G3(hb:b∈pF (envOfC qual scope s0.heap.objs.size f cdv::outer)):b=s0.heap.objs.size\/b∈pF outer:=by
 obtain⟨env,he,hf⟩:=Px.mp hb;rcases O5.mp he with rfl|he
 ·exact .inl (ON hf).symm
 ·exact .inr (Px.mpr ⟨env,he,hf⟩)
theorem pQ(I:aZ (ER P w K mg base N qual scope f cdv A outer s0 H0 E) pins B H s){o:Obj}(e:s0.heap.get? b=some o)(hb:b∉pF outer):
  (∃o',s.heap.get? b=some o')/\b∉pF (envOfC qual scope s0.heap.objs.size f cdv::outer):=
 ⟨I.base.there b o e (fun z => by cases z), fun z => by
  rcases G3 z with z|z
  ·exact absurd (OU e) (by rw[z];exact OW _)
  ·exact hb z⟩
theorem ur(I:aZ (ER P w K mg base N qual scope f cdv A outer s0 H0 E) pins B H s):∀b∈pF outer,H0 b=none/\∃o,s0.heap.get? b=some o/\∀vs,o.data≠.fields vs:=
 fun b hb=>⟨I.ok.frf b hb,(I.ok.funs.mem hb).2⟩
theorem pJ:kg (Lf P w) (ER P w K mg base N qual scope f cdv A outer s0 H0 E) E:=by
 intro pins B H s e s' I hc;obtain⟨ea,C,a0,σ,H',rfl,os,bare,un,hok,fl,hn,bk,q⟩:=hc;have J:=I.call' os un (hok.kept fl.1) bare (ch:=[]) (fun b z=>absurd z (by simp))
 have hB:∀b o,s0.heap.get? b=some o->b∉pF outer->∃o',σ.get? b=some o':=fun b o e hb=>by
  obtain⟨⟨o1,e1⟩,nb⟩:=pQ I e hb;exact bk b o1 e1 nb
 refine wpAny_leaves_onW I.ok.frames rfl fl fun h' fl' up=>?_;exact⟨ea,C,a0,σ,H',rfl,J.os,bare,Cs J.base hB fl.1 fl'.1 up (ur I),hok,fl',hn,hB,q⟩
theorem Km{C:Addr}{vs:List Value}(I:aZ (ER P w K mg base N qual scope f cdv A outer s0 H0 E) pins B H s)(hs:s'={s with heap:=s'.heap})(hx:Heap.MadeExcOf s.heap s'.heap ea (.ref C) vs)(q:H ea=none->E (.ref C) (some ea) H):(ER P w K mg base N qual scope f cdv A outer s0 H0 E).xe (.ref ea) s':=by
 have hn:H ea=none:=by
  cases z:H ea with
  |none=>rfl
  |some u=>
   obtain⟨o,e⟩:=(I.hok ea u z).thr;rw[hx.new]at e;cases e
 have hin:∀env∈(envOfC qual scope s0.heap.objs.size f cdv::outer),∀b,env.frame=some b->b∈pF (envOfC qual scope s0.heap.objs.size f cdv::outer):=fun env he b hb=>Px.mpr ⟨env,he,hb⟩;have hst:(W.hideAll s.heap (pF (envOfC qual scope s0.heap.objs.size f cdv::outer))).StaysIn s.heap:=fun b o q=>W.of_hideAll _ q
 have hB:∀b o,s0.heap.get? b=some o->b∉pF outer->∃o',(W.hideAll s.heap (pF (envOfC qual scope s0.heap.objs.size f cdv::outer))).get? b=some o':=fun b o e hb=>by
  obtain⟨⟨o1,e1⟩,nb⟩:=pQ I e hb;exact⟨o1,W.hideAll_get _ e1 nb⟩
 have nfr:∀c u,H c=some u->c∉pF (envOfC qual scope s0.heap.objs.size f cdv::outer):=fun c u e z=>by rw[I.stkFree c z]at e;cases e
 have hok:ou P w H (W.hideAll s.heap (pF (envOfC qual scope s0.heap.objs.size f cdv::outer))):=fun b u e=>
  (I.hok b u e).stay (fun c v hc r => W.hideAll_get _ r (by
   rcases hc with rfl|hc
   ·exact nfr _ _ e
   ·exact nfr _ _ hc)) (fun _ r=>r) fun _ _ r=>r
 show wpAny _ _ (leaving _ (.ref ea)) _ _ s';refine wpAny_leaves_madeW I.ok.frames rfl hst (W.funFrames_hide I.stack hin) hx fun h' t fl _ _ up=>?_;rw[hs];exact⟨ea,C,.ref t,_,H,rfl,I.os,I.bare,Cs I.base hB hst fl.1 ((Heap.UpToSlots.of_keeps hx.keeps).trans up) (ur I),hok,fl,hn,hB,q hn⟩
def v9(mg:Str->Option Value)(base:Heap)(c:Str)(C:Addr):Prop:=∃bm newId σ initId,OwnCls c C bm newId mg base/\ExcBaseFacts σ newId initId bm
theorem Bo{c:Str}{C:Addr}{cpos:Pos}(O:v9 mg base c C)(hg:Gl (ER P w K mg base N qual scope f cdv A outer s0 H0 E) c)(hd:(c == ("__debug__" : Str))=false):
  PS (ER P w K mg base N qual scope f cdv A outer s0 H0 E) (.Raise (some (.Call (.Name c np) [] [] cpos)) none pos) (fun _ _ H=>∀ea,H ea=none->E (.ref C) (some ea) H):=by
 intro pins s B H D I q;obtain⟨bm,newId,σ,initId,O,FB⟩:=O;obtain⟨tl,Nn,nm,qn,bs,hdct,sn,sub,ab,col,dd,k0,k1,k2,k3,k5,mN,hC,hN,hni,T⟩:=O.obj
 refine wpAny_Raise_call_subT (C:=C) (nm:=nm) (q:=qn) (N:=Nn) (bs:=bs) (bm:=tl) (hdct:=hdct) (sn:=sn) (sub:=sub) (ab:=ab) (col:=col) (dd:=dd) (k0:=k0) (k1:=k1) (k2:=k2) (k3:=k3) (k5:=k5)
  FB (mN:=mN) (T.hasType FB.hasBase) (I.ok.hd rfl) rfl hni (nG I hg O.bound ⟨rfl,?_⟩ hd)
 exact evalArgs_empty ⟨rfl,Q4 _,I.bk _ _ hC,hN.keeps I.bk,T.keeps I.bk,fun h' e hm=>Km I rfl hm (q e)⟩
end
structure Cx.Fn(X:Cx):Prop where
 ex:X.ex=[]
 stk:X.stack=X.env::X.outer
 fr:X.env.frame=some X.env.locals
def MN(X:Cx)(pins:List (Addr×Obj))(E:XK)(e:Value)(s':Shared):Prop:=
 ∃ea C a0 σ B H',e=.ref ea/\aZ X pins B H' s'/\ou X.prog X.w H' σ/\Heap.FlyingW σ X.stack ea (.ref C) a0 s'.heap/\H' ea=none /\
  (∀b o,X.s₀.heap.get? b=some o->b∉X.fs->∃o',σ.get? b=some o')/\(∀p∈X.pn++pins,∃o',σ.get? p.1=some o')/\E (.ref C) (some ea) H'
abbrev Cx.tri(X:Cx)(pins:List (Addr×Obj))(E:XK):Cx:={X with pn:=X.pn++pins,xe:=MN X pins E}
theorem Cx.Ok.tri{X:Cx}{E:XK}(ok:X.Ok):(X.tri pins E).Ok:=
 ⟨ok.mod,ok.kind,ok.glob,ok.blt,ok.above,ok.inj,ok.has,ok.cab,ok.hd,ok.frames,ok.stk,ok.exf,ok.bs,ok.bsz,ok.noex,ok.exfs,ok.funs,ok.frf⟩
theorem Cx.Ok.untri{X:Cx}{E:XK}(ok:(X.tri pins E).Ok):X.Ok:=
 ⟨ok.mod,ok.kind,ok.glob,ok.blt,ok.above,ok.inj,ok.has,ok.cab,ok.hd,ok.frames,ok.stk,ok.exf,ok.bs,ok.bsz,ok.noex,ok.exfs,ok.funs,ok.frf⟩
section
variable{X:Cx}{pins':List (Addr×Obj)}{E:XK}
theorem aZ.tri(I:aZ X pins B H s):aZ (X.tri pins E) [] B H s:=
 ⟨I.ok.tri,I.os,I.bare,I.base,I.loc,I.cell,I.free,I.freeC,fun p hp=>I.pin p (by simpa using hp),I.hok,I.len⟩
theorem aZ.untri(I:aZ (X.tri pins E) pins' B H s):aZ X pins B H s:=
 ⟨I.ok.untri,I.os,I.bare,I.base,I.loc,I.cell,I.free,I.freeC,fun p hp=>I.pin p (O8 _ hp),I.hok,I.len⟩
theorem SP.untri{D:oB}{f:Flow}(h:SP (X.tri pins E) pins' D f s'):SP X pins D f s':=by
 cases f with
 |next=>obtain⟨B',H',I,q⟩:=h;exact⟨B',H',I.untri,q⟩
 |brk=>obtain⟨B',H',I,q⟩:=h;exact⟨B',H',I.untri,q⟩
 |cont=>obtain⟨B',H',I,q⟩:=h;exact⟨B',H',I.untri,q⟩
 |ret u=>obtain⟨v,B',H',I,r,q⟩:=h;exact⟨v,B',H',I.untri,r,q⟩
end
theorem Av{X:Cx}(F:X.Fn)(hb:b∈pF X.stack):b=X.env.locals\/b∈X.fs:=by
 rw[F.stk]at hb;obtain⟨env,he,hf⟩:=Px.mp hb;rcases O5.mp he with rfl|he
 ·rw[F.fr]at hf;exact .inl (ON hf).symm
 ·exact .inr (Px.mpr ⟨env,he,hf⟩)
theorem CF{X:Cx}{E:XK}(F:X.Fn):kg (Lf X.prog X.w) (X.tri pins E) E:=by
 intro pins' B H s e s' I hc;obtain⟨ea,C,a0,σ,H',rfl,os,bare,un,hok,fl,hn,bk,q⟩:=hc;have J:=I.call' os un (hok.kept fl.1) bare (ch:=[]) (fun b z=>absurd z (by simp));refine⟨ea,C,a0,σ,B,H',rfl,J.untri,hok,fl,hn,fun b o e hb=>?_,fun p hp=>?_,q⟩
 ·obtain ⟨o1, e1⟩ := I.base.there b o e (by show b ∉ X.ex; rw [F.ex]; exact fun z => by cases z);refine bk b o1 e1 fun z=>?_;rcases Av F z with z|z
  ·have:=I.ok.above;rw[z]at e;exact absurd (OU e) (Nat.not_lt.mpr this)
  ·exact hb z
 ·obtain ⟨p1, p2, p3, p4, p5⟩ := I.pin p (O8 _ hp);refine bk p.1 p.2 p1 fun z=>?_;rcases Av F z with z|z
  ·exact p3 z
  ·exact p4 z
theorem AC{h:Heap}{c:Addr}{v:Option Value}(x:h.IsCell c v)(up:h.UpToSlots h'):h'.IsCell c v:=by
 obtain⟨o,ho,hd⟩:=x;obtain⟨sl,q⟩:=up c o ho fun vs z=>by rw[hd]at z;cases z
 exact⟨_,q,hd⟩
section
variable{X:Cx}{σ:Heap}{C:Addr}{a0:Value}
theorem aZ.up(F:X.Fn)(I:aZ X pins B H s)(hok:ou X.prog X.w H σ)(c1:∀b o,X.s₀.heap.get? b=some o->b∉X.fs->∃o',σ.get? b=some o')(c2:∀p∈X.pn++pins,∃o',σ.get? p.1=some o')
  (k1:σ.StaysIn s.heap) (k2:σ.StaysIn h') (up:s.heap.UpToSlots h'):aZ X pins B H {s with heap:=h'}:=by
 have hb:Un X.fs [] X.H₀ H X.s₀.heap h':=Cs (by rw[<- F.ex];exact I.base) c1 k1 k2 up fun b hb=>⟨I.ok.frf b hb,(I.ok.funs.mem hb).2⟩;refine⟨I.ok,I.os,I.bare,by rw[F.ex];exact hb,?_,fun x c e=>?_,I.free,I.freeC,fun p hp=>?_,hok.kept k2,I.len⟩
 ·obtain ⟨m, hn, hl⟩ := I.loc;refine⟨m,up.ns hn,fun i x v a b c=>?_⟩;obtain⟨u,r,l⟩:=hl i x v a b c;refine⟨u,r,?_⟩;rcases l with l|⟨k,c,e,hc⟩
  ·exact .inl l
  ·exact .inr ⟨k,c,e,AC hc up⟩
 ·obtain⟨v,hv⟩:=I.cell x c e;exact⟨v,AC hv up⟩
 ·obtain⟨p1,p2⟩:=I.pin p hp;obtain⟨o',e⟩:=c2 p hp;have e1:=k1 _ _ e;rw[p1]at e1;cases e1;exact⟨k2 _ _ e,p2⟩
def wc(ea C:Addr):HO:=.ext fun h=>∃oe,h.get? ea=some oe/\oe.cls=.ref C
theorem Un.track{fs ex:List Addr}{H0:Hp}{h0 h:Heap}(u:Un fs ex H0 H h0 h)(hn:h0.get? ea=none)(hH:H ea=none):Un fs ex H0 (dk H ea o) h0 h where
 keep:=u.keep
 slot:=u.slot
 free:=fun b ob e n hx=>by rw[bJ fun z=>by rw[z,hn]at e;cases e];exact u.free b ob e n hx
 there:=u.there
 tups:=fun b xs q=>by have:=u.tups b xs q;rw[bJ (cB this hH)];exact this
 frzs:=fun b ob xs q=>by have:=u.frzs b ob xs q;rw[bJ (cB this hH)];exact this
 tbls:=fun b ps q=>by obtain⟨m,this⟩:=u.tbls b ps q;exact⟨m,by rw[bJ (cB this hH)];exact this⟩
theorem aZ.track(F:X.Fn)(I:aZ X pins B H s)(c1:∀b o,X.s₀.heap.get? b=some o->b∉X.fs->∃o',σ.get? b=some o')(c2:∀p∈X.pn++pins,∃o',σ.get? p.1=some o')
  (fl:Heap.FlyingW σ X.stack ea (.ref C) a0 s.heap) (hH:H ea=none):aZ X pins B (dk H ea (wc ea C)) s:=by
 obtain⟨f1,f2,f3,oe,vs,T,oT,ts,he,⟨hc,_⟩,hd,_⟩:=fl
 have hn:X.s₀.heap.get? ea=none:=by
  cases z:X.s₀.heap.get? ea with
  |none=>rfl
  |some o=>
   by_cases hf:ea∈X.fs
   ·obtain⟨_,o1,e1,nf⟩:=I.ok.funs.mem hf;obtain⟨sl,e2⟩:=I.base.slot ea o1 e1 (I.ok.frf ea hf) hf (by rw[F.ex];exact fun z=>by cases z);rw[he]at e2;cases e2;exact absurd hd (nf vs)
   ·obtain⟨o',e⟩:=c1 ea o z hf;rw[f2]at e;cases e
 have nl:X.env.locals≠ea:=fun z=>by
  obtain⟨m,⟨o',es,ep,ho',hd',_⟩,_⟩:=I.loc;rw[z,he]at ho';cases ho';rw[hd]at hd';cases hd'
 refine⟨I.ok,I.os,I.bare,I.base.track hn hH,I.loc,I.cell,by rw[bJ nl];exact I.free,fun x c e=>?_,fun p hp=>?_,fun b u q=>?_,I.len⟩
 ·rw [bJ fun z => ?_]
  ·exact I.freeC x c e
  ·obtain⟨v,o',ho',hd'⟩:=I.cell x c e;rw[z,he]at ho';cases ho';rw[hd]at hd';cases hd'
 ·obtain ⟨p1, p2, p3, p4, p5⟩ := I.pin p hp;refine⟨p1,?_,p3,p4,p5⟩;rw[bJ fun z=>?_]
  ·exact p2
  ·obtain⟨o',e⟩:=c2 p hp;rw[z,f2]at e;cases e
 ·by_cases hb : b = ea
  ·subst hb;rw[cP]at q;cases q;refine⟨⟨oe,he,hc⟩,⟨oe,he⟩,fun h1 h2 a k=>?_⟩;obtain⟨o,e,c⟩:=a;exact⟨o,k o e,c⟩
  ·rw[bJ hb]at q;exact(I.hok b u q).stay (fun _ _ _ r=>r) (fun c r=>by rw[bJ (cB r hH)];exact r) fun c xs r=>by rw[bJ (cB r hH)];exact r
end
abbrev Cx.hnd(X:Cx)(ea:Addr):Cx:={X with A:=X.A.mark (some (.ref ea)),calm:=false,xe:=fun _ _=>False}
theorem aZ.hnd{X:Cx}(I:aZ X pins B H s):aZ (X.hnd ea) pins B H s:=
 ⟨⟨I.ok.mod, I.ok.kind, I.ok.glob, I.ok.blt, I.ok.above, I.ok.inj, I.ok.has, I.ok.cab, (fun z => by cases z), I.ok.frames, I.ok.stk, I.ok.exf, I.ok.bs, I.ok.bsz, I.ok.noex, I.ok.exfs, I.ok.funs, I.ok.frf⟩,
   I.os,I.bare,I.base,I.loc,I.cell,I.free,I.freeC,I.pin,I.hok,I.len⟩
theorem aZ.unhnd{X:Cx}(ok:X.Ok)(I:aZ (X.hnd ea) pins B H s):aZ X pins B H s:=
 ⟨ok,I.os,I.bare,I.base,I.loc,I.cell,I.free,I.freeC,I.pin,I.hok,I.len⟩
theorem aZ.forget{X:Cx}{m:Str->Option Value}(I:aZ X pins B H s)(hn:h'.Ns X.env.locals m)(sb:Heap.SameBut X.env.locals s.heap h'):
  aZ X pins (List.replicate X.N.length none) H {s with heap:=h',toks:=t'}:=by
 have ne:∀b o,X.s₀.heap.get? b=some o->b≠X.env.locals:=fun b o e z=>by
  have:=I.ok.above;rw[z]at e;exact absurd (OU e) (Nat.not_lt.mpr this)
 have same:∀b,b≠X.env.locals->h'.get? b=s.heap.get? b:=fun b hb=>sb.2 b hb;refine⟨I.ok,I.os,I.bare,⟨fun b o e n hb hx=>?_,fun b o e n hb hx=>?_,I.base.free,fun b o e hx=>?_,I.base.tups,I.base.frzs,I.base.tbls⟩,⟨m,hn,fun i x v _ e=>?_⟩,fun x c e=>?_,I.free,I.freeC,fun p hp=>?_,fun b u q=>?_,by simp⟩
 ·rw[same b (ne b o e)];exact I.base.keep b o e n hb hx
 ·rw[same b (ne b o e)];exact I.base.slot b o e n hb hx
 ·rw[same b (ne b o e)];exact I.base.there b o e hx
 ·rw[PY]at e;split at e <;> cases e
 ·obtain⟨v,o,ho,hd⟩:=I.cell x c e;exact⟨v,o,by rw[same c (I.cne x c e)];exact ho,hd⟩
 ·obtain⟨p1,p2,p3,p4⟩:=I.pin p hp;exact⟨by rw[same _ p3];exact p1,p2,p3,p4⟩
 ·have nb : ∀ c u, H c = some u -> c ≠ X.env.locals := fun c u e z => by rw [z, I.free] at e; cases e
  exact(I.hok b u q).stay (fun c v hc r=>by
   rw[same c]
   ·exact r
   ·rcases hc with rfl | hc
    ·exact nb _ _ q
    ·exact nb _ _ hc) (fun _ r=>r) fun _ _ r=>r
theorem Jy{X:Cx}(F:X.Fn){r n:Str}{R:Addr}{hpos:Pos}{suite:List Stmt}{b0:Stmt}{tb:XK->TS}{th:TS}(hN:X.N.Nodup)(hi:X.N[i]?=some n)(hx:EU X.env.scope n)(hl:X.env.kindOf n=some .local)(hg:Gl X r)(hm:X.mg r=some (.ref R))(hd:(r == ("__debug__" : Str))=false)(hb:∀pins E,j9 (X.tri pins E) body (tb E))(hs:∀ea,j9 (X.hnd ea) (b0::suite) th):
  PS X (.Try body [.ExceptHandler (some (.Name r np)) (some n) (b0::suite) hpos] [] [] pos) (fun D B H=>∃E:XK,(∀C ea H',E (.ref C) (some ea) H'->H' ea=none->W.exmOne X.K (.ref C) (.ref R)=some true /\
   ∀B':St,B'.length=X.N.length->th {nx:=fun _ _=>False,rt:=D.rt} (B'.set i (some (.ref ea))) (dk H' ea (wc ea C)))/\tb E D B H):=by
 intro pins s B H D I hq;obtain⟨E,hE,hq⟩:=hq;refine wpAny_Try_except (Pe (hb pins E [] s B H D I.tri hq) (fun f s1 h1=>?_) fun e s1 h1=>?_)
 ·cases f with
  |next=>exact Pi (SP.untri h1)
  |brk=>exact SP.untri h1
  |cont=>exact SP.untri h1
  |ret u=>exact SP.untri h1
 ·obtain ⟨ea, C, a0, σ, B1, H1, rfl, I1, hok, fl, hn, c1, c2, q⟩ := h1;obtain⟨q1,q2⟩:=hE C ea H1 q hn;have fl0:=fl;rw[F.stk]at fl;refine wpAny_looks_onW (by rw[<- F.stk];exact I.ok.frames) F.fr fl fun h4 held4 up4=>?_;refine wpAny_landsW held4 fun h5 fl5 up5=>?_;have fl5':=fl5;rw[<- F.stk]at fl5';have I5:=I1.up F hok c1 c2 fl0.1 fl5.1 (up4.trans up5);have J5:aZ (X.hnd ea) pins B1 H1 {s1 with heap:=h5}:=I5.hnd;refine wpAny_handleBy_cons (codeAny_handlers_test (nG J5 hg hm ?_ hd)) (by intro q;cases q);obtain⟨ob,hob,hobc⟩:=fl5.there
  have LT:W.Looks (model X.prog X.w) h5 (typeOf (.ref ea)) (.ref C):=by
   rw[<- hobc];exact(W.Looks.ld hob).andThen .now
  refine(W.exm_one J5.kIn LT q1).here (codeAny_handlers_suite_as ?_);refine lands_againW fl5 fun h6 fl6 up6=>?_;have fl6':=fl6;rw[<- F.stk]at fl6';have I6:=I5.up F hok c1 c2 fl5.1 fl6.1 up6;have I6':=I6.track F c1 c2 fl6' hn;refine rH (v:=.ref ea) I6' hN hi hx rfl (fun s7 I7=>?_) (.inr hl);refine Pe (hs ea pins s7 _ _ _ I7.hnd (q2 B1 I1.len)) (fun f s8 h8=>?_) fun _ _ z=>False.elim z;cases f with
  |next=>obtain⟨_,_,_,z⟩:=h8;exact False.elim z
  |brk=>obtain⟨_,_,_,z⟩:=h8;exact False.elim z
  |cont=>obtain⟨_,_,_,z⟩:=h8;exact False.elim z
  |ret u=>
   obtain⟨v,B',H',I8,rv,z⟩:=h8;have I8':=I8.unhnd I.ok;obtain⟨m,hn8,_⟩:=I8'.loc;refine wpAny_nameGoes hl hn8 (by rw[I.ok.kind];rfl) fun h9 m9 hn9 sb=>?_;exact⟨v,_,H',I8'.forget hn9 sb,rv,z⟩
structure fR(k:Nat)(A:Around):Prop where
 dp:A.depth+3*k+5<recursionLimit
 un:A.units+16*k+200<cLine
 gd:A.guards=some []
theorem gv.h{k:Nat}(r:gv k A):fR k A:=⟨r.dp,r.un,r.gd⟩
theorem fR.mark{k:Nat}(r:fR k A)(e:Option Value):fR k (A.mark e):=⟨r.dp,r.un,r.gd⟩
theorem fR.mono{k:Nat}(r:fR k A)(h:j<=k):fR j A:=⟨by have:=r.dp;omega,by have:=r.un;omega,r.gd⟩
theorem fR.deeper{k:Nat}(r:fR (k+1) A)(env:Env):fR k (A.deeper env):=
 ⟨by have:=r.dp;show A.depth+1+3*k+5<_;omega,by have:=r.un;show A.units+3+16*k+200<_;omega,r.gd⟩
theorem fR.depth{k:Nat}(r:fR k A):A.depth<recursionLimit:=by have:=r.dp;omega
theorem fR.units{k:Nat}(r:fR k A):A.units+64<cLine:=by have:=r.un;omega
structure wF(P:Program)(w:World)(K:W.Frag)(mg:Str->Option Value)(base:Heap)(CX:vT)(k:Nat)(f:Addr)(fd:FuncData)(ps:List Str)(sp:Sp):Prop where
 len:∀vs H Q E,sp vs H Q E->vs.length=ps.length
 run:∀(A:Around)(outer:List Env)(s:Shared)(H:Hp)(args:Args)(us:List Value)(vs:List V)(Q:VK)(E:XK),fR k A->AW P w K mg base A outer s H->BindsTo s fd args (ps.zip us)->bp vs us->sp vs H Q E ->
  codeAny (model P w) A (.call (.ref f) args) (CR CX outer P w H s Q E) s
section
variable{X:Cx}{k:Nat}{C:Addr}{ps:List Str}{dvs:List V}{ds:List Value}{E:XK}{m:Str}{p:Pos}{o:Expr}{es:List Expr}{t:TA}
theorem F1{Q:VK}(F:wF X.prog X.w X.K X.mg X.base CX k f fd ps sp)(hr:fR k X.A)(hb:iw X.K fd ps ds)(hd:bp dvs ds)(hx:kg CX X E)(I:aZ X pins B H s)(r:bp vs us)(h:sp (vs++dvs) H Q E):wpAny (model X.prog X.w) X.A (call (.ref f) us) (EP X pins B Q) X.xe s:=by
 have r2:bp (vs++dvs) (us++ds):=r.append hd;have hl:(us++ds).length=ps.length:=by rw[<- r2.length];exact F.len _ _ _ _ h
 refine wpAny_call (PL (F.run X.A X.stack s H ⟨us,[]⟩ (us++ds) (vs++dvs) Q E hr I.env0 (hb s us I.kIn hl) r2 h) fun r s' hq=>?_);cases r with
 |error e=>exact hx pins B H s e s' I hq
 |ok fl=>
  cases fl with
  |ret u=>exact I.after hq
  |next=>exact False.elim hq
  |brk=>exact False.elim hq
  |cont=>exact False.elim hq
theorem D8(F:wF X.prog X.w X.K X.mg X.base CX k f fd ps sp)(hr:fR k X.A)(hg:Gl X x)(hm:X.mg x=some (.ref f))(hk:W.keepIn X.K (.ref f)=true)(hb:iw X.K fd ps ds)(hd:bp dvs ds)(hx:kg CX X E)
  (ha:PA X (e::es) t) (hdb:(x == ("__debug__" : Str))=false:=by decide) (he:starEach (e::es) X.env=(false,eval e X.env)::starEach es X.env:=by rfl) (hpl:(backTo pos (starEach es X.env)).any (·.1)=false:=by rfl) :
  PE X (.Call (.Name x p) (e::es) [] pos) (Hv sp dvs E t):=by
 intro pins s B H Q I h;refine PM (nG I hg hm ?_ hdb);refine W.callWith_K (h₀:=X.base) I.ok.mod.kin hk (d8 (ha pos pins s B H _ I h) fun us s1 ⟨vs,H1,I1,r,q⟩=>⟨I1.kIn,?_⟩) he hpl;exact F1 F hr hb hd hx I1 r q
end
def qZ(CX:vT)(P:Program)(w:World)(K:W.Frag)(mg:Str->Option Value)(base:Heap)(N:List Str)(qual:Str)(scope:Scope)(f:Addr)(cd:Value)(A:Around)(outer:List Env)(s:Shared)(H:Hp)(E:XK):Cx where
 prog:=P
 w:=w
 K:=K
 mg:=mg
 base:=base
 A:=A.deeper (envOfC qual scope s.heap.objs.size f cd)
 N:=N
 s₀:=s
 H₀:=H
 env:=envOfC qual scope s.heap.objs.size f cd
 outer:=outer
 stack:=envOfC qual scope s.heap.objs.size f cd::outer
 ex:=[]
 calm:=false
 fn:=fun _=>true
 pn:=[]
 xe:=fun e s'=>wpAny (model P w) (A.deeper (envOfC qual scope s.heap.objs.size f cd)) (leaving (envOfC qual scope s.heap.objs.size f cd) e) (fun _ s''=>CX outer H s E e s'') (fun e' s''=>CX outer H s E e' s'') s'
theorem zj{w:World}{ps:List Str}{cd:Value}{s1:Shared}{E:XK}(S:aV N ps scope)(e0:AW P w K mg base A outer s H)(hl:vs.length=ps.length)(r:bp vs us)(x:InCallC s s.heap.objs.size (bindL (envOfC qual scope s.heap.objs.size f cd).kindOf (ps.zip us) fun _=>none) (cellsFrom (s.heap.objs.size+1) scope.names []) (bindC (envOfC qual scope s.heap.objs.size f cd).kindOf (ps.zip us) fun _=>none) s1):
  aZ (qZ CX P w K mg base N qual scope f cd A outer s H E) [] (start N vs) H s1:=by
 have hpl:ps.length<=N.length:=by have:=Ph List.length S.pre;rw[PU]at this;omega
 obtain⟨h1,tk,rfl,hk⟩:=x.done;have noA:∀b:Addr,b∉(qZ CX P w K mg base N qual scope f cd A outer s H E).ex:=fun b z=>absurd (show b∈([]:List Addr) from z) (by simp)
 refine⟨⟨e0.mod,S.kind,rfl,rfl,Pv _,fun y z c h1 h2=>?_,fun y hy=>?_,fun y c _ h=>?_,(fun z=>by cases z),Around.frames_deeper e0.frames,.inr ⟨rfl,rfl⟩,fun b z=>absurd z (noA b),e0.bs,e0.bsz,fun b _ _=>noA b,fun b z=>absurd z (noA b),e0.funs,e0.frf⟩,
  rfl,e0.bare,Un.kept hk,⟨_,x.toInCall.ns,fun i y v h1 h2 h3=>?_⟩,fun y c h=>⟨_,x.cell y c h⟩,e0.hok.fresh (Pv _),fun y c h=>?_,fun p hp=>absurd (show p∈([]:List (Addr×Obj)) from hp) (by simp),e0.hok.kept hk,?_⟩
 ·exact name_of_addr x.apart (PV h1) (PV h2)
 ·have hy : scope.names.lookup y = some .cell \/ scope.names.lookup y = some .free := hy;rcases hy with hy|hy
  ·exact nT hy
  ·exact absurd rfl (S.nofree _ (PV hy))
 ·exact O1 (x.above y c (PV h))
 ·have hi:i<vs.length:=by
   unfold start at h2;by_cases hi:i<vs.length
   ·exact hi
   ·rw[PX (by simpa using hi)]at h2;rw[PY]at h2;split at h2 <;> cases h2
  have ha:vs[i]?=some v:=by
   unfold start at h2;rw[PZ (by simpa using hi),P0]at h2;cases e:vs[i]? with
   |none=>rw[e]at h2;cases h2
   |some a=>rw[e]at h2;cases h2;rfl
  obtain⟨u,hu,rv⟩:=r.get ha
  have hp:ps[i]?=some y:=by
   rw[<- S.pre,Qa (by omega)];exact h1
  have ndP:ps.Nodup:=by rw[<- S.pre];exact S.nd.sublist (List.take_sublist _ _)
  refine⟨u,rv,?_⟩;rcases S.par y (Qb hp) with k|k
  ·exact .inl ⟨k,oZ ndP hp hu k⟩
  ·obtain⟨c,e⟩:=nT (n:=s.heap.objs.size+1) k;refine .inr ⟨.inl k,c,e,?_⟩;have q:=x.cell y c e;rw[pd ndP hp hu (by show scope.names.lookup y≠_;rw[k];decide)]at q;exact q
 ·exact e0.hok.fresh (O1 (x.above y c (PV h)))
 ·unfold start;show _=N.length;rw[Qc,Qd,Qe];omega
theorem KS{w:World}{k:Nat}{name:Str}{dV kV doc pm ct oc:Value}{od:Option Addr}{ps:List Str}(lk:K.lookup f=some ⟨oc,od,.func (W.fnOf name qual params body scope dV kV doc pm an cdv ct),osl⟩)(hcd:W.codeIn K cdv qual=true)(S:aV N ps scope)(len:∀vs H Q E,sp vs H Q E->vs.length=ps.length)(hbody : ∀ (A : Around) (outer : List Env) (s : Shared) (H : Hp) (vs : List V) (Q : VK) (E : XK), fR k (A.deeper (envOfC qual scope s.heap.objs.size f cdv)) -> sp vs H Q E ->
   ∃t,j9 (qZ CX P w K mg base N qual scope f cdv A outer s H E) body t/\t {nx:=fun _ H'=>Q .non H',rt:=Q} (start N vs) H):
  wF P w K mg base CX (k+1) f (W.fnOf name qual params body scope dV kV doc pm an cdv ct) ps sp:=by
 refine⟨len,fun A outer s H args us vs Q E hr e0 hb r hsp=>?_⟩;have hl:=len _ _ _ _ hsp;have KX:K.In s.heap:=e0.mod.kin.keeps fun b o e=>(e0.bs b o e).1;have lim:s.heap.NoLimit:=e0.mod.nolimit.keeps fun b o e=>(e0.bs b o e).1
 have hkind:∀y∈ps.zip us,scope.names.lookup y.1=some .local\/(scope.names.lookup y.1=some .cell/\((cellsFrom (s.heap.objs.size+1) scope.names []).lookup y.1).isSome=true):=fun⟨n,v⟩ hy=>by
  rcases S.par n (PQ hy).1 with q|q
  ·exact .inl q
  ·exact .inr ⟨q,W.cellsFrom_some _ _ _ (.inl q)⟩
 refine codeAny_call_function hr.depth (KX _ _ lk) rfl S.co S.gen rfl (W.codeRec_of KX hcd) (hb _ _ _ _ ?_);refine wpAny_newFunctionEnv_cells S.kind hkind fun env he s1 x=>?_;subst he;refine⟨lim.keeps x.toInCall.keep,codeAny_func ?_⟩;obtain⟨t,ht,hq⟩:=hbody A outer s H vs Q E (hr.deeper _) hsp;have I:aZ (qZ CX P w K mg base N qual scope f cdv A outer s H E) [] (start N vs) H s1:=zj S e0 hl r x;refine Pe (ht [] s1 (start N vs) H _ I hq) (fun fl s' hs=>?_) fun e s' hs=>hs
 have fin:∀{B':St}{H':Hp}{v:V}{u:Value},aZ (qZ CX P w K mg base N qual scope f cdv A outer s H E) [] B' H' s'->cx v u->Q v H'->CE outer P w H s Q u s':=
  fun {B' H' v u} J rv q=>⟨v,H',J.os,J.bare,J.base,J.hok,rv,q⟩
 cases fl with
 |ret u=>
  obtain⟨v,B',H',J,rv,q⟩:=hs;exact fin J rv q
 |next=>
  obtain⟨B',H',J,q⟩:=hs;exact fin (v:=V.non) (u:=Value.none) J rfl q
 |brk=>
  obtain⟨_,_,_,q⟩:=hs;exact False.elim q
 |cont=>
  obtain⟨_,_,_,q⟩:=hs;exact False.elim q
section
variable{w:World}
theorem gS.okH{ps:List Str}{k:Nat}(F:gS K x qual st f fd)(S:aV N ps (ar st))(len:∀vs H Q E,sp vs H Q E->vs.length=ps.length)(hbody : ∀ (cdv : Value) (A : Around) (outer : List Env) (s : Shared) (H : Hp) (vs : List V) (Q : VK) (E : XK), fR k (A.deeper (envOfC qual (ar st) s.heap.objs.size f cdv)) -> sp vs H Q E ->
   ∃t,j9 (qZ yi P w K mg base N qual (ar st) f cdv A outer s H E).nox (cM st) t/\t {nx:=fun _ H'=>Q .non H',rt:=Q} (start N vs) H):wF P w K mg base yi (k+1) f fd ps sp:=by
 obtain⟨oc,od,kV,doc,pm,an,cdv,ct,osl,rfl,lk,hcd⟩:=F.ex;refine KS lk hcd S len fun A outer s H vs Q E hr hsp=>?_;obtain⟨t,h,q⟩:=hbody cdv A outer s H vs Q E hr hsp;exact⟨t,h.nox,q⟩
end
end L2
namespace PySem.W
open PySem PySem.Spec PySem.Calls PyProof.Rows
section
variable{w:World}{K:Frag}{x D:Addr}{a g:Value}{name:Str}{h:Heap}{M:Model}
theorem xW (X:K.In h) (ha:findIn K (.ref D) name=some (some a)) (hg:specialIn K a "__get__" = some (some g)) (ht:takesIn K a=some true):Looks M h (Builtin.ObjectAttr.find (.ref x) (.ref D) name) (.bind g a):=
 (looks_findIn X ha).andThen ((show Looks M h (Builtin.ObjectAttr.getOf (some a)) (some g) from looks_specialIn X hg).andThen ((show Looks M h (Builtin.ObjectAttr.dataDescriptor? (some a) (some g)) (some (g,a)) from (looks_takesIn X ht).andThen .now).andThen (Looks.tag .now)))
theorem zt {R:Result->Shared->Prop} (X:K.In s.heap) (L:Looks (model prog w) s.heap (typeOf (.ref x)) (.ref D)) (hm:mroIn K D (.type "object")=some true) (hr:R (.ok (.ret (.ref D))) s) :
  codeAny (model prog w) A (.call (.builtin "getset_descriptor.__get__") ⟨[.builtin "object.__class__",.ref x,.ref D],[]⟩) R s:=by
 obtain⟨hh,g,d,t,os⟩:=s;have L0:Looks (model prog w) hh (typeOf (.ref x)) (.ref D):=L;have L1:Looks (model prog w) hh (isSubtype (.ref D) (.type "object")) true:=looks_mroIn X hm;have hT5:(⟨hh,g,d,t,os⟩:Shared).TypeIs (.builtin "object.__class__") "getset_descriptor" := F.typeOf_object_class;have ow:(".".intercalate ("object.__class__".cutAt '.').dropLast) = "object" := by decide +kernel
 refine Se F.slot_gs_get.plain F.entry_gs_get (F.slot_gs_get.check _ _ _ _ _ _ _ _ hT5 (F.args_gs_get _ _ _) ?_)
 repeat (any_goals (first|assumption|with_reducible refine L0.at ?_|(rw[ow])|with_reducible refine L1.at ?_|wp_step))
 refine⟨Sd _ (by decide +kernel),R6 KF.entry_class ?_⟩;unfold Builtin.«object.__class__»
 repeat (any_goals (first|assumption|with_reducible refine L0.at ?_|wp_step))
theorem Ey {hh:Heap}{g:Array GenState}{d:Drawn}{t:Nat}{os:OsState}{M:Model}{nameV:Value}{Q:Unit->Shared->Prop} (X:K.In hh) (L0:Looks M hh (typeOf (.ref x)) (.ref D)) (hmB:mroIn K D (.type "BaseException")=some true) (hq:Q () ⟨hh,g,d,t,os⟩) :
  wpAny M A (checkBuiltinCall "BaseException.__getattribute__" ⟨[.ref x,nameV],[]⟩) Q E ⟨hh,g,d,t,os⟩:=by
 have hk:builtinKind "BaseException.__getattribute__" = some .slot:=by decide +kernel
 have hsplit:splitId "BaseException.__getattribute__" = some ("BaseException", "__getattribute__"):=by decide +kernel
 have ha:=F.args_bexc_ga (.ref x) nameV;have L1:=looks_mroIn (M:=M) X hmB;simp only[checkBuiltinCall,hk,hsplit];refine Pj ?_
 ·unfold isInstance
  repeat (first|lk|wp_step)
  exact hq
theorem Ex{Q:Fin->Shared->Prop}(X:K.In s.heap)(L:Looks (model prog w) s.heap (typeOf (.ref x)) (.ref D))(ha:findIn K (.ref D) "__class__" = some (some (.builtin "object.__class__")))(hn:specialIn K (.builtin "object.__class__") "__get__" = some (some (.builtin "getset_descriptor.__get__")))(htk:takesIn K (.builtin "object.__class__")=some true)(hm:mroIn K D (.type "object")=some true)(hq:Q (.done (.ret (.ref D))) s):
  wpAny (model prog w) A (Builtin.«object.__getattribute__» ⟨[.ref x,.str "__class__" tk],[]⟩) Q E s:=by
 obtain⟨hh,g,d,t,os⟩:=s;have L0:Looks (model prog w) hh (typeOf (.ref x)) (.ref D):=L;have f3:Looks (model prog w) hh (Builtin.ObjectAttr.find (.ref x) (.ref D) "__class__") (.bind (.builtin "getset_descriptor.__get__") (.builtin "object.__class__")):=xW X ha hn htk;unfold Builtin.«object.__getattribute__»
 repeat (any_goals (first|assumption|with_reducible refine L0.at ?_|with_reducible refine f3.at ?_|wp_step))
 refine zt (s:=⟨hh,g,d,t,os⟩) X L hm ?_
 repeat (any_goals (first|assumption|wp_step))
theorem BQ {Q:Option Value->Shared->Prop} (X:K.In s.heap) (L:Looks (model prog w) s.heap (typeOf (.ref x)) (.ref D)) (hga:findIn K (.ref D) "__getattribute__" = some (some (.builtin "BaseException.__getattribute__"))) (hgn:findIn K (.ref D) "__getattr__" = some none)
  (ha:findIn K (.ref D) "__class__" = some (some (.builtin "object.__class__"))) (hn:specialIn K (.builtin "object.__class__") "__get__" = some (some (.builtin "getset_descriptor.__get__"))) (htk:takesIn K (.builtin "object.__class__")=some true) (hm:mroIn K D (.type "object")=some true) (hmB:mroIn K D (.type "BaseException")=some true) (hq:Q (some (.ref D)) {s with toks:=s.toks+1}) :
  wpAny (model prog w) A (getAttr? (.ref x) "__class__") Q E s:=by
 obtain⟨hh,g,d,t,os⟩:=s;have L0:Looks (model prog w) hh (typeOf (.ref x)) (.ref D):=L;have L1:Looks (model prog w) hh (typeLookup (.ref D) "__getattribute__") (some (.builtin "BaseException.__getattribute__")):=looks_findIn X hga;have L2:Looks (model prog w) hh (typeLookup (.ref D) "__getattr__") none:=looks_findIn X hgn;have f3:=PySem.F.attr_ValueError.ga.bind (.ref x);have hx2:(Value.builtin "BaseException.__getattribute__" == Value.builtin "object.__getattribute__")=false:=by decide +kernel
 have hx1:(onTheHeap (Value.ref D)&&Value.builtin "BaseException.__getattribute__" == Value.builtin "object.__getattribute__")=false:=by rw[hx2];rfl
 have hx0:(false&&onTheHeap (Value.builtin "BaseException.__getattribute__"))=false:=rfl;unfold getAttr? getAttrBy?
 repeat (any_goals (first|assumption|with_reducible refine L0.at ?_|with_reducible refine L1.at ?_|with_reducible refine L2.at ?_|wp_step))
 refine Se PySem.F.attr_ValueError.ga.plain F.entry_bexc_ga (Ey X L0 hmB (Ex (tk:=t) X L0 ha hn htk hm ?_))
 repeat (any_goals (first|assumption|wp_step))
end
def excCls (K:Frag) (D:Addr):Bool:=findIn K (.ref D) "__getattribute__" == some (some (.builtin "BaseException.__getattribute__"))&&findIn K (.ref D) "__getattr__" == some none&&(clsIn K D).isSome&&findIn K (.ref D) "__class__" == some (some (.builtin "object.__class__")) &&
 mroIn K D (.type "object") == some true&&mroIn K D (.type "BaseException") == some true&&specialIn K (.builtin "object.__class__") "__get__" == some (some (.builtin "getset_descriptor.__get__"))&&takesIn K (.builtin "object.__class__") == some true
section
variable{K:Frag}{x D:Addr}
theorem kitx_exc(e:excCls K D=true):KitX K (.ref x) (.ref D) (fun h=>∃ox,h.get? x=some ox/\ox.cls=.ref D):=by
 unfold excCls at e;simp only[Qy,S8]at e;obtain⟨⟨⟨⟨⟨⟨⟨hga,hgn⟩,hc⟩,ha⟩,hm⟩,hmB⟩,hn⟩,htk⟩:=e
 exact {
  ty:=fun _ _ _ ⟨ox,h1,h2⟩=>h2 ▸ (Looks.ld h1).andThen .now
  it:=fun _ _ X _=>by
   obtain⟨cdD,hcD⟩:=PR.mp hc;unfold clsIn at hcD;split at hcD
   ·rename_i c' d' cd' sl' ho;intro A' Q' E' s' k q;unfold isType loadHead;exact Pj (wpAny_loadPart (k _ _ (X _ _ ho)) (Pp q))
   ·cases hcD
  ne:=fun h tp dd its n sl X htp=>by
   obtain⟨cdD,hcD⟩:=PR.mp hc;refine Bool.eq_false_iff.mpr fun q=>?_;have e:D=tp:=Value.ref.inj (S8.mp q);subst e;unfold clsIn at hcD;split at hcD
   ·rename_i c' d' cd' sl' ho;have z:=(X _ _ ho).symm.trans htp;cases z
   ·cases hcD
  ca:=fun {prog w A E Q s} X ⟨ox,h1,h2⟩ h=>BQ X (h2 ▸ (Looks.ld h1).andThen .now) hga hgn ha hn htk hm hmB h}
end
end PySem.W
namespace L2
open PySem PySem.Spec PyProof.Rows
def LC(K:W.Frag)(u:Value):List V->Hp->VK->Prop:=fun xs H Q=>∃a D b v,xs=[.ref a,v]/\cx v u/\H a=some (wc a D)/\W.excCls K D=true/\W.kitOne K (.ref D) u=some b/\Q (.bl b) H
theorem xD{X:Cx}(hu:∀v w,cx v u->cx v w->w=u):cY X (.builtin "isinstance") (LC X.K u):=by
 intro pins s B H xs us Q I r h;obtain⟨a,D,b,v,rfl,rv,ea,hc,e,q⟩:=h;cases r with
 |cons r1 r2=>
  cases r2 with
  |cons r3 r4=>
   cases r4;cases (show _=Value.ref a from r1);have z:=hu v _ rv r3;subst z;obtain⟨⟨oe,h1,h2⟩,_⟩:=(show fJ X.prog X.w H s.heap a (wc a D) from I.hok a _ ea);exact W.kia_one (W.kitx_exc hc) I.kIn ⟨oe,h1,h2⟩ e (fun z=>nomatch z) fun tk=>⟨.bl b,H,I.tok _,rfl,q⟩
end L2
namespace L2
open PySem PySem.Spec PyProof.Rows RS
inductive D where
 |non|bl (b:Bool)|int (i:Int)|str (x:Str)|tup (xs:List D)|frz (xs:List D)|obj (n:Nat)
inductive O where
 |lst (xs:List D)|set (ks:List (List Int))|iset (ks:List Int)|dic|exc (c:Str)
abbrev au:=List O
abbrev Ro:=List (Option D)
def Hn(K:W.Frag)(H:Hp)(a:Addr)(xs:List V):Prop:=
 (∃ o, H a = some (.frz o (.lst xs))) \/
  ∃(o:Obj) (its:Array Value) (n:Nat),K.lookup a=some o/\o.cls=.type "list" /\ o.dict=none/\o.data=.seq its n/\its.size<=sizeLine/\bp xs its.toList
theorem Hn.sq{xs:List V}(h:Hn K H a xs):fK K H a xs:=by
 rcases h with⟨o,h⟩|h
 ·exact .inl (.inr ⟨o,h⟩)
 ·exact .inr h
section
variable(K:W.Frag)(H:Hp)(Z:List Addr)
mutual
def aS:D->V->Prop
 |.non,v=>v=.non
 |.bl b,v=>v=.bl b
 |.int i,v=>v=.int i
 |.str x,v=>v=.str x
 |.tup xs,v=>∃a vs,v=.ref a/\gr K H a vs/\Reps xs vs
 |.frz xs,v=>∃a vs,v=.ref a/\Hn K H a vs/\Reps xs vs
 |.obj n,v=>∃a,v=.ref a/\Z[n]?=some a
def Reps:List D->List V->Prop
 |[],vs=>vs=[]
 |x::xs,vs=>∃v r,vs=v::r/\aS x v/\Reps xs r
end
end
structure mH(K:W.Frag)(H H':Hp)(Z Z':List Addr):Prop where
 tup:∀a xs,gr K H a xs->gr K H' a xs
 frz:∀a xs,Hn K H a xs->Hn K H' a xs
 pre:∀(n:Nat) a,Z[n]?=some a->Z'[n]?=some a
section
variable{H' H1 H2:Hp}{Z' Z1 Z2:List Addr}
theorem mH.refl:mH K H H Z Z:=⟨fun _ _ h=>h,fun _ _ h=>h,fun _ _ h=>h⟩
theorem mH.trans(a:mH K H H1 Z Z1)(b:mH K H1 H2 Z1 Z2):mH K H H2 Z Z2:=
 ⟨fun c xs h=>b.tup c xs (a.tup c xs h),fun c xs h=>b.frz c xs (a.frz c xs h),fun n c h=>b.pre n c (a.pre n c h)⟩
mutual
theorem aS.mono(e:mH K H H' Z Z'):∀{d:D}{v:V},aS K H Z d v->aS K H' Z' d v
 |.non,_,h=>by simp only[aS]at h⊢;exact h
 |.bl _,_,h=>by simp only[aS]at h⊢;exact h
 |.int _,_,h=>by simp only[aS]at h⊢;exact h
 |.str _,_,h=>by simp only[aS]at h⊢;exact h
 |.tup xs,_,h=>by
  simp only[aS]at h⊢;obtain⟨a,vs,rfl,h1,h2⟩:=h;exact⟨a,vs,rfl,e.tup a vs h1,Reps.mono e h2⟩
 |.frz xs,_,h=>by
  simp only[aS]at h⊢;obtain⟨a,vs,rfl,h1,h2⟩:=h;exact⟨a,vs,rfl,e.frz a vs h1,Reps.mono e h2⟩
 |.obj n,_,h=>by
  simp only[aS]at h⊢;obtain⟨a,rfl,h1⟩:=h;exact⟨a,rfl,e.pre n a h1⟩
theorem Reps.mono(e:mH K H H' Z Z'):∀{ds:List D}{vs:List V},Reps K H Z ds vs->Reps K H' Z' ds vs
 |[],_,h=>by simp only[Reps]at h⊢;exact h
 |d::ds,_,h=>by
  simp only[Reps]at h⊢;obtain⟨v,r,rfl,h1,h2⟩:=h;exact⟨v,r,rfl,aS.mono e h1,Reps.mono e h2⟩
end
theorem Reps.nil:Reps K H Z [] []:=by simp only[Reps]
theorem Reps.cons{d:D}{ds:List D}(h1:aS K H Z d v)(h2:Reps K H Z ds vs):Reps K H Z (d::ds) (v::vs):=by
 simp only[Reps];exact⟨v,vs,rfl,h1,h2⟩
theorem Reps.length:∀{ds:List D}{vs:List V},Reps K H Z ds vs->vs.length=ds.length
 |[],vs,h=>by simp only[Reps]at h;rw[h];rfl
 |d::ds,vs,h=>by
  simp only[Reps]at h;obtain⟨v,r,rfl,h1,h2⟩:=h;simp[Reps.length h2]
theorem Reps.get:∀{ds:List D}{vs:List V}{i:Nat}{d:D},Reps K H Z ds vs->ds[i]?=some d->∃v,vs[i]?=some v/\aS K H Z d v
 |[],_,_,_,_,e=>by simp at e
 |d::ds,vs,i,x,h,e=>by
  simp only[Reps]at h;obtain⟨v,r,rfl,h1,h2⟩:=h;cases i with
  |zero=>simp at e;subst e;exact⟨v,rfl,h1⟩
  |succ i=>exact Reps.get (i:=i) h2 (by simpa using e)
theorem Reps.append:∀{ds es:List D}{vs ws:List V},Reps K H Z ds vs->Reps K H Z es ws->Reps K H Z (ds++es) (vs++ws)
 |[],_,vs,_,h,g=>by simp only[Reps]at h;subst h;exact g
 |d::ds,_,vs,_,h,g=>by
  simp only[Reps]at h;obtain⟨v,r,rfl,h1,h2⟩:=h;exact Reps.cons h1 (Reps.append h2 g)
theorem Reps.take:∀{ds:List D}{vs:List V}(n:Nat),Reps K H Z ds vs->Reps K H Z (ds.take n) (vs.take n)
 |[],vs,n,h=>by simp only[Reps]at h;subst h;simpa using Reps.nil
 |d::ds,vs,n,h=>by
  simp only[Reps]at h;obtain⟨v,r,rfl,h1,h2⟩:=h;cases n with
  |zero=>exact Reps.nil
  |succ n=>exact Reps.cons h1 (Reps.take n h2)
theorem Reps.drop:∀{ds:List D}{vs:List V}(n:Nat),Reps K H Z ds vs->Reps K H Z (ds.drop n) (vs.drop n)
 |[],vs,n,h=>by simp only[Reps]at h;subst h;simpa using Reps.nil
 |d::ds,vs,n,h=>by
  cases n with
  |zero=>exact h
  |succ n=>
   simp only[Reps]at h;obtain⟨v,r,rfl,h1,h2⟩:=h;exact Reps.drop n h2
theorem Reps.set{d:D}{v:V}(q:aS K H Z d v):∀{ds:List D}{vs:List V}(n:Nat),Reps K H Z ds vs->Reps K H Z (ds.set n d) (vs.set n v)
 |[],vs,n,h=>by simp only[Reps]at h;subst h;simpa using Reps.nil
 |e::ds,vs,n,h=>by
  simp only[Reps]at h;obtain⟨v',r,rfl,h1,h2⟩:=h;cases n with
  |zero=>exact Reps.cons q h2
  |succ n=>exact Reps.cons h1 (Reps.set q n h2)
theorem Reps.reverse:∀{ds:List D}{vs:List V},Reps K H Z ds vs->Reps K H Z ds.reverse vs.reverse
 |[],vs,h=>by simp only[Reps]at h;subst h;exact Reps.nil
 |d::ds,vs,h=>by
  simp only[Reps]at h;obtain⟨v,r,rfl,h1,h2⟩:=h;rw[QH,QH];exact Reps.append (Reps.reverse h2) (Reps.cons h1 Reps.nil)
theorem Reps.one{d:D}(h:Reps K H Z [d] vs):∃v,vs=[v]/\aS K H Z d v:=by
 simp only[Reps]at h;obtain⟨v,r,rfl,h1,rfl⟩:=h;exact⟨v,rfl,h1⟩
theorem Reps.two{d e:D}(h:Reps K H Z [d,e] vs):∃v u,vs=[v,u]/\aS K H Z d v/\aS K H Z e u:=by
 simp only[Reps]at h;obtain⟨v,r,rfl,h1,u,r',rfl,h2,rfl⟩:=h;exact⟨v,u,rfl,h1,h2⟩
theorem Reps.snoc{d:D}{ds:List D}(h:Reps K H Z ds vs)(q:aS K H Z d v):Reps K H Z (ds++[d]) (vs++[v]):=h.append (Reps.cons q Reps.nil)
theorem Reps.ints:∀{ns:List Int}{vs:List V},Reps K H Z (ns.map D.int) vs->vs=ns.map V.int
 |[],vs,h=>by simp only[QB,Reps]at h;exact h
 |n::ns,vs,h=>by
  simp only[QC,Reps]at h;obtain⟨v,r,rfl,h1,h2⟩:=h;simp only[aS]at h1;rw[h1,Reps.ints h2];rfl
theorem lI:∀(ns:List Int),Reps K H Z (ns.map D.int) (ns.map V.int)
 |[]=>Reps.nil
 |n::ns=>Reps.cons (by simp only[aS]) (lI ns)
theorem aQ{xs:List D}:aS K H Z (.tup xs) v↔∃a vs,v=.ref a/\gr K H a vs/\Reps K H Z xs vs:=by simp only[aS]
theorem bx{xs:List D}:aS K H Z (.frz xs) v↔∃a vs,v=.ref a/\Hn K H a vs/\Reps K H Z xs vs:=by simp only[aS]
theorem aX:aS K H Z (.obj n) v↔∃a,v=.ref a/\Z[n]?=some a:=by simp only[aS]
theorem az{n:Int}:aS K H Z (.int n) v↔v=.int n:=by simp only[aS]
theorem aU{n:Bool}:aS K H Z (.bl n) v↔v=.bl n:=by simp only[aS]
theorem bq{n:Str}:aS K H Z (.str n) v↔v=.str n:=by simp only[aS]
theorem bL:aS K H Z .non v↔v=.non:=by simp only[aS]
end
def wb(K:W.Frag)(w:World)(H:Hp)(Z:List Addr):O->Addr->Prop
 |.lst xs,a=>∃vs,H a=some (.lst vs)/\Reps K H Z xs vs
 |.set ks,a=>∃ps:List KP,ps.map (·.1)=ks/\H a=some (.ext fun h=>gh w h a ps)/\(∀p∈ps,p.1∈prs)/\(ps.map (·.1)).Nodup/\∀p∈ps,gr K H p.2 (p.1.map V.int)
 |.iset ks,a=>∃ps:List KI,ps.map (·.1)=ks/\H a=some (.ext fun h=>d4 w h a ps)/\ks.length<=6
 |.dic,a=>H a=some (.dK [])
 |.exc c,a=>∃C,W.nsIn K mainGlobals c=some (some (.ref C))/\H a=some (wc a C)
structure gZ(K:W.Frag)(w:World)(H:Hp)(Z:List Addr)(Y:au):Prop where
 len:Z.length=Y.length
 nd:Z.Nodup
 ob:∀(n:Nat) o a,Y[n]?=some o->Z[n]?=some a->wb K w H Z o a
section
variable{w:World}{H':Hp}{Z':List Addr}{Y:au}
theorem wb.live{o:O}(h:wb K w H Z o a):H a≠none:=by
 cases o with
 |lst xs=>obtain⟨vs,e,_⟩:=h;rw[e];exact fun z=>by cases z
 |set ks=>obtain⟨ps,_,e,_⟩:=h;rw[e];exact fun z=>by cases z
 |iset ks=>obtain⟨ps,_,e,_⟩:=h;rw[e];exact fun z=>by cases z
 |dic=>have e:H a=some (.dK []):=h;rw[e];exact fun z=>by cases z
 |exc c=>obtain⟨C,_,e⟩:=h;rw[e];exact fun z=>by cases z
theorem wb.mono{o:O}(h:wb K w H Z o a)(e:mH K H H' Z Z')(ha:H' a=H a):wb K w H' Z' o a:=by
 cases o with
 |lst xs=>obtain⟨vs,q,r⟩:=h;exact⟨vs,ha.trans q,r.mono e⟩
 |set ks=>obtain⟨ps,h1,q,h2,h3,h4⟩:=h;exact⟨ps,h1,ha.trans q,h2,h3,fun p hp=>e.tup _ _ (h4 p hp)⟩
 |iset ks=>obtain⟨ps,h1,q,h2⟩:=h;exact⟨ps,h1,ha.trans q,h2⟩
 |dic=>exact ha.trans h
 |exc c=>obtain⟨C,h1,q⟩:=h;exact⟨C,h1,ha.trans q⟩
theorem gZ.at(S:gZ K w H Z Y){o:O}(e:Y[n]?=some o):∃a,Z[n]?=some a/\wb K w H Z o a:=by
 have hn:n<Y.length:=(O9.mp e).1;have hn':n<Z.length:=by rw[S.len];exact hn
 exact⟨Z[n],SK hn',S.ob n o _ e (SK hn')⟩
theorem gZ.live(S:gZ K w H Z Y)(h:a∈Z):H a≠none:=by
 obtain⟨n,hn,e⟩:=List.getElem_of_mem h;have hm:n<Y.length:=by rw[<- S.len];exact hn
 exact(S.ob n _ a (SK hm) (by rw[<- e];exact SK hn)).live
theorem gZ.fresh(S:gZ K w H Z Y){p:Addr}(h:H p=none):p∉Z:=fun z=>S.live z h
theorem gZ.same(S:gZ K w H Z Y)(e:mH K H H' Z Z)(h:∀a,H a≠none->H' a=H a):gZ K w H' Z Y:=
 ⟨S.len,S.nd,fun n o a h1 h2=>(S.ob n o a h1 h2).mono e (h a (S.ob n o a h1 h2).live)⟩
theorem cv{p:Addr}(h:H p=none):mH K H (dk H p o) Z Z:=by
 refine⟨fun a xs q=>?_,fun a xs q=>?_,fun _ _ z=>z⟩
 ·rcases q with (q | ⟨x, q⟩) | q
  ·exact .inl (.inl (by rw[bJ (cB q h)];exact q))
  ·exact .inl (.inr ⟨x,by rw[bJ (cB q h)];exact q⟩)
  ·exact .inr q
 ·rcases q with ⟨x, q⟩ | q
  ·exact .inl ⟨x,by rw[bJ (cB q h)];exact q⟩
  ·exact .inr q
theorem km{p:Addr}(h:H p=some (.lst vs)):mH K H (dk H p o) Z Z:=by
 refine⟨fun a xs q=>?_,fun a xs q=>?_,fun _ _ z=>z⟩
 ·rcases q with (q | ⟨x, q⟩) | q
  ·exact .inl (.inl (by rw[bJ (CJ q h (by intro z;cases z))];exact q))
  ·exact .inl (.inr ⟨x,by rw[bJ (CJ q h (by intro z;cases z))];exact q⟩)
  ·exact .inr q
 ·rcases q with ⟨x, q⟩ | q
  ·exact .inl ⟨x,by rw[bJ (CJ q h (by intro z;cases z))];exact q⟩
  ·exact .inr q
theorem jR(β:List Addr):mH K H H Z (Z++β):=⟨fun _ _ h=>h,fun _ _ h=>h,fun n a h=>by rw[PZ (O9.mp h).1];exact h⟩
theorem gZ.tuple(S:gZ K w H Z Y){p:Addr}(h:H p=none):gZ K w (dk H p (.tup vs)) Z Y:=
 S.same (cv h) fun a ha=>bJ fun z=>ha (by rw[z];exact h)
theorem gZ.more(S:gZ K w H Z Y){p:Addr}{o:O}{ho:HO}(h:H p=none)(q:wb K w (dk H p ho) (Z++[p]) o p):gZ K w (dk H p ho) (Z++[p]) (Y++[o]):=by
 refine⟨by simp[S.len],?_,fun n o' a h1 h2=>?_⟩
 ·rw[RX];exact⟨S.nd,by simp,fun x hx y hy z=>by simp at hy;subst hy;subst z;exact S.fresh h hx⟩
 ·by_cases hn : n < Y.length
  ·rw[PZ hn]at h1;rw[PZ (by rw[S.len];exact hn)]at h2;exact(S.ob n o' a h1 h2).mono ((cv h).trans (jR [p])) (bJ fun z=>(S.ob n o' a h1 h2).live (by rw[z];exact h))
  ·have hn':n=Y.length:=by
    have:=(O9.mp h1).1;simp at this;omega
   subst hn';rw[PX (Pv _)]at h1;rw[PX (by rw[S.len];exact Pv _),S.len]at h2;simp at h1 h2;subst h1;subst h2;exact q
theorem gZ.put(S:gZ K w H Z Y){xs ys:List D}{us:List V}(h1:Y[n]?=some (.lst xs))(h2:Z[n]?=some a)(h3:H a=some (.lst us))(q:Reps K H Z ys vs):gZ K w (dk H a (.lst vs)) Z (Y.set n (.lst ys)):=by
 have e:=km (K:=K) (Z:=Z) (o:=.lst vs) h3;refine⟨by simp[S.len],S.nd,fun m o b g1 g2=>?_⟩;have hn:n<Y.length:=(O9.mp h1).1;by_cases hm:m=n
 ·subst hm;rw[Pc hn]at g1;cases g1;rw[h2]at g2;cases g2;exact⟨vs,cP,q.mono e⟩
 ·rw[Pd (fun z=>hm z.symm)]at g1;refine(S.ob m o b g1 g2).mono e (bJ fun z=>hm ?_);subst z;have i1:=(O9.mp g2);have i2:=(O9.mp h2);obtain⟨l1,e1⟩:=i1;obtain⟨l2,e2⟩:=i2;exact(Pb S.nd).mp (e1.trans e2.symm)
end
structure fL(K:W.Frag)(H:Hp)(Z:List Addr)(ρ:Ro)(B:St):Prop where
 len:ρ.length=B.length
 at':∀(i:Nat) d,ρ[i]?=some (some d)->∃v,B[i]?=some (some v)/\aS K H Z d v
theorem fL.mono{H':Hp}{Z':List Addr}{ρ:Ro}(e:mH K H H' Z Z')(R:fL K H Z ρ B):fL K H' Z' ρ B:=
 ⟨R.len,fun i d h=>let ⟨v,h1,h2⟩:=R.at' i d h;⟨v,h1,h2.mono e⟩⟩
theorem fL.set{ρ:Ro}{d:D}(R:fL K H Z ρ B)(i:Nat)(q:aS K H Z d v):fL K H Z (ρ.set i (some d)) (B.set i (some v)):=by
 refine⟨by simp[R.len],fun j d' h=>?_⟩;by_cases hj:j=i
 ·subst hj;have hl:j<ρ.length:=by have:=(O9.mp h).1;simpa using this
  rw[Pc hl]at h;cases h;exact⟨v,by rw[Pc (by rw[<- R.len];exact hl)],q⟩
 ·rw[Pd (fun z=>hj z.symm)]at h⊢;exact R.at' j d' h
structure DX where
 cls:Str
 args:List D
inductive ai(β:Type) where
 |ok (a:β) (Y:au)|exc (x:DX) (Y:au)|bad
def ai.bind{γ:Type}(o:ai β)(g:β->au->ai γ):ai γ:=match o with
 |.ok a Y=>g a Y
 |.exc x Y=>.exc x Y
 |.bad=>.bad
@[simp] theorem aa{γ:Type}{a:β}{Y:au}{g:β->au->ai γ}:(ai.ok a Y).bind g=g a Y:=S9 (Ta _)
inductive SO where
 |next (ρ:Ro) (Y:au)|ret (d:D) (Y:au)|brk (ρ:Ro) (Y:au)|cnt (ρ:Ro) (Y:au)|exc (x:DX) (Y:au)|bad
def ai.bindS(o:ai β)(g:β->au->SO):SO:=match o with
 |.ok a Y=>g a Y
 |.exc x Y=>.exc x Y
 |.bad=>.bad
@[simp] theorem af{a:β}{Y:au}{g:β->au->SO}:(ai.ok a Y).bindS g=g a Y:=S9 (Ta _)
def SO.bind(o:SO)(g:Ro->au->SO):SO:=match o with
 |.next ρ Y=>g ρ Y
 |o=>o
structure Pa where
 K:W.Frag
 w:World
 xw:DX->au->Hp->List Addr->Prop
abbrev Pa.S(p:Pa):=gZ p.K p.w
abbrev Pa.X(p:Pa):=mH p.K
abbrev Pa.R(p:Pa):=aS p.K
abbrev Pa.Rs(p:Pa):=Reps p.K
def aP(p:Pa)(H:Hp)(Z:List Addr)(o:ai β)(R:β->au->Hp->List Addr->Prop):Prop:=match o with
 |.ok a Y'=>∀H' Z',p.X H H' Z Z'->p.S H' Z' Y'->R a Y' H' Z'
 |.exc x Y'=>∀H' Z',p.X H H' Z Z'->p.S H' Z' Y'->p.xw x Y' H' Z'
 |.bad=>False
def fS(p:Pa)(H:Hp)(Z:List Addr)(o:SO)(D:oB):Prop:=match o with
 |.next ρ' Y'=>∀H' Z' B',p.X H H' Z Z'->p.S H' Z' Y'->fL p.K H' Z' ρ' B'->D.nx B' H'
 |.brk ρ' Y'=>∀H' Z' B',p.X H H' Z Z'->p.S H' Z' Y'->fL p.K H' Z' ρ' B'->D.bk B' H'
 |.cnt ρ' Y'=>∀H' Z' B',p.X H H' Z Z'->p.S H' Z' Y'->fL p.K H' Z' ρ' B'->D.ct B' H'
 |.ret d Y'=>∀H' Z' v,p.X H H' Z Z'->p.S H' Z' Y'->p.R H' Z' d v->D.rt v H'
 |.exc x Y'=>∀H' Z',p.X H H' Z Z'->p.S H' Z' Y'->p.xw x Y' H' Z'
 |.bad=>False
section
variable{p:Pa}{H1:Hp}{Z1:List Addr}{γ:Type}
theorem aP.imp{o:ai β}{R R':β->au->Hp->List Addr->Prop}(h:aP p H Z o R)(k:∀a Y' H' Z',p.X H H' Z Z'->p.S H' Z' Y'->R a Y' H' Z'->R' a Y' H' Z'):aP p H Z o R':=by
 cases o with
 |ok a Y=>exact fun H' Z' e s=>k a Y H' Z' e s (h H' Z' e s)
 |exc x Y=>exact h
 |bad=>exact h
theorem aP.from{o:ai β}{R:β->au->Hp->List Addr->Prop}(e:p.X H H1 Z Z1)(h:aP p H Z o R):aP p H1 Z1 o R:=by
 cases o with
 |ok a Y=>exact fun H' Z' e' s=>h H' Z' (e.trans e') s
 |exc x Y=>exact fun H' Z' e' s=>h H' Z' (e.trans e') s
 |bad=>exact h
theorem aP.bind{o:ai β}{g:β->au->ai γ}{R:γ->au->Hp->List Addr->Prop}(h:aP p H Z (o.bind g) R):aP p H Z o (fun a Y1 H1 Z1=>aP p H1 Z1 (g a Y1) R):=by
 cases o with
 |ok a Y=>exact fun H' Z' e s=>aP.from e h
 |exc x Y=>exact h
 |bad=>exact h
theorem aP.now{a:β}{Y:au}{R:β->au->Hp->List Addr->Prop}(h:aP p H Z (.ok a Y) R)(s:p.S H Z Y):R a Y H Z:=h H Z mH.refl s
theorem fS.from{o:SO}{D:oB}(e:p.X H H1 Z Z1)(h:fS p H Z o D):fS p H1 Z1 o D:=by
 cases o with
 |next ρ Y=>exact fun H' Z' B' e' s r=>h H' Z' B' (e.trans e') s r
 |brk ρ Y=>exact fun H' Z' B' e' s r=>h H' Z' B' (e.trans e') s r
 |cnt ρ Y=>exact fun H' Z' B' e' s r=>h H' Z' B' (e.trans e') s r
 |ret d Y=>exact fun H' Z' v e' s r=>h H' Z' v (e.trans e') s r
 |exc x Y=>exact fun H' Z' e' s=>h H' Z' (e.trans e') s
 |bad=>exact h
theorem aP.bindS{o:ai β}{g:β->au->SO}{D:oB}(h:fS p H Z (o.bindS g) D):aP p H Z o (fun a Y1 H1 Z1=>fS p H1 Z1 (g a Y1) D):=by
 cases o with
 |ok a Y=>exact fun H' Z' e s=>fS.from e h
 |exc x Y=>exact h
 |bad=>exact h
end
abbrev ME:=Ro->au->ai D
abbrev MT:=Ro->au->ai Bool
abbrev MA:=Ro->au->ai (List D)
abbrev MS:=Ro->au->SO
abbrev MG:=D->Ro->au->ai Ro
abbrev RV(p:Pa)(Q:VK):D->au->Hp->List Addr->Prop:=fun d _ H' Z'=>∀v,p.R H' Z' d v->Q v H'
def tD(p:Pa)(f:ME):TE:=fun B H Q=>∃Z ρ Y,p.S H Z Y/\fL p.K H Z ρ B/\aP p H Z (f ρ Y) (RV p Q)
def jk(p:Pa)(f:MT):TT:=fun B H Q=>∃Z ρ Y,p.S H Z Y/\fL p.K H Z ρ B/\aP p H Z (f ρ Y) (fun b _ H' _=>Q b H')
def ni(p:Pa)(f:MA):TA:=fun B H Q=>∃Z ρ Y,p.S H Z Y/\fL p.K H Z ρ B/\aP p H Z (f ρ Y) (fun ds _ H' Z'=>∀vs,p.Rs H' Z' ds vs->Q vs H')
def ji(p:Pa)(f:MS):TS:=fun D B H=>∃Z ρ Y,p.S H Z Y/\fL p.K H Z ρ B/\fS p H Z (f ρ Y) D
def uK(p:Pa)(g:MG):TG:=fun v B H Q=>∃Z ρ Y d,p.S H Z Y/\fL p.K H Z ρ B/\p.R H Z d v/\aP p H Z (g d ρ Y) (fun ρ' _ H' Z'=>∀B',fL p.K H' Z' ρ' B'->Q B' H')
theorem PE.weak{X:Cx}{t t':TE}(h:PE X e t)(k:∀B H Q,t' B H Q->t B H Q):PE X e t':=fun pins s B H Q I q=>h pins s B H Q I (k B H Q q)
theorem PT.weak{X:Cx}{t t':TT}(h:PT X e t)(k:∀B H Q,t' B H Q->t B H Q):PT X e t':=fun pins s B H Q I q=>h pins s B H Q I (k B H Q q)
theorem PW.weak{X:Cx}{t t':TT}(h:PW X e t)(k:∀B H Q,t' B H Q->t B H Q):PW X e t':=fun wh pins s B H Q I q=>h wh pins s B H Q I (k B H Q q)
theorem PA.weak{X:Cx}{e:List Expr}{t t':TA}(h:PA X e t)(k:∀B H Q,t' B H Q->t B H Q):PA X e t':=fun pos pins s B H Q I q=>h pos pins s B H Q I (k B H Q q)
theorem PS.weak{X:Cx}{e:Stmt}{t t':TS}(h:PS X e t)(k:∀D B H,t' D B H->t D B H):PS X e t':=fun pins s B H Q I q=>h pins s B H Q I (k Q B H q)
theorem j9.weak{X:Cx}{e:List Stmt}{t t':TS}(h:j9 X e t)(k:∀D B H,t' D B H->t D B H):j9 X e t':=fun pins s B H Q I q=>h pins s B H Q I (k Q B H q)
def ah(i:Nat):ME:=fun ρ Y=>match ρ[i]? with
 |some (some d)=>.ok d Y
 |_=>.bad
def cC(d:D):ME:=fun _ Y=>.ok d Y
def aH(op:D->D->au->ai D)(fa fb:ME):ME:=fun ρ Y=>(fa ρ Y).bind fun a Y1=>(fb ρ Y1).bind fun b Y2=>op a b Y2
def jE(op:D->au->ai D)(fa:ME):ME:=fun ρ Y=>(fa ρ Y).bind fun a Y1=>op a Y1
def aA:MA:=fun _ Y=>.ok [] Y
def ag(fa:ME)(fr:MA):MA:=fun ρ Y=>(fa ρ Y).bind fun a Y1=>(fr ρ Y1).bind fun r Y2=>.ok (a::r) Y2
def aC(f:List D->au->ai D)(fa:MA):ME:=fun ρ Y=>(fa ρ Y).bind f
def bW(fa:MA):ME:=aC (fun ds Y=>if ds.length<=sizeLine then .ok (.tup ds) Y else .bad) fa
def eR(fa:MA):ME:=aC (fun ds Y=>if ds.length<=sizeLine then .ok (.obj Y.length) (Y++[.lst ds]) else .bad) fa
def zG:D->au->ai Bool
 |.bl b,Y=>.ok b Y
 |_,_=>.bad
def gY(f:ME):MT:=fun ρ Y=>(f ρ Y).bind zG
def pM(f g:MT):MT:=fun ρ Y=>(f ρ Y).bind fun b Y1=>if b=true then g ρ Y1 else .ok false Y1
def ip(f g:MT):MT:=fun ρ Y=>(f ρ Y).bind fun b Y1=>if b=true then .ok true Y1 else g ρ Y1
def cS(f:MT):MT:=fun ρ Y=>(f ρ Y).bind fun b Y1=>.ok (!b) Y1
def jo(f g:ME):ME:=fun ρ Y=>(f ρ Y).bind fun a Y1=>(zG a Y1).bind fun b Y2=>if b=true then g ρ Y2 else .ok (.bl false) Y2
def wB(f:ME):ME:=fun ρ Y=>(f ρ Y).bind fun a Y1=>(zG a Y1).bind fun b Y2=>.ok (.bl (!b)) Y2
def qd(p:Pa)(op:D->D->au->ai D)(r:R2):Prop:=∀a b v y H Z Y Q,p.S H Z Y->p.R H Z a v->p.R H Z b y->aP p H Z (op a b Y) (RV p Q)->r v y H Q
def Ot(p:Pa)(op:D->au->ai D)(r:V->Hp->VK->Prop):Prop:=∀a v H Z Y Q,p.S H Z Y->p.R H Z a v->aP p H Z (op a Y) (RV p Q)->r v H Q
def vS(p:Pa)(f:List D->au->ai D)(r:List V->Hp->VK->Prop):Prop:=∀ds vs H Z Y Q,p.S H Z Y->p.Rs H Z ds vs->aP p H Z (f ds Y) (RV p Q)->r vs H Q
section
variable{p:Pa}
theorem mR{d:D}{Y:au}{R:Bool->au->Hp->List Addr->Prop}(h:aP p H Z (zG d Y) R)(r:p.R H Z d v)(s:p.S H Z Y):∃b,d=.bl b/\v=.bl b/\R b Y H Z:=by
 cases d with
 |bl b=>exact⟨b,rfl,aU.mp r,h.now s⟩
 |non=>exact h.elim
 |int i=>exact h.elim
 |str x=>exact h.elim
 |tup xs=>exact h.elim
 |frz xs=>exact h.elim
 |obj n=>exact h.elim
variable{X:Cx}{a b:Expr}{es:List Expr}{fa fb fc:ME}
theorem Ji(h:PE X (.Name x pos) (Lp i)):PE X (.Name x pos) (tD p (ah i)):=h.weak fun B H Q ⟨Z,ρ,Y,S,R,P⟩=>by
 unfold ah at P;cases e:ρ[i]? with
 |none=>rw[e]at P;exact P.elim
 |some o=>
  rw[e]at P;cases o with
  |none=>exact P.elim
  |some d=>
   obtain⟨v,h1,h2⟩:=R.at' i d e;exact⟨v,h1,P.now S v h2⟩
theorem Ck{d:D}(h:PE X e (tC v))(r:∀H Z,p.R H Z d v):PE X e (tD p (cC d)):=h.weak fun B H Q ⟨Z,ρ,Y,S,R,P⟩=>P.now S v (r H Z)
theorem oE{op:Operator}{o:D->D->au->ai D}{r:R2}(ho:iJ X (binaryOp op) r)(hd:qd p o r)(ha:PE X a (tD p fa))(hb:PE X b (tD p fb)):PE X (.BinOp a op b pos) (tD p (aH o fa fb)):=
 (Mj ho ha hb).weak fun B H Q ⟨Z,ρ,Y,S,R,P⟩=>⟨Z,ρ,Y,S,R,P.bind.imp fun x Y1 H1 Z1 X1 S1 P1 v rv=>⟨Z1,ρ,Y1,S1,R.mono X1,P1.bind.imp fun y Y2 H2 Z2 X2 S2 P2 u ru=>hd x y v u H2 Z2 Y2 Q S2 (rv.mono X2) ru P2⟩⟩
theorem Jo{o:D->D->au->ai D}{r:R2}(ho:iJ X (compareOp op) r)(hd:qd p o r)(ha:PE X a (tD p fa))(hb:PE X b (tD p fb))(hm:behindInMarks op b=false):PE X (.Compare a [op] [b] pos) (tD p (aH o fa fb)):=
 (Gj ho ha hb hm).weak fun B H Q ⟨Z,ρ,Y,S,R,P⟩=>⟨Z,ρ,Y,S,R,P.bind.imp fun x Y1 H1 Z1 X1 S1 P1 v rv=>⟨Z1,ρ,Y1,S1,R.mono X1,P1.bind.imp fun y Y2 H2 Z2 X2 S2 P2 u ru=>hd x y v u H2 Z2 Y2 Q S2 (rv.mono X2) ru P2⟩⟩
theorem IT{o:D->D->au->ai D}{r:R2}(ho:iJ X (compareOp op) r)(hd:qd p o r)(ha:PE X a (tD p fa))(hb:PE X b (tD p fb))(hm:behindInMarks op b=false):PT X (.Compare a [op] [b] pos) (jk p (gY (aH o fa fb))):=
 (F6 ho ha hb hm).weak fun B H Q ⟨Z, ρ, Y, S, R, P⟩ => ⟨Z, ρ, Y, S, R, P.bind.bind.imp fun x Y1 H1 Z1 X1 S1 P1 v rv => ⟨Z1, ρ, Y1, S1, R.mono X1, P1.bind.imp fun y Y2 H2 Z2 X2 S2 P2 u ru =>
  hd x y v u H2 Z2 Y2 _ S2 (rv.mono X2) ru (P2.imp fun d Y3 H3 Z3 X3 S3 P3 z rz=>by
   obtain⟨k,_,e,q⟩:=mR P3 rz S3
   exact⟨k,e,q⟩)⟩⟩
theorem L9{op:UnaryOp}{o:D->au->ai D}{r:V->Hp->VK->Prop}(ho:Nf X (unaryOp op) r)(hd:Ot p o r)(ha:PE X a (tD p fa)):PE X (.UnaryOp op a pos) (tD p (jE o fa)):=
 (Mi ho ha).weak fun B H Q ⟨Z,ρ,Y,S,R,P⟩=>⟨Z,ρ,Y,S,R,P.bind.imp fun x Y1 H1 Z1 X1 S1 P1 v rv=>hd x v H1 Z1 Y1 Q S1 rv P1⟩
theorem Jq:PA X [] (ni p aA):=uQ.weak fun B H Q ⟨Z,ρ,Y,S,R,P⟩=>P.now S [] Reps.nil
theorem F0{fr:MA}(ha:PE X a (tD p fa))(hr:PA X es (ni p fr))(hs:starEach (a::es) X.env=(false,eval a X.env)::starEach es X.env):PA X (a::es) (ni p (ag fa fr)):=
 (kh ha hr hs).weak fun B H Q ⟨Z,ρ,Y,S,R,P⟩=>⟨Z,ρ,Y,S,R,P.bind.imp fun x Y1 H1 Z1 X1 S1 P1 v rv=>⟨Z1,ρ,Y1,S1,R.mono X1,P1.bind.imp fun y Y2 H2 Z2 X2 S2 P2 us ru=>P2.now S2 _ (Reps.cons (rv.mono X2) ru)⟩⟩
theorem Jj{k:Nat}{fr:MA}(h:PA X es (ni p fr)):PE X (.Tuple es k pos) (tD p (bW fr)):=
 (JI h).weak fun B H Q ⟨Z, ρ, Y, S, R, P⟩ => ⟨Z, ρ, Y, S, R, P.bind.imp fun ds Y1 H1 Z1 X1 S1 P1 vs rv => by
  by_cases hl:ds.length<=sizeLine
  ·rw[OS hl]at P1;refine⟨by rw[rv.length];exact hl,fun q hq=>?_⟩;exact P1 _ _ (cv hq) (S1.tuple hq) _ (aQ.mpr ⟨q,vs,rfl,gr.of cP,rv.mono (cv hq)⟩)
  ·rw [OT hl] at P1
   exact P1.elim⟩
theorem dN{Y:au}{ds:List D}{q:Addr}(S:p.S H Z Y)(hq:H q=none)(rv:p.Rs H Z ds vs):
  p.X H (dk H q (.lst vs)) Z (Z++[q])/\p.S (dk H q (.lst vs)) (Z++[q]) (Y++[.lst ds])/\p.R (dk H q (.lst vs)) (Z++[q]) (.obj Y.length) (.ref q):=by
 have X1:p.X H (dk H q (.lst vs)) Z (Z++[q]):=(cv hq).trans (jR [q]);exact⟨X1,S.more hq ⟨vs,cP,rv.mono X1⟩,aX.mpr ⟨q,rfl,by rw[<- S.len];simp⟩⟩
theorem Jl{fr:MA}(h:PA X es (ni p fr)):PE X (.List es pos) (tD p (eR fr)):=
 (JN h).weak fun B H Q ⟨Z, ρ, Y, S, R, P⟩ => ⟨Z, ρ, Y, S, R, P.bind.imp fun ds Y1 H1 Z1 X1 S1 P1 vs rv => by
  by_cases hl:ds.length<=sizeLine
  ·rw[OS hl]at P1;refine⟨by rw[rv.length];exact hl,fun q hq=>?_⟩;obtain⟨x1,x2,x3⟩:=dN S1 hq rv;exact P1 _ _ x1 x2 _ x3
  ·rw [OT hl] at P1
   exact P1.elim⟩
variable{ft gt:MT}
theorem IM(ha:PT X a (jk p ft))(hb:PW X (.BoolOp .And (b::rest) pos) (jk p gt)):PW X (.BoolOp .And (a::b::rest) pos) (jk p (pM ft gt)):=
 (Jv ha hb).weak fun B H Q ⟨Z, ρ, Y, S, R, P⟩ => ⟨Z, ρ, Y, S, R, P.bind.imp fun k Y1 H1 Z1 X1 S1 P1 => by
  cases k with
  |true=>rw[OS rfl]at P1⊢;exact⟨Z1,ρ,Y1,S1,R.mono X1,P1⟩
  |false=>rw[OT PD]at P1⊢;exact P1.now S1⟩
theorem L5(ha:PT X a (jk p ft))(hb:PW X (.BoolOp .Or (b::rest) pos) (jk p gt)):PW X (.BoolOp .Or (a::b::rest) pos) (jk p (ip ft gt)):=
 (Mf ha hb).weak fun B H Q ⟨Z, ρ, Y, S, R, P⟩ => ⟨Z, ρ, Y, S, R, P.bind.imp fun k Y1 H1 Z1 X1 S1 P1 => by
  cases k with
  |true=>rw[OS rfl]at P1⊢;exact P1.now S1
  |false=>rw[OT PD]at P1⊢;exact⟨Z1,ρ,Y1,S1,R.mono X1,P1⟩⟩
theorem IR(ha:PT X a (jk p ft)):PT X (.UnaryOp .Not a pos) (jk p (cS ft)):=
 (Jx ha).weak fun B H Q ⟨Z,ρ,Y,S,R,P⟩=>⟨Z,ρ,Y,S,R,P.bind.imp fun k Y1 H1 Z1 X1 S1 P1=>P1.now S1⟩
theorem Jp(ha:PE X a (tD p fa))(hb:PE X (.BoolOp .And (b::rest) pos) (tD p fb)):PE X (.BoolOp .And (a::b::rest) pos) (tD p (jo fa fb)):=
 (JP ha hb).weak fun B H Q ⟨Z, ρ, Y, S, R, P⟩ => ⟨Z, ρ, Y, S, R, P.bind.imp fun d Y1 H1 Z1 X1 S1 P1 v rv => by
  obtain⟨k,_,e,q⟩:=mR P1.bind rv S1;refine⟨k,e,?_⟩;cases k with
  |true=>rw[OS rfl]at q⊢;exact⟨Z1,ρ,Y1,S1,R.mono X1,q⟩
  |false=>rw[OT PD]at q⊢;exact q.now S1 _ (aU.mpr rfl)⟩
theorem Jk(ha:PE X a (tD p fa)):PE X (.UnaryOp .Not a pos) (tD p (wB fa)):=
 (JL ha).weak fun B H Q ⟨Z, ρ, Y, S, R, P⟩ => ⟨Z, ρ, Y, S, R, P.bind.imp fun d Y1 H1 Z1 X1 S1 P1 v rv => by
  obtain⟨k,_,e,q⟩:=mR P1.bind rv S1
  exact⟨k,e,q.now S1 _ (aU.mpr rfl)⟩⟩
theorem DS{id:String}{f:List D->au->ai D}{fr:MA}{r:List V->Hp->VK->Prop}(hc:cY X (.builtin id) r)(hd:vS p f r)(hg:Gl X x)(hm:X.mg x=none)(hv:bootBuiltins x=some (.builtin id))(ha:PA X (a::es) (ni p fr))(hn:x ≠ "__name__")(hdb:(x == ("__debug__" : Str))=false)(he:starEach (a::es) X.env=(false,eval a X.env)::starEach es X.env)(hpl:(backTo pos (starEach es X.env)).any (·.1)=false):PE X (.Call (.Name x px) (a::es) [] pos) (tD p (aC f fr)):=
 (nP hc hg hm hv ha hn hdb he hpl).weak fun B H Q ⟨Z,ρ,Y,S,R,P⟩=>⟨Z,ρ,Y,S,R,P.bind.imp fun ds Y1 H1 Z1 X1 S1 P1 vs rv=>hd ds vs H1 Z1 Y1 Q S1 rv P1⟩
theorem Bh{T:String}{f:List D->au->ai D}{fr:MA}{r:List V->Hp->VK->Prop}(hc:cY X (.type T) r)(hd:vS p f r)(hg:Gl X x)(hm:X.mg x=none)(hv:bootBuiltins x=some (.type T))(ha:PA X (a::es) (ni p fr))(hn:x ≠ "__name__")(hdb:(x == ("__debug__" : Str))=false)(he:starEach (a::es) X.env=(false,eval a X.env)::starEach es X.env)(hpl:(backTo pos (starEach es X.env)).any (·.1)=false):PE X (.Call (.Name x px) (a::es) [] pos) (tD p (aC f fr)):=
 (Bt hc hg hm hv ha hn hdb he hpl).weak fun B H Q ⟨Z,ρ,Y,S,R,P⟩=>⟨Z,ρ,Y,S,R,P.bind.imp fun ds Y1 H1 Z1 X1 S1 P1 vs rv=>hd ds vs H1 Z1 Y1 Q S1 rv P1⟩
end
def bM(f:ME):MS:=fun ρ Y=>(f ρ Y).bindS fun d Y'=>.ret d Y'
def bY:MS:=fun ρ Y=>.next ρ Y
def bj(f g:MS):MS:=fun ρ Y=>(f ρ Y).bind g
def ka(c:MT)(f g:MS):MS:=fun ρ Y=>(c ρ Y).bindS fun b Y1=>if b=true then f ρ Y1 else g ρ Y1
def bU(f:ME)(g:MG):MS:=fun ρ Y=>(f ρ Y).bindS fun d Y1=>(g d ρ Y1).bindS fun ρ' Y2=>.next ρ' Y2
def jO(f:ME):MS:=fun ρ Y=>(f ρ Y).bindS fun _ Y1=>.next ρ Y1
def ao(i:Nat):MG:=fun d ρ Y=>.ok (ρ.set i (some d)) Y
abbrev E1:=List D->Ro->au->ai Ro
def dD:E1:=fun ds ρ Y=>match ds with
 |[]=>.ok ρ Y
 |_::_=>.bad
def bb(g:MG)(u:E1):E1:=fun ds ρ Y=>match ds with
 |[]=>.bad
 |d::r=>(g d ρ Y).bind fun ρ' Y'=>u r ρ' Y'
def dC(n:Nat)(u:E1):MG:=fun d ρ Y=>match d with
 |.tup xs=>if xs.length=n then u xs ρ Y else .bad
 |_=>.bad
def AJ(o i v:D)(Y:au):ai Unit:=match o,i with
 |.obj n,.int k=>match Y[n]? with
  |some (.lst xs)=>match AH xs.length k with
   |some j=>.ok () (Y.set n (.lst (xs.set j v)))
   |none=>.bad
  |_=>.bad
 |_,_=>.bad
def wq(fo fi:ME):MG:=fun d ρ Y=>(fo ρ Y).bind fun o Y1=>(fi ρ Y1).bind fun i Y2=>(AJ o i d Y2).bind fun _ Y3=>.ok ρ Y3
def vV(p:Pa)(g:E1):EY:=fun vs B H Q=>∃Z ρ Y ds,p.S H Z Y/\fL p.K H Z ρ B/\p.Rs H Z ds vs/\aP p H Z (g ds ρ Y) (fun ρ' _ H' Z'=>∀B',fL p.K H' Z' ρ' B'->Q B' H')
theorem PG.weak{X:Cx}{t t':TG}(h:PG X e t)(k:∀v B H Q,t' v B H Q->t v B H Q):PG X e t':=fun pins s B H v u Q I r q=>h pins s B H v u Q I r (k v B H Q q)
theorem yh.weak{X:Cx}{e:List Expr}{t t':EY}(h:yh X e t)(k:∀v B H Q,t' v B H Q->t v B H Q):yh X e t':=fun pins s B H v u Q I r q=>h pins s B H v u Q I r (k v B H Q q)
theorem PI.weak{X:Cx}{t t':TI}(h:PI X tg e t)(k:∀B H R,t' B H R->t B H R):PI X tg e t':=fun pins s B H Q I q=>h pins s B H Q I (k B H Q q)
section
variable{p:Pa}{X:Cx}{a b:Expr}{es:List Expr}{f:ME}{g:MG}{u:E1}{sts:List Stmt}{fs gs:MS}{ft:MT}
theorem IX:j9 X [] (ji p bY):=F8.weak fun D B H ⟨Z,ρ,Y,S,R,P⟩=>P H Z B mH.refl S R
theorem DP{t u:TS}{D:oB}{B:St}{H:Hp}{Z:List Addr}{o:SO}{k:MS}(h:fS p H Z (o.bind k) D)
  (hk:∀D B H,ji p k D B H->u D B H):fS p H Z o {D with nx:=u D}:=by
 cases o with
 |next ρ Y=>exact fun H' Z' B' e s r=>hk _ _ _ ⟨Z',ρ,Y,s,r,fS.from e h⟩
 |brk ρ Y=>exact h
 |cnt ρ Y=>exact h
 |ret d Y=>exact h
 |exc x Y=>exact h
 |bad=>exact h
theorem FJ(h1:PS X st (ji p fs))(h2:j9 X sts (ji p gs)):j9 X (st::sts) (ji p (bj fs gs)):=
 (DZ h1 h2).weak fun D B H ⟨Z,ρ,Y,S,R,P⟩=>⟨Z,ρ,Y,S,R,DP (t:=ji p fs) (B:=B) P fun _ _ _ z=>z⟩
theorem IW(h1:PS X st (ji p fs)):j9 X [st] (ji p fs):=F7 h1
theorem IV(h:PE X e (tD p f)):PS X (.Return (some e) pos) (ji p (bM f)):=
 (JA h).weak fun D B H ⟨Z,ρ,Y,S,R,P⟩=>⟨Z,ρ,Y,S,R,(aP.bindS P).imp fun d Y1 H1 Z1 X1 S1 P1 v rv=>P1 H1 Z1 v mH.refl S1 rv⟩
theorem L6{A σ:List Stmt}(hc:PT X c (jk p ft))(ha:j9 X A (ji p fs))(hb:j9 X σ (ji p gs)):PS X (.If c A σ pos) (ji p (ka ft fs gs)):=
 (Mg hc ha hb).weak fun D B H ⟨Z, ρ, Y, S, R, P⟩ => ⟨Z, ρ, Y, S, R, (aP.bindS P).imp fun k Y1 H1 Z1 X1 S1 P1 => by
  cases k with
  |true=>rw[OS rfl]at P1⊢;exact⟨Z1,ρ,Y1,S1,R.mono X1,P1⟩
  |false=>rw[OT PD]at P1⊢;exact⟨Z1,ρ,Y1,S1,R.mono X1,P1⟩⟩
theorem xF{D:oB}(h:ji p (bU f g) D B H):Cj (tD p f) (uK p g) D B H:=by
 obtain⟨Z,ρ,Y,S,R,P⟩:=h;exact⟨Z,ρ,Y,S,R,(aP.bindS P).imp fun d Y1 H1 Z1 X1 S1 P1 v rv=>⟨Z1,ρ,Y1,d,S1,R.mono X1,rv,(aP.bindS P1).imp fun ρ' Y2 H2 Z2 X2 S2 P2 B' r'=>P2 H2 Z2 B' mH.refl S2 r'⟩⟩
theorem IZ(he:PE X e (tD p f))(hg:PG X tg (uK p g))(hs:swapsWithSole [tg] e pos.line X.env=pure false)(hw:swappedStores [tg] e X.env=pure none)
  (h1:(assignEach [tg] X.env).map (·.2)=[assign tg X.env]):PS X (.Assign [tg] e pos) (ji p (bU f g)):=(JC he hg hs hw h1).weak fun D B H h=>xF h
theorem sy{Q:St->Hp->Prop}(h:uK p (ao i) v B H Q):wt i v B H Q:=by
 obtain⟨Z,ρ,Y,d,S,R,r,P⟩:=h;exact P.now S _ (R.set i r)
theorem FV(hN:X.N.Nodup)(hi:X.N[i]?=some x)(hx:EU X.env.scope x)(hf:X.fn x=true\/X.env.scope.names.lookup x=some .local):PG X (.Name x pos) (uK p (ao i)):=
 (Gf hN hi hx hf).weak fun v B H Q h=>sy h
theorem IU(hN:X.N.Nodup)(hi:X.N[i]?=some x)(hx:EU X.env.scope x)(he:PE X e (tD p f))(hs:swapsWith e (some (.Name x pos')) pos.line X.env=pure false)(hf:X.fn x=true\/X.env.scope.names.lookup x=some .local):
  PS X (.Assign [.Name x pos'] e pos) (ji p (bU f (ao i))):=(Jz hN hi hx he hs hf).weak fun D B H h=>by
 obtain⟨Z,ρ,Y,S,R,P⟩:=xF h;exact⟨Z,ρ,Y,S,R,P.imp fun d Y1 H1 Z1 X1 S1 P1 v rv=>sy (P1 v rv)⟩
theorem FI(he:PE X e (tD p f))(hs:swapsWith e none pos.line X.env=pure false):PS X (.Expr e pos) (ji p (jO f)):=
 (Ga he hs).weak fun D B H ⟨Z,ρ,Y,S,R,P⟩=>⟨Z,ρ,Y,S,R,(aP.bindS P).imp fun d Y1 H1 Z1 X1 S1 P1 v rv=>P1 H1 Z1 B mH.refl S1 (R.mono X1)⟩
theorem FU:yh X [] (vV p dD):=Ge.weak fun vs B H Q ⟨Z,ρ,Y,ds,S,R,r,P⟩=>by
 cases ds with
 |nil=>simp only[Reps]at r;exact⟨r,P.now S B R⟩
 |cons d ds=>exact P.elim
theorem DL(h1:PG X e (uK p g))(h2:yh X es (vV p u))(hs:(assignEach (e::es) X.env).map (·.2)=assign e X.env::(assignEach es X.env).map (·.2)):yh X (e::es) (vV p (bb g u)):=
 (D4 h1 h2 hs).weak fun vs B H Q ⟨Z, ρ, Y, ds, S, R, r, P⟩ => by
  cases ds with
  |nil=>exact P.elim
  |cons d ds=>
   simp only[Reps]at r;obtain⟨v,vr,rfl,r1,r2⟩:=r;refine⟨v,vr,rfl,Z,ρ,Y,d,S,R,r1,?_⟩;exact(aP.bind (o:=g d ρ Y) P).imp fun ρ' Y1 H1 Z1 X1 S1 P1 B' r'=>⟨Z1,ρ',Y1,ds,S1,r',r2.mono X1,P1⟩
theorem Je{k:Nat}(hK:X.K=p.K)(hc:X.calm=true)(h:yh X es (vV p u))(hn:(assignEach es X.env).length=n)(hst:(assignEach es X.env).findIdx? (·.1)=none):PG X (.Tuple es k pos) (uK p (dC n u)):=
 (JF hc h hn hst).weak fun v B H Q ⟨Z, ρ, Y, d, S, R, r, P⟩ => by
  cases d with
  |tup xs=>
   obtain⟨a,vs,rfl,h1,h2⟩:=aQ.mp r;have P':aP p H Z (if xs.length=n then u xs ρ Y else .bad) _:=P;by_cases hl:xs.length=n
   ·rw[OS hl]at P';exact⟨a,vs,rfl,by rw[hK];exact h1,by rw[h2.length];exact hl,Z,ρ,Y,xs,S,R,h2,P'⟩
   ·rw[OT hl]at P';exact P'.elim
  |non=>exact P.elim
  |bl b=>exact P.elim
  |int i=>exact P.elim
  |str x=>exact P.elim
  |frz xs=>exact P.elim
  |obj n=>exact P.elim
theorem FX{o i d:D}{Y:au}{R:Unit->au->Hp->List Addr->Prop}{vo vi:V}(S:p.S H Z Y)(ro:p.R H Z o vo)(ri:p.R H Z i vi)(rv:p.R H Z d v)(P:aP p H Z (AJ o i d Y) R):
  HA vo vi v H fun H'=>∃Y',p.X H H' Z Z/\p.S H' Z Y'/\R () Y' H' Z:=by
 unfold AJ at P;split at P
 ·rename_i n k;split at P
  ·rename_i xs hx;split at P
   ·rename_i j hj;obtain⟨a,ea,us,hH,rr⟩:=S.at hx;obtain⟨a',rfl,ea'⟩:=aX.mp ro;rw[ea]at ea';cases ea';rw[az.mp ri];have q:=rr.set rv j;refine⟨a,us,k,j,rfl,rfl,hH,by rw[rr.length];exact hj,_,km hH,S.put hx ea hH q,?_⟩;exact P _ _ (km hH) (S.put hx ea hH q)
   ·exact P.elim
  ·exact P.elim
 ·exact P.elim
theorem Jf{o i:Expr}{fo fi:ME}(ho:PE X o (tD p fo))(hi:PE X i (tD p fi))
  (ha : ∀ v, assign (.Subscript o i pos) X.env v = (do
   let ov <- holding [v] (eval o X.env)
   let iv <- holding [v,ov] (eval i X.env)
   standAt pos
   holding [v,ov,iv] (setItem ov iv v)
   release [v,ov,iv] [])):PG X (.Subscript o i pos) (uK p (wq fo fi)):=
 (JG ho hi DM ha).weak fun v B H Q ⟨Z, ρ, Y, d, S, R, r, P⟩ => ⟨Z, ρ, Y, S, R, (aP.bind P).imp fun od Y1 H1 Z1 X1 S1 P1 vo ro => ⟨Z1, ρ, Y1, S1, R.mono X1, (aP.bind P1).imp fun id Y2 H2 Z2 X2 S2 P2 vi ri => by
  obtain⟨pp,xs,k,j,e1,e2,e3,e4,Y3,x3,s3,q⟩:=FX S2 (ro.mono X2) ri ((r.mono X1).mono X2) (aP.bind P2)
  exact⟨pp,xs,k,j,e1,e2,e3,e4,q.now s3 B (((R.mono X1).mono X2).mono x3)⟩⟩⟩
end
inductive pG where
 |fix (xs:List D)|own (n:Nat) (xs:List D)|eno (n:Nat) (xs:List D)
def HR:Nat->List D->List D
 |_,[]=>[]
 |i,x::r=>.tup [.int i,x]::HR (i+1) r
def pG.items:pG->List D
 |.fix xs=>xs
 |.own _ xs=>xs
 |.eno _ xs=>HR 0 xs
def dJ:pG->au->Prop
 |.fix _,_=>True
 |.own n xs,Y=>Y[n]?=some (.lst xs)
 |.eno n xs,Y=>Y[n]?=some (.lst xs)
def AV(p:Pa)(J:It)(src:pG)(H0:Hp)(Z0:List Addr):Prop:=
 ∀H2 Z2 Y2,p.X H0 H2 Z0 Z2->p.S H2 Z2 Y2->dJ src Y2 ->
  (∀(i:Nat) d,src.items[i]?=some d->J.go i H2/\∀x H3,J.yld i H2 x H3->p.X H2 H3 Z2 Z2/\p.S H3 Z2 Y2/\p.R H3 Z2 d x)/\J.stop src.items.length H2
abbrev MI:=Ro->au->ai pG
def yf(p:Pa)(f:MI):TI:=fun B H R=>∃Z ρ Y,p.S H Z Y/\fL p.K H Z ρ B/\aP p H Z (f ρ Y) (fun src Y' H' Z'=>∀J,dJ src Y'->AV p J src H' Z'->R J H')
def SO.loop(o:SO)(k:Ro->au->SO):SO:=match o with
 |.next ρ Y=>k ρ Y
 |.cnt ρ Y=>k ρ Y
 |.brk ρ Y=>.next ρ Y
 |.ret d Y=>.ret d Y
 |.exc x Y=>.exc x Y
 |.bad=>.bad
open Classical in
def gT(src:pG)(g:MG)(fb:MS):List D->Ro->au->SO
 |[],ρ,Y=>if dJ src Y then .next ρ Y else .bad
 |d::r,ρ,Y=>if dJ src Y then (g d ρ Y).bindS fun ρ' Y'=>(fb ρ' Y').loop (gT src g fb r) else .bad
def nq(fi:MI)(g:MG)(fb:MS):MS:=fun ρ Y=>(fi ρ Y).bindS fun src Y1=>gT src g fb src.items ρ Y1
section
variable{p:Pa}{X:Cx}{fi:MI}{g:MG}{fb:MS}{ft:MT}
theorem BF{o:SO}{k:Ro->au->SO}{D:oB}{N:St->Hp->Prop}(h:fS p H Z (o.loop k) D)(hN:∀ρ Y H' Z' B',p.X H H' Z Z'->p.S H' Z' Y->fL p.K H' Z' ρ B'->fS p H' Z' (k ρ Y) D->N B' H'):fS p H Z o {D with nx:=N,ct:=N,bk:=D.nx}:=by
 cases o with
 |next ρ Y=>exact fun H' Z' B' e s r=>hN ρ Y H' Z' B' e s r (fS.from e h)
 |cnt ρ Y=>exact fun H' Z' B' e s r=>hN ρ Y H' Z' B' e s r (fS.from e h)
 |brk ρ Y=>exact h
 |ret d Y=>exact h
 |exc x Y=>exact h
 |bad=>exact h
theorem IY(hp:PassesOwn (model X.prog X.w) X.A X.env X.xe)(hc:X.calm=true)(hi:PI X tg iter (yf p fi))(hg:PG X tg (uK p g))(hb:j9 X body (ji p fb))(hs:∀x,foldedSetIterable iter X.env x=pure x) :
  PS X (.For tg iter body [] pos) (ji p (nq fi g fb)):=(JB hp hc hi hg hb hs).weak fun D B H ⟨Z,ρ,Y,S,R,P⟩=>by
 refine⟨Z,ρ,Y,S,R,(aP.bindS P).imp fun src Y1 H1 Z1 X1 S1 P1 J hok hJ=>?_⟩
 refine⟨fun i m B2 H2=>m=src.items.length-i/\i<=src.items.length/\∃Z2 ρ2 Y2,p.X H1 H2 Z1 Z2/\p.S H2 Z2 Y2/\fL p.K H2 Z2 ρ2 B2/\fS p H2 Z2 (gT src g fb (src.items.drop i) ρ2 Y2) D,
  ⟨_,rfl,Q4 _,Z1,ρ,Y1,mH.refl,S1,R.mono X1,by simpa using P1⟩,?_⟩
 rintro i m B2 H2 ⟨rfl,hi,Z2,ρ2,Y2,X2,S2,R2,P2⟩
 by_cases hlt:i<src.items.length
 ·rw [Tb hlt] at P2;unfold gT at P2;by_cases ho:dJ src Y2
  ·rw [OS ho] at P2;obtain⟨hgo,hy⟩:=(hJ H2 Z2 Y2 X2 S2 ho).1 i _ (SK hlt)
   refine .inr ⟨hgo,fun B' H'=>i+1<=src.items.length/\∃Z2 ρ2 Y2,p.X H1 H' Z1 Z2/\p.S H' Z2 Y2/\fL p.K H' Z2 ρ2 B'/\fS p H' Z2 (gT src g fb (src.items.drop (i+1)) ρ2 Y2) D,
    fun B' H' ⟨h1,h2⟩=>⟨_,by omega,rfl,h1,h2⟩,fun x H3 yx=>?_⟩
   obtain⟨X3,S3,R3⟩:=hy x H3 yx;refine⟨Z2,ρ2,Y2,_,S3,R2.mono X3,R3,(aP.from X3 (aP.bindS P2)).imp fun ρ4 Y4 H4 Z4 X4 S4 P4 B4 R4=>⟨Z4,ρ4,Y4,S4,R4,BF P4 fun ρ5 Y5 H5 Z5 B5 X5 S5 R5 P5=>⟨hlt,Z5,ρ5,Y5,((X2.trans X3).trans X4).trans X5,S5,R5,P5⟩⟩⟩
  ·rw[OT ho]at P2;exact P2.elim
 ·have e : i = src.items.length := by omega
  subst e;rw[List.drop_length]at P2;unfold gT at P2;by_cases ho:dJ src Y2
  ·rw[OS ho]at P2;exact .inl ⟨(hJ H2 Z2 Y2 X2 S2 ho).2,P2 H2 Z2 B2 mH.refl S2 R2⟩
  ·rw[OT ho]at P2;exact P2.elim
end
section
variable{p:Pa}{X:Cx}
theorem BI{Y:au}{xs:List D}(S:p.S H Z Y)(hn:Y[n]?=some (.lst xs))(ha:Z[n]?=some a):AV p (Ni p.K a) (.own n xs) H Z:=by
 intro H2 Z2 Y2 X2 S2 ho;obtain⟨a',ea,vs,hH,rr⟩:=S2.at ho;rw[X2.pre n a ha]at ea;cases ea;refine⟨fun i d hd=>?_,vs,fK.of hH,by rw[rr.length];exact Pv _⟩;obtain⟨v,hv,rv⟩:=rr.get hd;refine⟨⟨vs,v,fK.of hH,hv⟩,fun x H3 ⟨e,hx⟩=>?_⟩;subst e;have:=hx vs (fK.of hH);rw[hv]at this;cases this;exact⟨mH.refl,S2,rv⟩
theorem Er{xs:List D}(h:Hn p.K H a vs)(r:p.Rs H Z xs vs):AV p (Ni p.K a) (.fix xs) H Z:=by
 intro H2 Z2 Y2 X2 S2 ho;have h2:=(X2.frz a vs h).sq;have rr:=r.mono X2;refine⟨fun i d hd=>?_,vs,h2,by rw[rr.length];exact Pv _⟩;obtain⟨v,hv,rv⟩:=rr.get hd;refine⟨⟨vs,v,h2,hv⟩,fun x H3 ⟨e,hx⟩=>?_⟩;subst e;have:=hx vs h2;rw[hv]at this;cases this;exact⟨mH.refl,S2,rv⟩
theorem Ep{xs:List D}(h:gr p.K H a vs)(r:p.Rs H Z xs vs):AV p (NB p.K a) (.fix xs) H Z:=by
 intro H2 Z2 Y2 X2 S2 ho;have h2:=X2.tup a vs h;have rr:=r.mono X2;refine⟨fun i d hd=>?_,vs,h2,by rw[rr.length];exact Pv _⟩;obtain⟨v,hv,rv⟩:=rr.get hd;refine⟨⟨vs,v,h2,hv⟩,fun x H3 ⟨e,hx⟩=>?_⟩;subst e;have:=hx vs h2;rw[hv]at this;cases this;exact⟨mH.refl,S2,rv⟩
def d0(lo:Int)(n:Nat):List D:=(List.range n).map fun(i:Nat)=>D.int (lo+(i:Int))
theorem xr(lo:Int)(n:Nat):AV p (Le lo n) (.fix (d0 lo n)) H Z:=by
 intro H2 Z2 Y2 X2 S2 ho;refine⟨fun i d hd=>?_,by simp[pG.items,d0,Le]⟩;have hd':(d0 lo n)[i]?=some d:=hd;unfold d0 at hd';rw[P0]at hd';by_cases hi:i<n
 ·rw[Su hi]at hd';cases hd';refine⟨hi,fun x H3 ⟨e,hx⟩=>?_⟩;subst e;subst hx;exact⟨mH.refl,S2,az.mpr rfl⟩
 ·rw[Sv (by simpa using hi)]at hd';cases hd'
def yl(d:D)(Y:au):ai pG:=match d with
 |.tup xs=>.ok (.fix xs) Y
 |.frz xs=>.ok (.fix xs) Y
 |.obj n=>match Y[n]? with
  |some (.lst xs)=>.ok (.own n xs) Y
  |_=>.bad
 |_=>.bad
def f6(f:ME):MI:=fun ρ Y=>(f ρ Y).bind yl
def Oa(K:W.Frag)(tl:TE):TI:=fun B H R=>tl B H fun x H1=>∃a,x=.ref a/\(((∃xs,fK K H1 a xs)/\R (Ni K a) H1)\/((∃xs,gr K H1 a xs)/\R (NB K a) H1))
theorem JE{l:Expr}{tl:TE}(hl:PE X l tl):PI X tg l (Oa X.K tl):=by
 intro pins s B H R I h;refine d8 (hl pins s B H _ I h) fun v s1 ⟨x,H1,I1,r1,q1⟩=>?_;obtain⟨a,e,q⟩:=q1;subst e;cases r1;rcases q with⟨⟨xs,hq⟩,q⟩|⟨⟨xs,hq⟩,q⟩
 ·obtain ⟨its, rv, p, hz⟩ := I1.list hq;refine Sf p.isList ?_;refine⟨s1.heap.objs.size,[s1.heap.objs.size],_,_,H1,rfl,I1.kept (t':=s1.toks) fun b o e=>Pt _ e,AZ a _,⟨_,Pu _ rfl,rfl,rfl⟩,fun b hb=>?_,q⟩;have e:b=s1.heap.objs.size:=by simpa using hb
  subst e;exact I1.fpOk (Pv _) (I1.hok.fresh (Pv _))
 ·obtain ⟨its, rv, p, hz⟩ := I1.tuple hq;refine Tc (show s1.heap.IsTuple a its.toArray from p) ?_;refine⟨s1.heap.objs.size,[s1.heap.objs.size],_,_,H1,rfl,I1.kept (t':=s1.toks) fun b o e=>Pt _ e,yM a _,⟨_,Pu _ rfl,rfl,rfl⟩,fun b hb=>?_,q⟩;have e:b=s1.heap.objs.size:=by simpa using hb
  subst e;exact I1.fpOk (Pv _) (I1.hok.fresh (Pv _))
theorem Jd{l:Expr}{f:ME}(hK:X.K=p.K)(hl:PE X l (tD p f)):PI X tg l (yf p (f6 f)):=(JE hl).weak fun B H R ⟨Z,ρ,Y,S,Rr,P⟩=>by
 refine⟨Z,ρ,Y,S,Rr,(aP.bind P).imp fun d Y1 H1 Z1 X1 S1 P1 v rv=>?_⟩;rw[hK];cases d with
 |tup xs=>
  obtain⟨a,vs,rfl,h1,h2⟩:=aQ.mp rv;exact⟨a,rfl,.inr ⟨⟨vs,h1⟩,P1.now S1 _ trivial (Ep h1 h2)⟩⟩
 |frz xs=>
  obtain⟨a,vs,rfl,h1,h2⟩:=bx.mp rv;exact⟨a,rfl,.inl ⟨⟨vs,h1.sq⟩,P1.now S1 _ trivial (Er h1 h2)⟩⟩
 |obj n=>
  obtain⟨a,rfl,ha⟩:=aX.mp rv;unfold yl at P1;dsimp only at P1;split at P1
  ·rename_i xs hx;obtain⟨a',ea,vs,hH,rr⟩:=S1.at hx;rw[ha]at ea;cases ea;exact⟨a,rfl,.inl ⟨⟨vs,fK.of hH⟩,P1.now S1 _ hx (BI S1 hx ha)⟩⟩
  ·exact P1.elim
 |non=>exact P1.elim
 |bl b=>exact P1.elim
 |int i=>exact P1.elim
 |str x=>exact P1.elim
def mJ(ds:List D)(Y:au):ai pG:=match ds with
 |[.int j]=>if -(2^62)<=j/\j<2^62 then .ok (.fix (d0 0 j.toNat)) Y else .bad
 |_=>.bad
def AK(ds:List D)(Y:au):ai pG:=match ds with
 |[.int i,.int j]=>if -(2^62)<=i/\i<2^62/\-(2^62)<=j/\j<2^62 then .ok (.fix (d0 i (j-i).toNat)) Y else .bad
 |_=>.bad
def kU(f:List D->au->ai pG)(fa:MA):MI:=fun ρ Y=>(fa ρ Y).bind f
theorem Bf{a:Expr}{fa:MA}(hg:Gl X "range")(hm:X.mg "range" = none)(ha:PA X [a] (ni p fa))(hs:starEach [a] X.env=[(false,eval a X.env)]):PI X tg (.Call (.Name "range" px) [a] [] pos) (yf p (kU mJ fa)):=
 (Bs hg hm ha hs).weak fun B H R ⟨Z, ρ, Y, S, Rr, P⟩ => ⟨Z, ρ, Y, S, Rr, (aP.bind P).imp fun ds Y1 H1 Z1 X1 S1 P1 vs rv => by
  unfold mJ at P1;split at P1
  ·rename_i j;obtain⟨v,rfl,r1⟩:=rv.one;rw[az.mp r1];split at P1
   ·rename_i hj;exact⟨j,rfl,hj.1,hj.2,P1.now S1 _ trivial (xr 0 _)⟩
   ·exact P1.elim
  ·exact P1.elim⟩
theorem Be{a b:Expr}{fa:MA}(hg:Gl X "range")(hm:X.mg "range" = none)(ha:PA X [a,b] (ni p fa))(hs:starEach [a,b] X.env=[(false,eval a X.env),(false,eval b X.env)])(hs2:starEach [b] X.env=[(false,eval b X.env)]):PI X tg (.Call (.Name "range" px) [a,b] [] pos) (yf p (kU AK fa)):=
 (Br hg hm ha hs hs2).weak fun B H R ⟨Z, ρ, Y, S, Rr, P⟩ => ⟨Z, ρ, Y, S, Rr, (aP.bind P).imp fun ds Y1 H1 Z1 X1 S1 P1 vs rv => by
  unfold AK at P1;split at P1
  ·rename_i i j;obtain⟨v,u,rfl,r1,r2⟩:=rv.two;rw[az.mp r1,az.mp r2];split at P1
   ·rename_i hj;exact⟨i,j,rfl,hj,P1.now S1 _ trivial (xr i _)⟩
   ·exact P1.elim
  ·exact P1.elim⟩
end
def ai.nox(o:ai β):ai β:=match o with
 |.exc _ _=>.bad
 |o=>o
@[simp] theorem ae{a:β}{Y:au}:(ai.ok a Y).nox=.ok a Y:=S9 (Ta _)
abbrev Pa.nx(p:Pa):Pa:=⟨p.K,p.w,fun _ _ _ _=>False⟩
theorem mZ{γ:Type}{p:Pa}{o:ai β}{k:β->au->ai γ}{R:γ->au->Hp->List Addr->Prop}(h:aP p H Z (o.nox.bind k) R):aP p.nx H Z o (fun a Y1 H1 Z1=>aP p H1 Z1 (k a Y1) R):=by
 cases o with
 |ok a Y=>exact fun H' Z' e s=>aP.from e h
 |exc x Y=>exact False.elim h
 |bad=>exact h
def fQ(cap:List (Option Nat))(ρ:Ro):Ro:=cap.map fun o=>o.bind fun j=>(ρ[j]?).join
theorem fL.cap{ρ:Ro}(R:fL K H Z ρ B)(cap:List (Option Nat)):fL K H Z (fQ cap ρ) (rf cap B):=by
 refine⟨by simp[fQ,rf],fun i d h=>?_⟩;unfold fQ at h;unfold rf;rw[P0]at h⊢;cases e:cap[i]? with
 |none=>rw[e]at h;cases h
 |some o=>
  rw[e]at h;cases o with
  |none=>simp at h
  |some j=>
   simp at h⊢
   obtain⟨v,h1,h2⟩:=R.at' j d (by
    cases e2:ρ[j]? with
    |none=>rw[e2]at h;simp at h
    |some x=>rw[e2]at h;simp at h;rw[h])
   exact⟨v,by rw[h1];rfl,h2⟩
def qT(n:Nat)(y:D)(Y:au):ai Unit:=match Y[n]? with
 |some (.lst ys)=>if ys.length<sizeLine then .ok () (Y.set n (.lst (ys++[y]))) else .bad
 |_=>.bad
open Classical in
def compLoop(src:pG)(n:Nat)(g:MG)(t:MT)(e:ME):List D->Ro->au->ai D
 |[],_,Y=>if dJ src Y then .ok (.obj n) Y else .bad
 |d::r,ρ,Y=>if dJ src Y then (g d ρ Y).nox.bind fun ρ1 Y1=>(t ρ1 Y1).nox.bind fun b Y2=>if b=true then (e ρ1 Y2).nox.bind fun y Y3=>(qT n y Y3).bind fun _ Y4=>compLoop src n g t e r ρ1 Y4 else compLoop src n g t e r ρ1 Y2 else .bad
def cK(fi:MI)(cap:List (Option Nat))(g:MG)(t:MT)(e:ME):ME:=fun ρ Y=>(fi ρ Y).bind fun src Y1=>compLoop src Y1.length g t e src.items (fQ cap ρ) (Y1++[.lst []])
def bz:MT:=fun _ Y=>.ok true Y
theorem DV{p:Pa}{y:D}{Y:au}{R:Unit->au->Hp->List Addr->Prop}{acc:Addr}(S:p.S H Z Y)(ha:Z[n]?=some acc)(rv:p.R H Z y v)(P:aP p H Z (qT n y Y) R):
  ∃ys,H acc=some (.lst ys)/\ys.length<sizeLine/\∃Y',p.X H (dk H acc (.lst (ys++[v]))) Z Z/\p.S (dk H acc (.lst (ys++[v]))) Z Y'/\R () Y' (dk H acc (.lst (ys++[v]))) Z:=by
 unfold qT at P;split at P
 ·rename_i xs hx;obtain⟨a,ea,us,hH,rr⟩:=S.at hx;rw[ha]at ea;cases ea;split at P
  ·rename_i hl;have q:=rr.snoc rv;exact⟨us,hH,by rw[rr.length];exact hl,_,km hH,S.put hx ha hH q,P _ _ (km hH) (S.put hx ha hH q)⟩
  ·exact P.elim
 ·exact P.elim
section
variable{p:Pa}{X:Cx}{elt:Expr}{ifs:List Expr}{cap:List (Option Nat)}{fi:MI}{g:MG}{t:MT}{e:ME}
theorem ux{Q:VK}(h:tD p (cK fi cap g t e) B H Q):Cw (yf p fi) cap (uK p.nx g) (jk p.nx t) (tD p.nx e) B H Q:=by
 obtain⟨Z,ρ,Y,S,R,P⟩:=h;refine⟨Z,ρ,Y,S,R,(aP.bind P).imp fun src Y1 H1 Z1 X1 S1 P1 J hok hJ acc hacc=>?_⟩;obtain⟨x1,s1,_⟩:=dN (ds:=[]) (vs:=[]) S1 hacc Reps.nil;have hn:(Z1++[acc])[Y1.length]?=some acc:=by rw[<- S1.len];simp
 refine⟨fun i m B2 H2=>m=src.items.length-i/\i<=src.items.length/\∃Z2 ρ2 Y2,p.X H1 H2 Z1 Z2/\p.S H2 Z2 Y2/\fL p.K H2 Z2 ρ2 B2/\Z2[Y1.length]?=some acc/\aP p H2 Z2 (compLoop src Y1.length g t e (src.items.drop i) ρ2 Y2) (RV p Q),
  ⟨_,rfl,Q4 _,Z1++[acc],fQ cap ρ,Y1++[.lst []],x1,s1,((R.mono X1).cap cap).mono x1,hn,by simpa using aP.from x1 P1⟩,?_⟩
 rintro i m B2 H2 ⟨rfl,hi,Z2,ρ2,Y2,X2,S2,R2,a2,P2⟩
 by_cases hlt:i<src.items.length
 ·rw [Tb hlt] at P2;unfold compLoop at P2;by_cases ho:dJ src Y2
  ·rw [OS ho] at P2;obtain⟨hgo,hy⟩:=(hJ H2 Z2 Y2 X2 S2 ho).1 i _ (SK hlt)
   refine .inr ⟨hgo,fun B' H'=>i+1<=src.items.length/\∃Z2 ρ2 Y2,p.X H1 H' Z1 Z2/\p.S H' Z2 Y2/\fL p.K H' Z2 ρ2 B'/\Z2[Y1.length]?=some acc/\aP p H' Z2 (compLoop src Y1.length g t e (src.items.drop (i+1)) ρ2 Y2) (RV p Q),
    fun B' H' ⟨h1,h2⟩=>⟨_,by omega,rfl,h1,h2⟩,fun x H3 yx=>?_⟩
   obtain⟨X3,S3,R3⟩:=hy x H3 yx;refine⟨Z2,ρ2,Y2,_,S3,R2.mono X3,R3,(aP.from (p:=p.nx) X3 (mZ P2)).imp fun ρ4 Y4 H4 Z4 X4 S4 P4 B4 R4=>?_⟩;refine⟨Z4,ρ4,Y4,S4,R4,(mZ P4).imp fun b Y5 H5 Z5 X5 S5 P5=>?_⟩;have xx:p.X H1 H5 Z1 Z5:=((X2.trans X3).trans X4).trans X5;have a5:Z5[Y1.length]?=some acc:=X5.pre _ _ (X4.pre _ _ (X3.pre _ _ a2));cases b with
   |false=>
    rw[OT PD]at P5;refine NZ ?_;exact⟨hlt,Z5,ρ4,Y5,xx,S5,R4.mono X5,a5,P5⟩
   |true=>
    rw[OS rfl]at P5;refine NY ?_;refine⟨Z5,ρ4,Y5,S5,R4.mono X5,(mZ P5).imp fun y Y6 H6 Z6 X6 S6 P6 v rv=>?_⟩;obtain⟨ys,e1,e2,Y7,x7,s7,q7⟩:=DV (p:=p) S6 (X6.pre _ _ a5) rv (aP.bind P6);exact⟨ys,e1,e2,hlt,Z6,ρ4,Y7,(xx.trans X6).trans x7,s7,((R4.mono X5).mono X6).mono x7,X6.pre _ _ a5,q7⟩
  ·rw[OT ho]at P2;exact P2.elim
 ·have e : i = src.items.length := by omega
  subst e;rw[List.drop_length]at P2;unfold compLoop at P2;by_cases ho:dJ src Y2
  ·rw[OS ho]at P2;exact .inl ⟨(hJ H2 Z2 Y2 X2 S2 ho).2,P2 H2 Z2 mH.refl S2 _ (aX.mpr ⟨acc,rfl,a2⟩)⟩
  ·rw[OT ho]at P2;exact P2.elim
theorem FE{X:Cx}:yb X [] (jk p bz):=fun pins s B H Q I h=>by
 obtain⟨Z,ρ,Y,S,R,P⟩:=h;exact F5 pins s B H Q I (P.now S)
theorem FD{X:Cx}{t:MT}(h:PT X c (jk p t)):yb X [c] (jk p t):=F4 h
theorem FY(hc:X.calm=true)(S:cV X.N X.env scope Nc cap)(hi:PI X tg iter (yf p fi))
  (hg:∀cl C s H fp,PG (k8 X Nc scope cl C s H fp) tg (uK p.nx g)) (ht:∀cl C s H fp,yb (k8 X Nc scope cl C s H fp) ifs (jk p.nx t)) (he:∀cl C s H fp,PE (k8 X Nc scope cl C s H fp) elt (tD p.nx e))
  (hs:∀x,foldedSetIterable iter X.env x=pure x):PE X (.ListComp elt [⟨tg,iter,ifs,0⟩] scope pos) (tD p (cK fi cap g t e)):=
 (Gi hc S hi hg ht he hs).weak fun B H Q h=>ux h
theorem FH(hc:X.calm=true)(hN:X.N.Nodup)(hix:X.N[i]?=some x)(hx:X.env.scope.names.lookup x=some .local)(S:cV X.N X.env scope Nc cap)(hi:PI X tg iter (yf p fi))(hg:∀cl C s H fp,PG (k8 X Nc scope cl C s H fp) tg (uK p.nx g))(ht:∀cl C s H fp,yb (k8 X Nc scope cl C s H fp) ifs (jk p.nx t))(he:∀cl C s H fp,PE (k8 X Nc scope cl C s H fp) elt (tD p.nx e))(hsw:swapsWith (.ListComp elt [⟨tg,iter,ifs,0⟩] scope pos) (some (.Name x pos1)) pos2.line X.env=pure true)(hs:∀x,foldedSetIterable iter X.env x=pure x):
  PS X (.Assign [.Name x pos1] (.ListComp elt [⟨tg,iter,ifs,0⟩] scope pos) pos2) (ji p (bU (cK fi cap g t e) (ao i))):=
 (F9 hc hN hix hx S hi hg ht he hsw hs).weak fun D B H h => by
  obtain⟨Z,ρ,Y,S,R,P⟩:=h;refine ux ⟨Z,ρ,Y,S,R,(aP.bindS P).imp fun d Y1 H1 Z1 X1 S1 P1 v rv=>?_⟩;exact P1 H1 Z1 _ mH.refl S1 ((R.mono X1).set i rv)
end
mutual
def D.low(n:Nat):D->Prop
 |.tup xs=>D.lows n xs
 |.frz xs=>D.lows n xs
 |.obj m=>m<n
 |_=>True
def D.lows(n:Nat):List D->Prop
 |[]=>True
 |x::xs=>x.low n/\D.lows n xs
end
def O.low(n:Nat):O->Prop
 |.lst xs=>D.lows n xs
 |_=>True
section
variable{Z':List Addr}
mutual
theorem aS.low:∀{d:D}{v:V},aS K H Z d v->d.low Z.length
 |.non,_,_=>trivial
 |.bl _,_,_=>trivial
 |.int _,_,_=>trivial
 |.str _,_,_=>trivial
 |.tup xs,_,h=>by
  obtain⟨a,vs,rfl,h1,h2⟩:=aQ.mp h;simp only[D.low];exact Reps.low h2
 |.frz xs,_,h=>by
  obtain⟨a,vs,rfl,h1,h2⟩:=bx.mp h;simp only[D.low];exact Reps.low h2
 |.obj n,_,h=>by
  obtain⟨a,rfl,h1⟩:=aX.mp h;simp only[D.low];exact(O9.mp h1).1
theorem Reps.low:∀{ds:List D}{vs:List V},Reps K H Z ds vs->D.lows Z.length ds
 |[],_,_=>trivial
 |d::ds,_,h=>by
  simp only[Reps]at h;obtain⟨v,r,rfl,h1,h2⟩:=h;simp only[D.lows];exact⟨aS.low h1,Reps.low h2⟩
end
mutual
theorem aS.cut{n:Nat}(e:∀m,m<n->Z'[m]?=Z[m]?):∀{d:D}{v:V},aS K H Z' d v->d.low n->aS K H Z d v
 |.non,_,h,_=>by simp only[aS]at h⊢;exact h
 |.bl _,_,h,_=>by simp only[aS]at h⊢;exact h
 |.int _,_,h,_=>by simp only[aS]at h⊢;exact h
 |.str _,_,h,_=>by simp only[aS]at h⊢;exact h
 |.tup xs,_,h,b=>by
  obtain⟨a,vs,rfl,h1,h2⟩:=aQ.mp h;simp only[D.low]at b;exact aQ.mpr ⟨a,vs,rfl,h1,Reps.cut e h2 b⟩
 |.frz xs,_,h,b=>by
  obtain⟨a,vs,rfl,h1,h2⟩:=bx.mp h;simp only[D.low]at b;exact bx.mpr ⟨a,vs,rfl,h1,Reps.cut e h2 b⟩
 |.obj m,_,h,b=>by
  obtain⟨a,rfl,h1⟩:=aX.mp h;simp only[D.low]at b;exact aX.mpr ⟨a,rfl,by rw[<- e m b];exact h1⟩
theorem Reps.cut{n:Nat}(e:∀m,m<n->Z'[m]?=Z[m]?):∀{ds:List D}{vs:List V},Reps K H Z' ds vs->D.lows n ds->Reps K H Z ds vs
 |[],_,h,_=>by simp only[Reps]at h⊢;exact h
 |d::ds,_,h,b=>by
  simp only[Reps]at h⊢;obtain⟨v,r,rfl,h1,h2⟩:=h;simp only[D.lows]at b;exact⟨v,r,rfl,aS.cut e h1 b.1,Reps.cut e h2 b.2⟩
end
end
def Ik(Y Y':au)(d:D):Prop:=d.low Y.length/\Y.length<=Y'.length/\∀(i:Nat) o,i<Y.length->Y'[i]?=some o->Y[i]?=some o\/o.low Y.length
open Classical in
def nk(Y:au)(o:ai D):ai D:=match o with
 |.ok d Y'=>if Ik Y Y' d then .ok d (Y'.take Y.length) else .ok d Y'
 |o=>o
theorem qJ{p:Pa}{Y:au}{o:ai D}{Q:VK}(S:p.S H Z Y)(P:aP p H Z (nk Y o) (RV p Q)):aP p H Z o (RV p Q):=by
 cases o with
 |exc x Y'=>exact P
 |bad=>exact P
 |ok d Y'=>
  unfold nk at P;dsimp only at P;by_cases hg:Ik Y Y' d
  ·rw [OS hg] at P;obtain⟨g1,g2,g3⟩:=hg;intro H' Z' e s v rv
   have al:∀m,m<Y.length->Z'[m]?=Z[m]?:=fun m hm=>by
    have hm':m<Z.length:=by rw[S.len];exact hm
    rw[SK hm'];exact e.pre m _ (SK hm')
   refine P H' Z ⟨e.tup,e.frz,fun _ _ z=>z⟩ ⟨by rw[PU,S.len];omega,S.nd,fun n o a h1 h2=>?_⟩ v (aS.cut al rv g1);have hn:n<Y.length:=by rw[<- S.len];exact(O9.mp h2).1
   rw[Qa hn]at h1;have q:=s.ob n o a h1 (e.pre n a h2)
   have ob:o.low Y.length:=by
    rcases g3 n o hn h1 with z|z
    ·have q0 := S.ob n o a z h2;cases o with
     |lst xs=>obtain⟨vs,_,r⟩:=q0;have:=r.low;rw[S.len]at this;exact this
     |set ks=>trivial
     |iset ks=>trivial
     |dic=>trivial
     |exc c=>trivial
    ·exact z
   cases o with
   |lst xs=>obtain⟨vs,h3,r⟩:=q;exact⟨vs,h3,Reps.cut al r ob⟩
   |set ks=>exact q
   |iset ks=>exact q
   |dic=>exact q
   |exc c=>exact q
  ·rw[OT hg]at P;exact P
def SO.out(o:SO):ai D:=match o with
 |.ret d Y=>.ok d Y
 |.next _ Y=>.ok .non Y
 |.exc x Y=>.exc x Y
 |_=>.bad
def h7(n N:Nat)(fb:MS):List D->au->ai D:=fun ds Y=>if ds.length=n then nk Y (fb (ds.map some++List.replicate (N-n) none) Y).out else .bad
def EN(p:Pa)(n:Nat)(F:List D->au->ai D):Sp:=fun vs H Q _=>vs.length=n/\∃Z ds Y,p.S H Z Y/\p.Rs H Z ds vs/\aP p H Z (F ds Y) (RV p Q)
structure dY(P:Program)(w:World)(K:W.Frag)(mg:Str->Option Value)(base:Heap)(p:Pa)(k:Nat)(x:Str)(n:Nat)(F:List D->au->ai D):Prop where
 len:∀ds Y,ds.length≠n->F ds Y=.bad
 fn:∃f fd ps,mg x=some (.ref f)/\W.keepIn K (.ref f)=true/\iw K fd ps []/\qR P w K mg base yi k f fd ps (EN p n F)
section
variable{p:Pa}{X:Cx}{k:Nat}{F:List D->au->ai D}{a:Expr}{es:List Expr}{fr:MA}
theorem FZ (h:dY X.prog X.w X.K X.mg X.base p k x n F) (hr:gv k X.A) (hg:Gl X x) (ha:PA X (a::es) (ni p fr)) (hdb:(x == ("__debug__" : Str))=false) (he:starEach (a::es) X.env=(false,eval a X.env)::starEach es X.env) (hpl:(backTo pos (starEach es X.env)).any (·.1)=false) :
  PE X (.Call (.Name x px) (a::es) [] pos) (tD p (aC F fr)):=by
 obtain⟨f,fd,ps,h1,h2,h3,h4⟩:=h.fn;refine(qC (dvs:=[]) (E:=E0) h4 hr hg h1 h2 h3 .nil CG ha hdb he hpl).weak fun B H Q ⟨Z,ρ,Y,S,R,P⟩=>⟨Z,ρ,Y,S,R,(aP.bind P).imp fun ds Y1 H1 Z1 X1 S1 P1 vs rv=>?_⟩;show EN p n F (vs++[]) H1 Q E0;rw[PJ];refine⟨?_,Z1,ds,Y1,S1,rv,P1⟩;by_cases hl:ds.length=n
 ·rw[rv.length];exact hl
 ·rw[h.len ds Y1 hl]at P1;exact P1.elim
end
theorem kD{ds:List D}(r:Reps K H Z ds vs)(m:Nat):fL K H Z (ds.map some++List.replicate m none) (vs.map some++List.replicate m none):=by
 refine⟨by simp[r.length],fun i d h=>?_⟩;by_cases hi:i<ds.length
 ·rw [PZ (by simpa using hi), P0] at h;cases e:ds[i]? with
  |none=>rw[e]at h;cases h
  |some x=>
   rw[e]at h;cases h;obtain⟨v,hv,rv⟩:=r.get e;refine⟨v,?_,rv⟩;rw[PZ (by simp[r.length,hi]),P0,hv];rfl
 ·rw[PX (by simpa using hi),PY]at h;split at h <;> cases h
theorem K5{w:World}{p:Pa}{k:Nat}{ps:List Str}{fb:MS}(F:gS K x qual st f fd)(S:aV N ps (ar st))(hn:ps.length=n)(hm:mg x=some (.ref f))(hb:iw K fd ps [])(body : ∀ (cdv : Value) (A : Around) (outer : List Env) (s : Shared) (H : Hp) (E : XK), gv k (A.deeper (envOfC qual (ar st) s.heap.objs.size f cdv)) ->
   j9 (qO yi P w K mg base N qual (ar st) f cdv A outer s H E).nox (cM st) (ji p fb)):dY P w K mg base p (k+1) x n (h7 n N.length fb):=by
 refine⟨fun ds Y h=>by unfold h7;rw[OT h],f,fd,ps,hm,F.kp,hb,?_⟩;refine F.ok S (fun vs H Q E h=>h.1.trans hn.symm) fun cdv A outer s H vs Q E hr h=>?_;refine⟨_,body cdv A outer s H E hr,?_⟩;obtain⟨hl,Z,ds,Y,S1,R1,P1⟩:=h;unfold h7 at P1;have hd:ds.length=n:=by rw[<- R1.length];exact hl
 rw[OS hd]at P1;have P2:=qJ S1 P1;unfold start;rw[hl];refine⟨Z,_,Y,S1,kD R1 _,?_⟩;cases e:fb (ds.map some++List.replicate (N.length-n) none) Y with
 |ret d Y'=>rw[e]at P2;exact fun H' Z' v x s r=>P2 H' Z' x s v r
 |next ρ Y'=>rw[e]at P2;exact fun H' Z' B' x s r=>P2 H' Z' x s .non (bL.mpr rfl)
 |exc x Y'=>rw[e]at P2;exact P2
 |brk ρ Y'=>rw[e]at P2;exact P2.elim
 |cnt ρ Y'=>rw[e]at P2;exact P2.elim
 |bad=>rw[e]at P2;exact P2.elim
end L2
variable{Y:L2.au}{xs:List L2.D}{d:L2.D}{p:L2.Pa}{M:L2.au}{F:List L2.D->L2.au->L2.ai L2.D}{fr:L2.MA}{a0:Option L2.D}{T:L2.au->Prop}{Y0:L2.au}{xw:L2.DX->L2.au->L2.Hp->List PySem.Addr->Prop}{M0:L2.au}{fa:L2.ME}{fb:L2.MS}{ds:List L2.D}{ys:List L2.D}{gd:Int->Int->L2.D}{gg:Int->Int->L2.D}{ρ:L2.Ro}{Y1:L2.au}{fi:L2.MI}
namespace L2
open PySem PySem.Spec PyProof.Rows RS
section
variable(K:W.Frag)(H:Hp)
mutual
def ot:PyData->V->Prop
 |.none,v=>v=.non
 |.bool b,v=>v=.bl b
 |.int i,v=>v=.int i
 |.str x,v=>v=.str x
 |.tuple xs,v=>∃a vs,v=.ref a/\gr K H a vs/\RdPs xs vs
 |.list xs,v=>∃a vs,v=.ref a/\fK K H a vs/\RdPs xs vs
 |.dict _,_=>False
def RdPs:List PyData->List V->Prop
 |[],vs=>vs=[]
 |x::xs,vs=>∃v r,vs=v::r/\ot x v/\RdPs xs r
end
end
section
variable{X:Cx}
mutual
theorem eX(I:aZ X pins B H s):∀(d:PyData)(x:V)(v:Value),ot X.K H d x->cx x v->∃as,Reads s.heap v d as
 |.none,_,_,h,r=>by simp only[ot]at h;subst h;cases r;exact⟨_,.none⟩
 |.bool b,_,_,h,r=>by simp only[ot]at h;subst h;cases r;exact⟨_,.bool b⟩
 |.int b,_,_,h,r=>by simp only[ot]at h;subst h;obtain⟨t,rfl⟩:=r;exact⟨_,.int b t⟩
 |.str b,_,_,h,r=>by simp only[ot]at h;subst h;obtain⟨t,rfl⟩:=r;exact⟨_,.str b t⟩
 |.tuple xs,_,_,h,r=>by
  simp only[ot]at h;obtain⟨a,vs,rfl,h1,h2⟩:=h;cases r;obtain⟨its,rv,⟨o,e1,e2,n,e3⟩,_⟩:=I.tuple h1;obtain⟨as,q⟩:=readsAll_of I xs vs its h2 rv;exact⟨_,.tuple e1 e2 e3 (by simpa using q)⟩
 |.list xs,_,_,h,r=>by
  simp only[ot]at h;obtain⟨a,vs,rfl,h1,h2⟩:=h;cases r;obtain⟨its,rv,⟨o,n,e1,e2,_,e3⟩,_⟩:=I.list h1;obtain⟨as,q⟩:=readsAll_of I xs vs its h2 rv;exact⟨_,.list e1 e2 e3 (by simpa using q)⟩
 |.dict _,_,_,h,_=>by simp only[ot]at h
theorem readsAll_of(I:aZ X pins B H s):∀(ds:List PyData)(xs:List V)(vs:List Value),RdPs X.K H ds xs->bp xs vs->∃as,ReadsAll s.heap vs ds as
 |[],_,_,h,r=>by simp only[RdPs]at h;subst h;cases r;exact⟨_,.nil⟩
 |d::ds,_,_,h,r=>by
  simp only[RdPs]at h;obtain⟨v,q,rfl,h1,h2⟩:=h;cases r with
  |cons r rr=>
   obtain⟨as,g1⟩:=eX I d _ _ h1 r;obtain⟨bs,g2⟩:=readsAll_of I ds _ _ h2 rr;exact⟨_,.cons g1 g2⟩
end
def eS(d:PyData):Bool:=d.canLay0&&decide (d.depth<=60)
def AL(K:W.Frag)(neg:Bool):R2:=fun x y H Q=>∃a b,ot K H a x/\ot K H b y/\eS a=true/\eS b=true/\Q (.bl (if neg then !PyData.eqv a b else PyData.eqv a b)) H
theorem oR{a b:PyData}(ha:eS a=true)(hu:A.units+64<cLine):A.units+min a.depth b.depth<cLine:=by
 unfold eS at ha;simp only[Qy,Td]at ha;have:=Nat.min_le_left a.depth b.depth;omega
theorem cQ{a:PyData}(ha:eS a=true):a.canLay0=true:=by
 unfold eS at ha;simp only[Qy,Td]at ha;exact ha.1
theorem sA{a:PyData}(ha:eS a=true):a.depth<=60:=by
 unfold eS at ha;simp only[Qy,Td]at ha;exact ha.2
theorem Dc(hu:X.A.units+64<cLine):iJ X (compareOp .Eq) (AL X.K false):=by
 intro pins s B H x y v u Q I rx ry h;obtain⟨a,b,h1,h2,h3,h4,q⟩:=h;obtain⟨as,r1⟩:=eX I a x v h1 rx;obtain⟨bs,r2⟩:=eX I b y u h2 ry;exact SeqAt.compareEq_reads r1 r2 (cQ h3) (cQ h4) (oR h3 hu) ⟨.bl _,H,I,rfl,q⟩
theorem JU(hu:X.A.units+64<cLine):iJ X (compareOp .NotEq) (AL X.K true):=by
 intro pins s B H x y v u Q I rx ry h;obtain⟨a,b,h1,h2,h3,h4,q⟩:=h;obtain⟨as,r1⟩:=eX I a x v h1 rx;obtain⟨bs,r2⟩:=eX I b y u h2 ry;exact SeqAt.compareNe_reads r1 r2 (cQ h3) (cQ h4) (oR h3 hu) ⟨.bl _,H,I,rfl,q⟩
def Cm(K:W.Frag)(neg:Bool):R2:=fun x y H Q=>∃a b xs,ot K H a x/\ot K H b y/\(b=.list xs\/b=.tuple xs)/\eS a=true/\eS b=true/\Q (.bl (if neg then !(xs.any fun y=>PyData.eqv y a) else xs.any fun y=>PyData.eqv y a)) H
theorem JY(hu:X.A.units+64<cLine):iJ X (compareOp .In) (Cm X.K false):=by
 intro pins s B H x y v u Q I rx ry h;obtain⟨a,b,xs,h1,h2,hb,h3,h4,q⟩:=h;obtain⟨as,r1⟩:=eX I a x v h1 rx;obtain⟨bs,r2⟩:=eX I b y u h2 ry;have hd:=sA h3;rcases hb with rfl|rfl
 ·refine SeqAt.in_list_reads r2 r1 (by simpa[PyData.canLay0] using cQ h4) (cQ h3) ?_ ⟨.bl _,H,I,rfl,q⟩;have:=Qk (PyData.depthAll xs) a.depth;omega
 ·refine SeqAt.in_tuple_reads r2 r1 (by simpa[PyData.canLay0] using cQ h4) (cQ h3) ?_ ⟨.bl _,H,I,rfl,q⟩;have:=Qk (PyData.depthAll xs) a.depth;omega
theorem Bu(hu:X.A.units+64<cLine):iJ X (compareOp .NotIn) (Cm X.K true):=by
 intro pins s B H x y v u Q I rx ry h;obtain⟨a,b,xs,h1,h2,hb,h3,h4,q⟩:=h;obtain⟨as,r1⟩:=eX I a x v h1 rx;obtain⟨bs,r2⟩:=eX I b y u h2 ry;have hd:=sA h3;rcases hb with rfl|rfl
 ·refine SeqAt.notIn_list_reads r2 r1 (by simpa[PyData.canLay0] using cQ h4) (cQ h3) ?_ ⟨.bl _,H,I,rfl,q⟩;have:=Qk (PyData.depthAll xs) a.depth;omega
 ·refine SeqAt.notIn_tuple_reads r2 r1 (by simpa[PyData.canLay0] using cQ h4) (cQ h3) ?_ ⟨.bl _,H,I,rfl,q⟩;have:=Qk (PyData.depthAll xs) a.depth;omega
end
mutual
def AF(Y:au):D->Option PyData
 |.non=>some .none
 |.bl b=>some (.bool b)
 |.int i=>some (.int i)
 |.str x=>some (.str x)
 |.tup xs=>(toPs Y xs).map .tuple
 |.frz xs=>(toPs Y xs).map .list
 |.obj _=>none
def toPs(Y:au):List D->Option (List PyData)
 |[]=>some []
 |x::xs=>(AF Y x).bind fun a=>(toPs Y xs).map fun r=>a::r
end
def yk(Y:au)(d:D):Option PyData:=match d with
 |.obj n=>match Y[n]? with
  |some (.lst xs)=>(toPs Y xs).map .list
  |_=>none
 |d=>AF Y d
def iu(Y:au):List D->Option (List PyData)
 |[]=>some []
 |x::xs=>(yk Y x).bind fun a=>(iu Y xs).map fun r=>a::r
def mw(Y:au)(d:D):Option PyData:=match d with
 |.obj n=>match Y[n]? with
  |some (.lst xs)=>(iu Y xs).map .list
  |_=>none
 |.tup xs=>(iu Y xs).map .tuple
 |d=>AF Y d
section
variable{w:World}
mutual
theorem iz:∀{d:D}{q:PyData}{v:V},AF Y d=some q->aS K H Z d v->ot K H q v
 |.non,_,_,h,r=>by simp only[AF]at h;cases h;simp only[ot];exact bL.mp r
 |.bl b,_,_,h,r=>by simp only[AF]at h;cases h;simp only[ot];exact aU.mp r
 |.int b,_,_,h,r=>by simp only[AF]at h;cases h;simp only[ot];exact az.mp r
 |.str b,_,_,h,r=>by simp only[AF]at h;cases h;simp only[ot];exact bq.mp r
 |.tup xs,_,_,h,r=>by
  simp only[AF]at h;cases e:toPs Y xs with
  |none=>rw[e]at h;cases h
  |some ys=>
   rw[e]at h;cases h;obtain⟨a,vs,rfl,h1,h2⟩:=aQ.mp r;simp only[ot];exact⟨a,vs,rfl,h1,toPs_ok e h2⟩
 |.frz xs,_,_,h,r=>by
  simp only[AF]at h;cases e:toPs Y xs with
  |none=>rw[e]at h;cases h
  |some ys=>
   rw[e]at h;cases h;obtain⟨a,vs,rfl,h1,h2⟩:=bx.mp r;simp only[ot];exact⟨a,vs,rfl,h1.sq,toPs_ok e h2⟩
 |.obj n,_,_,h,r=>by simp only[AF]at h;cases h
theorem toPs_ok:∀{ds:List D}{qs:List PyData}{vs:List V},toPs Y ds=some qs->Reps K H Z ds vs->RdPs K H qs vs
 |[],_,_,h,r=>by simp only[toPs]at h;cases h;simp only[RdPs];simp only[Reps]at r;exact r
 |x::xs,_,_,h,r=>by
  simp only[toPs]at h;cases e1:AF Y x with
  |none=>rw[e1]at h;cases h
  |some a=>
   cases e2:toPs Y xs with
   |none=>rw[e1,e2]at h;cases h
   |some ys=>
    rw[e1,e2]at h;cases h;simp only[Reps]at r;obtain⟨v,vr,rfl,r1,r2⟩:=r;simp only[RdPs];exact⟨v,vr,rfl,iz e1 r1,toPs_ok e2 r2⟩
end
theorem Fw(S:gZ K w H Z Y)(h:yk Y d=some q)(r:aS K H Z d v):ot K H q v:=by
 cases d with
 |obj n=>
  unfold yk at h;dsimp only at h;split at h
  ·rename_i xs hx;obtain⟨a,ea,us,hH,rr⟩:=S.at hx;obtain⟨a',rfl,ea'⟩:=aX.mp r;rw[ea]at ea';cases ea';cases e:toPs Y xs with
   |none=>rw[e]at h;cases h
   |some ys=>
    rw[e]at h;cases h;simp only[ot];exact⟨a,us,rfl,fK.of hH,toPs_ok e rr⟩
  ·cases h
 |non=>exact iz h r
 |bl b=>exact iz h r
 |int i=>exact iz h r
 |str x=>exact iz h r
 |tup xs=>exact iz h r
 |frz xs=>exact iz h r
theorem rF(S:gZ K w H Z Y):∀{ds:List D}{qs:List PyData}{vs:List V},iu Y ds=some qs->Reps K H Z ds vs->RdPs K H qs vs
 |[],_,_,h,r=>by simp only[iu]at h;cases h;simp only[RdPs];simp only[Reps]at r;exact r
 |x::xs,_,_,h,r=>by
  simp only[iu]at h;cases e1:yk Y x with
  |none=>rw[e1]at h;cases h
  |some a=>
   cases e2:iu Y xs with
   |none=>rw[e1,e2]at h;cases h
   |some ys=>
    rw[e1,e2]at h;cases h;simp only[Reps]at r;obtain⟨v,vr,rfl,r1,r2⟩:=r;simp only[RdPs];exact⟨v,vr,rfl,Fw S e1 r1,rF S e2 r2⟩
theorem oD(S:gZ K w H Z Y)(h:mw Y d=some q)(r:aS K H Z d v):ot K H q v:=by
 cases d with
 |obj n=>
  unfold mw at h;dsimp only at h;split at h
  ·rename_i xs hx;obtain⟨a,ea,us,hH,rr⟩:=S.at hx;obtain⟨a',rfl,ea'⟩:=aX.mp r;rw[ea]at ea';cases ea';cases e:iu Y xs with
   |none=>rw[e]at h;cases h
   |some ys=>
    rw[e]at h;cases h;simp only[ot];exact⟨a,us,rfl,fK.of hH,rF S e rr⟩
  ·cases h
 |tup xs=>
  unfold mw at h;dsimp only at h;cases e:iu Y xs with
  |none=>rw[e]at h;cases h
  |some ys=>
   rw[e]at h;cases h;obtain⟨a,vs,rfl,h1,h2⟩:=aQ.mp r;simp only[ot];exact⟨a,vs,rfl,h1,rF S e h2⟩
 |non=>exact iz h r
 |bl b=>exact iz h r
 |int i=>exact iz h r
 |str x=>exact iz h r
 |frz xs=>exact iz h r
end
def kZ(neg:Bool)(a b:D)(Y:au):ai D:=match mw Y a,mw Y b with
 |some p,some q=>if eS p=true/\eS q=true then .ok (.bl (if neg then !PyData.eqv p q else PyData.eqv p q)) Y else .bad
 |_,_=>.bad
def rn:PyData->Option (List PyData)
 |.list xs=>some xs
 |.tuple xs=>some xs
 |_=>none
def oq(neg:Bool)(a b:D)(Y:au):ai D:=match mw Y a,mw Y b with
 |some p,some q=>match rn q with
  |some xs=>if eS p=true/\eS q=true then .ok (.bl (if neg then !(xs.any fun y=>PyData.eqv y p) else xs.any fun y=>PyData.eqv y p)) Y else .bad
  |none=>.bad
 |_,_=>.bad
theorem CH:qd p (kZ neg) (AL p.K neg):=by
 intro a b v y H Z Y Q S ra rb P;unfold kZ at P;split at P
 ·rename_i x z hx hz;split at P
  ·rename_i hf;exact⟨x,z,oD S hx ra,oD S hz rb,hf.1,hf.2,P.now S _ (aU.mpr rfl)⟩
  ·exact P.elim
 ·exact P.elim
theorem HI:qd p (oq neg) (Cm p.K neg):=by
 intro a b v y H Z Y Q S ra rb P;unfold oq at P;split at P
 ·rename_i x z hx hz;split at P
  ·rename_i xs hxs;split at P
   ·rename_i hf;refine⟨x,z,xs,oD S hx ra,oD S hz rb,?_,hf.1,hf.2,P.now S _ (aU.mpr rfl)⟩;cases z <;> first|(cases hxs;exact .inl rfl)|(cases hxs;exact .inr rfl)|(cases hxs)
   ·exact P.elim
  ·exact P.elim
 ·exact P.elim
def D.isNon:D->Bool
 |.non=>true
 |_=>false
def nu(neg:Bool)(a b:D)(Y:au):ai D:=match b with
 |.non=>.ok (.bl (if neg then !a.isNon else a.isNon)) Y
 |_=>.bad
theorem Ar{a:D}(r:aS K H Z a v):decide (v=.non)=a.isNon:=by
 cases a with
 |non=>rw[bL.mp r];rfl
 |bl b=>rw[aU.mp r];rfl
 |int b=>rw[az.mp r];rfl
 |str b=>rw[bq.mp r];rfl
 |tup xs=>obtain⟨a,vs,rfl,_⟩:=aQ.mp r;rfl
 |frz xs=>obtain⟨a,vs,rfl,_⟩:=bx.mp r;rfl
 |obj xs=>obtain⟨a,rfl,_⟩:=aX.mp r;rfl
theorem Kb:qd p (nu false) (fun x y H Q=>y=.non/\Q (.bl (decide (x=.non))) H):=by
 intro a b v y H Z Y Q S ra rb P;cases b with
 |non=>exact⟨bL.mp rb,P.now S _ (aU.mpr (by rw[Ar ra];rfl))⟩
 |bl b=>exact P.elim
 |int b=>exact P.elim
 |str b=>exact P.elim
 |tup xs=>exact P.elim
 |frz xs=>exact P.elim
 |obj xs=>exact P.elim
theorem GD:qd p (nu true) (fun x y H Q=>y=.non/\Q (.bl (!decide (x=.non))) H):=by
 intro a b v y H Z Y Q S ra rb P;cases b with
 |non=>exact⟨bL.mp rb,P.now S _ (aU.mpr (by rw[Ar ra];cases a <;> rfl))⟩
 |bl b=>exact P.elim
 |int b=>exact P.elim
 |str b=>exact P.elim
 |tup xs=>exact P.elim
 |frz xs=>exact P.elim
 |obj xs=>exact P.elim
end L2
namespace L2
open PySem PySem.Spec PyProof.Rows RS
open PySem.SeqAt
open PySem.AutoSeq1 (wpAny_loadPart')
open PySem.MeetsSeq PySem.MeetsSeq2 PySem.MeetsSeq3
def E9(op:CmpOp)(A:Around)(s:Shared)(y x:Value)(k:Bool):Prop:=∀(prog:Program)(w:World)(E:Value->Shared->Prop)(Q:Value->Shared->Prop),Q (.bool k) s->wpAny (model prog w) A (richCompare op y x) Q E s
def k9(t:Bool):List (Bool×Bool)->Bool
 |[]=>t
 |(e,k)::r=>if e=true then k9 t r else k
def ke(op:CmpOp)(A:Around)(s:Shared):List Value->List Value->List (Bool×Bool)->Prop
 |[],_,[]=>True
 |_,[],[]=>True
 |y::ys,x::xs,(e,k)::r=>EqAt A s y x e/\(e=false->E9 op A s y x k)/\(e=true->ke op A s ys xs r)
 |_,_,_=>False
theorem vv(l b:Addr)(items items2:Array Value)(n n2:Nat)(dd dd2:Option Addr)(sl sl2:Array (Option Value))(eks:List (Bool×Bool)) :
  Meets (Builtin.«tuple.__lt__» ⟨[.ref l,.ref b],[]⟩)
   (fun A R s => s.heap.get? l = some { cls := .type "tuple", dict := dd, data := .seq items n, slots := sl } /\ s.heap.get? b = some { cls := .type "tuple", dict := dd2, data := .seq items2 n2, slots := sl2 } /\
    ke .Lt A.in1 s items.toList items2.toList eks/\R (.ok (.ret (.bool (k9 (decide (items.size<items2.size)) eks)))) s):=
 .of_wp fun prog w A R s h=>by
  obtain⟨hp,g,d,tk,os⟩:=s;obtain⟨hl,hb,hc,h⟩:=h;have f2:=AutoSeq1.sub_tuple_tuple
  wp_walk using wpAny_loadPart' hl,wpAny_loadPart' hb,RR _ (fun rest b s'=>b.1=none/\s'=⟨hp,g,d,tk,os⟩/\∃(vs ws:List Value)(eks':List (Bool×Bool)),rest=vs.zip ws /\
   ke .Lt A.in1 ⟨hp,g,d,tk,os⟩ vs ws eks'/\R (.ok (.ret (.bool (k9 (decide (items.size<items2.size)) eks')))) ⟨hp,g,d,tk,os⟩) _
  case turn=>
   rintro⟨y,x⟩ rest b s' ⟨hb',rfl,vs,ws,eks',hz,hci,hR⟩
   cases vs with
   |nil=>rw[Te]at hz;cases hz
   |cons a vs=>
    cases ws with
    |nil=>rw[Tf]at hz;cases hz
    |cons c ws=>
     rw[Tg]at hz;injection hz with hyx hrest
     injection hyx with hy hx
     subst hy hx;cases eks' with
     |nil=>simp only[ke]at hci
     |cons ek eks'=>
      obtain⟨e,k⟩:=ek;simp only[ke]at hci;obtain⟨he,hk,hci⟩:=hci;refine Pj (he prog w _ _ ?_);cases e with
      |true=>
       have hR':R (.ok (.ret (.bool (k9 (decide (items.size<items2.size)) eks')))) ⟨hp,g,d,tk,os⟩:=hR
       wp_walk
       exact⟨rfl,rfl,_,_,_,hrest,hci rfl,hR'⟩
      |false=>
       have hR':R (.ok (.ret (.bool k))) ⟨hp,g,d,tk,os⟩:=hR;have hri:=hk rfl prog w
       wp_walk using hri
       exact⟨_,rfl,by simpa using hR'⟩
  case fin=>
   rintro⟨b1,b2⟩ s' ⟨hb',rfl,vs,ws,eks',hz,hci,hR⟩
   simp only at hb';subst hb'
   have hv:eks'=[]:=by
    cases vs with
    |nil=>cases eks' with
     |nil=>rfl
     |cons _ _=>simp only[ke]at hci
    |cons a vs=>cases ws with
     |nil=>cases eks' with
      |nil=>rfl
      |cons _ _=>simp only[ke]at hci
     |cons c ws=>rw[Tg]at hz;cases hz
   subst hv;have hR':R (.ok (.ret (.bool (decide (items.size<items2.size))))) ⟨hp,g,d,tk,os⟩:=hR
   wp_walk
   exact⟨_,rfl,by simpa[Builtin.Tuple.tupleCompareSizes] using hR'⟩
  case h=>
   exact⟨rfl,rfl,items.toList,items2.toList,eks,rfl,hc,h⟩
theorem Kj{w:World}{items items2:Array Value}(hl:IsTup s.heap l items)(hb:IsTup s.heap b items2)(hc:ke .Lt A.in1 s items.toList items2.toList eks)(hu:A.units<cLine)(h:Q (.bool (k9 (decide (items.size<items2.size)) eks)) s):wpAny (model prog w) A (richCompare .Lt (.ref l) (.ref b)) Q E s:=by
 obtain⟨⟨cls,dd,data,sl⟩,ho,hc',n,hd⟩:=id hl;obtain⟨⟨cls2,dd2,data2,sl2⟩,ho2,hc2,n2,hd2⟩:=id hb;simp only at hc' hd hc2 hd2;subst hc' hd hc2 hd2
 exact richCompare_meets_room (op:=.Lt) ⟨_,ho,rfl⟩ ⟨_,ho2,rfl⟩ PySem.F.slot_tuple_lt PySem.F.entry_tuple_lt (PySem.F.args_tuple_lt_2 _ _) (vv l b items items2 n n2 dd dd2 sl sl2 eks)
  ⟨ho,ho2,hc,show Value.bool (k9 (decide (items.size<items2.size)) eks)≠Value.notImplemented/\Q (.bool (k9 (decide (items.size<items2.size)) eks)) s from⟨(fun x=>nomatch x),h⟩⟩ hu
theorem vw(l b:Addr)(items items2:Array Value)(n n2:Nat)(dd dd2:Option Addr)(sl sl2:Array (Option Value))(eks:List (Bool×Bool)) :
  Meets (Builtin.«tuple.__le__» ⟨[.ref l,.ref b],[]⟩)
   (fun A R s => s.heap.get? l = some { cls := .type "tuple", dict := dd, data := .seq items n, slots := sl } /\ s.heap.get? b = some { cls := .type "tuple", dict := dd2, data := .seq items2 n2, slots := sl2 } /\
    ke .LtE A.in1 s items.toList items2.toList eks/\R (.ok (.ret (.bool (k9 (decide (items.size<=items2.size)) eks)))) s):=
 .of_wp fun prog w A R s h=>by
  obtain⟨hp,g,d,tk,os⟩:=s;obtain⟨hl,hb,hc,h⟩:=h;have f2:=AutoSeq1.sub_tuple_tuple
  wp_walk using wpAny_loadPart' hl,wpAny_loadPart' hb,RR _ (fun rest b s'=>b.1=none/\s'=⟨hp,g,d,tk,os⟩/\∃(vs ws:List Value)(eks':List (Bool×Bool)),rest=vs.zip ws /\
   ke .LtE A.in1 ⟨hp,g,d,tk,os⟩ vs ws eks'/\R (.ok (.ret (.bool (k9 (decide (items.size<=items2.size)) eks')))) ⟨hp,g,d,tk,os⟩) _
  case turn=>
   rintro⟨y,x⟩ rest b s' ⟨hb',rfl,vs,ws,eks',hz,hci,hR⟩
   cases vs with
   |nil=>rw[Te]at hz;cases hz
   |cons a vs=>
    cases ws with
    |nil=>rw[Tf]at hz;cases hz
    |cons c ws=>
     rw[Tg]at hz;injection hz with hyx hrest
     injection hyx with hy hx
     subst hy hx;cases eks' with
     |nil=>simp only[ke]at hci
     |cons ek eks'=>
      obtain⟨e,k⟩:=ek;simp only[ke]at hci;obtain⟨he,hk,hci⟩:=hci;refine Pj (he prog w _ _ ?_);cases e with
      |true=>
       have hR':R (.ok (.ret (.bool (k9 (decide (items.size<=items2.size)) eks')))) ⟨hp,g,d,tk,os⟩:=hR
       wp_walk
       exact⟨rfl,rfl,_,_,_,hrest,hci rfl,hR'⟩
      |false=>
       have hR':R (.ok (.ret (.bool k))) ⟨hp,g,d,tk,os⟩:=hR;have hri:=hk rfl prog w
       wp_walk using hri
       exact⟨_,rfl,by simpa using hR'⟩
  case fin=>
   rintro⟨b1,b2⟩ s' ⟨hb',rfl,vs,ws,eks',hz,hci,hR⟩
   simp only at hb';subst hb'
   have hv:eks'=[]:=by
    cases vs with
    |nil=>cases eks' with
     |nil=>rfl
     |cons _ _=>simp only[ke]at hci
    |cons a vs=>cases ws with
     |nil=>cases eks' with
      |nil=>rfl
      |cons _ _=>simp only[ke]at hci
     |cons c ws=>rw[Tg]at hz;cases hz
   subst hv;have hR':R (.ok (.ret (.bool (decide (items.size<=items2.size))))) ⟨hp,g,d,tk,os⟩:=hR
   wp_walk
   exact⟨_,rfl,by simpa[Builtin.Tuple.tupleCompareSizes] using hR'⟩
  case h=>
   exact⟨rfl,rfl,items.toList,items2.toList,eks,rfl,hc,h⟩
theorem Ko{w:World}{items items2:Array Value}(hl:IsTup s.heap l items)(hb:IsTup s.heap b items2)(hc:ke .LtE A.in1 s items.toList items2.toList eks)(hu:A.units<cLine)(h:Q (.bool (k9 (decide (items.size<=items2.size)) eks)) s):wpAny (model prog w) A (richCompare .LtE (.ref l) (.ref b)) Q E s:=by
 obtain⟨⟨cls,dd,data,sl⟩,ho,hc',n,hd⟩:=id hl;obtain⟨⟨cls2,dd2,data2,sl2⟩,ho2,hc2,n2,hd2⟩:=id hb;simp only at hc' hd hc2 hd2;subst hc' hd hc2 hd2
 exact richCompare_meets_room (op:=.LtE) ⟨_,ho,rfl⟩ ⟨_,ho2,rfl⟩ PySem.F.slot_tuple_le PySem.F.entry_tuple_le (PySem.F.args_tuple_le_2 _ _) (vw l b items items2 n n2 dd dd2 sl sl2 eks)
  ⟨ho,ho2,hc,show Value.bool (k9 (decide (items.size<=items2.size)) eks)≠Value.notImplemented/\Q (.bool (k9 (decide (items.size<=items2.size)) eks)) s from⟨(fun x=>nomatch x),h⟩⟩ hu
end L2
namespace L2
open PySem PySem.Spec PyProof.Rows RS
def fq:CmpOp->Int->Int->Bool
 |.Lt,i,j=>decide (i<j)
 |.LtE,i,j=>decide (i<=j)
 |.Gt,i,j=>decide (i>j)
 |.GtE,i,j=>decide (i ≥ j)
 |_,_,_=>false
def E7:CmpOp->Bool
 |.Lt=>true
 |.LtE=>true
 |_=>false
mutual
def iy(op:CmpOp):PyData->PyData->Option Bool
 |.int i,.int j=>some (fq op i j)
 |.tuple xs,.tuple ys=>if E7 op=true then cmpPs op xs ys else none
 |_,_=>none
def cmpPs(op:CmpOp):List PyData->List PyData->Option Bool
 |[],ys=>some (fq op 0 ys.length)
 |_::xs,[]=>some (fq op (xs.length+1) 0)
 |x::xs,y::ys=>if PyData.eqv x y=true then cmpPs op xs ys else iy op x y
end
def wm:CmpOp->Bool
 |.Lt | .LtE | .Gt | .GtE=>true
 |_=>false
theorem Md:∀{op:CmpOp}(ho:wm op=true){A:Around}{s:Shared}(a:Int)(t:Tok)(c:Int)(u:Tok),E9 op A s (.int a t) (.int c u) (fq op a c)
 |.Lt,_,A,s,a,t,c,u=>fun prog w E Q h=>(PyProof.Rows.lt_int h:wpAny (model prog w) A (compareOp .Lt (.int a t) (.int c u)) Q E s)
 |.LtE,_,A,s,a,t,c,u=>fun prog w E Q h=>(PyProof.Rows.le_int h:wpAny (model prog w) A (compareOp .LtE (.int a t) (.int c u)) Q E s)
 |.Gt,_,A,s,a,t,c,u=>fun prog w E Q h=>(PyProof.Rows.gt_int h:wpAny (model prog w) A (compareOp .Gt (.int a t) (.int c u)) Q E s)
 |.GtE,_,A,s,a,t,c,u=>fun prog w E Q h=>(PyProof.Rows.ge_int h:wpAny (model prog w) A (compareOp .GtE (.int a t) (.int c u)) Q E s)
theorem zq(i j:Nat):fq op ((i+1:Nat):Int) ((j+1:Nat):Int)=fq op (i:Int) (j:Int):=by
 cases op <;> first|rfl|(unfold fq;simp)
theorem Mc:∀{op:CmpOp}(ho:E7 op=true){A:Around}{s:Shared}{l b:Addr}{items items2:Array Value}{eks:List (Bool×Bool)}(hl:IsTup s.heap l items)(hb:IsTup s.heap b items2)(hc:ke op A.in1 s items.toList items2.toList eks)
  (hu:A.units<cLine),E9 op A s (.ref l) (.ref b) (k9 (fq op items.size items2.size) eks)
 |.Lt,_,A,s,l,b,items,items2,eks,hl,hb,hc,hu=>fun prog w E Q h=>Kj hl hb hc hu (by
   have e:decide (items.size<items2.size)=fq .Lt items.size items2.size:=by (unfold fq;simp)
   rw[e];exact h)
 |.LtE,_,A,s,l,b,items,items2,eks,hl,hb,hc,hu=>fun prog w E Q h=>Ko hl hb hc hu (by
   have e:decide (items.size<=items2.size)=fq .LtE items.size items2.size:=by (unfold fq;simp)
   rw[e];exact h)
mutual
theorem wY{op:CmpOp}(ho:wm op=true):∀(da db:PyData)(A:Around)(s:Shared)(a b:Value)(as bs:List Addr)(k:Bool),Reads s.heap a da as->Reads s.heap b db bs->da.canLay0=true->db.canLay0=true ->
  A.units+min da.depth db.depth<cLine->iy op da db=some k->E9 op A s a b k
 |.int i,.int j,A,s,_,_,_,_,k,ra,rb,_,_,hu,hk=>by
  cases ra;cases rb;simp only[iy]at hk;cases hk;exact Md ho _ _ _ _
 |.tuple xs,.tuple ys,A,s,_,_,_,_,k,ra,rb,ha,hb,hu,hk=>by
  simp only[iy]at hk
  have hlt:E7 op=true:=by
   cases z:E7 op with
   |true=>rfl
   |false=>rw[z,OT PD]at hk;cases hk
  rw[OS hlt]at hk;cases ra with
  | @tuple l o vs n _ as₁ h1 h2 h3 h4=>
   cases rb with
   | @tuple l' o' vs' n' _ bs₁ k1 k2 k3 k4=>
    have n1:vs.size=xs.length:=by simpa using SeqAt.ReadsAll.length _ _ _ h4
    have n2:vs'.size=ys.length:=by simpa using SeqAt.ReadsAll.length _ _ _ k4
    obtain⟨eks,e1,e2⟩:=rc_readsAll ho xs ys A.in1 s vs.toList vs'.toList _ _ k h4 k4 (by simpa[PyData.canLay0] using ha) (by simpa[PyData.canLay0] using hb) (SeqAt.room_in hu) hk;have:=Mc hlt (A:=A) (s:=s) (l:=l) (b:=l') (items:=vs) (items2:=vs') (eks:=eks) ⟨_,h1,h2,_,h3⟩ ⟨_,k1,k2,_,k3⟩ e1 (SeqAt.room_here hu);rw[n1,n2,e2]at this;exact this
 |.none,_,_,_,_,_,_,_,_,_,_,_,_,_,hk=>by simp only[iy]at hk;cases hk
 |.bool _,_,_,_,_,_,_,_,_,_,_,_,_,_,hk=>by simp only[iy]at hk;cases hk
 |.str _,_,_,_,_,_,_,_,_,_,_,_,_,_,hk=>by simp only[iy]at hk;cases hk
 |.list _,_,_,_,_,_,_,_,_,_,_,_,_,_,hk=>by simp only[iy]at hk;cases hk
 |.dict _,_,_,_,_,_,_,_,_,_,_,_,_,_,hk=>by simp only[iy]at hk;cases hk
 |.int _,.none,_,_,_,_,_,_,_,_,_,_,_,_,hk=>by simp only[iy]at hk;cases hk
 |.int _,.bool _,_,_,_,_,_,_,_,_,_,_,_,_,hk=>by simp only[iy]at hk;cases hk
 |.int _,.str _,_,_,_,_,_,_,_,_,_,_,_,_,hk=>by simp only[iy]at hk;cases hk
 |.int _,.list _,_,_,_,_,_,_,_,_,_,_,_,_,hk=>by simp only[iy]at hk;cases hk
 |.int _,.tuple _,_,_,_,_,_,_,_,_,_,_,_,_,hk=>by simp only[iy]at hk;cases hk
 |.int _,.dict _,_,_,_,_,_,_,_,_,_,_,_,_,hk=>by simp only[iy]at hk;cases hk
 |.tuple _,.none,_,_,_,_,_,_,_,_,_,_,_,_,hk=>by simp only[iy]at hk;cases hk
 |.tuple _,.bool _,_,_,_,_,_,_,_,_,_,_,_,_,hk=>by simp only[iy]at hk;cases hk
 |.tuple _,.int _,_,_,_,_,_,_,_,_,_,_,_,_,hk=>by simp only[iy]at hk;cases hk
 |.tuple _,.str _,_,_,_,_,_,_,_,_,_,_,_,_,hk=>by simp only[iy]at hk;cases hk
 |.tuple _,.list _,_,_,_,_,_,_,_,_,_,_,_,_,hk=>by simp only[iy]at hk;cases hk
 |.tuple _,.dict _,_,_,_,_,_,_,_,_,_,_,_,_,hk=>by simp only[iy]at hk;cases hk
theorem rc_readsAll{op:CmpOp}(ho:wm op=true):∀(xs ys:List PyData)(A:Around)(s:Shared)(vs ws:List Value)(as bs:List Addr)(k:Bool),ReadsAll s.heap vs xs as->ReadsAll s.heap ws ys bs->PyData.canLayAll0 xs=true->PyData.canLayAll0 ys=true ->
  A.units+min (PyData.depthAll xs) (PyData.depthAll ys)<cLine->cmpPs op xs ys=some k->∃eks,ke op A s vs ws eks/\k9 (fq op (xs.length:Nat) (ys.length:Nat)) eks=k
 |[],ys,A,s,_,_,_,_,k,ra,rb,_,_,_,hk=>by
  cases ra;simp only[cmpPs]at hk;cases hk;exact⟨[],by unfold ke;trivial,rfl⟩
 |x::xs,[],A,s,_,_,_,_,k,ra,rb,_,_,_,hk=>by
  cases rb;simp only[cmpPs]at hk;cases hk;cases ra;refine⟨[],by unfold ke;trivial,?_⟩;simp[k9]
 |x::xs,y::ys,A,s,_,_,_,_,k,ra,rb,ha,hb,hu,hk=>by
  have ha':x.canLay0=true/\PyData.canLayAll0 xs=true:=by simpa[PyData.canLayAll0] using ha
  have hb':y.canLay0=true/\PyData.canLayAll0 ys=true:=by simpa[PyData.canLayAll0] using hb
  cases ra with
  |cons r rs=>
   cases rb with
   |cons r' rs'=>
    have he:=SeqAt.eqAt_reads x y A s _ _ _ _ r r' ha'.1 hb'.1 (SeqAt.room_head hu);simp only[cmpPs]at hk;cases e:PyData.eqv x y with
    |true=>
     rw[OS e]at hk;rw[e]at he;obtain⟨eks,e1,e2⟩:=rc_readsAll ho xs ys A s _ _ _ _ k rs rs' ha'.2 hb'.2 (SeqAt.room_tail hu) hk;refine⟨(true,false)::eks,⟨he,fun z=>(by cases z),fun _=>e1⟩,?_⟩;show k9 (fq op ((xs.length+1:Nat):Int) ((ys.length+1:Nat):Int)) eks=k;rw[zq];exact e2
    |false=>
     rw[OT (by rw[e];exact PD)]at hk;rw[e]at he;refine⟨[(false,k)],⟨he,fun _=>wY ho x y A s _ _ _ _ k r r' ha'.1 hb'.1 (SeqAt.room_head hu) hk,fun z=>(by cases z)⟩,rfl⟩
end
def CB(K:W.Frag)(op:CmpOp):R2:=fun x y H Q=>∃a b k,ot K H a x/\ot K H b y/\eS a=true/\eS b=true/\iy op a b=some k/\Q (.bl k) H
theorem Gs{X:Cx}(hu:X.A.units+64<cLine):∀{op:CmpOp},wm op=true->iJ X (compareOp op) (CB X.K op):=by
 intro op ho pins s B H x y v u Q I rx ry h;obtain⟨a,b,k,h1,h2,h3,h4,h5,q⟩:=h;obtain⟨as,r1⟩:=eX I a x v h1 rx;obtain⟨bs,r2⟩:=eX I b y u h2 ry;have:=wY ho a b X.A s v u as bs k r1 r2 (cQ h3) (cQ h4) (oR h3 hu) h5 X.prog X.w X.xe (EP X pins B Q) ⟨.bl k,H,I,rfl,q⟩
 cases op <;> first
  |exact absurd ho (by decide)
  |exact this
def il(op:CmpOp)(a b:D)(Y:au):ai D:=match mw Y a,mw Y b with
 |some p,some q=>if eS p=true/\eS q=true then (match iy op p q with|some k=>.ok (.bl k) Y|none=>.bad) else .bad
 |_,_=>.bad
theorem Kd:qd p (il op) (CB p.K op):=by
 intro a b v y H Z Y Q S ra rb P;unfold il at P;split at P
 ·rename_i x z hx hz;split at P
  ·rename_i hf;split at P
   ·rename_i k hk;exact⟨x,z,k,oD S hx ra,oD S hz rb,hf.1,hf.2,hk,P.now S _ (aU.mpr rfl)⟩
   ·exact P.elim
  ·exact P.elim
 ·exact P.elim
def dI(g:Int->Int->D)(a b:D)(Y:au):ai D:=match a,b with
 |.int i,.int j=>.ok (g i j) Y
 |_,_=>.bad
open Classical in
def EX(C:Int->Int->Prop)(g:Int->Int->D)(a b:D)(Y:au):ai D:=match a,b with
 |.int i,.int j=>if C i j then .ok (g i j) Y else .bad
 |_,_=>.bad
section
theorem NT{g:Int->Int->V}(h:∀i j H Z,p.R H Z (gd i j) (g i j)):qd p (dI gd) (Li g):=by
 intro a b v y H Z Y Q S ra rb P;unfold dI at P;split at P
 ·rename_i i j;exact⟨i,j,az.mp ra,az.mp rb,P.now S _ (h i j H Z)⟩
 ·exact P.elim
theorem CI{g:Int->Int->V}(h:∀i j H Z,p.R H Z (gd i j) (g i j)):qd p (EX C gd) (rI C g):=by
 intro a b v y H Z Y Q S ra rb P;unfold EX at P;split at P
 ·rename_i i j;split at P
  ·rename_i hc;exact⟨i,j,az.mp ra,az.mp rb,hc,P.now S _ (h i j H Z)⟩
  ·exact P.elim
 ·exact P.elim
def nt(a:D)(Y:au):ai D:=match a with
 |.int i=>.ok (.int (-i)) Y
 |_=>.bad
theorem Kf:Ot p nt (rU fun i=>.int (-i)):=by
 intro a v H Z Y Q S ra P;unfold nt at P;split at P
 ·rename_i i;exact⟨i,az.mp ra,P.now S _ (az.mpr rfl)⟩
 ·exact P.elim
def HG(K:W.Frag):R2:=fun x y H Q=>∃a b xs ys,x=.ref a/\y=.ref b/\gr K H a xs/\gr K H b ys/\xs.length+ys.length<=sizeLine /\
 (xs=[]->Q (.ref b) H)/\(xs≠[]->ys=[]->Q (.ref a) H)/\(xs≠[]->ys≠[]->∀p,H p=none->Q (.ref p) (dk H p (.tup (xs++ys))))
theorem EF{w:World}{t:Addr}{ws:List Value}(ht:IsTup s.heap t #[])(hb:IsTup s.heap b ws.toArray)(h0:Q (.ref b) s):wpAny (model prog w) A (binaryOp .Add (.ref t) (.ref b)) Q E s:=by
 obtain⟨⟨cls,dd,data,sl⟩,ho,hc,n,hd⟩:=id ht;obtain⟨⟨cls2,dd2,data2,sl2⟩,ho2,hc2,n2,hd2⟩:=id hb;simp only at hc hd hc2 hd2;subst hc hd hc2 hd2
 exact concat_meets ⟨_,ho,rfl⟩ ⟨_,ho2,rfl⟩ Qf seq_tuple_add Qg Qh (Qi _ _)
  (tuple_addW0 t b #[] ws.toArray n n2 dd dd2 sl sl2 (by simp)) ⟨ho,ho2,h0⟩
theorem Gv{X:Cx}:iJ X (binaryOp .Add) (HG X.K):=by
 intro pins s B H x y v u Q I rx ry h;obtain⟨a,b,xs,ys,rfl,rfl,ha,hb,hz,q0,q1,q2⟩:=h;by_cases hx:xs=[]
 ·cases rx;cases ry;obtain⟨its,r1,p1,_⟩:=I.tuple ha;obtain⟨its2,r2,p2,_⟩:=I.tuple hb;subst hx;cases r1;exact EF p1 p2 ⟨.ref b,H,I,rfl,q0 rfl⟩
 ·exact Gu pins s B H (.ref a) (.ref b) v u Q I rx ry ⟨a,b,xs,ys,rfl,rfl,ha,hb,hx,hz,q1 hx,q2 hx⟩
def CD(K:W.Frag):R2:=fun x y H Q=>Li (fun i j=>.int (i+j)) x y H Q\/HG K x y H Q\/LF x y H Q\/(∃i j,x=.str i/\y=.str j/\i.length+j.length<=sizeLine/\Q (.str (i++j)) H)
theorem Gw{X:Cx}:iJ X (binaryOp .Add) (CD X.K):=J1.or (Gv.or (J0.or y6))
def bN(a b:D)(Y:au):ai D:=match a,b with
 |.int i,.int j=>.ok (.int (i+j)) Y
 |.str x,.str y=>if x.length+y.length<=sizeLine then .ok (.str (x++y)) Y else .bad
 |.tup xs,.tup ys=>if xs.length+ys.length<=sizeLine then .ok (.tup (xs++ys)) Y else .bad
 |.obj m,.obj n=>match Y[m]?,Y[n]? with
  |some (.lst xs),some (.lst ys)=>if xs.length+ys.length<=sizeLine then .ok (.obj Y.length) (Y++[.lst (xs++ys)]) else .bad
  |_,_=>.bad
 |_,_=>.bad
theorem dh(S:p.S H Z Y)(r:p.R H Z (.obj n) v)(hx:Y[n]?=some (.lst xs)):∃a us,v=.ref a/\Z[n]?=some a/\H a=some (.lst us)/\p.Rs H Z xs us:=by
 obtain⟨a,ea,us,hH,rr⟩:=S.at hx;obtain⟨a',rfl,ea'⟩:=aX.mp r;rw[ea]at ea';cases ea';exact⟨a,us,rfl,ea,hH,rr⟩
theorem Reps.nil_iff'(r:Reps K H Z xs vs):vs=[]↔xs=[]:=by
 have:=r.length;constructor
 ·intro h;subst h;simp at this;exact Th this.symm
 ·intro h;subst h;simp at this;exact this
theorem Ke:qd p bN (CD p.K):=by
 intro a b v y H Z Y Q S ra rb P;unfold bN at P;split at P
 ·rename_i i j;exact .inl ⟨i,j,az.mp ra,az.mp rb,P.now S _ (az.mpr rfl)⟩
 ·rename_i i j;split at P
  ·rename_i hl;exact .inr (.inr (.inr ⟨i,j,bq.mp ra,bq.mp rb,hl,P.now S _ (bq.mpr rfl)⟩))
  ·exact P.elim
 ·rename_i xs ys;split at P
  ·rename_i hl;obtain⟨a,us,rfl,h1,r1⟩:=aQ.mp ra;obtain⟨b,ws,rfl,h2,r2⟩:=aQ.mp rb;refine .inr (.inl ⟨a,b,us,ws,rfl,rfl,h1,h2,by rw[r1.length,r2.length];exact hl,fun e=>?_,fun _ e=>?_,fun _ _ q hq=>?_⟩)
   ·have ex:=r1.nil_iff'.mp e;subst ex;exact P.now S _ (by simpa using rb)
   ·have ey:=r2.nil_iff'.mp e;subst ey;exact P.now S _ (by simpa using ra)
   ·exact P _ _ (cv hq) (S.tuple hq) _ (aQ.mpr ⟨q,_,rfl,gr.of cP,(r1.append r2).mono (cv hq)⟩)
  ·exact P.elim
 ·rename_i m n;split at P
  ·rename_i xs ys hx hy;split at P
   ·rename_i hl;obtain⟨a,us,rfl,a1,h1,r1⟩:=dh S ra hx;obtain⟨b,ws,rfl,b1,h2,r2⟩:=dh S rb hy;refine .inr (.inr (.inl ⟨a,b,us,ws,rfl,rfl,h1,h2,by rw[r1.length,r2.length];exact hl,fun q hq=>?_⟩));obtain⟨x1,x2,x3⟩:=dN S hq (r1.append r2);exact P _ _ x1 x2 _ x3
   ·exact P.elim
  ·exact P.elim
 ·exact P.elim
def HB:R2:=fun x y H Q=>rI wd (fun i j=>.int (i*j)) x y H Q\/Lx x y H Q
theorem Gq{X:Cx}:iJ X (binaryOp .Mult) HB:=JV.or JS
open Classical in
def mK(a b:D)(Y:au):ai D:=match a,b with
 |.int i,.int j=>if wd i j then .ok (.int (i*j)) Y else .bad
 |.obj m,.int k=>match Y[m]? with
  |some (.lst xs)=>if -(2^63)<=k/\k<2^63/\xs.length*k.toNat<=sizeLine then .ok (.obj Y.length) (Y++[.lst (List.replicate k.toNat xs).flatten]) else .bad
  |_=>.bad
 |_,_=>.bad
theorem Reps.rep{K:W.Frag}{H:Hp}{Z:List Addr}{xs:List D}{vs:List V}(h:Reps K H Z xs vs):∀k:Nat,Reps K H Z (List.replicate k xs).flatten (List.replicate k vs).flatten
 |0=>by simpa using Reps.nil
 |k+1=>by
  rw[QI,QI,QJ,QJ];exact h.append (Reps.rep h k)
theorem Ka:qd p mK HB:=by
 intro a b v y H Z Y Q S ra rb P;unfold mK at P;split at P
 ·rename_i i j;split at P
  ·rename_i hc;exact .inl ⟨i,j,az.mp ra,az.mp rb,hc,P.now S _ (az.mpr rfl)⟩
  ·exact P.elim
 ·rename_i m k;split at P
  ·rename_i xs hx;split at P
   ·rename_i hl;obtain⟨a,us,rfl,a1,h1,r1⟩:=dh S ra hx;refine .inr ⟨a,k,us,rfl,az.mp rb,h1,hl.1,hl.2.1,by rw[r1.length];exact hl.2.2,fun q hq=>?_⟩;obtain⟨x1,x2,x3⟩:=dN S hq (r1.rep k.toNat);exact P _ _ x1 x2 _ x3
   ·exact P.elim
  ·exact P.elim
 ·exact P.elim
def cW(a b:D)(Y:au):ai D:=match a,b with
 |.tup xs,.int i=>match atI xs i with
  |some d=>.ok d Y
  |none=>.bad
 |.frz xs,.int i=>match atI xs i with
  |some d=>.ok d Y
  |none=>.bad
 |.obj n,.int i=>match Y[n]? with
  |some (.lst xs)=>match atI xs i with
   |some d=>.ok d Y
   |none=>.bad
  |_=>.bad
 |_,_=>.bad
theorem Reps.atI{i:Int}(r:Reps K H Z xs vs)(h:L2.atI xs i=some d):∃v,L2.atI vs i=some v/\aS K H Z d v:=by
 unfold L2.atI at h⊢;rw[r.length];cases e:AH xs.length i with
 |none=>rw[e]at h;cases h
 |some j=>rw[e]at h;exact r.get h
theorem Mq:qd p cW (Oq p.K):=by
 intro a b v y H Z Y Q S ra rb P;unfold cW at P;split at P
 ·rename_i xs i;split at P
  ·rename_i d hd;obtain⟨a,us,rfl,h1,r1⟩:=aQ.mp ra;obtain⟨v,hv,rv⟩:=r1.atI hd;exact .inr (.inl ⟨a,us,i,v,rfl,az.mp rb,h1,hv,P.now S _ rv⟩)
  ·exact P.elim
 ·rename_i xs i;split at P
  ·rename_i d hd;obtain⟨a,us,rfl,h1,r1⟩:=bx.mp ra;obtain⟨v,hv,rv⟩:=r1.atI hd;exact .inl ⟨a,us,i,v,rfl,az.mp rb,h1.sq,hv,P.now S _ rv⟩
  ·exact P.elim
 ·rename_i n i;split at P
  ·rename_i xs hx;split at P
   ·rename_i d hd;obtain⟨a,us,rfl,a1,h1,r1⟩:=dh S ra hx;obtain⟨v,hv,rv⟩:=r1.atI hd;exact .inl ⟨a,us,i,v,rfl,az.mp rb,fK.of h1,hv,P.now S _ rv⟩
   ·exact P.elim
  ·exact P.elim
 ·exact P.elim
theorem Ma{X:Cx}{a b:Expr}{fb:ME}(hK:X.K=p.K)(ha:PE X a (tD p fa))(hb:PE X b (tD p fb))(hs:vt b):PE X (.Subscript a b pos) (tD p (aH cW fa fb)):=
 (Ml KB ha hb hs).weak fun B H Q ⟨Z, ρ, Y, S, R, P⟩ => ⟨Z, ρ, Y, S, R, (aP.bind P).imp fun x Y1 H1 Z1 X1 S1 P1 v rv => ⟨Z1, ρ, Y1, S1, R.mono X1, (aP.bind P1).imp fun y Y2 H2 Z2 X2 S2 P2 u ru => by
  rw[hK];exact Mq x y v u H2 Z2 Y2 Q S2 (rv.mono X2) ru P2⟩⟩
theorem mv{w:World}{t:Addr}{items:Array Value}{vu:Value}{hi:Option Int}(ht:IsTup s.heap t items)(hs:s.heap.IsSliceOf sl vl vu .none)(pl:IsPart vl lo)(pu:IsPart vu hi)(hw:HT.sIx items.size 0 lo=0/\HT.sIx items.size items.size hi=items.size)(h:Q (.ref t) s):wpAny (model prog w) A (getItem (.ref t) (.ref sl)) Q E s:=by
 obtain⟨os,hos,hcs,hds⟩:=id hs;have hTs:s.TypeIs (.ref sl) "slice" := ⟨os,hos,hcs⟩;unfold getItem
 try with_reducible refine Pl ?_
 first|refine Pj (Pp ?_)|skip
 refine Pj (Qr ht.typeIs (by decide) ?_)
 refine Pj (Qs (name:=Str.ofString "__getitem__") ht.typeIs Qt
  (Qu Qt ht.typeIs Qv ?_ (Qw _ _)))
 show wpAny _ _ (Builtin.Tuple.tupleItemsOf (.ref t) >>= _) _ _ s;refine Pj (tupleItemsOf_ ht ?_);refine Pj (Qx hTs ?_);rw[OS (by decide)];refine Pj (HT.sliceApplied_gen hs pl pu ?_)
 have hno:(((HT.sIx items.size 0 lo:Nat):Int) == 0&&(1:Int) == 1&&(HT.sIx items.size items.size hi-HT.sIx items.size 0 lo) == items.size)=true:=by
  rw[hw.1,hw.2];simp
 show wpAny _ _ (if (((HT.sIx items.size 0 lo:Nat):Int) == 0&&(1:Int) == 1&&(HT.sIx items.size items.size hi-HT.sIx items.size 0 lo) == items.size)=true then _ else _) _ _ s;rw[OS hno];refine Pj (m:=Builtin.Tuple.tupleIsExact (.ref t)) (Pj (Qx ht.typeIs (Pp ?_)));rw[OS (by decide)];exact Pj (Q3 (Pp ⟨_,rfl,Pp h⟩))
def bX(xs:List β)(lo hi:Option Int):List β:=(xs.drop (HT.sIx xs.length 0 lo)).take (HT.sIx xs.length xs.length hi-HT.sIx xs.length 0 lo)
theorem pS(xs:List β)(lo hi:Option Int):(bX xs lo hi).length<=xs.length:=by
 unfold bX;rw[PU,Qq];omega
theorem zo(xs:List β)(lo hi:Option Int)(h:HT.sIx xs.length 0 lo=0/\HT.sIx xs.length xs.length hi=xs.length):bX xs lo hi=xs:=by
 unfold bX;rw[h.1,h.2];simp
def Hy(K:W.Frag):V->Option Int->Option Int->Hp->VK->Prop:=fun x lo hi H Q=>∃a xs,x=.ref a/\gr K H a xs /\
 (HT.sIx xs.length 0 lo=0/\HT.sIx xs.length xs.length hi=xs.length)/\Q (.ref a) H
theorem FR{X:Cx}:EZ X (Hy X.K):=by
 intro pins s B H x v vl vu lo hi sl Q I rx hs pl pu h;obtain⟨a,xs,rfl,hx,hw,q⟩:=h;cases rx;obtain⟨its,r,ht,hz⟩:=I.tuple hx;have hlen:its.toArray.size=xs.length:=by rw[PH];exact r.length.symm
 refine⟨"tuple",_,Qt.lookup,ht.typeIs,?_⟩;exact mv ht hs pl pu (by rw[hlen];exact hw) ⟨.ref a,H,I,rfl,q⟩
def Lu(K:W.Frag):V->Option Int->Option Int->Hp->VK->Prop:=fun x lo hi H Q=>Lq K x lo hi H Q\/Hy K x lo hi H Q\/Lr K x lo hi H Q
theorem NO{X:Cx}:EZ X (Lu X.K):=Jb.or (FR.or FS)
abbrev MO:=Ro->au->ai (Option Int)
def vU:MO:=fun _ Y=>.ok none Y
def Nd(d:D)(Y:au):ai (Option Int):=match d with
 |.int i=>.ok (some i) Y
 |_=>.bad
def gx(f:ME):MO:=fun ρ Y=>(f ρ Y).bind Nd
def Hm(p:Pa)(f:MO):TO:=fun B H Q=>∃Z ρ Y,p.S H Z Y/\fL p.K H Z ρ B/\aP p H Z (f ρ Y) (fun o _ H' _=>Q o H')
theorem PO.weak{X:Cx}{e:Option Expr}{t t':TO}(h:PO X e t)(k:∀B H Q,t' B H Q->t B H Q):PO X e t':=fun pins s B H Q I q=>h pins s B H Q I (k B H Q q)
theorem FQ{X:Cx}:PO X none (Hm p vU):=Gd.weak fun B H Q ⟨Z,ρ,Y,S,R,P⟩=>P.now S
theorem FP{X:Cx}{f:ME}(h:PE X e (tD p f)):PO X (some e) (Hm p (gx f)):=(Gc h).weak fun B H Q ⟨Z,ρ,Y,S,R,P⟩=>⟨Z,ρ,Y,S,R,(aP.bind P).imp fun d Y1 H1 Z1 X1 S1 P1 v rv=>by
 unfold Nd at P1;split at P1
 ·rename_i i;exact⟨i,az.mp rv,P1.now S1⟩
 ·exact P1.elim⟩
def Cd(a:D)(lo hi:Option Int)(Y:au):ai D:=match a with
 |.tup xs=>.ok (.tup (bX xs lo hi)) Y
 |.frz xs=>.ok (.obj Y.length) (Y++[.lst (bX xs lo hi)])
 |.obj n=>match Y[n]? with
  |some (.lst xs)=>.ok (.obj Y.length) (Y++[.lst (bX xs lo hi)])
  |_=>.bad
 |_=>.bad
def vR(fa:ME)(fl fh:MO):ME:=fun ρ Y=>(fa ρ Y).bind fun a Y1=>(fl ρ Y1).bind fun lo Y2=>(fh ρ Y2).bind fun hi Y3=>Cd a lo hi Y3
theorem Reps.cut'(r:Reps K H Z xs vs)(lo hi:Option Int):Reps K H Z (bX xs lo hi) (v7 vs lo hi):=by
 unfold bX v7;rw[r.length];exact(r.drop _).take _
theorem L7{a:D}{hi:Option Int}{Q:VK}(S:p.S H Z Y)(ra:p.R H Z a v)(P:aP p H Z (Cd a lo hi Y) (RV p Q)):Lu p.K v lo hi H Q:=by
 unfold Cd at P;split at P
 ·rename_i xs;obtain⟨a,us,rfl,h1,r1⟩:=aQ.mp ra;by_cases hw:HT.sIx us.length 0 lo=0/\HT.sIx us.length us.length hi=us.length
  ·refine .inr (.inl ⟨a,us,rfl,h1,hw,?_⟩);rw[r1.length]at hw;rw[zo xs lo hi hw]at P;exact P.now S _ ra
  ·exact .inl ⟨a,us,rfl,h1,hw,fun q hq=>P _ _ (cv hq) (S.tuple hq) _ (aQ.mpr ⟨q,_,rfl,gr.of cP,(r1.cut' lo hi).mono (cv hq)⟩)⟩
 ·rename_i xs;obtain⟨a,us,rfl,h1,r1⟩:=bx.mp ra;refine .inr (.inr ⟨a,us,rfl,h1.sq,fun q hq=>?_⟩);obtain⟨x1,x2,x3⟩:=dN S hq (r1.cut' lo hi);exact P _ _ x1 x2 _ x3
 ·rename_i n;split at P
  ·rename_i xs hx;obtain⟨a,us,rfl,a1,h1,r1⟩:=dh S ra hx;refine .inr (.inr ⟨a,us,rfl,fK.of h1,fun q hq=>?_⟩);obtain⟨x1,x2,x3⟩:=dN S hq (r1.cut' lo hi);exact P _ _ x1 x2 _ x3
  ·exact P.elim
 ·exact P.elim
theorem DQ{X:Cx}{lo hi:Option Expr}{fl fh:MO}{p2:Pos}(hK:X.K=p.K)(he:PE X e (tD p fa))(hl:PO X lo (Hm p fl))(hu:PO X hi (Hm p fh)):PE X (.Subscript e (.Slice lo hi none p2) pos) (tD p (vR fa fl fh)):=
 (D5 NO he hl hu).weak fun B H Q ⟨Z, ρ, Y, S, R, P⟩ => ⟨Z, ρ, Y, S, R, (aP.bind P).imp fun a Y1 H1 Z1 X1 S1 P1 v rv => ⟨Z1, ρ, Y1, S1, R.mono X1, (aP.bind P1).imp fun l Y2 H2 Z2 X2 S2 P2 => ⟨Z2, ρ, Y2, S2, (R.mono X1).mono X2, (aP.bind P2).imp fun h Y3 H3 Z3 X3 S3 P3 => by
  rw[hK];exact L7 S3 ((rv.mono X2).mono X3) P3⟩⟩⟩
theorem lO{β γ:Type}{f:β->Option γ}{g:β->γ}:∀{l:List β},(∀m∈l,f m=some (g m))->l.filterMap f=l.map g
 |[],_=>rfl
 |x::r,h=>by rw[O2,h x O3,QC,lO fun m hm=>h m (O4 _ hm)]
theorem w9(xs:Array Value):((List.range xs.size).filterMap fun(m:Nat)=>xs[(((xs.size:Int)-1)+(m:Int)*(-1)).toNat]?).toArray=xs.toList.reverse.toArray:=by
 congr 1;apply Ss;intro i
 have hf:∀m∈List.range xs.size,xs[(((xs.size:Int)-1)+(m:Int)*(-1)).toNat]?=some (xs.toList.reverse.getD m .none):=by
  intro m hm;have hm':m<xs.size:=by simpa using hm
  have e:(((xs.size:Int)-1)+(m:Int)*(-1)).toNat=xs.size-1-m:=by omega
  rw[e,Sr,List.getElem?_reverse (by simpa using hm')];have h2:xs.size-1-m<xs.size:=by omega
  rw[RO h2];simp[Pg,h2]
 rw[lO hf];by_cases hi:i<xs.size
 ·rw[P0,Su hi];simp only[Option.map_some];rw[Sr,SK (by simpa using hi)];rfl
 ·rw[Sv (by simpa using hi),Sv (by simpa using hi)]
theorem pf{w:World}{t:Tok}{Q:Int×Int×Nat->Shared->Prop}(hs:s.heap.IsSliceOf sl .none .none (.int (-1) t))(h:Q ((n:Int)-1,-1,n) s):wpAny (model prog w) A (Builtin.Slice.sliceApplied (.ref sl) (pure (n:Int))) Q E s:=by
 obtain⟨os,hos,hcs,hds⟩:=id hs;unfold Builtin.Slice.sliceApplied Builtin.Slice.sliceFields;refine Pj (Pj (Qo hos hds (x:=.none) rfl (Pj (Qo hos hds (x:=.none) rfl (Pj (Qo hos hds (x:=.int (-1) t) rfl (Pp ?_)))))));refine Pj (slicePart_int ?_);show wpAny _ _ (if ((-1:Int) == 0)=true then _ else _) _ _ s;rw[OT (by decide)];refine Pj (Qn (Pj (Qn (Pj (Pp ?_)))));show wpAny _ _ (match Builtin.Slice.sliceAdjust none none (-1) (n:Int) with|(lo,hi)=>pure (lo,(-1:Int),Builtin.Slice.slicePlaces lo hi (-1))) _ _ s;have e:Builtin.Slice.sliceAdjust none none (-1) (n:Int)=((n:Int)-1,-1):=by unfold Builtin.Slice.sliceAdjust;simp
 rw[e];show wpAny _ _ (pure ((n:Int)-1,(-1:Int),Builtin.Slice.slicePlaces ((n:Int)-1) (-1) (-1))) _ _ s
 have e2:Builtin.Slice.slicePlaces ((n:Int)-1) (-1) (-1)=n:=by
  unfold Builtin.Slice.slicePlaces;rw[OT (by decide)];split <;> simp <;> omega
 rw[e2];exact Pp h
theorem om{w:World}{t:Addr}{items:Array Value}(ht:IsTup s.heap t items)(hs:s.heap.IsSliceOf sl .none .none (.int (-1) tk))(h:Q (.ref s.heap.objs.size) {s with heap:=s.heap.push {cls:=.type "tuple",data:=.seq items.toList.reverse.toArray}})(hsz:items.size<=sizeLine):wpAny (model prog w) A (getItem (.ref t) (.ref sl)) Q E s:=by
 have htake:sizeOk (.seq items.toList.reverse.toArray):=by
  show items.toList.reverse.toArray.size<=sizeLine;simpa using hsz
 obtain⟨os,hos,hcs,hds⟩:=id hs;have hTs:s.TypeIs (.ref sl) "slice" := ⟨os,hos,hcs⟩;unfold getItem
 try with_reducible refine Pl ?_
 first|refine Pj (Pp ?_)|skip
 refine Pj (Qr ht.typeIs (by decide) ?_)
 refine Pj (Qs (name:=Str.ofString "__getitem__") ht.typeIs Qt
  (Qu Qt ht.typeIs Qv ?_ (Qw _ _)))
 show wpAny _ _ (Builtin.Tuple.tupleItemsOf (.ref t) >>= _) _ _ s;refine Pj (tupleItemsOf_ ht ?_);refine Pj (Qx hTs ?_);rw[OS (by decide)];refine Pj (pf hs ?_);show wpAny _ _ (if (((items.size:Int)-1) == 0&&(-1:Int) == 1&&items.size == items.size)=true then _ else _) _ _ s;rw[OT (by simp),w9]
 first
  |exact Pj (m:=Builtin.Tuple.tupleExact _) (QA (Pp ⟨_,rfl,Pp h⟩) htake)
  |exact Pj (m:=Builtin.Tuple.tupleExact _) (QA (Pj (Pp (Pp ⟨_,rfl,Pp h⟩))) htake)
  |exact Pj (Pj (m:=Builtin.Tuple.tupleExact _) (QA (Pp (Pp ⟨_,rfl,Pp h⟩)) htake))
  |exact Pj (Pj (m:=Builtin.Tuple.tupleExact _) (QA (Pp ⟨_,rfl,Pp h⟩) htake))
end
inductive Cb(K:W.Frag)(H:Hp):V->String->Prop where
 |non:Cb K H .non "NoneType"
 |bl (x:Bool):Cb K H (.bl x) "bool"
 |int (i:Int):Cb K H (.int i) "int"
 |str (x:Str):Cb K H (.str x) "str"
 |lst {a:Addr}{xs:List V} (e:fK K H a xs):Cb K H (.ref a) "list"
 |tup {a:Addr}{xs:List V} (e:gr K H a xs):Cb K H (.ref a) "tuple"
 |dic {a:Addr}{kvs:List (sU×V)} (e:H a=some (.dK kvs)):Cb K H (.ref a) "dict"
def lg (tn T:String):Bool:=tn == T || (tn == "bool" && T == "int")
def uW:List String:=["NoneType", "bool", "int", "str", "list", "tuple", "dict"]
theorem Ks:∀tn∈uW,∀T∈["int", "bool", "tuple", "list", "str", "dict"],W.kitOne K (.type tn) (.type T)=some (lg tn T):=by
 intro tn h1 T h2;simp only[uW,O5,Sg,Sh]at h1 h2;rcases h1 with rfl|rfl|rfl|rfl|rfl|rfl|rfl <;> rcases h2 with rfl|rfl|rfl|rfl|rfl|rfl <;> rfl
theorem Cb.mem{x:V}(h:Cb K H x tn):tn∈uW:=by
 cases h <;> decide
section
variable{X:Cx}
theorem KD{c:Value}{b:Bool}{x:V}(I:aZ X pins B H s)(rx:cx x u)(ty:Cb X.K H x tn)(e:W.kitOne X.K (.type tn) c=some b)(h:∀tk,Q (.bool b) {s with toks:=tk}):
  wpAny (model X.prog X.w) A (call (.builtin "isinstance") [u,c]) Q E s:=by
 cases ty with
 |non=>cases (show u=Value.none from rx);exact W.kia_one W.kitx_none I.kIn True.intro e (fun z=>nomatch z) h
 |bl y=>cases (show u=Value.bool y from rx);exact W.kia_one W.kitx_bool I.kIn True.intro e (fun z=>nomatch z) h
 |int i=>obtain⟨t,q⟩:=(show ∃t,u=Value.int i t from rx);cases q;exact W.kia_one W.kitx_int I.kIn True.intro e (fun z=>nomatch z) h
 |str y=>obtain⟨t,q⟩:=(show ∃t,u=Value.str y t from rx);cases q;exact W.kia_one W.kitx_str I.kIn True.intro e (fun z=>nomatch z) h
 | @lst a xs ea=>
  cases (show u=Value.ref a from rx);obtain⟨its,_,⟨o,n,h1,h2,_⟩,_⟩:=I.list ea;exact W.kia_one W.kitx_list I.kIn ⟨o,h1,h2⟩ e (fun z=>nomatch z) h
 | @tup a xs ea=>
  cases (show u=Value.ref a from rx);obtain⟨its,_,⟨o,h1,h2,_⟩,_⟩:=I.tuple ea;exact W.kia_one W.kitx_tuple I.kIn ⟨o,h1,h2⟩ e (fun z=>nomatch z) h
 | @dic a kvs ea=>
  cases (show u=Value.ref a from rx);obtain⟨_,_,vs,_,p⟩:=(show fJ X.prog X.w H s.heap a (.dK kvs) from I.hok a _ ea);obtain⟨o,es,ep,h1,h2,_⟩:=p;exact W.kia_one W.kitx_dict I.kIn ⟨o,h1,h2.1⟩ e (fun z=>nomatch z) h
def LB(K:W.Frag):List V->Hp->VK->Prop:=fun xs H Q=>∃x T tn b,xs=[x,.ty T]/\Cb K H x tn/\W.kitOne K (.type tn) (.type T)=some b/\Q (.bl b) H
theorem EI:cY X (.builtin "isinstance") (LB X.K):=by
 intro pins s B H xs us Q I r h;obtain⟨x,T,tn,b,rfl,ty,e,q⟩:=h;obtain⟨u,u2,rfl,ru,ru2⟩:=zL r;cases ru2;exact KD I ru ty e fun tk=>⟨.bl b,H,I.tok _,rfl,q⟩
end
def vQ(Y:au):D->Option String
 |.non=>some "NoneType"
 |.bl _=>some "bool"
 |.int _=>some "int"
 |.str _=>some "str"
 |.tup _=>some "tuple"
 |.frz _=>some "list"
 |.obj n=>match Y[n]? with
  |some (.lst _)=>some "list"
  |some .dic=>some "dict"
  |_=>none
theorem IE(S:p.S H Z Y)(r:p.R H Z d v)(h:vQ Y d=some tn):Cb p.K H v tn:=by
 cases d with
 |non=>cases h;rw[bL.mp r];exact .non
 |bl b=>cases h;rw[aU.mp r];exact .bl b
 |int b=>cases h;rw[az.mp r];exact .int b
 |str b=>cases h;rw[bq.mp r];exact .str b
 |tup xs=>cases h;obtain⟨a,vs,rfl,h1,_⟩:=aQ.mp r;exact .tup h1
 |frz xs=>cases h;obtain⟨a,vs,rfl,h1,_⟩:=bx.mp r;exact .lst h1.sq
 |obj n=>
  unfold vQ at h;dsimp only at h;split at h
  ·rename_i xs hx;cases h;obtain⟨a,us,rfl,a1,h1,_⟩:=dh S r hx;exact .lst (fK.of h1)
  ·rename_i hx;cases h;obtain⟨a,ea,q⟩:=S.at hx;obtain⟨a',rfl,ea'⟩:=aX.mp r;rw[ea]at ea';cases ea';exact .dic q
  ·cases h
def fm(T:String)(d:D)(Y:au):ai D:=match vQ Y d with
 |some tn=>.ok (.bl (lg tn T)) Y
 |none=>.bad
theorem Jm{X:Cx}{a:Expr}{T:String}{xT:Str}{pt:Pos}(hK:X.K=p.K)(hT:T∈["int", "bool", "tuple", "list", "str", "dict"])(hg:Gl X "isinstance")(hm:X.mg "isinstance" = none)(hgT:Gl X xT)(hmT:X.mg xT=none)(hbT:bootBuiltins xT=some (.type T))(ha:PE X a (tD p fa))(hnT:xT ≠ "__name__")(hdT:(xT == ("__debug__" : Str))=false)(hs1:starEach [a,.Name xT pt] X.env=(false,eval a X.env)::starEach [.Name xT pt] X.env):
  PE X (.Call (.Name "isinstance" px) [a,.Name xT pt] [] pos) (tD p (jE (fm T) fa)):=by
 have hb:PE X (.Name xT pt) (tC (.ty T)):=Aj hgT hmT hbT rfl hnT hdT;refine(nP EI hg hm Ti (kh ha (kh hb uQ rfl) hs1) (by decide) (by decide) hs1 rfl).weak fun B H Q ⟨Z,ρ,Y,S,R,P⟩=>⟨Z,ρ,Y,S,R,(aP.bind P).imp fun d Y1 H1 Z1 X1 S1 P1 v rv=>?_⟩;show LB X.K [v,.ty T] H1 Q;unfold fm at P1;split at P1
 ·rename_i tn htn;have ty:=IE S1 rv htn;rw[hK];exact⟨v,T,tn,_,rfl,ty,Ks tn ty.mem T hT,P1.now S1 _ (aU.mpr rfl)⟩
 ·exact P1.elim
def kf:List D->Option (List Bool)
 |[]=>some []
 |.bl b::r=>(kf r).map (b::·)
 |_::_=>none
theorem mW:∀{ds:List D}{bs:List Bool},kf ds=some bs->ds=bs.map D.bl
 |[],bs,h=>by cases h;rfl
 |.bl b::r,bs,h=>by
  unfold kf at h;cases e:kf r with
  |none=>rw[e]at h;cases h
  |some cs=>rw[e]at h;cases h;rw[mW e];rfl
 |.non::r,bs,h=>by cases h
 |.int _::r,bs,h=>by cases h
 |.str _::r,bs,h=>by cases h
 |.tup _::r,bs,h=>by cases h
 |.frz _::r,bs,h=>by cases h
 |.obj _::r,bs,h=>by cases h
theorem σ6(bs:List Bool):kf (bs.map D.bl)=some bs:=by
 induction bs with
 |nil=>rfl
 |cons b r ih=>simp only[QC,kf,ih];rfl
theorem Reps.bools{K:W.Frag}{H:Hp}{Z:List Addr}:∀{bs:List Bool}{vs:List V},Reps K H Z (bs.map D.bl) vs->vs=bs.map V.bl
 |[],vs,h=>by simp only[QB,Reps]at h;exact h
 |n::ns,vs,h=>by
  simp only[QC,Reps]at h;obtain⟨v,r,rfl,h1,h2⟩:=h;rw[aU.mp h1,Reps.bools h2];rfl
theorem yL{bs:List Bool}(h:bp (bs.map V.bl) us):us=bs.map Value.bool:=by
 induction bs generalizing us with
 |nil=>cases h;rfl
 |cons b r ih=>
  cases h with
  |cons h1 h2=>cases h1;rw[ih h2];rfl
theorem uE{bs:List Bool}:(List.range bs.length).all (fun i=>bs.getD i false)=bs.all id:=by
 induction bs with
 |nil=>rfl
 |cons b r ih=>
  rw[QV,Rc,QG,Tj,QG];congr 1
section
variable{X:Cx}
def E6(K:W.Frag):List V->Hp->VK->Prop:=fun xs H Q=>∃(a:Addr)(bs:List Bool),xs=[.ref a]/\fK K H a (bs.map V.bl)/\Q (.bl (bs.all id)) H
theorem aZ.fresh_it(I:aZ X pins B H s){o:Obj}{tk:Nat}(hk:∀b ob,b ∉ [s.heap.objs.size]->(s.heap.push o).get? b=some ob->h'.get? b=some ob):aZ X pins B H {s with heap:=h',toks:=tk}:=
 I.kept fun b ob e=>hk b ob (fun hm=>by
  have:b=s.heap.objs.size:=by simpa using hm
  subst this
  exact absurd (OU e) (OW _)) (Pt _ e)
theorem uB (hc:X.calm=true):cY X (.builtin "all") (E6 X.K):=by
 intro pins s B H xs us Q I r h;obtain⟨a,bs,rfl,ha,q⟩:=h;obtain⟨u,rfl,ru⟩:=fH r;cases ru;obtain⟨its,rv,pl,hz⟩:=I.list ha;have hi:its=bs.map Value.bool:=yL rv
 have hne:a≠s.heap.objs.size:=by
  obtain⟨o,n,e,_⟩:=pl;exact OX (OU e)
 refine call_all_walk (Sf pl.isList ?_);refine⟨s.heap.objs.size,[s.heap.objs.size,a],[s.heap.objs.size],_,_,_,fun i=>bs.getD i false,rfl,Sj (A:=X.A.in1) (show X.A.in1.handled=none from I.ok.hd hc) _ a hne its.toArray,⟨⟨_,Pu _ rfl,rfl,rfl⟩,pl.isList.at fun o e=>Pt _ e⟩,?_,?_⟩
 ·intro i v s' Q' E' hP hQ;subst hi;have hv:(bs.map Value.bool)[i]?=some v:=by simpa using hP
  rw[P0]at hv;cases e:bs[i]? with
  |none=>rw[e]at hv;cases hv
  |some b=>
   rw[e]at hv;cases hv;have:bs.getD i false=b:=by rw[Sr,e];rfl
   dsimp only at hQ;rw[this]at hQ;exact Pf hQ
 ·intro h' tk hk;have e2:its.toArray.size=bs.length:=by subst hi;simp
  rw[e2,uE];exact⟨.bl _,H,I.fresh_it hk,rfl,q⟩
end
def qf(ds:List D)(Y:au):ai D:=match ds with
 |[.obj n]=>match Y[n]? with
  |some (.lst xs)=>match kf xs with
   |some bs=>.ok (.bl (bs.all id)) Y
   |none=>.bad
  |_=>.bad
 |_=>.bad
theorem J8:vS p qf (E6 p.K):=by
 intro ds vs H Z Y Q S r P;unfold qf at P;split at P
 ·rename_i n;split at P
  ·rename_i xs hx;split at P
   ·rename_i bs hb;obtain⟨v,rfl,r1⟩:=r.one;obtain⟨a,us,rfl,a1,h1,rr⟩:=dh S r1 hx;rw[mW hb]at rr;exact⟨a,bs,rfl,by rw[<- rr.bools];exact fK.of h1,P.now S _ (aU.mpr rfl)⟩
   ·exact P.elim
  ·exact P.elim
 ·exact P.elim
def wy(ds:List D)(Y:au):ai D:=match ds with
 |[.tup xs]=>.ok (.int xs.length) Y
 |[.frz xs]=>.ok (.int xs.length) Y
 |[.str x]=>if x.length<=sizeLine then .ok (.int x.length) Y else .bad
 |[.obj n]=>match Y[n]? with
  |some (.lst xs)=>.ok (.int xs.length) Y
  |_=>.bad
 |_=>.bad
theorem Ak:vS p wy (fun xs H Q=>∃x n,xs=[x]/\Iu p.K x H n/\Q (.int n) H):=by
 intro ds vs H Z Y Q S r P;unfold wy at P;split at P
 ·rename_i xs;obtain⟨v,rfl,r1⟩:=r.one;obtain⟨a,us,rfl,h1,rr⟩:=aQ.mp r1;exact⟨_,xs.length,rfl,.inr ⟨us,h1,rr.length.symm⟩,P.now S _ (az.mpr rfl)⟩
 ·rename_i xs;obtain⟨v,rfl,r1⟩:=r.one;obtain⟨a,us,rfl,h1,rr⟩:=bx.mp r1;exact⟨_,xs.length,rfl,.inl ⟨us,h1.sq,rr.length.symm⟩,P.now S _ (az.mpr rfl)⟩
 ·rename_i x;obtain⟨v,rfl,r1⟩:=r.one;split at P
  ·rename_i hl;exact⟨v,x.length,rfl,by rw[bq.mp r1];exact⟨hl,rfl⟩,P.now S _ (az.mpr rfl)⟩
  ·exact P.elim
 ·rename_i n;split at P
  ·rename_i xs hx;obtain⟨v,rfl,r1⟩:=r.one;obtain⟨a,us,rfl,a1,h1,rr⟩:=dh S r1 hx;exact⟨_,xs.length,rfl,.inl ⟨us,fK.of h1,rr.length.symm⟩,P.now S _ (az.mpr rfl)⟩
  ·exact P.elim
 ·exact P.elim
def gb(ds:List D)(Y:au):ai D:=match ds with
 |[.tup xs]=>.ok (.tup xs) Y
 |[.frz xs]=>.ok (.tup xs) Y
 |[.obj n]=>match Y[n]? with
  |some (.lst xs)=>.ok (.tup xs) Y
  |_=>.bad
 |_=>.bad
theorem Eb:vS p gb (fun xs H Q=>∃q ys,xs=[.ref q]/\((fK p.K H q ys/\∀l,H l=none->Q (.ref l) (dk H l (.tup ys)))\/(gr p.K H q ys/\Q (.ref q) H))):=by
 intro ds vs H Z Y Q S r P;unfold gb at P;split at P
 ·rename_i xs;obtain⟨v,rfl,r1⟩:=r.one;obtain⟨a,us,rfl,h1,rr⟩:=aQ.mp r1;exact⟨a,us,rfl,.inr ⟨h1,P.now S _ r1⟩⟩
 ·rename_i xs;obtain⟨v,rfl,r1⟩:=r.one;obtain⟨a,us,rfl,h1,rr⟩:=bx.mp r1;exact⟨a,us,rfl,.inl ⟨h1.sq,fun q hq=>P _ _ (cv hq) (S.tuple hq) _ (aQ.mpr ⟨q,us,rfl,gr.of cP,rr.mono (cv hq)⟩)⟩⟩
 ·rename_i n;split at P
  ·rename_i xs hx;obtain⟨v,rfl,r1⟩:=r.one;obtain⟨a,us,rfl,a1,h1,rr⟩:=dh S r1 hx;exact⟨a,us,rfl,.inl ⟨fK.of h1,fun q hq=>P _ _ (cv hq) (S.tuple hq) _ (aQ.mpr ⟨q,us,rfl,gr.of cP,rr.mono (cv hq)⟩)⟩⟩
  ·exact P.elim
 ·exact P.elim
def kG(ds:List D)(Y:au):ai D:=match ds with
 |[.tup xs]=>.ok (.obj Y.length) (Y++[.lst xs])
 |[.frz xs]=>.ok (.obj Y.length) (Y++[.lst xs])
 |[.obj n]=>match Y[n]? with
  |some (.lst xs)=>.ok (.obj Y.length) (Y++[.lst xs])
  |_=>.bad
 |_=>.bad
theorem Gz:vS p kG (fun xs H Q=>∃q ys,xs=[.ref q]/\(fK p.K H q ys\/gr p.K H q ys)/\∀l,H l=none->Q (.ref l) (dk H l (.lst ys))):=by
 intro ds vs H Z Y Q S r P;unfold kG at P;split at P
 ·rename_i xs;obtain⟨v,rfl,r1⟩:=r.one;obtain⟨a,us,rfl,h1,rr⟩:=aQ.mp r1;refine⟨a,us,rfl,.inr h1,fun q hq=>?_⟩;obtain⟨x1,x2,x3⟩:=dN S hq rr;exact P _ _ x1 x2 _ x3
 ·rename_i xs;obtain⟨v,rfl,r1⟩:=r.one;obtain⟨a,us,rfl,h1,rr⟩:=bx.mp r1;refine⟨a,us,rfl,.inl h1.sq,fun q hq=>?_⟩;obtain⟨x1,x2,x3⟩:=dN S hq rr;exact P _ _ x1 x2 _ x3
 ·rename_i n;split at P
  ·rename_i xs hx;obtain⟨v,rfl,r1⟩:=r.one;obtain⟨a,us,rfl,a1,h1,rr⟩:=dh S r1 hx;refine⟨a,us,rfl,.inl (fK.of h1),fun q hq=>?_⟩;obtain⟨x1,x2,x3⟩:=dN S hq rr;exact P _ _ x1 x2 _ x3
  ·exact P.elim
 ·exact P.elim
def wz(ds:List D)(Y:au):ai D:=match ds with
 |[.int i]=>.ok (.int i) Y
 |[.bl k]=>.ok (.int (if k then 1 else 0)) Y
 |_=>.bad
theorem J7:vS p wz (fun xs H Q=>(∃i,xs=[.int i]/\Q (.int i) H)\/∃k,xs=[.bl k]/\Q (.int (if k then 1 else 0)) H):=by
 intro ds vs H Z Y Q S r P;unfold wz at P;split at P
 ·rename_i i;obtain⟨v,rfl,r1⟩:=r.one;exact .inl ⟨i,by rw[az.mp r1],P.now S _ (az.mpr rfl)⟩
 ·rename_i i;obtain⟨v,rfl,r1⟩:=r.one;exact .inr ⟨i,by rw[aU.mp r1],P.now S _ (az.mpr rfl)⟩
 ·exact P.elim
def wx(ds:List D)(Y:au):ai D:=match ds with
 |[.int i,.int j]=>.ok (.int (if j>i then j else i)) Y
 |_=>.bad
def CN(ds:List D)(Y:au):ai D:=match ds with
 |[.int i,.int j]=>.ok (.int (if j<i then j else i)) Y
 |_=>.bad
theorem Gy:vS p wx (fun xs H Q=>∃i j,xs=[.int i,.int j]/\Q (.int (if j>i then j else i)) H):=by
 intro ds vs H Z Y Q S r P;unfold wx at P;split at P
 ·rename_i i j;obtain⟨v,u,rfl,r1,r2⟩:=r.two;exact⟨i,j,by rw[az.mp r1,az.mp r2],P.now S _ (az.mpr rfl)⟩
 ·exact P.elim
theorem Gx:vS p CN (fun xs H Q=>∃i j,xs=[.int i,.int j]/\Q (.int (if j<i then j else i)) H):=by
 intro ds vs H Z Y Q S r P;unfold CN at P;split at P
 ·rename_i i j;obtain⟨v,u,rfl,r1,r2⟩:=r.two;exact⟨i,j,by rw[az.mp r1,az.mp r2],P.now S _ (az.mpr rfl)⟩
 ·exact P.elim
section
variable{w:World}
theorem pU{T:String}(hT:T = "list" \/ T = "tuple"){vs:List Value}{Q:List Value->Shared->Prop}{o:Obj}(ho:s.heap.get? l=some o)(hc:o.cls=.type T)(hd:o.data=.seq vs.toArray n)(h:Q vs {s with heap:=(s.heap.push (seqObj "list" #[] 0)).update s.heap.objs.size (Obj.mapSeq (·++vs.toArray))})(hsz:vs.length<=sizeLine):
  wpAny (model prog w) A (collect (.ref l)) Q E s:=by
 unfold collect;refine Pj (wpAny_runValue (R6 entry_proto_collect' ?_));show wpAny _ _ (do again (.builtin "list.__iadd__" ⟨[<- newList [],.ref l],[]⟩)) _ _ s;refine Pj (SC (Pp ⟨Sd _ (by decide +kernel),R6 entry_list_iadd' ?_⟩));show wpAny _ _ (Builtin.List.listExtendWith (.ref s.heap.objs.size) (.ref l) (.ref s.heap.objs.size)) _ _ {s with heap:=s.heap.push (seqObj "list" #[] 0)};unfold Builtin.List.listExtendWith;have ho':(s.heap.push (seqObj "list" #[] 0)).get? l=some o:=Pt _ ho;refine Pj (Qx (T:=T) ⟨o,ho',hc⟩ ?_);have h1:(Value.type "list" == Value.type "list")=true:=by rfl
 have h2:(Value.type "tuple" == Value.type "tuple")=true:=by rfl
 rw[OS (by rcases hT with rfl|rfl <;> simp[h1,h2])];refine Pj (Sx ho' hd ?_);refine Pj (Sx (xs:=#[]) (n:=0) (Pu _ rfl) rfl ?_);rw[OT (by simp)];refine Pj (Sy (xs:=#[]) (n:=0) (Pu _ rfl) rfl ?_ (Q4 _) (by show (#[]++vs.toArray).size<=sizeLine+1;simp only[Array.size_append,PH,Rh];omega));refine Pp ?_
 show wpAny (model prog w) A (do
   let o <- load s.heap.objs.size
   match o.data with
   |.seq xs _=>pure xs.toList
   |_=>unsupported "internal:collect") Q E {s with heap:=(s.heap.push (seqObj "list" #[] 0)).update s.heap.objs.size (Obj.mapSeq (·++vs.toArray))}
 refine Pj (Pq (SA (Pu _ rfl) _) ?_);show wpAny _ _ (pure ((#[]:Array Value)++vs.toArray).toList) Q E _;rw[show ((#[]:Array Value)++vs.toArray).toList=vs by simp];exact Pp h
theorem vx{T:String}(hT:T = "list" \/ T = "tuple"){vs:List Value}{o:Obj}(ho:s.heap.get? l=some o)(hc:o.cls=.type T)(hd:o.data=.seq vs.toArray n)(hI:IntsAre vs ns)(h64:vs.length<64)(h:∀(out:Array Value)(ns':List Int),IntsAre out.toList ns'->ns'.Perm ns->ns'.Pairwise (·<=·)->Q (.ref (s.heap.objs.size+1)) {s with heap:=sortedAll s.heap vs out}):
  wpAny (model prog w) A (call (.builtin "sorted") [.ref l]) Q E s:=by
 have hsz0:vs.length<=sizeLine:=O0 (O1 h64) (by decide);refine SR SS SU SV (SW _) ?_;unfold Builtin.«sorted»;refine Pj (m:=checkCount "sorted" 1 1 _) (Pp ?_);refine Pj (pU hT ho hc hd ?_ hsz0);refine Pj (SC ?_ hsz0)
 have hsz:((s.heap.push (seqObj "list" #[] 0)).update s.heap.objs.size (Obj.mapSeq (·++vs.toArray))).objs.size=s.heap.objs.size+1:=by
  rw[SF,SE]
 have hoL:(((s.heap.push (seqObj "list" #[] 0)).update s.heap.objs.size (Obj.mapSeq (·++vs.toArray))).push (seqObj "list" vs.toArray 0)).get? (s.heap.objs.size+1)=some (seqObj "list" vs.toArray 0):=by
  rw[<- hsz];exact Pu _ rfl
 show wpAny _ _ _ _ _ {s with heap:=((s.heap.push (seqObj "list" #[] 0)).update s.heap.objs.size (Obj.mapSeq (·++vs.toArray))).push (seqObj "list" vs.toArray 0)};rw[hsz];refine Pj (Pl (Qu SX ⟨_,hoL,rfl⟩ SY (list_sort_tree hoL hI h64 fun out ns' a1 a2 a3=>⟨_,rfl,?_⟩) (SZ _)));exact Pp ⟨_,rfl,h out ns' a1 a2 a3⟩
end
theorem tj{h:Heap}{vs:List Value}{out:Array Value}{u:Obj}(e:h.get? b=some u):(sortedAll h vs out).get? b=some u:=by
 have hb:=OU e;have n1:b≠h.objs.size:=OX hb;have n2:b≠h.objs.size+1:=OX (QX hb);unfold sortedAll sortedHeap;rw[SG _ _ _ _ n2];refine Pt _ (Pt _ ?_);rw[SG _ _ _ _ n2];refine Pt _ ?_;rw[SG _ _ _ _ n1];exact Pt _ e
theorem tm {h:Heap}{vs:List Value}{out:Array Value}:∃n,(sortedAll h vs out).get? (h.objs.size+1)=some (seqObj "list" out n):=by
 unfold sortedAll sortedHeap
 have hsz:((h.push (seqObj "list" #[] 0)).update h.objs.size (Obj.mapSeq (·++vs.toArray))).objs.size=h.objs.size+1:=by
  rw[SF,SE]
 have hoL:(((h.push (seqObj "list" #[] 0)).update h.objs.size (Obj.mapSeq (·++vs.toArray))).push (seqObj "list" vs.toArray 0)).get? (h.objs.size+1)=some (seqObj "list" vs.toArray 0):=by
  rw[<- hsz];exact Pu _ rfl
 have g1:=SA hoL (fun _=>#[]);have g2:=Pt (seqObj "list" #[] 0) (Pt (seqObj "tuple" vs.toArray 0) g1);exact⟨_,SA g2 (fun _=>out)⟩
theorem nU(h:IntsAre us ns):bp (ns.map V.int) us:=by
 induction h with
 |nil=>exact .nil
 |cons n t _ ih=>exact .cons ⟨t,rfl⟩ ih
section
variable{X:Cx}
def yC(K:W.Frag):List V->Hp->VK->Prop:=fun xs H Q=>∃(a:Addr)(ns:List Int),xs=[.ref a]/\(fK K H a (ns.map V.int)\/gr K H a (ns.map V.int))/\ns.length<64 /\
 ∀ns':List Int,ns'.Perm ns->ns'.Pairwise (·<=·)->∀l,H l=none->Q (.ref l) (dk H l (.lst (ns'.map V.int)))
theorem zx:cY X (.builtin "sorted") (yC X.K):=by
 intro pins s B H xs us Q I r h;obtain⟨a,ns,rfl,ha,hl,q⟩:=h;obtain⟨u,rfl,ru⟩:=fH r;cases ru
 have core:∀(T:String),T = "list" \/ T = "tuple" -> ∀(its:List Value) (o:Obj) (n:Nat),s.heap.get? a=some o->o.cls=.type T->o.data=.seq its.toArray n->bp (ns.map V.int) its->wpAny (model X.prog X.w) X.A (call (.builtin "sorted") [.ref a]) (EP X pins B Q) X.xe s:=by
  intro T hT its o n e1 e2 e3 rv;have hI:IntsAre its ns:=g9 rv;refine vx hT e1 e2 e3 hI (by rw[hI.length];exact hl) fun out ns' h1 h2 h3=>?_;refine⟨.ref (s.heap.objs.size+1),dk H (s.heap.objs.size+1) (.lst (ns'.map V.int)),I.laid (t':=s.toks) (fun b ob e=>tj e) (Nat.le_succ _) ?_,rfl,q ns' h2 h3 _ (I.hok.fresh (Nat.le_succ _))⟩;obtain⟨m,e⟩:=tm (h:=s.heap) (vs:=its) (out:=out);refine⟨?_,out.toList,m,nU h1,by simpa using e⟩;rw[Qd,h2.length_eq];exact O0 (O1 hl) (by decide)
 rcases ha with ha|ha
 ·obtain⟨its,rv,⟨o,n,e1,e2,_,e3⟩,hz⟩:=I.list ha;exact core "list" (.inl rfl) its o n e1 e2 e3 rv
 ·obtain⟨its,rv,⟨o,e1,e2,n,e3⟩,hz⟩:=I.tuple ha;exact core "tuple" (.inr rfl) its o n e1 e2 e3 rv
theorem Cu{r:Addr}(I:aZ X pins B H s)(h:gr X.K H r (k.map V.int)):Tk X.prog X.w s.heap k r:=by
 obtain⟨its,rv,⟨o,e1,e2,n,e3⟩,_⟩:=I.tuple h;refine⟨o,its.toArray,n,e1,e2,e3,?_⟩
 have core:∀(k:List Int)(its:List Value),bp (k.map V.int) its->PySem.ItemsAre (intKind X.prog X.w) k its:=by
  intro k
  induction k with
  |nil=>intro its h;cases h;exact .nil
  |cons i r ih=>
   intro its h;cases h with
   |cons h1 h2=>
    obtain⟨t,rfl⟩:=h1;exact .cons (by simp[intKind,Value.isInt]) (ih _ h2)
 simpa using core k its rv
def iY(qs:List KP):List V:=qs.map fun p=>V.ref p.2
theorem oJ:∀{qs:List KP}{its:List Value},bp (iY qs) its->its=qs.map fun p=>Value.ref p.2
 |[],its,h=>by cases h;rfl
 |q::qs,its,h=>by
  cases h with
  |cons h1 h2=>cases h1;rw[oJ h2];rfl
theorem lE:∀(qs:List KP),bp (iY qs) (aJ qs)
 |[]=>.nil
 |q::qs=>.cons rfl (lE qs)
def Cz(K:W.Frag)(w:World):List V->Hp->VK->Prop:=fun xs H Q=>∃(a:Addr)(qs:List KP),xs=[.ref a]/\fK K H a (iY qs)/\(∀p∈qs,p.1∈prs/\gr K H p.2 (p.1.map V.int)) /\
 ∀l,H l=none->Q (.ref l) (dk H l (.ext fun h=>gh w h l (gC qs)))
theorem BV (hc:X.calm=true) (hu:X.A.units+64<cLine):cY X (.type "set") (Cz X.K X.w):=by
 intro pins s B H xs us Q I r h;obtain⟨a,qs,rfl,ha,hq,q⟩:=h;obtain⟨u,rfl,ru⟩:=fH r;cases ru
 have fin:∀(h':Heap)(tk:Nat),gh X.w h' s.heap.objs.size (gC qs)->(∀b o,b<s.heap.objs.size->s.heap.get? b=some o->h'.get? b=some o)->EP X pins B Q (.ref s.heap.objs.size) {s with heap:=h',toks:=tk}:=by
  intro h' tk hS hk;refine⟨.ref s.heap.objs.size,dk H s.heap.objs.size (.ext fun h=>gh X.w h s.heap.objs.size (gC qs)),I.laid (t':=tk) (fun b ob e=>hk b ob (OU e) e) (Pv _) ?_,rfl,q _ (I.hok.fresh (Pv _))⟩;refine⟨hS,?_,fun h1 h2 g k=>g.keeps k⟩;obtain⟨o,es,ep,t,α,S0,_⟩:=hS;exact⟨o,S0.ho⟩
 obtain⟨its,rv,pl,hz⟩:=I.list ha;exact xO (I.ok.hd hc) pl.isList (by simpa using oJ rv) (fun p hp=>(hq p hp).1) (fun p hp=>Cu I (hq p hp).2) (by omega) fin
def yB(K:W.Frag)(w:World):List V->Hp->VK->Prop:=fun xs H Q=>∃(a:Addr)(ps:List KP),xs=[.ref a]/\H a=some (.ext fun h=>gh w h a ps)/\(∀p∈ps,gr K H p.2 (p.1.map V.int)) /\
 ∀out:List KP,out.Perm ps->i5 out->∀l,H l=none->Q (.ref l) (dk H l (.lst (iY out)))
theorem zw (hc:X.calm=true):cY X (.builtin "sorted") (yB X.K X.w):=by
 intro pins s B H xs us Q I r h;obtain⟨a,ps,rfl,ha,hT,q⟩:=h;obtain⟨u,rfl,ru⟩:=fH r;cases ru;obtain⟨hS,_⟩:=(show fJ X.prog X.w H s.heap a (.ext fun h=>gh X.w h a ps) from I.hok a _ ha);refine yS (I.ok.hd hc) hS (fun p hp=>Cu I (hT p hp)) fun out hp hr h' D hD hk hn=>?_;refine⟨.ref D,dk H D (.lst (iY out)),I.laid (t':=s.toks) (fun b ob e=>hk b ob e) hD ?_,rfl,q out hp hr _ (I.hok.fresh hD)⟩;obtain⟨n,e⟩:=hn;refine⟨?_,aJ out,n,lE out,e⟩
 have hl:out.length<=15:=by
  rw[hp.length_eq];obtain⟨o,es,ep,t,α,S0,hk,hn⟩:=hS;exact lW hk hn
 unfold iY;rw[Qd];exact O0 hl (by decide)
end
def jx(qs:List KI):List KI:=qs.foldl (fun ps p=>v8 ps p.1 p.2) []
theorem vO(qs:List KI)(p:KI):jx (qs++[p])=v8 (jx qs) p.1 p.2:=by unfold jx;rw[List.foldl_append];rfl
def i3(ns:List Int):List Int:=ns.foldl (fun acc k=>if k∈acc then acc else acc++[k]) []
theorem og:∀(qs ps:List KI),(qs.foldl (fun ps p=>v8 ps p.1 p.2) ps).map (·.1)=(qs.map (·.1)).foldl (fun acc k=>if k∈acc then acc else acc++[k]) (ps.map (·.1))
 |[],ps=>rfl
 |q::qs,ps=>by
  rw[QL,og qs,QC,QL];congr 1;unfold v8;split
  ·rfl
  ·rw[RA];rfl
theorem ya(qs:List KI):(jx qs).map (·.1)=i3 (qs.map (·.1)):=og qs []
theorem vz{w:World}{h:Heap}(e:h.get? a=some {cls:=.type "set",dict:=none,data:=.set #[] 0 (.fresh 0 0 (tQ w))}):d4 w h a []:=
 ⟨_,_,_,_,[],⟨e,⟨rfl,rfl,rfl⟩,rfl,⟨rfl,rfl,List.Pairwise.nil,fun z hz=>by simp at hz,rfl,fun z hz=>by simp at hz⟩,rfl,rfl,.inl ⟨rfl,by decide⟩,List.Perm.nil⟩,fun p hp=>by simp at hp,RJ⟩
def qe(p:KI):Value:=Value.int p.1 p.2
section
variable{w:World}
theorem Ca{qs:List KI}{S:Addr}{u:Nat}(hk:∀p∈qs,p.1∈ins):Ff prog w u S (qs.map qe) (fun i h=>d4 w h S (jx (qs.take i))):=by
 refine⟨fun i h h' hk' j1=>j1.keeps fun o e=>hk' S o (Pv _) e,fun A i v s E Q hA hv j1 hQ=>?_⟩;rw[P0]at hv;cases e:qs[i]? with
 |none=>rw[e]at hv;cases hv
 |some p=>
  rw[e]at hv;cases hv;have hpm:p∈qs:=Qb e;unfold setAdd qe;refine Pl ?_;refine Pj (wpAny_pyHash_int ?_);refine Hk (s:={s with toks:=s.toks+1}) j1 (hk p hpm) fun b h' hsb hS2=>?_;have etk:qs.take (i+1)=qs.take i++[p]:=by rw[Sk,e];rfl
  refine hQ b h' _ (Nat.le_add_right _ _) hsb (by rw[etk,vO];exact hS2)
theorem ui:∀(qs:List KI),IntsAre (qs.map qe) (qs.map (·.1))
 |[]=>.nil
 |p::qs=>.cons p.1 p.2 (ui qs)
theorem Et{vs:List Value}(h:IntsAre vs ns):∃qs:List KI,vs=qs.map qe/\qs.map (·.1)=ns:=by
 induction h with
 |nil=>exact⟨[],rfl,rfl⟩
 |cons n t _ ih=>
  obtain⟨qs,e1,e2⟩:=ih;exact⟨(n,t)::qs,by rw[e1];rfl,by rw[<- e2];rfl⟩
theorem xK{ps:List KI}(hh:A.handled=none)(S:d4 w s.heap a ps)(h:∀(out:List Value) (ns':List Int),IntsAre out ns'->ns'.Perm (ps.map (·.1))->ns'.Pairwise (·<=·)->∀h' D,s.heap.objs.size<=D->(∀b u,s.heap.get? b=some u->h'.get? b=some u)->(∃n,h'.get? D=some (seqObj "list" out.toArray n))->Q (.ref D) {s with heap:=h'}):
  wpAny (model prog w) A (call (.builtin "sorted") [.ref a]) Q E s:=by
 obtain⟨o,es,ep,t,α,S,hk,hn⟩:=S;have h6:=lA hk hn;refine SR SS SU SV (SW _) ?_;unfold Builtin.«sorted»;refine Pj (m:=checkCount "sorted" 1 1 _) (Pp ?_);refine Pj (pV (by simpa using hh) S (by rw[S.len,Qd];omega) fun qs hqs h1 k1 hsz=>?_);obtain⟨rs,q1,q2⟩:=n4 hqs ps rfl;have q3:qs.map (·.2)=rs.map qe:=by rw[q2,Re];rfl
 rw[q3];have hvl:(rs.map qe).length<=6:=by rw[Qd,q1.length_eq];exact h6
 refine Pj (SC ?_ (O0 hvl (by decide)));have hoL:(h1.push (seqObj "list" (rs.map qe).toArray 0)).get? h1.objs.size=some (seqObj "list" (rs.map qe).toArray 0):=Pu _ rfl;have hnn:∀b u,h1.get? b=some u->b≠h1.objs.size:=fun b u q=>OX (OU q);refine Pj (Pl (Qu SX (s:={s with heap:=h1.push (seqObj "list" (rs.map qe).toArray 0)}) ⟨_,hoL,rfl⟩ SY ?body (SZ _)))
 case body=>
  refine list_sort_tree (s:={s with heap:=h1.push (seqObj "list" (rs.map qe).toArray 0)}) hoL (ui rs) (by omega) fun out ns' a1 a2 a3=>⟨_,rfl,?_⟩;refine Pp ⟨_,rfl,h out.toList ns' a1 (a2.trans (q1.map _)) a3 _ h1.objs.size hsz (fun b u q=>?_) ?_⟩
  ·have hb:=hnn b u (k1 b u q);unfold sortedHeap;rw[SG _ _ _ _ hb];refine Pt _ (Pt _ ?_);rw[SG _ _ _ _ hb];exact Pt _ (k1 b u q)
  ·unfold sortedHeap;have g1:=SA hoL (fun _=>#[]);have g2:=Pt (seqObj "list" #[] 0) (Pt (seqObj "tuple" (rs.map qe).toArray 0) g1);exact⟨_,SA g2 (fun _=>out)⟩
end
section
variable{X:Cx}
def CA(K:W.Frag)(w:World):List V->Hp->VK->Prop:=fun xs H Q=>∃(a:Addr)(ns:List Int),xs=[.ref a]/\fK K H a (ns.map V.int)/\(∀n∈ns,n∈ins) /\
 ∀l,H l=none->∀ps:List KI,ps.map (·.1)=i3 ns->(∀p∈ps,p.1∈ins)->(ps.map (·.1)).Nodup->Q (.ref l) (dk H l (.ext fun h=>d4 w h l ps))
theorem BW (hc:X.calm=true) (hu:X.A.units+64<cLine):cY X (.type "set") (CA X.K X.w):=by
 intro pins s B H xs us Q I r h;obtain⟨a,ns,rfl,ha,hq,q⟩:=h;obtain⟨u,rfl,ru⟩:=fH r;cases ru
 have fin:∀(qs:List KI),qs.map (·.1)=ns->∀(h':Heap)(tk:Nat),d4 X.w h' s.heap.objs.size (jx qs)->(∀b o,b<s.heap.objs.size->s.heap.get? b=some o->h'.get? b=some o)->EP X pins B Q (.ref s.heap.objs.size) {s with heap:=h',toks:=tk}:=by
  intro qs eq h' tk hS hk;obtain⟨o,es,ep,t,α,S0,k1,k2⟩:=id hS;refine⟨.ref s.heap.objs.size,dk H s.heap.objs.size (.ext fun h=>d4 X.w h s.heap.objs.size (jx qs)),I.laid (t':=tk) (fun b ob e=>hk b ob (OU e) e) (Pv _) ?_,rfl,q _ (I.hok.fresh (Pv _)) _ (by rw[ya,eq]) k1 k2⟩;exact⟨hS,⟨o,S0.ho⟩,fun h1 h2 g k=>g.keeps k⟩
 obtain⟨its,rv,pl,hz⟩:=I.list ha;obtain⟨qs,e1,e2⟩:=Et (g9 rv);subst e1;have hsz:(qs.map qe).toArray.size=qs.length:=by rw[PH,Qd]
 refine nV (I.ok.hd hc) pl.isList (J:=fun i h=>d4 X.w h s.heap.objs.size (jx (qs.take i))) ?_ (fun h' k e=>vz e) fun h' tk j1=>fin qs e2 h' tk ?_
 ·exact Ca fun p hp=>hq _ (by rw[<- e2];exact Rx hp)
 ·rw[hsz,List.take_length]at j1;exact j1
def yA(w:World):List V->Hp->VK->Prop:=fun xs H Q=>∃(a:Addr)(ps:List KI),xs=[.ref a]/\H a=some (.ext fun h=>d4 w h a ps) /\
 ∀ns':List Int,ns'.Perm (ps.map (·.1))->ns'.Pairwise (·<=·)->∀l,H l=none->Q (.ref l) (dk H l (.lst (ns'.map V.int)))
theorem zv (hc:X.calm=true):cY X (.builtin "sorted") (yA X.w):=by
 intro pins s B H xs us Q I r h;obtain⟨a,ps,rfl,ha,q⟩:=h;obtain⟨u,rfl,ru⟩:=fH r;cases ru;obtain⟨hS,_⟩:=(show fJ X.prog X.w H s.heap a (.ext fun h=>d4 X.w h a ps) from I.hok a _ ha);obtain⟨o,es,ep,t,α,S0,k1,k2⟩:=id hS;have h6:=lA k1 k2;refine xK (I.ok.hd hc) hS fun out ns' a1 a2 a3 h' D hD hk hn=>?_;refine⟨.ref D,dk H D (.lst (ns'.map V.int)),I.laid (t':=s.toks) (fun b ob e=>hk b ob e) hD ?_,rfl,q ns' a2 a3 _ (I.hok.fresh hD)⟩;obtain⟨n,e⟩:=hn;refine⟨?_,out,n,nU a1,e⟩;rw[Qd,a2.length_eq,Qd];exact O0 h6 (by decide)
def HE(w:World):List V->Hp->VK->Prop:=fun xs H Q=>∃(a:Addr)(ps:List KI),xs=[.ref a]/\H a=some (.ext fun h=>d4 w h a ps)/\Q (.int ps.length) H
theorem σ1:cY X (.builtin "len") (HE X.w):=by
 intro pins s B H xs us Q I r h;obtain⟨a,ps,rfl,ha,q⟩:=h;obtain⟨u,rfl,ru⟩:=fH r;cases ru;obtain⟨hS,_⟩:=(show fJ X.prog X.w H s.heap a (.ext fun h=>d4 X.w h a ps) from I.hok a _ ha);obtain⟨o,es,ep,t,α,S0,k1,k2⟩:=id hS;have h6:=lA k1 k2;have hsz:es.size=ps.length:=by rw[S0.tab.size.2,S0.len,Qd]
 refine PySem.call_len_set S0.ho S0.ex S0.hd S0.fits (by rw[hsz];omega) ⟨.int ps.length,H,?_,⟨_,by rw[hsz]⟩,q⟩;exact I.tok _
def HF(w:World):List V->Hp->VK->Prop:=fun xs H Q=>∃(a:Addr)(ps:List KP),xs=[.ref a]/\H a=some (.ext fun h=>gh w h a ps)/\Q (.int ps.length) H
theorem σ2:cY X (.builtin "len") (HF X.w):=by
 intro pins s B H xs us Q I r h;obtain⟨a,ps,rfl,ha,q⟩:=h;obtain⟨u,rfl,ru⟩:=fH r;cases ru;obtain⟨hS,_⟩:=(show fJ X.prog X.w H s.heap a (.ext fun h=>gh X.w h a ps) from I.hok a _ ha);obtain⟨o,es,ep,t,α,S0,k1,k2⟩:=id hS;have h6:=lW k1 k2;have hsz:es.size=ps.length:=by rw[S0.tab.size.2,S0.len,Qd]
 refine PySem.call_len_set S0.ho S0.ex S0.hd S0.fits (by rw[hsz];omega) ⟨.int ps.length,H,?_,⟨_,by rw[hsz]⟩,q⟩;exact I.tok _
end
def aK(k:List Int):D:=.tup (k.map D.int)
def AN:D->Option (List Int)
 |.tup [.int a,.int b]=>if 0<=a/\a<b/\b<6 then some [a,b] else none
 |_=>none
def qV:List D->Option (List (List Int))
 |[]=>some []
 |d::r=>match AN d,qV r with
  |some k,some ks=>some (k::ks)
  |_,_=>none
theorem GP(h:AN d=some k):d=aK k/\k∈prs:=by
 unfold AN at h;split at h
 ·split at h
  ·rename_i hc;cases h;exact⟨rfl,Ag hc.1 hc.2.1 hc.2.2⟩
  ·cases h
 ·cases h
theorem BH{a b:Int}(h:0<=a/\a<b/\b<6):AN (.tup [.int a,.int b])=some [a,b]:=by
 simp only[AN,OS h]
theorem xo:∀{ds:List D}{ks:List (List Int)},qV ds=some ks->ds=ks.map aK/\∀k∈ks,k∈prs
 |[],ks,h=>by cases h;exact⟨rfl,fun k hk=>by simp at hk⟩
 |d::r,ks,h=>by
  unfold qV at h;split at h
  ·rename_i k ks' h1 h2;cases h;obtain⟨e1,e2⟩:=GP h1;obtain⟨f1,f2⟩:=xo h2;refine⟨by rw[e1,f1];rfl,fun k' hk=>?_⟩;rcases O5.mp hk with z|z
   ·rw[z];exact e2
   ·exact f2 k' z
  ·cases h
theorem xp:∀{ks:List (List Int)},(∀k∈ks,k∈prs)->qV (ks.map aK)=some ks
 |[],_=>rfl
 |k::ks,h=>by
  obtain⟨a,b,rfl,h1,h2,h3⟩:=iS (h k O3);simp only[QC,qV,xp fun k' hk=>h k' (O4 _ hk)];have:AN (aK [a,b])=some [a,b]:=BH ⟨h1,h2,h3⟩;rw[this]
def Cp(ks:List (List Int))(k:List Int):List (List Int):=if k∈ks then ks else ks++[k]
def jK(ks:List (List Int)):List (List Int):=ks.foldl Cp []
def jl(ks:List (List Int)):List (List Int):=prs.filter fun k=>decide (k∈ks)
theorem sD:∀(qs ps:List KP),(qs.foldl (fun ps p=>nv ps p.1 p.2) ps).map (·.1)=(qs.map (·.1)).foldl Cp (ps.map (·.1))
 |[],ps=>rfl
 |q::qs,ps=>by
  rw[QL,QC,QL,sD qs];congr 1;unfold nv Cp;split <;> simp
theorem BS(qs:List KP):(gC qs).map (·.1)=jK (qs.map (·.1)):=sD qs []
theorem BR:k∈jK ks↔k∈ks:=by
 have core:∀(ks acc:List (List Int)),k∈ks.foldl Cp acc↔k∈acc\/k∈ks:=by
  intro ks
  induction ks with
  |nil=>intro acc;simp
  |cons x r ih=>
   intro acc;rw[QL,ih];unfold Cp;split
   ·rename_i hx;constructor
    ·rintro (h | h)
     ·exact .inl h
     ·exact .inr (O4 _ h)
    ·rintro (h | h)
     ·exact .inl h
     ·rcases O5.mp h with z | z
      ·exact .inl (by rw[z];exact hx)
      ·exact .inr z
   ·simp[or_assoc]
 unfold jK;rw[core];simp
theorem sm:prs.Pairwise fun a b=>qc a<qc b:=by decide +kernel
theorem ED{l m:List (List Int)}(hl:l.Pairwise fun a b=>qc a<qc b)(hm:m.Pairwise fun a b=>qc a<qc b)(h:∀k,k∈l↔k∈m):l=m:=by
 have nl:l.Nodup:=hl.imp fun h e=>by subst e;omega
 have nm:m.Nodup:=hm.imp fun h e=>by subst e;omega
 have hp:l.Perm m:=(RN nl nm).mpr h;refine hp.eq_of_pairwise (le:=fun a b=>qc a<qc b) (fun a b _ _ h1 h2=>by omega) hl hm
theorem DJ{out:List KP}{ps:List KP}(hk:∀p∈ps,p.1∈prs)(hp:out.Perm ps)(hr:i5 out):out.map (·.1)=jl (ps.map (·.1)):=by
 refine ED ?_ (sm.filter _) fun k=>?_
 ·unfold i5 at hr;rw[Sw];exact hr
 ·have h1 : k ∈ out.map (·.1) ↔ k ∈ ps.map (·.1) := (hp.map _).mem_iff;rw[h1];unfold jl;rw[OY,Td];constructor
  ·intro h;refine⟨?_,h⟩;obtain⟨p,hp',rfl⟩:=Rq.mp h;exact hk p hp'
  ·exact fun h=>h.2
theorem xN(ks:List (List Int)):jl (jK ks)=jl ks:=by
 unfold jl;apply List.filter_congr;intro k _;simp only[BR]
theorem Reps.keys{K:W.Frag}{H:Hp}{Z:List Addr}:∀{ks:List (List Int)}{vs:List V},Reps K H Z (ks.map aK) vs->∃qs:List KP,qs.map (·.1)=ks/\vs=iY qs/\∀p∈qs,gr K H p.2 (p.1.map V.int)
 |[],vs,h=>by simp only[QB,Reps]at h;exact⟨[],rfl,h,fun p hp=>by simp at hp⟩
 |k::ks,vs,h=>by
  simp only[QC,Reps]at h;obtain⟨v,r,rfl,h1,h2⟩:=h;obtain⟨a,us,rfl,h3,h4⟩:=aQ.mp h1;obtain⟨qs,e1,e2,e3⟩:=Reps.keys h2;refine⟨(k,a)::qs,by rw[QC,e1],by rw[e2];rfl,fun p hp=>?_⟩;rcases O5.mp hp with z|z
  ·subst z;rw[<- h4.ints];exact h3
  ·exact e3 p z
theorem lH{K:W.Frag}{H:Hp}{Z:List Addr}:∀{qs:List KP},(∀p∈qs,gr K H p.2 (p.1.map V.int))->Reps K H Z ((qs.map (·.1)).map aK) (iY qs)
 |[],_=>Reps.nil
 |q::qs,h=>by
  refine Reps.cons (aQ.mpr ⟨q.2,_,rfl,h q O3,lI _⟩) (lH fun p hp=>h p (O4 _ hp))
def jn:List D->Option (List Int)
 |[]=>some []
 |.int i::r=>(jn r).map (i::·)
 |_::_=>none
theorem gk:∀{ds:List D}{ns:List Int},jn ds=some ns->ds=ns.map D.int
 |[],bs,h=>by cases h;rfl
 |.int b::r,bs,h=>by
  unfold jn at h;cases e:jn r with
  |none=>rw[e]at h;cases h
  |some cs=>rw[e]at h;cases h;rw[gk e];rfl
 |.non::r,bs,h=>by cases h
 |.bl _::r,bs,h=>by cases h
 |.str _::r,bs,h=>by cases h
 |.tup _::r,bs,h=>by cases h
 |.frz _::r,bs,h=>by cases h
 |.obj _::r,bs,h=>by cases h
theorem zm(h:∀n∈ns,n∈ins):(i3 ns).length<=6:=by
 have core:∀(l acc:List Int),(∀n∈l,n∈ins)->(∀n∈acc,n∈ins)->acc.Nodup->(l.foldl (fun acc k=>if k∈acc then acc else acc++[k]) acc).length<=6:=by
  intro l
  induction l with
  |nil=>
   intro acc _ h2 h3;have:=jQ h3 (l2:=ins) h2;exact this
  |cons x l ih=>
   intro acc h1 h2 h3;rw[QL];have hx:=h1 x O3;split
   ·exact ih acc (fun n hn=>h1 n (O4 _ hn)) h2 h3
   ·rename_i hxa;refine ih (acc++[x]) (fun n hn=>h1 n (O4 _ hn)) (fun n hn=>?_) ?_
    ·rcases O7.mp hn with z | z
     ·exact h2 n z
     ·rw[Q5.mp z];exact hx
    ·refine RX.mpr ⟨h3,by simp,fun u hu v hv e=>?_⟩;rw[Q5.mp hv]at e;exact hxa (e ▸ hu)
 exact core ns [] h (fun n hn=>by simp at hn) RJ
def Cn(xs:List D):Option (List Int):=match jn xs with
 |some ns=>if ns.all (fun n=>decide (0<=n/\n<6))=true then some ns else none
 |none=>none
theorem GV(h:Cn xs=some ns):xs=ns.map D.int/\∀n∈ns,n∈ins:=by
 unfold Cn at h;split at h
 ·rename_i ms hm;split at h
  ·rename_i ha;cases h;refine⟨gk hm,fun n hn=>GU.mpr ?_⟩;simpa using RP.mp ha n hn
  ·cases h
 ·cases h
def wj(xs:List D)(Y:au):ai D:=match qV xs with
 |some ks=>.ok (.obj Y.length) (Y++[.set (jK ks)])
 |none=>match Cn xs with
  |some ns=>.ok (.obj Y.length) (Y++[.iset (i3 ns)])
  |none=>.bad
def sY(ds:List D)(Y:au):ai D:=match ds with
 |[.obj n]=>match Y[n]? with
  |some (.lst xs)=>wj xs Y
  |_=>.bad
 |_=>.bad
section
theorem GE{Q:VK}(S:p.S H Z Y)(hk:∀k∈ks,k∈prs)(r:p.Rs H Z (ks.map aK) vs)(P:aP p H Z (.ok (.obj Y.length) (Y++[.set (jK ks)])) (RV p Q)):
  ∃qs:List KP,vs=iY qs/\(∀q∈qs,q.1∈prs/\gr p.K H q.2 (q.1.map V.int))/\∀l,H l=none->Q (.ref l) (dk H l (.ext fun h=>gh p.w h l (gC qs))):=by
 obtain⟨qs,e1,e2,e3⟩:=r.keys;refine⟨qs,e2,fun q hq=>⟨hk _ (by rw[<- e1];exact Rx hq),e3 q hq⟩,fun l hl=>?_⟩;have x1:p.X H (dk H l (.ext fun h=>gh p.w h l (gC qs))) Z (Z++[l]):=(cv hl).trans (jR [l]);refine P _ _ x1 (S.more hl ⟨gC qs,by rw[BS,e1],cP,fun q hq=>?_,vN,fun q hq=>?_⟩) _ (aX.mpr ⟨l,rfl,by rw[<- S.len];simp⟩)
 ·exact hk _ (by rw[<- e1];exact Rx (mY hq))
 ·exact x1.tup _ _ (e3 q (mY hq))
theorem Ee{Q:VK}(S:p.S H Z Y)(hk:∀n∈ns,n∈ins)(P:aP p H Z (.ok (.obj Y.length) (Y++[.iset (i3 ns)])) (RV p Q)):
  ∀l,H l=none->∀ps:List KI,ps.map (·.1)=i3 ns->(∀p∈ps,p.1∈ins)->(ps.map (·.1)).Nodup->Q (.ref l) (dk H l (.ext fun h=>d4 p.w h l ps)):=fun l hl ps e _ _=>by
 have x1:p.X H (dk H l (.ext fun h=>d4 p.w h l ps)) Z (Z++[l]):=(cv hl).trans (jR [l]);exact P _ _ x1 (S.more hl ⟨ps,e,cP,zm hk⟩) _ (aX.mpr ⟨l,rfl,by rw[<- S.len];simp⟩)
theorem Jh{us:List V}{Q:VK}(S:p.S H Z Y)(h1:fK p.K H a us)(rr:p.Rs H Z xs us)(P:aP p H Z (wj xs Y) (RV p Q)):Cz p.K p.w [.ref a] H Q\/CA p.K p.w [.ref a] H Q:=by
 unfold wj at P;split at P
 ·rename_i ks hks;obtain⟨f1,f2⟩:=xo hks;rw[f1]at rr;obtain⟨qs,e1,e2,e3⟩:=GE S f2 rr P;exact .inl ⟨a,qs,rfl,by rw[<- e1];exact h1,e2,e3⟩
 ·split at P
  ·rename_i ns hns;obtain⟨f1,f2⟩:=GV hns;rw[f1]at rr;exact .inr ⟨a,ns,rfl,by rw[<- rr.ints];exact h1,f2,Ee S f2 P⟩
  ·exact P.elim
theorem J2:vS p sY (fun xs H Q=>Cz p.K p.w xs H Q\/CA p.K p.w xs H Q):=by
 intro ds vs H Z Y Q S r P;unfold sY at P;split at P
 ·rename_i n;split at P
  ·rename_i xs hx;obtain⟨v,rfl,r1⟩:=r.one;obtain⟨a,us,rfl,a1,h1,rr⟩:=dh S r1 hx;exact Jh S (fK.of h1) rr P
  ·exact P.elim
 ·exact P.elim
def my(ns:List Int):List Int:=ns.mergeSort fun a b=>decide (a<=b)
theorem rK{ns':List Int}(hp:ns'.Perm ns)(hs:ns'.Pairwise (·<=·)):ns'=my ns:=by
 have h1:(my ns).Perm ns:=Tn ns _
 have h2:(my ns).Pairwise (·<=·):=by
  have:=List.pairwise_mergeSort (le:=fun(a b:Int)=>decide (a<=b)) (fun a b c h1 h2=>by simp at *;omega) (fun a b=>by simp;omega) ns;exact this.imp fun h=>by simpa using h
 exact(hp.trans h1.symm).eq_of_pairwise (fun a b _ _ h1 h2=>To h1 h2) hs h2
def kq(ds:List D)(Y:au):ai D:=match ds with
 |[.tup xs]=>match jn xs with
  |some ns=>if ns.length<64 then .ok (.obj Y.length) (Y++[.lst ((my ns).map D.int)]) else .bad
  |none=>.bad
 |[.obj n]=>match Y[n]? with
  |some (.lst xs)=>match jn xs with
   |some ns=>if ns.length<64 then .ok (.obj Y.length) (Y++[.lst ((my ns).map D.int)]) else .bad
   |none=>.bad
  |some (.set ks)=>.ok (.obj Y.length) (Y++[.lst ((jl ks).map aK)])
  |some (.iset ks)=>.ok (.obj Y.length) (Y++[.lst ((my ks).map D.int)])
  |_=>.bad
 |_=>.bad
theorem oQ:vS p kq (fun xs H Q=>(yC p.K xs H Q\/yB p.K p.w xs H Q)\/yA p.w xs H Q):=by
 intro ds vs H Z Y Q S r P
 have fin:∀{ns:List Int},aP p H Z (.ok (.obj Y.length) (Y++[.lst ((my ns).map D.int)])) (RV p Q)->∀ns':List Int,ns'.Perm ns->ns'.Pairwise (·<=·)->∀l,H l=none->Q (.ref l) (dk H l (.lst (ns'.map V.int))):=by
  intro ns P ns' h1 h2 l hl;rw[<- rK h1 h2]at P;obtain⟨x1,x2,x3⟩:=dN S hl (lI ns');exact P _ _ x1 x2 _ x3
 unfold kq at P;split at P
 ·rename_i xs;split at P
  ·rename_i ns hns;split at P
   ·rename_i hl;obtain⟨v,rfl,r1⟩:=r.one;obtain⟨a,us,rfl,h1,rr⟩:=aQ.mp r1;rw[gk hns]at rr;exact .inl (.inl ⟨a,ns,rfl,.inr (by rw[<- rr.ints];exact h1),hl,fin P⟩)
   ·exact P.elim
  ·exact P.elim
 ·rename_i n;split at P
  ·rename_i xs hx;split at P
   ·rename_i ns hns;split at P
    ·rename_i hl;obtain⟨v,rfl,r1⟩:=r.one;obtain⟨a,us,rfl,a1,h1,rr⟩:=dh S r1 hx;rw[gk hns]at rr;exact .inl (.inl ⟨a,ns,rfl,.inl (by rw[<- rr.ints];exact fK.of h1),hl,fin P⟩)
    ·exact P.elim
   ·exact P.elim
  ·rename_i ks hx;obtain⟨v,rfl,r1⟩:=r.one;obtain⟨a,ea,ps,e1,e2,e3,e4,e5⟩:=S.at hx;obtain⟨a',rfl,ea'⟩:=aX.mp r1;rw[ea]at ea';cases ea';refine .inl (.inr ⟨a,ps,rfl,e2,e5,fun out hp hr l hl=>?_⟩);have rr:p.Rs H Z ((out.map (·.1)).map aK) (iY out):=lH fun q hq=>e5 q (hp.mem_iff.mp hq);rw[DJ e3 hp hr,e1]at rr;obtain⟨x1,x2,x3⟩:=dN S hl rr;exact P _ _ x1 x2 _ x3
  ·rename_i ks hx;obtain⟨v,rfl,r1⟩:=r.one;obtain⟨a,ea,ps,e1,e2,e3⟩:=S.at hx;obtain⟨a',rfl,ea'⟩:=aX.mp r1;rw[ea]at ea';cases ea';exact .inr ⟨a,ps,rfl,e2,by rw[e1];exact fin P⟩
  ·exact P.elim
 ·exact P.elim
def jG(ds:List D)(Y:au):ai D:=match ds with
 |[.obj n]=>match Y[n]? with
  |some (.iset ks)=>.ok (.int ks.length) Y
  |some (.set ks)=>.ok (.int ks.length) Y
  |_=>wy [.obj n] Y
 |_=>wy ds Y
theorem J6:vS p jG (fun xs H Q=>((∃x n,xs=[x]/\Iu p.K x H n/\Q (.int n) H)\/HE p.w xs H Q)\/HF p.w xs H Q):=by
 intro ds vs H Z Y Q S r P;unfold jG at P;split at P
 ·rename_i n;split at P
  ·rename_i ks hx;obtain⟨v,rfl,r1⟩:=r.one;obtain⟨a,ea,ps,e1,e2,e3⟩:=S.at hx;obtain⟨a',rfl,ea'⟩:=aX.mp r1;rw[ea]at ea';cases ea';refine .inl (.inr ⟨a,ps,rfl,e2,P.now S _ (az.mpr ?_)⟩);rw[<- e1,Qd]
  ·rename_i ks hx;obtain⟨v,rfl,r1⟩:=r.one;obtain⟨a,ea,ps,e1,e2,e3⟩:=S.at hx;obtain⟨a',rfl,ea'⟩:=aX.mp r1;rw[ea]at ea';cases ea';refine .inr ⟨a,ps,rfl,e2,P.now S _ (az.mpr ?_)⟩;rw[<- e1,Qd]
  ·exact .inl (.inl (Ak _ vs H Z Y Q S r P))
 ·exact .inl (.inl (Ak _ vs H Z Y Q S r P))
end
section
variable{X:Cx}
def HC(K:W.Frag):List V->Hp->VK->Prop:=fun xs H Q=>∃(a:Addr)(ns:List Int),xs=[.ref a]/\(fK K H a (ns.map V.int)\/gr K H a (ns.map V.int))/\ns≠[]/\∀m∈ns,(∀j∈ns,m<=j)->Q (.int m) H
def HD(K:W.Frag):List V->Hp->VK->Prop:=fun xs H Q=>∃(a:Addr)(ns:List Int),xs=[.ref a]/\(fK K H a (ns.map V.int)\/gr K H a (ns.map V.int))/\ns≠[]/\∀m∈ns,(∀j∈ns,j<=m)->Q (.int m) H
theorem lX(h:IntsAre its ns){v:Value}(e:its.toArray[i]?=some v):∃t,v=.int (ns.getD i 0) t/\i<ns.length:=by
 have e':its[i]?=some v:=by simpa using e
 obtain⟨n,t,rfl,hn⟩:=h.at i v e';have hi:=(O9.mp hn).1;exact⟨t,by rw[Sr,hn];rfl,hi⟩
theorem xt(h:i<ns.length):ns.getD i 0∈ns:=by
 rw[Sr,SK h];exact SJ h
theorem xn{j:Int}(h:j∈ns):∃i,i<ns.length/\ns.getD i 0=j:=by
 obtain⟨i,hi,e⟩:=List.getElem_of_mem h;exact⟨i,hi,by rw[Sr,SK hi];exact e⟩
theorem BY (hc:X.calm=true):cY X (.builtin "min") (HC X.K):=by
 intro pins s B H xs us Q I r h;obtain⟨a,ns,rfl,ha,hne,q⟩:=h;obtain⟨u,rfl,ru⟩:=fH r;cases ru;have hpos:0<ns.length:=List.length_pos_iff.mpr hne
 have core:∀(its:List Value)(o:Obj),IntsAre its ns->∀v s',its.toArray[argBest (fun i j=>decide (ns.getD i 0<ns.getD j 0)) (its.toArray.size-1)]?=some v->Moved [s.heap.objs.size] (fun a b=>b=a) {s with heap:=s.heap.push o} s'->EP X pins B Q v s':=by
  intro its o hI v s' hv hm;obtain⟨t,rfl,hi⟩:=lX hI hv;have hsz:its.toArray.size-1=ns.length-1:=by rw[PH,hI.length]
  rw[hsz]at hi⊢;obtain⟨b1,b2⟩:=argBest_lt (fun i=>ns.getD i 0) (ns.length-1);obtain⟨hh,g,d,tk,os⟩:=s';have e1:g=s.gens:=hm.gens;have e2:d=s.drawn:=hm.drawn;have e3:os=s.os:=hm.os;subst e1 e2 e3;refine⟨.int _,H,I.fresh_it (o:=o) (h':=hh) (tk:=tk) fun b ob hb e=>hm.heap b ob hb e,⟨t,rfl⟩,q _ (xt hi) fun j hj=>?_⟩;obtain⟨i,hi',rfl⟩:=xn hj;exact b2 i (by omega)
 have cmp:∀(its:List Value),IntsAre its ns->CmpOf X.prog X.w X.A.in1 .Lt (fun i v=>its.toArray[i]?=some v) (fun i j=>decide (ns.getD i 0<ns.getD j 0)):=by
  intro its hI i j vi vj s' Q' E' h1 h2 hQ;obtain⟨t1,rfl,_⟩:=lX hI h1;obtain⟨t2,rfl,_⟩:=lX hI h2;exact(PyProof.Rows.lt_int hQ:wpAny _ _ (compareOp .Lt _ _) _ _ _)
 rcases ha with ha|ha
 ·obtain ⟨its, rv, pl, hz⟩ := I.list ha;have hI:IntsAre its ns:=g9 rv
  have hne:a≠s.heap.objs.size:=by
   obtain⟨o,n,e,_⟩:=pl;exact OX (OU e)
  refine call_min_walkS (Sf pl.isList ?_);refine⟨s.heap.objs.size,[s.heap.objs.size,a],[s.heap.objs.size],_,_,_,_,_,rfl,(Sj (A:=X.A.in1) (show X.A.in1.handled=none from I.ok.hd hc) _ a hne its.toArray).toS,⟨⟨_,Pu _ rfl,rfl,rfl⟩,pl.isList.at fun o e=>Pt _ e⟩,fun b hb=>?_,by simp[hI.length,hpos],cmp its hI,fun v s' hv hm=>core its _ hI v s' hv hm⟩;obtain⟨o,n,e,_⟩:=pl;have:=OU e;simp only[O5,Sg,Sh]at hb;show b<(s.heap.push _).objs.size;rw[SE];rcases hb with rfl|rfl
  ·exact QW _
  ·exact QX this
 ·obtain ⟨its, rv, pl, hz⟩ := I.tuple ha;have hI:IntsAre its ns:=g9 rv
  have hne:a≠s.heap.objs.size:=by
   obtain⟨o,e,_⟩:=pl;exact OX (OU e)
  refine call_min_walkS (Tc (show s.heap.IsTuple a its.toArray from pl) ?_);refine⟨s.heap.objs.size,[s.heap.objs.size,a],[s.heap.objs.size],_,_,_,_,_,rfl,(Walks.tuple (A:=X.A.in1) (show X.A.in1.handled=none from I.ok.hd hc) _ a hne its.toArray).toS,⟨⟨_,Pu _ rfl,rfl,rfl⟩,(show s.heap.IsTuple a its.toArray from pl).at fun o e=>Pt _ e⟩,fun b hb=>?_,by simp[hI.length,hpos],cmp its hI,fun v s' hv hm=>core its _ hI v s' hv hm⟩;obtain⟨o,e,_⟩:=pl;have:=OU e;simp only[O5,Sg,Sh]at hb;show b<(s.heap.push _).objs.size;rw[SE];rcases hb with rfl|rfl
  ·exact QW _
  ·exact QX this
theorem σ0 (hc:X.calm=true):cY X (.builtin "max") (HD X.K):=by
 intro pins s B H xs us Q I r h;obtain⟨a,ns,rfl,ha,hne,q⟩:=h;obtain⟨u,rfl,ru⟩:=fH r;cases ru;have hpos:0<ns.length:=List.length_pos_iff.mpr hne
 have core:∀(its:List Value)(o:Obj),IntsAre its ns->∀v s',its.toArray[argBest (fun i j=>decide (ns.getD i 0>ns.getD j 0)) (its.toArray.size-1)]?=some v->Moved [s.heap.objs.size] (fun a b=>b=a) {s with heap:=s.heap.push o} s'->EP X pins B Q v s':=by
  intro its o hI v s' hv hm;obtain⟨t,rfl,hi⟩:=lX hI hv;have hsz:its.toArray.size-1=ns.length-1:=by rw[PH,hI.length]
  rw[hsz]at hi⊢;obtain⟨b1,b2⟩:=argBest_gt (fun i=>ns.getD i 0) (ns.length-1);obtain⟨hh,g,d,tk,os⟩:=s';have e1:g=s.gens:=hm.gens;have e2:d=s.drawn:=hm.drawn;have e3:os=s.os:=hm.os;subst e1 e2 e3;refine⟨.int _,H,I.fresh_it (o:=o) (h':=hh) (tk:=tk) fun b ob hb e=>hm.heap b ob hb e,⟨t,rfl⟩,q _ (xt hi) fun j hj=>?_⟩;obtain⟨i,hi',rfl⟩:=xn hj;exact b2 i (by omega)
 have cmp:∀(its:List Value),IntsAre its ns->CmpOf X.prog X.w X.A.in1 .Gt (fun i v=>its.toArray[i]?=some v) (fun i j=>decide (ns.getD i 0>ns.getD j 0)):=by
  intro its hI i j vi vj s' Q' E' h1 h2 hQ;obtain⟨t1,rfl,_⟩:=lX hI h1;obtain⟨t2,rfl,_⟩:=lX hI h2;exact(PyProof.Rows.gt_int hQ:wpAny _ _ (compareOp .Gt _ _) _ _ _)
 rcases ha with ha|ha
 ·obtain ⟨its, rv, pl, hz⟩ := I.list ha;have hI:IntsAre its ns:=g9 rv
  have hne:a≠s.heap.objs.size:=by
   obtain⟨o,n,e,_⟩:=pl;exact OX (OU e)
  refine call_max_walkS (Sf pl.isList ?_);refine⟨s.heap.objs.size,[s.heap.objs.size,a],[s.heap.objs.size],_,_,_,_,_,rfl,(Sj (A:=X.A.in1) (show X.A.in1.handled=none from I.ok.hd hc) _ a hne its.toArray).toS,⟨⟨_,Pu _ rfl,rfl,rfl⟩,pl.isList.at fun o e=>Pt _ e⟩,fun b hb=>?_,by simp[hI.length,hpos],cmp its hI,fun v s' hv hm=>core its _ hI v s' hv hm⟩;obtain⟨o,n,e,_⟩:=pl;have:=OU e;simp only[O5,Sg,Sh]at hb;show b<(s.heap.push _).objs.size;rw[SE];rcases hb with rfl|rfl
  ·exact QW _
  ·exact QX this
 ·obtain ⟨its, rv, pl, hz⟩ := I.tuple ha;have hI:IntsAre its ns:=g9 rv
  have hne:a≠s.heap.objs.size:=by
   obtain⟨o,e,_⟩:=pl;exact OX (OU e)
  refine call_max_walkS (Tc (show s.heap.IsTuple a its.toArray from pl) ?_);refine⟨s.heap.objs.size,[s.heap.objs.size,a],[s.heap.objs.size],_,_,_,_,_,rfl,(Walks.tuple (A:=X.A.in1) (show X.A.in1.handled=none from I.ok.hd hc) _ a hne its.toArray).toS,⟨⟨_,Pu _ rfl,rfl,rfl⟩,(show s.heap.IsTuple a its.toArray from pl).at fun o e=>Pt _ e⟩,fun b hb=>?_,by simp[hI.length,hpos],cmp its hI,fun v s' hv hm=>core its _ hI v s' hv hm⟩;obtain⟨o,e,_⟩:=pl;have:=OU e;simp only[O5,Sg,Sh]at hb;show b<(s.heap.push _).objs.size;rw[SE];rcases hb with rfl|rfl
  ·exact QW _
  ·exact QX this
end
def LH:List Int->Int
 |[]=>0
 |x::r=>r.foldl min x
def LI:List Int->Int
 |[]=>0
 |x::r=>r.foldl max x
theorem BN(r:List Int):∀x:Int,(r.foldl min x=x\/r.foldl min x∈r)/\r.foldl min x<=x/\∀j∈r,r.foldl min x<=j:=by
 induction r with
 |nil=>intro x;exact⟨.inl rfl,Int.le_refl _,fun j hj=>by simp at hj⟩
 |cons y r ih=>
  intro x;obtain⟨h1,h2,h3⟩:=ih (min x y);rw[QL];have m1:min x y<=x:=Int.min_le_left _ _;have m2:min x y<=y:=Int.min_le_right _ _;refine⟨?_,by omega,fun j hj=>?_⟩
  ·rcases h1 with h | h
   ·rcases (by omega : min x y = x \/ min x y = y) with e | e
    ·exact .inl (by omega)
    ·exact .inr (by rw[h,e];exact O3)
   ·exact .inr (O4 _ h)
  ·rcases O5.mp hj with e | e
   ·rw[e];omega
   ·exact h3 j e
theorem BO(r:List Int):∀x:Int,(r.foldl max x=x\/r.foldl max x∈r)/\x<=r.foldl max x/\∀j∈r,j<=r.foldl max x:=by
 induction r with
 |nil=>intro x;exact⟨.inl rfl,Int.le_refl _,fun j hj=>by simp at hj⟩
 |cons y r ih=>
  intro x;obtain⟨h1,h2,h3⟩:=ih (max x y);rw[QL];have m1:x<=max x y:=Int.le_max_left _ _;have m2:y<=max x y:=Int.le_max_right _ _;refine⟨?_,by omega,fun j hj=>?_⟩
  ·rcases h1 with h | h
   ·rcases (by omega : max x y = x \/ max x y = y) with e | e
    ·exact .inl (by omega)
    ·exact .inr (by rw[h,e];exact O3)
   ·exact .inr (O4 _ h)
  ·rcases O5.mp hj with e | e
   ·rw[e];omega
   ·exact h3 j e
theorem GH(h:m∈ns)(hm:∀j∈ns,m<=j):m=LH ns:=by
 cases ns with
 |nil=>simp at h
 |cons x r=>
  obtain⟨h1,h2,h3⟩:=BN r x
  have a1:m<=r.foldl min x:=by
   rcases h1 with e|e
   ·rw[e];exact hm x O3
   ·exact hm _ (O4 _ e)
  have a2:r.foldl min x<=m:=by
   rcases O5.mp h with e|e
   ·rw[e];exact h2
   ·exact h3 m e
  exact To a1 a2
theorem GI(h:m∈ns)(hm:∀j∈ns,j<=m):m=LI ns:=by
 cases ns with
 |nil=>simp at h
 |cons x r=>
  obtain⟨h1,h2,h3⟩:=BO r x
  have a1:r.foldl max x<=m:=by
   rcases h1 with e|e
   ·rw[e];exact hm x O3
   ·exact hm _ (O4 _ e)
  have a2:m<=r.foldl max x:=by
   rcases O5.mp h with e|e
   ·rw[e];exact h2
   ·exact h3 m e
  exact To a2 a1
def E5(d:D)(Y:au):Option (List Int):=match d with
 |.tup xs=>jn xs
 |.frz xs=>jn xs
 |.obj n=>match Y[n]? with
  |some (.lst xs)=>jn xs
  |_=>none
 |_=>none
theorem Ac(S:p.S H Z Y)(r:p.R H Z d v)(h:E5 d Y=some ns):∃a,v=.ref a/\(fK p.K H a (ns.map V.int)\/gr p.K H a (ns.map V.int)):=by
 unfold E5 at h;split at h
 ·obtain⟨a,us,rfl,h1,rr⟩:=aQ.mp r;rw[gk h]at rr;exact⟨a,rfl,.inr (by rw[<- rr.ints];exact h1)⟩
 ·obtain⟨a,us,rfl,h1,rr⟩:=bx.mp r;rw[gk h]at rr;exact⟨a,rfl,.inl (by rw[<- rr.ints];exact h1.sq)⟩
 ·split at h
  ·rename_i xs hx;obtain⟨a,us,rfl,a1,h1,rr⟩:=dh S r hx;rw[gk h]at rr;exact⟨a,rfl,.inl (by rw[<- rr.ints];exact fK.of h1)⟩
  ·cases h
 ·cases h
def AQ(ds:List D)(Y:au):ai D:=match ds with
 |[d]=>match E5 d Y with
  |some (n::ns)=>.ok (.int (LH (n::ns))) Y
  |_=>.bad
 |ds=>CN ds Y
def tf(ds:List D)(Y:au):ai D:=match ds with
 |[d]=>match E5 d Y with
  |some (n::ns)=>.ok (.int (LI (n::ns))) Y
  |_=>.bad
 |ds=>wx ds Y
theorem J3:vS p AQ (fun xs H Q=>HC p.K xs H Q\/∃i j,xs=[.int i,.int j]/\Q (.int (if j<i then j else i)) H):=by
 intro ds vs H Z Y Q S r P;unfold AQ at P;split at P
 ·rename_i d;split at P
  ·rename_i n ns hns;obtain⟨v,rfl,r1⟩:=r.one;obtain⟨a,rfl,h1⟩:=Ac S r1 hns;refine .inl ⟨a,n::ns,rfl,h1,by simp,fun m hm hj=>?_⟩;rw[GH hm hj];exact P.now S _ (az.mpr rfl)
  ·exact P.elim
 ·exact .inr (Gx ds vs H Z Y Q S r P)
theorem J4:vS p tf (fun xs H Q=>HD p.K xs H Q\/∃i j,xs=[.int i,.int j]/\Q (.int (if j>i then j else i)) H):=by
 intro ds vs H Z Y Q S r P;unfold tf at P;split at P
 ·rename_i d;split at P
  ·rename_i n ns hns;obtain⟨v,rfl,r1⟩:=r.one;obtain⟨a,rfl,h1⟩:=Ac S r1 hns;refine .inl ⟨a,n::ns,rfl,h1,by simp,fun m hm hj=>?_⟩;rw[GI hm hj];exact P.now S _ (az.mpr rfl)
  ·exact P.elim
 ·exact .inr (Gy ds vs H Z Y Q S r P)
def ly(o1 o2:D->D->au->ai D)(fa fb fc:ME):ME:=fun ρ Y=>(fa ρ Y).bind fun a Y1=>(fb ρ Y1).bind fun b Y2=>(o1 a b Y2).bind fun z Y3=>(zG z Y3).bind fun k Y4=>
 if k=true then (fc ρ Y4).bind fun c Y5=>o2 b c Y5 else .ok (.bl false) Y4
def qL(o1 o2 o3:D->D->au->ai D)(fa fb fc fd:ME):ME:=fun ρ Y=>(fa ρ Y).bind fun a Y1=>(fb ρ Y1).bind fun b Y2=>(o1 a b Y2).bind fun z Y3=>(zG z Y3).bind fun k Y4=>
 if k=true then (fc ρ Y4).bind fun c Y5=>(o2 b c Y5).bind fun z2 Y6=>(zG z2 Y6).bind fun k2 Y7=>if k2=true then (fd ρ Y7).bind fun d Y8=>o3 c d Y8 else .ok (.bl false) Y7 else .ok (.bl false) Y4
def FC(r r' r'':R2)(ta tb tc td:TE):TE:=fun B H Q=>ta B H fun x H1=>tb B H1 fun y H2=>r x y H2 fun z H3=>∃k,z=.bl k /\
 (if k=true then tc B H3 fun w' H4=>r' y w' H4 fun z' H5=>∃k',z'=.bl k'/\(if k'=true then td B H5 fun v' H6=>r'' w' v' H6 Q else Q (.bl false) H5) else Q (.bl false) H3)
section
variable{X:Cx}{a b d:Expr}{tb tc td:TE}{fb fc fd:ME}{op' op'':CmpOp}{r r' r'':R2}{o1 o2 o3:D->D->au->ai D}
theorem Bn(ho:iJ X (compareOp op) r)(ho':iJ X (compareOp op') r')(ho'':iJ X (compareOp op'') r'')(ha:PE X a ta)(hb:PE X b tb)(hc:PE X c tc)(hd:PE X d td)
  (hm:lastMarks [op,op',op''] [b,c,d]=false):PT X (.Compare a [op,op',op''] [b,c,d] pos) (zM (FC r r' r'' ta tb tc td)):=by
 intro pins s B H Q I h
 refine isTrue_chain (d8 (ha pins s B H _ I h) fun v s1 ⟨x,H1,I1,r1,q1⟩=>test_link (d8 (hb pins s1 B H1 _ I1 q1) fun u s2 ⟨y,H2,I2,r2,q2⟩=>
  d8 (ho pins s2 B H2 x y v u _ I2 r1 r2 q2) fun d s3 ⟨z,H3,I3,r3,k,e,q3⟩=>?_)) hm
 subst e;cases r3;refine Pf ?_;cases k with
 |false=>
  obtain⟨k',e',q'⟩:=q3;cases e';exact ite_ff ⟨H3,I3,q'⟩
 |true=>
  refine ite_tt (test_link (d8 (hc pins s3 B H3 _ I3 q3) fun w' s4 ⟨z',H4,I4,r4,q4⟩=>d8 (ho' pins s4 B H4 y z' u w' _ I4 r2 r4 q4) fun d' s5 ⟨z2,H5,I5,r5,k2,e2,q5⟩=>?_));subst e2;cases r5;refine Pf ?_;cases k2 with
  |false=>
   obtain⟨k',e',q'⟩:=q5;cases e';exact ite_ff ⟨H5,I5,q'⟩
  |true=>
   refine ite_tt (test_last (d8 (hd pins s5 B H5 _ I5 q5) fun w'' s6 ⟨z'',H6,I6,r6,q6⟩=>d8 (ho'' pins s6 B H6 z' z'' w' w'' _ I6 r4 r6 q6) fun d'' s7 ⟨z7,H7,I7,r7,k7,e7,q7⟩=>?_));subst e7;cases r7;exact Pf ⟨H7,I7,q7⟩
theorem sC(hd1:qd p o1 r)(hd2:qd p o2 r'){Q:VK}(h:tD p (ly o1 o2 fa fb fc) B H Q):yv r r' (tD p fa) (tD p fb) (tD p fc) B H Q:=by
 obtain⟨Z,ρ,Y,S,R,P⟩:=h;refine⟨Z,ρ,Y,S,R,(aP.bind P).imp fun x Y1 H1 Z1 X1 S1 P1 v rv=>⟨Z1,ρ,Y1,S1,R.mono X1,(aP.bind P1).imp fun y Y2 H2 Z2 X2 S2 P2 u ru=>?_⟩⟩;refine hd1 x y v u H2 Z2 Y2 _ S2 (rv.mono X2) ru ((aP.bind P2).imp fun z Y3 H3 Z3 X3 S3 P3 w rw'=>?_);obtain⟨k,_,e,q⟩:=mR (aP.bind P3) rw' S3;refine⟨k,e,?_⟩;cases k with
 |true=>
  rw[OS rfl]at q⊢;exact⟨Z3,ρ,Y3,S3,((R.mono X1).mono X2).mono X3,(aP.bind q).imp fun c Y5 H5 Z5 X5 S5 P5 t rt=>hd2 y c u t H5 Z5 Y5 Q S5 ((ru.mono X3).mono X5) rt P5⟩
 |false=>rw[OT PD]at q⊢;exact q.now S3 _ (aU.mpr rfl)
theorem DR(ho:iJ X (compareOp op) r)(ho':iJ X (compareOp op') r')(hd1:qd p o1 r)(hd2:qd p o2 r')(ha:PE X a (tD p fa))(hb:PE X b (tD p fb))(hc:PE X c (tD p fc))
  (hm:lastMarks [op,op'] [b,c]=false):PE X (.Compare a [op,op'] [b,c] pos) (tD p (ly o1 o2 fa fb fc)):=(D7 ho ho' ha hb hc hm).weak fun B H Q h=>sC hd1 hd2 h
theorem tU{t:TE}{f:ME}(hk:∀B H Q,tD p f B H Q->t B H Q){Q:Bool->Hp->Prop}(h:jk p (gY f) B H Q):zM t B H Q:=by
 obtain⟨Z,ρ,Y,S,R,P⟩:=h;refine hk B H _ ⟨Z,ρ,Y,S,R,(aP.bind P).imp fun d Y1 H1 Z1 X1 S1 P1 v rv=>?_⟩;obtain⟨k,_,e,q⟩:=mR P1 rv S1;exact⟨k,e,q⟩
theorem DB(ho:iJ X (compareOp op) r)(ho':iJ X (compareOp op') r')(hd1:qd p o1 r)(hd2:qd p o2 r')(ha:PE X a (tD p fa))(hb:PE X b (tD p fb))(hc:PE X c (tD p fc))
  (hm:lastMarks [op,op'] [b,c]=false):PT X (.Compare a [op,op'] [b,c] pos) (jk p (gY (ly o1 o2 fa fb fc))):=(DY ho ho' ha hb hc hm).weak fun B H Q h=>tU (fun B H Q h=>sC hd1 hd2 h) h
theorem A4(ho:iJ X (compareOp op) r)(ho':iJ X (compareOp op') r')(ho'':iJ X (compareOp op'') r'')(hd1:qd p o1 r)(hd2:qd p o2 r')(hd3:qd p o3 r'')(ha:PE X a (tD p fa))(hb:PE X b (tD p fb))(hc:PE X c (tD p fc))(hd:PE X d (tD p fd))
  (hm:lastMarks [op,op',op''] [b,c,d]=false):PT X (.Compare a [op,op',op''] [b,c,d] pos) (jk p (gY (qL o1 o2 o3 fa fb fc fd))):=(Bn ho ho' ho'' ha hb hc hd hm).weak fun B H Q h=>tU (fun B H Q h=>by
 obtain⟨Z,ρ,Y,S,R,P⟩:=h;refine⟨Z,ρ,Y,S,R,(aP.bind P).imp fun x Y1 H1 Z1 X1 S1 P1 v rv=>⟨Z1,ρ,Y1,S1,R.mono X1,(aP.bind P1).imp fun y Y2 H2 Z2 X2 S2 P2 u ru=>?_⟩⟩;refine hd1 x y v u H2 Z2 Y2 _ S2 (rv.mono X2) ru ((aP.bind P2).imp fun z Y3 H3 Z3 X3 S3 P3 w rw'=>?_);obtain⟨k,_,e,q⟩:=mR (aP.bind P3) rw' S3;refine⟨k,e,?_⟩;cases k with
 |true=>
  rw[OS rfl]at q⊢;refine⟨Z3,ρ,Y3,S3,((R.mono X1).mono X2).mono X3,(aP.bind q).imp fun c Y5 H5 Z5 X5 S5 P5 t rt=>?_⟩;refine hd2 y c u t H5 Z5 Y5 _ S5 ((ru.mono X3).mono X5) rt ((aP.bind P5).imp fun z2 Y6 H6 Z6 X6 S6 P6 w2 rw2=>?_);obtain⟨k2,_,e2,q2⟩:=mR (aP.bind P6) rw2 S6;refine⟨k2,e2,?_⟩;cases k2 with
  |true=>
   rw[OS rfl]at q2⊢;exact⟨Z6,ρ,Y6,S6,((((R.mono X1).mono X2).mono X3).mono X5).mono X6,(aP.bind q2).imp fun d Y7 H7 Z7 X7 S7 P7 t7 rt7=>hd3 c d t t7 H7 Z7 Y7 _ S7 ((rt.mono X6).mono X7) rt7 P7⟩
  |false=>rw[OT PD]at q2⊢;exact q2.now S6 _ (aU.mpr rfl)
 |false=>rw[OT PD]at q⊢;exact q.now S3 _ (aU.mpr rfl)) h
def Ci(d:D)(Y:au):ai Bool:=match d with
 |.non=>.ok false Y
 |.bl b=>.ok b Y
 |.int i=>.ok (i != 0) Y
 |.str x=>if x.length<=sizeLine then .ok ((x.length:Int) != 0) Y else .bad
 |.tup xs=>.ok (!xs.isEmpty) Y
 |.frz xs=>.ok (!xs.isEmpty) Y
 |.obj n=>match Y[n]? with
  |some (.lst xs)=>.ok (!xs.isEmpty) Y
  |_=>.bad
def gu(f:ME):MT:=fun ρ Y=>(f ρ Y).bind Ci
theorem Reps.isEmpty(r:Reps K H Z xs vs):vs.isEmpty=xs.isEmpty:=by
 have:=r.length;cases xs with
 |nil=>have h:vs=[]:=Th (by simpa using this);rw[h];rfl
 |cons x r=>cases vs with
  |nil=>simp at this
  |cons _ _=>rfl
theorem Ft{d:D}{R:Bool->au->Hp->List Addr->Prop}(S:p.S H Z Y)(r:p.R H Z d v)(P:aP p H Z (Ci d Y) R):∃k,Iq p.K v H k/\R k Y H Z:=by
 unfold Ci at P;split at P
 ·rw[bL.mp r];exact⟨false,rfl,P.now S⟩
 ·rename_i b;rw[aU.mp r];exact⟨b,rfl,P.now S⟩
 ·rename_i i;rw[az.mp r];exact⟨_,rfl,P.now S⟩
 ·rename_i x;split at P
  ·rename_i hl;rw[bq.mp r];exact⟨_,⟨hl,rfl⟩,P.now S⟩
  ·exact P.elim
 ·obtain⟨a,vs,rfl,h1,h2⟩:=aQ.mp r;exact⟨_,.inr (.inl ⟨vs,h1,by rw[h2.isEmpty]⟩),P.now S⟩
 ·obtain⟨a,vs,rfl,h1,h2⟩:=bx.mp r;exact⟨_,.inl ⟨vs,h1.sq,by rw[h2.isEmpty]⟩,P.now S⟩
 ·split at P
  ·rename_i xs hx;obtain⟨a,us,rfl,a1,h1,rr⟩:=dh S r hx;exact⟨_,.inl ⟨us,fK.of h1,by rw[rr.isEmpty]⟩,P.now S⟩
  ·exact P.elim
theorem DA{f:ME}(hK:X.K=p.K)(h:PE X e (tD p f))(he:∀whole,isTrue e X.env whole=(do let v <- whole;standAt e.pos;holding [v] (truthy v))):PT X e (jk p (gu f)):=
 (DW h he).weak fun B H Q ⟨Z, ρ, Y, S, R, P⟩ => ⟨Z, ρ, Y, S, R, (aP.bind P).imp fun d Y1 H1 Z1 X1 S1 P1 v rv => by
  rw[hK];exact Ft S1 rv P1⟩
def LZ:TE:=fun _ H Q=>∀q,H q=none->Q (.ref q) (dk H q (.dK []))
theorem Gh:PE X (.Dict [] [] pos) LZ:=fun pins s B H Q I h=>by
 have hb:sysModules<s.heap.objs.size:=Nat.lt_trans (by decide) (I.mod.glob.keeps I.bk).lt;refine wpAny_Dict_empty ⟨.ref s.heap.objs.size,_,I.laid (a:=s.heap.objs.size) (o:=.dK []) (t':=s.toks) (fun _ _ q=>Pt _ q) (Pv _) ?_,rfl,h _ (I.hok.fresh (Pv _))⟩;exact⟨Q4 _,OQ.mpr (O6 (OX hb)),[],.nil,Heap.DictOf.new s.heap⟩
def AS:ME:=fun _ Y=>.ok (.obj Y.length) (Y++[.dic])
theorem Jn:PE X (.Dict [] [] pos) (tD p AS):=Gh.weak fun B H Q ⟨Z,ρ,Y,S,R,P⟩ q hq=>by
 have x1:p.X H (dk H q (.dK [])) Z (Z++[q]):=(cv hq).trans (jR [q]);exact P _ _ x1 (S.more hq cP) _ (aX.mpr ⟨q,rfl,by rw[<- S.len];simp⟩)
def Ln(p:Pa)(f:D->List D->au->ai D)(r:V->List V->Hp->VK->Prop):Prop:=∀d ds v vs H Z Y Q,p.S H Z Y->p.R H Z d v->p.Rs H Z ds vs->aP p H Z (f d ds Y) (RV p Q)->r v vs H Q
def zE(d:D)(Y:au):Bool:=match d with
 |.obj n=>match Y[n]? with
  |some (.lst _)=>true
  |_=>false
 |_=>false
def AI(f:D->List D->au->ai D)(fo:ME)(fr:MA):ME:=fun ρ Y=>(fo ρ Y).bind fun o Y1=>if zE o Y1=true then (fr ρ Y1).bind fun ds Y2=>f o ds Y2 else .bad
theorem KG{d:D}(S:p.S H Z Y)(r:p.R H Z d v)(h:zE d Y=true):Nr p.K "list" v H:=by
 unfold zE at h;split at h
 ·split at h
  ·rename_i xs hx;obtain⟨a,us,rfl,a1,h1,rr⟩:=dh S r hx;exact .inl ⟨rfl,us,fK.of h1⟩
  ·cases h
 ·cases h
theorem zN{o:Expr}{es:List Expr}{fo:ME}{name:Str}{cpos:Pos}{id:String}{rr:V->List V->Hp->VK->Prop}{f:D->List D->au->ai D}(hK:X.K=p.K)(slot:Slot "list" name id)(hty:typeOf (.builtin id)=pure (.type "method_descriptor"))(hm:Ou X id rr)(hf:Ln p f rr)(ho:PE X o (tD p fo))(ha:PA X (e::es) (ni p fr))(hbase:attributeBase o name X.env (eval o X.env)=eval o X.env)(hfew : ((backTo cpos (starEach (e :: es) X.env)).all (fun x => !x.1) && (backToKw cpos (keywordEach [] X.env)).all (fun x => x.1.isSome)
   && decide ((e::es).length+([]:List Keyword).length+(if ([]:List Keyword).isEmpty then 0 else 1)<30))=true)(hline:(apos.endLine == cpos.line)=true)(hs:starEach (e::es) X.env=(false,eval e X.env)::starEach es X.env)(hplain:(backTo cpos (starEach es X.env)).any (·.1)=false):
  PE X (.Call (.Attribute o name apos) (e::es) [] cpos) (tD p (AI f fo fr)):=
 (Mm PySem.F.plainAttrs_list slot hty hm ho ha hbase hfew hline hs hplain).weak fun B H Q ⟨Z, ρ, Y, S, R, P⟩ => ⟨Z, ρ, Y, S, R, (aP.bind P).imp fun d Y1 H1 Z1 X1 S1 P1 v rv => by
  by_cases hl:zE d Y1=true
  ·rw[OS hl]at P1;rw[hK];exact⟨KG S1 rv hl,Z1,ρ,Y1,S1,R.mono X1,(aP.bind P1).imp fun ds Y2 H2 Z2 X2 S2 P2 vs rs=>hf d ds v vs H2 Z2 Y2 Q S2 (rv.mono X2) rs P2⟩
  ·rw[OT hl]at P1;exact P1.elim⟩
def ie(d:D)(ds:List D)(Y:au):ai D:=match d,ds with
 |.obj n,[y]=>match Y[n]? with
  |some (.lst xs)=>if xs.length<sizeLine then .ok .non (Y.set n (.lst (xs++[y]))) else .bad
  |_=>.bad
 |_,_=>.bad
theorem GG:Ln p ie Af:=by
 intro d ds v vs H Z Y Q S rd rs P;unfold ie at P;split at P
 ·rename_i n y;split at P
  ·rename_i xs hx;split at P
   ·rename_i hb;obtain⟨a,us,rfl,a1,h1,rr⟩:=dh S rd hx;obtain⟨w,rfl,rw'⟩:=rs.one;have q:=rr.snoc rw';exact⟨a,us,w,rfl,rfl,h1,by rw[rr.length];exact hb,P _ _ (km h1) (S.put hx a1 h1 q) _ (bL.mpr rfl)⟩
   ·exact P.elim
  ·exact P.elim
 ·exact P.elim
end
abbrev dX(K:W.Frag)(w:World):Pa:=⟨K,w,fun _ _ _ _=>False⟩
abbrev sX:D->D->au->ai D:=dI fun i j=>.int (i-j)
noncomputable abbrev wA:D->D->au->ai D:=EX Fe fun i j=>.int (i / j)
noncomputable abbrev vZ:D->D->au->ai D:=EX (fun _ j=>0<j) fun i j=>.int (i%j)
noncomputable abbrev sZ:D->D->au->ai D:=EX yp fun i j=>.int (i^j.toNat)
def uU(N:List Str)(sc scope:Scope)(Nc:List Str)(cap:List (Option Nat)):Bool:=
 (scope.kind == .function)&&scope.names.all (fun y=>scope.names.lookup y.1 == some y.2) &&
 scope.names.all (fun y=>y.2 != .free || sc.names.lookup y.1 == some .cell || sc.names.lookup y.1 == some .free)&&gX N {scope:=sc,globals:=0,builtins:=0,locals:=0,cells:=[],qual:="",func:=none,code:=.none,frame:=none} scope Nc cap
theorem oY{N:List Str}{e1 e2:Env}{scope:Scope}:∀{Nc:List Str}{cap:List (Option Nat)},gX N e1 scope Nc cap=gX N e2 scope Nc cap
 |[],[]=>rfl
 |_::_,[]=>rfl
 |[],_::_=>rfl
 |_::Nc,none::cap=>by unfold gX;exact oY
 |x::Nc,some j::cap=>by unfold gX;rw[oY (Nc:=Nc) (cap:=cap) (e1:=e1) (e2:=e2)]
theorem uy{X:Cx}{cap:List (Option Nat)}(hN:X.N=N)(hk:∀x,(sc.names.lookup x=some .cell\/sc.names.lookup x=some .free)->X.env.kindOf x=some .cell\/X.env.kindOf x=some .free)(h:uU N sc scope Nc cap=true):cV X.N X.env scope Nc cap:=by
 unfold uU at h;simp only[Qy]at h;obtain⟨⟨⟨h1,h3⟩,h4⟩,h5⟩:=h;refine⟨eq_of_beq h1,fun y hy=>?_,fun y hy hf=>?_,?_⟩
 ·exact eq_of_beq (RP.mp h3 y hy)
 ·have := RP.mp h4 y hy;simp only[Tp,hf]at this;refine hk _ ?_;rcases this with (z|z)|z
  ·exact absurd z (by decide)
  ·exact .inl (eq_of_beq z)
  ·exact .inr (eq_of_beq z)
 ·rw[hN,oY];exact h5
theorem bT{X:Cx}{cap:List (Option Nat)}(hN:X.N=N)(hs:X.env.scope=sc)(h:uU N sc scope Nc cap=true):cV X.N X.env scope Nc cap:=
 uy hN (fun x hx=>by subst hs;exact hx) h
theorem Hf{X:Cx}{cap:List (Option Nat)}(hN:X.N=N)(hs:X.env.scope=relabel sc env)(h:uU N sc scope Nc cap=true):cV X.N X.env scope Nc cap:=
 uy hN (fun x hx=>by
  have e:X.env.kindOf x=(sc.names.lookup x).map fun k=>if (k == NameKind.free&&env.scope.kind == .function&&env.kindOf x == some .cell) then NameKind.cell else k:=by
   have:X.env.kindOf x=(relabel sc env).names.lookup x:=by rw[<- hs];rfl
   rw[this];exact jc
  rw[e];rcases hx with z|z
  ·rw[z];exact .inl rfl
  ·rw [z];show some (if _ then _ else _)=_\/some (if _ then _ else _)=_;split
   ·exact .inl rfl
   ·exact .inr rfl) h
structure Bx(P:Prop):Prop where
 h:P
section
variable{X:Cx}{a b d:Expr}{es:List Expr}{fb fc fd f:ME}{ft gt:MT}
theorem aG(i:Nat)(hN:X.N[i]?=some x:=by rfl)(hv:Ny X.env.scope x:=by first|exact Or.inl rfl|exact Or.inr (Or.inl rfl)|exact Or.inr (Or.inr rfl))(hd:(x == ("__debug__" : Str))=false:=by decide)(hcd:(x == ("__classdict__" : Str))=false:=by decide):Bx (PE X (.Name x pos) (tD p (ah i))):=⟨Ji (JH hN hv hd hcd)⟩
theorem bA{i j}:Bx (PE X (.Constant (.int i) j pos) (tD p (cC (.int i)))):=⟨Ck JO fun _ _=>az.mpr rfl⟩
theorem oo{i j}:Bx (PE X (.Constant (.bool i) j pos) (tD p (cC (.bl i)))):=⟨Ck Mn fun _ _=>aU.mpr rfl⟩
theorem zD{j}:Bx (PE X (.Constant .none j pos) (tD p (cC .non))):=⟨Ck JM fun _ _=>bL.mpr rfl⟩
theorem yd{x j}:Bx (PE X (.Constant (.str x) j pos) (tD p (cC (.str x)))):=⟨Ck JJ fun _ _=>bq.mpr rfl⟩
theorem ND{i:Int}(h:∃t,X.mg x=some (.int i t))(hg:Gl X x:=by rfl)(hd:(x == ("__debug__" : Str))=false:=by decide):Bx (PE X (.Name x pos) (tD p (cC (.int i)))):=Bx.mk (by
 obtain⟨t,ht⟩:=h
 exact Ck (Ai (v:=.int i) hg ht ⟨t,rfl⟩ hd) fun _ _=>az.mpr rfl)
theorem cy(ha:Bx (PE X a (tD p fa)))(hb:Bx (PE X b (tD p fb)))(hK:X.K=p.K:=by rfl):Bx (PE X (.BinOp a .Add b pos) (tD p (aH bN fa fb))):=⟨oE (r:=CD p.K) (hK ▸ Gw) Ke ha.h hb.h⟩
theorem zI(ha:Bx (PE X a (tD p fa)))(hb:Bx (PE X b (tD p fb))):Bx (PE X (.BinOp a .Sub b pos) (tD p (aH sX fa fb))):=⟨oE JR (NT fun _ _ _ _=>az.mpr rfl) ha.h hb.h⟩
theorem zK(ha:Bx (PE X a (tD p fa)))(hb:Bx (PE X b (tD p fb))):Bx (PE X (.BinOp a .Mult b pos) (tD p (aH mK fa fb))):=⟨oE Gq Ka ha.h hb.h⟩
theorem CS(ha:Bx (PE X a (tD p fa)))(hb:Bx (PE X b (tD p fb))):Bx (PE X (.BinOp a .FloorDiv b pos) (tD p (aH wA fa fb))):=⟨oE Gr (CI fun _ _ _ _=>az.mpr rfl) ha.h hb.h⟩
theorem we(ha:Bx (PE X a (tD p fa)))(hb:Bx (PE X b (tD p fb))):Bx (PE X (.BinOp a .Mod b pos) (tD p (aH vZ fa fb))):=⟨oE JW (CI fun _ _ _ _=>az.mpr rfl) ha.h hb.h⟩
theorem zJ(ha:Bx (PE X a (tD p fa)))(hb:Bx (PE X b (tD p fb))):Bx (PE X (.BinOp a .Pow b pos) (tD p (aH sZ fa fb))):=⟨oE JT (CI fun _ _ _ _=>az.mpr rfl) ha.h hb.h⟩
theorem mx(ha:Bx (PE X a (tD p fa))):Bx (PE X (.UnaryOp .USub a pos) (tD p (jE nt fa))):=⟨L9 IC Kf ha.h⟩
structure kX(X:Cx)(p:Pa)(op:CmpOp)(o:D->D->au->ai D):Prop where
 ex:∃r,iJ X (compareOp op) r/\qd p o r
theorem ym(hu:X.A.units+64<cLine)(hK:X.K=p.K:=by rfl):kX X p .Eq (kZ false):=⟨AL p.K false,hK ▸ Dc hu,CH⟩
theorem oz(hu:X.A.units+64<cLine)(hK:X.K=p.K:=by rfl):kX X p .NotEq (kZ true):=⟨AL p.K true,hK ▸ JU hu,CH⟩
theorem vY(hu:X.A.units+64<cLine)(hK:X.K=p.K:=by rfl):kX X p .In (oq false):=⟨Cm p.K false,hK ▸ JY hu,HI⟩
theorem CK(hu:X.A.units+64<cLine)(hK:X.K=p.K:=by rfl):kX X p .NotIn (oq true):=⟨Cm p.K true,hK ▸ Bu hu,HI⟩
theorem Mu:kX X p .Is (nu false):=⟨_,JX,Kb⟩
theorem De:kX X p .IsNot (nu true):=⟨_,Gp,GD⟩
theorem jm(hu:X.A.units+64<cLine)(ho:wm op=true:=by rfl)(hK:X.K=p.K:=by rfl):kX X p op (il op):=⟨CB p.K op,hK ▸ Gs hu ho,Kd⟩
variable{op' op'':CmpOp}{o o' o'':D->D->au->ai D}
theorem tO(k:kX X p op o)(ha:Bx (PE X a (tD p fa)))(hb:Bx (PE X b (tD p fb)))(hm:behindInMarks op b=false:=by rfl):Bx (PE X (.Compare a [op] [b] pos) (tD p (aH o fa fb))):=Bx.mk (let ⟨_,h1,h2⟩:=k.ex;Jo h1 h2 ha.h hb.h hm)
theorem cz(k:kX X p op o)(ha:Bx (PE X a (tD p fa)))(hb:Bx (PE X b (tD p fb)))(hm:behindInMarks op b=false:=by rfl):Bx (PT X (.Compare a [op] [b] pos) (jk p (gY (aH o fa fb)))):=Bx.mk (let ⟨_,h1,h2⟩:=k.ex;IT h1 h2 ha.h hb.h hm)
theorem LP(k:kX X p op o)(k':kX X p op' o')(ha:Bx (PE X a (tD p fa)))(hb:Bx (PE X b (tD p fb)))(hc:Bx (PE X c (tD p fc)))(hm:lastMarks [op,op'] [b,c]=false:=by rfl):Bx (PE X (.Compare a [op,op'] [b,c] pos) (tD p (ly o o' fa fb fc))):=Bx.mk (let ⟨_,h1,h2⟩:=k.ex;let ⟨_,h3,h4⟩:=k'.ex;DR h1 h3 h2 h4 ha.h hb.h hc.h hm)
theorem LR(k:kX X p op o)(k':kX X p op' o')(ha:Bx (PE X a (tD p fa)))(hb:Bx (PE X b (tD p fb)))(hc:Bx (PE X c (tD p fc)))(hm:lastMarks [op,op'] [b,c]=false:=by rfl):Bx (PT X (.Compare a [op,op'] [b,c] pos) (jk p (gY (ly o o' fa fb fc)))):=Bx.mk (let ⟨_,h1,h2⟩:=k.ex;let ⟨_,h3,h4⟩:=k'.ex;DB h1 h3 h2 h4 ha.h hb.h hc.h hm)
theorem IL(k:kX X p op o)(k':kX X p op' o')(k'':kX X p op'' o'')(ha:Bx (PE X a (tD p fa)))(hb:Bx (PE X b (tD p fb)))(hc:Bx (PE X c (tD p fc)))(hd:Bx (PE X d (tD p fd)))(hm:lastMarks [op,op',op''] [b,c,d]=false:=by rfl):Bx (PT X (.Compare a [op,op',op''] [b,c,d] pos) (jk p (gY (qL o o' o'' fa fb fc fd)))):=Bx.mk (let ⟨_,h1,h2⟩:=k.ex;let ⟨_,h3,h4⟩:=k'.ex;let ⟨_,h5,h6⟩:=k''.ex;A4 h1 h3 h5 h2 h4 h6 ha.h hb.h hc.h hd.h hm)
theorem p8(h:Bx (PE X e (tD p f)))(he:∀whole,isTrue e X.env whole=(do let v <- whole;standAt e.pos;holding [v] (truthy v)):=by intro _;rfl)(hK:X.K=p.K:=by rfl):Bx (PT X e (jk p (gu f))):=⟨DA hK h.h he⟩
theorem Cv(ha:Bx (PT X a (jk p ft)))(hb:Bx (PW X (.BoolOp .And (b::rest) pos) (jk p gt))):Bx (PW X (.BoolOp .And (a::b::rest) pos) (jk p (pM ft gt))):=⟨IM ha.h hb.h⟩
theorem jF(ha:Bx (PT X a (jk p ft)))(hb:Bx (PW X (.BoolOp .Or (b::rest) pos) (jk p gt))):Bx (PW X (.BoolOp .Or (a::b::rest) pos) (jk p (ip ft gt))):=⟨L5 ha.h hb.h⟩
theorem yu(ha:Bx (PT X a (jk p ft))):Bx (PW X (.BoolOp .And [a] pos) (jk p ft)):=⟨F3 ha.h⟩
theorem iX(ha:Bx (PT X a (jk p ft))):Bx (PW X (.BoolOp .Or [a] pos) (jk p ft)):=⟨Ju ha.h⟩
theorem nz{op}(ha:Bx (PE X a (tD p fa))):Bx (PE X (.BoolOp op [a] pos) (tD p fa)):=⟨JK ha.h⟩
def Dd:Expr->Bool
 |.Starred _ _=>false
 |_=>true
theorem A3{a:Expr}{es:List Expr}(h:Dd a=true):starEach (a::es) env=(false,eval a env)::starEach es env:=by
 cases a <;> first|rfl|cases h
theorem aE(ha:Bx (PE X a (tD p fa)))(hr:Bx (PA X es (ni p fr)))(hs:Dd a=true:=by rfl):Bx (PA X (a::es) (ni p (ag fa fr))):=⟨F0 ha.h hr.h (A3 hs)⟩
theorem aY  : Bx (PA X [] (ni p aA)):=⟨Jq⟩
theorem aT{k:Nat}(h:dY X.prog X.w X.K X.mg X.base p k x n F)(hr:gv k X.A)(ha:Bx (PA X (a::es) (ni p fr)))(hg:Gl X x:=by rfl)(hdb:(x == ("__debug__" : Str))=false:=by decide)(he:starEach (a::es) X.env=(false,eval a X.env)::starEach es X.env:=by rfl)(hpl:(backTo pos (starEach es X.env)).any (·.1)=false:=by rfl):Bx (PE X (.Call (.Name x px) (a::es) [] pos) (tD p (aC F fr))):=⟨FZ h hr hg ha.h hdb he hpl⟩
structure qg(X:Cx)(p:Pa)(x:Str)(F:List D->au->ai D):Prop where
 ex:∃(u:Value) (r:List V->Hp->VK->Prop),((∃id,u=.builtin id)\/∃T,u=.type T)/\bootBuiltins x=some u/\cY X u r/\vS p F r/\x ≠ "__name__" /\ (x == ("__debug__" : Str))=false
theorem bG(k:qg X p x F)(hm:X.mg x=none)(ha:Bx (PA X (a::es) (ni p fr)))(hg:Gl X x:=by rfl)(he:starEach (a::es) X.env=(false,eval a X.env)::starEach es X.env:=by rfl)(hpl:(backTo pos (starEach es X.env)).any (·.1)=false:=by rfl):Bx (PE X (.Call (.Name x px) (a::es) [] pos) (tD p (aC F fr))):=Bx.mk (by
 obtain⟨u,r,hu,h1,h2,h3,h4,h5⟩:=k.ex;rcases hu with⟨id,rfl⟩|⟨T,rfl⟩
 ·exact DS h2 h3 hg hm h1 ha.h h4 h5 he hpl
 ·exact Bh h2 h3 hg hm h1 ha.h h4 h5 he hpl)
theorem jq (hK:X.K=p.K:=by rfl) (hw:X.w=p.w:=by rfl):qg X p "len" jG:=⟨_,_,.inl ⟨_,rfl⟩,PySem.boot_len,(EH.or σ1).or σ2,by rw[hK,hw];exact J6,by decide,by decide⟩
theorem rh (hc:X.calm=true:=by rfl) (hK:X.K=p.K:=by rfl):qg X p "all" qf:=⟨_,_,.inl ⟨_,rfl⟩,by decide +kernel,uB hc,hK ▸ J8,by decide,by decide⟩
theorem jw (hK:X.K=p.K:=by rfl):qg X p "tuple" gb:=⟨_,_,.inr ⟨_,rfl⟩,by decide +kernel,tJ,hK ▸ Eb,by decide,by decide⟩
theorem rC (hK:X.K=p.K:=by rfl):qg X p "list" kG:=⟨_,_,.inr ⟨_,rfl⟩,by decide +kernel,vM,hK ▸ Gz,by decide,by decide⟩
theorem MM:qg X p "int" wz:=⟨_,_,.inr ⟨_,rfl⟩,by decide +kernel,σ3,J7,by decide,by decide⟩
theorem ML (hc:X.calm=true:=by rfl) (hK:X.K=p.K:=by rfl):qg X p "min" AQ:=⟨_,_,.inl ⟨_,rfl⟩,by decide +kernel,(BY hc).or (BX hc),hK ▸ J3,by decide,by decide⟩
theorem CO (hc:X.calm=true:=by rfl) (hK:X.K=p.K:=by rfl):qg X p "max" tf:=⟨_,_,.inl ⟨_,rfl⟩,by decide +kernel,(σ0 hc).or (BZ hc),hK ▸ J4,by decide,by decide⟩
theorem HU (hu:X.A.units+64<cLine) (hc:X.calm=true:=by rfl) (hK:X.K=p.K:=by rfl) (hw:X.w=p.w:=by rfl):qg X p "set" sY:=⟨_,_,.inr ⟨_,rfl⟩,by decide +kernel,(BV hc hu).or (BW hc hu),by rw[hK,hw];exact J2,by decide,by decide⟩
theorem ir{T:String}{xT:Str}{pt:Pos}(hT:T∈["int", "bool", "tuple", "list", "str", "dict"])(hbT:bootBuiltins xT=some (.type T))(hnT:xT ≠ "__name__")(hdT:(xT == ("__debug__" : Str))=false)(hm:X.mg "isinstance" = none)(hmT:X.mg xT=none)(ha:Bx (PE X a (tD p fa)))(hg:Gl X "isinstance" := by rfl)(hgT:Gl X xT:=by rfl)(hs1:starEach [a,.Name xT pt] X.env=(false,eval a X.env)::starEach [.Name xT pt] X.env:=by rfl)(hK:X.K=p.K:=by rfl):Bx (PE X (.Call (.Name "isinstance" px) [a,.Name xT pt] [] pos) (tD p (jE (fm T) fa))):=⟨Jm hK hT hg hm hgT hmT hbT ha.h hnT hdT hs1⟩
theorem Dt:bootBuiltins "int" = some (.type "int"):=by decide +kernel
theorem vp:bootBuiltins "bool" = some (.type "bool"):=by decide +kernel
theorem eY:bootBuiltins "tuple" = some (.type "tuple"):=by decide +kernel
theorem Hh:bootBuiltins "list" = some (.type "list"):=by decide +kernel
theorem bP(ha:Bx (PE X a (tD p fa)))(hb:Bx (PE X b (tD p fb)))(hs:vt b:=by exact fun _ _=>rfl)(hK:X.K=p.K:=by rfl):Bx (PE X (.Subscript a b pos) (tD p (aH cW fa fb))):=⟨Ma hK ha.h hb.h hs⟩
theorem mI{lo hi:Option Expr}{fl fh:MO}{p2:Pos}(he:Bx (PE X e (tD p fa)))(hl:Bx (PO X lo (Hm p fl)))(hu:Bx (PO X hi (Hm p fh)))(hK:X.K=p.K:=by rfl):Bx (PE X (.Subscript e (.Slice lo hi none p2) pos) (tD p (vR fa fl fh))):=⟨DQ hK he.h hl.h hu.h⟩
theorem Cr{fo:ME}{ob:Expr}(ho:Bx (PE X ob (tD p fo)))(ha:Bx (PA X [e] (ni p fr)))(hbase:attributeBase ob "append" X.env (eval ob X.env)=eval ob X.env:=by rfl)(hfew:((backTo pos (starEach [e] X.env)).all (fun x=>!x.1)&&(backToKw pos (keywordEach [] X.env)).all (fun x=>x.1.isSome)
   && decide ([e].length+([]:List Keyword).length+(if ([]:List Keyword).isEmpty then 0 else 1)<30))=true:=by rfl)(hline:(apos.endLine == pos.line)=true:=by rfl)(hs:starEach [e] X.env=(false,eval e X.env)::starEach [] X.env:=by rfl)(hpl:(backTo pos (starEach [] X.env)).any (·.1)=false:=by rfl)(hK:X.K=p.K:=by rfl):Bx (PE X (.Call (.Attribute ob "append" apos) [e] [] pos) (tD p (AI ie fo fr))):=⟨zN hK PySem.F.slot_list_append PySem.F.type_list_append uh GG ho.h ha.h hbase hfew hline hs hpl⟩
variable{elt:Expr}{g:MG}{u:E1}
theorem p9(hl:Bx (PE X e (tD p f)))(hK:X.K=p.K:=by rfl):Bx (PI X tg e (yf p (f6 f))):=⟨Jd hK hl.h⟩
theorem AO(hm:X.mg "range" = none)(ha:Bx (PA X [a] (ni p fr)))(hg:Gl X "range" := by rfl)(hs:starEach [a] X.env=[(false,eval a X.env)]:=by rfl):Bx (PI X tg (.Call (.Name "range" px) [a] [] pos) (yf p (kU mJ fr))):=⟨Bf hg hm ha.h hs⟩
theorem N0(hm:X.mg "range" = none)(ha:Bx (PA X [a,b] (ni p fr)))(hg:Gl X "range" := by rfl)(hs:starEach [a,b] X.env=[(false,eval a X.env),(false,eval b X.env)]:=by rfl)(hs2:starEach [b] X.env=[(false,eval b X.env)]:=by rfl):Bx (PI X tg (.Call (.Name "range" px) [a,b] [] pos) (yf p (kU AK fr))):=⟨Be hg hm ha.h hs hs2⟩
theorem iV(i:Nat)(hN:X.N.Nodup)(hi:X.N[i]?=some x:=by rfl)(hx:EU X.env.scope x:=by first|exact Or.inl rfl|exact Or.inr rfl)(hf:X.fn x=true\/X.env.scope.names.lookup x=some .local:=by first|exact .inl rfl|exact .inr rfl):Bx (PG X (.Name x pos) (uK p (ao i))):=⟨FV hN hi hx hf⟩
theorem lq  : Bx (yh X [] (vV p dD)):=⟨FU⟩
theorem di(h1:Bx (PG X e (uK p g)))(h2:Bx (yh X es (vV p u)))(hs:(assignEach (e::es) X.env).map (·.2)=assign e X.env::(assignEach es X.env).map (·.2):=by rfl):Bx (yh X (e::es) (vV p (bb g u))):=⟨DL h1.h h2.h hs⟩
theorem lp{k:Nat}(h:Bx (yh X es (vV p u)))(hc:X.calm=true:=by rfl)(hn:(assignEach es X.env).length=n:=by rfl)(hst:(assignEach es X.env).findIdx? (·.1)=none:=by rfl)(hK:X.K=p.K:=by rfl):Bx (PG X (.Tuple es k pos) (uK p (dC n u))):=⟨Je hK hc h.h hn hst⟩
theorem HM{fo fi:ME}(ho:Bx (PE X a (tD p fo)))(hi:Bx (PE X b (tD p fi)))(ha:∀v,assign (.Subscript a b pos) X.env v=(do
   let ov <- holding [v] (eval a X.env)
   let iv <- holding [v,ov] (eval b X.env)
   standAt pos
   holding [v,ov,iv] (setItem ov iv v)
   release [v,ov,iv] []):=by intro _;rfl):Bx (PG X (.Subscript a b pos) (uK p (wq fo fi))):=⟨Jf ho.h hi.h ha⟩
variable{ifs:List Expr}{cap:List (Option Nat)}{tt:MT}{te:ME}
theorem dM(S:cV X.N X.env scope Nc cap)(hi:Bx (PI X tg iter (yf p fi)))(hg:∀cl C s H fp,Bx (PG (k8 X Nc scope cl C s H fp) tg (uK p.nx g)))(ht:∀cl C s H fp,Bx (yb (k8 X Nc scope cl C s H fp) ifs (jk p.nx tt)))(he:∀cl C s H fp,Bx (PE (k8 X Nc scope cl C s H fp) elt (tD p.nx te)))(hc:X.calm=true:=by rfl)(hs:∀x,foldedSetIterable iter X.env x=pure x:=by intro _;rfl):Bx (PE X (.ListComp elt [⟨tg,iter,ifs,0⟩] scope pos) (tD p (cK fi cap g tt te))):=⟨FY hc S hi.h (fun cl C s H fp=>(hg cl C s H fp).h) (fun cl C s H fp=>(ht cl C s H fp).h) (fun cl C s H fp=>(he cl C s H fp).h) hs⟩
variable{mb:MB}{cl0:Comprehension}{rest:List Comprehension}{d:Nat}{acc:Addr}
variable{fs gs:MS}{sts A σ:List Stmt}
theorem bQ(i:Nat)(hN:X.N.Nodup)(he:Bx (PE X e (tD p f)))(hi:X.N[i]?=some x:=by rfl)(hx:EU X.env.scope x:=by first|exact Or.inl rfl|exact Or.inr rfl)(hs:swapsWith e (some (.Name x pos')) pos.line X.env=pure false:=by rfl)(hf:X.fn x=true\/X.env.scope.names.lookup x=some .local:=by first|exact .inl rfl|exact .inr rfl):Bx (PS X (.Assign [.Name x pos'] e pos) (ji p (bU f (ao i)))):=⟨IU hN hi hx he.h hs hf⟩
theorem rk(i:Nat)(hN:X.N.Nodup)(S:cV X.N X.env scope Nc cap)(hi:Bx (PI X tg iter (yf p fi)))(hg:∀cl C s H fp,Bx (PG (k8 X Nc scope cl C s H fp) tg (uK p.nx g)))(ht:∀cl C s H fp,Bx (yb (k8 X Nc scope cl C s H fp) ifs (jk p.nx tt)))(he:∀cl C s H fp,Bx (PE (k8 X Nc scope cl C s H fp) elt (tD p.nx te)))(hix:X.N[i]?=some x:=by rfl)(hx:X.env.scope.names.lookup x=some .local:=by rfl)(hc:X.calm=true:=by rfl)(hsw:swapsWith (.ListComp elt [⟨tg,iter,ifs,0⟩] scope pos) (some (.Name x pos1)) pos2.line X.env=pure true:=by rfl)(hs:∀x,foldedSetIterable iter X.env x=pure x:=by intro _;rfl):Bx (PS X (.Assign [.Name x pos1] (.ListComp elt [⟨tg,iter,ifs,0⟩] scope pos) pos2) (ji p (bU (cK fi cap g tt te) (ao i)))):=⟨FH hc hN hix hx S hi.h (fun cl C s H fp=>(hg cl C s H fp).h) (fun cl C s H fp=>(ht cl C s H fp).h) (fun cl C s H fp=>(he cl C s H fp).h) hsw hs⟩
theorem zO(he:Bx (PE X e (tD p f)))(hg:Bx (PG X tg (uK p g)))(hs:swapsWithSole [tg] e pos.line X.env=pure false:=by rfl)(hw:swappedStores [tg] e X.env=pure none:=by rfl)(h1:(assignEach [tg] X.env).map (·.2)=[assign tg X.env]:=by rfl):Bx (PS X (.Assign [tg] e pos) (ji p (bU f g))):=⟨IZ he.h hg.h hs hw h1⟩
theorem jJ(he:Bx (PE X e (tD p f)))(hs:swapsWith e none pos.line X.env=pure false:=by rfl):Bx (PS X (.Expr e pos) (ji p (jO f))):=⟨FI he.h hs⟩
theorem nB(hp:PassesOwn (model X.prog X.w) X.A X.env X.xe)(hi:Bx (PI X tg iter (yf p fi)))(hg:Bx (PG X tg (uK p g)))(hb:Bx (j9 X body (ji p fs)))(hc:X.calm=true:=by rfl)(hs:∀x,foldedSetIterable iter X.env x=pure x:=by intro _;rfl):Bx (PS X (.For tg iter body [] pos) (ji p (nq fi g fs))):=⟨IY hp hc hi.h hg.h hb.h hs⟩
end
section
variable{X:Cx}{a b:Expr}{es:List Expr}{fb f:ME}{ft gt:MT}{fs gs:MS}{sts A σ:List Stmt}
theorem Ho(ha:Bx (PE X a (tD p fa))):Bx (PE X (.UnaryOp .Not a pos) (tD p (wB fa))):=⟨Jk ha.h⟩
theorem lj(ha:Bx (PE X a (tD p fa)))(hb:Bx (PE X (.BoolOp .And (b::rest) pos) (tD p fb))):Bx (PE X (.BoolOp .And (a::b::rest) pos) (tD p (jo fa fb))):=⟨Jp ha.h hb.h⟩
theorem bu{k:Nat}(h:Bx (PA X es (ni p fr))):Bx (PE X (.Tuple es k pos) (tD p (bW fr))):=⟨Jj h.h⟩
theorem dg(h:Bx (PA X es (ni p fr))):Bx (PE X (.List es pos) (tD p (eR fr))):=⟨Jl h.h⟩
theorem Cq:Bx (PE X (.Dict [] [] pos) (tD p AS)):=⟨Jn⟩
theorem eJ:Bx (PO X none (Hm p vU)):=⟨FQ⟩
theorem dE(h:Bx (PE X e (tD p f))):Bx (PO X (some e) (Hm p (gx f))):=⟨FP h.h⟩
theorem dH(ha:Bx (PT X a (jk p ft))):Bx (PT X (.UnaryOp .Not a pos) (jk p (cS ft))):=⟨IR ha.h⟩
theorem kT(h:Bx (PW X e (jk p ft))):Bx (PT X e (jk p ft)):=⟨h.h.pt⟩
theorem iq:Bx (yb X [] (jk p bz)):=⟨FE⟩
theorem pH(h:Bx (PT X c (jk p ft))):Bx (yb X [c] (jk p ft)):=⟨FD h.h⟩
theorem cR:Bx (j9 X [] (ji p bY)):=⟨IX⟩
theorem aM(h1:Bx (PS X st (ji p fs)))(h2:Bx (j9 X sts (ji p gs))):Bx (j9 X (st::sts) (ji p (bj fs gs))):=⟨FJ h1.h h2.h⟩
theorem aW(h1:Bx (PS X st (ji p fs))):Bx (j9 X [st] (ji p fs)):=⟨IW h1.h⟩
theorem bg(h:Bx (PE X e (tD p f))):Bx (PS X (.Return (some e) pos) (ji p (bM f))):=⟨IV h.h⟩
theorem fP(hc:Bx (PT X c (jk p ft)))(ha:Bx (j9 X A (ji p fs)))(hb:Bx (j9 X σ (ji p gs))):Bx (PS X (.If c A σ pos) (ji p (ka ft fs gs))):=⟨L6 hc.h ha.h hb.h⟩
end
theorem dt{w:World}{k:Nat}{ps:List Str}(F:gS K x qual st f fd)(S:aV N ps (ar st))(hn:ps.length=n)(hm:mg x=some (.ref f))(hb:iw K fd ps [])(body : ∀ (cdv : Value) (A : Around) (outer : List Env) (s : Shared) (H : Hp) (E : XK), gv k (A.deeper (envOfC qual (ar st) s.heap.objs.size f cdv)) ->
   Bx (j9 (qO yi P w K mg base N qual (ar st) f cdv A outer s H E).nox (cM st) (ji p fb))):dY P w K mg base p (k+1) x n (h7 n N.length fb):=
 K5 F S hn hm hb fun cdv A outer s H E hr=>(body cdv A outer s H E hr).h
end L2
namespace L2
open PySem RS
section
variable{fb fc fd f:ME}{ft gt:MT}{op o1 o2 o3:D->D->au->ai D}{fs gs:MS}{g:MG}
@[simp] theorem aj{r:Ro}:ah 0 (some d::r) Y=.ok d Y:=S9 (Ta _)
@[simp] theorem ak{x:Option D}{r:Ro}:ah (i+1) (x::r) Y=ah i r Y:=S9 (Ta _)
@[simp] theorem bf:cC d ρ Y=.ok d Y:=S9 (Ta _)
@[simp] theorem aL:aH op fa fb ρ Y=(fa ρ Y).bind fun a Y1=>(fb ρ Y1).bind fun b Y2=>op a b Y2:=S9 (Ta _)
@[simp] theorem gA {o:D->au->ai D}:jE o fa ρ Y=(fa ρ Y).bind fun a Y1=>o a Y1:=S9 (Ta _)
@[simp] theorem aw:aA ρ Y=.ok [] Y:=S9 (Ta _)
@[simp] theorem aq:ag fa fr ρ Y=(fa ρ Y).bind fun a Y1=>(fr ρ Y1).bind fun r Y2=>.ok (a::r) Y2:=S9 (Ta _)
@[simp] theorem aB:aC F fr ρ Y=(fr ρ Y).bind F:=S9 (Ta _)
@[simp] theorem bV:bW fr ρ Y=(fr ρ Y).bind fun ds Y=>if ds.length<=sizeLine then .ok (.tup ds) Y else .bad:=S9 (Ta _)
@[simp] theorem cN:eR fr ρ Y=(fr ρ Y).bind fun ds Y=>if ds.length<=sizeLine then .ok (.obj Y.length) (Y++[.lst ds]) else .bad:=S9 (Ta _)
@[simp] theorem bw {b:Bool}:zG (.bl b) Y=.ok b Y:=S9 (Ta _)
@[simp] theorem cJ:gY f ρ Y=(f ρ Y).bind zG:=S9 (Ta _)
@[simp] theorem Az:pM ft gt ρ Y=(ft ρ Y).bind fun b Y1=>if b=true then gt ρ Y1 else .ok false Y1:=S9 (Ta _)
@[simp] theorem iB:ip ft gt ρ Y=(ft ρ Y).bind fun b Y1=>if b=true then .ok true Y1 else gt ρ Y1:=S9 (Ta _)
@[simp] theorem dF:cS ft ρ Y=(ft ρ Y).bind fun b Y1=>.ok (!b) Y1:=S9 (Ta _)
@[simp] theorem vm:jo fa fb ρ Y=(fa ρ Y).bind fun a Y1=>(zG a Y1).bind fun b Y2=>if b=true then fb ρ Y2 else .ok (.bl false) Y2:=S9 (Ta _)
@[simp] theorem G6:wB f ρ Y=(f ρ Y).bind fun a Y1=>(zG a Y1).bind fun b Y2=>.ok (.bl (!b)) Y2:=S9 (Ta _)
@[simp] theorem EA:ly o1 o2 fa fb fc ρ Y=(fa ρ Y).bind fun a Y1=>(fb ρ Y1).bind fun b Y2=>(o1 a b Y2).bind fun z Y3=>(zG z Y3).bind fun k Y4=>
 if k=true then (fc ρ Y4).bind fun c Y5=>o2 b c Y5 else .ok (.bl false) Y4:=S9 (Ta _)
@[simp] theorem Lh:qL o1 o2 o3 fa fb fc fd ρ Y=(fa ρ Y).bind fun a Y1=>(fb ρ Y1).bind fun b Y2=>(o1 a b Y2).bind fun z Y3=>(zG z Y3).bind fun k Y4=>
 if k=true then (fc ρ Y4).bind fun c Y5=>(o2 b c Y5).bind fun z2 Y6=>(zG z2 Y6).bind fun k2 Y7=>if k2=true then (fd ρ Y7).bind fun d Y8=>o3 c d Y8 else .ok (.bl false) Y7 else .ok (.bl false) Y4:=S9 (Ta _)
@[simp] theorem fN:gu f ρ Y=(f ρ Y).bind Ci:=S9 (Ta _)
@[simp] theorem cL {b:Bool}:Ci (.bl b) Y=.ok b Y:=S9 (Ta _)
@[simp] theorem qX {fl fh:MO}:vR fa fl fh ρ Y=(fa ρ Y).bind fun a Y1=>(fl ρ Y1).bind fun lo Y2=>(fh ρ Y2).bind fun hi Y3=>Cd a lo hi Y3:=S9 (Ta _)
@[simp] theorem oI:vU ρ Y=.ok none Y:=S9 (Ta _)
@[simp] theorem i9:gx f ρ Y=(f ρ Y).bind Nd:=S9 (Ta _)
@[simp] theorem mQ {i:Int}:Nd (.int i) Y=.ok (some i) Y:=S9 (Ta _)
@[simp] theorem yF:AS ρ Y=.ok (.obj Y.length) (Y++[.dic]):=S9 (Ta _)
@[simp] theorem qY {F:D->List D->au->ai D}{fo:ME}:AI F fo fr ρ Y=(fo ρ Y).bind fun o Y1=>if zE o Y1=true then (fr ρ Y1).bind fun ds Y2=>F o ds Y2 else .bad:=S9 (Ta _)
@[simp] theorem bo:bM f ρ Y=(f ρ Y).bindS fun d Y'=>.ret d Y':=S9 (Ta _)
@[simp] theorem bI:bY ρ Y=.next ρ Y:=S9 (Ta _)
@[simp] theorem aO:bj fs gs ρ Y=(fs ρ Y).bind gs:=S9 (Ta _)
@[simp] theorem bK:ka ft fs gs ρ Y=(ft ρ Y).bindS fun b Y1=>if b=true then fs ρ Y1 else gs ρ Y1:=S9 (Ta _)
@[simp] theorem bc:bU f g ρ Y=(f ρ Y).bindS fun d Y1=>(g d ρ Y1).bindS fun ρ' Y2=>.next ρ' Y2:=S9 (Ta _)
@[simp] theorem eK:jO f ρ Y=(f ρ Y).bindS fun _ Y1=>.next ρ Y1:=S9 (Ta _)
@[simp] theorem aI {g:MS}:(SO.next ρ Y).bind g=g ρ Y:=S9 (Ta _)
@[simp] theorem fM{g:MS}:(SO.ret d Y).bind g=.ret d Y:=S9 (Ta _)
@[simp] theorem An {g:MS}:(SO.next ρ Y).loop g=g ρ Y:=S9 (Ta _)
@[simp] theorem Kl{g:MS}:(SO.ret d Y).loop g=.ret d Y:=S9 (Ta _)
@[simp] theorem ba:(SO.ret d Y).out=.ok d Y:=S9 (Ta _)
@[simp] theorem xf:(SO.next ρ Y).out=.ok .non Y:=S9 (Ta _)
@[simp] theorem bO:ao i d ρ Y=.ok (ρ.set i (some d)) Y:=S9 (Ta _)
@[simp] theorem Ay{fo fi:ME}:wq fo fi d ρ Y=(fo ρ Y).bind fun o Y1=>(fi ρ Y1).bind fun i Y2=>(AJ o i d Y2).bind fun _ Y3=>.ok ρ Y3:=S9 (Ta _)
@[simp] theorem Np{u:E1}:dC n u (.tup xs) ρ Y=if xs.length=n then u xs ρ Y else .bad:=S9 (Ta _)
@[simp] theorem Nq:dD [] ρ Y=.ok ρ Y:=S9 (Ta _)
@[simp] theorem MQ{u:E1}{r:List D}:bb g u (d::r) ρ Y=(g d ρ Y).bind fun ρ' Y'=>u r ρ' Y':=S9 (Ta _)
@[simp] theorem lx:nq fi g fs ρ Y=(fi ρ Y).bindS fun src Y1=>gT src g fs src.items ρ Y1:=S9 (Ta _)
@[simp] theorem cD:f6 f ρ Y=(f ρ Y).bind yl:=S9 (Ta _)
@[simp] theorem iM {F:List D->au->ai pG}:kU F fr ρ Y=(fr ρ Y).bind F:=S9 (Ta _)
@[simp] theorem iL:yl (.tup xs) Y=.ok (.fix xs) Y:=S9 (Ta _)
@[simp] theorem cw{cap:List (Option Nat)}:cK fi cap g ft f ρ Y=(fi ρ Y).bind fun src Y1=>compLoop src Y1.length g ft f src.items (fQ cap ρ) (Y1++[.lst []]):=S9 (Ta _)
@[simp] theorem bH:(pG.fix xs).items=xs:=S9 (Ta _)
@[simp] theorem dP:(pG.own n xs).items=xs:=S9 (Ta _)
@[simp] theorem Hg:fQ [] ρ=[]:=S9 (Ta _)
@[simp] theorem EG {r:List (Option Nat)}:fQ (none::r) ρ=none::fQ r ρ:=S9 (Ta _)
@[simp] theorem MR{r:List (Option Nat)}:fQ (some j::r) ρ=(ρ[j]?).join::fQ r ρ:=S9 (Ta _)
theorem i0{N:Nat}{a:D}:h7 1 N fs [a] Y=nk Y (fs (some a::List.replicate (N-1) none) Y).out:=OS rfl
theorem dj{N:Nat}{a b:D}:h7 2 N fs [a,b] Y=nk Y (fs (some a::some b::List.replicate (N-2) none) Y).out:=OS rfl
theorem g7{N:Nat}{a b c:D}:h7 3 N fs [a,b,c] Y=nk Y (fs (some a::some b::some c::List.replicate (N-3) none) Y).out:=OS rfl
@[simp] theorem lZ {op:CmpOp}{i j:Int}:il op (.int i) (.int j) Y=.ok (.bl (fq op i j)) Y:=S9 (Ta _)
@[simp] theorem ic {i j:Int}:bN (.int i) (.int j) Y=.ok (.int (i+j)) Y:=S9 (Ta _)
@[simp] theorem HQ{i j:Int}:dI gg (.int i) (.int j) Y=.ok (gg i j) Y:=S9 (Ta _)
@[simp] theorem mP{i j:Int}(h:C i j):EX C gg (.int i) (.int j) Y=.ok (gg i j) Y:=by unfold EX;simp[h]
@[simp] theorem Nl {i j:Int} (h:wd i j):mK (.int i) (.int j) Y=.ok (.int (i*j)) Y:=by unfold mK;simp[h]
@[simp] theorem lu {i:Int}:nt (.int i) Y=.ok (.int (-i)) Y:=S9 (Ta _)
@[simp] theorem f9{i j:Int}:kZ neg (.int i) (.int j) Y=.ok (.bl (if neg then !(i == j) else i == j)) Y:=S9 (Ta _)
@[simp] theorem lY:jG [.tup xs] Y=.ok (.int xs.length) Y:=S9 (Ta _)
@[simp] theorem Ax:jG [.frz xs] Y=.ok (.int xs.length) Y:=S9 (Ta _)
theorem G7(h:Y[n]?=some (.lst xs)):jG [.obj n] Y=.ok (.int xs.length) Y:=by unfold jG wy;simp[h]
theorem ju(h:Y[n]?=some (.lst xs)):gb [.obj n] Y=.ok (.tup xs) Y:=by unfold gb;simp[h]
theorem kn{bs:List Bool}(h:Y[n]?=some (.lst (bs.map D.bl))):qf [.obj n] Y=.ok (.bl (bs.all id)) Y:=by unfold qf;simp[h,σ6]
theorem gB{i:Int}(h:atI xs i=some d):cW (.tup xs) (.int i) Y=.ok d Y:=by unfold cW;simp[h]
theorem KY{i:Int}(h:atI xs i=some d):cW (.frz xs) (.int i) Y=.ok d Y:=by unfold cW;simp[h]
theorem eV{i:Int}(hm:Y[n]?=some (.lst xs))(h:atI xs i=some d):cW (.obj n) (.int i) Y=.ok d Y:=by unfold cW;simp[hm,h]
theorem Aw{i:Int}(hm:Y[n]?=some (.lst xs))(h:AH xs.length i=some j):AJ (.obj n) (.int i) d Y=.ok () (Y.set n (.lst (xs.set j d))):=by unfold AJ;simp[hm,h]
theorem gE(hm:Y[n]?=some (.lst xs)):yl (.obj n) Y=.ok (.own n xs) Y:=by unfold yl;simp[hm]
theorem nJ{j:Int}(h0:0<=j)(h:j<1000):mJ [.int j] Y=.ok (.fix (d0 0 j.toNat)) Y:=by
 unfold mJ;dsimp only;rw[OS];omega
theorem G5{i j:Int}(h0:0<=i)(h1:i<1000)(h2:-1000<=j)(h:j<1000):AK [.int i,.int j] Y=.ok (.fix (d0 i (j-i).toNat)) Y:=by
 unfold AK;dsimp only;rw[OS];omega
theorem pN{Z:Type}{x:Z}{r:List Z}:atI (x::r) 0=some x:=by unfold atI AH;simp
theorem rj{Z:Type}{x y:Z}{r:List Z}:atI (x::y::r) 1=some y:=l9 (j:=1) rfl
theorem HV{Z:Type}{x y z:Z}{r:List Z}:atI (x::y::z::r) 2=some z:=l9 (j:=2) rfl
@[simp] theorem fu {x:D}{r:List D}:cW (.tup (x::r)) (.int 0) Y=.ok x Y:=gB pN
@[simp] theorem ia {x y:D}{r:List D}:cW (.tup (x::y::r)) (.int 1) Y=.ok y Y:=gB rj
theorem K8{Z:Type}{xs:List Z}{i:Int}{x:Z}(h0:0<=i)(h:xs[i.toNat]?=some x):atI xs i=some x:=by
 have:=l9 h
 rwa [show ((i.toNat:Nat):Int)=i by omega]at this
theorem Df{i:Int}(h0:0<=i)(h:i<n):AH n i=some i.toNat:=by unfold AH;simp[h0,h]
end
section
variable{g:au}
@[simp] theorem GL{i:Int}:(D.int i).low n=True:=by simp[D.low]
@[simp] theorem Ol{i:Bool}:(D.bl i).low n=True:=by simp[D.low]
@[simp] theorem Nk:D.non.low n=True:=by simp[D.low]
@[simp] theorem Nj:(D.str x).low n=True:=by simp[D.low]
@[simp] theorem nF:(D.tup xs).low n=D.lows n xs:=by simp[D.low]
@[simp] theorem kj{m:Nat}:(D.obj m).low n=(m<n):=by simp[D.low]
@[simp] theorem MP:D.lows n []=True:=by simp[D.lows]
@[simp] theorem Lg{x:D}:D.lows n (x::xs)=(x.low n/\D.lows n xs):=by simp[D.lows]
theorem i8{n:Nat}:∀{xs:List D},D.lows n xs↔∀x∈xs,x.low n
 |[]=>by simp
 |x::xs=>by simp[i8 (xs:=xs)]
theorem eE(hd:d.low Y.length):nk Y (.ok d (Y++g))=.ok d Y:=by
 unfold nk;dsimp only;rw[OS]
 ·simp
 ·refine⟨hd,by simp,fun i o hi h=>.inl ?_⟩;rw[PZ hi]at h;exact h
theorem aR(hd:d.low Y.length):nk Y (.ok d Y)=.ok d Y:=by
 have:=eE (Y:=Y) (g:=[]) hd;simpa using this
theorem Dk{o:O}(hd:d.low Y.length)(ho:o.low Y.length):nk Y (.ok d (Y.set i o++g))=.ok d (Y.set i o):=by
 unfold nk;dsimp only;rw[OS]
 ·congr 1;rw[Tq (by simp)];exact Rn (by simp)
 ·refine ⟨hd, by simp, fun j o' hj h => ?_⟩;rw[PZ (by simpa using hj)]at h;by_cases hij:i=j
  ·subst hij;rw[Pc hj]at h;cases h;exact .inr ho
  ·rw[Pd hij]at h;exact .inl h
theorem As{o:O}(hd:d.low Y.length)(ho:o.low Y.length):nk Y (.ok d (Y.set i o))=.ok d (Y.set i o):=by
 have:=Dk (Y:=Y) (g:=[]) (i:=i) hd ho;simpa using this
theorem pK{Y':au}(h:¬ d.low Y.length):nk Y (.ok d Y')=.ok d Y':=by
 unfold nk;dsimp only;rw[OT fun z=>h z.1]
theorem uS{Y':au}:nk Y (.ok d Y')=.ok d Y'\/(nk Y (.ok d Y')=.ok d (Y'.take Y.length)/\d.low Y.length):=by
 unfold nk;dsimp only;by_cases h:Ik Y Y' d
 ·rw[OS h];exact .inr ⟨rfl,h.1⟩
 ·rw[OT h];exact .inl rfl
end
theorem wW{g:au}{a b:O}:(Y1++a::g).set Y1.length b=Y1++b::g:=by
 rw[Tr _ _ (Pv _),RK];rfl
theorem av{g:au}{a:O}:(Y1++a::g)[Y1.length]?=some a:=by
 rw[PX (Pv _),RK];rfl
theorem jU{g:au}{y:D}(h:ys.length<sizeLine):qT Y1.length y (Y1++.lst ys::g)=.ok () (Y1++.lst (ys++[y])::g):=by
 unfold qT;rw[av];dsimp only;rw[OS h,wW]
theorem iT{src:pG}{g:MG}{t:MT}{e:ME}{Y1:au}{q:D->Bool}{h:D->D}(R:Ro->Prop)(ho:∀a,dJ src (Y1++[.lst a])) :
  ∀{xs acc:List D}{ρ:Ro},R ρ->acc.length+xs.length<=sizeLine->(∀x∈xs,∀a ρ,R ρ->∃ρ1,R ρ1/\g x ρ (Y1++[.lst a])=.ok ρ1 (Y1++[.lst a])/\t ρ1 (Y1++[.lst a])=.ok (q x) (Y1++[.lst a])/\(q x=true->e ρ1 (Y1++[.lst a])=.ok (h x) (Y1++[.lst a]))) ->
   compLoop src Y1.length g t e xs ρ (Y1++[.lst acc])=.ok (.obj Y1.length) (Y1++[.lst (acc++(xs.filter q).map h)])
 |[],acc,ρ,hr,hl,he=>by
  unfold compLoop;rw[OS (ho acc)];simp
 |x::xs,acc,ρ,hr,hl,he=>by
  obtain⟨ρ1,r1,e1,e2,e3⟩:=he x O3 acc ρ hr;unfold compLoop;rw[OS (ho acc),e1];simp only[ae,aa];rw[e2];simp only[ae,aa];have he':=fun y hy=>he y (O4 _ hy);simp only[QV]at hl;cases hq:q x with
  |false=>
   rw[OT PD,iT R ho r1 (by omega) he',Ts,hq];rfl
  |true=>
   rw[OS rfl,e3 hq];simp only[ae,aa];rw[jU (by omega)];simp only[aa];rw[iT R ho r1 (by simp;omega) he',Ts,hq];simp
theorem lC{src:pG}{g:MG}{t:MT}{e:ME}{n:Nat}(J:List D->List D->Ro->au->au->Prop)
  (fin:∀ys ρ Y1 s,J [] ys ρ Y1 s->Y1.length=n/\dJ src (Y1++.lst ys::s))
  (step : ∀ x r ys ρ Y1 s, J (x :: r) ys ρ Y1 s -> Y1.length = n /\ dJ src (Y1 ++ .lst ys :: s) /\ ∃ ρ1 μa sa b μb sb, g x ρ (Y1 ++ .lst ys :: s) = .ok ρ1 (μa ++ .lst ys :: sa) /\ t ρ1 (μa ++ .lst ys :: sa) = .ok b (μb ++ .lst ys :: sb) /\
   (b=true->∃y μc sc,e ρ1 (μb++.lst ys::sb)=.ok y (μc++.lst ys::sc)/\ys.length<sizeLine/\μc.length=n/\J r (ys++[y]) ρ1 μc sc)/\(b=false->J r ys ρ1 μb sb)) :
  ∀{xs ys:List D}{ρ:Ro}{Y1 s:au},J xs ys ρ Y1 s->∃ys' ρ' Y1' s',J [] ys' ρ' Y1' s'/\compLoop src n g t e xs ρ (Y1++.lst ys::s)=.ok (.obj n) (Y1'++.lst ys'::s')
 |[],ys,ρ,Y1,s,hJ=>by
  refine⟨ys,ρ,Y1,s,hJ,?_⟩;unfold compLoop;rw[OS (fin ys ρ Y1 s hJ).2]
 |x::xs,ys,ρ,Y1,s,hJ=>by
  obtain⟨hn,ho,ρ1,μa,sa,b,μb,sb,e1,e2,e3,e4⟩:=step x xs ys ρ Y1 s hJ;unfold compLoop;rw[OS ho,e1];simp only[ae,aa];rw[e2];simp only[ae,aa];cases b with
  |false=>
   rw[OT PD];exact lC J fin step (e4 rfl)
  |true=>
   obtain⟨y,μc,sc,f1,f2,f3,f4⟩:=e3 rfl;rw[OS rfl,f1];simp only[ae,aa];subst f3;rw[jU f2];simp only[aa];exact lC J fin step f4
theorem nI{src:pG}{g:MG}{fb:MS}(J:List D->Ro->au->Prop)(fin:∀ρ Y,J [] ρ Y->dJ src Y)
  (step:∀x r ρ Y,J (x::r) ρ Y->dJ src Y/\∃ρ1 Y1 ρ2 Y2,g x ρ Y=.ok ρ1 Y1/\fb ρ1 Y1=.next ρ2 Y2/\J r ρ2 Y2) :
  ∀{xs:List D}{ρ:Ro}{Y:au},J xs ρ Y->∃ρ' Y',J [] ρ' Y'/\gT src g fb xs ρ Y=.next ρ' Y'
 |[],ρ,Y,h=>⟨ρ,Y,h,by unfold gT;rw[OS (fin ρ Y h)]⟩
 |x::xs,ρ,Y,h=>by
  obtain⟨ho,ρ1,Y1,ρ2,Y2,e1,e2,h2⟩:=step x xs ρ Y h;obtain⟨ρ',Y',h3,e3⟩:=nI J fin step h2;refine⟨ρ',Y',h3,?_⟩;unfold gT;rw[OS ho,e1];simp only[af];rw[e2];exact e3
end L2
namespace L2
open PySem PySem.Spec PyProof.Rows RS
theorem MH{w:World}{k:Nat}{ps:List Str}(F:gS K x qual st f fd)(S:aV N ps (ar st))(hn:ps.length=n)(body : ∀ (cdv : Value) (A : Around) (outer : List Env) (s : Shared) (H : Hp) (E : XK), gv k (A.deeper (envOfC qual (ar st) s.heap.objs.size f cdv)) ->
   Bx (j9 (qO yi P w K mg base N qual (ar st) f cdv A outer s H E).nox (cM st) (ji p fb))):qR P w K mg base yi (k+1) f fd ps (EN p n (h7 n N.length fb)):=by
 refine F.ok S (fun vs H Q E h=>h.1.trans hn.symm) fun cdv A outer s H vs Q E hr h=>?_;refine⟨_,(body cdv A outer s H E hr).h,?_⟩;obtain⟨hl,Z,ds,Y,S1,R1,P1⟩:=h;unfold h7 at P1;have hd:ds.length=n:=by rw[<- R1.length];exact hl
 rw[OS hd]at P1;have P2:=qJ S1 P1;unfold start;rw[hl];refine⟨Z,_,Y,S1,kD R1 _,?_⟩;cases e:fb (ds.map some++List.replicate (N.length-n) none) Y with
 |ret d Y'=>rw[e]at P2;exact fun H' Z' v x s r=>P2 H' Z' x s v r
 |next ρ Y'=>rw[e]at P2;exact fun H' Z' B' x s r=>P2 H' Z' x s .non (bL.mpr rfl)
 |exc x Y'=>rw[e]at P2;exact P2
 |brk ρ Y'=>rw[e]at P2;exact P2.elim
 |cnt ρ Y'=>rw[e]at P2;exact P2.elim
 |bad=>rw[e]at P2;exact P2.elim
theorem uc{K:W.Frag}{H:Hp}{Z:List Addr}:∀ns:List Int,Reps K H Z (ns.map D.int) (ns.map V.int)
 |[]=>by simp only[QB,Reps]
 |n::ns=>by
  simp only[QC,Reps];exact⟨_,_,rfl,az.mpr rfl,uc ns⟩
theorem El{w:World}{E:XK}(hF:∃Y',F [.frz (ns.map D.int)] []=.ok (.bl true) Y')(hO:Fb H)(hS:fK K H a (ns.map V.int)):
  EN (dX K w) 1 F [.ref a] H (fun v _=>v=.bl true) E:=by
 obtain⟨Y',e⟩:=hF
 have fz:Hn K H a (ns.map V.int):=by
  rcases hS with (h|h)|h
  ·rcases hO a with z | ⟨o, xs, z⟩
   ·rw[h]at z;cases z
   ·rw[h]at z;cases z
  ·exact .inl h
  ·exact .inr h
 refine⟨rfl,[],[.frz (ns.map D.int)],[],⟨rfl,RJ,fun n o a h=>by simp at h⟩,?_,?_⟩
 ·simp only[Reps];exact⟨_,_,rfl,bx.mpr ⟨a,_,rfl,fz,uc ns⟩,rfl⟩
 ·rw[e];exact fun H' Z' x s v r=>aU.mp r
section
variable{X:Cx}
def oH:D->Bool
 |.tup _=>true
 |.frz _=>true
 |.obj _=>true
 |_=>false
theorem zh(h:oH d=true)(r:aS K H Z d v):∃a,v=.ref a:=by
 cases d with
 |tup xs=>obtain⟨a,us,rfl,_⟩:=aQ.mp r;exact⟨a,rfl⟩
 |frz xs=>obtain⟨a,us,rfl,_⟩:=bx.mp r;exact⟨a,rfl⟩
 |obj n=>obtain⟨a,rfl,_⟩:=aX.mp r;exact⟨a,rfl⟩
 |_=>cases h
def iN(d:D)(ds:List D)(Y:au):ai D:=match d,ds with
 |.obj m,[.obj n]=>match Y[m]?,Y[n]? with
  |some (.lst xs),some (.lst ys)=>if xs.length+ys.length<=sizeLine then .ok .non (Y.set m (.lst (xs++ys))) else .bad
  |_,_=>.bad
 |_,_=>.bad
theorem GF:Ln p iN Ae:=by
 intro d ds v vs H Z Y Q S rd rs P;unfold iN at P;split at P
 ·rename_i m n;split at P
  ·rename_i xs ys hx hy;split at P
   ·rename_i hb;obtain⟨a,us,rfl,a1,h1,rr⟩:=dh S rd hx;obtain⟨w,rfl,rw'⟩:=rs.one;obtain⟨a',us',rfl,a1',h1',rr'⟩:=dh S rw' hy;have q:=rr.append rr';exact⟨a,a',us,us',rfl,rfl,h1,h1',by rw[rr.length,rr'.length];exact hb,P _ _ (km h1) (S.put hx a1 h1 q) _ (bL.mpr rfl)⟩
   ·exact P.elim
  ·exact P.elim
 ·exact P.elim
def yo(neg:Bool)(a b:D)(Y:au):ai D:=match a,b with
 |.str x,.str y=>.ok (.bl (if neg then !decide (x=y) else decide (x=y))) Y
 |_,_=>.bad
theorem FF{y:Str}:decide (V.str x=V.str y)=decide (x=y):=by
 by_cases e:x=y
 ·subst e;simp
 ·rw[OP e,OP];intro z;cases z;exact e rfl
theorem J9:qd p (yo true) Nu:=by
 intro a b v y H Z Y Q S ra rb P;unfold yo at P;split at P
 ·rename_i x z;obtain rfl:=bq.mp ra;obtain rfl:=bq.mp rb;exact⟨rfl,by rw[FF];exact P.now S _ (aU.mpr rfl)⟩
 ·exact P.elim
theorem Mt:kX X p .NotEq (yo true):=⟨Nu,Mp,J9⟩
end
end L2
namespace L2
open PySem PySem.W PyProof.Rows RS
theorem Oy{Z:Type}{P:List Z->Prop}(h:∀a,P [a]):∀us:List Z,us.length=1->P us
 |[a],_=>h a
theorem Ox{Z:Type}{P:List Z->Prop}(h:∀a b,P [a,b]):∀us:List Z,us.length=2->P us
 |[a,b],_=>h a b
theorem Ow{Z:Type}{P:List Z->Prop}(h:∀a b c,P [a,b,c]):∀us:List Z,us.length=3->P us
 |[a,b,c],_=>h a b c
theorem gS.b1{ps:List Str}(F:gS K x qual st f fd)(hl:ps.length=1)(h:∀(kV doc pm:Value)(an:Option Addr)(cdv ct a:Value),bindArgs (W.fnOf x qual (fv st) (cM st) (ar st) .none kV doc pm an cdv ct) ⟨[a],[]⟩=pure (ps.zip [a])):iw K fd ps []:=
 F.binds fun kV doc pm an cdv ct us e=>Oy (P:=fun us=>bindArgs (W.fnOf x qual (fv st) (cM st) (ar st) .none kV doc pm an cdv ct) ⟨us,[]⟩=pure (ps.zip us)) (fun a=>h kV doc pm an cdv ct a) us (e.trans hl)
theorem gS.b2{ps:List Str}(F:gS K x qual st f fd)(hl:ps.length=2)(h:∀(kV doc pm:Value)(an:Option Addr)(cdv ct a b:Value),bindArgs (W.fnOf x qual (fv st) (cM st) (ar st) .none kV doc pm an cdv ct) ⟨[a,b],[]⟩=pure (ps.zip [a,b])):iw K fd ps []:=
 F.binds fun kV doc pm an cdv ct us e=>Ox (P:=fun us=>bindArgs (W.fnOf x qual (fv st) (cM st) (ar st) .none kV doc pm an cdv ct) ⟨us,[]⟩=pure (ps.zip us)) (fun a b=>h kV doc pm an cdv ct a b) us (e.trans hl)
theorem gS.b3{ps:List Str}(F:gS K x qual st f fd)(hl:ps.length=3)(h:∀(kV doc pm:Value)(an:Option Addr)(cdv ct a b c:Value),bindArgs (W.fnOf x qual (fv st) (cM st) (ar st) .none kV doc pm an cdv ct) ⟨[a,b,c],[]⟩=pure (ps.zip [a,b,c])):iw K fd ps []:=
 F.binds fun kV doc pm an cdv ct us e=>Ow (P:=fun us=>bindArgs (W.fnOf x qual (fv st) (cM st) (ar st) .none kV doc pm an cdv ct) ⟨us,[]⟩=pure (ps.zip us)) (fun a b c=>h kV doc pm an cdv ct a b c) us (e.trans hl)
end L2
namespace L2
open PySem PySem.Spec PyProof.Rows RS
theorem Bq(its:List Value):slicePick its.toArray none none (some (-1))=its.reverse.toArray:=by
 unfold slicePick
 have hb:sliceBounds none none (some (-1)) its.toArray.size=((its.toArray.size:Int)-1,-1,-1):=by
  simp[sliceBounds]
 rw[hb];dsimp only
 have hr:sliceRange ((its.toArray.size:Int)-1) (-1) (-1)=(List.range its.toArray.size).map fun m:Nat=>(((its.toArray.size:Int)-1)+(m:Int)*(-1)).toNat:=by
  unfold sliceRange
  have hc:(if (-1:Int)>0 then if (its.toArray.size:Int)-1 < -1 then (-1-((its.toArray.size:Int)-1)+-1-1) / -1 else 0 else if (its.toArray.size:Int)-1 > -1 then ((its.toArray.size:Int)-1 - -1 - -1-1) / - -1 else 0)=(its.toArray.size:Int):=by
   rw[OT (by decide)];split
   ·rw[show-(-1:Int)=1 from rfl,Int.ediv_one];omega
   ·omega
  simp only[hc,Qj];apply Rf;intro m _;congr 1;omega
 rw[hr,Qp];exact w9 its.toArray
def LU(K:W.Frag)(te ts:TE):TE:=fun B H Q=>te B H fun x H1=>ts B H1 fun y H2=>y=.int (-1)/\∃a xs,x=.ref a /\
 ((gr K H2 a xs/\∀p,H2 p=none->Q (.ref p) (dk H2 p (.tup xs.reverse)))\/(fK K H2 a xs/\∀p,H2 p=none->Q (.ref p) (dk H2 p (.lst xs.reverse))))
theorem Gg{X:Cx}{st:Expr}{ts:TE}{p2:Pos}(he:PE X e te)(hs:PE X st ts):PE X (.Subscript e (.Slice none none (some st) p2) pos) (LU X.K te ts):=by
 intro pins s B H Q I h;refine Subscript_ (d8 (he pins s B H _ I h) fun v s1 ⟨x,H1,I1,r1,q1⟩=>?_);refine wpAny_Slice ?_;rw[evalPart_none];refine Pp (Pp ?_);rw[evalPart_some];refine d8 (hs pins s1 B H1 _ I1 q1) fun vs s3 ⟨y,H3,I3,r3,q3⟩=>?_;obtain⟨rfl,a,xs,rfl,hq⟩:=q3;obtain⟨tk,rfl⟩:=r3;cases r1;have I4:aZ X pins B H3 {s3 with heap:=s3.heap.push {cls:=.type "slice",data:=.fields #[.none,.none,.int (-1) tk]}}:=I3.kept (t':=s3.toks) fun b ob q=>Pt _ q;show wpAny (model X.prog X.w) X.A (subscriptTail e (.Slice none none (some st) p2) (.ref a) (.ref s3.heap.objs.size)) (EP X pins B Q) X.xe {s3 with heap:=s3.heap.push {cls:=.type "slice",data:=.fields #[.none,.none,.int (-1) tk]}};have hsl:=QD s3.heap .none .none (.int (-1) tk);rcases hq with⟨hx,q⟩|⟨hx,q⟩
 ·obtain⟨its,r,ht,hz⟩:=I4.tuple hx;refine tail_any (ops:=[.ref a,.ref s3.heap.objs.size]) ht.typeIs Qt.lookup ?_ (by with_unfolding_all rfl);refine om ht (QD ..) ?_ (by rw[PH,<- r.length];exact hz);generalize {s3 with heap:=s3.heap.push {cls:=.type "slice",data:=.fields #[.none,.none,.int (-1) tk]}}=s5 at I4 ht;refine⟨.ref s5.heap.objs.size,_,I4.laid (t':=s5.toks) (o:=.tup xs.reverse) (fun b ob q=>Pt _ q) (Pv _) ?_,rfl,q _ (I4.hok.fresh (Pv _))⟩;exact⟨by rw[Tt];exact hz,its.reverse,r.reverse,IsTup.new _ _⟩
 ·obtain⟨its,r,ht,hz⟩:=I4.list hx;refine tail_any (ops:=[.ref a,.ref s3.heap.objs.size]) ht.isList.typeIs QE.lookup ?_ (by with_unfolding_all rfl);refine wpAny_getItem_list_slice ht.isList (QD ..) .none .none (.int (-1) tk) (by simp) ?_ (by rw[PH,<- r.length];exact hz);rw[Bq];generalize {s3 with heap:=s3.heap.push {cls:=.type "slice",data:=.fields #[.none,.none,.int (-1) tk]}}=s5 at I4 ht;refine⟨.ref s5.heap.objs.size,_,I4.laid (t':=s5.toks) (o:=.lst xs.reverse) (fun b ob q=>Pt _ q) (Pv _) ?_,rfl,q _ (I4.hok.fresh (Pv _))⟩;exact⟨by rw[Tt];exact hz,its.reverse,0,r.reverse,Pu _ rfl⟩
def pL(a b:D)(Y:au):ai D:=match a,b with
 |.tup xs,.int i=>if i=-1 then .ok (.tup xs.reverse) Y else .bad
 |.obj n,.int i=>match Y[n]? with
  |some (.lst xs)=>if i=-1 then .ok (.obj Y.length) (Y++[.lst xs.reverse]) else .bad
  |_=>.bad
 |_,_=>.bad
theorem yr{X:Cx}{st:Expr}{fs:ME}{p2:Pos}(he:Bx (PE X e (tD p fa)))(hs:Bx (PE X st (tD p fs)))(hK:X.K=p.K:=by rfl):Bx (PE X (.Subscript e (.Slice none none (some st) p2) pos) (tD p (aH pL fa fs))):=
 ⟨(Gg he.h hs.h).weak fun B H Q ⟨Z, ρ, Y, S, R, P⟩ => ⟨Z, ρ, Y, S, R, (aP.bind P).imp fun x Y1 H1 Z1 X1 S1 P1 v rv => ⟨Z1, ρ, Y1, S1, R.mono X1, (aP.bind P1).imp fun y Y2 H2 Z2 X2 S2 P2 u ru => by
   rw[hK];unfold pL at P2;split at P2
   ·rename_i xs i;split at P2
    ·rename_i hi;subst hi;obtain⟨a,us,rfl,h1,r1⟩:=aQ.mp (rv.mono X2);exact⟨az.mp ru,a,us,rfl,.inl ⟨h1,fun q hq=>P2 _ _ (cv hq) (S2.tuple hq) _ (aQ.mpr ⟨q,_,rfl,gr.of cP,r1.reverse.mono (cv hq)⟩)⟩⟩
    ·exact P2.elim
   ·rename_i n i;split at P2
    ·rename_i xs hx;split at P2
     ·rename_i hi;subst hi;obtain⟨a,rfl,h1⟩:=aX.mp (rv.mono X2);obtain⟨a',ea,vs,hH,rr⟩:=S2.at hx;have eaa:a=a':=ON (h1.symm.trans ea);subst eaa;refine⟨az.mp ru,a,vs,rfl,.inr ⟨.inl (.inl hH),fun q hq=>?_⟩⟩;obtain⟨x1,s1,r1⟩:=dN S2 hq rr.reverse;exact P2 _ _ x1 s1 _ r1
     ·exact P2.elim
    ·exact P2.elim
   ·exact P2.elim⟩⟩⟩
section
variable{X:Cx}
theorem Hq{fo:ME}{ob:Expr}(ho:Bx (PE X ob (tD p fo)))(ha:Bx (PA X [e] (ni p fr)))(hbase:attributeBase ob "extend" X.env (eval ob X.env)=eval ob X.env:=by rfl)(hfew:((backTo pos (starEach [e] X.env)).all (fun x=>!x.1)&&(backToKw pos (keywordEach [] X.env)).all (fun x=>x.1.isSome)
   && decide ([e].length+([]:List Keyword).length+(if ([]:List Keyword).isEmpty then 0 else 1)<30))=true:=by rfl)(hline:(apos.endLine == pos.line)=true:=by rfl)(hs:starEach [e] X.env=(false,eval e X.env)::starEach [] X.env:=by rfl)(hpl:(backTo pos (starEach [] X.env)).any (·.1)=false:=by rfl)(hK:X.K=p.K:=by rfl):Bx (PE X (.Call (.Attribute ob "extend" apos) [e] [] pos) (tD p (AI iN fo fr))):=⟨zN hK PySem.F.slot_list_extend PySem.F.type_list_extend BD GF ho.h ha.h hbase hfew hline hs hpl⟩
end
abbrev EW(K:W.Frag)(w:World)(E:XK):Pa:=⟨K,w,fun x _ H _=>∃C,W.nsIn K mainGlobals x.cls=some (some (.ref C))/\∀ea,H ea=none->E (.ref C) (some ea) H⟩
def Nt(K:W.Frag)(w:World)(n:Nat)(F:List D->au->ai D):Sp:=fun vs H Q E=>vs.length=n/\∃Z ds Y,gZ K w H Z Y/\Reps K H Z ds vs/\aP (EW K w E) H Z (F ds Y) (RV (EW K w E) Q)
structure jH(P:Program)(w:World)(K:W.Frag)(mg:Str->Option Value)(base:Heap)(k:Nat)(x:Str)(n:Nat)(F:List D->au->ai D):Prop where
 len:∀ds Y,ds.length≠n->F ds Y=.bad
 fn:∃f fd ps,mg x=some (.ref f)/\W.keepIn K (.ref f)=true/\iw K fd ps []/\qR P w K mg base (Lf P w) k f fd ps (Nt K w n F)
theorem mM{w:World}{k:Nat}{ps:List Str}(F:gS K x qual st f fd)(S:aV N ps (ar st))(hn:ps.length=n)(hm:mg x=some (.ref f))(hb:iw K fd ps [])(body : ∀ (cdv : Value) (A : Around) (outer : List Env) (s : Shared) (H : Hp) (E : XK), gv k (A.deeper (envOfC qual (ar st) s.heap.objs.size f cdv)) ->
   Bx (j9 (ER P w K mg base N qual (ar st) f cdv A outer s H E) (cM st) (ji (EW K w E) fb))):jH P w K mg base (k+1) x n (h7 n N.length fb):=by
 refine⟨fun ds Y h=>by unfold h7;rw[OT h],f,fd,ps,hm,F.kp,hb,?_⟩;obtain⟨oc,od,kV,doc,pm,an,cdv,ct,osl,rfl,lk,hcd⟩:=F.ex;refine HP lk hcd S (fun vs H Q E h=>h.1.trans hn.symm) fun A outer s H vs Q E hr h=>?_;refine⟨_,(body cdv A outer s H E hr).h,?_⟩;obtain⟨hl,Z,ds,Y,S1,R1,P1⟩:=h;unfold h7 at P1;have hd:ds.length=n:=by rw[<- R1.length];exact hl
 rw[OS hd]at P1;have P2:=qJ S1 P1;unfold start;rw[hl];refine⟨Z,_,Y,S1,kD R1 _,?_⟩;cases e:fb (ds.map some++List.replicate (N.length-n) none) Y with
 |ret d Y'=>rw[e]at P2;exact fun H' Z' v x s r=>P2 H' Z' x s v r
 |next ρ Y'=>rw[e]at P2;exact fun H' Z' B' x s r=>P2 H' Z' x s .non (bL.mpr rfl)
 |exc x Y'=>rw[e]at P2;exact P2
 |brk ρ Y'=>rw[e]at P2;exact P2.elim
 |cnt ρ Y'=>rw[e]at P2;exact P2.elim
 |bad=>rw[e]at P2;exact P2.elim
section
variable{X:Cx}{E:XK}{k:Nat}{a:Expr}{es:List Expr}
theorem gD (h:jH X.prog X.w X.K X.mg X.base k x n F) (hp:kg (Lf X.prog X.w) X E) (hr:gv k X.A) (ha:Bx (PA X (a::es) (ni (EW X.K X.w E) fr))) (hg:Gl X x:=by rfl) (hdb:(x == ("__debug__" : Str))=false:=by decide)
  (he:starEach (a::es) X.env=(false,eval a X.env)::starEach es X.env:=by rfl) (hpl:(backTo pos (starEach es X.env)).any (·.1)=false:=by rfl):Bx (PE X (.Call (.Name x px) (a::es) [] pos) (tD (EW X.K X.w E) (aC F fr))):=Bx.mk (by
 obtain⟨f,fd,ps,h1,h2,h3,h4⟩:=h.fn;refine(qC (dvs:=[]) (E:=E) h4 hr hg h1 h2 h3 .nil hp ha.h hdb he hpl).weak fun B H Q ⟨Z,ρ,Y,S,R,P⟩=>⟨Z,ρ,Y,S,R,(aP.bind P).imp fun ds Y1 H1 Z1 X1 S1 P1 vs rv=>?_⟩;show Nt X.K X.w n F (vs++[]) H1 Q E;rw[PJ];refine⟨?_,Z1,ds,Y1,S1,rv,P1⟩;by_cases hl:ds.length=n
 ·rw[rv.length];exact hl
 ·rw[h.len ds Y1 hl]at P1;exact P1.elim)
theorem qA(h:dY X.prog X.w X.K X.mg X.base p.nx k x n F)(hr:gv k X.A)(ha:Bx (PA X (a::es) (ni p fr)))(hg:Gl X x:=by rfl)(hdb:(x == ("__debug__" : Str))=false:=by decide)(he:starEach (a::es) X.env=(false,eval a X.env)::starEach es X.env:=by rfl)(hpl:(backTo pos (starEach es X.env)).any (·.1)=false:=by rfl):Bx (PE X (.Call (.Name x px) (a::es) [] pos) (tD p (aC (fun ds Y=>(F ds Y).nox) fr))):=Bx.mk (by
 obtain⟨f,fd,ps,h1,h2,h3,h4⟩:=h.fn;refine(qC (dvs:=[]) (E:=E0) h4 hr hg h1 h2 h3 .nil CG ha.h hdb he hpl).weak fun B H Q ⟨Z,ρ,Y,S,R,P⟩=>⟨Z,ρ,Y,S,R,(aP.bind P).imp fun ds Y1 H1 Z1 X1 S1 P1 vs rv=>?_⟩;show EN p.nx n F (vs++[]) H1 Q E0;rw[PJ]
 have P2:aP p.nx H1 Z1 (F ds Y1) (RV p.nx Q):=by
  cases e:F ds Y1 with
  |ok d Y'=>rw[e]at P1;exact P1
  |exc y Y'=>rw[e]at P1;exact False.elim P1
  |bad=>rw[e]at P1;exact P1
 refine⟨?_,Z1,ds,Y1,S1,rv,P2⟩;by_cases hl:ds.length=n
 ·rw[rv.length];exact hl
 ·rw[h.len ds Y1 hl]at P2;exact P2.elim)
end
def uP(c:Str):MS:=fun _ Y=>.exc ⟨c,[]⟩ Y
section
variable{w:World}{s0:Shared}{H0:Hp}{E:XK}
theorem zR{c:Str}{C:Addr}{cpos:Pos}(hc:W.nsIn K mainGlobals c=some (some (.ref C)))(O:v9 mg base c C)(hg:Gl (ER P w K mg base N qual scope f cdv A outer s0 H0 E) c:=by rfl)(hd:(c == ("__debug__" : Str))=false:=by decide):
  Bx (PS (ER P w K mg base N qual scope f cdv A outer s0 H0 E) (.Raise (some (.Call (.Name c np) [] [] cpos)) none pos) (ji (EW K w E) (uP c))):=Bx.mk (by
 refine(Bo O hg hd).weak fun D B H ⟨Z,ρ,Y,S,R,P⟩=>?_;obtain⟨C',h1,h2⟩:=P H Z mH.refl S;rw[hc]at h1;cases h1
 exact h2)
end
def SO.ro(o:SO):SO:=match o with
 |.ret d Y=>.ret d Y
 |_=>.bad
def vW(known:List Str)(i N:Nat)(fb fh:MS):MS:=fun ρ Y=>match fb ρ Y with
 |.exc x Y'=>if known.contains x.cls=true then (fh ((List.replicate N none).set i (some (.obj Y'.length))) (Y'++[.exc x.cls])).ro else .bad
 |o=>o
def wC(K:W.Frag)(r:Str)(R:Addr)(known:List Str):Prop:=∀c∈known,∃C,W.nsIn K mainGlobals c=some (some (.ref C))/\W.exmOne K (.ref C) (.ref R)=some true
theorem fS.ro{o:SO}{D:oB}(h:fS p H Z o.ro D):fS p H Z o {nx:=fun _ _=>False,rt:=D.rt}:=by
 cases o with
 |ret d Y=>exact h
 |next ρ Y=>exact False.elim h
 |brk ρ Y=>exact False.elim h
 |cnt ρ Y=>exact False.elim h
 |exc x Y=>exact False.elim h
 |bad=>exact False.elim h
theorem LM{X:Cx}{r n:Str}{R:Addr}{m:Nat}{hpos:Pos}{suite:List Stmt}{b0:Stmt}{fh:MS}(F:X.Fn)(hN:X.N.Nodup)(hk:wC X.K r R known)(hm:X.mg r=some (.ref R))(hb:∀pins E,Bx (j9 (X.tri pins E) body (ji (EW X.K X.w E) fb)))(hs:∀ea,Bx (j9 (X.hnd ea) (b0::suite) (ji ⟨X.K,X.w,xw⟩ fh)))(hl:X.N.length=m:=by rfl)(hi:X.N[i]?=some n:=by rfl)(hx:EU X.env.scope n:=by exact Or.inl rfl)(hlo:X.env.kindOf n=some .local:=by rfl)(hg:Gl X r:=by rfl)(hd:(r == ("__debug__" : Str))=false:=by decide):
  Bx (PS X (.Try body [.ExceptHandler (some (.Name r np)) (some n) (b0::suite) hpos] [] [] pos) (ji ⟨X.K,X.w,xw⟩ (vW known i m fb fh))):=Bx.mk (by
 refine(Jy F hN hi hx hlo hg hm hd (fun pins E=>(hb pins E).h) fun ea=>(hs ea).h).weak fun D B H ⟨Z,ρ,Y,S,Rl,P⟩=>?_
 refine⟨fun cls ea' H'=>∃C ea,cls=.ref C/\ea'=some ea/\(W.exmOne X.K (.ref C) (.ref R)=some true/\∀B':St,B'.length=X.N.length->ji ⟨X.K,X.w,xw⟩ fh {nx:=fun _ _=>False,rt:=D.rt} (B'.set i (some (.ref ea))) (dk H' ea (wc ea C))),
  fun C ea H' h _=>?_,Z,ρ,Y,S,Rl,?_⟩
 ·obtain⟨C',ea',h1,h2,h3⟩:=h;cases h1;cases h2;exact h3
 ·unfold vW at P;cases e:fb ρ Y with
  |ret d Y'=>rw[e]at P;exact P
  |next ρ' Y'=>rw[e]at P;exact P
  |brk ρ' Y'=>rw[e]at P;exact P
  |cnt ρ' Y'=>rw[e]at P;exact P
  |bad=>rw[e]at P;exact P
  |exc x Y'=>
   rw[e]at P;dsimp only at P;by_cases hc:known.contains x.cls=true
   ·rw [OS hc] at P;obtain⟨C,c1,c2⟩:=hk x.cls (List.contains_iff_mem.mp hc);intro H' Z' X' S';refine⟨C,c1,fun ea hea=>⟨C,ea,rfl,rfl,c2,fun B' hσ=>?_⟩⟩;have X3:mH X.K H H' Z Z':=X';have X2:mH X.K H' (dk H' ea (wc ea C)) Z' (Z'++[ea]):=(cv hea).trans (jR [ea]);have S2:gZ X.K X.w (dk H' ea (wc ea C)) (Z'++[ea]) (Y'++[.exc x.cls]):=gZ.more S' hea ⟨C,c1,cP⟩;refine⟨Z'++[ea],_,_,S2,⟨by simp[hσ,hl],fun j d hj=>?_⟩,(fS.from (p:=⟨X.K,X.w,xw⟩) (X3.trans X2) P).ro⟩;by_cases hji:j=i
    ·subst hji
     have hlt:j<(List.replicate m (none:Option L2.D)).length:=by
      have:=(O9.mp hi).1;simp;omega
     rw[Pc hlt]at hj;cases hj;refine⟨.ref ea,by rw[Pc (by rw[hσ];simpa[hl] using hlt)],aX.mpr ⟨ea,rfl,?_⟩⟩;have hla:Z'.length=Y'.length:=S'.len;rw[<- hla,PX (Pv _)];simp
    ·rw[Pd (O6 hji),PY]at hj;split at hj <;> cases hj
   ·rw [OT hc] at P
    exact False.elim P)
theorem uT{w:World}{E:XK}:(qO CX P w K mg base N qual scope f cdv A outer s H E).nox.Fn:=⟨rfl,rfl,rfl⟩
theorem uw{x:V}:∀{xs:List V}{us:List Value},bp xs us->xs.all lr=true->us.countP (Ic x)=xs.countP fun y=>zF y x
 |_,_,.nil,_=>rfl
 |y::xs,u::us,.cons r t,f=>by
  rw[QG,Qy]at f;rw[List.countP_cons,List.countP_cons,yG r f.1,uw t f.2]
def Da:V->List V->Hp->VK->Prop:=fun x vs H Q=>∃l xs y,x=.ref l/\vs=[y]/\H l=some (.lst xs)/\lr y=true/\xs.all lr=true/\Q (.int (xs.countP fun z=>zF z y:Nat)) H
def C9:V->List V->Hp->VK->Prop:=fun x vs H Q=>∃l xs y j,x=.ref l/\vs=[y]/\H l=some (.lst xs)/\lr y=true/\xs.all lr=true/\(∃z,xs[j]?=some z/\zF z y=true)/\(∀m z,m<j->xs[m]?=some z->zF z y=false)/\xs.length<1000/\Q (.int (j:Nat)) H
section
variable{X:Cx}
theorem Ei:Nh X "list.count" Da:=by
 intro pins s B H x vs v us Q I rx rv h;obtain⟨l,xs,y,rfl,rfl,hH,fy,fs,q⟩:=h;cases rx;obtain⟨u,rfl,ru⟩:=rv.one;obtain⟨z,its,n,r,hl,e⟩:=I.lstM hH;refine QM F.slot_list_count ⟨_,e,rfl⟩ F.entry_list_count (F.args_list_count_2 _ _) (SeqAt.list_countAt l its.toArray n none #[] u (Ic y)) ⟨e,fun w hw=>rO ru fy r fs w (by simpa using hw),?_⟩;refine⟨.int (xs.countP fun z=>zF z y:Nat),H,I.tok _,⟨s.toks,?_⟩,q⟩;rw[<- uw r fs]
theorem Eh:Nh X "list.index" C9:=by
 intro pins s B H x vs v us Q I rx rv h;obtain⟨l,xs,y,j,rfl,rfl,hH,fy,fs,⟨z0,hz,ht⟩,hno,hsz,q⟩:=h;cases rx;obtain⟨u,rfl,ru⟩:=rv.one;obtain⟨z,its,n,r,hl,e⟩:=I.lstM hH;have hlt:j<xs.length:=(O9.mp hz).1
 have hb:∀m w,its[m]?=some w->∃z,xs[m]?=some z/\Ic y w=zF z y:=fun m w hw=>by
  have hm:m<its.length:=(O9.mp hw).1;have hm':m<xs.length:=by rw[r.length];exact hm
  obtain⟨u',hu',ru'⟩:=r.get (SK hm');rw[hw]at hu';cases hu';exact⟨_,SK hm',yG ru' (RP.mp fs _ (SJ hm'))⟩
 have hlen:=r.length;refine QM F.slot_list_index ⟨_,e,rfl⟩ F.entry_list_index (F.args_list_index_2 _ _) (SeqAt.list_indexAt l its.toArray n none #[] u (Ic y) j (by rw[PH];omega) (by omega) ?_ ?_) ⟨e,fun w hw=>rO ru fy r fs w (by simpa using hw),?_⟩
 ·have hw:its[j]?=some its[j]:=SK (by omega);obtain⟨z1,a1,a2⟩:=hb j _ hw;rw[hz]at a1;cases a1;show Ic y its.toArray[j]=true;rw[List.getElem_toArray,a2];exact ht
 ·intro m hm hmj;have hm':m<its.length:=by rw[PH]at hm;exact hm
  obtain⟨z1,a1,a2⟩:=hb m _ (SK hm');rw[List.getElem_toArray,a2];exact hno m z1 hmj a1
 ·exact⟨.int (j:Nat),H,I.tok _,⟨s.toks,rfl⟩,q⟩
end
def ll:List D->Bool
 |[]=>true
 |.bl _::r=>ll r
 |_::_=>false
def oA:D->Bool
 |.bl b=>b
 |_=>false
theorem xE:∀{vs:List V},Reps K H Z xs vs->ll xs=true->vs=xs.map fun d=>V.bl (oA d):=by
 induction xs with
 |nil=>intro vs h _;simp only[Reps]at h;exact h
 |cons d r ih=>
  intro vs h q;simp only[Reps]at h;obtain⟨v,r',rfl,h1,h2⟩:=h;cases d with
  |bl b=>rw[aU.mp h1,ih h2 (by simpa only[ll] using q)];rfl
  |non=>simp only[ll]at q;cases q
  |int i=>simp only[ll]at q;cases q
  |str i=>simp only[ll]at q;cases q
  |tup i=>simp only[ll]at q;cases q
  |frz i=>simp only[ll]at q;cases q
  |obj i=>simp only[ll]at q;cases q
theorem r9:∀xs:List D,(xs.map fun d=>V.bl (oA d)).all lr=true
 |[]=>rfl
 |_::xs=>by rw[QC,QG,r9 xs];rfl
def l7(d:D)(ds:List D)(Y:au):ai D:=match d,ds with
 |.obj n,[.bl true]=>match Y[n]? with
  |some (.lst xs)=>if ll xs=true then .ok (.int (xs.countP oA:Nat)) Y else .bad
  |_=>.bad
 |_,_=>.bad
def l0(d:D)(ds:List D)(Y:au):ai D:=match d,ds with
 |.obj n,[.bl true]=>match Y[n]? with
  |some (.lst xs)=>if ll xs=true/\xs.length<1000/\xs.any oA=true then .ok (.int (xs.findIdx oA:Nat)) Y else .bad
  |_=>.bad
 |_,_=>.bad
section
theorem BE:Ln p l7 Da:=by
 intro d ds v vs H Z Y Q S rd rs P;unfold l7 at P;split at P
 ·split at P
  ·rename_i n xs hx;split at P
   ·rename_i hb;obtain⟨a,us,rfl,a1,h1,rr⟩:=dh S rd hx;have hv:=xE rr hb;simp only[Reps]at rs;obtain⟨y,r',rfl,h3,rfl⟩:=rs;rw[aU.mp h3];refine⟨a,us,.bl true,rfl,rfl,h1,rfl,by rw[hv];exact r9 xs,?_⟩;have z:=P.now S (.int (xs.countP oA:Nat)) (az.mpr rfl)
    have e:(us.countP fun z=>zF z (.bl true))=xs.countP oA:=by
     rw[hv,List.countP_map];congr 1;funext d;cases h:oA d <;> simp[zF,h]
    rw[e];exact z
   ·exact P.elim
  ·exact P.elim
 ·exact P.elim
theorem BC:Ln p l0 C9:=by
 intro d ds v vs H Z Y Q S rd rs P;unfold l0 at P;split at P
 ·split at P
  ·rename_i n xs hx;split at P
   ·rename_i hb;obtain⟨hb,hlen,hany⟩:=hb;obtain⟨a,us,rfl,a1,h1,rr⟩:=dh S rd hx;have hv:=xE rr hb;simp only[Reps]at rs;obtain⟨y,r',rfl,h3,rfl⟩:=rs;rw[aU.mp h3];have hlt:xs.findIdx oA<xs.length:=List.findIdx_lt_length_of_exists (by simpa using hany);refine⟨a,us,.bl true,xs.findIdx oA,rfl,rfl,h1,rfl,by rw[hv];exact r9 xs,⟨.bl true,?_,rfl⟩,fun m z hm hz=>?_,by rw[hv,Qd];exact hlen,P.now S (.int (xs.findIdx oA:Nat)) (az.mpr rfl)⟩
    ·rw[hv,P0,SK hlt];have:=List.findIdx_getElem (w:=hlt);simp[this]
    ·rw [hv, P0, SK (by omega : m < xs.length)] at hz;cases hz;have hf:=List.not_of_lt_findIdx hm;show (oA _ == true)=false;rw[beq_true];cases z:oA xs[m] with
     |false=>rfl
     |true=>rw[z]at hf;exact absurd hf (by decide)
   ·exact P.elim
  ·exact P.elim
 ·exact P.elim
end
def mL(subs known:List Str)(d:D)(Y:au):ai D:=match d with
 |.obj n=>match Y[n]? with
  |some (.exc c)=>if known.contains c=true then .ok (.bl (subs.contains c)) Y else .bad
  |_=>.bad
 |_=>.bad
def cf(K:W.Frag)(u:Value)(subs known:List Str):Prop:=∀c∈known,∃C,W.nsIn K mainGlobals c=some (some (.ref C))/\W.excCls K C=true/\W.kitOne K (.ref C) u=some (subs.contains c)
theorem Dg{x:V}{Q:VK}(hK:K=p.K)(hk:cf K u subs known)(ru:cx v u)(S:p.S H Z Y)(r:p.R H Z d x)(P:aP p H Z (mL subs known d Y) (RV p Q)):LC K u [x,v] H Q:=by
 subst hK;unfold mL at P;split at P
 ·split at P
  ·rename_i n c hx;split at P
   ·rename_i hc;obtain⟨a,ea,C,h1,h2⟩:=S.at hx;obtain⟨a',rfl,ea'⟩:=aX.mp r;rw[ea]at ea';cases ea';obtain⟨C',k1,k2,k3⟩:=hk c (List.contains_iff_mem.mp hc);rw[h1]at k1;cases k1;exact⟨a,C,_,v,rfl,ru,h2,k2,k3,P.now S _ (aU.mpr rfl)⟩
   ·exact P.elim
  ·exact P.elim
 ·exact P.elim
section
variable{X:Cx}{a ob:Expr}{fo:ME}{pt:Pos}{xT:Str}
theorem pI {C:Addr} (hk:cf X.K (.ref C) subs known) (hm:X.mg "isinstance" = none) (hmT:X.mg xT=some (.ref C)) (ha:Bx (PE X a (tD p fa))) (hg:Gl X "isinstance" := by rfl) (hgT:Gl X xT:=by rfl) (hdT:(xT == ("__debug__" : Str))=false:=by decide)
  (hs1:starEach [a,.Name xT pt] X.env=(false,eval a X.env)::starEach [.Name xT pt] X.env:=by rfl) (hK:X.K=p.K:=by rfl):Bx (PE X (.Call (.Name "isinstance" px) [a,.Name xT pt] [] pos) (tD p (jE (mL subs known) fa))):=Bx.mk (by
 have hb:PE X (.Name xT pt) (tC (.ref C)):=Ai hgT hmT rfl hdT;refine(nP (xD (u:=.ref C) fun v w h1 h2=>?_) hg hm Ti (kh ha.h (kh hb uQ rfl) hs1) (by decide) (by decide) hs1 rfl).weak fun B H Q ⟨Z,ρ,Y,S,R,P⟩=>⟨Z,ρ,Y,S,R,(aP.bind P).imp fun d Y1 H1 Z1 X1 S1 P1 v rv=>?_⟩
 ·cases v with
  |ref b=>cases (show Value.ref C=Value.ref b from h1);exact h2
  |non=>cases (show Value.ref C=Value.none from h1)
  |bl b=>cases (show Value.ref C=Value.bool b from h1)
  |int b=>obtain⟨t,z⟩:=(show ∃t,Value.ref C=Value.int b t from h1);cases z
  |str b=>obtain⟨t,z⟩:=(show ∃t,Value.ref C=Value.str b t from h1);cases z
  |byt b=>obtain⟨t,z⟩:=(show ∃t,Value.ref C=Value.bytes b t from h1);cases z
  |flt b=>obtain⟨t,z⟩:=(show ∃t,Value.ref C=Value.float b t from h1);cases z
  |ty b=>cases (show Value.ref C=Value.type b from h1)
 ·exact Dg hK hk rfl S1 rv P1)
theorem IA {T:String} (hk:cf X.K (.type T) subs known) (hm:X.mg "isinstance" = none) (hmT:X.mg xT=none) (hbT:bootBuiltins xT=some (.type T)) (ha:Bx (PE X a (tD p fa))) (hg:Gl X "isinstance" := by rfl) (hgT:Gl X xT:=by rfl) (hnT:xT ≠ "__name__" := by decide) (hdT:(xT == ("__debug__" : Str))=false:=by decide)
  (hs1:starEach [a,.Name xT pt] X.env=(false,eval a X.env)::starEach [.Name xT pt] X.env:=by rfl) (hK:X.K=p.K:=by rfl):Bx (PE X (.Call (.Name "isinstance" px) [a,.Name xT pt] [] pos) (tD p (jE (mL subs known) fa))):=Bx.mk (by
 have hb:PE X (.Name xT pt) (tC (.ty T)):=Aj hgT hmT hbT rfl hnT hdT;refine(nP (xD (u:=.type T) fun v w h1 h2=>?_) hg hm Ti (kh ha.h (kh hb uQ rfl) hs1) (by decide) (by decide) hs1 rfl).weak fun B H Q ⟨Z,ρ,Y,S,R,P⟩=>⟨Z,ρ,Y,S,R,(aP.bind P).imp fun d Y1 H1 Z1 X1 S1 P1 v rv=>?_⟩
 ·cases v with
  |ty b=>cases (show Value.type T=Value.type b from h1);exact h2
  |non=>cases (show Value.type T=Value.none from h1)
  |bl b=>cases (show Value.type T=Value.bool b from h1)
  |int b=>obtain⟨t,z⟩:=(show ∃t,Value.type T=Value.int b t from h1);cases z
  |str b=>obtain⟨t,z⟩:=(show ∃t,Value.type T=Value.str b t from h1);cases z
  |byt b=>obtain⟨t,z⟩:=(show ∃t,Value.type T=Value.bytes b t from h1);cases z
  |flt b=>obtain⟨t,z⟩:=(show ∃t,Value.type T=Value.float b t from h1);cases z
  |ref b=>cases (show Value.type T=Value.ref b from h1)
 ·exact Dg hK hk rfl S1 rv P1)
theorem LO (ho:Bx (PE X ob (tD p fo))) (ha:Bx (PA X [e] (ni p fr))) (hbase:attributeBase ob "count" X.env (eval ob X.env)=eval ob X.env:=by rfl) (hfew:((backTo pos (starEach [e] X.env)).all (fun x=>!x.1)&&(backToKw pos (keywordEach [] X.env)).all (fun x=>x.1.isSome)
   && decide ([e].length+([]:List Keyword).length+(if ([]:List Keyword).isEmpty then 0 else 1)<30))=true:=by rfl) (hline:(apos.endLine == pos.line)=true:=by rfl) (hs:starEach [e] X.env=(false,eval e X.env)::starEach [] X.env:=by rfl) (hpl:(backTo pos (starEach [] X.env)).any (·.1)=false:=by rfl) (hK:X.K=p.K:=by rfl):Bx (PE X (.Call (.Attribute ob "count" apos) [e] [] pos) (tD p (AI l7 fo fr))):=
 ⟨zN hK PySem.F.slot_list_count PySem.F.type_list_count Ei BE ho.h ha.h hbase hfew hline hs hpl⟩
theorem LN (ho:Bx (PE X ob (tD p fo))) (ha:Bx (PA X [e] (ni p fr))) (hbase:attributeBase ob "index" X.env (eval ob X.env)=eval ob X.env:=by rfl) (hfew:((backTo pos (starEach [e] X.env)).all (fun x=>!x.1)&&(backToKw pos (keywordEach [] X.env)).all (fun x=>x.1.isSome)
   && decide ([e].length+([]:List Keyword).length+(if ([]:List Keyword).isEmpty then 0 else 1)<30))=true:=by rfl) (hline:(apos.endLine == pos.line)=true:=by rfl) (hs:starEach [e] X.env=(false,eval e X.env)::starEach [] X.env:=by rfl) (hpl:(backTo pos (starEach [] X.env)).any (·.1)=false:=by rfl) (hK:X.K=p.K:=by rfl):Bx (PE X (.Call (.Attribute ob "index" apos) [e] [] pos) (tD p (AI l0 fo fr))):=
 ⟨zN hK PySem.F.slot_list_index PySem.F.type_list_index Eh BC ho.h ha.h hbase hfew hline hs hpl⟩
end
structure Fd(P:Program)(w:World)(K:W.Frag)(mg:Str->Option Value)(base:Heap)(p:Pa)(k:Nat)(x:Str)(n:Nat)(F:List D->au->ai D):Prop where
 len:∀ds Y,ds.length≠n->F ds Y=.bad
 fn:∃f fd ps,mg x=some (.ref f)/\W.keepIn K (.ref f)=true/\iw K fd ps []/\wF P w K mg base yi k f fd ps (EN p n F)
theorem Iy{w:World}{k:Nat}{ps:List Str}(F:gS K x qual st f fd)(S:aV N ps (ar st))(hn:ps.length=n)(hm:mg x=some (.ref f))(hb:iw K fd ps [])(body : ∀ (cdv : Value) (A : Around) (outer : List Env) (s : Shared) (H : Hp) (E : XK), fR k (A.deeper (envOfC qual (ar st) s.heap.objs.size f cdv)) ->
   Bx (j9 (qZ yi P w K mg base N qual (ar st) f cdv A outer s H E).nox (cM st) (ji p fb))):Fd P w K mg base p (k+1) x n (h7 n N.length fb):=by
 refine⟨fun ds Y h=>by unfold h7;rw[OT h],f,fd,ps,hm,F.kp,hb,?_⟩;refine F.okH S (fun vs H Q E h=>h.1.trans hn.symm) fun cdv A outer s H vs Q E hr h=>?_;refine⟨_,(body cdv A outer s H E hr).h,?_⟩;obtain⟨hl,Z,ds,Y,S1,R1,P1⟩:=h;unfold h7 at P1;have hd:ds.length=n:=by rw[<- R1.length];exact hl
 rw[OS hd]at P1;have P2:=qJ S1 P1;unfold start;rw[hl];refine⟨Z,_,Y,S1,kD R1 _,?_⟩;cases e:fb (ds.map some++List.replicate (N.length-n) none) Y with
 |ret d Y'=>rw[e]at P2;exact fun H' Z' v x s r=>P2 H' Z' x s v r
 |next ρ Y'=>rw[e]at P2;exact fun H' Z' B' x s r=>P2 H' Z' x s .non (bL.mpr rfl)
 |exc x Y'=>rw[e]at P2;exact P2
 |brk ρ Y'=>rw[e]at P2;exact P2.elim
 |cnt ρ Y'=>rw[e]at P2;exact P2.elim
 |bad=>rw[e]at P2;exact P2.elim
theorem Fo{X:Cx}{k:Nat}{a:Expr}{es:List Expr}(h:Fd X.prog X.w X.K X.mg X.base p k x n F)(hr:fR k X.A)(ha:Bx (PA X (a::es) (ni p fr)))(hg:Gl X x:=by rfl)(hdb:(x == ("__debug__" : Str))=false:=by decide)(he:starEach (a::es) X.env=(false,eval a X.env)::starEach es X.env:=by rfl)(hpl:(backTo pos (starEach es X.env)).any (·.1)=false:=by rfl):Bx (PE X (.Call (.Name x px) (a::es) [] pos) (tD p (aC F fr))):=Bx.mk (by
 obtain⟨f,fd,ps,h1,h2,h3,h4⟩:=h.fn;refine(D8 (dvs:=[]) (E:=E0) h4 hr hg h1 h2 h3 .nil CG ha.h hdb he hpl).weak fun B H Q ⟨Z,ρ,Y,S,R,P⟩=>⟨Z,ρ,Y,S,R,(aP.bind P).imp fun ds Y1 H1 Z1 X1 S1 P1 vs rv=>?_⟩;show EN p n F (vs++[]) H1 Q E0;rw[PJ];refine⟨?_,Z1,ds,Y1,S1,rv,P1⟩;by_cases hl:ds.length=n
 ·rw[rv.length];exact hl
 ·rw[h.len ds Y1 hl]at P1;exact P1.elim)
theorem tK:bootBuiltins "ValueError" = some (.type "ValueError"):=PyProof.Rows.Boot.«ValueError»
def En(K:W.Frag)(u:Value)(subs known:List Str):Bool:=known.all fun c=>match W.nsIn K mainGlobals c with
 |some (some (.ref C))=>W.excCls K C&&W.kitOne K (.ref C) u == some (subs.contains c)
 |_=>false
theorem cf.of(h:En K u subs known=true):cf K u subs known:=fun c hc=>by
 have q:=RP.mp h c hc;split at q
 ·rename_i C e;rw[Qy]at q;exact⟨C,e,q.1,S8.mp q.2⟩
 ·cases q
def Kq(K:W.Frag)(R:Addr)(known:List Str):Bool:=known.all fun c=>match W.nsIn K mainGlobals c with
 |some (some (.ref C))=>W.exmOne K (.ref C) (.ref R) == some true
 |_=>false
theorem wC.of{r:Str}{R:Addr}(h:Kq K R known=true):wC K r R known:=fun c hc=>by
 have q:=RP.mp h c hc;split at q
 ·rename_i C e;exact⟨C,e,S8.mp q⟩
 ·cases q
theorem v9.of{nm q:Str}{C N:Addr}{bs bm:List Value}{hd:Bool}{sn:List Str}{sub:List Value}{ab:Bool}{col:Option Bool}{dd:Option Addr}{k0 k1 k2 k3 k5:Option Value}(X:K.In base)(G:base.Ns mainGlobals mg)(e:W.nsIn K mainGlobals x=some (some (.ref C)))(l:K.lookup C=some (excClassObj nm q C N bs bm hd sn sub ab col dd k0 k1 k2 k3 k5 "ValueError.__new__"))(h1:W.nsOkIn K N=true)(h2:W.nsIn K N "__init__" = some none)(h3:W.tailIn K [.type "ValueError",.type "Exception",.type "BaseException",.type "object"] bm=true):v9 mg base x C:=
 ⟨_,_,_,_,⟨W.mg_of X G e,bm,N,nm,q,bs,hd,sn,sub,ab,col,dd,k0,k1,k2,k3,k5,_,X _ _ l,.of_isNs (W.isNs_of_in X h1),W.nsMap_none_of_in X h1 h2,W.tail_of_in X h3⟩,PySem.F.excBase_ValueError⟩
theorem Mo{w:World}{X:Cx}:kg (Lf P w) X E0:=fun _ _ _ _ _ _ _ h=>by
 obtain⟨_,_,_,_,_,_,_,_,_,_,_,_,_,q⟩:=h;exact q.elim
section
variable{X:Cx}{k:Nat}{a b d:Expr}{es:List Expr}
theorem wJ(h:jH X.prog X.w X.K X.mg X.base k x n F)(hr:gv k X.A)(ha:Bx (PA X (a::es) (ni ⟨X.K,X.w,xw⟩ fr)))(hg:Gl X x:=by rfl)(hdb:(x == ("__debug__" : Str))=false:=by decide)(he:starEach (a::es) X.env=(false,eval a X.env)::starEach es X.env:=by rfl)(hpl:(backTo pos (starEach es X.env)).any (·.1)=false:=by rfl):Bx (PE X (.Call (.Name x px) (a::es) [] pos) (tD ⟨X.K,X.w,xw⟩ (aC (fun ds Y=>(F ds Y).nox) fr))):=Bx.mk (by
 obtain⟨f,fd,ps,h1,h2,h3,h4⟩:=h.fn;refine(qC (dvs:=[]) (E:=E0) h4 hr hg h1 h2 h3 .nil Mo ha.h hdb he hpl).weak fun B H Q ⟨Z,ρ,Y,S,R,P⟩=>⟨Z,ρ,Y,S,R,(aP.bind P).imp fun ds Y1 H1 Z1 X1 S1 P1 vs rv=>?_⟩;show Nt X.K X.w n F (vs++[]) H1 Q E0;rw[PJ]
 have P2:aP (EW X.K X.w E0) H1 Z1 (F ds Y1) (RV (EW X.K X.w E0) Q):=by
  cases e:F ds Y1 with
  |ok d Y'=>rw[e]at P1;exact P1
  |exc y Y'=>rw[e]at P1;exact False.elim P1
  |bad=>rw[e]at P1;exact P1
 refine⟨?_,Z1,ds,Y1,S1,rv,P2⟩;by_cases hl:ds.length=n
 ·rw[rv.length];exact hl
 ·rw[h.len ds Y1 hl]at P2;exact P2.elim)
variable{tb tc td:TE}{fb fc fd:ME}{op' op'':CmpOp}{r r' r'':R2}{o1 o2 o3:D->D->au->ai D}
end
section
variable(K:W.Frag)(H:Hp)
mutual
def sT:PyData->V->Prop
 |.none,v=>v=.non
 |.bool b,v=>v=.bl b
 |.int i,v=>v=.int i
 |.str x,v=>v=.str x
 |.tuple xs,v=>∃a vs,v=.ref a/\gr K H a vs/\RdGs xs vs
 |.list xs,v=>∃a vs,v=.ref a/\fK K H a vs/\RdGs xs vs
 |.dict kvs,v=>kvs=[]/\∃a,v=.ref a/\H a=some (.dK [])
def RdGs:List PyData->List V->Prop
 |[],vs=>vs=[]
 |x::xs,vs=>∃v r,vs=v::r/\sT x v/\RdGs xs r
end
end
mutual
def Ld:PyData->Bool
 |.list _=>false
 |.tuple xs=>noLs xs
 |_=>true
def noLs:List PyData->Bool
 |[]=>true
 |x::xs=>Ld x&&noLs xs
end
section
variable{X:Cx}
theorem Kh(h:(a == sysModules)=false):a≠sysModules:=by simpa using h
mutual
theorem ud(I:aZ X pins B H s):∀(d:PyData)(x:V)(v:Value),sT X.K H d x->cx x v->∃as,Reads s.heap v d as/\(Ld d=true->sysModules∉as)
 |.none,_,_,h,r=>by simp only[sT]at h;subst h;cases r;exact⟨_,.none,fun _ z=>by cases z⟩
 |.bool b,_,_,h,r=>by simp only[sT]at h;subst h;cases r;exact⟨_,.bool b,fun _ z=>by cases z⟩
 |.int b,_,_,h,r=>by simp only[sT]at h;subst h;obtain⟨t,rfl⟩:=r;exact⟨_,.int b t,fun _ z=>by cases z⟩
 |.str b,_,_,h,r=>by simp only[sT]at h;subst h;obtain⟨t,rfl⟩:=r;exact⟨_,.str b t,fun _ z=>by cases z⟩
 |.tuple xs,_,_,h,r=>by
  simp only[sT]at h;obtain⟨a,vs,rfl,h1,h2⟩:=h;cases r;obtain⟨its,rv,⟨o,e1,e2,n,e3⟩,_⟩:=I.tuple h1;obtain⟨as,q,hn⟩:=readsAllG_of I xs vs its h2 rv;exact⟨_,.tuple e1 e2 e3 (by simpa using q),fun z=>hn (by simpa only[Ld] using z)⟩
 |.list xs,_,_,h,r=>by
  simp only[sT]at h;obtain⟨a,vs,rfl,h1,h2⟩:=h;cases r;obtain⟨its,rv,⟨o,n,e1,e2,_,e3⟩,_⟩:=I.list h1;obtain⟨as,q,_⟩:=readsAllG_of I xs vs its h2 rv;exact⟨_,.list e1 e2 e3 (by simpa using q),fun z=>by simp only[Ld]at z;cases z⟩
 |.dict kvs,_,_,h,r=>by
  simp only[sT]at h;obtain⟨rfl,a,rfl,h1⟩:=h;cases r;obtain⟨_,hS,vs,rv,o,es,n,e1,e2,e3,_,e4,_⟩:([]:List (sU×V)).length<=sizeLine/\(a == sysModules)=false/\∃vs,KV ([]:List (sU×V)) vs/\s.heap.DictOf (qE X.prog X.w) a vs:=I.hok a _ h1;cases rv
  have hes:es.toList=[]:=by
   generalize es.toList=l at e4;cases e4;rfl
  refine⟨[a]++[],Reads.dict (as:=[]) (bs:=[]) e1 e2.1 e3 ?_ ?_,fun _ z=>?_⟩
  ·rw[hes];exact .nil
  ·rw[hes];exact .nil
  ·simp at z;exact Kh hS z.symm
theorem readsAllG_of(I:aZ X pins B H s):∀(ds:List PyData)(xs:List V)(vs:List Value),RdGs X.K H ds xs->bp xs vs->∃as,ReadsAll s.heap vs ds as/\(noLs ds=true->sysModules∉as)
 |[],_,_,h,r=>by simp only[RdGs]at h;subst h;cases r;exact⟨_,.nil,fun _ z=>by cases z⟩
 |d::ds,_,_,h,r=>by
  simp only[RdGs]at h;obtain⟨v,q,rfl,h1,h2⟩:=h;cases r with
  |cons r rr=>
   obtain⟨as,g1,n1⟩:=ud I d _ _ h1 r;obtain⟨bs,g2,n2⟩:=readsAllG_of I ds _ _ h2 rr;refine⟨_,.cons g1 g2,fun z=>?_⟩;simp only[noLs,Qy]at z;intro y;rcases O7.mp y with y|y
   ·exact n1 z.1 y
   ·exact n2 z.2 y
end
end
def C8(K:W.Frag):List V->Hp->VK->Prop:=fun xs H Q=>(∃a d,xs=[.ref a]/\sT K H d (.ref a)/\d.showable=true/\(d.hasDict=true->Ld d=true)/\d.depth<=60/\d.shown.length<=sizeLine/\Q (.str d.shown) H) \/
 (xs=[.non]/\Q (.str "None") H)\/(∃a:Int,xs=[.int a]/\a.natAbs.log2<1920/\Q (.str (toString a)) H)\/(∃b:Bool,xs=[.bl b]/\Q (.str (if b then "True" else "False")) H)\/∃x:Str,xs=[.str x]/\(reprText x).length<=sizeLine/\Q (.str (reprText x)) H
theorem zy {X:Cx} (hu:X.A.units+64<cLine) (hg:X.A.guards=some []):cY X (.builtin "repr") (C8 X.K):=by
 intro pins s B H xs us Q I r h;rcases h with⟨a,d,rfl,h1,hs,hd,hdp,hz,q⟩|⟨rfl,q⟩|⟨a,rfl,ha,q⟩|⟨b,rfl,q⟩|⟨x,rfl,hx,q⟩
 ·obtain⟨u,rfl,ru⟩:=fH r;cases ru;obtain⟨as,r1,hn⟩:=ud I d (.ref a) (.ref a) h1 rfl;exact PySem.repr_of_reads' (h₀:=s.heap) r1 hs (fun z=>hn (hd z)) hg (by omega) (fun _ _ e=>e) (fun h' u tk hk=>⟨.str _,H,I.kept hk,⟨u,rfl⟩,q⟩) hz
 ·obtain⟨u,rfl,ru⟩:=fH r;cases ru;exact PySem.P.repr_of_none ⟨.str _,H,I.kept (fun _ _ e=>e),⟨_,rfl⟩,q⟩
 ·obtain⟨u,rfl,t,rfl⟩:=fH r;exact PySem.P.repr_of_int ha ⟨.str _,H,I.kept (fun _ _ e=>e),⟨_,rfl⟩,q⟩
 ·obtain⟨u,rfl,ru⟩:=fH r;cases ru;refine PySem.P.repr_of_bool ⟨.str _,H,I.kept (fun _ _ e=>e),⟨_,rfl⟩,?_⟩;cases b <;> exact q
 ·obtain⟨u,rfl,t,rfl⟩:=fH r;exact PySem.P.repr_of_str ⟨.str _,H,I.kept (fun _ _ e=>e),⟨_,rfl⟩,q⟩ hx
def wu:D->Option PyData
 |.non=>some .none
 |.bl b=>some (.bool b)
 |.int i=>some (.int i)
 |.str x=>some (.str x)
 |_=>none
def oy(f:D->Option PyData):List D->Option (List PyData)
 |[]=>some []
 |x::xs=>(f x).bind fun a=>(oy f xs).map fun r=>a::r
def ye(Y:au):Nat->D->Option PyData
 |0,d=>wu d
 |n+1,d=>match d with
  |.tup xs=>(oy (ye Y n) xs).map .tuple
  |.frz xs=>(oy (ye Y n) xs).map .list
  |.obj k=>match Y[k]? with
   |some (.lst xs)=>(oy (ye Y n) xs).map .list
   |some .dic=>some (.dict [])
   |_=>none
  |d=>wu d
section
variable{w:World}
theorem xv(h:wu d=some q)(r:aS K H Z d v):sT K H q v:=by
 cases d with
 |non=>cases h;simp only[sT];exact bL.mp r
 |bl b=>cases h;simp only[sT];exact aU.mp r
 |int b=>cases h;simp only[sT];exact az.mp r
 |str b=>cases h;simp only[sT];exact bq.mp r
 |tup _=>cases h
 |frz _=>cases h
 |obj _=>cases h
theorem ve{f:D->Option PyData}(hf:∀d q v,f d=some q->aS K H Z d v->sT K H q v):∀{ds:List D}{qs:List PyData}{vs:List V},oy f ds=some qs->Reps K H Z ds vs->RdGs K H qs vs:=by
 intro ds
 induction ds with
 |nil=>intro qs vs h r;cases h;simp only[Reps]at r;simp only[RdGs];exact r
 |cons d ds ih=>
  intro qs vs h r;simp only[oy]at h;cases e1:f d with
  |none=>rw[e1]at h;cases h
  |some a=>
   rw[e1]at h;cases e2:oy f ds with
   |none=>rw[e2]at h;cases h
   |some t=>
    rw[e2]at h;cases h;simp only[Reps]at r;obtain⟨v,r',rfl,h1,h2⟩:=r;simp only[RdGs];exact⟨v,r',rfl,hf d a v e1 h1,ih e2 h2⟩
theorem IJ(S:gZ K w H Z Y):∀(n:Nat)(d:D)(q:PyData)(v:V),ye Y n d=some q->aS K H Z d v->sT K H q v:=by
 intro n
 induction n with
 |zero=>intro d q v h r;exact xv h r
 |succ n ih=>
  intro d q v h r;unfold ye at h;split at h
  ·rename_i xs;cases e:oy (ye Y n) xs with
   |none=>rw[e]at h;cases h
   |some qs=>
    rw[e]at h;cases h;obtain⟨a,us,rfl,h1,h2⟩:=aQ.mp r;simp only[sT];exact⟨a,us,rfl,h1,ve ih e h2⟩
  ·rename_i xs;cases e:oy (ye Y n) xs with
   |none=>rw[e]at h;cases h
   |some qs=>
    rw[e]at h;cases h;obtain⟨a,us,rfl,h1,h2⟩:=bx.mp r;simp only[sT];exact⟨a,us,rfl,h1.sq,ve ih e h2⟩
  ·rename_i k;split at h
   ·rename_i xs hx;cases e:oy (ye Y n) xs with
    |none=>rw[e]at h;cases h
    |some qs=>
     rw[e]at h;cases h;obtain⟨a,ea,us,h1,h2⟩:=S.at hx;obtain⟨a',rfl,ea'⟩:=aX.mp r;rw[ea]at ea';cases ea';simp only[sT];exact⟨a,us,rfl,.inl (.inl h1),ve ih e h2⟩
   ·rename_i hx;cases h;obtain⟨a,ea,h1⟩:=S.at hx;obtain⟨a',rfl,ea'⟩:=aX.mp r;rw[ea]at ea';cases ea';simp only[sT];exact⟨trivial,a,rfl,h1⟩
   ·cases h
  ·exact xv h r
end
def qD(q:PyData):Bool:=q.showable&&(!q.hasDict || Ld q)&&decide (q.depth<=60)&&decide (q.shown.length<=sizeLine)
def iC(ds:List D)(Y:au):ai D:=match ds with
 |[.non]=>.ok (.str "None") Y
 |[.int a]=>if a.natAbs.log2<1920 then .ok (.str (toString a)) Y else .bad
 |[.bl b]=>.ok (.str (if b then "True" else "False")) Y
 |[.str x]=>if (reprText x).length<=sizeLine then .ok (.str (reprText x)) Y else .bad
 |[d]=>match ye Y 5 d with
  |some q=>if oH d=true/\qD q=true then .ok (.str q.shown) Y else .bad
  |none=>.bad
 |_=>.bad
theorem Ec:vS p iC (C8 p.K):=by
 intro ds vs H Z Y Q S r P;unfold iC at P;split at P
 ·obtain⟨v,rfl,r1⟩:=r.one;rw[bL.mp r1];exact .inr (.inl ⟨rfl,P.now S _ (bq.mpr rfl)⟩)
 ·obtain ⟨v, rfl, r1⟩ := r.one;rw[az.mp r1];split at P
  ·rename_i ha;exact .inr (.inr (.inl ⟨_,rfl,ha,P.now S _ (bq.mpr rfl)⟩))
  ·exact P.elim
 ·obtain⟨v,rfl,r1⟩:=r.one;rw[aU.mp r1];exact .inr (.inr (.inr (.inl ⟨_,rfl,P.now S _ (bq.mpr rfl)⟩)))
 ·obtain ⟨v, rfl, r1⟩ := r.one;rw[bq.mp r1];split at P
  ·rename_i ha;exact .inr (.inr (.inr (.inr ⟨_,rfl,ha,P.now S _ (bq.mpr rfl)⟩)))
  ·exact P.elim
 ·rename_i d _ _ _ _;split at P
  ·rename_i q hq;split at P
   ·rename_i hf;obtain⟨v,rfl,r1⟩:=r.one;obtain⟨a,rfl⟩:=zh hf.1 r1;have h2:=hf.2;unfold qD at h2;simp only[Qy,Td]at h2;refine .inl ⟨a,q,rfl,IJ S 5 d q _ hq r1,h2.1.1.1,fun z=>?_,h2.1.2,h2.2,P.now S _ (bq.mpr rfl)⟩;have h3:=h2.1.1.2;rw[z]at h3;simpa using h3
   ·exact P.elim
  ·exact P.elim
 ·exact P.elim
theorem AD{X:Cx}{k:Nat}(hr:gv k X.A)(hK:X.K=p.K:=by rfl):qg X p "repr" iC:=⟨_,_,.inl ⟨_,rfl⟩,by decide +kernel,zy hr.units hr.gd,hK ▸ Ec,by decide,by decide⟩
end L2
namespace RS
open PySem PySem.W PyProof.Rows
def kc:Nat->List Int->Int
 |0,_=>0
 |_+1,[]=>0
 |n+1,x::r=>(x+1)*7^n+kc n r
def lh(k:List Int):Int:=kc 6 k
def Ce(k:List Int):Prop:=∀x∈k,0<=x/\x<6
def Sm(k:List Int):Prop:=k≠[]/\k.length<=6/\Ce k
theorem rB:∀(n:Nat)(k:List Int),Ce k->0<=kc n k/\kc n k<7^n
 |0,_,_=>by simp[kc]
 |n+1,[],_=>by
  have:(0:Int)<7^(n+1):=Tu (by decide);simp only[kc];omega
 |n+1,x::r,h=>by
  have ih:=rB n r fun y hy=>h y (O4 _ hy);have hx:=h x O3;have p0:(0:Int)<7^n:=Tu (by decide);have a:0<=(x+1)*7^n:=Int.mul_nonneg (by omega) (by omega);have b:(x+1)*7^n<=6*7^n:=Tv (by omega) (by omega);simp only[kc];rw[Int.pow_succ];omega
def sW:List Int->List Int->Bool
 |[],[]=>false
 |[],_::_=>true
 |_::_,[]=>false
 |x::r,y::r'=>if x=y then sW r r' else decide (x<y)
theorem nR{x y:Int}{r r':List Int}(hx:Ce (x::r))(hy:Ce (y::r'))(h:x<y):kc (n+1) (x::r)<kc (n+1) (y::r'):=by
 have a:=rB n r fun z hz=>hx z (O4 _ hz);have b:=rB n r' fun z hz=>hy z (O4 _ hz);have p0:(0:Int)<7^n:=Tu (by decide);have c:(x+1+1)*7^n<=(y+1)*7^n:=Tv (by omega) (by omega);rw[Int.add_mul (x+1) 1,Int.one_mul]at c;simp only[kc];omega
theorem qF:∀{n:Nat}{k k':List Int},Ce k->Ce k'->k.length<=n->k'.length<=n->decide (kc n k<kc n k')=sW k k'
 |n,[],[],_,_,_,_=>by cases n <;> simp[kc,sW]
 |0,_::_,_,_,_,h,_=>by simp at h
 |0,[],_::_,_,_,_,h=>by simp at h
 |n+1,[],y::r',_,hy,_,_=>by
  have b:=rB n r' fun z hz=>hy z (O4 _ hz);have p0:(0:Int)<7^n:=Tu (by decide);have:=hy y O3;have:0<(y+1)*7^n:=Int.mul_pos (by omega) p0;exact QP (by simp only[kc];omega)
 |n+1,x::r,[],hx,_,_,_=>by
  have b:=rB (n+1) (x::r) hx;exact OP (by simp only[kc]at b⊢;omega)
 |n+1,x::r,y::r',hx,hy,h1,h2=>by
  simp only[QV]at h1 h2;unfold sW;by_cases e:x=y
  ·subst e;rw[OS rfl,<- qF (n:=n) (fun z hz=>hx z (O4 _ hz)) (fun z hz=>hy z (O4 _ hz)) (by omega) (by omega)];rw[So];simp only[kc];constructor <;> intro h <;> omega
  ·rw [OT e];by_cases l:x<y
   ·rw[QP l,QP (nR hx hy l)]
   ·have:=nR (n:=n) hy hx (show y<x by omega);rw[OP l,OP (by omega)]
theorem xB:∀{n:Nat}{k k':List Int},Ce k->Ce k'->k.length<=n->k'.length<=n->kc n k=kc n k'->k=k'
 |_,[],[],_,_,_,_,_=>rfl
 |n,[],y::r',hx,hy,h1,h2,e=>by
  have:=qF (n:=n) hx hy h1 h2;rw[e]at this;simp[sW]at this
 |n,x::r,[],hx,hy,h1,h2,e=>by
  have:=qF (n:=n) hy hx h2 h1;rw[e]at this;simp[sW]at this
 |0,_::_,_::_,_,_,h,_,_=>by simp at h
 |n+1,x::r,y::r',hx,hy,h1,h2,e=>by
  have xy:x=y:=by
   by_cases l:x<y
   ·have:=nR (n:=n) hx hy l;omega
   ·by_cases l' : y < x
    ·have:=nR (n:=n) hy hx l';omega
    ·omega
  subst xy;simp only[QV]at h1 h2;simp only[kc]at e;rw[xB (n:=n) (fun z hz=>hx z (O4 _ hz)) (fun z hz=>hy z (O4 _ hz)) (by omega) (by omega) (by omega)]
theorem xA{k':List Int}(h:Sm k)(h':Sm k')(e:lh k=lh k'):k=k':=xB h.2.2 h'.2.2 h.2.1 h'.2.1 e
def jy(ps:List KP):Prop:=ps.Pairwise fun p q=>lh p.1<lh q.1
section
variable{w:World}
theorem su:∀{k:List Int}{vs:List Value},ItemsAre (intKind prog w) k vs->IntsAre vs k
 |_,_,.nil=>.nil
 |a::k,v::vs,.cons h1 t=>by
  obtain⟨x1,e1⟩:=OO (k:=a) h1;subst e1;exact .cons a x1 (su t)
theorem uX{h:Heap}{r:Addr}(t:Tk prog w h k r):∃o n vs,h.get? r=some o/\o.cls=.type "tuple" /\ o.data=.seq vs n/\IntsAre vs.toList k:=by
 obtain⟨o,items,n,ho,hc,hd,hi⟩:=t;exact⟨o,n,items,ho,hc,hd,su hi⟩
theorem xq{Q:Bool->Shared->Prop}{fin:Bool}:∀{k k':List Int}{vs us:List Value}{i:Nat},IntsAre vs k->IntsAre us k'->fin=decide (k.length<k'.length)->Q (sW k k') s->KatLex prog w A true fin Q (vs.zip us) i s
 |_,_,_,_,i,.nil,.nil,hf,q=>by
  subst hf;exact kat_nil q
 |_,_,_,_,i,.nil,.cons y t hu,hf,q=>by
  subst hf;rw[Te];exact kat_nil (by simpa[sW] using q)
 |_,_,_,_,i,.cons x t hv,.nil,hf,q=>by
  subst hf;rw[Tf];exact kat_nil (by simpa[sW] using q)
 |_,_,_,_,i,.cons x t hv,.cons y t' hu,hf,q=>by
  rw[Tg];refine kat_cons (OR ?_);unfold sW at q;by_cases e:x=y
  ·rw[show (x == y)=true by simpa using e];rw[OS e]at q;refine kat_yes (xq hv hu ?_ q);rw[hf];simp
  ·rw [show (x == y) = false by simpa using e];rw[OT e]at q;refine kat_no ?_;cases i with
   |zero=>
    show wpAny _ A (keyLt' oneType' _ _) Q _ s;exact kat_lt_int q
   |succ i=>
    show wpAny _ A (oneLt' false _ _) Q _ s;exact kat_one _ _ (lt_int q)
theorem IF{x y:Addr}{k':List Int}{Q:Bool->Shared->Prop}(hx:Tk prog w s.heap k x)(hy:Tk prog w s.heap k' y)(hk:Sm k)(hk':Sm k')(h:Q (decide (lh k<lh k')) s):
  wpAny (model prog w) A (keyLt' (tuples' true) (.ref x) (.ref y)) Q E s:=by
 obtain⟨o,n,vs,ho,_,hd,hv⟩:=uX hx;obtain⟨o',n',us,ho',_,hd',hu⟩:=uX hy;refine kat_lt ho hd ho' hd' (xq hv hu ?_ ?_)
 ·have a:=hv.length;have b:=hu.length;simp only[Pg]at a b;rw[a,b]
 ·unfold lh at h;rw[qF hk.2.2 hk'.2.2 hk.2.1 hk'.2.1]at h;exact h
theorem wK{h:Heap}:∀{ps:List KP},(∀p∈ps,Sm p.1)->(∀p∈ps,Tk prog w h p.1 p.2)->∃fs,KatTups h (aJ ps) fs/\fs.length=ps.length/\∀v∈fs,∃i t,v=Value.int i t
 |[],_,_=>⟨[],KatTups.nil,rfl,fun v hv=>by simp at hv⟩
 |p::ps,hk,ht=>by
  obtain⟨fs,h1,h2,h3⟩:=wK (ps:=ps) (fun q hq=>hk q (O4 _ hq)) (fun q hq=>ht q (O4 _ hq));obtain⟨o,n,vs,ho,hc,hd,hi⟩:=uX (ht p O3);have ne:=(hk p O3).1
  obtain⟨x,t,e0⟩:∃x t,vs[0]?=some (Value.int x t):=by
   cases e:p.1 with
   |nil=>exact absurd e ne
   |cons a r=>
    rw[e]at hi;generalize hl:vs.toList=l at hi;cases hi with
    |cons _ t _=>exact⟨a,t,by rw[<- Rp,hl];rfl⟩
  refine⟨.int x t::fs,KatTups.cons ho hc hd e0 h1,by rw[QV,QV,h2],fun v hv=>?_⟩;rcases O5.mp hv with q|q
  ·exact⟨x,t,q⟩
  ·exact h3 v q
theorem Gn{ps:List KP}(hk:∀p∈ps,Sm p.1)(hn:(ps.map (·.1)).Nodup){p:Array Nat}(g:fI ps.length p)(ha:Cg (fun i=>lh (ps.getD i ([],0)).1) p ps.length) :
  ∃out:List KP,(p.toList.map fun i=>(aJ ps).getD i Value.none)=aJ out/\out.Perm ps/\jy out:=by
 refine⟨p.toList.map fun i=>ps.getD i ([],0),?_,?_,?_⟩
 ·unfold aJ;rw[Re];refine Rf fun i hi=>?_;have hi':i<ps.length:=OZ.mp (g.perm.mem_iff.mp hi);simp[Sr,hi']
 ·refine (g.perm.map _).trans ?_
  have:(List.range ps.length).map (fun i=>ps.getD i ([],0))=ps:=by
   apply Ss;intro i;rw[P0];by_cases hi:i<ps.length
   ·rw[Su hi];simp[hi]
   ·rw[Sv (by simpa using hi),Sv (by omega)];rfl
  rw[this]
 ·unfold jy;rw[Sw];refine Rk.mpr fun i j hi hj hij=>?_;have hi':i<p.size:=by simpa using hi
  have hj':j<p.size:=by simpa using hj
  have:=ha i j hij (by rw[<- g.size];exact hj');unfold at' at this;simpa[Array.getD,hi',hj'] using this
theorem Bc{ps:List KP}{P:PySem.Fin->Shared->Prop}(ho:s.heap.get? a=some (seqObj "list" (aJ ps).toArray n))(hk:∀p∈ps,Sm p.1)(hn:(ps.map (·.1)).Nodup)(hlen:ps.length<64)(hT:∀p∈ps,Tk prog w s.heap p.1 p.2)(h:∀out:List KP,out.Perm ps->jy out->P (.done (.ret .none)) {s with heap:=sortedHeap s.heap a (aJ ps) (aJ out).toArray}):
  wpAny (model prog w) A (Builtin.«list.sort» ⟨[.ref a],[]⟩) P E s:=by
 have hvl:(aJ ps).length=ps.length:=by unfold aJ;rw[Qd]
 rw[list_sort_plain];have hal:a<s.heap.objs.size:=OU ho;refine Pj (Sx ho rfl ?_);refine Pj (Sy ho rfl ?_ (by rw[PH,hvl];exact O0 (O1 hlen) (by decide)) (Q4 _));obtain⟨e1,ho1⟩:∃e1,(s.heap.update a (Obj.mapSeq fun _=>#[])).get? a=some (seqObj "list" #[] e1):=⟨_,SA ho (fun _=>#[])⟩;refine Pj (SB ho1 rfl ?_);refine Pj (wpAny_newTuple ?_);refine Pj (SC ?_);refine Pl ?_
 have ho6:(((s.heap.update a (Obj.mapSeq fun _=>#[])).push (seqObj "tuple" (aJ ps).toArray 0)).push (seqObj "list" #[] 0)).get? a=some (seqObj "list" #[] e1):=by
  rw[SD _ _ _ (by rw[SE,SF];exact OX (QX hal)),SD _ _ _ (by rw[SF];exact OX hal)];exact ho1
 show wpAny (model prog w) A _ P E {s with heap:=((s.heap.update a (Obj.mapSeq fun _=>#[])).push (seqObj "tuple" (aJ ps).toArray 0)).push (seqObj "list" #[] 0)};dsimp only
 have hna:∀p∈ps,p.2≠a:=fun p hp e=>by
  obtain⟨o,items,m,ho',hc',_⟩:=hT p hp;rw[e,ho]at ho';have:=ON ho';subst this;exact absurd (show Value.type "list" = Value.type "tuple" from hc') (by decide)
 generalize hS:({s with heap:=((s.heap.update a (Obj.mapSeq fun _=>#[])).push (seqObj "tuple" (aJ ps).toArray 0)).push (seqObj "list" #[] 0)}:Shared)=s1;have eh1:s1.heap=((s.heap.update a (Obj.mapSeq fun _=>#[])).push (seqObj "tuple" (aJ ps).toArray 0)).push (seqObj "list" #[] 0):=by rw[<- hS]
 have hT1:∀p∈ps,Tk prog w s1.heap p.1 p.2:=fun p hp=>by
  obtain⟨o,items,m,ho',rest⟩:=hT p hp;refine⟨o,items,m,?_,rest⟩;rw[eh1];refine Pt _ (Pt _ ?_);rw[SG _ _ _ _ (hna p hp)];exact ho'
 rw[<- eh1]at ho6
 have hfin:∀out:List KP,out.Perm ps->jy out->P (.done (.ret .none)) {s1 with heap:=s1.heap.update a (Obj.mapSeq fun _=>(aJ out).toArray)}:=fun out h1 h2=>by
  have q:=h out h1 h2;rw[<- hS];exact q
 have hszv:(aJ ps).toArray.size=ps.length:=by rw[PH,hvl]
 by_cases h2:(aJ ps).toArray.size<2
 ·rw [OS h2, OS h2];refine Pj (Pp ?_);rw[StateT.run_pure];refine Pj (Pp ?_);dsimp only;refine Pj (SB ho6 rfl ?_)
  have eo:(arrOf (SortSt.mk' general' ((aJ ps).toArray.zip (aJ ps).toArray) #[] 7 none)).map (·.2)=(aJ ps).toArray:=by
   show (((aJ ps).toArray.zip (aJ ps).toArray)).map (·.2)=_;apply Sn.mp;rw[RL,Array.toList_zip];exact List.map_snd_zip (Pv _)
  rw[eo];refine Pj (Sy ho6 rfl ?_ (Q4 _) (by show (aJ ps).toArray.size<=_;rw[hszv];exact O0 (O1 hlen) (by decide)));simp only[SH,QU,Ql];refine Pp (hfin ps (SI _) ?_);rw[hszv]at h2
  match ps,h2 with
  |[],_=>exact List.Pairwise.nil
  |[_],_=>exact List.pairwise_singleton _ _
  |_::_::_,h=>rw[QV,QV]at h;omega
 ·rw [OT h2, OT h2];rw[hszv]at h2;obtain⟨fs,k1,k2,k3⟩:=wK hk hT1;refine Pj (kat_kind (T:=Value.type "int") k1 (by omega) (fun v hv=>?_) (by rfl) ?_)
  ·obtain⟨i,t,e⟩:=k3 v hv;rw[e];exact .now
  ·have et : (Value.type "int" != Value.type "tuple") = true := by decide
   rw[et]
   refine Pj (Pe (kat_run (ks:=aJ ps) (vs:=aJ ps) (Q:=fun st' s'=>s'=s1/\failedOf st'=none/\∃out:List KP,out.Perm ps/\jy out/\(arrOf st').map (·.2)=(aJ out).toArray)
    (G:=fun p s'=>s'=s1/\∃out:List KP,(p.toList.map fun i=>(aJ ps).getD i Value.none)=aJ out/\out.Perm ps/\jy out) rfl (by rw[hvl];omega) (by rw[hvl];omega) ?_ ?_) ?_ fun _ _ e=>e)
   ·rintro p st' s' hp har hf ⟨e, out, o1, o2, o3⟩
    exact⟨e,hf,out,o2,o3,by rw[kat_snds rfl har,o1]⟩
   ·rw [hvl];refine z9 (key:=fun i=>lh (ps.getD i ([],0)).1) (fun i j hi hj e=>?_) (fun i j hi hj C hC=>?_) (by omega) _ (fun p g ha=>⟨rfl,Gn hk hn g ha⟩)
    ·have hi' : ps.getD i ([], 0) = ps[i] := by simp [Sr, hi]
     have hj':ps.getD j ([],0)=ps[j]:=by simp[Sr,hj]
     simp only[hi',hj']at e;have e2:=xA (hk _ (SJ hi)) (hk _ (SJ hj)) e;have hil:i<(ps.map (·.1)).length:=by rw[Qd];exact hi
     have hjl:j<(ps.map (·.1)).length:=by rw[Qd];exact hj
     exact(Pb (h₀:=hil) (h₁:=hjl) hn).mp (by simpa using e2)
    ·unfold kas_ask;have gi:(aJ ps).getD i Value.none=.ref ps[i].2:=by unfold aJ;simp[Sr,hi]
     have gj:(aJ ps).getD j Value.none=.ref ps[j].2:=by unfold aJ;simp[Sr,hj]
     have hi':ps.getD i ([],0)=ps[i]:=by simp[Sr,hi]
     have hj':ps.getD j ([],0)=ps[j]:=by simp[Sr,hj]
     rw[gi,gj];simp only[hi',hj']at hC;exact IF (hT1 _ (SJ hi)) (hT1 _ (SJ hj)) (hk _ (SJ hi)) (hk _ (SJ hj)) hC
   ·rintro ⟨⟨⟩, st'⟩ s' ⟨rfl, hf, out, o1, o2, o3⟩
    dsimp only;refine Pj (SB ho6 rfl ?_);rw[o3];refine Pj (Sy ho6 rfl ?_ (Q4 _) (by show (aJ out).toArray.size<=_;rw[PH];unfold aJ;rw[Qd,o1.length_eq];exact O0 (O1 hlen) (by decide)));rw[hf];simp only[SH,QU,Ql];exact Pp (hfin out o1 o2)
theorem yT{x:Value}{ps:List KP}(hk:∀p∈ps,Sm p.1)(hn:(ps.map (·.1)).Nodup)(h64:ps.length<64)(hT:∀p∈ps,Tk prog w s.heap p.1 p.2)(hcol:∀Q':List Value->Shared->Prop,(∀qs:List KP,qs.Perm ps->∀h',(∀b u,s.heap.get? b=some u->h'.get? b=some u)->s.heap.objs.size<=h'.objs.size->Q' (aJ qs) {s with heap:=h'})->wpAny (model prog w) A.in1 (collect x) Q' E s)(h:∀out:List KP,out.Perm ps->jy out->∀h' D,s.heap.objs.size<=D->(∀b u,s.heap.get? b=some u->h'.get? b=some u)->(∃n,h'.get? D=some (seqObj "list" (aJ out).toArray n))->Q (.ref D) {s with heap:=h'}):
  wpAny (model prog w) A (call (.builtin "sorted") [x]) Q E s:=by
 refine SR SS SU SV (SW _) ?_;unfold Builtin.«sorted»;refine Pj (m:=checkCount "sorted" 1 1 _) (Pp ?_);refine Pj (hcol _ fun qs hqs h1 k1 hsz=>?_);have hkq:∀p∈qs,Sm p.1:=fun p hp=>hk p (hqs.mem_iff.mp hp);have hnq:(qs.map (·.1)).Nodup:=(hqs.map _).nodup_iff.mpr hn;have hlen:qs.length<64:=by rw[hqs.length_eq];exact h64
 have hvl:(aJ qs).length<=63:=by unfold aJ;rw[Qd];exact Rt hlen
 refine Pj (SC ?_ (O0 hvl (by decide)));have hoL:(h1.push (seqObj "list" (aJ qs).toArray 0)).get? h1.objs.size=some (seqObj "list" (aJ qs).toArray 0):=Pu _ rfl;have hnn:∀b u,h1.get? b=some u->b≠h1.objs.size:=fun b u q=>OX (OU q);refine Pj (Pl (Qu SX (s:={s with heap:=h1.push (seqObj "list" (aJ qs).toArray 0)}) ⟨_,hoL,rfl⟩ SY ?body (SZ _)))
 case body=>
  refine Bc (s:={s with heap:=h1.push (seqObj "list" (aJ qs).toArray 0)}) hoL hkq hnq hlen (fun p hp=>?_) fun out h2 h3=>?_
  ·obtain⟨o,its,n,ho,rest⟩:=hT p (hqs.mem_iff.mp hp);exact⟨o,its,n,Pt _ (k1 _ _ ho),rest⟩
  ·refine ⟨_, rfl, Pp ⟨_, rfl, h out (h2.trans hqs) h3 _ h1.objs.size hsz (fun b u q => ?_) ?_⟩⟩
   ·have hb:=hnn b u (k1 b u q);unfold sortedHeap;rw[SG _ _ _ _ hb];refine Pt _ (Pt _ ?_);rw[SG _ _ _ _ hb];exact Pt _ (k1 b u q)
   ·unfold sortedHeap;have g1:=SA hoL (fun _=>#[]);have g2:=Pt (seqObj "list" #[] 0) (Pt (seqObj "tuple" (aJ qs).toArray 0) g1);exact⟨_,SA g2 (fun _=>(aJ out).toArray)⟩
end
end RS
namespace L2
open PySem PySem.Spec PyProof.Rows RS
section
variable{X:Cx}
def C7(K:W.Frag):List V->Hp->VK->Prop:=fun xs H Q=>∃(a:Addr)(ps:List KP),xs=[.ref a]/\fK K H a (iY ps)/\(∀p∈ps,Sm p.1/\gr K H p.2 (p.1.map V.int))/\(ps.map (·.1)).Nodup/\ps.length<64 /\
 ∀out:List KP,out.Perm ps->jy out->∀l,H l=none->Q (.ref l) (dk H l (.lst (iY out)))
theorem zu:cY X (.builtin "sorted") (C7 X.K):=by
 intro pins s B H xs us Q I r h;obtain⟨a,ps,rfl,ha,hT,hn,h64,q⟩:=h;obtain⟨u,rfl,ru⟩:=fH r;cases ru;obtain⟨its,rv,⟨o,n,e1,e2,_,e3⟩,hz⟩:=I.list ha;have ev:its=aJ ps:=oJ rv;subst ev;have hl:(aJ ps).length<=sizeLine:=by unfold aJ;rw[Qd];exact O0 (O1 h64) (by decide)
 refine yT (fun p hp=>(hT p hp).1) hn h64 (fun p hp=>Cu I (hT p hp).2) (fun Q' hq=>pU (.inl rfl) e1 e2 e3 (hq ps (SI _) _ (fun b u e=>?_) ?_) hl) fun out hp hr h' D hD hk hnn=>?_
 ·rw[SG _ _ _ _ (OX (OU e))];exact Pt _ e
 ·rw[SF,SE];exact Nat.le_succ _
 ·refine⟨.ref D,dk H D (.lst (iY out)),I.laid (t':=s.toks) (fun b ob e=>hk b ob e) hD ?_,rfl,q out hp hr _ (I.hok.fresh hD)⟩;obtain⟨n,e⟩:=hnn;refine⟨?_,aJ out,n,lE out,e⟩;unfold iY;rw[Qd,hp.length_eq];exact O0 (O1 h64) (by decide)
end
def Na(ns:List Int):Bool:=!ns.isEmpty&&(decide (ns.length<=6)&&ns.all fun x=>decide (0<=x)&&decide (x<6))
theorem Ab:Na ns=true↔Sm ns:=by
 unfold Na Sm Ce;rw[Qy,Qy,Td,RP];constructor
 ·rintro ⟨h1, h2, h3⟩
  refine⟨fun e=>by subst e;simp at h1,h2,fun x hx=>by simpa using h3 x hx⟩
 ·rintro ⟨h1, h2, h3⟩
  refine⟨?_,h2,fun x hx=>by simpa using h3 x hx⟩;cases ns with
  |nil=>exact absurd rfl h1
  |cons=>rfl
def wg:D->Option (List Int)
 |.tup xs=>match jn xs with
  |some ns=>if Na ns=true then some ns else none
  |none=>none
 |_=>none
def qS:List D->Option (List (List Int))
 |[]=>some []
 |x::xs=>match wg x with
  |some k=>match qS xs with
   |some ks=>some (k::ks)
   |none=>none
  |none=>none
theorem Dy{x:D}(h:wg x=some k):x=aK k/\Sm k:=by
 unfold wg at h;split at h
 ·split at h
  ·rename_i xs ns e;split at h
   ·rename_i hs;cases h;exact⟨by rw[gk e];rfl,Ab.mp hs⟩
   ·cases h
  ·cases h
 ·cases h
theorem wL:∀{xs:List D}{ks:List (List Int)},qS xs=some ks->xs=ks.map aK/\∀k∈ks,Sm k
 |[],ks,h=>by cases h;exact⟨rfl,by simp⟩
 |x::xs,ks,h=>by
  unfold qS at h;cases e1:wg x with
  |none=>rw[e1]at h;cases h
  |some k=>
   rw[e1]at h;cases e2:qS xs with
   |none=>rw[e2]at h;cases h
   |some r=>
    rw[e2]at h;cases h;obtain⟨a,b⟩:=Dy e1;obtain⟨c,d⟩:=wL e2;exact⟨by rw[a,c];rfl,fun z hz=>(O5.mp hz).elim (fun y=>by rw[y];exact b) (d z)⟩
def nA(ks:List (List Int)):List (List Int):=ks.mergeSort fun a b=>decide (lh a<=lh b)
theorem jb:(nA ks).Perm ks:=Tn ks _
theorem wU:(nA ks).Pairwise fun a b=>lh a<=lh b:=by
 have:=List.pairwise_mergeSort (le:=fun(a b:List Int)=>decide (lh a<=lh b)) (fun a b c h1 h2=>by simp at *;omega) (fun a b=>by simp;omega) ks;exact this.imp fun h=>by simpa using h
theorem wR(hs:∀k∈ks,Sm k)(hp:ks'.Perm ks)(hr:ks'.Pairwise fun a b=>lh a<=lh b):ks'=nA ks:=
 (hp.trans jb.symm).eq_of_pairwise (fun a b ha hb h1 h2=>xA (hs a (hp.mem_iff.mp ha)) (hs b (jb.mem_iff.mp hb)) (To h1 h2)) hr wU
def cZ(ds:List D)(Y:au):ai D:=match ds with
 |[.obj n]=>match Y[n]? with
  |some (.lst xs)=>match qS xs with
   |some ks=>if ks.Nodup/\ks.length<64 then .ok (.obj Y.length) (Y++[.lst ((nA ks).map aK)]) else .bad
   |none=>kq [.obj n] Y
  |_=>kq [.obj n] Y
 |ds=>kq ds Y
theorem y8:vS p cZ (fun xs H Q=>C7 p.K xs H Q\/((yC p.K xs H Q\/yB p.K p.w xs H Q)\/yA p.w xs H Q)):=by
 intro ds vs H Z Y Q S r P;unfold cZ at P;split at P
 ·rename_i n;split at P
  ·rename_i xs hx;split at P
   ·rename_i ks hks;split at P
    ·rename_i hc;obtain⟨f1,f2⟩:=wL hks;obtain⟨v,rfl,r1⟩:=r.one;obtain⟨a,us,rfl,a1,h1,rr⟩:=dh S r1 hx;rw[f1]at rr;obtain⟨qs,e1,e2,e3⟩:=rr.keys;subst e2;refine .inl ⟨a,qs,rfl,fK.of h1,fun q hq=>⟨f2 _ (by rw[<- e1];exact Rx hq),e3 q hq⟩,by rw[e1];exact hc.1,by rw[<- Qd (f:=(·.1)),e1];exact hc.2,fun out hp hr l hl=>?_⟩;have ro:p.Rs H Z ((out.map (·.1)).map aK) (iY out):=lH fun q hq=>e3 q (hp.mem_iff.mp hq);have hk:(out.map (·.1)).Perm ks:=by rw[<- e1];exact hp.map _
     rw[wR f2 hk (Sw.mpr (hr.imp fun h=>Int.le_of_lt h))]at ro;obtain⟨x1,x2,x3⟩:=dN S hl ro;exact P _ _ x1 x2 _ x3
    ·exact P.elim
   ·exact .inr (oQ _ _ _ _ _ _ S r P)
  ·exact .inr (oQ _ _ _ _ _ _ S r P)
 ·exact .inr (oQ _ _ _ _ _ _ S r P)
theorem mj{X:Cx}(hc:X.calm=true:=by rfl)(hK:X.K=p.K:=by rfl)(hw:X.w=p.w:=by rfl):qg X p "sorted" cZ:=⟨_,_,.inl ⟨_,rfl⟩,by decide +kernel,zu.or ((zx.or (zw hc)).or (zv hc)),by rw[hK,hw];exact y8,by decide,by decide⟩
def LD(K:W.Frag):R2:=fun x y H Q=>∃a b xs,x=.ref a/\y=.ref b/\gr K H a xs/\gr K H b []/\Q (.bl xs.isEmpty) H
theorem JZ{X:Cx}(hu:X.A.units+64<cLine):iJ X (compareOp .Eq) (LD X.K):=by
 intro pins s B H x y u v Q I rx ry h;obtain⟨a,b,xs,rfl,rfl,ha,hb,q⟩:=h;cases rx;cases ry;obtain⟨its,rv,pl,_⟩:=I.tuple ha;obtain⟨its',rv',pl',_⟩:=I.tuple hb;cases rv'
 have hs:(its.toArray.size == ([]:List Value).toArray.size)=xs.isEmpty:=by
  have:=rv.length;cases xs with
  |nil=>cases rv;rfl
  |cons x r=>cases rv with
   |cons _ _=>rfl
 refine SeqAt.RcAt.tuples (e:=fun _=>true) pl pl' (by omega) (fun j h1 h2=>absurd h2 (Nat.not_lt_zero _)) X.prog X.w X.xe _ ?_;rw[hs,show (List.range (min its.toArray.size ([]:List Value).toArray.size)).all (fun _=>true)=true from by simp,Tw];exact⟨.bl _,H,I,rfl,q⟩
def AR(x y:D)(Y:au):ai D:=match x,y with
 |.tup xs,.tup []=>.ok (.bl xs.isEmpty) Y
 |x,y=>kZ false x y Y
theorem Kc:qd p AR (fun x y H Q=>LD p.K x y H Q\/AL p.K false x y H Q):=by
 intro a b v y H Z Y Q S ra rb P;unfold AR at P;split at P
 ·rename_i xs;obtain⟨a,us,rfl,h1,rr⟩:=aQ.mp ra;obtain⟨b,ws,rfl,h2,rr'⟩:=aQ.mp rb;have:ws=[]:=by simpa only[Reps] using rr'
  subst this;refine .inl ⟨a,b,us,rfl,rfl,h1,h2,?_⟩;rw[rr.isEmpty];exact P.now S _ (aU.mpr rfl)
 ·exact .inr (CH _ _ _ _ _ _ _ _ S ra rb P)
theorem Mv{X:Cx}(hu:X.A.units+64<cLine)(hK:X.K=p.K:=by rfl):kX X p .Eq AR:=⟨_,fun pins s B H x y u v Q I rx ry h=>h.elim (fun z=>JZ hu pins s B H x y u v Q I rx ry (hK ▸ z)) fun z=>Dc hu pins s B H x y u v Q I rx ry (hK ▸ z),Kc⟩
end L2
namespace RS
open PySem PySem.W PyProof.Rows
structure ZA(z TI TO i1 i2:Addr)(f1 f2:List Addr):Prop where
 TIz:TI≠z
 TOz:TO≠z
 i1z:i1≠z
 i2z:i2≠z
 TOi1:TO≠i1
 TOi2:TO≠i2
 z1:z∉f1
 z2:z∉f2
 t1:TO∉f1
 t2:TO∉f2
 j1:i2∉f1
 j2:i1∉f2
section
variable{w:World}{z TI TO i1 i2:Addr}{f1 f2:List Addr}{n1 n2 k:Nat}{P1 P2:Nat->Value->Prop}{S1 S2:Nat->Heap->Prop}{a b:Value}
theorem cA{c:Addr}{P:Nat->Value->Prop}{St:Nat->Heap->Prop}{h:Heap}(D:Draws prog w A it fp n P St)(x:St i h)(e:Heap.ExtBut c h h')(hc:c∉fp):St i h':=
 D.frame _ _ _ x fun b hb o y=>e b o (fun q=>hc (q ▸ hb)) y
theorem AX(D1:Draws prog w A i1 f1 n1 P1 S1)(D2:Draws prog w A i2 f2 n2 P2 S2)(α:ZA z TI TO i1 i2 f1 f2)(hz:IsZip s.heap z TI TO .none)(hTI:IsPair s.heap TI (.ref i1) (.ref i2))(hTO:IsPair s.heap TO a b)(h1:S1 k s.heap)(h2:S2 k s.heap)(hk1:k<n1)(hk2:k<n2)(hQ : ∀ x y h' tk, P1 k x -> P2 k y -> IsZip h' z TI TO (rawInt s.heap.objs.size) -> IsPair h' TO x y -> S1 (k + 1) h' -> S2 (k + 1) h' -> IsPair h' s.heap.objs.size x y ->
   (∀c o,c≠z->c≠TO->c≠i1->c≠i2->s.heap.get? c=some o->h'.get? c=some o)->Q (.ref s.heap.objs.size) {s with heap:=h',toks:=tk}):
  wpAny (model prog w) A (Builtin.«zip.__next__» ⟨[.ref z],[]⟩) (fun fin s'=>∃v,fin=.done (.ret v)/\Q v s') E s:=by
 show wpAny _ _ (field (.ref z) 2 >>= _) _ _ _;refine Pj (Qo hz rfl (x:=.bool false) rfl ?_);show wpAny _ _ (field (.ref z) 3 >>= _) _ _ _;refine Pj (Qo hz rfl (x:=.ref TI) rfl ?_);refine Pj (Q9 hTI rfl ?_);show wpAny _ _ (Builtin.SmallTypes.ownedTupleIsFree (.ref z) >>= _) _ _ _;refine Pj ?_;unfold Builtin.SmallTypes.ownedTupleIsFree;refine Pj (Qo hz rfl (x:=.none) rfl (Pp ?_));simp only[Qm];refine Pj (Q3 ?_);refine Pj (Qo hz rfl (x:=.ref TO) rfl ?_);refine Pj (SN hz (by simp) fun h₁ hz₁ hs₁=>?_);replace hz₁:IsZip h₁ z TI TO .ellipsis:=hz₁;replace hs₁:Heap.SameBut z s.heap h₁:=hs₁;refine Pj ?_;simp only[List.zipIdx_cons,List.zipIdx_nil,QS,List.forIn_nil];refine Pj (Pj (Tx ?_));show wpAny _ _ (Builtin.SmallTypes.nextOf (.ref i1) >>= _) _ _ _;refine Pj (D1.item k _ _ _ hk1 (cA D1 h1 hs₁.extBut α.z1) fun x h₂ tk px h1₂ hs₂=>Pp ?_);replace hs₂:Heap.SameBut i1 h₁ h₂:=hs₂;have hTO₂:IsPair h₂ TO a b:=hs₂.extBut _ _ α.TOi1 (hs₁.extBut _ _ α.TOz hTO);refine Pj (Q9 hTO₂ rfl ?_);refine Pj (TB hTO₂ fun h₃ hTO₃ hs₃=>?_);replace hTO₃:IsPair h₃ TO x b:=hTO₃;replace hs₃:Heap.SameBut TO h₂ h₃:=hs₃;refine Pj (TC (Pp ?_));refine Pj (Pj (Tx ?_));show wpAny _ _ (Builtin.SmallTypes.nextOf (.ref i2) >>= _) _ _ _;refine Pj (D2.item k _ _ _ hk2 (cA D2 (cA D2 (cA D2 h2 hs₁.extBut α.z2) hs₂.extBut α.j2) hs₃.extBut α.t2) fun y h₄ tk2 py h2₄ hs₄=>Pp ?_);replace hs₄:Heap.SameBut i2 h₃ h₄:=hs₄;have hTO₄:IsPair h₄ TO x b:=hs₄.extBut _ _ α.TOi2 hTO₃;refine Pj (Q9 hTO₄ rfl ?_);refine Pj (TB hTO₄ fun h₅ hTO₅ hs₅=>?_);replace hTO₅:IsPair h₅ TO x y:=hTO₅;replace hs₅:Heap.SameBut TO h₄ h₅:=hs₅;refine Pj (TC (Pp (Pp ?_)));refine Pj (Q9 hTO₅ rfl ?_);refine Pj (wpAny_newTuple ?_);have hsz:h₅.objs.size=s.heap.objs.size:=by rw[hs₅.1,hs₄.1,hs₃.1,hs₂.1,hs₁.1]
 have hz₅:IsZip h₅ z TI TO .ellipsis:=hs₅.extBut _ _ α.TOz.symm (hs₄.extBut _ _ α.i2z.symm (hs₃.extBut _ _ α.TOz.symm (hs₂.extBut _ _ α.i1z.symm hz₁)))
 have hk₅:∀c o,c≠z->c≠TO->c≠i1->c≠i2->s.heap.get? c=some o->h₅.get? c=some o:=fun c o c1 c2 c3 c4 e=>
  hs₅.extBut _ _ c2 (hs₄.extBut _ _ c4 (hs₃.extBut _ _ c2 (hs₂.extBut _ _ c3 (hs₁.extBut _ _ c1 e))))
 have h1₅:S1 (k+1) h₅:=cA D1 (cA D1 (cA D1 h1₂ hs₃.extBut α.t1) hs₄.extBut α.j1) hs₅.extBut α.t1;have h2₅:S2 (k+1) h₅:=cA D2 h2₄ hs₅.extBut α.t2;have hzlt:z<h₅.objs.size:=OU hz₅;show wpAny _ _ (Builtin.SmallTypes.ownedTupleHandOut (.ref z) (.ref h₅.objs.size) >>= _) _ _ _;refine Pj ?_;unfold Builtin.SmallTypes.ownedTupleHandOut;have hz₆:IsZip (h₅.push {cls:=.type "tuple",data:=.seq #[x,y]}) z TI TO .ellipsis:=Pt _ hz₅;refine Pj (SN hz₆ (by simp) fun h₇ hz₇ hs₇=>?_);replace hz₇:IsZip h₇ z TI TO (rawInt h₅.objs.size):=hz₇;refine SN hz₇ (by simp) fun h₈ hz₈ hs₈=>?_;replace hz₈:IsZip h₈ z TI TO (rawInt h₅.objs.size):=hz₈;have up:∀c o,c≠z->h₅.get? c=some o->h₈.get? c=some o:=fun c o c1 e=>hs₈.extBut _ _ c1 (hs₇.extBut _ _ c1 (Pt _ e));have hT₈:IsPair h₈ h₅.objs.size x y:=hs₈.extBut _ _ (Po hzlt) (hs₇.extBut _ _ (Po hzlt) (Pu _ rfl));rw[hsz]at hz₈ hT₈;refine Pp ⟨_,rfl,?_⟩;show Q (.ref h₅.objs.size) _;rw[hsz];exact hQ x y h₈ tk2 px py hz₈ (up _ _ α.TOz hTO₅) (cA D1 h1₅ (c:=z) (fun c o c1 e=>up c o c1 e) α.z1) (cA D2 h2₅ (c:=z) (fun c o c1 e=>up c o c1 e) α.z2) hT₈ fun c o c1 c2 c3 c4 e=>up c o c1 (hk₅ c o c1 c2 c3 c4 e)
theorem Dv{Q:Fin->Shared->Prop}(D1:Draws prog w A i1 f1 n1 P1 S1)(D2:Draws prog w A i2 f2 n2 P2 S2)(α:ZA z TI TO i1 i2 f1 f2)
  (hz:IsZip s.heap z TI TO .none) (hTI:IsPair s.heap TI (.ref i1) (.ref i2)) (hTO:IsPair s.heap TO a b) (h1:S1 k s.heap) (h2:S2 k s.heap) (hk:k=n1\/k<n1/\k=n2)
  (hE:∀h' e tk,(∀c o,c≠z->c≠TO->c≠i1->c≠i2->s.heap.get? c=some o->h'.get? c=some o)->(∃o,h'.get? e=some o/\o.cls=.type "StopIteration")->E (.ref e) {s with heap:=h',toks:=tk}) :
  wpAny (model prog w) A (Builtin.«zip.__next__» ⟨[.ref z],[]⟩) Q E s:=by
 show wpAny _ _ (field (.ref z) 2 >>= _) _ _ _;refine Pj (Qo hz rfl (x:=.bool false) rfl ?_);show wpAny _ _ (field (.ref z) 3 >>= _) _ _ _;refine Pj (Qo hz rfl (x:=.ref TI) rfl ?_);refine Pj (Q9 hTI rfl ?_);show wpAny _ _ (Builtin.SmallTypes.ownedTupleIsFree (.ref z) >>= _) _ _ _;refine Pj ?_;unfold Builtin.SmallTypes.ownedTupleIsFree;refine Pj (Qo hz rfl (x:=.none) rfl (Pp ?_));simp only[Qm];refine Pj (Q3 ?_);refine Pj (Qo hz rfl (x:=.ref TO) rfl ?_);refine Pj (SN hz (by simp) fun h₁ hz₁ hs₁=>?_);replace hz₁:IsZip h₁ z TI TO .ellipsis:=hz₁;replace hs₁:Heap.SameBut z s.heap h₁:=hs₁;refine Pj ?_;simp only[List.zipIdx_cons,List.zipIdx_nil,QS,List.forIn_nil];refine Pj (Pj (Tx ?_));show wpAny _ _ (Builtin.SmallTypes.nextOf (.ref i1) >>= _) _ _ _;rcases hk with rfl|⟨hk,rfl⟩
 ·refine Pj (D1.done _ _ _ (cA D1 h1 hs₁.extBut α.z1) fun h₂ e hs₂ he => ?_);replace hs₂:Heap.ExtBut i1 h₁ h₂:=hs₂;obtain⟨oe,hoe,hce⟩:=he;have hz₂:IsZip h₂ z TI TO .ellipsis:=hs₂ _ _ α.i1z.symm hz₁;have hez:e≠z:=fun x=>by subst x;rw[hz₂]at hoe;cases hoe;simp at hce
  refine SN hz₂ (by simp) fun h₃ _ hs₃=>hE h₃ e s.toks (fun c o c1 _ c3 _ x=>hs₃.extBut _ _ c1 (hs₂ _ _ c3 (hs₁.extBut _ _ c1 x))) ⟨oe,hs₃.extBut _ _ hez hoe,hce⟩
 ·refine Pj (D1.item k _ _ _ hk (cA D1 h1 hs₁.extBut α.z1) fun x h₂ tk px h1₂ hs₂ => Pp ?_);replace hs₂:Heap.SameBut i1 h₁ h₂:=hs₂;have hTO₂:IsPair h₂ TO a b:=hs₂.extBut _ _ α.TOi1 (hs₁.extBut _ _ α.TOz hTO);refine Pj (Q9 hTO₂ rfl ?_);refine Pj (TB hTO₂ fun h₃ hTO₃ hs₃=>?_);replace hs₃:Heap.SameBut TO h₂ h₃:=hs₃;refine Pj (TC (Pp ?_));refine Pj (Pj (Tx ?_));show wpAny _ _ (Builtin.SmallTypes.nextOf (.ref i2) >>= _) _ _ _;refine Pj (D2.done _ _ _ (cA D2 (cA D2 (cA D2 h2 hs₁.extBut α.z2) hs₂.extBut α.j2) hs₃.extBut α.t2) fun h₄ e hs₄ he=>?_);replace hs₄:Heap.ExtBut i2 h₃ h₄:=hs₄;obtain⟨oe,hoe,hce⟩:=he;have hz₄:IsZip h₄ z TI TO .ellipsis:=hs₄ _ _ α.i2z.symm (hs₃.extBut _ _ α.TOz.symm (hs₂.extBut _ _ α.i1z.symm hz₁));have hez:e≠z:=fun x=>by subst x;rw[hz₄]at hoe;cases hoe;simp at hce
  refine SN hz₄ (by simp) fun h₅ _ hs₅=>hE h₅ e tk (fun c o c1 c2 c3 c4 x=>hs₅.extBut _ _ c1 (hs₄ _ _ c4 (hs₃.extBut _ _ c2 (hs₂.extBut _ _ c3 (hs₁.extBut _ _ c1 x))))) ⟨oe,hs₅.extBut _ _ hez hoe,hce⟩
theorem Bz{Q:Option Value->Shared->Prop}(D1:Draws prog w A.in1 i1 f1 n1 P1 S1)(D2:Draws prog w A.in1 i2 f2 n2 P2 S2)(α:ZA z TI TO i1 i2 f1 f2)
  (hz:IsZip s.heap z TI TO .none) (hTI:IsPair s.heap TI (.ref i1) (.ref i2)) (hTO:IsPair s.heap TO a b) (h1:S1 k s.heap) (h2:S2 k s.heap) (hk1:k<n1) (hk2:k<n2)
  (hQ : ∀ x y h' tk, P1 k x -> P2 k y -> IsZip h' z TI TO (rawInt s.heap.objs.size) -> IsPair h' TO x y -> S1 (k + 1) h' -> S2 (k + 1) h' -> IsPair h' s.heap.objs.size x y ->
   (∀c o,c≠z->c≠TO->c≠i1->c≠i2->s.heap.get? c=some o->h'.get? c=some o)->Q (some (.ref s.heap.objs.size)) {s with heap:=h',toks:=tk}):wpAny (model prog w) A (pyNext (.ref z)) Q E s:=by
 have hT:s.TypeIs (.ref z) "zip" := ⟨_,hz,rfl⟩;unfold pyNext
 exact Pj (SM (Qs (name:=Str.ofString "__next__") hT TF
  (Qu TF hT F.entry_zip_next
   (AX D1 D2 α hz hTI hTO h1 h2 hk1 hk2 fun x y h' tk a0 a1 a2 a3 a4 a5 a6 a7=>Pp (hQ x y h' tk a0 a1 a2 a3 a4 a5 a6 a7)) (F.args_zip_next_1 _))))
theorem EC{Q:Option Value->Shared->Prop}(D1:Draws prog w A.in1 i1 f1 n1 P1 S1)(D2:Draws prog w A.in1 i2 f2 n2 P2 S2)(α:ZA z TI TO i1 i2 f1 f2)
  (hz:IsZip s.heap z TI TO .none) (hTI:IsPair s.heap TI (.ref i1) (.ref i2)) (hTO:IsPair s.heap TO a b) (h1:S1 k s.heap) (h2:S2 k s.heap) (hk:k=n1\/k<n1/\k=n2)
  (hQ:∀h' tk,(∀c o,c≠z->c≠TO->c≠i1->c≠i2->s.heap.get? c=some o->h'.get? c=some o)->Q none {s with heap:=h',toks:=tk}):wpAny (model prog w) A (pyNext (.ref z)) Q E s:=by
 have hT:s.TypeIs (.ref z) "zip" := ⟨_,hz,rfl⟩;unfold pyNext
 refine Pj (SM (Qs (name:=Str.ofString "__next__") hT TF
  (Qu TF hT F.entry_zip_next (Dv D1 D2 α hz hTI hTO h1 h2 hk fun h' e tk hk he=>?_) (F.args_zip_next_1 _))))
 obtain⟨o,ho,hc⟩:=he;refine Pj (SQ (T:="StopIteration") (b:=true) ⟨o,ho,hc⟩ isSubtype_stop ?_);exact Pp (hQ _ _ hk)
end
abbrev MX (h:Heap) (l1:Addr):Heap:=h.push {cls:=.type "tuple_iterator",data:=.fields #[.ref l1,.int 0 0]}
abbrev MW (h:Heap) (l1 l2:Addr):Heap:=(MX h l1).push {cls:=.type "tuple_iterator",data:=.fields #[.ref l2,.int 0 0]}
abbrev MV (h:Heap) (l1 l2:Addr):Heap:=(MW h l1 l2).push {cls:=.type "tuple",data:=.seq #[.ref h.objs.size,.ref (MX h l1).objs.size]}
abbrev MU (h:Heap) (l1 l2:Addr):Heap:=(MV h l1 l2).push {cls:=.type "tuple",data:=.seq #[.none,.none]}
abbrev HX (h:Heap) (l1 l2:Addr):Heap:=(MU h l1 l2).push {cls:=.type "zip",data:=.fields #[.none,.bool false,.bool false,.ref (MW h l1 l2).objs.size,.ref (MV h l1 l2).objs.size]}
theorem zf(l1 l2:Addr)(xs ys:Array Value) :
  Meets (Builtin.«zip.__new__» ⟨[.type "zip",.ref l1,.ref l2],[]⟩) (fun _ R s=>s.heap.IsTuple l1 xs/\s.heap.IsTuple l2 ys /\
   R (.ok (.ret (.ref (MU s.heap l1 l2).objs.size))) {s with heap:=HX s.heap l1 l2}):=
 .of_wp fun prog w A R s h=>by
  obtain⟨hp,g,d,tk,os⟩:=s;obtain⟨hl1,hl2,h⟩:=h;have hsub:=sub_zip;have hL1:Heap.IsTuple (Shared.heap ⟨hp,g,d,tk,os⟩) l1 xs:=hl1
  have hL2:Heap.IsTuple (Shared.heap ⟨hp.push {cls:=.type "tuple_iterator",data:=.fields #[.ref l1,.int 0 0]},g,d,tk,os⟩) l2 ys:=by
   obtain⟨o,e,r⟩:=hl2;exact⟨o,Pt _ e,r⟩
  wp_walk using Tc hL1,Tc hL2
  exact⟨_,rfl,h⟩
section
variable{w:World}
theorem BU{l1 l2:Addr}{xs ys:Array Value}(hl1:s.heap.IsTuple l1 xs)(hl2:s.heap.IsTuple l2 ys)(h : ∀ h', IsZip h' (s.heap.objs.size + 4) (s.heap.objs.size + 2) (s.heap.objs.size + 3) .none -> IsPair h' (s.heap.objs.size + 2) (.ref s.heap.objs.size) (.ref (s.heap.objs.size + 1)) ->
   IsPair h' (s.heap.objs.size+3) .none .none->h'.IsTupleIter s.heap.objs.size l1 0->h'.IsTupleIter (s.heap.objs.size+1) l2 0->h'.objs.size=s.heap.objs.size+5 ->
   (∀c o,s.heap.get? c=some o->h'.get? c=some o)->Q (.ref (s.heap.objs.size+4)) {s with heap:=h'}):
  wpAny (model prog w) A (call (.type "zip") [.ref l1,.ref l2]) Q E s:=by
 refine callType_new F.called_zip (by decide) (F.typeCall_zip_2 _ _) (F.newCall_zip_2 _ _) (fun obj=>F.args_object_init_3 obj _ _) F.entry_zip_new
  (zf l1 l2 xs ys) ⟨hl1,hl2,?_⟩
 have z1:(MX s.heap l1).objs.size=s.heap.objs.size+1:=QY ..;have z2:(MW s.heap l1 l2).objs.size=s.heap.objs.size+2:=by rw[QY,z1]
 have z3:(MV s.heap l1 l2).objs.size=s.heap.objs.size+3:=by rw[QY,z2]
 have z4:(MU s.heap l1 l2).objs.size=s.heap.objs.size+4:=by rw[QY,z3]
 have z5:(HX s.heap l1 l2).objs.size=s.heap.objs.size+5:=by rw[QY,z4]
 have g5:(HX s.heap l1 l2).get? (MU s.heap l1 l2).objs.size=some _:=Pu _ rfl;have g4:(HX s.heap l1 l2).get? (MV s.heap l1 l2).objs.size=some _:=Pt _ (Pu _ rfl);have g3:(HX s.heap l1 l2).get? (MW s.heap l1 l2).objs.size=some _:=Pt _ (Pt _ (Pu _ rfl));have g2:(HX s.heap l1 l2).get? (MX s.heap l1).objs.size=some _:=Pt _ (Pt _ (Pt _ (Pu _ rfl)));have g1:(HX s.heap l1 l2).get? s.heap.objs.size=some _:=Pt _ (Pt _ (Pt _ (Pt _ (Pu _ rfl))));show _/\_;rw[z2,z3,z4]at g5;rw[z1,z2]at g3;rw[z3]at g4;rw[z1]at g2;rw[z4]
 exact⟨⟨_,g5,rfl⟩,h _ g5 g3 g4 ⟨_,g1,rfl,rfl⟩ ⟨_,g2,rfl,rfl⟩ z5 fun c o x=>
  Pt _ (Pt _ (Pt _ (Pt _ (Pt _ x))))⟩
end
end RS
namespace L2
open PySem PySem.Spec PyProof.Rows RS
def NA(b:Bool)(K:W.Frag)(a1 a2:Addr):It:=
 ⟨fun i H => ∃ xs ys x y, Sq b K H a1 xs /\ Sq b K H a2 ys /\ xs[i]? = some x /\ ys[i]? = some y,
  fun i H x H'=>∃q y z,x=.ref q/\H q=none/\H'=dk H q (.tup [y,z])/\(∀xs,Sq b K H a1 xs->xs[i]?=some y)/\∀ys,Sq b K H a2 ys->ys[i]?=some z,
  fun i H=>∃xs ys,Sq b K H a1 xs/\Sq b K H a2 ys/\(i=xs.length\/i<xs.length/\i=ys.length)⟩
theorem OF(n:Nat):[n+4,n+2,n+3,n,n+1].Nodup:=by simp
structure ZN(z TI TO i1 i2 a1 a2:Addr):Prop where
 nd:[z,TI,TO,i1,i2].Nodup
 n1:∀b∈[z,TI,TO,i1,i2],a1≠b
 n2:∀b∈[z,TI,TO,i1,i2],a2≠b
theorem ZN.za{z TI TO i1 i2 a1 a2:Addr}(h:ZN z TI TO i1 i2 a1 a2):ZA z TI TO i1 i2 [i1,a1] [i2,a2]:=by
 obtain⟨nd,n1,n2⟩:=h;simp only[PN,O5,Sg,Sh,Si,TH,TJ,not_false_eq_true,RJ,and_true]at nd n1 n2;obtain⟨⟨q1,q2,q3,q4⟩,⟨q5,q6,q7⟩,⟨q8,q9⟩,q10⟩:=nd;obtain⟨u1,u2,u3,u4,u5⟩:=n1;obtain⟨v1,v2,v3,v4,v5⟩:=n2;refine⟨O6 q1,O6 q2,O6 q3,O6 q4,q8,q9,?_,?_,?_,?_,?_,?_⟩ <;> simp only[O5,Sg,Sh,Si]
 ·exact⟨q3,O6 u1⟩
 ·exact⟨q4,O6 v1⟩
 ·exact⟨q8,O6 u3⟩
 ·exact⟨q9,O6 v3⟩
 ·exact⟨O6 q10,O6 u5⟩
 ·exact⟨q10,O6 v4⟩
theorem Dx{w:World}{b:Bool}(a1 a2 z TI TO i1 i2:Addr)(hn:ZN z TI TO i1 i2 a1 a2):
  AU P w K (.Tuple elts k1 pos) (NA b K a1 a2) [z,TI,TO,i1,i2] z
   (fun i h=>IsZip h z TI TO .none/\IsPair h TI (.ref i1) (.ref i2)/\(∃p q,IsPair h TO p q)/\qQ b h i1 a1 i/\qQ b h i2 a2 i) where
 mem:=by simp
 obj:=fun i h st x hx=>by
  obtain⟨hz,hTI,⟨p,q,hTO⟩,h1,h2⟩:=st;simp only[O5,Sg,Sh]at hx;rcases hx with rfl|rfl|rfl|rfl|rfl
  ·exact⟨_,hz,fun v z=>by cases z⟩
  ·exact⟨_,hTI,fun v z=>by cases z⟩
  ·exact⟨_,hTO,fun v z=>by cases z⟩
  ·exact h1.obj
  ·exact h2.obj
 keep:=fun i h h' st k=>by
  obtain⟨hz,hTI,⟨p,q,hTO⟩,h1,h2⟩:=st;exact⟨k z (by simp) _ hz,k TI (by simp) _ hTI,⟨p,q,k TO (by simp) _ hTO⟩,h1.keep fun o eo=>k i1 (by simp) o eo,h2.keep fun o eo=>k i2 (by simp) o eo⟩
 item:=by
  intro X hP hw hK hc i pins s B H E I hf st hg;subst hP hw hK;obtain⟨hz,hTI,⟨p,q,hTO⟩,h1,h2⟩:=st;obtain⟨xs,ys,x,y,hq1,hq2,hx,hy⟩:=hg;have α:=hn.za;have nd:=hn.nd;obtain⟨is1,St1,rv1,D1,d1,d1'⟩:=nS I hc hq1 (it:=i1) (hn.n1 i1 (by simp));obtain⟨is2,St2,rv2,D2,d2,d2'⟩:=nS I hc hq2 (it:=i2) (hn.n2 i2 (by simp));obtain⟨u,hu,ru⟩:=rv1.get hx;obtain⟨v,hv,rw2⟩:=rv2.get hy;have hl1:i<is1.size:=by simpa using (O9.mp hu).1
  have hl2:i<is2.size:=by simpa using (O9.mp hv).1
  have hlt:∀b∈[z,TI,TO,i1,i2],b<s.heap.objs.size:=fun b hb=>by
   simp only[O5,Sg,Sh]at hb;rcases hb with rfl|rfl|rfl|rfl|rfl
   ·exact OU hz
   ·exact OU hTI
   ·exact OU hTO
   ·obtain⟨o,eo,_⟩:=h1.obj;exact OU eo
   ·obtain⟨o,eo,_⟩:=h2.obj;exact OU eo
  refine Bz D1 D2 α hz hTI hTO (d1 i h1) (d2 i h2) hl1 hl2 fun x' y' h' tk hx' hy' hz' hTO' hs1 hs2 hT hk=>?_
  have ex:x'=u:=by
   have hx':is1[i]?=some x':=hx';rw[<- Rp,hu]at hx';exact(ON hx').symm
  have ey:y'=v:=by
   have hy':is2[i]?=some y':=hy';rw[<- Rp,hv]at hy';exact(ON hy').symm
  subst ex ey;refine⟨_,rfl,?_⟩;refine wpAny_letOwnedTupleGo_zip (s:={s with heap:=h',toks:=tk}) hz' fun h3 hz3 hs3=>?_;replace hs3:Heap.SameBut z h' h3:=hs3
  have hold:∀c o,c ∉ [z,TI,TO,i1,i2]->s.heap.get? c=some o->h3.get? c=some o:=fun c o hc e=>by
   simp only[O5,Sg,Sh,Si]at hc;exact(hs3.2 c hc.1).trans (hk c o hc.1 hc.2.2.1 hc.2.2.2.1 hc.2.2.2.2 e)
  have hzs:s.heap.objs.size≠z:=Po (hlt z (by simp));have hT3:h3.get? s.heap.objs.size=some {cls:=.type "tuple",data:=.seq #[x',y']}:=(hs3.2 _ hzs).trans hT;have hqn:H s.heap.objs.size=none:=I.hok.fresh (Pv _)
  have I1:aZ X pins B (dk H s.heap.objs.size (.tup [x,y])) {s with heap:=s.heap.push {cls:=.type "tuple",data:=.seq #[x',y']},toks:=s.toks}:=by
   refine I.laid (t':=s.toks) (fun b o eo=>Pt _ eo) (Pv _) ?_;exact⟨by show 2<=sizeLine;decide,[x',y'],.cons ru (.cons rw2 .nil),_,Pu _ rfl,rfl,0,rfl⟩
  have hf':∀b∈[z,TI,TO,i1,i2],ny X pins (dk H s.heap.objs.size (.tup [x,y])) b:=fun b hb=>by
   obtain⟨k0,k1⟩:=hf b hb;exact⟨by rw[bJ (OX (hlt b hb))];exact k0,k1⟩
  have I2:aZ X pins B (dk H s.heap.objs.size (.tup [x,y])) {s with heap:=h3,toks:=tk}:=by
   refine aZ.turns (s:={s with heap:=s.heap.push {cls:=.type "tuple",data:=.seq #[x',y']},toks:=s.toks}) I1 (ch:=[z,TI,TO,i1,i2]) (t':=tk) (fun b o hb eo=>?_) hf';by_cases hbq:b=s.heap.objs.size
   ·subst hbq;have:=(Pu s.heap (o:={cls:=.type "tuple",data:=.seq #[x',y']}) rfl).symm.trans eo;rw[hT3];exact this
   ·have:s.heap.get? b=some o:=by
     rw[SD _ _ _ hbq]at eo;exact eo
    exact hold b o hb this
  have zi1:i1≠z:=α.i1z;have zi2:i2≠z:=α.i2z;simp only[PN,O5,Sg,Sh,Si,not_false_eq_true,RJ,and_true]at nd;obtain⟨⟨q1,q2,q3,q4⟩,⟨q5,q6,q7⟩,⟨q8,q9⟩,q10⟩:=nd;refine⟨.ref s.heap.objs.size,_,I2,rfl,⟨_,x,y,rfl,hqn,rfl,fun ys hy=>by rw[CZ I hy hq1];exact hx,fun zs hz=>by rw[CZ I hz hq2];exact hy⟩,⟨hz3,?_,⟨x',y',(hs3.2 TO α.TOz).trans hTO'⟩,?_,?_⟩,fun b hb=>(hf' b hb).1⟩
  ·exact(hs3.2 TI α.TIz).trans (hk TI _ α.TIz q5 q6 q7 hTI)
  ·exact(d1' (i+1) h' hs1).keep fun o eo=>(hs3.2 i1 zi1).trans eo
  ·exact(d2' (i+1) h' hs2).keep fun o eo=>(hs3.2 i2 zi2).trans eo
 done:=by
  intro X hP hw hK hc i pins s B H E I hf st hg;subst hP hw hK;obtain⟨hz,hTI,⟨p,q,hTO⟩,h1,h2⟩:=st;obtain⟨xs,ys,hq1,hq2,hx⟩:=hg;have α:=hn.za;obtain⟨is1,St1,rv1,D1,d1,d1'⟩:=nS I hc hq1 (it:=i1) (hn.n1 i1 (by simp));obtain⟨is2,St2,rv2,D2,d2,d2'⟩:=nS I hc hq2 (it:=i2) (hn.n2 i2 (by simp))
  have e1:is1.size=xs.length:=by
   have h1:=rv1.length;have h2:is1.toList.length=is1.size:=Pg;omega
  have e2:is2.size=ys.length:=by
   have h1:=rv2.length;have h2:is2.toList.length=is2.size:=Pg;omega
  refine EC D1 D2 α hz hTI hTO (d1 i h1) (d2 i h2) (by omega) fun h' tk hk=>⟨rfl,?_⟩;refine I.turns (ch:=[z,TI,TO,i1,i2]) (t':=tk) (fun b o hb eo=>?_) hf;simp only[O5,Sg,Sh,Si]at hb;exact hk b o hb.1 hb.2.2.1 hb.2.2.2.1 hb.2.2.2.2 eo
 self:=fun _ _ _ _ _ st h=>by
  obtain⟨hz,_⟩:=st;exact wpAny_pyIter_zip hz h
section
variable{X:Cx}
def Mx(K:W.Frag)(ta:TA):TI:=fun B H R=>ta B H fun vs H1=>∃a1 a2 b,vs=[.ref a1,.ref a2]/\(∃xs,Sq b K H1 a1 xs)/\(∃ys,Sq b K H1 a2 ys)/\R (NA b K a1 a2) H1
theorem JD{a:Expr}{ta:TA}{p tpos:Pos}(hg:Gl X "zip")(hm:X.mg "zip" = none)(ha:PA X [a,c] ta)(hs:starEach [a,c] X.env=[(false,eval a X.env),(false,eval c X.env)])(hs2:starEach [c] X.env=[(false,eval c X.env)]):PI X (.Tuple elts k1 tpos) (.Call (.Name "zip" p) [a,c] [] pos) (Mx X.K ta):=by
 intro pins s B H R I h;refine Call_ (oG I hg hm (by rfl) (Pw (d8 (ha pos pins s B H _ I h) fun us s1 ⟨vs,H1,I1,r1,q1⟩=>?_) (by rw[hs,hs2]) (by rw[hs2];rfl)));obtain⟨l1,l2,b,e,⟨xs,hq1⟩,⟨ys,hq2⟩,q⟩:=q1;subst e;obtain⟨u,v,rfl,ru,rv⟩:=zL r1;cases ru;cases rv
 have fin:∀h',IsZip h' (s1.heap.objs.size+4) (s1.heap.objs.size+2) (s1.heap.objs.size+3) .none->IsPair h' (s1.heap.objs.size+2) (.ref s1.heap.objs.size) (.ref (s1.heap.objs.size+1)) ->
   IsPair h' (s1.heap.objs.size+3) .none .none->qQ b h' s1.heap.objs.size l1 0->qQ b h' (s1.heap.objs.size+1) l2 0->l1<s1.heap.objs.size->l2<s1.heap.objs.size->(∀c o,s1.heap.get? c=some o->h'.get? c=some o) ->
   wpAny (model X.prog X.w) X.A (pyIter (.ref (s1.heap.objs.size+4))) (Nz X pins B (.Tuple elts k1 tpos) R) X.xe {s1 with heap:=h'}:=by
  intro h' hz hTI hTO h1 h2 g1 g2 hk;have I2:aZ X pins B H1 {s1 with heap:=h'}:=I1.kept (t':=s1.toks) hk
  have hge:∀b∈[s1.heap.objs.size+4,s1.heap.objs.size+2,s1.heap.objs.size+3,s1.heap.objs.size,s1.heap.objs.size+1],s1.heap.objs.size<=b:=fun b hb=>by
   simp only[O5,Sg,Sh]at hb;omega
  refine wpAny_pyIter_zip hz ?_;refine⟨_,[s1.heap.objs.size+4,s1.heap.objs.size+2,s1.heap.objs.size+3,s1.heap.objs.size,s1.heap.objs.size+1],_,_,H1,rfl,I2,Dx (b:=b) l1 l2 _ _ _ _ _ ⟨?_,fun b hb=>?_,fun b hb=>?_⟩,⟨hz,hTI,⟨_,_,hTO⟩,h1,h2⟩,fun b hb=>?_,q⟩
  ·exact OF _
  ·have:=hge b hb;exact OX (OV g1 this)
  ·have:=hge b hb;exact OX (OV g2 this)
  ·exact I1.fpOk (hge b hb) (I1.hok.fresh (hge b hb))
 cases b with
 |true=>
  obtain⟨is1,rv1,p1,hz1⟩:=I1.list (show fK X.K H1 l1 xs from hq1);obtain⟨is2,rv2,p2,hz2⟩:=I1.list (show fK X.K H1 l2 ys from hq2);have g1:l1<s1.heap.objs.size:=by obtain⟨o,eo,_⟩:=p1.isList;exact OU eo
  have g2:l2<s1.heap.objs.size:=by obtain⟨o,eo,_⟩:=p2.isList;exact OU eo
  exact call_zip_2 p1.isList p2.isList fun h' a0 a1 a2 a3 a4 a5 a6=>fin h' a0 a1 a2 a3 a4 g1 g2 a6
 |false=>
  obtain⟨is1,rv1,p1,hz1⟩:=I1.tuple (show gr X.K H1 l1 xs from hq1);obtain⟨is2,rv2,p2,hz2⟩:=I1.tuple (show gr X.K H1 l2 ys from hq2);have g1:l1<s1.heap.objs.size:=by obtain⟨o,eo,_⟩:=p1;exact OU eo
  have g2:l2<s1.heap.objs.size:=by obtain⟨o,eo,_⟩:=p2;exact OU eo
  exact BU p1 p2 fun h' a0 a1 a2 a3 a4 a5 a6=>fin h' a0 a1 a2 a3 a4 g1 g2 a6
end
def iK:List D->List D->List D
 |x::r,y::q=>.tup [x,y]::iK r q
 |_,_=>[]
theorem Dw:∀{ys:List D}{i:Nat}{d:D},(iK xs ys)[i]?=some d->∃x y,xs[i]?=some x/\ys[i]?=some y/\d=.tup [x,y]:=by
 induction xs with
 |nil=>intro ys i d h;simp[iK]at h
 |cons x r ih=>
  intro ys i d h;cases ys with
  |nil=>simp[iK]at h
  |cons y q=>
   cases i with
   |zero=>simp only[iK,List.getElem?_cons_zero,RM]at h;exact⟨x,y,rfl,rfl,h.symm⟩
   |succ i=>simp only[iK,List.getElem?_cons_succ]at h;exact ih h
theorem wH:∀{xs ys:List D},(iK xs ys).length=xs.length\/(iK xs ys).length<xs.length/\(iK xs ys).length=ys.length
 |[],_=>.inl (by simp[iK])
 |_::_,[]=>.inr (by simp[iK])
 |x::r,y::q=>by
  have:=wH (xs:=r) (ys:=q);simp only[iK,QV];omega
section
variable{X:Cx}
theorem Eo{a1 a2:Addr}{us ws:List V}(h1:gr p.K H a1 us)(h2:gr p.K H a2 ws)(r1:p.Rs H Z xs us)(r2:p.Rs H Z ys ws):AV p (NA false p.K a1 a2) (.fix (iK xs ys)) H Z:=by
 intro H2 Z2 Y2 X2 S2 ho;have g1:Sq false p.K H2 a1 us:=X2.tup a1 us h1;have g2:Sq false p.K H2 a2 ws:=X2.tup a2 ws h2;have q1:=r1.mono X2;have q2:=r2.mono X2;refine⟨fun i d hd=>?_,us,ws,g1,g2,?_⟩
 ·obtain⟨x,y,hx,hy,rfl⟩:=Dw (show (iK xs ys)[i]?=some d from hd);obtain⟨v,hv,rv⟩:=q1.get hx;obtain⟨u,hu,ru⟩:=q2.get hy;refine⟨⟨us,ws,v,u,g1,g2,hv,hu⟩,fun x H3 ⟨q,w1,w2,e1,hq,e2,k1,k2⟩=>?_⟩;subst e1 e2;have:=k1 us g1;rw[hv]at this;cases this;have:=k2 ws g2;rw[hu]at this;cases this;exact⟨cv hq,S2.tuple hq,aQ.mpr ⟨q,_,rfl,gr.of cP,Reps.cons (rv.mono (cv hq)) (Reps.cons (ru.mono (cv hq)) Reps.nil)⟩⟩
 ·have e1:=r1.length;have e2:=r2.length;have e3:=wH (xs:=xs) (ys:=ys);show (iK xs ys).length=_\/(iK xs ys).length<_/\(iK xs ys).length=_;omega
def yj(ds:List D)(Y:au):ai pG:=match ds with
 |[.tup xs,.tup ys]=>.ok (.fix (iK xs ys)) Y
 |_=>.bad
theorem Jc{a:Expr}{fa:MA}{tpos:Pos}(hK:X.K=p.K)(hg:Gl X "zip")(hm:X.mg "zip" = none)(ha:PA X [a,c] (ni p fa))(hs:starEach [a,c] X.env=[(false,eval a X.env),(false,eval c X.env)])(hs2:starEach [c] X.env=[(false,eval c X.env)]):
  PI X (.Tuple elts k1 tpos) (.Call (.Name "zip" px) [a,c] [] pos) (yf p (kU yj fa)):=
 (JD hg hm ha hs hs2).weak fun B H R ⟨Z, ρ, Y, S, Rr, P⟩ => ⟨Z, ρ, Y, S, Rr, (aP.bind P).imp fun ds Y1 H1 Z1 X1 S1 P1 vs rv => by
  rw[hK];unfold yj at P1;split at P1
  ·rename_i xs ys;obtain⟨v,u,rfl,r1,r2⟩:=rv.two;obtain⟨a1,us,rfl,h1,q1⟩:=aQ.mp r1;obtain⟨a2,ws,rfl,h2,q2⟩:=aQ.mp r2;exact⟨a1,a2,false,rfl,⟨us,h1⟩,⟨ws,h2⟩,P1.now S1 _ trivial (Eo h1 h2 q1 q2)⟩
  ·exact P1.elim⟩
theorem HL{a:Expr}{tpos:Pos}(hm:X.mg "zip" = none)(ha:Bx (PA X [a,c] (ni p fr)))(hg:Gl X "zip" := by rfl)(hs:starEach [a,c] X.env=[(false,eval a X.env),(false,eval c X.env)]:=by rfl)(hs2:starEach [c] X.env=[(false,eval c X.env)]:=by rfl)(hK:X.K=p.K:=by rfl):Bx (PI X (.Tuple elts k1 tpos) (.Call (.Name "zip" px) [a,c] [] pos) (yf p (kU yj fr))):=⟨Jc hK hg hm ha.h hs hs2⟩
end
section
variable{w:World}{R:Result->Shared->Prop}{J:Addr}{wr:List Addr}{P:Nat->Value->Prop}{St:Nat->Heap->Prop}
theorem σ9(W:Walks prog w A.in1 J fp wr n P St)(G:Heap->Prop)(hG:∀h h',G h->(∀b o,b∉wr->h.get? b=some o->h'.get? b=some o)->G h')(tr:Nat->Bool)
  (htr:∀i v (s:Shared) (Q:Bool->Shared->Prop) (E:Value->Shared->Prop),P i v->G s.heap->(∀tk,Q (tr i) {s with toks:=tk})->wpAny (model prog w) A.in1 (truthy v) Q E s) :
  ∀(k i:Nat)(s:Shared),n-i=k->i<=n->St i s.heap->G s.heap ->
  (∀h' tk,(∀b o,b∉wr->s.heap.get? b=some o->h'.get? b=some o)->R (.ok (.ret (.bool (((List.range n).drop i).all tr)))) {s with heap:=h',toks:=tk}) ->
  codeAny (model prog w) A (.builtin "all.loop" ⟨[.ref J],[]⟩) R s:=by
 intro k
 induction k with
 |zero=>
  intro i s hk hi hst hg hR;have hin:i=n:=by omega
  subst hin;refine R6 F.entry_all_loop ?_;rw[R7 TK _];show wpAny _ A.in1 (pyNext (.ref J) >>= _) _ _ s;refine Pj (W.done s _ _ hst fun h' tk hk'=>?_);refine Pj (Q3 (Pp ?_));have:=hR h' tk hk';rw[List.drop_of_length_le (by simp)]at this;exact this
 |succ k ih=>
  intro i s hk hi hst hg hR;have hlt:i<n:=by omega
  have hd:(List.range n).drop i=i::(List.range n).drop (i+1):=by
   rw[Tb (by simpa using hlt)];simp
  refine R6 F.entry_all_loop ?_;rw[R7 TK _];show wpAny _ A.in1 (pyNext (.ref J) >>= _) _ _ s;refine Pj (W.item i s _ _ hlt hst fun v h' tk hP hst' hk'=>?_);refine Pj (Pl (htr i v _ _ _ hP (hG _ _ hg hk') fun tk2=>?_));refine Pj (TC ?_);cases hb:tr i with
  |true=>
   simp only[Qm];refine Pp ⟨R9 TK _,ih (i+1) _ (by omega) hlt hst' (hG _ _ hg hk') fun h'' tk'' hk''=>?_⟩;have:=hR h'' tk'' fun b o hbw e=>hk'' b o hbw (hk' b o hbw e);rw[hd,QG,hb,Tw]at this;exact this
  |false=>
   simp only[QU,Ql];refine Pj (Q3 (Pp ?_));have:=hR h' tk2 hk';rw[hd,QG,hb,Pr]at this;exact this
end
section
variable{X:Cx}
def CC(K:W.Frag):List V->Hp->VK->Prop:=fun xs H Q=>∃(a:Addr)(us:List V)(bs:List Bool),xs=[.ref a]/\fK K H a us/\us.length=bs.length/\(∀(i:Nat)(u:V),us[i]?=some u->∃b ws,u=V.ref b/\fK K H b ws/\bs[i]?=some (!ws.isEmpty))/\Q (.bl (bs.all id)) H
theorem xY{ws:List V}(r:bp ws its):its.toArray.isEmpty=ws.isEmpty:=by
 cases r <;> rfl
theorem σ4 (hc:X.calm=true):cY X (.builtin "all") (CC X.K):=by
 intro pins s B H xs us Q I r h;obtain⟨a,us',bs,rfl,ha,hl,hb,q⟩:=h;obtain⟨u,rfl,ru⟩:=fH r;cases ru;obtain⟨its,rv,pl,hz⟩:=I.list ha
 have hne:a≠s.heap.objs.size:=by
  obtain⟨o,n,e,_⟩:=pl;exact OX (OU e)
 have hlen:its.toArray.size=bs.length:=by
  have:=rv.length;simp only[PH];omega
 refine call_function_tree F.kind_all F.plain_all F.entry_all (F.args_all1 _) ?_;unfold Builtin.«all»;refine Pj (m:=oneArg "all" _) (Pp ?_);refine Pj (Sf pl.isList ?_);refine Pp ⟨R9 TK _,?_⟩
 refine σ9 (n:=its.toArray.size) (Sj (A:=X.A.in1) (show X.A.in1.handled=none from I.ok.hd hc) s.heap.objs.size a hne its.toArray)
  (fun h=>∀i v,its[i]?=some v->∃b ws,v=.ref b/\b≠s.heap.objs.size/\h.IsList b ws/\(ws.size:Int)<2^63/\bs.getD i false=!ws.isEmpty)
  (fun h h' g k i v e=>?_) (fun i=>bs.getD i false) (fun i v s' Q' E' hP hg hQ=>?_) _ 0 _ rfl (Q4 _) ⟨⟨_,Pu _ rfl,rfl,rfl⟩,pl.isList.at fun o e=>Pt _ e⟩ (fun i v e=>?_) fun h' tk hk=>?_
 ·obtain⟨b,ws,e1,e2,e3,e4⟩:=g i v e;exact⟨b,ws,e1,e2,e3.at fun o eo=>k b o (by simpa using e2) eo,e4⟩
 ·obtain⟨b,ws,rfl,e2,e3,e4,e5⟩:=hg i v (by simpa using hP);refine wpAny_truthy_list e3 e4 ?_;have:=hQ (s'.toks+1+1);rw[e5]at this;exact this
 ·obtain⟨u,hu,ru⟩:∃u,us'[i]?=some u/\cx u v:=by
   have hi:i<us'.length:=by
    have h1:=(O9.mp e).1;have h2:=rv.length;omega
   obtain⟨v',e',r'⟩:=rv.get (SK hi);rw[e]at e';cases e';exact⟨_,SK hi,r'⟩
  obtain⟨b,ws,rfl,hw,hbs⟩:=hb i u hu;cases ru;obtain⟨its2,rv2,pl2,hz2⟩:=I.list hw;have hlt:b<s.heap.objs.size:=by obtain⟨o,eo,_⟩:=pl2.isList;exact OU eo
  refine⟨b,its2.toArray,rfl,OX hlt,pl2.isList.at fun o eo=>Pt _ eo,?_,?_⟩
  ·have := rv2.length;have hs:sizeLine<2^62:=by decide
   simp only[PH];omega
  ·rw[Sr,hbs,xY rv2];rfl
 ·rw[List.drop_zero,hlen,uE];exact⟨.bl _,H,I.fresh_it hk,rfl,q⟩
def qW(Y:au):List D->Option (List Bool)
 |[]=>some []
 |.obj n::r=>match Y[n]?,qW Y r with
  |some (.lst xs),some bs=>some ((!xs.isEmpty)::bs)
  |_,_=>none
 |_::_=>none
def tR(ds:List D)(Y:au):ai D:=match ds with
 |[.obj n]=>match Y[n]? with
  |some (.lst xs)=>match kf xs with
   |some bs=>.ok (.bl (bs.all id)) Y
   |none=>match qW Y xs with
    |some bs=>.ok (.bl (bs.all id)) Y
    |none=>.bad
  |_=>.bad
 |_=>.bad
theorem xu{K:W.Frag}{w:World}{H:Hp}{Z:List Addr}{Y:au}(S:gZ K w H Z Y):∀{ds:List D}{bs:List Bool}{vs:List V},qW Y ds=some bs->Reps K H Z ds vs ->
  vs.length=bs.length/\∀(i:Nat)(u:V),vs[i]?=some u->∃b ws,u=V.ref b/\fK K H b ws/\bs[i]?=some (!ws.isEmpty)
 |[],bs,vs,h,r=>by
  simp only[qW,RM]at h;simp only[Reps]at r;subst h r;exact⟨rfl,fun i u e=>by cases e⟩
 |d::ds,bs,vs,h,r=>by
  cases d with
  |obj n=>
   unfold qW at h;split at h
   ·rename_i xs bs' e1 e2;simp only[RM]at h;subst h;simp only[Reps]at r;obtain⟨v,vr,rfl,r1,r2⟩:=r;obtain⟨hl,hx⟩:=xu S e2 r2;refine⟨by simp[hl],fun i u e=>?_⟩;cases i with
    |zero=>
     cases e;obtain⟨a,ea,us,h1,rr⟩:=S.at e1;obtain⟨a',rfl,ea'⟩:=aX.mp r1;rw[ea]at ea';cases ea'
     have he:us.isEmpty=xs.isEmpty:=by
      have:=rr.length;cases us <;> cases xs <;> first|rfl|(simp at this)
     exact⟨a,us,rfl,fK.of h1,by rw[List.getElem?_cons_zero,he]⟩
    |succ i=>exact hx i u e
   ·cases h
  |non=>cases h
  |bl _=>cases h
  |int _=>cases h
  |str _=>cases h
  |tup _=>cases h
  |frz _=>cases h
theorem GA:vS p tR (fun xs H Q=>E6 p.K xs H Q\/CC p.K xs H Q):=by
 intro ds vs H Z Y Q S r P;unfold tR at P;split at P
 ·rename_i n;split at P
  ·rename_i xs hx;obtain⟨v,rfl,r1⟩:=r.one;obtain⟨a,us,rfl,a1,h1,rr⟩:=dh S r1 hx;split at P
   ·rename_i bs hb;rw[mW hb]at rr;exact .inl ⟨a,bs,rfl,by rw[<- rr.bools];exact fK.of h1,P.now S _ (aU.mpr rfl)⟩
   ·split at P
    ·rename_i bs hb;obtain⟨hl,hw⟩:=xu S hb rr;exact .inr ⟨a,us,bs,rfl,fK.of h1,hl,hw,P.now S _ (aU.mpr rfl)⟩
    ·exact P.elim
  ·exact P.elim
 ·exact P.elim
theorem σ5 (hc:X.calm=true):cY X (.builtin "all") (fun xs H Q=>E6 X.K xs H Q\/CC X.K xs H Q):=by
 intro pins s B H xs us Q I r h;rcases h with h|h
 ·exact uB hc pins s B H xs us Q I r h
 ·exact σ4 hc pins s B H xs us Q I r h
theorem K7 (hc:X.calm=true:=by rfl) (hK:X.K=p.K:=by rfl):qg X p "all" tR:=⟨_,_,.inl ⟨_,rfl⟩,by decide +kernel,σ5 hc,hK ▸ GA,by decide,by decide⟩
end
end L2
namespace Lw
open PySem L2
section
variable{w:World}
structure Nm(mg:Str->Option Value):Prop where
 ValueError:mg "ValueError" = none
 all:mg "all" = none
 bool:mg "bool" = none
 int:mg "int" = none
 isinstance:mg "isinstance" = none
 len:mg "len" = none
 list:mg "list" = none
 max:mg "max" = none
 min:mg "min" = none
 range:mg "range" = none
 repr:mg "repr" = none
 set:mg "set" = none
 sorted:mg "sorted" = none
 tuple:mg "tuple" = none
 zip:mg "zip" = none
theorem xQ:aV ["thing"] ["thing"] (ar jA):=⟨rfl,rfl,rfl,by decide +kernel,rfl,by decide +kernel,by decide +kernel⟩
def m5:MS:=bM (jo (jE (fm "int") (ah 0)) (wB (jE (fm "bool") (ah 0))))
def gf:List D->au->ai D:=h7 1 1 m5
theorem ph:aV ["thing", "least", "most"] ["thing", "least", "most"] (ar fA):=⟨rfl,rfl,rfl,by decide +kernel,rfl,by decide +kernel,by decide +kernel⟩
def iI:MS:=bM (jo (aC gf (ag (ah 0) (aA))) (ly (il .LtE) (il .LtE) (ah 1) (ah 0) (ah 2)))
def bR:List D->au->ai D:=h7 3 3 iI
theorem xR:aV ["many", "thing"] ["many", "thing"] (ar jB):=⟨rfl,rfl,rfl,by decide +kernel,rfl,by decide +kernel,by decide +kernel⟩
def m7:MS:=bM (aC bR (ag (ah 1) (ag (cC (.int 0)) (ag (aH sX (ah 0) (cC (.int 1))) (aA)))))
def d5:List D->au->ai D:=h7 2 2 m7
theorem vB:aV ["many", "thing"] ["many", "thing"] (ar gI):=⟨rfl,rfl,rfl,by decide +kernel,rfl,by decide +kernel,by decide +kernel⟩
theorem sR:(["place", "many"]:List Str).Nodup:=by decide +kernel
def mD:ME:=aC d5 (ag (ah 1) (ag (ah 0) (aA)))
def p6:MS:=bM (jo (jE (fm "tuple") (ah 1)) (aC qf (ag (cK (f6 (ah 1)) [none,some 0] (ao 0) (bz) (mD)) (aA))))
def eZ:List D->au->ai D:=h7 2 2 p6
theorem vA:aV ["things"] ["things"] (ar gH):=⟨rfl,rfl,rfl,by decide +kernel,rfl,by decide +kernel,by decide +kernel⟩
theorem sQ:(["at", "things"]:List Str).Nodup:=by decide +kernel
def mC:ME:=aH (il .Lt) (aH cW (ah 1) (aH sX (ah 0) (cC (.int 1)))) (aH cW (ah 1) (ah 0))
def pZ:MS:=bM (aC qf (ag (cK (kU AK (ag (cC (.int 1)) (ag (aC jG (ag (ah 0) (aA))) (aA)))) [none,some 0] (ao 0) (bz) (mC)) (aA)))
def ix:List D->au->ai D:=h7 1 1 pZ
theorem y0:aV ["thing"] ["thing"] (ar kx):=⟨rfl,rfl,rfl,by decide +kernel,rfl,by decide +kernel,by decide +kernel⟩
def uJ:MS:=bM (aC bR (ag (ah 0) (ag (cC (.int 1)) (ag (cC (.int 6)) (aA)))))
def jZ:List D->au->ai D:=h7 1 1 uJ
theorem yZ:aV ["many", "thing"] ["many", "thing"] (ar kv):=⟨rfl,rfl,rfl,by decide +kernel,rfl,by decide +kernel,by decide +kernel⟩
def uI:MS:=bM (jo (aC eZ (ag (ah 0) (ag (ah 1) (aA)))) (jo (aH (kZ false) (aC jG (ag (ah 1) (aA))) (cC (.int 2))) (aH (kZ true) (aH cW (ah 1) (cC (.int 0))) (aH cW (ah 1) (cC (.int 1))))))
def jY:List D->au->ai D:=h7 2 2 uI
theorem Bj:aV ["many", "thing"] ["many", "thing"] (ar mh):=⟨rfl,rfl,rfl,by decide +kernel,rfl,by decide +kernel,by decide +kernel⟩
def xI:MS:=bM (jo (aC jY (ag (ah 0) (ag (ah 1) (aA)))) (aH (il .Lt) (aH cW (ah 1) (cC (.int 0))) (aH cW (ah 1) (cC (.int 1)))))
def lD:List D->au->ai D:=h7 2 2 xI
theorem yX:aV ["many", "thing"] ["many", "thing"] (ar ja):=⟨rfl,rfl,rfl,by decide +kernel,rfl,by decide +kernel,by decide +kernel⟩
theorem vJ:(["tie", "many"]:List Str).Nodup:=by decide +kernel
def pY:ME:=aC lD (ag (ah 1) (ag (ah 0) (aA)))
def uG:MS:=bM (jo (jE (fm "tuple") (ah 1)) (jo (aC qf (ag (cK (f6 (ah 1)) [none,some 0] (ao 0) (bz) (pY)) (aA))) (aC ix (ag (ah 1) (aA)))))
def jW:List D->au->ai D:=h7 2 2 uG
theorem lF:aV ["thing", "many", "ties"] ["thing"] (ar jz):=⟨rfl,rfl,rfl,by decide +kernel,rfl,by decide +kernel,by decide +kernel⟩
def sE:MS:=bj (ka (ip (cS (gu (jE (fm "tuple") (ah 0)))) (gY (aH (kZ true) (aC jG (ag (ah 0) (aA))) (cC (.int 2))))) (bM (cC (.bl false))) (bY))
 (bj (bU (ah 0) (dC 2 (bb (ao 1) (bb (ao 2) (dD)))))
 (bM (jo (aC jZ (ag (ah 1) (aA))) (aC jW (ag (ah 1) (ag (ah 2) (aA)))))))
def hU:List D->au->ai D:=h7 1 3 sE
theorem sH:aV ["web", "thing"] ["web", "thing"] (ar gJ):=⟨rfl,rfl,rfl,by decide +kernel,rfl,by decide +kernel,by decide +kernel⟩
def jM:MS:=ka (cS (gu (aC (fun ds Y=>(d5 ds Y).nox) (ag (aH cW (ah 0) (cC (.int 0))) (ag (ah 1) (aA)))))) (uP "NoPlace") (bY)
def bB:List D->au->ai D:=h7 2 2 jM
theorem sG:aV ["ties", "front"] ["ties", "front"] (ar dQ):=⟨rfl,rfl,rfl,by decide +kernel,rfl,by decide +kernel,by decide +kernel⟩
theorem j6:(["a", "b", "front"]:List Str).Nodup:=by decide +kernel
theorem j5:(["a", "b", "front"]:List Str).Nodup:=by decide +kernel
def kL:ME:=ah 1
def iG:MT:=gY (aH (oq false) (ah 0) (ah 2))
def kK:ME:=ah 0
def iF:MT:=gY (aH (oq false) (ah 1) (ah 2))
def mE:MS:=bM (aH bN (cK (f6 (ah 0)) [none,none,some 1] (dC 2 (bb (ao 0) (bb (ao 1) (dD)))) (iG) (kL)) (cK (f6 (ah 0)) [none,none,some 1] (dC 2 (bb (ao 0) (bb (ao 1) (dD)))) (iF) (kK)))
def fU:List D->au->ai D:=h7 2 2 mE
theorem yW:aV ["web", "place"] ["web", "place"] (ar kr):=⟨rfl,rfl,rfl,by decide +kernel,rfl,by decide +kernel,by decide +kernel⟩
def uF:MS:=bj (jO (aC bB (ag (ah 0) (ag (ah 1) (aA)))))
 (bM (aC gb (ag (aC cZ (ag (aC sY (ag (aH bN (eR (ag (ah 1) (aA))) (aC (fun ds Y=>(fU ds Y).nox) (ag (aH cW (ah 0) (cC (.int 1))) (ag (eR (ag (ah 1) (aA))) (aA))))) (aA))) (aA))) (aA))))
def gm:List D->au->ai D:=h7 2 2 uF
theorem sI:aV ["web", "thing"] ["web", "thing"] (ar gK):=⟨rfl,rfl,rfl,by decide +kernel,rfl,by decide +kernel,by decide +kernel⟩
def jN:MS:=ka (ip (cS (gu (aC (fun ds Y=>(hU ds Y).nox) (ag (ah 1) (aA))))) (gY (aH (kZ true) (aH cW (ah 1) (cC (.int 0))) (aH cW (ah 0) (cC (.int 0)))))) (uP "NoRoot") (bY)
def bh:List D->au->ai D:=h7 2 2 jN
theorem ik:aV ["web", "one", "other", "near", "middles", "steps"] ["web", "one", "other"] (ar eC):=⟨rfl,rfl,rfl,by decide +kernel,rfl,by decide +kernel,by decide +kernel⟩
theorem qt:(["place", "near", "one", "other"]:List Str).Nodup:=by decide +kernel
theorem qr:(["middle", "one", "other"]:List Str).Nodup:=by decide +kernel
def je:ME:=ah 0
def jd:MT:=pM (gY (aH (oq false) (ah 0) (ah 1))) (gY (aH (oq true) (ah 0) (bW (ag (ah 2) (ag (ah 3) (aA))))))
def gN:ME:=bW (ag (ah 1) (ag (ah 0) (ag (ah 2) (aA))))
def iR:MS:=bj (jO (aC bB (ag (ah 0) (ag (ah 1) (aA)))))
 (bj (jO (aC bB (ag (ah 0) (ag (ah 2) (aA)))))
 (bj (ka (gY (aH (kZ false) (ah 1) (ah 2))) (bM (eR (aA))) (bY))
 (bj (bU (aC gm (ag (ah 0) (ag (ah 1) (aA)))) (ao 3))
 (bj (bU (cK (f6 (aC gm (ag (ah 0) (ag (ah 2) (aA))))) [none,some 3,some 1,some 2] (ao 0) (jd) (je)) (ao 4))
 (bj (bU (cK (f6 (ah 4)) [none,some 1,some 2] (ao 0) (bz) (gN)) (ao 5))
 (bj (ka (gY (aH (oq false) (ah 2) (ah 3))) (jO (AI ie (ah 5) (ag (bW (ag (ah 1) (ag (ah 2) (aA)))) (aA)))) (bY))
 (bM (aC cZ (ag (ah 5) (aA))))))))))
def bt:List D->au->ai D:=h7 3 6 iR
theorem yY:aV ["web", "tie", "thing"] ["web", "tie", "thing"] (ar ku):=⟨rfl,rfl,rfl,by decide +kernel,rfl,by decide +kernel,by decide +kernel⟩
def uH:MS:=bj (ka (cS (gu (aC (fun ds Y=>(eZ ds Y).nox) (ag (aH cW (ah 0) (cC (.int 0))) (ag (ah 2) (aA)))))) (bM (cC (.bl false))) (bY))
 (bM (aH (oq false) (ah 2) (aC bt (ag (ah 0) (ag (aH cW (ah 1) (cC (.int 0))) (ag (aH cW (ah 1) (cC (.int 1))) (aA)))))))
def jX:List D->au->ai D:=h7 3 3 uH
theorem nW:aV ["web", "other", "thing", "ties"] ["web", "other", "thing"] (ar gG):=⟨rfl,rfl,rfl,by decide +kernel,rfl,by decide +kernel,by decide +kernel⟩
theorem lN:(["tie", "step", "other"]:List Str).Nodup:=by decide +kernel
def jL:ME:=aC (fun ds Y=>(jX ds Y).nox) (ag (ah 2) (ag (ah 0) (ag (ah 1) (aA))))
def lJ:MS:=bj (jO (aC bh (ag (ah 0) (ag (ah 1) (aA)))))
 (bj (bU (aH cW (ah 0) (cC (.int 1))) (ao 3))
 (bj (ka (ip (cS (gu (jE (fm "tuple") (ah 2)))) (gY (aH (kZ true) (aC jG (ag (ah 2) (aA))) (aC jG (ag (ah 3) (aA)))))) (bM (cC (.bl false))) (bY))
 (bM (aC qf (ag (cK (kU yj (ag (ah 3) (ag (ah 2) (aA)))) [none,none,some 1] (dC 2 (bb (ao 0) (bb (ao 1) (dD)))) (bz) (jL)) (aA))))))
def dw:List D->au->ai D:=h7 3 4 lJ
theorem mz:aV ["web", "other", "choices"] ["web", "other"] (ar eD):=⟨rfl,rfl,rfl,by decide +kernel,rfl,by decide +kernel,by decide +kernel⟩
theorem kH:(["a", "b", "other"]:List Str).Nodup:=by decide +kernel
theorem qu:(["steps"]:List Str).Nodup:=by decide +kernel
def gO:ME:=aC (fun ds Y=>(bt ds Y).nox) (ag (ah 2) (ag (ah 0) (ag (ah 1) (aA))))
def lP:ME:=aH cW (ah 0) (cC (.int 0))
def kE:MS:=bj (jO (aC bh (ag (ah 0) (ag (ah 1) (aA)))))
 (bj (bU (cK (f6 (aH cW (ah 0) (cC (.int 1)))) [none,none,some 1] (dC 2 (bb (ao 0) (bb (ao 1) (dD)))) (bz) (gO)) (ao 2))
 (bj (ka (cS (gu (aC tR (ag (ah 2) (aA))))) (bM (cC .non)) (bY))
 (bM (aC gb (ag (cK (f6 (ah 2)) [none] (ao 0) (bz) (lP)) (aA))))))
def dy:List D->au->ai D:=h7 2 3 kE
theorem qj:aV ["_law_script", "_law_k"] ["_law_script", "_law_k"] (ar fX):=⟨rfl,rfl,rfl,by decide +kernel,rfl,by decide +kernel,by decide +kernel⟩
def jg:MS:=bj (ka (gY (aH (il .Lt) (ah 1) (aC jG (ag (ah 0) (aA))))) (bM (aH cW (ah 0) (ah 1))) (bY))
 (bM (cC (.int 0)))
def fg:List D->au->ai D:=h7 2 2 jg
theorem nY:aV ["_law_seed"] ["_law_seed"] (ar iP):=⟨rfl,rfl,rfl,by decide +kernel,rfl,by decide +kernel,by decide +kernel⟩
def p7:MS:=bj (bU (aH vZ (aH bN (ah 0) (cC (.int 7919))) (cC (.int 2147483647))) (ao 0))
 (bM (aH vZ (aH bN (aH bN (aH mK (ah 0) (ah 0)) (aH mK (cC (.int 48271)) (ah 0))) (cC (.int 12345))) (cC (.int 2147483629))))
def gn:List D->au->ai D:=h7 1 1 p7
theorem lL:aV ["_law_cell", "_law_left"] ["_law_cell"] (ar gL):=⟨rfl,rfl,rfl,by decide +kernel,rfl,by decide +kernel,by decide +kernel⟩
def mG:MS:=bj (bU (aC tf (ag (ah 0) (ag (aH sX (cC (.int 0)) (ah 0)) (aA)))) (ao 1))
 (bM (eR (ag (ah 1) (ag (aC wz (ag (aH (il .GtE) (ah 1) (aH sZ (cC (.int 10)) (cC (.int 18)))) (aA))) (ag (aH vZ (ah 1) (cC (.int 1000003))) (aA))))))
def fV:List D->au->ai D:=h7 1 2 mG
theorem nZ:aV ["_law_pen", "_law_many", "_law_found"] ["_law_pen", "_law_many"] (ar iQ):=⟨rfl,rfl,rfl,by decide +kernel,rfl,by decide +kernel,by decide +kernel⟩
def lK:MS:=bj (ka (gY (aH (kZ false) (aH cW (ah 0) (cC (.int 1))) (cC (.int 1)))) (bj (bU (aH vZ (aH cW (ah 0) (cC (.int 0))) (ah 1)) (ao 2))
 (bj (bU (aH wA (aH cW (ah 0) (cC (.int 0))) (ah 1)) (wq (ah 0) (cC (.int 0))))
 (bM (ah 2)))) (bY))
 (bj (bU (aC gn (ag (aH bN (aC gn (ag (aH cW (ah 0) (cC (.int 2))) (aA))) (cC (.int 7))) (aA))) (wq (ah 0) (cC (.int 2))))
 (bM (aH vZ (aH wA (aH cW (ah 0) (cC (.int 2))) (cC (.int 64))) (ah 1))))
def aF:List D->au->ai D:=h7 2 3 lK
theorem tx:aV ["_law_found"] ["_law_found"] (ar ij):=⟨rfl,rfl,rfl,by decide +kernel,rfl,by decide +kernel,by decide +kernel⟩
def vP:MS:=bM (jo (jE (fm "int") (ah 0)) (wB (jE (fm "bool") (ah 0))))
def cE:List D->au->ai D:=h7 1 1 vP
theorem iD:aV ["_law_e", "_law_marks"] ["_law_e"] (ar fW):=⟨rfl,rfl,rfl,by decide +kernel,rfl,by decide +kernel,by decide +kernel⟩
def lR:MS:=bj (bU (eR (ag (jE (mL ["NoPlace"] ["NoPlace", "NoRoot"]) (ah 0)) (ag (jE (mL [] ["NoPlace", "NoRoot"]) (ah 0)) (ag (jE (mL [] ["NoPlace", "NoRoot"]) (ah 0)) (ag (jE (mL ["NoRoot"] ["NoPlace", "NoRoot"]) (ah 0)) (aA)))))) (ao 1))
 (bj (bU (aH bN (ah 1) (eR (ag (jE (mL [] ["NoPlace", "NoRoot"]) (ah 0)) (ag (jE (mL [] ["NoPlace", "NoRoot"]) (ah 0)) (ag (jE (mL [] ["NoPlace", "NoRoot"]) (ah 0)) (ag (jE (mL [] ["NoPlace", "NoRoot"]) (ah 0)) (aA))))))) (ao 1))
 (bj (ka (ip (cS (gu (jE (mL ["NoPlace", "NoRoot"] ["NoPlace", "NoRoot"]) (ah 0)))) (gY (aH (kZ true) (AI l7 (ah 1) (ag (cC (.bl true)) (aA))) (cC (.int 1))))) (bM (cC (.str "other"))) (bY))
 (bM (aH cW (eR (ag (cC (.str "place")) (ag (cC (.str "number")) (ag (cC (.str "line")) (ag (cC (.str "root")) (ag (cC (.str "tree")) (ag (cC (.str "web")) (ag (cC (.str "text")) (ag (cC (.str "great")) (aA)))))))))) (AI l0 (ah 1) (ag (cC (.bl true)) (aA)))))))
def dc:List D->au->ai D:=h7 1 2 lR
theorem sJ:aV ["_law_many", "_law_ties"] ["_law_many", "_law_ties"] (ar fe):=⟨rfl,rfl,rfl,by decide +kernel,rfl,by decide +kernel,by decide +kernel⟩
theorem j7:(["_law_a", "_law_b"]:List Str).Nodup:=by decide +kernel
def iH:ME:=bW (ag (aC AQ (ag (ah 0) (ag (ah 1) (aA)))) (ag (aC tf (ag (ah 0) (ag (ah 1) (aA)))) (aA)))
def mF:MS:=bM (bW (ag (ah 0) (ag (aC gb (ag (aC cZ (ag (aC sY (ag (cK (f6 (ah 1)) [none,none] (dC 2 (bb (ao 0) (bb (ao 1) (dD)))) (bz) (iH)) (aA))) (aA))) (aA))) (aA))))
def dB:List D->au->ai D:=h7 2 2 mF
theorem dA:aV ["_law_pen", "_law_most", "_law_many", "_law_share", "_law_ties", "_law_one"] ["_law_pen", "_law_most"] (ar dz):=⟨rfl,rfl,rfl,by decide +kernel,rfl,by decide +kernel,by decide +kernel⟩
theorem mr:(["_law_other", "_law_one", "_law_pen", "_law_share"]:List Str).Nodup:=by decide +kernel
def d7:ME:=bW (ag (ah 0) (ag (ah 1) (aA)))
def d6:MT:=gY (aH (kZ false) (aC aF (ag (ah 2) (ag (ah 3) (aA)))) (cC (.int 0)))
def df:MS:=jO (AI iN (ah 4) (ag (cK (kU mJ (ag (ah 5) (aA))) [none,some 5,some 0,some 3] (ao 0) (d6) (d7)) (aA)))
def j8:MS:=bj (bU (aH bN (cC (.int 1)) (aC aF (ag (ah 0) (ag (ah 1) (aA))))) (ao 2))
 (bj (bU (aH bN (cC (.int 2)) (aC aF (ag (ah 0) (ag (cC (.int 3)) (aA))))) (ao 3))
 (bj (bU (eR (aA)) (ao 4))
 (bj (nq (kU mJ (ag (ah 2) (aA))) (ao 5) df)
 (bM (aC dB (ag (ah 2) (ag (ah 4) (aA))))))))
def dW:List D->au->ai D:=h7 2 6 j8
theorem qi:aV ["_law_web", "_law_place"] ["_law_web", "_law_place"] (ar ef):=⟨rfl,rfl,rfl,by decide +kernel,rfl,by decide +kernel,by decide +kernel⟩
theorem jC:(["_law_a", "_law_b", "_law_place"]:List Str).Nodup:=by decide +kernel
def hZ:ME:=aH sX (aH bN (ah 0) (ah 1)) (ah 2)
def hV:MT:=gY (aH (oq false) (ah 2) (bW (ag (ah 0) (ag (ah 1) (aA)))))
def lQ:MS:=bM (cK (f6 (aH cW (ah 0) (cC (.int 1)))) [none,none,some 1] (dC 2 (bb (ao 0) (bb (ao 1) (dD)))) (hV) (hZ))
def cg:List D->au->ai D:=h7 2 2 lQ
theorem dU:aV ["_law_web", "_law_ties", "_law_place", "_law_near", "_law_one"] ["_law_web"] (ar dR):=⟨rfl,rfl,rfl,by decide +kernel,rfl,by decide +kernel,by decide +kernel⟩
theorem ng:(["_law_other", "_law_one"]:List Str).Nodup:=by decide +kernel
def eQ:ME:=bW (ag (ah 1) (ag (ah 0) (aA)))
def eM:MT:=gY (aH (il .Lt) (ah 1) (ah 0))
def eP:MS:=jO (AI iN (ah 1) (ag (cK (f6 (ah 3)) [none,some 4] (ao 0) (eM) (eQ)) (aA)))
def eO:MS:=bj (bU (aC cg (ag (ah 0) (ag (ah 2) (aA)))) (ao 3))
 (nq (f6 (ah 3)) (ao 4) eP)
def kN:MS:=bj (bU (aC kG (ag (aH cW (ah 0) (cC (.int 1))) (aA))) (ao 1))
 (bj (nq (kU mJ (ag (aH cW (ah 0) (cC (.int 0))) (aA))) (ao 2) eO)
 (bM (aC dB (ag (aH cW (ah 0) (cC (.int 0))) (ag (ah 1) (aA))))))
def eA:List D->au->ai D:=h7 1 5 kN
theorem bC:aV ["_law_pen", "_law_web", "_law_many", "_law_ties", "_law_odd", "_law_spot", "_law_pair", "_law_wrong", "_law_bent", "_law_some"] ["_law_pen", "_law_web"] (ar fD):=⟨rfl,rfl,rfl,by decide +kernel,rfl,by decide +kernel,by decide +kernel⟩
def kQ:MS:=bj (bU (ah 1) (dC 2 (bb (ao 2) (bb (ao 3) (dD)))))
 (bj (bU (aH cW (eR (ag (aH bN (ah 2) (cC (.int 1))) (ag (cC (.int 0)) (ag (cC (.int 7)) (ag (jE nt (cC (.int 1))) (ag (cC (.bl true)) (ag (cC .non) (ag (cC (.str "2")) (ag (bW (ag (cC (.int 2)) (aA))) (ag (aH sZ (cC (.int 10)) (cC (.int 30))) (aA))))))))))) (aC aF (ag (ah 0) (ag (cC (.int 9)) (aA))))) (ao 4))
 (bj (bU (aC aF (ag (ah 0) (ag (aH bN (aC jG (ag (ah 3) (aA))) (cC (.int 1))) (aA)))) (ao 5))
 (bj (bU (aH cW (aH bN (ah 3) (bW (ag (bW (ag (cC (.int 0)) (ag (cC (.int 1)) (aA)))) (aA)))) (ah 5)) (ao 6))
 (bj (bU (eR (ag (bW (ag (aH cW (ah 6) (cC (.int 1))) (ag (aH cW (ah 6) (cC (.int 0))) (aA)))) (ag (aC kG (ag (ah 6) (aA))) (ag (bW (ag (aH cW (ah 6) (cC (.int 0))) (aA))) (ag (aH bN (ah 6) (bW (ag (cC (.int 0)) (aA)))) (ag (bW (ag (aH cW (ah 6) (cC (.int 0))) (ag (ah 2) (aA)))) (ag (bW (ag (aH cW (ah 6) (cC (.int 0))) (ag (ah 4) (aA)))) (ag (cC .non) (ag (bW (ag (cC (.int 0)) (ag (cC (.int 0)) (aA)))) (aA)))))))))) (ao 7))
 (bj (bU (aH bN (aH bN (vR (ah 3) (vU) (gx (ah 5))) (bW (ag (aH cW (ah 7) (aC aF (ag (ah 0) (ag (cC (.int 8)) (aA))))) (aA)))) (vR (ah 3) (gx (aH bN (ah 5) (cC (.int 1)))) (vU))) (ao 8))
 (bj (bU (eR (ag (bW (ag (ah 4) (ag (ah 3) (aA)))) (ag (bW (ag (ah 2) (ag (ah 8) (aA)))) (ag (bW (ag (ah 2) (ag (ah 8) (aA)))) (ag (bW (ag (ah 2) (ag (aC kG (ag (ah 3) (aA))) (aA)))) (ag (eR (ag (ah 2) (ag (ah 3) (aA)))) (ag (bW (ag (ah 2) (aA))) (ag (bW (ag (ah 2) (ag (ah 3) (ag (bW (aA)) (aA))))) (aA))))))))) (ao 9))
 (bj (bU (aH bN (ah 9) (eR (ag (bW (ag (ah 2) (ag (aH pL (ah 3) (jE nt (cC (.int 1)))) (aA)))) (ag (bW (ag (ah 2) (ag (aH bN (ah 3) (vR (ah 3) (vU) (gx (cC (.int 1))))) (aA)))) (ag (cC .non) (ag (ah 3) (ag (AS) (ag (bW (ag (ah 2) (ag (vR (ah 3) (gx (cC (.int 1))) (vU)) (aA)))) (ag (bW (ag (ah 2) (ag (bW (aA)) (aA)))) (aA)))))))))) (ao 9))
 (bM (aH cW (ah 9) (aC aF (ag (ah 0) (ag (cC (.int 14)) (aA)))))))))))))
def dr:List D->au->ai D:=h7 2 10 kQ
theorem fE:aV ["_law_thing", "_law_last", "_law_tie"] ["_law_thing"] (ar fB):=⟨rfl,rfl,rfl,by decide +kernel,rfl,by decide +kernel,by decide +kernel⟩
def cj:MS:=bj (ka (ip (cS (gu (jE (fm "tuple") (ah 2)))) (ip (gY (aH (kZ true) (aC jG (ag (ah 2) (aA))) (cC (.int 2)))) (ip (cS (gu (aC cE (ag (aH cW (ah 2) (cC (.int 0))) (aA))))) (cS (gu (aC cE (ag (aH cW (ah 2) (cC (.int 1))) (aA)))))))) (bM (cC (.bl false))) (bY))
 (bj (ka (ip (cS (gY (qL (il .LtE) (il .Lt) (il .Lt) (cC (.int 0)) (aH cW (ah 2) (cC (.int 0))) (aH cW (ah 2) (cC (.int 1))) (aH cW (ah 0) (cC (.int 0)))))) (gY (aH (il .LtE) (ah 2) (ah 1)))) (bM (cC (.bl false))) (bY))
 (bU (ah 2) (ao 1)))
def kM:MS:=bj (ka (ip (cS (gu (jE (fm "tuple") (ah 0)))) (ip (gY (aH (kZ true) (aC jG (ag (ah 0) (aA))) (cC (.int 2)))) (ip (cS (gu (aC cE (ag (aH cW (ah 0) (cC (.int 0))) (aA))))) (cS (gY (ly (il .Lt) (il .Lt) (cC (.int 0)) (aH cW (ah 0) (cC (.int 0))) (cC (.int 7)))))))) (bM (cC (.bl false))) (bY))
 (bj (ka (cS (gu (jE (fm "tuple") (aH cW (ah 0) (cC (.int 1)))))) (bM (cC (.bl false))) (bY))
 (bj (bU (bW (ag (jE nt (cC (.int 1))) (ag (jE nt (cC (.int 1))) (aA)))) (ao 1))
 (bj (nq (f6 (aH cW (ah 0) (cC (.int 1)))) (ao 2) cj)
 (bM (cC (.bl true))))))
def dm:List D->au->ai D:=h7 1 3 kM
theorem j4:aV ["_law_pen", "_law_many", "_law_odd"] ["_law_pen", "_law_many"] (ar fC):=⟨rfl,rfl,rfl,by decide +kernel,rfl,by decide +kernel,by decide +kernel⟩
def kP:MS:=bj (bU (eR (ag (ah 1) (ag (aH bN (aH bN (ah 1) (cC (.int 1))) (aC aF (ag (ah 0) (ag (aH sZ (cC (.int 10)) (cC (.int 9))) (aA))))) (ag (jE nt (cC (.int 1))) (ag (cC (.bl true)) (ag (cC (.bl false)) (ag (cC .non) (ag (cC (.str "0")) (ag (bW (ag (cC (.int 0)) (aA))) (ag (eR (ag (cC (.int 0)) (aA))) (ag (AS) (aA)))))))))))) (ao 2))
 (bM (aH cW (ah 2) (aC aF (ag (ah 0) (ag (cC (.int 10)) (aA))))))
def dq:List D->au->ai D:=h7 2 3 kP
theorem m8:aV ["_law_found", "_law_due"] ["_law_found", "_law_due"] (ar de):=⟨rfl,rfl,rfl,by decide +kernel,rfl,by decide +kernel,by decide +kernel⟩
theorem lU:(["_law_one"]:List Str).Nodup:=by decide +kernel
theorem lT:(["_law_number"]:List Str).Nodup:=by decide +kernel
def dG:ME:=aC cE (ag (ah 0) (aA))
def fO:ME:=jo (jE (fm "tuple") (ah 0)) (aC qf (ag (cK (f6 (ah 0)) [none] (ao 0) (bz) (dG)) (aA)))
def jD:MS:=bj (ka (ip (cS (gu (jE (fm "tuple") (ah 0)))) (gY (aH (kZ true) (ah 0) (ah 1)))) (bM (cC (.bl false))) (bY))
 (bM (aC qf (ag (cK (f6 (ah 0)) [none] (ao 0) (bz) (fO)) (aA))))
def bF:List D->au->ai D:=h7 2 2 jD
theorem nX:aV ["_law_way", "_law_web", "_law_one", "_law_other", "_law_e"] ["_law_way", "_law_web", "_law_one", "_law_other"] (ar iO):=⟨rfl,rfl,rfl,by decide +kernel,rfl,by decide +kernel,by decide +kernel⟩
def cU:MS:=bj (ka (gY (aH (kZ false) (ah 0) (cC (.int 0)))) (bM (aC bt (ag (ah 1) (ag (ah 2) (ag (ah 3) (aA)))))) (bY))
 (bj (ka (gY (aH (kZ false) (ah 0) (cC (.int 1)))) (bM (aC dw (ag (ah 1) (ag (ah 2) (ag (ah 3) (aA)))))) (bY))
 (bM (aC dy (ag (ah 1) (ag (ah 2) (aA))))))
def fT:MS:=bM (aC dc (ag (ah 4) (aA)))
def gp:MS:=vW ["NoPlace", "NoRoot"] 4 5 cU fT
def br:List D->au->ai D:=h7 4 5 gp
theorem j3:aV ["_law_web", "_law_one", "_law_other", "_law_found"] ["_law_web", "_law_one", "_law_other"] (ar dS):=⟨rfl,rfl,rfl,by decide +kernel,rfl,by decide +kernel,by decide +kernel⟩
theorem nh:(["_law_place", "_law_one", "_law_other", "_law_web"]:List Str).Nodup:=by decide +kernel
def gR:ME:=bW (ag (ah 1) (ag (ah 0) (ag (ah 2) (aA))))
def gQ:MT:=gY (aH (oq false) (ah 2) (aC cg (ag (ah 3) (ag (ah 0) (aA)))))
def kO:MS:=bj (ka (gY (aH (kZ false) (ah 1) (ah 2))) (bM (eR (aA))) (bY))
 (bj (bU (cK (f6 (aC cg (ag (ah 0) (ag (ah 1) (aA))))) [none,some 1,some 2,some 0] (ao 0) (gQ) (gR)) (ao 3))
 (bj (ka (gY (aH (oq false) (ah 2) (aC cg (ag (ah 0) (ag (ah 1) (aA)))))) (jO (AI ie (ah 3) (ag (bW (ag (ah 1) (ag (ah 2) (aA)))) (aA)))) (bY))
 (bM (aC cZ (ag (ah 3) (aA))))))
def bS:List D->au->ai D:=h7 3 4 kO
theorem iE:aV ["_law_web", "_law_other", "_law_thing", "_law_tie", "_law_step"] ["_law_web", "_law_other", "_law_thing"] (ar eu):=⟨rfl,rfl,rfl,by decide +kernel,rfl,by decide +kernel,by decide +kernel⟩
theorem oj:(["_law_one"]:List Str).Nodup:=by decide +kernel
def fG:ME:=aC cE (ag (ah 0) (aA))
def fF:MS:=bj (ka (ip (cS (gu (jE (fm "tuple") (ah 4)))) (cS (gu (aC qf (ag (cK (f6 (ah 4)) [none] (ao 0) (bz) (fG)) (aA)))))) (bM (cC (.bl false))) (bY))
 (ka (gY (aH (oq true) (ah 4) (aC bS (ag (ah 1) (ag (aH cW (ah 3) (cC (.int 0))) (ag (aH cW (ah 3) (cC (.int 1))) (aA))))))) (bM (cC (.bl false))) (bY))
def lS:MS:=bj (ka (ip (cS (gu (jE (fm "tuple") (ah 2)))) (gY (aH (kZ true) (aC jG (ag (ah 2) (aA))) (aC jG (ag (aH cW (ah 0) (cC (.int 1))) (aA)))))) (bM (cC (.bl false))) (bY))
 (bj (nq (kU yj (ag (aH cW (ah 0) (cC (.int 1))) (ag (ah 2) (aA)))) (dC 2 (bb (ao 3) (bb (ao 4) (dD)))) fF)
 (bM (cC (.bl true))))
def ff:List D->au->ai D:=h7 3 5 lS
theorem cq:aV ["_law_pen", "_law_show", "_law_many", "_law_spot", "_law_step", "_law_odd", "_law_at", "_law_other", "_law_some"] ["_law_pen", "_law_show", "_law_many"] (ar fY):=⟨rfl,rfl,rfl,by decide +kernel,rfl,by decide +kernel,by decide +kernel⟩
def jh:MS:=bj (ka (gY (aH (AR) (ah 1) (bW (aA)))) (bM (aH cW (eR (ag (bW (aA)) (ag (bW (ag (bW (ag (cC (.int 0)) (ag (cC (.int 1)) (aA)))) (aA))) (ag (cC .non) (ag (eR (aA)) (ag (bW (ag (bW (aA)) (aA))) (ag (AS) (aA)))))))) (aC aF (ag (ah 0) (ag (cC (.int 6)) (aA)))))) (bY))
 (bj (bU (aC aF (ag (ah 0) (ag (aC jG (ag (ah 1) (aA))) (aA)))) (ao 3))
 (bj (bU (aH cW (ah 1) (ah 3)) (ao 4))
 (bj (bU (aH cW (eR (ag (ah 2) (ag (jE nt (cC (.int 1))) (ag (cC (.bl true)) (ag (cC .non) (ag (cC (.str "0")) (ag (bW (ag (cC (.int 0)) (aA))) (ag (aH sZ (cC (.int 10)) (cC (.int 30))) (ag (aC aF (ag (ah 0) (ag (ah 2) (aA)))) (aA)))))))))) (aC aF (ag (ah 0) (ag (cC (.int 8)) (aA))))) (ao 5))
 (bj (bU (aC aF (ag (ah 0) (ag (aC jG (ag (ah 4) (aA))) (aA)))) (ao 6))
 (bj (bU (eR (ag (aH pL (ah 4) (jE nt (cC (.int 1)))) (ag (aH bN (aH bN (vR (ah 4) (vU) (gx (cC (.int 1)))) (bW (ag (ah 5) (aA)))) (vR (ah 4) (gx (jE nt (cC (.int 1)))) (vU))) (ag (aH bN (aH bN (vR (ah 4) (vU) (gx (ah 6))) (bW (ag (ah 5) (aA)))) (vR (ah 4) (gx (aH bN (ah 6) (cC (.int 1)))) (vU))) (ag (aC kG (ag (ah 4) (aA))) (ag (aH bN (ah 4) (bW (ag (cC (.int 0)) (aA)))) (aA))))))) (ao 7))
 (bj (bU (aH cW (aH bN (ah 7) (eR (ag (bW (aA)) (ag (cC .non) (ag (cC (.int 0)) (ag (bW (ag (ah 4) (aA))) (ag (aH bN (vR (ah 4) (vU) (gx (cC (.int 1)))) (vR (ah 4) (gx (jE nt (cC (.int 1)))) (vU))) (aA)))))))) (aC aF (ag (ah 0) (ag (cC (.int 10)) (aA))))) (ao 7))
 (bj (bU (aH bN (aH mK (eR (ag (aH bN (aH bN (vR (ah 1) (vU) (gx (ah 3))) (bW (ag (ah 7) (aA)))) (vR (ah 1) (gx (aH bN (ah 3) (cC (.int 1)))) (vU))) (aA))) (cC (.int 6))) (eR (ag (vR (ah 1) (gx (cC (.int 1))) (vU)) (ag (aH bN (ah 1) (vR (ah 1) (vU) (gx (cC (.int 1))))) (ag (aC kG (ag (ah 1) (aA))) (ag (bW (ag (ah 1) (aA))) (ag (aH pL (ah 1) (jE nt (cC (.int 1)))) (aA)))))))) (ao 8))
 (bM (aH cW (ah 8) (aC aF (ag (ah 0) (ag (cC (.int 11)) (aA)))))))))))))
def cH:List D->au->ai D:=h7 3 9 jh
theorem cG:aV ["_law_pen", "_law_web", "_law_other", "_law_steps", "_law_due", "_law_first", "_law_show", "_law_thing", "_law_held", "_law_found"] ["_law_pen", "_law_web", "_law_other"] (ar cT):=⟨rfl,rfl,rfl,by decide +kernel,rfl,by decide +kernel,by decide +kernel⟩
theorem kI:(["_law_a", "_law_b", "_law_other"]:List Str).Nodup:=by decide +kernel
theorem qx:(["_law_some"]:List Str).Nodup:=by decide +kernel
theorem qw:(["_law_some", "_law_pen"]:List Str).Nodup:=by decide +kernel
theorem qv:(["_law_turn", "_law_pen", "_law_show", "_law_web"]:List Str).Nodup:=by decide +kernel
def gP:ME:=aC bS (ag (ah 2) (ag (ah 0) (ag (ah 1) (aA))))
def jf:ME:=aH cW (ah 0) (cC (.int 0))
def fk:ME:=aH cW (aH bN (ah 0) (eR (ag (bW (ag (cC (.int 0)) (ag (cC (.int 0)) (aA)))) (aA)))) (aC aF (ag (ah 1) (ag (aC tf (ag (cC (.int 1)) (ag (aC jG (ag (ah 0) (aA))) (aA)))) (aA))))
def fj:ME:=aC cH (ag (ah 1) (ag (ah 2) (ag (aH cW (ah 3) (cC (.int 0))) (aA))))
def gM:MS:=bj (bU (aC iC (ag (ah 7) (aA))) (ao 8))
 (bj (bU (aC br (ag (cC (.int 1)) (ag (ah 1) (ag (ah 2) (ag (ah 7) (aA)))))) (ao 9))
 (ka (ip (cS (gu (jE (fm "bool") (ah 9)))) (ip (gY (aH (kZ true) (ah 9) (aC ff (ag (ah 1) (ag (ah 2) (ag (ah 7) (aA))))))) (gY (aH (yo true) (aC iC (ag (ah 7) (aA))) (ah 8))))) (bM (cC (.bl false))) (bY)))
def oh:MS:=bj (bU (cK (f6 (aH cW (ah 1) (cC (.int 1)))) [none,none,some 2] (dC 2 (bb (ao 0) (bb (ao 1) (dD)))) (bz) (gP)) (ao 3))
 (bj (bU (cC .non) (ao 4))
 (bj (ka (gY (aH (oq true) (eR (aA)) (ah 3))) (bU (aC gb (ag (cK (f6 (ah 3)) [none] (ao 0) (bz) (jf)) (aA))) (ao 4)) (bY))
 (bj (bU (aC br (ag (cC (.int 2)) (ag (ah 1) (ag (ah 2) (ag (cC .non) (aA)))))) (ao 5))
 (bj (ka (ip (pM (gY (aH (nu false) (ah 4) (cC .non))) (gY (aH (nu true) (ah 5) (cC .non)))) (pM (gY (aH (nu true) (ah 4) (cC .non))) (cS (gu (aC bF (ag (ah 5) (ag (ah 4) (aA)))))))) (bM (cC (.bl false))) (bY))
 (bj (bU (aC gb (ag (cK (f6 (ah 3)) [none,some 0] (ao 0) (bz) (fk)) (aA))) (ao 6))
 (bj (nq (f6 (aH bN (eR (ag (ah 6) (ag (ah 4) (aA)))) (cK (kU mJ (ag (cC (.int 5)) (aA))) [none,some 0,some 6,some 1] (ao 0) (bz) (fj)))) (ao 7) gM)
 (bM (cC (.bl true)))))))))
def cF:List D->au->ai D:=h7 3 10 oh
theorem iA:aV ["_law_script", "_law_cell", "_law_pen", "_law_other", "_law_web", "_law_fewer", "_law_one", "_law_far", "_law_found", "_law_steps", "_law_odd", "_law_bent"] ["_law_script"] (ar jI):=⟨rfl,rfl,rfl,by decide +kernel,rfl,by decide +kernel,by decide +kernel⟩
theorem Eg:(["_law_tie", "_law_pen"]:List Str).Nodup:=by decide +kernel
theorem xl:(["_law_one", "_law_far", "_law_other"]:List Str).Nodup:=by decide +kernel
theorem Ef:(["_law_way", "_law_web", "_law_bent"]:List Str).Nodup:=by decide +kernel
def nN:ME:=ah 0
def nL:MT:=gY (aH (il .Gt) (aC aF (ag (ah 1) (ag (cC (.int 3)) (aA)))) (cC (.int 0)))
def qN:MS:=bj (bU (aC br (ag (cC (.int 0)) (ag (ah 3) (ag (ah 6) (ag (ah 7) (aA)))))) (ao 8))
 (bj (bU (aC gb (ag (aC bS (ag (ah 3) (ag (ah 6) (ag (ah 7) (aA))))) (aA))) (ao 9))
 (bj (ka (ip (cS (gu (jE (fm "list") (ah 8)))) (cS (gu (aC bF (ag (aC gb (ag (ah 8) (aA))) (ag (ah 9) (aA))))))) (bM (cC (.bl false))) (bY))
 (jO (AI ie (ah 8) (ag (cC .non) (aA))))))
def me:MS:=nq (kU mJ (ag (aH cW (ah 4) (cC (.int 0))) (aA))) (ao 7) qN
def nM:ME:=aC br (ag (cC (.int 0)) (ag (ah 2) (ag (ah 0) (ag (ah 1) (aA)))))
def mf:ME:=aC br (ag (ah 0) (ag (ah 1) (ag (ah 2) (ag (bW (aA)) (aA)))))
def qM:MS:=bj (bU (aC fV (ag (ah 1) (aA))) (ao 2))
 (bj (bU (aC dW (ag (ah 2) (ag (cC (.int 6)) (aA)))) (ao 3))
 (bj (bU (aC eA (ag (ah 3) (aA))) (ao 4))
 (bj (bU (bW (ag (aH cW (ah 4) (cC (.int 0))) (ag (aC gb (ag (cK (f6 (aH cW (ah 3) (cC (.int 1)))) [none,some 2] (ao 0) (nL) (nN)) (aA))) (aA)))) (ao 5))
 (bj (ka (ip (cS (gu (aC cF (ag (ah 2) (ag (ah 4) (ag (ah 3) (aA))))))) (ip (cS (gu (aC cF (ag (ah 2) (ag (ah 4) (ag (ah 5) (aA))))))) (cS (gu (aC cF (ag (ah 2) (ag (ah 5) (ag (ah 3) (aA))))))))) (bM (cC (.bl false))) (bY))
 (bj (nq (kU mJ (ag (aH cW (ah 4) (cC (.int 0))) (aA))) (ao 6) me)
 (bj (bU (aC dq (ag (ah 2) (ag (aH cW (ah 4) (cC (.int 0))) (aA)))) (ao 10))
 (bj (ka (gY (aH (kZ true) (cK (f6 (eR (ag (bW (ag (ah 10) (ag (cC (.int 0)) (aA)))) (ag (bW (ag (cC (.int 0)) (ag (ah 10) (aA)))) (ag (bW (ag (ah 10) (ag (ah 10) (aA)))) (aA)))))) [none,none,some 3] (dC 2 (bb (ao 0) (bb (ao 1) (dD)))) (bz) (nM)) (aH mK (eR (ag (cC (.str "place")) (aA))) (cC (.int 3))))) (bM (cC (.bl false))) (bY))
 (bj (bU (aC dr (ag (ah 2) (ag (ah 3) (aA)))) (ao 11))
 (ka (ip (cS (gu (aC dm (ag (ah 11) (aA))))) (gY (aH (kZ true) (aH cW (ah 11) (cC (.int 0))) (aH cW (ah 4) (cC (.int 0)))))) (ka (gY (aH (kZ true) (cK (f6 (bW (ag (cC (.int 1)) (ag (cC (.int 2)) (aA))))) [none,some 4,some 11] (ao 0) (bz) (mf)) (eR (ag (cC (.str "root")) (ag (cC (.str "root")) (aA)))))) (bM (cC (.bl false))) (bY)) (bY))))))))))
def HW:MS:=bj (nq (f6 (aH bN (eR (ag (aC fg (ag (ah 0) (ag (cC (.int 0)) (aA)))) (aA))) (vR (ah 0) (gx (cC (.int 1))) (gx (cC (.int 6)))))) (ao 1) qM)
 (bM (cC (.bl true)))
def wG:List D->au->ai D:=h7 1 12 HW
theorem xU(nm:Nm mg)(F:gS K "is_whole" "is_whole" jA f fd)(hm:mg "is_whole" = some (.ref f)):dY P w K mg base (dX K w) 1 "is_whole" 1 gf:=
 dt F xQ rfl hm (F.b1 (by rfl) fun _ _ _ _ _ _ _=>by rfl) fun cdv A outer s H E hr=>
 aW (bg (lj (ir (T:="int") (by decide) Dt (by decide) (by decide) nm.isinstance nm.int (aG 0)) (nz (Ho (ir (T:="bool") (by decide) vp (by decide) (by decide) nm.isinstance nm.bool (aG 0))))))
theorem pj(nm:Nm mg)(F:gS K "is_whole_from" "is_whole_from" fA f fd)(hm:mg "is_whole_from" = some (.ref f))(d_is_whole:dY P w K mg base (dX K w) 1 "is_whole" 1 gf):dY P w K mg base (dX K w) 2 "is_whole_from" 3 bR:=
 dt F ph rfl hm (F.b3 (by rfl) fun _ _ _ _ _ _ _ _ _=>by rfl) fun cdv A outer s H E hr=>
 aW (bg (lj (aT d_is_whole (hr.mono (by decide)) (aE (aG 0) (aY))) (nz (LP (jm (op:=.LtE) hr.units) (jm (op:=.LtE) hr.units) (aG 1) (aG 0) (aG 2)))))
theorem xV(nm:Nm mg)(F:gS K "is_place" "is_place" jB f fd)(hm:mg "is_place" = some (.ref f))(d_is_whole_from:dY P w K mg base (dX K w) 2 "is_whole_from" 3 bR):dY P w K mg base (dX K w) 3 "is_place" 2 d5:=
 dt F xR rfl hm (F.b2 (by rfl) fun _ _ _ _ _ _ _ _=>by rfl) fun cdv A outer s H E hr=>
 aW (bg (aT d_is_whole_from (hr.mono (by decide)) (aE (aG 1) (aE (bA) (aE (zI (aG 0) (bA)) (aY))))))
theorem vE(nm:Nm mg)(F:gS K "is_places" "is_places" gI f fd)(hm:mg "is_places" = some (.ref f))(d_is_place:dY P w K mg base (dX K w) 3 "is_place" 2 d5):dY P w K mg base (dX K w) 4 "is_places" 2 eZ:=
 dt F vB rfl hm (F.b2 (by rfl) fun _ _ _ _ _ _ _ _=>by rfl) fun cdv A outer s H E hr=>
 aW (bg (lj (ir (T:="tuple") (by decide) eY (by decide) (by decide) nm.isinstance nm.tuple (aG 1)) (nz (bG rh nm.all (aE (dM (bT (N:=["many", "thing"]) (sc:=ar gI) (Nc:=["place", "many"]) (cap:=[none,some 0]) rfl rfl (by decide +kernel)) (p9 (aG 1)) (fun _ _ _ _ _=>iV 0 sR) (fun _ _ _ _ _=>iq) (fun _ _ _ _ _=>aT d_is_place (hr.mono (by decide)) (aE (aG 1) (aE (aG 0) (aY))))) (aY))))))
theorem vD(nm:Nm mg)(F:gS K "is_rising" "is_rising" gH f fd)(hm:mg "is_rising" = some (.ref f)):dY P w K mg base (dX K w) 1 "is_rising" 1 ix:=
 dt F vA rfl hm (F.b1 (by rfl) fun _ _ _ _ _ _ _=>by rfl) fun cdv A outer s H E hr=>
 aW (bg (bG rh nm.all (aE (dM (bT (N:=["things"]) (sc:=ar gH) (Nc:=["at", "things"]) (cap:=[none,some 0]) rfl rfl (by decide +kernel)) (N0 nm.range (aE (bA) (aE (bG jq nm.len (aE (aG 0) (aY))) (aY)))) (fun _ _ _ _ _=>iV 0 sQ) (fun _ _ _ _ _=>iq) (fun _ _ _ _ _=>tO (jm (op:=.Lt) hr.units) (bP (aG 1) (zI (aG 0) (bA))) (bP (aG 1) (aG 0)))) (aY))))
theorem ze(nm:Nm mg)(F:gS K "is_many" "is_many" kx f fd)(hm:mg "is_many" = some (.ref f))(c_MOST_PLACES:∃t,mg "MOST_PLACES" = some (.int 6 t))(d_is_whole_from:dY P w K mg base (dX K w) 2 "is_whole_from" 3 bR):dY P w K mg base (dX K w) 3 "is_many" 1 jZ:=
 dt F y0 rfl hm (F.b1 (by rfl) fun _ _ _ _ _ _ _=>by rfl) fun cdv A outer s H E hr=>
 aW (bg (aT d_is_whole_from (hr.mono (by decide)) (aE (aG 0) (aE (bA) (aE (ND c_MOST_PLACES) (aY))))))
theorem zd(nm:Nm mg)(F:gS K "is_pair" "is_pair" kv f fd)(hm:mg "is_pair" = some (.ref f))(d_is_places:dY P w K mg base (dX K w) 4 "is_places" 2 eZ):dY P w K mg base (dX K w) 5 "is_pair" 2 jY:=
 dt F yZ rfl hm (F.b2 (by rfl) fun _ _ _ _ _ _ _ _=>by rfl) fun cdv A outer s H E hr=>
 aW (bg (lj (aT d_is_places (hr.mono (by decide)) (aE (aG 0) (aE (aG 1) (aY)))) (lj (tO (ym hr.units) (bG jq nm.len (aE (aG 1) (aY))) (bA)) (nz (tO (oz hr.units) (bP (aG 1) (bA)) (bP (aG 1) (bA)))))))
theorem Bv(nm:Nm mg)(F:gS K "is_tie" "is_tie" mh f fd)(hm:mg "is_tie" = some (.ref f))(d_is_pair:dY P w K mg base (dX K w) 5 "is_pair" 2 jY):dY P w K mg base (dX K w) 6 "is_tie" 2 lD:=
 dt F Bj rfl hm (F.b2 (by rfl) fun _ _ _ _ _ _ _ _=>by rfl) fun cdv A outer s H E hr=>
 aW (bg (lj (aT d_is_pair (hr.mono (by decide)) (aE (aG 0) (aE (aG 1) (aY)))) (nz (tO (jm (op:=.Lt) hr.units) (bP (aG 1) (bA)) (bP (aG 1) (bA))))))
theorem zb(nm:Nm mg)(F:gS K "is_ties" "is_ties" ja f fd)(hm:mg "is_ties" = some (.ref f))(d_is_tie:dY P w K mg base (dX K w) 6 "is_tie" 2 lD)(d_is_rising:dY P w K mg base (dX K w) 1 "is_rising" 1 ix):dY P w K mg base (dX K w) 7 "is_ties" 2 jW:=
 dt F yX rfl hm (F.b2 (by rfl) fun _ _ _ _ _ _ _ _=>by rfl) fun cdv A outer s H E hr=>
 aW (bg (lj (ir (T:="tuple") (by decide) eY (by decide) (by decide) nm.isinstance nm.tuple (aG 1)) (lj (bG rh nm.all (aE (dM (bT (N:=["many", "thing"]) (sc:=ar ja) (Nc:=["tie", "many"]) (cap:=[none,some 0]) rfl rfl (by decide +kernel)) (p9 (aG 1)) (fun _ _ _ _ _=>iV 0 vJ) (fun _ _ _ _ _=>iq) (fun _ _ _ _ _=>aT d_is_tie (hr.mono (by decide)) (aE (aG 1) (aE (aG 0) (aY))))) (aY))) (nz (aT d_is_rising (hr.mono (by decide)) (aE (aG 1) (aY)))))))
theorem xS(nm:Nm mg)(F:gS K "web_good" "web_good" jz f fd)(hm:mg "web_good" = some (.ref f))(d_is_many:dY P w K mg base (dX K w) 3 "is_many" 1 jZ)(d_is_ties:dY P w K mg base (dX K w) 7 "is_ties" 2 jW):dY P w K mg base (dX K w) 8 "web_good" 1 hU:=
 dt F lF rfl hm (F.b1 (by rfl) fun _ _ _ _ _ _ _=>by rfl) fun cdv A outer s H E hr=>
 aM (fP (kT (jF (dH (p8 (ir (T:="tuple") (by decide) eY (by decide) (by decide) nm.isinstance nm.tuple (aG 0)))) (iX (cz (oz hr.units) (bG jq nm.len (aE (aG 0) (aY))) (bA))))) (aW (bg (oo))) (cR))
 (aM (zO (aG 0) (lp (di (iV 1 lF.nd) (di (iV 2 lF.nd) (lq)))))
 (aW (bg (lj (aT d_is_many (hr.mono (by decide)) (aE (aG 1) (aY))) (nz (aT d_is_ties (hr.mono (by decide)) (aE (aG 1) (aE (aG 2) (aY)))))))))
theorem sM(nm:Nm mg)(F:gS K "check_place" "check_place" gJ f fd)(hm:mg "check_place" = some (.ref f))(k_NoPlace:W.nsIn K mainGlobals "NoPlace" = some (some (.ref a_NoPlace)))(o_NoPlace:v9 mg base "NoPlace" a_NoPlace)(d_is_place:dY P w K mg base (dX K w) 3 "is_place" 2 d5):jH P w K mg base 4 "check_place" 2 bB:=
 mM F sH rfl hm (F.b2 (by rfl) fun _ _ _ _ _ _ _ _=>by rfl) fun cdv A outer s H E hr=>
 aW (fP (dH (p8 (qA d_is_place (hr.mono (by decide)) (aE (bP (aG 0) (bA)) (aE (aG 1) (aY)))))) (aW (zR k_NoPlace o_NoPlace)) (cR))
theorem sL(nm:Nm mg)(F:gS K "next_places" "next_places" dQ f fd)(hm:mg "next_places" = some (.ref f)):dY P w K mg base (dX K w) 1 "next_places" 2 fU:=
 dt F sG rfl hm (F.b2 (by rfl) fun _ _ _ _ _ _ _ _=>by rfl) fun cdv A outer s H E hr=>
 aW (bg (cy (dM (bT (N:=["ties", "front"]) (sc:=ar dQ) (Nc:=["a", "b", "front"]) (cap:=[none,none,some 1]) rfl rfl (by decide +kernel)) (p9 (aG 0)) (fun _ _ _ _ _=>lp (di (iV 0 j6) (di (iV 1 j6) (lq)))) (fun _ _ _ _ _=>pH (cz (vY hr.units) (aG 0) (aG 2))) (fun _ _ _ _ _=>aG 1)) (dM (bT (N:=["ties", "front"]) (sc:=ar dQ) (Nc:=["a", "b", "front"]) (cap:=[none,none,some 1]) rfl rfl (by decide +kernel)) (p9 (aG 0)) (fun _ _ _ _ _=>lp (di (iV 0 j5) (di (iV 1 j5) (lq)))) (fun _ _ _ _ _=>pH (cz (vY hr.units) (aG 1) (aG 2))) (fun _ _ _ _ _=>aG 0))))
theorem y9(nm:Nm mg)(F:gS K "star_of" "star_of" kr f fd)(hm:mg "star_of" = some (.ref f))(d_check_place:jH P w K mg base 4 "check_place" 2 bB)(d_next_places:dY P w K mg base (dX K w) 1 "next_places" 2 fU):jH P w K mg base 5 "star_of" 2 gm:=
 mM F yW rfl hm (F.b2 (by rfl) fun _ _ _ _ _ _ _ _=>by rfl) fun cdv A outer s H E hr=>
 aM (jJ (gD d_check_place pJ (hr.mono (by decide)) (aE (aG 0) (aE (aG 1) (aY)))))
 (aW (bg (bG jw nm.tuple (aE (bG mj nm.sorted (aE (bG (HU hr.units) nm.set (aE (cy (dg (aE (aG 1) (aY))) (qA d_next_places (hr.mono (by decide)) (aE (bP (aG 0) (bA)) (aE (dg (aE (aG 1) (aY))) (aY))))) (aY))) (aY))) (aY)))))
theorem sN(nm:Nm mg)(F:gS K "check_other" "check_other" gK f fd)(hm:mg "check_other" = some (.ref f))(k_NoRoot:W.nsIn K mainGlobals "NoRoot" = some (some (.ref a_NoRoot)))(o_NoRoot:v9 mg base "NoRoot" a_NoRoot)(d_web_good:dY P w K mg base (dX K w) 8 "web_good" 1 hU):jH P w K mg base 9 "check_other" 2 bh:=
 mM F sI rfl hm (F.b2 (by rfl) fun _ _ _ _ _ _ _ _=>by rfl) fun cdv A outer s H E hr=>
 aW (fP (kT (jF (dH (p8 (qA d_web_good (hr.mono (by decide)) (aE (aG 1) (aY))))) (iX (cz (oz hr.units) (bP (aG 1) (bA)) (bP (aG 0) (bA)))))) (aW (zR k_NoRoot o_NoRoot)) (cR))
theorem tE(nm:Nm mg)(F:gS K "steps_from" "steps_from" eC f fd)(hm:mg "steps_from" = some (.ref f))(d_check_place:jH P w K mg base 4 "check_place" 2 bB)(d_star_of:jH P w K mg base 5 "star_of" 2 gm):jH P w K mg base 6 "steps_from" 3 bt:=
 mM F ik rfl hm (F.b3 (by rfl) fun _ _ _ _ _ _ _ _ _=>by rfl) fun cdv A outer s H E hr=>
 aM (jJ (gD d_check_place pJ (hr.mono (by decide)) (aE (aG 0) (aE (aG 1) (aY)))))
 (aM (jJ (gD d_check_place pJ (hr.mono (by decide)) (aE (aG 0) (aE (aG 2) (aY)))))
 (aM (fP (cz (ym hr.units) (aG 1) (aG 2)) (aW (bg (dg (aY)))) (cR))
 (aM (bQ 3 ik.nd (gD d_star_of pJ (hr.mono (by decide)) (aE (aG 0) (aE (aG 1) (aY)))))
 (aM (rk 4 ik.nd (bT (N:=["web", "one", "other", "near", "middles", "steps"]) (sc:=ar eC) (Nc:=["place", "near", "one", "other"]) (cap:=[none,some 3,some 1,some 2]) rfl rfl (by decide +kernel)) (p9 (gD d_star_of pJ (hr.mono (by decide)) (aE (aG 0) (aE (aG 2) (aY))))) (fun _ _ _ _ _=>iV 0 qt) (fun _ _ _ _ _=>pH (kT (Cv (cz (vY hr.units) (aG 0) (aG 1)) (yu (cz (CK hr.units) (aG 0) (bu (aE (aG 2) (aE (aG 3) (aY))))))))) (fun _ _ _ _ _=>aG 0))
 (aM (rk 5 ik.nd (bT (N:=["web", "one", "other", "near", "middles", "steps"]) (sc:=ar eC) (Nc:=["middle", "one", "other"]) (cap:=[none,some 1,some 2]) rfl rfl (by decide +kernel)) (p9 (aG 4)) (fun _ _ _ _ _=>iV 0 qr) (fun _ _ _ _ _=>iq) (fun _ _ _ _ _=>bu (aE (aG 1) (aE (aG 0) (aE (aG 2) (aY))))))
 (aM (fP (cz (vY hr.units) (aG 2) (aG 3)) (aW (jJ (Cr (aG 5) (aE (bu (aE (aG 1) (aE (aG 2) (aY)))) (aY))))) (cR))
 (aW (bg (bG mj nm.sorted (aE (aG 5) (aY)))))))))))
theorem zc(nm:Nm mg)(F:gS K "is_step" "is_step" ku f fd)(hm:mg "is_step" = some (.ref f))(d_is_places:dY P w K mg base (dX K w) 4 "is_places" 2 eZ)(d_steps_from:jH P w K mg base 6 "steps_from" 3 bt):jH P w K mg base 7 "is_step" 3 jX:=
 mM F yY rfl hm (F.b3 (by rfl) fun _ _ _ _ _ _ _ _ _=>by rfl) fun cdv A outer s H E hr=>
 aM (fP (dH (p8 (qA d_is_places (hr.mono (by decide)) (aE (bP (aG 0) (bA)) (aE (aG 2) (aY)))))) (aW (bg (oo))) (cR))
 (aW (bg (tO (vY hr.units) (aG 2) (gD d_steps_from pJ (hr.mono (by decide)) (aE (aG 0) (aE (bP (aG 1) (bA)) (aE (bP (aG 1) (bA)) (aY))))))))
theorem vC(nm:Nm mg)(F:gS K "show_good" "show_good" gG f fd)(hm:mg "show_good" = some (.ref f))(d_check_other:jH P w K mg base 9 "check_other" 2 bh)(d_is_step:jH P w K mg base 7 "is_step" 3 jX):jH P w K mg base 10 "show_good" 3 dw:=
 mM F nW rfl hm (F.b3 (by rfl) fun _ _ _ _ _ _ _ _ _=>by rfl) fun cdv A outer s H E hr=>
 aM (jJ (gD d_check_other pJ (hr.mono (by decide)) (aE (aG 0) (aE (aG 1) (aY)))))
 (aM (bQ 3 nW.nd (bP (aG 0) (bA)))
 (aM (fP (kT (jF (dH (p8 (ir (T:="tuple") (by decide) eY (by decide) (by decide) nm.isinstance nm.tuple (aG 2)))) (iX (cz (oz hr.units) (bG jq nm.len (aE (aG 2) (aY))) (bG jq nm.len (aE (aG 3) (aY))))))) (aW (bg (oo))) (cR))
 (aW (bg (bG rh nm.all (aE (dM (bT (N:=["web", "other", "thing", "ties"]) (sc:=ar gG) (Nc:=["tie", "step", "other"]) (cap:=[none,none,some 1]) rfl rfl (by decide +kernel)) (HL nm.zip (aE (aG 3) (aE (aG 2) (aY)))) (fun _ _ _ _ _=>lp (di (iV 0 lN) (di (iV 1 lN) (lq)))) (fun _ _ _ _ _=>iq) (fun _ _ _ _ _=>wJ d_is_step (hr.mono (by decide)) (aE (aG 2) (aE (aG 0) (aE (aG 1) (aY)))))) (aY)))))))
theorem tF(nm:Nm mg)(F:gS K "first_show" "first_show" eD f fd)(hm:mg "first_show" = some (.ref f))(d_check_other:jH P w K mg base 9 "check_other" 2 bh)(d_steps_from:jH P w K mg base 6 "steps_from" 3 bt):jH P w K mg base 10 "first_show" 2 dy:=
 mM F mz rfl hm (F.b2 (by rfl) fun _ _ _ _ _ _ _ _=>by rfl) fun cdv A outer s H E hr=>
 aM (jJ (gD d_check_other pJ (hr.mono (by decide)) (aE (aG 0) (aE (aG 1) (aY)))))
 (aM (rk 2 mz.nd (bT (N:=["web", "other", "choices"]) (sc:=ar eD) (Nc:=["a", "b", "other"]) (cap:=[none,none,some 1]) rfl rfl (by decide +kernel)) (p9 (bP (aG 0) (bA))) (fun _ _ _ _ _=>lp (di (iV 0 kH) (di (iV 1 kH) (lq)))) (fun _ _ _ _ _=>iq) (fun _ _ _ _ _=>wJ d_steps_from (hr.mono (by decide)) (aE (aG 2) (aE (aG 0) (aE (aG 1) (aY))))))
 (aM (fP (dH (p8 (bG K7 nm.all (aE (aG 2) (aY))))) (aW (bg (zD))) (cR))
 (aW (bg (bG jw nm.tuple (aE (dM (bT (N:=["web", "other", "choices"]) (sc:=ar eD) (Nc:=["steps"]) (cap:=[none]) rfl rfl (by decide +kernel)) (p9 (aG 2)) (fun _ _ _ _ _=>iV 0 qu) (fun _ _ _ _ _=>iq) (fun _ _ _ _ _=>bP (aG 0) (bA))) (aY)))))))
theorem qp(nm:Nm mg)(F:gS K "_law_cell_at" "_law_cell_at" fX f fd)(hm:mg "_law_cell_at" = some (.ref f)):dY P w K mg base (dX K w) 1 "_law_cell_at" 2 fg:=
 dt F qj rfl hm (F.b2 (by rfl) fun _ _ _ _ _ _ _ _=>by rfl) fun cdv A outer s H E hr=>
 aM (fP (cz (jm (op:=.Lt) hr.units) (aG 1) (bG jq nm.len (aE (aG 0) (aY)))) (aW (bg (bP (aG 0) (aG 1)))) (cR))
 (aW (bg (bA)))
theorem vG(nm:Nm mg)(F:gS K "_law_next" "_law_next" iP f fd)(hm:mg "_law_next" = some (.ref f)):dY P w K mg base (dX K w) 1 "_law_next" 1 gn:=
 dt F nY rfl hm (F.b1 (by rfl) fun _ _ _ _ _ _ _=>by rfl) fun cdv A outer s H E hr=>
 aM (bQ 0 nY.nd (we (cy (aG 0) (bA)) (bA)))
 (aW (bg (we (cy (cy (zK (aG 0) (aG 0)) (zK (bA) (aG 0))) (bA)) (bA))))
theorem sP(nm:Nm mg)(F:gS K "_law_pen_of" "_law_pen_of" gL f fd)(hm:mg "_law_pen_of" = some (.ref f)):dY P w K mg base (dX K w) 1 "_law_pen_of" 1 fV:=
 dt F lL rfl hm (F.b1 (by rfl) fun _ _ _ _ _ _ _=>by rfl) fun cdv A outer s H E hr=>
 aM (bQ 1 lL.nd (bG CO nm.max (aE (aG 0) (aE (zI (bA) (aG 0)) (aY)))))
 (aW (bg (dg (aE (aG 1) (aE (bG MM nm.int (aE (tO (jm (op:=.GtE) hr.units) (aG 1) (zJ (bA) (bA))) (aY))) (aE (we (aG 1) (bA)) (aY)))))))
theorem vH(nm:Nm mg)(F:gS K "_law_draw" "_law_draw" iQ f fd)(hm:mg "_law_draw" = some (.ref f))(d__law_next:dY P w K mg base (dX K w) 1 "_law_next" 1 gn):dY P w K mg base (dX K w) 2 "_law_draw" 2 aF:=
 dt F nZ rfl hm (F.b2 (by rfl) fun _ _ _ _ _ _ _ _=>by rfl) fun cdv A outer s H E hr=>
 aM (fP (cz (ym hr.units) (bP (aG 0) (bA)) (bA)) (aM (bQ 2 nZ.nd (we (bP (aG 0) (bA)) (aG 1)))
 (aM (zO (CS (bP (aG 0) (bA)) (aG 1)) (HM (aG 0) (bA)))
 (aW (bg (aG 2))))) (cR))
 (aM (zO (aT d__law_next (hr.mono (by decide)) (aE (cy (aT d__law_next (hr.mono (by decide)) (aE (bP (aG 0) (bA)) (aY))) (bA)) (aY))) (HM (aG 0) (bA)))
 (aW (bg (we (CS (bP (aG 0) (bA)) (bA)) (aG 1)))))
theorem tG(nm:Nm mg)(F:gS K "_law_whole" "_law_whole" ij f fd)(hm:mg "_law_whole" = some (.ref f)):dY P w K mg base (dX K w) 1 "_law_whole" 1 cE:=
 dt F tx rfl hm (F.b1 (by rfl) fun _ _ _ _ _ _ _=>by rfl) fun cdv A outer s H E hr=>
 aW (bg (lj (ir (T:="int") (by decide) Dt (by decide) (by decide) nm.isinstance nm.int (aG 0)) (nz (Ho (ir (T:="bool") (by decide) vp (by decide) (by decide) nm.isinstance nm.bool (aG 0))))))
theorem ql(nm:Nm mg)(F:gS K "_law_kind_of" "_law_kind_of" fW f fd)(hm:mg "_law_kind_of" = some (.ref f)){a_NoLine a_NoNumber a_NoText a_NoTree a_NoWeb a_TooGreat:Addr}(q_NoLine:cf K (.ref a_NoLine) [] ["NoPlace", "NoRoot"])(q_NoNumber:cf K (.ref a_NoNumber) [] ["NoPlace", "NoRoot"])(q_NoPlace:cf K (.ref a_NoPlace) ["NoPlace"] ["NoPlace", "NoRoot"])(q_NoRoot:cf K (.ref a_NoRoot) ["NoRoot"] ["NoPlace", "NoRoot"])(q_NoText:cf K (.ref a_NoText) [] ["NoPlace", "NoRoot"])(q_NoTree:cf K (.ref a_NoTree) [] ["NoPlace", "NoRoot"])(q_NoWeb:cf K (.ref a_NoWeb) [] ["NoPlace", "NoRoot"])(q_TooGreat:cf K (.ref a_TooGreat) [] ["NoPlace", "NoRoot"])(q_ValueError:cf K (.type "ValueError") ["NoPlace", "NoRoot"] ["NoPlace", "NoRoot"])(m_NoLine:mg "NoLine" = some (.ref a_NoLine))(m_NoNumber:mg "NoNumber" = some (.ref a_NoNumber))(m_NoPlace:mg "NoPlace" = some (.ref a_NoPlace))(m_NoRoot:mg "NoRoot" = some (.ref a_NoRoot))(m_NoText:mg "NoText" = some (.ref a_NoText))(m_NoTree:mg "NoTree" = some (.ref a_NoTree))(m_NoWeb:mg "NoWeb" = some (.ref a_NoWeb))(m_TooGreat:mg "TooGreat" = some (.ref a_TooGreat)):Fd P w K mg base (dX K w) 1 "_law_kind_of" 1 dc:=
 Iy F iD rfl hm (F.b1 (by rfl) fun _ _ _ _ _ _ _=>by rfl) fun cdv A outer s H E hr=>
 aM (bQ 1 iD.nd (dg (aE (pI q_NoPlace nm.isinstance m_NoPlace (aG 0)) (aE (pI q_NoNumber nm.isinstance m_NoNumber (aG 0)) (aE (pI q_NoLine nm.isinstance m_NoLine (aG 0)) (aE (pI q_NoRoot nm.isinstance m_NoRoot (aG 0)) (aY)))))))
 (aM (bQ 1 iD.nd (cy (aG 1) (dg (aE (pI q_NoTree nm.isinstance m_NoTree (aG 0)) (aE (pI q_NoWeb nm.isinstance m_NoWeb (aG 0)) (aE (pI q_NoText nm.isinstance m_NoText (aG 0)) (aE (pI q_TooGreat nm.isinstance m_TooGreat (aG 0)) (aY))))))))
 (aM (fP (kT (jF (dH (p8 (IA q_ValueError nm.isinstance nm.ValueError tK (aG 0)))) (iX (cz (oz hr.units) (LO (aG 1) (aE (oo) (aY))) (bA))))) (aW (bg (yd))) (cR))
 (aW (bg (bP (dg (aE (yd) (aE (yd) (aE (yd) (aE (yd) (aE (yd) (aE (yd) (aE (yd) (aE (yd) (aY)))))))))) (LN (aG 1) (aE (oo) (aY))))))))
theorem sO(nm:Nm mg)(F:gS K "_law_web_of" "_law_web_of" fe f fd)(hm:mg "_law_web_of" = some (.ref f)):dY P w K mg base (dX K w) 1 "_law_web_of" 2 dB:=
 dt F sJ rfl hm (F.b2 (by rfl) fun _ _ _ _ _ _ _ _=>by rfl) fun cdv A outer s H E hr=>
 aW (bg (bu (aE (aG 0) (aE (bG jw nm.tuple (aE (bG mj nm.sorted (aE (bG (HU hr.units) nm.set (aE (dM (bT (N:=["_law_many", "_law_ties"]) (sc:=ar fe) (Nc:=["_law_a", "_law_b"]) (cap:=[none,none]) rfl rfl (by decide +kernel)) (p9 (aG 1)) (fun _ _ _ _ _=>lp (di (iV 0 j7) (di (iV 1 j7) (lq)))) (fun _ _ _ _ _=>iq) (fun _ _ _ _ _=>bu (aE (bG ML nm.min (aE (aG 0) (aE (aG 1) (aY)))) (aE (bG CO nm.max (aE (aG 0) (aE (aG 1) (aY)))) (aY))))) (aY))) (aY))) (aY))) (aY)))))
theorem oi(nm:Nm mg)(F:gS K "_law_drawn_web" "_law_drawn_web" dz f fd)(hm:mg "_law_drawn_web" = some (.ref f))(d__law_draw:dY P w K mg base (dX K w) 2 "_law_draw" 2 aF)(d__law_web_of:dY P w K mg base (dX K w) 1 "_law_web_of" 2 dB):dY P w K mg base (dX K w) 3 "_law_drawn_web" 2 dW:=
 dt F dA rfl hm (F.b2 (by rfl) fun _ _ _ _ _ _ _ _=>by rfl) fun cdv A outer s H E hr=>
 aM (bQ 2 dA.nd (cy (bA) (aT d__law_draw (hr.mono (by decide)) (aE (aG 0) (aE (aG 1) (aY))))))
 (aM (bQ 3 dA.nd (cy (bA) (aT d__law_draw (hr.mono (by decide)) (aE (aG 0) (aE (bA) (aY))))))
 (aM (bQ 4 dA.nd (dg (aY)))
 (aM (nB TL (AO nm.range (aE (aG 2) (aY))) (iV 5 dA.nd) (aW (jJ (Hq (aG 4) (aE (dM (bT (N:=["_law_pen", "_law_most", "_law_many", "_law_share", "_law_ties", "_law_one"]) (sc:=ar dz) (Nc:=["_law_other", "_law_one", "_law_pen", "_law_share"]) (cap:=[none,some 5,some 0,some 3]) rfl rfl (by decide +kernel)) (AO nm.range (aE (aG 5) (aY))) (fun _ _ _ _ _=>iV 0 mr) (fun _ _ _ _ _=>pH (cz (ym hr.units) (aT d__law_draw (hr.mono (by decide)) (aE (aG 2) (aE (aG 3) (aY)))) (bA))) (fun _ _ _ _ _=>bu (aE (aG 0) (aE (aG 1) (aY))))) (aY))))))
 (aW (bg (aT d__law_web_of (hr.mono (by decide)) (aE (aG 2) (aE (aG 4) (aY)))))))))
theorem qk(nm:Nm mg)(F:gS K "_law_near_of" "_law_near_of" ef f fd)(hm:mg "_law_near_of" = some (.ref f)):dY P w K mg base (dX K w) 1 "_law_near_of" 2 cg:=
 dt F qi rfl hm (F.b2 (by rfl) fun _ _ _ _ _ _ _ _=>by rfl) fun cdv A outer s H E hr=>
 aW (bg (dM (bT (N:=["_law_web", "_law_place"]) (sc:=ar ef) (Nc:=["_law_a", "_law_b", "_law_place"]) (cap:=[none,none,some 1]) rfl rfl (by decide +kernel)) (p9 (bP (aG 0) (bA))) (fun _ _ _ _ _=>lp (di (iV 0 jC) (di (iV 1 jC) (lq)))) (fun _ _ _ _ _=>pH (cz (vY hr.units) (aG 2) (bu (aE (aG 0) (aE (aG 1) (aY)))))) (fun _ _ _ _ _=>zI (cy (aG 0) (aG 1)) (aG 2))))
theorem pA(nm:Nm mg)(F:gS K "_law_two_step" "_law_two_step" dR f fd)(hm:mg "_law_two_step" = some (.ref f))(d__law_near_of:dY P w K mg base (dX K w) 1 "_law_near_of" 2 cg)(d__law_web_of:dY P w K mg base (dX K w) 1 "_law_web_of" 2 dB):dY P w K mg base (dX K w) 2 "_law_two_step" 1 eA:=
 dt F dU rfl hm (F.b1 (by rfl) fun _ _ _ _ _ _ _=>by rfl) fun cdv A outer s H E hr=>
 aM (bQ 1 dU.nd (bG rC nm.list (aE (bP (aG 0) (bA)) (aY))))
 (aM (nB TL (AO nm.range (aE (bP (aG 0) (bA)) (aY))) (iV 2 dU.nd) (aM (bQ 3 dU.nd (aT d__law_near_of (hr.mono (by decide)) (aE (aG 0) (aE (aG 2) (aY)))))
 (aW (nB TL (p9 (aG 3)) (iV 4 dU.nd) (aW (jJ (Hq (aG 1) (aE (dM (bT (N:=["_law_web", "_law_ties", "_law_place", "_law_near", "_law_one"]) (sc:=ar dR) (Nc:=["_law_other", "_law_one"]) (cap:=[none,some 4]) rfl rfl (by decide +kernel)) (p9 (aG 3)) (fun _ _ _ _ _=>iV 0 ng) (fun _ _ _ _ _=>pH (cz (jm (op:=.Lt) hr.units) (aG 1) (aG 0))) (fun _ _ _ _ _=>bu (aE (aG 1) (aE (aG 0) (aY))))) (aY)))))))))
 (aW (bg (aT d__law_web_of (hr.mono (by decide)) (aE (bP (aG 0) (bA)) (aE (aG 1) (aY)))))))
theorem pD(nm:Nm mg)(F:gS K "_law_bent_web" "_law_bent_web" fD f fd)(hm:mg "_law_bent_web" = some (.ref f))(d__law_draw:dY P w K mg base (dX K w) 2 "_law_draw" 2 aF):dY P w K mg base (dX K w) 3 "_law_bent_web" 2 dr:=
 dt F bC rfl hm (F.b2 (by rfl) fun _ _ _ _ _ _ _ _=>by rfl) fun cdv A outer s H E hr=>
 aM (zO (aG 1) (lp (di (iV 2 bC.nd) (di (iV 3 bC.nd) (lq)))))
 (aM (bQ 4 bC.nd (bP (dg (aE (cy (aG 2) (bA)) (aE (bA) (aE (bA) (aE (mx (bA)) (aE (oo) (aE (zD) (aE (yd) (aE (bu (aE (bA) (aY))) (aE (zJ (bA) (bA)) (aY))))))))))) (aT d__law_draw (hr.mono (by decide)) (aE (aG 0) (aE (bA) (aY))))))
 (aM (bQ 5 bC.nd (aT d__law_draw (hr.mono (by decide)) (aE (aG 0) (aE (cy (bG jq nm.len (aE (aG 3) (aY))) (bA)) (aY)))))
 (aM (bQ 6 bC.nd (bP (cy (aG 3) (bu (aE (bu (aE (bA) (aE (bA) (aY)))) (aY)))) (aG 5)))
 (aM (bQ 7 bC.nd (dg (aE (bu (aE (bP (aG 6) (bA)) (aE (bP (aG 6) (bA)) (aY)))) (aE (bG rC nm.list (aE (aG 6) (aY))) (aE (bu (aE (bP (aG 6) (bA)) (aY))) (aE (cy (aG 6) (bu (aE (bA) (aY)))) (aE (bu (aE (bP (aG 6) (bA)) (aE (aG 2) (aY)))) (aE (bu (aE (bP (aG 6) (bA)) (aE (aG 4) (aY)))) (aE (zD) (aE (bu (aE (bA) (aE (bA) (aY)))) (aY)))))))))))
 (aM (bQ 8 bC.nd (cy (cy (mI (aG 3) (eJ) (dE (aG 5))) (bu (aE (bP (aG 7) (aT d__law_draw (hr.mono (by decide)) (aE (aG 0) (aE (bA) (aY))))) (aY)))) (mI (aG 3) (dE (cy (aG 5) (bA))) (eJ))))
 (aM (bQ 9 bC.nd (dg (aE (bu (aE (aG 4) (aE (aG 3) (aY)))) (aE (bu (aE (aG 2) (aE (aG 8) (aY)))) (aE (bu (aE (aG 2) (aE (aG 8) (aY)))) (aE (bu (aE (aG 2) (aE (bG rC nm.list (aE (aG 3) (aY))) (aY)))) (aE (dg (aE (aG 2) (aE (aG 3) (aY)))) (aE (bu (aE (aG 2) (aY))) (aE (bu (aE (aG 2) (aE (aG 3) (aE (bu (aY)) (aY))))) (aY))))))))))
 (aM (bQ 9 bC.nd (cy (aG 9) (dg (aE (bu (aE (aG 2) (aE (yr (aG 3) (mx (bA))) (aY)))) (aE (bu (aE (aG 2) (aE (cy (aG 3) (mI (aG 3) (eJ) (dE (bA)))) (aY)))) (aE (zD) (aE (aG 3) (aE (Cq) (aE (bu (aE (aG 2) (aE (mI (aG 3) (dE (bA)) (eJ)) (aY)))) (aE (bu (aE (aG 2) (aE (bu (aY)) (aY)))) (aY)))))))))))
 (aW (bg (bP (aG 9) (aT d__law_draw (hr.mono (by decide)) (aE (aG 0) (aE (bA) (aY))))))))))))))
theorem pk(nm:Nm mg)(F:gS K "_law_web_like" "_law_web_like" fB f fd)(hm:mg "_law_web_like" = some (.ref f))(d__law_whole:dY P w K mg base (dX K w) 1 "_law_whole" 1 cE):dY P w K mg base (dX K w) 2 "_law_web_like" 1 dm:=
 dt F fE rfl hm (F.b1 (by rfl) fun _ _ _ _ _ _ _=>by rfl) fun cdv A outer s H E hr=>
 aM (fP (kT (jF (dH (p8 (ir (T:="tuple") (by decide) eY (by decide) (by decide) nm.isinstance nm.tuple (aG 0)))) (jF (cz (oz hr.units) (bG jq nm.len (aE (aG 0) (aY))) (bA)) (jF (dH (p8 (aT d__law_whole (hr.mono (by decide)) (aE (bP (aG 0) (bA)) (aY))))) (iX (dH (LR (jm (op:=.Lt) hr.units) (jm (op:=.Lt) hr.units) (bA) (bP (aG 0) (bA)) (bA)))))))) (aW (bg (oo))) (cR))
 (aM (fP (dH (p8 (ir (T:="tuple") (by decide) eY (by decide) (by decide) nm.isinstance nm.tuple (bP (aG 0) (bA))))) (aW (bg (oo))) (cR))
 (aM (bQ 1 fE.nd (bu (aE (mx (bA)) (aE (mx (bA)) (aY)))))
 (aM (nB TL (p9 (bP (aG 0) (bA))) (iV 2 fE.nd) (aM (fP (kT (jF (dH (p8 (ir (T:="tuple") (by decide) eY (by decide) (by decide) nm.isinstance nm.tuple (aG 2)))) (jF (cz (oz hr.units) (bG jq nm.len (aE (aG 2) (aY))) (bA)) (jF (dH (p8 (aT d__law_whole (hr.mono (by decide)) (aE (bP (aG 2) (bA)) (aY))))) (iX (dH (p8 (aT d__law_whole (hr.mono (by decide)) (aE (bP (aG 2) (bA)) (aY)))))))))) (aW (bg (oo))) (cR))
 (aM (fP (kT (jF (dH (IL (jm (op:=.LtE) hr.units) (jm (op:=.Lt) hr.units) (jm (op:=.Lt) hr.units) (bA) (bP (aG 2) (bA)) (bP (aG 2) (bA)) (bP (aG 0) (bA)))) (iX (cz (jm (op:=.LtE) hr.units) (aG 2) (aG 1))))) (aW (bg (oo))) (cR))
 (aW (bQ 1 fE.nd (aG 2))))))
 (aW (bg (oo))))))
theorem pC(nm:Nm mg)(F:gS K "_law_no_place" "_law_no_place" fC f fd)(hm:mg "_law_no_place" = some (.ref f))(d__law_draw:dY P w K mg base (dX K w) 2 "_law_draw" 2 aF):dY P w K mg base (dX K w) 3 "_law_no_place" 2 dq:=
 dt F j4 rfl hm (F.b2 (by rfl) fun _ _ _ _ _ _ _ _=>by rfl) fun cdv A outer s H E hr=>
 aM (bQ 2 j4.nd (dg (aE (aG 1) (aE (cy (cy (aG 1) (bA)) (aT d__law_draw (hr.mono (by decide)) (aE (aG 0) (aE (zJ (bA) (bA)) (aY))))) (aE (mx (bA)) (aE (oo) (aE (oo) (aE (zD) (aE (yd) (aE (bu (aE (bA) (aY))) (aE (dg (aE (bA) (aY))) (aE (Cq) (aY)))))))))))))
 (aW (bg (bP (aG 2) (aT d__law_draw (hr.mono (by decide)) (aE (aG 0) (aE (bA) (aY)))))))
theorem nc(nm:Nm mg)(F:gS K "_law_tuples_are" "_law_tuples_are" de f fd)(hm:mg "_law_tuples_are" = some (.ref f))(d__law_whole:dY P w K mg base (dX K w) 1 "_law_whole" 1 cE):dY P w K mg base (dX K w) 2 "_law_tuples_are" 2 bF:=
 dt F m8 rfl hm (F.b2 (by rfl) fun _ _ _ _ _ _ _ _=>by rfl) fun cdv A outer s H E hr=>
 aM (fP (kT (jF (dH (p8 (ir (T:="tuple") (by decide) eY (by decide) (by decide) nm.isinstance nm.tuple (aG 0)))) (iX (cz (oz hr.units) (aG 0) (aG 1))))) (aW (bg (oo))) (cR))
 (aW (bg (bG rh nm.all (aE (dM (bT (N:=["_law_found", "_law_due"]) (sc:=ar de) (Nc:=["_law_one"]) (cap:=[none]) rfl rfl (by decide +kernel)) (p9 (aG 0)) (fun _ _ _ _ _=>iV 0 lU) (fun _ _ _ _ _=>iq) (fun _ _ _ _ _=>lj (ir (T:="tuple") (by decide) eY (by decide) (by decide) nm.isinstance nm.tuple (aG 0)) (nz (bG rh nm.all (aE (dM (Hf (N:=["_law_one"]) (Nc:=["_law_number"]) (cap:=[none]) rfl rfl (by decide +kernel)) (p9 (aG 0)) (fun _ _ _ _ _=>iV 0 lT) (fun _ _ _ _ _=>iq) (fun _ _ _ _ _=>aT d__law_whole (hr.mono (by decide)) (aE (aG 0) (aY)))) (aY)))))) (aY)))))
theorem vF(nm:Nm mg)(F:gS K "_law_told" "_law_told" iO f fd)(hm:mg "_law_told" = some (.ref f)){a_RootError:Addr}(m_RootError:mg "RootError" = some (.ref a_RootError))(kn_RootError:wC K "RootError" a_RootError ["NoPlace", "NoRoot"])(d_steps_from:jH P w K mg base 6 "steps_from" 3 bt)(d_show_good:jH P w K mg base 10 "show_good" 3 dw)(d_first_show:jH P w K mg base 10 "first_show" 2 dy)(d__law_kind_of:Fd P w K mg base (dX K w) 1 "_law_kind_of" 1 dc):dY P w K mg base (dX K w) 11 "_law_told" 4 br:=
 dt F nX rfl hm (F.binds fun _ _ _ _ _ _ us hl=>match us,hl with | [_,_,_,_],_=>rfl) fun cdv A outer s H E hr=>
 aW (LM uT nX.nd kn_RootError m_RootError (fun pins E=>aM (fP (cz (ym hr.units) (aG 0) (bA)) (aW (bg (gD d_steps_from (CF uT) (hr.mono (by decide)) (aE (aG 1) (aE (aG 2) (aE (aG 3) (aY))))))) (cR))
 (aM (fP (cz (ym hr.units) (aG 0) (bA)) (aW (bg (gD d_show_good (CF uT) (hr.mono (by decide)) (aE (aG 1) (aE (aG 2) (aE (aG 3) (aY))))))) (cR))
 (aW (bg (gD d_first_show (CF uT) (hr.mono (by decide)) (aE (aG 1) (aE (aG 2) (aY)))))))) (fun ea=>aW (bg (Fo d__law_kind_of ((hr.h.mark _).mono (by decide)) (aE (aG 4) (aY))))))
theorem pB(nm:Nm mg)(F:gS K "_law_steps_of" "_law_steps_of" dS f fd)(hm:mg "_law_steps_of" = some (.ref f))(d__law_near_of:dY P w K mg base (dX K w) 1 "_law_near_of" 2 cg):dY P w K mg base (dX K w) 2 "_law_steps_of" 3 bS:=
 dt F j3 rfl hm (F.b3 (by rfl) fun _ _ _ _ _ _ _ _ _=>by rfl) fun cdv A outer s H E hr=>
 aM (fP (cz (ym hr.units) (aG 1) (aG 2)) (aW (bg (dg (aY)))) (cR))
 (aM (rk 3 j3.nd (bT (N:=["_law_web", "_law_one", "_law_other", "_law_found"]) (sc:=ar dS) (Nc:=["_law_place", "_law_one", "_law_other", "_law_web"]) (cap:=[none,some 1,some 2,some 0]) rfl rfl (by decide +kernel)) (p9 (aT d__law_near_of (hr.mono (by decide)) (aE (aG 0) (aE (aG 1) (aY))))) (fun _ _ _ _ _=>iV 0 nh) (fun _ _ _ _ _=>pH (cz (vY hr.units) (aG 2) (aT d__law_near_of (hr.mono (by decide)) (aE (aG 3) (aE (aG 0) (aY)))))) (fun _ _ _ _ _=>bu (aE (aG 1) (aE (aG 0) (aE (aG 2) (aY))))))
 (aM (fP (cz (vY hr.units) (aG 2) (aT d__law_near_of (hr.mono (by decide)) (aE (aG 0) (aE (aG 1) (aY))))) (aW (jJ (Cr (aG 3) (aE (bu (aE (aG 1) (aE (aG 2) (aY)))) (aY))))) (cR))
 (aW (bg (bG mj nm.sorted (aE (aG 3) (aY)))))))
theorem qo(nm:Nm mg)(F:gS K "_law_is_show" "_law_is_show" eu f fd)(hm:mg "_law_is_show" = some (.ref f))(d__law_whole:dY P w K mg base (dX K w) 1 "_law_whole" 1 cE)(d__law_steps_of:dY P w K mg base (dX K w) 2 "_law_steps_of" 3 bS):dY P w K mg base (dX K w) 3 "_law_is_show" 3 ff:=
 dt F iE rfl hm (F.b3 (by rfl) fun _ _ _ _ _ _ _ _ _=>by rfl) fun cdv A outer s H E hr=>
 aM (fP (kT (jF (dH (p8 (ir (T:="tuple") (by decide) eY (by decide) (by decide) nm.isinstance nm.tuple (aG 2)))) (iX (cz (oz hr.units) (bG jq nm.len (aE (aG 2) (aY))) (bG jq nm.len (aE (bP (aG 0) (bA)) (aY))))))) (aW (bg (oo))) (cR))
 (aM (nB TL (HL nm.zip (aE (bP (aG 0) (bA)) (aE (aG 2) (aY)))) (lp (di (iV 3 iE.nd) (di (iV 4 iE.nd) (lq)))) (aM (fP (kT (jF (dH (p8 (ir (T:="tuple") (by decide) eY (by decide) (by decide) nm.isinstance nm.tuple (aG 4)))) (iX (dH (p8 (bG rh nm.all (aE (dM (bT (N:=["_law_web", "_law_other", "_law_thing", "_law_tie", "_law_step"]) (sc:=ar eu) (Nc:=["_law_one"]) (cap:=[none]) rfl rfl (by decide +kernel)) (p9 (aG 4)) (fun _ _ _ _ _=>iV 0 oj) (fun _ _ _ _ _=>iq) (fun _ _ _ _ _=>aT d__law_whole (hr.mono (by decide)) (aE (aG 0) (aY)))) (aY)))))))) (aW (bg (oo))) (cR))
 (aW (fP (cz (CK hr.units) (aG 4) (aT d__law_steps_of (hr.mono (by decide)) (aE (aG 1) (aE (bP (aG 3) (bA)) (aE (bP (aG 3) (bA)) (aY)))))) (aW (bg (oo))) (cR)))))
 (aW (bg (oo))))
theorem qq(nm:Nm mg)(F:gS K "_law_bent_of" "_law_bent_of" fY f fd)(hm:mg "_law_bent_of" = some (.ref f))(d__law_draw:dY P w K mg base (dX K w) 2 "_law_draw" 2 aF):dY P w K mg base (dX K w) 3 "_law_bent_of" 3 cH:=
 dt F cq rfl hm (F.b3 (by rfl) fun _ _ _ _ _ _ _ _ _=>by rfl) fun cdv A outer s H E hr=>
 aM (fP (cz (Mv hr.units) (aG 1) (bu (aY))) (aW (bg (bP (dg (aE (bu (aY)) (aE (bu (aE (bu (aE (bA) (aE (bA) (aY)))) (aY))) (aE (zD) (aE (dg (aY)) (aE (bu (aE (bu (aY)) (aY))) (aE (Cq) (aY)))))))) (aT d__law_draw (hr.mono (by decide)) (aE (aG 0) (aE (bA) (aY))))))) (cR))
 (aM (bQ 3 cq.nd (aT d__law_draw (hr.mono (by decide)) (aE (aG 0) (aE (bG jq nm.len (aE (aG 1) (aY))) (aY)))))
 (aM (bQ 4 cq.nd (bP (aG 1) (aG 3)))
 (aM (bQ 5 cq.nd (bP (dg (aE (aG 2) (aE (mx (bA)) (aE (oo) (aE (zD) (aE (yd) (aE (bu (aE (bA) (aY))) (aE (zJ (bA) (bA)) (aE (aT d__law_draw (hr.mono (by decide)) (aE (aG 0) (aE (aG 2) (aY)))) (aY)))))))))) (aT d__law_draw (hr.mono (by decide)) (aE (aG 0) (aE (bA) (aY))))))
 (aM (bQ 6 cq.nd (aT d__law_draw (hr.mono (by decide)) (aE (aG 0) (aE (bG jq nm.len (aE (aG 4) (aY))) (aY)))))
 (aM (bQ 7 cq.nd (dg (aE (yr (aG 4) (mx (bA))) (aE (cy (cy (mI (aG 4) (eJ) (dE (bA))) (bu (aE (aG 5) (aY)))) (mI (aG 4) (dE (mx (bA))) (eJ))) (aE (cy (cy (mI (aG 4) (eJ) (dE (aG 6))) (bu (aE (aG 5) (aY)))) (mI (aG 4) (dE (cy (aG 6) (bA))) (eJ))) (aE (bG rC nm.list (aE (aG 4) (aY))) (aE (cy (aG 4) (bu (aE (bA) (aY)))) (aY))))))))
 (aM (bQ 7 cq.nd (bP (cy (aG 7) (dg (aE (bu (aY)) (aE (zD) (aE (bA) (aE (bu (aE (aG 4) (aY))) (aE (cy (mI (aG 4) (eJ) (dE (bA))) (mI (aG 4) (dE (mx (bA))) (eJ))) (aY)))))))) (aT d__law_draw (hr.mono (by decide)) (aE (aG 0) (aE (bA) (aY))))))
 (aM (bQ 8 cq.nd (cy (zK (dg (aE (cy (cy (mI (aG 1) (eJ) (dE (aG 3))) (bu (aE (aG 7) (aY)))) (mI (aG 1) (dE (cy (aG 3) (bA))) (eJ))) (aY))) (bA)) (dg (aE (mI (aG 1) (dE (bA)) (eJ)) (aE (cy (aG 1) (mI (aG 1) (eJ) (dE (bA)))) (aE (bG rC nm.list (aE (aG 1) (aY))) (aE (bu (aE (aG 1) (aY))) (aE (yr (aG 1) (mx (bA))) (aY)))))))))
 (aW (bg (bP (aG 8) (aT d__law_draw (hr.mono (by decide)) (aE (aG 0) (aE (bA) (aY))))))))))))))
theorem tH(nm:Nm mg)(F:gS K "_law_right" "_law_right" cT f fd)(hm:mg "_law_right" = some (.ref f))(d__law_steps_of:dY P w K mg base (dX K w) 2 "_law_steps_of" 3 bS)(d__law_told:dY P w K mg base (dX K w) 11 "_law_told" 4 br)(d__law_tuples_are:dY P w K mg base (dX K w) 2 "_law_tuples_are" 2 bF)(d__law_draw:dY P w K mg base (dX K w) 2 "_law_draw" 2 aF)(d__law_bent_of:dY P w K mg base (dX K w) 3 "_law_bent_of" 3 cH)(d__law_is_show:dY P w K mg base (dX K w) 3 "_law_is_show" 3 ff):dY P w K mg base (dX K w) 12 "_law_right" 3 cF:=
 dt F cG rfl hm (F.b3 (by rfl) fun _ _ _ _ _ _ _ _ _=>by rfl) fun cdv A outer s H E hr=>
 aM (rk 3 cG.nd (bT (N:=["_law_pen", "_law_web", "_law_other", "_law_steps", "_law_due", "_law_first", "_law_show", "_law_thing", "_law_held", "_law_found"]) (sc:=ar cT) (Nc:=["_law_a", "_law_b", "_law_other"]) (cap:=[none,none,some 2]) rfl rfl (by decide +kernel)) (p9 (bP (aG 1) (bA))) (fun _ _ _ _ _=>lp (di (iV 0 kI) (di (iV 1 kI) (lq)))) (fun _ _ _ _ _=>iq) (fun _ _ _ _ _=>aT d__law_steps_of (hr.mono (by decide)) (aE (aG 2) (aE (aG 0) (aE (aG 1) (aY))))))
 (aM (bQ 4 cG.nd (zD))
 (aM (fP (cz (CK hr.units) (dg (aY)) (aG 3)) (aW (bQ 4 cG.nd (bG jw nm.tuple (aE (dM (bT (N:=["_law_pen", "_law_web", "_law_other", "_law_steps", "_law_due", "_law_first", "_law_show", "_law_thing", "_law_held", "_law_found"]) (sc:=ar cT) (Nc:=["_law_some"]) (cap:=[none]) rfl rfl (by decide +kernel)) (p9 (aG 3)) (fun _ _ _ _ _=>iV 0 qx) (fun _ _ _ _ _=>iq) (fun _ _ _ _ _=>bP (aG 0) (bA))) (aY))))) (cR))
 (aM (bQ 5 cG.nd (aT d__law_told (hr.mono (by decide)) (aE (bA) (aE (aG 1) (aE (aG 2) (aE (zD) (aY)))))))
 (aM (fP (kT (jF (kT (Cv (cz (Mu) (aG 4) (zD)) (yu (cz (De) (aG 5) (zD))))) (iX (kT (Cv (cz (De) (aG 4) (zD)) (yu (dH (p8 (aT d__law_tuples_are (hr.mono (by decide)) (aE (aG 5) (aE (aG 4) (aY)))))))))))) (aW (bg (oo))) (cR))
 (aM (bQ 6 cG.nd (bG jw nm.tuple (aE (dM (bT (N:=["_law_pen", "_law_web", "_law_other", "_law_steps", "_law_due", "_law_first", "_law_show", "_law_thing", "_law_held", "_law_found"]) (sc:=ar cT) (Nc:=["_law_some", "_law_pen"]) (cap:=[none,some 0]) rfl rfl (by decide +kernel)) (p9 (aG 3)) (fun _ _ _ _ _=>iV 0 qw) (fun _ _ _ _ _=>iq) (fun _ _ _ _ _=>bP (cy (aG 0) (dg (aE (bu (aE (bA) (aE (bA) (aY)))) (aY)))) (aT d__law_draw (hr.mono (by decide)) (aE (aG 1) (aE (bG CO nm.max (aE (bA) (aE (bG jq nm.len (aE (aG 0) (aY))) (aY)))) (aY)))))) (aY))))
 (aM (nB TL (p9 (cy (dg (aE (aG 6) (aE (aG 4) (aY)))) (dM (bT (N:=["_law_pen", "_law_web", "_law_other", "_law_steps", "_law_due", "_law_first", "_law_show", "_law_thing", "_law_held", "_law_found"]) (sc:=ar cT) (Nc:=["_law_turn", "_law_pen", "_law_show", "_law_web"]) (cap:=[none,some 0,some 6,some 1]) rfl rfl (by decide +kernel)) (AO nm.range (aE (bA) (aY))) (fun _ _ _ _ _=>iV 0 qv) (fun _ _ _ _ _=>iq) (fun _ _ _ _ _=>aT d__law_bent_of (hr.mono (by decide)) (aE (aG 1) (aE (aG 2) (aE (bP (aG 3) (bA)) (aY)))))))) (iV 7 cG.nd) (aM (bQ 8 cG.nd (bG (AD hr) nm.repr (aE (aG 7) (aY))))
 (aM (bQ 9 cG.nd (aT d__law_told (hr.mono (by decide)) (aE (bA) (aE (aG 1) (aE (aG 2) (aE (aG 7) (aY)))))))
 (aW (fP (kT (jF (dH (p8 (ir (T:="bool") (by decide) vp (by decide) (by decide) nm.isinstance nm.bool (aG 9)))) (jF (cz (oz hr.units) (aG 9) (aT d__law_is_show (hr.mono (by decide)) (aE (aG 1) (aE (aG 2) (aE (aG 7) (aY)))))) (iX (cz (Mt) (bG (AD hr) nm.repr (aE (aG 7) (aY))) (aG 8)))))) (aW (bg (oo))) (cR))))))
 (aW (bg (oo)))))))))
theorem KU(nm:Nm mg)(F:gS K "law" "law" jI f fd)(d__law_cell_at:dY P w K mg base (dX K w) 1 "_law_cell_at" 2 fg)(d__law_pen_of:dY P w K mg base (dX K w) 1 "_law_pen_of" 1 fV)(d__law_drawn_web:dY P w K mg base (dX K w) 3 "_law_drawn_web" 2 dW)(d__law_two_step:dY P w K mg base (dX K w) 2 "_law_two_step" 1 eA)(d__law_draw:dY P w K mg base (dX K w) 2 "_law_draw" 2 aF)(d__law_right:dY P w K mg base (dX K w) 12 "_law_right" 3 cF)(d__law_told:dY P w K mg base (dX K w) 11 "_law_told" 4 br)(d__law_steps_of:dY P w K mg base (dX K w) 2 "_law_steps_of" 3 bS)(d__law_tuples_are:dY P w K mg base (dX K w) 2 "_law_tuples_are" 2 bF)(d__law_no_place:dY P w K mg base (dX K w) 3 "_law_no_place" 2 dq)(d__law_bent_web:dY P w K mg base (dX K w) 3 "_law_bent_web" 2 dr)(d__law_web_like:dY P w K mg base (dX K w) 2 "_law_web_like" 1 dm):qR P w K mg base yi 13 f fd ["_law_script"] (EN (dX K w) 1 wG):=
 MH F iA rfl fun cdv A outer s H E hr=>
 aM (nB TL (p9 (cy (dg (aE (aT d__law_cell_at (hr.mono (by decide)) (aE (aG 0) (aE (bA) (aY)))) (aY))) (mI (aG 0) (dE (bA)) (dE (bA))))) (iV 1 iA.nd) (aM (bQ 2 iA.nd (aT d__law_pen_of (hr.mono (by decide)) (aE (aG 1) (aY))))
 (aM (bQ 3 iA.nd (aT d__law_drawn_web (hr.mono (by decide)) (aE (aG 2) (aE (bA) (aY)))))
 (aM (bQ 4 iA.nd (aT d__law_two_step (hr.mono (by decide)) (aE (aG 3) (aY))))
 (aM (bQ 5 iA.nd (bu (aE (bP (aG 4) (bA)) (aE (bG jw nm.tuple (aE (dM (bT (N:=["_law_script", "_law_cell", "_law_pen", "_law_other", "_law_web", "_law_fewer", "_law_one", "_law_far", "_law_found", "_law_steps", "_law_odd", "_law_bent"]) (sc:=ar jI) (Nc:=["_law_tie", "_law_pen"]) (cap:=[none,some 2]) rfl rfl (by decide +kernel)) (p9 (bP (aG 3) (bA))) (fun _ _ _ _ _=>iV 0 Eg) (fun _ _ _ _ _=>pH (cz (jm (op:=.Gt) hr.units) (aT d__law_draw (hr.mono (by decide)) (aE (aG 1) (aE (bA) (aY)))) (bA))) (fun _ _ _ _ _=>aG 0)) (aY))) (aY)))))
 (aM (fP (kT (jF (dH (p8 (aT d__law_right (hr.mono (by decide)) (aE (aG 2) (aE (aG 4) (aE (aG 3) (aY))))))) (jF (dH (p8 (aT d__law_right (hr.mono (by decide)) (aE (aG 2) (aE (aG 4) (aE (aG 5) (aY))))))) (iX (dH (p8 (aT d__law_right (hr.mono (by decide)) (aE (aG 2) (aE (aG 5) (aE (aG 3) (aY))))))))))) (aW (bg (oo))) (cR))
 (aM (nB TL (AO nm.range (aE (bP (aG 4) (bA)) (aY))) (iV 6 iA.nd) (aW (nB TL (AO nm.range (aE (bP (aG 4) (bA)) (aY))) (iV 7 iA.nd) (aM (bQ 8 iA.nd (aT d__law_told (hr.mono (by decide)) (aE (bA) (aE (aG 3) (aE (aG 6) (aE (aG 7) (aY)))))))
 (aM (bQ 9 iA.nd (bG jw nm.tuple (aE (aT d__law_steps_of (hr.mono (by decide)) (aE (aG 3) (aE (aG 6) (aE (aG 7) (aY))))) (aY))))
 (aM (fP (kT (jF (dH (p8 (ir (T:="list") (by decide) Hh (by decide) (by decide) nm.isinstance nm.list (aG 8)))) (iX (dH (p8 (aT d__law_tuples_are (hr.mono (by decide)) (aE (bG jw nm.tuple (aE (aG 8) (aY))) (aE (aG 9) (aY))))))))) (aW (bg (oo))) (cR))
 (aW (jJ (Cr (aG 8) (aE (zD) (aY)))))))))))
 (aM (bQ 10 iA.nd (aT d__law_no_place (hr.mono (by decide)) (aE (aG 2) (aE (bP (aG 4) (bA)) (aY)))))
 (aM (fP (cz (oz hr.units) (dM (bT (N:=["_law_script", "_law_cell", "_law_pen", "_law_other", "_law_web", "_law_fewer", "_law_one", "_law_far", "_law_found", "_law_steps", "_law_odd", "_law_bent"]) (sc:=ar jI) (Nc:=["_law_one", "_law_far", "_law_other"]) (cap:=[none,none,some 3]) rfl rfl (by decide +kernel)) (p9 (dg (aE (bu (aE (aG 10) (aE (bA) (aY)))) (aE (bu (aE (bA) (aE (aG 10) (aY)))) (aE (bu (aE (aG 10) (aE (aG 10) (aY)))) (aY)))))) (fun _ _ _ _ _=>lp (di (iV 0 xl) (di (iV 1 xl) (lq)))) (fun _ _ _ _ _=>iq) (fun _ _ _ _ _=>aT d__law_told (hr.mono (by decide)) (aE (bA) (aE (aG 2) (aE (aG 0) (aE (aG 1) (aY))))))) (zK (dg (aE (yd) (aY))) (bA))) (aW (bg (oo))) (cR))
 (aM (bQ 11 iA.nd (aT d__law_bent_web (hr.mono (by decide)) (aE (aG 2) (aE (aG 3) (aY)))))
 (aW (fP (kT (jF (dH (p8 (aT d__law_web_like (hr.mono (by decide)) (aE (aG 11) (aY))))) (iX (cz (oz hr.units) (bP (aG 11) (bA)) (bP (aG 4) (bA)))))) (aW (fP (cz (oz hr.units) (dM (bT (N:=["_law_script", "_law_cell", "_law_pen", "_law_other", "_law_web", "_law_fewer", "_law_one", "_law_far", "_law_found", "_law_steps", "_law_odd", "_law_bent"]) (sc:=ar jI) (Nc:=["_law_way", "_law_web", "_law_bent"]) (cap:=[none,some 4,some 11]) rfl rfl (by decide +kernel)) (p9 (bu (aE (bA) (aE (bA) (aY))))) (fun _ _ _ _ _=>iV 0 Ef) (fun _ _ _ _ _=>iq) (fun _ _ _ _ _=>aT d__law_told (hr.mono (by decide)) (aE (aG 0) (aE (aG 1) (aE (aG 2) (aE (bu (aY)) (aY))))))) (dg (aE (yd) (aE (yd) (aY))))) (aW (bg (oo))) (cR))) (cR)))))))))))))
 (aW (bg (oo)))
end
end Lw
namespace Lv
variable{adj:Int->Int->Prop}{p:Int}
def R(adj:Int->Int->Prop)(p:Int):Nat->Int->Prop
 |0,q=>q=p
 |n+1,q=>R adj p n q\/∃r,adj r q/\R adj p n r
end Lv
namespace Lw
open PySem L2 RS
theorem bZ:1000<=sizeLine:=by decide
theorem z6(s:Int):∃r:Int,gn [.int s] Y=.ok (.int r) Y:=by
 have h0:0<=(s+7919)%2147483647:=TM _ (by decide);have h1:(s+7919)%2147483647<2147483647:=TN _ (by decide);generalize ht:(s+7919)%2147483647=t at h0 h1;refine⟨(t*t+48271*t+12345)%2147483629,?_⟩;have c1:wd t t:=.inl ⟨by omega,by omega⟩;have c2:wd 48271 t:=.inl ⟨by omega,by omega⟩;unfold gn;rw[i0];simp[p7,ht,c1,c2];exact aR (by simp)
def cu(a b c:Int):O:=.lst [.int a,.int b,.int c]
theorem vf{a b c:Int}:(cu a b c).low n:=by simp[cu,O.low]
theorem I0(x:Int):∃a b c:Int,fV [.int x] Y=.ok (.obj Y.length) (Y++[cu a b c]):=by
 have e:∀i j:Int,tf [.int i,.int j] Y=.ok (.int (if j>i then j else i)) Y:=fun _ _=>rfl;have p1:yp 10 18:=⟨by decide,by decide,by decide⟩;have ib:∀k:Bool,∀Y,wz [.bl k] Y=.ok (.int (if k then 1 else 0)) Y:=fun _ _=>rfl;refine⟨(if 0-x>x then 0-x else x),(if fq .GtE (if 0-x>x then 0-x else x) (10^(18:Int).toNat) then 1 else 0),(if 0-x>x then 0-x else x)%1000003,?_⟩;unfold fV;rw[i0];have l3:(3:Nat)<=sizeLine:=by decide
 simp only[mG,aO,bc,aB,aq,aw,aj,ak,aL,bf,aa,ae,af,HQ,e,bO,aI,bo,cN,List.set,List.replicate,TQ,TR];have pw:sZ (.int 10) (.int 18) Y=.ok (.int (10^(18:Int).toNat)) Y:=mP p1;have md:∀x,vZ (.int x) (.int 1000003) Y=.ok (.int (x%1000003)) Y:=fun x=>mP (show (0:Int)<1000003 by decide);simp only[pw,md,aa,ae,lZ,ib,QV,Rh,OS l3,af,ba];rw[pK (by simp)];rfl
theorem FN{a b c:Int}(hp:Y[i]?=some (cu a b c))(h0:0<m)(h1:m<1073741824):
  ∃r a' b' c':Int,0<=r/\r<m/\aF [.obj i,.int m] Y=.ok (.int r) (Y.set i (cu a' b' c')):=by
 have hi:i<Y.length:=(O9.mp hp).1;have hp':Y[i]?=some (.lst [.int a,.int b,.int c]):=hp;have md:∀{x:Int}{Y:au},vZ (.int x) (.int m) Y=.ok (.int (x%m)) Y:=fun {x Y}=>mP (show (fun _ j=>(0:Int)<j) x m from h0);have fd:∀{x:Int}{Y:au},wA (.int x) (.int m) Y=.ok (.int (x / m)) Y:=fun {x Y}=>mP (show Fe x m from⟨h0,by omega⟩);have f64:∀{x:Int}{Y:au},wA (.int x) (.int 64) Y=.ok (.int (x / 64)) Y:=fun {x Y}=>mP (show Fe x 64 from⟨by decide,by decide⟩);unfold aF;rw[dj];by_cases hb:b=1
 ·subst hb;refine⟨a%m,a / m,1,c,TM _ (by omega),TN _ h0,?_⟩;simp only[lK,aO,bK,cJ,aL,aj,ak,bf,aa,ae];rw[eV hp' rj];simp only[aa,ae,f9,QT,Qm,bw,af,aO,bc,aL,aj,ak,bf];simp only[QU,Ql,Qm,aO,bc,aL,aj,ak,bf,aa,ae];rw[eV hp' pN];simp only[aa,ae,md,af,bO,aI,List.replicate,TQ,TR,aj,ak,bf,aL,bc,aO];rw[eV hp' pN];simp only[aa,ae,fd,af,Ay,aj,ak,bf];rw[Aw hp' (Df (by decide) (by simp))];simp only[aa,ae,af,aI,bo,aj,ak,fM,ba];exact As (by simp only[GL]) (vf (a:=a / m) (b:=1) (c:=c))
 ·obtain ⟨s1, e1⟩ := z6 (Y := Y) c;obtain⟨s2,e2⟩:=z6 (Y:=Y) (s1+7);refine⟨s2 / 64%m,a,b,s2,TM _ (by omega),TN _ h0,?_⟩;have hb':(b == 1)=false:=by simpa using hb
  simp only[lK,aO,bK,cJ,aL,aj,ak,bf,aa,ae];rw[eV hp' rj];simp only[aa,ae,f9,hb',bw,af,QU,Ql,bI,aI,aO,bc,aB,aq,aw,aL,aj,ak,bf];rw[eV hp' HV];simp only[aa,ae,e1,ic,e2,af,Ay,aj,ak,bf];rw[Aw hp' (Df (by decide) (by simp))];have hg:(Y.set i (.lst ([D.int a,D.int b,D.int c].set (2:Int).toNat (.int s2))))[i]?=some (.lst [D.int a,D.int b,D.int s2]):=by rw[Pc hi];rfl
  simp only[aa,ae,af,aI,bo,aL,aj,ak,bf];rw[eV hg HV];simp only[aa,ae,f64,md,af,ba];exact As (by simp) (vf (a:=a) (b:=b) (c:=s2))
theorem aD{g:au}{o:O}(h:Y[i]?=some o):(Y++g)[i]?=some o:=by
 rw[PZ (O9.mp h).1];exact h
theorem va{g:au}{o:O}(h:i<Y.length):(Y++g).set i o=Y.set i o++g:=by
 rw[TU _ _ h]
theorem qI{o:O}(h:i<Y.length):(Y.set i o)[i]?=some o:=Pc h
def Cf(m:Int)(k:List Int):Prop:=∃a b:Int,k=[a,b]/\0<=a/\a<b/\b<m
theorem Cf.prs(h:Cf m k)(hm:m<=6):k∈prs:=by
 obtain⟨a,b,rfl,h1,h2,h3⟩:=h;exact Ag h1 h2 (by omega)
def wD(d:D)(m:Int)(ks:List (List Int)):Prop:=d=.tup [.int m,.tup (ks.map aK)]/\1<=m/\m<=6/\(ks.Pairwise fun a b=>qc a<qc b)/\∀k∈ks,Cf m k
theorem xM(h0:1<=m)(h1:m<=6)(hk:∀k∈ks,Cf m k):wD (.tup [.int m,.tup ((jl ks).map aK)]) m (jl ks):=by
 refine⟨rfl,h0,h1,sm.filter _,fun k h=>?_⟩;unfold jl at h;rw[OY,Td]at h;exact hk k h.2
theorem d9(h:wD d m ks):ks.length<=15:=by
 obtain⟨_,_,hm,hp,hk⟩:=h;have hn:ks.Nodup:=hp.imp fun h e=>by subst e;omega
 have hs:ks ⊆ prs:=fun k h=>(hk k h).prs hm;have:=hn.length_le_of_subset hs;rw[Ah]at this;exact this
def ml(p:Int×Int):D:=.tup [.int p.1,.int p.2]
theorem l2:(2:Nat)<=sizeLine:=by decide
theorem OH{u v:Int}:AQ [.tup [.int u,.int v]] Y=.ok (.int (min u v)) Y:=rfl
theorem OI{u v:Int}:tf [.tup [.int u,.int v]] Y=.ok (.int (max u v)) Y:=rfl
theorem rT(h:wD d m ks):d.low n:=by
 obtain⟨rfl,_⟩:=h;simp
 exact i8.mpr fun x hx=>by
  obtain⟨k,_,rfl⟩:=Rq.mp hx;simp[aK];exact i8.mpr (by simp)
theorem oN{lo:Int}:d0 lo (n+1)=.int lo::d0 (lo+1) n:=by
 unfold d0;rw[Rc,QC,Re];congr 1
 ·simp
 ·apply Rf;intro i _;simp only[TV];congr 1;omega
theorem ub{lo:Int}:d0 lo 0=[]:=rfl
theorem DU{lo:Int}(h:d0 lo n=[]):n=0:=by
 cases n with
 |zero=>rfl
 |succ n=>rw[oN]at h;cases h
theorem l1:(1:Nat)<=sizeLine:=by decide
end Lw
namespace Lw
open PySem L2 RS Lv
def Il(ks:List (List Int)):List (Int×Int):=ks.flatMap fun k=>match k with
 |[u,v]=>[(u,v),(v,u)]
 |_=>[]
def Ii(ks:List (List Int))(a b:Int):Prop:=(a,b)∈Il ks
section
variable{m a:Nat}{web:D}{M p u v q r:Int}{T:Int->Int->Option Nat}{f:Int->Option Nat}
theorem Hb(hk:∀k∈ks,Cf m k){x y:Int}(h:Ii ks x y):(0<=x/\x<m)/\(0<=y/\y<m):=by
 unfold Ii Il at h;obtain⟨k,hk',hm⟩:=TX.mp h;obtain⟨u,v,rfl,u0,uv,v1⟩:=hk k hk';simp at hm;omega
end
theorem rQ{Y:au}:∀fs:List Int,iu Y (fs.map D.int)=some (fs.map PyData.int)
 |[]=>rfl
 |x::fs=>by simp only[QC,iu,rQ fs];rfl
theorem lB:∀fs:List Int,PyData.canLayAll0 (fs.map PyData.int)=true/\PyData.depthAll (fs.map PyData.int)=0
 |[]=>by simp[PyData.canLayAll0,PyData.depthAll]
 |x::fs=>by
  have:=lB fs;simp only[QC,PyData.canLayAll0,PyData.depthAll,PyData.canLay0,PyData.depth,this.1,this.2];exact⟨rfl,rfl⟩
theorem qG{F:Nat}{fs:List Int}{a:Int}(h:Y[F]?=some (.lst (fs.map D.int))):oq false (.int a) (.obj F) Y=.ok (.bl (decide (a∈fs))) Y:=by
 have e1:mw Y (.int a)=some (.int a):=rfl
 have e2:mw Y (.obj F)=some (.list (fs.map PyData.int)):=by
  unfold mw;dsimp only;rw[h];dsimp only;rw[rQ];rfl
 have f1:eS (.int a)=true:=rfl
 have f2:eS (.list (fs.map PyData.int))=true:=by
  have:=lB fs;simp only[eS,PyData.canLay0,this.1,PyData.depth,this.2,Tw];rfl
 unfold oq;rw[e1,e2];dsimp only[rn];rw[OS ⟨f1,f2⟩];simp only[QU,Ql];congr 2;rw[List.any_map];apply PB.mpr;rw[TY,Td];constructor
 ·rintro ⟨x, hx, e⟩
  have:x=a:=by simpa[PyData.eqv] using e
  subst this;exact hx
 ·intro hx;exact⟨a,hx,by simp[PyData.eqv]⟩
theorem ig(hk:∀k∈ks,Cf m k){a b:Int}:Ii ks a b↔([a,b]∈ks\/[b,a]∈ks):=by
 unfold Ii Il;rw[TX];constructor
 ·rintro ⟨k, hk', hm⟩
  obtain⟨u,v,rfl,_⟩:=hk k hk';simp at hm;rcases hm with⟨rfl,rfl⟩|⟨rfl,rfl⟩
  ·exact .inl hk'
  ·exact .inr hk'
 ·rintro (h | h)
  ·exact⟨_,h,by simp⟩
  ·exact⟨_,h,by simp⟩
theorem oU{m:Int}{t e:List Int->Int}:∀{ks:List (List Int)},(∀k∈ks,Cf m k)->∀(P:Int->Bool),∃l:List Int,
  ((ks.map aK).filter (fun d=>match d with | .tup [.int a,.int b]=>P (t [a,b])|_=>false)).map (fun d=>match d with | .tup [.int a,.int b]=>.int (e [a,b])|_=>.non)=l.map D.int/\l.length<=ks.length/\∀x,x∈l↔∃k∈ks,P (t k)=true/\x=e k
 |[],_,P=>⟨[],rfl,Pv _,by simp⟩
 |k::ks,h,P=>by
  obtain⟨l,e1,e2,e3⟩:=oU (t:=t) (e:=e) (ks:=ks) (fun x hx=>h x (O4 _ hx)) P;obtain⟨a,b,rfl,_⟩:=h k O3;rw[QC,Ts];show ∃l:List Int,List.map _ (if P (t [a,b])=true then _ else _)=_/\_;by_cases c:P (t [a,b])=true
  ·rw [OS c, QC, e1];refine⟨e [a,b]::l,rfl,by simp;omega,fun x=>?_⟩;simp only[O5,e3];constructor
   ·rintro (rfl | ⟨k, hk, z⟩)
    ·exact⟨[a,b],.inl rfl,c,rfl⟩
    ·exact⟨k,.inr hk,z⟩
   ·rintro ⟨k, rfl | hk, z1, z2⟩
    ·exact .inl z2
    ·exact .inr ⟨k,hk,z1,z2⟩
  ·rw [OT c, e1];refine⟨l,rfl,by simp;omega,fun x=>?_⟩;simp only[O5,e3];constructor
   ·rintro⟨k,hk,z⟩;exact⟨k,.inr hk,z⟩
   ·rintro ⟨k, rfl | hk, z1, z2⟩
    ·exact absurd z1 c
    ·exact⟨k,hk,z1,z2⟩
def E8:List Int->Int
 |[a,_]=>a
 |_=>0
def E4:List Int->Int
 |[_,b]=>b
 |_=>0
theorem DF{F:Nat}{fs:List Int}(hk:∀k∈ks,Cf m k)(hl:ks.length<=15)(h:Y[F]?=some (.lst (fs.map D.int))):
  ∃(t:Nat)(g:au)(ns:List Int),fU [.tup (ks.map aK),.obj F] Y=.ok (.obj t) (Y++g)/\(Y++g)[t]?=some (.lst (ns.map D.int))/\ns.length<=30/\Y.length<=t/\∀q,q∈ns↔∃r∈fs,Ii ks r q:=by
 obtain⟨l1,a1,a2,a3⟩:=oU (t:=E8) (e:=E4) hk fun x=>decide (x∈fs);obtain⟨l2',b1,b2,b3⟩:=oU (t:=E4) (e:=E8) hk fun x=>decide (x∈fs)
 have c1:=iT (src:=.fix (ks.map aK)) (g:=dC 2 (bb (ao 0) (bb (ao 1) (dD)))) (t:=iG) (e:=kL) (Y1:=Y)
  (q:=fun d=>match d with | .tup [.int a,.int b]=>decide (E8 [a,b]∈fs)|_=>false) (h:=fun d=>match d with | .tup [.int a,.int b]=>.int (E4 [a,b])|_=>.non)
  (fun ρ=>∃o1 o2,ρ=[o1,o2,some (.obj F)]) (fun _=>trivial) (xs:=ks.map aK) (acc:=[]) (ρ:=[none,none,some (.obj F)]) ⟨_,_,rfl⟩
  (by rw[Qd,Rh];exact O0 (by omega) bZ)
  (fun x hx a ρ hJJ => by
   obtain⟨o1,o2,ho⟩:=hJJ;obtain⟨k,hk',rfl⟩:=Rq.mp hx;obtain⟨u,v,rfl,_⟩:=hk k hk';subst ho;refine⟨[some (.int u),some (.int v),some (.obj F)],⟨_,_,rfl⟩,rfl,?_,fun _=>rfl⟩;unfold iG;simp only[cJ,aL,ak,aj,aa,ae];rw[qG (aD h)]
   rfl)
 have c2:=fun M:au=>fun hM:M[F]?=some (.lst (fs.map D.int))=>iT (src:=.fix (ks.map aK)) (g:=dC 2 (bb (ao 0) (bb (ao 1) (dD)))) (t:=iF) (e:=kK) (Y1:=M)
  (q:=fun d=>match d with | .tup [.int a,.int b]=>decide (E4 [a,b]∈fs)|_=>false) (h:=fun d=>match d with | .tup [.int a,.int b]=>.int (E8 [a,b])|_=>.non)
  (fun ρ=>∃o1 o2,ρ=[o1,o2,some (.obj F)]) (fun _=>trivial) (xs:=ks.map aK) (acc:=[]) (ρ:=[none,none,some (.obj F)]) ⟨_,_,rfl⟩
  (by rw[Qd,Rh];exact O0 (by omega) bZ)
  (fun x hx a ρ hJJ => by
   obtain⟨o1,o2,ho⟩:=hJJ;obtain⟨k,hk',rfl⟩:=Rq.mp hx;obtain⟨u,v,rfl,_⟩:=hk k hk';subst ho;refine⟨[some (.int u),some (.int v),some (.obj F)],⟨_,_,rfl⟩,rfl,?_,fun _=>rfl⟩;unfold iF;simp only[cJ,aL,ak,aj,aa,ae];rw[qG (aD hM)]
   rfl)
 rw[QO,a1]at c1;have c2':=c2 (Y++[O.lst (l1.map D.int)]) (aD h);rw[QO,b1]at c2';refine⟨((Y++[O.lst (l1.map D.int)])++[O.lst (l2'.map D.int)]).length,([O.lst (l1.map D.int)]++[O.lst (l2'.map D.int)])++[O.lst ((l1++l2').map D.int)],l1++l2',?_,?_,by rw[Qc];omega,by simp,fun q=>?_⟩
 ·unfold fU;rw[dj];simp only[mE,bo,aL,cw,cD,aj,aa,ae,iL,bH,List.replicate];rw[show fQ [none,none,some 1] (some (D.tup (List.map aK ks))::some (D.obj F)::List.replicate (2-2) none)=[none,none,some (.obj F)] from rfl,c1];simp only[aa,ae];rw[c2'];simp only[aa,ae]
  have ad:bN (.obj Y.length) (.obj (Y++[O.lst (l1.map D.int)]).length) ((Y++[O.lst (l1.map D.int)])++[O.lst (l2'.map D.int)])=.ok (.obj ((Y++[O.lst (l1.map D.int)])++[O.lst (l2'.map D.int)]).length) (((Y++[O.lst (l1.map D.int)])++[O.lst (l2'.map D.int)])++[O.lst ((l1++l2').map D.int)]):=by
   unfold bN;dsimp only;rw[av,aD av];dsimp only;rw[OS,RA];rw[Qd,Qd];exact O0 (show _<=1000 by omega) bZ
  rw[ad,af,ba,pK (by simp)];simp only[QK]
 ·rw[<- QK,<- QK];exact av
 ·rw [O7, a3, b3];constructor
  ·rintro (⟨k, hk', z1, z2⟩ | ⟨k, hk', z1, z2⟩)
   ·obtain⟨u,v,rfl,_⟩:=hk k hk';subst z2;exact⟨u,TZ z1,(ig hk).mpr (.inl hk')⟩
   ·obtain⟨u,v,rfl,_⟩:=hk k hk';subst z2;exact⟨v,TZ z1,(ig hk).mpr (.inr hk')⟩
  ·rintro ⟨r, hr, ha⟩
   rcases (ig hk).mp ha with z|z
   ·exact .inl ⟨_,z,QP hr,rfl⟩
   ·exact .inr ⟨_,z,QP hr,rfl⟩
def gw(k:List Int):PyData:=.tuple (k.map PyData.int)
end Lw
namespace Lw
open PySem L2 RS
def Pn(Y0:au)(i:Nat)(Y:au):Prop:=∃a b c g,Y=Y0.set i (cu a b c)++g
theorem Pn.app{g:au}(h:Pn Y0 i Y):Pn Y0 i (Y++g):=by
 obtain⟨a,b,c,g',rfl⟩:=h;exact⟨a,b,c,g'++g,by rw[QK]⟩
theorem Pn.get(h:Pn Y0 i Y)(hi:i<Y0.length):∃a b c,Y[i]?=some (cu a b c):=by
 obtain⟨a,b,c,g',rfl⟩:=h;exact⟨a,b,c,aD (qI hi)⟩
theorem Pn.set{a b c:Int}(h:Pn Y0 i Y)(hi:i<Y0.length):Pn Y0 i (Y.set i (cu a b c)):=by
 obtain⟨a',b',c',g',rfl⟩:=h;exact⟨a,b,c,g',by rw[va (by simpa using hi),List.set_set]⟩
theorem Pn.len(h:Pn Y0 i Y):Y0.length<=Y.length:=by
 obtain⟨a',b',c',g',rfl⟩:=h;simp
theorem Pn.self{a b c:Int}(h:Y0[i]?=some (cu a b c)):Pn Y0 i Y0:=by
 refine⟨a,b,c,[],?_⟩;rw[PJ];apply Ss;intro j;by_cases e:i=j
 ·subst e;rw[qI (O9.mp h).1,h]
 ·rw[Pd e]
theorem Pn.draw(h:Pn Y0 i Y)(hi:i<Y0.length)(h0:0<m)(h1:m<1073741824):
  ∃r a b c:Int,0<=r/\r<m/\aF [.obj i,.int m] Y=.ok (.int r) (Y.set i (cu a b c))/\Pn Y0 i (Y.set i (cu a b c)):=by
 obtain⟨a,b,c,hp⟩:=h.get hi;obtain⟨r,a',b',c',r0,r1,e⟩:=FN hp h0 h1;exact⟨r,a',b',c',r0,r1,e,h.set hi⟩
theorem Pn.gc(h:Pn Y0 i Y)(hd:d.low Y0.length):∃a b c,nk Y0 (.ok d Y)=.ok d (Y0.set i (cu a b c)):=by
 obtain⟨a,b,c,g',rfl⟩:=h;exact⟨a,b,c,Dk hd vf⟩
theorem Do{xs:List β}{r:Nat}(h:r<=xs.length):bX xs none (some (r:Int))=xs.take r:=by
 unfold bX;rw[HT.sIx_none,HT.sIx_nat];simp[Nat.min_eq_left h]
end Lw
namespace Lv
def Ij(ks:List (List Int))(a b:Int):Bool:=decide ([min a b,max a b]∈ks)
def rg(m:Nat):List Int:=(List.range m).map Int.ofNat
def cX(m:Nat)(ks:List (List Int))(p:Int):List Int:=(rg m).filter fun q=>decide (q=p) || Ij ks p q
theorem uR{m:Nat}{p:Int}:p∈rg m↔0<=p/\p<m:=by
 unfold rg;rw[Rq];constructor
 ·rintro ⟨i, hi, rfl⟩
  have:=OZ.mp hi;exact⟨Int.natCast_nonneg _,by simpa using this⟩
 ·rintro ⟨h0, h1⟩
  exact⟨p.toNat,OZ.mpr (by omega),by simp;omega⟩
theorem yy{m:Nat}:(rg m).length=m:=by simp[rg]
theorem Cy{m:Nat}:(rg m).Pairwise (·<·):=by
 unfold rg;rw[Sw];exact List.pairwise_lt_range.imp fun h=>by simpa using h
structure OL(m k:Nat)(w:List Int):Prop where
 len:w.length=k+1
 nd:w.Nodup
 rng:∀p∈w,0<=p/\p<(m:Int)
end Lv
namespace Lw
open PySem L2 RS Lv
theorem dO{U:Type}{en:U->D}{src:pG}{g:MG}{t:MT}{e:ME}{Y1:au}{q:U->Bool}{h:U->D}(R:Ro->Prop)(ho:∀a,dJ src (Y1++[.lst a])) :
  ∀{us:List U}{acc:List D}{ρ:Ro},R ρ->acc.length+us.length<=sizeLine->(∀x∈us,∀a ρ,R ρ->∃ρ1,R ρ1/\g (en x) ρ (Y1++[.lst a])=.ok ρ1 (Y1++[.lst a])/\t ρ1 (Y1++[.lst a])=.ok (q x) (Y1++[.lst a])/\(q x=true->e ρ1 (Y1++[.lst a])=.ok (h x) (Y1++[.lst a]))) ->
   compLoop src Y1.length g t e (us.map en) ρ (Y1++[.lst acc])=.ok (.obj Y1.length) (Y1++[.lst (acc++(us.filter q).map h)])
 |[],acc,ρ,hr,hl,he=>by
  rw[QB];unfold compLoop;rw[OS (ho acc)];simp
 |x::xs,acc,ρ,hr,hl,he=>by
  obtain⟨ρ1,r1,e1,e2,e3⟩:=he x O3 acc ρ hr;rw[QC];unfold compLoop;rw[OS (ho acc),e1];simp only[ae,aa];rw[e2];simp only[ae,aa];have he':=fun y hy=>he y (O4 _ hy);simp only[QV]at hl;cases hq:q x with
  |false=>
   rw[OT PD,dO R ho r1 (by omega) he',Ts,hq];rfl
  |true=>
   rw[OS rfl,e3 hq];simp only[ae,aa];rw[jU (by omega)];simp only[aa,ae];rw[dO R ho r1 (by simp;omega) he',Ts,hq];simp
theorem rV{U:Type}:∀{us:List U},us.filter (fun _=>true)=us
 |[]=>rfl
 |_::us=>by rw[Ts,OS rfl,rV]
def Lj:D->Bool
 |.int _=>true
 |_=>false
def Lk(m:Nat):D->Bool
 |.int i=>decide (0<=i/\i<(m:Int))
 |_=>false
def Lc(Y:au)(d:D):Prop:=vQ Y d≠none
theorem GB(h:Lc Y (.obj n)):(∃xs,Y[n]?=some (.lst xs))\/Y[n]?=some .dic:=by
 unfold Lc vQ at h;dsimp only at h;split at h
 ·rename_i xs e;exact .inl ⟨xs,e⟩
 ·rename_i e;exact .inr e
 ·exact absurd rfl h
theorem GS(h:Lc Y d):∃b,fm "int" d Y=.ok (.bl b) Y/\(b=true->∃c,fm "bool" d Y=.ok (.bl c) Y/\(!c)=Lj d)/\(b=false->Lj d=false):=by
 cases d with
 |non=>exact⟨false,rfl,nofun,fun _=>rfl⟩
 |bl b=>exact⟨true,rfl,fun _=>⟨true,rfl,rfl⟩,nofun⟩
 |int i=>exact⟨true,rfl,fun _=>⟨false,rfl,rfl⟩,nofun⟩
 |str x=>exact⟨false,rfl,nofun,fun _=>rfl⟩
 |tup xs=>exact⟨false,rfl,nofun,fun _=>rfl⟩
 |frz xs=>exact⟨false,rfl,nofun,fun _=>rfl⟩
 |obj n=>
  refine⟨false,?_,nofun,fun _=>rfl⟩;unfold fm vQ;rcases GB h with⟨xs,e⟩|e <;> simp only[e] <;> rfl
theorem DC(h:Lc Y d):gf [d] Y=.ok (.bl (Lj d)) Y:=by
 obtain⟨b,h1,h2,h3⟩:=GS h;unfold gf;rw[i0];simp only[m5,List.replicate,bo,vm,G6,gA,aj,aa,ae,h1,bw];cases b with
 |false=>
  rw[OT PD,af,ba,h3 rfl];exact aR (by simp)
 |true=>
  obtain⟨c,c1,c2⟩:=h2 rfl;rw[OS rfl,c1];simp only[aa,ae,bw,af,ba,c2];exact aR (by simp)
theorem DE{m:Nat}(h:Lc Y d):d5 [.int m,d] Y=.ok (.bl (Lk m d)) Y:=by
 have hw:bR [d,.int 0,.int ((m:Int)-1)] Y=.ok (.bl (Lk m d)) Y:=by
  unfold bR;rw[g7];simp only[iI,List.replicate,bo,vm,aB,aq,aw,aj,ak,aa,ae,DC h,bw,EA];cases d with
  |int i=>
   rw[show Lj (.int i)=true from rfl,OS rfl];simp only[lZ,aa,ae,bw];by_cases c:fq .LtE 0 i=true
   ·rw [OS c, af, ba]
    rw[show fq .LtE i ((m:Int)-1)=Lk m (.int i) from by
     have c':(0:Int)<=i:=TZ c;show decide (i<=(m:Int)-1)=decide (0<=i/\i<(m:Int))
     exact So.mpr ⟨fun z=>⟨c',by omega⟩,fun z=>by omega⟩]
    exact aR (by simp)
   ·rw [OT c, af, ba]
    rw[show Lk m (.int i)=false from by
     have c':¬ (0:Int)<=i:=fun z=>c (QP z)
     exact OP (fun z=>c' z.1)]
    exact aR (by simp)
  |_=>
   rw[show Lj _=false from rfl,OT PD,af,ba];exact aR (by simp)
 unfold d5;rw[dj];simp only[m7,List.replicate,bo,aB,aq,aw,aj,ak,bf,aL,aa,ae];rw[show sX (.int m) (.int 1) Y=.ok (.int ((m:Int)-1)) Y from rfl];simp only[aa,ae,hw,af,ba];exact aR (by simp)
theorem C1:100000<=sizeLine:=by decide
theorem Mr{a b:Int}:AQ [.int a,.int b] Y=.ok (.int (min a b)) Y:=by
 show ai.ok (D.int (if b<a then b else a)) Y=_;congr 2;split <;> omega
theorem Ms{a b:Int}:tf [.int a,.int b] Y=.ok (.int (max a b)) Y:=by
 show ai.ok (D.int (if b>a then b else a)) Y=_;congr 2;split <;> omega
abbrev cm(w:List Int):D:=.tup (w.map D.int)
theorem mU:∀(l acc:List Int),acc.Nodup->(l.foldl (fun acc k=>if k∈acc then acc else acc++[k]) acc).Nodup/\∀x,x∈l.foldl (fun acc k=>if k∈acc then acc else acc++[k]) acc↔x∈acc\/x∈l
 |[],acc,h=>⟨h,fun x=>by simp⟩
 |y::l,acc,h=>by
  rw[QL];by_cases c:y∈acc
  ·rw [OS c];have ih:=mU l acc h;refine⟨ih.1,fun x=>?_⟩;rw[ih.2 x,O5];constructor
   ·rintro (z | z)
    ·exact .inl z
    ·exact .inr (.inr z)
   ·rintro (z | rfl | z)
    ·exact .inl z
    ·exact .inl c
    ·exact .inr z
  ·rw[OT c];have ih:=mU l (acc++[y]) (by rw[RX];exact⟨h,by simp,fun a ha b hb=>by simp at hb;subst hb;exact fun e=>c (e ▸ ha)⟩);refine⟨ih.1,fun x=>?_⟩;rw[ih.2 x,O5,O7,Q5,or_assoc]
theorem Bd{m:Nat}{p:Int}(h:∀q,q∈ns↔q∈cX m ks p):my (i3 ns)=cX m ks p:=by
 have d:=mU ns [] RJ;have up:(cX m ks p).Pairwise (·<·):=Cy.filter _;refine(rK ?_ (up.imp fun {a b} h=>Int.le_of_lt h)).symm;refine(RN (up.imp fun {a b} h=>by omega) d.1).mpr fun q=>?_;rw[d.2 q,<- h q];simp
theorem wN(hk:∀k∈ks,Cf m k){p q:Int}:Ij ks p q=true↔[p,q]∈ks\/[q,p]∈ks:=by
 unfold Ij;rw[Td]
 have asc:∀{a b:Int},[a,b]∈ks->a<b:=fun h=>by
  obtain⟨u,v,e,_,h2,_⟩:=hk _ h;simp at e;rw[e.1,e.2];exact h2
 constructor
 ·intro h;have:=asc h;by_cases c:p<=q
  ·left;rw[Int.min_eq_left c,Int.max_eq_right c]at h;exact h
  ·right;rw[Int.min_eq_right (by omega),Int.max_eq_left (by omega)]at h;exact h
 ·rintro (h | h)
  ·have:=asc h;rw[Int.min_eq_left (by omega),Int.max_eq_right (by omega)];exact h
  ·have:=asc h;rw[Int.min_eq_right (by omega),Int.max_eq_left (by omega)];exact h
theorem rR:∀{ns:List Int},jn (ns.map D.int)=some ns
 |[]=>rfl
 |n::ns=>by simp[jn,rR (ns:=ns)]
theorem GX(h:∀n∈ns,0<=n/\n<6):Cn (ns.map D.int)=some ns:=by
 unfold Cn;rw[rR];dsimp only;rw[OS (RP.mpr fun n hn=>QP (h n hn))]
theorem CL{w:List Int}{a:Int}:oq neg (.int a) (cm w) Y=.ok (.bl (if neg then !decide (a∈w) else decide (a∈w))) Y:=by
 have e2:mw Y (cm w)=some (.tuple (w.map PyData.int)):=by
  simp only[mw,rQ,Option.map_some]
 have f2:eS (.tuple (w.map PyData.int))=true:=by
  have:=lB w;simp only[eS,PyData.canLay0,this.1,PyData.depth,this.2,Tw];rfl
 unfold oq;rw[show mw Y (.int a)=some (.int a) from rfl,e2];dsimp only[rn];rw[OS ⟨rfl,f2⟩]
 have:(w.map PyData.int).any (fun y=>PyData.eqv y (.int a))=decide (a∈w):=by
  rw[List.any_map];apply PB.mpr;rw[TY,Td];constructor
  ·rintro ⟨x, hx, e⟩
   have:x=a:=by simpa[PyData.eqv] using e
   subst this;exact hx
  ·intro hx;exact⟨a,hx,by simp[PyData.eqv]⟩
 rw[this]
theorem C4{m:Nat}:d0 0 ((m:Int)).toNat=(rg m).map D.int:=by
 unfold d0 rg;rw[Re];simp
abbrev aN(m:Nat)(ks:List (List Int)):D:=.tup [.int m,.tup (ks.map aK)]
abbrev GW(m:Nat)(ks:List (List Int)):Prop:=wD (aN m ks) m ks
section
variable{m:Nat}
theorem GW.m0(h:GW m ks):1<=m:=by have:=h.2.1;omega
theorem GW.m6(h:GW m ks):m<=6:=by have:=h.2.2.1;omega
theorem LJ(h:GW m ks){a b:Int}(e:Ii ks a b):(0<=a/\a<(m:Int))/\(0<=b/\b<(m:Int)):=Hb h.2.2.2.2 e
end
def Os(k k':List Int):Bool:=match k,k' with
 |[a,b],[c,d]=>decide (a<c) || (decide (a=c)&&decide (b<d))
 |_,_=>false
theorem Jt:∀{ks:List (List Int)},(∀k∈ks,Cf m k)->m<=6->ks.Pairwise (fun a b=>qc a<qc b)->∀i,i<ks.length-1->Os (ks.getD i []) (ks.getD (i+1) [])=true:=fun {ks} hk hm hp i hi=>by
 have h1:i<ks.length:=by omega
 have h2:i+1<ks.length:=by omega
 have e1:ks.getD i []=ks[i]:=by rw[Sr,SK h1];rfl
 have e2:ks.getD (i+1) []=ks[i+1]:=by rw[Sr,SK h2];rfl
 have lt:=Rk.mp hp i (i+1) h1 h2 (by omega);rw[e1,e2];obtain⟨a,b,ea,a1,a2,a3⟩:=hk _ (SJ h1);obtain⟨c,d,ec,c1,c2,c3⟩:=hk _ (SJ h2);rw[ea,ec]at lt⊢;have lt':a*6+b<c*6+d:=lt;unfold Os;dsimp only;by_cases z:a<c
 ·rw[QP z];rfl
 ·have : a = c := by omega
  rw[OP z,QP this,QP (show b<d by omega)];rfl
mutual
def Kn(Y:au):D->Prop
 |.tup xs=>xs.length<1000/\Kns Y xs
 |.obj n=>∃tn,vQ Y (.obj n)=some tn/\tn ≠ "int" /\ tn ≠ "bool" /\ tn ≠ "tuple"
 |_=>True
def Kns(Y:au):List D->Prop
 |[]=>True
 |x::xs=>Kn Y x/\Kns Y xs
end
theorem js{Y:au}:∀{xs:List D},Kns Y xs↔∀x∈xs,Kn Y x
 |[]=>by simp[Kns]
 |x::xs=>by simp[Kns,js (xs:=xs)]
theorem Fp{g:au}(h:vQ Y (.obj n)=some tn):vQ (Y++g) (.obj n)=some tn:=by
 unfold vQ at h⊢;dsimp only at h⊢;cases e:Y[n]? with
 |none=>rw[e]at h;cases h
 |some o=>rw[PZ (O9.mp e).1,e];rw[e]at h;exact h
mutual
theorem lV{Y:au}(g:au):∀{d:D},Kn Y d->Kn (Y++g) d
 |.non,_=>by simp[Kn]
 |.bl _,_=>by simp[Kn]
 |.int _,_=>by simp[Kn]
 |.str _,_=>by simp[Kn]
 |.frz _,_=>by simp[Kn]
 |.obj n,h=>by
  simp only[Kn]at h⊢;obtain⟨tn,h1,h2⟩:=h;exact⟨tn,Fp h1,h2⟩
 |.tup xs,h=>by
  simp only[Kn]at h⊢;exact⟨h.1,kns_more g h.2⟩
theorem kns_more{Y:au}(g:au):∀{xs:List D},Kns Y xs->Kns (Y++g) xs
 |[],_=>by simp[Kns]
 |x::xs,h=>by
  simp only[Kns]at h⊢;exact⟨lV g h.1,kns_more g h.2⟩
end
def isInt:D->Bool
 |.int _=>true
 |_=>false
def bE:D->Bool
 |.tup _=>true
 |_=>false
def cI(a b:Int):D->Bool
 |.int i=>decide (a<=i)&&decide (i<=b)
 |_=>false
theorem BJ(h:Kn Y d):∃b,fm "int" d Y=.ok (.bl b) Y/\(b=true↔(isInt d=true\/∃c,d=.bl c)):=by
 cases d with
 |obj n=>
  simp only[Kn]at h;obtain⟨tn,h1,h2,h3,h4⟩:=h;refine⟨_,by unfold fm;rw[h1],?_⟩;simp[lg,isInt,h2,h3]
 |non=>exact⟨_,rfl,by simp[lg,isInt]⟩
 |bl b=>exact⟨_,rfl,by simp[lg,isInt]⟩
 |int b=>exact⟨_,rfl,by simp[lg,isInt]⟩
 |str b=>exact⟨_,rfl,by simp[lg,isInt]⟩
 |tup b=>exact⟨_,rfl,by simp[lg,isInt]⟩
 |frz b=>exact⟨_,rfl,by simp[lg,isInt]⟩
theorem Es(h:Kn Y d):∃b,fm "bool" d Y=.ok (.bl b) Y/\(b=true↔∃c,d=.bl c):=by
 cases d with
 |obj n=>
  simp only[Kn]at h;obtain⟨tn,h1,h2,h3,h4⟩:=h;refine⟨_,by unfold fm;rw[h1],?_⟩;simp[lg,h2,h3]
 |non=>exact⟨_,rfl,by simp[lg]⟩
 |bl b=>exact⟨_,rfl,by simp[lg]⟩
 |int b=>exact⟨_,rfl,by simp[lg]⟩
 |str b=>exact⟨_,rfl,by simp[lg]⟩
 |tup b=>exact⟨_,rfl,by simp[lg]⟩
 |frz b=>exact⟨_,rfl,by simp[lg]⟩
theorem fw(h:Kn Y d):fm "tuple" d Y=.ok (.bl (bE d)) Y:=by
 cases d with
 |obj n=>
  simp only[Kn]at h;obtain⟨tn,h1,h2,h3,h4⟩:=h;unfold fm;rw[h1];simp[lg,bE,h4]
 |non=>rfl
 |bl b=>rfl
 |int b=>rfl
 |str b=>rfl
 |tup b=>rfl
 |frz b=>rfl
theorem sg(h:Kn Y d):gf [d] Y=.ok (.bl (isInt d)) Y:=by
 obtain⟨b1,e1,f1⟩:=BJ h;obtain⟨b2,e2,f2⟩:=Es h;unfold gf;rw[i0]
 have:(b1 && !b2)=isInt d:=by
  cases d <;> simp[isInt]at f1 f2⊢ <;> simp[f1,f2]
 simp[m5,e1,e2];cases b1 <;> cases b2 <;> simp at this⊢ <;> rw[<- this] <;> exact aR (by simp)
theorem jS(h:Kn Y d):cE [d] Y=.ok (.bl (isInt d)) Y:=sg h
theorem wQ{a b:Int}(h:Kn Y d):bR [d,.int a,.int b] Y=.ok (.bl (cI a b d)) Y:=by
 unfold bR;rw[g7];simp[iI,sg h]
 cases d <;> simp[isInt,cI] <;> first
  |exact aR (by simp)
  |skip
 simp[fq];split <;> (rename_i hc;simp[hc];exact aR (by simp))
theorem si(h:Kn Y d):d5 [.int m,d] Y=.ok (.bl (cI 0 (m-1) d)) Y:=by
 unfold d5;rw[dj];simp[m7,wQ h];exact aR (by simp)
theorem A7(h:Kn Y d):jZ [d] Y=.ok (.bl (cI 1 6 d)) Y:=by
 unfold jZ;rw[i0];simp[uJ,wQ h];exact aR (by simp)
def kY(m:Int):D->Bool
 |.tup xs=>xs.all (cI 0 (m-1))
 |_=>false
theorem xC{h:D->Bool}{e:ME}{c:D}(hl:xs.length<=sizeLine)(he:∀x∈xs,∀a,e [some x,some c] (Y++[.lst a])=.ok (.bl (h x)) (Y++[.lst a])):
  compLoop (.fix xs) Y.length (ao 0) bz e xs [none,some c] (Y++[.lst []])=.ok (.obj Y.length) (Y++[.lst ((xs.map h).map D.bl)]):=by
 have:=iT (src:=.fix xs) (g:=ao 0) (t:=bz) (e:=e) (Y1:=Y) (q:=fun _=>true) (h:=fun x=>D.bl (h x)) (fun ρ=>∃o,ρ=[o,some c]) (fun _=>trivial) (xs:=xs) (acc:=[]) (ρ:=[none,some c]) ⟨none,rfl⟩ (by simpa using hl)
  (fun x hx a ρ ⟨o,ho⟩=>⟨[some x,some c],⟨_,rfl⟩,by subst ho;rfl,rfl,fun _=>he x hx a⟩)
 rw[this,T4.mpr (fun _ _=>rfl)];simp[Re,T5]
theorem rL:1000<=sizeLine:=by decide
theorem tY(h:Kn Y d):eZ [.int m,d] Y=.ok (.bl (kY m d)) Y:=by
 unfold eZ;rw[dj];simp[p6,fw h];cases d with
 |tup xs=>
  simp only[bE,Qm,kY];simp;simp only[Kn]at h;rw[xC (h:=cI 0 (m-1)) (O0 (O1 h.1) rL) fun x hx a=>?_]
  ·simp;rw[kn (bs:=xs.map (cI 0 (m-1))) (by simp)];simp[Tj,T5];exact eE (by simp)
  ·simp[mD];exact si (lV _ (js.mp h.2 x hx))
 |non=>simp[bE,kY];exact aR (by simp)
 |bl b=>simp[bE,kY];exact aR (by simp)
 |int b=>simp[bE,kY];exact aR (by simp)
 |str b=>simp[bE,kY];exact aR (by simp)
 |frz b=>simp[bE,kY];exact aR (by simp)
 |obj b=>simp[bE,kY];exact aR (by simp)
def nC(m:Int)(d:D):Bool:=kY m d&&(match d with
 |.tup [.int a,.int b]=>a != b
 |_=>false)
def dZ(m:Int)(d:D):Bool:=kY m d&&(match d with
 |.tup [.int a,.int b]=>decide (a<b)
 |_=>false)
theorem w8(h:kY m (.tup xs)=true):∃ns:List Int,xs=ns.map D.int/\∀n∈ns,0<=n/\n<=m-1:=by
 simp only[kY]at h
 induction xs with
 |nil=>exact⟨[],rfl,by simp⟩
 |cons x r ih=>
  rw[QG,Qy]at h;obtain⟨ns,e,f⟩:=ih h.2;cases x with
  |int i=>
   simp[cI]at h;exact⟨i::ns,by rw[e];rfl,fun n hn=>(O5.mp hn).elim (fun z=>by rw[z];exact h.1) (f n)⟩
  |non=>simp[cI]at h
  |bl b=>simp[cI]at h
  |str b=>simp[cI]at h
  |tup b=>simp[cI]at h
  |frz b=>simp[cI]at h
  |obj b=>simp[cI]at h
theorem A6(h:Kn Y d):jY [.int m,d] Y=.ok (.bl (nC m d)) Y:=by
 unfold jY;rw[dj];simp[uI,tY h];cases hp:kY m d with
 |false=>simp[nC,hp];exact aR (by simp)
 |true=>
  cases d with
  |tup xs=>
   obtain⟨ns,rfl,_⟩:=w8 hp;simp
   match ns with
   |[]=>simp[nC];exact aR (by simp)
   |[a]=>simp[nC];exact aR (by simp)
   |[a,b]=>
    simp only[QV,Rh,QC,QB];simp[gB (pN),gB (rj),nC,hp];simp at hp;rw[hp];simp[bne];exact aR (by simp)
   |a::b::c::r=>
    have:((r.length:Int)+1+1+1 == 2)=false:=by simp;omega
    simp[this,nC];exact aR (by simp)
  |non=>simp[kY]at hp
  |bl b=>simp[kY]at hp
  |int b=>simp[kY]at hp
  |str b=>simp[kY]at hp
  |frz b=>simp[kY]at hp
  |obj b=>simp[kY]at hp
theorem DD(h:Kn Y d):lD [.int m,d] Y=.ok (.bl (dZ m d)) Y:=by
 unfold lD;rw[dj];simp[xI,A6 h];cases hp:nC m d with
 |false=>
  have:dZ m d=false:=by
   unfold nC at hp;unfold dZ;cases hq:kY m d with
   |false=>rfl
   |true=>
    rw[hq]at hp;simp only[Tw]at hp⊢;split at hp
    ·simp at hp⊢;omega
    ·rfl
  simp[this];exact aR (by simp)
 |true=>
  unfold nC at hp;rw[Qy]at hp;obtain⟨hp1,hp2⟩:=hp;split at hp2
  ·rename_i a b;simp[gB (pN),gB (rj),dZ,hp1,fq];exact aR (by simp)
  ·cases hp2
theorem rG(h:dZ m d=true):∃a b:Int,d=aK [a,b]/\0<=a/\a<b/\b<=m-1:=by
 unfold dZ at h;rw[Qy]at h;obtain⟨h1,h2⟩:=h;split at h2
 ·rename_i a b;simp[kY,cI]at h1;simp at h2;exact⟨a,b,rfl,by omega,h2,by omega⟩
 ·cases h2
def gy(k k':List Int):Bool:=match k,k' with
 |[a,b],[c,d]=>decide (a<c) || (decide (a=c)&&decide (b<d))
 |_,_=>false
theorem x5{a b c d:Int}:il .Lt (aK [a,b]) (aK [c,d]) Y=.ok (.bl (gy [a,b] [c,d])) Y:=by
 have e:il .Lt (aK [a,b]) (aK [c,d]) Y=(match cmpPs .Lt [.int a,.int b] [.int c,.int d] with|some k=>.ok (.bl k) Y|none=>.bad):=rfl;rw[e];simp only[cmpPs,iy,PyData.eqv,gy];by_cases h1:a=c
 ·subst h1;by_cases h2:b=d
  ·subst h2;simp[fq]
  ·simp[h2,fq]
 ·simp[h1,fq]
theorem vL{a b c d:Int}:il .LtE (aK [a,b]) (aK [c,d]) Y=.ok (.bl (!gy [c,d] [a,b])) Y:=by
 have e:il .LtE (aK [a,b]) (aK [c,d]) Y=(match cmpPs .LtE [.int a,.int b] [.int c,.int d] with|some k=>.ok (.bl k) Y|none=>.bad):=rfl;rw[e]
 have le:∀x y:Int,decide (x<=y)=!decide (y<x):=fun x y=>by
  by_cases h:x<=y
  ·rw[QP h,OP (by omega)];rfl
  ·rw[OP h,QP (by omega)];rfl
 simp only[iy,cmpPs,PyData.eqv,gy];by_cases h1:a=c
 ·subst h1;by_cases h2:b=d
  ·subst h2;simp[fq]
  ·simp[h2,fq,le]
 ·have h3:¬ c=a:=fun z=>h1 z.symm;simp[h1,h3,fq,le]
def CQ(k:List Int):Prop:=∃a b,k=[a,b]
def g6(ks:List (List Int)):Bool:=(List.range (ks.length-1)).all fun i=>gy (ks.getD i []) (ks.getD (i+1) [])
theorem mT{lo:Int}:d0 lo n=(List.range n).map fun(i:Nat)=>D.int (lo+(i:Int)):=rfl
theorem Hl:mC=aH (il .Lt) (aH cW (ah 1) (aH sX (ah 0) (cC (.int 1)))) (aH cW (ah 1) (ah 0)):=rfl
theorem Bl(hk:∀k∈ks,CQ k)(a:List D)(i:Nat)(hi:i<ks.length-1):
  (aH (il .Lt) (aH cW (ah 1) (aH sX (ah 0) (cC (.int 1)))) (aH cW (ah 1) (ah 0))) [some (.int (1+(i:Int))),some (.tup (ks.map aK))] (Y++[.lst a])=.ok (.bl (gy (ks.getD i []) (ks.getD (i+1) []))) (Y++[.lst a]):=by
 have h1:i<ks.length:=by omega
 have h2:i+1<ks.length:=by omega
 obtain⟨x,y,e1⟩:=hk ks[i] (SJ h1);obtain⟨u,v,e2⟩:=hk ks[i+1] (SJ h2)
 have g1:atI (ks.map aK) (1+(i:Int)-1)=some (aK [x,y]):=by
  rw[show (1+(i:Int)-1)=((i:Nat):Int) by omega];exact l9 (by rw[P0,SK h1,e1];rfl)
 have g2:atI (ks.map aK) (1+(i:Int))=some (aK [u,v]):=by
  rw[show (1+(i:Int))=((i+1:Nat):Int) by omega];exact l9 (by rw[P0,SK h2,e2];rfl)
 have k1:ks.getD i []=[x,y]:=by rw[Sr,SK h1,e1];rfl
 have k2:ks.getD (i+1) []=[u,v]:=by rw[Sr,SK h2,e2];rfl
 rw[k1,k2];simp only[aL,ak,aj,bf,aa,ae,HQ];rw[gB g1];simp only[aa,ae];rw[gB g2];simp only[aa,ae];exact x5
theorem y2(hk:∀k∈ks,CQ k)(hl:ks.length<1000):
  compLoop (pG.fix (d0 1 (ks.length-1))) Y.length (ao 0) bz (aH (il CmpOp.Lt) (aH cW (ah 1) (aH sX (ah 0) (cC (D.int 1)))) (aH cW (ah 1) (ah 0))) (d0 1 (ks.length-1)) [none,some (D.tup (List.map aK ks))] (Y++[O.lst []]) =
   .ok (.obj Y.length) (Y++[.lst (((List.range (ks.length-1)).map fun i=>gy (ks.getD i []) (ks.getD (i+1) [])).map D.bl)]):=by
 have:=iT (src:=.fix (d0 1 (ks.length-1))) (g:=ao 0) (t:=bz) (e:=aH (il .Lt) (aH cW (ah 1) (aH sX (ah 0) (cC (.int 1)))) (aH cW (ah 1) (ah 0))) (Y1:=Y) (q:=fun _=>true)
  (h:=fun d=>match d with | .int j=>.bl (gy (ks.getD (j-1).toNat []) (ks.getD ((j-1).toNat+1) []))|_=>.non) (fun ρ=>∃o,ρ=[o,some (.tup (ks.map aK))]) (fun _=>trivial) (xs:=d0 1 (ks.length-1)) (acc:=[]) (ρ:=[none,some (.tup (ks.map aK))]) ⟨none,rfl⟩
  (by rw[mT,Qd,Rg,Rh];exact O0 (by omega) rL)
  (fun x hx a ρ ⟨o, ho⟩ => by
   rw[mT]at hx;obtain⟨i,hi,rfl⟩:=Rq.mp hx;refine⟨[some (.int (1+(i:Int))),some (.tup (ks.map aK))],⟨_,rfl⟩,by subst ho;rfl,rfl,fun _=>?_⟩;rw[Bl hk a i (by simpa using hi)];dsimp only
   rw[show (1+(i:Int)-1).toNat=i by omega])
 rw[this,T4.mpr (fun _ _=>rfl),mT,Re,QO,Re];congr 4;apply Rf;intro i _;show D.bl (gy (ks.getD (1+(i:Int)-1).toNat []) (ks.getD ((1+(i:Int)-1).toNat+1) []))=_;rw[show (1+(i:Int)-1).toNat=i by omega];rfl
theorem xJ(hk:∀k∈ks,CQ k)(hl:ks.length<1000):ix [.tup (ks.map aK)] Y=.ok (.bl (g6 ks)) Y:=by
 unfold ix;rw[i0];simp only[pZ,bo,aB,aq,cw,iM,bf,aw,aa,ae,aj,lY,Qd];rw[G5 (by omega) (by omega) (by omega) (by omega)];have hn:((ks.length:Int)-1).toNat=ks.length-1:=by omega
 simp only[aa,ae,bH,hn];rw[show fQ [none,some 0] (some (D.tup (List.map aK ks))::List.replicate (1-1) none)=[none,some (D.tup (List.map aK ks))] from rfl];rw[Hl,y2 hk hl];simp only[aa,ae];rw[kn av];simp only[af,ae,ba];rw[eE (by simp)];simp[g6,Tj,T5]
def iZ:D->List Int
 |.tup [.int a,.int b]=>[a,b]
 |_=>[]
def gU(m:Int)(d:D):Bool:=match d with
 |.tup ts=>ts.all (dZ m)&&g6 (ts.map iZ)
 |_=>false
def cO(d:D):Bool:=match d with
 |.tup [.int m,ts]=>decide (1<=m)&&decide (m<=6)&&gU m ts
 |_=>false
theorem xG{ts:List D}(h:ts.all (dZ m)=true):∃ks:List (List Int),ts=ks.map aK/\ts.map iZ=ks/\∀k∈ks,∃a b:Int,k=[a,b]/\0<=a/\a<b/\b<=m-1:=by
 induction ts with
 |nil=>exact⟨[],rfl,rfl,by simp⟩
 |cons x r ih=>
  rw[QG,Qy]at h;obtain⟨ks,e1,e2,e3⟩:=ih h.2;obtain⟨a,b,rfl,h1,h2,h3⟩:=rG h.1;refine⟨[a,b]::ks,by rw[e1];rfl,by rw[QC,e2];rfl,fun k hk=>?_⟩;rcases O5.mp hk with z|z
  ·exact⟨a,b,z,h1,h2,h3⟩
  ·exact e3 k z
theorem A5(h:Kn Y d):jW [.int m,d] Y=.ok (.bl (gU m d)) Y:=by
 unfold jW;rw[dj];simp[uG,fw h];cases d with
 |tup ts=>
  simp only[bE,Qm,gU];simp only[Kn]at h;rw[iL];simp only[aa,ae,bH];rw[xC (h:=dZ m) (O0 (O1 h.1) rL) fun x hx a=>?_]
  ·simp only [aa, ae];rw[kn av];simp only[aa,ae,bw];cases ha:ts.all (dZ m) with
   |false=>
    have:((ts.map (dZ m)).all id)=false:=by rw[Tj];simpa[T5] using ha
    rw[this];simp;exact eE (by simp)
   |true=>
    have:((ts.map (dZ m)).all id)=true:=by rw[Tj];simpa[T5] using ha
    rw[this];obtain⟨ks,e1,e2,e3⟩:=xG ha;simp only[Qm,Tw];rw[e2,e1,xJ (fun k hk=>let ⟨a,b,e,_⟩:=e3 k hk;⟨a,b,e⟩) (by rw[e1]at h;simpa using h.1)];simp;exact eE (by simp)
  ·simp[pY];exact DD (lV _ (js.mp h.2 x hx))
 |non=>simp[bE,gU];exact aR (by simp)
 |bl b=>simp[bE,gU];exact aR (by simp)
 |int b=>simp[bE,gU];exact aR (by simp)
 |str b=>simp[bE,gU];exact aR (by simp)
 |frz b=>simp[bE,gU];exact aR (by simp)
 |obj b=>simp[bE,gU];exact aR (by simp)
theorem C0(h:Kn Y d):hU [d] Y=.ok (.bl (cO d)) Y:=by
 unfold hU;rw[i0];simp[sE,fw h];cases d with
 |tup xs=>
  simp only[Kn]at h;simp[bE]
  match xs,h with
  |[],h=>simp[cO];exact aR (by simp)
  |[x],h=>simp[cO];exact aR (by simp)
  |[x,y],h=>
   simp only[Kns]at h;simp[A7 h.2.1];cases x with
   |int m=>
    simp[cI];cases hm:(decide (1<=m)&&decide (m<=6)) with
    |false=>
     simp[cO,hm];have:¬ (1<=m/\m<=6):=by simpa using hm
     rw[OT this];simp;exact aR (by simp)
    |true=>
     have:1<=m/\m<=6:=by simpa using hm
     rw[OS this];simp[A5 h.2.2.1,cO,this];exact aR (by simp)
   |non=>simp[cI,cO];exact aR (by simp)
   |bl b=>simp[cI,cO];exact aR (by simp)
   |str b=>simp[cI,cO];exact aR (by simp)
   |tup b=>simp[cI,cO];exact aR (by simp)
   |frz b=>simp[cI,cO];exact aR (by simp)
   |obj b=>simp[cI,cO];exact aR (by simp)
  |x::y::z::r,h=>
   have:((r.length:Int)+1+1+1 == 2)=false:=by simp;omega
   simp[this,cO];exact aR (by simp)
 |non=>simp[bE,cO];exact aR (by simp)
 |bl b=>simp[bE,cO];exact aR (by simp)
 |int b=>simp[bE,cO];exact aR (by simp)
 |str b=>simp[bE,cO];exact aR (by simp)
 |frz b=>simp[bE,cO];exact aR (by simp)
 |obj b=>simp[bE,cO];exact aR (by simp)
def gF(m:Int):List Int->List D->Bool
 |_,[]=>true
 |k,x::r=>dZ m x&&gy k (iZ x)&&gF m (iZ x) r
theorem eH{b:Bool}:nk Y (.ok (.bl b) Y)=.ok (.bl b) Y:=aR (by simp)
theorem Fy{a b:Int}:dZ m (.tup [.int a,.int b])=(decide (0<=a)&&decide (a<b)&&decide (b<m)):=by
 simp only[dZ,kY,QG,List.all_nil,cI,Bool.and_true];by_cases h1:0<=a <;> by_cases h2:a<b <;> by_cases h3:b<m <;> simp[h1,h2,h3] <;> omega
theorem GM{la lb:Int}{ts:D}{x:D}(h:Kn Y x):cj [some (.tup [.int m,ts]),some (aK [la,lb]),some x] Y =
  if (dZ m x&&gy [la,lb] (iZ x))=true then .next [some (.tup [.int m,ts]),some x,some x] Y else .ret (.bl false) Y:=by
 unfold cj;simp[fw h];cases x with
 |tup xs=>
  simp only[Kn]at h;simp[bE]
  match xs,h with
  |[],h=>simp[dZ]
  |[x],h=>simp[dZ]
  |[x,y],h=>
   simp only[Kns]at h;simp[gB (pN),gB (rj),jS h.2.1,jS h.2.2.1];cases hx:isInt x with
   |false=>
    have:dZ m (.tup [x,y])=false:=by cases x <;> simp[isInt]at hx <;> simp[dZ]
    simp[this]
   |true=>
    cases hy:isInt y with
    |false=>
     have:dZ m (.tup [x,y])=false:=by cases x <;> cases y <;> simp[isInt]at hx hy <;> simp[dZ]
     simp[this]
    |true=>
     cases x <;> simp[isInt]at hx;cases y <;> simp[isInt]at hy;rename_i a b;have e:=vL (Y:=Y) (a:=a) (b:=b) (c:=la) (d:=lb);simp only[aK,QC,QB]at e;simp only[aK,QC,QB,Fy,iZ];by_cases h1:0<=a
     ·by_cases h2 : a < b
      ·by_cases h3 : b < m
       ·simp[fq,h1,h2,h3,e];cases gy [la,lb] [a,b] <;> simp
       ·simp[fq,h1,h2,h3]
      ·simp[fq,h1,h2]
     ·simp[fq,h1]
  |x::y::z::r,h=>
   have:¬ ((r.length:Int)+1+1+1=2):=by omega
   simp[this,dZ]
 |non=>simp[bE,dZ,kY]
 |bl b=>simp[bE,dZ,kY]
 |int b=>simp[bE,dZ,kY]
 |str b=>simp[bE,dZ,kY]
 |frz b=>simp[bE,dZ,kY]
 |obj b=>simp[bE,dZ,kY]
theorem Ao{Y:au}{m:Int}{tt:D}{src:pG}(hs:dJ src Y):∀{ts:List D}{la lb:Int}{o:Option D},Kns Y ts->∃ρ,gT src (ao 2) cj ts [some (.tup [.int m,tt]),some (aK [la,lb]),o] Y =
  if gF m [la,lb] ts=true then .next ρ Y else .ret (.bl false) Y
 |[],la,lb,o,h=>⟨[some (.tup [.int m,tt]),some (aK [la,lb]),o],by rw[gT,OS hs,gF];rfl⟩
 |x::r,la,lb,o,h=>by
  simp only[Kns]at h
  have e:gT src (ao 2) cj (x::r) [some (.tup [.int m,tt]),some (aK [la,lb]),o] Y=(cj [some (.tup [.int m,tt]),some (aK [la,lb]),some x] Y).loop (gT src (ao 2) cj r):=by
   rw[gT,OS hs];rfl
  rw[e,GM h.1];cases hc:(dZ m x&&gy [la,lb] (iZ x)) with
  |false=>
   refine⟨[],?_⟩;simp only[gF,hc,Pr];simp
  |true=>
   have ht:dZ m x=true:=by
    rw[Qy]at hc;exact hc.1
   obtain⟨a,b,rfl,_⟩:=rG ht;obtain⟨ρ,e2⟩:=Ao hs (m:=m) (tt:=tt) (ts:=r) (la:=a) (lb:=b) (o:=some (aK [a,b])) h.2;refine⟨ρ,?_⟩;simp only[Qm,An,gF,hc,Tw];exact e2
theorem oO{k':List Int}{r:List (List Int)}:g6 (k::k'::r)=(gy k k'&&g6 (k'::r)):=by
 unfold g6;simp only[QV,Nat.add_sub_cancel];rw[Rc,QG,Tj];rfl
theorem pP{m:Int}:∀{ts:List D}{k:List Int},gF m k ts=(ts.all (dZ m)&&g6 (k::ts.map iZ))
 |[],k=>by simp[gF,g6]
 |x::r,k=>by
  rw[gF,pP (ts:=r),QC,oO,QG];cases dZ m x <;> cases gy k (iZ x) <;> cases r.all (dZ m) <;> simp
theorem zk{ts:List D}:gF m [-1,-1] ts=(ts.all (dZ m)&&g6 (ts.map iZ)):=by
 rw[pP];cases ts with
 |nil=>simp[g6]
 |cons x r=>
  rw[QC,oO];cases ht:(x::r).all (dZ m) with
  |false=>rfl
  |true=>
   rw[QG,Qy]at ht;obtain⟨a,b,rfl,h1,_⟩:=rG ht.1
   have:gy [-1,-1] (iZ (aK [a,b]))=true:=by
    simp[iZ,aK,gy];omega
   rw[this];rfl
theorem FM(h:Kn Y d):dm [d] Y=.ok (.bl (cO d)) Y:=by
 unfold dm;rw[i0];simp[kM,fw h];cases d with
 |tup xs=>
  simp only[Kn]at h;simp[bE]
  match xs,h with
  |[],h=>simp[cO];exact eH
  |[x],h=>simp[cO];exact eH
  |[x,y],h=>
   simp only[Kns]at h;simp[gB (pN),gB (rj),jS h.2.1];cases x with
   |int m=>
    simp[isInt,fq];by_cases h1:1<=m
    ·have h1' : 0 < m := by omega
     by_cases h2:m<=6
     ·have h2' : m < 7 := by omega
      simp[h1',h2',fw h.2.2.1];cases y with
      |tup ts=>
       simp[bE,PF];have hk:=h.2.2.1;simp only[Kn]at hk;obtain⟨ρ,e⟩:=Ao (src:=.fix ts) (m:=m) (tt:=.tup ts) (ts:=ts) (la:=-1) (lb:=-1) (o:=none) trivial hk.2;simp only[aK,QC,QB]at e;rw[e,zk];have hw:cO (.tup [.int m,.tup ts])=(ts.all (dZ m)&&g6 (ts.map iZ)):=by simp[cO,h1,h2,gU]
       rw[hw];cases (ts.all (dZ m)&&g6 (ts.map iZ)) <;> simp <;> exact eH
      |non=>simp[bE,cO,gU];exact eH
      |bl b=>simp[bE,cO,gU];exact eH
      |int b=>simp[bE,cO,gU];exact eH
      |str b=>simp[bE,cO,gU];exact eH
      |frz b=>simp[bE,cO,gU];exact eH
      |obj b=>simp[bE,cO,gU];exact eH
     ·have h2' : ¬ m < 7 := by omega
      simp[h1',h1,h2,h2',cO];exact eH
    ·have h1' : ¬ 0 < m := by omega
     simp[h1,h1',cO];exact eH
   |non=>simp[isInt,cO];exact eH
   |bl b=>simp[isInt,cO];exact eH
   |str b=>simp[isInt,cO];exact eH
   |tup b=>simp[isInt,cO];exact eH
   |frz b=>simp[isInt,cO];exact eH
   |obj b=>simp[isInt,cO];exact eH
  |x::y::z::r,h=>
   have:¬ ((r.length:Int)+1+1+1=2):=by omega
   simp[this,cO];exact eH
 |non=>simp[bE,cO];exact eH
 |bl b=>simp[bE,cO];exact eH
 |int b=>simp[bE,cO];exact eH
 |str b=>simp[bE,cO];exact eH
 |frz b=>simp[bE,cO];exact eH
 |obj b=>simp[bE,cO];exact eH
def mm(p:Int×Int):List Int:=[min p.1 p.2,max p.1 p.2]
def PP(m:Nat)(p:Int×Int):Prop:=(0<=p.1/\p.1<(m:Int))/\(0<=p.2/\p.2<(m:Int))/\p.1≠p.2
theorem PP.ok{m:Nat}{p:Int×Int}(h:PP m p):Cf m (mm p):=⟨_,_,rfl,by have:=h.1;have:=h.2.1;omega,by have:=h.2.2;omega,by have:=h.1;have:=h.2.1;omega⟩
theorem u9{m:Nat}{ps:List (Int×Int)}(h0:1<=m)(hm:m<=6)(hps:∀p∈ps,PP m p):GW m (jl (ps.map mm)):=xM (by omega) (by omega) fun k hk=>by obtain⟨p,hp,rfl⟩:=Rq.mp hk;exact(hps p hp).ok
theorem tW{m t:Nat}{ps:List (Int×Int)}(h0:1<=m)(hm:m<=6)(hl:ps.length<=100000)(ht:Y[t]?=some (.lst (ps.map ml)))(hps:∀p∈ps,PP m p):dB [.int m,.obj t] Y=.ok (aN m (jl (ps.map mm))) Y:=by
 have c:=dO (U:=Int×Int) (en:=ml) (src:=.own t (ps.map ml)) (g:=dC 2 (bb (ao 0) (bb (ao 1) (dD)))) (t:=bz) (e:=iH) (Y1:=Y) (q:=fun _=>true) (h:=fun p=>aK (mm p)) (fun ρ=>∃o o',ρ=[o,o']) (fun _=>aD ht) (us:=ps) (acc:=[]) (ρ:=[none,none]) ⟨_,_,rfl⟩
  (by rw[Rh];exact O0 (by omega) C1)
  (fun p hp a ρ hJJ => by
   obtain⟨o,o',e⟩:=hJJ;subst e;refine⟨[some (.int p.1),some (.int p.2)],⟨_,_,rfl⟩,rfl,rfl,fun _=>?_⟩;unfold iH;simp only[bV,aB,aq,aw,aj,ak,aa,ae,Mr,Ms,QV,Rh,OS l2]
   rfl)
 rw[rV,QO,show ps.map (fun p=>aK (mm p))=(ps.map mm).map aK from by rw[Re];rfl]at c
 have hk:∀k∈ps.map mm,k∈prs:=fun k hk=>by
  obtain⟨p,hp,rfl⟩:=Rq.mp hk;exact(hps p hp).ok.prs (by omega)
 let M1:au:=Y++[O.lst ((ps.map mm).map aK)]
 have s1:sY [.obj Y.length] M1=.ok (.obj M1.length) (M1++[.set (jK (ps.map mm))]):=by
  unfold sY;dsimp only;rw[show M1[Y.length]?=some (.lst ((ps.map mm).map aK)) from av];dsimp only;unfold wj;rw[xp hk]
 have s2:cZ [.obj M1.length] (M1++[.set (jK (ps.map mm))])=.ok (.obj (M1++[O.set (jK (ps.map mm))]).length) ((M1++[.set (jK (ps.map mm))])++[.lst ((jl (ps.map mm)).map aK)]):=by
  unfold cZ;dsimp only;rw[av];dsimp only;unfold kq;dsimp only;rw[av];dsimp only;rw[xN]
 unfold dB;rw[dj];simp only[mF,List.replicate,bo,bV,aq,aw,aB,ak,aj,aa,ae,cw,cD];rw[gE ht];simp only[aa,ae,dP];rw[show fQ [none,none] _=[none,none] from rfl,c];simp only[aa,ae];rw[show sY [.obj Y.length] (Y++[O.lst ((ps.map mm).map aK)])=_ from s1];simp only[aa,ae];rw[s2];simp only[aa,ae];rw[ju av];simp only[aa,ae,QV,Rh,OS l2,af,ba,M1,QK];exact eE (rT (u9 h0 hm hps))
theorem K3{m q:Nat}{sh:Int}(hi:i<Y0.length)(h:Pn Y0 i Y1)(hq:q<m)(m6:m<=6)(s0:0<sh)(s1:sh<1000):
  ∃(qs:List (Int×Int))(Y2:au),(∀p∈qs,PP m p)/\qs.length<=q/\Pn Y0 i Y2/\Y2.length=Y1.length/\(∀j o,i≠j->Y1[j]?=some o->Y2[j]?=some o)/\compLoop (.fix (d0 0 q)) Y1.length (ao 0) d6 d7 (d0 0 q) [none,some (.int q),some (.obj i),some (.int sh)] (Y1++[.lst []])=.ok (.obj Y1.length) (Y2++[.lst (qs.map ml)]):=by
 have run:=lC (src:=.fix (d0 0 q)) (g:=ao 0) (t:=d6) (e:=d7) (n:=Y1.length)
  (fun xs ys ρ Y2 s=>s=[]/\Y2.length=Y1.length/\Pn Y0 i Y2/\(∀j o,i≠j->Y1[j]?=some o->Y2[j]?=some o)/\(∃o,ρ=[o,some (.int q),some (.obj i),some (.int sh)])/\∃(lo n:Nat)(qs:List (Int×Int)),xs=d0 lo n/\lo+n=q/\ys=qs.map ml/\qs.length<=lo/\(∀p∈qs,PP m p))
  (fun ys ρ Y2 s ⟨_,e1,_⟩=>⟨e1,trivial⟩)
  (fun x r ys ρ Y2 s hJJ => by
   obtain⟨es,e1,e2,ek,⟨o,e4⟩,lo,n,qs,e5,e7,e8,e9,e10⟩:=hJJ;subst es e4 e8;cases n with
   |zero=>rw[ub]at e5;cases e5
   |succ n=>
    rw[oN]at e5;injection e5 with ex er
    subst ex er;have i2:i<Y2.length:=OV hi e2.len;obtain⟨v,a,b,c,v0,v1,ed,hp⟩:=(e2.app (g:=[.lst (qs.map ml)])).draw (m:=sh) hi s0 (by omega);rw[va i2]at ed;refine⟨e1,trivial,[some (.int lo),some (.int q),some (.obj i),some (.int sh)],Y2,[],v == 0,Y2.set i (cu a b c),[],rfl,?_,fun hc=>?_,fun hc=>?_⟩
    ·unfold d6;simp only[cJ,aL,aB,aq,aw,ak,aj,bf,aa,ae,ed,f9,QU,Ql,bw]
    ·refine ⟨ml ((lo : Int), (q : Int)), Y2.set i (cu a b c), [], ?_, ?_, by simpa using e1, rfl, by simpa using e1, e2.set hi, fun j o ne z => by rw [Pd ne]; exact ek j o ne z, ⟨_, rfl⟩, lo + 1, n, qs ++ [((lo : Int), (q : Int))], by push_cast; rfl, by omega, by simp, by simp; omega, fun p hp => ?_⟩
     ·unfold d7;simp only[bV,aq,aw,ak,aj,aa,ae,QV,Rh,OS l2];rfl
     ·rw[Qd];exact OV (show qs.length<1000 by omega) bZ
     ·rcases O7.mp hp with z | z
      ·exact e10 p z
      ·simp at z;subst z;exact⟨⟨by dsimp only;omega,by dsimp only;omega⟩,⟨by dsimp only;omega,by dsimp only;omega⟩,by dsimp only;omega⟩
    ·exact⟨rfl,by simpa using e1,e2.set hi,fun j o ne z=>by rw[Pd ne];exact ek j o ne z,⟨_,rfl⟩,lo+1,n,qs,by push_cast;rfl,by omega,rfl,by omega,e10⟩)
  (xs:=d0 0 q) (ys:=[]) (ρ:=[none,some (.int q),some (.obj i),some (.int sh)]) (Y1:=Y1) (s:=[])
  ⟨rfl,rfl,h,fun _ _ _ z=>z,⟨_,rfl⟩,0,q,[],rfl,by omega,rfl,by simp,fun p hp=>by cases hp⟩
 obtain⟨ys',ρ',Y2,s',⟨es,e1,e2,ek,⟨o,e4⟩,lo,n,qs,e5,e7,e8,e9,e10⟩,run⟩:=run;subst es e8;exact⟨qs,Y2,e10,by omega,e2,e1,ek,run⟩
theorem Pn.put{t:Nat}{o:O}(h:Pn Y0 i M)(ht:Y0.length<=t):Pn Y0 i (M.set t o):=by
 obtain⟨a,b,c,g,rfl⟩:=h;refine⟨a,b,c,g.set (t-Y0.length) o,?_⟩;rw[Tr _ _ (by simpa using ht)];simp
theorem G4{t u:Nat}(ht:M[t]?=some (.lst xs))(hu:M[u]?=some (.lst ys))(hl:xs.length+ys.length<=1000):iN (.obj t) [.obj u] M=.ok .non (M.set t (.lst (xs++ys))):=by
 unfold iN;dsimp only;rw[ht,hu];dsimp only;rw[OS (O0 hl bZ)]
theorem rp{t:Nat}(h:M[t]?=some (.lst xs)):zE (.obj t) M=true:=by
 unfold zE;dsimp only;rw[h]
theorem DH{a b c:Int}(hp:Y[i]?=some (cu a b c)):∃m ks a' b' c',GW m ks/\dW [.obj i,.int 6] Y=.ok (aN m ks) (Y.set i (cu a' b' c')):=by
 have hi:i<Y.length:=(O9.mp hp).1;obtain⟨v,a1,b1,c1,v0,v1,ed,P1⟩:=(Pn.self hp).draw (m:=6) hi (by decide) (by decide);obtain⟨m,em⟩:∃m:Nat,(1:Int)+v=(m:Int):=⟨(1+v).toNat,by omega⟩;obtain⟨s,a2,b2,c2,s0,s1,ed2,P2⟩:=P1.draw (m:=3) hi (by decide) (by decide);let M2:au:=(Y.set i (cu a1 b1 c1)).set i (cu a2 b2 c2)
 have lM2:M2.length=Y.length:=by simp[M2]
 obtain⟨ρ',M',⟨n,cc,ps,o5,e1,e2,e3,e4,e5,e6,e7⟩,run⟩:=nI (src:=.fix (d0 0 m)) (g:=ao 5) (fb:=df)
  (fun xs ρ M=>∃(n cc:Nat)(ps:List (Int×Int))(o5:Option D),xs=d0 n cc/\n+cc=m/\ρ=[some (.obj i),some (.int 6),some (.int m),some (.int (2+s)),some (.obj M2.length),o5]/\Pn Y i M/\M[M2.length]?=some (.lst (ps.map ml))/\ps.length<=6*n/\∀p∈ps,PP m p)
  (fun _ _ _=>trivial)
  (fun x xs ρ M hJJ => by
   obtain⟨n,cc,ps,o5,e1,e2,e3,e4,e5,e6,e7⟩:=hJJ;subst e3;cases cc with
   |zero=>rw[ub]at e1;cases e1
   |succ cc=>
    rw[oN]at e1;injection e1 with ex er
    subst ex er;obtain⟨qs,M3,q1,q2,q3,q4,q5,q6⟩:=K3 (m:=m) (q:=n) (sh:=2+s) hi e4 (by omega) (by omega) (by omega) (by omega);have t3:(M3++[O.lst (qs.map ml)])[M2.length]?=some (.lst (ps.map ml)):=aD (q5 _ _ (by omega) e5);have u3:(M3++[O.lst (qs.map ml)])[M.length]?=some (.lst (qs.map ml)):=by rw[<- q4];exact av
    have ex:=G4 t3 u3 (by rw[Qd,Qd];omega);refine⟨trivial,_,_,[some (.obj i),some (.int 6),some (.int m),some (.int (2+s)),some (.obj M2.length),some (.int n)],(M3++[O.lst (qs.map ml)]).set M2.length (.lst (ps.map ml++qs.map ml)),rfl,?_,n+1,cc,ps++qs,some (.int n),by push_cast;rfl,by omega,rfl,(q3.app).put (by omega),?_,by rw[Qc];omega,fun p hp=>?_⟩
    ·show df [some (.obj i),some (.int 6),some (.int m),some (.int (2+s)),some (.obj M2.length),some (.int n)] M=_;unfold df;simp only[eK,qY,ak,aj,aa,ae,rp e5,Qm,aq,aw,cw,iM];rw[nJ (by omega) (by omega)];simp only[aa,ae,bH,Qj];rw[show fQ [none,some 5,some 0,some 3] [some (D.obj i),some (D.int 6),some (D.int m),some (D.int (2+s)),some (D.obj M2.length),some (D.int n)]=[none,some (.int n),some (.obj i),some (.int (2+s))] from rfl,q6];simp only[aa,ae,ex,af]
    ·rw[qI (by have:=(O9.mp t3).1;exact this),RA]
    ·rcases O7.mp hp with z | z
     ·exact e7 p z
     ·exact q1 p z)
  (xs:=d0 0 m) (ρ:=[some (.obj i),some (.int 6),some (.int m),some (.int (2+s)),some (.obj M2.length),none]) (Y:=M2++[.lst []])
  ⟨0,m,[],none,rfl,by omega,rfl,P2.app,av,by simp,fun p hp=>by cases hp⟩
 have hz:=DU e1.symm;subst hz e3;have hg:GW m (jl (ps.map mm)):=u9 (by omega) (by omega) e7;obtain⟨a7,b7,c7,hgc⟩:=e4.gc (rT hg);refine⟨m,_,a7,b7,c7,hg,?_⟩;unfold dW;rw[dj];simp only[j8,List.replicate];rw[aO,bc];simp only[aL,bf,aB,aq,aw,aj,ak,aa,ae,ed,ic,em,af,bO,aI,TQ,TR];rw[aO,bc];simp only[aL,bf,aB,aq,aw,aj,ak,aa,ae,ed2,ic,af,bO,aI,TQ,TR];rw[aO,bc];simp only[cN,aw,aa,ae,Rh,OS (Q4 sizeLine),af,bO,aI,TQ,TR];rw[aO,lx];simp only[iM,aq,aw,ak,aj,aa,ae];rw[nJ (by omega) (by omega)];simp only[af,ae,bH,Qj];rw[show gT (.fix (d0 0 m)) (ao 5) df (d0 0 m) [some (.obj i),some (.int 6),some (.int m),some (.int (2+s)),some (.obj M2.length),none] (M2++[O.lst []])=_ from run];simp only[aI,bo,aB,aq,aw,ak,aj,aa,ae,tW (show 1<=m by omega) (by omega) (by omega) e5 e7,af,ba];exact hgc
def iU(k:List Int):Int×Int:=(k.getD 0 0,k.getD 1 0)
def uM(p:Int)(k:List Int):Bool:=decide (p=(iU k).1) || decide (p=(iU k).2)
def bD(ks:List (List Int))(p:Int):List Int:=(ks.filter (uM p)).map fun k=>(iU k).1+(iU k).2-p
def jj(l:List Int)(x:Int):List (Int×Int):=(l.filter fun y=>decide (x<y)).map fun y=>(x,y)
def E3(m:Nat)(ks:List (List Int)):List (Int×Int):=ks.map iU++(rg m).flatMap fun p=>(bD ks p).flatMap (jj (bD ks p))
theorem Ez{t u:Nat}(ht:M[t]?=some (.lst xs))(hu:M[u]?=some (.lst ys))(hl:xs.length+ys.length<=100000):iN (.obj t) [.obj u] M=.ok .non (M.set t (.lst (xs++ys))):=by
 unfold iN;dsimp only;rw[ht,hu];dsimp only;rw[OS (O0 hl C1)]
theorem KJ{p a b:Int}:oq false (.int p) (.tup [.int a,.int b]) Y=.ok (.bl (decide (p=a) || decide (p=b))) Y:=by
 show ai.ok (D.bl ((a == p) || ((b == p) || false))) Y=_;congr 2;rw[Bool.or_false];congr 1
 ·apply PB.mpr;rw[S8,Td];exact eq_comm
 ·apply PB.mpr;rw[S8,Td];exact eq_comm
section
variable{m:Nat}
theorem nQ(h:GW m ks){p:Int}:(bD ks p).length<=15:=by
 have:=d9 h;unfold bD;rw[Qd];exact O0 (T6 _ _) this
theorem i7(h:GW m ks){p x:Int}:x∈bD ks p↔Ii ks p x:=by
 rw[ig h.2.2.2.2];unfold bD;rw[Rq];constructor
 ·rintro ⟨k, hk, rfl⟩
  obtain⟨h1,h2⟩:=OY.mp hk;obtain⟨a,b,rfl,_⟩:=h.2.2.2.2 k h1;have h3:p=a\/p=b:=by simpa[uM,iU] using h2
  rcases h3 with rfl|rfl
  ·left;rw[show (iU [p,b]).1+(iU [p,b]).2-p=b from by show p+b-p=b;omega];exact h1
  ·right;rw[show (iU [a,p]).1+(iU [a,p]).2-p=a from by show a+p-p=a;omega];exact h1
 ·rintro (h1 | h1)
  ·exact⟨[p,x],OY.mpr ⟨h1,by simp[uM,iU]⟩,by show p+x-p=x;omega⟩
  ·exact⟨[x,p],OY.mpr ⟨h1,by simp[uM,iU]⟩,by show x+p-p=x;omega⟩
theorem qB{p:Int}(h:GW m ks):cg [aN m ks,.int p] Y=.ok (.obj Y.length) (Y++[.lst ((bD ks p).map D.int)]):=by
 have n2:0+1+1<=sizeLine:=l2
 have c:=dO (U:=List Int) (en:=aK) (src:=.fix (ks.map aK)) (g:=dC 2 (bb (ao 0) (bb (ao 1) (dD)))) (t:=hV) (e:=hZ) (Y1:=Y) (q:=uM p) (h:=fun k=>.int ((iU k).1+(iU k).2-p)) (fun ρ=>∃o o',ρ=[o,o',some (.int p)]) (fun _=>trivial) (us:=ks) (acc:=[]) (ρ:=[none,none,some (.int p)]) ⟨_,_,rfl⟩
  (by rw[Rh];have:=d9 h;exact O0 (by omega) bZ)
  (fun k hk a ρ hJJ => by
   obtain⟨o,o',e⟩:=hJJ;subst e;obtain⟨x,y,rfl,_⟩:=h.2.2.2.2 k hk;refine⟨[some (.int x),some (.int y),some (.int p)],⟨_,_,rfl⟩,rfl,?_,fun _=>?_⟩
   ·unfold hV;simp only[cJ,aL,bV,aq,aw,ak,aj,aa,ae,QV,Rh,OS n2,KJ,bw];rfl
   ·unfold hZ;simp only[aL,ak,aj,aa,ae,ic]
    rfl)
 rw[QO,show (ks.filter (uM p)).map (fun k=>D.int ((iU k).1+(iU k).2-p))=(bD ks p).map D.int from by unfold bD;rw[Re];rfl]at c;unfold cg;rw[dj];simp only[lQ,List.replicate,bo,cw,cD,aL,aj,bf,aa,ae,ia,iL,bH];rw[show fQ [none,none,some 1] _=[none,none,some (.int p)] from rfl,c];simp only[af,ae,ba];exact pK (by simp)
theorem Fq{N:Nat}{l:List Int}{x:Int}(hN:M[N]?=some (.lst (l.map D.int)))(hl:l.length<=15):compLoop (.own N (l.map D.int)) M.length (ao 0) eM eQ (l.map D.int) [none,some (.int x)] (M++[.lst []])=.ok (.obj M.length) (M++[.lst ((jj l x).map ml)]):=by
 have c:=dO (U:=Int) (en:=D.int) (src:=.own N (l.map D.int)) (g:=ao 0) (t:=eM) (e:=eQ) (Y1:=M) (q:=fun y=>decide (x<y)) (h:=fun y=>ml (x,y)) (fun ρ=>∃o,ρ=[o,some (.int x)]) (fun _=>aD hN) (us:=l) (acc:=[]) (ρ:=[none,some (.int x)]) ⟨_,rfl⟩
  (by rw[Rh];exact O0 (by omega) bZ)
  (fun y hy a ρ hJJ => by
   obtain⟨o,e⟩:=hJJ;subst e;refine⟨[some (.int y),some (.int x)],⟨_,rfl⟩,rfl,?_,fun _=>?_⟩
   ·unfold eM;simp only[cJ,aL,ak,aj,aa,ae,lZ,bw];rfl
   ·unfold eQ;simp only[bV,aq,aw,ak,aj,aa,ae,QV,Rh,OS l2]
    rfl)
 rw[QO,show (l.filter fun y=>decide (x<y)).map (fun y=>ml (x,y))=(jj l x).map ml from by unfold jj;rw[Re];rfl]at c;exact c
theorem rM{l:List Int}{x:Int}:(jj l x).length<=l.length:=by
 unfold jj;rw[Qd];exact T6 _ _
theorem qK{Z β:Type}{f:Z->List β}{k:Nat}(h:∀x,(f x).length<=k):∀l:List Z,(l.flatMap f).length<=l.length*k
 |[]=>by simp
 |w::l=>by
  rw[T7,Qc,QV,Nat.succ_mul];have:=h w;have:=qK h l;omega
theorem CU{M:au}{T N:Nat}{ps:List (Int×Int)}{l:List Int}{o0 o2:Option D}(hT:M[T]?=some (.lst (ps.map ml)))(hN:M[N]?=some (.lst (l.map D.int)))(ne:T≠N)(hl:l.length<=15)(hp:ps.length<=10000):∀(xs:List Int)(dn:List Int)(M1:au)(o4:Option D),l=dn++xs->M1[T]?=some (.lst ((ps++dn.flatMap (jj l)).map ml))->(∀j o,T≠j->M[j]?=some o->M1[j]?=some o) ->
  ∃(M2:au)(o4':Option D),gT (.own N (l.map D.int)) (ao 4) eP (xs.map D.int) [o0,some (.obj T),o2,some (.obj N),o4] M1=.next [o0,some (.obj T),o2,some (.obj N),o4'] M2/\M2[T]?=some (.lst ((ps++l.flatMap (jj l)).map ml))/\(∀j o,T≠j->M[j]?=some o->M2[j]?=some o)
 |[],dn,M1,o4,e,h1,h2=>by
  rw[PJ]at e;subst e;refine⟨M1,o4,?_,h1,h2⟩;rw[QB];unfold gT;rw[OS (show dJ (.own N _) M1 from h2 N _ ne hN)]
 |x::xs,dn,M1,o4,e,h1,h2=>by
  have hN1:=h2 N _ ne hN;have c:=Fq (M:=M1) (x:=x) hN1 hl
  have fl:(dn.flatMap (jj l)).length<=15*15:=by
   have h3:=qK (f:=jj l) (k:=15) (fun y=>O0 rM hl) dn;have h4:dn.length<=15:=by have:=Ph List.length e;simp at this;omega
   exact O0 h3 (T8 15 h4)
  have rl:(jj l x).length<=15:=O0 rM hl;have ex:=Ez (M:=M1++[.lst ((jj l x).map ml)]) (aD h1) av (by rw[Qd,Qd,Qc];omega);have tl:T<M1.length:=(O9.mp h1).1
  obtain⟨M2,o4',r1,r2,r3⟩:=CU (o0:=o0) (o2:=o2) hT hN ne hl hp xs (dn++[x]) ((M1++[O.lst ((jj l x).map ml)]).set T (.lst ((ps++dn.flatMap (jj l)).map ml++(jj l x).map ml))) (some (.int x)) (by rw[e];simp)
   (by rw[qI (by rw[Qc];omega),List.flatMap_append,T7,T9,PJ,<- QK,RA (l₂:=jj l x)])
   (fun j o nj z=>by rw[Pd nj];exact aD (h2 j o nj z))
  refine⟨M2,o4',?_,r2,r3⟩;rw[QC];unfold gT;rw[OS (show dJ (.own N _) M1 from hN1)];simp only[bO,af,ae,TQ,TR]
  rw[show eP [o0,some (.obj T),o2,some (.obj N),some (.int x)] M1=.next [o0,some (.obj T),o2,some (.obj N),some (.int x)] ((M1++[O.lst ((jj l x).map ml)]).set T (.lst ((ps++dn.flatMap (jj l)).map ml++(jj l x).map ml))) from by
   unfold eP;simp only[eK,qY,ak,aj,aa,ae,rp h1,Qm,aq,aw,cw,cD];rw[gE hN1];simp only[aa,ae,dP];rw[show fQ [none,some 4] [o0,some (D.obj T),o2,some (D.obj N),some (D.int x)]=[none,some (.int x)] from rfl,c]
   simp only[aa,ae,ex,af]]
  exact r1
end
section
variable{m:Nat}
def tP(ks:List (List Int))(l:List Int):List (Int×Int):=l.flatMap fun p=>(bD ks p).flatMap (jj (bD ks p))
theorem BB(h:GW m ks){p:Int}:((bD ks p).flatMap (jj (bD ks p))).length<=225:=by
 have hl:=nQ h (p:=p);have h3:=qK (f:=jj (bD ks p)) (k:=15) (fun y=>O0 rM hl) (bD ks p);exact O0 h3 (T8 15 hl)
theorem xb(h:GW m ks)(l:List Int):(tP ks l).length<=l.length*225:=qK (fun p=>BB h) l
theorem zS{T:Nat}{Y:au}(h:GW m ks):∀(xs dn:List Int)(M:au)(o2 o3 o4:Option D),dn.length+xs.length<=6->M[T]?=some (.lst ((ks.map iU++tP ks dn).map ml))->Y.length<=T->(∀j,j<Y.length->M[j]?=Y[j]?) ->
  ∃(M':au)(o2' o3' o4':Option D),gT (.fix ((rg m).map D.int)) (ao 2) eO (xs.map D.int) [some (aN m ks),some (.obj T),o2,o3,o4] M=.next [some (aN m ks),some (.obj T),o2',o3',o4'] M'/\M'[T]?=some (.lst ((ks.map iU++tP ks (dn++xs)).map ml))/\(∀j,j<Y.length->M'[j]?=Y[j]?)
 |[],dn,M,o2,o3,o4,hl,hT,hμ,hk=>by
  refine⟨M,o2,o3,o4,?_,by rw[PJ];exact hT,hk⟩;rw[QB];unfold gT;rw[OS (show dJ (.fix _) M from trivial)]
 |p::xs,dn,M,o2,o3,o4,hl,hT,hμ,hk=>by
  have nl:=nQ h (p:=p);have pl:=xb h dn;have kl:=d9 h;simp only[QV]at hl;have tl:T<M.length:=(O9.mp hT).1
  obtain⟨M2,o4',r1,r2,r3⟩:=CU (M:=M++[.lst ((bD ks p).map D.int)]) (T:=T) (N:=M.length) (ps:=ks.map iU++tP ks dn) (l:=bD ks p) (o0:=some (aN m ks)) (o2:=some (.int p)) (aD hT) av (by omega) nl
   (by
    rw[Qc,Qd];have:dn.length*225<=6*225:=T8 225 (by omega)
    omega) (bD ks p) [] (M++[.lst ((bD ks p).map D.int)]) o4 rfl (by rw[T9,PJ];exact aD hT) (fun _ _ _ z=>z)
  obtain⟨M',o2',o3',o4'',q1,q2,q3⟩:=zS h xs (dn++[p]) M2 (some (.int p)) (some (.obj M.length)) o4' (by rw[Qc];simp only[QV,Rh];omega)
   (by rw [r2]; unfold tP; rw [List.flatMap_append, T7, T9, PJ, QK]) hμ (fun j hj => by
    have hj':j<M.length:=by
     have:j<T:=by omega
     omega
    rw[r3 j M[j] (by omega) (by rw[PZ hj',SK hj']),<- hk j hj,SK hj'])
  refine⟨M',o2',o3',o4'',?_,by rw[q2,QK];rfl,q3⟩;rw[QC];unfold gT;rw[OS (show dJ (.fix _) M from trivial)];simp only[bO,af,ae,TQ,TR]
  rw[show eO [some (aN m ks),some (.obj T),some (.int p),o3,o4] M=.next [some (aN m ks),some (.obj T),some (.int p),some (.obj M.length),o4'] M2 from by
   unfold eO;rw[aO,bc];simp only[aB,aq,aw,ak,aj,aa,ae,qB h,af,bO,aI,TQ,TR];rw[lx];simp only[cD,ak,aj,aa,ae];rw[gE (show (M++[O.lst ((bD ks p).map D.int)])[M.length]?=some (.lst ((bD ks p).map D.int)) from av)];simp only[af,ae,dP]
   exact r1]
  exact q1
theorem CT(h:GW m ks):∀p∈E3 m ks,PP m p:=fun p hp=>by
 rcases O7.mp hp with z|z
 ·obtain⟨k,hk,rfl⟩:=Rq.mp z;obtain⟨a,b,rfl,h1,h2,h3⟩:=h.2.2.2.2 k hk;exact⟨⟨h1,by show a<(m:Int);omega⟩,⟨by show 0<=b;omega,h3⟩,by show a≠b;omega⟩
 ·obtain⟨q,hq,z⟩:=TX.mp z;obtain⟨x,hx,z⟩:=TX.mp z;obtain⟨y,hy,rfl⟩:=Rq.mp z;obtain⟨hy,hxy⟩:=OY.mp hy;have ax:=LJ h ((i7 h).mp hx);have ay:=LJ h ((i7 h).mp hy);have:=TZ hxy;exact⟨ax.2,ay.2,by dsimp only;omega⟩
def tw(m:Nat)(ks:List (List Int)):List (List Int):=jl ((E3 m ks).map mm)
theorem zT(h:GW m ks):GW m (tw m ks):=u9 h.m0 h.m6 (CT h)
theorem FL(h:GW m ks):eA [aN m ks] Y=.ok (aN m (tw m ks)) Y:=by
 have m0:=h.m0;have m6:=h.m6;have kl:=d9 h
 have e0:ks.map aK=(ks.map iU).map ml:=by
  rw[Re];apply Rf;intro k hk;obtain⟨a,b,rfl,_⟩:=h.2.2.2.2 k hk;rfl
 obtain⟨M',o2,o3,o4,run,hT,hk⟩:=zS (T:=Y.length) (Y:=Y) h (rg m) [] (Y++[.lst (ks.map aK)]) none none none (by rw[yy];simpa using m6) (by rw[e0];show _=some (O.lst ((ks.map iU++[]).map ml));rw[PJ];exact av) (Pv _) (fun j hj=>PZ hj);rw[QO]at hT
 obtain⟨g,hpre⟩:∃g,M'=Y++g:=by
  refine⟨M'.drop Y.length,?_⟩;apply Ss;intro i;by_cases hi:i<Y.length
  ·rw[PZ hi,hk i hi]
  ·rw[PX (by omega),RF];congr 1;omega
 have hr:∀Y,mJ [.int (m:Int)] Y=.ok (.fix ((rg m).map D.int)) Y:=fun Y=>by rw[nJ (by omega) (by omega),C4]
 have wo:=tW (Y:=M') m0 m6 (ps:=E3 m ks) (by
  unfold E3;rw[Qc,Qd];have:=xb h (rg m);unfold tP at this;rw[yy]at this;have h2:m*225<=6*225:=T8 225 m6
  omega) hT (CT h)
 unfold eA;rw[i0];simp only[kN,List.replicate];rw[aO,bc];simp only[aB,aq,aw,aL,aj,bf,aa,ae,ia];rw[show kG [.tup (ks.map aK)] Y=.ok (.obj Y.length) (Y++[.lst (ks.map aK)]) from rfl];simp only[af,ae,bO,aI,TQ,TR];rw[aO,lx];simp only[iM,aq,aw,aL,aj,bf,aa,ae,fu,hr,af,bH];rw[run];simp only[aI,bo,aB,aq,aw,aL,ak,aj,bf,aa,ae,fu,wo,af,ba];rw[hpre];exact eE (rT (zT h))
end
def Kp(P:Nat)(M M':au):Prop:=(∃a b c,M'[P]?=some (cu a b c))/\∀j o,P≠j->M[j]?=some o->M'[j]?=some o
theorem Pn.kp{M':au}{P:Nat}(h:Pn M P M')(hP:P<M.length):Kp P M M':=by
 refine⟨h.get hP,fun j o ne e=>?_⟩;obtain⟨a,b,c,g,rfl⟩:=h;exact aD (by rw[Pd ne];exact e)
def Nv(w:Nat)(q:PyData):Prop:=q.showable=true/\q.leavesShort 40=true/\q.weight<=w/\q.hasDict=false
def GT(T:au->Prop)(n w:Nat)(d:D):Prop:=(∃q,(∀Y,T Y->ye Y n d=some q)/\Nv w q/\q.depth<=n)/\∀Y,T Y->Kn Y d
theorem GT.w{w w':Nat}(h:GT T n w d)(hw:w<=w'):GT T n w' d:=by
 obtain⟨⟨q,h1,⟨a,b,c,e⟩,h3⟩,h4⟩:=h;exact⟨⟨q,h1,⟨a,b,O0 c hw,e⟩,h3⟩,h4⟩
theorem GT.of{w:Nat}(h:GT (fun _=>True) n w d):GT T n w d:=by
 obtain⟨⟨q,h1,h2,h3⟩,h4⟩:=h;exact⟨⟨q,fun Y _=>h1 Y trivial,h2,h3⟩,fun Y _=>h4 Y trivial⟩
section
variable{w k:Nat}
theorem KW(h:wu d=some q):ye Y n d=some q:=by
 cases n with
 |zero=>exact h
 |succ n=>
  cases d with
  |tup _=>cases h
  |frz _=>cases h
  |obj _=>cases h
  |_=>exact h
theorem nH(h:wu d=some q)(o:Nv w q)(hd:q.depth=0):GT T n w d:=by
 refine⟨⟨q,fun Y _=>KW h,o,by omega⟩,fun Y _=>?_⟩;cases d with
 |tup _=>cases h
 |frz _=>cases h
 |obj _=>cases h
 |_=>simp[Kn]
theorem Bw{i:Int}(h0:-1<=i)(h1:i<=8):Nv 8 (.int i):=by
 have:i=-1\/i=0\/i=1\/i=2\/i=3\/i=4\/i=5\/i=6\/i=7\/i=8:=by omega
 rcases this with rfl|rfl|rfl|rfl|rfl|rfl|rfl|rfl|rfl|rfl <;> exact⟨by decide +kernel,by decide +kernel,by decide +kernel,rfl⟩
theorem Ua{i:Int}(h0:-1<=i)(h1:i<=8):GT T n 8 (.int i):=nH rfl (Bw h0 h1) rfl
theorem KQ:GT T n 110 (.int 1000000000000000000000000000000):=nH rfl ⟨by decide +kernel,by decide +kernel,by decide +kernel,rfl⟩ rfl
theorem MC{b:Bool}:GT T n 8 (.bl b):=nH rfl ⟨rfl,rfl,by simp[PyData.weight],rfl⟩ rfl
theorem Dj:GT T n 8 .non:=nH rfl ⟨rfl,rfl,by simp[PyData.weight],rfl⟩ rfl
theorem rS:∀{xs:List D},(∀x∈xs,GT T n w x)->∃qs,(∀Y,T Y->oy (ye Y n) xs=some qs)/\PyData.showableAll qs=true/\PyData.leavesShortAll 40 qs=true/\PyData.weightAll qs<=xs.length*(w+1)/\PyData.hasDictAll qs=false/\PyData.depthAll qs<=n/\∀Y,T Y->Kns Y xs
 |[],_=>⟨[],fun _ _=>rfl,rfl,rfl,by simp[PyData.weightAll],rfl,by simp[PyData.depthAll],fun _ _=>by simp[Kns]⟩
 |x::xs,h=>by
  obtain⟨⟨q,q1,⟨a,b,c,e⟩,q3⟩,q4⟩:=h x O3;obtain⟨qs,r1,r2,r3,r4,r5,r6,r7⟩:=rS fun y hy=>h y (O4 _ hy);refine⟨q::qs,fun Y hμ=>?_,?_,?_,?_,?_,?_,fun Y hμ=>?_⟩
  ·simp only[oy,q1 Y hμ,r1 Y hμ,Option.bind_some,Option.map_some]
  ·simp only[PyData.showableAll,a,r2,RU]
  ·simp only[PyData.leavesShortAll,b,r3,RU]
  ·simp only[PyData.weightAll,QV,Nat.succ_mul];omega
  ·simp only[PyData.hasDictAll,e,r5,Bool.or_self]
  ·simp only[PyData.depthAll];exact Nat.max_le.mpr ⟨q3,r6⟩
  ·simp only[Kns];exact⟨q4 Y hμ,r7 Y hμ⟩
theorem f7(h:∀x∈xs,GT T n w x)(hl:xs.length<=k)(hk:k<1000):GT T (n+1) (k*(w+1)) (.tup xs):=by
 obtain⟨qs,r1,r2,r3,r4,r5,r6,r7⟩:=rS h;refine⟨⟨.tuple qs,fun Y hμ=>?_,⟨?_,?_,?_,?_⟩,?_⟩,fun Y hμ=>?_⟩
 ·show (oy (ye Y n) xs).map PyData.tuple=_;rw[r1 Y hμ];rfl
 ·simp only[PyData.showable,r2]
 ·simp only[PyData.leavesShort,r3]
 ·simp only[PyData.weight];exact O0 r4 (T8 _ hl)
 ·simp only[PyData.hasDict,r5]
 ·simp only[PyData.depth];omega
 ·simp only[Kn];exact⟨by omega,r7 Y hμ⟩
theorem yD{t:Nat}(ht:∀Y,T Y->Y[t]?=some (.lst xs))(h:∀x∈xs,GT T n w x)(hl:xs.length<=k):GT T (n+1) (k*(w+1)) (.obj t):=by
 obtain⟨qs,r1,r2,r3,r4,r5,r6,r7⟩:=rS h;refine⟨⟨.list qs,fun Y hμ=>?_,⟨?_,?_,?_,?_⟩,?_⟩,fun Y hμ=>?_⟩
 ·unfold ye;dsimp only;rw[ht Y hμ];dsimp only;rw[r1 Y hμ];rfl
 ·simp only[PyData.showable,r2]
 ·simp only[PyData.leavesShort,r3]
 ·simp only[PyData.weight];exact O0 r4 (T8 _ hl)
 ·simp only[PyData.hasDict,r5]
 ·simp only[PyData.depth];omega
 ·simp only[Kn];refine⟨"list",?_,by decide,by decide,by decide⟩;unfold vQ;dsimp only;rw[ht Y hμ]
end
theorem vh{w:Nat}(h:GT T 5 w d)(hw:w<=300000)(hr:oH d=true):∃x,∀Y,T Y->Kn Y d/\iC [d] Y=.ok (.str x) Y:=by
 obtain⟨⟨q,q1,⟨a,b,c,e⟩,q3⟩,q4⟩:=h;refine⟨q.shown,fun Y hμ=>⟨q4 Y hμ,?_⟩⟩
 have hl:q.shown.length<=sizeLine:=by
  have h1:=PyData.shown_le 40 (by decide) q b;have h2:(40+2)*q.weight<=42*300000:=Nat.mul_le_mul (Pv _) (by omega);rw[PF];omega
 have ok:qD q=true:=by
  unfold qD;rw[a,e,QP (show q.depth<=60 by omega),QP hl];rfl
 cases d with
 |tup xs=>unfold iC;dsimp only;rw[q1 Y hμ];dsimp only;rw[OS ⟨rfl,ok⟩]
 |frz xs=>unfold iC;dsimp only;rw[q1 Y hμ];dsimp only;rw[OS ⟨rfl,ok⟩]
 |obj k=>unfold iC;dsimp only;rw[q1 Y hμ];dsimp only;rw[OS ⟨rfl,ok⟩]
 |_=>cases hr
theorem Dp{xs:List β}{r:Nat}{n:Int}(e:n=(r:Int)):bX xs (some n) none=xs.drop r:=by
 subst e;unfold bX;have h1:HT.sIx xs.length 0 (some (r:Int))=min r xs.length:=HT.sIx_nat _ _ r;have h2:HT.sIx xs.length xs.length none=xs.length:=rfl;rw[h1,h2];by_cases h:r<=xs.length
 ·rw[Nat.min_eq_left h,Rn (by rw[Qq];exact Pv _)]
 ·rw[Nat.min_eq_right (by omega),RK,List.take_zero,List.drop_eq_nil_of_le (by omega)]
theorem HH:sZ (.int 10) (.int 30) Y=.ok (.int 1000000000000000000000000000000) Y:=by
 rw[show (sZ:D->D->au->ai D)=EX yp fun i j=>.int (i^j.toNat) from rfl,mP (show yp 10 30 from⟨by decide,by decide,by decide⟩)];rfl
theorem i4{r:Int}(h0:0<=r)(h1:r<(n:Int))(hl:xs.length=n):∃d,atI xs r=some d/\d∈xs:=by
 have h:r.toNat<xs.length:=by omega
 exact⟨xs[r.toNat],K8 h0 (SK h),SJ h⟩
theorem ma(h:xs.length+ys.length<=1000):bN (.tup xs) (.tup ys) M=.ok (.tup (xs++ys)) M:=by
 unfold bN;dsimp only;rw[OS (O0 h bZ)]
theorem nK{a b:Nat}(ha:M[a]?=some (.lst xs))(hb:M[b]?=some (.lst ys))(h:xs.length+ys.length<=1000):bN (.obj a) (.obj b) M=.ok (.obj M.length) (M++[.lst (xs++ys)]):=by
 unfold bN;dsimp only;rw[ha,hb];dsimp only;rw[OS (O0 h bZ)]
def Nw(T:au->Prop)(n0 n w:Nat)(d:D):Prop:=GT (fun _=>True) n w d\/(GT T n w d/\¬ d.low n0)
section
variable{n0 w k:Nat}
theorem Nw.wk{w':Nat}(h:Nw T n0 n w d)(hw:w<=w'):Nw T n0 n w' d:=h.elim (fun z=>.inl (z.w hw)) fun z=>.inr ⟨z.1.w hw,z.2⟩
theorem Nw.gt(h:Nw T n0 n w d):GT T n w d:=h.elim (fun z=>z.of) fun z=>z.1
theorem Kg(h:∀x∈xs,Nw T n0 n w x)(hl:xs.length<=k)(hk:k<1000):Nw T n0 (n+1) (k*(w+1)) (.tup xs):=by
 by_cases c:∀x∈xs,GT (fun _=>True) n w x
 ·exact .inl (f7 c hl hk)
 ·obtain⟨x,hx,hn⟩:∃x∈xs,¬ GT (fun _=>True) n w x:=by
   rcases Classical.em (∃x∈xs,¬ GT (fun _=>True) n w x) with z|z
   ·exact z
   ·exact absurd (fun x hx=>Ru fun y=>z ⟨x,hx,y⟩) c
  refine .inr ⟨f7 (fun y hy=>(h y hy).gt) hl hk,fun z=>?_⟩;rcases h x hx with y|⟨_,y⟩
  ·exact hn y
  ·rw[nF]at z;exact y (i8.mp z x hx)
end
def Kw(l:Nat)(M M':au):Prop:=∀(j:Nat) o,l<=j->M[j]?=some o->M'[j]?=some o
def ES(l:Nat)(M:au)(d:D):Prop:=∃x,∀Y,Kw l M Y->Kn Y d/\iC [d] Y=.ok (.str x) Y
section
variable{m:Nat}
theorem G1{a b:Int}(a0:-1<=a)(a8:a<=8)(b0:-1<=b)(b8:b<=8):GT T (n+1) 18 (.tup [.int a,.int b]):=f7 (k:=2) (w:=8) (fun x hx=>by
 simp only[O5,Sg,Sh]at hx;rcases hx with rfl|rfl
 ·exact Ua a0 a8
 ·exact Ua b0 b8) (by simp) (by decide)
end
theorem nE{x:DX}{g:MS}:(SO.exc x Y).bind g=.exc x Y:=S9 (Ta _)
theorem i6{x:DX}:(SO.exc x Y).out=.exc x Y:=S9 (Ta _)
theorem kC{x:DX}{f:β->au->SO}:(ai.exc x Y:ai β).bindS f=.exc x Y:=S9 (Ta _)
theorem mO{x:DX}{Y':au}:nk Y (.exc x Y')=.exc x Y':=S9 (Ta _)
theorem rW{c:Str}:uP c ρ Y=.exc ⟨c,[]⟩ Y:=S9 (Ta _)
theorem K1{k':List Int}(hm:m<=6)(h:∃a b:Int,k=[a,b]/\0<=a/\a<b/\b<=m-1)(h':∃a b:Int,k'=[a,b]/\0<=a/\a<b/\b<=m-1)(e:gy k k'=true):qc k<qc k':=by
 obtain⟨a,b,rfl,h1,h2,h3⟩:=h;obtain⟨c,d,rfl,g1,g2,g3⟩:=h';unfold gy at e;unfold qc;simp at e⊢;omega
theorem C6{m:Int}(hm:m<=6):∀{ks:List (List Int)},(∀k∈ks,∃a b:Int,k=[a,b]/\0<=a/\a<b/\b<=m-1)->g6 ks=true->ks.Pairwise fun a b=>qc a<qc b
 |[],_,_=>List.Pairwise.nil
 |[k],_,_=>by simp
 |k::k'::r,hk,h=>by
  rw[oO,Qy]at h;have ih:=C6 hm (ks:=k'::r) (fun x hx=>hk x (O4 _ hx)) h.2;have lt:=K1 hm (hk k O3) (hk k' (O4 _ O3)) h.1;refine Rz.mpr ⟨fun x hx=>?_,ih⟩;rcases O5.mp hx with rfl|hx
  ·exact lt
  ·have:=(Rz.mp ih).1 x hx;omega
theorem Fm(h:cO d=true):∃m ks,d=aN m ks/\GW m ks:=by
 unfold cO at h;split at h
 ·rename_i m ts;simp only[Qy,Td]at h;obtain⟨⟨h1,h2⟩,h3⟩:=h;unfold gU at h3;split at h3
  ·rename_i ts;rw[Qy]at h3;obtain⟨ks,rfl,ek,hk⟩:=xG h3.1;rw[ek]at h3;obtain⟨n,rfl⟩:∃n:Nat,m=(n:Int):=⟨m.toNat,by omega⟩;refine⟨n,ks,rfl,rfl,h1,h2,C6 h2 hk h3.2,fun k hk'=>?_⟩;obtain⟨a,b,e,x,y,z⟩:=hk k hk';exact⟨a,b,e,x,y,by omega⟩
  ·cases h3
 ·cases h
section
variable{m m':Nat}{w:D}
theorem Kr(h:GW m ks):Kn M (aN m ks):=by
 have hl:=d9 h;simp only[aN,Kn,Kns,Qd,and_true];refine⟨by simp,trivial,by omega,js.mpr fun x hx=>?_⟩;obtain⟨k,hk,rfl⟩:=Rq.mp hx;obtain⟨a,b,rfl,_⟩:=h.2.2.2.2 k hk;simp[aK,Kn,Kns]
theorem Fl(h:GW m ks):cO (aN m ks)=true:=by
 have m0:=h.m0;have m6:=h.m6
 have ek:(ks.map aK).map iZ=ks:=by
  rw[Re];refine(Rf fun k hk=>?_).trans (List.map_id ks);obtain⟨a,b,rfl,_⟩:=h.2.2.2.2 k hk;rfl
 simp only[aN,cO,gU,ek,Qy,Td,RP];refine⟨⟨by omega,by omega⟩,fun x hx=>?_,RP.mpr fun i hi=>Jt h.2.2.2.2 (by omega) h.2.2.2.1 i (OZ.mp hi)⟩;obtain⟨k,hk,rfl⟩:=Rq.mp hx;obtain⟨a,b,rfl,h1,h2,h3⟩:=h.2.2.2.2 k hk;simp[aK,dZ,kY,cI];omega
theorem KN(h:GW m ks):hU [aN m ks] M=.ok (.bl true) M:=by rw[C0 (Kr h),Fl h]
theorem MK (hd:Kn Y d) (e:cO d=false):bh [w,d] Y=.exc ⟨"NoRoot",[]⟩ Y:=by
 unfold bh;rw[dj];simp only[jN,List.replicate,bK,iB,dF,fN,aB,aq,aw,ak,aj,aa,C0 hd,ae,e,cL,R0,Qm,af,rW,i6,mO]
theorem yI (h:GW m ks) (h':GW m' ks'):bh [aN m ks,aN m' ks'] Y=if m'=m then .ok .non Y else .exc ⟨"NoRoot",[]⟩ Y:=by
 unfold bh;rw[dj];simp only[jN,List.replicate,bK,iB,dF,fN,aB,aq,aw,ak,aj,aa,KN h',ae,cL,RQ,QU,Ql,cJ,aL,bf,fu,f9,bw,Qm];by_cases e:m'=m
 ·subst e;simp only[QT,RQ,af,ae,QU,Ql,Qm,bI,xf];exact aR (by simp)
 ·rw[OT e,show ((m':Int) == (m:Int))=false from by rw[OQ];omega];simp only[R0,af,ae,Qm,rW,i6,mO]
end
abbrev Lb(ls:List (List Int)):D:=.tup (ls.map cm)
def Lo:D->Int
 |.int i=>i
 |_=>0
def HY:D->List Int
 |.tup xs=>xs.map Lo
 |_=>[]
theorem Ct{w:List Int}:HY (cm w)=w:=by
 show (w.map D.int).map Lo=w;rw[Re];exact List.map_id' w
def NR(w:List Int):Bool:=(List.range (w.length-1)).all fun i=>decide (w.getD i 0<w.getD (i+1) 0)
theorem Ad(h:kY m d=true):∃w:List Int,d=cm w/\HY d=w/\∀n∈w,0<=n/\n<=m-1:=by
 cases d with
 |tup xs=>
  obtain⟨ns,rfl,f⟩:=w8 h;exact⟨ns,rfl,Ct,f⟩
 |_=>cases h
theorem yV:(my ns).Perm ns:=Tn ns _
theorem rX:∀{v w:List Int},PyData.eqvAll (v.map PyData.int) (w.map PyData.int)=decide (v=w)
 |[],[]=>rfl
 |[],_::_=>rfl
 |_::_,[]=>rfl
 |a::v,b::w=>by
  simp only[QC,PyData.eqvAll,rX (v:=v) (w:=w),PyData.eqv];apply PB.mpr;simp
def c1(n:Int)(xs:List D)(p:Nat):Bool:=kY n (xs.getD p .non)&&(NR (HY (xs.getD p .non))&&decide ((p:Int)∈HY (xs.getD p .non)))
theorem yE{c:Str}(h:Y[n]?=some (.exc c))(hk:known.contains c=true):mL subs known (.obj n) Y=.ok (.bl (subs.contains c)) Y:=by
 unfold mL;dsimp only;rw[h];dsimp only;rw[OS hk]
theorem AE{a b:Nat}(h:Y[a]?=some (.lst xs))(g:Y[b]?=some (.lst ys))(hn:xs.length+ys.length<=1000000):bN (.obj a) (.obj b) Y=.ok (.obj Y.length) (Y++[.lst (xs++ys)]):=by
 unfold bN;simp only[h,g];rw[OS (O0 hn (by decide))]
theorem l4:(4:Nat)<=sizeLine:=by decide
theorem l8:(8:Nat)<=sizeLine:=by decide
abbrev qU:List D:=[.str "place",.str "number",.str "line",.str "root",.str "tree",.str "web",.str "text",.str "great"]
abbrev kA(p:Bool):List D:=[D.bl p,D.bl false,D.bl false,D.bl (!p)]
abbrev kB:List D:=[D.bl false,D.bl false,D.bl false,D.bl false]
abbrev kR(p:Bool)(Y:au):au:=Y++[O.lst (kA p)]++[O.lst kB]
abbrev kS(p:Bool)(Y:au):au:=kR p Y++[O.lst (kA p++kB)]
theorem Hx{c:Str}(p:Bool)(cp:(["NoPlace"]:List Str).contains c=p)(cr:(["NoRoot"]:List Str).contains c=!p)(c0:([]:List Str).contains c=false)(ck:(["NoPlace", "NoRoot"]:List Str).contains c=true)(h:Y[n]?=some (.exc c)):dc [.obj n] Y=.ok (.str (if p then "place" else "root")) Y:=by
 have h1:(Y++[O.lst (kA p)])[n]?=some (.exc c):=aD h;have h2:(kR p Y)[n]?=some (.exc c):=aD h1;have h3:(kS p Y)[n]?=some (.exc c):=aD h2;have m3:(kS p Y)[(kR p Y).length]?=some (.lst (kA p++kB)):=av;have m4:(kS p Y++[O.lst qU])[(kR p Y).length]?=some (.lst (kA p++kB)):=aD m3;have k4:(kS p Y++[O.lst qU])[(kS p Y).length]?=some (.lst qU):=av;have a1:=AE (Y:=kR p Y) (a:=Y.length) (b:=(Y++[O.lst (kA p)]).length) (xs:=kA p) (ys:=kB) (aD av) av (show 8<=1000000 by decide)
 have c1:l7 (.obj (kR p Y).length) [.bl true] (kS p Y)=.ok (.int 1) (kS p Y):=by
  unfold l7;dsimp only;rw[m3];cases p <;> rfl
 have i1:l0 (.obj (kR p Y).length) [.bl true] (kS p Y++[O.lst qU])=.ok (.int (if p then 0 else 3)) (kS p Y++[O.lst qU]):=by
  unfold l0;dsimp only;rw[m4];dsimp only;rw[OS ⟨by cases p <;> rfl,by simp,by cases p <;> rfl⟩];cases p <;> rfl
 have e3:zE (.obj (kR p Y).length) (kS p Y)=true:=by unfold zE;dsimp only;rw[m3]
 have e4:zE (.obj (kR p Y).length) (kS p Y++[O.lst qU])=true:=by unfold zE;dsimp only;rw[m4]
 unfold dc;rw[i0];simp only[lR,List.replicate,aO,bc,cN,aq,aw,gA,aj,aa,ae,yE h ck,cp,cr,c0,ck];rw[OS (show (kA p).length<=sizeLine from l4)];simp only[af,ae];rw[show ao 1 (D.obj Y.length) [some (D.obj n),none] (Y++[O.lst (kA p)])=.ok [some (D.obj n),some (D.obj Y.length)] (Y++[O.lst (kA p)]) from rfl];simp only[af,aI,aO,bc,aL,cN,aq,aw,gA,aj,ak,aa,ae,yE h1 ck,cp,cr,c0,ck];rw[OS (show kB.length<=sizeLine from l4)];simp only[aa,ae];rw[a1];simp only[af,ae];rw[show ao 1 (D.obj (kR p Y).length) [some (D.obj n),some (D.obj Y.length)] (kS p Y)=.ok [some (D.obj n),some (D.obj (kR p Y).length)] (kS p Y) from rfl];simp only[af,aI,aO,bK,iB,dF,fN,gA,aL,aq,aw,aj,ak,bf,aa,ae,yE h3 ck,cp,cr,c0,ck,cL,RQ,QU,Ql];unfold gY;simp only[aL,qY,aq,aw,aj,ak,bf,aa,ae,e3,Qm,c1,f9,bw];rw[show (!((1:Int) == 1))=false from rfl];simp only[af,QU,Ql,bI,aI,bo,aL,cN,aq,aw,bf,aa,ae];rw[OS (show [D.str "place",D.str "number",D.str "line",D.str "root",D.str "tree",D.str "web",D.str "text",D.str "great"].length<=sizeLine from l8)];simp only[aa,ae,qY,aq,aw,ak,aj,bf,e4,Qm,i1];rw[eV (xs:=qU) (d:=.str (if p then "place" else "root")) k4 (by cases p <;> rfl)];simp only[af,ae,ba,QK];exact eE (by simp)
theorem pT:(["NoPlace", "NoRoot"]:List Str).contains "NoRoot" = true:=by decide +kernel
theorem oa:(["NoPlace", "NoRoot"]:List Str).contains "NoPlace" = true:=by decide +kernel
theorem sF(h:Y[n]?=some (.exc "NoRoot")):dc [.obj n] Y=.ok (.str "root") Y:=Hx false (by decide +kernel) (by decide +kernel) (by decide +kernel) pT h
theorem Ta{x:D}{p:PyData}(e:mw Y x=some p)(f:eS p=true):kZ neg x x Y=.ok (.bl (!neg)) Y:=by
 unfold kZ;rw[e];dsimp only;rw[OS ⟨f,f⟩,SeqAt.eqv_refl _ (cQ f)];cases neg <;> rfl
theorem Oe:yo neg (.str x) (.str x) M=.ok (.bl (!neg)) M:=by
 unfold yo;dsimp only;rw[QP rfl];cases neg <;> rfl
theorem Dm{x y:D}{p:PyData}(e:mw M x=some p)(e':mw M y=some p)(f:eS p=true):kZ neg x y M=.ok (.bl (!neg)) M:=by
 unfold kZ;rw[e,e'];dsimp only;rw[OS ⟨f,f⟩,SeqAt.eqv_refl _ (cQ f)];cases neg <;> rfl
theorem BP:eS (.list [.str "root",.str "root"])=true:=by decide +kernel
theorem tT(h:M[n]?=some (.lst [.str "root",.str "root"])):mw M (.obj n)=some (.list [.str "root",.str "root"]):=by
 unfold mw;dsimp only;rw[h];rfl
theorem rP{Y:au}:∀fs:List Int,toPs Y (fs.map D.int)=some (fs.map PyData.int)
 |[]=>rfl
 |x::fs=>by simp only[QC,toPs,rP fs];rfl
theorem u7{Y:au}:∀ls:List (List Int),iu Y (ls.map cm)=some (ls.map gw)
 |[]=>rfl
 |l::ls=>by
  have:yk Y (cm l)=some (gw l):=by
   show (toPs Y (l.map D.int)).map PyData.tuple=_;rw[rP];rfl
  simp only[QC,iu,u7 ls,this];rfl
theorem IP:mw Y (Lb ls)=some (.tuple (ls.map gw)):=by
 simp only[mw,u7,Option.map_some]
theorem uO:∀ls:List (List Int),PyData.canLayAll0 (ls.map gw)=true/\PyData.depthAll (ls.map gw)<=1
 |[]=>by simp[PyData.canLayAll0,PyData.depthAll]
 |l::ls=>by
  have ih:=uO ls;have f:=lB l;simp only[QC,PyData.canLayAll0,PyData.depthAll,ih.1,gw,PyData.canLay0,PyData.depth,f.1,f.2];have:=ih.2;exact⟨rfl,by omega⟩
theorem IS:eS (.tuple (ls.map gw))=true:=by
 have:=uO ls;simp only[eS,PyData.canLay0,this.1,PyData.depth,Tw];exact QP (by have:=this.2;omega)
theorem KE:fm "tuple" (.tup xs) Y=.ok (.bl true) Y:=rfl
theorem Hw{w:List Int}:yl (cm w) Y=.ok (.fix (w.map D.int)) Y:=rfl
theorem Eu{w:List Int}(hl:w.length<=1000):compLoop (.fix (w.map D.int)) M.length (ao 0) bz dG (w.map D.int) [none] (M++[.lst []])=.ok (.obj M.length) (M++[.lst ((w.map fun _=>true).map D.bl)]):=by
 have c:=dO (U:=Int) (en:=D.int) (src:=.fix (w.map D.int)) (g:=ao 0) (t:=bz) (e:=dG) (Y1:=M) (q:=fun _=>true) (h:=fun _=>.bl true) (fun ρ=>∃o,ρ=[o]) (fun _=>trivial) (us:=w) (acc:=[]) (ρ:=[none]) ⟨_,rfl⟩
  (by rw[Rh];exact O0 (by omega) bZ)
  (fun k hk x ρ hJJ => by
   obtain⟨o,e'⟩:=hJJ;subst e';refine⟨[some (.int k)],⟨_,rfl⟩,rfl,rfl,fun _=>?_⟩;unfold dG;simp only[aB,aq,aw,aj,aa,ae]
   exact jS (by simp[Kn]))
 rw[c,rV,QO,Re];rfl
theorem tX(h:∀k∈ls,k.length<=1000)(hl:ls.length<=1000):bF [Lb ls,Lb ls] Y=.ok (.bl true) Y:=by
 obtain⟨ys',ρ',Y2,s',⟨e1,n,L',e3,e4,e5,e6,e7⟩,run⟩:=lC (src:=.fix (ls.map cm)) (g:=ao 0) (t:=bz) (e:=fO) (n:=Y.length)
  (fun xs ys ρ Y2 s=>Y2=Y/\∃(n:Nat)(L':List (List Int)),xs=L'.map cm/\(∀k∈L',k.length<=1000)/\ys=(List.replicate n true).map D.bl/\n+L'.length<=1000/\∃o,ρ=[o])
  (fun ys ρ Y2 s ⟨e,_⟩=>⟨by rw[e],trivial⟩)
  (fun x r ys ρ Y2 s hJ => by
   obtain⟨e1,n,L',e3,e4,e5,e6,o,e7⟩:=hJ;subst e1 e5 e7;cases L' with
   |nil=>cases e3
   |cons k L'=>
    rw[QC]at e3;injection e3 with ex er
    subst ex er;have hk:=e4 k O3;simp only[QV]at e6;refine⟨rfl,trivial,[some (cm k)],Y2,s,true,Y2,s,rfl,rfl,fun _=>⟨.bl true,Y2,s++[.lst ((k.map fun _=>true).map D.bl)],?_,?_,rfl,rfl,n+1,L',rfl,fun k hk=>e4 k (O4 _ hk),?_,by omega,_,rfl⟩,fun z=>by cases z⟩
    ·unfold fO;simp only[vm,gA,aj,aa,ae];rw[show fm "tuple" (cm k) (Y2++O.lst ((List.replicate n true).map D.bl)::s)=.ok (.bl true) (Y2++O.lst ((List.replicate n true).map D.bl)::s) from rfl];simp only[aa,ae,bw,Qm,aB,aq,aw,cw,cD,aj,Hw,bH];rw[show fQ [none] [some (cm k)]=[none] from rfl,Eu hk];simp only[aa,ae];refine(kn av).trans ?_;rw[show (k.map fun _=>true).all id=true from by simp];simp only[QK,Rj]
    ·simp only[Qd,Qe];exact OV (show n<1000 by omega) bZ
    ·rw[List.replicate_succ',RA];rfl)
  (xs:=ls.map cm) (ys:=[]) (ρ:=[none]) (Y1:=Y) (s:=[]) ⟨rfl,0,ls,rfl,h,rfl,by omega,_,rfl⟩
 subst e1 e5;unfold bF;rw[dj];simp only[jD,List.replicate];rw[aO,bK];simp only[iB,dF,fN,gA,aL,cJ,ak,aj,aa,ae,KE,cL,RQ,QU,Ql,Ta IP IS,bw,af,bI,aI,bo,aB,aq,aw,cw,cD,iL,bH];rw[EG,Hg,run];simp only[aa,ae];rw[kn (bs:=List.replicate n true) (by rw[PX (Pv _),RK];rfl)];rw[show (List.replicate n true).all id=true from by simp];simp only[af,ae,ba];exact eE (by simp)
theorem nO{m:Nat}{x:D}{p:Int}(h:0<=p/\p<(m:Int)):bB [.tup [.int m,x],.int p] Y=.ok .non Y:=by
 unfold bB;rw[dj];simp only[jM,List.replicate,bK,dF,fN,aB,aq,aw,aL,aj,ak,bf,aa,ae,fu];rw[DE (show Lc Y (.int p) from nofun),show Lk m (.int p)=true from QP h];simp only[aa,ae,cL,RQ,af,QU,Ql,bI,xf];exact aR (by simp)
theorem zZ{m:Nat}{p:Int}(h:wD (.tup [.int m,.tup (ks.map aK)]) m ks)(hp:0<=p/\p<(m:Int)):gm [.tup [.int m,.tup (ks.map aK)],.int p] Y=.ok (cm (cX m ks p)) Y:=by
 have hl:=d9 h;obtain⟨_,h0,h1,_,hk⟩:=h;have eN:(Y++[O.lst [.int p]]++[O.lst [.int p]])[(Y++[O.lst [.int p]]).length]?=some (.lst ([p].map D.int)):=av;obtain⟨t,g,ns,e1,e2,e3,e4,e5⟩:=DF (Y:=Y++[O.lst [.int p]]++[O.lst [.int p]]) hk hl eN
 have mem:∀q,q∈p::ns↔q∈cX m ks p:=fun q=>by
  unfold cX;rw[O5,e5 q,OY,uR];simp only[Q5,exists_eq_left,Tp,Td,ig hk,wN hk];constructor
  ·rintro (rfl | z)
   ·exact⟨hp,.inl rfl⟩
   ·refine⟨?_,.inr z⟩;rcases z with z|z <;> (obtain⟨u,v,e,h3,h4,h5⟩:=hk _ z;simp at e;obtain⟨ea,eb⟩:=e;subst ea eb;exact⟨by omega,by omega⟩)
  ·rintro ⟨_, z | z⟩
   ·exact .inl z
   ·exact .inr z
 have rng:∀n∈p::ns,0<=n/\n<6:=fun n hn=>by
  have:=uR.mp (OY.mp ((mem n).mp hn)).1;omega
 unfold gm;rw[dj];have l1:([D.int p]:List D).length<=sizeLine:=O0 (by simp) bZ;simp only[uF,List.replicate,aO,eK,aB,aq,aw,aj,ak,aa,ae,nO hp,af,aI,bo,aL,cN,OS l1,bf,ia,e1]
 have ad:bN (.obj Y.length) (.obj t) (Y++[O.lst [.int p]]++[O.lst [.int p]]++g)=.ok (.obj (Y++[O.lst [.int p]]++[O.lst [.int p]]++g).length) ((Y++[O.lst [.int p]]++[O.lst [.int p]]++g)++[O.lst ((p::ns).map D.int)]):=by
  unfold bN;dsimp only;rw[e2,aD (aD av)];dsimp only;rw[OS]
  ·rfl
  ·rw[Qd];exact O0 (show _<=1000 by simp;omega) bZ
 rw[ad];simp only[aa,ae]
 have st:∀M:au,sY [.obj M.length] (M++[O.lst ((p::ns).map D.int)])=.ok (.obj (M++[O.lst ((p::ns).map D.int)]).length) ((M++[O.lst ((p::ns).map D.int)])++[O.iset (i3 (p::ns))]):=fun M=>by
  unfold sY;dsimp only;rw[av];dsimp only;unfold wj;rw[show qV ((p::ns).map D.int)=none from rfl,GX rng]
 rw[st];simp only[aa,ae]
 have so:∀M:au,cZ [.obj M.length] (M++[O.iset (i3 (p::ns))])=.ok (.obj (M++[O.iset (i3 (p::ns))]).length) ((M++[O.iset (i3 (p::ns))])++[.lst ((cX m ks p).map D.int)]):=fun M=>by
  unfold cZ;dsimp only;rw[av];dsimp only;unfold kq;dsimp only;rw[av];dsimp only;rw[Bd mem]
 rw[so];simp only[aa,ae];rw[ju av];simp only[af,ae,ba];simp only[QK];exact eE (by simp only[nF];exact i8.mpr fun x hx=>by obtain⟨k,_,rfl⟩:=Rq.mp hx;simp)
section
variable{m:Nat}
theorem sr(h:GW m ks){p:Int}:(bD ks p++[p]).Nodup:=by
 have hk:=h.2.2.2.2;rw[RX];refine⟨?_,by simp,fun a ha b hb=>?_⟩
 ·unfold bD;refine Sw.mpr ?_;refine((h.2.2.2.1.filter (uM p)).imp_of_mem fun {k k'} h1 h2 hlt e=>?_);obtain⟨h1,p1⟩:=OY.mp h1;obtain⟨h2,p2⟩:=OY.mp h2;obtain⟨a,b,rfl,_,hab,_⟩:=hk k h1;obtain⟨c,d,rfl,_,hcd,_⟩:=hk k' h2;have q1:p=a\/p=b:=by simpa[uM,iU] using p1
  have q2:p=c\/p=d:=by simpa[uM,iU] using p2
  have e':a+b-p=c+d-p:=e;have:a=c/\b=d:=by omega
  obtain⟨rfl,rfl⟩:=this;exact absurd hlt (Int.lt_irrefl _)
 ·rw[Q5.mp hb];intro e;subst e;rcases (ig hk).mp ((i7 h).mp ha) with z|z <;> (obtain⟨u,v,e,_,hlt,_⟩:=hk _ z;simp at e;omega)
theorem BA(h:GW m ks){p:Int}(hp:0<=p/\p<(m:Int)):cX m ks p=my (bD ks p++[p]):=by
 have hk:=h.2.2.2.2;have up:(cX m ks p).Pairwise (·<·):=Cy.filter _;refine rK ?_ (up.imp fun {a b} h=>Int.le_of_lt h);refine(RN (up.imp fun {a b} h=>by omega) (sr h)).mpr fun q=>?_;unfold cX;rw[OY,uR,O7,Q5,i7 h,ig hk,Tp,Td,wN hk];constructor
 ·rintro ⟨_, z | z⟩
  ·exact .inr z
  ·exact .inl z
 ·rintro (z | z)
  ·refine⟨?_,.inr z⟩;rcases z with z|z <;> (obtain⟨u,v,e,h3,h4,h5⟩:=hk _ z;simp at e;obtain⟨ea,eb⟩:=e;subst ea eb;exact⟨by omega,by omega⟩)
  ·subst z;exact⟨hp,.inl rfl⟩
theorem sf{p:Int}(hm:m<=6):(cX m ks p).length<=6:=by
 unfold cX;exact O0 (T6 _ _) (by rw[yy];exact hm)
end
theorem wM:∀{K:List (List Int)},(∀k∈K,Sm k)->qS (K.map cm)=some K
 |[],_=>rfl
 |k::K,h=>by
  have ih:=wM (K:=K) fun x hx=>h x (O4 _ hx)
  have e:wg (cm k)=some k:=by
   show (match jn (k.map D.int) with|some ns=>if Na ns=true then some ns else none|none=>none)=_;rw[rR];dsimp only;rw[OS (Ab.mpr (h k O3))]
  rw[QC];unfold qS;rw[e,ih]
theorem Aa{t:Nat}{K:List (List Int)}(ht:M[t]?=some (.lst (K.map cm)))(hs:∀k∈K,Sm k)(hn:K.Nodup)(hl:K.length<64):cZ [.obj t] M=.ok (.obj M.length) (M++[.lst ((nA K).map cm)]):=by
 unfold cZ;dsimp only;rw[ht];dsimp only;rw[wM hs];dsimp only;rw[OS ⟨hn,hl⟩];rfl
theorem rZ{U:Type}{en:U->D}{src:pG}{g:MG}{t:MT}{e:ME}{M0:au}{q:U->Bool}{h:U->D}(R:Ro->Prop)(ho:∀a s,dJ src (M0++.lst a::s)) :
  ∀{us:List U}{acc:List D}{ρ:Ro}{s:au},R ρ->acc.length+us.length<=sizeLine->(∀x∈us,∀a s ρ,R ρ->∃ρ1 s1,R ρ1/\g (en x) ρ (M0++.lst a::s)=.ok ρ1 (M0++.lst a::s)/\t ρ1 (M0++.lst a::s)=.ok (q x) (M0++.lst a::s1)/\(q x=true->e ρ1 (M0++.lst a::s1)=.ok (h x) (M0++.lst a::s1))) ->
   ∃s',compLoop src M0.length g t e (us.map en) ρ (M0++.lst acc::s)=.ok (.obj M0.length) (M0++.lst (acc++(us.filter q).map h)::s')
 |[],acc,ρ,s,hr,hl,he=>by
  refine⟨s,?_⟩;rw[QB];unfold compLoop;rw[OS (ho acc s)];simp
 |x::xs,acc,ρ,s,hr,hl,he=>by
  obtain⟨ρ1,s1,r1,e1,e2,e3⟩:=he x O3 acc s ρ hr;have he':=fun y hy=>he y (O4 _ hy);simp only[QV]at hl;cases hq:q x with
  |false=>
   obtain⟨s',ih⟩:=rZ R ho (us:=xs) (acc:=acc) (s:=s1) r1 (by omega) he';refine⟨s',?_⟩;rw[QC];unfold compLoop;rw[OS (ho acc s),e1];simp only[ae,aa];rw[e2];simp only[ae,aa];rw[hq,OT PD,ih,Ts,hq];rfl
  |true=>
   obtain⟨s',ih⟩:=rZ R ho (us:=xs) (acc:=acc++[h x]) (s:=s1) r1 (by simp;omega) he';refine⟨s',?_⟩;rw[QC];unfold compLoop;rw[OS (ho acc s),e1];simp only[ae,aa];rw[e2];simp only[ae,aa];rw[hq,OS rfl,e3 hq];simp only[ae,aa];rw[jU (by omega)];simp only[aa,ae];rw[ih,Ts,hq];simp
theorem l3:(3:Nat)<=sizeLine:=by decide
theorem jt{A σ:au}{x:O}(h:n=A.length):(A++x::σ)[n]?=some x:=by subst h;simp
theorem yw{A g:au}{t:Nat}{o:O}(h:A.length<=t):(A++g).set t o=A++g.set (t-A.length) o:=Tr t o h
theorem yK{t:Nat}(h:M[t]?=some (.lst xs))(hl:xs.length<1000):ie (.obj t) [d] M=.ok .non (M.set t (.lst (xs++[d]))):=by
 unfold ie;dsimp only;rw[h];dsimp only;rw[OS (OV hl bZ)]
section
variable{m:Nat}{a b:Int}
def sV(ks:List (List Int))(a b:Int):List (List Int):=((bD ks a).filter fun p=>decide (b∈bD ks p)).map fun p=>[a,p,b]
def nr(ks:List (List Int))(a b:Int):List (List Int):=sV ks a b++(if b∈bD ks a then [[a,b]] else [])
def mq(ks:List (List Int))(a b:Int):List (List Int):=if a=b then [] else nA (nr ks a b)
theorem jr(h:GW m ks){p x:Int}(hx:x∈bD ks p):(0<=x/\x<(m:Int))/\(0<=p/\p<(m:Int))/\x≠p:=by
 have hk:=h.2.2.2.2;rcases (ig hk).mp ((i7 h).mp hx) with z|z <;> (obtain⟨u,v,e,h3,h4,h5⟩:=hk _ z;simp at e;obtain⟨ea,eb⟩:=e;subst ea eb;exact⟨⟨by omega,by omega⟩,⟨by omega,by omega⟩,by omega⟩)
theorem vc:k∈nr ks a b↔(∃p,p∈bD ks a/\b∈bD ks p/\k=[a,p,b])\/(b∈bD ks a/\k=[a,b]):=by
 unfold nr sV;rw[O7,Rq];constructor
 ·rintro (⟨p, hp, rfl⟩ | h)
  ·obtain⟨h1,h2⟩:=OY.mp hp;exact .inl ⟨p,h1,TZ h2,rfl⟩
  ·split at h
   ·rename_i hb;exact .inr ⟨hb,Q5.mp h⟩
   ·cases h
 ·rintro (⟨p, h1, h2, rfl⟩ | ⟨h1, rfl⟩)
  ·exact .inl ⟨p,OY.mpr ⟨h1,QP h2⟩,rfl⟩
  ·rw[OS h1];exact .inr (Q5.mpr rfl)
theorem oP(h:GW m ks):(nr ks a b).Nodup:=by
 unfold nr;rw[RX];refine⟨?_,by split <;> simp,fun x hx y hy e=>?_⟩
 ·unfold sV;have:=(RX.mp (sr h (p:=a))).1;refine Sw.mpr ((this.filter _).imp fun {x y} hxy e=>hxy ?_);simp at e;exact e
 ·unfold sV at hx;obtain⟨p,_,rfl⟩:=Rq.mp hx;split at hy
  ·rw[Q5.mp hy]at e;simp at e
  ·cases hy
theorem yz(h:GW m ks):∀k∈nr ks a b,Sm k:=fun k hk=>by
 have m6:=h.m6;rcases vc.mp hk with⟨p,h1,h2,rfl⟩|⟨h1,rfl⟩
 ·have q1:=jr h h1;have q2:=jr h h2;refine⟨by simp,by simp,?_⟩;simp only[Ce,O5,Sg,Sh,TH,TJ];omega
 ·have q1:=jr h h1;refine⟨by simp,by simp,?_⟩;simp only[Ce,O5,Sg,Sh,TH,TJ];omega
theorem Al(h:GW m ks):(sV ks a b).length<=15:=by
 unfold sV;rw[Qd];exact O0 (T6 _ _) (nQ h)
theorem vd(h:GW m ks):(nr ks a b).length<=16:=by
 unfold nr;have:=Al (a:=a) (b:=b) h;rw[Qc];split <;> simp <;> omega
theorem zW(ne:a≠b):k∈mq ks a b↔(∃p,p∈bD ks a/\b∈bD ks p/\k=[a,p,b])\/(b∈bD ks a/\k=[a,b]):=by
 unfold mq;rw[OT ne,jb.mem_iff,vc]
theorem zX(h:GW m ks):(mq ks a b).length<=16:=by
 unfold mq;split
 ·simp
 ·rw[jb.length_eq];exact vd h
theorem oM(h:GW m ks):∃(n:Nat)(G:au),bS [aN m ks,.int a,.int b] Y=.ok (.obj n) (Y++G)/\(Y++G)[n]?=some (.lst ((mq ks a b).map cm))/\Y.length<=n:=by
 have n2:0+1+1<=sizeLine:=l2;have n3:0+1+1+1<=sizeLine:=l3;unfold bS;rw[g7];simp only[kO,List.replicate,aO,bK,cJ,aL,aj,ak,aa,ae,f9,bw,QU,Ql,af];by_cases e:a=b
 ·subst e;refine⟨Y.length,[.lst []],?_,?_,Pv _⟩
  ·simp only[QT,Qm,bo,cN,aw,aa,Rh,Q4,af,fM,ba];exact pK (by simp)
  ·rw[av,show mq ks a a=[] from OS rfl];rfl
 ·rw [show (a == b) = false from OQ.mpr e];simp only[QU,Ql,bI,aI,aO,bc,cw,cD,aB,aq,aw,aj,ak,aa,ae,qB h];rw[gE (show (Y++[O.lst ((bD ks a).map D.int)])[Y.length]?=_ from av)];simp only[aa,ae,dP]
  obtain⟨s,c⟩:=rZ (U:=Int) (en:=D.int) (src:=.own Y.length ((bD ks a).map D.int)) (g:=ao 0) (t:=gQ) (e:=gR) (M0:=Y++[O.lst ((bD ks a).map D.int)]) (q:=fun p=>decide (b∈bD ks p)) (h:=fun p=>cm [a,p,b])
   (fun ρ=>∃o,ρ=[o,some (.int a),some (.int b),some (aN m ks)]) (fun _ _=>aD av) (us:=bD ks a) (acc:=[]) (ρ:=[none,some (.int a),some (.int b),some (aN m ks)]) (s:=[]) ⟨_,rfl⟩ (by rw[Rh];have:=nQ (p:=a) h;exact O0 (by omega) bZ)
   (fun p hp x s ρ ⟨o, ho⟩ => by
    subst ho;refine⟨[some (.int p),some (.int a),some (.int b),some (aN m ks)],s++[O.lst ((bD ks p).map D.int)],⟨_,rfl⟩,rfl,?_,fun _=>?_⟩
    ·unfold gQ;simp only[cJ,aL,aB,aq,aw,ak,aj,aa,ae,qB h];rw[qG av];simp only[aa,bw,QK,Rj]
    ·unfold gR;simp only[bV,aq,aw,ak,aj,aa,ae,QV,Rh,OS n3]
     rfl)
  rw[show fQ [none,some 1,some 2,some 0] [some (aN m ks),some (.int a),some (.int b),none]=[none,some (.int a),some (.int b),some (aN m ks)] from rfl,c];let M1:au:=Y++[O.lst ((bD ks a).map D.int)]
  let M2:au:=M1++.lst ((sV ks a b).map cm)::s
  have em:([]:List D)++((bD ks a).filter fun p=>decide (b∈bD ks p)).map (fun p=>cm [a,p,b])=(sV ks a b).map cm:=by
   unfold sV;rw[QO,Re];rfl
  rw[em];simp only[af,bO,TQ,TR,aI,aO,bK,cJ,aL,aB,aq,aw,aj,ak,aa,ae,qB h];rw[qG av];simp only[aa,bw,af];have hM:∀g:au,(M2++g)[M1.length]?=some (.lst ((sV ks a b).map cm)):=fun g=>aD (jt rfl)
  have fin:∀(M:au),M[M1.length]?=some (.lst ((nr ks a b).map cm))->(∃g,M=Y++g) ->
    ∃(n:Nat)(G:au),nk Y ((bM (aC cZ (ag (ah 3) aA)) [some (aN m ks),some (.int a),some (.int b),some (.obj M1.length)] M).out)=.ok (.obj n) (Y++G)/\(Y++G)[n]?=some (.lst ((mq ks a b).map cm))/\Y.length<=n:=fun M hx ⟨g,hg⟩=>by
   subst hg;refine⟨(Y++g).length,g++[.lst ((mq ks a b).map cm)],?_,?_,by simp⟩
   ·simp only[bo,aB,aq,aw,ak,aj,aa,ae];rw[Aa hx (yz h) (oP h) (by have:=vd (a:=a) (b:=b) h;omega)];simp only[af,ba];rw[pK (by simp),show mq ks a b=nA (nr ks a b) from OT e,QK]
   ·rw[<- QK];exact av
  by_cases hb:b∈bD ks a
  ·rw [QP hb];simp only[Qm,eK,qY,aq,aw,bV,ak,aj,aa,ae,QV,Rh,OS n2];have hx:=hM [O.lst ((bD ks a).map D.int)];rw[show zE (.obj M1.length) (M2++[O.lst ((bD ks a).map D.int)])=true from rp hx];simp only[Qm,aa];rw[show ie (.obj M1.length) [.tup [.int a,.int b]] (M2++[O.lst ((bD ks a).map D.int)])=_ from yK hx (by rw[Qd];have:=Al (a:=a) (b:=b) h;omega)];simp only[af,aI];refine fin _ ?_ ?_
   ·rw[Pc (O9.mp hx).1];unfold nr;rw[OS hb,RA];rfl
   ·exact⟨_,by simp only[M2,M1,QK];exact yw (by simp)⟩
  ·rw [OP hb];simp only[QU,Ql,bI,aI];refine fin _ ?_ ?_
   ·rw[hM];unfold nr;rw[OT hb,PJ]
   ·exact⟨_,by simp only[M2,M1,QK];rfl⟩
end
section
variable{m:Nat}{a b:Int}
theorem jP(h:GW m ks){p q:Int}(hp:0<=p/\p<(m:Int)):q∈cX m ks p↔q∈bD ks p\/q=p:=by
 rw[BA h hp,yV.mem_iff,O7,Q5]
theorem xk(h:GW m ks){p q:Int}:p∈bD ks q↔q∈bD ks p:=by
 have hk:=h.2.2.2.2;rw[i7 h,i7 h,ig hk,ig hk];exact or_comm
def AM(m:Nat)(ks:List (List Int))(a b p:Int):Bool:=decide (p∈cX m ks a) && !decide (p∈[a,b])
def vX(m:Nat)(ks:List (List Int))(a b:Int):List (List Int):=((cX m ks b).filter (AM m ks a b)).map (fun p=>[a,p,b])++(if b∈cX m ks a then [[a,b]] else [])
theorem FG:(cX m ks a).Pairwise (·<·):=Cy.filter _
theorem ue(h:GW m ks)(ha:0<=a/\a<(m:Int))(hb:0<=b/\b<(m:Int))(ne:a≠b):(vX m ks a b).Perm (nr ks a b):=by
 have nd:(vX m ks a b).Nodup:=by
  unfold vX;rw[RX];refine⟨?_,by split <;> simp,fun x hx y hy e=>?_⟩
  ·refine Sw.mpr ((FG.filter _).imp fun {x y} hxy e=>?_);simp at e;omega
  ·obtain ⟨p, _, rfl⟩ := Rq.mp hx;split at hy
   ·rw[Q5.mp hy]at e;simp at e
   ·cases hy
 refine(RN nd (oP h)).mpr fun k=>?_;rw[vc];unfold vX;rw[O7,Rq];constructor
 ·rintro (⟨p, hp, rfl⟩ | hx)
  ·obtain ⟨h1, h2⟩ := OY.mp hp;simp only[AM,Qy,Td,Bool.not_eq_true',Ub,O5,Sg,Sh,Si]at h2;obtain⟨h2,h3,h4⟩:=h2;refine .inl ⟨p,?_,?_,rfl⟩
   ·exact((jP h ha).mp h2).resolve_right h3
   ·exact(xk h).mp (((jP h hb).mp h1).resolve_right h4)
  ·split at hx
   ·rename_i hs;exact .inr ⟨((jP h ha).mp hs).resolve_right (O6 ne),Q5.mp hx⟩
   ·cases hx
 ·rintro (⟨p, h1, h2, rfl⟩ | ⟨h1, rfl⟩)
  ·refine .inl ⟨p,OY.mpr ⟨(jP h hb).mpr (.inl ((xk h).mpr h2)),?_⟩,rfl⟩;simp only[AM,Qy,Td,Bool.not_eq_true',Ub,O5,Sg,Sh,Si];exact⟨(jP h ha).mpr (.inl h1),(jr h h1).2.2,fun z=>(jr h h2).2.2 z.symm⟩
  ·rw[OS ((jP h ha).mpr (.inl h1))];exact .inr (Q5.mpr rfl)
theorem Bm(h:GW m ks)(ha:0<=a/\a<(m:Int))(hb:0<=b/\b<(m:Int))(ne:a≠b):nA (vX m ks a b)=mq ks a b:=by
 rw[show mq ks a b=nA (nr ks a b) from OT ne];exact wR (yz h) (jb.trans (ue h ha hb ne)) wU
theorem GY{p:Int}:oq true (.int p) (.tup [.int a,.int b]) M=.ok (.bl (!decide (p∈[a,b]))) M:=CL (neg:=true) (w:=[a,b])
theorem oK(h:GW m ks)(ha:0<=a/\a<(m:Int))(hb:0<=b/\b<(m:Int)):∃(n:Nat)(G:au),bt [aN m ks,.int a,.int b] Y=.ok (.obj n) (Y++G)/\(Y++G)[n]?=some (.lst ((mq ks a b).map cm))/\Y.length<=n:=by
 have n2:0+1+1<=sizeLine:=l2;have n3:0+1+1+1<=sizeLine:=l3;have ca:∀M,bB [aN m ks,.int a] M=.ok .non M:=fun M=>nO ha;have cb:∀M,bB [aN m ks,.int b] M=.ok .non M:=fun M=>nO hb;have sa:∀M,gm [aN m ks,.int a] M=.ok (cm (cX m ks a)) M:=fun M=>zZ h ha;have sb:∀M,gm [aN m ks,.int b] M=.ok (cm (cX m ks b)) M:=fun M=>zZ h hb;unfold bt;rw[g7];simp only[iR,List.replicate,aO,eK,aB,aq,aw,bK,cJ,aL,aj,ak,aa,ae,ca,cb,aI,f9,bw,QU,Ql,af];by_cases e:a=b
 ·subst e;refine⟨Y.length,[.lst []],?_,?_,Pv _⟩
  ·simp only[QT,Qm,bo,cN,aw,aa,Rh,Q4,af,fM,ba];exact pK (by simp)
  ·rw[av,show mq ks a a=[] from OS rfl];rfl
 ·rw [show (a == b) = false from OQ.mpr e]
  have c1:=dO (U:=Int) (en:=D.int) (src:=.fix ((cX m ks b).map D.int)) (g:=ao 0) (t:=jd) (e:=je) (Y1:=Y) (q:=AM m ks a b) (h:=D.int)
   (fun ρ=>∃o,ρ=[o,some (cm (cX m ks a)),some (.int a),some (.int b)]) (fun _=>trivial) (us:=cX m ks b) (acc:=[]) (ρ:=[none,some (cm (cX m ks a)),some (.int a),some (.int b)]) ⟨_,rfl⟩ (by rw[Rh];have:=sf (ks:=ks) (p:=b) h.m6;exact O0 (by omega) bZ)
   (fun p hp x ρ ⟨o, ho⟩ => by
    subst ho;refine⟨[some (.int p),some (cm (cX m ks a)),some (.int a),some (.int b)],⟨_,rfl⟩,rfl,?_,fun _=>?_⟩
    ·unfold jd;simp only[Az,cJ,aL,bV,aq,aw,ak,aj,aa,ae,QV,Rh,OS n2,GY];rw[CL];simp only[aa,bw,QU,Ql,AM];by_cases z:p∈cX m ks a
     ·rw[QP z];simp only[Qm,Tw]
     ·rw[OP z];simp only[QU,Ql,Pr]
    ·unfold je
     rw[aj])
  rw[QO]at c1;let F:List Int:=(cX m ks b).filter (AM m ks a b)
  have fl:F.length<=6:=O0 (T6 _ _) (sf (ks:=ks) (p:=b) h.m6);let M1:au:=Y++[O.lst (F.map D.int)]
  have c2:=dO (U:=Int) (en:=D.int) (src:=.own Y.length (F.map D.int)) (g:=ao 0) (t:=bz) (e:=gN) (Y1:=M1) (q:=fun _=>true) (h:=fun p=>cm [a,p,b])
   (fun ρ=>∃o,ρ=[o,some (.int a),some (.int b)]) (fun _=>aD av) (us:=F) (acc:=[]) (ρ:=[none,some (.int a),some (.int b)]) ⟨_,rfl⟩ (by rw[Rh];exact O0 (by omega) bZ)
   (fun p hp x ρ ⟨o, ho⟩ => by
    subst ho;refine⟨[some (.int p),some (.int a),some (.int b)],⟨_,rfl⟩,rfl,rfl,fun _=>?_⟩;unfold gN;simp only[bV,aq,aw,ak,aj,aa,ae,QV,Rh,OS n3]
    rfl)
  rw[QO,T4.mpr fun _ _=>rfl]at c2;have em:F.map (fun p=>cm [a,p,b])=(F.map fun p=>[a,p,b]).map cm:=by rw[Re];rfl
  rw[em]at c2;simp only[QU,Ql,bI,aI,aO,bc,cw,cD,aB,aq,aw,aj,ak,aa,ae,sa,af,bO,TQ,TR,sb,Hw,bH];rw[show fQ [none,some 3,some 1,some 2] [some (aN m ks),some (.int a),some (.int b),some (cm (cX m ks a)),none,none]=[none,some (cm (cX m ks a)),some (.int a),some (.int b)] from rfl,c1];simp only[af,bO,TQ,TR,aI,aO,bc,cw,cD,aj,ak,aa,ae];rw[gE (show M1[Y.length]?=some (.lst (F.map D.int)) from av)];simp only[aa,ae,dP];rw[show fQ [none,some 1,some 2] [some (aN m ks),some (.int a),some (.int b),some (cm (cX m ks a)),some (.obj Y.length),none]=[none,some (.int a),some (.int b)] from rfl,show compLoop (.own Y.length (F.map D.int)) (Y++[O.lst (F.map D.int)]).length (ao 0) bz gN (F.map D.int) [none,some (.int a),some (.int b)] (Y++[O.lst (F.map D.int)]++[O.lst []])=_ from c2];let M2:au:=M1++[O.lst ((F.map fun p=>[a,p,b]).map cm)]
  simp only[af,bO,TQ,TR,aI,aO,bK,cJ,aL,aj,ak,aa,ae];rw[CL];simp only[aa,bw,af,QU,Ql];have hx:M2[M1.length]?=some (.lst ((F.map fun p=>[a,p,b]).map cm)):=av
  have fin:∀(M:au),M[M1.length]?=some (.lst ((vX m ks a b).map cm))->(∃g,M=Y++g) ->
    ∃(n:Nat)(G:au),nk Y ((bM (aC cZ (ag (ah 5) aA)) [some (aN m ks),some (.int a),some (.int b),some (cm (cX m ks a)),some (.obj Y.length),some (.obj M1.length)] M).out)=.ok (.obj n) (Y++G)/\(Y++G)[n]?=some (.lst ((mq ks a b).map cm))/\Y.length<=n:=fun M hx ⟨g,hg⟩=>by
   subst hg;have pm:=ue h ha hb e;refine⟨(Y++g).length,g++[.lst ((mq ks a b).map cm)],?_,?_,by simp⟩
   ·simp only[bo,aB,aq,aw,ak,aj,aa,ae];rw[Aa hx (fun k hk=>yz h k (pm.mem_iff.mp hk)) (pm.nodup_iff.mpr (oP h)) (by rw[pm.length_eq];have:=vd (a:=a) (b:=b) h;omega)];simp only[af,ba];rw[pK (by simp),Bm h ha hb e,QK]
   ·rw[<- QK];exact av
  by_cases z:b∈cX m ks a
  ·rw [QP z];simp only[Qm,eK,qY,aq,aw,bV,ak,aj,aa,ae,QV,Rh,OS n2];rw[show zE (.obj M1.length) M2=true from rp hx];simp only[Qm,aa];rw[show ie (.obj M1.length) [.tup [.int a,.int b]] M2=_ from yK hx (by rw[Qd,Qd];omega)];simp only[af,aI];refine fin _ ?_ ?_
   ·rw[Pc (O9.mp hx).1];unfold vX;rw[OS z,RA];rfl
   ·exact⟨_,by simp only[M2,M1,QK];exact yw (by simp)⟩
  ·rw [OP z];simp only[QU,Ql,bI,aI];refine fin _ ?_ ?_
   ·rw[show (Y++[O.lst (F.map D.int)]++[O.lst ((F.map fun p=>[a,p,b]).map cm)])[M1.length]?=_ from hx];unfold vX;rw[OT z,PJ]
   ·exact⟨_,by rw[QK]⟩
end
theorem Fu(h:M[n]?=some (.lst (L.map cm))):mw M (.obj n)=some (.list (L.map gw)):=by
 unfold mw;dsimp only;rw[h];dsimp only;rw[u7];rfl
theorem Fv:eS (.list (L.map gw))=true:=by
 have:=uO L;simp only[eS,PyData.canLay0,this.1,PyData.depth,Tw];exact QP (by have:=this.2;omega)
theorem IH{w:List Int}:mw M (cm w)=some (gw w):=by
 have:iu M (w.map D.int)=some (w.map PyData.int):=by
  induction w with
  |nil=>rfl
  |cons x r ih=>simp only[QC,iu,ih];rfl
 simp only[mw,this,Option.map_some];rfl
theorem II{w:List Int}:eS (gw w)=true:=by
 have f:=lB w;simp only[eS,gw,PyData.canLay0,PyData.depth,f.1,f.2,Tw];exact QP (by omega)
theorem Dh{w:List Int}(h:M[n]?=some (.lst (L.map cm))):oq neg (cm w) (.obj n) M=.ok (.bl (if neg then !decide (w∈L) else decide (w∈L))) M:=by
 unfold oq;rw[IH,Fu h];dsimp only[rn];rw[OS ⟨II,Fv⟩]
 have:((L.map gw).any fun y=>PyData.eqv y (gw w))=decide (w∈L):=by
  rw[List.any_map];apply PB.mpr;rw[TY,Td];constructor
  ·rintro ⟨k, hk, e⟩
   have:PyData.eqvAll (k.map PyData.int) (w.map PyData.int)=true:=by simpa[gw,PyData.eqv] using e
   rw[rX]at this;rw[<- TZ this];exact hk
  ·intro hw;refine⟨w,hw,?_⟩;have:PyData.eqvAll (w.map PyData.int) (w.map PyData.int)=true:=by rw[rX];exact QP rfl
   simpa[gw,PyData.eqv] using this
 rw[this]
def HZ(d:D):Bool:=match d with
 |.tup xs=>xs.all isInt
 |_=>false
def stB(ks:List (List Int))(a b:Int)(d:D):Bool:=HZ d&&decide (HY d∈mq ks a b)
section
variable{m:Nat}{a b:Int}
theorem vg:∀{xs:List D},xs.all isInt=true->∃w:List Int,xs=w.map D.int
 |[],_=>⟨[],rfl⟩
 |x::xs,h=>by
  rw[QG,Qy]at h;obtain⟨w,e⟩:=vg h.2;cases x with
  |int i=>exact⟨i::w,by rw[e];rfl⟩
  |_=>cases h.1
theorem KC(h:HZ d=true):∃w,d=cm w/\HY d=w:=by
 cases d with
 |tup xs=>
  obtain⟨w,rfl⟩:=vg h;exact⟨w,rfl,Ct⟩
 |_=>cases h
theorem CY(h:GW m ks)(ne:a≠b){w:List Int}(hw:w∈mq ks a b):∀x∈w,0<=x/\x<(m:Int):=by
 rcases (zW ne).mp hw with⟨p,h1,h2,rfl⟩|⟨h1,rfl⟩
 ·have q1:=jr h h1;have q2:=jr h h2;simp only[O5,Sg,Sh,TH,TJ];omega
 ·have q1:=jr h h1;simp only[O5,Sg,Sh,TH,TJ];omega
theorem Mh{w:List Int}(h:∀x∈w,0<=x/\x<(m:Int)):kY m (cm w)=true:=by
 simp only[kY,Tj,RP,TV,cI,Qy,Td];exact fun x hx=>by have:=h x hx;omega
theorem HK{w:List Int}:HZ (cm w)=true:=by
 simp only[HZ,Tj,RP,TV];exact fun x _=>rfl
theorem IQ(h:GW m ks)(ne:a≠b):(kY m d&&decide (HY d∈mq ks a b))=stB ks a b d:=by
 unfold stB;cases hp:kY m d with
 |true=>
  obtain⟨w,rfl,_⟩:=Ad hp;rw[HK]
 |false=>
  rw[Pr];cases hi:HZ d with
  |false=>rfl
  |true=>
   obtain⟨w,rfl,hu⟩:=KC hi;rw[hu,Tw];exact(OP fun hw=>by rw[Mh (CY h ne hw)]at hp;cases hp).symm
theorem A8(h:GW m ks)(ha:0<=a/\a<(m:Int))(hb:0<=b/\b<(m:Int))(ne:a≠b)(hd:Kn Y d):jX [aN m ks,aK [a,b],d] Y=.ok (.bl (stB ks a b d)) Y:=by
 unfold jX;rw[g7];simp only[uH,List.replicate,aO,bK,dF,fN,aB,aq,aw,aL,aj,ak,bf,aa,ae,fu,tY hd,cL,af];rw[<- IQ h ne];cases hp:kY m d with
 |false=>
  simp only[R0,Qm,bo,bf,af,fM,ba,Pr];exact aR (by simp)
 |true=>
  obtain⟨w,rfl,hu,_⟩:=Ad hp;obtain⟨n,G,e1,e2,e3⟩:=oK (Y:=Y) h ha hb;simp only[RQ,QU,Ql,bI,aI,bo,aL,aB,aq,aw,aj,ak,bf,aa,ae];rw[show cW (aK [a,b]) (.int 0) Y=.ok (.int a) Y from rfl];simp only[aa];rw[show cW (aK [a,b]) (.int 1) Y=.ok (.int b) Y from rfl];simp only[aa,e1];rw[Dh e2];simp only[af,ba,QU,Ql,Tw,hu];exact eE (by simp)
def yg(ks ks':List (List Int))(d:D):Bool:=match d with
 |.tup xs=>decide (xs.length=ks.length)&&(ks.zip xs).all fun u=>stB ks' (iU u.1).1 (iU u.1).2 u.2
 |_=>false
def Ll(u:List Int×D):D:=.tup [aK u.1,u.2]
theorem yq:∀{ks:List (List Int)}{xs:List D},iK (ks.map aK) xs=(ks.zip xs).map Ll
 |[],_=>by simp[iK]
 |_::_,[]=>by simp[iK]
 |k::r,x::q=>by simp only[QC,iK,Tg,yq (ks:=r) (xs:=q)];rfl
theorem FK(h:GW m ks)(h':GW m ks')(hd:Kn Y d):dw [aN m ks,aN m ks',d] Y=.ok (.bl (yg ks ks' d)) Y:=by
 have ck:bh [aN m ks,aN m ks'] Y=.ok .non Y:=by rw[yI h h',OS rfl]
 have hl:=d9 h;unfold dw;rw[g7];simp only[lJ,List.replicate,aO,eK,bc,bK,iB,dF,fN,gA,cJ,aB,aq,aw,aL,aj,ak,bf,aa,ae,ck,af,aI,ia,bO,TQ,TR,fw hd,cL];cases d with
 |tup xs=>
  have hkn:∀x∈xs,Kn Y x:=by simp only[Kn]at hd;exact js.mp hd.2
  simp only[bE,RQ,QU,Ql,lY,aa,f9,bw,Qm,Qd,af];by_cases e:xs.length=ks.length
  ·rw [e];simp only[QT,RQ,QU,Ql,bI,aI,bo,aB,aq,aw,cw,iM,aj,ak,aa,ae];rw[show yj [.tup (ks.map aK),.tup xs] Y=.ok (.fix (iK (ks.map aK) xs)) Y from rfl];simp only[aa,bH];rw[yq]
   have c:=dO (U:=List Int×D) (en:=Ll) (src:=.fix ((ks.zip xs).map Ll)) (g:=dC 2 (bb (ao 0) (bb (ao 1) dD))) (t:=bz) (e:=jL) (Y1:=Y) (q:=fun _=>true) (h:=fun u=>.bl (stB ks' (iU u.1).1 (iU u.1).2 u.2))
    (fun ρ=>∃o o',ρ=[o,o',some (aN m ks')]) (fun _=>trivial) (us:=ks.zip xs) (acc:=[]) (ρ:=[none,none,some (aN m ks')]) ⟨_,_,rfl⟩ (by rw[Rh,Uc];exact O0 (by omega) bZ)
    (fun u hu x ρ ⟨o, o', ho⟩ => by
     subst ho;have h1:=(PQ hu).1;have h2:=(PQ hu).2;obtain⟨k,x'⟩:=u;obtain⟨p,q,rfl,p0,pq,qm⟩:=h.2.2.2.2 k h1;refine⟨[some (aK [p,q]),some x',some (aN m ks')],⟨_,_,rfl⟩,rfl,rfl,fun _=>?_⟩;unfold jL;simp only[aB,aq,aw,ak,aj,aa];rw[A8 h' ⟨by omega,by omega⟩ ⟨by omega,by omega⟩ (by omega) (lV _ (hkn x' h2))]
     rfl)
   rw[QO,T4.mpr fun _ _=>rfl]at c;rw[show fQ [none,none,some 1] [some (aN m ks),some (aN m ks'),some (.tup xs),some (.tup (ks.map aK))]=[none,none,some (aN m ks')] from rfl,c];simp only[aa];rw[show (ks.zip xs).map (fun u=>D.bl (stB ks' (iU u.1).1 (iU u.1).2 u.2))=((ks.zip xs).map fun u=>stB ks' (iU u.1).1 (iU u.1).2 u.2).map D.bl from by rw[Re];rfl,kn av];simp only[af,ba,yg,e,decide_true,Tw,Tj,T5,id];exact eE (by simp)
  ·rw[show ((xs.length:Int) == (ks.length:Int))=false from by rw[OQ];omega];simp only[R0,Qm,bo,bf,af,fM,ba,yg,OP e,Pr];exact aR (by simp)
 |_=>
  simp only[bE,R0,Qm,bo,bf,af,fM,ba,yg];exact aR (by simp)
end
theorem uA{U:Type}{en:U->D}{src:pG}{g:MG}{fb:MS}{c:U->Bool}(Q:Ro->au->Prop)(ho:∀ρ M,Q ρ M->dJ src M):∀(us:List U),(∀u∈us,∀ρ M,Q ρ M->∃ρ0 ρ' M',g (en u) ρ M=.ok ρ0 M/\Q ρ' M'/\fb ρ0 M=if c u=true then .next ρ' M' else .ret (.bl false) M') ->
  ∀ρ M,Q ρ M->∃ρ' M',Q ρ' M'/\gT src g fb (us.map en) ρ M=if us.all c=true then .next ρ' M' else .ret (.bl false) M'
 |[],_,ρ,M,h=>⟨ρ,M,h,by rw[QB];unfold gT;rw[OS (ho ρ M h)];rfl⟩
 |u::us,hs,ρ,M,h=>by
  obtain⟨ρ0,ρ1,M1,e0,q1,e1⟩:=hs u O3 ρ M h;obtain⟨ρ2,M2,q2,e2⟩:=uA Q ho us (fun v hv=>hs v (O4 _ hv)) ρ1 M1 q1;rw[QC];unfold gT;rw[OS (ho ρ M h),e0];simp only[af,ae,e1];rw[QG];cases c u with
  |true=>
   refine⟨ρ2,M2,q2,?_⟩;simp only[Qm,An,e2,Tw]
  |false=>
   refine⟨ρ1,M1,q1,?_⟩;simp only[QU,Ql,Kl,Pr]
section
variable{m:Nat}
theorem zp(hk:∀x∈xs,Kn M x)(hl:xs.length<1000):compLoop (.fix xs) M.length (ao 0) bz fG xs [none] (M++[.lst []])=.ok (.obj M.length) (M++[.lst ((xs.map isInt).map D.bl)]):=by
 have c:=dO (U:=D) (en:=id) (src:=.fix xs) (g:=ao 0) (t:=bz) (e:=fG) (Y1:=M) (q:=fun _=>true) (h:=fun x=>.bl (isInt x))
  (fun ρ=>∃o,ρ=[o]) (fun _=>trivial) (us:=xs) (acc:=[]) (ρ:=[none]) ⟨_,rfl⟩ (by rw[Rh];exact O0 (by omega) bZ)
  (fun x hx a ρ ⟨o, ho⟩ => by
   subst ho;refine⟨[some x],⟨_,rfl⟩,rfl,rfl,fun _=>?_⟩;unfold fG;simp only[aB,aq,aw,aj,aa,ae]
   exact jS (lV _ (hk x hx)))
 rw[QO,T4.mpr fun _ _=>rfl,List.map_id]at c;rw[c,Re];rfl
theorem DK{p q:Int}{x:D}{a2:Option D}(h':GW m ks')(hx:Kn M x)(pm:0<=p/\p<q/\q<(m:Int)):
  ∃G,fF [a0,some (aN m ks'),a2,some (aK [p,q]),some x] M=if stB ks' p q x=true then .next [a0,some (aN m ks'),a2,some (aK [p,q]),some x] (M++G) else .ret (.bl false) (M++G):=by
 unfold fF;simp only[aO,bK,iB,dF,fN,gA,ak,aj,aa,ae,fw hx,cL];cases x with
 |tup xs=>
  have hkn:xs.length<1000/\∀x∈xs,Kn M x:=by simp only[Kn]at hx;exact⟨hx.1,js.mp hx.2⟩
  simp only[bE,RQ,QU,Ql,aB,aq,aw,cw,cD,ak,aj,aa,ae,iL,bH];rw[show fQ [none] [a0,some (aN m ks'),a2,some (aK [p,q]),some (.tup xs)]=[none] from rfl,zp hkn.2 hkn.1];simp only[aa,ae];rw[kn av];simp only[aa,ae,cL,af,Tj,T5,id];cases hi:xs.all isInt with
  |false=>
   refine⟨[O.lst ((xs.map isInt).map D.bl)],?_⟩;rw[show stB ks' p q (.tup xs)=false from by unfold stB;rw[show HZ (.tup xs)=false from hi];rfl];simp only[R0,Qm,bo,bf,af,fM,QU,Ql]
  |true=>
   obtain⟨w,rfl⟩:=vg hi;obtain⟨n,G,e1,e2,e3⟩:=oM (Y:=M++[O.lst (((w.map D.int).map isInt).map D.bl)]) (a:=p) (b:=q) h';refine⟨[O.lst (((w.map D.int).map isInt).map D.bl)]++G,?_⟩;simp only[RQ,QU,Ql,bI,aI,bK,cJ,aL,aB,aq,aw,ak,aj,bf,aa,ae];rw[show ∀N:au,cW (aK [p,q]) (.int 0) N=.ok (.int p) N from fun _=>rfl];simp only[aa];rw[show ∀N:au,cW (aK [p,q]) (.int 1) N=.ok (.int q) N from fun _=>rfl];simp only[aa,e1];rw[show stB ks' p q (.tup (w.map D.int))=decide (w∈mq ks' p q) from by unfold stB;rw[HK,Ct,Tw],show oq true (.tup (w.map D.int)) (.obj n) (M++[O.lst (((w.map D.int).map isInt).map D.bl)]++G)=_ from Dh e2];simp only[aa,bw,Qm,af,QK];by_cases z:w∈mq ks' p q
   ·rw[QP z];simp only[RQ,QU,Ql,Qm,bI]
   ·rw[OP z];simp only[R0,QU,Ql,Qm,bo,bf,af]
 |_=>
  refine⟨[],?_⟩;rw[PJ];simp only[bE,R0,Qm,bo,bf,af,fM,stB,HZ,Pr,QU,Ql]
theorem A9(h:GW m ks)(h':GW m ks')(hd:Kn Y d):ff [aN m ks,aN m ks',d] Y=.ok (.bl (yg ks ks' d)) Y:=by
 unfold ff;rw[g7];simp only[lS,List.replicate,aO,bK,iB,dF,fN,gA,cJ,aB,aq,aw,aL,aj,ak,bf,aa,ae,fw hd,cL];cases d with
 |tup xs=>
  have hkn:∀x∈xs,Kn Y x:=by simp only[Kn]at hd;exact js.mp hd.2
  simp only[bE,RQ,QU,Ql,lY,aa,ia,f9,bw,Qm,Qd,af];by_cases e:xs.length=ks.length
  ·rw [e];simp only[QT,RQ,QU,Ql,bI,aI,aO,lx,iM,aq,aw,aL,bf,ia,aj,ak,aa,ae];rw[show yj [.tup (ks.map aK),.tup xs] Y=.ok (.fix (iK (ks.map aK) xs)) Y from rfl];simp only[aa,af,bH];rw[yq]
   obtain⟨ρ',M',⟨⟨o,o',q1⟩,g,q2⟩,e2⟩:=uA (U:=List Int×D) (en:=Ll) (src:=.fix ((ks.zip xs).map Ll)) (g:=dC 2 (bb (ao 3) (bb (ao 4) dD))) (fb:=fF) (c:=fun u=>stB ks' (iU u.1).1 (iU u.1).2 u.2)
    (fun ρ M=>(∃o o',ρ=[some (aN m ks),some (aN m ks'),some (.tup xs),o,o'])/\∃g,M=Y++g) (fun _ _ _=>trivial) (ks.zip xs)
    (fun u hu ρ M ⟨⟨o, o', ho⟩, g, hg⟩ => by
     subst ho hg;have h1:=(PQ hu).1;have h2:=(PQ hu).2;obtain⟨k,x'⟩:=u;obtain⟨p,q,rfl,p0,pq,qm⟩:=h.2.2.2.2 k h1;obtain⟨G,eG⟩:=DK (M:=Y++g) (p:=p) (q:=q) (x:=x') (a0:=some (aN m ks)) (a2:=some (.tup xs)) h' (lV _ (hkn x' h2)) ⟨by omega,by omega,by omega⟩
     exact⟨_,_,_,rfl,⟨⟨_,_,rfl⟩,g++G,(QK ..).symm ▸ rfl⟩,eG⟩)
    [some (aN m ks),some (aN m ks'),some (.tup xs),none,none] Y ⟨⟨_,_,rfl⟩,[],(PJ _).symm⟩
   rw[e2];subst q1 q2;have sb:yg ks ks' (.tup xs)=(ks.zip xs).all fun u=>stB ks' (iU u.1).1 (iU u.1).2 u.2:=by simp only[yg,e,decide_true,Tw]
   rw[sb];cases ((ks.zip xs).all fun u=>stB ks' (iU u.1).1 (iU u.1).2 u.2) with
   |true=>
    simp only[Qm,aI,bo,bf,af,ba];exact eE (by simp)
   |false=>
    simp only[QU,Ql,fM,ba];exact eE (by simp)
  ·rw[show ((xs.length:Int) == (ks.length:Int))=false from by rw[OQ];omega];simp only[R0,Qm,bo,bf,af,fM,ba,yg,OP e,Pr];exact aR (by simp)
 |_=>
  simp only[bE,R0,Qm,bo,bf,af,fM,ba,yg];exact aR (by simp)
end
def sS(M0 s:au):List Nat->List (List (List Int))->Prop
 |[],[]=>True
 |n::ns,L::Ls=>(M0.length<n/\∀X,(M0++O.lst X::s)[n]?=some (.lst (L.map cm)))/\sS M0 s ns Ls
 |_,_=>False
theorem sS.more{s g:au}:∀{ns:List Nat}{Ls:List (List (List Int))},sS M0 s ns Ls->sS M0 (s++g) ns Ls
 |[],[],_=>trivial
 |n::ns,L::Ls,h=>⟨⟨h.1.1,fun X=>by rw[<- Rj,<- QK];exact aD (h.1.2 X)⟩,h.2.more⟩
theorem sS.snoc{s:au}(h1:M0.length<n/\∀X,(M0++O.lst X::s)[n]?=some (.lst (L.map cm))):∀{ns:List Nat}{Ls:List (List (List Int))},sS M0 s ns Ls->sS M0 s (ns++[n]) (Ls++[L])
 |[],[],_=>⟨h1,trivial⟩
 |k::ns,K::Ls,h=>⟨h.1,h.2.snoc h1⟩
theorem sS.len{s:au}:∀{ns:List Nat}{Ls:List (List (List Int))},sS M0 s ns Ls->ns.length=Ls.length
 |[],[],_=>rfl
 |_::_,_::_,h=>by simp[h.2.len]
theorem sS.at{s:au}:∀{ns:List Nat}{Ls:List (List (List Int))},sS M0 s ns Ls->∀u∈ns.zip Ls,M0.length<u.1/\∀X,(M0++O.lst X::s)[u.1]?=some (.lst (u.2.map cm))
 |[],[],_,u,hu=>by simp at hu
 |n::ns,L::Ls,h,u,hu=>by
  rw[Tg,O5]at hu;rcases hu with rfl|hu
  ·exact h.1
  ·exact h.2.at u hu
theorem Jw{s:au}{X μ:List D}{o:O}(hn:M0.length<n)(h:(M0++O.lst X::s)[n]?=some o):(M0++O.lst μ::s)[n]?=some o:=by
 rw[PX (O1 hn)]at h⊢;obtain⟨k,hk⟩:∃k,n-M0.length=k+1:=⟨n-M0.length-1,by omega⟩;rw[hk]at h⊢;exact h
theorem oV{U:Type}{en:U->D}{src:pG}{g:MG}{e:ME}{M0:au}{K:U->List (List Int)}(R:Ro->Prop)(ho:∀a s,dJ src (M0++.lst a::s)) :
  ∀(us:List U)(ns:List Nat)(Ls:List (List (List Int)))(ρ:Ro)(s:au),R ρ->ns.length+us.length<=1000->sS M0 s ns Ls ->
   (∀x∈us,∀a s ρ,R ρ->∃ρ1 n G,R ρ1/\g (en x) ρ (M0++.lst a::s)=.ok ρ1 (M0++.lst a::s)/\e ρ1 (M0++.lst a::s)=.ok (.obj n) (M0++.lst a::s++G)/\(M0++.lst a::s++G)[n]?=some (.lst ((K x).map cm))/\(M0++.lst a::s).length<=n) ->
   ∃ns' s',compLoop src M0.length g bz e (us.map en) ρ (M0++.lst (ns.map D.obj)::s)=.ok (.obj M0.length) (M0++.lst (ns'.map D.obj)::s')/\sS M0 s' ns' (Ls++us.map K)
 |[],ns,Ls,ρ,s,hr,hl,ha,he=>by
  refine⟨ns,s,?_,by simpa using ha⟩;rw[QB];unfold compLoop;rw[OS (ho _ s)]
 |x::xs,ns,Ls,ρ,s,hr,hl,ha,he=>by
  obtain⟨ρ1,n,G,r1,e1,e2,e3,e4⟩:=he x O3 (ns.map D.obj) s ρ hr;rw[QV]at hl;have hn:M0.length<n:=by rw[Qc,QV]at e4;omega
  have e3':∀X,(M0++O.lst X::(s++G))[n]?=some (.lst ((K x).map cm)):=fun X=>Jw hn (X:=ns.map D.obj) (by rw[<- Rj,<- QK];exact e3);obtain⟨ns',s',c,a'⟩:=oV R ho xs (ns++[n]) (Ls++[K x]) ρ1 (s++G) r1 (by simp;omega) (sS.snoc ⟨hn,e3'⟩ ha.more) (fun y hy=>he y (O4 _ hy));refine⟨ns',s',?_,by rw[QC];simpa using a'⟩;rw[QC];unfold compLoop;rw[OS (ho _ s),e1];simp only[ae,aa];rw[show bz ρ1 (M0++O.lst (ns.map D.obj)::s)=.ok true (M0++O.lst (ns.map D.obj)::s) from rfl];simp only[ae,aa];rw[OS trivial,e2];simp only[ae,aa];rw[QK,Rj,jU (by rw[Qd];have:=bZ;omega)];simp only[aa];rw[show ns.map D.obj++[D.obj n]=(ns++[n]).map D.obj from by rw[RA];rfl];exact c
theorem qh(h:Y[n]?=some (.exc "NoPlace")):dc [.obj n] Y=.ok (.str "place") Y:=Hx true (by decide +kernel) (by decide +kernel) (by decide +kernel) oa h
section
variable{m:Nat}{w:D}{a b:Int}
def mn(ks' ks:List (List Int)):List (List (List Int)):=ks.map fun k=>mq ks' (iU k).1 (iU k).2
def kF(Ls:List (List (List Int))):Bool:=Ls.all fun L=>!L.isEmpty
def Ib(Ls:List (List (List Int))):D:=.tup (Ls.map fun L=>cm (L.headD []))
def tM(Ls:List (List (List Int))):D:=if kF Ls=true then Ib Ls else .non
theorem Au{M0 s:au}{X:List D}:∀{ns:List Nat}{Ls:List (List (List Int))},sS M0 s ns Ls->qW (M0++O.lst X::s) (ns.map D.obj)=some (Ls.map fun L=>!L.isEmpty)
 |[],[],_=>rfl
 |n::ns,L::Ls,h=>by
  simp only[QC,qW,h.1.2 X,Au h.2];cases L <;> rfl
theorem La{s:au}{ns:List Nat}(h:sS M0 s ns Ls):tR [.obj M0.length] (M0++O.lst (ns.map D.obj)::s)=.ok (.bl (kF Ls)) (M0++O.lst (ns.map D.obj)::s):=by
 unfold tR;dsimp only;rw[jt rfl];dsimp only;cases ns with
 |nil=>
  cases Ls with
  |nil=>rfl
  |cons=>exact h.elim
 |cons n ns=>
  rw[show kf ((n::ns).map D.obj)=none from rfl];dsimp only;rw[Au h];dsimp only;rw[Tj];rfl
theorem uV:∀{ns:List Nat}{Ls:List (List (List Int))},ns.length=Ls.length->(ns.zip Ls).map (fun u=>D.obj u.1)=ns.map D.obj
 |[],[],_=>rfl
 |n::ns,L::Ls,h=>by simp only[Tg,QC,uV (Nat.succ.inj h)]
theorem zQ{β:Type}{f:List (List Int)->β}:∀{ns:List Nat}{Ls:List (List (List Int))},ns.length=Ls.length->(ns.zip Ls).map (fun u=>f u.2)=Ls.map f
 |[],[],_=>rfl
 |n::ns,L::Ls,h=>by simp only[Tg,QC,zQ (Nat.succ.inj h)]
theorem Hi{x:D}(h:xs[0]?=some x):atI xs 0=some x:=l9 (j:=0) h
theorem sx{s:au}{ns:List Nat}{e:ME}(h:sS M0 s ns Ls)(hf:kF Ls=true)(hl:Ls.length<=100)(he:∀n M,e [some (.obj n)] M=cW (.obj n) (.int 0) M):
  compLoop (.own M0.length (ns.map D.obj)) (M0++O.lst (ns.map D.obj)::s).length (ao 0) bz e (ns.map D.obj) [none] (M0++O.lst (ns.map D.obj)::s++[.lst []])=.ok (.obj (M0++O.lst (ns.map D.obj)::s).length) (M0++O.lst (ns.map D.obj)::s++[.lst (Ls.map fun L=>cm (L.headD []))]):=by
 have c:=dO (U:=Nat×List (List Int)) (en:=fun u=>.obj u.1) (src:=.own M0.length (ns.map D.obj)) (g:=ao 0) (t:=bz) (e:=e) (Y1:=M0++O.lst (ns.map D.obj)::s) (q:=fun _=>true) (h:=fun u=>cm (u.2.headD []))
  (fun ρ=>∃o,ρ=[o]) (fun _=>aD (jt rfl)) (us:=ns.zip Ls) (acc:=[]) (ρ:=[none]) ⟨_,rfl⟩ (by rw[Rh,Uc];exact O0 (by omega) bZ)
  (fun u hu x ρ ⟨o, ho⟩ => by
   subst ho;refine⟨[some (.obj u.1)],⟨_,rfl⟩,rfl,rfl,fun _=>?_⟩;rw[he];have:=(h.at u hu).2 (ns.map D.obj)
   have hL:u.2≠[]:=by
    have:=RP.mp hf u.2 (PQ hu).2;intro z;rw[z]at this;cases this
   obtain⟨n,L⟩:=u;cases L with
   |nil=>exact absurd rfl hL
   |cons k r=>exact eV (aD this) (Hi (xs:=(k::r).map cm) rfl))
 rw[QO,T4.mpr fun _ _=>rfl,zQ (f:=fun L=>cm (L.headD [])) h.len,uV h.len]at c;exact c
theorem Ds(h:GW m ks):(mn ks' ks).length<=15:=by unfold mn;rw[Qd];exact d9 h
theorem Dl:(Ib Ls).low n:=by
 unfold Ib;simp only[nF];refine i8.mpr fun x hx=>?_;obtain⟨L,_,rfl⟩:=Rq.mp hx;simp only[nF];exact i8.mpr fun y hy=>by obtain⟨i,_,rfl⟩:=Rq.mp hy;simp
theorem DG(h:GW m ks)(h':GW m ks'):dy [aN m ks,aN m ks'] Y=.ok (tM (mn ks' ks)) Y:=by
 have ck:bh [aN m ks,aN m ks'] Y=.ok .non Y:=by rw[yI h h',OS rfl]
 have hl:=d9 h
 obtain⟨ns,s,c,hA⟩:=oV (U:=List Int) (en:=aK) (src:=.fix (ks.map aK)) (g:=dC 2 (bb (ao 0) (bb (ao 1) dD))) (e:=gO) (M0:=Y) (K:=fun k=>mq ks' (iU k).1 (iU k).2)
  (fun ρ=>∃o o',ρ=[o,o',some (aN m ks')]) (fun _ _=>trivial) ks [] [] [none,none,some (aN m ks')] [] ⟨_,_,rfl⟩ (by simp;omega) trivial
  (fun k hk a s ρ ⟨o, o', ho⟩ => by
   subst ho;obtain⟨p,q,rfl,p0,pq,qm⟩:=h.2.2.2.2 k hk;obtain⟨n,G,e1,e2,e3⟩:=oK (Y:=Y++O.lst a::s) (a:=p) (b:=q) h' ⟨by omega,by omega⟩ ⟨by omega,by omega⟩;refine⟨[some (.int p),some (.int q),some (aN m ks')],n,G,⟨_,_,rfl⟩,rfl,?_,e2,e3⟩;unfold gO
   simp only[aB,aq,aw,ak,aj,aa,e1,ae])
 rw[QO]at hA;unfold dy;rw[dj];simp only[kE,List.replicate,aO,eK,bc,aB,aq,aw,cw,cD,aL,aj,ak,bf,aa,ae,ck,af,aI,ia,iL,bH];rw[show fQ [none,none,some 1] [some (aN m ks),some (aN m ks'),none]=[none,none,some (aN m ks')] from rfl,show compLoop (.fix (ks.map aK)) Y.length (dC 2 (bb (ao 0) (bb (ao 1) dD))) bz gO (ks.map aK) [none,none,some (aN m ks')] (Y++[O.lst []])=_ from c];simp only[af,bO,TQ,TR,aI,aO,bK,dF,fN,aB,aq,aw,aj,ak,aa,ae];rw[La hA];simp only[aa,cL,af,ae];unfold tM;rw[show kF (ks.map fun k=>mq ks' (iU k).1 (iU k).2)=kF (mn ks' ks) from rfl];cases hf:kF (mn ks' ks) with
 |false=>
  simp only[R0,Qm,bo,bf,af,fM,ba,QU,Ql];exact eE (by simp)
 |true=>
  simp only[RQ,QU,Ql,bI,aI,bo,aB,aq,aw,cw,cD,aj,ak,aa,ae,Qm];rw[gE (show (Y++O.lst (ns.map D.obj)::s)[Y.length]?=some (.lst (ns.map D.obj)) from jt rfl)];simp only[aa,dP];rw[show fQ [none] [some (aN m ks),some (aN m ks'),some (.obj Y.length)]=[none] from rfl,sx hA hf (O0 (Ds h) (by omega)) fun n M=>by unfold lP;simp only[aL,aj,bf,aa]];simp only[aa];rw[ju av];simp only[af,ba,QK];exact eE Dl
end
theorem rA{N:Nat}{a b c e:D}{fs:MS}:h7 4 N fs [a,b,c,e] Y=nk Y (fs (some a::some b::some c::some e::List.replicate (N-4) none) Y).out:=OS rfl
section
variable{m:Nat}{w x y:D}{a b:Int}
theorem Dr (hd:Kn Y d) (e:cI 0 ((m:Int)-1) d=false):bB [aN m ks,d] Y=.exc ⟨"NoPlace",[]⟩ Y:=by
 unfold bB;rw[dj];simp only[jM,List.replicate,bK,dF,fN,aB,aq,aw,aL,aj,ak,bf,aa,fu,si hd,ae,e,cL,R0,Qm,af,rW,i6,mO]
theorem C2 (hd:Kn Y x) (e:cI 0 ((m:Int)-1) x=false):bt [aN m ks,x,y] Y=.exc ⟨"NoPlace",[]⟩ Y:=by
 unfold bt;rw[g7];simp only[iR,List.replicate];rw[aO,eK];simp only[aB,aq,aw,ak,aj,aa,Dr hd e,kC,nE,i6,mO]
theorem Jg (ha:0<=a/\a<(m:Int)) (hd:Kn Y y) (e:cI 0 ((m:Int)-1) y=false):bt [aN m ks,.int a,y] Y=.exc ⟨"NoPlace",[]⟩ Y:=by
 have ca:bB [aN m ks,.int a] Y=.ok .non Y:=nO ha;unfold bt;rw[g7];simp only[iR,List.replicate];rw[aO,eK];simp only[aB,aq,aw,ak,aj,aa,ca,af,aI];rw[aO,eK];simp only[aB,aq,aw,ak,aj,aa,Dr hd e,kC,nE,i6,mO]
theorem Ht{o:SO}(h:(bt [w,x,y] Y).bindS (fun d Y'=>.ret d Y')=o):cU [some (.int 0),some w,some x,some y,none] Y=o.bind fun ρ M=>.next ρ M:=by
 subst h;simp only[cU,aO,bK,cJ,aL,aj,ak,bf,aa,f9,QT,QU,Ql,bw,af,Qm,bo,aB,aq,aw];cases bt [w,x,y] Y <;> rfl
theorem yO(h:GW m ks)(ha:0<=a/\a<(m:Int))(hb:0<=b/\b<(m:Int)):∃(n:Nat)(G:au),br [.int 0,aN m ks,.int a,.int b] Y=.ok (.obj n) (Y++G)/\(Y++G)[n]?=some (.lst ((mq ks a b).map cm))/\Y.length<=n:=by
 obtain⟨n,G,e1,e2,e3⟩:=oK (Y:=Y) h ha hb;refine⟨n,G,?_,e2,e3⟩;unfold br;rw[rA];simp only[gp,List.replicate];unfold vW;rw[Ht (o:=.ret (.obj n) (Y++G)) (by rw[e1];rfl)];simp only[fM];rw[ba];exact pK (by simp;omega)
theorem mS (h:bt [w,x,y] Y=.exc ⟨"NoPlace",[]⟩ Y):br [.int 0,w,x,y] Y=.ok (.str "place") Y:=by
 unfold br;rw[rA];simp only[gp,List.replicate];unfold vW;rw[Ht (o:=.exc ⟨"NoPlace",[]⟩ Y) (by rw[h];rfl)];simp only[nE];rw[OS oa]
 rw[show fT ((List.replicate 5 none).set 4 (some (D.obj Y.length))) (Y++[O.exc "NoPlace"])=.ret (.str "place") (Y++[O.exc "NoPlace"]) from by
  simp only[fT,bo,aB,aq,aw,List.replicate,List.set,ak,aj,aa,qh (Y:=Y++[O.exc "NoPlace"]) (n:=Y.length) av,af]]
 show nk Y (.ok (.str "place") (Y++[O.exc "NoPlace"]))=_;exact eE (by simp)
theorem Hs{o:SO}(h:(dw [w,x,y] Y).bindS (fun d Y'=>.ret d Y')=o):cU [some (.int 1),some w,some x,some y,none] Y=o.bind fun ρ M=>.next ρ M:=by
 subst h;simp only[cU,aO,bK,cJ,aL,aj,ak,bf,aa,f9,QU,Ql,bw,af];rw[show ((1:Int) == 0)=false from rfl];simp only[QU,Ql,bI,aI,aO,bK,cJ,aL,aj,ak,bf,aa,f9,QT,bw,af,Qm,bo,aB,aq,aw];cases dw [w,x,y] Y <;> rfl
theorem Hr{o:SO}(h:(dy [w,x] Y).bindS (fun d Y'=>.ret d Y')=o):cU [some (.int 2),some w,some x,some y,none] Y=o:=by
 subst h;simp only[cU,aO,bK,cJ,aL,aj,ak,bf,aa,f9,QU,Ql,bw,af];rw[show ((2:Int) == 0)=false from rfl];simp only[QU,Ql,bI,aI,aO,bK,cJ,aL,aj,ak,bf,aa,f9,bw,af];rw[show ((2:Int) == 1)=false from rfl];simp only[QU,Ql,bI,aI,bo,aB,aq,aw,aj,ak,aa]
theorem A0(h:GW m ks)(h':GW m ks')(hd:Kn Y d):br [.int 1,aN m ks,aN m ks',d] Y=.ok (.bl (yg ks ks' d)) Y:=by
 unfold br;rw[rA];simp only[gp,List.replicate];unfold vW;rw[Hs (o:=.ret (.bl (yg ks ks' d)) Y) (by rw[FK h h' hd];rfl)];simp only[fM];rw[ba];exact aR (by simp)
theorem yP(h:GW m ks)(h':GW m ks'):br [.int 2,aN m ks,aN m ks',.non] Y=.ok (tM (mn ks' ks)) Y:=by
 unfold br;rw[rA];simp only[gp,List.replicate];unfold vW;rw[Hr (o:=.ret (tM (mn ks' ks)) Y) (by rw[DG h h'];rfl)];dsimp only;rw[ba];refine aR ?_;unfold tM;split
 ·exact Dl
 ·simp
theorem L8 (h:bh [w,x] Y=.exc ⟨"NoRoot",[]⟩ Y):dw [w,x,y] Y=.exc ⟨"NoRoot",[]⟩ Y:=by
 unfold dw;rw[g7];simp only[lJ,List.replicate];rw[aO,eK];simp only[aB,aq,aw,ak,aj,aa,h,kC,nE,i6,mO]
theorem MF (h:bh [w,x] Y=.exc ⟨"NoRoot",[]⟩ Y):dy [w,x] Y=.exc ⟨"NoRoot",[]⟩ Y:=by
 unfold dy;rw[dj];simp only[kE,List.replicate];rw[aO,eK];simp only[aB,aq,aw,ak,aj,aa,h,kC,nE,i6,mO]
theorem A1 {j:Int} (hj:j=1\/j=2) (h:bh [w,x] Y=.exc ⟨"NoRoot",[]⟩ Y):br [.int j,w,x,y] Y=.ok (.str "root") Y:=by
 unfold br;rw[rA];simp only[gp,List.replicate];unfold vW
 rw[show cU [some (.int j),some w,some x,some y,none] Y=.exc ⟨"NoRoot",[]⟩ Y from by
  rcases hj with rfl|rfl
  ·rw[Hs (o:=.exc ⟨"NoRoot",[]⟩ Y) (by rw[L8 h];rfl)];rfl
  ·rw[Hr (o:=.exc ⟨"NoRoot",[]⟩ Y) (by rw[MF h];rfl)]]
 dsimp only;rw[OS pT]
 rw[show fT ((List.replicate 5 none).set 4 (some (D.obj Y.length))) (Y++[O.exc "NoRoot"])=.ret (.str "root") (Y++[O.exc "NoRoot"]) from by
  simp only[fT,bo,aB,aq,aw,List.replicate,List.set,ak,aj,aa,sF (Y:=Y++[O.exc "NoRoot"]) (n:=Y.length) av,af]]
 show nk Y (.ok (.str "root") (Y++[O.exc "NoRoot"]))=_;exact eE (by simp)
end
theorem jv{hi:Option Int}{x:D}(h:x∈bX xs lo hi):x∈xs:=RH (RG h)
theorem CW{P w:Nat}(P8:Pn Y P M)(hw:w<=300000)(all:(Nw (Kw Y.length M) Y.length 5 w d/\oH d=true)\/d=.non\/∃t,d=.obj t/\Y.length<=t/\∀Y',Kw Y.length M Y'->Y'[t]?=some .dic):
  ∃Y',nk Y (.ok d M)=.ok d Y'/\Pn Y P Y'/\ES Y.length Y' d:=by
 rcases uS (Y:=Y) (d:=d) (Y':=M) with e|⟨e,hlow⟩
 ·refine ⟨M, e, P8, ?_⟩;rcases all with⟨g,hr⟩|rfl|⟨t,rfl,ht,oC⟩
  ·exact vh g.gt hw hr
  ·exact⟨_,fun Y' _=>⟨by simp[Kn],rfl⟩⟩
  ·refine ⟨(PyData.dict []).shown, fun Y' k => ⟨?_, ?_⟩⟩
   ·simp only[Kn];refine⟨"dict",?_,by decide,by decide,by decide⟩;unfold vQ;dsimp only;rw[oC Y' k]
   ·unfold iC ye;dsimp only;rw[oC Y' k];dsimp only;rw[OS ⟨rfl,by decide +kernel⟩]
 ·refine ⟨_, e, ?_, ?_⟩
  ·obtain⟨u,v,w,g,hg⟩:=P8;rw[hg];exact⟨u,v,w,[],by rw[Tq (by simp),Rn (by simp),PJ]⟩
  ·rcases all with ⟨g, hr⟩ | rfl | ⟨t, rfl, ht, oC⟩
   ·rcases g with g | ⟨_, g⟩
    ·exact vh (T:=Kw Y.length _) g.of hw hr
    ·exact absurd hlow g
   ·exact⟨_,fun Y' _=>⟨by simp[Kn],rfl⟩⟩
   ·rw[kj]at hlow;omega
def zH(k:List Int):Prop:=2<=k.length/\k.length<=3/\∀i∈k,0<=i/\i<=6
theorem G0:GT T n 8 (.str "0"):=nH rfl ⟨rfl,by decide +kernel,by decide +kernel,rfl⟩ rfl
theorem qH{l:List D}(hk:zH k)(h:∀x∈l,x∈k.map D.int)(hl:l.length<=7):GT T (n+1) 63 (.tup l):=f7 (k:=7) (w:=8) (fun x hx=>by
 obtain⟨i,hi,rfl⟩:=Rq.mp (h x hx);have:=hk.2.2 i hi
 exact Ua (by omega) (by omega)) hl (by decide)
section
variable{m:Nat}{P:Nat}{a b c:Int}
theorem EJ(hp:Y[P]?=some (cu a b c)):∃d Y',cH [.obj P,.tup [],.int m] Y=.ok d Y'/\Pn Y P Y'/\ES Y.length Y' d:=by
 have hP:P<Y.length:=(O9.mp hp).1;have n1:0+1<=sizeLine:=l1;have n2:0+1+1<=sizeLine:=l2;have n6:0+1+1+1+1+1+1<=sizeLine:=O0 (by decide) bZ;let xs:List D:=[.tup [],.tup [.tup [.int 0,.int 1]],.non,.obj Y.length,.tup [.tup []],.obj (Y++[O.lst []]).length]
 let M1:au:=Y++[O.lst []]++[O.dic]++[O.lst xs]
 have P1:Pn Y P M1:=((Pn.self hp).app (g:=[O.lst []])).app.app;obtain⟨r,a2,b2,c2,r0,r1,e1,P2⟩:=P1.draw (m:=6) hP (by decide) (by decide);let M2:au:=M1.set P (cu a2 b2 c2)
 have t2:M2[(Y++[O.lst []]++[O.dic]).length]?=some (.lst xs):=by rw[Pd (by simp only[Qc];omega)];exact av
 obtain⟨d,ed,hd⟩:=i4 (xs:=xs) (n:=6) r0 r1 rfl;have keep:∀j o,Y.length<=j->M1[j]?=some o->∀Y',Kw Y.length M2 Y'->Y'[j]?=some o:=fun j o ne e Y' k=>k j o ne (by rw[Pd (by omega)];exact e)
 have all:(Nw (Kw Y.length M2) Y.length 5 1000 d/\oH d=true)\/d=.non\/∃t,d=.obj t/\Y.length<=t/\∀Y',Kw Y.length M2 Y'->Y'[t]?=some .dic:=by
  simp only[xs,O5,Sg,Sh]at hd;rcases hd with rfl|rfl|rfl|rfl|rfl|rfl
  ·exact .inl ⟨.inl ((f7 (n:=4) (k:=1) (w:=8) (fun x hx=>by cases hx) (by simp) (by decide)).w (by decide)),rfl⟩
  ·exact .inl ⟨.inl ((f7 (n:=4) (k:=1) (w:=18) (fun x hx=>by rw[Q5.mp hx];exact G1 (by omega) (by omega) (by omega) (by omega)) (by simp) (by decide)).w (by decide)),rfl⟩
  ·exact .inr (.inl rfl)
  ·exact .inl ⟨.inr ⟨(yD (n:=4) (k:=1) (w:=8) (xs:=[]) (keep _ _ (Pv _) (aD (aD av))) (fun x hx=>by cases hx) (by simp)).w (by decide),by rw[kj];omega⟩,rfl⟩
  ·exact .inl ⟨.inl ((f7 (n:=4) (k:=1) (w:=18) (fun x hx=>by rw[Q5.mp hx];exact(f7 (n:=3) (k:=1) (w:=8) (fun x hx=>by cases hx) (by simp) (by decide)).w (by decide)) (by simp) (by decide)).w (by decide)),rfl⟩
  ·exact .inr (.inr ⟨_,rfl,by simp,keep _ _ (by simp) (aD av)⟩)
 obtain⟨Y',eg,P9,tg⟩:=CW (w:=1000) P2 (by decide) all;refine⟨d,Y',?_,P9,tg⟩;unfold cH;rw[g7];simp only[jh,List.replicate];rw[aO,bK];simp only[cJ,aL,ak,aj,bV,aw,aa,Rh,Q4,Qm];rw[show AR (.tup []) (.tup []) Y=.ok (.bl true) Y from rfl];simp only[aa,bw,af,Qm,bo,aL,cN,yF,bV,aq,aw,bf,ae,QV,Rh,Q4,OS n1,OS n2,OS n6,aB,ak,aj];rw[show aF [.obj P,.int 6] (Y++[O.lst []]++[O.dic]++[O.lst [.tup [],.tup [.tup [.int 0,.int 1]],.non,.obj Y.length,.tup [.tup []],.obj (Y++[O.lst []]).length]])=.ok (.int r) M2 from e1];simp only[aa];rw[eV t2 ed];simp only[af,fM,ba];exact eg
end
theorem l5:(5:Nat)<=sizeLine:=by decide
theorem NU{t:Nat}{x:D}(h:M[t]?=some (.lst [x])):mK (.obj t) (.int 6) M=.ok (.obj M.length) (M++[.lst (List.replicate 6 [x]).flatten]):=by
 unfold mK;dsimp only;rw[h];dsimp only;rw[OS ⟨by decide,by decide,O0 (show ([x]:List D).length*(6:Int).toNat<=6 by simp) (by decide)⟩];rfl
section
variable{m:Nat}{P:Nat}{a b c:Int}
theorem σ7(hp:Y[P]?=some (cu a b c))(h0:1<=m)(h6:m<=6)(ne:sh≠[])(hs:∀k∈sh,zH k)(hl:sh.length<=15):∃d Y',cH [.obj P,.tup (sh.map cm),.int m] Y=.ok d Y'/\Pn Y P Y'/\ES Y.length Y' d:=by
 have hP:P<Y.length:=(O9.mp hp).1;have n1:0+1<=sizeLine:=l1;have n5:0+1+1+1+1+1<=sizeLine:=l5;have n8:0+1+1+1+1+1+1+1+1<=sizeLine:=l8;let ts:List D:=sh.map cm
 have tl:ts.length=sh.length:=by simp only[ts,Qd]
 have s1:1<=sh.length:=by cases sh with|nil=>exact absurd rfl ne|cons=>simp
 obtain⟨sp,a1,b1,c1,p0,p1,e1,P1⟩:=(Pn.self hp).draw (m:=(sh.length:Int)) hP (by omega) (by omega);let M1:au:=Y.set P (cu a1 b1 c1)
 obtain⟨st,est,hst⟩:=i4 (xs:=ts) (n:=sh.length) p0 p1 tl;obtain⟨k,hk,rfl⟩:=Rq.mp hst;have hK:=hs k hk;let kl:List D:=k.map D.int
 have kll:kl.length=k.length:=by simp only[kl,Qd]
 have k2:=hK.1;have k3:=hK.2.1;obtain⟨r,a2,b2,c2,r0,r1,e2,P2⟩:=P1.draw (m:=(m:Int)) hP (by omega) (by omega);let M2:au:=M1.set P (cu a2 b2 c2)
 let odds:List D:=[.int m,.int (-1),.bl true,.non,.str "0",.tup [.int 0],.int 1000000000000000000000000000000,.int r]
 let M3:au:=M2++[O.lst odds]
 have P3:Pn Y P M3:=P2.app;obtain⟨q,a4,b4,c4,q0,q1,e3,P4⟩:=P3.draw (m:=8) hP (by decide) (by decide);let M4:au:=M3.set P (cu a4 b4 c4)
 have lM2:Y.length<=M2.length:=P2.len;have t4:M4[M2.length]?=some (.lst odds):=by rw[Pd (by omega)];exact av
 obtain⟨odd,eo,ho⟩:=i4 (xs:=odds) (n:=8) q0 q1 rfl
 have go:∀(T:au->Prop) n,GT T (n+1) 110 odd:=fun T n=>by
  simp only[odds,O5,Sg,Sh]at ho;rcases ho with rfl|rfl|rfl|rfl|rfl|rfl|rfl|rfl
  ·exact(Ua (by omega) (by omega)).w (by decide)
  ·exact(Ua (by omega) (by omega)).w (by decide)
  ·exact MC.w (by decide)
  ·exact Dj.w (by decide)
  ·exact G0.w (by decide)
  ·exact(f7 (k:=1) (w:=8) (fun x hx=>by rw[Q5.mp hx];exact Ua (by omega) (by omega)) (by simp) (by decide)).w (by decide)
  ·exact KQ
  ·exact(Ua (by omega) (by omega)).w (by decide)
 obtain⟨at',a5,b5,c5,at0,at1,e4,P5⟩:=P4.draw (m:=(k.length:Int)) hP (by omega) (by omega);let M5:au:=M4.set P (cu a5 b5 c5)
 have lM5:Y.length<=M5.length:=P5.len;let hd1:List D:=bX kl none (some 1)
 let tl1:List D:=bX kl (some (-1)) none
 let o5:List D:=[.tup kl.reverse,.tup (hd1++[odd]++tl1),.tup (bX kl none (some at')++[odd]++bX kl (some (at'+1)) none),.obj M5.length,.tup (kl++[.int 0])]
 let M6:au:=M5++[O.lst kl]++[O.lst o5]
 let o5':List D:=[.tup [],.non,.int 0,.tup [.tup kl],.tup (hd1++tl1)]
 let M8:au:=M6++[O.lst o5']++[O.lst (o5++o5')]
 have P8:Pn Y P M8:=((P5.app (g:=[O.lst kl])).app (g:=[O.lst o5])).app.app;obtain⟨r2,a9,b9,c9,r20,r21,e5,P9⟩:=P8.draw (m:=10) hP (by decide) (by decide);let M9:au:=M8.set P (cu a9 b9 c9)
 have lM6:(M6++[O.lst o5']).length=M5.length+3:=by simp[M6]
 have t9:M9[(M6++[O.lst o5']).length]?=some (.lst (o5++o5')):=by rw[Pd (by omega)];exact av
 obtain⟨W,eW,hW⟩:=i4 (xs:=o5++o5') (n:=10) r20 r21 rfl;let bent:List D:=bX ts none (some sp)++[W]++bX ts (some (sp+1)) none
 let six:List D:=(List.replicate 6 [D.tup bent]).flatten
 let N1:au:=M9++[O.lst [.tup bent]]
 let N2:au:=N1++[O.lst six]
 let five:List D:=[.tup (bX ts (some 1) none),.tup (ts++bX ts none (some 1)),.obj N2.length,.tup [.tup ts],.tup ts.reverse]
 let N3:au:=N2++[O.lst ts]++[O.lst five]
 let M10:au:=N3++[O.lst (six++five)]
 have P10:Pn Y P M10:=((((P9.app (g:=[O.lst [.tup bent]])).app (g:=[O.lst six])).app (g:=[O.lst ts])).app (g:=[O.lst five])).app;obtain⟨r3,a11,b11,c11,r30,r31,e6,P11⟩:=P10.draw (m:=11) hP (by decide) (by decide);let M11:au:=M10.set P (cu a11 b11 c11)
 have lM9:M9.length=M5.length+4:=by simp[M9,M8,M6]
 have lN2:N2.length=M5.length+6:=by simp only[N2,N1,Qc,lM9];rfl
 have lN3:N3.length=M5.length+8:=by simp only[N3,Qc,lN2];rfl
 have t11:M11[N3.length]?=some (.lst (six++five)):=by rw[Pd (by omega)];exact av
 obtain⟨d,ed,hd⟩:=i4 (xs:=six++five) (n:=11) r30 r31 rfl;have keep:∀j o,Y.length<=j->M10[j]?=some o->∀Y',Kw Y.length M11 Y'->Y'[j]?=some o:=fun j o ne e Y' k=>k j o ne (by rw[Pd (by omega)];exact e)
 have oL:∀Y',Kw Y.length M11 Y'->Y'[M5.length]?=some (.lst kl):=keep _ _ lM5 (aD (aD (aD (aD (aD (by
  show M9[M5.length]?=_;rw[Pd (by omega)]
  exact aD (aD (aD av))))))))
 have oS:∀Y',Kw Y.length M11 Y'->Y'[N2.length]?=some (.lst ts):=keep _ _ (by omega) (aD (aD av));let T:au->Prop:=Kw Y.length M11
 have hh:∀x∈hd1,x∈kl:=fun x hx=>jv hx;have ht:∀x∈tl1,x∈kl:=fun x hx=>jv hx;have cl:∀lo hi,(bX kl lo hi).length<=3:=fun lo hi=>O0 (pS kl lo hi) (by omega)
 have gin:∀(T:au->Prop) n x,x∈kl->GT T n 110 x:=fun T n x hx=>by
  obtain⟨i,hi,rfl⟩:=Rq.mp hx;have:=hK.2.2 i hi;exact(Ua (by omega) (by omega)).w (by decide)
 have goddA:∀(T:au->Prop)(l1 l2:List D),(∀x∈l1,x∈kl)->(∀x∈l2,x∈kl)->l1.length<=3->l2.length<=3->GT T 4 777 (.tup (l1++[odd]++l2)):=fun T l1 l2 h1 h2 m1 m2=>f7 (n:=3) (k:=7) (w:=110) (fun x hx=>by
  rcases O7.mp hx with hx|hx
  ·rcases O7.mp hx with hx | hx
   ·exact gin _ _ x (h1 x hx)
   ·rw[Q5.mp hx];exact go _ 2
  ·exact gin _ _ x (h2 x hx)) (by simp only[Qc,QV,Rh];omega) (by decide)
 have gl:∀(T:au->Prop) n (l:List D),(∀x∈l,x∈kl)->l.length<=7->GT T (n+1) 777 (.tup l):=fun T n l hx hn=>(qH hK hx hn).w (by decide)
 have gW:Nw T Y.length 4 777 W:=by
  simp only[o5,o5',O7,O5,Sg,Sh]at hW;rcases hW with (rfl|rfl|rfl|rfl|rfl)|rfl|rfl|rfl|rfl|rfl
  ·exact .inl (gl _ 3 _ (fun x hx=>Ud.mp hx) (by rw[Tt];omega))
  ·exact .inl (goddA _ _ _ hh ht (cl _ _) (cl _ _))
  ·exact .inl (goddA _ _ _ (fun x hx=>jv hx) (fun x hx=>jv hx) (cl _ _) (cl _ _))
  ·exact .inr ⟨(yD (T:=T) (n:=3) (k:=3) (w:=110) oL (fun x hx=>gin _ _ x hx) (by omega)).w (by decide),by rw[kj];omega⟩
  ·refine .inl ((f7 (n := 3) (k := 7) (w := 110) (fun x hx => ?_) (by simp only [Qc, QV, Rh]; omega) (by decide)).w (by decide));rcases O7.mp hx with hx|hx
   ·exact gin _ _ x hx
   ·rw[Q5.mp hx];exact(Ua (by omega) (by omega)).w (by decide)
  ·exact .inl (gl _ 3 [] (fun x hx=>by cases hx) (by simp))
  ·exact .inl (Dj.w (by decide))
  ·exact .inl ((Ua (by omega) (by omega)).w (by decide))
  ·exact .inl ((f7 (n:=3) (k:=1) (w:=63) (fun x hx=>by rw[Q5.mp hx];exact qH hK (fun x hx=>hx) (by omega)) (by simp) (by decide)).w (by decide))
  ·exact .inl (gl _ 3 _ (fun x hx=>by
    rcases O7.mp hx with hx|hx
    ·exact hh x hx
    ·exact ht x hx) (by rw[Qc];have:=cl none (some 1);have:=cl (some (-1)) none;show (bX kl none (some 1)).length+(bX kl (some (-1)) none).length<=7;omega))
 have gst:∀(T:au->Prop) n x,x∈ts->GT T (n+1) 777 x:=fun T n x hx=>by
  obtain⟨k',hk',rfl⟩:=Rq.mp hx;have hK':=hs k' hk';exact(qH hK' (fun x hx=>hx) (by rw[Qd];have:=hK'.2.1;omega)).w (by decide)
 have clt:∀lo hi,(bX ts lo hi).length<=15:=fun lo hi=>O0 (pS ts lo hi) (by omega);have gsh:∀(T:au->Prop) n (l:List D),(∀x∈l,x∈ts)->l.length<=31->GT T (n+2) 24118 (.tup l):=fun T n l hx hn=>f7 (k:=31) (w:=777) (fun x h=>gst _ n x (hx x h)) hn (by decide)
 have gb5:Nw T Y.length 5 30000 (.tup bent):=by
  refine(Kg (n:=4) (k:=31) (w:=777) (fun z hz=>?_) ?_ (by decide)).wk (by decide)
  ·rcases O7.mp hz with hz | hz
   ·rcases O7.mp hz with hz | hz
    ·exact .inl (gst _ 3 z (jv hz))
    ·rw[Q5.mp hz];exact gW
   ·exact .inl (gst _ 3 z (jv hz))
  ·simp only[bent,Qc,QV,Rh];have:=clt none (some sp);have:=clt (some (sp+1)) none;omega
 have all:Nw T Y.length 5 30000 d/\oH d=true:=by
  rcases O7.mp hd with z|z
  ·have : d = .tup bent := by simpa [six] using z
   subst this;exact⟨gb5,rfl⟩
  ·simp only [five, O5, Sg, Sh] at z;rcases z with rfl|rfl|rfl|rfl|rfl
   ·exact⟨.inl ((gsh _ 3 _ (fun x hx=>jv hx) (by have:=clt (some 1) none;omega)).w (by decide)),rfl⟩
   ·refine ⟨.inl ((gsh _ 3 _ (fun x hx => ?_) (by have := clt none (some 1); rw [Qc]; omega)).w (by decide)), rfl⟩;rcases O7.mp hx with hx|hx
    ·exact hx
    ·exact jv hx
   ·exact⟨.inr ⟨(yD (T:=T) (n:=4) (k:=15) (w:=777) oS (fun x hx=>gst _ 3 x hx) (by omega)).w (by decide),by rw[kj];omega⟩,rfl⟩
   ·exact⟨.inl ((f7 (n:=4) (k:=1) (w:=24118) (fun x hx=>by rw[Q5.mp hx];exact gsh _ 2 ts (fun x hx=>hx) (by omega)) (by simp) (by decide)).w (by decide)),rfl⟩
   ·exact⟨.inl ((gsh _ 3 _ (fun x hx=>Ud.mp hx) (by rw[Tt];omega)).w (by decide)),rfl⟩
 obtain⟨Y',eg,P12,tg⟩:=CW (w:=30000) P11 (by decide) (.inl all);refine⟨d,Y',?_,P12,tg⟩;have e1':aF [.obj P,.int (sh.length:Int)] Y=.ok (.int sp) M1:=e1;have e2':aF [.obj P,.int (m:Int)] M1=.ok (.int r) M2:=e2;have e3':aF [.obj P,.int 8] M3=.ok (.int q) M4:=e3;have e4':aF [.obj P,.int (k.length:Int)] M4=.ok (.int at') M5:=e4;have e5':aF [.obj P,.int 10] M8=.ok (.int r2) M9:=e5;have e6':aF [.obj P,.int 11] M10=.ok (.int r3) M11:=e6;have sl:∀(xs:List D) lo hi (N:au),Cd (.tup xs) lo hi N=.ok (.tup (bX xs lo hi)) N:=fun _ _ _ _=>rfl;have rv:∀(xs:List D)(N:au),pL (.tup xs) (.int (-1)) N=.ok (.tup xs.reverse) N:=fun _ _=>rfl;have ls:∀(xs:List D)(N:au),kG [.tup xs] N=.ok (.obj N.length) (N++[O.lst xs]):=fun _ _=>rfl;have ad:∀(xs ys:List D)(N:au),xs.length<=31->ys.length<=31->bN (.tup xs) (.tup ys) N=.ok (.tup (xs++ys)) N:=fun xs ys N h1 h2=>ma (by omega);unfold cH;rw[g7];simp only[jh,List.replicate];rw[aO,bK];simp only[cJ,aL,ak,aj,bV,aw,aa,Rh,Q4,Qm];rw[show AR (.tup (sh.map cm)) (.tup []) Y=.ok (.bl false) Y from by cases sh with|nil=>exact absurd rfl ne|cons=>rfl];simp only[aa,bw,af,QU,Ql,bI,aI];rw[aO,bc];simp only[aB,aq,aw,ak,aj,aa,ae,lY,Qd];rw[e1'];simp only[af,ae,bO,aI,TQ,TR];rw[aO,bc];simp only[aL,ak,aj,aa];rw[gB est];simp only[af,ae,bO,aI,TQ,TR];rw[aO,bc];simp only[aL,cN,gA,lu,bV,aq,aw,ak,aj,bf,aa,ae,HH,QV,Rh,OS n1,aB];rw[e2'];simp only[aa,ae,QV,Rh,OS n8];rw[show aF [.obj P,.int 8] (M2++[O.lst [.int m,.int (-1),.bl true,.non,.str "0",.tup [.int 0],.int 1000000000000000000000000000000,.int r]])=_ from e3'];simp only[aa,ae];rw[eV t4 eo];simp only[af,ae,bO,aI,TQ,TR];rw[aO,bc];simp only[aB,aq,aw,ak,aj,aa,ae,lY,Qd];rw[e4'];simp only[af,ae,bO,aI,TQ,TR];rw[aO,bc];simp only[aL,cN,gA,lu,bV,qX,oI,i9,mQ,aB,aq,aw,ak,aj,bf,aa,ae,ic,sl,rv,ls,QV,Rh,OS n1];have cl':∀lo hi,(bX (k.map D.int) lo hi).length<=3:=cl;have clt':∀lo hi,(bX (sh.map cm) lo hi).length<=15:=clt;have q1:∀N:au,bN (.tup (bX (k.map D.int) none (some 1))) (.tup [odd]) N=.ok (.tup (bX (k.map D.int) none (some 1)++[odd])) N:=fun N=>ad _ _ _ (by have:=cl' none (some 1);omega) (by simp);have q2:∀N:au,bN (.tup (bX (k.map D.int) none (some 1)++[odd])) (.tup (bX (k.map D.int) (some (-1)) none)) N=.ok (.tup (bX (k.map D.int) none (some 1)++[odd]++bX (k.map D.int) (some (-1)) none)) N:=fun N=>ad _ _ _ (by have:=cl' none (some 1);rw[Qc,QN];omega) (by have:=cl' (some (-1)) none;omega);have q3:∀N:au,bN (.tup (bX (k.map D.int) none (some at'))) (.tup [odd]) N=.ok (.tup (bX (k.map D.int) none (some at')++[odd])) N:=fun N=>ad _ _ _ (by have:=cl' none (some at');omega) (by simp);have q4:∀N:au,bN (.tup (bX (k.map D.int) none (some at')++[odd])) (.tup (bX (k.map D.int) (some (at'+1)) none)) N=.ok (.tup (bX (k.map D.int) none (some at')++[odd]++bX (k.map D.int) (some (at'+1)) none)) N:=fun N=>ad _ _ _ (by have:=cl' none (some at');rw[Qc,QN];omega) (by have:=cl' (some (at'+1)) none;omega);have q5:∀N:au,bN (cm k) (.tup [.int 0]) N=.ok (.tup (k.map D.int++[.int 0])) N:=fun N=>ad _ _ _ (by rw[Qd];omega) (by simp);have q6:∀N:au,bN (.tup (bX (k.map D.int) none (some 1))) (.tup (bX (k.map D.int) (some (-1)) none)) N=.ok (.tup (bX (k.map D.int) none (some 1)++bX (k.map D.int) (some (-1)) none)) N:=fun N=>ad _ _ _ (by have:=cl' none (some 1);omega) (by have:=cl' (some (-1)) none;omega);simp only[q1,q2,q3,q4,q5,aa,ae,QV,Rh,OS n5,af,bO,aI,TQ,TR];rw[aO,bc];simp only[aL,cN,gA,lu,bV,qX,oI,i9,mQ,aB,aq,aw,ak,aj,bf,aa,ae,sl,q6,QV,Rh,Q4,Qm,OS n1,OS n5];rw[show bN (.obj (M5++[O.lst (k.map D.int)]).length) (.obj M6.length) (M6++[O.lst o5'])=.ok (.obj (M6++[O.lst o5']).length) M8 from nK (aD av) av (by simp[o5,o5'])];simp only[aa,ae,e5'];rw[eV t9 eW];simp only[af,ae,bO,aI,TQ,TR];have p1:∀N:au,bN (.tup (bX (sh.map cm) none (some sp))) (.tup [W]) N=.ok (.tup (bX (sh.map cm) none (some sp)++[W])) N:=fun N=>ad _ _ _ (by have:=clt' none (some sp);omega) (by simp);have p2:∀N:au,bN (.tup (bX (sh.map cm) none (some sp)++[W])) (.tup (bX (sh.map cm) (some (sp+1)) none)) N=.ok (.tup bent) N:=fun N=>ad _ _ _ (by have:=clt' none (some sp);rw[Qc,QN];omega) (by have:=clt' (some (sp+1)) none;omega);have p3:∀N:au,bN (.tup (sh.map cm)) (.tup (bX (sh.map cm) none (some 1))) N=.ok (.tup (sh.map cm++bX (sh.map cm) none (some 1))) N:=fun N=>ad _ _ _ (by rw[Qd];omega) (by have:=clt' none (some 1);omega);rw[aO,bc];simp only[aL,cN,gA,lu,bV,qX,oI,i9,mQ,aB,aq,aw,ak,aj,bf,aa,ae,ic,sl,p1,p2,QV,Rh,OS n1];rw[show mK (.obj M9.length) (.int 6) (M9++[O.lst [.tup bent]])=.ok (.obj N1.length) N2 from NU av];simp only[aL,cN,gA,lu,bV,qX,oI,i9,mQ,aB,aq,aw,ak,aj,bf,aa,ae,sl,p3,ls,rv,QV,Rh,OS n1,OS n5];rw[show bN (.obj N1.length) (.obj (N2++[O.lst (sh.map cm)]).length) (N2++[O.lst (sh.map cm)]++[O.lst [.tup (bX (sh.map cm) (some 1) none),.tup (sh.map cm++bX (sh.map cm) none (some 1)),.obj N2.length,.tup [.tup (sh.map cm)],.tup (sh.map cm).reverse]])=.ok (.obj N3.length) M10 from nK (aD (aD av)) av (by show 6+5<=1000;decide)];simp only[af,ae,bO,aI,TQ,TR,bo,aL,aB,aq,aw,ak,aj,bf,aa,e6'];rw[eV t11 ed];simp only[af,ba];exact eg
theorem Ba(hp:Y[P]?=some (cu a b c))(h0:1<=m)(h6:m<=6)(hs:∀k∈sh,zH k)(hl:sh.length<=15):∃d Y',cH [.obj P,.tup (sh.map cm),.int m] Y=.ok d Y'/\Pn Y P Y'/\ES Y.length Y' d:=by
 cases sh with
 |nil=>exact EJ hp
 |cons k r=>exact σ7 hp h0 h6 (by simp) hs hl
end
theorem rY{src:pG}{t:Nat}{g:MG}{e:ME}(J:List D->List D->Ro->au->Prop)(ho:∀xs acc ρ M,J xs acc ρ M->dJ src M)
  (hs:∀x r acc ρ M,J (x::r) acc ρ M->∃ρ1 d M1,g x ρ M=.ok ρ1 M/\e ρ1 M=.ok d M1/\M1[t]?=some (.lst acc)/\acc.length<1000/\J r (acc++[d]) ρ1 (M1.set t (.lst (acc++[d])))) :
  ∀(xs acc:List D)(ρ:Ro)(M:au),J xs acc ρ M->∃acc' ρ' M',compLoop src t g bz e xs ρ M=.ok (.obj t) M'/\J [] acc' ρ' M'
 |[],acc,ρ,M,h=>⟨acc,ρ,M,by unfold compLoop;rw[OS (ho _ _ _ _ h)],h⟩
 |x::r,acc,ρ,M,h=>by
  obtain⟨ρ1,d,M1,e1,e2,e3,e4,h1⟩:=hs x r acc ρ M h;obtain⟨acc',ρ',M',c,h2⟩:=rY J ho hs r (acc++[d]) ρ1 _ h1;refine⟨acc',ρ',M',?_,h2⟩;unfold compLoop;rw[OS (ho _ _ _ _ h),e1];simp only[ae,aa];rw[show bz ρ1 M=.ok true M from rfl];simp only[ae,aa];rw[OS trivial,e2];simp only[ae,aa];rw[show qT t d M1=.ok () (M1.set t (.lst (acc++[d]))) from by unfold qT;rw[e3];dsimp only;rw[OS (OV e4 bZ)]];simp only[aa];exact c
theorem NW:tf [.int 1,.int (n:Int)] M=.ok (.int (max 1 (n:Int))) M:=by
 show wx [.int 1,.int (n:Int)] M=_;unfold wx;dsimp only;congr 2;split <;> omega
theorem EM:zH [0,0]:=⟨by simp,by simp,fun i hi=>by simp at hi;omega⟩
section
variable{m:Nat}{P:Nat}
theorem uZ(h:GW m ks){a b:Int}(hk:k∈mq ks a b):zH k:=by
 by_cases ne:a=b
 ·rw[show mq ks a b=[] from OS ne]at hk;cases hk
 ·have hi := CY h ne hk;have m6:=h.m6;rcases (zW ne).mp hk with⟨p,h1,h2,rfl⟩|⟨h1,rfl⟩
  ·exact⟨by simp,by simp,fun i hx=>by have:=hi i hx;omega⟩
  ·exact⟨by simp,by simp,fun i hx=>by have:=hi i hx;omega⟩
theorem Bg{t T:Nat}{X:List D}{us:List (Nat×List (List Int))}(hP:P<Y.length)(hT:Y.length<=T)(htT:T<t)(hu:∀u∈us,Y.length<=u.1/\u.1<t/\M[u.1]?=some (.lst (u.2.map cm))/\u.1≠T/\u.2.length<=100/\∀k∈u.2,zH k)(hM:Pn Y P M)(hX:M[T]?=some (.lst X))(ht:M[t]?=some (.lst []))(hl:us.length<=100):
  ∃(ws:List (List Int))(M':au),compLoop (.own T X) t (ao 0) bz fk (us.map fun u=>D.obj u.1) [none,some (.obj P)] M=.ok (.obj t) M'/\Pn Y P M'/\M'[t]?=some (.lst (ws.map cm))/\(∀k∈ws,zH k)/\ws.length=us.length:=by
 have n1:0+1<=sizeLine:=l1;have n2:0+1+1<=sizeLine:=l2
 obtain⟨acc,ρ',M',c,vs,ws,e1,e2,e3,e4,e5,e6,e7,e8⟩:=rY (src:=.own T X) (t:=t) (g:=ao 0) (e:=fk)
  (fun xs acc ρ M'=>∃(vs:List (Nat×List (List Int)))(ws:List (List Int)),xs=vs.map (fun u=>D.obj u.1)/\acc=ws.map cm/\(∃o,ρ=[o,some (.obj P)])/\Pn Y P M'/\M'[T]?=some (.lst X)/\M'[t]?=some (.lst acc)/\(∀u∈vs,u∈us/\M'[u.1]?=some (.lst (u.2.map cm)))/\(∀k∈ws,zH k)/\ws.length+vs.length=us.length)
  (fun xs acc ρ M' ⟨vs,ws,e1,e2,e3,e4,e5,e6⟩=>e5)
  (fun x r acc ρ M' ⟨vs, ws, e1, e2, ⟨o, e3⟩, e4, e5, e6, e7, e8, e9⟩ => by
   cases vs with
   |nil=>cases e1
   |cons u vs=>
    simp only[QC,List.cons.injEq]at e1;obtain⟨rfl,rfl⟩:=e1;subst e3 e2;obtain⟨hu1,hu2⟩:=e7 u O3;obtain⟨b1,b2,b3,b4,b5,b6⟩:=hu u hu1;let N1:au:=M'++[O.lst [.tup [.int 0,.int 0]]]
    let N2:au:=N1++[O.lst (u.2.map cm++[.tup [.int 0,.int 0]])]
    have Pn2:Pn Y P N2:=(e4.app (g:=[O.lst [.tup [.int 0,.int 0]]])).app;obtain⟨q,x1,x2,x3,q0,q1,ed,Pn3⟩:=Pn2.draw (m:=max 1 (u.2.length:Int)) hP (by omega) (by omega);let N3:au:=N2.set P (cu x1 x2 x3)
    have hml:M'.length=M'.length:=rfl;have hPM:P<M'.length:=by have:=e4.len;omega
    have g3:∀j o,P≠j->M'[j]?=some o->N3[j]?=some o:=fun j o ne z=>by
     rw[Pd ne];exact aD (aD z)
    have t3:N3[N1.length]?=some (.lst (u.2.map cm++[.tup [.int 0,.int 0]])):=by
     rw[Pd (by simp only[N1,Qc];omega)];exact av
    obtain⟨k,hk1,hk2⟩:∃k,atI (u.2.map cm++[.tup [.int 0,.int 0]]) q=some (cm k)/\zH k:=by
     obtain⟨d,h1,h2⟩:=i4 (xs:=u.2.map cm++[.tup [.int 0,.int 0]]) (n:=u.2.length+1) (r:=q) q0 (by push_cast;omega) (by simp);rcases O7.mp h2 with z|z
     ·obtain⟨k,hk,rfl⟩:=Rq.mp z;exact⟨k,h1,b6 k hk⟩
     ·rw[Q5.mp z]at h1;exact⟨[0,0],h1,EM⟩
    refine⟨[some (.obj u.1),some (.obj P)],cm k,N3,rfl,?_,g3 t _ (by omega) e6,?_,vs,ws++[k],rfl,?_,⟨_,rfl⟩,Pn3.put (by omega),?_,?_,fun v hv=>?_,fun k' hk'=>?_,?_⟩
    ·unfold fk;simp only[aL,cN,bV,aB,aq,aw,ak,aj,bf,aa,ae,QV,Rh,OS n1,OS n2];rw[show bN (.obj u.1) (.obj M'.length) (M'++[O.lst [.tup [.int 0,.int 0]]])=.ok (.obj N1.length) N2 from nK (aD hu2) av (by simp;omega)];simp only[aB,aq,aw,ak,aj,bf,aa,ae];rw[G7 (show N2[u.1]?=some (.lst (u.2.map cm)) from aD (aD hu2))];simp only[aa,Qd];rw[NW];simp only[aa];rw[show aF [.obj P,.int (max 1 (u.2.length:Int))] N2=.ok (.int q) N3 from ed];simp only[aa];exact eV t3 hk1
    ·rw[Qd];simp only[QV]at e9;omega
    ·rw[RA];rfl
    ·rw[Pd (by omega)];exact g3 T _ (by omega) e5
    ·rw[Pc (by
      have:=(O9.mp (g3 t _ (by omega) e6)).1
      exact this)]
    ·obtain⟨c1,c2⟩:=e7 v (O4 _ hv);obtain⟨d1,d2,_⟩:=hu v c1;refine⟨c1,?_⟩;rw[Pd (by omega)];exact g3 _ _ (by omega) c2
    ·rcases O7.mp hk' with z | z
     ·exact e8 k' z
     ·rw[Q5.mp z];exact hk2
    ·simp only [QV, Qc, Rh] at e9 ⊢
     omega)
  (us.map fun u=>D.obj u.1) [] [none,some (.obj P)] M ⟨us,[],rfl,rfl,⟨_,rfl⟩,hM,hX,ht,fun u h=>⟨h,(hu u h).2.2.1⟩,(fun k hk=>by cases hk),by simp⟩
 have hv:vs=[]:=by cases vs with|nil=>rfl|cons=>cases e1
 subst hv e2;exact⟨ws,M',c,e4,e6,e8.1,by simpa using e8.2⟩
end
def Ie(M:au)(d:D):Prop:=∃x,∀s,Kn (M++s) d/\iC [d] (M++s)=.ok (.str x) (M++s)
theorem zV{M:au}:∀{L:List (List Int)},toPs M (L.map cm)=some (L.map gw)
 |[]=>rfl
 |w::L=>by
  have:AF M (cm w)=some (gw w):=by
   show (toPs M (w.map D.int)).map PyData.tuple=_;rw[rP];rfl
  simp only[QC,toPs,zV (L:=L),this];rfl
def EO(L:List (List Int)):PyData:=.list (L.map gw)
theorem xh{M0 s:au}{X:List D}:∀{ns:List Nat}{Ls:List (List (List Int))},sS M0 s ns Ls->iu (M0++O.lst X::s) (ns.map D.obj)=some (Ls.map EO)
 |[],[],_=>rfl
 |n::ns,L::Ls,h=>by
  have:yk (M0++O.lst X::s) (.obj n)=some (EO L):=by
   unfold yk;dsimp only;rw[h.1.2 X];dsimp only;rw[zV];rfl
  simp only[QC,iu,xh h.2,this];rfl
theorem Am:∀Ls:List (List (List Int)),PyData.canLayAll0 (Ls.map EO)=true/\PyData.depthAll (Ls.map EO)<=2
 |[]=>by simp[PyData.canLayAll0,PyData.depthAll]
 |L::Ls=>by
  have ih:=Am Ls;have f:=uO L;simp only[QC,PyData.canLayAll0,PyData.depthAll,ih.1,EO,PyData.canLay0,PyData.depth,f.1];have:=ih.2;have:=f.2;exact⟨rfl,by omega⟩
theorem KL{s:au}{e:Nat}{ns:List Nat}(h:sS M0 s ns Ls)(he:(M0++O.lst (ns.map D.obj)::s)[e]?=some (.lst [])):
  oq true (.obj e) (.obj M0.length) (M0++O.lst (ns.map D.obj)::s)=.ok (.bl (kF Ls)) (M0++O.lst (ns.map D.obj)::s):=by
 have e1:mw (M0++O.lst (ns.map D.obj)::s) (.obj e)=some (.list []):=by
  unfold mw;dsimp only;rw[he];rfl
 have e2:mw (M0++O.lst (ns.map D.obj)::s) (.obj M0.length)=some (.list (Ls.map EO)):=by
  unfold mw;dsimp only;rw[jt rfl];dsimp only;rw[xh h];rfl
 have f2:eS (.list (Ls.map EO))=true:=by
  have:=Am Ls;simp only[eS,PyData.canLay0,this.1,PyData.depth,Tw];exact QP (by have:=this.2;omega)
 unfold oq;rw[e1,e2];dsimp only[rn];rw[OS ⟨rfl,f2⟩];simp only[Qm]
 have:∀Ls:List (List (List Int)),(!((Ls.map EO).any fun y=>PyData.eqv y (.list [])))=kF Ls:=by
  intro Ls
  induction Ls with
  |nil=>rfl
  |cons L r ih=>
   unfold kF at ih⊢;rw[QC,List.any_cons,Bool.not_or,ih,QG];congr 1;cases L with
   |nil=>simp[EO,PyData.eqv,PyData.eqvAll]
   |cons=>simp[EO,PyData.eqv,PyData.eqvAll]
 rw[this]
section
variable{m:Nat}{P:Nat}
theorem IK{l l':Nat}(h:ES l M d)(hl:l'<=l):ES l' M d:=by
 obtain⟨x,hx⟩:=h;exact⟨x,fun Y' k=>hx Y' fun j o hj e=>k j o (by omega) e⟩
theorem wO{l:Nat}{M':au}(h:ES l M d)(k:Kw l M M'):ES l M' d:=by
 obtain⟨x,hx⟩:=h;exact⟨x,fun Y' k'=>hx Y' fun j o hj e=>k' j o hj (k j o hj e)⟩
theorem LQ{l:Nat}(h:ES l M d):Ie M d:=by
 obtain⟨x,hx⟩:=h;exact⟨x,fun s=>hx _ fun j o _ e=>aD e⟩
theorem zz{t:Nat}{xs0:List D}(hP:P<Y.length)(ht0:Y.length<=t)(h:GW m ks)(hw:∀k∈ws,zH k)(hl:ws.length<=15)(hM:Pn Y P M)(ht:M[t]?=some (.lst []))(h5:xs0.length=5):
  ∃(ds:List D)(M':au),compLoop (.fix xs0) t (ao 0) bz fj xs0 [none,some (.obj P),some (.tup (ws.map cm)),some (aN m ks)] M=.ok (.obj t) M'/\Pn Y P M'/\M'[t]?=some (.lst ds)/\(∀d∈ds,Ie M' d)/\ds.length=5/\∀j o,P≠j->j≠t->M[j]?=some o->M'[j]?=some o:=by
 obtain⟨acc,ρ',M',c,⟨o,e3⟩,e4,e5,e6,e7,e8⟩:=rY (src:=.fix xs0) (t:=t) (g:=ao 0) (e:=fj)
  (fun xs acc ρ M'=>(∃o,ρ=[o,some (.obj P),some (.tup (ws.map cm)),some (aN m ks)])/\Pn Y P M'/\M'[t]?=some (.lst acc)/\(∀d∈acc,ES (t+1) M' d)/\acc.length+xs.length=5/\∀j o,P≠j->j≠t->M[j]?=some o->M'[j]?=some o)
  (fun _ _ _ _ _=>trivial)
  (fun x r acc ρ M' ⟨⟨o, e3⟩, e4, e5, e6, e7, e8⟩ => by
   subst e3;obtain⟨pa,pb,pc,hp⟩:=e4.get hP;obtain⟨d,M1,ed,pn1,th⟩:=Ba (m:=m) (sh:=ws) hp h.m0 h.m6 hw hl;have htl:=(O9.mp e5).1;have hPM:P<M'.length:=by omega
   have k1:∀j o,P≠j->M'[j]?=some o->M1[j]?=some o:=(pn1.kp hPM).2
   have kw:Kw (t+1) M' (M1.set t (.lst (acc++[d]))):=fun j o hj z=>by
    rw[Pd (by omega)];exact k1 j o (by omega) z
   have t1:M1[t]?=some (.lst acc):=k1 t _ (by omega) e5
   have pn:Pn Y P M1:=by
    obtain⟨u1,u2,u3,g1,h1⟩:=e4;obtain⟨v1,v2,v3,g2,h2⟩:=pn1;exact⟨v1,v2,v3,g1++g2,by rw[h2,h1,TU _ _ (by simpa using hP),List.set_set,QK]⟩
   refine⟨[some x,some (.obj P),some (.tup (ws.map cm)),some (aN m ks)],d,M1,rfl,?_,t1,?_,⟨_,rfl⟩,pn.put ht0,?_,fun d' hd'=>?_,?_,fun j o n1 n2 z=>?_⟩
   ·unfold fj;simp only[aB,aq,aw,aL,ak,aj,bf,aa,ae,fu,ed]
   ·simp only[QV]at e7;omega
   ·exact Pc (O9.mp t1).1
   ·rcases O7.mp hd' with z | z
    ·exact wO (e6 d' z) kw
    ·rw[Q5.mp z];refine wO (IK th (show t+1<=M'.length by omega)) fun j o hj z=>?_;rw[Pd (by omega)];exact z
   ·simp only[QV,Qc,Rh]at e7⊢;omega
   ·rw [Pd (O6 n2)]
    exact k1 j o n1 (e8 j o n1 n2 z))
  xs0 [] [none,some (.obj P),some (.tup (ws.map cm)),some (aN m ks)] M ⟨⟨_,rfl⟩,hM,ht,(fun d hd=>by cases hd),by simpa using h5,fun j o _ _ z=>z⟩
 exact⟨acc,M',c,e4,e5,fun d hd=>LQ (e6 d hd),by simpa using e7,e8⟩
theorem CV(hw:∀k∈ws,zH k)(hl:ws.length<=15):Ie M (.tup (ws.map cm)):=by
 have g:GT (fun _=>True) 5 24118 (.tup (ws.map cm)):=f7 (n:=4) (k:=31) (w:=777) (fun x hx=>by
  obtain⟨k,hk,rfl⟩:=Rq.mp hx
  exact(qH (hw k hk) (fun x hx=>hx) (by rw[Qd];have:=(hw k hk).2.1;omega)).w (by decide)) (by rw[Qd];omega) (by decide)
 obtain⟨x,hx⟩:=vh g (by decide) rfl;exact⟨x,fun s=>hx _ trivial⟩
theorem Fz:Ie M .non:=⟨_,fun s=>⟨by simp[Kn],rfl⟩⟩
theorem G8{b:Bool}:fm "bool" (.bl b) M=.ok (.bl true) M:=rfl
theorem DT{a3 a4 a5 a6 a8 a9:Option D}(h:GW m ks)(h':GW m ks')(hd:Ie M d):∃b8 b9:Option D,gM [a0,some (aN m ks),some (aN m ks'),a3,a4,a5,a6,some d,a8,a9] M=.next [a0,some (aN m ks),some (aN m ks'),a3,a4,a5,a6,some d,b8,b9] M:=by
 obtain⟨x,hx⟩:=hd;have h0:=hx [];rw[PJ]at h0;obtain⟨hk,hr⟩:=h0;refine⟨some (.str x),some (.bl (yg ks ks' d)),?_⟩;unfold gM;rw[aO,bc];simp only[aB,aq,aw,ak,aj,aa,ae,hr,af,bO,TQ,TR,aI];rw[aO,bc];simp only[aB,aq,aw,ak,aj,bf,aa,ae,A0 h h' hk,af,bO,TQ,TR,aI];simp only[bK,iB,dF,fN,gA,cJ,aL,aB,aq,aw,ak,aj,bf,aa,ae,G8,cL,RQ,QU,Ql,A9 h h' hk];rw[show kZ true (.bl (yg ks ks' d)) (.bl (yg ks ks' d)) M=.ok (.bl false) M from by cases yg ks ks' d <;> rfl];simp only[aa,bw,QU,Ql,hr];rw[show yo true (.str x) (.str x) M=.ok (.bl false) M from Oe];simp only[aa,bw,af,QU,Ql,bI]
theorem ua{M:au}{t:Nat}{all:List D}{a0 a3 a4 a5 a6:Option D}(h:GW m ks)(h':GW m ks')(ht:M[t]?=some (.lst all)):∀(ds:List D)(a7 a8 a9:Option D),(∀d∈ds,Ie M d) ->
  ∃b7 b8 b9:Option D,gT (.own t all) (ao 7) gM ds [a0,some (aN m ks),some (aN m ks'),a3,a4,a5,a6,a7,a8,a9] M=.next [a0,some (aN m ks),some (aN m ks'),a3,a4,a5,a6,b7,b8,b9] M
 |[],a7,a8,a9,_=>⟨a7,a8,a9,by unfold gT;rw[OS (show dJ (.own t all) M from ht)]⟩
 |d::ds,a7,a8,a9,hd=>by
  obtain⟨b8,b9,e1⟩:=DT (a0:=a0) (a3:=a3) (a4:=a4) (a5:=a5) (a6:=a6) (a8:=a8) (a9:=a9) h h' (hd d O3);obtain⟨c7,c8,c9,e2⟩:=ua h h' ht ds (some d) b8 b9 fun u hu=>hd u (O4 _ hu);refine⟨c7,c8,c9,?_⟩;unfold gT;rw[OS (show dJ (.own t all) M from ht)];simp only[bO,af,ae,TQ,TR];rw[e1];exact e2
end
section
variable{m:Nat}{P:Nat}
abbrev Nx(Ls:List (List (List Int))):List (List Int):=Ls.map fun L=>L.headD []
theorem HN:Ib Ls=Lb (Nx Ls):=by unfold Ib Lb Nx;rw[Re];rfl
theorem Di(h':GW m ks')(hf:kF (mn ks' ks)=true):∀k∈Nx (mn ks' ks),zH k:=fun k hk=>by
 obtain⟨L,hL,rfl⟩:=Rq.mp hk;have:=RP.mp hf L hL;unfold mn at hL;obtain⟨t,_,rfl⟩:=Rq.mp hL;cases e:mq ks' (iU t).1 (iU t).2 with
 |nil=>rw[e]at this;cases this
 |cons x r=>exact uZ h' (by rw[e];simp)
theorem NQ:mJ [.int 5] M=.ok (.fix (d0 0 5)) M:=rfl
theorem rJ{pa pb pc:Int}(hp:Y[P]?=some (cu pa pb pc))(h:GW m ks)(h':GW m ks'):∃a b c,cF [.obj P,aN m ks,aN m ks'] Y=.ok (.bl true) (Y.set P (cu a b c)):=by
 have hP:P<Y.length:=(O9.mp hp).1;have n2:0+1+1<=sizeLine:=l2;have hl:=d9 h;have hcl:=Ds (ks':=ks') h
 obtain⟨ns,s,c,hA⟩:=oV (U:=List Int) (en:=aK) (src:=.fix (ks.map aK)) (g:=dC 2 (bb (ao 0) (bb (ao 1) dD))) (e:=gP) (M0:=Y) (K:=fun k=>mq ks' (iU k).1 (iU k).2)
  (fun ρ=>∃o o',ρ=[o,o',some (aN m ks')]) (fun _ _=>trivial) ks [] [] [none,none,some (aN m ks')] [] ⟨_,_,rfl⟩ (by simp;omega) trivial
  (fun k hk a s ρ ⟨o, o', ho⟩ => by
   subst ho;obtain⟨p,q,rfl,p0,pq,qm⟩:=h.2.2.2.2 k hk;obtain⟨n,G,e1,e2,e3⟩:=oM (Y:=Y++O.lst a::s) (a:=p) (b:=q) h';refine⟨[some (.int p),some (.int q),some (aN m ks')],n,G,⟨_,_,rfl⟩,rfl,?_,e2,e3⟩;unfold gP
   simp only[aB,aq,aw,ak,aj,aa,e1])
 rw[QO]at hA;have hA:sS Y s ns (mn ks' ks):=hA;let X:List D:=ns.map D.obj
 have hAn:=hA.len;let s1:au:=s++[O.lst []]
 have due:∃(s2:au),sS Y s2 ns (mn ks' ks)/\ka (gY (aH (oq true) (eR (aA)) (ah 3))) (bU (aC gb (ag (cK (f6 (ah 3)) [none] (ao 0) (bz) (jf)) (aA))) (ao 4)) (bY) [some (.obj P),some (aN m ks),some (aN m ks'),some (.obj Y.length),some .non,none,none,none,none,none] (Y++O.lst X::s)=.next [some (.obj P),some (aN m ks),some (aN m ks'),some (.obj Y.length),some (tM (mn ks' ks)),none,none,none,none,none] (Y++O.lst X::s2):=by
  have h1:sS Y s1 ns (mn ks' ks):=hA.more;have es:Y++O.lst X::s++[O.lst []]=Y++O.lst X::s1:=by simp[s1]
  have he:(Y++O.lst X::s1)[(Y++O.lst X::s).length]?=some (.lst []):=by rw[<- es];exact av
  simp only[bK,cJ,aL,cN,aw,ak,aj,aa,ae,Rh,Q4,Qm];rw[es,KL h1 he];simp only[aa,bw,af];unfold tM;cases hf:kF (mn ks' ks) with
  |false=>exact⟨s1,h1,by simp only[QU,Ql,bI];rfl⟩
  |true=>
   refine⟨s1++[O.lst ((mn ks' ks).map fun L=>cm (L.headD []))],h1.more,?_⟩;simp only[Qm,bc,aB,aq,aw,cw,cD,ak,aj,aa,ae];rw[gE (show (Y++O.lst X::s1)[Y.length]?=some (.lst X) from jt rfl)];simp only[aa,dP];rw[show fQ [none] [some (.obj P),some (aN m ks),some (aN m ks'),some (.obj Y.length),some .non,none,none,none,none,none]=[none] from rfl,sx h1 hf (by omega) fun n M=>by unfold jf;simp only[aL,aj,bf,aa]];simp only[aa];rw[ju av];simp only[af,bO,TQ,TR,QK,Rj];rfl
 obtain⟨s2,hA2,edue⟩:=due;let M2:au:=Y++O.lst X::s2
 have pn2:Pn Y P M2:=by
  obtain⟨a,b,c,g,e⟩:=Pn.self hp
  have:g=[]:=by
   have:=Ph List.length e;simp at this;exact this
  subst this;rw[PJ]at e;exact⟨a,b,c,O.lst X::s2,by rw[<- e]⟩
 have tu:∀M:au,ip (pM (gY (aH (nu false) (ah 4) (cC .non))) (gY (aH (nu true) (ah 5) (cC .non)))) (pM (gY (aH (nu true) (ah 4) (cC .non))) (cS (gu (aC bF (ag (ah 5) (ag (ah 4) (aA))))))) [some (.obj P),some (aN m ks),some (aN m ks'),some (.obj Y.length),some (tM (mn ks' ks)),some (tM (mn ks' ks)),none,none,none,none] M=.ok false M:=fun M=>by
  simp only[iB,Az,cJ,aL,ak,aj,bf,aa];unfold tM;cases hf:kF (mn ks' ks) with
  |false=>
   have d1:∀N:au,nu false .non .non N=.ok (.bl true) N:=fun _=>rfl;have d2:∀N:au,nu true .non .non N=.ok (.bl false) N:=fun _=>rfl;simp only[d1,d2,aa,bw,Qm,QU,Ql]
  |true=>
   have d1:∀N:au,nu false (Ib (mn ks' ks)) .non N=.ok (.bl false) N:=fun _=>rfl;have d2:∀N:au,nu true (Ib (mn ks' ks)) .non N=.ok (.bl true) N:=fun _=>rfl;simp only[d1,d2,aa,bw,Qm,QU,Ql,dF,fN,aB,aq,aw,ak,aj];rw[HN,tX (fun k hk=>by have:=(Di h' hf k hk).2.1;omega) (by rw[Qd];omega)];simp only[aa,cL,RQ]
 let t3:Nat:=M2.length
 let M3:au:=M2++[O.lst []]
 have lM2:Y.length<M2.length:=by simp only[M2,Qc,QV];omega
 obtain⟨ws,M4,c4,pn4,t4,w4,wl⟩:=Bg (Y:=Y) (P:=P) (t:=t3) (T:=Y.length) (X:=X) (us:=ns.zip (mn ks' ks)) (M:=M3) hP (Pv _) lM2
  (fun u hu => by
   obtain⟨u1,u2⟩:=hA2.at u hu;have u3:=u2 X;have u4:=(O9.mp u3).1;have u5:=(PQ hu).2;refine⟨by omega,u4,aD u3,by omega,?_,fun k hk=>?_⟩
   ·unfold mn at u5;obtain⟨k,_,ek⟩:=Rq.mp u5;rw[<- ek];exact O0 (zX h') (by omega)
   ·unfold mn at u5;obtain⟨k',_,ek⟩:=Rq.mp u5;rw[<- ek]at hk
    exact uZ h' hk)
  pn2.app (aD (jt rfl)) av (by rw[Uc];omega)
 rw[uV hA2.len]at c4;have wl:ws.length<=15:=by rw[wl,Uc];omega
 let L1:List D:=[.tup (ws.map cm),tM (mn ks' ks)]
 let M5:au:=M4++[O.lst L1]
 have lM4:Y.length<=M4.length:=pn4.len;obtain⟨ds,M6,c6,pn6,t6,th6,l6,k6⟩:=zz (Y:=Y) (P:=P) (t:=M5.length) (ws:=ws) (M:=M5++[O.lst []]) (xs0:=d0 0 5) hP (by simp only[M5,Qc];omega) h w4 wl ((pn4.app (g:=[O.lst L1])).app) av rfl;have t6':M6[M4.length]?=some (.lst L1):=k6 _ _ (by omega) (by simp only[M5,Qc,QV];omega) (aD av);let M7:au:=M6++[O.lst (L1++ds)]
 have a7:bN (.obj M4.length) (.obj M5.length) M6=.ok (.obj M6.length) M7:=nK t6' t6 (by rw[l6];simp[L1])
 have th7:∀d∈L1++ds,Ie M7 d:=fun d hd=>by
  rcases O7.mp hd with z|z
  ·simp only [L1, O5, Sg, Sh] at z;rcases z with rfl|rfl
   ·exact CV w4 wl
   ·unfold tM;split
    ·rename_i hf;rw[HN];exact CV (Di h' hf) (by rw[Qd];omega)
    ·exact Fz
  ·obtain⟨x,hx⟩:=th6 d z;exact⟨x,fun s=>by rw[show M7++s=M6++([O.lst (L1++ds)]++s) from QK ..];exact hx _⟩
 obtain⟨b7,b8,b9,e7⟩:=ua (M:=M7) (t:=M6.length) (all:=L1++ds) (a0:=some (.obj P)) (a3:=some (.obj Y.length)) (a4:=some (tM (mn ks' ks))) (a5:=some (tM (mn ks' ks))) (a6:=some (.tup (ws.map cm))) h h' av (L1++ds) none none none th7;obtain⟨x1,x2,x3,eg⟩:=(pn6.app (g:=[O.lst (L1++ds)])).gc (d:=.bl true) (by simp);refine⟨x1,x2,x3,?_⟩;unfold cF;rw[g7];simp only[oh,List.replicate];rw[aO,bc];simp only[cw,cD,aL,ak,aj,bf,aa,ae,ia,iL,bH];rw[show fQ [none,none,some 2] [some (.obj P),some (aN m ks),some (aN m ks'),none,none,none,none,none,none,none]=[none,none,some (aN m ks')] from rfl,show compLoop (.fix (ks.map aK)) Y.length (dC 2 (bb (ao 0) (bb (ao 1) dD))) bz gP (ks.map aK) [none,none,some (aN m ks')] (Y++[O.lst []])=_ from c];simp only[af,bO,TQ,TR,aI];rw[aO,bc];simp only[bf,af,bO,TQ,TR,aI];rw[aO,edue];simp only[aI];rw[aO,bc];simp only[aB,aq,aw,ak,aj,bf,aa,ae,yP h h',af,bO,TQ,TR,aI];rw[aO,bK,tu];simp only[af,QU,Ql,bI,aI];rw[aO,bc];simp only[aB,aq,aw,cw,cD,ak,aj,aa,ae];rw[gE (show (Y++O.lst X::s2)[Y.length]?=some (.lst X) from jt rfl)];simp only[aa,dP];rw[show fQ [none,some 0] [some (.obj P),some (aN m ks),some (aN m ks'),some (.obj Y.length),some (tM (mn ks' ks)),some (tM (mn ks' ks)),none,none,none,none]=[none,some (.obj P)] from rfl,show compLoop (.own Y.length X) (Y++O.lst X::s2).length (ao 0) bz fk X [none,some (.obj P)] (Y++O.lst X::s2++[O.lst []])=_ from c4];simp only[aa];rw[ju t4];simp only[af,bO,TQ,TR,aI];rw[aO,lx];simp only[cD,aL,cN,aq,aw,cw,iM,ak,aj,bf,aa,ae,QV,Rh,OS n2,NQ,bH];rw[show fQ [none,some 0,some 6,some 1] [some (.obj P),some (aN m ks),some (aN m ks'),some (.obj Y.length),some (tM (mn ks' ks)),some (tM (mn ks' ks)),some (.tup (ws.map cm)),none,none,none]=[none,some (.obj P),some (.tup (ws.map cm)),some (aN m ks)] from rfl,show compLoop (.fix (d0 0 5)) (M4++[O.lst [.tup (ws.map cm),tM (mn ks' ks)]]).length (ao 0) bz fj (d0 0 5) [none,some (.obj P),some (.tup (ws.map cm)),some (aN m ks)] (M4++[O.lst [.tup (ws.map cm),tM (mn ks' ks)]]++[O.lst []])=_ from c6];simp only[aa];rw[show bN (.obj M4.length) (.obj M5.length) M6=_ from a7];simp only[aa];rw[gE (show M7[M6.length]?=some (.lst (L1++ds)) from av)];simp only[af,dP];rw[e7];simp only[aI,bo,bf,af,ba];exact eg
end
theorem NS:sZ (.int 10) (.int 9) Y=.ok (.int 1000000000) Y:=by
 rw[show (sZ:D->D->au->ai D)=EX yp fun i j=>.int (i^j.toNat) from rfl,mP (show yp 10 9 from⟨by decide,by decide,by decide⟩)];rfl
theorem FO:∃x:Int,fg [.frz (ns.map D.int),.int 0] Y=.ok (.int x) Y:=by
 unfold fg;rw[dj];cases ns with
 |nil=>
  refine⟨0,?_⟩;simp only[jg,QB,List.replicate,aO,bK,cJ,aL,ak,aj,aB,aq,aw,Ax,Rh,aa,ae,lZ];rw[show fq .Lt 0 ((0:Nat):Int)=false from rfl];simp only[bw,af,ae,QU,Ql,bI,aI,bo,bf,ba];exact aR (by simp)
 |cons x r=>
  refine⟨x,?_⟩;simp only[jg,QC,List.replicate,aO,bK,cJ,aL,ak,aj,aB,aq,aw,Ax,QV,aa,ae,lZ];rw[show fq .Lt 0 (((r.map D.int).length+1:Nat):Int)=true from QP (by omega)];simp only[bw,af,Qm,bo,aL,ak,aj,aa,ae];rw[KY pN];simp only[af,ae,fM,ba];exact aR (by simp)
section
variable{m m':Nat}
theorem Hj(hi:i<Y0.length)(h:Pn Y0 i Y1)(hg:GW m ks):∃(qs:List (List Int))(Y2:au),qs.Sublist ks/\Pn Y0 i Y2/\Y2.length=Y1.length /\
  compLoop (.fix (ks.map aK)) Y1.length (ao 0) nL nN (ks.map aK) [none,some (.obj i)] (Y1++[.lst []])=.ok (.obj Y1.length) (Y2++[.lst (qs.map aK)]):=by
 have kl:=d9 hg
 obtain⟨ys',ρ',Y2,s',⟨es,e1,e2,⟨o,e4⟩,qs,rs,e5,e6,e7,e8⟩,run⟩:=lC (src:=.fix (ks.map aK)) (g:=ao 0) (t:=nL) (e:=nN) (n:=Y1.length)
  (fun xs ys ρ Y2 s=>s=[]/\Y2.length=Y1.length/\Pn Y0 i Y2/\(∃o,ρ=[o,some (.obj i)])/\∃qs rs:List (List Int),xs=rs.map aK/\ys=qs.map aK/\(qs++rs).Sublist ks/\qs.length+rs.length<=ks.length)
  (fun ys ρ Y2 s ⟨_,e1,_⟩=>⟨e1,trivial⟩)
  (fun x r ys ρ Y2 s hJJ => by
   obtain⟨es,e1,e2,⟨o,e4⟩,qs,rs,e5,e6,e7,e8⟩:=hJJ;subst es e4 e6;cases rs with
   |nil=>cases e5
   |cons k rs=>
    rw[QC]at e5;injection e5 with ex er
    subst ex er;simp only[QV]at e8;have i2:i<Y2.length:=OV hi e2.len;obtain⟨v,a,b,c,v0,v1,ed,hp⟩:=(e2.app (g:=[.lst (qs.map aK)])).draw (m:=3) hi (by decide) (by decide);rw[va i2]at ed;refine⟨e1,trivial,[some (aK k),some (.obj i)],Y2,[],fq .Gt v 0,Y2.set i (cu a b c),[],rfl,?_,fun hc=>?_,fun hc=>?_⟩
    ·unfold nL;simp only[cJ,aL,aB,aq,aw,ak,aj,bf,aa,ae,ed,lZ,bw]
    ·refine ⟨aK k, Y2.set i (cu a b c), [], ?_, ?_, by simpa using e1, rfl, by simpa using e1, e2.set hi, ⟨_, rfl⟩, qs ++ [k], rs, rfl, by simp, by simpa using e7, by simp; omega⟩
     ·unfold nN;rw[aj]
     ·rw[Qd];exact OV (show qs.length<1000 by omega) bZ
    ·exact⟨rfl,by simpa using e1,e2.set hi,⟨_,rfl⟩,qs,rs,rfl,rfl,(List.Sublist.append (List.Sublist.refl qs) (List.sublist_cons_self k rs)).trans e7,by omega⟩)
  (xs:=ks.map aK) (ys:=[]) (ρ:=[none,some (.obj i)]) (Y1:=Y1) (s:=[])
  ⟨rfl,rfl,h,⟨_,rfl⟩,[],ks,rfl,rfl,by simp,by simp⟩
 subst es e6;refine⟨qs,Y2,?_,e2,e1,run⟩;cases rs with
 |nil=>simpa using e7
 |cons=>cases e5
theorem KO(h:GW m ks)(hs:ks'.Sublist ks):GW m ks':=⟨rfl,h.2.1,h.2.2.1,h.2.2.2.1.sublist hs,fun k hk=>h.2.2.2.2 k (hs.subset hk)⟩
theorem yR{P:Nat}{a b c:Int}(hp:Y[P]?=some (cu a b c))(hm:m<=6):∃d Y',dq [.obj P,.int (m:Int)] Y=.ok d Y'/\Pn Y P Y'/\(∀N,Kw Y.length Y' N->Kn N d)/\cI 0 ((m:Int)-1) d=false:=by
 have hP:P<Y.length:=(O9.mp hp).1;obtain⟨r0,a1,b1,c1,r00,r01,e1,P1⟩:=(Pn.self hp).draw (m:=1000000000) hP (by decide) (by decide);let M1:au:=Y.set P (cu a1 b1 c1)
 have l1M:M1.length=Y.length:=by simp[M1]
 let odds:List D:=[.int (m:Int),.int ((m:Int)+1+r0),.int (-1),.bl true,.bl false,.non,.str "0",.tup [.int 0],.obj M1.length,.obj (M1++[O.lst [.int 0]]).length]
 let M2:au:=M1++[O.lst [.int 0]]++[O.dic]++[O.lst odds]
 have P2:Pn Y P M2:=((P1.app (g:=[O.lst [.int 0]])).app (g:=[O.dic])).app;obtain⟨r1,a3,b3,c3,r10,r11,e3,P3⟩:=P2.draw (m:=10) hP (by decide) (by decide);let M3:au:=M2.set P (cu a3 b3 c3)
 have t3:M3[(M1++[O.lst [.int 0]]++[O.dic]).length]?=some (.lst odds):=by rw[Pd (by simp only[Qc];omega)];exact av
 have tL:M3[M1.length]?=some (.lst [.int 0]):=by rw[Pd (by omega)];exact aD (aD av)
 have tD':M3[(M1++[O.lst [.int 0]]).length]?=some .dic:=by rw[Pd (by rw[Qc];omega)];exact aD av
 obtain⟨d,ed,hd⟩:=i4 (xs:=odds) (n:=10) r10 r11 rfl
 have all:cI 0 ((m:Int)-1) d=false/\((∀N,Kn N d)\/d=.obj M1.length\/d=.obj (M1++[O.lst [.int 0]]).length):=by
  simp only[odds,O5,Sg,Sh]at hd;rcases hd with rfl|rfl|rfl|rfl|rfl|rfl|rfl|rfl|rfl|rfl
  ·exact⟨by simp only[cI,Ue,Ub];omega,.inl fun N=>by simp[Kn]⟩
  ·exact⟨by simp only[cI,Ue,Ub];omega,.inl fun N=>by simp[Kn]⟩
  ·exact⟨by simp only[cI,Ue,Ub];omega,.inl fun N=>by simp[Kn]⟩
  ·exact⟨rfl,.inl fun N=>by simp[Kn]⟩
  ·exact⟨rfl,.inl fun N=>by simp[Kn]⟩
  ·exact⟨rfl,.inl fun N=>by simp[Kn]⟩
  ·exact⟨rfl,.inl fun N=>by simp[Kn]⟩
  ·exact⟨rfl,.inl fun N=>by simp[Kn,Kns]⟩
  ·exact⟨rfl,.inr (.inl rfl)⟩
  ·exact⟨rfl,.inr (.inr rfl)⟩
 obtain⟨hr,all⟩:=all
 have fin:∃Y',nk Y (.ok d M3)=.ok d Y'/\Pn Y P Y'/\(∀N,Kw Y.length Y' N->Kn N d):=by
  rcases uS (Y:=Y) (d:=d) (Y':=M3) with e|⟨e,hlow⟩
  ·refine ⟨M3, e, P3, fun N k => ?_⟩;rcases all with g|rfl|rfl
   ·exact g N
   ·simp only[Kn];refine⟨"list",?_,by decide,by decide,by decide⟩;unfold vQ;dsimp only;rw[k _ _ (by omega) tL]
   ·simp only[Kn];refine⟨"dict",?_,by decide,by decide,by decide⟩;unfold vQ;dsimp only;rw[k _ _ (by rw[Qc];omega) tD']
  ·refine ⟨_, e, ?_, fun N k => ?_⟩
   ·obtain⟨u,v,w,g,hg⟩:=P3;rw[show M3=Y.set P (cu u v w)++g from hg];exact⟨u,v,w,[],by rw[Tq (by simp),Rn (by simp),PJ]⟩
   ·rcases all with g | rfl | rfl
    ·exact g N
    ·rw[kj]at hlow;omega
    ·rw[kj,Qc]at hlow;omega
 obtain⟨Y',eg,P4,tg⟩:=fin;refine⟨d,Y',?_,P4,tg,hr⟩;have n1:0+1<=sizeLine:=l1;have n10:0+1+1+1+1+1+1+1+1+1+1<=sizeLine:=O0 (by decide) bZ;have e1':aF [.obj P,.int 1000000000] Y=.ok (.int r0) M1:=e1;have e3':aF [.obj P,.int 10] M2=.ok (.int r1) M3:=e3;unfold dq;rw[dj];simp only[kP,List.replicate];rw[aO,bc];simp only[cN,aL,gA,lu,bV,aq,aw,aB,ak,aj,bf,yF,aa,ae,ic,NS,e1',QV,Rh,OS n1,OS n10,af,bO,aI,TQ,TR,bo];rw[show aF [.obj P,.int 10] (M1++[O.lst [.int 0]]++[O.dic]++[O.lst [.int (m:Int),.int ((m:Int)+1+r0),.int (-1),.bl true,.bl false,.non,.str "0",.tup [.int 0],.obj M1.length,.obj (M1++[O.lst [.int 0]]).length]])=_ from e3'];simp only[aa,ae];rw[eV t3 ed];simp only[af,ba];exact eg
theorem GR(h:M[n]?=some (.lst xs)):fm "list" (.obj n) M=.ok (.bl true) M:=by
 unfold fm vQ;dsimp only;rw[h];rfl
theorem Ej{Mb g:au}{x y:Int}{a1 a2 a4 a5 a8 a9 a10 a11:Option D}(h:GW m ks)(hx:0<=x/\x<(m:Int))(hy:0<=y/\y<(m:Int)):
  ∃b8 b9 g',qN [a0,a1,a2,some (aN m ks),a4,a5,some (.int x),some (.int y),a8,a9,a10,a11] (Mb++g)=.next [a0,a1,a2,some (aN m ks),a4,a5,some (.int x),some (.int y),b8,b9,a10,a11] (Mb++g'):=by
 obtain⟨n,G,e1,e2,e3⟩:=yO (Y:=Mb++g) h hx hy;obtain⟨n2,G2,f1,f2,f3⟩:=oM (Y:=Mb++g++G) (a:=x) (b:=y) h;have sl:=zX (a:=x) (b:=y) h;have e2':(Mb++g++G++G2)[n]?=some (.lst ((mq ks x y).map cm)):=aD e2;refine⟨some (.obj n),some (Lb (mq ks x y)),(g++G++G2).set (n-Mb.length) (.lst ((mq ks x y).map cm++[.non])),?_⟩;unfold qN;rw[aO,bc];simp only[aB,aq,aw,ak,aj,bf,aa,ae,e1,af,bO,TQ,TR,aI];rw[aO,bc];simp only[aB,aq,aw,ak,aj,aa,ae,f1];rw[ju f2];simp only[af,bO,TQ,TR,aI];rw[aO,bK];simp only[iB,dF,fN,gA,aB,aq,aw,ak,aj,aa,ae,GR e2',cL,RQ,QU,Ql];rw[ju e2'];simp only[aa];rw[show bF [.tup ((mq ks x y).map cm),.tup ((mq ks x y).map cm)] (Mb++g++G++G2)=.ok (.bl true) (Mb++g++G++G2) from tX (fun k hk=>by have:=(uZ h hk).2.1;omega) (by omega)];simp only[aa,cL,RQ,af,QU,Ql,bI,aI,eK,qY,aq,aw,ak,aj,bf,ae];rw[show zE (.obj n) (Mb++g++G++G2)=true from rp e2'];simp only[Qm];rw[yK e2' (by rw[Qd];omega)];simp only[af];rw[show Mb++g++G++G2=Mb++(g++G++G2) from by simp only[QK],yw (by rw[Qc]at e3;omega)]
theorem C5{x:D}{r zs:List D}(h:x::r=zs)(hz:∀z∈zs,∃i:Int,z=.int i/\0<=i/\i<(n:Int)):(∃i:Int,x=.int i/\0<=i/\i<(n:Int))/\∀z∈r,∃i:Int,z=.int i/\0<=i/\i<(n:Int):=by
 subst h;exact⟨hz x O3,fun z h=>hz z (O4 _ h)⟩
theorem wX:∀z∈d0 0 (n:Int).toNat,∃i:Int,z=.int i/\0<=i/\i<(n:Int):=fun z hz=>by
 rw[C4]at hz;obtain⟨i,hi,rfl⟩:=Rq.mp hz;have:=uR.mp hi;exact⟨i,rfl,this.1,this.2⟩
theorem Ki{Mb g:au}{x:Int}{a1 a2 a5 a7 a8 a9 a10 a11:Option D}(h:GW m ks)(hx:0<=x/\x<(m:Int)):
  ∃b7 b8 b9 g',me [a0,a1,a2,some (aN m ks),some (aN m w2),a5,some (.int x),a7,a8,a9,a10,a11] (Mb++g)=.next [a0,a1,a2,some (aN m ks),some (aN m w2),a5,some (.int x),b7,b8,b9,a10,a11] (Mb++g'):=by
 have m6:=h.m6
 obtain⟨ρ',Y',⟨_,b7,b8,b9,g',e1,e2⟩,run⟩:=nI (src:=.fix (d0 0 (m:Int).toNat)) (g:=ao 7) (fb:=qN)
  (fun zs ρ M=>(∀z∈zs,∃i:Int,z=.int i/\0<=i/\i<(m:Int))/\∃b7 b8 b9 g',ρ=[a0,a1,a2,some (aN m ks),some (aN m w2),a5,some (.int x),b7,b8,b9,a10,a11]/\M=Mb++g')
  (fun _ _ _=>trivial)
  (fun z r ρ M ⟨hz, b7, b8, b9, g', e1, e2⟩ => by
   subst e1 e2;obtain⟨⟨i,rfl,hi⟩,hr⟩:=C5 rfl hz;obtain⟨c8,c9,g2,e⟩:=Ej (Mb:=Mb) (g:=g') (x:=x) (y:=i) (a0:=a0) (a1:=a1) (a2:=a2) (a4:=some (aN m w2)) (a5:=a5) (a8:=b8) (a9:=b9) (a10:=a10) (a11:=a11) h hx hi
   exact⟨trivial,_,_,_,_,rfl,e,hr,_,_,_,_,rfl,rfl⟩)
  (xs:=d0 0 (m:Int).toNat) (ρ:=[a0,a1,a2,some (aN m ks),some (aN m w2),a5,some (.int x),a7,a8,a9,a10,a11]) (Y:=Mb++g) ⟨wX,_,_,_,_,rfl,rfl⟩
 subst e1 e2;refine⟨b7,b8,b9,g',?_⟩;unfold me;rw[lx];simp only[iM,aq,aw,aL,ak,aj,bf,aa,ae,fu];rw[nJ (by omega) (by omega)];simp only[af,bH];exact run
theorem GJ{Mb:au}{a1 a2 a5 a6 a7 a8 a9 a10 a11:Option D}(h:GW m ks):
  ∃b6 b7 b8 b9 g',nq (kU mJ (ag (aH cW (ah 4) (cC (.int 0))) (aA))) (ao 6) me [a0,a1,a2,some (aN m ks),some (aN m w2),a5,a6,a7,a8,a9,a10,a11] Mb=.next [a0,a1,a2,some (aN m ks),some (aN m w2),a5,b6,b7,b8,b9,a10,a11] (Mb++g'):=by
 have m6:=h.m6
 obtain⟨ρ',Y',⟨_,b6,b7,b8,b9,g',e1,e2⟩,run⟩:=nI (src:=.fix (d0 0 (m:Int).toNat)) (g:=ao 6) (fb:=me)
  (fun zs ρ M=>(∀z∈zs,∃i:Int,z=.int i/\0<=i/\i<(m:Int))/\∃b6 b7 b8 b9 g',ρ=[a0,a1,a2,some (aN m ks),some (aN m w2),a5,b6,b7,b8,b9,a10,a11]/\M=Mb++g')
  (fun _ _ _=>trivial)
  (fun z r ρ M ⟨hz, b6, b7, b8, b9, g', e1, e2⟩ => by
   subst e1 e2;obtain⟨⟨i,rfl,hi⟩,hr⟩:=C5 rfl hz;obtain⟨c7,c8,c9,g2,e⟩:=Ki (Mb:=Mb) (g:=g') (x:=i) (w2:=w2) (a0:=a0) (a1:=a1) (a2:=a2) (a5:=a5) (a7:=b7) (a8:=b8) (a9:=b9) (a10:=a10) (a11:=a11) h hi
   exact⟨trivial,_,_,_,_,rfl,e,hr,_,_,_,_,_,rfl,rfl⟩)
  (xs:=d0 0 (m:Int).toNat) (ρ:=[a0,a1,a2,some (aN m ks),some (aN m w2),a5,a6,a7,a8,a9,a10,a11]) (Y:=Mb) ⟨wX,_,_,_,_,[],rfl,(PJ _).symm⟩
 subst e1 e2;refine⟨b6,b7,b8,b9,g',?_⟩;rw[lx];simp only[iM,aq,aw,aL,ak,aj,bf,aa,ae,fu];rw[nJ (by omega) (by omega)];simp only[af,bH];exact run
end
mutual
theorem Ap{n:Nat}{N N':au}(h:∀j,j<n->N[j]?=N'[j]?):∀{d:D},d.low n->Kn N d->Kn N' d
 |.non,_,_=>by simp[Kn]
 |.bl _,_,_=>by simp[Kn]
 |.int _,_,_=>by simp[Kn]
 |.str _,_,_=>by simp[Kn]
 |.frz _,_,_=>by simp[Kn]
 |.obj j,hl,hk=>by
  rw[kj]at hl;simp only[Kn]at hk⊢;obtain⟨tn,h1,h2⟩:=hk;refine⟨tn,?_,h2⟩;unfold vQ at h1⊢;dsimp only at h1⊢;rw[<- h j hl];exact h1
 |.tup xs,hl,hk=>by
  rw[nF]at hl;simp only[Kn]at hk⊢;exact⟨hk.1,kns_same h hl hk.2⟩
theorem kns_same{n:Nat}{N N':au}(h:∀j,j<n->N[j]?=N'[j]?):∀{xs:List D},D.lows n xs->Kns N xs->Kns N' xs
 |[],_,_=>by simp[Kns]
 |x::xs,hl,hk=>by
  simp only[Kns]at hk⊢;exact⟨Ap h hl.1 hk.1,kns_same h hl.2 hk.2⟩
end
section
variable{m:Nat}
theorem DI{P:Nat}{a b c:Int}(hp:Y[P]?=some (cu a b c))(h:GW m ks):∃d Y',dr [.obj P,aN m ks] Y=.ok d Y'/\Pn Y P Y'/\(∀N,Y.length<=N.length->Kw Y.length Y' N->Kn N d):=by
 have m0:=h.m0;have m6:=h.m6;have kl:=d9 h;have hP:P<Y.length:=(O9.mp hp).1;let ts:List D:=ks.map aK
 have tl:ts.length<=15:=by simp only[ts,Qd];exact kl
 let odds:List D:=[.int ((m:Int)+1),.int 0,.int 7,.int (-1),.bl true,.non,.str "2",.tup [.int 2],.int 1000000000000000000000000000000]
 let M1:au:=Y++[O.lst odds]
 have P1:Pn Y P M1:=(Pn.self hp).app;obtain⟨r1,a2,b2,c2,r10,r11,e1,P2⟩:=P1.draw (m:=9) hP (by decide) (by decide);let M2:au:=M1.set P (cu a2 b2 c2)
 have t2:M2[Y.length]?=some (.lst odds):=by rw[Pd (by omega)];exact av
 obtain⟨odd,eo,ho⟩:=i4 (xs:=odds) (n:=9) r10 r11 rfl
 have go:∀N,Kn N odd:=fun N=>by
  simp only[odds,O5,Sg,Sh]at ho;rcases ho with rfl|rfl|rfl|rfl|rfl|rfl|rfl|rfl|rfl <;> simp[Kn,Kns]
 obtain⟨sp,a3,b3,c3,s0,s1,e2,P3⟩:=P2.draw (m:=(ks.length:Int)+1) hP (by omega) (by omega);obtain⟨sp,rfl⟩:∃k:Nat,sp=(k:Int):=⟨sp.toNat,by omega⟩;let M3:au:=M2.set P (cu a3 b3 c3)
 obtain⟨pr,epr,hpr⟩:=i4 (xs:=ts++[.tup [.int 0,.int 1]]) (n:=ks.length+1) (r:=(sp:Int)) (by omega) (by push_cast;omega) (by simp[ts])
 obtain⟨x,y,rfl⟩:∃x y:Int,pr=.tup [.int x,.int y]:=by
  rcases O7.mp hpr with z|z
  ·obtain⟨k,hk,rfl⟩:=Rq.mp z;obtain⟨u,v,rfl,_⟩:=h.2.2.2.2 k hk;exact⟨u,v,rfl⟩
  ·exact⟨0,1,Q5.mp z⟩
 let wr:List D:=[.tup [.int y,.int x],.obj M3.length,.tup [.int x],.tup [.int x,.int y,.int 0],.tup [.int x,.int m],.tup [.int x,odd],.non,.tup [.int 0,.int 0]]
 let M4:au:=M3++[O.lst [.int x,.int y]]++[O.lst wr]
 have P4:Pn Y P M4:=(P3.app (g:=[O.lst [.int x,.int y]])).app;obtain⟨r2,a5,b5,c5,r20,r21,e3,P5⟩:=P4.draw (m:=8) hP (by decide) (by decide);let M5:au:=M4.set P (cu a5 b5 c5)
 have lM:Y.length<=M3.length:=P3.len;have t5:M5[(M3++[O.lst [.int x,.int y]]).length]?=some (.lst wr):=by rw[Pd (by rw[Qc];omega)];exact av
 obtain⟨W,eW,hW⟩:=i4 (xs:=wr) (n:=8) r20 r21 rfl;let bent:List D:=ts.take sp++[W]++ts.drop (sp+1)
 let S1:List D:=[.tup [odd,.tup ts],.tup [.int m,.tup bent],.tup [.int m,.tup bent],.tup [.int m,.obj M5.length],.obj (M5++[O.lst ts]).length,.tup [.int m],.tup [.int m,.tup ts,.tup []]]
 let M6:au:=M5++[O.lst ts]++[O.lst [.int m,.tup ts]]++[O.lst S1]
 let S2:List D:=[.tup [.int m,.tup ts.reverse],.tup [.int m,.tup (ts++ts.take 1)],.non,.tup ts,.obj M6.length,.tup [.int m,.tup (ts.drop 1)],.tup [.int m,.tup []]]
 let M7:au:=M6++[O.dic]++[O.lst S2]++[O.lst (S1++S2)]
 have P7:Pn Y P M7:=((((P5.app (g:=[O.lst ts])).app (g:=[O.lst [.int m,.tup ts]])).app (g:=[O.lst S1])).app (g:=[O.dic])).app.app;obtain⟨r3,a8,b8,c8,r30,r31,e4,P8⟩:=P7.draw (m:=14) hP (by decide) (by decide);let M8:au:=M7.set P (cu a8 b8 c8)
 have l5:M5.length=M4.length:=by simp[M5]
 have l4:M4.length=M3.length+2:=by simp[M4]
 have t8:M8[(M6++[O.dic]++[O.lst S2]).length]?=some (.lst (S1++S2)):=by
  rw[Pd (by simp only[M6,Qc,QV,Rh];omega)];exact av
 obtain⟨d,ed,hd⟩:=i4 (xs:=S1++S2) (n:=14) r30 r31 rfl;have keep:∀j o,Y.length<=j->M7[j]?=some o->∀Y',Kw Y.length M8 Y'->Y'[j]?=some o:=fun j o ne e Y' k=>k j o ne (by rw[Pd (by omega)];exact e)
 have kt:∀N (z:D),z∈ts->Kn N z:=fun N z hz=>by
  obtain⟨k,hk,rfl⟩:=Rq.mp hz;obtain⟨u,v,rfl,_⟩:=h.2.2.2.2 k hk;simp[aK,Kn,Kns]
 have kl':∀N (l:List D),(∀z∈l,Kn N z)->l.length<1000->Kn N (.tup l):=fun N l h1 h2=>by simp only[Kn];exact⟨h2,js.mpr h1⟩
 have ko:∀N n (xs:List D),N[n]?=some (.lst xs)->Kn N (.obj n):=fun N n xs e=>by
  simp only[Kn];exact⟨"list",by unfold vQ;dsimp only;rw[e],by decide,by decide,by decide⟩
 have kW:∀N,Kw Y.length M8 N->Kn N W:=fun N kw=>by
  simp only[wr,O5,Sg,Sh]at hW;rcases hW with rfl|rfl|rfl|rfl|rfl|rfl|rfl|rfl
  ·simp[Kn,Kns]
  ·exact ko N _ _ (keep _ _ (by omega) (aD (aD (aD (aD (aD (aD (by
    show M5[M3.length]?=_;rw[Pd (by omega)]
    exact aD av))))))) N kw)
  ·simp[Kn,Kns]
  ·simp[Kn,Kns]
  ·simp[Kn,Kns]
  ·exact kl' N _ (fun z hz=>by
    simp only[O5,Sg,Sh]at hz;rcases hz with rfl|rfl
    ·simp[Kn]
    ·exact go N) (by simp)
  ·simp[Kn]
  ·simp[Kn,Kns]
 have ktu:∀N (l:List D),(∀z∈l,z∈ts)->l.length<=31->Kn N (.tup l):=fun N l h1 h2=>kl' N l (fun z hz=>kt N z (h1 z hz)) (by omega)
 have k2:∀N (y z:D),Kn N y->Kn N z->Kn N (.tup [y,z]):=fun N y z hy hz=>kl' N _ (fun u hu=>by
  simp only[O5,Sg,Sh]at hu;rcases hu with rfl|rfl
  ·exact hy
  ·exact hz) (by simp)
 have ki:∀N (i:Int),Kn N (.int i):=fun N i=>by simp[Kn]
 have kb:∀N,Kw Y.length M8 N->Kn N (.tup bent):=fun N kw=>kl' N _ (fun z hz=>by
  rcases O7.mp hz with hz|hz
  ·rcases O7.mp hz with hz | hz
   ·exact kt N z (RG hz)
   ·rw[Q5.mp hz];exact kW N kw
  ·exact kt N z (RH hz)) (by
   simp only[bent,Qc,PU,Qq,QV,Rh]
   omega)
 have kd:∀N,Kw Y.length M8 N->Kn N d:=fun N kw=>by
  simp only[S1,S2,O7,O5,Sg,Sh]at hd;rcases hd with (rfl|rfl|rfl|rfl|rfl|rfl|rfl)|rfl|rfl|rfl|rfl|rfl|rfl|rfl
  ·exact k2 N _ _ (go N) (ktu N _ (fun z hz=>hz) (by omega))
  ·exact k2 N _ _ (ki N _) (kb N kw)
  ·exact k2 N _ _ (ki N _) (kb N kw)
  ·exact k2 N _ _ (ki N _) (ko N _ _ (keep _ _ (by omega) (aD (aD (aD (aD (aD av))))) N kw))
  ·exact ko N _ _ (keep _ _ (by rw[Qc];omega) (aD (aD (aD (aD av)))) N kw)
  ·simp[Kn,Kns]
  ·exact kl' N _ (fun u hu=>by
    simp only[O5,Sg,Sh]at hu;rcases hu with rfl|rfl|rfl
    ·exact ki N _
    ·exact ktu N _ (fun z hz=>hz) (by omega)
    ·simp[Kn,Kns]) (by simp)
  ·exact k2 N _ _ (ki N _) (ktu N _ (fun z hz=>Ud.mp hz) (by rw[Tt];omega))
  ·exact k2 N _ _ (ki N _) (ktu N _ (fun z hz=>by
    rcases O7.mp hz with hz|hz
    ·exact hz
    ·exact RG hz) (by rw[Qc,PU];omega))
  ·simp[Kn]
  ·exact ktu N _ (fun z hz=>hz) (by omega)
  ·simp only[Kn];exact⟨"dict",by unfold vQ;dsimp only;rw[keep _ _ (by simp only[M6,Qc];omega) (aD (aD av)) N kw],by decide,by decide,by decide⟩
  ·exact k2 N _ _ (ki N _) (ktu N _ (fun z hz=>RH hz) (by rw[Qq];omega))
  ·exact k2 N _ _ (ki N _) (by simp[Kn,Kns])
 have fin:∃Y',nk Y (.ok d M8)=.ok d Y'/\Pn Y P Y'/\∀N,Y.length<=N.length->Kw Y.length Y' N->Kn N d:=by
  rcases uS (Y:=Y) (d:=d) (Y':=M8) with e|⟨e,hlow⟩
  ·exact⟨M8,e,P8,fun N _=>kd N⟩
  ·refine ⟨_, e, ?_, fun N hN _ => ?_⟩
   ·obtain⟨u,v,w,g,hg⟩:=P8;rw[show M8=Y.set P (cu u v w)++g from hg];exact⟨u,v,w,[],by rw[Tq (by simp),Rn (by simp),PJ]⟩
   ·have lt : (N.take Y.length).length = Y.length := by rw [PU]; omega
    refine Ap (N:=N.take Y.length++M8.drop Y.length) (fun j hj=>?_) hlow (kd _ fun j o hj z=>?_)
    ·rw[PZ (by omega),Qa hj]
    ·rw[PX (by omega),lt,RF,show Y.length+(j-Y.length)=j by omega];exact z
 obtain⟨Y',eg,P9,tg⟩:=fin;refine⟨d,Y',?_,P9,tg⟩;have n1:0+1<=sizeLine:=l1;have n2:0+1+1<=sizeLine:=l2;have n3:0+1+1+1<=sizeLine:=O0 (by decide) bZ;have n7:0+1+1+1+1+1+1+1<=sizeLine:=O0 (by decide) bZ;have n8:0+1+1+1+1+1+1+1+1<=sizeLine:=O0 (by decide) bZ;have n9:0+1+1+1+1+1+1+1+1+1<=sizeLine:=O0 (by decide) bZ;have e1':aF [.obj P,.int 9] M1=.ok (.int r1) M2:=e1;have e2':aF [.obj P,.int ((ks.length:Int)+1)] M2=.ok (.int (sp:Int)) M3:=e2;have e3':aF [.obj P,.int 8] M4=.ok (.int r2) M5:=e3;have e4':aF [.obj P,.int 14] M7=.ok (.int r3) M8:=e4;unfold dr;rw[dj];simp only[kQ,List.replicate];rw[aO,bc];simp only[ak,aj,af,ae];rw[show dC 2 (bb (ao 2) (bb (ao 3) dD)) (aN m ks) [some (.obj P),some (aN m ks),none,none,none,none,none,none,none,none] Y=.ok [some (.obj P),some (aN m ks),some (.int m),some (.tup ts),none,none,none,none,none,none] Y from rfl];simp only[af,ae,aI];rw[aO,bc];simp only[aL,cN,gA,lu,bV,aq,aw,ak,aj,bf,aa,ae,ic,HH,QV,Rh,OS n1,OS n9,aB];rw[show aF [.obj P,.int 9] (Y++[O.lst [.int ((m:Int)+1),.int 0,.int 7,.int (-1),.bl true,.non,.str "2",.tup [.int 2],.int 1000000000000000000000000000000]])=_ from e1'];simp only[aa,ae];rw[eV t2 eo];simp only[af,ae,bO,aI,TQ,TR];rw[aO,bc];simp only[aB,aq,aw,aL,ak,aj,bf,aa,ae,lY,ic];rw[show ((ts.length:Nat):Int)=(ks.length:Int) from by simp[ts],e2'];simp only[af,ae,bO,aI,TQ,TR];rw[aO,bc];simp only[aL,bV,aq,aw,ak,aj,bf,aa,ae,QV,Rh,OS n1,OS n2];rw[ma (by simp only[QV,Rh];omega)];simp only[aa,ae];rw[gB epr];simp only[af,ae,bO,aI,TQ,TR];rw[aO,bc];simp only[cN,bV,aB,aq,aw,aL,ak,aj,bf,aa,ae,fu,ia,QV,Rh,OS n1,OS n2];rw[show kG [.tup [.int x,.int y]] M3=.ok (.obj M3.length) (M3++[O.lst [.int x,.int y]]) from rfl];simp only[aa,ae];rw[show bN (.tup [.int x,.int y]) (.tup [.int 0]) (M3++[O.lst [.int x,.int y]])=.ok (.tup [.int x,.int y,.int 0]) (M3++[O.lst [.int x,.int y]]) from ma (by simp)];simp only[aa,ae,QV,Rh,OS n8,af,bO,aI,TQ,TR];rw[aO,bc];simp only[aL,qX,oI,i9,mQ,bV,aB,aq,aw,ak,aj,bf,aa,ae,ic];rw[show Cd (.tup ts) none (some (sp:Int)) M4=.ok (.tup (ts.take sp)) M4 from by show ai.ok (D.tup (bX ts none (some (sp:Int)))) M4=_;rw[Do (by simp only[ts,Qd];omega)]];simp only[aa,ae];rw[show aF [.obj P,.int 8] M4=.ok (.int r2) M5 from e3'];simp only[aa,ae];rw[eV t5 eW];simp only[aa,ae,QV,Rh,OS n1];rw[ma (by rw[PU];simp only[QV,Rh];omega)];simp only[aa,ae];rw[show Cd (.tup ts) (some ((sp:Int)+1)) none M5=.ok (.tup (ts.drop (sp+1))) M5 from by show ai.ok (D.tup (bX ts (some ((sp:Int)+1)) none)) M5=_;rw[Dp (r:=sp+1) (by push_cast;rfl)]];simp only[aa,ae];rw[ma (by rw[Qc,PU,Qq];simp only[QV,Rh];omega)];simp only[af,ae,bO,aI,TQ,TR];rw[aO,bc];simp only[cN,bV,aB,aq,aw,ak,aj,aa,ae,QV,Rh,OS n1,OS n2,OS n3,OS (Q4 sizeLine)];rw[show kG [.tup ts] M5=.ok (.obj M5.length) (M5++[O.lst ts]) from rfl];simp only[aa,ae,QV,Rh,OS n2,OS n7,af,bO,aI,TQ,TR];rw[aO,bc];simp only[aL,cN,bV,gA,lu,qX,oI,i9,mQ,aq,aw,ak,aj,bf,yF,aa,ae]
 have rv:∀M:au,pL (.tup ts) (.int (-1)) M=.ok (.tup ts.reverse) M:=fun M=>by
  unfold pL;dsimp only;rw[OS rfl]
 have s1':∀M:au,Cd (.tup ts) none (some 1) M=.ok (.tup (ts.take 1)) M:=fun M=>by
  show ai.ok (D.tup (bX ts none (some 1))) M=_;by_cases z:1<=ts.length
  ·rw[show (1:Int)=((1:Nat):Int) from rfl,Do z]
  ·have:ts=[]:=Th (by omega);rw[this];rfl
 have s2':∀M:au,Cd (.tup ts) (some 1) none M=.ok (.tup (ts.drop 1)) M:=fun M=>by
  show ai.ok (D.tup (bX ts (some 1) none)) M=_;rw[Dp (n:=(1:Int)) (r:=1) rfl]
 simp only[rv,s1',s2',aa,ae,QV,Rh,OS n2,OS (Q4 sizeLine)];rw[ma (xs:=ts) (ys:=ts.take 1) (by rw[PU];omega)];simp only[aa,ae,QV,Rh,OS n2,OS n7,OS (Q4 sizeLine)];rw[show bN (.obj (M5++[O.lst ts]++[O.lst [.int m,.tup ts]]).length) (.obj (M6++[O.dic]).length) (M6++[O.dic]++[O.lst S2])=.ok (.obj (M6++[O.dic]++[O.lst S2]).length) M7 from nK (aD (aD av)) av (show S1.length+S2.length<=1000 from show (7+7:Nat)<=1000 by decide)];simp only[af,bO,aI,TQ,TR,bo,aL,aB,aq,aw,ak,aj,bf,aa,ae];rw[show aF [.obj P,.int 14] M7=.ok (.int r3) M8 from e4'];simp only[aa,ae];rw[eV t8 ed];simp only[af,ae,ba];exact eg
end
theorem Pn.tr{M1 M2:au}{P:Nat}(h1:Pn Y P M1)(h2:Pn M1 P M2)(hP:P<Y.length):Pn Y P M2:=by
 obtain⟨u1,u2,u3,g1,h1⟩:=h1;obtain⟨v1,v2,v3,g2,h2⟩:=h2;exact⟨v1,v2,v3,g1++g2,by rw[h2,h1,TU _ _ (by simpa using hP),List.set_set,QK]⟩
theorem NV{t:Nat}{x:D}(h:M[t]?=some (.lst [x])):mK (.obj t) (.int 3) M=.ok (.obj M.length) (M++[.lst [x,x,x]]):=by
 unfold mK;dsimp only;rw[h];dsimp only;rw[OS ⟨by decide,by decide,O0 (show ([x]:List D).length*(3:Int).toNat<=3 by simp) (by decide)⟩];rfl
theorem zl:eS (.list [.str "place",.str "place",.str "place"])=true:=by decide +kernel
theorem se(h:M[n]?=some (.lst [.str "place",.str "place",.str "place"])):mw M (.obj n)=some (.list [.str "place",.str "place",.str "place"]):=by
 unfold mw;dsimp only;rw[h];rfl
section
variable{m:Nat}
theorem y4{t:Nat}{tri:List D}(h:GW m ks)(hk:∀s,Kn (M++s) d)(hr:cI 0 ((m:Int)-1) d=false)(htri:tri=[.tup [d,.int 0],.tup [.int 0,d],.tup [d,d]])(ht:M[t]?=some (.lst tri)):
  compLoop (.own t tri) M.length (dC 2 (bb (ao 0) (bb (ao 1) dD))) bz nM tri [none,none,some (aN m ks)] (M++[.lst []])=.ok (.obj M.length) (M++[.lst [.str "place",.str "place",.str "place"]]):=by
 have m0:=h.m0
 have c:=dO (U:=D×D) (en:=fun u=>.tup [u.1,u.2]) (src:=.own t tri) (g:=dC 2 (bb (ao 0) (bb (ao 1) dD))) (t:=bz) (e:=nM) (Y1:=M) (q:=fun _=>true) (h:=fun _=>.str "place")
  (fun ρ=>∃o o',ρ=[o,o',some (aN m ks)]) (fun _=>aD ht) (us:=[(d,.int 0),(.int 0,d),(d,d)]) (acc:=[]) (ρ:=[none,none,some (aN m ks)]) ⟨_,_,rfl⟩ (by simp;exact l3)
  (fun u hu a ρ ⟨o, o', ho⟩ => by
   subst ho;refine⟨[some u.1,some u.2,some (aN m ks)],⟨_,_,rfl⟩,rfl,rfl,fun _=>?_⟩;unfold nM;simp only[aB,aq,aw,ak,aj,bf,aa];simp only[O5,Sg,Sh]at hu;rcases hu with rfl|rfl|rfl
   ·exact mS (C2 (hk _) hr)
   ·exact mS (Jg ⟨by omega,by omega⟩ (hk _) hr)
   ·exact mS (C2 (hk _) hr))
 subst htri;exact c
theorem Bk{w:D}(hc:∀s,bh [w,d] (M++s)=.exc ⟨"NoRoot",[]⟩ (M++s)):
  compLoop (.fix [.int 1,.int 2]) M.length (ao 0) bz mf [.int 1,.int 2] [none,some w,some d] (M++[.lst []])=.ok (.obj M.length) (M++[.lst [.str "root",.str "root"]]):=by
 have c:=dO (U:=Int) (en:=D.int) (src:=.fix [.int 1,.int 2]) (g:=ao 0) (t:=bz) (e:=mf) (Y1:=M) (q:=fun _=>true) (h:=fun _=>.str "root")
  (fun ρ=>∃o,ρ=[o,some w,some d]) (fun _=>trivial) (us:=[1,2]) (acc:=[]) (ρ:=[none,some w,some d]) ⟨_,rfl⟩ (by simp;exact l2)
  (fun u hu a ρ ⟨o, ho⟩ => by
   subst ho;refine⟨[some (.int u),some w,some d],⟨_,rfl⟩,rfl,rfl,fun _=>?_⟩;unfold mf;simp only[aB,aq,aw,bV,ak,aj,bf,aa,Rh,Q4,Qm]
   exact A1 (by simpa using hu) (hc _))
 exact c
theorem GK{x:Int}{a2 a3 a4 a5 a6 a7 a8 a9 a10 a11:Option D}:∃(M':au)(b2 b3 b4 b5 b6 b7 b8 b9 b10 b11:Option D),
  qM [a0,some (.int x),a2,a3,a4,a5,a6,a7,a8,a9,a10,a11] M=.next [a0,some (.int x),b2,b3,b4,b5,b6,b7,b8,b9,b10,b11] M'/\∀(j:Nat)(o:O),M[j]?=some o->M'[j]?=some o:=by
 obtain⟨a,b,c,ep⟩:=I0 (Y:=M) x;have sl:∀a b c a' b' c':Int,(M++[cu a b c]).set M.length (cu a' b' c')=M++[cu a' b' c']:=fun _ _ _ _ _ _=>wW;obtain⟨m,ls,a1',b1,c1,h1,ew⟩:=DH (Y:=M++[cu a b c]) (i:=M.length) av;rw[sl]at ew;have gs:=zT h1;let P:Nat:=M.length
 let M2:au:=M++[cu a1' b1 c1]
 have hM2:P<M2.length:=by simp[M2,P]
 obtain⟨qs,Y2,hq,P2,l2',eq⟩:=Hj (Y0:=M2) (Y1:=M2) (i:=M.length) hM2 (Pn.self av) h1;have gq:=KO h1 hq;let N1:au:=Y2++[O.lst (qs.map aK)]
 have Pn1:Pn M2 P N1:=P2.app;obtain⟨_,_,_,hp1⟩:=Pn1.get hM2;obtain⟨u1,u2,u3,r1⟩:=rJ (P:=P) hp1 gs h1;let N2:au:=N1.set P (cu u1 u2 u3)
 have Pn2:Pn M2 P N2:=Pn1.set hM2;obtain⟨_,_,_,hp2⟩:=Pn2.get hM2;obtain⟨v1,v2,v3,r2⟩:=rJ (P:=P) hp2 gs gq;let N3:au:=N2.set P (cu v1 v2 v3)
 have Pn3:Pn M2 P N3:=Pn2.set hM2;obtain⟨_,_,_,hp3⟩:=Pn3.get hM2;obtain⟨w1,w2,w3,r3⟩:=rJ (P:=P) hp3 gq h1;let N4:au:=N3.set P (cu w1 w2 w3)
 have Pn4:Pn M2 P N4:=Pn3.set hM2;obtain⟨b6,b7,b8,b9,g',e5⟩:=GJ (m:=m) (ks:=ls) (Mb:=N4) (w2:=tw m ls) (a0:=a0) (a1:=some (.int x)) (a2:=some (.obj M.length)) (a5:=some (aN m qs)) (a6:=a6) (a7:=a7) (a8:=a8) (a9:=a9) (a10:=a10) (a11:=a11) h1;let N5:au:=N4++g'
 have Pn5:Pn M2 P N5:=Pn4.app;obtain⟨_,_,_,hp5⟩:=Pn5.get hM2;obtain⟨odd,N6,e6,pn6,kn6,hr6⟩:=yR (m:=m) hp5 h1.m6;have Pn6:Pn M2 P N6:=Pn5.tr pn6 hM2;let tri:List D:=[.tup [odd,.int 0],.tup [.int 0,odd],.tup [odd,odd]]
 let T1:au:=N6++[O.lst tri]
 have c7:=y4 (M:=T1) (t:=N6.length) (tri:=tri) h1 (fun s=>kn6 _ fun j o _ z=>by
  show (N6++[O.lst tri]++s)[j]?=some o
  exact aD (aD z)) hr6 rfl av
 let pl:List D:=[.str "place",.str "place",.str "place"]
 let T2:au:=T1++[O.lst pl]
 let T3:au:=T2++[O.lst [.str "place"]]
 let N7:au:=T3++[O.lst pl]
 have Pn7:Pn M2 P N7:=(((Pn6.app (g:=[O.lst tri])).app (g:=[O.lst pl])).app (g:=[O.lst [.str "place"]])).app;have q7:kZ true (.obj T1.length) (.obj T3.length) N7=.ok (.bl false) N7:=Dm (se (aD (aD av))) (se av) zl;obtain⟨_,_,_,hp7⟩:=Pn7.get hM2;obtain⟨bd,N8,e8,pn8,th8⟩:=DI (Y:=N7) (P:=P) hp7 h1;have Pn8:Pn M2 P N8:=Pn7.tr pn8 hM2
 have kn8:∀s,Kn (N8++s) bd:=fun s=>by
  exact th8 _ (O0 pn8.len (by simp)) fun j o _ z=>aD z
 have kn8':Kn N8 bd:=by have:=kn8 [];rwa [PJ]at this
 let R2:au:=N8++[O.lst [.str "root",.str "root"]]
 let R3:au:=R2++[O.lst [.str "root",.str "root"]]
 have n1:0+1<=sizeLine:=l1;have n2:0+1+1<=sizeLine:=l2;have n3:0+1+1+1<=sizeLine:=l3
 have last:∃N9:au,(N9=N8\/N9=R3)/\ka (ip (cS (gu (aC dm (ag (ah 11) (aA))))) (gY (aH (kZ true) (aH cW (ah 11) (cC (.int 0))) (aH cW (ah 4) (cC (.int 0)))))) (ka (gY (aH (kZ true) (cK (f6 (bW (ag (cC (.int 1)) (ag (cC (.int 2)) (aA))))) [none,some 4,some 11] (ao 0) (bz) (mf)) (eR (ag (cC (.str "root")) (ag (cC (.str "root")) (aA)))))) (bM (cC (.bl false))) (bY)) (bY) [a0,some (.int x),some (.obj M.length),some (aN m ls),some (aN m (tw m ls)),some (aN m qs),b6,b7,b8,b9,some odd,some bd] N8=.next [a0,some (.int x),some (.obj M.length),some (aN m ls),some (aN m (tw m ls)),some (aN m qs),b6,b7,b8,b9,some odd,some bd] N9:=by
  have bad:(∀s,bh [aN m (tw m ls),bd] (N8++s)=.exc ⟨"NoRoot",[]⟩ (N8++s))->ka (gY (aH (kZ true) (cK (f6 (bW (ag (cC (.int 1)) (ag (cC (.int 2)) (aA))))) [none,some 4,some 11] (ao 0) (bz) (mf)) (eR (ag (cC (.str "root")) (ag (cC (.str "root")) (aA)))))) (bM (cC (.bl false))) (bY) [a0,some (.int x),some (.obj M.length),some (aN m ls),some (aN m (tw m ls)),some (aN m qs),b6,b7,b8,b9,some odd,some bd] N8=.next [a0,some (.int x),some (.obj M.length),some (aN m ls),some (aN m (tw m ls)),some (aN m qs),b6,b7,b8,b9,some odd,some bd] R3:=fun hc=>by
   simp only[bK,cJ,aL,cw,cD,bV,cN,aq,aw,bf,aa,ae,QV,Rh,OS n2,iL,bH];rw[show fQ [none,some 4,some 11] [a0,some (.int x),some (.obj M.length),some (aN m ls),some (aN m (tw m ls)),some (aN m qs),b6,b7,b8,b9,some odd,some bd]=[none,some (aN m (tw m ls)),some bd] from rfl,Bk hc];simp only[aa];rw[show kZ true (.obj N8.length) (.obj R2.length) R3=.ok (.bl false) R3 from Dm (tT (aD av)) (tT av) BP];simp only[aa,bw,af,QU,Ql,bI]
  rw[bK];simp only[iB,dF,fN,aB,aq,aw,ak,aj,aa,ae,FM kn8',cL];cases hw:cO bd with
  |false=>
   simp only[R0,Qm,af];exact⟨R3,.inr rfl,bad fun s=>MK (kn8 s) hw⟩
  |true=>
   obtain⟨m',ks',rfl,hg⟩:=Fm hw;simp only[RQ,QU,Ql,cJ,aL,ak,aj,bf,aa,fu,f9,Qm,bw,af];by_cases e:m'=m
   ·subst e;refine⟨N8,.inl rfl,?_⟩;simp only[QT,RQ,QU,Ql,bI]
   ·rw[show ((m':Int) == (m:Int))=false from by rw[OQ];omega];simp only[R0,Qm];exact⟨R3,.inr rfl,bad fun s=>by rw[yI gs hg,OT e]⟩
 obtain⟨N9,hN9,e9⟩:=last;refine⟨N9,some (.obj M.length),some (aN m ls),some (aN m (tw m ls)),some (aN m qs),b6,b7,b8,b9,some odd,some bd,?_,fun j o e=>?_⟩
 rotate_left
 ·have hj : j < M.length := (O9.mp e).1;have z2:M2[j]?=some o:=aD e
  have z8:N8[j]?=some o:=by
   obtain⟨u,v,w',g,hg⟩:=Pn8;rw[hg];exact aD (by rw[Pd (by simp only[P];omega)];exact z2)
  rcases hN9 with rfl|rfl
  ·exact z8
  ·exact aD (aD z8)
 ·unfold qM;rw[aO,bc];simp only[aB,aq,aw,ak,aj,aa,ae,ep,af,bO,TQ,TR,aI];rw[aO,bc];simp only[aB,aq,aw,ak,aj,bf,aa,ae,ew,af,bO,TQ,TR,aI];rw[aO,bc];simp only[aB,aq,aw,ak,aj,bf,aa,ae,FL h1,af,bO,TQ,TR,aI];rw[aO,bc];simp only[bV,aB,aq,aw,cw,cD,aL,ak,aj,bf,aa,ae,fu,ia,iL,bH];rw[show fQ [none,some 2] [a0,some (.int x),some (.obj M.length),some (aN m ls),some (aN m (tw m ls)),a5,a6,a7,a8,a9,a10,a11]=[none,some (.obj M.length)] from rfl];rw[show compLoop (.fix (ls.map aK)) (M++[cu a1' b1 c1]).length (ao 0) nL nN (ls.map aK) [none,some (.obj M.length)] (M++[cu a1' b1 c1]++[.lst []])=.ok (.obj (M++[cu a1' b1 c1]).length) (Y2++[.lst (qs.map aK)]) from eq];simp only[aa]
  rw[show gb [.obj (M++[cu a1' b1 c1]).length] (Y2++[.lst (qs.map aK)])=.ok (.tup (qs.map aK)) (Y2++[.lst (qs.map aK)]) from by
   rw[show (M++[cu a1' b1 c1]).length=Y2.length from l2'.symm]
   exact ju av]
  simp only[aa,QV,Rh,OS n2,af,bO,TQ,TR,aI];rw[aO,bK];simp only[iB,dF,fN,aB,aq,aw,ak,aj,aa,ae];rw[show cF [.obj M.length,aN m (tw m ls),aN m ls] (Y2++[O.lst (qs.map aK)])=.ok (.bl true) N2 from r1];simp only[aa,cL,RQ,QU,Ql];rw[show cF [.obj M.length,aN m (tw m ls),.tup [.int m,.tup (qs.map aK)]] N2=.ok (.bl true) N3 from r2];simp only[aa,cL,RQ,QU,Ql];rw[show cF [.obj M.length,.tup [.int m,.tup (qs.map aK)],aN m ls] N3=.ok (.bl true) N4 from r3];simp only[aa,cL,RQ,QU,Ql,af,bI,aI];rw[aO,show nq (kU mJ (ag (aH cW (ah 4) (cC (.int 0))) (aA))) (ao 6) me [a0,some (.int x),some (.obj M.length),some (aN m ls),some (aN m (tw m ls)),some (.tup [.int m,.tup (qs.map aK)]),a6,a7,a8,a9,a10,a11] N4=_ from e5];simp only[aI];rw[aO,bc];simp only[aB,aq,aw,aL,ak,aj,bf,aa,ae,fu];rw[show dq [.obj M.length,.int (m:Int)] (N4++g')=_ from e6];simp only[af,bO,TQ,TR,aI];rw[aO,bK];simp only[cJ,aL,cw,cD,cN,bV,aq,aw,ak,aj,bf,aa,ae,QV,Rh,OS n1,OS n2,OS n3];rw[gE (show (N6++[O.lst [.tup [odd,.int 0],.tup [.int 0,odd],.tup [odd,odd]]])[N6.length]?=some (.lst tri) from av)];simp only[aa,dP];rw[show fQ [none,none,some 3] [a0,some (.int x),some (.obj M.length),some (aN m ls),some (aN m (tw m ls)),some (aN m qs),b6,b7,b8,b9,some odd,a11]=[none,none,some (aN m ls)] from rfl,show compLoop (.own N6.length tri) (N6++[O.lst [.tup [odd,.int 0],.tup [.int 0,odd],.tup [odd,odd]]]).length (dC 2 (bb (ao 0) (bb (ao 1) dD))) bz nM tri [none,none,some (aN m ls)] (N6++[O.lst [.tup [odd,.int 0],.tup [.int 0,odd],.tup [odd,odd]]]++[O.lst []])=.ok (.obj T1.length) T2 from c7];simp only[aa];rw[show mK (.obj T2.length) (.int 3) (T2++[O.lst [.str "place"]])=.ok (.obj T3.length) N7 from NV av];simp only[aa,q7,bw,af,QU,Ql,bI,aI];rw[aO,bc];simp only[aB,aq,aw,ak,aj,aa,ae];rw[show dr [.obj M.length,aN m ls] N7=_ from e8];simp only[af,bO,TQ,TR,aI];exact e9
end
theorem Ja(ns:List Int):∃Y',wG [.frz (ns.map D.int)] []=.ok (.bl true) Y':=by
 obtain⟨x0,ex0⟩:=FO (Y:=[]) (ns:=ns)
 obtain⟨xs,hxs,hxl⟩:∃xs:List Int,bX (ns.map D.int) (some 1) (some 6)=xs.map D.int/\xs.length<=8:=by
  refine⟨(ns.drop (HT.sIx ns.length 0 (some 1))).take (HT.sIx ns.length ns.length (some 6)-HT.sIx ns.length 0 (some 1)),?_,?_⟩
  ·unfold bX;rw[Qd,RB,RC]
  ·rw[PU];have h6:HT.sIx ns.length ns.length (some 6)=min 6 ns.length:=HT.sIx_nat _ _ 6;omega
 obtain⟨L,hL⟩:∃L:List Int,L=x0::xs:=⟨_,rfl⟩;let M5:au:=([O.lst [.int x0]]++[O.lst (xs.map D.int)])++[O.lst (L.map D.int)]
 have h5:M5[2]?=some (.lst (L.map D.int)):=rfl
 obtain⟨ρ3,M6,_,run3⟩:=nI (src:=.own 2 (L.map D.int)) (g:=ao 1) (fb:=qM)
  (fun zs ρ Y=>Y[2]?=some (O.lst (L.map D.int))/\(∃rs:List Int,zs=rs.map D.int)/\∃o0 o1 o2 o3 o4 o5 o6 o7 o8 o9 o10 o11,ρ=[o0,o1,o2,o3,o4,o5,o6,o7,o8,o9,o10,o11])
  (fun ρ Y hJJ=>hJJ.1)
  (fun x r ρ Y hJJ => by
   obtain⟨h2,⟨rs,er⟩,o0,o1,o2,o3,o4,o5,o6,o7,o8,o9,o10,o11,eρ⟩:=hJJ;subst eρ;cases rs with
   |nil=>cases er
   |cons y rs=>
    injection er with ex er
    subst ex er;obtain⟨M',b2,b3,b4,b5,b6,b7,b8,b9,b10,b11,e1,e2⟩:=GK (M:=Y) (x:=y) (a0:=o0) (a2:=o2) (a3:=o3) (a4:=o4) (a5:=o5) (a6:=o6) (a7:=o7) (a8:=o8) (a9:=o9) (a10:=o10) (a11:=o11)
    exact⟨h2,_,Y,_,_,rfl,e1,e2 2 _ h2,⟨rs,rfl⟩,_,_,_,_,_,_,_,_,_,_,_,_,rfl⟩)
  (xs:=L.map D.int) (ρ:=[some (.frz (ns.map D.int)),none,none,none,none,none,none,none,none,none,none,none]) (Y:=M5)
  ⟨h5,⟨L,rfl⟩,_,_,_,_,_,_,_,_,_,_,_,_,rfl⟩
 have hend:∃Y',nk [] (.ok (.bl true) M6)=.ok (.bl true) Y':=by
  rcases uS (Y:=[]) (d:=.bl true) (Y':=M6) with e|⟨e,_⟩ <;> exact⟨_,e⟩
 obtain⟨Y',hend⟩:=hend;refine⟨Y',?_⟩;have l1':([.int x0]:List D).length<=sizeLine:=by show 1<=sizeLine;decide
 have sl:∀Y,Cd (.frz (ns.map D.int)) (some 1) (some 6) Y=.ok (.obj Y.length) (Y++[.lst (xs.map D.int)]):=fun Y=>by
  unfold Cd;dsimp only;rw[hxs]
 have ad:bN (.obj 0) (.obj 1) ([O.lst [.int x0]]++[O.lst (xs.map D.int)])=.ok (.obj 2) M5:=by
  have:=AE (Y:=[O.lst [.int x0]]++[O.lst (xs.map D.int)]) (a:=0) (b:=1) rfl rfl (show ([.int x0]:List D).length+(xs.map D.int).length<=1000000 by rw[Qd];simp only[QV,Rh];omega);rw[this];simp only[M5,hL];rfl
 unfold wG;rw[i0];unfold HW;simp only[List.replicate];rw[aO,lx,cD,aL,cN,aq,aB,aq,aj,aa,aq,bf,aa,aw,aa,aa,aa,ex0,aa,aw,aa,aa];simp only[OS l1',aa,qX,aj,i9,bf,mQ];rw[sl,aa];rw[show bN (.obj ([]:au).length) (.obj (([]:au)++[O.lst [.int x0]]).length) (([]:au)++[O.lst [.int x0]]++[O.lst (xs.map D.int)])=_ from ad];rw[aa,gE h5,af,dP,run3,aI,bo,bf,af,ba];exact hend
end Lw
namespace Lw
open PySem PySem.Spec PyProof.Rows L2 RS
theorem cn(P:Params)(f:Addr)(n m:Str)(t:Tok)(c:Addr)(st:Stmt)(l:(Kz P).lookup f=some (fo n st m t c))(q:W.codeIn (Kz P) (.ref c) n=true):gS (Kz P) n n st f (W.fnOf n n (fv st) (cM st) (ar st) .none .none .none (.str m t) none (.ref c) .none):=KR l q (by unfold W.keepIn;dsimp only;rw[l];rfl)
theorem K9{l:W.OpenLaw}{w:World}{h:Heap}{fa:Addr}(X:(Kz w.params).In h)(G:h.Ns mainGlobals mg)(hfa:mg "law" = some (.ref fa)):
  ∃fd:FuncData,(∀(s:Shared) (v:Value),BindsTo s fd ⟨[v],[]⟩ [("_law_script",v)])/\∀base:Heap,(Kz w.params).In base->base.Ns mainGlobals mg->qR l.prog w (Kz w.params) mg base yi 13 fa fd ["_law_script"] (EN (dX (Kz w.params) w) 1 wG):=by
 have e:=hfa.symm.trans (W.mg_of X G (v:=.ref 378) (by kernel_rfl));cases e;have nm:Nm mg:=⟨W.mg_none_of X G (by kernel_rfl),W.mg_none_of X G (by kernel_rfl),W.mg_none_of X G (by kernel_rfl),W.mg_none_of X G (by kernel_rfl),W.mg_none_of X G (by kernel_rfl),W.mg_none_of X G (by kernel_rfl),W.mg_none_of X G (by kernel_rfl),W.mg_none_of X G (by kernel_rfl),W.mg_none_of X G (by kernel_rfl),W.mg_none_of X G (by kernel_rfl),W.mg_none_of X G (by kernel_rfl),W.mg_none_of X G (by kernel_rfl),W.mg_none_of X G (by kernel_rfl),W.mg_none_of X G (by kernel_rfl),W.mg_none_of X G (by kernel_rfl)⟩;have c_MOST_PLACES:=W.mg_of X G (n:="MOST_PLACES") (v:=(.int 6 404)) (by kernel_rfl);have F:=cn w.params 378 "law" "law_rootwebs_k10_steps_and_shows" 503 377 jI (by kernel_rfl) (by kernel_rfl);refine⟨W.fnOf "law" "law" (fv jI) (cM jI) (ar jI) .none .none .none (.str "law_rootwebs_k10_steps_and_shows" 503) none (.ref 377) .none,fun s v=>.of_eq rfl,fun base Xb Gb=>?_⟩;have d_is_whole:=xU (P:=l.prog) (w:=w) (base:=base)  nm (cn w.params 151 "is_whole" "rootwebs.kinds" 364 150 jA (by kernel_rfl) (by kernel_rfl)) (W.mg_of X G (by kernel_rfl));have d_is_whole_from:=pj (P:=l.prog) (w:=w) (base:=base)  nm (cn w.params 158 "is_whole_from" "rootwebs.kinds" 364 157 fA (by kernel_rfl) (by kernel_rfl)) (W.mg_of X G (by kernel_rfl)) d_is_whole;have d_is_place:=xV (P:=l.prog) (w:=w) (base:=base)  nm (cn w.params 165 "is_place" "rootwebs.kinds" 364 164 jB (by kernel_rfl) (by kernel_rfl)) (W.mg_of X G (by kernel_rfl)) d_is_whole_from;have d_is_places:=vE (P:=l.prog) (w:=w) (base:=base)  nm (cn w.params 170 "is_places" "rootwebs.kinds" 364 169 gI (by kernel_rfl) (by kernel_rfl)) (W.mg_of X G (by kernel_rfl)) d_is_place;have d_is_rising:=vD (P:=l.prog) (w:=w) (base:=base)  nm (cn w.params 175 "is_rising" "rootwebs.kinds" 364 174 gH (by kernel_rfl) (by kernel_rfl)) (W.mg_of X G (by kernel_rfl));have d_is_many:=ze (P:=l.prog) (w:=w) (base:=base)  nm (cn w.params 189 "is_many" "rootwebs.webs" 402 188 kx (by kernel_rfl) (by kernel_rfl)) (W.mg_of X G (by kernel_rfl)) ⟨_,c_MOST_PLACES⟩ d_is_whole_from;have d_is_pair:=zd (P:=l.prog) (w:=w) (base:=base)  nm (cn w.params 208 "is_pair" "rootwebs.webs" 402 207 kv (by kernel_rfl) (by kernel_rfl)) (W.mg_of X G (by kernel_rfl)) d_is_places;have d_is_tie:=Bv (P:=l.prog) (w:=w) (base:=base)  nm (cn w.params 201 "is_tie" "rootwebs.webs" 402 200 mh (by kernel_rfl) (by kernel_rfl)) (W.mg_of X G (by kernel_rfl)) d_is_pair;have d_is_ties:=zb (P:=l.prog) (w:=w) (base:=base)  nm (cn w.params 194 "is_ties" "rootwebs.webs" 402 193 ja (by kernel_rfl) (by kernel_rfl)) (W.mg_of X G (by kernel_rfl)) d_is_tie d_is_rising;have d_web_good:=xS (P:=l.prog) (w:=w) (base:=base)  nm (cn w.params 182 "web_good" "rootwebs.webs" 402 181 jz (by kernel_rfl) (by kernel_rfl)) (W.mg_of X G (by kernel_rfl)) d_is_many d_is_ties;have d_check_place:=sM (P:=l.prog) (w:=w) (base:=base) (a_NoPlace:=37) nm (cn w.params 215 "check_place" "rootwebs.webs" 402 214 gJ (by kernel_rfl) (by kernel_rfl)) (W.mg_of X G (by kernel_rfl)) (by kernel_rfl) (v9.of (nm:="NoPlace") (q:="NoPlace") (N:=36) (bs:=[(.ref 24)]) (bm:=[(.ref 24),(.type "ValueError"),(.type "Exception"),(.type "BaseException"),(.type "object")]) (hd:=true) (sn:=[]) (sub:=[]) (ab:=false) (col:=none) (dd:=none) (k0:=some (.ref 28)) (k1:=none) (k2:=some (.str "NoPlace" 207)) (k3:=some (.str "NoPlace" 215)) (k5:=some (.bool true)) Xb Gb (by kernel_rfl) (by kernel_rfl) (by kernel_rfl) (by kernel_rfl) (by kernel_rfl)) d_is_place;have d_next_places:=sL (P:=l.prog) (w:=w) (base:=base)  nm (cn w.params 220 "next_places" "rootwebs.webs" 402 219 dQ (by kernel_rfl) (by kernel_rfl)) (W.mg_of X G (by kernel_rfl));have d_star_of:=y9 (P:=l.prog) (w:=w) (base:=base)  nm (cn w.params 227 "star_of" "rootwebs.webs" 402 226 kr (by kernel_rfl) (by kernel_rfl)) (W.mg_of X G (by kernel_rfl)) d_check_place d_next_places;have d_check_other:=sN (P:=l.prog) (w:=w) (base:=base) (a_NoRoot:=73) nm (cn w.params 234 "check_other" "rootwebs.looks" 466 233 gK (by kernel_rfl) (by kernel_rfl)) (W.mg_of X G (by kernel_rfl)) (by kernel_rfl) (v9.of (nm:="NoRoot") (q:="NoRoot") (N:=72) (bs:=[(.ref 24)]) (bm:=[(.ref 24),(.type "ValueError"),(.type "Exception"),(.type "BaseException"),(.type "object")]) (hd:=true) (sn:=[]) (sub:=[]) (ab:=false) (col:=none) (dd:=none) (k0:=some (.ref 64)) (k1:=none) (k2:=some (.str "NoRoot" 255)) (k3:=some (.str "NoRoot" 263)) (k5:=some (.bool true)) Xb Gb (by kernel_rfl) (by kernel_rfl) (by kernel_rfl) (by kernel_rfl) (by kernel_rfl)) d_web_good;have d_steps_from:=tE (P:=l.prog) (w:=w) (base:=base)  nm (cn w.params 239 "steps_from" "rootwebs.looks" 466 238 eC (by kernel_rfl) (by kernel_rfl)) (W.mg_of X G (by kernel_rfl)) d_check_place d_star_of;have d_is_step:=zc (P:=l.prog) (w:=w) (base:=base)  nm (cn w.params 246 "is_step" "rootwebs.looks" 466 245 ku (by kernel_rfl) (by kernel_rfl)) (W.mg_of X G (by kernel_rfl)) d_is_places d_steps_from;have d_show_good:=vC (P:=l.prog) (w:=w) (base:=base)  nm (cn w.params 251 "show_good" "rootwebs.looks" 466 250 gG (by kernel_rfl) (by kernel_rfl)) (W.mg_of X G (by kernel_rfl)) d_check_other d_is_step;have d_first_show:=tF (P:=l.prog) (w:=w) (base:=base)  nm (cn w.params 256 "first_show" "rootwebs.looks" 466 255 eD (by kernel_rfl) (by kernel_rfl)) (W.mg_of X G (by kernel_rfl)) d_check_other d_steps_from;have d__law_cell_at:=qp (P:=l.prog) (w:=w) (base:=base)  nm (cn w.params 263 "_law_cell_at" "law_rootwebs_k10_steps_and_shows" 503 262 fX (by kernel_rfl) (by kernel_rfl)) (W.mg_of X G (by kernel_rfl));have d__law_next:=vG (P:=l.prog) (w:=w) (base:=base)  nm (cn w.params 270 "_law_next" "law_rootwebs_k10_steps_and_shows" 503 269 iP (by kernel_rfl) (by kernel_rfl)) (W.mg_of X G (by kernel_rfl));have d__law_pen_of:=sP (P:=l.prog) (w:=w) (base:=base)  nm (cn w.params 277 "_law_pen_of" "law_rootwebs_k10_steps_and_shows" 503 276 gL (by kernel_rfl) (by kernel_rfl)) (W.mg_of X G (by kernel_rfl));have d__law_draw:=vH (P:=l.prog) (w:=w) (base:=base)  nm (cn w.params 284 "_law_draw" "law_rootwebs_k10_steps_and_shows" 503 283 iQ (by kernel_rfl) (by kernel_rfl)) (W.mg_of X G (by kernel_rfl)) d__law_next;have d__law_whole:=tG (P:=l.prog) (w:=w) (base:=base)  nm (cn w.params 291 "_law_whole" "law_rootwebs_k10_steps_and_shows" 503 290 ij (by kernel_rfl) (by kernel_rfl)) (W.mg_of X G (by kernel_rfl));have d__law_kind_of:=ql (P:=l.prog) (w:=w) (base:=base) (a_NoLine:=61) (a_NoNumber:=49) (a_NoPlace:=37) (a_NoRoot:=73) (a_NoText:=123) (a_NoTree:=85) (a_NoWeb:=104) (a_TooGreat:=142) nm (cn w.params 298 "_law_kind_of" "law_rootwebs_k10_steps_and_shows" 503 297 fW (by kernel_rfl) (by kernel_rfl)) (W.mg_of X G (by kernel_rfl)) (cf.of (by kernel_rfl)) (cf.of (by kernel_rfl)) (cf.of (by kernel_rfl)) (cf.of (by kernel_rfl)) (cf.of (by kernel_rfl)) (cf.of (by kernel_rfl)) (cf.of (by kernel_rfl)) (cf.of (by kernel_rfl)) (cf.of (by kernel_rfl)) (W.mg_of X G (by kernel_rfl)) (W.mg_of X G (by kernel_rfl)) (W.mg_of X G (by kernel_rfl)) (W.mg_of X G (by kernel_rfl)) (W.mg_of X G (by kernel_rfl)) (W.mg_of X G (by kernel_rfl)) (W.mg_of X G (by kernel_rfl)) (W.mg_of X G (by kernel_rfl));have d__law_web_of:=sO (P:=l.prog) (w:=w) (base:=base)  nm (cn w.params 303 "_law_web_of" "law_rootwebs_k10_steps_and_shows" 503 302 fe (by kernel_rfl) (by kernel_rfl)) (W.mg_of X G (by kernel_rfl));have d__law_drawn_web:=oi (P:=l.prog) (w:=w) (base:=base)  nm (cn w.params 308 "_law_drawn_web" "law_rootwebs_k10_steps_and_shows" 503 307 dz (by kernel_rfl) (by kernel_rfl)) (W.mg_of X G (by kernel_rfl)) d__law_draw d__law_web_of;have d__law_near_of:=qk (P:=l.prog) (w:=w) (base:=base)  nm (cn w.params 313 "_law_near_of" "law_rootwebs_k10_steps_and_shows" 503 312 ef (by kernel_rfl) (by kernel_rfl)) (W.mg_of X G (by kernel_rfl));have d__law_two_step:=pA (P:=l.prog) (w:=w) (base:=base)  nm (cn w.params 318 "_law_two_step" "law_rootwebs_k10_steps_and_shows" 503 317 dR (by kernel_rfl) (by kernel_rfl)) (W.mg_of X G (by kernel_rfl)) d__law_near_of d__law_web_of;have d__law_bent_web:=pD (P:=l.prog) (w:=w) (base:=base)  nm (cn w.params 325 "_law_bent_web" "law_rootwebs_k10_steps_and_shows" 503 324 fD (by kernel_rfl) (by kernel_rfl)) (W.mg_of X G (by kernel_rfl)) d__law_draw;have d__law_web_like:=pk (P:=l.prog) (w:=w) (base:=base)  nm (cn w.params 332 "_law_web_like" "law_rootwebs_k10_steps_and_shows" 503 331 fB (by kernel_rfl) (by kernel_rfl)) (W.mg_of X G (by kernel_rfl)) d__law_whole;have d__law_no_place:=pC (P:=l.prog) (w:=w) (base:=base)  nm (cn w.params 339 "_law_no_place" "law_rootwebs_k10_steps_and_shows" 503 338 fC (by kernel_rfl) (by kernel_rfl)) (W.mg_of X G (by kernel_rfl)) d__law_draw;have d__law_tuples_are:=nc (P:=l.prog) (w:=w) (base:=base)  nm (cn w.params 344 "_law_tuples_are" "law_rootwebs_k10_steps_and_shows" 503 343 de (by kernel_rfl) (by kernel_rfl)) (W.mg_of X G (by kernel_rfl)) d__law_whole;have d__law_told:=vF (P:=l.prog) (w:=w) (base:=base) (a_RootError:=24) nm (cn w.params 351 "_law_told" "law_rootwebs_k10_steps_and_shows" 503 350 iO (by kernel_rfl) (by kernel_rfl)) (W.mg_of X G (by kernel_rfl)) (W.mg_of X G (by kernel_rfl)) (wC.of (by kernel_rfl)) d_steps_from d_show_good d_first_show d__law_kind_of;have d__law_steps_of:=pB (P:=l.prog) (w:=w) (base:=base)  nm (cn w.params 356 "_law_steps_of" "law_rootwebs_k10_steps_and_shows" 503 355 dS (by kernel_rfl) (by kernel_rfl)) (W.mg_of X G (by kernel_rfl)) d__law_near_of;have d__law_is_show:=qo (P:=l.prog) (w:=w) (base:=base)  nm (cn w.params 361 "_law_is_show" "law_rootwebs_k10_steps_and_shows" 503 360 eu (by kernel_rfl) (by kernel_rfl)) (W.mg_of X G (by kernel_rfl)) d__law_whole d__law_steps_of;have d__law_bent_of:=qq (P:=l.prog) (w:=w) (base:=base)  nm (cn w.params 368 "_law_bent_of" "law_rootwebs_k10_steps_and_shows" 503 367 fY (by kernel_rfl) (by kernel_rfl)) (W.mg_of X G (by kernel_rfl)) d__law_draw;have d__law_right:=tH (P:=l.prog) (w:=w) (base:=base)  nm (cn w.params 373 "_law_right" "law_rootwebs_k10_steps_and_shows" 503 372 cT (by kernel_rfl) (by kernel_rfl)) (W.mg_of X G (by kernel_rfl)) d__law_steps_of d__law_told d__law_tuples_are d__law_draw d__law_bent_of d__law_is_show;exact KU nm F d__law_cell_at d__law_pen_of d__law_drawn_web d__law_two_step d__law_draw d__law_right d__law_told d__law_steps_of d__law_tuples_are d__law_no_place d__law_bent_web d__law_web_like
theorem NC{l:W.OpenLaw}{q:Program}{d:DefRec}(hn:l.most=some 63)(hdf:d.params.defaults=[])(hd:d.name = "law"):
  W.WalkO q loose XP (W.Hook.says Hz) l.row.toRowW d [] (fun f vs=>PySem.call f vs):=
 L2.walk_of (K:=Kz) (n:=63) (k:=13) (x:="_law_script") (CX:=fun _=>yi) (sp:=fun w=>EN (dX (Kz w.params) w) 1 wG) hn (by decide) hdf ⟨rfl,by decide,by decide,rfl⟩ (fun _ _ μ=>W.kIn_of μ) (fun _ _ _ _ X G e=>K9 X G (hd ▸ e)) (fun w H a ns hl hO hS=>El (Ja ns) hO hS) fun _ _ _ _ _ z=>z
end Lw
open PySem PySem.W PyProof.Rows Lw
set_option maxRecDepth 100000 in
set_option maxHeartbeats 0 in
theorem PySem.Challenge.cw_rootwebs_k10_steps_and_shows_holds : PySem.Challenge.rw_rootwebs_k10_steps_and_shows.Holds := by
 w_on;refine holds_law Iv fun said=>?_
 exact holds_open (Xt:=Xz) (XP:=XL Qz []) (YP:=Hook.says Hz) Iw (Hook.of Hz) (Hook.keeps Hz) (fun s e=>xl_of s (Bool.and_eq_true_iff.mp e).1) XL.keeps (by rfl) (by rfl) (by rfl) (fun s e=>recFacts_of (Bool.and_eq_true_iff.mp e).2) (by rfl) said (by decide +kernel) ⟨rfl,rfl,rfl,rfl,rfl,by decide +kernel⟩ (by w_witness2) (NC rfl rfl rfl)
