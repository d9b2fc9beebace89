import PyProof.Rows.All
import Wide.All
import OpenK.AllK
import Wide.FinOn
import PyProof.EqAt
import PyProof.EqKinds
import PyProof.TupleCall
import PyProof.P3In
import PyProof.NeData
import PyProof.ConsumeS
import PyProof.WalksMore
import PyProof.ReprRoads
import PyProof.ReprLen
import PyProof.Draws
import PyProof.EnumMake
import PyProof.EnumFor
import PyProof.CallFns
import PyProof.Rows.CallKwBuiltin
import Lean
import PyProof.ZipIter
import PySem.Challenge.RW_rootwebs_k11_webs_apart_and_beside
set_option Elab.async false
set_option compiler.extract_closed false
set_option linter.all false
set_option maxHeartbeats 1000000
set_option maxHeartbeats 2000000
set_option maxHeartbeats 400000
set_option maxHeartbeats 4000000
set_option maxRecDepth 100000
set_option hygiene false
local macro_rules|`(0e0)=>`(⟨rfl,rfl,rfl,by decide +kernel,rfl,by decide +kernel,by decide +kernel⟩)|`(0e1)=>`(by omega)|`(0e2)=>`(by kernel_rfl)|`(0e3)=>`(s.heap.objs.size)|`(0e4)=>`(by decide)|`(0e5)=>`(hW P w K mg base N qual scope f cdv A outer s0 H0 E)|`(0e6)=>`(model prog w)|`(0e7)=>`(model X.prog X.w)|`(0e8)=>`(by decide +kernel)|`(0e9)=>`(jj X Nc scope cl C s H fp)|`(1e0)=>`(F.b2 (by rfl) fun _ _ _ _ _ _ _ _=>by rfl)|`(1e1)=>`(by simp)|`(1e2)=>`(X.env)|`(1e3)=>`(W.mg_of X G 0e2)|`(1e4)=>`(hr.mono 0e4)|`(1e5)=>`(s.heap)|`(1e6)=>`(W.fnOf x qual (dm st) (bD st) (aq st) .none kV doc pm an cdv ct)|`(1e7)=>`(aT (ao 0) (aT (ao 1) (cz)))|`(1e8)=>`(ks.map aI)|`(1e9)=>`(.obj Y.length)|`(2e0)=>`(.type "BaseException")|`(2e1)=>`(.ref C)|`(2e2)=>`(seqObj "list" #[] 0)|`(2e3)=>`(its.toArray)
local macro_rules|`(2e4)=>`((·.1))|`(2e5)=>`(List Int)|`(2e6)=>`(.lst xs)|`(2e7)=>`(cC (.int 0))|`(2e8)=>`(items.size)|`(2e9)=>`(Addr×Obj)|`(3e0)=>`(.ListComp elt [⟨tg,iter,ifs,0⟩] scope pos)|`(3e1)=>`(dP K w)|`(3e2)=>`(F.b1 (by rfl) fun _ _ _ _ _ _ _=>by rfl)|`(3e3)=>`(excClassObj nm q C N bs bm hdct sn sub ab col dd k0 k1 k2 k3 k5 newId)|`(3e4)=>`(.builtin "object.__class__")|`(3e5)=>`([e].length+([]:List Keyword).length+(if ([]:List Keyword).isEmpty then 0 else 1)<30)|`(3e6)=>`(.type "object")|`(3e7)=>`(.ref f)|`(3e8)=>`(af (ai 1) (az))|`(3e9)=>`(xs.length)|`(4e0)=>`(ai 0)|`(4e1)=>`(aQ (aG 1) (br))|`(4e2)=>`((·.setIfInBounds 1 (Value.ref h₁.objs.size)))|`(4e3)=>`(aG 0)|`(4e4)=>`(bK (iz (af (aK cx (aK cx (ED (ai 7) (EI) (ke (ai 8))) (d9 (af (ai 9) (az)))) (ED (ai 7) (ke (ai 8)) (EI))) (af (aK cx (ai 7) (ED (ai 7) (EI) (ke (cC (.int 1))))) (af (aK sC (ai 7) (lu vv (cC (.int 1)))) (af (aB hG (af (ai 7) (az))) (af (d9 (af (ai 7) (az))) (af (cC .non) (af 2e7 (af (Ar) (af (d9 (af (ai 9) (az))) (az))))))))))) (ao 10))
set_option hygiene true
local macro_rules|`(tactic|dsimp[$x,*]$[$l]?)=>`(tactic|simp only[$x,*]$[$l]?)
noncomputable section
abbrev Oq:=@Option.some.inj
abbrev Os:=@PySem.Value.isInt_shape
abbrev Ot:=@decide_eq_false
abbrev Ou:=@beq_eq_false_iff_ne
abbrev Ov:=@PySem.wpAny_eqBool_int
abbrev Ow:=@if_pos
abbrev Ox:=@if_neg
abbrev Oy:=@PySem.Heap.get?_push_size
abbrev OA:=@PySem.Heap.lt_size
abbrev OB:=@Nat.lt_of_lt_of_le
abbrev OC:=@Nat.lt_irrefl
abbrev OD:=@Nat.ne_of_lt
abbrev OE:=@List.mem_filter
abbrev OF:=@List.mem_range
abbrev OG:=@Nat.le_trans
abbrev OH:=@Nat.le_of_lt
abbrev OI:=@List.filterMap_cons
abbrev OJ:=@List.mem_cons_self
abbrev OK:=@List.mem_cons_of_mem
abbrev OL:=@PySem.Heap.get?_none_of_le
abbrev OM:=@List.mem_cons
abbrev ON:=@Ne.symm
abbrev OO:=@List.mem_append
abbrev OP:=@List.mem_append_left
abbrev OQ:=@List.getElem?_eq_some_iff
abbrev OR:=@List.getElem_inj
abbrev OS:=@List.getElem?_set_self
abbrev OT:=@List.getElem?_set_ne
abbrev OU:=@PySem.wpAny_mono
abbrev OV:=@PySem.wpAny_truthy_bool
abbrev OW:=@Array.length_toList
abbrev OX:=@congrArg
abbrev OY:=@PySem.wpAny_execs_nil
abbrev OZ:=@PySem.wpAny_bind
abbrev O0:=@PySem.wpAny_holding
abbrev O1:=@PySem.wpAny_standAt
abbrev O2:=@PySem.wpAny_passesOwn
abbrev O3:=@Bool.false_ne_true
abbrev O4:=@Nat.ne_of_gt
abbrev O5:=@PySem.wpAny_pure
abbrev O6:=@PySem.wpAny_load
abbrev O7:=@Bool.false_and
abbrev O8:=@PySem.Heap.get?_push_of_some
abbrev O9:=@Nat.le_refl
abbrev Pb:=@PyProof.Rows.callWith_type1
abbrev Pc:=@List.mem_filterMap
abbrev Pd:=@List.mem_append_right
abbrev Pe:=@Bool.eq_iff_iff
abbrev Pf:=@PySem.sizeLine_eq
abbrev Pg:=@List.size_toArray
abbrev Ph:=@Array.mem_toList_iff
abbrev Pi:=@List.append_nil
abbrev Pj:=@PySem.wpAny_call
abbrev Pl:=@PySem.codeAny_mono
abbrev Pm:=@PySem.wpAny_Call_Name_kw
abbrev Po:=@List.nodup_cons
abbrev Pp:=@List.of_mem_zip
abbrev Pq:=@Option.isSome_iff_exists
abbrev Pr:=@List.length_take
abbrev Pt:=@PySem.mem_of_lookup
abbrev Pu:=@List.getElem?_append_right
abbrev Pv:=@List.getElem?_replicate
abbrev Pw:=@List.getElem?_append_left
abbrev Px:=@List.getElem?_map
abbrev Py:=@List.getElem?_take_of_lt
abbrev Pz:=@List.mem_of_getElem?
abbrev PB:=@List.length_append
abbrev PD:=@List.length_map
abbrev PF:=@List.length_replicate
abbrev PH:=@PySem.noFill_tuple_add
abbrev PJ:=@PySem.F.slot_tuple_add
abbrev PL:=@PySem.F.entry_tuple_add
abbrev PM:=@PySem.F.args_tuple_add_2
abbrev PN:=@Int.toNat_natCast
abbrev PQ:=@Nat.min_le_right
abbrev PR:=@if_false
abbrev PU:=@if_true
abbrev PV:=@PyProof.Rows.slicePart_none
abbrev PX:=@PySem.wpAny_field
abbrev PY:=@List.filterMap_map
abbrev PZ:=@List.length_drop
abbrev P9:=@PySem.wpAny_sequenceKey
abbrev Qa:=@PySem.wpAny_callSpecial?_slot
abbrev Qb:=@PyProof.Rows.slot_tuple_getitem
abbrev Qc:=@PySem.wpAny_call_entry
abbrev Qd:=@PyProof.Rows.entry_tuple_getitem
abbrev Qe:=@PyProof.Rows.args_tuple_getitem
abbrev Qf:=@PySem.wpAny_typeOf
abbrev Qg:=@Bool.and_eq_true
abbrev Qh:=@PySem.wpAny_newObj_type
abbrev Qi:=@List.map_nil
abbrev Qj:=@List.map_cons
abbrev Qk:=@PySem.Heap.IsSliceOf.new
abbrev Ql:=@PySem.slot_list_getitem
abbrev Qm:=@PySem.Heap.get?_update_self
abbrev Qn:=@PySem.Heap.get?_update_other
abbrev Qo:=@List.length_set
abbrev Qp:=@List.all_cons
abbrev Qq:=@List.reverse_cons
abbrev Qr:=@List.replicate_succ
abbrev Qs:=@List.flatten_cons
abbrev Qt:=@List.append_assoc
abbrev Qu:=@List.foldl_cons
abbrev Qv:=@PySem.call_meets
abbrev Qw:=@List.length_singleton
abbrev Qx:=@Bool.and_false
abbrev Qy:=@List.nil_append
abbrev QA:=@decide_eq_true
abbrev QB:=@Nat.le_of_eq
abbrev QC:=@List.lookup_cons
abbrev QD:=@beq_self_eq_true
abbrev QE:=@Bool.false_eq_true
abbrev QF:=@List.length_cons
abbrev QG:=@Nat.lt_succ_self
abbrev QH:=@Nat.lt_succ_of_lt
abbrev QI:=@PySem.Heap.size_push
abbrev QJ:=@PySem.pushCells_keeps
abbrev QK:=@Option.bind_some
abbrev QL:=@PySem.codeAny_of_tree
abbrev QM:=@PySem.wpAny_askSetting
abbrev QN:=@PySem.wpAny_rule
abbrev QO:=@Nat.zero_le
abbrev QP:=@List.mem_singleton
abbrev QR:=@PySem.F.slot_tuple_iterator_next
abbrev QS:=@PySem.F.entry_tuple_iterator_next
abbrev QT:=@PySem.F.args_tuple_iterator_next_1
abbrev QU:=@PySem.wpAny_seqItems
abbrev QV:=@PySem.wpAny_setField
abbrev QW:=@PySem.Heap.SameBut.update
abbrev QX:=@PySem.Obj.isFreed_of_fields
abbrev QY:=@PySem.Obj.data_mapFields
abbrev QZ:=@PySem.Obj.cls_mapFields
abbrev Q0:=@PySem.wpAny_of_eq
abbrev Q2:=@PySem.wpAny_pyIter_tuple
abbrev Q3:=@List.not_mem_nil
abbrev Q4:=@or_false
abbrev Q5:=@Array.getElem?_toList
abbrev Q6:=@PySem.Heap.get?_push_ne
abbrev Q7:=@Nat.le_succ
abbrev Q8:=@List.range_succ_eq_map
abbrev Q9:=@List.map_map
abbrev Ra:=@List.map_congr_left
abbrev Rb:=@List.length_range
abbrev Rc:=@List.length_nil
abbrev Re:=@List.cons.inj
abbrev Rf:=@List.cons_append
abbrev Rg:=@List.pairwise_iff_getElem
abbrev Rh:=@Array.getElem?_eq_some_iff
abbrev Ri:=@List.take_of_length_le
abbrev Rj:=@List.mem_map
abbrev Rk:=@Classical.byContradiction
abbrev Rm:=@List.nodup_range
abbrev Rn:=@List.getElem?_of_mem
abbrev Rp:=@List.mem_map_of_mem
abbrev Rq:=@List.take_append_drop
abbrev Rt:=@List.pairwise_cons
abbrev Ru:=@List.map_append
abbrev Rv:=@List.map_take
abbrev Rw:=@List.map_drop
abbrev Rx:=@Array.getD_eq_getD_getElem?
abbrev Ry:=@Option.getD_some
abbrev Rz:=@List.getElem?_drop
abbrev RA:=@List.mem_of_mem_take
abbrev RB:=@List.mem_of_mem_drop
abbrev RC:=@Array.getElem?_eq_none_iff
abbrev RD:=@List.nodup_nil
abbrev RE:=@Nat.sub_self
abbrev RF:=@List.pairwise_lt_range
abbrev RG:=@List.perm_ext_iff_of_nodup
abbrev RH:=@Array.getElem?_eq_getElem
abbrev RI:=@List.all_eq_true
abbrev RJ:=@Int.toNat_of_nonneg
abbrev RK:=@Bool.not_true
abbrev RL:=@PySem.wpAny_forIn_list
abbrev RM:=@PySem.wpAny_setState_of
abbrev RN:=@Bool.and_self
abbrev RO:=@List.nodup_append
abbrev RP:=@PySem.wpAny_storeSet_of
abbrev RQ:=@PySem.putSet_of
abbrev RR:=@Bool.not_false
abbrev RT:=@List.foldl_append
abbrev RU:=@PySem.codeAny_builtin
abbrev RW:=@PySem.Around.under_plainId
abbrev RX:=@PyProof.Rows.F.plain_set_update_loop
abbrev RY:=@PySem.plainId_quiet
abbrev RZ:=@PySem.isSubtype_type
abbrev R0:=@PySem.F.called_set
abbrev R6:=@PySem.Code.quiet_builtin
abbrev R7:=@PySem.codeAny_call_builtin
abbrev R8:=@PySem.wpAny_pyIter_list
abbrev R9:=@PySem.wpAny_runValue
abbrev Sa:=@List.take_add_one
abbrev Sb:=@List.take_length
abbrev Sd:=@PySem.W.KasT.kasWp_bind
abbrev Se:=@decide_eq_decide
abbrev Sf:=@List.getD_eq_getElem?_getD
abbrev Sg:=@List.ext_getElem?
abbrev Sh:=@List.getElem?_range
abbrev Si:=@List.getElem?_eq_none
abbrev Sj:=@List.pairwise_map
abbrev Sk:=@PyProof.Rows.listUpdate_at
abbrev Sl:=@PyProof.Rows.get?_update_seq
abbrev Sn:=@PySem.wpAny_newList
abbrev So:=@PyProof.Rows.size_push'
abbrev Sr:=@PySem.Heap.size_update
abbrev Ss:=@PySem.Heap.get?_update_ne
abbrev Su:=@bne_self_eq_false
abbrev Sv:=@List.getElem_mem
abbrev Sw:=@List.getElem?_eq_getElem
abbrev Sx:=@PySem.wpAny_setEntries_of
abbrev Sy:=@PySem.wpAny_setField_rec
abbrev SA:=@PySem.Calls.call_function_entry
abbrev SB:=@PyProof.Rows.entry_list_sort
abbrev SC:=@Array.getElem?_setIfInBounds_ne
abbrev SD:=@PySem.wpAny_loadPart_at
abbrev SE:=@PySem.wpAny_Call_ofName
abbrev SG:=@PySem.W.looks_findIn
abbrev SH:=@PySem.F.attr_ValueError
abbrev SI:=@beq_iff_eq
abbrev SJ:=@of_eq_true
abbrev SK:=@eq_self
abbrev SL:=@List.drop_eq_getElem_cons
abbrev SM:=@List.drop_length
abbrev SN:=@decide_eq_true_eq
abbrev SQ:=@List.zip_cons_cons
abbrev SR:=@List.eq_nil_of_length_eq_zero
abbrev SS:=@PyProof.Rows.boot_isinstance
abbrev SU:=@List.all_map
abbrev SV:=@Int.le_antisymm
abbrev SW:=@List.take_append_of_le_length
abbrev SY:=@List.filter_cons
abbrev SZ:=@PySem.F.slot_list_iadd
abbrev S7:=@List.length_reverse
abbrev S8:=@PySem.plainObj_wpAny_Assign_Attribute
abbrev S9:=@List.contains_iff_mem
abbrev Ta:=@List.getElem_toArray
abbrev Tb:=@List.findIdx_lt_length_of_exists
abbrev Tc:=@PySem.F.called_tuple
abbrev Td:=@PySem.PassesOwn.never
abbrev Te:=@Int.emod_nonneg
abbrev Tf:=@Int.emod_lt_of_pos
abbrev Tg:=@List.set_cons_succ
abbrev Th:=@List.set_cons_zero
abbrev Ti:=@Bool.true_and
abbrev Tj:=@List.any_eq_true
abbrev Tn:=@of_decide_eq_true
abbrev To:=@Function.comp_def
abbrev Tp:=@List.length_filter_le
abbrev Tq:=@List.filter_append
abbrev Tr:=@List.filter_nil
abbrev Ts:=@List.getD_cons_zero
abbrev Tt:=@List.getD_cons_succ
abbrev Tu:=@Int.le_of_lt
variable{pins:List (PySem.Addr×PySem.Obj)}{fd:PySem.FuncData}{Q:PySem.Value->PySem.Shared->Prop}{E:PySem.Value->PySem.Shared->Prop}{s:PySem.Shared}{K:PySem.W.Frag}{n:Nat}{ks:List 2e5}{Z:List PySem.Addr}{w:PySem.World}{mg:PySem.Str->Option PySem.Value}{f:PySem.Addr}{A:PySem.Around}{a:PySem.Addr}{pos:PySem.Pos}{base:PySem.Heap}{x:PySem.Str}{i:Nat}{k:Nat}{P:PySem.Program}{ps:List (Int×PySem.Value)}{es:Array (Int×PySem.Value)}{e:PySem.Expr}{m:Nat}{α:List (Nat×Int×PySem.Value)}{prog:PySem.Program}{outer:List PySem.Env}{scope:PySem.Scope}{us:List PySem.Value}{ns:List Int}{N:List PySem.Str}{env:PySem.Env}{qual:PySem.Str}{u:PySem.Value}{C:PySem.Addr}{st:PySem.Stmt}{dx:Option PySem.Addr}{b:Bool}{β:Type}{XP:(PySem.Str->Option PySem.Value)->PySem.Heap->Prop}{px:PySem.Pos}{body:List PySem.Stmt}{ρ:List Int}{cls:PySem.Value}{t':Nat}{op:PySem.CmpOp}{known:List PySem.Str}{pos':PySem.Pos}{q:Int}{tg:PySem.Expr}{its:List PySem.Value}{np:PySem.Pos}{osl:Array (Option PySem.Value)}{h':PySem.Heap}{gens:List Comprehension}{T:String}{l:PySem.Addr}{j:Nat}{fp:List PySem.Addr}{Nc:List PySem.Str}{c:PySem.Str}{neg:Bool}{it:PySem.Addr}{mA:PySem.Str->Option PySem.Value}{kw:List (PySem.Str×PySem.Value)}{mN:PySem.Str->Option PySem.Value}{mask:Nat}{elts:List PySem.Expr}{ls:List 2e5}{apos:PySem.Pos}{lo:Option Int}{acc:PySem.Addr}{z:Nat×Int×PySem.Value}{J:Nat->PySem.Heap->Prop}{ch:List PySem.Addr}{a0:PySem.Value}{owner:Array (Option Nat)}{cdv:PySem.Value}{g:Comprehension}{cpos:PySem.Pos}{loose:List PySem.Str}{tk:PySem.Tok}{ea:PySem.Addr}{rest:List PySem.Expr}{col:Option Bool}{eks:List (Bool×Bool)}{fI:PySem.Addr}{cd:ClassData}{YP:PySem.World->PySem.Heap->Prop}{elt:PySem.Expr}{sub:List PySem.Value}{tn:String}{k0:Option PySem.Value}{ox:PySem.Obj}{cl:List (PySem.Str×PySem.Addr)}{iter:PySem.Expr}{dd:Option PySem.Addr}{sc:PySem.Scope}{pos1:PySem.Pos}{s':PySem.Shared}{hs:List Int}{g':Array GenState}{p1:PySem.Pos}{params:Arguments}{an:Option PySem.Addr}{pos2:PySem.Pos}{sn:List PySem.Str}{subs:List PySem.Str}{I:PySem.Addr}{p2:PySem.Pos}{k1:Nat}{oe:PySem.Obj}{vl:PySem.Value}{φ:PySem.Heap->Prop}{hadNext:Bool}{a_TooGreat:PySem.Addr}{sl:PySem.Addr}{nm:PySem.Str}{ab:Bool}{a_NoPlace:PySem.Addr}{oI:PySem.Obj}{ob:PySem.Expr}
namespace ρ2
open PySem PySem.Spec PyProof.Rows
def dm(s:Stmt):Arguments:=match s with
 |.FunctionDef _ a _ _ _ _ _ _ _ _=>a
 |_=>{posonlyargs:=[],args:=[],vararg:=none,kwonlyargs:=[],kw_defaults:=[],kwarg:=none,defaults:=[]}
def bD(s:Stmt):List Stmt:=match s with
 |.FunctionDef _ _ b _ _ _ _ _ _ _=>b
 |_=>[]
def aq(s:Stmt):Scope:=match s with
 |.FunctionDef _ _ _ _ _ _ sc _ _ _=>sc
 |_=>{kind:=.function,names:=[],isGenerator:=false,isCoroutine:=false}
def Hj(s:Stmt)(j:Nat):Stmt:=match s with
 |.ClassDef _ _ _ body _ _ _ _ _ _ _=>body.getD j s
 |s=>s
end ρ2
namespace Lw
open PySem PySem.Spec PyProof.Rows ρ2
def top(i:Nat):Stmt:=PySem.Challenge.pw_rootwebs_k11_webs_apart_and_beside.main.body.getD i (.Pass ⟨0,0,0,0⟩)
abbrev i5:Stmt:=top 11
abbrev eC:Stmt:=top 12
abbrev i6:Stmt:=top 13
abbrev fV:Stmt:=top 14
abbrev fU:Stmt:=top 15
abbrev cX:Stmt:=top 16
abbrev jL:Stmt:=top 19
abbrev jK:Stmt:=top 20
abbrev jq:Stmt:=top 21
abbrev de:Stmt:=top 23
abbrev fW:Stmt:=top 22
abbrev fT:Stmt:=top 25
abbrev ir:Stmt:=top 26
abbrev jr:Stmt:=top 27
abbrev eZ:Stmt:=top 29
abbrev ik:Stmt:=top 30
abbrev f7:Stmt:=top 31
abbrev ip:Stmt:=top 32
abbrev gB:Stmt:=top 33
abbrev eY:Stmt:=top 34
abbrev eX:Stmt:=top 35
abbrev dX:Stmt:=top 36
abbrev cP:Stmt:=top 37
abbrev fX:Stmt:=top 38
abbrev cE:Stmt:=top 39
abbrev f6:Stmt:=top 40
abbrev eD:Stmt:=top 41
abbrev ij:Stmt:=top 42
abbrev dY:Stmt:=top 43
abbrev df:Stmt:=top 44
abbrev eQ:Stmt:=top 45
abbrev bU:Stmt:=top 46
abbrev km:Stmt:=top 47
def en(P:Params)(n:Str)(t:Tok)(v:Value):DictEntry:=⟨PyData.keyHash P n,.str n t,v⟩
def fo (n:Str) (st:Stmt) (m:Str) (t:Tok) (c:Addr):Obj:=⟨.type "function",none,.func (W.fnOf n n (dm st) (bD st) (aq st) .none .none .none (.str m t) none (.ref c) .none),#[]⟩
def co (n:Str) (t:Tok) (l k i:Int) (a:Addr) (p:Bool) (u:Nat):Obj:=⟨.type "code",none,.fields #[.str n t,.str n (t+1),.str "/claim/cut.py" (t+2),.int l 0,.int k 0,.int 0 0,.int 0 0,.int 3 0,.ref a,.bool true,.int i 0,.ref (a+1),.none,bif p then .ref (a+2) else .none,bif p then .ref (a+3) else .none,.ref (bif p then a+4 else a+2),.int u 0,.int l 0,.str "/claim/cut.py" (u+1)],#[]⟩
def K8 (n q:Str) (st:Stmt) (m:Str) (t:Tok) (c:Addr):Obj:=⟨.type "function",none,.func (W.fnOf n q (dm st) (bD st) (aq st) .none .none .none (.str m t) none (.ref c) .none),#[]⟩
def Kz (P:Params):W.Frag:=[(3,⟨.type "dict",none,.dict #[en P "__name__" 165 (.str "law_rootwebs_k11_webs_apart_and_beside" 467),en P "__doc__" 166 .none,en P "__package__" 167 .none,en P "__loader__" 168 (.builtin "__main__.__loader__#opaque"),en P "__spec__" 169 .none,en P "__annotations__" 170 (.ref 6),en P "__builtins__" 171 (.ref 4),en P "__file__" 173 (.str "/claim/cut.py" 172),en P "__cached__" 174 .none,en P "RootError" 206 (.ref 24),en P "NoPlace" 222 (.ref 37),en P "NoNumber" 238 (.ref 49),en P "NoLine" 254 (.ref 61),en P "NoRoot" 270 (.ref 73),en P "NoTree" 286 (.ref 85),en P "NoWeb" 311 (.ref 104),en P "NoText" 336 (.ref 123),en P "TooGreat" 363 (.ref 142),en P "is_whole" 372 (.ref 151),en P "is_whole_from" 381 (.ref 158),en P "is_place" 389 (.ref 165),en P "is_places" 395 (.ref 170),en P "is_rising" 401 (.ref 175),en P "is_rising_places" 409 (.ref 182),en P "MOST_PLACES" 413 (.int 6 412),en P "is_many" 420 (.ref 189),en P "is_pair" 428 (.ref 196),en P "web_of" 434 (.ref 201),en P "fars_from" 440 (.ref 206),en P "next_places" 446 (.ref 211),en P "pieces_of" 454 (.ref 216),en P "within" 460 (.ref 221),en P "beside" 466 (.ref 226),en P "_law_cell_at" 476 (.ref 233),en P "_law_next" 483 (.ref 240),en P "_law_pen_of" 491 (.ref 247),en P "_law_draw" 500 (.ref 254),en P "_law_whole" 507 (.ref 261),en P "_law_kind_of" 515 (.ref 268),en P "_law_refused" 523 (.ref 275),en P "_law_web_of" 529 (.ref 280),en P "_law_drawn_web" 535 (.ref 285),en P "_law_near" 541 (.ref 290),en P "_law_tuples_are" 547 (.ref 295),en P "_law_web_is" 555 (.ref 302),en P "_law_no_place" 564 (.ref 309),en P "_law_told" 574 (.ref 316),en P "_law_pieces" 580 (.ref 321),en P "_law_is_lot" 586 (.ref 326),en P "_law_right" 592 (.ref 331),en P "_law_beside_right" 598 (.ref 336),en P "law" 604 (.ref 341)] 52,#[]⟩),
 (23,⟨.type "dict",none,.dict #[en P "__module__" 196 (.str "rootwebs.errors" 187),en P "__firstlineno__" 200 (.int 2 199),en P "__static_attributes__" 201 (.ref 22),en P "__weakref__" 203 (.ref 25),en P "__doc__" 204 .none] 3,#[]⟩),
 (24,⟨.type "type",none,.cls ⟨"RootError",[(.type "ValueError")],[(.ref 24),(.type "ValueError"),(.type "Exception"),2e0,3e6],23, "RootError",true,[],[(.ref 37),(.ref 49),(.ref 61),(.ref 73),(.ref 85),(.ref 104),(.ref 123),(.ref 142)],false,none,false⟩,#[some (.ref 15),none,some (.str "RootError" 189),some (.str "RootError" 197),some (.builtin "ValueError.__new__"),some (.bool true)]⟩),
 (36,⟨.type "dict",none,.dict #[en P "__module__" 214 (.str "rootwebs.errors" 187),en P "__firstlineno__" 218 (.int 4 217),en P "__static_attributes__" 219 (.ref 35),en P "__doc__" 220 .none] 2,#[]⟩),
 (37,⟨.type "type",none,.cls ⟨"NoPlace",[(.ref 24)],[(.ref 37),(.ref 24),(.type "ValueError"),(.type "Exception"),2e0,3e6],36, "NoPlace",true,[],[],false,none,false⟩,#[some (.ref 28),none,some (.str "NoPlace" 207),some (.str "NoPlace" 215),some (.builtin "ValueError.__new__"),some (.bool true)]⟩),
 (48,⟨.type "dict",none,.dict #[en P "__module__" 230 (.str "rootwebs.errors" 187),en P "__firstlineno__" 234 (.int 6 233),en P "__static_attributes__" 235 (.ref 47),en P "__doc__" 236 .none] 2,#[]⟩),
 (49,⟨.type "type",none,.cls ⟨"NoNumber",[(.ref 24)],[(.ref 49),(.ref 24),(.type "ValueError"),(.type "Exception"),2e0,3e6],48, "NoNumber",true,[],[],false,none,false⟩,#[some (.ref 40),none,some (.str "NoNumber" 223),some (.str "NoNumber" 231),some (.builtin "ValueError.__new__"),some (.bool true)]⟩),
 (60,⟨.type "dict",none,.dict #[en P "__module__" 246 (.str "rootwebs.errors" 187),en P "__firstlineno__" 250 (.int 8 249),en P "__static_attributes__" 251 (.ref 59),en P "__doc__" 252 .none] 2,#[]⟩),
 (61,⟨.type "type",none,.cls ⟨"NoLine",[(.ref 24)],[(.ref 61),(.ref 24),(.type "ValueError"),(.type "Exception"),2e0,3e6],60, "NoLine",true,[],[],false,none,false⟩,#[some (.ref 52),none,some (.str "NoLine" 239),some (.str "NoLine" 247),some (.builtin "ValueError.__new__"),some (.bool true)]⟩),
 (72,⟨.type "dict",none,.dict #[en P "__module__" 262 (.str "rootwebs.errors" 187),en P "__firstlineno__" 266 (.int 10 265),en P "__static_attributes__" 267 (.ref 71),en P "__doc__" 268 .none] 2,#[]⟩),
 (73,⟨.type "type",none,.cls ⟨"NoRoot",[(.ref 24)],[(.ref 73),(.ref 24),(.type "ValueError"),(.type "Exception"),2e0,3e6],72, "NoRoot",true,[],[],false,none,false⟩,#[some (.ref 64),none,some (.str "NoRoot" 255),some (.str "NoRoot" 263),some (.builtin "ValueError.__new__"),some (.bool true)]⟩),
 (84,⟨.type "dict",none,.dict #[en P "__module__" 278 (.str "rootwebs.errors" 187),en P "__firstlineno__" 282 (.int 12 281),en P "__static_attributes__" 283 (.ref 83),en P "__doc__" 284 .none] 2,#[]⟩),
 (85,⟨.type "type",none,.cls ⟨"NoTree",[(.ref 24)],[(.ref 85),(.ref 24),(.type "ValueError"),(.type "Exception"),2e0,3e6],84, "NoTree",true,[],[],false,none,false⟩,#[some (.ref 76),none,some (.str "NoTree" 271),some (.str "NoTree" 279),some (.builtin "ValueError.__new__"),some (.bool true)]⟩),
 (100,⟨.type "code",none,.fields #[(.str "__init__" 299),(.str "NoWeb.__init__" 300),(.str "/claim/cut.py" 301),(.int 16 0),(.int 2 0),(.int 0 0),(.int 0 0),(.int 3 0),(.ref 95),(.bool true),(.int 181 0),(.ref 96),.none,(.ref 97),(.ref 98),(.ref 99),(.int 304 0),(.int 16 0),(.str "/claim/cut.py" 305)],#[]⟩),
 (101,K8 "__init__" "NoWeb.__init__" (Hj (top 7) 0) "rootwebs.errors" 187 100),
 (103,⟨.type "dict",none,.dict #[en P "__module__" 294 (.str "rootwebs.errors" 187),en P "__firstlineno__" 298 (.int 14 297),en P "__init__" 306 (.ref 101),en P "__static_attributes__" 308 (.ref 102),en P "__doc__" 309 .none] 2,#[]⟩),
 (104,⟨.type "type",none,.cls ⟨"NoWeb",[(.ref 24)],[(.ref 104),(.ref 24),(.type "ValueError"),(.type "Exception"),2e0,3e6],103, "NoWeb",true,[],[],false,none,false⟩,#[some (.ref 88),none,some (.str "NoWeb" 287),some (.str "NoWeb" 295),some (.builtin "ValueError.__new__"),some (.bool true)]⟩),
 (122,⟨.type "dict",none,.dict #[en P "__module__" 319 (.str "rootwebs.errors" 187),en P "__firstlineno__" 323 (.int 18 322),en P "__init__" 331 (.ref 120),en P "__static_attributes__" 333 (.ref 121),en P "__doc__" 334 .none] 2,#[]⟩),
 (123,⟨.type "type",none,.cls ⟨"NoText",[(.ref 24)],[(.ref 123),(.ref 24),(.type "ValueError"),(.type "Exception"),2e0,3e6],122, "NoText",true,[],[],false,none,false⟩,#[some (.ref 107),none,some (.str "NoText" 312),some (.str "NoText" 320),some (.builtin "ValueError.__new__"),some (.bool true)]⟩),
 (138,⟨.type "code",none,.fields #[(.str "__init__" 349),(.str "TooGreat.__init__" 350),(.str "/claim/cut.py" 351),(.int 24 0),(.int 3 0),(.int 0 0),(.int 0 0),(.int 3 0),(.ref 133),(.bool true),(.int 181 0),(.ref 134),.none,(.ref 135),(.ref 136),(.ref 137),(.int 355 0),(.int 24 0),(.str "/claim/cut.py" 356)],#[]⟩),
 (139,K8 "__init__" "TooGreat.__init__" (Hj (top 9) 0) "rootwebs.errors" 187 138),
 (141,⟨.type "dict",none,.dict #[en P "__module__" 344 (.str "rootwebs.errors" 187),en P "__firstlineno__" 348 (.int 22 347),en P "__init__" 357 (.ref 139),en P "__static_attributes__" 360 (.ref 140),en P "__doc__" 361 .none] 2,#[]⟩),
 (142,⟨.type "type",none,.cls ⟨"TooGreat",[(.ref 24)],[(.ref 142),(.ref 24),(.type "ValueError"),(.type "Exception"),2e0,3e6],141, "TooGreat",true,[],[],false,none,false⟩,#[some (.ref 126),none,some (.str "TooGreat" 337),some (.str "TooGreat" 345),some (.builtin "ValueError.__new__"),some (.bool true)]⟩),
 (150,co "is_whole" 366 28 1 181 145 true 370),
 (151,fo "is_whole" i5 "rootwebs.kinds" 364 150),
 (157,co "is_whole_from" 373 30 3 181 152 true 379),
 (158,fo "is_whole_from" eC "rootwebs.kinds" 364 157),
 (164,co "is_place" 382 32 2 181 159 true 387),
 (165,fo "is_place" i6 "rootwebs.kinds" 364 164),
 (169,co "is_places" 390 34 2 181 166 false 393),
 (170,fo "is_places" fV "rootwebs.kinds" 364 169),
 (174,co "is_rising" 396 36 1 181 171 false 399),
 (175,fo "is_rising" fU "rootwebs.kinds" 364 174),
 (181,co "is_rising_places" 402 38 2 181 176 true 407),
 (182,fo "is_rising_places" cX "rootwebs.kinds" 364 181),
 (188,co "is_many" 414 42 1 181 183 true 418),
 (189,fo "is_many" jL "rootwebs.webs" 410 188),
 (195,co "is_pair" 421 44 2 181 190 true 426),
 (196,fo "is_pair" jK "rootwebs.webs" 410 195),
 (200,co "web_of" 429 46 2 181 197 false 432),
 (201,fo "web_of" jq "rootwebs.webs" 410 200),
 (205,co "fars_from" 435 53 2 181 202 false 438),
 (206,fo "fars_from" fW "rootwebs.webs" 410 205),
 (210,co "next_places" 441 65 2 181 207 false 444),
 (211,fo "next_places" de "rootwebs.webs" 410 210),
 (215,co "pieces_of" 449 68 1 181 212 false 452),
 (216,fo "pieces_of" fT "rootwebs.looks" 447 215),
 (220,co "within" 455 76 2 181 217 false 458),
 (221,fo "within" ir "rootwebs.looks" 447 220),
 (225,co "beside" 461 82 2 181 222 false 464),
 (226,fo "beside" jr "rootwebs.looks" 447 225),
 (232,co "_law_cell_at" 469 90 2 181 227 true 474),
 (233,fo "_law_cell_at" eZ "law_rootwebs_k11_webs_apart_and_beside" 467 232),
 (239,co "_law_next" 477 94 1 181 234 true 481),
 (240,fo "_law_next" ik "law_rootwebs_k11_webs_apart_and_beside" 467 239),
 (246,co "_law_pen_of" 484 97 1 181 241 true 489),
 (247,fo "_law_pen_of" f7 "law_rootwebs_k11_webs_apart_and_beside" 467 246),
 (253,co "_law_draw" 492 100 2 181 248 true 498),
 (254,fo "_law_draw" ip "law_rootwebs_k11_webs_apart_and_beside" 467 253),
 (260,co "_law_whole" 501 107 1 181 255 true 505),
 (261,fo "_law_whole" gB "law_rootwebs_k11_webs_apart_and_beside" 467 260),
 (267,co "_law_kind_of" 508 109 1 181 262 true 513),
 (268,fo "_law_kind_of" eY "law_rootwebs_k11_webs_apart_and_beside" 467 267),
 (274,co "_law_refused" 516 115 1 181 269 true 521),
 (275,fo "_law_refused" eX "law_rootwebs_k11_webs_apart_and_beside" 467 274),
 (279,co "_law_web_of" 524 120 2 181 276 false 527),
 (280,fo "_law_web_of" dX "law_rootwebs_k11_webs_apart_and_beside" 467 279),
 (284,co "_law_drawn_web" 530 122 2 181 281 false 533),
 (285,fo "_law_drawn_web" cP "law_rootwebs_k11_webs_apart_and_beside" 467 284),
 (289,co "_law_near" 536 129 2 181 286 false 539),
 (290,fo "_law_near" fX "law_rootwebs_k11_webs_apart_and_beside" 467 289),
 (294,co "_law_tuples_are" 542 131 2 181 291 false 545),
 (295,fo "_law_tuples_are" cE "law_rootwebs_k11_webs_apart_and_beside" 467 294),
 (301,co "_law_web_is" 548 135 2 181 296 true 553),
 (302,fo "_law_web_is" f6 "law_rootwebs_k11_webs_apart_and_beside" 467 301),
 (308,co "_law_no_place" 556 139 2 181 303 true 562),
 (309,fo "_law_no_place" eD "law_rootwebs_k11_webs_apart_and_beside" 467 308),
 (315,co "_law_told" 565 142 3 181 310 true 572),
 (316,fo "_law_told" ij "law_rootwebs_k11_webs_apart_and_beside" 467 315),
 (320,co "_law_pieces" 575 147 1 181 317 false 578),
 (321,fo "_law_pieces" dY "law_rootwebs_k11_webs_apart_and_beside" 467 320),
 (325,co "_law_is_lot" 581 157 2 181 322 false 584),
 (326,fo "_law_is_lot" df "law_rootwebs_k11_webs_apart_and_beside" 467 325),
 (330,co "_law_right" 587 161 2 181 327 false 590),
 (331,fo "_law_right" eQ "law_rootwebs_k11_webs_apart_and_beside" 467 330),
 (335,co "_law_beside_right" 593 170 2 181 332 false 596),
 (336,fo "_law_beside_right" bU "law_rootwebs_k11_webs_apart_and_beside" 467 335),
 (340,co "law" 599 176 1 181 337 false 602),
 (341,fo "law" km "law_rootwebs_k11_webs_apart_and_beside" 467 340)]
def Qz:Program:=W.view PySem.Challenge.pw_rootwebs_k11_webs_apart_and_beside [1,2,3,4,5,6,7,8,9,11,12,13,14,15,16,18,19,20,21,22,23,25,26,27,29,30,31,32,33,34,35,36,37,38,39,40,41,42,43,44,45,46,47]
noncomputable abbrev Hz:W.Hook:=W.kHook Kz [3,23,24,36,37,48,49,60,61,72,73,84,85,100,101,103,104,122,123,138,139,141,142,150,151,157,158,164,165,169,170,174,175,181,182,188,189,195,196,200,201,205,206,210,211,215,216,220,221,225,226,232,233,239,240,246,247,253,254,260,261,267,268,274,275,279,280,284,285,289,290,294,295,301,302,308,309,315,316,320,321,325,326,330,331,335,336,340,341] fun _=>by kernel_rfl
theorem Ip:PySem.Challenge.rw_rootwebs_k11_webs_apart_and_beside.wellSaid=true:=by kernel_rfl
noncomputable abbrev Xz(s:Shared):Bool:=W.xlAt Qz [] s&&W.recOk (W.RowW.records (W.OpenRow.toRowW (W.OpenLaw.row PySem.Challenge.rw_rootwebs_k11_webs_apart_and_beside))) s
theorem yf{B Z β γ δ ε:Type _}{o:Option B}(F:B->Z×β×γ×δ)(G:B->ε)(g:Z×β×γ×δ)(v:ε)
  (h1:o.map (fun s=>(F s).1)=some g.1) (h2:o.map (fun s=>((F s).2.1,(F s).2.2.1))=some (g.2.1,g.2.2.1)) (h3:o.map (fun s=>(F s).2.2.2)=some g.2.2.2)
  (h4:o.map G=some v):o.map (fun s=>(F s,G s))=some (g,v):=by
 cases o with
 |none=>cases h4
 |some s=>
  have e1:(F s).1=g.1:=Oq h1;have e2:((F s).2.1,(F s).2.2.1)=(g.2.1,g.2.2.1):=Oq h2;have e3:(F s).2.2.2=g.2.2.2:=Oq h3;have e4:G s=v:=Oq h4;have e5:(F s).2.1=g.2.1:=(Prod.mk.inj e2).1;have e6:(F s).2.2.1=g.2.2.1:=(Prod.mk.inj e2).2;have e:F s=g:=Prod.ext e1 (Prod.ext e5 (Prod.ext e6 e3));show some (F s,G s)=some (g,v);rw[e,e4]
noncomputable abbrev Oz(w:World):=W.openEnds PySem.treeTable PySem.Challenge.rw_rootwebs_k11_webs_apart_and_beside.row.prog w 6056
noncomputable abbrev Sz:=W.openSeen Qz [] (PySem.importedModules PySem.Challenge.rw_rootwebs_k11_webs_apart_and_beside.row.prog.main.body) Xz true
noncomputable abbrev Tz:=W.openGood Qz []
theorem E7:∀w,(Oz w).map (fun s=>(Sz s).1)=some Tz.1:=fun w=>by kernel_rfl
theorem E6:∀w,(Oz w).map (fun s=>((Sz s).2.1,(Sz s).2.2.1))=some (Tz.2.1,Tz.2.2.1):=fun w=>by kernel_rfl
theorem E5:∀w,(Oz w).map (fun s=>(Sz s).2.2.2)=some Tz.2.2.2:=fun w=>by kernel_rfl
theorem E4:∀w,(Oz w).map (W.Hook.obs Hz)=some (W.Hook.val Hz w):=fun w=>by kernel_rfl
theorem Iq:W.LeftO PySem.Challenge.rw_rootwebs_k11_webs_apart_and_beside.row.prog Qz [] Xz (W.Hook.obs Hz) (W.Hook.val Hz) 6056:=fun w=>yf Sz (W.Hook.obs Hz) Tz (W.Hook.val Hz w) (E7 w) (E6 w) (E5 w) (E4 w)
end Lw
namespace ρ2
open PySem PySem.Spec PyProof.Rows
abbrev rP:=Sum Int Str
def HL:rP->Value->Bool
 |.inl k,v=>Value.isInt k v
 |.inr x,v=>Value.isStrOf x v
def NQ(w:World):rP->Int
 |.inl k=>hashInt k
 |.inr x=>hashStr w x
theorem cO:∀{k:rP}{v:Value},HL k v=true->(∃i t,k=Sum.inl i/\v=Value.int i t)\/(∃x t,k=Sum.inr x/\v=Value.str x t)
 |.inl i,v,h=>by
  obtain⟨t,e⟩:=Os (k:=i) (v:=v) h;exact .inl ⟨i,t,rfl,e⟩
 |.inr x,v,h=>by
  obtain⟨t,e⟩:=Value.isStrOf_shape (x:=x) (v:=v) h;exact .inr ⟨x,t,rfl,e⟩
theorem Kg(a b:Int):decide ((Sum.inl a:rP)=Sum.inl b)=(a == b):=by
 by_cases e:a=b
 ·subst e;simp
 ·have h:¬ (Sum.inl a:rP)=Sum.inl b:=fun q=>e (Sum.inl.inj q);rw[Ot h];exact(Ou.mpr e).symm
theorem Kd(a b:Str):decide ((Sum.inr a:rP)=Sum.inr b)=decide (a=b):=by
 by_cases e:a=b
 ·subst e;simp
 ·have h:¬ (Sum.inr a:rP)=Sum.inr b:=fun q=>e (Sum.inr.inj q);rw[Ot h,Ot e]
theorem Kf(a:Int)(b:Str):decide ((Sum.inl a:rP)=Sum.inr b)=false:=Ot (fun q=>nomatch q)
theorem Ke(a:Str)(b:Int):decide ((Sum.inr a:rP)=Sum.inl b)=false:=Ot (fun q=>nomatch q)
def pI(prog:Program)(w:World):PySem.KeyKind prog w rP where
 is:=HL
 hash:=NQ w
 inj:=fun v a b ha hb=>by
  rcases cO ha with⟨i,t,rfl,rfl⟩|⟨x,t,rfl,rfl⟩
  ·rcases cO hb with ⟨j, u, rfl, e⟩ | ⟨y, u, rfl, e⟩
   ·injection e with e1 _;rw[e1]
   ·exact nomatch e
  ·rcases cO hb with ⟨j, u, rfl, e⟩ | ⟨y, u, rfl, e⟩
   ·exact nomatch e
   ·injection e with e1 _;rw[e1]
 byValue:=fun k v h=>by
  rcases cO h with⟨i,t,rfl,rfl⟩|⟨x,t,rfl,rfl⟩ <;> rfl
 pyHash:=fun hv h=>by
  rcases cO hv with⟨i,t,rfl,rfl⟩|⟨x,t,rfl,rfl⟩
  ·exact wpAny_pyHash_int h
  ·exact wpAny_pyHash_str h
 eqBool:=fun hu hv h=>by
  rcases cO hu with⟨i,t,rfl,rfl⟩|⟨x,t,rfl,rfl⟩
  ·rcases cO hv with ⟨j, u, rfl, rfl⟩ | ⟨y, u, rfl, rfl⟩
   ·rw[Kg]at h;exact Ov h
   ·rw[Kf]at h;exact SeqAt.EqAt.int_str i t y u _ _ _ _ h
  ·rcases cO hv with ⟨j, u, rfl, rfl⟩ | ⟨y, u, rfl, rfl⟩
   ·rw[Ke]at h;exact SeqAt.EqAt.str_int x t j u _ _ _ _ h
   ·rw[Kd]at h;exact wpAny_eqBool_str h
 «strs»:=fun k x t v h=>by
  rcases cO h with⟨i,u,rfl,e⟩|⟨y,u,rfl,e⟩
  ·exact nomatch e
  ·injection e with e1 _
   subst e1;cases v <;> rfl
inductive V where
 |non|bl (b:Bool)|int (i:Int)|str (x:Str)|byt (b:Array UInt8)|flt (b:UInt64)|ref (a:Addr)|ty (n:String)
 deriving DecidableEq
def bG:V->Value->Prop
 |.non,u=>u=Value.none
 |.bl b,u=>u=Value.bool b
 |.int i,u=>∃t,u=Value.int i t
 |.str x,u=>∃t,u=Value.str x t
 |.byt b,u=>∃t,u=Value.bytes b t
 |.flt b,u=>∃t,u=Value.float b t
 |.ref a,u=>u=Value.ref a
 |.ty n,u=>u=Value.type n
abbrev ba:List V->List Value->Prop:=Paired bG
theorem ba.length{xs:List V}(r:ba xs us):xs.length=us.length:=Paired.length r
theorem ba.get:∀{xs:List V}{us:List Value}{i:Nat}{x:V},ba xs us->xs[i]?=some x->∃u,us[i]?=some u/\bG x u
 |_,_,_,_,.nil,e=>by simp at e
 |_,_,0,_,.cons r _,e=>by simp at e;subst e;exact⟨_,rfl,r⟩
 |_,_,i+1,x,.cons _ t,e=>by
  obtain⟨u,h1,h2⟩:=ba.get (i:=i) (x:=x) t (by simpa using e);exact⟨u,by simpa using h1,h2⟩
theorem ba.set{x:V}{u:Value}(r:bG x u):∀{xs:List V}{us:List Value}(i:Nat),ba xs us->ba (xs.set i x) (us.set i u)
 |_,_,_,.nil=>.nil
 |_,_,0,.cons _ t=>.cons r t
 |_,_,i+1,.cons q t=>.cons q (ba.set r i t)
theorem ba.append:∀{xs ys:List V}{us ws:List Value},ba xs us->ba ys ws->ba (xs++ys) (us++ws)
 |_,_,_,_,.nil,s=>s
 |_,_,_,_,.cons r t,s=>.cons r (ba.append t s)
theorem ba.take:∀{xs:List V}{us:List Value}(n:Nat),ba xs us->ba (xs.take n) (us.take n)
 |_,_,0,_=>.nil
 |_,_,_+1,.nil=>.nil
 |_,_,n+1,.cons r t=>.cons r (ba.take n t)
theorem ba.drop:∀{xs:List V}{us:List Value}(n:Nat),ba xs us->ba (xs.drop n) (us.drop n)
 |_,_,0,r=>r
 |_,_,_+1,.nil=>.nil
 |_,_,n+1,.cons _ t=>ba.drop n t
def LD:Option V->Option Value->Prop
 |some v,some u=>bG v u
 |none,none=>True
 |_,_=>False
def KV{κ:Type}:List (κ×V)->List (κ×Value)->Prop:=Paired fun(p:κ×V) (q:κ×Value)=>p.1=q.1/\bG p.2 q.2
def kV:rP->V
 |.inl i=>.int i
 |.inr x=>.str x
inductive HO where
 |lst (xs:List V)
 |tup (xs:List V)
 |dK (kvs:List (rP×V))|dT (kvs:List (List rP×V))
 |set (S:Int->Bool) (n:Nat)
 |ins (C dx:Addr) (fs:List (Str×V))
 |own (x:Addr)
 |xd (fs:List (Str×V))
 |met (f x:Addr)
 |rng (lo hi:Int)
 |frz (o:Obj) (u:HO)
 |tbl (ps:Array Value)
 |ext (φ:Heap->Prop)
abbrev Hp:=Addr->Option HO
def bq(H:Hp)(a:Addr)(o:HO):Hp:=fun b=>if b=a then some o else H b
theorem aH{H:Hp}{o:HO}:bq H a o a=some o:=by unfold bq;rw[Ow rfl]
theorem aD{H:Hp}{b:Addr}{o:HO}(h:b≠a):bq H a o b=H b:=by unfold bq;rw[Ox h]
theorem oF{H:Hp}{b:Addr}{o u:HO}(h:H a=some o)(h':H b=some u)(d:o≠u):a≠b:=by
 intro e;subst e;rw[h]at h';exact d (Oq h')
theorem bH{H:Hp}{b:Addr}{o:HO}(h:H a=some o)(h':H b=none):a≠b:=by
 intro e;subst e;rw[h]at h';cases h'
def jd (h:Heap) (a:Addr) (items:Array Value):Prop:=∃o,h.get? a=some o/\o.cls=.type "tuple" /\ (∃n,o.data=.seq items n)/\o.dict=none
theorem jd.t{h:Heap}{items:Array Value}(x:jd h a items):IsTup h a items:=let ⟨o,e,c,n,_⟩:=x;⟨o,e,c,n⟩
theorem jd.new (h:Heap) (items:Array Value):jd (h.push {cls:=.type "tuple",data:=.seq items}) h.objs.size items:=⟨_,Oy _ rfl,rfl,⟨_,rfl⟩,rfl⟩
section
variable(P:Program)(w:World)
def cf(H:Hp)(h:Heap)(a:Addr):HO->Prop
 |.lst xs=>xs.length<=sizeLine/\∃(its:List Value) (n:Nat),ba xs its/\h.get? a=some {cls:=.type "list",data:=.seq 2e3 n}
 |.tup xs=>xs.length<=sizeLine/\∃its:List Value,ba xs its/\jd h a 2e3
 |.dK kvs=>kvs.length<=sizeLine/\(a == sysModules)=false/\∃vs,KV kvs vs/\h.DictOf (pI P w) a vs
 |.dT kvs=>kvs.length<=sizeLine/\(a == sysModules)=false/\∃xs:List (List rP×Addr×Value),
   Paired (fun(p:List rP×V) (q:List rP×Addr×Value)=>p.1=q.1/\H q.2.1=some (.tup (p.1.map kV))/\bG p.2 q.2.2) kvs xs /\
   ∃o es ep,h.get? a=some o/\o.ExactDict/\o.data=.dict es ep/\es.toList=xs.map (entryOfKey (tupleKind (pI P w)))/\(xs.map 2e4).Nodup
 |.set S n=>h.SetOf (intKind P w) a S n
 |.ins C dx fs=>H dx=some (.own a)/\fs.length<=1000/\dx≠a/\h.get? a=some (W.instObj C dx) /\
   ∃mA,h.Ns1 dx mA/\(∀f,LD (fs.lookup f) (mA f))/\PySem.Within mA (fs.map 2e4)
 |.own _=>∃o,h.get? a=some o
 |.xd fs=>∃mA,h.Ns1 a mA/\∀f,LD (fs.lookup f) (mA f)
 |.rng lo hi=>∃t u v,h.get? a=some {cls:=.type "range",data:=.fields #[.int lo t,.int hi u,.int 1 v]}
 |.frz o u=>h.get? a=some o/\cf H h a u
 |.tbl ps=>h.get? a=some {cls:=.none,data:=.fields ps}
 |.met f x=>h.get? a=some (W.methodObj 3e7 (.ref x))
 |.ext φ=>φ h/\(∃o,h.get? a=some o)/\∀h1 h2:Heap,φ h1->(∀o,h1.get? a=some o->h2.get? a=some o)->φ h2
def nA(H:Hp)(h:Heap):Prop:=∀a o,H a=some o->cf P w H h a o
end
section
variable{H H':Hp}{h:Heap}{o:HO}
theorem cf.lt(x:cf P w H h a o):a<h.objs.size:=by
 cases o with
 |lst xs=>obtain⟨_,_,_,_,e⟩:=x;exact OA e
 |tup xs=>obtain⟨_,_,_,p⟩:=x;exact p.t.lt
 |dK kvs=>obtain⟨_,_,_,_,o,_,_,e,_⟩:=x;exact OA e
 |dT kvs=>obtain⟨_,_,_,_,o,_,_,e,_⟩:=x;exact OA e
 |set S n=>obtain⟨o,_,_,_,e,_⟩:=x;exact OA e
 |ins C dx fs=>obtain⟨_,_,_,e,_⟩:=x;exact OA e
 |own y=>obtain⟨_,e⟩:=x;exact OA e
 |xd fs=>obtain⟨_,⟨_,_,_,e,_⟩,_⟩:=x;exact OA e
 |rng lo hi=>obtain⟨_,_,_,e⟩:=x;exact OA e
 |frz ob u=>obtain⟨e,_⟩:=x;exact OA e
 |tbl ps=>exact OA (show h.get? a=some _ from x)
 |met f y=>exact OA (show h.get? a=some _ from x)
 |ext φ=>obtain⟨_,⟨_,e⟩,_⟩:=x;exact OA e
theorem oX{Z β:Type}{F G:Z->β->Prop}:∀{l₁:List Z}{l₂:List β},Paired F l₁ l₂->(∀a b,F a b->G a b)->Paired G l₁ l₂
 |_,_,.nil,_=>.nil
 |_,_,.cons r t,f=>.cons (f _ _ r) (oX t f)
theorem cf.stay(x:cf P w H h a o)(k:∀b u,(b=a\/H b=some (.own a))->h.get? b=some u->h'.get? b=some u)
  (ho:∀b,H b=some (.own a)->H' b=some (.own a)) (ht:∀b xs,H b=some (.tup xs)->H' b=some (.tup xs)):cf P w H' h' a o:=by
 induction o with
 |lst xs=>obtain⟨z,its,n,r,e⟩:=x;exact⟨z,its,n,r,k _ _ (.inl rfl) e⟩
 |tup xs=>obtain⟨z,its,r,ob,e,c⟩:=x;exact⟨z,its,r,ob,k _ _ (.inl rfl) e,c⟩
 |dK kvs=>obtain⟨z,y,vs,r,ob,es,ep,e,c⟩:=x;exact⟨z,y,vs,r,ob,es,ep,k _ _ (.inl rfl) e,c⟩
 |dT kvs=>
  obtain⟨z,y,xs,r,ob,es,ep,e,c⟩:=x;exact⟨z,y,xs,oX r fun p q z=>⟨z.1,ht _ _ z.2.1,z.2.2⟩,ob,es,ep,k _ _ (.inl rfl) e,c⟩
 |set S n=>obtain⟨ob,es,ep,t,e,c⟩:=x;exact⟨ob,es,ep,t,k _ _ (.inl rfl) e,c⟩
 |ins C dx fs=>
  obtain⟨d,z,ne,e,mA,⟨od,es,ep,e2,c⟩,r⟩:=x;exact⟨ho _ d,z,ne,k _ _ (.inl rfl) e,mA,⟨od,es,ep,k _ _ (.inr d) e2,c⟩,r⟩
 |own y=>obtain⟨ob,e⟩:=x;exact⟨ob,k _ _ (.inl rfl) e⟩
 |xd fs=>obtain⟨mA,⟨od,es,ep,e,c⟩,r⟩:=x;exact⟨mA,⟨od,es,ep,k _ _ (.inl rfl) e,c⟩,r⟩
 |rng lo hi=>obtain⟨t,u,v,e⟩:=x;exact⟨t,u,v,k _ _ (.inl rfl) e⟩
 |frz ob u ih=>obtain⟨e,q⟩:=x;exact⟨k _ _ (.inl rfl) e,ih q⟩
 |tbl ps=>
  have e:h.get? a=some {cls:=.none,data:=.fields ps}:=x;show h'.get? a=some {cls:=.none,data:=.fields ps};exact k a _ (.inl rfl) e
 |met f y=>
  have e:h.get? a=some (W.methodObj 3e7 (.ref y)):=x;show h'.get? a=some (W.methodObj 3e7 (.ref y));exact k a _ (.inl rfl) e
 |ext φ=>obtain⟨p,⟨o,e⟩,st⟩:=x;exact⟨st _ _ p fun o q=>k _ _ (.inl rfl) q,⟨o,k _ _ (.inl rfl) e⟩,st⟩
theorem nA.lt(x:nA P w H h)(e:H a=some o):a<h.objs.size:=(x a o e).lt
theorem nA.fresh(x:nA P w H h)(e:h.objs.size<=a):H a=none:=by
 cases q:H a with
 |none=>rfl
 |some u=>exact absurd (OB (x.lt q) e) (OC _)
theorem nA.kept(x:nA P w H h)(k:∀b u,h.get? b=some u->h'.get? b=some u):nA P w H h':=fun a o e=>
 (x a o e).stay (fun b u _ q=>k b u q) (fun _ q=>q) fun _ _ q=>q
theorem nA.laid(x:nA P w H h)(k:∀b u,h.get? b=some u->h'.get? b=some u)(hp:h.objs.size<=a)(new:cf P w (bq H a o) h' a o):nA P w (bq H a o) h':=fun b u e=>by
 have hn:=x.fresh hp;by_cases hb:b=a
 ·subst hb;rw[aH]at e;cases e;exact new
 ·rw[aD hb]at e;exact(x b u e).stay (fun c v _ q=>k c v q) (fun c q=>by rw[aD (bH q hn)];exact q) fun c xs q=>by rw[aD (bH q hn)];exact q
end
def Rd(H:Hp)(a:Addr)(u:HO):Prop:=H a=some u\/∃o,H a=some (.frz o u)
theorem Rd.ok{H:Hp}{h:Heap}{u:HO}(r:Rd H a u)(x:nA P w H h):cf P w H h a u:=by
 rcases r with r|⟨o,r⟩
 ·exact x a u r
 ·obtain⟨_,q⟩:=x a _ r;exact q
def Nf:Option HO->Prop
 |some (.lst _)=>True
 |some (.dK _)=>True
 |some (.dT _)=>True
 |some (.set _ _)=>True
 |some (.ins _ _ _)=>True
 |some (.ext _)=>True
 |_=>False
section
variable{H:Hp}{h:Heap}{x e:Addr}{o':HO}
theorem nA.write(ok:nA P w H h)(mu:Nf (H x))(he:e=x\/H e=some (.own x))(k:∀b u,b≠e->h.get? b=some u->h'.get? b=some u)(heo:∃u,h'.get? e=some u)
  (new:cf P w (bq H x o') h' x o'):nA P w (bq H x o') h':=fun b u q=>by
 have nown:∀c y,H c=some (.own y)->c≠x:=fun c y r z=>by subst z;rw[r]at mu;exact mu
 have ntup:∀c xs,H c=some (.tup xs)->c≠x:=fun c xs r z=>by subst z;rw[r]at mu;exact mu
 by_cases hb:b=x
 ·subst hb;rw[aH]at q;cases q;exact new
 ·rw [aD hb] at q;by_cases hbe:b=e
  ·have q':H b=some (.own x):=by
    rcases he with z|z
    ·exact absurd (hbe.trans z) hb
    ·rw[hbe];exact z
   rw[q]at q';cases q';obtain⟨v,hv⟩:=heo;exact⟨v,by rw[hbe];exact hv⟩
  ·refine (ok b u q).stay (fun c v hc r => k c v ?_ r) (fun c r => by rw [aD (nown c b r)]; exact r) fun c xs r => by rw [aD (ntup c xs r)]; exact r
   rcases hc with rfl|hc
   ·exact hbe
   ·rintro rfl
    rcases he with z|z
    ·exact nown c b hc z
    ·rw[hc]at z;cases z;exact hb rfl
end
structure Un(fs ex:List Addr)(H H':Hp)(h h':Heap):Prop where
 keep:∀b o,h.get? b=some o->H b=none->b∉fs->b∉ex->h'.get? b=some o
 slot:∀b o,h.get? b=some o->H b=none->b∈fs->b∉ex->∃sl,h'.get? b=some {o with slots:=sl}
 free:∀b o,h.get? b=some o->H b=none->b∉ex->H' b=none
 there:∀b o,h.get? b=some o->b∉ex->∃o',h'.get? b=some o'
 tups:∀b xs,H b=some (.tup xs)->H' b=some (.tup xs)
 frzs:∀b o u,H b=some (.frz o u)->H' b=some (.frz o u)
 tbls:∀b ps,H b=some (.tbl ps)->∃more,H' b=some (.tbl (ps++more))
section
variable{fs fs' ex ex':List Addr}{H H1 H2:Hp}{h h1 h2:Heap}{x e:Addr}{o:HO}
theorem Un.any(u:Un fs ex H H1 h h1){b:Addr}{ob:Obj}(q:h.get? b=some ob)(n:H b=none)(hx:b∉ex):∃sl,h1.get? b=some {ob with slots:=sl}:=by
 by_cases hb:b∈fs
 ·exact u.slot b ob q n hb hx
 ·exact⟨ob.slots,u.keep b ob q n hb hx⟩
theorem Un.kept(k:∀b u,h.get? b=some u->h'.get? b=some u):Un fs ex H H h h':=
 ⟨fun b ob q _ _ _=>k b ob q,fun b ob q _ _ _=>⟨ob.slots,k b ob q⟩,fun _ _ _ n _=>n,fun b ob q _=>⟨ob,k b ob q⟩,fun _ _ q=>q,fun _ _ _ q=>q,fun _ ps q=>⟨#[],by rw[q];simp⟩⟩
theorem Un.refl:Un fs ex H H h h:=Un.kept fun _ _ q=>q
theorem Un.laid(k:∀b u,h.get? b=some u->h'.get? b=some u)(hp:h.objs.size<=a)(hn:H a=none):Un fs ex H (bq H a o) h h' where
 keep:=fun b u q _ _ _=>k b u q
 slot:=fun b u q _ _ _=>⟨u.slots,k b u q⟩
 free:=fun b u q n _=>by rw[aD (OD (OB (OA q) hp))];exact n
 there:=fun b u q _=>⟨u,k b u q⟩
 tups:=fun b xs q=>by rw[aD (bH q hn)];exact q
 frzs:=fun b u xs q=>by rw[aD (bH q hn)];exact q
 tbls:=fun b ps q=>⟨#[],by rw[aD (bH q hn),q];simp⟩
theorem Un.write(mu:Nf (H x))(he:e=x\/H e=some (.own x))(k:∀b u,b≠e->h.get? b=some u->h'.get? b=some u)(heo:∃u,h'.get? e=some u):Un fs ex H (bq H x o) h h':=by
 have hx:∀b,H b=none->b≠x:=fun b n z=>by subst z;rw[n]at mu;exact mu
 have hb:∀b,H b=none->b≠e:=fun b n z=>by
  subst z;rcases he with r|r
  ·exact hx b n r
  ·rw[n]at r;cases r
 have hm:∀b u,H b=some u->¬ Nf (some u)->b≠x:=fun b u q nm z=>by subst z;rw[q]at mu;exact nm mu
 refine⟨fun b u q n _ _=>k b u (hb b n) q,fun b u q n _ _=>⟨u.slots,k b u (hb b n) q⟩,fun b u q n _=>by rw[aD (hx b n)];exact n,fun b u q _=>?_,
  fun b xs q=>by rw[aD (hm b _ q fun z=>z)];exact q,fun b u xs q=>by rw[aD (hm b _ q fun z=>z)];exact q,fun b ps q=>⟨#[],by rw[aD (hm b _ q fun z=>z),q];simp⟩⟩
 by_cases hbe:b=e
 ·subst hbe;exact heo
 ·exact⟨u,k b u hbe q⟩
end
def MW(h:Heap)(H:Hp):List Addr:=(List.range h.objs.size).filter fun a=>(H a).isSome
def tR(h:Heap)(H:Hp):Heap:=W.hideAll h (MW h H)
theorem Bk(h:Heap)(H:Hp):(tR h H).objs.size=h.objs.size:=W.hideAll_size _ _
theorem Ef{h:Heap}{H:Hp}{b:Addr}{o:Obj}(e:h.get? b=some o)(n:H b=none):(tR h H).get? b=some o:=
 W.hideAll_get _ e fun hm=>by
  have q:(H b).isSome=true:=(OE.mp hm).2;rw[n]at q;simp at q
theorem Gx{h:Heap}{H:Hp}{b:Addr}{o:Obj}(e:(tR h H).get? b=some o):h.get? b=some o/\H b=none:=by
 have e':h.get? b=some o:=W.of_hideAll (MW h H) e;refine⟨e',?_⟩;cases q:H b with
 |none=>rfl
 |some x=>
  have hm:b∈MW h H:=OE.mpr ⟨OF.mpr (OA e'),by simp[q]⟩;have z:(tR h H).get? b=none:=W.hideAll_none (MW h H) hm;rw[z]at e;cases e
end ρ2
variable{H:ρ2.Hp}{vs:List ρ2.V}{v:ρ2.V}{H0:ρ2.Hp}{y:ρ2.V}
namespace ρ2
open PySem PySem.Spec PyProof.Rows
structure Mod(K:W.Frag)(mg:Str->Option Value)(base:Heap):Prop where
 kin:K.In base
 glob:base.Ns mainGlobals mg
 blt:∃mb,base.Ns builtinsNs mb/\∀x:Str,x ≠ "__name__" -> mb x=bootBuiltins x
 nolimit:base.NoLimit
structure Cx where
 prog:Program
 w:World
 K:W.Frag
 mg:Str->Option Value
 base:Heap
 A:Around
 N:List Str
 s₀:Shared
 H₀:Hp
 env:Env
 outer:List Env
 stack:List Env
 ex:List Addr
 fn:Str->Bool
 calm:Bool
 pn:List 2e9
 xe:Value->Shared->Prop
def mz(l:List Env):List Addr:=l.filterMap (·.frame)
abbrev Cx.fs(X:Cx):List Addr:=mz X.outer
def xH(sc:Scope)(x:Str):Prop:=sc.names.lookup x=some .local\/sc.names.lookup x=some .cell\/sc.names.lookup x=some .free
def Ag(sc:Scope)(x:Str):Prop:=sc.names.lookup x=some .local\/sc.names.lookup x=some .cell
def N0(env:Env)(h:Heap)(m:Str->Option Value)(x:Str)(u:Value):Prop:=
 (env.kindOf x=some .local/\m x=some u)\/((env.kindOf x=some .cell\/env.kindOf x=some .free)/\∃c,env.cells.lookup x=some c/\h.IsCell c (some u))
structure Cx.Ok(X:Cx):Prop where
 mod:Mod X.K X.mg X.base
 kind:X.env.scope.kind=.function
 glob:X.env.globals=mainGlobals
 blt:X.env.builtins=builtinsNs
 above:X.s₀.heap.objs.size<=X.env.locals
 inj:∀x y c,X.env.cells.lookup x=some c->X.env.cells.lookup y=some c->x=y
 has:∀x,(X.env.kindOf x=some .cell\/X.env.kindOf x=some .free)->∃c,X.env.cells.lookup x=some c
 cab:∀x c,X.fn x=true->X.env.cells.lookup x=some c->X.s₀.heap.objs.size<=c
 hd:X.calm=true->X.A.handled=none
 frames:X.A.frames=some X.stack
 stk:X.stack=X.outer\/(X.stack=X.env::X.outer/\X.env.frame=some X.env.locals)
 exf:∀b∈X.ex,b≠X.env.locals/\∀x c,X.env.cells.lookup x=some c->c≠b
 bs:∀b o,X.base.get? b=some o->X.s₀.heap.get? b=some o/\X.H₀ b=none
 bsz:X.base.objs.size<=X.s₀.heap.objs.size
 noex:∀b o,X.base.get? b=some o->b∉X.ex
 exfs:∀b∈X.ex,b∉X.fs
 funs:X.s₀.heap.FunFrames X.base X.outer
 frf:∀b∈X.fs,X.H₀ b=none
structure aS(X:Cx)(pins:List 2e9)(B:List (Option V))(H:Hp)(s:Shared):Prop where
 ok:X.Ok
 os:s.os=X.s₀.os
 bare:AllBare s.gens
 base:Un X.fs X.ex X.H₀ H X.s₀.heap 1e5
 loc:∃m,s.heap.Ns X.env.locals m/\∀(i:Nat)(x:Str)(v:V),X.N[i]?=some x->B[i]?=some (some v)->xH X.env.scope x->∃u,bG v u/\N0 1e2 1e5 m x u
 cell:∀x c,X.env.cells.lookup x=some c->∃v,s.heap.IsCell c v
 free:H X.env.locals=none
 freeC:∀x c,X.env.cells.lookup x=some c->H c=none
 pin:∀p∈X.pn++pins,s.heap.get? p.1=some p.2/\H p.1=none/\p.1≠X.env.locals/\p.1∉X.fs/\∀v,p.2.data≠.cell v
 hok:nA X.prog X.w H 1e5
 len:B.length=X.N.length
section
variable{X:Cx}{B:List (Option V)}{H':Hp}
theorem Cx.Ok.nofr(ok:X.Ok){b:Addr}{o:Obj}(e:X.base.get? b=some o):b∉X.fs:=fun hb=>by
 have:=(ok.funs.mem hb).1;rw[e]at this;cases this
theorem aS.bs(I:aS X pins B H s):∀b o,X.base.get? b=some o->s.heap.get? b=some o/\H b=none:=fun b o e=>
 ⟨I.base.keep b o (I.ok.bs b o e).1 (I.ok.bs b o e).2 (I.ok.nofr e) (I.ok.noex b o e),I.base.free b o (I.ok.bs b o e).1 (I.ok.bs b o e).2 (I.ok.noex b o e)⟩
theorem aS.bk(I:aS X pins B H s):∀b o,X.base.get? b=some o->s.heap.get? b=some o:=fun b o e=>(I.bs b o e).1
theorem aS.mod(I:aS X pins B H s):Mod X.K X.mg X.base:=I.ok.mod
theorem aS.kIn(I:aS X pins B H s):X.K.In 1e5:=I.ok.mod.kin.keeps I.bk
theorem aS.lt(I:aS X pins B H s):X.env.locals<s.heap.objs.size:=let ⟨_,hn,_⟩:=I.loc;hn.lt
theorem aS.sz(I:aS X pins B H s):X.s₀.heap.objs.size<=s.heap.objs.size:=OG I.ok.above (OH I.lt)
theorem aS.nofs(I:aS X pins B H s)(h:s.heap.objs.size<=a):a∉X.fs:=fun hb=>by
 obtain⟨_,o,ho,_⟩:=I.ok.funs.mem hb;exact absurd (OB (OA ho) (OG I.sz h)) (OC _)
theorem aS.cne(I:aS X pins B H s):∀x c,X.env.cells.lookup x=some c->c≠X.env.locals:=fun x c e z=>by
 obtain⟨v,o,ho,hd⟩:=I.cell x c e;obtain⟨m,⟨o',es,ep,ho',hd',_⟩,_⟩:=I.loc;rw[z,ho']at ho;cases ho;rw[hd']at hd;cases hd
theorem aS.funs(I:aS X pins B H s):s.heap.FunFrames X.base X.outer:=by
 have all:∀(l:List Env),(∀b∈mz l,b∈X.fs)->X.s₀.heap.FunFrames X.base l->s.heap.FunFrames X.base l:=by
  intro l
  induction l with
  |nil=>intro _ _;trivial
  |cons env r ih=>
   intro hs hl;obtain⟨hk,⟨ρ,o,hf,hn,ho,hd⟩,hr⟩:=hl;have hL:ρ∈X.fs:=hs ρ (by unfold mz;rw[OI,hf];exact OJ);obtain⟨sl,e⟩:=I.base.slot ρ o ho (I.ok.frf ρ hL) hL fun z=>I.ok.exfs ρ z hL;exact⟨hk,⟨ρ,_,hf,hn,e,hd⟩,ih (fun b hb=>hs b (by unfold mz;rw[OI,hf];exact OK _ hb)) hr⟩
 exact all X.outer (fun _ hb=>hb) I.ok.funs
theorem aS.stack(I:aS X pins B H s):s.heap.FunFrames X.base X.stack:=by
 rcases I.ok.stk with e|⟨e,hf⟩
 ·rw[e];exact I.funs
 ·rw[e];obtain⟨m,hn,_⟩:=I.loc;refine .cons (by rw[I.ok.kind];decide) hf hn ?_ I.funs;exact OL (OG I.ok.bsz I.ok.above)
theorem aS.stkSub(I:aS X pins B H s):∀b∈mz X.stack,b∈X.env.locals::X.fs:=fun b hb=>by
 rcases I.ok.stk with e|⟨e,hf⟩
 ·rw[e]at hb;exact OK _ hb
 ·rw[e]at hb;unfold mz at hb;rw[OI,hf]at hb;exact hb
theorem aS.stkFree(I:aS X pins B H s):∀b∈mz X.stack,H b=none:=fun b hb=>by
 rcases OM.mp (I.stkSub b hb) with e|hb
 ·rw[e];exact I.free
 ·obtain⟨_,o,ho,_⟩:=I.ok.funs.mem hb;exact I.base.free b o ho (I.ok.frf b hb) fun z=>I.ok.exfs b z hb
theorem aS.step{d':Drawn}(I:aS X pins B H s)(hch:∀b∈ch,(b∈X.ex\/X.s₀.heap.objs.size<=b)/\b≠X.env.locals/\(∀x c,X.env.cells.lookup x=some c->c≠b)/\∀p∈X.pn++pins,p.1≠b)(keep:∀b o,b≠X.env.locals->b∉X.fs->b∉ch->s.heap.get? b=some o->H b=none->h'.get? b=some o)(slot:∀b o,b≠X.env.locals->b∈X.fs->b∉ch->s.heap.get? b=some o->H b=none->∃sl,h'.get? b=some {o with slots:=sl})(free:∀b o,b∉ch->s.heap.get? b=some o->H b=none->H' b=none)(there:∀b o,b∉ch->s.heap.get? b=some o->∃o',h'.get? b=some o')(tups:∀b xs,H b=some (.tup xs)->H' b=some (.tup xs))(frzs:∀b o u,H b=some (.frz o u)->H' b=some (.frz o u))(tbls:∀b ps,H b=some (.tbl ps)->∃more,H' b=some (.tbl (ps++more)))(ns:∀m,s.heap.Ns X.env.locals m->h'.Ns X.env.locals m)(hok:nA X.prog X.w H' h')(hg:AllBare g'):
  aS X pins B H' {s with heap:=h',gens:=g',drawn:=d',toks:=t'}:=by
 have neL:∀b o,X.s₀.heap.get? b=some o->b≠X.env.locals:=fun b o e=>OD (OB (OA e) I.ok.above)
 have neC:∀b o,X.s₀.heap.get? b=some o->b∉X.ex->b∉ch:=fun b o e hx hb=>by
  rcases (hch b hb).1 with z|z
  ·exact hx z
  ·exact absurd (OB (OA e) z) (OC _)
 have cellK:∀x c,X.env.cells.lookup x=some c->∀v,s.heap.IsCell c v->h'.IsCell c v:=fun x c e v ⟨o,ho,hd⟩=>by
  have nch:c∉ch:=fun z=>(hch c z).2.2.1 x c e rfl;by_cases hc:c∈X.fs
  ·obtain⟨sl,q⟩:=slot c o (I.cne x c e) hc nch ho (I.freeC x c e);exact⟨_,q,hd⟩
  ·exact⟨o,keep c o (I.cne x c e) hc nch ho (I.freeC x c e),hd⟩
 refine⟨I.ok,I.os,hg,⟨fun b o e n hb hx=>?_,fun b o e n hb hx=>?_,fun b o e n hx=>?_,fun b o e hx=>?_,fun b xs e=>tups b xs (I.base.tups b xs e),fun b o xs e=>frzs b o xs (I.base.frzs b o xs e),fun b ps e=>?_⟩,?_,fun x c e=>?_,?_,fun x c e=>?_,fun p hp=>?_,hok,I.len⟩
 ·exact keep b o (neL b o e) hb (neC b o e hx) (I.base.keep b o e n hb hx) (I.base.free b o e n hx)
 ·obtain⟨sl,e1⟩:=I.base.slot b o e n hb hx;obtain⟨sl',e2⟩:=slot b _ (neL b o e) hb (neC b o e hx) e1 (I.base.free b o e n hx);exact⟨sl',e2⟩
 ·obtain⟨o',e1⟩:=I.base.there b o e hx;exact free b o' (neC b o e hx) e1 (I.base.free b o e n hx)
 ·obtain⟨o',e1⟩:=I.base.there b o e hx;exact there b o' (neC b o e hx) e1
 ·obtain⟨m1,e1⟩:=I.base.tbls b ps e;obtain⟨m2,e2⟩:=tbls b _ e1;exact⟨m1++m2,by rw[e2,Array.append_assoc]⟩
 ·obtain ⟨m, hn, hl⟩ := I.loc;refine⟨m,ns m hn,fun i x v e1 e2 e3=>?_⟩;obtain⟨u,r,l⟩:=hl i x v e1 e2 e3;refine⟨u,r,?_⟩;rcases l with l|⟨k,c,e,z⟩
  ·exact .inl l
  ·exact .inr ⟨k,c,e,cellK x c e _ z⟩
 ·obtain⟨v,z⟩:=I.cell x c e;exact⟨v,cellK x c e v z⟩
 ·obtain⟨m,⟨o,_,_,ho,_⟩,_⟩:=I.loc;exact free _ o (fun z=>(hch _ z).2.1 rfl) ho I.free
 ·obtain⟨v,o,ho,hd⟩:=I.cell x c e;exact free c o (fun z=>(hch c z).2.2.1 x c e rfl) ho (I.freeC x c e)
 ·obtain⟨e,n,ne,nf,d⟩:=I.pin p hp;have nch:p.1∉ch:=fun z=>(hch p.1 z).2.2.2 p hp rfl;exact⟨keep p.1 p.2 ne nf nch e n,free p.1 p.2 nch e n,ne,nf,d⟩
theorem aS.un(I:aS X pins B H s)(u:Un X.fs [] H H' 1e5 h')(hok:nA X.prog X.w H' h'):aS X pins B H' {s with heap:=h',toks:=t'}:=by
 obtain⟨m,⟨o,es,ep,ho,r⟩,_⟩:=id I.loc;obtain⟨sl,hL⟩:=u.any ho I.free 1e1
 exact I.step (g':=s.gens) (d':=s.drawn) (ch:=[]) (fun _ z=>nomatch z) (fun b o _ hb _ e n=>u.keep b o e n hb 1e1) (fun b o _ hb _ e n=>u.slot b o e n hb 1e1) (fun b o _ e n=>u.free b o e n 1e1) (fun b o _ e=>u.there b o e 1e1) u.tups u.frzs u.tbls (fun m' hm=>by
  obtain⟨o',es',ep',ho',r'⟩:=hm;rw[ho]at ho';cases ho'
  exact⟨_,es',ep',hL,r'⟩) hok I.bare
theorem aS.call{d':Drawn}(I:aS X pins B H s)(u:Un (mz X.stack) ch H H' 1e5 h')(hok:nA X.prog X.w H' h')(hg:AllBare g')(hch:∀b∈ch,(b∈X.ex\/X.s₀.heap.objs.size<=b)/\b≠X.env.locals/\(∀x c,X.env.cells.lookup x=some c->c≠b)/\∀p∈X.pn++pins,p.1≠b):
  aS X pins B H' {s with heap:=h',gens:=g',drawn:=d',toks:=t'}:=by
 obtain⟨m,⟨o,es,ep,ho,r⟩,_⟩:=id I.loc;obtain⟨sl,hL⟩:=u.any ho I.free fun z=>(hch _ z).2.1 rfl
 exact I.step (ch:=ch) hch (fun b o hL hb hc e n=>u.keep b o e n (fun z=>(OM.mp (I.stkSub b z)).elim hL hb) hc) (fun b o _ _ hc e n=>u.any e n hc) (fun b o hc e n=>u.free b o e n hc) (fun b o hc e=>u.there b o e hc) u.tups u.frzs u.tbls (fun m' hm=>by
  obtain⟨o',es',ep',ho',r'⟩:=hm;rw[ho]at ho';cases ho'
  exact⟨_,es',ep',hL,r'⟩) hok hg
theorem aS.turned(I:aS X pins B H s)(k:∀b o,b≠it->s.heap.get? b=some o->h'.get? b=some o)(hn:H it=none)(hL:it≠X.env.locals)(h1:it∈X.ex\/X.s₀.heap.objs.size<=it)(h2:∀x c,X.env.cells.lookup x=some c->c≠it)(h3:∀p∈X.pn++pins,p.1≠it):aS X pins B H {s with heap:=h',toks:=t'}:=by
 have nit:∀b u,H b=some u->b≠it:=fun b u e z=>by rw[z,hn]at e;cases e
 refine I.step (g':=s.gens) (d':=s.drawn) (ch:=[it]) (fun b hb=>?_) (fun b o _ _ hc e _=>k b o (fun z=>hc (by simp[z])) e) (fun b o _ _ hc e _=>⟨o.slots,k b o (fun z=>hc (by simp[z])) e⟩) (fun _ _ _ _ n=>n)
  (fun b o hc e=>⟨o,k b o (fun z=>hc (by simp[z])) e⟩) (fun _ _ e=>e) (fun _ _ _ e=>e) (fun b ps e=>⟨#[],by rw[e];simp⟩) (fun m hm=>?_) (fun b u e=>?_) I.bare
 ·have e : b = it := by simpa using hb
  subst e;exact⟨h1,hL,h2,h3⟩
 ·obtain⟨o,es,ep,ho,r⟩:=hm;exact⟨o,es,ep,k _ o (ON hL) ho,r⟩
 ·refine (I.hok b u e).stay (fun c v hc q => k c v ?_ q) (fun _ q => q) fun _ _ q => q;rcases hc with z|z
  ·rw[z];exact nit b u e
  ·exact nit c _ z
theorem aS.tok(I:aS X pins B H s)(t:Nat):aS X pins B H {s with toks:=t}:=I.un (h':=1e5) (t':=t) Un.refl I.hok
theorem aS.kept(I:aS X pins B H s)(k:∀b u,s.heap.get? b=some u->h'.get? b=some u):aS X pins B H {s with heap:=h',toks:=t'}:=I.un (Un.kept k) (I.hok.kept k)
theorem aS.laid{o:HO}(I:aS X pins B H s)(k:∀b u,s.heap.get? b=some u->h'.get? b=some u)(hp:s.heap.objs.size<=a)(new:cf X.prog X.w (bq H a o) h' a o):
  aS X pins B (bq H a o) {s with heap:=h',toks:=t'}:=I.un (Un.laid k hp (I.hok.fresh hp)) (I.hok.laid k hp new)
theorem aS.write{x e:Addr}{o:HO}(I:aS X pins B H s)(mu:Nf (H x))(he:e=x\/H e=some (.own x))(k:∀b u,b≠e->s.heap.get? b=some u->h'.get? b=some u)(heo:∃u,h'.get? e=some u)(new:cf X.prog X.w (bq H x o) h' x o):aS X pins B (bq H x o) {s with heap:=h',toks:=t'}:=I.un (Un.write mu he k heo) (I.hok.write mu he k heo new)
theorem aS.pins_of{pins':List 2e9}(I:aS X pins B H s)(h:∀p∈pins',s.heap.get? p.1=some p.2/\H p.1=none/\p.1≠X.env.locals/\p.1∉X.fs/\∀v,p.2.data≠.cell v):aS X pins' B H s:=
 ⟨I.ok,I.os,I.bare,I.base,I.loc,I.cell,I.free,I.freeC,fun p hp=>(OO.mp hp).elim (fun z=>I.pin p (OP _ z)) (h p),I.hok,I.len⟩
theorem wx(hN:N.Nodup)(a:N[i]?=some x)(b:N[j]?=some x):i=j:=by
 obtain⟨h1,e1⟩:=OQ.mp a;obtain⟨h2,e2⟩:=OQ.mp b;exact(OR hN).mp (e1.trans e2.symm)
theorem sH{M:Model}{Q:Unit->Shared->Prop}(I:aS X pins B H s)(hN:X.N.Nodup)(hi:X.N[i]?=some x)(hx:Ag X.env.scope x)(r:bG v u)(h:∀s',aS X pins (B.set i (some v)) H s'->(∃a,Heap.SameBut a 1e5 s'.heap/\(a=X.env.locals\/X.env.cells.lookup x=some a))->Q () s')(hf:X.fn x=true\/X.env.scope.names.lookup x=some .local:=by first|exact .inl rfl|exact .inr rfl|assumption):wpAny M A (storeName 1e2 x u) Q E s:=by
 obtain⟨m,hn,hl⟩:=id I.loc;have hcls:(X.env.scope.kind == .class || (X.env.scope.kind == .module&&X.env.locals != X.env.globals))=false:=by rw[I.ok.kind];rfl
 have hiσ:i<B.length:=by rw[I.len];exact(OQ.mp hi).1
 have cne:=I.cne
 have tracked:∀{a:Addr}{h':Heap},(∃o,s.heap.get? a=some o/\H a=none)->Heap.SameBut a 1e5 h'->nA X.prog X.w H h':=fun {a h'} ha hs b ob e=>by
  obtain⟨_,_,hfree⟩:=ha;refine(I.hok b ob e).stay (fun c w' hc q=>(hs.2 c ?_).trans q) (fun _ q=>q) fun _ _ q=>q
  rintro rfl
  rcases hc with rfl|hc
  ·rw[hfree]at e;cases e
  ·rw[hfree]at hc;cases hc
 rcases hx with hk|hk
 ·refine wpAny_storeName_local hk hn (fun h' hn' hs => ?_) hcls;obtain⟨oL,_,_,hoL,_⟩:=id hn;refine h _ ⟨I.ok,I.os,I.bare,⟨fun b o e n hb hx=>?_,fun b o e n hb hx=>?_,I.base.free,fun b o e hx=>?_,I.base.tups,I.base.frzs,I.base.tbls⟩,⟨_,hn',fun j y v' e1 e2 e3=>?_⟩,fun y c e=>?_,I.free,I.freeC,fun p hp=>?_,tracked ⟨oL,hoL,I.free⟩ hs,by simpa using I.len⟩ ⟨_,hs,.inl rfl⟩
  ·exact(hs.2 b (OD (OB (OA e) I.ok.above))).trans (I.base.keep b o e n hb hx)
  ·obtain⟨sl,e1⟩:=I.base.slot b o e n hb hx;exact⟨sl,(hs.2 b (OD (OB (OA e) I.ok.above))).trans e1⟩
  ·obtain⟨o',e1⟩:=I.base.there b o e hx;exact⟨o',(hs.2 b (OD (OB (OA e) I.ok.above))).trans e1⟩
  ·by_cases hj : j = i
   ·subst hj;rw[hi]at e1;cases e1;rw[OS hiσ]at e2;cases e2;exact⟨u,r,.inl ⟨hk,by simp⟩⟩
   ·rw [OT (ON hj)] at e2;obtain⟨u',r',q⟩:=hl j y v' e1 e2 e3;refine⟨u',r',?_⟩;rcases q with⟨k,e⟩|⟨k,c,e,z⟩
    ·refine .inl ⟨k,?_⟩;have:y≠x:=fun e=>hj (wx hN e1 (e ▸ hi));simp[this,e]
    ·exact .inr ⟨k,c,e,z.sameBut hs (cne y c e)⟩
  ·obtain⟨w',z⟩:=I.cell y c e;exact⟨w',z.sameBut hs (cne y c e)⟩
  ·obtain⟨e,n,ne,nf,d⟩:=I.pin p hp;exact⟨(hs.2 p.1 ne).trans e,n,ne,nf,d⟩
 ·have hfn:X.fn x=true:=by
   rcases hf with z|z
   ·exact z
   ·rw[z]at hk;cases hk
  obtain⟨c,hc⟩:=I.ok.has x (.inl hk);obtain⟨w',z⟩:=I.cell x c hc;refine wpAny_storeName_cell I.ok.kind hk hc z (fun h' hc' hs=>?_);obtain⟨oc,hoc,hocd⟩:=id z;refine h {s with heap:=h'} ⟨I.ok,I.os,I.bare,⟨fun b o e n hb hx=>?_,fun b o e n hb hx=>?_,I.base.free,fun b o e hx=>?_,I.base.tups,I.base.frzs,I.base.tbls⟩,⟨m,hn.sameBut hs (ON (cne x c hc)),fun j y v' e1 e2 e3=>?_⟩,fun y c' e=>?_,I.free,I.freeC,fun p hp=>?_,tracked ⟨oc,hoc,I.freeC x c hc⟩ hs,by simpa using I.len⟩ ⟨c,hs,.inr hc⟩
  ·exact(hs.2 b (OD (OB (OA e) (I.ok.cab x c hfn hc)))).trans (I.base.keep b o e n hb hx)
  ·obtain⟨sl,e1⟩:=I.base.slot b o e n hb hx;exact⟨sl,(hs.2 b (OD (OB (OA e) (I.ok.cab x c hfn hc)))).trans e1⟩
  ·obtain⟨o',e1⟩:=I.base.there b o e hx;exact⟨o',(hs.2 b (OD (OB (OA e) (I.ok.cab x c hfn hc)))).trans e1⟩
  ·by_cases hj : j = i
   ·subst hj;rw[hi]at e1;cases e1;rw[OS hiσ]at e2;cases e2;exact⟨u,r,.inr ⟨.inl hk,c,hc,hc'⟩⟩
   ·rw [OT (ON hj)] at e2;obtain⟨u',r',q⟩:=hl j y v' e1 e2 e3;refine⟨u',r',?_⟩;rcases q with q|⟨k,c',e,z'⟩
    ·exact .inl q
    ·refine .inr ⟨k, c', e, z'.sameBut hs ?_⟩
     rintro rfl
     exact hj (wx hN e1 (I.ok.inj _ _ _ e hc ▸ hi))
  ·by_cases hcc : c' = c
   ·subst hcc;exact⟨_,hc'⟩
   ·obtain⟨w2,z2⟩:=I.cell y c' e;exact⟨w2,z2.sameBut hs hcc⟩
  ·obtain⟨e,n,ne,nf,d⟩:=I.pin p hp;refine⟨(hs.2 p.1 ?_).trans e,n,ne,nf,d⟩;intro q;rw[q,hoc]at e;have q':oc=p.2:=Oq e;exact d w' (by rw[<- q'];exact hocd)
theorem mW{M:Model}{Q:Unit->Shared->Prop}(I:aS X pins B H s)(hN:X.N.Nodup)(hi:X.N[i]?=some x)(hx:Ag X.env.scope x)(r:bG v u)(h:∀s',aS X pins (B.set i (some v)) H s'->Q () s')(hf:X.fn x=true\/X.env.scope.names.lookup x=some .local:=by first|exact .inl rfl|exact .inr rfl|assumption):wpAny M A (storeName 1e2 x u) Q E s:=
 sH I hN hi hx r (fun s' I' _=>h s' I') hf
theorem aS.call'(I:aS X pins B H s)(ho:s'.os=s.os)(u:Un (mz X.stack) ch H H' 1e5 s'.heap)(hok:nA X.prog X.w H' s'.heap)(hg:AllBare s'.gens)(hch:∀b∈ch,(b∈X.ex\/X.s₀.heap.objs.size<=b)/\b≠X.env.locals/\(∀x c,X.env.cells.lookup x=some c->c≠b)/\∀p∈X.pn++pins,p.1≠b):aS X pins B H' s':=by
 obtain⟨h',g',d',t',o'⟩:=s';have e:o'=s.os:=ho;subst e;exact I.call (g':=g') (t':=t') (d':=d') u hok hg hch
end
abbrev XK:=Value->Option Addr->Hp->Prop
abbrev St:=List (Option V)
abbrev VK:=V->Hp->Prop
abbrev TE:=St->Hp->VK->Prop
abbrev TT:=St->Hp->(Bool->Hp->Prop)->Prop
abbrev TA:=St->Hp->(List V->Hp->Prop)->Prop
structure nF where
 nx:St->Hp->Prop
 rt:VK
 bk:St->Hp->Prop:=fun _ _=>False
 ct:St->Hp->Prop:=fun _ _=>False
abbrev TS:=nF->St->Hp->Prop
def EP(X:Cx)(pins:List 2e9)(B:St)(Q:VK)(u:Value)(s':Shared):Prop:=∃v H',aS X pins B H' s'/\bG v u/\Q v H'
def TP(X:Cx)(pins:List 2e9)(B:St)(Q:Bool->Hp->Prop)(b:Bool)(s':Shared):Prop:=∃H',aS X pins B H' s'/\Q b H'
def AP(X:Cx)(pins:List 2e9)(B:St)(Q:List V->Hp->Prop)(us:List Value)(s':Shared):Prop:=∃vs H',aS X pins B H' s'/\ba vs us/\Q vs H'
def SP(X:Cx)(pins:List 2e9)(D:nF)(f:Flow)(s':Shared):Prop:=
 match f with
 |.next=>∃B' H',aS X pins B' H' s'/\D.nx B' H'
 |.brk=>∃B' H',aS X pins B' H' s'/\D.bk B' H'
 |.cont=>∃B' H',aS X pins B' H' s'/\D.ct B' H'
 |.ret u=>∃v B' H',aS X pins B' H' s'/\bG v u/\D.rt v H'
def PE(X:Cx)(e:Expr)(t:TE):Prop:=
 ∀(pins:List 2e9)(s:Shared)(B:St)(H:Hp)(Q:VK),aS X pins B H s->t B H Q->wpAny 0e7 X.A (eval e 1e2) (EP X pins B Q) X.xe s
def PT(X:Cx)(e:Expr)(t:TT):Prop:=
 ∀(pins:List 2e9)(s:Shared)(B:St)(H:Hp)(Q:Bool->Hp->Prop),aS X pins B H s->t B H Q->wpAny 0e7 X.A (isTrue e 1e2 (eval e 1e2)) (TP X pins B Q) X.xe s
def PW(X:Cx)(e:Expr)(t:TT):Prop:=
 ∀(whole:Sem Value)(pins:List 2e9)(s:Shared)(B:St)(H:Hp)(Q:Bool->Hp->Prop),aS X pins B H s->t B H Q->wpAny 0e7 X.A (isTrue e 1e2 whole) (TP X pins B Q) X.xe s
theorem PW.pt{X:Cx}{t:TT}(h:PW X e t):PT X e t:=h _
def PA(X:Cx)(es:List Expr)(t:TA):Prop:=
 ∀(pos:Pos)(pins:List 2e9)(s:Shared)(B:St)(H:Hp)(Q:List V->Hp->Prop),aS X pins B H s->t B H Q->wpAny 0e7 X.A (spliced (backTo pos (starEach es 1e2))) (AP X pins B Q) X.xe s
def PS(X:Cx)(st:Stmt)(t:TS):Prop:=
 ∀(pins:List 2e9)(s:Shared)(B:St)(H:Hp)(D:nF),aS X pins B H s->t D B H->wpAny 0e7 X.A (exec st 1e2) (SP X pins D) X.xe s
def ja(X:Cx)(st:List Stmt)(t:TS):Prop:=
 ∀(pins:List 2e9)(s:Shared)(B:St)(H:Hp)(D:nF),aS X pins B H s->t D B H->wpAny 0e7 X.A (execs st 1e2) (SP X pins D) X.xe s
theorem dh{Z:Type}{t:Sem Z}{Q Q':Z->Shared->Prop}{M:Model}(h:wpAny M A t Q E s)(hQ:∀a s,Q a s->Q' a s):wpAny M A t Q' E s:=OU h hQ fun _ _ x=>x
end ρ2
variable{B:ρ2.St}{te:ρ2.TE}{ta:ρ2.TE}
namespace ρ2
open PySem PySem.Spec PyProof.Rows
section
variable{X:Cx}
def Ib(i:Nat):TE:=fun B H Q=>∃v,B[i]?=some (some v)/\Q v H
def tC(v:V):TE:=fun _ H Q=>Q v H
theorem kn(hN:X.N[i]?=some x)(hv:xH X.env.scope x)(hd:(x == ("__debug__" : Str))=false:=by decide)(hcd:(x == ("__classdict__" : Str))=false:=by decide):PE X (.Name x pos) (Ib i):=by
 intro pins s B H Q I h;obtain⟨v,e,h⟩:=h;obtain⟨m,hn,hl⟩:=I.loc;obtain⟨u,r,l⟩:=hl i x v hN e hv;have fin:EP X pins B Q u s:=⟨v,H,I,r,h⟩;rcases l with⟨hk,hm⟩|⟨hk,c,hc,hcell⟩
 ·exact wpAny_Name (wpAny_loadName_local I.ok.kind hk hn hm fin) hd
 ·rcases hk with hk | hk
  ·exact wpAny_Name (wpAny_loadName_cell I.ok.kind hk hc hcell fin) hd
  ·exact wpAny_Name (wpAny_loadName_free I.ok.kind hk hc hcell fin hcd) hd
theorem JC{i j pos}:PE X (.Constant (.int i) j pos) (tC (.int i)):=fun _ _ _ H _ I h=>wpAny_Constant_int ⟨.int i,H,I.tok _,⟨_,rfl⟩,h⟩
theorem Mo{b j pos}:PE X (.Constant (.bool b) j pos) (tC (.bl b)):=fun _ _ _ H _ I h=>Constant_bool ⟨.bl b,H,I,rfl,h⟩
theorem JB{j pos}:PE X (.Constant .none j pos) (tC .non):=fun _ _ _ H _ I h=>Constant_none ⟨.non,H,I,rfl,h⟩
theorem Jy{x j pos}:PE X (.Constant (.str x) j pos) (tC (.str x)):=fun _ _ _ H _ I h=>Calls.Constant_str ⟨.str x,H,I.tok _,⟨_,rfl⟩,h⟩
def Gl(X:Cx)(x:Str):Prop:=X.env.kindOf x=some .globalImplicit
theorem jH(I:aS X pins B H s)(hg:Gl X x)(hm:X.mg x=some u)(h:Q u s)(hd:(x == ("__debug__" : Str))=false:=by decide):wpAny 0e7 X.A (eval (.Name x pos) 1e2) Q E s:=
 Calls.Name_function_global I.ok.kind hg (Calls.loadGlobal_global (by rw[I.ok.glob];exact I.mod.glob.keeps I.bk) hm h) hd
theorem l6(I:aS X pins B H s)(hg:Gl X x)(hm:X.mg x=none)(hv:bootBuiltins x=some u)(h:Q u s)(hn:x ≠ "__name__" := by decide)(hd:(x == ("__debug__" : Str))=false:=by decide):wpAny 0e7 X.A (eval (.Name x pos) 1e2) Q E s:=by
 obtain⟨mb,h1,h2⟩:=I.mod.blt;exact Calls.Name_function_global I.ok.kind hg (Calls.loadGlobal_builtin (by rw[I.ok.glob];exact I.mod.glob.keeps I.bk) hm (by rw[I.ok.blt];exact h1.keeps I.bk) ((h2 x hn).trans hv) h) hd
theorem uu(hg:Gl X x)(hm:X.mg x=some u)(r:bG v u)(hd:(x == ("__debug__" : Str))=false:=by decide):PE X (.Name x pos) (tC v):=
 fun _ _ _ H _ I h=>jH I hg hm ⟨v,H,I,r,h⟩ hd
theorem zG(hg:Gl X x)(hm:X.mg x=none)(hv:bootBuiltins x=some u)(r:bG v u)(hn:x ≠ "__name__" := by decide)(hd:(x == ("__debug__" : Str))=false:=by decide):PE X (.Name x pos) (tC v):=
 fun _ _ _ H _ I h=>l6 I hg hm hv ⟨v,H,I,r,h⟩ hn hd
variable{a b:Expr}{tb:TE}
variable{tA tB':TT}
def NI(t u:TT):TT:=fun B H Q=>t B H fun c H1=>if c=true then u B H1 Q else Q false H1
def Oe(t u:TT):TT:=fun B H Q=>t B H fun c H1=>if c=true then Q true H1 else u B H1 Q
def NC(t:TT):TT:=fun B H Q=>t B H fun c H1=>Q (!c) H1
theorem FU(ha:PT X a tA):PW X (.BoolOp .And [a] pos) tA:=by
 intro wh pins s B H Q I h;refine isTrue_and (dh (ha pins s B H Q I h) fun c s1 e=>?_);cases c with
 |true=>exact isTrue_and_nil e
 |false=>exact e
theorem Jl(ha:PT X a tA):PW X (.BoolOp .Or [a] pos) tA:=by
 intro wh pins s B H Q I h;refine isTrue_or (dh (ha pins s B H Q I h) fun c s1 e=>?_);cases c with
 |false=>exact isTrue_or_nil e
 |true=>exact e
theorem Jm(ha:PT X a tA)(hb:PW X (.BoolOp .And (b::rest) pos) tB'):PW X (.BoolOp .And (a::b::rest) pos) (NI tA tB'):=by
 intro wh pins s B H Q I h;refine isTrue_and (dh (ha pins s B H _ I h) fun c s1 ⟨H1,I1,q1⟩=>?_);cases c with
 |true=>exact hb wh pins s1 B H1 Q I1 q1
 |false=>exact⟨H1,I1,q1⟩
theorem Mh(ha:PT X a tA)(hb:PW X (.BoolOp .Or (b::rest) pos) tB'):PW X (.BoolOp .Or (a::b::rest) pos) (Oe tA tB'):=by
 intro wh pins s B H Q I h;refine isTrue_or (dh (ha pins s B H _ I h) fun c s1 ⟨H1,I1,q1⟩=>?_);cases c with
 |true=>exact⟨H1,I1,q1⟩
 |false=>exact hb wh pins s1 B H1 Q I1 q1
theorem Jn(ha:PT X a tA):PT X (.UnaryOp .Not a pos) (NC tA):=by
 intro pins s B H Q I h;exact isTrue_not (ha pins s B H (fun c H1=>Q (!c) H1) I h)
def LY(ta tb:TE):TE:=fun B H Q=>ta B H fun x H1=>∃c,x=.bl c/\if c=true then tb B H1 Q else Q (.bl false) H1
def LR(ta:TE):TE:=fun B H Q=>ta B H fun x H1=>∃c,x=.bl c/\Q (.bl (!c)) H1
theorem Jz{op}{t:TE}(h:PE X a t):PE X (.BoolOp op [a] pos) t:=fun pins s B H Q I hw=>BoolOp_one (h pins s B H Q I hw)
theorem JD(ha:PE X a ta)(hb:PE X (.BoolOp .And (b::rest) pos) tb):PE X (.BoolOp .And (a::b::rest) pos) (LY ta tb):=by
 intro pins s B H Q I h;refine BoolOp_and (dh (ha pins s B H _ I h) fun v s1 ⟨x,H1,I1,r1,q1⟩=>?_);obtain⟨c,rfl,q1⟩:=q1;cases r1;refine OV ?_;cases c with
 |true=>exact hb pins s1 B H1 Q I1 q1
 |false=>exact⟨.bl false,H1,I1,rfl,q1⟩
theorem JA(ha:PE X a ta):PE X (.UnaryOp .Not a pos) (LR ta):=by
 intro pins s B H Q I h;refine UnaryOp_ (dh (ha pins s B H _ I h) fun v s1 ⟨x,H1,I1,r1,q1⟩=>?_);obtain⟨c,rfl,q1⟩:=q1;cases r1;exact not_of (OV ⟨.bl (!c),H1,I1,rfl,q1⟩)
end
def fG(K:W.Frag)(H:Hp)(a:Addr)(xs:List V):Prop:=
 Rd H a 2e6 \/
  ∃(o:Obj) (its:Array Value) (n:Nat),K.lookup a=some o/\o.cls=.type "list" /\ o.dict=none/\o.data=.seq its n/\its.size<=sizeLine/\ba xs its.toList
def eK(K:W.Frag)(H:Hp)(a:Addr)(xs:List V):Prop:=
 Rd H a (.tup xs) \/
  ∃(o:Obj) (its:Array Value) (n:Nat),K.lookup a=some o/\o.cls=.type "tuple" /\ o.dict=none/\o.data=.seq its n/\its.size<=sizeLine/\ba xs its.toList
def NY:Value->Option V
 |.none=>some .non
 |.bool b=>some (.bl b)
 |.int i _=>some (.int i)
 |.str x _=>some (.str x)
 |.bytes b _=>some (.byt b)
 |.float b _=>some (.flt b)
 |.ref a=>some (.ref a)
 |.type n=>some (.ty n)
 |_=>none
theorem bG.abs{x:V}(r:bG x u):NY u=some x:=by
 cases x with
 |non=>cases r;rfl
 |bl _=>cases r;rfl
 |int _=>obtain⟨t,rfl⟩:=r;rfl
 |str _=>obtain⟨t,rfl⟩:=r;rfl
 |byt _=>obtain⟨t,rfl⟩:=r;rfl
 |flt _=>obtain⟨t,rfl⟩:=r;rfl
 |ref _=>cases r;rfl
 |ty _=>cases r;rfl
theorem bG.inj{x:V}(r:bG x u)(q:bG y u):x=y:=Oq (r.abs.symm.trans q.abs)
theorem ba.inj:∀{xs ys:List V}{us:List Value},ba xs us->ba ys us->xs=ys
 |_,_,_,.nil,.nil=>rfl
 |_,_,_,.cons r t,.cons r' t'=>by rw[r.inj r',ba.inj t t']
section
variable{X:Cx}{xs ys:List V}
theorem fG.of(h:H a=some 2e6):fG K H a xs:=.inl (.inl h)
theorem eK.of(h:H a=some (.tup xs)):eK K H a xs:=.inl (.inl h)
theorem aS.list(I:aS X pins B H s)(h:fG X.K H a xs):∃its:List Value,ba xs its/\PlainL 1e5 a 2e3/\xs.length<=sizeLine:=by
 rcases h with h|⟨o,its,n,hk,hc,hd,hs,hz,r⟩
 ·obtain⟨z,its,n,r,e⟩:=h.ok I.hok;exact⟨its,r,⟨_,n,e,rfl,rfl,rfl⟩,z⟩
 ·refine⟨its.toList,r,⟨o,n,I.kIn a o hk,hc,hd,by simpa using hs⟩,?_⟩;have e:=r.length;dsimp[OW]at e;omega
theorem aS.tuple(I:aS X pins B H s)(h:eK X.K H a xs):∃its:List Value,ba xs its/\IsTup 1e5 a 2e3/\xs.length<=sizeLine:=by
 rcases h with h|⟨o,its,n,hk,hc,_,hs,hz,r⟩
 ·obtain⟨z,its,r,p⟩:=h.ok I.hok;exact⟨its,r,p.t,z⟩
 ·refine⟨its.toList,r,⟨o,I.kIn a o hk,hc,n,by simpa using hs⟩,?_⟩;have e:=r.length;dsimp[OW]at e;omega
theorem aS.list_inj(I:aS X pins B H s)(h:fG X.K H a xs)(h':fG X.K H a ys):xs=ys:=by
 obtain⟨its,r,⟨o,n,e,_,_,d⟩,_⟩:=I.list h;obtain⟨its',r',⟨o',n',e',_,_,d'⟩,_⟩:=I.list h';rw[e]at e';cases e';rw[d]at d';injection d' with d1 _
 have:its=its':=by simpa using OX Array.toList d1
 subst this;exact r.inj r'
theorem aS.tuple_inj(I:aS X pins B H s)(h:eK X.K H a xs)(h':eK X.K H a ys):xs=ys:=by
 obtain⟨its,r,⟨o,e,_,n,d⟩,_⟩:=I.tuple h;obtain⟨its',r',⟨o',e',_,n',d'⟩,_⟩:=I.tuple h';rw[e]at e';cases e';rw[d]at d';injection d' with d1 _
 have:its=its':=by simpa using OX Array.toList d1
 subst this;exact r.inj r'
end
abbrev Cx.wish(X:Cx)(E:Value->Shared->Prop):Cx:={X with xe:=E}
abbrev Cx.nox(X:Cx):Cx:=X.wish fun _ _=>False
theorem Cx.Ok.wish{X:Cx}(ok:X.Ok)(E:Value->Shared->Prop):(X.wish E).Ok:=
 ⟨ok.mod,ok.kind,ok.glob,ok.blt,ok.above,ok.inj,ok.has,ok.cab,ok.hd,ok.frames,ok.stk,ok.exf,ok.bs,ok.bsz,ok.noex,ok.exfs,ok.funs,ok.frf⟩
theorem Cx.Ok.unwish{X:Cx}(ok:(X.wish E).Ok):X.Ok:=
 ⟨ok.mod,ok.kind,ok.glob,ok.blt,ok.above,ok.inj,ok.has,ok.cab,ok.hd,ok.frames,ok.stk,ok.exf,ok.bs,ok.bsz,ok.noex,ok.exfs,ok.funs,ok.frf⟩
section
variable{X:Cx}
theorem aS.wish(I:aS X pins B H s)(E:Value->Shared->Prop):aS (X.wish E) pins B H s:=⟨I.ok.wish E,I.os,I.bare,I.base,I.loc,I.cell,I.free,I.freeC,I.pin,I.hok,I.len⟩
theorem aS.unwish(I:aS (X.wish E) pins B H s):aS X pins B H s:=⟨I.ok.unwish,I.os,I.bare,I.base,I.loc,I.cell,I.free,I.freeC,I.pin,I.hok,I.len⟩
theorem SP.unwish{D:nF}{f:Flow}(h:SP (X.wish E) pins D f s'):SP X pins D f s':=by
 cases f with
 |next=>obtain⟨B',H',I,q⟩:=h;exact⟨B',H',I.unwish,q⟩
 |brk=>obtain⟨B',H',I,q⟩:=h;exact⟨B',H',I.unwish,q⟩
 |cont=>obtain⟨B',H',I,q⟩:=h;exact⟨B',H',I.unwish,q⟩
 |ret u=>obtain⟨v,B',H',I,r,q⟩:=h;exact⟨v,B',H',I.unwish,r,q⟩
theorem ja.nox{st:List Stmt}{t:TS}(h:ja X.nox st t):ja X st t:=fun pins s B H D I hw=>
 OU (h pins s B H D (I.wish _) hw) (fun _ _ q=>q.unwish) fun _ _ z=>False.elim z
end
section
variable{X:Cx}{rest:List Stmt}{t u:TS}
def LS:TS:=fun D B H=>D.nx B H
def NA(t u:TS):TS:=fun D B H=>t {D with nx:=u D} B H
theorem FY:ja X [] LS:=fun _ _ B H _ I h=>OY ⟨B,H,I,h⟩
theorem wc(h1:PS X st t)(h2:ja X rest u):ja X (st::rest) (NA t u):=by
 intro pins s B H D I h;refine wpAny_execs_cons (dh (h1 pins s B H {D with nx:=u D} I h) fun f s1 q=>?_);cases f with
 |next=>
  obtain⟨B',H',I',q⟩:=q;exact h2 pins s1 B' H' D I' q
 |ret v=>exact q
 |brk=>exact q
 |cont=>exact q
theorem ur(h1:PS X st t):ja X [st] t:=by
 intro pins s B H D I h;refine wpAny_execs_cons (dh (h1 pins s B H D I h) fun f s1 q=>?_);cases f with
 |next=>exact OY q
 |ret v=>exact q
 |brk=>exact q
 |cont=>exact q
theorem aS.quiet(I:aS X pins B H s):interactive 1e2=false:=by simp[interactive,I.ok.kind]
def LV(te:TE):TS:=fun D B H=>te B H fun _ H1=>D.nx B H1
theorem F2(he:PE X e te)(hs:swapsWith e none pos.line 1e2=pure false:=by rfl):PS X (.Expr e pos) (LV te):=by
 intro pins s B H D I h;exact wpAny_Expr_any (dh (he pins s B H _ I h) fun v s1 ⟨x,H1,I1,r1,q1⟩=>⟨B,H1,I1,q1⟩) I.quiet hs
def NB(te:TE):TS:=fun D B H=>te B H D.rt
theorem Jq(he:PE X e te):PS X (.Return (some e) pos) (NB te):=by
 intro pins s B H D I h;exact wpAny_Return_some (dh (he pins s B H _ I h) fun v s1 ⟨x,H1,I1,r1,q1⟩=>⟨x,B,H1,I1,r1,q1⟩)
def NF(c:TT)(t u:TS):TS:=fun D B H=>c B H fun b H1=>if b=true then t D B H1 else u D B H1
theorem Mi{c:Expr}{a b:List Stmt}{tc:TT}(hc:PT X c tc)(ha:ja X a t)(hb:ja X b u):PS X (.If c a b pos) (NF tc t u):=by
 intro pins s B H D I h;refine wpAny_If (dh (hc pins s B H _ I h) fun d s1 ⟨H1,I1,q1⟩=>?_);cases d with
 |true=>exact ha pins s1 B H1 D I1 q1
 |false=>exact hb pins s1 B H1 D I1 q1
end
abbrev TG:=V->St->Hp->(St->Hp->Prop)->Prop
abbrev EK:=List V->St->Hp->(St->Hp->Prop)->Prop
def PG(X:Cx)(target:Expr)(t:TG):Prop:=
 ∀(pins:List 2e9)(s:Shared)(B:St)(H:Hp)(v:V)(u:Value)(Q:St->Hp->Prop),aS X pins B H s->bG v u->t v B H Q ->
  wpAny 0e7 X.A (assign target 1e2 u) (fun _ s'=>∃B' H',aS X pins B' H' s'/\Q B' H') X.xe s
def xI(X:Cx)(ts:List Expr)(t:EK):Prop:=
 ∀(pins:List 2e9)(s:Shared)(B:St)(H:Hp)(vs:List V)(us:List Value)(Q:St->Hp->Prop),aS X pins B H s->ba vs us->t vs B H Q ->
  wpAny 0e7 X.A (assignInOrder ((assignEach ts 1e2).map (·.2)) us) (fun _ s'=>∃B' H',aS X pins B' H' s'/\Q B' H') X.xe s
abbrev Im:=V->V->V->Hp->(Hp->Prop)->Prop
def LF(X:Cx)(t:Im):Prop:=
 ∀(pins:List 2e9)(s:Shared)(B:St)(H:Hp)(o i v:V)(ov iv u:Value)(Q:Hp->Prop),aS X pins B H s->bG o ov->bG i iv->bG v u->t o i v H Q ->
  wpAny 0e7 X.A (setItem ov iv u) (fun _ s'=>∃H',aS X pins B H' s'/\Q H') X.xe s
abbrev K9:=V->V->Hp->VK->Prop
def Nd(X:Cx)(op:Operator)(t:K9):Prop:=
 ∀(pins:List 2e9)(s:Shared)(B:St)(H:Hp)(x y:V)(v u:Value)(Q:VK),aS X pins B H s->bG x v->bG y u->t x y H Q ->
  wpAny 0e7 X.A (inplaceOp op v u) (EP X pins B Q) X.xe s
section
variable{X:Cx}
def vG(i:Nat):TG:=fun v B H Q=>Q (B.set i (some v)) H
theorem Ga(hN:X.N.Nodup)(hi:X.N[i]?=some x)(hx:Ag X.env.scope x)(hf:X.fn x=true\/X.env.scope.names.lookup x=some .local:=by first|exact .inl rfl|exact .inr rfl|assumption):PG X (.Name x pos) (vG i):=by
 intro pins s B H v u Q I r h;exact wpAny_assign_Name (mW I hN hi hx r (fun s' I'=>⟨_,H,I',h⟩) hf)
def NV:EK:=fun vs B H Q=>vs=[]/\Q B H
def MH(t:TG)(u:EK):EK:=fun vs B H Q=>∃v r,vs=v::r/\t v B H fun B' H'=>u r B' H' Q
theorem F9:xI X [] NV:=by
 intro pins s B H vs us Q I r h;obtain⟨e,h⟩:=h;subst e;cases r;exact assignInOrder_nil ⟨B,H,I,h⟩
theorem DH{es:List Expr}{t:TG}{u:EK}(h1:PG X e t)(h2:xI X es u)(hs:(assignEach (e::es) 1e2).map (·.2)=assign e 1e2::(assignEach es 1e2).map (·.2):=by rfl):xI X (e::es) (MH t u):=by
 intro pins s B H vs us Q I r h;obtain⟨v,vr,e1,h⟩:=h;subst e1;cases r with
 |cons r rr=>
  rw[hs];refine assignInOrder_cons (dh (h1 pins s B H _ _ _ I r h) fun _ s1 ⟨B1,H1,I1,q1⟩=>?_);exact h2 pins s1 B1 H1 _ _ Q I1 rr q1
def NT(K:W.Frag)(n:Nat)(t:EK):TG:=fun v B H Q=>∃a xs,v=.ref a/\eK K H a xs/\xs.length=n/\t xs B H Q
theorem Jv{es:List Expr}{t:EK}(hc:X.calm=true)(h:xI X es t)(hn:(assignEach es 1e2).length=n:=by rfl)(hst:(assignEach es 1e2).findIdx? 2e4=none:=by rfl):PG X (.Tuple es k pos) (NT X.K n t):=by
 intro pins s B H v u Q I r hw;obtain⟨a,xs,e1,hq,hl,hw⟩:=hw;subst e1;cases r;obtain⟨its,rv,ht,hz⟩:=I.tuple hq;refine assign_Tuple_tuple (I.ok.hd hc) ht (by simp[hn,<- hl,rv.length]) hst fun h' hx=>?_;have I1:aS X pins B H {s with heap:=h'}:=I.kept (t':=s.toks) fun b o e=>hx b o (OD (OA e)) e;exact h pins _ B H xs _ Q I1 (by simpa using rv) hw
def NU(to ti:TE)(t:Im):TG:=fun v B H Q=>to B H fun o H1=>ti B H1 fun i H2=>t o i v H2 fun H3=>Q B H3
theorem Jw{o i:Expr}{to ti:TE}{t:Im}(ho:PE X o to)(hi:PE X i ti)(hs:LF X t)
  (ha : ∀ v, assign (.Subscript o i pos) 1e2 v = (do
   let ov <- holding [v] (eval o 1e2)
   let iv <- holding [v,ov] (eval i 1e2)
   standAt pos
   holding [v,ov,iv] (setItem ov iv v)
   release [v,ov,iv] []):=by intro _;rfl):PG X (.Subscript o i pos) (NU to ti t):=by
 intro pins s B H v u Q I r h;rw[ha];refine OZ (O0 (dh (ho pins s B H _ I h) fun ov s1 ⟨x,H1,I1,r1,q1⟩=>?_));refine OZ (O0 (dh (hi pins s1 B H1 _ I1 q1) fun iv s2 ⟨y,H2,I2,r2,q2⟩=>?_));refine OZ (O1 (OZ (O0 (dh (hs pins s2 B H2 x y v ov iv u _ I2 r1 r2 r q2) fun _ s3 ⟨H3,I3,q3⟩=>?_))));exact wpAny_release ⟨B,H3,I3,q3⟩
def BM(te:TE)(g:TG):TS:=fun D B H=>te B H fun x H1=>g x B H1 D.nx
theorem Jt{g:TG}(he:PE X e te)(hg:PG X tg g)(hs:swapsWithSole [tg] e pos.line 1e2=pure false:=by rfl)(hw:swappedStores [tg] e 1e2=pure none:=by rfl)(h1:(assignEach [tg] 1e2).map (·.2)=[assign tg 1e2]:=by rfl):PS X (.Assign [tg] e pos) (BM te g):=by
 intro pins s B H D I h;refine wpAny_Assign_stores (dh (he pins s B H _ I h) fun v s1 ⟨x,H1,I1,r1,q1⟩=>?_) hs hw;rw[h1];exact dh (hg pins s1 B H1 x v _ I1 r1 q1) fun _ s2 q=>q
theorem Jp(hN:X.N.Nodup)(hi:X.N[i]?=some x)(hx:Ag X.env.scope x)(he:PE X e te)(hs:swapsWith e (some (.Name x pos')) pos.line 1e2=pure false:=by rfl)(hf:X.fn x=true\/X.env.scope.names.lookup x=some .local:=by first|exact .inl rfl|exact .inr rfl|assumption):
  PS X (.Assign [.Name x pos'] e pos) (BM te (vG i)):=by
 intro pins s B H D I h;refine wpAny_Assign_Name (dh (he pins s B H _ I h) fun v s1 ⟨y,H1,I1,r1,q1⟩=>?_) hs;exact mW I1 hN hi hx r1 (fun s2 I2=>⟨_,H1,I2,q1⟩) hf
def NH(i:Nat)(te:TE)(ti:K9):TS:=fun D B H=>∃x,B[i]?=some (some x)/\te B H fun y H1=>ti x y H1 fun z H2=>D.nx (B.set i (some z)) H2
theorem Js{op:Operator}{ti:K9}(hN:X.N.Nodup)(hi:X.N[i]?=some x)(hx:Ag X.env.scope x)(he:PE X e te)(ho:Nd X op ti)(hf:X.fn x=true\/X.env.scope.names.lookup x=some .local:=by first|exact .inl rfl|exact .inr rfl|assumption):
  PS X (.AugAssign (.Name x pos') op e pos) (NH i te ti):=by
 intro pins s B H D I h;obtain⟨v,e1,h⟩:=h;obtain⟨m,hn,hl⟩:=I.loc;have vis:xH X.env.scope x:=by rcases hx with k|k;exact .inl k;exact .inr (.inl k)
 obtain⟨u,r,l⟩:=hl i x v hi e1 vis;refine wpAny_AugAssign_Name ?_
 have go:wpAny 0e7 X.A (eval e 1e2) (fun w s₂=>wpAny 0e7 X.A (inplaceOp op u w) (fun r s₃=>wpAny 0e7 X.A (storeName 1e2 x r) (fun _=>SP X pins D .next) X.xe s₃) X.xe s₂) X.xe s:=by
  refine dh (he pins s B H _ I h) fun w s1 ⟨y,H1,I1,r1,q1⟩=>?_;refine dh (ho pins s1 B H1 v y u w _ I1 r r1 q1) fun z s2 ⟨zv,H2,I2,r2,q2⟩=>?_;exact mW I2 hN hi hx r2 (fun s3 I3=>⟨_,H2,I3,q2⟩) hf
 rcases l with⟨hk,hm⟩|⟨hk,c,hc,hcell⟩
 ·exact wpAny_loadName_local I.ok.kind hk hn hm go
 ·rcases hk with hk | hk
  ·exact wpAny_loadName_cell I.ok.kind hk hc hcell go
  ·rcases hx with k | k
   ·have:X.env.scope.names.lookup x=some .free:=hk;rw[k]at this;cases this
   ·have:X.env.scope.names.lookup x=some .free:=hk;rw[k]at this;cases this
def Oi(f:Int->Int->Int):K9:=fun x y H Q=>∃i j,x=.int i/\y=.int j/\Q (.int (f i j)) H
theorem Ko:Nd X .Add (Oi fun i j=>i+j):=by
 intro pins s B H x y v u Q I r1 r2 h;obtain⟨i,j,e1,e2,q⟩:=h;subst e1;subst e2;obtain⟨t,rfl⟩:=r1;obtain⟨t',rfl⟩:=r2;exact iadd_int ⟨.int _,H,I.tok _,⟨_,rfl⟩,q⟩
end
section
variable{X:Cx}
def IE(c:TT)(tb:TS):TS:=fun D B H=>∃W:Nat->St->Hp->Prop,(∃m,W m B H)/\∀m B H,W m B H ->
 c B H fun b H1=>if b=true then ∃N:St->Hp->Prop,(∀B' H',N B' H'->∃m',m'<m/\W m' B' H')/\tb {D with nx:=N,ct:=N,bk:=D.nx} B H1 else D.nx B H1
theorem DE{c:Expr}{tc:TT}{tb:TS}(hp:PassesOwn 0e7 X.A 1e2 X.xe)(hc:PT X c tc)(hb:ja X body tb):PS X (.While c body [] pos) (IE tc tb):=by
 intro pins s B H D I h;obtain⟨W,⟨m0,w0⟩,turn⟩:=h;refine wpAny_While (codeAny_whileLoop (fun n s'=>∃B' H',aS X pins B' H' s'/\W n B' H') ?_ m0 ⟨B,H,I,w0⟩)
 rintro n s1 ⟨B1,H1,I1,w1⟩
 refine O2 hp (dh (hc pins s1 B1 H1 _ I1 (turn n B1 H1 w1)) fun b s2 ⟨H2,I2,q2⟩=>?_);cases b with
 |true=>
  obtain⟨N,hN,q2⟩:=q2;rw[Ow rfl];refine O2 hp (dh (hb pins s2 B1 H2 _ I2 q2) fun f s3 q3=>?_);cases f with
  |next=>
   obtain⟨B3,H3,I3,n3⟩:=q3;obtain⟨m',hm,w3⟩:=hN B3 H3 n3;exact⟨m',hm,B3,H3,I3,w3⟩
  |cont=>
   obtain⟨B3,H3,I3,n3⟩:=q3;obtain⟨m',hm,w3⟩:=hN B3 H3 n3;exact⟨m',hm,B3,H3,I3,w3⟩
  |brk=>exact q3
  |ret v=>exact q3
 |false=>
  rw[Ox O3];exact OY ⟨B1,H2,I2,q2⟩
end
structure It where
 go:Nat->Hp->Prop
 yld:Nat->Hp->V->Hp->Prop
 stop:Nat->Hp->Prop
def mC(X:Cx)(pins:List 2e9)(H:Hp)(b:Addr):Prop:=
 H b=none/\b≠X.env.locals/\b∉X.fs/\(b∈X.ex\/X.s₀.heap.objs.size<=b)/\(∀x c,X.env.cells.lookup x=some c->c≠b)/\∀p∈X.pn++pins,p.1≠b
theorem aS.fpOk{X:Cx}{H':Hp}{b:Addr}(I:aS X pins B H s)(hb:s.heap.objs.size<=b)(hn:H' b=none):mC X pins H' b:=by
 refine⟨hn,O4 (OB I.lt hb),I.nofs hb,.inr (OG I.sz hb),fun x c e z=>?_,fun p hp z=>?_⟩
 ·obtain⟨v,q⟩:=I.cell x c e;exact absurd (OB q.lt (by rw[z];exact hb)) (OC _)
 ·exact absurd (OB (OA (I.pin p hp).1) (by rw[z];exact hb)) (OC _)
structure As(P:Program)(w:World)(K:W.Frag)(tg:Expr)(J:It)(fp:List Addr)(it:Addr)(tn:Nat->Heap->Prop):Prop where
 mem:it∈fp
 obj:∀i h,tn i h->∀b∈fp,∃o,h.get? b=some o/\∀v,o.data≠.cell v
 keep:∀i h h',tn i h->(∀b∈fp,∀o,h.get? b=some o->h'.get? b=some o)->tn i h'
 item:∀(X:Cx),X.prog=P->X.w=w->X.K=K->X.calm=true->∀(i:Nat)(pins:List 2e9)(s:Shared)(B:St)(H:Hp)(E:Value->Shared->Prop),aS X pins B H s->(∀b∈fp,mC X pins H b)->tn i 1e5->J.go i H ->
  wpAny (model P w) X.A (pyNext (.ref it)) (fun r s1=>∃u,r=some u /\
   wpAny (model P w) X.A (letOwnedTupleGo tg (.ref it) u) (fun _ s2=>∃x H',aS X pins B H' s2/\bG x u/\J.yld i H x H'/\tn (i+1) s2.heap/\∀b∈fp,H' b=none) E s1) E s
 done:∀(X:Cx),X.prog=P->X.w=w->X.K=K->X.calm=true->∀(i:Nat)(pins:List 2e9)(s:Shared)(B:St)(H:Hp)(E:Value->Shared->Prop),aS X pins B H s->(∀b∈fp,mC X pins H b)->tn i 1e5->J.stop i H ->
  wpAny (model P w) X.A (pyNext (.ref it)) (fun r s1=>r=none/\aS X pins B H s1) E s
 self:∀(A:Around)(i:Nat)(s:Shared)(Q:Value->Shared->Prop)(E:Value->Shared->Prop),tn i 1e5->Q (.ref it) s->wpAny (model P w) A (pyIter (.ref it)) Q E s
abbrev TI:=St->Hp->(It->Hp->Prop)->Prop
def Nu(X:Cx)(pins:List 2e9)(B:St)(tg:Expr)(R:It->Hp->Prop)(itv:Value)(s2:Shared):Prop:=
 ∃(it:Addr)(fp:List Addr)(tn:Nat->Heap->Prop)(J:It)(H':Hp),itv=.ref it/\aS X pins B H' s2/\As X.prog X.w X.K tg J fp it tn/\tn 0 s2.heap/\(∀b∈fp,mC X pins H' b)/\R J H'
def PI(X:Cx)(tg iter:Expr)(wi:TI):Prop:=
 ∀(pins:List 2e9)(s:Shared)(B:St)(H:Hp)(R:It->Hp->Prop),aS X pins B H s->wi B H R ->
  wpAny 0e7 X.A (eval iter 1e2) (fun v s1=>wpAny 0e7 X.A (pyIter v) (Nu X pins B tg R) X.xe s1) X.xe s
theorem Cc{M:Model}{o:Obj}{n:String}{vs:Array Value}{Q:Unit->Shared->Prop}(ho:s.heap.get? it=some o)(hc:o.cls=.type n)(hd:o.data=.fields vs)(hn:["enumerate", "zip", "dict_itemiterator", "dict_reverseitemiterator", "odict_iterator", "itertools.zip_longest", "itertools.pairwise"].contains n=false)(hQ:Q () s):wpAny M A (letOwnedTupleGo tg (.ref it) u) Q E s:=by
 unfold letOwnedTupleGo
 cases tg <;> first
  |exact O5 hQ
  |(cases u <;> first
    |exact O5 hQ
    | (refine OZ (O6 ho ?_)
       rw[hc,hd];show wpAny M A (if (["enumerate", "zip", "dict_itemiterator", "dict_reverseitemiterator", "odict_iterator", "itertools.zip_longest", "itertools.pairwise"].contains n&&vs[0]? == some (rawInt _))=true then _ else _) Q E s;rw[Ox (by intro h;rw[hn,O7]at h;cases h)]
       exact O5 hQ))
def Ng(K:W.Frag)(a:Addr):It:=
 ⟨fun i H=>∃xs x,fG K H a xs/\xs[i]?=some x,fun i H x H'=>H'=H/\∀xs,fG K H a xs->xs[i]?=some x,fun i H=>∃xs,fG K H a xs/\xs.length<=i⟩
def Nw(K:W.Frag)(a:Addr):It:=
 ⟨fun i H=>∃xs x,eK K H a xs/\xs[i]?=some x,fun i H x H'=>H'=H/\∀xs,eK K H a xs->xs[i]?=some x,fun i H=>∃xs,eK K H a xs/\xs.length<=i⟩
def K1(lo:Int)(n:Nat):It:=⟨fun i _=>i<n,fun i H x H'=>H'=H/\x=.int (lo+i),fun i _=>n<=i⟩
theorem AA(a it:Addr):As P w K tg (Ng K a) [it] it (fun i h=>h.IsListIter it a i) where
 mem:=by simp
 obj:=fun i h st b hb=>by
  have e:b=it:=by simpa using hb
  subst e;obtain⟨o,e,c,d⟩:=st;exact⟨o,e,fun v z=>by rw[d]at z;cases z⟩
 keep:=fun i h h' st k=>st.at fun o e=>k it 1e1 o e
 item:=by
  intro X hP hw hK hc i pins s B H E I hf st hg;subst hP hw hK;obtain⟨xs,x,hq,hx⟩:=hg;obtain⟨its,rv,p,hz⟩:=I.list hq;obtain⟨u,hu,ru⟩:=rv.get hx;obtain⟨f0,f1,f2,f3,f4,f5⟩:=hf it 1e1;refine wpAny_pyNext_list_item st p.isList (x:=u) (by simpa using hu) fun h' st' sb=>?_;have I1:aS X pins B H {s with heap:=h'}:=I.turned (t':=s.toks) (fun b o hb e=>(sb.2 b hb).trans e) f0 f1 f3 f4 f5;obtain⟨o,e,c,d⟩:=id st';exact⟨u,rfl,Cc (s:={s with heap:=h'}) e c d 0e4 ⟨x,H,I1,ru,⟨rfl,fun ys hy=>by rw[I.list_inj hy hq];exact hx⟩,st',fun b hb=>(hf b hb).1⟩⟩
 done:=by
  intro X hP hw hK hc i pins s B H E I hf st hg;subst hP hw hK;obtain⟨xs,hq,hx⟩:=hg;obtain⟨its,rv,p,hz⟩:=I.list hq;obtain⟨f0,f1,f2,f3,f4,f5⟩:=hf it 1e1;have hl:=rv.length;exact wpAny_pyNext_list_end (I.ok.hd hc) st p.isList (by simp;omega) fun h' eb=>⟨rfl,I.turned (t':=s.toks) (fun b o hb e=>eb b o hb e) f0 f1 f3 f4 f5⟩
 self:=fun _ _ _ _ _ st h=>wpAny_pyIter_listiter st h
theorem yc(a it:Addr):As P w K tg (Nw K a) [it] it (fun i h=>h.IsTupleIter it a i) where
 mem:=by simp
 obj:=fun i h st b hb=>by
  have e:b=it:=by simpa using hb
  subst e;obtain⟨o,e,c,d⟩:=st;exact⟨o,e,fun v z=>by rw[d]at z;cases z⟩
 keep:=fun i h h' st k=>st.at fun o e=>k it 1e1 o e
 item:=by
  intro X hP hw hK hc i pins s B H E I hf st hg;subst hP hw hK;obtain⟨xs,x,hq,hx⟩:=hg;obtain⟨its,rv,p,hz⟩:=I.tuple hq;obtain⟨u,hu,ru⟩:=rv.get hx;obtain⟨f0,f1,f2,f3,f4,f5⟩:=hf it 1e1;refine wpAny_pyNext_tuple_item st (show s.heap.IsTuple a 2e3 from p) (x:=u) (by simpa using hu) fun h' st' sb=>?_;have I1:aS X pins B H {s with heap:=h'}:=I.turned (t':=s.toks) (fun b o hb e=>(sb.2 b hb).trans e) f0 f1 f3 f4 f5;obtain⟨o,e,c,d⟩:=id st';exact⟨u,rfl,Cc (s:={s with heap:=h'}) e c d 0e4 ⟨x,H,I1,ru,⟨rfl,fun ys hy=>by rw[I.tuple_inj hy hq];exact hx⟩,st',fun b hb=>(hf b hb).1⟩⟩
 done:=by
  intro X hP hw hK hc i pins s B H E I hf st hg;subst hP hw hK;obtain⟨xs,hq,hx⟩:=hg;obtain⟨its,rv,p,hz⟩:=I.tuple hq;obtain⟨f0,f1,f2,f3,f4,f5⟩:=hf it 1e1;have hl:=rv.length;exact wpAny_pyNext_tuple_end (I.ok.hd hc) st (show s.heap.IsTuple a 2e3 from p) (by simp;omega) fun h' eb=>⟨rfl,I.turned (t':=s.toks) (fun b o hb e=>eb b o hb e) f0 f1 f3 f4 f5⟩
 self:=fun _ _ _ _ _ st h=>wpAny_pyIter_tupleiter st h
theorem yd(it:Addr)(lo:Int)(n:Nat):As P w K tg (K1 lo n) [it] it (fun i h=>IsRangeIter h it (lo+(i:Nat)*1) ((n:Int)-(i:Nat)) 1) where
 mem:=by simp
 obj:=fun i h st b hb=>by
  have e:b=it:=by simpa using hb
  subst e
  exact⟨_,st,fun v z=>by
   have z':Data.fields _=Data.cell v:=z
   cases z'⟩
 keep:=fun i h h' st k=>k it 1e1 _ st
 item:=by
  intro X hP hw hK hc i pins s B H E I hf st hg;subst hP hw hK;obtain⟨f0,f1,f2,f3,f4,f5⟩:=hf it 1e1;have W:=Walks.range (prog:=X.prog) (w:=X.w) (I.ok.hd hc) it lo 1 n;refine W.item i s _ _ hg st fun v h' tk hv st' kk=>?_;obtain⟨t,rfl⟩:=hv;have I1:aS X pins B H {s with heap:=h',toks:=tk}:=I.turned (fun b o hb e=>kk b o (by simpa using hb) e) f0 f1 f3 f4 f5;refine⟨_,rfl,Cc (s:={s with heap:=h',toks:=tk}) (n:="range_iterator") st' rfl rfl 0e4 ⟨.int (lo+i),H,I1,⟨t,?_⟩,⟨rfl,rfl⟩,st',fun b hb=>(hf b hb).1⟩⟩;rw[Int.mul_one]
 done:=by
  intro X hP hw hK hc i pins s B H E I hf st hg;subst hP hw hK;obtain⟨f0,f1,f2,f3,f4,f5⟩:=hf it 1e1;exact wpAny_pyNext_range_end (I.ok.hd hc) st (by have:n<=i:=hg;omega) fun h' eb=>⟨rfl,I.turned (t':=s.toks) (fun b o hb e=>eb b o hb e) f0 f1 f3 f4 f5⟩
 self:=fun _ _ _ _ _ st h=>wpAny_pyIter_rangeiter st h
section
variable{X:Cx}
theorem v9{R:It->Hp->Prop}{lo hi:Int}{t u v:Tok}{tk:Nat}(I:aS X pins B H s)(h1:-(2^62)<=lo)(h2:lo<2^62)(h3:-(2^62)<=hi)(h4:hi<2^62)(q:R (K1 lo (hi-lo).toNat) H):wpAny 0e7 X.A (pyIter (.ref 0e3)) (Nu X pins B tg R) E {s with heap:=s.heap.push {cls:=.type "range",data:=.fields #[.int lo t,.int hi u,.int 1 v]},toks:=tk}:=by
 refine wpAny_pyIter_range (IsRange.new ..) (small_one h1 h2 h3 h4) ?_;have I1:aS X pins B H {s with heap:=s.heap.push {cls:=.type "range",data:=.fields #[.int lo t,.int hi u,.int 1 v]},toks:=tk}:=I.kept fun b o e=>O8 _ e
 refine⟨(s.heap.push {cls:=.type "range",data:=.fields #[.int lo t,.int hi u,.int 1 v]}).objs.size,[(s.heap.push {cls:=.type "range",data:=.fields #[.int lo t,.int hi u,.int 1 v]}).objs.size],_,_,H,rfl,
  I1.kept (t':=tk) fun b o e=>O8 _ e,yd _ lo (hi-lo).toNat,?_,fun b hb=>?_,q⟩
 ·have e1 : lo + ((0 : Nat) : Int) * 1 = lo := by simp
  have e2:(((hi-lo).toNat:Nat):Int)-((0:Nat):Int)=Builtin.Range.rangeSize lo hi 1:=by rw[rangeSize_one];split <;> omega
  show IsRangeIter _ _ (lo+((0:Nat):Int)*1) ((((hi-lo).toNat:Nat):Int)-((0:Nat):Int)) 1;rw[e1,e2];exact Oy _ rfl
 ·have e : b = (s.heap.push { cls := .type "range", data := .fields #[.int lo t, .int hi u, .int 1 v] }).objs.size := by simpa using hb
  subst e;exact I1.fpOk (O9 _) (I1.hok.fresh (O9 _))
def MF(ta:TA):TI:=fun B H R=>ta B H fun vs H1=>∃j:Int,vs=[.int j]/\-(2^62)<=j/\j<2^62/\R (K1 0 j.toNat) H1
def MD(ta:TA):TI:=fun B H R=>ta B H fun vs H1=>∃i j:Int,vs=[.int i,.int j]/\(-(2^62)<=i/\i<2^62/\-(2^62)<=j/\j<2^62)/\R (K1 i (j-i).toNat) H1
theorem AY{a:Expr}{ta:TA}{p:Pos}(hg:Gl X "range")(hm:X.mg "range" = none)(ha:PA X [a] ta)(hs:starEach [a] 1e2=[(false,eval a 1e2)]:=by rfl):PI X tg (.Call (.Name "range" p) [a] [] pos) (MF ta):=by
 intro pins s B H R I h;refine Call_ (l6 I hg hm boot_range (Pb (dh (ha pos pins s B H _ I h) fun us s1 ⟨vs,H1,I1,r1,q1⟩=>?_) hs rfl));obtain⟨j,e,q1,q2,q⟩:=q1;subst e;cases r1 with
 |cons r rr=>
  cases rr;obtain⟨t,rfl⟩:=r;exact call_range_1 (v9 I1 0e1 0e1 q1 q2 (by simpa using q))
theorem AX{a b:Expr}{ta:TA}{p:Pos}(hg:Gl X "range")(hm:X.mg "range" = none)(ha:PA X [a,b] ta)(hs:starEach [a,b] 1e2=[(false,eval a 1e2),(false,eval b 1e2)]:=by rfl)(hs2:starEach [b] 1e2=[(false,eval b 1e2)]:=by rfl):
  PI X tg (.Call (.Name "range" p) [a,b] [] pos) (MD ta):=by
 intro pins s B H R I h;refine Call_ (l6 I hg hm boot_range (Pb (dh (ha pos pins s B H _ I h) fun us s1 ⟨vs,H1,I1,r1,q1⟩=>?_) (by rw[hs,hs2]) (by rw[hs2];rfl)));obtain⟨i,j,e,⟨q1,q2,q3,q4⟩,q⟩:=q1;subst e;cases r1 with
 |cons r rr=>
  cases rr with
  |cons r' rr=>
   cases rr;obtain⟨t,rfl⟩:=r;obtain⟨t',rfl⟩:=r';exact call_range_2 (v9 I1 q1 q2 q3 q4 q)
def NG(wi:TI)(g:TG)(tb:TS):TS:=fun D B H=>wi B H fun J H1=>∃W:Nat->Nat->St->Hp->Prop,(∃m,W 0 m B H1)/\∀i m B H,W i m B H ->
 (J.stop i H/\D.nx B H)\/(J.go i H/\∃N:St->Hp->Prop,(∀B' H',N B' H'->∃m',m'<m/\W (i+1) m' B' H')/\∀x H',J.yld i H x H'->g x B H' fun B2 H2=>tb {D with nx:=N,ct:=N,bk:=D.nx} B2 H2)
def ql(fp:List Addr)(h:Heap):List 2e9:=fp.filterMap fun b=>(h.get? b).map fun o=>(b,o)
theorem jM{h:Heap}{b:Addr}{o:Obj}(hb:b∈fp)(e:h.get? b=some o):(b,o)∈ql fp h:=Pc.mpr ⟨b,hb,by rw[e];rfl⟩
theorem A7{h:Heap}{p:Addr×Obj}(hp:p∈ql fp h):p.1∈fp/\h.get? p.1=some p.2:=by
 obtain⟨b,hb,e⟩:=Pc.mp hp;cases q:h.get? b with
 |none=>rw[q]at e;cases e
 |some o=>
  rw[q]at e;have e':(b,o)=p:=Oq e;subst e';exact⟨hb,q⟩
theorem aS.pinned(I:aS X pins B H s)(hf:∀b∈fp,mC X pins H b)(ho:∀b∈fp,∃o,s.heap.get? b=some o/\∀v,o.data≠.cell v):aS X (pins++ql fp 1e5) B H s:=
 I.pins_of fun p hp=>(OO.mp hp).elim (fun z=>I.pin p (Pd _ z)) fun z=>by
  obtain⟨hb,e⟩:=A7 z;obtain⟨f0,f1,f2,_⟩:=hf p.1 hb;obtain⟨o,e',d⟩:=ho p.1 hb;rw[e]at e';cases e';exact⟨e,f0,f1,f2,d⟩
theorem aS.unpinned{pl:List 2e9}(I:aS X (pins++pl) B H s):aS X pins B H s:=I.pins_of fun p hp=>I.pin p (Pd _ (OP _ hp))
theorem Jr{wi:TI}{g:TG}{tb:TS}(hp:PassesOwn 0e7 X.A 1e2 X.xe)(hc:X.calm=true)(hi:PI X tg iter wi)(hg:PG X tg g)(hb:ja X body tb)(hs:∀x,foldedSetIterable iter 1e2 x=pure x:=by intro _;rfl):PS X (.For tg iter body [] pos) (NG wi g tb):=by
 intro pins s B H D I h;refine wpAny_For (dh (hi pins s B H _ I h) fun v s1 h1=>dh h1 fun itv s2 h2=>?_) hs;obtain⟨it,fp,tn,J,H2,e,I2,T,st2,f2,W,⟨m0,w0⟩,turn⟩:=h2;subst e;have stat:∀{H':Hp},(∀b∈fp,H' b=none)->∀b∈fp,mC X pins H' b:=fun hn b hb=>⟨hn b hb,(f2 b hb).2⟩;refine codeAny_forLoop_any (fun n s'=>∃i B' H',aS X pins B' H' s'/\tn i s'.heap/\(∀b∈fp,H' b=none)/\W i n B' H') ?_ m0 ⟨0,B,H2,I2,st2,fun b hb=>(f2 b hb).1,w0⟩
 rintro n s3 ⟨i,B3,H3,I3,st3,fr3,w3⟩
 rcases turn i n B3 H3 w3 with⟨stop,qn⟩|⟨go,N,hN,step⟩
 ·refine O2 hp (dh (T.done X rfl rfl rfl hc i pins s3 B3 H3 X.xe I3 (stat fr3) st3 stop) fun r s4 ⟨hr,I4⟩=>?_);subst hr;exact OY ⟨B3,H3,I4,qn⟩
 ·refine O2 hp (dh (T.item X rfl rfl rfl hc i pins s3 B3 H3 X.xe I3 (stat fr3) st3 go) fun r s4 ⟨u, hr, h4⟩ => ?_);subst hr;refine O2 hp (dh h4 fun _ s5 ⟨x,H5,I5,r5,y5,st5,fr5⟩=>?_);have I5':=I5.pinned (stat fr5) (T.obj _ _ st5);refine O2 hp (dh (hg _ s5 B3 H5 x u _ I5' r5 (step x H5 y5)) fun _ s6 ⟨B6,H6,I6,q6⟩=>?_);refine O2 hp (dh (hb _ s6 B6 H6 _ I6 q6) fun f s7 q7=>?_)
  have again:∀{B7:St}{H7:Hp},aS X (pins++ql fp s5.heap) B7 H7 s7->N B7 H7->∃m,m<n/\∃i B' H',aS X pins B' H' s7/\tn i s7.heap/\(∀b∈fp,H' b=none)/\W i m B' H':=fun {B7 H7} I7 n7=>by
   obtain⟨m',hm,w7⟩:=hN B7 H7 n7;refine⟨m',hm,i+1,B7,H7,I7.unpinned,T.keep _ _ _ st5 fun b hb o e=>(I7.pin (b,o) (Pd _ (Pd _ (jM hb e)))).1,fun b hb=>?_,w7⟩;obtain⟨o,e,d⟩:=T.obj _ _ st5 b hb;exact(I7.pin (b,o) (Pd _ (Pd _ (jM hb e)))).2.1
  cases f with
  |next=>obtain⟨B7,H7,I7,n7⟩:=q7;exact again I7 n7
  |cont=>obtain⟨B7,H7,I7,n7⟩:=q7;exact again I7 n7
  |brk=>obtain⟨B7,H7,I7,q7⟩:=q7;exact⟨B7,H7,I7.unpinned,q7⟩
  |ret v=>obtain⟨x7,B7,H7,I7,r7,q7⟩:=q7;exact⟨x7,B7,H7,I7.unpinned,r7,q7⟩
end
abbrev R2:=V->V->Hp->VK->Prop
def jR(X:Cx)(f:Value->Value->Sem Value)(r:R2):Prop:=
 ∀(pins:List 2e9)(s:Shared)(B:St)(H:Hp)(x y:V)(v u:Value)(Q:VK),aS X pins B H s->bG x v->bG y u->r x y H Q ->
  wpAny 0e7 X.A (f v u) (EP X pins B Q) X.xe s
def Na(X:Cx)(f:Value->Sem Value)(r:V->Hp->VK->Prop):Prop:=
 ∀(pins:List 2e9)(s:Shared)(B:St)(H:Hp)(x:V)(v:Value)(Q:VK),aS X pins B H s->bG x v->r x H Q ->
  wpAny 0e7 X.A (f v) (EP X pins B Q) X.xe s
def cM(X:Cx)(f:Value)(r:List V->Hp->VK->Prop):Prop:=
 ∀(pins:List 2e9)(s:Shared)(B:St)(H:Hp)(xs:List V)(us:List Value)(Q:VK),aS X pins B H s->ba xs us->r xs H Q ->
  wpAny 0e7 X.A (call f us) (EP X pins B Q) X.xe s
def NZ(X:Cx)(r:V->Hp->(Bool->Hp->Prop)->Prop):Prop:=
 ∀(pins:List 2e9)(s:Shared)(B:St)(H:Hp)(x:V)(v:Value)(Q:Bool->Hp->Prop),aS X pins B H s->bG x v->r x H Q ->
  wpAny 0e7 X.A (truthy v) (TP X pins B Q) X.xe s
def K3(r:R2)(ta tb:TE):TE:=fun B H Q=>ta B H fun x H1=>tb B H1 fun y H2=>r x y H2 Q
def Oc(r:V->Hp->VK->Prop)(ta:TE):TE:=fun B H Q=>ta B H fun x H1=>r x H1 Q
def rI(C:Int->Int->Prop)(g:Int->Int->V):R2:=fun x y H Q=>∃i j,x=.int i/\y=.int j/\C i j/\Q (g i j) H
def K5(g:Int->Int->V):R2:=fun x y H Q=>∃i j,x=.int i/\y=.int j/\Q (g i j) H
def rU(g:Int->V):V->Hp->VK->Prop:=fun x H Q=>∃i,x=.int i/\Q (g i) H
section
variable{X:Cx}{a b c:Expr}{tb tc:TE}
theorem Ik(ha:PE X a ta)(hb:PE X b tb){R:V->V->Hp->Prop}(I:aS X pins B H s)(h:ta B H fun x H1=>tb B H1 fun y H2=>R x y H2){f:Value->Value->Sem Value}(hf:∀v u s2 x y H2,aS X pins B H2 s2->bG x v->bG y u->R x y H2->wpAny 0e7 X.A (f v u) Q X.xe s2):
  wpAny 0e7 X.A (eval a 1e2) (fun v s₁=>wpAny 0e7 X.A (eval b 1e2) (fun u s₂=>wpAny 0e7 X.A (f v u) Q X.xe s₂) X.xe s₁) X.xe s:=by
 refine dh (ha pins s B H _ I h) fun v s1 ⟨x,H1,I1,r1,q1⟩=>?_;refine dh (hb pins s1 B H1 _ I1 q1) fun u s2 ⟨y,H2,I2,r2,q2⟩=>?_;exact hf v u s2 x y H2 I2 r1 r2 q2
theorem Mn{op:Operator}{r:R2}(ho:jR X (binaryOp op) r)(ha:PE X a ta)(hb:PE X b tb):PE X (.BinOp a op b pos) (K3 r ta tb):=by
 intro pins s B H Q I h;exact wpAny_BinOp (Ik ha hb I h fun v u s2 x y H2 I2 rx ry q=>ho pins s2 B H2 x y v u Q I2 rx ry q)
theorem Mm{op:UnaryOp}{r:V->Hp->VK->Prop}(ho:Na X (unaryOp op) r)(ha:PE X a ta):PE X (.UnaryOp op a pos) (Oc r ta):=by
 intro pins s B H Q I h;exact UnaryOp_ (dh (ha pins s B H _ I h) fun v s1 ⟨x,H1,I1,r1,q1⟩=>ho pins s1 B H1 x v Q I1 r1 q1)
theorem MY{f:Value->Value->Sem Value}{C:Int->Int->Prop}{g:Int->Int->Int}
  (rule:∀(i j:Int)(t u:Tok)(s:Shared)(Q:Value->Shared->Prop)(E:Value->Shared->Prop),C i j->Q (.int (g i j) s.toks) {s with toks:=s.toks+1}->wpAny 0e7 X.A (f (.int i t) (.int j u)) Q E s) :
  jR X f (rI C fun i j=>.int (g i j)):=by
 intro pins s B H x y v u Q I rx ry h;obtain⟨i,j,rfl,rfl,hc,q⟩:=h;obtain⟨t,rfl⟩:=rx;obtain⟨t',rfl⟩:=ry;exact rule i j t t' s _ _ hc ⟨.int (g i j),H,I.tok _,⟨_,rfl⟩,q⟩
theorem Lr{f:Value->Value->Sem Value}{g:Int->Int->Int}
  (rule:∀(i j:Int)(t u:Tok)(s:Shared)(Q:Value->Shared->Prop)(E:Value->Shared->Prop),Q (.int (g i j) s.toks) {s with toks:=s.toks+1}->wpAny 0e7 X.A (f (.int i t) (.int j u)) Q E s) :
  jR X f (K5 fun i j=>.int (g i j)):=by
 intro pins s B H x y v u Q I rx ry h;obtain⟨i,j,rfl,rfl,q⟩:=h;obtain⟨t,rfl⟩:=rx;obtain⟨t',rfl⟩:=ry;exact rule i j t t' s _ _ ⟨.int (g i j),H,I.tok _,⟨_,rfl⟩,q⟩
def E2(i j:Int):Prop:=0<j/\j<1073741824
def BY(i j:Int):Prop:=0<=j/\j<=1000000/\i.natAbs<2^64
def vz(i j:Int):Prop:=(-(2^64)<i/\i<2^64)\/(-(2^64)<j/\j<2^64)
theorem vz.ok{i j:Int}(h:vz i j):IntMulOk i j:=by
 rcases h with⟨h1,h2⟩|⟨h1,h2⟩
 ·exact .of_left (intBits_le_64 h1 h2)
 ·exact .of_right (intBits_le_64 h1 h2)
theorem JP:jR X (binaryOp .Add) (K5 fun i j=>.int (i+j)):=Lr fun _ _ _ _ _ _ _ q=>add_int q
theorem JF:jR X (binaryOp .Sub) (K5 fun i j=>.int (i-j)):=Lr fun _ _ _ _ _ _ _ q=>sub_int q
theorem JJ:jR X (binaryOp .Mult) (rI vz fun i j=>.int (i*j)):=MY fun _ _ _ _ _ _ _ hc q=>mul_int q hc.ok
theorem Gn:jR X (binaryOp .FloorDiv) (rI E2 fun i j=>.int (i / j)):=MY fun i j _ _ _ _ _ hc q=>by
 have h1:(0:Int)<j:=hc.1;have h2:j<1073741824:=hc.2;exact floordiv_int 0e1 (by rw[Int.fdiv_eq_ediv_of_nonneg i 0e1];exact q) (.inl (PyProof.noPylong_small 0e1))
theorem JK:jR X (binaryOp .Mod) (rI (fun _ j=>0<j) fun i j=>.int (i%j)):=MY fun i j _ _ _ _ _ hc q=>by
 have h1:(0:Int)<j:=hc;exact mod_int' 0e1 (by rw[Int.fmod_eq_emod_of_nonneg i 0e1];exact q)
theorem JH:jR X (binaryOp .Pow) (rI BY fun i j=>.int (i^j.toNat)):=MY fun _ _ _ _ _ _ _ hc q=>pow_int_small hc.1 hc.2.1 hc.2.2 q
theorem Ob{f:Value->Sem Value}{g:Int->Int}
  (rule:∀(i:Int)(t:Tok)(s:Shared)(Q:Value->Shared->Prop)(E:Value->Shared->Prop),Q (.int (g i) s.toks) {s with toks:=s.toks+1}->wpAny 0e7 X.A (f (.int i t)) Q E s) :
  Na X f (rU fun i=>.int (g i)):=by
 intro pins s B H x v Q I rx h;obtain⟨i,rfl,q⟩:=h;obtain⟨t,rfl⟩:=rx;exact rule i t s _ _ ⟨.int (g i),H,I.tok _,⟨_,rfl⟩,q⟩
theorem Iy:Na X (unaryOp .USub) (rU fun i=>.int (-i)):=Ob fun _ _ _ _ _ q=>neg_int q
end
def NL:V->V->Bool
 |.non,.non=>true | .non,.int _=>true | .int _,.non=>true | .non,.bl _=>true | .bl _,.non=>true | .non,.str _=>true | .str _,.non=>true
 |.int _,.int _=>true | .bl _,.bl _=>true | .str _,.str _=>true | .byt _,.byt _=>true
 |.int _,.str _=>true | .str _,.int _=>true | .bl _,.str _=>true | .str _,.bl _=>true
 |_,_=>false
def Nt:R2:=fun x y H Q=>NL x y=true/\Q (.bl (!decide (x=y))) H
theorem G7{i j:Int}:decide (V.int i=V.int j)=(i == j):=by
 rw[Pe];simp
theorem KN{i j:Bool}:decide (V.bl i=V.bl j)=(i == j):=by
 rw[Pe];simp
theorem G6{i j:Str}:decide (V.str i=V.str j)=(i == j):=by
 rw[Pe];simp
theorem G8{i j:Array UInt8}:decide (V.byt i=V.byt j)=(i.toList == j.toList):=by
 rw[Pe];cases i;cases j;simp
section
variable{X:Cx}{a b c:Expr}{tb tc:TE}
theorem dW{Q:VK}{k k':Bool}(I:aS X pins B H s)(q:Q (.bl k) H)(e:k=k'):EP X pins B Q (.bool k') s:=by
 subst e;exact⟨.bl k,H,I,rfl,q⟩
theorem Mp:jR X (compareOp .NotEq) Nt:=by
 intro pins s B H x y v u Q I rx ry h;obtain⟨hs,q⟩:=h;cases x with
 |non=>
  cases rx;cases y with
  |non=>cases ry;exact PySem.EqNone.ne_none_none (dW I q 1e1)
  |bl j=>cases ry;exact PySem.EqNone.ne_none_bool (dW I q 1e1)
  |int j=>obtain⟨t',rfl⟩:=ry;exact PySem.EqNone.ne_none_int (dW I q 1e1)
  |str j=>obtain⟨t',rfl⟩:=ry;exact PySem.EqNone.ne_none_str (dW I q 1e1)
  |_=>exact absurd (show false=true from hs) O3
 |bl i=>
  cases rx;cases y with
  |non=>cases ry;exact PySem.EqNone.ne_bool_none (dW I q 1e1)
  |bl j=>cases ry;exact ne_bool (dW I q (OX not KN))
  |str j=>obtain⟨t',rfl⟩:=ry;exact PySem.EqMixed.ne_bool_str (dW I q 1e1)
  |_=>exact absurd (show false=true from hs) O3
 |int i=>
  obtain⟨t,rfl⟩:=rx;cases y with
  |non=>cases ry;exact PySem.EqNone.ne_int_none (dW I q 1e1)
  |int j=>obtain⟨t',rfl⟩:=ry;exact ne_int (dW I q (OX not G7))
  |str j=>obtain⟨t',rfl⟩:=ry;exact PySem.EqMixed.ne_int_str (dW I q 1e1)
  |_=>exact absurd (show false=true from hs) O3
 |str i=>
  obtain⟨t,rfl⟩:=rx;cases y with
  |non=>cases ry;exact PySem.EqNone.ne_str_none (dW I q 1e1)
  |bl j=>cases ry;exact PySem.EqMixed.ne_str_bool (dW I q 1e1)
  |int j=>obtain⟨t',rfl⟩:=ry;exact PySem.EqMixed.ne_str_int (dW I q 1e1)
  |str j=>obtain⟨t',rfl⟩:=ry;exact ne_str (dW I q (OX not G6))
  |_=>exact absurd (show false=true from hs) O3
 |byt i=>
  obtain⟨t,rfl⟩:=rx;cases y with
  |byt j=>obtain⟨t',rfl⟩:=ry;exact W.ne_bytes (dW I q (OX not G8))
  |_=>exact absurd (show false=true from hs) O3
 |_=>cases y <;> exact absurd (show false=true from hs) O3
theorem JL:jR X (compareOp .Is) (fun x y H Q=>y=.non/\Q (.bl (decide (x=.non))) H):=by
 intro pins s B H x y v u Q I rx ry h;obtain⟨rfl,q⟩:=h;cases ry;refine is_none_gen (dW I q ?_)
 cases x <;> first
  |(cases rx;rfl)
  |(obtain⟨t,rfl⟩:=rx;rfl)
theorem Gk:jR X (compareOp .IsNot) (fun x y H Q=>y=.non/\Q (.bl (!decide (x=.non))) H):=by
 intro pins s B H x y v u Q I rx ry h;obtain⟨rfl,q⟩:=h;cases ry;refine isnot_none_gen (dW I q ?_)
 cases x <;> first
  |(cases rx;rfl)
  |(obtain⟨t,rfl⟩:=rx;rfl)
theorem jR.or{f:Value->Value->Sem Value}{r r':R2}(h:jR X f r)(h':jR X f r'):jR X f (fun x y H Q=>r x y H Q\/r' x y H Q):=by
 intro pins s B H x y v u Q I rx ry q;rcases q with q|q
 ·exact h pins s B H x y v u Q I rx ry q
 ·exact h' pins s B H x y v u Q I rx ry q
theorem Gg{r:R2}(ho:jR X (compareOp op) r)(ha:PE X a ta)(hb:PE X b tb)(hm:behindInMarks op b=false):PE X (.Compare a [op] [b] pos) (K3 r ta tb):=by
 intro pins s B H Q I h;exact wpAny_Compare1 (Ik ha hb I h fun v u s2 x y H2 I2 rx ry q=>ho pins s2 B H2 x y v u Q I2 rx ry q) hm
def LN(t:TE):TT:=fun B H Q=>t B H fun x H'=>∃k,x=.bl k/\Q k H'
theorem FX{r:R2}(ho:jR X (compareOp op) r)(ha:PE X a ta)(hb:PE X b tb)(hm:behindInMarks op b=false):PT X (.Compare a [op] [b] pos) (LN (K3 r ta tb)):=by
 intro pins s B H Q I h
 refine wpAny_isTrue_Compare1 (dh (ha pins s B H _ I h) fun v s1 ⟨x,H1,I1,r1,q1⟩=>dh (hb pins s1 B H1 _ I1 q1) fun u s2 ⟨y,H2,I2,r2,q2⟩=>
  dh (ho pins s2 B H2 x y v u _ I2 r1 r2 q2) fun c s3 ⟨z,H3,I3,r3,k,e,q3⟩=>?_) hm
 subst e;cases r3;exact OV ⟨H3,I3,q3⟩
def Cu(r r':R2)(ta tb tc:TE):TE:=fun B H Q=>ta B H fun x H1=>tb B H1 fun y H2=>r x y H2 fun z H3=>∃k,z=.bl k /\
 (if k=true then tc B H3 fun w' H4=>r' y w' H4 Q else Q (.bl false) H3)
theorem DL{op':CmpOp}{r r':R2}(ho:jR X (compareOp op) r)(ho':jR X (compareOp op') r')(ha:PE X a ta)(hb:PE X b tb)(hc:PE X c tc)(hm:lastMarks [op,op'] [b,c]=false:=by with_unfolding_all rfl):PE X (.Compare a [op,op'] [b,c] pos) (Cu r r' ta tb tc):=by
 intro pins s B H Q I h
 refine Compare_chain (dh (ha pins s B H _ I h) fun v s1 ⟨x,H1,I1,r1,q1⟩=>chain_link (dh (hb pins s1 B H1 _ I1 q1) fun u s2 ⟨y,H2,I2,r2,q2⟩=>
  dh (ho pins s2 B H2 x y v u _ I2 r1 r2 q2) fun d s3 ⟨z,H3,I3,r3,k,e,q3⟩=>?_)) hm
 subst e;cases r3;refine OV ?_;cases k with
 |false=>exact ite_ff ⟨.bl false,H3,I3,rfl,q3⟩
 |true=>exact ite_tt (chain_last (dh (hc pins s3 B H3 _ I3 q3) fun w' s4 ⟨z',H4,I4,r4,q4⟩=>ho' pins s4 B H4 y z' u w' Q I4 r2 r4 q4))
def Il(K:W.Frag)(x:V)(H:Hp)(k:Bool):Prop:=
 match x with
 |.non=>k=false
 |.bl b=>k=b
 |.int i=>k=(i != 0)
 |.str y=>y.length<=sizeLine/\k=((y.length:Int) != 0)
 |.byt y=>y.size<=sizeLine/\k=((y.size:Int) != 0)
 |.ref p=>(∃xs,fG K H p xs/\k=!xs.isEmpty)\/(∃xs,eK K H p xs/\k=!xs.isEmpty)\/∃kvs,H p=some (.dK kvs)/\k=!kvs.isEmpty
 |_=>False
theorem yG{κ:Type}{kvs:List (κ×V)}{vs:List (κ×Value)}(r:KV kvs vs):(!vs.isEmpty)=!kvs.isEmpty:=by
 cases r <;> rfl
theorem qR{xs:List V}(r:ba xs its):(!its.toArray.isEmpty)=!xs.isEmpty:=by
 cases r <;> simp
theorem nJ:(sizeLine:Nat)<2^63:=by rw[Pf];decide
theorem IC:NZ X (fun x H Q=>∃k,Il X.K x H k/\Q k H):=by
 intro pins s B H x v Q I rx h;obtain⟨k,e,q⟩:=h;have hl:=nJ;have hs:sizeLine=16777216:=Pf;cases x with
 |non=>
  cases rx;have e':k=false:=e;subst e';exact truthy_none ⟨H,I,q⟩
 |bl b=>
  cases rx;have e':k=b:=e;subst e';exact OV ⟨H,I,q⟩
 |int i=>
  obtain⟨t,rfl⟩:=rx;have e':k=(i != 0):=e;subst e';exact PySem.P.truthy_int ⟨H,I,q⟩
 |str y=>
  obtain⟨t,rfl⟩:=rx;obtain⟨hy,e'⟩:y.length<=sizeLine/\k=((y.length:Int) != 0):=e;subst e';exact PySem.P.truthy_str 0e1 ⟨H,I.tok _,q⟩
 |byt y=>
  obtain⟨t,rfl⟩:=rx;obtain⟨hy,e'⟩:y.size<=sizeLine/\k=((y.size:Int) != 0):=e;subst e';exact W.truthy_bytes 0e1 ⟨H,I.tok _,q⟩
 |ref p=>
  cases rx;have e':(∃xs,fG X.K H p xs/\k=!xs.isEmpty)\/(∃xs,eK X.K H p xs/\k=!xs.isEmpty)\/∃kvs,H p=some (.dK kvs)/\k=!kvs.isEmpty:=e;rcases e' with⟨xs,hx,e'⟩|⟨xs,hx,e'⟩|⟨kvs,hx,e'⟩
  ·subst e';obtain⟨its,r,pl,hz⟩:=I.list hx;have hlen:=r.length;exact wpAny_truthy_list pl.isList (by dsimp[Pg];omega) ⟨H,I.tok _,by rw[qR r];exact q⟩
  ·subst e';obtain⟨its,r,pl,hz⟩:=I.tuple hx;have hlen:=r.length;exact truthy_tuple pl (by dsimp[Pg];omega) ⟨H,I.tok _,by rw[qR r];exact q⟩
  ·subst e';obtain⟨hz,hS,vs,r,m⟩:kvs.length<=sizeLine/\(p == sysModules)=false/\∃vs,KV kvs vs/\s.heap.DictOf (pI X.prog X.w) p vs:=I.hok p _ hx;have hlen:kvs.length=vs.length:=Paired.length r;exact wpAny_truthy_dict hS m 0e1 ⟨H,I.tok _,by rw[yG r];exact q⟩
 |_=>exact(show False from e).elim
theorem DD(ha:PE X a ta)(he:∀whole,isTrue a 1e2 whole=(do let v <- whole;standAt a.pos;holding [v] (truthy v))) :
  PT X a (fun B H Q=>ta B H fun x H'=>∃k,Il X.K x H' k/\Q k H'):=by
 intro pins s B H Q I h;exact isTrue_plain (dh (ha pins s B H _ I h) fun v s1 ⟨x,H1,I1,r1,q1⟩=>IC pins s1 B H1 x v Q I1 r1 q1) (he _)
theorem yv:jR X (binaryOp .Add) (fun x y H Q=>∃i j,x=.str i/\y=.str j/\i.length+j.length<=sizeLine/\Q (.str (i++j)) H):=by
 intro pins s B H x y v u Q I rx ry h;obtain⟨i,j,rfl,rfl,hz,q⟩:=h;obtain⟨t,rfl⟩:=rx;obtain⟨t',rfl⟩:=ry;exact add_str (fun t' tk=>⟨.str (i++j),H,I.tok _,⟨_,rfl⟩,q⟩) hz
theorem eE{x:V}(r:ba [x] us):∃u,us=[u]/\bG x u:=by
 cases r with
 |cons r1 r2=>cases r2;exact⟨_,rfl,r1⟩
theorem σ3{x:V}(r:ba [x,y] us):∃u w',us=[u,w']/\bG x u/\bG y w':=by
 cases r with
 |cons r1 r2=>
  cases r2 with
  |cons r3 r4=>cases r4;exact⟨_,_,rfl,r1,r3⟩
theorem By (hc:X.calm=true):cM X (.builtin "max") (fun xs H Q=>∃i j,xs=[.int i,.int j]/\Q (.int (if j>i then j else i)) H):=by
 intro pins s B H xs us Q I r h;obtain⟨i,j,rfl,q⟩:=h;obtain⟨u,w',rfl,⟨t,rfl⟩,⟨t',rfl⟩⟩:=σ3 r;refine max_two_ints (I.ok.hd hc) fun h' tk k=>⟨_,H,I.kept k,?_,q⟩;by_cases hj:j>i
 ·rw[Ow hj,Ow hj];exact⟨_,rfl⟩
 ·rw[Ox hj,Ox hj];exact⟨_,rfl⟩
theorem Bv (hc:X.calm=true):cM X (.builtin "min") (fun xs H Q=>∃i j,xs=[.int i,.int j]/\Q (.int (if j<i then j else i)) H):=by
 intro pins s B H xs us Q I r h;obtain⟨i,j,rfl,q⟩:=h;obtain⟨u,w',rfl,⟨t,rfl⟩,⟨t',rfl⟩⟩:=σ3 r;refine min_two_ints (I.ok.hd hc) fun h' tk k=>⟨_,H,I.kept k,?_,q⟩;by_cases hj:j<i
 ·rw[Ow hj,Ow hj];exact⟨_,rfl⟩
 ·rw[Ox hj,Ox hj];exact⟨_,rfl⟩
theorem BC:cM X (.type "int") (fun xs H Q=>(∃i,xs=[.int i]/\Q (.int i) H)\/∃k,xs=[.bl k]/\Q (.int (if k then 1 else 0)) H):=by
 intro pins s B H xs us Q I r h;rcases h with⟨i,rfl,q⟩|⟨k,rfl,q⟩
 ·obtain⟨u,rfl,t,rfl⟩:=eE r;exact call_int_int ⟨.int i,H,I,⟨_,rfl⟩,q⟩
 ·obtain⟨u,rfl,r1⟩:=eE r;cases r1;exact call_int_bool ⟨.int (if k then 1 else 0),H,I.tok _,⟨_,rfl⟩,q⟩
def Io(K:W.Frag)(x:V)(H:Hp)(n:Nat):Prop:=
 match x with
 |.str y=>y.length<=sizeLine/\n=y.length
 |.byt y=>y.size<=sizeLine/\n=y.size
 |.ref p=>(∃xs,fG K H p xs/\n=3e9)\/∃xs,eK K H p xs/\n=3e9
 |_=>False
theorem Es:cM X (.builtin "len") (fun xs H Q=>∃x n,xs=[x]/\Io X.K x H n/\Q (.int n) H):=by
 intro pins s B H xs us Q I r h;obtain⟨x,n,rfl,e,q⟩:=h;obtain⟨u,rfl,rx⟩:=eE r;have hl:=nJ;have hs:sizeLine=16777216:=Pf;cases x with
 |str y=>
  obtain⟨t,rfl⟩:=rx;obtain⟨hy,e'⟩:y.length<=sizeLine/\n=y.length:=e;subst e';exact len_str 0e1 ⟨.int _,H,I.tok _,⟨_,rfl⟩,q⟩
 |byt y=>
  obtain⟨t,rfl⟩:=rx;obtain⟨hy,e'⟩:y.size<=sizeLine/\n=y.size:=e;subst e';exact W.len_bytes 0e1 ⟨.int _,H,I.tok _,⟨_,rfl⟩,q⟩
 |ref p=>
  cases rx;have e':(∃xs,fG X.K H p xs/\n=3e9)\/∃xs,eK X.K H p xs/\n=xs.length:=e;rcases e' with⟨xs,hx,e'⟩|⟨xs,hx,e'⟩
  ·subst e';obtain⟨its,r',pl,hz⟩:=I.list hx;have hlen:=r'.length;exact Calls.call_len_list pl.isList (by dsimp[Pg];omega) ⟨.int 3e9,H,I.tok _,⟨_,by dsimp[Pg];rw[hlen]⟩,q⟩
  ·subst e';obtain⟨its,r',pl,hz⟩:=I.tuple hx;have hlen:=r'.length;exact len_tuple pl (by dsimp[Pg];omega) ⟨.int 3e9,H,I.tok _,⟨_,by dsimp[Pg];rw[hlen]⟩,q⟩
 |_=>exact(show False from e).elim
end
structure Ol(h:Heap)(x dx C:Addr)(mA:Str->Option Value):Prop where
 obj:h.get? x=some (W.instObj C dx)
 ns:h.Ns1 dx mA
 ne:dx≠x
theorem Bd{h:Heap}{dx:Addr}(n:h.Ns1 dx mA):∃od,h.get? dx=some od/\∀name,W.lookIn name od=some (mA name):=by
 obtain⟨o,es,ep,ho,hd,hk,_,hm⟩:=n;refine⟨o,ho,fun name=>?_⟩;have e:=hm name;unfold nsFind findBy at e;rw[<- Array.find?_toList]at e;unfold W.lookIn;rw[hd];dsimp only;split
 ·rename_i y q;rw[q]at e;exact OX some e
 ·rename_i q;rw[q]at e
  have a:es.toList.any (·.refKey)=false:=by
   rw[List.any_eq_false];intro y hy;obtain⟨z,t,hkey⟩:=hk y (Ph.mp hy);simp[DictEntry.refKey,hkey]
  have a':¬ es.toList.any (·.refKey)=true:=by rw[a];exact O3
  rw[Ox a'];exact OX some e
structure Oj(K:W.Frag)(C:Addr):Prop where
 pg:W.plainGet K C Str.empty=true
 hd:W.hasDictIn K C=true
 po:W.plainOver K C=true
 sa:W.findIn K 2e1 "__setattr__" = some (some (.builtin "object.__setattr__"))
structure Oo(K:W.Frag)(C:Addr)(f:Str)(v:V)(u:Value):Prop where
 at_:W.findIn K 2e1 f=some (some u)
 rel:bG v u
 get:W.specialIn K u "__get__" = some none
 cp:W.copiedNames.contains f=false
structure Om(K:W.Frag)(C:Addr)(m:Str)(f:Addr):Prop where
 at_:W.findIn K 2e1 m=some (some 3e7)
 fn:W.isFn K 3e7=true
 kp:W.keepIn K 3e7=true
section
variable{X:Cx}{dx:Addr}{fs:List (Str×V)}{f:Str}
theorem He{f:Str}(hb:attributeBase e f env (eval e env)=eval e env)(h:wpAny 0e6 A (eval e env) (fun o s₁=>wpAny 0e6 A (getAttr o f true) Q E s₁) E s):wpAny 0e6 A (eval (.Attribute e f pos) env) Q E s:=
 Attribute_any_ h (by rw[arm_eval_Attribute,hb])
end
section
variable{X:Cx}{c:Value}
inductive pZ(K:W.Frag)(H:Hp):V->Value->Prop where
 |non:pZ K H .non (.type "NoneType")
 |bl (x:Bool):pZ K H (.bl x) (.type "bool")
 |int (i:Int):pZ K H (.int i) (.type "int")
 |str (x:Str):pZ K H (.str x) (.type "str")
 |flt (x:UInt64):pZ K H (.flt x) (.type "float")
 |lst {a:Addr}{xs:List V} (e:H a=some 2e6):pZ K H (.ref a) (.type "list")
 |frz {a:Addr}{o:Obj}{xs:List V} (e:H a=some (.frz o 2e6)):pZ K H (.ref a) (.type "list")
 |tup {a:Addr}{xs:List V} (e:H a=some (.tup xs)):pZ K H (.ref a) (.type "tuple")
 |dK {a:Addr}{kvs:List (rP×V)} (e:H a=some (.dK kvs)):pZ K H (.ref a) (.type "dict")
 |dT {a:Addr}{kvs:List (List rP×V)} (e:H a=some (.dT kvs)):pZ K H (.ref a) (.type "dict")
 |ins {a C dx:Addr}{fs:List (Str×V)} (e:H a=some (.ins C dx fs)) (cl:Oj K C) (ha:W.findIn K 2e1 "__class__" = some (some 3e4))
   (hn:W.specialIn K 3e4 "__get__" = some (some (.builtin "getset_descriptor.__get__"))) (htk:W.takesIn K 3e4=some true)
   (hm:W.mroIn K C 3e6=some true):pZ K H (.ref a) 2e1
end
structure dF(k:Nat)(A:Around):Prop where
 hd:A.handled=none
 dp:A.depth+3*k+5<recursionLimit
 un:A.units+16*k+200<cLine
 gd:A.guards=some []
theorem dF.mono(r:dF k A)(h:j<=k):dF j A:=⟨r.hd,by have:=r.dp;omega,by have:=r.un;omega,r.gd⟩
theorem dF.deeper(r:dF (k+1) A)(env:Env):dF k (A.deeper env):=
 ⟨r.hd,by have:=r.dp;show A.depth+1+3*k+5<_;omega,by have:=r.un;show A.units+3+16*k+200<_;omega,r.gd⟩
theorem yD:(A.under (.builtin "type.__call__" ⟨.ref C::us,kw⟩)).depth=A.depth+1:=by
 first|rfl|simp[Around.under,Code.weight,Code.isCreation,Code.isGuard,Code.isCaller,Code.frames,Code.isFrame,guardIds]
theorem yC:(A.under (.builtin "type.__call__" ⟨.ref C::us,kw⟩)).units=A.units+1:=by
 first|rfl|simp[Around.under,Code.cUnits,Code.frames,Code.isFrame]
theorem xn:
  (A.under (.builtin "type.__call__" ⟨.ref C::us,kw⟩)).guards=A.guards:=by
 first|rfl|simp[Around.under,Code.guards,pushGuards,Code.isGuard,guardIds]
theorem dF.make(r:dF (k+1) A)(C:Addr)(us:List Value)(kw:List (Str×Value)):dF k (A.under (.builtin "type.__call__" ⟨.ref C::us,kw⟩)):=
 ⟨r.hd,by have:=r.dp;rw[yD];omega,by have:=r.un;rw[yC];omega,xn.trans r.gd⟩
theorem dF.depth(r:dF k A):A.depth<recursionLimit:=by have:=r.dp;omega
theorem dF.units(r:dF k A):A.units+64<cLine:=by have:=r.un;omega
def ND:TA:=fun _ H Q=>Q [] H
def LX(ta:TE)(tr:TA):TA:=fun B H Q=>ta B H fun x H1=>tr B H1 fun xs H2=>Q (x::xs) H2
section
variable{X:Cx}{es:List Expr}{t:TA}
theorem nI:PA X [] ND:=fun _ _ _ _ H Q I h=>Calls.spliced_nil ⟨[],H,I,.nil,h⟩
theorem hX(ha:PE X e te)(hr:PA X es t)(hs:starEach (e::es) 1e2=(false,eval e 1e2)::starEach es 1e2:=by rfl):PA X (e::es) (LX te t):=by
 intro pos pins s B H Q I h;rw[hs];show wpAny _ _ (spliced ((false,eval e 1e2)::backTo pos (starEach es 1e2))) _ _ s;refine Calls.spliced_cons (dh (ha pins s B H _ I h) fun u s1 ⟨x,H1,I1,r1,q1⟩=>?_);exact dh (hr pos pins s1 B H1 _ I1 q1) fun us s2 ⟨xs,H2,I2,r2,q2⟩=>⟨x::xs,H2,I2,.cons r1 r2,q2⟩
def Nz(t:TA):TE:=fun B H Q=>t B H fun xs H1=>xs.length<=sizeLine/\∀p,H1 p=none->Q (.ref p) (bq H1 p (.tup xs))
def Ld(t:TA):TE:=fun B H Q=>t B H fun xs H1=>xs.length<=sizeLine/\∀p,H1 p=none->Q (.ref p) (bq H1 p 2e6)
theorem Jx{x1}(h:PA X es t):PE X (.Tuple es x1 pos) (Nz t):=by
 intro pins s B H Q I hq;refine wpAny_Tuple_spliced (dh (h pos pins s B H _ I hq) fun us s1 ⟨xs,H1,I1,r,z,q⟩=>⟨by rw[<- r.length];exact z,?_⟩);have hf:H1 s1.heap.objs.size=none:=I1.hok.fresh (O9 _);refine⟨.ref s1.heap.objs.size,bq H1 s1.heap.objs.size (.tup xs),I1.laid (t':=s1.toks) (fun b u e=>O8 _ e) (O9 _) ?_,rfl,q _ hf⟩;exact⟨z,us,r,⟨_,Oy _ rfl,rfl,⟨_,rfl⟩,rfl⟩⟩
theorem CI(h:PA X es t):PE X (.List es pos) (Ld t):=by
 intro pins s B H Q I hq;refine wpAny_List_spliced (dh (h pos pins s B H _ I hq) fun us s1 ⟨xs,H1,I1,r,z,q⟩=>⟨by rw[<- r.length];exact z,?_⟩);have hf:H1 s1.heap.objs.size=none:=I1.hok.fresh (O9 _);refine⟨.ref s1.heap.objs.size,bq H1 s1.heap.objs.size 2e6,I1.laid (t':=s1.toks) (fun b u e=>O8 _ e) (O9 _) ?_,rfl,q _ hf⟩;exact⟨z,us,0,r,Oy _ rfl⟩
end
abbrev Sp:=List V->Hp->VK->XK->Prop
abbrev vh:=List Env->Hp->Shared->XK->Value->Shared->Prop
structure tW(P:Program)(w:World)(K:W.Frag)(mg:Str->Option Value)(base:Heap)(A:Around)(outer:List Env)(s:Shared)(H:Hp):Prop where
 frames:A.frames=some outer
 mod:Mod K mg base
 bs:∀b o,base.get? b=some o->s.heap.get? b=some o/\H b=none
 bsz:base.objs.size<=s.heap.objs.size
 funs:s.heap.FunFrames base outer
 frf:∀b∈mz outer,H b=none
 hok:nA P w H 1e5
 bare:AllBare s.gens
def CE(outer:List Env)(P:Program)(w:World)(H:Hp)(s:Shared)(Q:VK)(u:Value)(s':Shared):Prop:=
 ∃v H',s'.os=s.os/\AllBare s'.gens/\Un (mz outer) [] H H' 1e5 s'.heap/\nA P w H' s'.heap/\bG v u/\Q v H'
def CR(CX:vh)(outer:List Env)(P:Program)(w:World)(H:Hp)(s:Shared)(Q:VK)(E:XK)(r:Result)(s':Shared):Prop:=
 match r with
 |.ok (.ret u)=>CE outer P w H s Q u s'
 |.ok _=>False
 |.error e=>CX outer H s E e s'
structure j6(P:Program)(w:World)(K:W.Frag)(mg:Str->Option Value)(base:Heap)(CX:vh)(k:Nat)(f:Addr)(fd:FuncData)(ps:List Str)(sp:Sp):Prop where
 len:∀vs H Q E,sp vs H Q E->vs.length=ps.length
 run:∀(A:Around)(outer:List Env)(s:Shared)(H:Hp)(args:Args)(us:List Value)(vs:List V)(Q:VK)(E:XK),dF k A->tW P w K mg base A outer s H->BindsTo s fd args (ps.zip us)->ba vs us->sp vs H Q E ->
  codeAny (model P w) A (.call 3e7 args) (CR CX outer P w H s Q E) s
theorem tW.make(e:tW P w K mg base A outer s H)(C:Addr)(us:List Value)(kw:List (Str×Value)):
  tW P w K mg base (A.under (.builtin "type.__call__" ⟨.ref C::us,kw⟩)) outer s H:=⟨by first|exact e.frames|(simpa[Around.under,Code.envs,Code.isFrame,pushEnvs] using e.frames),e.mod,e.bs,e.bsz,e.funs,e.frf,e.hok,e.bare⟩
section
variable{X:Cx}
theorem aS.env0(I:aS X pins B H s):tW X.prog X.w X.K X.mg X.base X.A X.stack s H:=
 ⟨I.ok.frames,I.ok.mod,I.bs,OG I.ok.bsz I.sz,I.stack,I.stkFree,I.hok,I.bare⟩
theorem aS.after{Q:VK}(I:aS X pins B H s)(h:CE X.stack X.prog X.w H s Q u s'):EP X pins B Q u s':=by
 obtain⟨v,H',os,bare,un,hok,r,q⟩:=h;obtain⟨hh,g,d,t,os'⟩:=s';obtain rfl:os'=s.os:=os;exact⟨v,H',I.call (h':=hh) (g':=g) (d':=d) (t':=t) (ch:=[]) un hok bare (fun b z=>absurd z 1e1),r,q⟩
end
def Hu(sp:Sp)(dvs:List V)(E:XK)(t:TA):TE:=fun B H Q=>t B H fun vs H1=>sp (vs++dvs) H1 Q E
def dM(K:W.Frag)(fd:FuncData)(ps:List Str)(ds:List Value):Prop:=
 ∀(s:Shared)(us:List Value),K.In 1e5->(us++ds).length=ps.length->BindsTo s fd ⟨us,[]⟩ (ps.zip (us++ds))
theorem dM.all{ps:List Str}(h:∀us:List Value,us.length=ps.length->bindArgs fd ⟨us,[]⟩=pure (ps.zip us)):dM K fd ps []:=fun s us _ hl=>by
 rw[Pi]at hl⊢;exact .of_eq (h us hl)
def jF(CX:vh)(X:Cx)(E:XK):Prop:=∀(pins:List 2e9)(B:St)(H:Hp)(s:Shared)(e:Value)(s':Shared),aS X pins B H s->CX X.stack H s E e s'->X.xe e s'
section
variable{X:Cx}{CX:vh}{ps:List Str}{sp:Sp}{dvs:List V}{ds:List Value}{E:XK}{m:Str}{p:Pos}{o:Expr}{es:List Expr}{t:TA}
theorem CA{Q:VK}(F:j6 X.prog X.w X.K X.mg X.base CX k f fd ps sp)(hr:dF k X.A)(hb:dM X.K fd ps ds)(hd:ba dvs ds)(hx:jF CX X E)(I:aS X pins B H s)(r:ba vs us)(h:sp (vs++dvs) H Q E):wpAny 0e7 X.A (call 3e7 us) (EP X pins B Q) X.xe s:=by
 have r2:ba (vs++dvs) (us++ds):=r.append hd;have hl:(us++ds).length=ps.length:=by rw[<- r2.length];exact F.len _ _ _ _ h
 refine Pj (Pl (F.run X.A X.stack s H ⟨us,[]⟩ (us++ds) (vs++dvs) Q E hr I.env0 (hb s us I.kIn hl) r2 h) fun r s' hq=>?_);cases r with
 |error e=>exact hx pins B H s e s' I hq
 |ok fl=>
  cases fl with
  |ret u=>exact I.after hq
  |next=>exact False.elim hq
  |brk=>exact False.elim hq
  |cont=>exact False.elim hq
theorem uw(F:j6 X.prog X.w X.K X.mg X.base CX k f fd ps sp)(hr:dF k X.A)(hg:Gl X x)(hm:X.mg x=some 3e7)(hk:W.keepIn X.K 3e7=true)(hb:dM X.K fd ps ds)(hd:ba dvs ds)(hx:jF CX X E)
  (ha:PA X (e::es) t) (hdb:(x == ("__debug__" : Str))=false:=by decide) (he:starEach (e::es) 1e2=(false,eval e 1e2)::starEach es 1e2:=by rfl) (hpl:(backTo pos (starEach es 1e2)).any 2e4=false:=by rfl) :
  PE X (.Call (.Name x p) (e::es) [] pos) (Hu sp dvs E t):=by
 intro pins s B H Q I h;refine Pm (jH I hg hm ?_ hdb);refine W.callWith_K (h₀:=X.base) I.ok.mod.kin hk (dh (ha pos pins s B H _ I h) fun us s1 ⟨vs,H1,I1,r,q⟩=>⟨I1.kIn,?_⟩) he hpl;exact CA F hr hb hd hx I1 r q
structure Mk(K:W.Frag)(C f:Addr):Prop where
 makes:W.makesIn K C=true
 init:W.findIn K 2e1 "__init__" = some (some 3e7)
 fn:W.isFn K 3e7=true
 kp:W.keepIn K 2e1=true
end
section
variable{X:Cx}{CX:vh}{ps ks:List Str}{sp:Sp}{E:XK}{m:Str}{p kpos:Pos}{o:Expr}{es:List Expr}{kws:List Keyword}{t tk:TA}{nm:Option Str}
structure N3(K:W.Frag)(fd:FuncData)(ps ks:List Str)(g:List Value->List Value->List Value)(gV:List V->List V->List V):Prop where
 to:∀(s:Shared)(us ws:List Value),K.In 1e5->(g us ws).length=ps.length->BindsTo s fd ⟨us,ks.zip ws⟩ (ps.zip (g us ws))
 rel:∀{vs:List V}{us:List Value}{zs:List V}{ws:List Value},ba vs us->ba zs ws->ba (gV vs zs) (g us ws)
variable{g:List Value->List Value->List Value}{gV:List V->List V->List V}
end
structure aR(N P:List Str)(sc:Scope):Prop where
 kind:sc.kind=.function
 co:sc.isCoroutine=false
 gen:sc.isGenerator=false
 nd:N.Nodup
 pre:N.take P.length=P
 par:∀x∈P,sc.names.lookup x=some .local\/sc.names.lookup x=some .cell
 nofree:∀y∈sc.names,y.2≠.free
theorem tJ{kindOf:Str->Option NameKind}{x:Str}:∀{binds:List (Str×Value)}{m:Str->Option Value},(∀v,(x,v)∉binds)->bindL kindOf binds m x=m x
 |[],_,_=>rfl
 |(n,v)::r,m,h=>by
  unfold bindL;rw[tJ fun w hw=>h w (OK _ hw)];split
  ·have : x ≠ n := by rintro rfl; exact h v OJ
   simp[this]
  ·rfl
theorem tK{kindOf:Str->Option NameKind}{x:Str}:∀{binds:List (Str×Value)}{m:Str->Option Value},(∀v,(x,v)∉binds)->bindC kindOf binds m x=m x
 |[],_,_=>rfl
 |(n,v)::r,m,h=>by
  unfold bindC;rw[tK fun w hw=>h w (OK _ hw)];split
  ·rfl
  ·have : x ≠ n := by rintro rfl; exact h v OJ
   simp[this]
theorem n8{kindOf:Str->Option NameKind}{x:Str}{v:Value}:∀{P:List Str}{vs:List Value}{i:Nat}{m:Str->Option Value},P.Nodup->P[i]?=some x->vs[i]?=some v->kindOf x=some .local ->
  bindL kindOf (P.zip vs) m x=some v
 |[],_,_,_,_,h,_,_=>by simp at h
 |_::_,[],_,_,_,_,h,_=>by simp at h
 |p::P,w::vs,0,m,nd,h1,h2,hk=>by
  simp at h1 h2;subst h1;subst h2;show bindL kindOf ((p,w)::P.zip vs) m p=_;unfold bindL;rw[tJ fun v hv=>(Po.mp nd).1 (Pp hv).1,Ow hk];simp
 |p::P,w::vs,i+1,m,nd,h1,h2,hk=>by
  show bindL kindOf ((p,w)::P.zip vs) m x=_;unfold bindL;exact n8 (i:=i) (Po.mp nd).2 (by simpa using h1) (by simpa using h2) hk
theorem oa{kindOf:Str->Option NameKind}{x:Str}{v:Value}:∀{P:List Str}{vs:List Value}{i:Nat}{m:Str->Option Value},P.Nodup->P[i]?=some x->vs[i]?=some v->kindOf x≠some .local ->
  bindC kindOf (P.zip vs) m x=some v
 |[],_,_,_,_,h,_,_=>by simp at h
 |_::_,[],_,_,_,_,h,_=>by simp at h
 |p::P,w::vs,0,m,nd,h1,h2,hk=>by
  simp at h1 h2;subst h1;subst h2;show bindC kindOf ((p,w)::P.zip vs) m p=_;unfold bindC;rw[tK fun v hv=>(Po.mp nd).1 (Pp hv).1,Ox hk];simp
 |p::P,w::vs,i+1,m,nd,h1,h2,hk=>by
  show bindC kindOf ((p,w)::P.zip vs) m x=_;unfold bindC;exact oa (i:=i) (Po.mp nd).2 (by simpa using h1) (by simpa using h2) hk
def start(N:List Str)(vs:List V):St:=vs.map some++List.replicate (N.length-vs.length) none
def pY(CX:vh)(P:Program)(w:World)(K:W.Frag)(mg:Str->Option Value)(base:Heap)(N:List Str)(qual:Str)(scope:Scope)(f:Addr)(cd:Value)(A:Around)(outer:List Env)(s:Shared)(H:Hp)(E:XK):Cx where
 prog:=P
 w:=w
 K:=K
 mg:=mg
 base:=base
 A:=A.deeper (envOfC qual scope 0e3 f cd)
 N:=N
 s₀:=s
 H₀:=H
 env:=envOfC qual scope 0e3 f cd
 outer:=outer
 stack:=envOfC qual scope 0e3 f cd::outer
 ex:=[]
 calm:=true
 fn:=fun _=>true
 pn:=[]
 xe:=fun e s'=>wpAny (model P w) (A.deeper (envOfC qual scope 0e3 f cd)) (leaving (envOfC qual scope 0e3 f cd) e) (fun _ s''=>CX outer H s E e s'') (fun e' s''=>CX outer H s E e' s'') s'
theorem mZ(h:sc.names.lookup x=some .cell):∃c,(cellsFrom n sc.names []).lookup x=some c:=by
 have q:=W.cellsFrom_some sc.names n [] (.inl h);exact Pq.mp q
theorem Bi{CX:vh}{ps:List Str}{cd:Value}{s1:Shared}{E:XK}(S:aR N ps scope)(hd:A.handled=none)(e0:tW P w K mg base A outer s H)(hl:vs.length=ps.length)(r:ba vs us)(x:InCallC s 0e3 (bindL (envOfC qual scope 0e3 f cd).kindOf (ps.zip us) fun _=>none) (cellsFrom (s.heap.objs.size+1) scope.names []) (bindC (envOfC qual scope 0e3 f cd).kindOf (ps.zip us) fun _=>none) s1):
  aS (pY CX P w K mg base N qual scope f cd A outer s H E) [] (start N vs) H s1:=by
 have hpl:ps.length<=N.length:=by have:=OX List.length S.pre;rw[Pr]at this;omega
 obtain⟨h1,tk,rfl,hk⟩:=x.done;have noA:∀b:Addr,b∉(pY CX P w K mg base N qual scope f cd A outer s H E).ex:=fun b z=>absurd (show b∈([]:List Addr) from z) 1e1
 refine⟨⟨e0.mod,S.kind,rfl,rfl,O9 _,fun y z c h1 h2=>?_,fun y hy=>?_,fun y c _ h=>?_,fun _=>hd,Around.frames_deeper e0.frames,.inr ⟨rfl,rfl⟩,fun b z=>absurd z (noA b),e0.bs,e0.bsz,fun b _ _=>noA b,fun b z=>absurd z (noA b),e0.funs,e0.frf⟩,
  rfl,e0.bare,Un.kept hk,⟨_,x.toInCall.ns,fun i y v h1 h2 h3=>?_⟩,fun y c h=>⟨_,x.cell y c h⟩,e0.hok.fresh (O9 _),fun y c h=>?_,fun p hp=>absurd (show p∈([]:List 2e9) from hp) 1e1,e0.hok.kept hk,?_⟩
 ·exact name_of_addr x.apart (Pt h1) (Pt h2)
 ·have hy : scope.names.lookup y = some .cell \/ scope.names.lookup y = some .free := hy;rcases hy with hy|hy
  ·exact mZ hy
  ·exact absurd rfl (S.nofree _ (Pt hy))
 ·exact OH (x.above y c (Pt h))
 ·have hi:i<vs.length:=by
   unfold start at h2;by_cases hi:i<vs.length
   ·exact hi
   ·rw[Pu (by simpa using hi)]at h2;rw[Pv]at h2;split at h2 <;> cases h2
  have ha:vs[i]?=some v:=by
   unfold start at h2;rw[Pw (by simpa using hi),Px]at h2;cases e:vs[i]? with
   |none=>rw[e]at h2;cases h2
   |some a=>rw[e]at h2;cases h2;rfl
  obtain⟨u,hu,rv⟩:=r.get ha
  have hp:ps[i]?=some y:=by
   rw[<- S.pre,Py 0e1];exact h1
  have ndP:ps.Nodup:=by rw[<- S.pre];exact S.nd.sublist (List.take_sublist _ _)
  refine⟨u,rv,?_⟩;rcases S.par y (Pz hp) with k|k
  ·exact .inl ⟨k,n8 ndP hp hu k⟩
  ·obtain⟨c,e⟩:=mZ (n:=s.heap.objs.size+1) k;refine .inr ⟨.inl k,c,e,?_⟩;have q:=x.cell y c e;rw[oa ndP hp hu (by show scope.names.lookup y≠_;rw[k];decide)]at q;exact q
 ·exact e0.hok.fresh (OH (x.above y c (Pt h)))
 ·unfold start;show _=N.length;rw[PB,PD,PF];omega
theorem zf{CX:vh}{name:Str}{dV kV doc pm ct oc:Value}{od:Option Addr}{ps:List Str}{sp:Sp}(lk:K.lookup f=some ⟨oc,od,.func (W.fnOf name qual params body scope dV kV doc pm an cdv ct),osl⟩)(hcd:W.codeIn K cdv qual=true)(S:aR N ps scope)(len:∀vs H Q E,sp vs H Q E->vs.length=ps.length)(hbody : ∀ (A : Around) (outer : List Env) (s : Shared) (H : Hp) (vs : List V) (Q : VK) (E : XK), dF k (A.deeper (envOfC qual scope 0e3 f cdv)) -> sp vs H Q E ->
   ∃t,ja (pY CX P w K mg base N qual scope f cdv A outer s H E) body t/\t {nx:=fun _ H'=>Q .non H',rt:=Q} (start N vs) H):
  j6 P w K mg base CX (k+1) f (W.fnOf name qual params body scope dV kV doc pm an cdv ct) ps sp:=by
 refine⟨len,fun A outer s H args us vs Q E hr e0 hb r hsp=>?_⟩;have hl:=len _ _ _ _ hsp;have KX:K.In 1e5:=e0.mod.kin.keeps fun b o e=>(e0.bs b o e).1;have lim:s.heap.NoLimit:=e0.mod.nolimit.keeps fun b o e=>(e0.bs b o e).1
 have hkind:∀y∈ps.zip us,scope.names.lookup y.1=some .local\/(scope.names.lookup y.1=some .cell/\((cellsFrom (s.heap.objs.size+1) scope.names []).lookup y.1).isSome=true):=fun⟨n,v⟩ hy=>by
  rcases S.par n (Pp hy).1 with q|q
  ·exact .inl q
  ·exact .inr ⟨q,W.cellsFrom_some _ _ _ (.inl q)⟩
 refine codeAny_call_function hr.depth (KX _ _ lk) rfl S.co S.gen rfl (W.codeRec_of KX hcd) (hb _ _ _ _ ?_);refine wpAny_newFunctionEnv_cells S.kind hkind fun env he s1 x=>?_;subst he;refine⟨lim.keeps x.toInCall.keep,codeAny_func ?_⟩;obtain⟨t,ht,hq⟩:=hbody A outer s H vs Q E (hr.deeper _) hsp;have I:aS (pY CX P w K mg base N qual scope f cdv A outer s H E) [] (start N vs) H s1:=Bi S hr.hd e0 hl r x;refine OU (ht [] s1 (start N vs) H _ I hq) (fun fl s' hs=>?_) fun e s' hs=>hs
 have fin:∀{B':St}{H':Hp}{v:V}{u:Value},aS (pY CX P w K mg base N qual scope f cdv A outer s H E) [] B' H' s'->bG v u->Q v H'->CE outer P w H s Q u s':=
  fun {B' H' v u} J rv q=>⟨v,H',J.os,J.bare,J.base,J.hok,rv,q⟩
 cases fl with
 |ret u=>
  obtain⟨v,B',H',J,rv,q⟩:=hs;exact fin J rv q
 |next=>
  obtain⟨B',H',J,q⟩:=hs;exact fin (v:=V.non) (u:=Value.none) J rfl q
 |brk=>
  obtain⟨_,_,_,q⟩:=hs;exact False.elim q
 |cont=>
  obtain⟨_,_,_,q⟩:=hs;exact False.elim q
end ρ2
variable{CX:ρ2.vh}{sp:ρ2.Sp}
namespace ρ2
open PySem PySem.Spec PyProof.Rows
section
variable{X:Cx}{p:Pos}{es:List Expr}{t:TA}{id:String}{r:List V->Hp->VK->Prop}
def N5(r:List V->Hp->VK->Prop)(t:TA):TE:=fun B H Q=>t B H fun vs H1=>r vs H1 Q
theorem mY (hc:cM X (.builtin id) r) (hg:Gl X x) (hm:X.mg x=none) (hv:bootBuiltins x=some (.builtin id)) (ha:PA X (e::es) t) (hn:x ≠ "__name__" := by decide) (hdb:(x == ("__debug__" : Str))=false:=by decide)
  (he:starEach (e::es) 1e2=(false,eval e 1e2)::starEach es 1e2:=by rfl) (hpl:(backTo pos (starEach es 1e2)).any 2e4=false:=by rfl):PE X (.Call (.Name x p) (e::es) [] pos) (N5 r t):=by
 intro pins s B H Q I h;refine Pm (l6 I hg hm hv ?_ hn hdb);exact PyProof.Rows.callWith_builtin1 (dh (ha pos pins s B H _ I h) fun us s1 ⟨vs,H1,I1,r1,q1⟩=>hc pins s1 B H1 vs us Q I1 r1 q1) he hpl
theorem sP (hc:cM X (.type T) r) (hg:Gl X x) (hm:X.mg x=none) (hv:bootBuiltins x=some (.type T)) (ha:PA X (e::es) t) (hn:x ≠ "__name__" := by decide) (hdb:(x == ("__debug__" : Str))=false:=by decide)
  (he:starEach (e::es) 1e2=(false,eval e 1e2)::starEach es 1e2:=by rfl) (hpl:(backTo pos (starEach es 1e2)).any 2e4=false:=by rfl):PE X (.Call (.Name x p) (e::es) [] pos) (N5 r t):=by
 intro pins s B H Q I h;refine Pm (l6 I hg hm hv ?_ hn hdb);exact Pb (dh (ha pos pins s B H _ I h) fun us s1 ⟨vs,H1,I1,r1,q1⟩=>hc pins s1 B H1 vs us Q I1 r1 q1) he hpl
end
end ρ2
namespace HT
open PySem PyProof.Rows
section
theorem cat_tup{t b:Addr}{vs ws:List Value}(ht:IsTup 1e5 t vs.toArray)(hb:IsTup 1e5 b ws.toArray)(hv:vs≠[])(h1:ws=[]->Q (.ref t) s)(h2:ws≠[]->Q (.ref 0e3) {s with heap:=s.heap.push {cls:=.type "tuple",data:=.seq (vs++ws).toArray}})(hsz:vs.length+ws.length<=sizeLine):wpAny 0e6 A (binaryOp .Add (.ref t) (.ref b)) Q E s:=by
 obtain⟨⟨cls,dd,data,sl⟩,ho,hc,n,hd⟩:=id ht;obtain⟨⟨cls2,dd2,data2,sl2⟩,ho2,hc2,n2,hd2⟩:=id hb;simp only at hc hd hc2 hd2;subst hc hd hc2 hd2;have e:vs.toArray++ws.toArray=(vs++ws).toArray:=by simp
 by_cases hw:ws=[]
 ·exact concat_meets ⟨_,ho,rfl⟩ ⟨_,ho2,rfl⟩ PH seq_tuple_add PJ PL (PM _ _)
   (tuple_addW1 t b vs.toArray ws.toArray n n2 dd dd2 sl sl2 (by simpa using hv) (by simp[hw])) ⟨ho,ho2,h1 hw⟩
 ·refine concat_meets ⟨_,ho,rfl⟩ ⟨_,ho2,rfl⟩ PH seq_tuple_add PJ PL (PM _ _)
   (tuple_addW2 t b vs.toArray ws.toArray n n2 dd dd2 sl sl2 (by simpa using hv) (by simpa using hw) (by rw[Pg,Pg];exact hsz)) ⟨ho,ho2,?_⟩
  rw[e];exact h2 hw
def sIx(n d:Nat):Option Int->Nat
 |none=>d
 |some v=>if v<0 then (v+(n:Int)).toNat else min v.toNat n
theorem sIx_none(n d:Nat):sIx n d none=d:=rfl
theorem sIx_nat(n d k:Nat):sIx n d (some (k:Int))=min k n:=by
 show (if (k:Int)<0 then ((k:Int)+(n:Int)).toNat else min (k:Int).toNat n)=min k n;rw[Ox 0e1,PN]
theorem Ji(n d:Nat)(hd:d<=n)(o:Option Int):sIx n d o<=n:=by
 cases o with
 |none=>exact hd
 |some v=>
  show (if v<0 then (v+(n:Int)).toNat else min v.toNat n)<=n;by_cases hv:v<0
  ·rw[Ow hv];omega
  ·rw[Ox hv];exact PQ _ _
theorem z5(v:Int)(n d:Nat):(if v<0 then max (v+(n:Int)) 0 else min v (n:Int))=((sIx n d (some v):Nat):Int):=by
 show (if v<0 then max (v+(n:Int)) 0 else min v (n:Int))=(((if v<0 then (v+(n:Int)).toNat else min v.toNat n):Nat):Int);by_cases hv:v<0
 ·dsimp[Ow hv];omega
 ·dsimp[Ox hv];omega
theorem yW(lo hi:Option Int)(n:Nat):Builtin.Slice.sliceAdjust lo hi 1 (n:Int)=(((sIx n 0 lo:Nat):Int),((sIx n n hi:Nat):Int)):=by
 have h1:¬ ((1:Int)<0):=by omega
 unfold Builtin.Slice.sliceAdjust;dsimp[h1,PR];refine Prod.ext ?_ ?_
 ·cases lo with
  |none=>rfl
  |some v=>exact z5 v n 0
 ·cases hi with
  |none=>rfl
  |some v=>exact z5 v n n
theorem yr(i j:Nat):Builtin.Slice.slicePlaces (i:Int) (j:Int) 1=j-i:=by
 unfold Builtin.Slice.slicePlaces;have h1:(1:Int)>0:=by omega
 dsimp[h1,PU,Int.ediv_one];split <;> omega
theorem qN{v:Value}{o:Option Int}{Q:Option Int->Shared->Prop}(p:IsPart v o)(h:Q o s):wpAny 0e6 A (Builtin.Slice.slicePartIndex v) Q E s:=by
 cases p with
 |none=>exact PV h
 |int i t=>exact slicePart_int h
theorem sliceApplied_gen{vu:Value}{hi:Option Int}{Q:Int×Int×Nat->Shared->Prop}(hs:s.heap.IsSliceOf sl vl vu .none)(pl:IsPart vl lo)(pu:IsPart vu hi)(h:Q (((sIx n 0 lo:Nat):Int),1,sIx n n hi-sIx n 0 lo) s):wpAny 0e6 A (Builtin.Slice.sliceApplied (.ref sl) (pure (n:Int))) Q E s:=by
 obtain⟨os,hos,hcs,hds⟩:=id hs;unfold Builtin.Slice.sliceApplied Builtin.Slice.sliceFields;refine OZ (OZ (PX hos hds (x:=vl) rfl (OZ (PX hos hds (x:=vu) rfl (OZ (PX hos hds (x:=.none) rfl (O5 ?_)))))));refine OZ (PV ?_);show wpAny _ _ (if ((1:Int) == 0)=true then _ else _) _ _ s;rw[Ox 0e4];refine OZ (qN pl (OZ (qN pu (OZ (O5 ?_)))));show wpAny _ _ (match Builtin.Slice.sliceAdjust lo hi 1 (n:Int) with|(lo,hi)=>pure (lo,(1:Int),Builtin.Slice.slicePlaces lo hi 1)) _ _ s;rw[yW lo hi n];show wpAny _ _ (pure (((sIx n 0 lo:Nat):Int),(1:Int),Builtin.Slice.slicePlaces ((sIx n 0 lo:Nat):Int) ((sIx n n hi:Nat):Int) 1)) _ _ s;rw[yr];exact O5 h
theorem DG(xs:Array Value)(i k:Nat):((List.range k).filterMap fun(m:Nat)=>xs[((i:Int)+(m:Int)*1).toNat]?).toArray=((xs.toList.drop i).take k).toArray:=by
 have e:(fun(m:Nat)=>xs[((i:Int)+(m:Int)*1).toNat]?)=fun m=>xs[i+m]?:=by
  funext m;have:((i:Int)+(m:Int)*1).toNat=i+m:=by omega
  rw[this]
 rw[e];have:=pick_run xs i k;rw[PY]at this;have e2:((fun x=>xs[x]?) ∘ fun x=>i+x)=fun m=>xs[i+m]?:=rfl;rw[e2]at this;rw[this]
theorem getItem_tuple_cut{t:Addr}{items:Array Value}{vu:Value}{hi:Option Int}(ht:IsTup 1e5 t items)(hs:s.heap.IsSliceOf sl vl vu .none)(pl:IsPart vl lo)(pu:IsPart vu hi)(hw:¬ (sIx 2e8 0 lo=0/\sIx 2e8 2e8 hi=2e8))(h:Q (.ref 0e3) {s with heap:=s.heap.push {cls:=.type "tuple",data:=.seq ((items.toList.drop (sIx 2e8 0 lo)).take (sIx 2e8 2e8 hi-sIx 2e8 0 lo)).toArray}})(hsz:items.size<=sizeLine):wpAny 0e6 A (getItem (.ref t) (.ref sl)) Q E s:=by
 have htake:sizeOk (.seq ((items.toList.drop (sIx 2e8 0 lo)).take (sIx 2e8 2e8 hi-sIx 2e8 0 lo)).toArray):=by
  show ((items.toList.drop (sIx 2e8 0 lo)).take (sIx 2e8 2e8 hi-sIx 2e8 0 lo)).toArray.size<=sizeLine;rw[Pg,Pr,PZ,OW];omega
 have hj:sIx 2e8 2e8 hi<=items.size:=Ji _ _ (O9 _) hi;obtain⟨os,hos,hcs,hds⟩:=id hs;have hTs:s.TypeIs (.ref sl) "slice" := ⟨os,hos,hcs⟩;unfold getItem
 try with_reducible refine O0 ?_
 first|refine OZ (O5 ?_)|skip
 refine OZ (P9 ht.typeIs 0e4 ?_)
 refine OZ (Qa (name:=Str.ofString "__getitem__") ht.typeIs Qb
  (Qc Qb ht.typeIs Qd ?_ (Qe _ _)))
 show wpAny _ _ (Builtin.Tuple.tupleItemsOf (.ref t) >>= _) _ _ s;refine OZ (tupleItemsOf_ ht ?_);refine OZ (Qf hTs ?_);rw[Ow 0e4];refine OZ (sliceApplied_gen hs pl pu ?_)
 have hno:¬ ((((sIx 2e8 0 lo:Nat):Int) == 0&&(1:Int) == 1&&(sIx 2e8 2e8 hi-sIx 2e8 0 lo) == items.size)=true):=by
  intro q;rw[Qg,Qg]at q;have q1:((sIx 2e8 0 lo:Nat):Int)=0:=eq_of_beq q.1.1;have q2:sIx 2e8 2e8 hi-sIx 2e8 0 lo=items.size:=eq_of_beq q.2;exact hw ⟨by omega,by omega⟩
 show wpAny _ _ (if (((sIx 2e8 0 lo:Nat):Int) == 0&&(1:Int) == 1&&(sIx 2e8 2e8 hi-sIx 2e8 0 lo) == items.size)=true then _ else _) _ _ s;rw[Ox hno,DG]
 first
  |exact OZ (m:=Builtin.Tuple.tupleExact _) (Qh (O5 ⟨_,rfl,O5 h⟩) htake)
  |exact OZ (m:=Builtin.Tuple.tupleExact _) (Qh (OZ (O5 (O5 ⟨_,rfl,O5 h⟩))) htake)
  |exact OZ (OZ (m:=Builtin.Tuple.tupleExact _) (Qh (O5 (O5 ⟨_,rfl,O5 h⟩)) htake))
  |exact OZ (OZ (m:=Builtin.Tuple.tupleExact _) (Qh (O5 ⟨_,rfl,O5 h⟩) htake))
end
end HT
namespace ρ2
open PySem PySem.Spec PyProof.Rows
abbrev TO:=St->Hp->(Option Int->Hp->Prop)->Prop
def PO(X:Cx)(e:Option Expr)(t:TO):Prop:=
 ∀(pins:List 2e9)(s:Shared)(B:St)(H:Hp)(Q:Option Int->Hp->Prop),aS X pins B H s->t B H Q ->
  wpAny 0e7 X.A (evalPart e 1e2) (fun u s'=>∃o H',aS X pins B H' s'/\IsPart u o/\Q o H') X.xe s
def Fh:TO:=fun _ H Q=>Q none H
def LQ(t:TE):TO:=fun B H Q=>t B H fun x H1=>∃i,x=.int i/\Q (some i) H1
theorem fA:∀{us:List Value},ba (ns.map V.int) us->IntsAre us ns:=by
 induction ns with
 |nil=>intro us r;rw[Qi]at r;cases r;exact .nil
 |cons n ns ih=>
  intro us r;rw[Qj]at r;cases r with
  |cons r1 r2=>
   obtain⟨t,e⟩:=r1;subst e;exact .cons n t (ih r2)
section
variable{X:Cx}{lo hi:Option Expr}{tl th:TO}
theorem F6:PO X none Fh:=by
 intro pins s B H Q I h;rw[evalPart_none];exact O5 ⟨none,H,I,.none,h⟩
theorem F5(h:PE X e te):PO X (some e) (LQ te):=by
 intro pins s B H Q I hw;rw[evalPart_some];refine dh (h pins s B H _ I hw) fun u s1 ⟨x,H1,I1,r1,q1⟩=>?_;obtain⟨i,rfl,q⟩:=q1;obtain⟨t,rfl⟩:=r1;exact⟨some i,H1,I1,.int i t,q⟩
def EM(X:Cx)(r:V->Option Int->Option Int->Hp->VK->Prop):Prop:=
 ∀(pins:List 2e9)(s:Shared)(B:St)(H:Hp)(x:V)(v vl vu:Value)(lo hi:Option Int)(sl:Addr)(Q:VK),aS X pins B H s->bG x v->s.heap.IsSliceOf sl vl vu .none->IsPart vl lo->IsPart vu hi->r x lo hi H Q ->
  ∃T id,typeLookup (.type T) "__getitem__" = pure (some (.builtin id))/\s.TypeIs v T/\wpAny 0e7 X.A (getItem v (.ref sl)) (EP X pins B Q) X.xe s
theorem EM.or{r r':V->Option Int->Option Int->Hp->VK->Prop}(h:EM X r)(h':EM X r'):EM X (fun x lo hi H Q=>r x lo hi H Q\/r' x lo hi H Q):=by
 intro pins s B H x v vl vu lo hi sl Q I rx hs pl pu q;rcases q with q|q
 ·exact h pins s B H x v vl vu lo hi sl Q I rx hs pl pu q
 ·exact h' pins s B H x v vl vu lo hi sl Q I rx hs pl pu q
def Od(r:V->Option Int->Option Int->Hp->VK->Prop)(te:TE)(tl th:TO):TE:=fun B H Q=>te B H fun x H1=>tl B H1 fun l H2=>th B H2 fun u H3=>r x l u H3 Q
theorem DI{r:V->Option Int->Option Int->Hp->VK->Prop}(hr:EM X r)(he:PE X e te)(hl:PO X lo tl)(hu:PO X hi th):PE X (.Subscript e (.Slice lo hi none p2) pos) (Od r te tl th):=by
 intro pins s B H Q I h;refine Subscript_ (dh (he pins s B H _ I h) fun v s1 ⟨x,H1,I1,r1,q1⟩=>?_);refine wpAny_Slice (dh (hl pins s1 B H1 _ I1 q1) fun vl s2 ⟨l,H2,I2,pl,q2⟩=>dh (hu pins s2 B H2 _ I2 q2) fun vu s3 ⟨u,H3,I3,pu,q3⟩=>?_);rw[evalPart_none];refine O5 ?_;have I4:aS X pins B H3 {s3 with heap:=s3.heap.push {cls:=.type "slice",data:=.fields #[vl,vu,.none]}}:=I3.kept (t':=s3.toks) fun b ob q=>O8 _ q;obtain⟨T,id,hT,ht,hg⟩:=hr pins {s3 with heap:=s3.heap.push {cls:=.type "slice",data:=.fields #[vl,vu,.none]}} B H3 x v vl vu l u s3.heap.objs.size Q I4 r1 (Qk ..) pl pu q3;show wpAny 0e7 X.A (subscriptTail e (.Slice lo hi none p2) v (.ref s3.heap.objs.size)) (EP X pins B Q) X.xe {s3 with heap:=s3.heap.push {cls:=.type "slice",data:=.fields #[vl,vu,.none]}};exact tail_any (ops:=[.ref s3.heap.objs.size,v]) ht hT hg (by with_unfolding_all rfl)
def vx(xs:List V)(lo hi:Option Int):List V:=(xs.drop (HT.sIx 3e9 0 lo)).take (HT.sIx 3e9 3e9 hi-HT.sIx 3e9 0 lo)
theorem oR(xs:List V)(lo hi:Option Int):(vx xs lo hi).length<=xs.length:=by
 unfold vx;rw[Pr,PZ];omega
def Le(K:W.Frag):V->Option Int->Option Int->Hp->VK->Prop:=fun x lo hi H Q=>∃a xs,x=.ref a/\eK K H a xs /\
 ¬ (HT.sIx 3e9 0 lo=0/\HT.sIx 3e9 3e9 hi=3e9)/\∀p,H p=none->Q (.ref p) (bq H p (.tup (vx xs lo hi)))
theorem tY:EM X (Le X.K):=by
 intro pins s B H x v vl vu lo hi sl Q I rx hs pl pu h;obtain⟨a,xs,rfl,hx,hw,q⟩:=h;cases rx;obtain⟨its,r,ht,hz⟩:=I.tuple hx;have hlen:its.toArray.size=xs.length:=by rw[Pg];exact r.length.symm
 refine⟨"tuple",_,Qb.lookup,ht.typeIs,?_⟩;refine HT.getItem_tuple_cut ht hs pl pu (by rw[hlen];exact hw) ?_ (by rw[hlen];exact hz);rw[hlen];refine⟨.ref 0e3,_,I.laid (t':=s.toks) (o:=.tup (vx xs lo hi)) (fun b ob q=>O8 _ q) (O9 _) ?_,rfl,q _ (I.hok.fresh (O9 _))⟩;exact⟨OG (oR xs lo hi) hz,_,(r.drop (HT.sIx 3e9 0 lo)).take (HT.sIx 3e9 3e9 hi-HT.sIx 3e9 0 lo),jd.new _ _⟩
def Mg(K:W.Frag):R2:=fun x y H Q=>∃a b xs ys,x=.ref a/\y=.ref b/\eK K H a xs/\eK K H b ys/\xs≠[]/\xs.length+ys.length<=sizeLine /\
 (ys=[]->Q (.ref a) H)/\(ys≠[]->∀p,H p=none->Q (.ref p) (bq H p (.tup (xs++ys))))
theorem ba.nil_iff{xs:List V}(r:ba xs us):us=[]↔xs=[]:=by
 cases r with
 |nil=>simp
 |cons _ _=>simp
theorem Gq:jR X (binaryOp .Add) (Mg X.K):=by
 intro pins s B H x y v u Q I rx ry h;obtain⟨a,b,xs,ys,rfl,rfl,ha,hb,hx,hz,q1,q2⟩:=h;cases rx;cases ry;obtain⟨its,r1,p1,_⟩:=I.tuple ha;obtain⟨its2,r2,p2,_⟩:=I.tuple hb;refine HT.cat_tup p1 p2 (fun z=>hx (r1.nil_iff.mp z)) (fun z=>⟨.ref a,H,I,rfl,q1 (r2.nil_iff.mp z)⟩) (fun z=>?_) (by rw[<- r1.length,<- r2.length];exact hz);refine⟨.ref 0e3,_,I.laid (t':=s.toks) (o:=.tup (xs++ys)) (fun b ob q=>O8 _ q) (O9 _) ?_,rfl,q2 (fun w=>z (r2.nil_iff.mpr w)) _ (I.hok.fresh (O9 _))⟩;exact⟨by rw[PB];exact hz,_,r1.append r2,jd.new _ _⟩
end
def y0(n:Nat)(i:Int):Option Nat:=if 0<=i then (if i<n then some i.toNat else none) else if -(n:Int)<=i then some (i+n).toNat else none
def atI{Z:Type}(xs:List Z)(i:Int):Option Z:=(y0 3e9 i).bind fun j=>xs[j]?
theorem zQ{i:Int}(h:y0 n i=some j):seqIndex? i n=some j/\j<n/\-(n:Int)<=i/\i<n:=by
 unfold y0 at h;by_cases h0:0<=i
 ·rw [Ow h0] at h;by_cases h1:i<n
  ·rw[Ow h1]at h;have e:i.toNat=j:=Oq h;exact⟨by rw[seqIndex_of h0 h1,e],by omega,by omega,h1⟩
  ·rw[Ox h1]at h;cases h
 ·rw [Ox h0] at h;by_cases h1:-(n:Int)<=i
  ·rw[Ow h1]at h;have e:(i+n).toNat=j:=Oq h;exact⟨by rw[seqIndex_neg 0e1 h1,e],by omega,h1,by omega⟩
  ·rw[Ox h1]at h;cases h
theorem uG{Z:Type}{xs:List Z}{i:Int}{v:Z}(h:atI xs i=some v):∃j,seqIndex? i 3e9=some j/\xs[j]?=some v/\j<xs.length/\-(xs.length:Int)<=i/\i<xs.length:=by
 unfold atI at h;cases e:y0 3e9 i with
 |none=>rw[e]at h;cases h
 |some j=>
  rw[e]at h;obtain⟨h1,h2,h3,h4⟩:=zQ e;exact⟨j,h1,h,h2,h3,h4⟩
theorem mQ{Z:Type}{xs:List Z}{v:Z}(h:xs[j]?=some v):atI xs (j:Int)=some v:=by
 have hj:j<xs.length:=(OQ.mp h).1
 have e:y0 3e9 (j:Int)=some j:=by
  unfold y0;rw[Ow 0e1,Ow 0e1];simp
 unfold atI;rw[e];exact h
def uI(b:Expr):Prop:=∀o i,subscripted b false o i=operate [o,i] (getItem o i)
def ER(X:Cx)(r:R2):Prop:=
 ∀(value slice:Expr)(pins:List 2e9)(s:Shared)(B:St)(H:Hp)(x y:V)(v u:Value)(Q:VK),aS X pins B H s->bG x v->bG y u->r x y H Q ->
  subscripted slice false v u=operate [v,u] (getItem v u)->wpAny 0e7 X.A (subscriptTail value slice v u) (EP X pins B Q) X.xe s
def N8(X:Cx)(id:String)(r:V->List V->Hp->VK->Prop):Prop:=
 ∀(pins:List 2e9)(s:Shared)(B:St)(H:Hp)(x:V)(xs:List V)(v:Value)(us:List Value)(Q:VK),aS X pins B H s->bG x v->ba xs us->r x xs H Q ->
  wpAny 0e7 X.A (call (.builtin id) (v::us)) (EP X pins B Q) X.xe s
section
variable{X:Cx}{a b:Expr}{tb:TE}
theorem ER.or{r r':R2}(h:ER X r)(h':ER X r'):ER X (fun x y H Q=>r x y H Q\/r' x y H Q):=by
 intro value slice pins s B H x y v u Q I rx ry q hs;rcases q with q|q
 ·exact h value slice pins s B H x y v u Q I rx ry q hs
 ·exact h' value slice pins s B H x y v u Q I rx ry q hs
theorem HG{r:R2}(hr:ER X r)(ha:PE X a ta)(hb:PE X b tb)(hs:uI b):PE X (.Subscript a b pos) (K3 r ta tb):=by
 intro pins s B H Q I h;exact Subscript_ (Ik ha hb I h fun v u s2 x y H2 I2 rx ry q=>hr a b pins s2 B H2 x y v u Q I2 rx ry q (hs _ _))
def Ic(K:W.Frag):R2:=fun x y H Q=>∃p xs i v,x=.ref p/\y=.int i/\fG K H p xs/\atI xs i=some v/\Q v H
def Lj(K:W.Frag):R2:=fun x y H Q=>∃p xs i v,x=.ref p/\y=.int i/\eK K H p xs/\atI xs i=some v/\Q v H
def Lk:R2:=fun x y H Q=>∃z i c,x=.str z/\y=.int i/\z.length<=sizeLine/\atI z.cps.toList i=some c/\Q (.str ⟨#[c]⟩) H
theorem zP:ER X (Ic X.K):=by
 intro value slice pins s B H x y v u Q I rx ry h hs;obtain⟨p,xs,i,z,rfl,rfl,hq,he,q⟩:=h;cases rx;obtain⟨t,rfl⟩:=ry;obtain⟨its,r,pl,hz⟩:=I.list hq;obtain⟨j,h1,h2,h3,h4,h5⟩:=uG he;obtain⟨w,ew,rw'⟩:=r.get h2;have hl:=r.length;have hn:=nJ;have fin:EP X pins B Q w s:=⟨z,H,I,rw',q⟩;by_cases h0:0<=i
 ·have hj:i.toNat=j:=by
   rw[seqIndex_of h0 h5]at h1;exact Oq h1
  exact item_listR pl.isList h0 0e1 (by rw[hj];simpa using ew) fin hs
 ·have hj:(i+(its.toArray.size:Int)).toNat=j:=by
   rw[seqIndex_neg 0e1 h4]at h1;rw[Pg,<- hl];exact Oq h1
  exact subscriptTail_builtinR (x:=w) pl.isList.typeIs Ql.lookup
   (wpAny_getItem_list_neg (Q:=fun r s'=>r=w/\EP X pins B Q r s') pl.isList 0e1 (by rw[Pg] <;> omega) 0e1 (by rw[hj];simpa using ew) ⟨rfl,fin⟩) hs
theorem Ki:ER X (Lj X.K):=by
 intro value slice pins s B H x y v u Q I rx ry h hs;obtain⟨p,xs,i,z,rfl,rfl,hq,he,q⟩:=h;cases rx;obtain⟨t,rfl⟩:=ry;obtain⟨its,r,pl,hz⟩:=I.tuple hq;obtain⟨j,h1,h2,h3,h4,h5⟩:=uG he;obtain⟨w,ew,rw'⟩:=r.get h2;have hl:=r.length;have hn:=nJ;have fin:EP X pins B Q w s:=⟨z,H,I,rw',q⟩
 exact subscriptTail_builtinR (x:=w) pl.typeIs slot_tuple_getitem.lookup
  (getItem_tuple (j:=j) (Q:=fun r s'=>r=w/\EP X pins B Q r s') pl 0e1 0e1 (by rw[Pg,<- hl];exact h1) (by simpa using ew) ⟨rfl,fin⟩) hs
theorem Kj:ER X Lk:=by
 intro value slice pins s B H x y v u Q I rx ry h hs;obtain⟨z,i,c,rfl,rfl,hz,he,q⟩:=h;obtain⟨t,rfl⟩:=rx;obtain⟨t',rfl⟩:=ry;obtain⟨j,h1,h2,h3,h4,h5⟩:=uG he;have hl:z.cps.toList.length=z.length:=by simp[Str.length]
 rw[hl]at h1 h4 h5;have hn:=nJ
 exact tail_any (typeIs_str s z t) slot_str_getitem.lookup (getItem_str (c:=c) (by
  have e1:decide (i < -(2^63:Int))=false:=Ot 0e1;have e2:decide (i ≥ 2^63)=false:=Ot 0e1
  rw[e1,e2,Bool.or_false]) (by rw[h1];simpa using h2) ⟨.str ⟨#[c]⟩,H,I.tok _,⟨_,rfl⟩,q⟩) hs
def N6(K:W.Frag):R2:=fun x y H Q=>Ic K x y H Q\/Lj K x y H Q\/Lk x y H Q
theorem Kk:ER X (N6 X.K):=zP.or (Ki.or Kj)
theorem yB (its:List Value) (n j:Nat) (u:Value):Obj.mapSeq (·.setIfInBounds j u) {cls:=.type "list",data:=.seq 2e3 n}={cls:=.type "list",data:=.seq (its.set j u).toArray n}:=by
 simp[Obj.mapSeq]
theorem aS.lst{p:Addr}{xs:List V}(I:aS X pins B H s)(h:H p=some 2e6):
  ∃(its:List Value) (n:Nat),ba xs its/\s.heap.get? p=some {cls:=.type "list",data:=.seq 2e3 n}/\xs.length<=sizeLine:=by
 obtain⟨z,its,n,r,e⟩:=I.hok p _ h;exact⟨its,n,r,e,z⟩
theorem aS.lstUpd{p:Addr}{xs ys:List V}{its':List Value}{n':Nat}{f:Obj->Obj}(I:aS X pins B H s)(h:H p=some 2e6)(ho:s.heap.get? p=some {cls:=.type "list",data:=.seq 2e3 n})(hf:f {cls:=.type "list",data:=.seq 2e3 n}={cls:=.type "list",data:=.seq its'.toArray n'})(r:ba ys its')(hz:ys.length<=sizeLine)(t:Nat):
  aS X pins B (bq H p (.lst ys)) {s with heap:=s.heap.update p f,toks:=t}:=by
 have e:(s.heap.update p f).get? p=some {cls:=.type "list",data:=.seq its'.toArray n'}:=by
  rw[Qm f ho (by rw[hf] <;> rfl),hf]
 refine I.write (x:=p) (e:=p) (by rw[h];trivial) (.inl rfl) (fun b u hb q=>(Qn _ _ (ON hb)).trans q) ⟨_,e⟩ ?_;exact⟨hz,its',n',r,e⟩
def Hx:V->V->V->Hp->(Hp->Prop)->Prop:=fun o i v H Q=>∃p xs k j,o=.ref p/\i=.int k/\H p=some 2e6/\y0 3e9 k=some j/\Q (bq H p (.lst (xs.set j v)))
theorem Dp:LF X Hx:=by
 intro pins s B H o i v ov iv u Q I ro ri rv h;obtain⟨p,xs,k,j,rfl,rfl,hp,hj,q⟩:=h;cases ro;obtain⟨t,rfl⟩:=ri;obtain⟨its,n,r,ho,hz⟩:=I.lst hp;obtain⟨h1,h2,h3,h4⟩:=zQ hj;have hl:=r.length;have hn:=nJ
 have I':aS X pins B (bq H p (.lst (xs.set j v))) {s with heap:=s.heap.update p (Obj.mapSeq (·.setIfInBounds j u))}:=
  I.lstUpd hp ho (yB its n j u) (r.set rv j) (by rw[Qo];exact hz) s.toks
 by_cases h0:0<=k
 ·have hk:k.toNat=j:=by
   rw[seqIndex_of h0 h4]at h1;exact Oq h1
  exact W.ki_setAt ho h0 0e1 (by rw[Pg,<- hl];exact h4) (by rw[hk];exact⟨_,I',q⟩)
 ·have hk:(k+(its.toArray.size:Int)).toNat=j:=by
   rw[seqIndex_neg 0e1 h3]at h1;rw[Pg,<- hl];exact Oq h1
  exact W.ki_setBack ho 0e1 (by rw[Pg,<- hl];exact h3) 0e1 (by rw[hk];exact⟨_,I',q⟩)
theorem uO(lo hi:Option Int)(n:Nat):(sliceBounds lo hi none n).1=((HT.sIx n 0 lo:Nat):Int)/\(sliceBounds lo hi none n).2.1=((HT.sIx n n hi:Nat):Int)/\(sliceBounds lo hi none n).2.2=1:=by
 refine⟨?_,?_,rfl⟩
 ·cases lo with
  |none=>simp[sliceBounds,HT.sIx]
  |some i=>
   dsimp[sliceBounds,HT.sIx,Option.getD_none,show (1:Int)>0 by decide,PU];by_cases h:i<0
   ·dsimp[h,PU] <;> omega
   ·dsimp[h,PR] <;> omega
 ·cases hi with
  |none=>simp[sliceBounds,HT.sIx]
  |some i=>
   dsimp[sliceBounds,HT.sIx,Option.getD_none,show (1:Int)>0 by decide,PU];by_cases h:i<0
   ·dsimp[h,PU] <;> omega
   ·dsimp[h,PR] <;> omega
theorem r8(its:List Value)(lo hi:Option Int):slicePick 2e3 lo hi none=((its.drop (HT.sIx its.length 0 lo)).take (HT.sIx its.length its.length hi-HT.sIx its.length 0 lo)).toArray:=by
 obtain⟨h1,h2,h3⟩:=uO lo hi its.toArray.size;unfold slicePick;rw[h1,h2,h3];dsimp[sliceRange_one,pick_run,Pg] <;> rfl
def Lg(K:W.Frag):V->Option Int->Option Int->Hp->VK->Prop:=fun x lo hi H Q=>∃a xs,x=.ref a/\fG K H a xs/\∀p,H p=none->Q (.ref p) (bq H p (.lst (vx xs lo hi)))
theorem FE:EM X (Lg X.K):=by
 intro pins s B H x v vl vu lo hi sl Q I rx hs pl pu h;obtain⟨a,xs,rfl,hx,q⟩:=h;cases rx;obtain⟨its,r,ht,hz⟩:=I.list hx;have hlen:=r.length;refine⟨"list",_,Ql.lookup,ht.isList.typeIs,?_⟩;refine wpAny_getItem_list_slice ht.isList hs pl pu .none 1e1 ?_ (by rw[Pg] <;> omega);rw[r8,<- hlen];refine⟨.ref 0e3,_,I.laid (t':=s.toks) (o:=.lst (vx xs lo hi)) (fun b ob q=>O8 _ q) (O9 _) ?_,rfl,q _ (I.hok.fresh (O9 _))⟩;exact⟨OG (oR xs lo hi) hz,_,0,(r.drop (HT.sIx 3e9 0 lo)).take (HT.sIx 3e9 3e9 hi-HT.sIx 3e9 0 lo),Oy _ rfl⟩
def kj:V->Bool
 |.non=>true
 |.bl _=>true
 |.int _=>true
 |.str _=>true
 |_=>false
def y3:V->V->Bool
 |.non,.non=>true
 |.bl a,.bl b=>a == b
 |.bl a,.int b=>(if a then 1 else 0) == b
 |.int a,.bl b=>a == (if b then 1 else 0)
 |.int a,.int b=>a == b
 |.str a,.str b=>a == b
 |_,_=>false
theorem KE{x:V}{v:Value}(ry:bG y u)(rx:bG x v)(fy:kj y=true)(fx:kj x=true):SeqAt.EqAt A s u v (y3 y x):=by
 cases y with
 |non=>
  cases ry;cases x with
  |non=>cases rx;exact SeqAt.EqAt.same _
  |bl b=>cases rx;exact SeqAt.EqAt.none_bool b
  |int b=>obtain⟨t,rfl⟩:=rx;exact SeqAt.EqAt.none_int b t
  |str b=>obtain⟨t,rfl⟩:=rx;exact SeqAt.EqAt.none_str b t
  |_=>exact absurd (show false=true from fx) O3
 |bl a=>
  cases ry;cases x with
  |non=>cases rx;exact SeqAt.EqAt.bool_none a
  |bl b=>cases rx;exact SeqAt.EqAt.bool_bool a b
  |int b=>obtain⟨t,rfl⟩:=rx;exact SeqAt.EqAt.bool_int a b t
  |str b=>obtain⟨t,rfl⟩:=rx;exact SeqAt.EqAt.bool_str a b t
  |_=>exact absurd (show false=true from fx) O3
 |int a=>
  obtain⟨t',rfl⟩:=ry;cases x with
  |non=>cases rx;exact SeqAt.EqAt.int_none a t'
  |bl b=>cases rx;exact SeqAt.EqAt.int_bool a t' b
  |int b=>obtain⟨t,rfl⟩:=rx;exact SeqAt.EqAt.int_int a t' b t
  |str b=>obtain⟨t,rfl⟩:=rx;exact SeqAt.EqAt.int_str a t' b t
  |_=>exact absurd (show false=true from fx) O3
 |str a=>
  obtain⟨t',rfl⟩:=ry;cases x with
  |non=>cases rx;exact SeqAt.EqAt.str_none a t'
  |bl b=>cases rx;exact SeqAt.EqAt.str_bool a t' b
  |int b=>obtain⟨t,rfl⟩:=rx;exact SeqAt.EqAt.str_int a t' b t
  |str b=>obtain⟨t,rfl⟩:=rx;exact SeqAt.EqAt.str_str a t' b t
  |_=>exact absurd (show false=true from fx) O3
 |_=>exact absurd (show false=true from fy) O3
def HV(x:V)(u:Value):Bool:=match u with
 |.none=>y3 .non x
 |.bool b=>y3 (.bl b) x
 |.int i _=>y3 (.int i) x
 |.str z _=>y3 (.str z) x
 |_=>false
theorem x6{x:V}(r:bG y u)(f:kj y=true):HV x u=y3 y x:=by
 cases y with
 |non=>cases r;rfl
 |bl b=>cases r;rfl
 |int i=>obtain⟨t,rfl⟩:=r;rfl
 |str z=>obtain⟨t,rfl⟩:=r;rfl
 |_=>exact absurd (show false=true from f) O3
theorem qy{A:Around}{s:Shared}{x:V}{v:Value}(rx:bG x v)(fx:kj x=true):∀{xs:List V}{us:List Value},ba xs us->xs.all kj=true->∀u∈us,SeqAt.EqAt A s u v (HV x u)
 |_,_,.nil,_=>fun u hu=>by cases hu
 |y::xs,u::us,.cons r t,f=>fun u' hu=>by
  rw[Qp,Qg]at f;rcases OM.mp hu with rfl|hu
  ·rw[x6 r f.1];exact KE r rx f.1 fx
  ·exact qy rx fx t f.2 u' hu
theorem cM.or{f:Value}{r r':List V->Hp->VK->Prop}(h:cM X f r)(h':cM X f r'):cM X f (fun xs H Q=>r xs H Q\/r' xs H Q):=by
 intro pins s B H xs us Q I rs q;rcases q with q|q
 ·exact h pins s B H xs us Q I rs q
 ·exact h' pins s B H xs us Q I rs q
theorem vb:cM X (.type "list") (fun xs H Q=>∃p ys,xs=[.ref p]/\(fG X.K H p ys\/eK X.K H p ys)/\∀l,H l=none->Q (.ref l) (bq H l (.lst ys))):=by
 intro pins s B H xs us Q I r h;obtain⟨p,ys,rfl,hq,q⟩:=h;obtain⟨u,rfl,rx⟩:=eE r;cases rx
 have fin:∀(its:List Value),ba ys its->ys.length<=sizeLine->∀(h':Heap)(c':Nat),(∀b o',s.heap.get? b=some o'->h'.get? b=some o') ->
   h'.get? 0e3=some {cls:=.type "list",dict:=none,data:=.seq 2e3 c',slots:=#[]}->EP X pins B Q (.ref 0e3) {s with heap:=h'}:=fun its r' hz h' c' kp e=>
  ⟨.ref 0e3,_,I.laid (t':=s.toks) kp (O9 _) (show cf X.prog X.w _ h' _ (.lst ys) from⟨hz,its,c',r',e⟩),rfl,q _ (I.hok.fresh (O9 _))⟩
 rcases hq with hq|hq
 ·obtain⟨its,r',pl,hz⟩:=I.list hq;have hlen:=r'.length;obtain⟨o,ho,hc,n,hd⟩:=pl.isList;exact call_list_seq p (.inl rfl) ho hc hd (fun h' c' kp e=>fin its r' hz h' c' kp e) (by dsimp[Pg] <;> omega)
 ·obtain⟨its,r',pl,hz⟩:=I.tuple hq;have hlen:=r'.length;obtain⟨o,ho,hc,n,hd⟩:=pl;exact call_list_seq p (.inr rfl) ho hc hd (fun h' c' kp e=>fin its r' hz h' c' kp e) (by dsimp[Pg] <;> omega)
theorem sk:cM X (.type "tuple") (fun xs H Q=>∃p ys,xs=[.ref p]/\((fG X.K H p ys/\∀l,H l=none->Q (.ref l) (bq H l (.tup ys)))\/(eK X.K H p ys/\Q (.ref p) H))):=by
 intro pins s B H xs us Q I r h;obtain⟨p,ys,rfl,h⟩:=h;obtain⟨u,rfl,rx⟩:=eE r;cases rx;rcases h with⟨hq,q⟩|⟨hq,q⟩
 ·obtain ⟨its, r', pl, hz⟩ := I.list hq;have hlen:=r'.length;refine call_tuple_list pl.isList (fun h' kp=>?_) (by dsimp[Pg] <;> omega);have I1:aS X pins B H {s with heap:=h'}:=I.kept (t':=s.toks) kp
  have I2:aS X pins B (bq H h'.objs.size (.tup ys)) {s with heap:=h'.push {cls:=.type "tuple",data:=.seq 2e3}}:=
   I1.laid (t':=s.toks) (fun b o e=>O8 _ e) (O9 _) (show cf X.prog X.w _ _ _ (.tup ys) from⟨hz,its,r',jd.new _ _⟩)
  exact⟨.ref h'.objs.size,_,I2,rfl,q _ (I1.hok.fresh (O9 _))⟩
 ·obtain⟨its,r',pl,hz⟩:=I.tuple hq;exact call_tuple_same pl ⟨.ref p,H,I,rfl,q⟩
def Nk(K:W.Frag)(T:String)(x:V)(H:Hp):Prop:=match x with
 |.str _=>T = "str"
 |.int _=>T = "int"
 |.ref p=>(T = "list" /\ ∃xs,fG K H p xs)\/(T = "tuple" /\ ∃xs,eK K H p xs) \/
   (T = "dict" /\ ((∃kvs,H p=some (.dK kvs))\/∃kvs,H p=some (.dT kvs)))\/(T = "set" /\ ∃S n,H p=some (.set S n))
 |_=>False
theorem Iz{x:V}{v:Value}(I:aS X pins B H s)(r:bG x v)(ty:Nk X.K T x H):
  s.TypeIs v T/\∀a,v=.ref a->∃ob,s.heap.get? a=some ob/\ob.dict=none:=by
 cases x with
 |str z=>
  obtain⟨t,rfl⟩:=r;cases (show T = "str" from ty);exact⟨typeIs_str s z t,fun _ e=>nomatch e⟩
 |int i=>
  obtain⟨t,rfl⟩:=r;cases (show T = "int" from ty);exact⟨typeIs_int s i t,fun _ e=>nomatch e⟩
 |ref p=>
  cases r;rcases ty with⟨rfl,xs,hq⟩|⟨rfl,xs,hq⟩|⟨rfl,hk⟩|⟨rfl,S,n,hk⟩
  ·obtain⟨its,_,pl,_⟩:=I.list hq;refine⟨pl.isList.typeIs,fun a e=>?_⟩;cases e;obtain⟨o,n,e,c,hd,_⟩:=pl;exact⟨o,e,hd⟩
  ·obtain⟨o,he,hc,hd⟩:∃o,s.heap.get? p=some o/\o.cls=.type "tuple" /\ o.dict=none:=by
    rcases hq with h|⟨o,its,n,hk,hc,hd,_⟩
    ·obtain⟨_,its,_,o,e,c,_,d⟩:=h.ok I.hok;exact⟨o,e,c,d⟩
    ·exact⟨o,I.kIn p o hk,hc,hd⟩
   refine⟨⟨o,he,hc⟩,fun a e=>?_⟩;cases e;exact⟨o,he,hd⟩
  ·have z:∃o,s.heap.get? p=some o/\o.ExactDict:=by
    rcases hk with⟨kvs,hk⟩|⟨kvs,hk⟩
    ·obtain⟨_,_,_,_,o,_,_,e,ex,_⟩:=I.hok p _ hk;exact⟨o,e,ex⟩
    ·obtain⟨_,_,_,_,o,_,_,e,ex,_⟩:=I.hok p _ hk;exact⟨o,e,ex⟩
   obtain⟨o,e,ex⟩:=z;refine⟨⟨o,e,ex.1⟩,fun a e2=>?_⟩;cases e2;exact⟨o,e,ex.2.1⟩
  ·obtain⟨o,_,_,_,e,ex,_⟩:=I.hok p _ hk;refine⟨⟨o,e,ex.1⟩,fun a e2=>?_⟩;cases e2;exact⟨o,e,ex.2.1⟩
 |_=>exact False.elim ty
def Of(K:W.Frag)(T:String)(r:V->List V->Hp->VK->Prop)(to:TE)(t:TA):TE:=fun B H Q=>to B H fun x H1=>Nk K T x H1/\t B H1 fun xs H2=>r x xs H2 Q
variable{o:Expr}{es:List Expr}{to:TE}{t:TA}{name:Str}{id:String}{r:V->List V->Hp->VK->Prop}
theorem HH (pa:PlainAttrs T) (slot:Slot T name id) (hty:typeOf (.builtin id)=pure (.type "method_descriptor")) (hm:N8 X id r) (ho:PE X o to) (ha:PA X (e::es) t)
  (hbase:attributeBase o name 1e2 (eval o 1e2)=eval o 1e2:=by rfl)
  (hfew : ((backTo cpos (starEach (e :: es) 1e2)).all (fun x => !x.1) && (backToKw cpos (keywordEach [] 1e2)).all (fun x => x.1.isSome)
   && decide ((e::es).length+([]:List Keyword).length+(if ([]:List Keyword).isEmpty then 0 else 1)<30))=true:=by rfl)
  (hline:(apos.endLine == cpos.line)=true:=by rfl) (hs:starEach (e::es) 1e2=(false,eval e 1e2)::starEach es 1e2:=by rfl) (hplain:(backTo cpos (starEach es 1e2)).any 2e4=false:=by rfl) :
  PE X (.Call (.Attribute o name apos) (e::es) [] cpos) (Of X.K T r to t):=by
 intro pins s B H Q I h;refine wpAny_Call_method_late hbase hfew hline rfl (dh (ho pins s B H _ I h) fun v s1 ⟨x,H1,I1,r1,ty,q1⟩=>?_);obtain⟨h1,h2⟩:=Iz I1 r1 ty;refine⟨T,id,pa,slot,hty,h1,h2,?_⟩;have hA:=ha cpos pins s1 B H1 _ I1 q1;rw[hs]at hA⊢;refine Calls.callWith_builtin (by show (false || (backTo cpos (starEach es 1e2)).any 2e4)=false;rw[hplain] <;> rfl) (Calls.evalArgs_plain ?_);exact dh hA fun us s2 ⟨vs,H2,I2,r2,q2⟩=>hm pins s2 B H2 x vs v us Q I2 r1 r2 q2
end
def La(X:Cx)(id:String)(r:V->List V->Hp->VK->Prop):Prop:=
 ∀(pins:List 2e9)(s:Shared)(B:St)(H:Hp)(x:V)(xs:List V)(v:Value)(us:List Value)(Q:VK),aS X pins B H s->bG x v->ba xs us->r x xs H Q ->
  wpAny 0e7 X.A (call (.builtin id) (v::us)) (EP X pins B Q) X.xe s
theorem ba.one:∀{x:V}{us:List Value},ba [x] us->∃u,us=[u]/\bG x u
 |_,_,.cons r .nil=>⟨_,rfl,r⟩
theorem ba.reverse{xs:List V}(h:ba xs us):ba xs.reverse us.reverse:=by
 induction h with
 |nil=>exact .nil
 |cons r t ih=>rw[Qq,Qq];exact ba.append ih (.cons r .nil)
theorem ba.rep{xs:List V}{us:List Value}(h:ba xs us):∀k:Nat,ba (List.replicate k xs).flatten (List.replicate k us).flatten
 |0=>.nil
 |k+1=>by
  rw[Qr,Qr,Qs,Qs];exact ba.append h (ba.rep h k)
theorem tw(its:List Value):∀(k:Nat)(acc:List Value),
  List.foldl (fun x1 x2=>x1++x2) acc.toArray (List.replicate k 2e3)=(acc++(List.replicate k its).flatten).toArray
 |0,acc=>by simp
 |k+1,acc=>by
  have e:acc.toArray++its.toArray=(acc++its).toArray:=by simp
  have e2:(acc++its)++(List.replicate k its).flatten=acc++(List.replicate (k+1) its).flatten:=by
   rw[Qr,Qs,Qt]
  rw[<- e2,<- tw its k (acc++its),<- e,Qr,Qu]
section
variable{X:Cx}{b:Addr}{xs ys zs:List V}
theorem aS.lset{its':List Value}{f:Array Value->Array Value}(I:aS X pins B H s)(hH:H l=some 2e6)(e:s.heap.get? l=some {cls:=.type "list",data:=.seq 2e3 n})(hf:f 2e3=its'.toArray)(hv:ba ys its')(hz:ys.length<=sizeLine):
  aS X pins B (bq H l (.lst ys)) {s with heap:=s.heap.update l (Obj.mapSeq f),toks:=t'}:=by
 have q:=PySem.IsL.update e f;rw[hf]at q;refine I.write (x:=l) (e:=l) (by rw[hH];exact trivial) (.inl rfl) (fun b' u hb hu=>(Qn 1e5 (Obj.mapSeq f) (ON hb)).trans hu) ⟨_,q⟩ ?_;exact⟨hz,its',_,hv,q⟩
theorem aS.lnew(I:aS X pins B H s)(hv:ba ys its)(hz:ys.length<=sizeLine):
  aS X pins B (bq H 0e3 (.lst ys)) {s with heap:=s.heap.push {cls:=.type "list",data:=.seq 2e3},toks:=t'}:=
 I.laid (fun _ _ q=>O8 _ q) (O9 _) ⟨hz,its,0,hv,Oy _ rfl⟩
theorem aS.fresh(I:aS X pins B H s):H 0e3=none:=I.hok.fresh (O9 _)
theorem aS.lstM (I:aS X pins B H s) (hH:H l=some 2e6):xs.length<=sizeLine/\∃(its:List Value) (n:Nat),ba xs its/\xs.length=its.length/\s.heap.get? l=some {cls:=.type "list",data:=.seq 2e3 n}:=by
 obtain⟨z,its,n,r,e⟩:=I.hok l _ hH;exact⟨z,its,n,r,r.length,e⟩
theorem qx(h:n<=sizeLine):Builtin.List.listTooLong n=false:=by
 unfold Builtin.List.listTooLong;exact Ot 0e1
end
section
variable{X:Cx}
def zC:V->List V->Hp->VK->Prop:=fun x vs H Q=>∃l xs y,x=.ref l/\vs=[y]/\H l=some 2e6/\xs.length<sizeLine/\Q .non (bq H l (.lst (xs++[y])))
theorem sT:La X "list.append" zC:=by
 intro pins s B H x vs v us Q I rx rv h;obtain⟨l,xs,y,rfl,rfl,hH,hz,q⟩:=h;cases rx;obtain⟨u,rfl,ru⟩:=rv.one;obtain⟨z,its,n,r,hl,e⟩:=I.lstM hH;refine Qv F.slot_list_append ⟨_,e,rfl⟩ F.entry_list_append (F.args_list_append_2 _ _) (PySem.list_append l 2e3 n u (by rw[Pg];omega)) ⟨e,?_⟩;refine⟨.non,_,I.lset (its':=its++[u]) hH e 1e1 (r.append (.cons ru .nil)) ?_,rfl,q⟩;rw[PB,Qw];omega
def zB:V->List V->Hp->VK->Prop:=fun x vs H Q=>∃l b xs zs,x=.ref l/\vs=[.ref b]/\H l=some 2e6/\H b=some (.lst zs)/\xs.length+zs.length<=sizeLine/\Q .non (bq H l (.lst (xs++zs)))
theorem Ba:La X "list.extend" zB:=by
 intro pins s B H x vs v us Q I rx rv h;obtain⟨l,b,xs,zs,rfl,rfl,hH,hB,hz,q⟩:=h;cases rx;obtain⟨u,rfl,ru⟩:=rv.one;cases ru;obtain⟨z,its,n,r,hl,e⟩:=I.lstM hH;obtain⟨z2,its2,n2,r2,hl2,e2⟩:=I.lstM hB;have hsz:its.toArray.size+its2.toArray.size<=sizeLine:=by rw[Pg,Pg];omega
 have hlong:¬ (!its.toArray.isEmpty&&Builtin.List.listTooLong (its.toArray.size+its2.toArray.size))=true:=by
  rw[qx hsz,Qx];exact O3
 refine Qv F.slot_list_extend ⟨_,e,rfl⟩ F.entry_list_extend (F.args_list_extend_2 _ _)
  (AutoSeq1.list_extend_list_list_0 l 2e3 n b its2.toArray n2 hlong (by rw[Pg];omega) 0e1) ⟨e,e2,?_⟩
 refine⟨.non,_,I.lset (its':=its++its2) hH e 1e1 (r.append r2) ?_,rfl,q⟩;rw[PB];omega
def Lo:R2:=fun x y H Q=>∃l b xs zs,x=.ref l/\y=.ref b/\H l=some 2e6/\H b=some (.lst zs)/\xs.length+zs.length<=sizeLine/\∀p,H p=none->Q (.ref p) (bq H p (.lst (xs++zs)))
theorem JO:jR X (binaryOp .Add) Lo:=by
 intro pins s B H x y v u Q I rx ry h;obtain⟨l,b,xs,zs,rfl,rfl,hH,hB,hz,q⟩:=h;cases rx;cases ry;obtain⟨z,its,n,r,hl,e⟩:=I.lstM hH;obtain⟨z2,its2,n2,r2,hl2,e2⟩:=I.lstM hB;refine PySem.P.add_list e e2 ?_ (by rw[Pg,Pg];omega);have ea:its.toArray++its2.toArray=(its++its2).toArray:=by simp
 rw[ea];exact⟨.ref _,_,I.lnew (t':=s.toks) (r.append r2) (by rw[PB];omega),rfl,q _ I.fresh⟩
def Li:R2:=fun x y H Q=>∃l k xs,x=.ref l/\y=.int k/\H l=some 2e6/\-(2^63)<=k/\k<2^63/\xs.length*k.toNat<=sizeLine /\
 ∀p,H p=none->Q (.ref p) (bq H p (.lst (List.replicate k.toNat xs).flatten))
theorem GK{Z:Type}(xs:List Z)(k:Nat):(List.replicate k xs).flatten.length=k*xs.length:=by
 induction k with
 |zero=>simp
 |succ k ih=>rw[Qr,Qs,PB,ih,Nat.succ_mul,Nat.add_comm]
theorem JG:jR X (binaryOp .Mult) Li:=by
 intro pins s B H x y v u Q I rx ry h;obtain⟨l,k,xs,rfl,rfl,hH,h1,h2,hz,q⟩:=h;cases rx;obtain⟨t,rfl⟩:=ry;obtain⟨z,its,n,r,hl,e⟩:=I.lstM hH;have hlen:its.toArray.size*k.toNat<=sizeLine:=by rw[Pg,<- hl];exact hz
 have hcap:¬ its.toArray.size*k.toNat>(2^63-1) / 8:=by
  have:(sizeLine:Nat)<=(2^63-1) / 8:=by decide
  omega
 have hfit:¬ (!Builtin.List.listFitsIndex k)=true:=by
  rw[fitsIndex_both h1 h2];exact O3
 have hlong:¬ Builtin.List.listTooLong (its.toArray.size*k.toNat)=true:=by
  rw[qx hlen];exact O3
 have hnew:List.foldl (fun x1 x2=>x1++x2) #[] (List.replicate (if its.toArray.isEmpty=true then 0 else k.toNat) 2e3)=(List.replicate k.toNat its).flatten.toArray:=by
  have f0:∀m:Nat,List.foldl (fun x1 x2=>x1++x2) #[] (List.replicate m 2e3)=(List.replicate m its).flatten.toArray:=fun m=>by
   have:=tw its m [];rw[Qy]at this;exact this
  rw[f0];cases its with
  |nil=>simp
  |cons a r'=>rw[Ox 1e1]
 refine wpAny_binaryOp_repeat_ref (T:="list") (U:="int") 0e4 ⟨_,e,rfl⟩ (fun s'=>typeIs_int s' k t) noFill_list_mul F.fills_int_mul F.slot_int_rmul repeat_list F.slot_int_index.lookup
  (Qv F.slot_int_rmul (typeIs_int s k t) F.entry_int_rmul (F.args_int_rmul_2 _ _) (int___rmul___int_list k t l 2e3 n)
   ⟨e,rfl,⟨_,e,rfl⟩,Qv F.slot_list_mul ⟨_,e,rfl⟩ F.entry_list_mul (F.args_list_mul_2 _ _) (AutoListH.list___mul___list_int_3 l 2e3 n k t hfit hcap hlong) ⟨e,?_⟩⟩)
 rw[hnew];exact⟨.ref _,_,I.lnew (t':=s.toks) (r.rep k.toNat) (by rw[GK,Nat.mul_comm];exact hz),rfl,q _ I.fresh⟩
end
end ρ2
namespace Att
open PySem PySem.W PySem.Calls PyProof.Rows
theorem pE{P:Params}{h:Heap}:∀(ns:List Int)(vs:List Value),WellAll P h vs (ns.map WData.int)->IntsAre vs ns:=by
 intro ns
 induction ns with
 |nil=>
  intro vs w;rw[Qi]at w;cases w;exact .nil
 |cons n ns ih=>
  intro vs w;rw[Qj]at w;cases w with
  |cons a b=>
   cases a;exact .cons _ _ (ih _ b)
theorem AO{l:OpenLaw}(hn:l.most=some n){P:Params}{h:Heap}{args:List WData}{vals:List Value}(hpre:l.row.toRowW.claim.pre args=true)(hwl:WellAll P h vals args):
  ∃a vs ns,vals=[Value.ref a]/\args=[WData.list (ns.map WData.int)]/\h.get? a=some {cls:=.type "list",data:=.seq vs.toArray}/\IntsAre vs ns/\ns.length<=n:=by
 have hsh:WShape.hasAll [] args [.list .int]=true:=(pre_splitW hpre).1;have hc:l.pre.holds [] {args:=args}=true:=(pre_splitW hpre).2;obtain⟨d,r,rfl,h1,h2⟩:=hasAllW_cons hsh;obtain rfl:=hasAllW_nil h2;obtain⟨xs,rfl,h3⟩:=hasW_list h1;obtain⟨ns,rfl⟩:=items_int h3
 have hlen:ns.length<=n:=by
  unfold OpenLaw.pre at hc
  have h4:(WTm.not (.lt (.lit (.int (n:Int))) (.len (.arg 0)))).holds [] {args:=[.list (ns.map .int)]}=true:=by
   have h4:=(holds_andW hc).1;rw[hn]at h4;exact h4
  have h5:=condW_of h4 (w_not (w_lt w_lit (w_len_list (w_arg rfl))));rw[PD]at h5;refine Nat.le_of_not_lt fun q=>?_;have q':(n:Int)<((ns.length:Nat):Int):=by omega
  first
   |(rw[QA q']at h5;exact absurd h5 0e4)
   |(simp at h5;omega)
 cases hwl with
 |cons w1 w2=>
  cases w2;cases w1 with
  |list ho hall=>exact⟨_,_,ns,rfl,rfl,ho,pE ns _ hall,hlen⟩
theorem AV(l:OpenLaw)(args:List WData):l.row.toRowW.claim.post args (.bool true) args=true:=
 postW_of (r:=l.row.toRowW) (X:=(true == true))
  (show WShape.has [] (.bool true) .bool=true by first|rfl|decide|simp[WShape.has,WShape.arms,WShape.armsAll])
  (show (WTm.eq .res (.lit (.bool true))).value [] {args:=args,res:=some (.bool true),after:=args}=some (.bool (true == true)) from w_eq_bool (w_res rfl) w_lit) rfl
theorem attach_call{l:OpenLaw}{q:Program}{d:DefRec}(hn:l.most=some n)(hdf:d.params.defaults=[])(call : ∀ (w : World) (s₀ s₁ : Shared) (mg mb : Str -> Option Value) (fa : Addr) (o : Obj) (pm cd doc : Value) (a : Addr) (vs : List Value) (ns : List Int),
   Ground q loose [] XP w s₀ mg mb s₁.heap->YP w s₁.heap ->
   s₁.heap.get? fa=some o->o.data=.func (docDef d.name d.params d.body d.scope pm cd doc)->s₁.heap.CodeRec cd d.name->mg d.name=some (.ref fa) ->
   s₁.heap.get? a=some {cls:=.type "list",data:=.seq vs.toArray}->IntsAre vs ns->ns.length<=n->s₁.gens=#[] ->
   codeAny (model l.prog w) callerA (.call (.ref fa) ⟨[.ref a],[]⟩) (fun r s'=>r=.ok (.ret (.bool true))/\OldK s₁.heap s'.heap/\s'.os=s₁.os/\AllBare s'.gens) s₁):
  WalkO q loose XP YP l.row.toRowW d [] (fun f vs=>PySem.call f vs):=by
 intro w s₀ s₁ mg mb G μ fa o pm cd doc dV kV ho hd hcd hD hmg hg args vals as hpre hlay hrd hwl hlo;obtain rfl:dV=.none:=Dflts.none hD hdf;obtain rfl:kV=.none:=Dflts.noKw hD;obtain⟨a,vs,ns,rfl,rfl,hobj,hints,hlen⟩:=AO hn hpre hwl;refine enter_call (Pl (call w s₀ s₁ mg mb fa o pm cd doc a vs ns G μ ho (fd_plain hd) hcd hmg hobj hints hlen hg) fun r s' hq=>?_);obtain⟨rfl,h2,h3,h4⟩:=hq;exact⟨.inl ⟨.bool true,.bool true,[],rfl,fun _=>rfl,.bool true,AV l _,fun _=>⟨List.Pairwise.nil,fun _ hm=>(nomatch hm)⟩⟩,h2,h3,h4⟩
end Att
namespace ρ2
open PySem PySem.Spec PyProof.Rows
theorem sF:∀{vs:List Value}{ns:List Int},IntsAre vs ns->ba (ns.map V.int) vs
 |_,_,.nil=>.nil
 |_,_,.cons n t h=>.cons ⟨t,rfl⟩ (sF h)
def EY(H:Hp):Prop:=∀b,H b=none\/∃o xs,H b=some (.frz o 2e6)
theorem D6{mb:Str->Option Value}{fa:Addr}{s₁:Shared}{vs:List Value}(KX:K.In s₁.heap)(hns:s₁.heap.Ns mainGlobals mg)(hb:s₁.heap.Ns builtinsNs mb)(hbb:∀x:Str,x ≠ "__name__" -> mb x=bootBuiltins x)(hlim:s₁.heap.NoLimit)(hg:s₁.gens=#[])(ha:s₁.heap.get? a=some {cls:=.type "list",data:=.seq vs.toArray})(hi:IntsAre vs ns)(hl:ns.length<=sizeLine)(hr:dF k callerA)(F:∀base:Heap,K.In base->base.Ns mainGlobals mg->j6 P w K mg base CX k fa fd [x] sp)(hbind:∀(s:Shared)(u:Value),BindsTo s fd ⟨[u],[]⟩ [(x,u)])(hsp:∀H:Hp,EY H->fG K H a (ns.map V.int)->sp [.ref a] H (fun v _=>v=.bl true) fun _ _ _=>False)(hCX:∀H e s',CX [] H s₁ (fun _ _ _=>False) e s'->False):
  codeAny (model P w) callerA (.call (.ref fa) ⟨[.ref a],[]⟩) (fun r s'=>r=.ok (.ret (.bool true))/\OldK s₁.heap s'.heap/\s'.os=s₁.os/\AllBare s'.gens) s₁:=by
 have rv:=sF hi;have lenV:=hi.length
 have core:∀H:Hp,EY H->fG K H a (ns.map V.int)->nA P w H s₁.heap->(∀b,H b≠none->b=a)->(H a≠none->K.lookup a=none) ->
   codeAny (model P w) callerA (.call (.ref fa) ⟨[.ref a],[]⟩) (fun r s'=>r=.ok (.ret (.bool true))/\OldK s₁.heap s'.heap/\s'.os=s₁.os/\AllBare s'.gens) s₁:=by
  intro H hO hS hok hA hK;have base_of:∀{b:Addr}{o:Obj},s₁.heap.get? b=some o->H b=none->(tR s₁.heap H).get? b=some o:=fun e n=>Ef e n
  have noA:∀{b:Addr}{o:Obj}{es:Array DictEntry}{ep:Nat},s₁.heap.get? b=some o->o.data=.dict es ep->H b=none:=fun {b o es ep} e d=>by
   cases q:H b with
   |none=>rfl
   |some u=>
    have e':b=a:=hA b (by rw[q];simp);subst e';rw[ha]at e;cases e;have d':Data.seq vs.toArray _=Data.dict es ep:=d;cases d'
  have nsK:∀{b:Addr}{m:Str->Option Value},s₁.heap.Ns b m->(tR s₁.heap H).Ns b m:=fun {b m} ⟨o,es,ep,e,d,r⟩=>⟨o,es,ep,base_of e (noA e d),d,r⟩
  have hKb:K.In (tR s₁.heap H):=fun b o e=>base_of (KX b o e) (by
   cases q:H b with
   |none=>rfl
   |some u=>
    have e':b=a:=hA b (by rw[q];simp);subst e'
    rw[hK (by rw[q];simp)]at e;cases e)
  have hM:Mod K mg (tR s₁.heap H):=⟨hKb,nsK hns,⟨mb,nsK hb,hbb⟩,let ⟨mc,h1,h2⟩:=hlim;⟨mc,nsK h1,h2⟩⟩;have e0:tW P w K mg (tR s₁.heap H) callerA [] s₁ H:=⟨rfl,hM,fun b o e=>Gx e,QB (Bk _ _),trivial,fun b hb=>absurd (show b∈([]:List Addr) from hb) 1e1,hok,.of_eq hg⟩;refine Pl ((F _ hKb (nsK hns)).run callerA [] s₁ H ⟨[.ref a],[]⟩ [.ref a] [.ref a] _ _ hr e0 (hbind s₁ (.ref a)) (.cons rfl .nil) (hsp H hO hS)) fun r s' h=>?_;cases r with
  |error e=>exact(hCX H e s' h).elim
  |ok fl=>
   cases fl with
   |next=>exact False.elim h
   |brk=>exact False.elim h
   |cont=>exact False.elim h
   |ret u=>
    obtain⟨v,H',os,bare,un,hok',r',q⟩:=h;have q':v=.bl true:=q;subst q';obtain rfl:u=Value.bool true:=r';refine⟨rfl,OldK.of_keep fun b o e=>?_,os,bare⟩;cases q:H b with
    |none=>exact un.keep b o e q (by intro z;exact absurd (show b∈([]:List Addr) from z) 1e1) 1e1
    |some u=>
     rcases hO b with z|⟨ob,xs,z⟩
     ·rw[q]at z;cases z
     ·have z2:=un.frzs b ob _ z;obtain⟨e1,_⟩:=hok b _ z;obtain⟨e2,_⟩:=hok' b _ z2;rw[e]at e1;cases e1;exact e2
 cases hk:K.lookup a with
 |some o=>
  have e:=KX a o hk;rw[ha]at e;cases e;refine core (fun _=>none) (fun _=>.inl rfl) (.inr ⟨_,vs.toArray,_,hk,rfl,rfl,rfl,by rw[Pg,lenV];exact hl,by simpa using rv⟩) (fun b u z=>by have z':(none:Option HO)=some u:=z;cases z') (fun b z=>absurd rfl z) fun z=>absurd rfl z
 |none=>
  refine core (fun b=>if b=a then some (.frz {cls:=.type "list",data:=.seq vs.toArray} (.lst (ns.map V.int))) else none) (fun b=>?_) (.inl (.inr ⟨{cls:=.type "list",data:=.seq vs.toArray},Ow rfl⟩)) (fun b u z=>?_) (fun b z=>?_) fun _=>hk
  ·by_cases hb : b = a
   ·exact .inr ⟨_,_,Ow hb⟩
   ·exact .inl (Ox hb)
  ·by_cases hb : b = a
   ·have z':=(Ow hb).symm.trans z;cases z';subst hb;exact⟨ha,by rw[PD];exact hl,vs,_,rv,ha⟩
   ·have z':=(Ox hb).symm.trans z;cases z'
  ·by_cases hb : b = a
   ·exact hb
   ·exact absurd (Ox hb) z
theorem walk_of{l:W.OpenLaw}{q:Program}{d:DefRec}{K:Params->W.Frag}{CX:World->vh}{sp:World->Sp}(hn:l.most=some n)(hn2:n<=sizeLine)(hdf:d.params.defaults=[])(hr:dF k callerA)(hY:∀(w:World)(h:Heap),YP w h->(K w.params).In h)(F : ∀ (w : World) (mg : Str -> Option Value) (fa : Addr) (h : Heap), (K w.params).In h -> h.Ns mainGlobals mg -> mg d.name = some (.ref fa) ->
   ∃fd:FuncData,(∀(s:Shared)(u:Value),BindsTo s fd ⟨[u],[]⟩ [(x,u)]) /\
    ∀base:Heap,(K w.params).In base->base.Ns mainGlobals mg->j6 l.prog w (K w.params) mg base (CX w) k fa fd [x] (sp w))(hsp:∀(w:World)(H:Hp)(a:Addr)(ns:List Int),ns.length<=n->EY H->fG (K w.params) H a (ns.map V.int)->sp w [.ref a] H (fun v _=>v=.bl true) fun _ _ _=>False)(hCX:∀(w:World)(H:Hp)(s:Shared)(e:Value)(s':Shared),CX w [] H s (fun _ _ _=>False) e s'->False):
  W.WalkO q loose XP YP l.row.toRowW d [] (fun f vs=>PySem.call f vs):=by
 refine Att.attach_call hn hdf fun w s₀ s₁ mg mb fa o pm cd doc a vs ns G μ ho hd hcd hmg hobj hints hlen hg=>?_;have KX:=hY w _ μ;obtain⟨fd,hb,hF⟩:=F w mg fa _ KX G.T.g hmg;exact D6 KX G.T.g G.T.b G.T.builtins G.T.nolimit hg hobj hints (OG hlen hn2) hr hF hb (fun H hO hS=>hsp w H a ns hlen hO hS) fun H e s'=>hCX w H s₁ e s'
abbrev xK:vh:=fun _ _ _ _ _ _=>False
abbrev E0:XK:=fun _ _ _=>False
theorem Ca{X:Cx}:jF xK X E0:=fun _ _ _ _ _ _ _ h=>h.elim
structure gf(K:W.Frag)(x qual:Str)(st:Stmt)(f:Addr)(fd:FuncData):Prop where
 ex:∃(oc:Value)(od:Option Addr)(kV doc pm:Value)(an:Option Addr)(cdv ct:Value)(osl:Array (Option Value)),
  fd=W.fnOf x qual (dm st) (bD st) (aq st) .none kV doc pm an cdv ct/\K.lookup f=some ⟨oc,od,.func fd,osl⟩/\W.codeIn K cdv qual=true
 kp:W.keepIn K 3e7=true
section
theorem gf.ok{ps:List Str}(F:gf K x qual st f fd)(S:aR N ps (aq st))(len:∀vs H Q E,sp vs H Q E->vs.length=ps.length)(hbody : ∀ (cdv : Value) (A : Around) (outer : List Env) (s : Shared) (H : Hp) (vs : List V) (Q : VK) (E : XK), dF k (A.deeper (envOfC qual (aq st) 0e3 f cdv)) -> sp vs H Q E ->
   ∃t,ja (pY xK P w K mg base N qual (aq st) f cdv A outer s H E).nox (bD st) t/\t {nx:=fun _ H'=>Q .non H',rt:=Q} (start N vs) H):j6 P w K mg base xK (k+1) f fd ps sp:=by
 obtain⟨oc,od,kV,doc,pm,an,cdv,ct,osl,rfl,lk,hcd⟩:=F.ex;refine zf lk hcd S len fun A outer s H vs Q E hr hsp=>?_;obtain⟨t,h,q⟩:=hbody cdv A outer s H vs Q E hr hsp;exact⟨t,h.nox,q⟩
theorem gf.binds{ps:List Str}(F:gf K x qual st f fd)(h:∀(kV doc pm:Value)(an:Option Addr)(cdv ct:Value)(us:List Value),us.length=ps.length->bindArgs 1e6 ⟨us,[]⟩=pure (ps.zip us)):dM K fd ps []:=by
 obtain⟨oc,od,kV,doc,pm,an,cdv,ct,osl,rfl,lk,hcd⟩:=F.ex;exact .all (h kV doc pm an cdv ct)
theorem CW{oc:Value}{od:Option Addr}{kV doc pm ct:Value}(l:K.lookup f=some ⟨oc,od,.func 1e6,osl⟩)(c:W.codeIn K cdv qual=true)(k:W.keepIn K 3e7=true):gf K x qual st f 1e6:=⟨⟨oc,od,kV,doc,pm,an,cdv,ct,osl,rfl,l,c⟩,k⟩
end
theorem LA{A σ:Prop}(h:σ):if false=true then A else σ:=by
 rw[Ox O3];exact h
theorem Lz{A σ:Prop}(h:A):if true=true then A else σ:=by
 rw[Ow rfl];exact h
theorem fe{x:Str}:∀{names:List (Str×NameKind)}{k:NameKind},names.lookup x=some k->(x,k)∈names
 |[],_,h=>by simp at h
 |(n,j)::r,k,h=>by
  rw[QC]at h;cases hx:x == n with
  |true=>
   rw[hx]at h;have e:x=n:=eq_of_beq hx;cases h;rw[e];exact OJ
  |false=>rw[hx]at h;exact OK _ (fe h)
theorem iN{env:Env}{x:Str}:∀{names:List (Str×NameKind)},
  (names.map fun (n, k) => if (k == NameKind.free && env.scope.kind == .function && env.kindOf n == some .cell) then (n, NameKind.cell) else (n, k)).lookup x =
   (names.lookup x).map fun k=>if (k == NameKind.free&&env.scope.kind == .function&&env.kindOf x == some .cell) then NameKind.cell else k
 |[]=>rfl
 |(n,k)::r=>by
  have ih:=iN (env:=env) (x:=x) (names:=r);rw[Qj];show List.lookup x ((if (k == NameKind.free&&env.scope.kind == .function&&env.kindOf n == some .cell)=true then (n,NameKind.cell) else (n,k))::_)=_;cases hx:x == n with
  |true=>
   have e:x=n:=eq_of_beq hx;subst e;by_cases hc:(k == NameKind.free&&env.scope.kind == .function&&env.kindOf x == some .cell)=true
   ·rw[Ow hc,QC,hx,QC,hx];show some NameKind.cell=some (if _ then _ else _);rw[Ow hc]
   ·rw[Ox hc,QC,hx,QC,hx];show some k=some (if _ then _ else _);rw[Ox hc]
  |false=>
   by_cases hc:(k == NameKind.free&&env.scope.kind == .function&&env.kindOf n == some .cell)=true
   ·rw[Ow hc,QC,hx,QC,hx];exact ih
   ·rw[Ox hc,QC,hx,QC,hx];exact ih
theorem mf{env:Env}{f:Str×NameKind->List (Str×Addr)->Sem (ForInStep (List (Str×Addr)))}
  (h1:∀n c acc,env.cells.lookup n=some c->f (n,.free) acc=pure (.yield ((n,c)::acc))) (h2:∀n k acc,k≠.free->f (n,k) acc=pure (.yield acc)) :
  ∀(names:List (Str×NameKind))(acc:List (Str×Addr)),(∀y∈names,y.2=.free->∃c,env.cells.lookup y.1=some c)->(∀x c,acc.lookup x=some c->env.cells.lookup x=some c) ->
   ∃cl,forIn names acc f=(pure cl:Sem (List (Str×Addr)))/\(∀x c,cl.lookup x=some c->env.cells.lookup x=some c)/\(∀x,(acc.lookup x).isSome=true->(cl.lookup x).isSome=true)/\(∀y∈names,y.2=.free->(cl.lookup y.1).isSome=true)
 |[],acc,_,ha=>⟨acc,rfl,ha,fun _ h=>h,fun y hy=>by simp at hy⟩
 |(n,k)::r,acc,hn,ha=>by
  by_cases hk:k=.free
  ·subst hk;obtain⟨c,hc⟩:=hn (n,.free) OJ rfl
   obtain⟨cl,e1,e2,e3,e4⟩:=mf h1 h2 r ((n,c)::acc) (fun y hy=>hn y (OK _ hy)) (fun x d h=>by
    rw[QC]at h;cases hx:x == n with
    |true=>rw[hx]at h;cases h;rw[eq_of_beq hx];exact hc
    |false=>rw[hx]at h;exact ha x d h)
   refine⟨cl,?_,e2,fun x h=>e3 x ?_,fun y hy hf=>?_⟩
   ·rw[List.forIn_cons,h1 n c acc hc];exact e1
   ·rw[QC];cases hx:x == n <;> simp[h]
   ·rcases OM.mp hy with z | z
    ·subst z;exact e3 n (by simp[QC])
    ·exact e4 y z hf
  ·obtain ⟨cl, e1, e2, e3, e4⟩ := mf h1 h2 r acc (fun y hy => hn y (OK _ hy)) ha;refine⟨cl,?_,e2,e3,fun y hy hf=>?_⟩
   ·rw[List.forIn_cons,h2 n k acc hk];exact e1
   ·rcases OM.mp hy with z | z
    ·subst z;exact absurd hf hk
    ·exact e4 y z hf
theorem xv{n:Str}{c:Addr}(h:env.cells.lookup n=some c):cellOf env n=pure c:=by
 unfold cellOf;rw[h]
def zi(env:Env)(x:Str×NameKind)(r:List (Str×Addr)):Sem (ForInStep (List (Str×Addr))):=
 match x with|(name,kind)=>if kind == .free then do let c <- cellOf env name;pure (.yield ((name,c)::r)) else pure (.yield r)
theorem yN(hn:∀y∈scope.names,y.2=.free->∃c,env.cells.lookup y.1=some c):
  ∃cl,closureFor scope env=pure cl/\(∀x c,cl.lookup x=some c->env.cells.lookup x=some c)/\(∀y∈scope.names,y.2=.free->(cl.lookup y.1).isSome=true):=by
 obtain⟨cl,e1,e2,_,e4⟩:=mf (env:=env) (f:=zi env)
  (fun n c acc h=>by unfold zi;dsimp[QD,PU];rw[xv h];rfl)
  (fun n k acc h => by
   unfold zi;have:(k == NameKind.free)=false:=by simpa using h
   dsimp[this,QE,PR]) scope.names [] hn (fun x c h=>by simp at h)
 refine⟨cl,?_,e2,e4⟩;show (forIn scope.names [] (zi env) >>= fun s=>pure s)=pure cl;rw[e1];rfl
def jj(X:Cx)(Nc:List Str)(scope:Scope)(cl:List (Str×Addr))(C:Addr)(s:Shared)(H:Hp)(fp:List Addr):Cx where
 prog:=X.prog
 w:=X.w
 K:=X.K
 mg:=X.mg
 base:=X.base
 A:=X.A
 N:=Nc
 s₀:=s
 H₀:=H
 env:=compEnvC scope (cellsFrom (C+1) scope.names cl) C 1e2
 outer:=X.stack
 stack:=X.stack
 ex:=fp
 fn:=fun x=>scope.names.lookup x == some .cell
 calm:=X.calm
 pn:=[]
 xe:=fun _ _=>False
def qg(cap:List (Option Nat))(B:St):St:=cap.map fun o=>o.bind fun j=>(B[j]?).join
def gp(N:List Str)(env:Env)(scope:Scope):List Str->List (Option Nat)->Bool
 |[],[]=>true
 |_::Nc,none::cap=>gp N env scope Nc cap
 |x::Nc,some j::cap=>(N[j]? == some x)&&(scope.names.lookup x == some .free)&&gp N env scope Nc cap
 |_,_=>false
theorem nZ{N:List Str}{env:Env}{scope:Scope}:∀{Nc:List Str}{cap:List (Option Nat)},gp N env scope Nc cap=true->cap.length=Nc.length
 |[],[],_=>rfl
 |[],_::_,h=>by simp[gp]at h
 |_::_,[],h=>by simp[gp]at h
 |_::Nc,none::cap,h=>by rw[QF,QF,nZ (Nc:=Nc) (cap:=cap) h]
 |x::Nc,some j::cap,h=>by
  have h':gp N env scope Nc cap=true:=by unfold gp at h;dsimp[Qg]at h;exact h.2
  rw[QF,QF,nZ h']
theorem qE{N:List Str}{env:Env}{scope:Scope}:∀{Nc:List Str}{cap:List (Option Nat)}{i j:Nat}{x:Str},gp N env scope Nc cap=true->cap[i]?=some (some j)->Nc[i]?=some x->N[j]?=some x/\scope.names.lookup x=some .free
 |[],_,_,_,_,_,_,e=>by simp at e
 |_::_,[],_,_,_,h,_,_=>by simp[gp]at h
 |y::Nc,none::cap,0,j,x,h,e,_=>by simp at e
 |y::Nc,some k::cap,0,j,x,h,e,e2=>by
  simp at e e2;subst e;subst e2;unfold gp at h;dsimp[Qg]at h;exact⟨eq_of_beq h.1.1,eq_of_beq h.1.2⟩
 |y::Nc,none::cap,i+1,j,x,h,e,e2=>qE (Nc:=Nc) (cap:=cap) (i:=i) h (by simpa using e) (by simpa using e2)
 |y::Nc,some k::cap,i+1,j,x,h,e,e2=>by
  have h':gp N env scope Nc cap=true:=by unfold gp at h;dsimp[Qg]at h;exact h.2
  exact qE (Nc:=Nc) (cap:=cap) (i:=i) h' (by simpa using e) (by simpa using e2)
structure bQ(N:List Str)(env:Env)(scope:Scope)(Nc:List Str)(cap:List (Option Nat)):Prop where
 kind:scope.kind=.function
 nd:∀y∈scope.names,scope.names.lookup y.1=some y.2
 free:∀y∈scope.names,y.2=.free->env.kindOf y.1=some .cell\/env.kindOf y.1=some .free
 cap:gp N env scope Nc cap=true
theorem lq{n0:Nat}{x:Str}{c:Addr}:∀{names:List (Str×NameKind)}{cl:List (Str×Addr)}{n:Nat},n0<=n->((x,NameKind.cell)∈names\/∃c',cl.lookup x=some c'/\n0<=c')->(cellsFrom n names cl).lookup x=some c->n0<=c
 |[],cl,n,_,h,e=>by
  rcases h with z|⟨c',z1,z2⟩
  ·simp at z
  ·have e':cl.lookup x=some c:=e;rw[z1]at e';cases e';exact z2
 |(y,k)::r,cl,n,hn,h,e=>by
  unfold cellsFrom at e;split at e
  ·rename_i hk;refine lq (n:=n+1) 0e1 ?_ e;cases hx:x == y with
   |true=>exact .inr ⟨n,by rw[QC,hx],hn⟩
   |false=>
    rcases h with z|⟨c',z1,z2⟩
    ·rcases OM.mp z with q | q
     ·have:x=y:=OX Prod.fst q;rw[this]at hx;simp at hx
     ·exact .inl q
    ·exact .inr ⟨c',by rw[QC,hx];exact z1,z2⟩
  ·rename_i hk;refine lq hn ?_ e;rcases h with z|z
   ·rcases OM.mp z with q | q
    ·have:k=.cell:=(OX Prod.snd q).symm;exact absurd (by rw[this];rfl) hk
    ·exact .inl q
   ·exact .inr z
theorem ju{x:Str}:∀{names:List (Str×NameKind)}{cl:List (Str×Addr)}{n:Nat},(x,NameKind.cell)∉names->(cellsFrom n names cl).lookup x=cl.lookup x
 |[],cl,n,_=>rfl
 |(y,k)::r,cl,n,hn=>by
  unfold cellsFrom;have hr:(x,NameKind.cell)∉r:=fun z=>hn (OK _ z);split
  ·rename_i hk;rw[ju hr,QC];cases hx:x == y with
   |true=>exact absurd (by rw[eq_of_beq hx,(eq_of_beq hk:k=.cell)];exact OJ) hn
   |false=>rfl
  ·exact ju hr
theorem nY{n0:Nat}:∀{names:List (Str×NameKind)}{cl:List (Str×Addr)}{n:Nat},n0<=n->(∀x y c,cl.lookup x=some c->cl.lookup y=some c->n0<=c->x=y)->(∀x c,cl.lookup x=some c->c<n) ->
  ∀x y c,(cellsFrom n names cl).lookup x=some c->(cellsFrom n names cl).lookup y=some c->n0<=c->x=y
 |[],cl,n,_,h,_=>h
 |(z,k)::r,cl,n,hn,h,hb=>by
  unfold cellsFrom;split
  ·refine nY (n := n + 1) 0e1 (fun x y c e1 e2 hc => ?_) (fun x c e => ?_)
   ·rw [QC] at e1 e2;cases hx:x == z with
    |true=>
     cases hy:y == z with
     |true=>rw[eq_of_beq hx,eq_of_beq hy]
     |false=>
      rw[hx]at e1;rw[hy]at e2;cases e1;exact absurd (hb y _ e2) (OC _)
    |false=>
     cases hy:y == z with
     |true=>
      rw[hx]at e1;rw[hy]at e2;cases e2;exact absurd (hb x _ e1) (OC _)
     |false=>rw[hx]at e1;rw[hy]at e2;exact h x y c e1 e2 hc
   ·rw [QC] at e;cases hx:x == z with
    |true=>rw[hx]at e;cases e;exact QG _
    |false=>rw[hx]at e;exact QH (hb x c e)
  ·exact nY hn h hb
theorem kE{x:Str}{c:Addr}:∀{names:List (Str×NameKind)}{cl:List (Str×Addr)}{h:Heap},(cellsFrom h.objs.size names cl).lookup x=some c->cl.lookup x=some c\/(pushCells h names).IsCell c none
 |[],cl,h,e=>.inl e
 |(y,k)::r,cl,h,e=>by
  unfold cellsFrom at e;unfold pushCells;split at e
  ·rename_i hk;rw[Ow hk];have e':(cellsFrom (h.push {cls:=.type "cell",data:=.cell none}).objs.size r ((y,h.objs.size)::cl)).lookup x=some c:=by rw[QI];exact e
   rcases kE e' with q|q
   ·rw [QC] at q;cases hx:x == y with
    |true=>
     rw[hx]at q;cases q;exact .inr ⟨_,QJ _ _ _ _ (Oy _ rfl),rfl⟩
    |false=>rw[hx]at q;exact .inl q
   ·exact .inr q
  ·rename_i hk;rw[Ox hk];exact kE e
theorem Bj{X:Cx}{cap:List (Option Nat)}(I:aS X pins B H s)(hf:∀b∈fp,mC X pins H b)(hfs:∀b∈fp,b<s.heap.objs.size)(S:bQ X.N 1e2 scope Nc cap)(hcl:∀x c,cl.lookup x=some c->X.env.cells.lookup x=some c)(hall:∀y∈scope.names,y.2=.free->(cl.lookup y.1).isSome=true)(hn:h'.Ns 0e3 (fun _=>none))(hk:∀b o,s.heap.get? b=some o->h'.get? b=some o)(hce:∀x c,(cellsFrom (s.heap.objs.size+1) scope.names cl).lookup x=some c->cl.lookup x=some c\/h'.IsCell c none):
  aS (jj X Nc scope cl 0e3 s H fp) [] (qg cap B) H {s with heap:=h',toks:=t'}:=by
 have hrl:∀x,(jj X Nc scope cl 0e3 s H fp).env.kindOf x=(scope.names.lookup x).map fun k=>if (k == NameKind.free&&X.env.scope.kind == .function&&X.env.kindOf x == some .cell) then NameKind.cell else k:=fun x=>iN
 have hcf:∀x,((jj X Nc scope cl 0e3 s H fp).env.kindOf x=some .cell\/(jj X Nc scope cl 0e3 s H fp).env.kindOf x=some .free)->scope.names.lookup x=some .free\/scope.names.lookup x=some .cell:=fun x hx=>by
  rw[hrl]at hx;cases e:scope.names.lookup x with
  |none=>rw[e]at hx;rcases hx with z|z <;> cases z
  |some k=>
   rw[e]at hx;by_cases hkf:k=.free
   ·rw[hkf];exact .inl rfl
   ·have : (k == NameKind.free) = false := by simpa using hkf
    dsimp[this,O7,Option.map_some]at hx;rcases hx with z|z
    ·have z' : k = .cell := by simpa using z
     rw[z'];exact .inr rfl
    ·have z' : k = .free := by simpa using z
     exact absurd z' hkf
 have hclx:∀x,scope.names.lookup x=some .free->∃c,cl.lookup x=some c:=fun x e=>Pq.mp (hall (x,.free) (fe e) rfl)
 have hcb:∀x c,cl.lookup x=some c->c<s.heap.objs.size:=fun x c e=>by
  obtain⟨v,q⟩:=I.cell x c (hcl x c e);exact q.lt
 have hcell:∀x c,(cellsFrom (s.heap.objs.size+1) scope.names cl).lookup x=some c->(cl.lookup x=some c/\c<s.heap.objs.size)\/(s.heap.objs.size+1<=c/\h'.IsCell c none):=fun x c e=>by
  by_cases hm:(x,NameKind.cell)∈scope.names
  ·have h1 := lq (O9 _) (.inl hm) e;rcases hce x c e with z|z
   ·have:=hcb x c z;exact absurd (OB (QH this) h1) (OC _)
   ·exact .inr ⟨h1,z⟩
  ·rw[ju hm]at e;exact .inl ⟨e,hcb x c e⟩
 have hinj:∀x y c,(cellsFrom (s.heap.objs.size+1) scope.names cl).lookup x=some c->(cellsFrom (s.heap.objs.size+1) scope.names cl).lookup y=some c->x=y:=fun x y c e1 e2=>by
  rcases hcell x c e1 with⟨a1,a2⟩|⟨a1,a2⟩
  ·rcases hcell y c e2 with ⟨b1, b2⟩ | ⟨b1, b2⟩
   ·exact I.ok.inj x y c (hcl x c a1) (hcl y c b1)
   ·exact absurd (OB (QH a2) b1) (OC _)
  ·exact nY (O9 _) (fun x y c q _ hc=>absurd (OB (QH (hcb x c q)) hc) (OC _)) (fun x c q=>QH (hcb x c q)) x y c e1 e2 a1
 refine⟨⟨I.ok.mod,S.kind,I.ok.glob,I.ok.blt,O9 _,fun x y c e1 e2=>hinj x y c e1 e2,fun x hx=>?_,fun x c e e2=>?_,I.ok.hd,I.ok.frames,.inl rfl,
  fun b hb=>⟨OD (hfs b hb),fun x c e=>?_⟩,I.bs,OG I.ok.bsz I.sz,fun b o e hb=>?_,fun b hb z=>?_,I.stack,I.stkFree⟩,
  rfl,I.bare,Un.kept hk,⟨_,hn,fun i x v e1 e2 e3=>?_⟩,fun x c e=>?_,I.hok.fresh (O9 _),fun x c e=>?_,fun p hp=>absurd (show p∈([]:List 2e9) from hp) 1e1,I.hok.kept hk,?_⟩
 ·rcases hcf x hx with q | q
  ·by_cases hm : (x, NameKind.cell) ∈ scope.names
   ·rcases Pq.mp (W.cellsFrom_some scope.names (s.heap.objs.size + 1) cl (.inl (S.nd (x, .cell) hm))) with ⟨c, e⟩
    exact⟨c,e⟩
   ·obtain⟨c,e⟩:=hclx x q;exact⟨c,(ju hm).trans e⟩
  ·obtain⟨c,e⟩:=Pq.mp (W.cellsFrom_some scope.names (s.heap.objs.size+1) cl (.inl q));exact⟨c,e⟩
 ·have hm:(x,NameKind.cell)∈scope.names:=fe (eq_of_beq (show (scope.names.lookup x == some .cell)=true from e));exact Nat.le_of_succ_le (lq (O9 _) (.inl hm) e2)
 ·rcases hcell x c e with ⟨a1, a2⟩ | ⟨a1, a2⟩
  ·exact(hf b hb).2.2.2.2.1 x c (hcl x c a1)
  ·exact fun z=>absurd (OB (QH (hfs b hb)) (by rw[<- z];exact a1)) (OC _)
 ·rcases (hf b hb).2.2.2.1 with z | z
  ·exact I.ok.noex b o e z
  ·exact absurd (OB (OB (OA e) I.ok.bsz) z) (OC _)
 ·rcases OM.mp (I.stkSub b z) with q | q
  ·exact(hf b hb).2.1 q
  ·exact(hf b hb).2.2.1 q
 ·have e2':∃j,cap[i]?=some (some j)/\B[j]?=some (some v):=by
   unfold qg at e2;rw[Px]at e2;cases hc:cap[i]? with
   |none=>rw[hc]at e2;cases e2
   |some o=>
    rw[hc]at e2;cases o with
    |none=>cases e2
    |some j=>
     refine⟨j,rfl,?_⟩;dsimp[Option.map_some,QK]at e2;cases hj:B[j]? with
     |none=>rw[hj]at e2;cases e2
     |some q=>
      rw[hj]at e2;dsimp[Option.join_some]at e2;rw[Oq e2]
  obtain⟨j,hj,hv⟩:=e2';obtain⟨hN,hx⟩:=qE S.cap hj e1;have hkx:=S.free (x,.free) (fe hx) rfl;obtain⟨m,hm,hl⟩:=I.loc;obtain⟨u,r,l⟩:=hl j x v hN hv (hkx.elim (fun z=>.inr (.inl z)) (fun z=>.inr (.inr z)));refine⟨u,r,.inr ⟨?_,?_⟩⟩
  ·rw [hrl, hx];show some (if _ then _ else _)=_\/some (if _ then _ else _)=_;by_cases hc:(NameKind.free == NameKind.free&&X.env.scope.kind == .function&&X.env.kindOf x == some .cell)=true
   ·rw[Ow hc];exact .inl rfl
   ·rw[Ox hc];exact .inr rfl
  ·obtain ⟨c, ec⟩ := hclx x hx
   have hm:(x,NameKind.cell)∉scope.names:=fun z=>by
    have:=S.nd (x,.cell) z;rw[hx]at this;cases this
   refine⟨c,(ju hm).trans ec,?_⟩;rcases l with⟨k,_⟩|⟨k,c',ec',z⟩
   ·rcases hkx with q|q <;> (rw[k]at q;cases q)
   ·have q:=hcl x c ec;rw[ec']at q;cases q;obtain⟨o,ho,hd⟩:=z;exact⟨o,hk _ o ho,hd⟩
 ·rcases hcell x c e with ⟨a1, a2⟩ | ⟨a1, a2⟩
  ·obtain⟨v,o,ho,hd⟩:=I.cell x c (hcl x c a1);exact⟨v,o,hk _ o ho,hd⟩
  ·exact⟨none,a2⟩
 ·rcases hcell x c e with ⟨a1, a2⟩ | ⟨a1, a2⟩
  ·exact I.freeC x c (hcl x c a1)
  ·exact I.hok.fresh (Nat.le_of_succ_le a1)
 ·show (cap.map _).length=Nc.length;rw[PD,nZ S.cap]
abbrev y6:Value->Shared->Prop:=fun _ _=>False
def uj(ifs:List Expr)(env:Env):Sem Bool:=forIn ifs true fun c r=>if r=true then do let ok <- isTrue c env (eval c env);pure (ForInStep.yield ok) else pure (ForInStep.yield r)
def vg(X:Cx)(ifs:List Expr)(t:TT):Prop:=
 ∀(pins:List 2e9)(s:Shared)(B:St)(H:Hp)(Q:Bool->Hp->Prop),aS X pins B H s->t B H Q->wpAny 0e7 X.A (uj ifs 1e2) (TP X pins B Q) X.xe s
def LM:TT:=fun _ H Q=>Q true H
theorem FW{X:Cx}:vg X [] LM:=fun _ _ _ H _ I h=>O5 ⟨H,I,h⟩
theorem FV{X:Cx}{c:Expr}{t:TT}(h:PT X c t):vg X [c] t:=fun pins s B H Q I q=>wpAny_tests_one (h pins s B H Q I q)
def KH(e:Expr)(acc:Value)(env:Env):Sem Unit:=match e with
 |.ListComp elt _ _ _=>do let _ <- call (.builtin "list.append") [acc,<- eval elt env]
 |.SetComp elt _ _ _=>do let v <- eval elt env;standAt elt.pos;let _ <- call (.builtin "set.add") [acc,v]
 |_=>unsupported "internal:not-a-comprehension"
def qm:Expr->Bool
 |.ListComp ..=>true
 |.SetComp ..=>true
 |_=>false
def mG(M:Model)(A:Around)(e:Expr)(k:Nat)(acc:Value)(env:Env)(C:Shared->Prop)(E:Value->Shared->Prop)(s:Shared):Prop:=match (clausesOf e)[k]? with
 |some g=>wpAny M A (eval g.iter env) (fun x s1=>wpAny M A (foldedSetIterable g.iter env x) (fun x s2=>wpAny M A (pyIter x) (fun it s3=>
   codeAny M A (.compStart e k it acc env) (fun r s4=>(∃f,r=.ok f)/\C s4) s3) E s2) E s1) E s
 |none=>wpAny M A (KH e acc env) (fun _ s1=>C s1) E s
theorem w9{M:Model}{acc:Value}{C C':Shared->Prop}(hC:∀s,C s->C' s)(h:mG M A e k acc env C y6 s):mG M A e k acc env C' E s:=by
 unfold mG at h⊢;split at h
 ·exact OU h (fun _ _ h=>OU h (fun _ _ h=>OU h (fun _ _ h=>Pl h fun _ _ h=>⟨h.1,hC _ h.2⟩) fun _ _ z=>z.elim) fun _ _ z=>z.elim) fun _ _ z=>z.elim
 ·exact OU h (fun _ _ h=>hC _ h) fun _ _ z=>z.elim
theorem E8{M:Model}{d:Nat}{it acc:Value}{Q:Fin->Shared->Prop}(he:qm e=true)(hz:∀g∈clausesOf e,g.is_async=0)(hg:(clausesOf e)[d]?=some g)(h : wpAny M A (pyNext it) (fun r s₁ => match r with
   |none=>Q (.done .next) s₁
   |some v=>wpAny M A (letOwnedTupleGo g.target it v) (fun _ s₁'=>wpAny M A (assign g.target env v) (fun _ s₂=>wpAny M A (uj g.ifs env) (fun ok s₃=>
     if ok=true then mG M A e (d+1) acc env (fun s₄=>wpAny M A (again (.compLoop e d it acc env)) Q E s₄) E s₃ else wpAny M A (again (.compLoop e d it acc env)) Q E s₃) E s₂) E s₁') E s₁) E s):
  wpAny M A (compTurn e d it acc env) Q E s:=by
 have h0:=hz g (Pz hg);have h1:∀g',(clausesOf e)[d+1]?=some g'->g'.is_async=0:=fun g' h=>hz g' (Pz h);unfold compTurn
 cases e <;> first
  |exact absurd (show false=true from he) O3
  | (rename_i elt gens sc pos
     have hg':gens[d]?=some g:=hg;have h1':∀g',gens[d+1]?=some g'->g'.is_async=0:=h1;dsimp only;rw[hg'];dsimp only;rw[h0];refine OZ (O1 ?_);show wpAny M A (pyNext it >>= _) Q E s;refine OZ (OU h (fun r s₁ h₁=>?_) fun _ _ z=>z);cases r with
     |none=>exact O5 h₁
     |some v=>
      refine OZ (OU h₁ (fun _ s₁' h₁'=>?_) fun _ _ z=>z);refine OZ (OU h₁' (fun _ s₂ h₂=>?_) fun _ _ z=>z);refine OZ (OU h₂ (fun ok s₃ h₃=>?_) fun _ _ z=>z);cases ok with
      |false=>exact h₃
      |true=>
       dsimp[PU]at h₃⊢;unfold mG at h₃;dsimp only[clausesOf]at h₃;cases e2:gens[d+1]? with
       |none=>
        rw[e2]at h₃;exact OZ h₃
       |some g'=>
        rw[e2]at h₃;have e3:=h1' g' e2;dsimp[e3];refine OZ (OU h₃ (fun x s₄ h₄=>?_) fun _ _ z=>z);refine OZ (O1 ?_);show wpAny M A (foldedSetIterable g'.iter env x >>= _) Q E s₄;refine OZ (OU h₄ (fun x s₅ h₅=>?_) fun _ _ z=>z);refine OZ (O0 ?_);show wpAny M A (pyIter x) _ E s₅;refine OU h₅ (fun it' s₆ h₆=>?_) fun _ _ z=>z;refine OZ (wpAny_runOwn (Pl h₆ fun r s₇ h₇=>?_));obtain⟨⟨f,rfl⟩,hc⟩:=h₇
        exact hc)
section
variable{R:Result->Shared->Prop}
theorem AD{it acc:Value}(he:qm e=true)(hz:∀g∈clausesOf e,g.is_async=0)(hg:(clausesOf e)[k]?=some g)(h0:codeAny 0e6 A (.compLoop e k it acc env) R s)(h:wpAny 0e6 A (pyIter it) (fun it' s'=>codeAny 0e6 A (.compLoop e k it' acc env) R s') y6 s):
  codeAny 0e6 A (.compStart e k it acc env) R s:=by
 have ha:=hz g (Pz hg)
 cases e <;> first
  |exact absurd (show false=true from he) O3
  | (refine QL ?_
     show wpAny _ _ ((compStart _ k it acc env).onRaise (fun x=>do noteFrame x env;standAt theWindowsPlace)) _ _ s;refine wpAny_notedAt ?_;unfold compStart;rw[hg];have e1:((some g).elim false fun x=>x.is_async != 0)=false:=by show (g.is_async != 0)=false;rw[ha];rfl
     rw[e1];dsimp[QE,PR];refine OZ (QM (wpAny_ite ?_));split
     ·exact O5 (And.intro rfl h0)
     ·refine OZ (QN ?_);refine OZ (O1 ?_)
      exact OZ (OU h (fun it' s' h'=>O5 (And.intro rfl h')) fun _ _ z=>z.elim))
theorem Bc{d:Nat}{it acc:Value}(he:qm e=true)(hz:∀g∈clausesOf e,g.is_async=0)(hg:(clausesOf e)[d]?=some g)(I:Nat->Shared->Prop)(turn : ∀ n s, I n s -> wpAny 0e6 A (pyNext it) (fun r s₁ => match r with
   |none=>R (.ok .next) s₁
   |some v=>wpAny 0e6 A (letOwnedTupleGo g.target it v) (fun _ s₁'=>wpAny 0e6 A (assign g.target env v) (fun _ s₂=>
     wpAny 0e6 A (uj g.ifs env) (fun ok s₃=>
      if ok=true then mG 0e6 A e (d+1) acc env (fun s₅=>∃m,m<n/\I m s₅) y6 s₃
      else ∃m,m<n/\I m s₃) y6 s₂) y6 s₁') y6 s₁) y6 s)(n:Nat)(h:I n s):codeAny 0e6 A (.compLoop e d it acc env) R s:=by
 refine codeAny_loop (by cases e <;> first|exact absurd (show false=true from he) O3|rfl) I (fun n s hI=>?_) n h
 cases e <;> first
  |exact absurd (show false=true from he) O3
  | (show wpAny _ A ((compTurn _ d it acc env).onRaise (fun x => do noteFrame x env; theTreesLotGoes x)) _ _ s
     refine wpAny_noted (E8 he hz hg (OU (turn n s hI) (fun r s₁ h₁=>?_) fun _ _ z=>z.elim));cases r with
     |none=>exact h₁
     |some v=>
      refine OU h₁ (fun _ s₂ h₂=>OU h₂ (fun _ s₃ h₃=>OU h₃ (fun ok s₄ h₄=>?_) fun _ _ z=>z.elim) fun _ _ z=>z.elim) fun _ _ z=>z.elim;cases ok with
      |false=>exact O5 ⟨rfl,h₄⟩
      |true=>
       dsimp[PU]at h₄⊢
       exact w9 (fun s₅ h₅=>O5 ⟨rfl,h₅⟩) h₄)
end
abbrev EL:=St->Hp->(St->Hp->Prop)->Prop
def EN(X:Cx)(e:Expr)(k:Nat)(acc:Addr)(t:EL):Prop:=
 ∀(pins:List 2e9)(s:Shared)(B:St)(H:Hp)(N:St->Hp->Prop),aS X pins B H s->t B H N->mG 0e7 X.A e k (.ref acc) 1e2 (fun s'=>∃B' H',aS X pins B' H' s'/\N B' H') y6 s
def Nl(J:It)(g:TG)(tt:TT)(tb:EL)(N:St->Hp->Prop)(B:St)(H:Hp):Prop:=∃W:Nat->Nat->St->Hp->Prop,(∃m,W 0 m B H)/\∀i m B1 H,W i m B1 H ->
 (J.stop i H/\N B1 H)\/(J.go i H/\∃N':St->Hp->Prop,(∀B' H',N' B' H'->∃m',m'<m/\W (i+1) m' B' H')/\∀x H',J.yld i H x H'->g x B1 H' fun B2 H2=>tt B2 H2 fun b H3=>if b=true then tb B2 H3 N' else N' B2 H3)
section
variable{X:Cx}{d:Nat}{cl:Comprehension}{g:TG}{tt:TT}{tb:EL}
theorem xu{J:It}{tn:Nat->Heap->Prop}{N:St->Hp->Prop}(he:qm e=true)(hz:∀g∈clausesOf e,g.is_async=0)(hg:(clausesOf e)[d]?=some cl)(hxe:X.xe=y6)(hc:X.calm=true)(T:As X.prog X.w X.K cl.target J fp it tn)(hgc:PG X cl.target g)(htc:vg X cl.ifs tt)(hb:EN X e (d+1) acc tb)(I:aS X pins B H s)(st:tn 0 1e5)(fr:∀b∈fp,mC X pins H b)(h:Nl J g tt tb N B H):
  codeAny 0e7 X.A (.compLoop e d (.ref it) (.ref acc) 1e2) (fun r s'=>r=.ok .next/\∃B' H',aS X pins B' H' s'/\N B' H') s:=by
 obtain⟨W,⟨m0,w0⟩,turn⟩:=h;have stat:∀{H':Hp},(∀b∈fp,H' b=none)->∀b∈fp,mC X pins H' b:=fun hn b hb=>⟨hn b hb,(fr b hb).2⟩;refine Bc he hz hg (fun n s'=>∃i B' H',aS X pins B' H' s'/\tn i s'.heap/\(∀b∈fp,H' b=none)/\W i n B' H') ?_ m0 ⟨0,_,_,I,st,fun b hb=>(fr b hb).1,w0⟩
 rintro n s5 ⟨i,B5,H5,I5,st5,fr5,w5⟩
 rcases turn i n B5 H5 w5 with⟨stop,qn⟩|⟨go,N',hN,step⟩
 ·refine dh (T.done X rfl rfl rfl hc i pins s5 B5 H5 y6 I5 (stat fr5) st5 stop) fun r s6 ⟨hr,I6⟩=>?_;subst hr;exact⟨rfl,_,_,I6,qn⟩
 ·refine dh (T.item X rfl rfl rfl hc i pins s5 B5 H5 y6 I5 (stat fr5) st5 go) fun r s6 ⟨u, hr, h6⟩ => ?_;subst hr;refine dh h6 fun _ s7 ⟨x,H7,I7,r7,y7,st7,fr7⟩=>?_;have I7':=I7.pinned (stat fr7) (T.obj _ _ st7);have z1:=hgc _ s7 B5 H7 x u _ I7' r7 (step x H7 y7);rw[hxe]at z1;refine dh z1 fun _ s8 ⟨B8,H8,I8,q8⟩=>?_;have z2:=htc _ s8 B8 H8 _ I8 q8;rw[hxe]at z2;refine dh z2 fun b s9 ⟨H9,I9,q9⟩=>?_
  have again:∀{σa:St}{Ha:Hp}{sa:Shared},aS X (pins++ql fp s7.heap) σa Ha sa->N' σa Ha->∃m,m<n/\∃i B' H',aS X pins B' H' sa/\tn i sa.heap/\(∀b∈fp,H' b=none)/\W i m B' H':=fun {σa Ha sa} Ia na=>by
   obtain⟨m',hm,wa⟩:=hN σa Ha na;refine⟨m',hm,i+1,σa,Ha,Ia.unpinned,T.keep _ _ _ st7 fun b hb o e=>(Ia.pin (b,o) (Pd _ (Pd _ (jM hb e)))).1,fun b hb=>?_,wa⟩;obtain⟨o,e,d⟩:=T.obj _ _ st7 b hb;exact(Ia.pin (b,o) (Pd _ (Pd _ (jM hb e)))).2.1
  cases b with
  |false=>
   rw[Ox O3]at q9⊢;exact again I9 q9
  |true=>
   rw[Ow rfl]at q9⊢;exact w9 (fun s' ⟨B',H',I',n'⟩=>again I' n') (hb _ s9 B8 H9 _ I9 q9)
def Ht(te:TE)(acc:Addr):EL:=fun B H N=>te B H fun y H4=>∃ys,H4 acc=some (.lst ys)/\ys.length<sizeLine/\N B (bq H4 acc (.lst (ys++[y])))
theorem wq(hg:gens[d]?=none)(hxe:X.xe=y6)(hel:PE X elt te):EN X (.ListComp elt gens scope pos) d acc (Ht te acc):=by
 intro pins s B H N I h;unfold mG;show (match gens[d]? with|some g=>_|none=>_:Prop);rw[hg];show wpAny _ _ (do let _ <- call (.builtin "list.append") [.ref acc,<- eval elt 1e2]) _ _ _;have z:=hel pins s B H _ I h;rw[hxe]at z;refine OZ (dh z fun v10 s10 ⟨y,H10,I10,r10,ys,hy,hz,nn⟩=>?_);have z4:=sT (X:=X) pins s10 B H10 (.ref acc) [y] (.ref acc) [v10] (fun _ H'=>N B H') I10 rfl (.cons r10 .nil) ⟨_,ys,y,rfl,rfl,hy,hz,nn⟩;rw[hxe]at z4;exact OZ (dh z4 fun v11 s11 ⟨y',H11,I11,r11,n11⟩=>O5 ⟨_,_,I11,n11⟩)
end
theorem Ek{M:Model}{Q:Env->Shared->Prop}(hQ : ∀ h', h'.Ns 0e3 (fun _ => none) -> (∀ b o, s.heap.get? b = some o -> h'.get? b = some o) -> (∀ x c, (cellsFrom (s.heap.objs.size + 1) scope.names cl).lookup x = some c -> cl.lookup x = some c \/ h'.IsCell c none) ->
   ∀cenv:Env,({cenv with scope:=relabel scope env}:Env)=compEnvC scope (cellsFrom (s.heap.objs.size+1) scope.names cl) 0e3 env->cenv.locals=s.heap.objs.size->Q cenv {s with heap:=h'}):
  wpAny M A (newFunctionEnv scope env.globals cl [] env.qual none .none (some env)) Q E s:=by
 dsimp[newFunctionEnv,Option.isSome_some,PU];refine OZ (wpAny_alloc ?_);refine OZ (wpAny_layCells _ (fun name kind cells=>by cases hkc:kind == NameKind.cell <;> simp[hkc]) _ _ _ _ ?_);have hsz:(s.heap.push {cls:=.type "dict",data:=.dict #[]}).objs.size=s.heap.objs.size+1:=QI ..;refine OZ (O5 (O5 ?_));show Q _ {s with heap:=pushCells (s.heap.push {cls:=.type "dict",data:=.dict #[]}) scope.names};refine hQ _ ((Heap.Ns.new 1e5 (.type "dict")).keeps (QJ _ _)) (fun b o e=>QJ _ _ b o (O8 _ e)) (fun x c e=>?_) _ ?_ rfl
 ·rw[<- hsz]at e;exact kE e
 ·show _=_;unfold compEnvC;rw[<- hsz]
def nG(o0:Addr->HO)(wi:TI)(cap:List (Option Nat))(g:TG)(tt:TT)(tb:Addr->EL):TE:=fun B H Q=>wi B H fun J H1=>∀acc,H1 acc=none->Nl J g tt (tb acc) (fun _ H'=>Q (.ref acc) H') (qg cap B) (bq H1 acc (o0 acc))
def σ4(wi:TI)(cap:List (Option Nat))(g:TG)(tt:TT)(te:TE):TE:=nG (fun _=>.lst []) wi cap g tt (Ht te)
def Nv(X:Cx)(newAcc:Sem Value)(o0:Addr->HO):Prop:=∀(pins:List 2e9)(s:Shared)(B:St)(H:Hp)(Q:Value->Shared->Prop),aS X pins B H s ->
 (∀s',aS X pins B (bq H 0e3 (o0 0e3)) s'->(∀b o,s.heap.get? b=some o->s'.heap.get? b=some o)->s.heap.objs.size<s'.heap.objs.size->Q (.ref 0e3) s')->wpAny 0e7 X.A newAcc Q X.xe s
theorem wz{X:Cx}:Nv X (newList []) (fun _=>.lst []):=fun pins s B H Q I h=>
 Qh (h _ (I.lnew (t':=s.toks) (ys:=[]) (its:=[]) .nil (QO _)) (fun b o e=>O8 _ e) (by rw[QI];exact QG _))
section
variable{X:Cx}{cl0:Comprehension}{rest:List Comprehension}{cap:List (Option Nat)}{wi:TI}{g:TG}{tt:TT}{tb:Addr->EL}{o0:Addr->HO}{newAcc:Sem Value}
theorem nX{use:Option (Value->Sem Unit)}{Q:VK}{QQ:Value->Shared->Prop}(he:qm e=true)(hz:∀g∈clausesOf e,g.is_async=0)(hcl0:clausesOf e=cl0::rest)(hmk:Nv X newAcc o0)(hc:X.calm=true)(S:bQ X.N 1e2 scope Nc cap)(hi:PI X cl0.target cl0.iter wi)(hg:∀cl C s H fp,PG 0e9 cl0.target g)(ht:∀cl C s H fp,vg 0e9 cl0.ifs tt)(hb:∀cl C s H fp acc,EN 0e9 e 1 acc (tb acc))(I:aS X pins B H s)(h:nG o0 wi cap g tt tb B H Q)(hfin:∀C acc s' H',aS X pins B H' s'->mC X pins H' C->(∃m,s'.heap.Ns C m)->Q (.ref acc) H'->compPost 0e7 X.A X.xe use QQ (.ref acc) C (.ok .next) s')(hs:∀x,foldedSetIterable cl0.iter 1e2 x=pure x):
  wpAny 0e7 X.A (comprehension e scope 1e2 pos' newAcc false (eval cl0.iter 1e2) use) QQ X.xe s:=by
 obtain⟨cl,hclos,hcl,hall⟩:=yN (scope:=scope) (env:=1e2) (fun y hy hf=>I.ok.has y.1 (S.free y hy hf));have hg0:(clausesOf e)[0]?=some cl0:=by rw[hcl0];rfl
 refine wpAny_comprehension_free hcl0 hs hclos S.kind (fun x hx e=>by rw[S.nd x hx,e]) ?_;refine dh (hi pins s B H _ I h) fun v s1 h1=>dh h1 fun itv s2 h2=>?_;obtain⟨it,fp,tn,J,H2,e',I2,T,st2,f2,rd⟩:=h2;subst e';have rd:=rd _ I2.fresh;refine hmk pins s2 B H2 _ I2 fun s3 I3 hk3 hsz3=>?_;have st3:tn 0 s3.heap:=T.keep _ _ _ st2 fun b _ o e=>hk3 b o e
 have fpn:∀b∈fp,b≠s2.heap.objs.size:=fun b hb=>by
  obtain⟨o,eo,_⟩:=T.obj _ _ st2 b hb;exact OD (OA eo)
 have f3:∀b∈fp,mC X pins (bq H2 s2.heap.objs.size (o0 s2.heap.objs.size)) b:=fun b hb=>⟨by rw[aD (fpn b hb)];exact(f2 b hb).1,(f2 b hb).2⟩
 have hfs:∀b∈fp,b<s3.heap.objs.size:=fun b hb=>by
  obtain⟨o,eo,_⟩:=T.obj _ _ st3 b hb;exact OA eo
 refine Ek fun h1 hns1 hk1 hce cenv ecenv elc=>?_;rw[ecenv]
 have IB:aS (jj X Nc scope cl s3.heap.objs.size s3 (bq H2 s2.heap.objs.size (o0 s2.heap.objs.size)) fp) [] (qg cap B) (bq H2 s2.heap.objs.size (o0 s2.heap.objs.size)) {s3 with heap:=h1,toks:=s3.toks}:=
  Bj I3 f3 hfs S hcl hall hns1 hk1 hce
 have stB:tn 0 h1:=T.keep _ _ _ st3 fun b _ o e=>hk1 b o e;rw[elc]
 have frB:∀b∈fp,mC (jj X Nc scope cl s3.heap.objs.size s3 (bq H2 s2.heap.objs.size (o0 s2.heap.objs.size)) fp) [] (bq H2 s2.heap.objs.size (o0 s2.heap.objs.size)) b:=fun b hb=>
  ⟨(f3 b hb).1,(IB.ok.exf b hb).1,IB.ok.exfs b hb,.inl hb,(IB.ok.exf b hb).2,fun p hp=>absurd (show p∈([]:List 2e9) from hp) 1e1⟩
 have loop:=xu (X:=jj X Nc scope cl s3.heap.objs.size s3 (bq H2 s2.heap.objs.size (o0 s2.heap.objs.size)) fp) he hz hg0 rfl hc T (hg _ _ _ _ _) (ht _ _ _ _ _) (hb _ _ _ _ _ _) IB stB frB rd
 have fin:∀r s',(r=.ok .next/\∃B' H',aS (jj X Nc scope cl s3.heap.objs.size s3 (bq H2 s2.heap.objs.size (o0 s2.heap.objs.size)) fp) [] B' H' s'/\Q (.ref s2.heap.objs.size) H')->compPost 0e7 X.A X.xe use QQ (.ref s2.heap.objs.size) s3.heap.objs.size r s':=by
  rintro r s' ⟨rfl,B',H',J',q⟩
  have I5:aS X pins B H' s':=I3.call' (ch:=fp) J'.os J'.base J'.hok J'.bare fun b hbf=>⟨(f3 b hbf).2.2.2.1,(f3 b hbf).2.1,(f3 b hbf).2.2.2.2.1,(f3 b hbf).2.2.2.2.2⟩;obtain⟨mm,hnn,_⟩:=J'.loc;exact hfin _ _ s' H' I5 (I3.fpOk (O9 _) J'.free) ⟨mm,hnn⟩ q
 exact AD he hz hg0 (Pl loop fin) (T.self _ 0 _ _ _ stB (Pl loop fin))
theorem DK(hc:X.calm=true)(hz:∀g∈cl0::rest,g.is_async=0)(S:bQ X.N 1e2 scope Nc cap)(hi:PI X cl0.target cl0.iter wi)
  (hg:∀cl C s H fp,PG 0e9 cl0.target g) (ht:∀cl C s H fp,vg 0e9 cl0.ifs tt) (hb:∀cl C s H fp acc,EN 0e9 (.ListComp elt (cl0::rest) scope pos) 1 acc (tb acc))
  (hs:∀x,foldedSetIterable cl0.iter 1e2 x=pure x):PE X (.ListComp elt (cl0::rest) scope pos) (nG (fun _=>.lst []) wi cap g tt tb):=by
 intro pins s B H Q I h;have h0:=hz cl0 OJ;obtain⟨tg0,it0,if0,as0⟩:=cl0;have h0':as0=0:=h0;subst h0';rw[arm_eval_ListComp];refine nX (e:=.ListComp elt (_::rest) scope pos) (Q:=Q) rfl hz rfl wz hc S hi hg ht hb I h (fun C acc s' H' I' hf hn q=>?_) hs;obtain⟨m,hn⟩:=hn;refine⟨m,hn,fun h' sb=>⟨.ref acc,H',?_,rfl,q⟩⟩;exact I'.turned (t':=s'.toks) (it:=C) (fun b o hb e=>(sb.2 b hb).trans e) hf.1 hf.2.1 hf.2.2.2.1 hf.2.2.2.2.1 hf.2.2.2.2.2
theorem DF(hc:X.calm=true)(hz:∀g∈cl0::rest,g.is_async=0)(hN:X.N.Nodup)(hix:X.N[i]?=some x)(hx:X.env.scope.names.lookup x=some .local)(S:bQ X.N 1e2 scope Nc cap)(hi:PI X cl0.target cl0.iter wi)(hg:∀cl C s H fp,PG 0e9 cl0.target g)(ht:∀cl C s H fp,vg 0e9 cl0.ifs tt)(hb:∀cl C s H fp acc,EN 0e9 (.ListComp elt (cl0::rest) scope pos) 1 acc (tb acc))(hsw:swapsWith (.ListComp elt (cl0::rest) scope pos) (some (.Name x pos1)) pos2.line 1e2=pure true)(hs:∀x,foldedSetIterable cl0.iter 1e2 x=pure x):
  PS X (.Assign [.Name x pos1] (.ListComp elt (cl0::rest) scope pos) pos2) (BM (nG (fun _=>.lst []) wi cap g tt tb) (vG i)):=by
 intro pins s B H D I h;have h0:=hz cl0 OJ;obtain⟨tg0,it0,if0,as0⟩:=cl0;have h0':as0=0:=h0;subst h0';rw[exec_Assign_Name_used _ _ _ _ hsw];refine OZ (O1 (OZ ?_));show wpAny _ X.A (do let _ <- comprehension (.ListComp elt (⟨tg0,it0,if0,0⟩::rest) scope pos) scope 1e2 _ (newList []) false (eval it0 1e2) (some (assign (.Name x pos1) 1e2))) _ _ s
 refine OZ (OU (nX (e:=.ListComp elt (_::rest) scope pos) (use:=some (assign (.Name x pos1) 1e2)) (Q:=fun v H1=>D.nx (B.set i (some v)) H1) (QQ:=fun _ s'=>SP X pins D .next s') rfl hz rfl wz hc S hi hg ht hb I h (fun C acc s' H' I' hf hn q=>?_) hs)
  (fun _ s' hq=>O5 (O5 hq)) fun _ _ e=>e)
 obtain⟨m,hn⟩:=hn;show wpAny _ X.A (assign (.Name x pos1) 1e2 (.ref acc)) _ _ _;refine wpAny_assign_Name (sH I' hN hix (.inl hx) (show bG (.ref acc) (.ref acc) from rfl) (fun s'' I'' hsb=>?_) (.inr hx));obtain⟨a,sb,ha⟩:=hsb
 have hCa:C≠a:=by
  rcases ha with z|z
  ·rw[z];exact hf.2.1
  ·exact fun e=>hf.2.2.2.2.1 x a z e.symm
 refine⟨m,hn.sameBut sb hCa,fun h' sb'=>⟨_,H',?_,q⟩⟩;exact I''.turned (t':=s''.toks) (it:=C) (fun b o hb e=>(sb'.2 b hb).trans e) hf.1 hf.2.1 hf.2.2.2.1 hf.2.2.2.2.1 hf.2.2.2.2.2
variable{ifs:List Expr}
theorem sS:∀g∈([⟨tg,iter,ifs,0⟩]:List Comprehension),g.is_async=0:=fun g hg=>by rw[QP.mp hg]
theorem Gf(hc:X.calm=true)(S:bQ X.N 1e2 scope Nc cap)(hi:PI X tg iter wi)
  (hg:∀cl C s H fp,PG 0e9 tg g) (ht:∀cl C s H fp,vg 0e9 ifs tt) (he:∀cl C s H fp,PE 0e9 elt te)
  (hs:∀x,foldedSetIterable iter 1e2 x=pure x:=by intro _;rfl):PE X 3e0 (σ4 wi cap g tt te):=
 DK (cl0:=⟨tg,iter,ifs,0⟩) hc sS S hi hg ht (fun cl C s H fp acc=>wq rfl rfl (he cl C s H fp)) hs
theorem FZ(hc:X.calm=true)(hN:X.N.Nodup)(hix:X.N[i]?=some x)(hx:X.env.scope.names.lookup x=some .local)(S:bQ X.N 1e2 scope Nc cap)(hi:PI X tg iter wi)(hg:∀cl C s H fp,PG 0e9 tg g)(ht:∀cl C s H fp,vg 0e9 ifs tt)(he:∀cl C s H fp,PE 0e9 elt te)(hsw:swapsWith 3e0 (some (.Name x pos1)) pos2.line 1e2=pure true)(hs:∀x,foldedSetIterable iter 1e2 x=pure x:=by intro _;rfl):
  PS X (.Assign [.Name x pos1] 3e0 pos2) (BM (σ4 wi cap g tt te) (vG i)):=
 DF (cl0:=⟨tg,iter,ifs,0⟩) hc sS hN hix hx S hi hg ht (fun cl C s H fp acc=>wq rfl rfl (he cl C s H fp)) hsw hs
end
end ρ2
namespace RS
open PySem PySem.W PyProof.Rows
open AutoSeq1 (wpAny_loadPart')
section
theorem va{t:Addr}{items}{x:Value}(hit:s.heap.IsTupleIter it t i)(ht:s.heap.IsTuple t items)(hx:items[i]?=some x)(hQ:∀h',h'.IsTupleIter it t (i+1)->Heap.SameBut it 1e5 h'->Q x {s with heap:=h'}):wpAny 0e6 A (Builtin.SmallTypes.nextOf (.ref it)) Q E s:=by
 obtain⟨o,ho,hc,hd⟩:=id hit;obtain⟨ol,hol,_,nl,hdl⟩:=ht;unfold Builtin.SmallTypes.nextOf;refine OZ (Qa (name:=Str.ofString "__next__") hit.typeIs QR (Qc QR hit.typeIs QS ?_ (QT _)));show wpAny _ _ (field (.ref it) 0 >>= _) _ _ s;refine OZ (PX ho hd (x:=.ref t) rfl ?_);show wpAny _ _ (if (Value.ref t == Value.none)=true then _ else _) _ _ s;rw[Ox (show ¬ ((Value.ref t == Value.none)=true) from O3)];show wpAny _ _ (field (.ref it) 1 >>= _) _ _ s;refine OZ (PX ho hd (x:=.int i 0) rfl ?_);show wpAny _ _ (seqItems? (.ref t) >>= _) _ _ s;refine OZ (QU hol hdl ?_);dsimp[PN,hx];refine OZ (QV ho hd 1e1 (O5 ⟨x,rfl,O5 (hQ _ ?_ (QW ..))⟩));exact⟨_,Qm _ ho (QX (QY hd _)),(QZ ..).trans hc,by rw[QY hd];simp[rawInt]⟩
theorem oq{t:Addr}{items}(hh:A.handled=none)(hit:s.heap.IsTupleIter it t i)(ht:s.heap.IsTuple t items)(hx:items[i]?=none)(hE:∀h' e,Heap.ExtBut it 1e5 h'->(∃o,h'.get? e=some o/\o.cls=.type "StopIteration")->E (.ref e) {s with heap:=h'}):wpAny 0e6 A (Builtin.SmallTypes.nextOf (.ref it)) Q E s:=by
 obtain⟨o,ho,hc,hd⟩:=id hit;obtain⟨ol,hol,_,nl,hdl⟩:=ht;unfold Builtin.SmallTypes.nextOf;refine OZ (Qa (name:=Str.ofString "__next__") hit.typeIs QR (Qc QR hit.typeIs QS ?_ (QT _)));show wpAny _ _ (field (.ref it) 0 >>= _) _ _ s;refine OZ (PX ho hd (x:=.ref t) rfl ?_);show wpAny _ _ (if (Value.ref t == Value.none)=true then _ else _) _ _ s;rw[Ox (show ¬ ((Value.ref t == Value.none)=true) from O3)];show wpAny _ _ (field (.ref it) 1 >>= _) _ _ s;refine OZ (PX ho hd (x:=.int i 0) rfl ?_);show wpAny _ _ (seqItems? (.ref t) >>= _) _ _ s;refine OZ (QU hol hdl ?_);dsimp[PN,hx];refine OZ (QN (OZ (QV ho hd 1e1 ?_)));show wpAny _ _ (newExc (.type "StopIteration") [] >>= _) _ _ _;refine OZ ?_;dsimp[newExc,newTuple];refine OZ (Qh ?_ (by size_fits));refine OZ (m:=firstArgMember _ _) (Q0 (a:=Value.none) (by first|rfl|(dsimp[firstArgMember];rfl)) ?_);refine Qh ?_ (by size_fits);dsimp[raiseNew];refine OZ (wpAny_handled ?_)
 first|rw[show A.in1.handled=none from hh]|rw[hh]
 refine OZ (O5 (wpAny_throw ?_));exact hE _ _ (((QW ..).extBut.push _).push _) ⟨_,Oy _ rfl,rfl⟩
end
theorem KL(hh:A.handled=none)(it l:Addr)(hne:l≠it)(items:Array Value):
  Draws prog w A it [it,l] 2e8 (fun i v=>items[i]?=some v) (fun i h=>h.IsTupleIter it l i/\h.IsTuple l items) where
 live:=fun _ _ st=>let ⟨o,ho,_⟩:=st.1;⟨o,ho⟩
 frame:=fun _ _ _ st hk=>⟨by
  obtain⟨o,ho,r⟩:=st.1;exact⟨o,hk it 1e1 o ho,r⟩,by
  obtain⟨o,ho,r⟩:=st.2
  exact⟨o,hk l 1e1 o ho,r⟩⟩
 item:=fun i s Q E hi st hQ=>by
  refine va st.1 st.2 (x:=items[i]) (by simp[hi]) fun h' hit' hs'=>?_;refine hQ _ h' s.toks (by simp[hi]) ⟨hit',?_⟩ hs';obtain⟨o,ho,r⟩:=st.2;exact⟨o,(hs'.2 l hne).trans ho,r⟩
 done:=fun s Q E st hE=>oq hh st.1 st.2 1e1 hE
theorem xm(l:Addr)(items:Array Value)(n:Nat)(dct:Option Addr)(sl:Array (Option Value)) :
  Meets (Builtin.«enumerate.__new__» ⟨[.type "enumerate",.ref l],[]⟩) (fun _ R s=>s.heap.get? l=some {cls:=.type "tuple",dict:=dct,data:=.seq items n,slots:=sl} /\
   R (.ok (.ret (.ref (s.heap.push {cls:=.type "tuple_iterator",data:=.fields #[.ref l,.int 0 0]}).objs.size)))
    {s with heap:=(s.heap.push {cls:=.type "tuple_iterator",data:=.fields #[.ref l,.int 0 0]}).push {cls:=.type "enumerate",data:=.fields #[.none,.bool false,.ref 0e3,rawInt 0,.none,.none]}}):=
 .of_wp fun prog w A R s h=>by
  obtain⟨hp,g,d,tk,os⟩:=s;obtain⟨hl,h⟩:=h;have hsub:=sub_enumerate;have hL:Heap.IsTuple (Shared.heap ⟨hp,g,d,tk,os⟩) l items:=⟨_,hl,rfl,n,rfl⟩
  wp_walk using wpAny_loadPart' hl
  refine wpAny_stack_any fun st=>O5 ?_;split
  ·rename_i c _ _ _ _ _;cases (c == Value.type "enumerate")
   ·wp_walk using wpAny_loadPart' hl, Q2 hL
    exact⟨_,rfl,h⟩
   ·wp_walk using wpAny_loadPart' hl, Q2 hL
    exact⟨_,rfl,h⟩
  ·wp_walk using wpAny_loadPart' hl, Q2 hL
   exact⟨_,rfl,h⟩
section
theorem yV{items:Array Value}(hL:s.heap.IsTuple l items)(h : ∀ h', IsEnum h' (s.heap.objs.size + 1) 0e3 0 .none -> h'.IsTupleIter 0e3 l 0 -> h'.objs.size = s.heap.objs.size + 2 ->
   (∀b o,s.heap.get? b=some o->h'.get? b=some o)->Q (.ref (s.heap.objs.size+1)) {s with heap:=h'}):
  wpAny 0e6 A (call (.type "enumerate") [.ref l]) Q E s:=by
 obtain⟨⟨c,dct,dt,sl⟩,hl,hc,n,hd⟩:=hL;replace hc:c=.type "tuple" := hc;replace hd:dt=.seq items n:=hd;subst hc hd;refine callType_new F.called_enumerate 0e4 (F.typeCall_enumerate_1 _) (F.newCall_enumerate_1 _) (fun obj=>F.args_object_init_2 obj _) F.entry_enumerate_new (xm l items n dct sl) ⟨hl,?_⟩;have hz:(s.heap.push {cls:=.type "tuple_iterator",data:=.fields #[.ref l,.int 0 0]}).objs.size=s.heap.objs.size+1:=QI ..;show _/\_;rw[hz]
 have he:IsEnum ((s.heap.push {cls:=.type "tuple_iterator",data:=.fields #[.ref l,.int 0 0]}).push
   {cls:=.type "enumerate",data:=.fields #[.none,.bool false,.ref 0e3,rawInt 0,.none,.none]}) (s.heap.objs.size+1) 0e3 0 .none:=by
  have:=Oy (s.heap.push {cls:=.type "tuple_iterator",data:=.fields #[.ref l,.int 0 0]})
   (o:={cls:=.type "enumerate",data:=.fields #[.none,.bool false,.ref 0e3,rawInt 0,.none,.none]}) rfl
  rw[hz]at this;exact this
 exact⟨⟨_,he,rfl⟩,h _ he ⟨_,O8 _ (Oy _ rfl),rfl,rfl⟩ (by rw[QI,hz]) fun b o x=>O8 _ (O8 _ x)⟩
end
end RS
namespace ρ2
open PySem PySem.Spec PyProof.Rows RS
def Sq(b:Bool)(K:W.Frag)(H:Hp)(a:Addr)(xs:List V):Prop:=if b=true then fG K H a xs else eK K H a xs
def Nx(b:Bool)(K:W.Frag)(a:Addr):It:=
 ⟨fun i H => ∃ xs x, Sq b K H a xs /\ xs[i]? = some x,
  fun i H x H'=>∃q y,x=.ref q/\H q=none/\H'=bq H q (.tup [.int i,y])/\∀xs,Sq b K H a xs->xs[i]?=some y,
  fun i H=>∃xs,Sq b K H a xs/\xs.length=i⟩
def tV(b:Bool)(h:Heap)(it a:Addr)(i:Nat):Prop:=if b=true then h.IsListIter it a i else h.IsTupleIter it a i
theorem tV.obj{h:Heap}(x:tV b h it a i):∃o,h.get? it=some o/\∀v,o.data≠.cell v:=by
 cases b with
 |true=>obtain⟨o,e,c,d⟩:=(show h.IsListIter it a i from x);exact⟨o,e,fun v z=>by rw[d]at z;cases z⟩
 |false=>obtain⟨o,e,c,d⟩:=(show h.IsTupleIter it a i from x);exact⟨o,e,fun v z=>by rw[d]at z;cases z⟩
theorem tV.keep{h:Heap}(x:tV b h it a i)(k:∀o,h.get? it=some o->h'.get? it=some o):tV b h' it a i:=by
 cases b with
 |true=>obtain⟨o,e,r⟩:=(show h.IsListIter it a i from x);exact(show h'.IsListIter it a i from⟨o,k o e,r⟩)
 |false=>obtain⟨o,e,r⟩:=(show h.IsTupleIter it a i from x);exact(show h'.IsTupleIter it a i from⟨o,k o e,r⟩)
theorem wV{X:Cx}{xs:List V}(I:aS X pins B H s)(hc:X.calm=true)(hq:Sq b X.K H a xs)(hne:a≠it):
  ∃(its:Array Value)(St:Nat->Heap->Prop),ba xs its.toList/\Draws X.prog X.w X.A.in1 it [it,a] its.size (fun i v=>its[i]?=some v) St/\(∀i,tV b 1e5 it a i->St i 1e5)/\∀i h,St i h->tV b h it a i:=by
 have hh:X.A.in1.handled=none:=by simpa using I.ok.hd hc
 cases b with
 |true=>
  obtain⟨its,rv,p,hz⟩:=I.list (show fG X.K H a xs from hq);exact⟨2e3,_,by simpa using rv,Draws.list hh it a hne 2e3,fun i h=>⟨h,p.isList⟩,fun i h st=>st.1⟩
 |false=>
  obtain⟨its,rv,p,hz⟩:=I.tuple (show eK X.K H a xs from hq);exact⟨2e3,_,by simpa using rv,KL hh it a hne 2e3,fun i h=>⟨h,p⟩,fun i h st=>st.1⟩
theorem IT{X:Cx}{xs ys:List V}(I:aS X pins B H s)(h1:Sq b X.K H a xs)(h2:Sq b X.K H a ys):xs=ys:=by
 cases b with
 |true=>exact I.list_inj h1 h2
 |false=>exact I.tuple_inj h1 h2
theorem aS.turns{X:Cx}(I:aS X pins B H s)(k:∀b o,b∉ch->s.heap.get? b=some o->h'.get? b=some o)(hf:∀b∈ch,mC X pins H b):aS X pins B H {s with heap:=h',toks:=t'}:=by
 have nit:∀b u,H b=some u->b∉ch:=fun b u e z=>by rw[(hf b z).1]at e;cases e
 refine I.step (g':=s.gens) (d':=s.drawn) (ch:=ch) (fun b hb=>?_) (fun b o _ _ hc e _=>k b o hc e) (fun b o _ _ hc e _=>⟨o.slots,k b o hc e⟩) (fun _ _ _ _ n=>n)
  (fun b o hc e=>⟨o,k b o hc e⟩) (fun _ _ e=>e) (fun _ _ _ e=>e) (fun b ps e=>⟨#[],by rw[e];simp⟩) (fun m hm=>?_) (fun b u e=>?_) I.bare
 ·obtain⟨f0,f1,f2,f3,f4,f5⟩:=hf b hb;exact⟨f3,f1,f4,f5⟩
 ·obtain⟨o,es,ep,ho,r⟩:=hm;exact⟨o,es,ep,k _ o (fun z=>(hf _ z).2.1 rfl) ho,r⟩
 ·refine (I.hok b u e).stay (fun c v hc q => k c v ?_ q) (fun _ q => q) fun _ _ q => q;rcases hc with z|z
  ·rw[z];exact nit b u e
  ·exact nit c _ z
theorem AB(a it e:Addr)(hei:e≠it)(hai:a≠it)(hae:a≠e):
  As P w K (.Tuple elts k1 pos) (Nx b K a) [e,it] e (fun i h=>(∃old,IsEnum h e it (i:Nat) old)/\tV b h it a i) where
 mem:=by simp
 obj:=fun i h st x hx=>by
  obtain⟨⟨old,he⟩,hi⟩:=st;rcases OM.mp hx with rfl|hx
  ·exact⟨_,he,fun v z=>by cases z⟩
  ·rw[QP.mp hx];exact hi.obj
 keep:=fun i h h' st k=>by
  obtain⟨⟨old,he⟩,hi⟩:=st;exact⟨⟨old,k e 1e1 _ he⟩,hi.keep fun o eo=>k it 1e1 o eo⟩
 item:=by
  intro X hP hw hK hc i pins s B H E I hf st hg;subst hP hw hK;obtain⟨⟨old,he⟩,hi⟩:=st;obtain⟨xs,x,hq,hx⟩:=hg;obtain⟨its,St,rv,D,d1,d2⟩:=wV I hc hq hai;obtain⟨u,hu,ru⟩:=rv.get hx
  have hlt:i<its.size:=by
   have:=(OQ.mp hu).1;simpa using this
  have hef:e ∉ [it,a]:=by
   dsimp[OM,Q3,Q4,not_or];exact⟨hei,ON hae⟩
  obtain⟨f0,f1,f2,f3,f4,f5⟩:=hf e 1e1;obtain⟨g0,g1,g2,g3,g4,g5⟩:=hf it 1e1;have helt:e<s.heap.objs.size:=OA he;have hilt:it<s.heap.objs.size:=by obtain⟨o,eo,_⟩:=hi.obj;exact OA eo
  refine wpAny_pyNext_enum_itemD D he (d1 i hi) hlt hei hef fun y h' tk hy ho hst' ht hsz hk=>?_
  have ey:y=u:=by
   rw[<- Q5,hu]at hy;exact(Oq hy).symm
  subst ey;refine⟨_,rfl,?_⟩;refine wpAny_letOwnedTupleGo_enum (s:={s with heap:=h',toks:=tk+1}) ho fun h2 he2 hs2=>?_;replace hs2:Heap.SameBut e h' h2:=hs2;have hold:∀b o,b≠e->b≠it->s.heap.get? b=some o->h2.get? b=some o:=fun b o h1 h3 q=>(hs2.2 b h1).trans (hk b o h1 h3 q);have ht2:h2.get? 0e3=some {cls:=.type "tuple",data:=.seq #[.int i tk,y]}:=(hs2.2 _ (O4 helt)).trans ht;have hqn:H 0e3=none:=I.hok.fresh (O9 _)
  have I1:aS X pins B (bq H 0e3 (.tup [.int i,x])) {s with heap:=s.heap.push {cls:=.type "tuple",data:=.seq #[.int i tk,y]},toks:=tk}:=by
   refine I.laid (t':=tk) (fun b o eo=>O8 _ eo) (O9 _) ?_;exact⟨by show 2<=sizeLine;decide,[.int i tk,y],.cons ⟨tk,rfl⟩ (.cons ru .nil),_,Oy _ rfl,rfl,⟨0,rfl⟩,rfl⟩
  have hne:∀b∈[e,it],b≠s.heap.objs.size:=fun b hb=>by
   rcases OM.mp hb with rfl|hb
   ·exact OD helt
   ·rw[QP.mp hb];exact OD hilt
  have hf':∀b∈[e,it],mC X pins (bq H 0e3 (.tup [.int i,x])) b:=fun b hb=>by
   obtain⟨k0,k1⟩:=hf b hb;exact⟨by rw[aD (hne b hb)];exact k0,k1⟩
  have I2:aS X pins B (bq H 0e3 (.tup [.int i,x])) {s with heap:=h2,toks:=tk+1}:=by
   refine aS.turns (s:={s with heap:=s.heap.push {cls:=.type "tuple",data:=.seq #[.int i tk,y]},toks:=tk}) I1 (ch:=[e,it]) (t':=tk+1) (fun b o hb eo=>?_) hf';dsimp[OM,Q3,Q4,not_or]at hb;by_cases hbq:b=0e3
   ·subst hbq;have:=(Oy 1e5 (o:={cls:=.type "tuple",data:=.seq #[.int i tk,y]}) rfl).symm.trans eo;rw[ht2];exact this
   ·have:s.heap.get? b=some o:=by
     rw[Q6 _ _ _ hbq]at eo;exact eo
    exact hold b o hb.1 hb.2 this
  refine⟨.ref 0e3,_,I2,rfl,⟨_,x,rfl,hqn,rfl,fun ys hy=>by rw[IT I hy hq];exact hx⟩,⟨⟨y,by simpa using he2⟩,?_⟩,fun b hb=>(hf' b hb).1⟩;refine(d2 (i+1) h' hst').keep fun o eo=>?_;exact(hs2.2 it (ON hei)).trans eo
 done:=by
  intro X hP hw hK hc i pins s B H E I hf st hg;subst hP hw hK;obtain⟨⟨old,he⟩,hi⟩:=st;obtain⟨xs,hq,hx⟩:=hg;obtain⟨its,St,rv,D,d1,d2⟩:=wV I hc hq hai
  have hil:its.size=i:=by
   have h1:=rv.length;have h2:its.toList.length=its.size:=OW;omega
  subst hil;refine wpAny_pyNext_enum_endD D he (d1 _ hi) fun h' hx=>⟨rfl,?_⟩;refine I.turns (ch:=[e,it]) (t':=s.toks) (fun b o hb eo=>hx b o (fun z=>hb (by rw[z];simp)) eo) hf
 self:=fun _ _ _ _ _ st h=>by
  obtain⟨⟨old,he⟩,hi⟩:=st;exact wpAny_pyIter_enum he h
section
variable{X:Cx}
def Ku(K:W.Frag)(ta:TA):TI:=fun B H R=>ta B H fun vs H1=>∃a b,vs=[.ref a]/\(∃xs,Sq b K H1 a xs)/\R (Nx b K a) H1
theorem F8{a:Expr}{ta:TA}{p tpos:Pos}(hg:Gl X "enumerate")(hm:X.mg "enumerate" = none)(ha:PA X [a] ta)(hs:starEach [a] 1e2=[(false,eval a 1e2)]:=by rfl):PI X (.Tuple elts k1 tpos) (.Call (.Name "enumerate" p) [a] [] pos) (Ku X.K ta):=by
 intro pins s B H R I h;refine Call_ (l6 I hg hm (by rfl) (Pb (dh (ha pos pins s B H _ I h) fun us s1 ⟨vs,H1,I1,r1,q1⟩=>?_) hs rfl));obtain⟨l,b,e,⟨xs,hq⟩,q⟩:=q1;subst e;obtain⟨u,rfl,ru⟩:=eE r1;cases ru
 have fin:∀h',IsEnum h' (s1.heap.objs.size+1) s1.heap.objs.size 0 .none->tV b h' s1.heap.objs.size l 0->l<s1.heap.objs.size->h'.objs.size=s1.heap.objs.size+2->(∀b o,s1.heap.get? b=some o->h'.get? b=some o) ->
   wpAny 0e7 X.A (pyIter (.ref (s1.heap.objs.size+1))) (Nu X pins B (.Tuple elts k1 tpos) R) X.xe {s1 with heap:=h'}:=by
  intro h' he hi hl hsz hk;have I2:aS X pins B H1 {s1 with heap:=h'}:=I1.kept (t':=s1.toks) hk;refine wpAny_pyIter_enum he ?_;refine⟨_,[s1.heap.objs.size+1,s1.heap.objs.size],_,_,H1,rfl,I2,AB (b:=b) l s1.heap.objs.size (s1.heap.objs.size+1) (Nat.succ_ne_self _) (OD hl) (OD (QH hl)),⟨⟨.none,he⟩,hi⟩,fun b hb=>?_,q⟩;rcases OM.mp hb with rfl|hb
  ·exact I1.fpOk (Q7 _) (I1.hok.fresh (Q7 _))
  ·rw[QP.mp hb];exact I1.fpOk (O9 _) (I1.hok.fresh (O9 _))
 cases b with
 |true=>
  obtain⟨its,rv,pl,hz⟩:=I1.list (show fG X.K H1 l xs from hq);have hl:l<s1.heap.objs.size:=by obtain⟨o,eo,_⟩:=pl.isList;exact OA eo
  exact call_enumerate_list pl.isList fun h' he hi hsz hk=>fin h' he hi hl hsz hk
 |false=>
  obtain⟨its,rv,pl,hz⟩:=I1.tuple (show eK X.K H1 l xs from hq);have hl:l<s1.heap.objs.size:=by obtain⟨o,eo,_⟩:=pl;exact OA eo
  exact yV pl fun h' he hi hsz hk=>fin h' he hi hl hsz hk
end
end ρ2
namespace RS
open PySem
def Ac(mask:Nat):Nat->Nat->Nat->List Nat
 |0,_,_=>[]
 |n+1,i,pe=>(List.range (SetTable.runEnd mask i+1-i)).map (i+·)++Ac mask n (SetTable.leap mask i pe).1 (SetTable.leap mask i pe).2
def cJ(mask:Nat)(h:Int):List Nat:=Ac mask (SetTable.turns mask) (SetTable.bits h%(mask+1)) (SetTable.bits h)
def iB(t:SetTable):Nat->SetTable.Probe->List Nat
 |0,_=>[]
 |n+1,p=>p.j::iB t n (t.advance p)
def mI(mask i pe:Nat)(d:Option Nat):SetTable.Probe:={j:=i,more:=SetTable.runEnd mask i-i,i,perturb:=pe,dummy:=d}
theorem vT(t:SetTable):∀(m n:Nat)(p:SetTable.Probe),p.more=m ->
  iB t (m+1+n) p=(List.range (m+1)).map (p.j+·)++iB t n (mI t.mask (SetTable.leap t.mask p.i p.perturb).1 (SetTable.leap t.mask p.i p.perturb).2 p.dummy)
 |0,n,p,h=>by
  have e:0+1+n=n+1:=by omega
  rw[e];show p.j::iB t n (t.advance p)=_
  have ea:t.advance p=mI t.mask (SetTable.leap t.mask p.i p.perturb).1 (SetTable.leap t.mask p.i p.perturb).2 p.dummy:=by
   unfold SetTable.advance;rw[Ox 0e1];rfl
  rw[ea];simp
 |m+1,n,p,h=>by
  have e:m+1+1+n=(m+1+n)+1:=by omega
  rw[e];show p.j::iB t (m+1+n) (t.advance p)=_
  have ea:t.advance p={p with j:=p.j+1,more:=p.more-1}:=by
   unfold SetTable.advance;rw[Ow 0e1]
  rw[ea,vT t m n {p with j:=p.j+1,more:=p.more-1} (by show p.more-1=m;omega)];rw[Q8 (n:=m+1),Qj,Q9];show p.j::((List.range (m+1)).map (p.j+1+·)++_)=(p.j+0)::(List.map _ _)++_;rw[Nat.add_zero];show p.j::(_++_)=p.j::(_++_);congr 2;apply Ra;intro a _;show p.j+1+a=p.j+(a+1);omega
theorem Cz(mask i:Nat):i<=SetTable.runEnd mask i/\SetTable.runEnd mask i<=i+9:=by
 unfold SetTable.runEnd;split <;> omega
theorem qu(t:SetTable):∀(n i pe:Nat)(d:Option Nat),iB t (Ac t.mask n i pe).length (mI t.mask i pe d)=Ac t.mask n i pe
 |0,_,_,_=>rfl
 |n+1,i,pe,d=>by
  have hr:=Cz t.mask i;show iB t ((List.range (SetTable.runEnd t.mask i+1-i)).map (i+·)++_).length _=_;rw[PB,PD,Rb];have e:SetTable.runEnd t.mask i+1-i=(SetTable.runEnd t.mask i-i)+1:=by omega
  rw[e,vT t (SetTable.runEnd t.mask i-i) _ (mI t.mask i pe d) rfl];show _++iB t (Ac t.mask n (SetTable.leap t.mask i pe).1 (SetTable.leap t.mask i pe).2).length (mI t.mask (SetTable.leap t.mask i pe).1 (SetTable.leap t.mask i pe).2 d)=_;rw[qu t n];show _=(List.range (SetTable.runEnd t.mask i+1-i)).map (i+·)++_;rw[e];rfl
theorem uk(mask:Nat):∀(n i pe:Nat),(Ac mask n i pe).length<=10*n
 |0,_,_=>QO _
 |n+1,i,pe=>by
  have hr:=Cz mask i;have ih:=uk mask n (SetTable.leap mask i pe).1 (SetTable.leap mask i pe).2;show ((List.range (SetTable.runEnd mask i+1-i)).map (i+·)++_).length<=_;rw[PB,PD,Rb];omega
theorem uE(t:SetTable)(hashAt:Nat->Int)(h:Int):∀(pre:List Nat)(j:Nat)(post:List Nat)(fuel:Nat)(p:SetTable.Probe),iB t (pre.length+1+post.length) p=pre++j::post->pre.length<fuel->p.dummy=none ->
  (∀k∈pre,∃i,t.slot k=.live i/\hashAt i≠h) ->
  (t.slot j=.empty->SetTable.probe.go t hashAt h fuel p=some (.empty j none))/\(∀i,t.slot j=.live i->hashAt i=h->∃nx,SetTable.probe.go t hashAt h fuel p=some (.candidate j i nx))
 |[],j,post,0,p,_,hf,_,_=>by simp at hf
 |[],j,post,fuel+1,p,hw,_,hd,_=>by
  have ew:iB t (([]:List Nat).length+1+post.length) p=p.j::iB t post.length (t.advance p):=by
   rw[Rc,show 0+1+post.length=post.length+1 from by omega];rfl
  rw[ew,Qy]at hw;have ej:p.j=j:=(Re hw).1;refine⟨fun he=>?_,fun i hl hh=>?_⟩
  ·show (match t.slot p.j with | .empty=>_ | .dummy=>_ | .live i=>_)=_;rw[ej,he,hd]
  ·refine⟨t.advance p,?_⟩;show (match t.slot p.j with | .empty=>_ | .dummy=>_ | .live i=>_)=_;rw[ej,hl];show (if (hashAt i == h)=true then _ else _)=_;rw[Ow (by simpa using hh)]
 |x::pre,j,post,0,p,_,hf,_,_=>by simp at hf
 |x::pre,j,post,fuel+1,p,hw,hf,hd,hp=>by
  have ew:iB t ((x::pre).length+1+post.length) p=p.j::iB t (pre.length+1+post.length) (t.advance p):=by
   rw[QF,show pre.length+1+1+post.length=(pre.length+1+post.length)+1 from by omega];rfl
  rw[ew,Rf]at hw;have ej:p.j=x:=(Re hw).1;have er:=(Re hw).2;obtain⟨i,hl,hne⟩:=hp x OJ
  have hda:(t.advance p).dummy=none:=by
   unfold SetTable.advance;split
   ·exact hd
   ·exact hd
  have ih:=uE t hashAt h pre j post fuel (t.advance p) er (by rw[QF]at hf;omega) hda (fun k hk=>hp k (OK _ hk))
  have eg:SetTable.probe.go t hashAt h (fuel+1) p=SetTable.probe.go t hashAt h fuel (t.advance p):=by
   show (match t.slot p.j with | .empty=>_ | .dummy=>_ | .live i=>_)=_;rw[ej,hl];show (if (hashAt i == h)=true then _ else _)=_;rw[Ox (by simpa using hne)]
  rw[eg];exact ih
def EF(xs:List Nat):Prop:=xs.Pairwise (·<·)
theorem qG(xs:Array Nat)(j:Nat):∀(fuel lo hi:Nat),lo<=hi->hi<=xs.size->hi-lo<=fuel->(∀i k,i<k->k<xs.size->xs.getD i j<xs.getD k j)->(∀i,i<lo->xs.getD i j<j)->(∀i,hi<=i->i<xs.size->j<=xs.getD i j) ->
  let b:=SetTable.below.go xs j fuel lo hi
  b<=xs.size/\(∀i,i<b->xs.getD i j<j)/\(∀i,b<=i->i<xs.size->j<=xs.getD i j)
 |0,lo,hi,h1,h2,h3,hr,ha,hb=>by
  have e:lo=hi:=by omega
  subst e;exact⟨h2,ha,hb⟩
 |fuel+1,lo,hi,h1,h2,h3,hr,ha,hb=>by
  by_cases hlt:lo<hi
  ·dsimp[SetTable.below.go, hlt, PU];by_cases hc:xs.getD ((lo+hi) / 2) j<j
   ·rw [Ow hc];refine qG xs j fuel _ hi 0e1 h2 0e1 hr (fun i hi'=>?_) hb;by_cases e:i=(lo+hi) / 2
    ·rw[e];exact hc
    ·have:=hr i ((lo+hi) / 2) 0e1 0e1;omega
   ·rw [Ox hc];refine qG xs j fuel lo _ 0e1 0e1 0e1 hr ha (fun i hi' hs=>?_);by_cases e:i=(lo+hi) / 2
    ·rw[e];omega
    ·have:=hr ((lo+hi) / 2) i 0e1 hs;omega
  ·have e : lo = hi := by omega
   subst e;dsimp[SetTable.below.go,hlt,PR];exact⟨h2,ha,hb⟩
theorem uo{xs:Array Nat}(h:EF xs.toList)(j:Nat):∀i k,i<k->k<xs.size->xs.getD i j<xs.getD k j:=fun i k hik hk=>by
 have hi:i<xs.size:=by omega
 have:=Rg.mp h i k (by simpa using hi) (by simpa using hk) hik;simpa[Array.getD,hi,hk] using this
theorem mh{xs:Array Nat}(h:EF xs.toList)(j:Nat):SetTable.below xs j<=xs.size/\(∀i,i<SetTable.below xs j->xs.getD i j<j)/\(∀i,SetTable.below xs j<=i->i<xs.size->j<=xs.getD i j):=
 qG xs j xs.size 0 xs.size (QO _) (O9 _) 0e1 (uo h j) (fun i hi=>by omega) (fun i h1 h2=>by omega)
theorem BG{xs:Array Nat}(h:EF xs.toList)(e:xs[i]?=some j):SetTable.below xs j=i:=by
 obtain⟨h1,h2,h3⟩:=mh h j
 have hi:i<xs.size:=by
  rcases Rh.mp e with⟨q,_⟩;exact q
 have ei:xs.getD i j=j:=by
  rcases Rh.mp e with⟨q,z⟩
  simp[Array.getD,hi,z]
 by_cases hlt:SetTable.below xs j<i
 ·have a:=h3 (SetTable.below xs j) (O9 _) 0e1;have b:=uo h j (SetTable.below xs j) i hlt hi;omega
 ·by_cases hgt : i < SetTable.below xs j
  ·have:=h2 i hgt;omega
  ·omega
theorem jW{Z:Type}(xs:Array Z)(p:Nat)(x:Z):(SetTable.insertAt xs p x).toList=xs.toList.take p++x::xs.toList.drop p:=by
 unfold SetTable.insertAt;simp[Ri]
theorem jN{Z:Type}(p:Z->Prop):∀(l:List Z),(∃x∈l,p x)->∃pre x post,l=pre++x::post/\p x/\∀y∈pre,¬ p y
 |[],h=>by obtain⟨x,hx,_⟩:=h;simp at hx
 |a::l,h=>by
  by_cases ha:p a
  ·exact⟨[],a,l,rfl,ha,fun y hy=>by simp at hy⟩
  ·obtain ⟨x, hx, px⟩ := h;rcases OM.mp hx with z|z
   ·rw[z]at px;exact absurd px ha
   ·obtain ⟨pre, y, post, e, py, hp⟩ := jN p l ⟨x, z, px⟩;refine⟨a::pre,y,post,by rw[e];rfl,py,fun w hw=>?_⟩;rcases OM.mp hw with q|q
    ·rw[q];exact ha
    ·exact hp w q
structure sv(t:SetTable)(es:Array (Int×Value))(α:List (Nat×Int×Value)):Prop where
 place:t.place.toList=α.map 2e4
 ents:es.toList=α.map (·.2)
 ris:EF (α.map 2e4)
 top:∀z∈α,z.1<=t.mask
 dum:t.dummies=#[]
 reach:∀z∈α,∃pre post,cJ t.mask z.2.1=pre++z.1::post/\∀k∈pre,k∈α.map 2e4
theorem sv.size{t:SetTable}(T:sv t es α):t.place.size=α.length/\es.size=α.length:=by
 have a:=OX List.length T.place;have b:=OX List.length T.ents;simp at a b;exact⟨a,b⟩
theorem sv.fill{t:SetTable}(T:sv t es α):t.fill=α.length:=by
 unfold SetTable.fill;rw[T.size.1,T.dum];rfl
theorem tf(j:Nat):SetTable.has #[] j=false:=by
 unfold SetTable.has;simp
theorem sv.slot_empty{t:SetTable}(T:sv t es α)(h:j∉α.map 2e4):t.slot j=.empty:=by
 unfold SetTable.slot
 have hn:¬ (t.place[SetTable.below t.place j]? == some j)=true:=by
  intro e;have e':t.place[SetTable.below t.place j]?=some j:=by simpa using e
  apply h;rw[<- T.place];rw[<- Q5]at e';exact Pz e'
 dsimp[hn,T.dum,tf];rfl
theorem sv.slot_live{t:SetTable}(T:sv t es α)(h:α[i]?=some z):t.slot z.1=.live i:=by
 have e:t.place[i]?=some z.1:=by
  rw[<- Q5,T.place,Px,h];rfl
 have r:EF t.place.toList:=by rw[T.place];exact T.ris
 have eb:=BG r e;unfold SetTable.slot;have hc:(t.place[SetTable.below t.place z.1]? == some z.1)=true:=by rw[eb,e];simp
 dsimp[hc,PU];rw[eb]
theorem sv.hashAt{t:SetTable}(T:sv t es α)(h:α[i]?=some z):es[i]?=some z.2:=by
 rw[<- Q5,T.ents,Px,h];rfl
theorem iJ{Z:Type}:∀{l1 l2:List Z},l1.Nodup->(∀x∈l1,x∈l2)->l1.length<=l2.length
 |[],_,_,_=>QO _
 |a::r,l2,hn,hs=>by
  obtain⟨s,t,e⟩:=List.append_of_mem (hs a OJ);have hn':=Po.mp hn
  have ih:=iJ (l1:=r) (l2:=s++t) hn'.2 (fun x hx=>by
   have hx2:=hs x (OK _ hx);rw[e]at hx2;rcases OO.mp hx2 with q|q
   ·exact OP _ q
   ·rcases OM.mp q with q | q
    ·rw[q]at hx;exact absurd hx hn'.1
    ·exact Pd _ q)
  rw[e,PB,QF,QF];rw[PB]at ih;omega
theorem zr(mask:Nat):∀(n i pe:Nat),i<=mask->∀j∈Ac mask n i pe,j<=mask
 |0,_,_,_,j,h=>by simp[Ac]at h
 |n+1,i,pe,hi,j,h=>by
  rcases OO.mp h with q|q
  ·obtain ⟨k, hk, e⟩ := Rj.mp q;have hk':=OF.mp hk;have:SetTable.runEnd mask i<=mask:=by unfold SetTable.runEnd;split <;> omega
   have e':i+k=j:=e;omega
  ·refine zr mask n _ _ ?_ j q;show (i*5+1+pe / 32)%(mask+1)<=mask;exact Nat.le_of_lt_succ (Nat.mod_lt _ (Nat.succ_pos mask))
theorem js{h:Int}(e:j∈cJ mask h):j<=mask:=by
 refine zr mask _ _ _ ?_ j e;exact Nat.le_of_lt_succ (Nat.mod_lt _ (Nat.succ_pos mask))
theorem tm{l:List Nat}(h:l.length<=m):∃j,j<=m/\j∉l:=by
 refine Rk fun hn=>?_
 have hall:∀j∈List.range (m+1),j∈l:=fun j hj=>by
  refine Rk fun hj'=>hn ⟨j,?_,hj'⟩;have:=OF.mp hj;omega
 have:=iJ (Rm (n:=m+1)) hall;rw[Rb]at this;omega
theorem sv.search{t:SetTable}(T:sv t es α){h:Int}(cov:∀j,j<=t.mask->j∈cJ t.mask h)(hz:α.length<=t.mask)(hA:Nat->Int)(hAe:∀i z,α[i]?=some z->hA i=z.2.1):
  (∃i z nx,α[i]?=some z/\z.2.1=h/\t.probe hA h (t.probeStart h)=some (.candidate z.1 i nx)) \/
  ((∀z∈α,z.2.1≠h)/\∃j pre post,t.probe hA h (t.probeStart h)=some (.empty j none)/\j<=t.mask/\j∉α.map 2e4/\cJ t.mask h=pre++j::post/\∀k∈pre,k∈α.map 2e4):=by
 obtain⟨j0,hj0,hn0⟩:=tm (m:=t.mask) (l:=α.map 2e4) (by rw[PD];exact hz);obtain⟨pre,j,post,e,hs,hp⟩:=jN (fun j=>j∉α.map 2e4\/∃z∈α,z.1=j/\z.2.1=h) (cJ t.mask h) ⟨j0,cov j0 hj0,.inl hn0⟩
 have hw:iB t (pre.length+1+post.length) (t.probeStart h)=pre++j::post:=by
  have q:=qu t (SetTable.turns t.mask) (SetTable.bits h%(t.mask+1)) (SetTable.bits h) none
  have el:(Ac t.mask (SetTable.turns t.mask) (SetTable.bits h%(t.mask+1)) (SetTable.bits h)).length=pre.length+1+post.length:=by
   show (cJ t.mask h).length=_;rw[e,PB,QF];omega
  rw[el]at q;exact q.trans e
 have hlen:pre.length<10*SetTable.turns t.mask:=by
  have q:=uk t.mask (SetTable.turns t.mask) (SetTable.bits h%(t.mask+1)) (SetTable.bits h)
  have el:(Ac t.mask (SetTable.turns t.mask) (SetTable.bits h%(t.mask+1)) (SetTable.bits h)).length=pre.length+1+post.length:=by
   show (cJ t.mask h).length=_;rw[e,PB,QF];omega
  omega
 have occ:∀k∈pre,k∈α.map 2e4:=fun k hk=>by
  refine Rk fun q=>hp k hk (.inl q)
 have hpre:∀k∈pre,∃i,t.slot k=.live i/\hA i≠h:=fun k hk=>by
  obtain⟨z,hzm,ez⟩:=Rj.mp (occ k hk);obtain⟨i,hi⟩:=Rn hzm;refine⟨i,ez ▸ T.slot_live hi,fun q=>hp k hk (.inr ⟨z,hzm,ez,?_⟩)⟩;rw[<- hAe i z hi];exact q
 obtain⟨g1,g2⟩:=uE t hA h pre j post (10*SetTable.turns t.mask) (t.probeStart h) hw hlen rfl hpre;by_cases hany:∃z∈α,z.2.1=h
 ·obtain ⟨z, hzm, ez⟩ := hany;obtain⟨pz,qz,ezz,hoz⟩:=T.reach z hzm;rw[ez]at ezz
  have hjo:j∈α.map 2e4:=by
   have e2:pre++j::post=pz++z.1::qz:=by rw[<- e,<- ezz]
   rcases List.append_eq_append_iff.mp e2 with⟨a,h1,h2⟩|⟨c,h1,h2⟩
   ·cases a with
    |nil=>
     dsimp[Qy]at h2;rw[(Re h2).1];exact Rp hzm
    |cons x a=>
     rw[Rf]at h2;have:j∈pz:=by rw[h1,(Re h2).1];simp
     exact hoz j this
   ·cases c with
    |nil=>
     dsimp[Qy]at h2;rw[<- (Re h2).1];exact Rp hzm
    |cons x c=>
     rw[Rf]at h2;have:z.1∈pre:=by rw[h1,(Re h2).1];simp
     exact absurd (.inr ⟨z,hzm,rfl,ez⟩) (hp z.1 this)
  rcases hs with q|⟨z',hz',e1,e2⟩
  ·exact absurd hjo q
  ·obtain⟨i,hi⟩:=Rn hz';obtain⟨nx,en⟩:=g2 i (e1 ▸ T.slot_live hi) (by rw[hAe i z' hi];exact e2);exact .inl ⟨i,z',nx,hi,e2,by rw[e1];exact en⟩
 ·have hno : ∀ z ∈ α, z.2.1 ≠ h := fun z hz' e' => hany ⟨z, hz', e'⟩;rcases hs with q|⟨z',hz',e1,e2⟩
  ·have hjm:j<=t.mask:=js (h:=h) (by rw[e];simp);exact .inr ⟨hno,j,pre,post,g1 (T.slot_empty q),hjm,q,e,occ⟩
  ·exact absurd e2 (hno z' hz')
theorem yq{l:List Nat}{p:Nat}(h:EF l)(h1:∀x∈l.take p,x<j)(h2:∀x∈l.drop p,j<x):EF (l.take p++j::l.drop p):=by
 unfold EF at *;have h':(l.take p++l.drop p).Pairwise (·<·):=by rw[Rq];exact h
 rw[List.pairwise_append]at h'⊢;refine⟨h'.1,Rt.mpr ⟨fun x hx=>h2 x hx,h'.2.1⟩,fun a ha b hb=>?_⟩;rcases OM.mp hb with q|q
 ·rw[q];exact h1 a ha
 ·exact h'.2.2 a ha b q
theorem sv.put{t:SetTable}(T:sv t es α){h:Int}{x:Value}{pre post:List Nat}(hj:j<=t.mask)(hn:j∉α.map 2e4)(e:cJ t.mask h=pre++j::post)(hp:∀k∈pre,k∈α.map 2e4):
  ∃α',sv (t.put j).1 (SetTable.insertAt es (t.put j).2 (h,x)) α'/\α'.Perm ((j,h,x)::α)/\(t.put j).1={t with place:=SetTable.insertAt t.place (SetTable.below t.place j) j}:=by
 have e1:(t.put j).1={t with place:=SetTable.insertAt t.place (SetTable.below t.place j) j}:=by
  unfold SetTable.put;dsimp[T.dum,tf];rw[Ox O3]
 have e2:(t.put j).2=SetTable.below t.place j:=rfl;have r:EF t.place.toList:=by rw[T.place];exact T.ris
 obtain⟨b1,b2,b3⟩:=mh r j;generalize hb:SetTable.below t.place j=p at *;refine⟨α.take p++(j,h,x)::α.drop p,⟨?_,?_,?_,fun z hz=>?_,by rw[e1];exact T.dum,fun z hz=>?_⟩,?_,e1⟩
 ·rw[e1];show (SetTable.insertAt t.place p j).toList=_;rw[jW,T.place,Ru,Qj,Rv,Rw]
 ·rw[e2,jW,T.ents,Ru,Qj,Rv,Rw]
 ·rw [Ru, Qj, Rv, Rw];have hlen:t.place.size=(α.map 2e4).length:=by rw[<- T.place];simp
  refine yq T.ris (fun y hy=>?_) (fun y hy=>?_)
  ·obtain ⟨i, hi⟩ := Rn hy;rw[List.getElem?_take]at hi;split at hi
   ·rename_i hlt;have q:=b2 i hlt;rw[<- T.place,Q5]at hi;dsimp[Rx,hi,Ry]at q;exact q
   ·cases hi
  ·obtain⟨i,hi⟩:=Rn hy;rw[Rz]at hi;have hmem:y∈α.map 2e4:=Pz hi;rw[<- T.place,Q5]at hi;have hlt:p+i<t.place.size:=(Rh.mp hi).1;have q:=b3 (p+i) 0e1 hlt;dsimp[Rx,hi,Ry]at q;have:y≠j:=fun ey=>hn (ey ▸ hmem);omega
 ·rw [e1];show z.1<=t.mask;rcases OO.mp hz with q|q
  ·exact T.top z (RA q)
  ·rcases OM.mp q with q | q
   ·rw[q];exact hj
   ·exact T.top z (RB q)
 ·rw [e1];show ∃pre post,cJ t.mask z.2.1=pre++z.1::post/\_
  have sub:∀k∈α.map 2e4,k∈(α.take p++(j,h,x)::α.drop p).map 2e4:=fun k hk=>by
   rw[<- Rq p α,Ru]at hk;rw[Ru,Qj];rcases OO.mp hk with q|q
   ·exact OP _ q
   ·exact Pd _ (OK _ q)
  have old:∀z∈α,∃pre post,cJ t.mask z.2.1=pre++z.1::post/\∀k∈pre,k∈(α.take p++(j,h,x)::α.drop p).map 2e4:=fun z hz=>by
   obtain⟨a,b,c,d⟩:=T.reach z hz;exact⟨a,b,c,fun k hk=>sub k (d k hk)⟩
  rcases OO.mp hz with q|q
  ·exact old z (RA q)
  ·rcases OM.mp q with q | q
   ·rw[q];exact⟨pre,post,e,fun k hk=>sub k (hp k hk)⟩
   ·exact old z (RB q)
 ·have q:(α.take p++(j,h,x)::α.drop p).Perm ((j,h,x)::(α.take p++α.drop p)):=List.perm_middle;rw[Rq]at q;exact q
theorem tq(mask:Nat)(owner:Array (Option Nat)):∀(n i pe:Nat),
  SetTable.layClean.free mask owner n i pe=(Ac mask n i pe).find? fun j=>(owner.getD j (some 0)).isNone
 |0,_,_=>rfl
 |n+1,i,pe=>by
  show (match (List.range (SetTable.runEnd mask i+1-i)).find? fun k=>(owner.getD (i+k) (some 0)).isNone with|some k=>_|none=>_)=_;show _=((List.range (SetTable.runEnd mask i+1-i)).map (i+·)++Ac mask n (SetTable.leap mask i pe).1 (SetTable.leap mask i pe).2).find? _;rw[List.find?_append,List.find?_map,<- tq mask owner n];have ec:((fun j=>(owner.getD j (some 0)).isNone) ∘ fun x=>i+x)=fun k=>(owner.getD (i+k) (some 0)).isNone:=rfl;rw[ec];cases (List.range (SetTable.runEnd mask i+1-i)).find? fun k=>(owner.getD (i+k) (some 0)).isNone with
  |some k=>rfl
  |none=>rfl
structure HX(mask:Nat)(hs:List Int)(owner:Array (Option Nat)):Prop where
 size:owner.size=mask+1
 all:∀(i:Nat)(h:Int),hs[i]?=some h->∃j:Nat,j<=mask/\owner[j]?=some (some i)/\∃pre post,cJ mask h=pre++j::post/\∀k∈pre,∃i':Nat,owner[k]?=some (some i')
 lt:∀(j i:Nat),owner[j]?=some (some i)->i<hs.length
 inj:∀(j j' i:Nat),owner[j]?=some (some i)->owner[j']?=some (some i)->j=j'
theorem Gj(mask:Nat):HX mask [] (Array.replicate (mask+1) none):=by
 have hno:∀(j i:Nat),(Array.replicate (mask+1) (none:Option Nat))[j]?≠some (some i):=fun j i e=>by
  rw[Array.getElem?_replicate]at e;split at e <;> cases e
 exact⟨by simp,fun i h e=>by simp at e,fun j i e=>absurd e (hno j i),fun j j' i e=>absurd e (hno j i)⟩
theorem DR(O:HX mask hs owner)(hl:hs.length<=mask):∃j,j<=mask/\owner[j]?=some none:=by
 refine Rk fun hn=>?_
 have hall:∀j,j<=mask->∃i,owner[j]?=some (some i):=fun j hj=>by
  have hs':j<owner.size:=by rw[O.size];omega
  cases e:owner[j]? with
  |none=>rw[RC]at e;omega
  |some o=>
   cases o with
   |none=>exact absurd ⟨j,hj,e⟩ hn
   |some i=>exact⟨i,rfl⟩
 have key:∀n,n<=mask+1->∃l:List Nat,l.length=n/\l.Nodup/\(∀i∈l,i<hs.length)/\∀i∈l,∃j,j<n/\owner[j]?=some (some i):=by
  intro n
  induction n with
  |zero=>exact fun _=>⟨[],rfl,RD,fun _ h=>by simp at h,fun _ h=>by simp at h⟩
  |succ n ih=>
   intro hn';obtain⟨l,h1,h2,h3,h4⟩:=ih 0e1;obtain⟨i,hi⟩:=hall n 0e1;refine⟨i::l,by rw[QF,h1],Po.mpr ⟨fun hm=>?_,h2⟩,fun x hx=>?_,fun x hx=>?_⟩
   ·obtain⟨j,hj,ej⟩:=h4 i hm;have:=O.inj j n i ej hi;omega
   ·rcases OM.mp hx with q | q
    ·rw[q];exact O.lt n i hi
    ·exact h3 x q
   ·rcases OM.mp hx with q | q
    ·rw[q];exact⟨n,by omega,hi⟩
    ·obtain⟨j,hj,ej⟩:=h4 x q;exact⟨j,by omega,ej⟩
 obtain⟨l,h1,h2,h3,_⟩:=key (mask+1) (O9 _);have:=iJ h2 (l2:=List.range hs.length) (fun x hx=>OF.mpr (h3 x hx));rw[Rb,h1]at this;omega
theorem DQ{h:Int}(O:HX mask hs owner)(hl:hs.length<=mask)(cov:∀j,j<=mask->j∈cJ mask h):
  ∃j,SetTable.layClean.free mask owner (SetTable.turns mask) (SetTable.bits h%(mask+1)) (SetTable.bits h)=some j/\HX mask (hs++[h]) (owner.setIfInBounds j (some hs.length)):=by
 obtain⟨j0,hj0,e0⟩:=DR O hl
 have none_iff:∀j,((owner.getD j (some 0)).isNone=true)↔owner[j]?=some none:=fun j=>by
  rw[Rx];cases owner[j]? with
  |none=>simp
  |some o=>cases o <;> simp
 obtain⟨pre,j,post,e,hs',hp⟩:=jN (fun j=>owner[j]?=some none) (cJ mask h) ⟨j0,cov j0 hj0,e0⟩;have hjm:j<=mask:=js (h:=h) (by rw[e];simp);have hjs:j<owner.size:=by rw[O.size];omega
 have hocc:∀k∈pre,∃i',owner[k]?=some (some i'):=fun k hk=>by
  have hkm:k<=mask:=js (h:=h) (by rw[e];simp[hk]);cases q:owner[k]? with
  |none=>
   rw[RC,O.size]at q;omega
  |some o=>
   cases o with
   |none=>exact absurd q (hp k hk)
   |some i=>exact⟨i,rfl⟩
 have hset:∀k,(owner.setIfInBounds j (some hs.length))[k]?=if j=k then some (some hs.length) else owner[k]?:=fun k=>by
  rw[Array.getElem?_setIfInBounds];by_cases q:j=k
  ·rw[Ow q,Ow q,Ow hjs]
  ·rw[Ox q,Ox q]
 have keep:∀k i',owner[k]?=some (some i')->(owner.setIfInBounds j (some hs.length))[k]?=some (some i'):=fun k i' q=>by
  rw[hset,Ox]
  ·exact q
  ·intro ej;rw[<- ej,hs']at q;cases q
 refine⟨j,?_,by simp[O.size],fun i h' ei=>?_,fun k i ei=>?_,fun k k' i e1 e2=>?_⟩
 ·rw [tq];show (cJ mask h).find? _=some j;rw[e,List.find?_append]
  have e1:pre.find? (fun j=>(owner.getD j (some 0)).isNone)=none:=by
   rw[List.find?_eq_none];intro k hk q;exact hp k hk ((none_iff k).mp q)
  dsimp[e1,Option.none_or,List.find?_cons,(none_iff j).mpr hs']
 ·by_cases hi : i < hs.length
  ·rw[Pw hi]at ei;obtain⟨j',a1,a2,pr,po,a3,a4⟩:=O.all i h' ei;exact⟨j',a1,keep j' i a2,pr,po,a3,fun k hk=>(a4 k hk).elim fun i' q=>⟨i',keep k i' q⟩⟩
  ·have hi':i=hs.length:=by
    have:=(OQ.mp ei).1;simp at this;omega
   subst hi';rw[Pu (O9 _),RE]at ei;have eh:h=h':=by simpa using ei
   subst eh;exact⟨j,hjm,by rw[hset,Ow rfl],pre,post,e,fun k hk=>(hocc k hk).elim fun i' q=>⟨i',keep k i' q⟩⟩
 ·rw [hset] at ei;rw[PB,Qw];split at ei
  ·cases ei;omega
  ·have:=O.lt k i ei;omega
 ·rw [hset] at e1 e2;split at e1
  ·rename_i q1;cases e1;split at e2
   ·rename_i q2;rw[<- q1,q2]
   ·have:=O.lt k' _ e2;omega
  ·split at e2
   ·cases e2;have:=O.lt k _ e1;omega
   ·exact O.inj k k' i e1 e2
theorem wt{mask:Nat}:∀(hs0 hs1:List Int)(owner:Array (Option Nat)),HX mask hs0 owner->hs0.length+hs1.length<=mask+1->(∀h∈hs1,∀j,j<=mask->j∈cJ mask h) ->
  ∃owner',hs1.foldl (fun(acc:Option (Array (Option Nat)×Nat)) h=>do
   let (owner,k) <- acc
   let j <- SetTable.layClean.free mask owner (SetTable.turns mask) (SetTable.bits h%(mask+1)) (SetTable.bits h)
   pure (owner.setIfInBounds j (some k),k+1)) (some (owner,hs0.length))=some (owner',(hs0++hs1).length)/\HX mask (hs0++hs1) owner'
 |hs0,[],owner,O,_,_=>⟨owner,by simp,by simpa using O⟩
 |hs0,h::hs1,owner,O,hl,cov=>by
  rw[QF]at hl;obtain⟨j,ej,O'⟩:=DQ (h:=h) O 0e1 (cov h OJ);obtain⟨ow,e1,e2⟩:=wt (hs0++[h]) hs1 _ O' (by rw[PB,Qw];omega) (fun x hx=>cov x (OK _ hx));rw[Qt,List.singleton_append]at e1 e2;refine⟨ow,?_,e2⟩;rw[Qu];show List.foldl _ ((SetTable.layClean.free mask owner (SetTable.turns mask) (SetTable.bits h%(mask+1)) (SetTable.bits h)).bind fun j=>some (owner.setIfInBounds j (some hs0.length),hs0.length+1)) hs1=_;rw[ej];show List.foldl _ (some (owner.setIfInBounds j (some hs0.length),hs0.length+1)) hs1=_;rw[PB,Qw]at e1;exact e1
theorem wb{Z:Type}:∀l:List Z,(List.range l.length).filterMap (fun i=>l[i]?)=l
 |[]=>rfl
 |a::l=>by
  rw[QF,Q8,OI];show a::List.filterMap _ _=_;rw[PY];show a::List.filterMap (fun i=>l[i]?) _=_;rw[wb l]
theorem GL(hl:hs.length<=mask+1)(cov:∀h∈hs,∀j,j<=mask->j∈cJ mask h):∃owner,SetTable.layClean mask hs.toArray=some owner/\HX mask hs owner:=by
 obtain⟨ow,e1,e2⟩:=wt [] hs _ (Gj mask) (by rw[Rc,Nat.zero_add];exact hl) cov;refine⟨ow,?_,by simpa using e2⟩;unfold SetTable.layClean;rw[List.foldl_toArray']
 ·show Option.map 2e4 (hs.foldl _ (some (Array.replicate (mask+1) none,([]:List Int).length)))=_;rw[e1];rfl
 ·simp
theorem qO{t:SetTable}{wanted:Nat}(hm:SetTable.sizeAbove wanted-1=mask)(hl:es.size<=mask)(cov:∀e∈es.toList,∀j,j<=mask->j∈cJ mask e.1):
  ∃t' order α',t.relaid (es.map 2e4) wanted=some (t',order)/\sv t' (order.filterMap (es[·]?)) α'/\(α'.map (·.2)).Perm es.toList/\t'.mask=mask/\t'.led=t.led/\t'.plain=t.plain/\order.toList.Perm (List.range es.size):=by
 have ea:es.map 2e4=(es.toList.map 2e4).toArray:=by rw[<- Array.toList_map]
 obtain⟨ow,e1,O⟩:=GL (mask:=mask) (hs:=es.toList.map 2e4) (by simp;omega) (fun h hh=>by
  obtain⟨e,he,q⟩:=Rj.mp hh
  rw[<- q];exact cov e he)
 let live:List (Nat×Nat):=(List.range (mask+1)).filterMap fun j=>(ow.getD j none).map (j,·)
 have hlive:∀j i,(j,i)∈live↔(j<=mask/\ow[j]?=some (some i)):=fun j i=>by
  dsimp[live,Pc,OF];constructor
  ·rintro ⟨k, hk, q⟩
   rw[Rx]at q;cases e:ow[k]? with
   |none=>rw[e]at q;cases q
   |some o=>
    rw[e]at q;cases o with
    |none=>cases q
    |some i'=>
     dsimp[Ry,Option.map_some,Option.some.injEq,Prod.mk.injEq]at q;obtain⟨q1,q2⟩:=q;subst q1;subst q2;exact⟨by omega,e⟩
  ·rintro ⟨hj, e⟩
   refine⟨j,by omega,?_⟩;rw[Rx,e];rfl
 have hfst:(live.map 2e4).Pairwise (·<·):=by
  have gen:∀(l:List Nat),l.Pairwise (·<·)->((l.filterMap fun j=>(ow.getD j none).map (j,·)).map 2e4).Pairwise (·<·)/\∀x∈((l.filterMap fun j=>(ow.getD j none).map (j,·)).map 2e4),x∈l:=by
   intro l
   induction l with
   |nil=>intro _;exact⟨List.Pairwise.nil,fun x hx=>by simp at hx⟩
   |cons a l ih=>
    intro hp;obtain⟨h1,h2⟩:=Rt.mp hp;obtain⟨i1,i2⟩:=ih h2;rw[OI];cases q:(ow.getD a none).map (a,·) with
    |none=>exact⟨i1,fun x hx=>OK _ (i2 x hx)⟩
    |some p=>
     have ep:p.1=a:=by
      cases hq:ow.getD a none with
      |none=>rw[hq]at q;cases q
      |some i=>rw[hq]at q;cases q;rfl
     show (p.1::List.map _ _).Pairwise _/\∀x∈p.1::List.map _ _,x∈a::l;rw[ep]
     exact⟨Rt.mpr ⟨fun x hx=>h1 x (i2 x hx),i1⟩,fun x hx=>by
      rcases OM.mp hx with z|z
      ·rw[z];exact OJ
      ·exact OK _ (i2 x z)⟩
  exact(gen _ RF).1
 have hnd:live.Nodup:=by
  have:=hfst.imp (fun h=>OD h);exact List.Pairwise.of_map 2e4 (fun a b h e=>h (by rw[e])) this
 have hsz:∀j i,(j,i)∈live->i<es.size:=fun j i h=>by
  have:=O.lt j i ((hlive j i).mp h).2;simpa using this
 have hsnd:(live.map (·.2)).Perm (List.range es.size):=by
  refine(RG ?_ Rm).mpr fun i=>?_
  ·refine List.Pairwise.map _ (fun a b h=>?_) (List.Pairwise.and_mem.mp hnd);obtain⟨ha,hb,hne⟩:=h;intro e;have q1:=((hlive a.1 a.2).mp ha).2;have q2:=((hlive b.1 b.2).mp hb).2;rw[<- e]at q2;exact hne (Prod.ext (O.inj _ _ _ q1 q2) e)
  ·rw [OF, Rj];constructor
   ·rintro⟨p,hp,e⟩;rw[<- e];exact hsz p.1 p.2 hp
   ·intro hi;obtain⟨j,hj,q,_⟩:=O.all i (es[i].1) (by rw[Px,Q5,RH hi];rfl);exact⟨(j,i),(hlive j i).mpr ⟨hj,q⟩,rfl⟩
 let α':List (Nat×Int×Value):=live.filterMap fun p=>(es[p.2]?).map fun e=>(p.1,e)
 have hZ1:α'.map 2e4=live.map 2e4:=by
  have gen:∀l:List (Nat×Nat),(∀p∈l,p.2<es.size)->(l.filterMap fun p=>(es[p.2]?).map fun e=>(p.1,e)).map 2e4=l.map 2e4:=by
   intro l
   induction l with
   |nil=>intro _;rfl
   |cons p l ih=>
    intro h;rw[OI,RH (h p OJ)];show p.1::List.map _ _=p.1::List.map _ _;rw[ih fun q hq=>h q (OK _ hq)]
  exact gen live fun p hp=>hsz p.1 p.2 hp
 have hZ2:α'.map (·.2)=(live.map (·.2)).filterMap (es[·]?):=by
  have gen:∀l:List (Nat×Nat),(l.filterMap fun p=>(es[p.2]?).map fun e=>(p.1,e)).map (·.2)=(l.map (·.2)).filterMap (es[·]?):=by
   intro l
   induction l with
   |nil=>rfl
   |cons p l ih=>
    rw[OI,Qj,OI];cases es[p.2]? with
    |none=>exact ih
    |some e=>show e::List.map _ _=e::_;rw[ih]
  exact gen live
 have hes:(List.range es.size).filterMap (es[·]?)=es.toList:=by
  have q:=wb es.toList;rw[OW]at q;simpa only[Q5] using q
 refine⟨{mask,place:=(live.map 2e4).toArray,dummies:=#[],finger:=t.finger,led:=t.led,moves:=t.movedTo mask,plain:=t.plain},(live.map (·.2)).toArray,α',?_,⟨?_,?_,?_,fun z hz=>?_,rfl,fun z hz=>?_⟩,?_,rfl,rfl,rfl,hsnd⟩
 ·unfold SetTable.relaid SetTable.laid;rw[hm,ea,e1];rfl
 ·show (live.map 2e4)=_;rw[hZ1]
 ·rw[hZ2];simp
 ·rw[hZ1];exact hfst
 ·have : z.1 ∈ live.map 2e4 := by rw [<- hZ1]; exact Rp hz
  obtain⟨p,hp,q⟩:=Rj.mp this;rw[<- q];exact((hlive p.1 p.2).mp hp).1
 ·obtain⟨p,hp,q⟩:=Pc.mp hz;rw[RH (hsz p.1 p.2 hp)]at q;have ez:z=(p.1,es[p.2]'(hsz p.1 p.2 hp)):=(Oq q).symm;obtain⟨hj,ho⟩:=(hlive p.1 p.2).mp hp;obtain⟨j,a1,a2,pre,post,a3,a4⟩:=O.all p.2 (es[p.2]'(hsz p.1 p.2 hp)).1 (by rw[Px,Q5,RH (hsz p.1 p.2 hp)];rfl);have ejp:j=p.1:=O.inj _ _ _ a2 ho;refine⟨pre,post,by rw[ez];rw[ejp]at a3;exact a3,fun k hk=>?_⟩;obtain⟨i',hi'⟩:=a4 k hk;rw[hZ1];have hkm:k<=mask:=js (h:=(es[p.2]'(hsz p.1 p.2 hp)).1) (by rw[a3];simp[hk]);exact Rj.mpr ⟨(k,i'),(hlive k i').mpr ⟨hkm,hi'⟩,rfl⟩
 ·rw[hZ2,<- hes];exact hsnd.filterMap _
def prs:List 2e5:=((List.range 36).filter fun n=>n / 6<n%6).map fun n=>[((n / 6:Nat):Int),((n%6:Nat):Int)]
def hsh(ks:List Int):Int:=reduceHash (Builtin.Tuple.tupleHashOf (ks.map hashInt))
theorem CQ(ks:List Int):tupleKeyHash (intKind prog w) ks=hsh ks:=rfl
def Ij(mask:Nat):Bool:=prs.all fun ks=>(List.range (mask+1)).all fun j=>(cJ mask (hsh ks)).contains j
theorem NX:Ij 7=true:=by decide +kernel
theorem HR:Ij 31=true:=by decide +kernel
theorem MC:(prs.map hsh).Nodup:=by decide +kernel
theorem zF:prs.length=15:=by decide +kernel
theorem x8(h:Ij mask=true){ks:List Int}(hk:ks∈prs):∀j,j<=mask->j∈cJ mask (hsh ks):=fun j hj=>by
 have a:=RI.mp h ks hk;have b:=RI.mp a j (OF.mpr 0e1);simpa using b
theorem Kq{l:List 2e5}(h:(l.map hsh).Nodup){a b:List Int}(ha:a∈l)(hb:b∈l)(e:hsh a=hsh b):a=b:=by
 induction l with
 |nil=>simp at ha
 |cons c l ih=>
  rw[Qj]at h;obtain⟨h1,h2⟩:=Po.mp h;rcases OM.mp ha with qa|qa <;> rcases OM.mp hb with qb|qb
  ·rw[qa,qb]
  ·exact absurd (by rw[<- qa,e];exact Rp qb) h1
  ·exact absurd (by rw[<- qb,<- e];exact Rp qa) h1
  ·exact ih h2 qa qb
theorem GV{a b:List Int}(ha:a∈prs)(hb:b∈prs)(e:hsh a=hsh b):a=b:=Kq MC ha hb e
theorem zE{a b:Int}(h1:0<=a)(h2:a<b)(h3:b<6):[a,b]∈prs:=by
 have key:∀x:Nat,x<6->∀y:Nat,y<6->x<y->[(x:Int),(y:Int)]∈prs:=by decide +kernel
 have:=key a.toNat 0e1 b.toNat 0e1 0e1;rw[RJ h1,RJ 0e1]at this;exact this
end RS
namespace RS
open PySem PyProof.Rows
abbrev KP:=List Int×Addr
structure dS(w:World)(h:Heap)(a:Addr)(qs:List (Int×Value))(o:Obj)(es:Array (Int×Value))(ep:Nat)(t:SetTable)(α:List (Nat×Int×Value)):Prop where
 ho:h.get? a=some o
 ex:o.ExactSet
 hd:o.data=.set es ep t
 tab:sv t es α
 plain:t.plain=true
 led:t.led=!w.params.followText "set-order"
 big:(t.mask=7/\α.length<=4)\/(t.mask=31/\α.length<=18)
 perm:(α.map (·.2)).Perm qs
def xQ(p:KP):Int×Value:=(hsh p.1,Value.ref p.2)
def bS(w:World)(h:Heap)(a:Addr)(ps:List KP):Prop:=∃o es ep t α,dS w h a (ps.map xQ) o es ep t α/\(∀p∈ps,p.1∈prs)/\(ps.map 2e4).Nodup
theorem dS.len{h:Heap}{o es ep t α}(S:dS w h a ps o es ep t α):α.length=ps.length:=by
 have:=S.perm.length_eq;simpa using this
theorem kZ{ps:List KP}(hk:∀p∈ps,p.1∈prs)(hn:(ps.map 2e4).Nodup):ps.length<=15:=by
 have:=iJ hn (l2:=prs) (fun x hx=>by obtain⟨p,hp,e⟩:=Rj.mp hx;rw[<- e];exact hk p hp);rw[PD,zF]at this;exact this
theorem dS.fits{h:Heap}{o es ep t α}(S:dS w h a ps o es ep t α):t.fits es.size=true:=by
 unfold SetTable.fits;rw[S.tab.fill,S.tab.size.1,S.tab.size.2];rcases S.big with⟨h1,h2⟩|⟨h1,h2⟩ <;> simp[h1] <;> omega
theorem dS.cov{h:Heap}{o es ep t α}(S:dS w h a ps o es ep t α){k:List Int}(hk:k∈prs):∀j,j<=t.mask->j∈cJ t.mask (hsh k):=by
 rcases S.big with⟨h1,h2⟩|⟨h1,h2⟩ <;> rw[h1]
 ·exact x8 NX hk
 ·exact x8 HR hk
theorem bS.keeps{h:Heap}{ps:List KP}(S:bS w h a ps)(k:∀o,h.get? a=some o->h'.get? a=some o):bS w h' a ps:=by
 obtain⟨o,es,ep,t,α,S,hk,hn⟩:=S;exact⟨o,es,ep,t,α,⟨k o S.ho,S.ex,S.hd,S.tab,S.plain,S.led,S.big,S.perm⟩,hk,hn⟩
section
abbrev Tk(prog:Program)(w:World)(h:Heap)(k:List Int)(r:Addr):Prop:=IsTupleKey (intKind prog w) h k r
theorem items_int{k:List Int}{vs:List Value}(h:ItemsAre (intKind prog w) k vs):∀v∈vs,∃i t,v=.int i t:=by
 induction h with
 |nil=>intro v hv;simp at hv
 | @cons k v' ks vs h1 _ ih=>
  intro v hv;rcases OM.mp hv with q|q
  ·obtain⟨t,e⟩:=Os (k:=k) (v:=v') h1;exact⟨k,t,by rw[q,e]⟩
  ·exact ih v q
theorem wu{k:List Int}{r:Addr}{Q:Bool->Shared->Prop}(hk:Tk prog w 1e5 k r)(h:Q false s):wpAny 0e6 A (ofAClassStatement 8 (.ref r)) Q E s:=by
 have hT:=hk.typeIs;obtain⟨o,items,n,ho,hc,hd,hi⟩:=hk;unfold ofAClassStatement;refine OZ (Qf hT ?_);dsimp only;dsimp[QD,PU];refine OZ (O5 ?_);dsimp[RK,QE,PR];refine OZ (QU ho hd ?_);dsimp only;refine OZ ?_;show wpAny _ _ (forIn items _ _) _ _ s;rw[<- Array.forIn_toList];refine RL _ (fun rest r s'=>r.1=none/\s'=s/\∀v∈rest,∃i t,v=.int i t) _ ?_ ?_ _ _ ⟨rfl,rfl,items_int hi⟩
 ·rintro v rest r s' ⟨hr, rfl, hall⟩
  obtain⟨i,t,e⟩:=hall v OJ;subst e;unfold ofAClassStatement;refine OZ (O5 ?_);dsimp[QE,PR];exact O5 ⟨rfl,rfl,fun u hu'=>hall u (OK _ hu')⟩
 ·rintro ⟨r1, r2⟩ s' ⟨hr, rfl, _⟩
  simp only at hr;subst hr;exact O5 h
theorem si{k:List Int}{r:Addr}{Q:Bool->Shared->Prop}(hk:Tk prog w 1e5 k r)(h:Q true s):wpAny 0e6 A (hashByValue 8 (.ref r)) Q E s:=by
 have hT:=hk.typeIs;obtain⟨o,items,n,ho,hc,hd,hi⟩:=hk;unfold hashByValue;refine OZ (wpAny_specialOf hT F.slot_tuple_hash.lookup ?_);dsimp only;refine OZ (QU ho hd ?_);refine OZ ?_;show wpAny _ _ (forIn items _ _) _ _ s;rw[<- Array.forIn_toList];refine RL _ (fun rest r s'=>r.1=none/\s'=s/\∀v∈rest,∃i t,v=.int i t) _ ?_ ?_ _ _ ⟨rfl,rfl,items_int hi⟩
 ·rintro v rest r s' ⟨hr, rfl, hall⟩
  obtain⟨i,t,e⟩:=hall v OJ;subst e;unfold hashByValue;refine OZ (O5 ?_);dsimp[RK,QE,PR];exact O5 ⟨rfl,rfl,fun u hu'=>hall u (OK _ hu')⟩
 ·rintro ⟨r1, r2⟩ s' ⟨hr, rfl, _⟩
  simp only at hr;subst hr;exact O5 h
theorem DW{k:List Int}{r:Addr}{ys:List Value}{Q:Bool->Shared->Prop}(hk:Tk prog w 1e5 k r)(hy:∀y∈ys,∃k' r',y=.ref r'/\Tk prog w 1e5 k' r')(h:Q false s):wpAny 0e6 A (searchCouldBeSeen (.ref r) ys) Q E s:=by
 unfold searchCouldBeSeen;refine OZ ?_;refine RL _ (fun rest r' s'=>r'.1=none/\s'=s/\∀y∈rest,∃k' r',y=.ref r'/\Tk prog w 1e5 k' r') _ ?_ ?_ _ _ ⟨rfl,rfl,hy⟩
 ·rintro v rest q s' ⟨hr, rfl, hall⟩
  obtain⟨k',r',e,hk'⟩:=hall v OJ;subst e;have hrest:=fun u hu'=>hall u (OK _ hu');dsimp only;by_cases hv:(r == r' || carriedByValue (Value.ref r)&&carriedByValue (Value.ref r'))=true
  ·rw[Ow hv];exact O5 ⟨rfl,rfl,hrest⟩
  ·rw[Ox hv];refine OZ (wpAny_eqIsQuiet_tuple hk ?_);dsimp[RK,QE,PR];refine OZ (wpAny_eqIsQuiet_tuple hk' ?_);dsimp[RK,QE,PR];refine OZ (wu hk ?_);dsimp[QE,PR];refine OZ (wu hk' ?_);dsimp[QE,PR];exact O5 ⟨rfl,rfl,hrest⟩
 ·rintro ⟨r1, r2⟩ s' ⟨hr, rfl, _⟩
  simp only at hr;subst hr;exact O5 h
end
end RS
variable{qs:List RS.KP}
namespace RS
open PySem PyProof.Rows
section
theorem C3{h:Heap}{ps:List KP}{o es ep t α}(S:dS w h a (ps.map xQ) o es ep t α)(hz:z∈α):∃p∈ps,z.2=(hsh p.1,Value.ref p.2):=by
 have:z.2∈α.map (·.2):=Rp hz;obtain⟨p,hp,e⟩:=Rj.mp (S.perm.mem_iff.mp this);exact⟨p,hp,e.symm⟩
theorem KG{h:Heap}{ps:List KP}{o es ep t α}(S:dS w h a (ps.map xQ) o es ep t α){p:KP}(hp:p∈ps):∃z∈α,z.2=(hsh p.1,Value.ref p.2):=by
 have:xQ p∈ps.map xQ:=Rp hp;obtain⟨z,hz,e⟩:=Rj.mp (S.perm.mem_iff.mpr this);exact⟨z,hz,e⟩
theorem Aw{r:Addr}{k:List Int}{ps:List KP}{o es ep t α}{Q:SetFound->Shared->Prop}(S:dS w 1e5 a (ps.map xQ) o es ep t α)(hks:∀p∈ps,p.1∈prs)(hk:k∈prs)(hr:Tk prog w 1e5 k r)(hps:∀p∈ps,Tk prog w 1e5 p.1 p.2)(hu:A.units<cLine)(h1:k∈ps.map 2e4->Q (.there none) s)(h2:k∉ps.map 2e4->∀j pre post,j<=t.mask->j∉α.map 2e4->cJ t.mask (hsh k)=pre++j::post->(∀x∈pre,x∈α.map 2e4)->Q (.free j false) s):
  wpAny 0e6 A (setSearch a (.ref r) (hsh k) true) Q E s:=by
 have hodd:t.gaveWay=false:=by
  unfold SetTable.gaveWay;rcases S.big with⟨q,_⟩|⟨q,_⟩ <;> rw[q] <;> decide
 have hz:α.length<=t.mask:=by rcases S.big with⟨q,q2⟩|⟨q,q2⟩ <;> omega
 unfold setSearch setSearchFrom;refine OZ (RM S.ho S.hd S.fits ?_);dsimp only;rw[hodd];dsimp[QE,PR];generalize hpr:SetTable.probe t _ (hsh k) (Option.getD none (t.probeStart (hsh k)))=pr
 have key:∀(hA:Nat->Int) pr,(∀i z,α[i]?=some z->hA i=z.2.1)->t.probe hA (hsh k) (t.probeStart (hsh k))=pr ->
   (∃i z nx,α[i]?=some z/\z.2.1=hsh k/\pr=some (.candidate z.1 i nx)) \/
   ((∀z∈α,z.2.1≠hsh k)/\∃j pre post,pr=some (.empty j none)/\j<=t.mask/\j∉α.map 2e4/\cJ t.mask (hsh k)=pre++j::post/\∀x∈pre,x∈α.map 2e4):=fun hA pr hAe e=>by
  subst e;exact S.tab.search (S.cov hk) hz hA hAe
 rcases key _ pr (fun i z hi=>by show (Option.map 2e4 es[i]?).getD 0=_;rw[S.tab.hashAt hi];rfl) hpr with⟨i,z,nx,hi,ez,e⟩|⟨hno,j,pre,post,e,hj,hn,e2,hp⟩
 ·subst e;dsimp only;have hzm:z∈α:=Pz hi;obtain⟨p,hp,ep'⟩:=C3 S hzm;have ek:p.1=k:=GV (hks p hp) hk (by rw[<- ez,ep']);have hin:k∈ps.map 2e4:=by rw[<- ek];exact Rp hp
  have rest:wpAny 0e6 A (do
    let some (_,y):=es[i]? | unsupported "internal:set-entry"
    let equal <- holding [y] (eqBool y (.ref r))
    let (es',_,t') <- setState a
    if true&&equal then return SetFound.there none
    let some same:=t'.sameMemory t.moves t.mask|unsupported "set.changed-during-lookup:is-the-new-block-at-the-old-address"
    let still <- match (if same then t'.slot z.1 else .empty) with
     |.live i'=>match es'[i']? with
      |some (_,y')=>do pure (if <- isSame y' y then some i' else none)
      |none=>pure none
     |_=>pure none
    match still with
    |none=>rule "set.search.anew";setSearchFrom a (.ref r) (hsh k) true 99999 none
    |some i'=>if equal then return .there (some i') else setSearchFrom a (.ref r) (hsh k) true 99999 (some nx)) Q E s:=by
   rw[S.tab.hashAt hi,ep'];dsimp only;refine OZ (O0 (wpAny_eqBool_tuple hu (hps p hp) hr ?_));refine OZ (RM S.ho S.hd S.fits ?_);dsimp only;rw[ek,QA rfl];dsimp[RN,PU];exact O5 (h1 hin)
  by_cases hl:(!t.led)=true
  ·rw [Ow hl];refine OZ (DW hr (fun y hy=>?_) ?_)
   ·obtain ⟨e', he', q⟩ := Rj.mp hy
    have he2:e'∈es.toList:=by
     have:=Array.mem_filter.mp (Ph.mp he');exact Ph.mpr this.1
    rw[S.tab.ents]at he2;obtain⟨z',hz',q2⟩:=Rj.mp he2;obtain⟨p',hp',q3⟩:=C3 S hz';exact⟨p'.1,p'.2,by rw[<- q,<- q2,q3],hps p' hp'⟩
   ·dsimp[QE,PR];exact rest
  ·rw[Ox hl];exact rest
 ·subst e;dsimp only;refine O5 (h2 (fun hin=>?_) j pre post hj hn e2 hp);obtain⟨p,hpm,ek⟩:=Rj.mp hin;obtain⟨z,hzm,ez⟩:=KG S hpm;exact hno z hzm (by rw[ez,<- ek])
end
def iA(ps:List KP)(k:List Int)(r:Addr):List KP:=if k∈ps.map 2e4 then ps else ps++[(k,r)]
section
theorem Cm{r:Addr}{k:List Int}{ps:List KP}{Q:Bool->Shared->Prop}(S:bS w 1e5 a ps)(hk:k∈prs)(hr:Tk prog w 1e5 k r)(hps:∀p∈ps,Tk prog w 1e5 p.1 p.2)(hu:A.units<cLine)(h:∀b h',Heap.SameBut a 1e5 h'->bS w h' a (iA ps k r)->Q b {s with heap:=h'}):wpAny 0e6 A (setAddHashed a (.ref r) (hsh k)) Q E s:=by
 obtain⟨o,es,ep,t,α,S,hk0,hn0⟩:=S;unfold setAddHashed setAddHashedIn;refine O0 (OZ (RM S.ho S.hd S.fits ?_));dsimp only;have hsc:byScan (Value.ref r) es=false:=rfl;rw[hsc];dsimp[QE,PR];refine OZ (Aw S hk0 hk hr hps hu (fun hin=>?_) fun hin j pre post hj hn e hp=>?_)
 ·dsimp only;refine O5 ?_;have q:=h false 1e5 (Heap.SameBut.refl a 1e5) (by unfold iA;rw[Ow hin];exact⟨o,es,ep,t,α,S,hk0,hn0⟩);cases s;exact q
 ·dsimp only;refine OZ (RM S.ho S.hd S.fits ?_);dsimp only;obtain⟨α',T',hperm,et⟩:=S.tab.put (x:=Value.ref r) hj hn e hp;have e2:(t.put j).2=SetTable.below t.place j:=rfl;have hpl:(t.put j).1.plain=true:=by rw[et];exact S.plain
  have hled:(t.put j).1.led=t.led:=by rw[et]
  have hmask:(t.put j).1.mask=t.mask:=by rw[et]
  have hperm':(α'.map (·.2)).Perm ((ps++[(k,r)]).map xQ):=by
   have q1:=hperm.map (·.2);refine q1.trans ?_;rw[Qj,Ru];refine List.Perm.trans (List.Perm.cons _ S.perm) ?_;exact(List.perm_append_singleton _ _).symm
  have hkeys:∀p∈ps++[(k,r)],p.1∈prs:=fun p hp'=>by
   rcases OO.mp hp' with q|q
   ·exact hk0 p q
   ·rw[QP]at q;rw[q];exact hk
  have hnd:((ps++[(k,r)]).map 2e4).Nodup:=by
   rw[Ru];refine RO.mpr ⟨hn0,by simp,fun x hx y hy=>?_⟩;simp at hy;rw[hy];rintro rfl;exact hin hx
  have hlen15:=kZ hkeys hnd;have hZ':α'.length=ps.length+1:=by rw[hperm.length_eq,QF,S.len,PD]
  have hesz:(SetTable.insertAt es (t.put j).2 (hsh k,Value.ref r)).size=α'.length:=T'.size.2;have hadd:iA ps k r=ps++[(k,r)]:=by unfold iA;rw[Ox hin]
  rw[hadd]at h;rw[PB,Qw]at hlen15;generalize ht1:(t.put j).1=t1 at *;generalize hes1:SetTable.insertAt es (t.put j).2 (hsh k,Value.ref r)=es1 at *;have hline:es1.size<=sizeLine:=by rw[hesz,hZ'];exact OG hlen15 0e4
  rw[hpl];dsimp[PU];refine OZ (si hr ?_);dsimp[PU];refine OZ (RP S.ho S.hd ?_ hline)
  have hg:(s.heap.update a (Obj.putSet es1 t1)).get? a=some {o with data:=.set es1 (ep+1) t1}:=by
   have:=Qm (Obj.putSet es1 t1) S.ho (by rw[RQ es1 t1 S.hd];rfl);rw[RQ es1 t1 S.hd]at this;exact this
  have hsb1:=QW 1e5 a (Obj.putSet es1 t1);have hfill:t1.fill=ps.length+1:=by rw[T'.fill,hZ']
  by_cases hfull:t1.tooFull=true
  ·dsimp[hfull, RR, RN, PU]
   have hm7:t.mask=7/\ps.length=4:=by
    unfold SetTable.tooFull at hfull;rw[hfill,hmask]at hfull;have hf:(ps.length+1)*5 ≥ t.mask*3:=by simpa using hfull
    have hl:=S.len;rw[PD]at hl;rcases S.big with⟨q,q2⟩|⟨q,q2⟩
    ·rw[q]at hf;exact⟨q,by omega⟩
    ·rw[q]at hf;omega
   have hes0:es.size=4:=by rw[S.tab.size.2,S.len,PD,hm7.2]
   have hsz1:es1.size=5:=by rw[hesz,hZ',hm7.2]
   have hgr:SetTable.grown (es.size+1)=20:=by rw[hes0];rfl
   rw[hgr];unfold setRelay
   have hfits1:t1.fits es1.size=true:=by
    unfold SetTable.fits;rw[T'.fill,T'.size.1,hesz,hmask,hm7.1,hZ',hm7.2];rfl
   refine OZ (OZ (RM hg rfl hfits1 ?_));dsimp only;rw[Ox 0e4]
   obtain⟨t2,order,α2,er,T2,hp2,hm2,hl2,hpl2,_⟩:=qO (t:=t1) (es:=es1) (wanted:=20) (mask:=31) (by rfl) (by rw[hsz1];decide) (fun e' he'=>by
    rw[T'.ents]at he';obtain⟨p,hp',q⟩:=Rj.mp (hperm'.mem_iff.mp he');rw[<- q]
    exact x8 HR (hkeys p hp'))
   rw[er]
   have hZ2:α2.length=5:=by
    have:=hp2.length_eq;simp at this;omega
   have hes2:(order.filterMap (es1[·]?)).size=5:=by rw[T2.size.2,hZ2]
   have hne:((order.filterMap (es1[·]?)).size != es1.size)=false:=by rw[hes2,hsz1];rfl
   refine OZ ?_;show wpAny _ A (if ((order.filterMap (es1[·]?)).size != es1.size)=true then _ else _) _ _ _;rw[hne];dsimp[QE,PR];refine O5 ?_;refine RP hg rfl ?_ (by rw[hes2];decide)
   have hg2:((s.heap.update a (Obj.putSet es1 t1)).update a (Obj.putSet (order.filterMap (es1[·]?)) t2)).get? a=some {o with data:=.set (order.filterMap (es1[·]?)) (ep+1+1) t2}:=by
    have:=Qm (Obj.putSet (order.filterMap (es1[·]?)) t2) hg (by rw[RQ _ t2 rfl];rfl);rw[RQ _ t2 rfl]at this;exact this
   refine O5 ?_;refine h true _ (hsb1.trans (QW _ a _)) ⟨_,_,_,t2,α2,⟨hg2,S.ex,rfl,T2,by rw[hpl2];exact hpl,by rw[hl2,hled];exact S.led,.inr ⟨hm2,by omega⟩,?_⟩,hkeys,hnd⟩;refine hp2.trans ?_;rw[T'.ents];exact hperm'
  ·have hf : t1.tooFull = false := by simpa using hfull
   dsimp[hf,Qx,QE,PR];refine O5 ?_;refine h true _ hsb1 ⟨_,_,_,t1,α',⟨hg,S.ex,rfl,T',hpl,by rw[hled];exact S.led,?_,hperm'⟩,hkeys,hnd⟩;unfold SetTable.tooFull at hf;rw[hfill,hmask]at hf;have hf':¬ ((ps.length+1)*5 ≥ t.mask*3):=by simpa using hf
   rw[hmask,hZ'];rcases S.big with⟨q,q2⟩|⟨q,q2⟩
   ·rw[q]at hf'⊢;exact .inl ⟨rfl,by omega⟩
   ·rw[q]at hf'⊢;exact .inr ⟨rfl,by omega⟩
end
def fv(qs:List KP):List KP:=qs.foldl (fun ps p=>iA ps p.1 p.2) []
theorem xB(qs:List KP)(p:KP):fv (qs++[p])=iA (fv qs) p.1 p.2:=by unfold fv;rw[RT];rfl
theorem qJ{ps:List KP}{k:List Int}{r:Addr}{p:KP}(h:p∈iA ps k r):p∈ps\/p=(k,r):=by
 unfold iA at h;split at h
 ·exact .inl h
 ·rcases OO.mp h with q | q
  ·exact .inl q
  ·exact .inr (QP.mp q)
theorem oU:∀{qs ps:List KP}{p:KP},p∈qs.foldl (fun ps p=>iA ps p.1 p.2) ps->p∈ps\/p∈qs
 |[],_,_,h=>.inl h
 |q::qs,ps,p,h=>by
  rw[Qu]at h;rcases oU h with z|z
  ·rcases qJ z with z | z
   ·exact .inl z
   ·exact .inr (by rw[z];exact OJ)
  ·exact .inr (OK _ z)
theorem mi{p:KP}(h:p∈fv qs):p∈qs:=(oU h).elim (fun z=>by simp at z) id
theorem qV{ps:List KP}{k:List Int}{r:Addr}(h:(ps.map 2e4).Nodup):((iA ps k r).map 2e4).Nodup:=by
 unfold iA;split
 ·exact h
 ·rename_i hn;rw[Ru];refine RO.mpr ⟨h,by simp,fun x hx y hy=>?_⟩;simp at hy;rw[hy];rintro rfl;exact hn hx
theorem lO:∀{qs ps:List KP},(ps.map 2e4).Nodup->((qs.foldl (fun ps p=>iA ps p.1 p.2) ps).map 2e4).Nodup
 |[],_,h=>h
 |q::qs,ps,h=>by rw[Qu];exact lO (qV h)
theorem vd:((fv qs).map 2e4).Nodup:=lO (ps:=[]) RD
def lL (w:World):Bool:=!w.params.followText "set-order"
theorem kz{h:Heap}(e:h.get? a=some {cls:=.type "set",dict:=none,data:=.set #[] 0 (.fresh 0 0 (lL w))}):bS w h a []:=
 ⟨_,_,_,_,[],⟨e,⟨rfl,rfl,rfl⟩,rfl,⟨rfl,rfl,List.Pairwise.nil,fun z hz=>by simp at hz,rfl,fun z hz=>by simp at hz⟩,rfl,rfl,.inl ⟨rfl,by decide⟩,List.Perm.nil⟩,fun p hp=>by simp at hp,RD⟩
section
variable{R:Result->Shared->Prop}{wr:List Addr}{G:Array GenState->Array GenState->Prop}{P:Nat->Value->Prop}{St:Nat->Shared->Prop}
structure BZ(prog:Program)(w:World)(u:Nat)(S:Addr)(vs:List Value)(J:Nat->Heap->Prop):Prop where
 keep:∀i h h',(∀b o,b<=S->h.get? b=some o->h'.get? b=some o)->J i h->J i h'
 add:∀(A:Around)(i:Nat)(v:Value)(s:Shared)(E:Value->Shared->Prop)(Q:Bool->Shared->Prop),A.units<=u->vs[i]?=some v->J i 1e5 ->
  (∀b h' tk,s.toks<=tk->Heap.SameBut S 1e5 h'->J (i+1) h'->Q b {s with heap:=h',toks:=tk})->wpAny 0e6 A (setAdd S v) Q E s
theorem wC{u:Nat}{vs:List Value}(W:WalksS prog w A.in1 I fp wr G vs.length P St)(S:Addr)(hSf:S∉fp)(hwr:∀b∈wr,S<b)(hP:∀(i:Nat) v,P i v->vs[i]?=some v)(hJ:BZ prog w u S vs J)(hu:A.units+1<=u):
  ∀(k i:Nat)(s:Shared),vs.length-i=k->i<=vs.length->St i s->J i 1e5 ->
   (∀s',Moved (S::wr) G s s'->J vs.length s'.heap->R (.ok (.ret .none)) s') ->
   codeAny 0e6 A (.builtin "set.update.loop" ⟨[.ref S,.ref I],[]⟩) R s:=by
 have hSw:S∉wr:=fun h=>hSf (W.sub _ h);have hsub:∀b∈wr,b∈S::wr:=fun b hb=>OK _ hb;have hle:∀b,b<=S->b∉wr:=fun b hb z=>OC _ (OB (hwr b z) hb);intro k
 induction k with
 |zero=>
  intro i s ek hi hst hS hR;have hin:i=vs.length:=by omega
  subst hin;refine RU F.entry_set_update_loop ?_;rw[RW RX _];show wpAny _ A.in1 (pyNext (.ref I) >>= _) _ _ s;refine OZ (W.done s _ _ hst fun s' hm=>?_);show wpAny _ A.in1 (ret Value.none) _ _ s';exact O5 (hR s' (hm.mono hsub) (hJ.keep _ _ _ (fun b o hb e=>hm.heap b o (hle b hb) e) hS))
 |succ k ih=>
  intro i s ek hi hst hS hR;have hlt:i<vs.length:=by omega
  refine RU F.entry_set_update_loop ?_;rw[RW RX _];show wpAny _ A.in1 (pyNext (.ref I) >>= _) _ _ s;refine OZ (W.item i s _ _ hlt hst fun v s' hPv hst' hm=>?_);have hv:=hP i v hPv;have hS':=hJ.keep i _ s'.heap (fun b o hb e=>hm.heap b o (hle b hb) e) hS;show wpAny _ A.in1 (holding [v] (setAdd S v) >>= _) _ _ s';refine OZ (O0 ?_);refine hJ.add A.in1 i v s' _ _ (by show A.units+1<=u;exact hu) hv hS' fun b h' tk ht hsb hS2=>?_;have hkeep:∀b o,b≠S->s'.heap.get? b=some o->h'.get? b=some o:=fun b o hb e=>(hsb.2 b hb).trans e;refine O5 ⟨RY RX _,ih (i+1) _ 0e1 hlt (W.frame _ s' _ _ hst' ht fun b hb o e=>hkeep b o (fun z=>hSf (by rw[<- z];exact hb)) e) hS2 fun s'' hm'' hS''=>?_⟩;refine hR s'' (Moved.trans W.gtrans ((hm.mono hsub).then_heap ht fun b o hb e=>?_) hm'') hS'';exact hkeep b o (fun z=>hb (by rw[z];exact OJ)) e
end
section
theorem nq(a:Value){Q1:Value->Shared->Prop}
  (h:Q1 (.ref 0e3) {s with heap:=s.heap.push {cls:=.type "set",dict:=none,data:=.set #[] 0 (.fresh 0 0 (lL w))}}) :
  codeAny 0e6 A (.call (.builtin "set.__new__") ⟨[.type "set",a],[]⟩) (wants Q1 E) s:=by
 refine QL ?_;show wpAny _ A.in1 (do checkBuiltinCall "set.__new__" ⟨[.type "set",a],[]⟩;again (.builtin "set.__new__" ⟨[.type "set",a],[]⟩)) _ _ s;refine OZ (Q0 (F.newCall_set_1 a) (O5 ⟨RY F.plain_set_new _,RU F.entry_set_new ?_⟩));rw[RW F.plain_set_new _];unfold Builtin.«set.__new__» Builtin.Frozenset.newClass;have hsub:=sub_set_self;obtain⟨hp,g,d,tk,os⟩:=s;dsimp only
 wp_walk
 refine QM (O5 ?_);dsimp only;dsimp[newObj];refine OZ (wpAny_alloc (O5 ?_));exact O5 h
namespace F
theorem sub_list_set:isSubtype (.type "list") (.type "set")=pure false:=by rw[RZ];kernel_rfl
theorem sub_list_frozenset:isSubtype (.type "list") (.type "frozenset")=pure false:=by rw[RZ];kernel_rfl
end F
theorem nc{items:Array Value}(hh:A.handled=none)(hl:s.heap.IsList l items)(hJ:BZ prog w (A.units+20) 0e3 items.toList J)(h0:∀h',(∀b o,s.heap.get? b=some o->h'.get? b=some o)->h'.get? 0e3=some {cls:=.type "set",dict:=none,data:=.set #[] 0 (.fresh 0 0 (lL w))}->J 0 h')(h:∀(h':Heap)(tk:Nat),J 2e8 h'->(∀b o,b<s.heap.objs.size->s.heap.get? b=some o->h'.get? b=some o)->Q (.ref 0e3) {s with heap:=h',toks:=tk}):
  wpAny 0e6 A (call (.type "set") [.ref l]) Q E s:=by
 obtain⟨c,tl,hmro⟩:=R0.mro;have hmade:=R0.made;have hsub:=R0.sub;refine Pj (QL ?_);show wpAny _ _ (callAny (.type "set") _) _ _ _;refine O5 ⟨R6 _ 0e8,RU PySem.F.entry_type_call ?_⟩;rw[Around.under_plain (weight_type_call_type "set" [.ref l] []) rfl];have h1:=R0.notType;have h2:=R0.canCreate;have hct:=PySem.F.typeCall_set_1 (.ref l)
 repeat (any_goals (first|assumption|wp_step))
 refine Pl (nq (.ref l) (E:=E) (Q1:=fun obj s1=>obj=.ref 0e3/\s1={s with heap:=s.heap.push {cls:=.type "set",dict:=none,data:=.set #[] 0 (.fresh 0 0 (lL w))}}) ⟨rfl,rfl⟩) fun r s1 hr=>?_;cases r with
 |error e=>exact hr
 |ok fl=>
  cases fl with
  |ret obj=>
   obtain⟨rfl,rfl⟩:=hr;generalize hled:lL w=led;have hS:(s.heap.push {cls:=.type "set",dict:=none,data:=.set #[] 0 (.fresh 0 0 led)}).get? 0e3=some {cls:=.type "set",dict:=none,data:=.set #[] 0 (.fresh 0 0 led)}:=Oy _ rfl;have hTy:Shared.TypeIs {s with heap:=s.heap.push {cls:=.type "set",dict:=none,data:=.set #[] 0 (.fresh 0 0 led)}} (.ref 0e3) "set" := ⟨_,hS,rfl⟩;have hli:=R0.init.lookup;have hbi:=R0.init.bind (.ref 0e3)
   repeat (any_goals (first|assumption|wp_step))
   refine Pl (R7 (R:=wants (fun r s2=>r=.none/\∃h' tk,s2={s with heap:=h',toks:=tk}/\J 2e8 h' /\
     (∀b o,b<s.heap.objs.size->s.heap.get? b=some o->h'.get? b=some o)) E) R0.init.plain PySem.F.entry_set_init (check_set_init_1 hTy ?_)) fun r2 s2 hr2=>?_
   ·obtain ⟨ol, hol, hcl, nl, hdl⟩ := hl;obtain⟨ocls,odict,odata,oslots⟩:=ol;simp only at hcl hdl;subst hcl;subst hdl;have hol':(s.heap.push {cls:=.type "set",dict:=none,data:=.set #[] 0 (.fresh 0 0 led)}).get? l=some {cls:=.type "list",dict:=odict,data:=.seq items nl,slots:=oslots}:=O8 _ hol;have hsls:=F.sub_list_set;have hslf:=F.sub_list_frozenset;have hne:(Value.type "list" == Value.type "dict")=false:=by decide
    have hl1:(s.heap.push {cls:=.type "set",dict:=none,data:=.set #[] 0 (.fresh 0 0 led)}).IsList l items:=⟨_,hol',rfl,nl,rfl⟩;unfold Builtin.«set.__init__» noKeywords Builtin.Frozenset.updateFrom;generalize hPI:pyIter=PI
    wp_walk
    subst hPI;refine R8 hl1 ?_;refine OZ (R9 ?_);have hlS:l<s.heap.objs.size:=OA hol;have hh3:A.in1.in1.in1.handled=none:=by simp[hh]
    have hneI:l≠(s.heap.push {cls:=.type "set",dict:=none,data:=.set #[] 0 (.fresh 0 0 led)}).objs.size:=by
     rw[QI];exact OD (QH hlS)
    have hSf:s.heap.objs.size ∉ [(s.heap.push {cls:=.type "set",dict:=none,data:=.set #[] 0 (.fresh 0 0 led)}).objs.size,l]:=by
     rw[QI];dsimp[OM,QP,Q3,Q4,not_or];exact⟨OD (QG _),O4 hlS⟩
    have W:=(Walks.list (prog:=prog) (w:=w) hh3 (s.heap.push {cls:=.type "set",dict:=none,data:=.set #[] 0 (.fresh 0 0 led)}).objs.size l hneI items).toS;rw[show items.size=items.toList.length by rw[OW]]at W
    refine wC W 0e3 hSf (fun b hb=>?_) (fun i v hv=>by rw[Q5];exact hv) hJ (by dsimp[Around.in1];omega) (items.toList.length-0) 0 _ 0e1 (QO _)
     ⟨⟨_,Oy _ rfl,rfl,rfl⟩,?hL⟩ ?hS0 ?hR
    case hL=>
     obtain⟨o,ho,rest⟩:=hl1;exact⟨o,O8 _ ho,rest⟩
    case hS0=>
     refine h0 _ (fun b o e=>O8 _ (O8 _ e)) ?_;rw[hled];exact O8 _ hS
    case hR=>
     intro s' hm hS';obtain⟨h',g',d',tk',os'⟩:=s';have eg:g'=s.gens:=hm.gens;have ed:d'=s.drawn:=hm.drawn;have eo:os'=s.os:=hm.os;subst eg;subst ed;subst eo;show wpAny _ _ _ _ _ _;refine O5 ?_;show wpAny _ _ (ret Value.none) _ _ _;refine O5 ⟨rfl,h',tk',rfl,by rw[OW]at hS';exact hS',fun b o hb e=>?_⟩;have hb1:b≠s.heap.objs.size:=OD hb
     have hb2:b≠(s.heap.push {cls:=.type "set",dict:=none,data:=.set #[] 0 (.fresh 0 0 led)}).objs.size:=by
      rw[QI];exact OD (QH hb)
     exact hm.heap b o (by dsimp[OM,QP,Q3,Q4,not_or];exact⟨hb1,hb2⟩) (O8 _ (O8 _ e))
    ·rw[QI]at hb;rw[QP.mp hb];exact QG _
   ·cases r2 with
    |error e=>exact hr2
    |ok fl2=>
     cases fl2 with
     |ret r=>
      obtain⟨rfl,h',tk,rfl,hS',hk'⟩:=hr2
      repeat (any_goals (first|assumption|wp_step))
      exact h _ _ hS' hk'
     |_=>exact hr2.elim
  |_=>exact hr.elim
namespace F
theorem sub_tuple_set:isSubtype (.type "tuple") (.type "set")=pure false:=by rw[RZ];kernel_rfl
theorem sub_tuple_frozenset:isSubtype (.type "tuple") (.type "frozenset")=pure false:=by rw[RZ];kernel_rfl
end F
theorem lN{items:Array Value}(hh:A.handled=none)(hl:s.heap.IsTuple l items)(hJ:BZ prog w (A.units+20) 0e3 items.toList J)(h0:∀h',(∀b o,s.heap.get? b=some o->h'.get? b=some o)->h'.get? 0e3=some {cls:=.type "set",dict:=none,data:=.set #[] 0 (.fresh 0 0 (lL w))}->J 0 h')(h:∀(h':Heap)(tk:Nat),J 2e8 h'->(∀b o,b<s.heap.objs.size->s.heap.get? b=some o->h'.get? b=some o)->Q (.ref 0e3) {s with heap:=h',toks:=tk}):
  wpAny 0e6 A (call (.type "set") [.ref l]) Q E s:=by
 obtain⟨c,tl,hmro⟩:=R0.mro;have hmade:=R0.made;have hsub:=R0.sub;refine Pj (QL ?_);show wpAny _ _ (callAny (.type "set") _) _ _ _;refine O5 ⟨R6 _ 0e8,RU PySem.F.entry_type_call ?_⟩;rw[Around.under_plain (weight_type_call_type "set" [.ref l] []) rfl];have h1:=R0.notType;have h2:=R0.canCreate;have hct:=PySem.F.typeCall_set_1 (.ref l)
 repeat (any_goals (first|assumption|wp_step))
 refine Pl (nq (.ref l) (E:=E) (Q1:=fun obj s1=>obj=.ref 0e3/\s1={s with heap:=s.heap.push {cls:=.type "set",dict:=none,data:=.set #[] 0 (.fresh 0 0 (lL w))}}) ⟨rfl,rfl⟩) fun r s1 hr=>?_;cases r with
 |error e=>exact hr
 |ok fl=>
  cases fl with
  |ret obj=>
   obtain⟨rfl,rfl⟩:=hr;generalize hled:lL w=led;have hS:(s.heap.push {cls:=.type "set",dict:=none,data:=.set #[] 0 (.fresh 0 0 led)}).get? 0e3=some {cls:=.type "set",dict:=none,data:=.set #[] 0 (.fresh 0 0 led)}:=Oy _ rfl;have hTy:Shared.TypeIs {s with heap:=s.heap.push {cls:=.type "set",dict:=none,data:=.set #[] 0 (.fresh 0 0 led)}} (.ref 0e3) "set" := ⟨_,hS,rfl⟩;have hli:=R0.init.lookup;have hbi:=R0.init.bind (.ref 0e3)
   repeat (any_goals (first|assumption|wp_step))
   refine Pl (R7 (R:=wants (fun r s2=>r=.none/\∃h' tk,s2={s with heap:=h',toks:=tk}/\J 2e8 h' /\
     (∀b o,b<s.heap.objs.size->s.heap.get? b=some o->h'.get? b=some o)) E) R0.init.plain PySem.F.entry_set_init (check_set_init_1 hTy ?_)) fun r2 s2 hr2=>?_
   ·obtain ⟨ol, hol, hcl, nl, hdl⟩ := hl;obtain⟨ocls,odict,odata,oslots⟩:=ol;simp only at hcl hdl;subst hcl;subst hdl;have hol':(s.heap.push {cls:=.type "set",dict:=none,data:=.set #[] 0 (.fresh 0 0 led)}).get? l=some {cls:=.type "tuple",dict:=odict,data:=.seq items nl,slots:=oslots}:=O8 _ hol;have hsls:=F.sub_tuple_set;have hslf:=F.sub_tuple_frozenset;have hne:(Value.type "tuple" == Value.type "dict")=false:=by decide
    have hl1:(s.heap.push {cls:=.type "set",dict:=none,data:=.set #[] 0 (.fresh 0 0 led)}).IsTuple l items:=⟨_,hol',rfl,nl,rfl⟩;unfold Builtin.«set.__init__» noKeywords Builtin.Frozenset.updateFrom;generalize hPI:pyIter=PI
    wp_walk
    subst hPI;refine Q2 hl1 ?_;refine OZ (R9 ?_);have hlS:l<s.heap.objs.size:=OA hol;have hh3:A.in1.in1.in1.handled=none:=by simp[hh]
    have hneI:l≠(s.heap.push {cls:=.type "set",dict:=none,data:=.set #[] 0 (.fresh 0 0 led)}).objs.size:=by
     rw[QI];exact OD (QH hlS)
    have hSf:s.heap.objs.size ∉ [(s.heap.push {cls:=.type "set",dict:=none,data:=.set #[] 0 (.fresh 0 0 led)}).objs.size,l]:=by
     rw[QI];dsimp[OM,QP,Q3,Q4,not_or];exact⟨OD (QG _),O4 hlS⟩
    have W:=(Walks.tuple (prog:=prog) (w:=w) hh3 (s.heap.push {cls:=.type "set",dict:=none,data:=.set #[] 0 (.fresh 0 0 led)}).objs.size l hneI items).toS;rw[show items.size=items.toList.length by rw[OW]]at W
    refine wC W 0e3 hSf (fun b hb=>?_) (fun i v hv=>by rw[Q5];exact hv) hJ (by dsimp[Around.in1];omega) (items.toList.length-0) 0 _ 0e1 (QO _)
     ⟨⟨_,Oy _ rfl,rfl,rfl⟩,?hL⟩ ?hS0 ?hR
    case hL=>
     obtain⟨o,ho,rest⟩:=hl1;exact⟨o,O8 _ ho,rest⟩
    case hS0=>
     refine h0 _ (fun b o e=>O8 _ (O8 _ e)) ?_;rw[hled];exact O8 _ hS
    case hR=>
     intro s' hm hS';obtain⟨h',g',d',tk',os'⟩:=s';have eg:g'=s.gens:=hm.gens;have ed:d'=s.drawn:=hm.drawn;have eo:os'=s.os:=hm.os;subst eg;subst ed;subst eo;show wpAny _ _ _ _ _ _;refine O5 ?_;show wpAny _ _ (ret Value.none) _ _ _;refine O5 ⟨rfl,h',tk',rfl,by rw[OW]at hS';exact hS',fun b o hb e=>?_⟩;have hb1:b≠s.heap.objs.size:=OD hb
     have hb2:b≠(s.heap.push {cls:=.type "set",dict:=none,data:=.set #[] 0 (.fresh 0 0 led)}).objs.size:=by
      rw[QI];exact OD (QH hb)
     exact hm.heap b o (by dsimp[OM,QP,Q3,Q4,not_or];exact⟨hb1,hb2⟩) (O8 _ (O8 _ e))
    ·rw[QI]at hb;rw[QP.mp hb];exact QG _
   ·cases r2 with
    |error e=>exact hr2
    |ok fl2=>
     cases fl2 with
     |ret r=>
      obtain⟨rfl,h',tk,rfl,hS',hk'⟩:=hr2
      repeat (any_goals (first|assumption|wp_step))
      exact h _ _ hS' hk'
     |_=>exact hr2.elim
  |_=>exact hr.elim
theorem qU{S:Addr}{u:Nat}(hk:∀p∈qs,p.1∈prs)(hS:∀p∈qs,p.2<S)(hu:u<cLine):BZ prog w u S (qs.map fun p=>Value.ref p.2) (fun i h=>bS w h S (fv (qs.take i))/\∀p∈qs,Tk prog w h p.1 p.2):=by
 have keepT:∀{h1 h2:Heap}{q:KP},q∈qs->(∀b o,b<S->h1.get? b=some o->h2.get? b=some o)->Tk prog w h1 q.1 q.2->Tk prog w h2 q.1 q.2:=fun {h1 h2 q} hq kk t=>by
  obtain⟨o,items,n,ho,r⟩:=t;exact⟨o,items,n,kk _ o (hS q hq) ho,r⟩
 refine⟨fun i h h' hk' ⟨j1,j2⟩=>⟨j1.keeps fun o e=>hk' S o (O9 _) e,fun p hp=>keepT hp (fun b o hb e=>hk' b o (OH hb) e) (j2 p hp)⟩,fun A i v s E Q hA hv ⟨j1,j2⟩ hQ=>?_⟩;rw[Px]at hv;cases e:qs[i]? with
 |none=>rw[e]at hv;cases hv
 |some p=>
  rw[e]at hv;cases hv;have hpm:p∈qs:=Pz e;unfold setAdd;refine O0 ?_;refine OZ (wpAny_pyHash_tuple 0e1 (j2 p hpm) ?_);rw[CQ];refine Cm (s:={s with toks:=s.toks+(p.1.length+1)}) j1 (hk p hpm) (j2 p hpm) (fun q hq=>j2 q (RA (mi hq))) 0e1 fun b h' hsb hS2=>?_;have etk:qs.take (i+1)=qs.take i++[p]:=by rw[Sa,e];rfl
  refine hQ b h' _ (Nat.le_add_right _ _) hsb ⟨by rw[etk,xB];exact hS2,fun q hq=>keepT hq (fun b o hb e=>(hsb.2 b (OD hb)).trans e) (j2 q hq)⟩
theorem CL(hT:∀p∈qs,Tk prog w 1e5 p.1 p.2):∀p∈qs,p.2<s.heap.objs.size:=fun p hp=>by
 obtain⟨o,_,_,ho,_⟩:=hT p hp;exact OA ho
theorem xg{items:Array Value}(hh:A.handled=none)(hl:s.heap.IsList l items)(hi:items.toList=qs.map fun p=>Value.ref p.2)(hk:∀p∈qs,p.1∈prs)(hT:∀p∈qs,Tk prog w 1e5 p.1 p.2)(hu:A.units+20<cLine)(h:∀(h':Heap)(tk:Nat),bS w h' 0e3 (fv qs)->(∀b o,b<s.heap.objs.size->s.heap.get? b=some o->h'.get? b=some o)->Q (.ref 0e3) {s with heap:=h',toks:=tk}):
  wpAny 0e6 A (call (.type "set") [.ref l]) Q E s:=by
 have hlen:items.size=qs.length:=by rw[<- OW,hi,PD]
 refine nc hh hl (hi ▸ qU hk (CL hT) hu) (fun h' k e=>⟨kz e,fun p hp=>?_⟩) fun h' tk ⟨j1,_⟩=>h h' tk ?_
 ·obtain⟨o,its,n,ho,rest⟩:=hT p hp;exact⟨o,its,n,k _ _ ho,rest⟩
 ·rw[hlen,Sb]at j1;exact j1
theorem uP{items:Array Value}(hh:A.handled=none)(hl:s.heap.IsTuple l items)(hi:items.toList=qs.map fun p=>Value.ref p.2)(hk:∀p∈qs,p.1∈prs)(hT:∀p∈qs,Tk prog w 1e5 p.1 p.2)(hu:A.units+20<cLine)(h:∀(h':Heap)(tk:Nat),bS w h' 0e3 (fv qs)->(∀b o,b<s.heap.objs.size->s.heap.get? b=some o->h'.get? b=some o)->Q (.ref 0e3) {s with heap:=h',toks:=tk}):
  wpAny 0e6 A (call (.type "set") [.ref l]) Q E s:=by
 have hlen:items.size=qs.length:=by rw[<- OW,hi,PD]
 refine lN hh hl (hi ▸ qU hk (CL hT) hu) (fun h' k e=>⟨kz e,fun p hp=>?_⟩) fun h' tk ⟨j1,_⟩=>h h' tk ?_
 ·obtain⟨o,its,n,ho,rest⟩:=hT p hp;exact⟨o,its,n,k _ _ ho,rest⟩
 ·rw[hlen,Sb]at j1;exact j1
end
end RS
namespace RS
open PySem PySem.W PyProof.Rows
structure eO(n:Nat)(p:Array Nat):Prop where
 size:p.size=n
 perm:p.toList.Perm (List.range n)
def at'(key:Nat->Int)(p:Array Nat)(k:Nat):Int:=key (p.getD k 0)
def EG(key:Nat->Int)(p:Array Nat)(m:Nat):Prop:=∀i j,i<j->j<m->at' key p i<at' key p j
def EZ(key:Nat->Int)(p:Array Nat)(m:Nat):Prop:=∀i j,i<j->j<m->at' key p j<at' key p i
section
variable{key:Nat->Int}{cmp:Nat->Nat->(Bool->Shared->Prop)->Shared->Prop}{p:Array Nat}
theorem eO.lt(g:eO n p)(hk:k<n):p.getD k 0<n:=by
 have hs:k<p.size:=by rw[g.size];exact hk
 have:p[k]∈p.toList:=by rw[Ph];exact Array.getElem_mem hs
 have:=g.perm.mem_iff.mp this;rw[OF]at this;simpa[Array.getD,hs] using this
theorem eO.inj(g:eO n p){k':Nat}(hk:k<n)(hk':k'<n)(e:p.getD k 0=p.getD k' 0):k=k':=by
 have hs:k<p.toList.length:=by rw[OW,g.size];exact hk
 have hs':k'<p.toList.length:=by rw[OW,g.size];exact hk'
 have nd:p.toList.Nodup:=g.perm.nodup_iff.mpr Rm;refine(OR (h₀:=hs) (h₁:=hs') nd).mp ?_;have h1:k<p.size:=by rw[g.size];exact hk
 have h2:k'<p.size:=by rw[g.size];exact hk'
 simpa[Array.getD,h1,h2] using e
variable(hkey:∀i j,i<n->j<n->key i=key j->i=j)(hc:∀i j,i<n->j<n->∀C:Bool->Shared->Prop,C (decide (key i<key j)) s->cmp i j C s)
include hkey in
theorem Ci(g:eO n p){k':Nat}(hk:k<n)(hk':k'<n)(h:k≠k'):at' key p k≠at' key p k':=fun e=>h (g.inj hk hk' (hkey _ _ (g.lt hk) (g.lt hk') e))
include hkey hc
theorem ya(g:eO n p):∀(f m:Nat)(Q:Nat->Shared->Prop),1<=m->m+f<=n->EG key p m->(∀m',m<=m'->m'<=m+f->EG key p m'->(m'=m+f\/at' key p m'<at' key p (m'-1))->Q m' s)->(kas_asc p f m).kasWp cmp Q s
 |0,m,Q,h1,h2,ha,hQ=>hQ m (O9 _) (O9 _) ha (.inl rfl)
 |f+1,m,Q,h1,h2,ha,hQ=>by
  show cmp (p.getD m 0) (p.getD (m-1) 0) _ s;refine hc _ _ (g.lt 0e1) (g.lt 0e1) _ ?_;by_cases hlt:key (p.getD m 0)<key (p.getD (m-1) 0)
  ·rw[QA hlt];(show (if true=true then _ else _:KasT _).kasWp cmp _ s);rw[Ow rfl];exact hQ m (O9 _) 0e1 ha (.inr hlt)
  ·rw [Ot hlt]; (show (if false = true then _ else _ : KasT _).kasWp cmp _ s); rw [Ox O3];have hne:=Ci hkey g (k:=m) (k':=m-1) 0e1 0e1 0e1;have hgt:at' key p (m-1)<at' key p m:=by unfold at' at *;omega
   refine ya g f (m+1) Q 0e1 0e1 (fun i j hij hj=>?_) (fun m' a b c d=>hQ m' 0e1 0e1 c (d.elim (fun e=>.inl 0e1) .inr));by_cases ej:j=m
   ·subst ej;by_cases ei:i=j-1
    ·rw[ei];exact hgt
    ·have:=ha i (j-1) 0e1 0e1;omega
   ·exact ha i j hij 0e1
theorem zY(g:eO n p):∀(f m:Nat)(Q:Array Nat×Nat×Nat->Shared->Prop),1<=m->m+f<=n->EZ key p m->(∀m',m<=m'->m'<=m+f->EZ key p m'->Q (p,m',0) s)->(kas_desc f p m 0).kasWp cmp Q s
 |0,m,Q,h1,h2,ha,hQ=>hQ m (O9 _) (O9 _) ha
 |f+1,m,Q,h1,h2,ha,hQ=>by
  show cmp (p.getD m 0) (p.getD (m-1) 0) _ s;refine hc _ _ (g.lt 0e1) (g.lt 0e1) _ ?_;by_cases hlt:key (p.getD m 0)<key (p.getD (m-1) 0)
  ·rw [QA hlt]; (show (if true = true then _ else _ : KasT _).kasWp cmp _ s); rw [Ow rfl, Ox 0e1];refine zY g f (m+1) Q 0e1 0e1 (fun i j hij hj=>?_) (fun m' a b c=>hQ m' 0e1 0e1 c);by_cases ej:j=m
   ·subst ej;by_cases ei:i=j-1
    ·rw[ei];exact hlt
    ·have:=ha i (j-1) 0e1 0e1;have:at' key p j<at' key p (j-1):=hlt;omega
   ·exact ha i j hij 0e1
  ·rw [Ot hlt]; (show (if false = true then _ else _ : KasT _).kasWp cmp _ s); rw [Ox O3];show cmp (p.getD (m-1) 0) (p.getD m 0) _ s;refine hc _ _ (g.lt 0e1) (g.lt 0e1) _ ?_;have hne:=Ci hkey g (k:=m) (k':=m-1) 0e1 0e1 0e1;have hgt:key (p.getD (m-1) 0)<key (p.getD m 0):=by unfold at' at hne;omega
   rw[QA hgt];(show (if true=true then _ else _:KasT _).kasWp cmp _ s);rw[Ow rfl];exact hQ m (O9 _) 0e1 ha
omit hkey hc in
theorem qt{p p':Array Nat}{k':Nat}(h:p[k]?=p'[k']?):at' key p k=at' key p' k':=by
 unfold at';rw[Rx,Rx,h]
omit hkey hc in
theorem tj{p':Array Nat}(g:eO n p)(h:p'.Perm p)(hs:p'.size=p.size):eO n p':=⟨hs.trans g.size,(Array.perm_iff_toList_perm.mp h).trans g.perm⟩
omit hkey hc in
theorem FS(g:eO n p)(hm:m<=n)(hd:EZ key p m):eO n (kas_rev p 0 m)/\EG key (kas_rev p 0 m) m:=by
 have hs:m<=p.size:=by rw[g.size];exact hm
 refine⟨tj g (mirror_perm _ _ _ _) (mirror_size _ _ _ _),fun i j hij hj=>?_⟩;have ei:at' key (kas_rev p 0 m) i=at' key p (0+m-1-i):=qt (by unfold kas_rev;rw[getElem?_mirror_all hs,Ow ⟨QO _,by omega⟩]);have ej:at' key (kas_rev p 0 m) j=at' key p (0+m-1-j):=qt (by unfold kas_rev;rw[getElem?_mirror_all hs,Ow ⟨QO _,by omega⟩]);rw[ei,ej];exact hd _ _ 0e1 0e1
theorem Dc(g:eO n p)(h1:1<=m)(hm:m<=n)(hd:EZ key p m)(Q:Nat×Array Nat->Shared->Prop)(hQ:∀m' p',eO n p'->1<=m'->m'<=n->EG key p' m'->Q (m',p') s):(kas_tail3 m n p).kasWp cmp Q s:=by
 obtain⟨g',ha⟩:=FS (key:=key) g hm hd;unfold kas_tail3;rw[Sd];exact ya hkey hc g' (n-m) m _ h1 0e1 ha fun m' a b c d=>hQ m' _ g' 0e1 0e1 c
theorem En(g:eO n p)(h2:2<=n)(Q:Nat×Array Nat->Shared->Prop)(hQ:∀m' p',eO n p'->1<=m'->m'<=n->EG key p' m'->Q (m',p') s):(kas_count n p).kasWp cmp Q s:=by
 unfold kas_count;rw[Sd];refine ya hkey hc g (n-1) 1 _ (O9 _) 0e1 (fun i j hij hj=>by omega) fun m a b c d=>?_;by_cases e:m=n
 ·rw[Ow (by simpa using e)];exact hQ m p g a 0e1 c
 ·rw [Ox (by simpa using e)];by_cases h1:m>1
  ·rw[Ow h1];show cmp (p.getD 0 0) (p.getD (m-1) 0) _ s;refine hc _ _ (g.lt 0e1) (g.lt 0e1) _ ?_;have:at' key p 0<at' key p (m-1):=c 0 (m-1) 0e1 0e1;rw[QA (show key (p.getD 0 0)<key (p.getD (m-1) 0) from this)];(show (if true=true then _ else _:KasT _).kasWp cmp _ s);rw[Ow rfl];exact hQ m p g a 0e1 c
  ·rw [Ox h1];have em:m=1:=by omega
   subst em;unfold kas_descPart;rw[Sd];have hlt:at' key p 1<at' key p 0:=d.elim (fun e'=>by omega) id;refine zY hkey hc g (n-(1+1)) (1+1) _ 0e1 0e1 (fun i j hij hj=>?_) fun m' a' b' c'=>?_
   ·have ei : i = 0 := by omega
    have ej:j=1:=by omega
    rw[ei,ej];exact hlt
   ·show (if (0:Nat)>0 then _ else _:KasT (Nat×Array Nat)).kasWp cmp Q s;rw[Ox 0e1];exact Dc hkey hc g 0e1 0e1 c' Q hQ
theorem qw(g:eO n p){k:Nat}(hk:k<n)(ha:EG key p k):∀(f l r:Nat)(Q:Nat->Shared->Prop),l<=r->r<=k->r-l<=f->(∀i,i<l->at' key p i<at' key p k)->(∀i,r<=i->i<k->at' key p k<at' key p i) ->
  (∀l',l'<=k->(∀i,i<l'->at' key p i<at' key p k)->(∀i,l'<=i->i<k->at' key p k<at' key p i)->Q l' s)->(kas_place p k f l r).kasWp cmp Q s
 |0,l,r,Q,h1,h2,h3,ha1,hb1,hQ=>by
  have e:l=r:=by omega
  subst e;exact hQ l h2 ha1 hb1
 |f+1,l,r,Q,h1,h2,h3,ha1,hb1,hQ=>by
  unfold kas_place;by_cases e:l ≥ r
  ·rw [Ow e];have e':l=r:=by omega
   subst e';exact hQ l h2 ha1 hb1
  ·rw [Ox e];show cmp (p.getD k 0) (p.getD ((l+r) / 2) 0) _ s;refine hc _ _ (g.lt hk) (g.lt 0e1) _ ?_;by_cases hlt:key (p.getD k 0)<key (p.getD ((l+r) / 2) 0)
   ·rw [QA hlt]; (show (if true = true then _ else _ : KasT _).kasWp cmp _ s); rw [Ow rfl];refine qw g hk ha f l ((l+r) / 2) Q 0e1 0e1 0e1 ha1 (fun i hi hik=>?_) hQ;by_cases ei:i=(l+r) / 2
    ·rw[ei];exact hlt
    ·have:=ha ((l+r) / 2) i 0e1 hik;have:at' key p k<at' key p ((l+r) / 2):=hlt;omega
   ·rw [Ot hlt]; (show (if false = true then _ else _ : KasT _).kasWp cmp _ s); rw [Ox O3];have hne:=Ci hkey g (k:=k) (k':=(l+r) / 2) hk 0e1 0e1;have hgt:at' key p ((l+r) / 2)<at' key p k:=by unfold at' at *;omega
    refine qw g hk ha f ((l+r) / 2+1) r Q 0e1 h2 0e1 (fun i hi=>?_) hb1 hQ;by_cases ei:i=(l+r) / 2
    ·rw[ei];exact hgt
    ·have:=ha i ((l+r) / 2) 0e1 0e1;omega
theorem C7:∀(f:Nat)(p:Array Nat)(k:Nat)(Q:Array Nat->Shared->Prop),eO n p->k+f=n->EG key p k->(∀p',eO n p'->EG key p' n->Q p' s)->(kas_bin f p k).kasWp cmp Q s
 |0,p,k,Q,g,hk,ha,hQ=>by
  have e:k=n:=by omega
  rw[e]at ha;exact hQ p g ha
 |f+1,p,k,Q,g,hk,ha,hQ=>by
  unfold kas_bin;rw[Sd];refine qw hkey hc g 0e1 ha k 0 k _ (QO _) (O9 _) 0e1 (fun i hi=>by omega) (fun i h1 h2=>by omega) fun l hl ha1 hb1=>?_;have hs:k<p.size:=by rw[g.size];omega
  refine C7 f _ (k+1) Q (tj g (bubble_perm _ _ _) (bubble_size _ _ _)) 0e1 (fun i j hij hj=>?_) hQ
  have hb:∀x,at' key (bubble p k (k-l)) x=if x=l then at' key p k else if l<x/\x<=k then at' key p (x-1) else at' key p x:=fun x=>by
   have e:=getElem?_bubble hs (k-l) 0e1 x;have el:k-(k-l)=l:=by omega
   rw[el]at e;by_cases e1:x=l
   ·rw[Ow e1]at e⊢;exact qt e
   ·rw [Ox e1] at e ⊢;by_cases e2:l<x/\x<=k
    ·rw[Ow e2]at e⊢;exact qt e
    ·rw[Ox e2]at e⊢;exact qt e
  rw[hb i,hb j];by_cases i1:i=l
  ·rw[Ow i1,Ox 0e1,Ow ⟨by omega,by omega⟩];exact hb1 (j-1) 0e1 0e1
  ·rw [Ox i1];by_cases i2:l<i/\i<=k
   ·rw[Ow i2,Ox 0e1,Ow ⟨by omega,by omega⟩];exact ha (i-1) (j-1) 0e1 0e1
   ·rw [Ox i2];have hi:i<l:=by omega
    by_cases j1:j=l
    ·rw[Ow j1];exact ha1 i hi
    ·rw [Ox j1];by_cases j2:l<j/\j<=k
     ·rw [Ow j2];by_cases ej:i=j-1
      ·omega
      ·exact ha i (j-1) 0e1 0e1
     ·rw[Ox j2];exact ha i j hij 0e1
theorem Fz(h2:2<=n)(Q:Array Nat->Shared->Prop)(hQ:∀p',eO n p'->EG key p' n->Q p' s):(kas_sort n).kasWp cmp Q s:=by
 unfold kas_sort;rw[Sd];have g0:eO n (List.toArray (List.range n)):=⟨by simp,by simp⟩;refine En hkey hc g0 h2 _ fun m p' g h1 hm ha=>?_;show (if m<n then _ else _:KasT (Array Nat)).kasWp cmp Q s;by_cases e:m<n
 ·rw [Ow e];have em:max m 1=m:=by omega
  rw[em];exact C7 hkey hc (n-m) p' m Q g 0e1 ha hQ
 ·rw [Ox e];have em:m=n:=by omega
  rw[em]at ha;exact hQ p' g ha
end
def pT(k:List Int):Int:=k.getD 0 0*6+k.getD 1 0
theorem iw{k:List Int}(h:k∈prs):∃a b:Int,k=[a,b]/\0<=a/\a<b/\b<6:=by
 have key:∀k∈prs,0<=k.getD 0 0/\k.getD 0 0<k.getD 1 0/\k.getD 1 0<6/\k=[k.getD 0 0,k.getD 1 0]:=by decide +kernel
 obtain⟨h1,h2,h3,h4⟩:=key k h;exact⟨_,_,h4,h1,h2,h3⟩
theorem G5{k k':List Int}(h:k∈prs)(h':k'∈prs)(e:pT k=pT k'):k=k':=by
 obtain⟨a,b,rfl,h1,h2,h3⟩:=iw h;obtain⟨c,d,rfl,h4,h5,h6⟩:=iw h';have e':a*6+b=c*6+d:=e;have:a=c:=by omega
 have:b=d:=by omega
 subst_vars;rfl
section
theorem xW {h:Heap}{a b:Int}{r:Addr} (t:Tk prog w h [a,b] r):∃o n t1 t2,h.get? r=some o/\o.cls=.type "tuple" /\ o.data=.seq #[.int a t1,.int b t2] n:=by
 obtain⟨o,items,n,ho,hc,hd,hi⟩:=t;cases hi':items.toList with
 |nil=>rw[hi']at hi;cases hi
 |cons v1 r1=>
  rw[hi']at hi;cases hi with
  |cons h1 t1=>
   cases t1 with
   |cons h2 t2=>
    cases t2;obtain⟨x1,e1⟩:=Os (k:=a) h1;obtain⟨x2,e2⟩:=Os (k:=b) h2
    have e:items=#[.int a x1,.int b x2]:=by
     apply Array.toList_inj.mp;rw[hi',e1,e2]
    exact⟨o,n,x1,x2,ho,hc,by rw[hd,e]⟩
theorem Gi{x y:Addr}{k k':List Int}{Q:Bool->Shared->Prop}(hx:Tk prog w 1e5 k x)(hy:Tk prog w 1e5 k' y)(hk:k∈prs)(hk':k'∈prs)(h:Q (decide (pT k<pT k')) s) :
  wpAny 0e6 A (keyLt' (tuples' true) (.ref x) (.ref y)) Q E s:=by
 obtain⟨a,b,rfl,h1,h2,h3⟩:=iw hk;obtain⟨c,d,rfl,h4,h5,h6⟩:=iw hk';obtain⟨o,n,t1,t2,ho,_,hd⟩:=xW hx;obtain⟨o',n',t1',t2',ho',_,hd'⟩:=xW hy;have h':Q (decide (a*6+b<c*6+d)) s:=h;refine kat_lt ho hd ho' hd' ?_;show KatLex prog w A true (decide (2<2)) Q [(.int a t1,.int c t1'),(.int b t2,.int d t2')] 0 s;refine kat_cons (Ov ?_);by_cases e1:a=c
 ·rw [show (a == c) = true by simpa using e1];refine kat_yes (kat_cons (Ov ?_));by_cases e2:b=d
  ·rw [show (b == d) = true by simpa using e2];refine kat_yes (kat_nil ?_);have:decide (a*6+b<c*6+d)=decide (2<2):=by rw[Se];omega
   rw[<- this];exact h'
  ·rw [show (b == d) = false by simpa using e2];refine kat_no ?_;show wpAny _ A (oneLt' false _ _) Q _ s;refine kat_one _ _ (lt_int ?_);have:decide (a*6+b<c*6+d)=decide (b<d):=by rw[Se];omega
   show Q _ s;rw[<- this];exact h'
 ·rw [show (a == c) = false by simpa using e1];refine kat_no ?_;show wpAny _ A (keyLt' oneType' _ _) Q _ s;refine kat_lt_int ?_;have:decide (a*6+b<c*6+d)=decide (a<c):=by rw[Se];omega
  rw[<- this];exact h'
end
def iI(ps:List KP):Prop:=ps.Pairwise fun p q=>pT p.1<pT q.1
def aY(ps:List KP):List Value:=ps.map fun p=>Value.ref p.2
section
theorem zo{h:Heap}:∀{ps:List KP},(∀p∈ps,p.1∈prs)->(∀p∈ps,Tk prog w h p.1 p.2)->∃fs,KatTups h (aY ps) fs/\fs.length=ps.length/\∀v∈fs,∃i t,v=Value.int i t
 |[],_,_=>⟨[],KatTups.nil,rfl,fun v hv=>by simp at hv⟩
 |p::ps,hk,ht=>by
  obtain⟨fs,h1,h2,h3⟩:=zo (ps:=ps) (fun q hq=>hk q (OK _ hq)) (fun q hq=>ht q (OK _ hq));obtain⟨a,b,e,_⟩:=iw (hk p OJ);have t:=ht p OJ;rw[e]at t;obtain⟨o,n,t1,t2,ho,hc,hd⟩:=xW t;refine⟨.int a t1::fs,KatTups.cons ho hc hd rfl h1,by rw[QF,QF,h2],fun v hv=>?_⟩;rcases OM.mp hv with q|q
  ·exact⟨a,t1,q⟩
  ·exact h3 v q
theorem JE{ps:List KP}(hk:∀p∈ps,p.1∈prs)(hn:(ps.map 2e4).Nodup){p:Array Nat}(g:eO ps.length p)(ha:EG (fun i=>pT (ps.getD i ([],0)).1) p ps.length) :
  ∃out:List KP,(p.toList.map fun i=>(aY ps).getD i Value.none)=aY out/\out.Perm ps/\iI out:=by
 refine⟨p.toList.map fun i=>ps.getD i ([],0),?_,?_,?_⟩
 ·unfold aY;rw[Q9];refine Ra fun i hi=>?_;have hi':i<ps.length:=OF.mp (g.perm.mem_iff.mp hi);simp[Sf,hi']
 ·refine (g.perm.map _).trans ?_
  have:(List.range ps.length).map (fun i=>ps.getD i ([],0))=ps:=by
   apply Sg;intro i;rw[Px];by_cases hi:i<ps.length
   ·rw[Sh hi];simp[hi]
   ·rw[Si (by simpa using hi),Si 0e1];rfl
  rw[this]
 ·unfold iI;rw[Sj];refine Rg.mpr fun i j hi hj hij=>?_;have hi':i<p.size:=by simpa using hi
  have hj':j<p.size:=by simpa using hj
  have:=ha i j hij (by rw[<- g.size];exact hj');unfold at' at this;simpa[Array.getD,hi',hj'] using this
theorem yn{ps:List KP}{P:PySem.Fin->Shared->Prop}(ho:s.heap.get? a=some (seqObj "list" (aY ps).toArray n))(hk:∀p∈ps,p.1∈prs)(hn:(ps.map 2e4).Nodup)(hT:∀p∈ps,Tk prog w 1e5 p.1 p.2)(h:∀out:List KP,out.Perm ps->iI out->P (.done (.ret .none)) {s with heap:=sortedHeap 1e5 a (aY ps) (aY out).toArray}):
  wpAny 0e6 A (Builtin.«list.sort» ⟨[.ref a],[]⟩) P E s:=by
 have hlen:=kZ hk hn;have hvl:(aY ps).length=ps.length:=by unfold aY;rw[PD]
 rw[list_sort_plain];have hal:a<s.heap.objs.size:=OA ho;refine OZ (listItems_at ho rfl ?_);refine OZ (Sk ho rfl ?_ (by rw[Pg,hvl];exact OG hlen 0e4) (QO _));obtain⟨e1,ho1⟩:∃e1,(s.heap.update a (Obj.mapSeq fun _=>#[])).get? a=some (seqObj "list" #[] e1):=⟨_,Sl ho (fun _=>#[])⟩;refine OZ (seqEpoch_at ho1 rfl ?_);refine OZ (wpAny_newTuple ?_);refine OZ (Sn ?_);refine O0 ?_
 have ho6:(((s.heap.update a (Obj.mapSeq fun _=>#[])).push (seqObj "tuple" (aY ps).toArray 0)).push 2e2).get? a=some (seqObj "list" #[] e1):=by
  rw[Q6 _ _ _ (by rw[So,Sr];exact OD (QH hal)),Q6 _ _ _ (by rw[Sr];exact OD hal)];exact ho1
 show wpAny 0e6 A _ P E {s with heap:=((s.heap.update a (Obj.mapSeq fun _=>#[])).push (seqObj "tuple" (aY ps).toArray 0)).push 2e2};dsimp only
 have hna:∀p∈ps,p.2≠a:=fun p hp e=>by
  obtain⟨o,items,m,ho',hc',_⟩:=hT p hp;rw[e,ho]at ho';have:=Oq ho';subst this;exact absurd (show Value.type "list" = Value.type "tuple" from hc') 0e4
 generalize hS:({s with heap:=((s.heap.update a (Obj.mapSeq fun _=>#[])).push (seqObj "tuple" (aY ps).toArray 0)).push 2e2}:Shared)=s1;have eh1:s1.heap=((s.heap.update a (Obj.mapSeq fun _=>#[])).push (seqObj "tuple" (aY ps).toArray 0)).push 2e2:=by rw[<- hS]
 have hT1:∀p∈ps,Tk prog w s1.heap p.1 p.2:=fun p hp=>by
  obtain⟨o,items,m,ho',rest⟩:=hT p hp;refine⟨o,items,m,?_,rest⟩;rw[eh1];refine O8 _ (O8 _ ?_);rw[Ss _ _ _ _ (hna p hp)];exact ho'
 rw[<- eh1]at ho6
 have hfin:∀out:List KP,out.Perm ps->iI out->P (.done (.ret .none)) {s1 with heap:=s1.heap.update a (Obj.mapSeq fun _=>(aY out).toArray)}:=fun out h1 h2=>by
  have q:=h out h1 h2;rw[<- hS];exact q
 have hszv:(aY ps).toArray.size=ps.length:=by rw[Pg,hvl]
 by_cases h2:(aY ps).toArray.size<2
 ·rw [Ow h2, Ow h2];refine OZ (O5 ?_);rw[StateT.run_pure];refine OZ (O5 ?_);dsimp only;refine OZ (seqEpoch_at ho6 rfl ?_)
  have eo:(arrOf (SortSt.mk' general' ((aY ps).toArray.zip (aY ps).toArray) #[] 7 none)).map (·.2)=(aY ps).toArray:=by
   show (((aY ps).toArray.zip (aY ps).toArray)).map (·.2)=_;apply Array.toList_inj.mp;rw[Array.toList_map,Array.toList_zip];exact List.map_snd_zip (O9 _)
  rw[eo];refine OZ (Sk ho6 rfl ?_ (QO _) (by show (aY ps).toArray.size<=_;rw[hszv];exact OG hlen 0e4));dsimp[Su,QE,PR];refine O5 (hfin ps (List.Perm.refl _) ?_);rw[hszv]at h2
  match ps,h2 with
  |[],_=>exact List.Pairwise.nil
  |[_],_=>exact List.pairwise_singleton _ _
  |_::_::_,h=>rw[QF,QF]at h;omega
 ·rw [Ox h2, Ox h2];rw[hszv]at h2;obtain⟨fs,k1,k2,k3⟩:=zo hk hT1;refine OZ (kat_kind (T:=Value.type "int") k1 0e1 (fun v hv=>?_) (by rfl) ?_)
  ·obtain⟨i,t,e⟩:=k3 v hv;rw[e];exact .now
  ·have et : (Value.type "int" != Value.type "tuple") = true := by decide
   rw[et]
   refine OZ (OU (kat_run (ks:=aY ps) (vs:=aY ps) (Q:=fun st' s'=>s'=s1/\failedOf st'=none/\∃out:List KP,out.Perm ps/\iI out/\(arrOf st').map (·.2)=(aY out).toArray)
    (G:=fun p s'=>s'=s1/\∃out:List KP,(p.toList.map fun i=>(aY ps).getD i Value.none)=aY out/\out.Perm ps/\iI out) rfl (by rw[hvl];omega) (by rw[hvl];omega) ?_ ?_) ?_ fun _ _ e=>e)
   ·rintro p st' s' hp har hf ⟨e, out, o1, o2, o3⟩
    exact⟨e,hf,out,o2,o3,by rw[kat_snds rfl har,o1]⟩
   ·rw [hvl];refine Fz (key:=fun i=>pT (ps.getD i ([],0)).1) (fun i j hi hj e=>?_) (fun i j hi hj C hC=>?_) 0e1 _ (fun p g ha=>⟨rfl,JE hk hn g ha⟩)
    ·have hi' : ps.getD i ([], 0) = ps[i] := by simp [Sf, hi]
     have hj':ps.getD j ([],0)=ps[j]:=by simp[Sf,hj]
     dsimp[hi',hj']at e;have e2:=G5 (hk _ (Sv hi)) (hk _ (Sv hj)) e;have hil:i<(ps.map 2e4).length:=by rw[PD];exact hi
     have hjl:j<(ps.map 2e4).length:=by rw[PD];exact hj
     exact(OR (h₀:=hil) (h₁:=hjl) hn).mp (by simpa using e2)
    ·unfold kas_ask;have gi:(aY ps).getD i Value.none=.ref ps[i].2:=by unfold aY;simp[Sf,hi]
     have gj:(aY ps).getD j Value.none=.ref ps[j].2:=by unfold aY;simp[Sf,hj]
     have hi':ps.getD i ([],0)=ps[i]:=by simp[Sf,hi]
     have hj':ps.getD j ([],0)=ps[j]:=by simp[Sf,hj]
     rw[gi,gj];dsimp[hi',hj']at hC;exact Gi (hT1 _ (Sv hi)) (hT1 _ (Sv hj)) (hk _ (Sv hi)) (hk _ (Sv hj)) hC
   ·rintro ⟨⟨⟩, st'⟩ s' ⟨rfl, hf, out, o1, o2, o3⟩
    dsimp only;refine OZ (seqEpoch_at ho6 rfl ?_);rw[o3];refine OZ (Sk ho6 rfl ?_ (QO _) (by show (aY out).toArray.size<=_;rw[Pg];unfold aY;rw[PD,o1.length_eq];exact OG hlen 0e4));rw[hf];dsimp[Su,QE,PR];exact O5 (hfin out o1 o2)
end
namespace Fx
theorem slot_setiter_next:Slot "set_iterator" "__next__" "set_iterator.__next__" :=
 .of (owner:="set_iterator") (n:="__next__") (by rw[typeLookup_type,builtinLookup_eq_fast];kernel_rfl) 0e8 0e8 0e8
  (by first|exact .inl 0e8|exact .inr 0e8) (by rw[RZ];kernel_rfl)
theorem entry_setiter_next:entryFor table "set_iterator.__next__" = some Builtin.«set_iterator.__next__»:=entryFor_of_fast 0e2
theorem args_setiter_next (a:Value):argsOk "set_iterator.__next__" ⟨[a],[]⟩:=by unfold argsOk;kernel_rfl
theorem entry_set_iter:entryFor table "set.__iter__" = some Builtin.«frozenset.__iter__»:=
 entryFor_alias (id':="frozenset.__iter__") 0e2 rfl 0e8 0e2
end Fx
def dD (h:Heap) (I S:Addr) (i n ep slot:Nat):Prop:=h.get? I=some {cls:=.type "set_iterator",dict:=none,data:=.fields #[.int (slot:Int) 0,.int (i:Int) 0,.ref S,.int (n:Int) 0,.int (ep:Int) 0],slots:=#[]}
def dH (w:World) (S:Addr) (ep:Nat) (es:Array (Int×Value)):List (Int×Value):=if w.params.followText "set-order" then (pickOrder (w.params.setOrder S ep) es).toList else es.toList
def dk (w:World) (α:List (Nat×Int×Value)) (i:Nat):Nat:=if w.params.followText "set-order" then 0 else if i=0 then 0 else (α.getD (i-1) (0,0,.none)).1+1
theorem sO{Z:Type}(next:Nat->Nat):∀(fuel k:Nat)(left:List Z)(out:Array Z),left.length=fuel->(pickOrder.go next fuel k left out).toList.Perm (out.toList++left)
 |0,k,left,out,h=>by
  have:left=[]:=List.length_eq_zero_iff.mp h;subst this;show out.toList.Perm (out.toList++[]);rw[Pi]
 |fuel+1,k,left,out,h=>by
  have hlt:next k%left.length<left.length:=Nat.mod_lt _ 0e1
  show (match left[next k%left.length]? with|some x=>_|none=>_:Array Z).toList.Perm _;rw[Sw hlt];show (pickOrder.go next fuel (k+1) (left.eraseIdx (next k%left.length)) (out.push left[next k%left.length])).toList.Perm _;refine(sO next fuel (k+1) _ _ (by rw[List.length_eraseIdx_of_lt hlt];omega)).trans ?_;rw[Array.toList_push,Qt];refine List.Perm.append_left _ ?_;rw[List.singleton_append,List.eraseIdx_eq_take_drop_succ]
  have q:(left.take (next k%left.length)++left[next k%left.length]::left.drop (next k%left.length+1))=left:=by
   rw[List.getElem_cons_drop];exact Rq _ _
  have q2:=(List.perm_middle (a:=left[next k%left.length]) (l₁:=left.take (next k%left.length)) (l₂:=left.drop (next k%left.length+1))).symm;rw[q]at q2;exact q2
theorem kq{S:Addr}{ep:Nat}:(dH w S ep es).Perm es.toList:=by
 unfold dH;split
 ·have:=sO (w.params.setOrder S ep) es.size 0 es.toList #[] 1e1;simpa[pickOrder] using this
 ·exact List.Perm.refl _
theorem Ew{t:SetTable}(T:sv t es α)(hb:w.params.followText "set-order" = false)(hi:i<=α.length):SetTable.below t.place (dk w α i)=i:=by
 have r:EF t.place.toList:=by rw[T.place];exact T.ris
 obtain⟨b1,b2,b3⟩:=mh r (dk w α i);have hsz:=T.size.1
 have gz:∀k,k<α.length->t.place.getD k (dk w α i)=(α.getD k (0,0,.none)).1:=fun k hk=>by
  have e:t.place[k]?=some (α[k]).1:=by rw[<- Q5,T.place,Px,Sw hk];rfl
  rw[Rx,e,Sf,Sw hk];rfl
 have hris:∀a b,a<b->b<α.length->(α.getD a (0,0,.none)).1<(α.getD b (0,0,.none)).1:=fun a b hab hbz=>by
  rw[<- gz a 0e1,<- gz b hbz];exact uo r _ a b hab 0e1
 have hs:dk w α i=if i=0 then 0 else (α.getD (i-1) (0,0,.none)).1+1:=by
  unfold dk;rw[hb,Ox O3]
 by_cases h0:i=0
 ·rw [Ow h0] at hs;rw[hs]at b2⊢;by_cases hz:SetTable.below t.place 0=0
  ·rw[hz,h0]
  ·have:=b2 0 0e1;omega
 ·rw [Ox h0] at hs
  have hlo:¬ SetTable.below t.place (dk w α i)<=i-1:=fun hle=>by
   have:=b3 (i-1) hle 0e1;rw[gz _ 0e1]at this;omega
  have hhi:¬ i<SetTable.below t.place (dk w α i):=fun hlt=>by
   have:=b2 i hlt;have hiz:i<α.length:=by omega
   rw[gz i hiz]at this;have:=hris (i-1) i 0e1 hiz;omega
  omega
section
theorem vX{o es ep t α}{Q:Option (Value×Nat)->Shared->Prop}(S:dS w 1e5 a ps o es ep t α)(hi:i<=α.length)(h:Q (((dH w a ep es)[i]?).map fun e=>(e.2,dk w α (i+1))) s):wpAny 0e6 A (setNext a (dk w α i) i ep) Q E s:=by
 unfold setNext;refine OZ (RM S.ho S.hd S.fits ?_);dsimp only;unfold setsByText;refine OZ (OZ (QM (O5 ?_)));cases hb:w.params.followText "set-order" with
 |true=>
  have e1:dH w a ep es=(pickOrder (w.params.setOrder a ep) es).toList:=by unfold dH;rw[hb,Ow rfl]
  have e2:∀j,dk w α j=0:=fun j=>by unfold dk;rw[hb,Ow rfl]
  rw[e1,e2]at h;show wpAny _ _ (if (w.params.followText "set-order")=true then _ else _) _ _ _;rw[hb,Ow rfl];rw[Ox 1e1];refine OZ ?_;unfold setWalk;refine OZ (RM S.ho S.hd S.fits ?_);dsimp only;unfold setsByText;refine OZ (OZ (QM (O5 ?_)));show wpAny _ _ (if (w.params.followText "set-order")=true then _ else _) _ _ _;rw[hb,Ow rfl];refine OZ (QM (O5 (O5 ?_)));rw[e2,<- Q5];exact h
 |false=>
  have e1:dH w a ep es=es.toList:=by unfold dH;rw[hb,Ox O3]
  have hled:t.led=true:=by rw[S.led,hb];rfl
  show wpAny _ _ (if (w.params.followText "set-order")=true then _ else _) _ _ _;rw[hb,Ox O3];have hdr:(!t.plain&&decide (es.size>1))=false:=by rw[S.plain];rfl
  show wpAny _ _ (if (!t.plain&&decide (es.size>1))=true then _ else _) _ _ _;rw[hdr,Ox O3];refine OZ ?_;show wpAny _ _ (if (!t.led && !es.isEmpty)=true then _ else _) _ _ _;rw[hled];dsimp[RK,O7,QE,PR];refine O5 (O5 ?_);rw[Ew S.tab hb hi];rw[e1,Q5]at h;by_cases hlt:i<α.length
  ·have ez : α[i]? = some α[i] := Sw hlt;have ee:=S.tab.hashAt ez;have ep':t.place[i]?=some (α[i]).1:=by rw[<- Q5,S.tab.place,Px,ez];rfl
   rw[ee,ep'];rw[ee]at h
   have es':dk w α (i+1)=(α[i]).1+1:=by
    unfold dk;rw[hb,Ox O3,Ox 0e1,Nat.add_sub_cancel,Sf,ez];rfl
   rw[es']at h;exact h
  ·have : es[i]? = none := by rw [RC, S.tab.size.2]; omega
   rw[this];rw[this]at h;exact h
end
section
theorem dD.typeIs{S:Addr}{ep slot:Nat}(h:dD 1e5 I S i n ep slot):s.TypeIs (.ref I) "set_iterator" := ⟨_,h,rfl⟩
theorem gy{o es ep t α}(S:dS w 1e5 a ps o es ep t α):s.TypeIs (.ref a) "set" := ⟨o,S.ho,S.ex.1⟩
theorem Dq{o es ep t α}(S:dS w 1e5 a ps o es ep t α)(hQ:Q (.ref 0e3) {s with heap:=s.heap.push {cls:=.type "set_iterator",data:=.fields #[.int ((0:Nat):Int) 0,.int ((0:Nat):Int) 0,.ref a,.int (α.length:Int) 0,.int (ep:Int) 0]}}):
  wpAny 0e6 A (pyIter (.ref a)) Q E s:=by
 refine wpAny_pyIter_slot (gy S) PySem.F.slot_set_iter (Qc PySem.F.slot_set_iter (gy S) Fx.entry_set_iter ?_ (PySem.F.args_set_iter_1 _));unfold Builtin.«frozenset.__iter__» Builtin.Frozenset.sizeOf;refine OZ (m:=Builtin.Frozenset.slot0 "__iter__" _) (Q0 (a:=a) rfl ?_);refine OZ (OZ (Sx S.ho S.hd S.fits (O5 ?_)));unfold setDrawn;refine OZ (OZ (RM S.ho S.hd S.fits ?_));dsimp only;unfold setsByText;refine OZ (OZ (QM (O5 (O5 ?_))));have hdr:(!w.params.followText "set-order" && (!t.plain&&decide (es.size>1)))=false:=by rw[S.plain];simp
 show wpAny _ _ (if (!w.params.followText "set-order" && (!t.plain&&decide (es.size>1)))=true then _ else _) _ _ _;rw[hdr,Ox O3];refine OZ (O5 ?_);refine OZ (wpAny_setEpoch_of S.ho S.hd S.fits ?_);refine OZ (Qh (O5 ⟨_,rfl, "set_iterator",_,⟨_,Oy _ rfl,rfl⟩,Fx.slot_setiter_next.lookup,?_⟩));rw[S.tab.size.2];exact hQ
theorem Dr{o es ep t α}{v:Int×Value}{Q:Option Value->Shared->Prop}(S:dS w 1e5 a ps o es ep t α)(hit:dD 1e5 I a i α.length ep (dk w α i))(hv:(dH w a ep es)[i]?=some v)(hQ:∀h',dD h' I a (i+1) α.length ep (dk w α (i+1))->Heap.SameBut I 1e5 h'->Q (some v.2) {s with heap:=h'}):wpAny 0e6 A (pyNext (.ref I)) Q E s:=by
 have hT:=hit.typeIs;have hoi:=hit;unfold dD at hoi
 have hil:i<α.length:=by
  have:=(OQ.mp hv).1;rw[kq.length_eq,OW,S.tab.size.2]at this;exact this
 unfold pyNext;refine OZ (wpAny_attempt (Qa (name:=Str.ofString "__next__") hT Fx.slot_setiter_next (Qc Fx.slot_setiter_next hT Fx.entry_setiter_next ?_ (Fx.args_setiter_next _))));unfold Builtin.«set_iterator.__next__»;refine OZ (m:=slotArgs "__next__" 0 _) (Q0 (a:=(.ref I,[])) rfl ?_);dsimp only;unfold fieldsOf;refine OZ (OZ (O6 hoi ?_));refine O5 ?_;refine OZ (Sx S.ho S.hd S.fits ?_);rw[S.tab.size.2];dsimp[Su,QE,PR,PN];refine OZ (vX S (OH hil) ?_);rw[hv];dsimp only[Option.map_some];refine OZ (Sy hoi 1e1 fun h1 e1 sb1=>?_);refine OZ (Sy (s:={s with heap:=h1}) e1 1e1 fun h2 e2 sb2=>?_);refine O5 ⟨v.2,rfl,O5 (hQ h2 ?_ (sb1.trans sb2))⟩;unfold dD;rw[e2];simp[rawInt]
theorem FJ{o es ep t α}{Q:Option Value->Shared->Prop}(hh:A.handled=none)(S:dS w 1e5 a ps o es ep t α)(hit:dD 1e5 I a α.length α.length ep (dk w α α.length))(hQ:∀h',Heap.ExtBut I 1e5 h'->Q none {s with heap:=h'}):wpAny 0e6 A (pyNext (.ref I)) Q E s:=by
 have hT:=hit.typeIs;have hoi:=hit;unfold dD at hoi
 have hv:(dH w a ep es)[α.length]?=none:=by
  rw[List.getElem?_eq_none_iff,kq.length_eq,OW,S.tab.size.2];exact O9 _
 unfold pyNext;refine OZ (wpAny_attempt (Qa (name:=Str.ofString "__next__") hT Fx.slot_setiter_next (Qc Fx.slot_setiter_next hT Fx.entry_setiter_next ?_ (Fx.args_setiter_next _))));unfold Builtin.«set_iterator.__next__»;refine OZ (m:=slotArgs "__next__" 0 _) (Q0 (a:=(.ref I,[])) rfl ?_);dsimp only;unfold fieldsOf;refine OZ (OZ (O6 hoi ?_));refine O5 ?_;refine OZ (Sx S.ho S.hd S.fits ?_);rw[S.tab.size.2];dsimp[Su,QE,PR,PN];refine OZ (vX S (O9 _) ?_);rw[hv];dsimp only[Option.map_none];refine OZ (Sy hoi 1e1 fun h1 e1 sb1=>?_);refine OZ ?_;dsimp[newExc,newTuple];refine OZ (Qh ?_ (by size_fits));refine OZ (m:=firstArgMember _ _) (Q0 (a:=Value.none) (by first|rfl|(dsimp[firstArgMember];rfl)) ?_);refine Qh ?_ (by size_fits);dsimp[raiseNew];refine OZ (wpAny_handled ?_);rw[show A.in1.handled=none from hh];refine OZ (O5 (wpAny_throw ?_));refine OZ (wpAny_isInstance (T:="StopIteration") (b:=true) ⟨_,Oy _ rfl,rfl⟩ isSubtype_stop ?_);exact O5 (hQ _ ((sb1.extBut.push _).push _))
end
namespace Fx
theorem entry_extend_loop:entryFor table "list.extend.loop" = some Builtin.«list.extend.loop»:=entryFor_of_fast 0e2
theorem plain_extend_loop:plainId "list.extend.loop" = true:=by decide +kernel
theorem split_set_len:splitId "set.__len__" = some ("set", "__len__"):=by decide +kernel
end Fx
section
theorem xp{o es ep t α}{Q:Bool->Shared->Prop}(S:dS w 1e5 a ps o es ep t α)(h:Q false s):wpAny 0e6 A (Builtin.List.listLengthHint (.ref a)) Q E s:=by
 unfold Builtin.List.listLengthHint;refine OZ (wpAny_specialOf (gy S) PySem.F.slot_set_len.lookup ?_);dsimp only;rw[Fx.split_set_len];dsimp only;refine OZ (wpAny_isInstance (gy S) sub_set_self ?_);dsimp[RK,QE,PR];rw[Ow (by rfl)];refine OZ (Qf (gy S) ?_);exact O5 h
theorem xq{R:Result->Shared->Prop}{ρ:Addr}{o es ep t α}(hh:A.handled=none)(hIa:I≠a)(hIL:I≠ρ)(hLa:ρ≠a)(hz:α.length<=100):
  ∀(k i n:Nat) (s:Shared),α.length-i=k->i<=α.length->dS w 1e5 a ps o es ep t α->dD 1e5 I a i α.length ep (dk w α i)->s.heap.get? ρ=some (seqObj "list" (((dH w a ep es).take i).map (·.2)).toArray n) ->
   (∀h' m,(∀b u,b≠I->b≠ρ->s.heap.get? b=some u->h'.get? b=some u)->h'.get? ρ=some (seqObj "list" ((dH w a ep es).map (·.2)).toArray m)->R (.ok (.ret (.ref ρ))) {s with heap:=h'}) ->
   codeAny 0e6 A (.builtin "list.extend.loop" ⟨[.ref ρ,.ref I,.ref ρ],[]⟩) R s:=by
 intro k
 induction k with
 |zero=>
  intro i n s ek hi S hit hL hR;have e:i=α.length:=by omega
  subst e;refine RU Fx.entry_extend_loop ?_;rw[RW Fx.plain_extend_loop _];show wpAny _ A.in1 (pyNext (.ref I) >>= _) _ _ s;refine OZ (FJ (by simpa using hh) S hit fun h' eb=>?_);show wpAny _ A.in1 (ret (.ref ρ)) _ _ _;refine O5 (hR h' n (fun b u hb _ q=>eb b u hb q) ?_);rw[Ri (by rw[kq.length_eq,OW,S.tab.size.2];exact O9 _)]at hL;exact eb ρ _ (ON hIL) hL
 |succ k ih=>
  intro i n s ek hi S hit hL hR;have hil:i<(dH w a ep es).length:=by rw[kq.length_eq,OW,S.tab.size.2];omega
  refine RU Fx.entry_extend_loop ?_;rw[RW Fx.plain_extend_loop _];show wpAny _ A.in1 (pyNext (.ref I) >>= _) _ _ s;refine OZ (Dr S hit (Sw hil) fun h' hit' sb=>?_);have hL':h'.get? ρ=some (seqObj "list" (((dH w a ep es).take i).map (·.2)).toArray n):=(sb.2 ρ (ON hIL)).trans hL
  have hsz:(((dH w a ep es).take i).map (·.2)).toArray.size<=100:=by
   rw[Pg,PD,Pr];omega
  show wpAny _ A.in1 (Builtin.List.listUpdate (.ref ρ) _ >>= _) _ _ _;refine OZ (Sk (s:={s with heap:=h'}) hL' rfl ?_ (OG hsz 0e4) (by rw[Array.size_push];exact OG (Nat.succ_le_succ hsz) 0e4));have hL2:=Sl hL' (·.push ((dH w a ep es)[i]).2)
  have eL:(((dH w a ep es).take i).map (·.2)).toArray.push ((dH w a ep es)[i]).2=(((dH w a ep es).take (i+1)).map (·.2)).toArray:=by
   have q:(dH w a ep es).take (i+1)=(dH w a ep es).take i++[(dH w a ep es)[i]]:=by rw[Sa,Sw hil];rfl
   rw[q,Ru,List.push_toArray];rfl
  rw[eL]at hL2;have hsb2:=QW h' ρ (Obj.mapSeq (·.push ((dH w a ep es)[i]).2));refine O5 ⟨RY Fx.plain_extend_loop _,ih (i+1) _ _ 0e1 0e1 ?_ ?_ hL2 fun h'' m kk hm=>?_⟩
  ·refine⟨?_,S.ex,S.hd,S.tab,S.plain,S.led,S.big,S.perm⟩;exact(hsb2.2 a (ON hLa)).trans ((sb.2 a (ON hIa)).trans S.ho)
  ·exact(hsb2.2 I hIL).trans hit'
  ·refine hR h'' m (fun b u hb1 hb2 q=>kk b u hb1 hb2 ?_) hm;exact(hsb2.2 b hb2).trans ((sb.2 b hb1).trans q)
theorem nk{Z:Type}{f:Z->β}{l m:List β}(h:l.Perm m):∀ps:List Z,m=ps.map f->∃qs:List Z,qs.Perm ps/\l=qs.map f:=by
 induction h with
 |nil=>
  intro ps e;have:ps=[]:=List.map_eq_nil_iff.mp e.symm;exact⟨[],by rw[this],rfl⟩
 |cons x _ ih=>
  intro ps e;cases ps with
  |nil=>cases e
  |cons p ps=>
   rw[Qj]at e;obtain⟨qs,h1,h2⟩:=ih ps (Re e).2;exact⟨p::qs,h1.cons p,by rw[Qj,<- h2,(Re e).1]⟩
 |swap x y l=>
  intro ps e
  match ps,e with
  |p::q::r,e=>
   rw[Qj,Qj]at e;obtain⟨e1,e2⟩:=Re e;obtain⟨e2,e3⟩:=Re e2;exact⟨q::p::r,List.Perm.swap _ _ _,by rw[Qj,Qj,e1,e2,e3]⟩
 |trans _ _ ih1 ih2=>
  intro ps e;obtain⟨qs,h1,h2⟩:=ih2 ps e;obtain⟨rs,h3,h4⟩:=ih1 qs h2;exact⟨rs,h3.trans h1,h4⟩
theorem oS{o es ep t α}{Q:List Value->Shared->Prop}(hh:A.handled=none)(S:dS w 1e5 a ps o es ep t α)(hz:α.length<=100)(h:∀qs:List (Int×Value),qs.Perm ps->∀h',(∀b u,s.heap.get? b=some u->h'.get? b=some u)->s.heap.objs.size<=h'.objs.size->Q (qs.map (·.2)) {s with heap:=h'}):wpAny 0e6 A (collect (.ref a)) Q E s:=by
 have hal:a<s.heap.objs.size:=OA S.ho;unfold collect;refine OZ (R9 (RU entry_proto_collect' ?_));show wpAny _ _ (do again (.builtin "list.__iadd__" ⟨[<- newList [],.ref a],[]⟩)) _ _ s;refine OZ (Sn (O5 ⟨R6 _ 0e8,RU entry_list_iadd' ?_⟩));show wpAny _ _ (Builtin.List.listExtendWith (.ref 0e3) (.ref a) (.ref 0e3)) _ _ {s with heap:=s.heap.push 2e2};have S1:dS w (s.heap.push 2e2) a ps o es ep t α:=⟨O8 _ S.ho,S.ex,S.hd,S.tab,S.plain,S.led,S.big,S.perm⟩;unfold Builtin.List.listExtendWith;refine OZ (Qf (gy (s:={s with heap:=s.heap.push 2e2}) S1) ?_)
 have hsame:Builtin.List.listSameRef (.ref 0e3) (.ref a)=false:=by
  show (s.heap.objs.size == a)=false;simpa using O4 hal
 rw[hsame,Ox 0e4];refine OZ (Dq (s:={s with heap:=s.heap.push 2e2}) S1 ?_);dsimp only;generalize hH:(s.heap.push 2e2).push {cls:=.type "set_iterator",data:=.fields #[.int ((0:Nat):Int) 0,.int ((0:Nat):Int) 0,.ref a,.int (α.length:Int) 0,.int (ep:Int) 0]}=H2;have eI:(s.heap.push 2e2).objs.size=s.heap.objs.size+1:=by rw[So]
 have hk2:∀b u,s.heap.get? b=some u->H2.get? b=some u:=fun b u q=>by rw[<- hH];exact O8 _ (O8 _ q)
 have S2:dS w H2 a ps o es ep t α:=⟨hk2 a o S.ho,S.ex,S.hd,S.tab,S.plain,S.led,S.big,S.perm⟩;have hL2:H2.get? 0e3=some 2e2:=by rw[<- hH];exact O8 _ (Oy _ rfl)
 have hI2:H2.get? (s.heap.objs.size+1)=some {cls:=.type "set_iterator",data:=.fields #[.int ((0:Nat):Int) 0,.int ((0:Nat):Int) 0,.ref a,.int (α.length:Int) 0,.int (ep:Int) 0]}:=by
  rw[<- hH,<- eI];exact Oy _ rfl
 rw[eI];refine OZ (O0 (xp (s:={s with heap:=H2}) S2 ?_));rw[Ow (by rfl)];refine OZ (QN ?_);refine OZ ?_;unfold Builtin.List.listTouch;refine OZ (Sk (s:={s with heap:=H2}) hL2 rfl ?_ (QO _) 0e4);have hL3:=Sl hL2 (·.push Value.none);refine Sk (s:={s with heap:=H2.update 0e3 (Obj.mapSeq (·.push Value.none))}) hL3 rfl ?_ 0e4 0e4;have hL4:=Sl hL3 (·.pop);have sb3:=QW H2 0e3 (Obj.mapSeq (·.push Value.none));have sb4:=(sb3.trans (QW (H2.update 0e3 (Obj.mapSeq (·.push Value.none))) 0e3 (Obj.mapSeq (·.pop))));generalize hH4:(H2.update 0e3 (Obj.mapSeq (·.push Value.none))).update 0e3 (Obj.mapSeq (·.pop))=H4 at hL4 sb4;have neL:a≠s.heap.objs.size:=OD hal;have neI:s.heap.objs.size+1≠s.heap.objs.size:=Nat.succ_ne_self _;refine O5 ⟨R6 _ 0e8,?_⟩
 refine xq (by simpa using hh) (O4 (QH hal)) neI (ON neL) hz (α.length-0) 0 _ {s with heap:=H4} (by omega) (QO _)
  ⟨(sb4.2 a neL).trans S2.ho,S.ex,S.hd,S.tab,S.plain,S.led,S.big,S.perm⟩ ?_ (by rw[List.take_zero];exact hL4) fun h' m kk hm=>?_
 ·unfold dD;have e0:dk w α 0=0:=by unfold dk;split <;> simp
  rw[e0];exact(sb4.2 _ neI).trans hI2
 ·dsimp only;refine OZ (O6 hm ?_);refine O5 ?_;have hp:(dH w a ep es).Perm ps:=kq.trans (by rw[S.tab.ents];exact S.perm)
  have fin:=h (dH w a ep es) hp h' fun b u q=>by
   have hb:b<s.heap.objs.size:=OA q;exact kk b u (OD (QH hb)) (OD hb) ((sb4.2 b (OD hb)).trans (hk2 b u q))
  exact fin (OH (OA hm))
theorem xr{ps:List KP}{Q:List Value->Shared->Prop}(hh:A.handled=none)(S:bS w 1e5 a ps)(h:∀qs:List KP,qs.Perm ps->∀h',(∀b u,s.heap.get? b=some u->h'.get? b=some u)->s.heap.objs.size<=h'.objs.size->Q (aY qs) {s with heap:=h'}):wpAny 0e6 A (collect (.ref a)) Q E s:=by
 obtain⟨o,es,ep,t,α,S,hk,hn⟩:=S;have h15:=kZ hk hn;refine oS hh S (by rw[S.len,PD];omega) fun qs hq h' k1 k2=>?_;obtain⟨rs,q1,q2⟩:=nk hq ps rfl;have q3:qs.map (·.2)=aY rs:=by rw[q2,Q9];rfl
 rw[q3];exact h rs q1 h' k1 k2
theorem AI{x:Value}{ps:List KP}(hk:∀p∈ps,p.1∈prs)(hn:(ps.map 2e4).Nodup)(hT:∀p∈ps,Tk prog w 1e5 p.1 p.2)(hcol:∀Q':List Value->Shared->Prop,(∀qs:List KP,qs.Perm ps->∀h',(∀b u,s.heap.get? b=some u->h'.get? b=some u)->s.heap.objs.size<=h'.objs.size->Q' (aY qs) {s with heap:=h'})->wpAny 0e6 A.in1 (collect x) Q' E s)(h:∀out:List KP,out.Perm ps->iI out->∀h' D,s.heap.objs.size<=D->(∀b u,s.heap.get? b=some u->h'.get? b=some u)->(∃n,h'.get? D=some (seqObj "list" (aY out).toArray n))->Q (.ref D) {s with heap:=h'}):
  wpAny 0e6 A (call (.builtin "sorted") [x]) Q E s:=by
 refine SA kind_sorted plain_sorted entry_sorted (args_sorted1 _) ?_;unfold Builtin.«sorted»;refine OZ (m:=checkCount "sorted" 1 1 _) (O5 ?_);refine OZ (hcol _ fun qs hqs h1 k1 hsz=>?_);have hkq:∀p∈qs,p.1∈prs:=fun p hp=>hk p (hqs.mem_iff.mp hp);have hnq:(qs.map 2e4).Nodup:=(hqs.map _).nodup_iff.mpr hn;have hlen:=kZ hkq hnq;have hvl:(aY qs).length<=15:=by unfold aY;rw[PD];exact hlen
 refine OZ (Sn ?_ (OG hvl 0e4));have hoL:(h1.push (seqObj "list" (aY qs).toArray 0)).get? h1.objs.size=some (seqObj "list" (aY qs).toArray 0):=Oy _ rfl;have hnn:∀b u,h1.get? b=some u->b≠h1.objs.size:=fun b u q=>OD (OA q);refine OZ (O0 (Qc slot_list_sort (s:={s with heap:=h1.push (seqObj "list" (aY qs).toArray 0)}) ⟨_,hoL,rfl⟩ SB ?body (args_list_sort _)))
 case body=>
  refine yn (s:={s with heap:=h1.push (seqObj "list" (aY qs).toArray 0)}) hoL hkq hnq (fun p hp=>?_) fun out h2 h3=>?_
  ·obtain⟨o,its,n,ho,rest⟩:=hT p (hqs.mem_iff.mp hp);exact⟨o,its,n,O8 _ (k1 _ _ ho),rest⟩
  ·refine ⟨_, rfl, O5 ⟨_, rfl, h out (h2.trans hqs) h3 _ h1.objs.size hsz (fun b u q => ?_) ?_⟩⟩
   ·have hb:=hnn b u (k1 b u q);unfold sortedHeap;rw[Ss _ _ _ _ hb];refine O8 _ (O8 _ ?_);rw[Ss _ _ _ _ hb];exact O8 _ (k1 b u q)
   ·unfold sortedHeap;have g1:=Sl hoL (fun _=>#[]);have g2:=O8 2e2 (O8 (seqObj "tuple" (aY qs).toArray 0) g1);exact⟨_,Sl g2 (fun _=>(aY out).toArray)⟩
theorem yl{ps:List KP}(hh:A.handled=none)(S:bS w 1e5 a ps)(hT:∀p∈ps,Tk prog w 1e5 p.1 p.2)(h:∀out:List KP,out.Perm ps->iI out->∀h' D,s.heap.objs.size<=D->(∀b u,s.heap.get? b=some u->h'.get? b=some u)->(∃n,h'.get? D=some (seqObj "list" (aY out).toArray n))->Q (.ref D) {s with heap:=h'}):
  wpAny 0e6 A (call (.builtin "sorted") [.ref a]) Q E s:=by
 obtain⟨o,es,ep,t,α,S0,hk,hn⟩:=id S;exact AI hk hn hT (fun Q' hq=>xr (by simpa using hh) S hq) h
end
theorem sv.free{t:SetTable}(T:sv t es α){h:Int}(cov:∀j,j<=t.mask->j∈cJ t.mask h)(hz:α.length<=t.mask)(hA:Nat->Int)(hne:∀i,hA i≠h):
  ∃j pre post,t.probe hA h (t.probeStart h)=some (.empty j none)/\j<=t.mask/\j∉α.map 2e4/\cJ t.mask h=pre++j::post/\∀k∈pre,k∈α.map 2e4:=by
 obtain⟨j0,hj0,hn0⟩:=tm (m:=t.mask) (l:=α.map 2e4) (by rw[PD];exact hz);obtain⟨pre,j,post,e,hs,hp⟩:=jN (fun j=>j∉α.map 2e4) (cJ t.mask h) ⟨j0,cov j0 hj0,hn0⟩
 have el:(Ac t.mask (SetTable.turns t.mask) (SetTable.bits h%(t.mask+1)) (SetTable.bits h)).length=pre.length+1+post.length:=by
  show (cJ t.mask h).length=_;rw[e,PB,QF];omega
 have hw:iB t (pre.length+1+post.length) (t.probeStart h)=pre++j::post:=by
  have q:=qu t (SetTable.turns t.mask) (SetTable.bits h%(t.mask+1)) (SetTable.bits h) none;rw[el]at q;exact q.trans e
 have hlen:pre.length<10*SetTable.turns t.mask:=by
  have q:=uk t.mask (SetTable.turns t.mask) (SetTable.bits h%(t.mask+1)) (SetTable.bits h);omega
 have occ:∀k∈pre,k∈α.map 2e4:=fun k hk=>Rk fun q=>hp k hk q
 have hpre:∀k∈pre,∃i,t.slot k=.live i/\hA i≠h:=fun k hk=>by
  obtain⟨z,hzm,ez⟩:=Rj.mp (occ k hk);obtain⟨i,hi⟩:=Rn hzm;exact⟨i,ez ▸ T.slot_live hi,hne i⟩
 obtain⟨g1,g2⟩:=uE t hA h pre j post (10*SetTable.turns t.mask) (t.probeStart h) hw hlen rfl hpre;exact⟨j,pre,post,g1 (T.slot_empty hs),js (h:=h) (by rw[e];simp),hs,e,occ⟩
abbrev KI:=Int×Tok
def BW(p:KI):Int×Value:=(hashInt p.1,Value.int p.1 p.2)
def ins:List Int:=[0,1,2,3,4,5]
theorem GS{i:Int}:i∈ins↔0<=i/\i<6:=by
 unfold ins;dsimp[OM,Q3,Q4];omega
def Ii(mask:Nat):Bool:=ins.all fun k=>(List.range (mask+1)).all fun j=>(cJ mask (hashInt k)).contains j
theorem MM:Ii 7=true:=by decide +kernel
theorem C5:Ii 31=true:=by decide +kernel
theorem uF(h:Ii mask=true){k:Int}(hk:k∈ins):∀j,j<=mask->j∈cJ mask (hashInt k):=fun j hj=>by
 have a:=RI.mp h k hk;have b:=RI.mp a j (OF.mpr 0e1);simpa using b
theorem sZ{a b:Int}(ha:a∈ins)(hb:b∈ins)(e:hashInt a=hashInt b):a=b:=by
 have key:∀x∈ins,∀y∈ins,hashInt x=hashInt y->x=y:=by decide +kernel
 exact key a ha b hb e
def dc(w:World)(h:Heap)(a:Addr)(ps:List KI):Prop:=∃o es ep t α,dS w h a (ps.map BW) o es ep t α/\(∀p∈ps,p.1∈ins)/\(ps.map 2e4).Nodup
theorem kr{ps:List KI}(hk:∀p∈ps,p.1∈ins)(hn:(ps.map 2e4).Nodup):ps.length<=6:=by
 have:=iJ hn (l2:=ins) (fun x hx=>by obtain⟨p,hp,e⟩:=Rj.mp hx;rw[<- e];exact hk p hp);rw[PD]at this;exact this
theorem dc.keeps{h:Heap}{ps:List KI}(S:dc w h a ps)(k:∀o,h.get? a=some o->h'.get? a=some o):dc w h' a ps:=by
 obtain⟨o,es,ep,t,α,S,hk,hn⟩:=S;exact⟨o,es,ep,t,α,⟨k o S.ho,S.ex,S.hd,S.tab,S.plain,S.led,S.big,S.perm⟩,hk,hn⟩
theorem NW{h:Heap}{o es ep t α}(S:dS w h a ps o es ep t α){k:Int}(hk:k∈ins):∀j,j<=t.mask->j∈cJ t.mask (hashInt k):=by
 rcases S.big with⟨h1,h2⟩|⟨h1,h2⟩ <;> rw[h1]
 ·exact uF MM hk
 ·exact uF C5 hk
def vy(ps:List KI)(k:Int)(t:Tok):List KI:=if k∈ps.map 2e4 then ps else ps++[(k,t)]
section
theorem sL{a:Addr}{k:Int}{tk:Tok}{ps0:List (Int×Value)}{o es ep t α}(S:dS w 1e5 a ps0 o es ep t α){Q:ScanMet->Shared->Prop} :
  ∀(l:List (Int×Value))(n:Nat),(∀e∈l,∃p:KI,e=BW p/\p.1∈ins)->k∈ins->((∃e∈l,e.1=hashInt k)->∀i,Q (.found i) s)->((∀e∈l,e.1≠hashInt k)->Q .absent s)->wpAny 0e6 A (setScanFrom a (.int k tk) (hashInt k) true l n) Q E s
 |[],n,_,_,h1,h2=>by
  unfold setScanFrom;exact O5 (h2 fun e he=>by simp at he)
 |e::l,n,hl,hk,h1,h2=>by
  obtain⟨p,rfl,hp⟩:=hl e OJ;show wpAny _ _ (setScanFrom a _ _ true ((hashInt p.1,Value.int p.1 p.2)::l) n) _ _ _;unfold setScanFrom;by_cases he:hashInt p.1=hashInt k
  ·rw[Ow (by simpa using he)];have ek:=sZ hp hk he;refine OZ (m:=setEpoch a) (wpAny_setEpoch_of S.ho S.hd S.fits ?_);refine OZ (Ov ?_);rw[ek];dsimp[QD,RN,PU];exact O5 (h1 ⟨_,OJ,he⟩ _)
  ·rw [Ox (by simpa using he)];refine sL S l (n+1) (fun x hx=>hl x (OK _ hx)) hk (fun⟨x,hx,ex⟩=>h1 ⟨x,OK _ hx,ex⟩) fun hx=>h2 fun x hxm=>?_;rcases OM.mp hxm with z|z
   ·rw[z];exact he
   ·exact hx x z
theorem Hg{k:Int}{ps:List KI}{Q:Bool->Shared->Prop}(S:dc w 1e5 a ps)(hk:k∈ins)(h:∀b h',Heap.SameBut a 1e5 h'->dc w h' a (vy ps k tk)->Q b {s with heap:=h'}):wpAny 0e6 A (setAddHashed a (.int k tk) (hashInt k)) Q E s:=by
 obtain⟨o,es,ep,t,α,S,hk0,hn0⟩:=S
 have hent:∀e∈es.toList,∃p∈ps,e=BW p:=fun e he=>by
  rw[S.tab.ents]at he;obtain⟨p,hp,q⟩:=Rj.mp (S.perm.mem_iff.mp he);exact⟨p,hp,q.symm⟩
 have hto:∀p∈ps,BW p∈es.toList:=fun p hp=>by
  rw[S.tab.ents];exact S.perm.mem_iff.mpr (Rp hp)
 have hlen6:=kr hk0 hn0;have hZl:α.length=ps.length:=by rw[S.len,PD]
 have hesz0:es.size=ps.length:=by rw[S.tab.size.2,hZl]
 have hz:α.length<=t.mask:=by rcases S.big with⟨q,q2⟩|⟨q,q2⟩ <;> omega
 unfold setAddHashed setAddHashedIn;refine O0 (OZ (RM S.ho S.hd S.fits ?_));dsimp only
 have hsc:byScan (Value.int k tk) es=true:=by
  unfold byScan;have h1:decide (es.size<scanBound)=true:=QA (by rw[hesz0];unfold scanBound;omega)
  have h2:es.all (fun x=>x.2.scannable)=true:=by
   rw[<- Array.all_toList,RI];intro e he;obtain⟨p,_,rfl⟩:=hent e he;rfl
  rw[h1,h2];rfl
 rw[hsc];dsimp[PU];refine OZ ?_;unfold setAddByScan;refine OZ (QN ?_);refine OZ ?_;show wpAny _ _ (setScanFrom a (.int k tk) (hashInt k) true es.toList 0) _ _ _;refine sL S es.toList 0 (fun e he=>by obtain⟨p,hp,e'⟩:=hent e he;exact⟨p,e',hk0 p hp⟩) hk (fun hex i=>?_) fun hno=>?_
 ·obtain ⟨e, he, q⟩ := hex;obtain⟨p,hp,rfl⟩:=hent e he;have ek:p.1=k:=sZ (hk0 p hp) hk q;refine O5 (O5 ?_)
  have q:=h false 1e5 (Heap.SameBut.refl a 1e5) (by
   unfold vy;rw[Ow (by rw[<- ek];exact Rp hp)];exact⟨o,es,ep,t,α,S,hk0,hn0⟩)
  cases s;exact q
 ·have hin:k∉ps.map 2e4:=fun hx=>by
   obtain⟨p,hp,e⟩:=Rj.mp hx;exact hno _ (hto p hp) (by rw[<- e];rfl)
  dsimp only;obtain⟨j,pre,post,epr,hj,hn,e,hp⟩:=S.tab.free (NW S hk) hz (fun _=>hashInt k+1) (fun _=>by omega);obtain⟨α',T',hperm,et⟩:=S.tab.put (x:=Value.int k tk) hj hn e hp
  have hfree:t.freeSlot (hashInt k)=some (j,false):=by
   unfold SetTable.freeSlot;rw[epr];rfl
  have hpl:(t.put j).1.plain=true:=by rw[et];exact S.plain
  have hled:(t.put j).1.led=t.led:=by rw[et]
  have hmask:(t.put j).1.mask=t.mask:=by rw[et]
  have hperm':(α'.map (·.2)).Perm ((ps++[(k,tk)]).map BW):=by
   refine(hperm.map (·.2)).trans ?_;rw[Qj,Ru];refine List.Perm.trans (List.Perm.cons _ S.perm) ?_;exact(List.perm_append_singleton _ _).symm
  have hkeys:∀p∈ps++[(k,tk)],p.1∈ins:=fun p hp'=>by
   rcases OO.mp hp' with q|q
   ·exact hk0 p q
   ·rw[QP]at q;rw[q];exact hk
  have hnd:((ps++[(k,tk)]).map 2e4).Nodup:=by
   rw[Ru];refine RO.mpr ⟨hn0,by simp,fun x hx y hy=>?_⟩;simp at hy;rw[hy];rintro rfl;exact hin hx
  have hlen:=kr hkeys hnd;have hZ':α'.length=ps.length+1:=by rw[hperm.length_eq,QF,hZl]
  have hesz:(SetTable.insertAt es (t.put j).2 (hashInt k,Value.int k tk)).size=α'.length:=T'.size.2;have hadd:vy ps k tk=ps++[(k,tk)]:=by unfold vy;rw[Ox hin]
  rw[hadd]at h;rw[PB,Qw]at hlen
  have hfit:(t.put j).1.fits (SetTable.insertAt es (t.put j).2 (hashInt k,Value.int k tk)).size=true:=by
   unfold SetTable.fits;rw[T'.fill,T'.size.1,hesz,hmask];rcases S.big with⟨q,q2⟩|⟨q,q2⟩ <;> simp[q] <;> omega
  have hlay:layNew t es (hashInt k) (.int k tk)=(SetTable.insertAt es (t.put j).2 (hashInt k,Value.int k tk),(t.put j).1,false,false):=by
   unfold layNew;rw[hfree];dsimp only;unfold SetTable.orStandIn;rw[hfit];rfl
  rw[hlay];dsimp only;generalize ht1:(t.put j).1=t1 at *;generalize hes1:SetTable.insertAt es (t.put j).2 (hashInt k,Value.int k tk)=es1 at *;have hline:es1.size<=sizeLine:=by rw[hesz,hZ'];exact OG hlen 0e4
  refine OZ (O5 ?_);refine OZ (O5 ?_);rw[hpl];dsimp[PU];refine OZ (m:=hashByValue 8 (.int k tk)) (O5 ?_);dsimp[PU];refine OZ (RP S.ho S.hd ?_ hline)
  have hg:(s.heap.update a (Obj.putSet es1 t1)).get? a=some {o with data:=.set es1 (ep+1) t1}:=by
   have:=Qm (Obj.putSet es1 t1) S.ho (by rw[RQ es1 t1 S.hd];rfl);rw[RQ es1 t1 S.hd]at this;exact this
  have hsb1:=QW 1e5 a (Obj.putSet es1 t1);have hfill:t1.fill=ps.length+1:=by rw[T'.fill,hZ']
  by_cases hfull:t1.tooFull=true
  ·dsimp[hfull, RR, RN, PU]
   have hm7:t.mask=7/\ps.length=4:=by
    unfold SetTable.tooFull at hfull;rw[hfill,hmask]at hfull;have hf:(ps.length+1)*5 ≥ t.mask*3:=by simpa using hfull
    rcases S.big with⟨q,q2⟩|⟨q,q2⟩
    ·rw[q]at hf;exact⟨q,by omega⟩
    ·rw[q]at hf;omega
   have hsz1:es1.size=5:=by rw[hesz,hZ',hm7.2]
   have hgr:SetTable.grown es1.size=20:=by rw[hsz1];rfl
   rw[hgr]
   obtain⟨t2,order,α2,er,T2,hp2,hm2,hl2,hpl2,hord⟩:=qO (t:=t1) (es:=es1) (wanted:=20) (mask:=31) (by rfl) (by rw[hsz1];decide) (fun e' he'=>by
    rw[T'.ents]at he';obtain⟨p,hp',q⟩:=Rj.mp (hperm'.mem_iff.mp he');rw[<- q]
    exact uF C5 (hkeys p hp'))
   have hZ2:α2.length=5:=by
    have:=hp2.length_eq;simp at this;omega
   have hes2:(order.filterMap (es1[·]?)).size=5:=by rw[T2.size.2,hZ2]
   have hrel:relayAll t1 es1 20=(order.filterMap (es1[·]?),t2,false):=by
    unfold relayAll;rw[er];dsimp only
    have c1:coversAll order es1.size=true:=by
     unfold coversAll;exact List.isPerm_iff.mpr hord
    have c2:t2.fits (order.filterMap (es1[·]?)).size=true:=by
     unfold SetTable.fits;rw[T2.fill,T2.size.1,hes2,hm2,hZ2];rfl
    rw[c1,c2];rfl
   rw[hrel];dsimp only;refine OZ (OZ (O5 (O5 ?_)));refine OZ (RP hg rfl ?_ (by rw[hes2];decide))
   have hg2:((s.heap.update a (Obj.putSet es1 t1)).update a (Obj.putSet (order.filterMap (es1[·]?)) t2)).get? a=some {o with data:=.set (order.filterMap (es1[·]?)) (ep+1+1) t2}:=by
    have:=Qm (Obj.putSet (order.filterMap (es1[·]?)) t2) hg (by rw[RQ _ t2 rfl];rfl);rw[RQ _ t2 rfl]at this;exact this
   refine O5 (O5 ?_);refine h true _ (hsb1.trans (QW _ a _)) ⟨_,_,_,t2,α2,⟨hg2,S.ex,rfl,T2,by rw[hpl2];exact hpl,by rw[hl2,hled];exact S.led,.inr ⟨hm2,by omega⟩,?_⟩,hkeys,hnd⟩;refine hp2.trans ?_;rw[T'.ents];exact hperm'
  ·have hf : t1.tooFull = false := by simpa using hfull
   dsimp[hf,Qx,QE,PR];refine O5 (O5 ?_);refine h true _ hsb1 ⟨_,_,_,t1,α',⟨hg,S.ex,rfl,T',hpl,by rw[hled];exact S.led,?_,hperm'⟩,hkeys,hnd⟩;unfold SetTable.tooFull at hf;rw[hfill,hmask]at hf;have hf':¬ ((ps.length+1)*5 ≥ t.mask*3):=by simpa using hf
   rw[hmask,hZ'];rcases S.big with⟨q,q2⟩|⟨q,q2⟩
   ·rw[q]at hf'⊢;exact .inl ⟨rfl,by omega⟩
   ·rw[q]at hf'⊢;exact .inr ⟨rfl,by omega⟩
end
end RS
namespace PySem
open Sem (wp)
theorem tE(o:Obj)(f):(o.mapFields f).dict=o.dict:=by
 obtain⟨c,d,dt,sl⟩:=o;cases dt <;> rfl
namespace Heap
def TracedD(h base:Heap)(e:Addr)(cls a0:Value)(dx:Option Addr):Prop:=
 ∃oe vs T oT ts,h.get? e=some oe/\(oe.cls=cls/\oe.dict=dx/\vs[0]?=some a0)/\oe.data=.fields vs/\vs[1]?=some (.ref T)/\base.get? T=none/\T≠e/\h.get? T=some oT/\oT.data=.fields ts/\ts[3]?=some .none
def TracedAtD(h base:Heap)(e:Addr)(cls a0:Value)(dx:Option Addr)(fl:Value):Prop:=
 ∃oe vs T oT ts,h.get? e=some oe/\(oe.cls=cls/\oe.dict=dx/\vs[0]?=some a0)/\oe.data=.fields vs/\vs[1]?=some (.ref T)/\base.get? T=none/\T≠e/\h.get? T=some oT/\oT.data=.fields ts/\ts[3]?=some fl
theorem TracedD.at{h:Heap}{e:Addr}(x:h.TracedD base e cls a0 dx):h.TracedAtD base e cls a0 dx .none:=x
def NotedD(base:Heap)(l:List Env)(e:Addr)(cls a0:Value)(dx:Option Addr)(fl:Value)(h h':Heap):Prop:=
 base.StaysIn h'/\h'.FunFrames base l/\h'.TracedAtD base e cls a0 dx fl/\∀b o,h.get? b=some o->(∀vs,o.data≠.fields vs)->∃sl,h'.get? b=some {o with slots:=sl}
end Heap
section
variable{M:Model}
def ml(base:Heap)(l:List Env)(e:Addr)(cls a0:Value)(dx:Option Addr)(h h':Heap):Prop:=
 base.StaysIn h'/\h'.FunFrames base l/\h'.TracedD base e cls a0 dx /\
  ∀b o,h.get? b=some o->(∀vs,o.data≠.fields vs)->∃sl,h'.get? b=some {o with slots:=sl}
theorem jT{ρ e:Addr}{vs:Array Value}{head:Value}{Q:Unit->Shared->Prop}(hfr:A.frames=some (env::outer))(hl:s.heap.FunFrames base (env::outer))(hf:env.frame=some ρ)(he:s.heap.get? e=some oe)(hkb:base.StaysIn 1e5)(hen:base.get? e=none)(hd:oe.data=.fields vs)(hsz:1<vs.size)(h0:vs[0]?=some a0)(h:∀h',ml base (env::outer) e oe.cls a0 oe.dict 1e5 h'->Q () {s with heap:=h'}):
  wpAny M A (do let a <- frameOf env;let pl <- entryPlaceOf ρ hadNext;let b <- EntryCells.newEntry head a .none (rawInt ρ) .none pl;setField (.ref e) 1 b) (fun _ s'=>wpAny M A (setFlight (.ref e) none) Q E s') E s:=by
 have hene:e∉(env::outer).filterMap (·.frame):=fun hm=>by
  obtain⟨_,o,ho,hnf⟩:=hl.mem hm;rw[he]at ho;injection ho with ho;subst ho;exact hnf vs hd
 refine OZ (wpAny_frameOf_fun hfr hl hf fun h₁ hs₁=>?_);refine OZ (wpAny_entryPlaceOf fun pl hpl=>?_);unfold EntryCells.newEntry newFields;refine OZ (Qh ?_ (hpl.sizeOk5 _ _ _ _ _));have he₁:h₁.get? e=some oe:=(hs₁.2.1 e hene).trans he;have kb₁:base.StaysIn h₁:=fun b o hbo=>(hs₁.2.1 b fun hm=>by rw[(hl.mem hm).1]at hbo;cases hbo).trans (hkb b o hbo);have he₂:=O8 (h:=h₁) {cls:=.type "traceback",dict:=none,data:=.fields ([head,.ref ρ,.none,rawInt ρ,.none]++(if pl.isEmpty then List.replicate 6 Value.none else pl)).toArray} he₁;refine QV he₂ hd hsz ?_;have hTe:h₁.objs.size≠e:=O4 (OA he₁);have hd₃:=QY hd 4e2;have he₃:=Qm (Obj.mapFields 4e2) he₂ (QX hd₃)
 have hT₃:=(Qn (h₁.push {cls:=.type "traceback",dict:=none,data:=.fields ([head,.ref ρ,.none,rawInt ρ,.none]++(if pl.isEmpty then List.replicate 6 Value.none else pl)).toArray})
  (Obj.mapFields 4e2) (ON hTe)).trans (Oy h₁ rfl)
 unfold setFlight;refine OZ (PX he₃ hd₃ (x:=.ref h₁.objs.size) (by simp[hsz]) ?_);rw[Ow (show (Value.ref h₁.objs.size != Value.none)=true from by simp)];refine QV hT₃ rfl (by dsimp[Pg,PB,QF,Rc] <;> omega) (h _ ?_)
 have keep:∀b o,b≠e->h₁.get? b=some o ->
   (((h₁.push { cls := .type "traceback", dict := none, data := .fields ([head, .ref ρ, .none, rawInt ρ, .none] ++ (if pl.isEmpty then List.replicate 6 Value.none else pl)).toArray }).update e (Obj.mapFields 4e2)).update h₁.objs.size
     (Obj.mapFields (·.setIfInBounds 3 ((none:Option Addr).elim Value.none fun f=>rawInt f)))).get? b=some o:=fun b o hbe hb=>by
  have hbT:h₁.objs.size≠b:=O4 (OA hb);rw[Qn _ _ hbT,Qn _ _ (ON hbe)];exact O8 _ hb
 have noRecord:∀b o,s.heap.get? b=some o->(∀vs,o.data≠.fields vs)->b≠e:=fun b o hb hnf q=>by
  rw[q,he]at hb;injection hb with hb;subst hb;exact hnf vs hd
 refine⟨fun b o hbo=>keep b o (fun q=>by rw[q,hen]at hbo;cases hbo) (kb₁ b o hbo),hl.of_keeps fun b o hb hnf=>?_,?_,fun b o hb hnf=>?_⟩
 ·obtain⟨sl,hs⟩:=hs₁.2.2 b o hb;exact⟨_,keep b _ (noRecord b o hb hnf) hs,rfl⟩
 ·refine⟨_,_,h₁.objs.size,_,_,?_,⟨QZ _ _,tE _ _,by rw[SC 0e4];exact h0⟩,hd₃,by simp[hsz],kb₁.fresh,hTe,Qm _ hT₃ (QX (QY rfl _)),QY rfl _,by first|(simp;done)|(rcases hpl with rfl|⟨_,_,_,_,_,_,_,rfl⟩ <;> simp)⟩;rw[Qn _ _ hTe];exact he₃
 ·obtain⟨sl,hs⟩:=hs₁.2.2 b o hb;exact⟨sl,keep b _ (noRecord b o hb hnf) hs⟩
theorem kQ{ρ e:Addr}{vs:Array Value}{Q:Unit->Shared->Prop}(hfr:A.frames=some (env::outer))(hl:s.heap.FunFrames base (env::outer))(hf:env.frame=some ρ)(he:s.heap.get? e=some oe)(hkb:base.StaysIn 1e5)(hen:base.get? e=none)(hd:oe.data=.fields vs)(h1:vs[1]?=some .none)(h0:vs[0]?=some a0)(h:∀h',ml base (env::outer) e oe.cls a0 oe.dict 1e5 h'->Q () {s with heap:=h'}):wpAny M A (leaving env (.ref e)) Q E s:=by
 unfold leaving noteFrame;dsimp[hf];refine OZ (OZ (PX he hd h1 ?_));rw[Ox 0e4];exact jT hfr hl hf he hkb hen hd (Rh.mp h1).1 h0 h
theorem lC{ρ e:Addr}{Q:Unit->Shared->Prop}(hfr:A.frames=some (env::outer))(hl:s.heap.FunFrames base (env::outer))(hf:env.frame=some ρ)(ht:s.heap.TracedD base e cls a0 dx)(hkb:base.StaysIn 1e5)(hen:base.get? e=none)(h:∀h',ml base (env::outer) e cls a0 dx 1e5 h'->Q () {s with heap:=h'}):wpAny M A (leaving env (.ref e)) Q E s:=by
 obtain⟨oe,vs,T,oT,ts,he,⟨hcls,hdx,h0⟩,hd,h1,hnT,hTe,hT,hdT,h3⟩:=ht;subst hcls hdx;unfold leaving noteFrame;dsimp[hf];refine OZ (OZ (PX he hd h1 ?_));rw[Ow (show (Value.ref T != Value.none)=true from by simp)];refine OZ (PX hT hdT h3 ?_);rw[Ox (show ¬ ((Value.none == rawInt ρ)=true) from by simp[rawInt])];refine OZ (QV hT hdT (Rh.mp h3).1 ?_);have other:∀b,b≠T->(s.heap.update T (Obj.mapFields (·.setIfInBounds 3 Value.none))).get? b=s.heap.get? b:=fun b hb=>Qn _ _ (ON hb)
 have noRecord:∀b o,s.heap.get? b=some o->(∀vs,o.data≠.fields vs)->b≠T:=fun b o hb hnf q=>by
  rw[q,hT]at hb;injection hb with hb;subst hb;exact hnf ts hdT
 refine jT hfr (hl.of_keeps fun b o hb hnf=>⟨o,(other b (noRecord b o hb hnf)).trans hb,rfl⟩) hf ((other e (ON hTe)).trans he)
  (fun b o hbo=>(other b fun q=>by rw[q,hnT]at hbo;cases hbo).trans (hkb b o hbo)) hen hd (Rh.mp h1).1 h0
  fun h' ⟨x1,x2,x3,x4⟩=>h h' ⟨x1,x2,x3,fun b o hb hnf=>x4 b o ((other b (noRecord b o hb hnf)).trans hb) hnf⟩
def bF(base:Heap)(l:List Env)(e:Addr)(cls a0:Value)(dx:Option Addr)(h:Heap):Prop:=
 base.StaysIn h/\base.get? e=none/\h.FunFrames base l/\h.TracedD base e cls a0 dx
theorem bF.there{h:Heap}{l:List Env}{e:Addr}(x:bF base l e cls a0 dx h):∃ob,h.get? e=some ob/\ob.cls=cls:=by
 obtain⟨_,_,_,oe,_,_,_,_,he,hc,_⟩:=x;exact⟨oe,he,hc.1⟩
theorem og{ρ e:Addr}{Q:Unit->Shared->Prop}(hfr:A.frames=some (env::outer))(hf:env.frame=some ρ)(hfl:bF base (env::outer) e cls a0 dx 1e5)(hQ:∀h',bF base outer e cls a0 dx h'->s.heap.UpToSlots h'->Q () {s with heap:=h'}):wpAny M A (leaving env (.ref e)) Q E s:=by
 obtain⟨f1,f2,f3,f4⟩:=hfl;refine lC hfr f3 hf f4 f1 f2 fun h' hL=>?_;obtain⟨k1,⟨_,_,k2⟩,k3,k4⟩:=hL;exact hQ h' ⟨k1,f2,k2,k3⟩ k4
theorem uK{ρ e:Addr}{vs:Array Value}{head:Value}{Q:Unit->Shared->Prop}(hfr:A.frames=some (env::outer))(hl:s.heap.FunFrames base (env::outer))(hf:env.frame=some ρ)(he:s.heap.get? e=some oe)(hkb:base.StaysIn 1e5)(hen:base.get? e=none)(hd:oe.data=.fields vs)(hsz:1<vs.size)(h0:vs[0]?=some a0)(h:∀h',Heap.NotedD base (env::outer) e oe.cls a0 oe.dict (rawInt ρ) 1e5 h'->Q () {s with heap:=h'}):
  wpAny M A (do let a <- frameOf env;let pl <- entryPlaceOf ρ hadNext;let b <- EntryCells.newEntry head a .none (rawInt ρ) .none pl;setField (.ref e) 1 b) Q E s:=by
 have hene:e∉(env::outer).filterMap (·.frame):=fun hm=>by
  obtain⟨_,o,ho,hnf⟩:=hl.mem hm;rw[he]at ho;injection ho with ho;subst ho;exact hnf vs hd
 refine OZ (wpAny_frameOf_fun hfr hl hf fun h₁ hs₁=>?_);refine OZ (wpAny_entryPlaceOf fun pl hpl=>?_);unfold EntryCells.newEntry newFields;refine OZ (Qh ?_ (hpl.sizeOk5 _ _ _ _ _));have he₁:h₁.get? e=some oe:=(hs₁.2.1 e hene).trans he;have kb₁:base.StaysIn h₁:=fun b o hbo=>(hs₁.2.1 b fun hm=>by rw[(hl.mem hm).1]at hbo;cases hbo).trans (hkb b o hbo);have he₂:=O8 (h:=h₁) {cls:=.type "traceback",dict:=none,data:=.fields ([head,.ref ρ,.none,rawInt ρ,.none]++(if pl.isEmpty then List.replicate 6 Value.none else pl)).toArray} he₁;refine QV he₂ hd hsz (h _ ?_);have hTe:h₁.objs.size≠e:=O4 (OA he₁);have hd₃:=QY hd 4e2;have he₃:=Qm (Obj.mapFields 4e2) he₂ (QX hd₃)
 have hT₃:=(Qn (h₁.push {cls:=.type "traceback",dict:=none,data:=.fields ([head,.ref ρ,.none,rawInt ρ,.none]++(if pl.isEmpty then List.replicate 6 Value.none else pl)).toArray})
  (Obj.mapFields 4e2) (ON hTe)).trans (Oy h₁ rfl)
 have keep:∀b o,b≠e->h₁.get? b=some o ->
   ((h₁.push {cls:=.type "traceback",dict:=none,data:=.fields ([head,.ref ρ,.none,rawInt ρ,.none]++(if pl.isEmpty then List.replicate 6 Value.none else pl)).toArray}).update e (Obj.mapFields 4e2)).get? b=some o:=
  fun b o hbe hb=>by
   rw[Qn _ _ (ON hbe)];exact O8 _ hb
 have noRecord:∀b o,s.heap.get? b=some o->(∀vs,o.data≠.fields vs)->b≠e:=fun b o hb hnf q=>by
  rw[q,he]at hb;injection hb with hb;subst hb;exact hnf vs hd
 refine⟨fun b o hbo=>keep b o (fun q=>by rw[q,hen]at hbo;cases hbo) (kb₁ b o hbo),hl.of_keeps fun b o hb hnf=>?_,?_,fun b o hb hnf=>?_⟩
 ·obtain⟨sl,hs⟩:=hs₁.2.2 b o hb;exact⟨_,keep b _ (noRecord b o hb hnf) hs,rfl⟩
 ·exact⟨_,_,h₁.objs.size,_,_,he₃,⟨QZ _ _,tE _ _,by rw[SC 0e4];exact h0⟩,hd₃,by simp[hsz],kb₁.fresh,hTe,hT₃,rfl,by first|(simp;done)|(rcases hpl with rfl|⟨_,_,_,_,_,_,_,rfl⟩ <;> simp)⟩
 ·obtain⟨sl,hs⟩:=hs₁.2.2 b o hb;exact⟨sl,keep b _ (noRecord b o hb hnf) hs⟩
theorem lB{ρ e:Addr}{Q:Unit->Shared->Prop}(hfr:A.frames=some (env::outer))(hl:s.heap.FunFrames base (env::outer))(hf:env.frame=some ρ)(ht:s.heap.TracedD base e cls a0 dx)(hkb:base.StaysIn 1e5)(hen:base.get? e=none)(h:∀h',Heap.NotedD base (env::outer) e cls a0 dx (rawInt ρ) 1e5 h'->Q () {s with heap:=h'}):wpAny M A (noteFrame (.ref e) env) Q E s:=by
 obtain⟨oe,vs,T,oT,ts,he,⟨hcls,hdx,h0⟩,hd,h1,hnT,hTe,hT,hdT,h3⟩:=ht;subst hcls hdx;unfold noteFrame;dsimp[hf];refine OZ (PX he hd h1 ?_);rw[Ow (show (Value.ref T != Value.none)=true from by simp)];refine OZ (PX hT hdT h3 ?_);rw[Ox (show ¬ ((Value.none == rawInt ρ)=true) from by simp[rawInt])];refine OZ (QV hT hdT (Rh.mp h3).1 ?_);have other:∀b,b≠T->(s.heap.update T (Obj.mapFields (·.setIfInBounds 3 Value.none))).get? b=s.heap.get? b:=fun b hb=>Qn _ _ (ON hb)
 have noRecord:∀b o,s.heap.get? b=some o->(∀vs,o.data≠.fields vs)->b≠T:=fun b o hb hnf q=>by
  rw[q,hT]at hb;injection hb with hb;subst hb;exact hnf ts hdT
 refine uK hfr (hl.of_keeps fun b o hb hnf=>⟨o,(other b (noRecord b o hb hnf)).trans hb,rfl⟩) hf ((other e (ON hTe)).trans he)
  (fun b o hbo=>(other b fun q=>by rw[q,hnT]at hbo;cases hbo).trans (hkb b o hbo)) hen hd (Rh.mp h1).1 h0
  fun h' ⟨x1,x2,x3,x4⟩=>h h' ⟨x1,x2,x3,fun b o hb hnf=>x4 b o ((other b (noRecord b o hb hnf)).trans hb) hnf⟩
theorem gq{l:List Env}{e:Addr}{fl:Value}{Q:Unit->Shared->Prop}(hkb:base.StaysIn 1e5)(hl:s.heap.FunFrames base l)(ht:s.heap.TracedAtD base e cls a0 dx fl)(h:∀h',base.StaysIn h'->h'.FunFrames base l->h'.TracedD base e cls a0 dx->(∀b o,s.heap.get? b=some o->(∀vs,o.data≠.fields vs)->h'.get? b=some o)->Q () {s with heap:=h'}):
  wpAny M A (setFlight (.ref e) none) Q E s:=by
 obtain⟨oe,vs,T,oT,ts,he,hcls,hd,h1,hnT,hTe,hT,hdT,h3⟩:=ht;have hsz3:3<ts.size:=(Rh.mp h3).1
 have other:∀b,b≠T->(s.heap.update T (Obj.mapFields (·.setIfInBounds 3 ((none:Option Addr).elim Value.none fun f=>rawInt f)))).get? b=s.heap.get? b:=
  fun b hb=>Qn _ _ (ON hb)
 have noRecord:∀b o,s.heap.get? b=some o->(∀vs,o.data≠.fields vs)->b≠T:=fun b o hb hnf q=>by
  rw[q,hT]at hb;injection hb with hb;subst hb;exact hnf ts hdT
 unfold setFlight;refine OZ (PX he hd h1 ?_);rw[Ow (show (Value.ref T != Value.none)=true from by simp)]
 refine QV hT hdT hsz3 (h _ (fun b o hbo=>(other b fun q=>by rw[q,hnT]at hbo;cases hbo).trans (hkb b o hbo))
  (hl.of_keeps fun b o hb hnf=>⟨o,(other b (noRecord b o hb hnf)).trans hb,rfl⟩) ?_ fun b o hb hnf=>(other b (noRecord b o hb hnf)).trans hb)
 exact⟨oe,vs,T,_,_,(other e (ON hTe)).trans he,hcls,hd,h1,hnT,hTe,Qm _ hT (QX (QY hdT _)),QY hdT _,by simp[hsz3]⟩
def qY(base:Heap)(l:List Env)(e:Addr)(cls a0:Value)(dx:Option Addr)(ρ:Addr)(h:Heap):Prop:=
 base.StaysIn h/\base.get? e=none/\h.FunFrames base l/\h.TracedAtD base e cls a0 dx (rawInt ρ)
theorem pq{ρ e:Addr}{Q:Unit->Shared->Prop}(hfr:A.frames=some (env::outer))(hf:env.frame=some ρ)(hfl:bF base (env::outer) e cls a0 dx 1e5)(hQ:∀h',qY base (env::outer) e cls a0 dx ρ h'->s.heap.UpToSlots h'->Q () {s with heap:=h'}):wpAny M A (noteFrame (.ref e) env) Q E s:=by
 obtain⟨f1,f2,f3,f4⟩:=hfl;refine lB hfr f3 hf f4 f1 f2 fun h' hN=>?_;obtain⟨k1,k2,k3,k4⟩:=hN;exact hQ h' ⟨k1,f2,k2,k3⟩ k4
theorem uJ{l:List Env}{e ρ:Addr}{Q:Unit->Shared->Prop}(hh:qY base l e cls a0 dx ρ 1e5)(hQ:∀h',bF base l e cls a0 dx h'->s.heap.UpToSlots h'->Q () {s with heap:=h'}):wpAny M A (setFlight (.ref e) none) Q E s:=by
 obtain⟨f1,f2,f3,f4⟩:=hh;exact gq f1 f3 f4 fun h' k1 k2 k3 k4=>hQ h' ⟨k1,f2,k2,k3⟩ fun b o hb hn=>⟨o.slots,k4 b o hb hn⟩
theorem mv{l:List Env}{e:Addr}{Q:Unit->Shared->Prop}(hh:bF base l e cls a0 dx 1e5)(hQ:∀h',bF base l e cls a0 dx h'->s.heap.UpToSlots h'->Q () {s with heap:=h'}):wpAny M A (setFlight (.ref e) none) Q E s:=by
 obtain⟨f1,f2,f3,f4⟩:=hh;exact gq f1 f3 f4.at fun h' k1 k2 k3 k4=>hQ h' ⟨k1,f2,k2,k3⟩ fun b o hb hn=>⟨o.slots,k4 b o hb hn⟩
theorem i8{ρ e:Addr}{vs:Array Value}{Q:Unit->Shared->Prop}(hfr:A.frames=some (env::outer))(hf:env.frame=some ρ)(hkb:base.StaysIn 1e5)(hl:s.heap.FunFrames base (env::outer))(hen:base.get? e=none)(he:s.heap.get? e=some oe)(hd:oe.data=.fields vs)(h1:vs[1]?=some .none)(h0:vs[0]?=some a0)(hQ:∀h',bF base outer e oe.cls a0 oe.dict h'->s.heap.UpToSlots h'->Q () {s with heap:=h'}):wpAny M A (leaving env (.ref e)) Q E s:=by
 refine kQ hfr hl hf he hkb hen hd h1 h0 fun h' hL=>?_;obtain⟨k1,⟨_,_,k2⟩,k3,k4⟩:=hL;exact hQ h' ⟨k1,hen,k2,k3⟩ k4
end
section
variable{h:Heap}{g:Array GenState}{d:Drawn}{t:Nat}{os:OsState}
variable{q:Str}{N:Addr}{bs bm bmB:List Value}{hdct:Bool}{k1 k2 k3 k5:Option Value}{σ newId initId:String}
theorem xc(F:ExcBaseFacts σ newId initId bmB)(T:OwnTail h bmB bm){rest:List Value}{Q:Fin->Shared->Prop}(hC:h.get? C=some 3e3)(hn:h.Ns N mN)(hi:mN "__init__" = some (.ref fI))(hfI:h.get? fI=some oI)(hfc:oI.cls=.type "function")(hq : ∀ h' e, Heap.MadeExcOf h h' e 2e1 rest ->
   wpAny 0e6 A (call (.ref fI) (.ref e::rest)) (fun r s'=>r=.none/\Q (.done (.ret (.ref e))) s') E ⟨h',g,d,t,os⟩)(hrest:rest.length<=sizeLine:=by size_fits):
  wpAny 0e6 A (Builtin.«type.__call__» ⟨.ref C::rest,[]⟩) Q E ⟨h,g,d,t,os⟩:=by
 repeat (first|with_reducible refine SD hC ?_|with_reducible refine wpAny_madeBy_exc hC ?_|wp_step)
 refine codeAny_call_builtin_code (R6 _ F.quiet) (wpAny_check_new_subT F T hC ?_);refine codeAny_exc_new_subT F T hC ?_ hrest;show wpAny _ _ _ _ _ _
 have hC₁:=O8 {cls:=.ref C,data:=.fields #[.ref h.objs.size,.none,.none,.none,.bool false,.none]}
  (O8 {cls:=.type "tuple",data:=.seq rest.toArray} hC)
 have hfI₁:=O8 {cls:=.ref C,data:=.fields #[.ref h.objs.size,.none,.none,.none,.bool false,.none]}
  (O8 {cls:=.type "tuple",data:=.seq rest.toArray} hfI)
 have hn₁:((h.push {cls:=.type "tuple",data:=.seq rest.toArray}).push {cls:=.ref C,data:=.fields #[.ref h.objs.size,.none,.none,.none,.bool false,.none]}).Ns N mN:=
  let ⟨o,es,ep,e,r⟩:=hn;⟨o,es,ep,O8 _ (O8 _ e),r⟩
 have hget:((h.push {cls:=.type "tuple",data:=.seq rest.toArray}).push
   {cls:=.ref C,data:=.fields #[.ref h.objs.size,.none,.none,.none,.bool false,.none]}).get? (h.objs.size+1)=some
   {cls:=.ref C,data:=.fields #[.ref h.objs.size,.none,.none,.none,.bool false,.none]}:=by heap_get
 have hcC:(Value.ref C::bm).contains 2e1=true:=by simp
 have T₁:=T.keeps (h':=(h.push {cls:=.type "tuple",data:=.seq rest.toArray}).push {cls:=.ref C,data:=.fields #[.ref h.objs.size,.none,.none,.none,.bool false,.none]})
  fun b o e=>O8 _ (O8 _ e)
 unfold isInstance
 repeat (first|with_reducible refine SD hget ?_|(with_reducible refine wpAny_isSubtype_exc hC₁ ?_;rw[hcC])|wp_step)
 show wpAny _ _ (typeLookup 2e1 _) _ _ _;refine wpAny_typeLookup_tail hC₁ hn₁ T₁ F.mroIs F.init.lookup ?_;rw[hi];refine O0 (OZ ?_);unfold bindSpecial;refine OZ (Qf (T:="function") ⟨_,hfI₁,hfc⟩ ?_);rw[Ow 0e4];refine O5 (OZ (OU (hq _ (h.objs.size+1) ⟨fun b o hb=>O8 _ (O8 _ hb),OL (Q7 _),h.objs.size,hget,OL (O9 _),?_⟩) (fun r s' hr=>?_) fun _ _ x=>x))
 ·exact O8 _ (Heap.get?_push_at rfl rfl)
 ·obtain ⟨rfl, hQ⟩ := hr
  wp_walk
  exact hQ
theorem yU(F:ExcBaseFacts σ newId initId bmB)(T:OwnTail h bmB bm){rest:List Value}(hC:h.get? C=some 3e3)(hn:h.Ns N mN)(hi:mN "__init__" = some (.ref fI))(hfI:h.get? fI=some oI)(hfc:oI.cls=.type "function")(hq : ∀ h' e, Heap.MadeExcOf h h' e 2e1 rest ->
   wpAny 0e6 (A.under (.builtin "type.__call__" ⟨.ref C::rest,[]⟩)) (call (.ref fI) (.ref e::rest)) (fun r s'=>r=.none/\Q (.ref e) s') E ⟨h',g,d,t,os⟩)(hrest:rest.length<=sizeLine:=by size_fits):
  wpAny 0e6 A (call 2e1 rest) Q E ⟨h,g,d,t,os⟩:=by
 have f1:=tc_lookup;have f2:=tc_bind 2e1;have hT:(⟨h,g,d,t,os⟩:Shared).TypeIs 2e1 "type" := ⟨_,hC,rfl⟩;refine Pj (QL ?_);show wpAny _ _ (callAny 2e1 _) _ _ _
 repeat (any_goals (first|assumption|with_reducible refine SD hC ?_|wp_step))
 refine⟨rfl,?_⟩;refine codeAny_call_builtin_at (R6 _ 0e8) entry_typeCall (wpAny_check_type_call_sub hC (xc (hrest:=hrest) F T hC hn hi hfI hfc fun h' e hm=>?_));exact hq h' e hm
end
section
variable{M:Model}
variable{q:Str}{N:Addr}{bs bm:List Value}{hdct:Bool}{k1 k2 k3 k5:Option Value}{newId:String}
theorem kC{x:Sem Value}{Q:Flow->Shared->Prop}(hbase:bm.contains 2e0=true)(hh:A.handled=none)(h : wpAny M A x (fun v s₁ => ∃ e dx t, v = .ref e /\ s₁.heap.get? C = some 3e3 /\
   s₁.heap.get? e=some {cls:=.ref C,dict:=dx,data:=.fields #[.ref t,.none,.none,.none,.bool false,.none]}/\E (.ref e) s₁) E s):
  wpAny M A (raiseStmt env (some x) none) Q E s:=by
 have hcB:(Value.ref C::bm).contains 2e0=true:=by rw[List.contains_cons,hbase,Bool.or_true]
 unfold raiseStmt;refine OZ (OU h (fun v s₁ h₁=>?_) fun _ _ x=>x);obtain⟨e,dx,t,rfl,hC,he,hE⟩:=h₁;obtain⟨hp,g,d,tk,os⟩:=s₁
 repeat (first|with_reducible refine SD he ?_|with_reducible refine SD hC ?_|(with_reducible refine wpAny_isSubtype_exc hC ?_;rw[hcB])|wp_step)
 exact wpAny_raiseNew_none hh hE
end
section
variable{q:Str}{N:Addr}{bs bm bmB:List Value}{hdct:Bool}{k1 k2 k3 k5:Option Value}{σ newId initId:String}
theorem oW(F:ExcBaseFacts σ newId initId bmB){args:List Expr}{Q:Flow->Shared->Prop}(hbase:bm.contains 2e0=true)(hh:A.handled=none)(hplain:(backTo cpos (starEach args env)).any 2e4=false)(hi:mN "__init__" = some (.ref fI))(h : wpAny 0e6 A (eval (.Name x np) env) (fun f s₁ => f = .ref C /\ wpAny 0e6 A (evalArgs 2e1 true (backTo cpos (starEach args env)) [])
   (fun a s₂ => a.kw = [] /\ a.pos.length <= sizeLine /\ s₂.heap.get? C = some 3e3 /\ s₂.heap.Ns N mN /\ OwnTail s₂.heap bmB bm /\
    (∃ oI, s₂.heap.get? fI = some oI /\ oI.cls = .type "function") /\ ∀ h' e, Heap.MadeExcOf s₂.heap h' e 2e1 a.pos ->
     wpAny 0e6 (A.under (.builtin "type.__call__" ⟨.ref C::a.pos,[]⟩)) (call (.ref fI) (.ref e::a.pos)) (fun r s₃=>r=.none/\∃dx t,s₃.heap.get? C=some 3e3 /\
      s₃.heap.get? e=some {cls:=.ref C,dict:=dx,data:=.fields #[.ref t,.none,.none,.none,.bool false,.none]}/\E (.ref e) s₃) E {s₂ with heap:=h'}) E s₁) E s):
  wpAny 0e6 A (exec (.Raise (some (.Call (.Name x np) args [] cpos)) none pos) env) Q E s:=by
 rw[arm_exec_Raise]
 first
  |refine OZ (O1 (kC (C:=C) (nm:=nm) (q:=q) (N:=N) (bs:=bs) (bm:=bm) (hdct:=hdct) (sn:=sn) (sub:=sub) (ab:=ab) (col:=col) (dd:=dd) (k0:=k0) (k1:=k1) (k2:=k2) (k3:=k3) (k5:=k5) (newId:=newId) hbase hh (OZ (OU (SE (OU h (fun f s₁ h₁=>?_) fun _ _ x=>x)) (fun v s₃ h₃=>OZ (O1 (O5 h₃))) fun _ _ x=>x))))
  |(dsimp[evalOpt,Option.map];refine OZ (O1 (kC (C:=C) (nm:=nm) (q:=q) (N:=N) (bs:=bs) (bm:=bm) (hdct:=hdct) (sn:=sn) (sub:=sub) (ab:=ab) (col:=col) (dd:=dd) (k0:=k0) (k1:=k1) (k2:=k2) (k3:=k3) (k5:=k5) (newId:=newId) hbase hh (OZ (OU (SE (OU h (fun f s₁ h₁=>?_) fun _ _ x=>x)) (fun v s₃ h₃=>OZ (O1 (O5 h₃))) fun _ _ x=>x)))))
  |(refine OZ (O1 (kC (C:=C) (nm:=nm) (q:=q) (N:=N) (bs:=bs) (bm:=bm) (hdct:=hdct) (sn:=sn) (sub:=sub) (ab:=ab) (col:=col) (dd:=dd) (k0:=k0) (k1:=k1) (k2:=k2) (k3:=k3) (k5:=k5) (newId:=newId) hbase hh ?_));refine OZ (OU (SE (OU h (fun f s₁ h₁=>?_) fun _ _ x=>x)) (fun v s₃ h₃=>OZ (O1 (O5 h₃))) fun _ _ x=>x))
 obtain⟨rfl,h₁⟩:=h₁;unfold callWith;refine OZ (O0 (OU h₁ (fun a s₂ h₂=>OZ (O1 ?_)) fun _ _ x=>x));obtain⟨apos,akw⟩:=a;obtain⟨hkw,hlen,hC,hn,T,⟨oI,hfI,hfc⟩,h₂⟩:=h₂;obtain rfl:akw=[]:=hkw;obtain⟨hp,g,d,tk,os⟩:=s₂;dsimp[hplain];refine OZ (wpAny_keeperOf_exc hC ?_);refine OZ (yU (hrest:=hlen) F T hC hn hi hfI hfc fun h' e hm=>OU (h₂ h' e hm) (fun r s' hr=>?_) fun _ _ x=>x);obtain⟨hr,dx,t,q1,q2,q3⟩:=hr;exact⟨hr,OZ (O0 (wpAny_point (O5 ⟨e,dx,t,rfl,q1,q2,q3⟩)))⟩
end
end PySem
namespace ρ2
open PySem PySem.Spec PyProof.Rows
theorem cf.thr{h:Heap}{o:HO}(x:cf P w H h a o):∃ob,h.get? a=some ob:=by
 cases o with
 |lst xs=>obtain⟨_,_,_,_,e⟩:=x;exact⟨_,e⟩
 |tup xs=>obtain⟨_,_,_,ob,e,_⟩:=x;exact⟨_,e⟩
 |dK kvs=>obtain⟨_,_,_,_,o,_,_,e,_⟩:=x;exact⟨_,e⟩
 |dT kvs=>obtain⟨_,_,_,_,o,_,_,e,_⟩:=x;exact⟨_,e⟩
 |set S n=>obtain⟨o,_,_,_,e,_⟩:=x;exact⟨_,e⟩
 |ins C dx fs=>obtain⟨_,_,_,e,_⟩:=x;exact⟨_,e⟩
 |own y=>obtain⟨_,e⟩:=x;exact⟨_,e⟩
 |xd fs=>obtain⟨_,⟨_,_,_,e,_⟩,_⟩:=x;exact⟨_,e⟩
 |rng lo hi=>obtain⟨_,_,_,e⟩:=x;exact⟨_,e⟩
 |frz ob u=>obtain⟨e,_⟩:=x;exact⟨_,e⟩
 |tbl ps=>exact⟨_,show h.get? a=some _ from x⟩
 |met f y=>exact⟨_,show h.get? a=some _ from x⟩
 |ext φ=>obtain⟨_,⟨_,e⟩,_⟩:=x;exact⟨_,e⟩
theorem y9{fs:List Addr}{H':Hp}{h0 h1 σ:Heap}(u:Un fs [] H0 H' h0 h1)(hB:∀b o,h0.get? b=some o->b∉fs->∃o',σ.get? b=some o')(k1:σ.StaysIn h1)(k2:σ.StaysIn h')(up:h1.UpToSlots h')(hf:∀b∈fs,H0 b=none/\∃o,h0.get? b=some o/\∀vs,o.data≠.fields vs):Un fs [] H0 H' h0 h' where
 keep:=fun b o e n hb hx=>by
  obtain⟨o',q⟩:=hB b o e hb;have q1:=k1 b o' q;rw[u.keep b o e n hb hx]at q1;cases q1;exact k2 b o q
 slot:=fun b o e n hb hx=>by
  obtain⟨sl,q⟩:=u.slot b o e n hb hx;obtain⟨_,o1,e1,nf⟩:=hf b hb;rw[e]at e1;cases e1;obtain⟨sl',q'⟩:=up b _ q nf;exact⟨sl',q'⟩
 free:=u.free
 there:=fun b o e hx=>by
  by_cases hb:b∈fs
  ·obtain⟨n,o1,e1,nf⟩:=hf b hb;rw[e]at e1;cases e1;obtain⟨sl,q⟩:=u.slot b o e n hb hx;obtain⟨sl',q'⟩:=up b _ q nf;exact⟨_,q'⟩
  ·obtain⟨o',q⟩:=hB b o e hb;exact⟨o',k2 b o' q⟩
 tups:=u.tups
 frzs:=u.frzs
 tbls:=u.tbls
def iS(ea C:Addr)(dx:Option Addr):HO:=.ext fun h=>∃oe,h.get? ea=some oe/\oe.cls=.ref C/\oe.dict=dx/\W.notCls oe=true
def Ah(P:Program)(w:World):vh:=fun outer H s E e s'=>
 ∃ea C a0 dx σ H',e=.ref ea/\s'.os=s.os/\AllBare s'.gens/\Un (mz outer) [] H H' 1e5 s'.heap/\nA P w H' σ/\bF σ outer ea 2e1 a0 dx s'.heap/\H' ea=none /\
  (∀b o,s.heap.get? b=some o->b∉mz outer->∃o',σ.get? b=some o')/\E 2e1 (some ea) (bq H' ea (iS ea C dx))
section
variable{s0:Shared}{E:XK}
abbrev hW(P:Program)(w:World)(K:W.Frag)(mg:Str->Option Value)(base:Heap)(N:List Str)(qual:Str)(scope:Scope)(f:Addr)(cdv:Value)(A:Around)(outer:List Env)(s0:Shared)(H0:Hp)(E:XK):Cx:=pY (Ah P w) P w K mg base N qual scope f cdv A outer s0 H0 E
theorem GZ{b:Addr}(hb:b∈mz (envOfC qual scope s0.heap.objs.size f cdv::outer)):b=s0.heap.objs.size\/b∈mz outer:=by
 obtain⟨env,he,hf⟩:=Pc.mp hb;rcases OM.mp he with rfl|he
 ·exact .inl (Oq hf).symm
 ·exact .inr (Pc.mpr ⟨env,he,hf⟩)
theorem kD(I:aS 0e5 pins B H s){b:Addr}{o:Obj}(e:s0.heap.get? b=some o)(hb:b∉mz outer):
  (∃o',s.heap.get? b=some o')/\b∉mz (envOfC qual scope s0.heap.objs.size f cdv::outer):=
 ⟨I.base.there b o e (fun z => by cases z), fun z => by
  rcases GZ z with z|z
  ·exact absurd (OA e) (by rw[z];exact OC _)
  ·exact hb z⟩
theorem nT(I:aS 0e5 pins B H s):∀b∈mz outer,H0 b=none/\∃o,s0.heap.get? b=some o/\∀vs,o.data≠.fields vs:=
 fun b hb=>⟨I.ok.frf b hb,(I.ok.funs.mem hb).2⟩
theorem zc:jF (Ah P w) 0e5 E:=by
 intro pins B H s e s' I hc;obtain⟨ea,C,a0,dx,σ,H',rfl,os,bare,un,hok,fl,hn,bk,q⟩:=hc;have J:=I.call' os un (hok.kept fl.1) bare (ch:=[]) (fun b z=>absurd z 1e1)
 have hB:∀b o,s0.heap.get? b=some o->b∉mz outer->∃o',σ.get? b=some o':=fun b o e hb=>by
  obtain⟨⟨o1,e1⟩,nb⟩:=kD I e hb;exact bk b o1 e1 nb
 refine og I.ok.frames rfl fl fun h' fl' up=>?_;exact⟨ea,C,a0,dx,σ,H',rfl,J.os,bare,y9 J.base hB fl.1 fl'.1 up (nT I),hok,fl',hn,hB,q⟩
theorem J9{vs:List Value}(I:aS 0e5 pins B H s)(hs:s'={s with heap:=s'.heap})(hx:Heap.MadeExcOf 1e5 s'.heap ea 2e1 vs)(q:H ea=none->E 2e1 (some ea) (bq H ea (iS ea C none))):(hW P w K mg base N qual scope f cdv A outer s0 H0 E).xe (.ref ea) s':=by
 have hn:H ea=none:=by
  cases z:H ea with
  |none=>rfl
  |some u=>
   obtain⟨o,e⟩:=(I.hok ea u z).thr;rw[hx.new]at e;cases e
 have hin:∀env∈(envOfC qual scope s0.heap.objs.size f cdv::outer),∀b,env.frame=some b->b∈mz (envOfC qual scope s0.heap.objs.size f cdv::outer):=fun env he b hb=>Pc.mpr ⟨env,he,hb⟩;have hst:(W.hideAll 1e5 (mz (envOfC qual scope s0.heap.objs.size f cdv::outer))).StaysIn 1e5:=fun b o q=>W.of_hideAll _ q
 have hB:∀b o,s0.heap.get? b=some o->b∉mz outer->∃o',(W.hideAll 1e5 (mz (envOfC qual scope s0.heap.objs.size f cdv::outer))).get? b=some o':=fun b o e hb=>by
  obtain⟨⟨o1,e1⟩,nb⟩:=kD I e hb;exact⟨o1,W.hideAll_get _ e1 nb⟩
 have nfr:∀c u,H c=some u->c∉mz (envOfC qual scope s0.heap.objs.size f cdv::outer):=fun c u e z=>by rw[I.stkFree c z]at e;cases e
 have hok:nA P w H (W.hideAll 1e5 (mz (envOfC qual scope s0.heap.objs.size f cdv::outer))):=fun b u e=>
  (I.hok b u e).stay (fun c v hc r => W.hideAll_get _ r (by
   rcases hc with rfl|hc
   ·exact nfr _ _ e
   ·exact nfr _ _ hc)) (fun _ r=>r) fun _ _ r=>r
 show wpAny _ _ (leaving _ (.ref ea)) _ _ s';obtain⟨t,he,htn,ht⟩:=hx.there;refine i8 (a0:=.ref t) I.ok.frames rfl (fun b o e=>hx.keeps b o (hst b o e)) ((W.funFrames_hide I.stack hin).of_keeps fun b o hb _=>⟨o,hx.keeps b o hb,rfl⟩) ?_ he rfl rfl rfl fun h' fl up=>?_
 ·cases z : (W.hideAll 1e5 (mz (envOfC qual scope s0.heap.objs.size f cdv :: outer))).get? ea with
  |none=>rfl
  |some o'=>have:=hst ea o' z;rw[hx.new]at this;cases this
 ·rw[hs];exact⟨ea,C,.ref t,none,_,H,rfl,I.os,I.bare,y9 I.base hB hst fl.1 ((Heap.UpToSlots.of_keeps hx.keeps).trans up) (nT I),hok,fl,hn,hB,q hn⟩
def Au(mg:Str->Option Value)(base:Heap)(c:Str)(C:Addr):Prop:=∃bm newId σ initId,OwnCls c C bm newId mg base/\ExcBaseFacts σ newId initId bm
theorem AU(O:Au mg base c C)(hg:Gl 0e5 c)(hd:(c == ("__debug__" : Str))=false):
  PS 0e5 (.Raise (some (.Call (.Name c np) [] [] cpos)) none pos) (fun _ _ H=>∀ea,H ea=none->E 2e1 (some ea) (bq H ea (iS ea C none))):=by
 intro pins s B H D I q;obtain⟨bm,newId,σ,initId,O,FB⟩:=O;obtain⟨tl,Nn,nm,qn,bs,hdct,sn,sub,ab,col,dd,k0,k1,k2,k3,k5,mN,hC,hN,hni,T⟩:=O.obj
 refine wpAny_Raise_call_subT (C:=C) (nm:=nm) (q:=qn) (N:=Nn) (bs:=bs) (bm:=tl) (hdct:=hdct) (sn:=sn) (sub:=sub) (ab:=ab) (col:=col) (dd:=dd) (k0:=k0) (k1:=k1) (k2:=k2) (k3:=k3) (k5:=k5)
  FB (mN:=mN) (T.hasType FB.hasBase) (I.ok.hd rfl) rfl hni (jH I hg O.bound ⟨rfl,?_⟩ hd)
 exact evalArgs_empty ⟨rfl,QO _,I.bk _ _ hC,hN.keeps I.bk,T.keeps I.bk,fun h' e hm=>J9 I rfl hm (q e)⟩
end
structure Cx.Fn(X:Cx):Prop where
 ex:X.ex=[]
 stk:X.stack=X.env::X.outer
 fr:X.env.frame=some X.env.locals
def MR(X:Cx)(pins:List 2e9)(E:XK)(e:Value)(s':Shared):Prop:=
 ∃ea C a0 dx σ B H',e=.ref ea/\aS X pins B H' s'/\nA X.prog X.w H' σ/\bF σ X.stack ea 2e1 a0 dx s'.heap/\H' ea=none /\
  (∀b o,X.s₀.heap.get? b=some o->b∉X.fs->∃o',σ.get? b=some o')/\(∀p∈X.pn++pins,∃o',σ.get? p.1=some o')/\E 2e1 (some ea) (bq H' ea (iS ea C dx))
abbrev Cx.tri(X:Cx)(pins:List 2e9)(E:XK):Cx:={X with pn:=X.pn++pins,xe:=MR X pins E}
theorem Cx.Ok.tri{X:Cx}{E:XK}(ok:X.Ok):(X.tri pins E).Ok:=
 ⟨ok.mod,ok.kind,ok.glob,ok.blt,ok.above,ok.inj,ok.has,ok.cab,ok.hd,ok.frames,ok.stk,ok.exf,ok.bs,ok.bsz,ok.noex,ok.exfs,ok.funs,ok.frf⟩
theorem Cx.Ok.untri{X:Cx}{E:XK}(ok:(X.tri pins E).Ok):X.Ok:=
 ⟨ok.mod,ok.kind,ok.glob,ok.blt,ok.above,ok.inj,ok.has,ok.cab,ok.hd,ok.frames,ok.stk,ok.exf,ok.bs,ok.bsz,ok.noex,ok.exfs,ok.funs,ok.frf⟩
section
variable{X:Cx}{pins':List 2e9}{E:XK}
theorem aS.tri(I:aS X pins B H s):aS (X.tri pins E) [] B H s:=
 ⟨I.ok.tri,I.os,I.bare,I.base,I.loc,I.cell,I.free,I.freeC,fun p hp=>I.pin p (by simpa using hp),I.hok,I.len⟩
theorem aS.untri(I:aS (X.tri pins E) pins' B H s):aS X pins B H s:=
 ⟨I.ok.untri,I.os,I.bare,I.base,I.loc,I.cell,I.free,I.freeC,fun p hp=>I.pin p (OP _ hp),I.hok,I.len⟩
theorem SP.untri{D:nF}{f:Flow}(h:SP (X.tri pins E) pins' D f s'):SP X pins D f s':=by
 cases f with
 |next=>obtain⟨B',H',I,q⟩:=h;exact⟨B',H',I.untri,q⟩
 |brk=>obtain⟨B',H',I,q⟩:=h;exact⟨B',H',I.untri,q⟩
 |cont=>obtain⟨B',H',I,q⟩:=h;exact⟨B',H',I.untri,q⟩
 |ret u=>obtain⟨v,B',H',I,r,q⟩:=h;exact⟨v,B',H',I.untri,r,q⟩
end
theorem zU{X:Cx}(F:X.Fn){b:Addr}(hb:b∈mz X.stack):b=X.env.locals\/b∈X.fs:=by
 rw[F.stk]at hb;obtain⟨env,he,hf⟩:=Pc.mp hb;rcases OM.mp he with rfl|he
 ·rw[F.fr]at hf;exact .inl (Oq hf).symm
 ·exact .inr (Pc.mpr ⟨env,he,hf⟩)
theorem HI{X:Cx}{E:XK}(F:X.Fn):jF (Ah X.prog X.w) (X.tri pins E) E:=by
 intro pins' B H s e s' I hc;obtain⟨ea,C,a0,dx,σ,H',rfl,os,bare,un,hok,fl,hn,bk,q⟩:=hc;have J:=I.call' os un (hok.kept fl.1) bare (ch:=[]) (fun b z=>absurd z 1e1);refine⟨ea,C,a0,dx,σ,B,H',rfl,J.untri,hok,fl,hn,fun b o e hb=>?_,fun p hp=>?_,q⟩
 ·obtain ⟨o1, e1⟩ := I.base.there b o e (by show b ∉ X.ex; rw [F.ex]; exact fun z => by cases z);refine bk b o1 e1 fun z=>?_;rcases zU F z with z|z
  ·have:=I.ok.above;rw[z]at e;exact absurd (OA e) (Nat.not_lt.mpr this)
  ·exact hb z
 ·obtain ⟨p1, p2, p3, p4, p5⟩ := I.pin p (OP _ hp);refine bk p.1 p.2 p1 fun z=>?_;rcases zU F z with z|z
  ·exact p3 z
  ·exact p4 z
theorem z6{h:Heap}{c:Addr}{v:Option Value}(x:h.IsCell c v)(up:h.UpToSlots h'):h'.IsCell c v:=by
 obtain⟨o,ho,hd⟩:=x;obtain⟨sl,q⟩:=up c o ho fun vs z=>by rw[hd]at z;cases z
 exact⟨_,q,hd⟩
section
variable{X:Cx}{σ:Heap}
theorem aS.up(F:X.Fn)(I:aS X pins B H s)(hok:nA X.prog X.w H σ)(c1:∀b o,X.s₀.heap.get? b=some o->b∉X.fs->∃o',σ.get? b=some o')(c2:∀p∈X.pn++pins,∃o',σ.get? p.1=some o')
  (k1:σ.StaysIn 1e5) (k2:σ.StaysIn h') (up:s.heap.UpToSlots h'):aS X pins B H {s with heap:=h'}:=by
 have hb:Un X.fs [] X.H₀ H X.s₀.heap h':=y9 (by rw[<- F.ex];exact I.base) c1 k1 k2 up fun b hb=>⟨I.ok.frf b hb,(I.ok.funs.mem hb).2⟩;refine⟨I.ok,I.os,I.bare,by rw[F.ex];exact hb,?_,fun x c e=>?_,I.free,I.freeC,fun p hp=>?_,hok.kept k2,I.len⟩
 ·obtain ⟨m, hn, hl⟩ := I.loc;refine⟨m,up.ns hn,fun i x v a b c=>?_⟩;obtain⟨u,r,l⟩:=hl i x v a b c;refine⟨u,r,?_⟩;rcases l with l|⟨k,c,e,hc⟩
  ·exact .inl l
  ·exact .inr ⟨k,c,e,z6 hc up⟩
 ·obtain⟨v,hv⟩:=I.cell x c e;exact⟨v,z6 hv up⟩
 ·obtain⟨p1,p2⟩:=I.pin p hp;obtain⟨o',e⟩:=c2 p hp;have e1:=k1 _ _ e;rw[p1]at e1;cases e1;exact⟨k2 _ _ e,p2⟩
theorem Un.track{fs ex:List Addr}{h0 h:Heap}{o:HO}(u:Un fs ex H0 H h0 h)(hn:h0.get? ea=none)(hH:H ea=none):Un fs ex H0 (bq H ea o) h0 h where
 keep:=u.keep
 slot:=u.slot
 free:=fun b ob e n hx=>by rw[aD fun z=>by rw[z,hn]at e;cases e];exact u.free b ob e n hx
 there:=u.there
 tups:=fun b xs q=>by have:=u.tups b xs q;rw[aD (bH this hH)];exact this
 frzs:=fun b ob xs q=>by have:=u.frzs b ob xs q;rw[aD (bH this hH)];exact this
 tbls:=fun b ps q=>by obtain⟨m,this⟩:=u.tbls b ps q;exact⟨m,by rw[aD (bH this hH)];exact this⟩
theorem aS.track(F:X.Fn)(I:aS X pins B H s)(c1:∀b o,X.s₀.heap.get? b=some o->b∉X.fs->∃o',σ.get? b=some o')(c2:∀p∈X.pn++pins,∃o',σ.get? p.1=some o')
  (fl:bF σ X.stack ea 2e1 a0 dx 1e5) (hH:H ea=none):aS X pins B (bq H ea (iS ea C dx)) s:=by
 obtain⟨f1,f2,f3,oe,vs,T,oT,ts,he,⟨hc,hdx,_⟩,hd,_⟩:=fl
 have hn:X.s₀.heap.get? ea=none:=by
  cases z:X.s₀.heap.get? ea with
  |none=>rfl
  |some o=>
   by_cases hf:ea∈X.fs
   ·obtain⟨_,o1,e1,nf⟩:=I.ok.funs.mem hf;obtain⟨sl,e2⟩:=I.base.slot ea o1 e1 (I.ok.frf ea hf) hf (by rw[F.ex];exact fun z=>by cases z);rw[he]at e2;cases e2;exact absurd hd (nf vs)
   ·obtain⟨o',e⟩:=c1 ea o z hf;rw[f2]at e;cases e
 have nl:X.env.locals≠ea:=fun z=>by
  obtain⟨m,⟨o',es,ep,ho',hd',_⟩,_⟩:=I.loc;rw[z,he]at ho';cases ho';rw[hd]at hd';cases hd'
 refine⟨I.ok,I.os,I.bare,I.base.track hn hH,I.loc,I.cell,by rw[aD nl];exact I.free,fun x c e=>?_,fun p hp=>?_,fun b u q=>?_,I.len⟩
 ·rw [aD fun z => ?_]
  ·exact I.freeC x c e
  ·obtain⟨v,o',ho',hd'⟩:=I.cell x c e;rw[z,he]at ho';cases ho';rw[hd]at hd';cases hd'
 ·obtain ⟨p1, p2, p3, p4, p5⟩ := I.pin p hp;refine⟨p1,?_,p3,p4,p5⟩;rw[aD fun z=>?_]
  ·exact p2
  ·obtain⟨o',e⟩:=c2 p hp;rw[z,f2]at e;cases e
 ·by_cases hb : b = ea
  ·subst hb;rw[aH]at q;cases q;refine⟨⟨oe,he,hc,hdx,by unfold W.notCls;rw[hd]⟩,⟨oe,he⟩,fun h1 h2 a k=>?_⟩;obtain⟨o,e,c⟩:=a;exact⟨o,k o e,c⟩
  ·rw[aD hb]at q;exact(I.hok b u q).stay (fun _ _ _ r=>r) (fun c r=>by rw[aD (bH r hH)];exact r) fun c xs r=>by rw[aD (bH r hH)];exact r
end
abbrev Cx.hnd(X:Cx)(ea:Addr):Cx:={X with A:=X.A.mark (some (.ref ea)),calm:=false,xe:=fun _ _=>False}
theorem aS.hnd{X:Cx}(I:aS X pins B H s):aS (X.hnd ea) pins B H s:=
 ⟨⟨I.ok.mod, I.ok.kind, I.ok.glob, I.ok.blt, I.ok.above, I.ok.inj, I.ok.has, I.ok.cab, (fun z => by cases z), I.ok.frames, I.ok.stk, I.ok.exf, I.ok.bs, I.ok.bsz, I.ok.noex, I.ok.exfs, I.ok.funs, I.ok.frf⟩,
   I.os,I.bare,I.base,I.loc,I.cell,I.free,I.freeC,I.pin,I.hok,I.len⟩
theorem aS.unhnd{X:Cx}(ok:X.Ok)(I:aS (X.hnd ea) pins B H s):aS X pins B H s:=
 ⟨ok,I.os,I.bare,I.base,I.loc,I.cell,I.free,I.freeC,I.pin,I.hok,I.len⟩
theorem aS.forget{X:Cx}{m:Str->Option Value}(I:aS X pins B H s)(hn:h'.Ns X.env.locals m)(sb:Heap.SameBut X.env.locals 1e5 h'):
  aS X pins (List.replicate X.N.length none) H {s with heap:=h',toks:=t'}:=by
 have ne:∀b o,X.s₀.heap.get? b=some o->b≠X.env.locals:=fun b o e z=>by
  have:=I.ok.above;rw[z]at e;exact absurd (OA e) (Nat.not_lt.mpr this)
 have same:∀b,b≠X.env.locals->h'.get? b=s.heap.get? b:=fun b hb=>sb.2 b hb;refine⟨I.ok,I.os,I.bare,⟨fun b o e n hb hx=>?_,fun b o e n hb hx=>?_,I.base.free,fun b o e hx=>?_,I.base.tups,I.base.frzs,I.base.tbls⟩,⟨m,hn,fun i x v _ e=>?_⟩,fun x c e=>?_,I.free,I.freeC,fun p hp=>?_,fun b u q=>?_,by simp⟩
 ·rw[same b (ne b o e)];exact I.base.keep b o e n hb hx
 ·rw[same b (ne b o e)];exact I.base.slot b o e n hb hx
 ·rw[same b (ne b o e)];exact I.base.there b o e hx
 ·rw[Pv]at e;split at e <;> cases e
 ·obtain⟨v,o,ho,hd⟩:=I.cell x c e;exact⟨v,o,by rw[same c (I.cne x c e)];exact ho,hd⟩
 ·obtain⟨p1,p2,p3,p4⟩:=I.pin p hp;exact⟨by rw[same _ p3];exact p1,p2,p3,p4⟩
 ·have nb : ∀ c u, H c = some u -> c ≠ X.env.locals := fun c u e z => by rw [z, I.free] at e; cases e
  exact(I.hok b u q).stay (fun c v hc r=>by
   rw[same c]
   ·exact r
   ·rcases hc with rfl | hc
    ·exact nb _ _ q
    ·exact nb _ _ hc) (fun _ r=>r) fun _ _ r=>r
theorem Jo{X:Cx}(F:X.Fn){r n:Str}{R:Addr}{hpos:Pos}{suite:List Stmt}{b0:Stmt}{tb:XK->TS}{th:TS}(hN:X.N.Nodup)(hi:X.N[i]?=some n)(hx:Ag X.env.scope n)(hl:X.env.kindOf n=some .local)(hg:Gl X r)(hm:X.mg r=some (.ref R))(hd:(r == ("__debug__" : Str))=false)(hb:∀pins E,ja (X.tri pins E) body (tb E))(hs:∀ea,ja (X.hnd ea) (b0::suite) th):
  PS X (.Try body [.ExceptHandler (some (.Name r np)) (some n) (b0::suite) hpos] [] [] pos) (fun D B H=>∃E:XK,(∀C ea H',E 2e1 (some ea) H'->W.exmOne X.K 2e1 (.ref R)=some true /\
   ∀B':St,B'.length=X.N.length->th {nx:=fun _ _=>False,rt:=D.rt} (B'.set i (some (.ref ea))) H')/\tb E D B H):=by
 intro pins s B H D I hq;obtain⟨E,hE,hq⟩:=hq;refine wpAny_Try_except (OU (hb pins E [] s B H D I.tri hq) (fun f s1 h1=>?_) fun e s1 h1=>?_)
 ·cases f with
  |next=>exact OY (SP.untri h1)
  |brk=>exact SP.untri h1
  |cont=>exact SP.untri h1
  |ret u=>exact SP.untri h1
 ·obtain ⟨ea, C, a0, dx, σ, B1, H1, rfl, I1, hok, fl, hn, c1, c2, q⟩ := h1;obtain⟨q1,q2⟩:=hE C ea _ q;have fl0:=fl;rw[F.stk]at fl;refine pq (by rw[<- F.stk];exact I.ok.frames) F.fr fl fun h4 held4 up4=>?_;refine uJ held4 fun h5 fl5 up5=>?_;have fl5':=fl5;rw[<- F.stk]at fl5';have I5:=I1.up F hok c1 c2 fl0.1 fl5.1 (up4.trans up5);have J5:aS (X.hnd ea) pins B1 H1 {s1 with heap:=h5}:=I5.hnd;refine wpAny_handleBy_cons (codeAny_handlers_test (jH J5 hg hm ?_ hd)) (by intro q;cases q);obtain⟨ob,hob,hobc⟩:=fl5.there
  have LT:W.Looks 0e7 h5 (typeOf (.ref ea)) 2e1:=by
   rw[<- hobc];exact(W.Looks.ld hob).andThen .now
  refine(W.exm_one J5.kIn LT q1).here (codeAny_handlers_suite_as ?_);refine mv fl5 fun h6 fl6 up6=>?_;have fl6':=fl6;rw[<- F.stk]at fl6';have I6:=I5.up F hok c1 c2 fl5.1 fl6.1 up6;have I6':=I6.track F c1 c2 fl6' hn;refine mW (v:=.ref ea) I6' hN hi hx rfl (fun s7 I7=>?_) (.inr hl);refine OU (hs ea pins s7 _ _ _ I7.hnd (q2 B1 I1.len)) (fun f s8 h8=>?_) fun _ _ z=>False.elim z;cases f with
  |next=>obtain⟨_,_,_,z⟩:=h8;exact False.elim z
  |brk=>obtain⟨_,_,_,z⟩:=h8;exact False.elim z
  |cont=>obtain⟨_,_,_,z⟩:=h8;exact False.elim z
  |ret u=>
   obtain⟨v,B',H',I8,rv,z⟩:=h8;have I8':=I8.unhnd I.ok;obtain⟨m,hn8,_⟩:=I8'.loc;refine wpAny_nameGoes hl hn8 (by rw[I.ok.kind];rfl) fun h9 m9 hn9 sb=>?_;exact⟨v,_,H',I8'.forget hn9 sb,rv,z⟩
structure eN(k:Nat)(A:Around):Prop where
 dp:A.depth+3*k+5<recursionLimit
 un:A.units+16*k+200<cLine
 gd:A.guards=some []
theorem dF.h(r:dF k A):eN k A:=⟨r.dp,r.un,r.gd⟩
theorem eN.mark(r:eN k A)(e:Option Value):eN k (A.mark e):=⟨r.dp,r.un,r.gd⟩
theorem eN.mono(r:eN k A)(h:j<=k):eN j A:=⟨by have:=r.dp;omega,by have:=r.un;omega,r.gd⟩
theorem eN.deeper(r:eN (k+1) A)(env:Env):eN k (A.deeper env):=
 ⟨by have:=r.dp;show A.depth+1+3*k+5<_;omega,by have:=r.un;show A.units+3+16*k+200<_;omega,r.gd⟩
theorem eN.depth(r:eN k A):A.depth<recursionLimit:=by have:=r.dp;omega
theorem eN.units(r:eN k A):A.units+64<cLine:=by have:=r.un;omega
structure vQ(P:Program)(w:World)(K:W.Frag)(mg:Str->Option Value)(base:Heap)(CX:vh)(k:Nat)(f:Addr)(fd:FuncData)(ps:List Str)(sp:Sp):Prop where
 len:∀vs H Q E,sp vs H Q E->vs.length=ps.length
 run:∀(A:Around)(outer:List Env)(s:Shared)(H:Hp)(args:Args)(us:List Value)(vs:List V)(Q:VK)(E:XK),eN k A->tW P w K mg base A outer s H->BindsTo s fd args (ps.zip us)->ba vs us->sp vs H Q E ->
  codeAny (model P w) A (.call 3e7 args) (CR CX outer P w H s Q E) s
section
variable{X:Cx}{ps:List Str}{dvs:List V}{ds:List Value}{E:XK}{m:Str}{p:Pos}{o:Expr}{es:List Expr}{t:TA}
theorem FQ{Q:VK}(F:vQ X.prog X.w X.K X.mg X.base CX k f fd ps sp)(hr:eN k X.A)(hb:dM X.K fd ps ds)(hd:ba dvs ds)(hx:jF CX X E)(I:aS X pins B H s)(r:ba vs us)(h:sp (vs++dvs) H Q E):wpAny 0e7 X.A (call 3e7 us) (EP X pins B Q) X.xe s:=by
 have r2:ba (vs++dvs) (us++ds):=r.append hd;have hl:(us++ds).length=ps.length:=by rw[<- r2.length];exact F.len _ _ _ _ h
 refine Pj (Pl (F.run X.A X.stack s H ⟨us,[]⟩ (us++ds) (vs++dvs) Q E hr I.env0 (hb s us I.kIn hl) r2 h) fun r s' hq=>?_);cases r with
 |error e=>exact hx pins B H s e s' I hq
 |ok fl=>
  cases fl with
  |ret u=>exact I.after hq
  |next=>exact False.elim hq
  |brk=>exact False.elim hq
  |cont=>exact False.elim hq
theorem DM(F:vQ X.prog X.w X.K X.mg X.base CX k f fd ps sp)(hr:eN k X.A)(hg:Gl X x)(hm:X.mg x=some 3e7)(hk:W.keepIn X.K 3e7=true)(hb:dM X.K fd ps ds)(hd:ba dvs ds)(hx:jF CX X E)
  (ha:PA X (e::es) t) (hdb:(x == ("__debug__" : Str))=false:=by decide) (he:starEach (e::es) 1e2=(false,eval e 1e2)::starEach es 1e2:=by rfl) (hpl:(backTo pos (starEach es 1e2)).any 2e4=false:=by rfl) :
  PE X (.Call (.Name x p) (e::es) [] pos) (Hu sp dvs E t):=by
 intro pins s B H Q I h;refine Pm (jH I hg hm ?_ hdb);refine W.callWith_K (h₀:=X.base) I.ok.mod.kin hk (dh (ha pos pins s B H _ I h) fun us s1 ⟨vs,H1,I1,r,q⟩=>⟨I1.kIn,?_⟩) he hpl;exact FQ F hr hb hd hx I1 r q
end
def qf(CX:vh)(P:Program)(w:World)(K:W.Frag)(mg:Str->Option Value)(base:Heap)(N:List Str)(qual:Str)(scope:Scope)(f:Addr)(cd:Value)(A:Around)(outer:List Env)(s:Shared)(H:Hp)(E:XK):Cx where
 prog:=P
 w:=w
 K:=K
 mg:=mg
 base:=base
 A:=A.deeper (envOfC qual scope 0e3 f cd)
 N:=N
 s₀:=s
 H₀:=H
 env:=envOfC qual scope 0e3 f cd
 outer:=outer
 stack:=envOfC qual scope 0e3 f cd::outer
 ex:=[]
 calm:=false
 fn:=fun _=>true
 pn:=[]
 xe:=fun e s'=>wpAny (model P w) (A.deeper (envOfC qual scope 0e3 f cd)) (leaving (envOfC qual scope 0e3 f cd) e) (fun _ s''=>CX outer H s E e s'') (fun e' s''=>CX outer H s E e' s'') s'
theorem yH{ps:List Str}{cd:Value}{s1:Shared}{E:XK}(S:aR N ps scope)(e0:tW P w K mg base A outer s H)(hl:vs.length=ps.length)(r:ba vs us)(x:InCallC s 0e3 (bindL (envOfC qual scope 0e3 f cd).kindOf (ps.zip us) fun _=>none) (cellsFrom (s.heap.objs.size+1) scope.names []) (bindC (envOfC qual scope 0e3 f cd).kindOf (ps.zip us) fun _=>none) s1):
  aS (qf CX P w K mg base N qual scope f cd A outer s H E) [] (start N vs) H s1:=by
 have hpl:ps.length<=N.length:=by have:=OX List.length S.pre;rw[Pr]at this;omega
 obtain⟨h1,tk,rfl,hk⟩:=x.done;have noA:∀b:Addr,b∉(qf CX P w K mg base N qual scope f cd A outer s H E).ex:=fun b z=>absurd (show b∈([]:List Addr) from z) 1e1
 refine⟨⟨e0.mod,S.kind,rfl,rfl,O9 _,fun y z c h1 h2=>?_,fun y hy=>?_,fun y c _ h=>?_,(fun z=>by cases z),Around.frames_deeper e0.frames,.inr ⟨rfl,rfl⟩,fun b z=>absurd z (noA b),e0.bs,e0.bsz,fun b _ _=>noA b,fun b z=>absurd z (noA b),e0.funs,e0.frf⟩,
  rfl,e0.bare,Un.kept hk,⟨_,x.toInCall.ns,fun i y v h1 h2 h3=>?_⟩,fun y c h=>⟨_,x.cell y c h⟩,e0.hok.fresh (O9 _),fun y c h=>?_,fun p hp=>absurd (show p∈([]:List 2e9) from hp) 1e1,e0.hok.kept hk,?_⟩
 ·exact name_of_addr x.apart (Pt h1) (Pt h2)
 ·have hy : scope.names.lookup y = some .cell \/ scope.names.lookup y = some .free := hy;rcases hy with hy|hy
  ·exact mZ hy
  ·exact absurd rfl (S.nofree _ (Pt hy))
 ·exact OH (x.above y c (Pt h))
 ·have hi:i<vs.length:=by
   unfold start at h2;by_cases hi:i<vs.length
   ·exact hi
   ·rw[Pu (by simpa using hi)]at h2;rw[Pv]at h2;split at h2 <;> cases h2
  have ha:vs[i]?=some v:=by
   unfold start at h2;rw[Pw (by simpa using hi),Px]at h2;cases e:vs[i]? with
   |none=>rw[e]at h2;cases h2
   |some a=>rw[e]at h2;cases h2;rfl
  obtain⟨u,hu,rv⟩:=r.get ha
  have hp:ps[i]?=some y:=by
   rw[<- S.pre,Py 0e1];exact h1
  have ndP:ps.Nodup:=by rw[<- S.pre];exact S.nd.sublist (List.take_sublist _ _)
  refine⟨u,rv,?_⟩;rcases S.par y (Pz hp) with k|k
  ·exact .inl ⟨k,n8 ndP hp hu k⟩
  ·obtain⟨c,e⟩:=mZ (n:=s.heap.objs.size+1) k;refine .inr ⟨.inl k,c,e,?_⟩;have q:=x.cell y c e;rw[oa ndP hp hu (by show scope.names.lookup y≠_;rw[k];decide)]at q;exact q
 ·exact e0.hok.fresh (OH (x.above y c (Pt h)))
 ·unfold start;show _=N.length;rw[PB,PD,PF];omega
theorem KA{name:Str}{dV kV doc pm ct oc:Value}{od:Option Addr}{ps:List Str}(lk:K.lookup f=some ⟨oc,od,.func (W.fnOf name qual params body scope dV kV doc pm an cdv ct),osl⟩)(hcd:W.codeIn K cdv qual=true)(S:aR N ps scope)(len:∀vs H Q E,sp vs H Q E->vs.length=ps.length)(hbody : ∀ (A : Around) (outer : List Env) (s : Shared) (H : Hp) (vs : List V) (Q : VK) (E : XK), eN k (A.deeper (envOfC qual scope 0e3 f cdv)) -> sp vs H Q E ->
   ∃t,ja (qf CX P w K mg base N qual scope f cdv A outer s H E) body t/\t {nx:=fun _ H'=>Q .non H',rt:=Q} (start N vs) H):
  vQ P w K mg base CX (k+1) f (W.fnOf name qual params body scope dV kV doc pm an cdv ct) ps sp:=by
 refine⟨len,fun A outer s H args us vs Q E hr e0 hb r hsp=>?_⟩;have hl:=len _ _ _ _ hsp;have KX:K.In 1e5:=e0.mod.kin.keeps fun b o e=>(e0.bs b o e).1;have lim:s.heap.NoLimit:=e0.mod.nolimit.keeps fun b o e=>(e0.bs b o e).1
 have hkind:∀y∈ps.zip us,scope.names.lookup y.1=some .local\/(scope.names.lookup y.1=some .cell/\((cellsFrom (s.heap.objs.size+1) scope.names []).lookup y.1).isSome=true):=fun⟨n,v⟩ hy=>by
  rcases S.par n (Pp hy).1 with q|q
  ·exact .inl q
  ·exact .inr ⟨q,W.cellsFrom_some _ _ _ (.inl q)⟩
 refine codeAny_call_function hr.depth (KX _ _ lk) rfl S.co S.gen rfl (W.codeRec_of KX hcd) (hb _ _ _ _ ?_);refine wpAny_newFunctionEnv_cells S.kind hkind fun env he s1 x=>?_;subst he;refine⟨lim.keeps x.toInCall.keep,codeAny_func ?_⟩;obtain⟨t,ht,hq⟩:=hbody A outer s H vs Q E (hr.deeper _) hsp;have I:aS (qf CX P w K mg base N qual scope f cdv A outer s H E) [] (start N vs) H s1:=yH S e0 hl r x;refine OU (ht [] s1 (start N vs) H _ I hq) (fun fl s' hs=>?_) fun e s' hs=>hs
 have fin:∀{B':St}{H':Hp}{v:V}{u:Value},aS (qf CX P w K mg base N qual scope f cdv A outer s H E) [] B' H' s'->bG v u->Q v H'->CE outer P w H s Q u s':=
  fun {B' H' v u} J rv q=>⟨v,H',J.os,J.bare,J.base,J.hok,rv,q⟩
 cases fl with
 |ret u=>
  obtain⟨v,B',H',J,rv,q⟩:=hs;exact fin J rv q
 |next=>
  obtain⟨B',H',J,q⟩:=hs;exact fin (v:=V.non) (u:=Value.none) J rfl q
 |brk=>
  obtain⟨_,_,_,q⟩:=hs;exact False.elim q
 |cont=>
  obtain⟨_,_,_,q⟩:=hs;exact False.elim q
section
theorem gf.okH{ps:List Str}(F:gf K x qual st f fd)(S:aR N ps (aq st))(len:∀vs H Q E,sp vs H Q E->vs.length=ps.length)(hbody : ∀ (cdv : Value) (A : Around) (outer : List Env) (s : Shared) (H : Hp) (vs : List V) (Q : VK) (E : XK), eN k (A.deeper (envOfC qual (aq st) 0e3 f cdv)) -> sp vs H Q E ->
   ∃t,ja (qf xK P w K mg base N qual (aq st) f cdv A outer s H E).nox (bD st) t/\t {nx:=fun _ H'=>Q .non H',rt:=Q} (start N vs) H):vQ P w K mg base xK (k+1) f fd ps sp:=by
 obtain⟨oc,od,kV,doc,pm,an,cdv,ct,osl,rfl,lk,hcd⟩:=F.ex;refine KA lk hcd S len fun A outer s H vs Q E hr hsp=>?_;obtain⟨t,h,q⟩:=hbody cdv A outer s H vs Q E hr hsp;exact⟨t,h.nox,q⟩
end
end ρ2
namespace PySem.W
open PySem PySem.Spec PySem.Calls PyProof.Rows
section
variable{K:Frag}{x D:Addr}{a g:Value}{name:Str}{h:Heap}{M:Model}
theorem xo (X:K.In h) (ha:findIn K (.ref D) name=some (some a)) (hg:specialIn K a "__get__" = some (some g)) (ht:takesIn K a=some true):Looks M h (Builtin.ObjectAttr.find (.ref x) (.ref D) name) (.bind g a):=
 (SG X ha).andThen ((show Looks M h (Builtin.ObjectAttr.getOf (some a)) (some g) from looks_specialIn X hg).andThen ((show Looks M h (Builtin.ObjectAttr.dataDescriptor? (some a) (some g)) (some (g,a)) from (looks_takesIn X ht).andThen .now).andThen (Looks.tag .now)))
theorem yO {R:Result->Shared->Prop} (X:K.In 1e5) (ρ:Looks 0e6 1e5 (typeOf (.ref x)) (.ref D)) (hm:mroIn K D 3e6=some true) (hr:R (.ok (.ret (.ref D))) s) :
  codeAny 0e6 A (.call (.builtin "getset_descriptor.__get__") ⟨[.builtin "object.__class__",.ref x,.ref D],[]⟩) R s:=by
 obtain⟨hh,g,d,t,os⟩:=s;have ρ0:Looks 0e6 hh (typeOf (.ref x)) (.ref D):=ρ;have ρ1:Looks 0e6 hh (isSubtype (.ref D) 3e6) true:=looks_mroIn X hm;have hT5:(⟨hh,g,d,t,os⟩:Shared).TypeIs 3e4 "getset_descriptor" := F.typeOf_object_class;have ow:(".".intercalate ("object.__class__".cutAt '.').dropLast) = "object" := by decide +kernel
 refine R7 F.slot_gs_get.plain F.entry_gs_get (F.slot_gs_get.check _ _ _ _ _ _ _ _ hT5 (F.args_gs_get _ _ _) ?_)
 repeat (any_goals (first|assumption|with_reducible refine ρ0.at ?_|(rw[ow])|with_reducible refine ρ1.at ?_|wp_step))
 refine⟨R6 _ 0e8,RU KF.entry_class ?_⟩;unfold Builtin.«object.__class__»
 repeat (any_goals (first|assumption|with_reducible refine ρ0.at ?_|wp_step))
theorem wK {hh:Heap}{g:Array GenState}{d:Drawn}{t:Nat}{os:OsState}{M:Model}{nameV:Value}{Q:Unit->Shared->Prop} (X:K.In hh) (ρ0:Looks M hh (typeOf (.ref x)) (.ref D)) (hmB:mroIn K D 2e0=some true) (hq:Q () ⟨hh,g,d,t,os⟩) :
  wpAny M A (checkBuiltinCall "BaseException.__getattribute__" ⟨[.ref x,nameV],[]⟩) Q E ⟨hh,g,d,t,os⟩:=by
 have hk:builtinKind "BaseException.__getattribute__" = some .slot:=by decide +kernel
 have hsplit:splitId "BaseException.__getattribute__" = some ("BaseException", "__getattribute__"):=by decide +kernel
 have ha:=F.args_bexc_ga (.ref x) nameV;have ρ1:=looks_mroIn (M:=M) X hmB;dsimp[checkBuiltinCall,hk,hsplit];refine OZ ?_
 ·unfold isInstance
  repeat (first|lk|wp_step)
  exact hq
theorem Eh{Q:Fin->Shared->Prop}(X:K.In 1e5)(ρ:Looks 0e6 1e5 (typeOf (.ref x)) (.ref D))(ha:findIn K (.ref D) "__class__" = some (some 3e4))(hn:specialIn K 3e4 "__get__" = some (some (.builtin "getset_descriptor.__get__")))(htk:takesIn K 3e4=some true)(hm:mroIn K D 3e6=some true)(hq:Q (.done (.ret (.ref D))) s):
  wpAny 0e6 A (Builtin.«object.__getattribute__» ⟨[.ref x,.str "__class__" tk],[]⟩) Q E s:=by
 obtain⟨hh,g,d,t,os⟩:=s;have ρ0:Looks 0e6 hh (typeOf (.ref x)) (.ref D):=ρ;have f3:Looks 0e6 hh (Builtin.ObjectAttr.find (.ref x) (.ref D) "__class__") (.bind (.builtin "getset_descriptor.__get__") 3e4):=xo X ha hn htk;unfold Builtin.«object.__getattribute__»
 repeat (any_goals (first|assumption|with_reducible refine ρ0.at ?_|with_reducible refine f3.at ?_|wp_step))
 refine yO (s:=⟨hh,g,d,t,os⟩) X ρ hm ?_
 repeat (any_goals (first|assumption|wp_step))
theorem Bo {Q:Option Value->Shared->Prop} (X:K.In 1e5) (ρ:Looks 0e6 1e5 (typeOf (.ref x)) (.ref D)) (hga:findIn K (.ref D) "__getattribute__" = some (some (.builtin "BaseException.__getattribute__"))) (hgn:findIn K (.ref D) "__getattr__" = some none)
  (ha:findIn K (.ref D) "__class__" = some (some 3e4)) (hn:specialIn K 3e4 "__get__" = some (some (.builtin "getset_descriptor.__get__"))) (htk:takesIn K 3e4=some true) (hm:mroIn K D 3e6=some true) (hmB:mroIn K D 2e0=some true) (hq:Q (some (.ref D)) {s with toks:=s.toks+1}) :
  wpAny 0e6 A (getAttr? (.ref x) "__class__") Q E s:=by
 obtain⟨hh,g,d,t,os⟩:=s;have ρ0:Looks 0e6 hh (typeOf (.ref x)) (.ref D):=ρ;have ρ1:Looks 0e6 hh (typeLookup (.ref D) "__getattribute__") (some (.builtin "BaseException.__getattribute__")):=SG X hga;have ρ2:Looks 0e6 hh (typeLookup (.ref D) "__getattr__") none:=SG X hgn;have f3:=SH.ga.bind (.ref x);have hx2:(Value.builtin "BaseException.__getattribute__" == Value.builtin "object.__getattribute__")=false:=by decide +kernel
 have hx1:(onTheHeap (Value.ref D)&&Value.builtin "BaseException.__getattribute__" == Value.builtin "object.__getattribute__")=false:=by rw[hx2];rfl
 have hx0:(false&&onTheHeap (Value.builtin "BaseException.__getattribute__"))=false:=rfl;unfold getAttr? getAttrBy?
 repeat (any_goals (first|assumption|with_reducible refine ρ0.at ?_|with_reducible refine ρ1.at ?_|with_reducible refine ρ2.at ?_|wp_step))
 refine R7 SH.ga.plain F.entry_bexc_ga (wK X ρ0 hmB (Eh (tk:=t) X ρ0 ha hn htk hm ?_))
 repeat (any_goals (first|assumption|wp_step))
end
def excCls (K:Frag) (D:Addr):Bool:=findIn K (.ref D) "__getattribute__" == some (some (.builtin "BaseException.__getattribute__"))&&findIn K (.ref D) "__getattr__" == some none&&(clsIn K D).isSome&&findIn K (.ref D) "__class__" == some (some 3e4) &&
 mroIn K D 3e6 == some true&&mroIn K D 2e0 == some true&&specialIn K 3e4 "__get__" == some (some (.builtin "getset_descriptor.__get__"))&&takesIn K 3e4 == some true
section
variable{K:Frag}{x D:Addr}
theorem kitx_exc(e:excCls K D=true):KitX K (.ref x) (.ref D) (fun h=>∃ox,h.get? x=some ox/\ox.cls=.ref D):=by
 unfold excCls at e;dsimp[Qg,SI]at e;obtain⟨⟨⟨⟨⟨⟨⟨hga,hgn⟩,hc⟩,ha⟩,hm⟩,hmB⟩,hn⟩,htk⟩:=e
 exact {
  ty:=fun _ _ _ ⟨ox,h1,h2⟩=>h2 ▸ (Looks.ld h1).andThen .now
  it:=fun _ _ X _=>by
   obtain⟨cdD,hcD⟩:=Pq.mp hc;unfold clsIn at hcD;split at hcD
   ·rename_i c' d' cd' sl' ho;intro A' Q' E' s' k q;unfold isType loadHead;exact OZ (wpAny_loadPart (k _ _ (X _ _ ho)) (O5 q))
   ·cases hcD
  ne:=fun h tp dd its n sl X htp=>by
   obtain⟨cdD,hcD⟩:=Pq.mp hc;refine Bool.eq_false_iff.mpr fun q=>?_;have e:D=tp:=Value.ref.inj (SI.mp q);subst e;unfold clsIn at hcD;split at hcD
   ·rename_i c' d' cd' sl' ho;have z:=(X _ _ ho).symm.trans htp;cases z
   ·cases hcD
  ca:=fun {prog w A E Q s} X ⟨ox,h1,h2⟩ h=>Bo X (h2 ▸ (Looks.ld h1).andThen .now) hga hgn ha hn htk hm hmB h}
end
end PySem.W
namespace ρ2
open PySem PySem.Spec PyProof.Rows
def Lm(K:W.Frag)(u:Value):List V->Hp->VK->Prop:=fun xs H Q=>∃a D b v,xs=[.ref a,v]/\bG v u/\(∃dx,H a=some (iS a D dx))/\W.excCls K D=true/\W.kitOne K (.ref D) u=some b/\Q (.bl b) H
theorem wW{X:Cx}(hu:∀v w,bG v u->bG v w->w=u):cM X (.builtin "isinstance") (Lm X.K u):=by
 intro pins s B H xs us Q I r h;obtain⟨a,D,b,v,rfl,rv,⟨dx,ea⟩,hc,e,q⟩:=h;cases r with
 |cons r1 r2=>
  cases r2 with
  |cons r3 r4=>
   cases r4;cases (show _=Value.ref a from r1);have z:=hu v _ rv r3;subst z;obtain⟨⟨oe,h1,h2,_⟩,_⟩:=(show cf X.prog X.w H 1e5 a (iS a D dx) from I.hok a _ ea);exact W.kia_one (W.kitx_exc hc) I.kIn ⟨oe,h1,h2⟩ e (fun z=>nomatch z) fun tk=>⟨.bl b,H,I.tok _,rfl,q⟩
end ρ2
namespace ρ2
open PySem PySem.Spec PyProof.Rows RS
inductive D where
 |non|bl (b:Bool)|int (i:Int)|str (x:Str)|tup (xs:List D)|frz (xs:List D)|obj (n:Nat)
inductive O where
 |lst (xs:List D)|set (ks:List 2e5)|iset (ks:List Int)|dic|exc (c:Str)|exn (c:Str) (fs:List (Str×Int))
abbrev aw:=List O
abbrev Ro:=List (Option D)
def Hl(K:W.Frag)(H:Hp)(a:Addr)(xs:List V):Prop:=
 (∃ o, H a = some (.frz o 2e6)) \/
  ∃(o:Obj) (its:Array Value) (n:Nat),K.lookup a=some o/\o.cls=.type "list" /\ o.dict=none/\o.data=.seq its n/\its.size<=sizeLine/\ba xs its.toList
theorem Hl.sq{xs:List V}(h:Hl K H a xs):fG K H a xs:=by
 rcases h with⟨o,h⟩|h
 ·exact .inl (.inr ⟨o,h⟩)
 ·exact .inr h
section
variable(K:W.Frag)(H:Hp)(Z:List Addr)
mutual
def aN:D->V->Prop
 |.non,v=>v=.non
 |.bl b,v=>v=.bl b
 |.int i,v=>v=.int i
 |.str x,v=>v=.str x
 |.tup xs,v=>∃a vs,v=.ref a/\eK K H a vs/\Reps xs vs
 |.frz xs,v=>∃a vs,v=.ref a/\Hl K H a vs/\Reps xs vs
 |.obj n,v=>∃a,v=.ref a/\Z[n]?=some a
def Reps:List D->List V->Prop
 |[],vs=>vs=[]
 |x::xs,vs=>∃v r,vs=v::r/\aN x v/\Reps xs r
end
end
structure kY(K:W.Frag)(H H':Hp)(Z Z':List Addr):Prop where
 tup:∀a xs,eK K H a xs->eK K H' a xs
 frz:∀a xs,Hl K H a xs->Hl K H' a xs
 pre:∀(n:Nat) a,Z[n]?=some a->Z'[n]?=some a
 xds:∀a fs,H a=some (.xd fs)->H' a=some (.xd fs)
section
variable{H' H1 H2:Hp}{Z' Z1 Z2:List Addr}
theorem kY.refl:kY K H H Z Z:=⟨fun _ _ h=>h,fun _ _ h=>h,fun _ _ h=>h,fun _ _ h=>h⟩
theorem kY.trans(a:kY K H H1 Z Z1)(b:kY K H1 H2 Z1 Z2):kY K H H2 Z Z2:=
 ⟨fun c xs h=>b.tup c xs (a.tup c xs h),fun c xs h=>b.frz c xs (a.frz c xs h),fun n c h=>b.pre n c (a.pre n c h),fun c fs h=>b.xds c fs (a.xds c fs h)⟩
mutual
theorem aN.mono(e:kY K H H' Z Z'):∀{d:D}{v:V},aN K H Z d v->aN K H' Z' d v
 |.non,_,h=>by dsimp[aN]at h⊢;exact h
 |.bl _,_,h=>by dsimp[aN]at h⊢;exact h
 |.int _,_,h=>by dsimp[aN]at h⊢;exact h
 |.str _,_,h=>by dsimp[aN]at h⊢;exact h
 |.tup xs,_,h=>by
  dsimp[aN]at h⊢;obtain⟨a,vs,rfl,h1,h2⟩:=h;exact⟨a,vs,rfl,e.tup a vs h1,Reps.mono e h2⟩
 |.frz xs,_,h=>by
  dsimp[aN]at h⊢;obtain⟨a,vs,rfl,h1,h2⟩:=h;exact⟨a,vs,rfl,e.frz a vs h1,Reps.mono e h2⟩
 |.obj n,_,h=>by
  dsimp[aN]at h⊢;obtain⟨a,rfl,h1⟩:=h;exact⟨a,rfl,e.pre n a h1⟩
theorem Reps.mono(e:kY K H H' Z Z'):∀{ds:List D}{vs:List V},Reps K H Z ds vs->Reps K H' Z' ds vs
 |[],_,h=>by dsimp[Reps]at h⊢;exact h
 |d::ds,_,h=>by
  dsimp[Reps]at h⊢;obtain⟨v,r,rfl,h1,h2⟩:=h;exact⟨v,r,rfl,aN.mono e h1,Reps.mono e h2⟩
end
theorem Reps.nil:Reps K H Z [] []:=by dsimp[Reps]
theorem Reps.cons{d:D}{ds:List D}(h1:aN K H Z d v)(h2:Reps K H Z ds vs):Reps K H Z (d::ds) (v::vs):=by
 dsimp[Reps];exact⟨v,vs,rfl,h1,h2⟩
theorem Reps.length:∀{ds:List D}{vs:List V},Reps K H Z ds vs->vs.length=ds.length
 |[],vs,h=>by dsimp[Reps]at h;rw[h];rfl
 |d::ds,vs,h=>by
  dsimp[Reps]at h;obtain⟨v,r,rfl,h1,h2⟩:=h;simp[Reps.length h2]
theorem Reps.get:∀{ds:List D}{vs:List V}{i:Nat}{d:D},Reps K H Z ds vs->ds[i]?=some d->∃v,vs[i]?=some v/\aN K H Z d v
 |[],_,_,_,_,e=>by simp at e
 |d::ds,vs,i,x,h,e=>by
  dsimp[Reps]at h;obtain⟨v,r,rfl,h1,h2⟩:=h;cases i with
  |zero=>simp at e;subst e;exact⟨v,rfl,h1⟩
  |succ i=>exact Reps.get (i:=i) h2 (by simpa using e)
theorem Reps.append:∀{ds es:List D}{vs ws:List V},Reps K H Z ds vs->Reps K H Z es ws->Reps K H Z (ds++es) (vs++ws)
 |[],_,vs,_,h,g=>by dsimp[Reps]at h;subst h;exact g
 |d::ds,_,vs,_,h,g=>by
  dsimp[Reps]at h;obtain⟨v,r,rfl,h1,h2⟩:=h;exact Reps.cons h1 (Reps.append h2 g)
theorem Reps.take:∀{ds:List D}{vs:List V}(n:Nat),Reps K H Z ds vs->Reps K H Z (ds.take n) (vs.take n)
 |[],vs,n,h=>by dsimp[Reps]at h;subst h;simpa using Reps.nil
 |d::ds,vs,n,h=>by
  dsimp[Reps]at h;obtain⟨v,r,rfl,h1,h2⟩:=h;cases n with
  |zero=>exact Reps.nil
  |succ n=>exact Reps.cons h1 (Reps.take n h2)
theorem Reps.drop:∀{ds:List D}{vs:List V}(n:Nat),Reps K H Z ds vs->Reps K H Z (ds.drop n) (vs.drop n)
 |[],vs,n,h=>by dsimp[Reps]at h;subst h;simpa using Reps.nil
 |d::ds,vs,n,h=>by
  cases n with
  |zero=>exact h
  |succ n=>
   dsimp[Reps]at h;obtain⟨v,r,rfl,h1,h2⟩:=h;exact Reps.drop n h2
theorem Reps.set{d:D}{v:V}(q:aN K H Z d v):∀{ds:List D}{vs:List V}(n:Nat),Reps K H Z ds vs->Reps K H Z (ds.set n d) (vs.set n v)
 |[],vs,n,h=>by dsimp[Reps]at h;subst h;simpa using Reps.nil
 |e::ds,vs,n,h=>by
  dsimp[Reps]at h;obtain⟨v',r,rfl,h1,h2⟩:=h;cases n with
  |zero=>exact Reps.cons q h2
  |succ n=>exact Reps.cons h1 (Reps.set q n h2)
theorem Reps.reverse:∀{ds:List D}{vs:List V},Reps K H Z ds vs->Reps K H Z ds.reverse vs.reverse
 |[],vs,h=>by dsimp[Reps]at h;subst h;exact Reps.nil
 |d::ds,vs,h=>by
  dsimp[Reps]at h;obtain⟨v,r,rfl,h1,h2⟩:=h;rw[Qq,Qq];exact Reps.append (Reps.reverse h2) (Reps.cons h1 Reps.nil)
theorem Reps.one{d:D}(h:Reps K H Z [d] vs):∃v,vs=[v]/\aN K H Z d v:=by
 dsimp[Reps]at h;obtain⟨v,r,rfl,h1,rfl⟩:=h;exact⟨v,rfl,h1⟩
theorem Reps.two{d e:D}(h:Reps K H Z [d,e] vs):∃v u,vs=[v,u]/\aN K H Z d v/\aN K H Z e u:=by
 dsimp[Reps]at h;obtain⟨v,r,rfl,h1,u,r',rfl,h2,rfl⟩:=h;exact⟨v,u,rfl,h1,h2⟩
theorem Reps.snoc{d:D}{ds:List D}(h:Reps K H Z ds vs)(q:aN K H Z d v):Reps K H Z (ds++[d]) (vs++[v]):=h.append (Reps.cons q Reps.nil)
theorem Reps.ints:∀{ns:List Int}{vs:List V},Reps K H Z (ns.map D.int) vs->vs=ns.map V.int
 |[],vs,h=>by dsimp[Qi,Reps]at h;exact h
 |n::ns,vs,h=>by
  dsimp[Qj,Reps]at h;obtain⟨v,r,rfl,h1,h2⟩:=h;dsimp[aN]at h1;rw[h1,Reps.ints h2];rfl
theorem i7:∀(ns:List Int),Reps K H Z (ns.map D.int) (ns.map V.int)
 |[]=>Reps.nil
 |n::ns=>Reps.cons (by dsimp[aN]) (i7 ns)
theorem aC{xs:List D}:aN K H Z (.tup xs) v↔∃a vs,v=.ref a/\eK K H a vs/\Reps K H Z xs vs:=by dsimp[aN]
theorem bo{xs:List D}:aN K H Z (.frz xs) v↔∃a vs,v=.ref a/\Hl K H a vs/\Reps K H Z xs vs:=by dsimp[aN]
theorem aM:aN K H Z (.obj n) v↔∃a,v=.ref a/\Z[n]?=some a:=by dsimp[aN]
theorem ar{n:Int}:aN K H Z (.int n) v↔v=.int n:=by dsimp[aN]
theorem aV{n:Bool}:aN K H Z (.bl n) v↔v=.bl n:=by dsimp[aN]
theorem bh{n:Str}:aN K H Z (.str n) v↔v=.str n:=by dsimp[aN]
theorem bC:aN K H Z .non v↔v=.non:=by dsimp[aN]
end
def rV(K:W.Frag)(w:World)(H:Hp)(Z:List Addr):O->Addr->Prop
 |.lst xs,a=>∃vs,H a=some (.lst vs)/\Reps K H Z xs vs
 |.set ks,a=>∃ps:List KP,ps.map 2e4=ks/\H a=some (.ext fun h=>bS w h a ps)/\(∀p∈ps,p.1∈prs)/\(ps.map 2e4).Nodup/\∀p∈ps,eK K H p.2 (p.1.map V.int)
 |.iset ks,a=>∃ps:List KI,ps.map 2e4=ks/\H a=some (.ext fun h=>dc w h a ps)/\ks.length<=6
 |.dic,a=>H a=some (.dK [])
 |.exc c,a=>∃C dx,W.nsIn K mainGlobals c=some (some 2e1)/\H a=some (iS a C dx)
 |.exn c fs,a=>∃C dx,W.nsIn K mainGlobals c=some (some 2e1)/\H a=some (iS a C (some dx))/\H dx=some (.xd (fs.map fun p=>(p.1,V.int p.2)))
structure dR(K:W.Frag)(w:World)(H:Hp)(Z:List Addr)(Y:aw):Prop where
 len:Z.length=Y.length
 nd:Z.Nodup
 ob:∀(n:Nat) o a,Y[n]?=some o->Z[n]?=some a->rV K w H Z o a
section
variable{H':Hp}{Z':List Addr}{Y:aw}
theorem rV.live{o:O}(h:rV K w H Z o a):H a≠none:=by
 cases o with
 |lst xs=>obtain⟨vs,e,_⟩:=h;rw[e];exact fun z=>by cases z
 |set ks=>obtain⟨ps,_,e,_⟩:=h;rw[e];exact fun z=>by cases z
 |iset ks=>obtain⟨ps,_,e,_⟩:=h;rw[e];exact fun z=>by cases z
 |dic=>have e:H a=some (.dK []):=h;rw[e];exact fun z=>by cases z
 |exc c=>obtain⟨C,dx,_,e⟩:=h;rw[e];exact fun z=>by cases z
 |exn c fs=>obtain⟨C,dx,_,e,_⟩:=h;rw[e];exact fun z=>by cases z
theorem rV.mono{o:O}(h:rV K w H Z o a)(e:kY K H H' Z Z')(ha:H' a=H a):rV K w H' Z' o a:=by
 cases o with
 |lst xs=>obtain⟨vs,q,r⟩:=h;exact⟨vs,ha.trans q,r.mono e⟩
 |set ks=>obtain⟨ps,h1,q,h2,h3,h4⟩:=h;exact⟨ps,h1,ha.trans q,h2,h3,fun p hp=>e.tup _ _ (h4 p hp)⟩
 |iset ks=>obtain⟨ps,h1,q,h2⟩:=h;exact⟨ps,h1,ha.trans q,h2⟩
 |dic=>exact ha.trans h
 |exc c=>obtain⟨C,dx,h1,q⟩:=h;exact⟨C,dx,h1,ha.trans q⟩
 |exn c fs=>obtain⟨C,dx,h1,q,q2⟩:=h;exact⟨C,dx,h1,ha.trans q,e.xds dx _ q2⟩
theorem dR.at(S:dR K w H Z Y){o:O}(e:Y[n]?=some o):∃a,Z[n]?=some a/\rV K w H Z o a:=by
 have hn:n<Y.length:=(OQ.mp e).1;have hn':n<Z.length:=by rw[S.len];exact hn
 exact⟨Z[n],Sw hn',S.ob n o _ e (Sw hn')⟩
theorem dR.live(S:dR K w H Z Y)(h:a∈Z):H a≠none:=by
 obtain⟨n,hn,e⟩:=List.getElem_of_mem h;have hm:n<Y.length:=by rw[<- S.len];exact hn
 exact(S.ob n _ a (Sw hm) (by rw[<- e];exact Sw hn)).live
theorem dR.fresh(S:dR K w H Z Y){p:Addr}(h:H p=none):p∉Z:=fun z=>S.live z h
theorem dR.same(S:dR K w H Z Y)(e:kY K H H' Z Z)(h:∀a,H a≠none->H' a=H a):dR K w H' Z Y:=
 ⟨S.len,S.nd,fun n o a h1 h2=>(S.ob n o a h1 h2).mono e (h a (S.ob n o a h1 h2).live)⟩
theorem bx{p:Addr}{o:HO}(h:H p=none):kY K H (bq H p o) Z Z:=by
 refine⟨fun a xs q=>?_,fun a xs q=>?_,fun _ _ z=>z,fun a fs q=>by rw[aD (bH q h)];exact q⟩
 ·rcases q with (q | ⟨x, q⟩) | q
  ·exact .inl (.inl (by rw[aD (bH q h)];exact q))
  ·exact .inl (.inr ⟨x,by rw[aD (bH q h)];exact q⟩)
  ·exact .inr q
 ·rcases q with ⟨x, q⟩ | q
  ·exact .inl ⟨x,by rw[aD (bH q h)];exact q⟩
  ·exact .inr q
theorem iX{p:Addr}{o:HO}(h:H p=some (.lst vs)):kY K H (bq H p o) Z Z:=by
 refine⟨fun a xs q=>?_,fun a xs q=>?_,fun _ _ z=>z,fun a fs q=>by rw[aD (oF q h (by intro z;cases z))];exact q⟩
 ·rcases q with (q | ⟨x, q⟩) | q
  ·exact .inl (.inl (by rw[aD (oF q h (by intro z;cases z))];exact q))
  ·exact .inl (.inr ⟨x,by rw[aD (oF q h (by intro z;cases z))];exact q⟩)
  ·exact .inr q
 ·rcases q with ⟨x, q⟩ | q
  ·exact .inl ⟨x,by rw[aD (oF q h (by intro z;cases z))];exact q⟩
  ·exact .inr q
theorem gJ(β:List Addr):kY K H H Z (Z++β):=⟨fun _ _ h=>h,fun _ _ h=>h,fun n a h=>by rw[Pw (OQ.mp h).1];exact h,fun _ _ h=>h⟩
theorem dR.tuple(S:dR K w H Z Y){p:Addr}(h:H p=none):dR K w (bq H p (.tup vs)) Z Y:=
 S.same (bx h) fun a ha=>aD fun z=>ha (by rw[z];exact h)
theorem dR.more(S:dR K w H Z Y){p:Addr}{o:O}{ho:HO}(h:H p=none)(q:rV K w (bq H p ho) (Z++[p]) o p):dR K w (bq H p ho) (Z++[p]) (Y++[o]):=by
 refine⟨by simp[S.len],?_,fun n o' a h1 h2=>?_⟩
 ·rw[RO];exact⟨S.nd,by simp,fun x hx y hy z=>by simp at hy;subst hy;subst z;exact S.fresh h hx⟩
 ·by_cases hn : n < Y.length
  ·rw[Pw hn]at h1;rw[Pw (by rw[S.len];exact hn)]at h2;exact(S.ob n o' a h1 h2).mono ((bx h).trans (gJ [p])) (aD fun z=>(S.ob n o' a h1 h2).live (by rw[z];exact h))
  ·have hn':n=Y.length:=by
    have:=(OQ.mp h1).1;simp at this;omega
   subst hn';rw[Pu (O9 _)]at h1;rw[Pu (by rw[S.len];exact O9 _),S.len]at h2;simp at h1 h2;subst h1;subst h2;exact q
theorem dR.put(S:dR K w H Z Y){xs ys:List D}{us:List V}(h1:Y[n]?=some 2e6)(h2:Z[n]?=some a)(h3:H a=some (.lst us))(q:Reps K H Z ys vs):dR K w (bq H a (.lst vs)) Z (Y.set n (.lst ys)):=by
 have e:=iX (K:=K) (Z:=Z) (o:=.lst vs) h3;refine⟨by simp[S.len],S.nd,fun m o b g1 g2=>?_⟩;have hn:n<Y.length:=(OQ.mp h1).1;by_cases hm:m=n
 ·subst hm;rw[OS hn]at g1;cases g1;rw[h2]at g2;cases g2;exact⟨vs,aH,q.mono e⟩
 ·rw[OT (fun z=>hm z.symm)]at g1;refine(S.ob m o b g1 g2).mono e (aD fun z=>hm ?_);subst z;have i1:=(OQ.mp g2);have i2:=(OQ.mp h2);obtain⟨l1,e1⟩:=i1;obtain⟨l2,e2⟩:=i2;exact(OR S.nd).mp (e1.trans e2.symm)
end
structure cR(K:W.Frag)(H:Hp)(Z:List Addr)(L:Ro)(B:St):Prop where
 len:L.length=B.length
 at':∀(i:Nat) d,L[i]?=some (some d)->∃v,B[i]?=some (some v)/\aN K H Z d v
theorem cR.mono{H':Hp}{Z':List Addr}{L:Ro}(e:kY K H H' Z Z')(R:cR K H Z L B):cR K H' Z' L B:=
 ⟨R.len,fun i d h=>let ⟨v,h1,h2⟩:=R.at' i d h;⟨v,h1,h2.mono e⟩⟩
theorem cR.set{L:Ro}{d:D}(R:cR K H Z L B)(i:Nat)(q:aN K H Z d v):cR K H Z (L.set i (some d)) (B.set i (some v)):=by
 refine⟨by simp[R.len],fun j d' h=>?_⟩;by_cases hj:j=i
 ·subst hj;have hl:j<L.length:=by have:=(OQ.mp h).1;simpa using this
  rw[OS hl]at h;cases h;exact⟨v,by rw[OS (by rw[<- R.len];exact hl)],q⟩
 ·rw[OT (fun z=>hj z.symm)]at h⊢;exact R.at' j d' h
structure DX where
 cls:Str
 args:List (Str×Int)
inductive aj(β:Type) where
 |ok (a:β) (Y:aw)|exc (x:DX) (Y:aw)|bad
def aj.bind{γ:Type}(o:aj β)(g:β->aw->aj γ):aj γ:=match o with
 |.ok a Y=>g a Y
 |.exc x Y=>.exc x Y
 |.bad=>.bad
@[simp] theorem aa{γ:Type}{a:β}{Y:aw}{g:β->aw->aj γ}:(aj.ok a Y).bind g=g a Y:=SJ (SK _)
inductive SO where
 |next (L:Ro) (Y:aw)|ret (d:D) (Y:aw)|brk (L:Ro) (Y:aw)|cnt (L:Ro) (Y:aw)|exc (x:DX) (Y:aw)|bad
def aj.bindS(o:aj β)(g:β->aw->SO):SO:=match o with
 |.ok a Y=>g a Y
 |.exc x Y=>.exc x Y
 |.bad=>.bad
@[simp] theorem ae{a:β}{Y:aw}{g:β->aw->SO}:(aj.ok a Y).bindS g=g a Y:=SJ (SK _)
def SO.bind(o:SO)(g:Ro->aw->SO):SO:=match o with
 |.next L Y=>g L Y
 |o=>o
structure Pa where
 K:W.Frag
 w:World
 xw:DX->aw->Hp->List Addr->Prop
abbrev Pa.S(p:Pa):=dR p.K p.w
abbrev Pa.X(p:Pa):=kY p.K
abbrev Pa.R(p:Pa):=aN p.K
abbrev Pa.Rs(p:Pa):=Reps p.K
def aA(p:Pa)(H:Hp)(Z:List Addr)(o:aj β)(R:β->aw->Hp->List Addr->Prop):Prop:=match o with
 |.ok a Y'=>∀H' Z',p.X H H' Z Z'->p.S H' Z' Y'->R a Y' H' Z'
 |.exc x Y'=>∀H' Z',p.X H H' Z Z'->p.S H' Z' Y'->p.xw x Y' H' Z'
 |.bad=>False
def dJ(p:Pa)(H:Hp)(Z:List Addr)(o:SO)(D:nF):Prop:=match o with
 |.next L' Y'=>∀H' Z' B',p.X H H' Z Z'->p.S H' Z' Y'->cR p.K H' Z' L' B'->D.nx B' H'
 |.brk L' Y'=>∀H' Z' B',p.X H H' Z Z'->p.S H' Z' Y'->cR p.K H' Z' L' B'->D.bk B' H'
 |.cnt L' Y'=>∀H' Z' B',p.X H H' Z Z'->p.S H' Z' Y'->cR p.K H' Z' L' B'->D.ct B' H'
 |.ret d Y'=>∀H' Z' v,p.X H H' Z Z'->p.S H' Z' Y'->p.R H' Z' d v->D.rt v H'
 |.exc x Y'=>∀H' Z',p.X H H' Z Z'->p.S H' Z' Y'->p.xw x Y' H' Z'
 |.bad=>False
section
variable{p:Pa}{H1:Hp}{Z1:List Addr}{γ:Type}
theorem aA.imp{o:aj β}{R R':β->aw->Hp->List Addr->Prop}(h:aA p H Z o R)(k:∀a Y' H' Z',p.X H H' Z Z'->p.S H' Z' Y'->R a Y' H' Z'->R' a Y' H' Z'):aA p H Z o R':=by
 cases o with
 |ok a Y=>exact fun H' Z' e s=>k a Y H' Z' e s (h H' Z' e s)
 |exc x Y=>exact h
 |bad=>exact h
theorem aA.from{o:aj β}{R:β->aw->Hp->List Addr->Prop}(e:p.X H H1 Z Z1)(h:aA p H Z o R):aA p H1 Z1 o R:=by
 cases o with
 |ok a Y=>exact fun H' Z' e' s=>h H' Z' (e.trans e') s
 |exc x Y=>exact fun H' Z' e' s=>h H' Z' (e.trans e') s
 |bad=>exact h
theorem aA.bind{o:aj β}{g:β->aw->aj γ}{R:γ->aw->Hp->List Addr->Prop}(h:aA p H Z (o.bind g) R):aA p H Z o (fun a Y1 H1 Z1=>aA p H1 Z1 (g a Y1) R):=by
 cases o with
 |ok a Y=>exact fun H' Z' e s=>aA.from e h
 |exc x Y=>exact h
 |bad=>exact h
theorem aA.now{a:β}{Y:aw}{R:β->aw->Hp->List Addr->Prop}(h:aA p H Z (.ok a Y) R)(s:p.S H Z Y):R a Y H Z:=h H Z kY.refl s
theorem dJ.from{o:SO}{D:nF}(e:p.X H H1 Z Z1)(h:dJ p H Z o D):dJ p H1 Z1 o D:=by
 cases o with
 |next L Y=>exact fun H' Z' B' e' s r=>h H' Z' B' (e.trans e') s r
 |brk L Y=>exact fun H' Z' B' e' s r=>h H' Z' B' (e.trans e') s r
 |cnt L Y=>exact fun H' Z' B' e' s r=>h H' Z' B' (e.trans e') s r
 |ret d Y=>exact fun H' Z' v e' s r=>h H' Z' v (e.trans e') s r
 |exc x Y=>exact fun H' Z' e' s=>h H' Z' (e.trans e') s
 |bad=>exact h
theorem aA.bindS{o:aj β}{g:β->aw->SO}{D:nF}(h:dJ p H Z (o.bindS g) D):aA p H Z o (fun a Y1 H1 Z1=>dJ p H1 Z1 (g a Y1) D):=by
 cases o with
 |ok a Y=>exact fun H' Z' e s=>dJ.from e h
 |exc x Y=>exact h
 |bad=>exact h
end
abbrev ME:=Ro->aw->aj D
abbrev MT:=Ro->aw->aj Bool
abbrev MA:=Ro->aw->aj (List D)
abbrev MS:=Ro->aw->SO
abbrev MG:=D->Ro->aw->aj Ro
abbrev RV(p:Pa)(Q:VK):D->aw->Hp->List Addr->Prop:=fun d _ H' Z'=>∀v,p.R H' Z' d v->Q v H'
def tD(p:Pa)(f:ME):TE:=fun B H Q=>∃Z L Y,p.S H Z Y/\cR p.K H Z L B/\aA p H Z (f L Y) (RV p Q)
def iT(p:Pa)(f:MT):TT:=fun B H Q=>∃Z L Y,p.S H Z Y/\cR p.K H Z L B/\aA p H Z (f L Y) (fun b _ H' _=>Q b H')
def j7(p:Pa)(f:MA):TA:=fun B H Q=>∃Z L Y,p.S H Z Y/\cR p.K H Z L B/\aA p H Z (f L Y) (fun ds _ H' Z'=>∀vs,p.Rs H' Z' ds vs->Q vs H')
def gu(p:Pa)(f:MS):TS:=fun D B H=>∃Z L Y,p.S H Z Y/\cR p.K H Z L B/\dJ p H Z (f L Y) D
def rL(p:Pa)(g:MG):TG:=fun v B H Q=>∃Z L Y d,p.S H Z Y/\cR p.K H Z L B/\p.R H Z d v/\aA p H Z (g d L Y) (fun L' _ H' Z'=>∀B',cR p.K H' Z' L' B'->Q B' H')
theorem PE.weak{X:Cx}{t t':TE}(h:PE X e t)(k:∀B H Q,t' B H Q->t B H Q):PE X e t':=fun pins s B H Q I q=>h pins s B H Q I (k B H Q q)
theorem PT.weak{X:Cx}{t t':TT}(h:PT X e t)(k:∀B H Q,t' B H Q->t B H Q):PT X e t':=fun pins s B H Q I q=>h pins s B H Q I (k B H Q q)
theorem PW.weak{X:Cx}{t t':TT}(h:PW X e t)(k:∀B H Q,t' B H Q->t B H Q):PW X e t':=fun wh pins s B H Q I q=>h wh pins s B H Q I (k B H Q q)
theorem PA.weak{X:Cx}{e:List Expr}{t t':TA}(h:PA X e t)(k:∀B H Q,t' B H Q->t B H Q):PA X e t':=fun pos pins s B H Q I q=>h pos pins s B H Q I (k B H Q q)
theorem PS.weak{X:Cx}{e:Stmt}{t t':TS}(h:PS X e t)(k:∀D B H,t' D B H->t D B H):PS X e t':=fun pins s B H Q I q=>h pins s B H Q I (k Q B H q)
theorem ja.weak{X:Cx}{e:List Stmt}{t t':TS}(h:ja X e t)(k:∀D B H,t' D B H->t D B H):ja X e t':=fun pins s B H Q I q=>h pins s B H Q I (k Q B H q)
def ai(i:Nat):ME:=fun L Y=>match L[i]? with
 |some (some d)=>.ok d Y
 |_=>.bad
def cC(d:D):ME:=fun _ Y=>.ok d Y
def aK(op:D->D->aw->aj D)(fa fb:ME):ME:=fun L Y=>(fa L Y).bind fun a Y1=>(fb L Y1).bind fun b Y2=>op a b Y2
def lu(op:D->aw->aj D)(fa:ME):ME:=fun L Y=>(fa L Y).bind fun a Y1=>op a Y1
def az:MA:=fun _ Y=>.ok [] Y
def af(fa:ME)(fr:MA):MA:=fun L Y=>(fa L Y).bind fun a Y1=>(fr L Y1).bind fun r Y2=>.ok (a::r) Y2
def aB(f:List D->aw->aj D)(fa:MA):ME:=fun L Y=>(fa L Y).bind f
def d9(fa:MA):ME:=aB (fun ds Y=>if ds.length<=sizeLine then .ok (.tup ds) Y else .bad) fa
def iz(fa:MA):ME:=aB (fun ds Y=>if ds.length<=sizeLine then .ok 1e9 (Y++[.lst ds]) else .bad) fa
def EE:D->aw->aj Bool
 |.bl b,Y=>.ok b Y
 |_,_=>.bad
def lx(f:ME):MT:=fun L Y=>(f L Y).bind EE
def sE(f g:MT):MT:=fun L Y=>(f L Y).bind fun b Y1=>if b=true then g L Y1 else .ok false Y1
def rT(f g:MT):MT:=fun L Y=>(f L Y).bind fun b Y1=>if b=true then .ok true Y1 else g L Y1
def gH(f:MT):MT:=fun L Y=>(f L Y).bind fun b Y1=>.ok (!b) Y1
def jm(f g:ME):ME:=fun L Y=>(f L Y).bind fun a Y1=>(EE a Y1).bind fun b Y2=>if b=true then g L Y2 else .ok (.bl false) Y2
def vL(f:ME):ME:=fun L Y=>(f L Y).bind fun a Y1=>(EE a Y1).bind fun b Y2=>.ok (.bl (!b)) Y2
def rO(p:Pa)(op:D->D->aw->aj D)(r:R2):Prop:=∀a b v y H Z Y Q,p.S H Z Y->p.R H Z a v->p.R H Z b y->aA p H Z (op a b Y) (RV p Q)->r v y H Q
def N7(p:Pa)(op:D->aw->aj D)(r:V->Hp->VK->Prop):Prop:=∀a v H Z Y Q,p.S H Z Y->p.R H Z a v->aA p H Z (op a Y) (RV p Q)->r v H Q
def xE(p:Pa)(f:List D->aw->aj D)(r:List V->Hp->VK->Prop):Prop:=∀ds vs H Z Y Q,p.S H Z Y->p.Rs H Z ds vs->aA p H Z (f ds Y) (RV p Q)->r vs H Q
section
variable{p:Pa}
theorem uf{d:D}{Y:aw}{R:Bool->aw->Hp->List Addr->Prop}(h:aA p H Z (EE d Y) R)(r:p.R H Z d v)(s:p.S H Z Y):∃b,d=.bl b/\v=.bl b/\R b Y H Z:=by
 cases d with
 |bl b=>exact⟨b,rfl,aV.mp r,h.now s⟩
 |non=>exact h.elim
 |int i=>exact h.elim
 |str x=>exact h.elim
 |tup xs=>exact h.elim
 |frz xs=>exact h.elim
 |obj n=>exact h.elim
variable{X:Cx}{a b c:Expr}{es:List Expr}{fa fb fc:ME}
theorem I0(h:PE X (.Name x pos) (Ib i)):PE X (.Name x pos) (tD p (ai i)):=h.weak fun B H Q ⟨Z,L,Y,S,R,P⟩=>by
 unfold ai at P;cases e:L[i]? with
 |none=>rw[e]at P;exact P.elim
 |some o=>
  rw[e]at P;cases o with
  |none=>exact P.elim
  |some d=>
   obtain⟨v,h1,h2⟩:=R.at' i d e;exact⟨v,h1,P.now S v h2⟩
theorem BO{d:D}(h:PE X e (tC v))(r:∀H Z,p.R H Z d v):PE X e (tD p (cC d)):=h.weak fun B H Q ⟨Z,L,Y,S,R,P⟩=>P.now S v (r H Z)
theorem nH{op:Operator}{o:D->D->aw->aj D}{r:R2}(ho:jR X (binaryOp op) r)(hd:rO p o r)(ha:PE X a (tD p fa))(hb:PE X b (tD p fb)):PE X (.BinOp a op b pos) (tD p (aK o fa fb)):=
 (Mn ho ha hb).weak fun B H Q ⟨Z,L,Y,S,R,P⟩=>⟨Z,L,Y,S,R,P.bind.imp fun x Y1 H1 Z1 X1 S1 P1 v rv=>⟨Z1,L,Y1,S1,R.mono X1,P1.bind.imp fun y Y2 H2 Z2 X2 S2 P2 u ru=>hd x y v u H2 Z2 Y2 Q S2 (rv.mono X2) ru P2⟩⟩
theorem Jf{o:D->D->aw->aj D}{r:R2}(ho:jR X (compareOp op) r)(hd:rO p o r)(ha:PE X a (tD p fa))(hb:PE X b (tD p fb))(hm:behindInMarks op b=false):PE X (.Compare a [op] [b] pos) (tD p (aK o fa fb)):=
 (Gg ho ha hb hm).weak fun B H Q ⟨Z,L,Y,S,R,P⟩=>⟨Z,L,Y,S,R,P.bind.imp fun x Y1 H1 Z1 X1 S1 P1 v rv=>⟨Z1,L,Y1,S1,R.mono X1,P1.bind.imp fun y Y2 H2 Z2 X2 S2 P2 u ru=>hd x y v u H2 Z2 Y2 Q S2 (rv.mono X2) ru P2⟩⟩
theorem IJ{o:D->D->aw->aj D}{r:R2}(ho:jR X (compareOp op) r)(hd:rO p o r)(ha:PE X a (tD p fa))(hb:PE X b (tD p fb))(hm:behindInMarks op b=false):PT X (.Compare a [op] [b] pos) (iT p (lx (aK o fa fb))):=
 (FX ho ha hb hm).weak fun B H Q ⟨Z, L, Y, S, R, P⟩ => ⟨Z, L, Y, S, R, P.bind.bind.imp fun x Y1 H1 Z1 X1 S1 P1 v rv => ⟨Z1, L, Y1, S1, R.mono X1, P1.bind.imp fun y Y2 H2 Z2 X2 S2 P2 u ru =>
  hd x y v u H2 Z2 Y2 _ S2 (rv.mono X2) ru (P2.imp fun d Y3 H3 Z3 X3 S3 P3 z rz=>by
   obtain⟨k,_,e,q⟩:=uf P3 rz S3
   exact⟨k,e,q⟩)⟩⟩
theorem ρ7{op:UnaryOp}{o:D->aw->aj D}{r:V->Hp->VK->Prop}(ho:Na X (unaryOp op) r)(hd:N7 p o r)(ha:PE X a (tD p fa)):PE X (.UnaryOp op a pos) (tD p (lu o fa)):=
 (Mm ho ha).weak fun B H Q ⟨Z,L,Y,S,R,P⟩=>⟨Z,L,Y,S,R,P.bind.imp fun x Y1 H1 Z1 X1 S1 P1 v rv=>hd x v H1 Z1 Y1 Q S1 rv P1⟩
theorem Jh:PA X [] (j7 p az):=nI.weak fun B H Q ⟨Z,L,Y,S,R,P⟩=>P.now S [] Reps.nil
theorem FO{fr:MA}(ha:PE X a (tD p fa))(hr:PA X es (j7 p fr))(hs:starEach (a::es) 1e2=(false,eval a 1e2)::starEach es 1e2):PA X (a::es) (j7 p (af fa fr)):=
 (hX ha hr hs).weak fun B H Q ⟨Z,L,Y,S,R,P⟩=>⟨Z,L,Y,S,R,P.bind.imp fun x Y1 H1 Z1 X1 S1 P1 v rv=>⟨Z1,L,Y1,S1,R.mono X1,P1.bind.imp fun y Y2 H2 Z2 X2 S2 P2 us ru=>P2.now S2 _ (Reps.cons (rv.mono X2) ru)⟩⟩
theorem Ja{fr:MA}(h:PA X es (j7 p fr)):PE X (.Tuple es k pos) (tD p (d9 fr)):=
 (Jx h).weak fun B H Q ⟨Z, L, Y, S, R, P⟩ => ⟨Z, L, Y, S, R, P.bind.imp fun ds Y1 H1 Z1 X1 S1 P1 vs rv => by
  by_cases hl:ds.length<=sizeLine
  ·rw[Ow hl]at P1;refine⟨by rw[rv.length];exact hl,fun q hq=>?_⟩;exact P1 _ _ (bx hq) (S1.tuple hq) _ (aC.mpr ⟨q,vs,rfl,eK.of aH,rv.mono (bx hq)⟩)
  ·rw [Ox hl] at P1
   exact P1.elim⟩
theorem dA{Y:aw}{ds:List D}{q:Addr}(S:p.S H Z Y)(hq:H q=none)(rv:p.Rs H Z ds vs):
  p.X H (bq H q (.lst vs)) Z (Z++[q])/\p.S (bq H q (.lst vs)) (Z++[q]) (Y++[.lst ds])/\p.R (bq H q (.lst vs)) (Z++[q]) 1e9 (.ref q):=by
 have X1:p.X H (bq H q (.lst vs)) Z (Z++[q]):=(bx hq).trans (gJ [q]);exact⟨X1,S.more hq ⟨vs,aH,rv.mono X1⟩,aM.mpr ⟨q,rfl,by rw[<- S.len];simp⟩⟩
theorem Jc{fr:MA}(h:PA X es (j7 p fr)):PE X (.List es pos) (tD p (iz fr)):=
 (CI h).weak fun B H Q ⟨Z, L, Y, S, R, P⟩ => ⟨Z, L, Y, S, R, P.bind.imp fun ds Y1 H1 Z1 X1 S1 P1 vs rv => by
  by_cases hl:ds.length<=sizeLine
  ·rw[Ow hl]at P1;refine⟨by rw[rv.length];exact hl,fun q hq=>?_⟩;obtain⟨x1,x2,x3⟩:=dA S1 hq rv;exact P1 _ _ x1 x2 _ x3
  ·rw [Ox hl] at P1
   exact P1.elim⟩
variable{ft gt:MT}
theorem IF(ha:PT X a (iT p ft))(hb:PW X (.BoolOp .And (b::rest) pos) (iT p gt)):PW X (.BoolOp .And (a::b::rest) pos) (iT p (sE ft gt)):=
 (Jm ha hb).weak fun B H Q ⟨Z, L, Y, S, R, P⟩ => ⟨Z, L, Y, S, R, P.bind.imp fun k Y1 H1 Z1 X1 S1 P1 => by
  cases k with
  |true=>rw[Ow rfl]at P1⊢;exact⟨Z1,L,Y1,S1,R.mono X1,P1⟩
  |false=>rw[Ox O3]at P1⊢;exact P1.now S1⟩
theorem LZ(ha:PT X a (iT p ft))(hb:PW X (.BoolOp .Or (b::rest) pos) (iT p gt)):PW X (.BoolOp .Or (a::b::rest) pos) (iT p (rT ft gt)):=
 (Mh ha hb).weak fun B H Q ⟨Z, L, Y, S, R, P⟩ => ⟨Z, L, Y, S, R, P.bind.imp fun k Y1 H1 Z1 X1 S1 P1 => by
  cases k with
  |true=>rw[Ow rfl]at P1⊢;exact P1.now S1
  |false=>rw[Ox O3]at P1⊢;exact⟨Z1,L,Y1,S1,R.mono X1,P1⟩⟩
theorem IH(ha:PT X a (iT p ft)):PT X (.UnaryOp .Not a pos) (iT p (gH ft)):=
 (Jn ha).weak fun B H Q ⟨Z,L,Y,S,R,P⟩=>⟨Z,L,Y,S,R,P.bind.imp fun k Y1 H1 Z1 X1 S1 P1=>P1.now S1⟩
theorem Jg(ha:PE X a (tD p fa))(hb:PE X (.BoolOp .And (b::rest) pos) (tD p fb)):PE X (.BoolOp .And (a::b::rest) pos) (tD p (jm fa fb)):=
 (JD ha hb).weak fun B H Q ⟨Z, L, Y, S, R, P⟩ => ⟨Z, L, Y, S, R, P.bind.imp fun d Y1 H1 Z1 X1 S1 P1 v rv => by
  obtain⟨k,_,e,q⟩:=uf P1.bind rv S1;refine⟨k,e,?_⟩;cases k with
  |true=>rw[Ow rfl]at q⊢;exact⟨Z1,L,Y1,S1,R.mono X1,q⟩
  |false=>rw[Ox O3]at q⊢;exact q.now S1 _ (aV.mpr rfl)⟩
theorem Jb(ha:PE X a (tD p fa)):PE X (.UnaryOp .Not a pos) (tD p (vL fa)):=
 (JA ha).weak fun B H Q ⟨Z, L, Y, S, R, P⟩ => ⟨Z, L, Y, S, R, P.bind.imp fun d Y1 H1 Z1 X1 S1 P1 v rv => by
  obtain⟨k,_,e,q⟩:=uf P1.bind rv S1
  exact⟨k,e,q.now S1 _ (aV.mpr rfl)⟩⟩
theorem Dv{id:String}{f:List D->aw->aj D}{fr:MA}{r:List V->Hp->VK->Prop}(hc:cM X (.builtin id) r)(hd:xE p f r)(hg:Gl X x)(hm:X.mg x=none)(hv:bootBuiltins x=some (.builtin id))(ha:PA X (a::es) (j7 p fr))(hn:x ≠ "__name__")(hdb:(x == ("__debug__" : Str))=false)(he:starEach (a::es) 1e2=(false,eval a 1e2)::starEach es 1e2)(hpl:(backTo pos (starEach es 1e2)).any 2e4=false):PE X (.Call (.Name x px) (a::es) [] pos) (tD p (aB f fr)):=
 (mY hc hg hm hv ha hn hdb he hpl).weak fun B H Q ⟨Z,L,Y,S,R,P⟩=>⟨Z,L,Y,S,R,P.bind.imp fun ds Y1 H1 Z1 X1 S1 P1 vs rv=>hd ds vs H1 Z1 Y1 Q S1 rv P1⟩
theorem AN{f:List D->aw->aj D}{fr:MA}{r:List V->Hp->VK->Prop}(hc:cM X (.type T) r)(hd:xE p f r)(hg:Gl X x)(hm:X.mg x=none)(hv:bootBuiltins x=some (.type T))(ha:PA X (a::es) (j7 p fr))(hn:x ≠ "__name__")(hdb:(x == ("__debug__" : Str))=false)(he:starEach (a::es) 1e2=(false,eval a 1e2)::starEach es 1e2)(hpl:(backTo pos (starEach es 1e2)).any 2e4=false):PE X (.Call (.Name x px) (a::es) [] pos) (tD p (aB f fr)):=
 (sP hc hg hm hv ha hn hdb he hpl).weak fun B H Q ⟨Z,L,Y,S,R,P⟩=>⟨Z,L,Y,S,R,P.bind.imp fun ds Y1 H1 Z1 X1 S1 P1 vs rv=>hd ds vs H1 Z1 Y1 Q S1 rv P1⟩
end
def bX(f:ME):MS:=fun L Y=>(f L Y).bindS fun d Y'=>.ret d Y'
def dG:MS:=fun L Y=>.next L Y
def bf(f g:MS):MS:=fun L Y=>(f L Y).bind g
def pF(c:MT)(f g:MS):MS:=fun L Y=>(c L Y).bindS fun b Y1=>if b=true then f L Y1 else g L Y1
def bK(f:ME)(g:MG):MS:=fun L Y=>(f L Y).bindS fun d Y1=>(g d L Y1).bindS fun L' Y2=>.next L' Y2
def mE(f:ME):MS:=fun L Y=>(f L Y).bindS fun _ Y1=>.next L Y1
def BQ(i:Nat)(op:D->D->aw->aj D)(f:ME):MS:=fun L Y=>(ai i L Y).bindS fun a Y0=>(f L Y0).bindS fun b Y1=>(op a b Y1).bindS fun c Y2=>.next (L.set i (some c)) Y2
def ao(i:Nat):MG:=fun d L Y=>.ok (L.set i (some d)) Y
abbrev EO:=List D->Ro->aw->aj Ro
def cz:EO:=fun ds L Y=>match ds with
 |[]=>.ok L Y
 |_::_=>.bad
def aT(g:MG)(u:EO):EO:=fun ds L Y=>match ds with
 |[]=>.bad
 |d::r=>(g d L Y).bind fun L' Y'=>u r L' Y'
def cy(n:Nat)(u:EO):MG:=fun d L Y=>match d with
 |.tup xs=>if xs.length=n then u xs L Y else .bad
 |_=>.bad
def Ak(o i v:D)(Y:aw):aj Unit:=match o,i with
 |.obj n,.int k=>match Y[n]? with
  |some 2e6=>match y0 3e9 k with
   |some j=>.ok () (Y.set n (.lst (xs.set j v)))
   |none=>.bad
  |_=>.bad
 |_,_=>.bad
def oH(fo fi:ME):MG:=fun d L Y=>(fo L Y).bind fun o Y1=>(fi L Y1).bind fun i Y2=>(Ak o i d Y2).bind fun _ Y3=>.ok L Y3
def vm(p:Pa)(g:EO):EK:=fun vs B H Q=>∃Z L Y ds,p.S H Z Y/\cR p.K H Z L B/\p.Rs H Z ds vs/\aA p H Z (g ds L Y) (fun L' _ H' Z'=>∀B',cR p.K H' Z' L' B'->Q B' H')
theorem PG.weak{X:Cx}{t t':TG}(h:PG X e t)(k:∀v B H Q,t' v B H Q->t v B H Q):PG X e t':=fun pins s B H v u Q I r q=>h pins s B H v u Q I r (k v B H Q q)
theorem xI.weak{X:Cx}{e:List Expr}{t t':EK}(h:xI X e t)(k:∀v B H Q,t' v B H Q->t v B H Q):xI X e t':=fun pins s B H v u Q I r q=>h pins s B H v u Q I r (k v B H Q q)
theorem PI.weak{X:Cx}{t t':TI}(h:PI X tg e t)(k:∀B H R,t' B H R->t B H R):PI X tg e t':=fun pins s B H Q I q=>h pins s B H Q I (k B H Q q)
section
variable{p:Pa}{X:Cx}{a b c:Expr}{es:List Expr}{f:ME}{g:MG}{u:EO}{sts:List Stmt}{fs gs:MS}{ft:MT}
theorem IP:ja X [] (gu p dG):=FY.weak fun D B H ⟨Z,L,Y,S,R,P⟩=>P H Z B kY.refl S R
theorem Ds{t u:TS}{D:nF}{B:St}{H:Hp}{Z:List Addr}{o:SO}{k:MS}(h:dJ p H Z (o.bind k) D)
  (hk:∀D B H,gu p k D B H->u D B H):dJ p H Z o {D with nx:=u D}:=by
 cases o with
 |next L Y=>exact fun H' Z' B' e s r=>hk _ _ _ ⟨Z',L,Y,s,r,dJ.from e h⟩
 |brk L Y=>exact h
 |cnt L Y=>exact h
 |ret d Y=>exact h
 |exc x Y=>exact h
 |bad=>exact h
theorem Fp(h1:PS X st (gu p fs))(h2:ja X sts (gu p gs)):ja X (st::sts) (gu p (bf fs gs)):=
 (wc h1 h2).weak fun D B H ⟨Z,L,Y,S,R,P⟩=>⟨Z,L,Y,S,R,Ds (t:=gu p fs) (B:=B) P fun _ _ _ z=>z⟩
theorem IM(h1:PS X st (gu p fs)):ja X [st] (gu p fs):=ur h1
theorem IL(h:PE X e (tD p f)):PS X (.Return (some e) pos) (gu p (bX f)):=
 (Jq h).weak fun D B H ⟨Z,L,Y,S,R,P⟩=>⟨Z,L,Y,S,R,(aA.bindS P).imp fun d Y1 H1 Z1 X1 S1 P1 v rv=>P1 H1 Z1 v kY.refl S1 rv⟩
theorem ρ3{A σ:List Stmt}(hc:PT X c (iT p ft))(ha:ja X A (gu p fs))(hb:ja X σ (gu p gs)):PS X (.If c A σ pos) (gu p (pF ft fs gs)):=
 (Mi hc ha hb).weak fun D B H ⟨Z, L, Y, S, R, P⟩ => ⟨Z, L, Y, S, R, (aA.bindS P).imp fun k Y1 H1 Z1 X1 S1 P1 => by
  cases k with
  |true=>rw[Ow rfl]at P1⊢;exact⟨Z1,L,Y1,S1,R.mono X1,P1⟩
  |false=>rw[Ox O3]at P1⊢;exact⟨Z1,L,Y1,S1,R.mono X1,P1⟩⟩
theorem wZ{D:nF}(h:gu p (bK f g) D B H):BM (tD p f) (rL p g) D B H:=by
 obtain⟨Z,L,Y,S,R,P⟩:=h;exact⟨Z,L,Y,S,R,(aA.bindS P).imp fun d Y1 H1 Z1 X1 S1 P1 v rv=>⟨Z1,L,Y1,d,S1,R.mono X1,rv,(aA.bindS P1).imp fun L' Y2 H2 Z2 X2 S2 P2 B' r'=>P2 H2 Z2 B' kY.refl S2 r'⟩⟩
theorem IS(he:PE X e (tD p f))(hg:PG X tg (rL p g))(hs:swapsWithSole [tg] e pos.line 1e2=pure false)(hw:swappedStores [tg] e 1e2=pure none)
  (h1:(assignEach [tg] 1e2).map (·.2)=[assign tg 1e2]):PS X (.Assign [tg] e pos) (gu p (bK f g)):=(Jt he hg hs hw h1).weak fun D B H h=>wZ h
theorem qS{Q:St->Hp->Prop}(h:rL p (ao i) v B H Q):vG i v B H Q:=by
 obtain⟨Z,L,Y,d,S,R,r,P⟩:=h;exact P.now S _ (R.set i r)
theorem FH(hN:X.N.Nodup)(hi:X.N[i]?=some x)(hx:Ag X.env.scope x)(hf:X.fn x=true\/X.env.scope.names.lookup x=some .local):PG X (.Name x pos) (rL p (ao i)):=
 (Ga hN hi hx hf).weak fun v B H Q h=>qS h
theorem IK(hN:X.N.Nodup)(hi:X.N[i]?=some x)(hx:Ag X.env.scope x)(he:PE X e (tD p f))(hs:swapsWith e (some (.Name x pos')) pos.line 1e2=pure false)(hf:X.fn x=true\/X.env.scope.names.lookup x=some .local):
  PS X (.Assign [.Name x pos'] e pos) (gu p (bK f (ao i))):=(Jp hN hi hx he hs hf).weak fun D B H h=>by
 obtain⟨Z,L,Y,S,R,P⟩:=wZ h;exact⟨Z,L,Y,S,R,P.imp fun d Y1 H1 Z1 X1 S1 P1 v rv=>qS (P1 v rv)⟩
theorem Fo(he:PE X e (tD p f))(hs:swapsWith e none pos.line 1e2=pure false):PS X (.Expr e pos) (gu p (mE f)):=
 (F2 he hs).weak fun D B H ⟨Z,L,Y,S,R,P⟩=>⟨Z,L,Y,S,R,(aA.bindS P).imp fun d Y1 H1 Z1 X1 S1 P1 v rv=>P1 H1 Z1 B kY.refl S1 (R.mono X1)⟩
theorem FG:xI X [] (vm p cz):=F9.weak fun vs B H Q ⟨Z,L,Y,ds,S,R,r,P⟩=>by
 cases ds with
 |nil=>dsimp[Reps]at r;exact⟨r,P.now S B R⟩
 |cons d ds=>exact P.elim
theorem Dn(h1:PG X e (rL p g))(h2:xI X es (vm p u))(hs:(assignEach (e::es) 1e2).map (·.2)=assign e 1e2::(assignEach es 1e2).map (·.2)):xI X (e::es) (vm p (aT g u)):=
 (DH h1 h2 hs).weak fun vs B H Q ⟨Z, L, Y, ds, S, R, r, P⟩ => by
  cases ds with
  |nil=>exact P.elim
  |cons d ds=>
   dsimp[Reps]at r;obtain⟨v,vr,rfl,r1,r2⟩:=r;refine⟨v,vr,rfl,Z,L,Y,d,S,R,r1,?_⟩;exact(aA.bind (o:=g d L Y) P).imp fun L' Y1 H1 Z1 X1 S1 P1 B' r'=>⟨Z1,L',Y1,ds,S1,r',r2.mono X1,P1⟩
theorem IY(hK:X.K=p.K)(hc:X.calm=true)(h:xI X es (vm p u))(hn:(assignEach es 1e2).length=n)(hst:(assignEach es 1e2).findIdx? 2e4=none):PG X (.Tuple es k pos) (rL p (cy n u)):=
 (Jv hc h hn hst).weak fun v B H Q ⟨Z, L, Y, d, S, R, r, P⟩ => by
  cases d with
  |tup xs=>
   obtain⟨a,vs,rfl,h1,h2⟩:=aC.mp r;have P':aA p H Z (if xs.length=n then u xs L Y else .bad) _:=P;by_cases hl:xs.length=n
   ·rw[Ow hl]at P';exact⟨a,vs,rfl,by rw[hK];exact h1,by rw[h2.length];exact hl,Z,L,Y,xs,S,R,h2,P'⟩
   ·rw[Ox hl]at P';exact P'.elim
  |non=>exact P.elim
  |bl b=>exact P.elim
  |int i=>exact P.elim
  |str x=>exact P.elim
  |frz xs=>exact P.elim
  |obj n=>exact P.elim
theorem FK{o i d:D}{Y:aw}{R:Unit->aw->Hp->List Addr->Prop}{vo vi:V}(S:p.S H Z Y)(ro:p.R H Z o vo)(ri:p.R H Z i vi)(rv:p.R H Z d v)(P:aA p H Z (Ak o i d Y) R):
  Hx vo vi v H fun H'=>∃Y',p.X H H' Z Z/\p.S H' Z Y'/\R () Y' H' Z:=by
 unfold Ak at P;split at P
 ·rename_i n k;split at P
  ·rename_i xs hx;split at P
   ·rename_i j hj;obtain⟨a,ea,us,hH,rr⟩:=S.at hx;obtain⟨a',rfl,ea'⟩:=aM.mp ro;rw[ea]at ea';cases ea';rw[ar.mp ri];have q:=rr.set rv j;refine⟨a,us,k,j,rfl,rfl,hH,by rw[rr.length];exact hj,_,iX hH,S.put hx ea hH q,?_⟩;exact P _ _ (iX hH) (S.put hx ea hH q)
   ·exact P.elim
  ·exact P.elim
 ·exact P.elim
theorem IZ{o i:Expr}{fo fi:ME}(ho:PE X o (tD p fo))(hi:PE X i (tD p fi))
  (ha : ∀ v, assign (.Subscript o i pos) 1e2 v = (do
   let ov <- holding [v] (eval o 1e2)
   let iv <- holding [v,ov] (eval i 1e2)
   standAt pos
   holding [v,ov,iv] (setItem ov iv v)
   release [v,ov,iv] [])):PG X (.Subscript o i pos) (rL p (oH fo fi)):=
 (Jw ho hi Dp ha).weak fun v B H Q ⟨Z, L, Y, d, S, R, r, P⟩ => ⟨Z, L, Y, S, R, (aA.bind P).imp fun od Y1 H1 Z1 X1 S1 P1 vo ro => ⟨Z1, L, Y1, S1, R.mono X1, (aA.bind P1).imp fun id Y2 H2 Z2 X2 S2 P2 vi ri => by
  obtain⟨pp,xs,k,j,e1,e2,e3,e4,Y3,x3,s3,q⟩:=FK S2 (ro.mono X2) ri ((r.mono X1).mono X2) (aA.bind P2)
  exact⟨pp,xs,k,j,e1,e2,e3,e4,q.now s3 B (((R.mono X1).mono X2).mono x3)⟩⟩⟩
theorem IR{op:Operator}{o:D->D->aw->aj D}{r:R2}(hN:X.N.Nodup)(hi:X.N[i]?=some x)(hx:Ag X.env.scope x)(he:PE X e (tD p f))(ho:Nd X op r)(hd:rO p o r)(hf:X.fn x=true\/X.env.scope.names.lookup x=some .local):
  PS X (.AugAssign (.Name x pos') op e pos) (gu p (BQ i o f)):=(Js hN hi hx he ho hf).weak fun D B H ⟨Z,L,Y,S,R,P⟩=>by
 unfold BQ ai at P;cases er:L[i]? with
 |none=>rw[er]at P;exact P.elim
 |some oo=>
  rw[er]at P;cases oo with
  |none=>exact P.elim
  |some d=>
   obtain⟨v,h1,h2⟩:=R.at' i d er;have P':dJ p H Z ((f L Y).bindS fun b Y1=>(o d b Y1).bindS fun c Y2=>.next (L.set i (some c)) Y2) D:=P;refine⟨v,h1,Z,L,Y,S,R,(aA.bindS P').imp fun y Y1 H1 Z1 X1 S1 P1 u ru=>?_⟩;exact hd d y v u H1 Z1 Y1 _ S1 (h2.mono X1) ru ((aA.bindS P1).imp fun z Y2 H2 Z2 X2 S2 P2 t rt=>P2 H2 Z2 _ kY.refl S2 (((R.mono X1).mono X2).set i rt))
end
inductive pj where
 |fix (xs:List D)|own (n:Nat) (xs:List D)|eno (n:Nat) (xs:List D)
def g9:Nat->List D->List D
 |_,[]=>[]
 |i,x::r=>.tup [.int i,x]::g9 (i+1) r
theorem nV:∀{xs:List D}{k i:Nat},(g9 k xs)[i]?=(xs[i]?).map fun x=>D.tup [.int ((k+i:Nat):Int),x]
 |[],_,_=>by simp[g9]
 |x::r,k,0=>by simp[g9]
 |x::r,k,i+1=>by
  dsimp[g9,List.getElem?_cons_succ];rw[nV (xs:=r) (k:=k+1) (i:=i)];congr 1;funext y;congr 4;omega
theorem tx:∀{xs:List D}{k:Nat},(g9 k xs).length=3e9
 |[],_=>rfl
 |x::r,k=>by simp[g9,tx (xs:=r)]
def pj.items:pj->List D
 |.fix xs=>xs
 |.own _ xs=>xs
 |.eno _ xs=>g9 0 xs
def cK:pj->aw->Prop
 |.fix _,_=>True
 |.own n xs,Y=>Y[n]?=some 2e6
 |.eno n xs,Y=>Y[n]?=some 2e6
def xU(p:Pa)(J:It)(src:pj)(H0:Hp)(Z0:List Addr):Prop:=
 ∀H2 Z2 Y2,p.X H0 H2 Z0 Z2->p.S H2 Z2 Y2->cK src Y2 ->
  (∀(i:Nat) d,src.items[i]?=some d->J.go i H2/\∀x H3,J.yld i H2 x H3->p.X H2 H3 Z2 Z2/\p.S H3 Z2 Y2/\p.R H3 Z2 d x)/\J.stop src.items.length H2
abbrev MI:=Ro->aw->aj pj
def vk(p:Pa)(f:MI):TI:=fun B H R=>∃Z L Y,p.S H Z Y/\cR p.K H Z L B/\aA p H Z (f L Y) (fun src Y' H' Z'=>∀J,cK src Y'->xU p J src H' Z'->R J H')
def SO.loop(o:SO)(k:Ro->aw->SO):SO:=match o with
 |.next L Y=>k L Y
 |.cnt L Y=>k L Y
 |.brk L Y=>.next L Y
 |.ret d Y=>.ret d Y
 |.exc x Y=>.exc x Y
 |.bad=>.bad
open Classical in
def fH(src:pj)(g:MG)(fb:MS):List D->Ro->aw->SO
 |[],L,Y=>if cK src Y then .next L Y else .bad
 |d::r,L,Y=>if cK src Y then (g d L Y).bindS fun L' Y'=>(fb L' Y').loop (fH src g fb r) else .bad
def ly(fi:MI)(g:MG)(fb:MS):MS:=fun L Y=>(fi L Y).bindS fun src Y1=>fH src g fb src.items L Y1
def lY(c:MT)(fb:MS):Nat->Ro->aw->SO
 |0,_,_=>.bad
 |n+1,L,Y=>(c L Y).bindS fun b Y1=>if b=true then (fb L Y1).loop (lY c fb n) else .next L Y1
def tZ(n:Nat)(c:MT)(fb:MS):MS:=lY c fb n
section
variable{p:Pa}{X:Cx}{c:Expr}{fi:MI}{g:MG}{fb:MS}{ft:MT}
theorem sV{o:SO}{k:Ro->aw->SO}{D:nF}{N:St->Hp->Prop}(h:dJ p H Z (o.loop k) D)(hN:∀L Y H' Z' B',p.X H H' Z Z'->p.S H' Z' Y->cR p.K H' Z' L B'->dJ p H' Z' (k L Y) D->N B' H'):dJ p H Z o {D with nx:=N,ct:=N,bk:=D.nx}:=by
 cases o with
 |next L Y=>exact fun H' Z' B' e s r=>hN L Y H' Z' B' e s r (dJ.from e h)
 |cnt L Y=>exact fun H' Z' B' e s r=>hN L Y H' Z' B' e s r (dJ.from e h)
 |brk L Y=>exact h
 |ret d Y=>exact h
 |exc x Y=>exact h
 |bad=>exact h
theorem IQ(hp:PassesOwn 0e7 X.A 1e2 X.xe)(hc:X.calm=true)(hi:PI X tg iter (vk p fi))(hg:PG X tg (rL p g))(hb:ja X body (gu p fb))(hs:∀x,foldedSetIterable iter 1e2 x=pure x) :
  PS X (.For tg iter body [] pos) (gu p (ly fi g fb)):=(Jr hp hc hi hg hb hs).weak fun D B H ⟨Z,L,Y,S,R,P⟩=>by
 refine⟨Z,L,Y,S,R,(aA.bindS P).imp fun src Y1 H1 Z1 X1 S1 P1 J hok hJ=>?_⟩
 refine⟨fun i m B2 H2=>m=src.items.length-i/\i<=src.items.length/\∃Z2 L2 Y2,p.X H1 H2 Z1 Z2/\p.S H2 Z2 Y2/\cR p.K H2 Z2 L2 B2/\dJ p H2 Z2 (fH src g fb (src.items.drop i) L2 Y2) D,
  ⟨_,rfl,QO _,Z1,L,Y1,kY.refl,S1,R.mono X1,by simpa using P1⟩,?_⟩
 rintro i m B2 H2 ⟨rfl,hi,Z2,L2,Y2,X2,S2,R2,P2⟩
 by_cases hlt:i<src.items.length
 ·rw [SL hlt] at P2;unfold fH at P2;by_cases ho:cK src Y2
  ·rw [Ow ho] at P2;obtain⟨hgo,hy⟩:=(hJ H2 Z2 Y2 X2 S2 ho).1 i _ (Sw hlt)
   refine .inr ⟨hgo,fun B' H'=>i+1<=src.items.length/\∃Z2 L2 Y2,p.X H1 H' Z1 Z2/\p.S H' Z2 Y2/\cR p.K H' Z2 L2 B'/\dJ p H' Z2 (fH src g fb (src.items.drop (i+1)) L2 Y2) D,
    fun B' H' ⟨h1,h2⟩=>⟨_,by omega,rfl,h1,h2⟩,fun x H3 yx=>?_⟩
   obtain⟨X3,S3,R3⟩:=hy x H3 yx;refine⟨Z2,L2,Y2,_,S3,R2.mono X3,R3,(aA.from X3 (aA.bindS P2)).imp fun L4 Y4 H4 Z4 X4 S4 P4 B4 R4=>⟨Z4,L4,Y4,S4,R4,sV P4 fun L5 Y5 H5 Z5 B5 X5 S5 R5 P5=>⟨hlt,Z5,L5,Y5,((X2.trans X3).trans X4).trans X5,S5,R5,P5⟩⟩⟩
  ·rw[Ox ho]at P2;exact P2.elim
 ·have e : i = src.items.length := by omega
  subst e;rw[SM]at P2;unfold fH at P2;by_cases ho:cK src Y2
  ·rw[Ow ho]at P2;exact .inl ⟨(hJ H2 Z2 Y2 X2 S2 ho).2,P2 H2 Z2 B2 kY.refl S2 R2⟩
  ·rw[Ox ho]at P2;exact P2.elim
theorem De(hp:PassesOwn 0e7 X.A 1e2 X.xe)(hc:PT X c (iT p ft))(hb:ja X body (gu p fb)):PS X (.While c body [] pos) (gu p (tZ n ft fb)):=
 (DE hp hc hb).weak fun D B H ⟨Z, L, Y, S, R, P⟩ => by
  refine⟨fun m B2 H2=>∃Z2 L2 Y2,p.S H2 Z2 Y2/\cR p.K H2 Z2 L2 B2/\dJ p H2 Z2 (lY ft fb m L2 Y2) D,⟨n,Z,L,Y,S,R,P⟩,?_⟩
  rintro m B2 H2 ⟨Z2,L2,Y2,S2,R2,P2⟩
  cases m with
  |zero=>exact P2.elim
  |succ m=>
   unfold lY at P2;refine⟨Z2,L2,Y2,S2,R2,(aA.bindS P2).imp fun k Y3 H3 Z3 X3 S3 P3=>?_⟩;cases k with
   |true=>
    rw[Ow rfl]at P3⊢
    exact⟨fun B' H'=>∃Z2 L2 Y2,p.S H' Z2 Y2/\cR p.K H' Z2 L2 B'/\dJ p H' Z2 (lY ft fb m L2 Y2) D,fun B' H' h=>⟨m,QG _,h⟩,
     Z3,L2,Y3,S3,R2.mono X3,sV P3 fun L5 Y5 H5 Z5 B5 X5 S5 R5 P5=>⟨Z5,L5,Y5,S5,R5,P5⟩⟩
   |false=>
    rw[Ox O3]at P3⊢;exact P3 H3 Z3 B2 kY.refl S3 (R2.mono X3)
end
section
variable{p:Pa}{X:Cx}
theorem Bf{Y:aw}{xs:List D}(S:p.S H Z Y)(hn:Y[n]?=some 2e6)(ha:Z[n]?=some a):xU p (Ng p.K a) (.own n xs) H Z:=by
 intro H2 Z2 Y2 X2 S2 ho;obtain⟨a',ea,vs,hH,rr⟩:=S2.at ho;rw[X2.pre n a ha]at ea;cases ea;refine⟨fun i d hd=>?_,vs,fG.of hH,by rw[rr.length];exact O9 _⟩;obtain⟨v,hv,rv⟩:=rr.get hd;refine⟨⟨vs,v,fG.of hH,hv⟩,fun x H3 ⟨e,hx⟩=>?_⟩;subst e;have:=hx vs (fG.of hH);rw[hv]at this;cases this;exact⟨kY.refl,S2,rv⟩
theorem Ea{xs:List D}(h:Hl p.K H a vs)(r:p.Rs H Z xs vs):xU p (Ng p.K a) (.fix xs) H Z:=by
 intro H2 Z2 Y2 X2 S2 ho;have h2:=(X2.frz a vs h).sq;have rr:=r.mono X2;refine⟨fun i d hd=>?_,vs,h2,by rw[rr.length];exact O9 _⟩;obtain⟨v,hv,rv⟩:=rr.get hd;refine⟨⟨vs,v,h2,hv⟩,fun x H3 ⟨e,hx⟩=>?_⟩;subst e;have:=hx vs h2;rw[hv]at this;cases this;exact⟨kY.refl,S2,rv⟩
theorem D9{xs:List D}(h:eK p.K H a vs)(r:p.Rs H Z xs vs):xU p (Nw p.K a) (.fix xs) H Z:=by
 intro H2 Z2 Y2 X2 S2 ho;have h2:=X2.tup a vs h;have rr:=r.mono X2;refine⟨fun i d hd=>?_,vs,h2,by rw[rr.length];exact O9 _⟩;obtain⟨v,hv,rv⟩:=rr.get hd;refine⟨⟨vs,v,h2,hv⟩,fun x H3 ⟨e,hx⟩=>?_⟩;subst e;have:=hx vs h2;rw[hv]at this;cases this;exact⟨kY.refl,S2,rv⟩
def dv(lo:Int)(n:Nat):List D:=(List.range n).map fun(i:Nat)=>D.int (lo+(i:Int))
theorem wG(lo:Int)(n:Nat):xU p (K1 lo n) (.fix (dv lo n)) H Z:=by
 intro H2 Z2 Y2 X2 S2 ho;refine⟨fun i d hd=>?_,by simp[pj.items,dv,K1]⟩;have hd':(dv lo n)[i]?=some d:=hd;unfold dv at hd';rw[Px]at hd';by_cases hi:i<n
 ·rw[Sh hi]at hd';cases hd';refine⟨hi,fun x H3 ⟨e,hx⟩=>?_⟩;subst e;subst hx;exact⟨kY.refl,S2,ar.mpr rfl⟩
 ·rw[Si (by simpa using hi)]at hd';cases hd'
def xO(d:D)(Y:aw):aj pj:=match d with
 |.tup xs=>.ok (.fix xs) Y
 |.frz xs=>.ok (.fix xs) Y
 |.obj n=>match Y[n]? with
  |some 2e6=>.ok (.own n xs) Y
  |_=>.bad
 |_=>.bad
def gh(f:ME):MI:=fun L Y=>(f L Y).bind xO
def NS(K:W.Frag)(tl:TE):TI:=fun B H R=>tl B H fun x H1=>∃a,x=.ref a/\(((∃xs,fG K H1 a xs)/\R (Ng K a) H1)\/((∃xs,eK K H1 a xs)/\R (Nw K a) H1))
theorem Ju{l:Expr}{tl:TE}(hl:PE X l tl):PI X tg l (NS X.K tl):=by
 intro pins s B H R I h;refine dh (hl pins s B H _ I h) fun v s1 ⟨x,H1,I1,r1,q1⟩=>?_;obtain⟨a,e,q⟩:=q1;subst e;cases r1;rcases q with⟨⟨xs,hq⟩,q⟩|⟨⟨xs,hq⟩,q⟩
 ·obtain ⟨its, rv, p, hz⟩ := I1.list hq;refine R8 p.isList ?_;refine⟨s1.heap.objs.size,[s1.heap.objs.size],_,_,H1,rfl,I1.kept (t':=s1.toks) fun b o e=>O8 _ e,AA a _,⟨_,Oy _ rfl,rfl,rfl⟩,fun b hb=>?_,q⟩;have e:b=s1.heap.objs.size:=by simpa using hb
  subst e;exact I1.fpOk (O9 _) (I1.hok.fresh (O9 _))
 ·obtain ⟨its, rv, p, hz⟩ := I1.tuple hq;refine Q2 (show s1.heap.IsTuple a 2e3 from p) ?_;refine⟨s1.heap.objs.size,[s1.heap.objs.size],_,_,H1,rfl,I1.kept (t':=s1.toks) fun b o e=>O8 _ e,yc a _,⟨_,Oy _ rfl,rfl,rfl⟩,fun b hb=>?_,q⟩;have e:b=s1.heap.objs.size:=by simpa using hb
  subst e;exact I1.fpOk (O9 _) (I1.hok.fresh (O9 _))
theorem IX{l:Expr}{f:ME}(hK:X.K=p.K)(hl:PE X l (tD p f)):PI X tg l (vk p (gh f)):=(Ju hl).weak fun B H R ⟨Z,L,Y,S,Rr,P⟩=>by
 refine⟨Z,L,Y,S,Rr,(aA.bind P).imp fun d Y1 H1 Z1 X1 S1 P1 v rv=>?_⟩;rw[hK];cases d with
 |tup xs=>
  obtain⟨a,vs,rfl,h1,h2⟩:=aC.mp rv;exact⟨a,rfl,.inr ⟨⟨vs,h1⟩,P1.now S1 _ trivial (D9 h1 h2)⟩⟩
 |frz xs=>
  obtain⟨a,vs,rfl,h1,h2⟩:=bo.mp rv;exact⟨a,rfl,.inl ⟨⟨vs,h1.sq⟩,P1.now S1 _ trivial (Ea h1 h2)⟩⟩
 |obj n=>
  obtain⟨a,rfl,ha⟩:=aM.mp rv;unfold xO at P1;dsimp only at P1;split at P1
  ·rename_i xs hx;obtain⟨a',ea,vs,hH,rr⟩:=S1.at hx;rw[ha]at ea;cases ea;exact⟨a,rfl,.inl ⟨⟨vs,fG.of hH⟩,P1.now S1 _ hx (Bf S1 hx ha)⟩⟩
  ·exact P1.elim
 |non=>exact P1.elim
 |bl b=>exact P1.elim
 |int i=>exact P1.elim
 |str x=>exact P1.elim
def lz(ds:List D)(Y:aw):aj pj:=match ds with
 |[.int j]=>if -(2^62)<=j/\j<2^62 then .ok (.fix (dv 0 j.toNat)) Y else .bad
 |_=>.bad
def Al(ds:List D)(Y:aw):aj pj:=match ds with
 |[.int i,.int j]=>if -(2^62)<=i/\i<2^62/\-(2^62)<=j/\j<2^62 then .ok (.fix (dv i (j-i).toNat)) Y else .bad
 |_=>.bad
def jC(f:List D->aw->aj pj)(fa:MA):MI:=fun L Y=>(fa L Y).bind f
theorem AM{a:Expr}{fa:MA}(hg:Gl X "range")(hm:X.mg "range" = none)(ha:PA X [a] (j7 p fa))(hs:starEach [a] 1e2=[(false,eval a 1e2)]):PI X tg (.Call (.Name "range" px) [a] [] pos) (vk p (jC lz fa)):=
 (AY hg hm ha hs).weak fun B H R ⟨Z, L, Y, S, Rr, P⟩ => ⟨Z, L, Y, S, Rr, (aA.bind P).imp fun ds Y1 H1 Z1 X1 S1 P1 vs rv => by
  unfold lz at P1;split at P1
  ·rename_i j;obtain⟨v,rfl,r1⟩:=rv.one;rw[ar.mp r1];split at P1
   ·rename_i hj;exact⟨j,rfl,hj.1,hj.2,P1.now S1 _ trivial (wG 0 _)⟩
   ·exact P1.elim
  ·exact P1.elim⟩
theorem AL{a b:Expr}{fa:MA}(hg:Gl X "range")(hm:X.mg "range" = none)(ha:PA X [a,b] (j7 p fa))(hs:starEach [a,b] 1e2=[(false,eval a 1e2),(false,eval b 1e2)])(hs2:starEach [b] 1e2=[(false,eval b 1e2)]):PI X tg (.Call (.Name "range" px) [a,b] [] pos) (vk p (jC Al fa)):=
 (AX hg hm ha hs hs2).weak fun B H R ⟨Z, L, Y, S, Rr, P⟩ => ⟨Z, L, Y, S, Rr, (aA.bind P).imp fun ds Y1 H1 Z1 X1 S1 P1 vs rv => by
  unfold Al at P1;split at P1
  ·rename_i i j;obtain⟨v,u,rfl,r1,r2⟩:=rv.two;rw[ar.mp r1,ar.mp r2];split at P1
   ·rename_i hj;exact⟨i,j,rfl,hj,P1.now S1 _ trivial (wG i _)⟩
   ·exact P1.elim
  ·exact P1.elim⟩
theorem sW{src:pj}{xs:List D}(hi:src.items=g9 0 xs)(hs:∀H2 Z2 Y2,p.X H H2 Z Z2->p.S H2 Z2 Y2->cK src Y2->∃vs,Sq b p.K H2 a vs/\p.Rs H2 Z2 xs vs ):xU p (Nx b p.K a) src H Z:=by
 intro H2 Z2 Y2 X2 S2 ho;obtain⟨vs,h2,rr⟩:=hs H2 Z2 Y2 X2 S2 ho;rw[hi];refine⟨fun i d hd=>?_,vs,h2,by rw[rr.length,tx]⟩;rw[nV]at hd;cases e:xs[i]? with
 |none=>rw[e]at hd;cases hd
 |some y=>
  rw[e]at hd;cases hd;obtain⟨v,hv,rv⟩:=rr.get e;refine⟨⟨vs,v,h2,hv⟩,fun x H3 ⟨q,w,e1,hq,e2,hx⟩=>?_⟩;subst e1 e2;have:=hx vs h2;rw[hv]at this;cases this;refine⟨bx hq,S2.tuple hq,aC.mpr ⟨q,_,rfl,eK.of aH,?_⟩⟩;rw[Nat.zero_add];exact Reps.cons (ar.mpr rfl) (Reps.cons (rv.mono (bx hq)) Reps.nil)
def mF(ds:List D)(Y:aw):aj pj:=match ds with
 |[.tup xs]=>.ok (.fix (g9 0 xs)) Y
 |[.obj n]=>match Y[n]? with
  |some 2e6=>.ok (.eno n xs) Y
  |_=>.bad
 |_=>.bad
theorem FF{a:Expr}{fa:MA}{tpos:Pos}(hK:X.K=p.K)(hg:Gl X "enumerate")(hm:X.mg "enumerate" = none)(ha:PA X [a] (j7 p fa))(hs:starEach [a] 1e2=[(false,eval a 1e2)]):
  PI X (.Tuple elts k1 tpos) (.Call (.Name "enumerate" px) [a] [] pos) (vk p (jC mF fa)):=
 (F8 hg hm ha hs).weak fun B H R ⟨Z, L, Y, S, Rr, P⟩ => ⟨Z, L, Y, S, Rr, (aA.bind P).imp fun ds Y1 H1 Z1 X1 S1 P1 vs rv => by
  rw[hK];unfold mF at P1;split at P1
  ·rename_i xs;obtain⟨v,rfl,r1⟩:=rv.one;obtain⟨a,us,rfl,h1,h2⟩:=aC.mp r1;exact⟨a,false,rfl,⟨us,h1⟩,P1.now S1 _ trivial (sW (b:=false) rfl fun H2 Z2 Y2 X2 S2 _=>⟨us,X2.tup a us h1,h2.mono X2⟩)⟩
  ·rename_i n;split at P1
   ·rename_i xs hx;obtain⟨v,rfl,r1⟩:=rv.one;obtain⟨a,rfl,ha⟩:=aM.mp r1;obtain⟨a',ea,us,hH,rr⟩:=S1.at hx;rw[ha]at ea;cases ea;refine⟨a,true,rfl,⟨us,fG.of hH⟩,P1.now S1 _ hx (sW (b:=true) rfl fun H2 Z2 Y2 X2 S2 ho=>?_)⟩;obtain⟨a2,ea2,us2,hH2,rr2⟩:=S2.at (show Y2[n]?=some 2e6 from ho);rw[X2.pre n a ha]at ea2;cases ea2;exact⟨us2,fG.of hH2,rr2⟩
   ·exact P1.elim
  ·exact P1.elim⟩
end
def aj.nox(o:aj β):aj β:=match o with
 |.exc _ _=>.bad
 |o=>o
@[simp] theorem ag{a:β}{Y:aw}:(aj.ok a Y).nox=.ok a Y:=SJ (SK _)
abbrev Pa.nx(p:Pa):Pa:=⟨p.K,p.w,fun _ _ _ _=>False⟩
theorem fB{γ:Type}{p:Pa}{o:aj β}{k:β->aw->aj γ}{R:γ->aw->Hp->List Addr->Prop}(h:aA p H Z (o.nox.bind k) R):aA p.nx H Z o (fun a Y1 H1 Z1=>aA p H1 Z1 (k a Y1) R):=by
 cases o with
 |ok a Y=>exact fun H' Z' e s=>aA.from e h
 |exc x Y=>exact False.elim h
 |bad=>exact h
def fJ(cap:List (Option Nat))(L:Ro):Ro:=cap.map fun o=>o.bind fun j=>(L[j]?).join
theorem cR.cap{L:Ro}(R:cR K H Z L B)(cap:List (Option Nat)):cR K H Z (fJ cap L) (qg cap B):=by
 refine⟨by simp[fJ,qg],fun i d h=>?_⟩;unfold fJ at h;unfold qg;rw[Px]at h⊢;cases e:cap[i]? with
 |none=>rw[e]at h;cases h
 |some o=>
  rw[e]at h;cases o with
  |none=>simp at h
  |some j=>
   simp at h⊢
   obtain⟨v,h1,h2⟩:=R.at' j d (by
    cases e2:L[j]? with
    |none=>rw[e2]at h;simp at h
    |some x=>rw[e2]at h;simp at h;rw[h])
   exact⟨v,by rw[h1];rfl,h2⟩
def vD(n:Nat)(y:D)(Y:aw):aj Unit:=match Y[n]? with
 |some (.lst ys)=>if ys.length<sizeLine then .ok () (Y.set n (.lst (ys++[y]))) else .bad
 |_=>.bad
open Classical in
def compLoop(src:pj)(n:Nat)(g:MG)(t:MT)(e:ME):List D->Ro->aw->aj D
 |[],_,Y=>if cK src Y then .ok (.obj n) Y else .bad
 |d::r,L,Y=>if cK src Y then (g d L Y).nox.bind fun L1 Y1=>(t L1 Y1).nox.bind fun b Y2=>if b=true then (e L1 Y2).nox.bind fun y Y3=>(vD n y Y3).bind fun _ Y4=>compLoop src n g t e r L1 Y4 else compLoop src n g t e r L1 Y2 else .bad
def cL(fi:MI)(cap:List (Option Nat))(g:MG)(t:MT)(e:ME):ME:=fun L Y=>(fi L Y).bind fun src Y1=>compLoop src Y1.length g t e src.items (fJ cap L) (Y1++[.lst []])
def cV:MT:=fun _ Y=>.ok true Y
theorem DC{p:Pa}{y:D}{Y:aw}{R:Unit->aw->Hp->List Addr->Prop}(S:p.S H Z Y)(ha:Z[n]?=some acc)(rv:p.R H Z y v)(P:aA p H Z (vD n y Y) R):
  ∃ys,H acc=some (.lst ys)/\ys.length<sizeLine/\∃Y',p.X H (bq H acc (.lst (ys++[v]))) Z Z/\p.S (bq H acc (.lst (ys++[v]))) Z Y'/\R () Y' (bq H acc (.lst (ys++[v]))) Z:=by
 unfold vD at P;split at P
 ·rename_i xs hx;obtain⟨a,ea,us,hH,rr⟩:=S.at hx;rw[ha]at ea;cases ea;split at P
  ·rename_i hl;have q:=rr.snoc rv;exact⟨us,hH,by rw[rr.length];exact hl,_,iX hH,S.put hx ha hH q,P _ _ (iX hH) (S.put hx ha hH q)⟩
  ·exact P.elim
 ·exact P.elim
section
variable{p:Pa}{X:Cx}{ifs:List Expr}{cap:List (Option Nat)}{fi:MI}{g:MG}{t:MT}{e:ME}
theorem tG{Q:VK}(h:tD p (cL fi cap g t e) B H Q):σ4 (vk p fi) cap (rL p.nx g) (iT p.nx t) (tD p.nx e) B H Q:=by
 obtain⟨Z,L,Y,S,R,P⟩:=h;refine⟨Z,L,Y,S,R,(aA.bind P).imp fun src Y1 H1 Z1 X1 S1 P1 J hok hJ acc hacc=>?_⟩;obtain⟨x1,s1,_⟩:=dA (ds:=[]) (vs:=[]) S1 hacc Reps.nil;have hn:(Z1++[acc])[Y1.length]?=some acc:=by rw[<- S1.len];simp
 refine⟨fun i m B2 H2=>m=src.items.length-i/\i<=src.items.length/\∃Z2 L2 Y2,p.X H1 H2 Z1 Z2/\p.S H2 Z2 Y2/\cR p.K H2 Z2 L2 B2/\Z2[Y1.length]?=some acc/\aA p H2 Z2 (compLoop src Y1.length g t e (src.items.drop i) L2 Y2) (RV p Q),
  ⟨_,rfl,QO _,Z1++[acc],fJ cap L,Y1++[.lst []],x1,s1,((R.mono X1).cap cap).mono x1,hn,by simpa using aA.from x1 P1⟩,?_⟩
 rintro i m B2 H2 ⟨rfl,hi,Z2,L2,Y2,X2,S2,R2,a2,P2⟩
 by_cases hlt:i<src.items.length
 ·rw [SL hlt] at P2;unfold compLoop at P2;by_cases ho:cK src Y2
  ·rw [Ow ho] at P2;obtain⟨hgo,hy⟩:=(hJ H2 Z2 Y2 X2 S2 ho).1 i _ (Sw hlt)
   refine .inr ⟨hgo,fun B' H'=>i+1<=src.items.length/\∃Z2 L2 Y2,p.X H1 H' Z1 Z2/\p.S H' Z2 Y2/\cR p.K H' Z2 L2 B'/\Z2[Y1.length]?=some acc/\aA p H' Z2 (compLoop src Y1.length g t e (src.items.drop (i+1)) L2 Y2) (RV p Q),
    fun B' H' ⟨h1,h2⟩=>⟨_,by omega,rfl,h1,h2⟩,fun x H3 yx=>?_⟩
   obtain⟨X3,S3,R3⟩:=hy x H3 yx;refine⟨Z2,L2,Y2,_,S3,R2.mono X3,R3,(aA.from (p:=p.nx) X3 (fB P2)).imp fun L4 Y4 H4 Z4 X4 S4 P4 B4 R4=>?_⟩;refine⟨Z4,L4,Y4,S4,R4,(fB P4).imp fun b Y5 H5 Z5 X5 S5 P5=>?_⟩;have xx:p.X H1 H5 Z1 Z5:=((X2.trans X3).trans X4).trans X5;have a5:Z5[Y1.length]?=some acc:=X5.pre _ _ (X4.pre _ _ (X3.pre _ _ a2));cases b with
   |false=>
    rw[Ox O3]at P5;refine LA ?_;exact⟨hlt,Z5,L4,Y5,xx,S5,R4.mono X5,a5,P5⟩
   |true=>
    rw[Ow rfl]at P5;refine Lz ?_;refine⟨Z5,L4,Y5,S5,R4.mono X5,(fB P5).imp fun y Y6 H6 Z6 X6 S6 P6 v rv=>?_⟩;obtain⟨ys,e1,e2,Y7,x7,s7,q7⟩:=DC (p:=p) S6 (X6.pre _ _ a5) rv (aA.bind P6);exact⟨ys,e1,e2,hlt,Z6,L4,Y7,(xx.trans X6).trans x7,s7,((R4.mono X5).mono X6).mono x7,X6.pre _ _ a5,q7⟩
  ·rw[Ox ho]at P2;exact P2.elim
 ·have e : i = src.items.length := by omega
  subst e;rw[SM]at P2;unfold compLoop at P2;by_cases ho:cK src Y2
  ·rw[Ow ho]at P2;exact .inl ⟨(hJ H2 Z2 Y2 X2 S2 ho).2,P2 H2 Z2 kY.refl S2 _ (aM.mpr ⟨acc,rfl,a2⟩)⟩
  ·rw[Ox ho]at P2;exact P2.elim
theorem Fk{X:Cx}:vg X [] (iT p cV):=fun pins s B H Q I h=>by
 obtain⟨Z,L,Y,S,R,P⟩:=h;exact FW pins s B H Q I (P.now S)
theorem Fj{X:Cx}{c:Expr}{t:MT}(h:PT X c (iT p t)):vg X [c] (iT p t):=FV h
theorem FM(hc:X.calm=true)(S:bQ X.N 1e2 scope Nc cap)(hi:PI X tg iter (vk p fi))
  (hg:∀cl C s H fp,PG 0e9 tg (rL p.nx g)) (ht:∀cl C s H fp,vg 0e9 ifs (iT p.nx t)) (he:∀cl C s H fp,PE 0e9 elt (tD p.nx e))
  (hs:∀x,foldedSetIterable iter 1e2 x=pure x):PE X 3e0 (tD p (cL fi cap g t e)):=
 (Gf hc S hi hg ht he hs).weak fun B H Q h=>tG h
theorem Fm(hc:X.calm=true)(hN:X.N.Nodup)(hix:X.N[i]?=some x)(hx:X.env.scope.names.lookup x=some .local)(S:bQ X.N 1e2 scope Nc cap)(hi:PI X tg iter (vk p fi))(hg:∀cl C s H fp,PG 0e9 tg (rL p.nx g))(ht:∀cl C s H fp,vg 0e9 ifs (iT p.nx t))(he:∀cl C s H fp,PE 0e9 elt (tD p.nx e))(hsw:swapsWith 3e0 (some (.Name x pos1)) pos2.line 1e2=pure true)(hs:∀x,foldedSetIterable iter 1e2 x=pure x):
  PS X (.Assign [.Name x pos1] 3e0 pos2) (gu p (bK (cL fi cap g t e) (ao i))):=
 (FZ hc hN hix hx S hi hg ht he hsw hs).weak fun D B H h => by
  obtain⟨Z,L,Y,S,R,P⟩:=h;refine tG ⟨Z,L,Y,S,R,(aA.bindS P).imp fun d Y1 H1 Z1 X1 S1 P1 v rv=>?_⟩;exact P1 H1 Z1 _ kY.refl S1 ((R.mono X1).set i rv)
end
abbrev MB:=Nat->Ro->aw->aj Ro
open Classical in
def kg(src:pj)(n:Nat)(g:MG)(t:MT)(fb:MB):List D->Ro->aw->aj Ro
 |[],L,Y=>if cK src Y then .ok L Y else .bad
 |d::r,L,Y=>if cK src Y then (g d L Y).nox.bind fun L1 Y1=>(t L1 Y1).nox.bind fun b Y2=>if b=true then (fb n L1 Y2).nox.bind fun L2 Y3=>kg src n g t fb r L2 Y3 else kg src n g t fb r L1 Y2 else .bad
section
variable{p:Pa}
def K4(p:Pa)(fb:MB)(acc:Addr):EL:=fun B H N=>∃Z L Y n,p.S H Z Y/\cR p.K H Z L B/\Z[n]?=some acc/\aA p H Z (fb n L Y) (fun L' _ H' Z'=>∀B',cR p.K H' Z' L' B'->N B' H')
theorem yE{src:pj}{g:MG}{t:MT}{fb:MB}{J:It}{H1:Hp}{Z1 Z0:List Addr}{L:Ro}{Y1:aw}{N:St->Hp->Prop}(X0:p.X H0 H1 Z0 Z1)(S1:p.S H1 Z1 Y1)(R:cR p.K H1 Z1 L B)(hn:Z1[n]?=some acc)(hJ:xU p J src H0 Z0)(P1:aA p H1 Z1 (kg src n g t fb src.items L Y1) (fun L' _ H' Z'=>∀B',cR p.K H' Z' L' B'->N B' H')):Nl J (rL p.nx g) (iT p.nx t) (K4 p.nx fb acc) N B H1:=by
 refine⟨fun i m B2 H2=>m=src.items.length-i/\i<=src.items.length/\∃Z2 L2 Y2,p.X H0 H2 Z0 Z2/\p.S H2 Z2 Y2/\cR p.K H2 Z2 L2 B2/\Z2[n]?=some acc/\aA p H2 Z2 (kg src n g t fb (src.items.drop i) L2 Y2) (fun L' _ H' Z'=>∀B',cR p.K H' Z' L' B'->N B' H'),
  ⟨_,rfl,QO _,Z1,L,Y1,X0,S1,R,hn,by simpa using P1⟩,?_⟩
 rintro i m B2 H2 ⟨rfl,hi,Z2,L2,Y2,X2,S2,R2,a2,P2⟩
 by_cases hlt:i<src.items.length
 ·rw [SL hlt] at P2;unfold kg at P2;by_cases ho:cK src Y2
  ·rw [Ow ho] at P2;obtain⟨hgo,hy⟩:=(hJ H2 Z2 Y2 X2 S2 ho).1 i _ (Sw hlt)
   refine .inr ⟨hgo,fun B' H'=>i+1<=src.items.length/\∃Z2 L2 Y2,p.X H0 H' Z0 Z2/\p.S H' Z2 Y2/\cR p.K H' Z2 L2 B'/\Z2[n]?=some acc/\aA p H' Z2 (kg src n g t fb (src.items.drop (i+1)) L2 Y2) (fun L' _ H' Z'=>∀B',cR p.K H' Z' L' B'->N B' H'),
    fun B' H' ⟨h1,h2⟩=>⟨_,by omega,rfl,h1,h2⟩,fun x H3 yx=>?_⟩
   obtain⟨X3,S3,R3⟩:=hy x H3 yx;refine⟨Z2,L2,Y2,_,S3,R2.mono X3,R3,(aA.from (p:=p.nx) X3 (fB P2)).imp fun L4 Y4 H4 Z4 X4 S4 P4 B4 R4=>?_⟩;refine⟨Z4,L4,Y4,S4,R4,(fB P4).imp fun b Y5 H5 Z5 X5 S5 P5=>?_⟩;have xx:p.X H0 H5 Z0 Z5:=((X2.trans X3).trans X4).trans X5;have a5:Z5[n]?=some acc:=X5.pre _ _ (X4.pre _ _ (X3.pre _ _ a2));cases b with
   |false=>
    rw[Ox O3]at P5;refine LA ?_;exact⟨hlt,Z5,L4,Y5,xx,S5,R4.mono X5,a5,P5⟩
   |true=>
    rw[Ow rfl]at P5;refine Lz ?_;refine⟨Z5,L4,Y5,n,S5,R4.mono X5,a5,(fB P5).imp fun L6 Y6 H6 Z6 X6 S6 P6 B' r'=>?_⟩;exact⟨hlt,Z6,L6,Y6,xx.trans X6,S6,r',X6.pre _ _ a5,P6⟩
  ·rw[Ox ho]at P2;exact P2.elim
 ·have e : i = src.items.length := by omega
  subst e;rw[SM]at P2;unfold kg at P2;by_cases ho:cK src Y2
  ·rw[Ow ho]at P2;exact .inl ⟨(hJ H2 Z2 Y2 X2 S2 ho).2,P2.now S2 _ R2⟩
  ·rw[Ox ho]at P2;exact P2.elim
variable{X:Cx}{cl0 cl:Comprehension}{rest:List Comprehension}{cap:List (Option Nat)}{fi:MI}{g:MG}{t:MT}{fb:MB}{d:Nat}
end
mutual
def D.low(n:Nat):D->Prop
 |.tup xs=>D.lows n xs
 |.frz xs=>D.lows n xs
 |.obj m=>m<n
 |_=>True
def D.lows(n:Nat):List D->Prop
 |[]=>True
 |x::xs=>x.low n/\D.lows n xs
end
def O.low(n:Nat):O->Prop
 |.lst xs=>D.lows n xs
 |_=>True
section
variable{Z':List Addr}
mutual
theorem aN.low:∀{d:D}{v:V},aN K H Z d v->d.low Z.length
 |.non,_,_=>trivial
 |.bl _,_,_=>trivial
 |.int _,_,_=>trivial
 |.str _,_,_=>trivial
 |.tup xs,_,h=>by
  obtain⟨a,vs,rfl,h1,h2⟩:=aC.mp h;dsimp[D.low];exact Reps.low h2
 |.frz xs,_,h=>by
  obtain⟨a,vs,rfl,h1,h2⟩:=bo.mp h;dsimp[D.low];exact Reps.low h2
 |.obj n,_,h=>by
  obtain⟨a,rfl,h1⟩:=aM.mp h;dsimp[D.low];exact(OQ.mp h1).1
theorem Reps.low:∀{ds:List D}{vs:List V},Reps K H Z ds vs->D.lows Z.length ds
 |[],_,_=>trivial
 |d::ds,_,h=>by
  dsimp[Reps]at h;obtain⟨v,r,rfl,h1,h2⟩:=h;dsimp[D.lows];exact⟨aN.low h1,Reps.low h2⟩
end
mutual
theorem aN.cut{n:Nat}(e:∀m,m<n->Z'[m]?=Z[m]?):∀{d:D}{v:V},aN K H Z' d v->d.low n->aN K H Z d v
 |.non,_,h,_=>by dsimp[aN]at h⊢;exact h
 |.bl _,_,h,_=>by dsimp[aN]at h⊢;exact h
 |.int _,_,h,_=>by dsimp[aN]at h⊢;exact h
 |.str _,_,h,_=>by dsimp[aN]at h⊢;exact h
 |.tup xs,_,h,b=>by
  obtain⟨a,vs,rfl,h1,h2⟩:=aC.mp h;dsimp[D.low]at b;exact aC.mpr ⟨a,vs,rfl,h1,Reps.cut e h2 b⟩
 |.frz xs,_,h,b=>by
  obtain⟨a,vs,rfl,h1,h2⟩:=bo.mp h;dsimp[D.low]at b;exact bo.mpr ⟨a,vs,rfl,h1,Reps.cut e h2 b⟩
 |.obj m,_,h,b=>by
  obtain⟨a,rfl,h1⟩:=aM.mp h;dsimp[D.low]at b;exact aM.mpr ⟨a,rfl,by rw[<- e m b];exact h1⟩
theorem Reps.cut{n:Nat}(e:∀m,m<n->Z'[m]?=Z[m]?):∀{ds:List D}{vs:List V},Reps K H Z' ds vs->D.lows n ds->Reps K H Z ds vs
 |[],_,h,_=>by dsimp[Reps]at h⊢;exact h
 |d::ds,_,h,b=>by
  dsimp[Reps]at h⊢;obtain⟨v,r,rfl,h1,h2⟩:=h;dsimp[D.lows]at b;exact⟨v,r,rfl,aN.cut e h1 b.1,Reps.cut e h2 b.2⟩
end
end
def Ig(Y Y':aw)(d:D):Prop:=d.low Y.length/\Y.length<=Y'.length/\∀(i:Nat) o,i<Y.length->Y'[i]?=some o->Y[i]?=some o\/o.low Y.length
open Classical in
def pS(Y:aw)(o:aj D):aj D:=match o with
 |.ok d Y'=>if Ig Y Y' d then .ok d (Y'.take Y.length) else .ok d Y'
 |o=>o
theorem pK{p:Pa}{Y:aw}{o:aj D}{Q:VK}(S:p.S H Z Y)(P:aA p H Z (pS Y o) (RV p Q)):aA p H Z o (RV p Q):=by
 cases o with
 |exc x Y'=>exact P
 |bad=>exact P
 |ok d Y'=>
  unfold pS at P;dsimp only at P;by_cases hg:Ig Y Y' d
  ·rw [Ow hg] at P;obtain⟨g1,g2,g3⟩:=hg;intro H' Z' e s v rv
   have al:∀m,m<Y.length->Z'[m]?=Z[m]?:=fun m hm=>by
    have hm':m<Z.length:=by rw[S.len];exact hm
    rw[Sw hm'];exact e.pre m _ (Sw hm')
   refine P H' Z ⟨e.tup,e.frz,fun _ _ z=>z,e.xds⟩ ⟨by rw[Pr,S.len];omega,S.nd,fun n o a h1 h2=>?_⟩ v (aN.cut al rv g1);have hn:n<Y.length:=by rw[<- S.len];exact(OQ.mp h2).1
   rw[Py hn]at h1;have q:=s.ob n o a h1 (e.pre n a h2)
   have ob:o.low Y.length:=by
    rcases g3 n o hn h1 with z|z
    ·have q0 := S.ob n o a z h2;cases o with
     |lst xs=>obtain⟨vs,_,r⟩:=q0;have:=r.low;rw[S.len]at this;exact this
     |set ks=>trivial
     |iset ks=>trivial
     |dic=>trivial
     |exc c=>trivial
     |exn c fs=>trivial
    ·exact z
   cases o with
   |lst xs=>obtain⟨vs,h3,r⟩:=q;exact⟨vs,h3,Reps.cut al r ob⟩
   |set ks=>exact q
   |iset ks=>exact q
   |dic=>exact q
   |exc c=>exact q
   |exn c fs=>exact q
  ·rw[Ox hg]at P;exact P
def SO.out(o:SO):aj D:=match o with
 |.ret d Y=>.ok d Y
 |.next _ Y=>.ok .non Y
 |.exc x Y=>.exc x Y
 |_=>.bad
def iq(n N:Nat)(fb:MS):List D->aw->aj D:=fun ds Y=>if ds.length=n then pS Y (fb (ds.map some++List.replicate (N-n) none) Y).out else .bad
def Ey(p:Pa)(n:Nat)(F:List D->aw->aj D):Sp:=fun vs H Q _=>vs.length=n/\∃Z ds Y,p.S H Z Y/\p.Rs H Z ds vs/\aA p H Z (F ds Y) (RV p Q)
structure d8(P:Program)(w:World)(K:W.Frag)(mg:Str->Option Value)(base:Heap)(p:Pa)(k:Nat)(x:Str)(n:Nat)(F:List D->aw->aj D):Prop where
 len:∀ds Y,ds.length≠n->F ds Y=.bad
 fn:∃f fd ps,mg x=some 3e7/\W.keepIn K 3e7=true/\dM K fd ps []/\j6 P w K mg base xK k f fd ps (Ey p n F)
section
variable{p:Pa}{X:Cx}{F:List D->aw->aj D}{a:Expr}{es:List Expr}{fr:MA}
theorem FN (h:d8 X.prog X.w X.K X.mg X.base p k x n F) (hr:dF k X.A) (hg:Gl X x) (ha:PA X (a::es) (j7 p fr)) (hdb:(x == ("__debug__" : Str))=false) (he:starEach (a::es) 1e2=(false,eval a 1e2)::starEach es 1e2) (hpl:(backTo pos (starEach es 1e2)).any 2e4=false) :
  PE X (.Call (.Name x px) (a::es) [] pos) (tD p (aB F fr)):=by
 obtain⟨f,fd,ps,h1,h2,h3,h4⟩:=h.fn;refine(uw (dvs:=[]) (E:=E0) h4 hr hg h1 h2 h3 .nil Ca ha hdb he hpl).weak fun B H Q ⟨Z,L,Y,S,R,P⟩=>⟨Z,L,Y,S,R,(aA.bind P).imp fun ds Y1 H1 Z1 X1 S1 P1 vs rv=>?_⟩;show Ey p n F (vs++[]) H1 Q E0;rw[Pi];refine⟨?_,Z1,ds,Y1,S1,rv,P1⟩;by_cases hl:ds.length=n
 ·rw[rv.length];exact hl
 ·rw[h.len ds Y1 hl]at P1;exact P1.elim
end
theorem jO{ds:List D}(r:Reps K H Z ds vs)(m:Nat):cR K H Z (ds.map some++List.replicate m none) (vs.map some++List.replicate m none):=by
 refine⟨by simp[r.length],fun i d h=>?_⟩;by_cases hi:i<ds.length
 ·rw [Pw (by simpa using hi), Px] at h;cases e:ds[i]? with
  |none=>rw[e]at h;cases h
  |some x=>
   rw[e]at h;cases h;obtain⟨v,hv,rv⟩:=r.get e;refine⟨v,?_,rv⟩;rw[Pw (by simp[r.length,hi]),Px,hv];rfl
 ·rw[Pu (by simpa using hi),Pv]at h;split at h <;> cases h
theorem KM{p:Pa}{ps:List Str}{fb:MS}(F:gf K x qual st f fd)(S:aR N ps (aq st))(hn:ps.length=n)(hm:mg x=some 3e7)(hb:dM K fd ps [])(body : ∀ (cdv : Value) (A : Around) (outer : List Env) (s : Shared) (H : Hp) (E : XK), dF k (A.deeper (envOfC qual (aq st) 0e3 f cdv)) ->
   ja (pY xK P w K mg base N qual (aq st) f cdv A outer s H E).nox (bD st) (gu p fb)):d8 P w K mg base p (k+1) x n (iq n N.length fb):=by
 refine⟨fun ds Y h=>by unfold iq;rw[Ox h],f,fd,ps,hm,F.kp,hb,?_⟩;refine F.ok S (fun vs H Q E h=>h.1.trans hn.symm) fun cdv A outer s H vs Q E hr h=>?_;refine⟨_,body cdv A outer s H E hr,?_⟩;obtain⟨hl,Z,ds,Y,S1,R1,P1⟩:=h;unfold iq at P1;have hd:ds.length=n:=by rw[<- R1.length];exact hl
 rw[Ow hd]at P1;have P2:=pK S1 P1;unfold start;rw[hl];refine⟨Z,_,Y,S1,jO R1 _,?_⟩;cases e:fb (ds.map some++List.replicate (N.length-n) none) Y with
 |ret d Y'=>rw[e]at P2;exact fun H' Z' v x s r=>P2 H' Z' x s v r
 |next L Y'=>rw[e]at P2;exact fun H' Z' B' x s r=>P2 H' Z' x s .non (bC.mpr rfl)
 |exc x Y'=>rw[e]at P2;exact P2
 |brk L Y'=>rw[e]at P2;exact P2.elim
 |cnt L Y'=>rw[e]at P2;exact P2.elim
 |bad=>rw[e]at P2;exact P2.elim
end ρ2
variable{Y:ρ2.aw}{xs:List ρ2.D}{d:ρ2.D}{p:ρ2.Pa}{F:List ρ2.D->ρ2.aw->ρ2.aj ρ2.D}{M:ρ2.aw}{fr:ρ2.MA}{Y0:ρ2.aw}{o:ρ2.D->ρ2.D->ρ2.aw->ρ2.aj ρ2.D}{L:ρ2.Ro}{fa:ρ2.ME}{fb:ρ2.MS}{ds:List ρ2.D}{fi:ρ2.MI}{Y1:ρ2.aw}{gd:Int->Int->ρ2.D}{gg:Int->Int->ρ2.D}
namespace ρ2
open PySem PySem.Spec PyProof.Rows RS
section
variable(K:W.Frag)(H:Hp)
mutual
def nz:PyData->V->Prop
 |.none,v=>v=.non
 |.bool b,v=>v=.bl b
 |.int i,v=>v=.int i
 |.str x,v=>v=.str x
 |.tuple xs,v=>∃a vs,v=.ref a/\eK K H a vs/\RdPs xs vs
 |.list xs,v=>∃a vs,v=.ref a/\fG K H a vs/\RdPs xs vs
 |.dict _,_=>False
def RdPs:List PyData->List V->Prop
 |[],vs=>vs=[]
 |x::xs,vs=>∃v r,vs=v::r/\nz x v/\RdPs xs r
end
end
section
variable{X:Cx}
mutual
theorem dz(I:aS X pins B H s):∀(d:PyData)(x:V)(v:Value),nz X.K H d x->bG x v->∃as,Reads 1e5 v d as
 |.none,_,_,h,r=>by dsimp[nz]at h;subst h;cases r;exact⟨_,.none⟩
 |.bool b,_,_,h,r=>by dsimp[nz]at h;subst h;cases r;exact⟨_,.bool b⟩
 |.int b,_,_,h,r=>by dsimp[nz]at h;subst h;obtain⟨t,rfl⟩:=r;exact⟨_,.int b t⟩
 |.str b,_,_,h,r=>by dsimp[nz]at h;subst h;obtain⟨t,rfl⟩:=r;exact⟨_,.str b t⟩
 |.tuple xs,_,_,h,r=>by
  dsimp[nz]at h;obtain⟨a,vs,rfl,h1,h2⟩:=h;cases r;obtain⟨its,rv,⟨o,e1,e2,n,e3⟩,_⟩:=I.tuple h1;obtain⟨as,q⟩:=readsAll_of I xs vs its h2 rv;exact⟨_,.tuple e1 e2 e3 (by simpa using q)⟩
 |.list xs,_,_,h,r=>by
  dsimp[nz]at h;obtain⟨a,vs,rfl,h1,h2⟩:=h;cases r;obtain⟨its,rv,⟨o,n,e1,e2,_,e3⟩,_⟩:=I.list h1;obtain⟨as,q⟩:=readsAll_of I xs vs its h2 rv;exact⟨_,.list e1 e2 e3 (by simpa using q)⟩
 |.dict _,_,_,h,_=>by dsimp[nz]at h
theorem readsAll_of(I:aS X pins B H s):∀(ds:List PyData)(xs:List V)(vs:List Value),RdPs X.K H ds xs->ba xs vs->∃as,ReadsAll 1e5 vs ds as
 |[],_,_,h,r=>by dsimp[RdPs]at h;subst h;cases r;exact⟨_,.nil⟩
 |d::ds,_,_,h,r=>by
  dsimp[RdPs]at h;obtain⟨v,q,rfl,h1,h2⟩:=h;cases r with
  |cons r rr=>
   obtain⟨as,g1⟩:=dz I d _ _ h1 r;obtain⟨bs,g2⟩:=readsAll_of I ds _ _ h2 rr;exact⟨_,.cons g1 g2⟩
end
def dQ(d:PyData):Bool:=d.canLay0&&decide (d.depth<=60)
def BS(K:W.Frag)(neg:Bool):R2:=fun x y H Q=>∃a b,nz K H a x/\nz K H b y/\dQ a=true/\dQ b=true/\Q (.bl (if neg then !PyData.eqv a b else PyData.eqv a b)) H
theorem nU{a b:PyData}(ha:dQ a=true)(hu:A.units+64<cLine):A.units+min a.depth b.depth<cLine:=by
 unfold dQ at ha;dsimp[Qg,SN]at ha;have:=Nat.min_le_left a.depth b.depth;omega
theorem cg{a:PyData}(ha:dQ a=true):a.canLay0=true:=by
 unfold dQ at ha;dsimp[Qg,SN]at ha;exact ha.1
theorem me{a:PyData}(ha:dQ a=true):a.depth<=60:=by
 unfold dQ at ha;dsimp[Qg,SN]at ha;exact ha.2
theorem JN(hu:X.A.units+64<cLine):jR X (compareOp .Eq) (BS X.K false):=by
 intro pins s B H x y v u Q I rx ry h;obtain⟨a,b,h1,h2,h3,h4,q⟩:=h;obtain⟨as,r1⟩:=dz I a x v h1 rx;obtain⟨bs,r2⟩:=dz I b y u h2 ry;exact SeqAt.compareEq_reads r1 r2 (cg h3) (cg h4) (nU h3 hu) ⟨.bl _,H,I,rfl,q⟩
theorem JI(hu:X.A.units+64<cLine):jR X (compareOp .NotEq) (BS X.K true):=by
 intro pins s B H x y v u Q I rx ry h;obtain⟨a,b,h1,h2,h3,h4,q⟩:=h;obtain⟨as,r1⟩:=dz I a x v h1 rx;obtain⟨bs,r2⟩:=dz I b y u h2 ry;exact SeqAt.compareNe_reads r1 r2 (cg h3) (cg h4) (nU h3 hu) ⟨.bl _,H,I,rfl,q⟩
def BR(K:W.Frag)(neg:Bool):R2:=fun x y H Q=>∃a b xs,nz K H a x/\nz K H b y/\(b=.list xs\/b=.tuple xs)/\dQ a=true/\dQ b=true/\Q (.bl (if neg then !(xs.any fun y=>PyData.eqv y a) else xs.any fun y=>PyData.eqv y a)) H
theorem JM(hu:X.A.units+64<cLine):jR X (compareOp .In) (BR X.K false):=by
 intro pins s B H x y v u Q I rx ry h;obtain⟨a,b,xs,h1,h2,hb,h3,h4,q⟩:=h;obtain⟨as,r1⟩:=dz I a x v h1 rx;obtain⟨bs,r2⟩:=dz I b y u h2 ry;have hd:=me h3;rcases hb with rfl|rfl
 ·refine SeqAt.in_list_reads r2 r1 (by simpa[PyData.canLay0] using cg h4) (cg h3) ?_ ⟨.bl _,H,I,rfl,q⟩;have:=PQ (PyData.depthAll xs) a.depth;omega
 ·refine SeqAt.in_tuple_reads r2 r1 (by simpa[PyData.canLay0] using cg h4) (cg h3) ?_ ⟨.bl _,H,I,rfl,q⟩;have:=PQ (PyData.depthAll xs) a.depth;omega
theorem A2(hu:X.A.units+64<cLine):jR X (compareOp .NotIn) (BR X.K true):=by
 intro pins s B H x y v u Q I rx ry h;obtain⟨a,b,xs,h1,h2,hb,h3,h4,q⟩:=h;obtain⟨as,r1⟩:=dz I a x v h1 rx;obtain⟨bs,r2⟩:=dz I b y u h2 ry;have hd:=me h3;rcases hb with rfl|rfl
 ·refine SeqAt.notIn_list_reads r2 r1 (by simpa[PyData.canLay0] using cg h4) (cg h3) ?_ ⟨.bl _,H,I,rfl,q⟩;have:=PQ (PyData.depthAll xs) a.depth;omega
 ·refine SeqAt.notIn_tuple_reads r2 r1 (by simpa[PyData.canLay0] using cg h4) (cg h3) ?_ ⟨.bl _,H,I,rfl,q⟩;have:=PQ (PyData.depthAll xs) a.depth;omega
end
mutual
def xF(Y:aw):D->Option PyData
 |.non=>some .none
 |.bl b=>some (.bool b)
 |.int i=>some (.int i)
 |.str x=>some (.str x)
 |.tup xs=>(toPs Y xs).map .tuple
 |.frz xs=>(toPs Y xs).map .list
 |.obj _=>none
def toPs(Y:aw):List D->Option (List PyData)
 |[]=>some []
 |x::xs=>(xF Y x).bind fun a=>(toPs Y xs).map fun r=>a::r
end
def Aj(Y:aw)(d:D):Option PyData:=match d with
 |.obj n=>match Y[n]? with
  |some 2e6=>(toPs Y xs).map .list
  |_=>none
 |d=>xF Y d
def iC(Y:aw):List D->Option (List PyData)
 |[]=>some []
 |x::xs=>(Aj Y x).bind fun a=>(iC Y xs).map fun r=>a::r
def lr(Y:aw)(d:D):Option PyData:=match d with
 |.obj n=>match Y[n]? with
  |some 2e6=>(iC Y xs).map .list
  |_=>none
 |.tup xs=>(iC Y xs).map .tuple
 |d=>xF Y d
section
mutual
theorem gQ:∀{d:D}{q:PyData}{v:V},xF Y d=some q->aN K H Z d v->nz K H q v
 |.non,_,_,h,r=>by dsimp[xF]at h;cases h;dsimp[nz];exact bC.mp r
 |.bl b,_,_,h,r=>by dsimp[xF]at h;cases h;dsimp[nz];exact aV.mp r
 |.int b,_,_,h,r=>by dsimp[xF]at h;cases h;dsimp[nz];exact ar.mp r
 |.str b,_,_,h,r=>by dsimp[xF]at h;cases h;dsimp[nz];exact bh.mp r
 |.tup xs,_,_,h,r=>by
  dsimp[xF]at h;cases e:toPs Y xs with
  |none=>rw[e]at h;cases h
  |some ys=>
   rw[e]at h;cases h;obtain⟨a,vs,rfl,h1,h2⟩:=aC.mp r;dsimp[nz];exact⟨a,vs,rfl,h1,toPs_ok e h2⟩
 |.frz xs,_,_,h,r=>by
  dsimp[xF]at h;cases e:toPs Y xs with
  |none=>rw[e]at h;cases h
  |some ys=>
   rw[e]at h;cases h;obtain⟨a,vs,rfl,h1,h2⟩:=bo.mp r;dsimp[nz];exact⟨a,vs,rfl,h1.sq,toPs_ok e h2⟩
 |.obj n,_,_,h,r=>by dsimp[xF]at h;cases h
theorem toPs_ok:∀{ds:List D}{qs:List PyData}{vs:List V},toPs Y ds=some qs->Reps K H Z ds vs->RdPs K H qs vs
 |[],_,_,h,r=>by dsimp[toPs]at h;cases h;dsimp[RdPs];dsimp[Reps]at r;exact r
 |x::xs,_,_,h,r=>by
  dsimp[toPs]at h;cases e1:xF Y x with
  |none=>rw[e1]at h;cases h
  |some a=>
   cases e2:toPs Y xs with
   |none=>rw[e1,e2]at h;cases h
   |some ys=>
    rw[e1,e2]at h;cases h;dsimp[Reps]at r;obtain⟨v,vr,rfl,r1,r2⟩:=r;dsimp[RdPs];exact⟨v,vr,rfl,gQ e1 r1,toPs_ok e2 r2⟩
end
theorem Fg{q:PyData}(S:dR K w H Z Y)(h:Aj Y d=some q)(r:aN K H Z d v):nz K H q v:=by
 cases d with
 |obj n=>
  unfold Aj at h;dsimp only at h;split at h
  ·rename_i xs hx;obtain⟨a,ea,us,hH,rr⟩:=S.at hx;obtain⟨a',rfl,ea'⟩:=aM.mp r;rw[ea]at ea';cases ea';cases e:toPs Y xs with
   |none=>rw[e]at h;cases h
   |some ys=>
    rw[e]at h;cases h;dsimp[nz];exact⟨a,us,rfl,fG.of hH,toPs_ok e rr⟩
  ·cases h
 |non=>exact gQ h r
 |bl b=>exact gQ h r
 |int i=>exact gQ h r
 |str x=>exact gQ h r
 |tup xs=>exact gQ h r
 |frz xs=>exact gQ h r
theorem mV(S:dR K w H Z Y):∀{ds:List D}{qs:List PyData}{vs:List V},iC Y ds=some qs->Reps K H Z ds vs->RdPs K H qs vs
 |[],_,_,h,r=>by dsimp[iC]at h;cases h;dsimp[RdPs];dsimp[Reps]at r;exact r
 |x::xs,_,_,h,r=>by
  dsimp[iC]at h;cases e1:Aj Y x with
  |none=>rw[e1]at h;cases h
  |some a=>
   cases e2:iC Y xs with
   |none=>rw[e1,e2]at h;cases h
   |some ys=>
    rw[e1,e2]at h;cases h;dsimp[Reps]at r;obtain⟨v,vr,rfl,r1,r2⟩:=r;dsimp[RdPs];exact⟨v,vr,rfl,Fg S e1 r1,mV S e2 r2⟩
theorem lZ{q:PyData}(S:dR K w H Z Y)(h:lr Y d=some q)(r:aN K H Z d v):nz K H q v:=by
 cases d with
 |obj n=>
  unfold lr at h;dsimp only at h;split at h
  ·rename_i xs hx;obtain⟨a,ea,us,hH,rr⟩:=S.at hx;obtain⟨a',rfl,ea'⟩:=aM.mp r;rw[ea]at ea';cases ea';cases e:iC Y xs with
   |none=>rw[e]at h;cases h
   |some ys=>
    rw[e]at h;cases h;dsimp[nz];exact⟨a,us,rfl,fG.of hH,mV S e rr⟩
  ·cases h
 |tup xs=>
  unfold lr at h;dsimp only at h;cases e:iC Y xs with
  |none=>rw[e]at h;cases h
  |some ys=>
   rw[e]at h;cases h;obtain⟨a,vs,rfl,h1,h2⟩:=aC.mp r;dsimp[nz];exact⟨a,vs,rfl,h1,mV S e h2⟩
 |non=>exact gQ h r
 |bl b=>exact gQ h r
 |int i=>exact gQ h r
 |str x=>exact gQ h r
 |frz xs=>exact gQ h r
end
def j5(neg:Bool)(a b:D)(Y:aw):aj D:=match lr Y a,lr Y b with
 |some p,some q=>if dQ p=true/\dQ q=true then .ok (.bl (if neg then !PyData.eqv p q else PyData.eqv p q)) Y else .bad
 |_,_=>.bad
def t6:PyData->Option (List PyData)
 |.list xs=>some xs
 |.tuple xs=>some xs
 |_=>none
def pU(neg:Bool)(a b:D)(Y:aw):aj D:=match lr Y a,lr Y b with
 |some p,some q=>match t6 q with
  |some xs=>if dQ p=true/\dQ q=true then .ok (.bl (if neg then !(xs.any fun y=>PyData.eqv y p) else xs.any fun y=>PyData.eqv y p)) Y else .bad
  |none=>.bad
 |_,_=>.bad
theorem HK:rO p (j5 neg) (BS p.K neg):=by
 intro a b v y H Z Y Q S ra rb P;unfold j5 at P;split at P
 ·rename_i x z hx hz;split at P
  ·rename_i hf;exact⟨x,z,lZ S hx ra,lZ S hz rb,hf.1,hf.2,P.now S _ (aV.mpr rfl)⟩
  ·exact P.elim
 ·exact P.elim
theorem HJ:rO p (pU neg) (BR p.K neg):=by
 intro a b v y H Z Y Q S ra rb P;unfold pU at P;split at P
 ·rename_i x z hx hz;split at P
  ·rename_i xs hxs;split at P
   ·rename_i hf;refine⟨x,z,xs,lZ S hx ra,lZ S hz rb,?_,hf.1,hf.2,P.now S _ (aV.mpr rfl)⟩;cases z <;> first|(cases hxs;exact .inl rfl)|(cases hxs;exact .inr rfl)|(cases hxs)
   ·exact P.elim
  ·exact P.elim
 ·exact P.elim
def D.isNon:D->Bool
 |.non=>true
 |_=>false
def xS(neg:Bool)(a b:D)(Y:aw):aj D:=match b with
 |.non=>.ok (.bl (if neg then !a.isNon else a.isNon)) Y
 |_=>.bad
theorem zR{a:D}(r:aN K H Z a v):decide (v=.non)=a.isNon:=by
 cases a with
 |non=>rw[bC.mp r];rfl
 |bl b=>rw[aV.mp r];rfl
 |int b=>rw[ar.mp r];rfl
 |str b=>rw[bh.mp r];rfl
 |tup xs=>obtain⟨a,vs,rfl,_⟩:=aC.mp r;rfl
 |frz xs=>obtain⟨a,vs,rfl,_⟩:=bo.mp r;rfl
 |obj xs=>obtain⟨a,rfl,_⟩:=aM.mp r;rfl
theorem JY:rO p (xS false) (fun x y H Q=>y=.non/\Q (.bl (decide (x=.non))) H):=by
 intro a b v y H Z Y Q S ra rb P;cases b with
 |non=>exact⟨bC.mp rb,P.now S _ (aV.mpr (by rw[zR ra];rfl))⟩
 |bl b=>exact P.elim
 |int b=>exact P.elim
 |str b=>exact P.elim
 |tup xs=>exact P.elim
 |frz xs=>exact P.elim
 |obj xs=>exact P.elim
theorem Gy:rO p (xS true) (fun x y H Q=>y=.non/\Q (.bl (!decide (x=.non))) H):=by
 intro a b v y H Z Y Q S ra rb P;cases b with
 |non=>exact⟨bC.mp rb,P.now S _ (aV.mpr (by rw[zR ra];cases a <;> rfl))⟩
 |bl b=>exact P.elim
 |int b=>exact P.elim
 |str b=>exact P.elim
 |tup xs=>exact P.elim
 |frz xs=>exact P.elim
 |obj xs=>exact P.elim
end ρ2
namespace ρ2
open PySem PySem.Spec PyProof.Rows RS
open PySem.SeqAt
open PySem.AutoSeq1 (wpAny_loadPart')
open PySem.MeetsSeq PySem.MeetsSeq2 PySem.MeetsSeq3
def EX(op:CmpOp)(A:Around)(s:Shared)(y x:Value)(k:Bool):Prop:=∀(prog:Program)(w:World)(E:Value->Shared->Prop)(Q:Value->Shared->Prop),Q (.bool k) s->wpAny 0e6 A (richCompare op y x) Q E s
def j8(t:Bool):List (Bool×Bool)->Bool
 |[]=>t
 |(e,k)::r=>if e=true then j8 t r else k
def jD(op:CmpOp)(A:Around)(s:Shared):List Value->List Value->List (Bool×Bool)->Prop
 |[],_,[]=>True
 |_,[],[]=>True
 |y::ys,x::xs,(e,k)::r=>EqAt A s y x e/\(e=false->EX op A s y x k)/\(e=true->jD op A s ys xs r)
 |_,_,_=>False
theorem uL(l b:Addr)(items items2:Array Value)(n n2:Nat)(dd dd2:Option Addr)(sl sl2:Array (Option Value))(eks:List (Bool×Bool)) :
  Meets (Builtin.«tuple.__lt__» ⟨[.ref l,.ref b],[]⟩)
   (fun A R s => s.heap.get? l = some { cls := .type "tuple", dict := dd, data := .seq items n, slots := sl } /\ s.heap.get? b = some { cls := .type "tuple", dict := dd2, data := .seq items2 n2, slots := sl2 } /\
    jD .Lt A.in1 s items.toList items2.toList eks/\R (.ok (.ret (.bool (j8 (decide (items.size<items2.size)) eks)))) s):=
 .of_wp fun prog w A R s h=>by
  obtain⟨hp,g,d,tk,os⟩:=s;obtain⟨hl,hb,hc,h⟩:=h;have f2:=AutoSeq1.sub_tuple_tuple
  wp_walk using wpAny_loadPart' hl,wpAny_loadPart' hb,RL _ (fun rest b s'=>b.1=none/\s'=⟨hp,g,d,tk,os⟩/\∃(vs ws:List Value)(eks':List (Bool×Bool)),rest=vs.zip ws /\
   jD .Lt A.in1 ⟨hp,g,d,tk,os⟩ vs ws eks'/\R (.ok (.ret (.bool (j8 (decide (items.size<items2.size)) eks')))) ⟨hp,g,d,tk,os⟩) _
  case turn=>
   rintro⟨y,x⟩ rest b s' ⟨hb',rfl,vs,ws,eks',hz,hci,hR⟩
   cases vs with
   |nil=>rw[List.zip_nil_left]at hz;cases hz
   |cons a vs=>
    cases ws with
    |nil=>rw[List.zip_nil_right]at hz;cases hz
    |cons c ws=>
     rw[SQ]at hz;injection hz with hyx hrest
     injection hyx with hy hx
     subst hy hx;cases eks' with
     |nil=>dsimp[jD]at hci
     |cons ek eks'=>
      obtain⟨e,k⟩:=ek;dsimp[jD]at hci;obtain⟨he,hk,hci⟩:=hci;refine OZ (he prog w _ _ ?_);cases e with
      |true=>
       have hR':R (.ok (.ret (.bool (j8 (decide (items.size<items2.size)) eks')))) ⟨hp,g,d,tk,os⟩:=hR
       wp_walk
       exact⟨rfl,rfl,_,_,_,hrest,hci rfl,hR'⟩
      |false=>
       have hR':R (.ok (.ret (.bool k))) ⟨hp,g,d,tk,os⟩:=hR;have hri:=hk rfl prog w
       wp_walk using hri
       exact⟨_,rfl,by simpa using hR'⟩
  case fin=>
   rintro⟨b1,b2⟩ s' ⟨hb',rfl,vs,ws,eks',hz,hci,hR⟩
   simp only at hb';subst hb'
   have hv:eks'=[]:=by
    cases vs with
    |nil=>cases eks' with
     |nil=>rfl
     |cons _ _=>dsimp[jD]at hci
    |cons a vs=>cases ws with
     |nil=>cases eks' with
      |nil=>rfl
      |cons _ _=>dsimp[jD]at hci
     |cons c ws=>rw[SQ]at hz;cases hz
   subst hv;have hR':R (.ok (.ret (.bool (decide (items.size<items2.size))))) ⟨hp,g,d,tk,os⟩:=hR
   wp_walk
   exact⟨_,rfl,by simpa[Builtin.Tuple.tupleCompareSizes] using hR'⟩
  case h=>
   exact⟨rfl,rfl,items.toList,items2.toList,eks,rfl,hc,h⟩
theorem J8{b:Addr}{items items2:Array Value}(hl:IsTup 1e5 l items)(hb:IsTup 1e5 b items2)(hc:jD .Lt A.in1 s items.toList items2.toList eks)(hu:A.units<cLine)(h:Q (.bool (j8 (decide (items.size<items2.size)) eks)) s):wpAny 0e6 A (richCompare .Lt (.ref l) (.ref b)) Q E s:=by
 obtain⟨⟨cls,dd,data,sl⟩,ho,hc',n,hd⟩:=id hl;obtain⟨⟨cls2,dd2,data2,sl2⟩,ho2,hc2,n2,hd2⟩:=id hb;simp only at hc' hd hc2 hd2;subst hc' hd hc2 hd2
 exact richCompare_meets_room (op:=.Lt) ⟨_,ho,rfl⟩ ⟨_,ho2,rfl⟩ PySem.F.slot_tuple_lt PySem.F.entry_tuple_lt (PySem.F.args_tuple_lt_2 _ _) (uL l b items items2 n n2 dd dd2 sl sl2 eks)
  ⟨ho,ho2,hc,show Value.bool (j8 (decide (items.size<items2.size)) eks)≠Value.notImplemented/\Q (.bool (j8 (decide (items.size<items2.size)) eks)) s from⟨(fun x=>nomatch x),h⟩⟩ hu
theorem uM(l b:Addr)(items items2:Array Value)(n n2:Nat)(dd dd2:Option Addr)(sl sl2:Array (Option Value))(eks:List (Bool×Bool)) :
  Meets (Builtin.«tuple.__le__» ⟨[.ref l,.ref b],[]⟩)
   (fun A R s => s.heap.get? l = some { cls := .type "tuple", dict := dd, data := .seq items n, slots := sl } /\ s.heap.get? b = some { cls := .type "tuple", dict := dd2, data := .seq items2 n2, slots := sl2 } /\
    jD .LtE A.in1 s items.toList items2.toList eks/\R (.ok (.ret (.bool (j8 (decide (items.size<=items2.size)) eks)))) s):=
 .of_wp fun prog w A R s h=>by
  obtain⟨hp,g,d,tk,os⟩:=s;obtain⟨hl,hb,hc,h⟩:=h;have f2:=AutoSeq1.sub_tuple_tuple
  wp_walk using wpAny_loadPart' hl,wpAny_loadPart' hb,RL _ (fun rest b s'=>b.1=none/\s'=⟨hp,g,d,tk,os⟩/\∃(vs ws:List Value)(eks':List (Bool×Bool)),rest=vs.zip ws /\
   jD .LtE A.in1 ⟨hp,g,d,tk,os⟩ vs ws eks'/\R (.ok (.ret (.bool (j8 (decide (items.size<=items2.size)) eks')))) ⟨hp,g,d,tk,os⟩) _
  case turn=>
   rintro⟨y,x⟩ rest b s' ⟨hb',rfl,vs,ws,eks',hz,hci,hR⟩
   cases vs with
   |nil=>rw[List.zip_nil_left]at hz;cases hz
   |cons a vs=>
    cases ws with
    |nil=>rw[List.zip_nil_right]at hz;cases hz
    |cons c ws=>
     rw[SQ]at hz;injection hz with hyx hrest
     injection hyx with hy hx
     subst hy hx;cases eks' with
     |nil=>dsimp[jD]at hci
     |cons ek eks'=>
      obtain⟨e,k⟩:=ek;dsimp[jD]at hci;obtain⟨he,hk,hci⟩:=hci;refine OZ (he prog w _ _ ?_);cases e with
      |true=>
       have hR':R (.ok (.ret (.bool (j8 (decide (items.size<=items2.size)) eks')))) ⟨hp,g,d,tk,os⟩:=hR
       wp_walk
       exact⟨rfl,rfl,_,_,_,hrest,hci rfl,hR'⟩
      |false=>
       have hR':R (.ok (.ret (.bool k))) ⟨hp,g,d,tk,os⟩:=hR;have hri:=hk rfl prog w
       wp_walk using hri
       exact⟨_,rfl,by simpa using hR'⟩
  case fin=>
   rintro⟨b1,b2⟩ s' ⟨hb',rfl,vs,ws,eks',hz,hci,hR⟩
   simp only at hb';subst hb'
   have hv:eks'=[]:=by
    cases vs with
    |nil=>cases eks' with
     |nil=>rfl
     |cons _ _=>dsimp[jD]at hci
    |cons a vs=>cases ws with
     |nil=>cases eks' with
      |nil=>rfl
      |cons _ _=>dsimp[jD]at hci
     |cons c ws=>rw[SQ]at hz;cases hz
   subst hv;have hR':R (.ok (.ret (.bool (decide (items.size<=items2.size))))) ⟨hp,g,d,tk,os⟩:=hR
   wp_walk
   exact⟨_,rfl,by simpa[Builtin.Tuple.tupleCompareSizes] using hR'⟩
  case h=>
   exact⟨rfl,rfl,items.toList,items2.toList,eks,rfl,hc,h⟩
theorem Ka{b:Addr}{items items2:Array Value}(hl:IsTup 1e5 l items)(hb:IsTup 1e5 b items2)(hc:jD .LtE A.in1 s items.toList items2.toList eks)(hu:A.units<cLine)(h:Q (.bool (j8 (decide (items.size<=items2.size)) eks)) s):wpAny 0e6 A (richCompare .LtE (.ref l) (.ref b)) Q E s:=by
 obtain⟨⟨cls,dd,data,sl⟩,ho,hc',n,hd⟩:=id hl;obtain⟨⟨cls2,dd2,data2,sl2⟩,ho2,hc2,n2,hd2⟩:=id hb;simp only at hc' hd hc2 hd2;subst hc' hd hc2 hd2
 exact richCompare_meets_room (op:=.LtE) ⟨_,ho,rfl⟩ ⟨_,ho2,rfl⟩ PySem.F.slot_tuple_le PySem.F.entry_tuple_le (PySem.F.args_tuple_le_2 _ _) (uM l b items items2 n n2 dd dd2 sl sl2 eks)
  ⟨ho,ho2,hc,show Value.bool (j8 (decide (items.size<=items2.size)) eks)≠Value.notImplemented/\Q (.bool (j8 (decide (items.size<=items2.size)) eks)) s from⟨(fun x=>nomatch x),h⟩⟩ hu
end ρ2
namespace ρ2
open PySem PySem.Spec PyProof.Rows RS
def gk:CmpOp->Int->Int->Bool
 |.Lt,i,j=>decide (i<j)
 |.LtE,i,j=>decide (i<=j)
 |.Gt,i,j=>decide (i>j)
 |.GtE,i,j=>decide (i ≥ j)
 |_,_,_=>false
def EU:CmpOp->Bool
 |.Lt=>true
 |.LtE=>true
 |_=>false
mutual
def iy(op:CmpOp):PyData->PyData->Option Bool
 |.int i,.int j=>some (gk op i j)
 |.tuple xs,.tuple ys=>if EU op=true then cmpPs op xs ys else none
 |_,_=>none
def cmpPs(op:CmpOp):List PyData->List PyData->Option Bool
 |[],ys=>some (gk op 0 ys.length)
 |_::xs,[]=>some (gk op (xs.length+1) 0)
 |x::xs,y::ys=>if PyData.eqv x y=true then cmpPs op xs ys else iy op x y
end
def vE:CmpOp->Bool
 |.Lt | .LtE | .Gt | .GtE=>true
 |_=>false
theorem Md:∀{op:CmpOp}(ho:vE op=true){A:Around}{s:Shared}(a:Int)(t:Tok)(c:Int)(u:Tok),EX op A s (.int a t) (.int c u) (gk op a c)
 |.Lt,_,A,s,a,t,c,u=>fun prog w E Q h=>(PyProof.Rows.lt_int h:wpAny 0e6 A (compareOp .Lt (.int a t) (.int c u)) Q E s)
 |.LtE,_,A,s,a,t,c,u=>fun prog w E Q h=>(PyProof.Rows.le_int h:wpAny 0e6 A (compareOp .LtE (.int a t) (.int c u)) Q E s)
 |.Gt,_,A,s,a,t,c,u=>fun prog w E Q h=>(PyProof.Rows.gt_int h:wpAny 0e6 A (compareOp .Gt (.int a t) (.int c u)) Q E s)
 |.GtE,_,A,s,a,t,c,u=>fun prog w E Q h=>(PyProof.Rows.ge_int h:wpAny 0e6 A (compareOp .GtE (.int a t) (.int c u)) Q E s)
theorem yM(i j:Nat):gk op ((i+1:Nat):Int) ((j+1:Nat):Int)=gk op (i:Int) (j:Int):=by
 cases op <;> first|rfl|(unfold gk;simp)
theorem Mc:∀{op:CmpOp}(ho:EU op=true){A:Around}{s:Shared}{l b:Addr}{items items2:Array Value}{eks:List (Bool×Bool)}(hl:IsTup 1e5 l items)(hb:IsTup 1e5 b items2)(hc:jD op A.in1 s items.toList items2.toList eks)
  (hu:A.units<cLine),EX op A s (.ref l) (.ref b) (j8 (gk op 2e8 items2.size) eks)
 |.Lt,_,A,s,l,b,items,items2,eks,hl,hb,hc,hu=>fun prog w E Q h=>J8 hl hb hc hu (by
   have e:decide (items.size<items2.size)=gk .Lt 2e8 items2.size:=by (unfold gk;simp)
   rw[e];exact h)
 |.LtE,_,A,s,l,b,items,items2,eks,hl,hb,hc,hu=>fun prog w E Q h=>Ka hl hb hc hu (by
   have e:decide (items.size<=items2.size)=gk .LtE 2e8 items2.size:=by (unfold gk;simp)
   rw[e];exact h)
mutual
theorem v8{op:CmpOp}(ho:vE op=true):∀(da db:PyData)(A:Around)(s:Shared)(a b:Value)(as bs:List Addr)(k:Bool),Reads 1e5 a da as->Reads 1e5 b db bs->da.canLay0=true->db.canLay0=true ->
  A.units+min da.depth db.depth<cLine->iy op da db=some k->EX op A s a b k
 |.int i,.int j,A,s,_,_,_,_,k,ra,rb,_,_,hu,hk=>by
  cases ra;cases rb;dsimp[iy]at hk;cases hk;exact Md ho _ _ _ _
 |.tuple xs,.tuple ys,A,s,_,_,_,_,k,ra,rb,ha,hb,hu,hk=>by
  dsimp[iy]at hk
  have hlt:EU op=true:=by
   cases z:EU op with
   |true=>rfl
   |false=>rw[z,Ox O3]at hk;cases hk
  rw[Ow hlt]at hk;cases ra with
  | @tuple l o vs n _ as₁ h1 h2 h3 h4=>
   cases rb with
   | @tuple l' o' vs' n' _ bs₁ k1 k2 k3 k4=>
    have n1:vs.size=xs.length:=by simpa using SeqAt.ReadsAll.length _ _ _ h4
    have n2:vs'.size=ys.length:=by simpa using SeqAt.ReadsAll.length _ _ _ k4
    obtain⟨eks,e1,e2⟩:=rc_readsAll ho xs ys A.in1 s vs.toList vs'.toList _ _ k h4 k4 (by simpa[PyData.canLay0] using ha) (by simpa[PyData.canLay0] using hb) (SeqAt.room_in hu) hk;have:=Mc hlt (A:=A) (s:=s) (l:=l) (b:=l') (items:=vs) (items2:=vs') (eks:=eks) ⟨_,h1,h2,_,h3⟩ ⟨_,k1,k2,_,k3⟩ e1 (SeqAt.room_here hu);rw[n1,n2,e2]at this;exact this
 |.none,_,_,_,_,_,_,_,_,_,_,_,_,_,hk=>by dsimp[iy]at hk;cases hk
 |.bool _,_,_,_,_,_,_,_,_,_,_,_,_,_,hk=>by dsimp[iy]at hk;cases hk
 |.str _,_,_,_,_,_,_,_,_,_,_,_,_,_,hk=>by dsimp[iy]at hk;cases hk
 |.list _,_,_,_,_,_,_,_,_,_,_,_,_,_,hk=>by dsimp[iy]at hk;cases hk
 |.dict _,_,_,_,_,_,_,_,_,_,_,_,_,_,hk=>by dsimp[iy]at hk;cases hk
 |.int _,.none,_,_,_,_,_,_,_,_,_,_,_,_,hk=>by dsimp[iy]at hk;cases hk
 |.int _,.bool _,_,_,_,_,_,_,_,_,_,_,_,_,hk=>by dsimp[iy]at hk;cases hk
 |.int _,.str _,_,_,_,_,_,_,_,_,_,_,_,_,hk=>by dsimp[iy]at hk;cases hk
 |.int _,.list _,_,_,_,_,_,_,_,_,_,_,_,_,hk=>by dsimp[iy]at hk;cases hk
 |.int _,.tuple _,_,_,_,_,_,_,_,_,_,_,_,_,hk=>by dsimp[iy]at hk;cases hk
 |.int _,.dict _,_,_,_,_,_,_,_,_,_,_,_,_,hk=>by dsimp[iy]at hk;cases hk
 |.tuple _,.none,_,_,_,_,_,_,_,_,_,_,_,_,hk=>by dsimp[iy]at hk;cases hk
 |.tuple _,.bool _,_,_,_,_,_,_,_,_,_,_,_,_,hk=>by dsimp[iy]at hk;cases hk
 |.tuple _,.int _,_,_,_,_,_,_,_,_,_,_,_,_,hk=>by dsimp[iy]at hk;cases hk
 |.tuple _,.str _,_,_,_,_,_,_,_,_,_,_,_,_,hk=>by dsimp[iy]at hk;cases hk
 |.tuple _,.list _,_,_,_,_,_,_,_,_,_,_,_,_,hk=>by dsimp[iy]at hk;cases hk
 |.tuple _,.dict _,_,_,_,_,_,_,_,_,_,_,_,_,hk=>by dsimp[iy]at hk;cases hk
theorem rc_readsAll{op:CmpOp}(ho:vE op=true):∀(xs ys:List PyData)(A:Around)(s:Shared)(vs ws:List Value)(as bs:List Addr)(k:Bool),ReadsAll 1e5 vs xs as->ReadsAll 1e5 ws ys bs->PyData.canLayAll0 xs=true->PyData.canLayAll0 ys=true ->
  A.units+min (PyData.depthAll xs) (PyData.depthAll ys)<cLine->cmpPs op xs ys=some k->∃eks,jD op A s vs ws eks/\j8 (gk op (xs.length:Nat) (ys.length:Nat)) eks=k
 |[],ys,A,s,_,_,_,_,k,ra,rb,_,_,_,hk=>by
  cases ra;dsimp[cmpPs]at hk;cases hk;exact⟨[],by unfold jD;trivial,rfl⟩
 |x::xs,[],A,s,_,_,_,_,k,ra,rb,_,_,_,hk=>by
  cases rb;dsimp[cmpPs]at hk;cases hk;cases ra;refine⟨[],by unfold jD;trivial,?_⟩;simp[j8]
 |x::xs,y::ys,A,s,_,_,_,_,k,ra,rb,ha,hb,hu,hk=>by
  have ha':x.canLay0=true/\PyData.canLayAll0 xs=true:=by simpa[PyData.canLayAll0] using ha
  have hb':y.canLay0=true/\PyData.canLayAll0 ys=true:=by simpa[PyData.canLayAll0] using hb
  cases ra with
  |cons r rs=>
   cases rb with
   |cons r' rs'=>
    have he:=SeqAt.eqAt_reads x y A s _ _ _ _ r r' ha'.1 hb'.1 (SeqAt.room_head hu);dsimp[cmpPs]at hk;cases e:PyData.eqv x y with
    |true=>
     rw[Ow e]at hk;rw[e]at he;obtain⟨eks,e1,e2⟩:=rc_readsAll ho xs ys A s _ _ _ _ k rs rs' ha'.2 hb'.2 (SeqAt.room_tail hu) hk;refine⟨(true,false)::eks,⟨he,fun z=>(by cases z),fun _=>e1⟩,?_⟩;show j8 (gk op ((xs.length+1:Nat):Int) ((ys.length+1:Nat):Int)) eks=k;rw[yM];exact e2
    |false=>
     rw[Ox (by rw[e];exact O3)]at hk;rw[e]at he;refine⟨[(false,k)],⟨he,fun _=>v8 ho x y A s _ _ _ _ k r r' ha'.1 hb'.1 (SeqAt.room_head hu) hk,fun z=>(by cases z)⟩,rfl⟩
end
def σ8(K:W.Frag)(op:CmpOp):R2:=fun x y H Q=>∃a b k,nz K H a x/\nz K H b y/\dQ a=true/\dQ b=true/\iy op a b=some k/\Q (.bl k) H
theorem Gp{X:Cx}(hu:X.A.units+64<cLine):∀{op:CmpOp},vE op=true->jR X (compareOp op) (σ8 X.K op):=by
 intro op ho pins s B H x y v u Q I rx ry h;obtain⟨a,b,k,h1,h2,h3,h4,h5,q⟩:=h;obtain⟨as,r1⟩:=dz I a x v h1 rx;obtain⟨bs,r2⟩:=dz I b y u h2 ry;have:=v8 ho a b X.A s v u as bs k r1 r2 (cg h3) (cg h4) (nU h3 hu) h5 X.prog X.w X.xe (EP X pins B Q) ⟨.bl k,H,I,rfl,q⟩
 cases op <;> first
  |exact absurd ho 0e4
  |exact this
def nD(op:CmpOp)(a b:D)(Y:aw):aj D:=match lr Y a,lr Y b with
 |some p,some q=>if dQ p=true/\dQ q=true then (match iy op p q with|some k=>.ok (.bl k) Y|none=>.bad) else .bad
 |_,_=>.bad
theorem JZ:rO p (nD op) (σ8 p.K op):=by
 intro a b v y H Z Y Q S ra rb P;unfold nD at P;split at P
 ·rename_i x z hx hz;split at P
  ·rename_i hf;split at P
   ·rename_i k hk;exact⟨x,z,k,lZ S hx ra,lZ S hz rb,hf.1,hf.2,hk,P.now S _ (aV.mpr rfl)⟩
   ·exact P.elim
  ·exact P.elim
 ·exact P.elim
def dI(g:Int->Int->D)(a b:D)(Y:aw):aj D:=match a,b with
 |.int i,.int j=>.ok (g i j) Y
 |_,_=>.bad
open Classical in
def Hk(C:Int->Int->Prop)(g:Int->Int->D)(a b:D)(Y:aw):aj D:=match a,b with
 |.int i,.int j=>if C i j then .ok (g i j) Y else .bad
 |_,_=>.bad
section
theorem NN{g:Int->Int->V}(h:∀i j H Z,p.R H Z (gd i j) (g i j)):rO p (dI gd) (K5 g):=by
 intro a b v y H Z Y Q S ra rb P;unfold dI at P;split at P
 ·rename_i i j;exact⟨i,j,ar.mp ra,ar.mp rb,P.now S _ (h i j H Z)⟩
 ·exact P.elim
theorem Cb{C:Int->Int->Prop}{g:Int->Int->V}(h:∀i j H Z,p.R H Z (gd i j) (g i j)):rO p (Hk C gd) (rI C g):=by
 intro a b v y H Z Y Q S ra rb P;unfold Hk at P;split at P
 ·rename_i i j;split at P
  ·rename_i hc;exact⟨i,j,ar.mp ra,ar.mp rb,hc,P.now S _ (h i j H Z)⟩
  ·exact P.elim
 ·exact P.elim
def vv(a:D)(Y:aw):aj D:=match a with
 |.int i=>.ok (.int (-i)) Y
 |_=>.bad
theorem J1:N7 p vv (rU fun i=>.int (-i)):=by
 intro a v H Z Y Q S ra P;unfold vv at P;split at P
 ·rename_i i;exact⟨i,ar.mp ra,P.now S _ (ar.mpr rfl)⟩
 ·exact P.elim
def HF(K:W.Frag):R2:=fun x y H Q=>∃a b xs ys,x=.ref a/\y=.ref b/\eK K H a xs/\eK K H b ys/\xs.length+ys.length<=sizeLine /\
 (xs=[]->Q (.ref b) H)/\(xs≠[]->ys=[]->Q (.ref a) H)/\(xs≠[]->ys≠[]->∀p,H p=none->Q (.ref p) (bq H p (.tup (xs++ys))))
theorem Ep{t b:Addr}{ws:List Value}(ht:IsTup 1e5 t #[])(hb:IsTup 1e5 b ws.toArray)(h0:Q (.ref b) s):wpAny 0e6 A (binaryOp .Add (.ref t) (.ref b)) Q E s:=by
 obtain⟨⟨cls,dd,data,sl⟩,ho,hc,n,hd⟩:=id ht;obtain⟨⟨cls2,dd2,data2,sl2⟩,ho2,hc2,n2,hd2⟩:=id hb;simp only at hc hd hc2 hd2;subst hc hd hc2 hd2
 exact concat_meets ⟨_,ho,rfl⟩ ⟨_,ho2,rfl⟩ PH seq_tuple_add PJ PL (PM _ _)
  (tuple_addW0 t b #[] ws.toArray n n2 dd dd2 sl sl2 1e1) ⟨ho,ho2,h0⟩
theorem Gr{X:Cx}:jR X (binaryOp .Add) (HF X.K):=by
 intro pins s B H x y v u Q I rx ry h;obtain⟨a,b,xs,ys,rfl,rfl,ha,hb,hz,q0,q1,q2⟩:=h;by_cases hx:xs=[]
 ·cases rx;cases ry;obtain⟨its,r1,p1,_⟩:=I.tuple ha;obtain⟨its2,r2,p2,_⟩:=I.tuple hb;subst hx;cases r1;exact Ep p1 p2 ⟨.ref b,H,I,rfl,q0 rfl⟩
 ·exact Gq pins s B H (.ref a) (.ref b) v u Q I rx ry ⟨a,b,xs,ys,rfl,rfl,ha,hb,hx,hz,q1 hx,q2 hx⟩
def σ9(K:W.Frag):R2:=fun x y H Q=>K5 (fun i j=>.int (i+j)) x y H Q\/HF K x y H Q\/Lo x y H Q\/(∃i j,x=.str i/\y=.str j/\i.length+j.length<=sizeLine/\Q (.str (i++j)) H)
theorem Gs{X:Cx}:jR X (binaryOp .Add) (σ9 X.K):=JP.or (Gr.or (JO.or yv))
def cx(a b:D)(Y:aw):aj D:=match a,b with
 |.int i,.int j=>.ok (.int (i+j)) Y
 |.str x,.str y=>if x.length+y.length<=sizeLine then .ok (.str (x++y)) Y else .bad
 |.tup xs,.tup ys=>if xs.length+ys.length<=sizeLine then .ok (.tup (xs++ys)) Y else .bad
 |.obj m,.obj n=>match Y[m]?,Y[n]? with
  |some 2e6,some (.lst ys)=>if xs.length+ys.length<=sizeLine then .ok 1e9 (Y++[.lst (xs++ys)]) else .bad
  |_,_=>.bad
 |_,_=>.bad
theorem cH(S:p.S H Z Y)(r:p.R H Z (.obj n) v)(hx:Y[n]?=some 2e6):∃a us,v=.ref a/\Z[n]?=some a/\H a=some (.lst us)/\p.Rs H Z xs us:=by
 obtain⟨a,ea,us,hH,rr⟩:=S.at hx;obtain⟨a',rfl,ea'⟩:=aM.mp r;rw[ea]at ea';cases ea';exact⟨a,us,rfl,ea,hH,rr⟩
theorem Reps.nil_iff'(r:Reps K H Z xs vs):vs=[]↔xs=[]:=by
 have:=r.length;constructor
 ·intro h;subst h;simp at this;exact SR this.symm
 ·intro h;subst h;simp at this;exact this
theorem J0:rO p cx (σ9 p.K):=by
 intro a b v y H Z Y Q S ra rb P;unfold cx at P;split at P
 ·rename_i i j;exact .inl ⟨i,j,ar.mp ra,ar.mp rb,P.now S _ (ar.mpr rfl)⟩
 ·rename_i i j;split at P
  ·rename_i hl;exact .inr (.inr (.inr ⟨i,j,bh.mp ra,bh.mp rb,hl,P.now S _ (bh.mpr rfl)⟩))
  ·exact P.elim
 ·rename_i xs ys;split at P
  ·rename_i hl;obtain⟨a,us,rfl,h1,r1⟩:=aC.mp ra;obtain⟨b,ws,rfl,h2,r2⟩:=aC.mp rb;refine .inr (.inl ⟨a,b,us,ws,rfl,rfl,h1,h2,by rw[r1.length,r2.length];exact hl,fun e=>?_,fun _ e=>?_,fun _ _ q hq=>?_⟩)
   ·have ex:=r1.nil_iff'.mp e;subst ex;exact P.now S _ (by simpa using rb)
   ·have ey:=r2.nil_iff'.mp e;subst ey;exact P.now S _ (by simpa using ra)
   ·exact P _ _ (bx hq) (S.tuple hq) _ (aC.mpr ⟨q,_,rfl,eK.of aH,(r1.append r2).mono (bx hq)⟩)
  ·exact P.elim
 ·rename_i m n;split at P
  ·rename_i xs ys hx hy;split at P
   ·rename_i hl;obtain⟨a,us,rfl,a1,h1,r1⟩:=cH S ra hx;obtain⟨b,ws,rfl,b1,h2,r2⟩:=cH S rb hy;refine .inr (.inr (.inl ⟨a,b,us,ws,rfl,rfl,h1,h2,by rw[r1.length,r2.length];exact hl,fun q hq=>?_⟩));obtain⟨x1,x2,x3⟩:=dA S hq (r1.append r2);exact P _ _ x1 x2 _ x3
   ·exact P.elim
  ·exact P.elim
 ·exact P.elim
def Hy:R2:=fun x y H Q=>rI vz (fun i j=>.int (i*j)) x y H Q\/Li x y H Q
theorem Gm{X:Cx}:jR X (binaryOp .Mult) Hy:=JJ.or JG
open Classical in
def rR(a b:D)(Y:aw):aj D:=match a,b with
 |.int i,.int j=>if vz i j then .ok (.int (i*j)) Y else .bad
 |.obj m,.int k=>match Y[m]? with
  |some 2e6=>if -(2^63)<=k/\k<2^63/\xs.length*k.toNat<=sizeLine then .ok 1e9 (Y++[.lst (List.replicate k.toNat xs).flatten]) else .bad
  |_=>.bad
 |_,_=>.bad
theorem Reps.rep{K:W.Frag}{H:Hp}{Z:List Addr}{xs:List D}{vs:List V}(h:Reps K H Z xs vs):∀k:Nat,Reps K H Z (List.replicate k xs).flatten (List.replicate k vs).flatten
 |0=>by simpa using Reps.nil
 |k+1=>by
  rw[Qr,Qr,Qs,Qs];exact h.append (Reps.rep h k)
theorem JX:rO p rR Hy:=by
 intro a b v y H Z Y Q S ra rb P;unfold rR at P;split at P
 ·rename_i i j;split at P
  ·rename_i hc;exact .inl ⟨i,j,ar.mp ra,ar.mp rb,hc,P.now S _ (ar.mpr rfl)⟩
  ·exact P.elim
 ·rename_i m k;split at P
  ·rename_i xs hx;split at P
   ·rename_i hl;obtain⟨a,us,rfl,a1,h1,r1⟩:=cH S ra hx;refine .inr ⟨a,k,us,rfl,ar.mp rb,h1,hl.1,hl.2.1,by rw[r1.length];exact hl.2.2,fun q hq=>?_⟩;obtain⟨x1,x2,x3⟩:=dA S hq (r1.rep k.toNat);exact P _ _ x1 x2 _ x3
   ·exact P.elim
  ·exact P.elim
 ·exact P.elim
def fK(a b:D)(Y:aw):aj D:=match a,b with
 |.tup xs,.int i=>match atI xs i with
  |some d=>.ok d Y
  |none=>.bad
 |.frz xs,.int i=>match atI xs i with
  |some d=>.ok d Y
  |none=>.bad
 |.obj n,.int i=>match Y[n]? with
  |some 2e6=>match atI xs i with
   |some d=>.ok d Y
   |none=>.bad
  |_=>.bad
 |_,_=>.bad
theorem Reps.atI{i:Int}(r:Reps K H Z xs vs)(h:ρ2.atI xs i=some d):∃v,ρ2.atI vs i=some v/\aN K H Z d v:=by
 unfold ρ2.atI at h⊢;rw[r.length];cases e:y0 3e9 i with
 |none=>rw[e]at h;cases h
 |some j=>rw[e]at h;exact r.get h
theorem Mq:rO p fK (N6 p.K):=by
 intro a b v y H Z Y Q S ra rb P;unfold fK at P;split at P
 ·rename_i xs i;split at P
  ·rename_i d hd;obtain⟨a,us,rfl,h1,r1⟩:=aC.mp ra;obtain⟨v,hv,rv⟩:=r1.atI hd;exact .inr (.inl ⟨a,us,i,v,rfl,ar.mp rb,h1,hv,P.now S _ rv⟩)
  ·exact P.elim
 ·rename_i xs i;split at P
  ·rename_i d hd;obtain⟨a,us,rfl,h1,r1⟩:=bo.mp ra;obtain⟨v,hv,rv⟩:=r1.atI hd;exact .inl ⟨a,us,i,v,rfl,ar.mp rb,h1.sq,hv,P.now S _ rv⟩
  ·exact P.elim
 ·rename_i n i;split at P
  ·rename_i xs hx;split at P
   ·rename_i d hd;obtain⟨a,us,rfl,a1,h1,r1⟩:=cH S ra hx;obtain⟨v,hv,rv⟩:=r1.atI hd;exact .inl ⟨a,us,i,v,rfl,ar.mp rb,fG.of h1,hv,P.now S _ rv⟩
   ·exact P.elim
  ·exact P.elim
 ·exact P.elim
theorem ρ8{X:Cx}{a b:Expr}{fb:ME}(hK:X.K=p.K)(ha:PE X a (tD p fa))(hb:PE X b (tD p fb))(hs:uI b):PE X (.Subscript a b pos) (tD p (aK fK fa fb)):=
 (HG Kk ha hb hs).weak fun B H Q ⟨Z, L, Y, S, R, P⟩ => ⟨Z, L, Y, S, R, (aA.bind P).imp fun x Y1 H1 Z1 X1 S1 P1 v rv => ⟨Z1, L, Y1, S1, R.mono X1, (aA.bind P1).imp fun y Y2 H2 Z2 X2 S2 P2 u ru => by
  rw[hK];exact Mq x y v u H2 Z2 Y2 Q S2 (rv.mono X2) ru P2⟩⟩
theorem lG{t:Addr}{items:Array Value}{vu:Value}{hi:Option Int}(ht:IsTup 1e5 t items)(hs:s.heap.IsSliceOf sl vl vu .none)(pl:IsPart vl lo)(pu:IsPart vu hi)(hw:HT.sIx 2e8 0 lo=0/\HT.sIx 2e8 2e8 hi=2e8)(h:Q (.ref t) s):wpAny 0e6 A (getItem (.ref t) (.ref sl)) Q E s:=by
 obtain⟨os,hos,hcs,hds⟩:=id hs;have hTs:s.TypeIs (.ref sl) "slice" := ⟨os,hos,hcs⟩;unfold getItem
 try with_reducible refine O0 ?_
 first|refine OZ (O5 ?_)|skip
 refine OZ (P9 ht.typeIs 0e4 ?_)
 refine OZ (Qa (name:=Str.ofString "__getitem__") ht.typeIs Qb
  (Qc Qb ht.typeIs Qd ?_ (Qe _ _)))
 show wpAny _ _ (Builtin.Tuple.tupleItemsOf (.ref t) >>= _) _ _ s;refine OZ (tupleItemsOf_ ht ?_);refine OZ (Qf hTs ?_);rw[Ow 0e4];refine OZ (HT.sliceApplied_gen hs pl pu ?_)
 have hno:(((HT.sIx 2e8 0 lo:Nat):Int) == 0&&(1:Int) == 1&&(HT.sIx 2e8 2e8 hi-HT.sIx 2e8 0 lo) == items.size)=true:=by
  rw[hw.1,hw.2];simp
 show wpAny _ _ (if (((HT.sIx 2e8 0 lo:Nat):Int) == 0&&(1:Int) == 1&&(HT.sIx 2e8 2e8 hi-HT.sIx 2e8 0 lo) == items.size)=true then _ else _) _ _ s;rw[Ow hno];refine OZ (m:=Builtin.Tuple.tupleIsExact (.ref t)) (OZ (Qf ht.typeIs (O5 ?_)));rw[Ow 0e4];exact OZ (QN (O5 ⟨_,rfl,O5 h⟩))
def iR(xs:List β)(lo hi:Option Int):List β:=(xs.drop (HT.sIx 3e9 0 lo)).take (HT.sIx 3e9 3e9 hi-HT.sIx 3e9 0 lo)
theorem yK(xs:List β)(lo hi:Option Int)(h:HT.sIx 3e9 0 lo=0/\HT.sIx 3e9 3e9 hi=3e9):iR xs lo hi=xs:=by
 unfold iR;rw[h.1,h.2];simp
def Hw(K:W.Frag):V->Option Int->Option Int->Hp->VK->Prop:=fun x lo hi H Q=>∃a xs,x=.ref a/\eK K H a xs /\
 (HT.sIx 3e9 0 lo=0/\HT.sIx 3e9 3e9 hi=3e9)/\Q (.ref a) H
theorem FD{X:Cx}:EM X (Hw X.K):=by
 intro pins s B H x v vl vu lo hi sl Q I rx hs pl pu h;obtain⟨a,xs,rfl,hx,hw,q⟩:=h;cases rx;obtain⟨its,r,ht,hz⟩:=I.tuple hx;have hlen:its.toArray.size=xs.length:=by rw[Pg];exact r.length.symm
 refine⟨"tuple",_,Qb.lookup,ht.typeIs,?_⟩;exact lG ht hs pl pu (by rw[hlen];exact hw) ⟨.ref a,H,I,rfl,q⟩
def Lh(K:W.Frag):V->Option Int->Option Int->Hp->VK->Prop:=fun x lo hi H Q=>Le K x lo hi H Q\/Hw K x lo hi H Q\/Lg K x lo hi H Q
theorem NJ{X:Cx}:EM X (Lh X.K):=tY.or (FD.or FE)
abbrev MO:=Ro->aw->aj (Option Int)
def EI:MO:=fun _ Y=>.ok none Y
def MZ(d:D)(Y:aw):aj (Option Int):=match d with
 |.int i=>.ok (some i) Y
 |_=>.bad
def ke(f:ME):MO:=fun L Y=>(f L Y).bind MZ
def Hi(p:Pa)(f:MO):TO:=fun B H Q=>∃Z L Y,p.S H Z Y/\cR p.K H Z L B/\aA p H Z (f L Y) (fun o _ H' _=>Q o H')
theorem PO.weak{X:Cx}{e:Option Expr}{t t':TO}(h:PO X e t)(k:∀B H Q,t' B H Q->t B H Q):PO X e t':=fun pins s B H Q I q=>h pins s B H Q I (k B H Q q)
theorem FC{X:Cx}:PO X none (Hi p EI):=F6.weak fun B H Q ⟨Z,L,Y,S,R,P⟩=>P.now S
theorem FA{X:Cx}{f:ME}(h:PE X e (tD p f)):PO X (some e) (Hi p (ke f)):=(F5 h).weak fun B H Q ⟨Z,L,Y,S,R,P⟩=>⟨Z,L,Y,S,R,(aA.bind P).imp fun d Y1 H1 Z1 X1 S1 P1 v rv=>by
 unfold MZ at P1;split at P1
 ·rename_i i;exact⟨i,ar.mp rv,P1.now S1⟩
 ·exact P1.elim⟩
def EC(a:D)(lo hi:Option Int)(Y:aw):aj D:=match a with
 |.tup xs=>.ok (.tup (iR xs lo hi)) Y
 |.frz xs=>.ok 1e9 (Y++[.lst (iR xs lo hi)])
 |.obj n=>match Y[n]? with
  |some 2e6=>.ok 1e9 (Y++[.lst (iR xs lo hi)])
  |_=>.bad
 |_=>.bad
def ED(fa:ME)(fl fh:MO):ME:=fun L Y=>(fa L Y).bind fun a Y1=>(fl L Y1).bind fun lo Y2=>(fh L Y2).bind fun hi Y3=>EC a lo hi Y3
theorem Reps.cut'(r:Reps K H Z xs vs)(lo hi:Option Int):Reps K H Z (iR xs lo hi) (vx vs lo hi):=by
 unfold iR vx;rw[r.length];exact(r.drop _).take _
theorem ρ6{a:D}{hi:Option Int}{Q:VK}(S:p.S H Z Y)(ra:p.R H Z a v)(P:aA p H Z (EC a lo hi Y) (RV p Q)):Lh p.K v lo hi H Q:=by
 unfold EC at P;split at P
 ·rename_i xs;obtain⟨a,us,rfl,h1,r1⟩:=aC.mp ra;by_cases hw:HT.sIx us.length 0 lo=0/\HT.sIx us.length us.length hi=us.length
  ·refine .inr (.inl ⟨a,us,rfl,h1,hw,?_⟩);rw[r1.length]at hw;rw[yK xs lo hi hw]at P;exact P.now S _ ra
  ·exact .inl ⟨a,us,rfl,h1,hw,fun q hq=>P _ _ (bx hq) (S.tuple hq) _ (aC.mpr ⟨q,_,rfl,eK.of aH,(r1.cut' lo hi).mono (bx hq)⟩)⟩
 ·rename_i xs;obtain⟨a,us,rfl,h1,r1⟩:=bo.mp ra;refine .inr (.inr ⟨a,us,rfl,h1.sq,fun q hq=>?_⟩);obtain⟨x1,x2,x3⟩:=dA S hq (r1.cut' lo hi);exact P _ _ x1 x2 _ x3
 ·rename_i n;split at P
  ·rename_i xs hx;obtain⟨a,us,rfl,a1,h1,r1⟩:=cH S ra hx;refine .inr (.inr ⟨a,us,rfl,fG.of h1,fun q hq=>?_⟩);obtain⟨x1,x2,x3⟩:=dA S hq (r1.cut' lo hi);exact P _ _ x1 x2 _ x3
  ·exact P.elim
 ·exact P.elim
theorem Dt{X:Cx}{lo hi:Option Expr}{fl fh:MO}(hK:X.K=p.K)(he:PE X e (tD p fa))(hl:PO X lo (Hi p fl))(hu:PO X hi (Hi p fh)):PE X (.Subscript e (.Slice lo hi none p2) pos) (tD p (ED fa fl fh)):=
 (DI NJ he hl hu).weak fun B H Q ⟨Z, L, Y, S, R, P⟩ => ⟨Z, L, Y, S, R, (aA.bind P).imp fun a Y1 H1 Z1 X1 S1 P1 v rv => ⟨Z1, L, Y1, S1, R.mono X1, (aA.bind P1).imp fun l Y2 H2 Z2 X2 S2 P2 => ⟨Z2, L, Y2, S2, (R.mono X1).mono X2, (aA.bind P2).imp fun h Y3 H3 Z3 X3 S3 P3 => by
  rw[hK];exact ρ6 S3 ((rv.mono X2).mono X3) P3⟩⟩⟩
theorem kL{β γ:Type}{f:β->Option γ}{g:β->γ}:∀{l:List β},(∀m∈l,f m=some (g m))->l.filterMap f=l.map g
 |[],_=>rfl
 |x::r,h=>by rw[OI,h x OJ,Qj,kL fun m hm=>h m (OK _ hm)]
theorem wj(xs:Array Value):((List.range xs.size).filterMap fun(m:Nat)=>xs[(((xs.size:Int)-1)+(m:Int)*(-1)).toNat]?).toArray=xs.toList.reverse.toArray:=by
 congr 1;apply Sg;intro i
 have hf:∀m∈List.range xs.size,xs[(((xs.size:Int)-1)+(m:Int)*(-1)).toNat]?=some (xs.toList.reverse.getD m .none):=by
  intro m hm;have hm':m<xs.size:=by simpa using hm
  have e:(((xs.size:Int)-1)+(m:Int)*(-1)).toNat=xs.size-1-m:=by omega
  rw[e,Sf,List.getElem?_reverse (by simpa using hm')];have h2:xs.size-1-m<xs.size:=by omega
  rw[RH h2];simp[OW,h2]
 rw[kL hf];by_cases hi:i<xs.size
 ·rw[Px,Sh hi];dsimp[Option.map_some];rw[Sf,Sw (by simpa using hi)];rfl
 ·rw[Si (by simpa using hi),Si (by simpa using hi)]
theorem oh{t:Tok}{Q:Int×Int×Nat->Shared->Prop}(hs:s.heap.IsSliceOf sl .none .none (.int (-1) t))(h:Q ((n:Int)-1,-1,n) s):wpAny 0e6 A (Builtin.Slice.sliceApplied (.ref sl) (pure (n:Int))) Q E s:=by
 obtain⟨os,hos,hcs,hds⟩:=id hs;unfold Builtin.Slice.sliceApplied Builtin.Slice.sliceFields;refine OZ (OZ (PX hos hds (x:=.none) rfl (OZ (PX hos hds (x:=.none) rfl (OZ (PX hos hds (x:=.int (-1) t) rfl (O5 ?_)))))));refine OZ (slicePart_int ?_);show wpAny _ _ (if ((-1:Int) == 0)=true then _ else _) _ _ s;rw[Ox 0e4];refine OZ (PV (OZ (PV (OZ (O5 ?_)))));show wpAny _ _ (match Builtin.Slice.sliceAdjust none none (-1) (n:Int) with|(lo,hi)=>pure (lo,(-1:Int),Builtin.Slice.slicePlaces lo hi (-1))) _ _ s;have e:Builtin.Slice.sliceAdjust none none (-1) (n:Int)=((n:Int)-1,-1):=by unfold Builtin.Slice.sliceAdjust;simp
 rw[e];show wpAny _ _ (pure ((n:Int)-1,(-1:Int),Builtin.Slice.slicePlaces ((n:Int)-1) (-1) (-1))) _ _ s
 have e2:Builtin.Slice.slicePlaces ((n:Int)-1) (-1) (-1)=n:=by
  unfold Builtin.Slice.slicePlaces;rw[Ox 0e4];split <;> simp <;> omega
 rw[e2];exact O5 h
theorem nv{t:Addr}{items:Array Value}(ht:IsTup 1e5 t items)(hs:s.heap.IsSliceOf sl .none .none (.int (-1) tk))(h:Q (.ref 0e3) {s with heap:=s.heap.push {cls:=.type "tuple",data:=.seq items.toList.reverse.toArray}})(hsz:items.size<=sizeLine):wpAny 0e6 A (getItem (.ref t) (.ref sl)) Q E s:=by
 have htake:sizeOk (.seq items.toList.reverse.toArray):=by
  show items.toList.reverse.toArray.size<=sizeLine;simpa using hsz
 obtain⟨os,hos,hcs,hds⟩:=id hs;have hTs:s.TypeIs (.ref sl) "slice" := ⟨os,hos,hcs⟩;unfold getItem
 try with_reducible refine O0 ?_
 first|refine OZ (O5 ?_)|skip
 refine OZ (P9 ht.typeIs 0e4 ?_)
 refine OZ (Qa (name:=Str.ofString "__getitem__") ht.typeIs Qb
  (Qc Qb ht.typeIs Qd ?_ (Qe _ _)))
 show wpAny _ _ (Builtin.Tuple.tupleItemsOf (.ref t) >>= _) _ _ s;refine OZ (tupleItemsOf_ ht ?_);refine OZ (Qf hTs ?_);rw[Ow 0e4];refine OZ (oh hs ?_);show wpAny _ _ (if (((items.size:Int)-1) == 0&&(-1:Int) == 1&&items.size == items.size)=true then _ else _) _ _ s;rw[Ox 1e1,wj]
 first
  |exact OZ (m:=Builtin.Tuple.tupleExact _) (Qh (O5 ⟨_,rfl,O5 h⟩) htake)
  |exact OZ (m:=Builtin.Tuple.tupleExact _) (Qh (OZ (O5 (O5 ⟨_,rfl,O5 h⟩))) htake)
  |exact OZ (OZ (m:=Builtin.Tuple.tupleExact _) (Qh (O5 (O5 ⟨_,rfl,O5 h⟩)) htake))
  |exact OZ (OZ (m:=Builtin.Tuple.tupleExact _) (Qh (O5 ⟨_,rfl,O5 h⟩) htake))
end
inductive BK(K:W.Frag)(H:Hp):V->String->Prop where
 |non:BK K H .non "NoneType"
 |bl (x:Bool):BK K H (.bl x) "bool"
 |int (i:Int):BK K H (.int i) "int"
 |str (x:Str):BK K H (.str x) "str"
 |lst {a:Addr}{xs:List V} (e:fG K H a xs):BK K H (.ref a) "list"
 |tup {a:Addr}{xs:List V} (e:eK K H a xs):BK K H (.ref a) "tuple"
 |dic {a:Addr}{kvs:List (rP×V)} (e:H a=some (.dK kvs)):BK K H (.ref a) "dict"
def j9 (tn T:String):Bool:=tn == T || (tn == "bool" && T == "int")
def ui:List String:=["NoneType", "bool", "int", "str", "list", "tuple", "dict"]
theorem Kc:∀tn∈ui,∀T∈["int", "bool", "tuple", "list", "str", "dict"],W.kitOne K (.type tn) (.type T)=some (j9 tn T):=by
 intro tn h1 T h2;dsimp[ui,OM,Q3,Q4]at h1 h2;rcases h1 with rfl|rfl|rfl|rfl|rfl|rfl|rfl <;> rcases h2 with rfl|rfl|rfl|rfl|rfl|rfl <;> rfl
theorem BK.mem{x:V}(h:BK K H x tn):tn∈ui:=by
 cases h <;> decide
section
variable{X:Cx}
theorem Kl{c:Value}{x:V}(I:aS X pins B H s)(rx:bG x u)(ty:BK X.K H x tn)(e:W.kitOne X.K (.type tn) c=some b)(h:∀tk,Q (.bool b) {s with toks:=tk}):
  wpAny 0e7 A (call (.builtin "isinstance") [u,c]) Q E s:=by
 cases ty with
 |non=>cases (show u=Value.none from rx);exact W.kia_one W.kitx_none I.kIn True.intro e (fun z=>nomatch z) h
 |bl y=>cases (show u=Value.bool y from rx);exact W.kia_one W.kitx_bool I.kIn True.intro e (fun z=>nomatch z) h
 |int i=>obtain⟨t,q⟩:=(show ∃t,u=Value.int i t from rx);cases q;exact W.kia_one W.kitx_int I.kIn True.intro e (fun z=>nomatch z) h
 |str y=>obtain⟨t,q⟩:=(show ∃t,u=Value.str y t from rx);cases q;exact W.kia_one W.kitx_str I.kIn True.intro e (fun z=>nomatch z) h
 | @lst a xs ea=>
  cases (show u=Value.ref a from rx);obtain⟨its,_,⟨o,n,h1,h2,_⟩,_⟩:=I.list ea;exact W.kia_one W.kitx_list I.kIn ⟨o,h1,h2⟩ e (fun z=>nomatch z) h
 | @tup a xs ea=>
  cases (show u=Value.ref a from rx);obtain⟨its,_,⟨o,h1,h2,_⟩,_⟩:=I.tuple ea;exact W.kia_one W.kitx_tuple I.kIn ⟨o,h1,h2⟩ e (fun z=>nomatch z) h
 | @dic a kvs ea=>
  cases (show u=Value.ref a from rx);obtain⟨_,_,vs,_,p⟩:=(show cf X.prog X.w H 1e5 a (.dK kvs) from I.hok a _ ea);obtain⟨o,es,ep,h1,h2,_⟩:=p;exact W.kia_one W.kitx_dict I.kIn ⟨o,h1,h2.1⟩ e (fun z=>nomatch z) h
def Ll(K:W.Frag):List V->Hp->VK->Prop:=fun xs H Q=>∃x T tn b,xs=[x,.ty T]/\BK K H x tn/\W.kitOne K (.type tn) (.type T)=some b/\Q (.bl b) H
theorem Et:cM X (.builtin "isinstance") (Ll X.K):=by
 intro pins s B H xs us Q I r h;obtain⟨x,T,tn,b,rfl,ty,e,q⟩:=h;obtain⟨u,u2,rfl,ru,ru2⟩:=σ3 r;cases ru2;exact Kl I ru ty e fun tk=>⟨.bl b,H,I.tok _,rfl,q⟩
end
def yX(Y:aw):D->Option String
 |.non=>some "NoneType"
 |.bl _=>some "bool"
 |.int _=>some "int"
 |.str _=>some "str"
 |.tup _=>some "tuple"
 |.frz _=>some "list"
 |.obj n=>match Y[n]? with
  |some (.lst _)=>some "list"
  |some .dic=>some "dict"
  |_=>none
theorem IA(S:p.S H Z Y)(r:p.R H Z d v)(h:yX Y d=some tn):BK p.K H v tn:=by
 cases d with
 |non=>cases h;rw[bC.mp r];exact .non
 |bl b=>cases h;rw[aV.mp r];exact .bl b
 |int b=>cases h;rw[ar.mp r];exact .int b
 |str b=>cases h;rw[bh.mp r];exact .str b
 |tup xs=>cases h;obtain⟨a,vs,rfl,h1,_⟩:=aC.mp r;exact .tup h1
 |frz xs=>cases h;obtain⟨a,vs,rfl,h1,_⟩:=bo.mp r;exact .lst h1.sq
 |obj n=>
  unfold yX at h;dsimp only at h;split at h
  ·rename_i xs hx;cases h;obtain⟨a,us,rfl,a1,h1,_⟩:=cH S r hx;exact .lst (fG.of h1)
  ·rename_i hx;cases h;obtain⟨a,ea,q⟩:=S.at hx;obtain⟨a',rfl,ea'⟩:=aM.mp r;rw[ea]at ea';cases ea';exact .dic q
  ·cases h
def fL(T:String)(d:D)(Y:aw):aj D:=match yX Y d with
 |some tn=>.ok (.bl (j9 tn T)) Y
 |none=>.bad
theorem Jd{X:Cx}{a:Expr}{xT:Str}{pt:Pos}(hK:X.K=p.K)(hT:T∈["int", "bool", "tuple", "list", "str", "dict"])(hg:Gl X "isinstance")(hm:X.mg "isinstance" = none)(hgT:Gl X xT)(hmT:X.mg xT=none)(hbT:bootBuiltins xT=some (.type T))(ha:PE X a (tD p fa))(hnT:xT ≠ "__name__")(hdT:(xT == ("__debug__" : Str))=false)(hs1:starEach [a,.Name xT pt] 1e2=(false,eval a 1e2)::starEach [.Name xT pt] 1e2):
  PE X (.Call (.Name "isinstance" px) [a,.Name xT pt] [] pos) (tD p (lu (fL T) fa)):=by
 have hb:PE X (.Name xT pt) (tC (.ty T)):=zG hgT hmT hbT rfl hnT hdT;refine(mY Et hg hm SS (hX ha (hX hb nI rfl) hs1) 0e4 0e4 hs1 rfl).weak fun B H Q ⟨Z,L,Y,S,R,P⟩=>⟨Z,L,Y,S,R,(aA.bind P).imp fun d Y1 H1 Z1 X1 S1 P1 v rv=>?_⟩;show Ll X.K [v,.ty T] H1 Q;unfold fL at P1;split at P1
 ·rename_i tn htn;have ty:=IA S1 rv htn;rw[hK];exact⟨v,T,tn,_,rfl,ty,Kc tn ty.mem T hT,P1.now S1 _ (aV.mpr rfl)⟩
 ·exact P1.elim
def ma:List D->Option (List Bool)
 |[]=>some []
 |.bl b::r=>(ma r).map (b::·)
 |_::_=>none
theorem qT:∀{ds:List D}{bs:List Bool},ma ds=some bs->ds=bs.map D.bl
 |[],bs,h=>by cases h;rfl
 |.bl b::r,bs,h=>by
  unfold ma at h;cases e:ma r with
  |none=>rw[e]at h;cases h
  |some cs=>rw[e]at h;cases h;rw[qT e];rfl
 |.non::r,bs,h=>by cases h
 |.int _::r,bs,h=>by cases h
 |.str _::r,bs,h=>by cases h
 |.tup _::r,bs,h=>by cases h
 |.frz _::r,bs,h=>by cases h
 |.obj _::r,bs,h=>by cases h
theorem BE(bs:List Bool):ma (bs.map D.bl)=some bs:=by
 induction bs with
 |nil=>rfl
 |cons b r ih=>dsimp[Qj,ma,ih];rfl
theorem Reps.bools{K:W.Frag}{H:Hp}{Z:List Addr}:∀{bs:List Bool}{vs:List V},Reps K H Z (bs.map D.bl) vs->vs=bs.map V.bl
 |[],vs,h=>by dsimp[Qi,Reps]at h;exact h
 |n::ns,vs,h=>by
  dsimp[Qj,Reps]at h;obtain⟨v,r,rfl,h1,h2⟩:=h;rw[aV.mp h1,Reps.bools h2];rfl
theorem yb{bs:List Bool}(h:ba (bs.map V.bl) us):us=bs.map Value.bool:=by
 induction bs generalizing us with
 |nil=>cases h;rfl
 |cons b r ih=>
  cases h with
  |cons h1 h2=>cases h1;rw[ih h2];rfl
theorem BH{bs:List Bool}:(List.range bs.length).all (fun i=>bs.getD i false)=bs.all id:=by
 induction bs with
 |nil=>rfl
 |cons b r ih=>
  rw[QF,Q8,Qp,SU,Qp];congr 1
section
variable{X:Cx}
def Lp(K:W.Frag):List V->Hp->VK->Prop:=fun xs H Q=>∃(a:Addr)(bs:List Bool),xs=[.ref a]/\fG K H a (bs.map V.bl)/\Q (.bl (bs.all id)) H
theorem aS.fresh_it(I:aS X pins B H s){o:Obj}{tk:Nat}(hk:∀b ob,b ∉ [0e3]->(s.heap.push o).get? b=some ob->h'.get? b=some ob):aS X pins B H {s with heap:=h',toks:=tk}:=
 I.kept fun b ob e=>hk b ob (fun hm=>by
  have:b=s.heap.objs.size:=by simpa using hm
  subst this
  exact absurd (OA e) (OC _)) (O8 _ e)
theorem BD (hc:X.calm=true):cM X (.builtin "all") (Lp X.K):=by
 intro pins s B H xs us Q I r h;obtain⟨a,bs,rfl,ha,q⟩:=h;obtain⟨u,rfl,ru⟩:=eE r;cases ru;obtain⟨its,rv,pl,hz⟩:=I.list ha;have hi:its=bs.map Value.bool:=yb rv
 have hne:a≠s.heap.objs.size:=by
  obtain⟨o,n,e,_⟩:=pl;exact OD (OA e)
 refine call_all_walk (R8 pl.isList ?_);refine⟨0e3,[0e3,a],[0e3],_,_,_,fun i=>bs.getD i false,rfl,Walks.list (A:=X.A.in1) (show X.A.in1.handled=none from I.ok.hd hc) _ a hne 2e3,⟨⟨_,Oy _ rfl,rfl,rfl⟩,pl.isList.at fun o e=>O8 _ e⟩,?_,?_⟩
 ·intro i v s' Q' E' hP hQ;subst hi;have hv:(bs.map Value.bool)[i]?=some v:=by simpa using hP
  rw[Px]at hv;cases e:bs[i]? with
  |none=>rw[e]at hv;cases hv
  |some b=>
   rw[e]at hv;cases hv;have:bs.getD i false=b:=by rw[Sf,e];rfl
   dsimp only at hQ;rw[this]at hQ;exact OV hQ
 ·intro h' tk hk;have e2:its.toArray.size=bs.length:=by subst hi;simp
  rw[e2,BH];exact⟨.bl _,H,I.fresh_it hk,rfl,q⟩
end
def rS(ds:List D)(Y:aw):aj D:=match ds with
 |[.obj n]=>match Y[n]? with
  |some 2e6=>match ma xs with
   |some bs=>.ok (.bl (bs.all id)) Y
   |none=>.bad
  |_=>.bad
 |_=>.bad
theorem JV:xE p rS (Lp p.K):=by
 intro ds vs H Z Y Q S r P;unfold rS at P;split at P
 ·rename_i n;split at P
  ·rename_i xs hx;split at P
   ·rename_i bs hb;obtain⟨v,rfl,r1⟩:=r.one;obtain⟨a,us,rfl,a1,h1,rr⟩:=cH S r1 hx;rw[qT hb]at rr;exact⟨a,bs,rfl,by rw[<- rr.bools];exact fG.of h1,P.now S _ (aV.mpr rfl)⟩
   ·exact P.elim
  ·exact P.elim
 ·exact P.elim
def zh(ds:List D)(Y:aw):aj D:=match ds with
 |[.tup xs]=>.ok (.int 3e9) Y
 |[.frz xs]=>.ok (.int 3e9) Y
 |[.str x]=>if x.length<=sizeLine then .ok (.int x.length) Y else .bad
 |[.obj n]=>match Y[n]? with
  |some 2e6=>.ok (.int 3e9) Y
  |_=>.bad
 |_=>.bad
theorem zJ:xE p zh (fun xs H Q=>∃x n,xs=[x]/\Io p.K x H n/\Q (.int n) H):=by
 intro ds vs H Z Y Q S r P;unfold zh at P;split at P
 ·rename_i xs;obtain⟨v,rfl,r1⟩:=r.one;obtain⟨a,us,rfl,h1,rr⟩:=aC.mp r1;exact⟨_,3e9,rfl,.inr ⟨us,h1,rr.length.symm⟩,P.now S _ (ar.mpr rfl)⟩
 ·rename_i xs;obtain⟨v,rfl,r1⟩:=r.one;obtain⟨a,us,rfl,h1,rr⟩:=bo.mp r1;exact⟨_,3e9,rfl,.inl ⟨us,h1.sq,rr.length.symm⟩,P.now S _ (ar.mpr rfl)⟩
 ·rename_i x;obtain⟨v,rfl,r1⟩:=r.one;split at P
  ·rename_i hl;exact⟨v,x.length,rfl,by rw[bh.mp r1];exact⟨hl,rfl⟩,P.now S _ (ar.mpr rfl)⟩
  ·exact P.elim
 ·rename_i n;split at P
  ·rename_i xs hx;obtain⟨v,rfl,r1⟩:=r.one;obtain⟨a,us,rfl,a1,h1,rr⟩:=cH S r1 hx;exact⟨_,3e9,rfl,.inl ⟨us,fG.of h1,rr.length.symm⟩,P.now S _ (ar.mpr rfl)⟩
  ·exact P.elim
 ·exact P.elim
def fu(ds:List D)(Y:aw):aj D:=match ds with
 |[.tup xs]=>.ok (.tup xs) Y
 |[.frz xs]=>.ok (.tup xs) Y
 |[.obj n]=>match Y[n]? with
  |some 2e6=>.ok (.tup xs) Y
  |_=>.bad
 |_=>.bad
theorem DT:xE p fu (fun xs H Q=>∃q ys,xs=[.ref q]/\((fG p.K H q ys/\∀l,H l=none->Q (.ref l) (bq H l (.tup ys)))\/(eK p.K H q ys/\Q (.ref q) H))):=by
 intro ds vs H Z Y Q S r P;unfold fu at P;split at P
 ·rename_i xs;obtain⟨v,rfl,r1⟩:=r.one;obtain⟨a,us,rfl,h1,rr⟩:=aC.mp r1;exact⟨a,us,rfl,.inr ⟨h1,P.now S _ r1⟩⟩
 ·rename_i xs;obtain⟨v,rfl,r1⟩:=r.one;obtain⟨a,us,rfl,h1,rr⟩:=bo.mp r1;exact⟨a,us,rfl,.inl ⟨h1.sq,fun q hq=>P _ _ (bx hq) (S.tuple hq) _ (aC.mpr ⟨q,us,rfl,eK.of aH,rr.mono (bx hq)⟩)⟩⟩
 ·rename_i n;split at P
  ·rename_i xs hx;obtain⟨v,rfl,r1⟩:=r.one;obtain⟨a,us,rfl,a1,h1,rr⟩:=cH S r1 hx;exact⟨a,us,rfl,.inl ⟨fG.of h1,fun q hq=>P _ _ (bx hq) (S.tuple hq) _ (aC.mpr ⟨q,us,rfl,eK.of aH,rr.mono (bx hq)⟩)⟩⟩
  ·exact P.elim
 ·exact P.elim
def hG(ds:List D)(Y:aw):aj D:=match ds with
 |[.tup xs]=>.ok 1e9 (Y++[.lst xs])
 |[.frz xs]=>.ok 1e9 (Y++[.lst xs])
 |[.obj n]=>match Y[n]? with
  |some 2e6=>.ok 1e9 (Y++[.lst xs])
  |_=>.bad
 |_=>.bad
theorem Gw:xE p hG (fun xs H Q=>∃q ys,xs=[.ref q]/\(fG p.K H q ys\/eK p.K H q ys)/\∀l,H l=none->Q (.ref l) (bq H l (.lst ys))):=by
 intro ds vs H Z Y Q S r P;unfold hG at P;split at P
 ·rename_i xs;obtain⟨v,rfl,r1⟩:=r.one;obtain⟨a,us,rfl,h1,rr⟩:=aC.mp r1;refine⟨a,us,rfl,.inr h1,fun q hq=>?_⟩;obtain⟨x1,x2,x3⟩:=dA S hq rr;exact P _ _ x1 x2 _ x3
 ·rename_i xs;obtain⟨v,rfl,r1⟩:=r.one;obtain⟨a,us,rfl,h1,rr⟩:=bo.mp r1;refine⟨a,us,rfl,.inl h1.sq,fun q hq=>?_⟩;obtain⟨x1,x2,x3⟩:=dA S hq rr;exact P _ _ x1 x2 _ x3
 ·rename_i n;split at P
  ·rename_i xs hx;obtain⟨v,rfl,r1⟩:=r.one;obtain⟨a,us,rfl,a1,h1,rr⟩:=cH S r1 hx;refine⟨a,us,rfl,.inl (fG.of h1),fun q hq=>?_⟩;obtain⟨x1,x2,x3⟩:=dA S hq rr;exact P _ _ x1 x2 _ x3
  ·exact P.elim
 ·exact P.elim
def vI(ds:List D)(Y:aw):aj D:=match ds with
 |[.int i]=>.ok (.int i) Y
 |[.bl k]=>.ok (.int (if k then 1 else 0)) Y
 |_=>.bad
theorem JU:xE p vI (fun xs H Q=>(∃i,xs=[.int i]/\Q (.int i) H)\/∃k,xs=[.bl k]/\Q (.int (if k then 1 else 0)) H):=by
 intro ds vs H Z Y Q S r P;unfold vI at P;split at P
 ·rename_i i;obtain⟨v,rfl,r1⟩:=r.one;exact .inl ⟨i,by rw[ar.mp r1],P.now S _ (ar.mpr rfl)⟩
 ·rename_i i;obtain⟨v,rfl,r1⟩:=r.one;exact .inr ⟨i,by rw[aV.mp r1],P.now S _ (ar.mpr rfl)⟩
 ·exact P.elim
def Ce(ds:List D)(Y:aw):aj D:=match ds with
 |[.int i,.int j]=>.ok (.int (if j>i then j else i)) Y
 |_=>.bad
def Cd(ds:List D)(Y:aw):aj D:=match ds with
 |[.int i,.int j]=>.ok (.int (if j<i then j else i)) Y
 |_=>.bad
theorem Gv:xE p Ce (fun xs H Q=>∃i j,xs=[.int i,.int j]/\Q (.int (if j>i then j else i)) H):=by
 intro ds vs H Z Y Q S r P;unfold Ce at P;split at P
 ·rename_i i j;obtain⟨v,u,rfl,r1,r2⟩:=r.two;exact⟨i,j,by rw[ar.mp r1,ar.mp r2],P.now S _ (ar.mpr rfl)⟩
 ·exact P.elim
theorem Gu:xE p Cd (fun xs H Q=>∃i j,xs=[.int i,.int j]/\Q (.int (if j<i then j else i)) H):=by
 intro ds vs H Z Y Q S r P;unfold Cd at P;split at P
 ·rename_i i j;obtain⟨v,u,rfl,r1,r2⟩:=r.two;exact⟨i,j,by rw[ar.mp r1,ar.mp r2],P.now S _ (ar.mpr rfl)⟩
 ·exact P.elim
section
theorem xt(hT:T = "list" \/ T = "tuple"){vs:List Value}{Q:List Value->Shared->Prop}{o:Obj}(ho:s.heap.get? l=some o)(hc:o.cls=.type T)(hd:o.data=.seq vs.toArray n)(h:Q vs {s with heap:=(s.heap.push 2e2).update 0e3 (Obj.mapSeq (·++vs.toArray))})(hsz:vs.length<=sizeLine):
  wpAny 0e6 A (collect (.ref l)) Q E s:=by
 unfold collect;refine OZ (R9 (RU entry_proto_collect' ?_));show wpAny _ _ (do again (.builtin "list.__iadd__" ⟨[<- newList [],.ref l],[]⟩)) _ _ s;refine OZ (Sn (O5 ⟨R6 _ 0e8,RU entry_list_iadd' ?_⟩));show wpAny _ _ (Builtin.List.listExtendWith (.ref 0e3) (.ref l) (.ref 0e3)) _ _ {s with heap:=s.heap.push 2e2};unfold Builtin.List.listExtendWith;have ho':(s.heap.push 2e2).get? l=some o:=O8 _ ho;refine OZ (Qf (T:=T) ⟨o,ho',hc⟩ ?_);have h1:(Value.type "list" == Value.type "list")=true:=by rfl
 have h2:(Value.type "tuple" == Value.type "tuple")=true:=by rfl
 rw[Ow (by rcases hT with rfl|rfl <;> simp[h1,h2])];refine OZ (listItems_at ho' hd ?_);refine OZ (listItems_at (xs:=#[]) (n:=0) (Oy _ rfl) rfl ?_);rw[Ox 1e1];refine OZ (Sk (xs:=#[]) (n:=0) (Oy _ rfl) rfl ?_ (QO _) (by show (#[]++vs.toArray).size<=sizeLine+1;dsimp[Array.size_append,Pg,Rc];omega));refine O5 ?_
 show wpAny 0e6 A (do
   let o <- load 0e3
   match o.data with
   |.seq xs _=>pure xs.toList
   |_=>unsupported "internal:collect") Q E {s with heap:=(s.heap.push 2e2).update 0e3 (Obj.mapSeq (·++vs.toArray))}
 refine OZ (O6 (Sl (Oy _ rfl) _) ?_);show wpAny _ _ (pure ((#[]:Array Value)++vs.toArray).toList) Q E _;rw[show ((#[]:Array Value)++vs.toArray).toList=vs by simp];exact O5 h
theorem uN(hT:T = "list" \/ T = "tuple"){vs:List Value}{o:Obj}(ho:s.heap.get? l=some o)(hc:o.cls=.type T)(hd:o.data=.seq vs.toArray n)(hI:IntsAre vs ns)(h64:vs.length<64)(h:∀(out:Array Value)(ns':List Int),IntsAre out.toList ns'->ns'.Perm ns->ns'.Pairwise (·<=·)->Q (.ref (s.heap.objs.size+1)) {s with heap:=sortedAll 1e5 vs out}):
  wpAny 0e6 A (call (.builtin "sorted") [.ref l]) Q E s:=by
 have hsz0:vs.length<=sizeLine:=OG (OH h64) 0e4;refine SA kind_sorted plain_sorted entry_sorted (args_sorted1 _) ?_;unfold Builtin.«sorted»;refine OZ (m:=checkCount "sorted" 1 1 _) (O5 ?_);refine OZ (xt hT ho hc hd ?_ hsz0);refine OZ (Sn ?_ hsz0)
 have hsz:((s.heap.push 2e2).update 0e3 (Obj.mapSeq (·++vs.toArray))).objs.size=s.heap.objs.size+1:=by
  rw[Sr,So]
 have hoL:(((s.heap.push 2e2).update 0e3 (Obj.mapSeq (·++vs.toArray))).push (seqObj "list" vs.toArray 0)).get? (s.heap.objs.size+1)=some (seqObj "list" vs.toArray 0):=by
  rw[<- hsz];exact Oy _ rfl
 show wpAny _ _ _ _ _ {s with heap:=((s.heap.push 2e2).update 0e3 (Obj.mapSeq (·++vs.toArray))).push (seqObj "list" vs.toArray 0)};rw[hsz];refine OZ (O0 (Qc slot_list_sort ⟨_,hoL,rfl⟩ SB (list_sort_tree hoL hI h64 fun out ns' a1 a2 a3=>⟨_,rfl,?_⟩) (args_list_sort _)));exact O5 ⟨_,rfl,h out ns' a1 a2 a3⟩
end
theorem rY{h:Heap}{vs:List Value}{out:Array Value}{b:Addr}{u:Obj}(e:h.get? b=some u):(sortedAll h vs out).get? b=some u:=by
 have hb:=OA e;have n1:b≠h.objs.size:=OD hb;have n2:b≠h.objs.size+1:=OD (QH hb);unfold sortedAll sortedHeap;rw[Ss _ _ _ _ n2];refine O8 _ (O8 _ ?_);rw[Ss _ _ _ _ n2];refine O8 _ ?_;rw[Ss _ _ _ _ n1];exact O8 _ e
theorem rZ {h:Heap}{vs:List Value}{out:Array Value}:∃n,(sortedAll h vs out).get? (h.objs.size+1)=some (seqObj "list" out n):=by
 unfold sortedAll sortedHeap
 have hsz:((h.push 2e2).update h.objs.size (Obj.mapSeq (·++vs.toArray))).objs.size=h.objs.size+1:=by
  rw[Sr,So]
 have hoL:(((h.push 2e2).update h.objs.size (Obj.mapSeq (·++vs.toArray))).push (seqObj "list" vs.toArray 0)).get? (h.objs.size+1)=some (seqObj "list" vs.toArray 0):=by
  rw[<- hsz];exact Oy _ rfl
 have g1:=Sl hoL (fun _=>#[]);have g2:=O8 2e2 (O8 (seqObj "tuple" vs.toArray 0) g1);exact⟨_,Sl g2 (fun _=>out)⟩
theorem m8(h:IntsAre us ns):ba (ns.map V.int) us:=by
 induction h with
 |nil=>exact .nil
 |cons n t _ ih=>exact .cons ⟨t,rfl⟩ ih
section
variable{X:Cx}
def CD(K:W.Frag):List V->Hp->VK->Prop:=fun xs H Q=>∃(a:Addr)(ns:List Int),xs=[.ref a]/\(fG K H a (ns.map V.int)\/eK K H a (ns.map V.int))/\ns.length<64 /\
 ∀ns':List Int,ns'.Perm ns->ns'.Pairwise (·<=·)->∀l,H l=none->Q (.ref l) (bq H l (.lst (ns'.map V.int)))
theorem yS:cM X (.builtin "sorted") (CD X.K):=by
 intro pins s B H xs us Q I r h;obtain⟨a,ns,rfl,ha,hl,q⟩:=h;obtain⟨u,rfl,ru⟩:=eE r;cases ru
 have core:∀(T:String),T = "list" \/ T = "tuple" -> ∀(its:List Value) (o:Obj) (n:Nat),s.heap.get? a=some o->o.cls=.type T->o.data=.seq 2e3 n->ba (ns.map V.int) its->wpAny 0e7 X.A (call (.builtin "sorted") [.ref a]) (EP X pins B Q) X.xe s:=by
  intro T hT its o n e1 e2 e3 rv;have hI:IntsAre its ns:=fA rv;refine uN hT e1 e2 e3 hI (by rw[hI.length];exact hl) fun out ns' h1 h2 h3=>?_;refine⟨.ref (s.heap.objs.size+1),bq H (s.heap.objs.size+1) (.lst (ns'.map V.int)),I.laid (t':=s.toks) (fun b ob e=>rY e) (Q7 _) ?_,rfl,q ns' h2 h3 _ (I.hok.fresh (Q7 _))⟩;obtain⟨m,e⟩:=rZ (h:=1e5) (vs:=its) (out:=out);refine⟨?_,out.toList,m,m8 h1,by simpa using e⟩;rw[PD,h2.length_eq];exact OG (OH hl) 0e4
 rcases ha with ha|ha
 ·obtain⟨its,rv,⟨o,n,e1,e2,_,e3⟩,hz⟩:=I.list ha;exact core "list" (.inl rfl) its o n e1 e2 e3 rv
 ·obtain⟨its,rv,⟨o,e1,e2,n,e3⟩,hz⟩:=I.tuple ha;exact core "tuple" (.inr rfl) its o n e1 e2 e3 rv
theorem sx{r:Addr}{k:List Int}(I:aS X pins B H s)(h:eK X.K H r (k.map V.int)):Tk X.prog X.w 1e5 k r:=by
 obtain⟨its,rv,⟨o,e1,e2,n,e3⟩,_⟩:=I.tuple h;refine⟨o,2e3,n,e1,e2,e3,?_⟩
 have core:∀(k:List Int)(its:List Value),ba (k.map V.int) its->PySem.ItemsAre (intKind X.prog X.w) k its:=by
  intro k
  induction k with
  |nil=>intro its h;cases h;exact .nil
  |cons i r ih=>
   intro its h;cases h with
   |cons h1 h2=>
    obtain⟨t,rfl⟩:=h1;exact .cons (by simp[intKind,Value.isInt]) (ih _ h2)
 simpa using core k its rv
def kd(qs:List KP):List V:=qs.map fun p=>V.ref p.2
theorem nN:∀{qs:List KP}{its:List Value},ba (kd qs) its->its=qs.map fun p=>Value.ref p.2
 |[],its,h=>by cases h;rfl
 |q::qs,its,h=>by
  cases h with
  |cons h1 h2=>cases h1;rw[nN h2];rfl
theorem oK:∀(qs:List KP),ba (kd qs) (aY qs)
 |[]=>.nil
 |q::qs=>.cons rfl (oK qs)
def σ6(K:W.Frag)(w:World):List V->Hp->VK->Prop:=fun xs H Q=>∃(a:Addr)(qs:List KP),xs=[.ref a]/\(fG K H a (kd qs)\/eK K H a (kd qs))/\(∀p∈qs,p.1∈prs/\eK K H p.2 (p.1.map V.int)) /\
 ∀l,H l=none->Q (.ref l) (bq H l (.ext fun h=>bS w h l (fv qs)))
theorem Bt (hc:X.calm=true) (hu:X.A.units+64<cLine):cM X (.type "set") (σ6 X.K X.w):=by
 intro pins s B H xs us Q I r h;obtain⟨a,qs,rfl,ha,hq,q⟩:=h;obtain⟨u,rfl,ru⟩:=eE r;cases ru
 have fin:∀(h':Heap)(tk:Nat),bS X.w h' 0e3 (fv qs)->(∀b o,b<s.heap.objs.size->s.heap.get? b=some o->h'.get? b=some o)->EP X pins B Q (.ref 0e3) {s with heap:=h',toks:=tk}:=by
  intro h' tk hS hk;refine⟨.ref 0e3,bq H 0e3 (.ext fun h=>bS X.w h 0e3 (fv qs)),I.laid (t':=tk) (fun b ob e=>hk b ob (OA e) e) (O9 _) ?_,rfl,q _ (I.hok.fresh (O9 _))⟩;refine⟨hS,?_,fun h1 h2 g k=>g.keeps k⟩;obtain⟨o,es,ep,t,α,S0,_⟩:=hS;exact⟨o,S0.ho⟩
 rcases ha with ha|ha
 ·obtain⟨its,rv,pl,hz⟩:=I.list ha;exact xg (I.ok.hd hc) pl.isList (by simpa using nN rv) (fun p hp=>(hq p hp).1) (fun p hp=>sx I (hq p hp).2) 0e1 fin
 ·obtain⟨its,rv,pl,hz⟩:=I.tuple ha;exact uP (I.ok.hd hc) pl (by simpa using nN rv) (fun p hp=>(hq p hp).1) (fun p hp=>sx I (hq p hp).2) 0e1 fin
def CC(K:W.Frag)(w:World):List V->Hp->VK->Prop:=fun xs H Q=>∃(a:Addr)(ps:List KP),xs=[.ref a]/\H a=some (.ext fun h=>bS w h a ps)/\(∀p∈ps,eK K H p.2 (p.1.map V.int)) /\
 ∀out:List KP,out.Perm ps->iI out->∀l,H l=none->Q (.ref l) (bq H l (.lst (kd out)))
theorem yR (hc:X.calm=true):cM X (.builtin "sorted") (CC X.K X.w):=by
 intro pins s B H xs us Q I r h;obtain⟨a,ps,rfl,ha,hT,q⟩:=h;obtain⟨u,rfl,ru⟩:=eE r;cases ru;obtain⟨hS,_⟩:=(show cf X.prog X.w H 1e5 a (.ext fun h=>bS X.w h a ps) from I.hok a _ ha);refine yl (I.ok.hd hc) hS (fun p hp=>sx I (hT p hp)) fun out hp hr h' D hD hk hn=>?_;refine⟨.ref D,bq H D (.lst (kd out)),I.laid (t':=s.toks) (fun b ob e=>hk b ob e) hD ?_,rfl,q out hp hr _ (I.hok.fresh hD)⟩;obtain⟨n,e⟩:=hn;refine⟨?_,aY out,n,oK out,e⟩
 have hl:out.length<=15:=by
  rw[hp.length_eq];obtain⟨o,es,ep,t,α,S0,hk,hn⟩:=hS;exact kZ hk hn
 unfold kd;rw[PD];exact OG hl 0e4
end
def ig(qs:List KI):List KI:=qs.foldl (fun ps p=>vy ps p.1 p.2) []
theorem ve(qs:List KI)(p:KI):ig (qs++[p])=vy (ig qs) p.1 p.2:=by unfold ig;rw[RT];rfl
def nM(ns:List Int):List Int:=ns.foldl (fun acc k=>if k∈acc then acc else acc++[k]) []
theorem nr:∀(qs ps:List KI),(qs.foldl (fun ps p=>vy ps p.1 p.2) ps).map 2e4=(qs.map 2e4).foldl (fun acc k=>if k∈acc then acc else acc++[k]) (ps.map 2e4)
 |[],ps=>rfl
 |q::qs,ps=>by
  rw[Qu,nr qs,Qj,Qu];congr 1;unfold vy;split
  ·rfl
  ·rw[Ru];rfl
theorem xC(qs:List KI):(ig qs).map 2e4=nM (qs.map 2e4):=nr qs []
theorem ng{h:Heap}(e:h.get? a=some {cls:=.type "set",dict:=none,data:=.set #[] 0 (.fresh 0 0 (lL w))}):dc w h a []:=
 ⟨_,_,_,_,[],⟨e,⟨rfl,rfl,rfl⟩,rfl,⟨rfl,rfl,List.Pairwise.nil,fun z hz=>by simp at hz,rfl,fun z hz=>by simp at hz⟩,rfl,rfl,.inl ⟨rfl,by decide⟩,List.Perm.nil⟩,fun p hp=>by simp at hp,RD⟩
def nC(p:KI):Value:=Value.int p.1 p.2
section
theorem tM{qs:List KI}{S:Addr}{u:Nat}(hk:∀p∈qs,p.1∈ins):BZ prog w u S (qs.map nC) (fun i h=>dc w h S (ig (qs.take i))):=by
 refine⟨fun i h h' hk' j1=>j1.keeps fun o e=>hk' S o (O9 _) e,fun A i v s E Q hA hv j1 hQ=>?_⟩;rw[Px]at hv;cases e:qs[i]? with
 |none=>rw[e]at hv;cases hv
 |some p=>
  rw[e]at hv;cases hv;have hpm:p∈qs:=Pz e;unfold setAdd nC;refine O0 ?_;refine OZ (wpAny_pyHash_int ?_);refine Hg (s:={s with toks:=s.toks+1}) j1 (hk p hpm) fun b h' hsb hS2=>?_;have etk:qs.take (i+1)=qs.take i++[p]:=by rw[Sa,e];rfl
  refine hQ b h' _ (Nat.le_add_right _ _) hsb (by rw[etk,ve];exact hS2)
theorem sY:∀(qs:List KI),IntsAre (qs.map nC) (qs.map 2e4)
 |[]=>.nil
 |p::qs=>.cons p.1 p.2 (sY qs)
theorem wI{vs:List Value}(h:IntsAre vs ns):∃qs:List KI,vs=qs.map nC/\qs.map 2e4=ns:=by
 induction h with
 |nil=>exact⟨[],rfl,rfl⟩
 |cons n t _ ih=>
  obtain⟨qs,e1,e2⟩:=ih;exact⟨(n,t)::qs,by rw[e1];rfl,by rw[<- e2];rfl⟩
theorem xf{ps:List KI}(hh:A.handled=none)(S:dc w 1e5 a ps)(h:∀(out:List Value) (ns':List Int),IntsAre out ns'->ns'.Perm (ps.map 2e4)->ns'.Pairwise (·<=·)->∀h' D,s.heap.objs.size<=D->(∀b u,s.heap.get? b=some u->h'.get? b=some u)->(∃n,h'.get? D=some (seqObj "list" out.toArray n))->Q (.ref D) {s with heap:=h'}):
  wpAny 0e6 A (call (.builtin "sorted") [.ref a]) Q E s:=by
 obtain⟨o,es,ep,t,α,S,hk,hn⟩:=S;have h6:=kr hk hn;refine SA kind_sorted plain_sorted entry_sorted (args_sorted1 _) ?_;unfold Builtin.«sorted»;refine OZ (m:=checkCount "sorted" 1 1 _) (O5 ?_);refine OZ (oS (by simpa using hh) S (by rw[S.len,PD];omega) fun qs hqs h1 k1 hsz=>?_);obtain⟨rs,q1,q2⟩:=nk hqs ps rfl;have q3:qs.map (·.2)=rs.map nC:=by rw[q2,Q9];rfl
 rw[q3];have hvl:(rs.map nC).length<=6:=by rw[PD,q1.length_eq];exact h6
 refine OZ (Sn ?_ (OG hvl 0e4));have hoL:(h1.push (seqObj "list" (rs.map nC).toArray 0)).get? h1.objs.size=some (seqObj "list" (rs.map nC).toArray 0):=Oy _ rfl;have hnn:∀b u,h1.get? b=some u->b≠h1.objs.size:=fun b u q=>OD (OA q);refine OZ (O0 (Qc slot_list_sort (s:={s with heap:=h1.push (seqObj "list" (rs.map nC).toArray 0)}) ⟨_,hoL,rfl⟩ SB ?body (args_list_sort _)))
 case body=>
  refine list_sort_tree (s:={s with heap:=h1.push (seqObj "list" (rs.map nC).toArray 0)}) hoL (sY rs) 0e1 fun out ns' a1 a2 a3=>⟨_,rfl,?_⟩;refine O5 ⟨_,rfl,h out.toList ns' a1 (a2.trans (q1.map _)) a3 _ h1.objs.size hsz (fun b u q=>?_) ?_⟩
  ·have hb:=hnn b u (k1 b u q);unfold sortedHeap;rw[Ss _ _ _ _ hb];refine O8 _ (O8 _ ?_);rw[Ss _ _ _ _ hb];exact O8 _ (k1 b u q)
  ·unfold sortedHeap;have g1:=Sl hoL (fun _=>#[]);have g2:=O8 2e2 (O8 (seqObj "tuple" (rs.map nC).toArray 0) g1);exact⟨_,Sl g2 (fun _=>out)⟩
end
section
variable{X:Cx}
def σ7(K:W.Frag)(w:World):List V->Hp->VK->Prop:=fun xs H Q=>∃(a:Addr)(ns:List Int),xs=[.ref a]/\(fG K H a (ns.map V.int)\/eK K H a (ns.map V.int))/\(∀n∈ns,n∈ins) /\
 ∀l,H l=none->∀ps:List KI,ps.map 2e4=nM ns->(∀p∈ps,p.1∈ins)->(ps.map 2e4).Nodup->Q (.ref l) (bq H l (.ext fun h=>dc w h l ps))
theorem Bu (hc:X.calm=true) (hu:X.A.units+64<cLine):cM X (.type "set") (σ7 X.K X.w):=by
 intro pins s B H xs us Q I r h;obtain⟨a,ns,rfl,ha,hq,q⟩:=h;obtain⟨u,rfl,ru⟩:=eE r;cases ru
 have fin:∀(qs:List KI),qs.map 2e4=ns->∀(h':Heap)(tk:Nat),dc X.w h' 0e3 (ig qs)->(∀b o,b<s.heap.objs.size->s.heap.get? b=some o->h'.get? b=some o)->EP X pins B Q (.ref 0e3) {s with heap:=h',toks:=tk}:=by
  intro qs eq h' tk hS hk;obtain⟨o,es,ep,t,α,S0,k1,k2⟩:=id hS;refine⟨.ref 0e3,bq H 0e3 (.ext fun h=>dc X.w h 0e3 (ig qs)),I.laid (t':=tk) (fun b ob e=>hk b ob (OA e) e) (O9 _) ?_,rfl,q _ (I.hok.fresh (O9 _)) _ (by rw[xC,eq]) k1 k2⟩;exact⟨hS,⟨o,S0.ho⟩,fun h1 h2 g k=>g.keeps k⟩
 rcases ha with ha|ha
 ·obtain ⟨its, rv, pl, hz⟩ := I.list ha;obtain⟨qs,e1,e2⟩:=wI (fA rv);subst e1;have hsz:(qs.map nC).toArray.size=qs.length:=by rw[Pg,PD]
  refine nc (I.ok.hd hc) pl.isList (J:=fun i h=>dc X.w h 0e3 (ig (qs.take i))) ?_ (fun h' k e=>ng e) fun h' tk j1=>fin qs e2 h' tk ?_
  ·exact tM fun p hp=>hq _ (by rw[<- e2];exact Rp hp)
  ·rw[hsz,Sb]at j1;exact j1
 ·obtain ⟨its, rv, pl, hz⟩ := I.tuple ha;obtain⟨qs,e1,e2⟩:=wI (fA rv);subst e1;have hsz:(qs.map nC).toArray.size=qs.length:=by rw[Pg,PD]
  refine lN (I.ok.hd hc) pl (J:=fun i h=>dc X.w h 0e3 (ig (qs.take i))) ?_ (fun h' k e=>ng e) fun h' tk j1=>fin qs e2 h' tk ?_
  ·exact tM fun p hp=>hq _ (by rw[<- e2];exact Rp hp)
  ·rw[hsz,Sb]at j1;exact j1
def CB(w:World):List V->Hp->VK->Prop:=fun xs H Q=>∃(a:Addr)(ps:List KI),xs=[.ref a]/\H a=some (.ext fun h=>dc w h a ps) /\
 ∀ns':List Int,ns'.Perm (ps.map 2e4)->ns'.Pairwise (·<=·)->∀l,H l=none->Q (.ref l) (bq H l (.lst (ns'.map V.int)))
theorem yQ (hc:X.calm=true):cM X (.builtin "sorted") (CB X.w):=by
 intro pins s B H xs us Q I r h;obtain⟨a,ps,rfl,ha,q⟩:=h;obtain⟨u,rfl,ru⟩:=eE r;cases ru;obtain⟨hS,_⟩:=(show cf X.prog X.w H 1e5 a (.ext fun h=>dc X.w h a ps) from I.hok a _ ha);obtain⟨o,es,ep,t,α,S0,k1,k2⟩:=id hS;have h6:=kr k1 k2;refine xf (I.ok.hd hc) hS fun out ns' a1 a2 a3 h' D hD hk hn=>?_;refine⟨.ref D,bq H D (.lst (ns'.map V.int)),I.laid (t':=s.toks) (fun b ob e=>hk b ob e) hD ?_,rfl,q ns' a2 a3 _ (I.hok.fresh hD)⟩;obtain⟨n,e⟩:=hn;refine⟨?_,out,n,m8 a1,e⟩;rw[PD,a2.length_eq,PD];exact OG h6 0e4
def HC(w:World):List V->Hp->VK->Prop:=fun xs H Q=>∃(a:Addr)(ps:List KI),xs=[.ref a]/\H a=some (.ext fun h=>dc w h a ps)/\Q (.int ps.length) H
theorem BA:cM X (.builtin "len") (HC X.w):=by
 intro pins s B H xs us Q I r h;obtain⟨a,ps,rfl,ha,q⟩:=h;obtain⟨u,rfl,ru⟩:=eE r;cases ru;obtain⟨hS,_⟩:=(show cf X.prog X.w H 1e5 a (.ext fun h=>dc X.w h a ps) from I.hok a _ ha);obtain⟨o,es,ep,t,α,S0,k1,k2⟩:=id hS;have h6:=kr k1 k2;have hsz:es.size=ps.length:=by rw[S0.tab.size.2,S0.len,PD]
 refine PySem.call_len_set S0.ho S0.ex S0.hd S0.fits (by rw[hsz];omega) ⟨.int ps.length,H,?_,⟨_,by rw[hsz]⟩,q⟩;exact I.tok _
def HD(w:World):List V->Hp->VK->Prop:=fun xs H Q=>∃(a:Addr)(ps:List KP),xs=[.ref a]/\H a=some (.ext fun h=>bS w h a ps)/\Q (.int ps.length) H
theorem BB:cM X (.builtin "len") (HD X.w):=by
 intro pins s B H xs us Q I r h;obtain⟨a,ps,rfl,ha,q⟩:=h;obtain⟨u,rfl,ru⟩:=eE r;cases ru;obtain⟨hS,_⟩:=(show cf X.prog X.w H 1e5 a (.ext fun h=>bS X.w h a ps) from I.hok a _ ha);obtain⟨o,es,ep,t,α,S0,k1,k2⟩:=id hS;have h6:=kZ k1 k2;have hsz:es.size=ps.length:=by rw[S0.tab.size.2,S0.len,PD]
 refine PySem.call_len_set S0.ho S0.ex S0.hd S0.fits (by rw[hsz];omega) ⟨.int ps.length,H,?_,⟨_,by rw[hsz]⟩,q⟩;exact I.tok _
end
def aI(k:List Int):D:=.tup (k.map D.int)
def Am:D->Option 2e5
 |.tup [.int a,.int b]=>if 0<=a/\a<b/\b<6 then some [a,b] else none
 |_=>none
def sy:List D->Option (List 2e5)
 |[]=>some []
 |d::r=>match Am d,sy r with
  |some k,some ks=>some (k::ks)
  |_,_=>none
theorem GM{k:List Int}(h:Am d=some k):d=aI k/\k∈prs:=by
 unfold Am at h;split at h
 ·split at h
  ·rename_i hc;cases h;exact⟨rfl,zE hc.1 hc.2.1 hc.2.2⟩
  ·cases h
 ·cases h
theorem Be{a b:Int}(h:0<=a/\a<b/\b<6):Am (.tup [.int a,.int b])=some [a,b]:=by
 dsimp[Am,Ow h]
theorem wD:∀{ds:List D}{ks:List 2e5},sy ds=some ks->ds=ks.map aI/\∀k∈ks,k∈prs
 |[],ks,h=>by cases h;exact⟨rfl,fun k hk=>by simp at hk⟩
 |d::r,ks,h=>by
  unfold sy at h;split at h
  ·rename_i k ks' h1 h2;cases h;obtain⟨e1,e2⟩:=GM h1;obtain⟨f1,f2⟩:=wD h2;refine⟨by rw[e1,f1];rfl,fun k' hk=>?_⟩;rcases OM.mp hk with z|z
   ·rw[z];exact e2
   ·exact f2 k' z
  ·cases h
theorem wF:∀{ks:List 2e5},(∀k∈ks,k∈prs)->sy 1e8=some ks
 |[],_=>rfl
 |k::ks,h=>by
  obtain⟨a,b,rfl,h1,h2,h3⟩:=iw (h k OJ);dsimp[Qj,sy,wF fun k' hk=>h k' (OK _ hk)];have:Am (aI [a,b])=some [a,b]:=Be ⟨h1,h2,h3⟩;rw[this]
def lX(ks:List 2e5)(k:List Int):List 2e5:=if k∈ks then ks else ks++[k]
def fO(ks:List 2e5):List 2e5:=ks.foldl lX []
def eM(ks:List 2e5):List 2e5:=prs.filter fun k=>decide (k∈ks)
theorem qW:∀(qs ps:List KP),(qs.foldl (fun ps p=>iA ps p.1 p.2) ps).map 2e4=(qs.map 2e4).foldl lX (ps.map 2e4)
 |[],ps=>rfl
 |q::qs,ps=>by
  rw[Qu,Qj,Qu,qW qs];congr 1;unfold iA lX;split <;> simp
theorem Bq(qs:List KP):(fv qs).map 2e4=fO (qs.map 2e4):=qW qs []
theorem Bp{k:List Int}:k∈fO ks↔k∈ks:=by
 have core:∀(ks acc:List 2e5),k∈ks.foldl lX acc↔k∈acc\/k∈ks:=by
  intro ks
  induction ks with
  |nil=>intro acc;simp
  |cons x r ih=>
   intro acc;rw[Qu,ih];unfold lX;split
   ·rename_i hx;constructor
    ·rintro (h | h)
     ·exact .inl h
     ·exact .inr (OK _ h)
    ·rintro (h | h)
     ·exact .inl h
     ·rcases OM.mp h with z | z
      ·exact .inl (by rw[z];exact hx)
      ·exact .inr z
   ·simp[or_assoc]
 unfold fO;rw[core];simp
theorem qP:prs.Pairwise fun a b=>pT a<pT b:=by decide +kernel
theorem Em{l m:List 2e5}(hl:l.Pairwise fun a b=>pT a<pT b)(hm:m.Pairwise fun a b=>pT a<pT b)(h:∀k,k∈l↔k∈m):l=m:=by
 have nl:l.Nodup:=hl.imp fun h e=>by subst e;omega
 have nm:m.Nodup:=hm.imp fun h e=>by subst e;omega
 have hp:l.Perm m:=(RG nl nm).mpr h;refine hp.eq_of_pairwise (le:=fun a b=>pT a<pT b) (fun a b _ _ h1 h2=>by omega) hl hm
theorem Dl{out:List KP}{ps:List KP}(hk:∀p∈ps,p.1∈prs)(hp:out.Perm ps)(hr:iI out):out.map 2e4=eM (ps.map 2e4):=by
 refine Em ?_ (qP.filter _) fun k=>?_
 ·unfold iI at hr;rw[Sj];exact hr
 ·have h1 : k ∈ out.map 2e4 ↔ k ∈ ps.map 2e4 := (hp.map _).mem_iff;rw[h1];unfold eM;rw[OE,SN];constructor
  ·intro h;refine⟨?_,h⟩;obtain⟨p,hp',rfl⟩:=Rj.mp h;exact hk p hp'
  ·exact fun h=>h.2
theorem oM(ks:List 2e5):eM (fO ks)=eM ks:=by
 unfold eM;apply List.filter_congr;intro k _;dsimp[Bp]
theorem Reps.keys{K:W.Frag}{H:Hp}{Z:List Addr}:∀{ks:List 2e5}{vs:List V},Reps K H Z 1e8 vs->∃qs:List KP,qs.map 2e4=ks/\vs=kd qs/\∀p∈qs,eK K H p.2 (p.1.map V.int)
 |[],vs,h=>by dsimp[Qi,Reps]at h;exact⟨[],rfl,h,fun p hp=>by simp at hp⟩
 |k::ks,vs,h=>by
  dsimp[Qj,Reps]at h;obtain⟨v,r,rfl,h1,h2⟩:=h;obtain⟨a,us,rfl,h3,h4⟩:=aC.mp h1;obtain⟨qs,e1,e2,e3⟩:=Reps.keys h2;refine⟨(k,a)::qs,by rw[Qj,e1],by rw[e2];rfl,fun p hp=>?_⟩;rcases OM.mp hp with z|z
  ·subst z;rw[<- h4.ints];exact h3
  ·exact e3 p z
theorem oV{K:W.Frag}{H:Hp}{Z:List Addr}:∀{qs:List KP},(∀p∈qs,eK K H p.2 (p.1.map V.int))->Reps K H Z ((qs.map 2e4).map aI) (kd qs)
 |[],_=>Reps.nil
 |q::qs,h=>by
  refine Reps.cons (aC.mpr ⟨q.2,_,rfl,h q OJ,i7 _⟩) (oV fun p hp=>h p (OK _ hp))
def jS:List D->Option 2e5
 |[]=>some []
 |.int i::r=>(jS r).map (i::·)
 |_::_=>none
theorem gw:∀{ds:List D}{ns:List Int},jS ds=some ns->ds=ns.map D.int
 |[],bs,h=>by cases h;rfl
 |.int b::r,bs,h=>by
  unfold jS at h;cases e:jS r with
  |none=>rw[e]at h;cases h
  |some cs=>rw[e]at h;cases h;rw[gw e];rfl
 |.non::r,bs,h=>by cases h
 |.bl _::r,bs,h=>by cases h
 |.str _::r,bs,h=>by cases h
 |.tup _::r,bs,h=>by cases h
 |.frz _::r,bs,h=>by cases h
 |.obj _::r,bs,h=>by cases h
theorem yJ(h:∀n∈ns,n∈ins):(nM ns).length<=6:=by
 have core:∀(l acc:List Int),(∀n∈l,n∈ins)->(∀n∈acc,n∈ins)->acc.Nodup->(l.foldl (fun acc k=>if k∈acc then acc else acc++[k]) acc).length<=6:=by
  intro l
  induction l with
  |nil=>
   intro acc _ h2 h3;have:=iJ h3 (l2:=ins) h2;exact this
  |cons x l ih=>
   intro acc h1 h2 h3;rw[Qu];have hx:=h1 x OJ;split
   ·exact ih acc (fun n hn=>h1 n (OK _ hn)) h2 h3
   ·rename_i hxa;refine ih (acc++[x]) (fun n hn=>h1 n (OK _ hn)) (fun n hn=>?_) ?_
    ·rcases OO.mp hn with z | z
     ·exact h2 n z
     ·rw[QP.mp z];exact hx
    ·refine RO.mpr ⟨h3,by simp,fun u hu v hv e=>?_⟩;rw[QP.mp hv]at e;exact hxa (e ▸ hu)
 exact core ns [] h (fun n hn=>by simp at hn) RD
def Ie(xs:List D):Option 2e5:=match jS xs with
 |some ns=>if ns.all (fun n=>decide (0<=n/\n<6))=true then some ns else none
 |none=>none
theorem GU(h:Ie xs=some ns):xs=ns.map D.int/\∀n∈ns,n∈ins:=by
 unfold Ie at h;split at h
 ·rename_i ms hm;split at h
  ·rename_i ha;cases h;refine⟨gw hm,fun n hn=>GS.mpr ?_⟩;simpa using RI.mp ha n hn
  ·cases h
 ·cases h
def vC(xs:List D)(Y:aw):aj D:=match sy xs with
 |some ks=>.ok 1e9 (Y++[.set (fO ks)])
 |none=>match Ie xs with
  |some ns=>.ok 1e9 (Y++[.iset (nM ns)])
  |none=>.bad
def xR(ds:List D)(Y:aw):aj D:=match ds with
 |[.tup xs]=>vC xs Y
 |[.obj n]=>match Y[n]? with
  |some 2e6=>vC xs Y
  |_=>.bad
 |_=>.bad
section
theorem GA{Q:VK}(S:p.S H Z Y)(hk:∀k∈ks,k∈prs)(r:p.Rs H Z 1e8 vs)(P:aA p H Z (.ok 1e9 (Y++[.set (fO ks)])) (RV p Q)):
  ∃qs:List KP,vs=kd qs/\(∀q∈qs,q.1∈prs/\eK p.K H q.2 (q.1.map V.int))/\∀l,H l=none->Q (.ref l) (bq H l (.ext fun h=>bS p.w h l (fv qs))):=by
 obtain⟨qs,e1,e2,e3⟩:=r.keys;refine⟨qs,e2,fun q hq=>⟨hk _ (by rw[<- e1];exact Rp hq),e3 q hq⟩,fun l hl=>?_⟩;have x1:p.X H (bq H l (.ext fun h=>bS p.w h l (fv qs))) Z (Z++[l]):=(bx hl).trans (gJ [l]);refine P _ _ x1 (S.more hl ⟨fv qs,by rw[Bq,e1],aH,fun q hq=>?_,vd,fun q hq=>?_⟩) _ (aM.mpr ⟨l,rfl,by rw[<- S.len];simp⟩)
 ·exact hk _ (by rw[<- e1];exact Rp (mi hq))
 ·exact x1.tup _ _ (e3 q (mi hq))
theorem DY{Q:VK}(S:p.S H Z Y)(hk:∀n∈ns,n∈ins)(P:aA p H Z (.ok 1e9 (Y++[.iset (nM ns)])) (RV p Q)):
  ∀l,H l=none->∀ps:List KI,ps.map 2e4=nM ns->(∀p∈ps,p.1∈ins)->(ps.map 2e4).Nodup->Q (.ref l) (bq H l (.ext fun h=>dc p.w h l ps)):=fun l hl ps e _ _=>by
 have x1:p.X H (bq H l (.ext fun h=>dc p.w h l ps)) Z (Z++[l]):=(bx hl).trans (gJ [l]);exact P _ _ x1 (S.more hl ⟨ps,e,aH,yJ hk⟩) _ (aM.mpr ⟨l,rfl,by rw[<- S.len];simp⟩)
theorem Cw{us:List V}{Q:VK}(S:p.S H Z Y)(h1:fG p.K H a us\/eK p.K H a us)(rr:p.Rs H Z xs us)(P:aA p H Z (vC xs Y) (RV p Q)):σ6 p.K p.w [.ref a] H Q\/σ7 p.K p.w [.ref a] H Q:=by
 unfold vC at P;split at P
 ·rename_i ks hks;obtain⟨f1,f2⟩:=wD hks;rw[f1]at rr;obtain⟨qs,e1,e2,e3⟩:=GA S f2 rr P;exact .inl ⟨a,qs,rfl,by rw[<- e1];exact h1,e2,e3⟩
 ·split at P
  ·rename_i ns hns;obtain⟨f1,f2⟩:=GU hns;rw[f1]at rr;exact .inr ⟨a,ns,rfl,by rw[<- rr.ints];exact h1,f2,DY S f2 P⟩
  ·exact P.elim
theorem JQ:xE p xR (fun xs H Q=>σ6 p.K p.w xs H Q\/σ7 p.K p.w xs H Q):=by
 intro ds vs H Z Y Q S r P;unfold xR at P;split at P
 ·rename_i xs;obtain⟨v,rfl,r1⟩:=r.one;obtain⟨a,us,rfl,h1,rr⟩:=aC.mp r1;exact Cw S (.inr h1) rr P
 ·rename_i n;split at P
  ·rename_i xs hx;obtain⟨v,rfl,r1⟩:=r.one;obtain⟨a,us,rfl,a1,h1,rr⟩:=cH S r1 hx;exact Cw S (.inl (fG.of h1)) rr P
  ·exact P.elim
 ·exact P.elim
def lK(ns:List Int):List Int:=ns.mergeSort fun a b=>decide (a<=b)
theorem vW{ns':List Int}(hp:ns'.Perm ns)(hs:ns'.Pairwise (·<=·)):ns'=lK ns:=by
 have h1:(lK ns).Perm ns:=List.mergeSort_perm ns _
 have h2:(lK ns).Pairwise (·<=·):=by
  have:=List.pairwise_mergeSort (le:=fun(a b:Int)=>decide (a<=b)) (fun a b c h1 h2=>by simp at *;omega) (fun a b=>by simp;omega) ns;exact this.imp fun h=>by simpa using h
 exact(hp.trans h1.symm).eq_of_pairwise (fun a b _ _ h1 h2=>SV h1 h2) hs h2
def eA(ds:List D)(Y:aw):aj D:=match ds with
 |[.tup xs]=>match jS xs with
  |some ns=>if ns.length<64 then .ok 1e9 (Y++[.lst ((lK ns).map D.int)]) else .bad
  |none=>.bad
 |[.obj n]=>match Y[n]? with
  |some 2e6=>match jS xs with
   |some ns=>if ns.length<64 then .ok 1e9 (Y++[.lst ((lK ns).map D.int)]) else .bad
   |none=>.bad
  |some (.set ks)=>.ok 1e9 (Y++[.lst ((eM ks).map aI)])
  |some (.iset ks)=>.ok 1e9 (Y++[.lst ((lK ks).map D.int)])
  |_=>.bad
 |_=>.bad
theorem A3:xE p eA (fun xs H Q=>(CD p.K xs H Q\/CC p.K p.w xs H Q)\/CB p.w xs H Q):=by
 intro ds vs H Z Y Q S r P
 have fin:∀{ns:List Int},aA p H Z (.ok 1e9 (Y++[.lst ((lK ns).map D.int)])) (RV p Q)->∀ns':List Int,ns'.Perm ns->ns'.Pairwise (·<=·)->∀l,H l=none->Q (.ref l) (bq H l (.lst (ns'.map V.int))):=by
  intro ns P ns' h1 h2 l hl;rw[<- vW h1 h2]at P;obtain⟨x1,x2,x3⟩:=dA S hl (i7 ns');exact P _ _ x1 x2 _ x3
 unfold eA at P;split at P
 ·rename_i xs;split at P
  ·rename_i ns hns;split at P
   ·rename_i hl;obtain⟨v,rfl,r1⟩:=r.one;obtain⟨a,us,rfl,h1,rr⟩:=aC.mp r1;rw[gw hns]at rr;exact .inl (.inl ⟨a,ns,rfl,.inr (by rw[<- rr.ints];exact h1),hl,fin P⟩)
   ·exact P.elim
  ·exact P.elim
 ·rename_i n;split at P
  ·rename_i xs hx;split at P
   ·rename_i ns hns;split at P
    ·rename_i hl;obtain⟨v,rfl,r1⟩:=r.one;obtain⟨a,us,rfl,a1,h1,rr⟩:=cH S r1 hx;rw[gw hns]at rr;exact .inl (.inl ⟨a,ns,rfl,.inl (by rw[<- rr.ints];exact fG.of h1),hl,fin P⟩)
    ·exact P.elim
   ·exact P.elim
  ·rename_i ks hx;obtain⟨v,rfl,r1⟩:=r.one;obtain⟨a,ea,ps,e1,e2,e3,e4,e5⟩:=S.at hx;obtain⟨a',rfl,ea'⟩:=aM.mp r1;rw[ea]at ea';cases ea';refine .inl (.inr ⟨a,ps,rfl,e2,e5,fun out hp hr l hl=>?_⟩);have rr:p.Rs H Z ((out.map 2e4).map aI) (kd out):=oV fun q hq=>e5 q (hp.mem_iff.mp hq);rw[Dl e3 hp hr,e1]at rr;obtain⟨x1,x2,x3⟩:=dA S hl rr;exact P _ _ x1 x2 _ x3
  ·rename_i ks hx;obtain⟨v,rfl,r1⟩:=r.one;obtain⟨a,ea,ps,e1,e2,e3⟩:=S.at hx;obtain⟨a',rfl,ea'⟩:=aM.mp r1;rw[ea]at ea';cases ea';exact .inr ⟨a,ps,rfl,e2,by rw[e1];exact fin P⟩
  ·exact P.elim
 ·exact P.elim
def mB(ds:List D)(Y:aw):aj D:=match ds with
 |[.obj n]=>match Y[n]? with
  |some (.iset ks)=>.ok (.int ks.length) Y
  |some (.set ks)=>.ok (.int ks.length) Y
  |_=>zh [.obj n] Y
 |_=>zh ds Y
theorem JT:xE p mB (fun xs H Q=>((∃x n,xs=[x]/\Io p.K x H n/\Q (.int n) H)\/HC p.w xs H Q)\/HD p.w xs H Q):=by
 intro ds vs H Z Y Q S r P;unfold mB at P;split at P
 ·rename_i n;split at P
  ·rename_i ks hx;obtain⟨v,rfl,r1⟩:=r.one;obtain⟨a,ea,ps,e1,e2,e3⟩:=S.at hx;obtain⟨a',rfl,ea'⟩:=aM.mp r1;rw[ea]at ea';cases ea';refine .inl (.inr ⟨a,ps,rfl,e2,P.now S _ (ar.mpr ?_)⟩);rw[<- e1,PD]
  ·rename_i ks hx;obtain⟨v,rfl,r1⟩:=r.one;obtain⟨a,ea,ps,e1,e2,e3⟩:=S.at hx;obtain⟨a',rfl,ea'⟩:=aM.mp r1;rw[ea]at ea';cases ea';refine .inr ⟨a,ps,rfl,e2,P.now S _ (ar.mpr ?_)⟩;rw[<- e1,PD]
  ·exact .inl (.inl (zJ _ vs H Z Y Q S r P))
 ·exact .inl (.inl (zJ _ vs H Z Y Q S r P))
end
section
variable{X:Cx}
def HA(K:W.Frag):List V->Hp->VK->Prop:=fun xs H Q=>∃(a:Addr)(ns:List Int),xs=[.ref a]/\(fG K H a (ns.map V.int)\/eK K H a (ns.map V.int))/\ns≠[]/\∀m∈ns,(∀j∈ns,m<=j)->Q (.int m) H
def HB(K:W.Frag):List V->Hp->VK->Prop:=fun xs H Q=>∃(a:Addr)(ns:List Int),xs=[.ref a]/\(fG K H a (ns.map V.int)\/eK K H a (ns.map V.int))/\ns≠[]/\∀m∈ns,(∀j∈ns,j<=m)->Q (.int m) H
theorem k6(h:IntsAre its ns){v:Value}(e:its.toArray[i]?=some v):∃t,v=.int (ns.getD i 0) t/\i<ns.length:=by
 have e':its[i]?=some v:=by simpa using e
 obtain⟨n,t,rfl,hn⟩:=h.at i v e';have hi:=(OQ.mp hn).1;exact⟨t,by rw[Sf,hn];rfl,hi⟩
theorem wJ(h:i<ns.length):ns.getD i 0∈ns:=by
 rw[Sf,Sw h];exact Sv h
theorem wA{j:Int}(h:j∈ns):∃i,i<ns.length/\ns.getD i 0=j:=by
 obtain⟨i,hi,e⟩:=List.getElem_of_mem h;exact⟨i,hi,by rw[Sf,Sw hi];exact e⟩
theorem Bw (hc:X.calm=true):cM X (.builtin "min") (HA X.K):=by
 intro pins s B H xs us Q I r h;obtain⟨a,ns,rfl,ha,hne,q⟩:=h;obtain⟨u,rfl,ru⟩:=eE r;cases ru;have hpos:0<ns.length:=List.length_pos_iff.mpr hne
 have core:∀(its:List Value)(o:Obj),IntsAre its ns->∀v s',its.toArray[argBest (fun i j=>decide (ns.getD i 0<ns.getD j 0)) (its.toArray.size-1)]?=some v->Moved [0e3] (fun a b=>b=a) {s with heap:=s.heap.push o} s'->EP X pins B Q v s':=by
  intro its o hI v s' hv hm;obtain⟨t,rfl,hi⟩:=k6 hI hv;have hsz:its.toArray.size-1=ns.length-1:=by rw[Pg,hI.length]
  rw[hsz]at hi⊢;obtain⟨b1,b2⟩:=argBest_lt (fun i=>ns.getD i 0) (ns.length-1);obtain⟨hh,g,d,tk,os⟩:=s';have e1:g=s.gens:=hm.gens;have e2:d=s.drawn:=hm.drawn;have e3:os=s.os:=hm.os;subst e1 e2 e3;refine⟨.int _,H,I.fresh_it (o:=o) (h':=hh) (tk:=tk) fun b ob hb e=>hm.heap b ob hb e,⟨t,rfl⟩,q _ (wJ hi) fun j hj=>?_⟩;obtain⟨i,hi',rfl⟩:=wA hj;exact b2 i 0e1
 have cmp:∀(its:List Value),IntsAre its ns->CmpOf X.prog X.w X.A.in1 .Lt (fun i v=>its.toArray[i]?=some v) (fun i j=>decide (ns.getD i 0<ns.getD j 0)):=by
  intro its hI i j vi vj s' Q' E' h1 h2 hQ;obtain⟨t1,rfl,_⟩:=k6 hI h1;obtain⟨t2,rfl,_⟩:=k6 hI h2;exact(PyProof.Rows.lt_int hQ:wpAny _ _ (compareOp .Lt _ _) _ _ _)
 rcases ha with ha|ha
 ·obtain ⟨its, rv, pl, hz⟩ := I.list ha;have hI:IntsAre its ns:=fA rv
  have hne:a≠s.heap.objs.size:=by
   obtain⟨o,n,e,_⟩:=pl;exact OD (OA e)
  refine call_min_walkS (R8 pl.isList ?_);refine⟨0e3,[0e3,a],[0e3],_,_,_,_,_,rfl,(Walks.list (A:=X.A.in1) (show X.A.in1.handled=none from I.ok.hd hc) _ a hne 2e3).toS,⟨⟨_,Oy _ rfl,rfl,rfl⟩,pl.isList.at fun o e=>O8 _ e⟩,fun b hb=>?_,by simp[hI.length,hpos],cmp its hI,fun v s' hv hm=>core its _ hI v s' hv hm⟩;obtain⟨o,n,e,_⟩:=pl;have:=OA e;dsimp[OM,Q3,Q4]at hb;show b<(s.heap.push _).objs.size;rw[So];rcases hb with rfl|rfl
  ·exact QG _
  ·exact QH this
 ·obtain ⟨its, rv, pl, hz⟩ := I.tuple ha;have hI:IntsAre its ns:=fA rv
  have hne:a≠s.heap.objs.size:=by
   obtain⟨o,e,_⟩:=pl;exact OD (OA e)
  refine call_min_walkS (Q2 (show s.heap.IsTuple a 2e3 from pl) ?_);refine⟨0e3,[0e3,a],[0e3],_,_,_,_,_,rfl,(Walks.tuple (A:=X.A.in1) (show X.A.in1.handled=none from I.ok.hd hc) _ a hne 2e3).toS,⟨⟨_,Oy _ rfl,rfl,rfl⟩,(show s.heap.IsTuple a 2e3 from pl).at fun o e=>O8 _ e⟩,fun b hb=>?_,by simp[hI.length,hpos],cmp its hI,fun v s' hv hm=>core its _ hI v s' hv hm⟩;obtain⟨o,e,_⟩:=pl;have:=OA e;dsimp[OM,Q3,Q4]at hb;show b<(s.heap.push _).objs.size;rw[So];rcases hb with rfl|rfl
  ·exact QG _
  ·exact QH this
theorem Bz (hc:X.calm=true):cM X (.builtin "max") (HB X.K):=by
 intro pins s B H xs us Q I r h;obtain⟨a,ns,rfl,ha,hne,q⟩:=h;obtain⟨u,rfl,ru⟩:=eE r;cases ru;have hpos:0<ns.length:=List.length_pos_iff.mpr hne
 have core:∀(its:List Value)(o:Obj),IntsAre its ns->∀v s',its.toArray[argBest (fun i j=>decide (ns.getD i 0>ns.getD j 0)) (its.toArray.size-1)]?=some v->Moved [0e3] (fun a b=>b=a) {s with heap:=s.heap.push o} s'->EP X pins B Q v s':=by
  intro its o hI v s' hv hm;obtain⟨t,rfl,hi⟩:=k6 hI hv;have hsz:its.toArray.size-1=ns.length-1:=by rw[Pg,hI.length]
  rw[hsz]at hi⊢;obtain⟨b1,b2⟩:=argBest_gt (fun i=>ns.getD i 0) (ns.length-1);obtain⟨hh,g,d,tk,os⟩:=s';have e1:g=s.gens:=hm.gens;have e2:d=s.drawn:=hm.drawn;have e3:os=s.os:=hm.os;subst e1 e2 e3;refine⟨.int _,H,I.fresh_it (o:=o) (h':=hh) (tk:=tk) fun b ob hb e=>hm.heap b ob hb e,⟨t,rfl⟩,q _ (wJ hi) fun j hj=>?_⟩;obtain⟨i,hi',rfl⟩:=wA hj;exact b2 i 0e1
 have cmp:∀(its:List Value),IntsAre its ns->CmpOf X.prog X.w X.A.in1 .Gt (fun i v=>its.toArray[i]?=some v) (fun i j=>decide (ns.getD i 0>ns.getD j 0)):=by
  intro its hI i j vi vj s' Q' E' h1 h2 hQ;obtain⟨t1,rfl,_⟩:=k6 hI h1;obtain⟨t2,rfl,_⟩:=k6 hI h2;exact(PyProof.Rows.gt_int hQ:wpAny _ _ (compareOp .Gt _ _) _ _ _)
 rcases ha with ha|ha
 ·obtain ⟨its, rv, pl, hz⟩ := I.list ha;have hI:IntsAre its ns:=fA rv
  have hne:a≠s.heap.objs.size:=by
   obtain⟨o,n,e,_⟩:=pl;exact OD (OA e)
  refine call_max_walkS (R8 pl.isList ?_);refine⟨0e3,[0e3,a],[0e3],_,_,_,_,_,rfl,(Walks.list (A:=X.A.in1) (show X.A.in1.handled=none from I.ok.hd hc) _ a hne 2e3).toS,⟨⟨_,Oy _ rfl,rfl,rfl⟩,pl.isList.at fun o e=>O8 _ e⟩,fun b hb=>?_,by simp[hI.length,hpos],cmp its hI,fun v s' hv hm=>core its _ hI v s' hv hm⟩;obtain⟨o,n,e,_⟩:=pl;have:=OA e;dsimp[OM,Q3,Q4]at hb;show b<(s.heap.push _).objs.size;rw[So];rcases hb with rfl|rfl
  ·exact QG _
  ·exact QH this
 ·obtain ⟨its, rv, pl, hz⟩ := I.tuple ha;have hI:IntsAre its ns:=fA rv
  have hne:a≠s.heap.objs.size:=by
   obtain⟨o,e,_⟩:=pl;exact OD (OA e)
  refine call_max_walkS (Q2 (show s.heap.IsTuple a 2e3 from pl) ?_);refine⟨0e3,[0e3,a],[0e3],_,_,_,_,_,rfl,(Walks.tuple (A:=X.A.in1) (show X.A.in1.handled=none from I.ok.hd hc) _ a hne 2e3).toS,⟨⟨_,Oy _ rfl,rfl,rfl⟩,(show s.heap.IsTuple a 2e3 from pl).at fun o e=>O8 _ e⟩,fun b hb=>?_,by simp[hI.length,hpos],cmp its hI,fun v s' hv hm=>core its _ hI v s' hv hm⟩;obtain⟨o,e,_⟩:=pl;have:=OA e;dsimp[OM,Q3,Q4]at hb;show b<(s.heap.push _).objs.size;rw[So];rcases hb with rfl|rfl
  ·exact QG _
  ·exact QH this
end
def BU:List Int->Int
 |[]=>0
 |x::r=>r.foldl min x
def Ls:List Int->Int
 |[]=>0
 |x::r=>r.foldl max x
theorem Bm(r:List Int):∀x:Int,(r.foldl min x=x\/r.foldl min x∈r)/\r.foldl min x<=x/\∀j∈r,r.foldl min x<=j:=by
 induction r with
 |nil=>intro x;exact⟨.inl rfl,Int.le_refl _,fun j hj=>by simp at hj⟩
 |cons y r ih=>
  intro x;obtain⟨h1,h2,h3⟩:=ih (min x y);rw[Qu];have m1:min x y<=x:=Int.min_le_left _ _;have m2:min x y<=y:=Int.min_le_right _ _;refine⟨?_,by omega,fun j hj=>?_⟩
  ·rcases h1 with h | h
   ·rcases (by omega : min x y = x \/ min x y = y) with e | e
    ·exact .inl 0e1
    ·exact .inr (by rw[h,e];exact OJ)
   ·exact .inr (OK _ h)
  ·rcases OM.mp hj with e | e
   ·rw[e];omega
   ·exact h3 j e
theorem Bn(r:List Int):∀x:Int,(r.foldl max x=x\/r.foldl max x∈r)/\x<=r.foldl max x/\∀j∈r,j<=r.foldl max x:=by
 induction r with
 |nil=>intro x;exact⟨.inl rfl,Int.le_refl _,fun j hj=>by simp at hj⟩
 |cons y r ih=>
  intro x;obtain⟨h1,h2,h3⟩:=ih (max x y);rw[Qu];have m1:x<=max x y:=Int.le_max_left _ _;have m2:y<=max x y:=Int.le_max_right _ _;refine⟨?_,by omega,fun j hj=>?_⟩
  ·rcases h1 with h | h
   ·rcases (by omega : max x y = x \/ max x y = y) with e | e
    ·exact .inl 0e1
    ·exact .inr (by rw[h,e];exact OJ)
   ·exact .inr (OK _ h)
  ·rcases OM.mp hj with e | e
   ·rw[e];omega
   ·exact h3 j e
theorem zL{m:Int}(h:m∈ns)(hm:∀j∈ns,m<=j):m=BU ns:=by
 cases ns with
 |nil=>simp at h
 |cons x r=>
  obtain⟨h1,h2,h3⟩:=Bm r x
  have a1:m<=r.foldl min x:=by
   rcases h1 with e|e
   ·rw[e];exact hm x OJ
   ·exact hm _ (OK _ e)
  have a2:r.foldl min x<=m:=by
   rcases OM.mp h with e|e
   ·rw[e];exact h2
   ·exact h3 m e
  exact SV a1 a2
theorem GG{m:Int}(h:m∈ns)(hm:∀j∈ns,j<=m):m=Ls ns:=by
 cases ns with
 |nil=>simp at h
 |cons x r=>
  obtain⟨h1,h2,h3⟩:=Bn r x
  have a1:r.foldl max x<=m:=by
   rcases h1 with e|e
   ·rw[e];exact hm x OJ
   ·exact hm _ (OK _ e)
  have a2:m<=r.foldl max x:=by
   rcases OM.mp h with e|e
   ·rw[e];exact h2
   ·exact h3 m e
  exact SV a2 a1
def BN(d:D)(Y:aw):Option 2e5:=match d with
 |.tup xs=>jS xs
 |.frz xs=>jS xs
 |.obj n=>match Y[n]? with
  |some 2e6=>jS xs
  |_=>none
 |_=>none
theorem zx(S:p.S H Z Y)(r:p.R H Z d v)(h:BN d Y=some ns):∃a,v=.ref a/\(fG p.K H a (ns.map V.int)\/eK p.K H a (ns.map V.int)):=by
 unfold BN at h;split at h
 ·obtain⟨a,us,rfl,h1,rr⟩:=aC.mp r;rw[gw h]at rr;exact⟨a,rfl,.inr (by rw[<- rr.ints];exact h1)⟩
 ·obtain⟨a,us,rfl,h1,rr⟩:=bo.mp r;rw[gw h]at rr;exact⟨a,rfl,.inl (by rw[<- rr.ints];exact h1.sq)⟩
 ·split at h
  ·rename_i xs hx;obtain⟨a,us,rfl,a1,h1,rr⟩:=cH S r hx;rw[gw h]at rr;exact⟨a,rfl,.inl (by rw[<- rr.ints];exact fG.of h1)⟩
  ·cases h
 ·cases h
def pX(ds:List D)(Y:aw):aj D:=match ds with
 |[d]=>match BN d Y with
  |some (n::ns)=>.ok (.int (BU (n::ns))) Y
  |_=>.bad
 |ds=>Cd ds Y
def tS(ds:List D)(Y:aw):aj D:=match ds with
 |[d]=>match BN d Y with
  |some (n::ns)=>.ok (.int (Ls (n::ns))) Y
  |_=>.bad
 |ds=>Ce ds Y
theorem JR:xE p pX (fun xs H Q=>HA p.K xs H Q\/∃i j,xs=[.int i,.int j]/\Q (.int (if j<i then j else i)) H):=by
 intro ds vs H Z Y Q S r P;unfold pX at P;split at P
 ·rename_i d;split at P
  ·rename_i n ns hns;obtain⟨v,rfl,r1⟩:=r.one;obtain⟨a,rfl,h1⟩:=zx S r1 hns;refine .inl ⟨a,n::ns,rfl,h1,by simp,fun m hm hj=>?_⟩;rw[zL hm hj];exact P.now S _ (ar.mpr rfl)
  ·exact P.elim
 ·exact .inr (Gu ds vs H Z Y Q S r P)
theorem JS:xE p tS (fun xs H Q=>HB p.K xs H Q\/∃i j,xs=[.int i,.int j]/\Q (.int (if j>i then j else i)) H):=by
 intro ds vs H Z Y Q S r P;unfold tS at P;split at P
 ·rename_i d;split at P
  ·rename_i n ns hns;obtain⟨v,rfl,r1⟩:=r.one;obtain⟨a,rfl,h1⟩:=zx S r1 hns;refine .inl ⟨a,n::ns,rfl,h1,by simp,fun m hm hj=>?_⟩;rw[GG hm hj];exact P.now S _ (ar.mpr rfl)
  ·exact P.elim
 ·exact .inr (Gv ds vs H Z Y Q S r P)
theorem qL:∀{xs:List V}{us:List Value},xs.length=us.length->(∀(i:Nat) x u,xs[i]?=some x->us[i]?=some u->bG x u)->ba xs us
 |[],[],_,_=>.nil
 |[],_::_,h,_=>by simp at h
 |_::_,[],h,_=>by simp at h
 |x::xs,u::us,h,k=>.cons (k 0 x u rfl rfl) (qL (by simpa using h) fun i x' u' h1 h2=>k (i+1) x' u' (by simpa using h1) (by simpa using h2))
section
variable{X:Cx}
def LO(ta:TA):TE:=fun B H Q=>ta B H fun vs H1=>∃j:Int,vs=[.int j]/\∀r,H1 r=none->Q (.ref r) (bq H1 r (.rng 0 j))
theorem AZ{a:Expr}{ta:TA}{p:Pos}(hg:Gl X "range")(hm:X.mg "range" = none)(ha:PA X [a] ta)(hs:starEach [a] 1e2=[(false,eval a 1e2)]):PE X (.Call (.Name "range" p) [a] [] pos) (LO ta):=by
 intro pins s B H Q I h;refine Call_ (l6 I hg hm boot_range (Pb (dh (ha pos pins s B H _ I h) fun us s1 ⟨vs,H1,I1,r1,q1⟩=>?_) hs rfl));obtain⟨j,e,q⟩:=q1;subst e;cases r1 with
 |cons r rr=>
  cases rr;obtain⟨t,rfl⟩:=r;refine call_range_1 ?_;refine⟨.ref s1.heap.objs.size,bq H1 s1.heap.objs.size (.rng 0 j),I1.laid (fun b ob e=>O8 _ e) (O9 _) ⟨_,_,_,Oy _ rfl⟩,rfl,q _ (I1.hok.fresh (O9 _))⟩
end
def qq(o1 o2:D->D->aw->aj D)(fa fb fc:ME):ME:=fun L Y=>(fa L Y).bind fun a Y1=>(fb L Y1).bind fun b Y2=>(o1 a b Y2).bind fun z Y3=>(EE z Y3).bind fun k Y4=>
 if k=true then (fc L Y4).bind fun c Y5=>o2 b c Y5 else .ok (.bl false) Y4
section
variable{X:Cx}{a b c d:Expr}{tb tc td:TE}{fb fc fd:ME}{op' op'':CmpOp}{r r' r'':R2}{o1 o2 o3:D->D->aw->aj D}
theorem yP(hd1:rO p o1 r)(hd2:rO p o2 r'){Q:VK}(h:tD p (qq o1 o2 fa fb fc) B H Q):Cu r r' (tD p fa) (tD p fb) (tD p fc) B H Q:=by
 obtain⟨Z,L,Y,S,R,P⟩:=h;refine⟨Z,L,Y,S,R,(aA.bind P).imp fun x Y1 H1 Z1 X1 S1 P1 v rv=>⟨Z1,L,Y1,S1,R.mono X1,(aA.bind P1).imp fun y Y2 H2 Z2 X2 S2 P2 u ru=>?_⟩⟩;refine hd1 x y v u H2 Z2 Y2 _ S2 (rv.mono X2) ru ((aA.bind P2).imp fun z Y3 H3 Z3 X3 S3 P3 w rw'=>?_);obtain⟨k,_,e,q⟩:=uf (aA.bind P3) rw' S3;refine⟨k,e,?_⟩;cases k with
 |true=>
  rw[Ow rfl]at q⊢;exact⟨Z3,L,Y3,S3,((R.mono X1).mono X2).mono X3,(aA.bind q).imp fun c Y5 H5 Z5 X5 S5 P5 t rt=>hd2 y c u t H5 Z5 Y5 Q S5 ((ru.mono X3).mono X5) rt P5⟩
 |false=>rw[Ox O3]at q⊢;exact q.now S3 _ (aV.mpr rfl)
theorem Du(ho:jR X (compareOp op) r)(ho':jR X (compareOp op') r')(hd1:rO p o1 r)(hd2:rO p o2 r')(ha:PE X a (tD p fa))(hb:PE X b (tD p fb))(hc:PE X c (tD p fc))
  (hm:lastMarks [op,op'] [b,c]=false):PE X (.Compare a [op,op'] [b,c] pos) (tD p (qq o1 o2 fa fb fc)):=(DL ho ho' ha hb hc hm).weak fun B H Q h=>yP hd1 hd2 h
def Ai(d:D)(Y:aw):aj Bool:=match d with
 |.non=>.ok false Y
 |.bl b=>.ok b Y
 |.int i=>.ok (i != 0) Y
 |.str x=>if x.length<=sizeLine then .ok ((x.length:Int) != 0) Y else .bad
 |.tup xs=>.ok (!xs.isEmpty) Y
 |.frz xs=>.ok (!xs.isEmpty) Y
 |.obj n=>match Y[n]? with
  |some 2e6=>.ok (!xs.isEmpty) Y
  |_=>.bad
def jb(f:ME):MT:=fun L Y=>(f L Y).bind Ai
theorem Reps.isEmpty(r:Reps K H Z xs vs):vs.isEmpty=xs.isEmpty:=by
 have:=r.length;cases xs with
 |nil=>have h:vs=[]:=SR (by simpa using this);rw[h];rfl
 |cons x r=>cases vs with
  |nil=>simp at this
  |cons _ _=>rfl
theorem Ff{d:D}{R:Bool->aw->Hp->List Addr->Prop}(S:p.S H Z Y)(r:p.R H Z d v)(P:aA p H Z (Ai d Y) R):∃k,Il p.K v H k/\R k Y H Z:=by
 unfold Ai at P;split at P
 ·rw[bC.mp r];exact⟨false,rfl,P.now S⟩
 ·rename_i b;rw[aV.mp r];exact⟨b,rfl,P.now S⟩
 ·rename_i i;rw[ar.mp r];exact⟨_,rfl,P.now S⟩
 ·rename_i x;split at P
  ·rename_i hl;rw[bh.mp r];exact⟨_,⟨hl,rfl⟩,P.now S⟩
  ·exact P.elim
 ·obtain⟨a,vs,rfl,h1,h2⟩:=aC.mp r;exact⟨_,.inr (.inl ⟨vs,h1,by rw[h2.isEmpty]⟩),P.now S⟩
 ·obtain⟨a,vs,rfl,h1,h2⟩:=bo.mp r;exact⟨_,.inl ⟨vs,h1.sq,by rw[h2.isEmpty]⟩,P.now S⟩
 ·split at P
  ·rename_i xs hx;obtain⟨a,us,rfl,a1,h1,rr⟩:=cH S r hx;exact⟨_,.inl ⟨us,fG.of h1,by rw[rr.isEmpty]⟩,P.now S⟩
  ·exact P.elim
theorem Dd{f:ME}(hK:X.K=p.K)(h:PE X e (tD p f))(he:∀whole,isTrue e 1e2 whole=(do let v <- whole;standAt e.pos;holding [v] (truthy v))):PT X e (iT p (jb f)):=
 (DD h he).weak fun B H Q ⟨Z, L, Y, S, R, P⟩ => ⟨Z, L, Y, S, R, (aA.bind P).imp fun d Y1 H1 Z1 X1 S1 P1 v rv => by
  rw[hK];exact Ff S1 rv P1⟩
theorem DB(n:Nat):Reps K H Z (dv 0 n) ((List.range n).map fun(i:Nat)=>V.int (i:Int)):=by
 have:dv 0 n=((List.range n).map fun(i:Nat)=>((i:Nat):Int)).map D.int:=by
  unfold dv;rw[Q9];apply Ra;intro i _;simp
 rw[this];have h2:((List.range n).map fun(i:Nat)=>V.int (i:Int))=((List.range n).map fun(i:Nat)=>((i:Nat):Int)).map V.int:=by rw[Q9];rfl
 rw[h2];exact i7 _
def LW:TE:=fun _ H Q=>∀q,H q=none->Q (.ref q) (bq H q (.dK []))
theorem Ge:PE X (.Dict [] [] pos) LW:=fun pins s B H Q I h=>by
 have hb:sysModules<s.heap.objs.size:=Nat.lt_trans 0e4 (I.mod.glob.keeps I.bk).lt;refine wpAny_Dict_empty ⟨.ref 0e3,_,I.laid (a:=0e3) (o:=.dK []) (t':=s.toks) (fun _ _ q=>O8 _ q) (O9 _) ?_,rfl,h _ (I.hok.fresh (O9 _))⟩;exact⟨QO _,Ou.mpr (ON (OD hb)),[],.nil,Heap.DictOf.new 1e5⟩
def Ar:ME:=fun _ Y=>.ok 1e9 (Y++[.dic])
theorem Je:PE X (.Dict [] [] pos) (tD p Ar):=Ge.weak fun B H Q ⟨Z,L,Y,S,R,P⟩ q hq=>by
 have x1:p.X H (bq H q (.dK [])) Z (Z++[q]):=(bx hq).trans (gJ [q]);exact P _ _ x1 (S.more hq aH) _ (aM.mpr ⟨q,rfl,by rw[<- S.len];simp⟩)
def KZ(p:Pa)(f:D->List D->aw->aj D)(r:V->List V->Hp->VK->Prop):Prop:=∀d ds v vs H Z Y Q,p.S H Z Y->p.R H Z d v->p.Rs H Z ds vs->aA p H Z (f d ds Y) (RV p Q)->r v vs H Q
def Ad(d:D)(Y:aw):Bool:=match d with
 |.obj n=>match Y[n]? with
  |some (.lst _)=>true
  |_=>false
 |_=>false
def y4(f:D->List D->aw->aj D)(fo:ME)(fr:MA):ME:=fun L Y=>(fo L Y).bind fun o Y1=>if Ad o Y1=true then (fr L Y1).bind fun ds Y2=>f o ds Y2 else .bad
theorem Km{d:D}(S:p.S H Z Y)(r:p.R H Z d v)(h:Ad d Y=true):Nk p.K "list" v H:=by
 unfold Ad at h;split at h
 ·split at h
  ·rename_i xs hx;obtain⟨a,us,rfl,a1,h1,rr⟩:=cH S r hx;exact .inl ⟨rfl,us,fG.of h1⟩
  ·cases h
 ·cases h
theorem zb{o:Expr}{es:List Expr}{fo:ME}{name:Str}{id:String}{rr:V->List V->Hp->VK->Prop}{f:D->List D->aw->aj D}(hK:X.K=p.K)(slot:Slot "list" name id)(hty:typeOf (.builtin id)=pure (.type "method_descriptor"))(hm:N8 X id rr)(hf:KZ p f rr)(ho:PE X o (tD p fo))(ha:PA X (e::es) (j7 p fr))(hbase:attributeBase o name 1e2 (eval o 1e2)=eval o 1e2)(hfew : ((backTo cpos (starEach (e :: es) 1e2)).all (fun x => !x.1) && (backToKw cpos (keywordEach [] 1e2)).all (fun x => x.1.isSome)
   && decide ((e::es).length+([]:List Keyword).length+(if ([]:List Keyword).isEmpty then 0 else 1)<30))=true)(hline:(apos.endLine == cpos.line)=true)(hs:starEach (e::es) 1e2=(false,eval e 1e2)::starEach es 1e2)(hplain:(backTo cpos (starEach es 1e2)).any 2e4=false):
  PE X (.Call (.Attribute o name apos) (e::es) [] cpos) (tD p (y4 f fo fr)):=
 (HH PySem.F.plainAttrs_list slot hty hm ho ha hbase hfew hline hs hplain).weak fun B H Q ⟨Z, L, Y, S, R, P⟩ => ⟨Z, L, Y, S, R, (aA.bind P).imp fun d Y1 H1 Z1 X1 S1 P1 v rv => by
  by_cases hl:Ad d Y1=true
  ·rw[Ow hl]at P1;rw[hK];exact⟨Km S1 rv hl,Z1,L,Y1,S1,R.mono X1,(aA.bind P1).imp fun ds Y2 H2 Z2 X2 S2 P2 vs rs=>hf d ds v vs H2 Z2 Y2 Q S2 (rv.mono X2) rs P2⟩
  ·rw[Ox hl]at P1;exact P1.elim⟩
def eB(d:D)(ds:List D)(Y:aw):aj D:=match d,ds with
 |.obj n,[y]=>match Y[n]? with
  |some 2e6=>if xs.length<sizeLine then .ok .non (Y.set n (.lst (xs++[y]))) else .bad
  |_=>.bad
 |_,_=>.bad
theorem GD:KZ p eB zC:=by
 intro d ds v vs H Z Y Q S rd rs P;unfold eB at P;split at P
 ·rename_i n y;split at P
  ·rename_i xs hx;split at P
   ·rename_i hb;obtain⟨a,us,rfl,a1,h1,rr⟩:=cH S rd hx;obtain⟨w,rfl,rw'⟩:=rs.one;have q:=rr.snoc rw';exact⟨a,us,w,rfl,rfl,h1,by rw[rr.length];exact hb,P _ _ (iX h1) (S.put hx a1 h1 q) _ (bC.mpr rfl)⟩
   ·exact P.elim
  ·exact P.elim
 ·exact P.elim
end
abbrev dP(K:W.Frag)(w:World):Pa:=⟨K,w,fun _ _ _ _=>False⟩
abbrev Ao:D->D->aw->aj D:=dI fun i j=>.int (i-j)
noncomputable abbrev vK:D->D->aw->aj D:=Hk E2 fun i j=>.int (i / j)
noncomputable abbrev vw:D->D->aw->aj D:=Hk (fun _ j=>0<j) fun i j=>.int (i%j)
noncomputable abbrev Ap:D->D->aw->aj D:=Hk BY fun i j=>.int (i^j.toNat)
def ud(N:List Str)(sc scope:Scope)(Nc:List Str)(cap:List (Option Nat)):Bool:=
 (scope.kind == .function)&&scope.names.all (fun y=>scope.names.lookup y.1 == some y.2) &&
 scope.names.all (fun y=>y.2 != .free || sc.names.lookup y.1 == some .cell || sc.names.lookup y.1 == some .free)&&gp N {scope:=sc,globals:=0,builtins:=0,locals:=0,cells:=[],qual:="",func:=none,code:=.none,frame:=none} scope Nc cap
theorem n6{N:List Str}{e1 e2:Env}{scope:Scope}:∀{Nc:List Str}{cap:List (Option Nat)},gp N e1 scope Nc cap=gp N e2 scope Nc cap
 |[],[]=>rfl
 |_::_,[]=>rfl
 |[],_::_=>rfl
 |_::Nc,none::cap=>by unfold gp;exact n6
 |x::Nc,some j::cap=>by unfold gp;rw[n6 (Nc:=Nc) (cap:=cap) (e1:=e1) (e2:=e2)]
theorem tH{X:Cx}{cap:List (Option Nat)}(hN:X.N=N)(hk:∀x,(sc.names.lookup x=some .cell\/sc.names.lookup x=some .free)->X.env.kindOf x=some .cell\/X.env.kindOf x=some .free)(h:ud N sc scope Nc cap=true):bQ X.N 1e2 scope Nc cap:=by
 unfold ud at h;dsimp[Qg]at h;obtain⟨⟨⟨h1,h3⟩,h4⟩,h5⟩:=h;refine⟨eq_of_beq h1,fun y hy=>?_,fun y hy hf=>?_,?_⟩
 ·exact eq_of_beq (RI.mp h3 y hy)
 ·have := RI.mp h4 y hy;dsimp[Bool.or_eq_true,hf]at this;refine hk _ ?_;rcases this with (z|z)|z
  ·exact absurd z 0e4
  ·exact .inl (eq_of_beq z)
  ·exact .inr (eq_of_beq z)
 ·rw[hN,n6];exact h5
theorem bW{X:Cx}{cap:List (Option Nat)}(hN:X.N=N)(hs:X.env.scope=sc)(h:ud N sc scope Nc cap=true):bQ X.N 1e2 scope Nc cap:=
 tH hN (fun x hx=>by subst hs;exact hx) h
theorem Hb{X:Cx}{cap:List (Option Nat)}(hN:X.N=N)(hs:X.env.scope=relabel sc env)(h:ud N sc scope Nc cap=true):bQ X.N 1e2 scope Nc cap:=
 tH hN (fun x hx=>by
  have e:X.env.kindOf x=(sc.names.lookup x).map fun k=>if (k == NameKind.free&&env.scope.kind == .function&&env.kindOf x == some .cell) then NameKind.cell else k:=by
   have:X.env.kindOf x=(relabel sc env).names.lookup x:=by rw[<- hs];rfl
   rw[this];exact iN
  rw[e];rcases hx with z|z
  ·rw[z];exact .inl rfl
  ·rw [z];show some (if _ then _ else _)=_\/some (if _ then _ else _)=_;split
   ·exact .inl rfl
   ·exact .inr rfl) h
structure Bx(P:Prop):Prop where
 h:P
section
variable{X:Cx}{a b c d:Expr}{es:List Expr}{fb fc fd f:ME}{ft gt:MT}
theorem aG(i:Nat)(hN:X.N[i]?=some x:=by rfl)(hv:xH X.env.scope x:=by first|exact Or.inl rfl|exact Or.inr (Or.inl rfl)|exact Or.inr (Or.inr rfl))(hd:(x == ("__debug__" : Str))=false:=by decide)(hcd:(x == ("__classdict__" : Str))=false:=by decide):Bx (PE X (.Name x pos) (tD p (ai i))):=⟨I0 (kn hN hv hd hcd)⟩
theorem cU{i j}:Bx (PE X (.Constant (.int i) j pos) (tD p (cC (.int i)))):=⟨BO JC fun _ _=>ar.mpr rfl⟩
theorem BI{i j}:Bx (PE X (.Constant (.bool i) j pos) (tD p (cC (.bl i)))):=⟨BO Mo fun _ _=>aV.mpr rfl⟩
theorem KW{j}:Bx (PE X (.Constant .none j pos) (tD p (cC .non))):=⟨BO JB fun _ _=>bC.mpr rfl⟩
theorem Ab{x j}:Bx (PE X (.Constant (.str x) j pos) (tD p (cC (.str x)))):=⟨BO Jy fun _ _=>bh.mpr rfl⟩
theorem HZ{i:Int}(h:∃t,X.mg x=some (.int i t))(hg:Gl X x:=by rfl)(hd:(x == ("__debug__" : Str))=false:=by decide):Bx (PE X (.Name x pos) (tD p (cC (.int i)))):=Bx.mk (by
 obtain⟨t,ht⟩:=h
 exact BO (uu (v:=.int i) hg ht ⟨t,rfl⟩ hd) fun _ _=>ar.mpr rfl)
theorem dw(ha:Bx (PE X a (tD p fa)))(hb:Bx (PE X b (tD p fb)))(hK:X.K=p.K:=by rfl):Bx (PE X (.BinOp a .Add b pos) (tD p (aK cx fa fb))):=⟨nH (r:=σ9 p.K) (hK ▸ Gs) J0 ha.h hb.h⟩
theorem y8(ha:Bx (PE X a (tD p fa)))(hb:Bx (PE X b (tD p fb))):Bx (PE X (.BinOp a .Sub b pos) (tD p (aK Ao fa fb))):=⟨nH JF (NN fun _ _ _ _=>ar.mpr rfl) ha.h hb.h⟩
theorem σ1(ha:Bx (PE X a (tD p fa)))(hb:Bx (PE X b (tD p fb))):Bx (PE X (.BinOp a .Mult b pos) (tD p (aK rR fa fb))):=⟨nH Gm JX ha.h hb.h⟩
theorem Cn(ha:Bx (PE X a (tD p fa)))(hb:Bx (PE X b (tD p fb))):Bx (PE X (.BinOp a .FloorDiv b pos) (tD p (aK vK fa fb))):=⟨nH Gn (Cb fun _ _ _ _=>ar.mpr rfl) ha.h hb.h⟩
theorem vA(ha:Bx (PE X a (tD p fa)))(hb:Bx (PE X b (tD p fb))):Bx (PE X (.BinOp a .Mod b pos) (tD p (aK vw fa fb))):=⟨nH JK (Cb fun _ _ _ _=>ar.mpr rfl) ha.h hb.h⟩
theorem Ho(ha:Bx (PE X a (tD p fa)))(hb:Bx (PE X b (tD p fb))):Bx (PE X (.BinOp a .Pow b pos) (tD p (aK Ap fa fb))):=⟨nH JH (Cb fun _ _ _ _=>ar.mpr rfl) ha.h hb.h⟩
theorem σ0(ha:Bx (PE X a (tD p fa))):Bx (PE X (.UnaryOp .USub a pos) (tD p (lu vv fa))):=⟨ρ7 Iy J1 ha.h⟩
structure pk(X:Cx)(p:Pa)(op:CmpOp)(o:D->D->aw->aj D):Prop where
 ex:∃r,jR X (compareOp op) r/\rO p o r
theorem rQ(hu:X.A.units+64<cLine)(hK:X.K=p.K:=by rfl):pk X p .Eq (j5 false):=⟨BS p.K false,hK ▸ JN hu,HK⟩
theorem An(hu:X.A.units+64<cLine)(hK:X.K=p.K:=by rfl):pk X p .NotEq (j5 true):=⟨BS p.K true,hK ▸ JI hu,HK⟩
theorem vq(hu:X.A.units+64<cLine)(hK:X.K=p.K:=by rfl):pk X p .In (pU false):=⟨BR p.K false,hK ▸ JM hu,HJ⟩
theorem Mv(hu:X.A.units+64<cLine)(hK:X.K=p.K:=by rfl):pk X p .NotIn (pU true):=⟨BR p.K true,hK ▸ A2 hu,HJ⟩
theorem Mx:pk X p .Is (xS false):=⟨_,JL,JY⟩
theorem Kh:pk X p .IsNot (xS true):=⟨_,Gk,Gy⟩
theorem oG(hu:X.A.units+64<cLine)(ho:vE op=true:=by rfl)(hK:X.K=p.K:=by rfl):pk X p op (nD op):=⟨σ8 p.K op,hK ▸ Gp hu ho,JZ⟩
variable{op' op'':CmpOp}{o' o'':D->D->aw->aj D}
theorem mD(k:pk X p op o)(ha:Bx (PE X a (tD p fa)))(hb:Bx (PE X b (tD p fb)))(hm:behindInMarks op b=false:=by rfl):Bx (PE X (.Compare a [op] [b] pos) (tD p (aK o fa fb))):=Bx.mk (let ⟨_,h1,h2⟩:=k.ex;Jf h1 h2 ha.h hb.h hm)
theorem dy(k:pk X p op o)(ha:Bx (PE X a (tD p fa)))(hb:Bx (PE X b (tD p fb)))(hm:behindInMarks op b=false:=by rfl):Bx (PT X (.Compare a [op] [b] pos) (iT p (lx (aK o fa fb)))):=Bx.mk (let ⟨_,h1,h2⟩:=k.ex;IJ h1 h2 ha.h hb.h hm)
theorem LL(k:pk X p op o)(k':pk X p op' o')(ha:Bx (PE X a (tD p fa)))(hb:Bx (PE X b (tD p fb)))(hc:Bx (PE X c (tD p fc)))(hm:lastMarks [op,op'] [b,c]=false:=by rfl):Bx (PE X (.Compare a [op,op'] [b,c] pos) (tD p (qq o o' fa fb fc))):=Bx.mk (let ⟨_,h1,h2⟩:=k.ex;let ⟨_,h3,h4⟩:=k'.ex;Du h1 h3 h2 h4 ha.h hb.h hc.h hm)
theorem xG(h:Bx (PE X e (tD p f)))(he:∀whole,isTrue e 1e2 whole=(do let v <- whole;standAt e.pos;holding [v] (truthy v)):=by intro _;rfl)(hK:X.K=p.K:=by rfl):Bx (PT X e (iT p (jb f))):=⟨Dd hK h.h he⟩
theorem Hs(ha:Bx (PT X a (iT p ft)))(hb:Bx (PW X (.BoolOp .And (b::rest) pos) (iT p gt))):Bx (PW X (.BoolOp .And (a::b::rest) pos) (iT p (sE ft gt))):=⟨IF ha.h hb.h⟩
theorem xN(ha:Bx (PT X a (iT p ft)))(hb:Bx (PW X (.BoolOp .Or (b::rest) pos) (iT p gt))):Bx (PW X (.BoolOp .Or (a::b::rest) pos) (iT p (rT ft gt))):=⟨LZ ha.h hb.h⟩
theorem Cs(ha:Bx (PT X a (iT p ft))):Bx (PW X (.BoolOp .And [a] pos) (iT p ft)):=⟨FU ha.h⟩
theorem vB(ha:Bx (PT X a (iT p ft))):Bx (PW X (.BoolOp .Or [a] pos) (iT p ft)):=⟨Jl ha.h⟩
theorem oB{op}(ha:Bx (PE X a (tD p fa))):Bx (PE X (.BoolOp op [a] pos) (tD p fa)):=⟨Jz ha.h⟩
def CK:Expr->Bool
 |.Starred _ _=>false
 |_=>true
theorem AE{a:Expr}{es:List Expr}(h:CK a=true):starEach (a::es) env=(false,eval a env)::starEach es env:=by
 cases a <;> first|rfl|cases h
theorem aQ(ha:Bx (PE X a (tD p fa)))(hr:Bx (PA X es (j7 p fr)))(hs:CK a=true:=by rfl):Bx (PA X (a::es) (j7 p (af fa fr))):=⟨FO ha.h hr.h (AE hs)⟩
theorem br  : Bx (PA X [] (j7 p az)):=⟨Jh⟩
theorem bc(h:d8 X.prog X.w X.K X.mg X.base p k x n F)(hr:dF k X.A)(ha:Bx (PA X (a::es) (j7 p fr)))(hg:Gl X x:=by rfl)(hdb:(x == ("__debug__" : Str))=false:=by decide)(he:starEach (a::es) 1e2=(false,eval a 1e2)::starEach es 1e2:=by rfl)(hpl:(backTo pos (starEach es 1e2)).any 2e4=false:=by rfl):Bx (PE X (.Call (.Name x px) (a::es) [] pos) (tD p (aB F fr))):=⟨FN h hr hg ha.h hdb he hpl⟩
structure p9(X:Cx)(p:Pa)(x:Str)(F:List D->aw->aj D):Prop where
 ex:∃(u:Value) (r:List V->Hp->VK->Prop),((∃id,u=.builtin id)\/∃T,u=.type T)/\bootBuiltins x=some u/\cM X u r/\xE p F r/\x ≠ "__name__" /\ (x == ("__debug__" : Str))=false
theorem bM(k:p9 X p x F)(hm:X.mg x=none)(ha:Bx (PA X (a::es) (j7 p fr)))(hg:Gl X x:=by rfl)(he:starEach (a::es) 1e2=(false,eval a 1e2)::starEach es 1e2:=by rfl)(hpl:(backTo pos (starEach es 1e2)).any 2e4=false:=by rfl):Bx (PE X (.Call (.Name x px) (a::es) [] pos) (tD p (aB F fr))):=Bx.mk (by
 obtain⟨u,r,hu,h1,h2,h3,h4,h5⟩:=k.ex;rcases hu with⟨id,rfl⟩|⟨T,rfl⟩
 ·exact Dv h2 h3 hg hm h1 ha.h h4 h5 he hpl
 ·exact AN h2 h3 hg hm h1 ha.h h4 h5 he hpl)
theorem oJ (hK:X.K=p.K:=by rfl) (hw:X.w=p.w:=by rfl):p9 X p "len" mB:=⟨_,_,.inl ⟨_,rfl⟩,PySem.boot_len,(Es.or BA).or BB,by rw[hK,hw];exact JT,by decide,by decide⟩
theorem vM (hc:X.calm=true:=by rfl) (hK:X.K=p.K:=by rfl):p9 X p "all" rS:=⟨_,_,.inl ⟨_,rfl⟩,by decide +kernel,BD hc,hK ▸ JV,by decide,by decide⟩
theorem i4 (hK:X.K=p.K:=by rfl):p9 X p "tuple" fu:=⟨_,_,.inr ⟨_,rfl⟩,by decide +kernel,sk,hK ▸ DT,by decide,by decide⟩
theorem qr (hK:X.K=p.K:=by rfl):p9 X p "list" hG:=⟨_,_,.inr ⟨_,rfl⟩,by decide +kernel,vb,hK ▸ Gw,by decide,by decide⟩
theorem MP:p9 X p "int" vI:=⟨_,_,.inr ⟨_,rfl⟩,by decide +kernel,BC,JU,by decide,by decide⟩
theorem Cf (hc:X.calm=true:=by rfl) (hK:X.K=p.K:=by rfl):p9 X p "min" pX:=⟨_,_,.inl ⟨_,rfl⟩,by decide +kernel,(Bw hc).or (Bv hc),hK ▸ JR,by decide,by decide⟩
theorem Cg (hc:X.calm=true:=by rfl) (hK:X.K=p.K:=by rfl):p9 X p "max" tS:=⟨_,_,.inl ⟨_,rfl⟩,by decide +kernel,(Bz hc).or (By hc),hK ▸ JS,by decide,by decide⟩
theorem MN (hu:X.A.units+64<cLine) (hc:X.calm=true:=by rfl) (hK:X.K=p.K:=by rfl) (hw:X.w=p.w:=by rfl):p9 X p "set" xR:=⟨_,_,.inr ⟨_,rfl⟩,by decide +kernel,(Bt hc hu).or (Bu hc hu),by rw[hK,hw];exact JQ,by decide,by decide⟩
theorem qH (hc:X.calm=true:=by rfl) (hK:X.K=p.K:=by rfl) (hw:X.w=p.w:=by rfl):p9 X p "sorted" eA:=⟨_,_,.inl ⟨_,rfl⟩,by decide +kernel,(yS.or (yR hc)).or (yQ hc),by rw[hK,hw];exact A3,by decide,by decide⟩
theorem lJ{xT:Str}{pt:Pos}(hT:T∈["int", "bool", "tuple", "list", "str", "dict"])(hbT:bootBuiltins xT=some (.type T))(hnT:xT ≠ "__name__")(hdT:(xT == ("__debug__" : Str))=false)(hm:X.mg "isinstance" = none)(hmT:X.mg xT=none)(ha:Bx (PE X a (tD p fa)))(hg:Gl X "isinstance" := by rfl)(hgT:Gl X xT:=by rfl)(hs1:starEach [a,.Name xT pt] 1e2=(false,eval a 1e2)::starEach [.Name xT pt] 1e2:=by rfl)(hK:X.K=p.K:=by rfl):Bx (PE X (.Call (.Name "isinstance" px) [a,.Name xT pt] [] pos) (tD p (lu (fL T) fa))):=⟨Jd hK hT hg hm hgT hmT hbT ha.h hnT hdT hs1⟩
theorem C6:bootBuiltins "int" = some (.type "int"):=by decide +kernel
theorem z7:bootBuiltins "bool" = some (.type "bool"):=by decide +kernel
theorem kx:bootBuiltins "tuple" = some (.type "tuple"):=by decide +kernel
theorem Hd:bootBuiltins "list" = some (.type "list"):=by decide +kernel
theorem dO(ha:Bx (PE X a (tD p fa)))(hb:Bx (PE X b (tD p fb)))(hs:uI b:=by exact fun _ _=>rfl)(hK:X.K=p.K:=by rfl):Bx (PE X (.Subscript a b pos) (tD p (aK fK fa fb))):=⟨ρ8 hK ha.h hb.h hs⟩
theorem ES{lo hi:Option Expr}{fl fh:MO}(he:Bx (PE X e (tD p fa)))(hl:Bx (PO X lo (Hi p fl)))(hu:Bx (PO X hi (Hi p fh)))(hK:X.K=p.K:=by rfl):Bx (PE X (.Subscript e (.Slice lo hi none p2) pos) (tD p (ED fa fl fh))):=⟨Dt hK he.h hl.h hu.h⟩
theorem σ2{fo:ME}(ho:Bx (PE X ob (tD p fo)))(ha:Bx (PA X [e] (j7 p fr)))(hbase:attributeBase ob "append" X.env (eval ob 1e2)=eval ob 1e2:=by rfl)(hfew:((backTo pos (starEach [e] 1e2)).all (fun x=>!x.1)&&(backToKw pos (keywordEach [] 1e2)).all (fun x=>x.1.isSome)
   && decide 3e5)=true:=by rfl)(hline:(apos.endLine == pos.line)=true:=by rfl)(hs:starEach [e] 1e2=(false,eval e 1e2)::starEach [] 1e2:=by rfl)(hpl:(backTo pos (starEach [] 1e2)).any 2e4=false:=by rfl)(hK:X.K=p.K:=by rfl):Bx (PE X (.Call (.Attribute ob "append" apos) [e] [] pos) (tD p (y4 eB fo fr))):=⟨zb hK PySem.F.slot_list_append PySem.F.type_list_append sT GD ho.h ha.h hbase hfew hline hs hpl⟩
variable{g:MG}{u:EO}
theorem rM(hl:Bx (PE X e (tD p f)))(hK:X.K=p.K:=by rfl):Bx (PI X tg e (vk p (gh f))):=⟨IX hK hl.h⟩
theorem vt(hm:X.mg "range" = none)(ha:Bx (PA X [a] (j7 p fr)))(hg:Gl X "range" := by rfl)(hs:starEach [a] 1e2=[(false,eval a 1e2)]:=by rfl):Bx (PI X tg (.Call (.Name "range" px) [a] [] pos) (vk p (jC lz fr))):=⟨AM hg hm ha.h hs⟩
theorem NR(hm:X.mg "range" = none)(ha:Bx (PA X [a,b] (j7 p fr)))(hg:Gl X "range" := by rfl)(hs:starEach [a,b] 1e2=[(false,eval a 1e2),(false,eval b 1e2)]:=by rfl)(hs2:starEach [b] 1e2=[(false,eval b 1e2)]:=by rfl):Bx (PI X tg (.Call (.Name "range" px) [a,b] [] pos) (vk p (jC Al fr))):=⟨AL hg hm ha.h hs hs2⟩
theorem LB{tpos:Pos}(hm:X.mg "enumerate" = none)(ha:Bx (PA X [a] (j7 p fr)))(hg:Gl X "enumerate" := by rfl)(hs:starEach [a] 1e2=[(false,eval a 1e2)]:=by rfl)(hK:X.K=p.K:=by rfl):Bx (PI X (.Tuple elts k1 tpos) (.Call (.Name "enumerate" px) [a] [] pos) (vk p (jC mF fr))):=⟨FF hK hg hm ha.h hs⟩
theorem gP(i:Nat)(hN:X.N.Nodup)(hi:X.N[i]?=some x:=by rfl)(hx:Ag X.env.scope x:=by first|exact Or.inl rfl|exact Or.inr rfl)(hf:X.fn x=true\/X.env.scope.names.lookup x=some .local:=by first|exact .inl rfl|exact .inr rfl):Bx (PG X (.Name x pos) (rL p (ao i))):=⟨FH hN hi hx hf⟩
theorem iE  : Bx (xI X [] (vm p cz)):=⟨FG⟩
theorem bL(h1:Bx (PG X e (rL p g)))(h2:Bx (xI X es (vm p u)))(hs:(assignEach (e::es) 1e2).map (·.2)=assign e 1e2::(assignEach es 1e2).map (·.2):=by rfl):Bx (xI X (e::es) (vm p (aT g u))):=⟨Dn h1.h h2.h hs⟩
theorem iD(h:Bx (xI X es (vm p u)))(hc:X.calm=true:=by rfl)(hn:(assignEach es 1e2).length=n:=by rfl)(hst:(assignEach es 1e2).findIdx? 2e4=none:=by rfl)(hK:X.K=p.K:=by rfl):Bx (PG X (.Tuple es k pos) (rL p (cy n u))):=⟨IY hK hc h.h hn hst⟩
theorem ze{fo fi:ME}(ho:Bx (PE X a (tD p fo)))(hi:Bx (PE X b (tD p fi)))(ha:∀v,assign (.Subscript a b pos) 1e2 v=(do
   let ov <- holding [v] (eval a 1e2)
   let iv <- holding [v,ov] (eval b 1e2)
   standAt pos
   holding [v,ov,iv] (setItem ov iv v)
   release [v,ov,iv] []):=by intro _;rfl):Bx (PG X (.Subscript a b pos) (rL p (oH fo fi))):=⟨IZ ho.h hi.h ha⟩
variable{ifs:List Expr}{cap:List (Option Nat)}{tt:MT}{te:ME}
theorem dU(S:bQ X.N 1e2 scope Nc cap)(hi:Bx (PI X tg iter (vk p fi)))(hg:∀cl C s H fp,Bx (PG 0e9 tg (rL p.nx g)))(ht:∀cl C s H fp,Bx (vg 0e9 ifs (iT p.nx tt)))(he:∀cl C s H fp,Bx (PE 0e9 elt (tD p.nx te)))(hc:X.calm=true:=by rfl)(hs:∀x,foldedSetIterable iter 1e2 x=pure x:=by intro _;rfl):Bx (PE X 3e0 (tD p (cL fi cap g tt te))):=⟨FM hc S hi.h (fun cl C s H fp=>(hg cl C s H fp).h) (fun cl C s H fp=>(ht cl C s H fp).h) (fun cl C s H fp=>(he cl C s H fp).h) hs⟩
def Aa(gs:List Comprehension):Bool:=gs.all fun g=>g.is_async == 0
theorem Fi{gs:List Comprehension}(h:Aa gs=true):∀g∈gs,g.is_async=0:=fun g hg=>eq_of_beq (RI.mp h g hg)
variable{mb:MB}{cl0:Comprehension}{rest:List Comprehension}{d:Nat}
variable{fs gs:MS}{sts A σ:List Stmt}
theorem bZ(i:Nat)(hN:X.N.Nodup)(he:Bx (PE X e (tD p f)))(hi:X.N[i]?=some x:=by rfl)(hx:Ag X.env.scope x:=by first|exact Or.inl rfl|exact Or.inr rfl)(hs:swapsWith e (some (.Name x pos')) pos.line 1e2=pure false:=by rfl)(hf:X.fn x=true\/X.env.scope.names.lookup x=some .local:=by first|exact .inl rfl|exact .inr rfl):Bx (PS X (.Assign [.Name x pos'] e pos) (gu p (bK f (ao i)))):=⟨IK hN hi hx he.h hs hf⟩
theorem xY(i:Nat)(hN:X.N.Nodup)(S:bQ X.N 1e2 scope Nc cap)(hi:Bx (PI X tg iter (vk p fi)))(hg:∀cl C s H fp,Bx (PG 0e9 tg (rL p.nx g)))(ht:∀cl C s H fp,Bx (vg 0e9 ifs (iT p.nx tt)))(he:∀cl C s H fp,Bx (PE 0e9 elt (tD p.nx te)))(hix:X.N[i]?=some x:=by rfl)(hx:X.env.scope.names.lookup x=some .local:=by rfl)(hc:X.calm=true:=by rfl)(hsw:swapsWith 3e0 (some (.Name x pos1)) pos2.line 1e2=pure true:=by rfl)(hs:∀x,foldedSetIterable iter 1e2 x=pure x:=by intro _;rfl):Bx (PS X (.Assign [.Name x pos1] 3e0 pos2) (gu p (bK (cL fi cap g tt te) (ao i)))):=⟨Fm hc hN hix hx S hi.h (fun cl C s H fp=>(hg cl C s H fp).h) (fun cl C s H fp=>(ht cl C s H fp).h) (fun cl C s H fp=>(he cl C s H fp).h) hsw hs⟩
theorem oE(he:Bx (PE X e (tD p f)))(hg:Bx (PG X tg (rL p g)))(hs:swapsWithSole [tg] e pos.line 1e2=pure false:=by rfl)(hw:swappedStores [tg] e 1e2=pure none:=by rfl)(h1:(assignEach [tg] 1e2).map (·.2)=[assign tg 1e2]:=by rfl):Bx (PS X (.Assign [tg] e pos) (gu p (bK f g))):=⟨IS he.h hg.h hs hw h1⟩
theorem qi(he:Bx (PE X e (tD p f)))(hs:swapsWith e none pos.line 1e2=pure false:=by rfl):Bx (PS X (.Expr e pos) (gu p (mE f))):=⟨Fo he.h hs⟩
theorem kc(hp:PassesOwn 0e7 X.A 1e2 X.xe)(hi:Bx (PI X tg iter (vk p fi)))(hg:Bx (PG X tg (rL p g)))(hb:Bx (ja X body (gu p fs)))(hc:X.calm=true:=by rfl)(hs:∀x,foldedSetIterable iter 1e2 x=pure x:=by intro _;rfl):Bx (PS X (.For tg iter body [] pos) (gu p (ly fi g fs))):=⟨IQ hp hc hi.h hg.h hb.h hs⟩
theorem FP(n:Nat)(hp:PassesOwn 0e7 X.A 1e2 X.xe)(hc:Bx (PT X c (iT p ft)))(hb:Bx (ja X body (gu p fs))):Bx (PS X (.While c body [] pos) (gu p (tZ n ft fs))):=⟨De hp hc.h hb.h⟩
end
section
variable{X:Cx}{a b c:Expr}{es:List Expr}{fb f:ME}{ft gt:MT}{fs gs:MS}{sts A σ:List Stmt}
theorem Hm(ha:Bx (PE X a (tD p fa))):Bx (PE X (.UnaryOp .Not a pos) (tD p (vL fa))):=⟨Jb ha.h⟩
theorem lI(ha:Bx (PE X a (tD p fa)))(hb:Bx (PE X (.BoolOp .And (b::rest) pos) (tD p fb))):Bx (PE X (.BoolOp .And (a::b::rest) pos) (tD p (jm fa fb))):=⟨Jg ha.h hb.h⟩
theorem di(h:Bx (PA X es (j7 p fr))):Bx (PE X (.Tuple es k pos) (tD p (d9 fr))):=⟨Ja h.h⟩
theorem g8(h:Bx (PA X es (j7 p fr))):Bx (PE X (.List es pos) (tD p (iz fr))):=⟨Jc h.h⟩
theorem Hn:Bx (PE X (.Dict [] [] pos) (tD p Ar)):=⟨Je⟩
theorem ug:Bx (PO X none (Hi p EI)):=⟨FC⟩
theorem mH(h:Bx (PE X e (tD p f))):Bx (PO X (some e) (Hi p (ke f))):=⟨FA h.h⟩
theorem iU(ha:Bx (PT X a (iT p ft))):Bx (PT X (.UnaryOp .Not a pos) (iT p (gH ft))):=⟨IH ha.h⟩
theorem xM(h:Bx (PW X e (iT p ft))):Bx (PT X e (iT p ft)):=⟨h.h.pt⟩
theorem lH:Bx (vg X [] (iT p cV)):=⟨Fk⟩
theorem ka(h:Bx (PT X c (iT p ft))):Bx (vg X [c] (iT p ft)):=⟨Fj h.h⟩
theorem fM:Bx (ja X [] (gu p dG)):=⟨IP⟩
theorem aO(h1:Bx (PS X st (gu p fs)))(h2:Bx (ja X sts (gu p gs))):Bx (ja X (st::sts) (gu p (bf fs gs))):=⟨Fp h1.h h2.h⟩
theorem aX(h1:Bx (PS X st (gu p fs))):Bx (ja X [st] (gu p fs)):=⟨IM h1.h⟩
theorem bA(h:Bx (PE X e (tD p f))):Bx (PS X (.Return (some e) pos) (gu p (bX f))):=⟨IL h.h⟩
theorem jB(hc:Bx (PT X c (iT p ft)))(ha:Bx (ja X A (gu p fs)))(hb:Bx (ja X σ (gu p gs))):Bx (PS X (.If c A σ pos) (gu p (pF ft fs gs))):=⟨ρ3 hc.h ha.h hb.h⟩
end
theorem c8{ps:List Str}(F:gf K x qual st f fd)(S:aR N ps (aq st))(hn:ps.length=n)(hm:mg x=some 3e7)(hb:dM K fd ps [])(body : ∀ (cdv : Value) (A : Around) (outer : List Env) (s : Shared) (H : Hp) (E : XK), dF k (A.deeper (envOfC qual (aq st) 0e3 f cdv)) ->
   Bx (ja (pY xK P w K mg base N qual (aq st) f cdv A outer s H E).nox (bD st) (gu p fb))):d8 P w K mg base p (k+1) x n (iq n N.length fb):=
 KM F S hn hm hb fun cdv A outer s H E hr=>(body cdv A outer s H E hr).h
end ρ2
namespace ρ2
open PySem RS
section
variable{fb fc fd f:ME}{ft gt:MT}{op o1 o2 o3:D->D->aw->aj D}{fs gs:MS}{g:MG}
@[simp] theorem ah{r:Ro}:ai 0 (some d::r) Y=.ok d Y:=SJ (SK _)
@[simp] theorem ak{x:Option D}{r:Ro}:ai (i+1) (x::r) Y=ai i r Y:=SJ (SK _)
@[simp] theorem bu:cC d L Y=.ok d Y:=SJ (SK _)
@[simp] theorem aJ:aK op fa fb L Y=(fa L Y).bind fun a Y1=>(fb L Y1).bind fun b Y2=>op a b Y2:=SJ (SK _)
@[simp] theorem iW {o:D->aw->aj D}:lu o fa L Y=(fa L Y).bind fun a Y1=>o a Y1:=SJ (SK _)
@[simp] theorem av:az L Y=.ok [] Y:=SJ (SK _)
@[simp] theorem au:af fa fr L Y=(fa L Y).bind fun a Y1=>(fr L Y1).bind fun r Y2=>.ok (a::r) Y2:=SJ (SK _)
@[simp] theorem ay:aB F fr L Y=(fr L Y).bind F:=SJ (SK _)
@[simp] theorem c9:d9 fr L Y=(fr L Y).bind fun ds Y=>if ds.length<=sizeLine then .ok (.tup ds) Y else .bad:=SJ (SK _)
@[simp] theorem fq:iz fr L Y=(fr L Y).bind fun ds Y=>if ds.length<=sizeLine then .ok 1e9 (Y++[.lst ds]) else .bad:=SJ (SK _)
@[simp] theorem bp:EE (.bl b) Y=.ok b Y:=SJ (SK _)
@[simp] theorem dj:lx f L Y=(f L Y).bind EE:=SJ (SK _)
@[simp] theorem G4:sE ft gt L Y=(ft L Y).bind fun b Y1=>if b=true then gt L Y1 else .ok false Y1:=SJ (SK _)
@[simp] theorem qo:rT ft gt L Y=(ft L Y).bind fun b Y1=>if b=true then .ok true Y1 else gt L Y1:=SJ (SK _)
@[simp] theorem eu:gH ft L Y=(ft L Y).bind fun b Y1=>.ok (!b) Y1:=SJ (SK _)
@[simp] theorem ia:jm fa fb L Y=(fa L Y).bind fun a Y1=>(EE a Y1).bind fun b Y2=>if b=true then fb L Y2 else .ok (.bl false) Y2:=SJ (SK _)
@[simp] theorem zW:vL f L Y=(f L Y).bind fun a Y1=>(EE a Y1).bind fun b Y2=>.ok (.bl (!b)) Y2:=SJ (SK _)
@[simp] theorem wR:qq o1 o2 fa fb fc L Y=(fa L Y).bind fun a Y1=>(fb L Y1).bind fun b Y2=>(o1 a b Y2).bind fun z Y3=>(EE z Y3).bind fun k Y4=>
 if k=true then (fc L Y4).bind fun c Y5=>o2 b c Y5 else .ok (.bl false) Y4:=SJ (SK _)
@[simp] theorem fN:jb f L Y=(f L Y).bind Ai:=SJ (SK _)
@[simp] theorem cW:Ai (.bl b) Y=.ok b Y:=SJ (SK _)
@[simp] theorem HP {fl fh:MO}:ED fa fl fh L Y=(fa L Y).bind fun a Y1=>(fl L Y1).bind fun lo Y2=>(fh L Y2).bind fun hi Y3=>EC a lo hi Y3:=SJ (SK _)
@[simp] theorem KC:EI L Y=.ok none Y:=SJ (SK _)
@[simp] theorem wQ:ke f L Y=(f L Y).bind MZ:=SJ (SK _)
@[simp] theorem C2 {i:Int}:MZ (.int i) Y=.ok (some i) Y:=SJ (SK _)
@[simp] theorem C1:Ar L Y=.ok 1e9 (Y++[.dic]):=SJ (SK _)
@[simp] theorem qd {F:D->List D->aw->aj D}{fo:ME}:y4 F fo fr L Y=(fo L Y).bind fun o Y1=>if Ad o Y1=true then (fr L Y1).bind fun ds Y2=>F o ds Y2 else .bad:=SJ (SK _)
@[simp] theorem bg:bX f L Y=(f L Y).bindS fun d Y'=>.ret d Y':=SJ (SK _)
@[simp] theorem bV:dG L Y=.next L Y:=SJ (SK _)
@[simp] theorem aL:bf fs gs L Y=(fs L Y).bind gs:=SJ (SK _)
@[simp] theorem bP:pF ft fs gs L Y=(ft L Y).bindS fun b Y1=>if b=true then fs L Y1 else gs L Y1:=SJ (SK _)
@[simp] theorem aZ:bK f g L Y=(f L Y).bindS fun d Y1=>(g d L Y1).bindS fun L' Y2=>.next L' Y2:=SJ (SK _)
@[simp] theorem mP:mE f L Y=(f L Y).bindS fun _ Y1=>.next L Y1:=SJ (SK _)
@[simp] theorem aE {g:MS}:(SO.next L Y).bind g=g L Y:=SJ (SK _)
@[simp] theorem l5{g:MS}:(SO.ret d Y).bind g=.ret d Y:=SJ (SK _)
@[simp] theorem jG {g:MS}:(SO.next L Y).loop g=g L Y:=SJ (SK _)
@[simp] theorem aU:(SO.ret d Y).out=.ok d Y:=SJ (SK _)
@[simp] theorem bB:ao i d L Y=.ok (L.set i (some d)) Y:=SJ (SK _)
@[simp] theorem pM{fo fi:ME}:oH fo fi d L Y=(fo L Y).bind fun o Y1=>(fi L Y1).bind fun i Y2=>(Ak o i d Y2).bind fun _ Y3=>.ok L Y3:=SJ (SK _)
@[simp] theorem mM{u:EO}:cy n u (.tup xs) L Y=if xs.length=n then u xs L Y else .bad:=SJ (SK _)
@[simp] theorem mO:cz [] L Y=.ok L Y:=SJ (SK _)
@[simp] theorem ku{u:EO}{r:List D}:aT g u (d::r) L Y=(g d L Y).bind fun L' Y'=>u r L' Y':=SJ (SK _)
@[simp] theorem iG:ly fi g fs L Y=(fi L Y).bindS fun src Y1=>fH src g fs src.items L Y1:=SJ (SK _)
@[simp] theorem cm:gh f L Y=(f L Y).bind xO:=SJ (SK _)
@[simp] theorem fP {F:List D->aw->aj pj}:jC F fr L Y=(fr L Y).bind F:=SJ (SK _)
@[simp] theorem iZ:xO (.tup xs) Y=.ok (.fix xs) Y:=SJ (SK _)
@[simp] theorem cG{cap:List (Option Nat)}:cL fi cap g ft f L Y=(fi L Y).bind fun src Y1=>compLoop src Y1.length g ft f src.items (fJ cap L) (Y1++[.lst []]):=SJ (SK _)
@[simp] theorem bE:(pj.fix xs).items=xs:=SJ (SK _)
@[simp] theorem dC:(pj.own n xs).items=xs:=SJ (SK _)
@[simp] theorem Hc:fJ [] L=[]:=SJ (SK _)
@[simp] theorem Er {r:List (Option Nat)}:fJ (none::r) L=none::fJ r L:=SJ (SK _)
@[simp] theorem MV{r:List (Option Nat)}:fJ (some j::r) L=(L[j]?).join::fJ r L:=SJ (SK _)
theorem gv{N:Nat}{a:D}:iq 1 N fs [a] Y=pS Y (fs (some a::List.replicate (N-1) none) Y).out:=Ow rfl
theorem cA{N:Nat}{a b:D}:iq 2 N fs [a,b] Y=pS Y (fs (some a::some b::List.replicate (N-2) none) Y).out:=Ow rfl
theorem qp{N:Nat}{a b c:D}:iq 3 N fs [a,b,c] Y=pS Y (fs (some a::some b::some c::List.replicate (N-3) none) Y).out:=Ow rfl
@[simp] theorem fQ {op:CmpOp}{i j:Int}:nD op (.int i) (.int j) Y=.ok (.bl (gk op i j)) Y:=SJ (SK _)
@[simp] theorem fR {i j:Int}:cx (.int i) (.int j) Y=.ok (.int (i+j)) Y:=SJ (SK _)
@[simp] theorem HQ{i j:Int}:dI gg (.int i) (.int j) Y=.ok (gg i j) Y:=SJ (SK _)
@[simp] theorem nL{C:Int->Int->Prop}{i j:Int}(h:C i j):Hk C gg (.int i) (.int j) Y=.ok (gg i j) Y:=by unfold Hk;simp[h]
@[simp] theorem Nj {i j:Int} (h:vz i j):rR (.int i) (.int j) Y=.ok (.int (i*j)) Y:=by unfold rR;simp[h]
@[simp] theorem CZ {i:Int}:vv (.int i) Y=.ok (.int (-i)) Y:=SJ (SK _)
@[simp] theorem l9{i j:Int}:j5 neg (.int i) (.int j) Y=.ok (.bl (if neg then !(i == j) else i == j)) Y:=SJ (SK _)
@[simp] theorem C0{a:D}:xS neg a .non Y=.ok (.bl (if neg then !a.isNon else a.isNon)) Y:=SJ (SK _)
@[simp] theorem jI:mB [.tup xs] Y=.ok (.int 3e9) Y:=SJ (SK _)
@[simp] theorem zX:mB [.frz xs] Y=.ok (.int 3e9) Y:=SJ (SK _)
theorem iY(h:Y[n]?=some 2e6):fu [.obj n] Y=.ok (.tup xs) Y:=by unfold fu;simp[h]
theorem la{bs:List Bool}(h:Y[n]?=some (.lst (bs.map D.bl))):rS [.obj n] Y=.ok (.bl (bs.all id)) Y:=by unfold rS;simp[h,BE]
theorem uc{i:Int}(h:atI xs i=some d):fK (.tup xs) (.int i) Y=.ok d Y:=by unfold fK;simp[h]
theorem KD{i:Int}(h:atI xs i=some d):fK (.frz xs) (.int i) Y=.ok d Y:=by unfold fK;simp[h]
theorem iF{i:Int}(hm:Y[n]?=some 2e6)(h:atI xs i=some d):fK (.obj n) (.int i) Y=.ok d Y:=by unfold fK;simp[hm,h]
theorem pL{i:Int}(hm:Y[n]?=some 2e6)(h:y0 3e9 i=some j):Ak (.obj n) (.int i) d Y=.ok () (Y.set n (.lst (xs.set j d))):=by unfold Ak;simp[hm,h]
theorem gA(hm:Y[n]?=some 2e6):xO (.obj n) Y=.ok (.own n xs) Y:=by unfold xO;simp[hm]
theorem i3{j:Int}(h0:0<=j)(h:j<1000):lz [.int j] Y=.ok (.fix (dv 0 j.toNat)) Y:=by
 unfold lz;dsimp only;rw[Ow];omega
theorem G3{i j:Int}(h0:0<=i)(h1:i<1000)(h2:-1000<=j)(h:j<1000):Al [.int i,.int j] Y=.ok (.fix (dv i (j-i).toNat)) Y:=by
 unfold Al;dsimp only;rw[Ow];omega
theorem zk{Z:Type}{x:Z}{r:List Z}:atI (x::r) 0=some x:=by unfold atI y0;simp
theorem Cj{Z:Type}{x y:Z}{r:List Z}:atI (x::y::r) 1=some y:=mQ (j:=1) rfl
theorem HS{Z:Type}{x y z:Z}{r:List Z}:atI (x::y::z::r) 2=some z:=mQ (j:=2) rfl
@[simp] theorem dN {x:D}{r:List D}:fK (.tup (x::r)) (.int 0) Y=.ok x Y:=uc zk
@[simp] theorem k9 {x y:D}{r:List D}:fK (.tup (x::y::r)) (.int 1) Y=.ok y Y:=uc Cj
theorem C8{Z:Type}{xs:List Z}{i:Int}{x:Z}(h0:0<=i)(h:xs[i.toNat]?=some x):atI xs i=some x:=by
 have:=mQ h
 rwa [show ((i.toNat:Nat):Int)=i by omega]at this
theorem t5{i:Int}(h0:0<=i)(h:i<n):y0 n i=some i.toNat:=by unfold y0;simp[h0,h]
end
section
variable{g:aw}
@[simp] theorem GJ{i:Int}:(D.int i).low n=True:=by simp[D.low]
@[simp] theorem N2{i:Bool}:(D.bl i).low n=True:=by simp[D.low]
@[simp] theorem Ni:(D.str x).low n=True:=by simp[D.low]
@[simp] theorem Nh:(D.tup xs).low n=D.lows n xs:=by simp[D.low]
@[simp] theorem uz:(D.obj m).low n=(m<n):=by simp[D.low]
@[simp] theorem MU:D.lows n []=True:=by simp[D.lows]
@[simp] theorem K2{x:D}:D.lows n (x::xs)=(x.low n/\D.lows n xs):=by simp[D.lows]
theorem qA{n:Nat}:∀{xs:List D},D.lows n xs↔∀x∈xs,x.low n
 |[]=>by simp
 |x::xs=>by simp[qA (xs:=xs)]
theorem eG(hd:d.low Y.length):pS Y (.ok d (Y++g))=.ok d Y:=by
 unfold pS;dsimp only;rw[Ow]
 ·simp
 ·refine⟨hd,by simp,fun i o hi h=>.inl ?_⟩;rw[Pw hi]at h;exact h
theorem bw(hd:d.low Y.length):pS Y (.ok d Y)=.ok d Y:=by
 have:=eG (Y:=Y) (g:=[]) hd;simpa using this
theorem CS{o:O}(hd:d.low Y.length)(ho:o.low Y.length):pS Y (.ok d (Y.set i o++g))=.ok d (Y.set i o):=by
 unfold pS;dsimp only;rw[Ow]
 ·congr 1;rw[SW 1e1];exact Ri 1e1
 ·refine ⟨hd, by simp, fun j o' hj h => ?_⟩;rw[Pw (by simpa using hj)]at h;by_cases hij:i=j
  ·subst hij;rw[OS hj]at h;cases h;exact .inr ho
  ·rw[OT hij]at h;exact .inl h
theorem zS{o:O}(hd:d.low Y.length)(ho:o.low Y.length):pS Y (.ok d (Y.set i o))=.ok d (Y.set i o):=by
 have:=CS (Y:=Y) (g:=[]) (i:=i) hd ho;simpa using this
theorem sA{Y':aw}(h:¬ d.low Y.length):pS Y (.ok d Y')=.ok d Y':=by
 unfold pS;dsimp only;rw[Ox fun z=>h z.1]
theorem CT{Y':aw}:pS Y (.ok d Y')=.ok d Y'\/(pS Y (.ok d Y')=.ok d (Y'.take Y.length)/\d.low Y.length):=by
 unfold pS;dsimp only;by_cases h:Ig Y Y' d
 ·rw[Ow h];exact .inr ⟨rfl,h.1⟩
 ·rw[Ox h];exact .inl rfl
end
theorem ko{g:aw}{a b:O}:(Y1++a::g).set Y1.length b=Y1++b::g:=by
 rw[List.set_append_right _ _ (O9 _),RE];rfl
theorem ax{g:aw}{a:O}:(Y1++a::g)[Y1.length]?=some a:=by
 rw[Pu (O9 _),RE];rfl
theorem nQ{g:aw}{ys:List D}{y:D}(h:ys.length<sizeLine):vD Y1.length y (Y1++.lst ys::g)=.ok () (Y1++.lst (ys++[y])::g):=by
 unfold vD;rw[ax];dsimp only;rw[Ow h,ko]
theorem gx{src:pj}{g:MG}{t:MT}{e:ME}{Y1:aw}{q:D->Bool}{h:D->D}(R:Ro->Prop)(ho:∀a,cK src (Y1++[.lst a])) :
  ∀{xs acc:List D}{L:Ro},R L->acc.length+xs.length<=sizeLine->(∀x∈xs,∀a L,R L->∃L1,R L1/\g x L (Y1++[.lst a])=.ok L1 (Y1++[.lst a])/\t L1 (Y1++[.lst a])=.ok (q x) (Y1++[.lst a])/\(q x=true->e L1 (Y1++[.lst a])=.ok (h x) (Y1++[.lst a]))) ->
   compLoop src Y1.length g t e xs L (Y1++[.lst acc])=.ok (.obj Y1.length) (Y1++[.lst (acc++(xs.filter q).map h)])
 |[],acc,L,hr,hl,he=>by
  unfold compLoop;rw[Ow (ho acc)];simp
 |x::xs,acc,L,hr,hl,he=>by
  obtain⟨L1,r1,e1,e2,e3⟩:=he x OJ acc L hr;unfold compLoop;rw[Ow (ho acc),e1];dsimp[ag,aa];rw[e2];dsimp[ag,aa];have he':=fun y hy=>he y (OK _ hy);dsimp[QF]at hl;cases hq:q x with
  |false=>
   rw[Ox O3,gx R ho r1 0e1 he',SY,hq];rfl
  |true=>
   rw[Ow rfl,e3 hq];dsimp[ag,aa];rw[nQ 0e1];dsimp[aa];rw[gx R ho r1 (by simp;omega) he',SY,hq];simp
theorem kv{src:pj}{g:MG}{t:MT}{e:ME}{n:Nat}(J:List D->List D->Ro->aw->aw->Prop)
  (fin:∀ys L Y1 s,J [] ys L Y1 s->Y1.length=n/\cK src (Y1++.lst ys::s))
  (step : ∀ x r ys L Y1 s, J (x :: r) ys L Y1 s -> Y1.length = n /\ cK src (Y1 ++ .lst ys :: s) /\ ∃ L1 μa sa b μb sb, g x L (Y1 ++ .lst ys :: s) = .ok L1 (μa ++ .lst ys :: sa) /\ t L1 (μa ++ .lst ys :: sa) = .ok b (μb ++ .lst ys :: sb) /\
   (b=true->∃y μc sc,e L1 (μb++.lst ys::sb)=.ok y (μc++.lst ys::sc)/\ys.length<sizeLine/\μc.length=n/\J r (ys++[y]) L1 μc sc)/\(b=false->J r ys L1 μb sb)) :
  ∀{xs ys:List D}{L:Ro}{Y1 s:aw},J xs ys L Y1 s->∃ys' L' Y1' s',J [] ys' L' Y1' s'/\compLoop src n g t e xs L (Y1++.lst ys::s)=.ok (.obj n) (Y1'++.lst ys'::s')
 |[],ys,L,Y1,s,hJ=>by
  refine⟨ys,L,Y1,s,hJ,?_⟩;unfold compLoop;rw[Ow (fin ys L Y1 s hJ).2]
 |x::xs,ys,L,Y1,s,hJ=>by
  obtain⟨hn,ho,L1,μa,sa,b,μb,sb,e1,e2,e3,e4⟩:=step x xs ys L Y1 s hJ;unfold compLoop;rw[Ow ho,e1];dsimp[ag,aa];rw[e2];dsimp[ag,aa];cases b with
  |false=>
   rw[Ox O3];exact kv J fin step (e4 rfl)
  |true=>
   obtain⟨y,μc,sc,f1,f2,f3,f4⟩:=e3 rfl;rw[Ow rfl,f1];dsimp[ag,aa];subst f3;rw[nQ f2];dsimp[aa];exact kv J fin step f4
theorem k8{src:pj}{g:MG}{fb:MS}(J:List D->Ro->aw->Prop)(fin:∀L Y,J [] L Y->cK src Y)
  (step:∀x r L Y,J (x::r) L Y->cK src Y/\∃L1 Y1 L2 Y2,g x L Y=.ok L1 Y1/\fb L1 Y1=.next L2 Y2/\J r L2 Y2) :
  ∀{xs:List D}{L:Ro}{Y:aw},J xs L Y->∃L' Y',J [] L' Y'/\fH src g fb xs L Y=.next L' Y'
 |[],L,Y,h=>⟨L,Y,h,by unfold fH;rw[Ow (fin L Y h)]⟩
 |x::xs,L,Y,h=>by
  obtain⟨ho,L1,Y1,L2,Y2,e1,e2,h2⟩:=step x xs L Y h;obtain⟨L',Y',h3,e3⟩:=k8 J fin step h2;refine⟨L',Y',h3,?_⟩;unfold fH;rw[Ow ho,e1];dsimp[ae];rw[e2];exact e3
end ρ2
namespace ρ2
open PySem PySem.Spec PyProof.Rows RS
theorem MJ{ps:List Str}(F:gf K x qual st f fd)(S:aR N ps (aq st))(hn:ps.length=n)(body : ∀ (cdv : Value) (A : Around) (outer : List Env) (s : Shared) (H : Hp) (E : XK), dF k (A.deeper (envOfC qual (aq st) 0e3 f cdv)) ->
   Bx (ja (pY xK P w K mg base N qual (aq st) f cdv A outer s H E).nox (bD st) (gu p fb))):j6 P w K mg base xK (k+1) f fd ps (Ey p n (iq n N.length fb)):=by
 refine F.ok S (fun vs H Q E h=>h.1.trans hn.symm) fun cdv A outer s H vs Q E hr h=>?_;refine⟨_,(body cdv A outer s H E hr).h,?_⟩;obtain⟨hl,Z,ds,Y,S1,R1,P1⟩:=h;unfold iq at P1;have hd:ds.length=n:=by rw[<- R1.length];exact hl
 rw[Ow hd]at P1;have P2:=pK S1 P1;unfold start;rw[hl];refine⟨Z,_,Y,S1,jO R1 _,?_⟩;cases e:fb (ds.map some++List.replicate (N.length-n) none) Y with
 |ret d Y'=>rw[e]at P2;exact fun H' Z' v x s r=>P2 H' Z' x s v r
 |next L Y'=>rw[e]at P2;exact fun H' Z' B' x s r=>P2 H' Z' x s .non (bC.mpr rfl)
 |exc x Y'=>rw[e]at P2;exact P2
 |brk L Y'=>rw[e]at P2;exact P2.elim
 |cnt L Y'=>rw[e]at P2;exact P2.elim
 |bad=>rw[e]at P2;exact P2.elim
theorem sM{K:W.Frag}{H:Hp}{Z:List Addr}:∀ns:List Int,Reps K H Z (ns.map D.int) (ns.map V.int)
 |[]=>by dsimp[Qi,Reps]
 |n::ns=>by
  dsimp[Qj,Reps];exact⟨_,_,rfl,ar.mpr rfl,sM ns⟩
theorem D5{E:XK}(hF:∃Y',F [.frz (ns.map D.int)] []=.ok (.bl true) Y')(hO:EY H)(hS:fG K H a (ns.map V.int)):
  Ey 3e1 1 F [.ref a] H (fun v _=>v=.bl true) E:=by
 obtain⟨Y',e⟩:=hF
 have fz:Hl K H a (ns.map V.int):=by
  rcases hS with (h|h)|h
  ·rcases hO a with z | ⟨o, xs, z⟩
   ·rw[h]at z;cases z
   ·rw[h]at z;cases z
  ·exact .inl h
  ·exact .inr h
 refine⟨rfl,[],[.frz (ns.map D.int)],[],⟨rfl,RD,fun n o a h=>by simp at h⟩,?_,?_⟩
 ·dsimp[Reps];exact⟨_,_,rfl,bo.mpr ⟨a,_,rfl,fz,sM ns⟩,rfl⟩
 ·rw[e];exact fun H' Z' x s v r=>aV.mp r
section
variable{X:Cx}
def t9:D->Bool
 |.tup _=>true
 |.frz _=>true
 |.obj _=>true
 |_=>false
theorem yF(h:t9 d=true)(r:aN K H Z d v):∃a,v=.ref a:=by
 cases d with
 |tup xs=>obtain⟨a,us,rfl,_⟩:=aC.mp r;exact⟨a,rfl⟩
 |frz xs=>obtain⟨a,us,rfl,_⟩:=bo.mp r;exact⟨a,rfl⟩
 |obj n=>obtain⟨a,rfl,_⟩:=aM.mp r;exact⟨a,rfl⟩
 |_=>cases h
theorem r9:seqSlot? (.type "list") (dunderI "add")=pure (some (.builtin "list.__iadd__")):=PySem.seqSlot_of SZ.lookup 0e8
theorem mw{M:Model}{a b:Value}(ha:s.TypeIs a "list")(hb:s.TypeIs b "list")(hc:wpAny M A (call (.builtin "list.__iadd__") [a,b]) Q E s):wpAny M A (inplaceOp .Add a b) Q E s:=by
 unfold inplaceOp;refine O0 ?_
 have hfi:fillsInplaceSlot (.type "list") "add" (Operator.Add == .Add)=pure false:=by
  unfold fillsInplaceSlot;show (typeLookup (.type "list") (dunderI "add") >>= fun fi=>pure (fi.isSome && !isSeqSlot fi))=pure false;rw[SZ.lookup];rfl
 refine OZ (Qf ha (OZ (Q0 hfi ?_)));show wpAny M A (if false=true then _ else _) Q E s;rw[Ox O3];refine OZ (wpAny_binaryOp1_none (nm:="add") ha hb noFill_list_add ?_);refine OZ (Q0 r9 ?_);exact OZ (QN hc)
def HE:K9:=fun x y H Q=>(∃i j,x=.int i/\y=.int j/\Q (.int (i+j)) H) \/
 ∃l b xs zs,x=.ref l/\y=.ref b/\H l=some 2e6/\H b=some (.lst zs)/\xs.length+zs.length<=sizeLine/\Q (.ref l) (bq H l (.lst (xs++zs)))
theorem GR:Nd X .Add HE:=by
 intro pins s B H x y v u Q I r1 r2 h;rcases h with h|h
 ·exact Ko pins s B H x y v u Q I r1 r2 h
 ·obtain ⟨l, b, xs, zs, rfl, rfl, hH, hB, hz, q⟩ := h;cases r1;cases r2;obtain⟨z,its,n,r,hl,e⟩:=I.lstM hH;obtain⟨z2,its2,n2,r2,hl2,e2⟩:=I.lstM hB;have hsz:its.toArray.size+its2.toArray.size<=sizeLine:=by rw[Pg,Pg];omega
  have hlong:¬ (!its.toArray.isEmpty&&Builtin.List.listTooLong (its.toArray.size+its2.toArray.size))=true:=by
   rw[qx hsz,Qx];exact O3
  refine mw ⟨_,e,rfl⟩ ⟨_,e2,rfl⟩ ?_
  refine Qv SZ ⟨_,e,rfl⟩ F.entry_list_iadd (F.args_list_iadd_2 _ _)
   (AutoSeq1.list___iadd___list_list_0 l 2e3 n b its2.toArray n2 hlong (by rw[Pg];omega) 0e1) ⟨e,e2,?_⟩
  refine⟨.ref l,_,I.lset (its':=its++its2) hH e 1e1 (r.append r2) ?_,rfl,q⟩;rw[PB];omega
def vJ(a b:D)(Y:aw):aj D:=match a,b with
 |.int i,.int j=>.ok (.int (i+j)) Y
 |.obj m,.obj n=>match Y[m]?,Y[n]? with
  |some 2e6,some (.lst ys)=>if xs.length+ys.length<=sizeLine then .ok (.obj m) (Y.set m (.lst (xs++ys))) else .bad
  |_,_=>.bad
 |_,_=>.bad
theorem Gz:rO p vJ HE:=by
 intro a b v y H Z Y Q S ra rb P;unfold vJ at P;split at P
 ·rename_i i j;obtain rfl:=ar.mp ra;obtain rfl:=ar.mp rb;exact .inl ⟨i,j,rfl,rfl,P.now S _ (ar.mpr rfl)⟩
 ·rename_i m n;split at P
  ·rename_i xs ys hx hy;split at P
   ·rename_i hb;obtain⟨a,us,rfl,a1,h1,rr⟩:=cH S ra hx;obtain⟨a',us',rfl,a1',h1',rr'⟩:=cH S rb hy;have q:=rr.append rr';exact .inr ⟨a,a',us,us',rfl,rfl,h1,h1',by rw[rr.length,rr'.length];exact hb,P _ _ (iX h1) (S.put hx a1 h1 q) _ (aM.mpr ⟨a,rfl,a1⟩)⟩
   ·exact P.elim
  ·exact P.elim
 ·exact P.elim
theorem ρ9{f:ME}(i:Nat)(hN:X.N.Nodup)(he:Bx (PE X e (tD p f)))(hi:X.N[i]?=some x:=by rfl)(hx:Ag X.env.scope x:=by first|exact Or.inl rfl|exact Or.inr rfl)(hf:X.fn x=true\/X.env.scope.names.lookup x=some .local:=by first|exact .inl rfl|exact .inr rfl):
  Bx (PS X (.AugAssign (.Name x pos') .Add e pos) (gu p (BQ i vJ f))):=⟨IR hN hi hx he.h GR Gz hf⟩
def ie(d:D)(ds:List D)(Y:aw):aj D:=match d,ds with
 |.obj m,[.obj n]=>match Y[m]?,Y[n]? with
  |some 2e6,some (.lst ys)=>if xs.length+ys.length<=sizeLine then .ok .non (Y.set m (.lst (xs++ys))) else .bad
  |_,_=>.bad
 |_,_=>.bad
theorem GC:KZ p ie zB:=by
 intro d ds v vs H Z Y Q S rd rs P;unfold ie at P;split at P
 ·rename_i m n;split at P
  ·rename_i xs ys hx hy;split at P
   ·rename_i hb;obtain⟨a,us,rfl,a1,h1,rr⟩:=cH S rd hx;obtain⟨w,rfl,rw'⟩:=rs.one;obtain⟨a',us',rfl,a1',h1',rr'⟩:=cH S rw' hy;have q:=rr.append rr';exact⟨a,a',us,us',rfl,rfl,h1,h1',by rw[rr.length,rr'.length];exact hb,P _ _ (iX h1) (S.put hx a1 h1 q) _ (bC.mpr rfl)⟩
   ·exact P.elim
  ·exact P.elim
 ·exact P.elim
def Aq(neg:Bool)(a b:D)(Y:aw):aj D:=match a,b with
 |.str x,.str y=>.ok (.bl (if neg then !decide (x=y) else decide (x=y))) Y
 |_,_=>.bad
theorem Fl{y:Str}:decide (V.str x=V.str y)=decide (x=y):=by
 by_cases e:x=y
 ·subst e;simp
 ·rw[Ot e,Ot];intro z;cases z;exact e rfl
theorem JW:rO p (Aq true) Nt:=by
 intro a b v y H Z Y Q S ra rb P;unfold Aq at P;split at P
 ·rename_i x z;obtain rfl:=bh.mp ra;obtain rfl:=bh.mp rb;exact⟨rfl,by rw[Fl];exact P.now S _ (aV.mpr rfl)⟩
 ·exact P.elim
theorem Mw:pk X p .NotEq (Aq true):=⟨Nt,Mp,JW⟩
end
end ρ2
namespace ρ2
open PySem PySem.W PyProof.Rows RS
theorem Oa{Z:Type}{P:List Z->Prop}(h:∀a,P [a]):∀us:List Z,us.length=1->P us
 |[a],_=>h a
theorem us2{Z:Type}{P:List Z->Prop}(h:∀a b,P [a,b]):∀us:List Z,us.length=2->P us
 |[a,b],_=>h a b
theorem N9{Z:Type}{P:List Z->Prop}(h:∀a b c,P [a,b,c]):∀us:List Z,us.length=3->P us
 |[a,b,c],_=>h a b c
theorem gf.b1{ps:List Str}(F:gf K x qual st f fd)(hl:ps.length=1)(h:∀(kV doc pm:Value)(an:Option Addr)(cdv ct a:Value),bindArgs 1e6 ⟨[a],[]⟩=pure (ps.zip [a])):dM K fd ps []:=
 F.binds fun kV doc pm an cdv ct us e=>Oa (P:=fun us=>bindArgs 1e6 ⟨us,[]⟩=pure (ps.zip us)) (fun a=>h kV doc pm an cdv ct a) us (e.trans hl)
theorem gf.b2{ps:List Str}(F:gf K x qual st f fd)(hl:ps.length=2)(h:∀(kV doc pm:Value)(an:Option Addr)(cdv ct a b:Value),bindArgs 1e6 ⟨[a,b],[]⟩=pure (ps.zip [a,b])):dM K fd ps []:=
 F.binds fun kV doc pm an cdv ct us e=>us2 (P:=fun us=>bindArgs 1e6 ⟨us,[]⟩=pure (ps.zip us)) (fun a b=>h kV doc pm an cdv ct a b) us (e.trans hl)
theorem gf.b3{ps:List Str}(F:gf K x qual st f fd)(hl:ps.length=3)(h:∀(kV doc pm:Value)(an:Option Addr)(cdv ct a b c:Value),bindArgs 1e6 ⟨[a,b,c],[]⟩=pure (ps.zip [a,b,c])):dM K fd ps []:=
 F.binds fun kV doc pm an cdv ct us e=>N9 (P:=fun us=>bindArgs 1e6 ⟨us,[]⟩=pure (ps.zip us)) (fun a b c=>h kV doc pm an cdv ct a b c) us (e.trans hl)
end ρ2
namespace ρ2
open PySem PySem.Spec PyProof.Rows RS
section
variable{X:Cx}{d:Nat}
theorem GE {X:Cx}:Nv X (newSet (.type "set")) (fun a=>.ext fun h=>bS X.w h a []):=fun pins s B H Q I h=>by
 unfold newSet setsByText;dsimp[bind_assoc,pure_bind];refine OZ (QM ?_)
 try dsimp only
 dsimp[newObj];refine OZ (wpAny_alloc (O5 ?_));have hS:bS X.w (s.heap.push {cls:=.type "set",dict:=none,data:=.set #[] 0 (.fresh 0 0 (lL X.w))}) 0e3 []:=kz (Oy _ rfl);refine h _ (I.laid (t':=s.toks) (fun b o e=>O8 _ e) (O9 _) ⟨hS,⟨_,Oy _ rfl⟩,fun h1 h2 g k=>g.keeps k⟩) (fun b o e=>O8 _ e) ?_;show s.heap.objs.size<(s.heap.push _).objs.size;rw[QI];exact QG _
def Ct(K:W.Frag)(w:World)(te:TE)(acc:Addr):EL:=fun B H N=>te B H fun y H4=>∃(r:Addr)(k:List Int)(ps:List KP),y=.ref r/\H4 acc=some (.ext fun h=>bS w h acc ps)/\k∈prs/\eK K H4 r (k.map V.int)/\(∀p∈ps,eK K H4 p.2 (p.1.map V.int)) /\
 N B (bq H4 acc (.ext fun h=>bS w h acc (iA ps k r)))
theorem A1(hg:gens[d]?=none)(hxe:X.xe=y6)(hu:X.A.units+64<cLine)(hel:PE X elt te):EN X (.SetComp elt gens scope pos) d acc (Ct X.K X.w te acc):=by
 intro pins s B H N I h;unfold mG;show (match gens[d]? with|some g=>_|none=>_:Prop);rw[hg];show wpAny _ _ (do let v <- eval elt 1e2;standAt elt.pos;let _ <- call (.builtin "set.add") [.ref acc,v]) _ _ _;have z:=hel pins s B H _ I h;rw[hxe]at z;refine OZ (dh z fun v10 s10 ⟨y,H10,I10,r10,r,k,ps,ey,hacc,hk,hr,hps,nn⟩=>?_);subst ey;cases r10;refine OZ (O1 (OZ ?_));obtain⟨hS,_⟩:=(show cf X.prog X.w H10 s10.heap acc (.ext fun h=>bS X.w h acc ps) from I10.hok acc _ hacc);obtain⟨o,es,ep,t,α,S0,k1,k2⟩:=id hS
 have hin:X.A.in1.units<cLine:=by
  have:X.A.in1.units<=X.A.units+1:=by first|exact QB rfl|exact QB (units_in1 _)|exact Nat.le_succ_of_le (QB (units_in1 _))
  omega
 have tps:∀q∈ps,Tk X.prog X.w s10.heap q.1 q.2:=fun q hq=>sx I10 (hps q hq);have tr:Tk X.prog X.w s10.heap k r:=sx I10 hr;refine Qc F.slot_set_add ⟨o,S0.ho,S0.ex.1⟩ F.entry_set_add ?_ (F.args_set_add_2 _ _);unfold Builtin.«set.add» Builtin.Frozenset.oneOther;dsimp[List.isEmpty_nil,bind_assoc];unfold Builtin.Frozenset.addrOf setAdd;refine OZ (O5 ?_)
 try dsimp only
 refine OZ (O5 ?_)
 try dsimp only
 refine OZ (O0 ?_);refine OZ (wpAny_pyHash_tuple hin (sx I10 hr) ?_);rw[CQ];refine Cm (s:={s10 with toks:=s10.toks+(k.length+1)}) hS hk tr tps hin fun b h' hsb hS2=>?_;show wpAny _ _ (ret Value.none) _ _ _;refine O5 ⟨_,rfl,O5 ⟨_,_,?_,nn⟩⟩;refine I10.write (x:=acc) (e:=acc) (by rw[hacc];exact trivial) (.inl rfl) (fun b' u hb hu=>(hsb.2 b' hb).trans hu) ?_ ⟨hS2,?_,fun h1 h2 g k=>g.keeps k⟩
 ·obtain⟨o',_,_,_,_,S',_⟩:=hS2;exact⟨o',S'.ho⟩
 ·obtain⟨o',_,_,_,_,S',_⟩:=hS2;exact⟨o',S'.ho⟩
variable{cl0:Comprehension}{rest:List Comprehension}{cap:List (Option Nat)}{wi:TI}{g:TG}{tt:TT}{tb:Addr->EL}
theorem DJ(hc:X.calm=true)(hz:∀g∈cl0::rest,g.is_async=0)(S:bQ X.N 1e2 scope Nc cap)(hi:PI X cl0.target cl0.iter wi)
  (hg:∀cl C s H fp,PG 0e9 cl0.target g) (ht:∀cl C s H fp,vg 0e9 cl0.ifs tt) (hb:∀cl C s H fp acc,EN 0e9 (.SetComp elt (cl0::rest) scope pos) 1 acc (tb acc))
  (hs:∀x,foldedSetIterable cl0.iter 1e2 x=pure x):PE X (.SetComp elt (cl0::rest) scope pos) (nG (fun a=>.ext fun h=>bS X.w h a []) wi cap g tt tb):=by
 intro pins s B H Q I h;have h0:=hz cl0 OJ;obtain⟨tg0,it0,if0,as0⟩:=cl0;have h0':as0=0:=h0;subst h0';rw[arm_eval_SetComp];refine nX (e:=.SetComp elt (_::rest) scope pos) (Q:=Q) rfl hz rfl GE hc S hi hg ht hb I h (fun C acc s' H' I' hf hn q=>?_) hs;obtain⟨m,hn⟩:=hn;refine⟨m,hn,fun h' sb=>⟨.ref acc,H',?_,rfl,q⟩⟩;exact I'.turned (t':=s'.toks) (it:=C) (fun b o hb e=>(sb.2 b hb).trans e) hf.1 hf.2.1 hf.2.2.2.1 hf.2.2.2.2.1 hf.2.2.2.2.2
end
section
theorem wO{p:Addr}{o:HO}(h:H p=some (.ext φ)):kY K H (bq H p o) Z Z:=by
 refine⟨fun a xs q=>?_,fun a xs q=>?_,fun _ _ z=>z,fun a fs q=>by rw[aD (oF q h (by intro z;cases z))];exact q⟩
 ·rcases q with (q | ⟨x, q⟩) | q
  ·exact .inl (.inl (by rw[aD (oF q h (by intro z;cases z))];exact q))
  ·exact .inl (.inr ⟨x,by rw[aD (oF q h (by intro z;cases z))];exact q⟩)
  ·exact .inr q
 ·rcases q with ⟨x, q⟩ | q
  ·exact .inl ⟨x,by rw[aD (oF q h (by intro z;cases z))];exact q⟩
  ·exact .inr q
theorem tN(S:dR K w H Z Y){ks':List 2e5}{ho:HO}(h1:Y[n]?=some (.set ks))(h2:Z[n]?=some a)(h3:H a=some (.ext φ))(q:rV K w (bq H a ho) Z (.set ks') a):dR K w (bq H a ho) Z (Y.set n (.set ks')):=by
 have e:=wO (K:=K) (Z:=Z) (o:=ho) h3;refine⟨by simp[S.len],S.nd,fun m o b g1 g2=>?_⟩;have hn:n<Y.length:=(OQ.mp h1).1;by_cases hm:m=n
 ·subst hm;rw[OS hn]at g1;cases g1;rw[h2]at g2;cases g2;exact q
 ·rw[OT (fun z=>hm z.symm)]at g1;refine(S.ob m o b g1 g2).mono e (aD fun z=>hm ?_);subst z;obtain⟨l1,e1⟩:=OQ.mp g2;obtain⟨l2,e2⟩:=OQ.mp h2;exact(OR S.nd).mp (e1.trans e2.symm)
end
def EW(n:Nat)(y:D)(Y:aw):aj Unit:=match Y[n]?,y with
 |some (.set ks),.tup [.int a,.int b]=>if [a,b]∈prs then .ok () (Y.set n (.set (lX ks [a,b]))) else .bad
 |_,_=>.bad
theorem Ex{ps:List KP}{k:List Int}{r:Addr}:(iA ps k r).map 2e4=lX (ps.map 2e4) k:=by
 unfold iA lX;split <;> simp
theorem Hf{y:D}{R:Unit->aw->Hp->List Addr->Prop}(S:p.S H Z Y)(ha:Z[n]?=some acc)(rv:p.R H Z y v)(P:aA p H Z (EW n y Y) R):
  ∃(r:Addr)(k:List Int)(ps:List KP),v=.ref r/\H acc=some (.ext fun h=>bS p.w h acc ps)/\k∈prs/\eK p.K H r (k.map V.int)/\(∀q∈ps,eK p.K H q.2 (q.1.map V.int)) /\
   ∃Y',p.X H (bq H acc (.ext fun h=>bS p.w h acc (iA ps k r))) Z Z/\p.S (bq H acc (.ext fun h=>bS p.w h acc (iA ps k r))) Z Y'/\R () Y' (bq H acc (.ext fun h=>bS p.w h acc (iA ps k r))) Z:=by
 unfold EW at P;split at P
 ·rename_i ks a b hx;split at P
  ·rename_i hk;obtain⟨acc',ea,ps,e1,e2,e3,e4,e5⟩:=S.at hx;rw[ha]at ea;cases ea;obtain⟨r,vs,rfl,h1,rr⟩:=aC.mp rv;have hvs:vs=[a,b].map V.int:=Reps.ints (ns:=[a,b]) rr;subst hvs;have x1:p.X H (bq H acc (.ext fun h=>bS p.w h acc (iA ps [a,b] r))) Z Z:=wO e2
   have q:rV p.K p.w (bq H acc (.ext fun h=>bS p.w h acc (iA ps [a,b] r))) Z (.set (lX ks [a,b])) acc:=by
    refine⟨iA ps [a,b] r,by rw[Ex,e1],aH,fun q hq=>?_,qV e4,fun q hq=>?_⟩
    ·rcases qJ hq with z | z
     ·exact e3 q z
     ·subst z;exact hk
    ·rcases qJ hq with z | z
     ·exact x1.tup _ _ (e5 q z)
     ·subst z;exact x1.tup _ _ h1
   exact⟨r,[a,b],ps,rfl,e2,hk,h1,e5,_,x1,tN S hx ha e2 q,P _ _ x1 (tN S hx ha e2 q)⟩
  ·exact P.elim
 ·exact P.elim
def zg(e:ME):MB:=fun n L Y=>(e L Y).nox.bind fun y Y1=>(EW n y Y1).bind fun _ Y2=>.ok L Y2
def ue(fi:MI)(cap:List (Option Nat))(g:MG)(t:MT)(fb:MB):ME:=fun L Y=>(fi L Y).bind fun src Y1=>(kg src Y1.length g t fb src.items (fJ cap L) (Y1++[.set []])).bind fun _ Y2=>.ok (.obj Y1.length) Y2
section
theorem yI{e:ME}{N:St->Hp->Prop}(h:K4 p (zg e) acc B H N):Ct p.K p.w (tD p.nx e) acc B H N:=by
 obtain⟨Z,L,Y,n,S,R,a,P⟩:=h;refine⟨Z,L,Y,S,R,(fB P).imp fun y Y6 H6 Z6 X6 S6 P6 v rv=>?_⟩;obtain⟨r,k,ps,e1,e2,e3,e4,e5,Y7,x7,s7,q7⟩:=Hf (p:=p) S6 (X6.pre _ _ a) rv (aA.bind P6);exact⟨r,k,ps,e1,e2,e3,e4,e5,q7.now s7 B ((R.mono X6).mono x7)⟩
theorem yL{cap:List (Option Nat)}{g:MG}{t:MT}{fb:MB}{Q:VK}(h:tD p (ue fi cap g t fb) B H Q):nG (fun a=>.ext fun h=>bS p.w h a []) (vk p fi) cap (rL p.nx g) (iT p.nx t) (fun acc=>K4 p.nx fb acc) B H Q:=by
 obtain⟨Z,L,Y,S,R,P⟩:=h;refine⟨Z,L,Y,S,R,(aA.bind P).imp fun src Y1 H1 Z1 X1 S1 P1 J hok hJ acc hacc=>?_⟩;have x1:p.X H1 (bq H1 acc (.ext fun h=>bS p.w h acc [])) Z1 (Z1++[acc]):=(bx hacc).trans (gJ [acc]);have s1:p.S (bq H1 acc (.ext fun h=>bS p.w h acc [])) (Z1++[acc]) (Y1++[.set []]):=S1.more hacc ⟨[],rfl,aH,nofun,RD,nofun⟩;have hn:(Z1++[acc])[Y1.length]?=some acc:=by rw[<- S1.len];simp
 refine yE (p:=p) x1 s1 (((R.mono X1).cap cap).mono x1) hn hJ ((aA.from x1 (aA.bind P1)).imp fun L' Y' H' Z' X' S' P' B' r'=>?_);exact P'.now S' _ (aM.mpr ⟨acc,rfl,X'.pre _ _ hn⟩)
variable{X:Cx}{ifs:List Expr}{rest:List Comprehension}{cap:List (Option Nat)}{g:MG}{tt:MT}{te:ME}{mb:MB}{d:Nat}
theorem MQ(hg:gens[d]?=none)(hu:X.A.units+64<cLine)(hel:Bx (PE X elt (tD p.nx te)))(hxe:X.xe=y6:=by rfl)(hK:X.K=p.K:=by rfl)(hw:X.w=p.w:=by rfl):Bx (EN X (.SetComp elt gens scope pos) d acc (K4 p.nx (zg te) acc)):=
 ⟨fun pins s B H N I h=>A1 hg hxe hu hel.h pins s B H N I (by rw[hK,hw];exact yI (p:=p.nx) h)⟩
theorem Fc(S:bQ X.N 1e2 scope Nc cap)(hi:Bx (PI X tg iter (vk p fi)))(hg:∀cl C s H fp,Bx (PG 0e9 tg (rL p.nx g)))(ht:∀cl C s H fp,Bx (vg 0e9 ifs (iT p.nx tt)))(hb:∀cl C s H fp acc,Bx (EN 0e9 (.SetComp elt (⟨tg,iter,ifs,0⟩::rest) scope pos) 1 acc (K4 p.nx mb acc)))(hz:Aa (⟨tg,iter,ifs,0⟩::rest)=true:=by rfl)(hc:X.calm=true:=by rfl)(hs:∀x,foldedSetIterable iter 1e2 x=pure x:=by intro _;rfl)(hw:X.w=p.w:=by rfl):Bx (PE X (.SetComp elt (⟨tg,iter,ifs,0⟩::rest) scope pos) (tD p (ue fi cap g tt mb))):=
 ⟨(DJ (cl0:=⟨tg,iter,ifs,0⟩) hc (Fi hz) S hi.h (fun cl C s H fp=>(hg cl C s H fp).h) (fun cl C s H fp=>(ht cl C s H fp).h) (fun cl C s H fp acc=>(hb cl C s H fp acc).h) hs).weak fun B H Q h=>by rw[hw];exact yL h⟩
end
theorem AW(its:List Value):slicePick 2e3 none none (some (-1))=its.reverse.toArray:=by
 unfold slicePick
 have hb:sliceBounds none none (some (-1)) its.toArray.size=((its.toArray.size:Int)-1,-1,-1):=by
  simp[sliceBounds]
 rw[hb];dsimp only
 have hr:sliceRange ((its.toArray.size:Int)-1) (-1) (-1)=(List.range its.toArray.size).map fun m:Nat=>(((its.toArray.size:Int)-1)+(m:Int)*(-1)).toNat:=by
  unfold sliceRange
  have hc:(if (-1:Int)>0 then if (its.toArray.size:Int)-1 < -1 then (-1-((its.toArray.size:Int)-1)+-1-1) / -1 else 0 else if (its.toArray.size:Int)-1 > -1 then ((its.toArray.size:Int)-1 - -1 - -1-1) / - -1 else 0)=(its.toArray.size:Int):=by
   rw[Ox 0e4];split
   ·rw[show-(-1:Int)=1 from rfl,Int.ediv_one];omega
   ·omega
  dsimp[hc,PN];apply Ra;intro m _;congr 1;omega
 rw[hr,PY];exact wj 2e3
def LP(K:W.Frag)(te ts:TE):TE:=fun B H Q=>te B H fun x H1=>ts B H1 fun y H2=>y=.int (-1)/\∃a xs,x=.ref a /\
 ((eK K H2 a xs/\∀p,H2 p=none->Q (.ref p) (bq H2 p (.tup xs.reverse)))\/(fG K H2 a xs/\∀p,H2 p=none->Q (.ref p) (bq H2 p (.lst xs.reverse))))
theorem Gc{X:Cx}{st:Expr}{ts:TE}(he:PE X e te)(hs:PE X st ts):PE X (.Subscript e (.Slice none none (some st) p2) pos) (LP X.K te ts):=by
 intro pins s B H Q I h;refine Subscript_ (dh (he pins s B H _ I h) fun v s1 ⟨x,H1,I1,r1,q1⟩=>?_);refine wpAny_Slice ?_;rw[evalPart_none];refine O5 (O5 ?_);rw[evalPart_some];refine dh (hs pins s1 B H1 _ I1 q1) fun vs s3 ⟨y,H3,I3,r3,q3⟩=>?_;obtain⟨rfl,a,xs,rfl,hq⟩:=q3;obtain⟨tk,rfl⟩:=r3;cases r1;have I4:aS X pins B H3 {s3 with heap:=s3.heap.push {cls:=.type "slice",data:=.fields #[.none,.none,.int (-1) tk]}}:=I3.kept (t':=s3.toks) fun b ob q=>O8 _ q;show wpAny 0e7 X.A (subscriptTail e (.Slice none none (some st) p2) (.ref a) (.ref s3.heap.objs.size)) (EP X pins B Q) X.xe {s3 with heap:=s3.heap.push {cls:=.type "slice",data:=.fields #[.none,.none,.int (-1) tk]}};have hsl:=Qk s3.heap .none .none (.int (-1) tk);rcases hq with⟨hx,q⟩|⟨hx,q⟩
 ·obtain⟨its,r,ht,hz⟩:=I4.tuple hx;refine tail_any (ops:=[.ref a,.ref s3.heap.objs.size]) ht.typeIs Qb.lookup ?_ (by with_unfolding_all rfl);refine nv ht (Qk ..) ?_ (by rw[Pg,<- r.length];exact hz);generalize {s3 with heap:=s3.heap.push {cls:=.type "slice",data:=.fields #[.none,.none,.int (-1) tk]}}=s5 at I4 ht;refine⟨.ref s5.heap.objs.size,_,I4.laid (t':=s5.toks) (o:=.tup xs.reverse) (fun b ob q=>O8 _ q) (O9 _) ?_,rfl,q _ (I4.hok.fresh (O9 _))⟩;exact⟨by rw[S7];exact hz,its.reverse,r.reverse,jd.new _ _⟩
 ·obtain⟨its,r,ht,hz⟩:=I4.list hx;refine tail_any (ops:=[.ref a,.ref s3.heap.objs.size]) ht.isList.typeIs Ql.lookup ?_ (by with_unfolding_all rfl);refine wpAny_getItem_list_slice ht.isList (Qk ..) .none .none (.int (-1) tk) 1e1 ?_ (by rw[Pg,<- r.length];exact hz);rw[AW];generalize {s3 with heap:=s3.heap.push {cls:=.type "slice",data:=.fields #[.none,.none,.int (-1) tk]}}=s5 at I4 ht;refine⟨.ref s5.heap.objs.size,_,I4.laid (t':=s5.toks) (o:=.lst xs.reverse) (fun b ob q=>O8 _ q) (O9 _) ?_,rfl,q _ (I4.hok.fresh (O9 _))⟩;exact⟨by rw[S7];exact hz,its.reverse,0,r.reverse,Oy _ rfl⟩
def sC(a b:D)(Y:aw):aj D:=match a,b with
 |.tup xs,.int i=>if i=-1 then .ok (.tup xs.reverse) Y else .bad
 |.obj n,.int i=>match Y[n]? with
  |some 2e6=>if i=-1 then .ok 1e9 (Y++[.lst xs.reverse]) else .bad
  |_=>.bad
 |_,_=>.bad
theorem Iu{X:Cx}{st:Expr}{fs:ME}(he:Bx (PE X e (tD p fa)))(hs:Bx (PE X st (tD p fs)))(hK:X.K=p.K:=by rfl):Bx (PE X (.Subscript e (.Slice none none (some st) p2) pos) (tD p (aK sC fa fs))):=
 ⟨(Gc he.h hs.h).weak fun B H Q ⟨Z, L, Y, S, R, P⟩ => ⟨Z, L, Y, S, R, (aA.bind P).imp fun x Y1 H1 Z1 X1 S1 P1 v rv => ⟨Z1, L, Y1, S1, R.mono X1, (aA.bind P1).imp fun y Y2 H2 Z2 X2 S2 P2 u ru => by
   rw[hK];unfold sC at P2;split at P2
   ·rename_i xs i;split at P2
    ·rename_i hi;subst hi;obtain⟨a,us,rfl,h1,r1⟩:=aC.mp (rv.mono X2);exact⟨ar.mp ru,a,us,rfl,.inl ⟨h1,fun q hq=>P2 _ _ (bx hq) (S2.tuple hq) _ (aC.mpr ⟨q,_,rfl,eK.of aH,r1.reverse.mono (bx hq)⟩)⟩⟩
    ·exact P2.elim
   ·rename_i n i;split at P2
    ·rename_i xs hx;split at P2
     ·rename_i hi;subst hi;obtain⟨a,rfl,h1⟩:=aM.mp (rv.mono X2);obtain⟨a',ea,vs,hH,rr⟩:=S2.at hx;have eaa:a=a':=Oq (h1.symm.trans ea);subst eaa;refine⟨ar.mp ru,a,vs,rfl,.inr ⟨.inl (.inl hH),fun q hq=>?_⟩⟩;obtain⟨x1,s1,r1⟩:=dA S2 hq rr.reverse;exact P2 _ _ x1 s1 _ r1
     ·exact P2.elim
    ·exact P2.elim
   ·exact P2.elim⟩⟩⟩
section
variable{X:Cx}
theorem Hq{fo:ME}(ho:Bx (PE X ob (tD p fo)))(ha:Bx (PA X [e] (j7 p fr)))(hbase:attributeBase ob "extend" X.env (eval ob 1e2)=eval ob 1e2:=by rfl)(hfew:((backTo pos (starEach [e] 1e2)).all (fun x=>!x.1)&&(backToKw pos (keywordEach [] 1e2)).all (fun x=>x.1.isSome)
   && decide 3e5)=true:=by rfl)(hline:(apos.endLine == pos.line)=true:=by rfl)(hs:starEach [e] 1e2=(false,eval e 1e2)::starEach [] 1e2:=by rfl)(hpl:(backTo pos (starEach [] 1e2)).any 2e4=false:=by rfl)(hK:X.K=p.K:=by rfl):Bx (PE X (.Call (.Attribute ob "extend" apos) [e] [] pos) (tD p (y4 ie fo fr))):=⟨zb hK PySem.F.slot_list_extend PySem.F.type_list_extend Ba GC ho.h ha.h hbase hfew hline hs hpl⟩
end
end ρ2
namespace PySem.W
open PySem PySem.Spec PySem.Calls PyProof.Rows Builtin Builtin.ObjectAttr
section
variable{R:Result->Shared->Prop}{K:Frag}{x:Addr}{name:Str}{v:Value}
theorem zI{od:Option Obj}(X:K.In 1e5)(I:InstAt 1e5 x ox C od)(hc:clsIn K C=some cd)(hp:∀self,refuseLoop self "__setattr__" cd.mro=pure ())(hm:mroIn K C 3e6=some true)(ht:findIn K 2e1 name=some none)(h : wpAny 0e6 A.in1 (storeInOwnDict (.ref x) 2e1 (.str name tk) name v false)
   (fun fin s'=>match fin with | .done f=>R (.ok f) s' | .again c'=>c'.quiet=true/\codeAny 0e6 A c' R s') (fun e s'=>R (.error e) s') s):
  codeAny 0e6 A (.call (.builtin "object.__setattr__") ⟨[.ref x,.str name tk,v],[]⟩) R s:=by
 have SF:=PySem.F.store_object;have sub:Looks 0e6 1e5 (isInstance (.ref x) 3e6) true:=I.type.andThen (looks_mroIn X hm);refine R7 SF.slot.plain SF.entry (@check_slot 0e6 _ _ s "object.__setattr__" "object" "__setattr__" (.ref x) [.str name tk,v] [] _ SF.kind SF.split sub (SF.args (.ref x) (.str name tk) v) ?_);have hm2:Looks 0e6 1e5 (mroOf 2e1) cd.mro:=(looks_clsIn X hc).andThen .now;rw[osa_eq,refuse_eq];refine OZ (OZ (I.type.here (OZ (hm2.here ?_))));rw[hp];exact O5 (OZ (I.type.here (OZ ((SG X ht).here (OZ (Looks.now.here h))))))
theorem AC{Q:Fin->Shared->Prop}(X:K.In 1e5)(hx:s.heap.get? x=some ox)(hC:ox.cls=.ref C)(hd:ox.dict=none)(hnc:notCls ox=true)(hc:clsIn K C=some cd)(hdc:cd.hasDict=true)(hq:∀h',h'.get? x=some {ox with dict:=some 0e3}->h'.Ns1 0e3 (fun y=>if y=name then some v else none)->(∀b o,b≠x->s.heap.get? b=some o->h'.get? b=some o)->∀tk',Q (.done (.ret .none)) {s with heap:=h',toks:=tk'}):
  wpAny 0e6 A (storeInOwnDict (.ref x) 2e1 (.str name tk) name v b) Q E s:=by
 obtain⟨hh,g,d,t,os⟩:=s;obtain⟨oc,od,odt,osl⟩:=ox;dsimp only at hC hd;subst hC hd;have hxs:x≠hh.objs.size:=OD (OA hx);have Lc:=looks_clsIn (M:=model prog w) X hc;unfold storeInOwnDict;refine OZ (O5 ?_);rw[Ox 1e1];refine OZ ?_;show wpAny _ _ (instanceDict x true) _ _ _;unfold instanceDict;refine OZ (wpAny_loadPart hx ?_);refine OZ (Lc.here ?_);rw[hdc,Ox 0e4];dsimp only;rw[Ox (show ¬ (!true || !typeHasDict (Value.ref C))=true from O3)];have hx1:(hh.push {cls:=.type "dict",data:=.dict #[]}).get? x=some ⟨.ref C,none,odt,osl⟩:=O8 _ hx
 have fin:wpAny 0e6 A (do
   let d <- alloc {cls:=.type "dict",data:=.dict #[]}
   update x fun o=>{o with dict:=some d}
   dictMade 2e1 x d) (fun a s'=>wpAny 0e6 A (match a with|some d=>storeInDict d (.str name tk) name v|none=>noDictFor (.ref x) 2e1 name b) Q E s') E ⟨hh,g,d,t,os⟩:=by
  refine OZ (wpAny_alloc' ?_);refine OZ (wpAny_update' hx1 ?_);refine O5 ?_;dsimp only
  have hgd:((hh.push {cls:=.type "dict",data:=.dict #[]}).update x fun o=>{cls:=o.cls,dict:=some hh.objs.size,data:=o.data,slots:=o.slots}).get? hh.objs.size
    = some {cls:=.type "dict",data:=.dict #[]}:=
   (Ss _ _ _ _ hxs.symm).trans (Heap.get?_push_at rfl rfl)
  have hnd:((hh.push {cls:=.type "dict",data:=.dict #[]}).update x fun o=>{cls:=o.cls,dict:=some hh.objs.size,data:=o.data,slots:=o.slots}).Ns hh.objs.size (fun _=>none):=
   ⟨_,#[],_,hgd,rfl,fun e he=>absurd he 1e1,fun _=>rfl⟩
  unfold storeInDict newKeyGuard;refine OZ (O5 (OZ (wpAny_nsSet1 (Heap.Ns1.of_empty hnd) fun h' hn' hs=>?_)));obtain⟨oD,esD,epD,hoD,hdD,hcD⟩:=hn'.count (Within.cons name v Within.nil);refine OZ (wpAny_lookBehind hoD (by rw[hdD];exact pastItsLine_dict (OG hcD (by rw[QF,Rc,Pf];omega))) ?_);refine O5 (hq h' ?_ hn' (fun b ob hbx hb=>?_) _)
  ·refine(hs.2 x hxs).trans (Qm _ hx1 ?_);have hfr:=(Heap.get?_some_iff.mp hx).2;cases odt <;> first|rfl|exact hfr
  ·exact(hs.2 b (OD (OA hb))).trans ((Ss _ _ _ _ hbx).trans (O8 _ hb))
 cases odt with
 |cls c=>cases hnc
 |_=>exact fin
theorem ye{dx:Addr}{ns:List Str}{Q:Fin->Shared->Prop}(X:K.In 1e5)(hx:s.heap.get? x=some ox)(hC:ox.cls=.ref C)(hd:ox.dict=some dx)(hne:dx≠x)(hn:s.heap.Ns1 dx mA)(hc:clsIn K C=some cd)(hdc:cd.hasDict=true)(hw:Within mA ns)(hsz:ns.length<=1000)(hq:∀h',h'.get? x=some ox->h'.Ns1 dx (fun y=>if y=name then some v else mA y)->(∀b o,b≠dx->s.heap.get? b=some o->h'.get? b=some o)->∀tk',Q (.done (.ret .none)) {s with heap:=h',toks:=tk'}):
  wpAny 0e6 A (storeInOwnDict (.ref x) 2e1 (.str name tk) name v b) Q E s:=by
 obtain⟨hh,g,d,t,os⟩:=s;obtain⟨oc,od,odt,osl⟩:=ox;dsimp only at hC hd;subst hC hd;have Lc:=looks_clsIn (M:=model prog w) X hc;unfold storeInOwnDict;refine OZ (O5 ?_);rw[Ox 1e1];refine OZ ?_;show wpAny _ _ (instanceDict x true) _ _ _;unfold instanceDict;refine OZ (wpAny_loadPart hx ?_);refine OZ (Lc.here ?_);rw[hdc,Ox 0e4];refine O5 ?_;dsimp only;unfold storeInDict newKeyGuard;refine OZ (O5 (OZ (wpAny_nsSet1 hn fun h' hn' hs=>?_)));obtain⟨oD,esD,epD,hoD,hdD,hcD⟩:=hn'.count (Within.cons name v hw);refine OZ (wpAny_lookBehind hoD (by rw[hdD];exact pastItsLine_dict (OG hcD (by rw[QF,Pf];omega))) ?_);exact O5 (hq h' ((hs.2 x hne.symm).trans hx) hn' (fun b ob hb e=>(hs.2 b hb).trans e) _)
structure SetsX(K:Frag)(C:Addr):Prop where
 sa:findIn K 2e1 "__setattr__" = some (some (.builtin "object.__setattr__"))
 obj:mroIn K C 3e6=some true
 cls:∃cd,clsIn K C=some cd/\cd.hasDict=true/\∀self,refuseLoop self "__setattr__" cd.mro=pure ()
theorem setx_one{Q:Unit->Shared->Prop}(X:K.In 1e5)(S:SetsX K C)(hf:findIn K 2e1 name=some none)(hx:s.heap.get? x=some ox)(hC:ox.cls=.ref C)(hd:ox.dict=none)(hnc:notCls ox=true)(hq:∀h',h'.get? x=some {ox with dict:=some 0e3}->h'.Ns1 0e3 (fun y=>if y=name then some v else none)->(∀b o,b≠x->s.heap.get? b=some o->h'.get? b=some o)->∀tk',Q () {s with heap:=h',toks:=tk'}):
  wpAny 0e6 A (setAttr (.ref x) name v) Q E s:=by
 obtain⟨cd,hc,hdc,hp⟩:=S.cls;have I:InstAt 1e5 x ox C none:=⟨hx,hC,hnc,by rw[hd];trivial⟩;refine set_plain X I S.sa (zI (s:={s with toks:=s.toks+1}) X I hc hp S.obj hf (AC (s:={s with toks:=s.toks+1}) X hx hC hd hnc hc hdc fun h' q1 q2 q3 tk'=>?_));exact hq h' q1 q2 q3 tk'
theorem setx_more{od:Obj}{dx:Addr}{ns:List Str}{Q:Unit->Shared->Prop}(X:K.In 1e5)(S:SetsX K C)(hf:findIn K 2e1 name=some none)(hx:s.heap.get? x=some ox)(hC:ox.cls=.ref C)(hd:ox.dict=some dx)(hnc:notCls ox=true)(hne:dx≠x)(hn:s.heap.Ns1 dx mA)(hw:Within mA ns)(hsz:ns.length<=1000)(hq:∀h',h'.get? x=some ox->h'.Ns1 dx (fun y=>if y=name then some v else mA y)->(∀b o,b≠dx->s.heap.get? b=some o->h'.get? b=some o)->∀tk',Q () {s with heap:=h',toks:=tk'}):
  wpAny 0e6 A (setAttr (.ref x) name v) Q E s:=by
 obtain⟨cd,hc,hdc,hp⟩:=S.cls;obtain⟨od,es,ep,e1,r⟩:=id hn;have I:InstAt 1e5 x ox C (some od):=⟨hx,hC,hnc,by rw[hd];exact e1⟩;refine set_plain X I S.sa (zI (s:={s with toks:=s.toks+1}) X I hc hp S.obj hf (ye (s:={s with toks:=s.toks+1}) X hx hC hd hne hn hc hdc hw hsz fun h' q1 q2 q3 tk'=>?_));exact hq h' q1 q2 q3 tk'
end
section
variable{K:Frag}{x D:Addr}{od:Option Obj}{name:Str}{v:Value}
theorem getx{expr:Bool}(X:K.In 1e5)(I:InstAt 1e5 x ox D od)(hga:findIn K (.ref D) "__getattribute__" = some (some (.builtin "BaseException.__getattribute__")))(hgn:findIn K (.ref D) "__getattr__" = some none)(hmB:mroIn K D 2e0=some true)(hf:findObj K D od name=some (.value v))(hv:handedIn v=true)(hq:∀tk',Q v {s with toks:=tk'}):wpAny 0e6 A (getAttr (.ref x) name expr) Q E s:=by
 obtain⟨hh,g,d,t,os⟩:=s;have ρ0:=I.type (M:=model prog w);have ρ1:Looks 0e6 hh (typeLookup (.ref D) "__getattribute__") (some (.builtin "BaseException.__getattribute__")):=SG X hga;have ρ2:Looks 0e6 hh (typeLookup (.ref D) "__getattr__") none:=SG X hgn;have Lf:=looks_find (M:=model prog w) X I hf;have f3:=SH.ga.bind (.ref x);have hx2:(Value.builtin "BaseException.__getattribute__" == Value.builtin "object.__getattribute__")=false:=by decide +kernel
 have hx1:(onTheHeap (Value.ref D)&&Value.builtin "BaseException.__getattribute__" == Value.builtin "object.__getattribute__")=false:=by rw[hx2];rfl
 have hx0:(false&&onTheHeap (Value.builtin "BaseException.__getattribute__"))=false:=rfl;unfold getAttr getAttrBy
 repeat (any_goals (first|assumption|with_reducible refine ρ0.at ?_|with_reducible refine ρ1.at ?_|with_reducible refine ρ2.at ?_|wp_step))
 rw[Ox (show ¬ (expr&&onTheHeap (Value.builtin "BaseException.__getattribute__"))=true from by cases expr <;> exact O3)];unfold boundAndCalled
 repeat (any_goals (first|assumption|with_reducible refine ρ0.at ?_|wp_step))
 refine R7 SH.ga.plain F.entry_bexc_ga (wK X ρ0 hmB ?_);unfold Builtin.«object.__getattribute__»
 repeat (any_goals (first|assumption|with_reducible refine ρ0.at ?_|with_reducible refine Lf.at ?_|wp_step))
 show wpAny _ _ (handedOut v) _ _ _;rw[handedOut_of hv];exact O5 (hq _)
end
end PySem.W
namespace ρ2
open PySem PySem.Spec PyProof.Rows
def p8(ea C:Addr):HO:=.ext fun h=>∃t:Addr,h.get? ea=some {cls:=.ref C,data:=.fields #[.ref t,.none,.none,.none,.bool false,.none]}
def fD(ea C dx:Addr):HO:=.ext fun h=>∃t:Addr,h.get? ea=some {cls:=.ref C,dict:=some dx,data:=.fields #[.ref t,.none,.none,.none,.bool false,.none]}
section
variable{X:Cx}{f:Str}
theorem FI{Q:Unit->Shared->Prop}(I:aS X pins B H s)(e:H ea=some (p8 ea C))(S:W.SetsX X.K C)(n:W.findIn X.K 2e1 f=some none)(ry:bG y u)(h:∀s' dx,H dx=none->dx≠ea->aS X pins B (bq (bq H dx (.xd [(f,y)])) ea (fD ea C dx)) s'->Q () s'):wpAny 0e7 A (setAttr (.ref ea) f u) Q E s:=by
 obtain⟨⟨t,he⟩,_,_⟩:=(show cf X.prog X.w H 1e5 ea (p8 ea C) from I.hok ea _ e);have hlt:=OA he;have hne:s.heap.objs.size≠ea:=O4 hlt;refine W.setx_one I.kIn S n he rfl rfl rfl fun h' q1 q2 q3 tk'=>h _ 0e3 I.fresh hne ?_;have ne:∀b,H b=none->b≠ea:=fun b z q=>by rw[q,e]at z;cases z
 have tr:∀b (o:HO),H b=some o->(∀φ,o≠.ext φ)->bq (bq H 0e3 (.xd [(f,y)])) ea (fD ea C 0e3) b=some o:=fun b o q nx=>by
  rw[aD fun z=>?_,aD fun z=>?_]
  ·exact q
  ·rw[z,I.fresh]at q;cases q
  ·rw[z,e]at q;cases q;exact nx _ rfl
 refine I.call' (s':={s with heap:=h',toks:=tk'}) rfl ⟨fun b o q n _ _=>q3 b o (ne b n) q,fun b o q n _ _=>⟨o.slots,q3 b o (ne b n) q⟩,fun b o q n _=>?_,fun b o q _=>?_,fun b xs q=>tr b _ q (fun _ z=>nomatch z),fun b o u q=>tr b _ q (fun _ z=>nomatch z),
  fun b ps q=>⟨#[],by rw[tr b _ q (fun _ z=>nomatch z)];simp⟩⟩ (fun b o q=>?_) I.bare (ch:=[]) (fun b z=>absurd z 1e1)
 ·rw[aD (ne b n),aD (OD (OA q))];exact n
 ·by_cases z : b = ea
  ·exact⟨_,by rw[z];exact q1⟩
  ·exact⟨o,q3 b o z q⟩
 ·by_cases z : b = ea
  ·subst z;rw[aH]at q;cases q;exact⟨⟨t,q1⟩,⟨_,q1⟩,fun h1 h2 a k=>by obtain⟨t',a⟩:=a;exact⟨t',k _ a⟩⟩
  ·rw [aD z] at q;by_cases z2:b=0e3
   ·subst z2;rw[aH]at q;cases q;refine⟨_,q2,fun g=>?_⟩;by_cases hg:g=f
    ·subst hg;dsimp[QC,QD,PU];exact ry
    ·rw[Ox hg,QC,show (g == f)=false from by simpa using hg];exact True.intro
   ·rw [aD z2] at q;refine(I.hok b o q).stay (fun c v hc r=>q3 c v ?_ r) (fun c r=>tr c _ r (fun _ z=>nomatch z)) fun c xs r=>tr c _ r (fun _ z=>nomatch z);rcases hc with rfl|hc
    ·exact z
    ·intro w;rw[w,e]at hc;cases hc
end
def Mb(K:W.Frag)(ta tv:TE)(f:Str):TS:=fun D B H=>tv B H fun y H1=>ta B H1 fun x H2=>∃ea C,x=.ref ea/\H2 ea=some (p8 ea C)/\W.SetsX K C/\W.findIn K 2e1 f=some none /\
 ∀dx,H2 dx=none->dx≠ea->D.nx B (bq (bq H2 dx (.xd [(f,y)])) ea (fD ea C dx))
section
variable{X:Cx}{o value:Expr}{tv:TE}{f:Str}
theorem zD(ha:PE X o ta)(hv:PE X value tv)(hs:swapsWith value (some (.Attribute o f pos')) pos.line 1e2=pure false):PS X (.Assign [.Attribute o f pos'] value pos) (Mb X.K ta tv f):=by
 intro pins s B H D I h;refine S8 (dh (hv pins s B H _ I h) fun u s1 ⟨y,H1,I1,ry,q⟩=>dh (ha pins s1 B H1 _ I1 q) fun ov s2 ⟨x,H2,I2,rx,ea,C,ex,e,S,n,q2⟩=>?_) hs;subst ex;obtain rfl:ov=Value.ref ea:=rx;exact FI I2 e S n ry fun s3 dx z1 z2 I3=>⟨B,_,I3,q2 dx z1 z2⟩
end
section
variable{s0:Shared}{E:XK}
theorem CN{dx:Addr}(I:aS 0e5 pins B H s)(e:H ea=some (fD ea C dx))(hn:s0.heap.get? ea=none)(q:E 2e1 (some ea) (bq H ea (iS ea C (some dx)))):(hW P w K mg base N qual scope f cdv A outer s0 H0 E).xe (.ref ea) s:=by
 obtain⟨⟨t,he⟩,_,_⟩:=(show cf P w H 1e5 ea (fD ea C dx) from I.hok ea _ e);obtain⟨fs,hfs⟩:∃fs,fs=ea::mz (envOfC qual scope s0.heap.objs.size f cdv::outer):=⟨_,rfl⟩;have hin:∀env∈(envOfC qual scope s0.heap.objs.size f cdv::outer),∀b,env.frame=some b->b∈fs:=fun env he b hb=>by rw[hfs];exact OK _ (Pc.mpr ⟨env,he,hb⟩)
 have hst:(W.hideAll 1e5 fs).StaysIn 1e5:=fun b o q=>W.of_hideAll _ q
 have hB:∀b o,s0.heap.get? b=some o->b∉mz outer->∃o',(W.hideAll 1e5 fs).get? b=some o':=fun b o e hb=>by
  obtain⟨⟨o1,e1⟩,nb⟩:=kD I e hb;refine⟨o1,W.hideAll_get _ e1 ?_⟩;rw[hfs];intro z;rcases OM.mp z with z|z
  ·rw[z,hn]at e;cases e
  ·exact nb z
 obtain⟨H1,hH1⟩:∃H1:Hp,H1=fun b=>if b=ea then none else H b:=⟨_,rfl⟩
 have h1:H1 ea=none:=by rw[hH1];exact Ow rfl
 have h2:∀b,b≠ea->H1 b=H b:=fun b hb=>by rw[hH1];exact Ox hb
 have h3:bq H1 ea (iS ea C (some dx))=bq H ea (iS ea C (some dx)):=by
  funext b;by_cases hb:b=ea
  ·rw[hb,aH,aH]
  ·rw[aD hb,aD hb,h2 b hb]
 have ne:∀b (o:HO),H b=some o->(∀φ,o≠.ext φ)->b≠ea:=fun b o q nx z=>by rw[z,e]at q;cases q;exact nx _ rfl
 have hok:nA P w H1 (W.hideAll 1e5 fs):=fun b u q=>by
  have hb:b≠ea:=fun z=>by rw[z,h1]at q;cases q
  rw[h2 b hb]at q
  have nfr:∀c v,H c=some v->c≠ea->c∉fs:=fun c v e z y=>by
   rw[hfs]at y;rcases OM.mp y with y|y
   ·exact z y
   ·rw[I.stkFree c y]at e;cases e
  refine(I.hok b u q).stay (fun c v hc r=>W.hideAll_get _ r ?_) (fun c r=>by rw[h2 c (ne c _ r (fun _ z=>nomatch z))];exact r) fun c xs r=>by rw[h2 c (ne c _ r (fun _ z=>nomatch z))];exact r
  rcases hc with rfl|hc
  ·exact nfr _ _ q hb
  ·exact nfr _ _ hc (ne c _ hc (fun _ z=>nomatch z))
 have hb1:Un (mz outer) [] H0 H1 s0.heap 1e5:=by
  have u:=I.base;refine⟨u.keep,u.slot,fun b o e n hx=>?_,u.there,fun b xs q=>?_,fun b o u' q=>?_,fun b ps q=>?_⟩
  ·by_cases z : b = ea
   ·rw[z];exact h1
   ·rw[h2 b z];exact u.free b o e n hx
  ·have:=u.tups b xs q;rw[h2 b (ne b _ this (fun _ z=>nomatch z))];exact this
  ·have:=u.frzs b o u' q;rw[h2 b (ne b _ this (fun _ z=>nomatch z))];exact this
  ·obtain⟨m,this⟩:=u.tbls b ps q;exact⟨m,by rw[h2 b (ne b _ this (fun _ z=>nomatch z))];exact this⟩
 show wpAny _ _ (leaving _ (.ref ea)) _ _ s;refine i8 (a0:=.ref t) I.ok.frames rfl hst (W.funFrames_hide I.stack hin) ?_ he rfl rfl rfl fun h' fl up=>?_
 ·exact W.hideAll_none _ (by rw[hfs];exact OJ)
 ·exact⟨ea,C,.ref t,some dx,_,H1,rfl,I.os,I.bare,y9 hb1 hB hst fl.1 up (nT I),hok,fl,h1,hB,by rw[h3];exact q⟩
end
def MX(a:Str)(C:Addr):Sp:=fun vs H Q _=>∃ea y,vs=[.ref ea,y]/\H ea=some (p8 ea C)/\∀dx,H dx=none->dx≠ea->Q .non (bq (bq H dx (.xd [(a,y)])) ea (fD ea C dx))
def p7 (mg:Str->Option Value) (base:Heap) (c:Str) (C fI:Addr):Prop:=mg c=some 2e1/\∃bmB newId σ initId bm N nm q bs hdct sn sub ab col dd k0 k1 k2 k3 k5 mN,base.get? C=some 3e3/\base.Ns N mN/\mN "__init__" = some (.ref fI)/\OwnTail base bmB bm /\
 ExcBaseFacts σ newId initId bmB/\∃oI,base.get? fI=some oI/\oI.cls=.type "function"
section
variable{X:Cx}
theorem aS.newx(I:aS X pins B H s)(hm:Heap.MadeExcOf 1e5 h' ea 2e1 us):H ea=none/\aS X pins B (bq H ea (p8 ea C)) {s with heap:=h'}:=by
 have hn:H ea=none:=by
  cases z:H ea with
  |none=>rfl
  |some u=>
   obtain⟨o,e⟩:=(I.hok ea u z).thr;rw[hm.new]at e;cases e
 obtain⟨t,he,_,_⟩:=hm.there;have tr:∀b (o:HO),H b=some o->bq H ea (p8 ea C) b=some o:=fun b o q=>by rw[aD (bH q hn)];exact q
 refine⟨hn,I.call' (s':={s with heap:=h'}) rfl ⟨fun b o q n _ _=>hm.keeps b o q,fun b o q n _ _=>⟨o.slots,hm.keeps b o q⟩,fun b o q n _=>?_,fun b o q _=>⟨o,hm.keeps b o q⟩,fun b xs q=>tr b _ q,fun b o u q=>tr b _ q,
  fun b ps q=>⟨#[],by rw[tr b _ q];simp⟩⟩ (fun b o q=>?_) I.bare (ch:=[]) (fun b z=>absurd z 1e1)⟩
 ·rw[aD fun z=>by rw[z,hm.new]at q;cases q];exact n
 ·by_cases z : b = ea
  ·subst z;rw[aH]at q;cases q;exact⟨⟨t,he⟩,⟨_,he⟩,fun h1 h2 a k=>by obtain⟨t',a⟩:=a;exact⟨t',k _ a⟩⟩
  ·rw[aD z]at q;exact(I.hok b o q).stay (fun c v _ r=>hm.keeps c v r) (fun c r=>tr c _ r) fun c xs r=>tr c _ r
end
section
variable{s0:Shared}{E:XK}
theorem AS{a:Str}{ps:List Str}{t:TA}(O:p7 mg base c C fI)(F:j6 P w K mg base (Ah P w) k fI fd ps (MX a C)){A':Around}(hr:dF (k+1) A')(hA:A'=(hW P w K mg base N qual scope f cdv A outer s0 H0 E).A)(hb:dM K fd ps [])(ha:PA 0e5 [e] t)(hg:Gl 0e5 c)(hd:(c == ("__debug__" : Str))=false)(he:starEach [e] (hW P w K mg base N qual scope f cdv A outer s0 H0 E).env=(false,eval e (hW P w K mg base N qual scope f cdv A outer s0 H0 E).env)::starEach [] (hW P w K mg base N qual scope f cdv A outer s0 H0 E).env:=by rfl):
  PS 0e5 (.Raise (some (.Call (.Name c np) [e] [] cpos)) none pos)
   (fun _ B H=>t B H fun vs H1=>∃y,vs=[y]/\∀ea dx,H1 ea=none->H1 dx=none->dx≠ea->E 2e1 (some ea) (bq (bq H1 dx (.xd [(a,y)])) ea (iS ea C (some dx)))):=by
 intro pins s B H D I q;obtain⟨bound,bmB,newId,σ,initId,bm,Nn,nm,qn,bs,hdct,sn,sub,ab,col,dd,k0,k1,k2,k3,k5,mN,hC,hN,hi,T,FB,oI,hfI,hfc⟩:=O;subst hA
 refine oW (C:=C) (nm:=nm) (q:=qn) (N:=Nn) (bs:=bs) (bm:=bm) (hdct:=hdct) (sn:=sn) (sub:=sub) (ab:=ab) (col:=col) (dd:=dd) (k0:=k0) (k1:=k1) (k2:=k2) (k3:=k3) (k5:=k5)
  FB (mN:=mN) (T.hasType FB.hasBase) (I.ok.hd rfl) (by rw[he];rfl) hi (jH I hg bound ⟨rfl,?_⟩ hd)
 have ha':=ha cpos pins s B H _ I q;rw[he]at ha'⊢;refine PySem.Calls.evalArgs_plain (dh ha' fun us s1 ⟨vs,H1,I1,r,y,ev,q1⟩=>?_);subst ev
 obtain⟨u,rfl⟩:∃u,us=[u]:=by
  cases r with
  |cons r1 r2=>cases r2;exact⟨_,rfl⟩
 have ry:bG y u:=by cases r with|cons r1 r2=>exact r1
 refine⟨rfl,?_,I1.bk _ _ hC,hN.keeps I1.bk,T.keeps I1.bk,⟨oI,I1.bk _ _ hfI,hfc⟩,fun h' ea hm=>?_⟩
 ·show 1<=sizeLine;decide
 obtain⟨hn,I2⟩:=I1.newx hm
 have hs0:s0.heap.get? ea=none:=by
  cases z:s0.heap.get? ea with
  |none=>rfl
  |some o=>
   obtain⟨o',e'⟩:=I1.base.there ea o z (fun z=>by cases z);rw[hm.new]at e';cases e'
 have hl:([Value.ref ea,u]++[]).length=ps.length:=by
  have:=F.len [.ref ea,y] (bq H1 ea (p8 ea C)) (fun _ _=>True) (fun _ _ _=>True) ⟨ea,y,rfl,aH,fun _ _ _=>trivial⟩;rw[<- this];rfl
 refine Pj (Pl (F.run _ _ _ _ ⟨[.ref ea,u],[]⟩ ([.ref ea,u]++[]) [.ref ea,y] (fun v H2=>v=.non/\∃dx,H1 dx=none/\dx≠ea/\H2=bq (bq (bq H1 ea (p8 ea C)) dx (.xd [(a,y)])) ea (fD ea C dx)) E (hr.make C [u] []) (I2.env0.make C [u] [])
  (hb _ [.ref ea,u] I2.kIn hl) (.cons rfl (.cons ry .nil)) ⟨ea,y,rfl,aH,fun dx z1 z2=>⟨rfl,dx,by rw[aD z2]at z1;exact z1,z2,rfl⟩⟩) fun r s' hq'=>?_)
 cases r with
 |error e'=>exact zc pins B _ _ e' s' I2 hq'
 |ok fl=>
  cases fl with
  |ret u'=>
   obtain⟨v,H',I3,rv,ev,dx,z1,z2,eH⟩:=I2.after hq';subst ev;have rv':u'=Value.none:=rv
   have eH':H'=bq (bq H1 dx (.xd [(a,y)])) ea (fD ea C dx):=by
    rw[eH];funext b;by_cases hb1:b=ea
    ·rw[hb1,aH,aH]
    ·rw [aD hb1, aD hb1];by_cases hb2:b=dx
     ·rw[hb2,aH,aH]
     ·rw[aD hb2,aD hb2,aD hb1]
   have e3:H' ea=some (fD ea C dx):=by rw[eH',aH]
   obtain⟨⟨t',het⟩,_,_⟩:=(show cf P w H' s'.heap ea (fD ea C dx) from I3.hok ea _ e3);refine⟨rv',some dx,t',I3.bk _ _ hC,het,CN I3 e3 hs0 ?_⟩;have q2:=q1 ea dx hn z1 z2;rw[eH']
   have:bq (bq (bq H1 dx (.xd [(a,y)])) ea (fD ea C dx)) ea (iS ea C (some dx))=bq (bq H1 dx (.xd [(a,y)])) ea (iS ea C (some dx)):=by
    funext b;by_cases hb1:b=ea
    ·rw[hb1,aH,aH]
    ·rw[aD hb1,aD hb1,aD hb1]
   rw[this];exact q2
  |next=>exact False.elim hq'
  |brk=>exact False.elim hq'
  |cont=>exact False.elim hq'
end
def zj (K:W.Frag) (C:Addr) (f:Str):Bool:=W.findIn K 2e1 "__getattribute__" == some (some (.builtin "BaseException.__getattribute__"))&&W.findIn K 2e1 "__getattr__" == some none&&W.mroIn K C 2e0 == some true &&
 W.findIn K 2e1 f == some none&&W.hasDictIn K C
def LU(K:W.Frag)(ta:TE)(f:Str):TE:=fun B H Q=>ta B H fun x H1=>∃a C dx fs i,x=.ref a/\H1 a=some (iS a C (some dx))/\H1 dx=some (.xd fs)/\zj K C f=true/\fs.lookup f=some (.int i)/\Q (.int i) H1
section
variable{X:Cx}{f:Str}
theorem Gd(he:PE X e ta)(hb:attributeBase e f 1e2 (eval e 1e2)=eval e 1e2):PE X (.Attribute e f pos) (LU X.K ta f):=by
 intro pins s B H Q I h;refine He hb (dh (he pins s B H _ I h) fun u s1 ⟨x,H1,I1,rx,a,C,dx,fs,i,ex,ea,ed,hc,l,q⟩=>?_);subst ex;obtain rfl:u=Value.ref a:=rx;obtain⟨⟨oe,h1,h2,h3,h4⟩,_⟩:=(show cf X.prog X.w H1 s1.heap a (iS a C (some dx)) from I1.hok a _ ea);obtain⟨mA,hn,r⟩:=(show cf X.prog X.w H1 s1.heap dx (.xd fs) from I1.hok dx _ ed);obtain⟨od,ho,hl⟩:=Bd hn;unfold zj at hc;dsimp[Qg,SI]at hc;obtain⟨⟨⟨⟨c1,c2⟩,c3⟩,c4⟩,c5⟩:=hc;have rf:=r f;rw[l]at rf
 obtain⟨v,hv,t,rfl⟩:∃v,mA f=some v/\∃t,v=.int i t:=by
  cases z:mA f with
  |none=>rw[z]at rf;exact False.elim rf
  |some v=>rw[z]at rf;exact⟨v,rfl,rf⟩
 exact W.getx I1.kIn ⟨h1,h2,h4,by rw[h3];exact ho⟩ c1 c2 c3 (W.findObj_own c5 c4 rfl (by rw[hl,hv])) rfl fun tk'=>⟨.int i,H1,I1.tok _,⟨t,rfl⟩,q⟩
end
end ρ2
namespace ρ2
open PySem PySem.Spec PyProof.Rows RS
def LI(E:XK)(C:Addr)(x:DX)(H:Hp):Prop:=(x.args=[]->∀ea,H ea=none->E 2e1 (some ea) (bq H ea (iS ea C none))) /\
 (x.args≠[]->∀ea dx,H ea=none->H dx=none->dx≠ea->E 2e1 (some ea) (bq (bq H dx (.xd (x.args.map fun p=>(p.1,V.int p.2)))) ea (iS ea C (some dx))))
abbrev yZ(K:W.Frag)(w:World)(E:XK):Pa:=⟨K,w,fun x _ H _=>∃C,W.nsIn K mainGlobals x.cls=some (some 2e1)/\LI E C x H⟩
def Nq(K:W.Frag)(w:World)(n:Nat)(F:List D->aw->aj D):Sp:=fun vs H Q E=>vs.length=n/\∃Z ds Y,dR K w H Z Y/\Reps K H Z ds vs/\aA (yZ K w E) H Z (F ds Y) (RV (yZ K w E) Q)
structure rW(P:Program)(w:World)(K:W.Frag)(mg:Str->Option Value)(base:Heap)(k:Nat)(x:Str)(n:Nat)(F:List D->aw->aj D):Prop where
 len:∀ds Y,ds.length≠n->F ds Y=.bad
 fn:∃f fd ps,mg x=some 3e7/\W.keepIn K 3e7=true/\dM K fd ps []/\j6 P w K mg base (Ah P w) k f fd ps (Nq K w n F)
theorem xV{ps:List Str}(F:gf K x qual st f fd)(S:aR N ps (aq st))(hn:ps.length=n)(hm:mg x=some 3e7)(hb:dM K fd ps [])(body : ∀ (cdv : Value) (A : Around) (outer : List Env) (s : Shared) (H : Hp) (E : XK), dF k (A.deeper (envOfC qual (aq st) 0e3 f cdv)) ->
   Bx (ja (hW P w K mg base N qual (aq st) f cdv A outer s H E) (bD st) (gu (yZ K w E) fb))):rW P w K mg base (k+1) x n (iq n N.length fb):=by
 refine⟨fun ds Y h=>by unfold iq;rw[Ox h],f,fd,ps,hm,F.kp,hb,?_⟩;obtain⟨oc,od,kV,doc,pm,an,cdv,ct,osl,rfl,lk,hcd⟩:=F.ex;refine zf lk hcd S (fun vs H Q E h=>h.1.trans hn.symm) fun A outer s H vs Q E hr h=>?_;refine⟨_,(body cdv A outer s H E hr).h,?_⟩;obtain⟨hl,Z,ds,Y,S1,R1,P1⟩:=h;unfold iq at P1;have hd:ds.length=n:=by rw[<- R1.length];exact hl
 rw[Ow hd]at P1;have P2:=pK S1 P1;unfold start;rw[hl];refine⟨Z,_,Y,S1,jO R1 _,?_⟩;cases e:fb (ds.map some++List.replicate (N.length-n) none) Y with
 |ret d Y'=>rw[e]at P2;exact fun H' Z' v x s r=>P2 H' Z' x s v r
 |next L Y'=>rw[e]at P2;exact fun H' Z' B' x s r=>P2 H' Z' x s .non (bC.mpr rfl)
 |exc x Y'=>rw[e]at P2;exact P2
 |brk L Y'=>rw[e]at P2;exact P2.elim
 |cnt L Y'=>rw[e]at P2;exact P2.elim
 |bad=>rw[e]at P2;exact P2.elim
section
variable{X:Cx}{E:XK}{a:Expr}{es:List Expr}
theorem zl (h:rW X.prog X.w X.K X.mg X.base k x n F) (hp:jF (Ah X.prog X.w) X E) (hr:dF k X.A) (ha:Bx (PA X (a::es) (j7 (yZ X.K X.w E) fr))) (hg:Gl X x:=by rfl) (hdb:(x == ("__debug__" : Str))=false:=by decide)
  (he:starEach (a::es) 1e2=(false,eval a 1e2)::starEach es 1e2:=by rfl) (hpl:(backTo pos (starEach es 1e2)).any 2e4=false:=by rfl):Bx (PE X (.Call (.Name x px) (a::es) [] pos) (tD (yZ X.K X.w E) (aB F fr))):=Bx.mk (by
 obtain⟨f,fd,ps,h1,h2,h3,h4⟩:=h.fn;refine(uw (dvs:=[]) (E:=E) h4 hr hg h1 h2 h3 .nil hp ha.h hdb he hpl).weak fun B H Q ⟨Z,L,Y,S,R,P⟩=>⟨Z,L,Y,S,R,(aA.bind P).imp fun ds Y1 H1 Z1 X1 S1 P1 vs rv=>?_⟩;show Nq X.K X.w n F (vs++[]) H1 Q E;rw[Pi];refine⟨?_,Z1,ds,Y1,S1,rv,P1⟩;by_cases hl:ds.length=n
 ·rw[rv.length];exact hl
 ·rw[h.len ds Y1 hl]at P1;exact P1.elim)
theorem uh(h:d8 X.prog X.w X.K X.mg X.base p.nx k x n F)(hr:dF k X.A)(ha:Bx (PA X (a::es) (j7 p fr)))(hg:Gl X x:=by rfl)(hdb:(x == ("__debug__" : Str))=false:=by decide)(he:starEach (a::es) 1e2=(false,eval a 1e2)::starEach es 1e2:=by rfl)(hpl:(backTo pos (starEach es 1e2)).any 2e4=false:=by rfl):Bx (PE X (.Call (.Name x px) (a::es) [] pos) (tD p (aB (fun ds Y=>(F ds Y).nox) fr))):=Bx.mk (by
 obtain⟨f,fd,ps,h1,h2,h3,h4⟩:=h.fn;refine(uw (dvs:=[]) (E:=E0) h4 hr hg h1 h2 h3 .nil Ca ha.h hdb he hpl).weak fun B H Q ⟨Z,L,Y,S,R,P⟩=>⟨Z,L,Y,S,R,(aA.bind P).imp fun ds Y1 H1 Z1 X1 S1 P1 vs rv=>?_⟩;show Ey p.nx n F (vs++[]) H1 Q E0;rw[Pi]
 have P2:aA p.nx H1 Z1 (F ds Y1) (RV p.nx Q):=by
  cases e:F ds Y1 with
  |ok d Y'=>rw[e]at P1;exact P1
  |exc y Y'=>rw[e]at P1;exact False.elim P1
  |bad=>rw[e]at P1;exact P1
 refine⟨?_,Z1,ds,Y1,S1,rv,P2⟩;by_cases hl:ds.length=n
 ·rw[rv.length];exact hl
 ·rw[h.len ds Y1 hl]at P2;exact P2.elim)
end
def Cy(c:Str):MS:=fun _ Y=>.exc ⟨c,[]⟩ Y
section
variable{s0:Shared}{E:XK}
theorem E3(hc:W.nsIn K mainGlobals c=some (some 2e1))(O:Au mg base c C)(hg:Gl 0e5 c:=by rfl)(hd:(c == ("__debug__" : Str))=false:=by decide):
  Bx (PS 0e5 (.Raise (some (.Call (.Name c np) [] [] cpos)) none pos) (gu (yZ K w E) (Cy c))):=Bx.mk (by
 refine(AU O hg hd).weak fun D B H ⟨Z,L,Y,S,R,P⟩=>?_;obtain⟨C',h1,h2⟩:=P H Z kY.refl S;rw[hc]at h1;cases h1
 exact h2.1 rfl)
def mK(c a:Str)(fr:MA):MS:=fun L Y=>match fr L Y with
 |.ok [.int i] Y1=>.exc ⟨c,[(a,i)]⟩ Y1
 |.exc x Y1=>.exc x Y1
 |_=>.bad
theorem Da{a:Str}{ps:List Str}(hc:W.nsIn K mainGlobals c=some (some 2e1))(O:p7 mg base c C fI)(F:j6 P w K mg base (Ah P w) k fI fd ps (MX a C))(hr:dF (k+1) (hW P w K mg base N qual scope f cdv A outer s0 H0 E).A)(hb:dM K fd ps [])(ha:Bx (PA 0e5 [e] (j7 (yZ K w E) fr)))(hg:Gl 0e5 c:=by rfl)(hd:(c == ("__debug__" : Str))=false:=by decide)(he:starEach [e] (hW P w K mg base N qual scope f cdv A outer s0 H0 E).env=(false,eval e (hW P w K mg base N qual scope f cdv A outer s0 H0 E).env)::starEach [] (hW P w K mg base N qual scope f cdv A outer s0 H0 E).env:=by rfl):
  Bx (PS 0e5 (.Raise (some (.Call (.Name c np) [e] [] cpos)) none pos) (gu (yZ K w E) (mK c a fr))):=Bx.mk (by
 refine(AS O F hr rfl hb ha.h hg hd he).weak fun D B H ⟨Z,L,Y,S,R,P⟩=>⟨Z,L,Y,S,R,?_⟩;unfold mK at P;cases z:fr L Y with
 |bad=>rw[z]at P;exact False.elim P
 |exc x Y1=>rw[z]at P;exact P
 |ok ds Y1=>
  rw[z]at P
  match ds,P with
  |[.int i],P=>
   intro H1 Z1 X1 S1 vs rv
   obtain⟨y,rfl,ry⟩:∃y,vs=[y]/\y=V.int i:=by
    dsimp[Reps,aN]at rv;obtain⟨v,r,e1,e2,e3⟩:=rv;subst e3;exact⟨v,e1,e2⟩
   subst ry;obtain⟨C',h1,h2⟩:=P H1 Z1 X1 S1;rw[hc]at h1;cases h1
   exact⟨.int i,rfl,h2.2 1e1⟩)
end
def SO.ro(o:SO):SO:=match o with
 |.ret d Y=>.ret d Y
 |_=>.bad
def BJ(x:DX):O:=match x.args with
 |[]=>.exc x.cls
 |fs=>.exn x.cls fs
def BP(known:List Str)(i N:Nat)(fb fh:MS):MS:=fun L Y=>match fb L Y with
 |.exc x Y'=>if known.contains x.cls=true then (fh ((List.replicate N none).set i (some (.obj Y'.length))) (Y'++[BJ x])).ro else .bad
 |o=>o
def vN(K:W.Frag)(r:Str)(R:Addr)(known:List Str):Prop:=∀c∈known,∃C,W.nsIn K mainGlobals c=some (some 2e1)/\W.exmOne K 2e1 (.ref R)=some true
theorem dJ.ro{o:SO}{D:nF}(h:dJ p H Z o.ro D):dJ p H Z o {nx:=fun _ _=>False,rt:=D.rt}:=by
 cases o with
 |ret d Y=>exact h
 |next L Y=>exact False.elim h
 |brk L Y=>exact False.elim h
 |cnt L Y=>exact False.elim h
 |exc x Y=>exact False.elim h
 |bad=>exact False.elim h
theorem LH{X:Cx}{xw:DX->aw->Hp->List Addr->Prop}{r n:Str}{R:Addr}{hpos:Pos}{suite:List Stmt}{b0:Stmt}{fh:MS}(F:X.Fn)(hN:X.N.Nodup)(hk:vN X.K r R known)(hm:X.mg r=some (.ref R))(hb:∀pins E,Bx (ja (X.tri pins E) body (gu (yZ X.K X.w E) fb)))(hs:∀ea,Bx (ja (X.hnd ea) (b0::suite) (gu ⟨X.K,X.w,xw⟩ fh)))(hl:X.N.length=m:=by rfl)(hi:X.N[i]?=some n:=by rfl)(hx:Ag X.env.scope n:=by exact Or.inl rfl)(hlo:X.env.kindOf n=some .local:=by rfl)(hg:Gl X r:=by rfl)(hd:(r == ("__debug__" : Str))=false:=by decide):
  Bx (PS X (.Try body [.ExceptHandler (some (.Name r np)) (some n) (b0::suite) hpos] [] [] pos) (gu ⟨X.K,X.w,xw⟩ (BP known i m fb fh))):=Bx.mk (by
 refine(Jo F hN hi hx hlo hg hm hd (fun pins E=>(hb pins E).h) fun ea=>(hs ea).h).weak fun D B H ⟨Z,L,Y,S,Rl,P⟩=>?_
 refine⟨fun cls ea' H'=>∃C ea,cls=.ref C/\ea'=some ea/\(W.exmOne X.K 2e1 (.ref R)=some true/\∀B':St,B'.length=X.N.length->gu ⟨X.K,X.w,xw⟩ fh {nx:=fun _ _=>False,rt:=D.rt} (B'.set i (some (.ref ea))) H'),
  fun C ea H' h=>?_,Z,L,Y,S,Rl,?_⟩
 ·obtain⟨C',ea',h1,h2,h3⟩:=h;cases h1;cases h2;exact h3
 ·unfold BP at P;cases e:fb L Y with
  |ret d Y'=>rw[e]at P;exact P
  |next L' Y'=>rw[e]at P;exact P
  |brk L' Y'=>rw[e]at P;exact P
  |cnt L' Y'=>rw[e]at P;exact P
  |bad=>rw[e]at P;exact P
  |exc x Y'=>
   rw[e]at P;dsimp only at P;by_cases hc:known.contains x.cls=true
   ·rw [Ow hc] at P;obtain⟨C,c1,c2⟩:=hk x.cls (S9.mp hc);intro H' Z' X' S';have X3:kY X.K H H' Z Z':=X'
    have core:∀(ea:Addr)(H2:Hp),kY X.K H' H2 Z' (Z'++[ea])->dR X.K X.w H2 (Z'++[ea]) (Y'++[BJ x])->∀B':St,B'.length=X.N.length->gu ⟨X.K,X.w,xw⟩ fh {nx:=fun _ _=>False,rt:=D.rt} (B'.set i (some (.ref ea))) H2:=fun ea H2 X2 S2 B' hσ=>by
     refine⟨Z'++[ea],_,_,S2,⟨by simp[hσ,hl],fun j d hj=>?_⟩,(dJ.from (p:=⟨X.K,X.w,xw⟩) (X3.trans X2) P).ro⟩;by_cases hji:j=i
     ·subst hji
      have hlt:j<(List.replicate m (none:Option ρ2.D)).length:=by
       have:=(OQ.mp hi).1;simp;omega
      rw[OS hlt]at hj;cases hj;refine⟨.ref ea,by rw[OS (by rw[hσ];simpa[hl] using hlt)],aM.mpr ⟨ea,rfl,?_⟩⟩;have hla:Z'.length=Y'.length:=S'.len;rw[<- hla,Pu (O9 _)];simp
     ·rw[OT (ON hji),Pv]at hj;split at hj <;> cases hj
    refine⟨C,c1,fun e0 ea hea=>⟨C,ea,rfl,rfl,c2,core ea _ ((bx hea).trans (gJ [ea])) ?_⟩,fun e0 ea dx hea hdx hne=>⟨C,ea,rfl,rfl,c2,core ea _ ?_ ?_⟩⟩
    ·have hx : BJ x = .exc x.cls := by unfold BJ; rw [e0]
     rw[hx];exact dR.more S' hea ⟨C,none,c1,aH⟩
    ·exact(bx hdx).trans ((bx (by rw[aD (ON hne)];exact hea)).trans (gJ [ea]))
    ·have hx:BJ x=.exn x.cls x.args:=by
      unfold BJ;cases z:x.args with
      |nil=>exact absurd z e0
      |cons _ _=>rfl
     rw[hx];have S1:dR X.K X.w (bq H' dx (.xd (x.args.map fun p=>(p.1,V.int p.2)))) Z' Y':=S'.same (bx hdx) fun a ha=>aD fun z=>ha (by rw[z];exact hdx);exact dR.more S1 (by rw[aD (ON hne)];exact hea) ⟨C,dx,c1,aH,by rw[aD hne,aH]⟩
   ·rw [Ox hc] at P
    exact False.elim P)
theorem x5{E:XK}:(pY CX P w K mg base N qual scope f cdv A outer s H E).nox.Fn:=⟨rfl,rfl,rfl⟩
theorem tF{x:V}:∀{xs:List V}{us:List Value},ba xs us->xs.all kj=true->us.countP (HV x)=xs.countP fun y=>y3 y x
 |_,_,.nil,_=>rfl
 |y::xs,u::us,.cons r t,f=>by
  rw[Qp,Qg]at f;rw[List.countP_cons,List.countP_cons,x6 r f.1,tF t f.2]
def CH:V->List V->Hp->VK->Prop:=fun x vs H Q=>∃l xs y,x=.ref l/\vs=[y]/\H l=some 2e6/\kj y=true/\xs.all kj=true/\Q (.int (xs.countP fun z=>y3 z y:Nat)) H
def CG:V->List V->Hp->VK->Prop:=fun x vs H Q=>∃l xs y j,x=.ref l/\vs=[y]/\H l=some 2e6/\kj y=true/\xs.all kj=true/\(∃z,xs[j]?=some z/\y3 z y=true)/\(∀m z,m<j->xs[m]?=some z->y3 z y=false)/\xs.length<1000/\Q (.int (j:Nat)) H
section
variable{X:Cx}
theorem D3:La X "list.count" CH:=by
 intro pins s B H x vs v us Q I rx rv h;obtain⟨l,xs,y,rfl,rfl,hH,fy,fs,q⟩:=h;cases rx;obtain⟨u,rfl,ru⟩:=rv.one;obtain⟨z,its,n,r,hl,e⟩:=I.lstM hH;refine Qv F.slot_list_count ⟨_,e,rfl⟩ F.entry_list_count (F.args_list_count_2 _ _) (SeqAt.list_countAt l 2e3 n none #[] u (HV y)) ⟨e,fun w hw=>qy ru fy r fs w (by simpa using hw),?_⟩;refine⟨.int (xs.countP fun z=>y3 z y:Nat),H,I.tok _,⟨s.toks,?_⟩,q⟩;rw[<- tF r fs]
theorem D2:La X "list.index" CG:=by
 intro pins s B H x vs v us Q I rx rv h;obtain⟨l,xs,y,j,rfl,rfl,hH,fy,fs,⟨z0,hz,ht⟩,hno,hsz,q⟩:=h;cases rx;obtain⟨u,rfl,ru⟩:=rv.one;obtain⟨z,its,n,r,hl,e⟩:=I.lstM hH;have hlt:j<xs.length:=(OQ.mp hz).1
 have hb:∀m w,its[m]?=some w->∃z,xs[m]?=some z/\HV y w=y3 z y:=fun m w hw=>by
  have hm:m<its.length:=(OQ.mp hw).1;have hm':m<xs.length:=by rw[r.length];exact hm
  obtain⟨u',hu',ru'⟩:=r.get (Sw hm');rw[hw]at hu';cases hu';exact⟨_,Sw hm',x6 ru' (RI.mp fs _ (Sv hm'))⟩
 have hlen:=r.length;refine Qv F.slot_list_index ⟨_,e,rfl⟩ F.entry_list_index (F.args_list_index_2 _ _) (SeqAt.list_indexAt l 2e3 n none #[] u (HV y) j (by rw[Pg];omega) 0e1 ?_ ?_) ⟨e,fun w hw=>qy ru fy r fs w (by simpa using hw),?_⟩
 ·have hw:its[j]?=some its[j]:=Sw 0e1;obtain⟨z1,a1,a2⟩:=hb j _ hw;rw[hz]at a1;cases a1;show HV y 2e3[j]=true;rw[Ta,a2];exact ht
 ·intro m hm hmj;have hm':m<its.length:=by rw[Pg]at hm;exact hm
  obtain⟨z1,a1,a2⟩:=hb m _ (Sw hm');rw[Ta,a2];exact hno m z1 hmj a1
 ·exact⟨.int (j:Nat),H,I.tok _,⟨s.toks,rfl⟩,q⟩
end
def ki:List D->Bool
 |[]=>true
 |.bl _::r=>ki r
 |_::_=>false
def nE:D->Bool
 |.bl b=>b
 |_=>false
theorem wX:∀{vs:List V},Reps K H Z xs vs->ki xs=true->vs=xs.map fun d=>V.bl (nE d):=by
 induction xs with
 |nil=>intro vs h _;dsimp[Reps]at h;exact h
 |cons d r ih=>
  intro vs h q;dsimp[Reps]at h;obtain⟨v,r',rfl,h1,h2⟩:=h;cases d with
  |bl b=>rw[aV.mp h1,ih h2 (by simpa only[ki] using q)];rfl
  |non=>dsimp[ki]at q;cases q
  |int i=>dsimp[ki]at q;cases q
  |str i=>dsimp[ki]at q;cases q
  |tup i=>dsimp[ki]at q;cases q
  |frz i=>dsimp[ki]at q;cases q
  |obj i=>dsimp[ki]at q;cases q
theorem qF:∀xs:List D,(xs.map fun d=>V.bl (nE d)).all kj=true
 |[]=>rfl
 |_::xs=>by rw[Qj,Qp,qF xs];rfl
def lh(d:D)(ds:List D)(Y:aw):aj D:=match d,ds with
 |.obj n,[.bl true]=>match Y[n]? with
  |some 2e6=>if ki xs=true then .ok (.int (xs.countP nE:Nat)) Y else .bad
  |_=>.bad
 |_,_=>.bad
def lb(d:D)(ds:List D)(Y:aw):aj D:=match d,ds with
 |.obj n,[.bl true]=>match Y[n]? with
  |some 2e6=>if ki xs=true/\xs.length<1000/\xs.any nE=true then .ok (.int (xs.findIdx nE:Nat)) Y else .bad
  |_=>.bad
 |_,_=>.bad
section
theorem Bb:KZ p lh CH:=by
 intro d ds v vs H Z Y Q S rd rs P;unfold lh at P;split at P
 ·split at P
  ·rename_i n xs hx;split at P
   ·rename_i hb;obtain⟨a,us,rfl,a1,h1,rr⟩:=cH S rd hx;have hv:=wX rr hb;dsimp[Reps]at rs;obtain⟨y,r',rfl,h3,rfl⟩:=rs;rw[aV.mp h3];refine⟨a,us,.bl true,rfl,rfl,h1,rfl,by rw[hv];exact qF xs,?_⟩;have z:=P.now S (.int (xs.countP nE:Nat)) (ar.mpr rfl)
    have e:(us.countP fun z=>y3 z (.bl true))=xs.countP nE:=by
     rw[hv,List.countP_map];congr 1;funext d;cases h:nE d <;> simp[y3,h]
    rw[e];exact z
   ·exact P.elim
  ·exact P.elim
 ·exact P.elim
theorem A9:KZ p lb CG:=by
 intro d ds v vs H Z Y Q S rd rs P;unfold lb at P;split at P
 ·split at P
  ·rename_i n xs hx;split at P
   ·rename_i hb;obtain⟨hb,hlen,hany⟩:=hb;obtain⟨a,us,rfl,a1,h1,rr⟩:=cH S rd hx;have hv:=wX rr hb;dsimp[Reps]at rs;obtain⟨y,r',rfl,h3,rfl⟩:=rs;rw[aV.mp h3];have hlt:xs.findIdx nE<xs.length:=Tb (by simpa using hany);refine⟨a,us,.bl true,xs.findIdx nE,rfl,rfl,h1,rfl,by rw[hv];exact qF xs,⟨.bl true,?_,rfl⟩,fun m z hm hz=>?_,by rw[hv,PD];exact hlen,P.now S (.int (xs.findIdx nE:Nat)) (ar.mpr rfl)⟩
    ·rw[hv,Px,Sw hlt];have:=List.findIdx_getElem (w:=hlt);simp[this]
    ·rw [hv, Px, Sw (by omega : m < xs.length)] at hz;cases hz;have hf:=List.not_of_lt_findIdx hm;show (nE _ == true)=false;rw[beq_true];cases z:nE xs[m] with
     |false=>rfl
     |true=>rw[z]at hf;exact absurd hf 0e4
   ·exact P.elim
  ·exact P.elim
 ·exact P.elim
end
def lA(subs known:List Str)(d:D)(Y:aw):aj D:=match d with
 |.obj n=>match Y[n]? with
  |some (.exc c)=>if known.contains c=true then .ok (.bl (subs.contains c)) Y else .bad
  |some (.exn c _)=>if known.contains c=true then .ok (.bl (subs.contains c)) Y else .bad
  |_=>.bad
 |_=>.bad
def bN(K:W.Frag)(u:Value)(subs known:List Str):Prop:=∀c∈known,∃C,W.nsIn K mainGlobals c=some (some 2e1)/\W.excCls K C=true/\W.kitOne K 2e1 u=some (subs.contains c)
theorem CP{x:V}{Q:VK}(hK:K=p.K)(hk:bN K u subs known)(ru:bG v u)(S:p.S H Z Y)(r:p.R H Z d x)(P:aA p H Z (lA subs known d Y) (RV p Q)):Lm K u [x,v] H Q:=by
 subst hK;unfold lA at P;split at P
 ·split at P
  ·rename_i n c hx;split at P
   ·rename_i hc;obtain⟨a,ea,C,dx,h1,h2⟩:=S.at hx;obtain⟨a',rfl,ea'⟩:=aM.mp r;rw[ea]at ea';cases ea';obtain⟨C',k1,k2,k3⟩:=hk c (S9.mp hc);rw[h1]at k1;cases k1;exact⟨a,C,_,v,rfl,ru,⟨dx,h2⟩,k2,k3,P.now S _ (aV.mpr rfl)⟩
   ·exact P.elim
  ·rename_i n c fs hx;split at P
   ·rename_i hc;obtain⟨a,ea,C,dx,h1,h2,_⟩:=S.at hx;obtain⟨a',rfl,ea'⟩:=aM.mp r;rw[ea]at ea';cases ea';obtain⟨C',k1,k2,k3⟩:=hk c (S9.mp hc);rw[h1]at k1;cases k1;exact⟨a,C,_,v,rfl,ru,⟨some dx,h2⟩,k2,k3,P.now S _ (aV.mpr rfl)⟩
   ·exact P.elim
  ·exact P.elim
 ·exact P.elim
section
variable{X:Cx}{a:Expr}{fo:ME}{pt:Pos}{xT:Str}
theorem oC(hk:bN X.K 2e1 subs known)(hm:X.mg "isinstance" = none)(hmT:X.mg xT=some 2e1)(ha:Bx (PE X a (tD p fa)))(hg:Gl X "isinstance" := by rfl)(hgT:Gl X xT:=by rfl)(hdT:(xT == ("__debug__" : Str))=false:=by decide)(hs1:starEach [a,.Name xT pt] 1e2=(false,eval a 1e2)::starEach [.Name xT pt] 1e2:=by rfl)(hK:X.K=p.K:=by rfl):Bx (PE X (.Call (.Name "isinstance" px) [a,.Name xT pt] [] pos) (tD p (lu (lA subs known) fa))):=Bx.mk (by
 have hb:PE X (.Name xT pt) (tC 2e1):=uu hgT hmT rfl hdT;refine(mY (wW (u:=.ref C) fun v w h1 h2=>?_) hg hm SS (hX ha.h (hX hb nI rfl) hs1) 0e4 0e4 hs1 rfl).weak fun B H Q ⟨Z,L,Y,S,R,P⟩=>⟨Z,L,Y,S,R,(aA.bind P).imp fun d Y1 H1 Z1 X1 S1 P1 v rv=>?_⟩
 ·cases v with
  |ref b=>cases (show Value.ref C=Value.ref b from h1);exact h2
  |non=>cases (show Value.ref C=Value.none from h1)
  |bl b=>cases (show Value.ref C=Value.bool b from h1)
  |int b=>obtain⟨t,z⟩:=(show ∃t,Value.ref C=Value.int b t from h1);cases z
  |str b=>obtain⟨t,z⟩:=(show ∃t,Value.ref C=Value.str b t from h1);cases z
  |byt b=>obtain⟨t,z⟩:=(show ∃t,Value.ref C=Value.bytes b t from h1);cases z
  |flt b=>obtain⟨t,z⟩:=(show ∃t,Value.ref C=Value.float b t from h1);cases z
  |ty b=>cases (show Value.ref C=Value.type b from h1)
 ·exact CP hK hk rfl S1 rv P1)
theorem Iw(hk:bN X.K (.type T) subs known)(hm:X.mg "isinstance" = none)(hmT:X.mg xT=none)(hbT:bootBuiltins xT=some (.type T))(ha:Bx (PE X a (tD p fa)))(hg:Gl X "isinstance" := by rfl)(hgT:Gl X xT:=by rfl)(hnT:xT ≠ "__name__" := by decide)(hdT:(xT == ("__debug__" : Str))=false:=by decide)(hs1:starEach [a,.Name xT pt] 1e2=(false,eval a 1e2)::starEach [.Name xT pt] 1e2:=by rfl)(hK:X.K=p.K:=by rfl):Bx (PE X (.Call (.Name "isinstance" px) [a,.Name xT pt] [] pos) (tD p (lu (lA subs known) fa))):=Bx.mk (by
 have hb:PE X (.Name xT pt) (tC (.ty T)):=zG hgT hmT hbT rfl hnT hdT;refine(mY (wW (u:=.type T) fun v w h1 h2=>?_) hg hm SS (hX ha.h (hX hb nI rfl) hs1) 0e4 0e4 hs1 rfl).weak fun B H Q ⟨Z,L,Y,S,R,P⟩=>⟨Z,L,Y,S,R,(aA.bind P).imp fun d Y1 H1 Z1 X1 S1 P1 v rv=>?_⟩
 ·cases v with
  |ty b=>cases (show Value.type T=Value.type b from h1);exact h2
  |non=>cases (show Value.type T=Value.none from h1)
  |bl b=>cases (show Value.type T=Value.bool b from h1)
  |int b=>obtain⟨t,z⟩:=(show ∃t,Value.type T=Value.int b t from h1);cases z
  |str b=>obtain⟨t,z⟩:=(show ∃t,Value.type T=Value.str b t from h1);cases z
  |byt b=>obtain⟨t,z⟩:=(show ∃t,Value.type T=Value.bytes b t from h1);cases z
  |flt b=>obtain⟨t,z⟩:=(show ∃t,Value.type T=Value.float b t from h1);cases z
  |ref b=>cases (show Value.type T=Value.ref b from h1)
 ·exact CP hK hk rfl S1 rv P1)
theorem LK (ho:Bx (PE X ob (tD p fo))) (ha:Bx (PA X [e] (j7 p fr))) (hbase:attributeBase ob "count" X.env (eval ob 1e2)=eval ob 1e2:=by rfl) (hfew:((backTo pos (starEach [e] 1e2)).all (fun x=>!x.1)&&(backToKw pos (keywordEach [] 1e2)).all (fun x=>x.1.isSome)
   && decide 3e5)=true:=by rfl) (hline:(apos.endLine == pos.line)=true:=by rfl) (hs:starEach [e] 1e2=(false,eval e 1e2)::starEach [] 1e2:=by rfl) (hpl:(backTo pos (starEach [] 1e2)).any 2e4=false:=by rfl) (hK:X.K=p.K:=by rfl):Bx (PE X (.Call (.Attribute ob "count" apos) [e] [] pos) (tD p (y4 lh fo fr))):=
 ⟨zb hK PySem.F.slot_list_count PySem.F.type_list_count D3 Bb ho.h ha.h hbase hfew hline hs hpl⟩
theorem LJ (ho:Bx (PE X ob (tD p fo))) (ha:Bx (PA X [e] (j7 p fr))) (hbase:attributeBase ob "index" X.env (eval ob 1e2)=eval ob 1e2:=by rfl) (hfew:((backTo pos (starEach [e] 1e2)).all (fun x=>!x.1)&&(backToKw pos (keywordEach [] 1e2)).all (fun x=>x.1.isSome)
   && decide 3e5)=true:=by rfl) (hline:(apos.endLine == pos.line)=true:=by rfl) (hs:starEach [e] 1e2=(false,eval e 1e2)::starEach [] 1e2:=by rfl) (hpl:(backTo pos (starEach [] 1e2)).any 2e4=false:=by rfl) (hK:X.K=p.K:=by rfl):Bx (PE X (.Call (.Attribute ob "index" apos) [e] [] pos) (tD p (y4 lb fo fr))):=
 ⟨zb hK PySem.F.slot_list_index PySem.F.type_list_index D2 A9 ho.h ha.h hbase hfew hline hs hpl⟩
end
structure Av(P:Program)(w:World)(K:W.Frag)(mg:Str->Option Value)(base:Heap)(p:Pa)(k:Nat)(x:Str)(n:Nat)(F:List D->aw->aj D):Prop where
 len:∀ds Y,ds.length≠n->F ds Y=.bad
 fn:∃f fd ps,mg x=some 3e7/\W.keepIn K 3e7=true/\dM K fd ps []/\vQ P w K mg base xK k f fd ps (Ey p n F)
theorem Ck{ps:List Str}(F:gf K x qual st f fd)(S:aR N ps (aq st))(hn:ps.length=n)(hm:mg x=some 3e7)(hb:dM K fd ps [])(body : ∀ (cdv : Value) (A : Around) (outer : List Env) (s : Shared) (H : Hp) (E : XK), eN k (A.deeper (envOfC qual (aq st) 0e3 f cdv)) ->
   Bx (ja (qf xK P w K mg base N qual (aq st) f cdv A outer s H E).nox (bD st) (gu p fb))):Av P w K mg base p (k+1) x n (iq n N.length fb):=by
 refine⟨fun ds Y h=>by unfold iq;rw[Ox h],f,fd,ps,hm,F.kp,hb,?_⟩;refine F.okH S (fun vs H Q E h=>h.1.trans hn.symm) fun cdv A outer s H vs Q E hr h=>?_;refine⟨_,(body cdv A outer s H E hr).h,?_⟩;obtain⟨hl,Z,ds,Y,S1,R1,P1⟩:=h;unfold iq at P1;have hd:ds.length=n:=by rw[<- R1.length];exact hl
 rw[Ow hd]at P1;have P2:=pK S1 P1;unfold start;rw[hl];refine⟨Z,_,Y,S1,jO R1 _,?_⟩;cases e:fb (ds.map some++List.replicate (N.length-n) none) Y with
 |ret d Y'=>rw[e]at P2;exact fun H' Z' v x s r=>P2 H' Z' x s v r
 |next L Y'=>rw[e]at P2;exact fun H' Z' B' x s r=>P2 H' Z' x s .non (bC.mpr rfl)
 |exc x Y'=>rw[e]at P2;exact P2
 |brk L Y'=>rw[e]at P2;exact P2.elim
 |cnt L Y'=>rw[e]at P2;exact P2.elim
 |bad=>rw[e]at P2;exact P2.elim
theorem zm{X:Cx}{a:Expr}{es:List Expr}(h:Av X.prog X.w X.K X.mg X.base p k x n F)(hr:eN k X.A)(ha:Bx (PA X (a::es) (j7 p fr)))(hg:Gl X x:=by rfl)(hdb:(x == ("__debug__" : Str))=false:=by decide)(he:starEach (a::es) 1e2=(false,eval a 1e2)::starEach es 1e2:=by rfl)(hpl:(backTo pos (starEach es 1e2)).any 2e4=false:=by rfl):Bx (PE X (.Call (.Name x px) (a::es) [] pos) (tD p (aB F fr))):=Bx.mk (by
 obtain⟨f,fd,ps,h1,h2,h3,h4⟩:=h.fn;refine(DM (dvs:=[]) (E:=E0) h4 hr hg h1 h2 h3 .nil Ca ha.h hdb he hpl).weak fun B H Q ⟨Z,L,Y,S,R,P⟩=>⟨Z,L,Y,S,R,(aA.bind P).imp fun ds Y1 H1 Z1 X1 S1 P1 vs rv=>?_⟩;show Ey p n F (vs++[]) H1 Q E0;rw[Pi];refine⟨?_,Z1,ds,Y1,S1,rv,P1⟩;by_cases hl:ds.length=n
 ·rw[rv.length];exact hl
 ·rw[h.len ds Y1 hl]at P1;exact P1.elim)
theorem sm:bootBuiltins "ValueError" = some (.type "ValueError"):=PyProof.Rows.Boot.«ValueError»
def D7(K:W.Frag)(u:Value)(subs known:List Str):Bool:=known.all fun c=>match W.nsIn K mainGlobals c with
 |some (some 2e1)=>W.excCls K C&&W.kitOne K 2e1 u == some (subs.contains c)
 |_=>false
theorem bN.of(h:D7 K u subs known=true):bN K u subs known:=fun c hc=>by
 have q:=RI.mp h c hc;split at q
 ·rename_i C e;rw[Qg]at q;exact⟨C,e,q.1,SI.mp q.2⟩
 ·cases q
def Kb(K:W.Frag)(R:Addr)(known:List Str):Bool:=known.all fun c=>match W.nsIn K mainGlobals c with
 |some (some 2e1)=>W.exmOne K 2e1 (.ref R) == some true
 |_=>false
theorem vN.of{r:Str}{R:Addr}(h:Kb K R known=true):vN K r R known:=fun c hc=>by
 have q:=RI.mp h c hc;split at q
 ·rename_i C e;exact⟨C,e,SI.mp q⟩
 ·cases q
theorem Au.of{q:Str}{N:Addr}{bs bm:List Value}{hd:Bool}{k1 k2 k3 k5:Option Value}(X:K.In base)(G:base.Ns mainGlobals mg)(e:W.nsIn K mainGlobals x=some (some 2e1))(l:K.lookup C=some (excClassObj nm q C N bs bm hd sn sub ab col dd k0 k1 k2 k3 k5 "ValueError.__new__"))(h1:W.nsOkIn K N=true)(h2:W.nsIn K N "__init__" = some none)(h3:W.tailIn K [.type "ValueError",.type "Exception",.type "BaseException",.type "object"] bm=true):Au mg base x C:=
 ⟨_,_,_,_,⟨W.mg_of X G e,bm,N,nm,q,bs,hd,sn,sub,ab,col,dd,k0,k1,k2,k3,k5,_,X _ _ l,.of_isNs (W.isNs_of_in X h1),W.nsMap_none_of_in X h1 h2,W.tail_of_in X h3⟩,PySem.F.excBase_ValueError⟩
section
variable(K:W.Frag)(H:Hp)
mutual
def rN:PyData->V->Prop
 |.none,v=>v=.non
 |.bool b,v=>v=.bl b
 |.int i,v=>v=.int i
 |.str x,v=>v=.str x
 |.tuple xs,v=>∃a vs,v=.ref a/\eK K H a vs/\RdGs xs vs
 |.list xs,v=>∃a vs,v=.ref a/\fG K H a vs/\RdGs xs vs
 |.dict kvs,v=>kvs=[]/\∃a,v=.ref a/\H a=some (.dK [])
def RdGs:List PyData->List V->Prop
 |[],vs=>vs=[]
 |x::xs,vs=>∃v r,vs=v::r/\rN x v/\RdGs xs r
end
end
mutual
def EA:PyData->Bool
 |.list _=>false
 |.tuple xs=>noLs xs
 |_=>true
def noLs:List PyData->Bool
 |[]=>true
 |x::xs=>EA x&&noLs xs
end
section
variable{X:Cx}
theorem J2(h:(a == sysModules)=false):a≠sysModules:=by simpa using h
mutual
theorem sN(I:aS X pins B H s):∀(d:PyData)(x:V)(v:Value),rN X.K H d x->bG x v->∃as,Reads 1e5 v d as/\(EA d=true->sysModules∉as)
 |.none,_,_,h,r=>by dsimp[rN]at h;subst h;cases r;exact⟨_,.none,fun _ z=>by cases z⟩
 |.bool b,_,_,h,r=>by dsimp[rN]at h;subst h;cases r;exact⟨_,.bool b,fun _ z=>by cases z⟩
 |.int b,_,_,h,r=>by dsimp[rN]at h;subst h;obtain⟨t,rfl⟩:=r;exact⟨_,.int b t,fun _ z=>by cases z⟩
 |.str b,_,_,h,r=>by dsimp[rN]at h;subst h;obtain⟨t,rfl⟩:=r;exact⟨_,.str b t,fun _ z=>by cases z⟩
 |.tuple xs,_,_,h,r=>by
  dsimp[rN]at h;obtain⟨a,vs,rfl,h1,h2⟩:=h;cases r;obtain⟨its,rv,⟨o,e1,e2,n,e3⟩,_⟩:=I.tuple h1;obtain⟨as,q,hn⟩:=readsAllG_of I xs vs its h2 rv;exact⟨_,.tuple e1 e2 e3 (by simpa using q),fun z=>hn (by simpa only[EA] using z)⟩
 |.list xs,_,_,h,r=>by
  dsimp[rN]at h;obtain⟨a,vs,rfl,h1,h2⟩:=h;cases r;obtain⟨its,rv,⟨o,n,e1,e2,_,e3⟩,_⟩:=I.list h1;obtain⟨as,q,_⟩:=readsAllG_of I xs vs its h2 rv;exact⟨_,.list e1 e2 e3 (by simpa using q),fun z=>by dsimp[EA]at z;cases z⟩
 |.dict kvs,_,_,h,r=>by
  dsimp[rN]at h;obtain⟨rfl,a,rfl,h1⟩:=h;cases r;obtain⟨_,hS,vs,rv,o,es,n,e1,e2,e3,_,e4,_⟩:([]:List (rP×V)).length<=sizeLine/\(a == sysModules)=false/\∃vs,KV ([]:List (rP×V)) vs/\s.heap.DictOf (pI X.prog X.w) a vs:=I.hok a _ h1;cases rv
  have hes:es.toList=[]:=by
   generalize es.toList=l at e4;cases e4;rfl
  refine⟨[a]++[],Reads.dict (as:=[]) (bs:=[]) e1 e2.1 e3 ?_ ?_,fun _ z=>?_⟩
  ·rw[hes];exact .nil
  ·rw[hes];exact .nil
  ·simp at z;exact J2 hS z.symm
theorem readsAllG_of(I:aS X pins B H s):∀(ds:List PyData)(xs:List V)(vs:List Value),RdGs X.K H ds xs->ba xs vs->∃as,ReadsAll 1e5 vs ds as/\(noLs ds=true->sysModules∉as)
 |[],_,_,h,r=>by dsimp[RdGs]at h;subst h;cases r;exact⟨_,.nil,fun _ z=>by cases z⟩
 |d::ds,_,_,h,r=>by
  dsimp[RdGs]at h;obtain⟨v,q,rfl,h1,h2⟩:=h;cases r with
  |cons r rr=>
   obtain⟨as,g1,n1⟩:=sN I d _ _ h1 r;obtain⟨bs,g2,n2⟩:=readsAllG_of I ds _ _ h2 rr;refine⟨_,.cons g1 g2,fun z=>?_⟩;dsimp[noLs,Qg]at z;intro y;rcases OO.mp y with y|y
   ·exact n1 z.1 y
   ·exact n2 z.2 y
end
end
def CF(K:W.Frag):List V->Hp->VK->Prop:=fun xs H Q=>(∃a d,xs=[.ref a]/\rN K H d (.ref a)/\d.showable=true/\(d.hasDict=true->EA d=true)/\d.depth<=60/\d.shown.length<=sizeLine/\Q (.str d.shown) H) \/
 (xs=[.non]/\Q (.str "None") H)\/(∃a:Int,xs=[.int a]/\a.natAbs.log2<1920/\Q (.str (toString a)) H)\/(∃b:Bool,xs=[.bl b]/\Q (.str (if b then "True" else "False")) H)\/∃x:Str,xs=[.str x]/\(reprText x).length<=sizeLine/\Q (.str (reprText x)) H
theorem yT {X:Cx} (hu:X.A.units+64<cLine) (hg:X.A.guards=some []):cM X (.builtin "repr") (CF X.K):=by
 intro pins s B H xs us Q I r h;rcases h with⟨a,d,rfl,h1,hs,hd,hdp,hz,q⟩|⟨rfl,q⟩|⟨a,rfl,ha,q⟩|⟨b,rfl,q⟩|⟨x,rfl,hx,q⟩
 ·obtain⟨u,rfl,ru⟩:=eE r;cases ru;obtain⟨as,r1,hn⟩:=sN I d (.ref a) (.ref a) h1 rfl;exact PySem.repr_of_reads' (h₀:=1e5) r1 hs (fun z=>hn (hd z)) hg 0e1 (fun _ _ e=>e) (fun h' u tk hk=>⟨.str _,H,I.kept hk,⟨u,rfl⟩,q⟩) hz
 ·obtain⟨u,rfl,ru⟩:=eE r;cases ru;exact PySem.P.repr_of_none ⟨.str _,H,I.kept (fun _ _ e=>e),⟨_,rfl⟩,q⟩
 ·obtain⟨u,rfl,t,rfl⟩:=eE r;exact PySem.P.repr_of_int ha ⟨.str _,H,I.kept (fun _ _ e=>e),⟨_,rfl⟩,q⟩
 ·obtain⟨u,rfl,ru⟩:=eE r;cases ru;refine PySem.P.repr_of_bool ⟨.str _,H,I.kept (fun _ _ e=>e),⟨_,rfl⟩,?_⟩;cases b <;> exact q
 ·obtain⟨u,rfl,t,rfl⟩:=eE r;exact PySem.P.repr_of_str ⟨.str _,H,I.kept (fun _ _ e=>e),⟨_,rfl⟩,q⟩ hx
def vH:D->Option PyData
 |.non=>some .none
 |.bl b=>some (.bool b)
 |.int i=>some (.int i)
 |.str x=>some (.str x)
 |_=>none
def jk(f:D->Option PyData):List D->Option (List PyData)
 |[]=>some []
 |x::xs=>(f x).bind fun a=>(jk f xs).map fun r=>a::r
def nB(Y:aw):Nat->D->Option PyData
 |0,d=>vH d
 |n+1,d=>match d with
  |.tup xs=>(jk (nB Y n) xs).map .tuple
  |.frz xs=>(jk (nB Y n) xs).map .list
  |.obj k=>match Y[k]? with
   |some 2e6=>(jk (nB Y n) xs).map .list
   |some .dic=>some (.dict [])
   |_=>none
  |d=>vH d
section
theorem wM{q:PyData}(h:vH d=some q)(r:aN K H Z d v):rN K H q v:=by
 cases d with
 |non=>cases h;dsimp[rN];exact bC.mp r
 |bl b=>cases h;dsimp[rN];exact aV.mp r
 |int b=>cases h;dsimp[rN];exact ar.mp r
 |str b=>cases h;dsimp[rN];exact bh.mp r
 |tup _=>cases h
 |frz _=>cases h
 |obj _=>cases h
theorem ux{f:D->Option PyData}(hf:∀d q v,f d=some q->aN K H Z d v->rN K H q v):∀{ds:List D}{qs:List PyData}{vs:List V},jk f ds=some qs->Reps K H Z ds vs->RdGs K H qs vs:=by
 intro ds
 induction ds with
 |nil=>intro qs vs h r;cases h;dsimp[Reps]at r;dsimp[RdGs];exact r
 |cons d ds ih=>
  intro qs vs h r;dsimp[jk]at h;cases e1:f d with
  |none=>rw[e1]at h;cases h
  |some a=>
   rw[e1]at h;cases e2:jk f ds with
   |none=>rw[e2]at h;cases h
   |some t=>
    rw[e2]at h;cases h;dsimp[Reps]at r;obtain⟨v,r',rfl,h1,h2⟩:=r;dsimp[RdGs];exact⟨v,r',rfl,hf d a v e1 h1,ih e2 h2⟩
theorem ID(S:dR K w H Z Y):∀(n:Nat)(d:D)(q:PyData)(v:V),nB Y n d=some q->aN K H Z d v->rN K H q v:=by
 intro n
 induction n with
 |zero=>intro d q v h r;exact wM h r
 |succ n ih=>
  intro d q v h r;unfold nB at h;split at h
  ·rename_i xs;cases e:jk (nB Y n) xs with
   |none=>rw[e]at h;cases h
   |some qs=>
    rw[e]at h;cases h;obtain⟨a,us,rfl,h1,h2⟩:=aC.mp r;dsimp[rN];exact⟨a,us,rfl,h1,ux ih e h2⟩
  ·rename_i xs;cases e:jk (nB Y n) xs with
   |none=>rw[e]at h;cases h
   |some qs=>
    rw[e]at h;cases h;obtain⟨a,us,rfl,h1,h2⟩:=bo.mp r;dsimp[rN];exact⟨a,us,rfl,h1.sq,ux ih e h2⟩
  ·rename_i k;split at h
   ·rename_i xs hx;cases e:jk (nB Y n) xs with
    |none=>rw[e]at h;cases h
    |some qs=>
     rw[e]at h;cases h;obtain⟨a,ea,us,h1,h2⟩:=S.at hx;obtain⟨a',rfl,ea'⟩:=aM.mp r;rw[ea]at ea';cases ea';dsimp[rN];exact⟨a,us,rfl,.inl (.inl h1),ux ih e h2⟩
   ·rename_i hx;cases h;obtain⟨a,ea,h1⟩:=S.at hx;obtain⟨a',rfl,ea'⟩:=aM.mp r;rw[ea]at ea';cases ea';dsimp[rN];exact⟨trivial,a,rfl,h1⟩
   ·cases h
  ·exact wM h r
end
def pH(q:PyData):Bool:=q.showable&&(!q.hasDict || EA q)&&decide (q.depth<=60)&&decide (q.shown.length<=sizeLine)
def iH(ds:List D)(Y:aw):aj D:=match ds with
 |[.non]=>.ok (.str "None") Y
 |[.int a]=>if a.natAbs.log2<1920 then .ok (.str (toString a)) Y else .bad
 |[.bl b]=>.ok (.str (if b then "True" else "False")) Y
 |[.str x]=>if (reprText x).length<=sizeLine then .ok (.str (reprText x)) Y else .bad
 |[d]=>match nB Y 5 d with
  |some q=>if t9 d=true/\pH q=true then .ok (.str q.shown) Y else .bad
  |none=>.bad
 |_=>.bad
theorem DU:xE p iH (CF p.K):=by
 intro ds vs H Z Y Q S r P;unfold iH at P;split at P
 ·obtain⟨v,rfl,r1⟩:=r.one;rw[bC.mp r1];exact .inr (.inl ⟨rfl,P.now S _ (bh.mpr rfl)⟩)
 ·obtain ⟨v, rfl, r1⟩ := r.one;rw[ar.mp r1];split at P
  ·rename_i ha;exact .inr (.inr (.inl ⟨_,rfl,ha,P.now S _ (bh.mpr rfl)⟩))
  ·exact P.elim
 ·obtain⟨v,rfl,r1⟩:=r.one;rw[aV.mp r1];exact .inr (.inr (.inr (.inl ⟨_,rfl,P.now S _ (bh.mpr rfl)⟩)))
 ·obtain ⟨v, rfl, r1⟩ := r.one;rw[bh.mp r1];split at P
  ·rename_i ha;exact .inr (.inr (.inr (.inr ⟨_,rfl,ha,P.now S _ (bh.mpr rfl)⟩)))
  ·exact P.elim
 ·rename_i d _ _ _ _;split at P
  ·rename_i q hq;split at P
   ·rename_i hf;obtain⟨v,rfl,r1⟩:=r.one;obtain⟨a,rfl⟩:=yF hf.1 r1;have h2:=hf.2;unfold pH at h2;dsimp[Qg,SN]at h2;refine .inl ⟨a,q,rfl,ID S 5 d q _ hq r1,h2.1.1.1,fun z=>?_,h2.1.2,h2.2,P.now S _ (bh.mpr rfl)⟩;have h3:=h2.1.1.2;rw[z]at h3;simpa using h3
   ·exact P.elim
  ·exact P.elim
 ·exact P.elim
theorem z9{X:Cx}(hr:dF k X.A)(hK:X.K=p.K:=by rfl):p9 X p "repr" iH:=⟨_,_,.inl ⟨_,rfl⟩,by decide +kernel,yT hr.units hr.gd,hK ▸ DU,by decide,by decide⟩
def Pk(X:Cx)(p:Pa)(f:Addr)(F:List D->aw->aj D):Prop:=W.keepIn X.K 3e7=true /\
 ∀(pins:List 2e9)(B:St)(H:Hp)(s:Shared)(Q:VK)(us:List Value)(vs:List V)(Z:List Addr)(ds:List D)(Y:aw),aS X pins B H s->ba vs us->dR X.K X.w H Z Y->Reps X.K H Z ds vs->aA p H Z (F ds Y) (RV p Q) ->
  wpAny 0e7 X.A (call 3e7 us) (EP X pins B Q) X.xe s
inductive Af(X:Cx)(p:Pa):List Expr->List (List D->aw->aj D)->List Addr->Prop where
 |nil:Af X p [] [] []
 |cons {x:Str}{q:Pos}{f:Addr}{F:List D->aw->aj D}{es:List Expr}{Fs:List (List D->aw->aj D)}{fs:List Addr} (hg:Gl X x) (hm:X.mg x=some 3e7) (hdb:(x == ("__debug__" : Str))=false) (h:Pk X p f F) (r:Af X p es Fs fs) :
   Af X p (.Name x q::es) (F::Fs) (f::fs)
def N4(vs:List V):TA:=fun _ H Q=>Q vs H
section
variable{X:Cx}{es:List Expr}{Fs:List (List D->aw->aj D)}{fs:List Addr}
theorem Af.pa(h:Af X p es Fs fs):PA X es (N4 (fs.map V.ref)):=by
 induction h with
 |nil=>exact nI
 | @cons x q f F es Fs fs hg hm hdb h r ih=>exact hX (uu (v:=.ref f) hg hm rfl hdb) ih
theorem Af.len(h:Af X p es Fs fs):fs.length=Fs.length:=by
 induction h with
 |nil=>rfl
 |cons hg hm hdb h r ih=>dsimp[QF,ih]
theorem Af.get(h:Af X p es Fs fs):∀(i:Nat)(F:List D->aw->aj D),Fs[i]?=some F->∃f,fs[i]?=some f/\Pk X p f F:=by
 induction h with
 |nil=>intro i F e;cases e
 |cons hg hm hdb h r ih=>
  intro i F e;cases i with
  |zero=>cases e;exact⟨_,rfl,h⟩
  |succ i=>exact ih i F e
end
def qh(Fs:List (List D->aw->aj D))(i:Nat)(fr:MA):ME:=fun L Y=>match L[i]? with
 |some (some (.int j))=>if 0<=j then (match Fs[j.toNat]? with
   |some F=>(fr L Y).bind F
   |none=>.bad) else .bad
 |_=>.bad
section
variable{X:Cx}{es:List Expr}{Fs:List (List D->aw->aj D)}{a:Expr}{as:List Expr}{ps pl pn:Pos}
theorem ny(o b:Expr)(sp:Pos)(args:List Expr)(keywords:List Keyword)(pos:Pos)(env:Env):eval (.Call (.Subscript o b sp) args keywords pos) env=(do
  callWith pos (<- eval (.Subscript o b sp) env) [] (backTo pos (starEach args env)) (backToKw pos (keywordEach keywords env))):=rfl
theorem Iv (hs:∃fs,Af X p es Fs fs) (ha:Bx (PA X (a::as) (j7 p fr))) (hn:Fs.length<=8:=by decide) (hN:X.N[i]?=some x:=by rfl) (hv:xH X.env.scope x:=by first|exact Or.inl rfl|exact Or.inr (Or.inl rfl)|exact Or.inr (Or.inr rfl)) (hd:(x == ("__debug__" : Str))=false:=by decide) (hcd:(x == ("__classdict__" : Str))=false:=by decide)
  (hK:X.K=p.K:=by rfl) (hw:X.w=p.w:=by rfl) (he:starEach (a::as) 1e2=(false,eval a 1e2)::starEach as 1e2:=by rfl) (hpl:(backTo pos (starEach as 1e2)).any 2e4=false:=by rfl) :
  Bx (PE X (.Call (.Subscript (.List es pl) (.Name x pn) ps) (a::as) [] pos) (tD p (qh Fs i fr))):=Bx.mk (by
 obtain⟨fs,hs⟩:=hs;intro pins s B H Q I ⟨Z,L,Y,S,R,P⟩;unfold qh at P
 obtain⟨j,F,e1,h0,e2,P⟩:∃(j:Int)(F:List D->aw->aj D),L[i]?=some (some (.int j))/\0<=j/\Fs[j.toNat]?=some F/\aA p H Z ((fr L Y).bind F) (RV p Q):=by
  split at P
  ·rename_i j e;split at P
   ·rename_i h0;split at P
    ·rename_i F e2;exact⟨j,F,e,h0,e2,P⟩
    ·exact P.elim
   ·exact P.elim
  ·exact P.elim
 obtain⟨f,e3,k1,k2⟩:=hs.get _ _ e2;obtain⟨v,g1,g2⟩:=R.at' i _ e1;have g3:=ar.mp g2;subst g3;have hlen:(fs.map V.ref).length=Fs.length:=by rw[PD,hs.len]
 have hj:j.toNat<Fs.length:=(OQ.mp e2).1
 have hat:atI (fs.map V.ref) j=some 3e7:=by
  unfold atI y0;rw[Ow h0,Ow 0e1];show (fs.map V.ref)[j.toNat]?=_;rw[Px,e3];rfl
 have E1:PE X (.Subscript (.List es pl) (.Name x pn) ps) (K3 (Ic X.K) (Ld (N4 (fs.map V.ref))) (Ib i)):=HG zP (CI hs.pa) (kn hN hv hd hcd) (fun _ _=>rfl);rw[ny];refine OZ (dh (E1 pins s B H (fun v H1=>v=.ref f/\∃q,H q=none/\H1=bq H q (.lst (fs.map V.ref))) I ?_) fun u s1 ⟨v,H1,I1,r1,hv1,q,hq,hH1⟩=>?_)
 ·refine⟨by rw[hlen];exact OG hn 0e4,fun q hq=>⟨_,g1,q,fs.map V.ref,j,.ref f,rfl,rfl,fG.of aH,hat,rfl,q,hq,rfl⟩⟩
 ·subst hv1 hH1;cases r1;have X1:p.X H (bq H q (.lst (fs.map V.ref))) Z Z:=bx hq;have S1:p.S (bq H q (.lst (fs.map V.ref))) Z Y:=S.same X1 fun a ha=>aD fun z=>ha (by rw[z];exact hq);refine W.callWith_K (h₀:=X.base) I1.ok.mod.kin k1 (dh (ha.h pos pins s1 B _ (fun vs H2=>∃Z2 ds Y2,dR X.K X.w H2 Z2 Y2/\Reps X.K H2 Z2 ds vs/\aA p H2 Z2 (F ds Y2) (RV p Q)) I1 ?_) fun us s2 ⟨vs,H2,I2,r2,Z2,ds,Y2,S2,R2,P2⟩=>⟨I2.kIn,?_⟩) he hpl
  ·refine ⟨Z, L, Y, S1, R.mono X1, (aA.bind (aA.from X1 P)).imp fun ds Y1 H2 Z2 X2 S2 P2 vs rv => ⟨Z2, ds, Y1, ?_, ?_, P2⟩⟩
   ·rw[hK,hw];exact S2
   ·rw[hK];exact rv
  ·exact k2 pins B H2 s2 Q us vs Z2 ds Y2 I2 r2 S2 R2 P2)
end
section
variable{X:Cx}{E:XK}
theorem Lq(h:rW X.prog X.w X.K X.mg X.base k x n F)(hp:jF (Ah X.prog X.w) X E)(hr:dF k X.A):∃f,X.mg x=some 3e7/\Pk X (yZ X.K X.w E) f F:=by
 obtain⟨f,fd,ps,h1,h2,h3,h4⟩:=h.fn;refine⟨f,h1,h2,fun pins B H s Q us vs Z ds Y I r S R P=>?_⟩;refine CA (dvs:=[]) (ds:=[]) (E:=E) h4 hr h3 .nil hp I r ?_;show Nq X.K X.w n F (vs++[]) H Q E;rw[Pi];refine⟨?_,Z,ds,Y,S,R,P⟩;by_cases hl:ds.length=n
 ·rw[R.length];exact hl
 ·rw[h.len ds Y hl]at P;exact P.elim
theorem F7:∃fs,Af X p [] [] fs:=⟨[],.nil⟩
theorem we{q:Pos}{es:List Expr}{Fs:List (List D->aw->aj D)}(h:∃f,X.mg x=some 3e7/\Pk X p f F)(r:∃fs,Af X p es Fs fs)(hg:Gl X x:=by rfl)(hdb:(x == ("__debug__" : Str))=false:=by decide):∃fs,Af X p (.Name x q::es) (F::Fs) fs:=
 let ⟨f,h1,h2⟩:=h;let ⟨fs,r⟩:=r;⟨f::fs,.cons hg h1 hdb h2 r⟩
end
end ρ2
namespace ρ2
open PySem PySem.Spec PyProof.Rows RS
open AutoSeq1 (wpAny_loadPart')
section
theorem sj{Q:List Value->Shared->Prop}{r:Addr}{a b c:Int}{t u v:Tok}(hh:A.handled=none)(hr:IsRange 1e5 r a b c t u v)(hsmall:Builtin.Range.small a b c=true)(hn:Builtin.Range.rangeSize a b c=n)(hlen:n<=2^24)(hQ:∀(h':Heap)(tk:Nat)(acc:Array Value),(∀b o',s.heap.get? b=some o'->h'.get? b=some o')->ItemsOf (fun i v=>∃t,v=.int (a+i*c) t) acc n->Q acc.toList {s with heap:=h',toks:=tk}):
  wpAny 0e6 A (collect (.ref r)) Q E s:=by
 unfold collect;refine OZ (R9 (RU PySem.F.entry_proto_collect ?_));rw[RW PySem.F.plain_proto_collect _];show wpAny _ A.in1 (newList [] >>= fun l=>again (.builtin "list.__iadd__" ⟨[l,.ref r],[]⟩)) _ _ s;refine OZ (Qh ?_);refine O5 ⟨RY PySem.F.plain_list_iadd _,RU PySem.F.entry_list_iadd ?_⟩;rw[RW PySem.F.plain_list_iadd _];show wpAny _ A.in1 (Builtin.List.listExtendWith (.ref 0e3) (.ref r) (.ref 0e3)) _ _ _;have hS:(s.heap.push {cls:=.type "list",data:=.seq ([]:List Value).toArray}).get? 0e3=some {cls:=.type "list",data:=.seq #[] 0}:=Oy _ rfl
 refine OU (wpAny_extend_range (A:=A) (s:={s with heap:=s.heap.push {cls:=.type "list",data:=.seq ([]:List Value).toArray}})
  (R:=fun r s'=>r=.ok (.ret (.ref 0e3))/\∃h' tk acc c',s'={s with heap:=h',toks:=tk}/\(∀b o',s.heap.get? b=some o'->h'.get? b=some o')/\h'.get? 0e3=some {cls:=.type "list",dict:=none,data:=.seq acc c',slots:=#[]}/\ItemsOf (fun i v=>∃t,v=.int (a+i*c) t) acc n)
  hh (O8 _ hr) hsmall hn hlen 0e3 (.ref 0e3) 0 hS (fun h' tk acc' c' hk hS' hacc=>⟨rfl,h',tk,acc',c',rfl,fun b o e=>hk b o (OD (OA e)) (O8 _ e),hS',hacc⟩)) (fun fin s' h=>?_) (fun e s' h=>?_)
 ·have fin':∀s',(∃h' tk acc c',s'={s with heap:=h',toks:=tk}/\(∀b o',s.heap.get? b=some o'->h'.get? b=some o')/\h'.get? 0e3=some {cls:=.type "list",dict:=none,data:=.seq acc c',slots:=#[]}/\ItemsOf (fun i v=>∃t,v=.int (a+i*c) t) acc n)->wpAny 0e6 A (match Value.ref 0e3 with
   |Value.ref a=>do
    match (<- load a).data with
     |Data.seq xs _=>pure xs.toList
     |_=>unsupported "internal:collect"
   |_=>unsupported "internal:collect") Q E s':=by
   rintro s' ⟨h',tk,acc,c',rfl,hk,hS',hacc⟩
   show wpAny _ A (load 0e3 >>= _) _ _ _;refine OZ (O6 hS' ?_);exact O5 (hQ h' tk acc hk hacc)
  cases fin with
  |done f=>
   obtain⟨e,h⟩:=h;cases e;exact fin' _ h
  |again c'=>exact⟨h.1,Pl h.2 fun r s'' hr=>by obtain⟨rfl,h⟩:=hr;exact fin' _ h⟩
 ·exact absurd h.1 1e1
theorem qQ:plainId "tuple.__new__" = true:=by decide +kernel
theorem oz{Q₁:Value->Shared->Prop}{r:Addr}{a b c:Int}{t u v:Tok}(hh:A.handled=none)(hr:IsRange 1e5 r a b c t u v)(hsmall:Builtin.Range.small a b c=true)(hn:Builtin.Range.rangeSize a b c=n)(hlen:n<=2^20)(h:∀(h':Heap) (tk:Nat) (acc:Array Value),(∀b o',s.heap.get? b=some o'->h'.get? b=some o')->ItemsOf (fun i v=>∃t,v=.int (a+i*c) t) acc n->Q₁ (.ref h'.objs.size) {s with heap:=h'.push {cls:=.type "tuple",data:=.seq acc},toks:=tk}):
  codeAny 0e6 A (.call (.builtin "tuple.__new__") ⟨[.type "tuple",.ref r],[]⟩) (wants Q₁ E) s:=by
 refine QL ?_;show wpAny _ A.in1 (do checkBuiltinCall "tuple.__new__" ⟨[.type "tuple",.ref r],[]⟩;again (.builtin "tuple.__new__" ⟨[.type "tuple",.ref r],[]⟩)) _ _ s;refine OZ (Q0 (PySem.F.newCall_tuple_1 _) (O5 ⟨RY qQ _,RU PySem.F.entry_tuple_new ?_⟩));rw[RW qQ _];have hsub:=sub_tuple_self;have hinit:=init_tuple_lookup;have hmh:=madeHere_tuple;have hTI:s.TypeIs (.ref r) "range" := ⟨_,hr,rfl⟩
 wp_walk using Qf hTI,sj (n:=n) (show A.in1.handled=none from hh) hr hsmall hn 0e1
 intro h' tk acc hm hacc;show wpAny _ _ (Builtin.Tuple.tupleExact acc.toList.toArray >>= fun v=>ret v) _ _ _;unfold Builtin.Tuple.tupleExact;have hsz:n<=sizeLine:=by rw[Pf];omega
 refine OZ (Qh ?_ (by show acc.toList.toArray.size<=sizeLine;dsimp[Array.toArray_toList];rw[hacc.1];exact hsz));refine O5 ?_;have e:acc.toList.toArray=acc:=by simp
 rw[e];exact h h' tk acc hm hacc
theorem oA{r:Addr}{a b c:Int}{t u v:Tok}(hh:A.handled=none)(hr:IsRange 1e5 r a b c t u v)(hsmall:Builtin.Range.small a b c=true)(hn:Builtin.Range.rangeSize a b c=n)(hlen:n<=2^20)(hQ:∀(h':Heap) (tk:Nat) (acc:Array Value),(∀b o',s.heap.get? b=some o'->h'.get? b=some o')->ItemsOf (fun i v=>∃t,v=.int (a+i*c) t) acc n->Q (.ref h'.objs.size) {s with heap:=h'.push {cls:=.type "tuple",data:=.seq acc},toks:=tk}):
  wpAny 0e6 A (call (.type "tuple") [.ref r]) Q E s:=by
 refine callType_codes (Q₁:=fun obj s₁=>s₁.TypeIs obj "tuple" /\ Q obj s₁) Tc (PySem.F.typeCall_tuple_1 _) PySem.F.entry_object_init
  (oz (A:=A.in1) hh hr hsmall hn hlen fun h' tk acc hm hacc=>⟨⟨_,Oy _ rfl,rfl⟩,hQ h' tk acc hm hacc⟩) fun obj s₁ h₁=>?_
 exact⟨h₁.1,PySem.F.args_object_init_2 obj _,object_init_meets Tc.init.lookup Tc.made 0e4 prog w A.in1 _ s₁ ⟨h₁.1,rfl,h₁.2⟩⟩
end
end ρ2
namespace ρ2
open PySem PySem.Spec PyProof.Rows RS
section
variable{X:Cx}{a:Expr}
def Me:List V->Hp->VK->Prop:=fun xs H Q=>∃(r:Addr)(j:Int),xs=[.ref r]/\H r=some (.rng 0 j)/\-(2^62)<=j/\j<=2^20/\∀l,H l=none->Q (.ref l) (bq H l (.tup ((List.range j.toNat).map fun(i:Nat)=>V.int (i:Int))))
theorem Bs (hc:X.calm=true):cM X (.type "tuple") Me:=by
 intro pins s B H xs us Q I r h;obtain⟨r0,j,rfl,ha,j1,j2,q⟩:=h;obtain⟨u,rfl,ru⟩:=eE r;cases ru;obtain⟨t,u,v,hr⟩:=(show cf X.prog X.w H 1e5 r0 (.rng 0 j) from I.hok r0 _ ha);have hn:Builtin.Range.rangeSize 0 j 1=((j.toNat:Nat):Int):=by rw[rangeSize_one];split <;> omega
 refine oA (n:=j.toNat) (I.ok.hd hc) hr (small_one 0e1 0e1 0e1 0e1) hn 0e1 fun h' tk acc' hk hit=>?_
 have hv:ba ((List.range j.toNat).map fun(i:Nat)=>V.int (i:Int)) acc'.toList:=by
  obtain⟨e1,e2⟩:=hit;refine qL (by simp[e1]) fun i x u h1 h2=>?_;rw[Px]at h1
  have hi:i<j.toNat:=by
   have:=(OQ.mp h2).1;simp[e1]at this;omega
  rw[Sh hi]at h1;cases h1;obtain⟨t,rfl⟩:=e2 i u (by simpa using h2);exact⟨t,by simp⟩
 have hz:((List.range j.toNat).map fun(i:Nat)=>V.int (i:Int)).length<=sizeLine:=by
  have:(sizeLine:Nat)=16777216:=Pf;dsimp[PD,Rb];omega
 have I1:aS X pins B H {s with heap:=h',toks:=tk}:=I.kept (t':=tk) hk
 have I2:aS X pins B (bq H h'.objs.size (.tup ((List.range j.toNat).map fun(i:Nat)=>V.int (i:Int)))) {s with heap:=h'.push {cls:=.type "tuple",data:=.seq acc'.toList.toArray},toks:=tk}:=
  I1.laid (t':=tk) (fun b o e=>O8 _ e) (O9 _) (show cf X.prog X.w _ _ _ (.tup _) from⟨hz,acc'.toList,hv,jd.new _ _⟩)
 rw[Array.toArray_toList]at I2;exact⟨.ref h'.objs.size,_,I2,rfl,q _ (I1.hok.fresh (O9 _))⟩
def qe(ds:List D)(Y:aw):aj D:=match ds with
 |[.int j]=>if -(2^62)<=j/\j<=2^20 then .ok (.tup (dv 0 j.toNat)) Y else .bad
 |_=>.bad
theorem xA:bootBuiltins "tuple" = some (.type "tuple"):=by decide +kernel
theorem FL{pl pr:Pos}(hc:X.calm=true)(hg:Gl X "range")(hm:X.mg "range" = none)(hgl:Gl X "tuple")(hml:X.mg "tuple" = none)(ha:PA X [a] (j7 p fr))(hs:starEach [a] 1e2=[(false,eval a 1e2)]):
  PE X (.Call (.Name "tuple" pl) [.Call (.Name "range" pr) [a] [] p1] [] pos) (tD p (aB qe fr)):=by
 refine(sP (T:="tuple") (Bs hc) hgl hml xA (hX (AZ hg hm ha hs) nI rfl) 0e4 0e4 rfl rfl).weak fun B H Q ⟨Z,L,Y,S,R,P⟩=>⟨Z,L,Y,S,R,(aA.bind P).imp fun ds Y1 H1 Z1 X1 S1 P1 vs rv=>?_⟩;unfold qe at P1;split at P1
 ·rename_i j;obtain⟨v,rfl,r1⟩:=rv.one;split at P1
  ·rename_i hj;refine⟨j,by rw[ar.mp r1],fun r0 hr=>?_⟩;refine⟨r0,j,rfl,aH,hj.1,hj.2,fun l hl=>?_⟩;have S2:p.S (bq H1 r0 (.rng 0 j)) Z1 Y1:=S1.same (bx hr) fun a ha=>aD fun z=>ha (by rw[z];exact hr);exact P1 _ _ ((bx hr).trans (bx hl)) (S2.tuple hl) _ (aC.mpr ⟨l,_,rfl,eK.of aH,DB j.toNat⟩)
  ·exact P1.elim
 ·exact P1.elim
theorem Ir{pl pr:Pos}(hm:X.mg "range" = none)(hml:X.mg "tuple" = none)(ha:Bx (PA X [a] (j7 p fr)))(hc:X.calm=true:=by rfl)(hg:Gl X "range" := by rfl)(hgl:Gl X "tuple" := by rfl)(hs:starEach [a] 1e2=[(false,eval a 1e2)]:=by rfl):Bx (PE X (.Call (.Name "tuple" pl) [.Call (.Name "range" pr) [a] [] p1] [] pos) (tD p (aB qe fr))):=⟨FL hc hg hm hgl hml ha.h hs⟩
end
end ρ2
namespace RS
open PySem PySem.W PyProof.Rows
structure ZA(z TI TO i1 i2:Addr)(f1 f2:List Addr):Prop where
 TIz:TI≠z
 TOz:TO≠z
 i1z:i1≠z
 i2z:i2≠z
 TOi1:TO≠i1
 TOi2:TO≠i2
 z1:z∉f1
 z2:z∉f2
 t1:TO∉f1
 t2:TO∉f2
 j1:i2∉f1
 j2:i1∉f2
end RS
namespace ρ2
open PySem PySem.Spec PyProof.Rows RS
structure ZN(z TI TO i1 i2 a1 a2:Addr):Prop where
 nd:[z,TI,TO,i1,i2].Nodup
 n1:∀b∈[z,TI,TO,i1,i2],a1≠b
 n2:∀b∈[z,TI,TO,i1,i2],a2≠b
def sD(known:List Str)(a:Str)(d:D)(Y:aw):aj D:=match d with
 |.obj n=>match Y[n]? with
  |some (.exn c fs)=>if known.contains c=true then (match fs.lookup a with
   |some i=>.ok (.int i) Y
   |none=>.bad) else .bad
  |_=>.bad
 |_=>.bad
def jJ(K:W.Frag)(a:Str)(known:List Str):Prop:=∀c∈known,∃C,W.nsIn K mainGlobals c=some (some 2e1)/\zj K C a=true
theorem jJ.of{a:Str}(h:(known.all fun c=>match W.nsIn K mainGlobals c with|some (some 2e1)=>zj K C a|_=>false)=true):jJ K a known:=by
 intro c hc;have:=RI.mp h c hc;split at this
 ·rename_i C e;exact⟨C,e,this⟩
 ·cases this
theorem oQ{a:Str}:∀{fs:List (Str×Int)}{i:Int},fs.lookup a=some i->(fs.map fun p=>(p.1,V.int p.2)).lookup a=some (V.int i)
 |[],_,h=>by cases h
 |(x,j)::r,i,h=>by
  rw[Qj];rw[QC]at h⊢;cases e:a == x with
  |true=>rw[e]at h;cases h;rfl
  |false=>rw[e]at h;exact oQ h
section
variable{X:Cx}{a:Str}
theorem Co(hk:jJ X.K a known)(ha:Bx (PE X e (tD p fa)))(hb:attributeBase e a 1e2 (eval e 1e2)=eval e 1e2:=by rfl)(hK:X.K=p.K:=by rfl):Bx (PE X (.Attribute e a pos) (tD p (lu (sD known a) fa))):=Bx.mk (by
 refine(Gd (f:=a) ha.h hb).weak fun B H Q ⟨Z,L,Y,S,R,P⟩=>⟨Z,L,Y,S,R,(aA.bind P).imp fun d Y1 H1 Z1 X1 S1 P1 v rv=>?_⟩;unfold sD at P1;split at P1
 ·split at P1
  ·rename_i n c fs hx;split at P1
   ·rename_i hc;split at P1
    ·rename_i i hl;obtain⟨b,eb,C,dx,h1,h2,h3⟩:=S1.at hx;obtain⟨b',rfl,eb'⟩:=aM.mp rv;rw[eb]at eb';cases eb';obtain⟨C',k1,k2⟩:=hk c (S9.mp hc);rw[hK]at k1;rw[h1]at k1;cases k1;exact⟨b,C,dx,_,i,rfl,h2,h3,k2,oQ hl,P1.now S1 _ (ar.mpr rfl)⟩
    ·exact P1.elim
   ·exact P1.elim
  ·exact P1.elim
 ·exact P1.elim)
end
theorem G0{sf y a:Str}{p3:Pos}(F:gf K nm qual st f fd)(S:aR [sf,y] [sf,y] (aq st))(hb:bD st=[.Assign [.Attribute (.Name sf p1) a p2] (.Name y p3) pos])(SX:W.SetsX K C)(hf:W.findIn K 2e1 a=some none)(v0:xH (aq st) sf)(v1:xH (aq st) y)(d0:(sf == ("__debug__" : Str))=false:=by decide)(d1:(y == ("__debug__" : Str))=false:=by decide)(c0:(sf == ("__classdict__" : Str))=false:=by decide)(c1:(y == ("__classdict__" : Str))=false:=by decide)(hs:∀env,swapsWith (.Name y p3) (some (.Attribute (.Name sf p1) a p2)) pos.line env=pure false:=by intro _;rfl):j6 P w K mg base (Ah P w) (k+1) f fd [sf,y] (MX a C):=by
 obtain⟨oc,od,kV,doc,pm,an,cdv,ct,osl,rfl,lk,hcd⟩:=F.ex;refine zf lk hcd S (fun vs H Q E h=>by obtain⟨ea,y,rfl,_⟩:=h;rfl) fun A outer s H vs Q E hr h=>?_;rw[hb];refine⟨_,ur (zD (kn (i:=0) rfl v0 d0 c0) (kn (i:=1) rfl v1 d1 c1) (hs _)),?_⟩;obtain⟨ea,v,rfl,e,q⟩:=h;exact⟨v,rfl,.ref ea,rfl,ea,C,rfl,e,SX,hf,q⟩
theorem SetsX.of{R1 R2:Addr}(h1:W.findIn K 2e1 "__setattr__" = some (some (.builtin "object.__setattr__")))(h2:W.mroIn K C 3e6=some true)(h3:W.clsIn K C=some cd)(h4:cd.hasDict=true)(h5:cd.mro=[.ref R1,.ref R2,.type "ValueError",.type "Exception",.type "BaseException",.type "object"]):W.SetsX K C:=⟨h1,h2,cd,h3,h4,fun self=>by
 rw[h5,refuseLoop_ref,refuseLoop_ref]
 exact PySem.F.store_ValueError.passes self⟩
theorem Mr{h:Heap}{M:Addr}{m:Str->Option Value}{v:Value}(X:K.In h)(G:h.Ns M m)(e:W.nsIn K M x=some (some v)):m x=some v:=by
 obtain⟨ob,es,ep,h1,h2,_,h3⟩:=G;unfold W.nsIn at e;split at e
 ·rename_i q;have z:=X _ _ q;rw[h1]at z;cases z;cases h2;split at e
  ·rename_i y he;cases e;rw[<- h3];unfold nsFind findBy;rw[<- Array.find?_toList,he];rfl
  ·split at e <;> cases e
 ·cases e
theorem p7.of{q:Str}{N:Addr}{bs bm:List Value}{hd:Bool}{k1 k2 k3 k5:Option Value}(X:K.In base)(G:base.Ns mainGlobals mg)(e:W.nsIn K mainGlobals x=some (some 2e1))(l:K.lookup C=some (excClassObj nm q C N bs bm hd sn sub ab col dd k0 k1 k2 k3 k5 "ValueError.__new__"))(h1:W.nsOkIn K N=true)(h2:W.nsIn K N "__init__" = some (some (.ref fI)))(h3:W.tailIn K [.type "ValueError",.type "Exception",.type "BaseException",.type "object"] bm=true)(h4:K.lookup fI=some oI)(h5:oI.cls=.type "function"):p7 mg base x C fI:=
 ⟨W.mg_of X G e,_,_,_,_,bm,N,nm,q,bs,hd,sn,sub,ab,col,dd,k0,k1,k2,k3,k5,_,X _ _ l,.of_isNs (W.isNs_of_in X h1),Mr X (.of_isNs (W.isNs_of_in X h1)) h2,W.tail_of_in X h3,PySem.F.excBase_ValueError,oI,X _ _ h4,h5⟩
def vP(P:Program)(w:World)(K:W.Frag)(mg:Str->Option Value)(base:Heap)(c a:Str)(C:Addr):Prop:=∃fI fd ps,p7 mg base c C fI/\j6 P w K mg base (Ah P w) 1 fI fd ps (MX a C)/\dM K fd ps []
section
variable{s0:Shared}{E:XK}
theorem vS{a:Str}(hc:W.nsIn K mainGlobals c=some (some 2e1))(I:vP P w K mg base c a C)(hr:dF 2 (hW P w K mg base N qual scope f cdv A outer s0 H0 E).A)(ha:Bx (PA 0e5 [e] (j7 (yZ K w E) fr)))(hg:Gl 0e5 c:=by rfl)(hd:(c == ("__debug__" : Str))=false:=by decide)(he:starEach [e] (hW P w K mg base N qual scope f cdv A outer s0 H0 E).env=(false,eval e (hW P w K mg base N qual scope f cdv A outer s0 H0 E).env)::starEach [] (hW P w K mg base N qual scope f cdv A outer s0 H0 E).env:=by rfl):
  Bx (PS 0e5 (.Raise (some (.Call (.Name c np) [e] [] cpos)) none pos) (gu (yZ K w E) (mK c a fr))):=by
 obtain⟨fI,fd,ps,O,F,σ⟩:=I;exact Da hc O F hr σ ha hg hd he
end
theorem vP.of{a sf y:Str}{R1 R2:Addr}{p3:Pos}(O:p7 mg base c C fI)(F:gf K nm qual st fI fd)(S:aR [sf,y] [sf,y] (aq st))(hb:bD st=[.Assign [.Attribute (.Name sf p1) a p2] (.Name y p3) pos])(h1:W.findIn K 2e1 "__setattr__" = some (some (.builtin "object.__setattr__")))(h2:W.mroIn K C 3e6=some true)(h3:W.clsIn K C=some cd)(h4:cd.hasDict=true)(h5:cd.mro=[.ref R1,.ref R2,.type "ValueError",.type "Exception",.type "BaseException",.type "object"])(hf:W.findIn K 2e1 a=some none)(v0:xH (aq st) sf)(v1:xH (aq st) y)(σ:dM K fd [sf,y] [])(d0:(sf == ("__debug__" : Str))=false:=by decide)(d1:(y == ("__debug__" : Str))=false:=by decide)(c0:(sf == ("__classdict__" : Str))=false:=by decide)(c1:(y == ("__classdict__" : Str))=false:=by decide)(hs:∀env,swapsWith (.Name y p3) (some (.Attribute (.Name sf p1) a p2)) pos.line env=pure false:=by intro _;rfl):vP P w K mg base c a C:=
 ⟨fI,fd,[sf,y],O,G0 (k:=0) F S hb (SetsX.of h1 h2 h3 h4 h5) hf v0 v1 d0 d1 c0 c1 hs,σ⟩
end ρ2
namespace ρ2
open PySem PySem.Spec PyProof.Rows
section
variable{X:Cx}{dx:Addr}{f f1:Str}
theorem Do{y1:V}{Q:Unit->Shared->Prop}(I:aS X pins B H s)(e:H ea=some (fD ea C dx))(ed:H dx=some (.xd [(f1,y1)]))(hne:dx≠ea)(S:W.SetsX X.K C)(n:W.findIn X.K 2e1 f=some none)(ry:bG y u)(h:∀s',aS X pins B (bq H dx (.xd [(f,y),(f1,y1)])) s'->Q () s'):wpAny 0e7 A (setAttr (.ref ea) f u) Q E s:=by
 obtain⟨⟨t,he⟩,_,_⟩:=(show cf X.prog X.w H 1e5 ea (fD ea C dx) from I.hok ea _ e);obtain⟨mA,hn,r⟩:=(show cf X.prog X.w H 1e5 dx (.xd [(f1,y1)]) from I.hok dx _ ed)
 have wi:Within mA [f1]:=fun g hg=>by
  by_cases z:g=f1
  ·rw[z];exact QP.mpr rfl
  ·have q := r g;rw[QC,show (g == f1)=false from by simpa using z]at q;cases w:mA g with
   |none=>exact absurd w hg
   |some v=>rw[w]at q;exact False.elim q
 refine W.setx_more (od:={cls:=.ref C,data:=.fields #[]}) I.kIn S n he rfl rfl rfl hne hn wi 1e1 fun h' q1 q2 q3 tk'=>h _ ?_;have ne:∀b,H b=none->b≠dx:=fun b z q=>by rw[q,ed]at z;cases z
 have tr:∀b (o:HO),H b=some o->(∀fs,o≠.xd fs)->bq H dx (.xd [(f,y),(f1,y1)]) b=some o:=fun b o q nx=>by
  rw[aD fun z=>?_]
  ·exact q
  ·rw[z,ed]at q;cases q;exact nx _ rfl
 refine I.call' (s':={s with heap:=h',toks:=tk'}) rfl ⟨fun b o q n _ _=>q3 b o (ne b n) q,fun b o q n _ _=>⟨o.slots,q3 b o (ne b n) q⟩,fun b o q n _=>by rw[aD (ne b n)];exact n,fun b o q _=>?_,fun b xs q=>tr b _ q (fun _ z=>nomatch z),fun b o u q=>tr b _ q (fun _ z=>nomatch z),
  fun b ps q=>⟨#[],by rw[tr b _ q (fun _ z=>nomatch z)];simp⟩⟩ (fun b o q=>?_) I.bare (ch:=[]) (fun b z=>absurd z 1e1)
 ·by_cases z : b = dx
  ·obtain⟨od,es,ep,e1,_⟩:=q2;exact⟨od,by rw[z];exact e1⟩
  ·exact⟨o,q3 b o z q⟩
 ·by_cases z : b = dx
  ·subst z;rw[aH]at q;cases q;refine⟨_,q2,fun g=>?_⟩;by_cases hg:g=f
   ·subst hg;dsimp[QC,QD,PU];exact ry
   ·rw[Ox hg,QC,show (g == f)=false from by simpa using hg];exact r g
  ·rw [aD z] at q;refine(I.hok b o q).stay (fun c v hc r=>q3 c v ?_ r) (fun c r=>tr c _ r (fun _ z=>nomatch z)) fun c xs r=>tr c _ r (fun _ z=>nomatch z);rcases hc with rfl|hc
   ·exact z
   ·intro w;rw[w,ed]at hc;cases hc
end
def Ma(K:W.Frag)(ta tv:TE)(f:Str):TS:=fun D B H=>tv B H fun y H1=>ta B H1 fun x H2=>∃ea C dx f1 y1,x=.ref ea/\H2 ea=some (fD ea C dx)/\H2 dx=some (.xd [(f1,y1)])/\dx≠ea/\W.SetsX K C/\W.findIn K 2e1 f=some none /\
 D.nx B (bq H2 dx (.xd [(f,y),(f1,y1)]))
section
variable{X:Cx}{o value:Expr}{tv:TE}{f:Str}
theorem F0(ha:PE X o ta)(hv:PE X value tv)(hs:swapsWith value (some (.Attribute o f pos')) pos.line 1e2=pure false):PS X (.Assign [.Attribute o f pos'] value pos) (Ma X.K ta tv f):=by
 intro pins s B H D I h;refine S8 (dh (hv pins s B H _ I h) fun u s1 ⟨y,H1,I1,ry,q⟩=>dh (ha pins s1 B H1 _ I1 q) fun ov s2 ⟨x,H2,I2,rx,ea,C,dx,f1,y1,ex,e,ed,hne,S,n,q2⟩=>?_) hs;subst ex;obtain rfl:ov=Value.ref ea:=rx;exact Do I2 e ed hne S n ry fun s3 I3=>⟨B,_,I3,q2⟩
end
def Nr(a b:Str)(C:Addr):Sp:=fun vs H Q _=>∃ea y z,vs=[.ref ea,y,z]/\H ea=some (p8 ea C)/\∀dx,H dx=none->dx≠ea->Q .non (bq (bq (bq H dx (.xd [(a,y)])) ea (fD ea C dx)) dx (.xd [(b,z),(a,y)]))
section
variable{s0:Shared}{E:XK}
theorem AR{a b:Str}{ps:List Str}{e2:Expr}{t:TA}(O:p7 mg base c C fI)(F:j6 P w K mg base (Ah P w) k fI fd ps (Nr a b C)){A':Around}(hr:dF (k+1) A')(hA:A'=(hW P w K mg base N qual scope f cdv A outer s0 H0 E).A)(hb:dM K fd ps [])(ha:PA 0e5 [e,e2] t)(hg:Gl 0e5 c)(hd:(c == ("__debug__" : Str))=false)(he:starEach [e,e2] (hW P w K mg base N qual scope f cdv A outer s0 H0 E).env=(false,eval e (hW P w K mg base N qual scope f cdv A outer s0 H0 E).env)::(false,eval e2 (hW P w K mg base N qual scope f cdv A outer s0 H0 E).env)::starEach [] (hW P w K mg base N qual scope f cdv A outer s0 H0 E).env:=by rfl):
  PS 0e5 (.Raise (some (.Call (.Name c np) [e,e2] [] cpos)) none pos)
   (fun _ B H=>t B H fun vs H1=>∃y z,vs=[y,z]/\∀ea dx,H1 ea=none->H1 dx=none->dx≠ea->E 2e1 (some ea) (bq (bq H1 dx (.xd [(b,z),(a,y)])) ea (iS ea C (some dx)))):=by
 intro pins s B H D I q;obtain⟨bound,bmB,newId,σ,initId,bm,Nn,nm,qn,bs,hdct,sn,sub,ab,col,dd,k0,k1,k2,k3,k5,mN,hC,hN,hi,T,FB,oI,hfI,hfc⟩:=O;subst hA
 refine oW (C:=C) (nm:=nm) (q:=qn) (N:=Nn) (bs:=bs) (bm:=bm) (hdct:=hdct) (sn:=sn) (sub:=sub) (ab:=ab) (col:=col) (dd:=dd) (k0:=k0) (k1:=k1) (k2:=k2) (k3:=k3) (k5:=k5)
  FB (mN:=mN) (T.hasType FB.hasBase) (I.ok.hd rfl) (by rw[he];rfl) hi (jH I hg bound ⟨rfl,?_⟩ hd)
 have ha':=ha cpos pins s B H _ I q;rw[he]at ha'⊢;refine PySem.Calls.evalArgs_plain (dh ha' fun us s1 ⟨vs,H1,I1,r,y,z,ev,q1⟩=>?_);subst ev
 obtain⟨u,u2,rfl,ry,rz⟩:∃u u2,us=[u,u2]/\bG y u/\bG z u2:=by
  cases r with
  |cons r1 r2=>cases r2 with|cons r3 r4=>cases r4;exact⟨_,_,rfl,r1,r3⟩
 refine⟨rfl,?_,I1.bk _ _ hC,hN.keeps I1.bk,T.keeps I1.bk,⟨oI,I1.bk _ _ hfI,hfc⟩,fun h' ea hm=>?_⟩
 ·show 2<=sizeLine;decide
 obtain⟨hn,I2⟩:=I1.newx hm
 have hs0:s0.heap.get? ea=none:=by
  cases z:s0.heap.get? ea with
  |none=>rfl
  |some o=>
   obtain⟨o',e'⟩:=I1.base.there ea o z (fun z=>by cases z);rw[hm.new]at e';cases e'
 have hl:([Value.ref ea,u,u2]++[]).length=ps.length:=by
  have:=F.len [.ref ea,y,z] (bq H1 ea (p8 ea C)) (fun _ _=>True) (fun _ _ _=>True) ⟨ea,y,z,rfl,aH,fun _ _ _=>trivial⟩;rw[<- this];rfl
 refine Pj (Pl (F.run _ _ _ _ ⟨[.ref ea,u,u2],[]⟩ ([.ref ea,u,u2]++[]) [.ref ea,y,z] (fun v H2=>v=.non/\∃dx,H1 dx=none/\dx≠ea/\H2=bq (bq (bq (bq H1 ea (p8 ea C)) dx (.xd [(a,y)])) ea (fD ea C dx)) dx (.xd [(b,z),(a,y)])) E (hr.make C [u,u2] []) (I2.env0.make C [u,u2] [])
  (hb _ [.ref ea,u,u2] I2.kIn hl) (.cons rfl (.cons ry (.cons rz .nil))) ⟨ea,y,z,rfl,aH,fun dx z1 z2=>⟨rfl,dx,by rw[aD z2]at z1;exact z1,z2,rfl⟩⟩) fun r s' hq'=>?_)
 cases r with
 |error e'=>exact zc pins B _ _ e' s' I2 hq'
 |ok fl=>
  cases fl with
  |ret u'=>
   obtain⟨v,H',I3,rv,ev,dx,z1,z2,eH⟩:=I2.after hq';subst ev;have rv':u'=Value.none:=rv
   have eH':H'=bq (bq H1 dx (.xd [(b,z),(a,y)])) ea (fD ea C dx):=by
    rw[eH];funext g;by_cases hb2:g=dx
    ·rw[hb2,aH,aD z2,aH]
    ·rw [aD hb2];by_cases hb1:g=ea
     ·rw[hb1,aH,aH]
     ·rw[aD hb1,aD hb1,aD hb2,aD hb2,aD hb1]
   have e3:H' ea=some (fD ea C dx):=by rw[eH',aH]
   obtain⟨⟨t',het⟩,_,_⟩:=(show cf P w H' s'.heap ea (fD ea C dx) from I3.hok ea _ e3);refine⟨rv',some dx,t',I3.bk _ _ hC,het,CN I3 e3 hs0 ?_⟩;have q2:=q1 ea dx hn z1 z2;rw[eH']
   have:bq (bq (bq H1 dx (.xd [(b,z),(a,y)])) ea (fD ea C dx)) ea (iS ea C (some dx))=bq (bq H1 dx (.xd [(b,z),(a,y)])) ea (iS ea C (some dx)):=by
    funext g;by_cases hb1:g=ea
    ·rw[hb1,aH,aH]
    ·rw[aD hb1,aD hb1,aD hb1]
   rw[this];exact q2
  |next=>exact False.elim hq'
  |brk=>exact False.elim hq'
  |cont=>exact False.elim hq'
end
end ρ2
namespace ρ2
open PySem PySem.Spec PyProof.Rows RS
def mJ(c a b:Str)(fr:MA):MS:=fun L Y=>match fr L Y with
 |.ok [.int i,.int j] Y1=>.exc ⟨c,[(b,j),(a,i)]⟩ Y1
 |.exc x Y1=>.exc x Y1
 |_=>.bad
theorem Ei{sf y y' a b:Str}{p3 q1 q2 q3:Pos}(F:gf K nm qual st f fd)(S:aR [sf,y,y'] [sf,y,y'] (aq st))(hb:bD st=[.Assign [.Attribute (.Name sf p1) a p2] (.Name y p3) pos,.Assign [.Attribute (.Name sf q1) b q2] (.Name y' q3) pos'])(SX:W.SetsX K C)(hf:W.findIn K 2e1 a=some none)(hf':W.findIn K 2e1 b=some none)(v0:xH (aq st) sf)(v1:xH (aq st) y)(v2:xH (aq st) y')(d0:(sf == ("__debug__" : Str))=false:=by decide)(d1:(y == ("__debug__" : Str))=false:=by decide)(d2:(y' == ("__debug__" : Str))=false:=by decide)(c0:(sf == ("__classdict__" : Str))=false:=by decide)(c1:(y == ("__classdict__" : Str))=false:=by decide)(c2:(y' == ("__classdict__" : Str))=false:=by decide)(hs:∀env,swapsWith (.Name y p3) (some (.Attribute (.Name sf p1) a p2)) pos.line env=pure false:=by intro _;rfl)(hs':∀env,swapsWith (.Name y' q3) (some (.Attribute (.Name sf q1) b q2)) pos'.line env=pure false:=by intro _;rfl):j6 P w K mg base (Ah P w) (k+1) f fd [sf,y,y'] (Nr a b C):=by
 obtain⟨oc,od,kV,doc,pm,an,cdv,ct,osl,rfl,lk,hcd⟩:=F.ex;refine zf lk hcd S (fun vs H Q E h=>by obtain⟨ea,y,z,rfl,_⟩:=h;rfl) fun A outer s H vs Q E hr h=>?_;rw[hb];refine⟨_,wc (zD (kn (i:=0) rfl v0 d0 c0) (kn (i:=1) rfl v1 d1 c1) (hs _)) (ur (F0 (kn (i:=0) rfl v0 d0 c0) (kn (i:=2) rfl v2 d2 c2) (hs' _))),?_⟩;obtain⟨ea,v,z,rfl,e,q⟩:=h;exact⟨v,rfl,.ref ea,rfl,ea,C,rfl,e,SX,hf,fun dx z1 z2=>⟨z,rfl,.ref ea,rfl,ea,C,dx,a,v,rfl,aH,by rw[aD z2,aH],z2,SX,hf',q dx z1 z2⟩⟩
def vO(P:Program)(w:World)(K:W.Frag)(mg:Str->Option Value)(base:Heap)(c a b:Str)(C:Addr):Prop:=∃fI fd ps,p7 mg base c C fI/\j6 P w K mg base (Ah P w) 1 fI fd ps (Nr a b C)/\dM K fd ps []
section
variable{s0:Shared}{E:XK}
theorem C9{a b:Str}{e2:Expr}(hc:W.nsIn K mainGlobals c=some (some 2e1))(I:vO P w K mg base c a b C)(hr:dF 2 (hW P w K mg base N qual scope f cdv A outer s0 H0 E).A)(ha:Bx (PA 0e5 [e,e2] (j7 (yZ K w E) fr)))(hg:Gl 0e5 c:=by rfl)(hd:(c == ("__debug__" : Str))=false:=by decide)(he:starEach [e,e2] (hW P w K mg base N qual scope f cdv A outer s0 H0 E).env=(false,eval e (hW P w K mg base N qual scope f cdv A outer s0 H0 E).env)::(false,eval e2 (hW P w K mg base N qual scope f cdv A outer s0 H0 E).env)::starEach [] (hW P w K mg base N qual scope f cdv A outer s0 H0 E).env:=by rfl):
  Bx (PS 0e5 (.Raise (some (.Call (.Name c np) [e,e2] [] cpos)) none pos) (gu (yZ K w E) (mJ c a b fr))):=Bx.mk (by
 obtain⟨fI,fd,ps,O,F,hb⟩:=I;refine(AR O F hr rfl hb ha.h hg hd he).weak fun D B H ⟨Z,L,Y,S,R,P⟩=>⟨Z,L,Y,S,R,?_⟩;unfold mJ at P;cases z:fr L Y with
 |bad=>rw[z]at P;exact False.elim P
 |exc x Y1=>rw[z]at P;exact P
 |ok ds Y1=>
  rw[z]at P
  match ds,P with
  |[.int i,.int j],P=>
   intro H1 Z1 X1 S1 vs rv
   obtain rfl:vs=[V.int i,V.int j]:=by
    dsimp[Reps,aN]at rv;obtain⟨v,r,e1,e2,v',r',e3,e4,e5⟩:=rv;subst e5 e4 e3 e2;exact e1
   obtain⟨C',h1,h2⟩:=P H1 Z1 X1 S1;rw[hc]at h1;cases h1
   exact⟨.int i,.int j,rfl,h2.2 1e1⟩)
end
theorem vO.of{a b sf y y':Str}{R1 R2:Addr}{p3 q1 q2 q3:Pos}(O:p7 mg base c C fI)(F:gf K nm qual st fI fd)(S:aR [sf,y,y'] [sf,y,y'] (aq st))(hb:bD st=[.Assign [.Attribute (.Name sf p1) a p2] (.Name y p3) pos,.Assign [.Attribute (.Name sf q1) b q2] (.Name y' q3) pos'])(h1:W.findIn K 2e1 "__setattr__" = some (some (.builtin "object.__setattr__")))(h2:W.mroIn K C 3e6=some true)(h3:W.clsIn K C=some cd)(h4:cd.hasDict=true)(h5:cd.mro=[.ref R1,.ref R2,.type "ValueError",.type "Exception",.type "BaseException",.type "object"])(hf:W.findIn K 2e1 a=some none)(hf':W.findIn K 2e1 b=some none)(v0:xH (aq st) sf)(v1:xH (aq st) y)(v2:xH (aq st) y')(σ:dM K fd [sf,y,y'] [])(d0:(sf == ("__debug__" : Str))=false:=by decide)(d1:(y == ("__debug__" : Str))=false:=by decide)(d2:(y' == ("__debug__" : Str))=false:=by decide)(c0:(sf == ("__classdict__" : Str))=false:=by decide)(c1:(y == ("__classdict__" : Str))=false:=by decide)(c2:(y' == ("__classdict__" : Str))=false:=by decide)(hs:∀env,swapsWith (.Name y p3) (some (.Attribute (.Name sf p1) a p2)) pos.line env=pure false:=by intro _;rfl)(hs':∀env,swapsWith (.Name y' q3) (some (.Attribute (.Name sf q1) b q2)) pos'.line env=pure false:=by intro _;rfl):vO P w K mg base c a b C:=
 ⟨fI,fd,[sf,y,y'],O,Ei (k:=0) F S hb (SetsX.of h1 h2 h3 h4 h5) hf hf' v0 v1 v2 d0 d1 d2 c0 c1 c2 hs hs',σ⟩
end ρ2
namespace PySem
open PySem.Spec PyProof.Rows SeqAt
theorem rX(l:Addr)(items:Array Value)(n:Nat)(dd:Option Addr)(sl:Array (Option Value))(x:Value)(e:Value->Bool)(j:Nat)(hj:j<items.size)
  (hit:e items[j]=true) (hno:∀m (hm:m<items.size),m<j->e items[m]=false) :
  Meets (Builtin.«tuple.index» ⟨[.ref l,x],[]⟩)
   (fun A R s=>s.heap.get? l=some {cls:=.type "tuple",dict:=dd,data:=.seq items n,slots:=sl}/\(∀y,y∈items->EqAt A.in1 s y x (e y))/\R (.ok (.ret (.int j s.toks))) {s with toks:=s.toks+1}):=by
 intro prog w A R s h;obtain⟨hp,g,d,tk,os⟩:=s;obtain⟨hl,he,h⟩:=h;unfold Builtin.«tuple.index»;dsimp[Std.Legacy.Range.forIn_eq_forIn_range']
 wp_walk
 refine RL _
  (fun rest b s'=>b=(none,())/\s'={heap:=hp,gens:=g,drawn:=d,toks:=tk,os:=os}/\∃k,rest=List.range' k (items.size-k)/\k<=j)
  _ (fun a rest b s' hI=>?_) (fun b s' hI=>?_) (List.range' 0 (Std.Legacy.Range.size [:min 2e8 2e8])) (none,()) ⟨rfl,rfl,0,by simp[Std.Legacy.Range.size],QO _⟩
 ·obtain ⟨rfl, rfl, k, e1, hk⟩ := hI;have hks:k<items.size:=by omega
  rw[show items.size-k=(items.size-(k+1))+1 by omega,List.range'_succ]at e1;injection e1 with ea er
  subst ea er;rw[RH hks];dsimp only;refine OZ (he _ (Array.getElem_mem hks) prog w _ _ ?_);by_cases hj2:a=j
  ·subst hj2;rw[hit];dsimp[PU]
   wp_walk
   exact h
  ·rw[hno a hks 0e1];dsimp[QE,PR];exact O5 ⟨rfl,rfl,a+1,rfl,by omega⟩
 ·obtain⟨rfl,rfl,k,e1,hk⟩:=hI;have:=OX List.length e1;simp at this;omega
end PySem
namespace ρ2
open PySem PySem.Spec PyProof.Rows RS
def zA(K:W.Frag):V->List V->Hp->VK->Prop:=fun x vs H Q=>∃l xs y qs q,x=.ref l/\vs=[y]/\eK K H l xs/\RdPs K H qs xs/\nz K H q y/\PyData.canLayAll0 qs=true/\dQ q=true/\(qs.any fun z=>PyData.eqv z q)=true/\Q (.int (qs.findIdx fun z=>PyData.eqv z q:Nat)) H
theorem A8 {X:Cx} (hu:X.A.units+64<cLine):La X "tuple.index" (zA X.K):=by
 intro pins s B H x vs v us Q I rx rv h;obtain⟨l,xs,y,qs,q,rfl,rfl,hH,rq,ry,hc,hf,hany,hQ⟩:=h;cases rx;obtain⟨u,rfl,ru⟩:=rv.one;obtain⟨its,r,⟨o,e,oc,n,od⟩,hz⟩:=I.tuple hH;obtain⟨as,r1⟩:=readsAll_of I qs xs its rq r;obtain⟨bs,r2⟩:=dz I q y u ry ru;have hd:=me hf;have hm:=SeqAt.readsAll_map qs _ _ hc r1;have hlen:its.length=qs.length:=by rw[<- hm,PD]
 have hlt:(qs.findIdx fun z=>PyData.eqv z q)<qs.length:=Tb (by simpa using hany)
 have hb:∀m (h1:m<its.length) (h2:m<qs.length),SeqAt.readOf 1e5 its[m]=qs[m]:=fun m h1 h2=>by
  have:(its.map (SeqAt.readOf 1e5))[m]?=qs[m]?:=by rw[hm]
  rw[Px,Sw h1,Sw h2]at this;exact Oq this
 obtain⟨ocls,odict,odata,oslots⟩:=o;cases oc;cases od;refine Qv F.slot_tuple_index ⟨_,e,rfl⟩ F.entry_tuple_index (F.args_tuple_index_2 _ _) (rX l 2e3 n odict oslots u (fun y=>PyData.eqv (SeqAt.readOf 1e5 y) q) (qs.findIdx fun z=>PyData.eqv z q) (by rw[Pg,hlen];exact hlt) ?_ ?_) ⟨e,SeqAt.items_eqAt (vs:=2e3) r1 r2 hc (cg hf) ?_,?_⟩
 ·rw[Ta,hb _ (by rw[hlen];exact hlt) hlt];exact List.findIdx_getElem (w:=hlt)
 ·intro m hm' hmj;rw[Ta,hb m (by rw[Pg]at hm';exact hm') 0e1];have hf:=List.not_of_lt_findIdx hmj;simpa using hf
 ·have:=PQ (PyData.depthAll qs) q.depth;show X.A.units+1+_<_;omega
 ·exact⟨.int (qs.findIdx fun z=>PyData.eqv z q:Nat),H,I.tok _,⟨s.toks,rfl⟩,hQ⟩
def eW(d:D)(ds:List D)(Y:aw):aj D:=match d,ds with
 |.tup xs,[x]=>match iC Y xs,lr Y x with
  |some qs,some q=>if PyData.canLayAll0 qs=true/\dQ q=true/\(qs.any fun z=>PyData.eqv z q)=true then .ok (.int (qs.findIdx fun z=>PyData.eqv z q:Nat)) Y else .bad
  |_,_=>.bad
 |_,_=>.bad
theorem yA:KZ p eW (zA p.K):=by
 intro d ds v vs H Z Y Q S rd rs P;unfold eW at P;split at P
 ·split at P
  ·split at P
   ·rename_i qs q hqs hq hc;obtain⟨a,us,rfl,h1,rr⟩:=aC.mp rd;dsimp[Reps]at rs;obtain⟨y,r',rfl,h3,rfl⟩:=rs;exact⟨a,us,y,qs,q,rfl,rfl,h1,mV S hqs rr,lZ S hq h3,hc.1,hc.2.1,hc.2.2,P.now S _ (ar.mpr rfl)⟩
   ·exact P.elim
  ·exact P.elim
 ·exact P.elim
def tT(f:D->List D->aw->aj D)(fo:ME)(fr:MA):ME:=fun L Y=>(fo L Y).bind fun o Y1=>match o with
 |.tup xs=>(fr L Y1).bind fun ds Y2=>f (.tup xs) ds Y2
 |_=>.bad
section
variable{X:Cx}{fo:ME}
theorem tX (hu:X.A.units+64<cLine) (ho:Bx (PE X ob (tD p fo))) (ha:Bx (PA X [e] (j7 p fr))) (hbase:attributeBase ob "index" X.env (eval ob 1e2)=eval ob 1e2:=by rfl) (hfew:((backTo pos (starEach [e] 1e2)).all (fun x=>!x.1)&&(backToKw pos (keywordEach [] 1e2)).all (fun x=>x.1.isSome)
   && decide 3e5)=true:=by rfl) (hline:(apos.endLine == pos.line)=true:=by rfl) (hs:starEach [e] 1e2=(false,eval e 1e2)::starEach [] 1e2:=by rfl) (hpl:(backTo pos (starEach [] 1e2)).any 2e4=false:=by rfl) (hK:X.K=p.K:=by rfl):Bx (PE X (.Call (.Attribute ob "index" apos) [e] [] pos) (tD p (tT eW fo fr))):=Bx.mk (by
 refine(HH PySem.F.plainAttrs_tuple PySem.F.slot_tuple_index PySem.F.type_tuple_index (A8 hu) ho.h ha.h hbase hfew hline hs hpl).weak fun B H Q ⟨Z,L,Y,S,R,P⟩=>⟨Z,L,Y,S,R,(aA.bind P).imp fun d Y1 H1 Z1 X1 S1 P1 v rv=>?_⟩;cases d with
 |tup xs=>
  rw[hK];obtain⟨a,us,rfl,h1,rr⟩:=aC.mp rv;exact⟨.inr (.inl ⟨rfl,us,h1⟩),Z1,L,Y1,S1,R.mono X1,(aA.bind P1).imp fun ds Y2 H2 Z2 X2 S2 P2 vs rs=>yA _ ds _ vs H2 Z2 Y2 Q S2 (rv.mono X2) rs P2⟩
 |_=>exact P1.elim)
end
end ρ2
namespace Lw
open PySem ρ2
section
structure Nm(mg:Str->Option Value):Prop where
 ValueError:mg "ValueError" = none
 all:mg "all" = none
 bool:mg "bool" = none
 enumerate:mg "enumerate" = none
 int:mg "int" = none
 isinstance:mg "isinstance" = none
 len:mg "len" = none
 list:mg "list" = none
 max:mg "max" = none
 min:mg "min" = none
 range:mg "range" = none
 repr:mg "repr" = none
 set:mg "set" = none
 sorted:mg "sorted" = none
 tuple:mg "tuple" = none
theorem xh:aR ["thing"] ["thing"] (aq i5):=0e0
def jQ:MS:=bX (jm (lu (fL "int") 4e0) (vL (lu (fL "bool") 4e0)))
def dq:List D->aw->aj D:=iq 1 1 jQ
theorem oi:aR ["thing", "least", "most"] ["thing", "least", "most"] (aq eC):=0e0
def fj:MS:=bX (jm (aB dq (af 4e0 (az))) (qq (nD .LtE) (nD .LtE) (ai 1) 4e0 (ai 2)))
def bt:List D->aw->aj D:=iq 3 3 fj
theorem xi:aR ["many", "thing"] ["many", "thing"] (aq i6):=0e0
def mr:MS:=bX (aB bt (af (ai 1) (af 2e7 (af (aK Ao 4e0 (cC (.int 1))) (az)))))
def fC:List D->aw->aj D:=iq 2 2 mr
theorem uR:aR ["many", "thing"] ["many", "thing"] (aq fV):=0e0
theorem rJ:(["place", "many"]:List Str).Nodup:=by decide +kernel
def gG:ME:=aB fC (af (ai 1) (af 4e0 (az)))
def kF:MS:=bX (jm (lu (fL "tuple") (ai 1)) (aB rS (af (cL (gh (ai 1)) [none,some 0] (ao 0) (cV) (gG)) (az))))
def cu:List D->aw->aj D:=iq 2 2 kF
theorem uQ:aR ["things"] ["things"] (aq fU):=0e0
theorem rH:(["at", "things"]:List Str).Nodup:=by decide +kernel
def gF:ME:=aK (nD .Lt) (aK fK (ai 1) (aK Ao 4e0 (cC (.int 1)))) (aK fK (ai 1) 4e0)
def oZ:MS:=bX (aB rS (af (cL (jC Al (af (cC (.int 1)) (af (aB mB (af 4e0 (az))) (az)))) [none,some 0] (ao 0) (cV) (gF)) (az)))
def gM:List D->aw->aj D:=iq 1 1 oZ
theorem lD:aR ["many", "thing"] ["many", "thing"] (aq cX):=0e0
def iQ:MS:=bX (jm (aB cu (af 4e0 3e8)) (jm (aK (nD .Gt) (aB mB 3e8) 2e7) (aB gM 3e8)))
def bI:List D->aw->aj D:=iq 2 2 iQ
theorem yp:aR ["thing"] ["thing"] (aq jL):=0e0
def tP:MS:=bX (aB bt (af 4e0 (af (cC (.int 1)) (af (cC (.int 6)) (az)))))
def jv:List D->aw->aj D:=iq 1 1 tP
theorem yo:aR ["many", "thing"] ["many", "thing"] (aq jK):=0e0
def tO:MS:=bX (jm (aB cu (af 4e0 3e8)) (jm (aK (j5 false) (aB mB 3e8) (cC (.int 2))) (aK (j5 true) (aK fK (ai 1) 2e7) (aK fK (ai 1) (cC (.int 1))))))
def ix:List D->aw->aj D:=iq 2 2 tO
theorem nP:aR ["many", "things", "at", "thing"] ["many", "things"] (aq jq):=0e0
theorem xl:(["pair"]:List Str).Nodup:=by decide +kernel
def mj:MS:=pF (gH (jb (aB (fun ds Y=>(ix ds Y).nox) (af 4e0 (af (ai 3) (az)))))) (mK "NoWeb" "number" (af (ai 2) (az))) (dG)
def rh:ME:=d9 (af (aB pX (af 4e0 (az))) (af (aB tS (af 4e0 (az))) (az)))
def jP:MB:=zg (rh)
def xa:MS:=bf (pF (gH (jb (aB (fun ds Y=>(jv ds Y).nox) (af 4e0 (az))))) (mK "NoWeb" "number" (af (lu vv (cC (.int 1))) (az))) (dG))
 (bf (ly (jC mF 3e8) (cy 2 (aT (ao 2) (aT (ao 3) (cz)))) mj)
 (bX (d9 (af 4e0 (af (aB fu (af (aB eA (af (ue (gh (ai 1)) [none] (ao 0) (cV) (jP)) (az))) (az))) (az))))))
def fS:List D->aw->aj D:=iq 2 4 xa
theorem rj:aR ["ties", "front"] ["ties", "front"] (aq de):=0e0
theorem jy:(["a", "b", "front"]:List Str).Nodup:=by decide +kernel
theorem jx:(["a", "b", "front"]:List Str).Nodup:=by decide +kernel
def jY:ME:=ai 1
def gU:MT:=lx (aK (pU false) 4e0 (ai 2))
def jX:ME:=ai 0
def gS:MT:=lx (aK (pU false) (ai 1) (ai 2))
def lQ:MS:=bX (aK cx (cL (gh 4e0) [none,none,some 1] (cy 2 1e7) (gU) (jY)) (cL (gh 4e0) [none,none,some 1] (cy 2 1e7) (gS) (jX)))
def eT:List D->aw->aj D:=iq 2 2 lQ
theorem cn:aR ["web", "start", "many", "ties", "fars", "far", "front", "place"] ["web", "start"] (aq fW):=0e0
theorem rK:(["place", "fars"]:List Str).Nodup:=by decide +kernel
def lP:ME:=ai 0
def jf:MT:=lx (aK (xS false) (aK fK (ai 1) 4e0) (cC .non))
def eS:MS:=bK (ai 5) (oH (ai 4) (ai 7))
def eR:MS:=bf (BQ 5 vJ (cC (.int 1)))
 (bf (bK (cL (gh (aB eT (af (ai 3) (af (ai 6) (az))))) [none,some 4] (ao 0) (jf) (lP)) (ao 6))
 (ly (gh (ai 6)) (ao 7) eS))
def pb:MS:=bf (bK 4e0 (cy 2 (aT (ao 2) (aT (ao 3) (cz)))))
 (bf (bK (aK rR (iz (af (cC .non) (az))) (ai 2)) (ao 4))
 (bf (bK 2e7 (oH (ai 4) (ai 1)))
 (bf (bK 2e7 (ao 5))
 (bf (bK (iz 3e8) (ao 6))
 (bf (tZ 100 (jb (ai 6)) eR)
 (bX (ai 4)))))))
def gN:List D->aw->aj D:=iq 2 8 pb
theorem fY:aR ["web", "pieces", "start", "fars", "piece"] ["web"] (aq fT):=0e0
theorem kJ:(["place", "far"]:List Str).Nodup:=by decide +kernel
def jh:ME:=ai 0
def je:MT:=lx (aK (xS true) (ai 1) (cC .non))
def gD:MS:=bf (bK (aB gN (af 4e0 (af (ai 2) (az)))) (ao 3))
 (bf (bK (aB fu (af (cL (jC mF (af (ai 3) (az))) [none,none] (cy 2 1e7) (je) (jh)) (az))) (ao 4))
 (pF (lx (aK (j5 false) (aK fK (ai 4) 2e7) (ai 2))) (mE (y4 eB (ai 1) (af (ai 4) (az)))) (dG)))
def oY:MS:=bf (bK (iz (az)) (ao 1))
 (bf (ly (jC lz (af (aK fK 4e0 2e7) (az))) (ao 2) gD)
 (bX (ai 1)))
def fE:List D->aw->aj D:=iq 1 5 oY
theorem lj:aR ["web", "places", "many", "ties", "kept"] ["web", "places"] (aq ir):=0e0
theorem oO:(["a", "b", "places"]:List Str).Nodup:=by decide +kernel
theorem oN:(["a", "b", "places"]:List Str).Nodup:=by decide +kernel
def mn:ME:=d9 (af 4e0 3e8)
def qX:MT:=sE (lx (aK (pU false) 4e0 (ai 2))) (lx (aK (pU false) (ai 1) (ai 2)))
def qZ:ME:=d9 (af (tT eW (ai 2) (af 4e0 (az))) (af (tT eW (ai 2) 3e8) (az)))
def qK:MS:=bf (bK 4e0 (cy 2 (aT (ao 2) (aT (ao 3) (cz)))))
 (bf (pF (gH (jb (aB (fun ds Y=>(bI ds Y).nox) (af (ai 2) 3e8)))) (Cy "NoPlace") (dG))
 (bf (bK (cL (gh (ai 3)) [none,none,some 1] (cy 2 1e7) (qX) (mn)) (ao 4))
 (bX (aB fS (af (aB mB 3e8) (af (cL (gh (ai 4)) [none,none,some 1] (cy 2 1e7) (cV) (qZ)) (az)))))))
def gK:List D->aw->aj D:=iq 2 5 qK
theorem iu:aR ["one", "other", "ahead", "ties", "behind", "others", "many"] ["one", "other"] (aq jr):=0e0
theorem oP:(["a", "b", "ahead"]:List Str).Nodup:=by decide +kernel
def mq:ME:=d9 (af (aK cx (ai 2) 4e0) (af (aK cx (ai 2) (ai 1)) (az)))
def xb:MS:=bf (bK 4e0 (cy 2 (aT (ao 2) (aT (ao 3) (cz)))))
 (bf (bK (ai 1) (cy 2 (aT (ao 4) (aT (ao 5) (cz)))))
 (bf (bK (aK cx (ai 2) (ai 4)) (ao 6))
 (bf (pF (lx (aK (nD .Gt) (ai 6) (cC (.int 6)))) (mJ "TooGreat" "many" "most" (af (ai 6) (af (cC (.int 6)) (az)))) (dG))
 (bX (aB fS (af (ai 6) (af (aK cx (aB hG (af (ai 3) (az))) (cL (gh (ai 5)) [none,none,some 2] (cy 2 1e7) (cV) (mq))) (az))))))))
def gL:List D->aw->aj D:=iq 2 7 xb
theorem pA:aR ["_law_script", "_law_k"] ["_law_script", "_law_k"] (aq eZ):=0e0
def iP:MS:=bf (pF (lx (aK (nD .Lt) (ai 1) (aB mB (af 4e0 (az))))) (bX (aK fK 4e0 (ai 1))) (dG))
 (bX 2e7)
def dZ:List D->aw->aj D:=iq 2 2 iP
theorem ni:aR ["_law_seed"] ["_law_seed"] (aq ik):=0e0
def pd:MS:=bf (bK (aK vw (aK cx 4e0 (cC (.int 7919))) (cC (.int 2147483647))) (ao 0))
 (bX (aK vw (aK cx (aK cx (aK rR 4e0 4e0) (aK rR (cC (.int 48271)) 4e0)) (cC (.int 12345))) (cC (.int 2147483629))))
def fF:List D->aw->aj D:=iq 1 1 pd
theorem kI:aR ["_law_cell", "_law_left"] ["_law_cell"] (aq f7):=0e0
def lU:MS:=bf (bK (aB tS (af 4e0 (af (aK Ao 2e7 4e0) (az)))) (ao 1))
 (bX (iz (af (ai 1) (af (aB vI (af (aK (nD .GtE) (ai 1) (aK Ap (cC (.int 10)) (cC (.int 18)))) (az))) (af (aK vw (ai 1) (cC (.int 1000003))) (az))))))
def eU:List D->aw->aj D:=iq 1 2 lU
theorem nj:aR ["_law_pen", "_law_many", "_law_found"] ["_law_pen", "_law_many"] (aq ip):=0e0
def kH:MS:=bf (pF (lx (aK (j5 false) (aK fK 4e0 (cC (.int 1))) (cC (.int 1)))) (bf (bK (aK vw (aK fK 4e0 2e7) (ai 1)) (ao 2))
 (bf (bK (aK vK (aK fK 4e0 2e7) (ai 1)) (oH 4e0 2e7))
 (bX (ai 2)))) (dG))
 (bf (bK (aB fF (af (aK cx (aB fF (af (aK fK 4e0 (cC (.int 2))) (az))) (cC (.int 7))) (az))) (oH 4e0 (cC (.int 2))))
 (bX (aK vw (aK vK (aK fK 4e0 (cC (.int 2))) (cC (.int 64))) (ai 1))))
def aP:List D->aw->aj D:=iq 2 3 kH
theorem sd:aR ["_law_found"] ["_law_found"] (aq gB):=0e0
def vf:MS:=bX (jm (lu (fL "int") 4e0) (vL (lu (fL "bool") 4e0)))
def cq:List D->aw->aj D:=iq 1 1 vf
theorem gR:aR ["_law_e", "_law_marks"] ["_law_e"] (aq eY):=0e0
def kP:MS:=bf (bK (iz (af (lu (lA ["NoPlace"] ["NoPlace", "NoWeb", "TooGreat"]) 4e0) (af (lu (lA [] ["NoPlace", "NoWeb", "TooGreat"]) 4e0) (af (lu (lA [] ["NoPlace", "NoWeb", "TooGreat"]) 4e0) (af (lu (lA [] ["NoPlace", "NoWeb", "TooGreat"]) 4e0) (az)))))) (ao 1))
 (bf (bK (aK cx (ai 1) (iz (af (lu (lA [] ["NoPlace", "NoWeb", "TooGreat"]) 4e0) (af (lu (lA ["NoWeb"] ["NoPlace", "NoWeb", "TooGreat"]) 4e0) (af (lu (lA [] ["NoPlace", "NoWeb", "TooGreat"]) 4e0) (af (lu (lA ["TooGreat"] ["NoPlace", "NoWeb", "TooGreat"]) 4e0) (az))))))) (ao 1))
 (bf (pF (rT (gH (jb (lu (lA ["NoPlace", "NoWeb", "TooGreat"] ["NoPlace", "NoWeb", "TooGreat"]) 4e0))) (lx (aK (j5 true) (y4 lh (ai 1) (af (cC (.bl true)) (az))) (cC (.int 1))))) (bX (cC (.str "other"))) (dG))
 (bX (aK fK (iz (af (cC (.str "place")) (af (cC (.str "number")) (af (cC (.str "line")) (af (cC (.str "root")) (af (cC (.str "tree")) (af (cC (.str "web")) (af (cC (.str "text")) (af (cC (.str "great")) (az)))))))))) (y4 lb (ai 1) (af (cC (.bl true)) (az)))))))
def cD:List D->aw->aj D:=iq 1 2 kP
theorem jU:aR ["_law_e", "_law_kind"] ["_law_e"] (aq eX):=0e0
def iO:MS:=bf (bK (aB cD (af 4e0 (az))) (ao 1))
 (bf (pF (lx (aK (j5 false) (ai 1) (cC (.str "great")))) (bX (d9 (af (ai 1) (af (lu (sD ["TooGreat"] "many") 4e0) (af (lu (sD ["TooGreat"] "most") 4e0) (az)))))) (dG))
 (bX (d9 3e8)))
def bT:List D->aw->aj D:=iq 1 2 iO
theorem rk:aR ["_law_many", "_law_ties"] ["_law_many", "_law_ties"] (aq dX):=0e0
theorem jz:(["_law_a", "_law_b"]:List Str).Nodup:=by decide +kernel
def gZ:ME:=d9 (af (aB pX (af 4e0 3e8)) (af (aB tS (af 4e0 3e8)) (az)))
def lR:MS:=bX (d9 (af 4e0 (af (aB fu (af (aB eA (af (aB xR (af (cL (gh (ai 1)) [none,none] (cy 2 1e7) (cV) (gZ)) (az))) (az))) (az))) (az))))
def cT:List D->aw->aj D:=iq 2 2 lR
theorem cQ:aR ["_law_pen", "_law_most", "_law_many", "_law_share", "_law_ties", "_law_one"] ["_law_pen", "_law_most"] (aq cP):=0e0
theorem lF:(["_law_other", "_law_one", "_law_pen", "_law_share"]:List Str).Nodup:=by decide +kernel
def du:ME:=d9 (af 4e0 3e8)
def dr:MT:=lx (aK (j5 false) (aB aP (af (ai 2) (af (ai 3) (az)))) 2e7)
def cF:MS:=mE (y4 ie (ai 4) (af (cL (jC lz (af (ai 5) (az))) [none,some 5,some 0,some 3] (ao 0) (dr) (du)) (az)))
def jA:MS:=bf (bK (aK cx (cC (.int 1)) (aB aP (af 4e0 3e8))) (ao 2))
 (bf (bK (aK cx (cC (.int 2)) (aB aP (af 4e0 (af (cC (.int 3)) (az))))) (ao 3))
 (bf (bK (iz (az)) (ao 4))
 (bf (ly (jC lz (af (ai 2) (az))) (ao 5) cF)
 (bX (aB cT (af (ai 2) (af (ai 4) (az))))))))
def bR:List D->aw->aj D:=iq 2 6 jA
theorem uS:aR ["_law_web", "_law_place"] ["_law_web", "_law_place"] (aq fX):=0e0
theorem kK:(["_law_a", "_law_b", "_law_place"]:List Str).Nodup:=by decide +kernel
def ji:ME:=aK Ao (aK cx 4e0 (ai 1)) (ai 2)
def jg:MT:=lx (aK (pU false) (ai 2) (d9 (af 4e0 3e8)))
def pf:MS:=bX (cL (gh (aK fK 4e0 (cC (.int 1)))) [none,none,some 1] (cy 2 1e7) (jg) (ji))
def gO:List D->aw->aj D:=iq 2 2 pf
theorem mx:aR ["_law_found", "_law_due"] ["_law_found", "_law_due"] (aq cE):=0e0
theorem kX:(["_law_one"]:List Str).Nodup:=by decide +kernel
theorem kU:(["_law_number"]:List Str).Nodup:=by decide +kernel
def cY:ME:=aB cq (af 4e0 (az))
def eJ:ME:=jm (lu (fL "tuple") 4e0) (aB rS (af (cL (gh 4e0) [none] (ao 0) (cV) (cY)) (az)))
def i9:MS:=bf (pF (rT (gH (jb (lu (fL "tuple") 4e0))) (lx (aK (j5 true) 4e0 (ai 1)))) (bX (cC (.bl false))) (dG))
 (bX (aB rS (af (cL (gh 4e0) [none] (ao 0) (cV) (eJ)) (az))))
def bz:List D->aw->aj D:=iq 2 2 i9
theorem rl:aR ["_law_found", "_law_due"] ["_law_found", "_law_due"] (aq f6):=0e0
def lS:MS:=bf (pF (rT (gH (jb (lu (fL "tuple") 4e0))) (rT (lx (aK (j5 true) (aB mB (af 4e0 (az))) (cC (.int 2)))) (rT (gH (jb (aB cq (af (aK fK 4e0 2e7) (az))))) (lx (aK (j5 true) 4e0 (ai 1)))))) (bX (cC (.bl false))) (dG))
 (bX (aB bz (af (aK fK 4e0 (cC (.int 1))) (af (aK fK (ai 1) (cC (.int 1))) (az)))))
def cv:List D->aw->aj D:=iq 2 2 lS
theorem jw:aR ["_law_pen", "_law_many", "_law_odd"] ["_law_pen", "_law_many"] (aq eD):=0e0
def j4:MS:=bf (bK (iz (af (ai 1) (af (aK cx (aK cx (ai 1) (cC (.int 1))) (aB aP (af 4e0 (af (aK Ap (cC (.int 10)) (cC (.int 9))) (az))))) (af (lu vv (cC (.int 1))) (af (cC (.bl true)) (af (cC (.bl false)) (af (cC .non) (af (cC (.str "0")) (af (d9 (af 2e7 (az))) (af (iz (af 2e7 (az))) (af (Ar) (az)))))))))))) (ao 2))
 (bX (aK fK (ai 2) (aB aP (af 4e0 (af (cC (.int 10)) (az))))))
def bY:List D->aw->aj D:=iq 2 3 j4
theorem nh:aR ["_law_way", "_law_web", "_law_other", "_law_e"] ["_law_way", "_law_web", "_law_other"] (aq ij):=0e0
def cS:MS:=bX (qh [gK,gL] 0 (af (ai 1) (af (ai 2) (az))))
def gE:MS:=bX (aB bT (af (ai 3) (az)))
def kG:MS:=BP ["NoPlace", "NoWeb", "TooGreat"] 3 4 cS gE
def bJ:List D->aw->aj D:=iq 3 4 kG
theorem dg:aR ["_law_web", "_law_found", "_law_place", "_law_piece", "_law_turn", "_law_one"] ["_law_web"] (aq dY):=0e0
theorem ot:(["_law_other", "_law_piece"]:List Str).Nodup:=by decide +kernel
def g6:ME:=ai 0
def gX:MT:=lx (aK (pU true) 4e0 (ai 1))
def fg:MS:=mE (y4 ie (ai 3) (af (cL (gh (aB gO (af 4e0 (af (ai 5) (az))))) [none,some 3] (ao 0) (gX) (g6)) (az)))
def ff:MS:=ly (gh (aB hG (af (ai 3) (az)))) (ao 5) fg
def dB:MS:=bf (bK (iz (af (ai 2) (az))) (ao 3))
 (bf (ly (jC lz (af (aK fK 4e0 2e7) (az))) (ao 4) ff)
 (pF (lx (aK (j5 false) (aB pX (af (ai 3) (az))) (ai 2))) (mE (y4 eB (ai 1) (af (aB fu (af (aB eA (af (ai 3) (az))) (az))) (az)))) (dG)))
def lT:MS:=bf (bK (iz (az)) (ao 1))
 (bf (ly (jC lz (af (aK fK 4e0 2e7) (az))) (ao 2) dB)
 (bX (ai 1)))
def dE:List D->aw->aj D:=iq 1 6 lT
theorem rm:aR ["_law_thing", "_law_many"] ["_law_thing", "_law_many"] (aq df):=0e0
theorem oy:(["_law_one"]:List Str).Nodup:=by decide +kernel
theorem ou:(["_law_place", "_law_thing"]:List Str).Nodup:=by decide +kernel
def j3:ME:=aB cq (af 4e0 (az))
def jZ:ME:=ai 0
def gY:MT:=lx (aK (pU false) 4e0 (ai 1))
def lV:MS:=bf (pF (rT (gH (jb (lu (fL "tuple") 4e0))) (gH (jb (aB rS (af (cL (gh 4e0) [none] (ao 0) (cV) (j3)) (az)))))) (bX (cC (.bl false))) (dG))
 (bX (jm (aK (j5 true) 4e0 (d9 (az))) (aK (j5 false) (aB hG (af 4e0 (az))) (cL (jC lz 3e8) [none,some 0] (ao 0) (gY) (jZ)))))
def eV:List D->aw->aj D:=iq 2 2 lV
theorem gC:aR ["_law_web", "_law_lot", "_law_held", "_law_found", "_law_ties"] ["_law_web", "_law_lot"] (aq eQ):=0e0
theorem jV:(["_law_a", "_law_b", "_law_lot"]:List Str).Nodup:=by decide +kernel
def kO:ME:=d9 (af (tT eW (ai 2) (af 4e0 (az))) (af (tT eW (ai 2) 3e8) (az)))
def kN:MT:=sE (lx (aK (pU false) 4e0 (ai 2))) (lx (aK (pU false) (ai 1) (ai 2)))
def nt:MS:=bf (bK (aB iH 3e8) (ao 2))
 (bf (bK (aB bJ (af 2e7 (af 4e0 3e8))) (ao 3))
 (bf (pF (lx (aK (Aq true) (aB iH 3e8) (ai 2))) (bX (cC (.bl false))) (dG))
 (bf (pF (gH (jb (aB eV (af (ai 1) (af (aK fK 4e0 2e7) (az)))))) (bX (aK (j5 false) (ai 3) (d9 (af (cC (.str "place")) (az))))) (dG))
 (bf (bK (cL (gh (aK fK 4e0 (cC (.int 1)))) [none,none,some 1] (cy 2 1e7) (kN) (kO)) (ao 4))
 (bX (aB cv (af (ai 3) (af (d9 (af (aB mB 3e8) (af (aB fu (af (ai 4) (az))) (az)))) (az)))))))))
def fZ:List D->aw->aj D:=iq 2 5 nt
theorem d7:aR ["_law_web", "_law_other", "_law_found", "_law_many"] ["_law_web", "_law_other"] (aq bU):=0e0
theorem f9:(["_law_a", "_law_b", "_law_web"]:List Str).Nodup:=by decide +kernel
def gr:ME:=d9 (af (aK cx 4e0 (aK fK (ai 2) 2e7)) (af (aK cx (ai 1) (aK fK (ai 2) 2e7)) (az)))
def hV:MS:=bf (bK (aB bJ (af (cC (.int 1)) (af 4e0 3e8))) (ao 2))
 (bf (bK (aK cx (aK fK 4e0 2e7) (aK fK (ai 1) 2e7)) (ao 3))
 (bf (pF (lx (aK (nD .Gt) (ai 3) (cC (.int 6)))) (bX (aK (j5 false) (ai 2) (d9 (af (cC (.str "great")) (af (ai 3) (af (cC (.int 6)) (az))))))) (dG))
 (bX (aB cv (af (ai 2) (af (aB cT (af (ai 3) (af (aK cx (aB hG (af (aK fK 4e0 (cC (.int 1))) (az))) (cL (gh (aK fK (ai 1) (cC (.int 1)))) [none,none,some 0] (cy 2 1e7) (cV) (gr))) (az)))) (az)))))))
def cj:List D->aw->aj D:=iq 2 4 hV
theorem fm:aR ["_law_script", "_law_cell", "_law_pen", "_law_web", "_law_due", "_law_turn", "_law_found", "_law_lot", "_law_spot", "_law_odd", "_law_bent", "_law_thing", "_law_other", "_law_few", "_law_pair"] ["_law_script"] (aq km):=0e0
theorem D1:(["_law_place", "_law_pen"]:List Str).Nodup:=by decide +kernel
def mT:MS:=bf (bK (aB fE (af (ai 3) (az))) (ao 6))
 (bf (pF (rT (gH (jb (lu (fL "list") (ai 6)))) (gH (jb (aB bz (af (aB fu (af (ai 6) (az))) (af (aB fu (af (ai 4) (az))) (az))))))) (bX (cC (.bl false))) (dG))
 (mE (y4 eB (ai 6) (af (cC .non) (az)))))
def mU:ME:=ai 0
def mR:MT:=lx (aK (j5 false) (aB aP (af (ai 1) (af (cC (.int 2)) (az)))) 2e7)
def mS:MS:=pF (gH (jb (aB fZ (af (ai 3) (af (ai 11) (az)))))) (bX (cC (.bl false))) (dG)
def pR:MS:=pF (gH (jb (aB cj (af (aK fK (ai 14) 2e7) (af (aK fK (ai 14) (cC (.int 1))) (az)))))) (bX (cC (.bl false))) (dG)
def pQ:MS:=bf (bK (aB eU 3e8) (ao 2))
 (bf (bK (aB bR (af (ai 2) (af (cC (.int 6)) (az)))) (ao 3))
 (bf (bK (aB dE (af (ai 3) (az))) (ao 4))
 (bf (ly (jC lz (af (cC (.int 2)) (az))) (ao 5) mT)
 (bf (bK (aB fu (af (cL (jC lz (af (aK fK (ai 3) 2e7) (az))) [none,some 2] (ao 0) (mR) (mU)) (az))) (ao 7))
 (bf (bK (aB aP (af (ai 2) (af (aK cx (aB mB (af (ai 7) (az))) (cC (.int 1))) (az)))) (ao 8))
 (bf (bK (aB bY (af (ai 2) (af (aK fK (ai 3) 2e7) (az)))) (ao 9))
 (bf 4e4
 (bf (ly (gh (aK cx (iz (af (ai 7) (af (d9 (az)) (af (aB qe (af (aK fK (ai 3) 2e7) (az))) (af (aK fK (ai 10) (aB aP (af (ai 2) (af (cC (.int 9)) (az))))) (af (aK fK (ai 10) (aB aP (af (ai 2) (af (cC (.int 9)) (az))))) (az))))))) (ai 4))) (ao 11) mS)
 (bf (bK (aB bR (af (ai 2) (af (cC (.int 6)) (az)))) (ao 12))
 (bf (bK (aB bR (af (ai 2) (af (cC (.int 3)) (az)))) (ao 13))
 (ly (gh (iz (af (d9 (af (ai 3) (af (ai 12) (az)))) (af (d9 (af (ai 3) (af (ai 13) (az)))) (af (d9 (af (ai 13) (af (ai 12) (az)))) (af (d9 (af (ai 13) (af (ai 13) (az)))) (az))))))) (ao 14) pR)))))))))))
def HU:MS:=bf (ly (gh (aK cx (iz (af (aB dZ (af 4e0 (af 2e7 (az)))) (az))) (ED 4e0 (ke (cC (.int 1))) (ke (cC (.int 8)))))) (ao 1) pQ)
 (bX (cC (.bl true)))
def vR:List D->aw->aj D:=iq 1 15 HU
theorem xj(nm:Nm mg)(F:gf K "is_whole" "is_whole" i5 f fd)(hm:mg "is_whole" = some 3e7):d8 P w K mg base 3e1 1 "is_whole" 1 dq:=
 c8 F xh rfl hm 3e2 fun cdv A outer s H E hr=>
 aX (bA (lI (lJ (T:="int") 0e4 C6 0e4 0e4 nm.isinstance nm.int 4e3) (oB (Hm (lJ (T:="bool") 0e4 z7 0e4 0e4 nm.isinstance nm.bool 4e3)))))
theorem oj(nm:Nm mg)(F:gf K "is_whole_from" "is_whole_from" eC f fd)(hm:mg "is_whole_from" = some 3e7)(d_is_whole:d8 P w K mg base 3e1 1 "is_whole" 1 dq):d8 P w K mg base 3e1 2 "is_whole_from" 3 bt:=
 c8 F oi rfl hm (F.b3 (by rfl) fun _ _ _ _ _ _ _ _ _=>by rfl) fun cdv A outer s H E hr=>
 aX (bA (lI (bc d_is_whole 1e4 (aQ 4e3 (br))) (oB (LL (oG (op:=.LtE) hr.units) (oG (op:=.LtE) hr.units) (aG 1) 4e3 (aG 2)))))
theorem xk(nm:Nm mg)(F:gf K "is_place" "is_place" i6 f fd)(hm:mg "is_place" = some 3e7)(d_is_whole_from:d8 P w K mg base 3e1 2 "is_whole_from" 3 bt):d8 P w K mg base 3e1 3 "is_place" 2 fC:=
 c8 F xi rfl hm 1e0 fun cdv A outer s H E hr=>
 aX (bA (bc d_is_whole_from 1e4 (aQ (aG 1) (aQ (cU) (aQ (y8 4e3 (cU)) (br))))))
theorem uV(nm:Nm mg)(F:gf K "is_places" "is_places" fV f fd)(hm:mg "is_places" = some 3e7)(d_is_place:d8 P w K mg base 3e1 3 "is_place" 2 fC):d8 P w K mg base 3e1 4 "is_places" 2 cu:=
 c8 F uR rfl hm 1e0 fun cdv A outer s H E hr=>
 aX (bA (lI (lJ (T:="tuple") 0e4 kx 0e4 0e4 nm.isinstance nm.tuple (aG 1)) (oB (bM vM nm.all (aQ (dU (bW (N:=["many", "thing"]) (sc:=aq fV) (Nc:=["place", "many"]) (cap:=[none,some 0]) rfl rfl 0e8) (rM (aG 1)) (fun _ _ _ _ _=>gP 0 rJ) (fun _ _ _ _ _=>lH) (fun _ _ _ _ _=>bc d_is_place 1e4 (aQ (aG 1) (aQ 4e3 (br))))) (br))))))
theorem uU(nm:Nm mg)(F:gf K "is_rising" "is_rising" fU f fd)(hm:mg "is_rising" = some 3e7):d8 P w K mg base 3e1 1 "is_rising" 1 gM:=
 c8 F uQ rfl hm 3e2 fun cdv A outer s H E hr=>
 aX (bA (bM vM nm.all (aQ (dU (bW (N:=["things"]) (sc:=aq fU) (Nc:=["at", "things"]) (cap:=[none,some 0]) rfl rfl 0e8) (NR nm.range (aQ (cU) (aQ (bM oJ nm.len (aQ 4e3 (br))) (br)))) (fun _ _ _ _ _=>gP 0 rH) (fun _ _ _ _ _=>lH) (fun _ _ _ _ _=>mD (oG (op:=.Lt) hr.units) (dO (aG 1) (y8 4e3 (cU))) (dO (aG 1) 4e3))) (br))))
theorem lE(nm:Nm mg)(F:gf K "is_rising_places" "is_rising_places" cX f fd)(hm:mg "is_rising_places" = some 3e7)(d_is_places:d8 P w K mg base 3e1 4 "is_places" 2 cu)(d_is_rising:d8 P w K mg base 3e1 1 "is_rising" 1 gM):d8 P w K mg base 3e1 5 "is_rising_places" 2 bI:=
 c8 F lD rfl hm 1e0 fun cdv A outer s H E hr=>
 aX (bA (lI (bc d_is_places 1e4 (aQ 4e3 4e1)) (lI (mD (oG (op:=.Gt) hr.units) (bM oJ nm.len 4e1) (cU)) (oB (bc d_is_rising 1e4 4e1)))))
theorem yy(nm:Nm mg)(F:gf K "is_many" "is_many" jL f fd)(hm:mg "is_many" = some 3e7)(c_MOST_PLACES:∃t,mg "MOST_PLACES" = some (.int 6 t))(d_is_whole_from:d8 P w K mg base 3e1 2 "is_whole_from" 3 bt):d8 P w K mg base 3e1 3 "is_many" 1 jv:=
 c8 F yp rfl hm 3e2 fun cdv A outer s H E hr=>
 aX (bA (bc d_is_whole_from 1e4 (aQ 4e3 (aQ (cU) (aQ (HZ c_MOST_PLACES) (br))))))
theorem yw(nm:Nm mg)(F:gf K "is_pair" "is_pair" jK f fd)(hm:mg "is_pair" = some 3e7)(d_is_places:d8 P w K mg base 3e1 4 "is_places" 2 cu):d8 P w K mg base 3e1 5 "is_pair" 2 ix:=
 c8 F yo rfl hm 1e0 fun cdv A outer s H E hr=>
 aX (bA (lI (bc d_is_places 1e4 (aQ 4e3 4e1)) (lI (mD (rQ hr.units) (bM oJ nm.len 4e1) (cU)) (oB (mD (An hr.units) (dO (aG 1) (cU)) (dO (aG 1) (cU)))))))
theorem A5(nm:Nm mg)(F:gf K "web_of" "web_of" jq f fd)(hm:mg "web_of" = some 3e7){a_NoWeb:Addr}(k_NoWeb:W.nsIn K mainGlobals "NoWeb" = some (some (.ref a_NoWeb)))(i_NoWeb:vP P w K mg base "NoWeb" "number" a_NoWeb)(d_is_many:d8 P w K mg base 3e1 3 "is_many" 1 jv)(d_is_pair:d8 P w K mg base 3e1 5 "is_pair" 2 ix):rW P w K mg base 6 "web_of" 2 fS:=
 xV F nP rfl hm 1e0 fun cdv A outer s H E hr=>
 aO (jB (iU (xG (uh d_is_many 1e4 (aQ 4e3 (br))))) (aX (vS k_NoWeb i_NoWeb 1e4 (aQ (σ0 (cU)) (br)))) (fM))
 (aO (kc PassesOwn.leaving (LB nm.enumerate 4e1) (iD (bL (gP 2 nP.nd) (bL (gP 3 nP.nd) (iE)))) (aX (jB (iU (xG (uh d_is_pair 1e4 (aQ 4e3 (aQ (aG 3) (br)))))) (aX (vS k_NoWeb i_NoWeb 1e4 (aQ (aG 2) (br)))) (fM))))
 (aX (bA (di (aQ 4e3 (aQ (bM i4 nm.tuple (aQ (bM qH nm.sorted (aQ (Fc (bW (N:=["many", "things", "at", "thing"]) (sc:=aq jq) (Nc:=["pair"]) (cap:=[none]) rfl rfl 0e8) (rM (aG 1)) (fun _ _ _ _ _=>gP 0 xl) (fun _ _ _ _ _=>lH) (fun _ _ _ _ _ _=>MQ rfl hr.units (di (aQ (bM Cf nm.min (aQ 4e3 (br))) (aQ (bM Cg nm.max (aQ 4e3 (br))) (br)))))) (br))) (br))) (br)))))))
theorem rA(nm:Nm mg)(F:gf K "next_places" "next_places" de f fd)(hm:mg "next_places" = some 3e7):d8 P w K mg base 3e1 1 "next_places" 2 eT:=
 c8 F rj rfl hm 1e0 fun cdv A outer s H E hr=>
 aX (bA (dw (dU (bW (N:=["ties", "front"]) (sc:=aq de) (Nc:=["a", "b", "front"]) (cap:=[none,none,some 1]) rfl rfl 0e8) (rM 4e3) (fun _ _ _ _ _=>iD (bL (gP 0 jy) (bL (gP 1 jy) (iE)))) (fun _ _ _ _ _=>ka (dy (vq hr.units) 4e3 (aG 2))) (fun _ _ _ _ _=>aG 1)) (dU (bW (N:=["ties", "front"]) (sc:=aq de) (Nc:=["a", "b", "front"]) (cap:=[none,none,some 1]) rfl rfl 0e8) (rM 4e3) (fun _ _ _ _ _=>iD (bL (gP 0 jx) (bL (gP 1 jx) (iE)))) (fun _ _ _ _ _=>ka (dy (vq hr.units) (aG 1) (aG 2))) (fun _ _ _ _ _=>aG 0))))
theorem uW(nm:Nm mg)(F:gf K "fars_from" "fars_from" fW f fd)(hm:mg "fars_from" = some 3e7)(d_next_places:d8 P w K mg base 3e1 1 "next_places" 2 eT):d8 P w K mg base 3e1 2 "fars_from" 2 gN:=
 c8 F cn rfl hm 1e0 fun cdv A outer s H E hr=>
 aO (oE 4e3 (iD (bL (gP 2 cn.nd) (bL (gP 3 cn.nd) (iE)))))
 (aO (bZ 4 cn.nd (σ1 (g8 (aQ (KW) (br))) (aG 2)))
 (aO (oE (cU) (ze (aG 4) (aG 1)))
 (aO (bZ 5 cn.nd (cU))
 (aO (bZ 6 cn.nd (g8 4e1))
 (aO (FP 100 Td (xG (aG 6)) (aO (ρ9 5 cn.nd (cU))
 (aO (xY 6 cn.nd (bW (N:=["web", "start", "many", "ties", "fars", "far", "front", "place"]) (sc:=aq fW) (Nc:=["place", "fars"]) (cap:=[none,some 4]) rfl rfl 0e8) (rM (bc d_next_places 1e4 (aQ (aG 3) (aQ (aG 6) (br))))) (fun _ _ _ _ _=>gP 0 rK) (fun _ _ _ _ _=>ka (dy (Mx) (dO (aG 1) 4e3) (KW))) (fun _ _ _ _ _=>aG 0))
 (aX (kc Td (rM (aG 6)) (gP 7 cn.nd) (aX (oE (aG 5) (ze (aG 4) (aG 7)))))))))
 (aX (bA (aG 4))))))))
theorem uT(nm:Nm mg)(F:gf K "pieces_of" "pieces_of" fT f fd)(hm:mg "pieces_of" = some 3e7)(d_fars_from:d8 P w K mg base 3e1 2 "fars_from" 2 gN):d8 P w K mg base 3e1 3 "pieces_of" 1 fE:=
 c8 F fY rfl hm 3e2 fun cdv A outer s H E hr=>
 aO (bZ 1 fY.nd (g8 (br)))
 (aO (kc Td (vt nm.range (aQ (dO 4e3 (cU)) (br))) (gP 2 fY.nd) (aO (bZ 3 fY.nd (bc d_fars_from 1e4 (aQ 4e3 (aQ (aG 2) (br)))))
 (aO (bZ 4 fY.nd (bM i4 nm.tuple (aQ (dU (bW (N:=["web", "pieces", "start", "fars", "piece"]) (sc:=aq fT) (Nc:=["place", "far"]) (cap:=[none,none]) rfl rfl 0e8) (LB nm.enumerate (aQ (aG 3) (br))) (fun _ _ _ _ _=>iD (bL (gP 0 kJ) (bL (gP 1 kJ) (iE)))) (fun _ _ _ _ _=>ka (dy (Kh) (aG 1) (KW))) (fun _ _ _ _ _=>aG 0)) (br))))
 (aX (jB (dy (rQ hr.units) (dO (aG 4) (cU)) (aG 2)) (aX (qi (σ2 (aG 1) (aQ (aG 4) (br))))) (fM))))))
 (aX (bA (aG 1))))
theorem A4(nm:Nm mg)(F:gf K "within" "within" ir f fd)(hm:mg "within" = some 3e7)(k_NoPlace:W.nsIn K mainGlobals "NoPlace" = some (some (.ref a_NoPlace)))(o_NoPlace:Au mg base "NoPlace" a_NoPlace)(d_is_rising_places:d8 P w K mg base 3e1 5 "is_rising_places" 2 bI)(d_web_of:rW P w K mg base 6 "web_of" 2 fS):rW P w K mg base 7 "within" 2 gK:=
 xV F lj rfl hm 1e0 fun cdv A outer s H E hr=>
 aO (oE 4e3 (iD (bL (gP 2 lj.nd) (bL (gP 3 lj.nd) (iE)))))
 (aO (jB (iU (xG (uh d_is_rising_places 1e4 (aQ (aG 2) 4e1)))) (aX (E3 k_NoPlace o_NoPlace)) (fM))
 (aO (xY 4 lj.nd (bW (N:=["web", "places", "many", "ties", "kept"]) (sc:=aq ir) (Nc:=["a", "b", "places"]) (cap:=[none,none,some 1]) rfl rfl 0e8) (rM (aG 3)) (fun _ _ _ _ _=>iD (bL (gP 0 oO) (bL (gP 1 oO) (iE)))) (fun _ _ _ _ _=>ka (xM (Hs (dy (vq hr.units) 4e3 (aG 2)) (Cs (dy (vq hr.units) (aG 1) (aG 2)))))) (fun _ _ _ _ _=>di (aQ 4e3 4e1)))
 (aX (bA (zl d_web_of zc 1e4 (aQ (bM oJ nm.len 4e1) (aQ (dU (bW (N:=["web", "places", "many", "ties", "kept"]) (sc:=aq ir) (Nc:=["a", "b", "places"]) (cap:=[none,none,some 1]) rfl rfl 0e8) (rM (aG 4)) (fun _ _ _ _ _=>iD (bL (gP 0 oN) (bL (gP 1 oN) (iE)))) (fun _ _ _ _ _=>lH) (fun _ _ _ _ _=>di (aQ (tX hr.units (aG 2) (aQ 4e3 (br))) (aQ (tX hr.units (aG 2) 4e1) (br))))) (br))))))))
theorem A6(nm:Nm mg)(F:gf K "beside" "beside" jr f fd)(hm:mg "beside" = some 3e7)(c_MOST_PLACES:∃t,mg "MOST_PLACES" = some (.int 6 t))(k_TooGreat:W.nsIn K mainGlobals "TooGreat" = some (some (.ref a_TooGreat)))(j_TooGreat:vO P w K mg base "TooGreat" "many" "most" a_TooGreat)(d_web_of:rW P w K mg base 6 "web_of" 2 fS):rW P w K mg base 7 "beside" 2 gL:=
 xV F iu rfl hm 1e0 fun cdv A outer s H E hr=>
 aO (oE 4e3 (iD (bL (gP 2 iu.nd) (bL (gP 3 iu.nd) (iE)))))
 (aO (oE (aG 1) (iD (bL (gP 4 iu.nd) (bL (gP 5 iu.nd) (iE)))))
 (aO (bZ 6 iu.nd (dw (aG 2) (aG 4)))
 (aO (jB (dy (oG (op:=.Gt) hr.units) (aG 6) (HZ c_MOST_PLACES)) (aX (C9 k_TooGreat j_TooGreat 1e4 (aQ (aG 6) (aQ (HZ c_MOST_PLACES) (br))))) (fM))
 (aX (bA (zl d_web_of zc 1e4 (aQ (aG 6) (aQ (dw (bM qr nm.list (aQ (aG 3) (br))) (dU (bW (N:=["one", "other", "ahead", "ties", "behind", "others", "many"]) (sc:=aq jr) (Nc:=["a", "b", "ahead"]) (cap:=[none,none,some 2]) rfl rfl 0e8) (rM (aG 5)) (fun _ _ _ _ _=>iD (bL (gP 0 oP) (bL (gP 1 oP) (iE)))) (fun _ _ _ _ _=>lH) (fun _ _ _ _ _=>di (aQ (dw (aG 2) 4e3) (aQ (dw (aG 2) (aG 1)) (br)))))) (br)))))))))
theorem pD(nm:Nm mg)(F:gf K "_law_cell_at" "_law_cell_at" eZ f fd)(hm:mg "_law_cell_at" = some 3e7):d8 P w K mg base 3e1 1 "_law_cell_at" 2 dZ:=
 c8 F pA rfl hm 1e0 fun cdv A outer s H E hr=>
 aO (jB (dy (oG (op:=.Lt) hr.units) (aG 1) (bM oJ nm.len (aQ 4e3 (br)))) (aX (bA (dO 4e3 (aG 1)))) (fM))
 (aX (bA (cU)))
theorem uY(nm:Nm mg)(F:gf K "_law_next" "_law_next" ik f fd)(hm:mg "_law_next" = some 3e7):d8 P w K mg base 3e1 1 "_law_next" 1 fF:=
 c8 F ni rfl hm 3e2 fun cdv A outer s H E hr=>
 aO (bZ 0 ni.nd (vA (dw 4e3 (cU)) (cU)))
 (aX (bA (vA (dw (dw (σ1 4e3 4e3) (σ1 (cU) 4e3)) (cU)) (cU))))
theorem rF(nm:Nm mg)(F:gf K "_law_pen_of" "_law_pen_of" f7 f fd)(hm:mg "_law_pen_of" = some 3e7):d8 P w K mg base 3e1 1 "_law_pen_of" 1 eU:=
 c8 F kI rfl hm 3e2 fun cdv A outer s H E hr=>
 aO (bZ 1 kI.nd (bM Cg nm.max (aQ 4e3 (aQ (y8 (cU) 4e3) (br)))))
 (aX (bA (g8 (aQ (aG 1) (aQ (bM MP nm.int (aQ (mD (oG (op:=.GtE) hr.units) (aG 1) (Ho (cU) (cU))) (br))) (aQ (vA (aG 1) (cU)) (br)))))))
theorem u9(nm:Nm mg)(F:gf K "_law_draw" "_law_draw" ip f fd)(hm:mg "_law_draw" = some 3e7)(d__law_next:d8 P w K mg base 3e1 1 "_law_next" 1 fF):d8 P w K mg base 3e1 2 "_law_draw" 2 aP:=
 c8 F nj rfl hm 1e0 fun cdv A outer s H E hr=>
 aO (jB (dy (rQ hr.units) (dO 4e3 (cU)) (cU)) (aO (bZ 2 nj.nd (vA (dO 4e3 (cU)) (aG 1)))
 (aO (oE (Cn (dO 4e3 (cU)) (aG 1)) (ze 4e3 (cU)))
 (aX (bA (aG 2))))) (fM))
 (aO (oE (bc d__law_next 1e4 (aQ (dw (bc d__law_next 1e4 (aQ (dO 4e3 (cU)) (br))) (cU)) (br))) (ze 4e3 (cU)))
 (aX (bA (vA (Cn (dO 4e3 (cU)) (cU)) (aG 1)))))
theorem se(nm:Nm mg)(F:gf K "_law_whole" "_law_whole" gB f fd)(hm:mg "_law_whole" = some 3e7):d8 P w K mg base 3e1 1 "_law_whole" 1 cq:=
 c8 F sd rfl hm 3e2 fun cdv A outer s H E hr=>
 aX (bA (lI (lJ (T:="int") 0e4 C6 0e4 0e4 nm.isinstance nm.int 4e3) (oB (Hm (lJ (T:="bool") 0e4 z7 0e4 0e4 nm.isinstance nm.bool 4e3)))))
theorem pC(nm:Nm mg)(F:gf K "_law_kind_of" "_law_kind_of" eY f fd)(hm:mg "_law_kind_of" = some 3e7){a_NoLine a_NoNumber a_NoRoot a_NoText a_NoTree a_NoWeb:Addr}(q_NoLine:bN K (.ref a_NoLine) [] ["NoPlace", "NoWeb", "TooGreat"])(q_NoNumber:bN K (.ref a_NoNumber) [] ["NoPlace", "NoWeb", "TooGreat"])(q_NoPlace:bN K (.ref a_NoPlace) ["NoPlace"] ["NoPlace", "NoWeb", "TooGreat"])(q_NoRoot:bN K (.ref a_NoRoot) [] ["NoPlace", "NoWeb", "TooGreat"])(q_NoText:bN K (.ref a_NoText) [] ["NoPlace", "NoWeb", "TooGreat"])(q_NoTree:bN K (.ref a_NoTree) [] ["NoPlace", "NoWeb", "TooGreat"])(q_NoWeb:bN K (.ref a_NoWeb) ["NoWeb"] ["NoPlace", "NoWeb", "TooGreat"])(q_TooGreat:bN K (.ref a_TooGreat) ["TooGreat"] ["NoPlace", "NoWeb", "TooGreat"])(q_ValueError:bN K (.type "ValueError") ["NoPlace", "NoWeb", "TooGreat"] ["NoPlace", "NoWeb", "TooGreat"])(m_NoLine:mg "NoLine" = some (.ref a_NoLine))(m_NoNumber:mg "NoNumber" = some (.ref a_NoNumber))(m_NoPlace:mg "NoPlace" = some (.ref a_NoPlace))(m_NoRoot:mg "NoRoot" = some (.ref a_NoRoot))(m_NoText:mg "NoText" = some (.ref a_NoText))(m_NoTree:mg "NoTree" = some (.ref a_NoTree))(m_NoWeb:mg "NoWeb" = some (.ref a_NoWeb))(m_TooGreat:mg "TooGreat" = some (.ref a_TooGreat)):Av P w K mg base 3e1 1 "_law_kind_of" 1 cD:=
 Ck F gR rfl hm 3e2 fun cdv A outer s H E hr=>
 aO (bZ 1 gR.nd (g8 (aQ (oC q_NoPlace nm.isinstance m_NoPlace 4e3) (aQ (oC q_NoNumber nm.isinstance m_NoNumber 4e3) (aQ (oC q_NoLine nm.isinstance m_NoLine 4e3) (aQ (oC q_NoRoot nm.isinstance m_NoRoot 4e3) (br)))))))
 (aO (bZ 1 gR.nd (dw (aG 1) (g8 (aQ (oC q_NoTree nm.isinstance m_NoTree 4e3) (aQ (oC q_NoWeb nm.isinstance m_NoWeb 4e3) (aQ (oC q_NoText nm.isinstance m_NoText 4e3) (aQ (oC q_TooGreat nm.isinstance m_TooGreat 4e3) (br))))))))
 (aO (jB (xM (xN (iU (xG (Iw q_ValueError nm.isinstance nm.ValueError sm 4e3))) (vB (dy (An hr.units) (LK (aG 1) (aQ (BI) (br))) (cU))))) (aX (bA (Ab))) (fM))
 (aX (bA (dO (g8 (aQ (Ab) (aQ (Ab) (aQ (Ab) (aQ (Ab) (aQ (Ab) (aQ (Ab) (aQ (Ab) (aQ (Ab) (br)))))))))) (LJ (aG 1) (aQ (BI) (br))))))))
theorem pB(nm:Nm mg)(F:gf K "_law_refused" "_law_refused" eX f fd)(hm:mg "_law_refused" = some 3e7)(ka_many:jJ K "many" ["TooGreat"])(ka_most:jJ K "most" ["TooGreat"])(d__law_kind_of:Av P w K mg base 3e1 1 "_law_kind_of" 1 cD):Av P w K mg base 3e1 2 "_law_refused" 1 bT:=
 Ck F jU rfl hm 3e2 fun cdv A outer s H E hr=>
 aO (bZ 1 jU.nd (zm d__law_kind_of 1e4 (aQ 4e3 (br))))
 (aO (jB (dy (rQ hr.units) (aG 1) (Ab)) (aX (bA (di (aQ (aG 1) (aQ (Co ka_many 4e3) (aQ (Co ka_most 4e3) (br))))))) (fM))
 (aX (bA (di 4e1))))
theorem rC(nm:Nm mg)(F:gf K "_law_web_of" "_law_web_of" dX f fd)(hm:mg "_law_web_of" = some 3e7):d8 P w K mg base 3e1 1 "_law_web_of" 2 cT:=
 c8 F rk rfl hm 1e0 fun cdv A outer s H E hr=>
 aX (bA (di (aQ 4e3 (aQ (bM i4 nm.tuple (aQ (bM qH nm.sorted (aQ (bM (MN hr.units) nm.set (aQ (dU (bW (N:=["_law_many", "_law_ties"]) (sc:=aq dX) (Nc:=["_law_a", "_law_b"]) (cap:=[none,none]) rfl rfl 0e8) (rM (aG 1)) (fun _ _ _ _ _=>iD (bL (gP 0 jz) (bL (gP 1 jz) (iE)))) (fun _ _ _ _ _=>lH) (fun _ _ _ _ _=>di (aQ (bM Cf nm.min (aQ 4e3 4e1)) (aQ (bM Cg nm.max (aQ 4e3 4e1)) (br))))) (br))) (br))) (br))) (br)))))
theorem nu(nm:Nm mg)(F:gf K "_law_drawn_web" "_law_drawn_web" cP f fd)(hm:mg "_law_drawn_web" = some 3e7)(d__law_draw:d8 P w K mg base 3e1 2 "_law_draw" 2 aP)(d__law_web_of:d8 P w K mg base 3e1 1 "_law_web_of" 2 cT):d8 P w K mg base 3e1 3 "_law_drawn_web" 2 bR:=
 c8 F cQ rfl hm 1e0 fun cdv A outer s H E hr=>
 aO (bZ 2 cQ.nd (dw (cU) (bc d__law_draw 1e4 (aQ 4e3 4e1))))
 (aO (bZ 3 cQ.nd (dw (cU) (bc d__law_draw 1e4 (aQ 4e3 (aQ (cU) (br))))))
 (aO (bZ 4 cQ.nd (g8 (br)))
 (aO (kc Td (vt nm.range (aQ (aG 2) (br))) (gP 5 cQ.nd) (aX (qi (Hq (aG 4) (aQ (dU (bW (N:=["_law_pen", "_law_most", "_law_many", "_law_share", "_law_ties", "_law_one"]) (sc:=aq cP) (Nc:=["_law_other", "_law_one", "_law_pen", "_law_share"]) (cap:=[none,some 5,some 0,some 3]) rfl rfl 0e8) (vt nm.range (aQ (aG 5) (br))) (fun _ _ _ _ _=>gP 0 lF) (fun _ _ _ _ _=>ka (dy (rQ hr.units) (bc d__law_draw 1e4 (aQ (aG 2) (aQ (aG 3) (br)))) (cU))) (fun _ _ _ _ _=>di (aQ 4e3 4e1))) (br))))))
 (aX (bA (bc d__law_web_of 1e4 (aQ (aG 2) (aQ (aG 4) (br)))))))))
theorem uZ(nm:Nm mg)(F:gf K "_law_near" "_law_near" fX f fd)(hm:mg "_law_near" = some 3e7):d8 P w K mg base 3e1 1 "_law_near" 2 gO:=
 c8 F uS rfl hm 1e0 fun cdv A outer s H E hr=>
 aX (bA (dU (bW (N:=["_law_web", "_law_place"]) (sc:=aq fX) (Nc:=["_law_a", "_law_b", "_law_place"]) (cap:=[none,none,some 1]) rfl rfl 0e8) (rM (dO 4e3 (cU))) (fun _ _ _ _ _=>iD (bL (gP 0 kK) (bL (gP 1 kK) (iE)))) (fun _ _ _ _ _=>ka (dy (vq hr.units) (aG 2) (di (aQ 4e3 4e1)))) (fun _ _ _ _ _=>y8 (dw 4e3 (aG 1)) (aG 2))))
theorem my(nm:Nm mg)(F:gf K "_law_tuples_are" "_law_tuples_are" cE f fd)(hm:mg "_law_tuples_are" = some 3e7)(d__law_whole:d8 P w K mg base 3e1 1 "_law_whole" 1 cq):d8 P w K mg base 3e1 2 "_law_tuples_are" 2 bz:=
 c8 F mx rfl hm 1e0 fun cdv A outer s H E hr=>
 aO (jB (xM (xN (iU (xG (lJ (T:="tuple") 0e4 kx 0e4 0e4 nm.isinstance nm.tuple 4e3))) (vB (dy (An hr.units) 4e3 (aG 1))))) (aX (bA (BI))) (fM))
 (aX (bA (bM vM nm.all (aQ (dU (bW (N:=["_law_found", "_law_due"]) (sc:=aq cE) (Nc:=["_law_one"]) (cap:=[none]) rfl rfl 0e8) (rM 4e3) (fun _ _ _ _ _=>gP 0 kX) (fun _ _ _ _ _=>lH) (fun _ _ _ _ _=>lI (lJ (T:="tuple") 0e4 kx 0e4 0e4 nm.isinstance nm.tuple 4e3) (oB (bM vM nm.all (aQ (dU (Hb (N:=["_law_one"]) (Nc:=["_law_number"]) (cap:=[none]) rfl rfl 0e8) (rM 4e3) (fun _ _ _ _ _=>gP 0 kU) (fun _ _ _ _ _=>lH) (fun _ _ _ _ _=>bc d__law_whole 1e4 (aQ 4e3 (br)))) (br)))))) (br)))))
theorem rD(nm:Nm mg)(F:gf K "_law_web_is" "_law_web_is" f6 f fd)(hm:mg "_law_web_is" = some 3e7)(d__law_whole:d8 P w K mg base 3e1 1 "_law_whole" 1 cq)(d__law_tuples_are:d8 P w K mg base 3e1 2 "_law_tuples_are" 2 bz):d8 P w K mg base 3e1 3 "_law_web_is" 2 cv:=
 c8 F rl rfl hm 1e0 fun cdv A outer s H E hr=>
 aO (jB (xM (xN (iU (xG (lJ (T:="tuple") 0e4 kx 0e4 0e4 nm.isinstance nm.tuple 4e3))) (xN (dy (An hr.units) (bM oJ nm.len (aQ 4e3 (br))) (cU)) (xN (iU (xG (bc d__law_whole 1e4 (aQ (dO 4e3 (cU)) (br))))) (vB (dy (An hr.units) 4e3 (aG 1))))))) (aX (bA (BI))) (fM))
 (aX (bA (bc d__law_tuples_are 1e4 (aQ (dO 4e3 (cU)) (aQ (dO (aG 1) (cU)) (br))))))
theorem om(nm:Nm mg)(F:gf K "_law_no_place" "_law_no_place" eD f fd)(hm:mg "_law_no_place" = some 3e7)(d__law_draw:d8 P w K mg base 3e1 2 "_law_draw" 2 aP):d8 P w K mg base 3e1 3 "_law_no_place" 2 bY:=
 c8 F jw rfl hm 1e0 fun cdv A outer s H E hr=>
 aO (bZ 2 jw.nd (g8 (aQ (aG 1) (aQ (dw (dw (aG 1) (cU)) (bc d__law_draw 1e4 (aQ 4e3 (aQ (Ho (cU) (cU)) (br))))) (aQ (σ0 (cU)) (aQ (BI) (aQ (BI) (aQ (KW) (aQ (Ab) (aQ (di (aQ (cU) (br))) (aQ (g8 (aQ (cU) (br))) (aQ (Hn) (br)))))))))))))
 (aX (bA (dO (aG 2) (bc d__law_draw 1e4 (aQ 4e3 (aQ (cU) (br)))))))
theorem uX(nm:Nm mg)(F:gf K "_law_told" "_law_told" ij f fd)(hm:mg "_law_told" = some 3e7){a_RootError:Addr}(m_RootError:mg "RootError" = some (.ref a_RootError))(kn_RootError:vN K "RootError" a_RootError ["NoPlace", "NoWeb", "TooGreat"])(d_beside:rW P w K mg base 7 "beside" 2 gL)(d_within:rW P w K mg base 7 "within" 2 gK)(d__law_refused:Av P w K mg base 3e1 2 "_law_refused" 1 bT):d8 P w K mg base 3e1 8 "_law_told" 3 bJ:=
 c8 F nh rfl hm (F.b3 (by rfl) fun _ _ _ _ _ _ _ _ _=>by rfl) fun cdv A outer s H E hr=>
 aX (LH x5 nh.nd kn_RootError m_RootError (fun pins E=>aX (bA (Iv (we (Lq d_within (HI x5) 1e4) (we (Lq d_beside (HI x5) 1e4) (F7))) (aQ (aG 1) (aQ (aG 2) (br)))))) (fun ea=>aX (bA (zm d__law_refused ((hr.h.mark _).mono 0e4) (aQ (aG 3) (br))))))
theorem rE(nm:Nm mg)(F:gf K "_law_pieces" "_law_pieces" dY f fd)(hm:mg "_law_pieces" = some 3e7)(d__law_near:d8 P w K mg base 3e1 1 "_law_near" 2 gO):d8 P w K mg base 3e1 2 "_law_pieces" 1 dE:=
 c8 F dg rfl hm 3e2 fun cdv A outer s H E hr=>
 aO (bZ 1 dg.nd (g8 (br)))
 (aO (kc Td (vt nm.range (aQ (dO 4e3 (cU)) (br))) (gP 2 dg.nd) (aO (bZ 3 dg.nd (g8 (aQ (aG 2) (br))))
 (aO (kc Td (vt nm.range (aQ (dO 4e3 (cU)) (br))) (gP 4 dg.nd) (aX (kc Td (rM (bM qr nm.list (aQ (aG 3) (br)))) (gP 5 dg.nd) (aX (qi (Hq (aG 3) (aQ (dU (bW (N:=["_law_web", "_law_found", "_law_place", "_law_piece", "_law_turn", "_law_one"]) (sc:=aq dY) (Nc:=["_law_other", "_law_piece"]) (cap:=[none,some 3]) rfl rfl 0e8) (rM (bc d__law_near 1e4 (aQ 4e3 (aQ (aG 5) (br))))) (fun _ _ _ _ _=>gP 0 ot) (fun _ _ _ _ _=>ka (dy (Mv hr.units) 4e3 (aG 1))) (fun _ _ _ _ _=>aG 0)) (br))))))))
 (aX (jB (dy (rQ hr.units) (bM Cf nm.min (aQ (aG 3) (br))) (aG 2)) (aX (qi (σ2 (aG 1) (aQ (bM i4 nm.tuple (aQ (bM qH nm.sorted (aQ (aG 3) (br))) (br))) (br))))) (fM))))))
 (aX (bA (aG 1))))
theorem rG(nm:Nm mg)(F:gf K "_law_is_lot" "_law_is_lot" df f fd)(hm:mg "_law_is_lot" = some 3e7)(d__law_whole:d8 P w K mg base 3e1 1 "_law_whole" 1 cq):d8 P w K mg base 3e1 2 "_law_is_lot" 2 eV:=
 c8 F rm rfl hm 1e0 fun cdv A outer s H E hr=>
 aO (jB (xM (xN (iU (xG (lJ (T:="tuple") 0e4 kx 0e4 0e4 nm.isinstance nm.tuple 4e3))) (vB (iU (xG (bM vM nm.all (aQ (dU (bW (N:=["_law_thing", "_law_many"]) (sc:=aq df) (Nc:=["_law_one"]) (cap:=[none]) rfl rfl 0e8) (rM 4e3) (fun _ _ _ _ _=>gP 0 oy) (fun _ _ _ _ _=>lH) (fun _ _ _ _ _=>bc d__law_whole 1e4 (aQ 4e3 (br)))) (br)))))))) (aX (bA (BI))) (fM))
 (aX (bA (lI (mD (An hr.units) 4e3 (di (br))) (oB (mD (rQ hr.units) (bM qr nm.list (aQ 4e3 (br))) (dU (bW (N:=["_law_thing", "_law_many"]) (sc:=aq df) (Nc:=["_law_place", "_law_thing"]) (cap:=[none,some 0]) rfl rfl 0e8) (vt nm.range 4e1) (fun _ _ _ _ _=>gP 0 ou) (fun _ _ _ _ _=>ka (dy (vq hr.units) 4e3 (aG 1))) (fun _ _ _ _ _=>aG 0)))))))
theorem sg(nm:Nm mg)(F:gf K "_law_right" "_law_right" eQ f fd)(hm:mg "_law_right" = some 3e7)(d__law_told:d8 P w K mg base 3e1 8 "_law_told" 3 bJ)(d__law_is_lot:d8 P w K mg base 3e1 2 "_law_is_lot" 2 eV)(d__law_web_is:d8 P w K mg base 3e1 3 "_law_web_is" 2 cv):d8 P w K mg base 3e1 9 "_law_right" 2 fZ:=
 c8 F gC rfl hm 1e0 fun cdv A outer s H E hr=>
 aO (bZ 2 gC.nd (bM (z9 hr) nm.repr 4e1))
 (aO (bZ 3 gC.nd (bc d__law_told 1e4 (aQ (cU) (aQ 4e3 4e1))))
 (aO (jB (dy (Mw) (bM (z9 hr) nm.repr 4e1) (aG 2)) (aX (bA (BI))) (fM))
 (aO (jB (iU (xG (bc d__law_is_lot 1e4 (aQ (aG 1) (aQ (dO 4e3 (cU)) (br)))))) (aX (bA (mD (rQ hr.units) (aG 3) (di (aQ (Ab) (br)))))) (fM))
 (aO (xY 4 gC.nd (bW (N:=["_law_web", "_law_lot", "_law_held", "_law_found", "_law_ties"]) (sc:=aq eQ) (Nc:=["_law_a", "_law_b", "_law_lot"]) (cap:=[none,none,some 1]) rfl rfl 0e8) (rM (dO 4e3 (cU))) (fun _ _ _ _ _=>iD (bL (gP 0 jV) (bL (gP 1 jV) (iE)))) (fun _ _ _ _ _=>ka (xM (Hs (dy (vq hr.units) 4e3 (aG 2)) (Cs (dy (vq hr.units) (aG 1) (aG 2)))))) (fun _ _ _ _ _=>di (aQ (tX hr.units (aG 2) (aQ 4e3 (br))) (aQ (tX hr.units (aG 2) 4e1) (br)))))
 (aX (bA (bc d__law_web_is 1e4 (aQ (aG 3) (aQ (di (aQ (bM oJ nm.len 4e1) (aQ (bM i4 nm.tuple (aQ (aG 4) (br))) (br)))) (br))))))))))
theorem kT(nm:Nm mg)(F:gf K "_law_beside_right" "_law_beside_right" bU f fd)(hm:mg "_law_beside_right" = some 3e7)(d__law_told:d8 P w K mg base 3e1 8 "_law_told" 3 bJ)(d__law_web_is:d8 P w K mg base 3e1 3 "_law_web_is" 2 cv)(d__law_web_of:d8 P w K mg base 3e1 1 "_law_web_of" 2 cT):d8 P w K mg base 3e1 9 "_law_beside_right" 2 cj:=
 c8 F d7 rfl hm 1e0 fun cdv A outer s H E hr=>
 aO (bZ 2 d7.nd (bc d__law_told 1e4 (aQ (cU) (aQ 4e3 4e1))))
 (aO (bZ 3 d7.nd (dw (dO 4e3 (cU)) (dO (aG 1) (cU))))
 (aO (jB (dy (oG (op:=.Gt) hr.units) (aG 3) (cU)) (aX (bA (mD (rQ hr.units) (aG 2) (di (aQ (Ab) (aQ (aG 3) (aQ (cU) (br)))))))) (fM))
 (aX (bA (bc d__law_web_is 1e4 (aQ (aG 2) (aQ (bc d__law_web_of 1e4 (aQ (aG 3) (aQ (dw (bM qr nm.list (aQ (dO 4e3 (cU)) (br))) (dU (bW (N:=["_law_web", "_law_other", "_law_found", "_law_many"]) (sc:=aq bU) (Nc:=["_law_a", "_law_b", "_law_web"]) (cap:=[none,none,some 0]) rfl rfl 0e8) (rM (dO (aG 1) (cU))) (fun _ _ _ _ _=>iD (bL (gP 0 f9) (bL (gP 1 f9) (iE)))) (fun _ _ _ _ _=>lH) (fun _ _ _ _ _=>di (aQ (dw 4e3 (dO (aG 2) (cU))) (aQ (dw (aG 1) (dO (aG 2) (cU))) (br)))))) (br)))) (br))))))))
theorem KB(nm:Nm mg)(F:gf K "law" "law" km f fd)(d__law_cell_at:d8 P w K mg base 3e1 1 "_law_cell_at" 2 dZ)(d__law_pen_of:d8 P w K mg base 3e1 1 "_law_pen_of" 1 eU)(d__law_drawn_web:d8 P w K mg base 3e1 3 "_law_drawn_web" 2 bR)(d__law_pieces:d8 P w K mg base 3e1 2 "_law_pieces" 1 dE)(d_pieces_of:d8 P w K mg base 3e1 3 "pieces_of" 1 fE)(d__law_tuples_are:d8 P w K mg base 3e1 2 "_law_tuples_are" 2 bz)(d__law_draw:d8 P w K mg base 3e1 2 "_law_draw" 2 aP)(d__law_no_place:d8 P w K mg base 3e1 3 "_law_no_place" 2 bY)(d__law_right:d8 P w K mg base 3e1 9 "_law_right" 2 fZ)(d__law_beside_right:d8 P w K mg base 3e1 9 "_law_beside_right" 2 cj):j6 P w K mg base xK 10 f fd ["_law_script"] (Ey 3e1 1 vR):=
 MJ F fm rfl fun cdv A outer s H E hr=>
 aO (kc Td (rM (dw (g8 (aQ (bc d__law_cell_at 1e4 (aQ 4e3 (aQ (cU) (br)))) (br))) (ES 4e3 (mH (cU)) (mH (cU))))) (gP 1 fm.nd) (aO (bZ 2 fm.nd (bc d__law_pen_of 1e4 4e1))
 (aO (bZ 3 fm.nd (bc d__law_drawn_web 1e4 (aQ (aG 2) (aQ (cU) (br)))))
 (aO (bZ 4 fm.nd (bc d__law_pieces 1e4 (aQ (aG 3) (br))))
 (aO (kc Td (vt nm.range (aQ (cU) (br))) (gP 5 fm.nd) (aO (bZ 6 fm.nd (bc d_pieces_of 1e4 (aQ (aG 3) (br))))
 (aO (jB (xM (xN (iU (xG (lJ (T:="list") 0e4 Hd 0e4 0e4 nm.isinstance nm.list (aG 6)))) (vB (iU (xG (bc d__law_tuples_are 1e4 (aQ (bM i4 nm.tuple (aQ (aG 6) (br))) (aQ (bM i4 nm.tuple (aQ (aG 4) (br))) (br))))))))) (aX (bA (BI))) (fM))
 (aX (qi (σ2 (aG 6) (aQ (KW) (br))))))))
 (aO (bZ 7 fm.nd (bM i4 nm.tuple (aQ (dU (bW (N:=["_law_script", "_law_cell", "_law_pen", "_law_web", "_law_due", "_law_turn", "_law_found", "_law_lot", "_law_spot", "_law_odd", "_law_bent", "_law_thing", "_law_other", "_law_few", "_law_pair"]) (sc:=aq km) (Nc:=["_law_place", "_law_pen"]) (cap:=[none,some 2]) rfl rfl 0e8) (vt nm.range (aQ (dO (aG 3) (cU)) (br))) (fun _ _ _ _ _=>gP 0 D1) (fun _ _ _ _ _=>ka (dy (rQ hr.units) (bc d__law_draw 1e4 (aQ (aG 1) (aQ (cU) (br)))) (cU))) (fun _ _ _ _ _=>aG 0)) (br))))
 (aO (bZ 8 fm.nd (bc d__law_draw 1e4 (aQ (aG 2) (aQ (dw (bM oJ nm.len (aQ (aG 7) (br))) (cU)) (br)))))
 (aO (bZ 9 fm.nd (bc d__law_no_place 1e4 (aQ (aG 2) (aQ (dO (aG 3) (cU)) (br)))))
 (aO (bZ 10 fm.nd (g8 (aQ (dw (dw (ES (aG 7) (ug) (mH (aG 8))) (di (aQ (aG 9) (br)))) (ES (aG 7) (mH (aG 8)) (ug))) (aQ (dw (aG 7) (ES (aG 7) (ug) (mH (cU)))) (aQ (Iu (aG 7) (σ0 (cU))) (aQ (bM qr nm.list (aQ (aG 7) (br))) (aQ (di (aQ (aG 7) (br))) (aQ (KW) (aQ (cU) (aQ (Hn) (aQ (di (aQ (aG 9) (br))) (br))))))))))))
 (aO (kc Td (rM (dw (g8 (aQ (aG 7) (aQ (di (br)) (aQ (Ir nm.range nm.tuple (aQ (dO (aG 3) (cU)) (br))) (aQ (dO (aG 10) (bc d__law_draw 1e4 (aQ (aG 2) (aQ (cU) (br))))) (aQ (dO (aG 10) (bc d__law_draw 1e4 (aQ (aG 2) (aQ (cU) (br))))) (br))))))) (aG 4))) (gP 11 fm.nd) (aX (jB (iU (xG (bc d__law_right 1e4 (aQ (aG 3) (aQ (aG 11) (br)))))) (aX (bA (BI))) (fM))))
 (aO (bZ 12 fm.nd (bc d__law_drawn_web 1e4 (aQ (aG 2) (aQ (cU) (br)))))
 (aO (bZ 13 fm.nd (bc d__law_drawn_web 1e4 (aQ (aG 2) (aQ (cU) (br)))))
 (aX (kc Td (rM (g8 (aQ (di (aQ (aG 3) (aQ (aG 12) (br)))) (aQ (di (aQ (aG 3) (aQ (aG 13) (br)))) (aQ (di (aQ (aG 13) (aQ (aG 12) (br)))) (aQ (di (aQ (aG 13) (aQ (aG 13) (br)))) (br))))))) (gP 14 fm.nd) (aX (jB (iU (xG (bc d__law_beside_right 1e4 (aQ (dO (aG 14) (cU)) (aQ (dO (aG 14) (cU)) (br)))))) (aX (bA (BI))) (fM)))))))))))))))))
 (aX (bA (BI)))
end
end Lw
namespace Lv
variable{adj:Int->Int->Prop}{p:Int}
def R(adj:Int->Int->Prop)(p:Int):Nat->Int->Prop
 |0,q=>q=p
 |n+1,q=>R adj p n q\/∃r,adj r q/\R adj p n r
def tQ(adj:Int->Int->Prop)(p:Int):Nat->Int->Prop
 |0,q=>q=p
 |n+1,q=>R adj p (n+1) q/\¬ R adj p n q
theorem R.up(h:R adj p n q):R adj p (n+1) q:=.inl h
theorem R.mono(h:R adj p n q)(hm:n<=m):R adj p m q:=by
 induction hm with
 |refl=>exact h
 |step _ ih=>exact ih.up
theorem tQ.r(h:tQ adj p n q):R adj p n q:=by
 cases n with
 |zero=>exact h
 |succ n=>exact h.1
theorem R.lev(h:R adj p n q):∃j,j<=n/\tQ adj p j q:=by
 induction n with
 |zero=>exact⟨0,O9 _,h⟩
 |succ n ih=>
  by_cases hr:R adj p n q
  ·obtain⟨j,hj,hl⟩:=ih hr;exact⟨j,by omega,hl⟩
  ·exact⟨n+1,O9 _,h,hr⟩
theorem tQ.low(h:tQ adj p n q)(hj:j<n):¬ R adj p j q:=by
 cases n with
 |zero=>omega
 |succ n=>exact fun hr=>h.2 (hr.mono 0e1)
theorem tQ.one(h:tQ adj p n q)(h':tQ adj p m q):n=m:=by
 rcases Nat.lt_trichotomy n m with z|z|z
 ·exact absurd h.r (h'.low z)
 ·exact z
 ·exact absurd h'.r (h.low z)
theorem jn:tQ adj p (n+1) q↔¬ R adj p n q/\∃r,adj r q/\tQ adj p n r:=by
 constructor
 ·rintro ⟨h1, h2⟩
  refine⟨h2,?_⟩;rcases h1 with h1|⟨r,ha,hr⟩
  ·exact absurd h1 h2
  ·refine ⟨r, ha, ?_⟩;cases n with
   |zero=>exact hr
   |succ n=>exact⟨hr,fun z=>h2 (.inr ⟨r,ha,z⟩)⟩
 ·rintro ⟨h1, r, ha, hr⟩
  exact⟨.inr ⟨r,ha,hr.r⟩,h1⟩
def Up(adj:Int->Int->Prop)(p:Int)(D:Int->Prop)(n:Nat)(f:Int->Option Nat):Prop:=∀q,D q->∀j,f q=some j↔(j<=n/\tQ adj p j q)
theorem Up.none{D:Int->Prop}{f:Int->Option Nat}(h:Up adj p D n f)(hq:D q):f q=none↔¬ R adj p n q:=by
 constructor
 ·intro e hr;obtain⟨j,hj,hl⟩:=hr.lev;have:=(h q hq j).mpr ⟨hj,hl⟩;rw[e]at this;cases this
 ·intro hr;cases e:f q with
  |none=>rfl
  |some j=>
   obtain⟨hj,hl⟩:=(h q hq j).mp e;exact absurd (hl.r.mono hj) hr
theorem Hh{D:Int->Prop}{f:Int->Option Nat}(h:∀q,D q->f q=if q=p then some 0 else Option.none):Up adj p D 0 f:=fun q hq j=>by
 rw[h q hq];by_cases e:q=p
 ·rw [Ow e];constructor
  ·intro z;cases z;exact⟨O9 _,e⟩
  ·rintro ⟨h1, _⟩
   have:j=0:=by omega
   rw[this]
 ·rw [Ox e];constructor
  ·intro z;cases z
  ·rintro ⟨h1, h2⟩
   have:j=0:=by omega
   subst this;exact absurd h2 e
theorem Up.next{D:Int->Prop}{f f':Int->Option Nat}(h:Up adj p D n f)(hD:∀a b,adj a b->D a)(e:∀q,D q->∀j,f' q=some j↔(f q=some j\/(f q=Option.none/\j=n+1/\∃r,adj r q/\f r=some n))):Up adj p D (n+1) f':=fun q hq j=>by
 rw[e q hq j];constructor
 ·rintro (z | ⟨z1, z2, r, z3, z4⟩)
  ·obtain⟨hj,hl⟩:=(h q hq j).mp z;exact⟨by omega,hl⟩
  ·subst z2;refine⟨O9 _,jn.mpr ⟨(h.none hq).mp z1,r,z3,?_⟩⟩;exact((h r (hD r q z3) n).mp z4).2
 ·rintro ⟨hj, hl⟩
  by_cases hn:j<=n
  ·exact .inl ((h q hq j).mpr ⟨hn,hl⟩)
  ·have : j = n + 1 := by omega
   subst this;obtain⟨h1,r,ha,hr⟩:=jn.mp hl;exact .inr ⟨(h.none hq).mpr h1,rfl,r,ha,(h r (hD r q ha) n).mpr ⟨O9 _,hr⟩⟩
def BX(adj:Int->Int->Prop)(p:Int)(D:Int->Prop)(f:Int->Option Nat):Prop:=∀q,D q->∀j,f q=some j↔tQ adj p j q
theorem tQ.below:∀{q:Int},tQ adj p n q->∀j,j<=n->∃r,tQ adj p j r:=by
 induction n with
 | zero => intro q h j hj; exact ⟨q, by have : j = 0 := by omega
                                        subst this;exact h⟩
 |succ n ih=>
  intro q h j hj;by_cases e:j=n+1
  ·subst e;exact⟨q,h⟩
  ·obtain⟨_,r,_,hr⟩:=jn.mp h;exact ih hr j 0e1
theorem Up.full{D:Int->Prop}{f:Int->Option Nat}(h:Up adj p D n f)(hD:∀a b,adj a b->D b)(e:∀q,D q->¬ tQ adj p (n+1) q):BX adj p D f:=fun q hq j=>by
 rw[h q hq j];constructor
 ·exact fun z=>z.2
 ·intro hl;refine⟨?_,hl⟩;apply Nat.le_of_not_lt;intro hj;obtain⟨r,hr⟩:=hl.below (n+1) 0e1;obtain⟨_,s,hs,_⟩:=jn.mp hr;exact e r (hD s r hs) hr
theorem CM(hp:0<=p/\p<m)(hD:∀a b,adj a b->0<=b/\b<m)(h:tQ adj p n q):n<m:=by
 have hr:∀j,∃r,j<=n->tQ adj p j r:=fun j=>by
  by_cases hj:j<=n
  ·obtain⟨r,hr⟩:=h.below j hj;exact⟨r,fun _=>hr⟩
  ·exact⟨0,fun z=>absurd z hj⟩
 let r:Nat->Int:=fun j=>(hr j).choose
 have hr':∀j,j<=n->tQ adj p j (r j):=fun j hj=>(hr j).choose_spec hj
 have rng:∀j,j<=n->0<=r j/\r j<m:=fun j hj=>by
  have:=hr' j hj;cases j with
  |zero=>rw[show r 0=p from this];exact hp
  |succ j=>
   obtain⟨_,s,hs,_⟩:=jn.mp this;exact hD s _ hs
 have nd:((List.range (n+1)).map fun j=>(r j).toNat).Nodup:=by
  rw[List.Nodup,Sj];refine List.Pairwise.imp_of_mem (R:=(·<·)) ?_ RF;intro a b ha hb hab e;rw[OF]at ha hb;have r1:=rng a 0e1;have r2:=rng b 0e1;have e':r a=r b:=by omega
  have h1:=hr' a 0e1;have h2:=hr' b 0e1;rw[e']at h1;have:=h1.one h2;omega
 have sub:((List.range (n+1)).map fun j=>(r j).toNat) ⊆ List.range m:=fun x hx=>by
  obtain⟨j,hj,rfl⟩:=Rj.mp hx;rw[OF]at hj⊢;have:=rng j 0e1;omega
 have:=nd.length_le_of_subset sub;rw[PD,Rb,Rb]at this;omega
end Lv
namespace Lv
def pW(f:Int->Option Nat)(r:Int)(v:Nat):Int->Option Nat:=fun q=>if q=r then some v else f q
end Lv
namespace Lw
open PySem ρ2 RS
theorem bO:1000<=sizeLine:=by decide
theorem zu(s:Int):∃r:Int,fF [.int s] Y=.ok (.int r) Y:=by
 have h0:0<=(s+7919)%2147483647:=Te _ 0e4;have h1:(s+7919)%2147483647<2147483647:=Tf _ 0e4;generalize ht:(s+7919)%2147483647=t at h0 h1;refine⟨(t*t+48271*t+12345)%2147483629,?_⟩;have c1:vz t t:=.inl ⟨by omega,by omega⟩;have c2:vz 48271 t:=.inl ⟨by omega,by omega⟩;unfold fF;rw[gv];simp[pd,ht,c1,c2];exact bw 1e1
def cZ(a b c:Int):O:=.lst [.int a,.int b,.int c]
theorem uy{a b c:Int}:(cZ a b c).low n:=by simp[cZ,O.low]
theorem IU(x:Int):∃a b c:Int,eU [.int x] Y=.ok 1e9 (Y++[cZ a b c]):=by
 have e:∀i j:Int,tS [.int i,.int j] Y=.ok (.int (if j>i then j else i)) Y:=fun _ _=>rfl;have p1:BY 10 18:=⟨by decide,by decide,by decide⟩;have ib:∀k:Bool,∀Y,vI [.bl k] Y=.ok (.int (if k then 1 else 0)) Y:=fun _ _=>rfl;refine⟨(if 0-x>x then 0-x else x),(if gk .GtE (if 0-x>x then 0-x else x) (10^(18:Int).toNat) then 1 else 0),(if 0-x>x then 0-x else x)%1000003,?_⟩;unfold eU;rw[gv];have l3:(3:Nat)<=sizeLine:=by decide
 dsimp[lU,aL,aZ,ay,au,av,ah,ak,aJ,bu,aa,ag,ae,HQ,e,bB,aE,bg,fq,List.set,List.replicate,Tg,Th];have pw:Ap (.int 10) (.int 18) Y=.ok (.int (10^(18:Int).toNat)) Y:=nL p1;have md:∀x,vw (.int x) (.int 1000003) Y=.ok (.int (x%1000003)) Y:=fun x=>nL (show (0:Int)<1000003 by decide);dsimp[pw,md,aa,ag,fQ,ib,QF,Rc,Ow l3,ae,aU];rw[sA 1e1];rfl
theorem Fw{a b c m:Int}(hp:Y[i]?=some (cZ a b c))(h0:0<m)(h1:m<1073741824):
  ∃r a' b' c':Int,0<=r/\r<m/\aP [.obj i,.int m] Y=.ok (.int r) (Y.set i (cZ a' b' c')):=by
 have hi:i<Y.length:=(OQ.mp hp).1;have hp':Y[i]?=some (.lst [.int a,.int b,.int c]):=hp;have md:∀{x:Int}{Y:aw},vw (.int x) (.int m) Y=.ok (.int (x%m)) Y:=fun {x Y}=>nL (show (fun _ j=>(0:Int)<j) x m from h0);have fd:∀{x:Int}{Y:aw},vK (.int x) (.int m) Y=.ok (.int (x / m)) Y:=fun {x Y}=>nL (show E2 x m from⟨h0,by omega⟩);have f64:∀{x:Int}{Y:aw},vK (.int x) (.int 64) Y=.ok (.int (x / 64)) Y:=fun {x Y}=>nL (show E2 x 64 from⟨by decide,by decide⟩);unfold aP;rw[cA];by_cases hb:b=1
 ·subst hb;refine⟨a%m,a / m,1,c,Te _ 0e1,Tf _ h0,?_⟩;dsimp[kH,aL,bP,dj,aJ,ah,ak,bu,aa,ag];rw[iF hp' Cj];dsimp[aa,ag,l9,QD,PU,bp,ae,aL,aZ,aJ,ah,ak,bu];dsimp[QE,PR,PU,aL,aZ,aJ,ah,ak,bu,aa,ag];rw[iF hp' zk];dsimp[aa,ag,md,ae,bB,aE,List.replicate,Tg,Th,ah,ak,bu,aJ,aZ,aL];rw[iF hp' zk];dsimp[aa,ag,fd,ae,pM,ah,ak,bu];rw[pL hp' (t5 0e4 1e1)];dsimp[aa,ag,ae,aE,bg,ah,ak,l5,aU];exact zS (by dsimp[GJ]) (uy (a:=a / m) (b:=1) (c:=c))
 ·obtain ⟨s1, e1⟩ := zu (Y := Y) c;obtain⟨s2,e2⟩:=zu (Y:=Y) (s1+7);refine⟨s2 / 64%m,a,b,s2,Te _ 0e1,Tf _ h0,?_⟩;have hb':(b == 1)=false:=by simpa using hb
  dsimp[kH,aL,bP,dj,aJ,ah,ak,bu,aa,ag];rw[iF hp' Cj];dsimp[aa,ag,l9,hb',bp,ae,QE,PR,bV,aE,aL,aZ,ay,au,av,aJ,ah,ak,bu];rw[iF hp' HS];dsimp[aa,ag,e1,fR,e2,ae,pM,ah,ak,bu];rw[pL hp' (t5 0e4 1e1)];have hg:(Y.set i (.lst ([D.int a,D.int b,D.int c].set (2:Int).toNat (.int s2))))[i]?=some (.lst [D.int a,D.int b,D.int s2]):=by rw[OS hi];rfl
  dsimp[aa,ag,ae,aE,bg,aJ,ah,ak,bu];rw[iF hg HS];dsimp[aa,ag,f64,md,ae,aU];exact zS 1e1 (uy (a:=a) (b:=b) (c:=s2))
theorem aF{g:aw}{o:O}(h:Y[i]?=some o):(Y++g)[i]?=some o:=by
 rw[Pw (OQ.mp h).1];exact h
theorem um{g:aw}{o:O}(h:i<Y.length):(Y++g).set i o=Y.set i o++g:=by
 rw[List.set_append_left _ _ h]
theorem hZ{o:O}(h:i<Y.length):(Y.set i o)[i]?=some o:=OS h
def xJ(m:Int)(k:List Int):Prop:=∃a b:Int,k=[a,b]/\0<=a/\a<b/\b<m
theorem xJ.prs{m:Int}{k:List Int}(h:xJ m k)(hm:m<=6):k∈prs:=by
 obtain⟨a,b,rfl,h1,h2,h3⟩:=h;exact zE h1 h2 0e1
def lM(d:D)(m:Int)(ks:List 2e5):Prop:=d=.tup [.int m,.tup 1e8]/\1<=m/\m<=6/\(ks.Pairwise fun a b=>pT a<pT b)/\∀k∈ks,xJ m k
theorem ky{m:Int}(h0:1<=m)(h1:m<=6)(hk:∀k∈ks,xJ m k):lM (.tup [.int m,.tup ((eM ks).map aI)]) m (eM ks):=by
 refine⟨rfl,h0,h1,qP.filter _,fun k h=>?_⟩;unfold eM at h;rw[OE,SN]at h;exact hk k h.2
theorem eP{m:Int}(h:lM d m ks):ks.length<=15:=by
 obtain⟨_,_,hm,hp,hk⟩:=h;have hn:ks.Nodup:=hp.imp fun h e=>by subst e;omega
 have hs:ks ⊆ prs:=fun k h=>(hk k h).prs hm;have:=hn.length_le_of_subset hs;rw[zF]at this;exact this
def gm(p:Int×Int):D:=.tup [.int p.1,.int p.2]
theorem l2:(2:Nat)<=sizeLine:=by decide
theorem NO{u v:Int}:pX [.tup [.int u,.int v]] Y=.ok (.int (min u v)) Y:=rfl
theorem NP{u v:Int}:tS [.tup [.int u,.int v]] Y=.ok (.int (max u v)) Y:=rfl
theorem iL{m:Int}(h:lM d m ks):d.low n:=by
 obtain⟨rfl,_⟩:=h;simp
 exact qA.mpr fun x hx=>by
  obtain⟨k,_,rfl⟩:=Rj.mp hx;simp[aI];exact qA.mpr 1e1
theorem jt{lo:Int}:dv lo (n+1)=.int lo::dv (lo+1) n:=by
 unfold dv;rw[Q8,Qj,Q9];congr 1
 ·simp
 ·apply Ra;intro i _;dsimp[Function.comp_apply];congr 1;omega
theorem lp{lo:Int}:dv lo 0=[]:=rfl
theorem Dx{lo:Int}(h:dv lo n=[]):n=0:=by
 cases n with
 |zero=>rfl
 |succ n=>rw[jt]at h;cases h
theorem wL{x:D}:∀k:Nat,(List.replicate k [x]).flatten=List.replicate k x
 |0=>rfl
 |k+1=>by rw[Qr,Qs,wL k];rfl
theorem l1:(1:Nat)<=sizeLine:=by decide
end Lw
namespace Lw
open PySem ρ2 RS Lv
def vp:Option Nat->D
 |none=>.non
 |some n=>.int n
def fk(m:Nat)(f:Int->Option Nat):List D:=(List.range m).map fun q:Nat=>vp (f q)
theorem Dw{f:Int->Option Nat}(q0:0<=q)(q1:q<m):atI (fk m f) q=some (vp (f q)):=by
 refine C8 q0 ?_;unfold fk;rw[Px,Sh 0e1];dsimp[Option.map_some,RJ q0]
theorem vZ{f:Int->Option Nat}{v:Nat}(q0:0<=q)(q1:q<m):(fk m f).set q.toNat (.int v)=fk m (pW f q v):=by
 unfold fk;apply Sg;intro i;rw[List.getElem?_set,PD,Rb,Px,Px];by_cases e:q.toNat=i
 ·rw[Ow e,Ow 0e1,Sh 0e1,<- e];dsimp[Option.map_some,RJ q0,pW,Ow rfl];rfl
 ·rw [Ox e];by_cases hi:i<m
  ·rw[Sh hi];dsimp[Option.map_some,pW];rw[Ox 0e1]
  ·rw[Si (by rw[Rb];omega)];rfl
def Ih(ks:List 2e5):List (Int×Int):=ks.flatMap fun k=>match k with
 |[u,v]=>[(u,v),(v,u)]
 |_=>[]
def pV(ks:List 2e5)(a b:Int):Prop:=(a,b)∈Ih ks
theorem Bh{o:Option Nat}:(vp o).isNon=decide (o=none):=by
 cases o <;> rfl
section
variable{a:Nat}{web:D}{M p u v r:Int}{T:Int->Int->Option Nat}{f:Int->Option Nat}
theorem ic(hk:∀k∈ks,xJ m k){x y:Int}(h:pV ks x y):(0<=x/\x<m)/\(0<=y/\y<m):=by
 unfold pV Ih at h;obtain⟨k,hk',hm⟩:=List.mem_flatMap.mp h;obtain⟨u,v,rfl,u0,uv,v1⟩:=hk k hk';simp at hm;omega
end
theorem AQ:fk m (fun _=>none)=List.replicate m .non:=by
 unfold fk vp;rw[List.map_const',Rb]
theorem jo{Y:aw}:∀fs:List Int,iC Y (fs.map D.int)=some (fs.map PyData.int)
 |[]=>rfl
 |x::fs=>by dsimp[Qj,iC,jo fs];rfl
theorem iK:∀fs:List Int,PyData.canLayAll0 (fs.map PyData.int)=true/\PyData.depthAll (fs.map PyData.int)=0
 |[]=>by simp[PyData.canLayAll0,PyData.depthAll]
 |x::fs=>by
  have:=iK fs;dsimp[Qj,PyData.canLayAll0,PyData.depthAll,PyData.canLay0,PyData.depth,this.1,this.2];exact⟨rfl,rfl⟩
theorem uD{F:Nat}{fs:List Int}{a:Int}(h:Y[F]?=some (.lst (fs.map D.int))):pU false (.int a) (.obj F) Y=.ok (.bl (decide (a∈fs))) Y:=by
 have e1:lr Y (.int a)=some (.int a):=rfl
 have e2:lr Y (.obj F)=some (.list (fs.map PyData.int)):=by
  unfold lr;dsimp only;rw[h];dsimp only;rw[jo];rfl
 have f1:dQ (.int a)=true:=rfl
 have f2:dQ (.list (fs.map PyData.int))=true:=by
  have:=iK fs;dsimp[dQ,PyData.canLay0,this.1,PyData.depth,this.2,Ti];rfl
 unfold pU;rw[e1,e2];dsimp only[t6];rw[Ow ⟨f1,f2⟩];dsimp[QE,PR];congr 2;rw[List.any_map];apply Pe.mpr;rw[Tj,SN];constructor
 ·rintro ⟨x, hx, e⟩
  have:x=a:=by simpa[PyData.eqv] using e
  subst this;exact hx
 ·intro hx;exact⟨a,hx,by simp[PyData.eqv]⟩
theorem pO{m:Int}(hk:∀k∈ks,xJ m k){a b:Int}:pV ks a b↔([a,b]∈ks\/[b,a]∈ks):=by
 unfold pV Ih;rw[List.mem_flatMap];constructor
 ·rintro ⟨k, hk', hm⟩
  obtain⟨u,v,rfl,_⟩:=hk k hk';simp at hm;rcases hm with⟨rfl,rfl⟩|⟨rfl,rfl⟩
  ·exact .inl hk'
  ·exact .inr hk'
 ·rintro (h | h)
  ·exact⟨_,h,by simp⟩
  ·exact⟨_,h,by simp⟩
theorem nW{m:Int}{t e:List Int->Int}:∀{ks:List 2e5},(∀k∈ks,xJ m k)->∀(P:Int->Bool),∃l:List Int,
  ((ks.map aI).filter (fun d=>match d with | .tup [.int a,.int b]=>P (t [a,b])|_=>false)).map (fun d=>match d with | .tup [.int a,.int b]=>.int (e [a,b])|_=>.non)=l.map D.int/\l.length<=ks.length/\∀x,x∈l↔∃k∈ks,P (t k)=true/\x=e k
 |[],_,P=>⟨[],rfl,O9 _,by simp⟩
 |k::ks,h,P=>by
  obtain⟨l,e1,e2,e3⟩:=nW (t:=t) (e:=e) (ks:=ks) (fun x hx=>h x (OK _ hx)) P;obtain⟨a,b,rfl,_⟩:=h k OJ;rw[Qj,SY];show ∃l:List Int,List.map _ (if P (t [a,b])=true then _ else _)=_/\_;by_cases c:P (t [a,b])=true
  ·rw [Ow c, Qj, e1];refine⟨e [a,b]::l,rfl,by simp;omega,fun x=>?_⟩;dsimp[OM,e3];constructor
   ·rintro (rfl | ⟨k, hk, z⟩)
    ·exact⟨[a,b],.inl rfl,c,rfl⟩
    ·exact⟨k,.inr hk,z⟩
   ·rintro ⟨k, rfl | hk, z1, z2⟩
    ·exact .inl z2
    ·exact .inr ⟨k,hk,z1,z2⟩
  ·rw [Ox c, e1];refine⟨l,rfl,by simp;omega,fun x=>?_⟩;dsimp[OM,e3];constructor
   ·rintro⟨k,hk,z⟩;exact⟨k,.inr hk,z⟩
   ·rintro ⟨k, rfl | hk, z1, z2⟩
    ·exact absurd z1 c
    ·exact⟨k,hk,z1,z2⟩
def EV:List Int->Int
 |[a,_]=>a
 |_=>0
def ET:List Int->Int
 |[_,b]=>b
 |_=>0
theorem Dj{m:Int}{F:Nat}{fs:List Int}(hk:∀k∈ks,xJ m k)(hl:ks.length<=15)(h:Y[F]?=some (.lst (fs.map D.int))):
  ∃(t:Nat)(g:aw)(ns:List Int),eT [.tup 1e8,.obj F] Y=.ok (.obj t) (Y++g)/\(Y++g)[t]?=some (.lst (ns.map D.int))/\ns.length<=30/\Y.length<=t/\∀q,q∈ns↔∃r∈fs,pV ks r q:=by
 obtain⟨l1,a1,a2,a3⟩:=nW (t:=EV) (e:=ET) hk fun x=>decide (x∈fs);obtain⟨l2',b1,b2,b3⟩:=nW (t:=ET) (e:=EV) hk fun x=>decide (x∈fs)
 have c1:=gx (src:=.fix 1e8) (g:=cy 2 1e7) (t:=gU) (e:=jY) (Y1:=Y)
  (q:=fun d=>match d with | .tup [.int a,.int b]=>decide (EV [a,b]∈fs)|_=>false) (h:=fun d=>match d with | .tup [.int a,.int b]=>.int (ET [a,b])|_=>.non)
  (fun L=>∃o1 o2,L=[o1,o2,some (.obj F)]) (fun _=>trivial) (xs:=ks.map aI) (acc:=[]) (L:=[none,none,some (.obj F)]) ⟨_,_,rfl⟩
  (by rw[PD,Rc];exact OG 0e1 bO)
  (fun x hx a L hJJ => by
   obtain⟨o1,o2,ho⟩:=hJJ;obtain⟨k,hk',rfl⟩:=Rj.mp hx;obtain⟨u,v,rfl,_⟩:=hk k hk';subst ho;refine⟨[some (.int u),some (.int v),some (.obj F)],⟨_,_,rfl⟩,rfl,?_,fun _=>rfl⟩;unfold gU;dsimp[dj,aJ,ak,ah,aa,ag];rw[uD (aF h)]
   rfl)
 have c2:=fun M:aw=>fun hM:M[F]?=some (.lst (fs.map D.int))=>gx (src:=.fix 1e8) (g:=cy 2 1e7) (t:=gS) (e:=jX) (Y1:=M)
  (q:=fun d=>match d with | .tup [.int a,.int b]=>decide (ET [a,b]∈fs)|_=>false) (h:=fun d=>match d with | .tup [.int a,.int b]=>.int (EV [a,b])|_=>.non)
  (fun L=>∃o1 o2,L=[o1,o2,some (.obj F)]) (fun _=>trivial) (xs:=ks.map aI) (acc:=[]) (L:=[none,none,some (.obj F)]) ⟨_,_,rfl⟩
  (by rw[PD,Rc];exact OG 0e1 bO)
  (fun x hx a L hJJ => by
   obtain⟨o1,o2,ho⟩:=hJJ;obtain⟨k,hk',rfl⟩:=Rj.mp hx;obtain⟨u,v,rfl,_⟩:=hk k hk';subst ho;refine⟨[some (.int u),some (.int v),some (.obj F)],⟨_,_,rfl⟩,rfl,?_,fun _=>rfl⟩;unfold gS;dsimp[dj,aJ,ak,ah,aa,ag];rw[uD (aF hM)]
   rfl)
 rw[Qy,a1]at c1;have c2':=c2 (Y++[O.lst (l1.map D.int)]) (aF h);rw[Qy,b1]at c2';refine⟨((Y++[O.lst (l1.map D.int)])++[O.lst (l2'.map D.int)]).length,([O.lst (l1.map D.int)]++[O.lst (l2'.map D.int)])++[O.lst ((l1++l2').map D.int)],l1++l2',?_,?_,by rw[PB];omega,by simp,fun q=>?_⟩
 ·unfold eT;rw[cA];dsimp[lQ,bg,aJ,cG,cm,ah,aa,ag,iZ,bE,List.replicate];rw[show fJ [none,none,some 1] (some (D.tup (List.map aI ks))::some (D.obj F)::List.replicate (2-2) none)=[none,none,some (.obj F)] from rfl,c1];dsimp[aa,ag];rw[c2'];dsimp[aa,ag]
  have ad:cx 1e9 (.obj (Y++[O.lst (l1.map D.int)]).length) ((Y++[O.lst (l1.map D.int)])++[O.lst (l2'.map D.int)])=.ok (.obj ((Y++[O.lst (l1.map D.int)])++[O.lst (l2'.map D.int)]).length) (((Y++[O.lst (l1.map D.int)])++[O.lst (l2'.map D.int)])++[O.lst ((l1++l2').map D.int)]):=by
   unfold cx;dsimp only;rw[ax,aF ax];dsimp only;rw[Ow,Ru];rw[PD,PD];exact OG (show _<=1000 by omega) bO
  rw[ad,ae,aU,sA 1e1];dsimp[Qt]
 ·rw[<- Qt,<- Qt];exact ax
 ·rw [OO, a3, b3];constructor
  ·rintro (⟨k, hk', z1, z2⟩ | ⟨k, hk', z1, z2⟩)
   ·obtain⟨u,v,rfl,_⟩:=hk k hk';subst z2;exact⟨u,Tn z1,(pO hk).mpr (.inl hk')⟩
   ·obtain⟨u,v,rfl,_⟩:=hk k hk';subst z2;exact⟨v,Tn z1,(pO hk).mpr (.inr hk')⟩
  ·rintro ⟨r, hr, ha⟩
   rcases (pO hk).mp ha with z|z
   ·exact .inl ⟨_,z,QA hr,rfl⟩
   ·exact .inr ⟨_,z,QA hr,rfl⟩
theorem qC{o o':O}(h:Y[j]?=some o')(ne:i≠j):(Y.set i o)[j]?=some o':=by rw[OT ne];exact h
def jl(k:List Int):PyData:=.tuple (k.map PyData.int)
theorem nR{Y:aw}{m:Int}:∀{ks:List 2e5},(∀k∈ks,xJ m k)->toPs Y 1e8=some (ks.map jl)
 |[],_=>rfl
 |k::ks,h=>by
  obtain⟨a,b,rfl,_⟩:=h k OJ;have ih:=nR (Y:=Y) fun x hx=>h x (OK _ hx);dsimp[Qj,toPs,ih];rfl
theorem sR{m:Int}:∀{ks:List 2e5},(∀k∈ks,xJ m k)->PyData.canLayAll0 (ks.map jl)=true/\PyData.depthAll (ks.map jl)<=1
 |[],_=>by simp[PyData.canLayAll0,PyData.depthAll]
 |k::ks,h=>by
  obtain⟨a,b,rfl,_⟩:=h k OJ;have ih:=sR fun x hx=>h x (OK _ hx);dsimp[Qj,PyData.canLayAll0,PyData.depthAll,ih.1,jl,Qi,PyData.canLay0,PyData.depth];refine⟨rfl,?_⟩;have:=ih.2;omega
def HY(m:Int)(ks:List 2e5):PyData:=.tuple [.int m,.tuple (ks.map jl)]
theorem E9{m:Int}(h:lM d m ks):lr Y d=some (HY m ks):=by
 obtain⟨rfl,_,_,_,hk⟩:=h
 have e:xF Y (.tup 1e8)=some (.tuple (ks.map jl)):=by
  dsimp[xF,nR hk,Option.map_some]
 unfold lr;dsimp only;dsimp[iC,Aj,xF,e,nR hk,Option.map_some,QK];rfl
theorem Fb{m:Int}(h:lM d m ks):dQ (HY m ks)=true:=by
 obtain⟨_,_,_,_,hk⟩:=h;have:=sR hk;dsimp[dQ,HY,PyData.canLay0,PyData.canLayAll0,this.1,PyData.depth,PyData.depthAll,Ti,Bool.and_true];exact QA (by have:=this.2;omega)
end Lw
namespace Lw
open PySem ρ2 RS
def Pn(Y0:aw)(i:Nat)(Y:aw):Prop:=∃a b c g,Y=Y0.set i (cZ a b c)++g
theorem Pn.app{g:aw}(h:Pn Y0 i Y):Pn Y0 i (Y++g):=by
 obtain⟨a,b,c,g',rfl⟩:=h;exact⟨a,b,c,g'++g,by rw[Qt]⟩
theorem Pn.get(h:Pn Y0 i Y)(hi:i<Y0.length):∃a b c,Y[i]?=some (cZ a b c):=by
 obtain⟨a,b,c,g',rfl⟩:=h;exact⟨a,b,c,aF (hZ hi)⟩
theorem Pn.set{a b c:Int}(h:Pn Y0 i Y)(hi:i<Y0.length):Pn Y0 i (Y.set i (cZ a b c)):=by
 obtain⟨a',b',c',g',rfl⟩:=h;exact⟨a,b,c,g',by rw[um (by simpa using hi),List.set_set]⟩
theorem Pn.len(h:Pn Y0 i Y):Y0.length<=Y.length:=by
 obtain⟨a',b',c',g',rfl⟩:=h;simp
theorem Pn.self{a b c:Int}(h:Y0[i]?=some (cZ a b c)):Pn Y0 i Y0:=by
 refine⟨a,b,c,[],?_⟩;rw[Pi];apply Sg;intro j;by_cases e:i=j
 ·subst e;rw[hZ (OQ.mp h).1,h]
 ·rw[OT e]
theorem Pn.draw{m:Int}(h:Pn Y0 i Y)(hi:i<Y0.length)(h0:0<m)(h1:m<1073741824):
  ∃r a b c:Int,0<=r/\r<m/\aP [.obj i,.int m] Y=.ok (.int r) (Y.set i (cZ a b c))/\Pn Y0 i (Y.set i (cZ a b c)):=by
 obtain⟨a,b,c,hp⟩:=h.get hi;obtain⟨r,a',b',c',r0,r1,e⟩:=Fw hp h0 h1;exact⟨r,a',b',c',r0,r1,e,h.set hi⟩
theorem Pn.gc(h:Pn Y0 i Y)(hd:d.low Y0.length):∃a b c,pS Y0 (.ok d Y)=.ok d (Y0.set i (cZ a b c)):=by
 obtain⟨a,b,c,g',rfl⟩:=h;exact⟨a,b,c,CS hd uy⟩
theorem KO{xs:List β}{r:Nat}(h:r<=xs.length):iR xs none (some (r:Int))=xs.take r:=by
 unfold iR;rw[HT.sIx_none,HT.sIx_nat];simp[Nat.min_eq_left h]
end Lw
namespace Lv
def rg(m:Nat):List Int:=(List.range m).map Int.ofNat
def K7(w:List Int):Int:=w.head?.getD 0
theorem jc{p:Int}:p∈rg m↔0<=p/\p<m:=by
 unfold rg;rw[Rj];constructor
 ·rintro ⟨i, hi, rfl⟩
  have:=OF.mp hi;exact⟨Int.natCast_nonneg _,by simpa using this⟩
 ·rintro ⟨h0, h1⟩
  exact⟨p.toNat,OF.mpr 0e1,by simp;omega⟩
theorem jE:(rg m).length=m:=by simp[rg]
theorem σ5:(rg m).Pairwise (·<·):=by
 unfold rg;rw[Sj];exact RF.imp fun h=>by simpa using h
structure On(m k:Nat)(w:List Int):Prop where
 len:w.length=k+1
 nd:w.Nodup
 rng:∀p∈w,0<=p/\p<(m:Int)
end Lv
namespace Lw
open PySem ρ2 RS Lv
theorem cN{U:Type}{en:U->D}{src:pj}{g:MG}{t:MT}{e:ME}{Y1:aw}{q:U->Bool}{h:U->D}(R:Ro->Prop)(ho:∀a,cK src (Y1++[.lst a])) :
  ∀{us:List U}{acc:List D}{L:Ro},R L->acc.length+us.length<=sizeLine->(∀x∈us,∀a L,R L->∃L1,R L1/\g (en x) L (Y1++[.lst a])=.ok L1 (Y1++[.lst a])/\t L1 (Y1++[.lst a])=.ok (q x) (Y1++[.lst a])/\(q x=true->e L1 (Y1++[.lst a])=.ok (h x) (Y1++[.lst a]))) ->
   compLoop src Y1.length g t e (us.map en) L (Y1++[.lst acc])=.ok (.obj Y1.length) (Y1++[.lst (acc++(us.filter q).map h)])
 |[],acc,L,hr,hl,he=>by
  rw[Qi];unfold compLoop;rw[Ow (ho acc)];simp
 |x::xs,acc,L,hr,hl,he=>by
  obtain⟨L1,r1,e1,e2,e3⟩:=he x OJ acc L hr;rw[Qj];unfold compLoop;rw[Ow (ho acc),e1];dsimp[ag,aa];rw[e2];dsimp[ag,aa];have he':=fun y hy=>he y (OK _ hy);dsimp[QF]at hl;cases hq:q x with
  |false=>
   rw[Ox O3,cN R ho r1 0e1 he',SY,hq];rfl
  |true=>
   rw[Ow rfl,e3 hq];dsimp[ag,aa];rw[nQ 0e1];dsimp[aa,ag];rw[cN R ho r1 (by simp;omega) he',SY,hq];simp
theorem iM{U:Type}:∀{us:List U},us.filter (fun _=>true)=us
 |[]=>rfl
 |_::us=>by rw[SY,Ow rfl,iM]
def K6:D->Bool
 |.int _=>true
 |_=>false
def EB(m:Nat):D->Bool
 |.int i=>decide (0<=i/\i<(m:Int))
 |_=>false
def EH(Y:aw)(d:D):Prop:=yX Y d≠none
theorem zK(h:EH Y (.obj n)):(∃xs,Y[n]?=some 2e6)\/Y[n]?=some .dic:=by
 unfold EH yX at h;dsimp only at h;split at h
 ·rename_i xs e;exact .inl ⟨xs,e⟩
 ·rename_i e;exact .inr e
 ·exact absurd rfl h
theorem GQ(h:EH Y d):∃b,fL "int" d Y=.ok (.bl b) Y/\(b=true->∃c,fL "bool" d Y=.ok (.bl c) Y/\(!c)=K6 d)/\(b=false->K6 d=false):=by
 cases d with
 |non=>exact⟨false,rfl,nofun,fun _=>rfl⟩
 |bl b=>exact⟨true,rfl,fun _=>⟨true,rfl,rfl⟩,nofun⟩
 |int i=>exact⟨true,rfl,fun _=>⟨false,rfl,rfl⟩,nofun⟩
 |str x=>exact⟨false,rfl,nofun,fun _=>rfl⟩
 |tup xs=>exact⟨false,rfl,nofun,fun _=>rfl⟩
 |frz xs=>exact⟨false,rfl,nofun,fun _=>rfl⟩
 |obj n=>
  refine⟨false,?_,nofun,fun _=>rfl⟩;unfold fL yX;rcases zK h with⟨xs,e⟩|e <;> dsimp[e] <;> rfl
theorem Df(h:EH Y d):dq [d] Y=.ok (.bl (K6 d)) Y:=by
 obtain⟨b,h1,h2,h3⟩:=GQ h;unfold dq;rw[gv];dsimp[jQ,List.replicate,bg,ia,zW,iW,ah,aa,ag,h1,bp];cases b with
 |false=>
  rw[Ox O3,ae,aU,h3 rfl];exact bw 1e1
 |true=>
  obtain⟨c,c1,c2⟩:=h2 rfl;rw[Ow rfl,c1];dsimp[aa,ag,bp,ae,aU,c2];exact bw 1e1
theorem Di(h:EH Y d):fC [.int m,d] Y=.ok (.bl (EB m d)) Y:=by
 have hw:bt [d,.int 0,.int ((m:Int)-1)] Y=.ok (.bl (EB m d)) Y:=by
  unfold bt;rw[qp];dsimp[fj,List.replicate,bg,ia,ay,au,av,ah,ak,aa,ag,Df h,bp,wR];cases d with
  |int i=>
   rw[show K6 (.int i)=true from rfl,Ow rfl];dsimp[fQ,aa,ag,bp];by_cases c:gk .LtE 0 i=true
   ·rw [Ow c, ae, aU]
    rw[show gk .LtE i ((m:Int)-1)=EB m (.int i) from by
     have c':(0:Int)<=i:=Tn c;show decide (i<=(m:Int)-1)=decide (0<=i/\i<(m:Int))
     exact Se.mpr ⟨fun z=>⟨c',by omega⟩,fun z=>by omega⟩]
    exact bw 1e1
   ·rw [Ox c, ae, aU]
    rw[show EB m (.int i)=false from by
     have c':¬ (0:Int)<=i:=fun z=>c (QA z)
     exact Ot (fun z=>c' z.1)]
    exact bw 1e1
  |_=>
   rw[show K6 _=false from rfl,Ox O3,ae,aU];exact bw 1e1
 unfold fC;rw[cA];dsimp[mr,List.replicate,bg,ay,au,av,ah,ak,bu,aJ,aa,ag];rw[show Ao (.int m) (.int 1) Y=.ok (.int ((m:Int)-1)) Y from rfl];dsimp[aa,ag,hw,ae,aU];exact bw 1e1
theorem DV{g:aw}(h:EH Y d):EH (Y++g) d:=by
 cases d with
 |obj n=>
  unfold EH yX;rcases zK h with⟨xs,e⟩|e <;> dsimp[aF e] <;> exact nofun
 |_=>exact h
theorem IW:100000<=sizeLine:=by decide
theorem yh(h:∀x∈xs,EH Y x)(hl:xs.length<=1000):cu [.int m,.tup xs] Y=.ok (.bl (xs.all (EB m))) Y:=by
 have c:=cN (U:=D) (en:=fun x=>x) (src:=.fix xs) (g:=ao 0) (t:=cV) (e:=gG) (Y1:=Y) (q:=fun _=>true) (h:=fun x=>.bl (EB m x)) (fun L=>∃o,L=[o,some (.int m)]) (fun _=>trivial) (us:=xs) (acc:=[]) (L:=[none,some (.int m)]) ⟨_,rfl⟩
  (by rw[Rc];exact OG 0e1 bO)
  (fun x hx a L hJJ => by
   obtain⟨o,e⟩:=hJJ;subst e;refine⟨[some x,some (.int m)],⟨_,rfl⟩,rfl,rfl,fun _=>?_⟩;unfold gG
   dsimp[ay,au,av,ak,ah,aa,ag,Di (DV (h x hx))])
 rw[List.map_id',Qy,iM]at c;unfold cu;rw[cA];dsimp[kF,List.replicate,bg,ia,iW,ak,ah,aa,ag];rw[show fL "tuple" (.tup xs) Y=.ok (.bl true) Y from rfl];dsimp[aa,ag,bp,PU,ay,au,av,cG,cm,ak,ah,iZ,bE];rw[show fJ [none,some 0] _=[none,some (.int m)] from rfl,c];dsimp[aa,ag];rw[la (bs:=xs.map (EB m)) (by rw[ax,Q9];rfl)];dsimp[ae,ag,aU];rw[show (xs.map (EB m)).all id=xs.all (EB m) from by rw[SU];rfl];exact eG 1e1
theorem Ms{a b:Int}:pX [.int a,.int b] Y=.ok (.int (min a b)) Y:=by
 show aj.ok (D.int (if b<a then b else a)) Y=_;congr 2;split <;> omega
theorem Mt{a b:Int}:tS [.int a,.int b] Y=.ok (.int (max a b)) Y:=by
 show aj.ok (D.int (if b>a then b else a)) Y=_;congr 2;split <;> omega
abbrev cI(w:List Int):D:=.tup (w.map D.int)
theorem qB:∀{ns:List Int},jS (ns.map D.int)=some ns
 |[]=>rfl
 |n::ns=>by simp[jS,qB (ns:=ns)]
theorem HM{w:List Int}{a:Int}:pU neg (.int a) (cI w) Y=.ok (.bl (if neg then !decide (a∈w) else decide (a∈w))) Y:=by
 have e2:lr Y (cI w)=some (.tuple (w.map PyData.int)):=by
  dsimp[lr,jo,Option.map_some]
 have f2:dQ (.tuple (w.map PyData.int))=true:=by
  have:=iK w;dsimp[dQ,PyData.canLay0,this.1,PyData.depth,this.2,Ti];rfl
 unfold pU;rw[show lr Y (.int a)=some (.int a) from rfl,e2];dsimp only[t6];rw[Ow ⟨rfl,f2⟩]
 have:(w.map PyData.int).any (fun y=>PyData.eqv y (.int a))=decide (a∈w):=by
  rw[List.any_map];apply Pe.mpr;rw[Tj,SN];constructor
  ·rintro ⟨x, hx, e⟩
   have:x=a:=by simpa[PyData.eqv] using e
   subst this;exact hx
  ·intro hx;exact⟨a,hx,by simp[PyData.eqv]⟩
 rw[this]
theorem GX{w:List Int}(h:w≠[]):fK (cI w) (.int 0) Y=.ok (.int (K7 w)) Y:=by
 cases w with
 |nil=>exact absurd rfl h
 |cons a r=>exact dN
theorem qj:dv 0 ((m:Int)).toNat=(rg m).map D.int:=by
 unfold dv rg;rw[Q9];simp
theorem fw{f g:MS}{L':Ro}{Y':aw}(h:f L Y=.next L' Y'):bf f g L Y=g L' Y':=by rw[aL,h,aE]
def tU(v:Nat)(f:Int->Option Nat)(qs:List Int):Int->Option Nat:=qs.foldl (fun f q=>pW f q v) f
theorem qI{v:Nat}:∀(qs:List Int)(f:Int->Option Nat)(q:Int),tU v f qs q=if q∈qs then some v else f q
 |[],f,q=>by simp[tU]
 |x::qs,f,q=>by
  have:=qI (v:=v) qs (pW f x v) q;unfold tU at this⊢;rw[Qu,this];by_cases h:q∈qs
  ·rw[Ow h,Ow (OK _ h)]
  ·rw [Ox h];unfold pW;by_cases e:q=x
   ·rw[Ow e,Ow (by simp[e])]
   ·rw[Ox e,Ox (by simp[e,h])]
section
variable{A:Nat}{p:Int}{w:D}
theorem G2{A t:Nat}{f:Int->Option Nat}{fs:List Int}{o0 o1 o2 o3:Option D}{o7:Option D}(hA:M[A]?=some (.lst (fk m f)))(ht:M[t]?=some (.lst (fs.map D.int)))(hne:A≠t)(hfs:∀q∈fs,0<=q/\q<(m:Int)):
  ∃o7',ly (gh (ai 6)) (ao 7) eS [o0,o1,o2,o3,some (.obj A),some (.int n),some (.obj t),o7] M=.next [o0,o1,o2,o3,some (.obj A),some (.int n),some (.obj t),o7'] (M.set A (.lst (fk m (tU n f fs)))):=by
 have hAl:A<M.length:=(OQ.mp hA).1
 have run:=k8 (src:=.own t (fs.map D.int)) (g:=ao 7) (fb:=eS)
  (fun xs L Y1=>∃ys zs:List Int,xs=zs.map D.int/\fs=ys++zs/\Y1=M.set A (.lst (fk m (tU n f ys)))/\∃o7,L=[o0,o1,o2,o3,some (.obj A),some (.int n),some (.obj t),o7])
  (fun L Y1 ⟨ys,zs,_,_,e,_⟩=>by subst e;exact qC ht hne)
  (fun x xs L Y1 hJJ => by
   obtain⟨ys,zs,hx,hf,e,o7,eρ⟩:=hJJ;subst e eρ;cases zs with
   |nil=>cases hx
   |cons z zs=>
    injection hx with h1 h2
    subst h1 h2;have hz:=hfs z (by rw[hf];simp);have hlen:(fk m (tU n f ys)).length=m:=by unfold fk;rw[PD,Rb]
    refine⟨qC ht hne,_,_,[o0,o1,o2,o3,some (.obj A),some (.int n),some (.obj t),some (.int z)],M.set A (.lst (fk m (tU n f (ys++[z])))),rfl,?_,ys++[z],zs,rfl,by rw[hf];simp,rfl,_,rfl⟩;show eS [o0,o1,o2,o3,some (.obj A),some (.int n),some (.obj t),some (.int z)] _=_;unfold eS;dsimp[aZ,ak,ah,ae,pM,aa,ag];rw[pL (hZ hAl) (t5 hz.1 (by rw[hlen];exact hz.2)),vZ hz.1 hz.2];dsimp[aa,ag,ae,List.set_set];unfold tU;rw[RT]
    rfl)
  (xs:=fs.map D.int) (L:=[o0,o1,o2,o3,some (.obj A),some (.int n),some (.obj t),o7]) (Y:=M)
  ⟨[], fs, rfl, rfl, by
   apply Sg;intro j;by_cases e:A=j
   ·subst e;rw[hZ hAl,hA];rfl
   ·rw[OT e],_,rfl⟩
 obtain⟨L',Y',⟨ys,zs,hx,hf,e,o7',eρ⟩,run⟩:=run;subst e eρ
 have hz:zs=[]:=by cases zs with
  |nil=>rfl
  |cons=>cases hx
 subst hz;rw[Pi]at hf;subst hf;refine⟨o7',?_⟩;dsimp[iG,cm,ak,ah,aa,ag];rw[gA ht];dsimp[ae,ag,dC];exact run
theorem G1{A t:Nat}{f:Int->Option Nat}{fs:List Int}{o0 o1 o2 o7:Option D}(hk:∀k∈ks,xJ m k)(hl:ks.length<=15)(hA:M[A]?=some (.lst (fk m f)))(ht:M[t]?=some (.lst (fs.map D.int)))(hne:A≠t)(hU:Up (pV ks) p (fun q=>0<=q/\q<m) n f)(hfs:∀q,q∈fs↔((0<=q/\q<(m:Int))/\f q=some n)):
  ∃(t':Nat)(fs':List Int)(f':Int->Option Nat)(g:aw)(o7':Option D),eR [o0,o1,o2,some (.tup 1e8),some (.obj A),some (.int n),some (.obj t),o7] M=.next [o0,o1,o2,some (.tup 1e8),some (.obj A),some (.int ((n+1:Nat):Int)),some (.obj t'),o7'] ((M++g).set A (.lst (fk m f'))) /\
   (M++g)[t']?=some (.lst (fs'.map D.int))/\A≠t'/\Up (pV ks) p (fun q=>0<=q/\q<m) (n+1) f'/\∀q,q∈fs'↔((0<=q/\q<(m:Int))/\f' q=some (n+1)):=by
 obtain⟨s,g,ns,e1,e2,e3,e4,e5⟩:=Dj hk hl ht;have hA':=aF (g:=g) hA;have hAl:A<M.length:=(OQ.mp hA).1
 have hnsD:∀q∈ns,0<=q/\q<(m:Int):=fun q hq=>by
  obtain⟨r,_,ha⟩:=(e5 q).mp hq;exact(ic hk ha).2
 have c:=gx (src:=.own s (ns.map D.int)) (g:=ao 0) (t:=jf) (e:=lP) (Y1:=M++g) (q:=fun d=>match d with | .int q=>decide (f q=none)|_=>false) (h:=fun d=>d)
  (fun L=>∃o,L=[o,some (.obj A)]) (fun a=>aF e2) (xs:=ns.map D.int) (acc:=[]) (L:=[none,some (.obj A)]) ⟨_,rfl⟩
  (by rw[PD,Rc];exact OG 0e1 bO)
  (fun x hx a L hJJ => by
   obtain⟨o,ho⟩:=hJJ;obtain⟨q,hq,rfl⟩:=Rj.mp hx;subst ho;refine⟨[some (.int q),some (.obj A)],⟨_,rfl⟩,rfl,?_,fun _=>rfl⟩;unfold jf;dsimp[dj,aJ,ak,ah,bu,aa,ag];rw[iF (aF hA') (Dw (hnsD q hq).1 (hnsD q hq).2)]
   dsimp[aa,ag,C0,Bh,QE,PR,bp])
 have hfl:((ns.map D.int).filter fun d=>match d with | .int q=>decide (f q=none)|_=>false).map (fun d=>d)=(ns.filter fun q=>decide (f q=none)).map D.int:=by
  rw[List.map_id',List.filter_map];rfl
 rw[Qy,hfl]at c
 have hmem:∀q,q∈(ns.filter fun q=>decide (f q=none))↔(f q=none/\∃r,pV ks r q/\f r=some n):=fun q=>by
  rw[OE,SN,e5];constructor
  ·rintro ⟨⟨r, hr, ha⟩, hn⟩
   exact⟨hn,r,ha,((hfs r).mp hr).2⟩
  ·rintro ⟨hn, r, ha, hr⟩
   exact⟨⟨r,(hfs r).mpr ⟨(ic hk ha).1,hr⟩,ha⟩,hn⟩
 have hD':∀q,q∈(ns.filter fun q=>decide (f q=none))->0<=q/\q<(m:Int):=fun q hq=>hnsD q (OE.mp hq).1;have hne':A≠(M++g).length:=by rw[PB];omega
 obtain⟨o7',er⟩:=G2 (m:=m) (n:=n+1) (f:=f) (fs:=ns.filter fun q=>decide (f q=none)) (o0:=o0) (o1:=o1) (o2:=o2) (o3:=some (.tup 1e8)) (o7:=o7) (M:=(M++g)++[O.lst ((ns.filter fun q=>decide (f q=none)).map D.int)]) (aF hA') ax hne' hD';refine⟨(M++g).length,ns.filter fun q=>decide (f q=none),tU (n+1) f (ns.filter fun q=>decide (f q=none)),g++[O.lst ((ns.filter fun q=>decide (f q=none)).map D.int)],o7',?_,by rw[<- Qt];exact ax,hne',?_,fun q=>?_⟩
 ·unfold eR
  have s1:BQ 5 vJ (cC (.int 1)) [o0,o1,o2,some (.tup 1e8),some (.obj A),some (.int n),some (.obj t),o7] M=.next [o0,o1,o2,some (.tup 1e8),some (.obj A),some (.int ((n+1:Nat):Int)),some (.obj t),o7] M:=by
   push_cast;rfl
  rw[fw s1,aL,aZ,cG,cm,ay];dsimp[au,av,ak,ah,aa,ag,e1];rw[gA e2];dsimp[aa,ag,dC];rw[show fJ [none,some 4] [o0,o1,o2,some (.tup 1e8),some (.obj A),some (.int ((n+1:Nat):Int)),some (.obj t),o7]=[none,some (.obj A)] from rfl,c];dsimp[ae,ag,bB,Tg,Th,aE];rw[er,<- Qt]
 ·refine hU.next (fun a b h => (ic hk h).1) fun q hq j => ?_;rw[qI];by_cases hm:q∈ns.filter fun q=>decide (f q=none)
  ·rw [Ow hm];have:=(hmem q).mp hm;constructor
   ·intro e;cases e;exact .inr ⟨this.1,rfl,this.2⟩
   ·rintro (z | ⟨_, z, _⟩)
    ·rw[this.1]at z;cases z
    ·rw[z]
  ·rw [Ox hm];constructor
   ·exact .inl
   ·rintro (z | ⟨z1, z2, z3⟩)
    ·exact z
    ·exact absurd ((hmem q).mpr ⟨z1,z3⟩) hm
 ·rw [qI];constructor
  ·intro hm;exact⟨hD' q hm,by rw[Ow hm]⟩
  ·rintro ⟨hq, z⟩
   by_cases hm:q∈ns.filter fun q=>decide (f q=none)
   ·exact hm
   ·rw[Ox hm]at z;have:=((hU q hq (n+1)).mp z).1;omega
end
theorem wN{Y0:aw}{m A:Nat}{p:Int}{ks:List 2e5}{o0 o1 o2:Option D}(hk:∀k∈ks,xJ m k)(hl:ks.length<=15)(hp:0<=p/\p<(m:Int))(hA0:Y0.length<=A) :
  ∀(c n:Nat)(f:Int->Option Nat)(fs:List Int)(M:aw)(t:Nat)(o7:Option D),M[A]?=some (.lst (fk m f))->M[t]?=some (.lst (fs.map D.int))->A≠t->Up (pV ks) p (fun q=>0<=q/\q<m) n f ->
   (∀q,q∈fs↔((0<=q/\q<(m:Int))/\f q=some n))->(∀i,i<Y0.length->M[i]?=Y0[i]?)->n<=m->m<n+c ->
   ∃L' M' f',lY (jb (ai 6)) eR c [o0,o1,o2,some (.tup 1e8),some (.obj A),some (.int n),some (.obj t),o7] M=.next L' M'/\(∃o5 o6 o7,L'=[o0,o1,o2,some (.tup 1e8),some (.obj A),o5,o6,o7]) /\
    M'[A]?=some (.lst (fk m f'))/\(∀i,i<Y0.length->M'[i]?=Y0[i]?)/\BX (pV ks) p (fun q=>0<=q/\q<m) f'
 |0,n,f,fs,M,t,o7,hA,ht,hne,hU,hfs,hpre,h1,h2=>by omega
 |c+1,n,f,fs,M,t,o7,hA,ht,hne,hU,hfs,hpre,h1,h2=>by
  have tr:jb (ai 6) [o0,o1,o2,some (.tup 1e8),some (.obj A),some (.int n),some (.obj t),o7] M=.ok (!(fs.map D.int).isEmpty) M:=by
   dsimp[fN,ak,ah,aa,ag];unfold Ai;dsimp only;rw[ht]
  unfold lY;rw[tr,ae];cases fs with
  |nil=>
   refine⟨_,M,f,rfl,⟨_,_,_,rfl⟩,hA,hpre,hU.full (fun a b h=>(ic hk h).2) fun q hq hl=>?_⟩;obtain⟨_,r,ha,hr⟩:=jn.mp hl;have:=(hfs r).mpr ⟨(ic hk ha).1,(hU r (ic hk ha).1 n).mpr ⟨O9 _,hr⟩⟩;cases this
  |cons x fs=>
   have hx:=(hfs x).mp OJ;have hnm:n<m:=CM (m:=m) hp (fun a b h=>(ic hk h).2) ((hU x hx.1 n).mp hx.2).2;obtain⟨t',fs',f',g,o7',e,ht',hne',hU',hfs'⟩:=G1 (o0:=o0) (o1:=o1) (o2:=o2) (o7:=o7) hk hl hA ht hne hU hfs;have hAl:A<(M++g).length:=by rw[PB];have:=(OQ.mp hA).1;omega
   rw[Ow (show (!(List.map D.int (x::fs)).isEmpty)=true from rfl),e,jG]
   exact wN hk hl hp hA0 c (n+1) f' fs' ((M++g).set A (.lst (fk m f'))) t' o7' (hZ hAl) (qC ht' hne') hne' hU' hfs' (fun i hi=>by
    rw[OT 0e1,Pw (by have:=(OQ.mp hA).1;omega)];exact hpre i hi) 0e1 0e1
theorem Fv{p:Int}(h:lM (.tup [.int m,.tup 1e8]) m ks)(p0:0<=p)(p1:p<(m:Int)):
  ∃A Y' f,gN [.tup [.int m,.tup 1e8],.int p] Y=.ok (.obj A) (Y++Y')/\(Y++Y')[A]?=some (.lst (fk m f))/\Y.length<=A/\BX (pV ks) p (fun q=>0<=q/\q<m) f:=by
 have hlen:=eP h;obtain⟨_,h0,h1,hpw,hk⟩:=h;have hm6:m<=6:=by omega
 let M0:aw:=(Y++[.lst [.non]])++[.lst (fk m fun _=>none)]
 have hM0:M0[(Y++[O.lst [.non]]).length]?=some (.lst (fk m fun _=>none)):=ax;have hlen0:(fk m fun _=>none).length=m:=by unfold fk;rw[PD,Rb]
 let A:Nat:=(Y++[O.lst [.non]]).length
 have hAl:A<M0.length:=(OQ.mp hM0).1;let M1:aw:=M0.set A (.lst (fk m (pW (fun _=>none) p 0)))
 have hM1:M1[A]?=some (.lst (fk m (pW (fun _=>none) p 0))):=hZ hAl
 have hpreM:∀i,i<Y.length->(M1++[O.lst [.int p]])[i]?=Y[i]?:=fun i hi=>by
  have:i<M1.length:=by dsimp[M1,M0,Qo,PB];omega
  rw[Pw this];dsimp[M1];rw[OT (by dsimp[A,PB];omega)];dsimp[M0];rw[Qt,Pw hi]
 obtain⟨L',M',f',ew,⟨o5,o6,o7,eρ⟩,hA',hpre,hF⟩:=wN (Y0:=Y) (o0:=some (.tup [.int m,.tup 1e8])) (o1:=some (.int p)) (o2:=some (.int m)) hk hlen ⟨p0,p1⟩ (show Y.length<=A by dsimp[A,PB];omega) 100 0 (pW (fun _=>none) p 0) [p] (M1++[O.lst [.int p]]) M1.length none
  (aF hM1) ax (by dsimp[M1, Qo]; omega) (Hh fun q _ => by unfold pW; rfl) (fun q => by
   unfold pW;rw[QP];constructor
   ·rintro rfl;exact⟨⟨p0,p1⟩,by rw[Ow rfl]⟩
   ·rintro ⟨_, z⟩
    by_cases e:q=p
    ·exact e
    ·rw[Ox e]at z;cases z) hpreM 0e1 0e1
 subst eρ
 obtain⟨g,hg⟩:∃g,M'=Y++g:=by
  refine⟨M'.drop Y.length,?_⟩;apply Sg;intro i;by_cases hi:i<Y.length
  ·rw[Pw hi,hpre i hi]
  ·rw[Pu 0e1,Rz];congr 1;omega
 refine⟨A,g,f',?_,by rw[<- hg];exact hA',by dsimp[A,PB];omega,hF⟩;unfold gN;rw[cA];have l2':[D.int m,D.tup 1e8].length=2:=rfl
 have s1:bK 4e0 (cy 2 (aT (ao 2) (aT (ao 3) (cz)))) [some (.tup [.int m,.tup 1e8]),some (.int p),none,none,none,none,none,none] Y=.next [some (.tup [.int m,.tup 1e8]),some (.int p),some (.int m),some (.tup 1e8),none,none,none,none] Y:=by
  dsimp[aZ,ah,ae,mM,Ow l2',ku,mO,bB,aa,ag,Tg,Th]
 have s2:bK (aK rR (iz (af (cC .non) (az))) (ai 2)) (ao 4) [some (.tup [.int m,.tup 1e8]),some (.int p),some (.int m),some (.tup 1e8),none,none,none,none] Y=.next [some (.tup [.int m,.tup 1e8]),some (.int p),some (.int m),some (.tup 1e8),some (.obj A),none,none,none] M0:=by
  dsimp[aZ,aJ,fq,au,av,bu,aa,ag,QF,Rc,Ow l1,ak,ah];unfold rR;dsimp only;rw[ax];dsimp only;have hz:(6:Nat)<=sizeLine:=by decide
  rw[Ow (by refine⟨by omega,by omega,?_⟩;dsimp[QF,Rc];omega)];dsimp[PN,wL,ae,ag,bB,Tg,Th,M0,A,AQ]
 have s3:bK 2e7 (oH (ai 4) (ai 1)) [some (.tup [.int m,.tup 1e8]),some (.int p),some (.int m),some (.tup 1e8),some (.obj A),none,none,none] M0=.next [some (.tup [.int m,.tup 1e8]),some (.int p),some (.int m),some (.tup 1e8),some (.obj A),none,none,none] M1:=by
  dsimp[aZ,bu,ae,pM,ak,ah,aa,ag];rw[pL hM0 (t5 p0 (by rw[hlen0];exact p1)),show (D.int 0)=.int ((0:Nat):Int) from rfl,vZ p0 p1];rfl
 have s4:bK 2e7 (ao 5) [some (.tup [.int m,.tup 1e8]),some (.int p),some (.int m),some (.tup 1e8),some (.obj A),none,none,none] M1=.next [some (.tup [.int m,.tup 1e8]),some (.int p),some (.int m),some (.tup 1e8),some (.obj A),some (.int ((0:Nat):Int)),none,none] M1:=rfl
 have s5:bK (iz 3e8) (ao 6) [some (.tup [.int m,.tup 1e8]),some (.int p),some (.int m),some (.tup 1e8),some (.obj A),some (.int ((0:Nat):Int)),none,none] M1=.next [some (.tup [.int m,.tup 1e8]),some (.int p),some (.int m),some (.tup 1e8),some (.obj A),some (.int ((0:Nat):Int)),some (.obj M1.length),none] (M1++[O.lst [.int p]]):=by
  dsimp[aZ,fq,au,av,ak,ah,aa,ag,QF,Rc,Ow l1,ae,bB,Tg,Th]
 unfold pb;dsimp[List.replicate];rw[fw s1,fw s2,fw s3,fw s4,fw s5,fw (show tZ 100 (jb (ai 6)) eR _ _=_ from ew)];dsimp[bg,ak,ah,ae,ag,aU];rw[sA (by dsimp[uz,A,PB];omega),hg]
theorem Az{k:Int}(h0:1<=k)(h1:k<=6):bt [.int k,.int 1,.int 6] Y=.ok (.bl true) Y:=by
 have w:dq [.int k] Y=.ok (.bl true) Y:=by
  unfold dq;rw[gv];have e1:fL "int" (.int k) Y=.ok (.bl true) Y:=rfl;have e2:fL "bool" (.int k) Y=.ok (.bl false) Y:=rfl;dsimp[jQ,bg,ia,iW,zW,ah,aa,ag,e1,e2,bp,PU,RR,ae,aU];exact bw 1e1
 unfold bt;rw[qp];dsimp[fj,bg,ia,ay,au,av,ak,ah,aa,ag,w,bp,PU,wR,fQ];rw[show gk .LtE 1 k=true from QA h0,show gk .LtE k 6=true from QA h1];dsimp[bp,aa,ag,PU,ae,aU];exact bw 1e1
theorem Cp:∀{xs ys:List 2e5},xs.Pairwise (fun a b=>pT a<pT b)->ys.Pairwise (fun a b=>pT a<pT b)->(∀k,k∈xs↔k∈ys)->xs=ys
 |[],ys,_,_,h=>by
  cases ys with
  |nil=>rfl
  |cons y ys=>exact absurd ((h y).mpr OJ) Q3
 |x::xs,[],_,_,h=>absurd ((h x).mp OJ) Q3
 |x::xs,y::ys,hx,hy,h=>by
  obtain⟨x1,x2⟩:=Rt.mp hx;obtain⟨y1,y2⟩:=Rt.mp hy
  have e:x=y:=by
   rcases OM.mp ((h x).mp OJ) with z|z
   ·exact z
   ·rcases OM.mp ((h y).mpr OJ) with u | u
    ·exact u.symm
    ·have:=y1 x z;have:=x1 y u;omega
  subst e;congr 1;refine Cp x2 y2 fun k=>?_;constructor
  ·intro hk;rcases OM.mp ((h k).mp (OK _ hk)) with z|z
   ·subst z;have:=x1 k hk;omega
   ·exact z
  ·intro hk;rcases OM.mp ((h k).mpr (OK _ hk)) with z|z
   ·subst z;have:=y1 k hk;omega
   ·exact z
theorem Eg{d':D}{m m':Int}{ks':List 2e5}(h:lM d m ks)(h':lM d' m' ks')(e:∀a b:Int,[a,b]∈ks↔[a,b]∈ks'):ks=ks':=by
 refine Cp h.2.2.2.1 h'.2.2.2.1 fun k=>?_;constructor
 ·intro hk;obtain⟨a,b,rfl,_⟩:=h.2.2.2.2 k hk;exact(e a b).mp hk
 ·intro hk;obtain⟨a,b,rfl,_⟩:=h'.2.2.2.2 k hk;exact(e a b).mpr hk
abbrev bj(m:Nat)(ks:List 2e5):D:=.tup [.int m,.tup 1e8]
abbrev GW(m:Nat)(ks:List 2e5):Prop:=lM (bj m ks) m ks
section
theorem GW.m0(h:GW m ks):1<=m:=by have:=h.2.1;omega
theorem GW.m6(h:GW m ks):m<=6:=by have:=h.2.2.1;omega
end
mutual
def Kn(Y:aw):D->Prop
 |.tup xs=>xs.length<1000/\Kns Y xs
 |.obj n=>∃tn,yX Y (.obj n)=some tn/\tn ≠ "int" /\ tn ≠ "bool" /\ tn ≠ "tuple"
 |_=>True
def Kns(Y:aw):List D->Prop
 |[]=>True
 |x::xs=>Kn Y x/\Kns Y xs
end
theorem uA{Y:aw}:∀{xs:List D},Kns Y xs↔∀x∈xs,Kn Y x
 |[]=>by simp[Kns]
 |x::xs=>by simp[Kns,uA (xs:=xs)]
theorem Fe{g:aw}(h:yX Y (.obj n)=some tn):yX (Y++g) (.obj n)=some tn:=by
 unfold yX at h⊢;dsimp only at h⊢;cases e:Y[n]? with
 |none=>rw[e]at h;cases h
 |some o=>rw[Pw (OQ.mp e).1,e];rw[e]at h;exact h
mutual
theorem uB{Y:aw}(g:aw):∀{d:D},Kn Y d->Kn (Y++g) d
 |.non,_=>by simp[Kn]
 |.bl _,_=>by simp[Kn]
 |.int _,_=>by simp[Kn]
 |.str _,_=>by simp[Kn]
 |.frz _,_=>by simp[Kn]
 |.obj n,h=>by
  dsimp[Kn]at h⊢;obtain⟨tn,h1,h2⟩:=h;exact⟨tn,Fe h1,h2⟩
 |.tup xs,h=>by
  dsimp[Kn]at h⊢;exact⟨h.1,kns_more g h.2⟩
theorem kns_more{Y:aw}(g:aw):∀{xs:List D},Kns Y xs->Kns (Y++g) xs
 |[],_=>by simp[Kns]
 |x::xs,h=>by
  dsimp[Kns]at h⊢;exact⟨uB g h.1,kns_more g h.2⟩
end
def isInt:D->Bool
 |.int _=>true
 |_=>false
def kh:D->Bool
 |.tup _=>true
 |_=>false
def iV(a b:Int):D->Bool
 |.int i=>decide (a<=i)&&decide (i<=b)
 |_=>false
theorem Bg(h:Kn Y d):∃b,fL "int" d Y=.ok (.bl b) Y/\(b=true↔(isInt d=true\/∃c,d=.bl c)):=by
 cases d with
 |obj n=>
  dsimp[Kn]at h;obtain⟨tn,h1,h2,h3,h4⟩:=h;refine⟨_,by unfold fL;rw[h1],?_⟩;simp[j9,isInt,h2,h3]
 |non=>exact⟨_,rfl,by simp[j9,isInt]⟩
 |bl b=>exact⟨_,rfl,by simp[j9,isInt]⟩
 |int b=>exact⟨_,rfl,by simp[j9,isInt]⟩
 |str b=>exact⟨_,rfl,by simp[j9,isInt]⟩
 |tup b=>exact⟨_,rfl,by simp[j9,isInt]⟩
 |frz b=>exact⟨_,rfl,by simp[j9,isInt]⟩
theorem Eb(h:Kn Y d):∃b,fL "bool" d Y=.ok (.bl b) Y/\(b=true↔∃c,d=.bl c):=by
 cases d with
 |obj n=>
  dsimp[Kn]at h;obtain⟨tn,h1,h2,h3,h4⟩:=h;refine⟨_,by unfold fL;rw[h1],?_⟩;simp[j9,h2,h3]
 |non=>exact⟨_,rfl,by simp[j9]⟩
 |bl b=>exact⟨_,rfl,by simp[j9]⟩
 |int b=>exact⟨_,rfl,by simp[j9]⟩
 |str b=>exact⟨_,rfl,by simp[j9]⟩
 |tup b=>exact⟨_,rfl,by simp[j9]⟩
 |frz b=>exact⟨_,rfl,by simp[j9]⟩
theorem sX(h:Kn Y d):fL "tuple" d Y=.ok (.bl (kh d)) Y:=by
 cases d with
 |obj n=>
  dsimp[Kn]at h;obtain⟨tn,h1,h2,h3,h4⟩:=h;unfold fL;rw[h1];simp[j9,kh,h4]
 |non=>rfl
 |bl b=>rfl
 |int b=>rfl
 |str b=>rfl
 |tup b=>rfl
 |frz b=>rfl
theorem qM(h:Kn Y d):dq [d] Y=.ok (.bl (isInt d)) Y:=by
 obtain⟨b1,e1,f1⟩:=Bg h;obtain⟨b2,e2,f2⟩:=Eb h;unfold dq;rw[gv]
 have:(b1 && !b2)=isInt d:=by
  cases d <;> simp[isInt]at f1 f2⊢ <;> simp[f1,f2]
 simp[jQ,e1,e2];cases b1 <;> cases b2 <;> simp at this⊢ <;> rw[<- this] <;> exact bw 1e1
theorem nO(h:Kn Y d):cq [d] Y=.ok (.bl (isInt d)) Y:=qM h
theorem Dg{a b:Int}(h:Kn Y d):bt [d,.int a,.int b] Y=.ok (.bl (iV a b d)) Y:=by
 unfold bt;rw[qp];simp[fj,qM h]
 cases d <;> simp[isInt,iV] <;> first
  |exact bw 1e1
  |skip
 simp[gk];split <;> (rename_i hc;simp[hc];exact bw 1e1)
theorem yi{m:Int}(h:Kn Y d):fC [.int m,d] Y=.ok (.bl (iV 0 (m-1) d)) Y:=by
 unfold fC;rw[cA];simp[mr,Dg h];exact bw 1e1
def xD(m:Int):D->Bool
 |.tup xs=>xs.all (iV 0 (m-1))
 |_=>false
theorem Eo{h:D->Bool}{e:ME}{c:D}(hl:xs.length<=sizeLine)(he:∀x∈xs,∀a,e [some x,some c] (Y++[.lst a])=.ok (.bl (h x)) (Y++[.lst a])):
  compLoop (.fix xs) Y.length (ao 0) cV e xs [none,some c] (Y++[.lst []])=.ok 1e9 (Y++[.lst ((xs.map h).map D.bl)]):=by
 have:=gx (src:=.fix xs) (g:=ao 0) (t:=cV) (e:=e) (Y1:=Y) (q:=fun _=>true) (h:=fun x=>D.bl (h x)) (fun L=>∃o,L=[o,some c]) (fun _=>trivial) (xs:=xs) (acc:=[]) (L:=[none,some c]) ⟨none,rfl⟩ (by simpa using hl)
  (fun x hx a L ⟨o,ho⟩=>⟨[some x,some c],⟨_,rfl⟩,by subst ho;rfl,rfl,fun _=>he x hx a⟩)
 rw[this,List.filter_eq_self.mpr (fun _ _=>rfl)];simp[Q9,To]
theorem Dm:1000<=sizeLine:=by decide
theorem AF{m:Int}(h:Kn Y d):cu [.int m,d] Y=.ok (.bl (xD m d)) Y:=by
 unfold cu;rw[cA];simp[kF,sX h];cases d with
 |tup xs=>
  dsimp[kh,PU,xD];simp;dsimp[Kn]at h;rw[Eo (h:=iV 0 (m-1)) (OG (OH h.1) Dm) fun x hx a=>?_]
  ·simp;rw[la (bs:=xs.map (iV 0 (m-1))) 1e1];simp[SU,To];exact eG 1e1
  ·simp[gG];exact yi (uB _ (uA.mp h.2 x hx))
 |non=>simp[kh,xD];exact bw 1e1
 |bl b=>simp[kh,xD];exact bw 1e1
 |int b=>simp[kh,xD];exact bw 1e1
 |str b=>simp[kh,xD];exact bw 1e1
 |frz b=>simp[kh,xD];exact bw 1e1
 |obj b=>simp[kh,xD];exact bw 1e1
theorem wd{m:Int}(h:xD m (.tup xs)=true):∃ns:List Int,xs=ns.map D.int/\∀n∈ns,0<=n/\n<=m-1:=by
 dsimp[xD]at h
 induction xs with
 |nil=>exact⟨[],rfl,by simp⟩
 |cons x r ih=>
  rw[Qp,Qg]at h;obtain⟨ns,e,f⟩:=ih h.2;cases x with
  |int i=>
   simp[iV]at h;exact⟨i::ns,by rw[e];rfl,fun n hn=>(OM.mp hn).elim (fun z=>by rw[z];exact h.1) (f n)⟩
  |non=>simp[iV]at h
  |bl b=>simp[iV]at h
  |str b=>simp[iV]at h
  |tup b=>simp[iV]at h
  |frz b=>simp[iV]at h
  |obj b=>simp[iV]at h
def mm(p:Int×Int):List Int:=[min p.1 p.2,max p.1 p.2]
def PP(m:Nat)(p:Int×Int):Prop:=(0<=p.1/\p.1<(m:Int))/\(0<=p.2/\p.2<(m:Int))/\p.1≠p.2
theorem PP.ok{p:Int×Int}(h:PP m p):xJ m (mm p):=⟨_,_,rfl,by have:=h.1;have:=h.2.1;omega,by have:=h.2.2;omega,by have:=h.1;have:=h.2.1;omega⟩
theorem pG{ps:List (Int×Int)}(h0:1<=m)(hm:m<=6)(hps:∀p∈ps,PP m p):GW m (eM (ps.map mm)):=ky 0e1 0e1 fun k hk=>by obtain⟨p,hp,rfl⟩:=Rj.mp hk;exact(hps p hp).ok
theorem sI{t:Nat}{ps:List (Int×Int)}(h0:1<=m)(hm:m<=6)(hl:ps.length<=100000)(ht:Y[t]?=some (.lst (ps.map gm)))(hps:∀p∈ps,PP m p):cT [.int m,.obj t] Y=.ok (bj m (eM (ps.map mm))) Y:=by
 have c:=cN (U:=Int×Int) (en:=gm) (src:=.own t (ps.map gm)) (g:=cy 2 1e7) (t:=cV) (e:=gZ) (Y1:=Y) (q:=fun _=>true) (h:=fun p=>aI (mm p)) (fun L=>∃o o',L=[o,o']) (fun _=>aF ht) (us:=ps) (acc:=[]) (L:=[none,none]) ⟨_,_,rfl⟩
  (by rw[Rc];exact OG 0e1 IW)
  (fun p hp a L hJJ => by
   obtain⟨o,o',e⟩:=hJJ;subst e;refine⟨[some (.int p.1),some (.int p.2)],⟨_,_,rfl⟩,rfl,rfl,fun _=>?_⟩;unfold gZ;dsimp[c9,ay,au,av,ah,ak,aa,Ms,Mt,QF,Rc,Ow l2]
   rfl)
 rw[iM,Qy,show ps.map (fun p=>aI (mm p))=(ps.map mm).map aI from by rw[Q9];rfl]at c
 have hk:∀k∈ps.map mm,k∈prs:=fun k hk=>by
  obtain⟨p,hp,rfl⟩:=Rj.mp hk;exact(hps p hp).ok.prs 0e1
 let M1:aw:=Y++[O.lst ((ps.map mm).map aI)]
 have s1:xR [.obj Y.length] M1=.ok (.obj M1.length) (M1++[.set (fO (ps.map mm))]):=by
  unfold xR;dsimp only;rw[show M1[Y.length]?=some (.lst ((ps.map mm).map aI)) from ax];dsimp only;unfold vC;rw[wF hk]
 have s2:eA [.obj M1.length] (M1++[.set (fO (ps.map mm))])=.ok (.obj (M1++[O.set (fO (ps.map mm))]).length) ((M1++[.set (fO (ps.map mm))])++[.lst ((eM (ps.map mm)).map aI)]):=by
  unfold eA;dsimp only;rw[ax];dsimp only;rw[oM]
 unfold cT;rw[cA];dsimp[lR,List.replicate,bg,c9,au,av,ay,ak,ah,aa,cG,cm];rw[gA ht];dsimp[aa,dC];rw[show fJ [none,none] _=[none,none] from rfl,c];dsimp[aa];rw[show xR [.obj Y.length] (Y++[O.lst ((ps.map mm).map aI)])=_ from s1];dsimp[aa];rw[s2];dsimp[aa];rw[iY ax];dsimp[aa,QF,Rc,Ow l2,ae,aU,M1,Qt];exact eG (iL (pG h0 hm hps))
theorem KJ{q:Nat}{sh:Int}(hi:i<Y0.length)(h:Pn Y0 i Y1)(hq:q<m)(m6:m<=6)(s0:0<sh)(s1:sh<1000):
  ∃(qs:List (Int×Int))(Y2:aw),(∀p∈qs,PP m p)/\qs.length<=q/\Pn Y0 i Y2/\Y2.length=Y1.length/\(∀j o,i≠j->Y1[j]?=some o->Y2[j]?=some o)/\compLoop (.fix (dv 0 q)) Y1.length (ao 0) dr du (dv 0 q) [none,some (.int q),some (.obj i),some (.int sh)] (Y1++[.lst []])=.ok (.obj Y1.length) (Y2++[.lst (qs.map gm)]):=by
 have run:=kv (src:=.fix (dv 0 q)) (g:=ao 0) (t:=dr) (e:=du) (n:=Y1.length)
  (fun xs ys L Y2 s=>s=[]/\Y2.length=Y1.length/\Pn Y0 i Y2/\(∀j o,i≠j->Y1[j]?=some o->Y2[j]?=some o)/\(∃o,L=[o,some (.int q),some (.obj i),some (.int sh)])/\∃(lo n:Nat)(qs:List (Int×Int)),xs=dv lo n/\lo+n=q/\ys=qs.map gm/\qs.length<=lo/\(∀p∈qs,PP m p))
  (fun ys L Y2 s ⟨_,e1,_⟩=>⟨e1,trivial⟩)
  (fun x r ys L Y2 s hJJ => by
   obtain⟨es,e1,e2,ek,⟨o,e4⟩,lo,n,qs,e5,e7,e8,e9,e10⟩:=hJJ;subst es e4 e8;cases n with
   |zero=>rw[lp]at e5;cases e5
   |succ n=>
    rw[jt]at e5;injection e5 with ex er
    subst ex er;have i2:i<Y2.length:=OB hi e2.len;obtain⟨v,a,b,c,v0,v1,ed,hp⟩:=(e2.app (g:=[.lst (qs.map gm)])).draw (m:=sh) hi s0 0e1;rw[um i2]at ed;refine⟨e1,trivial,[some (.int lo),some (.int q),some (.obj i),some (.int sh)],Y2,[],v == 0,Y2.set i (cZ a b c),[],rfl,?_,fun hc=>?_,fun hc=>?_⟩
    ·unfold dr;dsimp[dj,aJ,ay,au,av,ak,ah,bu,aa,ed,l9,QE,PR,bp]
    ·refine ⟨gm ((lo : Int), (q : Int)), Y2.set i (cZ a b c), [], ?_, ?_, by simpa using e1, rfl, by simpa using e1, e2.set hi, fun j o ne z => by rw [OT ne]; exact ek j o ne z, ⟨_, rfl⟩, lo + 1, n, qs ++ [((lo : Int), (q : Int))], by push_cast; rfl, by omega, by simp, by simp; omega, fun p hp => ?_⟩
     ·unfold du;dsimp[c9,au,av,ak,ah,aa,QF,Rc,Ow l2];rfl
     ·rw[PD];exact OB (show qs.length<1000 by omega) bO
     ·rcases OO.mp hp with z | z
      ·exact e10 p z
      ·simp at z;subst z;exact⟨⟨by dsimp only;omega,by dsimp only;omega⟩,⟨by dsimp only;omega,by dsimp only;omega⟩,by dsimp only;omega⟩
    ·exact⟨rfl,by simpa using e1,e2.set hi,fun j o ne z=>by rw[OT ne];exact ek j o ne z,⟨_,rfl⟩,lo+1,n,qs,by push_cast;rfl,by omega,rfl,by omega,e10⟩)
  (xs:=dv 0 q) (ys:=[]) (L:=[none,some (.int q),some (.obj i),some (.int sh)]) (Y1:=Y1) (s:=[])
  ⟨rfl,rfl,h,fun _ _ _ z=>z,⟨_,rfl⟩,0,q,[],rfl,by omega,rfl,by simp,fun p hp=>by cases hp⟩
 obtain⟨ys',L',Y2,s',⟨es,e1,e2,ek,⟨o,e4⟩,lo,n,qs,e5,e7,e8,e9,e10⟩,run⟩:=run;subst es e8;exact⟨qs,Y2,e10,by omega,e2,e1,ek,run⟩
theorem Pn.put{t:Nat}{o:O}(h:Pn Y0 i M)(ht:Y0.length<=t):Pn Y0 i (M.set t o):=by
 obtain⟨a,b,c,g,rfl⟩:=h;refine⟨a,b,c,g.set (t-Y0.length) o,?_⟩;rw[List.set_append_right _ _ (by simpa using ht)];simp
theorem zV{t u:Nat}{ys:List D}(ht:M[t]?=some 2e6)(hu:M[u]?=some (.lst ys))(hl:xs.length+ys.length<=1000):ie (.obj t) [.obj u] M=.ok .non (M.set t (.lst (xs++ys))):=by
 unfold ie;dsimp only;rw[ht,hu];dsimp only;rw[Ow (OG hl bO)]
theorem ua{t:Nat}(h:M[t]?=some 2e6):Ad (.obj t) M=true:=by
 unfold Ad;dsimp only;rw[h]
theorem qv{a b c u:Int}(u1:1<=u)(u6:u<=6)(hp:Y[i]?=some (cZ a b c)):∃m ks a' b' c',GW m ks/\bR [.obj i,.int u] Y=.ok (bj m ks) (Y.set i (cZ a' b' c')):=by
 have hi:i<Y.length:=(OQ.mp hp).1;obtain⟨v,a1,b1,c1,v0,v1,ed,P1⟩:=(Pn.self hp).draw (m:=u) hi 0e1 0e1;obtain⟨m,em⟩:∃m:Nat,(1:Int)+v=(m:Int):=⟨(1+v).toNat,by omega⟩;obtain⟨s,a2,b2,c2,s0,s1,ed2,P2⟩:=P1.draw (m:=3) hi 0e4 0e4;let M2:aw:=(Y.set i (cZ a1 b1 c1)).set i (cZ a2 b2 c2)
 have lM2:M2.length=Y.length:=by simp[M2]
 obtain⟨L',M',⟨n,cc,ps,o5,e1,e2,e3,e4,e5,e6,e7⟩,run⟩:=k8 (src:=.fix (dv 0 m)) (g:=ao 5) (fb:=cF)
  (fun xs L M=>∃(n cc:Nat)(ps:List (Int×Int))(o5:Option D),xs=dv n cc/\n+cc=m/\L=[some (.obj i),some (.int u),some (.int m),some (.int (2+s)),some (.obj M2.length),o5]/\Pn Y i M/\M[M2.length]?=some (.lst (ps.map gm))/\ps.length<=6*n/\∀p∈ps,PP m p)
  (fun _ _ _=>trivial)
  (fun x xs L M hJJ => by
   obtain⟨n,cc,ps,o5,e1,e2,e3,e4,e5,e6,e7⟩:=hJJ;subst e3;cases cc with
   |zero=>rw[lp]at e1;cases e1
   |succ cc=>
    rw[jt]at e1;injection e1 with ex er
    subst ex er;obtain⟨qs,M3,q1,q2,q3,q4,q5,q6⟩:=KJ (m:=m) (q:=n) (sh:=2+s) hi e4 0e1 0e1 0e1 0e1;have t3:(M3++[O.lst (qs.map gm)])[M2.length]?=some (.lst (ps.map gm)):=aF (q5 _ _ 0e1 e5);have u3:(M3++[O.lst (qs.map gm)])[M.length]?=some (.lst (qs.map gm)):=by rw[<- q4];exact ax
    have ex:=zV t3 u3 (by rw[PD,PD];omega);refine⟨trivial,_,_,[some (.obj i),some (.int u),some (.int m),some (.int (2+s)),some (.obj M2.length),some (.int n)],(M3++[O.lst (qs.map gm)]).set M2.length (.lst (ps.map gm++qs.map gm)),rfl,?_,n+1,cc,ps++qs,some (.int n),by push_cast;rfl,by omega,rfl,(q3.app).put 0e1,?_,by rw[PB];omega,fun p hp=>?_⟩
    ·show cF [some (.obj i),some (.int u),some (.int m),some (.int (2+s)),some (.obj M2.length),some (.int n)] M=_;unfold cF;dsimp[mP,qd,ak,ah,aa,ag,ua e5,PU,au,av,cG,fP];rw[i3 0e1 0e1];dsimp[aa,ag,bE,PN];rw[show fJ [none,some 5,some 0,some 3] [some (D.obj i),some (D.int u),some (D.int m),some (D.int (2+s)),some (D.obj M2.length),some (D.int n)]=[none,some (.int n),some (.obj i),some (.int (2+s))] from rfl,q6];dsimp[aa,ag,ex,ae]
    ·rw[hZ (by have:=(OQ.mp t3).1;exact this),Ru]
    ·rcases OO.mp hp with z | z
     ·exact e7 p z
     ·exact q1 p z)
  (xs:=dv 0 m) (L:=[some (.obj i),some (.int u),some (.int m),some (.int (2+s)),some (.obj M2.length),none]) (Y:=M2++[.lst []])
  ⟨0,m,[],none,rfl,by omega,rfl,P2.app,ax,by simp,fun p hp=>by cases hp⟩
 have hz:=Dx e1.symm;subst hz e3;have hg:GW m (eM (ps.map mm)):=pG 0e1 0e1 e7;obtain⟨a7,b7,c7,hgc⟩:=e4.gc (iL hg);refine⟨m,_,a7,b7,c7,hg,?_⟩;unfold bR;rw[cA];dsimp[jA,List.replicate];rw[aL,aZ];dsimp[aJ,bu,ay,au,av,ah,ak,aa,ag,ed,fR,em,ae,bB,aE,Tg,Th];rw[aL,aZ];dsimp[aJ,bu,ay,au,av,ah,ak,aa,ag,ed2,fR,ae,bB,aE,Tg,Th];rw[aL,aZ];dsimp[fq,av,aa,ag,Rc,Ow (QO sizeLine),ae,bB,aE,Tg,Th];rw[aL,iG];dsimp[fP,au,av,ak,ah,aa,ag];rw[i3 0e1 0e1];dsimp[ae,ag,bE,PN];rw[show fH (.fix (dv 0 m)) (ao 5) cF (dv 0 m) [some (.obj i),some (.int u),some (.int m),some (.int (2+s)),some (.obj M2.length),none] (M2++[O.lst []])=_ from run];dsimp[aE,bg,ay,au,av,ak,ah,aa,ag,sI (show 1<=m by omega) 0e1 0e1 e5 e7,ae,aU];exact hgc
def g7(k:List Int):Int×Int:=(k.getD 0 0,k.getD 1 0)
def xP(p:Int)(k:List Int):Bool:=decide (p=(g7 k).1) || decide (p=(g7 k).2)
def gn(ks:List 2e5)(p:Int):List Int:=(ks.filter (xP p)).map fun k=>(g7 k).1+(g7 k).2-p
theorem Kr{p a b:Int}:pU false (.int p) (.tup [.int a,.int b]) Y=.ok (.bl (decide (p=a) || decide (p=b))) Y:=by
 show aj.ok (D.bl ((a == p) || ((b == p) || false))) Y=_;congr 2;rw[Bool.or_false];congr 1
 ·apply Pe.mpr;rw[SI,SN];exact eq_comm
 ·apply Pe.mpr;rw[SI,SN];exact eq_comm
section
theorem DZ(h:GW m ks){p:Int}:(gn ks p).length<=15:=by
 have:=eP h;unfold gn;rw[PD];exact OG (Tp _ _) this
theorem wy(h:GW m ks){p x:Int}:x∈gn ks p↔pV ks p x:=by
 rw[pO h.2.2.2.2];unfold gn;rw[Rj];constructor
 ·rintro ⟨k, hk, rfl⟩
  obtain⟨h1,h2⟩:=OE.mp hk;obtain⟨a,b,rfl,_⟩:=h.2.2.2.2 k h1;have h3:p=a\/p=b:=by simpa[xP,g7] using h2
  rcases h3 with rfl|rfl
  ·left;rw[show (g7 [p,b]).1+(g7 [p,b]).2-p=b from by show p+b-p=b;omega];exact h1
  ·right;rw[show (g7 [a,p]).1+(g7 [a,p]).2-p=a from by show a+p-p=a;omega];exact h1
 ·rintro (h1 | h1)
  ·exact⟨[p,x],OE.mpr ⟨h1,by simp[xP,g7]⟩,by show p+x-p=x;omega⟩
  ·exact⟨[x,p],OE.mpr ⟨h1,by simp[xP,g7]⟩,by show x+p-p=x;omega⟩
end
def Og(w:Nat)(q:PyData):Prop:=q.showable=true/\q.leavesShort 40=true/\q.weight<=w/\q.hasDict=false
section
variable{T:aw->Prop}{w:Nat}
theorem CY{q:PyData}(h:vH d=some q):nB Y n d=some q:=by
 cases n with
 |zero=>exact h
 |succ n=>
  cases d with
  |tup _=>cases h
  |frz _=>cases h
  |obj _=>cases h
  |_=>exact h
theorem nS{i:Int}(h0:-1<=i)(h1:i<=8):Og 8 (.int i):=by
 have:i=-1\/i=0\/i=1\/i=2\/i=3\/i=4\/i=5\/i=6\/i=7\/i=8:=by omega
 rcases this with rfl|rfl|rfl|rfl|rfl|rfl|rfl|rfl|rfl|rfl <;> exact⟨by decide +kernel,by decide +kernel,by decide +kernel,rfl⟩
end
theorem vF:pS Y (.ok (.bl b) Y)=.ok (.bl b) Y:=bw 1e1
abbrev Np(ls:List 2e5):D:=.tup (ls.map cI)
def Lb:D->Int
 |.int i=>i
 |_=>0
def KY:D->List Int
 |.tup xs=>xs.map Lb
 |_=>[]
theorem Hr{w:List Int}:KY (cI w)=w:=by
 show (w.map D.int).map Lb=w;rw[Q9];exact List.map_id' w
def vn(w:List Int):Bool:=(List.range (w.length-1)).all fun i=>decide (w.getD i 0<w.getD (i+1) 0)
theorem v3{w:List Int}:vn w=true↔w.Pairwise (·<·):=by
 unfold vn;rw[RI];constructor
 ·intro h
  have st:∀i (hi:i+1<w.length),w[i]<w[i+1]:=fun i hi=>by
   have:=Tn (h i (OF.mpr 0e1));rw[Sf,Sf,Sw 0e1,Sw hi]at this;exact this
  have up:∀k i (hi:i+k+1<w.length),w[i]<w[i+k+1]:=fun k=>by
   induction k with
   |zero=>exact fun i hi=>st i hi
   |succ k ih=>exact fun i hi=>Int.lt_trans (ih i 0e1) (st (i+k+1) hi)
  rw[Rg];intro i j hi hj hij;have:=up (j-i-1) i 0e1;have e:i+(j-i-1)+1=j:=by omega
  dsimp[e]at this;exact this
 ·intro h i hi;have hi:=OF.mp hi;apply QA;rw[Sf,Sf,Sw (show i<w.length by omega),Sw (show i+1<w.length by omega)];exact Rg.mp h i (i+1) 0e1 0e1 0e1
theorem Dy{w:List Int}(i:Nat)(hi:i<w.length-1):
  gF [some (.int (1+(i:Int))),some (cI w)] Y=.ok (.bl (decide (w.getD i 0<w.getD (i+1) 0))) Y:=by
 have h1:i<w.length:=by omega
 have h2:i+1<w.length:=by omega
 have g1:atI (w.map D.int) (1+(i:Int)-1)=some (.int w[i]):=by
  rw[show (1+(i:Int)-1)=((i:Nat):Int) by omega];exact mQ (by rw[Px,Sw h1];rfl)
 have g2:atI (w.map D.int) (1+(i:Int))=some (.int w[i+1]):=by
  rw[show (1+(i:Int))=((i+1:Nat):Int) by omega];exact mQ (by rw[Px,Sw h2];rfl)
 rw[Sf,Sf,Sw h1,Sw h2];unfold gF;dsimp[aJ,ak,ah,bu,aa,ag,HQ];rw[uc g1];dsimp[aa,ag];rw[uc g2];dsimp[aa,ag,fQ];rfl
theorem yg{w:List Int}(hl:w.length<1000):gM [cI w] Y=.ok (.bl (vn w)) Y:=by
 have c:=cN (U:=Nat) (en:=fun(i:Nat)=>D.int (1+(i:Int))) (src:=.fix (dv 1 (w.length-1))) (g:=ao 0) (t:=cV) (e:=gF) (Y1:=Y) (q:=fun _=>true) (h:=fun i=>.bl (decide (w.getD i 0<w.getD (i+1) 0)))
  (fun L=>∃o,L=[o,some (cI w)]) (fun _=>trivial) (us:=List.range (w.length-1)) (acc:=[]) (L:=[none,some (cI w)]) ⟨none,rfl⟩
  (by rw[Rb,Rc];exact OG 0e1 bO)
  (fun i hi a L ⟨o,ho⟩=>⟨[some (.int (1+(i:Int))),some (cI w)],⟨_,rfl⟩,by subst ho;rfl,rfl,fun _=>Dy i (OF.mp hi)⟩)
 rw[Qy,iM]at c;unfold gM;rw[gv];dsimp[oZ,bg,ay,au,cG,fP,bu,av,aa,ag,ah,jI,PD];rw[G3 0e1 0e1 0e1 0e1];have hn:((w.length:Int)-1).toNat=w.length-1:=by omega
 dsimp[aa,ag,bE,hn];rw[show fJ [none,some 0] (some (cI w)::List.replicate (1-1) none)=[none,some (cI w)] from rfl];rw[show dv 1 (w.length-1)=(List.range (w.length-1)).map fun(i:Nat)=>D.int (1+(i:Int)) from rfl]at c⊢;rw[c];dsimp[aa,ag];rw[la (bs:=(List.range (w.length-1)).map fun i=>decide (w.getD i 0<w.getD (i+1) 0)) (by rw[Q9];exact ax)];dsimp[ae,ag,aU];rw[eG 1e1];simp[vn,SU,To]
def yY(m:Int)(d:D):Bool:=xD m d&&(decide (0<(KY d).length)&&vn (KY d))
theorem zz{m:Int}(h:xD m d=true):∃w:List Int,d=cI w/\KY d=w/\∀n∈w,0<=n/\n<=m-1:=by
 cases d with
 |tup xs=>
  obtain⟨ns,rfl,f⟩:=wd h;exact⟨ns,rfl,Hr,f⟩
 |_=>cases h
theorem Mu{w:List Int}(h:Kn Y (cI w)):w.length<1000:=by
 dsimp[cI,Kn,PD]at h;exact h.1
theorem ρ5{m:Int}(h:Kn Y d):bI [.int m,d] Y=.ok (.bl (yY m d)) Y:=by
 unfold bI;rw[cA];dsimp[iQ,List.replicate,bg,ia,ay,au,av,ah,ak,aa,ag,AF h,bp];cases hp:xD m d with
 |false=>
  dsimp[QE,PR,ae,ag,aU,yY,hp,O7];exact vF
 |true=>
  obtain⟨w,rfl,hu,_⟩:=zz hp;dsimp[PU,aJ,ay,au,av,ak,ah,aa,ag,jI,PD,bu,fQ,bp]
  rw[show gk .Gt (w.length:Int) 0=decide (0<w.length) from by
   show decide ((w.length:Int)>0)=_;by_cases z:0<w.length
   ·rw[QA z];exact QA 0e1
   ·rw[Ot z];exact Ot 0e1]
  rw[yY,hp,hu,Ti];cases decide (0<w.length) with
  |false=>
   dsimp[QE,PR,ae,ag,aU,O7];exact vF
  |true=>
   dsimp[PU,yg (Mu h),ae,ag,aU,Ti];exact vF
theorem wU:∀{v w:List Int},PyData.eqvAll (v.map PyData.int) (w.map PyData.int)=decide (v=w)
 |[],[]=>rfl
 |[],_::_=>rfl
 |_::_,[]=>rfl
 |a::v,b::w=>by
  dsimp[Qj,PyData.eqvAll,wU (v:=v) (w:=w),PyData.eqv];apply Pe.mpr;simp
theorem zM{t:Nat}{w:List Int}(h:M[t]?=some (.lst (w.map D.int))):lr M (.obj t)=some (.list (w.map PyData.int)):=by
 unfold lr;dsimp only;rw[h];dsimp only;rw[jo];rfl
theorem zO{w:List Int}:dQ (.list (w.map PyData.int))=true:=by
 have:=iK w;dsimp[dQ,PyData.canLay0,this.1,PyData.depth,this.2,Ti];rfl
theorem D0{t u:Nat}{v w:List Int}(ht:M[t]?=some (.lst (v.map D.int)))(hu:M[u]?=some (.lst (w.map D.int))):j5 true (.obj t) (.obj u) M=.ok (.bl (!decide (v=w))) M:=by
 unfold j5;rw[zM ht,zM hu];dsimp only;rw[Ow ⟨zO,zO⟩,Ow rfl];dsimp[PyData.eqv,wU]
def c1(n:Int)(xs:List D)(p:Nat):Bool:=xD n (xs.getD p .non)&&(vn (KY (xs.getD p .non))&&decide ((p:Int)∈KY (xs.getD p .non)))
theorem ρ4{w:List Int}:xO (cI w) Y=.ok (.fix (w.map D.int)) Y:=rfl
theorem pP{a b:Nat}{ys:List D}(h:Y[a]?=some 2e6)(g:Y[b]?=some (.lst ys))(hn:xs.length+ys.length<=1000000):cx (.obj a) (.obj b) Y=.ok 1e9 (Y++[.lst (xs++ys)]):=by
 unfold cx;dsimp[h,g];rw[Ow (OG hn 0e4)]
theorem SK{x:D}{p:PyData}(e:lr Y x=some p)(f:dQ p=true):j5 neg x x Y=.ok (.bl (!neg)) Y:=by
 unfold j5;rw[e];dsimp only;rw[Ow ⟨f,f⟩,SeqAt.eqv_refl _ (cg f)];cases neg <;> rfl
theorem LC:Aq neg (.str x) (.str x) M=.ok (.bl (!neg)) M:=by
 unfold Aq;dsimp only;rw[QA rfl];cases neg <;> rfl
theorem wH{Y:aw}:∀fs:List Int,toPs Y (fs.map D.int)=some (fs.map PyData.int)
 |[]=>rfl
 |x::fs=>by dsimp[Qj,toPs,wH fs];rfl
theorem zt{Y:aw}:∀ls:List 2e5,iC Y (ls.map cI)=some (ls.map jl)
 |[]=>rfl
 |l::ls=>by
  have:Aj Y (cI l)=some (jl l):=by
   show (toPs Y (l.map D.int)).map PyData.tuple=_;rw[wH];rfl
  dsimp[Qj,iC,zt ls,this];rfl
theorem IG:lr Y (Np ls)=some (.tuple (ls.map jl)):=by
 dsimp[lr,zt,Option.map_some]
theorem Cv:∀ls:List 2e5,PyData.canLayAll0 (ls.map jl)=true/\PyData.depthAll (ls.map jl)<=1
 |[]=>by simp[PyData.canLayAll0,PyData.depthAll]
 |l::ls=>by
  have ih:=Cv ls;have f:=iK l;dsimp[Qj,PyData.canLayAll0,PyData.depthAll,ih.1,jl,PyData.canLay0,PyData.depth,f.1,f.2];have:=ih.2;exact⟨rfl,by omega⟩
theorem II:dQ (.tuple (ls.map jl))=true:=by
 have:=Cv ls;dsimp[dQ,PyData.canLay0,this.1,PyData.depth,Ti];exact QA (by have:=this.2;omega)
theorem CO:fL "tuple" (.tup xs) Y=.ok (.bl true) Y:=rfl
theorem Ee{w:List Int}(hl:w.length<=1000):compLoop (.fix (w.map D.int)) M.length (ao 0) cV cY (w.map D.int) [none] (M++[.lst []])=.ok (.obj M.length) (M++[.lst ((w.map fun _=>true).map D.bl)]):=by
 have c:=cN (U:=Int) (en:=D.int) (src:=.fix (w.map D.int)) (g:=ao 0) (t:=cV) (e:=cY) (Y1:=M) (q:=fun _=>true) (h:=fun _=>.bl true) (fun L=>∃o,L=[o]) (fun _=>trivial) (us:=w) (acc:=[]) (L:=[none]) ⟨_,rfl⟩
  (by rw[Rc];exact OG 0e1 bO)
  (fun k hk x L hJJ => by
   obtain⟨o,e'⟩:=hJJ;subst e';refine⟨[some (.int k)],⟨_,rfl⟩,rfl,rfl,fun _=>?_⟩;unfold cY;dsimp[ay,au,av,ah,aa]
   exact nO (by simp[Kn]))
 rw[c,iM,Qy,Q9];rfl
theorem sJ(h:∀k∈ls,k.length<=1000)(hl:ls.length<=1000):bz [Np ls,Np ls] Y=.ok (.bl true) Y:=by
 obtain⟨ys',L',Y2,s',⟨e1,n,ρ',e3,e4,e5,e6,e7⟩,run⟩:=kv (src:=.fix (ls.map cI)) (g:=ao 0) (t:=cV) (e:=eJ) (n:=Y.length)
  (fun xs ys L Y2 s=>Y2=Y/\∃(n:Nat)(ρ':List 2e5),xs=ρ'.map cI/\(∀k∈ρ',k.length<=1000)/\ys=(List.replicate n true).map D.bl/\n+ρ'.length<=1000/\∃o,L=[o])
  (fun ys L Y2 s ⟨e,_⟩=>⟨by rw[e],trivial⟩)
  (fun x r ys L Y2 s hJ => by
   obtain⟨e1,n,ρ',e3,e4,e5,e6,o,e7⟩:=hJ;subst e1 e5 e7;cases ρ' with
   |nil=>cases e3
   |cons k ρ'=>
    rw[Qj]at e3;injection e3 with ex er
    subst ex er;have hk:=e4 k OJ;dsimp[QF]at e6;refine⟨rfl,trivial,[some (cI k)],Y2,s,true,Y2,s,rfl,rfl,fun _=>⟨.bl true,Y2,s++[.lst ((k.map fun _=>true).map D.bl)],?_,?_,rfl,rfl,n+1,ρ',rfl,fun k hk=>e4 k (OK _ hk),?_,by omega,_,rfl⟩,fun z=>by cases z⟩
    ·unfold eJ;dsimp[ia,iW,ah,aa];rw[show fL "tuple" (cI k) (Y2++O.lst ((List.replicate n true).map D.bl)::s)=.ok (.bl true) (Y2++O.lst ((List.replicate n true).map D.bl)::s) from rfl];dsimp[aa,bp,PU,ay,au,av,cG,cm,ah,ρ4,bE];rw[show fJ [none] [some (cI k)]=[none] from rfl,Ee hk];dsimp[aa];refine(la ax).trans ?_;rw[show (k.map fun _=>true).all id=true from by simp];dsimp[Qt,Rf]
    ·dsimp[PD,PF];exact OB (show n<1000 by omega) bO
    ·rw[List.replicate_succ',Ru];rfl)
  (xs:=ls.map cI) (ys:=[]) (L:=[none]) (Y1:=Y) (s:=[]) ⟨rfl,0,ls,rfl,h,rfl,by omega,_,rfl⟩
 subst e1 e5;unfold bz;rw[cA];dsimp[i9,List.replicate];rw[aL,bP];dsimp[qo,eu,fN,iW,aJ,dj,ak,ah,aa,CO,cW,RK,QE,PR,SK IG II,bp,ae,bV,aE,bg,ay,au,av,cG,cm,iZ,bE];rw[Er,Hc,run];dsimp[aa];rw[la (bs:=List.replicate n true) (by rw[Pu (O9 _),RE];rfl)];rw[show (List.replicate n true).all id=true from by simp];dsimp[ae,aU];exact eG 1e1
def cB(b:Bool)(q:PyData):Bool:=if b then !q.hasDict else EA q
def EJ(b:Bool)(q:List PyData):Bool:=if b then !PyData.hasDictAll q else noLs q
theorem KR{qs:List PyData}(h:EJ b qs=true):cB b (.tuple qs)=true:=by
 cases b with
 |true=>dsimp[EJ,PU]at h;dsimp[cB,PU,PyData.hasDict];exact h
 |false=>dsimp[EJ,QE,PR]at h;dsimp[cB,QE,PR,EA];exact h
theorem Eu{q:PyData}{qs:List PyData}(h:cB b q=true)(hs:EJ b qs=true):EJ b (q::qs)=true:=by
 cases b with
 |true=>
  dsimp[EJ,cB,PU,Bool.not_eq_true']at h hs⊢;dsimp[PyData.hasDictAll,h,hs,Bool.or_self]
 |false=>
  dsimp[EJ,cB,QE,PR]at h hs⊢;dsimp[noLs,h,hs,RN]
def Oh(b:Bool)(w:Nat)(q:PyData):Prop:=q.showable=true/\q.leavesShort 40=true/\q.weight<=w/\cB b q=true
def GB(b:Bool)(T:aw->Prop)(n w:Nat)(d:D):Prop:=(∃q,(∀Y,T Y->nB Y n d=some q)/\Oh b w q/\q.depth<=n)/\∀Y,T Y->Kn Y d
section
variable{T:aw->Prop}{w:Nat}
theorem GB.wk{w':Nat}(h:GB b T n w d)(hw:w<=w'):GB b T n w' d:=by
 obtain⟨⟨q,h1,⟨a,b,c,e⟩,h3⟩,h4⟩:=h;exact⟨⟨q,h1,⟨a,b,OG c hw,e⟩,h3⟩,h4⟩
theorem mL{q:PyData}(h:vH d=some q)(h1:q.showable=true)(h2:q.leavesShort 40=true)(h3:q.weight<=w)(h4:cB true q=true)(h5:cB false q=true)(hd:q.depth=0):GB b T n w d:=by
 refine⟨⟨q,fun Y _=>CY h,⟨h1,h2,h3,by cases b <;> assumption⟩,by omega⟩,fun Y _=>?_⟩;cases d with
 |tup _=>cases h
 |frz _=>cases h
 |obj _=>cases h
 |_=>simp[Kn]
theorem l7{i:Int}(h0:-1<=i)(h1:i<=8):GB b T n 8 (.int i):=mL rfl (nS h0 h1).1 (nS h0 h1).2.1 (nS h0 h1).2.2.1 rfl rfl rfl
theorem HN{c:Bool}:GB b T n 8 (.bl c):=mL rfl rfl rfl (by simp[PyData.weight]) rfl rfl rfl
theorem Ky:GB b T n 8 .non:=mL rfl rfl rfl (by simp[PyData.weight]) rfl rfl rfl
theorem Kx:GB b T n 8 (.str "0"):=mL rfl rfl 0e8 0e8 rfl rfl rfl
theorem qD:∀{xs:List D},(∀x∈xs,GB b T n w x)->∃qs,(∀Y,T Y->jk (nB Y n) xs=some qs)/\PyData.showableAll qs=true/\PyData.leavesShortAll 40 qs=true/\PyData.weightAll qs<=xs.length*(w+1)/\EJ b qs=true/\PyData.depthAll qs<=n/\∀Y,T Y->Kns Y xs
 |[],_=>⟨[],fun _ _=>rfl,rfl,rfl,by simp[PyData.weightAll],by cases b <;> rfl,by simp[PyData.depthAll],fun _ _=>by simp[Kns]⟩
 |x::xs,h=>by
  obtain⟨⟨q,q1,⟨a,b,c,e⟩,q3⟩,q4⟩:=h x OJ;obtain⟨qs,r1,r2,r3,r4,r5,r6,r7⟩:=qD fun y hy=>h y (OK _ hy);refine⟨q::qs,fun Y hμ=>?_,?_,?_,?_,Eu e r5,?_,fun Y hμ=>?_⟩
  ·dsimp[jk,q1 Y hμ,r1 Y hμ,QK,Option.map_some]
  ·dsimp[PyData.showableAll,a,r2,RN]
  ·dsimp[PyData.leavesShortAll,b,r3,RN]
  ·dsimp[PyData.weightAll,QF,Nat.succ_mul];omega
  ·dsimp[PyData.depthAll];exact Nat.max_le.mpr ⟨q3,r6⟩
  ·dsimp[Kns];exact⟨q4 Y hμ,r7 Y hμ⟩
theorem xZ(h:∀x∈xs,GB b T n w x)(hl:xs.length<=k)(hk:k<1000):GB b T (n+1) (k*(w+1)) (.tup xs):=by
 obtain⟨qs,r1,r2,r3,r4,r5,r6,r7⟩:=qD h;refine⟨⟨.tuple qs,fun Y hμ=>?_,⟨?_,?_,?_,KR r5⟩,?_⟩,fun Y hμ=>?_⟩
 ·show (jk (nB Y n) xs).map PyData.tuple=_;rw[r1 Y hμ];rfl
 ·dsimp[PyData.showable,r2]
 ·dsimp[PyData.leavesShort,r3]
 ·dsimp[PyData.weight];exact OG r4 (Nat.mul_le_mul_right _ hl)
 ·dsimp[PyData.depth];omega
 ·dsimp[Kn];exact⟨by omega,r7 Y hμ⟩
theorem CU{t:Nat}(ht:∀Y,T Y->Y[t]?=some 2e6)(h:∀x∈xs,GB true T n w x)(hl:xs.length<=k):GB true T (n+1) (k*(w+1)) (.obj t):=by
 obtain⟨qs,r1,r2,r3,r4,r5,r6,r7⟩:=qD h;refine⟨⟨.list qs,fun Y hμ=>?_,⟨?_,?_,?_,?_⟩,?_⟩,fun Y hμ=>?_⟩
 ·unfold nB;dsimp only;rw[ht Y hμ];dsimp only;rw[r1 Y hμ];rfl
 ·dsimp[PyData.showable,r2]
 ·dsimp[PyData.leavesShort,r3]
 ·dsimp[PyData.weight];exact OG r4 (Nat.mul_le_mul_right _ hl)
 ·dsimp[EJ,PU]at r5;dsimp[cB,PU,PyData.hasDict];exact r5
 ·dsimp[PyData.depth];omega
 ·dsimp[Kn];refine⟨"list",?_,by decide,by decide,by decide⟩;unfold yX;dsimp only;rw[ht Y hμ]
theorem CV{t:Nat}(ht:∀Y,T Y->Y[t]?=some .dic):GB false T (n+1) 8 (.obj t):=by
 refine⟨⟨.dict [],fun Y hμ=>?_,⟨rfl,rfl,by decide +kernel,rfl⟩,by simp[PyData.depth,PyData.depthKv]⟩,fun Y hμ=>?_⟩
 ·unfold nB;dsimp only;rw[ht Y hμ]
 ·dsimp[Kn];refine⟨"dict",?_,by decide,by decide,by decide⟩;unfold yX;dsimp only;rw[ht Y hμ]
theorem GY(h:GB b T 5 w d)(hw:w<=300000)(hr:t9 d=true):∃x,∀Y,T Y->Kn Y d/\iH [d] Y=.ok (.str x) Y:=by
 obtain⟨⟨q,q1,⟨a,s,c,e⟩,q3⟩,q4⟩:=h;refine⟨q.shown,fun Y hμ=>⟨q4 Y hμ,?_⟩⟩
 have hl:q.shown.length<=sizeLine:=by
  have h1:=PyData.shown_le 40 0e4 q s;have h2:(40+2)*q.weight<=42*300000:=Nat.mul_le_mul (O9 _) 0e1;rw[Pf];omega
 have hd:(!q.hasDict || EA q)=true:=by
  cases b with
  |true=>rw[show (!q.hasDict)=true from e];rfl
  |false=>rw[show EA q=true from e,Bool.or_true]
 have ok:pH q=true:=by
  unfold pH;rw[a,hd,QA (show q.depth<=60 by omega),QA hl];rfl
 cases d with
 |tup xs=>unfold iH;dsimp only;rw[q1 Y hμ];dsimp only;rw[Ow ⟨rfl,ok⟩]
 |frz xs=>unfold iH;dsimp only;rw[q1 Y hμ];dsimp only;rw[Ow ⟨rfl,ok⟩]
 |obj k=>unfold iH;dsimp only;rw[q1 Y hμ];dsimp only;rw[Ow ⟨rfl,ok⟩]
 |_=>cases hr
variable{n0:Nat}
end
theorem KQ{xs:List β}{r:Nat}{n:Int}(e:n=(r:Int)):iR xs (some n) none=xs.drop r:=by
 subst e;unfold iR;have h1:HT.sIx 3e9 0 (some (r:Int))=min r 3e9:=HT.sIx_nat _ _ r;have h2:HT.sIx 3e9 3e9 none=xs.length:=rfl;rw[h1,h2];by_cases h:r<=xs.length
 ·rw[Nat.min_eq_left h,Ri (by rw[PZ];exact O9 _)]
 ·rw[Nat.min_eq_right 0e1,RE,List.take_zero,List.drop_eq_nil_of_le 0e1]
theorem x9{r:Int}(h0:0<=r)(h1:r<(n:Int))(hl:xs.length=n):∃d,atI xs r=some d/\d∈xs:=by
 have h:r.toNat<xs.length:=by omega
 exact⟨xs[r.toNat],C8 h0 (Sw h),Sv h⟩
theorem uH{ys:List D}(h:xs.length+ys.length<=1000):cx (.tup xs) (.tup ys) M=.ok (.tup (xs++ys)) M:=by
 unfold cx;dsimp only;rw[Ow (OG h bO)]
theorem G9{a b:Option Int}:∀x∈iR xs a b,x∈xs:=fun x hx=>by
 unfold iR at hx;exact RB (RA hx)
theorem zZ{a b:Option Int}:(iR xs a b).length<=xs.length:=by
 unfold iR;rw[Pr,PZ];omega
theorem tY{a b:Option Int}:EC (.tup xs) a b M=.ok (.tup (iR xs a b)) M:=rfl
theorem Jj:sC (.tup xs) (.int (-1)) M=.ok (.tup xs.reverse) M:=by
 unfold sC;dsimp only;rw[Ow rfl]
theorem Fy:∃x:Int,dZ [.frz (ns.map D.int),.int 0] Y=.ok (.int x) Y:=by
 unfold dZ;rw[cA];cases ns with
 |nil=>
  refine⟨0,?_⟩;dsimp[iP,Qi,List.replicate,aL,bP,dj,aJ,ak,ah,ay,au,av,zX,Rc,aa,fQ];rw[show gk .Lt 0 ((0:Nat):Int)=false from rfl];dsimp[bp,ae,QE,PR,bV,aE,bg,bu,aU];exact bw 1e1
 |cons x r=>
  refine⟨x,?_⟩;dsimp[iP,Qj,List.replicate,aL,bP,dj,aJ,ak,ah,ay,au,av,zX,QF,aa,fQ];rw[show gk .Lt 0 (((r.map D.int).length+1:Nat):Int)=true from QA 0e1];dsimp[bp,ae,PU,bg,aJ,ak,ah,aa];rw[KD zk];dsimp[ae,l5,aU];exact bw 1e1
def HW(M:aw)(d:D):Prop:=∃x,∀s,Kn (M++s) d/\iH [d] (M++s)=.ok (.str x) (M++s)
section
theorem Ft{p:Int}(h:GW m ks):gO [bj m ks,.int p] Y=.ok 1e9 (Y++[.lst ((gn ks p).map D.int)]):=by
 have n2:0+1+1<=sizeLine:=l2
 have c:=cN (U:=List Int) (en:=aI) (src:=.fix 1e8) (g:=cy 2 1e7) (t:=jg) (e:=ji) (Y1:=Y) (q:=xP p) (h:=fun k=>.int ((g7 k).1+(g7 k).2-p)) (fun L=>∃o o',L=[o,o',some (.int p)]) (fun _=>trivial) (us:=ks) (acc:=[]) (L:=[none,none,some (.int p)]) ⟨_,_,rfl⟩
  (by rw[Rc];have:=eP h;exact OG 0e1 bO)
  (fun k hk a L hJJ => by
   obtain⟨o,o',e⟩:=hJJ;subst e;obtain⟨x,y,rfl,_⟩:=h.2.2.2.2 k hk;refine⟨[some (.int x),some (.int y),some (.int p)],⟨_,_,rfl⟩,rfl,?_,fun _=>?_⟩
   ·unfold jg;dsimp[dj,aJ,c9,au,av,ak,ah,aa,ag,QF,Rc,Ow n2,Kr,bp];rfl
   ·unfold ji;dsimp[aJ,ak,ah,aa,ag,fR]
    rfl)
 rw[Qy,show (ks.filter (xP p)).map (fun k=>D.int ((g7 k).1+(g7 k).2-p))=(gn ks p).map D.int from by unfold gn;rw[Q9];rfl]at c;unfold gO;rw[cA];dsimp[pf,List.replicate,bg,cG,cm,aJ,ah,bu,aa,ag,k9,iZ,bE];rw[show fJ [none,none,some 1] _=[none,none,some (.int p)] from rfl,c];dsimp[ae,ag,aU];exact sA 1e1
end
def Ae(ks:List 2e5)(p q:Int):Prop:=∃n,R (pV ks) p n q
theorem Ae.refl{p:Int}:Ae ks p p:=⟨0,rfl⟩
theorem uq{ks:List 2e5}{p q:Int}{n:Nat}(h:R (pV ks) p n q):∀{k:Nat}{r:Int},R (pV ks) q k r->R (pV ks) p (n+k) r
 |0,r,g=>by
  have:r=q:=g;subst this;exact h
 |k+1,r,g=>by
  rcases g with g|⟨s,g1,g2⟩
  ·exact .inl (uq h g)
  ·exact .inr ⟨s,g1,uq h g2⟩
theorem Ae.trans{p r:Int}(h:Ae ks p q)(k:Ae ks q r):Ae ks p r:=let ⟨n,h⟩:=h;let ⟨j,k⟩:=k;⟨n+j,uq h k⟩
open Classical in
def rB(ks:List 2e5)(p q:Int):Bool:=decide (Ae ks p q)
theorem qk{p:Int}:rB ks p q=true↔Ae ks p q:=by unfold rB;exact@decide_eq_true_iff _ (Classical.propDecidable _)
theorem Bl{p:Int}{f:Int->Option Nat}(h:BX (pV ks) p (fun q=>0<=q/\q<(m:Int)) f)(hq:0<=q/\q<(m:Int)):(f q).isNone=!rB ks p q:=by
 cases e:f q with
 |none=>
  have:¬ Ae ks p q:=fun⟨n,hn⟩=>by
   obtain⟨j,_,hj⟩:=hn.lev;have:=(h q hq j).mpr hj;rw[e]at this;cases this
  have hb:rB ks p q=false:=by
   cases z:rB ks p q with
   |false=>rfl
   |true=>exact absurd (qk.mp z) this
  rw[hb];rfl
 |some j=>
  have:Ae ks p q:=⟨j,((h q hq j).mp e).r⟩;rw[qk.mpr this];rfl
theorem DS{o:Option Nat}:(vp o).isNon=o.isNone:=by cases o <;> rfl
def aW(m:Nat)(ks:List 2e5)(s:Int):List Int:=(rg m).filter (rB ks s)
def eF(m:Nat)(ks:List 2e5)(s:Int):Bool:=decide (K7 (aW m ks s)=s)
def BV(m:Nat)(ks:List 2e5):List Int:=(rg m).filter (eF m ks)
theorem El{f:Int->Option Nat}:g9 0 (fk m f)=(List.range m).map fun i=>.tup [.int (i:Nat),vp (f (i:Nat))]:=by
 apply Sg;intro i;rw[nV];unfold fk;rw[Px,Px];by_cases hi:i<m
 ·rw[Sh hi];simp
 ·rw[Si (by simpa using hi)];rfl
theorem yu{s:Int}{f:Int->Option Nat}(h:BX (pV ks) s (fun q=>0<=q/\q<(m:Int)) f):((List.range m).filter fun i=>(f (i:Nat)).isSome).map (fun i:Nat=>D.int (i:Nat))=(aW m ks s).map D.int:=by
 unfold aW rg;rw[List.filter_map,Q9];congr 1;apply List.filter_congr;intro i hi;have:=Bl h (q:=(i:Int)) ⟨by omega,by have:=OF.mp hi;omega⟩;show (f (i:Nat)).isSome=rB ks s (Int.ofNat i);rw[show Int.ofNat i=(i:Int) from rfl];cases e:f (i:Nat) with
 |none=>rw[e]at this;cases z:rB ks s (i:Int) with
  |false=>rfl
  |true=>rw[z]at this;cases this
 |some j=>rw[e]at this;cases z:rB ks s (i:Int) with
  |true=>rfl
  |false=>rw[z]at this;cases this
theorem yt{s:Int}(hs:0<=s/\s<(m:Int)):s∈aW m ks s:=OE.mpr ⟨jc.mpr hs,qk.mpr Ae.refl⟩
theorem wg{s:Int}(hs:0<=s/\s<(m:Int)):aW m ks s≠[]:=fun e=>by have:=yt (ks:=ks) hs;rw[e]at this;cases this
theorem AG(h:lM (.tup [.int m,.tup 1e8]) m ks):∃s,fE [.tup [.int m,.tup 1e8]] Y=.ok 1e9 (Y++.lst ((BV m ks).map fun s=>cI (aW m ks s))::s):=by
 have hm6:m<=6:=by have:=h.2.2.1;omega
 have hm1:1<=m:=by have:=h.2.1;omega
 let W:D:=.tup [.int m,.tup 1e8]
 obtain⟨L',Y',⟨dn,rs,s,o2,o3,o4,e1,e2,e3,e4⟩,run⟩:=k8 (src:=.fix ((rg m).map D.int)) (g:=ao 2) (fb:=gD)
  (fun xs L M=>∃(dn rs:List Int)(s:aw)(o2 o3 o4:Option D),rg m=dn++rs/\xs=rs.map D.int/\M=Y++.lst ((dn.filter (eF m ks)).map fun s=>cI (aW m ks s))::s/\L=[some W,some 1e9,o2,o3,o4])
  (fun _ _ _=>trivial)
  (fun x xs L M hJJ => by
   obtain⟨dn,rs,s,o2,o3,o4,e1,e2,e3,e4⟩:=hJJ;subst e4;cases rs with
   |nil=>cases e2
   |cons p rs=>
    rw[Qj]at e2;injection e2 with h1 h2
    subst h1 h2;have hp:=jc.mp (show p∈rg m by rw[e1];simp);obtain⟨A,g,f,f1,f2,f3,f4⟩:=Fv (Y:=M) h hp.1 hp.2
    have c:=cN (U:=Nat) (en:=fun i=>.tup [.int (i:Nat),vp (f (i:Nat))]) (src:=.eno A (fk m f)) (g:=cy 2 (aT (ao 0) (aT (ao 1) cz))) (t:=je) (e:=jh) (Y1:=M++g) (q:=fun i=>(f (i:Nat)).isSome) (h:=fun i=>.int (i:Nat))
     (fun L=>∃a b,L=[a,b]) (fun _=>aF f2) (us:=List.range m) (acc:=[]) (L:=[none,none]) ⟨_,_,rfl⟩
     (by rw[Rc,Rb];exact OG 0e1 bO)
     (fun i hi a L hJJ => by
      obtain⟨x,y,e⟩:=hJJ;subst e;refine⟨[some (.int (i:Nat)),some (vp (f (i:Nat)))],⟨_,_,rfl⟩,rfl,?_,fun _=>by unfold jh;rw[ah]⟩;unfold je;dsimp[dj,aJ,ak,ah,bu,aa,C0,PU,bp,DS]
      cases f (i:Nat) <;> rfl)
    rw[Qy,<- El,yu f4]at c
    have dl:dn.length<1000:=by
     have:(rg m).length=m:=jE;rw[e1,PB]at this;omega
    have run:gD [some W,some 1e9,some (.int p),o3,o4] M=.next [some W,some 1e9,some (.int p),some (.obj A),some (cI (aW m ks p))] (if eF m ks p=true then Y++.lst (((dn++[p]).filter (eF m ks)).map fun s=>cI (aW m ks s))::(s++(g++[.lst ((aW m ks p).map D.int)])) else Y++.lst ((dn.filter (eF m ks)).map fun s=>cI (aW m ks s))::(s++(g++[.lst ((aW m ks p).map D.int)]))):=by
     unfold gD;dsimp[aL,aZ,ay,au,av,ak,ah,aa];rw[f1];dsimp[ae,bB,Tg,Th,aE,aL,aZ,ay,au,av,cG,fP,ak,ah,aa];rw[show mF [.obj A] (M++g)=.ok (.eno A (fk m f)) (M++g) from by unfold mF;dsimp only;rw[f2]];dsimp[aa];rw[show (pj.eno A (fk m f)).items=g9 0 (fk m f) from rfl,show fJ [none,none] _=[none,none] from rfl,c];dsimp[aa];rw[iY ax];dsimp[ae,bB,Tg,Th,aE,bP,dj,aJ,ak,ah,bu,aa];rw[show fK (.tup ((aW m ks p).map D.int)) (.int 0) _=.ok (.int (K7 (aW m ks p))) _ from GX (wg hp)];dsimp[aa,l9,QE,PR,bp,ae];rw[show (K7 (aW m ks p) == p)=eF m ks p from by unfold eF;apply Pe.mpr;rw[SI,SN]]
     have st:M++g++[O.lst ((aW m ks p).map D.int)]=Y++O.lst ((dn.filter (eF m ks)).map fun s=>cI (aW m ks s))::(s++(g++[.lst ((aW m ks p).map D.int)])):=by
      rw[e3];dsimp[Qt,Rf]
     rw[st];cases hf:eF m ks p with
     |false=>dsimp[QE,PR,bV]
     |true=>
      dsimp[PU,mP,qd,ak,ah,aa];rw[show Ad 1e9 (Y++O.lst ((dn.filter (eF m ks)).map fun s=>cI (aW m ks s))::(s++(g++[.lst ((aW m ks p).map D.int)])))=true from by unfold Ad;dsimp only;rw[ax]];dsimp[PU,au,av,ak,ah,aa]
      rw[show eB 1e9 [.tup ((aW m ks p).map D.int)] (Y++O.lst ((dn.filter (eF m ks)).map fun s=>cI (aW m ks s))::(s++(g++[.lst ((aW m ks p).map D.int)])))=.ok .non (Y++O.lst ((dn.filter (eF m ks)).map (fun s=>cI (aW m ks s))++[cI (aW m ks p)])::(s++(g++[.lst ((aW m ks p).map D.int)]))) from by
       unfold eB;dsimp only;rw[ax];dsimp only;rw[Ow,ko];rw[PD]
       exact Nat.lt_of_le_of_lt (Tp _ _) (OB dl bO)]
      dsimp[ae];rw[Tq,SY,hf,Ow rfl,Tr,Ru];rfl
    refine⟨trivial,_,M,_,_,rfl,run,dn++[p],rs,s++(g++[.lst ((aW m ks p).map D.int)]),_,_,_,by rw[e1];simp,rfl,?_,rfl⟩;cases hf:eF m ks p with
    |true=>rw[Ow rfl]
    |false=>
     rw[Ox O3,Tq,SY,hf,Ox O3,Tr,Pi])
  (xs:=(rg m).map D.int) (L:=[some W,some 1e9,none,none,none]) (Y:=Y++[O.lst []])
  ⟨[],rg m,[],none,none,none,rfl,rfl,rfl,rfl⟩
 have hr:rs=[]:=by cases rs with
  |nil=>rfl
  |cons=>cases e2
 subst hr e4;rw[Pi]at e1;subst e1;refine⟨s,?_⟩;unfold fE;rw[gv];have l0:([]:List D).length<=sizeLine:=QO _;have hr:∀Y,lz [.int (m:Int)] Y=.ok (.fix ((rg m).map D.int)) Y:=fun Y=>by rw[i3 0e1 0e1,qj]
 dsimp[oY,List.replicate,aL,aZ,fq,av,aa,Ow l0,ae,bB,Tg,Th,aE,iG,fP,au,aJ,ah,bu,dN,hr,bE];rw[run];dsimp[aE,bg,ak,ah,ae,aU];rw[sA 1e1,e3];rfl
theorem Ed{F:Nat}{fs:List Int}{a:Int}(h:Y[F]?=some (.lst (fs.map D.int))):pU true (.int a) (.obj F) Y=.ok (.bl (!decide (a∈fs))) Y:=by
 have e:=uD (a:=a) h;unfold pU at e⊢;cases e1:lr Y (.int a) with
 |none=>rw[e1]at e;cases e
 |some p=>
  rw[e1]at e;cases e2:lr Y (.obj F) with
  |none=>rw[e2]at e;cases e
  |some q=>
   rw[e2]at e;dsimp only at e⊢;cases e3:t6 q with
   |none=>rw[e3]at e;cases e
   |some ys=>
    rw[e3]at e;dsimp only at e⊢;split at e
    ·rename_i hf;rw[Ow hf];dsimp[QE,PR,PU]at e⊢;injection e with e
     injection e with e
     rw[e]
    ·cases e
section
variable{T:Nat}
theorem yz(h:GW m ks){p:Int}:(gn ks p).Nodup:=by
 unfold gn List.Nodup;rw[Sj];refine(h.2.2.2.1.sublist List.filter_sublist).imp_of_mem ?_;intro a b ha hb hlt e;obtain⟨ha1,ha2⟩:=OE.mp ha;obtain⟨hb1,hb2⟩:=OE.mp hb;obtain⟨x,y,rfl,x0,xy,ym⟩:=h.2.2.2.2 a ha1;obtain⟨z,w,rfl,z0,zw,wm⟩:=h.2.2.2.2 b hb1;dsimp[xP,g7,Ts,Tt,Bool.or_eq_true,SN]at ha2 hb2 e;have:x=z/\y=w:=by omega
 obtain⟨rfl,rfl⟩:=this;omega
def Kt(T:Nat)(M M':aw):Prop:=∀(j:Nat)(o:O),j≠T->M[j]?=some o->M'[j]?=some o
theorem Kt.refl:Kt T M M:=fun _ _ _ e=>e
theorem Kt.trans{M1 M2:aw}(h:Kt T M M1)(h':Kt T M1 M2):Kt T M M2:=fun j o n e=>h' j o n (h j o n e)
theorem Kt.app{M1 g:aw}(h:Kt T M M1):Kt T M (M1++g):=fun j o n e=>aF (h j o n e)
theorem Kt.set{M1:aw}{o':O}(h:Kt T M M1):Kt T M (M1.set T o'):=fun j o n e=>by rw[OT (ON n)];exact h j o n e
theorem Lu(hn:ρ.Nodup)(hr:∀x∈ρ,0<=x/\x<(m:Int)):ρ.length<=m:=by
 have:=iJ hn (l2:=rg m) fun x hx=>jc.mpr (hr x hx)
 rwa [jE]at this
theorem Gh{r:Int}{b1 b2 b4:Option D}(h:GW m ks)(hT:M[T]?=some (.lst (ρ.map D.int)))(hl:ρ.length<=6):
  ∃M',fg [some (bj m ks),b1,b2,some (.obj T),b4,some (.int r)] M=.next [some (bj m ks),b1,b2,some (.obj T),b4,some (.int r)] M'/\Kt T M M'/\M'[T]?=some (.lst ((ρ++(gn ks r).filter fun x=>!decide (x∈ρ)).map D.int)):=by
 have hTl:=(OQ.mp hT).1;have nl:=DZ h (p:=r);let M1:aw:=M++[.lst ((gn ks r).map D.int)]
 let F:=(gn ks r).filter fun x=>!decide (x∈ρ)
 let M2:aw:=M1++[.lst (F.map D.int)]
 have c:=cN (U:=Int) (en:=D.int) (src:=.own M.length ((gn ks r).map D.int)) (g:=ao 0) (t:=gX) (e:=g6) (Y1:=M1) (q:=fun x=>!decide (x∈ρ)) (h:=D.int) (fun L=>∃o,L=[o,some (.obj T)]) (fun _=>aF ax) (us:=gn ks r) (acc:=[]) (L:=[none,some (.obj T)]) ⟨_,rfl⟩
  (by rw[Rc];exact OG 0e1 bO)
  (fun x hx a L hJJ => by
   obtain⟨o,e⟩:=hJJ;subst e;refine⟨[some (.int x),some (.obj T)],⟨_,rfl⟩,rfl,?_,fun _=>by unfold g6;rw[ah]⟩;have ii:=Ed (a:=x) (Y:=M1++[O.lst a]) (aF (aF hT));unfold gX
   dsimp[dj,aJ,ak,ah,aa,ii,bp])
 rw[Qy]at c;have fl:F.length<=15:=OG (Tp _ _) nl;have ex:ie (.obj T) [.obj M1.length] M2=.ok .non (M2.set T (.lst (ρ.map D.int++F.map D.int))):=zV (aF (aF hT)) ax (by rw[PD,PD];omega);refine⟨M2.set T (.lst (ρ.map D.int++F.map D.int)),?_,(Kt.refl.app.app).set,by rw[Ru];exact hZ (OB hTl (by dsimp[M2,M1,PB,QF,Rc];omega))⟩;unfold fg;dsimp[mP,qd,au,av,cG,cm,ay,ah,ak,aa,ua hT,PU,Ft h];rw[gA ax];dsimp[aa,dC];rw[show fJ [none,some 3] [some (bj m ks),b1,b2,some (.obj T),b4,some (.int r)]=[none,some (.obj T)] from rfl,c];dsimp[aa];rw[show ie (.obj T) [.obj (M++[O.lst ((gn ks r).map D.int)]).length] (M++[O.lst ((gn ks r).map D.int)]++[O.lst (((gn ks r).filter fun x=>!decide (x∈ρ)).map D.int)])=_ from ex,ae]
def BL(m:Nat)(ks:List 2e5)(p:Int)(ρ:List Int):Prop:=ρ.Nodup/\p∈ρ/\∀x∈ρ,(0<=x/\x<(m:Int))/\Ae ks p x
theorem BL.len{p:Int}(h:BL m ks p ρ):ρ.length<=m:=Lu h.1 fun x hx=>(h.2.2 x hx).1
theorem BL.more{p r:Int}(g:GW m ks)(h:BL m ks p ρ)(hr:r∈ρ):BL m ks p (ρ++(gn ks r).filter fun x=>!decide (x∈ρ)):=by
 obtain⟨h1,h2,h3⟩:=h;refine⟨RO.mpr ⟨h1,(yz g).filter _,fun a ha b hb e=>?_⟩,OP _ h2,fun x hx=>?_⟩
 ·subst e;have:=(OE.mp hb).2;simp at this;exact this ha
 ·rcases OO.mp hx with z | z
  ·exact h3 x z
  ·have ad:=(wy g).mp (OE.mp z).1;exact⟨(ic g.2.2.2.2 ad).2,(h3 r hr).2.trans ⟨1,.inr ⟨r,ad,rfl⟩⟩⟩
theorem zH{p:Int}{C:Nat}{all:List D}{b1 b2 b4:Option D}(g:GW m ks)(ct:C≠T):∀(rs ρ:List Int)(M:aw)(o5:Option D),M[C]?=some (.lst all)->M[T]?=some (.lst (ρ.map D.int))->BL m ks p ρ->(∀r∈rs,r∈ρ) ->
  ∃(ρ':List Int)(M':aw)(o5':Option D),fH (.own C all) (ao 5) fg (rs.map D.int) [some (bj m ks),b1,b2,some (.obj T),b4,o5] M=.next [some (bj m ks),b1,b2,some (.obj T),b4,o5'] M'/\Kt T M M'/\M'[T]?=some (.lst (ρ'.map D.int))/\BL m ks p ρ'/\(∀x∈ρ,x∈ρ')/\∀r∈rs,∀x,pV ks r x->x∈ρ'
 |[],ρ,M,o5,hC,hT,hP,_=>by
  refine⟨ρ,M,o5,?_,.refl,hT,hP,fun _ z=>z,fun r hr=>by cases hr⟩;rw[Qi];unfold fH;exact Ow hC
 |r::rs,ρ,M,o5,hC,hT,hP,hs=>by
  have hr:=hs r OJ;have m6:=g.m6;obtain⟨M1,e1,k1,t1⟩:=Gh (b1:=b1) (b2:=b2) (b4:=b4) (r:=r) g hT (OG hP.len m6);have P1:=hP.more g hr;obtain⟨ρ',M',o5',e2,k2,t2,P2,s1,s2⟩:=zH (b1:=b1) (b2:=b2) (b4:=b4) g ct rs _ M1 (some (.int r)) (k1 C _ ct hC) t1 P1 (fun x hx=>OP _ (hs x (OK _ hx)));refine⟨ρ',M',o5',?_,k1.trans k2,t2,P2,fun x hx=>s1 x (OP _ hx),fun q hq x hx=>?_⟩
  ·rw[Qj];unfold fH;rw[Ow (show cK (.own C all) M from hC)];dsimp[bB,ae,Tg,Th];rw[e1,jG,e2]
  ·rcases OM.mp hq with rfl | hq
   ·refine s1 x ?_;by_cases z:x∈ρ
    ·exact OP _ z
    ·exact Pd _ (OE.mpr ⟨(wy g).mpr hx,by simpa using z⟩)
   ·exact s2 q hq x hx
theorem DO{p:Int}{X:List D}{b1 b2:Option D}(g:GW m ks):∀(n k:Nat)(lo:Int)(ρ:List Int)(M:aw)(o4 o5:Option D),T<M.length->M[T]?=some (.lst (ρ.map D.int))->BL m ks p ρ->(∀x,R (pV ks) p k x->x∈ρ) ->
  ∃(ρ':List Int)(M':aw)(o4' o5':Option D),fH (.fix X) (ao 4) ff (dv lo n) [some (bj m ks),b1,b2,some (.obj T),o4,o5] M=.next [some (bj m ks),b1,b2,some (.obj T),o4',o5'] M'/\Kt T M M'/\M'[T]?=some (.lst (ρ'.map D.int))/\BL m ks p ρ'/\∀x,R (pV ks) p (k+n) x->x∈ρ':=by
 intro n
 induction n with
 |zero=>
  intro k lo ρ M o4 o5 hl hT hP hR;refine⟨ρ,M,o4,o5,?_,.refl,hT,hP,hR⟩;rw[lp];unfold fH;exact Ow trivial
 |succ n ih=>
  intro k lo ρ M o4 o5 hl hT hP hR;have dl:hG [.obj T] M=.ok (.obj M.length) (M++[.lst (ρ.map D.int)]):=by unfold hG;dsimp only;rw[hT]
  obtain⟨ρ1,M1,o5',e1,k1,t1,P1,s1,s2⟩:=zH (C:=M.length) (all:=ρ.map D.int) (b1:=b1) (b2:=b2) (b4:=some (.int lo)) g 0e1 ρ ρ (M++[.lst (ρ.map D.int)]) o5 ax (aF hT) hP fun _ z=>z
  have hR1:∀x,R (pV ks) p (k+1) x->x∈ρ1:=fun x hx=>by
   rcases hx with hx|⟨r,h1,h2⟩
   ·exact s1 x (hR x hx)
   ·exact s2 r (hR r h2) x h1
  obtain⟨ρ2,M2,o4',o5'',e2,k2,t2,P2,r2⟩:=ih (k+1) (lo+1) ρ1 M1 (some (.int lo)) o5' ((OQ.mp t1).1) t1 P1 hR1;refine⟨ρ2,M2,o4',o5'',?_,(Kt.refl.app.trans k1).trans k2,t2,P2,fun x hx=>r2 x (by rw[show k+1+n=k+(n+1) by omega];exact hx)⟩;rw[jt];unfold fH;rw[Ow (show cK (.fix X) M from trivial)];dsimp[bB,ae,Tg,Th]
  rw[show ff [some (bj m ks),b1,b2,some (.obj T),some (.int lo),o5] M=.next [some (bj m ks),b1,b2,some (.obj T),some (.int lo),o5'] M1 from by
   unfold ff;dsimp[iG,cm,ay,au,av,ah,ak,aa,dl]
   rw[gA ax,ae,dC,e1],jG,e2]
theorem DN{p:Int}(g:GW m ks)(hp:0<=p/\p<(m:Int))(h:BL m ks p ρ)(hR:∀x,R (pV ks) p m x->x∈ρ):lK ρ=aW m ks p:=by
 have mem:∀x,x∈ρ↔x∈aW m ks p:=fun x=>by
  unfold aW;rw[OE,jc];constructor
  ·intro hx;exact⟨(h.2.2 x hx).1,qk.mpr (h.2.2 x hx).2⟩
  ·rintro ⟨_, hx⟩
   obtain⟨n,hn⟩:=qk.mp hx;obtain⟨j,_,hj⟩:=hn.lev;have:=CM hp (fun a b ab=>(ic g.2.2.2.2 ab).2) hj;exact hR x (hj.r.mono 0e1)
 have srt:(aW m ks p).Pairwise (·<·):=σ5.filter _;refine(vW (ns':=aW m ks p) ?_ (srt.imp fun h=>Tu h)).symm;exact(RG (srt.imp fun h=>Int.ne_of_lt h) h.1).mpr fun x=>(mem x).symm
end
section
variable{T:Nat}
theorem J4(hT:M[T]?=some (.lst (ρ.map D.int)))(hn:ρ≠[]):pX [.obj T] M=.ok (.int (BU ρ)) M:=by
 cases ρ with
 |nil=>exact absurd rfl hn
 |cons x r=>
  unfold pX;dsimp only;unfold BN;dsimp only;rw[hT];dsimp only;rw[qB]
theorem AK(hT:M[T]?=some (.lst (ρ.map D.int)))(hl:ρ.length<64):eA [.obj T] M=.ok (.obj M.length) (M++[.lst ((lK ρ).map D.int)]):=by
 unfold eA;dsimp only;rw[hT];dsimp only;rw[qB];dsimp only;rw[Ow hl]
theorem GF{p:Int}(hp:0<=p/\p<(m:Int))(h:BL m ks p ρ)(hs:lK ρ=aW m ks p):(BU ρ == p)=eF m ks p:=by
 have hperm:(aW m ks p).Perm ρ:=by rw[<- hs];exact List.mergeSort_perm ρ _
 have srt:(aW m ks p).Pairwise (·<·):=σ5.filter _
 have hd:BU ρ=K7 (aW m ks p):=by
  symm;cases e:aW m ks p with
  |nil=>exact absurd e (wg hp)
  |cons x r=>
   rw[e]at hperm srt;refine zL (hperm.mem_iff.mp OJ) fun j hj=>?_;rcases OM.mp (hperm.mem_iff.mpr hj) with rfl|hj
   ·exact Int.le_refl _
   ·exact Tu (List.rel_of_pairwise_cons srt hj)
 unfold eF;rw[hd];apply Pe.mpr;rw[SI,SN]
theorem DP{p:Int}{Fd:Nat}{acc:List D}{o3 o4 o5:Option D}(g:GW m ks)(hp:0<=p/\p<(m:Int))(hF:M[Fd]?=some (.lst acc))(hl:acc.length<1000) :
  ∃(M':aw)(c3 c4 c5:Option D),dB [some (bj m ks),some (.obj Fd),some (.int p),o3,o4,o5] M=.next [some (bj m ks),some (.obj Fd),some (.int p),c3,c4,c5] M'/\Kt Fd M M'/\M'[Fd]?=some (.lst (if eF m ks p=true then acc++[cI (aW m ks p)] else acc)):=by
 have n1:0+1<=sizeLine:=by decide
 have m6:=g.m6;have hFl:=(OQ.mp hF).1;have P0:BL m ks p [p]:=⟨by simp,QP.mpr rfl,fun x hx=>by rw[QP.mp hx];exact⟨hp,Ae.refl⟩⟩
 obtain⟨ρ,M1,c4,c5,e1,k1,t1,P1,r1⟩:=DO (T:=M.length) (p:=p) (X:=dv 0 m) (b1:=some (.obj Fd)) (b2:=some (.int p)) g m 0 0 [p] (M++[.lst [.int p]]) o4 o5 1e1 ax P0 (fun x hx=>by
  have:x=p:=hx
  rw[this];exact QP.mpr rfl)
 rw[Nat.zero_add]at r1;have hs:=DN g hp P1 r1;have F1:=k1 Fd _ 0e1 (aF hF);have Ln:ρ≠[]:=fun z=>by have:=P1.2.1;rw[z]at this;cases this
 have rn:lz [.int (m:Int)] (M++[.lst [.int p]])=.ok (.fix (dv 0 m)) (M++[.lst [.int p]]):=by
  rw[i3 0e1 0e1,show ((m:Int)).toNat=m from by omega]
 have body:dB [some (bj m ks),some (.obj Fd),some (.int p),o3,o4,o5] M=pF (lx (aK (j5 false) (aB pX (af (ai 3) (az))) (ai 2))) (mE (y4 eB (ai 1) (af (aB fu (af (aB eA (af (ai 3) (az))) (az))) (az)))) (dG) [some (bj m ks),some (.obj Fd),some (.int p),some (.obj M.length),c4,c5] M1:=by
  unfold dB;rw[aL,aZ];dsimp[fq,au,av,ah,ak,aa,QF,Rc,Ow n1,ae,bB,aE,Tg,Th];rw[aL,iG];dsimp[fP,au,av,aJ,bu,ah,aa,dN,rn,ae,bE];rw[e1,aE]
 rw[body];dsimp[bP,dj,aJ,ay,au,av,ah,ak,aa,J4 t1 Ln,l9,QE,PR,bp,ae,GF hp P1 hs];have kM:Kt Fd M M1:=fun j o n e=>k1 j o (by have:=(OQ.mp e).1;omega) (aF e);cases hf:eF m ks p with
 |false=>exact⟨M1,_,_,_,by dsimp[QE,PR,bV];rfl,kM,F1⟩
 |true=>
  have ll:ρ.length<64:=by have:=P1.len;omega
  have so:=AK t1 ll;rw[hs]at so
  have ap:eB (.obj Fd) [cI (aW m ks p)] (M1++[O.lst ((aW m ks p).map D.int)])=.ok .non ((M1++[O.lst ((aW m ks p).map D.int)]).set Fd (.lst (acc++[cI (aW m ks p)]))):=by
   unfold eB;dsimp only;rw[aF F1];dsimp only;rw[Ow (OB hl bO)]
  refine⟨(M1++[O.lst ((aW m ks p).map D.int)]).set Fd (.lst (acc++[cI (aW m ks p)])),some (.obj M.length),c4,c5,?_,kM.app.set,hZ (by have:=(OQ.mp F1).1;simp;omega)⟩;dsimp[PU,mP,qd,ay,au,av,ah,ak,aa,ua F1,so];rw[iY ax];dsimp[aa];rw[show D.tup ((aW m ks p).map D.int)=cI (aW m ks p) from rfl,ap,ae]
theorem sQ{Fd:Nat}{X:List D}(g:GW m ks):∀(rs dn:List Int)(M:aw)(o2 o3 o4 o5:Option D),(∀p∈rs,0<=p/\p<(m:Int))->dn.length+rs.length<900->M[Fd]?=some (.lst ((dn.filter (eF m ks)).map fun s=>cI (aW m ks s))) ->
  ∃(M':aw)(c2 c3 c4 c5:Option D),fH (.fix X) (ao 2) dB (rs.map D.int) [some (bj m ks),some (.obj Fd),o2,o3,o4,o5] M=.next [some (bj m ks),some (.obj Fd),c2,c3,c4,c5] M'/\Kt Fd M M'/\M'[Fd]?=some (.lst (((dn++rs).filter (eF m ks)).map fun s=>cI (aW m ks s)))
 |[],dn,M,o2,o3,o4,o5,_,_,hF=>by
  refine⟨M,o2,o3,o4,o5,?_,.refl,by rw[Pi];exact hF⟩;rw[Qi];unfold fH;exact Ow trivial
 |p::rs,dn,M,o2,o3,o4,o5,hr,hl,hF=>by
  dsimp[QF]at hl;obtain⟨M1,c3,c4,c5,e1,k1,t1⟩:=DP (o3:=o3) (o4:=o4) (o5:=o5) g (hr p OJ) hF (by rw[PD];exact Nat.lt_of_le_of_lt (Tp _ _) 0e1)
  have t1':M1[Fd]?=some (.lst (((dn++[p]).filter (eF m ks)).map fun s=>cI (aW m ks s))):=by
   rw[t1,Tq,SY,Tr,Ru];cases eF m ks p with
   |true=>rw[Ow rfl,Ow rfl];rfl
   |false=>rw[Ox O3,Ox O3,Qi,Pi]
  obtain⟨M2,d2,d3,d4,d5,e2,k2,t2⟩:=sQ (X:=X) g rs (dn++[p]) M1 (some (.int p)) c3 c4 c5 (fun q hq=>hr q (OK _ hq)) (by simp;omega) t1';refine⟨M2,d2,d3,d4,d5,?_,k1.trans k2,by rw[t2,Qt];rfl⟩;rw[Qj];unfold fH;rw[Ow (show cK (.fix X) M from trivial)];dsimp[bB,ae,Tg,Th];rw[e1,jG,e2]
theorem yk(g:GW m ks):∃(t:Nat)(M':aw),dE [bj m ks] Y=.ok (.obj t) M'/\Y.length<=t/\(∀(j:Nat)(o:O),Y[j]?=some o->M'[j]?=some o)/\M'[t]?=some (.lst ((BV m ks).map fun s=>cI (aW m ks s))):=by
 have m6:=g.m6;have z0:(0:Nat)<=sizeLine:=QO _;obtain⟨M',c2,c3,c4,c5,e,k,t⟩:=sQ (Fd:=Y.length) (X:=(rg m).map D.int) g (rg m) [] (Y++[.lst []]) none none none none (fun p hp=>jc.mp hp) (by rw[jE];simp;omega) ax;refine⟨Y.length,M',?_,O9 _,fun j o q=>k j o (by have:=(OQ.mp q).1;omega) (aF q),t⟩;unfold dE;rw[gv];dsimp[lT,List.replicate];rw[aL,aZ];dsimp[fq,av,aa,Rc,Ow z0,ae,bB,aE,Tg,Th];rw[aL,iG];dsimp[fP,au,av,aJ,bu,ah,aa,dN];rw[i3 0e1 0e1,ae,bE,qj,e,aE,bg];dsimp[ah,ak,ae,aU];exact sA (by simp[D.low])
end
def su(w:List Int)(x:Int):Int:=(w.findIdx fun z=>z == x:Nat)
section
variable{w:List Int}
theorem Ec{x:Int}:(w.map PyData.int).any (fun z=>PyData.eqv z (.int x))=decide (x∈w):=by
 rw[List.any_map];apply Pe.mpr;rw[Tj,SN];constructor
 ·rintro ⟨y, hy, e⟩
  have:y=x:=by simpa[PyData.eqv] using e
  subst this;exact hy
 ·intro hx;exact⟨x,hx,by simp[PyData.eqv]⟩
theorem Mz{x:Int}(hx:x∈w):eW (cI w) [.int x] M=.ok (.int (su w x)) M:=by
 unfold eW cI;dsimp only;rw[jo,show lr M (.int x)=some (.int x) from rfl];dsimp only;have l:=iK w;rw[Ow ⟨l.1,rfl,by rw[Ec];exact QA hx⟩];unfold su;congr 3;rw[List.findIdx_map];rfl
def ph(w:List Int)(k:List Int):Bool:=decide ((g7 k).1∈w)&&decide ((g7 k).2∈w)
def sr(w:List Int)(k:List Int):Int×Int:=(su w (g7 k).1,su w (g7 k).2)
theorem Ks{x:Int}:pU false (.int x) (cI w) M=.ok (.bl (decide (x∈w))) M:=by
 rw[HM];simp
theorem Cr{T:MT}(hT:T=sE (lx (aK (pU false) 4e0 (ai 2))) (lx (aK (pU false) (ai 1) (ai 2)))){a b:Int}:T [some (.int a),some (.int b),some (cI w)] M=.ok (decide (a∈w)&&decide (b∈w)) M:=by
 subst hT;dsimp[G4,dj,aJ,ah,ak,aa,Ks,bp];cases decide (a∈w) <;> simp
theorem Cq{E:ME}(hE:E=d9 (af (tT eW (ai 2) (af 4e0 az)) (af (tT eW (ai 2) (af (ai 1) az)) az))){a b:Int}(ha:a∈w)(hb:b∈w):E [some (.int a),some (.int b),some (cI w)] M=.ok (gm (su w a,su w b)) M:=by
 subst hE
 have e:∀(x:Int)(f:ME)(L:Ro),x∈w->f L M=.ok (.int x) M->ai 2 L M=.ok (cI w) M->tT eW (ai 2) (af f az) L M=.ok (.int (su w x)) M:=fun x f L hx h1 h2=>by
  unfold tT;rw[h2];dsimp[aa,cI,au,av,h1];exact Mz hx
 rw[c9,au,e a 4e0 _ ha rfl rfl,aa,au,e b (ai 1) _ hb rfl rfl];dsimp[aa,av,QF,Rc,Ow l2];rfl
end
theorem Fu(h0:1<=m)(h1:m<=6):jv [.int m] Y=.ok (.bl true) Y:=by
 unfold jv;rw[gv];dsimp[tP,List.replicate,bg,ay,au,av,ah,bu,aa,ag,Az (show (1:Int)<=(m:Int) by omega) (show (m:Int)<=6 by omega),ae,aU];exact bw 1e1
theorem Fq{a b:Int}(ha:0<=a/\a<(m:Int))(hb:0<=b/\b<(m:Int))(hn:a≠b):ix [.int m,.tup [.int a,.int b]] Y=.ok (.bl true) Y:=by
 have h1:cu [.int m,.tup [.int a,.int b]] Y=.ok (.bl true) Y:=by
  rw[yh (fun x hx=>by dsimp[OM,Q3,Q4]at hx;rcases hx with rfl|rfl <;> exact nofun) 1e1];congr 2;dsimp[Qp,List.all_nil,Bool.and_true,EB,Qg,SN];exact⟨ha,hb⟩
 have h2:j5 true (.int a) (.int b) Y=.ok (.bl true) Y:=by
  show aj.ok (D.bl (!(a == b))) Y=_;rw[Ou.mpr hn];rfl
 have i0:fK (.tup [.int a,.int b]) (.int 0) Y=.ok (.int a) Y:=rfl;have i1:fK (.tup [.int a,.int b]) (.int 1) Y=.ok (.int b) Y:=rfl;have l2:j5 false (.int (([.int a,.int b]:List D).length:Int)) (.int 2) Y=.ok (.bl true) Y:=rfl;unfold ix;rw[cA];dsimp[tO,List.replicate,bg,ia,ay,au,av,ah,ak,bu,aa,ag,h1,bp,PU,aJ,jI,l2,i0,i1,h2,ae,aU];exact bw 1e1
theorem vY{M:aw}{t m:Nat}{xs:List D}(hm:m<=6)(ht:M[t]?=some 2e6):∀(rs:List (Int×Int))(acc:List 2e5)(o:Option D),(∀p∈rs,PP m p) ->
  ∃o',kg (.own t xs) M.length (ao 0) cV jP (rs.map gm) [o] (M++[.set acc])=.ok [o'] (M++[.set ((rs.map mm).foldl lX acc)])
 |[],acc,o,_=>by
  refine⟨o,?_⟩;rw[Qi];unfold kg;rw[Ow (show cK (.own t xs) (M++[.set acc]) from aF ht)];rfl
 |p::rs,acc,o,h=>by
  obtain⟨o',e⟩:=vY hm ht rs (lX acc (mm p)) (some (gm p)) fun q hq=>h q (OK _ hq);refine⟨o',?_⟩;have hp:=(h p OJ).ok.prs 0e1
  have ee:jP M.length [some (gm p)] (M++[.set acc])=.ok [some (gm p)] (M++[.set (lX acc (mm p))]):=by
   unfold jP zg rh gm;dsimp[c9,au,av,ay,ah,aa,NO,NP,QF,Rc,Ow l2,ag];unfold EW;rw[ax];dsimp only;rw[Ow (show [min p.1 p.2,max p.1 p.2]∈prs from hp)];dsimp[aa,ag];rw[show (M++[O.set acc]).set M.length (O.set (lX acc [min p.1 p.2,max p.1 p.2]))=M++[O.set (lX acc [min p.1 p.2,max p.1 p.2])] from ko];rfl
  rw[Qj];unfold kg;rw[Ow (show cK (.own t xs) (M++[.set acc]) from aF ht)];rw[show ao 0 (gm p) [o] (M++[.set acc])=.ok [some (gm p)] (M++[.set acc]) from rfl];dsimp[ag,aa];rw[show cV [some (gm p)] (M++[.set acc])=.ok true (M++[.set acc]) from rfl];dsimp[ag,aa,PU];rw[ee];dsimp[ag,aa];rw[e];rfl
theorem vU{t:Nat}{ps:List (Int×Int)}(h0:1<=m)(hm:m<=6)(ht:Y[t]?=some (.lst (ps.map gm)))(hps:∀p∈ps,PP m p):fS [.int m,.obj t] Y=.ok (bj m (eM (ps.map mm))) Y:=by
 have hks:∀k∈ps.map mm,xJ m k:=fun k hk=>by obtain⟨p,hp,rfl⟩:=Rj.mp hk;exact(hps p hp).ok
 obtain⟨L',Y',⟨rs,o2,o3,e1,e2,e3⟩,run⟩:=k8 (src:=.eno t (ps.map gm)) (g:=cy 2 (aT (ao 2) (aT (ao 3) (cz)))) (fb:=mj)
  (fun xs L M=>∃(rs:List (Nat×(Int×Int)))(o2 o3:Option D),xs=rs.map (fun r=>D.tup [.int (r.1:Nat),gm r.2])/\(M=Y/\∀r∈rs,PP m r.2)/\L=[some (.int m),some (.obj t),o2,o3])
  (fun L M hJJ => by
   obtain⟨_,_,_,_,e,_⟩:=hJJ
   rw[e.1];exact ht)
  (fun x xs L M hJJ => by
   obtain⟨rs,o2,o3,e1,e2,e3⟩:=hJJ;subst e3;obtain⟨rfl,e2⟩:=e2;cases rs with
   |nil=>cases e1
   |cons r rs=>
    rw[Qj]at e1;injection e1 with h1 h2
    subst h1 h2;have hp:=e2 r OJ;refine⟨ht,[some (.int m),some (.obj t),some (.int (r.1:Nat)),some (gm r.2)],M,[some (.int m),some (.obj t),some (.int (r.1:Nat)),some (gm r.2)],M,rfl,?_,rs,_,_,rfl,⟨rfl,fun z hz=>e2 z (OK _ hz)⟩,rfl⟩;unfold mj;dsimp[bP,eu,fN,ay,au,av,ah,ak,aa,ag];rw[show ix [.int m,gm r.2] M=.ok (.bl true) M from Fq hp.1 hp.2.1 hp.2.2]
    dsimp[aa,ag,cW,RK,ae,QE,PR,bV])
  (xs:=g9 0 (ps.map gm)) (L:=[some (.int m),some (.obj t),none,none]) (Y:=Y)
  ⟨(List.range ps.length).zip ps, none, none, by
    have core:∀(l:List (Int×Int))(k:Nat),g9 k (l.map gm)=((List.range' k l.length).zip l).map (fun r=>D.tup [.int (r.1:Nat),gm r.2]):=by
     intro l
     induction l with
     |nil=>intro k;rfl
     |cons p l ih=>
      intro k;dsimp[Qj,g9,QF,List.range'_succ,SQ];rw[ih (k+1)]
    rw[core,<- List.range_eq_range'],⟨rfl,fun r hr=>hps r.2 (Pp hr).2⟩,rfl⟩
 obtain⟨rfl,_⟩:=e2;subst e3;obtain⟨o',sl⟩:=vY hm ht ps [] none hps;unfold fS;rw[cA];dsimp[xa,List.replicate,aL,bP,eu,fN,ay,au,av,ah,ak,aa,ag,Fu h0 hm,cW,RK,ae,QE,PR,bV,aE,iG,fP];rw[show mF [.obj t] Y'=.ok (.eno t (ps.map gm)) Y' from by unfold mF;dsimp only;rw[ht]];dsimp[ae,ag];rw[show (pj.eno t (ps.map gm)).items=g9 0 (ps.map gm) from rfl,run];dsimp[aE,bg,c9,au,av,ay,ah,ak,aa,ag];unfold ue;dsimp[cm,ak,ah,aa,ag];rw[gA ht];dsimp[aa,ag,dC];rw[show fJ [none] _=[none] from rfl,sl];dsimp[aa,ag];rw[show (ps.map mm).foldl lX []=fO (ps.map mm) from rfl]
 have s2:eA [.obj Y'.length] (Y'++[.set (fO (ps.map mm))])=.ok (.obj (Y'++[O.set (fO (ps.map mm))]).length) ((Y'++[.set (fO (ps.map mm))])++[.lst ((eM (ps.map mm)).map aI)]):=by
  unfold eA;dsimp only;rw[ax];dsimp only;rw[oM]
 rw[s2];dsimp[aa,ag];rw[iY ax];dsimp[aa,ag,QF,Rc,Ow l2,ae,aU];rw[Qt];exact eG (iL (ky 0e1 0e1 hks))
theorem AJ(h:GW m ks):eM ks=ks:=by
 have hg:GW m (eM ks):=ky (by have:=h.m0;omega) (by have:=h.m6;omega) h.2.2.2.2;refine Eg hg h fun a b=>?_;unfold eM;rw[OE,SN];exact⟨fun z=>z.2,fun z=>⟨(h.2.2.2.2 _ z).prs (by have:=h.m6;omega),z⟩⟩
def K0(m:Nat)(w:List Int):Prop:=w≠[]/\w.Pairwise (·<·)/\∀x∈w,0<=x/\x<(m:Int)
def kW(w:List Int)(ks:List 2e5):List 2e5:=(ks.filter (ph w)).map fun k=>[su w (g7 k).1,su w (g7 k).2]
section
variable{w:List Int}
theorem K0.len(h:K0 m w):w.length<=m:=Lu (h.2.1.imp fun h=>Int.ne_of_lt h) h.2.2
theorem uC{x y:Int}:su (x::w) y=if y=x then 0 else su w y+1:=by
 unfold su;rw[List.findIdx_cons];by_cases h:y=x
 ·rw[Ow h,h];simp
 ·rw[Ox h,show (x == y)=false from by simpa using fun z=>h z.symm];simp
theorem nK:∀{w:List Int}{x:Int},x∈w->0<=su w x/\su w x<(w.length:Int)
 |y::w,x,h=>by
  rw[uC];by_cases e:x=y
  ·rw[Ow e];dsimp[QF];omega
  ·rw [Ox e];rcases OM.mp h with z|z
   ·exact absurd z e
   ·have:=nK z;dsimp[QF];omega
theorem zd:∀{w:List Int}{x y:Int},w.Pairwise (·<·)->x∈w->y∈w->x<y->su w x<su w y
 |z::w,x,y,hp,hx,hy,hlt=>by
  rw[uC,uC];have hz:∀u∈w,z<u:=fun u hu=>List.rel_of_pairwise_cons hp hu;rcases OM.mp hx with rfl|hx
  ·rw [Ow rfl, Ox 0e1];rcases OM.mp hy with e|hy
   ·omega
   ·have:=nK hy;omega
  ·have := hz x hx;rcases OM.mp hy with e|hy
   ·omega
   ·have:=hz y hy;rw[Ox 0e1,Ox 0e1];have:=zd hp.of_cons hx hy hlt;omega
theorem pJ(h:GW m ks)(ρ:K0 m w):GW w.length (kW w ks):=by
 have m6:=h.m6;have wl:=ρ.len;have w1:1<=w.length:=by cases w with|nil=>exact absurd rfl ρ.1|cons _ _=>simp
 have mem:∀k∈ks.filter (ph w),∃a b,k=[a,b]/\a<b/\a∈w/\b∈w:=fun k hk=>by
  obtain⟨h1,h2⟩:=OE.mp hk;obtain⟨a,b,rfl,a0,ab,bm⟩:=h.2.2.2.2 k h1;dsimp[ph,g7,Ts,Tt,Qg,SN]at h2;exact⟨a,b,rfl,ab,h2.1,h2.2⟩
 refine⟨rfl,by omega,by omega,?_,fun k hk=>?_⟩
 ·unfold kW;rw[Sj];refine(h.2.2.2.1.sublist List.filter_sublist).imp_of_mem ?_;intro k k' hk hk' hlt;obtain⟨a,b,rfl,ab,ha,hb⟩:=mem k hk;obtain⟨c,d,rfl,cd,hc,hd⟩:=mem k' hk';have b6:=ρ.2.2 b hb;have d6:=ρ.2.2 d hd;have a6:=ρ.2.2 a ha;have c6:=ρ.2.2 c hc;dsimp[pT,g7,Ts,Tt]at hlt⊢;have rb:=nK hb;have rd:=nK hd;by_cases e:a=c
  ·subst e;have:=zd ρ.2.1 hb hd 0e1;omega
  ·have:=zd ρ.2.1 ha hc 0e1;omega
 ·unfold kW at hk;obtain⟨k',hk',rfl⟩:=Rj.mp hk;obtain⟨a,b,rfl,ab,ha,hb⟩:=mem k' hk';exact⟨_,_,rfl,(nK ha).1,zd ρ.2.1 ha hb ab,(nK hb).2⟩
theorem My(h:GW m ks)(ρ:K0 m w):(∀p∈(ks.filter (ph w)).map (sr w),PP w.length p)/\((ks.filter (ph w)).map (sr w)).map mm=kW w ks:=by
 have g:=pJ h ρ
 have mem:∀k∈ks.filter (ph w),0<=(sr w k).1/\(sr w k).1<(sr w k).2/\(sr w k).2<(w.length:Int):=fun k hk=>by
  obtain⟨a,b,e,h1,h2,h3⟩:=g.2.2.2.2 [su w (g7 k).1,su w (g7 k).2] (Rp (f:=fun k=>[su w (g7 k).1,su w (g7 k).2]) hk);injection e with e1 e
  injection e with e2 e
  unfold sr;dsimp only;rw[e1,e2];exact⟨h1,h2,h3⟩
 refine⟨fun p hp=>?_,?_⟩
 ·obtain⟨k,hk,rfl⟩:=Rj.mp hp;have:=mem k hk;exact⟨by omega,by omega,by omega⟩
 ·unfold kW;rw[Q9];apply Ra;intro k hk;have:=mem k hk;show [min (sr w k).1 (sr w k).2,max (sr w k).1 (sr w k).2]=_;rw[Int.min_eq_left 0e1,Int.max_eq_right 0e1];rfl
theorem Ax(h:GW m ks)(ρ:K0 m w)(hr:bI [.int (m:Int),cI w] Y=.ok (.bl true) Y):gK [bj m ks,cI w] Y=.ok (bj w.length (kW w ks)) Y:=by
 have m6:=h.m6;have wl:=ρ.len;have w1:1<=w.length:=by cases w with|nil=>exact absurd rfl ρ.1|cons _ _=>simp
 have kl:=eP h;obtain⟨pp,em⟩:=My h ρ;have kf:(ks.filter (ph w)).length<=15:=OG (Tp _ _) kl;have n2:0+1+1<=sizeLine:=l2;have mem:∀k∈ks,∃a b,k=[a,b]:=fun k hk=>by obtain⟨a,b,rfl,_⟩:=h.2.2.2.2 k hk;exact⟨a,b,rfl⟩
 have c1:=cN (U:=List Int) (en:=aI) (src:=.fix 1e8) (g:=cy 2 1e7) (t:=qX) (e:=mn) (Y1:=Y) (q:=ph w) (h:=aI) (fun L=>∃o o',L=[o,o',some (cI w)]) (fun _=>trivial) (us:=ks) (acc:=[]) (L:=[none,none,some (cI w)]) ⟨_,_,rfl⟩
  (by rw[Rc];exact OG 0e1 bO)
  (fun k hk a L hJJ => by
   obtain⟨o,o',e⟩:=hJJ;subst e;obtain⟨x,y,rfl⟩:=mem k hk;refine⟨[some (.int x),some (.int y),some (cI w)],⟨_,_,rfl⟩,rfl,Cr rfl,fun _=>?_⟩;unfold mn;dsimp[c9,au,av,ak,ah,aa,QF,Rc,Ow n2]
   rfl)
 rw[Qy]at c1;let M1:aw:=Y++[.lst ((ks.filter (ph w)).map aI)]
 have c2:=cN (U:=List Int) (en:=aI) (src:=.own Y.length ((ks.filter (ph w)).map aI)) (g:=cy 2 1e7) (t:=cV) (e:=qZ) (Y1:=M1) (q:=fun _=>true) (h:=fun k=>gm (sr w k)) (fun L=>∃o o',L=[o,o',some (cI w)]) (fun _=>aF ax) (us:=ks.filter (ph w)) (acc:=[]) (L:=[none,none,some (cI w)]) ⟨_,_,rfl⟩
  (by rw[Rc];exact OG 0e1 bO)
  (fun k hk a L hJJ => by
   obtain⟨o,o',e⟩:=hJJ;subst e;obtain⟨h1,h2⟩:=OE.mp hk;obtain⟨x,y,rfl⟩:=mem k h1;dsimp[ph,g7,Ts,Tt,Qg,SN]at h2
   exact⟨[some (.int x),some (.int y),some (cI w)],⟨_,_,rfl⟩,rfl,rfl,fun _=>Cq rfl h2.1 h2.2⟩)
 rw[iM,Qy,show (ks.filter (ph w)).map (fun k=>gm (sr w k))=((ks.filter (ph w)).map (sr w)).map gm from by rw[Q9];rfl]at c2;have wo:=vU (Y:=M1++[O.lst (((ks.filter (ph w)).map (sr w)).map gm)]) (t:=M1.length) (m:=w.length) w1 0e1 ax pp;rw[em,AJ (pJ h ρ)]at wo;unfold gK;rw[cA];dsimp[qK,List.replicate];rw[aL,aZ];dsimp[ah,ae,mM,QF,Rc,PU,ku,bB,mO,aa,aE,Tg,Th];rw[aL,bP];dsimp[eu,fN,ay,au,av,ah,ak,aa,hr,ag,cW,RK,ae,QE,PR,bV,aE];rw[aL,aZ];dsimp[cG,cm,ah,ak,aa,iZ,bE];rw[show fJ [none,none,some 1] _=[none,none,some (cI w)] from rfl,c1];dsimp[ae,bB,aE,Tg,Th];rw[bg];dsimp[ay,au,av,cG,cm,ah,ak,aa,jI,PD];rw[gA ax];dsimp[aa,dC];rw[show fJ [none,none,some 1] _=[none,none,some (cI w)] from rfl];rw[show compLoop (.own Y.length ((ks.filter (ph w)).map aI)) (Y++[O.lst ((ks.filter (ph w)).map aI)]).length _ _ _ _ _ (Y++[O.lst ((ks.filter (ph w)).map aI)]++[O.lst []])=_ from c2];dsimp[aa];rw[show fS [.int (w.length:Int),.obj M1.length] (M1++[O.lst (((ks.filter (ph w)).map (sr w)).map gm)])=_ from wo];dsimp[ae,aU];rw[show M1++[O.lst (((ks.filter (ph w)).map (sr w)).map gm)]=Y++([.lst ((ks.filter (ph w)).map aI)]++[O.lst (((ks.filter (ph w)).map (sr w)).map gm)]) from Qt ..];exact eG (iL (pJ h ρ))
theorem Ay(h:GW m ks)(hr:bI [.int (m:Int),d] Y=.ok (.bl false) Y):gK [bj m ks,d] Y=.exc ⟨"NoPlace",[]⟩ Y:=by
 unfold gK;rw[cA];dsimp[qK,List.replicate];rw[aL,aZ];dsimp[ah,ae,mM,QF,Rc,PU,ku,bB,mO,aa,aE,Tg,Th];rw[aL,bP];dsimp[eu,fN,ay,au,av,ah,ak,aa,hr,ag,cW,RR,ae,PU];rfl
end
section
theorem FR{w:List Int}:decide (w=(rg m).filter fun p=>decide (p∈w))=((w.all fun x=>decide (0<=x)&&decide (x<(m:Int)))&&vn w):=by
 have up:((rg m).filter fun p=>decide (p∈w)).Pairwise (·<·):=σ5.filter _;apply Pe.mpr;rw[SN,Qg,RI,v3];constructor
 ·intro e;refine⟨fun x hx=>?_,by rw[e];exact up⟩;rw[e]at hx;have:=jc.mp (OE.mp hx).1;dsimp[Qg,SN];exact this
 ·rintro ⟨h1, h2⟩
  refine List.Perm.eq_of_pairwise (le:=(·<=·)) (fun a b _ _ x y=>SV x y) (h2.imp fun z=>Tu z) (up.imp fun z=>Tu z) ?_;refine(RG (h2.imp fun z=>by omega) (up.imp fun z=>by omega)).mpr fun q=>?_;rw[OE,SN,jc];refine⟨fun hq=>⟨by simpa using h1 q hq,hq⟩,fun z=>z.2⟩
theorem Br{h:D->Bool}{e:ME}(hl:xs.length<=sizeLine)(he:∀x∈xs,∀a,e [some x] (M++[.lst a])=.ok (.bl (h x)) (M++[.lst a])):
  compLoop (.fix xs) M.length (ao 0) cV e xs [none] (M++[.lst []])=.ok (.obj M.length) (M++[.lst ((xs.map h).map D.bl)]):=by
 have:=gx (src:=.fix xs) (g:=ao 0) (t:=cV) (e:=e) (Y1:=M) (q:=fun _=>true) (h:=fun x=>D.bl (h x)) (fun L=>∃o,L=[o]) (fun _=>trivial) (xs:=xs) (acc:=[]) (L:=[none]) ⟨none,rfl⟩ (by simpa using hl)
  (fun x hx a L ⟨o,ho⟩=>⟨[some x],⟨_,rfl⟩,by subst ho;rfl,rfl,fun _=>he x hx a⟩)
 rw[this,List.filter_eq_self.mpr (fun _ _=>rfl)];simp[Q9,To]
theorem w8:∀{xs:List D},xs.all isInt=true->∃w:List Int,xs=w.map D.int
 |[],_=>⟨[],rfl⟩
 |x::xs,h=>by
  rw[Qp,Qg]at h;obtain⟨w,rfl⟩:=w8 h.2;cases x with
  |int i=>exact⟨i::w,rfl⟩
  |_=>cases h.1
theorem zy{w:List Int}:yY m (cI w)=((w.all fun x=>decide (0<=x)&&decide (x<(m:Int)))&&(decide (0<w.length)&&vn w)):=by
 unfold yY;rw[Hr];congr 1;show (w.map D.int).all (iV 0 ((m:Int)-1))=_;rw[SU];apply List.all_congr
 ·rfl
 ·intro x;show (decide (0<=x)&&decide (x<=(m:Int)-1))=_;congr 1;by_cases z:x<(m:Int)
  ·rw[QA z];exact QA 0e1
  ·rw[Ot z];exact Ot 0e1
theorem Ej{t u:Nat}{w v:List Int}(ht:M[t]?=some (.lst (w.map D.int)))(hu:M[u]?=some (.lst (v.map D.int))):j5 false (.obj t) (.obj u) M=.ok (.bl (decide (w=v))) M:=by
 have e:=D0 ht hu;unfold j5 at e⊢;cases e1:lr M (.obj t) with
 |none=>rw[e1]at e;cases e
 |some p=>
  rw[e1]at e;cases e2:lr M (.obj u) with
  |none=>rw[e2]at e;cases e
  |some q=>
   rw[e2]at e;dsimp only at e⊢;split at e
   ·rename_i hf;rw[Ow hf];dsimp[QE,PR,PU]at e⊢;injection e with e
    injection e with e
    rw[Bool.not_inj e]
   ·cases e
theorem J3{w:List Int}:j5 true (cI w) (.tup []) M=.ok (.bl (decide (0<w.length))) M:=by
 have l:=iK w;have e1:lr M (cI w)=some (.tuple (w.map PyData.int)):=by dsimp[cI,lr,jo,Option.map_some]
 have f:dQ (.tuple (w.map PyData.int))=true:=by dsimp[dQ,PyData.canLay0,l.1,PyData.depth,l.2,Ti];rfl
 unfold j5;rw[e1,show lr M (.tup [])=some (.tuple []) from rfl];dsimp only;rw[Ow ⟨f,by decide⟩];congr 2;cases w with
 |nil=>rfl
 |cons x w=>simp[PyData.eqv,PyData.eqvAll]
theorem Dk(hm:m<=6)(hk:Kn Y d):eV [d,.int (m:Int)] Y=.ok (.bl (yY m d)) Y:=by
 unfold eV;rw[cA];dsimp[lV,RE,List.replicate];rw[aL,bP];dsimp[qo,eu,fN,iW,ak,ah,aa,sX hk,cW];cases d with
 |tup xs=>
  dsimp[Kn]at hk;dsimp[kh,RK,QE,PR,ay,au,av,cG,cm,ak,ah,aa,iZ,bE];rw[show fJ [none] [some (.tup xs),some (.int (m:Int))]=[none] from rfl]
  rw[Br (h:=isInt) (OG (OH hk.1) bO) fun x hx a=>by
   unfold j3;dsimp[ay,au,av,ah,aa]
   exact nO (uB _ (uA.mp hk.2 x hx))]
  dsimp[aa];rw[la ax];dsimp[aa,cW];rw[show (xs.map isInt).all id=xs.all isInt from by simp[SU,To]];cases hi:xs.all isInt with
  |false=>
   dsimp[RR,ae,PU,bg,bu,l5,aU]
   rw[show yY m (.tup xs)=false from by
    unfold yY;cases hp:xD m (.tup xs) with
    |false=>rfl
    |true=>
     obtain⟨w,e,_⟩:=wd hp;rw[e,SU]at hi;have:w.all (isInt ∘ D.int)=true:=RI.mpr fun _ _=>rfl;rw[this]at hi
     cases hi]
   exact eG 1e1
  |true=>
   obtain⟨w,rfl⟩:=w8 hi;dsimp[RK,ae,QE,PR,bV,aE];let M1:aw:=Y++[O.lst (((w.map D.int).map isInt).map D.bl)]
   have c:=cN (U:=Int) (en:=D.int) (src:=.fix ((rg m).map D.int)) (g:=ao 0) (t:=gY) (e:=jZ) (Y1:=M1++[O.lst (w.map D.int)]) (q:=fun p=>decide (p∈w)) (h:=D.int) (fun L=>∃o,L=[o,some (cI w)]) (fun _=>trivial) (us:=rg m) (acc:=[]) (L:=[none,some (cI w)]) ⟨_,rfl⟩
    (by rw[Rc,jE];exact OG 0e1 bO)
    (fun p hp a L ⟨o, ho⟩ => ⟨[some (.int p), some (cI w)], ⟨_, rfl⟩, by subst ho; rfl, by
     unfold gY
     dsimp[dj,aJ,ak,ah,aa,HM,QE,PR,bp],fun _=>rfl⟩)
   rw[Qy]at c;rw[bg];dsimp[ia,aJ,c9,av,ak,ah,aa,Rc,Ow (QO sizeLine)];rw[show j5 true (.tup (w.map D.int)) (.tup []) (Y++[O.lst (((w.map D.int).map isInt).map D.bl)])=_ from J3];dsimp[aa,bp]
   have kb:yY m (.tup (w.map D.int))=(decide (0<w.length)&&decide (w=(rg m).filter fun p=>decide (p∈w))):=by
    rw[show yY m (.tup (w.map D.int))=yY m (cI w) from rfl,zy,FR];cases decide (0<w.length) <;> simp
   rw[kb];cases decide (0<w.length) with
   |false=>
    dsimp[QE,PR,ae,aU,O7];exact eG 1e1
   |true=>
    dsimp[PU,Ti,ay,au,av,ah,aa];rw[show hG [.tup (w.map D.int)] (Y++[O.lst (((w.map D.int).map isInt).map D.bl)])=.ok (.obj M1.length) (M1++[O.lst (w.map D.int)]) from rfl];dsimp[aa,cG,fP,au,av,ak,ah];rw[i3 0e1 0e1];dsimp[aa,bE,qj];rw[show fJ [none,some 0] [some (.tup (w.map D.int)),some (.int (m:Int))]=[none,some (cI w)] from rfl,c];dsimp[aa];rw[Ej (aF ax) ax];dsimp[ae,aU,M1,Qt];exact eG 1e1
 |_=>
  dsimp[kh,RR,PU,ae,bg,bu,l5,aU];exact vF
theorem Jk{w:List Int}:yY m (cI w)=true↔K0 m w:=by
 rw[zy,Qg,Qg,RI,v3,SN];constructor
 ·rintro ⟨h1, h2, h3⟩
  refine⟨by rintro rfl;simp at h2,h3,fun x hx=>by simpa using h1 x hx⟩
 ·rintro ⟨h1, h2, h3⟩
  refine⟨fun x hx=>by simpa using h3 x hx,?_,h2⟩;cases w with
  |nil=>exact absurd rfl h1
  |cons _ _=>simp
end
theorem l4:(4:Nat)<=sizeLine:=by decide
theorem l8:(8:Nat)<=sizeLine:=by decide
abbrev qc:List D:=[.str "place",.str "number",.str "line",.str "root",.str "tree",.str "web",.str "text",.str "great"]
abbrev kA(p:Bool):List D:=[D.bl p,D.bl false,D.bl false,D.bl false]
abbrev kB(p:Bool):List D:=[D.bl false,D.bl false,D.bl false,D.bl !p]
abbrev kR(p:Bool)(Y:aw):aw:=Y++[O.lst (kA p)]++[O.lst (kB p)]
abbrev kS(p:Bool)(Y:aw):aw:=kR p Y++[O.lst (kA p++kB p)]
theorem Hv{o:O}(p:Bool)(ho:∀(M:aw) (n:Nat) (subs:List Str),M[n]?=some o->lA subs ["NoPlace", "NoWeb", "TooGreat"] (.obj n) M=.ok (.bl (subs.contains c)) M)(cp:(["NoPlace"]:List Str).contains c=p)(cw:(["NoWeb"]:List Str).contains c=false)(cr:(["TooGreat"]:List Str).contains c=!p)(c0:([]:List Str).contains c=false)(ck:(["NoPlace", "NoWeb", "TooGreat"]:List Str).contains c=true)(h:Y[n]?=some o):cD [.obj n] Y=.ok (.str (if p then "place" else "great")) Y:=by
 have h1:(Y++[O.lst (kA p)])[n]?=some o:=aF h;have h2:(kR p Y)[n]?=some o:=aF h1;have h3:(kS p Y)[n]?=some o:=aF h2;have m3:(kS p Y)[(kR p Y).length]?=some (.lst (kA p++kB p)):=ax;have m4:(kS p Y++[O.lst qc])[(kR p Y).length]?=some (.lst (kA p++kB p)):=aF m3;have k4:(kS p Y++[O.lst qc])[(kS p Y).length]?=some (.lst qc):=ax;have a1:=pP (Y:=kR p Y) (a:=Y.length) (b:=(Y++[O.lst (kA p)]).length) (xs:=kA p) (ys:=kB p) (aF ax) ax (show 8<=1000000 by decide)
 have c1:lh (.obj (kR p Y).length) [.bl true] (kS p Y)=.ok (.int 1) (kS p Y):=by
  unfold lh;dsimp only;rw[m3];cases p <;> rfl
 have i1:lb (.obj (kR p Y).length) [.bl true] (kS p Y++[O.lst qc])=.ok (.int (if p then 0 else 7)) (kS p Y++[O.lst qc]):=by
  unfold lb;dsimp only;rw[m4];dsimp only;rw[Ow ⟨by cases p <;> rfl,by simp,by cases p <;> rfl⟩];cases p <;> rfl
 have e3:Ad (.obj (kR p Y).length) (kS p Y)=true:=by unfold Ad;dsimp only;rw[m3]
 have e4:Ad (.obj (kR p Y).length) (kS p Y++[O.lst qc])=true:=by unfold Ad;dsimp only;rw[m4]
 unfold cD;rw[gv];dsimp[kP,List.replicate,aL,aZ,fq,au,av,iW,ah,aa,ag,ho _ _ _ h,cp,cw,cr,c0,ck];rw[Ow (show (kA p).length<=sizeLine from l4)];dsimp[ae,ag];rw[show ao 1 (D.obj Y.length) [some (D.obj n),none] (Y++[O.lst (kA p)])=.ok [some (D.obj n),some (D.obj Y.length)] (Y++[O.lst (kA p)]) from rfl];dsimp[ae,aE,aL,aZ,aJ,fq,au,av,iW,ah,ak,aa,ag,ho _ _ _ h1,cp,cw,cr,c0,ck];rw[Ow (show (kB p).length<=sizeLine from l4)];dsimp[aa,ag];rw[a1];dsimp[ae,ag];rw[show ao 1 (D.obj (kR p Y).length) [some (D.obj n),some (D.obj Y.length)] (kS p Y)=.ok [some (D.obj n),some (D.obj (kR p Y).length)] (kS p Y) from rfl];dsimp[ae,aE,aL,bP,qo,eu,fN,iW,aJ,au,av,ah,ak,bu,aa,ag,ho _ _ _ h3,cp,cw,cr,c0,ck,cW,RK,QE,PR];unfold lx;dsimp[aJ,qd,au,av,ah,ak,bu,aa,ag,e3,PU,c1,l9,bp];rw[show (!((1:Int) == 1))=false from rfl];dsimp[ae,QE,PR,bV,aE,bg,aJ,fq,au,av,bu,aa,ag];rw[Ow (show [D.str "place",D.str "number",D.str "line",D.str "root",D.str "tree",D.str "web",D.str "text",D.str "great"].length<=sizeLine from l8)];dsimp[aa,ag,qd,au,av,ak,ah,bu,e4,PU,i1];rw[iF (xs:=qc) (d:=.str (if p then "place" else "great")) k4 (by cases p <;> rfl)];dsimp[ae,ag,aU,Qt];exact eG 1e1
theorem GN(h:Y[n]?=some (.exc "NoPlace")):cD [.obj n] Y=.ok (.str "place") Y:=Hv (c:="NoPlace") true (fun M n subs h=>by
 unfold lA;dsimp only;rw[h];dsimp only
 rw[Ow 0e8]) 0e8 0e8 0e8 0e8 0e8 h
theorem GO{fs:List (Str×Int)}(h:Y[n]?=some (.exn "TooGreat" fs)):cD [.obj n] Y=.ok (.str "great") Y:=Hv (c:="TooGreat") false (fun M n subs h=>by
 unfold lA;dsimp only;rw[h];dsimp only
 rw[Ow 0e8]) 0e8 0e8 0e8 0e8 0e8 h
theorem MK:j5 false (.str "place") (.str "great") M=.ok (.bl false) M:=by
 unfold j5;rw[show lr M (.str "place")=some (.str "place") from rfl,show lr M (.str "great")=some (.str "great") from rfl];dsimp only;rw[Ow 0e8];congr 2
theorem ML:j5 false (.str "great") (.str "great") M=.ok (.bl true) M:=SK (p:=.str "great") rfl 0e8
theorem Dz(h:Y[n]?=some (.exc "NoPlace")):bT [.obj n] Y=.ok (.tup [.str "place"]) Y:=by
 have n1:0+1<=sizeLine:=by decide
 unfold bT;rw[gv];dsimp[iO,List.replicate];rw[aL,aZ];dsimp[ay,au,av,ah,aa,GN h,ae,bB,aE,Tg,Th];rw[aL,bP];dsimp[dj,aJ,bu,ah,ak,aa,MK,bp,ae,QE,PR,bV,aE];rw[bg];dsimp[c9,au,av,ah,ak,aa,QF,Rc,Ow n1,ae,aU];exact bw (by simp[D.low,D.lows])
theorem wY{a:Str}{fs:List (Str×Int)}{i:Int}(h:Y[n]?=some (.exn "TooGreat" fs))(hk:known.contains "TooGreat" = true)(hl:fs.lookup a=some i):sD known a (.obj n) Y=.ok (.int i) Y:=by
 unfold sD;dsimp only;rw[h];dsimp only;rw[Ow hk,hl]
theorem DA{i j:Int}(h:Y[n]?=some (.exn "TooGreat" [("most",j),("many",i)])):bT [.obj n] Y=.ok (.tup [.str "great",.int i,.int j]) Y:=by
 have n3:0+1+1+1<=sizeLine:=by decide
 have hk:(["TooGreat"]:List Str).contains "TooGreat" = true:=by decide +kernel
 have a1:=wY (a:="many") (i:=i) h hk (by rw[QC,show (("many" : Str) == "most")=false from by decide +kernel,QC,show (("many" : Str) == "many")=true from by decide +kernel]);have a2:=wY (a:="most") (i:=j) h hk (by rw[QC,show (("most" : Str) == "most")=true from by decide +kernel]);unfold bT;rw[gv];dsimp[iO,List.replicate];rw[aL,aZ];dsimp[ay,au,av,ah,aa,GO h,ae,bB,aE,Tg,Th];rw[aL,bP];dsimp[dj,aJ,bu,ah,ak,aa,ML,bp,ae,PU];rw[bg];dsimp[c9,au,av,iW,ah,ak,aa,a1,a2,QF,Rc,Ow n3,ae,l5,aU];exact bw (by simp[D.low,D.lows])
theorem Ml{G:List D->aw->aj D}:qh [F,G] 0 fr (some (.int 0)::L) Y=(fr (some (.int 0)::L) Y).bind F:=by unfold qh;rfl
theorem Mj{G:List D->aw->aj D}:qh [F,G] 0 fr (some (.int 1)::L) Y=(fr (some (.int 1)::L) Y).bind G:=by unfold qh;rfl
section
variable{a b:D}
theorem zp{j:Int}{r:D}(hj:cS [some (.int j),some a,some b,none] Y=.ret r Y)(hl:r.low Y.length):bJ [.int j,a,b] Y=.ok r Y:=by
 unfold bJ;rw[qp];dsimp[List.replicate];unfold kG BP;rw[hj];dsimp only;rw[aU];exact bw hl
theorem zq {j:Int}{r:D}{x:DX} (hj:cS [some (.int j),some a,some b,none] Y=.exc x Y) (hk:(["NoPlace", "NoWeb", "TooGreat"]:List Str).contains x.cls=true) (hr:bT [.obj Y.length] (Y++[BJ x])=.ok r (Y++[BJ x])) (hl:r.low Y.length):bJ [.int j,a,b] Y=.ok r Y:=by
 unfold bJ;rw[qp];dsimp[List.replicate];unfold kG BP;rw[hj];dsimp only;rw[Ow hk]
 rw[show gE ((List.replicate 4 none).set 3 (some 1e9)) (Y++[BJ x])=.ret r (Y++[BJ x]) from by
  show gE [none,none,none,some 1e9] (Y++[BJ x])=_;unfold gE;rw[bg]
  dsimp[ay,au,av,ah,ak,aa,hr,ae]]
 show pS Y (SO.ret r (Y++[BJ x])).out=_;rw[aU];exact eG hl
theorem Ly:cS [some (.int 0),some a,some b,none] Y=(gK [a,b] Y).bindS fun d Y'=>.ret d Y':=by
 unfold cS;rw[bg,Ml];dsimp[au,av,ah,ak,aa]
theorem Lx:cS [some (.int 1),some a,some b,none] Y=(gL [a,b] Y).bindS fun d Y'=>.ret d Y':=by
 unfold cS;rw[bg,Mj];dsimp[au,av,ah,ak,aa]
theorem tI{x:DX}{g:D->aw->SO}:(aj.exc x Y).bindS g=.exc x Y:=rfl
end
theorem vV(h:GW m ks):cv [bj m ks,bj m ks] Y=.ok (.bl true) Y:=by
 have hl:=eP h;have tu:bz [.tup 1e8,.tup 1e8] Y=.ok (.bl true) Y:=sJ (fun k hk=>by obtain⟨a,b,rfl,_⟩:=h.2.2.2.2 k hk;simp) 0e1;have ln:j5 true (.int (([.int (m:Int),.tup 1e8]:List D).length:Int)) (.int 2) Y=.ok (.bl false) Y:=rfl;unfold cv;rw[cA];dsimp[lS,List.replicate];rw[aL,bP];dsimp[qo,eu,fN,iW,aJ,dj,ay,au,av,bu,ak,ah,aa,CO,cW,RK,QE,PR,jI,ln,bp,dN];rw[show cq [.int (m:Int)] Y=.ok (.bl true) Y from nO (by simp[Kn])];dsimp[aa,cW,RK,QE,PR,SK (E9 h) (Fb h),bp,ae,bV,aE,bg,ay,au,av,aJ,bu,ak,ah,k9,tu,aU];exact vF
section
theorem Dh(h:GW m ks)(hd:HW Y d):fZ [bj m ks,d] Y=.ok (.bl true) Y:=by
 obtain⟨x,A⟩:=hd;have m6:=h.m6;have A0:=A [];rw[Pi]at A0;obtain⟨hk,R⟩:=A0;have n1:0+1<=sizeLine:=by decide
 have rp:=ρ5 (m:=(m:Int)) hk;have il:=Dk m6 hk;unfold fZ;rw[cA];dsimp[nt,List.replicate];rw[aL,aZ];dsimp[ay,au,av,ah,ak,aa,R,ae,bB,aE,Tg,Th];cases hb:yY m d with
 |false=>
  rw[hb]at rp il;have to:bJ [.int 0,bj m ks,d] Y=.ok (.tup [.str "place"]) Y:=zq (x:=⟨"NoPlace",[]⟩) (by rw[Ly,Ay h rp,tI]) 0e8 (Dz (by show (Y++[O.exc "NoPlace"])[Y.length]?=_;exact ax)) (by simp[D.low,D.lows]);rw[aL,aZ];dsimp[ay,au,av,bu,ah,ak,aa,to,ae,bB,aE,Tg,Th];rw[aL,bP];dsimp[dj,aJ,ay,au,av,ah,ak,aa,R,LC,RK,bp,ae,QE,PR,bV,aE];rw[aL,bP];dsimp[eu,fN,ay,au,av,aJ,bu,ah,ak,aa,dN,il,cW,RR,ae,PU];rw[bg];dsimp[aJ,c9,au,av,bu,ah,ak,aa,QF,Rc,Ow n1];rw[SK (x:=.tup [.str "place"]) (p:=.tuple [.str "place"]) (neg:=false) rfl 0e8];dsimp[ae,l5,aU,RR];exact bw (by simp[D.low])
 |true=>
  rw[hb]at rp il;have hp:xD m d=true:=by unfold yY at hb;rw[Qg]at hb;exact hb.1
  obtain⟨w,rfl,_⟩:=zz hp;have ρ:=Jk.mp hb;have g:=pJ h ρ;have wl:=ρ.len;have kl:=eP h;have to:bJ [.int 0,bj m ks,cI w] Y=.ok (bj w.length (kW w ks)) Y:=zp (by rw[Ly,Ax h ρ rp,ae]) (iL g);have mem:∀k∈ks,∃a b,k=[a,b]:=fun k hk=>by obtain⟨a,b,rfl,_⟩:=h.2.2.2.2 k hk;exact⟨a,b,rfl⟩
  have c1:=cN (U:=List Int) (en:=aI) (src:=.fix 1e8) (g:=cy 2 1e7) (t:=kN) (e:=kO) (Y1:=Y) (q:=ph w) (h:=fun k=>gm (sr w k)) (fun L=>∃o o',L=[o,o',some (cI w)]) (fun _=>trivial) (us:=ks) (acc:=[]) (L:=[none,none,some (cI w)]) ⟨_,_,rfl⟩
   (by rw[Rc];exact OG 0e1 bO)
   (fun k hk a L hJJ => by
    obtain⟨o,o',e⟩:=hJJ;subst e;obtain⟨x,y,rfl⟩:=mem k hk;refine⟨[some (.int x),some (.int y),some (cI w)],⟨_,_,rfl⟩,rfl,Cr rfl,fun hq=>?_⟩;dsimp[ph,g7,Ts,Tt,Qg,SN]at hq
    exact Cq rfl hq.1 hq.2)
  rw[Qy,show (ks.filter (ph w)).map (fun k=>gm (sr w k))=(kW w ks).map aI from by unfold kW;rw[Q9];rfl]at c1;rw[aL,aZ];dsimp[ay,au,av,bu,ah,ak,aa,to,ae,bB,aE,Tg,Th];rw[aL,bP];dsimp[dj,aJ,ay,au,av,ah,ak,aa,R,LC,RK,bp,ae,QE,PR,bV,aE];rw[aL,bP];dsimp[eu,fN,ay,au,av,aJ,bu,ah,ak,aa,dN,il,cW,RK,ae,QE,PR,bV,aE];rw[aL,aZ];dsimp[cG,cm,aJ,bu,ah,ak,aa,k9,iZ,bE];rw[show fJ [none,none,some 1] _=[none,none,some (cI w)] from rfl,c1];dsimp[ae,bB,aE,Tg,Th];rw[bg];dsimp[ay,au,av,c9,ah,ak,aa,jI,PD];rw[iY ax];dsimp[aa,QF,Rc,Ow l2];rw[show cv [bj w.length (kW w ks),.tup [.int (w.length:Int),.tup ((kW w ks).map aI)]] (Y++[O.lst ((kW w ks).map aI)])=_ from vV g];dsimp[ae,aU];exact eG (by simp[D.low])
end
def Ez(m:Nat)(ks ls:List 2e5):List (Int×Int):=ks.map g7++ls.map fun k=>((m:Int)+(g7 k).1,(m:Int)+(g7 k).2)
section
theorem F4(h:∀k∈ks,xJ m k):ks.map aI=(ks.map g7).map gm:=by
 rw[Q9];apply Ra;intro k hk;obtain⟨a,b,rfl,_⟩:=h k hk;rfl
theorem t4(h:GW m ks)(h':GW n ls):∀p∈Ez m ks ls,PP (m+n) p:=fun p hp=>by
 unfold Ez at hp;rcases OO.mp hp with z|z
 ·obtain⟨k,hk,rfl⟩:=Rj.mp z;obtain⟨a,b,rfl,a0,ab,bm⟩:=h.2.2.2.2 k hk;refine⟨⟨?_,?_⟩,⟨?_,?_⟩,?_⟩ <;> dsimp[g7,Ts,Tt] <;> omega
 ·obtain⟨k,hk,rfl⟩:=Rj.mp z;obtain⟨a,b,rfl,a0,ab,bm⟩:=h'.2.2.2.2 k hk;refine⟨⟨?_,?_⟩,⟨?_,?_⟩,?_⟩ <;> dsimp[g7,Ts,Tt] <;> omega
theorem F3(h:GW m ks)(h':GW n ls):(Ez m ks ls).length<=30:=by
 unfold Ez;rw[PB,PD,PD];have:=eP h;have:=eP h';omega
theorem sG{e:ME}{c:Option Nat}{x:D}(h:GW m ks)(h':GW n ls)(hx:fJ [none,none,c] L=[none,none,some x])(he:∀(a b:Int) M,e [some (.int a),some (.int b),some x] M=.ok (gm ((m:Int)+a,(m:Int)+b)) M){f1 f2:ME}(e1:f1 L Y=.ok (.tup 1e8) Y)(e2:∀M,f2 L M=.ok (.tup (ls.map aI)) M):
  aK cx (aB hG (af f1 az)) (cL (gh f2) [none,none,c] (cy 2 1e7) cV e) L Y=.ok (.obj (Y.length+2)) (Y++[.lst 1e8]++[.lst (ls.map fun k=>gm ((m:Int)+(g7 k).1,(m:Int)+(g7 k).2))]++[.lst ((Ez m ks ls).map gm)]):=by
 have ll:=eP h';have kl:=eP h;let M1:aw:=Y++[.lst 1e8]
 have c1:=cN (U:=List Int) (en:=aI) (src:=.fix (ls.map aI)) (g:=cy 2 1e7) (t:=cV) (e:=e) (Y1:=M1) (q:=fun _=>true) (h:=fun k=>gm ((m:Int)+(g7 k).1,(m:Int)+(g7 k).2)) (fun L=>∃o o',L=[o,o',some x]) (fun _=>trivial) (us:=ls) (acc:=[]) (L:=[none,none,some x]) ⟨_,_,rfl⟩
  (by rw[Rc];exact OG 0e1 bO)
  (fun k hk a L hJJ => by
   obtain⟨o,o',e⟩:=hJJ;subst e;obtain⟨y,z,rfl,_⟩:=h'.2.2.2.2 k hk
   exact⟨[some (.int y),some (.int z),some x],⟨_,_,rfl⟩,rfl,rfl,fun _=>he y z _⟩)
 rw[iM,Qy]at c1;rw[aJ,ay,au,e1];dsimp[aa,av];rw[show hG [.tup 1e8] Y=.ok 1e9 M1 from rfl];dsimp[aa,cG,cm,e2,iZ,bE,hx,c1];have ad:=pP (Y:=M1++[O.lst (ls.map fun k=>gm ((m:Int)+(g7 k).1,(m:Int)+(g7 k).2))]) (a:=Y.length) (b:=M1.length) (aF ax) ax (by rw[PD,PD];omega);rw[ad];have e5:(M1++[O.lst (ls.map fun k=>gm ((m:Int)+(g7 k).1,(m:Int)+(g7 k).2))]).length=Y.length+2:=by simp[M1]
 rw[e5,show (Ez m ks ls).map gm=ks.map aI++ls.map (fun k=>gm ((m:Int)+(g7 k).1,(m:Int)+(g7 k).2)) from by unfold Ez;rw[Ru,F4 h.2.2.2.2,Q9,Q9];rfl]
theorem z8 {K:SO->aj D} (h:GW m ks) (h':GW n ls) (r:aj D) (e:pS Y (bf (pF (lx (aK (nD .Gt) (ai 6) (cC (.int 6)))) (mJ "TooGreat" "many" "most" (af (ai 6) (af (cC (.int 6)) (az)))) (dG))
 (bX (aB fS (af (ai 6) (af (aK cx (aB hG (af (ai 3) (az))) (cL (gh (ai 5)) [none,none,some 2] (cy 2 1e7) (cV) (mq))) (az))))) [some (bj m ks),some (bj n ls),some (.int (m:Int)),some (.tup 1e8),some (.int (n:Int)),some (.tup (ls.map aI)),some (.int ((m+n:Nat):Int))] Y).out=r):gL [bj m ks,bj n ls] Y=r:=by
 rw[<- e];unfold gL;rw[cA];dsimp[xb,List.replicate];rw[aL,aZ];dsimp[ah,ae,mM,QF,Rc,PU,ku,bB,mO,aa,aE,Tg,Th];rw[aL,aZ];dsimp[ah,ak,ae,mM,QF,Rc,PU,ku,bB,mO,aa,aE,Tg,Th];rw[aL,aZ];dsimp[aJ,ah,ak,aa,fR,ae,bB,aE,Tg,Th];rw[show (m:Int)+(n:Int)=((m+n:Nat):Int) from by push_cast;rfl]
theorem BF(h:GW m ks)(h':GW n ls)(hm:m+n<=6):gL [bj m ks,bj n ls] Y=.ok (bj (m+n) (eM ((Ez m ks ls).map mm))) Y:=by
 have m1:=h.m0;refine z8 (K:=fun _=>.bad) h h' _ ?_;rw[aL,bP];dsimp[dj,aJ,bu,ah,ak,aa,fQ,bp];rw[show gk .Gt ((m+n:Nat):Int) 6=false from Ot 0e1];dsimp[ae,QE,PR,bV,aE];rw[bg,ay,au];dsimp[ah,ak,aa]
 rw[au,sG (x:=.int (m:Int)) h h' rfl (fun a b M=>by
  unfold mq;dsimp[c9,au,av,aJ,ah,ak,aa,fR,QF,Rc,Ow l2]
  rfl) rfl (fun _=>rfl)]
 dsimp[aa,av];have e5:(Y++[O.lst 1e8]++[O.lst (ls.map fun k=>gm ((m:Int)+(g7 k).1,(m:Int)+(g7 k).2))]).length=Y.length+2:=by simp
 rw[vU (m:=m+n) 0e1 hm (by rw[<- e5];exact ax) (t4 h h')];dsimp[ae,aU,Qt];exact eG (iL (pG 0e1 hm (t4 h h')))
theorem vc (h:GW m ks) (h':GW n ls) (hm:6<m+n):gL [bj m ks,bj n ls] Y=.exc ⟨"TooGreat",[("most",6),("many",((m+n:Nat):Int))]⟩ Y:=by
 refine z8 (K:=fun _=>.bad) h h' _ ?_;rw[aL,bP];dsimp[dj,aJ,bu,ah,ak,aa,fQ,bp];rw[show gk .Gt ((m+n:Nat):Int) 6=true from QA 0e1];dsimp[ae,PU];unfold mJ;dsimp[au,av,bu,ah,ak,aa];rfl
theorem AH(h:GW m ks)(h':GW n ls):cj [bj m ks,bj n ls] Y=.ok (.bl true) Y:=by
 have n3:0+1+1+1<=sizeLine:=by decide
 have m1:=h.m0;unfold cj;rw[cA];dsimp[hV,List.replicate];by_cases hm:m+n<=6
 ·have g : GW (m + n) (eM ((Ez m ks ls).map mm)) := pG 0e1 hm (t4 h h');have to:bJ [.int 1,bj m ks,bj n ls] Y=.ok (bj (m+n) (eM ((Ez m ks ls).map mm))) Y:=zp (by rw[Lx,BF h h' hm,ae]) (iL g);rw[aL,aZ];dsimp[ay,au,av,bu,ah,ak,aa,to,ae,bB,aE,Tg,Th];rw[aL,aZ];dsimp[aJ,bu,ah,ak,aa,dN,fR,ae,bB,aE,Tg,Th];rw[show (m:Int)+(n:Int)=((m+n:Nat):Int) from by push_cast;rfl];rw[aL,bP];dsimp[dj,aJ,bu,ah,ak,aa,fQ,bp];rw[show gk .Gt ((m+n:Nat):Int) 6=false from Ot 0e1];dsimp[ae,QE,PR,bV,aE];rw[bg,ay,au];dsimp[ah,ak,aa];rw[au,ay,au];dsimp[ah,ak,aa]
  rw[au,sG (x:=bj m ks) h h' rfl (fun a b M=>by
   unfold gr;dsimp[c9,au,av,aJ,bu,ah,ak,aa,dN,fR,QF,Rc,Ow l2];rw[Int.add_comm a,Int.add_comm b]
   rfl) (by dsimp[aJ,bu,ah,ak,aa,k9]) (fun _=>by dsimp[aJ,bu,ah,ak,aa,k9])]
  dsimp[aa,av];have e5:(Y++[O.lst 1e8]++[O.lst (ls.map fun k=>gm ((m:Int)+(g7 k).1,(m:Int)+(g7 k).2))]).length=Y.length+2:=by simp
  rw[sI (m:=m+n) 0e1 hm (by have:=F3 h h';omega) (by rw[<- e5];exact ax) (t4 h h')];dsimp[aa];rw[vV g];dsimp[ae,aU,Qt];exact eG (by simp[D.low])
 ·have to : bJ [.int 1, bj m ks, bj n ls] Y = .ok (.tup [.str "great", .int ((m + n : Nat) : Int), .int 6]) Y := zq (x := ⟨"TooGreat", [("most", 6), ("many", ((m + n : Nat) : Int))]⟩) (by rw [Lx, vc h h' 0e1, tI]) (show (["NoPlace", "NoWeb", "TooGreat"] : List Str).contains ("TooGreat" : Str) = true by decide +kernel) (DA (by show (Y ++ [O.exn "TooGreat" [("most", 6), ("many", ((m + n : Nat) : Int))]])[Y.length]? = _; exact ax)) (by simp [D.low, D.lows]);rw[aL,aZ];dsimp[ay,au,av,bu,ah,ak,aa,to,ae,bB,aE,Tg,Th];rw[aL,aZ];dsimp[aJ,bu,ah,ak,aa,dN,fR,ae,bB,aE,Tg,Th];rw[show (m:Int)+(n:Int)=((m+n:Nat):Int) from by push_cast;rfl];rw[aL,bP];dsimp[dj,aJ,bu,ah,ak,aa,fQ,bp];rw[show gk .Gt ((m+n:Nat):Int) 6=true from QA 0e1];dsimp[ae,PU];rw[bg];dsimp[aJ,c9,au,av,bu,ah,ak,aa,QF,Rc,Ow n3]
  rw[SK (x:=.tup [.str "great",.int ((m+n:Nat):Int),.int 6]) (p:=.tuple [.str "great",.int ((m+n:Nat):Int),.int 6]) (neg:=false) rfl (by
   dsimp[dQ,PyData.canLay0,PyData.canLayAll0,PyData.depth,PyData.depthAll];rw[show PyData.strOk ("great" : Str)=true from by decide +kernel]
   rfl)]
  dsimp[ae,l5,aU,RR];exact bw (by simp[D.low])
end
section
theorem D4(hi:i<Y0.length)(h:Pn Y0 i Y1)(hm:m<=6):∃(qs:List Int)(Y2:aw),qs.Sublist (rg m)/\Pn Y0 i Y2/\Y2.length=Y1.length /\
  compLoop (.fix ((rg m).map D.int)) Y1.length (ao 0) mR mU ((rg m).map D.int) [none,some (.obj i)] (Y1++[.lst []])=.ok (.obj Y1.length) (Y2++[.lst (qs.map D.int)]):=by
 have kl:(rg m).length<=6:=by rw[jE];exact hm
 obtain⟨ys',L',Y2,s',⟨es,e1,e2,⟨o,e4⟩,qs,rs,e5,e6,e7,e8⟩,run⟩:=kv (src:=.fix ((rg m).map D.int)) (g:=ao 0) (t:=mR) (e:=mU) (n:=Y1.length)
  (fun xs ys L Y2 s=>s=[]/\Y2.length=Y1.length/\Pn Y0 i Y2/\(∃o,L=[o,some (.obj i)])/\∃qs rs:List Int,xs=rs.map D.int/\ys=qs.map D.int/\(qs++rs).Sublist (rg m)/\qs.length+rs.length<=(rg m).length)
  (fun ys L Y2 s ⟨_,e1,_⟩=>⟨e1,trivial⟩)
  (fun x r ys L Y2 s hJJ => by
   obtain⟨es,e1,e2,⟨o,e4⟩,qs,rs,e5,e6,e7,e8⟩:=hJJ;subst es e4 e6;cases rs with
   |nil=>cases e5
   |cons k rs=>
    rw[Qj]at e5;injection e5 with ex er
    subst ex er;dsimp[QF]at e8;have i2:i<Y2.length:=OB hi e2.len;obtain⟨v,a,b,c,v0,v1,ed,hp⟩:=(e2.app (g:=[.lst (qs.map D.int)])).draw (m:=2) hi 0e4 0e4;rw[um i2]at ed;refine⟨e1,trivial,[some (.int k),some (.obj i)],Y2,[],v == 0,Y2.set i (cZ a b c),[],rfl,?_,fun hc=>?_,fun hc=>?_⟩
    ·unfold mR;dsimp[dj,aJ,ay,au,av,ak,ah,bu,aa,ag,ed,l9,QE,PR,bp]
    ·refine ⟨.int k, Y2.set i (cZ a b c), [], ?_, ?_, by simpa using e1, rfl, by simpa using e1, e2.set hi, ⟨_, rfl⟩, qs ++ [k], rs, rfl, by simp, by simpa using e7, by simp; omega⟩
     ·unfold mU;rw[ah]
     ·rw[PD];exact OB (show qs.length<1000 by omega) bO
    ·exact⟨rfl,by simpa using e1,e2.set hi,⟨_,rfl⟩,qs,rs,rfl,rfl,(List.Sublist.append (List.Sublist.refl qs) (List.sublist_cons_self k rs)).trans e7,by omega⟩)
  (xs:=(rg m).map D.int) (ys:=[]) (L:=[none,some (.obj i)]) (Y1:=Y1) (s:=[])
  ⟨rfl,rfl,h,⟨_,rfl⟩,[],rg m,rfl,rfl,by simp,by simp⟩
 subst es e6;refine⟨qs,Y2,?_,e2,e1,run⟩;cases rs with
 |nil=>simpa using e7
 |cons=>cases e5
theorem Kv{T:aw->Prop}{i:Int}(h0:0<=i)(h1:i<10000000000):GB b T n 110 (.int i):=by
 have lg:i.natAbs.log2<34:=by
  by_cases z:i.natAbs=0
  ·rw[z];decide
  ·exact(Nat.log2_lt z).mpr (OB (show i.natAbs<10000000000 by omega) 0e4)
 refine mL rfl ?_ ?_ ?_ rfl rfl rfl
 ·dsimp[PyData.showable];exact QA 0e1
 ·dsimp[PyData.leavesShort];refine QA ?_;have:=PyProof.Rows.toString_length_le h0 (k:=10) 0e4 h1;exact OG (show (PyData.shown (.int i)).length<=10 from this) 0e4
 ·dsimp[PyData.weight];split <;> omega
theorem NM:Ap (.int 10) (.int 9) Y=.ok (.int 1000000000) Y:=by
 rw[show (Ap:D->D->aw->aj D)=Hk BY fun i j=>.int (i^j.toNat) from rfl,nL (show BY 10 9 from⟨by decide,by decide,by decide⟩)];rfl
def LG(l:Nat)(M:aw)(d:D):Prop:=(∀(b:Bool)(T:aw->Prop) n,GB b T (n+1) 110 d)\/∃j,d=.obj j/\l<=j/\(M[j]?=some (.lst [.int 0])\/M[j]?=some .dic)
theorem yj{P:Nat}{a b c:Int}(hp:Y[P]?=some (cZ a b c))(hm:m<=6):∃d Y',bY [.obj P,.int (m:Int)] Y=.ok d Y'/\Pn Y P Y'/\LG Y.length Y' d:=by
 have hP:P<Y.length:=(OQ.mp hp).1;obtain⟨r0,a1,b1,c1,r00,r01,e1,P1⟩:=(Pn.self hp).draw (m:=1000000000) hP 0e4 0e4;let M1:aw:=Y.set P (cZ a1 b1 c1)
 have l1M:M1.length=Y.length:=by simp[M1]
 let odds:List D:=[.int (m:Int),.int ((m:Int)+1+r0),.int (-1),.bl true,.bl false,.non,.str "0",.tup [.int 0],.obj M1.length,.obj (M1++[O.lst [.int 0]]).length]
 let M2:aw:=M1++[O.lst [.int 0]]++[O.dic]++[O.lst odds]
 have P2:Pn Y P M2:=((P1.app (g:=[O.lst [.int 0]])).app (g:=[O.dic])).app;obtain⟨r1,a3,b3,c3,r10,r11,e3,P3⟩:=P2.draw (m:=10) hP 0e4 0e4;let M3:aw:=M2.set P (cZ a3 b3 c3)
 have t3:M3[(M1++[O.lst [.int 0]]++[O.dic]).length]?=some (.lst odds):=by rw[OT (by dsimp[PB];omega)];exact ax
 have tL:M3[M1.length]?=some (.lst [.int 0]):=by rw[OT 0e1];exact aF (aF ax)
 have tD':M3[(M1++[O.lst [.int 0]]).length]?=some .dic:=by rw[OT (by rw[PB];omega)];exact aF ax
 obtain⟨d,ed,hd⟩:=x9 (xs:=odds) (n:=10) r10 r11 rfl
 have all:(∀(b:Bool)(T:aw->Prop) n,GB b T (n+1) 110 d)\/d=.obj M1.length\/d=.obj (M1++[O.lst [.int 0]]).length:=by
  dsimp[odds,OM,Q3,Q4]at hd;rcases hd with rfl|rfl|rfl|rfl|rfl|rfl|rfl|rfl|h|h
  ·exact .inl fun b T n=>(l7 0e1 0e1).wk 0e4
  ·exact .inl fun b T n=>Kv 0e1 0e1
  ·exact .inl fun b T n=>(l7 0e1 0e1).wk 0e4
  ·exact .inl fun b T n=>HN.wk 0e4
  ·exact .inl fun b T n=>HN.wk 0e4
  ·exact .inl fun b T n=>Ky.wk 0e4
  ·exact .inl fun b T n=>Kx.wk 0e4
  ·exact .inl fun b T n=>(xZ (k:=1) (w:=8) (fun x hx=>by rw[QP.mp hx];exact l7 0e1 0e1) 1e1 0e4).wk 0e4
  ·exact .inr (.inl h)
  ·exact .inr (.inr h)
 have fin:∃Y',pS Y (.ok d M3)=.ok d Y'/\Pn Y P Y'/\LG Y.length Y' d:=by
  rcases CT (Y:=Y) (d:=d) (Y':=M3) with e|⟨e,hlow⟩
  ·refine ⟨M3, e, P3, ?_⟩;rcases all with g|rfl|rfl
   ·exact .inl g
   ·exact .inr ⟨_,rfl,by omega,.inl tL⟩
   ·exact .inr ⟨_,rfl,by rw[PB];omega,.inr tD'⟩
  ·refine ⟨_, e, ?_, ?_⟩
   ·obtain⟨u,v,w,g,hg⟩:=P3;rw[show M3=Y.set P (cZ u v w)++g from hg];exact⟨u,v,w,[],by rw[SW 1e1,Ri 1e1,Pi]⟩
   ·rcases all with g | rfl | rfl
    ·exact .inl g
    ·rw[uz]at hlow;omega
    ·rw[uz,PB]at hlow;omega
 obtain⟨Y',eg,P4,tg⟩:=fin;refine⟨d,Y',?_,P4,tg⟩;have n1:0+1<=sizeLine:=l1;have n10:0+1+1+1+1+1+1+1+1+1+1<=sizeLine:=OG 0e4 bO;have e1':aP [.obj P,.int 1000000000] Y=.ok (.int r0) M1:=e1;have e3':aP [.obj P,.int 10] M2=.ok (.int r1) M3:=e3;unfold bY;rw[cA];dsimp[j4,List.replicate];rw[aL,aZ];dsimp[fq,aJ,iW,CZ,c9,au,av,ay,ak,ah,bu,C1,aa,ag,fR,NM,e1',QF,Rc,Ow n1,Ow n10,ae,bB,aE,Tg,Th,bg];rw[show aP [.obj P,.int 10] (M1++[O.lst [.int 0]]++[O.dic]++[O.lst [.int (m:Int),.int ((m:Int)+1+r0),.int (-1),.bl true,.bl false,.non,.str "0",.tup [.int 0],.obj M1.length,.obj (M1++[O.lst [.int 0]]).length]])=_ from e3'];dsimp[aa,ag];rw[iF t3 ed];dsimp[ae,aU];exact eg
end
section
theorem xX{w:Nat}(h:GB b (fun Y=>∃s,Y=M++s) 5 w d)(hw:w<=300000)(hr:t9 d=true):HW M d:=by
 obtain⟨x,hx⟩:=GY h hw hr;exact⟨x,fun s=>hx _ ⟨s,rfl⟩⟩
theorem KU{T:aw->Prop}{w:Nat}(h:GB b T n w d):GB b T (n+1) w d:=by
 obtain⟨⟨q,h1,h2,h3⟩,h4⟩:=h;refine⟨⟨q,fun Y hμ=>?_,h2,by omega⟩,h4⟩
 have up:∀n (d:D) q Y,nB Y n d=some q->nB Y (n+1) d=some q:=by
  intro n
  induction n with
  |zero=>exact fun d q Y h=>CY h
  |succ n ih=>
   intro d q Y h
   have mp:∀(xs:List D) qs,jk (nB Y n) xs=some qs->jk (nB Y (n+1)) xs=some qs:=by
    intro xs
    induction xs with
    |nil=>exact fun qs h=>h
    |cons x xs ihx=>
     intro qs h;unfold jk at h⊢;cases e1:nB Y n x with
     |none=>rw[e1]at h;cases h
     |some y=>
      rw[e1]at h;rw[ih x y Y e1];cases e2:jk (nB Y n) xs with
      |none=>rw[e2]at h;cases h
      |some ys=>rw[e2]at h;rw[ihx ys e2];exact h
   cases d with
   |tup xs=>
    unfold nB at h⊢;dsimp only at h⊢;cases e:jk (nB Y n) xs with
    |none=>rw[e]at h;cases h
    |some qs=>rw[e]at h;rw[mp xs qs e];exact h
   |frz xs=>
    unfold nB at h⊢;dsimp only at h⊢;cases e:jk (nB Y n) xs with
    |none=>rw[e]at h;cases h
    |some qs=>rw[e]at h;rw[mp xs qs e];exact h
   |obj k=>
    unfold nB at h⊢;dsimp only at h⊢;cases eo:Y[k]? with
    |none=>rw[eo]at h;cases h
    |some o=>
     rw[eo]at h;cases o with
     |lst xs=>
      dsimp only at h⊢;cases e:jk (nB Y n) xs with
      |none=>rw[e]at h;cases h
      |some qs=>rw[e]at h;rw[mp xs qs e];exact h
     |_=>exact h
   |_=>exact h
 exact up n d q Y (h1 Y hμ)
end
theorem D8{M':aw}(h:∀(j:Nat)(o:O),M[j]?=some o->M'[j]?=some o):∃g,M'=M++g:=by
 refine⟨M'.drop M.length,?_⟩;apply Sg;intro j;by_cases hj:j<M.length
 ·rw[Pw hj,Sw hj];exact h j _ (Sw hj)
 ·rw[Pu 0e1,Rz];congr 1;omega
theorem GP(h:M[n]?=some 2e6):fL "list" (.obj n) M=.ok (.bl true) M:=by
 unfold fL yX;dsimp only;rw[h];rfl
section
variable{a0 a1 a2 a3 a4 a5 a6 a7 a8 a9 a10 a11 a12 a13 a14:Option D}
noncomputable abbrev lW(m:Nat)(ks:List 2e5):List 2e5:=(BV m ks).map (aW m ks)
theorem C4:(BV m ks).map (fun s=>cI (aW m ks s))=(lW m ks).map cI:=by rw[Q9];rfl
theorem zT:(BV m ks).length<=m:=by
 have:=Tp (eF m ks) (rg m);rw[jE]at this;exact this
theorem CJ{s:Int}:(aW m ks s).length<=m:=by
 have:=Tp (rB ks s) (rg m);rw[jE]at this;exact this
theorem J6{t:Nat}(h:GW m ks)(ht:M[t]?=some (.lst ((lW m ks).map cI))) :
  ∃(g:aw)(b6:Option D),mT [a0,a1,a2,some (bj m ks),some (.obj t),a5,a6,a7,a8,a9,a10,a11,a12,a13,a14] M=.next [a0,a1,a2,some (bj m ks),some (.obj t),a5,b6,a7,a8,a9,a10,a11,a12,a13,a14] (M++g):=by
 have m6:=h.m6;obtain⟨s,e⟩:=AG (Y:=M) h;rw[C4]at e;have fl:=zT (m:=m) (ks:=ks);have tu:=fun N=>sJ (Y:=N) (ls:=lW m ks) (fun k hk=>by obtain⟨x,_,rfl⟩:=Rj.mp hk;have:=CJ (m:=m) (ks:=ks) (s:=x);omega) (by rw[PD];omega);refine⟨.lst ((lW m ks).map cI++[.non])::s,some (.obj M.length),?_⟩;unfold mT;rw[aL,aZ];dsimp[ay,au,av,ah,ak,aa];rw[show fE [bj m ks] M=_ from e];dsimp[ae,bB,aE,Tg,Th];rw[aL,bP];dsimp[qo,eu,fN,iW,ay,au,av,ah,ak,aa,GP ax,cW,RK,QE,PR];rw[iY ax];dsimp[aa];rw[iY (aF ht)];dsimp[aa];rw[show bz [.tup ((lW m ks).map cI),.tup ((lW m ks).map cI)] _=_ from tu _];dsimp[aa,cW,RK,ae,QE,PR,bV,aE];rw[mP];dsimp[qd,au,av,bu,ah,ak,aa,ua ax,PU]
 rw[show eB (.obj M.length) [.non] (M++.lst ((lW m ks).map cI)::s)=.ok .non (M++.lst ((lW m ks).map cI++[.non])::s) from by
  unfold eB;dsimp only;rw[ax];dsimp only
  rw[Ow (by rw[PD,PD];exact OB (show _<1000 by omega) bO),ko]]
 dsimp[ae]
theorem GH{t:Nat}{X:List D}(h:GW m ks):∀(n:Nat)(lo:Int)(M:aw)(a5 a6:Option D),M[t]?=some (.lst ((lW m ks).map cI)) ->
  ∃(g:aw)(b5 b6:Option D),fH (.fix X) (ao 5) mT (dv lo n) [a0,a1,a2,some (bj m ks),some (.obj t),a5,a6,a7,a8,a9,a10,a11,a12,a13,a14] M=.next [a0,a1,a2,some (bj m ks),some (.obj t),b5,b6,a7,a8,a9,a10,a11,a12,a13,a14] (M++g):=by
 intro n
 induction n with
 |zero=>
  intro lo M a5 a6 ht;refine⟨[],a5,a6,?_⟩;rw[lp,Pi];unfold fH;exact Ow trivial
 |succ n ih=>
  intro lo M a5 a6 ht;obtain⟨g1,b6,e1⟩:=J6 (a0:=a0) (a1:=a1) (a2:=a2) (a5:=some (.int lo)) (a6:=a6) (a7:=a7) (a8:=a8) (a9:=a9) (a10:=a10) (a11:=a11) (a12:=a12) (a13:=a13) (a14:=a14) h ht;obtain⟨g2,b5,b6',e2⟩:=ih (lo+1) (M++g1) (some (.int lo)) b6 (aF ht);refine⟨g1++g2,b5,b6',?_⟩;rw[jt];unfold fH;rw[Ow (show cK (.fix X) M from trivial)];dsimp[bB,ae,Tg,Th];rw[e1,jG,e2,Qt]
theorem sU{t:Nat}{all:List D}(h:GW m ks)(ht:M[t]?=some (.lst all)):∀(ds:List D)(a11:Option D),(∀d∈ds,HW M d) ->
  ∃b11,fH (.own t all) (ao 11) mS ds [a0,a1,a2,some (bj m ks),a4,a5,a6,a7,a8,a9,a10,a11,a12,a13,a14] M=.next [a0,a1,a2,some (bj m ks),a4,a5,a6,a7,a8,a9,a10,b11,a12,a13,a14] M
 |[],a11,_=>⟨a11,by unfold fH;exact Ow ht⟩
 |d::ds,a11,hd=>by
  obtain⟨b11,e⟩:=sU h ht ds (some d) fun x hx=>hd x (OK _ hx);refine⟨b11,?_⟩;unfold fH;rw[Ow (show cK (.own t all) M from ht)];dsimp[bB,ae,Tg,Th]
  rw[show mS [a0,a1,a2,some (bj m ks),a4,a5,a6,a7,a8,a9,a10,some d,a12,a13,a14] M=.next [a0,a1,a2,some (bj m ks),a4,a5,a6,a7,a8,a9,a10,some d,a12,a13,a14] M from by
   unfold mS
   dsimp[bP,eu,fN,ay,au,av,ah,ak,aa,Dh h (hd d OJ),cW,RK,ae,QE,PR,bV],jG,e]
theorem wB{t:Nat}{all:List D}(ht:M[t]?=some (.lst all)):∀(ds:List D)(a14:Option D),(∀d∈ds,∃m ks n ls,GW m ks/\GW n ls/\d=.tup [bj m ks,bj n ls]) ->
  ∃b14,fH (.own t all) (ao 14) pR ds [a0,a1,a2,a3,a4,a5,a6,a7,a8,a9,a10,a11,a12,a13,a14] M=.next [a0,a1,a2,a3,a4,a5,a6,a7,a8,a9,a10,a11,a12,a13,b14] M
 |[],a14,_=>⟨a14,by unfold fH;exact Ow ht⟩
 |d::ds,a14,hd=>by
  obtain⟨b14,e⟩:=wB ht ds (some d) fun x hx=>hd x (OK _ hx);obtain⟨m,ks,n,ls,g1,g2,rfl⟩:=hd d OJ;refine⟨b14,?_⟩;unfold fH;rw[Ow (show cK (.own t all) M from ht)];dsimp[bB,ae,Tg,Th]
  rw[show pR [a0,a1,a2,a3,a4,a5,a6,a7,a8,a9,a10,a11,a12,a13,some (.tup [bj m ks,bj n ls])] M=.next [a0,a1,a2,a3,a4,a5,a6,a7,a8,a9,a10,a11,a12,a13,some (.tup [bj m ks,bj n ls])] M from by
   unfold pR
   dsimp[bP,eu,fN,ay,au,av,aJ,bu,ah,ak,aa,dN,k9,AH g1 g2,cW,RK,ae,QE,PR,bV],jG,e]
end
section
variable{a0 a1 a2 a3 a4 a5 a6 a7 a8 a9 a10 a11 a12 a13 a14:Option D}
theorem J7{N:aw}{P t:Nat}(h:GW m ks)(hp:∃a b c,N[P]?=some (cZ a b c))(tp:t≠P)(ht:N[t]?=some (.lst ((lW m ks).map cI))):
  ∃(M':aw)(b7 b8 b9 b10 b11:Option D),(bf (bK (aB fu (af (cL (jC lz (af (aK fK (ai 3) 2e7) (az))) [none,some 2] (ao 0) (mR) (mU)) (az))) (ao 7))
   (bf (bK (aB aP (af (ai 2) (af (aK cx (aB mB (af (ai 7) (az))) (cC (.int 1))) (az)))) (ao 8))
   (bf (bK (aB bY (af (ai 2) (af (aK fK (ai 3) 2e7) (az)))) (ao 9))
   (bf 4e4
   (ly (gh (aK cx (iz (af (ai 7) (af (d9 (az)) (af (aB qe (af (aK fK (ai 3) 2e7) (az))) (af (aK fK (ai 10) (aB aP (af (ai 2) (af (cC (.int 9)) (az))))) (af (aK fK (ai 10) (aB aP (af (ai 2) (af (cC (.int 9)) (az))))) (az))))))) (ai 4))) (ao 11) mS)))))
   [a0,a1,some (.obj P),some (bj m ks),some (.obj t),a5,a6,a7,a8,a9,a10,a11,a12,a13,a14] N=.next [a0,a1,some (.obj P),some (bj m ks),some (.obj t),a5,a6,b7,b8,b9,b10,b11,a12,a13,a14] M'/\Pn N P M':=by
 have m0:=h.m0;have m6:=h.m6;obtain⟨u0,v0,w0,hp⟩:=hp;have hM2:P<N.length:=(OQ.mp hp).1;have tl:t<N.length:=(OQ.mp ht).1;obtain⟨w,Y2,hw,P2,l2',ec⟩:=D4 (m:=m) (Y0:=N) (Y1:=N) (i:=P) hM2 (Pn.self hp) m6;have wr:∀y∈w,0<=y/\y<(m:Int):=fun y hy=>jc.mp (hw.subset hy)
 have wl:w.length<=6:=by
  have:=hw.length_le;rw[jE]at this;omega
 let ws:List D:=w.map D.int
 have wsl:ws.length<=6:=by dsimp[ws,PD];exact wl
 let M3:aw:=Y2++[O.lst ws]
 have P3:Pn N P M3:=P2.app;obtain⟨sp,a4',b4',c4',s0,s1,e4,P4⟩:=P3.draw (m:=(w.length:Int)+1) hM2 0e1 0e1;obtain⟨sp,rfl⟩:∃k:Nat,sp=(k:Int):=⟨sp.toNat,by omega⟩;let M4:aw:=M3.set P (cZ a4' b4' c4')
 obtain⟨u4,v4,w4,hp4⟩:=P4.get hM2;obtain⟨odd,M5,e5,P5',ho⟩:=yj (m:=m) (Y:=M4) (P:=P) hp4 m6;have l24:N.length<=M4.length:=P4.len;obtain⟨u5,v5,w5,g5,hg5⟩:=P5'
 have P5:Pn N P M5:=by
  rw[hg5];exact(P4.set hM2).app
 have l45:M4.length<=M5.length:=by
  rw[hg5];have:(M4.set P (cZ u5 v5 w5)).length=M4.length:=Qo;rw[PB,this];omega
 let bent:List D:=[.tup (ws.take sp++[odd]++ws.drop sp),.tup (ws++iR ws none (some 1)),.tup ws.reverse,.obj M5.length,.tup [.tup ws],.non,.int 0,.obj (M5++[O.lst ws]).length,.tup [odd]]
 let M6:aw:=M5++[O.lst ws]++[O.dic]++[O.lst bent]
 let σ:Nat:=(M5++[O.lst ws]++[O.dic]).length
 have P6:Pn N P M6:=((P5.app (g:=[O.lst ws])).app (g:=[O.dic])).app;obtain⟨r1,a7',b7',c7',r10,r11,e7,P7⟩:=P6.draw (m:=9) hM2 0e4 0e4;let M7:aw:=M6.set P (cZ a7' b7' c7')
 obtain⟨r2,a8',b8',c8',r20,r21,e8,P8⟩:=P7.draw (m:=9) hM2 0e4 0e4;let M8:aw:=M7.set P (cZ a8' b8' c8')
 have hB:σ=M5.length+2:=by simp[σ]
 have t7:M7[σ]?=some (.lst bent):=by rw[OT 0e1];exact ax
 have t8:M8[σ]?=some (.lst bent):=by rw[OT 0e1];exact t7
 obtain⟨d1,ed1,hd1⟩:=x9 (xs:=bent) (n:=9) r10 r11 rfl;obtain⟨d2,ed2,hd2⟩:=x9 (xs:=bent) (n:=9) r20 r21 rfl;let five:List D:=[.tup ws,.tup [],.tup ((rg m).map D.int),d1,d2]
 let M9:aw:=M8++[O.lst five]
 have td:M8[t]?=some (.lst ((lW m ks).map cI)):=by
  obtain⟨x1,x2,x3,g,hg⟩:=P8;rw[show M8=N.set P (cZ x1 x2 x3)++g from hg];exact aF (by rw[OT (ON tp)];exact ht)
 let Mf:aw:=M9++[O.lst (five++(lW m ks).map cI)]
 have up:∀{j:Nat}{o:O},N.length<=j->M6[j]?=some o->Mf[j]?=some o:=fun {j o} hj e=>aF (aF (by
  rw[OT 0e1,OT 0e1]
  exact e))
 let T:aw->Prop:=fun Y=>∃s,Y=Mf++s
 have tk:∀{j:Nat}{o:O},Mf[j]?=some o->∀Y',T Y'->Y'[j]?=some o:=fun {j o} e Y' hT=>by obtain⟨s,rfl⟩:=hT;exact aF e
 have oL:=tk (up (j:=M5.length) 0e1 (aF (aF ax)));have l51:(M5++[O.lst ws]).length=M5.length+1:=by simp
 have oD:=tk (up (j:=(M5++[O.lst ws]).length) 0e1 (aF ax))
 have gws:∀(b:Bool)(T:aw->Prop) n,∀y∈ws,GB b T n 110 y:=fun b T n y hy=>by
  obtain⟨i,hi,rfl⟩:=Rj.mp hy;have:=wr i hi;exact(l7 0e1 0e1).wk 0e4
 have godd:∃b,GB b T 3 300 odd:=by
  rcases ho with g|⟨j,rfl,hj,g⟩
  ·exact⟨true,(g _ _ 2).wk 0e4⟩
  ·have hj2 : N.length <= j := by omega
   rcases g with g|g
   ·exact⟨true,(CU (n:=2) (k:=1) (w:=110) (tk (up hj2 (aF (aF (aF g))))) (fun z hz=>by rw[QP.mp hz];exact(l7 0e1 0e1).wk 0e4) 1e1).wk 0e4⟩
   ·exact⟨false,(CV (n:=2) (tk (up hj2 (aF (aF (aF g)))))).wk 0e4⟩
 obtain⟨bb,godd⟩:=godd;have gT:∀(b:Bool)(l:List D),l.length<=17->(∀y∈l,GB b T 3 300 y)->HW Mf (.tup l):=fun b l hl hy=>xX (KU (xZ (n:=3) (k:=17) (w:=300) hy hl 0e4)) 0e4 rfl;have gW:∀(l:List D),l.length<=17->(∀y∈l,y∈ws)->HW Mf (.tup l):=fun l hl hy=>gT true l hl fun y h=>(gws _ _ _ y (hy y h)).wk 0e4
 have gI:∀(l:List Int),l.length<=17->(∀y∈l,0<=y/\y<(m:Int))->HW Mf (.tup (l.map D.int)):=fun l hl hy=>gT true _ (by rw[PD];exact hl) fun y hy'=>by
  obtain⟨i,hi,rfl⟩:=Rj.mp hy';have:=hy i hi;exact(l7 0e1 0e1).wk 0e4
 have thB:∀d∈bent,HW Mf d:=fun d hd=>by
  have c3:=zZ (xs:=ws) (a:=none) (b:=some 1);dsimp[bent,OM,Q3,Q4]at hd;rcases hd with rfl|rfl|rfl|rfl|rfl|rfl|rfl|rfl|rfl
  ·refine gT bb _ (by dsimp[PB, Pr, PZ, QF, Rc]; omega) fun y hy => ?_;rcases OO.mp hy with hy|hy
   ·rcases OO.mp hy with hy | hy
    ·exact(gws _ _ _ y (RA hy)).wk 0e4
    ·rw[QP.mp hy];exact godd
   ·exact(gws _ _ _ y (RB hy)).wk 0e4
  ·exact gW _ (by rw[PB];omega) fun y hy=>by
    rcases OO.mp hy with z|z
    ·exact z
    ·exact G9 y z
  ·exact gW _ (by rw[S7];omega) fun y hy=>List.mem_reverse.mp hy
  ·exact xX (CU (T:=T) (n:=4) (k:=6) (w:=110) oL (fun z hz=>gws _ _ _ z hz) wsl) 0e4 rfl
  ·exact gT true _ 1e1 fun y hy=>by
    rw[QP.mp hy]
    exact(xZ (n:=2) (k:=6) (w:=8) (fun z hz=>by
     obtain⟨i,hi,rfl⟩:=Rj.mp hz;have:=wr i hi
     exact l7 0e1 0e1) wsl 0e4).wk 0e4
  ·exact⟨_,fun s=>⟨by simp[Kn],rfl⟩⟩
  ·exact⟨_,fun s=>⟨by simp[Kn],by unfold iH;dsimp only;rw[Ow 0e4]⟩⟩
  ·exact xX (CV (T:=T) (n:=4) oD) 0e4 rfl
  ·exact gT bb _ 1e1 fun y hy=>by rw[QP.mp hy];exact godd
 obtain⟨b11,ef⟩:=sU (M:=Mf) (t:=M9.length) (all:=five++(lW m ks).map cI) (a0:=a0) (a1:=a1) (a2:=some (.obj P)) (a4:=some (.obj t)) (a5:=a5) (a6:=a6) (a7:=some (.tup ws)) (a8:=some (.int (sp:Int))) (a9:=some odd) (a10:=some (.obj σ)) (a12:=a12) (a13:=a13) (a14:=a14) h ax (five++(lW m ks).map cI) a11 (fun d hd=>by
  rcases OO.mp hd with hd|hd
  ·dsimp[five, OM, Q3, Q4] at hd;rcases hd with rfl|rfl|rfl|rfl|rfl
   ·exact gW _ 0e1 fun y hy=>hy
   ·exact gW _ 1e1 fun y hy=>by cases hy
   ·exact gI _ (by rw[jE];omega) fun y hy=>jc.mp hy
   ·exact thB _ hd1
   ·exact thB _ hd2
  ·obtain ⟨l, hl, rfl⟩ := Rj.mp hd;obtain⟨s,_,rfl⟩:=Rj.mp hl
   exact gI _ (by have:=CJ (m:=m) (ks:=ks) (s:=s);omega) fun y hy=>jc.mp (OE.mp hy).1)
 refine⟨Mf,some (.tup ws),some (.int (sp:Int)),some odd,some (.obj σ),b11,?_,P8.app.app⟩;have n1:0+1<=sizeLine:=l1;have n5:0+1+1+1+1+1<=sizeLine:=OG 0e4 bO;have n9:0+1+1+1+1+1+1+1+1+1<=sizeLine:=OG 0e4 bO;have e4':aP [.obj P,.int ((w.length:Int)+1)] M3=.ok (.int (sp:Int)) M4:=e4;have e7':aP [.obj P,.int 9] M6=.ok (.int r1) M7:=e7;have e8':aP [.obj P,.int 9] M7=.ok (.int r2) M8:=e8;rw[aL,aZ];dsimp[ay,au,av,cG,fP,aJ,bu,ak,ah,aa,dN];rw[i3 0e1 0e1];dsimp[aa,bE,qj];rw[show fJ [none,some 2] [a0,a1,some (.obj P),some (bj m ks),some (.obj t),a5,a6,a7,a8,a9,a10,a11,a12,a13,a14]=[none,some (.obj P)] from rfl,ec];dsimp[aa];rw[iY (show (Y2++[O.lst (w.map D.int)])[N.length]?=some (.lst ws) from by rw[<- l2'];exact ax)];dsimp[ae,bB,Tg,Th,aE];rw[aL,aZ];dsimp[ay,au,av,aJ,bu,ak,ah,aa,jI,fR];rw[show ((ws.length:Nat):Int)=(w.length:Int) from by simp[ws]];rw[show aP [.obj P,.int ((w.length:Int)+1)] (Y2++[O.lst (w.map D.int)])=_ from e4'];dsimp[ae,bB,Tg,Th,aE];rw[aL,aZ];dsimp[ay,au,av,aJ,bu,ak,ah,aa,dN];rw[show bY [.obj P,.int (m:Int)] M4=_ from e5];dsimp[ae,bB,Tg,Th,aE];rw[aL,aZ];have q1:∀M:aw,EC (.tup ws) none (some (sp:Int)) M=.ok (.tup (ws.take sp)) M:=fun M=>by rw[tY,KO (by dsimp[ws,PD];omega)]
 have q2:∀M:aw,EC (.tup ws) (some (sp:Int)) none M=.ok (.tup (ws.drop sp)) M:=fun M=>by rw[tY,KQ (r:=sp) rfl]
 have q3:∀M:aw,cx (.tup (ws.take sp)) (.tup [odd]) M=.ok (.tup (ws.take sp++[odd])) M:=fun M=>uH (by rw[Pr];dsimp[QF,Rc];omega);have q4:∀M:aw,cx (.tup (ws.take sp++[odd])) (.tup (ws.drop sp)) M=.ok (.tup (ws.take sp++[odd]++ws.drop sp)) M:=fun M=>uH (by rw[PB,Pr,PZ];dsimp[QF,Rc];omega);have q5:∀M:aw,cx (.tup ws) (.tup (iR ws none (some 1))) M=.ok (.tup (ws++iR ws none (some 1))) M:=fun M=>uH (by have:=zZ (xs:=ws) (a:=none) (b:=some 1);omega);have q6:∀M:aw,hG [.tup ws] M=.ok (.obj M.length) (M++[O.lst ws]):=fun _=>rfl;have q7:∀M:aw,EC (.tup ws) none (some 1) M=.ok (.tup (iR ws none (some 1))) M:=fun _=>rfl;dsimp[fq,aJ,HP,KC,wQ,C2,iW,CZ,c9,au,av,ay,ak,ah,bu,C1,aa,q1,q2,q3,q4,q5,q6,q7,Jj,QF,Rc,Ow n1,Ow n9,ae,bB,aE,Tg,Th];rw[iG]
 have tr:∀M:aw,qe [.int (m:Int)] M=.ok (.tup ((rg m).map D.int)) M:=fun M=>by
  unfold qe;dsimp only;rw[Ow ⟨by omega,by omega⟩,qj]
 dsimp[cm,aJ,fq,c9,au,av,ay,ak,ah,bu,aa,dN,tr,Rc,Ow (QO sizeLine)];rw[show aP [.obj P,.int 9] (M5++[O.lst ws]++[O.dic]++[O.lst bent])=_ from e7'];dsimp[aa];rw[show fK (.obj (M5++[O.lst ws]++[O.dic]).length) (.int r1) M7=_ from iF t7 ed1];dsimp[aa];rw[show aP [.obj P,.int 9] M7=_ from e8'];dsimp[aa];rw[show fK (.obj (M5++[O.lst ws]++[O.dic]).length) (.int r2) M8=_ from iF t8 ed2];dsimp[aa,QF,Rc,Ow n5];have fl:=zT (m:=m) (ks:=ks);rw[show cx (.obj M8.length) (.obj t) (M8++[O.lst five])=.ok (.obj M9.length) Mf from pP ax (aF td) (by rw[PD,PD];show 5+_<=_;omega)];dsimp[aa];rw[gA (show Mf[M9.length]?=some (.lst (five++(lW m ks).map cI)) from ax)];dsimp[ae,dC];exact ef
end
theorem mX{o:SO}{f g:MS}:(o.bind f).bind g=o.bind fun L Y=>(f L Y).bind g:=by cases o <;> rfl
theorem NK{a b c d e r:MS}:bf a (bf b (bf c (bf d (bf e r)))) L Y=(bf a (bf b (bf c (bf d e))) L Y).bind r:=by
 show (a L Y).bind _=((a L Y).bind _).bind r;rw[mX];congr 1;funext L Y;show (b L Y).bind _=((b L Y).bind _).bind r;rw[mX];congr 1;funext L Y;show (c L Y).bind _=((c L Y).bind _).bind r;rw[mX];congr 1;funext L Y;show (d L Y).bind _=((d L Y).bind _).bind r;rw[mX];rfl
theorem GI{x:Int}{a0 a2 a3 a4 a5 a6 a7 a8 a9 a10 a11 a12 a13 a14:Option D}:∃(M':aw)(b2 b3 b4 b5 b6 b7 b8 b9 b10 b11 b12 b13 b14:Option D),
  pQ [a0,some (.int x),a2,a3,a4,a5,a6,a7,a8,a9,a10,a11,a12,a13,a14] M=.next [a0,some (.int x),b2,b3,b4,b5,b6,b7,b8,b9,b10,b11,b12,b13,b14] M'/\∀(j:Nat)(o:O),M[j]?=some o->M'[j]?=some o:=by
 obtain⟨a,b,c,ep⟩:=IU (Y:=M) x;have sl:∀a b c a' b' c':Int,(M++[cZ a b c]).set M.length (cZ a' b' c')=M++[cZ a' b' c']:=fun _ _ _ _ _ _=>ko;obtain⟨m,ks,a',b',c',h,ea⟩:=qv (u:=6) 0e4 0e4 (Y:=M++[cZ a b c]) (i:=M.length) ax;rw[sl]at ea;let N1:aw:=M++[cZ a' b' c']
 obtain⟨t,M2,e2,tl,k2,t2⟩:=yk (Y:=N1) h;rw[C4]at t2;obtain⟨g2,rfl⟩:=D8 k2;obtain⟨g3,b5,b6,e3⟩:=GH (a0:=a0) (a1:=some (.int x)) (a2:=some (.obj M.length)) (a7:=a7) (a8:=a8) (a9:=a9) (a10:=a10) (a11:=a11) (a12:=a12) (a13:=a13) (a14:=a14) (X:=dv 0 2) h 2 0 (N1++g2) a5 a6 t2;let N:aw:=N1++g2++g3
 have pN:N[M.length]?=some (cZ a' b' c'):=aF (aF ax);have l1':N1.length=M.length+1:=by simp[N1]
 obtain⟨M4,b7,b8,b9,b10,b11,e4,P4⟩:=J7 (a0:=a0) (a1:=some (.int x)) (a5:=b5) (a6:=b6) (a7:=a7) (a8:=a8) (a9:=a9) (a10:=a10) (a11:=a11) (a12:=a12) (a13:=a13) (a14:=a14) (N:=N) (P:=M.length) (t:=t) h ⟨_,_,_,pN⟩ 0e1 (aF t2);have hP:M.length<N.length:=(OQ.mp pN).1;obtain⟨u4,v4,w4,p4⟩:=P4.get hP;obtain⟨m5,k5,u5,v5,w5,h5,e5⟩:=qv (u:=6) 0e4 0e4 (Y:=M4) (i:=M.length) p4;have P5:=P4.set (a:=u5) (b:=v5) (c:=w5) hP;obtain⟨u6,v6,w6,p6⟩:=P5.get hP;obtain⟨m7,k7,u7,v7,w7,h7,e7⟩:=qv (u:=3) 0e4 0e4 (Y:=M4.set M.length (cZ u5 v5 w5)) (i:=M.length) p6;have P7:=P5.set (a:=u7) (b:=v7) (c:=w7) hP;let M7:aw:=(M4.set M.length (cZ u5 v5 w5)).set M.length (cZ u7 v7 w7)
 let prs4:List D:=[.tup [bj m ks,bj m5 k5],.tup [bj m ks,bj m7 k7],.tup [bj m7 k7,bj m5 k5],.tup [bj m7 k7,bj m7 k7]]
 obtain⟨b14,e8⟩:=wB (M:=M7++[O.lst prs4]) (t:=M7.length) (all:=prs4) (a0:=a0) (a1:=some (.int x)) (a2:=some (.obj M.length)) (a3:=some (bj m ks)) (a4:=some (.obj t)) (a5:=b5) (a6:=b6) (a7:=b7) (a8:=b8) (a9:=b9) (a10:=b10) (a11:=b11) (a12:=some (bj m5 k5)) (a13:=some (bj m7 k7)) ax prs4 a14 (fun d hd=>by
  dsimp[prs4,OM,Q3,Q4]at hd;rcases hd with rfl|rfl|rfl|rfl
  ·exact⟨_,_,_,_,h,h5,rfl⟩
  ·exact⟨_,_,_,_,h,h7,rfl⟩
  ·exact⟨_,_,_,_,h7,h5,rfl⟩
  ·exact⟨_,_,_,_,h7,h7,rfl⟩)
 refine⟨M7++[O.lst prs4],some (.obj M.length),some (bj m ks),some (.obj t),b5,b6,b7,b8,b9,b10,b11,some (bj m5 k5),some (bj m7 k7),b14,?_,fun j o e=>?_⟩
 rotate_left
 ·have hj : j < M.length := (OQ.mp e).1;have zN:N[j]?=some o:=aF (aF (aF e));obtain⟨u,v,w,g,hg⟩:=P7
  exact aF (by
   rw[show M7=N.set M.length (cZ u v w)++g from hg]
   exact aF (by rw[OT 0e1];exact zN))
 ·have n4:0+1+1+1+1<=sizeLine:=l4;have n2:0+1+1<=sizeLine:=l2;unfold pQ;rw[aL,aZ];dsimp[ay,au,av,ak,ah,aa,ep,ae,bB,Tg,Th,aE];rw[aL,aZ];dsimp[ay,au,av,ak,ah,bu,aa,ea,ae,bB,Tg,Th,aE];rw[aL,aZ];dsimp[ay,au,av,ak,ah,aa];rw[show dE [bj m ks] (M++[cZ a' b' c'])=_ from e2];dsimp[ae,bB,Tg,Th,aE];rw[aL,iG];dsimp[fP,au,av,bu,aa];rw[i3 0e1 0e1,ae,bE];rw[show fH (.fix (dv 0 (2:Int).toNat)) (ao 5) mT (dv 0 (2:Int).toNat) [a0,some (.int x),some (.obj M.length),some (bj m ks),some (.obj t),a5,a6,a7,a8,a9,a10,a11,a12,a13,a14] (N1++g2)=_ from e3,aE];rw[NK,e4,aE];rw[aL,aZ];dsimp[ay,au,av,ak,ah,bu,aa,e5,ae,bB,Tg,Th,aE];rw[aL,aZ];dsimp[ay,au,av,ak,ah,bu,aa,e7,ae,bB,Tg,Th,aE];rw[iG];dsimp[cm,fq,c9,au,av,ak,ah,aa,QF,Rc,Ow n2,Ow n4];rw[gA (xs:=prs4) ax,ae,dC];exact e8
theorem IV(ns:List Int):∃Y',vR [.frz (ns.map D.int)] []=.ok (.bl true) Y':=by
 obtain⟨x0,ex0⟩:=Fy (Y:=[]) (ns:=ns)
 obtain⟨xs,hxs,hxl⟩:∃xs:List Int,iR (ns.map D.int) (some 1) (some 8)=xs.map D.int/\xs.length<=9:=by
  refine⟨(ns.drop (HT.sIx ns.length 0 (some 1))).take (HT.sIx ns.length ns.length (some 8)-HT.sIx ns.length 0 (some 1)),?_,?_⟩
  ·unfold iR;rw[PD,Rv,Rw]
  ·rw[Pr];have h6:HT.sIx ns.length ns.length (some 8)=min 8 ns.length:=HT.sIx_nat _ _ 8;omega
 obtain⟨ρ,hL⟩:∃ρ:List Int,ρ=x0::xs:=⟨_,rfl⟩;let M5:aw:=([O.lst [.int x0]]++[O.lst (xs.map D.int)])++[O.lst (ρ.map D.int)]
 have h5:M5[2]?=some (.lst (ρ.map D.int)):=rfl
 obtain⟨L3,M6,_,run3⟩:=k8 (src:=.own 2 (ρ.map D.int)) (g:=ao 1) (fb:=pQ)
  (fun zs L Y=>Y[2]?=some (O.lst (ρ.map D.int))/\(∃rs:List Int,zs=rs.map D.int)/\∃o0 o1 o2 o3 o4 o5 o6 o7 o8 o9 o10 o11 o12 o13 o14,L=[o0,o1,o2,o3,o4,o5,o6,o7,o8,o9,o10,o11,o12,o13,o14])
  (fun L Y hJJ=>hJJ.1)
  (fun x r L Y hJJ => by
   obtain⟨h2,⟨rs,er⟩,o0,o1,o2,o3,o4,o5,o6,o7,o8,o9,o10,o11,o12,o13,o14,eρ⟩:=hJJ;subst eρ;cases rs with
   |nil=>cases er
   |cons y rs=>
    injection er with ex er
    subst ex er;obtain⟨M',b2,b3,b4,b5,b6,b7,b8,b9,b10,b11,b12,b13,b14,e1,e2⟩:=GI (M:=Y) (x:=y) (a0:=o0) (a2:=o2) (a3:=o3) (a4:=o4) (a5:=o5) (a6:=o6) (a7:=o7) (a8:=o8) (a9:=o9) (a10:=o10) (a11:=o11) (a12:=o12) (a13:=o13) (a14:=o14)
    exact⟨h2,_,Y,_,_,rfl,e1,e2 2 _ h2,⟨rs,rfl⟩,_,_,_,_,_,_,_,_,_,_,_,_,_,_,_,rfl⟩)
  (xs:=ρ.map D.int) (L:=[some (.frz (ns.map D.int)),none,none,none,none,none,none,none,none,none,none,none,none,none,none]) (Y:=M5)
  ⟨h5,⟨ρ,rfl⟩,_,_,_,_,_,_,_,_,_,_,_,_,_,_,_,rfl⟩
 have hend:∃Y',pS [] (.ok (.bl true) M6)=.ok (.bl true) Y':=by
  rcases CT (Y:=[]) (d:=.bl true) (Y':=M6) with e|⟨e,_⟩ <;> exact⟨_,e⟩
 obtain⟨Y',hend⟩:=hend;refine⟨Y',?_⟩;unfold vR;rw[gv];unfold HU;have l1:([.int x0]:List D).length<=sizeLine:=by show 1<=sizeLine;decide
 have sl:∀Y,EC (.frz (ns.map D.int)) (some 1) (some 8) Y=.ok 1e9 (Y++[.lst (xs.map D.int)]):=fun Y=>by
  unfold EC;dsimp only;rw[hxs]
 have ad:cx (.obj 0) (.obj 1) ([O.lst [.int x0]]++[O.lst (xs.map D.int)])=.ok (.obj 2) M5:=by
  have:=pP (Y:=[O.lst [.int x0]]++[O.lst (xs.map D.int)]) (a:=0) (b:=1) rfl rfl (show ([.int x0]:List D).length+(xs.map D.int).length<=1000000 by rw[PD];dsimp[QF,Rc];omega);rw[this];dsimp[M5,hL];rfl
 dsimp[List.replicate];rw[aL,iG,cm,aJ,fq,au,ay,au,ah,aa,au,bu,aa,av,aa,aa,aa,ex0,aa,av,aa,aa];dsimp[Ow l1,aa,HP,ah,wQ,bu,C2];rw[sl,aa];rw[show cx (.obj ([]:aw).length) (.obj (([]:aw)++[O.lst [.int x0]]).length) (([]:aw)++[O.lst [.int x0]]++[O.lst (xs.map D.int)])=_ from ad];rw[aa,gA h5,ae,dC,run3,aE,bg,bu,ae,aU];exact hend
end Lw
namespace Lw
open PySem PySem.Spec PyProof.Rows ρ2 RS
theorem cb(P:Params)(f:Addr)(n m:Str)(t:Tok)(c:Addr)(st:Stmt)(l:(Kz P).lookup f=some (fo n st m t c))(q:W.codeIn (Kz P) (.ref c) n=true):gf (Kz P) n n st f (W.fnOf n n (dm st) (bD st) (aq st) .none .none .none (.str m t) none (.ref c) .none):=CW l q (by unfold W.keepIn;dsimp only;rw[l];rfl)
theorem ub(P:Params)(f:Addr)(n q m:Str)(t:Tok)(c:Addr)(st:Stmt)(l:(Kz P).lookup f=some (K8 n q st m t c))(e:W.codeIn (Kz P) (.ref c) q=true):gf (Kz P) n q st f (W.fnOf n q (dm st) (bD st) (aq st) .none .none .none (.str m t) none (.ref c) .none):=CW l e (by unfold W.keepIn;dsimp only;rw[l];rfl)
theorem KS{l:W.OpenLaw}{h:Heap}{fa:Addr}(X:(Kz w.params).In h)(G:h.Ns mainGlobals mg)(hfa:mg "law" = some (.ref fa)):
  ∃fd:FuncData,(∀(s:Shared) (v:Value),BindsTo s fd ⟨[v],[]⟩ [("_law_script",v)])/\∀base:Heap,(Kz w.params).In base->base.Ns mainGlobals mg->j6 l.prog w (Kz w.params) mg base xK 10 fa fd ["_law_script"] (Ey (dP (Kz w.params) w) 1 vR):=by
 have e:=hfa.symm.trans (W.mg_of X G (v:=.ref 341) 0e2);cases e;have nm:Nm mg:=⟨W.mg_none_of X G 0e2,W.mg_none_of X G 0e2,W.mg_none_of X G 0e2,W.mg_none_of X G 0e2,W.mg_none_of X G 0e2,W.mg_none_of X G 0e2,W.mg_none_of X G 0e2,W.mg_none_of X G 0e2,W.mg_none_of X G 0e2,W.mg_none_of X G 0e2,W.mg_none_of X G 0e2,W.mg_none_of X G 0e2,W.mg_none_of X G 0e2,W.mg_none_of X G 0e2,W.mg_none_of X G 0e2⟩;have c_MOST_PLACES:=W.mg_of X G (n:="MOST_PLACES") (v:=(.int 6 412)) 0e2;have F:=cb w.params 341 "law" "law_rootwebs_k11_webs_apart_and_beside" 467 340 km 0e2 0e2;refine⟨W.fnOf "law" "law" (dm km) (bD km) (aq km) .none .none .none (.str "law_rootwebs_k11_webs_apart_and_beside" 467) none (.ref 340) .none,fun s v=>.of_eq rfl,fun base Xb Gb=>?_⟩;have d_is_whole:=xj (P:=l.prog) (w:=w) (base:=base)  nm (cb w.params 151 "is_whole" "rootwebs.kinds" 364 150 i5 0e2 0e2) 1e3;have d_is_whole_from:=oj (P:=l.prog) (w:=w) (base:=base)  nm (cb w.params 158 "is_whole_from" "rootwebs.kinds" 364 157 eC 0e2 0e2) 1e3 d_is_whole;have d_is_place:=xk (P:=l.prog) (w:=w) (base:=base)  nm (cb w.params 165 "is_place" "rootwebs.kinds" 364 164 i6 0e2 0e2) 1e3 d_is_whole_from;have d_is_places:=uV (P:=l.prog) (w:=w) (base:=base)  nm (cb w.params 170 "is_places" "rootwebs.kinds" 364 169 fV 0e2 0e2) 1e3 d_is_place;have d_is_rising:=uU (P:=l.prog) (w:=w) (base:=base)  nm (cb w.params 175 "is_rising" "rootwebs.kinds" 364 174 fU 0e2 0e2) 1e3;have d_is_rising_places:=lE (P:=l.prog) (w:=w) (base:=base)  nm (cb w.params 182 "is_rising_places" "rootwebs.kinds" 364 181 cX 0e2 0e2) 1e3 d_is_places d_is_rising;have d_is_many:=yy (P:=l.prog) (w:=w) (base:=base)  nm (cb w.params 189 "is_many" "rootwebs.webs" 410 188 jL 0e2 0e2) 1e3 ⟨_,c_MOST_PLACES⟩ d_is_whole_from;have d_is_pair:=yw (P:=l.prog) (w:=w) (base:=base)  nm (cb w.params 196 "is_pair" "rootwebs.webs" 410 195 jK 0e2 0e2) 1e3 d_is_places;have d_web_of:=A5 (P:=l.prog) (w:=w) (base:=base) (a_NoWeb:=104) nm (cb w.params 201 "web_of" "rootwebs.webs" 410 200 jq 0e2 0e2) 1e3 0e2 (vP.of (p7.of (fI:=101) (oI:=K8 "__init__" "NoWeb.__init__" (Hj (top 7) 0) "rootwebs.errors" 187 100) (nm:="NoWeb") (q:="NoWeb") (N:=103) (bs:=[(.ref 24)]) (bm:=[(.ref 24),(.type "ValueError"),(.type "Exception"),2e0,3e6]) (hd:=true) (sn:=[]) (sub:=[]) (ab:=false) (col:=none) (dd:=none) (k0:=some (.ref 88)) (k1:=none) (k2:=some (.str "NoWeb" 287)) (k3:=some (.str "NoWeb" 295)) (k5:=some (.bool true)) Xb Gb 0e2 0e2 0e2 0e2 0e2 0e2 rfl) (ub w.params 101 "__init__" "NoWeb.__init__" "rootwebs.errors" 187 100 (Hj (top 7) 0) 0e2 0e2) 0e0 rfl 0e2 0e2 (cd:=⟨"NoWeb",[(.ref 24)],[(.ref 104),(.ref 24),(.type "ValueError"),(.type "Exception"),2e0,3e6],103, "NoWeb",true,[],[],false,none,false⟩) 0e2 rfl rfl 0e2 (.inl rfl) (.inl rfl) ((ub w.params 101 "__init__" "NoWeb.__init__" "rootwebs.errors" 187 100 (Hj (top 7) 0) 0e2 0e2).b2 (by rfl) fun _ _ _ _ _ _ _ _=>by rfl)) d_is_many d_is_pair;have d_next_places:=rA (P:=l.prog) (w:=w) (base:=base)  nm (cb w.params 211 "next_places" "rootwebs.webs" 410 210 de 0e2 0e2) 1e3;have d_fars_from:=uW (P:=l.prog) (w:=w) (base:=base)  nm (cb w.params 206 "fars_from" "rootwebs.webs" 410 205 fW 0e2 0e2) 1e3 d_next_places;have d_pieces_of:=uT (P:=l.prog) (w:=w) (base:=base)  nm (cb w.params 216 "pieces_of" "rootwebs.looks" 447 215 fT 0e2 0e2) 1e3 d_fars_from;have d_within:=A4 (P:=l.prog) (w:=w) (base:=base) (a_NoPlace:=37) nm (cb w.params 221 "within" "rootwebs.looks" 447 220 ir 0e2 0e2) 1e3 0e2 (Au.of (nm:="NoPlace") (q:="NoPlace") (N:=36) (bs:=[(.ref 24)]) (bm:=[(.ref 24),(.type "ValueError"),(.type "Exception"),2e0,3e6]) (hd:=true) (sn:=[]) (sub:=[]) (ab:=false) (col:=none) (dd:=none) (k0:=some (.ref 28)) (k1:=none) (k2:=some (.str "NoPlace" 207)) (k3:=some (.str "NoPlace" 215)) (k5:=some (.bool true)) Xb Gb 0e2 0e2 0e2 0e2 0e2) d_is_rising_places d_web_of;have d_beside:=A6 (P:=l.prog) (w:=w) (base:=base) (a_TooGreat:=142) nm (cb w.params 226 "beside" "rootwebs.looks" 447 225 jr 0e2 0e2) 1e3 ⟨_,c_MOST_PLACES⟩ 0e2 (vO.of (p7.of (fI:=139) (oI:=K8 "__init__" "TooGreat.__init__" (Hj (top 9) 0) "rootwebs.errors" 187 138) (nm:="TooGreat") (q:="TooGreat") (N:=141) (bs:=[(.ref 24)]) (bm:=[(.ref 24),(.type "ValueError"),(.type "Exception"),2e0,3e6]) (hd:=true) (sn:=[]) (sub:=[]) (ab:=false) (col:=none) (dd:=none) (k0:=some (.ref 126)) (k1:=none) (k2:=some (.str "TooGreat" 337)) (k3:=some (.str "TooGreat" 345)) (k5:=some (.bool true)) Xb Gb 0e2 0e2 0e2 0e2 0e2 0e2 rfl) (ub w.params 139 "__init__" "TooGreat.__init__" "rootwebs.errors" 187 138 (Hj (top 9) 0) 0e2 0e2) 0e0 rfl 0e2 0e2 (cd:=⟨"TooGreat",[(.ref 24)],[(.ref 142),(.ref 24),(.type "ValueError"),(.type "Exception"),2e0,3e6],141, "TooGreat",true,[],[],false,none,false⟩) 0e2 rfl rfl 0e2 0e2 (.inl rfl) (.inl rfl) (.inl rfl) ((ub w.params 139 "__init__" "TooGreat.__init__" "rootwebs.errors" 187 138 (Hj (top 9) 0) 0e2 0e2).b3 (by rfl) fun _ _ _ _ _ _ _ _ _=>by rfl)) d_web_of;have d__law_cell_at:=pD (P:=l.prog) (w:=w) (base:=base)  nm (cb w.params 233 "_law_cell_at" "law_rootwebs_k11_webs_apart_and_beside" 467 232 eZ 0e2 0e2) 1e3;have d__law_next:=uY (P:=l.prog) (w:=w) (base:=base)  nm (cb w.params 240 "_law_next" "law_rootwebs_k11_webs_apart_and_beside" 467 239 ik 0e2 0e2) 1e3;have d__law_pen_of:=rF (P:=l.prog) (w:=w) (base:=base)  nm (cb w.params 247 "_law_pen_of" "law_rootwebs_k11_webs_apart_and_beside" 467 246 f7 0e2 0e2) 1e3;have d__law_draw:=u9 (P:=l.prog) (w:=w) (base:=base)  nm (cb w.params 254 "_law_draw" "law_rootwebs_k11_webs_apart_and_beside" 467 253 ip 0e2 0e2) 1e3 d__law_next;have d__law_whole:=se (P:=l.prog) (w:=w) (base:=base)  nm (cb w.params 261 "_law_whole" "law_rootwebs_k11_webs_apart_and_beside" 467 260 gB 0e2 0e2) 1e3;have d__law_kind_of:=pC (P:=l.prog) (w:=w) (base:=base) (a_NoLine:=61) (a_NoNumber:=49) (a_NoPlace:=37) (a_NoRoot:=73) (a_NoText:=123) (a_NoTree:=85) (a_NoWeb:=104) (a_TooGreat:=142) nm (cb w.params 268 "_law_kind_of" "law_rootwebs_k11_webs_apart_and_beside" 467 267 eY 0e2 0e2) 1e3 (bN.of 0e2) (bN.of 0e2) (bN.of 0e2) (bN.of 0e2) (bN.of 0e2) (bN.of 0e2) (bN.of 0e2) (bN.of 0e2) (bN.of 0e2) 1e3 1e3 1e3 1e3 1e3 1e3 1e3 1e3;have d__law_refused:=pB (P:=l.prog) (w:=w) (base:=base)  nm (cb w.params 275 "_law_refused" "law_rootwebs_k11_webs_apart_and_beside" 467 274 eX 0e2 0e2) 1e3 (jJ.of 0e2) (jJ.of 0e2) d__law_kind_of;have d__law_web_of:=rC (P:=l.prog) (w:=w) (base:=base)  nm (cb w.params 280 "_law_web_of" "law_rootwebs_k11_webs_apart_and_beside" 467 279 dX 0e2 0e2) 1e3;have d__law_drawn_web:=nu (P:=l.prog) (w:=w) (base:=base)  nm (cb w.params 285 "_law_drawn_web" "law_rootwebs_k11_webs_apart_and_beside" 467 284 cP 0e2 0e2) 1e3 d__law_draw d__law_web_of;have d__law_near:=uZ (P:=l.prog) (w:=w) (base:=base)  nm (cb w.params 290 "_law_near" "law_rootwebs_k11_webs_apart_and_beside" 467 289 fX 0e2 0e2) 1e3;have d__law_tuples_are:=my (P:=l.prog) (w:=w) (base:=base)  nm (cb w.params 295 "_law_tuples_are" "law_rootwebs_k11_webs_apart_and_beside" 467 294 cE 0e2 0e2) 1e3 d__law_whole;have d__law_web_is:=rD (P:=l.prog) (w:=w) (base:=base)  nm (cb w.params 302 "_law_web_is" "law_rootwebs_k11_webs_apart_and_beside" 467 301 f6 0e2 0e2) 1e3 d__law_whole d__law_tuples_are;have d__law_no_place:=om (P:=l.prog) (w:=w) (base:=base)  nm (cb w.params 309 "_law_no_place" "law_rootwebs_k11_webs_apart_and_beside" 467 308 eD 0e2 0e2) 1e3 d__law_draw;have d__law_told:=uX (P:=l.prog) (w:=w) (base:=base) (a_RootError:=24) nm (cb w.params 316 "_law_told" "law_rootwebs_k11_webs_apart_and_beside" 467 315 ij 0e2 0e2) 1e3 1e3 (vN.of 0e2) d_beside d_within d__law_refused;have d__law_pieces:=rE (P:=l.prog) (w:=w) (base:=base)  nm (cb w.params 321 "_law_pieces" "law_rootwebs_k11_webs_apart_and_beside" 467 320 dY 0e2 0e2) 1e3 d__law_near;have d__law_is_lot:=rG (P:=l.prog) (w:=w) (base:=base)  nm (cb w.params 326 "_law_is_lot" "law_rootwebs_k11_webs_apart_and_beside" 467 325 df 0e2 0e2) 1e3 d__law_whole;have d__law_right:=sg (P:=l.prog) (w:=w) (base:=base)  nm (cb w.params 331 "_law_right" "law_rootwebs_k11_webs_apart_and_beside" 467 330 eQ 0e2 0e2) 1e3 d__law_told d__law_is_lot d__law_web_is;have d__law_beside_right:=kT (P:=l.prog) (w:=w) (base:=base)  nm (cb w.params 336 "_law_beside_right" "law_rootwebs_k11_webs_apart_and_beside" 467 335 bU 0e2 0e2) 1e3 d__law_told d__law_web_is d__law_web_of;exact KB nm F d__law_cell_at d__law_pen_of d__law_drawn_web d__law_pieces d_pieces_of d__law_tuples_are d__law_draw d__law_no_place d__law_right d__law_beside_right
theorem Ny{l:W.OpenLaw}{q:Program}{d:DefRec}(hn:l.most=some 63)(hdf:d.params.defaults=[])(hd:d.name = "law"):
  W.WalkO q loose XP (W.Hook.says Hz) l.row.toRowW d [] (fun f vs=>PySem.call f vs):=
 ρ2.walk_of (K:=Kz) (n:=63) (k:=10) (x:="_law_script") (CX:=fun _=>xK) (sp:=fun w=>Ey (dP (Kz w.params) w) 1 vR) hn 0e4 hdf ⟨rfl,by decide,by decide,rfl⟩ (fun _ _ μ=>W.kIn_of μ) (fun _ _ _ _ X G e=>KS X G (hd ▸ e)) (fun w H a ns hl hO hS=>D5 (IV ns) hO hS) fun _ _ _ _ _ z=>z
end Lw
open PySem PySem.W PyProof.Rows Lw
set_option maxRecDepth 100000 in
set_option maxHeartbeats 0 in
theorem PySem.Challenge.cw_rootwebs_k11_webs_apart_and_beside_holds : PySem.Challenge.rw_rootwebs_k11_webs_apart_and_beside.Holds := by
 w_on;refine holds_law Ip fun said=>?_
 exact holds_open (Xt:=Xz) (XP:=XL Qz []) (YP:=Hook.says Hz) Iq (Hook.of Hz) (Hook.keeps Hz) (fun s e=>xl_of s (Bool.and_eq_true_iff.mp e).1) XL.keeps (by rfl) (by rfl) (by rfl) (fun s e=>recFacts_of (Bool.and_eq_true_iff.mp e).2) (by rfl) said 0e8 ⟨rfl,rfl,rfl,rfl,rfl,by decide +kernel⟩ (by w_witness2) (Ny rfl rfl rfl)
