import PyProof.Rows.All
import Wide.All
import OpenK.KMake
import OpenK.KDescr
import OpenK.KOwn
import OpenK.KFacts
import KE.KItem
import OpenK.KOps
import OpenK.KMore
import OpenK.KCls
import OpenK.Peek
import KE.KFromBytes
import OpenK.KGet
import KE.KIsAll
import KE.KxBytes
import OpenK.KCall
import KE.KSortTup
import KE.KTryMore
import OpenK.KRaise
import KE.KSortAsk
import OpenK.KWalk
import OpenK.KLine
import Wide.FinOn
import PyProof.EqAt
import PyProof.EqKinds
import PyProof.TupleCall
import PyProof.P3In
import PyProof.NeData
import PyProof.ConsumeS
import PyProof.WalksMore
import PyProof.ReprRoads
import PyProof.ReprLen
import PyProof.Draws
import PyProof.EnumMake
import PyProof.EnumFor
import PyProof.CallFns
import PyProof.Rows.CallKwBuiltin
import Lean
import PyProof.AutoIntG2
import PyProof.DictRoadsH
import PySem.Challenge.RW_rootwebs_k42_whole_stars
set_option Elab.async false
set_option compiler.extract_closed false
set_option bootstrap.genMatcherCode false
set_option linter.all false
set_option maxHeartbeats 4000000
set_option maxRecDepth 100000
set_option hygiene false
local macro_rules|`(0e0)=>`(⟨rfl,rfl,rfl,by decide +kernel,rfl,by decide +kernel,by decide +kernel⟩)|`(0e1)=>`(by omega)|`(0e2)=>`(by kernel_rfl)|`(0e3)=>`(R.mono (by decide))|`(0e4)=>`(s.heap.objs.size)|`(0e5)=>`(List Int)|`(0e6)=>`(F.b2 (by rfl) λ_ _ _ _ _ _ _ _=>by rfl)|`(0e7)=>`(iX X Nc scope cl C s H fp)|`(0e8)=>`(ks.map aw)|`(0e9)=>`(by simp)|`(1e0)=>`(F.b1 (by rfl) λ_ _ _ _ _ _ _=>by rfl)|`(1e1)=>`(by decide +kernel)|`(1e2)=>`(by decide)|`(1e3)=>`(W.mg_of X G 0e2)|`(1e4)=>`(.obj Z.length)|`(1e5)=>`(model X.prog X.w)|`(1e6)=>`(bE K w)|`(1e7)=>`(model prog w)|`(1e8)=>`(aK m ks)|`(1e9)=>`(X.env)|`(2e0)=>`(ak (ao 0) (aB))|`(2e1)=>`(ak (ao 1) (aB))|`(2e2)=>`(aP (aE 0) (aY))|`(2e3)=>`(aP (aE 1) (aY))
local macro_rules|`(2e4)=>`(W.fnOf x qual (fy st) (dr st) (ar st) .none kV doc pm an cdv ct)|`(2e5)=>`(cC (.int 0))|`(2e6)=>`(cC (.int 1))|`(2e7)=>`(.tup [.int m,.tup 0e8])|`(2e8)=>`(seqObj "list" #[] 0)|`(2e9)=>`(.ref f)|`(3e0)=>`((·.1))|`(3e1)=>`(ao 0)|`(3e2)=>`(aR (ai 0) (aR (ai 1) (cv)))|`(3e3)=>`(s.heap)|`(3e4)=>`(.ListComp elt [⟨tg,iter,ifs,0⟩] scope pos)|`(3e5)=>`(X.fn x=true\/X.env.scope.names.lookup x=some .local)|`(3e6)=>`(λ_ _ _ _ _=>dN)|`(3e7)=>`((∀x,foldedSetIterable iter 1e9 x=pure x))|`(3e8)=>`(w.params)|`(3e9)=>`(.tup 0e8)|`(4e0)=>`(aE 0)|`(4e1)=>`(M.length)|`(4e2)=>`(PE X a (tD p fa))|`(4e3)=>`(items.size)|`(4e4)=>`(Addr×Obj)|`(4e5)=>`((x == ("__debug__" : Str))=false)|`(4e6)=>`(.ListComp elt (cl0::rest) scope pos)|`(4e7)=>`(((kn ks m).filter λk=>!(rg m).any (fu ks k)).map bc)
local macro_rules|`(4e8)=>`(xs.length)|`(4e9)=>`(ak (ao 2) (aB))|`(5e0)=>`(Option Nat)|`(5e1)=>`(λ_=>trivial)|`(5e2)=>`(Z.length)|`(5e3)=>`(aP (aE 2) (aY))|`(5e4)=>`(ao 1)|`(5e5)=>`(R.units)|`(5e6)=>`(.int m)|`(5e7)=>`(.obj A)|`(5e8)=>`(cE l a.heap.objs.size (o0 a.heap.objs.size))|`(5e9)=>`((kn ks n).map bc++[bc [(n:Int)]]++F.map λk=>bc (k++[(n:Int)]))|`(6e0)=>`(Z1++[.lst a])|`(6e1)=>`(PE X b (tD p fb))|`(6e2)=>`(aE 1)|`(6e3)=>`(UG _)|`(6e4)=>`(s.heap.objs.size+1)|`(6e5)=>`(S.heap.objs.size)|`(6e6)=>`(bJ (cC (.bl false)))|`(6e7)=>`(.bl true)|`(6e8)=>`(.tup [.int a,.int b])|`(6e9)=>`(by simp;omega)|`(7e0)=>`(.ListComp elt (⟨tg,iter,ifs,0⟩::rest) scope pos)|`(7e1)=>`(starEach es 1e9)
local macro_rules|`(7e2)=>`(show X.A.in1.handled=none from I.ok.hd C)|`(7e3)=>`(ak (ao 4) (aB))|`(7e4)=>`((·.2))|`(7e5)=>`(.lst xs)|`(7e6)=>`(cg 4e0 (cP))|`(7e7)=>`(ks.length)|`(7e8)=>`(Xs _)|`(7e9)=>`(lV q h (by intro z;cases z))|`(8e0)=>`(l.prog)|`(8e1)=>`(UC ?_)|`(8e2)=>`(decide (items.size<items2.size))|`(8e3)=>`(.int p)|`(8e4)=>`((rg m).map D.int)|`(8e5)=>`(λr s'=>r=.ok (.ret (.bool true))/\OldK s₁.heap s'.heap/\s'.os=s₁.os/\AllBare s'.gens)|`(8e6)=>`(aR (ai 2) (aR (ai 3) (cv)))|`(8e7)=>`((e::es).length+([]:List Keyword).length+(if ([]:List Keyword).isEmpty then 0 else 1)<30)|`(8e8)=>`(l.map D.int)|`(8e9)=>`(.inl rfl)|`(9e0)=>`(X.K=p.K)|`(9e1)=>`(ai 0)|`(9e2)=>`(.obj 4e1)|`(9e3)=>`(.int (t:Int))|`(9e4)=>`([e].length+([]:List Keyword).length+(if ([]:List Keyword).isEmpty then 0 else 1)<30)|`(9e5)=>`((false,eval a 1e9))
local macro_rules|`(9e6)=>`(EV m ks)|`(9e7)=>`(F.b3 (by rfl) λ_ _ _ _ _ _ _ _ _=>by rfl)|`(9e8)=>`(show bK (.fix all) _ from trivial)|`(9e9)=>`((Obj.mapSeq (·++vs.toArray)))|`(10e0)=>`(⟨e,⟨rfl,rfl,rfl⟩,rfl,⟨rfl,rfl,List.Pairwise.nil,λz μ=>by simp at μ,rfl,λz μ=>by simp at μ⟩,rfl,rfl,.inl ⟨rfl,by decide⟩,List.Perm.nil⟩)|`(10e1)=>`(SetTable.bits h%(t.mask+1))|`(10e2)=>`(X.calm=true)|`(10e3)=>`(its.toArray)|`(10e4)=>`(WM S.ho S.hd S.fits ?_)|`(10e5)=>`(.obj t)|`(10e6)=>`(.obj d.length)|`(10e7)=>`(ao 2)|`(10e8)=>`(kP m ko 2)|`(10e9)=>`(ak (ao 3) (aB))|`(11e0)=>`(W9 (Vb (name:=Str.ofString "__next__") hT Fx.slot_setiter_next (Vd Fx.slot_setiter_next hT Fx.entry_setiter_next ?_ (Fx.args_setiter_next _))))|`(11e1)=>`(.BoolOp .And (a::b::rest) pos)|`(11e2)=>`(.Compare a [op,op'] [b,c] pos)|`(11e3)=>`(SetTable.bits h)|`(11e4)=>`(.int 2)|`(11e5)=>`(.int i)|`(11e6)=>`(ay.mpr rfl)|`(11e7)=>`(fO (op:=.Lt) 5e5)|`(11e8)=>`(.int x)|`(11e9)=>`(r.length)
local macro_rules|`(12e0)=>`(EP X pins Y Q)|`(12e1)=>`(ns.map V.int)|`(12e2)=>`(ns.map D.int)|`(12e3)=>`(aO (aZ (AE)))|`(12e4)=>`(.lst S)|`(12e5)=>`(aE 2)|`(12e6)=>`((List.range k).map λi=>D.obj (Z.length+1+i))|`(12e7)=>`(.Call (.Name x px) (a::es) [] pos)|`(12e8)=>`(λcl C s H fp=>(σ cl C s H fp).h)|`(12e9)=>`(λ_ _ _ _ _=>aE 0)|`(13e0)=>`(X.prog)|`(13e1)=>`(VP (a:=Value.none) (by first|rfl|(dsimp[firstArgMember];rfl)) ?_)|`(13e2)=>`(by dsimp only;omega)|`(13e3)=>`(aF (kc true) (aF (su false) (ao 6) (cC .non)) (aF (kc false) (ax bQ 7e3) 2e5))|`(13e4)=>`(pT (il (aF (kc true) (ax gQ (ak (ao 6) (aB))) (aF cM (ao 7) 2e5))) (eT (gu (ax nt (ak (bT (cw (ao 7)) [none,some 4] 9e1 (a9) (oS)) (aB))))))|`(13e5)=>`(.BoolOp .And (b::rest) pos)|`(13e6)=>`(λcl C s H fp=>(J cl C s H fp).h)|`(13e7)=>`((order.filterMap (es1[·]?)))|`(13e8)=>`(by simpa[PyData.canLay0] using fitP_lay c)|`(13e9)=>`((apos.endLine == pos.line)=true)|`(14e0)=>`(A.deeper (envOfC qual (ar st) 0e4 f cdv))|`(14e1)=>`(SetTable.turns t.mask)|`(14e2)=>`((backTo pos 7e1).any 3e0=false)|`(14e3)=>`(bx iw nm.len 2e2)
local macro_rules|`(14e4)=>`(List Int×Nat)|`(14e5)=>`(aF cM 3e1 2e5)|`(14e6)=>`(aP (aE 4) (aY))|`(14e7)=>`(if (w.params.followText "set-order")=true then _ else _)|`(14e8)=>`(.Compare a [op] [b] pos)|`(14e9)=>`(Obj.putSet es1 t1)|`(15e0)=>`(oC p.nx g)|`(15e1)=>`(.builtin "sorted")|`(15e2)=>`(.ListComp elt gens scope pos)|`(15e3)=>`(ak 3e1 2e1)|`(15e4)=>`(aP 4e0 2e3)|`(15e5)=>`(.ref 0e4)|`(15e6)=>`(Int×Int)|`(15e7)=>`(.ref a)|`(15e8)=>`(.int (if j>i then j else i))|`(15e9)=>`(xa CX P w K mg base N qual scope f cdv A outer s H E)|`(16e0)=>`(entryOfKey (TK prog w))|`(16e1)=>`(oF p fr)|`(16e2)=>`(PI X tg iter (qD p fi))|`(16e3)=>`(.Name x pos)|`(16e4)=>`(.builtin id)|`(16e5)=>`(bh (N:=["ties", "front"]) (sc:=ar dU) (Nc:=["a", "b", "front"]) (cap:=[none,none,some 1]) rfl rfl 1e1)|`(16e6)=>`(by simpa using I)|`(16e7)=>`(kG (d0 .Lt) (d0 .Lt) 2e5 (ax bQ 7e3) (cC (.int 40)))
local macro_rules|`(16e8)=>`(j pins s Y H _ I h)|`(16e9)=>`(keywordEach [] 1e9)
set_option hygiene true
local macro_rules|`(tactic|dsimp[$x,*]$[$l]?)=>`(tactic|simp only[$x,*]$[$l]?)
def ATrx(_:True:=by rfl):=0
def ATr:Lean.Syntax:=ATrx._auto_1
def ATsx(_:True:=by decide):=0
def ATs:Lean.Syntax:=ATsx._auto_1
def ATtx(_:True:=by intro _;rfl):=0
def ATt:Lean.Syntax:=ATtx._auto_1
def ATux(_:True:=by first|exact .inl rfl|exact .inr rfl|assumption):=0
def ATu:Lean.Syntax:=ATux._auto_1
def ATvx(_:True:=by first|exact Or.inl rfl|exact Or.inr rfl):=0
def ATv:Lean.Syntax:=ATvx._auto_1
def ATwx(_:True:=by first|exact .inl rfl|exact .inr rfl):=0
def ATw:Lean.Syntax:=ATwx._auto_1
noncomputable section
abbrev TV:=@Option.some.inj
abbrev TX:=@Prod.ext
abbrev TY:=@decide_eq_false
abbrev TZ:=@beq_eq_false_iff_ne
abbrev T1:=@if_pos
abbrev T3:=@if_neg
abbrev T4:=@PySem.Heap.get?_push_size
abbrev T5:=@PySem.Heap.lt_size
abbrev T6:=@Nat.lt_of_lt_of_le
abbrev T7:=@Nat.lt_irrefl
abbrev T8:=@Nat.ne_of_lt
abbrev T9:=@List.mem_filter
abbrev Ua:=@List.mem_range
abbrev Ub:=@Nat.le_trans
abbrev Uc:=@Nat.le_of_lt
abbrev Ud:=@List.filterMap_cons
abbrev Ue:=@List.mem_cons_self
abbrev Ug:=@List.mem_cons_of_mem
abbrev Uh:=@List.mem_cons
abbrev Ui:=@Ne.symm
abbrev Uj:=@List.mem_append
abbrev Uk:=@List.mem_append_left
abbrev Ul:=@List.getElem?_eq_some_iff
abbrev Um:=@List.getElem_inj
abbrev Uo:=@List.getElem?_set_self
abbrev Uq:=@List.getElem?_set_ne
abbrev Ur:=@PySem.wpAny_mono
abbrev Us:=@PySem.wpAny_truthy_bool
abbrev Ut:=@Array.length_toList
abbrev Uu:=@congrArg
abbrev Uv:=@PySem.wpAny_execs_nil
abbrev Uw:=@PySem.wpAny_bind
abbrev Ux:=@PySem.wpAny_holding
abbrev Uy:=@PySem.wpAny_standAt
abbrev Uz:=@PySem.wpAny_passesOwn
abbrev UA:=@Bool.false_ne_true
abbrev UB:=@Nat.ne_of_gt
abbrev UC:=@PySem.wpAny_pure
abbrev UD:=@PySem.wpAny_load
abbrev UE:=@Bool.false_and
abbrev UF:=@PySem.Heap.get?_push_of_some
abbrev UG:=@Nat.le_refl
abbrev UH:=@PyProof.Rows.callWith_type1
abbrev UI:=@List.mem_filterMap
abbrev UJ:=@List.mem_append_right
abbrev UK:=@PySem.sizeLine_eq
abbrev UL:=@List.size_toArray
abbrev UM:=@List.append_nil
abbrev UN:=@PySem.codeAny_mono
abbrev UO:=@PySem.wpAny_Call_Name_kw
abbrev UP:=@List.nodup_cons
abbrev UQ:=@List.of_mem_zip
abbrev UR:=@Option.isSome_iff_exists
abbrev US:=@List.length_take
abbrev UT:=@PySem.mem_of_lookup
abbrev UU:=@List.getElem?_append_right
abbrev UV:=@List.getElem?_replicate
abbrev UW:=@List.getElem?_append_left
abbrev UX:=@List.getElem?_map
abbrev UY:=@List.getElem?_take_of_lt
abbrev UZ:=@List.mem_of_getElem?
abbrev U0:=@List.length_append
abbrev U1:=@List.length_map
abbrev U2:=@PySem.noFill_tuple_add
abbrev U3:=@PySem.F.slot_tuple_add
abbrev U4:=@PySem.F.entry_tuple_add
abbrev U5:=@PySem.F.args_tuple_add_2
abbrev U6:=@Int.toNat_natCast
abbrev U7:=@Nat.min_le_right
abbrev U8:=@if_false
abbrev U9:=@if_true
abbrev Va:=@PySem.wpAny_field
abbrev Vb:=@PySem.wpAny_callSpecial?_slot
abbrev Vc:=@PyProof.Rows.slot_tuple_getitem
abbrev Vd:=@PySem.wpAny_call_entry
abbrev Ve:=@PySem.wpAny_typeOf
abbrev Vf:=@Bool.and_eq_true
abbrev Vg:=@PySem.wpAny_newObj_type
abbrev Vh:=@List.map_nil
abbrev Vi:=@List.map_cons
abbrev Vj:=@PyProof.Rows.subscriptTail_builtinR
abbrev Vk:=@PySem.Heap.get?_update_self
abbrev Vl:=@PySem.Heap.get?_update_other
abbrev Vm:=@List.length_set
abbrev Vn:=@PySem.Calls.callWith_builtin
abbrev Vo:=@List.replicate_succ
abbrev Vp:=@List.flatten_cons
abbrev Vq:=@Nat.le_succ
abbrev Vr:=@List.append_assoc
abbrev Vs:=@List.foldl_cons
abbrev Vt:=@PySem.call_meets
abbrev Vu:=@List.length_singleton
abbrev Vv:=@Bool.and_false
abbrev Vw:=@Array.getElem?_toList
abbrev Vx:=@Nat.succ_mul
abbrev Vy:=@List.nil_append
abbrev Vz:=@Nat.mul_comm
abbrev VA:=@decide_eq_true
abbrev VB:=@Nat.le_of_eq
abbrev VC:=@List.lookup_cons
abbrev VD:=@beq_self_eq_true
abbrev VE:=@Bool.false_eq_true
abbrev VF:=@List.length_cons
abbrev VG:=@Nat.lt_succ_self
abbrev VH:=@Nat.lt_succ_of_lt
abbrev VI:=@PySem.Heap.size_push
abbrev VJ:=@PySem.pushCells_keeps
abbrev VL:=@Option.bind_some
abbrev VM:=@PySem.codeAny_of_tree
abbrev VN:=@PySem.wpAny_askSetting
abbrev VO:=@PySem.wpAny_rule
abbrev VP:=@PySem.wpAny_of_eq
abbrev VQ:=@Nat.zero_le
abbrev VR:=@List.mem_singleton
abbrev VS:=@PySem.F.slot_tuple_iterator_next
abbrev VT:=@PySem.F.entry_tuple_iterator_next
abbrev VU:=@PySem.F.args_tuple_iterator_next_1
abbrev VV:=@PySem.wpAny_seqItems
abbrev VW:=@PySem.wpAny_setField
abbrev VX:=@PySem.Heap.SameBut.update
abbrev VY:=@PySem.Obj.data_mapFields
abbrev VZ:=@PySem.wpAny_pyIter_tuple
abbrev V0:=@List.not_mem_nil
abbrev V1:=@or_false
abbrev V2:=@PySem.Heap.get?_push_ne
abbrev V3:=@List.range_succ_eq_map
abbrev V4:=@List.map_map
abbrev V5:=@Nat.add_zero
abbrev V6:=@List.map_congr_left
abbrev V7:=@List.length_range
abbrev V8:=@List.length_nil
abbrev V9:=@List.cons.inj
abbrev Wa:=@List.cons_append
abbrev Wb:=@List.pairwise_iff_getElem
abbrev Wc:=@Array.getElem?_eq_some_iff
abbrev Wd:=@List.take_of_length_le
abbrev We:=@List.mem_map
abbrev Wf:=@Nat.le_of_lt_succ
abbrev Wg:=@Classical.byContradiction
abbrev Wh:=@List.nodup_range
abbrev Wi:=@List.getElem?_of_mem
abbrev Wj:=@List.mem_map_of_mem
abbrev Wl:=@List.take_append_drop
abbrev Wm:=@List.pairwise_append
abbrev Wn:=@List.pairwise_cons
abbrev Wo:=@List.map_append
abbrev Wp:=@List.map_take
abbrev Wq:=@List.map_drop
abbrev Wr:=@Array.getD_eq_getD_getElem?
abbrev Ws:=@Option.getD_some
abbrev Wt:=@List.getElem?_drop
abbrev Wu:=@List.mem_of_mem_take
abbrev Wv:=@Array.getElem?_eq_none_iff
abbrev Ww:=@List.nodup_nil
abbrev Wx:=@List.find?_cons
abbrev Wz:=@Nat.sub_self
abbrev WA:=@List.singleton_append
abbrev WB:=@Nat.zero_add
abbrev WC:=@Option.some.injEq
abbrev WD:=@List.pairwise_lt_range
abbrev WE:=@List.perm_ext_iff_of_nodup
abbrev WG:=@List.Pairwise.map
abbrev WH:=@Array.getElem?_eq_getElem
abbrev WI:=@List.all_eq_true
abbrev WJ:=@Int.toNat_of_nonneg
abbrev WK:=@Bool.not_true
abbrev WL:=@PySem.wpAny_forIn_list
abbrev WM:=@PySem.wpAny_setState_of
abbrev WN:=@Bool.and_self
abbrev WO:=@Array.mem_toList_iff
abbrev WQ:=@List.nodup_append
abbrev WR:=@PySem.wpAny_storeSet_of
abbrev WS:=@PySem.putSet_of
abbrev WT:=@Bool.not_false
abbrev WU:=@List.foldl_append
abbrev WV:=@PySem.codeAny_builtin
abbrev WW:=@PySem.Around.under_plainId
abbrev WX:=@PyProof.Rows.F.plain_set_update_loop
abbrev WY:=@PySem.plainId_quiet
abbrev WZ:=@PySem.F.called_set
abbrev W1:=@PySem.Code.quiet_builtin
abbrev W2:=@PySem.wpAny_pyIter_list
abbrev W3:=@PySem.Walks.list
abbrev W4:=@List.take_add_one
abbrev W5:=@PySem.W.KasT.kasWp_bind
abbrev W6:=@List.getElem?_eq_getElem
abbrev W7:=@List.getD_eq_getElem?_getD
abbrev W8:=@PySem.wpAny_setEntries_of
abbrev W9:=@PySem.wpAny_attempt
abbrev Xa:=@bne_self_eq_false
abbrev Xc:=@PySem.wpAny_setField_rec
abbrev Xd:=@PySem.wpAny_isInstance
abbrev Xe:=@PyProof.Rows.listUpdate_at
abbrev Xf:=@PyProof.Rows.get?_update_seq
abbrev Xg:=@PySem.wpAny_newList
abbrev Xh:=@PyProof.Rows.size_push'
abbrev Xi:=@PySem.size_of_entries
abbrev Xj:=@PySem.wpAny_dictEntries
abbrev Xk:=@PySem.F.slot_dict_setdefault
abbrev Xl:=@PySem.wpAny_dictEpoch
abbrev Xm:=@PySem.F.slot_dict_keyiterator_next
abbrev Xn:=@PySem.F.entry_dict_keyiterator_next
abbrev Xo:=@PySem.F.args_dict_keyiterator_next_1
abbrev Xp:=@PySem.wpAny_typeNameOfWhole_keyiter
abbrev Xq:=@List.getElem_of_mem
abbrev Xr:=@of_eq_true
abbrev Xs:=@eq_self
abbrev Xu:=@List.drop_eq_getElem_cons
abbrev Xv:=@List.drop_length
abbrev Xw:=@List.getElem?_range
abbrev Xx:=@List.getElem?_eq_none
abbrev Xy:=@decide_eq_true_eq
abbrev XA:=@Nat.min_le_left
abbrev XB:=@List.zip_cons_cons
abbrev XC:=@PySem.SeqAt.ReadsAll.length
abbrev XE:=@PySem.SeqAt.room_head
abbrev XF:=@List.eq_nil_of_length_eq_zero
abbrev XG:=@List.all_cons
abbrev XH:=@List.all_map
abbrev XI:=@List.any_map
abbrev XJ:=@PySem.Calls.call_function_entry
abbrev XM:=@PySem.Heap.size_update
abbrev XN:=@PyProof.Rows.entry_list_sort
abbrev XO:=@PySem.Heap.get?_update_ne
abbrev XQ:=@List.pairwise_map
abbrev XR:=@Int.le_antisymm
abbrev XS:=@List.getElem_mem
abbrev XT:=@List.length_pos_iff
abbrev XU:=@Bool.or_eq_true
abbrev XW:=@List.set_append_right
abbrev XX:=@List.filter_cons
abbrev XY:=@PySem.F.slot_list_iadd
abbrev XZ:=@PySem.F.entry_min_loop
abbrev X2:=@PySem.F.plain_min_loop
abbrev X3:=@PySem.wpAny_tryCatch
abbrev X6:=@decide_eq_decide
abbrev X7:=@List.ext_getElem?
abbrev X8:=@Int.pow_pos
abbrev X9:=@Int.mul_le_mul_of_nonneg_right
abbrev Ya:=@Bool.true_and
abbrev Yb:=@Bool.and_true
abbrev Yc:=@PySem.PassesOwn.never
abbrev Yd:=@Int.emod_nonneg
abbrev Ye:=@Int.emod_lt_of_pos
abbrev Yf:=@List.set_cons_succ
abbrev Yg:=@List.set_cons_zero
abbrev Yh:=@List.mem_flatMap
abbrev Yi:=@List.length_filter_le
abbrev Yj:=@List.Pairwise.filter
abbrev Yk:=@List.filter_map
abbrev Yl:=@List.range_succ
abbrev Ym:=@List.flatMap_append
abbrev Yn:=@List.flatMap_cons
abbrev Yo:=@List.flatMap_nil
abbrev Yp:=@Bool.eq_iff_iff
abbrev Yq:=@List.any_eq_true
abbrev Yr:=@of_decide_eq_true
abbrev Ys:=@List.map_id'
abbrev Yt:=@Int.min_eq_left
abbrev Yu:=@Int.max_eq_right
abbrev Yv:=@List.dropLast_concat_getLast
abbrev Yw:=@beq_iff_eq
abbrev Yx:=@List.cons.injEq
abbrev Yy:=@Function.comp_def
abbrev Yz:=@Nat.mul_le_mul_right
abbrev YA:=@and_true
abbrev YB:=@List.mem_iff_getElem
abbrev YC:=@List.length_zip
abbrev YD:=@List.map_flatMap
abbrev YE:=@List.map_eq_flatMap
abbrev YF:=@List.filter_append
abbrev YG:=@Nat.pow_succ
abbrev YH:=@Nat.pow_le_pow_right
abbrev YI:=@List.filter_eq_nil_iff
abbrev YJ:=@Nat.lt_of_le_of_lt
abbrev YK:=@Nat.mul_le_mul
abbrev YL:=@Nat.two_pow_pos
abbrev YM:=@Nat.or_lt_two_pow
abbrev YN:=@Nat.testBit_and
abbrev YO:=@Nat.eq_of_testBit_eq
abbrev YQ:=@Nat.testBit_or
abbrev YR:=@Nat.testBit_two_pow
abbrev YS:=@Nat.testBit_eq_decide_div_mod_eq
abbrev YT:=@Nat.testBit_lt_two_pow
abbrev YU:=@List.countP_eq_length_filter
abbrev YV:=@Nat.shiftRight_eq_div_pow
abbrev YW:=@Int.eq_ofNat_of_zero_le
abbrev YX:=@List.Sublist.refl
variable{fd:PySem.FuncData}{ks:List 0e5}{n:Nat}{f:PySem.Addr}{pins:List (PySem.Addr×PySem.Obj)}{Q:PySem.Value->PySem.Shared->Prop}{α:List PySem.Addr}{k:List Int}{ls:List 0e5}{E:PySem.Value->PySem.Shared->Prop}{i:Nat}{s:PySem.Shared}{a:PySem.Addr}{m:Nat}{K:PySem.W.Frag}{w:PySem.World}{x:PySem.Str}{pos:PySem.Pos}{ps:List (Int×PySem.Value)}{ns:List Int}{es:Array (Int×PySem.Value)}{μ:List (Nat×Int×PySem.Value)}{A:PySem.Around}{h:PySem.Heap}{T:Int->Int->Option Nat}{kvs:List 14e4}{prog:PySem.Program}{e:PySem.Expr}{mg:PySem.Str->Option PySem.Value}{c:Nat}{us:List PySem.Value}{gens:List Comprehension}{scope:PySem.Scope}{P:PySem.Program}{N:List PySem.Str}{its:List PySem.Value}{tg:PySem.Expr}{XP:(PySem.Str->Option PySem.Value)->PySem.Heap->Prop}{l:List Int}{op:PySem.CmpOp}{q:Int}{u:PySem.Value}{px:PySem.Pos}{j:Nat}{β:Type}{st:PySem.Stmt}{t':Nat}{b:Bool}{env:PySem.Env}{apos:PySem.Pos}{acc:PySem.Addr}{fp:List PySem.Addr}{Nc:List PySem.Str}{neg:Bool}{it:PySem.Addr}{pos':PySem.Pos}{base:PySem.Heap}{mask:Nat}{elts:List PySem.Expr}{qual:PySem.Str}{pos1:PySem.Pos}{φ:PySem.Heap->Prop}{body:List PySem.Stmt}{z:Nat×Int×PySem.Value}{ch:List PySem.Addr}{h':PySem.Heap}{C:Int->Int->Prop}{osl:Array (Option PySem.Value)}{owner:Array 5e0}{g:Comprehension}{pos2:PySem.Pos}{loose:List PySem.Str}{rest:List PySem.Expr}{YP:PySem.World->PySem.Heap->Prop}{elt:PySem.Expr}{tn:String}{kw:List (PySem.Str×PySem.Value)}{ep:Nat}{cl:List (PySem.Str×PySem.Addr)}{iter:PySem.Expr}{sc:PySem.Scope}{hs:List Int}{g':Array GenState}{J:Nat->PySem.Heap->Prop}{I:PySem.Addr}{k1:Nat}{vl:PySem.Value}{ob:PySem.Expr}{tk:Nat}
namespace L2
open PySem PySem.Spec PyProof.Rows
def fy(s:Stmt):Arguments:=match s with
 |.FunctionDef _ a _ _ _ _ _ _ _ _=>a
 |_=>{posonlyargs:=[],args:=[],vararg:=none,kwonlyargs:=[],kw_defaults:=[],kwarg:=none,defaults:=[]}
def dr(s:Stmt):List Stmt:=match s with
 |.FunctionDef _ _ b _ _ _ _ _ _ _=>b
 |_=>[]
def ar(s:Stmt):Scope:=match s with
 |.FunctionDef _ _ _ _ _ _ S _ _ _=>S
 |_=>{kind:=.function,names:=[],isGenerator:=false,isCoroutine:=false}
end L2
namespace Lw
open PySem PySem.Spec PyProof.Rows L2
def top(i:Nat):Stmt:=PySem.Challenge.pw_rootwebs_k42_whole_stars.main.body.getD i (.Pass ⟨0,0,0,0⟩)
abbrev kz:Stmt:=top 8
abbrev fA:Stmt:=top 9
abbrev kA:Stmt:=top 10
abbrev gW:Stmt:=top 11
abbrev gU:Stmt:=top 12
abbrev dH:Stmt:=top 13
abbrev iQ:Stmt:=top 18
abbrev h7:Stmt:=top 19
abbrev i6:Stmt:=top 20
abbrev dj:Stmt:=top 21
abbrev fR:Stmt:=top 22
abbrev fQ:Stmt:=top 23
abbrev jX:Stmt:=top 24
abbrev cW:Stmt:=top 25
abbrev gk:Stmt:=top 26
abbrev e6:Stmt:=top 27
abbrev i8:Stmt:=top 28
abbrev ky:Stmt:=top 29
abbrev iN:Stmt:=top 30
abbrev iP:Stmt:=top 31
abbrev jC:Stmt:=top 32
abbrev lK:Stmt:=top 37
abbrev lJ:Stmt:=top 40
abbrev nk:Stmt:=top 39
abbrev jW:Stmt:=top 38
abbrev kv:Stmt:=top 36
abbrev k6:Stmt:=top 41
abbrev h8:Stmt:=top 42
abbrev lI:Stmt:=top 43
abbrev dU:Stmt:=top 45
abbrev gY:Stmt:=top 44
abbrev lH:Stmt:=top 46
abbrev gR:Stmt:=top 47
abbrev kx:Stmt:=top 48
abbrev gS:Stmt:=top 50
abbrev gX:Stmt:=top 51
abbrev i9:Stmt:=top 52
abbrev e5:Stmt:=top 53
abbrev jY:Stmt:=top 55
abbrev eG:Stmt:=top 54
abbrev hZ:Stmt:=top 56
abbrev i7:Stmt:=top 57
abbrev k7:Stmt:=top 58
abbrev gT:Stmt:=top 60
abbrev iO:Stmt:=top 59
abbrev hX:Stmt:=top 61
abbrev jB:Stmt:=top 62
abbrev jA:Stmt:=top 64
abbrev gm:Stmt:=top 66
abbrev jD:Stmt:=top 67
abbrev ia:Stmt:=top 68
abbrev jE:Stmt:=top 69
abbrev e7:Stmt:=top 70
abbrev dw:Stmt:=top 71
abbrev ez:Stmt:=top 72
abbrev cN:Stmt:=top 73
abbrev eA:Stmt:=top 74
abbrev fB:Stmt:=top 75
abbrev cI:Stmt:=top 76
abbrev lz:Stmt:=top 77
def en(P:Params)(n:Str)(t:Tok)(v:Value):DictEntry:=⟨PyData.keyHash P n,.str n t,v⟩
def fo (n:Str) (s:Stmt) (m:Str) (t:Tok) (c:Addr):Obj:=⟨.type "function",none,.func (W.fnOf n n (fy s) (dr s) (ar s) .none .none .none (.str m t) none (.ref c) .none),#[]⟩
def fV0(n:Str)(s:Stmt)(c:Addr):Obj:=fo n s "rootwebs.roots" 353 c
def fW0(n:Str)(s:Stmt)(c:Addr):Obj:=fo n s "rootwebs.webs" 461 c
def fX0(n:Str)(s:Stmt)(c:Addr):Obj:=fo n s "rootwebs.stars" 561 c
def fY0(n:Str)(s:Stmt)(c:Addr):Obj:=fo n s "law_rootwebs_k42_whole_stars" 657 c
def fZ0(n:Str)(s:Stmt)(c:Addr):Obj:=fo n s "rootwebs.kinds" 307 c
noncomputable def co (n:Str) (t:Tok) (l k i:Int) (a:Addr) (p:Bool) (u:Nat):Obj:=⟨.type "code",none,.fields #[.str n t,.str n (t+1),.str "/claim/cut.py" (t+2),.int l 0,.int k 0,.int 0 0,.int 0 0,.int 3 0,.ref a,.bool true,.int i 0,.ref (a+1),.none,bif p then .ref (a+2) else .none,bif p then .ref (a+3) else .none,.ref (bif p then a+4 else a+2),.int u 0,.int l 0,.str "/claim/cut.py" (u+1)],#[]⟩
noncomputable def Kz (P:Params):W.Frag:=[(3,⟨.type "dict",none,.dict #[en P "__name__" 165 (.str "law_rootwebs_k42_whole_stars" 657),en P "__doc__" 166 .none,en P "__package__" 167 .none,en P "__loader__" 168 (.builtin "__main__.__loader__#opaque"),en P "__spec__" 169 .none,en P "__annotations__" 170 (.ref 6),en P "__builtins__" 171 (.ref 4),en P "__file__" 173 (.str "/claim/cut.py" 172),en P "__cached__" 174 .none,en P "RootError" 206 (.ref 24),en P "NoPlace" 222 (.ref 37),en P "NoNumber" 238 (.ref 49),en P "NoRoot" 254 (.ref 61),en P "NoWeb" 279 (.ref 80),en P "TooGreat" 306 (.ref 99),en P "is_whole" 315 (.ref 108),en P "is_whole_from" 324 (.ref 115),en P "is_place" 332 (.ref 122),en P "is_places" 338 (.ref 127),en P "is_rising" 344 (.ref 132),en P "is_rising_places" 352 (.ref 139),en P "MOST_TIES" 356 (.int 12 355),en P "MOST_ROOTS" 358 (.int 300 357),en P "ROOT_STEPS" 360 (.int 2 359),en P "check_ties" 368 (.ref 146),en P "check_roots" 375 (.ref 153),en P "steps_at" 381 (.ref 158),en P "ways_between" 387 (.ref 163),en P "clashes_at" 393 (.ref 168),en P "settled_at" 399 (.ref 173),en P "is_made" 405 (.ref 178),en P "choices_by" 411 (.ref 183),en P "root_choices" 419 (.ref 190),en P "chosen_ties" 425 (.ref 195),en P "roots_by" 431 (.ref 200),en P "roots_of" 438 (.ref 207),en P "roots_many" 445 (.ref 214),en P "first_root" 452 (.ref 221),en P "all_roots" 460 (.ref 228),en P "MOST_PLACES" 464 (.int 6 463),en P "MOST_STEPS" 466 (.int 6 465),en P "web_good" 475 (.ref 235),en P "is_many" 482 (.ref 242),en P "is_ties" 488 (.ref 247),en P "is_tie" 496 (.ref 254),en P "is_pair" 504 (.ref 261),en P "web_of" 510 (.ref 266),en P "check_place" 518 (.ref 273),en P "is_tied" 527 (.ref 280),en P "fars_from" 533 (.ref 285),en P "next_places" 539 (.ref 290),en P "star_of" 547 (.ref 297),en P "steps_web" 553 (.ref 302),en P "two_step" 560 (.ref 309),en P "knot_good" 568 (.ref 314),en P "fits_knot" 574 (.ref 319),en P "knots_of" 580 (.ref 324),en P "great_knots" 586 (.ref 329),en P "stars_good" 592 (.ref 334),en P "is_even" 598 (.ref 339),en P "check_stars" 605 (.ref 346),en P "stars_of" 611 (.ref 351),en P "web_by" 617 (.ref 356),en P "holds_good" 625 (.ref 363),en P "joined_by" 631 (.ref 368),en P "first_stars" 639 (.ref 375),en P "held_many" 646 (.ref 382),en P "root_good" 656 (.ref 389),en P "_law_cell_at" 666 (.ref 396),en P "_law_next" 673 (.ref 403),en P "_law_pen_of" 681 (.ref 410),en P "_law_draw" 690 (.ref 417),en P "_law_web_of" 696 (.ref 422),en P "_law_drawn_web" 702 (.ref 427),en P "_law_near_of" 708 (.ref 432),en P "_law_two_step_of" 714 (.ref 437),en P "_law_any_web" 720 (.ref 442),en P "_law_few_ties" 730 (.ref 449),en P "_law_one_right" 736 (.ref 454),en P "law" 742 (.ref 459)] 80,#[]⟩),
 (107,co "is_whole" 309 20 1 181 102 true 313),
 (108,fZ0 "is_whole" kz 107),
 (114,co "is_whole_from" 316 22 3 181 109 true 322),
 (115,fZ0 "is_whole_from" fA 114),
 (121,co "is_place" 325 24 2 181 116 true 330),
 (122,fZ0 "is_place" kA 121),
 (126,co "is_places" 333 26 2 181 123 false 336),
 (127,fZ0 "is_places" gW 126),
 (131,co "is_rising" 339 28 1 181 128 false 342),
 (132,fZ0 "is_rising" gU 131),
 (138,co "is_rising_places" 345 30 2 181 133 true 350),
 (139,fZ0 "is_rising_places" dH 138),
 (145,co "check_ties" 361 36 1 181 140 true 366),
 (146,fV0 "check_ties" iQ 145),
 (152,co "check_roots" 369 40 1 181 147 true 373),
 (153,fV0 "check_roots" h7 152),
 (157,co "steps_at" 376 43 1 181 154 false 379),
 (158,fV0 "steps_at" i6 157),
 (162,co "ways_between" 382 50 2 181 159 false 385),
 (163,fV0 "ways_between" dj 162),
 (167,co "clashes_at" 388 60 2 181 164 false 391),
 (168,fV0 "clashes_at" fR 167),
 (172,co "settled_at" 394 67 1 181 169 false 397),
 (173,fV0 "settled_at" fQ 172),
 (177,co "is_made" 400 72 2 181 174 false 403),
 (178,fV0 "is_made" jX 177),
 (182,co "choices_by" 406 74 3 181 179 false 409),
 (183,fV0 "choices_by" cW 182),
 (189,co "root_choices" 412 89 2 181 184 true 417),
 (190,fV0 "root_choices" gk 189),
 (194,co "chosen_ties" 420 91 2 181 191 false 423),
 (195,fV0 "chosen_ties" e6 194),
 (199,co "roots_by" 426 93 2 181 196 false 429),
 (200,fV0 "roots_by" i8 199),
 (206,co "roots_of" 432 96 1 181 201 true 436),
 (207,fV0 "roots_of" ky 206),
 (213,co "roots_many" 439 98 1 181 208 true 443),
 (214,fV0 "roots_many" iN 213),
 (220,co "first_root" 446 101 1 181 215 true 450),
 (221,fV0 "first_root" iP 220),
 (227,co "all_roots" 453 104 1 181 222 true 458),
 (228,fV0 "all_roots" jC 227),
 (234,co "web_good" 467 112 1 181 229 true 473),
 (235,fW0 "web_good" kv 234),
 (241,co "is_many" 476 117 1 181 236 true 480),
 (242,fW0 "is_many" lK 241),
 (246,co "is_ties" 483 119 2 181 243 false 486),
 (247,fW0 "is_ties" jW 246),
 (253,co "is_tie" 489 121 2 181 248 true 494),
 (254,fW0 "is_tie" nk 253),
 (260,co "is_pair" 497 123 2 181 255 true 502),
 (261,fW0 "is_pair" lJ 260),
 (265,co "web_of" 505 125 2 181 262 false 508),
 (266,fW0 "web_of" k6 265),
 (272,co "check_place" 511 132 2 181 267 true 516),
 (273,fW0 "check_place" h8 272),
 (279,co "is_tied" 519 135 3 181 274 true 525),
 (280,fW0 "is_tied" lI 279),
 (284,co "fars_from" 528 137 2 181 281 false 531),
 (285,fW0 "fars_from" gY 284),
 (289,co "next_places" 534 149 2 181 286 false 537),
 (290,fW0 "next_places" dU 289),
 (296,co "star_of" 540 151 2 181 291 true 545),
 (297,fW0 "star_of" lH 296),
 (301,co "steps_web" 548 154 2 181 298 false 551),
 (302,fW0 "steps_web" gR 301),
 (308,co "two_step" 554 163 1 181 303 true 558),
 (309,fW0 "two_step" kx 308),
 (313,co "knot_good" 563 166 2 181 310 false 566),
 (314,fX0 "knot_good" gS 313),
 (318,co "fits_knot" 569 170 3 181 315 false 572),
 (319,fX0 "fits_knot" gX 318),
 (323,co "knots_of" 575 172 1 181 320 false 578),
 (324,fX0 "knots_of" i9 323),
 (328,co "great_knots" 581 177 1 181 325 false 584),
 (329,fX0 "great_knots" e5 328),
 (333,co "stars_good" 587 180 1 181 330 false 590),
 (334,fX0 "stars_good" eG 333),
 (338,co "is_even" 593 187 2 181 335 false 596),
 (339,fX0 "is_even" jY 338),
 (345,co "check_stars" 599 190 1 181 340 true 603),
 (346,fX0 "check_stars" hZ 345),
 (350,co "stars_of" 606 193 1 181 347 false 609),
 (351,fX0 "stars_of" i7 350),
 (355,co "web_by" 612 195 1 181 352 false 615),
 (356,fX0 "web_by" k7 355),
 (362,co "holds_good" 618 198 2 181 357 true 623),
 (363,fX0 "holds_good" iO 362),
 (367,co "joined_by" 626 200 1 181 364 false 629),
 (368,fX0 "joined_by" gT 367),
 (374,co "first_stars" 632 203 1 181 369 true 637),
 (375,fX0 "first_stars" hX 374),
 (381,co "held_many" 640 206 1 181 376 true 644),
 (382,fX0 "held_many" jB 381),
 (388,co "root_good" 649 209 2 181 383 true 654),
 (389,fo "root_good" jA "rootwebs.looks" 647 388),
 (395,co "_law_cell_at" 659 212 2 181 390 true 664),
 (396,fY0 "_law_cell_at" gm 395),
 (402,co "_law_next" 667 216 1 181 397 true 671),
 (403,fY0 "_law_next" jD 402),
 (409,co "_law_pen_of" 674 219 1 181 404 true 679),
 (410,fY0 "_law_pen_of" ia 409),
 (416,co "_law_draw" 682 222 2 181 411 true 688),
 (417,fY0 "_law_draw" jE 416),
 (421,co "_law_web_of" 691 229 2 181 418 false 694),
 (422,fY0 "_law_web_of" e7 421),
 (426,co "_law_drawn_web" 697 231 2 181 423 false 700),
 (427,fY0 "_law_drawn_web" dw 426),
 (431,co "_law_near_of" 703 238 2 181 428 false 706),
 (432,fY0 "_law_near_of" ez 431),
 (436,co "_law_two_step_of" 709 240 1 181 433 false 712),
 (437,fY0 "_law_two_step_of" cN 436),
 (441,co "_law_any_web" 715 247 2 181 438 false 718),
 (442,fY0 "_law_any_web" eA 441),
 (448,co "_law_few_ties" 721 261 3 181 443 true 728),
 (449,fY0 "_law_few_ties" fB 448),
 (453,co "_law_one_right" 731 266 2 181 450 false 734),
 (454,fY0 "_law_one_right" cI 453),
 (458,co "law" 737 283 1 181 455 false 740),
 (459,fY0 "law" lz 458)]
noncomputable def Qz:Program:=W.view PySem.Challenge.pw_rootwebs_k42_whole_stars [1,2,3,4,5,6,8,9,10,11,12,13,15,16,17,18,19,20,21,22,23,24,25,26,27,28,29,30,31,32,34,35,36,37,38,39,40,41,42,43,44,45,46,47,48,50,51,52,53,54,55,56,57,58,59,60,61,62,64,66,67,68,69,70,71,72,73,74,75,76,77]
noncomputable abbrev Hz:W.Hook:=W.kHook Kz [3,107,108,114,115,121,122,126,127,131,132,138,139,145,146,152,153,157,158,162,163,167,168,172,173,177,178,182,183,189,190,194,195,199,200,206,207,213,214,220,221,227,228,234,235,241,242,246,247,253,254,260,261,265,266,272,273,279,280,284,285,289,290,296,297,301,302,308,309,313,314,318,319,323,324,328,329,333,334,338,339,345,346,350,351,355,356,362,363,367,368,374,375,381,382,388,389,395,396,402,403,409,410,416,417,421,422,426,427,431,432,436,437,441,442,448,449,453,454,458,459] λ_=>by kernel_rfl
theorem MM:PySem.Challenge.rw_rootwebs_k42_whole_stars.wellSaid=true:=by kernel_rfl
noncomputable abbrev Xz(s:Shared):Bool:=W.xlAt Qz [] s&&W.recOk (W.RowW.records (W.OpenRow.toRowW (W.OpenLaw.row PySem.Challenge.rw_rootwebs_k42_whole_stars))) s
theorem Bm{Y α β γ δ1 δ2 δ3 δ4 δ5 δ6 ε:Type _}{o:Option Y}(F:Y->α×β×γ×δ1×δ2×δ3×δ4×δ5×δ6)(G:Y->ε)(g:α×β×γ×δ1×δ2×δ3×δ4×δ5×δ6)(v:ε)
  (H:o.map (λs=>(F s).1)=some g.1) (c:o.map (λs=>(F s).2.1)=some g.2.1) (d:o.map (λs=>(F s).2.2.1)=some g.2.2.1) (f:o.map (λs=>(F s).2.2.2.1)=some g.2.2.2.1)
  (i:o.map (λs=>((F s).2.2.2.2.1,(F s).2.2.2.2.2.1,(F s).2.2.2.2.2.2.1))=some (g.2.2.2.2.1,g.2.2.2.2.2.1,g.2.2.2.2.2.2.1)) (j:o.map (λs=>((F s).2.2.2.2.2.2.2.1,(F s).2.2.2.2.2.2.2.2))=some (g.2.2.2.2.2.2.2.1,g.2.2.2.2.2.2.2.2))
  (h:o.map G=some v):o.map (λs=>(F s,G s))=some (g,v):=by
 cases o with
 |none=>cases h
 |some s=>
  have E:=Prod.mk.inj (TV i);have a:=Prod.mk.inj E.2;have b:=Prod.mk.inj (TV j);have e:F s=g:=TX (TV H) (TX (TV c) (TX (TV d) (TX (TV f) (TX E.1 (TX a.1 (TX a.2 (TX b.1 b.2)))))));show some (F s,G s)=some (g,v);rw[e,TV h]
noncomputable abbrev Oz(w:World):=W.openEnds PySem.treeTable PySem.Challenge.rw_rootwebs_k42_whole_stars.row.prog w 6320
noncomputable abbrev Sz:=W.openSeen Qz [] (PySem.importedModules PySem.Challenge.rw_rootwebs_k42_whole_stars.row.prog.main.body) Xz true
noncomputable abbrev Tz:=W.openGood Qz []
open PySem PySem.W PySem.Calls PyProof.Rows in
theorem Jb:∀w,(Oz w).map (λs=>seen ((recsOf Qz).map (·.name)) (ownsOf Qz) [] {s with gens:=#[]})=some (expectedOf Qz):=λw=>by kernel_rfl
open PySem PySem.W PySem.Calls PyProof.Rows in
theorem Ja:∀w,(Oz w).map (λs=>s.heap.bltView)=some bltViewBooted:=λw=>by kernel_rfl
open PySem PySem.W PySem.Calls PyProof.Rows in
theorem I9:∀w,(Oz w).map (λs=>s.heap.keysOk (looseW Qz []) ((recsOf Qz).map (·.name)) ((litsOf Qz).map 3e0) ((clssOf Qz (looseW Qz [])).map (·.name))&&s.heap.accountedOkI (PySem.importedModules PySem.Challenge.rw_rootwebs_k42_whole_stars.row.prog.main.body)&&s.heap.isNs mainGlobals&&s.heap.isNs builtinsNs&&tablesOk Qz 3e3&&Xz s&&(if true then s.gens.size == 0 else !leftWithCleanup s.gens))=some true:=λw=>by kernel_rfl
open PySem PySem.W PySem.Calls PyProof.Rows in
theorem I0:∀w,(Oz w).map (λs=>tabsOk Qz s)=some true:=λw=>by kernel_rfl
open PySem PySem.W PySem.Calls PyProof.Rows in
theorem IZ:∀w,(Oz w).map (λs=>(pinSeenD Qz (drecsOf Qz) s,plainSeenE Qz (looseW Qz []) s,plainSeenD Qz [] s))=some (pinGoodD (drecsOf Qz),plainGoodE Qz (looseW Qz []),plainGoodD Qz []):=λw=>by kernel_rfl
open PySem PySem.W PySem.Calls PyProof.Rows in
theorem IY:∀w,(Oz w).map (λs=>(wideSeen Qz s,clsSeenW Qz [] s))=some (wideGood Qz,clsGoodW Qz []):=λw=>by kernel_rfl
theorem IX:∀w,(Oz w).map (W.Hook.obs Hz)=some (W.Hook.val Hz w):=λw=>by kernel_rfl
theorem MN:W.LeftO PySem.Challenge.rw_rootwebs_k42_whole_stars.row.prog Qz [] Xz (W.Hook.obs Hz) (W.Hook.val Hz) 6320:=λw=>Bm Sz (W.Hook.obs Hz) Tz (W.Hook.val Hz w) (Jb w) (Ja w) (I9 w) (I0 w) (IZ w) (IY w) (IX w)
end Lw
namespace Lv
def uS(a b:Nat):Nat:=if a<b then b*(b-1) / 2+a else a*(a-1) / 2+b
noncomputable def AR:List (Nat×Nat):=(List.range 6).flatMap λb=>(List.range b).map λa=>(a,b)
noncomputable def R6(p:Nat×Nat):Nat×List (Nat×Nat):=(uS p.1 p.2,((List.range 6).filter λc=>c != p.1&&c != p.2).map λc=>(uS p.1 c,uS c p.2))
noncomputable def tab:List (Nat×List (Nat×Nat)):=[(0,[(1,2),(3,4),(6,7),(10,11)]),(1,[(0,2),(3,5),(6,8),(10,12)]),(2,[(0,1),(4,5),(7,8),(11,12)]),(3,[(0,4),(1,5),(6,9),(10,13)]),(4,[(0,3),(2,5),(7,9),(11,13)]),(5,[(1,3),(2,4),(8,9),(12,13)]),(6,[(0,7),(1,8),(3,9),(10,14)]),(7,[(0,6),(2,8),(4,9),(11,14)]),(8,[(1,6),(2,7),(5,9),(12,14)]),(9,[(3,6),(4,7),(5,8),(13,14)]),(10,[(0,11),(1,12),(3,13),(6,14)]),(11,[(0,10),(2,12),(4,13),(7,14)]),(12,[(1,10),(2,11),(5,13),(8,14)]),(13,[(3,10),(4,11),(5,12),(9,14)]),(14,[(6,10),(7,11),(8,12),(9,13)])]
theorem M4:tab=AR.map R6:=by decide +kernel
def ES(x:Nat)(t:Nat×List (Nat×Nat)):Bool:=x.testBit t.1 || t.2.any λp=>x.testBit p.1&&x.testBit p.2
def sz(x:Nat):Nat:=tab.countP (ES x)
def yS(x:Nat):Nat:=tab.foldl (λs t=>2*s+(ES x t).toNat) 0
def B7:Nat->Nat->List Nat->List Nat
 |0,x,a=>if Nat.ble (sz x) 9=true then x::a else a
 |i+1,x,a=>if Nat.ble (sz x) 9=true then B7 i x (B7 i (x+2^i) a) else a
def Tj(n:Nat)(acc:List Nat):List Nat:=match n with
 |0=>0::acc
 |y+1=>(y+1)::acc
noncomputable def Ds:List (List Nat):=[[1,6,24,192,3072],[2,5,40,320,5120],[4,3,48,384,6144],[8,17,34,576,9216],[16,9,36,640,10240],[32,10,20,768,12288],[64,129,258,520,17408],[128,65,260,528,18432],[256,66,132,544,20480],[512,72,144,288,24576],[1024,2049,4098,8200,16448],[2048,1025,4100,8208,16512],[4096,1026,2052,8224,16640],[8192,1032,2064,4128,16896],[16384,1088,2176,4352,8704]]
theorem Cy:Ds=tab.map λt=>2^t.1::t.2.map λp=>2^p.1 ||| 2^p.2:=by decide +kernel
def Ir(x:Nat)(s:List Nat):Bool:=@List.rec Nat (λ_=>Bool) false (λm _ i=>@Bool.rec (λ_=>Bool) i true (Nat.beq (Nat.land x m) m)) s
def P2(x:Nat)(T:List (List Nat)):Nat:=@List.rec (List Nat) (λ_=>Nat) 0 (λt _ i=>@Bool.rec (λ_=>Nat) i (Nat.succ i) (Ir x t)) T
def FG(x:Nat)(T:List (List Nat)):Nat->Nat:=@List.rec (List Nat) (λ_=>Nat->Nat) (λs=>s) (λt _ i s=>i (Nat.add (Nat.mul 2 s) (@Bool.rec (λ_=>Nat) 0 1 (Ir x t)))) T
noncomputable def Dy:Nat->Nat->List Nat->List Nat
 |0,x,a=>@Bool.rec (λ_=>List Nat) a (Tj (FG x Ds 0) a) (Nat.ble (P2 x Ds) 9)
 |i+1,x,a=>@Bool.rec (λ_=>List Nat) a (Dy i x (Dy i (Nat.add x (Nat.pow 2 i)) a)) (Nat.ble (P2 x Ds) 9)
def Mo(m:Nat)(l:List Nat):List Nat:=@List.rec Nat (λ_=>List Nat) [] (λx _ i=>@Bool.rec (λ_=>List Nat) (x::i) i (Nat.beq (Nat.land x m) 0)) l
def PR(m:Nat)(l:List Nat):List Nat:=@List.rec Nat (λ_=>List Nat) [] (λx _ i=>@Bool.rec (λ_=>List Nat) i (x::i) (Nat.beq (Nat.land x m) 0)) l
def uZ:Nat->List Nat->Bool
 |0,l=>Nat.ble l.length 63
 |n+1,l=>@Bool.rec (λ_=>Bool) (@Bool.rec (λ_=>Bool) false (uZ n (PR (Nat.pow 2 n) l)) (uZ n (Mo (Nat.pow 2 n) l))) true (Nat.ble l.length 63)
theorem Px:uZ 15 (Dy 15 0 [])=true:=by decide +kernel
end Lv
namespace L2
open PySem PySem.Spec PyProof.Rows
abbrev wX:=Sum Int Str
def Mc:wX->Value->Bool
 |.inl k,v=>Value.isInt k v
 |.inr x,v=>Value.isStrOf x v
def SW(w:World):wX->Int
 |.inl k=>hashInt k
 |.inr x=>hashStr w x
theorem dv:∀{k:wX}{v:Value},Mc k v=true->(∃i t,k=Sum.inl i/\v=Value.int i t)\/(∃x t,k=Sum.inr x/\v=Value.str x t)
 |.inl i,v,h=>by
  obtain⟨t,e⟩:=Value.isInt_shape (k:=i) (v:=v) h;exact .inl ⟨i,t,rfl,e⟩
 |.inr x,v,h=>by
  obtain⟨t,e⟩:=Value.isStrOf_shape (x:=x) (v:=v) h;exact .inr ⟨x,t,rfl,e⟩
theorem O0(a b:Int):decide ((Sum.inl a:wX)=Sum.inl b)=(a == b):=by
 by_cases e:a=b
 ·subst e;simp
 ·have h:¬ (Sum.inl a:wX)=Sum.inl b:=λq=>e (Sum.inl.inj q);rw[TY h];exact(TZ.mpr e).symm
theorem OX(a b:Str):decide ((Sum.inr a:wX)=Sum.inr b)=decide (a=b):=by
 by_cases e:a=b
 ·subst e;simp
 ·have h:¬ (Sum.inr a:wX)=Sum.inr b:=λq=>e (Sum.inr.inj q);rw[TY h,TY e]
theorem OZ(a:Int)(b:Str):decide ((Sum.inl a:wX)=Sum.inr b)=false:=TY (λq=>nomatch q)
theorem OY(a:Str)(b:Int):decide ((Sum.inr a:wX)=Sum.inl b)=false:=TY (λq=>nomatch q)
noncomputable def xH(prog:Program)(w:World):PySem.KeyKind prog w wX where
 is:=Mc
 hash:=SW w
 inj:=λv a b n B=>by
  rcases dv n with⟨i,t,rfl,rfl⟩|⟨x,t,rfl,rfl⟩
  ·rcases dv B with ⟨j, u, rfl, e⟩ | ⟨y, u, rfl, e⟩
   ·injection e with d _;rw[d]
   ·exact nomatch e
  ·rcases dv B with ⟨j, u, rfl, e⟩ | ⟨y, u, rfl, e⟩
   ·exact nomatch e
   ·injection e with d _;rw[d]
 byValue:=λk v h=>by
  rcases dv h with⟨i,t,rfl,rfl⟩|⟨x,t,rfl,rfl⟩ <;> rfl
 pyHash:=λV h=>by
  rcases dv V with⟨i,t,rfl,rfl⟩|⟨x,t,rfl,rfl⟩
  ·exact wpAny_pyHash_int h
  ·exact wpAny_pyHash_str h
 eqBool:=λU V h=>by
  rcases dv U with⟨i,t,rfl,rfl⟩|⟨x,t,rfl,rfl⟩
  ·rcases dv V with ⟨j, u, rfl, rfl⟩ | ⟨y, u, rfl, rfl⟩
   ·rw[O0]at h;exact wpAny_eqBool_int h
   ·rw[OZ]at h;exact SeqAt.EqAt.int_str i t y u _ _ _ _ h
  ·rcases dv V with ⟨j, u, rfl, rfl⟩ | ⟨y, u, rfl, rfl⟩
   ·rw[OY]at h;exact SeqAt.EqAt.str_int x t j u _ _ _ _ h
   ·rw[OX]at h;exact wpAny_eqBool_str h
 «strs»:=λk x t v h=>by
  rcases dv h with⟨i,u,rfl,e⟩|⟨y,u,rfl,e⟩
  ·exact nomatch e
  ·injection e with d _
   subst d;cases v <;> rfl
inductive V where
 |non|bl (b:Bool)|int (i:Int)|str (x:Str)|byt (b:Array UInt8)|flt (b:UInt64)|ref (a:Addr)|ty (n:String)
 deriving DecidableEq
def cX:V->Value->Prop
 |.non,u=>u=Value.none
 |.bl b,u=>u=Value.bool b
 |.int i,u=>∃t,u=Value.int i t
 |.str x,u=>∃t,u=Value.str x t
 |.byt b,u=>∃t,u=Value.bytes b t
 |.flt b,u=>∃t,u=Value.float b t
 |.ref a,u=>u=Value.ref a
 |.ty n,u=>u=Value.type n
abbrev bA:List V->List Value->Prop:=Paired cX
theorem bA.length{xs:List V}(r:bA xs us):xs.length=us.length:=Paired.length r
theorem bA.get:∀{xs:List V}{us:List Value}{i:Nat}{x:V},bA xs us->xs[i]?=some x->∃u,us[i]?=some u/\cX x u
 |_,_,_,_,.nil,e=>by simp at e
 |_,_,0,_,.cons r _,e=>by simp at e;subst e;exact⟨_,rfl,r⟩
 |_,_,i+1,x,.cons _ t,e=>by
  obtain⟨u,h1,h2⟩:=bA.get (i:=i) (x:=x) t (by simpa using e);exact⟨u,by simpa using h1,h2⟩
theorem bA.set{x:V}{u:Value}(r:cX x u):∀{xs:List V}{us:List Value}(i:Nat),bA xs us->bA (xs.set i x) (us.set i u)
 |_,_,_,.nil=>.nil
 |_,_,0,.cons _ t=>.cons r t
 |_,_,i+1,.cons q t=>.cons q (bA.set r i t)
theorem bA.append:∀{xs ys:List V}{us ws:List Value},bA xs us->bA ys ws->bA (xs++ys) (us++ws)
 |_,_,_,_,.nil,s=>s
 |_,_,_,_,.cons r t,s=>.cons r (bA.append t s)
theorem bA.take:∀{xs:List V}{us:List Value}(n:Nat),bA xs us->bA (xs.take n) (us.take n)
 |_,_,0,_=>.nil
 |_,_,_+1,.nil=>.nil
 |_,_,n+1,.cons r t=>.cons r (bA.take n t)
theorem bA.drop:∀{xs:List V}{us:List Value}(n:Nat),bA xs us->bA (xs.drop n) (us.drop n)
 |_,_,0,r=>r
 |_,_,_+1,.nil=>.nil
 |_,_,n+1,.cons _ t=>bA.drop n t
def QE:Option V->Option Value->Prop
 |some v,some u=>cX v u
 |none,none=>True
 |_,_=>False
def KV{κ:Type}:List (κ×V)->List (κ×Value)->Prop:=Paired λ(p:κ×V) (q:κ×Value)=>p.1=q.1/\cX p.2 q.2
def kV:wX->V
 |.inl i=>.int i
 |.inr x=>.str x
inductive HO where
 |lst (xs:List V)
 |tup (xs:List V)
 |dK (kvs:List (wX×V))|dT (kvs:List (List wX×V))
 |set (S:Int->Bool) (n:Nat)
 |ins (C dx:Addr) (fs:List (Str×V))
 |own (x:Addr)
 |xd (fs:List (Str×V))
 |met (f x:Addr)
 |rng (lo hi:Int)
 |frz (o:Obj) (u:HO)
 |tbl (ps:Array Value)
 |ext (φ:Heap->Prop)
abbrev Hp:=Addr->Option HO
def cE(H:Hp)(a:Addr)(o:HO):Hp:=λb=>if b=a then some o else H b
theorem cA{H:Hp}{o:HO}:cE H a o a=some o:=by unfold cE;rw[T1 rfl]
theorem bG{H:Hp}{b:Addr}{o:HO}(h:b≠a):cE H a o b=H b:=by unfold cE;rw[T3 h]
theorem lV{H:Hp}{b:Addr}{o u:HO}(h:H a=some o)(h':H b=some u)(d:o≠u):a≠b:=by
 intro e;subst e;rw[h]at h';exact d (TV h')
theorem d6{H:Hp}{b:Addr}{o:HO}(h:H a=some o)(h':H b=none):a≠b:=by
 intro e;subst e;rw[h]at h';cases h'
def mx (h:Heap) (a:Addr) (items:Array Value):Prop:=∃o,h.get? a=some o/\o.cls=.type "tuple" /\ (∃n,o.data=.seq items n)/\o.dict=none
theorem mx.t{items:Array Value}(x:mx h a items):IsTup h a items:=let ⟨o,e,c,n,_⟩:=x;⟨o,e,c,n⟩
theorem mx.new (h:Heap) (items:Array Value):mx (h.push {cls:=.type "tuple",data:=.seq items}) h.objs.size items:=⟨_,T4 _ rfl,rfl,⟨_,rfl⟩,rfl⟩
section
variable(P:Program)(w:World)
def eP(H:Hp)(h:Heap)(a:Addr):HO->Prop
 |.lst xs=>xs.length<=sizeLine/\∃(i:List Value) (n:Nat),bA xs i/\h.get? a=some {cls:=.type "list",data:=.seq i.toArray n}
 |.tup xs=>xs.length<=sizeLine/\∃i:List Value,bA xs i/\mx h a i.toArray
 |.dK d=>d.length<=sizeLine/\(a == sysModules)=false/\∃y,KV d y/\h.DictOf (xH P w) a y
 |.dT d=>d.length<=sizeLine/\(a == sysModules)=false/\∃xs:List (List wX×Addr×Value),
   Paired (λ(p:List wX×V) (q:List wX×Addr×Value)=>p.1=q.1/\H q.2.1=some (.tup (p.1.map kV))/\cX p.2 q.2.2) d xs /\
   ∃o es z,h.get? a=some o/\o.ExactDict/\o.data=.dict es z/\es.toList=xs.map (entryOfKey (tupleKind (xH P w)))/\(xs.map 3e0).Nodup
 |.set S n=>h.SetOf (intKind P w) a S n
 |.ins C dx fs=>H dx=some (.own a)/\fs.length<=1000/\dx≠a/\h.get? a=some (W.instObj C dx) /\
   ∃mA,h.Ns1 dx mA/\(∀f,QE (fs.lookup f) (mA f))/\PySem.Within mA (fs.map 3e0)
 |.own _=>∃o,h.get? a=some o
 |.xd fs=>∃mA,h.Ns1 a mA/\∀f,QE (fs.lookup f) (mA f)
 |.rng lo hi=>∃t u v,h.get? a=some {cls:=.type "range",data:=.fields #[.int lo t,.int hi u,.int 1 v]}
 |.frz o u=>h.get? a=some o/\eP H h a u
 |.tbl ps=>h.get? a=some {cls:=.none,data:=.fields ps}
 |.met f x=>h.get? a=some (W.methodObj 2e9 (.ref x))
 |.ext j=>j h/\(∃o,h.get? a=some o)/\∀h1 h2:Heap,j h1->(∀o,h1.get? a=some o->h2.get? a=some o)->j h2
def si(H:Hp)(h:Heap):Prop:=∀a o,H a=some o->eP P w H h a o
end
section
variable{H H':Hp}{o:HO}
theorem eP.lt(x:eP P w H h a o):a<h.objs.size:=by
 cases o with
 |lst xs=>obtain⟨_,_,_,_,e⟩:=x;exact T5 e
 |tup xs=>obtain⟨_,_,_,p⟩:=x;exact p.t.lt
 |dK d=>obtain⟨_,_,_,_,o,_,_,e,_⟩:=x;exact T5 e
 |dT d=>obtain⟨_,_,_,_,o,_,_,e,_⟩:=x;exact T5 e
 |set S n=>obtain⟨o,_,_,_,e,_⟩:=x;exact T5 e
 |ins C dx fs=>obtain⟨_,_,_,e,_⟩:=x;exact T5 e
 |own y=>obtain⟨_,e⟩:=x;exact T5 e
 |xd fs=>obtain⟨_,⟨_,_,_,e,_⟩,_⟩:=x;exact T5 e
 |rng lo hi=>obtain⟨_,_,_,e⟩:=x;exact T5 e
 |frz O u=>obtain⟨e,_⟩:=x;exact T5 e
 |tbl ps=>exact T5 (show h.get? a=some _ from x)
 |met f y=>exact T5 (show h.get? a=some _ from x)
 |ext j=>obtain⟨_,⟨_,e⟩,_⟩:=x;exact T5 e
theorem mN{α β:Type}{F G:α->β->Prop}:∀{l₁:List α}{l₂:List β},Paired F l₁ l₂->(∀a b,F a b->G a b)->Paired G l₁ l₂
 |_,_,.nil,_=>.nil
 |_,_,.cons r t,f=>.cons (f _ _ r) (mN t f)
theorem eP.stay(x:eP P w H h a o)(k:∀b u,(b=a\/H b=some (.own a))->h.get? b=some u->h'.get? b=some u)
  (G:∀b,H b=some (.own a)->H' b=some (.own a)) (J:∀b xs,H b=some (.tup xs)->H' b=some (.tup xs)):eP P w H' h' a o:=by
 induction o with
 |lst xs=>obtain⟨z,I,n,r,e⟩:=x;exact⟨z,I,n,r,k _ _ 8e9 e⟩
 |tup xs=>obtain⟨z,I,r,O,e,c⟩:=x;exact⟨z,I,r,O,k _ _ 8e9 e,c⟩
 |dK j=>obtain⟨z,y,V,r,O,es,i,e,c⟩:=x;exact⟨z,y,V,r,O,es,i,k _ _ 8e9 e,c⟩
 |dT j=>
  obtain⟨z,y,xs,r,O,es,i,e,c⟩:=x;exact⟨z,y,xs,mN r λp q z=>⟨z.1,J _ _ z.2.1,z.2.2⟩,O,es,i,k _ _ 8e9 e,c⟩
 |set S n=>obtain⟨O,es,i,t,e,c⟩:=x;exact⟨O,es,i,t,k _ _ 8e9 e,c⟩
 |ins C dx fs=>
  obtain⟨d,z,ne,e,mA,⟨D,es,i,B,c⟩,r⟩:=x;exact⟨G _ d,z,ne,k _ _ 8e9 e,mA,⟨D,es,i,k _ _ (.inr d) B,c⟩,r⟩
 |own y=>obtain⟨O,e⟩:=x;exact⟨O,k _ _ 8e9 e⟩
 |xd fs=>obtain⟨mA,⟨D,es,i,e,c⟩,r⟩:=x;exact⟨mA,⟨D,es,i,k _ _ 8e9 e,c⟩,r⟩
 |rng lo hi=>obtain⟨t,u,v,e⟩:=x;exact⟨t,u,v,k _ _ 8e9 e⟩
 |frz O u L=>obtain⟨e,q⟩:=x;exact⟨k _ _ 8e9 e,L q⟩
 |tbl ps=>
  have e:h.get? a=some {cls:=.none,data:=.fields ps}:=x;show h'.get? a=some {cls:=.none,data:=.fields ps};exact k a _ 8e9 e
 |met f y=>
  have e:h.get? a=some (W.methodObj 2e9 (.ref y)):=x;show h'.get? a=some (W.methodObj 2e9 (.ref y));exact k a _ 8e9 e
 |ext M=>obtain⟨p,⟨o,e⟩,st⟩:=x;exact⟨st _ _ p λo q=>k _ _ 8e9 q,⟨o,k _ _ 8e9 e⟩,st⟩
theorem si.lt(x:si P w H h)(e:H a=some o):a<h.objs.size:=(x a o e).lt
theorem si.fresh(x:si P w H h)(e:h.objs.size<=a):H a=none:=by
 cases q:H a with
 |none=>rfl
 |some u=>exact absurd (T6 (x.lt q) e) (T7 _)
theorem si.kept(x:si P w H h)(k:∀b u,h.get? b=some u->h'.get? b=some u):si P w H h':=λa o e=>
 (x a o e).stay (λb u _ q=>k b u q) (λ_ q=>q) λ_ _ q=>q
theorem si.laid(x:si P w H h)(k:∀b u,h.get? b=some u->h'.get? b=some u)(d:h.objs.size<=a)(new:eP P w (cE H a o) h' a o):si P w (cE H a o) h':=λb u e=>by
 have n:=x.fresh d;by_cases B:b=a
 ·subst B;rw[cA]at e;cases e;exact new
 ·rw[bG B]at e;exact(x b u e).stay (λc v _ q=>k c v q) (λc q=>by rw[bG (d6 q n)];exact q) λc xs q=>by rw[bG (d6 q n)];exact q
end
def Rd(H:Hp)(a:Addr)(u:HO):Prop:=H a=some u\/∃o,H a=some (.frz o u)
theorem Rd.ok{H:Hp}{u:HO}(r:Rd H a u)(x:si P w H h):eP P w H h a u:=by
 rcases r with r|⟨o,r⟩
 ·exact x a u r
 ·obtain⟨_,q⟩:=x a _ r;exact q
def Sf:Option HO->Prop
 |some (.lst _)=>True
 |some (.dK _)=>True
 |some (.dT _)=>True
 |some (.set _ _)=>True
 |some (.ins _ _ _)=>True
 |some (.ext _)=>True
 |_=>False
section
variable{H:Hp}{x e:Addr}{o':HO}
theorem si.write(ok:si P w H h)(M:Sf (H x))(j:e=x\/H e=some (.own x))(k:∀b u,b≠e->h.get? b=some u->h'.get? b=some u)(O:∃u,h'.get? e=some u)
  (new:eP P w (cE H x o') h' x o'):si P w (cE H x o') h':=λb u q=>by
 have nown:∀c y,H c=some (.own y)->c≠x:=λc y r z=>by subst z;rw[r]at M;exact M
 have ntup:∀c xs,H c=some (.tup xs)->c≠x:=λc xs r z=>by subst z;rw[r]at M;exact M
 by_cases B:b=x
 ·subst B;rw[cA]at q;cases q;exact new
 ·rw [bG B] at q;by_cases d:b=e
  ·have n:H b=some (.own x):=by
    rcases j with z|z
    ·exact absurd (d.trans z) B
    ·rw[d];exact z
   rw[q]at n;cases n;obtain⟨v,V⟩:=O;exact⟨v,by rw[d];exact V⟩
  ·refine (ok b u q).stay (λc v i r => k c v ?_ r) (λc r => by rw [bG (nown c b r)]; exact r) λc xs r => by rw [bG (ntup c xs r)]; exact r
   rcases i with rfl|i
   ·exact d
   ·rintro rfl
    rcases j with z|z
    ·exact nown c b i z
    ·rw[i]at z;cases z;exact B rfl
end
structure Un(fs ex:List Addr)(H H':Hp)(h h':Heap):Prop where
 keep:∀b o,h.get? b=some o->H b=none->b∉fs->b∉ex->h'.get? b=some o
 slot:∀b o,h.get? b=some o->H b=none->b∈fs->b∉ex->∃sl,h'.get? b=some {o with slots:=sl}
 free:∀b o,h.get? b=some o->H b=none->b∉ex->H' b=none
 there:∀b o,h.get? b=some o->b∉ex->∃o',h'.get? b=some o'
 tups:∀b xs,H b=some (.tup xs)->H' b=some (.tup xs)
 frzs:∀b o u,H b=some (.frz o u)->H' b=some (.frz o u)
 tbls:∀b ps,H b=some (.tbl ps)->∃more,H' b=some (.tbl (ps++more))
section
variable{fs fs' ex ex':List Addr}{H H1 H2:Hp}{h1 h2:Heap}{x e:Addr}{o:HO}
theorem Un.any(u:Un fs ex H H1 h h1){b:Addr}{ob:Obj}(q:h.get? b=some ob)(n:H b=none)(d:b∉ex):∃sl,h1.get? b=some {ob with slots:=sl}:=by
 by_cases B:b∈fs
 ·exact u.slot b ob q n B d
 ·exact⟨ob.slots,u.keep b ob q n B d⟩
theorem Un.kept(k:∀b u,h.get? b=some u->h'.get? b=some u):Un fs ex H H h h':=
 ⟨λb O q _ _ _=>k b O q,λb O q _ _ _=>⟨O.slots,k b O q⟩,λ_ _ _ n _=>n,λb O q _=>⟨O,k b O q⟩,λ_ _ q=>q,λ_ _ _ q=>q,λ_ ps q=>⟨#[],by rw[q];simp⟩⟩
theorem Un.refl:Un fs ex H H h h:=Un.kept λ_ _ q=>q
theorem Un.laid(k:∀b u,h.get? b=some u->h'.get? b=some u)(d:h.objs.size<=a)(N:H a=none):Un fs ex H (cE H a o) h h' where
 keep:=λb u q _ _ _=>k b u q
 slot:=λb u q _ _ _=>⟨u.slots,k b u q⟩
 free:=λb u q n _=>by rw[bG (T8 (T6 (T5 q) d))];exact n
 there:=λb u q _=>⟨u,k b u q⟩
 tups:=λb xs q=>by rw[bG (d6 q N)];exact q
 frzs:=λb u xs q=>by rw[bG (d6 q N)];exact q
 tbls:=λb ps q=>⟨#[],by rw[bG (d6 q N),q];simp⟩
theorem Un.write(M:Sf (H x))(y:e=x\/H e=some (.own x))(k:∀b u,b≠e->h.get? b=some u->h'.get? b=some u)(O:∃u,h'.get? e=some u):Un fs ex H (cE H x o) h h':=by
 have j:∀b,H b=none->b≠x:=λb n z=>by subst z;rw[n]at M;exact M
 have B:∀b,H b=none->b≠e:=λb n z=>by
  subst z;rcases y with r|r
  ·exact j b n r
  ·rw[n]at r;cases r
 have i:∀b u,H b=some u->¬ Sf (some u)->b≠x:=λb u q nm z=>by subst z;rw[q]at M;exact nm M
 refine⟨λb u q n _ _=>k b u (B b n) q,λb u q n _ _=>⟨u.slots,k b u (B b n) q⟩,λb u q n _=>by rw[bG (j b n)];exact n,λb u q _=>?_,
  λb xs q=>by rw[bG (i b _ q λz=>z)];exact q,λb u xs q=>by rw[bG (i b _ q λz=>z)];exact q,λb ps q=>⟨#[],by rw[bG (i b _ q λz=>z),q];simp⟩⟩
 by_cases d:b=e
 ·subst d;exact O
 ·exact⟨u,k b u d q⟩
end
def RX(h:Heap)(H:Hp):List Addr:=(List.range h.objs.size).filter λa=>(H a).isSome
def w8(h:Heap)(H:Hp):Heap:=W.hideAll h (RX h H)
theorem El(h:Heap)(H:Hp):(w8 h H).objs.size=h.objs.size:=W.hideAll_size _ _
theorem HS{H:Hp}{b:Addr}{o:Obj}(e:h.get? b=some o)(n:H b=none):(w8 h H).get? b=some o:=
 W.hideAll_get _ e λi=>by
  have q:(H b).isSome=true:=(T9.mp i).2;rw[n]at q;simp at q
theorem KC{H:Hp}{b:Addr}{o:Obj}(e:(w8 h H).get? b=some o):h.get? b=some o/\H b=none:=by
 have d:h.get? b=some o:=W.of_hideAll (RX h H) e;refine⟨d,?_⟩;cases q:H b with
 |none=>rfl
 |some x=>
  have i:b∈RX h H:=T9.mpr ⟨Ua.mpr (T5 d),by simp[q]⟩;have z:(w8 h H).get? b=none:=W.hideAll_none (RX h H) i;rw[z]at e;cases e
end L2
variable{H:L2.Hp}{vs:List L2.V}{v:L2.V}
namespace L2
open PySem PySem.Spec PyProof.Rows
structure Mod(K:W.Frag)(mg:Str->Option Value)(base:Heap):Prop where
 kin:K.In base
 glob:base.Ns mainGlobals mg
 blt:∃mb,base.Ns builtinsNs mb/\∀x:Str,x ≠ "__name__" -> mb x=bootBuiltins x
 nolimit:base.NoLimit
structure Cx where
 prog:Program
 w:World
 K:W.Frag
 mg:Str->Option Value
 base:Heap
 A:Around
 N:List Str
 s₀:Shared
 H₀:Hp
 env:Env
 outer:List Env
 stack:List Env
 ex:List Addr
 fn:Str->Bool
 calm:Bool
 pn:List 4e4
 xe:Value->Shared->Prop
def EZ(l:List Env):List Addr:=l.filterMap (·.frame)
abbrev Cx.fs(X:Cx):List Addr:=EZ X.outer
def Sa(sc:Scope)(x:Str):Prop:=sc.names.lookup x=some .local\/sc.names.lookup x=some .cell\/sc.names.lookup x=some .free
def E3(sc:Scope)(x:Str):Prop:=sc.names.lookup x=some .local\/sc.names.lookup x=some .cell
def Tc(env:Env)(h:Heap)(m:Str->Option Value)(x:Str)(u:Value):Prop:=
 (env.kindOf x=some .local/\m x=some u)\/((env.kindOf x=some .cell\/env.kindOf x=some .free)/\∃c,env.cells.lookup x=some c/\h.IsCell c (some u))
structure Cx.Ok(X:Cx):Prop where
 mod:Mod X.K X.mg X.base
 kind:X.env.scope.kind=.function
 glob:X.env.globals=mainGlobals
 blt:X.env.builtins=builtinsNs
 above:X.s₀.heap.objs.size<=X.env.locals
 inj:∀x y c,X.env.cells.lookup x=some c->X.env.cells.lookup y=some c->x=y
 has:∀x,(X.env.kindOf x=some .cell\/X.env.kindOf x=some .free)->∃c,X.env.cells.lookup x=some c
 cab:∀x c,X.fn x=true->X.env.cells.lookup x=some c->X.s₀.heap.objs.size<=c
 hd:X.calm=true->X.A.handled=none
 frames:X.A.frames=some X.stack
 stk:X.stack=X.outer\/(X.stack=X.env::X.outer/\X.env.frame=some X.env.locals)
 exf:∀b∈X.ex,b≠X.env.locals/\∀x c,X.env.cells.lookup x=some c->c≠b
 bs:∀b o,X.base.get? b=some o->X.s₀.heap.get? b=some o/\X.H₀ b=none
 bsz:X.base.objs.size<=X.s₀.heap.objs.size
 noex:∀b o,X.base.get? b=some o->b∉X.ex
 exfs:∀b∈X.ex,b∉X.fs
 funs:X.s₀.heap.FunFrames X.base X.outer
 frf:∀b∈X.fs,X.H₀ b=none
structure bf(X:Cx)(pins:List 4e4)(Y:List (Option V))(H:Hp)(s:Shared):Prop where
 ok:X.Ok
 os:s.os=X.s₀.os
 bare:AllBare s.gens
 base:Un X.fs X.ex X.H₀ H X.s₀.heap 3e3
 loc:∃m,s.heap.Ns X.env.locals m/\∀(i:Nat)(x:Str)(v:V),X.N[i]?=some x->Y[i]?=some (some v)->Sa X.env.scope x->∃u,cX v u/\Tc 1e9 3e3 m x u
 cell:∀x c,X.env.cells.lookup x=some c->∃v,s.heap.IsCell c v
 free:H X.env.locals=none
 freeC:∀x c,X.env.cells.lookup x=some c->H c=none
 pin:∀p∈X.pn++pins,s.heap.get? p.1=some p.2/\H p.1=none/\p.1≠X.env.locals/\p.1∉X.fs/\∀v,p.2.data≠.cell v
 hok:si 13e0 X.w H 3e3
 len:Y.length=X.N.length
section
variable{X:Cx}{Y:List (Option V)}{H':Hp}
theorem Cx.Ok.nofr(ok:X.Ok){b:Addr}{o:Obj}(e:X.base.get? b=some o):b∉X.fs:=λB=>by
 have:=(ok.funs.mem B).1;rw[e]at this;cases this
theorem bf.bs(I:bf X pins Y H s):∀b o,X.base.get? b=some o->s.heap.get? b=some o/\H b=none:=λb o e=>
 ⟨I.base.keep b o (I.ok.bs b o e).1 (I.ok.bs b o e).2 (I.ok.nofr e) (I.ok.noex b o e),I.base.free b o (I.ok.bs b o e).1 (I.ok.bs b o e).2 (I.ok.noex b o e)⟩
theorem bf.bk(I:bf X pins Y H s):∀b o,X.base.get? b=some o->s.heap.get? b=some o:=λb o e=>(I.bs b o e).1
theorem bf.mod(I:bf X pins Y H s):Mod X.K X.mg X.base:=I.ok.mod
theorem bf.kIn(I:bf X pins Y H s):X.K.In 3e3:=I.ok.mod.kin.keeps I.bk
theorem bf.lt(I:bf X pins Y H s):X.env.locals<s.heap.objs.size:=let ⟨_,hn,_⟩:=I.loc;hn.lt
theorem bf.sz(I:bf X pins Y H s):X.s₀.heap.objs.size<=s.heap.objs.size:=Ub I.ok.above (Uc I.lt)
theorem bf.nofs(I:bf X pins Y H s)(h:s.heap.objs.size<=a):a∉X.fs:=λB=>by
 obtain⟨_,o,G,_⟩:=I.ok.funs.mem B;exact absurd (T6 (T5 G) (Ub I.sz h)) (T7 _)
theorem bf.cne(I:bf X pins Y H s):∀x c,X.env.cells.lookup x=some c->c≠X.env.locals:=λx c e z=>by
 obtain⟨v,o,G,D⟩:=I.cell x c e;obtain⟨m,⟨o',es,j,i,d,_⟩,_⟩:=I.loc;rw[z,i]at G;cases G;rw[d]at D;cases D
theorem bf.funs(I:bf X pins Y H s):s.heap.FunFrames X.base X.outer:=by
 have all:∀(l:List Env),(∀b∈EZ l,b∈X.fs)->X.s₀.heap.FunFrames X.base l->s.heap.FunFrames X.base l:=by
  intro l
  induction l with
  |nil=>intro _ _;trivial
  |cons env r j=>
   intro S i;obtain⟨d,⟨L,o,F,n,G,D⟩,R⟩:=i;have hL:L∈X.fs:=S L (by unfold EZ;rw[Ud,F];exact Ue);obtain⟨q,e⟩:=I.base.slot L o G (I.ok.frf L hL) hL λz=>I.ok.exfs L z hL;exact⟨d,⟨L,_,F,n,e,D⟩,j (λb B=>S b (by unfold EZ;rw[Ud,F];exact Ug _ B)) R⟩
 exact all X.outer (λ_ B=>B) I.ok.funs
theorem bf.stack(I:bf X pins Y H s):s.heap.FunFrames X.base X.stack:=by
 rcases I.ok.stk with e|⟨e,F⟩
 ·rw[e];exact I.funs
 ·rw[e];obtain⟨m,n,_⟩:=I.loc;refine .cons (by rw[I.ok.kind];decide) F n ?_ I.funs;exact Heap.get?_none_of_le (Ub I.ok.bsz I.ok.above)
theorem bf.stkSub(I:bf X pins Y H s):∀b∈EZ X.stack,b∈X.env.locals::X.fs:=λb B=>by
 rcases I.ok.stk with e|⟨e,F⟩
 ·rw[e]at B;exact Ug _ B
 ·rw[e]at B;unfold EZ at B;rw[Ud,F]at B;exact B
theorem bf.stkFree(I:bf X pins Y H s):∀b∈EZ X.stack,H b=none:=λb B=>by
 rcases Uh.mp (I.stkSub b B) with e|B
 ·rw[e];exact I.free
 ·obtain⟨_,o,G,_⟩:=I.ok.funs.mem B;exact I.base.free b o G (I.ok.frf b B) λz=>I.ok.exfs b z B
theorem bf.step{d':Drawn}(I:bf X pins Y H s)(y:∀b∈ch,(b∈X.ex\/X.s₀.heap.objs.size<=b)/\b≠X.env.locals/\(∀x c,X.env.cells.lookup x=some c->c≠b)/\∀p∈X.pn++pins,p.1≠b)(keep:∀b o,b≠X.env.locals->b∉X.fs->b∉ch->s.heap.get? b=some o->H b=none->h'.get? b=some o)(slot:∀b o,b≠X.env.locals->b∈X.fs->b∉ch->s.heap.get? b=some o->H b=none->∃sl,h'.get? b=some {o with slots:=sl})(free:∀b o,b∉ch->s.heap.get? b=some o->H b=none->H' b=none)(there:∀b o,b∉ch->s.heap.get? b=some o->∃o',h'.get? b=some o')(tups:∀b xs,H b=some (.tup xs)->H' b=some (.tup xs))(frzs:∀b o u,H b=some (.frz o u)->H' b=some (.frz o u))(tbls:∀b ps,H b=some (.tbl ps)->∃more,H' b=some (.tbl (ps++more)))(ns:∀m,s.heap.Ns X.env.locals m->h'.Ns X.env.locals m)(L:si 13e0 X.w H' h')(σ:AllBare g'):
  bf X pins Y H' {s with heap:=h',gens:=g',drawn:=d',toks:=t'}:=by
 have neL:∀b o,X.s₀.heap.get? b=some o->b≠X.env.locals:=λb o e=>T8 (T6 (T5 e) I.ok.above)
 have neC:∀b o,X.s₀.heap.get? b=some o->b∉X.ex->b∉ch:=λb o e j G=>by
  rcases (y b G).1 with z|z
  ·exact j z
  ·exact absurd (T6 (T5 e) z) (T7 _)
 have cellK:∀x c,X.env.cells.lookup x=some c->∀v,s.heap.IsCell c v->h'.IsCell c v:=λx c e v ⟨o,O,D⟩=>by
  have nch:c∉ch:=λz=>(y c z).2.2.1 x c e rfl;by_cases M:c∈X.fs
  ·obtain⟨sl,q⟩:=slot c o (I.cne x c e) M nch O (I.freeC x c e);exact⟨_,q,D⟩
  ·exact⟨o,keep c o (I.cne x c e) M nch O (I.freeC x c e),D⟩
 refine⟨I.ok,I.os,σ,⟨λb o e n G j=>?_,λb o e n G j=>?_,λb o e n j=>?_,λb o e j=>?_,λb xs e=>tups b xs (I.base.tups b xs e),λb o xs e=>frzs b o xs (I.base.frzs b o xs e),λb ps e=>?_⟩,?_,λx c e=>?_,?_,λx c e=>?_,λp N=>?_,L,I.len⟩
 ·exact keep b o (neL b o e) G (neC b o e j) (I.base.keep b o e n G j) (I.base.free b o e n j)
 ·obtain⟨sl,B⟩:=I.base.slot b o e n G j;obtain⟨S,J⟩:=slot b _ (neL b o e) G (neC b o e j) B (I.base.free b o e n j);exact⟨S,J⟩
 ·obtain⟨o',B⟩:=I.base.there b o e j;exact free b o' (neC b o e j) B (I.base.free b o e n j)
 ·obtain⟨o',B⟩:=I.base.there b o e j;exact there b o' (neC b o e j) B
 ·obtain⟨R,B⟩:=I.base.tbls b ps e;obtain⟨W,J⟩:=tbls b _ B;exact⟨R++W,by rw[J,Array.append_assoc]⟩
 ·obtain ⟨m, V, μ⟩ := I.loc;refine⟨m,ns m V,λi x v B J U=>?_⟩;obtain⟨u,r,l⟩:=μ i x v B J U;refine⟨u,r,?_⟩;rcases l with l|⟨k,c,e,z⟩
  ·exact .inl l
  ·exact .inr ⟨k,c,e,cellK x c e _ z⟩
 ·obtain⟨v,z⟩:=I.cell x c e;exact⟨v,cellK x c e v z⟩
 ·obtain⟨m,⟨o,_,_,O,_⟩,_⟩:=I.loc;exact free _ o (λz=>(y _ z).2.1 rfl) O I.free
 ·obtain⟨v,o,O,D⟩:=I.cell x c e;exact free c o (λz=>(y c z).2.2.1 x c e rfl) O (I.freeC x c e)
 ·obtain⟨e,n,ne,F,d⟩:=I.pin p N;have nch:p.1∉ch:=λz=>(y p.1 z).2.2.2 p N rfl;exact⟨keep p.1 p.2 ne F nch e n,free p.1 p.2 nch e n,ne,F,d⟩
theorem bf.un(I:bf X pins Y H s)(u:Un X.fs [] H H' 3e3 h')(L:si 13e0 X.w H' h'):bf X pins Y H' {s with heap:=h',toks:=t'}:=by
 obtain⟨m,⟨o,es,q,G,r⟩,_⟩:=id I.loc;obtain⟨S,hL⟩:=u.any G I.free 0e9
 exact I.step (g':=s.gens) (d':=s.drawn) (ch:=[]) (λ_ z=>nomatch z) (λb o _ B _ e n=>u.keep b o e n B 0e9) (λb o _ B _ e n=>u.slot b o e n B 0e9) (λb o _ e n=>u.free b o e n 0e9) (λb o _ e=>u.there b o e 0e9) u.tups u.frzs u.tbls (λy M=>by
  obtain⟨o',j,d,i,R⟩:=M;rw[G]at i;cases i
  exact⟨_,j,d,hL,R⟩) L I.bare
theorem bf.call{d':Drawn}(I:bf X pins Y H s)(u:Un (EZ X.stack) ch H H' 3e3 h')(L:si 13e0 X.w H' h')(σ:AllBare g')(y:∀b∈ch,(b∈X.ex\/X.s₀.heap.objs.size<=b)/\b≠X.env.locals/\(∀x c,X.env.cells.lookup x=some c->c≠b)/\∀p∈X.pn++pins,p.1≠b):
  bf X pins Y H' {s with heap:=h',gens:=g',drawn:=d',toks:=t'}:=by
 obtain⟨m,⟨o,es,J,G,r⟩,_⟩:=id I.loc;obtain⟨S,hL⟩:=u.any G I.free λz=>(y _ z).2.1 rfl
 exact I.step (ch:=ch) y (λb o hL B i e n=>u.keep b o e n (λz=>(Uh.mp (I.stkSub b z)).elim hL B) i) (λb o _ _ i e n=>u.any e n i) (λb o i e n=>u.free b o e n i) (λb o i e=>u.there b o e i) u.tups u.frzs u.tbls (λN M=>by
  obtain⟨o',q,j,d,R⟩:=M;rw[G]at d;cases d
  exact⟨_,q,j,hL,R⟩) L σ
theorem bf.turned(I:bf X pins Y H s)(k:∀b o,b≠it->s.heap.get? b=some o->h'.get? b=some o)(N:H it=none)(hL:it≠X.env.locals)(h1:it∈X.ex\/X.s₀.heap.objs.size<=it)(h2:∀x c,X.env.cells.lookup x=some c->c≠it)(j:∀p∈X.pn++pins,p.1≠it):bf X pins Y H {s with heap:=h',toks:=t'}:=by
 have nit:∀b u,H b=some u->b≠it:=λb u e z=>by rw[z,N]at e;cases e
 refine I.step (g':=s.gens) (d':=s.drawn) (ch:=[it]) (λb B=>?_) (λb o _ _ i e _=>k b o (λz=>i (by simp[z])) e) (λb o _ _ i e _=>⟨o.slots,k b o (λz=>i (by simp[z])) e⟩) (λ_ _ _ _ n=>n)
  (λb o i e=>⟨o,k b o (λz=>i (by simp[z])) e⟩) (λ_ _ e=>e) (λ_ _ _ e=>e) (λb ps e=>⟨#[],by rw[e];simp⟩) (λm M=>?_) (λb u e=>?_) I.bare
 ·have e : b = it := by simpa using B
  subst e;exact⟨h1,hL,h2,j⟩
 ·obtain⟨o,es,d,G,r⟩:=M;exact⟨o,es,d,k _ o (Ui hL) G,r⟩
 ·refine (I.hok b u e).stay (λc v i q => k c v ?_ q) (λ_ q => q) λ_ _ q => q;rcases i with z|z
  ·rw[z];exact nit b u e
  ·exact nit c _ z
theorem bf.tok(I:bf X pins Y H s)(t:Nat):bf X pins Y H {s with toks:=t}:=I.un (h':=3e3) (t':=t) Un.refl I.hok
theorem bf.kept(I:bf X pins Y H s)(k:∀b u,s.heap.get? b=some u->h'.get? b=some u):bf X pins Y H {s with heap:=h',toks:=t'}:=I.un (Un.kept k) (I.hok.kept k)
theorem bf.laid{o:HO}(I:bf X pins Y H s)(k:∀b u,s.heap.get? b=some u->h'.get? b=some u)(d:s.heap.objs.size<=a)(new:eP 13e0 X.w (cE H a o) h' a o):
  bf X pins Y (cE H a o) {s with heap:=h',toks:=t'}:=I.un (Un.laid k d (I.hok.fresh d)) (I.hok.laid k d new)
theorem bf.write{x e:Addr}{o:HO}(I:bf X pins Y H s)(M:Sf (H x))(j:e=x\/H e=some (.own x))(k:∀b u,b≠e->s.heap.get? b=some u->h'.get? b=some u)(O:∃u,h'.get? e=some u)(new:eP 13e0 X.w (cE H x o) h' x o):bf X pins Y (cE H x o) {s with heap:=h',toks:=t'}:=I.un (Un.write M j k O) (I.hok.write M j k O new)
theorem bf.pins_of{pins':List 4e4}(I:bf X pins Y H s)(h:∀p∈pins',s.heap.get? p.1=some p.2/\H p.1=none/\p.1≠X.env.locals/\p.1∉X.fs/\∀v,p.2.data≠.cell v):bf X pins' Y H s:=
 ⟨I.ok,I.os,I.bare,I.base,I.loc,I.cell,I.free,I.freeC,λp d=>(Uj.mp d).elim (λz=>I.pin p (Uk _ z)) (h p),I.hok,I.len⟩
theorem zP(hN:N.Nodup)(a:N[i]?=some x)(b:N[j]?=some x):i=j:=by
 obtain⟨h1,d⟩:=Ul.mp a;obtain⟨h2,B⟩:=Ul.mp b;exact(Um hN).mp (d.trans B.symm)
theorem vP{M:Model}{Q:Unit->Shared->Prop}(I:bf X pins Y H s)(hN:X.N.Nodup)(hi:X.N[i]?=some x)(J:E3 X.env.scope x)(r:cX v u)(h:∀s',bf X pins (Y.set i (some v)) H s'->(∃a,Heap.SameBut a 3e3 s'.heap/\(a=X.env.locals\/X.env.cells.lookup x=some a))->Q () s')(hf:autoParam 3e5 ATu):wpAny M A (storeName 1e9 x u) Q E s:=by
 obtain⟨m,hn,hl⟩:=id I.loc;have F:(X.env.scope.kind == .class || (X.env.scope.kind == .module&&X.env.locals != X.env.globals))=false:=by rw[I.ok.kind];rfl
 have hiσ:i<Y.length:=by rw[I.len];exact(Ul.mp hi).1
 have cne:=I.cne
 have tracked:∀{a:Addr}{h':Heap},(∃o,s.heap.get? a=some o/\H a=none)->Heap.SameBut a 3e3 h'->si 13e0 X.w H h':=λ{a h'} ha S b ob e=>by
  obtain⟨_,_,hfree⟩:=ha;refine(I.hok b ob e).stay (λc w' G q=>(S.2 c ?_).trans q) (λ_ q=>q) λ_ _ q=>q
  rintro rfl
  rcases G with rfl|G
  ·rw[hfree]at e;cases e
  ·rw[hfree]at G;cases G
 rcases J with U|U
 ·refine wpAny_storeName_local U hn (λh' hn' S => ?_) F;obtain⟨oL,_,_,hoL,_⟩:=id hn;refine h _ ⟨I.ok,I.os,I.bare,⟨λb o e n σ J=>?_,λb o e n σ J=>?_,I.base.free,λb o e J=>?_,I.base.tups,I.base.frzs,I.base.tbls⟩,⟨_,hn',λj y v' B L e3=>?_⟩,λy c e=>?_,I.free,I.freeC,λp hp=>?_,tracked ⟨oL,hoL,I.free⟩ S,by simpa using I.len⟩ ⟨_,S,.inl rfl⟩
  ·exact(S.2 b (T8 (T6 (T5 e) I.ok.above))).trans (I.base.keep b o e n σ J)
  ·obtain⟨sl,B⟩:=I.base.slot b o e n σ J;exact⟨sl,(S.2 b (T8 (T6 (T5 e) I.ok.above))).trans B⟩
  ·obtain⟨o',B⟩:=I.base.there b o e J;exact⟨o',(S.2 b (T8 (T6 (T5 e) I.ok.above))).trans B⟩
  ·by_cases D : j = i
   ·subst D;rw[hi]at B;cases B;rw[Uo hiσ]at L;cases L;exact⟨u,r,.inl ⟨U,by simp⟩⟩
   ·rw [Uq (Ui D)] at L;obtain⟨u',r',q⟩:=hl j y v' B L e3;refine⟨u',r',?_⟩;rcases q with⟨k,e⟩|⟨k,c,e,z⟩
    ·refine .inl ⟨k,?_⟩;have:y≠x:=λe=>D (zP hN B (e ▸ hi));simp[this,e]
    ·exact .inr ⟨k,c,e,z.sameBut S (cne y c e)⟩
  ·obtain⟨w',z⟩:=I.cell y c e;exact⟨w',z.sameBut S (cne y c e)⟩
  ·obtain⟨e,n,ne,nf,d⟩:=I.pin p hp;exact⟨(S.2 p.1 ne).trans e,n,ne,nf,d⟩
 ·have μ:X.fn x=true:=by
   rcases hf with z|z
   ·exact z
   ·rw[z]at U;cases U
  obtain⟨c,G⟩:=I.ok.has x (.inl U);obtain⟨w',z⟩:=I.cell x c G;refine wpAny_storeName_cell I.ok.kind U G z (λh' O S=>?_);obtain⟨oc,W,hocd⟩:=id z;refine h {s with heap:=h'} ⟨I.ok,I.os,I.bare,⟨λb o e n σ J=>?_,λb o e n σ J=>?_,I.base.free,λb o e J=>?_,I.base.tups,I.base.frzs,I.base.tbls⟩,⟨m,hn.sameBut S (Ui (cne x c G)),λj y v' B L e3=>?_⟩,λy c' e=>?_,I.free,I.freeC,λp hp=>?_,tracked ⟨oc,W,I.freeC x c G⟩ S,by simpa using I.len⟩ ⟨c,S,.inr G⟩
  ·exact(S.2 b (T8 (T6 (T5 e) (I.ok.cab x c μ G)))).trans (I.base.keep b o e n σ J)
  ·obtain⟨sl,B⟩:=I.base.slot b o e n σ J;exact⟨sl,(S.2 b (T8 (T6 (T5 e) (I.ok.cab x c μ G)))).trans B⟩
  ·obtain⟨o',B⟩:=I.base.there b o e J;exact⟨o',(S.2 b (T8 (T6 (T5 e) (I.ok.cab x c μ G)))).trans B⟩
  ·by_cases D : j = i
   ·subst D;rw[hi]at B;cases B;rw[Uo hiσ]at L;cases L;exact⟨u,r,.inr ⟨.inl U,c,G,O⟩⟩
   ·rw [Uq (Ui D)] at L;obtain⟨u',r',q⟩:=hl j y v' B L e3;refine⟨u',r',?_⟩;rcases q with q|⟨k,c',e,z'⟩
    ·exact .inl q
    ·refine .inr ⟨k, c', e, z'.sameBut S ?_⟩
     rintro rfl
     exact D (zP hN B (I.ok.inj _ _ _ e G ▸ hi))
  ·by_cases R : c' = c
   ·subst R;exact⟨_,O⟩
   ·obtain⟨w2,z2⟩:=I.cell y c' e;exact⟨w2,z2.sameBut S R⟩
  ·obtain⟨e,n,ne,nf,d⟩:=I.pin p hp;refine⟨(S.2 p.1 ?_).trans e,n,ne,nf,d⟩;intro q;rw[q,W]at e;have q':oc=p.2:=TV e;exact d w' (by rw[<- q'];exact hocd)
theorem sY{M:Model}{Q:Unit->Shared->Prop}(I:bf X pins Y H s)(hN:X.N.Nodup)(hi:X.N[i]?=some x)(j:E3 X.env.scope x)(r:cX v u)(h:∀s',bf X pins (Y.set i (some v)) H s'->Q () s')(F:autoParam 3e5 ATu):wpAny M A (storeName 1e9 x u) Q E s:=
 vP I hN hi j r (λs' d _=>h s' d) F
theorem bf.call'{s':Shared}(I:bf X pins Y H s)(O:s'.os=s.os)(u:Un (EZ X.stack) ch H H' 3e3 s'.heap)(L:si 13e0 X.w H' s'.heap)(σ:AllBare s'.gens)(y:∀b∈ch,(b∈X.ex\/X.s₀.heap.objs.size<=b)/\b≠X.env.locals/\(∀x c,X.env.cells.lookup x=some c->c≠b)/\∀p∈X.pn++pins,p.1≠b):bf X pins Y H' s':=by
 obtain⟨h',G,d,i,o'⟩:=s';have e:o'=s.os:=O;subst e;exact I.call (g':=G) (t':=i) (d':=d) u L σ y
end
abbrev XK:=Value->Option Addr->Hp->Prop
abbrev St:=List (Option V)
abbrev VK:=V->Hp->Prop
abbrev TE:=St->Hp->VK->Prop
abbrev TT:=St->Hp->(Bool->Hp->Prop)->Prop
abbrev TA:=St->Hp->(List V->Hp->Prop)->Prop
structure sA where
 nx:St->Hp->Prop
 rt:VK
 bk:St->Hp->Prop:=λ_ _=>False
 ct:St->Hp->Prop:=λ_ _=>False
abbrev TS:=sA->St->Hp->Prop
def EP(X:Cx)(pins:List 4e4)(Y:St)(Q:VK)(u:Value)(s':Shared):Prop:=∃v H',bf X pins Y H' s'/\cX v u/\Q v H'
def TP(X:Cx)(pins:List 4e4)(Y:St)(Q:Bool->Hp->Prop)(b:Bool)(s':Shared):Prop:=∃H',bf X pins Y H' s'/\Q b H'
def AP(X:Cx)(pins:List 4e4)(Y:St)(Q:List V->Hp->Prop)(us:List Value)(s':Shared):Prop:=∃y H',bf X pins Y H' s'/\bA y us/\Q y H'
def SP(X:Cx)(pins:List 4e4)(D:sA)(f:Flow)(s':Shared):Prop:=
 match f with
 |.next=>∃d H',bf X pins d H' s'/\D.nx d H'
 |.brk=>∃d H',bf X pins d H' s'/\D.bk d H'
 |.cont=>∃d H',bf X pins d H' s'/\D.ct d H'
 |.ret u=>∃v d H',bf X pins d H' s'/\cX v u/\D.rt v H'
def PE(X:Cx)(e:Expr)(t:TE):Prop:=
 ∀(pins:List 4e4)(s:Shared)(Y:St)(H:Hp)(Q:VK),bf X pins Y H s->t Y H Q->wpAny 1e5 X.A (eval e 1e9) 12e0 X.xe s
def PT(X:Cx)(e:Expr)(t:TT):Prop:=
 ∀(pins:List 4e4)(s:Shared)(Y:St)(H:Hp)(Q:Bool->Hp->Prop),bf X pins Y H s->t Y H Q->wpAny 1e5 X.A (isTrue e 1e9 (eval e 1e9)) (TP X pins Y Q) X.xe s
def PW(X:Cx)(e:Expr)(t:TT):Prop:=
 ∀(whole:Sem Value)(pins:List 4e4)(s:Shared)(Y:St)(H:Hp)(Q:Bool->Hp->Prop),bf X pins Y H s->t Y H Q->wpAny 1e5 X.A (isTrue e 1e9 whole) (TP X pins Y Q) X.xe s
theorem PW.pt{X:Cx}{t:TT}(h:PW X e t):PT X e t:=h _
def PA(X:Cx)(es:List Expr)(t:TA):Prop:=
 ∀(pos:Pos)(pins:List 4e4)(s:Shared)(Y:St)(H:Hp)(Q:List V->Hp->Prop),bf X pins Y H s->t Y H Q->wpAny 1e5 X.A (spliced (backTo pos 7e1)) (AP X pins Y Q) X.xe s
def PS(X:Cx)(st:Stmt)(t:TS):Prop:=
 ∀(pins:List 4e4)(s:Shared)(Y:St)(H:Hp)(D:sA),bf X pins Y H s->t D Y H->wpAny 1e5 X.A (exec st 1e9) (SP X pins D) X.xe s
def l9(X:Cx)(st:List Stmt)(t:TS):Prop:=
 ∀(pins:List 4e4)(s:Shared)(Y:St)(H:Hp)(D:sA),bf X pins Y H s->t D Y H->wpAny 1e5 X.A (execs st 1e9) (SP X pins D) X.xe s
theorem dX{α:Type}{t:Sem α}{Q Q':α->Shared->Prop}{M:Model}(h:wpAny M A t Q E s)(hQ:∀a s,Q a s->Q' a s):wpAny M A t Q' E s:=Ur h hQ λ_ _ x=>x
end L2
variable{Y:L2.St}{te:L2.TE}{ta:L2.TA}
namespace L2
open PySem PySem.Spec PyProof.Rows
section
variable{X:Cx}
def Qk(i:Nat):TE:=λY H Q=>∃v,Y[i]?=some (some v)/\Q v H
def tC(v:V):TE:=λ_ H Q=>Q v H
theorem Oa(hN:X.N[i]?=some x)(V:Sa X.env.scope x)(j:autoParam 4e5 ATs)(D:autoParam ((x == ("__classdict__" : Str))=false) ATs):PE X 16e3 (Qk i):=by
 intro pins s Y H Q I h;obtain⟨v,e,h⟩:=h;obtain⟨m,y,L⟩:=I.loc;obtain⟨u,r,l⟩:=L i x v hN e V;have n:EP X pins Y Q u s:=⟨v,H,I,r,h⟩;rcases l with⟨d,M⟩|⟨d,c,q,hcell⟩
 ·exact wpAny_Name (wpAny_loadName_local I.ok.kind d y M n) j
 ·rcases d with d | d
  ·exact wpAny_Name (wpAny_loadName_cell I.ok.kind d q hcell n) j
  ·exact wpAny_Name (wpAny_loadName_free I.ok.kind d q hcell n D) j
theorem Of{i j pos}:PE X (.Constant 11e5 j pos) (tC 11e5):=λ_ _ _ H _ I h=>wpAny_Constant_int ⟨.int i,H,I.tok _,⟨_,rfl⟩,h⟩
theorem Rj{b j pos}:PE X (.Constant (.bool b) j pos) (tC (.bl b)):=λ_ _ _ H _ I h=>Constant_bool ⟨.bl b,H,I,rfl,h⟩
theorem F4{j pos}:PE X (.Constant .none j pos) (tC .non):=λ_ _ _ H _ I h=>Constant_none ⟨.non,H,I,rfl,h⟩
def Gl(X:Cx)(x:Str):Prop:=X.env.kindOf x=some .globalImplicit
theorem C1(I:bf X pins Y H s)(σ:Gl X x)(i:X.mg x=some u)(h:Q u s)(D:autoParam 4e5 ATs):wpAny 1e5 X.A (eval 16e3 1e9) Q E s:=
 Calls.Name_function_global I.ok.kind σ (Calls.loadGlobal_global (by rw[I.ok.glob];exact I.mod.glob.keeps I.bk) i h) D
theorem mr(I:bf X pins Y H s)(σ:Gl X x)(i:X.mg x=none)(V:bootBuiltins x=some u)(h:Q u s)(n:autoParam (x ≠ "__name__") ATs)(D:autoParam 4e5 ATs):wpAny 1e5 X.A (eval 16e3 1e9) Q E s:=by
 obtain⟨M,h1,h2⟩:=I.mod.blt;exact Calls.Name_function_global I.ok.kind σ (Calls.loadGlobal_builtin (by rw[I.ok.glob];exact I.mod.glob.keeps I.bk) i (by rw[I.ok.blt];exact h1.keeps I.bk) ((h2 x n).trans V) h) D
theorem Kc(σ:Gl X x)(i:X.mg x=some u)(r:cX v u)(D:autoParam 4e5 ATs):PE X 16e3 (tC v):=
 λ_ _ _ H _ I h=>C1 I σ i ⟨v,H,I,r,h⟩ D
theorem Kh(σ:Gl X x)(i:X.mg x=none)(d:bootBuiltins x=some u)(r:cX v u)(n:autoParam (x ≠ "__name__") ATs)(D:autoParam 4e5 ATs):PE X 16e3 (tC v):=
 λ_ _ _ H _ I h=>mr I σ i d ⟨v,H,I,r,h⟩ n D
variable{a b:Expr}{ta tb:TE}
variable{tA tB':TT}
def SR(t u:TT):TT:=λY H Q=>t Y H λc H1=>if c=true then u Y H1 Q else Q false H1
def Tw(t u:TT):TT:=λY H Q=>t Y H λc H1=>if c=true then Q true H1 else u Y H1 Q
def SI(t:TT):TT:=λY H Q=>t Y H λc H1=>Q (!c) H1
theorem JY(n:PT X a tA):PW X (.BoolOp .And [a] pos) tA:=by
 intro W pins s Y H Q I h;refine isTrue_and (dX (n pins s Y H Q I h) λc S e=>?_);cases c with
 |true=>exact isTrue_and_nil e
 |false=>exact e
theorem NW(n:PT X a tA):PW X (.BoolOp .Or [a] pos) tA:=by
 intro W pins s Y H Q I h;refine isTrue_or (dX (n pins s Y H Q I h) λc S e=>?_);cases c with
 |false=>exact isTrue_or_nil e
 |true=>exact e
theorem NX(n:PT X a tA)(B:PW X 13e5 tB'):PW X 11e1 (SR tA tB'):=by
 intro W pins s Y H Q I h;refine isTrue_and (dX (n pins s Y H _ I h) λc S ⟨H1,d,q⟩=>?_);cases c with
 |true=>exact B W pins S Y H1 Q d q
 |false=>exact⟨H1,d,q⟩
theorem Rc(n:PT X a tA)(B:PW X (.BoolOp .Or (b::rest) pos) tB'):PW X (.BoolOp .Or (a::b::rest) pos) (Tw tA tB'):=by
 intro W pins s Y H Q I h;refine isTrue_or (dX (n pins s Y H _ I h) λc S ⟨H1,d,q⟩=>?_);cases c with
 |true=>exact⟨H1,d,q⟩
 |false=>exact B W pins S Y H1 Q d q
theorem NY(n:PT X a tA):PT X (.UnaryOp .Not a pos) (SI tA):=by
 intro pins s Y H Q I h;exact isTrue_not (n pins s Y H (λc H1=>Q (!c) H1) I h)
def Q0(ta tb:TE):TE:=λY H Q=>ta Y H λx H1=>∃c,x=.bl c/\if c=true then tb Y H1 Q else Q (.bl false) H1
def QU(ta:TE):TE:=λY H Q=>ta Y H λx H1=>∃c,x=.bl c/\Q (.bl (!c)) H1
theorem Oc{op}{t:TE}(h:PE X a t):PE X (.BoolOp op [a] pos) t:=λpins s Y H Q I W=>BoolOp_one (h pins s Y H Q I W)
theorem Oh(n:PE X a ta)(B:PE X 13e5 tb):PE X 11e1 (Q0 ta tb):=by
 intro pins s Y H Q I h;refine BoolOp_and (dX (n pins s Y H _ I h) λv S ⟨x,H1,d,R,q⟩=>?_);obtain⟨c,rfl,q⟩:=q;cases R;refine Us ?_;cases c with
 |true=>exact B pins S Y H1 Q d q
 |false=>exact⟨.bl false,H1,d,rfl,q⟩
theorem Od(n:PE X a ta):PE X (.UnaryOp .Not a pos) (QU ta):=by
 intro pins s Y H Q I h;refine UnaryOp_ (dX (n pins s Y H _ I h) λv S ⟨x,H1,d,R,q⟩=>?_);obtain⟨c,rfl,q⟩:=q;cases R;exact not_of (Us ⟨.bl (!c),H1,d,rfl,q⟩)
def Tx(t:TT)(ta tb:TE):TE:=λY H Q=>t Y H λc H1=>if c=true then ta Y H1 Q else tb Y H1 Q
theorem Hr{c:Expr}(j:PT X c tA)(n:PE X a ta)(B:PE X b tb):PE X (.IfExp c a b pos) (Tx tA ta tb):=by
 intro pins s Y H Q I h;refine wpAny_IfExp (dX 16e8 λd S ⟨H1,i,q⟩=>?_);cases d with
 |true=>exact n pins S Y H1 Q i q
 |false=>exact B pins S Y H1 Q i q
end
def fK(K:W.Frag)(H:Hp)(a:Addr)(xs:List V):Prop:=
 Rd H a 7e5 \/
  ∃(o:Obj) (i:Array Value) (n:Nat),K.lookup a=some o/\o.cls=.type "list" /\ o.dict=none/\o.data=.seq i n/\i.size<=sizeLine/\bA xs i.toList
def gz(K:W.Frag)(H:Hp)(a:Addr)(xs:List V):Prop:=
 Rd H a (.tup xs) \/
  ∃(o:Obj) (i:Array Value) (n:Nat),K.lookup a=some o/\o.cls=.type "tuple" /\ o.dict=none/\o.data=.seq i n/\i.size<=sizeLine/\bA xs i.toList
noncomputable def Ta:Value->Option V
 |.none=>some .non
 |.bool b=>some (.bl b)
 |.int i _=>some 11e5
 |.str x _=>some (.str x)
 |.bytes b _=>some (.byt b)
 |.float b _=>some (.flt b)
 |.ref a=>some 15e7
 |.type n=>some (.ty n)
 |_=>none
theorem cX.abs{x:V}(r:cX x u):Ta u=some x:=by
 cases x with
 |non=>cases r;rfl
 |bl _=>cases r;rfl
 |int _=>obtain⟨t,rfl⟩:=r;rfl
 |str _=>obtain⟨t,rfl⟩:=r;rfl
 |byt _=>obtain⟨t,rfl⟩:=r;rfl
 |flt _=>obtain⟨t,rfl⟩:=r;rfl
 |ref _=>cases r;rfl
 |ty _=>cases r;rfl
theorem cX.inj{x y:V}(r:cX x u)(q:cX y u):x=y:=TV (r.abs.symm.trans q.abs)
theorem bA.inj:∀{xs ys:List V}{us:List Value},bA xs us->bA ys us->xs=ys
 |_,_,_,.nil,.nil=>rfl
 |_,_,_,.cons r t,.cons R i=>by rw[r.inj R,bA.inj t i]
section
variable{X:Cx}{xs ys:List V}
theorem fK.of(h:H a=some 7e5):fK K H a xs:=.inl (.inl h)
theorem gz.of(h:H a=some (.tup xs)):gz K H a xs:=.inl (.inl h)
theorem bf.list(I:bf X pins Y H s)(h:fK X.K H a xs):∃its:List Value,bA xs its/\PlainL 3e3 a 10e3/\xs.length<=sizeLine:=by
 rcases h with h|⟨o,its,n,d,i,D,S,μ,r⟩
 ·obtain⟨z,its,n,r,e⟩:=h.ok I.hok;exact⟨its,r,⟨_,n,e,rfl,rfl,rfl⟩,z⟩
 ·refine⟨its.toList,r,⟨o,n,I.kIn a o d,i,D,by simpa using S⟩,?_⟩;have e:=11e9;dsimp[Ut]at e;omega
theorem bf.tuple(I:bf X pins Y H s)(h:gz X.K H a xs):∃its:List Value,bA xs its/\IsTup 3e3 a 10e3/\xs.length<=sizeLine:=by
 rcases h with h|⟨o,its,n,d,i,_,S,μ,r⟩
 ·obtain⟨z,its,r,p⟩:=h.ok I.hok;exact⟨its,r,p.t,z⟩
 ·refine⟨its.toList,r,⟨o,I.kIn a o d,i,n,by simpa using S⟩,?_⟩;have e:=11e9;dsimp[Ut]at e;omega
theorem bf.list_inj(I:bf X pins Y H s)(h:fK X.K H a xs)(h':fK X.K H a ys):xs=ys:=by
 obtain⟨i,r,⟨o,n,e,_,_,d⟩,_⟩:=I.list h;obtain⟨its',R,⟨o',N,j,_,_,D⟩,_⟩:=I.list h';rw[e]at j;cases j;rw[d]at D;injection D with q _
 have:i=its':=by simpa using Uu Array.toList q
 subst this;exact r.inj R
theorem bf.tuple_inj(I:bf X pins Y H s)(h:gz X.K H a xs)(h':gz X.K H a ys):xs=ys:=by
 obtain⟨i,r,⟨o,e,_,n,d⟩,_⟩:=I.tuple h;obtain⟨its',R,⟨o',j,_,N,D⟩,_⟩:=I.tuple h';rw[e]at j;cases j;rw[d]at D;injection D with q _
 have:i=its':=by simpa using Uu Array.toList q
 subst this;exact r.inj R
end
noncomputable abbrev Cx.wish(X:Cx)(E:Value->Shared->Prop):Cx:={X with xe:=E}
abbrev Cx.nox(X:Cx):Cx:=X.wish λ_ _=>False
theorem Cx.Ok.wish{X:Cx}(ok:X.Ok)(E:Value->Shared->Prop):(X.wish E).Ok:=
 ⟨ok.mod,ok.kind,ok.glob,ok.blt,ok.above,ok.inj,ok.has,ok.cab,ok.hd,ok.frames,ok.stk,ok.exf,ok.bs,ok.bsz,ok.noex,ok.exfs,ok.funs,ok.frf⟩
theorem Cx.Ok.unwish{X:Cx}(ok:(X.wish E).Ok):X.Ok:=
 ⟨ok.mod,ok.kind,ok.glob,ok.blt,ok.above,ok.inj,ok.has,ok.cab,ok.hd,ok.frames,ok.stk,ok.exf,ok.bs,ok.bsz,ok.noex,ok.exfs,ok.funs,ok.frf⟩
section
variable{X:Cx}
theorem bf.wish(I:bf X pins Y H s)(E:Value->Shared->Prop):bf (X.wish E) pins Y H s:=⟨I.ok.wish E,I.os,I.bare,I.base,I.loc,I.cell,I.free,I.freeC,I.pin,I.hok,I.len⟩
theorem bf.unwish(I:bf (X.wish E) pins Y H s):bf X pins Y H s:=⟨I.ok.unwish,I.os,I.bare,I.base,I.loc,I.cell,I.free,I.freeC,I.pin,I.hok,I.len⟩
theorem SP.unwish{D:sA}{f:Flow}{s':Shared}(h:SP (X.wish E) pins D f s'):SP X pins D f s':=by
 cases f with
 |next=>obtain⟨d,H',I,q⟩:=h;exact⟨d,H',I.unwish,q⟩
 |brk=>obtain⟨d,H',I,q⟩:=h;exact⟨d,H',I.unwish,q⟩
 |cont=>obtain⟨d,H',I,q⟩:=h;exact⟨d,H',I.unwish,q⟩
 |ret u=>obtain⟨v,d,H',I,r,q⟩:=h;exact⟨v,d,H',I.unwish,r,q⟩
theorem l9.nox{st:List Stmt}{t:TS}(h:l9 X.nox st t):l9 X st t:=λpins s Y H D I W=>
 Ur (h pins s Y H D (I.wish _) W) (λ_ _ q=>q.unwish) λ_ _ z=>False.elim z
end
section
variable{X:Cx}{rest:List Stmt}{t u:TS}
def QV:TS:=λD Y H=>D.nx Y H
def SG(t u:TS):TS:=λD Y H=>t {D with nx:=u D} Y H
theorem J3:l9 X [] QV:=λ_ _ Y H _ I h=>Uv ⟨Y,H,I,h⟩
theorem Hf(h1:PS X st t)(h2:l9 X rest u):l9 X (st::rest) (SG t u):=by
 intro pins s Y H D I h;refine wpAny_execs_cons (dX (h1 pins s Y H {D with nx:=u D} I h) λf S q=>?_);cases f with
 |next=>
  obtain⟨d,H',i,q⟩:=q;exact h2 pins S d H' D i q
 |ret v=>exact q
 |brk=>exact q
 |cont=>exact q
theorem J2(h1:PS X st t):l9 X [st] t:=by
 intro pins s Y H D I h;refine wpAny_execs_cons (dX (h1 pins s Y H D I h) λf S q=>?_);cases f with
 |next=>exact Uv q
 |ret v=>exact q
 |brk=>exact q
 |cont=>exact q
theorem bf.quiet(I:bf X pins Y H s):interactive 1e9=false:=by simp[interactive,I.ok.kind]
def QW(te:TE):TS:=λD Y H=>te Y H λ_ H1=>D.nx Y H1
theorem J5(j:PE X e te)(hs:autoParam (swapsWith e none pos.line 1e9=pure false) ATr):PS X (.Expr e pos) (QW te):=by
 intro pins s Y H D I h;exact wpAny_Expr_any (dX 16e8 λv S ⟨x,H1,d,R,q⟩=>⟨Y,H1,d,q⟩) I.quiet hs
def SH(te:TE):TS:=λD Y H=>te Y H D.rt
theorem N0(j:PE X e te):PS X (.Return (some e) pos) (SH te):=by
 intro pins s Y H D I h;exact wpAny_Return_some (dX 16e8 λv S ⟨x,H1,d,R,q⟩=>⟨x,Y,H1,d,R,q⟩)
def SL(c:TT)(t u:TS):TS:=λD Y H=>c Y H λb H1=>if b=true then t D Y H1 else u D Y H1
theorem Re{c:Expr}{a b:List Stmt}{tc:TT}(j:PT X c tc)(n:l9 X a t)(B:l9 X b u):PS X (.If c a b pos) (SL tc t u):=by
 intro pins s Y H D I h;refine wpAny_If (dX 16e8 λd S ⟨H1,i,q⟩=>?_);cases d with
 |true=>exact n pins S Y H1 D i q
 |false=>exact B pins S Y H1 D i q
def M7:TS:=λ_ _ _=>False
theorem Hh:PS X st M7:=λ_ _ _ _ _ _ h=>h.elim
end
abbrev TG:=V->St->Hp->(St->Hp->Prop)->Prop
abbrev IF:=List V->St->Hp->(St->Hp->Prop)->Prop
def PG(X:Cx)(target:Expr)(t:TG):Prop:=
 ∀(pins:List 4e4)(s:Shared)(Y:St)(H:Hp)(v:V)(u:Value)(Q:St->Hp->Prop),bf X pins Y H s->cX v u->t v Y H Q ->
  wpAny 1e5 X.A (assign target 1e9 u) (λ_ s'=>∃d H',bf X pins d H' s'/\Q d H') X.xe s
def AJ(X:Cx)(S:List Expr)(t:IF):Prop:=
 ∀(pins:List 4e4)(s:Shared)(Y:St)(H:Hp)(y:List V)(U:List Value)(Q:St->Hp->Prop),bf X pins Y H s->bA y U->t y Y H Q ->
  wpAny 1e5 X.A (assignInOrder ((assignEach S 1e9).map 7e4) U) (λ_ s'=>∃d H',bf X pins d H' s'/\Q d H') X.xe s
abbrev MK:=V->V->V->Hp->(Hp->Prop)->Prop
def QF(X:Cx)(t:MK):Prop:=
 ∀(pins:List 4e4)(s:Shared)(Y:St)(H:Hp)(o i v:V)(O I u:Value)(Q:Hp->Prop),bf X pins Y H s->cX o O->cX i I->cX v u->t o i v H Q ->
  wpAny 1e5 X.A (setItem O I u) (λ_ s'=>∃H',bf X pins Y H' s'/\Q H') X.xe s
abbrev Qf:=V->V->Hp->VK->Prop
def Se(X:Cx)(op:Operator)(t:Qf):Prop:=
 ∀(pins:List 4e4)(s:Shared)(Y:St)(H:Hp)(x y:V)(v u:Value)(Q:VK),bf X pins Y H s->cX x v->cX y u->t x y H Q ->
  wpAny 1e5 X.A (inplaceOp op v u) 12e0 X.xe s
section
variable{X:Cx}
def y3(i:Nat):TG:=λv Y H Q=>Q (Y.set i (some v)) H
theorem Ka(hN:X.N.Nodup)(hi:X.N[i]?=some x)(j:E3 X.env.scope x)(F:autoParam 3e5 ATu):PG X 16e3 (y3 i):=by
 intro pins s Y H v u Q I r h;exact wpAny_assign_Name (sY I hN hi j r (λs' d=>⟨_,H,d,h⟩) F)
def S2:IF:=λy Y H Q=>y=[]/\Q Y H
def RD(t:TG)(u:IF):IF:=λy Y H Q=>∃v r,y=v::r/\t v Y H λd H'=>u r d H' Q
theorem J9:AJ X [] S2:=by
 intro pins s Y H y U Q I r h;obtain⟨e,h⟩:=h;subst e;cases r;exact assignInOrder_nil ⟨Y,H,I,h⟩
theorem Ho{es:List Expr}{t:TG}{u:IF}(h1:PG X e t)(h2:AJ X es u)(hs:autoParam ((assignEach (e::es) 1e9).map 7e4=assign e 1e9::(assignEach es 1e9).map 7e4) ATr):AJ X (e::es) (RD t u):=by
 intro pins s Y H y U Q I r h;obtain⟨v,V,j,h⟩:=h;subst j;cases r with
 |cons r R=>
  rw[hs];refine assignInOrder_cons (dX (h1 pins s Y H _ _ _ I r h) λ_ S ⟨d,H1,i,q⟩=>?_);exact h2 pins S d H1 _ _ Q i R q
def SZ(K:W.Frag)(n:Nat)(t:IF):TG:=λv Y H Q=>∃a xs,v=.ref a/\gz K H a xs/\xs.length=n/\t xs Y H Q
theorem N8{es:List Expr}{k:Nat}{t:IF}(y:X.calm=true)(h:AJ X es t)(N:autoParam ((assignEach es 1e9).length=n) ATr)(d:autoParam ((assignEach es 1e9).findIdx? 3e0=none) ATr):PG X (.Tuple es k pos) (SZ X.K n t):=by
 intro pins s Y H v u Q I r W;obtain⟨a,xs,q,z,L,W⟩:=W;subst q;cases r;obtain⟨S,R,J,μ⟩:=I.tuple z;refine assign_Tuple_tuple (I.ok.hd y) J (by simp[N,<- L,R.length]) d λh' B=>?_;have j:bf X pins Y H {s with heap:=h'}:=I.kept (t':=s.toks) λb o e=>B b o (T8 (T5 e)) e;exact h pins _ Y H xs _ Q j (by simpa using R) W
def S0(to I:TE)(t:MK):TG:=λv Y H Q=>to Y H λo H1=>I Y H1 λi H2=>t o i v H2 λd=>Q Y d
theorem N9{o i:Expr}{to ti:TE}{t:MK}(G:PE X o to)(hi:PE X i ti)(hs:QF X t)
  (z :autoParam (∀ v, assign (.Subscript o i pos) 1e9 v = (do
   let ov <- holding [v] (eval o 1e9)
   let iv <- holding [v,ov] (eval i 1e9)
   standAt pos
   holding [v,ov,iv] (setItem ov iv v)
   release [v,ov,iv] [])) ATt):PG X (.Subscript o i pos) (S0 to ti t):=by
 intro pins s Y H v u Q I r h;rw[z];refine Uw (Ux (dX (G pins s Y H _ I h) λov S ⟨x,H1,j,R,B⟩=>?_));refine Uw (Ux (dX (hi pins S Y H1 _ j B) λiv N ⟨y,H2,n,M,J⟩=>?_));refine Uw (Uy (Uw (Ux (dX (hs pins N Y H2 x y v ov iv u _ n R M r J) λ_ U ⟨d,q,L⟩=>?_))));exact wpAny_release ⟨Y,d,q,L⟩
def E5(te:TE)(g:TG):TS:=λD Y H=>te Y H λx H1=>g x Y H1 D.nx
theorem N3{g:TG}(j:PE X e te)(σ:PG X tg g)(hs:autoParam (swapsWithSole [tg] e pos.line 1e9=pure false) ATr)(W:autoParam (swappedStores [tg] e 1e9=pure none) ATr)(h1:autoParam ((assignEach [tg] 1e9).map 7e4=[assign tg 1e9]) ATr):PS X (.Assign [tg] e pos) (E5 te g):=by
 intro pins s Y H D I h;refine wpAny_Assign_stores (dX 16e8 λv S ⟨x,H1,d,R,i⟩=>?_) hs W;rw[h1];exact dX (σ pins S Y H1 x v _ d R i) λ_ N q=>q
theorem NZ(hN:X.N.Nodup)(hi:X.N[i]?=some x)(q:E3 X.env.scope x)(j:PE X e te)(hs:autoParam (swapsWith e (some (.Name x pos')) pos.line 1e9=pure false) ATr)(F:autoParam 3e5 ATu):
  PS X (.Assign [.Name x pos'] e pos) (E5 te (y3 i)):=by
 intro pins s Y H D I h;refine wpAny_Assign_Name (dX 16e8 λv S ⟨y,H1,d,R,z⟩=>?_) hs;exact sY d hN hi q R (λB n=>⟨_,H1,n,z⟩) F
def SQ(i:Nat)(te:TE)(I:Qf):TS:=λD Y H=>∃x,Y[i]?=some (some x)/\te Y H λy H1=>I x y H1 λz H2=>D.nx (Y.set i (some z)) H2
theorem N2{op:Operator}{ti:Qf}(hN:X.N.Nodup)(hi:X.N[i]?=some x)(j:E3 X.env.scope x)(M:PE X e te)(O:Se X op ti)(F:autoParam 3e5 ATu):
  PS X (.AugAssign (.Name x pos') op e pos) (SQ i te ti):=by
 intro pins s Y H D I h;obtain⟨v,J,h⟩:=h;obtain⟨m,σ,S⟩:=I.loc;have vis:Sa X.env.scope x:=by rcases j with k|k;exact .inl k;exact .inr (.inl k)
 obtain⟨u,r,l⟩:=S i x v hi J vis;refine wpAny_AugAssign_Name ?_
 have G:wpAny 1e5 X.A (eval e 1e9) (λw s₂=>wpAny 1e5 X.A (inplaceOp op u w) (λr s₃=>wpAny 1e5 X.A (storeName 1e9 x r) (λ_=>SP X pins D .next) X.xe s₃) X.xe s₂) X.xe s:=by
  refine dX (M pins s Y H _ I h) λw s1 ⟨y,H1,n,R,μ⟩=>?_;refine dX (O pins s1 Y H1 v y u w _ n r R μ) λz s2 ⟨zv,H2,q,W,V⟩=>?_;exact sY q hN hi j W (λs3 B=>⟨_,H2,B,V⟩) F
 rcases l with⟨d,U⟩|⟨d,c,L,hcell⟩
 ·exact wpAny_loadName_local I.ok.kind d σ U G
 ·rcases d with d | d
  ·exact wpAny_loadName_cell I.ok.kind d L hcell G
  ·rcases j with k | k
   ·have:X.env.scope.names.lookup x=some .free:=d;rw[k]at this;cases this
   ·have:X.env.scope.names.lookup x=some .free:=d;rw[k]at this;cases this
def TH(f:Int->Int->Int):Qf:=λx y H Q=>∃i j,x=.int i/\y=.int j/\Q (.int (f i j)) H
theorem O9:Se X .Add (TH λi j=>i+j):=by
 intro pins s Y H x y v u Q I R M h;obtain⟨i,j,d,B,q⟩:=h;subst d;subst B;obtain⟨t,rfl⟩:=R;obtain⟨n,rfl⟩:=M;exact iadd_int ⟨.int _,H,I.tok _,⟨_,rfl⟩,q⟩
end
section
variable{X:Cx}
def M5(c:TT)(tb:TS):TS:=λD Y H=>∃W:Nat->St->Hp->Prop,(∃m,W m Y H)/\∀m Y H,W m Y H ->
 c Y H λb H1=>if b=true then ∃N:St->Hp->Prop,(∀d H',N d H'->∃y,y<m/\W y d H')/\tb {D with nx:=N,ct:=N,bk:=D.nx} Y H1 else D.nx Y H1
theorem Hg{c:Expr}{tc:TT}{tb:TS}(U:PassesOwn 1e5 X.A 1e9 X.xe)(O:PT X c tc)(μ:l9 X body tb):PS X (.While c body [] pos) (M5 tc tb):=by
 intro pins s Y H D I h;obtain⟨W,⟨m0,F⟩,turn⟩:=h;refine wpAny_While (codeAny_whileLoop (λn s'=>∃q H',bf X pins q H' s'/\W n q H') ?_ m0 ⟨Y,H,I,F⟩)
 rintro n V ⟨i,H1,σ,w1⟩
 refine Uz U (dX (O pins V i H1 _ σ (turn n i H1 w1)) λb R ⟨H2,S,J⟩=>?_);cases b with
 |true=>
  obtain⟨N,hN,J⟩:=J;rw[T1 rfl];refine Uz U (dX (μ pins R i H2 _ S J) λf s3 L=>?_);cases f with
  |next=>
   obtain⟨d,j,y,B⟩:=L;obtain⟨z,M,G⟩:=hN d j B;exact⟨z,M,d,j,y,G⟩
  |cont=>
   obtain⟨d,j,y,B⟩:=L;obtain⟨z,M,G⟩:=hN d j B;exact⟨z,M,d,j,y,G⟩
  |brk=>exact L
  |ret v=>exact L
 |false=>
  rw[T3 UA];exact Uv ⟨i,H2,S,J⟩
end
structure It where
 go:Nat->Hp->Prop
 yld:Nat->Hp->V->Hp->Prop
 stop:Nat->Hp->Prop
def oH(X:Cx)(pins:List 4e4)(H:Hp)(b:Addr):Prop:=
 H b=none/\b≠X.env.locals/\b∉X.fs/\(b∈X.ex\/X.s₀.heap.objs.size<=b)/\(∀x c,X.env.cells.lookup x=some c->c≠b)/\∀p∈X.pn++pins,p.1≠b
theorem bf.fpOk{X:Cx}{H':Hp}{b:Addr}(I:bf X pins Y H s)(B:s.heap.objs.size<=b)(n:H' b=none):oH X pins H' b:=by
 refine⟨n,UB (T6 I.lt B),I.nofs B,.inr (Ub I.sz B),λx c e z=>?_,λp d z=>?_⟩
 ·obtain⟨v,q⟩:=I.cell x c e;exact absurd (T6 q.lt (by rw[z];exact B)) (T7 _)
 ·exact absurd (T6 (T5 (I.pin p d).1) (by rw[z];exact B)) (T7 _)
structure AX(P:Program)(w:World)(K:W.Frag)(tg:Expr)(J:It)(fp:List Addr)(it:Addr)(tn:Nat->Heap->Prop):Prop where
 mem:it∈fp
 obj:∀i h,tn i h->∀b∈fp,∃o,h.get? b=some o/\∀v,o.data≠.cell v
 keep:∀i h h',tn i h->(∀b∈fp,∀o,h.get? b=some o->h'.get? b=some o)->tn i h'
 item:∀(X:Cx),X.prog=P->X.w=w->X.K=K->X.calm=true->∀(i:Nat)(pins:List 4e4)(s:Shared)(Y:St)(H:Hp)(E:Value->Shared->Prop),bf X pins Y H s->(∀b∈fp,oH X pins H b)->tn i 3e3->J.go i H ->
  wpAny (model P w) X.A (pyNext (.ref it)) (λr s1=>∃u,r=some u /\
   wpAny (model P w) X.A (letOwnedTupleGo tg (.ref it) u) (λ_ s2=>∃x H',bf X pins Y H' s2/\cX x u/\J.yld i H x H'/\tn (i+1) s2.heap/\∀b∈fp,H' b=none) E s1) E s
 done:∀(X:Cx),X.prog=P->X.w=w->X.K=K->X.calm=true->∀(i:Nat)(pins:List 4e4)(s:Shared)(Y:St)(H:Hp)(E:Value->Shared->Prop),bf X pins Y H s->(∀b∈fp,oH X pins H b)->tn i 3e3->J.stop i H ->
  wpAny (model P w) X.A (pyNext (.ref it)) (λr s1=>r=none/\bf X pins Y H s1) E s
 self:∀(A:Around)(i:Nat)(s:Shared)(Q:Value->Shared->Prop)(E:Value->Shared->Prop),tn i 3e3->Q (.ref it) s->wpAny (model P w) A (pyIter (.ref it)) Q E s
abbrev TI:=St->Hp->(It->Hp->Prop)->Prop
def Sr(X:Cx)(pins:List 4e4)(Y:St)(tg:Expr)(R:It->Hp->Prop)(itv:Value)(N:Shared):Prop:=
 ∃(i:Addr)(F:List Addr)(n:Nat->Heap->Prop)(J:It)(H':Hp),itv=.ref i/\bf X pins Y H' N/\AX 13e0 X.w X.K tg J F i n/\n 0 N.heap/\(∀b∈F,oH X pins H' b)/\R J H'
def PI(X:Cx)(tg iter:Expr)(i:TI):Prop:=
 ∀(pins:List 4e4)(s:Shared)(Y:St)(H:Hp)(R:It->Hp->Prop),bf X pins Y H s->i Y H R ->
  wpAny 1e5 X.A (eval iter 1e9) (λv S=>wpAny 1e5 X.A (pyIter v) (Sr X pins Y tg R) X.xe S) X.xe s
theorem Cg{M:Model}{o:Obj}{n:String}{vs:Array Value}{Q:Unit->Shared->Prop}(G:s.heap.get? it=some o)(i:o.cls=.type n)(D:o.data=.fields vs)(N:["enumerate", "zip", "dict_itemiterator", "dict_reverseitemiterator", "odict_iterator", "itertools.zip_longest", "itertools.pairwise"].contains n=false)(hQ:Q () s):wpAny M A (letOwnedTupleGo tg (.ref it) u) Q E s:=by
 unfold letOwnedTupleGo
 cases tg <;> first
  |exact UC hQ
  |(cases u <;> first
    |exact UC hQ
    | (refine Uw (UD G ?_)
       rw[i,D];show wpAny M A (if (["enumerate", "zip", "dict_itemiterator", "dict_reverseitemiterator", "odict_iterator", "itertools.zip_longest", "itertools.pairwise"].contains n&&vs[0]? == some (rawInt _))=true then _ else _) Q E s;rw[T3 (by intro h;rw[N,UE]at h;cases h)]
       exact UC hQ))
def Sg(K:W.Frag)(a:Addr):It:=
 ⟨λi H=>∃xs x,fK K H a xs/\xs[i]?=some x,λi H x H'=>H'=H/\∀xs,fK K H a xs->xs[i]?=some x,λi H=>∃xs,fK K H a xs/\xs.length<=i⟩
def Sv(K:W.Frag)(a:Addr):It:=
 ⟨λi H=>∃xs x,gz K H a xs/\xs[i]?=some x,λi H x H'=>H'=H/\∀xs,gz K H a xs->xs[i]?=some x,λi H=>∃xs,gz K H a xs/\xs.length<=i⟩
def PZ(lo:Int)(n:Nat):It:=⟨λi _=>i<n,λi H x H'=>H'=H/\x=.int (lo+i),λi _=>n<=i⟩
theorem DD(a it:Addr):AX P w K tg (Sg K a) [it] it (λi h=>h.IsListIter it a i) where
 mem:=by simp
 obj:=λi h st b B=>by
  have e:b=it:=by simpa using B
  subst e;obtain⟨o,e,c,d⟩:=st;exact⟨o,e,λv z=>by rw[d]at z;cases z⟩
 keep:=λi h h' st k=>st.at λo e=>k it 0e9 o e
 item:=by
  intro X hP M hK μ i pins s Y H E I F st σ;subst hP M hK;obtain⟨xs,x,q,N⟩:=σ;obtain⟨U,R,p,hz⟩:=I.list q;obtain⟨u,hu,ru⟩:=R.get N;obtain⟨n,y,V,G,J,L⟩:=F it 0e9;refine wpAny_pyNext_list_item st p.isList (x:=u) (by simpa using hu) λh' S sb=>?_;have D:bf X pins Y H {s with heap:=h'}:=I.turned (t':=s.toks) (λb o B e=>(sb.2 b B).trans e) n y G J L;obtain⟨o,e,c,d⟩:=id S;exact⟨u,rfl,Cg (s:={s with heap:=h'}) e c d 1e2 ⟨x,H,D,ru,⟨rfl,λys hy=>by rw[I.list_inj hy q];exact N⟩,S,λb B=>(F b B).1⟩⟩
 done:=by
  intro X hP M hK μ i pins s Y H E I F st σ;subst hP M hK;obtain⟨xs,q,N⟩:=σ;obtain⟨U,R,p,hz⟩:=I.list q;obtain⟨n,y,V,G,J,L⟩:=F it 0e9;have hl:=R.length;exact wpAny_pyNext_list_end (I.ok.hd μ) st p.isList 6e9 λh' O=>⟨rfl,I.turned (t':=s.toks) (λb o B e=>O b o B e) n y G J L⟩
 self:=λ_ _ _ _ _ st h=>wpAny_pyIter_listiter st h
theorem Bj(a it:Addr):AX P w K tg (Sv K a) [it] it (λi h=>h.IsTupleIter it a i) where
 mem:=by simp
 obj:=λi h st b B=>by
  have e:b=it:=by simpa using B
  subst e;obtain⟨o,e,c,d⟩:=st;exact⟨o,e,λv z=>by rw[d]at z;cases z⟩
 keep:=λi h h' st k=>st.at λo e=>k it 0e9 o e
 item:=by
  intro X hP N hK μ i pins s Y H E I F st σ;subst hP N hK;obtain⟨xs,x,q,U⟩:=σ;obtain⟨S,R,p,hz⟩:=I.tuple q;obtain⟨u,hu,ru⟩:=R.get U;obtain⟨y,G,V,J,L,M⟩:=F it 0e9;refine wpAny_pyNext_tuple_item st (show s.heap.IsTuple a S.toArray from p) (x:=u) (by simpa using hu) λh' n sb=>?_;have D:bf X pins Y H {s with heap:=h'}:=I.turned (t':=s.toks) (λb o B e=>(sb.2 b B).trans e) y G J L M;obtain⟨o,e,c,d⟩:=id n;exact⟨u,rfl,Cg (s:={s with heap:=h'}) e c d 1e2 ⟨x,H,D,ru,⟨rfl,λys hy=>by rw[I.tuple_inj hy q];exact U⟩,n,λb B=>(F b B).1⟩⟩
 done:=by
  intro X hP N hK μ i pins s Y H E I F st σ;subst hP N hK;obtain⟨xs,q,U⟩:=σ;obtain⟨S,R,p,hz⟩:=I.tuple q;obtain⟨y,G,V,J,L,M⟩:=F it 0e9;have hl:=R.length;exact wpAny_pyNext_tuple_end (I.ok.hd μ) st (show s.heap.IsTuple a S.toArray from p) 6e9 λh' O=>⟨rfl,I.turned (t':=s.toks) (λb o B e=>O b o B e) y G J L M⟩
 self:=λ_ _ _ _ _ st h=>wpAny_pyIter_tupleiter st h
theorem Bk(it:Addr)(lo:Int)(n:Nat):AX P w K tg (PZ lo n) [it] it (λi h=>IsRangeIter h it (lo+(i:Nat)*1) ((n:Int)-(i:Nat)) 1) where
 mem:=by simp
 obj:=λi h st b B=>by
  have e:b=it:=by simpa using B
  subst e
  exact⟨_,st,λv z=>by
   have D:Data.fields _=Data.cell v:=z
   cases D⟩
 keep:=λi h h' st k=>k it 0e9 _ st
 item:=by
  intro X hP M hK q i pins s Y H E I F st σ;subst hP M hK;obtain⟨j,y,V,G,J,L⟩:=F it 0e9;have W:=Walks.range (prog:=13e0) (w:=X.w) (I.ok.hd q) it lo 1 n;refine W.item i s _ _ σ st λv h' tk U S μ=>?_;obtain⟨t,rfl⟩:=U;have N:bf X pins Y H {s with heap:=h',toks:=tk}:=I.turned (λb o B e=>μ b o (by simpa using B) e) j y G J L;refine⟨_,rfl,Cg (s:={s with heap:=h',toks:=tk}) (n:="range_iterator") S rfl rfl 1e2 ⟨.int (lo+i),H,N,⟨t,?_⟩,⟨rfl,rfl⟩,S,λb B=>(F b B).1⟩⟩;rw[Int.mul_one]
 done:=by
  intro X hP M hK q i pins s Y H E I F st σ;subst hP M hK;obtain⟨j,y,V,G,J,L⟩:=F it 0e9;exact wpAny_pyNext_range_end (I.ok.hd q) st (by have:n<=i:=σ;omega) λh' O=>⟨rfl,I.turned (t':=s.toks) (λb o B e=>O b o B e) j y G J L⟩
 self:=λ_ _ _ _ _ st h=>wpAny_pyIter_rangeiter st h
section
variable{X:Cx}
theorem zE{R:It->Hp->Prop}{lo hi:Int}{t u v:Tok}(I:bf X pins Y H s)(h1:-(2^62)<=lo)(h2:lo<2^62)(j:-(2^62)<=hi)(n:hi<2^62)(q:R (PZ lo (hi-lo).toNat) H):wpAny 1e5 X.A (pyIter 15e5) (Sr X pins Y tg R) E {s with heap:=s.heap.push {cls:=.type "range",data:=.fields #[.int lo t,.int hi u,.int 1 v]},toks:=tk}:=by
 refine wpAny_pyIter_range (IsRange.new ..) (small_one h1 h2 j n) ?_;have d:bf X pins Y H {s with heap:=s.heap.push {cls:=.type "range",data:=.fields #[.int lo t,.int hi u,.int 1 v]},toks:=tk}:=I.kept λb o e=>UF _ e
 refine⟨(s.heap.push {cls:=.type "range",data:=.fields #[.int lo t,.int hi u,.int 1 v]}).objs.size,[(s.heap.push {cls:=.type "range",data:=.fields #[.int lo t,.int hi u,.int 1 v]}).objs.size],_,_,H,rfl,
  d.kept (t':=tk) λb o e=>UF _ e,Bk _ lo (hi-lo).toNat,?_,λb y=>?_,q⟩
 ·have i : lo + ((0 : Nat) : Int) * 1 = lo := by simp
  have B:(((hi-lo).toNat:Nat):Int)-((0:Nat):Int)=Builtin.Range.rangeSize lo hi 1:=by rw[rangeSize_one];split <;> omega
  show IsRangeIter _ _ (lo+((0:Nat):Int)*1) ((((hi-lo).toNat:Nat):Int)-((0:Nat):Int)) 1;rw[i,B];exact T4 _ rfl
 ·have e : b = (s.heap.push { cls := .type "range", data := .fields #[.int lo t, .int hi u, .int 1 v] }).objs.size := by simpa using y
  subst e;exact d.fpOk 6e3 (d.hok.fresh 6e3)
def RC(ta:TA):TI:=λY H R=>ta Y H λy H1=>∃j:Int,y=[.int j]/\-(2^62)<=j/\j<2^62/\R (PZ 0 j.toNat) H1
def RB(ta:TA):TI:=λY H R=>ta Y H λy H1=>∃i j:Int,y=[.int i,.int j]/\(-(2^62)<=i/\i<2^62/\-(2^62)<=j/\j<2^62)/\R (PZ i (j-i).toNat) H1
theorem D1{a:Expr}{p:Pos}(σ:Gl X "range")(M:X.mg "range" = none)(n:PA X [a] ta)(hs:autoParam (starEach [a] 1e9=[9e5]) ATr):PI X tg (.Call (.Name "range" p) [a] [] pos) (RC ta):=by
 intro pins s Y H R I h;refine Call_ (mr I σ M boot_range (UH (dX (n pos pins s Y H _ I h) λU S ⟨V,H1,i,y,d⟩=>?_) hs rfl));obtain⟨j,e,d,J,q⟩:=d;subst e;cases y with
 |cons r z=>
  cases z;obtain⟨t,rfl⟩:=r;exact call_range_1 (zE i 0e1 0e1 d J (by simpa using q))
theorem D0{a b:Expr}{p:Pos}(σ:Gl X "range")(M:X.mg "range" = none)(B:PA X [a,b] ta)(hs:autoParam (starEach [a,b] 1e9=[9e5,(false,eval b 1e9)]) ATr)(d:autoParam (starEach [b] 1e9=[(false,eval b 1e9)]) ATr):
  PI X tg (.Call (.Name "range" p) [a,b] [] pos) (RB ta):=by
 intro pins s Y H R I h;refine Call_ (mr I σ M boot_range (UH (dX (B pos pins s Y H _ I h) λD U ⟨V,H1,z,S,n⟩=>?_) (by rw[hs,d]) (by rw[d];rfl)));obtain⟨i,j,e,⟨n,J,L,G⟩,q⟩:=n;subst e;cases S with
 |cons r y=>
  cases y with
  |cons N y=>
   cases y;obtain⟨t,rfl⟩:=r;obtain⟨μ,rfl⟩:=N;exact call_range_2 (zE z n J L G q)
def SM(I:TI)(g:TG)(tb:TS):TS:=λD Y H=>I Y H λJ H1=>∃W:Nat->Nat->St->Hp->Prop,(∃m,W 0 m Y H1)/\∀i m Y H,W i m Y H ->
 (J.stop i H/\D.nx Y H)\/(J.go i H/\∃N:St->Hp->Prop,(∀d H',N d H'->∃y,y<m/\W (i+1) y d H')/\∀x H',J.yld i H x H'->g x Y H' λj H2=>tb {D with nx:=N,ct:=N,bk:=D.nx} j H2)
def sO(F:List Addr)(h:Heap):List 4e4:=F.filterMap λb=>(h.get? b).map λo=>(b,o)
theorem lL{b:Addr}{o:Obj}(B:b∈fp)(e:h.get? b=some o):(b,o)∈sO fp h:=UI.mpr ⟨b,B,by rw[e];rfl⟩
theorem D9{p:Addr×Obj}(i:p∈sO fp h):p.1∈fp/\h.get? p.1=some p.2:=by
 obtain⟨b,B,e⟩:=UI.mp i;cases q:h.get? b with
 |none=>rw[q]at e;cases e
 |some o=>
  rw[q]at e;have d:(b,o)=p:=TV e;subst d;exact⟨B,q⟩
theorem bf.pinned(I:bf X pins Y H s)(F:∀b∈fp,oH X pins H b)(G:∀b∈fp,∃o,s.heap.get? b=some o/\∀v,o.data≠.cell v):bf X (pins++sO fp 3e3) Y H s:=
 I.pins_of λp j=>(Uj.mp j).elim (λz=>I.pin p (UJ _ z)) λz=>by
  obtain⟨B,e⟩:=D9 z;obtain⟨n,y,V,_⟩:=F p.1 B;obtain⟨o,i,d⟩:=G p.1 B;rw[e]at i;cases i;exact⟨e,n,y,V,d⟩
theorem bf.unpinned{pl:List 4e4}(I:bf X (pins++pl) Y H s):bf X pins Y H s:=I.pins_of λp d=>I.pin p (UJ _ (Uk _ d))
theorem N1{wi:TI}{g:TG}{tb:TS}(U:PassesOwn 1e5 X.A 1e9 X.xe)(hc:X.calm=true)(hi:PI X tg iter wi)(hg:PG X tg g)(B:l9 X body tb)(hs:autoParam 3e7 ATt):PS X (.For tg iter body [] pos) (SM wi g tb):=by
 intro pins s Y H D I h;refine wpAny_For (dX (hi pins s Y H _ I h) λv s1 h1=>dX h1 λitv s2 h2=>?_) hs;obtain⟨it,F,tn,J,H2,e,I2,T,st2,f2,W,⟨m0,w0⟩,turn⟩:=h2;subst e;have stat:∀{H':Hp},(∀b∈F,H' b=none)->∀b∈F,oH X pins H' b:=λhn b B=>⟨hn b B,(f2 b B).2⟩;refine codeAny_forLoop_any (λn s'=>∃i z H',bf X pins z H' s'/\tn i s'.heap/\(∀b∈F,H' b=none)/\W i n z H') ?_ m0 ⟨0,Y,H2,I2,st2,λb B=>(f2 b B).1,w0⟩
 rintro n s3 ⟨i,G,O,I3,μ,M,w3⟩
 rcases turn i n G O w3 with⟨stop,qn⟩|⟨go,N,hN,step⟩
 ·refine Uz U (dX (T.done X rfl rfl rfl hc i pins s3 G O X.xe I3 (stat M) μ stop) λr s4 ⟨hr,I4⟩=>?_);subst hr;exact Uv ⟨G,O,I4,qn⟩
 ·refine Uz U (dX (T.item X rfl rfl rfl hc i pins s3 G O X.xe I3 (stat M) μ go) λr s4 ⟨u, hr, h4⟩ => ?_);subst hr;refine Uz U (dX h4 λ_ s5 ⟨x,H5,I5,r5,y5,S,R⟩=>?_);have V:=I5.pinned (stat R) (T.obj _ _ S);refine Uz U (dX (hg _ s5 G H5 x u _ V r5 (step x H5 y5)) λ_ s6 ⟨Y6,H6,I6,q6⟩=>?_);refine Uz U (dX (B _ s6 Y6 H6 _ I6 q6) λf s7 L=>?_)
  have again:∀{j:St}{q:Hp},bf X (pins++sO F s5.heap) j q s7->N j q->∃m,m<n/\∃i z H',bf X pins z H' s7/\tn i s7.heap/\(∀b∈F,H' b=none)/\W i m z H':=λ{j q} y σ=>by
   obtain⟨m',hm,w7⟩:=hN j q σ;refine⟨m',hm,i+1,j,q,y.unpinned,T.keep _ _ _ S λb B o e=>(y.pin (b,o) (UJ _ (UJ _ (lL B e)))).1,λb B=>?_,w7⟩;obtain⟨o,e,d⟩:=T.obj _ _ S b B;exact(y.pin (b,o) (UJ _ (UJ _ (lL B e)))).2.1
  cases f with
  |next=>obtain⟨j,q,y,σ⟩:=L;exact again y σ
  |cont=>obtain⟨j,q,y,σ⟩:=L;exact again y σ
  |brk=>obtain⟨j,q,y,L⟩:=L;exact⟨j,q,y.unpinned,L⟩
  |ret v=>obtain⟨x7,j,q,y,r7,L⟩:=L;exact⟨x7,j,q,y.unpinned,r7,L⟩
end
abbrev R2:=V->V->Hp->VK->Prop
def kd(X:Cx)(f:Value->Value->Sem Value)(r:R2):Prop:=
 ∀(pins:List 4e4)(s:Shared)(Y:St)(H:Hp)(x y:V)(v u:Value)(Q:VK),bf X pins Y H s->cX x v->cX y u->r x y H Q ->
  wpAny 1e5 X.A (f v u) 12e0 X.xe s
def Sb(X:Cx)(f:Value->Sem Value)(r:V->Hp->VK->Prop):Prop:=
 ∀(pins:List 4e4)(s:Shared)(Y:St)(H:Hp)(x:V)(v:Value)(Q:VK),bf X pins Y H s->cX x v->r x H Q ->
  wpAny 1e5 X.A (f v) 12e0 X.xe s
def cY(X:Cx)(f:Value)(r:List V->Hp->VK->Prop):Prop:=
 ∀(pins:List 4e4)(s:Shared)(Y:St)(H:Hp)(xs:List V)(U:List Value)(Q:VK),bf X pins Y H s->bA xs U->r xs H Q ->
  wpAny 1e5 X.A (call f U) 12e0 X.xe s
def Tb(X:Cx)(r:V->Hp->(Bool->Hp->Prop)->Prop):Prop:=
 ∀(pins:List 4e4)(s:Shared)(Y:St)(H:Hp)(x:V)(v:Value)(Q:Bool->Hp->Prop),bf X pins Y H s->cX x v->r x H Q ->
  wpAny 1e5 X.A (truthy v) (TP X pins Y Q) X.xe s
def RY(r:R2)(ta tb:TE):TE:=λY H Q=>ta Y H λx H1=>tb Y H1 λy H2=>r x y H2 Q
def Tu(r:V->Hp->VK->Prop)(ta:TE):TE:=λY H Q=>ta Y H λx H1=>r x H1 Q
def rI(C:Int->Int->Prop)(g:Int->Int->V):R2:=λx y H Q=>∃i j,x=.int i/\y=.int j/\C i j/\Q (g i j) H
def Mn(g:Int->Int->V):R2:=λx y H Q=>∃i j,x=.int i/\y=.int j/\Q (g i j) H
def rU(g:Int->V):V->Hp->VK->Prop:=λx H Q=>∃i,x=.int i/\Q (g i) H
section
variable{X:Cx}{a b c:Expr}{ta tb tc:TE}
theorem MH(i:PE X a ta)(B:PE X b tb){R:V->V->Hp->Prop}(I:bf X pins Y H s)(h:ta Y H λx H1=>tb Y H1 λy H2=>R x y H2){f:Value->Value->Sem Value}(F:∀v u s2 x y H2,bf X pins Y H2 s2->cX x v->cX y u->R x y H2->wpAny 1e5 X.A (f v u) Q X.xe s2):
  wpAny 1e5 X.A (eval a 1e9) (λv s₁=>wpAny 1e5 X.A (eval b 1e9) (λu s₂=>wpAny 1e5 X.A (f v u) Q X.xe s₂) X.xe s₁) X.xe s:=by
 refine dX (i pins s Y H _ I h) λv S ⟨x,H1,d,j,q⟩=>?_;refine dX (B pins S Y H1 _ d q) λu s2 ⟨y,H2,n,M,J⟩=>?_;exact F v u s2 x y H2 n j M J
theorem Rg{op:Operator}{r:R2}(G:kd X (binaryOp op) r)(d:PE X a ta)(B:PE X b tb):PE X (.BinOp a op b pos) (RY r ta tb):=by
 intro pins s Y H Q I h;exact wpAny_BinOp (MH d B I h λv u N x y H2 n R σ q=>G pins N Y H2 x y v u Q n R σ q)
theorem Rf{op:UnaryOp}{r:V->Hp->VK->Prop}(G:Sb X (unaryOp op) r)(n:PE X a ta):PE X (.UnaryOp op a pos) (Tu r ta):=by
 intro pins s Y H Q I h;exact UnaryOp_ (dX (n pins s Y H _ I h) λv S ⟨x,H1,d,R,q⟩=>G pins S Y H1 x v Q d R q)
theorem PQ{f:Value->Value->Sem Value}{g:Int->Int->Int}(rule:∀(i j:Int)(t u:Tok)(s:Shared)(Q:Value->Shared->Prop)(E:Value->Shared->Prop),C i j->Q (.int (g i j) s.toks) {s with toks:=s.toks+1}->wpAny 1e5 X.A (f (.int i t) (.int j u)) Q E s):
  kd X f (rI C λi j=>.int (g i j)):=by
 intro pins s Y H x y v u Q I R σ h;obtain⟨i,j,rfl,rfl,d,q⟩:=h;obtain⟨t,rfl⟩:=R;obtain⟨n,rfl⟩:=σ;exact rule i j t n s _ _ d ⟨.int (g i j),H,I.tok _,⟨_,rfl⟩,q⟩
theorem IK{f:Value->Value->Sem Value}{g:Int->Int->Int}
  (rule:∀(i j:Int)(t u:Tok)(s:Shared)(Q:Value->Shared->Prop)(E:Value->Shared->Prop),Q (.int (g i j) s.toks) {s with toks:=s.toks+1}->wpAny 1e5 X.A (f (.int i t) (.int j u)) Q E s) :
  kd X f (Mn λi j=>.int (g i j)):=by
 intro pins s Y H x y v u Q I R σ h;obtain⟨i,j,rfl,rfl,q⟩:=h;obtain⟨t,rfl⟩:=R;obtain⟨d,rfl⟩:=σ;exact rule i j t d s _ _ ⟨.int (g i j),H,I.tok _,⟨_,rfl⟩,q⟩
def IV(i j:Int):Prop:=0<j/\j<1073741824
def DB(i j:Int):Prop:=0<=j/\j<=1000000/\i.natAbs<2^64
def yV(i j:Int):Prop:=(-(2^64)<i/\i<2^64)\/(-(2^64)<j/\j<2^64)
theorem yV.ok{i j:Int}(h:yV i j):IntMulOk i j:=by
 rcases h with⟨h1,h2⟩|⟨h1,h2⟩
 ·exact .of_left (intBits_le_64 h1 h2)
 ·exact .of_right (intBits_le_64 h1 h2)
theorem Bi(k:Nat):(0:Int)<=2^k:=by
 rw[two_pow_cast];exact Int.natCast_nonneg _
theorem OA:kd X (binaryOp .Add) (Mn λi j=>.int (i+j)):=IK λ_ _ _ _ _ _ _ q=>add_int q
theorem Oj:kd X (binaryOp .Sub) (Mn λi j=>.int (i-j)):=IK λ_ _ _ _ _ _ _ q=>sub_int q
theorem Os:kd X (binaryOp .Mult) (rI yV λi j=>.int (i*j)):=PQ λ_ _ _ _ _ _ _ d q=>mul_int q d.ok
theorem Kq:kd X (binaryOp .FloorDiv) (rI IV λi j=>.int (i / j)):=PQ λi j _ _ _ _ _ d q=>by
 have h1:(0:Int)<j:=d.1;have h2:j<1073741824:=d.2;exact floordiv_int 0e1 (by rw[Int.fdiv_eq_ediv_of_nonneg i 0e1];exact q) (.inl (PyProof.noPylong_small 0e1))
theorem Ot:kd X (binaryOp .Mod) (rI (λ_ j=>0<j) λi j=>.int (i%j)):=PQ λi j _ _ _ _ _ d q=>by
 have h1:(0:Int)<j:=d;exact mod_int' 0e1 (by rw[Int.fmod_eq_emod_of_nonneg i 0e1];exact q)
theorem Oo:kd X (binaryOp .Pow) (rI DB λi j=>.int (i^j.toNat)):=PQ λ_ _ _ _ _ _ _ d q=>pow_int_small d.1 d.2.1 d.2.2 q
theorem Om:kd X (binaryOp .LShift) (rI DB λi j=>.int (i*2^j.toNat)):=PQ λ_ _ _ _ _ _ _ d q=>lshift_int_small d.1 d.2.1 d.2.2 q
theorem Ol:kd X (binaryOp .RShift) (rI (λ_ j=>0<=j) λi j=>.int (i / 2^j.toNat)):=PQ λi j _ _ _ _ _ d q=>
 rshift_int d (by rw[Int.fdiv_eq_ediv_of_nonneg i (Bi _)];exact q)
theorem Oy:kd X (binaryOp .BitAnd) (Mn λi j=>.int (Builtin.bitAnd i j)):=IK λ_ _ _ _ _ _ _ q=>and_int q
theorem Rl:kd X (binaryOp .BitOr) (Mn λi j=>.int (Builtin.bitOr i j)):=IK λ_ _ _ _ _ _ _ q=>or_int q
theorem Tt{f:Value->Sem Value}{g:Int->Int}
  (rule:∀(i:Int)(t:Tok)(s:Shared)(Q:Value->Shared->Prop)(E:Value->Shared->Prop),Q (.int (g i) s.toks) {s with toks:=s.toks+1}->wpAny 1e5 X.A (f (.int i t)) Q E s) :
  Sb X f (rU λi=>.int (g i)):=by
 intro pins s Y H x v Q I R h;obtain⟨i,rfl,q⟩:=h;obtain⟨t,rfl⟩:=R;exact rule i t s _ _ ⟨.int (g i),H,I.tok _,⟨_,rfl⟩,q⟩
theorem MX:Sb X (unaryOp .USub) (rU λi=>.int (-i)):=Tt λ_ _ _ _ _ q=>neg_int q
end
section
variable{X:Cx}{a b c:Expr}{ta tb tc:TE}
theorem Gg{Q:VK}{k k':Bool}(I:bf X pins Y H s)(q:Q (.bl k) H)(e:k=k'):EP X pins Y Q (.bool k') s:=by
 subst e;exact⟨.bl k,H,I,rfl,q⟩
theorem Ou:kd X (compareOp .Is) (λx y H Q=>y=.non/\Q (.bl (decide (x=.non))) H):=by
 intro pins s Y H x y v u Q I R σ h;obtain⟨rfl,q⟩:=h;cases σ;refine is_none_gen (Gg I q ?_)
 cases x <;> first
  |(cases R;rfl)
  |(obtain⟨t,rfl⟩:=R;rfl)
theorem Km:kd X (compareOp .IsNot) (λx y H Q=>y=.non/\Q (.bl (!decide (x=.non))) H):=by
 intro pins s Y H x y v u Q I R σ h;obtain⟨rfl,q⟩:=h;cases σ;refine isnot_none_gen (Gg I q ?_)
 cases x <;> first
  |(cases R;rfl)
  |(obtain⟨t,rfl⟩:=R;rfl)
theorem kd.or{f:Value->Value->Sem Value}{r r':R2}(h:kd X f r)(h':kd X f r'):kd X f (λx y H Q=>r x y H Q\/r' x y H Q):=by
 intro pins s Y H x y v u Q I R σ q;rcases q with q|q
 ·exact h pins s Y H x y v u Q I R σ q
 ·exact h' pins s Y H x y v u Q I R σ q
theorem Kf{r:R2}(G:kd X (compareOp op) r)(d:PE X a ta)(B:PE X b tb)(i:behindInMarks op b=false):PE X 14e8 (RY r ta tb):=by
 intro pins s Y H Q I h;exact wpAny_Compare1 (MH d B I h λv u N x y H2 n R σ q=>G pins N Y H2 x y v u Q n R σ q) i
def Fk(t:TE):TT:=λY H Q=>t Y H λx H'=>∃k,x=.bl k/\Q k H'
theorem J1{r:R2}(G:kd X (compareOp op) r)(j:PE X a ta)(B:PE X b tb)(M:behindInMarks op b=false):PT X 14e8 (Fk (RY r ta tb)):=by
 intro pins s Y H Q I h
 refine wpAny_isTrue_Compare1 (dX 16e8 λv σ ⟨x,H1,i,R,J⟩=>dX (B pins σ Y H1 _ i J) λu μ ⟨y,H2,n,S,L⟩=>
  dX (G pins μ Y H2 x y v u _ n R S L) λc D ⟨z,d,q,U,k,e,N⟩=>?_) M
 subst e;cases U;exact Us ⟨d,q,N⟩
def AZ(r R:R2)(ta tb tc:TE):TE:=λY H Q=>ta Y H λx H1=>tb Y H1 λy H2=>r x y H2 λz d=>∃k,z=.bl k /\
 (if k=true then tc Y d λW i=>R y W i Q else Q (.bl false) d)
theorem Ht{op':CmpOp}{r r':R2}(O:kd X (compareOp op) r)(i:kd X (compareOp op') r')(N:PE X a ta)(S:PE X b tb)(U:PE X c tc)(σ:lastMarks [op,op'] [b,c]=false:=by with_unfolding_all rfl):PE X 11e2 (AZ r r' ta tb tc):=by
 intro pins s Y H Q I h
 refine Compare_chain (dX (N pins s Y H _ I h) λv s1 ⟨x,H1,B,R,μ⟩=>chain_link (dX (S pins s1 Y H1 _ B μ) λu s2 ⟨y,H2,G,M,D⟩=>
  dX (O pins s2 Y H2 x y v u _ G R M D) λd s3 ⟨z,j,q,F,k,e,L⟩=>?_)) σ
 subst e;cases F;refine Us ?_;cases k with
 |false=>exact ite_ff ⟨.bl false,j,q,rfl,L⟩
 |true=>exact ite_tt (chain_last (dX (U pins s3 Y j _ q L) λw' s4 ⟨z',n,J,W,V⟩=>i pins s4 Y n y z' u w' Q J M W V))
theorem He{op':CmpOp}{r r':R2}(R:kd X (compareOp op) r)(i:kd X (compareOp op') r')(μ:PE X a ta)(D:PE X b tb)(O:PE X c tc)(V:lastMarks [op,op'] [b,c]=false:=by with_unfolding_all rfl):PT X 11e2 (Fk (AZ r r' ta tb tc)):=by
 intro pins s Y H Q I h
 refine isTrue_chain (dX (μ pins s Y H _ I h) λv s1 ⟨x,H1,G,r1,W⟩=>test_link (dX (D pins s1 Y H1 _ G W) λu s2 ⟨y,H2,J,M,q2⟩=>
  dX (R pins s2 Y H2 x y v u _ J r1 M q2) λd s3 ⟨z,j,q,r3,k,e,L⟩=>?_)) V
 subst e;cases r3;refine Us ?_;cases k with
 |false=>
  obtain⟨k',U,F⟩:=L;cases U;exact ite_ff ⟨j,q,F⟩
 |true=>
  refine ite_tt (test_last (dX (O pins s3 Y j _ q L) λw' s4 ⟨z',n,N,r4,q4⟩=>dX (i pins s4 Y n y z' u w' _ N M r4 q4) λd' s5 ⟨z2,B,S,r5,k2,σ,q5⟩=>?_));subst σ;cases r5;exact Us ⟨B,S,q5⟩
def MJ(K:W.Frag)(x:V)(H:Hp)(k:Bool):Prop:=
 match x with
 |.non=>k=false
 |.bl b=>k=b
 |.int i=>k=(i != 0)
 |.str y=>y.length<=sizeLine/\k=((y.length:Int) != 0)
 |.byt y=>y.size<=sizeLine/\k=((y.size:Int) != 0)
 |.ref p=>(∃xs,fK K H p xs/\k=!xs.isEmpty)\/(∃xs,gz K H p xs/\k=!xs.isEmpty)\/∃d,H p=some (.dK d)/\k=!d.isEmpty
 |_=>False
theorem BP{κ:Type}{kvs:List (κ×V)}{vs:List (κ×Value)}(r:KV kvs vs):(!vs.isEmpty)=!kvs.isEmpty:=by
 cases r <;> rfl
theorem t9{xs:List V}(r:bA xs its):(!its.toArray.isEmpty)=!xs.isEmpty:=by
 cases r <;> simp
theorem pX:(sizeLine:Nat)<2^63:=by rw[UK];decide
theorem M3:Tb X (λx H Q=>∃k,MJ X.K x H k/\Q k H):=by
 intro pins s Y H x v Q I R h;obtain⟨k,e,q⟩:=h;have B:=pX;have G:sizeLine=16777216:=UK;cases x with
 |non=>
  cases R;have d:k=false:=e;subst d;exact truthy_none ⟨H,I,q⟩
 |bl b=>
  cases R;have d:k=b:=e;subst d;exact Us ⟨H,I,q⟩
 |int i=>
  obtain⟨t,rfl⟩:=R;have d:k=(i != 0):=e;subst d;exact PySem.P.truthy_int ⟨H,I,q⟩
 |str y=>
  obtain⟨t,rfl⟩:=R;obtain⟨σ,d⟩:y.length<=sizeLine/\k=((y.length:Int) != 0):=e;subst d;exact PySem.P.truthy_str 0e1 ⟨H,I.tok _,q⟩
 |byt y=>
  obtain⟨t,rfl⟩:=R;obtain⟨σ,d⟩:y.size<=sizeLine/\k=((y.size:Int) != 0):=e;subst d;exact W.truthy_bytes 0e1 ⟨H,I.tok _,q⟩
 |ref p=>
  cases R;have d:(∃xs,fK X.K H p xs/\k=!xs.isEmpty)\/(∃xs,gz X.K H p xs/\k=!xs.isEmpty)\/∃S,H p=some (.dK S)/\k=!S.isEmpty:=e;rcases d with⟨xs,j,d⟩|⟨xs,j,d⟩|⟨S,j,d⟩
  ·subst d;obtain⟨z,r,L,μ⟩:=I.list j;have n:=11e9;exact wpAny_truthy_list L.isList (by dsimp[UL];omega) ⟨H,I.tok _,by rw[t9 r];exact q⟩
  ·subst d;obtain⟨z,r,L,μ⟩:=I.tuple j;have n:=11e9;exact truthy_tuple L (by dsimp[UL];omega) ⟨H,I.tok _,by rw[t9 r];exact q⟩
  ·subst d;obtain⟨μ,hS,V,r,m⟩:S.length<=sizeLine/\(p == sysModules)=false/\∃V,KV S V/\s.heap.DictOf (xH 13e0 X.w) p V:=I.hok p _ j;have n:S.length=V.length:=Paired.length r;exact wpAny_truthy_dict hS m 0e1 ⟨H,I.tok _,by rw[BP r];exact q⟩
 |_=>exact(show False from e).elim
theorem Hd(n:PE X a ta)(j:∀whole,isTrue a 1e9 whole=(do let v <- whole;standAt a.pos;holding [v] (truthy v))) :
  PT X a (λY H Q=>ta Y H λx H'=>∃k,MJ X.K x H' k/\Q k H'):=by
 intro pins s Y H Q I h;exact isTrue_plain (dX (n pins s Y H _ I h) λv S ⟨x,H1,d,R,q⟩=>M3 pins S Y H1 x v Q d R q) (j _)
theorem BF:kd X (binaryOp .Add) (λx y H Q=>∃i j,x=.str i/\y=.str j/\i.length+j.length<=sizeLine/\Q (.str (i++j)) H):=by
 intro pins s Y H x y v u Q I R σ h;obtain⟨i,j,rfl,rfl,μ,q⟩:=h;obtain⟨t,rfl⟩:=R;obtain⟨d,rfl⟩:=σ;exact add_str (λd tk=>⟨.str (i++j),H,I.tok _,⟨_,rfl⟩,q⟩) μ
theorem iq{x:V}(r:bA [x] us):∃u,us=[u]/\cX x u:=by
 cases r with
 |cons R M=>cases M;exact⟨_,rfl,R⟩
theorem B8{x y:V}(r:bA [x,y] us):∃u w',us=[u,w']/\cX x u/\cX y w':=by
 cases r with
 |cons R M=>
  cases M with
  |cons U W=>cases W;exact⟨_,_,rfl,R,U⟩
theorem EB (d:X.calm=true):cY X (.builtin "max") (λxs H Q=>∃i j,xs=[.int i,.int j]/\Q 15e8 H):=by
 intro pins s Y H xs U Q I r h;obtain⟨i,j,rfl,q⟩:=h;obtain⟨u,W,rfl,⟨t,rfl⟩,⟨n,rfl⟩⟩:=B8 r;refine max_two_ints (I.ok.hd d) λh' tk k=>⟨_,H,I.kept k,?_,q⟩;by_cases D:j>i
 ·rw[T1 D,T1 D];exact⟨_,rfl⟩
 ·rw[T3 D,T3 D];exact⟨_,rfl⟩
theorem Ez (d:X.calm=true):cY X (.builtin "min") (λxs H Q=>∃i j,xs=[.int i,.int j]/\Q (.int (if j<i then j else i)) H):=by
 intro pins s Y H xs U Q I r h;obtain⟨i,j,rfl,q⟩:=h;obtain⟨u,W,rfl,⟨t,rfl⟩,⟨n,rfl⟩⟩:=B8 r;refine min_two_ints (I.ok.hd d) λh' tk k=>⟨_,H,I.kept k,?_,q⟩;by_cases D:j<i
 ·rw[T1 D,T1 D];exact⟨_,rfl⟩
 ·rw[T3 D,T3 D];exact⟨_,rfl⟩
theorem ED:cY X (.type "int") (λxs H Q=>(∃i,xs=[.int i]/\Q 11e5 H)\/∃k,xs=[.bl k]/\Q (.int (if k then 1 else 0)) H):=by
 intro pins s Y H xs U Q I r h;rcases h with⟨i,rfl,q⟩|⟨k,rfl,q⟩
 ·obtain⟨u,rfl,t,rfl⟩:=iq r;exact call_int_int ⟨.int i,H,I,⟨_,rfl⟩,q⟩
 ·obtain⟨u,rfl,R⟩:=iq r;cases R;exact call_int_bool ⟨.int (if k then 1 else 0),H,I.tok _,⟨_,rfl⟩,q⟩
def ML(K:W.Frag)(x:V)(H:Hp)(n:Nat):Prop:=
 match x with
 |.str y=>y.length<=sizeLine/\n=y.length
 |.byt y=>y.size<=sizeLine/\n=y.size
 |.ref p=>(∃xs,fK K H p xs/\n=4e8)\/∃xs,gz K H p xs/\n=4e8
 |_=>False
theorem Ii:cY X (.builtin "len") (λxs H Q=>∃x n,xs=[x]/\ML X.K x H n/\Q (.int n) H):=by
 intro pins s Y H xs U Q I r h;obtain⟨x,n,rfl,e,q⟩:=h;obtain⟨u,rfl,j⟩:=iq r;have z:=pX;have B:sizeLine=16777216:=UK;cases x with
 |str y=>
  obtain⟨t,rfl⟩:=j;obtain⟨σ,d⟩:y.length<=sizeLine/\n=y.length:=e;subst d;exact len_str 0e1 ⟨.int _,H,I.tok _,⟨_,rfl⟩,q⟩
 |byt y=>
  obtain⟨t,rfl⟩:=j;obtain⟨σ,d⟩:y.size<=sizeLine/\n=y.size:=e;subst d;exact W.len_bytes 0e1 ⟨.int _,H,I.tok _,⟨_,rfl⟩,q⟩
 |ref p=>
  cases j;have d:(∃xs,fK X.K H p xs/\n=4e8)\/∃xs,gz X.K H p xs/\n=xs.length:=e;rcases d with⟨xs,i,d⟩|⟨xs,i,d⟩
  ·subst d;obtain⟨S,R,L,μ⟩:=I.list i;have N:=R.length;exact Calls.call_len_list L.isList (by dsimp[UL];omega) ⟨.int 4e8,H,I.tok _,⟨_,by dsimp[UL];rw[N]⟩,q⟩
  ·subst d;obtain⟨S,R,L,μ⟩:=I.tuple i;have N:=R.length;exact len_tuple L (by dsimp[UL];omega) ⟨.int 4e8,H,I.tok _,⟨_,by dsimp[UL];rw[N]⟩,q⟩
 |_=>exact(show False from e).elim
end
structure TM(h:Heap)(x dx C:Addr)(mA:Str->Option Value):Prop where
 obj:h.get? x=some (W.instObj C dx)
 ns:h.Ns1 dx mA
 ne:dx≠x
structure TL(K:W.Frag)(C:Addr):Prop where
 pg:W.plainGet K C Str.empty=true
 hd:W.hasDictIn K C=true
 po:W.plainOver K C=true
 sa:W.findIn K (.ref C) "__setattr__" = some (some (.builtin "object.__setattr__"))
structure TU(K:W.Frag)(C:Addr)(f:Str)(v:V)(u:Value):Prop where
 at_:W.findIn K (.ref C) f=some (some u)
 rel:cX v u
 get:W.specialIn K u "__get__" = some none
 cp:W.copiedNames.contains f=false
structure TN(K:W.Frag)(C:Addr)(m:Str)(f:Addr):Prop where
 at_:W.findIn K (.ref C) m=some (some 2e9)
 fn:W.isFn K 2e9=true
 kp:W.keepIn K 2e9=true
section
variable{X:Cx}{c:Value}
inductive sv(K:W.Frag)(H:Hp):V->Value->Prop where
 |non:sv K H .non (.type "NoneType")
 |bl (x:Bool):sv K H (.bl x) (.type "bool")
 |int (i:Int):sv K H 11e5 (.type "int")
 |str (x:Str):sv K H (.str x) (.type "str")
 |flt (x:UInt64):sv K H (.flt x) (.type "float")
 |lst {a:Addr}{xs:List V} (e:H a=some 7e5):sv K H 15e7 (.type "list")
 |frz {a:Addr}{o:Obj}{xs:List V} (e:H a=some (.frz o 7e5)):sv K H 15e7 (.type "list")
 |tup {a:Addr}{xs:List V} (e:H a=some (.tup xs)):sv K H 15e7 (.type "tuple")
 |dK {a:Addr}{kvs:List (wX×V)} (e:H a=some (.dK kvs)):sv K H 15e7 (.type "dict")
 |dT {a:Addr}{kvs:List (List wX×V)} (e:H a=some (.dT kvs)):sv K H 15e7 (.type "dict")
 |ins {a C dx:Addr}{fs:List (Str×V)} (e:H a=some (.ins C dx fs)) (cl:TL K C) (ha:W.findIn K (.ref C) "__class__" = some (some (.builtin "object.__class__")))
   (hn:W.specialIn K (.builtin "object.__class__") "__get__" = some (some (.builtin "getset_descriptor.__get__"))) (htk:W.takesIn K (.builtin "object.__class__")=some true)
   (hm:W.mroIn K C (.type "object")=some true):sv K H 15e7 (.ref C)
end
structure kf(k:Nat)(A:Around):Prop where
 hd:A.handled=none
 dp:A.depth+3*k+5<recursionLimit
 un:A.units+16*k+200<cLine
 gd:A.guards=some []
theorem kf.mono{k:Nat}(r:kf k A)(h:j<=k):kf j A:=⟨r.hd,by have:=r.dp;omega,by have:=r.un;omega,r.gd⟩
theorem kf.deeper{k:Nat}(r:kf (k+1) A)(env:Env):kf k (A.deeper env):=
 ⟨r.hd,by have:=r.dp;show A.depth+1+3*k+5<_;omega,by have:=r.un;show A.units+3+16*k+200<_;omega,r.gd⟩
theorem kf.depth{k:Nat}(r:kf k A):A.depth<recursionLimit:=by have:=r.dp;omega
theorem kf.units{k:Nat}(r:kf k A):A.units+64<cLine:=by have:=r.un;omega
def SJ:TA:=λ_ H Q=>Q [] H
def QY(ta:TE)(R:TA):TA:=λY H Q=>ta Y H λx H1=>R Y H1 λxs H2=>Q (x::xs) H2
section
variable{X:Cx}{es:List Expr}{t:TA}
theorem A7:PA X [] SJ:=λ_ _ _ _ H Q I h=>Calls.spliced_nil ⟨[],H,I,.nil,h⟩
theorem rV(i:PE X e te)(R:PA X es t)(hs:autoParam (starEach (e::es) 1e9=(false,eval e 1e9)::starEach es 1e9) ATr):PA X (e::es) (QY te t):=by
 intro pos pins s Y H Q I h;rw[hs];show wpAny _ _ (spliced ((false,eval e 1e9)::backTo pos 7e1)) _ _ s;refine Calls.spliced_cons (dX (i pins s Y H _ I h) λu S ⟨x,H1,d,j,q⟩=>?_);exact dX (R pos pins S Y H1 _ d q) λU N ⟨xs,H2,n,M,J⟩=>⟨x::xs,H2,n,.cons j M,J⟩
def SF(t:TA):TE:=λY H Q=>t Y H λxs H1=>xs.length<=sizeLine/\∀p,H1 p=none->Q (.ref p) (cE H1 p (.tup xs))
def SK(t:TA):TE:=λY H Q=>t Y H λxs H1=>xs.length<=sizeLine/\∀p,H1 p=none->Q (.ref p) (cE H1 p 7e5)
theorem Ob{x1}(h:PA X es t):PE X (.Tuple es x1 pos) (SF t):=by
 intro pins s Y H Q I i;refine wpAny_Tuple_spliced (dX (h pos pins s Y H _ I i) λU S ⟨xs,H1,d,r,z,q⟩=>⟨by rw[<- r.length];exact z,?_⟩);have F:H1 6e5=none:=d.hok.fresh 6e3;refine⟨.ref 6e5,cE H1 6e5 (.tup xs),d.laid (t':=S.toks) (λb u e=>UF _ e) 6e3 ?_,rfl,q _ F⟩;exact⟨z,U,r,⟨_,T4 _ rfl,rfl,⟨_,rfl⟩,rfl⟩⟩
theorem Oe(h:PA X es t):PE X (.List es pos) (SK t):=by
 intro pins s Y H Q I i;refine wpAny_List_spliced (dX (h pos pins s Y H _ I i) λU S ⟨xs,H1,d,r,z,q⟩=>⟨by rw[<- r.length];exact z,?_⟩);have F:H1 6e5=none:=d.hok.fresh 6e3;refine⟨.ref 6e5,cE H1 6e5 7e5,d.laid (t':=S.toks) (λb u e=>UF _ e) 6e3 ?_,rfl,q _ F⟩;exact⟨z,U,0,r,T4 _ rfl⟩
end
abbrev Sp:=List V->Hp->VK->XK->Prop
abbrev Dq:=List Env->Hp->Shared->XK->Value->Shared->Prop
structure Ff(P:Program)(w:World)(K:W.Frag)(mg:Str->Option Value)(base:Heap)(A:Around)(outer:List Env)(s:Shared)(H:Hp):Prop where
 frames:A.frames=some outer
 mod:Mod K mg base
 bs:∀b o,base.get? b=some o->s.heap.get? b=some o/\H b=none
 bsz:base.objs.size<=s.heap.objs.size
 funs:s.heap.FunFrames base outer
 frf:∀b∈EZ outer,H b=none
 hok:si P w H 3e3
 bare:AllBare s.gens
def CE(O:List Env)(P:Program)(w:World)(H:Hp)(s:Shared)(Q:VK)(u:Value)(s':Shared):Prop:=
 ∃v H',s'.os=s.os/\AllBare s'.gens/\Un (EZ O) [] H H' 3e3 s'.heap/\si P w H' s'.heap/\cX v u/\Q v H'
def CR(CX:Dq)(O:List Env)(P:Program)(w:World)(H:Hp)(s:Shared)(Q:VK)(E:XK)(r:Result)(s':Shared):Prop:=
 match r with
 |.ok (.ret u)=>CE O P w H s Q u s'
 |.ok _=>False
 |.error e=>CX O H s E e s'
structure u4(P:Program)(w:World)(K:W.Frag)(mg:Str->Option Value)(base:Heap)(CX:Dq)(k:Nat)(f:Addr)(fd:FuncData)(ps:List Str)(sp:Sp):Prop where
 len:∀vs H Q E,sp vs H Q E->vs.length=ps.length
 run:∀(A:Around)(outer:List Env)(s:Shared)(H:Hp)(args:Args)(us:List Value)(vs:List V)(Q:VK)(E:XK),kf k A->Ff P w K mg base A outer s H->BindsTo s fd args (ps.zip us)->bA vs us->sp vs H Q E ->
  codeAny (model P w) A (.call 2e9 args) (CR CX outer P w H s Q E) s
section
variable{X:Cx}{s':Shared}
theorem bf.env0(I:bf X pins Y H s):Ff 13e0 X.w X.K X.mg X.base X.A X.stack s H:=
 ⟨I.ok.frames,I.ok.mod,I.bs,Ub I.ok.bsz I.sz,I.stack,I.stkFree,I.hok,I.bare⟩
theorem bf.after{Q:VK}(I:bf X pins Y H s)(h:CE X.stack 13e0 X.w H s Q u s'):EP X pins Y Q u s':=by
 obtain⟨v,H',S,bare,un,L,r,q⟩:=h;obtain⟨i,g,d,t,O⟩:=s';obtain rfl:O=s.os:=S;exact⟨v,H',I.call (h':=i) (g':=g) (d':=d) (t':=t) (ch:=[]) un L bare (λb z=>absurd z 0e9),r,q⟩
end
def QZ(sp:Sp)(dvs:List V)(E:XK)(t:TA):TE:=λY H Q=>t Y H λy H1=>sp (y++dvs) H1 Q E
def lW(K:W.Frag)(fd:FuncData)(ps:List Str)(ds:List Value):Prop:=
 ∀(s:Shared)(U:List Value),K.In 3e3->(U++ds).length=ps.length->BindsTo s fd ⟨U,[]⟩ (ps.zip (U++ds))
theorem lW.all{ps:List Str}(h:∀us:List Value,us.length=ps.length->bindArgs fd ⟨us,[]⟩=pure (ps.zip us)):lW K fd ps []:=λs us _ i=>by
 rw[UM]at i⊢;exact .of_eq (h us i)
def Bh(CX:Dq)(X:Cx)(E:XK):Prop:=∀(pins:List 4e4)(Y:St)(H:Hp)(s:Shared)(e:Value)(s':Shared),bf X pins Y H s->CX X.stack H s E e s'->X.xe e s'
section
variable{X:Cx}{CX:Dq}{k:Nat}{C:Addr}{ps:List Str}{sp:Sp}{dvs:List V}{ds:List Value}{E:XK}{m:Str}{p:Pos}{o:Expr}{es:List Expr}{ta:TE}{t:TA}
theorem NQ{Q:VK}(F:u4 13e0 X.w X.K X.mg X.base CX k f fd ps sp)(R:kf k X.A)(B:lW X.K fd ps ds)(D:bA dvs ds)(d:Bh CX X E)(I:bf X pins Y H s)(r:bA vs us)(h:sp (vs++dvs) H Q E):wpAny 1e5 X.A (call 2e9 us) 12e0 X.xe s:=by
 have M:bA (vs++dvs) (us++ds):=r.append D;have i:(us++ds).length=ps.length:=by rw[<- M.length];exact F.len _ _ _ _ h
 refine wpAny_call (UN (F.run X.A X.stack s H ⟨us,[]⟩ (us++ds) (vs++dvs) Q E R I.env0 (B s us I.kIn i) M h) λr s' z=>?_);cases r with
 |error e=>exact d pins Y H s e s' I z
 |ok L=>
  cases L with
  |ret u=>exact I.after z
  |next=>exact False.elim z
  |brk=>exact False.elim z
  |cont=>exact False.elim z
theorem Kg(F:u4 13e0 X.w X.K X.mg X.base CX k f fd ps sp)(R:kf k X.A)(σ:Gl X x)(M:X.mg x=some 2e9)(y:W.keepIn X.K 2e9=true)(i:lW X.K fd ps ds)(D:bA dvs ds)(z:Bh CX X E)
  (n:PA X (e::es) t) (B:autoParam 4e5 ATs) (j:autoParam (starEach (e::es) 1e9=(false,eval e 1e9)::starEach es 1e9) ATr) (L:autoParam 14e2 ATr) :
  PE X (.Call (.Name x p) (e::es) [] pos) (QZ sp dvs E t):=by
 intro pins s Y H Q I h;refine UO (C1 I σ M ?_ B);refine W.callWith_K (h₀:=X.base) I.ok.mod.kin y (dX (n pos pins s Y H _ I h) λU S ⟨V,H1,d,r,q⟩=>⟨d.kIn,?_⟩) j L;exact NQ F R i D z d r q
structure Mk(K:W.Frag)(C f:Addr):Prop where
 makes:W.makesIn K C=true
 init:W.findIn K (.ref C) "__init__" = some (some 2e9)
 fn:W.isFn K 2e9=true
 kp:W.keepIn K (.ref C)=true
end
section
variable{X:Cx}{CX:Dq}{k:Nat}{C:Addr}{ps ks:List Str}{sp:Sp}{E:XK}{m:Str}{p kpos:Pos}{o:Expr}{es:List Expr}{kws:List Keyword}{ta:TE}{t tk:TA}{nm:Option Str}
structure Te(K:W.Frag)(fd:FuncData)(ps ks:List Str)(g:List Value->List Value->List Value)(gV:List V->List V->List V):Prop where
 to:∀(s:Shared)(us ws:List Value),K.In 3e3->(g us ws).length=ps.length->BindsTo s fd ⟨us,ks.zip ws⟩ (ps.zip (g us ws))
 rel:∀{vs:List V}{us:List Value}{zs:List V}{ws:List Value},bA vs us->bA zs ws->bA (gV vs zs) (g us ws)
variable{g:List Value->List Value->List Value}{gV:List V->List V->List V}
end
structure aN(N P:List Str)(sc:Scope):Prop where
 kind:sc.kind=.function
 co:sc.isCoroutine=false
 gen:sc.isGenerator=false
 nd:N.Nodup
 pre:N.take P.length=P
 par:∀x∈P,sc.names.lookup x=some .local\/sc.names.lookup x=some .cell
 nofree:∀y∈sc.names,y.2≠.free
theorem wF{kindOf:Str->Option NameKind}{x:Str}:∀{binds:List (Str×Value)}{m:Str->Option Value},(∀v,(x,v)∉binds)->bindL kindOf binds m x=m x
 |[],_,_=>rfl
 |(n,v)::r,m,h=>by
  unfold bindL;rw[wF λw W=>h w (Ug _ W)];split
  ·have : x ≠ n := by rintro rfl; exact h v Ue
   simp[this]
  ·rfl
theorem wH{kindOf:Str->Option NameKind}{x:Str}:∀{binds:List (Str×Value)}{m:Str->Option Value},(∀v,(x,v)∉binds)->bindC kindOf binds m x=m x
 |[],_,_=>rfl
 |(n,v)::r,m,h=>by
  unfold bindC;rw[wH λw W=>h w (Ug _ W)];split
  ·rfl
  ·have : x ≠ n := by rintro rfl; exact h v Ue
   simp[this]
theorem wG{kindOf:Str->Option NameKind}{x:Str}{v:Value}:∀{P:List Str}{vs:List Value}{i:Nat}{m:Str->Option Value},P.Nodup->P[i]?=some x->vs[i]?=some v->kindOf x=some .local ->
  bindL kindOf (P.zip vs) m x=some v
 |[],_,_,_,_,h,_,_=>by simp at h
 |_::_,[],_,_,_,_,h,_=>by simp at h
 |p::P,w::vs,0,m,n,h1,h2,d=>by
  simp at h1 h2;subst h1;subst h2;show bindL kindOf ((p,w)::P.zip vs) m p=_;unfold bindL;rw[wF λv V=>(UP.mp n).1 (UQ V).1,T1 d];simp
 |p::P,w::vs,i+1,m,n,h1,h2,d=>by
  show bindL kindOf ((p,w)::P.zip vs) m x=_;unfold bindL;exact wG (i:=i) (UP.mp n).2 (by simpa using h1) (by simpa using h2) d
theorem wI{kindOf:Str->Option NameKind}{x:Str}{v:Value}:∀{P:List Str}{vs:List Value}{i:Nat}{m:Str->Option Value},P.Nodup->P[i]?=some x->vs[i]?=some v->kindOf x≠some .local ->
  bindC kindOf (P.zip vs) m x=some v
 |[],_,_,_,_,h,_,_=>by simp at h
 |_::_,[],_,_,_,_,h,_=>by simp at h
 |p::P,w::vs,0,m,n,h1,h2,d=>by
  simp at h1 h2;subst h1;subst h2;show bindC kindOf ((p,w)::P.zip vs) m p=_;unfold bindC;rw[wH λv V=>(UP.mp n).1 (UQ V).1,T3 d];simp
 |p::P,w::vs,i+1,m,n,h1,h2,d=>by
  show bindC kindOf ((p,w)::P.zip vs) m x=_;unfold bindC;exact wI (i:=i) (UP.mp n).2 (by simpa using h1) (by simpa using h2) d
noncomputable def start(N:List Str)(vs:List V):St:=vs.map some++List.replicate (N.length-vs.length) none
noncomputable def xa(CX:Dq)(P:Program)(w:World)(K:W.Frag)(mg:Str->Option Value)(base:Heap)(N:List Str)(qual:Str)(scope:Scope)(f:Addr)(d:Value)(A:Around)(O:List Env)(s:Shared)(H:Hp)(E:XK):Cx where
 prog:=P
 w:=w
 K:=K
 mg:=mg
 base:=base
 A:=A.deeper (envOfC qual scope 0e4 f d)
 N:=N
 s₀:=s
 H₀:=H
 env:=envOfC qual scope 0e4 f d
 outer:=O
 stack:=envOfC qual scope 0e4 f d::O
 ex:=[]
 calm:=true
 fn:=λ_=>true
 pn:=[]
 xe:=λe s'=>wpAny (model P w) (A.deeper (envOfC qual scope 0e4 f d)) (leaving (envOfC qual scope 0e4 f d) e) (λ_ s''=>CX O H s E e s'') (λi s''=>CX O H s E i s'') s'
theorem z8(h:sc.names.lookup x=some .cell):∃c,(cellsFrom n sc.names []).lookup x=some c:=by
 have q:=W.cellsFrom_some sc.names n [] (.inl h);exact UR.mp q
theorem Ei{CX:Dq}{ps:List Str}{cd:Value}{outer:List Env}{s1:Shared}{E:XK}(S:aN N ps scope)(D:A.handled=none)(d:Ff P w K mg base A outer s H)(J:vs.length=ps.length)(r:bA vs us)(x:InCallC s 0e4 (bindL (envOfC qual scope 0e4 f cd).kindOf (ps.zip us) λ_=>none) (cellsFrom 6e4 scope.names []) (bindC (envOfC qual scope 0e4 f cd).kindOf (ps.zip us) λ_=>none) s1):
  bf (xa CX P w K mg base N qual scope f cd A outer s H E) [] (start N vs) H s1:=by
 have L:ps.length<=N.length:=by have:=Uu List.length S.pre;rw[US]at this;omega
 obtain⟨h1,tk,rfl,B⟩:=x.done;have noA:∀b:Addr,b∉(xa CX P w K mg base N qual scope f cd A outer s H E).ex:=λb z=>absurd (show b∈([]:List Addr) from z) 0e9
 refine⟨⟨d.mod,S.kind,rfl,rfl,UG _,λy z c h1 h2=>?_,λy σ=>?_,λy c _ h=>?_,λ_=>D,Around.frames_deeper d.frames,.inr ⟨rfl,rfl⟩,λb z=>absurd z (noA b),d.bs,d.bsz,λb _ _=>noA b,λb z=>absurd z (noA b),d.funs,d.frf⟩,
  rfl,d.bare,Un.kept B,⟨_,x.toInCall.ns,λi y v h1 h2 I=>?_⟩,λy c h=>⟨_,x.cell y c h⟩,d.hok.fresh 6e3,λy c h=>?_,λp j=>absurd (show p∈([]:List 4e4) from j) 0e9,d.hok.kept B,?_⟩
 ·exact name_of_addr x.apart (UT h1) (UT h2)
 ·have σ : scope.names.lookup y = some .cell \/ scope.names.lookup y = some .free := σ;rcases σ with σ|σ
  ·exact z8 σ
  ·exact absurd rfl (S.nofree _ (UT σ))
 ·exact Uc (x.above y c (UT h))
 ·have hi:i<vs.length:=by
   unfold start at h2;by_cases hi:i<vs.length
   ·exact hi
   ·rw[UU (by simpa using hi)]at h2;rw[UV]at h2;split at h2 <;> cases h2
  have G:vs[i]?=some v:=by
   unfold start at h2;rw[UW (by simpa using hi),UX]at h2;cases e:vs[i]? with
   |none=>rw[e]at h2;cases h2
   |some a=>rw[e]at h2;cases h2;rfl
  obtain⟨u,U,R⟩:=r.get G
  have j:ps[i]?=some y:=by
   rw[<- S.pre,UY 0e1];exact h1
  have ndP:ps.Nodup:=by rw[<- S.pre];exact S.nd.sublist (List.take_sublist _ _)
  refine⟨u,R,?_⟩;rcases S.par y (UZ j) with k|k
  ·exact .inl ⟨k,wG ndP j U k⟩
  ·obtain⟨c,e⟩:=z8 (n:=s.heap.objs.size+1) k;refine .inr ⟨.inl k,c,e,?_⟩;have q:=x.cell y c e;rw[wI ndP j U (by show scope.names.lookup y≠_;rw[k];decide)]at q;exact q
 ·exact d.hok.fresh (Uc (x.above y c (UT h)))
 ·unfold start;show _=N.length;rw[U0,U1,List.length_replicate];omega
theorem RF{CX:Dq}{k:Nat}{name:Str}{params:Arguments}{dV kV doc pm cdv ct oc:Value}{an od:Option Addr}{ps:List Str}{sp:Sp}(lk:K.lookup f=some ⟨oc,od,.func (W.fnOf name qual params body scope dV kV doc pm an cdv ct),osl⟩)(D:W.codeIn K cdv qual=true)(S:aN N ps scope)(len:∀vs H Q E,sp vs H Q E->vs.length=ps.length)(hbody : ∀ (A : Around) (outer : List Env) (s : Shared) (H : Hp) (vs : List V) (Q : VK) (E : XK), kf k (A.deeper (envOfC qual scope 0e4 f cdv)) -> sp vs H Q E ->
   ∃t,l9 15e9 body t/\t {nx:=λ_ H'=>Q .non H',rt:=Q} (start N vs) H):
  u4 P w K mg base CX (k+1) f (W.fnOf name qual params body scope dV kV doc pm an cdv ct) ps sp:=by
 refine⟨len,λA outer s H args us vs Q E R j M r z=>?_⟩;have σ:=len _ _ _ _ z;have KX:K.In 3e3:=j.mod.kin.keeps λb o e=>(j.bs b o e).1;have lim:s.heap.NoLimit:=j.mod.nolimit.keeps λb o e=>(j.bs b o e).1
 have hkind:∀y∈ps.zip us,scope.names.lookup y.1=some .local\/(scope.names.lookup y.1=some .cell/\((cellsFrom 6e4 scope.names []).lookup y.1).isSome=true):=λ⟨n,v⟩ hy=>by
  rcases S.par n (UQ hy).1 with q|q
  ·exact .inl q
  ·exact .inr ⟨q,W.cellsFrom_some _ _ _ (.inl q)⟩
 refine codeAny_call_function R.depth (KX _ _ lk) rfl S.co S.gen rfl (W.codeRec_of KX D) (M _ _ _ _ ?_);refine wpAny_newFunctionEnv_cells S.kind hkind λenv U G x=>?_;subst U;refine⟨lim.keeps x.toInCall.keep,codeAny_func ?_⟩;obtain⟨t,O,μ⟩:=hbody A outer s H vs Q E (R.deeper _) z;have I:bf 15e9 [] (start N vs) H G:=Ei S R.hd j σ r x;refine Ur (O [] G (start N vs) H _ I μ) (λL s' i=>?_) λe s' i=>i
 have F:∀{d:St}{H':Hp}{v:V}{u:Value},bf 15e9 [] d H' s'->cX v u->Q v H'->CE outer P w H s Q u s':=
  λ{d H' v u} J B q=>⟨v,H',J.os,J.bare,J.base,J.hok,B,q⟩
 cases L with
 |ret u=>
  obtain⟨v,d,H',J,B,q⟩:=i;exact F J B q
 |next=>
  obtain⟨d,H',J,q⟩:=i;exact F (v:=V.non) (u:=Value.none) J rfl q
 |brk=>
  obtain⟨_,_,_,q⟩:=i;exact False.elim q
 |cont=>
  obtain⟨_,_,_,q⟩:=i;exact False.elim q
end L2
variable{CX:L2.Dq}{sp:L2.Sp}
namespace L2
open PySem PySem.Spec PyProof.Rows
section
variable{X:Cx}{p:Pos}{es:List Expr}{t:TA}{id T:String}{r:List V->Hp->VK->Prop}
def Sk(r:List V->Hp->VK->Prop)(t:TA):TE:=λY H Q=>t Y H λy H1=>r y H1 Q
theorem zK (i:cY X 16e4 r) (σ:Gl X x) (M:X.mg x=none) (V:bootBuiltins x=some 16e4) (n:PA X (e::es) t) (N:autoParam (x ≠ "__name__") ATs) (B:autoParam 4e5 ATs)
  (j:autoParam (starEach (e::es) 1e9=(false,eval e 1e9)::starEach es 1e9) ATr) (L:autoParam 14e2 ATr):PE X (.Call (.Name x p) (e::es) [] pos) (Sk r t):=by
 intro pins s Y H Q I h;refine UO (mr I σ M V ?_ N B);exact PyProof.Rows.callWith_builtin1 (dX (n pos pins s Y H _ I h) λU S ⟨y,H1,d,R,q⟩=>i pins S Y H1 y U Q d R q) j L
theorem vX (i:cY X (.type T) r) (σ:Gl X x) (M:X.mg x=none) (V:bootBuiltins x=some (.type T)) (n:PA X (e::es) t) (N:autoParam (x ≠ "__name__") ATs) (B:autoParam 4e5 ATs)
  (j:autoParam (starEach (e::es) 1e9=(false,eval e 1e9)::starEach es 1e9) ATr) (L:autoParam 14e2 ATr):PE X (.Call (.Name x p) (e::es) [] pos) (Sk r t):=by
 intro pins s Y H Q I h;refine UO (mr I σ M V ?_ N B);exact UH (dX (n pos pins s Y H _ I h) λU S ⟨y,H1,d,R,q⟩=>i pins S Y H1 y U Q d R q) j L
end
end L2
namespace HT
open PySem PyProof.Rows
section
theorem cat_tup{t b:Addr}{vs ws:List Value}(J:IsTup 3e3 t vs.toArray)(I:IsTup 3e3 b ws.toArray)(V:vs≠[])(h1:ws=[]->Q (.ref t) s)(h2:ws≠[]->Q 15e5 {s with heap:=s.heap.push {cls:=.type "tuple",data:=.seq (vs++ws).toArray}})(z:vs.length+ws.length<=sizeLine):wpAny 1e7 A (binaryOp .Add (.ref t) (.ref b)) Q E s:=by
 obtain⟨⟨cls,q,data,L⟩,G,y,n,B⟩:=id J;obtain⟨⟨cls2,D,data2,S⟩,d,i,N,j⟩:=id I;simp only at y B i j;subst y B i j;have e:vs.toArray++ws.toArray=(vs++ws).toArray:=by simp
 by_cases W:ws=[]
 ·exact concat_meets ⟨_,G,rfl⟩ ⟨_,d,rfl⟩ U2 seq_tuple_add U3 U4 (U5 _ _)
   (tuple_addW1 t b vs.toArray ws.toArray n N q D L S (by simpa using V) (by simp[W])) ⟨G,d,h1 W⟩
 ·refine concat_meets ⟨_,G,rfl⟩ ⟨_,d,rfl⟩ U2 seq_tuple_add U3 U4 (U5 _ _)
   (tuple_addW2 t b vs.toArray ws.toArray n N q D L S (by simpa using V) (by simpa using W) (by rw[UL,UL];exact z)) ⟨G,d,?_⟩
  rw[e];exact h2 W
def sIx(n d:Nat):Option Int->Nat
 |none=>d
 |some v=>if v<0 then (v+(n:Int)).toNat else min v.toNat n
theorem sIx_nat(n d k:Nat):sIx n d (some (k:Int))=min k n:=by
 show (if (k:Int)<0 then ((k:Int)+(n:Int)).toNat else min (k:Int).toNat n)=min k n;rw[T3 0e1,U6]
theorem NP(n d:Nat)(D:d<=n)(o:Option Int):sIx n d o<=n:=by
 cases o with
 |none=>exact D
 |some v=>
  show (if v<0 then (v+(n:Int)).toNat else min v.toNat n)<=n;by_cases V:v<0
  ·rw[T1 V];omega
  ·rw[T3 V];exact U7 _ _
theorem Di(v:Int)(n d:Nat):(if v<0 then max (v+(n:Int)) 0 else min v (n:Int))=((sIx n d (some v):Nat):Int):=by
 show (if v<0 then max (v+(n:Int)) 0 else min v (n:Int))=(((if v<0 then (v+(n:Int)).toNat else min v.toNat n):Nat):Int);by_cases V:v<0
 ·dsimp[T1 V];omega
 ·dsimp[T3 V];omega
theorem B3(lo hi:Option Int)(n:Nat):Builtin.Slice.sliceAdjust lo hi 1 (n:Int)=(((sIx n 0 lo:Nat):Int),((sIx n n hi:Nat):Int)):=by
 have h1:¬ ((1:Int)<0):=by omega
 unfold Builtin.Slice.sliceAdjust;dsimp[h1,U8];refine TX ?_ ?_
 ·cases lo with
  |none=>rfl
  |some v=>exact Di v n 0
 ·cases hi with
  |none=>rfl
  |some v=>exact Di v n n
theorem BE(i j:Nat):Builtin.Slice.slicePlaces (i:Int) (j:Int) 1=j-i:=by
 unfold Builtin.Slice.slicePlaces;have h1:(1:Int)>0:=by omega
 dsimp[h1,U9,Int.ediv_one];split <;> omega
theorem t4{v:Value}{o:Option Int}{Q:Option Int->Shared->Prop}(p:IsPart v o)(h:Q o s):wpAny 1e7 A (Builtin.Slice.slicePartIndex v) Q E s:=by
 cases p with
 |none=>exact slicePart_none h
 |int i t=>exact slicePart_int h
theorem sliceApplied_gen{sl:Addr}{vu:Value}{lo hi:Option Int}{Q:Int×Int×Nat->Shared->Prop}(hs:s.heap.IsSliceOf sl vl vu .none)(L:IsPart vl lo)(U:IsPart vu hi)(h:Q (((sIx n 0 lo:Nat):Int),1,sIx n n hi-sIx n 0 lo) s):wpAny 1e7 A (Builtin.Slice.sliceApplied (.ref sl) (pure (n:Int))) Q E s:=by
 obtain⟨O,d,i,S⟩:=id hs;unfold Builtin.Slice.sliceApplied Builtin.Slice.sliceFields;refine Uw (Uw (Va d S (x:=vl) rfl (Uw (Va d S (x:=vu) rfl (Uw (Va d S (x:=.none) rfl 8e1))))));refine Uw (slicePart_none ?_);show wpAny _ _ (if ((1:Int) == 0)=true then _ else _) _ _ s;rw[T3 1e2];refine Uw (t4 L (Uw (t4 U (Uw 8e1))));show wpAny _ _ (match Builtin.Slice.sliceAdjust lo hi 1 (n:Int) with|(lo,hi)=>pure (lo,(1:Int),Builtin.Slice.slicePlaces lo hi 1)) _ _ s;rw[B3 lo hi n];show wpAny _ _ (pure (((sIx n 0 lo:Nat):Int),(1:Int),Builtin.Slice.slicePlaces ((sIx n 0 lo:Nat):Int) ((sIx n n hi:Nat):Int) 1)) _ _ s;rw[BE];exact UC h
theorem Hn(xs:Array Value)(i k:Nat):((List.range k).filterMap λ(m:Nat)=>xs[((i:Int)+(m:Int)*1).toNat]?).toArray=((xs.toList.drop i).take k).toArray:=by
 have e:(λ(m:Nat)=>xs[((i:Int)+(m:Int)*1).toNat]?)=λm=>xs[i+m]?:=by
  funext m;have:((i:Int)+(m:Int)*1).toNat=i+m:=by omega
  rw[this]
 rw[e];have:=pick_run xs i k;rw[List.filterMap_map]at this;have B:((λx=>xs[x]?) ∘ λx=>i+x)=λm=>xs[i+m]?:=rfl;rw[B]at this;rw[this]
theorem getItem_tuple_cut{t sl:Addr}{items:Array Value}{vu:Value}{lo hi:Option Int}(J:IsTup 3e3 t items)(hs:s.heap.IsSliceOf sl vl vu .none)(L:IsPart vl lo)(U:IsPart vu hi)(W:¬ (sIx 4e3 0 lo=0/\sIx 4e3 4e3 hi=4e3))(h:Q 15e5 {s with heap:=s.heap.push {cls:=.type "tuple",data:=.seq ((items.toList.drop (sIx 4e3 0 lo)).take (sIx 4e3 4e3 hi-sIx 4e3 0 lo)).toArray}})(z:items.size<=sizeLine):wpAny 1e7 A (getItem (.ref t) (.ref sl)) Q E s:=by
 have htake:sizeOk (.seq ((items.toList.drop (sIx 4e3 0 lo)).take (sIx 4e3 4e3 hi-sIx 4e3 0 lo)).toArray):=by
  show ((items.toList.drop (sIx 4e3 0 lo)).take (sIx 4e3 4e3 hi-sIx 4e3 0 lo)).toArray.size<=sizeLine;rw[UL,US,List.length_drop,Ut];omega
 have D:sIx 4e3 4e3 hi<=items.size:=NP _ _ 6e3 hi;obtain⟨j,d,i,S⟩:=id hs;have hTs:s.TypeIs (.ref sl) "slice" := ⟨j,d,i⟩;unfold getItem
 try with_reducible refine Ux ?_
 first|refine Uw 8e1|skip
 refine Uw (wpAny_sequenceKey J.typeIs 1e2 ?_)
 refine Uw (Vb (name:=Str.ofString "__getitem__") J.typeIs Vc
  (Vd Vc J.typeIs entry_tuple_getitem ?_ (args_tuple_getitem _ _)))
 show wpAny _ _ (Builtin.Tuple.tupleItemsOf (.ref t) >>= _) _ _ s;refine Uw (tupleItemsOf_ J ?_);refine Uw (Ve hTs ?_);rw[T1 1e2];refine Uw (sliceApplied_gen hs L U ?_)
 have O:¬ ((((sIx 4e3 0 lo:Nat):Int) == 0&&(1:Int) == 1&&(sIx 4e3 4e3 hi-sIx 4e3 0 lo) == items.size)=true):=by
  intro q;rw[Vf,Vf]at q;have n:((sIx 4e3 0 lo:Nat):Int)=0:=eq_of_beq q.1.1;have y:sIx 4e3 4e3 hi-sIx 4e3 0 lo=items.size:=eq_of_beq q.2;exact W ⟨by omega,by omega⟩
 show wpAny _ _ (if (((sIx 4e3 0 lo:Nat):Int) == 0&&(1:Int) == 1&&(sIx 4e3 4e3 hi-sIx 4e3 0 lo) == items.size)=true then _ else _) _ _ s;rw[T3 O,Hn]
 first
  |exact Uw (m:=Builtin.Tuple.tupleExact _) (Vg (UC ⟨_,rfl,UC h⟩) htake)
  |exact Uw (m:=Builtin.Tuple.tupleExact _) (Vg (Uw (UC (UC ⟨_,rfl,UC h⟩))) htake)
  |exact Uw (Uw (m:=Builtin.Tuple.tupleExact _) (Vg (UC (UC ⟨_,rfl,UC h⟩)) htake))
  |exact Uw (Uw (m:=Builtin.Tuple.tupleExact _) (Vg (UC ⟨_,rfl,UC h⟩) htake))
end
end HT
namespace L2
open PySem PySem.Spec PyProof.Rows
abbrev TO:=St->Hp->(Option Int->Hp->Prop)->Prop
def PO(X:Cx)(e:Option Expr)(t:TO):Prop:=
 ∀(pins:List 4e4)(s:Shared)(Y:St)(H:Hp)(Q:Option Int->Hp->Prop),bf X pins Y H s->t Y H Q ->
  wpAny 1e5 X.A (evalPart e 1e9) (λu s'=>∃o H',bf X pins Y H' s'/\IsPart u o/\Q o H') X.xe s
def QT(t:TE):TO:=λY H Q=>t Y H λx H1=>∃i,x=.int i/\Q (some i) H1
theorem iE:∀{us:List Value},bA 12e1 us->IntsAre us ns:=by
 induction ns with
 |nil=>intro us r;rw[Vh]at r;cases r;exact .nil
 |cons n ns i=>
  intro us r;rw[Vi]at r;cases r with
  |cons R M=>
   obtain⟨t,e⟩:=R;subst e;exact .cons n t (i M)
section
variable{X:Cx}{lo hi:Option Expr}{tl th:TO}{p2:Pos}
theorem J7(h:PE X e te):PO X (some e) (QT te):=by
 intro pins s Y H Q I W;rw[evalPart_some];refine dX (h pins s Y H _ I W) λu S ⟨x,H1,d,R,j⟩=>?_;obtain⟨i,rfl,q⟩:=j;obtain⟨t,rfl⟩:=R;exact⟨some i,H1,d,.int i t,q⟩
def IG(X:Cx)(r:V->Option Int->Option Int->Hp->VK->Prop):Prop:=
 ∀(pins:List 4e4)(s:Shared)(Y:St)(H:Hp)(x:V)(v L U:Value)(lo hi:Option Int)(q:Addr)(Q:VK),bf X pins Y H s->cX x v->s.heap.IsSliceOf q L U .none->IsPart L lo->IsPart U hi->r x lo hi H Q ->
  ∃T id,typeLookup (.type T) "__getitem__" = pure (some 16e4)/\s.TypeIs v T/\wpAny 1e5 X.A (getItem v (.ref q)) 12e0 X.xe s
theorem IG.or{r r':V->Option Int->Option Int->Hp->VK->Prop}(h:IG X r)(h':IG X r'):IG X (λx lo hi H Q=>r x lo hi H Q\/r' x lo hi H Q):=by
 intro pins s Y H x v i j lo hi d Q I R S L U q;rcases q with q|q
 ·exact h pins s Y H x v i j lo hi d Q I R S L U q
 ·exact h' pins s Y H x v i j lo hi d Q I R S L U q
def Tv(r:V->Option Int->Option Int->Hp->VK->Prop)(te:TE)(tl th:TO):TE:=λY H Q=>te Y H λx H1=>tl Y H1 λl H2=>th Y H2 λu d=>r x l u d Q
theorem Hq{r:V->Option Int->Option Int->Hp->VK->Prop}(R:IG X r)(B:PE X e te)(G:PO X lo tl)(N:PO X hi th):PE X (.Subscript e (.Slice lo hi none p2) pos) (Tv r te tl th):=by
 intro pins s Y H Q I h;refine Subscript_ (dX (B pins s Y H _ I h) λv s1 ⟨x,H1,n,W,D⟩=>?_);refine wpAny_Slice (dX (G pins s1 Y H1 _ n D) λL s2 ⟨l,H2,y,S,O⟩=>dX (N pins s2 Y H2 _ y O) λd U ⟨u,j,z,μ,F⟩=>?_);rw[evalPart_none];refine UC ?_;have J:bf X pins Y j {U with heap:=U.heap.push {cls:=.type "slice",data:=.fields #[L,d,.none]}}:=z.kept (t':=U.toks) λb ob q=>UF _ q;obtain⟨T,id,hT,M,σ⟩:=R pins {U with heap:=U.heap.push {cls:=.type "slice",data:=.fields #[L,d,.none]}} Y j x v L d l u U.heap.objs.size Q J W (Heap.IsSliceOf.new ..) S μ F;show wpAny 1e5 X.A (subscriptTail e (.Slice lo hi none p2) v (.ref U.heap.objs.size)) 12e0 X.xe {U with heap:=U.heap.push {cls:=.type "slice",data:=.fields #[L,d,.none]}};exact tail_any (ops:=[.ref U.heap.objs.size,v]) M hT σ (by with_unfolding_all rfl)
def yR(xs:List V)(lo hi:Option Int):List V:=(xs.drop (HT.sIx 4e8 0 lo)).take (HT.sIx 4e8 4e8 hi-HT.sIx 4e8 0 lo)
theorem qP(xs:List V)(lo hi:Option Int):(yR xs lo hi).length<=xs.length:=by
 unfold yR;rw[US,List.length_drop];omega
def Qm(K:W.Frag):V->Option Int->Option Int->Hp->VK->Prop:=λx lo hi H Q=>∃a xs,x=.ref a/\gz K H a xs /\
 ¬ (HT.sIx 4e8 0 lo=0/\HT.sIx 4e8 4e8 hi=4e8)/\∀p,H p=none->Q (.ref p) (cE H p (.tup (yR xs lo hi)))
theorem NA:IG X (Qm X.K):=by
 intro pins s Y H x v V y lo hi j Q I R S L U h;obtain⟨a,xs,rfl,d,W,q⟩:=h;cases R;obtain⟨i,r,J,μ⟩:=I.tuple d;have n:i.toArray.size=xs.length:=by rw[UL];exact r.length.symm
 refine⟨"tuple",_,Vc.lookup,J.typeIs,?_⟩;refine HT.getItem_tuple_cut J S L U (by rw[n];exact W) ?_ (by rw[n];exact μ);rw[n];refine⟨.ref 0e4,_,I.laid (t':=s.toks) (o:=.tup (yR xs lo hi)) (λb O q=>UF _ q) 6e3 ?_,rfl,q _ (I.hok.fresh 6e3)⟩;exact⟨Ub (qP xs lo hi) μ,_,(r.drop (HT.sIx 4e8 0 lo)).take (HT.sIx 4e8 4e8 hi-HT.sIx 4e8 0 lo),mx.new _ _⟩
noncomputable def Rb(K:W.Frag):R2:=λx y H Q=>∃a b xs ys,x=.ref a/\y=.ref b/\gz K H a xs/\gz K H b ys/\xs≠[]/\xs.length+ys.length<=sizeLine /\
 (ys=[]->Q 15e7 H)/\(ys≠[]->∀p,H p=none->Q (.ref p) (cE H p (.tup (xs++ys))))
theorem bA.nil_iff{xs:List V}(r:bA xs us):us=[]↔xs=[]:=by
 cases r with
 |nil=>simp
 |cons _ _=>simp
theorem Ks:kd X (binaryOp .Add) (Rb X.K):=by
 intro pins s Y H x y v u Q I L σ h;obtain⟨a,b,xs,ys,rfl,rfl,n,B,d,μ,G,J⟩:=h;cases L;cases σ;obtain⟨i,R,j,_⟩:=I.tuple n;obtain⟨its2,M,p2,_⟩:=I.tuple B;refine HT.cat_tup j p2 (λz=>d (R.nil_iff.mp z)) (λz=>⟨.ref a,H,I,rfl,G (M.nil_iff.mp z)⟩) (λz=>?_) (by rw[<- R.length,<- M.length];exact μ);refine⟨.ref 0e4,_,I.laid (t':=s.toks) (o:=.tup (xs++ys)) (λb O q=>UF _ q) 6e3 ?_,rfl,J (λw=>z (M.nil_iff.mpr w)) _ (I.hok.fresh 6e3)⟩;exact⟨by rw[U0];exact μ,_,R.append M,mx.new _ _⟩
end
def AG(n:Nat)(i:Int):Option Nat:=if 0<=i then (if i<n then some i.toNat else none) else if -(n:Int)<=i then some (i+n).toNat else none
def atI{α:Type}(xs:List α)(i:Int):Option α:=(AG 4e8 i).bind λj=>xs[j]?
theorem xO{i:Int}(h:AG n i=some j):seqIndex? i n=some j/\j<n/\-(n:Int)<=i/\i<n:=by
 unfold AG at h;by_cases d:0<=i
 ·rw [T1 d] at h;by_cases h1:i<n
  ·rw[T1 h1]at h;have e:i.toNat=j:=TV h;exact⟨by rw[seqIndex_of d h1,e],by omega,by omega,h1⟩
  ·rw[T3 h1]at h;cases h
 ·rw [T3 d] at h;by_cases h1:-(n:Int)<=i
  ·rw[T1 h1]at h;have e:(i+n).toNat=j:=TV h;exact⟨by rw[seqIndex_neg 0e1 h1,e],by omega,h1,by omega⟩
  ·rw[T3 h1]at h;cases h
theorem x4{α:Type}{xs:List α}{i:Int}{v:α}(h:atI xs i=some v):∃j,seqIndex? i 4e8=some j/\xs[j]?=some v/\j<xs.length/\-(xs.length:Int)<=i/\i<xs.length:=by
 unfold atI at h;cases e:AG 4e8 i with
 |none=>rw[e]at h;cases h
 |some j=>
  rw[e]at h;obtain⟨h1,h2,d,n⟩:=xO e;exact⟨j,h1,h,h2,d,n⟩
theorem km{α:Type}{xs:List α}{v:α}(h:xs[j]?=some v):atI xs (j:Int)=some v:=by
 have D:j<xs.length:=(Ul.mp h).1
 have e:AG 4e8 (j:Int)=some j:=by
  unfold AG;rw[T1 0e1,T1 0e1];simp
 unfold atI;rw[e];exact h
def sd(b:Expr):Prop:=∀o i,subscripted b false o i=operate [o,i] (getItem o i)
def Iw(X:Cx)(r:R2):Prop:=
 ∀(value slice:Expr)(pins:List 4e4)(s:Shared)(Y:St)(H:Hp)(x y:V)(v u:Value)(Q:VK),bf X pins Y H s->cX x v->cX y u->r x y H Q ->
  subscripted slice false v u=operate [v,u] (getItem v u)->wpAny 1e5 X.A (subscriptTail value slice v u) 12e0 X.xe s
def Ss(X:Cx)(id:String)(r:V->List V->Hp->VK->Prop):Prop:=
 ∀(pins:List 4e4)(s:Shared)(Y:St)(H:Hp)(x:V)(xs:List V)(v:Value)(U:List Value)(Q:VK),bf X pins Y H s->cX x v->bA xs U->r x xs H Q ->
  wpAny 1e5 X.A (call 16e4 (v::U)) 12e0 X.xe s
section
variable{X:Cx}{a b:Expr}{ta tb:TE}
theorem Iw.or{r r':R2}(h:Iw X r)(h':Iw X r'):Iw X (λx y H Q=>r x y H Q\/r' x y H Q):=by
 intro value slice pins s Y H x y v u Q I R σ q S;rcases q with q|q
 ·exact h value slice pins s Y H x y v u Q I R σ q S
 ·exact h' value slice pins s Y H x y v u Q I R σ q S
theorem L4{r:R2}(R:Iw X r)(d:PE X a ta)(B:PE X b tb)(hs:sd b):PE X (.Subscript a b pos) (RY r ta tb):=by
 intro pins s Y H Q I h;exact Subscript_ (MH d B I h λv u N x y H2 n i σ q=>R a b pins N Y H2 x y v u Q n i σ q (hs _ _))
def Qs(K:W.Frag):R2:=λx y H Q=>∃p xs i v,x=.ref p/\y=.int i/\fK K H p xs/\atI xs i=some v/\Q v H
def Qq(K:W.Frag):R2:=λx y H Q=>∃p xs i v,x=.ref p/\y=.int i/\gz K H p xs/\atI xs i=some v/\Q v H
def Qr:R2:=λx y H Q=>∃z i c,x=.str z/\y=.int i/\z.length<=sizeLine/\atI z.cps.toList i=some c/\Q (.str ⟨#[c]⟩) H
theorem K6:Iw X (Qs X.K):=by
 intro value slice pins s Y H x y v u Q I σ μ h B;obtain⟨p,xs,i,z,rfl,rfl,U,M,q⟩:=h;cases σ;obtain⟨t,rfl⟩:=μ;obtain⟨S,r,L,F⟩:=I.list U;obtain⟨j,h1,h2,O,G,J⟩:=x4 M;obtain⟨w,W,R⟩:=r.get h2;have N:=11e9;have V:=pX;have n:EP X pins Y Q w s:=⟨z,H,I,R,q⟩;by_cases d:0<=i
 ·have D:i.toNat=j:=by
   rw[seqIndex_of d J]at h1;exact TV h1
  exact item_listR L.isList d 0e1 (by rw[D];simpa using W) n B
 ·have D:(i+(S.toArray.size:Int)).toNat=j:=by
   rw[seqIndex_neg 0e1 G]at h1;rw[UL,<- N];exact TV h1
  exact Vj (x:=w) L.isList.typeIs slot_list_getitem.lookup
   (wpAny_getItem_list_neg (Q:=λr s'=>r=w/\EP X pins Y Q r s') L.isList 0e1 (by rw[UL] <;> omega) 0e1 (by rw[D];simpa using W) ⟨rfl,n⟩) B
theorem O3:Iw X (Qq X.K):=by
 intro value slice pins s Y H x y v u Q I M σ h S;obtain⟨p,xs,i,z,rfl,rfl,G,d,q⟩:=h;cases M;obtain⟨t,rfl⟩:=σ;obtain⟨J,r,L,O⟩:=I.tuple G;obtain⟨j,h1,h2,N,U,μ⟩:=x4 d;obtain⟨w,W,R⟩:=r.get h2;have B:=11e9;have D:=pX;have n:EP X pins Y Q w s:=⟨z,H,I,R,q⟩
 exact Vj (x:=w) L.typeIs slot_tuple_getitem.lookup
  (getItem_tuple (j:=j) (Q:=λr s'=>r=w/\EP X pins Y Q r s') L 0e1 0e1 (by rw[UL,<- B];exact h1) (by simpa using W) ⟨rfl,n⟩) S
theorem O4:Iw X Qr:=by
 intro value slice pins s Y H x y v u Q I R σ h S;obtain⟨z,i,c,rfl,rfl,μ,J,q⟩:=h;obtain⟨t,rfl⟩:=R;obtain⟨U,rfl⟩:=σ;obtain⟨j,h1,h2,M,n,G⟩:=x4 J;have L:z.cps.toList.length=z.length:=by simp[Str.length]
 rw[L]at h1 n G;have N:=pX
 exact tail_any (typeIs_str s z t) slot_str_getitem.lookup (getItem_str (c:=c) (by
  have d:decide (i < -(2^63:Int))=false:=TY 0e1;have B:decide (i ≥ 2^63)=false:=TY 0e1
  rw[d,B,Bool.or_false]) (by rw[h1];simpa using h2) ⟨.str ⟨#[c]⟩,H,I.tok _,⟨_,rfl⟩,q⟩) S
def Th(K:W.Frag):R2:=λx y H Q=>Qs K x y H Q\/Qq K x y H Q\/Qr x y H Q
theorem O5:Iw X (Th X.K):=K6.or (O3.or O4)
theorem BO (its:List Value) (n j:Nat) (u:Value):Obj.mapSeq (·.setIfInBounds j u) {cls:=.type "list",data:=.seq 10e3 n}={cls:=.type "list",data:=.seq (its.set j u).toArray n}:=by
 simp[Obj.mapSeq]
theorem bf.lst{p:Addr}{xs:List V}(I:bf X pins Y H s)(h:H p=some 7e5):
  ∃(its:List Value) (n:Nat),bA xs its/\s.heap.get? p=some {cls:=.type "list",data:=.seq 10e3 n}/\xs.length<=sizeLine:=by
 obtain⟨z,its,n,r,e⟩:=I.hok p _ h;exact⟨its,n,r,e,z⟩
theorem bf.lstUpd{p:Addr}{xs ys:List V}{its':List Value}{n':Nat}{f:Obj->Obj}(I:bf X pins Y H s)(h:H p=some 7e5)(G:s.heap.get? p=some {cls:=.type "list",data:=.seq 10e3 n})(F:f {cls:=.type "list",data:=.seq 10e3 n}={cls:=.type "list",data:=.seq its'.toArray n'})(r:bA ys its')(hz:ys.length<=sizeLine)(t:Nat):
  bf X pins Y (cE H p (.lst ys)) {s with heap:=s.heap.update p f,toks:=t}:=by
 have e:(s.heap.update p f).get? p=some {cls:=.type "list",data:=.seq its'.toArray n'}:=by
  rw[Vk f G (by rw[F] <;> rfl),F]
 refine I.write (x:=p) (e:=p) (by rw[h];trivial) 8e9 (λb u B q=>(Vl _ _ (Ui B)).trans q) ⟨_,e⟩ ?_;exact⟨hz,its',n',r,e⟩
def LW:V->V->V->Hp->(Hp->Prop)->Prop:=λo i v H Q=>∃p xs k j,o=.ref p/\i=.int k/\H p=some 7e5/\AG 4e8 k=some j/\Q (cE H p (.lst (xs.set j v)))
theorem GX:QF X LW:=by
 intro pins s Y H o i v F σ u Q I O R V h;obtain⟨p,xs,k,j,rfl,rfl,N,D,q⟩:=h;cases O;obtain⟨t,rfl⟩:=R;obtain⟨S,n,r,G,μ⟩:=I.lst N;obtain⟨h1,h2,B,J⟩:=xO D;have L:=11e9;have U:=pX
 have y:bf X pins Y (cE H p (.lst (xs.set j v))) {s with heap:=s.heap.update p (Obj.mapSeq (·.setIfInBounds j u))}:=
  I.lstUpd N G (BO S n j u) (r.set V j) (by rw[Vm];exact μ) s.toks
 by_cases z:0<=k
 ·have d:k.toNat=j:=by
   rw[seqIndex_of z J]at h1;exact TV h1
  exact W.ki_setAt G z 0e1 (by rw[UL,<- L];exact J) (by rw[d];exact⟨_,y,q⟩)
 ·have d:(k+(S.toArray.size:Int)).toNat=j:=by
   rw[seqIndex_neg 0e1 B]at h1;rw[UL,<- L];exact TV h1
  exact W.ki_setBack G 0e1 (by rw[UL,<- L];exact B) 0e1 (by rw[d];exact⟨_,y,q⟩)
theorem x9(lo hi:Option Int)(n:Nat):(sliceBounds lo hi none n).1=((HT.sIx n 0 lo:Nat):Int)/\(sliceBounds lo hi none n).2.1=((HT.sIx n n hi:Nat):Int)/\(sliceBounds lo hi none n).2.2=1:=by
 refine⟨?_,?_,rfl⟩
 ·cases lo with
  |none=>simp[sliceBounds,HT.sIx]
  |some i=>
   dsimp[sliceBounds,HT.sIx,Option.getD_none,show (1:Int)>0 by decide,U9];by_cases h:i<0
   ·dsimp[h,U9] <;> omega
   ·dsimp[h,U8] <;> omega
 ·cases hi with
  |none=>simp[sliceBounds,HT.sIx]
  |some i=>
   dsimp[sliceBounds,HT.sIx,Option.getD_none,show (1:Int)>0 by decide,U9];by_cases h:i<0
   ·dsimp[h,U9] <;> omega
   ·dsimp[h,U8] <;> omega
theorem u7(its:List Value)(lo hi:Option Int):slicePick 10e3 lo hi none=((its.drop (HT.sIx its.length 0 lo)).take (HT.sIx its.length its.length hi-HT.sIx its.length 0 lo)).toArray:=by
 obtain⟨h1,h2,d⟩:=x9 lo hi its.toArray.size;unfold slicePick;rw[h1,h2,d];dsimp[sliceRange_one,pick_run,UL] <;> rfl
def Qn(K:W.Frag):V->Option Int->Option Int->Hp->VK->Prop:=λx lo hi H Q=>∃a xs,x=.ref a/\fK K H a xs/\∀p,H p=none->Q (.ref p) (cE H p (.lst (yR xs lo hi)))
theorem JI:IG X (Qn X.K):=by
 intro pins s Y H x v V y lo hi j Q I R S L U h;obtain⟨a,xs,rfl,d,q⟩:=h;cases R;obtain⟨i,r,J,μ⟩:=I.list d;have n:=11e9;refine⟨"list",_,slot_list_getitem.lookup,J.isList.typeIs,?_⟩;refine wpAny_getItem_list_slice J.isList S L U .none 0e9 ?_ (by rw[UL] <;> omega);rw[u7,<- n];refine⟨.ref 0e4,_,I.laid (t':=s.toks) (o:=.lst (yR xs lo hi)) (λb O q=>UF _ q) 6e3 ?_,rfl,q _ (I.hok.fresh 6e3)⟩;exact⟨Ub (qP xs lo hi) μ,_,0,(r.drop (HT.sIx 4e8 0 lo)).take (HT.sIx 4e8 4e8 hi-HT.sIx 4e8 0 lo),T4 _ rfl⟩
theorem cY.or{f:Value}{r r':List V->Hp->VK->Prop}(h:cY X f r)(h':cY X f r'):cY X f (λxs H Q=>r xs H Q\/r' xs H Q):=by
 intro pins s Y H xs U Q I R q;rcases q with q|q
 ·exact h pins s Y H xs U Q I R q
 ·exact h' pins s Y H xs U Q I R q
theorem yB:cY X (.type "list") (λxs H Q=>∃p ys,xs=[.ref p]/\(fK X.K H p ys\/gz X.K H p ys)/\∀l,H l=none->Q (.ref l) (cE H l (.lst ys))):=by
 intro pins s Y H xs U Q I r h;obtain⟨p,ys,rfl,z,q⟩:=h;obtain⟨u,rfl,J⟩:=iq r;cases J
 have F:∀(i:List Value),bA ys i->ys.length<=sizeLine->∀(h':Heap)(d:Nat),(∀b o',s.heap.get? b=some o'->h'.get? b=some o') ->
   h'.get? 0e4=some {cls:=.type "list",dict:=none,data:=.seq i.toArray d,slots:=#[]}->EP X pins Y Q 15e5 {s with heap:=h'}:=λi R μ h' d j e=>
  ⟨.ref 0e4,_,I.laid (t':=s.toks) j 6e3 (show eP 13e0 X.w _ h' _ (.lst ys) from⟨μ,i,d,R,e⟩),rfl,q _ (I.hok.fresh 6e3)⟩
 rcases z with z|z
 ·obtain⟨i,R,L,μ⟩:=I.list z;have N:=R.length;obtain⟨o,G,y,n,D⟩:=L.isList;exact call_list_seq p 8e9 G y D (λh' d j e=>F i R μ h' d j e) (by dsimp[UL] <;> omega)
 ·obtain⟨i,R,L,μ⟩:=I.tuple z;have N:=R.length;obtain⟨o,G,y,n,D⟩:=L;exact call_list_seq p (.inr rfl) G y D (λh' d j e=>F i R μ h' d j e) (by dsimp[UL] <;> omega)
theorem vx:cY X (.type "tuple") (λxs H Q=>∃p ys,xs=[.ref p]/\((fK X.K H p ys/\∀l,H l=none->Q (.ref l) (cE H l (.tup ys)))\/(gz X.K H p ys/\Q (.ref p) H))):=by
 intro pins s Y H xs U Q I r h;obtain⟨p,ys,rfl,h⟩:=h;obtain⟨u,rfl,G⟩:=iq r;cases G;rcases h with⟨z,q⟩|⟨z,q⟩
 ·obtain ⟨i, R, L, μ⟩ := I.list z;have n:=R.length;refine call_tuple_list L.isList (λh' B=>?_) (by dsimp[UL] <;> omega);have j:bf X pins Y H {s with heap:=h'}:=I.kept (t':=s.toks) B
  have y:bf X pins Y (cE H h'.objs.size (.tup ys)) {s with heap:=h'.push {cls:=.type "tuple",data:=.seq i.toArray}}:=
   j.laid (t':=s.toks) (λb o e=>UF _ e) 6e3 (show eP 13e0 X.w _ _ _ (.tup ys) from⟨μ,i,R,mx.new _ _⟩)
  exact⟨.ref h'.objs.size,_,y,rfl,q _ (j.hok.fresh 6e3)⟩
 ·obtain⟨i,R,L,μ⟩:=I.tuple z;exact call_tuple_same L ⟨.ref p,H,I,rfl,q⟩
def RW(K:W.Frag)(T:String)(x:V)(H:Hp):Prop:=match x with
 |.str _=>T = "str"
 |.int _=>T = "int"
 |.ref p=>(T = "list" /\ ∃xs,fK K H p xs)\/(T = "tuple" /\ ∃xs,gz K H p xs) \/
   (T = "dict" /\ ((∃d,H p=some (.dK d))\/∃d,H p=some (.dT d)))\/(T = "set" /\ ∃S n,H p=some (.set S n))
 |_=>False
theorem FP{T:String}{x:V}{v:Value}(I:bf X pins Y H s)(r:cX x v)(ty:RW X.K T x H):
  s.TypeIs v T/\∀a,v=.ref a->∃ob,s.heap.get? a=some ob/\ob.dict=none:=by
 cases x with
 |str z=>
  obtain⟨t,rfl⟩:=r;cases (show T = "str" from ty);exact⟨typeIs_str s z t,λ_ e=>nomatch e⟩
 |int i=>
  obtain⟨t,rfl⟩:=r;cases (show T = "int" from ty);exact⟨typeIs_int s i t,λ_ e=>nomatch e⟩
 |ref p=>
  cases r;rcases ty with⟨rfl,xs,G⟩|⟨rfl,xs,G⟩|⟨rfl,j⟩|⟨rfl,S,n,j⟩
  ·obtain⟨q,_,M,_⟩:=I.list G;refine⟨M.isList.typeIs,λa e=>?_⟩;cases e;obtain⟨o,n,e,c,D,_⟩:=M;exact⟨o,e,D⟩
  ·obtain⟨o,L,y,D⟩:∃o,s.heap.get? p=some o/\o.cls=.type "tuple" /\ o.dict=none:=by
    rcases G with h|⟨o,q,n,j,y,D,_⟩
    ·obtain⟨_,q,_,o,e,c,_,d⟩:=h.ok I.hok;exact⟨o,e,c,d⟩
    ·exact⟨o,I.kIn p o j,y,D⟩
   refine⟨⟨o,L,y⟩,λa e=>?_⟩;cases e;exact⟨o,L,D⟩
  ·have z:∃o,s.heap.get? p=some o/\o.ExactDict:=by
    rcases j with⟨J,j⟩|⟨J,j⟩
    ·obtain⟨_,_,_,_,o,_,_,e,ex,_⟩:=I.hok p _ j;exact⟨o,e,ex⟩
    ·obtain⟨_,_,_,_,o,_,_,e,ex,_⟩:=I.hok p _ j;exact⟨o,e,ex⟩
   obtain⟨o,e,ex⟩:=z;refine⟨⟨o,e,ex.1⟩,λa B=>?_⟩;cases B;exact⟨o,e,ex.2.1⟩
  ·obtain⟨o,_,_,_,e,ex,_⟩:=I.hok p _ j;refine⟨⟨o,e,ex.1⟩,λa B=>?_⟩;cases B;exact⟨o,e,ex.2.1⟩
 |_=>exact False.elim ty
def SN(K:W.Frag)(T:String)(r:V->List V->Hp->VK->Prop)(to:TE):TE:=λY H Q=>to Y H λx H1=>RW K T x H1/\r x [] H1 Q
def TC(K:W.Frag)(T:String)(r:V->List V->Hp->VK->Prop)(to:TE)(t:TA):TE:=λY H Q=>to Y H λx H1=>RW K T x H1/\t Y H1 λxs H2=>r x xs H2 Q
variable{o:Expr}{es:List Expr}{to:TE}{t:TA}{name:Str}{cpos:Pos}{T id:String}{r:V->List V->Hp->VK->Prop}
theorem Og (j:PlainAttrs T) (slot:Slot T name id) (y:typeOf 16e4=pure (.type "method_descriptor")) (i:Ss X id r) (G:PE X o to)
  (hbase:autoParam (attributeBase o name 1e9 (eval o 1e9)=eval o 1e9) ATr) (hline:autoParam ((apos.endLine == cpos.line)=true) ATr):PE X (.Call (.Attribute o name apos) [] [] cpos) (SN X.K T r to):=by
 intro pins s Y H Q I h;refine wpAny_Call_method0_late hbase hline (dX (G pins s Y H _ I h) λv S ⟨x,H1,d,R,ty,q⟩=>?_);obtain⟨h1,h2⟩:=FP d R ty;exact⟨T,id,j,slot,y,h1,h2,Vn rfl (PySem.evalArgs_none (i pins S Y H1 x [] v [] Q d R .nil q))⟩
theorem Ri (j:PlainAttrs T) (slot:Slot T name id) (y:typeOf 16e4=pure (.type "method_descriptor")) (M:Ss X id r) (G:PE X o to) (i:PA X (e::es) t)
  (hbase:autoParam (attributeBase o name 1e9 (eval o 1e9)=eval o 1e9) ATr)
  (W :autoParam (((backTo cpos (starEach (e :: es) 1e9)).all (λx => !x.1) && (backToKw cpos 16e9).all (λx => x.1.isSome)
   && decide 8e7)=true) ATr)
  (hline:autoParam ((apos.endLine == cpos.line)=true) ATr) (hs:autoParam (starEach (e::es) 1e9=(false,eval e 1e9)::starEach es 1e9) ATr) (hplain:autoParam ((backTo cpos 7e1).any 3e0=false) ATr) :
  PE X (.Call (.Attribute o name apos) (e::es) [] cpos) (TC X.K T r to t):=by
 intro pins s Y H Q I h;refine wpAny_Call_method_late hbase W hline rfl (dX (G pins s Y H _ I h) λv S ⟨x,H1,d,R,ty,q⟩=>?_);obtain⟨h1,h2⟩:=FP d R ty;refine⟨T,id,j,slot,y,h1,h2,?_⟩;have hA:=i cpos pins S Y H1 _ d q;rw[hs]at hA⊢;refine Vn (by show (false || (backTo cpos 7e1).any 3e0)=false;rw[hplain] <;> rfl) (Calls.evalArgs_plain ?_);exact dX hA λU N ⟨V,H2,n,z,J⟩=>M pins N Y H2 x V v U Q n R z J
end
def PY(X:Cx)(id:String)(r:V->List V->Hp->VK->Prop):Prop:=
 ∀(pins:List 4e4)(s:Shared)(Y:St)(H:Hp)(x:V)(xs:List V)(v:Value)(U:List Value)(Q:VK),bf X pins Y H s->cX x v->bA xs U->r x xs H Q ->
  wpAny 1e5 X.A (call 16e4 (v::U)) 12e0 X.xe s
theorem bA.one:∀{x:V}{us:List Value},bA [x] us->∃u,us=[u]/\cX x u
 |_,_,.cons r .nil=>⟨_,rfl,r⟩
theorem bA.eraseIdx:∀{xs:List V}{us:List Value}(i:Nat),bA xs us->bA (xs.eraseIdx i) (us.eraseIdx i)
 |_,_,_,.nil=>.nil
 |_,_,0,.cons _ t=>t
 |_,_,i+1,.cons r t=>.cons r (bA.eraseIdx i t)
theorem bA.rep{xs:List V}{us:List Value}(h:bA xs us):∀k:Nat,bA (List.replicate k xs).flatten (List.replicate k us).flatten
 |0=>.nil
 |k+1=>by
  rw[Vo,Vo,Vp,Vp];exact bA.append h (bA.rep h k)
theorem wb{α:Type}:∀(l:List α)(i:Nat),(l.eraseIdx i).length<=l.length
 |[],_=>UG _
 |_::_,0=>Vq _
 |_::r,i+1=>Nat.succ_le_succ (wb r i)
theorem wu(its:List Value):∀(k:Nat)(acc:List Value),
  List.foldl (λx1 x2=>x1++x2) acc.toArray (List.replicate k 10e3)=(acc++(List.replicate k its).flatten).toArray
 |0,acc=>by simp
 |k+1,acc=>by
  have e:acc.toArray++its.toArray=(acc++its).toArray:=by simp
  have B:(acc++its)++(List.replicate k its).flatten=acc++(List.replicate (k+1) its).flatten:=by
   rw[Vo,Vp,Vr]
  rw[<- B,<- wu its k (acc++its),<- e,Vo,Vs]
section
variable{X:Cx}{l b:Addr}{xs ys zs:List V}
theorem bf.lset{its':List Value}{f:Array Value->Array Value}(I:bf X pins Y H s)(hH:H l=some 7e5)(e:s.heap.get? l=some {cls:=.type "list",data:=.seq 10e3 n})(F:f 10e3=its'.toArray)(V:bA ys its')(hz:ys.length<=sizeLine):
  bf X pins Y (cE H l (.lst ys)) {s with heap:=s.heap.update l (Obj.mapSeq f),toks:=t'}:=by
 have q:=PySem.IsL.update e f;rw[F]at q;refine I.write (x:=l) (e:=l) (by rw[hH];exact trivial) 8e9 (λd u B U=>(Vl 3e3 (Obj.mapSeq f) (Ui B)).trans U) ⟨_,q⟩ ?_;exact⟨hz,its',_,V,q⟩
theorem bf.lnew(I:bf X pins Y H s)(V:bA ys its)(hz:ys.length<=sizeLine):
  bf X pins Y (cE H 0e4 (.lst ys)) {s with heap:=s.heap.push {cls:=.type "list",data:=.seq 10e3},toks:=t'}:=
 I.laid (λ_ _ q=>UF _ q) 6e3 ⟨hz,its,0,V,T4 _ rfl⟩
theorem bf.fresh(I:bf X pins Y H s):H 0e4=none:=I.hok.fresh 6e3
theorem bf.lstM (I:bf X pins Y H s) (hH:H l=some 7e5):xs.length<=sizeLine/\∃(its:List Value) (n:Nat),bA xs its/\xs.length=its.length/\s.heap.get? l=some {cls:=.type "list",data:=.seq 10e3 n}:=by
 obtain⟨z,its,n,r,e⟩:=I.hok l _ hH;exact⟨z,its,n,r,11e9,e⟩
theorem tF(h:n<=sizeLine):Builtin.List.listTooLong n=false:=by
 unfold Builtin.List.listTooLong;exact TY 0e1
end
section
variable{X:Cx}
def CS:V->List V->Hp->VK->Prop:=λx S H Q=>∃l xs y,x=.ref l/\S=[y]/\H l=some 7e5/\xs.length<sizeLine/\Q .non (cE H l (.lst (xs++[y])))
theorem v7:PY X "list.append" CS:=by
 intro pins s Y H x S v U Q I d V h;obtain⟨l,xs,y,rfl,rfl,hH,μ,q⟩:=h;cases d;obtain⟨u,rfl,R⟩:=V.one;obtain⟨z,i,n,r,L,e⟩:=I.lstM hH;refine Vt F.slot_list_append ⟨_,e,rfl⟩ F.entry_list_append (F.args_list_append_2 _ _) (PySem.list_append l i.toArray n u (by rw[UL];omega)) ⟨e,?_⟩;refine⟨.non,_,I.lset (its':=i++[u]) hH e 0e9 (r.append (.cons R .nil)) ?_,rfl,q⟩;rw[U0,Vu];omega
def CQ:V->List V->Hp->VK->Prop:=λx y H Q=>∃l b xs zs,x=.ref l/\y=[.ref b]/\H l=some 7e5/\H b=some (.lst zs)/\xs.length+zs.length<=sizeLine/\Q .non (cE H l (.lst (xs++zs)))
theorem Ed:PY X "list.extend" CQ:=by
 intro pins s Y H x S v U Q I j V h;obtain⟨l,b,xs,zs,rfl,rfl,hH,hB,y,q⟩:=h;cases j;obtain⟨u,rfl,R⟩:=V.one;cases R;obtain⟨z,i,n,r,L,e⟩:=I.lstM hH;obtain⟨G,its2,N,M,d,B⟩:=I.lstM hB;have μ:i.toArray.size+its2.toArray.size<=sizeLine:=by rw[UL,UL];omega
 have hlong:¬ (!i.toArray.isEmpty&&Builtin.List.listTooLong (i.toArray.size+its2.toArray.size))=true:=by
  rw[tF μ,Vv];exact UA
 refine Vt F.slot_list_extend ⟨_,e,rfl⟩ F.entry_list_extend (F.args_list_extend_2 _ _)
  (AutoSeq1.list_extend_list_list_0 l i.toArray n b its2.toArray N hlong (by rw[UL];omega) 0e1) ⟨e,B,?_⟩
 refine⟨.non,_,I.lset (its':=i++its2) hH e 0e9 (r.append M) ?_,rfl,q⟩;rw[U0];omega
def F2:V->List V->Hp->VK->Prop:=λx S H Q=>∃l xs i k y,x=.ref l/\S=[.int i]/\H l=some 7e5/\-(2^63)<=i/\i<2^63/\seqIndex? i 4e8=some k/\xs[k]?=some y/\Q y (cE H l (.lst (xs.eraseIdx k)))
theorem HE:PY X "list.pop" F2:=by
 intro pins s Y H x G v B Q I j V h;obtain⟨l,xs,i,k,y,rfl,rfl,hH,h1,h2,d,σ,q⟩:=h;cases j;obtain⟨u,rfl,U⟩:=V.one;obtain⟨t,rfl⟩:=U;obtain⟨z,S,n,r,L,e⟩:=I.lstM hH;obtain⟨w,W,R⟩:=r.get σ
 refine Vt F.slot_list_pop ⟨_,e,rfl⟩ F.entry_list_pop (F.args_list_pop_2 _ _)
  (MeetsSeq.list_pop_at l S.toArray n i t k w (fitsIndex_both h1 h2) (by rw[UL,<- L];exact d) (by rw[<- Vw];exact W) (by rw[UL];omega)) ⟨e,?_⟩
 refine⟨y,_,I.lset (its':=S.eraseIdx k) hH e ?_ (r.eraseIdx k) ?_,R,q⟩
 ·show S.toArray.eraseIdxIfInBounds k=(S.eraseIdx k).toArray;rw[List.eraseIdxIfInBounds_toArray]
 ·have:=wb xs k;omega
def Qv:R2:=λx y H Q=>∃l b xs zs,x=.ref l/\y=.ref b/\H l=some 7e5/\H b=some (.lst zs)/\xs.length+zs.length<=sizeLine/\∀p,H p=none->Q (.ref p) (cE H p (.lst (xs++zs)))
theorem Ox:kd X (binaryOp .Add) Qv:=by
 intro pins s Y H x y v u Q I R σ h;obtain⟨l,b,xs,zs,rfl,rfl,hH,hB,μ,q⟩:=h;cases R;cases σ;obtain⟨z,i,n,r,L,e⟩:=I.lstM hH;obtain⟨G,its2,N,M,j,B⟩:=I.lstM hB;refine PySem.P.add_list e B ?_ (by rw[UL,UL];omega);have d:i.toArray++its2.toArray=(i++its2).toArray:=by simp
 rw[d];exact⟨.ref _,_,I.lnew (t':=s.toks) (r.append M) (by rw[U0];omega),rfl,q _ I.fresh⟩
def Qp:R2:=λx y H Q=>∃l k xs,x=.ref l/\y=.int k/\H l=some 7e5/\-(2^63)<=k/\k<2^63/\xs.length*k.toNat<=sizeLine /\
 ∀p,H p=none->Q (.ref p) (cE H p (.lst (List.replicate k.toNat xs).flatten))
theorem KZ{α:Type}(xs:List α)(k:Nat):(List.replicate k xs).flatten.length=k*xs.length:=by
 induction k with
 |zero=>simp
 |succ k i=>rw[Vo,Vp,U0,i,Vx,Nat.add_comm]
theorem On:kd X (binaryOp .Mult) Qp:=by
 intro pins s Y H x y v u Q I R σ h;obtain⟨l,k,xs,rfl,rfl,hH,h1,h2,μ,q⟩:=h;cases R;obtain⟨t,rfl⟩:=σ;obtain⟨z,i,n,r,L,e⟩:=I.lstM hH;have N:i.toArray.size*k.toNat<=sizeLine:=by rw[UL,<- L];exact μ
 have d:¬ i.toArray.size*k.toNat>(2^63-1) / 8:=by
  have:(sizeLine:Nat)<=(2^63-1) / 8:=by decide
  omega
 have j:¬ (!Builtin.List.listFitsIndex k)=true:=by
  rw[fitsIndex_both h1 h2];exact UA
 have hlong:¬ Builtin.List.listTooLong (i.toArray.size*k.toNat)=true:=by
  rw[tF N];exact UA
 have W:List.foldl (λB G=>B++G) #[] (List.replicate (if i.toArray.isEmpty=true then 0 else k.toNat) i.toArray)=(List.replicate k.toNat i).flatten.toArray:=by
  have J:∀m:Nat,List.foldl (λB G=>B++G) #[] (List.replicate m i.toArray)=(List.replicate m i).flatten.toArray:=λm=>by
   have:=wu i m [];rw[Vy]at this;exact this
  rw[J];cases i with
  |nil=>simp
  |cons a M=>rw[T3 0e9]
 refine wpAny_binaryOp_repeat_ref (T:="list") (U:="int") 1e2 ⟨_,e,rfl⟩ (λs'=>typeIs_int s' k t) noFill_list_mul F.fills_int_mul F.slot_int_rmul repeat_list F.slot_int_index.lookup
  (Vt F.slot_int_rmul (typeIs_int s k t) F.entry_int_rmul (F.args_int_rmul_2 _ _) (int___rmul___int_list k t l i.toArray n)
   ⟨e,rfl,⟨_,e,rfl⟩,Vt F.slot_list_mul ⟨_,e,rfl⟩ F.entry_list_mul (F.args_list_mul_2 _ _) (AutoListH.list___mul___list_int_3 l i.toArray n k t j d hlong) ⟨e,?_⟩⟩)
 rw[W];exact⟨.ref _,_,I.lnew (t':=s.toks) (r.rep k.toNat) (by rw[KZ,Vz];exact μ),rfl,q _ I.fresh⟩
end
end L2
namespace Att
open PySem PySem.W PySem.Calls PyProof.Rows
theorem rN{P:Params}:∀(ns:List Int)(vs:List Value),WellAll P h vs (ns.map WData.int)->IntsAre vs ns:=by
 intro ns
 induction ns with
 |nil=>
  intro vs w;rw[Vh]at w;cases w;exact .nil
 |cons n ns i=>
  intro vs w;rw[Vi]at w;cases w with
  |cons a b=>
   cases a;exact .cons _ _ (i _ b)
theorem DU{l:OpenLaw}(I:l.most=some n){P:Params}{args:List WData}{vals:List Value}(i:l.row.toRowW.claim.pre args=true)(z:WellAll P h vals args):
  ∃a vs ns,vals=[Value.ref a]/\args=[WData.list (ns.map WData.int)]/\h.get? a=some {cls:=.type "list",data:=.seq vs.toArray}/\IntsAre vs ns/\ns.length<=n:=by
 have hsh:WShape.hasAll [] args [.list .int]=true:=(pre_splitW i).1;have B:l.pre.holds [] {args:=args}=true:=(pre_splitW i).2;obtain⟨d,r,rfl,h1,h2⟩:=hasAllW_cons hsh;obtain rfl:=hasAllW_nil h2;obtain⟨xs,rfl,G⟩:=hasW_list h1;obtain⟨ns,rfl⟩:=items_int G
 have N:ns.length<=n:=by
  unfold OpenLaw.pre at B
  have j:(WTm.not (.lt (.lit (.int (n:Int))) (.len (.arg 0)))).holds [] {args:=[.list (ns.map .int)]}=true:=by
   have j:=(holds_andW B).1;rw[I]at j;exact j
  have y:=condW_of j (w_not (w_lt w_lit (w_len_list (w_arg rfl))));rw[U1]at y;refine Nat.le_of_not_lt λq=>?_;have J:(n:Int)<((ns.length:Nat):Int):=by omega
  first
   |(rw[VA J]at y;exact absurd y 1e2)
   |(simp at y;omega)
 cases z with
 |cons W M=>
  cases M;cases W with
  |list O L=>exact⟨_,_,ns,rfl,rfl,O,rN ns _ L,N⟩
theorem DZ(l:OpenLaw)(args:List WData):l.row.toRowW.claim.post args (.bool true) args=true:=
 postW_of (r:=l.row.toRowW) (X:=(true == true))
  (show WShape.has [] (.bool true) .bool=true by first|rfl|decide|simp[WShape.has,WShape.arms,WShape.armsAll])
  (show (WTm.eq .res (.lit (.bool true))).value [] {args:=args,res:=some (.bool true),after:=args}=some (.bool (true == true)) from w_eq_bool (w_res rfl) w_lit) rfl
theorem attach_call{l:OpenLaw}{q:Program}{d:DefRec}(U:l.most=some n)(F:d.params.defaults=[])(call : ∀ (w : World) (s₀ s₁ : Shared) (mg mb : Str -> Option Value) (fa : Addr) (o : Obj) (pm cd doc : Value) (a : Addr) (vs : List Value) (ns : List Int),
   Ground q loose [] XP w s₀ mg mb s₁.heap->YP w s₁.heap ->
   s₁.heap.get? fa=some o->o.data=.func (docDef d.name d.params d.body d.scope pm cd doc)->s₁.heap.CodeRec cd d.name->mg d.name=some (.ref fa) ->
   s₁.heap.get? a=some {cls:=.type "list",data:=.seq vs.toArray}->IntsAre vs ns->ns.length<=n->s₁.gens=#[] ->
   codeAny (model 8e0 w) callerA (.call (.ref fa) ⟨[.ref a],[]⟩) 8e5 s₁):
  WalkO q loose XP YP l.row.toRowW d [] (λf vs=>PySem.call f vs):=by
 intro w s₀ s₁ mg mb G σ fa o pm cd doc dV kV μ L D hD y M args vals W i B R z O;obtain rfl:dV=.none:=Dflts.none hD F;obtain rfl:kV=.none:=Dflts.noKw hD;obtain⟨a,vs,ns,rfl,rfl,j,hints,N⟩:=DU U i z;refine enter_call (UN (call w s₀ s₁ mg mb fa o pm cd doc a vs ns G σ μ (fd_plain L) D y j hints N M) λr s' V=>?_);obtain⟨rfl,h2,I,J⟩:=V;exact⟨.inl ⟨.bool true,.bool true,[],rfl,λ_=>rfl,.bool true,DZ l _,λ_=>⟨List.Pairwise.nil,λ_ S=>(nomatch S)⟩⟩,h2,I,J⟩
end Att
namespace L2
open PySem PySem.Spec PyProof.Rows
theorem vN:∀{vs:List Value}{ns:List Int},IntsAre vs ns->bA 12e1 vs
 |_,_,.nil=>.nil
 |_,_,.cons n t h=>.cons ⟨t,rfl⟩ (vN h)
def IT(H:Hp):Prop:=∀b,H b=none\/∃o xs,H b=some (.frz o 7e5)
theorem HI{mb:Str->Option Value}{k:Nat}{fa:Addr}{s₁:Shared}{vs:List Value}(KX:K.In s₁.heap)(S:s₁.heap.Ns mainGlobals mg)(B:s₁.heap.Ns builtinsNs mb)(I:∀x:Str,x ≠ "__name__" -> mb x=bootBuiltins x)(M:s₁.heap.NoLimit)(hg:s₁.gens=#[])(y:s₁.heap.get? a=some {cls:=.type "list",data:=.seq vs.toArray})(hi:IntsAre vs ns)(σ:ns.length<=sizeLine)(hr:kf k callerA)(F:∀base:Heap,K.In base->base.Ns mainGlobals mg->u4 P w K mg base CX k fa fd [x] sp)(hbind:∀(s:Shared)(u:Value),BindsTo s fd ⟨[u],[]⟩ [(x,u)])(N:∀H:Hp,IT H->fK K H a 12e1->sp [.ref a] H (λv _=>v=.bl true) λ_ _ _=>False)(hCX:∀H e s',CX [] H s₁ (λ_ _ _=>False) e s'->False):
  codeAny (model P w) callerA (.call (.ref fa) ⟨[.ref a],[]⟩) 8e5 s₁:=by
 have R:=vN hi;have lenV:=hi.length
 have core:∀H:Hp,IT H->fK K H a 12e1->si P w H s₁.heap->(∀b,H b≠none->b=a)->(H a≠none->K.lookup a=none) ->
   codeAny (model P w) callerA (.call (.ref fa) ⟨[.ref a],[]⟩) 8e5 s₁:=by
  intro H hO hS L hA hK;have base_of:∀{b:Addr}{o:Obj},s₁.heap.get? b=some o->H b=none->(w8 s₁.heap H).get? b=some o:=λe n=>HS e n
  have noA:∀{b:Addr}{o:Obj}{es:Array DictEntry}{i:Nat},s₁.heap.get? b=some o->o.data=.dict es i->H b=none:=λ{b o es i} e d=>by
   cases q:H b with
   |none=>rfl
   |some u=>
    have G:b=a:=hA b (by rw[q];simp);subst G;rw[y]at e;cases e;have μ:Data.seq vs.toArray _=Data.dict es i:=d;cases μ
  have nsK:∀{b:Addr}{m:Str->Option Value},s₁.heap.Ns b m->(w8 s₁.heap H).Ns b m:=λ{b m} ⟨o,es,i,e,d,r⟩=>⟨o,es,i,base_of e (noA e d),d,r⟩
  have hKb:K.In (w8 s₁.heap H):=λb o e=>base_of (KX b o e) (by
   cases q:H b with
   |none=>rfl
   |some u=>
    have G:b=a:=hA b (by rw[q];simp);subst G
    rw[hK (by rw[q];simp)]at e;cases e)
  have hM:Mod K mg (w8 s₁.heap H):=⟨hKb,nsK S,⟨mb,nsK B,I⟩,let ⟨mc,h1,h2⟩:=M;⟨mc,nsK h1,h2⟩⟩;have O:Ff P w K mg (w8 s₁.heap H) callerA [] s₁ H:=⟨rfl,hM,λb o e=>KC e,VB (El _ _),trivial,λb B=>absurd (show b∈([]:List Addr) from B) 0e9,L,.of_eq hg⟩;refine UN ((F _ hKb (nsK S)).run callerA [] s₁ H ⟨[.ref a],[]⟩ [.ref a] [.ref a] _ _ hr O (hbind s₁ 15e7) (.cons rfl .nil) (N H hO hS)) λr s' h=>?_;cases r with
  |error e=>exact(hCX H e s' h).elim
  |ok fl=>
   cases fl with
   |next=>exact False.elim h
   |brk=>exact False.elim h
   |cont=>exact False.elim h
   |ret u=>
    obtain⟨v,H',os,bare,un,j,r',q⟩:=h;have q':v=.bl true:=q;subst q';obtain rfl:u=Value.bool true:=r';refine⟨rfl,OldK.of_keep λb o e=>?_,os,bare⟩;cases q:H b with
    |none=>exact un.keep b o e q (by intro z;exact absurd (show b∈([]:List Addr) from z) 0e9) 0e9
    |some u=>
     rcases hO b with z|⟨ob,xs,z⟩
     ·rw[q]at z;cases z
     ·have z2:=un.frzs b ob _ z;obtain⟨U,_⟩:=L b _ z;obtain⟨e2,_⟩:=j b _ z2;rw[e]at U;cases U;exact e2
 cases J:K.lookup a with
 |some o=>
  have e:=KX a o J;rw[y]at e;cases e;refine core (λ_=>none) (λ_=>.inl rfl) (.inr ⟨_,vs.toArray,_,J,rfl,rfl,rfl,by rw[UL,lenV];exact σ,by simpa using R⟩) (λb u z=>by have D:(none:Option HO)=some u:=z;cases D) (λb z=>absurd rfl z) λz=>absurd rfl z
 |none=>
  refine core (λb=>if b=a then some (.frz {cls:=.type "list",data:=.seq vs.toArray} (.lst 12e1)) else none) (λb=>?_) (.inl (.inr ⟨{cls:=.type "list",data:=.seq vs.toArray},T1 rfl⟩)) (λb u z=>?_) (λb z=>?_) λ_=>J
  ·by_cases B : b = a
   ·exact .inr ⟨_,_,T1 B⟩
   ·exact .inl (T3 B)
  ·by_cases B : b = a
   ·have D:=(T1 B).symm.trans z;cases D;subst B;exact⟨y,by rw[U1];exact σ,vs,_,R,y⟩
   ·have D:=(T3 B).symm.trans z;cases D
  ·by_cases B : b = a
   ·exact B
   ·exact absurd (T3 B) z
theorem walk_of{l:W.OpenLaw}{k:Nat}{q:Program}{d:DefRec}{K:Params->W.Frag}{CX:World->Dq}{sp:World->Sp}(L:l.most=some n)(z:n<=sizeLine)(i:d.params.defaults=[])(R:kf k callerA)(hY:∀(w:World)(h:Heap),YP w h->(K 3e8).In h)(F : ∀ (w : World) (mg : Str -> Option Value) (fa : Addr) (h : Heap), (K 3e8).In h -> h.Ns mainGlobals mg -> mg d.name = some (.ref fa) ->
   ∃fd:FuncData,(∀(s:Shared)(u:Value),BindsTo s fd ⟨[u],[]⟩ [(x,u)]) /\
    ∀base:Heap,(K 3e8).In base->base.Ns mainGlobals mg->u4 8e0 w (K 3e8) mg base (CX w) k fa fd [x] (sp w))(B:∀(w:World)(H:Hp)(a:Addr)(ns:List Int),ns.length<=n->IT H->fK (K 3e8) H a 12e1->sp w [.ref a] H (λv _=>v=.bl true) λ_ _ _=>False)(hCX:∀(w:World)(H:Hp)(s:Shared)(e:Value)(s':Shared),CX w [] H s (λ_ _ _=>False) e s'->False):
  W.WalkO q loose XP YP l.row.toRowW d [] (λf vs=>PySem.call f vs):=by
 refine Att.attach_call L i λw s₀ s₁ mg U fa o μ M doc a vs ns G σ O S D y j hints N J=>?_;have KX:=hY w _ σ;obtain⟨fd,I,hF⟩:=F w mg fa _ KX G.T.g y;exact HI KX G.T.g G.T.b G.T.builtins G.T.nolimit J j hints (Ub N z) R hF I (λH hO hS=>B w H a ns N hO hS) λH e s'=>hCX w H s₁ e s'
abbrev EO:Dq:=λ_ _ _ _ _ _=>False
abbrev E0:XK:=λ_ _ _=>False
theorem Rk{X:Cx}:Bh EO X E0:=λ_ _ _ _ _ _ _ h=>h.elim
structure eJ(K:W.Frag)(x qual:Str)(st:Stmt)(f:Addr)(fd:FuncData):Prop where
 ex:∃(oc:Value)(od:Option Addr)(kV doc pm:Value)(an:Option Addr)(cdv ct:Value)(osl:Array (Option Value)),
  fd=W.fnOf x qual (fy st) (dr st) (ar st) .none kV doc pm an cdv ct/\K.lookup f=some ⟨oc,od,.func fd,osl⟩/\W.codeIn K cdv qual=true
 kp:W.keepIn K 2e9=true
section
theorem eJ.ok{ps:List Str}{k:Nat}(F:eJ K x qual st f fd)(S:aN N ps (ar st))(len:∀vs H Q E,sp vs H Q E->vs.length=ps.length)(hbody : ∀ (cdv : Value) (A : Around) (outer : List Env) (s : Shared) (H : Hp) (vs : List V) (Q : VK) (E : XK), kf k 14e0 -> sp vs H Q E ->
   ∃t,l9 (xa EO P w K mg base N qual (ar st) f cdv A outer s H E).nox (dr st) t/\t {nx:=λ_ H'=>Q .non H',rt:=Q} (start N vs) H):u4 P w K mg base EO (k+1) f fd ps sp:=by
 obtain⟨O,i,kV,doc,μ,n,cdv,d,osl,rfl,L,D⟩:=F.ex;refine RF L D S len λA outer s H vs Q E R z=>?_;obtain⟨t,h,q⟩:=hbody cdv A outer s H vs Q E R z;exact⟨t,h.nox,q⟩
theorem eJ.binds{ps:List Str}(F:eJ K x qual st f fd)(h:∀(kV doc pm:Value)(an:Option Addr)(cdv ct:Value)(us:List Value),us.length=ps.length->bindArgs 2e4 ⟨us,[]⟩=pure (ps.zip us)):lW K fd ps []:=by
 obtain⟨O,d,kV,doc,pm,an,cdv,ct,osl,rfl,L,D⟩:=F.ex;exact .all (h kV doc pm an cdv ct)
theorem Pg{oc:Value}{od an:Option Addr}{kV doc pm cdv ct:Value}(l:K.lookup f=some ⟨oc,od,.func 2e4,osl⟩)(c:W.codeIn K cdv qual=true)(k:W.keepIn K 2e9=true):eJ K x qual st f 2e4:=⟨⟨oc,od,kV,doc,pm,an,cdv,ct,osl,rfl,l,c⟩,k⟩
end
theorem QB{A B:Prop}(h:B):if false=true then A else B:=by
 rw[T3 UA];exact h
theorem QA{A B:Prop}(h:A):if true=true then A else B:=by
 rw[T1 rfl];exact h
theorem gn{x:Str}:∀{names:List (Str×NameKind)}{k:NameKind},names.lookup x=some k->(x,k)∈names
 |[],_,h=>by simp at h
 |(n,j)::r,k,h=>by
  rw[VC]at h;cases d:x == n with
  |true=>
   rw[d]at h;have e:x=n:=eq_of_beq d;cases h;rw[e];exact Ue
  |false=>rw[d]at h;exact Ug _ (gn h)
theorem j3{env:Env}{x:Str}:∀{names:List (Str×NameKind)},
  (names.map λ(n, k) => if (k == NameKind.free && env.scope.kind == .function && env.kindOf n == some .cell) then (n, NameKind.cell) else (n, k)).lookup x =
   (names.lookup x).map λk=>if (k == NameKind.free&&env.scope.kind == .function&&env.kindOf x == some .cell) then NameKind.cell else k
 |[]=>rfl
 |(n,k)::r=>by
  have h:=j3 (env:=env) (x:=x) (names:=r);rw[Vi];show List.lookup x ((if (k == NameKind.free&&env.scope.kind == .function&&env.kindOf n == some .cell)=true then (n,NameKind.cell) else (n,k))::_)=_;cases d:x == n with
  |true=>
   have e:x=n:=eq_of_beq d;subst e;by_cases i:(k == NameKind.free&&env.scope.kind == .function&&env.kindOf x == some .cell)=true
   ·rw[T1 i,VC,d,VC,d];show some NameKind.cell=some (if _ then _ else _);rw[T1 i]
   ·rw[T3 i,VC,d,VC,d];show some k=some (if _ then _ else _);rw[T3 i]
  |false=>
   by_cases i:(k == NameKind.free&&env.scope.kind == .function&&env.kindOf n == some .cell)=true
   ·rw[T1 i,VC,d,VC,d];exact h
   ·rw[T3 i,VC,d,VC,d];exact h
theorem oo{env:Env}{f:Str×NameKind->List (Str×Addr)->Sem (ForInStep (List (Str×Addr)))}
  (b:∀n c acc,env.cells.lookup n=some c->f (n,.free) acc=pure (.yield ((n,c)::acc))) (g:∀n k acc,k≠.free->f (n,k) acc=pure (.yield acc)) :
  ∀(names:List (Str×NameKind))(acc:List (Str×Addr)),(∀y∈names,y.2=.free->∃c,env.cells.lookup y.1=some c)->(∀x c,acc.lookup x=some c->env.cells.lookup x=some c) ->
   ∃cl,forIn names acc f=(pure cl:Sem (List (Str×Addr)))/\(∀x c,cl.lookup x=some c->env.cells.lookup x=some c)/\(∀x,(acc.lookup x).isSome=true->(cl.lookup x).isSome=true)/\(∀y∈names,y.2=.free->(cl.lookup y.1).isSome=true)
 |[],acc,_,a=>⟨acc,rfl,a,λ_ h=>h,λy σ=>by simp at σ⟩
 |(n,k)::r,acc,N,a=>by
  by_cases K:k=.free
  ·subst K;obtain⟨c,i⟩:=N (n,.free) Ue rfl
   obtain⟨cl,e,B,U,E⟩:=oo b g r ((n,c)::acc) (λy σ=>N y (Ug _ σ)) (λx d h=>by
    rw[VC]at h;cases H:x == n with
    |true=>rw[H]at h;cases h;rw[eq_of_beq H];exact i
    |false=>rw[H]at h;exact a x d h)
   refine⟨cl,?_,B,λx h=>U x ?_,λy σ F=>?_⟩
   ·rw[List.forIn_cons,b n c acc i];exact e
   ·rw[VC];cases H:x == n <;> simp[h]
   ·rcases Uh.mp σ with z | z
    ·subst z;exact U n (by simp[VC])
    ·exact E y z F
  ·obtain ⟨cl, e, B, U, E⟩ := oo b g r acc (λy σ => N y (Ug _ σ)) a;refine⟨cl,?_,B,U,λy σ F=>?_⟩
   ·rw[List.forIn_cons,g n k acc K];exact e
   ·rcases Uh.mp σ with z | z
    ·subst z;exact absurd F K
    ·exact E y z F
theorem AB{n:Str}{c:Addr}(h:env.cells.lookup n=some c):cellOf env n=pure c:=by
 unfold cellOf;rw[h]
noncomputable def Cn(env:Env)(x:Str×NameKind)(r:List (Str×Addr)):Sem (ForInStep (List (Str×Addr))):=
 match x with|(name,kind)=>if kind == .free then do let c <- cellOf env name;pure (.yield ((name,c)::r)) else pure (.yield r)
theorem BX(H:∀y∈scope.names,y.2=.free->∃c,env.cells.lookup y.1=some c):
  ∃cl,closureFor scope env=pure cl/\(∀x c,cl.lookup x=some c->env.cells.lookup x=some c)/\(∀y∈scope.names,y.2=.free->(cl.lookup y.1).isSome=true):=by
 obtain⟨cl,d,B,_,E⟩:=oo (env:=env) (f:=Cn env)
  (λn c a h=>by unfold Cn;dsimp[VD,U9];rw[AB h];rfl)
  (λn k a h => by
   unfold Cn;have:(k == NameKind.free)=false:=by simpa using h
   dsimp[this,VE,U8]) scope.names [] H (λx c h=>by simp at h)
 refine⟨cl,?_,B,E⟩;show (forIn scope.names [] (Cn env) >>= λs=>pure s)=pure cl;rw[d];rfl
noncomputable def iX(X:Cx)(Nc:List Str)(scope:Scope)(cl:List (Str×Addr))(C:Addr)(s:Shared)(H:Hp)(F:List Addr):Cx where
 prog:=13e0
 w:=X.w
 K:=X.K
 mg:=X.mg
 base:=X.base
 A:=X.A
 N:=Nc
 s₀:=s
 H₀:=H
 env:=compEnvC scope (cellsFrom (C+1) scope.names cl) C 1e9
 outer:=X.stack
 stack:=X.stack
 ex:=F
 fn:=λx=>scope.names.lookup x == some .cell
 calm:=X.calm
 pn:=[]
 xe:=λ_ _=>False
noncomputable def sL(cap:List 5e0)(Y:St):St:=cap.map λo=>o.bind λj=>(Y[j]?).join
noncomputable def iu(N:List Str)(env:Env)(scope:Scope):List Str->List 5e0->Bool
 |[],[]=>true
 |_::Nc,none::cap=>iu N env scope Nc cap
 |x::Nc,some j::cap=>(N[j]? == some x)&&(scope.names.lookup x == some .free)&&iu N env scope Nc cap
 |_,_=>false
theorem qu{N:List Str}{env:Env}{scope:Scope}:∀{Nc:List Str}{cap:List 5e0},iu N env scope Nc cap=true->cap.length=Nc.length
 |[],[],_=>rfl
 |[],_::_,h=>by simp[iu]at h
 |_::_,[],h=>by simp[iu]at h
 |_::Nc,none::cap,h=>by rw[VF,VF,qu (Nc:=Nc) (cap:=cap) h]
 |x::Nc,some j::cap,h=>by
  have H:iu N env scope Nc cap=true:=by unfold iu at h;dsimp[Vf]at h;exact h.2
  rw[VF,VF,qu H]
theorem tO{N:List Str}{env:Env}{scope:Scope}:∀{Nc:List Str}{cap:List 5e0}{i j:Nat}{x:Str},iu N env scope Nc cap=true->cap[i]?=some (some j)->Nc[i]?=some x->N[j]?=some x/\scope.names.lookup x=some .free
 |[],_,_,_,_,_,_,e=>by simp at e
 |_::_,[],_,_,_,h,_,_=>by simp[iu]at h
 |y::Nc,none::cap,0,j,x,h,e,_=>by simp at e
 |y::Nc,some k::cap,0,j,x,h,e,B=>by
  simp at e B;subst e;subst B;unfold iu at h;dsimp[Vf]at h;exact⟨eq_of_beq h.1.1,eq_of_beq h.1.2⟩
 |y::Nc,none::cap,i+1,j,x,h,e,B=>tO (Nc:=Nc) (cap:=cap) (i:=i) h (by simpa using e) (by simpa using B)
 |y::Nc,some k::cap,i+1,j,x,h,e,B=>by
  have H:iu N env scope Nc cap=true:=by unfold iu at h;dsimp[Vf]at h;exact h.2
  exact tO (Nc:=Nc) (cap:=cap) (i:=i) H (by simpa using e) (by simpa using B)
structure bP(N:List Str)(env:Env)(scope:Scope)(Nc:List Str)(cap:List 5e0):Prop where
 kind:scope.kind=.function
 nd:∀y∈scope.names,scope.names.lookup y.1=some y.2
 free:∀y∈scope.names,y.2=.free->env.kindOf y.1=some .cell\/env.kindOf y.1=some .free
 cap:iu N env scope Nc cap=true
theorem nr{n0:Nat}{x:Str}{c:Addr}:∀{names:List (Str×NameKind)}{cl:List (Str×Addr)}{n:Nat},n0<=n->((x,NameKind.cell)∈names\/∃c',cl.lookup x=some c'/\n0<=c')->(cellsFrom n names cl).lookup x=some c->n0<=c
 |[],cl,n,_,h,e=>by
  rcases h with z|⟨c',μ,G⟩
  ·simp at z
  ·have E:cl.lookup x=some c:=e;rw[μ]at E;cases E;exact G
 |(y,k)::r,cl,n,N,h,e=>by
  unfold cellsFrom at e;split at e
  ·rename_i H;refine nr (n:=n+1) 0e1 ?_ e;cases d:x == y with
   |true=>exact .inr ⟨n,by rw[VC,d],N⟩
   |false=>
    rcases h with z|⟨c',μ,G⟩
    ·rcases Uh.mp z with q | q
     ·have:x=y:=Uu Prod.fst q;rw[this]at d;simp at d
     ·exact .inl q
    ·exact .inr ⟨c',by rw[VC,d];exact μ,G⟩
  ·rename_i H;refine nr N ?_ e;rcases h with z|z
   ·rcases Uh.mp z with q | q
    ·have:k=.cell:=(Uu Prod.snd q).symm;exact absurd (by rw[this];rfl) H
    ·exact .inl q
   ·exact .inr z
theorem la{x:Str}:∀{names:List (Str×NameKind)}{cl:List (Str×Addr)}{n:Nat},(x,NameKind.cell)∉names->(cellsFrom n names cl).lookup x=cl.lookup x
 |[],cl,n,_=>rfl
 |(y,k)::r,cl,n,h=>by
  unfold cellsFrom;have R:(x,NameKind.cell)∉r:=λz=>h (Ug _ z);split
  ·rename_i d;rw[la R,VC];cases H:x == y with
   |true=>exact absurd (by rw[eq_of_beq H,(eq_of_beq d:k=.cell)];exact Ue) h
   |false=>rfl
  ·exact la R
theorem qt{n0:Nat}:∀{names:List (Str×NameKind)}{cl:List (Str×Addr)}{n:Nat},n0<=n->(∀x y c,cl.lookup x=some c->cl.lookup y=some c->n0<=c->x=y)->(∀x c,cl.lookup x=some c->c<n) ->
  ∀x y c,(cellsFrom n names cl).lookup x=some c->(cellsFrom n names cl).lookup y=some c->n0<=c->x=y
 |[],cl,n,_,h,_=>h
 |(z,k)::r,cl,n,N,h,b=>by
  unfold cellsFrom;split
  ·refine qt (n := n + 1) 0e1 (λx y c d B i => ?_) (λx c e => ?_)
   ·rw [VC] at d B;cases H:x == z with
    |true=>
     cases σ:y == z with
     |true=>rw[eq_of_beq H,eq_of_beq σ]
     |false=>
      rw[H]at d;rw[σ]at B;cases d;exact absurd (b y _ B) (T7 _)
    |false=>
     cases σ:y == z with
     |true=>
      rw[H]at d;rw[σ]at B;cases B;exact absurd (b x _ d) (T7 _)
     |false=>rw[H]at d;rw[σ]at B;exact h x y c d B i
   ·rw [VC] at e;cases H:x == z with
    |true=>rw[H]at e;cases e;exact VG _
    |false=>rw[H]at e;exact VH (b x c e)
  ·exact qt N h b
theorem mM{x:Str}{c:Addr}:∀{names:List (Str×NameKind)}{cl:List (Str×Addr)}{h:Heap},(cellsFrom h.objs.size names cl).lookup x=some c->cl.lookup x=some c\/(pushCells h names).IsCell c none
 |[],cl,h,e=>.inl e
 |(y,k)::r,cl,h,e=>by
  unfold cellsFrom at e;unfold pushCells;split at e
  ·rename_i d;rw[T1 d];have E:(cellsFrom (h.push {cls:=.type "cell",data:=.cell none}).objs.size r ((y,h.objs.size)::cl)).lookup x=some c:=by rw[VI];exact e
   rcases mM E with q|q
   ·rw [VC] at q;cases H:x == y with
    |true=>
     rw[H]at q;cases q;exact .inr ⟨_,VJ _ _ _ _ (T4 _ rfl),rfl⟩
    |false=>rw[H]at q;exact .inl q
   ·exact .inr q
  ·rename_i d;rw[T3 d];exact mM e
theorem Ej{X:Cx}{cap:List 5e0}(I:bf X pins Y H s)(K:∀b∈fp,oH X pins H b)(t:∀b∈fp,b<s.heap.objs.size)(S:bP X.N 1e9 scope Nc cap)(h:∀x c,cl.lookup x=some c->X.env.cells.lookup x=some c)(L:∀y∈scope.names,y.2=.free->(cl.lookup y.1).isSome=true)(hn:h'.Ns 0e4 (λ_=>none))(P:∀b o,s.heap.get? b=some o->h'.get? b=some o)(U:∀x c,(cellsFrom 6e4 scope.names cl).lookup x=some c->cl.lookup x=some c\/h'.IsCell c none):
  bf (iX X Nc scope cl 0e4 s H fp) [] (sL cap Y) H {s with heap:=h',toks:=t'}:=by
 have G:∀x,(iX X Nc scope cl 0e4 s H fp).env.kindOf x=(scope.names.lookup x).map λk=>if (k == NameKind.free&&X.env.scope.kind == .function&&X.env.kindOf x == some .cell) then NameKind.cell else k:=λx=>j3
 have σ:∀x,((iX X Nc scope cl 0e4 s H fp).env.kindOf x=some .cell\/(iX X Nc scope cl 0e4 s H fp).env.kindOf x=some .free)->scope.names.lookup x=some .free\/scope.names.lookup x=some .cell:=λx d=>by
  rw[G]at d;cases e:scope.names.lookup x with
  |none=>rw[e]at d;rcases d with z|z <;> cases z
  |some k=>
   rw[e]at d;by_cases F:k=.free
   ·rw[F];exact .inl rfl
   ·have : (k == NameKind.free) = false := by simpa using F
    dsimp[this,UE,Option.map_some]at d;rcases d with z|z
    ·have V : k = .cell := by simpa using z
     rw[V];exact .inr rfl
    ·have V : k = .free := by simpa using z
     exact absurd V F
 have n:∀x,scope.names.lookup x=some .free->∃c,cl.lookup x=some c:=λx e=>UR.mp (L (x,.free) (gn e) rfl)
 have f:∀x c,cl.lookup x=some c->c<s.heap.objs.size:=λx c e=>by
  obtain⟨v,q⟩:=I.cell x c (h x c e);exact q.lt
 have hcell:∀x c,(cellsFrom 6e4 scope.names cl).lookup x=some c->(cl.lookup x=some c/\c<s.heap.objs.size)\/(s.heap.objs.size+1<=c/\h'.IsCell c none):=λx c e=>by
  by_cases M:(x,NameKind.cell)∈scope.names
  ·have h1 := nr 6e3 (.inl M) e;rcases U x c e with z|z
   ·have:=f x c z;exact absurd (T6 (VH this) h1) (T7 _)
   ·exact .inr ⟨h1,z⟩
  ·rw[la M]at e;exact .inl ⟨e,f x c e⟩
 have J:∀x y c,(cellsFrom 6e4 scope.names cl).lookup x=some c->(cellsFrom 6e4 scope.names cl).lookup y=some c->x=y:=λx y c E B=>by
  rcases hcell x c E with⟨a,A⟩|⟨a,A⟩
  ·rcases hcell y c B with ⟨b1, b2⟩ | ⟨b1, b2⟩
   ·exact I.ok.inj x y c (h x c a) (h y c b1)
   ·exact absurd (T6 (VH A) b1) (T7 _)
  ·exact qt 6e3 (λx y c q _ C=>absurd (T6 (VH (f x c q)) C) (T7 _)) (λx c q=>VH (f x c q)) x y c E B a
 refine⟨⟨I.ok.mod,S.kind,I.ok.glob,I.ok.blt,UG _,λx y c E B=>J x y c E B,λx d=>?_,λx c e B=>?_,I.ok.hd,I.ok.frames,.inl rfl,
  λb g=>⟨T8 (t b g),λx c e=>?_⟩,I.bs,Ub I.ok.bsz I.sz,λb o e g=>?_,λb g z=>?_,I.stack,I.stkFree⟩,
  rfl,I.bare,Un.kept P,⟨_,hn,λi x v E B e3=>?_⟩,λx c e=>?_,I.hok.fresh 6e3,λx c e=>?_,λp hp=>absurd (show p∈([]:List 4e4) from hp) 0e9,I.hok.kept P,?_⟩
 ·rcases σ x d with q | q
  ·by_cases M : (x, NameKind.cell) ∈ scope.names
   ·rcases UR.mp (W.cellsFrom_some scope.names (s.heap.objs.size + 1) cl (.inl (S.nd (x, .cell) M))) with ⟨c, e⟩
    exact⟨c,e⟩
   ·obtain⟨c,e⟩:=n x q;exact⟨c,(la M).trans e⟩
  ·obtain⟨c,e⟩:=UR.mp (W.cellsFrom_some scope.names 6e4 cl (.inl q));exact⟨c,e⟩
 ·have M:(x,NameKind.cell)∈scope.names:=gn (eq_of_beq (show (scope.names.lookup x == some .cell)=true from e));exact Nat.le_of_succ_le (nr 6e3 (.inl M) B)
 ·rcases hcell x c e with ⟨a, A⟩ | ⟨a, A⟩
  ·exact(K b g).2.2.2.2.1 x c (h x c a)
  ·exact λz=>absurd (T6 (VH (t b g)) (by rw[<- z];exact a)) (T7 _)
 ·rcases (K b g).2.2.2.1 with z | z
  ·exact I.ok.noex b o e z
  ·exact absurd (T6 (T6 (T5 e) I.ok.bsz) z) (T7 _)
 ·rcases Uh.mp (I.stkSub b z) with q | q
  ·exact(K b g).2.1 q
  ·exact(K b g).2.2.1 q
 ·have Q:∃j,cap[i]?=some (some j)/\Y[j]?=some (some v):=by
   unfold sL at B;rw[UX]at B;cases C:cap[i]? with
   |none=>rw[C]at B;cases B
   |some o=>
    rw[C]at B;cases o with
    |none=>cases B
    |some j=>
     refine⟨j,rfl,?_⟩;dsimp[Option.map_some,VL]at B;cases D:Y[j]? with
     |none=>rw[D]at B;cases B
     |some q=>
      rw[D]at B;dsimp[Option.join_some]at B;rw[TV B]
  obtain⟨j,D,hv⟩:=Q;obtain⟨hN,d⟩:=tO S.cap D E;have w:=S.free (x,.free) (gn d) rfl;obtain⟨m,M,hl⟩:=I.loc;obtain⟨u,r,l⟩:=hl j x v hN hv (w.elim (λz=>.inr (.inl z)) (λz=>.inr (.inr z)));refine⟨u,r,.inr ⟨?_,?_⟩⟩
  ·rw [G, d];show some (if _ then _ else _)=_\/some (if _ then _ else _)=_;by_cases C:(NameKind.free == NameKind.free&&X.env.scope.kind == .function&&X.env.kindOf x == some .cell)=true
   ·rw[T1 C];exact .inl rfl
   ·rw[T3 C];exact .inr rfl
  ·obtain ⟨c, R⟩ := n x d
   have M:(x,NameKind.cell)∉scope.names:=λz=>by
    have:=S.nd (x,.cell) z;rw[d]at this;cases this
   refine⟨c,(la M).trans R,?_⟩;rcases l with⟨k,_⟩|⟨k,c',T,z⟩
   ·rcases w with q|q <;> (rw[k]at q;cases q)
   ·have q:=h x c R;rw[T]at q;cases q;obtain⟨o,O,μ⟩:=z;exact⟨o,P _ o O,μ⟩
 ·rcases hcell x c e with ⟨a, A⟩ | ⟨a, A⟩
  ·obtain⟨v,o,O,μ⟩:=I.cell x c (h x c a);exact⟨v,o,P _ o O,μ⟩
  ·exact⟨none,A⟩
 ·rcases hcell x c e with ⟨a, A⟩ | ⟨a, A⟩
  ·exact I.freeC x c (h x c a)
  ·exact I.hok.fresh (Nat.le_of_succ_le a)
 ·show (cap.map _).length=Nc.length;rw[U1,qu S.cap]
abbrev wV:Value->Shared->Prop:=λ_ _=>False
def xt(i:List Expr)(env:Env):Sem Bool:=forIn i true λc r=>if r=true then do let ok <- isTrue c env (eval c env);pure (ForInStep.yield ok) else pure (ForInStep.yield r)
def rk(X:Cx)(i:List Expr)(t:TT):Prop:=
 ∀(p:List 4e4)(s:Shared)(a:St)(H:Hp)(Q:Bool->Hp->Prop),bf X p a H s->t a H Q->wpAny 1e5 X.A (xt i 1e9) (TP X p a Q) X.xe s
def QR:TT:=λ_ H Q=>Q true H
theorem J0{X:Cx}:rk X [] QR:=λ_ _ _ H _ I h=>UC ⟨H,I,h⟩
theorem JZ{X:Cx}{c:Expr}{t:TT}(h:PT X c t):rk X [c] t:=λp s a H Q I q=>wpAny_tests_one (h p s a H Q I q)
noncomputable def Pr(e:Expr)(acc:Value)(env:Env):Sem Unit:=match e with
 |.ListComp elt _ _ _=>do let _ <- call (.builtin "list.append") [acc,<- eval elt env]
 |.SetComp elt _ _ _=>do let v <- eval elt env;standAt elt.pos;let _ <- call (.builtin "set.add") [acc,v]
 |_=>unsupported "internal:not-a-comprehension"
def n8:Expr->Bool
 |.ListComp ..=>true
 |.SetComp ..=>true
 |_=>false
def nL(M:Model)(A:Around)(e:Expr)(k:Nat)(acc:Value)(env:Env)(C:Shared->Prop)(E:Value->Shared->Prop)(s:Shared):Prop:=match (clausesOf e)[k]? with
 |some g=>wpAny M A (eval g.iter env) (λx S=>wpAny M A (foldedSetIterable g.iter env x) (λx N=>wpAny M A (pyIter x) (λi U=>
   codeAny M A (.compStart e k i acc env) (λr a=>(∃f,r=.ok f)/\C a) U) E N) E S) E s
 |none=>wpAny M A (Pr e acc env) (λ_ S=>C S) E s
theorem Aa{M:Model}{k:Nat}{acc:Value}{C C':Shared->Prop}(hC:∀s,C s->C' s)(h:nL M A e k acc env C wV s):nL M A e k acc env C' E s:=by
 unfold nL at h⊢;split at h
 ·exact Ur h (λ_ _ h=>Ur h (λ_ _ h=>Ur h (λ_ _ h=>UN h λ_ _ h=>⟨h.1,hC _ h.2⟩) λ_ _ z=>z.elim) λ_ _ z=>z.elim) λ_ _ z=>z.elim
 ·exact Ur h (λ_ _ h=>hC _ h) λ_ _ z=>z.elim
theorem Jd{M:Model}{d:Nat}{it acc:Value}{Q:Fin->Shared->Prop}(j:n8 e=true)(hz:∀g∈clausesOf e,g.is_async=0)(σ:(clausesOf e)[d]?=some g)(h : wpAny M A (pyNext it) (λr s₁ => match r with
   |none=>Q (.done .next) s₁
   |some v=>wpAny M A (letOwnedTupleGo g.target it v) (λ_ s₁'=>wpAny M A (assign g.target env v) (λ_ s₂=>wpAny M A (xt g.ifs env) (λok s₃=>
     if ok=true then nL M A e (d+1) acc env (λs₄=>wpAny M A (again (.compLoop e d it acc env)) Q E s₄) E s₃ else wpAny M A (again (.compLoop e d it acc env)) Q E s₃) E s₂) E s₁') E s₁) E s):
  wpAny M A (compTurn e d it acc env) Q E s:=by
 have b:=hz g (UZ σ);have c:∀G,(clausesOf e)[d+1]?=some G->G.is_async=0:=λG h=>hz G (UZ h);unfold compTurn
 cases e <;> first
  |exact absurd (show false=true from j) UA
  | (rename_i elt gens S pos
     have a:gens[d]?=some g:=σ;have H:∀G,gens[d+1]?=some G->G.is_async=0:=c;dsimp only;rw[a];dsimp only;rw[b];refine Uw (Uy ?_);show wpAny M A (pyNext it >>= _) Q E s;refine Uw (Ur h (λr s₁ h₁=>?_) λ_ _ z=>z);cases r with
     |none=>exact UC h₁
     |some v=>
      refine Uw (Ur h₁ (λ_ s₁' h₁'=>?_) λ_ _ z=>z);refine Uw (Ur h₁' (λ_ s₂ h₂=>?_) λ_ _ z=>z);refine Uw (Ur h₂ (λok s₃ h₃=>?_) λ_ _ z=>z);cases ok with
      |false=>exact h₃
      |true=>
       dsimp[U9]at h₃⊢;unfold nL at h₃;dsimp only[clausesOf]at h₃;cases B:gens[d+1]? with
       |none=>
        rw[B]at h₃;exact Uw h₃
       |some G=>
        rw[B]at h₃;have U:=H G B;dsimp[U];refine Uw (Ur h₃ (λx s₄ h₄=>?_) λ_ _ z=>z);refine Uw (Uy ?_);show wpAny M A (foldedSetIterable G.iter env x >>= _) Q E s₄;refine Uw (Ur h₄ (λx s₅ h₅=>?_) λ_ _ z=>z);refine Uw (Ux ?_);show wpAny M A (pyIter x) _ E s₅;refine Ur h₅ (λI s₆ h₆=>?_) λ_ _ z=>z;refine Uw (wpAny_runOwn (UN h₆ λr s₇ h₇=>?_));obtain⟨⟨f,rfl⟩,i⟩:=h₇
        exact i)
section
variable{R:Result->Shared->Prop}
theorem vQ{k:Nat}{it acc:Value}(j:n8 e=true)(hz:∀g∈clausesOf e,g.is_async=0)(σ:(clausesOf e)[k]?=some g)(a:codeAny 1e7 A (.compLoop e k it acc env) R s)(h:wpAny 1e7 A (pyIter it) (λit' s'=>codeAny 1e7 A (.compLoop e k it' acc env) R s') wV s):
  codeAny 1e7 A (.compStart e k it acc env) R s:=by
 have n:=hz g (UZ σ)
 cases e <;> first
  |exact absurd (show false=true from j) UA
  | (refine VM ?_
     show wpAny _ _ ((compStart _ k it acc env).onRaise (λx=>do noteFrame x env;standAt theWindowsPlace)) _ _ s;refine wpAny_notedAt ?_;unfold compStart;rw[σ];have E:((some g).elim false λx=>x.is_async != 0)=false:=by show (g.is_async != 0)=false;rw[n];rfl
     rw[E];dsimp[VE,U8];refine Uw (VN (wpAny_ite ?_));split
     ·exact UC (And.intro rfl a)
     ·refine Uw (VO ?_);refine Uw (Uy ?_)
      exact Uw (Ur h (λit' s' H=>UC (And.intro rfl H)) λ_ _ z=>z.elim))
theorem Ee{d:Nat}{it acc:Value}(j:n8 e=true)(hz:∀g∈clausesOf e,g.is_async=0)(σ:(clausesOf e)[d]?=some g)(I:Nat->Shared->Prop)(turn : ∀ n s, I n s -> wpAny 1e7 A (pyNext it) (λr s₁ => match r with
   |none=>R (.ok .next) s₁
   |some v=>wpAny 1e7 A (letOwnedTupleGo g.target it v) (λ_ s₁'=>wpAny 1e7 A (assign g.target env v) (λ_ s₂=>
     wpAny 1e7 A (xt g.ifs env) (λok s₃=>
      if ok=true then nL 1e7 A e (d+1) acc env (λs₅=>∃m,m<n/\I m s₅) wV s₃
      else ∃m,m<n/\I m s₃) wV s₂) wV s₁') wV s₁) wV s)(n:Nat)(h:I n s):codeAny 1e7 A (.compLoop e d it acc env) R s:=by
 refine codeAny_loop (by cases e <;> first|exact absurd (show false=true from j) UA|rfl) I (λn s hI=>?_) n h
 cases e <;> first
  |exact absurd (show false=true from j) UA
  | (show wpAny _ A ((compTurn _ d it acc env).onRaise (λx => do noteFrame x env; theTreesLotGoes x)) _ _ s
     refine wpAny_noted (Jd j hz σ (Ur (turn n s hI) (λr s₁ h₁=>?_) λ_ _ z=>z.elim));cases r with
     |none=>exact h₁
     |some v=>
      refine Ur h₁ (λ_ s₂ h₂=>Ur h₂ (λ_ s₃ h₃=>Ur h₃ (λok s₄ h₄=>?_) λ_ _ z=>z.elim) λ_ _ z=>z.elim) λ_ _ z=>z.elim;cases ok with
      |false=>exact UC ⟨rfl,h₄⟩
      |true=>
       dsimp[U9]at h₄⊢
       exact Aa (λs₅ h₅=>UC ⟨rfl,h₅⟩) h₄)
end
abbrev E1:=St->Hp->(St->Hp->Prop)->Prop
def uT(X:Cx)(e:Expr)(k:Nat)(acc:Addr)(t:E1):Prop:=
 ∀(p:List 4e4)(s:Shared)(c:St)(H:Hp)(N:St->Hp->Prop),bf X p c H s->t c H N->nL 1e5 X.A e k (.ref acc) 1e9 (λS=>∃a b,bf X p a b S/\N a b) wV s
def RZ(J:It)(g:TG)(tt:TT)(tb:E1)(N:St->Hp->Prop)(Y:St)(H:Hp):Prop:=∃W:Nat->Nat->St->Hp->Prop,(∃m,W 0 m Y H)/\∀i m a H,W i m a H ->
 (J.stop i H/\N a H)\/(J.go i H/\∃h:St->Hp->Prop,(∀f c,h f c->∃y,y<m/\W (i+1) y f c)/\∀x c,J.yld i H x c->g x a c λj l=>tt j l λb k=>if b=true then tb j k h else h j k)
section
variable{X:Cx}{d:Nat}{cl:Comprehension}{g:TG}{tt:TT}{tb:E1}
theorem qS{J:It}{tn:Nat->Heap->Prop}{N:St->Hp->Prop}(he:n8 e=true)(hz:∀g∈clausesOf e,g.is_async=0)(hg:(clausesOf e)[d]?=some cl)(E:X.xe=wV)(M:X.calm=true)(T:AX 13e0 X.w X.K cl.target J fp it tn)(C:PG X cl.target g)(v:rk X cl.ifs tt)(B:uT X e (d+1) acc tb)(I:bf X pins Y H s)(st:tn 0 3e3)(L:∀b∈fp,oH X pins H b)(h:RZ J g tt tb N Y H):
  codeAny 1e5 X.A (.compLoop e d (.ref it) (.ref acc) 1e9) (λr s'=>r=.ok .next/\∃Y' H',bf X pins Y' H' s'/\N Y' H') s:=by
 obtain⟨W,⟨m0,w0⟩,turn⟩:=h;have stat:∀{H':Hp},(∀b∈fp,H' b=none)->∀b∈fp,oH X pins H' b:=λhn b B=>⟨hn b B,(L b B).2⟩;refine Ee he hz hg (λn s'=>∃i Y' H',bf X pins Y' H' s'/\tn i s'.heap/\(∀b∈fp,H' b=none)/\W i n Y' H') ?_ m0 ⟨0,_,_,I,st,λb B=>(L b B).1,w0⟩
 rintro n P ⟨i,a,l,z,c,f,w5⟩
 rcases turn i n a l w5 with⟨stop,qn⟩|⟨go,N',hN,step⟩
 ·refine dX (T.done X rfl rfl rfl M i pins P a l wV z (stat f) c stop) λr s6 ⟨t,V⟩=>?_;subst t;exact⟨rfl,_,_,V,qn⟩
 ·refine dX (T.item X rfl rfl rfl M i pins P a l wV z (stat f) c go) λr s6 ⟨u, t, h6⟩ => ?_;subst t;refine dX h6 λ_ Q ⟨x,y,I7,r7,y7,S,F⟩=>?_;have p:=I7.pinned (stat F) (T.obj _ _ S);have μ:=C _ Q a y x u _ p r7 (step x y y7);rw[E]at μ;refine dX μ λ_ s8 ⟨j,σ,I8,q8⟩=>?_;have U:=v _ s8 j σ _ I8 q8;rw[E]at U;refine dX U λb s9 ⟨D,G,q⟩=>?_
  have again:∀{σa:St}{Ha:Hp}{k:Shared},bf X (pins++sO fp Q.heap) σa Ha k->N' σa Ha->∃m,m<n/\∃i Y' H',bf X pins Y' H' k/\tn i k.heap/\(∀b∈fp,H' b=none)/\W i m Y' H':=λ{σa Ha k} Ia na=>by
   obtain⟨m',hm,wa⟩:=hN σa Ha na;refine⟨m',hm,i+1,σa,Ha,Ia.unpinned,T.keep _ _ _ S λb B o e=>(Ia.pin (b,o) (UJ _ (UJ _ (lL B e)))).1,λb B=>?_,wa⟩;obtain⟨o,e,d⟩:=T.obj _ _ S b B;exact(Ia.pin (b,o) (UJ _ (UJ _ (lL B e)))).2.1
  cases b with
  |false=>
   rw[T3 UA]at q⊢;exact again G q
  |true=>
   rw[T1 rfl]at q⊢;exact Aa (λs' ⟨Y',H',O,n'⟩=>again O n') (B _ s9 j D _ G q)
def FS(wi:TI)(g:TG)(tt:TT)(tb:E1):E1:=λa H N=>wi a H λJ b=>RZ J g tt tb N a b
theorem D3{wi:TI}(j:n8 e=true)(hz:∀g∈clausesOf e,g.is_async=0)(σ:(clausesOf e)[d]?=some cl)(E:X.xe=wV)(i:X.calm=true)(hi:PI X cl.target cl.iter wi)(C:PG X cl.target g)(b:rk X cl.ifs tt)(B:uT X e (d+1) acc tb)
  (hs:∀x,foldedSetIterable cl.iter 1e9 x=pure x):uT X e d acc (FS wi g tt tb):=by
 intro p s l H N I h;unfold nL;rw[σ];have z:=hi p s l H _ I h;rw[E]at z;refine dX z λv o a=>VP (hs v) (dX a λitv q c=>?_);obtain⟨t,F,u,J,m,f,n,T,S,V,D⟩:=c;subst f;have loop:=qS j hz σ E i T C b B n S V D;exact vQ j hz σ (UN loop λr k ⟨a,c⟩=>⟨⟨_,a⟩,c⟩) (T.self _ 0 _ _ _ S (UN loop λr k ⟨a,c⟩=>⟨⟨_,a⟩,c⟩))
def Fl(te:TE)(acc:Addr):E1:=λa H N=>te a H λy i=>∃σ,i acc=some (.lst σ)/\σ.length<sizeLine/\N a (cE i acc (.lst (σ++[y])))
theorem tE(σ:gens[d]?=none)(E:X.xe=wV)(l:PE X elt te):uT X 15e2 d acc (Fl te acc):=by
 intro p s a H N I h;unfold nL;show (match gens[d]? with|some g=>_|none=>_:Prop);rw[σ];show wpAny _ _ (do let _ <- call (.builtin "list.append") [.ref acc,<- eval elt 1e9]) _ _ _;have z:=l p s a H _ I h;rw[E]at z;refine Uw (dX z λv10 s10 ⟨y,H10,I10,r10,S,c,f,n⟩=>?_);have μ:=v7 (X:=X) p s10 a H10 (.ref acc) [y] (.ref acc) [v10] (λ_ b=>N a b) I10 rfl (.cons r10 .nil) ⟨_,S,y,rfl,rfl,c,f,n⟩;rw[E]at μ;exact Uw (dX μ λv11 s11 ⟨i,H11,I11,r11,n11⟩=>UC ⟨_,_,I11,n11⟩)
end
theorem HZ{M:Model}{Q:Env->Shared->Prop}(hQ : ∀ h', h'.Ns 0e4 (λ_ => none) -> (∀ b o, s.heap.get? b = some o -> h'.get? b = some o) -> (∀ x c, (cellsFrom (s.heap.objs.size + 1) scope.names cl).lookup x = some c -> cl.lookup x = some c \/ h'.IsCell c none) ->
   ∀cenv:Env,({cenv with scope:=relabel scope env}:Env)=compEnvC scope (cellsFrom 6e4 scope.names cl) 0e4 env->cenv.locals=s.heap.objs.size->Q cenv {s with heap:=h'}):
  wpAny M A (newFunctionEnv scope env.globals cl [] env.qual none .none (some env)) Q E s:=by
 dsimp[newFunctionEnv,Option.isSome_some,U9];refine Uw (wpAny_alloc ?_);refine Uw (wpAny_layCells _ (λname kind cells=>by cases h:kind == NameKind.cell <;> simp[h]) _ _ _ _ ?_);have z:(s.heap.push {cls:=.type "dict",data:=.dict #[]}).objs.size=s.heap.objs.size+1:=VI ..;refine Uw (UC 8e1);show Q _ {s with heap:=pushCells (s.heap.push {cls:=.type "dict",data:=.dict #[]}) scope.names};refine hQ _ ((Heap.Ns.new 3e3 (.type "dict")).keeps (VJ _ _)) (λb o e=>VJ _ _ b o (UF _ e)) (λx c e=>?_) _ ?_ rfl
 ·rw[<- z]at e;exact mM e
 ·show _=_;unfold compEnvC;rw[<- z]
def n7(o0:Addr->HO)(wi:TI)(cap:List 5e0)(g:TG)(tt:TT)(tb:Addr->E1):TE:=λa H Q=>wi a H λJ b=>∀acc,b acc=none->RZ J g tt (tb acc) (λ_ c=>Q (.ref acc) c) (sL cap a) (cE b acc (o0 acc))
def Fm(wi:TI)(cap:List 5e0)(g:TG)(tt:TT)(te:TE):TE:=n7 (λ_=>.lst []) wi cap g tt (Fl te)
def Su(X:Cx)(newAcc:Sem Value)(o0:Addr->HO):Prop:=∀(p:List 4e4)(s:Shared)(a:St)(H:Hp)(Q:Value->Shared->Prop),bf X p a H s ->
 (∀S,bf X p a (cE H 0e4 (o0 0e4)) S->(∀b o,s.heap.get? b=some o->S.heap.get? b=some o)->s.heap.objs.size<S.heap.objs.size->Q 15e5 S)->wpAny 1e5 X.A newAcc Q X.xe s
theorem zS{X:Cx}:Su X (newList []) (λ_=>.lst []):=λp s a H Q I h=>
 Vg (h _ (I.lnew (t':=s.toks) (ys:=[]) (its:=[]) .nil (VQ _)) (λb o e=>UF _ e) (by rw[VI];exact VG _))
section
variable{X:Cx}{cl0:Comprehension}{rest:List Comprehension}{cap:List 5e0}{wi:TI}{g:TG}{tt:TT}{tb:Addr->E1}{o0:Addr->HO}{newAcc:Sem Value}
theorem qq{use:Option (Value->Sem Unit)}{Q:VK}{QQ:Value->Shared->Prop}(he:n8 e=true)(hz:∀g∈clausesOf e,g.is_async=0)(c:clausesOf e=cl0::rest)(F:Su X newAcc o0)(hc:X.calm=true)(S:bP X.N 1e9 scope Nc cap)(hi:PI X cl0.target cl0.iter wi)(hg:∀cl C s H fp,PG 0e7 cl0.target g)(ht:∀cl C s H fp,rk 0e7 cl0.ifs tt)(B:∀cl C s H fp acc,uT 0e7 e 1 acc (tb acc))(I:bf X pins Y H s)(h:n7 o0 wi cap g tt tb Y H Q)(j:∀C acc s' H',bf X pins Y H' s'->oH X pins H' C->(∃m,s'.heap.Ns C m)->Q (.ref acc) H'->compPost 1e5 X.A X.xe use QQ (.ref acc) C (.ok .next) s')(hs:∀x,foldedSetIterable cl0.iter 1e9 x=pure x):
  wpAny 1e5 X.A (comprehension e scope 1e9 pos' newAcc false (eval cl0.iter 1e9) use) QQ X.xe s:=by
 obtain⟨cl,hclos,σ,L⟩:=BX (scope:=scope) (env:=1e9) (λy hy hf=>I.ok.has y.1 (S.free y hy hf));have k:(clausesOf e)[0]?=some cl0:=by rw[c];rfl
 refine wpAny_comprehension_free c hs hclos S.kind (λx hx e=>by rw[S.nd x hx,e]) ?_;refine dX (hi pins s Y H _ I h) λv s1 K=>dX K λitv a h2=>?_;obtain⟨it,fp,tn,J,l,e',I2,T,z,f2,rd⟩:=h2;subst e';have rd:=rd _ I2.fresh;refine F pins a Y l _ I2 λU M V hsz3=>?_;have μ:tn 0 U.heap:=T.keep _ _ _ z λb _ o e=>V b o e
 have fpn:∀b∈fp,b≠a.heap.objs.size:=λb B=>by
  obtain⟨o,O,_⟩:=T.obj _ _ z b B;exact T8 (T5 O)
 have G:∀b∈fp,oH X pins 5e8 b:=λb B=>⟨by rw[bG (fpn b B)];exact(f2 b B).1,(f2 b B).2⟩
 have D:∀b∈fp,b<U.heap.objs.size:=λb B=>by
  obtain⟨o,O,_⟩:=T.obj _ _ μ b B;exact T5 O
 refine HZ λK u t P cenv ecenv elc=>?_;rw[ecenv]
 have IB:bf (iX X Nc scope cl U.heap.objs.size U 5e8 fp) [] (sL cap Y) 5e8 {U with heap:=K,toks:=U.toks}:=
  Ej M G D S σ L u t P
 have stB:tn 0 K:=T.keep _ _ _ μ λb _ o e=>t b o e;rw[elc]
 have frB:∀b∈fp,oH (iX X Nc scope cl U.heap.objs.size U 5e8 fp) [] 5e8 b:=λb B=>
  ⟨(G b B).1,(IB.ok.exf b B).1,IB.ok.exfs b B,.inl B,(IB.ok.exf b B).2,λp hp=>absurd (show p∈([]:List 4e4) from hp) 0e9⟩
 have loop:=qS (X:=iX X Nc scope cl U.heap.objs.size U 5e8 fp) he hz k rfl hc T (hg _ _ _ _ _) (ht _ _ _ _ _) (B _ _ _ _ _ _) IB stB frB rd
 have n:∀r s',(r=.ok .next/\∃E H',bf (iX X Nc scope cl U.heap.objs.size U 5e8 fp) [] E H' s'/\Q (.ref a.heap.objs.size) H')->compPost 1e5 X.A X.xe use QQ (.ref a.heap.objs.size) U.heap.objs.size r s':=by
  rintro r s' ⟨rfl,E,H',i,q⟩
  have I5:bf X pins Y H' s':=M.call' (ch:=fp) i.os i.base i.hok i.bare λb f=>⟨(G b f).2.2.2.1,(G b f).2.1,(G b f).2.2.2.2.1,(G b f).2.2.2.2.2⟩;obtain⟨mm,W,_⟩:=i.loc;exact j _ _ s' H' I5 (M.fpOk 6e3 i.free) ⟨mm,W⟩ q
 exact vQ he hz k (UN loop n) (T.self _ 0 _ _ _ stB (UN loop n))
theorem zJ(k:X.calm=true)(hz:∀g∈cl0::rest,g.is_async=0)(S:bP X.N 1e9 scope Nc cap)(hi:PI X cl0.target cl0.iter wi)
  (σ:∀cl C s H fp,PG 0e7 cl0.target g) (J:∀cl C s H fp,rk 0e7 cl0.ifs tt) (B:∀cl C s H fp acc,uT 0e7 4e6 1 acc (tb acc))
  (hs:∀x,foldedSetIterable cl0.iter 1e9 x=pure x):PE X 4e6 (n7 (λ_=>.lst []) wi cap g tt tb):=by
 intro p s y H Q I h;have j:=hz cl0 Ue;obtain⟨T,r,l,a⟩:=cl0;have c:a=0:=j;subst c;rw[arm_eval_ListComp];refine qq (e:=.ListComp elt (_::rest) scope pos) (Q:=Q) rfl hz rfl zS k S hi σ J B I h (λC acc t f i F n q=>?_) hs;obtain⟨m,n⟩:=n;refine⟨m,n,λv u=>⟨.ref acc,f,?_,rfl,q⟩⟩;exact i.turned (t':=t.toks) (it:=C) (λb o B e=>(u.2 b B).trans e) F.1 F.2.1 F.2.2.2.1 F.2.2.2.2.1 F.2.2.2.2.2
theorem zH(M:X.calm=true)(hz:∀g∈cl0::rest,g.is_async=0)(hN:X.N.Nodup)(j:X.N[i]?=some x)(y:X.env.scope.names.lookup x=some .local)(S:bP X.N 1e9 scope Nc cap)(hi:PI X cl0.target cl0.iter wi)(σ:∀cl C s H fp,PG 0e7 cl0.target g)(U:∀cl C s H fp,rk 0e7 cl0.ifs tt)(B:∀cl C s H fp acc,uT 0e7 4e6 1 acc (tb acc))(W:swapsWith 4e6 (some (.Name x pos1)) pos2.line 1e9=pure true)(hs:∀x,foldedSetIterable cl0.iter 1e9 x=pure x):
  PS X (.Assign [.Name x pos1] 4e6 pos2) (E5 (n7 (λ_=>.lst []) wi cap g tt tb) (y3 i)):=by
 intro p s O H D I h;have K:=hz cl0 Ue;obtain⟨T,r,l,c⟩:=cl0;have f:c=0:=K;subst f;rw[exec_Assign_Name_used _ _ _ _ W];refine Uw (Uy (Uw ?_));show wpAny _ X.A (do let _ <- comprehension (.ListComp elt (⟨T,r,l,0⟩::rest) scope pos) scope 1e9 _ (newList []) false (eval r 1e9) (some (assign (.Name x pos1) 1e9))) _ _ s
 refine Uw (Ur (qq (e:=.ListComp elt (_::rest) scope pos) (use:=some (assign (.Name x pos1) 1e9)) (Q:=λv G=>D.nx (O.set i (some v)) G) (QQ:=λ_ t=>SP X p D .next t) rfl hz rfl zS M S hi σ U B I h (λC acc t E J F n q=>?_) hs)
  (λ_ t P=>UC (UC P)) λ_ _ e=>e)
 obtain⟨m,n⟩:=n;show wpAny _ X.A (assign (.Name x pos1) 1e9 (.ref acc)) _ _ _;refine wpAny_assign_Name (vP J hN j (.inl y) (show cX (.ref acc) (.ref acc) from rfl) (λs'' I'' k=>?_) (.inr y));obtain⟨a,μ,L⟩:=k
 have hCa:C≠a:=by
  rcases L with z|z
  ·rw[z];exact F.2.1
  ·exact λe=>F.2.2.2.2.1 x a z e.symm
 refine⟨m,n.sameBut μ hCa,λV u=>⟨_,E,?_,q⟩⟩;exact I''.turned (t':=s''.toks) (it:=C) (λb o B e=>(u.2 b B).trans e) F.1 F.2.1 F.2.2.2.1 F.2.2.2.2.1 F.2.2.2.2.2
variable{ifs:List Expr}
theorem v3:∀g∈([⟨tg,iter,ifs,0⟩]:List Comprehension),g.is_async=0:=λg σ=>by rw[VR.mp σ]
theorem Ke(i:X.calm=true)(S:bP X.N 1e9 scope Nc cap)(hi:PI X tg iter wi)
  (σ:∀cl C s H fp,PG 0e7 tg g) (J:∀cl C s H fp,rk 0e7 ifs tt) (j:∀cl C s H fp,PE 0e7 elt te)
  (hs:autoParam 3e7 ATt):PE X 3e4 (Fm wi cap g tt te):=
 zJ (cl0:=⟨tg,iter,ifs,0⟩) i v3 S hi σ J (λcl C s H fp acc=>tE rfl rfl (j cl C s H fp)) hs
theorem J4(h:X.calm=true)(hN:X.N.Nodup)(j:X.N[i]?=some x)(a:X.env.scope.names.lookup x=some .local)(S:bP X.N 1e9 scope Nc cap)(hi:PI X tg iter wi)(σ:∀cl C s H fp,PG 0e7 tg g)(J:∀cl C s H fp,rk 0e7 ifs tt)(E:∀cl C s H fp,PE 0e7 elt te)(W:swapsWith 3e4 (some (.Name x pos1)) pos2.line 1e9=pure true)(hs:autoParam 3e7 ATt):
  PS X (.Assign [.Name x pos1] 3e4 pos2) (E5 (Fm wi cap g tt te) (y3 i)):=
 zH (cl0:=⟨tg,iter,ifs,0⟩) h v3 hN j a S hi σ J (λcl C s H fp acc=>tE rfl rfl (E cl C s H fp)) W hs
end
end L2
namespace RS
open PySem PySem.W PyProof.Rows
open AutoSeq1 (wpAny_loadPart')
section
theorem yv{t:Addr}{items}{x:Value}(h:s.heap.IsTupleIter it t i)(J:s.heap.IsTuple t items)(d:items[i]?=some x)(hQ:∀h',h'.IsTupleIter it t (i+1)->Heap.SameBut it 3e3 h'->Q x {s with heap:=h'}):wpAny 1e7 A (Builtin.SmallTypes.nextOf (.ref it)) Q E s:=by
 obtain⟨o,G,c,D⟩:=id h;obtain⟨O,H,_,n,l⟩:=J;unfold Builtin.SmallTypes.nextOf;refine Uw (Vb (name:=Str.ofString "__next__") h.typeIs VS (Vd VS h.typeIs VT ?_ (VU _)));show wpAny _ _ (field (.ref it) 0 >>= _) _ _ s;refine Uw (Va G D (x:=.ref t) rfl ?_);show wpAny _ _ (if (Value.ref t == Value.none)=true then _ else _) _ _ s;rw[T3 (show ¬ ((Value.ref t == Value.none)=true) from UA)];show wpAny _ _ (field (.ref it) 1 >>= _) _ _ s;refine Uw (Va G D (x:=.int i 0) rfl ?_);show wpAny _ _ (seqItems? (.ref t) >>= _) _ _ s;refine Uw (VV H l ?_);dsimp[U6,d];refine Uw (VW G D 0e9 (UC ⟨x,rfl,UC (hQ _ ?_ (VX ..))⟩));exact⟨_,Vk _ G (Obj.isFreed_of_fields (VY D _)),(Obj.cls_mapFields ..).trans c,by rw[VY D];simp[rawInt]⟩
theorem qA{t:Addr}{items}(b:A.handled=none)(h:s.heap.IsTupleIter it t i)(J:s.heap.IsTuple t items)(d:items[i]?=none)(hE:∀h' e,Heap.ExtBut it 3e3 h'->(∃o,h'.get? e=some o/\o.cls=.type "StopIteration")->E (.ref e) {s with heap:=h'}):wpAny 1e7 A (Builtin.SmallTypes.nextOf (.ref it)) Q E s:=by
 obtain⟨o,G,c,D⟩:=id h;obtain⟨O,H,_,n,l⟩:=J;unfold Builtin.SmallTypes.nextOf;refine Uw (Vb (name:=Str.ofString "__next__") h.typeIs VS (Vd VS h.typeIs VT ?_ (VU _)));show wpAny _ _ (field (.ref it) 0 >>= _) _ _ s;refine Uw (Va G D (x:=.ref t) rfl ?_);show wpAny _ _ (if (Value.ref t == Value.none)=true then _ else _) _ _ s;rw[T3 (show ¬ ((Value.ref t == Value.none)=true) from UA)];show wpAny _ _ (field (.ref it) 1 >>= _) _ _ s;refine Uw (Va G D (x:=.int i 0) rfl ?_);show wpAny _ _ (seqItems? (.ref t) >>= _) _ _ s;refine Uw (VV H l ?_);dsimp[U6,d];refine Uw (VO (Uw (VW G D 0e9 ?_)));show wpAny _ _ (newExc (.type "StopIteration") [] >>= _) _ _ _;refine Uw ?_;dsimp[newExc,newTuple];refine Uw (Vg ?_ (by size_fits));refine Uw (m:=firstArgMember _ _) 13e1;refine Vg ?_ (by size_fits);dsimp[raiseNew];refine Uw (wpAny_handled ?_)
 first|rw[show A.in1.handled=none from b]|rw[b]
 refine Uw (UC (wpAny_throw ?_));exact hE _ _ (((VX ..).extBut.push _).push _) ⟨_,T4 _ rfl,rfl⟩
end
theorem Pu(c:A.handled=none)(it l:Addr)(e:l≠it)(items:Array Value):
  Draws prog w A it [it,l] 4e3 (λi v=>items[i]?=some v) (λi h=>h.IsTupleIter it l i/\h.IsTuple l items) where
 live:=λ_ _ t=>let ⟨o,G,_⟩:=t.1;⟨o,G⟩
 frame:=λ_ _ _ t d=>⟨by
  obtain⟨o,G,r⟩:=t.1;exact⟨o,d it 0e9 o G,r⟩,by
  obtain⟨o,G,r⟩:=t.2
  exact⟨o,d l 0e9 o G,r⟩⟩
 item:=λi s Q E I t hQ=>by
  refine yv t.1 t.2 (x:=items[i]) (by simp[I]) λb H a=>?_;refine hQ _ b s.toks (by simp[I]) ⟨H,?_⟩ a;obtain⟨o,G,r⟩:=t.2;exact⟨o,(a.2 l e).trans G,r⟩
 done:=λs Q E t hE=>qA c t.1 t.2 0e9 hE
theorem Aw(l:Addr)(items:Array Value)(n:Nat)(dct:Option Addr)(q:Array (Option Value)) :
  Meets (Builtin.«enumerate.__new__» ⟨[.type "enumerate",.ref l],[]⟩) (λ_ R s=>s.heap.get? l=some {cls:=.type "tuple",dict:=dct,data:=.seq items n,slots:=q} /\
   R (.ok (.ret (.ref (s.heap.push {cls:=.type "tuple_iterator",data:=.fields #[.ref l,.int 0 0]}).objs.size)))
    {s with heap:=(s.heap.push {cls:=.type "tuple_iterator",data:=.fields #[.ref l,.int 0 0]}).push {cls:=.type "enumerate",data:=.fields #[.none,.bool false,.ref 0e4,rawInt 0,.none,.none]}}):=
 .of_wp λprog w A R s h=>by
  obtain⟨p,g,d,t,S⟩:=s;obtain⟨i,h⟩:=h;have b:=sub_enumerate;have hL:Heap.IsTuple (Shared.heap ⟨p,g,d,t,S⟩) l items:=⟨_,i,rfl,n,rfl⟩
  wp_walk using wpAny_loadPart' i
  refine wpAny_stack_any λT=>UC ?_;split
  ·rename_i c _ _ _ _ _;cases (c == Value.type "enumerate")
   ·wp_walk using wpAny_loadPart' i, VZ hL
    exact⟨_,rfl,h⟩
   ·wp_walk using wpAny_loadPart' i, VZ hL
    exact⟨_,rfl,h⟩
  ·wp_walk using wpAny_loadPart' i, VZ hL
   exact⟨_,rfl,h⟩
section
theorem B2{l:Addr}{items:Array Value}(hL:s.heap.IsTuple l items)(h : ∀ h', IsEnum h' (s.heap.objs.size + 1) 0e4 0 .none -> h'.IsTupleIter 0e4 l 0 -> h'.objs.size = s.heap.objs.size + 2 ->
   (∀b o,s.heap.get? b=some o->h'.get? b=some o)->Q (.ref 6e4) {s with heap:=h'}):
  wpAny 1e7 A (call (.type "enumerate") [.ref l]) Q E s:=by
 obtain⟨⟨c,dct,d,q⟩,H,i,n,D⟩:=hL;replace i:c=.type "tuple" := i;replace D:d=.seq items n:=D;subst i D;refine callType_new F.called_enumerate 1e2 (F.typeCall_enumerate_1 _) (F.newCall_enumerate_1 _) (λobj=>F.args_object_init_2 obj _) F.entry_enumerate_new (Aw l items n dct q) ⟨H,?_⟩;have μ:(s.heap.push {cls:=.type "tuple_iterator",data:=.fields #[.ref l,.int 0 0]}).objs.size=s.heap.objs.size+1:=VI ..;show _/\_;rw[μ]
 have j:IsEnum ((s.heap.push {cls:=.type "tuple_iterator",data:=.fields #[.ref l,.int 0 0]}).push
   {cls:=.type "enumerate",data:=.fields #[.none,.bool false,.ref 0e4,rawInt 0,.none,.none]}) 6e4 0e4 0 .none:=by
  have:=T4 (s.heap.push {cls:=.type "tuple_iterator",data:=.fields #[.ref l,.int 0 0]})
   (o:={cls:=.type "enumerate",data:=.fields #[.none,.bool false,.ref 0e4,rawInt 0,.none,.none]}) rfl
  rw[μ]at this;exact this
 exact⟨⟨_,j,rfl⟩,h _ j ⟨_,UF _ (T4 _ rfl),rfl,rfl⟩ (by rw[VI,μ]) λb o x=>UF _ (UF _ x)⟩
end
end RS
namespace L2
open PySem PySem.Spec PyProof.Rows RS
def Sq(b:Bool)(K:W.Frag)(H:Hp)(a:Addr)(xs:List V):Prop:=if b=true then fK K H a xs else gz K H a xs
noncomputable def Sw(b:Bool)(K:W.Frag)(a:Addr):It:=
 ⟨λi H => ∃ S x, Sq b K H a S /\ S[i]? = some x,
  λi H x c=>∃q y,x=.ref q/\H q=none/\c=cE H q (.tup [.int i,y])/\∀S,Sq b K H a S->S[i]?=some y,
  λi H=>∃S,Sq b K H a S/\S.length=i⟩
def xf(b:Bool)(h:Heap)(it a:Addr)(i:Nat):Prop:=if b=true then h.IsListIter it a i else h.IsTupleIter it a i
theorem xf.obj(x:xf b h it a i):∃o,h.get? it=some o/\∀v,o.data≠.cell v:=by
 cases b with
 |true=>obtain⟨o,e,c,d⟩:=(show h.IsListIter it a i from x);exact⟨o,e,λv z=>by rw[d]at z;cases z⟩
 |false=>obtain⟨o,e,c,d⟩:=(show h.IsTupleIter it a i from x);exact⟨o,e,λv z=>by rw[d]at z;cases z⟩
theorem xf.keep(x:xf b h it a i)(k:∀o,h.get? it=some o->h'.get? it=some o):xf b h' it a i:=by
 cases b with
 |true=>obtain⟨o,e,r⟩:=(show h.IsListIter it a i from x);exact(show h'.IsListIter it a i from⟨o,k o e,r⟩)
 |false=>obtain⟨o,e,r⟩:=(show h.IsTupleIter it a i from x);exact(show h'.IsTupleIter it a i from⟨o,k o e,r⟩)
theorem z5{X:Cx}{xs:List V}(I:bf X pins Y H s)(C:X.calm=true)(z:Sq b X.K H a xs)(e:a≠it):
  ∃(its:Array Value)(St:Nat->Heap->Prop),bA xs its.toList/\Draws 13e0 X.w X.A.in1 it [it,a] its.size (λi v=>its[i]?=some v) St/\(∀i,xf b 3e3 it a i->St i 3e3)/\∀i h,St i h->xf b h it a i:=by
 have c:X.A.in1.handled=none:=by simpa using I.ok.hd C
 cases b with
 |true=>
  obtain⟨its,R,p,μ⟩:=I.list (show fK X.K H a xs from z);exact⟨10e3,_,by simpa using R,Draws.list c it a e 10e3,λi h=>⟨h,p.isList⟩,λi h t=>t.1⟩
 |false=>
  obtain⟨its,R,p,μ⟩:=I.tuple (show gz X.K H a xs from z);exact⟨10e3,_,by simpa using R,Pu c it a e 10e3,λi h=>⟨h,p⟩,λi h t=>t.1⟩
theorem Nr{X:Cx}{xs ys:List V}(I:bf X pins Y H s)(h:Sq b X.K H a xs)(c:Sq b X.K H a ys):xs=ys:=by
 cases b with
 |true=>exact I.list_inj h c
 |false=>exact I.tuple_inj h c
theorem bf.turns{X:Cx}(I:bf X pins Y H s)(k:∀b o,b∉ch->s.heap.get? b=some o->h'.get? b=some o)(F:∀b∈ch,oH X pins H b):bf X pins Y H {s with heap:=h',toks:=t'}:=by
 have nit:∀b u,H b=some u->b∉ch:=λb u e z=>by rw[(F b z).1]at e;cases e
 refine I.step (g':=s.gens) (d':=s.drawn) (ch:=ch) (λb B=>?_) (λb o _ _ i e _=>k b o i e) (λb o _ _ i e _=>⟨o.slots,k b o i e⟩) (λ_ _ _ _ n=>n)
  (λb o i e=>⟨o,k b o i e⟩) (λ_ _ e=>e) (λ_ _ _ e=>e) (λb P e=>⟨#[],by rw[e];simp⟩) (λm h=>?_) (λb u e=>?_) I.bare
 ·obtain⟨f,y,V,G,J,L⟩:=F b B;exact⟨G,y,J,L⟩
 ·obtain⟨o,S,p,O,r⟩:=h;exact⟨o,S,p,k _ o (λz=>(F _ z).2.1 rfl) O,r⟩
 ·refine (I.hok b u e).stay (λc v i q => k c v ?_ q) (λ_ q => q) λ_ _ q => q;rcases i with z|z
  ·rw[z];exact nit b u e
  ·exact nit c _ z
theorem DE(a it e:Addr)(m:e≠it)(C:a≠it)(V:a≠e):
  AX P w K (.Tuple elts k1 pos) (Sw b K a) [e,it] e (λi h=>(∃old,IsEnum h e it (i:Nat) old)/\xf b h it a i) where
 mem:=by simp
 obj:=λi h T x g=>by
  obtain⟨⟨old,j⟩,f⟩:=T;rcases Uh.mp g with rfl|g
  ·exact⟨_,j,λv z=>by cases z⟩
  ·rw[VR.mp g];exact f.obj
 keep:=λi h n T k=>by
  obtain⟨⟨old,j⟩,f⟩:=T;exact⟨⟨old,k e 0e9 _ j⟩,f.keep λo O=>k it 0e9 o O⟩
 item:=by
  intro X hP hw hK R i p s Y H E I F T hg;subst hP hw hK;obtain⟨⟨old,j⟩,f⟩:=T;obtain⟨xs,x,N,g⟩:=hg;obtain⟨S,St,rv,D,U,d2⟩:=z5 I R N C;obtain⟨u,hu,ru⟩:=rv.get g
  have hlt:i<S.size:=by
   have:=(Ul.mp hu).1;simpa using this
  have hef:e ∉ [it,a]:=by
   dsimp[Uh,V0,V1,not_or];exact⟨m,Ui V⟩
  obtain⟨f0,f1,f2,f3,f4,f5⟩:=F e 0e9;obtain⟨g0,g1,g2,g3,g4,g5⟩:=F it 0e9;have l:e<s.heap.objs.size:=T5 j;have J:it<s.heap.objs.size:=by obtain⟨o,O,_⟩:=f.obj;exact T5 O
  refine wpAny_pyNext_enum_itemD D j (U i f) hlt m hef λy n t σ ho M ht hsz hk=>?_
  have ey:y=u:=by
   rw[<- Vw,hu]at σ;exact(TV σ).symm
  subst ey;refine⟨_,rfl,?_⟩;refine wpAny_letOwnedTupleGo_enum (s:={s with heap:=n,toks:=t+1}) ho λr he2 d=>?_;replace d:Heap.SameBut e n r:=d;have L:∀b o,b≠e->b≠it->s.heap.get? b=some o->r.get? b=some o:=λb o μ h3 q=>(d.2 b μ).trans (hk b o μ h3 q);have ht2:r.get? 0e4=some {cls:=.type "tuple",data:=.seq #[.int i t,y]}:=(d.2 _ (UB l)).trans ht;have hqn:H 0e4=none:=I.hok.fresh 6e3
  have I1:bf X p Y (cE H 0e4 (.tup [.int i,x])) {s with heap:=s.heap.push {cls:=.type "tuple",data:=.seq #[.int i t,y]},toks:=t}:=by
   refine I.laid (t':=t) (λb o O=>UF _ O) 6e3 ?_;exact⟨by show 2<=sizeLine;decide,[.int i t,y],.cons ⟨t,rfl⟩ (.cons ru .nil),_,T4 _ rfl,rfl,⟨0,rfl⟩,rfl⟩
  have hne:∀b∈[e,it],b≠s.heap.objs.size:=λb B=>by
   rcases Uh.mp B with rfl|B
   ·exact T8 l
   ·rw[VR.mp B];exact T8 J
  have G:∀b∈[e,it],oH X p (cE H 0e4 (.tup [.int i,x])) b:=λb B=>by
   obtain⟨k0,k1⟩:=F b B;exact⟨by rw[bG (hne b B)];exact k0,k1⟩
  have I2:bf X p Y (cE H 0e4 (.tup [.int i,x])) {s with heap:=r,toks:=t+1}:=by
   refine bf.turns (s:={s with heap:=s.heap.push {cls:=.type "tuple",data:=.seq #[.int i t,y]},toks:=t}) I1 (ch:=[e,it]) (t':=t+1) (λb o B O=>?_) G;dsimp[Uh,V0,V1,not_or]at B;by_cases Q:b=0e4
   ·subst Q;have:=(T4 3e3 (o:={cls:=.type "tuple",data:=.seq #[.int i t,y]}) rfl).symm.trans O;rw[ht2];exact this
   ·have:s.heap.get? b=some o:=by
     rw[V2 _ _ _ Q]at O;exact O
    exact L b o B.1 B.2 this
  refine⟨.ref 0e4,_,I2,rfl,⟨_,x,rfl,hqn,rfl,λys σ=>by rw[Nr I σ N];exact g⟩,⟨⟨y,by simpa using he2⟩,?_⟩,λb B=>(G b B).1⟩;refine(d2 (i+1) n M).keep λo O=>?_;exact(d.2 it (Ui m)).trans O
 done:=by
  intro X hP hw hK R i p s Y H E I F T hg;subst hP hw hK;obtain⟨⟨old,j⟩,f⟩:=T;obtain⟨xs,N,g⟩:=hg;obtain⟨S,St,rv,D,U,d2⟩:=z5 I R N C
  have hil:S.size=i:=by
   have μ:=rv.length;have r:S.toList.length=S.size:=Ut;omega
  subst hil;refine wpAny_pyNext_enum_endD D j (U _ f) λn g=>⟨rfl,?_⟩;refine I.turns (ch:=[e,it]) (t':=s.toks) (λb o B O=>g b o (λz=>B (by rw[z];simp)) O) F
 self:=λ_ _ _ _ _ T h=>by
  obtain⟨⟨old,j⟩,f⟩:=T;exact wpAny_pyIter_enum j h
section
variable{X:Cx}
def Pd(K:W.Frag)(t:TA):TI:=λd H R=>t d H λy c=>∃a b,y=[.ref a]/\(∃S,Sq b K c a S)/\R (Sw b K a) c
theorem J8{a:Expr}{p tpos:Pos}(σ:Gl X "enumerate")(M:X.mg "enumerate" = none)(y:PA X [a] ta)(hs:autoParam (starEach [a] 1e9=[9e5]) ATr):PI X (.Tuple elts k1 tpos) (.Call (.Name "enumerate" p) [a] [] pos) (Pd X.K ta):=by
 intro P s t H R I h;refine Call_ (mr I σ M (by rfl) (UH (dX (y pos P s t H _ I h) λJ S ⟨N,m,d,G,C⟩=>?_) hs rfl));obtain⟨l,b,e,⟨x,Q⟩,q⟩:=C;subst e;obtain⟨u,rfl,U⟩:=iq G;cases U
 have n:∀c,IsEnum c (S.heap.objs.size+1) 6e5 0 .none->xf b c 6e5 l 0->l<S.heap.objs.size->c.objs.size=S.heap.objs.size+2->(∀b o,S.heap.get? b=some o->c.get? b=some o) ->
   wpAny 1e5 X.A (pyIter (.ref (S.heap.objs.size+1))) (Sr X P t (.Tuple elts k1 tpos) R) X.xe {S with heap:=c}:=by
  intro c j g i z k;have v:bf X P t m {S with heap:=c}:=d.kept (t':=S.toks) k;refine wpAny_pyIter_enum j ?_;refine⟨_,[S.heap.objs.size+1,6e5],_,_,m,rfl,v,DE (b:=b) l 6e5 (S.heap.objs.size+1) (Nat.succ_ne_self _) (T8 i) (T8 (VH i)),⟨⟨.none,j⟩,g⟩,λb B=>?_,q⟩;rcases Uh.mp B with rfl|B
  ·exact d.fpOk (Vq _) (d.hok.fresh (Vq _))
  ·rw[VR.mp B];exact d.fpOk 6e3 (d.hok.fresh 6e3)
 cases b with
 |true=>
  obtain⟨r,V,L,μ⟩:=d.list (show fK X.K m l x from Q);have i:l<S.heap.objs.size:=by obtain⟨o,O,_⟩:=L.isList;exact T5 O
  exact call_enumerate_list L.isList λc j g z k=>n c j g i z k
 |false=>
  obtain⟨r,V,L,μ⟩:=d.tuple (show gz X.K m l x from Q);have i:l<S.heap.objs.size:=by obtain⟨o,O,_⟩:=L;exact T5 O
  exact B2 L λc j g z k=>n c j g i z k
end
end L2
namespace RS
open PySem
def Dn(mask:Nat):Nat->Nat->Nat->List Nat
 |0,_,_=>[]
 |n+1,i,p=>(List.range (SetTable.runEnd mask i+1-i)).map (i+·)++Dn mask n (SetTable.leap mask i p).1 (SetTable.leap mask i p).2
def dk(mask:Nat)(h:Int):List Nat:=Dn mask (SetTable.turns mask) (SetTable.bits h%(mask+1)) 11e3
def jP(t:SetTable):Nat->SetTable.Probe->List Nat
 |0,_=>[]
 |n+1,p=>p.j::jP t n (t.advance p)
def oK(mask i p:Nat)(d:Option Nat):SetTable.Probe:={j:=i,more:=SetTable.runEnd mask i-i,i,perturb:=p,dummy:=d}
theorem zf(t:SetTable):∀(m n:Nat)(p:SetTable.Probe),p.more=m ->
  jP t (m+1+n) p=(List.range (m+1)).map (p.j+·)++jP t n (oK t.mask (SetTable.leap t.mask p.i p.perturb).1 (SetTable.leap t.mask p.i p.perturb).2 p.dummy)
 |0,n,p,h=>by
  have e:0+1+n=n+1:=by omega
  rw[e];show p.j::jP t n (t.advance p)=_
  have d:t.advance p=oK t.mask (SetTable.leap t.mask p.i p.perturb).1 (SetTable.leap t.mask p.i p.perturb).2 p.dummy:=by
   unfold SetTable.advance;rw[T3 0e1];rfl
  rw[d];simp
 |m+1,n,p,h=>by
  have e:m+1+1+n=(m+1+n)+1:=by omega
  rw[e];show p.j::jP t (m+1+n) (t.advance p)=_
  have d:t.advance p={p with j:=p.j+1,more:=p.more-1}:=by
   unfold SetTable.advance;rw[T1 0e1]
  rw[d,zf t m n {p with j:=p.j+1,more:=p.more-1} (by show p.more-1=m;omega)];rw[V3 (n:=m+1),Vi,V4];show p.j::((List.range (m+1)).map (p.j+1+·)++_)=(p.j+0)::(List.map _ _)++_;rw[V5];show p.j::(_++_)=p.j::(_++_);congr 2;apply V6;intro a _;show p.j+1+a=p.j+(a+1);omega
theorem FZ(mask i:Nat):i<=SetTable.runEnd mask i/\SetTable.runEnd mask i<=i+9:=by
 unfold SetTable.runEnd;split <;> omega
theorem sV(t:SetTable):∀(n i pe:Nat)(d:Option Nat),jP t (Dn t.mask n i pe).length (oK t.mask i pe d)=Dn t.mask n i pe
 |0,_,_,_=>rfl
 |n+1,i,pe,d=>by
  have R:=FZ t.mask i;show jP t ((List.range (SetTable.runEnd t.mask i+1-i)).map (i+·)++_).length _=_;rw[U0,U1,V7];have e:SetTable.runEnd t.mask i+1-i=(SetTable.runEnd t.mask i-i)+1:=by omega
  rw[e,zf t (SetTable.runEnd t.mask i-i) _ (oK t.mask i pe d) rfl];show _++jP t (Dn t.mask n (SetTable.leap t.mask i pe).1 (SetTable.leap t.mask i pe).2).length (oK t.mask (SetTable.leap t.mask i pe).1 (SetTable.leap t.mask i pe).2 d)=_;rw[sV t n];show _=(List.range (SetTable.runEnd t.mask i+1-i)).map (i+·)++_;rw[e];rfl
theorem xv(mask:Nat):∀(n i pe:Nat),(Dn mask n i pe).length<=10*n
 |0,_,_=>VQ _
 |n+1,i,pe=>by
  have R:=FZ mask i;have h:=xv mask n (SetTable.leap mask i pe).1 (SetTable.leap mask i pe).2;show ((List.range (SetTable.runEnd mask i+1-i)).map (i+·)++_).length<=_;rw[U0,U1,V7];omega
theorem xR(t:SetTable)(hashAt:Nat->Int)(h:Int):∀(pre:List Nat)(j:Nat)(post:List Nat)(fuel:Nat)(p:SetTable.Probe),jP t (pre.length+1+post.length) p=pre++j::post->pre.length<fuel->p.dummy=none ->
  (∀k∈pre,∃i,t.slot k=.live i/\hashAt i≠h) ->
  (t.slot j=.empty->SetTable.probe.go t hashAt h fuel p=some (.empty j none))/\(∀i,t.slot j=.live i->hashAt i=h->∃nx,SetTable.probe.go t hashAt h fuel p=some (.candidate j i nx))
 |[],j,post,0,p,_,F,_,_=>by simp at F
 |[],j,post,fuel+1,p,W,_,D,_=>by
  have w:jP t (([]:List Nat).length+1+post.length) p=p.j::jP t post.length (t.advance p):=by
   rw[V8,show 0+1+post.length=post.length+1 from by omega];rfl
  rw[w,Vy]at W;have e:p.j=j:=(V9 W).1;refine⟨λE=>?_,λi l b=>?_⟩
  ·show (match t.slot p.j with | .empty=>_ | .dummy=>_ | .live i=>_)=_;rw[e,E,D]
  ·refine⟨t.advance p,?_⟩;show (match t.slot p.j with | .empty=>_ | .dummy=>_ | .live i=>_)=_;rw[e,l];show (if (hashAt i == h)=true then _ else _)=_;rw[T1 (by simpa using b)]
 |x::pre,j,post,0,p,_,F,_,_=>by simp at F
 |x::pre,j,post,fuel+1,p,W,F,D,d=>by
  have w:jP t ((x::pre).length+1+post.length) p=p.j::jP t (pre.length+1+post.length) (t.advance p):=by
   rw[VF,show pre.length+1+1+post.length=(pre.length+1+post.length)+1 from by omega];rfl
  rw[w,Wa]at W;have e:p.j=x:=(V9 W).1;have r:=(V9 W).2;obtain⟨i,l,H⟩:=d x Ue
  have a:(t.advance p).dummy=none:=by
   unfold SetTable.advance;split
   ·exact D
   ·exact D
  have I:=xR t hashAt h pre j post fuel (t.advance p) r (by rw[VF]at F;omega) a (λk K=>d k (Ug _ K))
  have g:SetTable.probe.go t hashAt h (fuel+1) p=SetTable.probe.go t hashAt h fuel (t.advance p):=by
   show (match t.slot p.j with | .empty=>_ | .dummy=>_ | .live i=>_)=_;rw[e,l];show (if (hashAt i == h)=true then _ else _)=_;rw[T3 (by simpa using H)]
  rw[g];exact I
def vC(xs:List Nat):Prop:=xs.Pairwise (·<·)
theorem tP(xs:Array Nat)(j:Nat):∀(fuel lo hi:Nat),lo<=hi->hi<=xs.size->hi-lo<=fuel->(∀i k,i<k->k<xs.size->xs.getD i j<xs.getD k j)->(∀i,i<lo->xs.getD i j<j)->(∀i,hi<=i->i<xs.size->j<=xs.getD i j) ->
  let b:=SetTable.below.go xs j fuel lo hi
  b<=xs.size/\(∀i,i<b->xs.getD i j<j)/\(∀i,b<=i->i<xs.size->j<=xs.getD i j)
 |0,lo,hi,d,c,f,R,n,B=>by
  have e:lo=hi:=by omega
  subst e;exact⟨c,n,B⟩
 |fuel+1,lo,hi,d,c,f,R,n,B=>by
  by_cases h:lo<hi
  ·dsimp[SetTable.below.go, h, U9];by_cases H:xs.getD ((lo+hi) / 2) j<j
   ·rw [T1 H];refine tP xs j fuel _ hi 0e1 c 0e1 R (λi a=>?_) B;by_cases e:i=(lo+hi) / 2
    ·rw[e];exact H
    ·have:=R i ((lo+hi) / 2) 0e1 0e1;omega
   ·rw [T3 H];refine tP xs j fuel lo _ 0e1 0e1 0e1 R n (λi a S=>?_);by_cases e:i=(lo+hi) / 2
    ·rw[e];omega
    ·have:=R ((lo+hi) / 2) i 0e1 S;omega
  ·have e : lo = hi := by omega
   subst e;dsimp[SetTable.below.go,h,U8];exact⟨c,n,B⟩
theorem xC{xs:Array Nat}(h:vC xs.toList)(j:Nat):∀i k,i<k->k<xs.size->xs.getD i j<xs.getD k j:=λi k H d=>by
 have I:i<xs.size:=by omega
 have:=Wb.mp h i k 16e6 (by simpa using d) H;simpa[Array.getD,I,d] using this
theorem ot{xs:Array Nat}(h:vC xs.toList)(j:Nat):SetTable.below xs j<=xs.size/\(∀i,i<SetTable.below xs j->xs.getD i j<j)/\(∀i,SetTable.below xs j<=i->i<xs.size->j<=xs.getD i j):=
 tP xs j xs.size 0 xs.size (VQ _) 6e3 0e1 (xC h j) (λi I=>by omega) (λi H c=>by omega)
theorem EH{xs:Array Nat}(h:vC xs.toList)(e:xs[i]?=some j):SetTable.below xs j=i:=by
 obtain⟨f,c,d⟩:=ot h j
 have I:i<xs.size:=by
  rcases Wc.mp e with⟨q,_⟩;exact q
 have E:xs.getD i j=j:=by
  rcases Wc.mp e with⟨q,z⟩
  simp[Array.getD,I,z]
 by_cases H:SetTable.below xs j<i
 ·have a:=d (SetTable.below xs j) 6e3 0e1;have b:=xC h j (SetTable.below xs j) i H I;omega
 ·by_cases t : i < SetTable.below xs j
  ·have:=c i t;omega
  ·omega
theorem lX{α:Type}(xs:Array α)(p:Nat)(x:α):(SetTable.insertAt xs p x).toList=xs.toList.take p++x::xs.toList.drop p:=by
 unfold SetTable.insertAt;simp[Wd]
theorem lM{α:Type}(p:α->Prop):∀(l:List α),(∃x∈l,p x)->∃pre x post,l=pre++x::post/\p x/\∀y∈pre,¬ p y
 |[],h=>by obtain⟨x,d,_⟩:=h;simp at d
 |a::l,h=>by
  by_cases n:p a
  ·exact⟨[],a,l,rfl,n,λy σ=>by simp at σ⟩
  ·obtain ⟨x, d, P⟩ := h;rcases Uh.mp d with z|z
   ·rw[z]at P;exact absurd P n
   ·obtain ⟨pre, y, post, e, b, H⟩ := lM p l ⟨x, z, P⟩;refine⟨a::pre,y,post,by rw[e];rfl,b,λw W=>?_⟩;rcases Uh.mp W with q|q
    ·rw[q];exact n
    ·exact H w q
structure vB(t:SetTable)(es:Array (Int×Value))(μ:List (Nat×Int×Value)):Prop where
 place:t.place.toList=μ.map 3e0
 ents:es.toList=μ.map 7e4
 ris:vC (μ.map 3e0)
 top:∀z∈μ,z.1<=t.mask
 dum:t.dummies=#[]
 reach:∀z∈μ,∃pre post,dk t.mask z.2.1=pre++z.1::post/\∀k∈pre,k∈μ.map 3e0
theorem vB.size{t:SetTable}(T:vB t es μ):t.place.size=μ.length/\es.size=μ.length:=by
 have a:=Uu List.length T.place;have b:=Uu List.length T.ents;simp at a b;exact⟨a,b⟩
theorem vB.fill{t:SetTable}(T:vB t es μ):t.fill=μ.length:=by
 unfold SetTable.fill;rw[T.size.1,T.dum];rfl
theorem wj(j:Nat):SetTable.has #[] j=false:=by
 unfold SetTable.has;simp
theorem vB.slot_empty{t:SetTable}(T:vB t es μ)(h:j∉μ.map 3e0):t.slot j=.empty:=by
 unfold SetTable.slot
 have n:¬ (t.place[SetTable.below t.place j]? == some j)=true:=by
  intro e;have d:t.place[SetTable.below t.place j]?=some j:=by simpa using e
  apply h;rw[<- T.place];rw[<- Vw]at d;exact UZ d
 dsimp[n,T.dum,wj];rfl
theorem vB.slot_live{t:SetTable}(T:vB t es μ)(h:μ[i]?=some z):t.slot z.1=.live i:=by
 have e:t.place[i]?=some z.1:=by
  rw[<- Vw,T.place,UX,h];rfl
 have r:vC t.place.toList:=by rw[T.place];exact T.ris
 have O:=EH r e;unfold SetTable.slot;have c:(t.place[SetTable.below t.place z.1]? == some z.1)=true:=by rw[O,e];simp
 dsimp[c,U9];rw[O]
theorem vB.hashAt{t:SetTable}(T:vB t es μ)(h:μ[i]?=some z):es[i]?=some z.2:=by
 rw[<- Vw,T.ents,UX,h];rfl
theorem i2{α:Type}:∀{l1 l2:List α},l1.Nodup->(∀x∈l1,x∈l2)->l1.length<=l2.length
 |[],_,_,_=>VQ _
 |a::r,l2,n,S=>by
  obtain⟨s,t,e⟩:=List.append_of_mem (S a Ue);have h:=UP.mp n
  have i:=i2 (l1:=r) (l2:=s++t) h.2 (λx d=>by
   have H:=S x (Ug _ d);rw[e]at H;rcases Uj.mp H with q|q
   ·exact Uk _ q
   ·rcases Uh.mp q with q | q
    ·rw[q]at d;exact absurd d h.1
    ·exact UJ _ q)
  rw[e,U0,VF,VF];rw[U0]at i;omega
theorem CA(mask:Nat):∀(n i pe:Nat),i<=mask->∀j∈Dn mask n i pe,j<=mask
 |0,_,_,_,j,h=>by simp[Dn]at h
 |n+1,i,pe,I,j,h=>by
  rcases Uj.mp h with q|q
  ·obtain ⟨k, d, e⟩ := We.mp q;have H:=Ua.mp d;have:SetTable.runEnd mask i<=mask:=by unfold SetTable.runEnd;split <;> omega
   have E:i+k=j:=e;omega
  ·refine CA mask n _ _ ?_ j q;show (i*5+1+pe / 32)%(mask+1)<=mask;exact Wf (Nat.mod_lt _ (Nat.succ_pos mask))
theorem k8{h:Int}(e:j∈dk mask h):j<=mask:=by
 refine CA mask _ _ _ ?_ j e;exact Wf (Nat.mod_lt _ (Nat.succ_pos mask))
theorem wq{l:List Nat}(h:l.length<=m):∃j,j<=m/\j∉l:=by
 refine Wg λN=>?_
 have L:∀j∈List.range (m+1),j∈l:=λj D=>by
  refine Wg λH=>N ⟨j,?_,H⟩;have:=Ua.mp D;omega
 have:=i2 (Wh (n:=m+1)) L;rw[V7]at this;omega
theorem vB.search{t:SetTable}(T:vB t es μ){h:Int}(cov:∀j,j<=t.mask->j∈dk t.mask h)(hz:μ.length<=t.mask)(hA:Nat->Int)(hAe:∀i z,μ[i]?=some z->hA i=z.2.1):
  (∃i z nx,μ[i]?=some z/\z.2.1=h/\t.probe hA h (t.probeStart h)=some (.candidate z.1 i nx)) \/
  ((∀z∈μ,z.2.1≠h)/\∃j pre post,t.probe hA h (t.probeStart h)=some (.empty j none)/\j<=t.mask/\j∉μ.map 3e0/\dk t.mask h=pre++j::post/\∀k∈pre,k∈μ.map 3e0):=by
 obtain⟨J,p,s⟩:=wq (m:=t.mask) (l:=μ.map 3e0) (by rw[U1];exact hz);obtain⟨pre,j,post,e,S,P⟩:=lM (λj=>j∉μ.map 3e0\/∃z∈μ,z.1=j/\z.2.1=h) (dk t.mask h) ⟨J,cov J p,.inl s⟩
 have W:jP t (pre.length+1+post.length) (t.probeStart h)=pre++j::post:=by
  have q:=sV t 14e1 10e1 11e3 none
  have L:(Dn t.mask 14e1 10e1 11e3).length=pre.length+1+post.length:=by
   show (dk t.mask h).length=_;rw[e,U0,VF];omega
  rw[L]at q;exact q.trans e
 have n:pre.length<10*SetTable.turns t.mask:=by
  have q:=xv t.mask 14e1 10e1 11e3
  have L:(Dn t.mask 14e1 10e1 11e3).length=pre.length+1+post.length:=by
   show (dk t.mask h).length=_;rw[e,U0,VF];omega
  omega
 have occ:∀k∈pre,k∈μ.map 3e0:=λk K=>by
  refine Wg λq=>P k K (.inl q)
 have f:∀k∈pre,∃i,t.slot k=.live i/\hA i≠h:=λk K=>by
  obtain⟨z,H,E⟩:=We.mp (occ k K);obtain⟨i,I⟩:=Wi H;refine⟨i,E ▸ T.slot_live I,λq=>P k K (.inr ⟨z,H,E,?_⟩)⟩;rw[<- hAe i z I];exact q
 obtain⟨G,A⟩:=xR t hA h pre j post (10*SetTable.turns t.mask) (t.probeStart h) W n rfl f;by_cases y:∃z∈μ,z.2.1=h
 ·obtain ⟨z, H, E⟩ := y;obtain⟨v,Q,ezz,u⟩:=T.reach z H;rw[E]at ezz
  have r:j∈μ.map 3e0:=by
   have B:pre++j::post=v++z.1::Q:=by rw[<- e,<- ezz]
   rcases List.append_eq_append_iff.mp B with⟨a,o,d⟩|⟨c,o,d⟩
   ·cases a with
    |nil=>
     dsimp[Vy]at d;rw[(V9 d).1];exact Wj H
    |cons x a=>
     rw[Wa]at d;have:j∈v:=by rw[o,(V9 d).1];simp
     exact u j this
   ·cases c with
    |nil=>
     dsimp[Vy]at d;rw[<- (V9 d).1];exact Wj H
    |cons x c=>
     rw[Wa]at d;have:z.1∈pre:=by rw[o,(V9 d).1];simp
     exact absurd (.inr ⟨z,H,rfl,E⟩) (P z.1 this)
  rcases S with q|⟨D,b,g,B⟩
  ·exact absurd r q
  ·obtain⟨i,I⟩:=Wi b;obtain⟨nx,en⟩:=A i (g ▸ T.slot_live I) (by rw[hAe i D I];exact B);exact .inl ⟨i,D,nx,I,B,by rw[g];exact en⟩
 ·have O : ∀ z ∈ μ, z.2.1 ≠ h := λz b w => y ⟨z, b, w⟩;rcases S with q|⟨D,b,g,B⟩
  ·have M:j<=t.mask:=k8 (h:=h) (by rw[e];simp);exact .inr ⟨O,j,pre,post,G (T.slot_empty q),M,q,e,occ⟩
  ·exact absurd B (O D b)
theorem BD{l:List Nat}{p:Nat}(h:vC l)(c:∀x∈l.take p,x<j)(d:∀x∈l.drop p,j<x):vC (l.take p++j::l.drop p):=by
 unfold vC at *;have H:(l.take p++l.drop p).Pairwise (·<·):=by rw[Wl];exact h
 rw[Wm]at H⊢;refine⟨H.1,Wn.mpr ⟨λx X=>d x X,H.2.1⟩,λa n b B=>?_⟩;rcases Uh.mp B with q|q
 ·rw[q];exact c a n
 ·exact H.2.2 a n b q
theorem vB.put{t:SetTable}(T:vB t es μ){h:Int}{x:Value}{pre post:List Nat}(D:j<=t.mask)(N:j∉μ.map 3e0)(e:dk t.mask h=pre++j::post)(P:∀k∈pre,k∈μ.map 3e0):
  ∃μ',vB (t.put j).1 (SetTable.insertAt es (t.put j).2 (h,x)) μ'/\μ'.Perm ((j,h,x)::μ)/\(t.put j).1={t with place:=SetTable.insertAt t.place (SetTable.below t.place j) j}:=by
 have E:(t.put j).1={t with place:=SetTable.insertAt t.place (SetTable.below t.place j) j}:=by
  unfold SetTable.put;dsimp[T.dum,wj];rw[T3 UA]
 have B:(t.put j).2=SetTable.below t.place j:=rfl;have r:vC t.place.toList:=by rw[T.place];exact T.ris
 obtain⟨b1,b2,b3⟩:=ot r j;generalize l:SetTable.below t.place j=p at *;refine⟨μ.take p++(j,h,x)::μ.drop p,⟨?_,?_,?_,λz f=>?_,by rw[E];exact T.dum,λz f=>?_⟩,?_,E⟩
 ·rw[E];show (SetTable.insertAt t.place p j).toList=_;rw[lX,T.place,Wo,Vi,Wp,Wq]
 ·rw[B,lX,T.ents,Wo,Vi,Wp,Wq]
 ·rw [Wo, Vi, Wp, Wq];have n:t.place.size=(μ.map 3e0).length:=by rw[<- T.place];simp
  refine BD T.ris (λy σ=>?_) (λy σ=>?_)
  ·obtain ⟨i, I⟩ := Wi σ;rw[List.getElem?_take]at I;split at I
   ·rename_i H;have q:=b2 i H;rw[<- T.place,Vw]at I;dsimp[Wr,I,Ws]at q;exact q
   ·cases I
  ·obtain⟨i,I⟩:=Wi σ;rw[Wt]at I;have m:y∈μ.map 3e0:=UZ I;rw[<- T.place,Vw]at I;have H:p+i<t.place.size:=(Wc.mp I).1;have q:=b3 (p+i) 0e1 H;dsimp[Wr,I,Ws]at q;have:y≠j:=λg=>N (g ▸ m);omega
 ·rw [E];show z.1<=t.mask;rcases Uj.mp f with q|q
  ·exact T.top z (Wu q)
  ·rcases Uh.mp q with q | q
   ·rw[q];exact D
   ·exact T.top z (List.mem_of_mem_drop q)
 ·rw [E];show ∃pre post,dk t.mask z.2.1=pre++z.1::post/\_
  have sub:∀k∈μ.map 3e0,k∈(μ.take p++(j,h,x)::μ.drop p).map 3e0:=λk K=>by
   rw[<- Wl p μ,Wo]at K;rw[Wo,Vi];rcases Uj.mp K with q|q
   ·exact Uk _ q
   ·exact UJ _ (Ug _ q)
  have o:∀z∈μ,∃pre post,dk t.mask z.2.1=pre++z.1::post/\∀k∈pre,k∈(μ.take p++(j,h,x)::μ.drop p).map 3e0:=λz f=>by
   obtain⟨a,b,c,d⟩:=T.reach z f;exact⟨a,b,c,λk K=>sub k (d k K)⟩
  rcases Uj.mp f with q|q
  ·exact o z (Wu q)
  ·rcases Uh.mp q with q | q
   ·rw[q];exact⟨pre,post,e,λk K=>sub k (P k K)⟩
   ·exact o z (List.mem_of_mem_drop q)
 ·have q:(μ.take p++(j,h,x)::μ.drop p).Perm ((j,h,x)::(μ.take p++μ.drop p)):=List.perm_middle;rw[Wl]at q;exact q
theorem wt(mask:Nat)(owner:Array 5e0):∀(n i pe:Nat),
  SetTable.layClean.free mask owner n i pe=(Dn mask n i pe).find? λj=>(owner.getD j (some 0)).isNone
 |0,_,_=>rfl
 |n+1,i,pe=>by
  show (match (List.range (SetTable.runEnd mask i+1-i)).find? λk=>(owner.getD (i+k) (some 0)).isNone with|some k=>_|none=>_)=_;show _=((List.range (SetTable.runEnd mask i+1-i)).map (i+·)++Dn mask n (SetTable.leap mask i pe).1 (SetTable.leap mask i pe).2).find? _;rw[List.find?_append,List.find?_map,<- wt mask owner n];have R:((λj=>(owner.getD j (some 0)).isNone) ∘ λx=>i+x)=λk=>(owner.getD (i+k) (some 0)).isNone:=rfl;rw[R];cases (List.range (SetTable.runEnd mask i+1-i)).find? λk=>(owner.getD (i+k) (some 0)).isNone with
  |some k=>rfl
  |none=>rfl
structure Mq(mask:Nat)(hs:List Int)(owner:Array 5e0):Prop where
 size:owner.size=mask+1
 all:∀(i:Nat)(h:Int),hs[i]?=some h->∃j:Nat,j<=mask/\owner[j]?=some (some i)/\∃pre post,dk mask h=pre++j::post/\∀k∈pre,∃i':Nat,owner[k]?=some (some i')
 lt:∀(j i:Nat),owner[j]?=some (some i)->i<hs.length
 inj:∀(j j' i:Nat),owner[j]?=some (some i)->owner[j']?=some (some i)->j=j'
theorem Ki(mask:Nat):Mq mask [] (Array.replicate (mask+1) none):=by
 have O:∀(j i:Nat),(Array.replicate (mask+1) (none:Option Nat))[j]?≠some (some i):=λj i e=>by
  rw[Array.getElem?_replicate]at e;split at e <;> cases e
 exact⟨by simp,λi h e=>by simp at e,λj i e=>absurd e (O j i),λj J i e=>absurd e (O j i)⟩
theorem Hv(O:Mq mask hs owner)(p:hs.length<=mask):∃j,j<=mask/\owner[j]?=some none:=by
 refine Wg λN=>?_
 have L:∀j,j<=mask->∃i,owner[j]?=some (some i):=λj D=>by
  have g:j<owner.size:=by rw[O.size];omega
  cases e:owner[j]? with
  |none=>rw[Wv]at e;omega
  |some o=>
   cases o with
   |none=>exact absurd ⟨j,D,e⟩ N
   |some i=>exact⟨i,rfl⟩
 have key:∀n,n<=mask+1->∃l:List Nat,l.length=n/\l.Nodup/\(∀i∈l,i<hs.length)/\∀i∈l,∃j,j<n/\owner[j]?=some (some i):=by
  intro n
  induction n with
  |zero=>exact λ_=>⟨[],rfl,Ww,λ_ h=>by simp at h,λ_ h=>by simp at h⟩
  |succ n k=>
   intro f;obtain⟨l,H,c,a,b⟩:=k 0e1;obtain⟨i,I⟩:=L n 0e1;refine⟨i::l,by rw[VF,H],UP.mpr ⟨λm=>?_,c⟩,λx d=>?_,λx d=>?_⟩
   ·obtain⟨j,D,E⟩:=b i m;have:=O.inj j n i E I;omega
   ·rcases Uh.mp d with q | q
    ·rw[q];exact O.lt n i I
    ·exact a x q
   ·rcases Uh.mp d with q | q
    ·rw[q];exact⟨n,by omega,I⟩
    ·obtain⟨j,D,E⟩:=b x q;exact⟨j,by omega,E⟩
 obtain⟨l,H,c,a,_⟩:=key (mask+1) 6e3;have:=i2 c (l2:=List.range hs.length) (λx d=>Ua.mpr (a x d));rw[V7,H]at this;omega
theorem Hu{h:Int}(O:Mq mask hs owner)(L:hs.length<=mask)(cov:∀j,j<=mask->j∈dk mask h):
  ∃j,SetTable.layClean.free mask owner (SetTable.turns mask) (SetTable.bits h%(mask+1)) 11e3=some j/\Mq mask (hs++[h]) (owner.setIfInBounds j (some hs.length)):=by
 obtain⟨m,f,v⟩:=Hv O L
 have none_iff:∀j,((owner.getD j (some 0)).isNone=true)↔owner[j]?=some none:=λj=>by
  rw[Wr];cases owner[j]? with
  |none=>simp
  |some o=>cases o <;> simp
 obtain⟨p,j,P,e,H,l⟩:=lM (λj=>owner[j]?=some none) (dk mask h) ⟨m,cov m f,v⟩;have M:j<=mask:=k8 (h:=h) (by rw[e];simp);have s:j<owner.size:=by rw[O.size];omega
 have c:∀k∈p,∃I,owner[k]?=some (some I):=λk d=>by
  have z:k<=mask:=k8 (h:=h) (by rw[e];simp[d]);cases q:owner[k]? with
  |none=>
   rw[Wv,O.size]at q;omega
  |some o=>
   cases o with
   |none=>exact absurd q (l k d)
   |some i=>exact⟨i,rfl⟩
 have t:∀k,(owner.setIfInBounds j (some hs.length))[k]?=if j=k then some (some hs.length) else owner[k]?:=λk=>by
  rw[Array.getElem?_setIfInBounds];by_cases q:j=k
  ·rw[T1 q,T1 q,T1 s]
  ·rw[T3 q,T3 q]
 have keep:∀k I,owner[k]?=some (some I)->(owner.setIfInBounds j (some hs.length))[k]?=some (some I):=λk I q=>by
  rw[t,T3]
  ·exact q
  ·intro x;rw[<- x,H]at q;cases q
 refine⟨j,?_,by simp[O.size],λi g E=>?_,λk i E=>?_,λk K i a B=>?_⟩
 ·rw [wt];show (dk mask h).find? _=some j;rw[e,List.find?_append]
  have a:p.find? (λj=>(owner.getD j (some 0)).isNone)=none:=by
   rw[List.find?_eq_none];intro k d q;exact l k d ((none_iff k).mp q)
  dsimp[a,Option.none_or,Wx,(none_iff j).mpr H]
 ·by_cases y : i < hs.length
  ·rw[UW y]at E;obtain⟨J,A,n,R,C,r,u⟩:=O.all i g E;exact⟨J,A,keep J i n,R,C,r,λk d=>(u k d).elim λI q=>⟨I,keep k I q⟩⟩
  ·have b:i=hs.length:=by
    have:=(Ul.mp E).1;simp at this;omega
   subst b;rw[UU 6e3,Wz]at E;have w:h=g:=by simpa using E
   subst w;exact⟨j,M,by rw[t,T1 rfl],p,P,e,λk d=>(c k d).elim λI q=>⟨I,keep k I q⟩⟩
 ·rw [t] at E;rw[U0,Vu];split at E
  ·cases E;omega
  ·have:=O.lt k i E;omega
 ·rw [t] at a B;split at a
  ·rename_i Q;cases a;split at B
   ·rename_i G;rw[<- Q,G]
   ·have:=O.lt K _ B;omega
  ·split at B
   ·cases B;have:=O.lt k _ a;omega
   ·exact O.inj k K i a B
theorem zM{mask:Nat}:∀(hs0 hs1:List Int)(owner:Array 5e0),Mq mask hs0 owner->hs0.length+hs1.length<=mask+1->(∀h∈hs1,∀j,j<=mask->j∈dk mask h) ->
  ∃owner',hs1.foldl (λ(acc:Option (Array 5e0×Nat)) h=>do
   let (owner,k) <- acc
   let j <- SetTable.layClean.free mask owner (SetTable.turns mask) (SetTable.bits h%(mask+1)) 11e3
   pure (owner.setIfInBounds j (some k),k+1)) (some (owner,hs0.length))=some (owner',(hs0++hs1).length)/\Mq mask (hs0++hs1) owner'
 |hs0,[],owner,O,_,_=>⟨owner,by simp,by simpa using O⟩
 |hs0,h::hs1,owner,O,i,cov=>by
  rw[VF]at i;obtain⟨j,e,a⟩:=Hu (h:=h) O 0e1 (cov h Ue);obtain⟨o,d,B⟩:=zM (hs0++[h]) hs1 _ a (by rw[U0,Vu];omega) (λx H=>cov x (Ug _ H));rw[Vr,WA]at d B;refine⟨o,?_,B⟩;rw[Vs];show List.foldl _ ((SetTable.layClean.free mask owner (SetTable.turns mask) (SetTable.bits h%(mask+1)) 11e3).bind λj=>some (owner.setIfInBounds j (some hs0.length),hs0.length+1)) hs1=_;rw[e];show List.foldl _ (some (owner.setIfInBounds j (some hs0.length),hs0.length+1)) hs1=_;rw[U0,Vu]at d;exact d
theorem zF{α:Type}:∀l:List α,(List.range l.length).filterMap (λi=>l[i]?)=l
 |[]=>rfl
 |a::l=>by
  rw[VF,V3,Ud];show a::List.filterMap _ _=_;rw[List.filterMap_map];show a::List.filterMap (λi=>l[i]?) _=_;rw[zF l]
theorem K0(i:hs.length<=mask+1)(cov:∀h∈hs,∀j,j<=mask->j∈dk mask h):∃owner,SetTable.layClean mask hs.toArray=some owner/\Mq mask hs owner:=by
 obtain⟨o,d,B⟩:=zM [] hs _ (Ki mask) (by rw[V8,WB];exact i) cov;refine⟨o,?_,by simpa using B⟩;unfold SetTable.layClean;rw[List.foldl_toArray']
 ·show Option.map 3e0 (hs.foldl _ (some (Array.replicate (mask+1) none,([]:List Int).length)))=_;rw[d];rfl
 ·simp
theorem t6{t:SetTable}{wanted:Nat}(hm:SetTable.sizeAbove wanted-1=mask)(hl:es.size<=mask)(cov:∀e∈es.toList,∀j,j<=mask->j∈dk mask e.1):
  ∃t' order μ',t.relaid (es.map 3e0) wanted=some (t',order)/\vB t' (order.filterMap (es[·]?)) μ'/\(μ'.map 7e4).Perm es.toList/\t'.mask=mask/\t'.led=t.led/\t'.plain=t.plain/\order.toList.Perm (List.range es.size):=by
 have L:es.map 3e0=(es.toList.map 3e0).toArray:=by rw[<- Array.toList_map]
 obtain⟨w,G,O⟩:=K0 (mask:=mask) (hs:=es.toList.map 3e0) 6e9 (λh F=>by
  obtain⟨e,R,q⟩:=We.mp F
  rw[<- q];exact cov e R)
 let live:List (Nat×Nat):=(List.range (mask+1)).filterMap λj=>(w.getD j none).map (j,·)
 have hlive:∀j i,(j,i)∈live↔(j<=mask/\w[j]?=some (some i)):=λj i=>by
  dsimp[live,UI,Ua];constructor
  ·rintro ⟨k, K, q⟩
   rw[Wr]at q;cases e:w[k]? with
   |none=>rw[e]at q;cases q
   |some o=>
    rw[e]at q;cases o with
    |none=>cases q
    |some n=>
     dsimp[Ws,Option.map_some,WC,Prod.mk.injEq]at q;obtain⟨y,J⟩:=q;subst y;subst J;exact⟨by omega,e⟩
  ·rintro ⟨f, e⟩
   refine⟨j,by omega,?_⟩;rw[Wr,e];rfl
 have T:(live.map 3e0).Pairwise (·<·):=by
  have gen:∀(l:List Nat),l.Pairwise (·<·)->((l.filterMap λj=>(w.getD j none).map (j,·)).map 3e0).Pairwise (·<·)/\∀x∈((l.filterMap λj=>(w.getD j none).map (j,·)).map 3e0),x∈l:=by
   intro l
   induction l with
   |nil=>intro _;exact⟨List.Pairwise.nil,λx X=>by simp at X⟩
   |cons a l I=>
    intro d;obtain⟨S,U⟩:=Wn.mp d;obtain⟨A,u⟩:=I U;rw[Ud];cases q:(w.getD a none).map (a,·) with
    |none=>exact⟨A,λx X=>Ug _ (u x X)⟩
    |some p=>
     have M:p.1=a:=by
      cases Q:w.getD a none with
      |none=>rw[Q]at q;cases q
      |some i=>rw[Q]at q;cases q;rfl
     show (p.1::List.map _ _).Pairwise _/\∀x∈p.1::List.map _ _,x∈a::l;rw[M]
     exact⟨Wn.mpr ⟨λx X=>S x (u x X),A⟩,λx X=>by
      rcases Uh.mp X with z|z
      ·rw[z];exact Ue
      ·exact Ug _ (u x z)⟩
  exact(gen _ WD).1
 have g:live.Nodup:=by
  have:=T.imp (λh=>T8 h);exact List.Pairwise.of_map 3e0 (λa b h e=>h (by rw[e])) this
 have H:∀j i,(j,i)∈live->i<es.size:=λj i h=>by
  have:=O.lt j i ((hlive j i).mp h).2;simpa using this
 have D:(live.map 7e4).Perm (List.range es.size):=by
  refine(WE ?_ Wh).mpr λi=>?_
  ·refine WG _ (λa b h=>?_) (List.Pairwise.and_mem.mp g);obtain⟨σ,V,E⟩:=h;intro e;have y:=((hlive a.1 a.2).mp σ).2;have J:=((hlive b.1 b.2).mp V).2;rw[<- e]at J;exact E (TX (O.inj _ _ _ y J) e)
  ·rw [Ua, We];constructor
   ·rintro⟨p,d,e⟩;rw[<- e];exact H p.1 p.2 d
   ·intro W;obtain⟨j,f,q,_⟩:=O.all i (es[i].1) (by rw[UX,Vw,WH W];rfl);exact⟨(j,i),(hlive j i).mpr ⟨f,q⟩,rfl⟩
 let μ':List (Nat×Int×Value):=live.filterMap λp=>(es[p.2]?).map λe=>(p.1,e)
 have hZ1:μ'.map 3e0=live.map 3e0:=by
  have gen:∀l:List (Nat×Nat),(∀p∈l,p.2<es.size)->(l.filterMap λp=>(es[p.2]?).map λe=>(p.1,e)).map 3e0=l.map 3e0:=by
   intro l
   induction l with
   |nil=>intro _;rfl
   |cons p l I=>
    intro h;rw[Ud,WH (h p Ue)];show p.1::List.map _ _=p.1::List.map _ _;rw[I λq Q=>h q (Ug _ Q)]
  exact gen live λp d=>H p.1 p.2 d
 have hZ2:μ'.map 7e4=(live.map 7e4).filterMap (es[·]?):=by
  have gen:∀l:List (Nat×Nat),(l.filterMap λp=>(es[p.2]?).map λe=>(p.1,e)).map 7e4=(l.map 7e4).filterMap (es[·]?):=by
   intro l
   induction l with
   |nil=>rfl
   |cons p l I=>
    rw[Ud,Vi,Ud];cases es[p.2]? with
    |none=>exact I
    |some e=>show e::List.map _ _=e::_;rw[I]
  exact gen live
 have s:(List.range es.size).filterMap (es[·]?)=es.toList:=by
  have q:=zF es.toList;rw[Ut]at q;simpa only[Vw] using q
 refine⟨{mask,place:=(live.map 3e0).toArray,dummies:=#[],finger:=t.finger,led:=t.led,moves:=t.movedTo mask,plain:=t.plain},(live.map 7e4).toArray,μ',?_,⟨?_,?_,?_,λz μ=>?_,rfl,λz μ=>?_⟩,?_,rfl,rfl,rfl,D⟩
 ·unfold SetTable.relaid SetTable.laid;rw[hm,L,G];rfl
 ·show (live.map 3e0)=_;rw[hZ1]
 ·rw[hZ2];simp
 ·rw[hZ1];exact T
 ·have : z.1 ∈ live.map 3e0 := by rw [<- hZ1]; exact Wj μ
  obtain⟨p,d,q⟩:=We.mp this;rw[<- q];exact((hlive p.1 p.2).mp d).1
 ·obtain⟨p,d,q⟩:=UI.mp μ;rw[WH (H p.1 p.2 d)]at q;have N:z=(p.1,es[p.2]'(H p.1 p.2 d)):=(TV q).symm;obtain⟨f,ho⟩:=(hlive p.1 p.2).mp d;obtain⟨j,a1,B,v,P,r,C⟩:=O.all p.2 (es[p.2]'(H p.1 p.2 d)).1 (by rw[UX,Vw,WH (H p.1 p.2 d)];rfl);have ejp:j=p.1:=O.inj _ _ _ B ho;refine⟨v,P,by rw[N];rw[ejp]at r;exact r,λk K=>?_⟩;obtain⟨n,c⟩:=C k K;rw[hZ1];have m:k<=mask:=k8 (h:=(es[p.2]'(H p.1 p.2 d)).1) (by rw[r];simp[K]);exact We.mpr ⟨(k,n),(hlive k n).mpr ⟨m,c⟩,rfl⟩
 ·rw[hZ2,<- s];exact D.filterMap _
noncomputable def prs:List 0e5:=((List.range 36).filter λn=>n / 6<n%6).map λn=>[((n / 6:Nat):Int),((n%6:Nat):Int)]
def hsh(ks:List Int):Int:=reduceHash (Builtin.Tuple.tupleHashOf (ks.map hashInt))
theorem Gc(ks:List Int):tupleKeyHash (intKind prog w) ks=hsh ks:=rfl
noncomputable def MD(mask:Nat):Bool:=prs.all λk=>(List.range (mask+1)).all λj=>(dk mask (hsh k)).contains j
theorem S9:MD 7=true:=by decide +kernel
theorem Mg:MD 31=true:=by decide +kernel
theorem Rz:(prs.map hsh).Nodup:=by decide +kernel
theorem xE:prs.length=15:=by decide +kernel
theorem Bd(h:MD mask=true){ks:List Int}(d:ks∈prs):∀j,j<=mask->j∈dk mask (hsh ks):=λj D=>by
 have a:=WI.mp h ks d;have b:=WI.mp a j (Ua.mpr 0e1);simpa using b
theorem Pb{l:List 0e5}(h:(l.map hsh).Nodup){a b:List Int}(n:a∈l)(B:b∈l)(e:hsh a=hsh b):a=b:=by
 induction l with
 |nil=>simp at n
 |cons c l i=>
  rw[Vi]at h;obtain⟨H,d⟩:=UP.mp h;rcases Uh.mp n with q|q <;> rcases Uh.mp B with Q|Q
  ·rw[q,Q]
  ·exact absurd (by rw[<- q,e];exact Wj Q) H
  ·exact absurd (by rw[<- Q,<- e];exact Wj q) H
  ·exact i d q Q
theorem Lg{a b:List Int}(n:a∈prs)(B:b∈prs)(e:hsh a=hsh b):a=b:=Pb Rz n B e
theorem xD{a b:Int}(H:0<=a)(c:a<b)(d:b<6):[a,b]∈prs:=by
 have key:∀x:Nat,x<6->∀y:Nat,y<6->x<y->[(x:Int),(y:Int)]∈prs:=by decide +kernel
 have:=key a.toNat 0e1 b.toNat 0e1 0e1;rw[WJ H,WJ 0e1]at this;exact this
end RS
namespace RS
open PySem PyProof.Rows
abbrev KP:=List Int×Addr
structure eU(w:World)(h:Heap)(a:Addr)(qs:List (Int×Value))(o:Obj)(es:Array (Int×Value))(ep:Nat)(t:SetTable)(μ:List (Nat×Int×Value)):Prop where
 ho:h.get? a=some o
 ex:o.ExactSet
 hd:o.data=.set es ep t
 tab:vB t es μ
 plain:t.plain=true
 led:t.led=!w.params.followText "set-order"
 big:(t.mask=7/\μ.length<=4)\/(t.mask=31/\μ.length<=18)
 perm:(μ.map 7e4).Perm qs
def AU(p:KP):Int×Value:=(hsh p.1,Value.ref p.2)
def cT(w:World)(h:Heap)(a:Addr)(ps:List KP):Prop:=∃o S z t μ,eU w h a (ps.map AU) o S z t μ/\(∀p∈ps,p.1∈prs)/\(ps.map 3e0).Nodup
theorem eU.len{o es ep t μ}(S:eU w h a ps o es ep t μ):μ.length=ps.length:=by
 have:=S.perm.length_eq;simpa using this
theorem xN{ps:List KP}(d:∀p∈ps,p.1∈prs)(n:(ps.map 3e0).Nodup):ps.length<=15:=by
 have:=i2 n (l2:=prs) (λx H=>by obtain⟨p,h,e⟩:=We.mp H;rw[<- e];exact d p h);rw[U1,xE]at this;exact this
theorem eU.fits{o es ep t μ}(S:eU w h a ps o es ep t μ):t.fits es.size=true:=by
 unfold SetTable.fits;rw[S.tab.fill,S.tab.size.1,S.tab.size.2];rcases S.big with⟨H,c⟩|⟨H,c⟩ <;> simp[H] <;> omega
theorem eU.cov{o es ep t μ}(S:eU w h a ps o es ep t μ)(d:k∈prs):∀j,j<=t.mask->j∈dk t.mask (hsh k):=by
 rcases S.big with⟨H,c⟩|⟨H,c⟩ <;> rw[H]
 ·exact Bd S9 d
 ·exact Bd Mg d
theorem cT.keeps{ps:List KP}(S:cT w h a ps)(k:∀o,h.get? a=some o->h'.get? a=some o):cT w h' a ps:=by
 obtain⟨o,e,z,t,μ,S,d,n⟩:=S;exact⟨o,e,z,t,μ,⟨k o S.ho,S.ex,S.hd,S.tab,S.plain,S.led,S.big,S.perm⟩,d,n⟩
section
abbrev Tk(prog:Program)(w:World)(h:Heap)(k:List Int)(r:Addr):Prop:=IsTupleKey (intKind prog w) h k r
theorem items_int{vs:List Value}(h:ItemsAre (intKind prog w) k vs):∀v∈vs,∃i t,v=.int i t:=by
 induction h with
 |nil=>intro v V;simp at V
 | @cons k a K vs H _ I=>
  intro v V;rcases Uh.mp V with q|q
  ·obtain⟨t,e⟩:=Value.isInt_shape (k:=k) (v:=a) H;exact⟨k,t,by rw[q,e]⟩
  ·exact I v q
theorem zO{r:Addr}{Q:Bool->Shared->Prop}(d:Tk prog w 3e3 k r)(h:Q false s):wpAny 1e7 A (ofAClassStatement 8 (.ref r)) Q E s:=by
 have hT:=d.typeIs;obtain⟨o,items,n,G,c,D,I⟩:=d;unfold ofAClassStatement;refine Uw (Ve hT ?_);dsimp only;dsimp[VD,U9];refine Uw 8e1;dsimp[WK,VE,U8];refine Uw (VV G D ?_);dsimp only;refine Uw ?_;show wpAny _ _ (forIn items _ _) _ _ s;rw[<- Array.forIn_toList];refine WL _ (λR r S=>r.1=none/\S=s/\∀v∈R,∃i t,v=.int i t) _ ?_ ?_ _ _ ⟨rfl,rfl,items_int I⟩
 ·rintro v R r S ⟨H, rfl, L⟩
  obtain⟨i,t,e⟩:=L v Ue;subst e;unfold ofAClassStatement;refine Uw 8e1;dsimp[VE,U8];exact UC ⟨rfl,rfl,λu a=>L u (Ug _ a)⟩
 ·rintro ⟨b, M⟩ S ⟨H, rfl, _⟩
  simp only at H;subst H;exact UC h
theorem vw{r:Addr}{Q:Bool->Shared->Prop}(d:Tk prog w 3e3 k r)(h:Q true s):wpAny 1e7 A (hashByValue 8 (.ref r)) Q E s:=by
 have hT:=d.typeIs;obtain⟨o,items,n,G,c,D,I⟩:=d;unfold hashByValue;refine Uw (wpAny_specialOf hT F.slot_tuple_hash.lookup ?_);dsimp only;refine Uw (VV G D ?_);refine Uw ?_;show wpAny _ _ (forIn items _ _) _ _ s;rw[<- Array.forIn_toList];refine WL _ (λR r S=>r.1=none/\S=s/\∀v∈R,∃i t,v=.int i t) _ ?_ ?_ _ _ ⟨rfl,rfl,items_int I⟩
 ·rintro v R r S ⟨H, rfl, L⟩
  obtain⟨i,t,e⟩:=L v Ue;subst e;unfold hashByValue;refine Uw 8e1;dsimp[WK,VE,U8];exact UC ⟨rfl,rfl,λu a=>L u (Ug _ a)⟩
 ·rintro ⟨b, M⟩ S ⟨H, rfl, _⟩
  simp only at H;subst H;exact UC h
theorem Hy{r:Addr}{ys:List Value}{Q:Bool->Shared->Prop}(d:Tk prog w 3e3 k r)(σ:∀y∈ys,∃k' r',y=.ref r'/\Tk prog w 3e3 k' r')(h:Q false s):wpAny 1e7 A (searchCouldBeSeen (.ref r) ys) Q E s:=by
 unfold searchCouldBeSeen;refine Uw ?_;refine WL _ (λR r' S=>r'.1=none/\S=s/\∀y∈R,∃k' r',y=.ref r'/\Tk prog w 3e3 k' r') _ ?_ ?_ _ _ ⟨rfl,rfl,σ⟩
 ·rintro v R q S ⟨a, rfl, L⟩
  obtain⟨k',r',e,H⟩:=L v Ue;subst e;have hrest:=λu b=>L u (Ug _ b);dsimp only;by_cases V:(r == r' || carriedByValue (Value.ref r)&&carriedByValue (Value.ref r'))=true
  ·rw[T1 V];exact UC ⟨rfl,rfl,hrest⟩
  ·rw[T3 V];refine Uw (wpAny_eqIsQuiet_tuple d ?_);dsimp[WK,VE,U8];refine Uw (wpAny_eqIsQuiet_tuple H ?_);dsimp[WK,VE,U8];refine Uw (zO d ?_);dsimp[VE,U8];refine Uw (zO H ?_);dsimp[VE,U8];exact UC ⟨rfl,rfl,hrest⟩
 ·rintro ⟨c, M⟩ S ⟨a, rfl, _⟩
  simp only at a;subst a;exact UC h
end
end RS
variable{qs:List RS.KP}
namespace RS
open PySem PyProof.Rows
section
theorem Gj{ps:List KP}{o es ep t μ}(S:eU w h a (ps.map AU) o es ep t μ)(hz:z∈μ):∃p∈ps,z.2=(hsh p.1,Value.ref p.2):=by
 have:z.2∈μ.map 7e4:=Wj hz;obtain⟨p,d,e⟩:=We.mp (S.perm.mem_iff.mp this);exact⟨p,d,e.symm⟩
theorem Pq{ps:List KP}{o es ep t μ}(S:eU w h a (ps.map AU) o es ep t μ){p:KP}(d:p∈ps):∃z∈μ,z.2=(hsh p.1,Value.ref p.2):=by
 have:AU p∈ps.map AU:=Wj d;obtain⟨z,H,e⟩:=We.mp (S.perm.mem_iff.mpr this);exact⟨z,H,e⟩
theorem DC{r:Addr}{ps:List KP}{o es ep t μ}{Q:SetFound->Shared->Prop}(S:eU w 3e3 a (ps.map AU) o es ep t μ)(n:∀p∈ps,p.1∈prs)(G:k∈prs)(N:Tk prog w 3e3 k r)(f:∀p∈ps,Tk prog w 3e3 p.1 p.2)(W:A.units<cLine)(X:k∈ps.map 3e0->Q (.there none) s)(σ:k∉ps.map 3e0->∀j pre post,j<=t.mask->j∉μ.map 3e0->dk t.mask (hsh k)=pre++j::post->(∀x∈pre,x∈μ.map 3e0)->Q (.free j false) s):
  wpAny 1e7 A (setSearch a (.ref r) (hsh k) true) Q E s:=by
 have D:t.gaveWay=false:=by
  unfold SetTable.gaveWay;rcases S.big with⟨q,_⟩|⟨q,_⟩ <;> rw[q] <;> decide
 have hz:μ.length<=t.mask:=by rcases S.big with⟨q,J⟩|⟨q,J⟩ <;> omega
 unfold setSearch setSearchFrom;refine Uw 10e4;dsimp only;rw[D];dsimp[VE,U8];generalize v:SetTable.probe t _ (hsh k) (Option.getD none (t.probeStart (hsh k)))=P
 have key:∀(hA:Nat->Int) P,(∀i z,μ[i]?=some z->hA i=z.2.1)->t.probe hA (hsh k) (t.probeStart (hsh k))=P ->
   (∃i z nx,μ[i]?=some z/\z.2.1=hsh k/\P=some (.candidate z.1 i nx)) \/
   ((∀z∈μ,z.2.1≠hsh k)/\∃j pre post,P=some (.empty j none)/\j<=t.mask/\j∉μ.map 3e0/\dk t.mask (hsh k)=pre++j::post/\∀x∈pre,x∈μ.map 3e0):=λhA P hAe e=>by
  subst e;exact S.tab.search (S.cov G) hz hA hAe
 rcases key _ P (λi z I=>by show (Option.map 3e0 es[i]?).getD 0=_;rw[S.tab.hashAt I];rfl) v with⟨i,z,nx,I,l,e⟩|⟨O,j,pre,post,e,V,F,U,c⟩
 ·subst e;dsimp only;have H:z∈μ:=UZ I;obtain⟨p,c,d⟩:=Gj S H;have K:p.1=k:=Lg (n p c) G (by rw[<- l,d]);have h:k∈ps.map 3e0:=by rw[<- K];exact Wj c
  have R:wpAny 1e7 A (do
    let some (_,y):=es[i]? | unsupported "internal:set-entry"
    let equal <- holding [y] (eqBool y (.ref r))
    let (es',_,t') <- setState a
    if true&&equal then return SetFound.there none
    let some same:=t'.sameMemory t.moves t.mask|unsupported "set.changed-during-lookup:is-the-new-block-at-the-old-address"
    let still <- match (if same then t'.slot z.1 else .empty) with
     |.live g=>match es'[g]? with
      |some (_,y')=>do pure (if <- isSame y' y then some g else none)
      |none=>pure none
     |_=>pure none
    match still with
    |none=>rule "set.search.anew";setSearchFrom a (.ref r) (hsh k) true 99999 none
    |some g=>if equal then return .there (some g) else setSearchFrom a (.ref r) (hsh k) true 99999 (some nx)) Q E s:=by
   rw[S.tab.hashAt I,d];dsimp only;refine Uw (Ux (wpAny_eqBool_tuple W (f p c) N ?_));refine Uw 10e4;dsimp only;rw[K,VA rfl];dsimp[WN,U9];exact UC (X h)
  by_cases L:(!t.led)=true
  ·rw [T1 L];refine Uw (Hy N (λy hy=>?_) ?_)
   ·obtain ⟨T, m, q⟩ := We.mp hy
    have b:T∈es.toList:=by
     have:=Array.mem_filter.mp (WO.mp m);exact WO.mpr this.1
    rw[S.tab.ents]at b;obtain⟨z',B,J⟩:=We.mp b;obtain⟨C,u,q3⟩:=Gj S B;exact⟨C.1,C.2,by rw[<- q,<- J,q3],f C u⟩
   ·dsimp[VE,U8];exact R
  ·rw[T3 L];exact R
 ·subst e;dsimp only;refine UC (σ (λh=>?_) j pre post V F U c);obtain⟨p,M,K⟩:=We.mp h;obtain⟨z,H,l⟩:=Pq S M;exact O z H (by rw[l,<- K])
end
noncomputable def jO(ps:List KP)(k:List Int)(r:Addr):List KP:=if k∈ps.map 3e0 then ps else ps++[(k,r)]
section
theorem FK{r:Addr}{ps:List KP}{Q:Bool->Shared->Prop}(S:cT w 3e3 a ps)(hk:k∈prs)(hr:Tk prog w 3e3 k r)(W:∀p∈ps,Tk prog w 3e3 p.1 p.2)(hu:A.units<cLine)(h:∀b h',Heap.SameBut a 3e3 h'->cT w h' a (jO ps k r)->Q b {s with heap:=h'}):wpAny 1e7 A (setAddHashed a (.ref r) (hsh k)) Q E s:=by
 obtain⟨o,i,P,t,μ,S,l,I⟩:=S;unfold setAddHashed setAddHashedIn;refine Ux (Uw 10e4);dsimp only;have hsc:byScan (Value.ref r) i=false:=rfl;rw[hsc];dsimp[VE,U8];refine Uw (DC S l hk hr W hu (λn=>?_) λn j pre post hj hn e hp=>?_)
 ·dsimp only;refine UC ?_;have q:=h false 3e3 (Heap.SameBut.refl a 3e3) (by unfold jO;rw[T1 n];exact⟨o,i,P,t,μ,S,l,I⟩);cases s;exact q
 ·dsimp only;refine Uw 10e4;dsimp only;obtain⟨M,T,hperm,N⟩:=S.tab.put (x:=Value.ref r) hj hn e hp;have e2:(t.put j).2=SetTable.below t.place j:=rfl;have L:(t.put j).1.plain=true:=by rw[N];exact S.plain
  have d:(t.put j).1.led=t.led:=by rw[N]
  have hmask:(t.put j).1.mask=t.mask:=by rw[N]
  have hperm':(M.map 7e4).Perm ((ps++[(k,r)]).map AU):=by
   have q1:=hperm.map 7e4;refine q1.trans ?_;rw[Vi,Wo];refine List.Perm.trans (List.Perm.cons _ S.perm) ?_;exact(List.perm_append_singleton _ _).symm
  have hkeys:∀p∈ps++[(k,r)],p.1∈prs:=λp u=>by
   rcases Uj.mp u with q|q
   ·exact l p q
   ·rw[VR]at q;rw[q];exact hk
  have D:((ps++[(k,r)]).map 3e0).Nodup:=by
   rw[Wo];refine WQ.mpr ⟨I,by simp,λx hx y hy=>?_⟩;simp at hy;rw[hy];rintro rfl;exact n hx
  have hlen15:=xN hkeys D;have hZ':M.length=ps.length+1:=by rw[hperm.length_eq,VF,S.len,U1]
  have z:(SetTable.insertAt i (t.put j).2 (hsh k,Value.ref r)).size=M.length:=T.size.2;have v:jO ps k r=ps++[(k,r)]:=by unfold jO;rw[T3 n]
  rw[v]at h;rw[U0,Vu]at hlen15;generalize ht1:(t.put j).1=t1 at *;generalize hes1:SetTable.insertAt i (t.put j).2 (hsh k,Value.ref r)=es1 at *;have hline:es1.size<=sizeLine:=by rw[z,hZ'];exact Ub hlen15 1e2
  rw[L];dsimp[U9];refine Uw (vw hr ?_);dsimp[U9];refine Uw (WR S.ho S.hd ?_ hline)
  have σ:(s.heap.update a 14e9).get? a=some {o with data:=.set es1 (P+1) t1}:=by
   have:=Vk 14e9 S.ho (by rw[WS es1 t1 S.hd];rfl);rw[WS es1 t1 S.hd]at this;exact this
  have f:=VX 3e3 a 14e9;have hfill:t1.fill=ps.length+1:=by rw[T.fill,hZ']
  by_cases hfull:t1.tooFull=true
  ·dsimp[hfull, WT, WN, U9]
   have H:t.mask=7/\ps.length=4:=by
    unfold SetTable.tooFull at hfull;rw[hfill,hmask]at hfull;have F:(ps.length+1)*5 ≥ t.mask*3:=by simpa using hfull
    have hl:=S.len;rw[U1]at hl;rcases S.big with⟨q,q2⟩|⟨q,q2⟩
    ·rw[q]at F;exact⟨q,by omega⟩
    ·rw[q]at F;omega
   have C:i.size=4:=by rw[S.tab.size.2,S.len,U1,H.2]
   have g:es1.size=5:=by rw[z,hZ',H.2]
   have R:SetTable.grown (i.size+1)=20:=by rw[C];rfl
   rw[R];unfold setRelay
   have hfits1:t1.fits es1.size=true:=by
    unfold SetTable.fits;rw[T.fill,T.size.1,z,hmask,H.1,hZ',H.2];rfl
   refine Uw (Uw (WM σ rfl hfits1 ?_));dsimp only;rw[T3 1e2]
   obtain⟨m,order,μ2,er,T2,J,O,X,K,_⟩:=t6 (t:=t1) (es:=es1) (wanted:=20) (mask:=31) (by rfl) (by rw[g];decide) (λe' B=>by
    rw[T.ents]at B;obtain⟨p,u,q⟩:=We.mp (hperm'.mem_iff.mp B);rw[<- q]
    exact Bd Mg (hkeys p u))
   rw[er]
   have hZ2:μ2.length=5:=by
    have:=J.length_eq;simp at this;omega
   have c:(order.filterMap (es1[·]?)).size=5:=by rw[T2.size.2,hZ2]
   have V:((order.filterMap (es1[·]?)).size != es1.size)=false:=by rw[c,g];rfl
   refine Uw ?_;show wpAny _ A (if ((order.filterMap (es1[·]?)).size != es1.size)=true then _ else _) _ _ _;rw[V];dsimp[VE,U8];refine UC ?_;refine WR σ rfl ?_ (by rw[c];decide)
   have U:((s.heap.update a 14e9).update a (Obj.putSet 13e7 m)).get? a=some {o with data:=.set 13e7 (P+1+1) m}:=by
    have:=Vk (Obj.putSet 13e7 m) σ (by rw[WS _ m rfl];rfl);rw[WS _ m rfl]at this;exact this
   refine UC ?_;refine h true _ (f.trans (VX _ a _)) ⟨_,_,_,m,μ2,⟨U,S.ex,rfl,T2,by rw[K];exact L,by rw[X,d];exact S.led,.inr ⟨O,by omega⟩,?_⟩,hkeys,D⟩;refine J.trans ?_;rw[T.ents];exact hperm'
  ·have F : t1.tooFull = false := by simpa using hfull
   dsimp[F,Vv,VE,U8];refine UC ?_;refine h true _ f ⟨_,_,_,t1,M,⟨σ,S.ex,rfl,T,L,by rw[d];exact S.led,?_,hperm'⟩,hkeys,D⟩;unfold SetTable.tooFull at F;rw[hfill,hmask]at F;have G:¬ ((ps.length+1)*5 ≥ t.mask*3):=by simpa using F
   rw[hmask,hZ'];rcases S.big with⟨q,q2⟩|⟨q,q2⟩
   ·rw[q]at G⊢;exact .inl ⟨rfl,by omega⟩
   ·rw[q]at G⊢;exact .inr ⟨rfl,by omega⟩
end
def gP(q:List KP):List KP:=q.foldl (λS p=>jO S p.1 p.2) []
theorem AC(q:List KP)(p:KP):gP (q++[p])=jO (gP q) p.1 p.2:=by unfold gP;rw[WU];rfl
theorem tR{ps:List KP}{r:Addr}{p:KP}(h:p∈jO ps k r):p∈ps\/p=(k,r):=by
 unfold jO at h;split at h
 ·exact .inl h
 ·rcases Uj.mp h with q | q
  ·exact .inl q
  ·exact .inr (VR.mp q)
theorem qT:∀{qs ps:List KP}{p:KP},p∈qs.foldl (λps p=>jO ps p.1 p.2) ps->p∈ps\/p∈qs
 |[],_,_,h=>.inl h
 |q::qs,ps,p,h=>by
  rw[Vs]at h;rcases qT h with z|z
  ·rcases tR z with z | z
   ·exact .inl z
   ·exact .inr (by rw[z];exact Ue)
  ·exact .inr (Ug _ z)
theorem ou{p:KP}(h:p∈gP qs):p∈qs:=(qT h).elim (λz=>by simp at z) id
theorem ue{ps:List KP}{r:Addr}(h:(ps.map 3e0).Nodup):((jO ps k r).map 3e0).Nodup:=by
 unfold jO;split
 ·exact h
 ·rename_i n;rw[Wo];refine WQ.mpr ⟨h,by simp,λx d y σ=>?_⟩;simp at σ;rw[σ];rintro rfl;exact n d
theorem nP:∀{qs ps:List KP},(ps.map 3e0).Nodup->((qs.foldl (λps p=>jO ps p.1 p.2) ps).map 3e0).Nodup
 |[],_,h=>h
 |q::qs,ps,h=>by rw[Vs];exact nP (ue h)
theorem yD:((gP qs).map 3e0).Nodup:=nP (ps:=[]) Ww
def sG (w:World):Bool:=!w.params.followText "set-order"
theorem qO(e:h.get? a=some {cls:=.type "set",dict:=none,data:=.set #[] 0 (.fresh 0 0 (sG w))}):cT w h a []:=
 ⟨_,_,_,_,[],10e0,λp d=>by simp at d,Ww⟩
section
variable{R:Result->Shared->Prop}{wr:List Addr}{G:Array GenState->Array GenState->Prop}{P:Nat->Value->Prop}{St:Nat->Shared->Prop}
structure IW(prog:Program)(w:World)(u:Nat)(S:Addr)(vs:List Value)(J:Nat->Heap->Prop):Prop where
 keep:∀i h h',(∀b o,b<=S->h.get? b=some o->h'.get? b=some o)->J i h->J i h'
 add:∀(A:Around)(i:Nat)(v:Value)(s:Shared)(E:Value->Shared->Prop)(Q:Bool->Shared->Prop),A.units<=u->vs[i]?=some v->J i 3e3 ->
  (∀b h' tk,s.toks<=tk->Heap.SameBut S 3e3 h'->J (i+1) h'->Q b {s with heap:=h',toks:=tk})->wpAny 1e7 A (setAdd S v) Q E s
theorem HG{u:Nat}{vs:List Value}(W:WalksS prog w A.in1 I fp wr G vs.length P St)(S:Addr)(hSf:S∉fp)(r:∀b∈wr,S<b)(hP:∀(i:Nat) v,P i v->vs[i]?=some v)(hJ:IW prog w u S vs J)(U:A.units+1<=u):
  ∀(k i:Nat)(s:Shared),vs.length-i=k->i<=vs.length->St i s->J i 3e3 ->
   (∀s',Moved (S::wr) G s s'->J vs.length s'.heap->R (.ok (.ret .none)) s') ->
   codeAny 1e7 A (.builtin "set.update.loop" ⟨[.ref S,.ref I],[]⟩) R s:=by
 have hSw:S∉wr:=λh=>hSf (W.sub _ h);have H:∀b∈wr,b∈S::wr:=λb B=>Ug _ B;have a:∀b,b<=S->b∉wr:=λb B z=>T7 _ (T6 (r b z) B);intro k
 induction k with
 |zero=>
  intro i s K g d hS hR;have n:i=vs.length:=by omega
  subst n;refine WV F.entry_set_update_loop ?_;rw[WW WX _];show wpAny _ A.in1 (pyNext (.ref I) >>= _) _ _ s;refine Uw (W.done s _ _ d λs' m=>?_);show wpAny _ A.in1 (ret Value.none) _ _ s';exact UC (hR s' (m.mono H) (hJ.keep _ _ _ (λb o B e=>m.heap b o (a b B) e) hS))
 |succ k j=>
  intro i s K g d hS hR;have t:i<vs.length:=by omega
  refine WV F.entry_set_update_loop ?_;rw[WW WX _];show wpAny _ A.in1 (pyNext (.ref I) >>= _) _ _ s;refine Uw (W.item i s _ _ t d λv s' hPv M m=>?_);have V:=hP i v hPv;have hS':=hJ.keep i _ s'.heap (λb o B e=>m.heap b o (a b B) e) hS;show wpAny _ A.in1 (holding [v] (setAdd S v) >>= _) _ _ s';refine Uw (Ux ?_);refine hJ.add A.in1 i v s' _ _ (by show A.units+1<=u;exact U) V hS' λb f l T c hS2=>?_;have hkeep:∀b o,b≠S->s'.heap.get? b=some o->f.get? b=some o:=λb o B e=>(c.2 b B).trans e;refine UC ⟨WY WX _,j (i+1) _ 0e1 t (W.frame _ s' _ _ M T λb B o e=>hkeep b o (λz=>hSf (by rw[<- z];exact B)) e) hS2 λs'' hm'' hS''=>?_⟩;refine hR s'' (Moved.trans W.gtrans ((m.mono H).then_heap T λb o B e=>?_) hm'') hS'';exact hkeep b o (λz=>B (by rw[z];exact Ue)) e
end
section
theorem yA(a:Value){Q1:Value->Shared->Prop}
  (h:Q1 15e5 {s with heap:=s.heap.push {cls:=.type "set",dict:=none,data:=.set #[] 0 (.fresh 0 0 (sG w))}}) :
  codeAny 1e7 A (.call (.builtin "set.__new__") ⟨[.type "set",a],[]⟩) (wants Q1 E) s:=by
 refine VM ?_;show wpAny _ A.in1 (do checkBuiltinCall "set.__new__" ⟨[.type "set",a],[]⟩;again (.builtin "set.__new__" ⟨[.type "set",a],[]⟩)) _ _ s;refine Uw (VP (F.newCall_set_1 a) (UC ⟨WY F.plain_set_new _,WV F.entry_set_new ?_⟩));rw[WW F.plain_set_new _];unfold Builtin.«set.__new__» Builtin.Frozenset.newClass;have b:=sub_set_self;obtain⟨p,g,d,t,S⟩:=s;dsimp only
 wp_walk
 refine VN 8e1;dsimp only;dsimp[newObj];refine Uw (wpAny_alloc 8e1);exact UC h
namespace F
theorem sub_list_set:isSubtype (.type "list") (.type "set")=pure false:=by rw[isSubtype_type];kernel_rfl
theorem sub_list_frozenset:isSubtype (.type "list") (.type "frozenset")=pure false:=by rw[isSubtype_type];kernel_rfl
end F
theorem pq{l:Addr}{items:Array Value}(hh:A.handled=none)(hl:s.heap.IsList l items)(hJ:IW prog w (A.units+20) 0e4 items.toList J)(h0:∀h',(∀b o,s.heap.get? b=some o->h'.get? b=some o)->h'.get? 0e4=some {cls:=.type "set",dict:=none,data:=.set #[] 0 (.fresh 0 0 (sG w))}->J 0 h')(h:∀(h':Heap)(tk:Nat),J 4e3 h'->(∀b o,b<s.heap.objs.size->s.heap.get? b=some o->h'.get? b=some o)->Q 15e5 {s with heap:=h',toks:=tk}):
  wpAny 1e7 A (call (.type "set") [.ref l]) Q E s:=by
 obtain⟨c,tl,x⟩:=WZ.mro;have hmade:=WZ.made;have z:=WZ.sub;refine wpAny_call (VM ?_);show wpAny _ _ (callAny (.type "set") _) _ _ _;refine UC ⟨W1 _ 1e1,WV PySem.F.entry_type_call ?_⟩;rw[Around.under_plain (weight_type_call_type "set" [.ref l] []) rfl];have h1:=WZ.notType;have h2:=WZ.canCreate;have hct:=PySem.F.typeCall_set_1 (.ref l)
 repeat (any_goals (first|assumption|wp_step))
 refine UN (yA (.ref l) (E:=E) (Q1:=λobj C=>obj=.ref 0e4/\C={s with heap:=s.heap.push {cls:=.type "set",dict:=none,data:=.set #[] 0 (.fresh 0 0 (sG w))}}) ⟨rfl,rfl⟩) λr C u=>?_;cases r with
 |error e=>exact u
 |ok μ=>
  cases μ with
  |ret obj=>
   obtain⟨rfl,rfl⟩:=u;generalize D:sG w=led;have hS:(s.heap.push {cls:=.type "set",dict:=none,data:=.set #[] 0 (.fresh 0 0 led)}).get? 0e4=some {cls:=.type "set",dict:=none,data:=.set #[] 0 (.fresh 0 0 led)}:=T4 _ rfl;have hTy:Shared.TypeIs {s with heap:=s.heap.push {cls:=.type "set",dict:=none,data:=.set #[] 0 (.fresh 0 0 led)}} (.ref 0e4) "set" := ⟨_,hS,rfl⟩;have hli:=WZ.init.lookup;have hbi:=WZ.init.bind 15e5
   repeat (any_goals (first|assumption|wp_step))
   refine UN (codeAny_call_builtin (R:=wants (λr K=>r=.none/\∃h' tk,K={s with heap:=h',toks:=tk}/\J 4e3 h' /\
     (∀b o,b<s.heap.objs.size->s.heap.get? b=some o->h'.get? b=some o)) E) WZ.init.plain PySem.F.entry_set_init (check_set_init_1 hTy ?_)) λr2 K H=>?_
   ·obtain ⟨ol, f, L, N, a⟩ := hl;obtain⟨ocls,odict,odata,oslots⟩:=ol;simp only at L a;subst L;subst a;have g:(s.heap.push {cls:=.type "set",dict:=none,data:=.set #[] 0 (.fresh 0 0 led)}).get? l=some {cls:=.type "list",dict:=odict,data:=.seq items N,slots:=oslots}:=UF _ f;have S:=F.sub_list_set;have y:=F.sub_list_frozenset;have hne:(Value.type "list" == Value.type "dict")=false:=by decide
    have d:(s.heap.push {cls:=.type "set",dict:=none,data:=.set #[] 0 (.fresh 0 0 led)}).IsList l items:=⟨_,g,rfl,N,rfl⟩;unfold Builtin.«set.__init__» noKeywords Builtin.Frozenset.updateFrom;generalize hPI:pyIter=PI
    wp_walk
    subst hPI;refine W2 d ?_;refine Uw (wpAny_runValue ?_);have hlS:l<s.heap.objs.size:=T5 f;have p:A.in1.in1.in1.handled=none:=by simp[hh]
    have hneI:l≠(s.heap.push {cls:=.type "set",dict:=none,data:=.set #[] 0 (.fresh 0 0 led)}).objs.size:=by
     rw[VI];exact T8 (VH hlS)
    have hSf:s.heap.objs.size ∉ [(s.heap.push {cls:=.type "set",dict:=none,data:=.set #[] 0 (.fresh 0 0 led)}).objs.size,l]:=by
     rw[VI];dsimp[Uh,VR,V0,V1,not_or];exact⟨T8 (VG _),UB hlS⟩
    have W:=(W3 (prog:=prog) (w:=w) p (s.heap.push {cls:=.type "set",dict:=none,data:=.set #[] 0 (.fresh 0 0 led)}).objs.size l hneI items).toS;rw[show items.size=items.toList.length by rw[Ut]]at W
    refine HG W 0e4 hSf (λb B=>?_) (λi v hv=>by rw[Vw];exact hv) hJ (by dsimp[Around.in1];omega) (items.toList.length-0) 0 _ 0e1 (VQ _)
     ⟨⟨_,T4 _ rfl,rfl,rfl⟩,?hL⟩ ?hS0 ?hR
    case hL=>
     obtain⟨o,ho,t⟩:=d;exact⟨o,UF _ ho,t⟩
    case hS0=>
     refine h0 _ (λb o e=>UF _ (UF _ e)) ?_;rw[D];exact UF _ hS
    case hR=>
     intro s' m hS';obtain⟨h',V,M,T,O⟩:=s';have X:V=s.gens:=m.gens;have U:M=s.drawn:=m.drawn;have σ:O=s.os:=m.os;subst X;subst U;subst σ;show wpAny _ _ _ _ _ _;refine UC ?_;show wpAny _ _ (ret Value.none) _ _ _;refine UC ⟨rfl,h',T,rfl,by rw[Ut]at hS';exact hS',λb o B e=>?_⟩;have k:b≠s.heap.objs.size:=T8 B
     have n:b≠(s.heap.push {cls:=.type "set",dict:=none,data:=.set #[] 0 (.fresh 0 0 led)}).objs.size:=by
      rw[VI];exact T8 (VH B)
     exact m.heap b o (by dsimp[Uh,VR,V0,V1,not_or];exact⟨k,n⟩) (UF _ (UF _ e))
    ·rw[VI]at B;rw[VR.mp B];exact VG _
   ·cases r2 with
    |error e=>exact H
    |ok j=>
     cases j with
     |ret r=>
      obtain⟨rfl,h',tk,rfl,hS',q⟩:=H
      repeat (any_goals (first|assumption|wp_step))
      exact h _ _ hS' q
     |_=>exact H.elim
  |_=>exact u.elim
theorem B4{S:Addr}{u:Nat}(K:∀p∈qs,p.1∈prs)(hS:∀p∈qs,p.2<S)(U:u<cLine):IW prog w u S (qs.map λp=>Value.ref p.2) (λi h=>cT w h S (gP (qs.take i))/\∀p∈qs,Tk prog w h p.1 p.2):=by
 have keepT:∀{a c:Heap}{q:KP},q∈qs->(∀b o,b<S->a.get? b=some o->c.get? b=some o)->Tk prog w a q.1 q.2->Tk prog w c q.1 q.2:=λ{a c q} z μ t=>by
  obtain⟨o,items,n,O,r⟩:=t;exact⟨o,items,n,μ _ o (hS q z) O,r⟩
 refine⟨λi h d H ⟨J,j⟩=>⟨J.keeps λo e=>H S o 6e3 e,λp f=>keepT f (λb o B e=>H b o (Uc B) e) (j p f)⟩,λA i v s E Q hA V ⟨J,j⟩ hQ=>?_⟩;rw[UX]at V;cases e:qs[i]? with
 |none=>rw[e]at V;cases V
 |some p=>
  rw[e]at V;cases V;have M:p∈qs:=UZ e;unfold setAdd;refine Ux ?_;refine Uw (wpAny_pyHash_tuple 0e1 (j p M) ?_);rw[Gc];refine FK (s:={s with toks:=s.toks+(p.1.length+1)}) J (K p M) (j p M) (λq z=>j q (Wu (ou z))) 0e1 λb d k hS2=>?_;have etk:qs.take (i+1)=qs.take i++[p]:=by rw[W4,e];rfl
  refine hQ b d _ (Nat.le_add_right _ _) k ⟨by rw[etk,AC];exact hS2,λq z=>keepT z (λb o B e=>(k.2 b (T8 B)).trans e) (j q z)⟩
theorem OT(hT:∀p∈qs,Tk prog w 3e3 p.1 p.2):∀p∈qs,p.2<s.heap.objs.size:=λp d=>by
 obtain⟨o,_,_,h,_⟩:=hT p d;exact T5 h
theorem Af{l:Addr}{items:Array Value}(a:A.handled=none)(L:s.heap.IsList l items)(hi:items.toList=qs.map λp=>Value.ref p.2)(d:∀p∈qs,p.1∈prs)(hT:∀p∈qs,Tk prog w 3e3 p.1 p.2)(U:A.units+20<cLine)(h:∀(h':Heap)(tk:Nat),cT w h' 0e4 (gP qs)->(∀b o,b<s.heap.objs.size->s.heap.get? b=some o->h'.get? b=some o)->Q 15e5 {s with heap:=h',toks:=tk}):
  wpAny 1e7 A (call (.type "set") [.ref l]) Q E s:=by
 have H:items.size=qs.length:=by rw[<- Ut,hi,U1]
 refine pq a L (hi ▸ B4 d (OT hT) U) (λh' k e=>⟨qO e,λp c=>?_⟩) λh' tk ⟨J,_⟩=>h h' tk ?_
 ·obtain⟨o,i,n,O,r⟩:=hT p c;exact⟨o,i,n,k _ _ O,r⟩
 ·rw[H,List.take_length]at J;exact J
end
end RS
namespace RS
open PySem PySem.W PyProof.Rows
structure fP(n:Nat)(p:Array Nat):Prop where
 size:p.size=n
 perm:p.toList.Perm (List.range n)
def at'(key:Nat->Int)(p:Array Nat)(k:Nat):Int:=key (p.getD k 0)
def Iy(key:Nat->Int)(p:Array Nat)(m:Nat):Prop:=∀i j,i<j->j<m->at' key p i<at' key p j
def IU(key:Nat->Int)(p:Array Nat)(m:Nat):Prop:=∀i j,i<j->j<m->at' key p j<at' key p i
section
variable{key:Nat->Int}{cmp:Nat->Nat->(Bool->Shared->Prop)->Shared->Prop}{p:Array Nat}
theorem fP.lt(g:fP n p){k:Nat}(d:k<n):p.getD k 0<n:=by
 have S:k<p.size:=by rw[g.size];exact d
 have:p[k]∈p.toList:=by rw[WO];exact Array.getElem_mem S
 have:=g.perm.mem_iff.mp this;rw[Ua]at this;simpa[Array.getD,S] using this
theorem fP.inj(g:fP n p){k k':Nat}(d:k<n)(H:k'<n)(e:p.getD k 0=p.getD k' 0):k=k':=by
 have S:k<p.toList.length:=by rw[Ut,g.size];exact d
 have a:k'<p.toList.length:=by rw[Ut,g.size];exact H
 have N:p.toList.Nodup:=g.perm.nodup_iff.mpr Wh;refine(Um (h₀:=S) (h₁:=a) N).mp ?_;have h:k<p.size:=by rw[g.size];exact d
 have c:k'<p.size:=by rw[g.size];exact H
 simpa[Array.getD,h,c] using e
variable(hkey:∀i j,i<n->j<n->key i=key j->i=j)(hc:∀i j,i<n->j<n->∀C:Bool->Shared->Prop,C (decide (key i<key j)) s->cmp i j C s)
include hkey in
theorem FI(g:fP n p){k k':Nat}(d:k<n)(H:k'<n)(h:k≠k'):at' key p k≠at' key p k':=λe=>h (g.inj d H (hkey _ _ (g.lt d) (g.lt H) e))
include hkey hc
theorem Bf(g:fP n p):∀(f m:Nat)(Q:Nat->Shared->Prop),1<=m->m+f<=n->Iy key p m->(∀m',m<=m'->m'<=m+f->Iy key p m'->(m'=m+f\/at' key p m'<at' key p (m'-1))->Q m' s)->(kas_asc p f m).kasWp cmp Q s
 |0,m,Q,o,q,H,hQ=>hQ m 6e3 6e3 H 8e9
 |f+1,m,Q,o,q,H,hQ=>by
  show cmp (p.getD m 0) (p.getD (m-1) 0) _ s;refine hc _ _ (g.lt 0e1) (g.lt 0e1) _ ?_;by_cases h:key (p.getD m 0)<key (p.getD (m-1) 0)
  ·rw[VA h];(show (if true=true then _ else _:KasT _).kasWp cmp _ s);rw[T1 rfl];exact hQ m 6e3 0e1 H (.inr h)
  ·rw [TY h]; (show (if false = true then _ else _ : KasT _).kasWp cmp _ s); rw [T3 UA];have r:=FI hkey g (k:=m) (k':=m-1) 0e1 0e1 0e1;have t:at' key p (m-1)<at' key p m:=by unfold at' at *;omega
   refine Bf g f (m+1) Q 0e1 0e1 (λi j J D=>?_) (λm' a b c d=>hQ m' 0e1 0e1 c (d.elim (λe=>.inl 0e1) .inr));by_cases l:j=m
   ·subst l;by_cases E:i=j-1
    ·rw[E];exact t
    ·have:=H i (j-1) 0e1 0e1;omega
   ·exact H i j J 0e1
theorem Df(g:fP n p):∀(f m:Nat)(Q:Array Nat×Nat×Nat->Shared->Prop),1<=m->m+f<=n->IU key p m->(∀m',m<=m'->m'<=m+f->IU key p m'->Q (p,m',0) s)->(kas_desc f p m 0).kasWp cmp Q s
 |0,m,Q,l,o,H,hQ=>hQ m 6e3 6e3 H
 |f+1,m,Q,l,o,H,hQ=>by
  show cmp (p.getD m 0) (p.getD (m-1) 0) _ s;refine hc _ _ (g.lt 0e1) (g.lt 0e1) _ ?_;by_cases h:key (p.getD m 0)<key (p.getD (m-1) 0)
  ·rw [VA h]; (show (if true = true then _ else _ : KasT _).kasWp cmp _ s); rw [T1 rfl, T3 0e1];refine Df g f (m+1) Q 0e1 0e1 (λi j J D=>?_) (λm' a b c=>hQ m' 0e1 0e1 c);by_cases d:j=m
   ·subst d;by_cases E:i=j-1
    ·rw[E];exact h
    ·have:=H i (j-1) 0e1 0e1;have:at' key p j<at' key p (j-1):=h;omega
   ·exact H i j J 0e1
  ·rw [TY h]; (show (if false = true then _ else _ : KasT _).kasWp cmp _ s); rw [T3 UA];show cmp (p.getD (m-1) 0) (p.getD m 0) _ s;refine hc _ _ (g.lt 0e1) (g.lt 0e1) _ ?_;have e:=FI hkey g (k:=m) (k':=m-1) 0e1 0e1 0e1;have t:key (p.getD (m-1) 0)<key (p.getD m 0):=by unfold at' at e;omega
   rw[VA t];(show (if true=true then _ else _:KasT _).kasWp cmp _ s);rw[T1 rfl];exact hQ m 6e3 0e1 H
omit hkey hc in
theorem sT{p p':Array Nat}{k k':Nat}(h:p[k]?=p'[k']?):at' key p k=at' key p' k':=by
 unfold at';rw[Wr,Wr,h]
omit hkey hc in
theorem wm{p':Array Nat}(g:fP n p)(h:p'.Perm p)(hs:p'.size=p.size):fP n p':=⟨hs.trans g.size,(Array.perm_iff_toList_perm.mp h).trans g.perm⟩
omit hkey hc in
theorem JW(g:fP n p)(h:m<=n)(D:IU key p m):fP n (kas_rev p 0 m)/\Iy key (kas_rev p 0 m) m:=by
 have S:m<=p.size:=by rw[g.size];exact h
 refine⟨wm g (mirror_perm _ _ _ _) (mirror_size _ _ _ _),λi j J H=>?_⟩;have E:at' key (kas_rev p 0 m) i=at' key p (0+m-1-i):=sT (by unfold kas_rev;rw[getElem?_mirror_all S,T1 ⟨VQ _,by omega⟩]);have e:at' key (kas_rev p 0 m) j=at' key p (0+m-1-j):=sT (by unfold kas_rev;rw[getElem?_mirror_all S,T1 ⟨VQ _,by omega⟩]);rw[E,e];exact D _ _ 0e1 0e1
theorem Gy(g:fP n p)(H:1<=m)(i:m<=n)(D:IU key p m)(Q:Nat×Array Nat->Shared->Prop)(hQ:∀m' p',fP n p'->1<=m'->m'<=n->Iy key p' m'->Q (m',p') s):(kas_tail3 m n p).kasWp cmp Q s:=by
 obtain⟨G,h⟩:=JW (key:=key) g i D;unfold kas_tail3;rw[W5];exact Bf hkey hc G (n-m) m _ H 0e1 h λm' a b c d=>hQ m' _ G 0e1 0e1 c
theorem Ib(g:fP n p)(l:2<=n)(Q:Nat×Array Nat->Shared->Prop)(hQ:∀m' p',fP n p'->1<=m'->m'<=n->Iy key p' m'->Q (m',p') s):(kas_count n p).kasWp cmp Q s:=by
 unfold kas_count;rw[W5];refine Bf hkey hc g (n-1) 1 _ 6e3 0e1 (λi j J D=>by omega) λm a b c d=>?_;by_cases e:m=n
 ·rw[T1 (by simpa using e)];exact hQ m p g a 0e1 c
 ·rw [T3 (by simpa using e)];by_cases H:m>1
  ·rw[T1 H];show cmp (p.getD 0 0) (p.getD (m-1) 0) _ s;refine hc _ _ (g.lt 0e1) (g.lt 0e1) _ ?_;have:at' key p 0<at' key p (m-1):=c 0 (m-1) 0e1 0e1;rw[VA (show key (p.getD 0 0)<key (p.getD (m-1) 0) from this)];(show (if true=true then _ else _:KasT _).kasWp cmp _ s);rw[T1 rfl];exact hQ m p g a 0e1 c
  ·rw [T3 H];have M:m=1:=by omega
   subst M;unfold kas_descPart;rw[W5];have h:at' key p 1<at' key p 0:=d.elim (λk=>by omega) id;refine Df hkey hc g (n-(1+1)) (1+1) _ 0e1 0e1 (λi j J D=>?_) λm' A B C=>?_
   ·have E : i = 0 := by omega
    have f:j=1:=by omega
    rw[E,f];exact h
   ·show (if (0:Nat)>0 then _ else _:KasT (Nat×Array Nat)).kasWp cmp Q s;rw[T3 0e1];exact Gy hkey hc g 0e1 0e1 C Q hQ
theorem tx(g:fP n p){k:Nat}(d:k<n)(a:Iy key p k):∀(f l r:Nat)(Q:Nat->Shared->Prop),l<=r->r<=k->r-l<=f->(∀i,i<l->at' key p i<at' key p k)->(∀i,r<=i->i<k->at' key p k<at' key p i) ->
  (∀l',l'<=k->(∀i,i<l'->at' key p i<at' key p k)->(∀i,l'<=i->i<k->at' key p k<at' key p i)->Q l' s)->(kas_place p k f l r).kasWp cmp Q s
 |0,l,r,Q,j,c,m,h,H,hQ=>by
  have e:l=r:=by omega
  subst e;exact hQ l c h H
 |f+1,l,r,Q,j,c,m,h,H,hQ=>by
  unfold kas_place;by_cases e:l ≥ r
  ·rw [T1 e];have b:l=r:=by omega
   subst b;exact hQ l c h H
  ·rw [T3 e];show cmp (p.getD k 0) (p.getD ((l+r) / 2) 0) _ s;refine hc _ _ (g.lt d) (g.lt 0e1) _ ?_;by_cases t:key (p.getD k 0)<key (p.getD ((l+r) / 2) 0)
   ·rw [VA t]; (show (if true = true then _ else _ : KasT _).kasWp cmp _ s); rw [T1 rfl];refine tx g d a f l ((l+r) / 2) Q 0e1 0e1 0e1 h (λi I K=>?_) hQ;by_cases E:i=(l+r) / 2
    ·rw[E];exact t
    ·have:=a ((l+r) / 2) i 0e1 K;have:at' key p k<at' key p ((l+r) / 2):=t;omega
   ·rw [TY t]; (show (if false = true then _ else _ : KasT _).kasWp cmp _ s); rw [T3 UA];have o:=FI hkey g (k:=k) (k':=(l+r) / 2) d 0e1 0e1;have T:at' key p ((l+r) / 2)<at' key p k:=by unfold at' at *;omega
    refine tx g d a f ((l+r) / 2+1) r Q 0e1 c 0e1 (λi I=>?_) H hQ;by_cases E:i=(l+r) / 2
    ·rw[E];exact T
    ·have:=a i ((l+r) / 2) 0e1 0e1;omega
theorem Gp:∀(f:Nat)(p:Array Nat)(k:Nat)(Q:Array Nat->Shared->Prop),fP n p->k+f=n->Iy key p k->(∀p',fP n p'->Iy key p' n->Q p' s)->(kas_bin f p k).kasWp cmp Q s
 |0,p,k,Q,g,K,h,hQ=>by
  have e:k=n:=by omega
  rw[e]at h;exact hQ p g h
 |f+1,p,k,Q,g,K,h,hQ=>by
  unfold kas_bin;rw[W5];refine tx hkey hc g 0e1 h k 0 k _ (VQ _) 6e3 0e1 (λi I=>by omega) (λi o q=>by omega) λl r H a=>?_;have S:k<p.size:=by rw[g.size];omega
  refine Gp f _ (k+1) Q (wm g (bubble_perm _ _ _) (bubble_size _ _ _)) 0e1 (λi j J D=>?_) hQ
  have b:∀x,at' key (bubble p k (k-l)) x=if x=l then at' key p k else if l<x/\x<=k then at' key p (x-1) else at' key p x:=λx=>by
   have e:=getElem?_bubble S (k-l) 0e1 x;have L:k-(k-l)=l:=by omega
   rw[L]at e;by_cases d:x=l
   ·rw[T1 d]at e⊢;exact sT e
   ·rw [T3 d] at e ⊢;by_cases B:l<x/\x<=k
    ·rw[T1 B]at e⊢;exact sT e
    ·rw[T3 B]at e⊢;exact sT e
  rw[b i,b j];by_cases A:i=l
  ·rw[T1 A,T3 0e1,T1 ⟨by omega,by omega⟩];exact a (j-1) 0e1 0e1
  ·rw [T3 A];by_cases u:l<i/\i<=k
   ·rw[T1 u,T3 0e1,T1 ⟨by omega,by omega⟩];exact h (i-1) (j-1) 0e1 0e1
   ·rw [T3 u];have I:i<l:=by omega
    by_cases c:j=l
    ·rw[T1 c];exact H i I
    ·rw [T3 c];by_cases m:l<j/\j<=k
     ·rw [T1 m];by_cases E:i=j-1
      ·omega
      ·exact h i (j-1) 0e1 0e1
     ·rw[T3 m];exact h i j J 0e1
theorem JE(c:2<=n)(Q:Array Nat->Shared->Prop)(hQ:∀p',fP n p'->Iy key p' n->Q p' s):(kas_sort n).kasWp cmp Q s:=by
 unfold kas_sort;rw[W5];have G:fP n (List.toArray (List.range n)):=⟨by simp,by simp⟩;refine Ib hkey hc G c _ λm p' g H i h=>?_;show (if m<n then _ else _:KasT (Array Nat)).kasWp cmp Q s;by_cases e:m<n
 ·rw [T1 e];have M:max m 1=m:=by omega
  rw[M];exact Gp hkey hc (n-m) p' m Q g 0e1 h hQ
 ·rw [T3 e];have M:m=n:=by omega
  rw[M]at h;exact hQ p' g h
end
def rj(k:List Int):Int:=k.getD 0 0*6+k.getD 1 0
theorem jK(h:k∈prs):∃a b:Int,k=[a,b]/\0<=a/\a<b/\b<6:=by
 have key:∀k∈prs,0<=k.getD 0 0/\k.getD 0 0<k.getD 1 0/\k.getD 1 0<6/\k=[k.getD 0 0,k.getD 1 0]:=by decide +kernel
 obtain⟨H,c,d,e⟩:=key k h;exact⟨_,_,e,H,c,d⟩
theorem Lp{k':List Int}(h:k∈prs)(h':k'∈prs)(e:rj k=rj k'):k=k':=by
 obtain⟨a,b,rfl,H,f,g⟩:=jK h;obtain⟨c,d,rfl,i,j,l⟩:=jK h';have E:a*6+b=c*6+d:=e;have:a=c:=by omega
 have:b=d:=by omega
 subst_vars;rfl
def Bg(ps:List KP):Prop:=ps.Pairwise λp q=>rj p.1<rj q.1
def bb(ps:List KP):List Value:=ps.map λp=>Value.ref p.2
namespace Fx
theorem slot_setiter_next:Slot "set_iterator" "__next__" "set_iterator.__next__" :=
 .of (owner:="set_iterator") (n:="__next__") (by rw[typeLookup_type,builtinLookup_eq_fast];kernel_rfl) 1e1 1e1 1e1
  (by first|exact .inl 1e1|exact .inr 1e1) (by rw[isSubtype_type];kernel_rfl)
theorem entry_setiter_next:entryFor table "set_iterator.__next__" = some Builtin.«set_iterator.__next__»:=entryFor_of_fast 0e2
theorem args_setiter_next (a:Value):argsOk "set_iterator.__next__" ⟨[a],[]⟩:=by unfold argsOk;kernel_rfl
theorem entry_set_iter:entryFor table "set.__iter__" = some Builtin.«frozenset.__iter__»:=
 entryFor_alias (id':="frozenset.__iter__") 0e2 rfl 1e1 0e2
end Fx
def eF (h:Heap) (I S:Addr) (i n ep slot:Nat):Prop:=h.get? I=some {cls:=.type "set_iterator",dict:=none,data:=.fields #[.int (slot:Int) 0,.int (i:Int) 0,.ref S,.int (n:Int) 0,.int (ep:Int) 0],slots:=#[]}
def eO (w:World) (S:Addr) (ep:Nat) (es:Array (Int×Value)):List (Int×Value):=if w.params.followText "set-order" then (pickOrder (w.params.setOrder S ep) es).toList else es.toList
noncomputable def d3 (w:World) (μ:List (Nat×Int×Value)) (i:Nat):Nat:=if w.params.followText "set-order" then 0 else if i=0 then 0 else (μ.getD (i-1) (0,0,.none)).1+1
theorem vW{α:Type}(next:Nat->Nat):∀(fuel k:Nat)(left:List α)(out:Array α),left.length=fuel->(pickOrder.go next fuel k left out).toList.Perm (out.toList++left)
 |0,k,left,out,h=>by
  have:left=[]:=List.length_eq_zero_iff.mp h;subst this;show out.toList.Perm (out.toList++[]);rw[UM]
 |fuel+1,k,left,out,h=>by
  have t:next k%left.length<left.length:=Nat.mod_lt _ 0e1
  show (match left[next k%left.length]? with|some x=>_|none=>_:Array α).toList.Perm _;rw[W6 t];show (pickOrder.go next fuel (k+1) (left.eraseIdx (next k%left.length)) (out.push left[next k%left.length])).toList.Perm _;refine(vW next fuel (k+1) _ _ (by rw[List.length_eraseIdx_of_lt t];omega)).trans ?_;rw[Array.toList_push,Vr];refine List.Perm.append_left _ ?_;rw[WA,List.eraseIdx_eq_take_drop_succ]
  have q:(left.take (next k%left.length)++left[next k%left.length]::left.drop (next k%left.length+1))=left:=by
   rw[List.getElem_cons_drop];exact Wl _ _
  have J:=(List.perm_middle (a:=left[next k%left.length]) (l₁:=left.take (next k%left.length)) (l₂:=left.drop (next k%left.length+1))).symm;rw[q]at J;exact J
theorem mz{S:Addr}:(eO w S ep es).Perm es.toList:=by
 unfold eO;split
 ·have:=vW (w.params.setOrder S ep) es.size 0 es.toList #[] 0e9;simpa[pickOrder] using this
 ·exact List.Perm.refl _
theorem Ik{t:SetTable}(T:vB t es μ)(j:w.params.followText "set-order" = false)(hi:i<=μ.length):SetTable.below t.place (d3 w μ i)=i:=by
 have r:vC t.place.toList:=by rw[T.place];exact T.ris
 obtain⟨b1,b2,b3⟩:=ot r (d3 w μ i);have l:=T.size.1
 have g:∀k,k<μ.length->t.place.getD k (d3 w μ i)=(μ.getD k (0,0,.none)).1:=λk K=>by
  have e:t.place[k]?=some (μ[k]).1:=by rw[<- Vw,T.place,UX,W6 K];rfl
  rw[Wr,e,W7,W6 K];rfl
 have H:∀a b,a<b->b<μ.length->(μ.getD a (0,0,.none)).1<(μ.getD b (0,0,.none)).1:=λa b B z=>by
  rw[<- g a 0e1,<- g b z];exact xC r _ a b B 0e1
 have S:d3 w μ i=if i=0 then 0 else (μ.getD (i-1) (0,0,.none)).1+1:=by
  unfold d3;rw[j,T3 UA]
 by_cases d:i=0
 ·rw [T1 d] at S;rw[S]at b2⊢;by_cases m:SetTable.below t.place 0=0
  ·rw[m,d]
  ·have:=b2 0 0e1;omega
 ·rw [T3 d] at S
  have O:¬ SetTable.below t.place (d3 w μ i)<=i-1:=λc=>by
   have:=b3 (i-1) c 0e1;rw[g _ 0e1]at this;omega
  have I:¬ i<SetTable.below t.place (d3 w μ i):=λf=>by
   have:=b2 i f;have h:i<μ.length:=by omega
   rw[g i h]at this;have:=H (i-1) i 0e1 h;omega
  omega
section
theorem zy{o es ep t μ}{Q:Option (Value×Nat)->Shared->Prop}(S:eU w 3e3 a ps o es ep t μ)(hi:i<=μ.length)(h:Q (((eO w a ep es)[i]?).map λe=>(e.2,d3 w μ (i+1))) s):wpAny 1e7 A (setNext a (d3 w μ i) i ep) Q E s:=by
 unfold setNext;refine Uw 10e4;dsimp only;unfold setsByText;refine Uw (Uw (VN 8e1));cases B:w.params.followText "set-order" with
 |true=>
  have b:eO w a ep es=(pickOrder (w.params.setOrder a ep) es).toList:=by unfold eO;rw[B,T1 rfl]
  have g:∀j,d3 w μ j=0:=λj=>by unfold d3;rw[B,T1 rfl]
  rw[b,g]at h;show wpAny _ _ 14e7 _ _ _;rw[B,T1 rfl];rw[T3 0e9];refine Uw ?_;unfold setWalk;refine Uw 10e4;dsimp only;unfold setsByText;refine Uw (Uw (VN 8e1));show wpAny _ _ 14e7 _ _ _;rw[B,T1 rfl];refine Uw (VN (UC 8e1));rw[g,<- Vw];exact h
 |false=>
  have b:eO w a ep es=es.toList:=by unfold eO;rw[B,T3 UA]
  have d:t.led=true:=by rw[S.led,B];rfl
  show wpAny _ _ 14e7 _ _ _;rw[B,T3 UA];have r:(!t.plain&&decide (es.size>1))=false:=by rw[S.plain];rfl
  show wpAny _ _ (if (!t.plain&&decide (es.size>1))=true then _ else _) _ _ _;rw[r,T3 UA];refine Uw ?_;show wpAny _ _ (if (!t.led && !es.isEmpty)=true then _ else _) _ _ _;rw[d];dsimp[WK,UE,VE,U8];refine UC 8e1;rw[Ik S.tab B hi];rw[b,Vw]at h;by_cases H:i<μ.length
  ·have z : μ[i]? = some μ[i] := W6 H;have k:=S.tab.hashAt z;have c:t.place[i]?=some (μ[i]).1:=by rw[<- Vw,S.tab.place,UX,z];rfl
   rw[k,c];rw[k]at h
   have f:d3 w μ (i+1)=(μ[i]).1+1:=by
    unfold d3;rw[B,T3 UA,T3 0e1,Nat.add_sub_cancel,W7,z];rfl
   rw[f]at h;exact h
  ·have : es[i]? = none := by rw [Wv, S.tab.size.2]; omega
   rw[this];rw[this]at h;exact h
end
section
theorem eF.typeIs{S:Addr}{slot:Nat}(h:eF 3e3 I S i n ep slot):s.TypeIs (.ref I) "set_iterator" := ⟨_,h,rfl⟩
theorem iD{o es ep t μ}(S:eU w 3e3 a ps o es ep t μ):s.TypeIs 15e7 "set" := ⟨o,S.ho,S.ex.1⟩
theorem GY{o es ep t μ}(S:eU w 3e3 a ps o es ep t μ)(hQ:Q 15e5 {s with heap:=s.heap.push {cls:=.type "set_iterator",data:=.fields #[.int ((0:Nat):Int) 0,.int ((0:Nat):Int) 0,.ref a,.int (μ.length:Int) 0,.int (ep:Int) 0]}}):
  wpAny 1e7 A (pyIter 15e7) Q E s:=by
 refine wpAny_pyIter_slot (iD S) PySem.F.slot_set_iter (Vd PySem.F.slot_set_iter (iD S) Fx.entry_set_iter ?_ (PySem.F.args_set_iter_1 _));unfold Builtin.«frozenset.__iter__» Builtin.Frozenset.sizeOf;refine Uw (m:=Builtin.Frozenset.slot0 "__iter__" _) (VP (a:=a) rfl ?_);refine Uw (Uw (W8 S.ho S.hd S.fits 8e1));unfold setDrawn;refine Uw (Uw 10e4);dsimp only;unfold setsByText;refine Uw (Uw (VN (UC 8e1)));have r:(!w.params.followText "set-order" && (!t.plain&&decide (es.size>1)))=false:=by rw[S.plain];simp
 show wpAny _ _ (if (!w.params.followText "set-order" && (!t.plain&&decide (es.size>1)))=true then _ else _) _ _ _;rw[r,T3 UA];refine Uw 8e1;refine Uw (wpAny_setEpoch_of S.ho S.hd S.fits ?_);refine Uw (Vg (UC ⟨_,rfl, "set_iterator",_,⟨_,T4 _ rfl,rfl⟩,Fx.slot_setiter_next.lookup,?_⟩));rw[S.tab.size.2];exact hQ
theorem GZ{o es ep t μ}{v:Int×Value}{Q:Option Value->Shared->Prop}(S:eU w 3e3 a ps o es ep t μ)(H:eF 3e3 I a i μ.length ep (d3 w μ i))(V:(eO w a ep es)[i]?=some v)(hQ:∀h',eF h' I a (i+1) μ.length ep (d3 w μ (i+1))->Heap.SameBut I 3e3 h'->Q (some v.2) {s with heap:=h'}):wpAny 1e7 A (pyNext (.ref I)) Q E s:=by
 have hT:=H.typeIs;have h:=H;unfold eF at h
 have l:i<μ.length:=by
  have:=(Ul.mp V).1;rw[mz.length_eq,Ut,S.tab.size.2]at this;exact this
 unfold pyNext;refine Uw 11e0;unfold Builtin.«set_iterator.__next__»;refine Uw (m:=slotArgs "__next__" 0 _) (VP (a:=(.ref I,[])) rfl ?_);dsimp only;unfold fieldsOf;refine Uw (Uw (UD h ?_));refine UC ?_;refine Uw (W8 S.ho S.hd S.fits ?_);rw[S.tab.size.2];dsimp[Xa,VE,U8,U6];refine Uw (zy S (Uc l) ?_);rw[V];dsimp only[Option.map_some];refine Uw (Xc h 0e9 λe d b=>?_);refine Uw (Xc (s:={s with heap:=e}) d 0e9 λf B c=>?_);refine UC ⟨v.2,rfl,UC (hQ f ?_ (b.trans c))⟩;unfold eF;rw[B];simp[rawInt]
theorem JM{o es ep t μ}{Q:Option Value->Shared->Prop}(i:A.handled=none)(S:eU w 3e3 a ps o es ep t μ)(H:eF 3e3 I a μ.length μ.length ep (d3 w μ μ.length))(hQ:∀h',Heap.ExtBut I 3e3 h'->Q none {s with heap:=h'}):wpAny 1e7 A (pyNext (.ref I)) Q E s:=by
 have hT:=H.typeIs;have h:=H;unfold eF at h
 have V:(eO w a ep es)[μ.length]?=none:=by
  rw[List.getElem?_eq_none_iff,mz.length_eq,Ut,S.tab.size.2];exact UG _
 unfold pyNext;refine Uw 11e0;unfold Builtin.«set_iterator.__next__»;refine Uw (m:=slotArgs "__next__" 0 _) (VP (a:=(.ref I,[])) rfl ?_);dsimp only;unfold fieldsOf;refine Uw (Uw (UD h ?_));refine UC ?_;refine Uw (W8 S.ho S.hd S.fits ?_);rw[S.tab.size.2];dsimp[Xa,VE,U8,U6];refine Uw (zy S 6e3 ?_);rw[V];dsimp only[Option.map_none];refine Uw (Xc h 0e9 λe d c=>?_);refine Uw ?_;dsimp[newExc,newTuple];refine Uw (Vg ?_ (by size_fits));refine Uw (m:=firstArgMember _ _) 13e1;refine Vg ?_ (by size_fits);dsimp[raiseNew];refine Uw (wpAny_handled ?_);rw[show A.in1.handled=none from i];refine Uw (UC (wpAny_throw ?_));refine Uw (Xd (T:="StopIteration") (b:=true) ⟨_,T4 _ rfl,rfl⟩ isSubtype_stop ?_);exact UC (hQ _ ((c.extBut.push _).push _))
end
namespace Fx
theorem entry_extend_loop:entryFor table "list.extend.loop" = some Builtin.«list.extend.loop»:=entryFor_of_fast 0e2
theorem plain_extend_loop:plainId "list.extend.loop" = true:=by decide +kernel
theorem split_set_len:splitId "set.__len__" = some ("set", "__len__"):=by decide +kernel
end Fx
section
theorem Ax{o es ep t μ}{Q:Bool->Shared->Prop}(S:eU w 3e3 a ps o es ep t μ)(h:Q false s):wpAny 1e7 A (Builtin.List.listLengthHint 15e7) Q E s:=by
 unfold Builtin.List.listLengthHint;refine Uw (wpAny_specialOf (iD S) PySem.F.slot_set_len.lookup ?_);dsimp only;rw[Fx.split_set_len];dsimp only;refine Uw (Xd (iD S) sub_set_self ?_);dsimp[WK,VE,U8];rw[T1 (by rfl)];refine Uw (Ve (iD S) ?_);exact UC h
theorem Ay{R:Result->Shared->Prop}{L:Addr}{o es ep t μ}(j:A.handled=none)(hIa:I≠a)(hIL:I≠L)(hLa:L≠a)(hz:μ.length<=100):
  ∀(k i n:Nat) (s:Shared),μ.length-i=k->i<=μ.length->eU w 3e3 a ps o es ep t μ->eF 3e3 I a i μ.length ep (d3 w μ i)->s.heap.get? L=some (seqObj "list" (((eO w a ep es).take i).map 7e4).toArray n) ->
   (∀h' m,(∀b u,b≠I->b≠L->s.heap.get? b=some u->h'.get? b=some u)->h'.get? L=some (seqObj "list" ((eO w a ep es).map 7e4).toArray m)->R (.ok (.ret (.ref L))) {s with heap:=h'}) ->
   codeAny 1e7 A (.builtin "list.extend.loop" ⟨[.ref L,.ref I,.ref L],[]⟩) R s:=by
 intro k
 induction k with
 |zero=>
  intro i n s K p S H hL hR;have e:i=μ.length:=by omega
  subst e;refine WV Fx.entry_extend_loop ?_;rw[WW Fx.plain_extend_loop _];show wpAny _ A.in1 (pyNext (.ref I) >>= _) _ _ s;refine Uw (JM (by simpa using j) S H λh' O=>?_);show wpAny _ A.in1 (ret (.ref L)) _ _ _;refine UC (hR h' n (λb u g _ q=>O b u g q) ?_);rw[Wd (by rw[mz.length_eq,Ut,S.tab.size.2];exact UG _)]at hL;exact O L _ (Ui hIL) hL
 |succ k r=>
  intro i n s K p S H hL hR;have l:i<(eO w a ep es).length:=by rw[mz.length_eq,Ut,S.tab.size.2];omega
  refine WV Fx.entry_extend_loop ?_;rw[WW Fx.plain_extend_loop _];show wpAny _ A.in1 (pyNext (.ref I) >>= _) _ _ s;refine Uw (GZ S H (W6 l) λh' f B=>?_);have hL':h'.get? L=some (seqObj "list" (((eO w a ep es).take i).map 7e4).toArray n):=(B.2 L (Ui hIL)).trans hL
  have z:(((eO w a ep es).take i).map 7e4).toArray.size<=100:=by
   rw[UL,U1,US];omega
  show wpAny _ A.in1 (Builtin.List.listUpdate (.ref L) _ >>= _) _ _ _;refine Uw (Xe (s:={s with heap:=h'}) hL' rfl ?_ (Ub z 1e2) (by rw[Array.size_push];exact Ub (Nat.succ_le_succ z) 1e2));have hL2:=Xf hL' (·.push ((eO w a ep es)[i]).2)
  have eL:(((eO w a ep es).take i).map 7e4).toArray.push ((eO w a ep es)[i]).2=(((eO w a ep es).take (i+1)).map 7e4).toArray:=by
   have q:(eO w a ep es).take (i+1)=(eO w a ep es).take i++[(eO w a ep es)[i]]:=by rw[W4,W6 l];rfl
   rw[q,Wo,List.push_toArray];rfl
  rw[eL]at hL2;have h:=VX h' L (Obj.mapSeq (·.push ((eO w a ep es)[i]).2));refine UC ⟨WY Fx.plain_extend_loop _,r (i+1) _ _ 0e1 0e1 ?_ ?_ hL2 λh'' m v M=>?_⟩
  ·refine⟨?_,S.ex,S.hd,S.tab,S.plain,S.led,S.big,S.perm⟩;exact(h.2 a (Ui hLa)).trans ((B.2 a (Ui hIa)).trans S.ho)
  ·exact(h.2 I hIL).trans f
  ·refine hR h'' m (λb u c d q=>v b u c d ?_) M;exact(h.2 b d).trans ((B.2 b c).trans q)
theorem pB{α:Type}{f:α->β}{l m:List β}(h:l.Perm m):∀ps:List α,m=ps.map f->∃qs:List α,qs.Perm ps/\l=qs.map f:=by
 induction h with
 |nil=>
  intro ps e;have:ps=[]:=List.map_eq_nil_iff.mp e.symm;exact⟨[],by rw[this],rfl⟩
 |cons x _ g=>
  intro ps e;cases ps with
  |nil=>cases e
  |cons p ps=>
   rw[Vi]at e;obtain⟨qs,H,c⟩:=g ps (V9 e).2;exact⟨p::qs,H.cons p,by rw[Vi,<- c,(V9 e).1]⟩
 |swap x y l=>
  intro ps e
  match ps,e with
  |p::q::r,e=>
   rw[Vi,Vi]at e;obtain⟨d,B⟩:=V9 e;obtain⟨B,U⟩:=V9 B;exact⟨q::p::r,List.Perm.swap _ _ _,by rw[Vi,Vi,d,B,U]⟩
 |trans _ _ i I=>
  intro ps e;obtain⟨qs,H,c⟩:=I ps e;obtain⟨R,a,b⟩:=i qs c;exact⟨R,a.trans H,b⟩
theorem qR{o es ep t μ}{Q:List Value->Shared->Prop}(j:A.handled=none)(S:eU w 3e3 a ps o es ep t μ)(hz:μ.length<=100)(h:∀qs:List (Int×Value),qs.Perm ps->∀h',(∀b u,s.heap.get? b=some u->h'.get? b=some u)->s.heap.objs.size<=h'.objs.size->Q (qs.map 7e4) {s with heap:=h'}):wpAny 1e7 A (collect 15e7) Q E s:=by
 have l:a<s.heap.objs.size:=T5 S.ho;unfold collect;refine Uw (wpAny_runValue (WV entry_proto_collect' ?_));show wpAny _ _ (do again (.builtin "list.__iadd__" ⟨[<- newList [],.ref a],[]⟩)) _ _ s;refine Uw (Xg (UC ⟨W1 _ 1e1,WV entry_list_iadd' ?_⟩));show wpAny _ _ (Builtin.List.listExtendWith 15e5 15e7 15e5) _ _ {s with heap:=s.heap.push 2e8};have e:eU w (s.heap.push 2e8) a ps o es ep t μ:=⟨UF _ S.ho,S.ex,S.hd,S.tab,S.plain,S.led,S.big,S.perm⟩;unfold Builtin.List.listExtendWith;refine Uw (Ve (iD (s:={s with heap:=s.heap.push 2e8}) e) ?_)
 have hsame:Builtin.List.listSameRef 15e5 15e7=false:=by
  show (s.heap.objs.size == a)=false;simpa using UB l
 rw[hsame,T3 1e2];refine Uw (GY (s:={s with heap:=s.heap.push 2e8}) e ?_);dsimp only;generalize hH:(s.heap.push 2e8).push {cls:=.type "set_iterator",data:=.fields #[.int ((0:Nat):Int) 0,.int ((0:Nat):Int) 0,.ref a,.int (μ.length:Int) 0,.int (ep:Int) 0]}=H2;have eI:(s.heap.push 2e8).objs.size=s.heap.objs.size+1:=by rw[Xh]
 have H:∀b u,s.heap.get? b=some u->H2.get? b=some u:=λb u q=>by rw[<- hH];exact UF _ (UF _ q)
 have f:eU w H2 a ps o es ep t μ:=⟨H a o S.ho,S.ex,S.hd,S.tab,S.plain,S.led,S.big,S.perm⟩;have hL2:H2.get? 0e4=some 2e8:=by rw[<- hH];exact UF _ (T4 _ rfl)
 have hI2:H2.get? 6e4=some {cls:=.type "set_iterator",data:=.fields #[.int ((0:Nat):Int) 0,.int ((0:Nat):Int) 0,.ref a,.int (μ.length:Int) 0,.int (ep:Int) 0]}:=by
  rw[<- hH,<- eI];exact T4 _ rfl
 rw[eI];refine Uw (Ux (Ax (s:={s with heap:=H2}) f ?_));rw[T1 (by rfl)];refine Uw (VO ?_);refine Uw ?_;unfold Builtin.List.listTouch;refine Uw (Xe (s:={s with heap:=H2}) hL2 rfl ?_ (VQ _) 1e2);have hL3:=Xf hL2 (·.push Value.none);refine Xe (s:={s with heap:=H2.update 0e4 (Obj.mapSeq (·.push Value.none))}) hL3 rfl ?_ 1e2 1e2;have hL4:=Xf hL3 (·.pop);have d:=VX H2 0e4 (Obj.mapSeq (·.push Value.none));have c:=(d.trans (VX (H2.update 0e4 (Obj.mapSeq (·.push Value.none))) 0e4 (Obj.mapSeq (·.pop))));generalize hH4:(H2.update 0e4 (Obj.mapSeq (·.push Value.none))).update 0e4 (Obj.mapSeq (·.pop))=H4 at hL4 c;have neL:a≠s.heap.objs.size:=T8 l;have neI:s.heap.objs.size+1≠s.heap.objs.size:=Nat.succ_ne_self _;refine UC ⟨W1 _ 1e1,?_⟩
 refine Ay (by simpa using j) (UB (VH l)) neI (Ui neL) hz (μ.length-0) 0 _ {s with heap:=H4} (by omega) (VQ _)
  ⟨(c.2 a neL).trans f.ho,S.ex,S.hd,S.tab,S.plain,S.led,S.big,S.perm⟩ ?_ (by rw[List.take_zero];exact hL4) λh' m k i=>?_
 ·unfold eF;have g:d3 w μ 0=0:=by unfold d3;split <;> simp
  rw[g];exact(c.2 _ neI).trans hI2
 ·dsimp only;refine Uw (UD i ?_);refine UC ?_;have p:(eO w a ep es).Perm ps:=mz.trans (by rw[S.tab.ents];exact S.perm)
  have n:=h (eO w a ep es) p h' λb u q=>by
   have B:b<s.heap.objs.size:=T5 q;exact k b u (T8 (VH B)) (T8 B) ((c.2 b (T8 B)).trans (H b u q))
  exact n (Uc (T5 i))
theorem AA{ps:List KP}{Q:List Value->Shared->Prop}(i:A.handled=none)(S:cT w 3e3 a ps)(h:∀qs:List KP,qs.Perm ps->∀h',(∀b u,s.heap.get? b=some u->h'.get? b=some u)->s.heap.objs.size<=h'.objs.size->Q (bb qs) {s with heap:=h'}):wpAny 1e7 A (collect 15e7) Q E s:=by
 obtain⟨o,c,e,t,μ,S,d,n⟩:=S;have h15:=xN d n;refine qR i S (by rw[S.len,U1];omega) λqs z h' k K=>?_;obtain⟨R,q,J⟩:=pB z ps rfl;have L:qs.map 7e4=bb R:=by rw[J,V4];rfl
 rw[L];exact h R q h' k K
end
theorem vB.free{t:SetTable}(T:vB t es μ){h:Int}(cov:∀j,j<=t.mask->j∈dk t.mask h)(hz:μ.length<=t.mask)(hA:Nat->Int)(b:∀i,hA i≠h):
  ∃j pre post,t.probe hA h (t.probeStart h)=some (.empty j none)/\j<=t.mask/\j∉μ.map 3e0/\dk t.mask h=pre++j::post/\∀k∈pre,k∈μ.map 3e0:=by
 obtain⟨J,p,a⟩:=wq (m:=t.mask) (l:=μ.map 3e0) (by rw[U1];exact hz);obtain⟨pre,j,post,e,S,P⟩:=lM (λj=>j∉μ.map 3e0) (dk t.mask h) ⟨J,cov J p,a⟩
 have L:(Dn t.mask 14e1 10e1 11e3).length=pre.length+1+post.length:=by
  show (dk t.mask h).length=_;rw[e,U0,VF];omega
 have W:jP t (pre.length+1+post.length) (t.probeStart h)=pre++j::post:=by
  have q:=sV t 14e1 10e1 11e3 none;rw[L]at q;exact q.trans e
 have n:pre.length<10*SetTable.turns t.mask:=by
  have q:=xv t.mask 14e1 10e1 11e3;omega
 have occ:∀k∈pre,k∈μ.map 3e0:=λk d=>Wg λq=>P k d q
 have H:∀k∈pre,∃i,t.slot k=.live i/\hA i≠h:=λk d=>by
  obtain⟨z,M,c⟩:=We.mp (occ k d);obtain⟨i,I⟩:=Wi M;exact⟨i,c ▸ T.slot_live I,b i⟩
 obtain⟨G,g⟩:=xR t hA h pre j post (10*SetTable.turns t.mask) (t.probeStart h) W n rfl H;exact⟨j,pre,post,G (T.slot_empty S),k8 (h:=h) (by rw[e];simp),S,e,occ⟩
abbrev KI:=Int×Tok
def Fd(p:KI):Int×Value:=(hashInt p.1,Value.int p.1 p.2)
def ins:List Int:=[0,1,2,3,4,5]
theorem K9{i:Int}:i∈ins↔0<=i/\i<6:=by
 unfold ins;dsimp[Uh,V0,V1];omega
noncomputable def MC(mask:Nat):Bool:=ins.all λk=>(List.range (mask+1)).all λj=>(dk mask (hashInt k)).contains j
theorem RJ:MC 7=true:=by decide +kernel
theorem Gk:MC 31=true:=by decide +kernel
theorem xZ(h:MC mask=true){k:Int}(d:k∈ins):∀j,j<=mask->j∈dk mask (hashInt k):=λj D=>by
 have a:=WI.mp h k d;have b:=WI.mp a j (Ua.mpr 0e1);simpa using b
theorem wh{a b:Int}(n:a∈ins)(B:b∈ins)(e:hashInt a=hashInt b):a=b:=by
 have key:∀x∈ins,∀y∈ins,hashInt x=hashInt y->x=y:=by decide +kernel
 exact key a n b B e
def eW(w:World)(h:Heap)(a:Addr)(ps:List KI):Prop:=∃o S z t μ,eU w h a (ps.map Fd) o S z t μ/\(∀p∈ps,p.1∈ins)/\(ps.map 3e0).Nodup
theorem oV{ps:List KI}(d:∀p∈ps,p.1∈ins)(n:(ps.map 3e0).Nodup):ps.length<=6:=by
 have:=i2 n (l2:=ins) (λx H=>by obtain⟨p,h,e⟩:=We.mp H;rw[<- e];exact d p h);rw[U1]at this;exact this
theorem eW.keeps{ps:List KI}(S:eW w h a ps)(k:∀o,h.get? a=some o->h'.get? a=some o):eW w h' a ps:=by
 obtain⟨o,e,z,t,μ,S,d,n⟩:=S;exact⟨o,e,z,t,μ,⟨k o S.ho,S.ex,S.hd,S.tab,S.plain,S.led,S.big,S.perm⟩,d,n⟩
theorem S8{o es ep t μ}(S:eU w h a ps o es ep t μ){k:Int}(d:k∈ins):∀j,j<=t.mask->j∈dk t.mask (hashInt k):=by
 rcases S.big with⟨H,c⟩|⟨H,c⟩ <;> rw[H]
 ·exact xZ RJ d
 ·exact xZ Gk d
noncomputable def yT(ps:List KI)(k:Int)(t:Tok):List KI:=if k∈ps.map 3e0 then ps else ps++[(k,t)]
section
theorem vT{a:Addr}{k:Int}{tk:Tok}{ps0:List (Int×Value)}{o es ep t μ}(S:eU w 3e3 a ps0 o es ep t μ){Q:ScanMet->Shared->Prop} :
  ∀(l:List (Int×Value))(n:Nat),(∀e∈l,∃p:KI,e=Fd p/\p.1∈ins)->k∈ins->((∃e∈l,e.1=hashInt k)->∀i,Q (.found i) s)->((∀e∈l,e.1≠hashInt k)->Q .absent s)->wpAny 1e7 A (setScanFrom a (.int k tk) (hashInt k) true l n) Q E s
 |[],n,_,_,H,c=>by
  unfold setScanFrom;exact UC (c λe j=>by simp at j)
 |e::l,n,L,K,H,c=>by
  obtain⟨p,rfl,P⟩:=L e Ue;show wpAny _ _ (setScanFrom a _ _ true ((hashInt p.1,Value.int p.1 p.2)::l) n) _ _ _;unfold setScanFrom;by_cases j:hashInt p.1=hashInt k
  ·rw[T1 (by simpa using j)];have b:=wh P K j;refine Uw (m:=setEpoch a) (wpAny_setEpoch_of S.ho S.hd S.fits ?_);refine Uw (wpAny_eqBool_int ?_);rw[b];dsimp[VD,WN,U9];exact UC (H ⟨_,Ue,j⟩ _)
  ·rw [T3 (by simpa using j)];refine vT S l (n+1) (λx d=>L x (Ug _ d)) K (λ⟨x,d,ex⟩=>H ⟨x,Ug _ d,ex⟩) λd=>c λx h=>?_;rcases Uh.mp h with z|z
   ·rw[z];exact j
   ·exact d x z
theorem LC{k:Int}{tk:Tok}{ps:List KI}{Q:Bool->Shared->Prop}(S:eW w 3e3 a ps)(hk:k∈ins)(h:∀b h',Heap.SameBut a 3e3 h'->eW w h' a (yT ps k tk)->Q b {s with heap:=h'}):wpAny 1e7 A (setAddHashed a (.int k tk) (hashInt k)) Q E s:=by
 obtain⟨o,c,ep,t,μ,S,l,C⟩:=S
 have H:∀e∈c.toList,∃p∈ps,e=Fd p:=λe f=>by
  rw[S.tab.ents]at f;obtain⟨p,d,q⟩:=We.mp (S.perm.mem_iff.mp f);exact⟨p,d,q.symm⟩
 have hto:∀p∈ps,Fd p∈c.toList:=λp d=>by
  rw[S.tab.ents];exact S.perm.mem_iff.mpr (Wj d)
 have hlen6:=oV l C;have hZl:μ.length=ps.length:=by rw[S.len,U1]
 have B:c.size=ps.length:=by rw[S.tab.size.2,hZl]
 have hz:μ.length<=t.mask:=by rcases S.big with⟨q,J⟩|⟨q,J⟩ <;> omega
 unfold setAddHashed setAddHashedIn;refine Ux (Uw 10e4);dsimp only
 have hsc:byScan (Value.int k tk) c=true:=by
  unfold byScan;have h1:decide (c.size<scanBound)=true:=VA (by rw[B];unfold scanBound;omega)
  have h2:c.all (λx=>x.2.scannable)=true:=by
   rw[<- Array.all_toList,WI];intro e f;obtain⟨p,_,rfl⟩:=H e f;rfl
  rw[h1,h2];rfl
 rw[hsc];dsimp[U9];refine Uw ?_;unfold setAddByScan;refine Uw (VO ?_);refine Uw ?_;show wpAny _ _ (setScanFrom a (.int k tk) (hashInt k) true c.toList 0) _ _ _;refine vT S c.toList 0 (λe f=>by obtain⟨p,d,e'⟩:=H e f;exact⟨p,e',l p d⟩) hk (λhex i=>?_) λhno=>?_
 ·obtain ⟨e, f, q⟩ := hex;obtain⟨p,d,rfl⟩:=H e f;have ek:p.1=k:=wh (l p d) hk q;refine UC 8e1
  have q:=h false 3e3 (Heap.SameBut.refl a 3e3) (by
   unfold yT;rw[T1 (by rw[<- ek];exact Wj d)];exact⟨o,c,ep,t,μ,S,l,C⟩)
  cases s;exact q
 ·have U:k∉ps.map 3e0:=λhx=>by
   obtain⟨p,d,e⟩:=We.mp hx;exact hno _ (hto p d) (by rw[<- e];rfl)
  dsimp only;obtain⟨j,pre,post,epr,hj,hn,e,d⟩:=S.tab.free (S8 S hk) hz (λ_=>hashInt k+1) (λ_=>by omega);obtain⟨μ',v,hperm,et⟩:=S.tab.put (x:=Value.int k tk) hj hn e d
  have hfree:t.freeSlot (hashInt k)=some (j,false):=by
   unfold SetTable.freeSlot;rw[epr];rfl
  have L:(t.put j).1.plain=true:=by rw[et];exact S.plain
  have D:(t.put j).1.led=t.led:=by rw[et]
  have hmask:(t.put j).1.mask=t.mask:=by rw[et]
  have hperm':(μ'.map 7e4).Perm ((ps++[(k,tk)]).map Fd):=by
   refine(hperm.map 7e4).trans ?_;rw[Vi,Wo];refine List.Perm.trans (List.Perm.cons _ S.perm) ?_;exact(List.perm_append_singleton _ _).symm
  have hkeys:∀p∈ps++[(k,tk)],p.1∈ins:=λp I=>by
   rcases Uj.mp I with q|q
   ·exact l p q
   ·rw[VR]at q;rw[q];exact hk
  have G:((ps++[(k,tk)]).map 3e0).Nodup:=by
   rw[Wo];refine WQ.mpr ⟨C,by simp,λx hx y hy=>?_⟩;simp at hy;rw[hy];rintro rfl;exact U hx
  have n:=oV hkeys G;have hZ':μ'.length=ps.length+1:=by rw[hperm.length_eq,VF,hZl]
  have z:(SetTable.insertAt c (t.put j).2 (hashInt k,Value.int k tk)).size=μ'.length:=v.size.2;have K:yT ps k tk=ps++[(k,tk)]:=by unfold yT;rw[T3 U]
  rw[K]at h;rw[U0,Vu]at n
  have P:(t.put j).1.fits (SetTable.insertAt c (t.put j).2 (hashInt k,Value.int k tk)).size=true:=by
   unfold SetTable.fits;rw[v.fill,v.size.1,z,hmask];rcases S.big with⟨q,J⟩|⟨q,J⟩ <;> simp[q] <;> omega
  have σ:layNew t c (hashInt k) (.int k tk)=(SetTable.insertAt c (t.put j).2 (hashInt k,Value.int k tk),(t.put j).1,false,false):=by
   unfold layNew;rw[hfree];dsimp only;unfold SetTable.orStandIn;rw[P];rfl
  rw[σ];dsimp only;generalize ht1:(t.put j).1=t1 at *;generalize hes1:SetTable.insertAt c (t.put j).2 (hashInt k,Value.int k tk)=es1 at *;have hline:es1.size<=sizeLine:=by rw[z,hZ'];exact Ub n 1e2
  refine Uw 8e1;refine Uw 8e1;rw[L];dsimp[U9];refine Uw (m:=hashByValue 8 (.int k tk)) 8e1;dsimp[U9];refine Uw (WR S.ho S.hd ?_ hline)
  have hg:(s.heap.update a 14e9).get? a=some {o with data:=.set es1 (ep+1) t1}:=by
   have:=Vk 14e9 S.ho (by rw[WS es1 t1 S.hd];rfl);rw[WS es1 t1 S.hd]at this;exact this
  have r:=VX 3e3 a 14e9;have hfill:t1.fill=ps.length+1:=by rw[v.fill,hZ']
  by_cases hfull:t1.tooFull=true
  ·dsimp[hfull, WT, WN, U9]
   have hm7:t.mask=7/\ps.length=4:=by
    unfold SetTable.tooFull at hfull;rw[hfill,hmask]at hfull;have F:(ps.length+1)*5 ≥ t.mask*3:=by simpa using hfull
    rcases S.big with⟨q,J⟩|⟨q,J⟩
    ·rw[q]at F;exact⟨q,by omega⟩
    ·rw[q]at F;omega
   have u:es1.size=5:=by rw[z,hZ',hm7.2]
   have hgr:SetTable.grown es1.size=20:=by rw[u];rfl
   rw[hgr]
   obtain⟨T,order,μ2,er,T2,V,O,hl2,R,X⟩:=t6 (t:=t1) (es:=es1) (wanted:=20) (mask:=31) (by rfl) (by rw[u];decide) (λe' M=>by
    rw[v.ents]at M;obtain⟨p,I,q⟩:=We.mp (hperm'.mem_iff.mp M);rw[<- q]
    exact xZ Gk (hkeys p I))
   have hZ2:μ2.length=5:=by
    have:=V.length_eq;simp at this;omega
   have g:(order.filterMap (es1[·]?)).size=5:=by rw[T2.size.2,hZ2]
   have W:relayAll t1 es1 20=(order.filterMap (es1[·]?),T,false):=by
    unfold relayAll;rw[er];dsimp only
    have c1:coversAll order es1.size=true:=by
     unfold coversAll;exact List.isPerm_iff.mpr X
    have c2:T.fits (order.filterMap (es1[·]?)).size=true:=by
     unfold SetTable.fits;rw[T2.fill,T2.size.1,g,O,hZ2];rfl
    rw[c1,c2];rfl
   rw[W];dsimp only;refine Uw (Uw (UC 8e1));refine Uw (WR hg rfl ?_ (by rw[g];decide))
   have hg2:((s.heap.update a 14e9).update a (Obj.putSet 13e7 T)).get? a=some {o with data:=.set 13e7 (ep+1+1) T}:=by
    have:=Vk (Obj.putSet 13e7 T) hg (by rw[WS _ T rfl];rfl);rw[WS _ T rfl]at this;exact this
   refine UC 8e1;refine h true _ (r.trans (VX _ a _)) ⟨_,_,_,T,μ2,⟨hg2,S.ex,rfl,T2,by rw[R];exact L,by rw[hl2,D];exact S.led,.inr ⟨O,by omega⟩,?_⟩,hkeys,G⟩;refine V.trans ?_;rw[v.ents];exact hperm'
  ·have F : t1.tooFull = false := by simpa using hfull
   dsimp[F,Vv,VE,U8];refine UC 8e1;refine h true _ r ⟨_,_,_,t1,μ',⟨hg,S.ex,rfl,v,L,by rw[D];exact S.led,?_,hperm'⟩,hkeys,G⟩;unfold SetTable.tooFull at F;rw[hfill,hmask]at F;have N:¬ ((ps.length+1)*5 ≥ t.mask*3):=by simpa using F
   rw[hmask,hZ'];rcases S.big with⟨q,J⟩|⟨q,J⟩
   ·rw[q]at N⊢;exact .inl ⟨rfl,by omega⟩
   ·rw[q]at N⊢;exact .inr ⟨rfl,by omega⟩
end
end RS
namespace L2
open PySem PySem.Spec PyProof.Rows
def QG(e C:Addr)(d:Option Addr):HO:=.ext λh=>∃o,h.get? e=some o/\o.cls=.ref C/\o.dict=d/\W.notCls o=true
structure Tq(X:Cx):Prop where
 ex:X.ex=[]
 stk:X.stack=X.env::X.outer
 fr:X.env.frame=some X.env.locals
structure RO(k:Nat)(A:Around):Prop where
 dp:A.depth+3*k+5<recursionLimit
 un:A.units+16*k+200<cLine
 gd:A.guards=some []
structure RP(P:Program)(w:World)(K:W.Frag)(mg:Str->Option Value)(base:Heap)(CX:Dq)(k:Nat)(f:Addr)(fd:FuncData)(ps:List Str)(sp:Sp):Prop where
 len:∀vs H Q E,sp vs H Q E->vs.length=ps.length
 run:∀(A:Around)(outer:List Env)(s:Shared)(H:Hp)(args:Args)(us:List Value)(vs:List V)(Q:VK)(E:XK),RO k A->Ff P w K mg base A outer s H->BindsTo s fd args (ps.zip us)->bA vs us->sp vs H Q E ->
  codeAny (model P w) A (.call 2e9 args) (CR CX outer P w H s Q E) s
end L2
namespace RS
open PySem
abbrev TK(prog:Program)(w:World):HeapKind prog w 0e5:=tupleKind (intKind prog w)
abbrev XD:=List (List Int×Addr×Value)
def Mw(x:List Int×Addr×Value):DictEntry:=⟨hsh x.1,.ref x.2.1,x.2.2⟩
def DctAt(h:Heap)(a:Addr)(xs:XD)(ep:Nat):Prop:=
 ∃o S,h.get? a=some o/\o.ExactDict/\o.data=.dict S ep/\S.toList=xs.map Mw/\(xs.map 3e0).Nodup
theorem oP{es:Array DictEntry}{xs:XD}(h:es.toList=xs.map Mw):es.toList=xs.map 16e0:=h
section
variable{b:Addr}{xs:XD}{v:Value}
theorem DctAt.keeps(x:DctAt h a xs ep)(e:∀o,h.get? a=some o->h'.get? a=some o):DctAt h' a xs ep:=let ⟨o,es,ho,r⟩:=x;⟨o,es,e o ho,r⟩
theorem DctAt.all(x:DctAt h a xs ep)(k:∀x∈xs,(TK prog w).is h x.1 x.2.1):h.DictOfH (TK prog w) a xs:=let ⟨o,es,h1,h2,h3,h4,h5⟩:=x;⟨o,es,ep,h1,h2,h3,oP h4,k,h5⟩
theorem DctAt.typeIs (x:DctAt 3e3 a xs ep):s.TypeIs 15e7 "dict" := let ⟨o,_,h1,h2,_⟩:=x;⟨o,h1,h2.1⟩
theorem DctAt.new (h:Heap):DctAt (h.push {cls:=.type "dict",data:=.dict #[]}) h.objs.size [] 0:=⟨_,#[],T4 _ rfl,by first|exact⟨rfl,rfl⟩|exact⟨rfl,rfl,rfl⟩|exact⟨rfl,rfl,rfl,rfl⟩,rfl,rfl,Ww⟩
theorem Az(U:(TK prog w).room A)(H:(TK prog w).is 3e3 k b)(m:DctAt 3e3 a xs ep)(S:∀x∈xs,(TK prog w).is 3e3 x.1 x.2.1)(z:xs.length<=sizeLine)(hthere:∀p,atKey xs k=some p->∀tk,Q p.2 {s with toks:=tk})(W:atKey xs k=none->∀h' tk,DctAt h' a (xs++[(k,b,v)]) (ep+1)->Heap.SameBut a 3e3 h'->Q v {s with heap:=h',toks:=tk}):
  wpAny 1e7 A (dictSetDefault a (.ref b) v) Q E s:=by
 obtain⟨o,f,G,C,D,d,n⟩:=m;have c:f.toList=xs.map 16e0:=oP d;unfold dictSetDefault;refine Ux ?_;refine Uw ((TK prog w).pyHash U H ?_);refine Uw (wpAny_dictFind_heap (s:={s with toks:=s.toks+(TK prog w).draws k}) U H G D c S n ?_ ?_)
 ·intro O;have t:k∉xs.map 3e0:=not_mem_keys_of_get O
  refine Uw (VO (Uw (wpAny_updateDictKeys (hz:=by have e:=Xi c;omega) (s:={s with toks:=s.toks+(TK prog w).draws k}) G D (UC (W (atKey_none_of_get O) _ _ ⟨_,_,Vk _ G (Obj.isFreed_of_dict (Obj.data_mapDictKeys D _)),
   C.mapDictKeys _,Obj.data_mapDictKeys D _,?_,?_⟩ (VX ..))))))
  ·show _=(xs++[(k,b,v)]).map 16e0;simp[c,entryOfKey]
  ·rw[Wo,WQ];refine⟨n,by simp,?_⟩;intro x X y σ;dsimp[Vi,Vh,VR]at σ;subst σ;exact λe=>t (e ▸ X)
 ·intro j p J;refine Uw (Xj (s:={s with toks:=s.toks+(TK prog w).draws k}) G D ?_);rw[entry_at c j,J];exact Uw (VO (UC (hthere p (atKey_of_get n J) _)))
theorem yC(U:A.units+1<cLine)(H:(TK prog w).is 3e3 k b)(m:DctAt 3e3 a xs ep)(c:∀x∈xs,(TK prog w).is 3e3 x.1 x.2.1)(z:xs.length<=sizeLine)(D:(a == sysModules)=false)(hthere:∀p,atKey xs k=some p->∀tk,Q p.2 {s with toks:=tk})(W:atKey xs k=none->∀h' tk,DctAt h' a (xs++[(k,b,v)]) (ep+1)->Heap.SameBut a 3e3 h'->Q v {s with heap:=h',toks:=tk}):
  wpAny 1e7 A (call (.builtin "dict.setdefault") [.ref a,.ref b,v]) Q E s:=by
 refine call_meetsIn (S:=λf R g=>(TK prog w).room f.in1/\g=s/\(∀p,atKey xs k=some p->∀tk,R (.ok (.ret p.2)) {s with toks:=tk})/\(atKey xs k=none->∀h' tk,DctAt h' a (xs++[(k,b,v)]) (ep+1)->Heap.SameBut a 3e3 h'->R (.ok (.ret v)) {s with heap:=h',toks:=tk})) Xk m.typeIs PySem.F.entry_dict_setdefault (PySem.F.args_dict_setdefault_3 _ _ _) (.of_wp λf R g ⟨hA,j,l,n⟩=>?_) ⟨?_,rfl,hthere,W⟩
 ·subst j;unfold Builtin.«dict.setdefault»;refine Uw ?_;unfold Builtin.Dict.keyAndDefault;refine Uw (wpAny_notOrdered_dict m.typeIs ?_);show wpAny _ _ (pure (a,Value.ref b,some v)) _ _ _;refine UC ?_;show wpAny _ _ (if (a == sysModules)=true then _ else (dictSetDefault a (.ref b) v >>= _)) _ _ _;rw[T3 (by rw[D];exact UA)];refine Uw (Az hA H m c z (λp P tk=>UC ⟨_,rfl,l p P tk⟩) λN h' tk d e=>UC ⟨_,rfl,n N h' tk d e⟩)
 ·exact tupleKind_room_in1 U
theorem HN(D:(a == sysModules)=false)(m:DctAt 3e3 a xs ep)(hQ:Q 15e5 {s with heap:=s.heap.push {cls:=.type "dict_keyiterator",data:=.fields #[.ref a,.int 0 0,.int 4e8 0,.int ep 0]}}):
  wpAny 1e7 A (pyIter 15e7) Q E s:=by
 obtain⟨o,S,G,c,t,d,n⟩:=id m;have j:S.toList=xs.map 16e0:=oP d;have hT:=m.typeIs;refine wpAny_pyIter_slot hT F.slot_dict_iter (Vd F.slot_dict_iter hT F.entry_dict_iter ?_ (F.args_dict_iter_1 _));unfold Builtin.«dict.__iter__»;refine Uw ?_;unfold Builtin.Dict.dictSlotNone;refine Uw (wpAny_notOrdered_dict hT ?_);show wpAny _ _ (pure (Value.ref a)) _ _ s;refine UC ?_;show wpAny _ _ (Builtin.Dict.showsAll a >>= _) _ _ s;unfold Builtin.Dict.showsAll;rw[T3 (by rw[D];exact UA)];refine Uw 8e1;refine Uw (Xj G t ?_);refine Uw (Xl G t ?_);have z:S.size=xs.length:=Xi j;refine Uw (Vg (UC ⟨_,rfl, "dict_keyiterator",_,⟨_,T4 _ rfl,rfl⟩,Xm.lookup,?_⟩));simpa[rawInt,z] using hQ
theorem HA{x:List Int×Addr×Value}{Q:Option Value->Shared->Prop}(t:s.heap.IsKeyIter it a i 4e8 ep)(m:DctAt 3e3 a xs ep)(X:xs[i]?=some x)
  (hQ:∀h',h'.IsKeyIter it a (i+1) 4e8 ep->Heap.SameBut it 3e3 h'->Q (some (.ref x.2.1)) {s with heap:=h'}) :
  wpAny 1e7 A (pyNext (.ref it)) Q E s:=by
 obtain⟨o,G,C,e⟩:=id t;obtain⟨O,S,D,g,d,f,N⟩:=id m;have j:S.toList=xs.map 16e0:=oP f;unfold pyNext
 refine Uw (W9 (Vb (name:=Str.ofString "__next__") t.typeIs Xm
  (Vd Xm t.typeIs Xn ?_ (Xo _))))
 refine Uw 8e1;refine Uw ?_;refine Uw ?_;refine Uw (Xp t.typeIs 8e1);refine Uw (wpAny_fieldsOf G e ?_);have n:Builtin.Dict_items.ownsTuple "dict_keyiterator" = false:=by decide
 dsimp[n,VE,U8];show wpAny _ _ (if (Value.ref a == Value.none)=true then _ else _) _ _ s;rw[T3 (show ¬ ((Value.ref a == Value.none)=true) from UA)];refine Uw 8e1;refine Uw (Xj D d ?_);have z:S.size=xs.length:=Xi j;rw[T3 (by rw[z];simp)];refine Uw 8e1;refine Uw (Xl D d ?_);rw[T3 0e9];refine UC ?_;have T:i<xs.length:=(Ul.mp X).1;have c:i<S.size:=by rw[z];exact T
 have y:S[i].key=.ref x.2.1:=by
  have:=entry_at j i;rw[X,WH c]at this;have:=TV this;rw[this];rfl
 dsimp[show ¬ ((i:Int)<0) from by omega,U8,U6,WH c];refine Uw ?_;refine Uw (Xp t.typeIs 8e1);refine Uw (wpAny_isOneOf_keyiter t.typeIs ?_);show wpAny _ _ (setField (.ref it) 1 (rawInt ((i:Int)+1)) >>= _) _ _ s;refine Uw (VW G e 0e9 ?_)
 have H:(s.heap.update it (Obj.mapFields (·.setIfInBounds 1 (rawInt ((i:Int)+1))))).IsKeyIter it a (i+1) 4e8 ep:=
  ⟨_,Vk _ G (Obj.isFreed_of_fields (VY e _)),(Obj.cls_mapFields ..).trans C,by rw[VY e];simp[rawInt]⟩
 refine Uw (Ux ?_);refine Uw (wpAny_isOneOf_keyiter (s:={s with heap:=s.heap.update it (Obj.mapFields (·.setIfInBounds 1 (rawInt ((i:Int)+1))))}) H.typeIs ?_);show wpAny _ _ (pure S[i].key) _ _ _;rw[y];exact UC (UC ⟨_,rfl,UC (hQ _ H (VX ..))⟩)
theorem Lo{Q:Option Value->Shared->Prop}(g:A.handled=none)(t:s.heap.IsKeyIter it a i 4e8 ep)(M:DctAt 3e3 a xs ep)(x:xs.length<=i)
  (hQ:∀h',Heap.ExtBut it 3e3 h'->Q none {s with heap:=h'}):wpAny 1e7 A (pyNext (.ref it)) Q E s:=by
 obtain⟨o,G,C,c⟩:=id t;obtain⟨O,S,D,f,d,H,N⟩:=id M;have j:S.toList=xs.map 16e0:=oP H;unfold pyNext
 refine Uw (W9 (Vb (name:=Str.ofString "__next__") t.typeIs Xm
  (Vd Xm t.typeIs Xn ?_ (Xo _))))
 refine Uw 8e1;refine Uw ?_;refine Uw ?_;refine Uw (Xp t.typeIs 8e1);refine Uw (wpAny_fieldsOf G c ?_);have n:Builtin.Dict_items.ownsTuple "dict_keyiterator" = false:=by decide
 dsimp[n,VE,U8];show wpAny _ _ (if (Value.ref a == Value.none)=true then _ else _) _ _ s;rw[T3 (show ¬ ((Value.ref a == Value.none)=true) from UA)];refine Uw 8e1;refine Uw (Xj D d ?_);have z:S.size=xs.length:=Xi j;rw[T3 (by rw[z];simp)];refine Uw 8e1;refine Uw (Xl D d ?_);rw[T3 0e9];refine UC ?_;have e:S.size<=i:=by rw[z];exact x
 dsimp[show ¬ ((i:Int)<0) from by omega,U8,U6,Array.getElem?_eq_none e];refine Uw ?_;refine Uw (Xp t.typeIs 8e1);show wpAny _ _ (setField (.ref it) 0 .none >>= _) _ _ s;refine Uw (VW G c 0e9 ?_);show wpAny _ _ (newExc (.type "StopIteration") [] >>= _) _ _ _;refine Uw ?_;dsimp[newExc,newTuple];refine Uw (Vg ?_ (by size_fits));refine Uw (m:=firstArgMember _ _) 13e1;refine Vg ?_ (by size_fits);dsimp[raiseNew];refine Uw (wpAny_handled ?_);rw[show A.in1.handled=none from g];refine Uw (UC (wpAny_throw ?_));refine Uw (Xd (T:="StopIteration") (b:=true) ⟨_,T4 _ rfl,rfl⟩ isSubtype_stop ?_);exact UC (hQ _ (((VX ..).extBut.push _).push _))
end
end RS
namespace L2
open PySem PySem.Spec PyProof.Rows RS
inductive D where
 |non|bl (b:Bool)|int (i:Int)|str (x:Str)|tup (xs:List D)|frz (xs:List D)|obj (n:Nat)
inductive O where
 |lst (xs:List D)|set (ks:List 0e5)|iset (ks:List Int)|dic|exc (c:Str)|exn (c:Str) (fs:List (Str×Int))|dct (kvs:List 14e4) (ep:Nat)
abbrev aC:=List O
abbrev Ro:=List (Option D)
def LL(K:W.Frag)(H:Hp)(a:Addr)(xs:List V):Prop:=
 (∃ o, H a = some (.frz o 7e5)) \/
  ∃(o:Obj) (i:Array Value) (n:Nat),K.lookup a=some o/\o.cls=.type "list" /\ o.dict=none/\o.data=.seq i n/\i.size<=sizeLine/\bA xs i.toList
theorem LL.sq{xs:List V}(h:LL K H a xs):fK K H a xs:=by
 rcases h with⟨o,h⟩|h
 ·exact .inl (.inr ⟨o,h⟩)
 ·exact .inr h
section
variable(K:W.Frag)(H:Hp)(α:List Addr)
mutual
def aW:D->V->Prop
 |.non,v=>v=.non
 |.bl b,v=>v=.bl b
 |.int i,v=>v=.int i
 |.str x,v=>v=.str x
 |.tup xs,v=>∃a vs,v=.ref a/\gz K H a vs/\Reps xs vs
 |.frz xs,v=>∃a vs,v=.ref a/\LL K H a vs/\Reps xs vs
 |.obj n,v=>∃a,v=.ref a/\α[n]?=some a
def Reps:List D->List V->Prop
 |[],vs=>vs=[]
 |x::xs,vs=>∃v r,vs=v::r/\aW x v/\Reps xs r
end
end
structure ma(K:W.Frag)(H H':Hp)(α α':List Addr):Prop where
 tup:∀a xs,gz K H a xs->gz K H' a xs
 frz:∀a xs,LL K H a xs->LL K H' a xs
 pre:∀(n:Nat) a,α[n]?=some a->α'[n]?=some a
 xds:∀a fs,H a=some (.xd fs)->H' a=some (.xd fs)
section
variable{H' H1 H2:Hp}{α' α1 α2:List Addr}
theorem ma.refl:ma K H H α α:=⟨λ_ _ h=>h,λ_ _ h=>h,λ_ _ h=>h,λ_ _ h=>h⟩
theorem ma.trans(a:ma K H H1 α α1)(b:ma K H1 H2 α1 α2):ma K H H2 α α2:=
 ⟨λc S h=>b.tup c S (a.tup c S h),λc S h=>b.frz c S (a.frz c S h),λn c h=>b.pre n c (a.pre n c h),λc fs h=>b.xds c fs (a.xds c fs h)⟩
mutual
theorem aW.mono(e:ma K H H' α α'):∀{d:D}{v:V},aW K H α d v->aW K H' α' d v
 |.non,_,h=>by dsimp[aW]at h⊢;exact h
 |.bl _,_,h=>by dsimp[aW]at h⊢;exact h
 |.int _,_,h=>by dsimp[aW]at h⊢;exact h
 |.str _,_,h=>by dsimp[aW]at h⊢;exact h
 |.tup xs,_,h=>by
  dsimp[aW]at h⊢;obtain⟨a,vs,rfl,h1,h2⟩:=h;exact⟨a,vs,rfl,e.tup a vs h1,Reps.mono e h2⟩
 |.frz xs,_,h=>by
  dsimp[aW]at h⊢;obtain⟨a,vs,rfl,h1,h2⟩:=h;exact⟨a,vs,rfl,e.frz a vs h1,Reps.mono e h2⟩
 |.obj n,_,h=>by
  dsimp[aW]at h⊢;obtain⟨a,rfl,h1⟩:=h;exact⟨a,rfl,e.pre n a h1⟩
theorem Reps.mono(e:ma K H H' α α'):∀{ds:List D}{vs:List V},Reps K H α ds vs->Reps K H' α' ds vs
 |[],_,h=>by dsimp[Reps]at h⊢;exact h
 |d::ds,_,h=>by
  dsimp[Reps]at h⊢;obtain⟨v,r,rfl,h1,h2⟩:=h;exact⟨v,r,rfl,aW.mono e h1,Reps.mono e h2⟩
end
theorem Reps.nil:Reps K H α [] []:=by dsimp[Reps]
theorem Reps.cons{d:D}{ds:List D}(h:aW K H α d v)(c:Reps K H α ds vs):Reps K H α (d::ds) (v::vs):=by
 dsimp[Reps];exact⟨v,vs,rfl,h,c⟩
theorem Reps.length:∀{ds:List D}{vs:List V},Reps K H α ds vs->vs.length=ds.length
 |[],vs,h=>by dsimp[Reps]at h;rw[h];rfl
 |d::ds,vs,h=>by
  dsimp[Reps]at h;obtain⟨v,r,rfl,a,c⟩:=h;simp[Reps.length c]
theorem Reps.get:∀{ds:List D}{vs:List V}{i:Nat}{d:D},Reps K H α ds vs->ds[i]?=some d->∃v,vs[i]?=some v/\aW K H α d v
 |[],_,_,_,_,e=>by simp at e
 |d::ds,vs,i,x,h,e=>by
  dsimp[Reps]at h;obtain⟨v,r,rfl,a,c⟩:=h;cases i with
  |zero=>simp at e;subst e;exact⟨v,rfl,a⟩
  |succ i=>exact Reps.get (i:=i) c (by simpa using e)
theorem Reps.getV:∀{ds:List D}{vs:List V}{i:Nat}{v:V},Reps K H α ds vs->vs[i]?=some v->∃d,ds[i]?=some d/\aW K H α d v
 |[],vs,_,_,h,e=>by dsimp[Reps]at h;subst h;simp at e
 |d::ds,vs,i,x,h,e=>by
  dsimp[Reps]at h;obtain⟨v,r,rfl,a,c⟩:=h;cases i with
  |zero=>simp at e;subst e;exact⟨d,rfl,a⟩
  |succ i=>exact Reps.getV (i:=i) c (by simpa using e)
theorem Reps.append:∀{ds es:List D}{vs ws:List V},Reps K H α ds vs->Reps K H α es ws->Reps K H α (ds++es) (vs++ws)
 |[],_,vs,_,h,g=>by dsimp[Reps]at h;subst h;exact g
 |d::ds,_,vs,_,h,g=>by
  dsimp[Reps]at h;obtain⟨v,r,rfl,a,c⟩:=h;exact Reps.cons a (Reps.append c g)
theorem Reps.take:∀{ds:List D}{vs:List V}(n:Nat),Reps K H α ds vs->Reps K H α (ds.take n) (vs.take n)
 |[],vs,n,h=>by dsimp[Reps]at h;subst h;simpa using Reps.nil
 |d::ds,vs,n,h=>by
  dsimp[Reps]at h;obtain⟨v,r,rfl,a,c⟩:=h;cases n with
  |zero=>exact Reps.nil
  |succ n=>exact Reps.cons a (Reps.take n c)
theorem Reps.drop:∀{ds:List D}{vs:List V}(n:Nat),Reps K H α ds vs->Reps K H α (ds.drop n) (vs.drop n)
 |[],vs,n,h=>by dsimp[Reps]at h;subst h;simpa using Reps.nil
 |d::ds,vs,n,h=>by
  cases n with
  |zero=>exact h
  |succ n=>
   dsimp[Reps]at h;obtain⟨v,r,rfl,a,c⟩:=h;exact Reps.drop n c
theorem Reps.set{d:D}{v:V}(q:aW K H α d v):∀{ds:List D}{vs:List V}(n:Nat),Reps K H α ds vs->Reps K H α (ds.set n d) (vs.set n v)
 |[],vs,n,h=>by dsimp[Reps]at h;subst h;simpa using Reps.nil
 |e::ds,vs,n,h=>by
  dsimp[Reps]at h;obtain⟨b,r,rfl,a,c⟩:=h;cases n with
  |zero=>exact Reps.cons q c
  |succ n=>exact Reps.cons a (Reps.set q n c)
theorem Reps.eraseIdx:∀{ds:List D}{vs:List V}(n:Nat),Reps K H α ds vs->Reps K H α (ds.eraseIdx n) (vs.eraseIdx n)
 |[],vs,n,h=>by dsimp[Reps]at h;subst h;simpa using Reps.nil
 |e::ds,vs,n,h=>by
  dsimp[Reps]at h;obtain⟨v,r,rfl,a,c⟩:=h;cases n with
  |zero=>exact c
  |succ n=>exact Reps.cons a (Reps.eraseIdx n c)
theorem Reps.one{d:D}(h:Reps K H α [d] vs):∃v,vs=[v]/\aW K H α d v:=by
 dsimp[Reps]at h;obtain⟨v,r,rfl,a,rfl⟩:=h;exact⟨v,rfl,a⟩
theorem Reps.two{d e:D}(h:Reps K H α [d,e] vs):∃v u,vs=[v,u]/\aW K H α d v/\aW K H α e u:=by
 dsimp[Reps]at h;obtain⟨v,r,rfl,a,u,R,rfl,c,rfl⟩:=h;exact⟨v,u,rfl,a,c⟩
theorem Reps.snoc{d:D}{ds:List D}(h:Reps K H α ds vs)(q:aW K H α d v):Reps K H α (ds++[d]) (vs++[v]):=h.append (Reps.cons q Reps.nil)
theorem Reps.ints:∀{ns:List Int}{vs:List V},Reps K H α 12e2 vs->vs=ns.map V.int
 |[],vs,h=>by dsimp[Vh,Reps]at h;exact h
 |n::ns,vs,h=>by
  dsimp[Vi,Reps]at h;obtain⟨v,r,rfl,a,c⟩:=h;dsimp[aW]at a;rw[a,Reps.ints c];rfl
theorem ja:∀(ns:List Int),Reps K H α 12e2 12e1
 |[]=>Reps.nil
 |n::ns=>Reps.cons (by dsimp[aW]) (ja ns)
theorem aQ{xs:List D}:aW K H α (.tup xs) v↔∃a vs,v=.ref a/\gz K H a vs/\Reps K H α xs vs:=by dsimp[aW]
theorem bM{xs:List D}:aW K H α (.frz xs) v↔∃a vs,v=.ref a/\LL K H a vs/\Reps K H α xs vs:=by dsimp[aW]
theorem aU:aW K H α (.obj n) v↔∃a,v=.ref a/\α[n]?=some a:=by dsimp[aW]
theorem ay{n:Int}:aW K H α (.int n) v↔v=.int n:=by dsimp[aW]
theorem bB{n:Bool}:aW K H α (.bl n) v↔v=.bl n:=by dsimp[aW]
theorem dY{n:Str}:aW K H α (.str n) v↔v=.str n:=by dsimp[aW]
theorem cj:aW K H α .non v↔v=.non:=by dsimp[aW]
end
abbrev yI(α:List Addr):List 14e4->RS.XD->Prop:=Paired λ(p:List Int×Nat) (x:List Int×Addr×Value)=>p.1=x.1/\∃b,α[p.2]?=some b/\x.2.2=Value.ref b
theorem yI.low{xs:RS.XD}(r:yI α kvs xs):∀p∈kvs,p.2<α.length:=by
 induction r with
 |nil=>intro p d;cases d
 |cons h _ i=>
  intro p d;rcases Uh.mp d with rfl|d
  ·obtain⟨_,b,e,_⟩:=h;exact(Ul.mp e).1
  ·exact i p d
theorem yI.cut{α':List Addr}{xs:RS.XD}(e:∀m,m<n->α'[m]?=α[m]?)(r:yI α' kvs xs):(∀p∈kvs,p.2<n)->yI α kvs xs:=by
 induction r with
 |nil=>intro _;exact .nil
 |cons h _ I=>
  intro i;obtain⟨a,b,c,d⟩:=h;exact .cons ⟨a,b,by rw[<- e _ (i _ Ue)];exact c,d⟩ (I λp P=>i p (Ug _ P))
def sx(K:W.Frag)(w:World)(H:Hp)(α:List Addr):O->Addr->Prop
 |.lst S,a=>∃y,H a=some (.lst y)/\Reps K H α S y
 |.set k,a=>∃P:List KP,P.map 3e0=k/\H a=some (.ext λh=>cT w h a P)/\(∀p∈P,p.1∈prs)/\(P.map 3e0).Nodup/\∀p∈P,gz K H p.2 (p.1.map V.int)
 |.iset k,a=>∃P:List KI,P.map 3e0=k/\H a=some (.ext λh=>eW w h a P)/\k.length<=6
 |.dic,a=>H a=some (.dK [])
 |.exc c,a=>∃C d,W.nsIn K mainGlobals c=some (some (.ref C))/\H a=some (QG a C d)
 |.exn c fs,a=>∃C d,W.nsIn K mainGlobals c=some (some (.ref C))/\H a=some (QG a C (some d))/\H d=some (.xd (fs.map λp=>(p.1,V.int p.2)))
 |.dct s z,a=>(a == sysModules)=false/\∃S:RS.XD,H a=some (.ext λh=>RS.DctAt h a S z)/\yI α s S/\∀x∈S,gz K H x.2.1 (x.1.map V.int)
structure gK(K:W.Frag)(w:World)(H:Hp)(α:List Addr)(Z:aC):Prop where
 len:α.length=5e2
 nd:α.Nodup
 ob:∀(n:Nat) o a,Z[n]?=some o->α[n]?=some a->sx K w H α o a
section
variable{H':Hp}{α':List Addr}{Z:aC}
theorem sx.live{o:O}(h:sx K w H α o a):H a≠none:=by
 cases o with
 |lst S=>obtain⟨y,e,_⟩:=h;rw[e];exact λz=>by cases z
 |set k=>obtain⟨P,_,e,_⟩:=h;rw[e];exact λz=>by cases z
 |iset k=>obtain⟨P,_,e,_⟩:=h;rw[e];exact λz=>by cases z
 |dic=>have e:H a=some (.dK []):=h;rw[e];exact λz=>by cases z
 |exc c=>obtain⟨C,d,_,e⟩:=h;rw[e];exact λz=>by cases z
 |exn c fs=>obtain⟨C,d,_,e,_⟩:=h;rw[e];exact λz=>by cases z
 |dct s p=>obtain⟨_,S,e,_⟩:=h;rw[e];exact λz=>by cases z
theorem sx.mono{o:O}(h:sx K w H α o a)(e:ma K H H' α α')(n:H' a=H a):sx K w H' α' o a:=by
 cases o with
 |lst S=>obtain⟨y,q,r⟩:=h;exact⟨y,n.trans q,r.mono e⟩
 |set s=>obtain⟨P,d,q,f,i,j⟩:=h;exact⟨P,d,n.trans q,f,i,λp k=>e.tup _ _ (j p k)⟩
 |iset s=>obtain⟨P,d,q,f⟩:=h;exact⟨P,d,n.trans q,f⟩
 |dic=>exact n.trans h
 |exc c=>obtain⟨C,D,d,q⟩:=h;exact⟨C,D,d,n.trans q⟩
 |exn c fs=>obtain⟨C,D,d,q,J⟩:=h;exact⟨C,D,d,n.trans q,e.xds D _ J⟩
 |dct l z=>obtain⟨g,S,q,r,t⟩:=h;exact⟨g,S,n.trans q,mN r λp x ⟨E,b,B,U⟩=>⟨E,b,e.pre _ _ B,U⟩,λx X=>e.tup _ _ (t x X)⟩
theorem gK.at(S:gK K w H α Z){o:O}(e:Z[n]?=some o):∃a,α[n]?=some a/\sx K w H α o a:=by
 have N:n<Z.length:=(Ul.mp e).1;have h:n<α.length:=by rw[S.len];exact N
 exact⟨α[n],W6 h,S.ob n o _ e (W6 h)⟩
theorem gK.live(S:gK K w H α Z)(h:a∈α):H a≠none:=by
 obtain⟨n,N,e⟩:=Xq h;have i:n<Z.length:=by rw[<- S.len];exact N
 exact(S.ob n _ a (W6 i) (by rw[<- e];exact W6 N)).live
theorem gK.fresh(S:gK K w H α Z){p:Addr}(h:H p=none):p∉α:=λz=>S.live z h
theorem gK.same(S:gK K w H α Z)(e:ma K H H' α α)(h:∀a,H a≠none->H' a=H a):gK K w H' α Z:=
 ⟨S.len,S.nd,λn o a b c=>(S.ob n o a b c).mono e (h a (S.ob n o a b c).live)⟩
theorem cx{p:Addr}{o:HO}(h:H p=none):ma K H (cE H p o) α α:=by
 refine⟨λa S q=>?_,λa S q=>?_,λ_ _ z=>z,λa fs q=>by rw[bG (d6 q h)];exact q⟩
 ·rcases q with (q | ⟨x, q⟩) | q
  ·exact .inl (.inl (by rw[bG (d6 q h)];exact q))
  ·exact .inl (.inr ⟨x,by rw[bG (d6 q h)];exact q⟩)
  ·exact .inr q
 ·rcases q with ⟨x, q⟩ | q
  ·exact .inl ⟨x,by rw[bG (d6 q h)];exact q⟩
  ·exact .inr q
theorem iM{p:Addr}{o:HO}(h:H p=some (.lst vs)):ma K H (cE H p o) α α:=by
 refine⟨λa S q=>?_,λa S q=>?_,λ_ _ z=>z,λa fs q=>by rw[bG 7e9];exact q⟩
 ·rcases q with (q | ⟨x, q⟩) | q
  ·exact .inl (.inl (by rw[bG 7e9];exact q))
  ·exact .inl (.inr ⟨x,by rw[bG 7e9];exact q⟩)
  ·exact .inr q
 ·rcases q with ⟨x, q⟩ | q
  ·exact .inl ⟨x,by rw[bG 7e9];exact q⟩
  ·exact .inr q
theorem kZ(b:List Addr):ma K H H α (α++b):=⟨λ_ _ h=>h,λ_ _ h=>h,λn a h=>by rw[UW (Ul.mp h).1];exact h,λ_ _ h=>h⟩
theorem gK.tuple(S:gK K w H α Z){p:Addr}(h:H p=none):gK K w (cE H p (.tup vs)) α Z:=
 S.same (cx h) λa n=>bG λz=>n (by rw[z];exact h)
theorem gK.more(S:gK K w H α Z){p:Addr}{o:O}{ho:HO}(h:H p=none)(q:sx K w (cE H p ho) (α++[p]) o p):gK K w (cE H p ho) (α++[p]) (Z++[o]):=by
 refine⟨by simp[S.len],?_,λn e a b c=>?_⟩
 ·rw[WQ];exact⟨S.nd,by simp,λx X y σ z=>by simp at σ;subst σ;subst z;exact S.fresh h X⟩
 ·by_cases N : n < Z.length
  ·rw[UW N]at b;rw[UW (by rw[S.len];exact N)]at c;exact(S.ob n e a b c).mono ((cx h).trans (kZ [p])) (bG λz=>(S.ob n e a b c).live (by rw[z];exact h))
  ·have d:n=Z.length:=by
    have:=(Ul.mp b).1;simp at this;omega
   subst d;rw[UU 6e3]at b;rw[UU (by rw[S.len];exact UG _),S.len]at c;simp at b c;subst b;subst c;exact q
theorem gK.put(S:gK K w H α Z){xs ys:List D}{us:List V}(h:Z[n]?=some 7e5)(c:α[n]?=some a)(f:H a=some (.lst us))(q:Reps K H α ys vs):gK K w (cE H a (.lst vs)) α (Z.set n (.lst ys)):=by
 have e:=iM (K:=K) (α:=α) (o:=.lst vs) f;refine⟨by simp[S.len],S.nd,λm o b G A=>?_⟩;have N:n<Z.length:=(Ul.mp h).1;by_cases i:m=n
 ·subst i;rw[Uo N]at G;cases G;rw[c]at A;cases A;exact⟨vs,cA,q.mono e⟩
 ·rw[Uq (λz=>i z.symm)]at G;refine(S.ob m o b G A).mono e (bG λz=>i ?_);subst z;have I:=(Ul.mp A);have u:=(Ul.mp c);obtain⟨l1,d⟩:=I;obtain⟨l2,B⟩:=u;exact(Um S.nd).mp (d.trans B.symm)
end
structure dM(K:W.Frag)(H:Hp)(α:List Addr)(ρ:Ro)(Y:St):Prop where
 len:ρ.length=Y.length
 at':∀(i:Nat) d,ρ[i]?=some (some d)->∃v,Y[i]?=some (some v)/\aW K H α d v
theorem dM.mono{H':Hp}{α':List Addr}{ρ:Ro}(e:ma K H H' α α')(R:dM K H α ρ Y):dM K H' α' ρ Y:=
 ⟨R.len,λi d h=>let ⟨v,h1,h2⟩:=R.at' i d h;⟨v,h1,h2.mono e⟩⟩
theorem dM.set{ρ:Ro}{d:D}(R:dM K H α ρ Y)(i:Nat)(q:aW K H α d v):dM K H α (ρ.set i (some d)) (Y.set i (some v)):=by
 refine⟨by simp[R.len],λj a h=>?_⟩;by_cases J:j=i
 ·subst J;have l:j<ρ.length:=by have:=(Ul.mp h).1;simpa using this
  rw[Uo l]at h;cases h;exact⟨v,by rw[Uo (by rw[<- R.len];exact l)],q⟩
 ·rw[Uq (λz=>J z.symm)]at h⊢;exact R.at' j a h
structure DX where
 cls:Str
 args:List (Str×Int)
inductive ah(β:Type) where
 |ok (a:β) (Z:aC)|exc (x:DX) (Z:aC)|bad
def ah.bind{γ:Type}(o:ah β)(g:β->aC->ah γ):ah γ:=match o with
 |.ok a d=>g a d
 |.exc x d=>.exc x d
 |.bad=>.bad
@[simp] theorem aa{γ:Type}{a:β}{Z:aC}{g:β->aC->ah γ}:(ah.ok a Z).bind g=g a Z:=Xr 7e8
inductive SO where
 |next (ρ:Ro) (Z:aC)|ret (d:D) (Z:aC)|brk (ρ:Ro) (Z:aC)|cnt (ρ:Ro) (Z:aC)|exc (x:DX) (Z:aC)|bad
def ah.bindS(o:ah β)(g:β->aC->SO):SO:=match o with
 |.ok a d=>g a d
 |.exc x d=>.exc x d
 |.bad=>.bad
@[simp] theorem ae{a:β}{Z:aC}{g:β->aC->SO}:(ah.ok a Z).bindS g=g a Z:=Xr 7e8
noncomputable def SO.bind(o:SO)(g:Ro->aC->SO):SO:=match o with
 |.next e d=>g e d
 |o=>o
structure Pa where
 K:W.Frag
 w:World
 xw:DX->aC->Hp->List Addr->Prop
abbrev Pa.S(p:Pa):=gK p.K p.w
abbrev Pa.X(p:Pa):=ma p.K
abbrev Pa.R(p:Pa):=aW p.K
abbrev Pa.Rs(p:Pa):=Reps p.K
def aM(p:Pa)(H:Hp)(α:List Addr)(o:ah β)(R:β->aC->Hp->List Addr->Prop):Prop:=match o with
 |.ok a e=>∀f d,p.X H f α d->p.S f d e->R a e f d
 |.exc x e=>∀f d,p.X H f α d->p.S f d e->p.xw x e f d
 |.bad=>False
def gD(p:Pa)(H:Hp)(α:List Addr)(o:SO)(D:sA):Prop:=match o with
 |.next i g=>∀f e h,p.X H f α e->p.S f e g->dM p.K f e i h->D.nx h f
 |.brk i g=>∀f e h,p.X H f α e->p.S f e g->dM p.K f e i h->D.bk h f
 |.cnt i g=>∀f e h,p.X H f α e->p.S f e g->dM p.K f e i h->D.ct h f
 |.ret d g=>∀f e v,p.X H f α e->p.S f e g->p.R f e d v->D.rt v f
 |.exc x g=>∀f e,p.X H f α e->p.S f e g->p.xw x g f e
 |.bad=>False
section
variable{p:Pa}{H1:Hp}{α1:List Addr}{γ:Type}
theorem aM.imp{o:ah β}{R R':β->aC->Hp->List Addr->Prop}(h:aM p H α o R)(k:∀a Z' H' α',p.X H H' α α'->p.S H' α' Z'->R a Z' H' α'->R' a Z' H' α'):aM p H α o R':=by
 cases o with
 |ok a d=>exact λH' α' e s=>k a d H' α' e s (h H' α' e s)
 |exc x d=>exact h
 |bad=>exact h
theorem aM.from{o:ah β}{R:β->aC->Hp->List Addr->Prop}(e:p.X H H1 α α1)(h:aM p H α o R):aM p H1 α1 o R:=by
 cases o with
 |ok a g=>exact λf d E s=>h f d (e.trans E) s
 |exc x g=>exact λf d E s=>h f d (e.trans E) s
 |bad=>exact h
theorem aM.bind{o:ah β}{g:β->aC->ah γ}{R:γ->aC->Hp->List Addr->Prop}(h:aM p H α (o.bind g) R):aM p H α o (λa Z1 H1 α1=>aM p H1 α1 (g a Z1) R):=by
 cases o with
 |ok a f=>exact λi d e s=>aM.from e h
 |exc x f=>exact h
 |bad=>exact h
theorem aM.now{a:β}{Z:aC}{R:β->aC->Hp->List Addr->Prop}(h:aM p H α (.ok a Z) R)(s:p.S H α Z):R a Z H α:=h H α ma.refl s
theorem gD.from{o:SO}{D:sA}(e:p.X H H1 α α1)(h:gD p H α o D):gD p H1 α1 o D:=by
 cases o with
 |next k j=>exact λi f g E s r=>h i f g (e.trans E) s r
 |brk k j=>exact λi f g E s r=>h i f g (e.trans E) s r
 |cnt k j=>exact λi f g E s r=>h i f g (e.trans E) s r
 |ret d j=>exact λi f v E s r=>h i f v (e.trans E) s r
 |exc x j=>exact λi f E s=>h i f (e.trans E) s
 |bad=>exact h
theorem aM.bindS{o:ah β}{g:β->aC->SO}{D:sA}(h:gD p H α (o.bindS g) D):aM p H α o (λa Z1 H1 α1=>gD p H1 α1 (g a Z1) D):=by
 cases o with
 |ok a f=>exact λi d e s=>gD.from e h
 |exc x f=>exact h
 |bad=>exact h
end
abbrev ME:=Ro->aC->ah D
abbrev MT:=Ro->aC->ah Bool
abbrev MA:=Ro->aC->ah (List D)
abbrev MS:=Ro->aC->SO
abbrev MG:=D->Ro->aC->ah Ro
abbrev RV(p:Pa)(Q:VK):D->aC->Hp->List Addr->Prop:=λd _ f e=>∀v,p.R f e d v->Q v f
def tD(p:Pa)(f:ME):TE:=λg H Q=>∃α e d,p.S H α d/\dM p.K H α e g/\aM p H α (f e d) (RV p Q)
def ij(p:Pa)(f:MT):TT:=λh H Q=>∃α e d,p.S H α d/\dM p.K H α e h/\aM p H α (f e d) (λb _ g _=>Q b g)
def oF(p:Pa)(f:MA):TA:=λi H Q=>∃α h g,p.S H α g/\dM p.K H α h i/\aM p H α (f h g) (λs _ e d=>∀y,p.Rs e d s y->Q y e)
def jG(p:Pa)(f:MS):TS:=λD g H=>∃α e d,p.S H α d/\dM p.K H α e g/\gD p H α (f e d) D
def oC(p:Pa)(g:MG):TG:=λv l H Q=>∃α k j d,p.S H α j/\dM p.K H α k l/\p.R H α d v/\aM p H α (g d k j) (λi _ h f=>∀e,dM p.K h f i e->Q e h)
theorem PE.weak{X:Cx}{t t':TE}(h:PE X e t)(k:∀Y H Q,t' Y H Q->t Y H Q):PE X e t':=λP s Y H Q I q=>h P s Y H Q I (k Y H Q q)
theorem PT.weak{X:Cx}{t t':TT}(h:PT X e t)(k:∀Y H Q,t' Y H Q->t Y H Q):PT X e t':=λP s Y H Q I q=>h P s Y H Q I (k Y H Q q)
theorem PW.weak{X:Cx}{t t':TT}(h:PW X e t)(k:∀Y H Q,t' Y H Q->t Y H Q):PW X e t':=λW P s Y H Q I q=>h W P s Y H Q I (k Y H Q q)
theorem PA.weak{X:Cx}{e:List Expr}{t t':TA}(h:PA X e t)(k:∀Y H Q,t' Y H Q->t Y H Q):PA X e t':=λpos P s Y H Q I q=>h pos P s Y H Q I (k Y H Q q)
theorem PS.weak{X:Cx}{e:Stmt}{t t':TS}(h:PS X e t)(k:∀D Y H,t' D Y H->t D Y H):PS X e t':=λP s Y H Q I q=>h P s Y H Q I (k Q Y H q)
theorem l9.weak{X:Cx}{e:List Stmt}{t t':TS}(h:l9 X e t)(k:∀D Y H,t' D Y H->t D Y H):l9 X e t':=λP s Y H Q I q=>h P s Y H Q I (k Q Y H q)
def ao(i:Nat):ME:=λf e=>match f[i]? with
 |some (some d)=>.ok d e
 |_=>.bad
def cC(d:D):ME:=λ_ e=>.ok d e
def aF(op:D->D->aC->ah D)(fa fb:ME):ME:=λf g=>(fa f g).bind λa d=>(fb f d).bind λb e=>op a b e
def vA(op:D->aC->ah D)(fa:ME):ME:=λf e=>(fa f e).bind λa d=>op a d
def aB:MA:=λ_ d=>.ok [] d
def ak(fa:ME)(L:MA):MA:=λf g=>(fa f g).bind λa d=>(L f d).bind λr e=>.ok (a::r) e
def ax(f:List D->aC->ah D)(fa:MA):ME:=λe d=>(fa e d).bind f
def fM(fa:MA):ME:=ax (λs d=>if s.length<=sizeLine then .ok (.tup s) d else .bad) fa
def jf(fa:MA):ME:=ax (λs d=>if s.length<=sizeLine then .ok 10e6 (d++[.lst s]) else .bad) fa
def Iv:D->aC->ah Bool
 |.bl b,d=>.ok b d
 |_,_=>.bad
def il(f:ME):MT:=λe d=>(f e d).bind Iv
def y9(f g:MT):MT:=λe h=>(f e h).bind λb d=>if b=true then g e d else .ok false d
def pT(f g:MT):MT:=λe h=>(f e h).bind λb d=>if b=true then .ok true d else g e d
def eT(f:MT):MT:=λg e=>(f g e).bind λb d=>.ok (!b) d
def i1(f g:ME):ME:=λh i=>(f h i).bind λa d=>(Iv a d).bind λb e=>if b=true then g h e else .ok (.bl false) e
def Co(f:ME):ME:=λh g=>(f h g).bind λa d=>(Iv a d).bind λb e=>.ok (.bl (!b)) e
def R8(c:MT)(f g:ME):ME:=λe h=>(c e h).bind λb d=>if b=true then f e d else g e d
def sg(p:Pa)(op:D->D->aC->ah D)(r:R2):Prop:=∀a b v y H α d Q,p.S H α d->p.R H α a v->p.R H α b y->aM p H α (op a b d) (RV p Q)->r v y H Q
def To(p:Pa)(op:D->aC->ah D)(r:V->Hp->VK->Prop):Prop:=∀a v H α d Q,p.S H α d->p.R H α a v->aM p H α (op a d) (RV p Q)->r v H Q
def yG(p:Pa)(f:List D->aC->ah D)(r:List V->Hp->VK->Prop):Prop:=∀s y H α d Q,p.S H α d->p.Rs H α s y->aM p H α (f s d) (RV p Q)->r y H Q
section
variable{p:Pa}
theorem sU{d:D}{Z:aC}{R:Bool->aC->Hp->List Addr->Prop}(h:aM p H α (Iv d Z) R)(r:p.R H α d v)(s:p.S H α Z):∃b,d=.bl b/\v=.bl b/\R b Z H α:=by
 cases d with
 |bl b=>exact⟨b,rfl,bB.mp r,h.now s⟩
 |non=>exact h.elim
 |int i=>exact h.elim
 |str x=>exact h.elim
 |tup e=>exact h.elim
 |frz e=>exact h.elim
 |obj n=>exact h.elim
variable{X:Cx}{a b c:Expr}{es:List Expr}{fa fb fc:ME}
theorem NG(h:PE X 16e3 (Qk i)):PE X 16e3 (tD p (ao i)):=h.weak λl H Q ⟨α,j,k,S,R,P⟩=>by
 unfold ao at P;cases e:j[i]? with
 |none=>rw[e]at P;exact P.elim
 |some o=>
  rw[e]at P;cases o with
  |none=>exact P.elim
  |some d=>
   obtain⟨v,f,g⟩:=R.at' i d e;exact⟨v,f,P.now S v g⟩
theorem IJ{d:D}(h:PE X e (tC v))(r:∀H α,p.R H α d v):PE X e (tD p (cC d)):=h.weak λi H Q ⟨α,g,f,S,R,P⟩=>P.now S v (r H α)
theorem kE{op:Operator}{o:D->D->aC->ah D}{r:R2}(G:kd X (binaryOp op) r)(q:sg p o r)(A:PE X a (tD p fa))(B:PE X b (tD p fb)):PE X (.BinOp a op b pos) (tD p (aF o fa fb)):=
 (Rg G A B).weak λt H Q ⟨α,g,s,S,R,P⟩=>⟨α,g,s,S,R,P.bind.imp λx e H1 α1 m j h v V=>⟨α1,g,e,j,R.mono m,h.bind.imp λy f l d n k i u U=>q x y v u l d f Q k (V.mono n) U i⟩⟩
theorem NM{o:D->D->aC->ah D}{r:R2}(G:kd X (compareOp op) r)(q:sg p o r)(A:PE X a (tD p fa))(B:PE X b (tD p fb))(M:behindInMarks op b=false):PE X 14e8 (tD p (aF o fa fb)):=
 (Kf G A B M).weak λt H Q ⟨α,g,s,S,R,P⟩=>⟨α,g,s,S,R,P.bind.imp λx e H1 α1 m j h v V=>⟨α1,g,e,j,R.mono m,h.bind.imp λy f l d n k i u U=>q x y v u l d f Q k (V.mono n) U i⟩⟩
theorem Ng{o:D->D->aC->ah D}{r:R2}(O:kd X (compareOp op) r)(G:sg p o r)(C:PE X a (tD p fa))(E:PE X b (tD p fb))(M:behindInMarks op b=false):PT X 14e8 (ij p (il (aF o fa fb))):=
 (J1 O C E M).weak λT H Q ⟨α, i, J, S, R, P⟩ => ⟨α, i, J, S, R, P.bind.bind.imp λx g H1 α1 A s j v V => ⟨α1, i, g, s, R.mono A, j.bind.imp λy h l f B t m u U =>
  G x y v u l f h _ t (V.mono B) U (m.imp λd K L I N w n z μ=>by
   obtain⟨k,_,e,q⟩:=sU n μ w
   exact⟨k,e,q⟩)⟩⟩
theorem Q6{op:UnaryOp}{o:D->aC->ah D}{r:V->Hp->VK->Prop}(G:Sb X (unaryOp op) r)(f:To p o r)(n:PE X a (tD p fa)):PE X (.UnaryOp op a pos) (tD p (vA o fa)):=
 (Rf G n).weak λk H Q ⟨α,j,i,S,R,P⟩=>⟨α,j,i,S,R,P.bind.imp λx d H1 α1 m e h v g=>f x v H1 α1 d Q e g h⟩
theorem NO:PA X [] (oF p aB):=A7.weak λf H Q ⟨α,e,d,S,R,P⟩=>P.now S [] Reps.nil
theorem JS{fr:MA}(A:PE X a (tD p fa))(r:PA X es 16e1)(hs:starEach (a::es) 1e9=(false,eval a 1e9)::starEach es 1e9):PA X (a::es) (oF p (ak fa fr)):=
 (rV A r hs).weak λq H Q ⟨α,e,k,S,R,P⟩=>⟨α,e,k,S,R,P.bind.imp λx d H1 α1 m f h v V=>⟨α1,e,d,f,R.mono m,h.bind.imp λy l o j n g i U u=>i.now g _ (Reps.cons (V.mono n) u)⟩⟩
theorem NH{k:Nat}{fr:MA}(h:PA X es 16e1):PE X (.Tuple es k pos) (tD p (fM fr)):=
 (Ob h).weak λl H Q ⟨α, j, f, S, R, P⟩ => ⟨α, j, f, S, R, P.bind.imp λs g H1 α1 m e d y r => by
  by_cases i:s.length<=sizeLine
  ·rw[T1 i]at d;refine⟨by rw[11e9];exact i,λq z=>?_⟩;exact d _ _ (cx z) (e.tuple z) _ (aQ.mpr ⟨q,y,rfl,gz.of cA,r.mono (cx z)⟩)
  ·rw [T3 i] at d
   exact d.elim⟩
theorem du{Z:aC}{ds:List D}{q:Addr}(S:p.S H α Z)(z:H q=none)(r:p.Rs H α ds vs):
  p.X H (cE H q (.lst vs)) α (α++[q])/\p.S (cE H q (.lst vs)) (α++[q]) (Z++[.lst ds])/\p.R (cE H q (.lst vs)) (α++[q]) 1e4 (.ref q):=by
 have m:p.X H (cE H q (.lst vs)) α (α++[q]):=(cx z).trans (kZ [q]);exact⟨m,S.more z ⟨vs,cA,r.mono m⟩,aU.mpr ⟨q,rfl,by rw[<- S.len];simp⟩⟩
theorem NJ{fr:MA}(h:PA X es 16e1):PE X (.List es pos) (tD p (jf fr)):=
 (Oe h).weak λk H Q ⟨α, j, f, S, R, P⟩ => ⟨α, j, f, S, R, P.bind.imp λs g H1 α1 m e d y r => by
  by_cases i:s.length<=sizeLine
  ·rw[T1 i]at d;refine⟨by rw[11e9];exact i,λq z=>?_⟩;obtain⟨B,G,x⟩:=du e z r;exact d _ _ B G _ x
  ·rw [T3 i] at d
   exact d.elim⟩
variable{ft gt:MT}
theorem M8(n:PT X a (ij p ft))(B:PW X 13e5 (ij p gt)):PW X 11e1 (ij p (y9 ft gt)):=
 (NX n B).weak λi H Q ⟨α, f, g, S, R, P⟩ => ⟨α, f, g, S, R, P.bind.imp λk d H1 α1 m e h => by
  cases k with
  |true=>rw[T1 rfl]at h⊢;exact⟨α1,f,d,e,R.mono m,h⟩
  |false=>rw[T3 UA]at h⊢;exact h.now e⟩
theorem Q2(n:PT X a (ij p ft))(B:PW X (.BoolOp .Or (b::rest) pos) (ij p gt)):PW X (.BoolOp .Or (a::b::rest) pos) (ij p (pT ft gt)):=
 (Rc n B).weak λi H Q ⟨α, f, g, S, R, P⟩ => ⟨α, f, g, S, R, P.bind.imp λk d H1 α1 m e h => by
  cases k with
  |true=>rw[T1 rfl]at h⊢;exact h.now e
  |false=>rw[T3 UA]at h⊢;exact⟨α1,f,d,e,R.mono m,h⟩⟩
theorem Nd(n:PT X a (ij p ft)):PT X (.UnaryOp .Not a pos) (ij p (eT ft)):=
 (NY n).weak λi H Q ⟨α,g,d,S,R,P⟩=>⟨α,g,d,S,R,P.bind.imp λk f H1 α1 m e h=>h.now e⟩
theorem NN(n:PE X a (tD p fa))(B:PE X 13e5 (tD p fb)):PE X 11e1 (tD p (i1 fa fb)):=
 (Oh n B).weak λl H Q ⟨α, h, j, S, R, P⟩ => ⟨α, h, j, S, R, P.bind.imp λd g H1 α1 m f i v r => by
  obtain⟨k,_,e,q⟩:=sU i.bind r f;refine⟨k,e,?_⟩;cases k with
  |true=>rw[T1 rfl]at q⊢;exact⟨α1,h,g,f,R.mono m,q⟩
  |false=>rw[T3 UA]at q⊢;exact q.now f _ (bB.mpr rfl)⟩
theorem NI(n:PE X a (tD p fa)):PE X (.UnaryOp .Not a pos) (tD p (Co fa)):=
 (Od n).weak λl H Q ⟨α, j, g, S, R, P⟩ => ⟨α, j, g, S, R, P.bind.imp λd i H1 α1 m f h v r => by
  obtain⟨k,_,e,q⟩:=sU h.bind r f
  exact⟨k,e,q.now f _ (bB.mpr rfl)⟩⟩
theorem Q8(i:PT X c (ij p ft))(n:PE X a (tD p fa))(B:PE X b (tD p fb)):PE X (.IfExp c a b pos) (tD p (R8 ft fa fb)):=
 (Hr i n B).weak λj H Q ⟨α, e, g, S, R, P⟩ => ⟨α, e, g, S, R, P.bind.imp λk d H1 α1 m f h => by
  cases k with
  |true=>rw[T1 rfl]at h⊢;exact⟨α1,e,d,f,R.mono m,h⟩
  |false=>rw[T3 UA]at h⊢;exact⟨α1,e,d,f,R.mono m,h⟩⟩
theorem G5{id:String}{f:List D->aC->ah D}{fr:MA}{r:List V->Hp->VK->Prop}(i:cY X 16e4 r)(g:yG p f r)(σ:Gl X x)(m:X.mg x=none)(v:bootBuiltins x=some 16e4)(n:PA X (a::es) 16e1)(N:x ≠ "__name__")(B:(x == ("__debug__" : Str))=false)(j:starEach (a::es) 1e9=(false,eval a 1e9)::starEach es 1e9)(L:(backTo pos 7e1).any 3e0=false):PE X 12e7 (tD p (ax f fr)):=
 (zK i σ m v n N B j L).weak λt H Q ⟨α,o,l,S,R,P⟩=>⟨α,o,l,S,R,P.bind.imp λs d H1 α1 q e h y k=>g s y H1 α1 d Q e k h⟩
theorem DT{T:String}{f:List D->aC->ah D}{fr:MA}{r:List V->Hp->VK->Prop}(i:cY X (.type T) r)(g:yG p f r)(σ:Gl X x)(m:X.mg x=none)(v:bootBuiltins x=some (.type T))(n:PA X (a::es) 16e1)(N:x ≠ "__name__")(B:(x == ("__debug__" : Str))=false)(j:starEach (a::es) 1e9=(false,eval a 1e9)::starEach es 1e9)(L:(backTo pos 7e1).any 3e0=false):PE X 12e7 (tD p (ax f fr)):=
 (vX i σ m v n N B j L).weak λt H Q ⟨α,o,l,S,R,P⟩=>⟨α,o,l,S,R,P.bind.imp λs d H1 α1 q e h y k=>g s y H1 α1 d Q e k h⟩
end
def bJ(f:ME):MS:=λj i=>(f j i).bindS λd h=>.ret d h
def cz:MS:=λh d=>.next h d
def w4:MS:=λ_ _=>.bad
def a8(f g:MS):MS:=λh d=>(f h d).bind g
def l8(c:MT)(f g:MS):MS:=λh i=>(c h i).bindS λb d=>if b=true then f h d else g h d
def bC(f:ME)(g:MG):MS:=λk l=>(f k l).bindS λd h=>(g d k h).bindS λj i=>.next j i
def gC(f:ME):MS:=λh i=>(f h i).bindS λ_ d=>.next h d
def uV(i:Nat)(op:D->D->aC->ah D)(f:ME):MS:=λk l=>(ao i k l).bindS λa d=>(f k d).bindS λb h=>(op a b h).bindS λc j=>.next (k.set i (some c)) j
def ai(i:Nat):MG:=λd j h=>.ok (j.set i (some d)) h
abbrev IH:=List D->Ro->aC->ah Ro
def cv:IH:=λs h d=>match s with
 |[]=>.ok h d
 |_::_=>.bad
def aR(g:MG)(u:IH):IH:=λs k j=>match s with
 |[]=>.bad
 |d::r=>(g d k j).bind λi h=>u r i h
def cu(n:Nat)(u:IH):MG:=λd i h=>match d with
 |.tup S=>if S.length=n then u S i h else .bad
 |_=>.bad
noncomputable def Dt(o i v:D)(Z:aC):ah Unit:=match o,i with
 |.obj n,.int k=>match Z[n]? with
  |some 12e4=>match AG S.length k with
   |some j=>.ok () (Z.set n (.lst (S.set j v)))
   |none=>.bad
  |_=>.bad
 |_,_=>.bad
def qJ(fo fi:ME):MG:=λd k l=>(fo k l).bind λo h=>(fi k h).bind λi j=>(Dt o i d j).bind λ_ K=>.ok k K
def yK(p:Pa)(g:IH):IF:=λy n H Q=>∃h m l s,p.S H h l/\dM p.K H h m n/\p.Rs H h s y/\aM p H h (g s m l) (λj _ k i=>∀d,dM p.K k i j d->Q d k)
theorem PG.weak{X:Cx}{t t':TG}(h:PG X e t)(k:∀v Y H Q,t' v Y H Q->t v Y H Q):PG X e t':=λP s Y H v u Q I r q=>h P s Y H v u Q I r (k v Y H Q q)
theorem AJ.weak{X:Cx}{e:List Expr}{t t':IF}(h:AJ X e t)(k:∀v Y H Q,t' v Y H Q->t v Y H Q):AJ X e t':=λP s Y H v u Q I r q=>h P s Y H v u Q I r (k v Y H Q q)
theorem PI.weak{X:Cx}{t t':TI}(h:PI X tg e t)(k:∀Y H R,t' Y H R->t Y H R):PI X tg e t':=λP s Y H Q I q=>h P s Y H Q I (k Y H Q q)
section
variable{p:Pa}{X:Cx}{a b c:Expr}{es:List Expr}{f:ME}{g:MG}{u:IH}{sts:List Stmt}{fs gs:MS}{ft:MT}
theorem Nl:l9 X [] (jG p cz):=J3.weak λD d H ⟨h,j,i,S,R,P⟩=>P H h d ma.refl S R
theorem G0{t u:TS}{D:sA}{Y:St}{H:Hp}{α:List Addr}{o:SO}{k:MS}(h:gD p H α (o.bind k) D)
  (K:∀D Y H,jG p k D Y H->u D Y H):gD p H α o {D with nx:=u D}:=by
 cases o with
 |next l i=>exact λn j m e s r=>K _ _ _ ⟨j,l,i,s,r,gD.from e h⟩
 |brk l i=>exact h
 |cnt l i=>exact h
 |ret d i=>exact h
 |exc x i=>exact h
 |bad=>exact h
theorem Jw(h:PS X st (jG p fs))(i:l9 X sts (jG p gs)):l9 X (st::sts) (jG p (a8 fs gs)):=
 (Hf h i).weak λD d H ⟨j,l,k,S,R,P⟩=>⟨j,l,k,S,R,G0 (t:=jG p fs) (Y:=d) P λ_ _ _ z=>z⟩
theorem Nk(H:PS X st (jG p fs)):l9 X [st] (jG p fs):=J2 H
theorem Nj(h:PE X e (tD p f)):PS X (.Return (some e) pos) (jG p (bJ f)):=
 (N0 h).weak λD t H ⟨m,q,n,S,R,P⟩=>⟨m,q,n,S,R,(aM.bindS P).imp λd o j i s l k v r=>k j i v ma.refl l r⟩
theorem GF:PS X st (jG p w4):=Hh.weak λD j H ⟨h,i,d,S,R,P⟩=>P
theorem Q3{A B:List Stmt}(C:PT X c (ij p ft))(n:l9 X A (jG p fs))(o:l9 X B (jG p gs)):PS X (.If c A B pos) (jG p (l8 ft fs gs)):=
 (Re C n o).weak λD t H ⟨q, j, r, S, R, P⟩ => ⟨q, j, r, S, R, (aM.bindS P).imp λk d s i m l h => by
  cases k with
  |true=>rw[T1 rfl]at h⊢;exact⟨i,j,d,l,R.mono m,h⟩
  |false=>rw[T3 UA]at h⊢;exact⟨i,j,d,l,R.mono m,h⟩⟩
theorem z9{D:sA}(h:jG p (bC f g) D Y H):E5 (tD p f) (oC p g) D Y H:=by
 obtain⟨x,m,y,S,R,P⟩:=h;exact⟨x,m,y,S,R,(aM.bindS P).imp λd k B i t r o v V=>⟨i,m,k,d,r,R.mono t,V,(aM.bindS o).imp λA z n j C s q l w=>q n j l ma.refl s w⟩⟩
theorem Nq(j:PE X e (tD p f))(σ:PG X tg (oC p g))(hs:swapsWithSole [tg] e pos.line 1e9=pure false)(W:swappedStores [tg] e 1e9=pure none)
  (d:(assignEach [tg] 1e9).map 7e4=[assign tg 1e9]):PS X (.Assign [tg] e pos) (jG p (bC f g)):=(N3 j σ hs W d).weak λD i H h=>z9 h
theorem ua{Q:St->Hp->Prop}(h:oC p (ai i) v Y H Q):y3 i v Y H Q:=by
 obtain⟨j,l,k,d,S,R,r,P⟩:=h;exact P.now S _ (R.set i r)
theorem JL(hN:X.N.Nodup)(hi:X.N[i]?=some x)(d:E3 X.env.scope x)(F:X.fn x=true\/X.env.scope.names.lookup x=some .local):PG X 16e3 (oC p (ai i)):=
 (Ka hN hi d F).weak λv j H Q h=>ua h
theorem Ni(hN:X.N.Nodup)(hi:X.N[i]?=some x)(k:E3 X.env.scope x)(E:PE X e (tD p f))(hs:swapsWith e (some (.Name x pos')) pos.line 1e9=pure false)(F:X.fn x=true\/X.env.scope.names.lookup x=some .local):
  PS X (.Assign [.Name x pos'] e pos) (jG p (bC f (ai i))):=(NZ hN hi k E hs F).weak λD y H h=>by
 obtain⟨l,q,n,S,R,P⟩:=z9 h;exact⟨l,q,n,S,R,P.imp λd o s m w t j v r=>ua (j v r)⟩
theorem Jv(E:PE X e (tD p f))(hs:swapsWith e none pos.line 1e9=pure false):PS X (.Expr e pos) (jG p (gC f)):=
 (J5 E hs).weak λD r H ⟨l,q,n,S,R,P⟩=>⟨l,q,n,S,R,(aM.bindS P).imp λd o h i m k j v V=>j h i r ma.refl k (R.mono m)⟩
theorem JK:AJ X [] (yK p cv):=J9.weak λy h H Q ⟨i,k,j,s,S,R,r,P⟩=>by
 cases s with
 |nil=>dsimp[Reps]at r;exact⟨r,P.now S h R⟩
 |cons d s=>exact P.elim
theorem GV(t:PG X e (oC p g))(w:AJ X es (yK p u))(hs:(assignEach (e::es) 1e9).map 7e4=assign e 1e9::(assignEach es 1e9).map 7e4):AJ X (e::es) (yK p (aR g u)):=
 (Ho t w hs).weak λC E H Q ⟨z, l, k, s, S, R, r, P⟩ => by
  cases s with
  |nil=>exact P.elim
  |cons d s=>
   dsimp[Reps]at r;obtain⟨v,V,rfl,y,M⟩:=r;refine⟨v,V,rfl,z,l,k,d,S,R,y,?_⟩;exact(aM.bind (o:=g d l k) P).imp λj h B i q n m A x=>⟨i,j,h,s,n,x,M.mono q,m⟩
theorem NC{k:Nat}(hK:X.K=p.K)(C:X.calm=true)(h:AJ X es (yK p u))(N:(assignEach es 1e9).length=n)(t:(assignEach es 1e9).findIdx? 3e0=none):PG X (.Tuple es k pos) (oC p (cu n u)):=
 (N8 C h N t).weak λv z H Q ⟨o, w, q, d, S, R, r, P⟩ => by
  cases d with
  |tup s=>
   obtain⟨a,V,rfl,y,m⟩:=aQ.mp r;have j:aM p H o (if s.length=n then u s w q else .bad) _:=P;by_cases l:s.length=n
   ·rw[T1 l]at j;exact⟨a,V,rfl,by rw[hK];exact y,by rw[m.length];exact l,o,w,q,s,S,R,m,j⟩
   ·rw[T3 l]at j;exact j.elim
  |non=>exact P.elim
  |bl b=>exact P.elim
  |int i=>exact P.elim
  |str x=>exact P.elim
  |frz s=>exact P.elim
  |obj n=>exact P.elim
theorem JN{o i d:D}{Z:aC}{R:Unit->aC->Hp->List Addr->Prop}{vo vi:V}(S:p.S H α Z)(O:p.R H α o vo)(I:p.R H α i vi)(l:p.R H α d v)(P:aM p H α (Dt o i d Z) R):
  LW vo vi v H λH'=>∃Z',p.X H H' α α/\p.S H' α Z'/\R () Z' H' α:=by
 unfold Dt at P;split at P
 ·rename_i n k;split at P
  ·rename_i x h;split at P
   ·rename_i j J;obtain⟨a,A,U,hH,r⟩:=S.at h;obtain⟨m,rfl,E⟩:=aU.mp O;rw[A]at E;cases E;rw[ay.mp I];have q:=r.set l j;refine⟨a,U,k,j,rfl,rfl,hH,by rw[11e9];exact J,_,iM hH,S.put h A hH q,?_⟩;exact P _ _ (iM hH) (S.put h A hH q)
   ·exact P.elim
  ·exact P.elim
 ·exact P.elim
theorem ND{o i:Expr}{fo fi:ME}(G:PE X o (tD p fo))(hi:PE X i (tD p fi))
  (A : ∀ v, assign (.Subscript o i pos) 1e9 v = (do
   let ov <- holding [v] (eval o 1e9)
   let iv <- holding [v,ov] (eval i 1e9)
   standAt pos
   holding [v,ov,iv] (setItem ov iv v)
   release [v,ov,iv] [])):PG X (.Subscript o i pos) (oC p (qJ fo fi)):=
 (N9 G hi GX A).weak λv D H Q ⟨M, s, T, d, S, R, r, P⟩ => ⟨M, s, T, S, R, (aM.bind P).imp λW l V h m x t vo O => ⟨h, s, l, x, R.mono m, (aM.bind t).imp λid σ F N n y w vi I => by
  obtain⟨C,L,k,j,E,B,U,z,μ,K,J,q⟩:=JN y (O.mono n) I ((r.mono m).mono n) (aM.bind w)
  exact⟨C,L,k,j,E,B,U,z,q.now J D (((R.mono m).mono n).mono K)⟩⟩⟩
theorem Np{op:Operator}{o:D->D->aC->ah D}{r:R2}(hN:X.N.Nodup)(hi:X.N[i]?=some x)(U:E3 X.env.scope x)(T:PE X e (tD p f))(O:Se X op r)(Q:sg p o r)(F:X.fn x=true\/X.env.scope.names.lookup x=some .local):
  PS X (.AugAssign (.Name x pos') op e pos) (jG p (uV i o f)):=(N2 hN hi U T O F).weak λD W H ⟨q,k,s,S,R,P⟩=>by
 unfold uV ao at P;cases E:k[i]? with
 |none=>rw[E]at P;exact P.elim
 |some σ=>
  rw[E]at P;cases σ with
  |none=>exact P.elim
  |some d=>
   obtain⟨v,L,M⟩:=R.at' i d E;have B:gD p H q ((f k s).bindS λb h=>(o d b h).bindS λc j=>.next (k.set i (some c)) j) D:=P;refine⟨v,L,q,k,s,S,R,(aM.bindS B).imp λy h w l n I C u V=>?_⟩;exact Q d y v u w l h _ I (M.mono n) V ((aM.bindS C).imp λz j A m K J G t μ=>G A m _ ma.refl J (((R.mono n).mono K).set i μ))
end
inductive n3 where
 |fix (xs:List D)|own (n:Nat) (xs:List D)|eno (n:Nat) (xs:List D)|dks (n:Nat) (kvs:List 14e4) (ep:Nat)
def dq:Nat->List D->List D
 |_,[]=>[]
 |i,x::r=>.tup [.int i,x]::dq (i+1) r
theorem wz:∀{xs:List D}{k i:Nat},(dq k xs)[i]?=(xs[i]?).map λx=>D.tup [.int ((k+i:Nat):Int),x]
 |[],_,_=>by simp[dq]
 |x::r,k,0=>by simp[dq]
 |x::r,k,i+1=>by
  dsimp[dq,List.getElem?_cons_succ];rw[wz (xs:=r) (k:=k+1) (i:=i)];congr 1;funext y;congr 4;omega
theorem wy:∀{xs:List D}{k:Nat},(dq k xs).length=4e8
 |[],_=>rfl
 |x::r,k=>by simp[dq,wy (xs:=r)]
noncomputable def n3.items:n3->List D
 |.fix S=>S
 |.own _ S=>S
 |.eno _ S=>dq 0 S
 |.dks _ d _=>d.map λp=>.tup (p.1.map D.int)
def bK:n3->aC->Prop
 |.fix _,_=>True
 |.own n S,d=>d[n]?=some 12e4
 |.eno n S,d=>d[n]?=some 12e4
 |.dks n k z,d=>d[n]?=some (.dct k z)
def yU(p:Pa)(J:It)(src:n3)(m:Hp)(k:List Addr):Prop:=
 ∀l h j,p.X m l k h->p.S l h j->bK src j ->
  (∀(i:Nat) d,src.items[i]?=some d->J.go i l/\∀x H,J.yld i l x H->p.X l H h h/\p.S H h j/\p.R H h d x)/\J.stop src.items.length l
abbrev MI:=Ro->aC->ah n3
def qD(p:Pa)(f:MI):TI:=λm H R=>∃h l k,p.S H h k/\dM p.K H h l m/\aM p H h (f l k) (λs i j d=>∀J,bK s i->yU p J s j d->R J j)
noncomputable def SO.loop(o:SO)(k:Ro->aC->SO):SO:=match o with
 |.next i h=>k i h
 |.cnt i h=>k i h
 |.brk i h=>.next i h
 |.ret d h=>.ret d h
 |.exc x h=>.exc x h
 |.bad=>.bad
open Classical in
def dg(src:n3)(g:MG)(fb:MS):List D->Ro->aC->SO
 |[],j,h=>if bK src h then .next j h else .bad
 |d::r,j,h=>if bK src h then (g d j h).bindS λk i=>(fb k i).loop (dg src g fb r) else .bad
def kT(fi:MI)(g:MG)(fb:MS):MS:=λh i=>(fi h i).bindS λs d=>dg s g fb s.items h d
def jS(c:MT)(fb:MS):Nat->Ro->aC->SO
 |0,_,_=>.bad
 |n+1,h,i=>(c h i).bindS λb d=>if b=true then (fb h d).loop (jS c fb n) else .next h d
def pW(n:Nat)(c:MT)(fb:MS):MS:=jS c fb n
section
variable{p:Pa}{X:Cx}{c:Expr}{fi:MI}{g:MG}{fb:MS}{ft:MT}
theorem v9{o:SO}{k:Ro->aC->SO}{D:sA}{N:St->Hp->Prop}(h:gD p H α (o.loop k) D)(hN:∀ρ Z H' α' Y',p.X H H' α α'->p.S H' α' Z->dM p.K H' α' ρ Y'->gD p H' α' (k ρ Z) D->N Y' H'):gD p H α o {D with nx:=N,ct:=N,bk:=D.nx}:=by
 cases o with
 |next ρ Z=>exact λH' α' Y' e s r=>hN ρ Z H' α' Y' e s r (gD.from e h)
 |cnt ρ Z=>exact λH' α' Y' e s r=>hN ρ Z H' α' Y' e s r (gD.from e h)
 |brk ρ Z=>exact h
 |ret d Z=>exact h
 |exc x Z=>exact h
 |bad=>exact h
theorem Nn(hp:PassesOwn 1e5 X.A 1e9 X.xe)(hc:X.calm=true)(hi:PI X tg iter (qD p fi))(hg:PG X tg (oC p g))(hb:l9 X body (jG p fb))(hs:∀x,foldedSetIterable iter 1e9 x=pure x) :
  PS X (.For tg iter body [] pos) (jG p (kT fi g fb)):=(N1 hp hc hi hg hb hs).weak λD Y H ⟨α,T,Z,S,R,P⟩=>by
 refine⟨α,T,Z,S,R,(aM.bindS P).imp λs C Q n X1 S1 σ J hok hJ=>?_⟩
 refine⟨λi m o l=>m=s.items.length-i/\i<=s.items.length/\∃d j h,p.X Q l n d/\p.S l d h/\dM p.K l d j o/\gD p l d (dg s g fb (s.items.drop i) j h) D,
  ⟨_,rfl,VQ _,n,T,C,ma.refl,S1,R.mono X1,by simpa using σ⟩,?_⟩
 rintro i m o l ⟨rfl,hi,d,j,h,y,v,R2,k⟩
 by_cases t:i<s.items.length
 ·rw [Xu t] at k;unfold dg at k;by_cases G:bK s h
  ·rw [T1 G] at k;obtain⟨O,hy⟩:=(hJ l d h y v G).1 i _ (W6 t)
   refine .inr ⟨O,λr q=>i+1<=s.items.length/\∃d j h,p.X Q q n d/\p.S q d h/\dM p.K q d j r/\gD p q d (dg s g fb (s.items.drop (i+1)) j h) D,
    λr q ⟨h1,h2⟩=>⟨_,by omega,rfl,h1,h2⟩,λx U yx=>?_⟩
   obtain⟨N,S3,F⟩:=hy x U yx;refine⟨d,j,h,_,S3,R2.mono N,F,(aM.from N (aM.bindS k)).imp λL E H4 z X4 S4 μ Y4 W=>⟨z,L,E,S4,W,v9 μ λM I H5 B Y5 X5 S5 R5 V=>⟨t,B,M,I,((y.trans N).trans X4).trans X5,S5,R5,V⟩⟩⟩
  ·rw[T3 G]at k;exact k.elim
 ·have e : i = s.items.length := by omega
  subst e;rw[Xv]at k;unfold dg at k;by_cases G:bK s h
  ·rw[T1 G]at k;exact .inl ⟨(hJ l d h y v G).2,k l d o ma.refl v R2⟩
  ·rw[T3 G]at k;exact k.elim
theorem GD(Q:PassesOwn 1e5 X.A 1e9 X.xe)(L:PT X c (ij p ft))(J:l9 X body (jG p fb)):PS X (.While c body [] pos) (jG p (pW n ft fb)):=
 (Hg Q L J).weak λD W H ⟨T, σ, U, S, R, P⟩ => by
  refine⟨λm l r=>∃d j i,p.S r d i/\dM p.K r d j l/\gD p r d (jS ft fb m j i) D,⟨n,T,σ,U,S,R,P⟩,?_⟩
  rintro m l r ⟨d,j,i,E,R2,t⟩
  cases m with
  |zero=>exact t.elim
  |succ m=>
   unfold jS at t;refine⟨d,j,i,E,R2,(aM.bindS t).imp λk v z I N y s=>?_⟩;cases k with
   |true=>
    rw[T1 rfl]at s⊢
    exact⟨λo q=>∃d j i,p.S q d i/\dM p.K q d j o/\gD p q d (jS ft fb m j i) D,λo q h=>⟨m,VG _,h⟩,
     I,j,v,y,R2.mono N,v9 s λM x O B μ F G C V=>⟨B,M,x,G,C,V⟩⟩
   |false=>
    rw[T3 UA]at s⊢;exact s z I l ma.refl y (R2.mono N)
end
section
variable{p:Pa}{X:Cx}
theorem Eg{Z:aC}{xs:List D}(S:p.S H α Z)(N:Z[n]?=some 7e5)(A:α[n]?=some a):yU p (Sg p.K a) (.own n xs) H α:=by
 intro q m o j h G;obtain⟨t,E,y,hH,R⟩:=h.at G;rw[j.pre n a A]at E;cases E;refine⟨λi d k=>?_,y,fK.of hH,by rw[R.length];exact UG _⟩;obtain⟨v,V,r⟩:=R.get k;refine⟨⟨y,v,fK.of hH,V⟩,λx s ⟨e,l⟩=>?_⟩;subst e;have:=l y (fK.of hH);rw[V]at this;cases this;exact⟨ma.refl,h,r⟩
theorem HL{xs:List D}(h:LL p.K H a vs)(r:p.Rs H α xs vs):yU p (Sg p.K a) (.fix xs) H α:=by
 intro t q s n S G;have j:=(n.frz a vs h).sq;have R:=r.mono n;refine⟨λi d l=>?_,vs,j,by rw[R.length];exact UG _⟩;obtain⟨v,k,o⟩:=R.get l;refine⟨⟨vs,v,j,k⟩,λx w ⟨e,m⟩=>?_⟩;subst e;have:=m vs j;rw[k]at this;cases this;exact⟨ma.refl,S,o⟩
theorem HK{xs:List D}(h:gz p.K H a vs)(r:p.Rs H α xs vs):yU p (Sv p.K a) (.fix xs) H α:=by
 intro t q s n S G;have j:=n.tup a vs h;have R:=r.mono n;refine⟨λi d l=>?_,vs,j,by rw[R.length];exact UG _⟩;obtain⟨v,k,o⟩:=R.get l;refine⟨⟨vs,v,j,k⟩,λx w ⟨e,m⟩=>?_⟩;subst e;have:=m vs j;rw[k]at this;cases this;exact⟨ma.refl,S,o⟩
noncomputable def bR(lo:Int)(n:Nat):List D:=(List.range n).map λ(i:Nat)=>D.int (lo+(i:Int))
theorem zX(lo:Int)(n:Nat):yU p (PZ lo n) (.fix (bR lo n)) H α:=by
 intro m k l q S G;refine⟨λi d D=>?_,by simp[n3.items,bR,PZ]⟩;have h:(bR lo n)[i]?=some d:=D;unfold bR at h;rw[UX]at h;by_cases I:i<n
 ·rw[Xw I]at h;cases h;refine⟨I,λx o ⟨e,j⟩=>?_⟩;subst e;subst j;exact⟨ma.refl,S,ay.mpr rfl⟩
 ·rw[Xx 16e6]at h;cases h
def wZ(d:D)(Z:aC):ah n3:=match d with
 |.tup S=>.ok (.fix S) Z
 |.frz S=>.ok (.fix S) Z
 |.obj n=>match Z[n]? with
  |some 12e4=>.ok (.own n S) Z
  |_=>.bad
 |_=>.bad
def cw(f:ME):MI:=λh d=>(f h d).bind wZ
def SX(K:W.Frag)(t:TE):TI:=λh H R=>t h H λx d=>∃a,x=.ref a/\(((∃S,fK K d a S)/\R (Sg K a) d)\/((∃S,gz K d a S)/\R (Sv K a) d))
theorem N6{l:Expr}{tl:TE}(L:PE X l tl):PI X tg l (SX X.K tl):=by
 intro P s m H R I h;refine dX (L P s m H _ I h) λv S ⟨x,j,d,r,Q⟩=>?_;obtain⟨a,e,q⟩:=Q;subst e;cases r;rcases q with⟨⟨k,z⟩,q⟩|⟨⟨k,z⟩,q⟩
 ·obtain ⟨i, V, p, μ⟩ := d.list z;refine W2 p.isList ?_;refine⟨6e5,[6e5],_,_,j,rfl,d.kept (t':=S.toks) λb o e=>UF _ e,DD a _,⟨_,T4 _ rfl,rfl,rfl⟩,λb B=>?_,q⟩;have e:b=S.heap.objs.size:=by simpa using B
  subst e;exact d.fpOk 6e3 (d.hok.fresh 6e3)
 ·obtain ⟨i, V, p, μ⟩ := d.tuple z;refine VZ (show S.heap.IsTuple a i.toArray from p) ?_;refine⟨6e5,[6e5],_,_,j,rfl,d.kept (t':=S.toks) λb o e=>UF _ e,Bj a _,⟨_,T4 _ rfl,rfl,rfl⟩,λb B=>?_,q⟩;have e:b=S.heap.objs.size:=by simpa using B
  subst e;exact d.fpOk 6e3 (d.hok.fresh 6e3)
theorem NB{l:Expr}{f:ME}(hK:X.K=p.K)(L:PE X l (tD p f)):PI X tg l (qD p (cw f)):=(N6 L).weak λM H R ⟨q,B,w,S,Rr,P⟩=>by
 refine⟨q,B,w,S,Rr,(aM.bind P).imp λd z C t G j h v r=>?_⟩;rw[hK];cases d with
 |tup s=>
  obtain⟨a,y,rfl,k,m⟩:=aQ.mp r;exact⟨a,rfl,.inr ⟨⟨y,k⟩,h.now j _ trivial (HK k m)⟩⟩
 |frz s=>
  obtain⟨a,y,rfl,k,m⟩:=bM.mp r;exact⟨a,rfl,.inl ⟨⟨y,k.sq⟩,h.now j _ trivial (HL k m)⟩⟩
 |obj n=>
  obtain⟨a,rfl,A⟩:=aU.mp r;unfold wZ at h;dsimp only at h;split at h
  ·rename_i s o;obtain⟨I,E,y,hH,J⟩:=j.at o;rw[A]at E;cases E;exact⟨a,rfl,.inl ⟨⟨y,fK.of hH⟩,h.now j _ o (Eg j o A)⟩⟩
  ·exact h.elim
 |non=>exact h.elim
 |bl b=>exact h.elim
 |int i=>exact h.elim
 |str x=>exact h.elim
noncomputable def ly(ds:List D)(Z:aC):ah n3:=match ds with
 |[.int j]=>if -(2^62)<=j/\j<2^62 then .ok (.fix (bR 0 j.toNat)) Z else .bad
 |_=>.bad
noncomputable def AO(ds:List D)(Z:aC):ah n3:=match ds with
 |[.int i,.int j]=>if -(2^62)<=i/\i<2^62/\-(2^62)<=j/\j<2^62 then .ok (.fix (bR i (j-i).toNat)) Z else .bad
 |_=>.bad
def iy(f:List D->aC->ah n3)(i:MA):MI:=λh d=>(i h d).bind f
theorem DS{a:Expr}{fa:MA}(σ:Gl X "range")(i:X.mg "range" = none)(n:PA X [a] (oF p fa))(hs:starEach [a] 1e9=[9e5]):PI X tg (.Call (.Name "range" px) [a] [] pos) (qD p (iy ly fa)):=
 (D1 σ i n hs).weak λx H R ⟨k, q, m, S, Rr, P⟩ => ⟨k, q, m, S, Rr, (aM.bind P).imp λw o s l t d h y V => by
  unfold ly at h;split at h
  ·rename_i j;obtain⟨v,rfl,r⟩:=V.one;rw[ay.mp r];split at h
   ·rename_i D;exact⟨j,rfl,D.1,D.2,h.now d _ trivial (zX 0 _)⟩
   ·exact h.elim
  ·exact h.elim⟩
theorem DQ{a b:Expr}{fa:MA}(σ:Gl X "range")(m:X.mg "range" = none)(n:PA X [a,b] (oF p fa))(hs:starEach [a,b] 1e9=[9e5,(false,eval b 1e9)])(d:starEach [b] 1e9=[(false,eval b 1e9)]):PI X tg (.Call (.Name "range" px) [a,b] [] pos) (qD p (iy AO fa)):=
 (D0 σ m n hs d).weak λA H R ⟨l, t, q, S, Rr, P⟩ => ⟨l, t, q, S, Rr, (aM.bind P).imp λy s w o x k h z V => by
  unfold AO at h;split at h
  ·rename_i i j;obtain⟨v,u,rfl,r,M⟩:=V.two;rw[ay.mp r,ay.mp M];split at h
   ·rename_i D;exact⟨i,j,rfl,D,h.now k _ trivial (zX i _)⟩
   ·exact h.elim
  ·exact h.elim⟩
theorem wc{src:n3}{xs:List D}(hi:src.items=dq 0 xs)(hs:∀H2 α2 Z2,p.X H H2 α α2->p.S H2 α2 Z2->bK src Z2->∃vs,Sq b p.K H2 a vs/\p.Rs H2 α2 xs vs ):yU p (Sw b p.K a) src H α:=by
 intro H2 α2 Z2 n k G;obtain⟨vs,j,R⟩:=hs H2 α2 Z2 n k G;rw[hi];refine⟨λi d h=>?_,vs,j,by rw[R.length,wy]⟩;rw[wz]at h;cases e:xs[i]? with
 |none=>rw[e]at h;cases h
 |some y=>
  rw[e]at h;cases h;obtain⟨v,V,r⟩:=R.get e;refine⟨⟨vs,v,j,V⟩,λx m ⟨q,w,E,z,B,l⟩=>?_⟩;subst E B;have:=l vs j;rw[V]at this;cases this;refine⟨cx z,k.tuple z,aQ.mpr ⟨q,_,rfl,gz.of cA,?_⟩⟩;rw[WB];exact Reps.cons 11e6 (Reps.cons (r.mono (cx z)) Reps.nil)
noncomputable def kW(ds:List D)(Z:aC):ah n3:=match ds with
 |[.tup S]=>.ok (.fix (dq 0 S)) Z
 |[.obj n]=>match Z[n]? with
  |some 12e4=>.ok (.eno n S) Z
  |_=>.bad
 |_=>.bad
theorem JJ{a:Expr}{fa:MA}{tpos:Pos}(hK:X.K=p.K)(σ:Gl X "enumerate")(M:X.mg "enumerate" = none)(A:PA X [a] (oF p fa))(hs:starEach [a] 1e9=[9e5]):
  PI X (.Tuple elts k1 tpos) (.Call (.Name "enumerate" px) [a] [] pos) (qD p (iy kW fa)):=
 (J8 σ M A hs).weak λO H R ⟨y, I, B, S, Rr, P⟩ => ⟨y, I, B, S, Rr, (aM.bind P).imp λD C J z L j h μ V => by
  rw[hK];unfold kW at h;split at h
  ·rename_i s;obtain⟨v,rfl,r⟩:=V.one;obtain⟨a,U,rfl,q,w⟩:=aQ.mp r;exact⟨a,false,rfl,⟨U,q⟩,h.now j _ trivial (wc (b:=false) rfl λt l d i m _=>⟨U,i.tup a U q,w.mono i⟩)⟩
  ·rename_i n;split at h
   ·rename_i s x;obtain⟨v,rfl,r⟩:=V.one;obtain⟨a,rfl,A⟩:=aU.mp r;obtain⟨N,o,U,hH,T⟩:=j.at x;rw[A]at o;cases o;refine⟨a,true,rfl,⟨U,fK.of hH⟩,h.now j _ x (wc (b:=true) rfl λt l d i m G=>?_)⟩;obtain⟨Q,E,us2,hH2,k⟩:=m.at (show d[n]?=some (.lst s) from G);rw[i.pre n a A]at E;cases E;exact⟨us2,fK.of hH2,k⟩
   ·exact h.elim
  ·exact h.elim⟩
end
def ah.nox(o:ah β):ah β:=match o with
 |.exc _ _=>.bad
 |o=>o
@[simp] theorem af{a:β}{Z:aC}:(ah.ok a Z).nox=.ok a Z:=Xr 7e8
abbrev Pa.nx(p:Pa):Pa:=⟨p.K,p.w,λ_ _ _ _=>False⟩
theorem d7{γ:Type}{p:Pa}{o:ah β}{k:β->aC->ah γ}{R:γ->aC->Hp->List Addr->Prop}(h:aM p H α (o.nox.bind k) R):aM p.nx H α o (λa Z1 H1 α1=>aM p H1 α1 (k a Z1) R):=by
 cases o with
 |ok a b=>exact λc α' e s=>aM.from e h
 |exc x b=>exact False.elim h
 |bad=>exact h
noncomputable def cD(cap:List 5e0)(ρ:Ro):Ro:=cap.map λo=>o.bind λj=>(ρ[j]?).join
theorem dM.cap{ρ:Ro}(R:dM K H α ρ Y)(cap:List 5e0):dM K H α (cD cap ρ) (sL cap Y):=by
 refine⟨by simp[cD,sL],λi d h=>?_⟩;unfold cD at h;unfold sL;rw[UX]at h⊢;cases e:cap[i]? with
 |none=>rw[e]at h;cases h
 |some o=>
  rw[e]at h;cases o with
  |none=>simp at h
  |some j=>
   simp at h⊢
   obtain⟨v,b,c⟩:=R.at' j d (by
    cases B:ρ[j]? with
    |none=>rw[B]at h;simp at h
    |some x=>rw[B]at h;simp at h;rw[h])
   exact⟨v,by rw[b];rfl,c⟩
noncomputable def vI(n:Nat)(y:D)(Z:aC):ah Unit:=match Z[n]? with
 |some (.lst σ)=>if σ.length<sizeLine then .ok () (Z.set n (.lst (σ++[y]))) else .bad
 |_=>.bad
open Classical in
noncomputable def compLoop(src:n3)(n:Nat)(g:MG)(t:MT)(e:ME):List D->Ro->aC->ah D
 |[],_,f=>if bK src f then .ok (.obj n) f else .bad
 |d::r,l,f=>if bK src f then (g d l f).nox.bind λc i=>(t c i).nox.bind λb h=>if b=true then (e c h).nox.bind λy j=>(vI n y j).bind λ_ E=>compLoop src n g t e r c E else compLoop src n g t e r c h else .bad
def bT(fi:MI)(cap:List 5e0)(g:MG)(t:MT)(e:ME):ME:=λc f=>(fi c f).bind λs b=>compLoop s b.length g t e s.items (cD cap c) (b++[.lst []])
def a9:MT:=λ_ b=>.ok true b
theorem zG{p:Pa}{y:D}{Z:aC}{R:Unit->aC->Hp->List Addr->Prop}(S:p.S H α Z)(h:α[n]?=some acc)(c:p.R H α y v)(P:aM p H α (vI n y Z) R):
  ∃ys,H acc=some (.lst ys)/\ys.length<sizeLine/\∃Z',p.X H (cE H acc (.lst (ys++[v]))) α α/\p.S (cE H acc (.lst (ys++[v]))) α Z'/\R () Z' (cE H acc (.lst (ys++[v]))) α:=by
 unfold vI at P;split at P
 ·rename_i s b;obtain⟨a,E,U,hH,r⟩:=S.at b;rw[h]at E;cases E;split at P
  ·rename_i i;have q:=r.snoc c;exact⟨U,hH,by rw[11e9];exact i,_,iM hH,S.put b h hH q,P _ _ (iM hH) (S.put b h hH q)⟩
  ·exact P.elim
 ·exact P.elim
section
variable{p:Pa}{X:Cx}{ifs:List Expr}{cap:List 5e0}{fi:MI}{g:MG}{t:MT}{e:ME}
theorem wA{Q:VK}(h:tD p (bT fi cap g t e) Y H Q):Fm (qD p fi) cap 15e0 (ij p.nx t) (tD p.nx e) Y H Q:=by
 obtain⟨α,ρ,Z,S,R,P⟩:=h;refine⟨α,ρ,Z,S,R,(aM.bind P).imp λs j M q X1 S1 P1 J hok hJ acc C=>?_⟩;obtain⟨D,s1,_⟩:=du (ds:=[]) (vs:=[]) S1 C Reps.nil;have hn:(q++[acc])[j.length]?=some acc:=by rw[<- S1.len];simp
 refine⟨λi m A r=>m=s.items.length-i/\i<=s.items.length/\∃c l f,p.X M r q c/\p.S r c f/\dM p.K r c l A/\c[j.length]?=some acc/\aM p r c (compLoop s j.length g t e (s.items.drop i) l f) (RV p Q),
  ⟨_,rfl,VQ _,q++[acc],cD cap ρ,j++[.lst []],D,s1,((R.mono X1).cap cap).mono D,hn,by simpa using aM.from D P1⟩,?_⟩
 rintro i m A r ⟨rfl,hi,c,l,f,σ,U,R2,a2,o⟩
 by_cases T:i<s.items.length
 ·rw [Xu T] at o;unfold compLoop at o;by_cases G:bK s f
  ·rw [T1 G] at o;obtain⟨O,hy⟩:=(hJ r c f σ U G).1 i _ (W6 T)
   refine .inr ⟨O,λz u=>i+1<=s.items.length/\∃c l f,p.X M u q c/\p.S u c f/\dM p.K u c l z/\c[j.length]?=some acc/\aM p u c (compLoop s j.length g t e (s.items.drop (i+1)) l f) (RV p Q),
    λz u ⟨h1,h2⟩=>⟨_,by omega,rfl,h1,h2⟩,λx H3 yx=>?_⟩
   obtain⟨N,S3,R3⟩:=hy x H3 yx;refine⟨c,l,f,_,S3,R2.mono N,R3,(aM.from (p:=p.nx) N (d7 o)).imp λL Z4 H4 α4 X4 S4 P4 Y4 W=>?_⟩;refine⟨α4,L,Z4,S4,W,(d7 P4).imp λb I H5 B w S5 V=>?_⟩;have xx:p.X M H5 q B:=((σ.trans N).trans X4).trans w;have μ:B[j.length]?=some acc:=w.pre _ _ (X4.pre _ _ (N.pre _ _ a2));cases b with
   |false=>
    rw[T3 UA]at V;refine QB ?_;exact⟨T,B,L,I,xx,S5,W.mono w,μ,V⟩
   |true=>
    rw[T1 rfl]at V;refine QA ?_;refine⟨B,L,I,S5,W.mono w,(d7 V).imp λy Z6 H6 α6 E S6 P6 v rv=>?_⟩;obtain⟨ys,e1,e2,Z7,x7,s7,q7⟩:=zG (p:=p) S6 (E.pre _ _ μ) rv (aM.bind P6);exact⟨ys,e1,e2,T,α6,L,Z7,(xx.trans E).trans x7,s7,((W.mono w).mono E).mono x7,E.pre _ _ μ,q7⟩
  ·rw[T3 G]at o;exact o.elim
 ·have e : i = s.items.length := by omega
  subst e;rw[Xv]at o;unfold compLoop at o;by_cases G:bK s f
  ·rw[T1 G]at o;exact .inl ⟨(hJ r c f σ U G).2,o r c ma.refl U _ (aU.mpr ⟨acc,rfl,a2⟩)⟩
  ·rw[T3 G]at o;exact o.elim
theorem Js{X:Cx}:rk X [] (ij p a9):=λb s c H Q I h=>by
 obtain⟨α,i,f,S,R,P⟩:=h;exact J0 b s c H Q I (P.now S)
theorem Jr{X:Cx}{c:Expr}{t:MT}(h:PT X c (ij p t)):rk X [c] (ij p t):=JZ h
theorem JO(i:X.calm=true)(S:bP X.N 1e9 scope Nc cap)(hi:PI X tg iter (qD p fi))
  (σ:∀cl C s H fp,PG 0e7 tg 15e0) (J:∀cl C s H fp,rk 0e7 ifs (ij p.nx t)) (j:∀cl C s H fp,PE 0e7 elt (tD p.nx e))
  (hs:∀x,foldedSetIterable iter 1e9 x=pure x):PE X 3e4 (tD p (bT fi cap g t e)):=
 (Ke i S hi σ J j hs).weak λb H Q h=>wA h
theorem Ju(o:X.calm=true)(hN:X.N.Nodup)(j:X.N[i]?=some x)(q:X.env.scope.names.lookup x=some .local)(S:bP X.N 1e9 scope Nc cap)(hi:PI X tg iter (qD p fi))(σ:∀cl C s H fp,PG 0e7 tg 15e0)(J:∀cl C s H fp,rk 0e7 ifs (ij p.nx t))(E:∀cl C s H fp,PE 0e7 elt (tD p.nx e))(W:swapsWith 3e4 (some (.Name x pos1)) pos2.line 1e9=pure true)(hs:∀x,foldedSetIterable iter 1e9 x=pure x):
  PS X (.Assign [.Name x pos1] 3e4 pos2) (jG p (bC (bT fi cap g t e) (ai i))):=
 (J4 o hN j q S hi σ J E W hs).weak λD z H h => by
  obtain⟨α,y,u,S,R,P⟩:=h;refine wA ⟨α,y,u,S,R,(aM.bindS P).imp λd w c b m l f v r=>?_⟩;exact f c b _ ma.refl l ((R.mono m).set i r)
end
abbrev MB:=Nat->Ro->aC->ah Ro
def jR(e:ME):MB:=λn f h=>(e f h).nox.bind λy b=>(vI n y b).bind λ_ c=>.ok f c
open Classical in
noncomputable def i0(src:n3)(n:Nat)(g:MG)(t:MT)(fb:MB):List D->Ro->aC->ah Ro
 |[],l,f=>if bK src f then .ok l f else .bad
 |d::r,l,f=>if bK src f then (g d l f).nox.bind λc i=>(t c i).nox.bind λb h=>if b=true then (fb n c h).nox.bind λm j=>i0 src n g t fb r m j else i0 src n g t fb r c h else .bad
def gN(fi:MI)(g:MG)(t:MT)(fb:MB):MB:=λn c f=>(fi c f).nox.bind λs b=>i0 s n g t fb s.items c b
def eV(fi:MI)(cap:List 5e0)(g:MG)(t:MT)(fb:MB):ME:=λf h=>(fi f h).bind λs b=>(i0 s b.length g t fb s.items (cD cap f) (b++[.lst []])).bind λ_ c=>.ok (.obj b.length) c
section
variable{p:Pa}
def wR(p:Pa)(fb:MB)(acc:Addr):E1:=λj H N=>∃α h f n,p.S H α f/\dM p.K H α h j/\α[n]?=some acc/\aM p H α (fb n h f) (λi _ c α'=>∀b,dM p.K c α' i b->N b c)
theorem Ep{e:ME}{N:St->Hp->Prop}(h:wR p (jR e) acc Y H N):Fl (tD p.nx e) acc Y H N:=by
 obtain⟨α,q,l,n,S,R,a,P⟩:=h;refine⟨α,q,l,S,R,(d7 P).imp λy m s j E c b v r=>?_⟩;obtain⟨σ,f,B,o,i,Q,L⟩:=zG (p:=p) c (E.pre _ _ a) r (aM.bind b);exact⟨σ,f,B,L.now Q Y ((R.mono E).mono i)⟩
theorem oj{src:n3}{g:MG}{t:MT}{fb:MB}{J:It}{H1 H0:Hp}{α1 α0:List Addr}{ρ:Ro}{Z1:aC}{N:St->Hp->Prop}(X0:p.X H0 H1 α0 α1)(S1:p.S H1 α1 Z1)(R:dM p.K H1 α1 ρ Y)(hn:α1[n]?=some acc)(hJ:yU p J src H0 α0)(σ:aM p H1 α1 (i0 src n g t fb src.items ρ Z1) (λρ' _ H' α'=>∀Y',dM p.K H' α' ρ' Y'->N Y' H')):RZ J 15e0 (ij p.nx t) (wR p.nx fb acc) N Y H1:=by
 refine⟨λi m o l=>m=src.items.length-i/\i<=src.items.length/\∃c j f,p.X H0 l α0 c/\p.S l c f/\dM p.K l c j o/\c[n]?=some acc/\aM p l c (i0 src n g t fb (src.items.drop i) j f) (λρ' _ H' α'=>∀Y',dM p.K H' α' ρ' Y'->N Y' H'),
  ⟨_,rfl,VQ _,α1,ρ,Z1,X0,S1,R,hn,by simpa using σ⟩,?_⟩
 rintro i m o l ⟨rfl,hi,c,j,f,u,s,R2,a2,P⟩
 by_cases h:i<src.items.length
 ·rw [Xu h] at P;unfold i0 at P;by_cases G:bK src f
  ·rw [T1 G] at P;obtain⟨O,hy⟩:=(hJ l c f u s G).1 i _ (W6 h)
   refine .inr ⟨O,λY' H'=>i+1<=src.items.length/\∃c j f,p.X H0 H' α0 c/\p.S H' c f/\dM p.K H' c j Y'/\c[n]?=some acc/\aM p H' c (i0 src n g t fb (src.items.drop (i+1)) j f) (λρ' _ H' α'=>∀Y',dM p.K H' α' ρ' Y'->N Y' H'),
    λY' H' ⟨h1,h2⟩=>⟨_,by omega,rfl,h1,h2⟩,λx T yx=>?_⟩
   obtain⟨q,S3,R3⟩:=hy x T yx;refine⟨c,j,f,_,S3,R2.mono q,R3,(aM.from (p:=p.nx) q (d7 P)).imp λL E H4 z C S4 D Y4 W=>?_⟩;refine⟨z,L,E,S4,W,(d7 D).imp λb I U B r A V=>?_⟩;have Q:p.X H0 U α0 B:=((u.trans q).trans C).trans r;have μ:B[n]?=some acc:=r.pre _ _ (C.pre _ _ (q.pre _ _ a2));cases b with
   |false=>
    rw[T3 UA]at V;refine QB ?_;exact⟨h,B,L,I,Q,A,W.mono r,μ,V⟩
   |true=>
    rw[T1 rfl]at V;refine QA ?_;refine⟨B,L,I,n,A,W.mono r,μ,(d7 V).imp λy w H6 v M S6 P6 Y' r'=>?_⟩;exact⟨h,v,y,w,Q.trans M,S6,r',M.pre _ _ μ,P6⟩
  ·rw[T3 G]at P;exact P.elim
 ·have e : i = src.items.length := by omega
  subst e;rw[Xv]at P;unfold i0 at P;by_cases G:bK src f
  ·rw[T1 G]at P;exact .inl ⟨(hJ l c f u s G).2,P.now s _ R2⟩
  ·rw[T3 G]at P;exact P.elim
theorem BQ{fi:MI}{g:MG}{t:MT}{fb:MB}{N:St->Hp->Prop}(h:wR p.nx (gN fi g t fb) acc Y H N):FS (qD p.nx fi) 15e0 (ij p.nx t) (wR p.nx fb acc) Y H N:=by
 obtain⟨α,l,f,n,S,R,a,P⟩:=h;refine⟨α,l,f,S,R,(d7 P).imp λs j o i m c b J L hJ=>?_⟩;exact oj (p:=p.nx) ma.refl c (R.mono m) (m.pre _ _ a) hJ b
theorem ub{fi:MI}{cap:List 5e0}{g:MG}{t:MT}{fb:MB}{Q:VK}(h:tD p (eV fi cap g t fb) Y H Q):n7 (λ_=>.lst []) (qD p fi) cap 15e0 (ij p.nx t) (λacc=>wR p.nx fb acc) Y H Q:=by
 obtain⟨α,v,r,S,R,P⟩:=h;refine⟨α,v,r,S,R,(aM.bind P).imp λq b A i o c f J L hJ acc C=>?_⟩;obtain⟨B,s,_⟩:=du (ds:=[]) (vs:=[]) c C Reps.nil;have N:(i++[acc])[b.length]?=some acc:=by rw[<- c.len];simp
 refine oj (p:=p) B s (((R.mono o).cap cap).mono B) N hJ ((aM.from B (aM.bind f)).imp λw u z α' m l j y E=>?_);exact j.now l _ (aU.mpr ⟨acc,rfl,m.pre _ _ N⟩)
variable{X:Cx}{cl0 cl:Comprehension}{rest:List Comprehension}{cap:List 5e0}{fi:MI}{g:MG}{t:MT}{fb:MB}{d:Nat}
theorem JQ{f:ME}(σ:gens[d]?=none)(E:X.xe=wV)(l:PE X elt (tD p.nx f)):uT X 15e2 d acc (wR p.nx (jR f) acc):=λP s b H N I h=>tE σ E l P s b H N I (Ep (p:=p.nx) h)
theorem G6(j:n8 e=true)(hz:∀g∈clausesOf e,g.is_async=0)(σ:(clausesOf e)[d]?=some cl)(E:X.xe=wV)(i:X.calm=true)(hi:PI X cl.target cl.iter (qD p.nx fi))(C:PG X cl.target 15e0)(v:rk X cl.ifs (ij p.nx t))(B:uT X e (d+1) acc (wR p.nx fb acc))
  (hs:∀x,foldedSetIterable cl.iter 1e9 x=pure x):uT X e d acc (wR p.nx (gN fi g t fb) acc):=λP s b H N I h=>D3 j hz σ E i hi C v B hs P s b H N I (BQ h)
theorem G3(i:X.calm=true)(hz:∀g∈cl0::rest,g.is_async=0)(S:bP X.N 1e9 scope Nc cap)(hi:PI X cl0.target cl0.iter (qD p fi))
  (σ:∀cl C s H fp,PG 0e7 cl0.target 15e0) (J:∀cl C s H fp,rk 0e7 cl0.ifs (ij p.nx t)) (B:∀cl C s H fp acc,uT 0e7 4e6 1 acc (wR p.nx fb acc))
  (hs:∀x,foldedSetIterable cl0.iter 1e9 x=pure x):PE X 4e6 (tD p (eV fi cap g t fb)):=
 (zJ i hz S hi σ J B hs).weak λb H Q h=>ub h
theorem GE(o:X.calm=true)(hz:∀g∈cl0::rest,g.is_async=0)(hN:X.N.Nodup)(j:X.N[i]?=some x)(q:X.env.scope.names.lookup x=some .local)(S:bP X.N 1e9 scope Nc cap)(hi:PI X cl0.target cl0.iter (qD p fi))(σ:∀cl C s H fp,PG 0e7 cl0.target 15e0)(J:∀cl C s H fp,rk 0e7 cl0.ifs (ij p.nx t))(B:∀cl C s H fp acc,uT 0e7 4e6 1 acc (wR p.nx fb acc))(W:swapsWith 4e6 (some (.Name x pos1)) pos2.line 1e9=pure true)(hs:∀x,foldedSetIterable cl0.iter 1e9 x=pure x):
  PS X (.Assign [.Name x pos1] 4e6 pos2) (jG p (bC (eV fi cap g t fb) (ai i))):=
 (zH o hz hN j q S hi σ J B W hs).weak λD z H h => by
  obtain⟨α,y,u,S,R,P⟩:=h;refine ub ⟨α,y,u,S,R,(aM.bindS P).imp λd w c b m l f v r=>?_⟩;exact f c b _ ma.refl l ((R.mono m).set i r)
end
mutual
def D.low(n:Nat):D->Prop
 |.tup xs=>D.lows n xs
 |.frz xs=>D.lows n xs
 |.obj m=>m<n
 |_=>True
def D.lows(n:Nat):List D->Prop
 |[]=>True
 |x::xs=>x.low n/\D.lows n xs
end
def O.low(n:Nat):O->Prop
 |.lst S=>D.lows n S
 |.dct s _=>∀p∈s,p.2<n
 |_=>True
section
variable{α':List Addr}
mutual
theorem aW.low:∀{d:D}{v:V},aW K H α d v->d.low α.length
 |.non,_,_=>trivial
 |.bl _,_,_=>trivial
 |.int _,_,_=>trivial
 |.str _,_,_=>trivial
 |.tup xs,_,h=>by
  obtain⟨a,vs,rfl,h1,h2⟩:=aQ.mp h;dsimp[D.low];exact Reps.low h2
 |.frz xs,_,h=>by
  obtain⟨a,vs,rfl,h1,h2⟩:=bM.mp h;dsimp[D.low];exact Reps.low h2
 |.obj n,_,h=>by
  obtain⟨a,rfl,h1⟩:=aU.mp h;dsimp[D.low];exact(Ul.mp h1).1
theorem Reps.low:∀{ds:List D}{vs:List V},Reps K H α ds vs->D.lows α.length ds
 |[],_,_=>trivial
 |d::ds,_,h=>by
  dsimp[Reps]at h;obtain⟨v,r,rfl,h1,h2⟩:=h;dsimp[D.lows];exact⟨aW.low h1,Reps.low h2⟩
end
mutual
theorem aW.cut{n:Nat}(e:∀m,m<n->α'[m]?=α[m]?):∀{d:D}{v:V},aW K H α' d v->d.low n->aW K H α d v
 |.non,_,h,_=>by dsimp[aW]at h⊢;exact h
 |.bl _,_,h,_=>by dsimp[aW]at h⊢;exact h
 |.int _,_,h,_=>by dsimp[aW]at h⊢;exact h
 |.str _,_,h,_=>by dsimp[aW]at h⊢;exact h
 |.tup xs,_,h,b=>by
  obtain⟨a,vs,rfl,h1,h2⟩:=aQ.mp h;dsimp[D.low]at b;exact aQ.mpr ⟨a,vs,rfl,h1,Reps.cut e h2 b⟩
 |.frz xs,_,h,b=>by
  obtain⟨a,vs,rfl,h1,h2⟩:=bM.mp h;dsimp[D.low]at b;exact bM.mpr ⟨a,vs,rfl,h1,Reps.cut e h2 b⟩
 |.obj m,_,h,b=>by
  obtain⟨a,rfl,h1⟩:=aU.mp h;dsimp[D.low]at b;exact aU.mpr ⟨a,rfl,by rw[<- e m b];exact h1⟩
theorem Reps.cut{n:Nat}(e:∀m,m<n->α'[m]?=α[m]?):∀{ds:List D}{vs:List V},Reps K H α' ds vs->D.lows n ds->Reps K H α ds vs
 |[],_,h,_=>by dsimp[Reps]at h⊢;exact h
 |d::ds,_,h,b=>by
  dsimp[Reps]at h⊢;obtain⟨v,r,rfl,h1,h2⟩:=h;dsimp[D.lows]at b;exact⟨v,r,rfl,aW.cut e h1 b.1,Reps.cut e h2 b.2⟩
end
end
def Mv(Z Z':aC)(d:D):Prop:=d.low 5e2/\Z.length<=Z'.length/\∀(i:Nat) o,i<Z.length->Z'[i]?=some o->Z[i]?=some o\/o.low 5e2
open Classical in
def vz(Z:aC)(o:ah D):ah D:=match o with
 |.ok d b=>if Mv Z b d then .ok d (b.take 5e2) else .ok d b
 |o=>o
theorem C9{p:Pa}{Z:aC}{o:ah D}{Q:VK}(S:p.S H α Z)(P:aM p H α (vz Z o) (RV p Q)):aM p H α o (RV p Q):=by
 cases o with
 |exc x b=>exact P
 |bad=>exact P
 |ok d b=>
  unfold vz at P;dsimp only at P;by_cases σ:Mv Z b d
  ·rw [T1 σ] at P;obtain⟨G,J,C⟩:=σ;intro B α' e s v R
   have l:∀m,m<Z.length->α'[m]?=α[m]?:=λm M=>by
    have h:m<α.length:=by rw[S.len];exact M
    rw[W6 h];exact e.pre m _ (W6 h)
   refine P B α ⟨e.tup,e.frz,λ_ _ z=>z,e.xds⟩ ⟨by rw[US,S.len];omega,S.nd,λn o a i j=>?_⟩ v (aW.cut l R G);have N:n<Z.length:=by rw[<- S.len];exact(Ul.mp j).1
   rw[UY N]at i;have q:=s.ob n o a i (e.pre n a j)
   have O:o.low 5e2:=by
    rcases C n o N i with z|z
    ·have A := S.ob n o a z j;cases o with
     |lst f=>obtain⟨V,_,r⟩:=A;have:=r.low;rw[S.len]at this;exact this
     |set w=>trivial
     |iset w=>trivial
     |dic=>trivial
     |exc c=>trivial
     |exn c fs=>trivial
     |dct y E=>obtain⟨_,f,_,r,_⟩:=A;rw[<- S.len];exact yI.low r
    ·exact z
   cases o with
   |lst f=>obtain⟨V,u,r⟩:=q;exact⟨V,u,Reps.cut l r O⟩
   |set w=>exact q
   |iset w=>exact q
   |dic=>exact q
   |exc c=>exact q
   |exn c fs=>exact q
   |dct y E=>obtain⟨I,f,u,r,t⟩:=q;exact⟨I,f,u,yI.cut l r O,t⟩
  ·rw[T3 σ]at P;exact P
noncomputable def SO.out(o:SO):ah D:=match o with
 |.ret d b=>.ok d b
 |.next _ b=>.ok .non b
 |.exc x b=>.exc x b
 |_=>.bad
def fq(n N:Nat)(fb:MS):List D->aC->ah D:=λs b=>if s.length=n then vz b (fb (s.map some++List.replicate (N-n) none) b).out else .bad
def LF(p:Pa)(n:Nat)(F:List D->aC->ah D):Sp:=λy H Q _=>y.length=n/\∃α s b,p.S H α b/\p.Rs H α s y/\aM p H α (F s b) (RV p Q)
structure bF(P:Program)(w:World)(K:W.Frag)(mg:Str->Option Value)(base:Heap)(p:Pa)(k:Nat)(x:Str)(n:Nat)(F:List D->aC->ah D):Prop where
 len:∀ds Z,ds.length≠n->F ds Z=.bad
 fn:∃f fd ps,mg x=some 2e9/\W.keepIn K 2e9=true/\lW K fd ps []/\u4 P w K mg base EO k f fd ps (LF p n F)
section
variable{p:Pa}{X:Cx}{k:Nat}{F:List D->aC->ah D}{a:Expr}{es:List Expr}{fr:MA}
theorem JP (h:bF 13e0 X.w X.K X.mg X.base p k x n F) (C:kf k X.A) (σ:Gl X x) (y:PA X (a::es) 16e1) (B:(x == ("__debug__" : Str))=false) (z:starEach (a::es) 1e9=(false,eval a 1e9)::starEach es 1e9) (L:(backTo pos 7e1).any 3e0=false) :
  PE X 12e7 (tD p (ax F fr)):=by
 obtain⟨f,D,M,o,q,u,v⟩:=h.fn;refine(Kg (dvs:=[]) (E:=E0) v C σ o q u .nil Rk y B z L).weak λN H Q ⟨α,I,G,S,R,P⟩=>⟨α,I,G,S,R,(aM.bind P).imp λs b j i J m c V r=>?_⟩;show LF p n F (V++[]) j Q E0;rw[UM];refine⟨?_,i,s,b,m,r,c⟩;by_cases l:s.length=n
 ·rw[11e9];exact l
 ·rw[h.len s b l]at c;exact c.elim
end
theorem uh{ds:List D}(r:Reps K H α ds vs)(m:Nat):dM K H α (ds.map some++List.replicate m none) (vs.map some++List.replicate m none):=by
 refine⟨by simp[11e9],λi d h=>?_⟩;by_cases I:i<ds.length
 ·rw [UW 16e6, UX] at h;cases e:ds[i]? with
  |none=>rw[e]at h;cases h
  |some x=>
   rw[e]at h;cases h;obtain⟨v,b,R⟩:=r.get e;refine⟨v,?_,R⟩;rw[UW (by simp[11e9,I]),UX,b];rfl
 ·rw[UU 16e6,UV]at h;split at h <;> cases h
theorem Pv{p:Pa}{k:Nat}{ps:List Str}{fb:MS}(F:eJ K x qual st f fd)(S:aN N ps (ar st))(u:ps.length=n)(M:mg x=some 2e9)(B:lW K fd ps [])(body : ∀ (cdv : Value) (A : Around) (outer : List Env) (s : Shared) (H : Hp) (E : XK), kf k 14e0 ->
   l9 (xa EO P w K mg base N qual (ar st) f cdv A outer s H E).nox (dr st) (jG p fb)):bF P w K mg base p (k+1) x n (fq n N.length fb):=by
 refine⟨λD l h=>by unfold fq;rw[T3 h],f,fd,ps,M,F.kp,B,?_⟩;refine F.ok S (λV H Q E h=>h.1.trans u.symm) λcdv A outer s H V Q E y h=>?_;refine⟨_,body cdv A outer s H E y,?_⟩;obtain⟨L,α,D,l,m,R,j⟩:=h;unfold fq at j;have q:D.length=n:=by rw[<- R.length];exact L
 rw[T1 q]at j;have i:=C9 m j;unfold start;rw[L];refine⟨α,_,l,m,uh R _,?_⟩;cases e:fb (D.map some++List.replicate (N.length-n) none) l with
 |ret d b=>rw[e]at i;exact λc α' v x s r=>i c α' x s v r
 |next o b=>rw[e]at i;exact λc α' z x s r=>i c α' x s .non (cj.mpr rfl)
 |exc x b=>rw[e]at i;exact i
 |brk o b=>rw[e]at i;exact i.elim
 |cnt o b=>rw[e]at i;exact i.elim
 |bad=>rw[e]at i;exact i.elim
end L2
variable{Z:L2.aC}{xs:List L2.D}{d:L2.D}{p:L2.Pa}{M:L2.aC}{o:L2.D->L2.D->L2.aC->L2.ah L2.D}{Z0:L2.aC}{fr:L2.MA}{fa:L2.ME}{ρ:L2.Ro}{fi:L2.MI}{Z1:L2.aC}{ds:List L2.D}{gd:Int->Int->L2.D}{gg:Int->Int->L2.D}{fb:L2.MB}{ys:List L2.D}{src:L2.n3}{y:L2.D}
namespace L2
open PySem PySem.Spec PyProof.Rows RS
section
variable(K:W.Frag)(H:Hp)
mutual
def oD:PyData->V->Prop
 |.none,v=>v=.non
 |.bool b,v=>v=.bl b
 |.int i,v=>v=.int i
 |.str x,v=>v=.str x
 |.tuple xs,v=>∃a vs,v=.ref a/\gz K H a vs/\RdPs xs vs
 |.list xs,v=>∃a vs,v=.ref a/\fK K H a vs/\RdPs xs vs
 |.dict _,_=>False
def RdPs:List PyData->List V->Prop
 |[],vs=>vs=[]
 |x::xs,vs=>∃v r,vs=v::r/\oD x v/\RdPs xs r
end
end
section
variable{X:Cx}
mutual
theorem cZ(I:bf X pins Y H s):∀(d:PyData)(x:V)(v:Value),oD X.K H d x->cX x v->∃as,Reads 3e3 v d as
 |.none,_,_,h,r=>by dsimp[oD]at h;subst h;cases r;exact⟨_,.none⟩
 |.bool b,_,_,h,r=>by dsimp[oD]at h;subst h;cases r;exact⟨_,.bool b⟩
 |.int b,_,_,h,r=>by dsimp[oD]at h;subst h;obtain⟨t,rfl⟩:=r;exact⟨_,.int b t⟩
 |.str b,_,_,h,r=>by dsimp[oD]at h;subst h;obtain⟨t,rfl⟩:=r;exact⟨_,.str b t⟩
 |.tuple xs,_,_,h,r=>by
  dsimp[oD]at h;obtain⟨a,vs,rfl,h1,h2⟩:=h;cases r;obtain⟨its,rv,⟨o,e1,e2,n,e3⟩,_⟩:=I.tuple h1;obtain⟨as,q⟩:=readsAll_of I xs vs its h2 rv;exact⟨_,.tuple e1 e2 e3 (by simpa using q)⟩
 |.list xs,_,_,h,r=>by
  dsimp[oD]at h;obtain⟨a,vs,rfl,h1,h2⟩:=h;cases r;obtain⟨its,rv,⟨o,n,e1,e2,_,e3⟩,_⟩:=I.list h1;obtain⟨as,q⟩:=readsAll_of I xs vs its h2 rv;exact⟨_,.list e1 e2 e3 (by simpa using q)⟩
 |.dict _,_,_,h,_=>by dsimp[oD]at h
theorem readsAll_of(I:bf X pins Y H s):∀(ds:List PyData)(xs:List V)(vs:List Value),RdPs X.K H ds xs->bA xs vs->∃as,ReadsAll 3e3 vs ds as
 |[],_,_,h,r=>by dsimp[RdPs]at h;subst h;cases r;exact⟨_,.nil⟩
 |d::ds,_,_,h,r=>by
  dsimp[RdPs]at h;obtain⟨v,q,rfl,h1,h2⟩:=h;cases r with
  |cons r rr=>
   obtain⟨as,g1⟩:=cZ I d _ _ h1 r;obtain⟨bs,g2⟩:=readsAll_of I ds _ _ h2 rr;exact⟨_,.cons g1 g2⟩
end
def fitP(d:PyData):Bool:=d.canLay0&&decide (d.depth<=60)
def E9(K:W.Frag)(neg:Bool):R2:=λx y H Q=>∃a b,oD K H a x/\oD K H b y/\fitP a=true/\fitP b=true/\Q (.bl (if neg then !PyData.eqv a b else PyData.eqv a b)) H
theorem qo{a b:PyData}(n:fitP a=true)(U:A.units+64<cLine):A.units+min a.depth b.depth<cLine:=by
 unfold fitP at n;dsimp[Vf,Xy]at n;have:=XA a.depth b.depth;omega
theorem fitP_lay{a:PyData}(n:fitP a=true):a.canLay0=true:=by
 unfold fitP at n;dsimp[Vf,Xy]at n;exact n.1
theorem fitP_depth{a:PyData}(n:fitP a=true):a.depth<=60:=by
 unfold fitP at n;dsimp[Vf,Xy]at n;exact n.2
theorem Ow(U:X.A.units+64<cLine):kd X (compareOp .Eq) (E9 X.K false):=by
 intro pins s Y H x y v u Q I r σ h;obtain⟨a,b,c,e,d,f,q⟩:=h;obtain⟨W,R⟩:=cZ I a x v c r;obtain⟨bs,M⟩:=cZ I b y u e σ;exact SeqAt.compareEq_reads R M (fitP_lay d) (fitP_lay f) (qo d U) ⟨.bl _,H,I,rfl,q⟩
theorem Oq(U:X.A.units+64<cLine):kd X (compareOp .NotEq) (E9 X.K true):=by
 intro pins s Y H x y v u Q I r σ h;obtain⟨a,b,c,e,d,f,q⟩:=h;obtain⟨W,R⟩:=cZ I a x v c r;obtain⟨bs,M⟩:=cZ I b y u e σ;exact SeqAt.compareNe_reads R M (fitP_lay d) (fitP_lay f) (qo d U) ⟨.bl _,H,I,rfl,q⟩
noncomputable def E8(K:W.Frag)(neg:Bool):R2:=λx y H Q=>∃a b S,oD K H a x/\oD K H b y/\(b=.list S\/b=.tuple S)/\fitP a=true/\fitP b=true/\Q (.bl (if neg then !(S.any λy=>PyData.eqv y a) else S.any λy=>PyData.eqv y a)) H
theorem Ov(U:X.A.units+64<cLine):kd X (compareOp .In) (E8 X.K false):=by
 intro pins s Y H x y v u Q I r σ h;obtain⟨a,b,S,e,f,B,d,c,q⟩:=h;obtain⟨W,R⟩:=cZ I a x v e r;obtain⟨bs,M⟩:=cZ I b y u f σ;have D:=fitP_depth d;rcases B with rfl|rfl
 ·refine SeqAt.in_list_reads M R 13e8 (fitP_lay d) ?_ ⟨.bl _,H,I,rfl,q⟩;have:=U7 (PyData.depthAll S) a.depth;omega
 ·refine SeqAt.in_tuple_reads M R 13e8 (fitP_lay d) ?_ ⟨.bl _,H,I,rfl,q⟩;have:=U7 (PyData.depthAll S) a.depth;omega
theorem D5(U:X.A.units+64<cLine):kd X (compareOp .NotIn) (E8 X.K true):=by
 intro pins s Y H x y v u Q I r σ h;obtain⟨a,b,S,e,f,B,d,c,q⟩:=h;obtain⟨W,R⟩:=cZ I a x v e r;obtain⟨bs,M⟩:=cZ I b y u f σ;have D:=fitP_depth d;rcases B with rfl|rfl
 ·refine SeqAt.notIn_list_reads M R 13e8 (fitP_lay d) ?_ ⟨.bl _,H,I,rfl,q⟩;have:=U7 (PyData.depthAll S) a.depth;omega
 ·refine SeqAt.notIn_tuple_reads M R 13e8 (fitP_lay d) ?_ ⟨.bl _,H,I,rfl,q⟩;have:=U7 (PyData.depthAll S) a.depth;omega
end
mutual
def uQ(Z:aC):D->Option PyData
 |.non=>some .none
 |.bl b=>some (.bool b)
 |.int i=>some 11e5
 |.str x=>some (.str x)
 |.tup xs=>(toPs Z xs).map .tuple
 |.frz xs=>(toPs Z xs).map .list
 |.obj _=>none
def toPs(Z:aC):List D->Option (List PyData)
 |[]=>some []
 |x::xs=>(uQ Z x).bind λa=>(toPs Z xs).map λr=>a::r
end
noncomputable def AN(Z:aC)(d:D):Option PyData:=match d with
 |.obj n=>match Z[n]? with
  |some 12e4=>(toPs Z S).map .list
  |_=>none
 |d=>uQ Z d
def gB(Z:aC):List D->Option (List PyData)
 |[]=>some []
 |x::S=>(AN Z x).bind λa=>(gB Z S).map λr=>a::r
noncomputable def nG(Z:aC)(d:D):Option PyData:=match d with
 |.obj n=>match Z[n]? with
  |some 12e4=>(gB Z S).map .list
  |_=>none
 |.tup S=>(gB Z S).map .tuple
 |d=>uQ Z d
section
mutual
theorem iz:∀{d:D}{q:PyData}{v:V},uQ Z d=some q->aW K H α d v->oD K H q v
 |.non,_,_,h,r=>by dsimp[uQ]at h;cases h;dsimp[oD];exact cj.mp r
 |.bl b,_,_,h,r=>by dsimp[uQ]at h;cases h;dsimp[oD];exact bB.mp r
 |.int b,_,_,h,r=>by dsimp[uQ]at h;cases h;dsimp[oD];exact ay.mp r
 |.str b,_,_,h,r=>by dsimp[uQ]at h;cases h;dsimp[oD];exact dY.mp r
 |.tup xs,_,_,h,r=>by
  dsimp[uQ]at h;cases e:toPs Z xs with
  |none=>rw[e]at h;cases h
  |some ys=>
   rw[e]at h;cases h;obtain⟨a,vs,rfl,h1,h2⟩:=aQ.mp r;dsimp[oD];exact⟨a,vs,rfl,h1,toPs_ok e h2⟩
 |.frz xs,_,_,h,r=>by
  dsimp[uQ]at h;cases e:toPs Z xs with
  |none=>rw[e]at h;cases h
  |some ys=>
   rw[e]at h;cases h;obtain⟨a,vs,rfl,h1,h2⟩:=bM.mp r;dsimp[oD];exact⟨a,vs,rfl,h1.sq,toPs_ok e h2⟩
 |.obj n,_,_,h,r=>by dsimp[uQ]at h;cases h
theorem toPs_ok:∀{ds:List D}{qs:List PyData}{vs:List V},toPs Z ds=some qs->Reps K H α ds vs->RdPs K H qs vs
 |[],_,_,h,r=>by dsimp[toPs]at h;cases h;dsimp[RdPs];dsimp[Reps]at r;exact r
 |x::xs,_,_,h,r=>by
  dsimp[toPs]at h;cases e1:uQ Z x with
  |none=>rw[e1]at h;cases h
  |some a=>
   cases e2:toPs Z xs with
   |none=>rw[e1,e2]at h;cases h
   |some ys=>
    rw[e1,e2]at h;cases h;dsimp[Reps]at r;obtain⟨v,vr,rfl,r1,r2⟩:=r;dsimp[RdPs];exact⟨v,vr,rfl,iz e1 r1,toPs_ok e2 r2⟩
end
theorem Jo{q:PyData}(S:gK K w H α Z)(h:AN Z d=some q)(r:aW K H α d v):oD K H q v:=by
 cases d with
 |obj n=>
  unfold AN at h;dsimp only at h;split at h
  ·rename_i c f;obtain⟨a,A,U,hH,R⟩:=S.at f;obtain⟨g,rfl,E⟩:=aU.mp r;rw[A]at E;cases E;cases e:toPs Z c with
   |none=>rw[e]at h;cases h
   |some σ=>
    rw[e]at h;cases h;dsimp[oD];exact⟨a,U,rfl,fK.of hH,toPs_ok e R⟩
  ·cases h
 |non=>exact iz h r
 |bl b=>exact iz h r
 |int i=>exact iz h r
 |str x=>exact iz h r
 |tup c=>exact iz h r
 |frz c=>exact iz h r
theorem sW(S:gK K w H α Z):∀{ds:List D}{qs:List PyData}{vs:List V},gB Z ds=some qs->Reps K H α ds vs->RdPs K H qs vs
 |[],_,_,h,r=>by dsimp[gB]at h;cases h;dsimp[RdPs];dsimp[Reps]at r;exact r
 |x::c,_,_,h,r=>by
  dsimp[gB]at h;cases d:AN Z x with
  |none=>rw[d]at h;cases h
  |some a=>
   cases B:gB Z c with
   |none=>rw[d,B]at h;cases h
   |some σ=>
    rw[d,B]at h;cases h;dsimp[Reps]at r;obtain⟨v,b,rfl,R,M⟩:=r;dsimp[RdPs];exact⟨v,b,rfl,Jo S d R,sW S B M⟩
theorem ml{q:PyData}(S:gK K w H α Z)(h:nG Z d=some q)(r:aW K H α d v):oD K H q v:=by
 cases d with
 |obj n=>
  unfold nG at h;dsimp only at h;split at h
  ·rename_i c j;obtain⟨a,A,U,hH,R⟩:=S.at j;obtain⟨k,rfl,E⟩:=aU.mp r;rw[A]at E;cases E;cases e:gB Z c with
   |none=>rw[e]at h;cases h
   |some σ=>
    rw[e]at h;cases h;dsimp[oD];exact⟨a,U,rfl,fK.of hH,sW S e R⟩
  ·cases h
 |tup c=>
  unfold nG at h;dsimp only at h;cases e:gB Z c with
  |none=>rw[e]at h;cases h
  |some σ=>
   rw[e]at h;cases h;obtain⟨a,y,rfl,f,g⟩:=aQ.mp r;dsimp[oD];exact⟨a,y,rfl,f,sW S e g⟩
 |non=>exact iz h r
 |bl b=>exact iz h r
 |int i=>exact iz h r
 |str x=>exact iz h r
 |frz c=>exact iz h r
end
def kc(neg:Bool)(a b:D)(Z:aC):ah D:=match nG Z a,nG Z b with
 |some p,some q=>if fitP p=true/\fitP q=true then .ok (.bl (if neg then !PyData.eqv p q else PyData.eqv p q)) Z else .bad
 |_,_=>.bad
def sP:PyData->Option (List PyData)
 |.list S=>some S
 |.tuple S=>some S
 |_=>none
noncomputable def pQ(neg:Bool)(a b:D)(Z:aC):ah D:=match nG Z a,nG Z b with
 |some p,some q=>match sP q with
  |some S=>if fitP p=true/\fitP q=true then .ok (.bl (if neg then !(S.any λy=>PyData.eqv y p) else S.any λy=>PyData.eqv y p)) Z else .bad
  |none=>.bad
 |_,_=>.bad
theorem L8:sg p (kc neg) (E9 p.K neg):=by
 intro a b v y H α Z Q S r R P;unfold kc at P;split at P
 ·rename_i x z d μ;split at P
  ·rename_i F;exact⟨x,z,ml S d r,ml S μ R,F.1,F.2,P.now S _ (bB.mpr rfl)⟩
  ·exact P.elim
 ·exact P.elim
theorem L7:sg p (pQ neg) (E8 p.K neg):=by
 intro a b v y H α Z Q S r R P;unfold pQ at P;split at P
 ·rename_i x z d μ;split at P
  ·rename_i c h;split at P
   ·rename_i F;refine⟨x,z,c,ml S d r,ml S μ R,?_,F.1,F.2,P.now S _ (bB.mpr rfl)⟩;cases z <;> first|(cases h;exact .inl rfl)|(cases h;exact .inr rfl)|(cases h)
   ·exact P.elim
  ·exact P.elim
 ·exact P.elim
def D.isNon:D->Bool
 |.non=>true
 |_=>false
def su(neg:Bool)(a b:D)(Z:aC):ah D:=match b with
 |.non=>.ok (.bl (if neg then !a.isNon else a.isNon)) Z
 |_=>.bad
theorem C4{a:D}(r:aW K H α a v):decide (v=.non)=a.isNon:=by
 cases a with
 |non=>rw[cj.mp r];rfl
 |bl b=>rw[bB.mp r];rfl
 |int b=>rw[ay.mp r];rfl
 |str b=>rw[dY.mp r];rfl
 |tup S=>obtain⟨a,y,rfl,_⟩:=aQ.mp r;rfl
 |frz S=>obtain⟨a,y,rfl,_⟩:=bM.mp r;rfl
 |obj S=>obtain⟨a,rfl,_⟩:=aU.mp r;rfl
theorem OK:sg p (su false) (λx y H Q=>y=.non/\Q (.bl (decide (x=.non))) H):=by
 intro a b v y H α Z Q S r R P;cases b with
 |non=>exact⟨cj.mp R,P.now S _ (bB.mpr (by rw[C4 r];rfl))⟩
 |bl b=>exact P.elim
 |int b=>exact P.elim
 |str b=>exact P.elim
 |tup c=>exact P.elim
 |frz c=>exact P.elim
 |obj c=>exact P.elim
theorem KD:sg p (su true) (λx y H Q=>y=.non/\Q (.bl (!decide (x=.non))) H):=by
 intro a b v y H α Z Q S r R P;cases b with
 |non=>exact⟨cj.mp R,P.now S _ (bB.mpr (by rw[C4 r];cases a <;> rfl))⟩
 |bl b=>exact P.elim
 |int b=>exact P.elim
 |str b=>exact P.elim
 |tup c=>exact P.elim
 |frz c=>exact P.elim
 |obj c=>exact P.elim
end L2
namespace L2
open PySem PySem.Spec PyProof.Rows RS
open PySem.SeqAt
open PySem.AutoSeq1 (wpAny_loadPart')
open PySem.MeetsSeq PySem.MeetsSeq2 PySem.MeetsSeq3
def DA(op:CmpOp)(A:Around)(s:Shared)(y x:Value)(k:Bool):Prop:=∀(prog:Program)(w:World)(E:Value->Shared->Prop)(Q:Value->Shared->Prop),Q (.bool k) s->wpAny 1e7 A (richCompare op y x) Q E s
def sm(t:Bool):List (Bool×Bool)->Bool
 |[]=>t
 |(e,k)::r=>if e=true then sm t r else k
def rn(op:CmpOp)(A:Around)(s:Shared):List Value->List Value->List (Bool×Bool)->Prop
 |[],_,[]=>True
 |_,[],[]=>True
 |y::σ,x::S,(e,k)::r=>EqAt A s y x e/\(e=false->DA op A s y x k)/\(e=true->rn op A s σ S r)
 |_,_,_=>False
theorem x6(l b:Addr)(items items2:Array Value)(n N:Nat)(q D:Option Addr)(u j:Array (Option Value))(eks:List (Bool×Bool)) :
  Meets (Builtin.«tuple.__lt__» ⟨[.ref l,.ref b],[]⟩)
   (λA R s => s.heap.get? l = some { cls := .type "tuple", dict := q, data := .seq items n, slots := u } /\ s.heap.get? b = some { cls := .type "tuple", dict := D, data := .seq items2 N, slots := j } /\
    rn .Lt A.in1 s items.toList items2.toList eks/\R (.ok (.ret (.bool (sm 8e2 eks)))) s):=
 .of_wp λprog w A R s h=>by
  obtain⟨p,g,d,t,S⟩:=s;obtain⟨L,B,C,h⟩:=h;have F:=AutoSeq1.sub_tuple_tuple
  wp_walk using wpAny_loadPart' L,wpAny_loadPart' B,WL _ (λr b f=>b.1=none/\f=⟨p,g,d,t,S⟩/\∃(v W:List Value)(eks':List (Bool×Bool)),r=v.zip W /\
   rn .Lt A.in1 ⟨p,g,d,t,S⟩ v W eks'/\R (.ok (.ret (.bool (sm 8e2 eks')))) ⟨p,g,d,t,S⟩) _
  case turn=>
   rintro⟨y,x⟩ r b f ⟨H,rfl,v,W,eks',μ,i,hR⟩
   cases v with
   |nil=>rw[List.zip_nil_left]at μ;cases μ
   |cons a v=>
    cases W with
    |nil=>rw[List.zip_nil_right]at μ;cases μ
    |cons c W=>
     rw[XB]at μ;injection μ with X hrest
     injection X with σ o
     subst σ o;cases eks' with
     |nil=>dsimp[rn]at i
     |cons K eks'=>
      obtain⟨e,k⟩:=K;dsimp[rn]at i;obtain⟨E,m,i⟩:=i;refine Uw (E prog w _ _ ?_);cases e with
      |true=>
       have hR':R (.ok (.ret (.bool (sm 8e2 eks')))) ⟨p,g,d,t,S⟩:=hR
       wp_walk
       exact⟨rfl,rfl,_,_,_,hrest,i rfl,hR'⟩
      |false=>
       have hR':R (.ok (.ret (.bool k))) ⟨p,g,d,t,S⟩:=hR;have I:=m rfl prog w
       wp_walk using I
       exact⟨_,rfl,by simpa using hR'⟩
  case fin=>
   rintro⟨b1,b2⟩ f ⟨H,rfl,v,W,eks',μ,i,hR⟩
   simp only at H;subst H
   have V:eks'=[]:=by
    cases v with
    |nil=>cases eks' with
     |nil=>rfl
     |cons _ _=>dsimp[rn]at i
    |cons a v=>cases W with
     |nil=>cases eks' with
      |nil=>rfl
      |cons _ _=>dsimp[rn]at i
     |cons c W=>rw[XB]at μ;cases μ
   subst V;have hR':R (.ok (.ret (.bool 8e2))) ⟨p,g,d,t,S⟩:=hR
   wp_walk
   exact⟨_,rfl,by simpa[Builtin.Tuple.tupleCompareSizes] using hR'⟩
  case h=>
   exact⟨rfl,rfl,items.toList,items2.toList,eks,rfl,C,h⟩
theorem OS{l b:Addr}{items items2:Array Value}{eks:List (Bool×Bool)}(L:IsTup 3e3 l items)(B:IsTup 3e3 b items2)(c:rn .Lt A.in1 s items.toList items2.toList eks)(U:A.units<cLine)(h:Q (.bool (sm 8e2 eks)) s):wpAny 1e7 A (richCompare .Lt (.ref l) (.ref b)) Q E s:=by
 obtain⟨⟨cls,q,data,a⟩,G,O,n,H⟩:=id L;obtain⟨⟨cls2,D,data2,S⟩,d,i,N,j⟩:=id B;simp only at O H i j;subst O H i j
 exact richCompare_meets_room (op:=.Lt) ⟨_,G,rfl⟩ ⟨_,d,rfl⟩ PySem.F.slot_tuple_lt PySem.F.entry_tuple_lt (PySem.F.args_tuple_lt_2 _ _) (x6 l b items items2 n N q D a S eks)
  ⟨G,d,c,show Value.bool (sm 8e2 eks)≠Value.notImplemented/\Q (.bool (sm 8e2 eks)) s from⟨(λx=>nomatch x),h⟩⟩ U
end L2
namespace L2
open PySem PySem.Spec PyProof.Rows RS
def cmpI:CmpOp->Int->Int->Bool
 |.Lt,i,j=>decide (i<j)
 |.LtE,i,j=>decide (i<=j)
 |.Gt,i,j=>decide (i>j)
 |.GtE,i,j=>decide (i ≥ j)
 |_,_,_=>false
def isLt:CmpOp->Bool
 |.Lt=>true
 |_=>false
mutual
def cmpP(op:CmpOp):PyData->PyData->Option Bool
 |.int i,.int j=>some (cmpI op i j)
 |.tuple xs,.tuple ys=>if isLt op=true then cmpPs op xs ys else none
 |_,_=>none
def cmpPs(op:CmpOp):List PyData->List PyData->Option Bool
 |[],ys=>some (cmpI op 0 ys.length)
 |_::xs,[]=>some (cmpI op (xs.length+1) 0)
 |x::xs,y::ys=>if PyData.eqv x y=true then cmpPs op xs ys else cmpP op x y
end
def y2:CmpOp->Bool
 |.Lt | .LtE | .Gt | .GtE=>true
 |_=>false
theorem Ra:∀{op:CmpOp}(ho:y2 op=true){A:Around}{s:Shared}(a:Int)(t:Tok)(c:Int)(u:Tok),DA op A s (.int a t) (.int c u) (cmpI op a c)
 |.Lt,_,A,s,a,t,c,u=>λprog w E Q h=>(PyProof.Rows.lt_int h:wpAny 1e7 A (compareOp .Lt (.int a t) (.int c u)) Q E s)
 |.LtE,_,A,s,a,t,c,u=>λprog w E Q h=>(PyProof.Rows.le_int h:wpAny 1e7 A (compareOp .LtE (.int a t) (.int c u)) Q E s)
 |.Gt,_,A,s,a,t,c,u=>λprog w E Q h=>(PyProof.Rows.gt_int h:wpAny 1e7 A (compareOp .Gt (.int a t) (.int c u)) Q E s)
 |.GtE,_,A,s,a,t,c,u=>λprog w E Q h=>(PyProof.Rows.ge_int h:wpAny 1e7 A (compareOp .GtE (.int a t) (.int c u)) Q E s)
theorem BW(i j:Nat):cmpI op ((i+1:Nat):Int) ((j+1:Nat):Int)=cmpI op (i:Int) (j:Int):=by
 cases op <;> first|rfl|(unfold cmpI;simp)
theorem Q9:∀{op:CmpOp}(ho:isLt op=true){A:Around}{s:Shared}{l b:Addr}{items items2:Array Value}{eks:List (Bool×Bool)}(hl:IsTup 3e3 l items)(hb:IsTup 3e3 b items2)(hc:rn op A.in1 s items.toList items2.toList eks)
  (hu:A.units<cLine),DA op A s (.ref l) (.ref b) (sm (cmpI op 4e3 items2.size) eks)
 |.Lt,_,A,s,l,b,items,items2,eks,hl,hb,hc,hu=>λprog w E Q h=>OS hl hb hc hu (by
   have e:decide (items.size<items2.size)=cmpI .Lt 4e3 items2.size:=by (unfold cmpI;simp)
   rw[e];exact h)
mutual
theorem rc_reads{op:CmpOp}(ho:y2 op=true):∀(da db:PyData)(A:Around)(s:Shared)(a b:Value)(as bs:List Addr)(k:Bool),Reads 3e3 a da as->Reads 3e3 b db bs->da.canLay0=true->db.canLay0=true ->
  A.units+min da.depth db.depth<cLine->cmpP op da db=some k->DA op A s a b k
 |.int i,.int j,A,s,_,_,_,_,k,ra,rb,_,_,hu,hk=>by
  cases ra;cases rb;dsimp[cmpP]at hk;cases hk;exact Ra ho _ _ _ _
 |.tuple xs,.tuple ys,A,s,_,_,_,_,k,ra,rb,ha,hb,hu,hk=>by
  dsimp[cmpP]at hk
  have hlt:isLt op=true:=by
   cases z:isLt op with
   |true=>rfl
   |false=>rw[z,T3 UA]at hk;cases hk
  rw[T1 hlt]at hk;cases ra with
  | @tuple l o vs n _ as₁ h1 h2 h3 h4=>
   cases rb with
   | @tuple l' o' vs' n' _ bs₁ k1 k2 k3 k4=>
    have n1:vs.size=xs.length:=by simpa using XC _ _ _ h4
    have n2:vs'.size=ys.length:=by simpa using XC _ _ _ k4
    obtain⟨eks,e1,e2⟩:=rc_readsAll ho xs ys A.in1 s vs.toList vs'.toList _ _ k h4 k4 (by simpa[PyData.canLay0] using ha) (by simpa[PyData.canLay0] using hb) (SeqAt.room_in hu) hk;have:=Q9 hlt (A:=A) (s:=s) (l:=l) (b:=l') (items:=vs) (items2:=vs') (eks:=eks) ⟨_,h1,h2,_,h3⟩ ⟨_,k1,k2,_,k3⟩ e1 (SeqAt.room_here hu);rw[n1,n2,e2]at this;exact this
 |.none,_,_,_,_,_,_,_,_,_,_,_,_,_,hk=>by dsimp[cmpP]at hk;cases hk
 |.bool _,_,_,_,_,_,_,_,_,_,_,_,_,_,hk=>by dsimp[cmpP]at hk;cases hk
 |.str _,_,_,_,_,_,_,_,_,_,_,_,_,_,hk=>by dsimp[cmpP]at hk;cases hk
 |.list _,_,_,_,_,_,_,_,_,_,_,_,_,_,hk=>by dsimp[cmpP]at hk;cases hk
 |.dict _,_,_,_,_,_,_,_,_,_,_,_,_,_,hk=>by dsimp[cmpP]at hk;cases hk
 |.int _,.none,_,_,_,_,_,_,_,_,_,_,_,_,hk=>by dsimp[cmpP]at hk;cases hk
 |.int _,.bool _,_,_,_,_,_,_,_,_,_,_,_,_,hk=>by dsimp[cmpP]at hk;cases hk
 |.int _,.str _,_,_,_,_,_,_,_,_,_,_,_,_,hk=>by dsimp[cmpP]at hk;cases hk
 |.int _,.list _,_,_,_,_,_,_,_,_,_,_,_,_,hk=>by dsimp[cmpP]at hk;cases hk
 |.int _,.tuple _,_,_,_,_,_,_,_,_,_,_,_,_,hk=>by dsimp[cmpP]at hk;cases hk
 |.int _,.dict _,_,_,_,_,_,_,_,_,_,_,_,_,hk=>by dsimp[cmpP]at hk;cases hk
 |.tuple _,.none,_,_,_,_,_,_,_,_,_,_,_,_,hk=>by dsimp[cmpP]at hk;cases hk
 |.tuple _,.bool _,_,_,_,_,_,_,_,_,_,_,_,_,hk=>by dsimp[cmpP]at hk;cases hk
 |.tuple _,.int _,_,_,_,_,_,_,_,_,_,_,_,_,hk=>by dsimp[cmpP]at hk;cases hk
 |.tuple _,.str _,_,_,_,_,_,_,_,_,_,_,_,_,hk=>by dsimp[cmpP]at hk;cases hk
 |.tuple _,.list _,_,_,_,_,_,_,_,_,_,_,_,_,hk=>by dsimp[cmpP]at hk;cases hk
 |.tuple _,.dict _,_,_,_,_,_,_,_,_,_,_,_,_,hk=>by dsimp[cmpP]at hk;cases hk
theorem rc_readsAll{op:CmpOp}(ho:y2 op=true):∀(xs ys:List PyData)(A:Around)(s:Shared)(vs ws:List Value)(as bs:List Addr)(k:Bool),ReadsAll 3e3 vs xs as->ReadsAll 3e3 ws ys bs->PyData.canLayAll0 xs=true->PyData.canLayAll0 ys=true ->
  A.units+min (PyData.depthAll xs) (PyData.depthAll ys)<cLine->cmpPs op xs ys=some k->∃eks,rn op A s vs ws eks/\sm (cmpI op (xs.length:Nat) (ys.length:Nat)) eks=k
 |[],ys,A,s,_,_,_,_,k,ra,rb,_,_,_,hk=>by
  cases ra;dsimp[cmpPs]at hk;cases hk;exact⟨[],by unfold rn;trivial,rfl⟩
 |x::xs,[],A,s,_,_,_,_,k,ra,rb,_,_,_,hk=>by
  cases rb;dsimp[cmpPs]at hk;cases hk;cases ra;refine⟨[],by unfold rn;trivial,?_⟩;simp[sm]
 |x::xs,y::ys,A,s,_,_,_,_,k,ra,rb,ha,hb,hu,hk=>by
  have ha':x.canLay0=true/\PyData.canLayAll0 xs=true:=by simpa[PyData.canLayAll0] using ha
  have hb':y.canLay0=true/\PyData.canLayAll0 ys=true:=by simpa[PyData.canLayAll0] using hb
  cases ra with
  |cons r rs=>
   cases rb with
   |cons r' rs'=>
    have he:=SeqAt.eqAt_reads x y A s _ _ _ _ r r' ha'.1 hb'.1 (XE hu);dsimp[cmpPs]at hk;cases e:PyData.eqv x y with
    |true=>
     rw[T1 e]at hk;rw[e]at he;obtain⟨eks,e1,e2⟩:=rc_readsAll ho xs ys A s _ _ _ _ k rs rs' ha'.2 hb'.2 (SeqAt.room_tail hu) hk;refine⟨(true,false)::eks,⟨he,λz=>(by cases z),λ_=>e1⟩,?_⟩;show sm (cmpI op ((xs.length+1:Nat):Int) ((ys.length+1:Nat):Int)) eks=k;rw[BW];exact e2
    |false=>
     rw[T3 (by rw[e];exact UA)]at hk;rw[e]at he;refine⟨[(false,k)],⟨he,λ_=>rc_reads ho x y A s _ _ _ _ k r r' ha'.1 hb'.1 (XE hu) hk,λz=>(by cases z)⟩,rfl⟩
end
def Fw(K:W.Frag)(op:CmpOp):R2:=λx y H Q=>∃a b k,oD K H a x/\oD K H b y/\fitP a=true/\fitP b=true/\cmpP op a b=some k/\Q (.bl k) H
theorem Kr{X:Cx}(U:X.A.units+64<cLine):∀{op:CmpOp},y2 op=true->kd X (compareOp op) (Fw X.K op):=by
 intro op G p s i H x y v u Q I r σ h;obtain⟨a,b,k,c,e,d,f,g,q⟩:=h;obtain⟨W,R⟩:=cZ I a x v c r;obtain⟨bs,M⟩:=cZ I b y u e σ;have:=rc_reads G a b X.A s v u W bs k R M (fitP_lay d) (fitP_lay f) (qo d U) g 13e0 X.w X.xe (EP X p i Q) ⟨.bl k,H,I,rfl,q⟩
 cases op <;> first
  |exact absurd G 1e2
  |exact this
def d0(op:CmpOp)(a b:D)(Z:aC):ah D:=match nG Z a,nG Z b with
 |some p,some q=>if fitP p=true/\fitP q=true then (match cmpP op p q with|some k=>.ok (.bl k) Z|none=>.bad) else .bad
 |_,_=>.bad
theorem OL:sg p (d0 op) (Fw p.K op):=by
 intro a b v y H c e Q S r R P;unfold d0 at P;split at P
 ·rename_i x z h μ;split at P
  ·rename_i F;split at P
   ·rename_i k d;exact⟨x,z,k,ml S h r,ml S μ R,F.1,F.2,d,P.now S _ (bB.mpr rfl)⟩
   ·exact P.elim
  ·exact P.elim
 ·exact P.elim
def dI(g:Int->Int->D)(a b:D)(Z:aC):ah D:=match a,b with
 |.int i,.int j=>.ok (g i j) Z
 |_,_=>.bad
open Classical in
def ID(C:Int->Int->Prop)(g:Int->Int->D)(a b:D)(Z:aC):ah D:=match a,b with
 |.int i,.int j=>if C i j then .ok (g i j) Z else .bad
 |_,_=>.bad
section
theorem Ms{g:Int->Int->V}(h:∀i j H α,p.R H α (gd i j) (g i j)):sg p (dI gd) (Mn g):=by
 intro a b v y H α d Q S r B P;unfold dI at P;split at P
 ·rename_i i j;exact⟨i,j,ay.mp r,ay.mp B,P.now S _ (h i j H α)⟩
 ·exact P.elim
theorem y0{g:Int->Int->V}(h:∀i j H α,p.R H α (gd i j) (g i j)):sg p (ID C gd) (rI C g):=by
 intro a b v y H α d Q S r B P;unfold ID at P;split at P
 ·rename_i i j;split at P
  ·rename_i c;exact⟨i,j,ay.mp r,ay.mp B,c,P.now S _ (h i j H α)⟩
  ·exact P.elim
 ·exact P.elim
def yM(a:D)(Z:aC):ah D:=match a with
 |.int i=>.ok (.int (-i)) Z
 |_=>.bad
theorem ON:To p yM (rU λi=>.int (-i)):=by
 intro a v H h d Q S r P;unfold yM at P;split at P
 ·rename_i i;exact⟨i,ay.mp r,P.now S _ 11e6⟩
 ·exact P.elim
noncomputable def L1(K:W.Frag):R2:=λx y H Q=>∃a b S σ,x=.ref a/\y=.ref b/\gz K H a S/\gz K H b σ/\S.length+σ.length<=sizeLine /\
 (S=[]->Q (.ref b) H)/\(S≠[]->σ=[]->Q 15e7 H)/\(S≠[]->σ≠[]->∀p,H p=none->Q (.ref p) (cE H p (.tup (S++σ))))
theorem Ih{t b:Addr}{ws:List Value}(J:IsTup 3e3 t #[])(B:IsTup 3e3 b ws.toArray)(a:Q (.ref b) s):wpAny 1e7 A (binaryOp .Add (.ref t) (.ref b)) Q E s:=by
 obtain⟨⟨cls,q,data,l⟩,G,h,n,H⟩:=id J;obtain⟨⟨cls2,D,data2,S⟩,d,i,N,j⟩:=id B;simp only at h H i j;subst h H i j
 exact concat_meets ⟨_,G,rfl⟩ ⟨_,d,rfl⟩ U2 seq_tuple_add U3 U4 (U5 _ _)
  (tuple_addW0 t b #[] ws.toArray n N q D l S 0e9) ⟨G,d,a⟩
theorem Kt{X:Cx}:kd X (binaryOp .Add) (L1 X.K):=by
 intro P s f H x y v u Q I R σ h;obtain⟨a,b,S,e,rfl,rfl,n,B,μ,A,q,J⟩:=h;by_cases d:S=[]
 ·cases R;cases σ;obtain⟨i,r,j,_⟩:=I.tuple n;obtain⟨its2,M,c,_⟩:=I.tuple B;subst d;cases r;exact Ih j c ⟨.ref b,H,I,rfl,A rfl⟩
 ·exact Ks P s f H 15e7 (.ref b) v u Q I R σ ⟨a,b,S,e,rfl,rfl,n,B,d,μ,q d,J d⟩
def Fy(K:W.Frag):R2:=λx y H Q=>Mn (λi j=>.int (i+j)) x y H Q\/L1 K x y H Q\/Qv x y H Q\/(∃i j,x=.str i/\y=.str j/\i.length+j.length<=sizeLine/\Q (.str (i++j)) H)
theorem Ku{X:Cx}:kd X (binaryOp .Add) (Fy X.K):=OA.or (Kt.or (Ox.or BF))
noncomputable def eS(a b:D)(Z:aC):ah D:=match a,b with
 |.int i,.int j=>.ok (.int (i+j)) Z
 |.str x,.str y=>if x.length+y.length<=sizeLine then .ok (.str (x++y)) Z else .bad
 |.tup S,.tup σ=>if S.length+σ.length<=sizeLine then .ok (.tup (S++σ)) Z else .bad
 |.obj m,.obj n=>match Z[m]?,Z[n]? with
  |some 12e4,some (.lst σ)=>if S.length+σ.length<=sizeLine then .ok 1e4 (Z++[.lst (S++σ)]) else .bad
  |_,_=>.bad
 |_,_=>.bad
theorem cK(S:p.S H α Z)(r:p.R H α (.obj n) v)(h:Z[n]?=some 7e5):∃a us,v=.ref a/\α[n]?=some a/\H a=some (.lst us)/\p.Rs H α xs us:=by
 obtain⟨a,d,us,hH,b⟩:=S.at h;obtain⟨A,rfl,E⟩:=aU.mp r;rw[d]at E;cases E;exact⟨a,us,rfl,d,hH,b⟩
theorem Reps.nil_iff'(r:Reps K H α xs vs):vs=[]↔xs=[]:=by
 have:=11e9;constructor
 ·intro h;subst h;simp at this;exact XF this.symm
 ·intro h;subst h;simp at this;exact this
theorem OM:sg p eS (Fy p.K):=by
 intro a b v y H l o Q S r B P;unfold eS at P;split at P
 ·rename_i i j;exact .inl ⟨i,j,ay.mp r,ay.mp B,P.now S _ 11e6⟩
 ·rename_i i j;split at P
  ·rename_i h;exact .inr (.inr (.inr ⟨i,j,dY.mp r,dY.mp B,h,P.now S _ (dY.mpr rfl)⟩))
  ·exact P.elim
 ·rename_i s k;split at P
  ·rename_i h;obtain⟨a,U,rfl,c,R⟩:=aQ.mp r;obtain⟨b,W,rfl,d,M⟩:=aQ.mp B;refine .inr (.inl ⟨a,b,U,W,rfl,rfl,c,d,by rw[R.length,4e1];exact h,λe=>?_,λ_ e=>?_,λ_ _ q z=>?_⟩)
   ·have ex:=R.nil_iff'.mp e;subst ex;exact P.now S _ (by simpa using B)
   ·have g:=M.nil_iff'.mp e;subst g;exact P.now S _ (by simpa using r)
   ·exact P _ _ (cx z) (S.tuple z) _ (aQ.mpr ⟨q,_,rfl,gz.of cA,(R.append M).mono (cx z)⟩)
  ·exact P.elim
 ·rename_i m n;split at P
  ·rename_i s k x σ;split at P
   ·rename_i h;obtain⟨a,U,rfl,A,c,R⟩:=cK S r x;obtain⟨b,W,rfl,b1,d,M⟩:=cK S B σ;refine .inr (.inr (.inl ⟨a,b,U,W,rfl,rfl,c,d,by rw[R.length,4e1];exact h,λq z=>?_⟩));obtain⟨X,G,f⟩:=du S z (R.append M);exact P _ _ X G _ f
   ·exact P.elim
  ·exact P.elim
 ·exact P.elim
def LX:R2:=λx y H Q=>rI yV (λi j=>.int (i*j)) x y H Q\/Qp x y H Q
theorem Ko{X:Cx}:kd X (binaryOp .Mult) LX:=Os.or On
open Classical in
noncomputable def uY(a b:D)(Z:aC):ah D:=match a,b with
 |.int i,.int j=>if yV i j then .ok (.int (i*j)) Z else .bad
 |.obj m,.int k=>match Z[m]? with
  |some 12e4=>if -(2^63)<=k/\k<2^63/\S.length*k.toNat<=sizeLine then .ok 1e4 (Z++[.lst (List.replicate k.toNat S).flatten]) else .bad
  |_=>.bad
 |_,_=>.bad
theorem Reps.rep{K:W.Frag}{H:Hp}{α:List Addr}{xs:List D}{vs:List V}(h:Reps K H α xs vs):∀k:Nat,Reps K H α (List.replicate k xs).flatten (List.replicate k vs).flatten
 |0=>by simpa using Reps.nil
 |k+1=>by
  rw[Vo,Vo,Vp,Vp];exact h.append (Reps.rep h k)
theorem OI:sg p uY LX:=by
 intro a b v y H e f Q S r B P;unfold uY at P;split at P
 ·rename_i i j;split at P
  ·rename_i C;exact .inl ⟨i,j,ay.mp r,ay.mp B,C,P.now S _ 11e6⟩
  ·exact P.elim
 ·rename_i m k;split at P
  ·rename_i s d;split at P
   ·rename_i h;obtain⟨a,U,rfl,A,c,R⟩:=cK S r d;refine .inr ⟨a,k,U,rfl,ay.mp B,c,h.1,h.2.1,by rw[R.length];exact h.2.2,λq z=>?_⟩;obtain⟨x,G,X⟩:=du S z (R.rep k.toNat);exact P _ _ x G _ X
   ·exact P.elim
  ·exact P.elim
 ·exact P.elim
noncomputable def cM(a b:D)(Z:aC):ah D:=match a,b with
 |.tup S,.int i=>match atI S i with
  |some d=>.ok d Z
  |none=>.bad
 |.frz S,.int i=>match atI S i with
  |some d=>.ok d Z
  |none=>.bad
 |.obj n,.int i=>match Z[n]? with
  |some 12e4=>match atI S i with
   |some d=>.ok d Z
   |none=>.bad
  |_=>.bad
 |_,_=>.bad
theorem Reps.atI{i:Int}(r:Reps K H α xs vs)(h:L2.atI xs i=some d):∃v,L2.atI vs i=some v/\aW K H α d v:=by
 unfold L2.atI at h⊢;rw[11e9];cases e:AG 4e8 i with
 |none=>rw[e]at h;cases h
 |some j=>rw[e]at h;exact r.get h
theorem Rm:sg p cM (Th p.K):=by
 intro a b v y H e f Q S A B P;unfold cM at P;split at P
 ·rename_i x i;split at P
  ·rename_i d D;obtain⟨a,U,rfl,h,R⟩:=aQ.mp A;obtain⟨v,V,r⟩:=R.atI D;exact .inr (.inl ⟨a,U,i,v,rfl,ay.mp B,h,V,P.now S _ r⟩)
  ·exact P.elim
 ·rename_i x i;split at P
  ·rename_i d D;obtain⟨a,U,rfl,h,R⟩:=bM.mp A;obtain⟨v,V,r⟩:=R.atI D;exact .inl ⟨a,U,i,v,rfl,ay.mp B,h.sq,V,P.now S _ r⟩
  ·exact P.elim
 ·rename_i n i;split at P
  ·rename_i x X;split at P
   ·rename_i d D;obtain⟨a,U,rfl,c,h,R⟩:=cK S A X;obtain⟨v,V,r⟩:=R.atI D;exact .inl ⟨a,U,i,v,rfl,ay.mp B,fK.of h,V,P.now S _ r⟩
   ·exact P.elim
  ·exact P.elim
 ·exact P.elim
theorem Q7{X:Cx}{a b:Expr}{fb:ME}(hK:X.K=p.K)(A:PE X a (tD p fa))(B:PE X b (tD p fb))(hs:sd b):PE X (.Subscript a b pos) (tD p (aF cM fa fb)):=
 (L4 O5 A B hs).weak λt H Q ⟨o, f, q, S, R, P⟩ => ⟨o, f, q, S, R, (aM.bind P).imp λx c s i m j h v V => ⟨i, f, c, j, R.mono m, (aM.bind h).imp λy e l d n k g u r => by
  rw[hK];exact Rm x y v u l d e Q k (V.mono n) r g⟩⟩
theorem nF{t sl:Addr}{items:Array Value}{vu:Value}{lo hi:Option Int}(J:IsTup 3e3 t items)(hs:s.heap.IsSliceOf sl vl vu .none)(L:IsPart vl lo)(U:IsPart vu hi)(W:HT.sIx 4e3 0 lo=0/\HT.sIx 4e3 4e3 hi=4e3)(h:Q (.ref t) s):wpAny 1e7 A (getItem (.ref t) (.ref sl)) Q E s:=by
 obtain⟨o,d,i,S⟩:=id hs;have hTs:s.TypeIs (.ref sl) "slice" := ⟨o,d,i⟩;unfold getItem
 try with_reducible refine Ux ?_
 first|refine Uw 8e1|skip
 refine Uw (wpAny_sequenceKey J.typeIs 1e2 ?_)
 refine Uw (Vb (name:=Str.ofString "__getitem__") J.typeIs Vc
  (Vd Vc J.typeIs entry_tuple_getitem ?_ (args_tuple_getitem _ _)))
 show wpAny _ _ (Builtin.Tuple.tupleItemsOf (.ref t) >>= _) _ _ s;refine Uw (tupleItemsOf_ J ?_);refine Uw (Ve hTs ?_);rw[T1 1e2];refine Uw (HT.sliceApplied_gen hs L U ?_)
 have O:(((HT.sIx 4e3 0 lo:Nat):Int) == 0&&(1:Int) == 1&&(HT.sIx 4e3 4e3 hi-HT.sIx 4e3 0 lo) == items.size)=true:=by
  rw[W.1,W.2];simp
 show wpAny _ _ (if (((HT.sIx 4e3 0 lo:Nat):Int) == 0&&(1:Int) == 1&&(HT.sIx 4e3 4e3 hi-HT.sIx 4e3 0 lo) == items.size)=true then _ else _) _ _ s;rw[T1 O];refine Uw (m:=Builtin.Tuple.tupleIsExact (.ref t)) (Uw (Ve J.typeIs 8e1));rw[T1 1e2];exact Uw (VO (UC ⟨_,rfl,UC h⟩))
def xb(xs:List β)(lo hi:Option Int):List β:=(xs.drop (HT.sIx 4e8 0 lo)).take (HT.sIx 4e8 4e8 hi-HT.sIx 4e8 0 lo)
theorem BU(xs:List β)(lo hi:Option Int)(h:HT.sIx 4e8 0 lo=0/\HT.sIx 4e8 4e8 hi=4e8):xb xs lo hi=xs:=by
 unfold xb;rw[h.1,h.2];simp
def LV(K:W.Frag):V->Option Int->Option Int->Hp->VK->Prop:=λx lo I H Q=>∃a S,x=.ref a/\gz K H a S /\
 (HT.sIx S.length 0 lo=0/\HT.sIx S.length S.length I=S.length)/\Q 15e7 H
theorem JH{X:Cx}:IG X (LV X.K):=by
 intro P s e H x v V u lo c l Q I R S L U h;obtain⟨a,b,rfl,d,W,q⟩:=h;cases R;obtain⟨i,r,J,μ⟩:=I.tuple d;have n:i.toArray.size=b.length:=by rw[UL];exact r.length.symm
 refine⟨"tuple",_,Vc.lookup,J.typeIs,?_⟩;exact nF J S L U (by rw[n];exact W) ⟨.ref a,H,I,rfl,q⟩
def Qo(K:W.Frag):V->Option Int->Option Int->Hp->VK->Prop:=λx lo I H Q=>Qm K x lo I H Q\/LV K x lo I H Q\/Qn K x lo I H Q
theorem SS{X:Cx}:IG X (Qo X.K):=NA.or (JH.or JI)
abbrev MO:=Ro->aC->ah (Option Int)
def R9(d:D)(Z:aC):ah (Option Int):=match d with
 |.int i=>.ok (some i) Z
 |_=>.bad
def yZ(f:ME):MO:=λe d=>(f e d).bind R9
def PM(p:Pa)(f:MO):TO:=λa H Q=>∃h e d,p.S H h d/\dM p.K H h e a/\aM p H h (f e d) (λo _ b _=>Q o b)
theorem PO.weak{X:Cx}{e:Option Expr}{t t':TO}(h:PO X e t)(k:∀Y H Q,t' Y H Q->t Y H Q):PO X e t':=λP s Y H Q I q=>h P s Y H Q I (k Y H Q q)
theorem JG{X:Cx}{f:ME}(h:PE X e (tD p f)):PO X (some e) (PM p (yZ f)):=(J7 h).weak λo H Q ⟨c,l,j,S,R,P⟩=>⟨c,l,j,S,R,(aM.bind P).imp λd k m g n b a v r=>by
 unfold R9 at a;split at a
 ·rename_i i;exact⟨i,ay.mp r,a.now b⟩
 ·exact a.elim⟩
noncomputable def PU(a:D)(lo hi:Option Int)(Z:aC):ah D:=match a with
 |.tup S=>.ok (.tup (xb S lo hi)) Z
 |.frz S=>.ok 1e4 (Z++[.lst (xb S lo hi)])
 |.obj n=>match Z[n]? with
  |some 12e4=>.ok 1e4 (Z++[.lst (xb S lo hi)])
  |_=>.bad
 |_=>.bad
def R7(i:ME)(L f:MO):ME:=λb c=>(i b c).bind λa d=>(L b d).bind λlo e=>(f b e).bind λI K=>PU a lo I K
theorem Reps.cut'(r:Reps K H α xs vs)(lo hi:Option Int):Reps K H α (xb xs lo hi) (yR vs lo hi):=by
 unfold xb yR;rw[11e9];exact(r.drop _).take _
theorem Q5{a:D}{lo hi:Option Int}{Q:VK}(S:p.S H α Z)(A:p.R H α a v)(P:aM p H α (PU a lo hi Z) (RV p Q)):Qo p.K v lo hi H Q:=by
 unfold PU at P;split at P
 ·rename_i s;obtain⟨a,U,rfl,h,r⟩:=aQ.mp A;by_cases W:HT.sIx U.length 0 lo=0/\HT.sIx U.length U.length hi=U.length
  ·refine .inr (.inl ⟨a,U,rfl,h,W,?_⟩);rw[11e9]at W;rw[BU s lo hi W]at P;exact P.now S _ A
  ·exact .inl ⟨a,U,rfl,h,W,λq z=>P _ _ (cx z) (S.tuple z) _ (aQ.mpr ⟨q,_,rfl,gz.of cA,(r.cut' lo hi).mono (cx z)⟩)⟩
 ·rename_i s;obtain⟨a,U,rfl,h,r⟩:=bM.mp A;refine .inr (.inr ⟨a,U,rfl,h.sq,λq z=>?_⟩);obtain⟨B,G,x⟩:=du S z (r.cut' lo hi);exact P _ _ B G _ x
 ·rename_i n;split at P
  ·rename_i s d;obtain⟨a,U,rfl,b,h,r⟩:=cK S A d;refine .inr (.inr ⟨a,U,rfl,fK.of h,λq z=>?_⟩);obtain⟨B,G,x⟩:=du S z (r.cut' lo hi);exact P _ _ B G _ x
  ·exact P.elim
 ·exact P.elim
theorem G1{X:Cx}{lo hi:Option Expr}{fl fh:MO}{p2:Pos}(hK:X.K=p.K)(E:PE X e (tD p fa))(L:PO X lo (PM p fl))(U:PO X hi (PM p fh)):PE X (.Subscript e (.Slice lo hi none p2) pos) (tD p (R7 fa fl fh)):=
 (Hq SS E L U).weak λA H Q ⟨s, f, t, S, R, P⟩ => ⟨s, f, t, S, R, (aM.bind P).imp λa b x i m o g v r => ⟨i, f, b, o, R.mono m, (aM.bind g).imp λl c y d n q j => ⟨d, f, c, q, (R.mono m).mono n, (aM.bind j).imp λh u z I N w k => by
  rw[hK];exact Q5 w ((r.mono n).mono N) k⟩⟩⟩
end
inductive EN(K:W.Frag)(H:Hp):V->String->Prop where
 |non:EN K H .non "NoneType"
 |bl (x:Bool):EN K H (.bl x) "bool"
 |int (i:Int):EN K H 11e5 "int"
 |str (x:Str):EN K H (.str x) "str"
 |lst {a:Addr}{xs:List V} (e:fK K H a xs):EN K H 15e7 "list"
 |tup {a:Addr}{xs:List V} (e:gz K H a xs):EN K H 15e7 "tuple"
 |dic {a:Addr}{kvs:List (wX×V)} (e:H a=some (.dK kvs)):EN K H 15e7 "dict"
def me (n T:String):Bool:=n == T || (n == "bool" && T == "int")
def xr:List String:=["NoneType", "bool", "int", "str", "list", "tuple", "dict"]
theorem OW:∀tn∈xr,∀T∈["int", "bool", "tuple", "list", "str", "dict"],W.kitOne K (.type tn) (.type T)=some (me tn T):=by
 intro tn H T c;dsimp[xr,Uh,V0,V1]at H c;rcases H with rfl|rfl|rfl|rfl|rfl|rfl|rfl <;> rcases c with rfl|rfl|rfl|rfl|rfl|rfl <;> rfl
theorem EN.mem{x:V}(h:EN K H x tn):tn∈xr:=by
 cases h <;> decide
section
variable{X:Cx}
theorem O7{c:Value}{x:V}(I:bf X pins Y H s)(R:cX x u)(ty:EN X.K H x tn)(e:W.kitOne X.K (.type tn) c=some b)(h:∀tk,Q (.bool b) {s with toks:=tk}):
  wpAny 1e5 A (call (.builtin "isinstance") [u,c]) Q E s:=by
 cases ty with
 |non=>cases (show u=Value.none from R);exact W.kia_one W.kitx_none I.kIn True.intro e (λz=>nomatch z) h
 |bl y=>cases (show u=Value.bool y from R);exact W.kia_one W.kitx_bool I.kIn True.intro e (λz=>nomatch z) h
 |int i=>obtain⟨t,q⟩:=(show ∃t,u=Value.int i t from R);cases q;exact W.kia_one W.kitx_int I.kIn True.intro e (λz=>nomatch z) h
 |str y=>obtain⟨t,q⟩:=(show ∃t,u=Value.str y t from R);cases q;exact W.kia_one W.kitx_str I.kIn True.intro e (λz=>nomatch z) h
 | @lst a j d=>
  cases (show u=Value.ref a from R);obtain⟨S,_,⟨o,n,f,g,_⟩,_⟩:=I.list d;exact W.kia_one W.kitx_list I.kIn ⟨o,f,g⟩ e (λz=>nomatch z) h
 | @tup a j d=>
  cases (show u=Value.ref a from R);obtain⟨S,_,⟨o,f,g,_⟩,_⟩:=I.tuple d;exact W.kia_one W.kitx_tuple I.kIn ⟨o,f,g⟩ e (λz=>nomatch z) h
 | @dic a k d=>
  cases (show u=Value.ref a from R);obtain⟨_,_,v,_,p⟩:=(show eP 13e0 X.w H 3e3 a (.dK k) from I.hok a _ d);obtain⟨o,l,P,f,g,_⟩:=p;exact W.kia_one W.kitx_dict I.kIn ⟨o,f,g.1⟩ e (λz=>nomatch z) h
def Qu(K:W.Frag):List V->Hp->VK->Prop:=λS H Q=>∃x T n b,S=[x,.ty T]/\EN K H x n/\W.kitOne K (.type n) (.type T)=some b/\Q (.bl b) H
theorem Ij:cY X (.builtin "isinstance") (Qu X.K):=by
 intro p s d H c S Q I r h;obtain⟨x,T,n,b,rfl,ty,e,q⟩:=h;obtain⟨u,a,rfl,U,R⟩:=B8 r;cases R;exact O7 I U ty e λt=>⟨.bl b,H,I.tok _,rfl,q⟩
end
noncomputable def ER(Z:aC):D->Option String
 |.non=>some "NoneType"
 |.bl _=>some "bool"
 |.int _=>some "int"
 |.str _=>some "str"
 |.tup _=>some "tuple"
 |.frz _=>some "list"
 |.obj n=>match Z[n]? with
  |some (.lst _)=>some "list"
  |some .dic=>some "dict"
  |_=>none
theorem MY(S:p.S H α Z)(r:p.R H α d v)(h:ER Z d=some tn):EN p.K H v tn:=by
 cases d with
 |non=>cases h;rw[cj.mp r];exact .non
 |bl b=>cases h;rw[bB.mp r];exact .bl b
 |int b=>cases h;rw[ay.mp r];exact .int b
 |str b=>cases h;rw[dY.mp r];exact .str b
 |tup s=>cases h;obtain⟨a,y,rfl,c,_⟩:=aQ.mp r;exact .tup c
 |frz s=>cases h;obtain⟨a,y,rfl,c,_⟩:=bM.mp r;exact .lst c.sq
 |obj n=>
  unfold ER at h;dsimp only at h;split at h
  ·rename_i s x;cases h;obtain⟨a,U,rfl,f,c,_⟩:=cK S r x;exact .lst (fK.of c)
  ·rename_i x;cases h;obtain⟨a,e,q⟩:=S.at x;obtain⟨A,rfl,E⟩:=aU.mp r;rw[e]at E;cases E;exact .dic q
  ·cases h
def jN(T:String)(d:D)(Z:aC):ah D:=match ER Z d with
 |some n=>.ok (.bl (me n T)) Z
 |none=>.bad
theorem NK{X:Cx}{a:Expr}{T:String}{xT:Str}{pt:Pos}(hK:X.K=p.K)(hT:T∈["int", "bool", "tuple", "list", "str", "dict"])(σ:Gl X "isinstance")(i:X.mg "isinstance" = none)(hgT:Gl X xT)(hmT:X.mg xT=none)(hbT:bootBuiltins xT=some (.type T))(A:PE X a (tD p fa))(hnT:xT ≠ "__name__")(hdT:(xT == ("__debug__" : Str))=false)(h:starEach [a,.Name xT pt] 1e9=(false,eval a 1e9)::starEach [.Name xT pt] 1e9):
  PE X (.Call (.Name "isinstance" px) [a,.Name xT pt] [] pos) (tD p (vA (jN T) fa)):=by
 have B:PE X (.Name xT pt) (tC (.ty T)):=Kh hgT hmT hbT rfl hnT hdT;refine(zK Ij σ i boot_isinstance (rV A (rV B A7 rfl) h) 1e2 1e2 h rfl).weak λo H Q ⟨f,l,j,S,R,P⟩=>⟨f,l,j,S,R,(aM.bind P).imp λd k c g m e b v r=>?_⟩;show Qu X.K [v,.ty T] c Q;unfold jN at b;split at b
 ·rename_i t n;have ty:=MY e r n;rw[hK];exact⟨v,T,t,_,rfl,ty,OW t ty.mem T hT,b.now e _ (bB.mpr rfl)⟩
 ·exact b.elim
def mw:List D->Option (List Bool)
 |[]=>some []
 |.bl b::r=>(mw r).map (b::·)
 |_::_=>none
theorem oq:∀{ds:List D}{bs:List Bool},mw ds=some bs->ds=bs.map D.bl
 |[],bs,h=>by cases h;rfl
 |.bl b::r,bs,h=>by
  unfold mw at h;cases e:mw r with
  |none=>rw[e]at h;cases h
  |some c=>rw[e]at h;cases h;rw[oq e];rfl
 |.non::r,bs,h=>by cases h
 |.int _::r,bs,h=>by cases h
 |.str _::r,bs,h=>by cases h
 |.tup _::r,bs,h=>by cases h
 |.frz _::r,bs,h=>by cases h
 |.obj _::r,bs,h=>by cases h
theorem wD(bs:List Bool):mw (bs.map D.bl)=some bs:=by
 induction bs with
 |nil=>rfl
 |cons b r i=>dsimp[Vi,mw,i];rfl
theorem Reps.bools{K:W.Frag}{H:Hp}{α:List Addr}:∀{bs:List Bool}{vs:List V},Reps K H α (bs.map D.bl) vs->vs=bs.map V.bl
 |[],vs,h=>by dsimp[Vh,Reps]at h;exact h
 |n::j,vs,h=>by
  dsimp[Vi,Reps]at h;obtain⟨v,r,rfl,a,c⟩:=h;rw[bB.mp a,Reps.bools c];rfl
theorem tT{bs:List Bool}(h:bA (bs.map V.bl) us):us=bs.map Value.bool:=by
 induction bs generalizing us with
 |nil=>cases h;rfl
 |cons b r i=>
  cases h with
  |cons H c=>cases H;rw[i c];rfl
theorem EK{bs:List Bool}:(List.range bs.length).all (λi=>bs.getD i false)=bs.all id:=by
 induction bs with
 |nil=>rfl
 |cons b r h=>
  rw[VF,V3,XG,XH,XG];congr 1
theorem EJ{bs:List Bool}:(List.range bs.length).any (λi=>bs.getD i false)=bs.any id:=by
 induction bs with
 |nil=>rfl
 |cons b r h=>
  rw[VF,V3,List.any_cons,XI,List.any_cons];congr 1
section
variable{X:Cx}
def Qx(K:W.Frag):List V->Hp->VK->Prop:=λS H Q=>∃(a:Addr)(bs:List Bool),S=[.ref a]/\fK K H a (bs.map V.bl)/\Q (.bl (bs.all id)) H
def Qw(K:W.Frag):List V->Hp->VK->Prop:=λS H Q=>∃(a:Addr)(bs:List Bool),S=[.ref a]/\fK K H a (bs.map V.bl)/\Q (.bl (bs.any id)) H
theorem bf.fresh_it(I:bf X pins Y H s){o:Obj}(d:∀b ob,b ∉ [0e4]->(s.heap.push o).get? b=some ob->h'.get? b=some ob):bf X pins Y H {s with heap:=h',toks:=tk}:=
 I.kept λb ob e=>d b ob (λi=>by
  have:b=s.heap.objs.size:=by simpa using i
  subst this
  exact absurd (T5 e) (T7 _)) (UF _ e)
theorem EF (C:X.calm=true):cY X (.builtin "all") (Qx X.K):=by
 intro p s w H x U Q I r h;obtain⟨a,bs,rfl,d,q⟩:=h;obtain⟨u,rfl,R⟩:=iq r;cases R;obtain⟨S,f,L,μ⟩:=I.list d;have c:S=bs.map Value.bool:=tT f
 have E:a≠s.heap.objs.size:=by
  obtain⟨o,n,e,_⟩:=L;exact T8 (T5 e)
 refine call_all_walk (W2 L.isList ?_);refine⟨0e4,[0e4,a],[0e4],_,_,_,λi=>bs.getD i false,rfl,W3 (A:=X.A.in1) 7e2 _ a E S.toArray,⟨⟨_,T4 _ rfl,rfl,rfl⟩,L.isList.at λo e=>UF _ e⟩,?_,?_⟩
 ·intro i v m j g hP hQ;subst c;have V:(bs.map Value.bool)[i]?=some v:=by simpa using hP
  rw[UX]at V;cases e:bs[i]? with
  |none=>rw[e]at V;cases V
  |some b=>
   rw[e]at V;cases V;have:bs.getD i false=b:=by rw[W7,e];rfl
   dsimp only at hQ;rw[this]at hQ;exact Us hQ
 ·intro l t k;have B:S.toArray.size=bs.length:=by subst c;simp
  rw[B,EK];exact⟨.bl _,H,I.fresh_it k,rfl,q⟩
theorem EE (C:X.calm=true):cY X (.builtin "any") (Qw X.K):=by
 intro p s w H x U Q I r h;obtain⟨a,bs,rfl,d,q⟩:=h;obtain⟨u,rfl,R⟩:=iq r;cases R;obtain⟨S,f,L,μ⟩:=I.list d;have c:S=bs.map Value.bool:=tT f
 have E:a≠s.heap.objs.size:=by
  obtain⟨o,n,e,_⟩:=L;exact T8 (T5 e)
 refine call_any_walk (W2 L.isList ?_);refine⟨0e4,[0e4,a],[0e4],_,_,_,λi=>bs.getD i false,rfl,W3 (A:=X.A.in1) 7e2 _ a E S.toArray,⟨⟨_,T4 _ rfl,rfl,rfl⟩,L.isList.at λo e=>UF _ e⟩,?_,?_⟩
 ·intro i v m j g hP hQ;subst c;have V:(bs.map Value.bool)[i]?=some v:=by simpa using hP
  rw[UX]at V;cases e:bs[i]? with
  |none=>rw[e]at V;cases V
  |some b=>
   rw[e]at V;cases V;have:bs.getD i false=b:=by rw[W7,e];rfl
   dsimp only at hQ;rw[this]at hQ;exact Us hQ
 ·intro l t k;have B:S.toArray.size=bs.length:=by subst c;simp
  rw[B,EJ];exact⟨.bl _,H,I.fresh_it k,rfl,q⟩
end
noncomputable def nt(ds:List D)(Z:aC):ah D:=match ds with
 |[.obj n]=>match Z[n]? with
  |some 12e4=>match mw S with
   |some bs=>.ok (.bl (bs.all id)) Z
   |none=>.bad
  |_=>.bad
 |_=>.bad
noncomputable def yQ(ds:List D)(Z:aC):ah D:=match ds with
 |[.obj n]=>match Z[n]? with
  |some 12e4=>match mw S with
   |some bs=>.ok (.bl (bs.any id)) Z
   |none=>.bad
  |_=>.bad
 |_=>.bad
theorem OH:yG p nt (Qx p.K):=by
 intro s y H c e Q S r P;unfold nt at P;split at P
 ·rename_i n;split at P
  ·rename_i x d;split at P
   ·rename_i bs B;obtain⟨v,rfl,b⟩:=r.one;obtain⟨a,U,rfl,A,h,R⟩:=cK S b d;rw[oq B]at R;exact⟨a,bs,rfl,by rw[<- R.bools];exact fK.of h,P.now S _ (bB.mpr rfl)⟩
   ·exact P.elim
  ·exact P.elim
 ·exact P.elim
theorem OG:yG p yQ (Qw p.K):=by
 intro s y H c e Q S r P;unfold yQ at P;split at P
 ·rename_i n;split at P
  ·rename_i x d;split at P
   ·rename_i bs B;obtain⟨v,rfl,b⟩:=r.one;obtain⟨a,U,rfl,A,h,R⟩:=cK S b d;rw[oq B]at R;exact⟨a,bs,rfl,by rw[<- R.bools];exact fK.of h,P.now S _ (bB.mpr rfl)⟩
   ·exact P.elim
  ·exact P.elim
 ·exact P.elim
noncomputable def Cm(ds:List D)(Z:aC):ah D:=match ds with
 |[.tup S]=>.ok (.int S.length) Z
 |[.frz S]=>.ok (.int S.length) Z
 |[.str x]=>if x.length<=sizeLine then .ok (.int x.length) Z else .bad
 |[.obj n]=>match Z[n]? with
  |some 12e4=>.ok (.int S.length) Z
  |_=>.bad
 |_=>.bad
theorem KB:yG p Cm (λxs H Q=>∃x n,xs=[x]/\ML p.K x H n/\Q (.int n) H):=by
 intro s y H c e Q S r P;unfold Cm at P;split at P
 ·rename_i xs;obtain⟨v,rfl,R⟩:=r.one;obtain⟨a,U,rfl,h,b⟩:=aQ.mp R;exact⟨_,4e8,rfl,.inr ⟨U,h,b.length.symm⟩,P.now S _ 11e6⟩
 ·rename_i xs;obtain⟨v,rfl,R⟩:=r.one;obtain⟨a,U,rfl,h,b⟩:=bM.mp R;exact⟨_,4e8,rfl,.inl ⟨U,h.sq,b.length.symm⟩,P.now S _ 11e6⟩
 ·rename_i x;obtain⟨v,rfl,R⟩:=r.one;split at P
  ·rename_i i;exact⟨v,x.length,rfl,by rw[dY.mp R];exact⟨i,rfl⟩,P.now S _ 11e6⟩
  ·exact P.elim
 ·rename_i n;split at P
  ·rename_i xs d;obtain⟨v,rfl,R⟩:=r.one;obtain⟨a,U,rfl,A,h,b⟩:=cK S R d;exact⟨_,4e8,rfl,.inl ⟨U,fK.of h,b.length.symm⟩,P.now S _ 11e6⟩
  ·exact P.elim
 ·exact P.elim
def fJ(ds:List D)(Z:aC):ah D:=match ds with
 |[.tup S]=>.ok (.tup S) Z
 |[.frz S]=>.ok (.tup S) Z
 |[.obj n]=>match Z[n]? with
  |some 12e4=>.ok (.tup S) Z
  |_=>.bad
 |_=>.bad
theorem Hw:yG p fJ (λxs H Q=>∃q ys,xs=[.ref q]/\((fK p.K H q ys/\∀l,H l=none->Q (.ref l) (cE H l (.tup ys)))\/(gz p.K H q ys/\Q (.ref q) H))):=by
 intro s y H c e Q S r P;unfold fJ at P;split at P
 ·rename_i xs;obtain⟨v,rfl,R⟩:=r.one;obtain⟨a,U,rfl,h,b⟩:=aQ.mp R;exact⟨a,U,rfl,.inr ⟨h,P.now S _ R⟩⟩
 ·rename_i xs;obtain⟨v,rfl,R⟩:=r.one;obtain⟨a,U,rfl,h,b⟩:=bM.mp R;exact⟨a,U,rfl,.inl ⟨h.sq,λq z=>P _ _ (cx z) (S.tuple z) _ (aQ.mpr ⟨q,U,rfl,gz.of cA,b.mono (cx z)⟩)⟩⟩
 ·rename_i n;split at P
  ·rename_i xs d;obtain⟨v,rfl,R⟩:=r.one;obtain⟨a,U,rfl,A,h,b⟩:=cK S R d;exact⟨a,U,rfl,.inl ⟨fK.of h,λq z=>P _ _ (cx z) (S.tuple z) _ (aQ.mpr ⟨q,U,rfl,gz.of cA,b.mono (cx z)⟩)⟩⟩
  ·exact P.elim
 ·exact P.elim
noncomputable def sJ(ds:List D)(Z:aC):ah D:=match ds with
 |[.tup S]=>.ok 1e4 (Z++[.lst S])
 |[.frz S]=>.ok 1e4 (Z++[.lst S])
 |[.obj n]=>match Z[n]? with
  |some 12e4=>.ok 1e4 (Z++[.lst S])
  |_=>.bad
 |_=>.bad
theorem KA:yG p sJ (λxs H Q=>∃q ys,xs=[.ref q]/\(fK p.K H q ys\/gz p.K H q ys)/\∀l,H l=none->Q (.ref l) (cE H l (.lst ys))):=by
 intro s y H c e Q S r P;unfold sJ at P;split at P
 ·rename_i xs;obtain⟨v,rfl,R⟩:=r.one;obtain⟨a,U,rfl,h,b⟩:=aQ.mp R;refine⟨a,U,rfl,.inr h,λq z=>?_⟩;obtain⟨B,G,x⟩:=du S z b;exact P _ _ B G _ x
 ·rename_i xs;obtain⟨v,rfl,R⟩:=r.one;obtain⟨a,U,rfl,h,b⟩:=bM.mp R;refine⟨a,U,rfl,.inl h.sq,λq z=>?_⟩;obtain⟨B,G,x⟩:=du S z b;exact P _ _ B G _ x
 ·rename_i n;split at P
  ·rename_i xs d;obtain⟨v,rfl,R⟩:=r.one;obtain⟨a,U,rfl,A,h,b⟩:=cK S R d;refine⟨a,U,rfl,.inl (fK.of h),λq z=>?_⟩;obtain⟨B,G,x⟩:=du S z b;exact P _ _ B G _ x
  ·exact P.elim
 ·exact P.elim
def y6(ds:List D)(Z:aC):ah D:=match ds with
 |[.int i]=>.ok 11e5 Z
 |[.bl k]=>.ok (.int (if k then 1 else 0)) Z
 |_=>.bad
theorem OF:yG p y6 (λxs H Q=>(∃i,xs=[.int i]/\Q 11e5 H)\/∃k,xs=[.bl k]/\Q (.int (if k then 1 else 0)) H):=by
 intro s y H h d Q S r P;unfold y6 at P;split at P
 ·rename_i i;obtain⟨v,rfl,R⟩:=r.one;exact .inl ⟨i,by rw[ay.mp R],P.now S _ 11e6⟩
 ·rename_i i;obtain⟨v,rfl,R⟩:=r.one;exact .inr ⟨i,by rw[bB.mp R],P.now S _ 11e6⟩
 ·exact P.elim
def FF(ds:List D)(Z:aC):ah D:=match ds with
 |[.int i,.int j]=>.ok 15e8 Z
 |_=>.bad
def FE(ds:List D)(Z:aC):ah D:=match ds with
 |[.int i,.int j]=>.ok (.int (if j<i then j else i)) Z
 |_=>.bad
theorem Ky:yG p FF (λxs H Q=>∃i j,xs=[.int i,.int j]/\Q 15e8 H):=by
 intro s y H h d Q S r P;unfold FF at P;split at P
 ·rename_i i j;obtain⟨v,u,rfl,R,M⟩:=r.two;exact⟨i,j,by rw[ay.mp R,ay.mp M],P.now S _ 11e6⟩
 ·exact P.elim
theorem Kx:yG p FE (λxs H Q=>∃i j,xs=[.int i,.int j]/\Q (.int (if j<i then j else i)) H):=by
 intro s y H h d Q S r P;unfold FE at P;split at P
 ·rename_i i j;obtain⟨v,u,rfl,R,M⟩:=r.two;exact⟨i,j,by rw[ay.mp R,ay.mp M],P.now S _ 11e6⟩
 ·exact P.elim
section
theorem qQ{T:String}(hT:T = "list" \/ T = "tuple"){l:Addr}{vs:List Value}{Q:List Value->Shared->Prop}{o:Obj}(G:s.heap.get? l=some o)(C:o.cls=.type T)(D:o.data=.seq vs.toArray n)(h:Q vs {s with heap:=(s.heap.push 2e8).update 0e4 9e9})(z:vs.length<=sizeLine):
  wpAny 1e7 A (collect (.ref l)) Q E s:=by
 unfold collect;refine Uw (wpAny_runValue (WV entry_proto_collect' ?_));show wpAny _ _ (do again (.builtin "list.__iadd__" ⟨[<- newList [],.ref l],[]⟩)) _ _ s;refine Uw (Xg (UC ⟨W1 _ 1e1,WV entry_list_iadd' ?_⟩));show wpAny _ _ (Builtin.List.listExtendWith 15e5 (.ref l) 15e5) _ _ {s with heap:=s.heap.push 2e8};unfold Builtin.List.listExtendWith;have i:(s.heap.push 2e8).get? l=some o:=UF _ G;refine Uw (Ve (T:=T) ⟨o,i,C⟩ ?_);have H:(Value.type "list" == Value.type "list")=true:=by rfl
 have c:(Value.type "tuple" == Value.type "tuple")=true:=by rfl
 rw[T1 (by rcases hT with rfl|rfl <;> simp[H,c])];refine Uw (listItems_at i D ?_);refine Uw (listItems_at (xs:=#[]) (n:=0) (T4 _ rfl) rfl ?_);rw[T3 0e9];refine Uw (Xe (xs:=#[]) (n:=0) (T4 _ rfl) rfl ?_ (VQ _) (by show (#[]++vs.toArray).size<=sizeLine+1;dsimp[Array.size_append,UL,V8];omega));refine UC ?_
 show wpAny 1e7 A (do
   let o <- load 0e4
   match o.data with
   |.seq S _=>pure S.toList
   |_=>unsupported "internal:collect") Q E {s with heap:=(s.heap.push 2e8).update 0e4 9e9}
 refine Uw (UD (Xf (T4 _ rfl) _) ?_);show wpAny _ _ (pure ((#[]:Array Value)++vs.toArray).toList) Q E _;rw[show ((#[]:Array Value)++vs.toArray).toList=vs by simp];exact UC h
theorem x8{T:String}(hT:T = "list" \/ T = "tuple"){l:Addr}{vs:List Value}{o:Obj}(G:s.heap.get? l=some o)(i:o.cls=.type T)(D:o.data=.seq vs.toArray n)(hI:IntsAre vs ns)(h64:vs.length<64)(h:∀(out:Array Value)(ns':List Int),IntsAre out.toList ns'->ns'.Perm ns->ns'.Pairwise (·<=·)->Q (.ref 6e4) {s with heap:=sortedAll 3e3 vs out}):
  wpAny 1e7 A (call 15e1 [.ref l]) Q E s:=by
 have H:vs.length<=sizeLine:=Ub (Uc h64) 1e2;refine XJ kind_sorted plain_sorted entry_sorted (args_sorted1 _) ?_;unfold Builtin.«sorted»;refine Uw (m:=checkCount "sorted" 1 1 _) 8e1;refine Uw (qQ hT G i D ?_ H);refine Uw (Xg ?_ H)
 have z:((s.heap.push 2e8).update 0e4 9e9).objs.size=s.heap.objs.size+1:=by
  rw[XM,Xh]
 have hoL:(((s.heap.push 2e8).update 0e4 9e9).push (seqObj "list" vs.toArray 0)).get? 6e4=some (seqObj "list" vs.toArray 0):=by
  rw[<- z];exact T4 _ rfl
 show wpAny _ _ _ _ _ {s with heap:=((s.heap.push 2e8).update 0e4 9e9).push (seqObj "list" vs.toArray 0)};rw[z];refine Uw (Ux (Vd slot_list_sort ⟨_,hoL,rfl⟩ XN (list_sort_tree hoL hI h64 λout ns' a b r=>⟨_,rfl,?_⟩) (args_list_sort _)));exact UC ⟨_,rfl,h out ns' a b r⟩
end
theorem u5{vs:List Value}{out:Array Value}{b:Addr}{u:Obj}(e:h.get? b=some u):(sortedAll h vs out).get? b=some u:=by
 have B:=T5 e;have n:b≠h.objs.size:=T8 B;have N:b≠h.objs.size+1:=T8 (VH B);unfold sortedAll sortedHeap;rw[XO _ _ _ _ N];refine UF _ (UF _ ?_);rw[XO _ _ _ _ N];refine UF _ ?_;rw[XO _ _ _ _ n];exact UF _ e
theorem u6{vs:List Value}{out:Array Value}:∃n,(sortedAll h vs out).get? (h.objs.size+1)=some (seqObj "list" out n):=by
 unfold sortedAll sortedHeap
 have z:((h.push 2e8).update h.objs.size 9e9).objs.size=h.objs.size+1:=by
  rw[XM,Xh]
 have hoL:(((h.push 2e8).update h.objs.size 9e9).push (seqObj "list" vs.toArray 0)).get? (h.objs.size+1)=some (seqObj "list" vs.toArray 0):=by
  rw[<- z];exact T4 _ rfl
 have G:=Xf hoL (λ_=>#[]);have g:=UF 2e8 (UF (seqObj "tuple" vs.toArray 0) G);exact⟨_,Xf g (λ_=>out)⟩
theorem pj(h:IntsAre us ns):bA 12e1 us:=by
 induction h with
 |nil=>exact .nil
 |cons n t _ i=>exact .cons ⟨t,rfl⟩ i
section
variable{X:Cx}
def A6(K:W.Frag):List V->Hp->VK->Prop:=λS H Q=>∃(a:Addr)(j:List Int),S=[.ref a]/\(fK K H a (j.map V.int)\/gz K H a (j.map V.int))/\j.length<64 /\
 ∀n:List Int,n.Perm j->n.Pairwise (·<=·)->∀l,H l=none->Q (.ref l) (cE H l (.lst (n.map V.int)))
theorem B0:cY X 15e1 (A6 X.K):=by
 intro p s v H x S Q I r h;obtain⟨a,j,rfl,c,l,q⟩:=h;obtain⟨u,rfl,t⟩:=iq r;cases t
 have core:∀(T:String),T = "list" \/ T = "tuple" -> ∀(i:List Value) (o:Obj) (n:Nat),s.heap.get? a=some o->o.cls=.type T->o.data=.seq i.toArray n->bA (j.map V.int) i->wpAny 1e5 X.A (call 15e1 [.ref a]) (EP X p v Q) X.xe s:=by
  intro T hT i o n d B U R;have hI:IntsAre i j:=iE R;refine x8 hT d B U hI (by rw[hI.length];exact l) λout N g f k=>?_;refine⟨.ref 6e4,cE H 6e4 (.lst (N.map V.int)),I.laid (t':=s.toks) (λb O e=>u5 e) (Vq _) ?_,rfl,q N f k _ (I.hok.fresh (Vq _))⟩;obtain⟨m,e⟩:=u6 (h:=3e3) (vs:=i) (out:=out);refine⟨?_,out.toList,m,pj g,by simpa using e⟩;rw[U1,f.length_eq];exact Ub (Uc l) 1e2
 rcases c with c|c
 ·obtain⟨i,R,⟨o,n,d,B,_,U⟩,μ⟩:=I.list c;exact core "list" (.inl rfl) i o n d B U R
 ·obtain⟨i,R,⟨o,d,B,n,U⟩,μ⟩:=I.tuple c;exact core "tuple" (.inr rfl) i o n d B U R
theorem qE{r:Addr}(I:bf X pins Y H s)(h:gz X.K H r (k.map V.int)):Tk 13e0 X.w 3e3 k r:=by
 obtain⟨S,R,⟨o,d,B,n,U⟩,_⟩:=I.tuple h;refine⟨o,S.toArray,n,d,B,U,?_⟩
 have core:∀(k:List Int)(S:List Value),bA (k.map V.int) S->PySem.ItemsAre (intKind 13e0 X.w) k S:=by
  intro k
  induction k with
  |nil=>intro S h;cases h;exact .nil
  |cons i r b=>
   intro S h;cases h with
   |cons a c=>
    obtain⟨t,rfl⟩:=a;exact .cons (by simp[intKind,Value.isInt]) (b _ c)
 simpa using core k S R
def iZ(q:List KP):List V:=q.map λp=>V.ref p.2
theorem qb:∀{qs:List KP}{its:List Value},bA (iZ qs) its->its=qs.map λp=>Value.ref p.2
 |[],its,h=>by cases h;rfl
 |q::qs,its,h=>by
  cases h with
  |cons H c=>cases H;rw[qb c];rfl
theorem mH:∀(qs:List KP),bA (iZ qs) (bb qs)
 |[]=>.nil
 |q::qs=>.cons rfl (mH qs)
def Ft(K:W.Frag)(w:World):List V->Hp->VK->Prop:=λS H Q=>∃(a:Addr)(q:List KP),S=[.ref a]/\fK K H a (iZ q)/\(∀p∈q,p.1∈prs/\gz K H p.2 (p.1.map V.int)) /\
 ∀l,H l=none->Q (.ref l) (cE H l (.ext λh=>cT w h l (gP q)))
theorem Ew (C:X.calm=true) (U:X.A.units+64<cLine):cY X (.type "set") (Ft X.K X.w):=by
 intro P s x H σ N Q I r h;obtain⟨a,S,rfl,j,z,q⟩:=h;obtain⟨u,rfl,R⟩:=iq r;cases R
 have n:∀(c:Heap)(T:Nat),cT X.w c 0e4 (gP S)->(∀b o,b<s.heap.objs.size->s.heap.get? b=some o->c.get? b=some o)->EP X P x Q 15e5 {s with heap:=c,toks:=T}:=by
  intro c T hS l;refine⟨.ref 0e4,cE H 0e4 (.ext λh=>cT X.w h 0e4 (gP S)),I.laid (t':=T) (λb O e=>l b O (T5 e) e) 6e3 ?_,rfl,q _ (I.hok.fresh 6e3)⟩;refine⟨hS,?_,λG J g k=>g.keeps k⟩;obtain⟨o,B,y,t,μ,f,_⟩:=hS;exact⟨o,f.ho⟩
 obtain⟨m,v,L,M⟩:=I.list j;exact Af (I.ok.hd C) L.isList (by simpa using qb v) (λp d=>(z p d).1) (λp d=>qE I (z p d).2) 0e1 n
def A5(K:W.Frag)(w:World):List V->Hp->VK->Prop:=λS H Q=>∃(a:Addr)(P:List KP),S=[.ref a]/\H a=some (.ext λh=>cT w h a P)/\(∀p∈P,gz K H p.2 (p.1.map V.int)) /\
 ∀out:List KP,out.Perm P->Bg out->∀l,H l=none->Q (.ref l) (cE H l (.lst (iZ out)))
end
def kq(q:List KI):List KI:=q.foldl (λP p=>yT P p.1 p.2) []
theorem yE(q:List KI)(p:KI):kq (q++[p])=yT (kq q) p.1 p.2:=by unfold kq;rw[WU];rfl
def jU(ns:List Int):List Int:=ns.foldl (λa k=>if k∈a then a else a++[k]) []
theorem pC:∀(qs ps:List KI),(qs.foldl (λps p=>yT ps p.1 p.2) ps).map 3e0=(qs.map 3e0).foldl (λacc k=>if k∈acc then acc else acc++[k]) (ps.map 3e0)
 |[],ps=>rfl
 |q::qs,ps=>by
  rw[Vs,pC qs,Vi,Vs];congr 1;unfold yT;split
  ·rfl
  ·rw[Wo];rfl
theorem AD(q:List KI):(kq q).map 3e0=jU (q.map 3e0):=pC q []
theorem ya(e:h.get? a=some {cls:=.type "set",dict:=none,data:=.set #[] 0 (.fresh 0 0 (sG w))}):eW w h a []:=
 ⟨_,_,_,_,[],10e0,λp d=>by simp at d,Ww⟩
def rl(p:KI):Value:=Value.int p.1 p.2
section
theorem EL{qs:List KI}{S:Addr}{u:Nat}(d:∀p∈qs,p.1∈ins):IW prog w u S (qs.map rl) (λi h=>eW w h S (kq (qs.take i))):=by
 refine⟨λi h a H J=>J.keeps λo e=>H S o 6e3 e,λA i v s E Q hA V J hQ=>?_⟩;rw[UX]at V;cases e:qs[i]? with
 |none=>rw[e]at V;cases V
 |some p=>
  rw[e]at V;cases V;have M:p∈qs:=UZ e;unfold setAdd rl;refine Ux ?_;refine Uw (wpAny_pyHash_int ?_);refine LC (s:={s with toks:=s.toks+1}) J (d p M) λb a k hS2=>?_;have etk:qs.take (i+1)=qs.take i++[p]:=by rw[W4,e];rfl
  refine hQ b a _ (Nat.le_add_right _ _) k (by rw[etk,yE];exact hS2)
theorem wg:∀(qs:List KI),IntsAre (qs.map rl) (qs.map 3e0)
 |[]=>.nil
 |p::qs=>.cons p.1 p.2 (wg qs)
theorem HQ{vs:List Value}(h:IntsAre vs ns):∃qs:List KI,vs=qs.map rl/\qs.map 3e0=ns:=by
 induction h with
 |nil=>exact⟨[],rfl,rfl⟩
 |cons n t _ i=>
  obtain⟨qs,d,B⟩:=i;exact⟨(n,t)::qs,by rw[d];rfl,by rw[<- B];rfl⟩
theorem Ae{ps:List KI}(j:A.handled=none)(S:eW w 3e3 a ps)(h:∀(out:List Value) (ns':List Int),IntsAre out ns'->ns'.Perm (ps.map 3e0)->ns'.Pairwise (·<=·)->∀h' D,s.heap.objs.size<=D->(∀b u,s.heap.get? b=some u->h'.get? b=some u)->(∃n,h'.get? D=some (seqObj "list" out.toArray n))->Q (.ref D) {s with heap:=h'}):
  wpAny 1e7 A (call 15e1 [.ref a]) Q E s:=by
 obtain⟨o,v,P,t,μ,S,K,N⟩:=S;have i:=oV K N;refine XJ kind_sorted plain_sorted entry_sorted (args_sorted1 _) ?_;unfold Builtin.«sorted»;refine Uw (m:=checkCount "sorted" 1 1 _) 8e1;refine Uw (qR (by simpa using j) S (by rw[S.len,U1];omega) λp c H k z=>?_);obtain⟨R,d,J⟩:=pB c ps rfl;have L:p.map 7e4=R.map rl:=by rw[J,V4];rfl
 rw[L];have l:(R.map rl).length<=6:=by rw[U1,d.length_eq];exact i
 refine Uw (Xg ?_ (Ub l 1e2));have hoL:(H.push (seqObj "list" (R.map rl).toArray 0)).get? H.objs.size=some (seqObj "list" (R.map rl).toArray 0):=T4 _ rfl;have W:∀b u,H.get? b=some u->b≠H.objs.size:=λb u q=>T8 (T5 q);refine Uw (Ux (Vd slot_list_sort (s:={s with heap:=H.push (seqObj "list" (R.map rl).toArray 0)}) ⟨_,hoL,rfl⟩ XN ?body (args_list_sort _)))
 case body=>
  refine list_sort_tree (s:={s with heap:=H.push (seqObj "list" (R.map rl).toArray 0)}) hoL (wg R) 0e1 λout ns' e f r=>⟨_,rfl,?_⟩;refine UC ⟨_,rfl,h out.toList ns' e (f.trans (d.map _)) r _ H.objs.size z (λb u q=>?_) ?_⟩
  ·have B:=W b u (k b u q);unfold sortedHeap;rw[XO _ _ _ _ B];refine UF _ (UF _ ?_);rw[XO _ _ _ _ B];exact UF _ (k b u q)
  ·unfold sortedHeap;have G:=Xf hoL (λ_=>#[]);have g:=UF 2e8 (UF (seqObj "tuple" (R.map rl).toArray 0) G);exact⟨_,Xf g (λ_=>out)⟩
end
section
variable{X:Cx}
def Fu(K:W.Frag)(w:World):List V->Hp->VK->Prop:=λS H Q=>∃(a:Addr)(j:List Int),S=[.ref a]/\fK K H a (j.map V.int)/\(∀n∈j,n∈ins) /\
 ∀l,H l=none->∀P:List KI,P.map 3e0=jU j->(∀p∈P,p.1∈ins)->(P.map 3e0).Nodup->Q (.ref l) (cE H l (.ext λh=>eW w h l P))
theorem Ex (C:X.calm=true) (hu:X.A.units+64<cLine):cY X (.type "set") (Fu X.K X.w):=by
 intro P s σ H xs us Q I r h;obtain⟨a,N,rfl,m,y,q⟩:=h;obtain⟨u,rfl,R⟩:=iq r;cases R
 have n:∀(S:List KI),S.map 3e0=N->∀(c:Heap)(T:Nat),eW X.w c 0e4 (kq S)->(∀b o,b<s.heap.objs.size->s.heap.get? b=some o->c.get? b=some o)->EP X P σ Q 15e5 {s with heap:=c,toks:=T}:=by
  intro S eq c T hS v;obtain⟨o,F,D,t,μ,f,L,M⟩:=id hS;refine⟨.ref 0e4,cE H 0e4 (.ext λh=>eW X.w h 0e4 (kq S)),I.laid (t':=T) (λb O e=>v b O (T5 e) e) 6e3 ?_,rfl,q _ (I.hok.fresh 6e3) _ (by rw[AD,eq]) L M⟩;exact⟨hS,⟨o,f.ho⟩,λW h2 g k=>g.keeps k⟩
 obtain⟨G,V,U,hz⟩:=I.list m;obtain⟨S,l,B⟩:=HQ (iE V);subst l;have z:(S.map rl).toArray.size=S.length:=by rw[UL,U1]
 refine pq (I.ok.hd C) U.isList (J:=λi h=>eW X.w h 0e4 (kq (S.take i))) ?_ (λc k e=>ya e) λc T j=>n S B c T ?_
 ·exact EL λp x=>y _ (by rw[<- B];exact Wj x)
 ·rw[z,List.take_length]at j;exact j
def A4(w:World):List V->Hp->VK->Prop:=λS H Q=>∃(a:Addr)(P:List KI),S=[.ref a]/\H a=some (.ext λh=>eW w h a P) /\
 ∀n:List Int,n.Perm (P.map 3e0)->n.Pairwise (·<=·)->∀l,H l=none->Q (.ref l) (cE H l (.lst (n.map V.int)))
theorem BY (C:X.calm=true):cY X 15e1 (A4 X.w):=by
 intro p s y H x U Q I r h;obtain⟨a,P,rfl,g,q⟩:=h;obtain⟨u,rfl,R⟩:=iq r;cases R;obtain⟨hS,_⟩:=(show eP 13e0 X.w H 3e3 a (.ext λh=>eW X.w h a P) from I.hok a _ g);obtain⟨o,m,z,t,μ,S,K,l⟩:=id hS;have i:=oV K l;refine Ae (I.ok.hd C) hS λout N d c f v D hD k j=>?_;refine⟨.ref D,cE H D (.lst (N.map V.int)),I.laid (t':=s.toks) (λb O e=>k b O e) hD ?_,rfl,q N c f _ (I.hok.fresh hD)⟩;obtain⟨n,e⟩:=j;refine⟨?_,out,n,pj d,e⟩;rw[U1,c.length_eq,U1];exact Ub i 1e2
end
def aw(k:List Int):D:=.tup (k.map D.int)
noncomputable def Dv:D->Option 0e5
 |.tup [.int a,.int b]=>if 0<=a/\a<b/\b<6 then some [a,b] else none
 |_=>none
def sH:List D->Option (List 0e5)
 |[]=>some []
 |d::r=>match Dv d,sH r with
  |some k,some s=>some (k::s)
  |_,_=>none
theorem K3(h:Dv d=some k):d=aw k/\k∈prs:=by
 unfold Dv at h;split at h
 ·split at h
  ·rename_i i;cases h;exact⟨rfl,xD i.1 i.2.1 i.2.2⟩
  ·cases h
 ·cases h
theorem Ef{a b:Int}(h:0<=a/\a<b/\b<6):Dv 6e8=some [a,b]:=by
 dsimp[Dv,T1 h]
theorem zV:∀{ds:List D}{ks:List 0e5},sH ds=some ks->ds=ks.map aw/\∀k∈ks,k∈prs
 |[],ks,h=>by cases h;exact⟨rfl,λk H=>by simp at H⟩
 |d::r,ks,h=>by
  unfold sH at h;split at h
  ·rename_i k b a c;cases h;obtain⟨e,B⟩:=K3 a;obtain⟨y,V⟩:=zV c;refine⟨by rw[e,y];rfl,λK H=>?_⟩;rcases Uh.mp H with z|z
   ·rw[z];exact B
   ·exact V K z
  ·cases h
theorem zW:∀{ks:List 0e5},(∀k∈ks,k∈prs)->sH 0e8=some ks
 |[],_=>rfl
 |k::ks,h=>by
  obtain⟨a,b,rfl,H,c,d⟩:=jK (h k Ue);dsimp[Vi,sH,zW λe K=>h e (Ug _ K)];have:Dv (aw [a,b])=some [a,b]:=Ef ⟨H,c,d⟩;rw[this]
def n6(ks:List 0e5)(k:List Int):List 0e5:=if k∈ks then ks else ks++[k]
def gO(ks:List 0e5):List 0e5:=ks.foldl n6 []
def eK(ks:List 0e5):List 0e5:=prs.filter λk=>decide (k∈ks)
theorem uf:∀(qs ps:List KP),(qs.foldl (λps p=>jO ps p.1 p.2) ps).map 3e0=(qs.map 3e0).foldl n6 (ps.map 3e0)
 |[],ps=>rfl
 |q::qs,ps=>by
  rw[Vs,Vi,Vs,uf qs];congr 1;unfold jO n6;split <;> simp
theorem Es(q:List KP):(gP q).map 3e0=gO (q.map 3e0):=uf q []
theorem Er:k∈gO ks↔k∈ks:=by
 have core:∀(ks a:List 0e5),k∈ks.foldl n6 a↔k∈a\/k∈ks:=by
  intro ks
  induction ks with
  |nil=>intro a;simp
  |cons x r i=>
   intro a;rw[Vs,i];unfold n6;split
   ·rename_i d;constructor
    ·rintro (h | h)
     ·exact .inl h
     ·exact .inr (Ug _ h)
    ·rintro (h | h)
     ·exact .inl h
     ·rcases Uh.mp h with z | z
      ·exact .inl (by rw[z];exact d)
      ·exact .inr z
   ·simp[or_assoc]
 unfold gO;rw[core];simp
theorem oi:prs.Pairwise λa b=>rj a<rj b:=by decide +kernel
theorem H8{l m:List 0e5}(i:l.Pairwise λa b=>rj a<rj b)(H:m.Pairwise λa b=>rj a<rj b)(h:∀k,k∈l↔k∈m):l=m:=by
 have n:l.Nodup:=i.imp λh e=>by subst e;omega
 have N:m.Nodup:=H.imp λh e=>by subst e;omega
 have d:l.Perm m:=(WE n N).mpr h;refine d.eq_of_pairwise (le:=λa b=>rj a<rj b) (λa b _ _ c f=>by omega) i H
theorem GR{out:List KP}{ps:List KP}(d:∀p∈ps,p.1∈prs)(P:out.Perm ps)(R:Bg out):out.map 3e0=eK (ps.map 3e0):=by
 refine H8 ?_ (oi.filter _) λk=>?_
 ·unfold Bg at R;rw[XQ];exact R
 ·have H : k ∈ out.map 3e0 ↔ k ∈ ps.map 3e0 := (P.map _).mem_iff;rw[H];unfold eK;rw[T9,Xy];constructor
  ·intro h;refine⟨?_,h⟩;obtain⟨p,u,rfl⟩:=We.mp h;exact d p u
  ·exact λh=>h.2
theorem qN(ks:List 0e5):eK (gO ks)=eK ks:=by
 unfold eK;apply List.filter_congr;intro k _;dsimp[Er]
theorem Reps.keys{K:W.Frag}{H:Hp}{α:List Addr}:∀{ks:List 0e5}{vs:List V},Reps K H α 0e8 vs->∃qs:List KP,qs.map 3e0=ks/\vs=iZ qs/\∀p∈qs,gz K H p.2 (p.1.map V.int)
 |[],vs,h=>by dsimp[Vh,Reps]at h;exact⟨[],rfl,h,λp d=>by simp at d⟩
 |k::ks,vs,h=>by
  dsimp[Vi,Reps]at h;obtain⟨v,r,rfl,b,c⟩:=h;obtain⟨a,u,rfl,f,g⟩:=aQ.mp b;obtain⟨qs,e,B,U⟩:=Reps.keys c;refine⟨(k,a)::qs,by rw[Vi,e],by rw[B];rfl,λp d=>?_⟩;rcases Uh.mp d with z|z
  ·subst z;rw[<- g.ints];exact f
  ·exact U p z
theorem qU{K:W.Frag}{H:Hp}{α:List Addr}:∀{qs:List KP},(∀p∈qs,gz K H p.2 (p.1.map V.int))->Reps K H α ((qs.map 3e0).map aw) (iZ qs)
 |[],_=>Reps.nil
 |q::qs,h=>by
  refine Reps.cons (aQ.mpr ⟨q.2,_,rfl,h q Ue,ja _⟩) (qU λp d=>h p (Ug _ d))
def jr:List D->Option 0e5
 |[]=>some []
 |.int i::r=>(jr r).map (i::·)
 |_::_=>none
theorem eE:∀{ds:List D}{ns:List Int},jr ds=some ns->ds=ns.map D.int
 |[],bs,h=>by cases h;rfl
 |.int b::r,bs,h=>by
  unfold jr at h;cases e:jr r with
  |none=>rw[e]at h;cases h
  |some c=>rw[e]at h;cases h;rw[eE e];rfl
 |.non::r,bs,h=>by cases h
 |.bl _::r,bs,h=>by cases h
 |.str _::r,bs,h=>by cases h
 |.tup _::r,bs,h=>by cases h
 |.frz _::r,bs,h=>by cases h
 |.obj _::r,bs,h=>by cases h
theorem BS(h:∀n∈ns,n∈ins):(jU ns).length<=6:=by
 have core:∀(l a:List Int),(∀n∈l,n∈ins)->(∀n∈a,n∈ins)->a.Nodup->(l.foldl (λa k=>if k∈a then a else a++[k]) a).length<=6:=by
  intro l
  induction l with
  |nil=>
   intro a _ c d;have:=i2 d (l2:=ins) c;exact this
  |cons x l i=>
   intro a b c d;rw[Vs];have f:=b x Ue;split
   ·exact i a (λn H=>b n (Ug _ H)) c d
   ·rename_i A;refine i (a++[x]) (λn H=>b n (Ug _ H)) (λn H=>?_) ?_
    ·rcases Uj.mp H with z | z
     ·exact c n z
     ·rw[VR.mp z];exact f
    ·refine WQ.mpr ⟨d,by simp,λu U v V e=>?_⟩;rw[VR.mp V]at e;exact A (e ▸ U)
 exact core ns [] h (λn H=>by simp at H) Ww
def Fc(xs:List D):Option 0e5:=match jr xs with
 |some j=>if j.all (λn=>decide (0<=n/\n<6))=true then some j else none
 |none=>none
theorem La(h:Fc xs=some ns):xs=ns.map D.int/\∀n∈ns,n∈ins:=by
 unfold Fc at h;split at h
 ·rename_i s i;split at h
  ·rename_i a;cases h;refine⟨eE i,λn H=>K9.mpr ?_⟩;simpa using WI.mp a n H
  ·cases h
 ·cases h
noncomputable def yY(xs:List D)(Z:aC):ah D:=match sH xs with
 |some k=>.ok 1e4 (Z++[.set (gO k)])
 |none=>match Fc xs with
  |some j=>.ok 1e4 (Z++[.iset (jU j)])
  |none=>.bad
def uX(ds:List D)(Z:aC):ah D:=match ds with
 |[.obj n]=>match Z[n]? with
  |some 12e4=>yY S Z
  |_=>.bad
 |_=>.bad
section
theorem KF{Q:VK}(S:p.S H α Z)(a:∀k∈ks,k∈prs)(r:p.Rs H α 0e8 vs)(P:aM p H α (.ok 1e4 (Z++[.set (gO ks)])) (RV p Q)):
  ∃qs:List KP,vs=iZ qs/\(∀q∈qs,q.1∈prs/\gz p.K H q.2 (q.1.map V.int))/\∀l,H l=none->Q (.ref l) (cE H l (.ext λh=>cT p.w h l (gP qs))):=by
 obtain⟨qs,d,e,U⟩:=r.keys;refine⟨qs,e,λq z=>⟨a _ (by rw[<- d];exact Wj z),U q z⟩,λl i=>?_⟩;have B:p.X H (cE H l (.ext λh=>cT p.w h l (gP qs))) α (α++[l]):=(cx i).trans (kZ [l]);refine P _ _ B (S.more i ⟨gP qs,by rw[Es,d],cA,λq z=>?_,yD,λq z=>?_⟩) _ (aU.mpr ⟨l,rfl,by rw[<- S.len];simp⟩)
 ·exact a _ (by rw[<- d];exact Wj (ou z))
 ·exact B.tup _ _ (U q (ou z))
theorem HB{Q:VK}(S:p.S H α Z)(d:∀n∈ns,n∈ins)(P:aM p H α (.ok 1e4 (Z++[.iset (jU ns)])) (RV p Q)):
  ∀l,H l=none->∀ps:List KI,ps.map 3e0=jU ns->(∀p∈ps,p.1∈ins)->(ps.map 3e0).Nodup->Q (.ref l) (cE H l (.ext λh=>eW p.w h l ps)):=λl i ps e _ _=>by
 have B:p.X H (cE H l (.ext λh=>eW p.w h l ps)) α (α++[l]):=(cx i).trans (kZ [l]);exact P _ _ B (S.more i ⟨ps,e,cA,BS d⟩) _ (aU.mpr ⟨l,rfl,by rw[<- S.len];simp⟩)
theorem NF{us:List V}{Q:VK}(S:p.S H α Z)(b:fK p.K H a us)(R:p.Rs H α xs us)(P:aM p H α (yY xs Z) (RV p Q)):Ft p.K p.w [.ref a] H Q\/Fu p.K p.w [.ref a] H Q:=by
 unfold yY at P;split at P
 ·rename_i k n;obtain⟨y,f⟩:=zV n;rw[y]at R;obtain⟨q,d,B,U⟩:=KF S f R P;exact .inl ⟨a,q,rfl,by rw[<- d];exact b,B,U⟩
 ·split at P
  ·rename_i j h;obtain⟨y,f⟩:=La h;rw[y]at R;exact .inr ⟨a,j,rfl,by rw[<- R.ints];exact b,f,HB S f P⟩
  ·exact P.elim
theorem OB:yG p uX (λxs H Q=>Ft p.K p.w xs H Q\/Fu p.K p.w xs H Q):=by
 intro s y H c e Q S r P;unfold uX at P;split at P
 ·rename_i n;split at P
  ·rename_i xs d;obtain⟨v,rfl,R⟩:=r.one;obtain⟨a,U,rfl,A,h,b⟩:=cK S R d;exact NF S (fK.of h) b P
  ·exact P.elim
 ·exact P.elim
def qG(ns:List Int):List Int:=ns.mergeSort λa b=>decide (a<=b)
theorem zw{ns':List Int}(P:ns'.Perm ns)(hs:ns'.Pairwise (·<=·)):ns'=qG ns:=by
 have H:(qG ns).Perm ns:=List.mergeSort_perm ns _
 have d:(qG ns).Pairwise (·<=·):=by
  have:=List.pairwise_mergeSort (le:=λ(a b:Int)=>decide (a<=b)) (λa b c H d=>by simp at *;omega) (λa b=>by simp;omega) ns;exact this.imp λh=>by simpa using h
 exact(P.trans H.symm).eq_of_pairwise (λa b _ _ H d=>XR H d) hs d
noncomputable def kl(ds:List D)(Z:aC):ah D:=match ds with
 |[.tup S]=>match jr S with
  |some j=>if j.length<64 then .ok 1e4 (Z++[.lst ((qG j).map D.int)]) else .bad
  |none=>.bad
 |[.obj n]=>match Z[n]? with
  |some 12e4=>match jr S with
   |some j=>if j.length<64 then .ok 1e4 (Z++[.lst ((qG j).map D.int)]) else .bad
   |none=>.bad
  |some (.set k)=>.ok 1e4 (Z++[.lst ((eK k).map aw)])
  |some (.iset k)=>.ok 1e4 (Z++[.lst ((qG k).map D.int)])
  |_=>.bad
 |_=>.bad
theorem qj:yG p kl (λxs H Q=>(A6 p.K xs H Q\/A5 p.K p.w xs H Q)\/A4 p.w xs H Q):=by
 intro M σ H o t Q S r P
 have f:∀{j:List Int},aM p H o (.ok (.obj t.length) (t++[.lst ((qG j).map D.int)])) (RV p Q)->∀N:List Int,N.Perm j->N.Pairwise (·<=·)->∀l,H l=none->Q (.ref l) (cE H l (.lst (N.map V.int))):=by
  intro j P N c y l i;rw[<- zw c y]at P;obtain⟨x,G,g⟩:=du S i (ja N);exact P _ _ x G _ g
 unfold kl at P;split at P
 ·rename_i xs;split at P
  ·rename_i j h;split at P
   ·rename_i i;obtain⟨v,rfl,b⟩:=r.one;obtain⟨a,J,rfl,c,R⟩:=aQ.mp b;rw[eE h]at R;exact .inl (.inl ⟨a,j,rfl,.inr (by rw[<- R.ints];exact c),i,f P⟩)
   ·exact P.elim
  ·exact P.elim
 ·rename_i n;split at P
  ·rename_i xs d;split at P
   ·rename_i j h;split at P
    ·rename_i i;obtain⟨v,rfl,b⟩:=r.one;obtain⟨a,J,rfl,L,c,R⟩:=cK S b d;rw[eE h]at R;exact .inl (.inl ⟨a,j,rfl,.inl (by rw[<- R.ints];exact fK.of c),i,f P⟩)
    ·exact P.elim
   ·exact P.elim
  ·rename_i I d;obtain⟨v,rfl,b⟩:=r.one;obtain⟨a,A,s,e,B,U,T,k⟩:=S.at d;obtain⟨u,rfl,E⟩:=aU.mp b;rw[A]at E;cases E;refine .inl (.inr ⟨a,s,rfl,B,k,λout m C l i=>?_⟩);have R:p.Rs H o ((out.map 3e0).map aw) (iZ out):=qU λq z=>k q (m.mem_iff.mp z);rw[GR U m C,e]at R;obtain⟨x,G,g⟩:=du S i R;exact P _ _ x G _ g
  ·rename_i I d;obtain⟨v,rfl,b⟩:=r.one;obtain⟨a,A,s,e,B,U⟩:=S.at d;obtain⟨u,rfl,E⟩:=aU.mp b;rw[A]at E;cases E;exact .inr ⟨a,s,rfl,B,by rw[e];exact f P⟩
  ·exact P.elim
 ·exact P.elim
def ik(ds:List D)(Z:aC):ah D:=Cm ds Z
theorem OE:yG p ik (λxs H Q=>∃x n,xs=[x]/\ML p.K x H n/\Q (.int n) H):=KB
end
section
variable{X:Cx}
def LY(K:W.Frag):List V->Hp->VK->Prop:=λS H Q=>∃(a:Addr)(n:List Int),S=[.ref a]/\(fK K H a (n.map V.int)\/gz K H a (n.map V.int))/\n≠[]/\∀m∈n,(∀j∈n,m<=j)->Q 5e6 H
def LZ(K:W.Frag):List V->Hp->VK->Prop:=λS H Q=>∃(a:Addr)(n:List Int),S=[.ref a]/\(fK K H a (n.map V.int)\/gz K H a (n.map V.int))/\n≠[]/\∀m∈n,(∀j∈n,j<=m)->Q 5e6 H
theorem nc(h:IntsAre its ns){v:Value}(e:its.toArray[i]?=some v):∃t,v=.int (ns.getD i 0) t/\i<ns.length:=by
 have d:its[i]?=some v:=by simpa using e
 obtain⟨n,t,rfl,H⟩:=h.at i v d;have I:=(Ul.mp H).1;exact⟨t,by rw[W7,H];rfl,I⟩
theorem mE(h:i<ns.length):ns.getD i 0∈ns:=by
 rw[W7,W6 h];exact XS h
theorem zT{j:Int}(h:j∈ns):∃i,i<ns.length/\ns.getD i 0=j:=by
 obtain⟨i,I,e⟩:=Xq h;exact⟨i,I,by rw[W7,W6 I];exact e⟩
theorem EA (C:X.calm=true):cY X (.builtin "min") (LY X.K):=by
 intro P s Y H xs us Q I r h;obtain⟨a,N,rfl,k,E,q⟩:=h;obtain⟨u,rfl,ru⟩:=iq r;cases ru;have f:0<N.length:=XT.mpr E
 have core:∀(S:List Value)(o:Obj),IntsAre S N->∀v c,S.toArray[argBest (λi j=>decide (N.getD i 0<N.getD j 0)) (S.toArray.size-1)]?=some v->Moved [0e4] (λa b=>b=a) {s with heap:=s.heap.push o} c->EP X P Y Q v c:=by
  intro S o hI v c V m;obtain⟨t,rfl,x⟩:=nc hI V;have z:S.toArray.size-1=N.length-1:=by rw[UL,hI.length]
  rw[z]at x⊢;obtain⟨b1,b2⟩:=argBest_lt (λi=>N.getD i 0) (N.length-1);obtain⟨σ,g,d,T,W⟩:=c;have y:g=s.gens:=m.gens;have G:d=s.drawn:=m.drawn;have U:W=s.os:=m.os;subst y G U;refine⟨.int _,H,I.fresh_it (o:=o) (h':=σ) (tk:=T) λb F B e=>m.heap b F B e,⟨t,rfl⟩,q _ (mE x) λj D=>?_⟩;obtain⟨i,μ,rfl⟩:=zT D;exact b2 i 0e1
 have cmp:∀(S:List Value),IntsAre S N->CmpOf 13e0 X.w X.A.in1 .Lt (λi v=>S.toArray[i]?=some v) (λi j=>decide (N.getD i 0<N.getD j 0)):=by
  intro S hI i j vi vj c Q' E' J M hQ;obtain⟨t1,rfl,_⟩:=nc hI J;obtain⟨t2,rfl,_⟩:=nc hI M;exact(PyProof.Rows.lt_int hQ:wpAny _ _ (compareOp .Lt _ _) _ _ _)
 rcases k with k|k
 ·obtain ⟨S, R, L, O⟩ := I.list k;have hI:IntsAre S N:=iE R
  have E:a≠s.heap.objs.size:=by
   obtain⟨o,n,e,_⟩:=L;exact T8 (T5 e)
  refine call_min_walkS (W2 L.isList ?_);refine⟨0e4,[0e4,a],[0e4],_,_,_,_,_,rfl,(W3 (A:=X.A.in1) 7e2 _ a E S.toArray).toS,⟨⟨_,T4 _ rfl,rfl,rfl⟩,L.isList.at λo e=>UF _ e⟩,λb B=>?_,by simp[hI.length,f],cmp S hI,λv c V m=>core S _ hI v c V m⟩;obtain⟨o,n,e,_⟩:=L;have:=T5 e;dsimp[Uh,V0,V1]at B;show b<(s.heap.push _).objs.size;rw[Xh];rcases B with rfl|rfl
  ·exact VG _
  ·exact VH this
 ·obtain ⟨S, R, L, O⟩ := I.tuple k;have hI:IntsAre S N:=iE R
  have E:a≠s.heap.objs.size:=by
   obtain⟨o,e,_⟩:=L;exact T8 (T5 e)
  refine call_min_walkS (VZ (show s.heap.IsTuple a S.toArray from L) ?_);refine⟨0e4,[0e4,a],[0e4],_,_,_,_,_,rfl,(Walks.tuple (A:=X.A.in1) 7e2 _ a E S.toArray).toS,⟨⟨_,T4 _ rfl,rfl,rfl⟩,(show s.heap.IsTuple a S.toArray from L).at λo e=>UF _ e⟩,λb B=>?_,by simp[hI.length,f],cmp S hI,λv c V m=>core S _ hI v c V m⟩;obtain⟨o,e,_⟩:=L;have:=T5 e;dsimp[Uh,V0,V1]at B;show b<(s.heap.push _).objs.size;rw[Xh];rcases B with rfl|rfl
  ·exact VG _
  ·exact VH this
theorem EC (C:X.calm=true):cY X (.builtin "max") (LZ X.K):=by
 intro P s Y H xs us Q I r h;obtain⟨a,N,rfl,k,E,q⟩:=h;obtain⟨u,rfl,ru⟩:=iq r;cases ru;have f:0<N.length:=XT.mpr E
 have core:∀(S:List Value)(o:Obj),IntsAre S N->∀v c,S.toArray[argBest (λi j=>decide (N.getD i 0>N.getD j 0)) (S.toArray.size-1)]?=some v->Moved [0e4] (λa b=>b=a) {s with heap:=s.heap.push o} c->EP X P Y Q v c:=by
  intro S o hI v c V m;obtain⟨t,rfl,x⟩:=nc hI V;have z:S.toArray.size-1=N.length-1:=by rw[UL,hI.length]
  rw[z]at x⊢;obtain⟨b1,b2⟩:=argBest_gt (λi=>N.getD i 0) (N.length-1);obtain⟨σ,g,d,T,W⟩:=c;have y:g=s.gens:=m.gens;have G:d=s.drawn:=m.drawn;have U:W=s.os:=m.os;subst y G U;refine⟨.int _,H,I.fresh_it (o:=o) (h':=σ) (tk:=T) λb F B e=>m.heap b F B e,⟨t,rfl⟩,q _ (mE x) λj D=>?_⟩;obtain⟨i,μ,rfl⟩:=zT D;exact b2 i 0e1
 have cmp:∀(S:List Value),IntsAre S N->CmpOf 13e0 X.w X.A.in1 .Gt (λi v=>S.toArray[i]?=some v) (λi j=>decide (N.getD i 0>N.getD j 0)):=by
  intro S hI i j vi vj c Q' E' J M hQ;obtain⟨t1,rfl,_⟩:=nc hI J;obtain⟨t2,rfl,_⟩:=nc hI M;exact(PyProof.Rows.gt_int hQ:wpAny _ _ (compareOp .Gt _ _) _ _ _)
 rcases k with k|k
 ·obtain ⟨S, R, L, O⟩ := I.list k;have hI:IntsAre S N:=iE R
  have E:a≠s.heap.objs.size:=by
   obtain⟨o,n,e,_⟩:=L;exact T8 (T5 e)
  refine call_max_walkS (W2 L.isList ?_);refine⟨0e4,[0e4,a],[0e4],_,_,_,_,_,rfl,(W3 (A:=X.A.in1) 7e2 _ a E S.toArray).toS,⟨⟨_,T4 _ rfl,rfl,rfl⟩,L.isList.at λo e=>UF _ e⟩,λb B=>?_,by simp[hI.length,f],cmp S hI,λv c V m=>core S _ hI v c V m⟩;obtain⟨o,n,e,_⟩:=L;have:=T5 e;dsimp[Uh,V0,V1]at B;show b<(s.heap.push _).objs.size;rw[Xh];rcases B with rfl|rfl
  ·exact VG _
  ·exact VH this
 ·obtain ⟨S, R, L, O⟩ := I.tuple k;have hI:IntsAre S N:=iE R
  have E:a≠s.heap.objs.size:=by
   obtain⟨o,e,_⟩:=L;exact T8 (T5 e)
  refine call_max_walkS (VZ (show s.heap.IsTuple a S.toArray from L) ?_);refine⟨0e4,[0e4,a],[0e4],_,_,_,_,_,rfl,(Walks.tuple (A:=X.A.in1) 7e2 _ a E S.toArray).toS,⟨⟨_,T4 _ rfl,rfl,rfl⟩,(show s.heap.IsTuple a S.toArray from L).at λo e=>UF _ e⟩,λb B=>?_,by simp[hI.length,f],cmp S hI,λv c V m=>core S _ hI v c V m⟩;obtain⟨o,e,_⟩:=L;have:=T5 e;dsimp[Uh,V0,V1]at B;show b<(s.heap.push _).objs.size;rw[Xh];rcases B with rfl|rfl
  ·exact VG _
  ·exact VH this
end
def Qy:List Int->Int
 |[]=>0
 |x::r=>r.foldl min x
def Mt:List Int->Int
 |[]=>0
 |x::r=>r.foldl max x
theorem Eo(r:List Int):∀x:Int,(r.foldl min x=x\/r.foldl min x∈r)/\r.foldl min x<=x/\∀j∈r,r.foldl min x<=j:=by
 induction r with
 |nil=>intro x;exact⟨.inl rfl,Int.le_refl _,λj D=>by simp at D⟩
 |cons y r i=>
  intro x;obtain⟨H,c,d⟩:=i (min x y);rw[Vs];have R:min x y<=x:=Int.min_le_left _ _;have W:min x y<=y:=Int.min_le_right _ _;refine⟨?_,by omega,λj D=>?_⟩
  ·rcases H with h | h
   ·rcases (by omega : min x y = x \/ min x y = y) with e | e
    ·exact .inl 0e1
    ·exact .inr (by rw[h,e];exact Ue)
   ·exact .inr (Ug _ h)
  ·rcases Uh.mp D with e | e
   ·rw[e];omega
   ·exact d j e
theorem nq(r:List Int):∀x:Int,(r.foldl max x=x\/r.foldl max x∈r)/\x<=r.foldl max x/\∀j∈r,j<=r.foldl max x:=by
 induction r with
 |nil=>intro x;exact⟨.inl rfl,Int.le_refl _,λj D=>by simp at D⟩
 |cons y r i=>
  intro x;obtain⟨H,c,d⟩:=i (max x y);rw[Vs];have R:x<=max x y:=Int.le_max_left _ _;have W:y<=max x y:=Int.le_max_right _ _;refine⟨?_,by omega,λj D=>?_⟩
  ·rcases H with h | h
   ·rcases (by omega : max x y = x \/ max x y = y) with e | e
    ·exact .inl 0e1
    ·exact .inr (by rw[h,e];exact Ue)
   ·exact .inr (Ug _ h)
  ·rcases Uh.mp D with e | e
   ·rw[e];omega
   ·exact d j e
theorem KO{m:Int}(h:m∈ns)(i:∀j∈ns,m<=j):m=Qy ns:=by
 cases ns with
 |nil=>simp at h
 |cons x r=>
  obtain⟨H,c,d⟩:=Eo r x
  have a:m<=r.foldl min x:=by
   rcases H with e|e
   ·rw[e];exact i x Ue
   ·exact i _ (Ug _ e)
  have A:r.foldl min x<=m:=by
   rcases Uh.mp h with e|e
   ·rw[e];exact c
   ·exact d m e
  exact XR a A
theorem KQ{m:Int}(h:m∈ns)(i:∀j∈ns,j<=m):m=Mt ns:=by
 cases ns with
 |nil=>simp at h
 |cons x r=>
  obtain⟨H,c,d⟩:=nq r x
  have a:r.foldl max x<=m:=by
   rcases H with e|e
   ·rw[e];exact i x Ue
   ·exact i _ (Ug _ e)
  have A:m<=r.foldl max x:=by
   rcases Uh.mp h with e|e
   ·rw[e];exact c
   ·exact d m e
  exact XR A a
def E6(d:D)(Z:aC):Option 0e5:=match d with
 |.tup S=>jr S
 |.frz S=>jr S
 |.obj n=>match Z[n]? with
  |some 12e4=>jr S
  |_=>none
 |_=>none
theorem CM(S:p.S H α Z)(r:p.R H α d v)(h:E6 d Z=some ns):∃a,v=.ref a/\(fK p.K H a 12e1\/gz p.K H a 12e1):=by
 unfold E6 at h;split at h
 ·obtain⟨a,U,rfl,c,b⟩:=aQ.mp r;rw[eE h]at b;exact⟨a,rfl,.inr (by rw[<- b.ints];exact c)⟩
 ·obtain⟨a,U,rfl,c,b⟩:=bM.mp r;rw[eE h]at b;exact⟨a,rfl,.inl (by rw[<- b.ints];exact c.sq)⟩
 ·split at h
  ·rename_i s x;obtain⟨a,U,rfl,A,c,b⟩:=cK S r x;rw[eE h]at b;exact⟨a,rfl,.inl (by rw[<- b.ints];exact fK.of c)⟩
  ·cases h
 ·cases h
def yO(ds:List D)(Z:aC):ah D:=match ds with
 |[d]=>match E6 d Z with
  |some (n::j)=>.ok (.int (Qy (n::j))) Z
  |_=>.bad
 |ds=>FE ds Z
def n5(ds:List D)(Z:aC):ah D:=match ds with
 |[d]=>match E6 d Z with
  |some (n::j)=>.ok (.int (Mt (n::j))) Z
  |_=>.bad
 |ds=>FF ds Z
theorem OC:yG p yO (λxs H Q=>LY p.K xs H Q\/∃i j,xs=[.int i,.int j]/\Q (.int (if j<i then j else i)) H):=by
 intro s y H c e Q S r P;unfold yO at P;split at P
 ·rename_i d;split at P
  ·rename_i n N h;obtain⟨v,rfl,R⟩:=r.one;obtain⟨a,rfl,b⟩:=CM S R h;refine .inl ⟨a,n::N,rfl,b,by simp,λm M D=>?_⟩;rw[KO M D];exact P.now S _ 11e6
  ·exact P.elim
 ·exact .inr (Kx s y H c e Q S r P)
theorem OD:yG p n5 (λxs H Q=>LZ p.K xs H Q\/∃i j,xs=[.int i,.int j]/\Q 15e8 H):=by
 intro s y H c e Q S r P;unfold n5 at P;split at P
 ·rename_i d;split at P
  ·rename_i n N h;obtain⟨v,rfl,R⟩:=r.one;obtain⟨a,rfl,b⟩:=CM S R h;refine .inl ⟨a,n::N,rfl,b,by simp,λm M D=>?_⟩;rw[KQ M D];exact P.now S _ 11e6
  ·exact P.elim
 ·exact .inr (Ky s y H c e Q S r P)
theorem tS:∀{xs:List V}{us:List Value},xs.length=us.length->(∀(i:Nat) x u,xs[i]?=some x->us[i]?=some u->cX x u)->bA xs us
 |[],[],_,_=>.nil
 |[],_::_,h,_=>by simp at h
 |_::_,[],h,_=>by simp at h
 |x::xs,u::us,h,k=>.cons (k 0 x u rfl rfl) (tS (by simpa using h) λi a U H c=>k (i+1) a U (by simpa using H) (by simpa using c))
section
variable{X:Cx}
def QS(t:TA):TE:=λa H Q=>t a H λy b=>∃j:Int,y=[.int j]/\∀r,b r=none->Q (.ref r) (cE b r (.rng 0 j))
theorem D2{a:Expr}{p:Pos}(σ:Gl X "range")(i:X.mg "range" = none)(n:PA X [a] ta)(hs:starEach [a] 1e9=[9e5]):PE X (.Call (.Name "range" p) [a] [] pos) (QS ta):=by
 intro P s k H Q I h;refine Call_ (mr I σ i boot_range (UH (dX (n pos P s k H _ I h) λU S ⟨y,c,d,R,f⟩=>?_) hs rfl));obtain⟨j,e,q⟩:=f;subst e;cases R with
 |cons r g=>
  cases g;obtain⟨t,rfl⟩:=r;refine call_range_1 ?_;refine⟨.ref 6e5,cE c 6e5 (.rng 0 j),d.laid (λb O e=>UF _ e) 6e3 ⟨_,_,_,T4 _ rfl⟩,rfl,q _ (d.hok.fresh 6e3)⟩
def NU:List V->Hp->VK->Prop:=λS H Q=>∃(r:Addr)(j:Int),S=[.ref r]/\H r=some (.rng 0 j)/\-(2^62)<=j/\j<=2^20/\∀l,H l=none->Q (.ref l) (cE H l (.lst ((List.range j.toNat).map λ(i:Nat)=>V.int (i:Int))))
theorem B1 (f:X.calm=true):cY X (.type "list") NU:=by
 intro P s G H E S Q I r h;obtain⟨R,j,rfl,A,J,z,q⟩:=h;obtain⟨u,rfl,U⟩:=iq r;cases U;obtain⟨t,u,v,m⟩:=(show eP 13e0 X.w H 3e3 R (.rng 0 j) from I.hok R _ A);have N:Builtin.Range.rangeSize 0 j 1=((j.toNat:Nat):Int):=by rw[rangeSize_one];split <;> omega
 refine call_list_range (n:=j.toNat) (I.ok.hd f) m (small_one 0e1 0e1 0e1 0e1) N 0e1 λy K acc' C k l T=>?_
 have o:bA ((List.range j.toNat).map λ(i:Nat)=>V.int (i:Int)) acc'.toList:=by
  obtain⟨d,B⟩:=T;refine tS (by simp[d]) λi x u a c=>?_;rw[UX]at a
  have g:i<j.toNat:=by
   have:=(Ul.mp c).1;simp[d]at this;omega
  rw[Xw g]at a;cases a;obtain⟨t,rfl⟩:=B i u (by simpa using c);exact⟨t,by simp⟩
 refine⟨.ref 0e4,cE H 0e4 (.lst ((List.range j.toNat).map λ(i:Nat)=>V.int (i:Int))),I.laid (λb O e=>k b O e) 6e3 ⟨?_,acc'.toList,C,o,by simpa using l⟩,rfl,q _ (I.hok.fresh 6e3)⟩;have:(sizeLine:Nat)=16777216:=UK;dsimp[U1,V7];omega
end
noncomputable def kG(o1 o2:D->D->aC->ah D)(fa fb fc:ME):ME:=λg h=>(fa g h).bind λa e=>(fb g e).bind λb f=>(o1 a b f).bind λz K=>(Iv z K).bind λk E=>
 if k=true then (fc g E).bind λc I=>o2 b c I else .ok (.bl false) E
section
variable{X:Cx}{a b c d:Expr}{ta tb tc td:TE}{fb fc fd:ME}{op' op'':CmpOp}{r r' r'':R2}{o1 o2 o3:D->D->aC->ah D}
theorem uc(g:sg p o1 r)(j:sg p o2 r'){Q:VK}(h:tD p (kG o1 o2 fa fb fc) Y H Q):AZ r r' (tD p fa) (tD p fb) (tD p fc) Y H Q:=by
 obtain⟨α,A,Z,S,R,P⟩:=h;refine⟨α,A,Z,S,R,(aM.bind P).imp λx n H1 l C σ L v W=>⟨l,A,n,σ,R.mono C,(aM.bind L).imp λy o G m E μ M u U=>?_⟩⟩;refine g x y v u G m o _ μ (W.mono E) U ((aM.bind M).imp λz K H3 I N f T w i=>?_);obtain⟨k,_,e,q⟩:=sU (aM.bind T) i f;refine⟨k,e,?_⟩;cases k with
 |true=>
  rw[T1 rfl]at q⊢;exact⟨I,A,K,f,((R.mono C).mono E).mono N,(aM.bind q).imp λc s J B F D V t O=>j y c u t J B s Q D ((U.mono N).mono F) O V⟩
 |false=>rw[T3 UA]at q⊢;exact q.now f _ (bB.mpr rfl)
theorem G4(G:kd X (compareOp op) r)(i:kd X (compareOp op') r')(g:sg p o1 r)(j:sg p o2 r')(n:PE X a (tD p fa))(B:PE X b (tD p fb))(C:PE X c (tD p fc))
  (m:lastMarks [op,op'] [b,c]=false):PE X 11e2 (tD p (kG o1 o2 fa fb fc)):=(Ht G i n B C m).weak λe H Q h=>uc g j h
theorem DF{t:TE}{f:ME}(K:∀Y H Q,tD p f Y H Q->t Y H Q){Q:Bool->Hp->Prop}(h:ij p (il f) Y H Q):Fk t Y H Q:=by
 obtain⟨j,o,m,S,R,P⟩:=h;refine K Y H _ ⟨j,o,m,S,R,(aM.bind P).imp λd n s l u i g v V=>?_⟩;obtain⟨k,_,e,q⟩:=sU g V i;exact⟨k,e,q⟩
theorem GC(G:kd X (compareOp op) r)(i:kd X (compareOp op') r')(g:sg p o1 r)(j:sg p o2 r')(n:PE X a (tD p fa))(B:PE X b (tD p fb))(C:PE X c (tD p fc))
  (m:lastMarks [op,op'] [b,c]=false):PT X 11e2 (ij p (il (kG o1 o2 fa fb fc))):=(He G i n B C m).weak λe H Q h=>DF (λe H Q h=>uc g j h) h
noncomputable def AM(d:D)(Z:aC):ah Bool:=match d with
 |.non=>.ok false Z
 |.bl b=>.ok b Z
 |.int i=>.ok (i != 0) Z
 |.str x=>if x.length<=sizeLine then .ok ((x.length:Int) != 0) Z else .bad
 |.tup S=>.ok (!S.isEmpty) Z
 |.frz S=>.ok (!S.isEmpty) Z
 |.obj n=>match Z[n]? with
  |some 12e4=>.ok (!S.isEmpty) Z
  |_=>.bad
def gu(f:ME):MT:=λg e=>(f g e).bind AM
theorem Reps.isEmpty(r:Reps K H α xs vs):vs.isEmpty=xs.isEmpty:=by
 have:=11e9;cases xs with
 |nil=>have h:vs=[]:=XF (by simpa using this);rw[h];rfl
 |cons x r=>cases vs with
  |nil=>simp at this
  |cons _ _=>rfl
theorem Jj{d:D}{R:Bool->aC->Hp->List Addr->Prop}(S:p.S H α Z)(r:p.R H α d v)(P:aM p H α (AM d Z) R):∃k,MJ p.K v H k/\R k Z H α:=by
 unfold AM at P;split at P
 ·rw[cj.mp r];exact⟨false,rfl,P.now S⟩
 ·rename_i b;rw[bB.mp r];exact⟨b,rfl,P.now S⟩
 ·rename_i i;rw[ay.mp r];exact⟨_,rfl,P.now S⟩
 ·rename_i x;split at P
  ·rename_i l;rw[dY.mp r];exact⟨_,⟨l,rfl⟩,P.now S⟩
  ·exact P.elim
 ·obtain⟨a,y,rfl,h,e⟩:=aQ.mp r;exact⟨_,.inr (.inl ⟨y,h,by rw[e.isEmpty]⟩),P.now S⟩
 ·obtain⟨a,y,rfl,h,e⟩:=bM.mp r;exact⟨_,.inl ⟨y,h.sq,by rw[e.isEmpty]⟩,P.now S⟩
 ·split at P
  ·rename_i s f;obtain⟨a,U,rfl,A,h,g⟩:=cK S r f;exact⟨_,.inl ⟨U,fK.of h,by rw[g.isEmpty]⟩,P.now S⟩
  ·exact P.elim
theorem GA{f:ME}(hK:X.K=p.K)(h:PE X e (tD p f))(j:∀whole,isTrue e 1e9 whole=(do let v <- whole;standAt e.pos;holding [v] (truthy v))):PT X e (ij p (gu f)):=
 (Hd h j).weak λt H Q ⟨k, o, m, S, R, P⟩ => ⟨k, o, m, S, R, (aM.bind P).imp λd n q l s i g v V => by
  rw[hK];exact Jj i V g⟩
noncomputable def qa(ds:List D)(Z:aC):ah D:=match ds with
 |[.int j]=>if -(2^62)<=j/\j<=2^20 then .ok 1e4 (Z++[.lst (bR 0 j.toNat)]) else .bad
 |_=>.bad
theorem Hc(n:Nat):Reps K H α (bR 0 n) ((List.range n).map λ(i:Nat)=>V.int (i:Int)):=by
 have:bR 0 n=((List.range n).map λ(i:Nat)=>((i:Nat):Int)).map D.int:=by
  unfold bR;rw[V4];apply V6;intro i _;simp
 rw[this];have h:((List.range n).map λ(i:Nat)=>V.int (i:Int))=((List.range n).map λ(i:Nat)=>((i:Nat):Int)).map V.int:=by rw[V4];rfl
 rw[h];exact ja _
theorem G2{pl pr p1:Pos}(C:X.calm=true)(σ:Gl X "range")(M:X.mg "range" = none)(L:Gl X "list")(e:X.mg "list" = none)(n:PA X [a] 16e1)(hs:starEach [a] 1e9=[9e5]):
  PE X (.Call (.Name "list" pl) [.Call (.Name "range" pr) [a] [] p1] [] pos) (tD p (ax qa fr)):=by
 refine(vX (T:="list") (B1 C) L e boot_list (rV (D2 σ M n hs) A7 rfl) 1e2 1e2 rfl rfl).weak λJ H Q ⟨u,y,w,S,R,P⟩=>⟨u,y,w,S,R,(aM.bind P).imp λE g m i A o h I V=>?_⟩;unfold qa at h;split at h
 ·rename_i j;obtain⟨v,rfl,t⟩:=V.one;split at h
  ·rename_i D;refine⟨j,by rw[ay.mp t],λk f=>?_⟩;refine⟨k,j,rfl,cA,D.1,D.2,λl s=>?_⟩;have q:p.S (cE m k (.rng 0 j)) i g:=o.same (cx f) λa n=>bG λz=>n (by rw[z];exact f);obtain⟨B,G,x⟩:=du q s (Hc j.toNat);exact h _ _ ((cx f).trans B) G _ x
  ·exact h.elim
 ·exact h.elim
def Qh(p:Pa)(f:D->List D->aC->ah D)(r:V->List V->Hp->VK->Prop):Prop:=∀d s v y H h e Q,p.S H h e->p.R H h d v->p.Rs H h s y->aM p H h (f d s e) (RV p Q)->r v y H Q
def B6(d:D)(Z:aC):Bool:=match d with
 |.obj n=>match Z[n]? with
  |some (.lst _)=>true
  |_=>false
 |_=>false
def AI(f:D->List D->aC->ah D)(fo:ME)(L:MA):ME:=λh i=>(fo h i).bind λo e=>if B6 o e=true then (L h e).bind λs g=>f o s g else .bad
theorem O8{d:D}(S:p.S H α Z)(r:p.R H α d v)(h:B6 d Z=true):RW p.K "list" v H:=by
 unfold B6 at h;split at h
 ·split at h
  ·rename_i s x;obtain⟨a,U,rfl,A,e,f⟩:=cK S r x;exact .inl ⟨rfl,U,fK.of e⟩
  ·cases h
 ·cases h
theorem Fp{o:Expr}{es:List Expr}{fo:ME}{name:Str}{cpos:Pos}{id:String}{rr:V->List V->Hp->VK->Prop}{f:D->List D->aC->ah D}(hK:X.K=p.K)(slot:Slot "list" name id)(y:typeOf 16e4=pure (.type "method_descriptor"))(M:Ss X id rr)(C:Qh p f rr)(G:PE X o (tD p fo))(B:PA X (e::es) 16e1)(hbase:attributeBase o name 1e9 (eval o 1e9)=eval o 1e9)(W : ((backTo cpos (starEach (e :: es) 1e9)).all (λx => !x.1) && (backToKw cpos 16e9).all (λx => x.1.isSome)
   && decide 8e7)=true)(hline:(apos.endLine == cpos.line)=true)(hs:starEach (e::es) 1e9=(false,eval e 1e9)::starEach es 1e9)(hplain:(backTo cpos 7e1).any 3e0=false):
  PE X (.Call (.Attribute o name apos) (e::es) [] cpos) (tD p (AI f fo fr)):=
 (Ri PySem.F.plainAttrs_list slot y M G B hbase W hline hs hplain).weak λT H Q ⟨J, q, L, S, R, P⟩ => ⟨J, q, L, S, R, (aM.bind P).imp λd g N j w m h v n => by
  by_cases i:B6 d g=true
  ·rw[T1 i]at h;rw[hK];exact⟨O8 m n i,j,q,g,m,R.mono w,(aM.bind h).imp λA l s k z u t I E=>C d A v I s k l Q u (n.mono z) E t⟩
  ·rw[T3 i]at h;exact h.elim⟩
noncomputable def oh(d:D)(ds:List D)(Z:aC):ah D:=match d,ds with
 |.obj n,[.int i]=>match Z[n]? with
  |some 12e4=>match AG S.length i with
   |some k=>match S[k]? with
    |some y=>if -(2^63)<=i/\i<2^63 then .ok y (Z.set n (.lst (S.eraseIdx k))) else .bad
    |none=>.bad
   |none=>.bad
  |_=>.bad
 |_,_=>.bad
theorem KJ:Qh p oh F2:=by
 intro d j v V H m o Q S D s P;unfold oh at P;split at P
 ·rename_i n i;split at P
  ·rename_i l x;split at P
   ·rename_i k K;split at P
    ·rename_i y σ;split at P
     ·rename_i B;obtain⟨a,U,rfl,A,h,R⟩:=cK S D x;obtain⟨w,rfl,f⟩:=s.one;obtain⟨z,μ,g⟩:=R.get σ;have e:=(xO K).1;have q:=R.eraseIdx k;refine⟨a,U,i,k,z,rfl,by rw[ay.mp f],h,B.1,B.2,by rw[R.length];exact e,μ,?_⟩;exact P _ _ (iM h) (S.put x A h q) _ (g.mono (iM h))
     ·exact P.elim
    ·exact P.elim
   ·exact P.elim
  ·exact P.elim
 ·exact P.elim
noncomputable def dt(d:D)(ds:List D)(Z:aC):ah D:=match d,ds with
 |.obj n,[y]=>match Z[n]? with
  |some 12e4=>if S.length<sizeLine then .ok .non (Z.set n (.lst (S++[y]))) else .bad
  |_=>.bad
 |_,_=>.bad
theorem KM:Qh p dt CS:=by
 intro d f v V H i j Q S D s P;unfold dt at P;split at P
 ·rename_i n y;split at P
  ·rename_i g x;split at P
   ·rename_i B;obtain⟨a,U,rfl,A,h,e⟩:=cK S D x;obtain⟨w,rfl,R⟩:=s.one;have q:=e.snoc R;exact⟨a,U,w,rfl,rfl,h,by rw[e.length];exact B,P _ _ (iM h) (S.put x A h q) _ (cj.mpr rfl)⟩
   ·exact P.elim
  ·exact P.elim
 ·exact P.elim
end
abbrev bE(K:W.Frag)(w:World):Pa:=⟨K,w,λ_ _ _ _=>False⟩
abbrev ke:D->D->aC->ah D:=dI λi j=>.int (i-j)
noncomputable abbrev y8:D->D->aC->ah D:=ID IV λi j=>.int (i / j)
noncomputable abbrev yN:D->D->aC->ah D:=ID (λ_ j=>0<j) λi j=>.int (i%j)
noncomputable abbrev Mz:D->D->aC->ah D:=ID DB λi j=>.int (i^j.toNat)
noncomputable def xn(N:List Str)(sc scope:Scope)(Nc:List Str)(cap:List 5e0):Bool:=
 (scope.kind == .function)&&scope.names.all (λy=>scope.names.lookup y.1 == some y.2) &&
 scope.names.all (λy=>y.2 != .free || sc.names.lookup y.1 == some .cell || sc.names.lookup y.1 == some .free)&&iu N {scope:=sc,globals:=0,builtins:=0,locals:=0,cells:=[],qual:="",func:=none,code:=.none,frame:=none} scope Nc cap
theorem qv{N:List Str}{e1 e2:Env}{scope:Scope}:∀{Nc:List Str}{cap:List 5e0},iu N e1 scope Nc cap=iu N e2 scope Nc cap
 |[],[]=>rfl
 |_::_,[]=>rfl
 |[],_::_=>rfl
 |_::Nc,none::cap=>by unfold iu;exact qv
 |x::Nc,some j::cap=>by unfold iu;rw[qv (Nc:=Nc) (cap:=cap) (e1:=e1) (e2:=e2)]
theorem wB{X:Cx}{cap:List 5e0}(hN:X.N=N)(K:∀x,(sc.names.lookup x=some .cell\/sc.names.lookup x=some .free)->X.env.kindOf x=some .cell\/X.env.kindOf x=some .free)(h:xn N sc scope Nc cap=true):bP X.N 1e9 scope Nc cap:=by
 unfold xn at h;dsimp[Vf]at h;obtain⟨⟨⟨H,i⟩,j⟩,k⟩:=h;refine⟨eq_of_beq H,λy σ=>?_,λy σ F=>?_,?_⟩
 ·exact eq_of_beq (WI.mp i y σ)
 ·have := WI.mp j y σ;dsimp[XU,F]at this;refine K _ ?_;rcases this with (z|z)|z
  ·exact absurd z 1e2
  ·exact .inl (eq_of_beq z)
  ·exact .inr (eq_of_beq z)
 ·rw[hN,qv];exact k
theorem bh{X:Cx}{cap:List 5e0}(hN:X.N=N)(hs:X.env.scope=sc)(h:xn N sc scope Nc cap=true):bP X.N 1e9 scope Nc cap:=
 wB hN (λx H=>by subst hs;exact H) h
theorem x3{X:Cx}{cap:List 5e0}(hN:X.N=N)(hs:X.env.scope=relabel sc env)(h:xn N sc scope Nc cap=true):bP X.N 1e9 scope Nc cap:=
 wB hN (λx H=>by
  have e:X.env.kindOf x=(sc.names.lookup x).map λk=>if (k == NameKind.free&&env.scope.kind == .function&&env.kindOf x == some .cell) then NameKind.cell else k:=by
   have:X.env.kindOf x=(relabel sc env).names.lookup x:=by rw[<- hs];rfl
   rw[this];exact j3
  rw[e];rcases H with z|z
  ·rw[z];exact .inl rfl
  ·rw [z];show some (if _ then _ else _)=_\/some (if _ then _ else _)=_;split
   ·exact .inl rfl
   ·exact .inr rfl) h
structure Bx(P:Prop):Prop where
 h:P
section
variable{X:Cx}{a b c d:Expr}{es:List Expr}{fb fc fd f:ME}{ft gt:MT}
theorem aE(i:Nat)(hN:autoParam (X.N[i]?=some x) ATr)(V:Sa X.env.scope x:=by first|exact Or.inl rfl|exact Or.inr (Or.inl rfl)|exact Or.inr (Or.inr rfl))(h:autoParam 4e5 ATs)(D:autoParam ((x == ("__classdict__" : Str))=false) ATs):Bx (PE X 16e3 (tD p (ao i))):=⟨NG (Oa hN V h D)⟩
theorem cP{i j}:Bx (PE X (.Constant 11e5 j pos) (tD p (cC 11e5))):=⟨IJ Of λ_ _=>ay.mpr rfl⟩
theorem AE{i j}:Bx (PE X (.Constant (.bool i) j pos) (tD p (cC (.bl i)))):=⟨IJ Rj λ_ _=>bB.mpr rfl⟩
theorem PL{j}:Bx (PE X (.Constant .none j pos) (tD p (cC .non))):=⟨IJ F4 λ_ _=>cj.mpr rfl⟩
theorem Dr{i:Int}(h:∃t,X.mg x=some (.int i t))(σ:autoParam (Gl X x) ATr)(D:autoParam 4e5 ATs):Bx (PE X 16e3 (tD p (cC 11e5))):=Bx.mk (by
 obtain⟨t,J⟩:=h
 exact IJ (Kc (v:=.int i) σ J ⟨t,rfl⟩ D) λ_ _=>ay.mpr rfl)
theorem iY(n:Bx 4e2)(H:Bx 6e1)(hK:autoParam 9e0 ATr):Bx (PE X (.BinOp a .Add b pos) (tD p (aF eS fa fb))):=⟨kE (r:=Fy p.K) (hK ▸ Ku) OM n.h H.h⟩
theorem oI(n:Bx 4e2)(H:Bx 6e1):Bx (PE X (.BinOp a .Sub b pos) (tD p (aF ke fa fb))):=⟨kE Oj (Ms λ_ _ _ _=>ay.mpr rfl) n.h H.h⟩
theorem Fj(n:Bx 4e2)(H:Bx 6e1):Bx (PE X (.BinOp a .Mult b pos) (tD p (aF uY fa fb))):=⟨kE Ko OI n.h H.h⟩
theorem FL(n:Bx 4e2)(H:Bx 6e1):Bx (PE X (.BinOp a .FloorDiv b pos) (tD p (aF y8 fa fb))):=⟨kE Kq (y0 λ_ _ _ _=>ay.mpr rfl) n.h H.h⟩
theorem yW(n:Bx 4e2)(H:Bx 6e1):Bx (PE X (.BinOp a .Mod b pos) (tD p (aF yN fa fb))):=⟨kE Ot (y0 λ_ _ _ _=>ay.mpr rfl) n.h H.h⟩
theorem QL(n:Bx 4e2)(H:Bx 6e1):Bx (PE X (.BinOp a .Pow b pos) (tD p (aF Mz fa fb))):=⟨kE Oo (y0 λ_ _ _ _=>ay.mpr rfl) n.h H.h⟩
theorem Fi(n:Bx 4e2):Bx (PE X (.UnaryOp .USub a pos) (tD p (vA yM fa))):=⟨Q6 MX ON n.h⟩
structure pU(X:Cx)(p:Pa)(op:CmpOp)(o:D->D->aC->ah D):Prop where
 ex:∃r,kd X (compareOp op) r/\sg p o r
theorem pR(U:X.A.units+64<cLine)(hK:autoParam 9e0 ATr):pU X p .Eq (kc false):=⟨E9 p.K false,hK ▸ Ow U,L8⟩
theorem uW(U:X.A.units+64<cLine)(hK:autoParam 9e0 ATr):pU X p .NotEq (kc true):=⟨E9 p.K true,hK ▸ Oq U,L8⟩
theorem AS(U:X.A.units+64<cLine)(hK:autoParam 9e0 ATr):pU X p .In (pQ false):=⟨E8 p.K false,hK ▸ Ov U,L7⟩
theorem Cc(U:X.A.units+64<cLine)(hK:autoParam 9e0 ATr):pU X p .NotIn (pQ true):=⟨E8 p.K true,hK ▸ D5 U,L7⟩
theorem FA:pU X p .Is (su false):=⟨_,Ou,OK⟩
theorem O1:pU X p .IsNot (su true):=⟨_,Km,KD⟩
theorem fO(U:X.A.units+64<cLine)(G:autoParam (y2 op=true) ATr)(hK:autoParam 9e0 ATr):pU X p op (d0 op):=⟨Fw p.K op,hK ▸ Kr U G,OL⟩
variable{op' op'':CmpOp}{o' o'':D->D->aC->ah D}
theorem jo(k:pU X p op o)(n:Bx 4e2)(H:Bx 6e1)(i:autoParam (behindInMarks op b=false) ATr):Bx (PE X 14e8 (tD p (aF o fa fb))):=Bx.mk (let ⟨_,h1,h2⟩:=k.ex;NM h1 h2 n.h H.h i)
theorem b9(k:pU X p op o)(n:Bx 4e2)(H:Bx 6e1)(i:autoParam (behindInMarks op b=false) ATr):Bx (PT X 14e8 (ij p (il (aF o fa fb)))):=Bx.mk (let ⟨_,h1,h2⟩:=k.ex;Ng h1 h2 n.h H.h i)
theorem QN(k:pU X p op o)(k':pU X p op' o')(n:Bx 4e2)(H:Bx 6e1)(i:Bx (PE X c (tD p fc)))(m:autoParam (lastMarks [op,op'] [b,c]=false) ATr):Bx (PE X 11e2 (tD p (kG o o' fa fb fc))):=Bx.mk (let ⟨_,h1,h2⟩:=k.ex;let ⟨_,h3,h4⟩:=k'.ex;G4 h1 h3 h2 h4 n.h H.h i.h m)
theorem QP(k:pU X p op o)(k':pU X p op' o')(n:Bx 4e2)(H:Bx 6e1)(i:Bx (PE X c (tD p fc)))(m:autoParam (lastMarks [op,op'] [b,c]=false) ATr):Bx (PT X 11e2 (ij p (il (kG o o' fa fb fc)))):=Bx.mk (let ⟨_,h1,h2⟩:=k.ex;let ⟨_,h3,h4⟩:=k'.ex;GC h1 h3 h2 h4 n.h H.h i.h m)
theorem rO(h:Bx (PE X e (tD p f)))(j:autoParam (∀whole,isTrue e 1e9 whole=(do let v <- whole;standAt e.pos;holding [v] (truthy v))) ATt)(hK:autoParam 9e0 ATr):Bx (PT X e (ij p (gu f))):=⟨GA hK h.h j⟩
theorem LP(n:Bx (PT X a (ij p ft)))(H:Bx (PW X 13e5 (ij p gt))):Bx (PW X 11e1 (ij p (y9 ft gt))):=⟨M8 n.h H.h⟩
theorem wY(n:Bx (PT X a (ij p ft)))(H:Bx (PW X (.BoolOp .Or (b::rest) pos) (ij p gt))):Bx (PW X (.BoolOp .Or (a::b::rest) pos) (ij p (pT ft gt))):=⟨Q2 n.h H.h⟩
theorem FR(n:Bx (PT X a (ij p ft))):Bx (PW X (.BoolOp .And [a] pos) (ij p ft)):=⟨JY n.h⟩
theorem qF(n:Bx (PT X a (ij p ft))):Bx (PW X (.BoolOp .Or [a] pos) (ij p ft)):=⟨NW n.h⟩
theorem mh{op}(n:Bx 4e2):Bx (PE X (.BoolOp op [a] pos) (tD p fa)):=⟨Oc n.h⟩
def A8:Expr->Bool
 |.Starred _ _=>false
 |_=>true
theorem qc{a:Expr}{es:List Expr}(h:A8 a=true):starEach (a::es) env=(false,eval a env)::starEach es env:=by
 cases a <;> first|rfl|cases h
theorem aP(n:Bx 4e2)(R:Bx (PA X es 16e1))(hs:autoParam (A8 a=true) ATr):Bx (PA X (a::es) (oF p (ak fa fr))):=⟨JS n.h R.h (qc hs)⟩
theorem aY  : Bx (PA X [] (oF p aB)):=⟨NO⟩
theorem aJ{k:Nat}{F:List D->aC->ah D}(h:bF 13e0 X.w X.K X.mg X.base p k x n F)(R:kf k X.A)(i:Bx (PA X (a::es) 16e1))(σ:autoParam (Gl X x) ATr)(H:autoParam 4e5 ATs)(j:autoParam (starEach (a::es) 1e9=(false,eval a 1e9)::starEach es 1e9) ATr)(L:autoParam 14e2 ATr):Bx (PE X 12e7 (tD p (ax F fr))):=⟨JP h R σ i.h H j L⟩
structure sC(X:Cx)(p:Pa)(x:Str)(F:List D->aC->ah D):Prop where
 ex:∃(u:Value) (r:List V->Hp->VK->Prop),((∃id,u=.builtin id)\/∃T,u=.type T)/\bootBuiltins x=some u/\cY X u r/\yG p F r/\x ≠ "__name__" /\ (x == ("__debug__" : Str))=false
theorem bx{F:List D->aC->ah D}(k:sC X p x F)(M:X.mg x=none)(n:Bx (PA X (a::es) 16e1))(σ:autoParam (Gl X x) ATr)(E:autoParam (starEach (a::es) 1e9=(false,eval a 1e9)::starEach es 1e9) ATr)(L:autoParam 14e2 ATr):Bx (PE X 12e7 (tD p (ax F fr))):=Bx.mk (by
 obtain⟨u,r,U,H,i,j,l,m⟩:=k.ex;rcases U with⟨id,rfl⟩|⟨T,rfl⟩
 ·exact G5 i j σ M H n.h l m E L
 ·exact DT i j σ M H n.h l m E L)
theorem iw (hK:autoParam 9e0 ATr) (W:autoParam (X.w=p.w) ATr):sC X p "len" ik:=⟨_,_,.inl ⟨_,rfl⟩,PySem.boot_len,Ii,by rw[hK];exact OE,by decide,by decide⟩
theorem nK (i:autoParam 10e2 ATr) (hK:autoParam 9e0 ATr):sC X p "all" nt:=⟨_,_,.inl ⟨_,rfl⟩,by decide +kernel,EF i,hK ▸ OH,by decide,by decide⟩
theorem Mj (i:autoParam 10e2 ATr) (hK:autoParam 9e0 ATr):sC X p "any" yQ:=⟨_,_,.inl ⟨_,rfl⟩,by decide +kernel,EE i,hK ▸ OG,by decide,by decide⟩
theorem jz (hK:autoParam 9e0 ATr):sC X p "tuple" fJ:=⟨_,_,.inr ⟨_,rfl⟩,by decide +kernel,vx,hK ▸ Hw,by decide,by decide⟩
theorem Gq (hK:autoParam 9e0 ATr):sC X p "list" sJ:=⟨_,_,.inr ⟨_,rfl⟩,by decide +kernel,yB,hK ▸ KA,by decide,by decide⟩
theorem RK:sC X p "int" y6:=⟨_,_,.inr ⟨_,rfl⟩,by decide +kernel,ED,OF,by decide,by decide⟩
theorem FH (i:autoParam 10e2 ATr) (hK:autoParam 9e0 ATr):sC X p "min" yO:=⟨_,_,.inl ⟨_,rfl⟩,by decide +kernel,(EA i).or (Ez i),hK ▸ OC,by decide,by decide⟩
theorem za (i:autoParam 10e2 ATr) (hK:autoParam 9e0 ATr):sC X p "max" n5:=⟨_,_,.inl ⟨_,rfl⟩,by decide +kernel,(EC i).or (EB i),hK ▸ OD,by decide,by decide⟩
theorem Mi (U:X.A.units+64<cLine) (i:autoParam 10e2 ATr) (hK:autoParam 9e0 ATr) (W:autoParam (X.w=p.w) ATr):sC X p "set" uX:=⟨_,_,.inr ⟨_,rfl⟩,by decide +kernel,(Ew i U).or (Ex i U),by rw[hK,W];exact OB,by decide,by decide⟩
theorem vD{T:String}{xT:Str}{pt:Pos}(hT:T∈["int", "bool", "tuple", "list", "str", "dict"])(hbT:bootBuiltins xT=some (.type T))(hnT:xT ≠ "__name__")(hdT:(xT == ("__debug__" : Str))=false)(i:X.mg "isinstance" = none)(hmT:X.mg xT=none)(n:Bx 4e2)(σ:autoParam (Gl X "isinstance") ATr)(hgT:autoParam (Gl X xT) ATr)(H:autoParam (starEach [a,.Name xT pt] 1e9=(false,eval a 1e9)::starEach [.Name xT pt] 1e9) ATr)(hK:autoParam 9e0 ATr):Bx (PE X (.Call (.Name "isinstance" px) [a,.Name xT pt] [] pos) (tD p (vA (jN T) fa))):=⟨NK hK hT σ i hgT hmT hbT n.h hnT hdT H⟩
theorem Pz:bootBuiltins "int" = some (.type "int"):=by decide +kernel
theorem Lx:bootBuiltins "bool" = some (.type "bool"):=by decide +kernel
theorem ph:bootBuiltins "tuple" = some (.type "tuple"):=by decide +kernel
theorem MW {pl pr p1:Pos} (m:X.mg "range" = none) (l:X.mg "list" = none) (n:Bx (PA X [a] 16e1)) (i:autoParam 10e2 ATr) (σ:autoParam (Gl X "range") ATr) (L:autoParam (Gl X "list") ATr) (hs:autoParam (starEach [a] 1e9=[9e5]) ATr):Bx (PE X (.Call (.Name "list" pl) [.Call (.Name "range" pr) [a] [] p1] [] pos) (tD p (ax qa fr))):=⟨G2 i σ m L l n.h hs⟩
theorem cg(n:Bx 4e2)(H:Bx 6e1)(hs:sd b:=by exact λ_ _=>rfl)(hK:autoParam 9e0 ATr):Bx (PE X (.Subscript a b pos) (tD p (aF cM fa fb))):=⟨Q7 hK n.h H.h hs⟩
theorem SD{lo hi:Option Expr}{fl fh:MO}{p2:Pos}(j:Bx (PE X e (tD p fa)))(i:Bx (PO X lo (PM p fl)))(U:Bx (PO X hi (PM p fh)))(hK:autoParam 9e0 ATr):Bx (PE X (.Subscript e (.Slice lo hi none p2) pos) (tD p (R7 fa fl fh))):=⟨G1 hK j.h i.h U.h⟩
theorem QM{fo:ME}(G:Bx (PE X ob (tD p fo)))(n:Bx (PA X [e] 16e1))(hbase:autoParam (attributeBase ob "pop" X.env (eval ob 1e9)=eval ob 1e9) ATr)(W:autoParam (((backTo pos (starEach [e] 1e9)).all (λx=>!x.1)&&(backToKw pos 16e9).all (λx=>x.1.isSome)
   && decide 9e4)=true) ATr)(hline:autoParam 13e9 ATr)(hs:autoParam (starEach [e] 1e9=(false,eval e 1e9)::starEach [] 1e9) ATr)(L:autoParam ((backTo pos (starEach [] 1e9)).any 3e0=false) ATr)(hK:autoParam 9e0 ATr):Bx (PE X (.Call (.Attribute ob "pop" apos) [e] [] pos) (tD p (AI oh fo fr))):=⟨Fp hK PySem.F.slot_list_pop PySem.F.type_list_pop HE KJ G.h n.h hbase W hline hs L⟩
theorem vE{fo:ME}(G:Bx (PE X ob (tD p fo)))(n:Bx (PA X [e] 16e1))(hbase:autoParam (attributeBase ob "append" X.env (eval ob 1e9)=eval ob 1e9) ATr)(W:autoParam (((backTo pos (starEach [e] 1e9)).all (λx=>!x.1)&&(backToKw pos 16e9).all (λx=>x.1.isSome)
   && decide 9e4)=true) ATr)(hline:autoParam 13e9 ATr)(hs:autoParam (starEach [e] 1e9=(false,eval e 1e9)::starEach [] 1e9) ATr)(L:autoParam ((backTo pos (starEach [] 1e9)).any 3e0=false) ATr)(hK:autoParam 9e0 ATr):Bx (PE X (.Call (.Attribute ob "append" apos) [e] [] pos) (tD p (AI dt fo fr))):=⟨Fp hK PySem.F.slot_list_append PySem.F.type_list_append v7 KM G.h n.h hbase W hline hs L⟩
variable{g:MG}{u:IH}
theorem kD(i:Bx (PE X e (tD p f)))(hK:autoParam 9e0 ATr):Bx (PI X tg e (qD p (cw f))):=⟨NB hK i.h⟩
theorem pS(i:X.mg "range" = none)(n:Bx (PA X [a] 16e1))(σ:autoParam (Gl X "range") ATr)(hs:autoParam (starEach [a] 1e9=[9e5]) ATr):Bx (PI X tg (.Call (.Name "range" px) [a] [] pos) (qD p (iy ly fr))):=⟨DS σ i n.h hs⟩
theorem QC(i:X.mg "range" = none)(n:Bx (PA X [a,b] 16e1))(σ:autoParam (Gl X "range") ATr)(hs:autoParam (starEach [a,b] 1e9=[9e5,(false,eval b 1e9)]) ATr)(H:autoParam (starEach [b] 1e9=[(false,eval b 1e9)]) ATr):Bx (PI X tg (.Call (.Name "range" px) [a,b] [] pos) (qD p (iy AO fr))):=⟨DQ σ i n.h hs H⟩
theorem IL{tpos:Pos}(i:X.mg "enumerate" = none)(n:Bx (PA X [a] 16e1))(σ:autoParam (Gl X "enumerate") ATr)(hs:autoParam (starEach [a] 1e9=[9e5]) ATr)(hK:autoParam 9e0 ATr):Bx (PI X (.Tuple elts k1 tpos) (.Call (.Name "enumerate" px) [a] [] pos) (qD p (iy kW fr))):=⟨JJ hK σ i n.h hs⟩
theorem dJ(i:Nat)(hN:X.N.Nodup)(hi:autoParam (X.N[i]?=some x) ATr)(h:autoParam (E3 X.env.scope x) ATv)(F:autoParam 3e5 ATw):Bx (PG X 16e3 (oC p (ai i))):=⟨JL hN hi h F⟩
theorem jt  : Bx (AJ X [] (yK p cv)):=⟨JK⟩
theorem bU(H:Bx (PG X e (oC p g)))(i:Bx (AJ X es (yK p u)))(hs:autoParam ((assignEach (e::es) 1e9).map 7e4=assign e 1e9::(assignEach es 1e9).map 7e4) ATr):Bx (AJ X (e::es) (yK p (aR g u))):=⟨GV H.h i.h hs⟩
theorem js{k:Nat}(h:Bx (AJ X es (yK p u)))(i:autoParam 10e2 ATr)(H:autoParam ((assignEach es 1e9).length=n) ATr)(t:autoParam ((assignEach es 1e9).findIdx? 3e0=none) ATr)(hK:autoParam 9e0 ATr):Bx (PG X (.Tuple es k pos) (oC p (cu n u))):=⟨NC hK i h.h H t⟩
theorem Ci{fo fi:ME}(G:Bx (PE X a (tD p fo)))(hi:Bx (PE X b (tD p fi)))(n:autoParam (∀v,assign (.Subscript a b pos) 1e9 v=(do
   let ov <- holding [v] (eval a 1e9)
   let iv <- holding [v,ov] (eval b 1e9)
   standAt pos
   holding [v,ov,iv] (setItem ov iv v)
   release [v,ov,iv] [])) ATt):Bx (PG X (.Subscript a b pos) (oC p (qJ fo fi))):=⟨ND G.h hi.h n⟩
variable{ifs:List Expr}{cap:List 5e0}{tt:MT}{te:ME}
theorem cn(S:bP X.N 1e9 scope Nc cap)(hi:Bx 16e2)(σ:∀cl C s H fp,Bx (PG 0e7 tg 15e0))(J:∀cl C s H fp,Bx (rk 0e7 ifs (ij p.nx tt)))(j:∀cl C s H fp,Bx (PE 0e7 elt (tD p.nx te)))(i:autoParam 10e2 ATr)(hs:autoParam 3e7 ATt):Bx (PE X 3e4 (tD p (bT fi cap g tt te))):=⟨JO i S hi.h 12e8 13e6 (λcl C s H fp=>(j cl C s H fp).h) hs⟩
def oQ(gs:List Comprehension):Bool:=gs.all λg=>g.is_async == 0
theorem rR{gs:List Comprehension}(h:oQ gs=true):∀g∈gs,g.is_async=0:=λg σ=>eq_of_beq (WI.mp h g σ)
variable{mb:MB}{cl0:Comprehension}{rest:List Comprehension}{d:Nat}
theorem IQ(σ:gens[d]?=none)(l:Bx (PE X elt (tD p.nx te)))(E:autoParam (X.xe=wV) ATr):Bx (uT X 15e2 d acc (wR p.nx (jR te) acc)):=⟨JQ σ E l.h⟩
theorem Fe(σ:gens[d]?=some ⟨tg,iter,ifs,0⟩)(hi:Bx (PI X tg iter (qD p.nx fi)))(C:Bx (PG X tg 15e0))(v:Bx (rk X ifs (ij p.nx tt)))(H:Bx (uT X 15e2 (d+1) acc (wR p.nx mb acc)))(hz:autoParam (oQ gens=true) ATr)(E:autoParam (X.xe=wV) ATr)(i:autoParam 10e2 ATr)(hs:autoParam 3e7 ATt):Bx (uT X 15e2 d acc (wR p.nx (gN fi g tt mb) acc)):=
 ⟨G6 (e:=.ListComp elt gens scope pos) (cl:=⟨tg,iter,ifs,0⟩) rfl (rR hz) σ E i hi.h C.h v.h H.h hs⟩
theorem xq(S:bP X.N 1e9 scope Nc cap)(hi:Bx 16e2)(σ:∀cl C s H fp,Bx (PG 0e7 tg 15e0))(J:∀cl C s H fp,Bx (rk 0e7 ifs (ij p.nx tt)))(i:∀cl C s H fp acc,Bx (uT 0e7 7e0 1 acc (wR p.nx mb acc)))(hz:autoParam (oQ (⟨tg,iter,ifs,0⟩::rest)=true) ATr)(j:autoParam 10e2 ATr)(hs:autoParam 3e7 ATt):Bx (PE X 7e0 (tD p (eV fi cap g tt mb))):=
 ⟨G3 (cl0:=⟨tg,iter,ifs,0⟩) j (rR hz) S hi.h 12e8 13e6 (λcl C s H fp acc=>(i cl C s H fp acc).h) hs⟩
theorem JT(i:Nat)(hN:X.N.Nodup)(S:bP X.N 1e9 scope Nc cap)(hi:Bx 16e2)(σ:∀cl C s H fp,Bx (PG 0e7 tg 15e0))(J:∀cl C s H fp,Bx (rk 0e7 ifs (ij p.nx tt)))(k:∀cl C s H fp acc,Bx (uT 0e7 7e0 1 acc (wR p.nx mb acc)))(hz:autoParam (oQ (⟨tg,iter,ifs,0⟩::rest)=true) ATr)(j:autoParam (X.N[i]?=some x) ATr)(m:autoParam (X.env.scope.names.lookup x=some .local) ATr)(l:autoParam 10e2 ATr)(W:autoParam (swapsWith 7e0 (some (.Name x pos1)) pos2.line 1e9=pure true) ATr)(hs:autoParam 3e7 ATt):Bx (PS X (.Assign [.Name x pos1] 7e0 pos2) (jG p (bC (eV fi cap g tt mb) (ai i)))):=
 ⟨GE (cl0:=⟨tg,iter,ifs,0⟩) l (rR hz) hN j m S hi.h 12e8 13e6 (λcl C s H fp acc=>(k cl C s H fp acc).h) W hs⟩
variable{fs gs:MS}{sts A B:List Stmt}
theorem bO(i:Nat)(hN:X.N.Nodup)(j:Bx (PE X e (tD p f)))(hi:autoParam (X.N[i]?=some x) ATr)(H:autoParam (E3 X.env.scope x) ATv)(hs:autoParam (swapsWith e (some (.Name x pos')) pos.line 1e9=pure false) ATr)(F:autoParam 3e5 ATw):Bx (PS X (.Assign [.Name x pos'] e pos) (jG p (bC f (ai i)))):=⟨Ni hN hi H j.h hs F⟩
theorem lA(i:Nat)(hN:X.N.Nodup)(S:bP X.N 1e9 scope Nc cap)(hi:Bx 16e2)(σ:∀cl C s H fp,Bx (PG 0e7 tg 15e0))(J:∀cl C s H fp,Bx (rk 0e7 ifs (ij p.nx tt)))(E:∀cl C s H fp,Bx (PE 0e7 elt (tD p.nx te)))(j:autoParam (X.N[i]?=some x) ATr)(l:autoParam (X.env.scope.names.lookup x=some .local) ATr)(k:autoParam 10e2 ATr)(W:autoParam (swapsWith 3e4 (some (.Name x pos1)) pos2.line 1e9=pure true) ATr)(hs:autoParam 3e7 ATt):Bx (PS X (.Assign [.Name x pos1] 3e4 pos2) (jG p (bC (bT fi cap g tt te) (ai i)))):=⟨Ju k hN j l S hi.h 12e8 13e6 (λcl C s H fp=>(E cl C s H fp).h) W hs⟩
theorem qH(j:Bx (PE X e (tD p f)))(σ:Bx (PG X tg (oC p g)))(hs:autoParam (swapsWithSole [tg] e pos.line 1e9=pure false) ATr)(W:autoParam (swappedStores [tg] e 1e9=pure none) ATr)(H:autoParam ((assignEach [tg] 1e9).map 7e4=[assign tg 1e9]) ATr):Bx (PS X (.Assign [tg] e pos) (jG p (bC f g))):=⟨Nq j.h σ.h hs W H⟩
theorem fG(j:Bx (PE X e (tD p f)))(hs:autoParam (swapsWith e none pos.line 1e9=pure false) ATr):Bx (PS X (.Expr e pos) (jG p (gC f))):=⟨Jv j.h hs⟩
theorem jq(P:PassesOwn 1e5 X.A 1e9 X.xe)(hi:Bx 16e2)(σ:Bx (PG X tg (oC p g)))(H:Bx (l9 X body (jG p fs)))(i:autoParam 10e2 ATr)(hs:autoParam 3e7 ATt):Bx (PS X (.For tg iter body [] pos) (jG p (kT fi g fs))):=⟨Nn P i hi.h σ.h H.h hs⟩
theorem CP(n:Nat)(P:PassesOwn 1e5 X.A 1e9 X.xe)(i:Bx (PT X c (ij p ft)))(H:Bx (l9 X body (jG p fs))):Bx (PS X (.While c body [] pos) (jG p (pW n ft fs))):=⟨GD P i.h H.h⟩
end
section
variable{X:Cx}{a b c:Expr}{es:List Expr}{fb f:ME}{ft gt:MT}{fs gs:MS}{sts A B:List Stmt}
theorem QH(n:Bx 4e2):Bx (PE X (.UnaryOp .Not a pos) (tD p (Co fa))):=⟨NI n.h⟩
theorem kg(n:Bx 4e2)(H:Bx (PE X 13e5 (tD p fb))):Bx (PE X 11e1 (tD p (i1 fa fb))):=⟨NN n.h H.h⟩
theorem SA(i:Bx (PT X c (ij p ft)))(n:Bx 4e2)(H:Bx 6e1):Bx (PE X (.IfExp c a b pos) (tD p (R8 ft fa fb))):=⟨Q8 i.h n.h H.h⟩
theorem dP{k:Nat}(h:Bx (PA X es 16e1)):Bx (PE X (.Tuple es k pos) (tD p (fM fr))):=⟨NH h.h⟩
theorem ip(h:Bx (PA X es 16e1)):Bx (PE X (.List es pos) (tD p (jf fr))):=⟨NJ h.h⟩
theorem Cp(h:Bx (PE X e (tD p f))):Bx (PO X (some e) (PM p (yZ f))):=⟨JG h.h⟩
theorem gL(n:Bx (PT X a (ij p ft))):Bx (PT X (.UnaryOp .Not a pos) (ij p (eT ft))):=⟨Nd n.h⟩
theorem uU(h:Bx (PW X e (ij p ft))):Bx (PT X e (ij p ft)):=⟨h.h.pt⟩
theorem dN:Bx (rk X [] (ij p a9)):=⟨Js⟩
theorem gA(h:Bx (PT X c (ij p ft))):Bx (rk X [c] (ij p ft)):=⟨Jr h.h⟩
theorem dh:Bx (l9 X [] (jG p cz)):=⟨Nl⟩
theorem aH(H:Bx (PS X st (jG p fs)))(i:Bx (l9 X sts (jG p gs))):Bx (l9 X (st::sts) (jG p (a8 fs gs))):=⟨Jw H.h i.h⟩
theorem aO(H:Bx (PS X st (jG p fs))):Bx (l9 X [st] (jG p fs)):=⟨Nk H.h⟩
theorem aZ(h:Bx (PE X e (tD p f))):Bx (PS X (.Return (some e) pos) (jG p (bJ f))):=⟨Nj h.h⟩
theorem lD:Bx (PS X st (jG p w4)):=⟨GF⟩
theorem gJ(i:Bx (PT X c (ij p ft)))(n:Bx (l9 X A (jG p fs)))(H:Bx (l9 X B (jG p gs))):Bx (PS X (.If c A B pos) (jG p (l8 ft fs gs))):=⟨Q3 i.h n.h H.h⟩
end
theorem bt{k:Nat}{ps:List Str}{fb:MS}(F:eJ K x qual st f fd)(S:aN N ps (ar st))(j:ps.length=n)(m:mg x=some 2e9)(i:lW K fd ps [])(body : ∀ (cdv : Value) (A : Around) (outer : List Env) (s : Shared) (H : Hp) (E : XK), kf k 14e0 ->
   Bx (l9 (xa EO P w K mg base N qual (ar st) f cdv A outer s H E).nox (dr st) (jG p fb))):bF P w K mg base p (k+1) x n (fq n N.length fb):=
 Pv F S j m i λcdv A outer s H E R=>(body cdv A outer s H E R).h
end L2
namespace L2
open PySem RS
section
variable{fb fc fd f:ME}{ft gt:MT}{op o1 o2 o3:D->D->aC->ah D}{fs gs:MS}{g:MG}
@[simp] theorem ag{r:Ro}:ao 0 (some d::r) Z=.ok d Z:=Xr 7e8
@[simp] theorem aj{x:Option D}{r:Ro}:ao (i+1) (x::r) Z=ao i r Z:=Xr 7e8
@[simp] theorem bg:cC d ρ Z=.ok d Z:=Xr 7e8
@[simp] theorem aD:aF op fa fb ρ Z=(fa ρ Z).bind λa Z1=>(fb ρ Z1).bind λb Z2=>op a b Z2:=Xr 7e8
@[simp] theorem mj {o:D->aC->ah D}:vA o fa ρ Z=(fa ρ Z).bind λa Z1=>o a Z1:=Xr 7e8
@[simp] theorem av:aB ρ Z=.ok [] Z:=Xr 7e8
@[simp] theorem aq:ak fa fr ρ Z=(fa ρ Z).bind λa Z1=>(fr ρ Z1).bind λr Z2=>.ok (a::r) Z2:=Xr 7e8
@[simp] theorem au {F:List D->aC->ah D}:ax F fr ρ Z=(fr ρ Z).bind F:=Xr 7e8
@[simp] theorem cQ:fM fr ρ Z=(fr ρ Z).bind λds Z=>if ds.length<=sizeLine then .ok (.tup ds) Z else .bad:=Xr 7e8
@[simp] theorem jT:jf fr ρ Z=(fr ρ Z).bind λds Z=>if ds.length<=sizeLine then .ok 1e4 (Z++[.lst ds]) else .bad:=Xr 7e8
@[simp] theorem aX:Iv (.bl b) Z=.ok b Z:=Xr 7e8
@[simp] theorem bW:il f ρ Z=(f ρ Z).bind Iv:=Xr 7e8
@[simp] theorem xV:y9 ft gt ρ Z=(ft ρ Z).bind λb Z1=>if b=true then gt ρ Z1 else .ok false Z1:=Xr 7e8
@[simp] theorem mu:pT ft gt ρ Z=(ft ρ Z).bind λb Z1=>if b=true then .ok true Z1 else gt ρ Z1:=Xr 7e8
@[simp] theorem dG:eT ft ρ Z=(ft ρ Z).bind λb Z1=>.ok (!b) Z1:=Xr 7e8
@[simp] theorem fx:i1 fa fb ρ Z=(fa ρ Z).bind λa Z1=>(Iv a Z1).bind λb Z2=>if b=true then fb ρ Z2 else .ok (.bl false) Z2:=Xr 7e8
@[simp] theorem Dc:Co f ρ Z=(f ρ Z).bind λa Z1=>(Iv a Z1).bind λb Z2=>.ok (.bl (!b)) Z2:=Xr 7e8
@[simp] theorem Mf:R8 ft fa fb ρ Z=(ft ρ Z).bind λb Z1=>if b=true then fa ρ Z1 else fb ρ Z1:=Xr 7e8
@[simp] theorem tM:kG o1 o2 fa fb fc ρ Z=(fa ρ Z).bind λa Z1=>(fb ρ Z1).bind λb Z2=>(o1 a b Z2).bind λz Z3=>(Iv z Z3).bind λk Z4=>
 if k=true then (fc ρ Z4).bind λc Z5=>o2 b c Z5 else .ok (.bl false) Z4:=Xr 7e8
@[simp] theorem dQ:gu f ρ Z=(f ρ Z).bind AM:=Xr 7e8
@[simp] theorem cG:AM (.bl b) Z=.ok b Z:=Xr 7e8
@[simp] theorem RH {fl fh:MO}:R7 fa fl fh ρ Z=(fa ρ Z).bind λa Z1=>(fl ρ Z1).bind λlo Z2=>(fh ρ Z2).bind λhi Z3=>PU a lo hi Z3:=Xr 7e8
@[simp] theorem HX:yZ f ρ Z=(f ρ Z).bind R9:=Xr 7e8
@[simp] theorem Po {i:Int}:R9 11e5 Z=.ok (some i) Z:=Xr 7e8
@[simp] theorem qL {F:D->List D->aC->ah D}{fo:ME}:AI F fo fr ρ Z=(fo ρ Z).bind λo Z1=>if B6 o Z1=true then (fr ρ Z1).bind λds Z2=>F o ds Z2 else .bad:=Xr 7e8
@[simp] theorem aS:bJ f ρ Z=(f ρ Z).bindS λd Z'=>.ret d Z':=Xr 7e8
@[simp] theorem bI:cz ρ Z=.next ρ Z:=Xr 7e8
@[simp] theorem aG:a8 fs gs ρ Z=(fs ρ Z).bind gs:=Xr 7e8
@[simp] theorem bL:l8 ft fs gs ρ Z=(ft ρ Z).bindS λb Z1=>if b=true then fs ρ Z1 else gs ρ Z1:=Xr 7e8
@[simp] theorem aT:bC f g ρ Z=(f ρ Z).bindS λd Z1=>(g d ρ Z1).bindS λρ' Z2=>.next ρ' Z2:=Xr 7e8
@[simp] theorem d5:gC f ρ Z=(f ρ Z).bindS λ_ Z1=>.next ρ Z1:=Xr 7e8
@[simp] theorem az {g:MS}:(SO.next ρ Z).bind g=g ρ Z:=Xr 7e8
@[simp] theorem mn{g:MS}:(SO.ret d Z).bind g=.ret d Z:=Xr 7e8
@[simp] theorem KY {g:MS}:(SO.next ρ Z).loop g=g ρ Z:=Xr 7e8
@[simp] theorem aL:(SO.ret d Z).out=.ok d Z:=Xr 7e8
@[simp] theorem zN:(SO.next ρ Z).out=.ok .non Z:=Xr 7e8
@[simp] theorem bj:ai i d ρ Z=.ok (ρ.set i (some d)) Z:=Xr 7e8
@[simp] theorem r8{fo fi:ME}:qJ fo fi d ρ Z=(fo ρ Z).bind λo Z1=>(fi ρ Z1).bind λi Z2=>(Dt o i d Z2).bind λ_ Z3=>.ok ρ Z3:=Xr 7e8
@[simp] theorem Lm{u:IH}:cu n u (.tup xs) ρ Z=if xs.length=n then u xs ρ Z else .bad:=Xr 7e8
@[simp] theorem Ln:cv [] ρ Z=.ok ρ Z:=Xr 7e8
@[simp] theorem HY{u:IH}{r:List D}:aR g u (d::r) ρ Z=(g d ρ Z).bind λρ' Z'=>u r ρ' Z':=Xr 7e8
@[simp] theorem fI:kT fi g fs ρ Z=(fi ρ Z).bindS λsrc Z1=>dg src g fs src.items ρ Z1:=Xr 7e8
@[simp] theorem ba:cw f ρ Z=(f ρ Z).bind wZ:=Xr 7e8
@[simp] theorem cH {F:List D->aC->ah n3}:iy F fr ρ Z=(fr ρ Z).bind F:=Xr 7e8
@[simp] theorem jx:wZ (.tup xs) Z=.ok (.fix xs) Z:=Xr 7e8
@[simp] theorem bp{cap:List 5e0}:bT fi cap g ft f ρ Z=(fi ρ Z).bind λsrc Z1=>compLoop src Z1.length g ft f src.items (cD cap ρ) (Z1++[.lst []]):=Xr 7e8
@[simp] theorem aV:(n3.fix xs).items=xs:=Xr 7e8
@[simp] theorem bw:(n3.own n xs).items=xs:=Xr 7e8
@[simp] theorem Sj:cD [] ρ=[]:=Xr 7e8
@[simp] theorem RU {r:List 5e0}:cD (none::r) ρ=none::cD r ρ:=Xr 7e8
@[simp] theorem RT{r:List 5e0}:cD (some j::r) ρ=(ρ[j]?).join::cD r ρ:=Xr 7e8
theorem bX{N:Nat}{a:D}:fq 1 N fs [a] Z=vz Z (fs (some a::List.replicate (N-1) none) Z).out:=T1 rfl
theorem bS{N:Nat}{a b:D}:fq 2 N fs [a,b] Z=vz Z (fs (some a::some b::List.replicate (N-2) none) Z).out:=T1 rfl
theorem oe{N:Nat}{a b c:D}:fq 3 N fs [a,b,c] Z=vz Z (fs (some a::some b::some c::List.replicate (N-3) none) Z).out:=T1 rfl
@[simp] theorem cq {op:CmpOp}{i j:Int}:d0 op 11e5 (.int j) Z=.ok (.bl (cmpI op i j)) Z:=Xr 7e8
@[simp] theorem lG {i j:Int}:eS 11e5 (.int j) Z=.ok (.int (i+j)) Z:=Xr 7e8
@[simp] theorem sI{i j:Int}:dI gg 11e5 (.int j) Z=.ok (gg i j) Z:=Xr 7e8
@[simp] theorem og{i j:Int}(h:C i j):ID C gg 11e5 (.int j) Z=.ok (gg i j) Z:=by unfold ID;simp[h]
@[simp] theorem Si {i j:Int} (h:yV i j):uY 11e5 (.int j) Z=.ok (.int (i*j)) Z:=by unfold uY;simp[h]
@[simp] theorem Bb {i:Int}:yM 11e5 Z=.ok (.int (-i)) Z:=Xr 7e8
@[simp] theorem jh{i j:Int}:kc neg 11e5 (.int j) Z=.ok (.bl (if neg then !(i == j) else i == j)) Z:=Xr 7e8
@[simp] theorem sQ{a:D}:su neg a .non Z=.ok (.bl (if neg then !a.isNon else a.isNon)) Z:=Xr 7e8
@[simp] theorem fw:ik [.tup xs] Z=.ok (.int 4e8) Z:=Xr 7e8
@[simp] theorem Dd:ik [.frz xs] Z=.ok (.int 4e8) Z:=Xr 7e8
theorem rZ(h:Z[n]?=some 7e5):ik [.obj n] Z=.ok (.int 4e8) Z:=by unfold ik Cm;simp[h]
theorem jw(h:Z[n]?=some 7e5):fJ [.obj n] Z=.ok (.tup xs) Z:=by unfold fJ;simp[h]
theorem gf{bs:List Bool}(h:Z[n]?=some (.lst (bs.map D.bl))):nt [.obj n] Z=.ok (.bl (bs.all id)) Z:=by unfold nt;simp[h,wD]
theorem De{bs:List Bool}(h:Z[n]?=some (.lst (bs.map D.bl))):yQ [.obj n] Z=.ok (.bl (bs.any id)) Z:=by unfold yQ;simp[h,wD]
theorem mv{i:Int}(h:atI xs i=some d):cM (.tup xs) 11e5 Z=.ok d Z:=by unfold cM;simp[h]
theorem Pm{i:Int}(h:atI xs i=some d):cM (.frz xs) 11e5 Z=.ok d Z:=by unfold cM;simp[h]
theorem kF{i:Int}(m:Z[n]?=some 7e5)(h:atI xs i=some d):cM (.obj n) 11e5 Z=.ok d Z:=by unfold cM;simp[m,h]
theorem rY{i:Int}(m:Z[n]?=some 7e5)(h:AG 4e8 i=some j):Dt (.obj n) 11e5 d Z=.ok () (Z.set n (.lst (xs.set j d))):=by unfold Dt;simp[m,h]
theorem b8(i:Z[n]?=some 7e5):wZ (.obj n) Z=.ok (.own n xs) Z:=by unfold wZ;simp[i]
theorem fv{j:Int}(H:0<=j)(h:j<1000):ly [.int j] Z=.ok (.fix (bR 0 j.toNat)) Z:=by
 unfold ly;dsimp only;rw[T1];omega
theorem xU{i j:Int}(H:0<=i)(a:i<1000)(c:-1000<=j)(h:j<1000):AO [.int i,.int j] Z=.ok (.fix (bR i (j-i).toNat)) Z:=by
 unfold AO;dsimp only;rw[T1];omega
theorem zb{α:Type}{x:α}{r:List α}:atI (x::r) 0=some x:=by unfold atI AG;simp
theorem FJ{α:Type}{x y:α}{r:List α}:atI (x::y::r) 1=some y:=km (j:=1) rfl
theorem Ml{α:Type}{x y z:α}{r:List α}:atI (x::y::z::r) 2=some z:=km (j:=2) rfl
@[simp] theorem d4 {x:D}{r:List D}:cM (.tup (x::r)) (.int 0) Z=.ok x Z:=mv zb
@[simp] theorem ni{x:D}{r:List D}:cM (.tup (x::y::r)) (.int 1) Z=.ok y Z:=mv FJ
theorem PD{α:Type}{xs:List α}{i:Int}{x:α}(H:0<=i)(h:xs[i.toNat]?=some x):atI xs i=some x:=by
 have:=km h
 rwa [show ((i.toNat:Nat):Int)=i by omega]at this
theorem pZ{i:Int}(H:0<=i)(h:i<n):AG n i=some i.toNat:=by unfold AG;simp[H,h]
end
section
variable{g:aC}
@[simp] theorem KU{i:Int}:(D.int i).low n=True:=by simp[D.low]
@[simp] theorem Td{i:Bool}:(D.bl i).low n=True:=by simp[D.low]
@[simp] theorem Sh:D.non.low n=True:=by simp[D.low]
@[simp] theorem oM:(D.tup xs).low n=D.lows n xs:=by simp[D.low]
@[simp] theorem xJ:(D.obj m).low n=(m<n):=by simp[D.low]
@[simp] theorem RR:D.lows n []=True:=by simp[D.lows]
@[simp] theorem P0{x:D}:D.lows n (x::xs)=(x.low n/\D.lows n xs):=by simp[D.lows]
theorem i3{n:Nat}:∀{xs:List D},D.lows n xs↔∀x∈xs,x.low n
 |[]=>by simp
 |x::xs=>by simp[i3 (xs:=xs)]
theorem cL(D:d.low 5e2):vz Z (.ok d (Z++g))=.ok d Z:=by
 unfold vz;dsimp only;rw[T1]
 ·simp
 ·refine⟨D,by simp,λi o I h=>.inl ?_⟩;rw[UW I]at h;exact h
theorem bo(D:d.low 5e2):vz Z (.ok d Z)=.ok d Z:=by
 have:=cL (Z:=Z) (g:=[]) D;simpa using this
theorem Ge{o:O}(H:d.low 5e2)(G:o.low 5e2):vz Z (.ok d (Z.set i o++g))=.ok d (Z.set i o):=by
 unfold vz;dsimp only;rw[T1]
 ·congr 1;rw[List.take_append_of_le_length 0e9];exact Wd 0e9
 ·refine ⟨H, by simp, λj e D h => ?_⟩;rw[UW (by simpa using D)]at h;by_cases J:i=j
  ·subst J;rw[Uo D]at h;cases h;exact .inr G
  ·rw[Uq J]at h;exact .inl h
theorem Da{o:O}(D:d.low 5e2)(G:o.low 5e2):vz Z (.ok d (Z.set i o))=.ok d (Z.set i o):=by
 have:=Ge (Z:=Z) (g:=[]) (i:=i) D G;simpa using this
theorem jQ{Z':aC}(h:¬ d.low 5e2):vz Z (.ok d Z')=.ok d Z':=by
 unfold vz;dsimp only;rw[T3 λz=>h z.1]
theorem Pf{Z':aC}:vz Z (.ok d Z')=.ok d Z'\/(vz Z (.ok d Z')=.ok d (Z'.take 5e2)/\d.low 5e2):=by
 unfold vz;dsimp only;by_cases h:Mv Z Z' d
 ·rw[T1 h];exact .inr ⟨rfl,h.1⟩
 ·rw[T3 h];exact .inl rfl
end
theorem tj{g:aC}{a b:O}:(Z1++a::g).set Z1.length b=Z1++b::g:=by
 rw[XW _ _ 6e3,Wz];rfl
theorem aA{g:aC}{a:O}:(Z1++a::g)[Z1.length]?=some a:=by
 rw[UU 6e3,Wz];rfl
theorem jJ{g:aC}(h:ys.length<sizeLine):vI Z1.length y (Z1++.lst ys::g)=.ok () (Z1++.lst (ys++[y])::g):=by
 unfold vI;rw[aA];dsimp only;rw[T1 h,tj]
theorem gE{src:n3}{g:MG}{t:MT}{e:ME}{Z1:aC}{q:D->Bool}{h:D->D}(R:Ro->Prop)(G:∀a,bK src 6e0) :
  ∀{xs acc:List D}{ρ:Ro},R ρ->acc.length+xs.length<=sizeLine->(∀x∈xs,∀a ρ,R ρ->∃ρ1,R ρ1/\g x ρ 6e0=.ok ρ1 6e0/\t ρ1 6e0=.ok (q x) 6e0/\(q x=true->e ρ1 6e0=.ok (h x) 6e0)) ->
   compLoop src Z1.length g t e xs ρ (Z1++[.lst acc])=.ok (.obj Z1.length) (Z1++[.lst (acc++(xs.filter q).map h)])
 |[],acc,ρ,r,i,j=>by
  unfold compLoop;rw[T1 (G acc)];simp
 |x::xs,acc,ρ,r,i,j=>by
  obtain⟨ρ1,b,E,B,U⟩:=j x Ue acc ρ r;unfold compLoop;rw[T1 (G acc),E];dsimp[af,aa];rw[B];dsimp[af,aa];have m:=λy σ=>j y (Ug _ σ);dsimp[VF]at i;cases z:q x with
  |false=>
   rw[T3 UA,gE R G b 0e1 m,XX,z];rfl
  |true=>
   rw[T1 rfl,U z];dsimp[af,aa];rw[jJ 0e1];dsimp[aa];rw[gE R G b 6e9 m,XX,z];simp
theorem mF{src:n3}{g:MG}{t:MT}{e:ME}{n:Nat}(J:List D->List D->Ro->aC->aC->Prop)
  (F:∀ys ρ Z1 s,J [] ys ρ Z1 s->Z1.length=n/\bK src (Z1++.lst ys::s))
  (step : ∀ x r ys ρ Z1 s, J (x :: r) ys ρ Z1 s -> Z1.length = n /\ bK src (Z1 ++ .lst ys :: s) /\ ∃ ρ1 μa sa b μb sb, g x ρ (Z1 ++ .lst ys :: s) = .ok ρ1 (μa ++ .lst ys :: sa) /\ t ρ1 (μa ++ .lst ys :: sa) = .ok b (μb ++ .lst ys :: sb) /\
   (b=true->∃y μc sc,e ρ1 (μb++.lst ys::sb)=.ok y (μc++.lst ys::sc)/\ys.length<sizeLine/\μc.length=n/\J r (ys++[y]) ρ1 μc sc)/\(b=false->J r ys ρ1 μb sb)) :
  ∀{xs ys:List D}{ρ:Ro}{Z1 s:aC},J xs ys ρ Z1 s->∃ys' ρ' Z1' s',J [] ys' ρ' Z1' s'/\compLoop src n g t e xs ρ (Z1++.lst ys::s)=.ok (.obj n) (Z1'++.lst ys'::s')
 |[],ys,ρ,Z1,s,hJ=>by
  refine⟨ys,ρ,Z1,s,hJ,?_⟩;unfold compLoop;rw[T1 (F ys ρ Z1 s hJ).2]
 |x::xs,ys,ρ,Z1,s,hJ=>by
  obtain⟨H,o,ρ1,μa,sa,b,μb,sb,E,B,U,a⟩:=step x xs ys ρ Z1 s hJ;unfold compLoop;rw[T1 o,E];dsimp[af,aa];rw[B];dsimp[af,aa];cases b with
  |false=>
   rw[T3 UA];exact mF J F step (a rfl)
  |true=>
   obtain⟨y,μc,sc,c,V,G,h⟩:=U rfl;rw[T1 rfl,c];dsimp[af,aa];subst G;rw[jJ V];dsimp[aa];exact mF J F step h
theorem lE{src:n3}{g:MG}{fb:MS}(J:List D->Ro->aC->Prop)(n:∀ρ Z,J [] ρ Z->bK src Z)
  (step:∀x r ρ Z,J (x::r) ρ Z->bK src Z/\∃ρ1 Z1 ρ2 Z2,g x ρ Z=.ok ρ1 Z1/\fb ρ1 Z1=.next ρ2 Z2/\J r ρ2 Z2) :
  ∀{xs:List D}{ρ:Ro}{Z:aC},J xs ρ Z->∃ρ' Z',J [] ρ' Z'/\dg src g fb xs ρ Z=.next ρ' Z'
 |[],ρ,Z,h=>⟨ρ,Z,h,by unfold dg;rw[T1 (n ρ Z h)]⟩
 |x::xs,ρ,Z,h=>by
  obtain⟨G,ρ1,Z1,ρ2,Z2,e,B,c⟩:=step x xs ρ Z h;obtain⟨ρ',Z',H,U⟩:=lE J n step c;refine⟨ρ',Z',H,?_⟩;unfold dg;rw[T1 G,e];dsimp[ae];rw[B];exact U
end L2
namespace L2
open PySem PySem.Spec PyProof.Rows RS
theorem RE{k:Nat}{ps:List Str}{fb:MS}(F:eJ K x qual st f fd)(S:aN N ps (ar st))(t:ps.length=n)(body : ∀ (cdv : Value) (A : Around) (outer : List Env) (s : Shared) (H : Hp) (E : XK), kf k 14e0 ->
   Bx (l9 (xa EO P w K mg base N qual (ar st) f cdv A outer s H E).nox (dr st) (jG p fb))):u4 P w K mg base EO (k+1) f fd ps (LF p n (fq n N.length fb)):=by
 refine F.ok S (λy H Q E h=>h.1.trans t.symm) λcdv A outer s H y Q E u h=>?_;refine⟨_,(body cdv A outer s H E u).h,?_⟩;obtain⟨l,z,D,m,j,R,g⟩:=h;unfold fq at g;have q:D.length=n:=by rw[<- R.length];exact l
 rw[T1 q]at g;have i:=C9 j g;unfold start;rw[l];refine⟨z,_,m,j,uh R _,?_⟩;cases e:fb (D.map some++List.replicate (N.length-n) none) m with
 |ret d a=>rw[e]at i;exact λc b v x s r=>i c b x s v r
 |next o a=>rw[e]at i;exact λc b B x s r=>i c b x s .non (cj.mpr rfl)
 |exc x a=>rw[e]at i;exact i
 |brk o a=>rw[e]at i;exact i.elim
 |cnt o a=>rw[e]at i;exact i.elim
 |bad=>rw[e]at i;exact i.elim
theorem vU{K:W.Frag}{H:Hp}{α:List Addr}:∀ns:List Int,Reps K H α 12e2 12e1
 |[]=>by dsimp[Vh,Reps]
 |n::ns=>by
  dsimp[Vi,Reps];exact⟨_,_,rfl,ay.mpr rfl,vU ns⟩
theorem HH{F:List D->aC->ah D}{E:XK}(hF:∃Z',F [.frz 12e2] []=.ok 6e7 Z')(hO:IT H)(hS:fK K H a 12e1):
  LF 1e6 1 F [.ref a] H (λv _=>v=.bl true) E:=by
 obtain⟨Z',e⟩:=hF
 have f:LL K H a 12e1:=by
  rcases hS with (h|h)|h
  ·rcases hO a with z | ⟨o, S, z⟩
   ·rw[h]at z;cases z
   ·rw[h]at z;cases z
  ·exact .inl h
  ·exact .inr h
 refine⟨rfl,[],[.frz 12e2],[],⟨rfl,Ww,λn o a h=>by simp at h⟩,?_,?_⟩
 ·dsimp[Reps];exact⟨_,_,rfl,bM.mpr ⟨a,_,rfl,f,vU ns⟩,rfl⟩
 ·rw[e];exact λb d x s v r=>bB.mp r
section
variable{X:Cx}
theorem u9:seqSlot? (.type "list") (dunderI "add")=pure (some (.builtin "list.__iadd__")):=PySem.seqSlot_of XY.lookup 1e1
theorem oB{M:Model}{a b:Value}(n:s.TypeIs a "list")(B:s.TypeIs b "list")(i:wpAny M A (call (.builtin "list.__iadd__") [a,b]) Q E s):wpAny M A (inplaceOp .Add a b) Q E s:=by
 unfold inplaceOp;refine Ux ?_
 have h:fillsInplaceSlot (.type "list") "add" (Operator.Add == .Add)=pure false:=by
  unfold fillsInplaceSlot;show (typeLookup (.type "list") (dunderI "add") >>= λf=>pure (f.isSome && !isSeqSlot f))=pure false;rw[XY.lookup];rfl
 refine Uw (Ve n (Uw (VP h ?_)));show wpAny M A (if false=true then _ else _) Q E s;rw[T3 UA];refine Uw (wpAny_binaryOp1_none (nm:="add") n B noFill_list_add ?_);refine Uw (VP u9 ?_);exact Uw (VO i)
def L0:Qf:=λx y H Q=>(∃i j,x=.int i/\y=.int j/\Q (.int (i+j)) H) \/
 ∃l b S z,x=.ref l/\y=.ref b/\H l=some 12e4/\H b=some (.lst z)/\S.length+z.length<=sizeLine/\Q (.ref l) (cE H l (.lst (S++z)))
theorem K8:Se X .Add L0:=by
 intro P s a H x y v u Q I R M h;rcases h with h|h
 ·exact O9 P s a H x y v u Q I R M h
 ·obtain ⟨l, b, S, f, rfl, rfl, hH, hB, c, q⟩ := h;cases R;cases M;obtain⟨z,i,n,r,L,e⟩:=I.lstM hH;obtain⟨G,its2,N,M,d,B⟩:=I.lstM hB;have μ:i.toArray.size+its2.toArray.size<=sizeLine:=by rw[UL,UL];omega
  have hlong:¬ (!i.toArray.isEmpty&&Builtin.List.listTooLong (i.toArray.size+its2.toArray.size))=true:=by
   rw[tF μ,Vv];exact UA
  refine oB ⟨_,e,rfl⟩ ⟨_,B,rfl⟩ ?_
  refine Vt XY ⟨_,e,rfl⟩ F.entry_list_iadd (F.args_list_iadd_2 _ _)
   (AutoSeq1.list___iadd___list_list_0 l i.toArray n b its2.toArray N hlong (by rw[UL];omega) 0e1) ⟨e,B,?_⟩
  refine⟨.ref l,_,I.lset (its':=i++its2) hH e 0e9 (r.append M) ?_,rfl,q⟩;rw[U0];omega
noncomputable def kh(a b:D)(Z:aC):ah D:=match a,b with
 |.int i,.int j=>.ok (.int (i+j)) Z
 |.obj m,.obj n=>match Z[m]?,Z[n]? with
  |some 12e4,some (.lst σ)=>if S.length+σ.length<=sizeLine then .ok (.obj m) (Z.set m (.lst (S++σ))) else .bad
  |_,_=>.bad
 |_,_=>.bad
theorem KE:sg p kh L0:=by
 intro a b v y H l o Q S R B P;unfold kh at P;split at P
 ·rename_i i j;obtain rfl:=ay.mp R;obtain rfl:=ay.mp B;exact .inl ⟨i,j,rfl,rfl,P.now S _ 11e6⟩
 ·rename_i m n;split at P
  ·rename_i x s d σ;split at P
   ·rename_i k;obtain⟨a,U,rfl,A,h,e⟩:=cK S R d;obtain⟨f,u,rfl,g,c,r⟩:=cK S B σ;have q:=e.append r;exact .inr ⟨a,f,U,u,rfl,rfl,h,c,by rw[e.length,11e9];exact k,P _ _ (iM h) (S.put d A h q) _ (aU.mpr ⟨a,rfl,A⟩)⟩
   ·exact P.elim
  ·exact P.elim
 ·exact P.elim
theorem Ca{f:ME}(i:Nat)(hN:X.N.Nodup)(j:Bx (PE X e (tD p f)))(hi:autoParam (X.N[i]?=some x) ATr)(d:autoParam (E3 X.env.scope x) ATv)(F:autoParam 3e5 ATw):
  Bx (PS X (.AugAssign (.Name x pos') .Add e pos) (jG p (uV i kh f))):=⟨Np hN hi d j.h K8 KE F⟩
noncomputable def jy(d:D)(ds:List D)(Z:aC):ah D:=match d,ds with
 |.obj m,[.obj n]=>match Z[m]?,Z[n]? with
  |some 12e4,some (.lst σ)=>if S.length+σ.length<=sizeLine then .ok .non (Z.set m (.lst (S++σ))) else .bad
  |_,_=>.bad
 |_,_=>.bad
theorem KL:Qh p jy CQ:=by
 intro d f v y H k l Q S D s P;unfold jy at P;split at P
 ·rename_i m n;split at P
  ·rename_i i j x σ;split at P
   ·rename_i B;obtain⟨a,U,rfl,e,h,c⟩:=cK S D x;obtain⟨w,rfl,R⟩:=s.one;obtain⟨A,u,rfl,g,b,r⟩:=cK S R σ;have q:=c.append r;exact⟨a,A,U,u,rfl,rfl,h,b,by rw[c.length,11e9];exact B,P _ _ (iM h) (S.put x e h q) _ (cj.mpr rfl)⟩
   ·exact P.elim
  ·exact P.elim
 ·exact P.elim
end
end L2
namespace L2
open PySem PySem.W PyProof.Rows RS
section
theorem Ph{id:String}{b:Builtin}(H:builtinKind id=none)(h:plainId id=true)(d:entryFor table id=some b)(a:argsOk id ⟨us,kw⟩)(G : wpAny 1e7 A.in1 (b ⟨us, kw⟩) (λfin s' => match fin with
   |.done f=>(match (Except.ok f:Result) with | .ok (.ret v)=>Q v s' | .ok _=>False | .error e=>E e s')
   |.again c=>c.quiet=true/\codeAny 1e7 A c (λr s'=>match r with | .ok (.ret v)=>Q v s' | .ok _=>False | .error e=>E e s') s') E s):wpAny 1e7 A (call 16e4 us kw) Q E s:=by
 refine wpAny_call (codeAny_call_builtin h d ?_);dsimp[checkBuiltinCall,H];cases z:Manifest.signature? id with
 |none=>exact UC G
 |some g=>
  have μ:Bind.checkArgs id g ⟨us,kw⟩=pure ():=by simpa only[argsOk,z] using a
  dsimp[μ];exact UC G
def QD (vs:Array Value) (c:Nat):Obj:={cls:=.type "list",dict:=none,data:=.seq vs c,slots:=#[]}
abbrev Kp(s0:Shared)(h:Heap):Prop:=∀b O,s0.heap.get? b=some O->h.get? b=some O
theorem stay{s0:Shared}(hA:A.in1.handled=none){J S l:Addr}(N:J≠S)(G:l≠S)(B:l≠J)(u:s0.heap.get? J=none)(x:s0.heap.get? S=none){v0:Value}{R:Result->Shared->Prop}(C:∀(i:Nat) v,1<=i->its[i]?=some v->∀h tk,Kp s0 h->DA .Lt A.in1 {s0 with heap:=h,toks:=tk} v v0 false)(hR:∀h tk,Kp s0 h->R (.ok (.ret v0)) {s0 with heap:=h,toks:=tk}):
  ∀(k j:Nat)(h:Heap)(tk c:Nat),its.length-j=k->1<=j->j<=its.length->Kp s0 h->h.IsListIter J l j->h.IsList l 10e3->h.get? S=some (QD #[v0,v0] c) ->
   codeAny 1e7 A (.builtin "min.loop" ⟨[.ref J,.none,.ref S],kw⟩) R {s0 with heap:=h,toks:=tk}:=by
 have y:(toString "min" ++ toString ".loop" : String) = "min.loop" := by decide
 have Wk:=W3 (prog:=prog) (w:=w) (A:=A.in1) hA J l B 10e3
 have kJ:∀{h H:Heap},Kp s0 h->(∀b o,b ∉ [J]->h.get? b=some o->H.get? b=some o)->Kp s0 H:=λf t b O e=>t b O (λz=>by
  dsimp[Uh,V0,V1]at z
  subst z;rw[u]at e;cases e) (f b O e)
 have kS:∀{h:Heap}{o:Obj->Obj},Kp s0 h->Kp s0 (h.update S o):=λf b O e=>by
  have:S≠b:=λz=>by subst z;rw[x]at e;cases e
  exact(Vl _ _ this).trans (f b O e)
 intro k
 induction k with
 |zero=>
  intro j h tk c q g D p I L hS;have s:j=its.length:=by omega
  subst s;refine WV XZ ?_;rw[WW X2 _];refine Uw (VV (a:=S) hS rfl ?_);refine Uw (X3 (Wk.done _ _ _ (by simpa using (⟨I,L⟩:h.IsListIter J l its.length/\_)) λH T M=>?_));have hS':=M S _ (by simpa using N.symm) hS;refine Uw (m:=updateSeq S λ_=>#[]) ?_;exact wpAny_updateSeq hS' rfl (Uw (wpAny_letGo (UC (hR _ _ (kS (kJ p M))))))
 |succ k r=>
  intro j h tk c q g D p I L hS;have n:j<its.length:=by omega
  refine WV XZ ?_;rw[WW X2 _];refine Uw (VV (a:=S) hS rfl ?_);refine Uw (X3 (Wk.item j _ _ _ (by simpa using n) ⟨I,L⟩ λv H T hP d M=>?_));have hS':=M S _ (by simpa using N.symm) hS;have K:=kJ p M;refine Uw (m:=tryCatch (holding [v,v] (richCompare .Lt v v0 >>= _)) _) (X3 (Ux (Uw (C j v g (by simpa using hP) H T K prog w _ _ ?_))));refine Uw (Ux (Us (Uw (wpAny_letGo 8e1))));dsimp[VE,U8];refine Uw (wpAny_letGo ?_);rw[y];exact UC ⟨WY X2 _,r (j+1) H T c 0e1 0e1 n K d.1 d.2 hS'⟩
theorem PB{s0:Shared}(hA:A.in1.handled=none){J S l:Addr}(n:J≠S)(N:l≠S)(B:l≠J)(u:s0.heap.get? J=none)(x:s0.heap.get? S=none){d:Value}{R:Result->Shared->Prop}(C:∀v0,its[0]?=some v0->∀(i:Nat) v,1<=i->its[i]?=some v->∀h tk,Kp s0 h->DA .Lt A.in1 {s0 with heap:=h,toks:=tk} v v0 false)(hR:∀h tk,Kp s0 h->R (.ok (.ret (its.head?.getD d))) {s0 with heap:=h,toks:=tk})(j:Kp s0 h)(hi:h.IsListIter J l 0)(L:h.IsList l 10e3)(hS:h.get? S=some (QD #[] c)):
  codeAny 1e7 A (.builtin "min.loop" ⟨[.ref J,.none,.ref S],[(Str.ofString "default",d)]⟩) R {s0 with heap:=h,toks:=tk}:=by
 have f:(toString "min" ++ toString ".loop" : String) = "min.loop" := by decide
 have Wk:=W3 (prog:=prog) (w:=w) (A:=A.in1) hA J l B 10e3
 have kJ:∀{h H:Heap},Kp s0 h->(∀b o,b ∉ [J]->h.get? b=some o->H.get? b=some o)->Kp s0 H:=λk K b O e=>K b O (λz=>by
  dsimp[Uh,V0,V1]at z
  subst z;rw[u]at e;cases e) (k b O e)
 have kS:∀{h:Heap}{o:Obj->Obj},Kp s0 h->Kp s0 (h.update S o):=λk b O e=>by
  have:S≠b:=λz=>by subst z;rw[x]at e;cases e
  exact(Vl _ _ this).trans (k b O e)
 refine WV XZ ?_;rw[WW X2 _];refine Uw (VV (a:=S) hS rfl ?_);cases its with
 |nil=>
  refine Uw (X3 (Wk.done _ _ _ (by simpa using (⟨hi,L⟩:h.IsListIter J l 0/\_)) λH T M=>?_));exact Uw (VO (UC (hR _ _ (kJ j M))))
 |cons v0 r=>
  refine Uw (X3 (Wk.item 0 _ _ _ 0e9 ⟨hi,L⟩ λv H T hP t M=>?_));have V:v=v0:=by simpa using hP.symm
  subst V;have hS':=M S _ (by simpa using n.symm) hS;refine Uw (m:=updateSeq S λ_=>#[v,v]) ?_;refine wpAny_updateSeq hS' rfl ?_;rw[f];refine UC ⟨WY X2 _,stay hA (its:=v::r) n N B u x (C v rfl) hR (11e9) 1 _ T _ 0e9 6e3 0e9 (kS (kJ j M)) ?_ ?_ (Vk _ hS' rfl)⟩
  ·exact t.1.at λo e=>(Vl _ _ n.symm).trans e
  ·exact t.2.at λo e=>(Vl _ _ N.symm).trans e
end
section
variable{X:Cx}
theorem CY(k:h.objs.size<=a):h.get? a=none:=by
 cases e:h.get? a with
 |none=>rfl
 |some o=>exact absurd (T5 e) (Nat.not_lt.mpr k)
def Fv(K:W.Frag):List V->Hp->VK->Prop:=λS H Q=>∃(a:Addr)(y:List V),S=[.ref a]/\fK K H a y/\(∀b,y[0]?=some b->∀v∈y,∃p q,oD K H p v/\oD K H q b/\fitP p=true/\fitP q=true/\cmpP .Lt p q=some false)/\Q (y.head?.getD .non) H
theorem EI (x d:Value):argsOk "min" ⟨[x],[(Str.ofString "default",d)]⟩:=by unfold argsOk;kernel_rfl
theorem Ey(D:X.calm=true)(hu:X.A.units+64<cLine){xs:List V}{Q:VK}(I:bf X pins Y H s)(r:bA xs us)(h:Fv X.K xs H Q):
  wpAny 1e5 X.A (call (.builtin "min") us [(Str.ofString "default",Value.none)]) 12e0 X.xe s:=by
 obtain⟨a,z,rfl,μ,M,q⟩:=h;obtain⟨u,rfl,ru⟩:=iq r;cases ru;obtain⟨S,R,L,hz⟩:=I.list μ;have alt:a<s.heap.objs.size:=by obtain⟨o,n,e,_⟩:=L;exact T5 e
 have nm:(toString "min" ++ toString ".loop" : String) = "min.loop" := by decide
 refine Ph F.kind_min F.plain_min F.entry_min (EI _ _) ?_;refine Uw (m:=Builtin.Builtins.bindParams "min" ["key", "default"] 0 ⟨[],[(Str.ofString "default",Value.none)]⟩) (VP (a:=[none,some Value.none]) rfl ?_);refine Uw 8e1;refine Uw (W2 L.isList ?_);refine Uw (Vg ?_);rw[nm];refine UC ⟨WY X2 _,PB (s0:=s) (A:=X.A) (show X.A.in1.handled=none from I.ok.hd D) (its:=S) (J:=0e4) (l:=a) ?_ ?_ (T8 alt) ?_ ?_ ?_ ?_ ?_ ?_ ?_ (T4 _ rfl)⟩
 ·rw[Xh];exact T8 (VG _)
 ·rw[Xh];exact T8 (VH alt)
 ·exact CY 6e3
 ·rw[Xh];exact CY (Vq _)
 ·intro v0 k i v hi t h T j pr wo B C hQ
  have x:(0:Nat)<z.length:=by
   have:=(Ul.mp k).1;rw[R.length];exact this
  have y:i<z.length:=by
   have:=(Ul.mp t).1;rw[R.length];exact this
  obtain⟨u0,c,r0⟩:=R.get (W6 x);obtain⟨u1,d,r1⟩:=R.get (W6 y);rw[k]at c;cases c;rw[t]at d;cases d;obtain⟨p,q,G,N,f,U,σ⟩:=M _ (W6 x) _ (XS y);have g:bf X pins Y H {s with heap:=h,toks:=T}:=I.kept j;obtain⟨W,O⟩:=cZ g p _ _ G r1;obtain⟨bs,k2⟩:=cZ g q _ _ N r0;refine rc_reads rfl p q X.A.in1 _ _ _ W bs false O k2 (fitP_lay f) (fitP_lay U) ?_ σ pr wo B C hQ;unfold fitP at f;dsimp[Vf,Xy]at f;have:=XA p.depth q.depth;show X.A.units+1+_<_;omega
 ·intro h T j;refine⟨_,H,I.kept j,?_,q⟩;cases R with
  |nil=>rfl
  |cons r rr=>exact r
 ·exact λb ob e=>UF _ (UF _ e)
 ·exact⟨_,UF _ (T4 _ rfl),rfl,rfl⟩
 ·exact L.isList.at λo e=>UF _ (UF _ e)
noncomputable def Mu(Z:aC)(y x:D):Bool:=match nG Z y,nG Z x with
 |some p,some q=>fitP p&&fitP q&&decide (cmpP .Lt p q=some false)
 |_,_=>false
noncomputable def vL(ds:List D)(Z:aC):ah D:=match ds with
 |[.obj n]=>match Z[n]? with
  |some (.lst [])=>.ok .non Z
  |some (.lst (x::r))=>if (x::r).all (λy=>Mu Z y x)=true then .ok x Z else .bad
  |_=>.bad
 |_=>.bad
theorem Kv:yG p vL (Fv p.K):=by
 intro D t H G J Q S r P;unfold vL at P;split at P
 ·rename_i n;split at P
  ·rename_i d;obtain⟨v,rfl,f⟩:=r.one;obtain⟨a,s,rfl,g,c,R⟩:=cK S f d;dsimp[Reps]at R;subst R;exact⟨a,[],rfl,fK.of c,λm e=>by simp at e,P.now S _ (cj.mpr rfl)⟩
  ·rename_i x z d;split at P
   ·rename_i L;obtain⟨v,rfl,f⟩:=r.one;obtain⟨a,s,rfl,g,c,R⟩:=cK S f d;have b:=R;dsimp[Reps]at b;obtain⟨U,u,rfl,q,o⟩:=b;refine⟨a,U::u,rfl,fK.of c,λm e v V=>?_,P.now S _ q⟩;cases e;obtain⟨i,I,rfl⟩:=Xq V;obtain⟨y,σ,l⟩:=R.getV (W6 I);have h:=WI.mp L y (UZ σ);unfold Mu at h;split at h
    ·rename_i C k j B;dsimp[Vf,Xy]at h;exact⟨C,k,ml S j l,ml S B q,h.1.1,h.1.2,h.2⟩
    ·cases h
   ·exact P.elim
  ·exact P.elim
 ·exact P.elim
theorem EG:bootBuiltins "min" = some (.builtin "min"):=by decide +kernel
theorem Kb{a:Expr}{t:TA}{p pk:Pos}{kp:Pos}(i:X.calm=true)(U:X.A.units+64<cLine)(σ:Gl X "min")(m:X.mg "min" = none)(f:PA X [a] t)(g:backTo pos (starEach [a] 1e9)=(false,eval a 1e9)::backTo pos (starEach [] 1e9))(k:(backTo pos (starEach [a] 1e9)).any 3e0=false):PE X (.Call (.Name "min" p) [a] [⟨some "default",.Constant .none j pk,kp⟩] pos) (Sk (Fv X.K) t):=by
 intro P s c H Q I h;refine UO (mr I σ m EG ?_ 1e2 1e2);refine callWith_kw (dX (f pos P s c H _ I h) λo S ⟨y,b,e,R,q⟩=>?_) g k;refine kws_cons (dX (F4 P S c b (λv d=>v=.non/\d=b) e ⟨rfl,rfl⟩) λu N ⟨v,l,n,r,V,hH⟩=>kws_nil ?_);subst V hH;cases r;exact Ey i U n R q
theorem MV{a:Expr}{pa:Pa}{p pk:Pos}{kp:Pos}(U:X.A.units+64<cLine)(m:X.mg "min" = none)(n:Bx (PE X a (tD pa fa)))(C:autoParam 10e2 ATr)(σ:autoParam (Gl X "min") ATr)(hs:autoParam (A8 a=true) ATr)(hK:autoParam (X.K=pa.K) ATr):Bx (PE X (.Call (.Name "min" p) [a] [⟨some "default",.Constant .none j pk,kp⟩] pos) (tD pa (ax vL (ak fa aB)))):=Bx.mk (by
 refine(Kb (t:=oF pa (ak fa aB)) C U σ m (aP n aY hs).h ?_ ?_).weak λo H Q ⟨f,k,g,S,R,P⟩=>⟨f,k,g,S,R,P.bind.imp λs d b i l e c y r=>by rw[hK];exact Kv s y b i d Q e r c⟩
 ·rw[qc hs];rfl
 ·rw[qc hs];rfl)
end
theorem Ts{α:Type}{P:List α->Prop}(h:∀a,P [a]):∀us:List α,us.length=1->P us
 |[a],_=>h a
theorem us2{α:Type}{P:List α->Prop}(h:∀a b,P [a,b]):∀us:List α,us.length=2->P us
 |[a,b],_=>h a b
theorem Tr{α:Type}{P:List α->Prop}(h:∀a b c,P [a,b,c]):∀us:List α,us.length=3->P us
 |[a,b,c],_=>h a b c
theorem eJ.b1{ps:List Str}(F:eJ K x qual st f fd)(i:ps.length=1)(h:∀(kV doc pm:Value)(an:Option Addr)(cdv ct a:Value),bindArgs 2e4 ⟨[a],[]⟩=pure (ps.zip [a])):lW K fd ps []:=
 F.binds λkV doc pm an cdv ct U e=>Ts (P:=λU=>bindArgs 2e4 ⟨U,[]⟩=pure (ps.zip U)) (λa=>h kV doc pm an cdv ct a) U (e.trans i)
theorem eJ.b2{ps:List Str}(F:eJ K x qual st f fd)(i:ps.length=2)(h:∀(kV doc pm:Value)(an:Option Addr)(cdv ct a b:Value),bindArgs 2e4 ⟨[a,b],[]⟩=pure (ps.zip [a,b])):lW K fd ps []:=
 F.binds λkV doc pm an cdv ct U e=>us2 (P:=λU=>bindArgs 2e4 ⟨U,[]⟩=pure (ps.zip U)) (λa b=>h kV doc pm an cdv ct a b) U (e.trans i)
theorem eJ.b3{ps:List Str}(F:eJ K x qual st f fd)(i:ps.length=3)(h:∀(kV doc pm:Value)(an:Option Addr)(cdv ct a b c:Value),bindArgs 2e4 ⟨[a,b,c],[]⟩=pure (ps.zip [a,b,c])):lW K fd ps []:=
 F.binds λkV doc pm an cdv ct U e=>Tr (P:=λU=>bindArgs 2e4 ⟨U,[]⟩=pure (ps.zip U)) (λa b c=>h kV doc pm an cdv ct a b c) U (e.trans i)
end L2
namespace L2
open PySem PySem.Spec PyProof.Rows RS
section
variable{X:Cx}{d:Nat}
theorem KN {X:Cx}:Su X (newSet (.type "set")) (λa=>.ext λh=>cT X.w h a []):=λP s i H Q I h=>by
 unfold newSet setsByText;dsimp[bind_assoc,pure_bind];refine Uw (VN ?_)
 try dsimp only
 dsimp[newObj];refine Uw (wpAny_alloc 8e1);have hS:cT X.w (s.heap.push {cls:=.type "set",dict:=none,data:=.set #[] 0 (.fresh 0 0 (sG X.w))}) 0e4 []:=qO (T4 _ rfl);refine h _ (I.laid (t':=s.toks) (λb o e=>UF _ e) 6e3 ⟨hS,⟨_,T4 _ rfl⟩,λc f g k=>g.keeps k⟩) (λb o e=>UF _ e) ?_;show s.heap.objs.size<(s.heap.push _).objs.size;rw[VI];exact VG _
noncomputable def FU(K:W.Frag)(w:World)(te:TE)(acc:Addr):E1:=λa H N=>te a H λy i=>∃(r:Addr)(k:List Int)(P:List KP),y=.ref r/\i acc=some (.ext λh=>cT w h acc P)/\k∈prs/\gz K i r (k.map V.int)/\(∀p∈P,gz K i p.2 (p.1.map V.int)) /\
 N a (cE i acc (.ext λh=>cT w h acc (jO P k r)))
theorem D4(G:gens[d]?=none)(E:X.xe=wV)(U:X.A.units+64<cLine)(L:PE X elt te):uT X (.SetComp elt gens scope pos) d acc (FU X.K X.w te acc):=by
 intro P s J H N I h;unfold nL;show (match gens[d]? with|some g=>_|none=>_:Prop);rw[G];show wpAny _ _ (do let v <- eval elt 1e9;standAt elt.pos;let _ <- call (.builtin "set.add") [.ref acc,v]) _ _ _;have z:=L P s J H _ I h;rw[E]at z;refine Uw (dX z λv10 s10 ⟨y,H10,I10,r10,r,k,a,σ,C,j,R,f,m⟩=>?_);subst σ;cases r10;refine Uw (Uy (Uw ?_));obtain⟨hS,_⟩:=(show eP 13e0 X.w H10 s10.heap acc (.ext λh=>cT X.w h acc a) from I10.hok acc _ C);obtain⟨o,D,M,t,μ,S,k1,k2⟩:=id hS
 have n:X.A.in1.units<cLine:=by
  have:X.A.in1.units<=X.A.units+1:=by first|exact VB rfl|exact VB (units_in1 _)|exact Nat.le_succ_of_le (VB (units_in1 _))
  omega
 have tps:∀q∈a,Tk 13e0 X.w s10.heap q.1 q.2:=λq Q=>qE I10 (f q Q);have T:Tk 13e0 X.w s10.heap k r:=qE I10 R;refine Vd F.slot_set_add ⟨o,S.ho,S.ex.1⟩ F.entry_set_add ?_ (F.args_set_add_2 _ _);unfold Builtin.«set.add» Builtin.Frozenset.oneOther;dsimp[List.isEmpty_nil,bind_assoc];unfold Builtin.Frozenset.addrOf setAdd;refine Uw 8e1
 try dsimp only
 refine Uw 8e1
 try dsimp only
 refine Uw (Ux ?_);refine Uw (wpAny_pyHash_tuple n (qE I10 R) ?_);rw[Gc];refine FK (s:={s10 with toks:=s10.toks+(k.length+1)}) hS j T tps n λb V B hS2=>?_;show wpAny _ _ (ret Value.none) _ _ _;refine UC ⟨_,rfl,UC ⟨_,_,?_,m⟩⟩;refine I10.write (x:=acc) (e:=acc) (by rw[C];exact trivial) 8e9 (λc u i U=>(B.2 c i).trans U) ?_ ⟨hS2,?_,λW h2 g k=>g.keeps k⟩
 ·obtain⟨O,_,_,_,_,l,_⟩:=hS2;exact⟨O,l.ho⟩
 ·obtain⟨O,_,_,_,_,l,_⟩:=hS2;exact⟨O,l.ho⟩
variable{cl0:Comprehension}{rest:List Comprehension}{cap:List 5e0}{wi:TI}{g:TG}{tt:TT}{tb:Addr->E1}
theorem Hs(k:X.calm=true)(hz:∀g∈cl0::rest,g.is_async=0)(S:bP X.N 1e9 scope Nc cap)(hi:PI X cl0.target cl0.iter wi)
  (σ:∀cl C s H fp,PG 0e7 cl0.target g) (J:∀cl C s H fp,rk 0e7 cl0.ifs tt) (B:∀cl C s H fp acc,uT 0e7 (.SetComp elt (cl0::rest) scope pos) 1 acc (tb acc))
  (hs:∀x,foldedSetIterable cl0.iter 1e9 x=pure x):PE X (.SetComp elt (cl0::rest) scope pos) (n7 (λa=>.ext λh=>cT X.w h a []) wi cap g tt tb):=by
 intro P s y H Q I h;have j:=hz cl0 Ue;obtain⟨T,r,l,A⟩:=cl0;have c:A=0:=j;subst c;rw[arm_eval_SetComp];refine qq (e:=.SetComp elt (_::rest) scope pos) (Q:=Q) rfl hz rfl KN k S hi σ J B I h (λC acc t f i F n q=>?_) hs;obtain⟨m,n⟩:=n;refine⟨m,n,λv u=>⟨.ref acc,f,?_,rfl,q⟩⟩;exact i.turned (t':=t.toks) (it:=C) (λb o B e=>(u.2 b B).trans e) F.1 F.2.1 F.2.2.2.1 F.2.2.2.2.1 F.2.2.2.2.2
end
section
theorem z4{p:Addr}{o:HO}(h:H p=some (.ext φ)):ma K H (cE H p o) α α:=by
 refine⟨λa S q=>?_,λa S q=>?_,λ_ _ z=>z,λa fs q=>by rw[bG 7e9];exact q⟩
 ·rcases q with (q | ⟨x, q⟩) | q
  ·exact .inl (.inl (by rw[bG 7e9];exact q))
  ·exact .inl (.inr ⟨x,by rw[bG 7e9];exact q⟩)
  ·exact .inr q
 ·rcases q with ⟨x, q⟩ | q
  ·exact .inl ⟨x,by rw[bG 7e9];exact q⟩
  ·exact .inr q
theorem wJ(S:gK K w H α Z){ks':List 0e5}{ho:HO}(h:Z[n]?=some (.set ks))(c:α[n]?=some a)(f:H a=some (.ext φ))(q:sx K w (cE H a ho) α (.set ks') a):gK K w (cE H a ho) α (Z.set n (.set ks')):=by
 have e:=z4 (K:=K) (α:=α) (o:=ho) f;refine⟨by simp[S.len],S.nd,λm o b G A=>?_⟩;have N:n<Z.length:=(Ul.mp h).1;by_cases i:m=n
 ·subst i;rw[Uo N]at G;cases G;rw[c]at A;cases A;exact q
 ·rw[Uq (λz=>i z.symm)]at G;refine(S.ob m o b G A).mono e (bG λz=>i ?_);subst z;obtain⟨l1,E⟩:=Ul.mp A;obtain⟨l2,B⟩:=Ul.mp c;exact(Um S.nd).mp (E.trans B.symm)
end
noncomputable def IS(n:Nat)(y:D)(Z:aC):ah Unit:=match Z[n]?,y with
 |some (.set k),.tup [.int a,.int b]=>if [a,b]∈prs then .ok () (Z.set n (.set (n6 k [a,b]))) else .bad
 |_,_=>.bad
theorem Io{ps:List KP}{r:Addr}:(jO ps k r).map 3e0=n6 (ps.map 3e0) k:=by
 unfold jO n6;split <;> simp
theorem LB{R:Unit->aC->Hp->List Addr->Prop}(S:p.S H α Z)(A:α[n]?=some acc)(u:p.R H α y v)(P:aM p H α (IS n y Z) R):
  ∃(r:Addr)(k:List Int)(ps:List KP),v=.ref r/\H acc=some (.ext λh=>cT p.w h acc ps)/\k∈prs/\gz p.K H r (k.map V.int)/\(∀q∈ps,gz p.K H q.2 (q.1.map V.int)) /\
   ∃Z',p.X H (cE H acc (.ext λh=>cT p.w h acc (jO ps k r))) α α/\p.S (cE H acc (.ext λh=>cT p.w h acc (jO ps k r))) α Z'/\R () Z' (cE H acc (.ext λh=>cT p.w h acc (jO ps k r))) α:=by
 unfold IS at P;split at P
 ·rename_i o a b c;split at P
  ·rename_i j;obtain⟨acc',f,ps,l,B,U,m,E⟩:=S.at c;rw[A]at f;cases f;obtain⟨r,C,rfl,i,t⟩:=aQ.mp u;have s:C=[a,b].map V.int:=Reps.ints (ns:=[a,b]) t;subst s;have x:p.X H (cE H acc (.ext λh=>cT p.w h acc (jO ps [a,b] r))) α α:=z4 B
   have q:sx p.K p.w (cE H acc (.ext λh=>cT p.w h acc (jO ps [a,b] r))) α (.set (n6 o [a,b])) acc:=by
    refine⟨jO ps [a,b] r,by rw[Io,l],cA,λq Q=>?_,ue m,λq Q=>?_⟩
    ·rcases tR Q with z | z
     ·exact U q z
     ·subst z;exact j
    ·rcases tR Q with z | z
     ·exact x.tup _ _ (E q z)
     ·subst z;exact x.tup _ _ i
   exact⟨r,[a,b],ps,rfl,B,j,i,E,_,x,wJ S c A B q,P _ _ x (wJ S c A B q)⟩
  ·exact P.elim
 ·exact P.elim
def Ck(e:ME):MB:=λn c Z=>(e c Z).nox.bind λy a=>(IS n y a).bind λ_ b=>.ok c b
def xo(fi:MI)(cap:List 5e0)(g:MG)(t:MT)(fb:MB):ME:=λc Z=>(fi c Z).bind λs a=>(i0 s a.length g t fb s.items (cD cap c) (a++[.set []])).bind λ_ b=>.ok (.obj a.length) b
section
theorem BR{e:ME}{N:St->Hp->Prop}(h:wR p (Ck e) acc Y H N):FU p.K p.w (tD p.nx e) acc Y H N:=by
 obtain⟨α,q,Z,n,S,R,a,P⟩:=h;refine⟨α,q,Z,S,R,(d7 P).imp λy m t l E c b v V=>?_⟩;obtain⟨r,k,s,f,B,U,i,j,o,x,Q,L⟩:=LB (p:=p) c (E.pre _ _ a) V (aM.bind b);exact⟨r,k,s,f,B,U,i,j,L.now Q Y ((R.mono E).mono x)⟩
theorem BV{cap:List 5e0}{g:MG}{t:MT}{Q:VK}(h:tD p (xo fi cap g t fb) Y H Q):n7 (λa=>.ext λh=>cT p.w h a []) (qD p fi) cap 15e0 (ij p.nx t) (λacc=>wR p.nx fb acc) Y H Q:=by
 obtain⟨α,v,Z,S,R,P⟩:=h;refine⟨α,v,Z,S,R,(aM.bind P).imp λq b c i o f k J L hJ acc C=>?_⟩;have B:p.X c (cE c acc (.ext λh=>cT p.w h acc [])) i (i++[acc]):=(cx C).trans (kZ [acc]);have s:p.S (cE c acc (.ext λh=>cT p.w h acc [])) (i++[acc]) (b++[.set []]):=f.more C ⟨[],rfl,cA,nofun,Ww,nofun⟩;have n:(i++[acc])[b.length]?=some acc:=by rw[<- f.len];simp
 refine oj (p:=p) B s (((R.mono o).cap cap).mono B) n hJ ((aM.from B (aM.bind k)).imp λx u z r m l j y A=>?_);exact j.now l _ (aU.mpr ⟨acc,rfl,m.pre _ _ n⟩)
variable{X:Cx}{ifs:List Expr}{rest:List Comprehension}{cap:List 5e0}{g:MG}{tt:MT}{te:ME}{mb:MB}{d:Nat}
theorem RM(σ:gens[d]?=none)(U:X.A.units+64<cLine)(l:Bx (PE X elt (tD p.nx te)))(E:autoParam (X.xe=wV) ATr)(hK:autoParam 9e0 ATr)(W:autoParam (X.w=p.w) ATr):Bx (uT X (.SetComp elt gens scope pos) d acc (wR p.nx (Ck te) acc)):=
 ⟨λP s a H N I h=>D4 σ E U l.h P s a H N I (by rw[hK,W];exact BR (p:=p.nx) h)⟩
theorem Jf(S:bP X.N 1e9 scope Nc cap)(hi:Bx 16e2)(σ:∀cl C s H fp,Bx (PG 0e7 tg 15e0))(J:∀cl C s H fp,Bx (rk 0e7 ifs (ij p.nx tt)))(B:∀cl C s H fp acc,Bx (uT 0e7 (.SetComp elt (⟨tg,iter,ifs,0⟩::rest) scope pos) 1 acc (wR p.nx mb acc)))(hz:autoParam (oQ (⟨tg,iter,ifs,0⟩::rest)=true) ATr)(i:autoParam 10e2 ATr)(hs:autoParam 3e7 ATt)(W:autoParam (X.w=p.w) ATr):Bx (PE X (.SetComp elt (⟨tg,iter,ifs,0⟩::rest) scope pos) (tD p (xo fi cap g tt mb))):=
 ⟨(Hs (cl0:=⟨tg,iter,ifs,0⟩) i (rR hz) S hi.h 12e8 13e6 (λcl C s H fp acc=>(B cl C s H fp acc).h) hs).weak λa H Q h=>by rw[W];exact BV h⟩
end
section
variable{X:Cx}
theorem LN{fo:ME}(G:Bx (PE X ob (tD p fo)))(n:Bx (PA X [e] 16e1))(hbase:autoParam (attributeBase ob "extend" X.env (eval ob 1e9)=eval ob 1e9) ATr)(W:autoParam (((backTo pos (starEach [e] 1e9)).all (λx=>!x.1)&&(backToKw pos 16e9).all (λx=>x.1.isSome)
   && decide 9e4)=true) ATr)(hline:autoParam 13e9 ATr)(hs:autoParam (starEach [e] 1e9=(false,eval e 1e9)::starEach [] 1e9) ATr)(L:autoParam ((backTo pos (starEach [] 1e9)).any 3e0=false) ATr)(hK:autoParam 9e0 ATr):Bx (PE X (.Call (.Attribute ob "extend" apos) [e] [] pos) (tD p (AI jy fo fr))):=⟨Fp hK PySem.F.slot_list_extend PySem.F.type_list_extend Ed KL G.h n.h hbase W hline hs L⟩
end
end L2
namespace PySem.W
open PySem PySem.Spec PySem.Calls PyProof.Rows Builtin Builtin.ObjectAttr
section
variable{R:Result->Shared->Prop}{K:Frag}{x C:Addr}{cd:ClassData}{name:Str}{v:Value}
structure Tp(K:Frag)(C:Addr):Prop where
 sa:findIn K (.ref C) "__setattr__" = some (some (.builtin "object.__setattr__"))
 obj:mroIn K C (.type "object")=some true
 cls:∃cd,clsIn K C=some cd/\cd.hasDict=true/\∀self,refuseLoop self "__setattr__" cd.mro=pure ()
end
end PySem.W
namespace L2
open PySem PySem.Spec PyProof.Rows RS
structure TQ(P:Program)(w:World)(K:W.Frag)(mg:Str->Option Value)(base:Heap)(p:Pa)(k:Nat)(x:Str)(n:Nat)(F:List D->aC->ah D):Prop where
 len:∀ds Z,ds.length≠n->F ds Z=.bad
 fn:∃f fd ps,mg x=some 2e9/\W.keepIn K 2e9=true/\lW K fd ps []/\RP P w K mg base EO k f fd ps (LF p n F)
noncomputable abbrev AV:D->D->aC->ah D:=ID DB λi j=>.int (i*2^j.toNat)
noncomputable abbrev My:D->D->aC->ah D:=ID (λ_ j=>0<=j) λi j=>.int (i / 2^j.toNat)
abbrev Dz:D->D->aC->ah D:=dI λi j=>.int (Builtin.bitAnd i j)
abbrev Qd:D->D->aC->ah D:=dI λi j=>.int (Builtin.bitOr i j)
section
variable{X:Cx}{a b:Expr}{fb:ME}
theorem Fh(n:Bx 4e2)(B:Bx 6e1):Bx (PE X (.BinOp a .LShift b pos) (tD p (aF AV fa fb))):=⟨kE Om (y0 λ_ _ _ _=>ay.mpr rfl) n.h B.h⟩
theorem QK(n:Bx 4e2)(B:Bx 6e1):Bx (PE X (.BinOp a .RShift b pos) (tD p (aF My fa fb))):=⟨kE Ol (y0 λ_ _ _ _=>ay.mpr rfl) n.h B.h⟩
theorem FM(n:Bx 4e2)(B:Bx 6e1):Bx (PE X (.BinOp a .BitAnd b pos) (tD p (aF Dz fa fb))):=⟨kE Oy (Ms λ_ _ _ _=>ay.mpr rfl) n.h B.h⟩
theorem LO(n:Bx 4e2)(B:Bx 6e1):Bx (PE X (.BinOp a .BitOr b pos) (tD p (aF Qd fa fb))):=⟨kE Rl (Ms λ_ _ _ _=>ay.mpr rfl) n.h B.h⟩
end
end L2
namespace RS
open PySem PySem.W PyProof.Rows
open L2 (cmpP cmpPs cmpI fitP fitP_lay fitP_depth rc_reads)
mutual
def kQ:PyData->Bool
 |.int _=>true
 |.tuple xs=>tupOs xs
 |_=>false
def tupOs:List PyData->Bool
 |[]=>true
 |x::xs=>kQ x&&tupOs xs
end
section
mutual
theorem vV (hk:∀b u,b≠a->h.get? b=some u->h'.get? b=some u) (ha:∃o,h.get? a=some o/\o.cls=.type "list"):∀(d:PyData) {v:Value}{as:List Addr},kQ d=true->Reads h v d as->∃bs,Reads h' v d bs
 |.int i,_,_,_,r=>by cases r;exact⟨_,.int _ _⟩
 |.tuple xs,_,_,hn,r=>by
  dsimp[kQ]at hn;cases r with
  |tuple h1 h2 h3 h4=>
   obtain⟨bs,q⟩:=reads_buts hk ha xs hn h4;refine⟨bs,.tuple (hk _ _ (λe=>?_) h1) h2 h3 q⟩;obtain⟨o,e1,e2⟩:=ha;rw[e,e1]at h1;cases h1;rw[e2]at h2;exact absurd h2 1e2
 |.none,_,_,hn,_=>by simp[kQ]at hn
 |.bool _,_,_,hn,_=>by simp[kQ]at hn
 |.str _,_,_,hn,_=>by simp[kQ]at hn
 |.list _,_,_,hn,_=>by simp[kQ]at hn
 |.dict _,_,_,hn,_=>by simp[kQ]at hn
theorem reads_buts (hk:∀b u,b≠a->h.get? b=some u->h'.get? b=some u) (ha:∃o,h.get? a=some o/\o.cls=.type "list"):∀(ds:List PyData) {vs:List Value}{as:List Addr},tupOs ds=true->ReadsAll h vs ds as->∃bs,ReadsAll h' vs ds bs
 |[],_,_,_,r=>by cases r;exact⟨_,.nil⟩
 |d::ds,_,_,hn,r=>by
  dsimp[tupOs,Vf]at hn;cases r with
  |cons r rs=>
   obtain⟨bs,q⟩:=vV hk ha d hn.1 r;obtain⟨cs,q'⟩:=reads_buts hk ha ds hn.2 rs;exact⟨_,.cons q q'⟩
end
mutual
theorem t7(hk:∀b u,h.get? b=some u->h'.get? b=some u):∀(d:PyData){v:Value}{as:List Addr},kQ d=true->Reads h v d as->∃bs,Reads h' v d bs
 |.int i,_,_,_,r=>by cases r;exact⟨_,.int _ _⟩
 |.tuple xs,_,_,hn,r=>by
  dsimp[kQ]at hn;cases r with
  |tuple h1 h2 h3 h4=>
   obtain⟨bs,q⟩:=reads_keeps hk xs hn h4;exact⟨bs,.tuple (hk _ _ h1) h2 h3 q⟩
 |.none,_,_,hn,_=>by simp[kQ]at hn
 |.bool _,_,_,hn,_=>by simp[kQ]at hn
 |.str _,_,_,hn,_=>by simp[kQ]at hn
 |.list _,_,_,hn,_=>by simp[kQ]at hn
 |.dict _,_,_,hn,_=>by simp[kQ]at hn
theorem reads_keeps(hk:∀b u,h.get? b=some u->h'.get? b=some u):∀(ds:List PyData){vs:List Value}{as:List Addr},tupOs ds=true->ReadsAll h vs ds as->∃bs,ReadsAll h' vs ds bs
 |[],_,_,_,r=>by cases r;exact⟨_,.nil⟩
 |d::ds,_,_,hn,r=>by
  dsimp[tupOs,Vf]at hn;cases r with
  |cons r rs=>
   obtain⟨bs,q⟩:=t7 hk d hn.1 r;obtain⟨cs,q'⟩:=reads_keeps hk ds hn.2 rs;exact⟨_,.cons q q'⟩
end
end
structure nM(dat:List Int->PyData)(key:List Int->Int)(Ok:List Int->Prop):Prop where
 tup:∀k,Ok k->∃x r,dat k=.tuple (.int x::r)
 lt:∀k k',Ok k->Ok k'->cmpP .Lt (dat k) (dat k')=some (decide (key k<key k'))
 inj:∀k k',Ok k->Ok k'->key k=key k'->k=k'
 fit:∀k,Ok k->fitP (dat k)=true
 nol:∀k,Ok k->kQ (dat k)=true
def PX(dat:List Int->PyData)(h:Heap)(k:List Int)(r:Addr):Prop:=∃W,Reads h (.ref r) (dat k) W
def kr(key:List Int->Int)(ps:List KP):Prop:=ps.Pairwise λp q=>key p.1<key q.1
section
variable{dat:List Int->PyData}{key:List Int->Int}{Ok:List Int->Prop}
theorem C3{Q:Bool->Shared->Prop}{fin:Bool}:∀(xs ys:List PyData){vs us:List Value}{as bs:List Addr}(i:Nat){k:Bool},ReadsAll 3e3 vs xs as->ReadsAll 3e3 us ys bs->PyData.canLayAll0 xs=true->PyData.canLayAll0 ys=true ->
  A.units+min (PyData.depthAll xs) (PyData.depthAll ys)<cLine->(i=0->∀x r,xs=x::r->∃j,x=.int j)->(i=0->∀x r,ys=x::r->∃j,x=.int j)->fin=decide (xs.length<ys.length)->cmpPs .Lt xs ys=some k->Q k s->KatLex prog w A true fin Q (vs.zip us) i s
 |[],ys,vs,us,_,_,i,k,R,B,_,_,_,_,_,F,d,q=>by
  cases R;rw[List.zip_nil_left];dsimp[cmpPs,cmpI,WC]at d;subst d F;refine kat_nil ?_
  have:decide (([]:List PyData).length<ys.length)=decide ((0:Int)<(ys.length:Int)):=by
   rw[X6];simp
  rw[this];exact q
 |x::xs,[],vs,us,_,_,i,k,R,B,_,_,_,_,_,F,d,q=>by
  cases B;rw[List.zip_nil_right];dsimp[cmpPs,cmpI,WC]at d;subst d F;refine kat_nil ?_
  have:decide ((x::xs).length<([]:List PyData).length)=decide (((xs.length:Int)+1)<0):=by
   rw[X6];simp;omega
  rw[this];exact q
 |x::xs,y::ys,_,_,_,_,i,k,R,B,n,g,U,X,σ,F,d,q=>by
  have H:x.canLay0=true/\PyData.canLayAll0 xs=true:=by simpa[PyData.canLayAll0] using n
  have b:y.canLay0=true/\PyData.canLayAll0 ys=true:=by simpa[PyData.canLayAll0] using g
  cases R with
  |cons r S=>
   cases B with
   |cons c f=>
    rw[XB];have l:=SeqAt.eqAt_reads x y A s _ _ _ _ r c H.1 b.1 (XE U);refine kat_cons (l prog w _ _ ?_);dsimp[cmpPs]at d;cases e:PyData.eqv x y with
    |true=>
     rw[T1 e]at d;refine kat_yes (C3 xs ys (i+1) S f H.2 b.2 (SeqAt.room_tail U) (λz=>by omega) (λz=>by omega) ?_ d q);rw[F];simp
    |false=>
     rw[T3 (by rw[e];exact UA)]at d;refine kat_no ?_;cases i with
     |zero=>
      obtain⟨j,rfl⟩:=X rfl x xs rfl;obtain⟨J,rfl⟩:=σ rfl y ys rfl;cases r;cases c;dsimp[cmpP,cmpI,WC]at d;subst d;show wpAny _ A (keyLt' oneType' _ _) Q _ s;exact kat_lt_int q
     |succ i=>
      show wpAny _ A (oneLt' false _ _) Q _ s;exact kat_one _ _ (rc_reads rfl x y A s _ _ _ _ k r c H.1 b.1 (XE U) d prog w _ _ q)
theorem Pw(G:nM dat key Ok){x y:Addr}{k':List Int}{Q:Bool->Shared->Prop}(U:A.units+61<cLine)(X:PX dat 3e3 k x)(p:PX dat 3e3 k' y)(d:Ok k)(H:Ok k')(h:Q (decide (key k<key k')) s):
  wpAny 1e7 A (keyLt' (tuples' true) (.ref x) (.ref y)) Q E s:=by
 obtain⟨W,R⟩:=X;obtain⟨bs,σ⟩:=p;have e:=G.lt k k' d H;have f:=G.fit k d;have V:=G.fit k' H;obtain⟨i,r,K⟩:=G.tup k d;obtain⟨j,t,c⟩:=G.tup k' H;rw[K]at R e f;rw[c]at σ e V;dsimp[cmpP]at e;have l1:=fitP_lay f;have l2:=fitP_lay V;cases R with
 |tuple n v o l=>
  cases σ with
  |tuple m u C g=>
   refine kat_lt n o m C (C3 _ _ 0 l g (by simpa[PyData.canLay0] using l1) (by simpa[PyData.canLay0] using l2) ?_ (λ_ x r e=>by cases e;exact⟨_,rfl⟩) (λ_ x r e=>by cases e;exact⟨_,rfl⟩) ?_ e h)
   ·have q:=fitP_depth f;dsimp[PyData.depth]at q;have:=XA (PyData.depthAll (.int i::r)) (PyData.depthAll (.int j::t));omega
   ·have a:=XC _ _ _ l;have b:=XC _ _ _ g;rw[Ut]at a b;rw[a,b]
theorem zh(G:nM dat key Ok){h:Heap}:∀{ps:List KP},(∀p∈ps,Ok p.1)->(∀p∈ps,PX dat h p.1 p.2)->∃fs,KatTups h (bb ps) fs/\fs.length=ps.length/\∀v∈fs,∃i t,v=Value.int i t
 |[],_,_=>⟨[],KatTups.nil,rfl,λv V=>by simp at V⟩
 |p::ps,d,J=>by
  obtain⟨fs,H,f,j⟩:=zh G (ps:=ps) (λq z=>d q (Ug _ z)) (λq z=>J q (Ug _ z));obtain⟨W,r⟩:=J p Ue;obtain⟨x,R,e⟩:=G.tup _ (d p Ue);rw[e]at r;generalize V:(Value.ref p.2)=v at r;cases r with
  | @tuple D o y n _ as₁ b c C g=>
   cases V;generalize L:y.toList=l at g;cases g with
   |cons q Q=>
    cases q with
    |int _ t=>
     refine⟨.int x t::fs,KatTups.cons b c C (by rw[<- Vw,L];rfl) H,by rw[VF,VF,f],λv V=>?_⟩;rcases Uh.mp V with q|q
     ·exact⟨x,t,q⟩
     ·exact j v q
theorem Kj{ps:List KP}{p:Array Nat}(g:fP ps.length p)(n:Iy (λi=>key (ps.getD i ([],0)).1) p ps.length) :
  ∃out:List KP,(p.toList.map λi=>(bb ps).getD i Value.none)=bb out/\out.Perm ps/\kr key out:=by
 refine⟨p.toList.map λi=>ps.getD i ([],0),?_,?_,?_⟩
 ·unfold bb;rw[V4];refine V6 λi I=>?_;have H:i<ps.length:=Ua.mp (g.perm.mem_iff.mp I);simp[W7,H]
 ·refine (g.perm.map _).trans ?_
  have:(List.range ps.length).map (λi=>ps.getD i ([],0))=ps:=by
   apply X7;intro i;rw[UX];by_cases I:i<ps.length
   ·rw[Xw I];simp[I]
   ·rw[Xx 16e6,Xx 0e1];rfl
  rw[this]
 ·unfold kr;rw[XQ];refine Wb.mpr λi j I D J=>?_;have H:i<p.size:=by simpa using I
  have b:j<p.size:=by simpa using D
  have:=n i j J (by rw[<- g.size];exact b);unfold at' at this;simpa[Array.getD,H,b] using this
theorem GQ(G:nM dat key Ok){ps:List KP}{P:PySem.Fin->Shared->Prop}(o:s.heap.get? a=some (seqObj "list" (bb ps).toArray n))(K:∀p∈ps,Ok p.1)(hn:(ps.map 3e0).Nodup)(H:ps.length<64)(hu:A.units+61<cLine)(hT:∀p∈ps,PX dat 3e3 p.1 p.2)(h:∀out:List KP,out.Perm ps->kr key out->P (.done (.ret .none)) {s with heap:=sortedHeap 3e3 a (bb ps) (bb out).toArray}):
  wpAny 1e7 A (Builtin.«list.sort» ⟨[.ref a],[]⟩) P E s:=by
 have l:(bb ps).length=ps.length:=by unfold bb;rw[U1]
 rw[list_sort_plain];have L:a<s.heap.objs.size:=T5 o;refine Uw (listItems_at o rfl ?_);refine Uw (Xe o rfl ?_ (by rw[UL,l];exact Ub (Uc H) 1e2) (VQ _));obtain⟨z,x⟩:∃z,(s.heap.update a (Obj.mapSeq λ_=>#[])).get? a=some (seqObj "list" #[] z):=⟨_,Xf o (λ_=>#[])⟩;refine Uw (seqEpoch_at x rfl ?_);refine Uw (wpAny_newTuple ?_);refine Uw (Xg ?_);refine Ux ?_
 have c:(((s.heap.update a (Obj.mapSeq λ_=>#[])).push (seqObj "tuple" (bb ps).toArray 0)).push 2e8).get? a=some (seqObj "list" #[] z):=by
  rw[V2 _ _ _ (by rw[Xh,XM];exact T8 (VH L)),V2 _ _ _ (by rw[XM];exact T8 L)];exact x
 show wpAny 1e7 A _ P E {s with heap:=((s.heap.update a (Obj.mapSeq λ_=>#[])).push (seqObj "tuple" (bb ps).toArray 0)).push 2e8};dsimp only;generalize hS:({s with heap:=((s.heap.update a (Obj.mapSeq λ_=>#[])).push (seqObj "tuple" (bb ps).toArray 0)).push 2e8}:Shared)=s1;have m:s1.heap=((s.heap.update a (Obj.mapSeq λ_=>#[])).push (seqObj "tuple" (bb ps).toArray 0)).push 2e8:=by rw[<- hS]
 have hT1:∀p∈ps,PX dat s1.heap p.1 p.2:=λp M=>by
  obtain⟨as,r⟩:=hT p M;refine vV (a:=a) (λb u hb e=>?_) ⟨_,o,rfl⟩ (dat p.1) (G.nol _ (K p M)) r;rw[m];refine UF _ (UF _ ?_);rw[XO _ _ _ _ hb];exact e
 rw[<- m]at c
 have N:∀out:List KP,out.Perm ps->kr key out->P (.done (.ret .none)) {s1 with heap:=s1.heap.update a (Obj.mapSeq λ_=>(bb out).toArray)}:=λout h1 d=>by
  have q:=h out h1 d;rw[<- hS];exact q
 have V:(bb ps).toArray.size=ps.length:=by rw[UL,l]
 by_cases d:(bb ps).toArray.size<2
 ·rw [T1 d, T1 d];refine Uw 8e1;rw[StateT.run_pure];refine Uw 8e1;dsimp only;refine Uw (seqEpoch_at c rfl ?_)
  have μ:(arrOf (SortSt.mk' general' ((bb ps).toArray.zip (bb ps).toArray) #[] 7 none)).map 7e4=(bb ps).toArray:=by
   show (((bb ps).toArray.zip (bb ps).toArray)).map 7e4=_;apply Array.toList_inj.mp;rw[Array.toList_map,Array.toList_zip];exact List.map_snd_zip 6e3
  rw[μ];refine Uw (Xe c rfl ?_ (VQ _) (by show (bb ps).toArray.size<=_;rw[V];exact Ub (Uc H) 1e2));dsimp[Xa,VE,U8];refine UC (N ps (List.Perm.refl _) ?_);rw[V]at d
  match ps,d with
  |[],_=>exact List.Pairwise.nil
  |[_],_=>exact List.pairwise_singleton _ _
  |_::_::_,h=>rw[VF,VF]at h;omega
 ·rw [T3 d, T3 d];rw[V]at d;obtain⟨fs,k1,k2,k3⟩:=zh G K hT1;refine Uw (kat_kind (T:=Value.type "int") k1 0e1 (λv hv=>?_) (by rfl) ?_)
  ·obtain⟨i,t,e⟩:=k3 v hv;rw[e];exact .now
  ·have W : (Value.type "int" != Value.type "tuple") = true := by decide
   rw[W]
   refine Uw (Ur (kat_run (ks:=bb ps) (vs:=bb ps) (Q:=λS y=>y=s1/\failedOf S=none/\∃out:List KP,out.Perm ps/\kr key out/\(arrOf S).map 7e4=(bb out).toArray)
    (G:=λp y=>y=s1/\∃out:List KP,(p.toList.map λi=>(bb ps).getD i Value.none)=bb out/\out.Perm ps/\kr key out) rfl (by rw[l];omega) (by rw[l];omega) ?_ ?_) ?_ λ_ _ e=>e)
   ·rintro p S y M R F ⟨e, out, O, U, X⟩
    exact⟨e,F,out,U,X,by rw[kat_snds rfl R,O]⟩
   ·rw [l];refine JE (key:=λi=>key (ps.getD i ([],0)).1) (λi j I D e=>?_) (λi j I D C hC=>?_) 0e1 _ (λp g ha=>⟨rfl,Kj g ha⟩)
    ·have f : ps.getD i ([], 0) = ps[i] := by simp [W7, I]
     have k:ps.getD j ([],0)=ps[j]:=by simp[W7,D]
     dsimp[f,k]at e;have σ:=G.inj _ _ (K _ (XS I)) (K _ (XS D)) e;have B:i<(ps.map 3e0).length:=by rw[U1];exact I
     have J:j<(ps.map 3e0).length:=by rw[U1];exact D
     exact(Um (h₀:=B) (h₁:=J) hn).mp (by simpa using σ)
    ·unfold kas_ask;have gi:(bb ps).getD i Value.none=.ref ps[i].2:=by unfold bb;simp[W7,I]
     have gj:(bb ps).getD j Value.none=.ref ps[j].2:=by unfold bb;simp[W7,D]
     have f:ps.getD i ([],0)=ps[i]:=by simp[W7,I]
     have k:ps.getD j ([],0)=ps[j]:=by simp[W7,D]
     rw[gi,gj];dsimp[f,k]at hC;exact Pw G hu (hT1 _ (XS I)) (hT1 _ (XS D)) (K _ (XS I)) (K _ (XS D)) hC
   ·rintro ⟨⟨⟩, S⟩ y ⟨rfl, F, out, O, U, X⟩
    dsimp only;refine Uw (seqEpoch_at c rfl ?_);rw[X];refine Uw (Xe c rfl ?_ (VQ _) (by show (bb out).toArray.size<=_;rw[UL];unfold bb;rw[U1,O.length_eq];exact Ub (Uc H) 1e2));rw[F];dsimp[Xa,VE,U8];exact UC (N out O U)
theorem tY(G:nM dat key Ok){x:Value}{ps:List KP}(K:∀p∈ps,Ok p.1)(N:(ps.map 3e0).Nodup)(h64:ps.length<64)(U:A.units+64<cLine)(hT:∀p∈ps,PX dat 3e3 p.1 p.2)(l:∀Q':List Value->Shared->Prop,(∀qs:List KP,qs.Perm ps->∀h',(∀b u,s.heap.get? b=some u->h'.get? b=some u)->s.heap.objs.size<=h'.objs.size->Q' (bb qs) {s with heap:=h'})->wpAny 1e7 A.in1 (collect x) Q' E s)(h:∀out:List KP,out.Perm ps->kr key out->∀h' D,s.heap.objs.size<=D->(∀b u,s.heap.get? b=some u->h'.get? b=some u)->(∃n,h'.get? D=some (seqObj "list" (bb out).toArray n))->Q (.ref D) {s with heap:=h'}):
  wpAny 1e7 A (call 15e1 [x]) Q E s:=by
 refine XJ kind_sorted plain_sorted entry_sorted (args_sorted1 _) ?_;unfold Builtin.«sorted»;refine Uw (m:=checkCount "sorted" 1 1 _) 8e1;refine Uw (l _ λqs c d k z=>?_);have f:∀p∈qs,Ok p.1:=λp P=>K p (c.mem_iff.mp P);have g:(qs.map 3e0).Nodup:=(c.map _).nodup_iff.mpr N;have H:qs.length<64:=by rw[c.length_eq];exact h64
 have L:(bb qs).length<=63:=by unfold bb;rw[U1];exact Wf H
 refine Uw (Xg ?_ (Ub L 1e2));have hoL:(d.push (seqObj "list" (bb qs).toArray 0)).get? d.objs.size=some (seqObj "list" (bb qs).toArray 0):=T4 _ rfl;have W:∀b u,d.get? b=some u->b≠d.objs.size:=λb u q=>T8 (T5 q);refine Uw (Ux (Vd slot_list_sort (s:={s with heap:=d.push (seqObj "list" (bb qs).toArray 0)}) ⟨_,hoL,rfl⟩ XN ?body (args_list_sort _)))
 case body=>
  refine GQ G (s:={s with heap:=d.push (seqObj "list" (bb qs).toArray 0)}) hoL f g H (by dsimp[Around.in1_units];omega) (λp P=>?_) λout o t=>?_
  ·obtain⟨S,r⟩:=hT p (c.mem_iff.mp P);exact t7 (λb u e=>UF _ (k _ _ e)) (dat p.1) (G.nol _ (K p (c.mem_iff.mp P))) r
  ·refine ⟨_, rfl, UC ⟨_, rfl, h out (o.trans c) t _ d.objs.size z (λb u q => ?_) ?_⟩⟩
   ·have B:=W b u (k b u q);unfold sortedHeap;rw[XO _ _ _ _ B];refine UF _ (UF _ ?_);rw[XO _ _ _ _ B];exact UF _ (k b u q)
   ·unfold sortedHeap;have i:=Xf hoL (λ_=>#[]);have j:=UF 2e8 (UF (seqObj "tuple" (bb qs).toArray 0) i);exact⟨_,Xf j (λ_=>(bb out).toArray)⟩
end
end RS
namespace RS
open PySem PySem.W PyProof.Rows
open L2 (isLt cmpP cmpPs cmpI fitP)
def kU:Nat->List Int->Int
 |0,_=>0
 |_+1,[]=>0
 |n+1,x::r=>(x+1)*7^n+kU n r
def Dx(k:List Int):Int:=kU 6 k
def E2(k:List Int):Prop:=∀x∈k,0<=x/\x<6
def Sm(k:List Int):Prop:=k≠[]/\k.length<=6/\E2 k
theorem sR:∀(n:Nat)(k:List Int),E2 k->0<=kU n k/\kU n k<7^n
 |0,_,_=>by simp[kU]
 |n+1,[],_=>by
  have:(0:Int)<7^(n+1):=X8 1e2;dsimp[kU];omega
 |n+1,x::r,h=>by
  have i:=sR n r λy σ=>h y (Ug _ σ);have d:=h x Ue;have p:(0:Int)<7^n:=X8 1e2;have a:0<=(x+1)*7^n:=Int.mul_nonneg 0e1 0e1;have b:(x+1)*7^n<=6*7^n:=X9 0e1 0e1;dsimp[kU];rw[Int.pow_succ];omega
def n4:List Int->List Int->Bool
 |[],[]=>false
 |[],_::_=>true
 |_::_,[]=>false
 |x::r,y::R=>if x=y then n4 r R else decide (x<y)
theorem pb{x y:Int}{r r':List Int}(d:E2 (x::r))(σ:E2 (y::r'))(h:x<y):kU (n+1) (x::r)<kU (n+1) (y::r'):=by
 have a:=sR n r λz μ=>d z (Ug _ μ);have b:=sR n r' λz μ=>σ z (Ug _ μ);have p:(0:Int)<7^n:=X8 1e2;have c:(x+1+1)*7^n<=(y+1)*7^n:=X9 0e1 0e1;rw[Int.add_mul (x+1) 1,Int.one_mul]at c;dsimp[kU];omega
theorem oN:∀{n:Nat}{k k':List Int},E2 k->E2 k'->k.length<=n->k'.length<=n->decide (kU n k<kU n k')=n4 k k'
 |n,[],[],_,_,_,_=>by cases n <;> simp[kU,n4]
 |0,_::_,_,_,_,h,_=>by simp at h
 |0,[],_::_,_,_,_,h=>by simp at h
 |n+1,[],y::R,_,σ,_,_=>by
  have b:=sR n R λz μ=>σ z (Ug _ μ);have p:(0:Int)<7^n:=X8 1e2;have:=σ y Ue;have:0<(y+1)*7^n:=Int.mul_pos 0e1 p;exact VA (by dsimp[kU];omega)
 |n+1,x::r,[],d,_,_,_=>by
  have b:=sR (n+1) (x::r) d;exact TY (by dsimp[kU]at b⊢;omega)
 |n+1,x::r,y::R,d,σ,H,c=>by
  dsimp[VF]at H c;unfold n4;by_cases e:x=y
  ·subst e;rw[T1 rfl,<- oN (n:=n) (λz μ=>d z (Ug _ μ)) (λz μ=>σ z (Ug _ μ)) 0e1 0e1];rw[X6];dsimp[kU];constructor <;> intro h <;> omega
  ·rw [T3 e];by_cases l:x<y
   ·rw[VA l,VA (pb d σ l)]
   ·have:=pb (n:=n) σ d (show y<x by omega);rw[TY l,TY 0e1]
theorem tN:∀{n:Nat}{k k':List Int},E2 k->E2 k'->k.length<=n->k'.length<=n->kU n k=kU n k'->k=k'
 |_,[],[],_,_,_,_,_=>rfl
 |n,[],y::R,d,σ,H,c,e=>by
  have:=oN (n:=n) d σ H c;rw[e]at this;simp[n4]at this
 |n,x::r,[],d,σ,H,c,e=>by
  have:=oN (n:=n) σ d c H;rw[e]at this;simp[n4]at this
 |0,_::_,_::_,_,_,h,_,_=>by simp at h
 |n+1,x::r,y::R,d,σ,H,c,e=>by
  have X:x=y:=by
   by_cases l:x<y
   ·have:=pb (n:=n) d σ l;omega
   ·by_cases L : y < x
    ·have:=pb (n:=n) σ d L;omega
    ·omega
  subst X;dsimp[VF]at H c;dsimp[kU]at e;rw[tN (n:=n) (λz μ=>d z (Ug _ μ)) (λz μ=>σ z (Ug _ μ)) 0e1 0e1 0e1]
theorem H9{k':List Int}(h:Sm k)(h':Sm k')(e:Dx k=Dx k'):k=k':=tN h.2.2 h'.2.2 h.2.1 h'.2.1 e
def w9(k:List Int):PyData:=.tuple (k.map .int)
theorem z7:∀k k':List Int,cmpPs .Lt (k.map .int) (k'.map .int)=some (n4 k k')
 |[],[]=>rfl
 |[],y::r=>by
  dsimp[Vh,Vi,cmpPs,cmpI,n4,VF,WC];exact VA 0e1
 |x::r,[]=>by
  dsimp[Vh,Vi,cmpPs,cmpI,n4,WC];exact TY 0e1
 |x::r,y::R=>by
  dsimp[Vi,cmpPs,PyData.eqv,n4,cmpP,cmpI];by_cases e:x=y
  ·subst e;simp[z7 r R]
  ·simp[e]
theorem tI:∀k:List Int,PyData.canLayAll0 (k.map .int)=true/\PyData.depthAll (k.map .int)<=1/\tupOs (k.map .int)=true
 |[]=>⟨rfl,by simp[PyData.depthAll],rfl⟩
 |x::r=>by
  obtain⟨H,c,d⟩:=tI r;refine⟨by simp[PyData.canLayAll0,PyData.canLay0,H],?_,by simp[tupOs,kQ,d]⟩;dsimp[Vi,PyData.depthAll,PyData.depth];omega
theorem vS:nM w9 Dx Sm where
 tup:=λk h=>by
  cases k with
  |nil=>exact absurd rfl h.1
  |cons x r=>exact⟨x,r.map .int,rfl⟩
 lt:=λk K h H=>by
  unfold w9 Dx;rw[oN h.2.2 H.2.2 h.2.1 H.2.1];dsimp[cmpP];exact z7 k K
 inj:=λk K h H e=>H9 h H e
 fit:=λk h=>by
  obtain⟨a,c,_⟩:=tI k;unfold w9 fitP;dsimp[PyData.canLay0,a,PyData.depth,Ya];exact VA 0e1
 nol:=λk h=>by
  obtain⟨_,_,d⟩:=tI k;exact d
def cc:List Int->List PyData
 |a::b::r=>.tuple [.int a,.int b]::cc r
 |_=>[]
def sr(m:Int)(k:List Int):PyData:=.tuple [.int m,.tuple (cc k)]
def nJ:List Int->Bool
 |[]=>true
 |_::_::r=>nJ r
 |_=>false
def Qg(k:List Int):Prop:=nJ k=true/\k.length<=30/\E2 k
def so(k:List Int):Int:=kU 30 k
theorem Dh:∀k k':List Int,nJ k=true->nJ k'=true->cmpPs .Lt (cc k) (cc k')=some (n4 k k')/\(PyData.eqvAll (cc k) (cc k')=true->n4 k k'=false)
 |[],[],_,_=>⟨rfl,λ_=>rfl⟩
 |[],y::z::r,_,_=>by
  refine⟨?_,λe=>by simp[cc,PyData.eqvAll]at e⟩;dsimp[cc,cmpPs,cmpI,n4,VF,WC];exact VA 0e1
 |x::z::r,[],_,_=>by
  refine⟨?_,λe=>by simp[cc,PyData.eqvAll]at e⟩;dsimp[cc,cmpPs,cmpI,n4,WC];exact TY 0e1
 |[],[_],_,h=>by simp[nJ]at h
 |[_],_,h,_=>by simp[nJ]at h
 |_::_::_,[_],_,h=>by simp[nJ]at h
 |a::b::r,c::d::R,h,H=>by
  obtain⟨A,u⟩:=Dh r R (by simpa[nJ] using h) (by simpa[nJ] using H);dsimp[cc,cmpPs,cmpP,PyData.eqv,PyData.eqvAll,n4,cmpI,isLt,U9];by_cases e:a=c
  ·subst e;by_cases B:b=d
   ·subst B;dsimp[VD,WN,Yb,Ya,U9];exact⟨A,u⟩
   ·simp[B]
  ·simp[e]
theorem xF:∀k:List Int,PyData.canLayAll0 (cc k)=true/\PyData.depthAll (cc k)<=3/\tupOs (cc k)=true
 |[]=>⟨rfl,by simp[cc,PyData.depthAll],rfl⟩
 |[_]=>⟨rfl,by simp[cc,PyData.depthAll],rfl⟩
 |a::b::r=>by
  obtain⟨H,c,d⟩:=xF r;refine⟨by simp[cc,PyData.canLayAll0,PyData.canLay0,H],?_,by simp[cc,tupOs,kQ,d]⟩;dsimp[cc,PyData.depthAll,PyData.depth];omega
theorem qe(m:Int):nM (sr m) so Qg where
 tup:=λk h=>⟨m,_,rfl⟩
 lt:=λk K h H=>by
  unfold so;rw[oN h.2.2 H.2.2 h.2.1 H.2.1];obtain⟨c,c2⟩:=Dh k K h.1 H.1
  have q:cmpP .Lt (sr m k) (sr m K)=if PyData.eqv (.tuple (cc k)) (.tuple (cc K))=true then some false else cmpPs .Lt (cc k) (cc K):=by
   unfold sr;dsimp[cmpP,cmpPs,isLt,U9];rw[T1 (by simp[PyData.eqv])];rfl
  rw[q];by_cases e:PyData.eqv (.tuple (cc k)) (.tuple (cc K))=true
  ·rw[T1 e,c2 (by simpa[PyData.eqv] using e)]
  ·rw[T3 e];exact c
 inj:=λk K h H e=>tN h.2.2 H.2.2 h.2.1 H.2.1 e
 fit:=λk h=>by
  obtain⟨a,b,_⟩:=xF k;unfold sr fitP;dsimp[PyData.canLay0,PyData.canLayAll0,a,PyData.depth,PyData.depthAll,Ya,Yb];exact VA 0e1
 nol:=λk h=>by
  obtain⟨_,_,d⟩:=xF k;simp[sr,kQ,tupOs,d]
end RS
namespace L2
open PySem PySem.Spec PyProof.Rows RS
section
variable{X:Cx}{dat:List Int->PyData}{key:List Int->Int}{Ok:List Int->Prop}
def xk(K:W.Frag)(dat:List Int->PyData)(key:List Int->Int)(Ok:List Int->Prop):List V->Hp->VK->Prop:=λS H Q=>∃(a:Addr)(P:List KP),S=[.ref a]/\fK K H a (iZ P)/\(∀p∈P,Ok p.1/\oD K H (dat p.1) (.ref p.2))/\(P.map 3e0).Nodup/\P.length<64 /\
 ∀out:List KP,out.Perm P->kr key out->∀l,H l=none->Q (.ref l) (cE H l (.lst (iZ out)))
theorem ud (G:nM dat key Ok) (f:X.A.units+64<cLine):cY X 15e1 (xk X.K dat key Ok):=by
 intro S s y H x w Q I r h;obtain⟨a,P,rfl,c,hT,N,h64,q⟩:=h;obtain⟨u,rfl,g⟩:=iq r;cases g;obtain⟨i,v,⟨o,n,E,B,_,U⟩,μ⟩:=I.list c;have t:i=bb P:=qb v;subst t;have l:(bb P).length<=sizeLine:=by unfold bb;rw[U1];exact Ub (Uc h64) 1e2
 refine tY G (λp d=>(hT p d).1) N h64 f (λp d=>cZ I _ _ _ (hT p d).2 rfl) (λj z=>qQ 8e9 E B U (z P (List.Perm.refl _) _ (λb u e=>?_) ?_) l) λout d R m D hD k W=>?_
 ·rw[XO _ _ _ _ (T8 (T5 e))];exact UF _ e
 ·rw[XM,Xh];exact Vq _
 ·refine⟨.ref D,cE H D (.lst (iZ out)),I.laid (t':=s.toks) (λb O e=>k b O e) hD ?_,rfl,q out d R _ (I.hok.fresh hD)⟩;obtain⟨n,e⟩:=W;refine⟨?_,bb out,n,mH out,e⟩;unfold iZ;rw[U1,d.length_eq];exact Ub (Uc h64) 1e2
theorem tw:(∀k∈prs,(fitP (w9 k)=true/\kQ (w9 k)=true)/\∀k'∈prs,cmpP .Lt (w9 k) (w9 k')=some (decide (rj k<rj k'))):=by
 decide +kernel
theorem DP:nM w9 rj (·∈prs) where
 tup:=λk h=>by
  obtain⟨a,b,rfl,_⟩:=jK h;exact⟨_,_,rfl⟩
 lt:=λk K h H=>(tw k h).2 K H
 inj:=λk K h H e=>Lp h H e
 fit:=λk h=>(tw k h).1.1
 nol:=λk h=>(tw k h).1.2
theorem JX(k:List Int):RdPs K H (k.map .int) (k.map V.int):=by
 induction k with
 |nil=>simp[RdPs]
 |cons x r i=>exact⟨_,_,rfl,rfl,i⟩
theorem BZ (i:X.calm=true) (U:X.A.units+64<cLine):cY X 15e1 (A5 X.K X.w):=by
 intro S s B H y x Q I r h;obtain⟨a,f,rfl,c,hT,q⟩:=h;obtain⟨u,rfl,g⟩:=iq r;cases g;obtain⟨hS,_⟩:=(show eP 13e0 X.w H 3e3 a (.ext λh=>cT X.w h a f) from I.hok a _ c);obtain⟨o,m,E,t,μ,k,d,N⟩:=id hS;have l:=xN d N;refine tY DP d N 0e1 U (λp P=>cZ I _ _ _ ⟨_,_,rfl,hT p P,JX _⟩ rfl) (λj z=>AA (by simpa using I.ok.hd i) hS z) λout P R v D hD d N=>?_;refine⟨.ref D,cE H D (.lst (iZ out)),I.laid (t':=s.toks) (λb O e=>d b O e) hD ?_,rfl,q out P R _ (I.hok.fresh hD)⟩;obtain⟨n,e⟩:=N;refine⟨?_,bb out,n,mH out,e⟩;unfold iZ;rw[U1,P.length_eq];exact Ub l 1e2
def oJ(key:List Int->Int)(ks:List 0e5):List 0e5:=ks.mergeSort λa b=>decide (key a<=key b)
theorem iC:(oJ key ks).Perm ks:=List.mergeSort_perm ks _
theorem zx:(oJ key ks).Pairwise λa b=>key a<=key b:=by
 have:=List.pairwise_mergeSort (le:=λ(a b:List Int)=>decide (key a<=key b)) (λa b c H d=>by simp at *;omega) (λa b=>by simp;omega) ks;exact this.imp λh=>by simpa using h
theorem GS(G:nM dat key Ok){ks':List 0e5}(hs:∀k∈ks,Ok k)(d:ks'.Perm ks)(R:ks'.Pairwise λa b=>key a<=key b):ks'=oJ key ks:=
 (d.trans iC.symm).eq_of_pairwise (λa b n B H c=>G.inj a b (hs a (d.mem_iff.mp n)) (hs b (iC.mem_iff.mp B)) (XR H c)) R zx
theorem ug{K:W.Frag}{H:Hp}{α:List Addr}{mk:List Int->D}(i:∀k,∃xs,mk k=.tup xs):∀{ks:List 0e5}{vs:List V},Reps K H α (ks.map mk) vs->∃qs:List KP,qs.map 3e0=ks/\vs=iZ qs/\∀q∈qs,aW K H α (mk q.1) (.ref q.2)
 |[],vs,h=>by dsimp[Vh,Reps]at h;exact⟨[],rfl,h,λp d=>by simp at d⟩
 |k::ks,vs,h=>by
  dsimp[Vi,Reps]at h;obtain⟨v,r,rfl,c,f⟩:=h;obtain⟨xs,e⟩:=i k;have b:=c;rw[e]at b;obtain⟨a,u,rfl,g,j⟩:=aQ.mp b;obtain⟨qs,E,B,U⟩:=ug i f;refine⟨(k,a)::qs,by rw[Vi,E],by rw[B];rfl,λp d=>?_⟩;rcases Uh.mp d with z|z
  ·subst z;exact c
  ·exact U p z
theorem pD{K:W.Frag}{H:Hp}{α:List Addr}{mk:List Int->D}:∀{qs:List KP},(∀q∈qs,aW K H α (mk q.1) (.ref q.2))->Reps K H α ((qs.map 3e0).map mk) (iZ qs)
 |[],_=>Reps.nil
 |q::qs,h=>Reps.cons (h q Ue) (pD λp d=>h p (Ug _ d))
theorem F5{mk:List Int->D}{Q:VK}(G:nM dat key Ok)(m:∀k,∃xs,mk k=.tup xs)(e:∀k,Ok k->uQ Z (mk k)=some (dat k))(L:∀k∈ks,Ok k)(S:p.S H α Z)(x:Z[n]?=some (.lst (ks.map mk)))(r:p.Rs H α [.obj n] vs)(N:ks.Nodup)(i:ks.length<64)(P:aM p H α (.ok 1e4 (Z++[.lst ((oJ key ks).map mk)])) (RV p Q)):xk p.K dat key Ok vs H Q:=by
 obtain⟨v,rfl,j⟩:=r.one;obtain⟨a,y,rfl,A,c,o⟩:=cK S j x;obtain⟨s,d,B,U⟩:=ug m o;subst B;have ok:∀q∈s,Ok q.1:=λq z=>L _ (by rw[<- d];exact Wj z);refine⟨a,s,rfl,fK.of c,λq z=>⟨ok q z,iz (e _ (ok q z)) (U q z)⟩,by rw[d];exact N,by rw[<- U1 (f:=3e0),d];exact i,λout b R l i=>?_⟩;have O:p.Rs H α ((out.map 3e0).map mk) (iZ out):=pD λq z=>U q (b.mem_iff.mp z);have g:(out.map 3e0).Perm ks:=by rw[<- d];exact b.map _
 rw[GS G L g (XQ.mpr (R.imp λh=>Int.le_of_lt h))]at O;obtain⟨t,u,w⟩:=du S i O;exact P _ _ t u _ w
end
noncomputable def R0(ns:List Int):Bool:=!ns.isEmpty&&(decide (ns.length<=6)&&ns.all λx=>decide (0<=x)&&decide (x<6))
theorem CL:R0 ns=true↔Sm ns:=by
 unfold R0 Sm E2;rw[Vf,Vf,Xy,WI];constructor
 ·rintro ⟨H, c, d⟩
  refine⟨λe=>by subst e;simp at H,c,λx h=>by simpa using d x h⟩
 ·rintro ⟨H, c, d⟩
  refine⟨?_,c,λx h=>by simpa using d x h⟩;cases ns with
  |nil=>exact absurd rfl H
  |cons=>rfl
def vF:D->Option 0e5
 |.tup S=>match jr S with
  |some j=>if R0 j=true then some j else none
  |none=>none
 |_=>none
def nI:List D->Option (List 0e5)
 |[]=>some []
 |x::S=>match vF x with
  |some k=>match nI S with
   |some s=>some (k::s)
   |none=>none
  |none=>none
theorem Gw{x:D}(h:vF x=some k):x=aw k/\Sm k:=by
 unfold vF at h;split at h
 ·split at h
  ·rename_i s j e;split at h
   ·rename_i S;cases h;exact⟨by rw[eE e];rfl,CL.mp S⟩
   ·cases h
  ·cases h
 ·cases h
theorem zi:∀{xs:List D}{ks:List 0e5},nI xs=some ks->xs=ks.map aw/\∀k∈ks,Sm k
 |[],ks,h=>by cases h;exact⟨rfl,by simp⟩
 |x::xs,ks,h=>by
  unfold nI at h;cases e:vF x with
  |none=>rw[e]at h;cases h
  |some k=>
   rw[e]at h;cases B:nI xs with
   |none=>rw[B]at h;cases h
   |some r=>
    rw[B]at h;cases h;obtain⟨a,b⟩:=Gw e;obtain⟨c,d⟩:=zi B;exact⟨by rw[a,c];rfl,λz μ=>(Uh.mp μ).elim (λy=>by rw[y];exact b) (d z)⟩
abbrev yX(ks:List 0e5):List 0e5:=oJ Dx ks
theorem tZ:(yX ks).Perm ks:=iC
theorem mB{Z:aC}:∀k:List Int,toPs Z (k.map D.int)=some (k.map .int)
 |[]=>rfl
 |x::r=>by dsimp[Vi,toPs,uQ,mB r,VL,Option.map_some]
def AQ:List Int->List D
 |a::b::r=>.tup [.int a,.int b]::AQ r
 |_=>[]
def IA(m:Int)(k:List Int):D:=.tup [.int m,.tup (AQ k)]
theorem CT{Z:aC}:∀k:List Int,toPs Z (AQ k)=some (cc k)
 |[]=>rfl
 |[_]=>rfl
 |a::b::r=>by dsimp[AQ,cc,toPs,uQ,CT r,VL,Option.map_some]
theorem MQ{m:Int}:uQ Z (IA m k)=some (sr m k):=by
 dsimp[IA,sr,uQ,toPs,CT,VL,Option.map_some]
noncomputable def qK:List D->Option 0e5
 |[]=>some []
 |.tup [.int a,.int b]::r=>if 0<=a/\a<6/\0<=b/\b<6 then (qK r).map λl=>a::b::l else none
 |_=>none
noncomputable def AK(m:Int):D->Option 0e5
 |.tup [.int y,.tup S]=>if y=m then (match qK S with
  |some k=>if k.length<=30 then some k else none
  |none=>none) else none
 |_=>none
def sD(m:Int):List D->Option (List 0e5)
 |[]=>some []
 |x::S=>match AK m x with
  |some k=>match sD m S with
   |some s=>some (k::s)
   |none=>none
  |none=>none
theorem Lh:∀{ts:List D}{k:List Int},qK ts=some k->ts=AQ k/\nJ k=true/\E2 k:=by
 intro ts
 induction ts with
 |nil=>intro k h;cases h;exact⟨rfl,rfl,by intro x H;cases H⟩
 |cons x r I=>
  intro k h;unfold qK at h;split at h
  ·rename_i d;cases d
  ·rename_i a b R d;cases d;split at h
   ·rename_i i;cases e:qK r with
    |none=>rw[e]at h;cases h
    |some l=>
     rw[e]at h;cases h;obtain⟨c,f,g⟩:=I e;refine⟨by rw[c];rfl,f,λx H=>?_⟩;rcases Uh.mp H with z|z
     ·rw[z];exact⟨i.1,i.2.1⟩
     ·rcases Uh.mp z with z | z
      ·rw[z];exact⟨i.2.2.1,i.2.2.2⟩
      ·exact g x z
   ·cases h
  ·cases h
theorem Cr{m:Int}{x:D}(h:AK m x=some k):x=IA m k/\Qg k:=by
 unfold AK at h;split at h
 ·split at h
  ·rename_i M;subst M;split at h
   ·rename_i a K;split at h
    ·rename_i i;cases h;obtain⟨H,c,d⟩:=Lh K;exact⟨by rw[H];rfl,c,i,d⟩
    ·cases h
   ·cases h
  ·cases h
 ·cases h
theorem Gu{m:Int}:∀{xs:List D}{ks:List 0e5},sD m xs=some ks->xs=ks.map (IA m)/\∀k∈ks,Qg k:=by
 intro xs
 induction xs with
 |nil=>intro ks h;cases h;exact⟨rfl,by simp⟩
 |cons x xs i=>
  intro ks h;unfold sD at h;cases e:AK m x with
  |none=>rw[e]at h;cases h
  |some k=>
   rw[e]at h;cases B:sD m xs with
   |none=>rw[B]at h;cases h
   |some r=>
    rw[B]at h;cases h;obtain⟨a,b⟩:=Cr e;obtain⟨c,d⟩:=i B;exact⟨by rw[a,c];rfl,λz μ=>(Uh.mp μ).elim (λy=>by rw[y];exact b) (d z)⟩
def Cf:List D->Int
 |.tup (.int m::_)::_=>m
 |_=>0
noncomputable def cf(ds:List D)(Z:aC):ah D:=match ds with
 |[.obj n]=>match Z[n]? with
  |some 12e4=>match nI S with
   |some k=>if k.Nodup/\k.length<64 then .ok 1e4 (Z++[.lst ((yX k).map aw)]) else .bad
   |none=>match sD (Cf S) S with
    |some k=>if k.Nodup/\k.length<64 then .ok 1e4 (Z++[.lst ((oJ so k).map (IA (Cf S)))]) else .bad
    |none=>kl [.obj n] Z
  |_=>kl [.obj n] Z
 |ds=>kl ds Z
theorem BG:yG p cf (λxs H Q=>(xk p.K w9 Dx Sm xs H Q\/∃m,xk p.K (sr m) so Qg xs H Q)\/((A6 p.K xs H Q\/A5 p.K p.w xs H Q)\/A4 p.w xs H Q)):=by
 intro b v H c a Q S r P;unfold cf at P;split at P
 ·rename_i n;split at P
  ·rename_i xs d;split at P
   ·rename_i s h;split at P
    ·rename_i i;obtain⟨y,V⟩:=zi h;rw[y]at d;exact .inl (.inl (F5 (mk:=aw) vS (λk=>⟨_,rfl⟩) (λk _=>by show uQ a (.tup (k.map D.int))=_;dsimp[uQ,mB,Option.map_some];rfl) V S d r i.1 i.2 P))
    ·exact P.elim
   ·split at P
    ·rename_i s h;split at P
     ·rename_i i;obtain⟨y,V⟩:=Gu h;generalize Cf xs=m at P y;rw[y]at d;exact .inl (.inr ⟨m,F5 (mk:=IA m) (qe m) (λk=>⟨_,rfl⟩) (λk _=>MQ) V S d r i.1 i.2 P⟩)
     ·exact P.elim
    ·exact .inr (qj _ _ _ _ _ _ S r P)
  ·exact .inr (qj _ _ _ _ _ _ S r P)
 ·exact .inr (qj _ _ _ _ _ _ S r P)
theorem cY.ex{X:Cx}{f:Value}{r:Int->List V->Hp->VK->Prop}(h:∀m,cY X f (r m)):cY X f (λxs H Q=>∃m,r m xs H Q):=λp s a H xs U Q I R ⟨m,q⟩=>h m p s a H xs U Q I R q
theorem lb{X:Cx}(U:X.A.units+64<cLine)(i:autoParam 10e2 ATr)(hK:autoParam 9e0 ATr)(W:autoParam (X.w=p.w) ATr):sC X p "sorted" cf:=⟨_,_,.inl ⟨_,rfl⟩,by decide +kernel,((ud vS U).or (cY.ex λm=>ud (qe m) U)).or ((B0.or (BZ i U)).or (BY i)),by rw[hK,W];exact BG,by decide,by decide⟩
def TF:V->List V->Hp->VK->Prop:=λx y H Q=>∃i:Int,x=.int i/\y=[]/\Q (.int ((Builtin.Int.intBits i:Nat):Int)) H
theorem Rt {X:Cx}:PY X "int.bit_length" TF:=by
 intro P s a H x y v U Q I r R h;obtain⟨i,rfl,rfl,hQ⟩:=h;obtain⟨t,rfl⟩:=r;cases R;refine Vt F.slot_int_bit_length (typeIs_int s i t) F.entry_int_bit_length (F.args_int_bit_length_1 _) (AutoIntG2.int_bit_length_int_0 i t).meets ?_;exact⟨.int ((Builtin.Int.intBits i:Nat):Int),H,I.tok _,⟨s.toks,rfl⟩,hQ⟩
def Mp(d:D)(Z:aC):ah D:=match d with
 |.int i=>.ok (.int ((Builtin.Int.intBits i:Nat):Int)) Z
 |_=>.bad
section
variable{X:Cx}{fo:ME}
theorem Qi (G:Bx (PE X ob (tD p fo))) (hbase:autoParam (attributeBase ob "bit_length" X.env (eval ob 1e9)=eval ob 1e9) ATr) (hline:autoParam 13e9 ATr) (hK:autoParam 9e0 ATr):Bx (PE X (.Call (.Attribute ob "bit_length" apos) [] [] pos) (tD p (vA Mp fo))):=Bx.mk (by
 refine(Og PySem.F.plainAttrs_int PySem.F.slot_int_bit_length PySem.F.type_int_bit_length Rt G.h hbase hline).weak λl H Q ⟨b,j,f,S,R,P⟩=>⟨b,j,f,S,R,(aM.bind P).imp λd g k c m e a v r=>?_⟩;cases d with
 |int i=>
  obtain rfl:=ay.mp r;exact⟨rfl,i,rfl,rfl,aM.now a e _ 11e6⟩
 |_=>exact a.elim)
end
abbrev dO(a:Addr)(xs:XD)(ep:Nat):HO:=.ext λh=>DctAt h a xs ep
noncomputable def Sx(a:Addr)(n ep:Nat):It:=
 ⟨λi H=>(∃S,H a=some (dO a S ep)/\S.length=n)/\i<n,λi H x b=>b=H/\∀S,H a=some (dO a S ep)->∃e,S[i]?=some e/\x=.ref e.2.1,λi H=>(∃S,H a=some (dO a S ep)/\S.length=n)/\n<=i⟩
theorem Lr{xs ys:XD}{e:List Int×Addr×Value}(x:DctAt h a xs ep)(y:DctAt h a ys ep)(E:xs[i]?=some e):∃e',ys[i]?=some e'/\e'.2.1=e.2.1:=by
 obtain⟨o,S,H,_,d,b,_⟩:=x;obtain⟨O,j,G,_,C,g,_⟩:=y;rw[H]at G;cases G;rw[d]at C;injection C with C _
 subst C;rw[b]at g;have q:=Uu (λl=>l[i]?) g;dsimp[UX,E,Option.map_some]at q;cases σ:ys[i]? with
 |none=>rw[σ]at q;cases q
 |some e'=>
  rw[σ]at q;dsimp[Option.map_some,WC]at q;have:=Uu DictEntry.key q;dsimp[Mw,Value.ref.injEq]at this;exact⟨e',rfl,this.symm⟩
theorem Gv(a it:Addr)(n ep:Nat):AX P w K tg (Sx a n ep) [it] it (λi h=>h.IsKeyIter it a i n ep) where
 mem:=by simp
 obj:=λi h t b B=>by
  have e:b=it:=by simpa using B
  subst e;obtain⟨o,e,c,d⟩:=t;exact⟨o,e,λv z=>by rw[d]at z;cases z⟩
 keep:=λi h l t k=>t.at λo e=>k it 0e9 o e
 item:=by
  intro X hP u hK C i p s A H E I F t σ;subst hP u hK;obtain⟨⟨S,x,r⟩,q⟩:=σ;subst r;obtain⟨hD,_,_⟩:=(show eP 13e0 X.w H 3e3 a (dO a S ep) from I.hok a _ x);obtain⟨m,y,V,G,J,L⟩:=F it 0e9;have g:S[i]?=some S[i]:=W6 q;refine HA (prog:=13e0) (w:=X.w) t hD g λl j μ=>?_;have M:bf X p A H {s with heap:=l}:=I.turned (t':=s.toks) (λb o B e=>(μ.2 b B).trans e) m y G J L;obtain⟨o,e,c,d⟩:=id j;refine⟨_,rfl,Cg (s:={s with heap:=l}) e c d 1e2 ⟨.ref S[i].2.1,H,M,rfl,⟨rfl,λD U=>?_⟩,j,λb B=>(F b B).1⟩⟩;obtain⟨hY,_,_⟩:=(show eP 13e0 X.w H 3e3 a (dO a D ep) from I.hok a _ U);obtain⟨N,Q,T⟩:=Lr hD hY g;exact⟨N,Q,by rw[T]⟩
 done:=by
  intro X hP u hK C i p s A H E I F t σ;subst hP u hK;obtain⟨⟨S,x,r⟩,q⟩:=σ;subst r;obtain⟨hD,_,_⟩:=(show eP 13e0 X.w H 3e3 a (dO a S ep) from I.hok a _ x);obtain⟨m,y,V,G,J,L⟩:=F it 0e9;exact Lo (prog:=13e0) (w:=X.w) (I.ok.hd C) t hD q λl O=>⟨rfl,I.turned (t':=s.toks) (λb o B e=>O b o B e) m y G J L⟩
 self:=λ_ _ _ _ _ t h=>wpAny_pyIter_keyiter t h
def SY(t:TE):TI:=λc H R=>t c H λx b=>∃a S z,x=.ref a/\(a == sysModules)=false/\b a=some (dO a S z)/\R (Sx a S.length z) b
theorem N7{X:Cx}{l:Expr}{tl:TE}(i:PE X l tl):PI X tg l (SY tl):=by
 intro p s g H R I h;refine dX (i p s g H _ I h) λv S ⟨x,c,d,r,Q⟩=>?_;obtain⟨a,f,z,e,D,hH,q⟩:=Q;subst e;cases r;obtain⟨hD,_,_⟩:=(show eP 13e0 X.w c S.heap a (dO a f z) from d.hok a _ hH);refine HN (prog:=13e0) (w:=X.w) D hD ?_;refine⟨6e5,[6e5],_,_,c,rfl,d.kept (t':=S.toks) λb o e=>UF _ e,Gv a _ _ _,⟨_,T4 _ rfl,rfl,rfl⟩,λb B=>?_,q⟩;have e:b=S.heap.objs.size:=by simpa using B
 subst e;exact d.fpOk 6e3 (d.hok.fresh 6e3)
section
variable{X:Cx}{xs:XD}
theorem Bc(I:bf X pins Y H s)(e:H a=some (dO a xs ep)):DctAt 3e3 a xs ep:=by
 obtain⟨h,_,_⟩:=(show eP 13e0 X.w H 3e3 a (dO a xs ep) from I.hok a _ e);exact h
theorem Dg(d:DctAt h a xs ep):∃o,h.get? a=some o:=let ⟨o,_,e,_⟩:=d;⟨o,e⟩
def QX:TE:=λY H Q=>∀q,H q=none->(q == sysModules)=false->Q (.ref q) (cE H q (dO q [] 0))
theorem Kd:PE X (.Dict [] [] pos) QX:=λpins s Y H Q I h=>by
 have B:sysModules<s.heap.objs.size:=Nat.lt_trans 1e2 (I.mod.glob.keeps I.bk).lt;refine wpAny_Dict_empty ⟨.ref 0e4,_,I.laid (a:=0e4) (o:=dO 0e4 [] 0) (t':=s.toks) (λ_ _ q=>UF _ q) 6e3 ?_,rfl,h _ (I.hok.fresh 6e3) (TZ.mpr (Ui (T8 B)))⟩;exact⟨DctAt.new 3e3,⟨_,T4 _ rfl⟩,λb c x k=>x.keeps k⟩
def MF:ME:=λ_ Z=>.ok 1e4 (Z++[.dct [] 0])
theorem QI:Bx (PE X (.Dict [] [] pos) (tD p MF)):=⟨Kd.weak λY H Q ⟨α,e,Z,S,R,P⟩ q z h=>by
 have B:p.X H (cE H q (dO q [] 0)) α (α++[q]):=(cx z).trans (kZ [q])
 exact P _ _ B (S.more z ⟨h,[],cA,.nil,λx d=>by cases d⟩) _ (aU.mpr ⟨q,rfl,by rw[<- S.len];simp⟩)⟩
def Qt(K:W.Frag):R2:=λx y H Q=>∃a xs ep b k c r,x=.ref a/\y=.ref b/\H a=some (dO a xs ep)/\gz K H b (k.map V.int)/\(∀e∈xs,gz K H e.2.1 (e.1.map V.int))/\atKey xs k=some (c,Value.ref r)/\Q (.ref r) H
theorem O6(U:X.A.units+64<cLine):Iw X (Qt X.K):=by
 intro value slice pins s Y H x y v u Q I R g h S;obtain⟨a,xs,ep,b,k,c,r,rfl,rfl,hH,B,f,σ,q⟩:=h;cases R;cases g;have hD:=Bc I hH;have d:s.heap.DictOfH (TK 13e0 X.w) a xs:=hD.all λe j=>qE I (f e j);exact Vj (x:=.ref r) hD.typeIs F.slot_dict_getitem.lookup (wpAny_getItem_heap (Q:=λz i=>z=.ref r/\EP X pins Y Q z i) (tupleKind_room_in1 0e1) (qE I B) d σ ⟨rfl,.ref r,H,I.tok _,rfl,q⟩) S
noncomputable def IE(kvs:List 14e4)(k:List Int):Option Nat:=(kvs.find? λx=>decide (x.1=k)).map 7e4
theorem yI.at(r:yI α kvs xs):match IE kvs k with
  |some m=>∃c b,atKey xs k=some (c,Value.ref b)/\α[m]?=some b
  |none=>atKey xs k=none:=by
 induction r with
 |nil=>rfl
 |cons h _ i=>
  rename_i q x l1 l2 _;obtain⟨d,b,f,g⟩:=h;unfold IE atKey at i⊢;rw[Wx,Wx,<- d];by_cases e:q.1=k
  ·dsimp[VA e,Option.map_some];refine⟨x.2.1,b,?_,f⟩;rw[<- g]
  ·dsimp[TY e];exact i
noncomputable def yP(a b:D)(Z:aC):ah D:=match a,b with
 |.obj n,.tup K=>match Z[n]?,jr K with
  |some (.dct d _),some k=>match IE d k with
   |some m=>.ok (.obj m) Z
   |none=>.bad
  |_,_=>.bad
 |_,_=>.bad
theorem OJ:sg p yP (Qt p.K):=by
 intro a b v y H α Z Q S R l P;unfold yP at P;split at P
 ·rename_i n u;split at P
  ·rename_i j ep k x i;obtain⟨D,rfl,f⟩:=aU.mp R;obtain⟨B,V,rfl,h,e⟩:=aQ.mp l;rw[eE i]at e;rw[e.ints]at h;obtain⟨o,d,q,xs,hH,r,t⟩:=S.at x;rw[f]at d;cases d;have g:=r.at (k:=k);split at P
   ·rename_i m M;rw[M]at g;obtain⟨c,b,G,A⟩:=g;exact⟨D,xs,ep,B,k,c,b,rfl,rfl,hH,h,t,G,P.now S _ (aU.mpr ⟨b,rfl,A⟩)⟩
   ·exact P.elim
  ·exact P.elim
 ·exact P.elim
theorem LM{a b:Expr}{fb:ME}(U:X.A.units+64<cLine)(q:Bx 4e2)(B:Bx 6e1)(hs:sd b:=by exact λ_ _=>rfl)(hK:autoParam 9e0 ATr):Bx (PE X (.Subscript a b pos) (tD p (aF yP fa fb))):=
 ⟨(L4 (O6 U) q.h B.h hs).weak λY H Q ⟨α, f, Z, S, R, P⟩ => ⟨α, f, Z, S, R, (aM.bind P).imp λx c t i n k g v V => ⟨i, f, c, k, R.mono n, (aM.bind g).imp λy e l d o m j u r => by
   rw[hK];exact OJ x y v u l d e Q m (V.mono o) r j⟩⟩⟩
def Tg(K:W.Frag):V->List V->Hp->VK->Prop:=λx y H Q=>∃a xs ep k b z,x=.ref a/\y=[.ref b,.ref z]/\H a=some (dO a xs ep)/\(a == sysModules)=false/\gz K H b (k.map V.int)/\(∀e∈xs,gz K H e.2.1 (e.1.map V.int))/\xs.length<=1000 /\
 ((∃c r,atKey xs k=some (c,Value.ref r)/\Q (.ref r) H)\/(atKey xs k=none/\Q (.ref z) (cE H a (dO a (xs++[(k,b,Value.ref z)]) (ep+1)))))
theorem Rq (G:X.A.units+64<cLine):PY X "dict.setdefault" (Tg X.K):=by
 intro pins s Y H x L v J Q I l V h;obtain⟨a,xs,ep,k,b,z,rfl,rfl,hH,S,B,f,i,h⟩:=h;cases l;obtain⟨u,W,rfl,U,R⟩:=B8 V;cases U;cases R;have hD:=Bc I hH;refine yC (prog:=13e0) (w:=X.w) 0e1 (qE I B) hD (λe j=>qE I (f e j)) (Ub i 1e2) S (λq d t=>?_) λN y t hD' m=>?_
 ·rcases h with ⟨c, r, g, n⟩ | ⟨g, _⟩
  ·rw[g]at d;cases d;exact⟨.ref r,H,I.tok _,rfl,n⟩
  ·rw[g]at d;cases d
 ·rcases h with ⟨c, r, g, n⟩ | ⟨_, n⟩
  ·rw[g]at N;cases N
  ·exact⟨.ref z,_,I.write (x:=a) (e:=a) (o:=dO a (xs++[(k,b,Value.ref z)]) (ep+1)) (t':=t) (by rw[hH];trivial) 8e9 (λb o B e=>(m.2 b B).trans e) (Dg hD') ⟨hD',Dg hD',λC E x k=>x.keeps k⟩,rfl,n⟩
def TB(r:V->List V->Hp->VK->Prop)(d:TE)(t:TA):TE:=λY H Q=>d Y H λx b=>(∃a xs ep,x=.ref a/\b a=some (dO a xs ep))/\t Y b λy l=>r x y l Q
theorem Rh{o:Expr}{es:List Expr}{name:Str}{cpos:Pos}{id:String}{r:V->List V->Hp->VK->Prop}{td:TE}{t:TA}(slot:Slot "dict" name id)(y:typeOf 16e4=pure (.type "method_descriptor"))(i:PY X id r)(G:PE X o td)(A:PA X (e::es) t)(hbase:attributeBase o name 1e9 (eval o 1e9)=eval o 1e9)(W : ((backTo cpos (starEach (e :: es) 1e9)).all (λx => !x.1) && (backToKw cpos 16e9).all (λx => x.1.isSome)
   && decide 8e7)=true)(hline:(apos.endLine == cpos.line)=true)(hs:starEach (e::es) 1e9=(false,eval e 1e9)::starEach es 1e9)(hplain:(backTo cpos 7e1).any 3e0=false):
  PE X (.Call (.Attribute o name apos) (e::es) [] cpos) (TB r td t):=by
 intro pins s Y H Q I h;refine wpAny_Call_method_late hbase W hline rfl (dX (G pins s Y H _ I h) λv S ⟨x,c,d,R,ty,q⟩=>?_);obtain⟨a,xs,ep,rfl,hH⟩:=ty;cases R;have hD:=Bc d hH;refine⟨"dict",id,PySem.F.plainAttrs_dict,slot,y,hD.typeIs,λb f=>?_,?_⟩
 ·cases f;obtain⟨O,j,E,B,_⟩:=hD;exact⟨O,E,B.2.1⟩
 ·have hA:=A cpos pins S Y c _ d q;rw[hs]at hA⊢;refine Vn (by show (false || (backTo cpos 7e1).any 3e0)=false;rw[hplain] <;> rfl) (Calls.evalArgs_plain ?_);exact dX hA λU N ⟨g,l,n,M,J⟩=>i pins N Y l 15e7 g 15e7 U Q n rfl M J
theorem z3{q:Addr}{o:HO}(h:H q=some (.ext φ)):ma p.K H (cE H q o) α α:=by
 refine⟨λa xs z=>?_,λa xs z=>?_,λ_ _ z=>z,λa fs z=>by rw[bG (lV z h (by intro y;cases y))];exact z⟩
 ·rcases z with (z | ⟨x, z⟩) | z
  ·exact .inl (.inl (by rw[bG (lV z h (by intro y;cases y))];exact z))
  ·exact .inl (.inr ⟨x,by rw[bG (lV z h (by intro y;cases y))];exact z⟩)
  ·exact .inr z
 ·rcases z with ⟨x, z⟩ | z
  ·exact .inl ⟨x,by rw[bG (lV z h (by intro y;cases y))];exact z⟩
  ·exact .inr z
theorem EM{o o':O}{ho:HO}(S:p.S H α Z)(h:Z[n]?=some o)(c:α[n]?=some a)(f:H a=some (.ext φ))(q:sx p.K p.w (cE H a ho) α o' a):p.S (cE H a ho) α (Z.set n o'):=by
 have e:=z3 (p:=p) (α:=α) (o:=ho) f;refine⟨by simp[S.len],S.nd,λm o b G A=>?_⟩;have N:n<Z.length:=(Ul.mp h).1;by_cases i:m=n
 ·subst i;rw[Uo N]at G;cases G;rw[c]at A;cases A;exact q
 ·rw[Uq (λz=>i z.symm)]at G;refine(S.ob m o b G A).mono e (bG λz=>i ?_);subst z;obtain⟨l1,d⟩:=Ul.mp A;obtain⟨l2,B⟩:=Ul.mp c;exact(Um S.nd).mp (d.trans B.symm)
theorem yI.length(r:yI α kvs xs):xs.length=kvs.length:=by
 induction r with
 |nil=>rfl
 |cons _ _ i=>simp[i]
theorem yI.snoc{b z:Addr}(r:yI α kvs xs)(h:α[m]?=some z):yI α (kvs++[(k,m)]) (xs++[(k,b,Value.ref z)]):=by
 induction r with
 |nil=>exact .cons ⟨rfl,z,h,rfl⟩ .nil
 |cons c _ i=>exact .cons c i
noncomputable def LK(d:D)(ds:List D)(Z:aC):ah D:=match d,ds with
 |.obj n,[.tup S,.obj m]=>match Z[n]?,jr S with
  |some (.dct K ep),some k=>if K.length<=1000 then (match IE K k with
   |some j=>.ok (.obj j) Z
   |none=>.ok (.obj m) (Z.set n (.dct (K++[(k,m)]) (ep+1)))) else .bad
  |_,_=>.bad
 |_,_=>.bad
def P9(d:D)(Z:aC):Bool:=match d with
 |.obj n=>match Z[n]? with
  |some (.dct _ _)=>true
  |_=>false
 |_=>false
def IP(f:D->List D->aC->ah D)(fo:ME)(L:MA):ME:=λb Z=>(fo b Z).bind λo d=>if P9 o d=true then (L b d).bind λS e=>f o S e else .bad
theorem OP:Qh p LK (Tg p.K):=by
 intro d T v V H α Z Q S C I P;unfold LK at P;split at P
 ·rename_i n U m;split at P
  ·rename_i y ep k q w;split at P
   ·rename_i L;obtain⟨D,rfl,A⟩:=aU.mp C;obtain⟨O,F,rfl,R,M⟩:=I.two;obtain⟨B,σ,rfl,f,l⟩:=aQ.mp R;obtain⟨z,rfl,μ⟩:=aU.mp M;rw[eE w]at l;rw[l.ints]at f;obtain⟨N,E,i,xs,hH,r,t⟩:=S.at q;rw[A]at E;cases E;have g:=r.at (k:=k);split at P
    ·rename_i j J;rw[J]at g;obtain⟨c,b,G,u⟩:=g;exact⟨D,xs,ep,k,B,z,rfl,rfl,hH,i,f,t,by rw[11e9];exact L,.inl ⟨c,b,G,P.now S _ (aU.mpr ⟨b,rfl,u⟩)⟩⟩
    ·rename_i J;rw[J]at g;have e:=z3 (p:=p) (α:=α) (o:=dO D (xs++[(k,B,Value.ref z)]) (ep+1)) hH;refine⟨D,xs,ep,k,B,z,rfl,rfl,hH,i,f,t,by rw[11e9];exact L,.inr ⟨g,P _ _ e (EM S q A hH ⟨i,_,cA,r.snoc μ,λx h=>?_⟩) _ (aU.mpr ⟨z,rfl,μ⟩)⟩⟩;rcases Uj.mp h with h|h
     ·exact e.tup _ _ (t x h)
     ·rw[VR.mp h];exact e.tup _ _ f
   ·exact P.elim
  ·exact P.elim
 ·exact P.elim
theorem SE{o f:Expr}{fo:ME}(U:X.A.units+64<cLine)(G:Bx (PE X o (tD p fo)))(g:Bx (PA X [e,f] 16e1))(hbase:autoParam (attributeBase o "setdefault" X.env (eval o 1e9)=eval o 1e9) ATr)(W :autoParam (((backTo pos (starEach [e, f] 1e9)).all (λx => !x.1) && (backToKw pos 16e9).all (λx => x.1.isSome)
   && decide ([e,f].length+([]:List Keyword).length+(if ([]:List Keyword).isEmpty then 0 else 1)<30))=true) ATr)(hline:autoParam 13e9 ATr)(hs:autoParam (starEach [e,f] 1e9=(false,eval e 1e9)::starEach [f] 1e9) ATr)(L:autoParam ((backTo pos (starEach [f] 1e9)).any 3e0=false) ATr)(hK:autoParam 9e0 ATr):
  Bx (PE X (.Call (.Attribute o "setdefault" apos) [e,f] [] pos) (tD p (IP LK fo fr))):=
 ⟨(Rh Xk PySem.F.type_dict_setdefault (Rq U) G.h g.h hbase W hline hs L).weak λY H Q ⟨α, q, Z, S, R, P⟩ => ⟨α, q, Z, S, R, (aM.bind P).imp λd b M j y m c v r => by
   by_cases i:P9 d b=true
   ·rw [T1 i] at c;refine⟨?_,j,q,b,m,R.mono y,(aM.bind c).imp λB l t k z w u V J=>by rw[hK];exact OP d B v V t k l Q w (r.mono z) J u⟩;unfold P9 at i;split at i
    ·rename_i n;split at i
     ·rename_i I ep C;obtain⟨D,rfl,g⟩:=aU.mp r;obtain⟨N,E,T,xs,hH,_⟩:=m.at C;rw[g]at E;cases E;exact⟨D,xs,ep,rfl,hH⟩
     ·cases i
    ·cases i
   ·rw[T3 i]at c;exact c.elim⟩⟩
def Fo(d:D)(Z:aC):ah n3:=match d with
 |.obj n=>match Z[n]? with
  |some (.dct k ep)=>.ok (.dks n k ep) Z
  |_=>.bad
 |_=>.bad
def R1(f:ME):MI:=λe Z=>(f e Z).bind Fo
theorem yI.get{q:List Int×Nat}(r:yI α kvs xs)(h:kvs[i]?=some q):∃x,xs[i]?=some x/\x.1=q.1:=by
 induction r generalizing i with
 |nil=>cases h
 |cons b _ I=>
  cases i with
  |zero=>cases h;exact⟨_,rfl,b.1.symm⟩
  |succ i=>exact I h
theorem HM(S:p.S H α Z)(N:Z[n]?=some (.dct kvs ep))(A:α[n]?=some a)(L:xs.length=kvs.length):yU p (Sx a 4e8 ep) (.dks n kvs ep) H α:=by
 intro u m o c f G;obtain⟨w,E,y,σ,hH,r,t⟩:=f.at G;rw[c.pre n a A]at E;cases E;have B:=11e9;refine⟨λi d j=>?_,⟨σ,hH,by omega⟩,by show xs.length<=(kvs.map _).length;rw[U1];omega⟩;have h:(kvs.map λp=>D.tup (p.1.map D.int))[i]?=some d:=j;rw[UX]at h;cases k:kvs[i]? with
 |none=>rw[k]at h;cases h
 |some q=>
  rw[k]at h;dsimp[Option.map_some,WC]at h;subst h;have I:i<kvs.length:=(Ul.mp k).1;refine⟨⟨⟨σ,hH,by omega⟩,by omega⟩,λx v ⟨e,l⟩=>?_⟩;subst e;obtain⟨z,μ,rfl⟩:=l σ hH;obtain⟨C,b,g⟩:=r.get k;rw[μ]at b;cases b;exact⟨ma.refl,f,aQ.mpr ⟨z.2.1,_,rfl,t z (UZ μ),by rw[g];exact ja _⟩⟩
theorem RA{l:Expr}{f:ME}(i:Bx (PE X l (tD p f))):Bx (PI X tg l (qD p (R1 f))):=⟨(N7 i.h).weak λY H R ⟨α,m,Z,S,Rr,P⟩=>by
 refine⟨α,m,Z,S,Rr,(aM.bind P).imp λd j o g q e b v V=>?_⟩;unfold Fo at b;split at b
 ·rename_i n;split at b
  ·rename_i k ep x;obtain⟨D,rfl,A⟩:=aU.mp V;obtain⟨u,E,c,xs,hH,r,t⟩:=e.at x;rw[A]at E;cases E;exact⟨D,xs,ep,rfl,c,hH,b.now e _ x (HM e x A 11e9)⟩
  ·exact b.elim
 ·exact b.elim⟩
end
end L2
namespace Lw
open PySem L2
section
structure Nm(mg:Str->Option Value):Prop where
 all:mg "all" = none
 any:mg "any" = none
 bool:mg "bool" = none
 enumerate:mg "enumerate" = none
 int:mg "int" = none
 isinstance:mg "isinstance" = none
 len:mg "len" = none
 list:mg "list" = none
 max:mg "max" = none
 min:mg "min" = none
 range:mg "range" = none
 set:mg "set" = none
 sorted:mg "sorted" = none
 tuple:mg "tuple" = none
theorem Aj:aN ["thing"] ["thing"] (ar kz):=0e0
def lP:MS:=bJ (i1 (vA (jN "int") 3e1) (Co (vA (jN "bool") 3e1)))
def d9:List D->aC->ah D:=fq 1 1 lP
theorem qx:aN ["thing", "least", "most"] ["thing", "least", "most"] (ar fA):=0e0
def gq:MS:=bJ (i1 (ax d9 2e0) (kG (d0 .LtE) (d0 .LtE) 5e4 3e1 10e7))
def br:List D->aC->ah D:=fq 3 3 gq
theorem Ak:aN ["many", "thing"] ["many", "thing"] (ar kA):=0e0
def oA:MS:=bJ (ax br (ak 5e4 (ak 2e5 (ak (aF ke 3e1 2e6) (aB)))))
def eb:List D->aC->ah D:=fq 2 2 oA
theorem yf:aN ["many", "thing"] ["many", "thing"] (ar gW):=0e0
theorem uM:(["place", "many"]:List Str).Nodup:=by decide +kernel
def iW:ME:=ax eb (ak 5e4 2e0)
def mS:MS:=bJ (i1 (vA (jN "tuple") 5e4) (ax nt (ak (bT (cw 5e4) [none,some 0] 9e1 (a9) (iW)) (aB))))
def cV:List D->aC->ah D:=fq 2 2 mS
theorem ye:aN ["things"] ["things"] (ar gU):=0e0
theorem uL:(["at", "things"]:List Str).Nodup:=by decide +kernel
def f7:ME:=aF (d0 .Lt) (aF cM 5e4 (aF ke 3e1 2e6)) (aF cM 5e4 3e1)
def mR:MS:=bJ (ax nt (ak (bT (iy AO (ak 2e6 (ak (ax ik 2e0) (aB)))) [none,some 0] 9e1 (a9) (f7)) (aB)))
def cU:List D->aC->ah D:=fq 1 1 mR
theorem nu:aN ["many", "thing"] ["many", "thing"] (ar dH):=0e0
def ka:MS:=bJ (i1 (ax cV 15e3) (i1 (aF (d0 .Gt) (ax ik 2e1) 2e5) (ax cU 2e1)))
def bY:List D->aC->ah D:=fq 2 2 ka
theorem nO:aN ["web", "many"] ["web"] (ar iQ):=0e0
def pL:MS:=a8 (bC (ax ik (ak (aF cM 3e1 2e6) (aB))) (ai 1))
 (l8 (il (aF (d0 .Gt) 5e4 (cC (.int 12)))) (w4) (cz))
def cS:List D->aC->ah D:=fq 1 2 pL
theorem uy:aN ["roots"] ["roots"] (ar h7):=0e0
def nW:MS:=l8 (il (aF (d0 .Gt) (ax ik 2e0) (cC (.int 300)))) (w4) (cz)
def fX:List D->aC->ah D:=fq 1 1 nW
theorem eZ:aN ["web", "many", "ties", "steps", "at", "a", "b"] ["web"] (ar i6):=0e0
theorem vp:(["place"]:List Str).Nodup:=by decide +kernel
def pE:ME:=jf (aB)
def gZ:MS:=a8 (gC (AI dt (aF cM (ao 3) (ao 5)) (ak (fM (ak (ao 6) (ak (aF AV 2e6 (ao 4)) (aB)))) (aB))))
 (gC (AI dt (aF cM (ao 3) (ao 6)) (ak (fM (ak (ao 5) (ak (aF AV 2e6 (ao 4)) (aB)))) (aB))))
noncomputable def um:MS:=a8 (bC 3e1 (cu 2 (aR (ai 1) (aR (ai 2) (cv)))))
 (a8 (bC (bT (iy ly 2e1) [none] 9e1 (a9) (pE)) (ai 3))
 (a8 (kT (iy kW 4e9) (cu 2 (aR (ai 4) (aR (cu 2 (aR (ai 5) (aR (ai 6) (cv)))) (cv)))) gZ)
 (bJ (ao 3))))
def j0:List D->aC->ah D:=fq 1 7 um
theorem ck:aN ["web", "k", "found", "steps", "ways", "step", "way", "choice"] ["web", "k"] (ar dj):=0e0
theorem pO:(["place"]:List Str).Nodup:=by decide +kernel
theorem eQ:(["way", "choice", "b", "tie", "steps"]:List Str).Nodup:=by decide +kernel
def iJ:ME:=fM (ak (fM 2e0) (ak 2e5 (aB)))
def iI:ME:=fM (ak (aF eS 3e1 (fM 4e9)) (ak (aF Qd 5e4 (ao 3)) (aB)))
def iF:MT:=il (aF (pQ true) 10e7 3e1)
def dW:MB:=gN (cw (aF cM (ao 4) (aF cM 3e1 (vA yM 2e6)))) (cu 2 8e6) (iF) (jR (iI))
noncomputable def fD:MS:=l8 (il (aF (d0 .Lt) (aF cM (ao 6) 2e5) (aF cM (ao 6) (vA yM 2e6)))) (gC (AI dt (IP LK 10e7 (ak (fM (ak (aF cM (ao 6) 2e5) (ak (aF cM (ao 6) (vA yM 2e6)) (aB)))) (ak (jf (aB)) (aB)))) (ak (ao 7) (aB)))) (cz)
def iH:MS:=a8 (bC (eV (cw (ao 4)) [none,none,none,none,some 3] (cu 2 3e2) (a9) (dW)) (ai 4))
 (kT (cw (ao 4)) (cu 2 (aR (ai 6) (aR (ai 7) (cv)))) fD)
def m2:MS:=a8 (bC (MF) (ai 2))
 (a8 (bC (ax j0 2e0) (ai 3))
 (a8 (bC (bT (iy ly (ak 14e5 (aB))) [none] 9e1 (a9) (iJ)) (ai 4))
 (a8 (kT (iy ly 2e1) (ai 5) iH)
 (bJ 10e7))))
def fg:List D->aC->ah D:=fq 2 8 m2
theorem iR:aN ["ties", "ways", "clashes", "pair", "way"] ["ties", "ways"] (ar fR):=0e0
theorem rG:(["tie"]:List Str).Nodup:=by decide +kernel
def m1:ME:=jf (aB)
def ic:MS:=gC (AI dt (aF cM 10e7 (aF ke (vA Mp (ao 4)) 2e6)) 7e3)
def fe:MS:=l8 (il (aF (pQ true) (ao 3) 3e1)) (kT (cw (aF yP 5e4 (ao 3))) (ai 4) ic) (cz)
def pK:MS:=a8 (bC (bT (cw 3e1) [none] 9e1 (a9) (m1)) (ai 2))
 (a8 (kT (R1 5e4) (ai 3) fe)
 (bJ 10e7))
def hW:List D->aC->ah D:=fq 2 5 pK
theorem kH:aN ["makings", "settled", "ways"] ["makings"] (ar fQ):=0e0
theorem rF:(["ways"]:List Str).Nodup:=by decide +kernel
def mZ:ME:=jf (aB)
def e9:MS:=gC (AI dt (aF cM 5e4 (aF ke (vA Mp (ax n5 4e9)) 2e6)) 4e9)
def pG:MS:=a8 (bC (bT (cw 3e1) [none] 9e1 (a9) (mZ)) (ai 1))
 (a8 (kT (cw 3e1) (ai 2) e9)
 (bJ 5e4))
def g7:List D->aC->ah D:=fq 1 3 pG
theorem BC:aN ["choice", "ways"] ["choice", "ways"] (ar jX):=0e0
theorem yy:(["way", "choice"]:List Str).Nodup:=by decide +kernel
def mP:ME:=aF (kc false) (aF Dz 5e4 3e1) 3e1
def wO:MS:=bJ (ax yQ (ak (bT (cw 5e4) [none,some 0] 9e1 (a9) (mP)) (aB)))
def jL:List D->aC->ah D:=fq 2 2 wO
theorem bN:aN ["web", "k", "begun", "ties", "ways", "clashes", "settled", "choices", "at", "grown", "longer"] ["web", "k", "begun"] (ar cW):=0e0
theorem rM:(["tie", "ways"]:List Str).Nodup:=by decide +kernel
theorem rL:(["choice", "at"]:List Str).Nodup:=by decide +kernel
theorem rK:(["choice", "clashes", "at"]:List Str).Nodup:=by decide +kernel
theorem rJ:(["choice", "settled", "at"]:List Str).Nodup:=by decide +kernel
theorem rH:(["making", "choice"]:List Str).Nodup:=by decide +kernel
def ig:ME:=aF yP 5e4 3e1
def ie:ME:=aF Qd 3e1 (aF AV 2e6 5e4)
def j8:ME:=ao 0
def ib:MT:=eT (gu (ax jL (ak 3e1 (ak (aF cM 5e4 10e7) (aB)))))
def j7:ME:=ax jL (ak 5e4 2e0)
def j6:ME:=ao 0
def e8:MT:=gu (ax nt (ak (bT (cw (aF cM 5e4 10e7)) [none,some 0] 9e1 (a9) (j7)) (aB)))
noncomputable def ff:MS:=a8 (bC (jf (aB)) (ai 9))
 (a8 (l8 (pT (il (aF (d0 .GtE) (ao 8) (ax ik 4e9))) (eT (gu (aF cM 10e7 (ao 8))))) (uV 9 kh (ao 7)) (cz))
 (a8 (l8 (pT (il (aF (d0 .GtE) (ao 8) (ax ik 4e9))) (gu (aF cM 10e7 (ao 8)))) (a8 (bC (bT (cw (ao 7)) [none,some 8] 9e1 (a9) (ie)) (ai 10))
 (uV 9 kh (bT (cw (ao 10)) [none,some 5,some 8] 9e1 (ib) (j8)))) (cz))
 (bC (bT (cw (ao 9)) [none,some 6,some 8] 9e1 (e8) (j6)) (ai 7))))
noncomputable def lT:MS:=a8 (bC (aF cM 3e1 2e6) (ai 3))
 (a8 (bC (ax fg 15e3) (ai 4))
 (a8 (bC (ax hW (ak (ao 3) 7e3)) (ai 5))
 (a8 (bC (ax g7 (ak (bT (cw (ao 3)) [none,some 4] 9e1 (a9) (ig)) (aB))) (ai 6))
 (a8 (bC (jf (ak 2e5 (aB))) (ai 7))
 (a8 (kT (iy ly (ak (ax ik 10e9) (aB))) (ai 8) ff)
 (bJ (ao 7)))))))
def ec:List D->aC->ah D:=fq 3 11 lT
theorem rp:aN ["web", "begun"] ["web", "begun"] (ar gk):=0e0
def m3:MS:=bJ (ax ec (ak 3e1 (ak (cC 11e4) 2e1)))
def fj:List D->aC->ah D:=fq 2 2 m3
theorem uw:aN ["ties", "choice"] ["ties", "choice"] (ar e6):=0e0
theorem lq:(["at", "tie", "choice"]:List Str).Nodup:=by decide +kernel
def l4:ME:=ao 1
def jl:MT:=gu (aF Dz (aF My 10e7 3e1) 2e6)
def nU:MS:=bJ (ax fJ (ak (bT (iy kW 2e0) [none,none,some 1] (cu 2 3e2) (jl) (l4)) (aB)))
def fW:List D->aC->ah D:=fq 2 2 nU
theorem mK:aN ["web", "k", "many", "ties"] ["web", "k"] (ar i8):=0e0
theorem vt:(["choice", "many", "ties"]:List Str).Nodup:=by decide +kernel
def jF:ME:=fM (ak 5e4 (ak (ax fW (ak 10e7 2e0)) (aB)))
def ur:MS:=a8 (bC 3e1 (cu 2 8e6))
 (bJ (ax cf (ak (bT (cw (ax ec (ak 3e1 (ak 5e4 (ak (fM (aB)) (aB)))))) [none,some 2,some 3] 9e1 (a9) (jF)) (aB))))
def j1:List D->aC->ah D:=fq 2 4 ur
theorem Ai:aN ["web"] ["web"] (ar ky):=0e0
def uq:MS:=bJ (ax j1 (ak 3e1 (ak (cC 11e4) (aB))))
def gw:List D->aC->ah D:=fq 1 1 uq
theorem va:aN ["web"] ["web"] (ar iN):=0e0
def pH:MS:=a8 (gC (ax cS 2e0))
 (bJ (ax ik (ak (ax fj (ak 3e1 (ak (fM (aB)) (aB)))) (aB))))
def bQ:List D->aC->ah D:=fq 1 1 pH
theorem vc:aN ["web"] ["web"] (ar iP):=0e0
def pJ:MS:=a8 (gC (ax cS 2e0))
 (bJ (ax vL (ak (ax gw 2e0) (aB))))
def g9:List D->aC->ah D:=fq 1 1 pJ
theorem pw:aN ["web", "roots"] ["web"] (ar jC):=0e0
def rf:MS:=a8 (gC (ax cS 2e0))
 (a8 (bC (ax gw 2e0) (ai 1))
 (a8 (gC (ax fX 2e1))
 (bJ 5e4)))
def gH:List D->aC->ah D:=fq 1 2 rf
theorem BB:aN ["thing"] ["thing"] (ar lK):=0e0
def qw:MS:=bJ (ax br (ak 3e1 (ak 2e6 (ak (cC (.int 6)) (aB)))))
def di:List D->aC->ah D:=fq 1 1 qw
theorem BA:aN ["many", "thing"] ["many", "thing"] (ar lJ):=0e0
def wN:MS:=bJ (i1 (ax cV 15e3) (i1 (aF (kc false) (ax ik 2e1) (cC 11e4)) (aF (kc true) (aF cM 5e4 2e5) (aF cM 5e4 2e6))))
def gF:List D->aC->ah D:=fq 2 2 wN
theorem DW:aN ["many", "thing"] ["many", "thing"] (ar nk):=0e0
def Ad:MS:=bJ (i1 (ax gF 15e3) (aF (d0 .Lt) (aF cM 5e4 2e5) (aF cM 5e4 2e6)))
def mG:List D->aC->ah D:=fq 2 2 Ad
theorem By:aN ["many", "thing"] ["many", "thing"] (ar jW):=0e0
theorem yw:(["tie", "many"]:List Str).Nodup:=by decide +kernel
def mO:ME:=ax mG (ak 5e4 2e0)
def wL:MS:=bJ (i1 (vA (jN "tuple") 5e4) (i1 (ax nt (ak (bT (cw 5e4) [none,some 0] 9e1 (a9) (mO)) (aB))) (ax cU 2e1)))
def lg:List D->aC->ah D:=fq 2 2 wL
theorem mJ:aN ["thing", "many", "ties"] ["thing"] (ar kv):=0e0
noncomputable def uj:MS:=a8 (l8 (pT (eT (gu (vA (jN "tuple") 3e1))) (il (aF (kc true) (ax ik 2e0) (cC 11e4)))) 6e6 (cz))
 (a8 (bC 3e1 (cu 2 (aR (ai 1) (aR (ai 2) (cv)))))
 (bJ (i1 (ax di 2e1) (ax lg (ak 5e4 4e9)))))
def jZ:List D->aC->ah D:=fq 1 3 uj
theorem qf:aN ["many", "things", "at", "thing"] ["many", "things"] (ar k6):=0e0
theorem Av:(["pair"]:List Str).Nodup:=by decide +kernel
def oy:MS:=l8 (eT (gu (ax gF (ak 3e1 10e9)))) (w4) (cz)
def ui:ME:=fM (ak (ax yO 2e0) (ak (ax n5 2e0) (aB)))
def lN:MB:=Ck (ui)
def Ab:MS:=a8 (l8 (eT (gu (ax di 2e0))) (w4) (cz))
 (a8 (kT (iy kW 2e1) (cu 2 8e6) oy)
 (bJ (fM (ak 3e1 (ak (ax fJ (ak (ax cf (ak (xo (cw 5e4) [none] 9e1 (a9) (lN)) (aB))) (aB))) (aB))))))
def jV:List D->aC->ah D:=fq 2 4 Ab
theorem uz:aN ["web", "thing"] ["web", "thing"] (ar h8):=0e0
def nX:MS:=l8 (eT (gu (ax eb (ak 14e5 2e1)))) (w4) (cz)
def fY:List D->aC->ah D:=fq 2 2 nX
theorem Bz:aN ["web", "one", "other"] ["web", "one", "other"] (ar lI):=0e0
def wM:MS:=bJ (aF (pQ false) (fM (ak (ax yO (ak 5e4 4e9)) (ak (ax n5 (ak 5e4 4e9)) (aB)))) (aF cM 3e1 2e6))
def iB:List D->aC->ah D:=fq 3 3 wM
theorem uv:aN ["ties", "front"] ["ties", "front"] (ar dU):=0e0
theorem lp:(["a", "b", "front"]:List Str).Nodup:=by decide +kernel
theorem ll:(["a", "b", "front"]:List Str).Nodup:=by decide +kernel
def lZ:ME:=ao 1
def jk:MT:=il (aF (pQ false) 3e1 10e7)
def lY:ME:=ao 0
def jj:MT:=il (aF (pQ false) 5e4 10e7)
def nR:MS:=bJ (aF eS (bT (cw 3e1) [none,none,some 1] (cu 2 3e2) (jk) (lZ)) (bT (cw 3e1) [none,none,some 1] (cu 2 3e2) (jj) (lY)))
def dE:List D->aC->ah D:=fq 2 2 nR
theorem cR:aN ["web", "start", "many", "ties", "fars", "far", "front", "place"] ["web", "start"] (ar gY):=0e0
theorem uO:(["place", "fars"]:List Str).Nodup:=by decide +kernel
def nQ:ME:=ao 0
def kK:MT:=il (aF (su false) (aF cM 5e4 3e1) (cC .non))
def fU:MS:=bC (ao 5) (qJ (ao 4) (ao 7))
def fT:MS:=a8 (uV 5 kh 2e6)
 (a8 (bC (bT (cw (ax dE (ak (ao 3) (ak (ao 6) (aB))))) [none,some 4] 9e1 (kK) (nQ)) (ai 6))
 (kT (cw (ao 6)) (ai 7) fU))
noncomputable def q9:MS:=a8 (bC 3e1 (cu 2 8e6))
 (a8 (bC (aF uY (jf (ak (cC .non) (aB))) 10e7) (ai 4))
 (a8 (bC 2e5 (qJ (ao 4) 5e4))
 (a8 (bC 2e5 (ai 5))
 (a8 (bC (jf 2e1) (ai 6))
 (a8 (pW 100 (gu (ao 6)) fT)
 (bJ (ao 4)))))))
def gG:List D->aC->ah D:=fq 2 8 q9
theorem Bw:aN ["web", "place"] ["web", "place"] (ar lH):=0e0
def wK:MS:=a8 (gC (ax fY 15e3))
 (bJ (ax fJ (ak (ax cf (ak (ax uX (ak (aF eS (jf 2e1) (ax dE (ak (aF cM 3e1 2e6) (ak (jf 2e1) (aB))))) (aB))) (aB))) (aB))))
def iA:List D->aC->ah D:=fq 2 2 wK
theorem fz:aN ["web", "k", "many", "ties", "one", "fars"] ["web", "k"] (ar gR):=0e0
theorem uK:(["other", "one", "k", "fars"]:List Str).Nodup:=by decide +kernel
def iV:ME:=fM (ak 5e4 2e0)
def iS:MT:=y9 (il (aF (su true) (aF cM (ao 3) 3e1) (cC .non))) (il (aF (d0 .LtE) (aF cM (ao 3) 3e1) 10e7))
def iU:MS:=a8 (bC (ax gG (ak 3e1 7e3)) (ai 5))
 (uV 3 kh (bT (iy AO (ak (aF eS (ao 4) 2e6) 4e9)) [none,some 4,some 1,some 5] 9e1 (iS) (iV)))
noncomputable def qV:MS:=a8 (l8 (eT (gu (ax br (ak 5e4 (ak 2e6 (ak (cC (.int 6)) (aB))))))) (w4) (cz))
 (a8 (bC 14e5 (ai 2))
 (a8 (bC (jf (aB)) (ai 3))
 (a8 (kT (iy ly 4e9) (ai 4) iU)
 (bJ (fM (ak 10e7 (ak (ax fJ 10e9) (aB))))))))
def e0:List D->aC->ah D:=fq 2 6 qV
theorem Ag:aN ["web"] ["web"] (ar kx):=0e0
def uk:MS:=bJ (ax e0 (ak 3e1 (ak (cC 11e4) (aB))))
def d8:List D->aC->ah D:=fq 1 1 uk
theorem yc:aN ["web", "thing"] ["web", "thing"] (ar gS):=0e0
theorem mX:(["a", "b", "web", "thing"]:List Str).Nodup:=by decide +kernel
def kM:ME:=ax iB (ak 10e7 15e3)
def kI:MT:=il (aF (d0 .Lt) 3e1 5e4)
def iT:MB:=gN (cw (ao 3)) (ai 1) (kI) (jR (kM))
def qX:MS:=a8 (l8 (eT (gu (ax bY (ak 14e5 2e1)))) 6e6 (cz))
 (bJ (ax nt (ak (eV (cw 5e4) [none,none,some 0,some 1] 9e1 (a9) (iT)) (aB))))
def jc:List D->aC->ah D:=fq 2 2 qX
theorem yh:aN ["web", "knot", "place"] ["web", "knot", "place"] (ar gX):=0e0
theorem uN:(["other", "web", "place"]:List Str).Nodup:=by decide +kernel
def kN:ME:=ax iB (ak 5e4 (ak 3e1 4e9))
def q0:MS:=bJ (ax nt (ak (bT (cw 5e4) [none,some 0,some 2] 9e1 (a9) (kN)) (aB)))
def e4:List D->aC->ah D:=fq 3 3 q0
theorem kB:aN ["web", "knots", "place"] ["web"] (ar i9):=0e0
theorem vv:(["knot", "place", "web"]:List Str).Nodup:=by decide +kernel
def lS:ME:=aF eS 3e1 (fM 2e1)
def lQ:MT:=gu (ax e4 (ak 10e7 15e3))
def g6:MS:=bC (aF eS (aF eS 5e4 (jf (ak (fM 4e9) (aB)))) (bT (cw 5e4) [none,some 2,some 0] 9e1 (lQ) (lS))) (ai 1)
def uu:MS:=a8 (bC (jf (aB)) (ai 1))
 (a8 (kT (iy ly (ak 14e5 (aB))) (ai 2) g6)
 (bJ 5e4))
def j2:List D->aC->ah D:=fq 1 3 uu
theorem mU:aN ["web", "places"] ["web"] (ar e5):=0e0
theorem qC:(["knot", "web", "places"]:List Str).Nodup:=by decide +kernel
theorem qB:(["place", "web", "knot"]:List Str).Nodup:=by decide +kernel
def jm:ME:=ax e4 (ak 5e4 (ak 10e7 2e0))
def l0:ME:=ao 0
def gp:MT:=eT (gu (ax yQ (ak (bT (cw 10e7) [none,some 1,some 0] 9e1 (a9) (jm)) (aB))))
def nT:MS:=a8 (bC (ax qa (ak 14e5 (aB))) (ai 1))
 (bJ (ax cf (ak (bT (cw (ax j2 2e0)) [none,some 0,some 1] 9e1 (gp) (l0)) (aB))))
def fV:List D->aC->ah D:=fq 1 2 nT
theorem t5:aN ["stars", "place", "star"] ["stars", "place"] (ar jY):=0e0
theorem yz:(["other", "star", "place", "stars"]:List Str).Nodup:=by decide +kernel
def mQ:ME:=aF (kc false) (aF (pQ false) 3e1 5e4) (aF (pQ false) 10e7 (aF cM (ao 3) 3e1))
def wQ:MS:=a8 (bC (aF cM 3e1 5e4) (ai 2))
 (bJ (i1 (aF (pQ false) 5e4 10e7) (ax nt (ak (bT (iy ly (ak (ax ik 2e0) (aB))) [none,some 2,some 1,some 0] 9e1 (a9) (mQ)) (aB)))))
def lh:List D->aC->ah D:=fq 2 3 wQ
theorem nN:aN ["thing", "many"] ["thing"] (ar eG):=0e0
theorem rE:(["star", "many"]:List Str).Nodup:=by decide +kernel
theorem rD:(["place", "thing"]:List Str).Nodup:=by decide +kernel
def mY:ME:=ax bY (ak 5e4 2e0)
def j5:ME:=ax lh (ak 5e4 2e0)
noncomputable def pF:MS:=a8 (l8 (pT (eT (gu (vA (jN "tuple") 3e1))) (eT (gu (ax di (ak (ax ik 2e0) (aB)))))) 6e6 (cz))
 (a8 (bC (ax ik 2e0) (ai 1))
 (a8 (l8 (eT (gu (ax nt (ak (bT (cw 3e1) [none,some 1] 9e1 (a9) (mY)) (aB))))) 6e6 (cz))
 (bJ (ax nt (ak (bT (iy ly 2e1) [none,some 0] 9e1 (a9) (j5)) (aB))))))
def cy:List D->aC->ah D:=fq 1 2 pF
theorem ux:aN ["thing"] ["thing"] (ar hZ):=0e0
def nV:MS:=l8 (eT (gu (ax cy 2e0))) (w4) (cz)
def dF:List D->aC->ah D:=fq 1 1 nV
theorem Ah:aN ["web"] ["web"] (ar i7):=0e0
theorem vq:(["place", "web"]:List Str).Nodup:=by decide +kernel
def lR:ME:=ax iA (ak 5e4 2e0)
def uo:MS:=bJ (ax fJ (ak (bT (iy ly (ak 14e5 (aB))) [none,some 0] 9e1 (a9) (lR)) (aB)))
def gv:List D->aC->ah D:=fq 1 1 uo
theorem DV:aN ["stars"] ["stars"] (ar k7):=0e0
theorem mL:(["a", "star", "b"]:List Str).Nodup:=by decide +kernel
def oz:ME:=fM (ak 3e1 4e9)
def ow:MT:=il (aF (d0 .Lt) 3e1 10e7)
def lO:MB:=gN (cw 5e4) (ai 2) (ow) (jR (oz))
def Ac:MS:=a8 (gC (ax dF 2e0))
 (bJ (ax jV (ak (ax ik 2e0) (ak (eV (iy kW 2e0) [none,none,none] (cu 2 3e2) (a9) (lO)) (aB)))))
def gQ:List D->aC->ah D:=fq 1 1 Ac
theorem yd:aN ["stars"] ["stars"] (ar gT):=0e0
theorem j4:(["star", "a", "b"]:List Str).Nodup:=by decide +kernel
def f6:ME:=fM (ak 5e4 4e9)
def fS:MT:=il (aF (d0 .Lt) 5e4 10e7)
def kL:MB:=gN (cw 3e1) (ai 1) (a9) (gN (cw 3e1) (ai 2) (fS) (jR (f6)))
def qY:MS:=a8 (gC (ax dF 2e0))
 (bJ (ax jV (ak (ax ik 2e0) (ak (eV (cw 3e1) [none,none,none] 9e1 (a9) (kL)) (aB)))))
def dZ:List D->aC->ah D:=fq 1 1 qY
theorem vb:aN ["web", "thing"] ["web", "thing"] (ar iO):=0e0
def pI:MS:=bJ (i1 (ax cy 2e1) (aF (kc false) (ax dZ 2e1) 3e1))
def g8:List D->aC->ah D:=fq 2 2 pI
theorem mV:aN ["web", "root"] ["web"] (ar hX):=0e0
def kO:MS:=a8 (bC (ax g9 2e0) (ai 1))
 (bJ (R8 (il (aF (su false) 5e4 (cC .non))) (cC .non) (ax gv 2e1)))
def eH:List D->aC->ah D:=fq 1 2 kO
theorem yg:aN ["web"] ["web"] (ar jB):=0e0
def qZ:MS:=bJ (ax bQ 2e0)
def jd:List D->aC->ah D:=fq 1 1 qZ
theorem yb:aN ["web", "thing"] ["web", "thing"] (ar jA):=0e0
def qW:MS:=bJ (i1 (ax jZ 2e1) (aF (kc false) (ax d8 2e1) 3e1))
def jb:List D->aC->ah D:=fq 2 2 qW
theorem rx:aN ["_law_script", "_law_k"] ["_law_script", "_law_k"] (ar gm):=0e0
def j9:MS:=a8 (l8 (il (aF (d0 .Lt) 5e4 (ax ik 2e0))) (bJ (aF cM 3e1 5e4)) (cz))
 (bJ 2e5)
def fm:List D->aC->ah D:=fq 2 2 j9
theorem pz:aN ["_law_seed"] ["_law_seed"] (ar jD):=0e0
def rh:MS:=a8 (bC (aF yN (aF eS 3e1 (cC (.int 7919))) (cC (.int 2147483647))) 9e1)
 (bJ (aF yN (aF eS (aF eS (aF uY 3e1 3e1) (aF uY (cC (.int 48271)) 3e1)) (cC (.int 12345))) (cC (.int 2147483629))))
def gI:List D->aC->ah D:=fq 1 1 rh
theorem mW:aN ["_law_cell", "_law_left"] ["_law_cell"] (ar ia):=0e0
noncomputable def nZ:MS:=a8 (bC (ax n5 (ak 3e1 (ak (aF ke 2e5 3e1) (aB)))) (ai 1))
 (bJ (jf (ak 5e4 (ak (ax y6 (ak (aF (d0 .GtE) 5e4 (aF Mz (cC (.int 10)) (cC (.int 18)))) (aB))) (ak (aF yN 5e4 (cC (.int 1000003))) (aB))))))
def fZ:List D->aC->ah D:=fq 1 2 nZ
theorem pA:aN ["_law_pen", "_law_many", "_law_found"] ["_law_pen", "_law_many"] (ar jE):=0e0
noncomputable def mT:MS:=a8 (l8 (il (aF (kc false) (aF cM 3e1 2e6) 2e6)) (a8 (bC (aF yN 14e5 5e4) (ai 2))
 (a8 (bC (aF y8 14e5 5e4) (qJ 3e1 2e5))
 (bJ 10e7))) (cz))
 (a8 (bC (ax gI (ak (aF eS (ax gI (ak (aF cM 3e1 (cC 11e4)) (aB))) (cC (.int 7))) (aB))) (qJ 3e1 (cC 11e4)))
 (bJ (aF yN (aF y8 (aF cM 3e1 (cC 11e4)) (cC (.int 64))) 5e4)))
def bu:List D->aC->ah D:=fq 2 3 mT
theorem uA:aN ["_law_many", "_law_ties"] ["_law_many", "_law_ties"] (ar e7):=0e0
theorem lr:(["_law_a", "_law_b"]:List Str).Nodup:=by decide +kernel
def jn:ME:=fM (ak (ax yO 15e3) (ak (ax n5 15e3) (aB)))
def nY:MS:=bJ (fM (ak 3e1 (ak (ax fJ (ak (ax cf (ak (ax uX (ak (bT (cw 5e4) [none,none] (cu 2 3e2) (a9) (jn)) (aB))) (aB))) (aB))) (aB))))
def bV:List D->aC->ah D:=fq 2 2 nY
theorem dy:aN ["_law_pen", "_law_most", "_law_many", "_law_share", "_law_ties", "_law_one"] ["_law_pen", "_law_most"] (ar dw):=0e0
theorem nE:(["_law_other", "_law_one", "_law_pen", "_law_share"]:List Str).Nodup:=by decide +kernel
def ei:ME:=fM 15e3
def ef:MT:=il (aF (kc false) (ax bu (ak 10e7 10e9)) 2e5)
def dc:MS:=gC (AI jy (ao 4) (ak (bT (iy ly (ak (ao 5) (aB))) [none,some 5,some 0,some 3] 9e1 (ef) (ei)) (aB)))
noncomputable def lx:MS:=a8 (bC (aF eS 2e6 (ax bu 15e3)) (ai 2))
 (a8 (bC (aF eS (cC 11e4) (ax bu (ak 3e1 (ak (cC (.int 3)) (aB))))) (ai 3))
 (a8 (bC (jf (aB)) (ai 4))
 (a8 (kT (iy ly 4e9) (ai 5) dc)
 (bJ (ax bV (ak 10e7 7e3))))))
def b0:List D->aC->ah D:=fq 2 6 lx
theorem rq:aN ["_law_web", "_law_place"] ["_law_web", "_law_place"] (ar ez):=0e0
theorem kC:(["_law_a", "_law_b", "_law_place"]:List Str).Nodup:=by decide +kernel
def iK:ME:=aF ke (aF eS 3e1 5e4) 10e7
def iG:MT:=il (aF (pQ false) 10e7 (fM 15e3))
def m4:MS:=bJ (bT (cw (aF cM 3e1 2e6)) [none,none,some 1] (cu 2 3e2) (iG) (iK))
def fk:List D->aC->ah D:=fq 2 2 m4
theorem cO:aN ["_law_web", "_law_ties", "_law_place", "_law_near", "_law_one"] ["_law_web"] (ar cN):=0e0
theorem l6:(["_law_other", "_law_one"]:List Str).Nodup:=by decide +kernel
def dD:ME:=fM (ak 5e4 2e0)
def dA:MT:=il (aF (d0 .Lt) 5e4 3e1)
def dC:MS:=gC (AI jy 5e4 (ak (bT (cw (ao 3)) [none,some 4] 9e1 (dA) (dD)) (aB)))
def dB:MS:=a8 (bC (ax fk (ak 3e1 4e9)) (ai 3))
 (kT (cw (ao 3)) (ai 4) dC)
def kb:MS:=a8 (bC (ax sJ (ak (aF cM 3e1 2e6) (aB))) (ai 1))
 (a8 (kT (iy ly (ak 14e5 (aB))) (ai 2) dB)
 (bJ (ax bV (ak 14e5 2e1))))
def de:List D->aC->ah D:=fq 1 5 kb
theorem cm:aN ["_law_pen", "_law_most", "_law_web", "_law_way", "_law_one", "_law_pair", "_law_some"] ["_law_pen", "_law_most"] (ar eA):=0e0
theorem pP:(["_law_tie", "_law_pair"]:List Str).Nodup:=by decide +kernel
def fE:ME:=ao 0
def fC:MT:=il (aF (kc true) 3e1 5e4)
noncomputable def ih:MS:=a8 (bC (ax b0 15e3) (ai 2))
 (a8 (bC (ax bu (ak 3e1 (ak (cC (.int 4)) (aB)))) (ai 3))
 (a8 (l8 (il (aF (kc false) (ao 3) 2e5)) (bJ 10e7) (cz))
 (a8 (bC (ax de 4e9) (ai 2))
 (a8 (l8 (y9 (il (aF (kc false) (ao 3) (cC (.int 3)))) (il (aF (d0 .Gt) (aF cM 10e7 2e5) 2e6))) (a8 (bC (ax bu (ak 3e1 (ak (aF ke (aF cM 10e7 2e5) 2e6) (aB)))) (ai 4))
 (a8 (bC (fM (ak (ao 4) (ak (aF eS (aF eS (ao 4) 2e6) (ax bu (ak 3e1 (ak (aF ke (aF ke (aF cM 10e7 2e5) 2e6) (ao 4)) (aB))))) (aB)))) (ai 5))
 (a8 (bC (bT (cw (aF cM 10e7 2e6)) [none,some 5] 9e1 (fC) (fE)) (ai 6))
 (a8 (l8 (il (aF (pQ true) (ao 5) (aF cM 10e7 2e6))) (gC (AI dt (ao 6) (ak (ao 5) (aB)))) (cz))
 (bC (ax bV (ak (aF cM 10e7 2e5) (ak (ao 6) (aB)))) (ai 2)))))) (cz))
 (bJ 10e7)))))
def c8:List D->aC->ah D:=fq 2 7 ih
theorem lj:aN ["_law_pen", "_law_web", "_law_most", "_law_some"] ["_law_pen", "_law_web", "_law_most"] (ar fB):=0e0
def dz:MS:=gC (AI oh (ao 3) (ak (ax bu (ak 3e1 (ak (ax ik 10e9) (aB)))) (aB)))
def l5:MS:=a8 (bC (ax sJ (ak (aF cM 5e4 2e6) (aB))) (ai 3))
 (a8 (pW 100 (il (aF (d0 .Gt) (ax ik 10e9) 10e7)) dz)
 (bJ (fM (ak (aF cM 5e4 2e5) (ak (ax fJ 10e9) (aB))))))
def eC:List D->aC->ah D:=fq 3 4 l5
theorem cJ:aN ["_law_web", "_law_other", "_law_stars", "_law_holds", "_law_great", "_law_lot", "_law_inside"] ["_law_web", "_law_other"] (ar cI):=0e0
theorem nB:(["_law_place", "_law_other"]:List Str).Nodup:=by decide +kernel
theorem nA:(["_law_big", "_law_lot"]:List Str).Nodup:=by decide +kernel
theorem nz:(["_law_one", "_law_big"]:List Str).Nodup:=by decide +kernel
def eh:ME:=ax iA (ak 5e4 2e0)
def gy:ME:=ao 0
def ee:MT:=il (aF (pQ true) 3e1 5e4)
def gx:ME:=ao 0
def c9:MT:=il (aF (kc false) (bT (cw 5e4) [none,some 0] 9e1 (ee) (gy)) (jf (aB)))
def eg:MS:=a8 (bC (bT (cw (ao 4)) [none,some 5] 9e1 (c9) (gx)) (ai 6))
 (l8 (pT (eT (gu (ax jc (ak 3e1 (ak (ao 5) (aB)))))) (il (aF (kc false) (ao 6) (jf (aB))))) 6e6 (cz))
noncomputable def lu:MS:=a8 (bC (ax gv 2e1) (ai 2))
 (a8 (l8 (pT (eT (gu (ax cy 4e9))) (pT (il (aF (kc true) (ax gQ 4e9) 5e4)) (il (aF (kc true) (ax dZ 4e9) (ax d8 2e1))))) 6e6 (cz))
 (a8 (l8 (il (aF (kc true) 10e7 (ax fJ (ak (bT (iy ly (ak (aF cM 5e4 2e5) (aB))) [none,some 1] 9e1 (a9) (eh)) (aB))))) 6e6 (cz))
 (a8 (bC (ax g8 (ak 3e1 4e9)) (ai 3))
 (a8 (l8 (il (aF (kc true) (ao 3) (ax jb 15e3))) 6e6 (cz))
 (a8 (l8 (eT (gu (ao 3))) (bJ (cC 6e7)) (cz))
 (a8 (bC (ax fV 2e0) (ai 4))
 (a8 (kT (cw 10e7) (ai 5) eg)
 (bJ (cC 6e7)))))))))
def bZ:List D->aC->ah D:=fq 2 7 lu
theorem mq:aN ["_law_script", "_law_cell", "_law_pen", "_law_one", "_law_web", "_law_again", "_law_first", "_law_roots"] ["_law_script"] (ar lz):=0e0
theorem HD:(["_law_tie", "_law_pen"]:List Str).Nodup:=by decide +kernel
theorem HC:(["_law_root", "_law_web"]:List Str).Nodup:=by decide +kernel
def oT:ME:=ao 0
def oR:MT:=il (aF (kc false) (ax bu (ak 5e4 (ak (cC 11e4) (aB)))) 2e5)
def oS:ME:=ax bZ (ak 5e4 2e0)
noncomputable def se:MS:=a8 (bC (ax fZ 2e1) (ai 2))
 (a8 (bC (ax b0 (ak 10e7 (ak (cC (.int 6)) (aB)))) (ai 3))
 (a8 (bC (ax eC (ak 10e7 (ak (ax c8 (ak 10e7 (ak (cC (.int 6)) (aB)))) (ak (cC (.int 9)) (aB))))) (ai 4))
 (a8 (bC (fM (ak (aF cM (ao 4) 2e5) (ak (ax fJ (ak (bT (cw (aF cM (ao 4) 2e6)) [none,some 2] 9e1 (oR) (oT)) (aB))) (aB)))) (ai 5))
 (a8 (l8 (pT (eT (gu (ax bZ (ak (ax d8 10e9) 10e9)))) (eT (gu (ax bZ (ak (ao 4) (ak (ao 5) (aB))))))) 6e6 (cz))
 (a8 (l8 (il (aF (kc true) (ax jd 7e3) (ax bQ 7e3))) 6e6 (cz))
 (a8 (bC (ax eH 7e3) (ai 6))
 (a8 (l8 (il 13e3) 6e6 (cz))
 (l8 (il 16e7) (a8 (bC (ax gH 7e3) (ai 7))
 (l8 13e4 6e6 (cz))) (cz)))))))))
def Mm:MS:=a8 (kT (cw (aF eS (jf (ak (ax fm (ak 3e1 (ak 2e5 (aB)))) (aB))) (R7 3e1 (yZ 2e6) (yZ (cC (.int 5)))))) (ai 1) se)
 (bJ (cC 6e7))
def zc:List D->aC->ah D:=fq 1 8 Mm
theorem As(nm:Nm mg)(F:eJ K "is_whole" "is_whole" kz f fd)(i:mg "is_whole" = some 2e9):bF P w K mg base 1e6 1 "is_whole" 1 d9:=
 bt F Aj rfl i 1e0 λc A O s H E R=>
 aO (aZ (kg (vD (T:="int") 1e2 Pz 1e2 1e2 nm.isinstance nm.int 4e0) (mh (QH (vD (T:="bool") 1e2 Lx 1e2 1e2 nm.isinstance nm.bool 4e0)))))
theorem qy(nm:Nm mg)(F:eJ K "is_whole_from" "is_whole_from" fA f fd)(i:mg "is_whole_from" = some 2e9)(cd0:bF P w K mg base 1e6 1 "is_whole" 1 d9):bF P w K mg base 1e6 2 "is_whole_from" 3 br:=
 bt F qx rfl i 9e7 λc A O s H E R=>
 aO (aZ (kg (aJ cd0 0e3 2e2) (mh (QN (fO (op:=.LtE) 5e5) (fO (op:=.LtE) 5e5) 6e2 4e0 12e5))))
theorem Au(nm:Nm mg)(F:eJ K "is_place" "is_place" kA f fd)(i:mg "is_place" = some 2e9)(db0:bF P w K mg base 1e6 2 "is_whole_from" 3 br):bF P w K mg base 1e6 3 "is_place" 2 eb:=
 bt F Ak rfl i 0e6 λc A O s H E R=>
 aO (aZ (aJ db0 0e3 (aP 6e2 (aP (cP) (aP (oI 4e0 (cP)) (aY))))))
theorem yn(nm:Nm mg)(F:eJ K "is_places" "is_places" gW f fd)(i:mg "is_places" = some 2e9)(di0:bF P w K mg base 1e6 3 "is_place" 2 eb):bF P w K mg base 1e6 4 "is_places" 2 cV:=
 bt F yf rfl i 0e6 λc A O s H E R=>
 aO (aZ (kg (vD (T:="tuple") 1e2 ph 1e2 1e2 nm.isinstance nm.tuple 6e2) (mh (bx nK nm.all (aP (cn (bh (N:=["many", "thing"]) (sc:=ar gW) (Nc:=["place", "many"]) (cap:=[none,some 0]) rfl rfl 1e1) (kD 6e2) (λ_ _ _ _ _=>dJ 0 uM) 3e6 (λ_ _ _ _ _=>aJ di0 0e3 (aP 6e2 2e2))) (aY))))))
theorem ym(nm:Nm mg)(F:eJ K "is_rising" "is_rising" gU f fd)(i:mg "is_rising" = some 2e9):bF P w K mg base 1e6 1 "is_rising" 1 cU:=
 bt F ye rfl i 1e0 λc A O s H E R=>
 aO (aZ (bx nK nm.all (aP (cn (bh (N:=["things"]) (sc:=ar gU) (Nc:=["at", "things"]) (cap:=[none,some 0]) rfl rfl 1e1) (QC nm.range (aP (cP) (aP 14e3 (aY)))) (λ_ _ _ _ _=>dJ 0 uL) 3e6 (λ_ _ _ _ _=>jo 11e7 (cg 6e2 (oI 4e0 (cP))) (cg 6e2 4e0))) (aY))))
theorem nv(nm:Nm mg)(F:eJ K "is_rising_places" "is_rising_places" dH f fd)(i:mg "is_rising_places" = some 2e9)(dj0:bF P w K mg base 1e6 4 "is_places" 2 cV)(dk0:bF P w K mg base 1e6 1 "is_rising" 1 cU):bF P w K mg base 1e6 5 "is_rising_places" 2 bY:=
 bt F nu rfl i 0e6 λc A O s H E R=>
 aO (aZ (kg (aJ dj0 0e3 15e4) (kg (jo (fO (op:=.Gt) 5e5) (bx iw nm.len 2e3) (cP)) (mh (aJ dk0 0e3 2e3)))))
theorem vn(nm:Nm mg)(F:eJ K "check_ties" "check_ties" iQ f fd)(i:mg "check_ties" = some 2e9)(ce0:∃t,mg "MOST_TIES" = some (.int 12 t)):bF P w K mg base 1e6 1 "check_ties" 1 cS:=
 bt F nO rfl i 1e0 λc A O s H E R=>
 aH (bO 1 nO.nd (bx iw nm.len (aP 7e6 (aY))))
 (aO (gJ (b9 (fO (op:=.Gt) 5e5) 6e2 (Dr ce0)) (aO (lD)) (dh)))
theorem uG(nm:Nm mg)(F:eJ K "check_roots" "check_roots" h7 f fd)(i:mg "check_roots" = some 2e9)(cf0:∃t,mg "MOST_ROOTS" = some (.int 300 t)):bF P w K mg base 1e6 1 "check_roots" 1 fX:=
 bt F uy rfl i 1e0 λc A O s H E R=>
 aO (gJ (b9 (fO (op:=.Gt) 5e5) 14e3 (Dr cf0)) (aO (lD)) (dh))
theorem An(nm:Nm mg)(F:eJ K "steps_at" "steps_at" i6 f fd)(i:mg "steps_at" = some 2e9):bF P w K mg base 1e6 1 "steps_at" 1 j0:=
 bt F eZ rfl i 1e0 λc A O s H E R=>
 aH (qH 4e0 (js (bU (dJ 1 eZ.nd) (bU (dJ 2 eZ.nd) (jt)))))
 (aH (lA 3 eZ.nd (bh (N:=["web", "many", "ties", "steps", "at", "a", "b"]) (sc:=ar i6) (Nc:=["place"]) (cap:=[none]) rfl rfl 1e1) (pS nm.range 2e3) (λ_ _ _ _ _=>dJ 0 vp) 3e6 (λ_ _ _ _ _=>ip (aY)))
 (aH (jq Yc (IL nm.enumerate 5e3) (js (bU (dJ 4 eZ.nd) (bU (js (bU (dJ 5 eZ.nd) (bU (dJ 6 eZ.nd) (jt)))) (jt)))) (aH (fG (vE (cg (aE 3) (aE 5)) (aP (dP (aP (aE 6) (aP (Fh (cP) (aE 4)) (aY)))) (aY))))
 (aO (fG (vE (cg (aE 3) (aE 6)) (aP (dP (aP (aE 5) (aP (Fh (cP) (aE 4)) (aY)))) (aY)))))))
 (aO (aZ (aE 3)))))
theorem ry(nm:Nm mg)(F:eJ K "ways_between" "ways_between" dj f fd)(i:mg "ways_between" = some 2e9)(cg0:bF P w K mg base 1e6 1 "steps_at" 1 j0):bF P w K mg base 1e6 2 "ways_between" 2 fg:=
 bt F ck rfl i 0e6 λc A O s H E R=>
 aH (bO 2 ck.nd (QI))
 (aH (bO 3 ck.nd (aJ cg0 0e3 2e2))
 (aH (lA 4 ck.nd (bh (N:=["web", "k", "found", "steps", "ways", "step", "way", "choice"]) (sc:=ar dj) (Nc:=["place"]) (cap:=[none]) rfl rfl 1e1) (pS nm.range (aP 7e6 (aY))) (λ_ _ _ _ _=>dJ 0 pO) 3e6 (λ_ _ _ _ _=>dP (aP (dP 2e2) (aP (cP) (aY)))))
 (aH (jq Yc (pS nm.range 2e3) (dJ 5 ck.nd) (aH (JT 4 ck.nd (bh (N:=["web", "k", "found", "steps", "ways", "step", "way", "choice"]) (sc:=ar dj) (Nc:=["way", "choice", "b", "tie", "steps"]) (cap:=[none,none,none,none,some 3]) rfl rfl 1e1) (kD (aE 4)) (λ_ _ _ _ _=>js (bU (dJ 0 eQ) (bU (dJ 1 eQ) (jt)))) 3e6 (λ_ _ _ _ _ _=>Fe rfl (kD (cg (aE 4) (cg 4e0 (Fi (cP))))) (js (bU (dJ 2 eQ) (bU (dJ 3 eQ) (jt)))) (gA (b9 (Cc 5e5) 12e5 4e0)) (IQ rfl (dP (aP (iY 4e0 (dP 5e3)) (aP (LO 6e2 (aE 3)) (aY)))))))
 (aO (jq Yc (kD (aE 4)) (js (bU (dJ 6 ck.nd) (bU (dJ 7 ck.nd) (jt)))) (aO (gJ (b9 11e7 (cg (aE 6) (cP)) (cg (aE 6) (Fi (cP)))) (aO (fG (vE (SE 5e5 12e5 (aP (dP (aP (cg (aE 6) (cP)) (aP (cg (aE 6) (Fi (cP))) (aY)))) (aP (ip (aY)) (aY)))) (aP (aE 7) (aY))))) (dh)))))))
 (aO (aZ 12e5)))))
theorem vk(nm:Nm mg)(F:eJ K "clashes_at" "clashes_at" fR f fd)(i:mg "clashes_at" = some 2e9):bF P w K mg base 1e6 1 "clashes_at" 2 hW:=
 bt F iR rfl i 0e6 λc A O s H E R=>
 aH (lA 2 iR.nd (bh (N:=["ties", "ways", "clashes", "pair", "way"]) (sc:=ar fR) (Nc:=["tie"]) (cap:=[none]) rfl rfl 1e1) (kD 4e0) (λ_ _ _ _ _=>dJ 0 rG) 3e6 (λ_ _ _ _ _=>ip (aY)))
 (aH (jq Yc (RA 6e2) (dJ 3 iR.nd) (aO (gJ (b9 (Cc 5e5) (aE 3) 4e0) (aO (jq Yc (kD (LM 5e5 6e2 (aE 3))) (dJ 4 iR.nd) (aO (fG (vE (cg 12e5 (oI (Qi (aE 4)) (cP))) 14e6))))) (dh))))
 (aO (aZ 12e5)))
theorem ve(nm:Nm mg)(F:eJ K "settled_at" "settled_at" fQ f fd)(i:mg "settled_at" = some 2e9):bF P w K mg base 1e6 1 "settled_at" 1 g7:=
 bt F kH rfl i 1e0 λc A O s H E R=>
 aH (lA 1 kH.nd (bh (N:=["makings", "settled", "ways"]) (sc:=ar fQ) (Nc:=["ways"]) (cap:=[none]) rfl rfl 1e1) (kD 4e0) (λ_ _ _ _ _=>dJ 0 rF) 3e6 (λ_ _ _ _ _=>ip (aY)))
 (aH (jq Yc (kD 4e0) (dJ 2 kH.nd) (aO (fG (vE (cg 6e2 (oI (Qi (bx za nm.max 5e3)) (cP))) 5e3))))
 (aO (aZ 6e2)))
theorem BM(nm:Nm mg)(F:eJ K "is_made" "is_made" jX f fd)(i:mg "is_made" = some 2e9):bF P w K mg base 1e6 1 "is_made" 2 jL:=
 bt F BC rfl i 0e6 λc A O s H E R=>
 aO (aZ (bx Mj nm.any (aP (cn (bh (N:=["choice", "ways"]) (sc:=ar jX) (Nc:=["way", "choice"]) (cap:=[none,some 0]) rfl rfl 1e1) (kD 6e2) (λ_ _ _ _ _=>dJ 0 yy) 3e6 (λ_ _ _ _ _=>jo (pR 5e5) (FM 6e2 4e0) 4e0)) (aY))))
theorem vm(nm:Nm mg)(F:eJ K "choices_by" "choices_by" cW f fd)(i:mg "choices_by" = some 2e9)(ch0:bF P w K mg base 1e6 2 "ways_between" 2 fg)(ci0:bF P w K mg base 1e6 1 "clashes_at" 2 hW)(cj0:bF P w K mg base 1e6 1 "settled_at" 1 g7)(cb0:bF P w K mg base 1e6 1 "is_made" 2 jL):bF P w K mg base 1e6 3 "choices_by" 3 ec:=
 bt F bN rfl i 9e7 λc A O s H E R=>
 aH (bO 3 bN.nd 7e6)
 (aH (bO 4 bN.nd (aJ ch0 0e3 15e4))
 (aH (bO 5 bN.nd (aJ ci0 0e3 (aP (aE 3) 14e6)))
 (aH (bO 6 bN.nd (aJ cj0 0e3 (aP (cn (bh (N:=["web", "k", "begun", "ties", "ways", "clashes", "settled", "choices", "at", "grown", "longer"]) (sc:=ar cW) (Nc:=["tie", "ways"]) (cap:=[none,some 4]) rfl rfl 1e1) (kD (aE 3)) (λ_ _ _ _ _=>dJ 0 rM) 3e6 (λ_ _ _ _ _=>LM 5e5 6e2 4e0)) (aY))))
 (aH (bO 7 bN.nd (ip (aP (cP) (aY))))
 (aH (jq Yc (pS nm.range (aP (bx iw nm.len (aP (aE 3) (aY))) (aY))) (dJ 8 bN.nd) (aH (bO 9 bN.nd (ip (aY)))
 (aH (gJ (uU (wY (b9 (fO (op:=.GtE) 5e5) (aE 8) (bx iw nm.len 5e3)) (qF (gL (rO (cg 12e5 (aE 8))))))) (aO (Ca 9 bN.nd (aE 7))) (dh))
 (aH (gJ (uU (wY (b9 (fO (op:=.GtE) 5e5) (aE 8) (bx iw nm.len 5e3)) (qF (rO (cg 12e5 (aE 8)))))) (aH (lA 10 bN.nd (bh (N:=["web", "k", "begun", "ties", "ways", "clashes", "settled", "choices", "at", "grown", "longer"]) (sc:=ar cW) (Nc:=["choice", "at"]) (cap:=[none,some 8]) rfl rfl 1e1) (kD (aE 7)) (λ_ _ _ _ _=>dJ 0 rL) 3e6 (λ_ _ _ _ _=>LO 4e0 (Fh (cP) 6e2)))
 (aO (Ca 9 bN.nd (cn (bh (N:=["web", "k", "begun", "ties", "ways", "clashes", "settled", "choices", "at", "grown", "longer"]) (sc:=ar cW) (Nc:=["choice", "clashes", "at"]) (cap:=[none,some 5,some 8]) rfl rfl 1e1) (kD (aE 10)) (λ_ _ _ _ _=>dJ 0 rK) (λ_ _ _ _ _=>gA (gL (rO (aJ cb0 0e3 (aP 4e0 (aP (cg 6e2 12e5) (aY))))))) 12e9)))) (dh))
 (aO (lA 7 bN.nd (bh (N:=["web", "k", "begun", "ties", "ways", "clashes", "settled", "choices", "at", "grown", "longer"]) (sc:=ar cW) (Nc:=["choice", "settled", "at"]) (cap:=[none,some 6,some 8]) rfl rfl 1e1) (kD (aE 9)) (λ_ _ _ _ _=>dJ 0 rJ) (λ_ _ _ _ _=>gA (rO (bx nK nm.all (aP (cn (x3 (N:=["choice", "settled", "at"]) (Nc:=["making", "choice"]) (cap:=[none,some 0]) rfl rfl 1e1) (kD (cg 6e2 12e5)) (λ_ _ _ _ _=>dJ 0 rH) 3e6 (λ_ _ _ _ _=>aJ cb0 0e3 (aP 6e2 2e2))) (aY))))) 12e9))))))
 (aO (aZ (aE 7))))))))
theorem rz(nm:Nm mg)(F:eJ K "root_choices" "root_choices" gk f fd)(i:mg "root_choices" = some 2e9)(dl0:∃t,mg "ROOT_STEPS" = some (.int 2 t))(dm0:bF P w K mg base 1e6 3 "choices_by" 3 ec):bF P w K mg base 1e6 4 "root_choices" 2 fj:=
 bt F rp rfl i 0e6 λc A O s H E R=>
 aO (aZ (aJ dm0 0e3 (aP 4e0 (aP (Dr dl0) 2e3))))
theorem uE(nm:Nm mg)(F:eJ K "chosen_ties" "chosen_ties" e6 f fd)(i:mg "chosen_ties" = some 2e9):bF P w K mg base 1e6 1 "chosen_ties" 2 fW:=
 bt F uw rfl i 0e6 λc A O s H E R=>
 aO (aZ (bx jz nm.tuple (aP (cn (bh (N:=["ties", "choice"]) (sc:=ar e6) (Nc:=["at", "tie", "choice"]) (cap:=[none,none,some 1]) rfl rfl 1e1) (IL nm.enumerate 2e2) (λ_ _ _ _ _=>js (bU (dJ 0 lq) (bU (dJ 1 lq) (jt)))) (λ_ _ _ _ _=>gA (rO (FM (QK 12e5 4e0) (cP)))) (λ_ _ _ _ _=>aE 1)) (aY))))
theorem Aq(nm:Nm mg)(F:eJ K "roots_by" "roots_by" i8 f fd)(i:mg "roots_by" = some 2e9)(dm0:bF P w K mg base 1e6 3 "choices_by" 3 ec)(ck0:bF P w K mg base 1e6 1 "chosen_ties" 2 fW):bF P w K mg base 1e6 4 "roots_by" 2 j1:=
 bt F mK rfl i 0e6 λc A O s H E R=>
 aH (qH 4e0 (js (bU (dJ 2 mK.nd) (bU (dJ 3 mK.nd) (jt)))))
 (aO (aZ (bx (lb 5e5) nm.sorted (aP (cn (bh (N:=["web", "k", "many", "ties"]) (sc:=ar i8) (Nc:=["choice", "many", "ties"]) (cap:=[none,some 2,some 3]) rfl rfl 1e1) (kD (aJ dm0 0e3 (aP 4e0 (aP 6e2 (aP (dP (aY)) (aY)))))) (λ_ _ _ _ _=>dJ 0 vt) 3e6 (λ_ _ _ _ _=>dP (aP 6e2 (aP (aJ ck0 0e3 (aP 12e5 2e2)) (aY))))) (aY)))))
theorem Ap(nm:Nm mg)(F:eJ K "roots_of" "roots_of" ky f fd)(i:mg "roots_of" = some 2e9)(dl0:∃t,mg "ROOT_STEPS" = some (.int 2 t))(cm0:bF P w K mg base 1e6 4 "roots_by" 2 j1):bF P w K mg base 1e6 5 "roots_of" 1 gw:=
 bt F Ai rfl i 1e0 λc A O s H E R=>
 aO (aZ (aJ cm0 0e3 (aP 4e0 (aP (Dr dl0) (aY)))))
theorem vf(nm:Nm mg)(F:eJ K "roots_many" "roots_many" iN f fd)(i:mg "roots_many" = some 2e9)(dc0:bF P w K mg base 1e6 1 "check_ties" 1 cS)(cn0:bF P w K mg base 1e6 4 "root_choices" 2 fj):bF P w K mg base 1e6 5 "roots_many" 1 bQ:=
 bt F va rfl i 1e0 λc A O s H E R=>
 aH (fG (aJ dc0 0e3 2e2))
 (aO (aZ (bx iw nm.len (aP (aJ cn0 0e3 (aP 4e0 (aP (dP (aY)) (aY)))) (aY)))))
theorem vh(nm:Nm mg)(F:eJ K "first_root" "first_root" iP f fd)(i:mg "first_root" = some 2e9)(dc0:bF P w K mg base 1e6 1 "check_ties" 1 cS)(dn0:bF P w K mg base 1e6 5 "roots_of" 1 gw):bF P w K mg base 1e6 6 "first_root" 1 g9:=
 bt F vc rfl i 1e0 λc A O s H E R=>
 aH (fG (aJ dc0 0e3 2e2))
 (aO (aZ (MV 5e5 nm.min (aJ dn0 0e3 2e2))))
theorem yr(nm:Nm mg)(F:eJ K "all_roots" "all_roots" jC f fd)(i:mg "all_roots" = some 2e9)(dc0:bF P w K mg base 1e6 1 "check_ties" 1 cS)(dn0:bF P w K mg base 1e6 5 "roots_of" 1 gw)(co0:bF P w K mg base 1e6 1 "check_roots" 1 fX):bF P w K mg base 1e6 6 "all_roots" 1 gH:=
 bt F pw rfl i 1e0 λc A O s H E R=>
 aH (fG (aJ dc0 0e3 2e2))
 (aH (bO 1 pw.nd (aJ dn0 0e3 2e2))
 (aH (fG (aJ co0 0e3 2e3))
 (aO (aZ 6e2))))
theorem BL(nm:Nm mg)(F:eJ K "is_many" "is_many" lK f fd)(i:mg "is_many" = some 2e9)(cp0:∃t,mg "MOST_PLACES" = some (.int 6 t))(db0:bF P w K mg base 1e6 2 "is_whole_from" 3 br):bF P w K mg base 1e6 3 "is_many" 1 di:=
 bt F BB rfl i 1e0 λc A O s H E R=>
 aO (aZ (aJ db0 0e3 (aP 4e0 (aP (cP) (aP (Dr cp0) (aY))))))
theorem BK(nm:Nm mg)(F:eJ K "is_pair" "is_pair" lJ f fd)(i:mg "is_pair" = some 2e9)(dj0:bF P w K mg base 1e6 4 "is_places" 2 cV):bF P w K mg base 1e6 5 "is_pair" 2 gF:=
 bt F BA rfl i 0e6 λc A O s H E R=>
 aO (aZ (kg (aJ dj0 0e3 15e4) (kg (jo (pR 5e5) (bx iw nm.len 2e3) (cP)) (mh (jo (uW 5e5) (cg 6e2 (cP)) (cg 6e2 (cP)))))))
theorem D8(nm:Nm mg)(F:eJ K "is_tie" "is_tie" nk f fd)(i:mg "is_tie" = some 2e9)(do0:bF P w K mg base 1e6 5 "is_pair" 2 gF):bF P w K mg base 1e6 6 "is_tie" 2 mG:=
 bt F DW rfl i 0e6 λc A O s H E R=>
 aO (aZ (kg (aJ do0 0e3 15e4) (mh (jo 11e7 (cg 6e2 (cP)) (cg 6e2 (cP))))))
theorem BI(nm:Nm mg)(F:eJ K "is_ties" "is_ties" jW f fd)(i:mg "is_ties" = some 2e9)(cq0:bF P w K mg base 1e6 6 "is_tie" 2 mG)(dk0:bF P w K mg base 1e6 1 "is_rising" 1 cU):bF P w K mg base 1e6 7 "is_ties" 2 lg:=
 bt F By rfl i 0e6 λc A O s H E R=>
 aO (aZ (kg (vD (T:="tuple") 1e2 ph 1e2 1e2 nm.isinstance nm.tuple 6e2) (kg (bx nK nm.all (aP (cn (bh (N:=["many", "thing"]) (sc:=ar jW) (Nc:=["tie", "many"]) (cap:=[none,some 0]) rfl rfl 1e1) (kD 6e2) (λ_ _ _ _ _=>dJ 0 yw) 3e6 (λ_ _ _ _ _=>aJ cq0 0e3 (aP 6e2 2e2))) (aY))) (mh (aJ dk0 0e3 2e3)))))
theorem Al(nm:Nm mg)(F:eJ K "web_good" "web_good" kv f fd)(i:mg "web_good" = some 2e9)(dd0:bF P w K mg base 1e6 3 "is_many" 1 di)(cr0:bF P w K mg base 1e6 7 "is_ties" 2 lg):bF P w K mg base 1e6 8 "web_good" 1 jZ:=
 bt F mJ rfl i 1e0 λc A O s H E R=>
 aH (gJ (uU (wY (gL (rO (vD (T:="tuple") 1e2 ph 1e2 1e2 nm.isinstance nm.tuple 4e0))) (qF (b9 (uW 5e5) 14e3 (cP))))) 12e3 (dh))
 (aH (qH 4e0 (js (bU (dJ 1 mJ.nd) (bU (dJ 2 mJ.nd) (jt)))))
 (aO (aZ (kg (aJ dd0 0e3 2e3) (mh (aJ cr0 0e3 (aP 6e2 5e3)))))))
theorem D6(nm:Nm mg)(F:eJ K "web_of" "web_of" k6 f fd)(i:mg "web_of" = some 2e9)(dd0:bF P w K mg base 1e6 3 "is_many" 1 di)(do0:bF P w K mg base 1e6 5 "is_pair" 2 gF):bF P w K mg base 1e6 6 "web_of" 2 jV:=
 bt F qf rfl i 0e6 λc A O s H E R=>
 aH (gJ (gL (rO (aJ dd0 0e3 2e2))) (aO (lD)) (dh))
 (aH (jq Yc (IL nm.enumerate 2e3) (js (bU (dJ 2 qf.nd) (bU (dJ 3 qf.nd) (jt)))) (aO (gJ (gL (rO (aJ do0 0e3 (aP 4e0 (aP (aE 3) (aY)))))) (aO (lD)) (dh))))
 (aO (aZ (dP (aP 4e0 (aP (bx jz nm.tuple (aP (bx (lb 5e5) nm.sorted (aP (Jf (bh (N:=["many", "things", "at", "thing"]) (sc:=ar k6) (Nc:=["pair"]) (cap:=[none]) rfl rfl 1e1) (kD 6e2) (λ_ _ _ _ _=>dJ 0 Av) 3e6 (λ_ _ _ _ _ _=>RM rfl 5e5 (dP (aP (bx FH nm.min 2e2) (aP (bx za nm.max 2e2) (aY)))))) (aY))) (aY))) (aY)))))))
theorem uH(nm:Nm mg)(F:eJ K "check_place" "check_place" h8 f fd)(i:mg "check_place" = some 2e9)(di0:bF P w K mg base 1e6 3 "is_place" 2 eb):bF P w K mg base 1e6 4 "check_place" 2 fY:=
 bt F uz rfl i 0e6 λc A O s H E R=>
 aO (gJ (gL (rO (aJ di0 0e3 (aP 7e6 2e3)))) (aO (lD)) (dh))
theorem BJ(nm:Nm mg)(F:eJ K "is_tied" "is_tied" lI f fd)(i:mg "is_tied" = some 2e9):bF P w K mg base 1e6 1 "is_tied" 3 iB:=
 bt F Bz rfl i 9e7 λc A O s H E R=>
 aO (aZ (jo (AS 5e5) (dP (aP (bx FH nm.min (aP 6e2 5e3)) (aP (bx za nm.max (aP 6e2 5e3)) (aY)))) 7e6))
theorem uB(nm:Nm mg)(F:eJ K "next_places" "next_places" dU f fd)(i:mg "next_places" = some 2e9):bF P w K mg base 1e6 1 "next_places" 2 dE:=
 bt F uv rfl i 0e6 λc A O s H E R=>
 aO (aZ (iY (cn 16e5 (kD 4e0) (λ_ _ _ _ _=>js (bU (dJ 0 lp) (bU (dJ 1 lp) (jt)))) (λ_ _ _ _ _=>gA (b9 (AS 5e5) 4e0 12e5)) (λ_ _ _ _ _=>aE 1)) (cn 16e5 (kD 4e0) (λ_ _ _ _ _=>js (bU (dJ 0 ll) (bU (dJ 1 ll) (jt)))) (λ_ _ _ _ _=>gA (b9 (AS 5e5) 6e2 12e5)) 12e9)))
theorem yq(nm:Nm mg)(F:eJ K "fars_from" "fars_from" gY f fd)(i:mg "fars_from" = some 2e9)(dp0:bF P w K mg base 1e6 1 "next_places" 2 dE):bF P w K mg base 1e6 2 "fars_from" 2 gG:=
 bt F cR rfl i 0e6 λc A O s H E R=>
 aH (qH 4e0 (js (bU (dJ 2 cR.nd) (bU (dJ 3 cR.nd) (jt)))))
 (aH (bO 4 cR.nd (Fj (ip (aP (PL) (aY))) 12e5))
 (aH (qH (cP) (Ci (aE 4) 6e2))
 (aH (bO 5 cR.nd (cP))
 (aH (bO 6 cR.nd (ip 2e3))
 (aH (CP 100 Yc (rO (aE 6)) (aH (Ca 5 cR.nd (cP))
 (aH (lA 6 cR.nd (bh (N:=["web", "start", "many", "ties", "fars", "far", "front", "place"]) (sc:=ar gY) (Nc:=["place", "fars"]) (cap:=[none,some 4]) rfl rfl 1e1) (kD (aJ dp0 0e3 (aP (aE 3) (aP (aE 6) (aY))))) (λ_ _ _ _ _=>dJ 0 uO) (λ_ _ _ _ _=>gA (b9 (FA) (cg 6e2 4e0) (PL))) 12e9)
 (aO (jq Yc (kD (aE 6)) (dJ 7 cR.nd) (aO (qH (aE 5) (Ci (aE 4) (aE 7)))))))))
 (aO (aZ (aE 4))))))))
theorem BH(nm:Nm mg)(F:eJ K "star_of" "star_of" lH f fd)(i:mg "star_of" = some 2e9)(cs0:bF P w K mg base 1e6 4 "check_place" 2 fY)(dp0:bF P w K mg base 1e6 1 "next_places" 2 dE):bF P w K mg base 1e6 5 "star_of" 2 iA:=
 bt F Bw rfl i 0e6 λc A O s H E R=>
 aH (fG (aJ cs0 0e3 15e4))
 (aO (aZ (bx jz nm.tuple (aP (bx (lb 5e5) nm.sorted (aP (bx (Mi 5e5) nm.set (aP (iY (ip 2e3) (aJ dp0 0e3 (aP 7e6 (aP (ip 2e3) (aY))))) (aY))) (aY))) (aY)))))
theorem yi(nm:Nm mg)(F:eJ K "steps_web" "steps_web" gR f fd)(i:mg "steps_web" = some 2e9)(ct0:∃t,mg "MOST_STEPS" = some (.int 6 t))(db0:bF P w K mg base 1e6 2 "is_whole_from" 3 br)(cu0:bF P w K mg base 1e6 2 "fars_from" 2 gG):bF P w K mg base 1e6 3 "steps_web" 2 e0:=
 bt F fz rfl i 0e6 λc A O s H E R=>
 aH (gJ (gL (rO (aJ db0 0e3 (aP 6e2 (aP (cP) (aP (Dr ct0) (aY))))))) (aO (lD)) (dh))
 (aH (bO 2 fz.nd 7e6)
 (aH (bO 3 fz.nd (ip (aY)))
 (aH (jq Yc (pS nm.range 5e3) (dJ 4 fz.nd) (aH (bO 5 fz.nd (aJ cu0 0e3 (aP 4e0 14e6)))
 (aO (Ca 3 fz.nd (cn (bh (N:=["web", "k", "many", "ties", "one", "fars"]) (sc:=ar gR) (Nc:=["other", "one", "k", "fars"]) (cap:=[none,some 4,some 1,some 5]) rfl rfl 1e1) (QC nm.range (aP (iY (aE 4) (cP)) 5e3)) (λ_ _ _ _ _=>dJ 0 uK) (λ_ _ _ _ _=>gA (uU (LP (b9 (O1) (cg (aE 3) 4e0) (PL)) (FR (b9 (fO (op:=.LtE) 5e5) (cg (aE 3) 4e0) 12e5))))) (λ_ _ _ _ _=>dP (aP 6e2 2e2)))))))
 (aO (aZ (dP (aP 12e5 (aP (bx jz nm.tuple (aP (aE 3) (aY))) (aY)))))))))
theorem Am(nm:Nm mg)(F:eJ K "two_step" "two_step" kx f fd)(i:mg "two_step" = some 2e9)(cv0:bF P w K mg base 1e6 3 "steps_web" 2 e0):bF P w K mg base 1e6 4 "two_step" 1 d8:=
 bt F Ag rfl i 1e0 λc A O s H E R=>
 aO (aZ (aJ cv0 0e3 (aP 4e0 (aP (cP) (aY)))))
theorem yk(nm:Nm mg)(F:eJ K "knot_good" "knot_good" gS f fd)(i:mg "knot_good" = some 2e9)(dq0:bF P w K mg base 1e6 5 "is_rising_places" 2 bY)(dr0:bF P w K mg base 1e6 1 "is_tied" 3 iB):bF P w K mg base 1e6 6 "knot_good" 2 jc:=
 bt F yc rfl i 0e6 λc A O s H E R=>
 aH (gJ (gL (rO (aJ dq0 0e3 (aP 7e6 2e3)))) 12e3 (dh))
 (aO (aZ (bx nK nm.all (aP (xq (bh (N:=["web", "thing"]) (sc:=ar gS) (Nc:=["a", "b", "web", "thing"]) (cap:=[none,none,some 0,some 1]) rfl rfl 1e1) (kD 6e2) (λ_ _ _ _ _=>dJ 0 mX) 3e6 (λ_ _ _ _ _ _=>Fe rfl (kD (aE 3)) (dJ 1 mX) (gA (b9 11e7 4e0 6e2)) (IQ rfl (aJ dr0 0e3 (aP 12e5 15e4))))) (aY)))))
theorem yp(nm:Nm mg)(F:eJ K "fits_knot" "fits_knot" gX f fd)(i:mg "fits_knot" = some 2e9)(dr0:bF P w K mg base 1e6 1 "is_tied" 3 iB):bF P w K mg base 1e6 2 "fits_knot" 3 e4:=
 bt F yh rfl i 9e7 λc A O s H E R=>
 aO (aZ (bx nK nm.all (aP (cn (bh (N:=["web", "knot", "place"]) (sc:=ar gX) (Nc:=["other", "web", "place"]) (cap:=[none,some 0,some 2]) rfl rfl 1e1) (kD 6e2) (λ_ _ _ _ _=>dJ 0 uN) 3e6 (λ_ _ _ _ _=>aJ dr0 0e3 (aP 6e2 (aP 4e0 5e3)))) (aY))))
theorem Ar(nm:Nm mg)(F:eJ K "knots_of" "knots_of" i9 f fd)(i:mg "knots_of" = some 2e9)(ds0:bF P w K mg base 1e6 2 "fits_knot" 3 e4):bF P w K mg base 1e6 3 "knots_of" 1 j2:=
 bt F kB rfl i 1e0 λc A O s H E R=>
 aH (bO 1 kB.nd (ip (aY)))
 (aH (jq Yc (pS nm.range (aP 7e6 (aY))) (dJ 2 kB.nd) (aO (bO 1 kB.nd (iY (iY 6e2 (ip (aP (dP 5e3) (aY)))) (cn (bh (N:=["web", "knots", "place"]) (sc:=ar i9) (Nc:=["knot", "place", "web"]) (cap:=[none,some 2,some 0]) rfl rfl 1e1) (kD 6e2) (λ_ _ _ _ _=>dJ 0 vv) (λ_ _ _ _ _=>gA (rO (aJ ds0 0e3 (aP 12e5 15e4)))) (λ_ _ _ _ _=>iY 4e0 (dP 2e3)))))))
 (aO (aZ 6e2)))
theorem uC(nm:Nm mg)(F:eJ K "great_knots" "great_knots" e5 f fd)(i:mg "great_knots" = some 2e9)(cw0:bF P w K mg base 1e6 3 "knots_of" 1 j2)(ds0:bF P w K mg base 1e6 2 "fits_knot" 3 e4):bF P w K mg base 1e6 4 "great_knots" 1 fV:=
 bt F mU rfl i 1e0 λc A O s H E R=>
 aH (bO 1 mU.nd (MW nm.range nm.list (aP 7e6 (aY))))
 (aO (aZ (bx (lb 5e5) nm.sorted (aP (cn (bh (N:=["web", "places"]) (sc:=ar e5) (Nc:=["knot", "web", "places"]) (cap:=[none,some 0,some 1]) rfl rfl 1e1) (kD (aJ cw0 0e3 2e2)) (λ_ _ _ _ _=>dJ 0 qC) (λ_ _ _ _ _=>gA (gL (rO (bx Mj nm.any (aP (cn (x3 (N:=["knot", "web", "places"]) (Nc:=["place", "web", "knot"]) (cap:=[none,some 1,some 0]) rfl rfl 1e1) (kD 12e5) (λ_ _ _ _ _=>dJ 0 qB) 3e6 (λ_ _ _ _ _=>aJ ds0 0e3 (aP 6e2 (aP 12e5 2e2)))) (aY)))))) 12e9) (aY)))))
theorem BN(nm:Nm mg)(F:eJ K "is_even" "is_even" jY f fd)(i:mg "is_even" = some 2e9):bF P w K mg base 1e6 1 "is_even" 2 lh:=
 bt F t5 rfl i 0e6 λc A O s H E R=>
 aH (bO 2 t5.nd (cg 4e0 6e2))
 (aO (aZ (kg (jo (AS 5e5) 6e2 12e5) (mh (bx nK nm.all (aP (cn (bh (N:=["stars", "place", "star"]) (sc:=ar jY) (Nc:=["other", "star", "place", "stars"]) (cap:=[none,some 2,some 1,some 0]) rfl rfl 1e1) (pS nm.range (aP 14e3 (aY))) (λ_ _ _ _ _=>dJ 0 yz) 3e6 (λ_ _ _ _ _=>jo (pR 5e5) (jo (AS 5e5) 4e0 6e2) (jo (AS 5e5) 12e5 (cg (aE 3) 4e0)))) (aY)))))))
theorem vd(nm:Nm mg)(F:eJ K "stars_good" "stars_good" eG f fd)(i:mg "stars_good" = some 2e9)(dd0:bF P w K mg base 1e6 3 "is_many" 1 di)(dq0:bF P w K mg base 1e6 5 "is_rising_places" 2 bY)(cx0:bF P w K mg base 1e6 1 "is_even" 2 lh):bF P w K mg base 1e6 6 "stars_good" 1 cy:=
 bt F nN rfl i 1e0 λc A O s H E R=>
 aH (gJ (uU (wY (gL (rO (vD (T:="tuple") 1e2 ph 1e2 1e2 nm.isinstance nm.tuple 4e0))) (qF (gL (rO (aJ dd0 0e3 (aP 14e3 (aY)))))))) 12e3 (dh))
 (aH (bO 1 nN.nd 14e3)
 (aH (gJ (gL (rO (bx nK nm.all (aP (cn (bh (N:=["thing", "many"]) (sc:=ar eG) (Nc:=["star", "many"]) (cap:=[none,some 1]) rfl rfl 1e1) (kD 4e0) (λ_ _ _ _ _=>dJ 0 rE) 3e6 (λ_ _ _ _ _=>aJ dq0 0e3 (aP 6e2 2e2))) (aY))))) 12e3 (dh))
 (aO (aZ (bx nK nm.all (aP (cn (bh (N:=["thing", "many"]) (sc:=ar eG) (Nc:=["place", "thing"]) (cap:=[none,some 0]) rfl rfl 1e1) (pS nm.range 2e3) (λ_ _ _ _ _=>dJ 0 rD) 3e6 (λ_ _ _ _ _=>aJ cx0 0e3 (aP 6e2 2e2))) (aY)))))))
theorem uF(nm:Nm mg)(F:eJ K "check_stars" "check_stars" hZ f fd)(i:mg "check_stars" = some 2e9)(de0:bF P w K mg base 1e6 6 "stars_good" 1 cy):bF P w K mg base 1e6 7 "check_stars" 1 dF:=
 bt F ux rfl i 1e0 λc A O s H E R=>
 aO (gJ (gL (rO (aJ de0 0e3 2e2))) (aO (lD)) (dh))
theorem Ao(nm:Nm mg)(F:eJ K "stars_of" "stars_of" i7 f fd)(i:mg "stars_of" = some 2e9)(dt0:bF P w K mg base 1e6 5 "star_of" 2 iA):bF P w K mg base 1e6 6 "stars_of" 1 gv:=
 bt F Ah rfl i 1e0 λc A O s H E R=>
 aO (aZ (bx jz nm.tuple (aP (cn (bh (N:=["web"]) (sc:=ar i7) (Nc:=["place", "web"]) (cap:=[none,some 0]) rfl rfl 1e1) (pS nm.range (aP 7e6 (aY))) (λ_ _ _ _ _=>dJ 0 vq) 3e6 (λ_ _ _ _ _=>aJ dt0 0e3 (aP 6e2 2e2))) (aY))))
theorem D7(nm:Nm mg)(F:eJ K "web_by" "web_by" k7 f fd)(i:mg "web_by" = some 2e9)(du0:bF P w K mg base 1e6 7 "check_stars" 1 dF)(dv0:bF P w K mg base 1e6 6 "web_of" 2 jV):bF P w K mg base 1e6 8 "web_by" 1 gQ:=
 bt F DV rfl i 1e0 λc A O s H E R=>
 aH (fG (aJ du0 0e3 2e2))
 (aO (aZ (aJ dv0 0e3 (aP 14e3 (aP (xq (bh (N:=["stars"]) (sc:=ar k7) (Nc:=["a", "star", "b"]) (cap:=[none,none,none]) rfl rfl 1e1) (IL nm.enumerate 2e2) (λ_ _ _ _ _=>js (bU (dJ 0 mL) (bU (dJ 1 mL) (jt)))) 3e6 (λ_ _ _ _ _ _=>Fe rfl (kD 6e2) (dJ 2 mL) (gA (b9 11e7 4e0 12e5)) (IQ rfl (dP (aP 4e0 5e3))))) (aY))))))
theorem yl(nm:Nm mg)(F:eJ K "joined_by" "joined_by" gT f fd)(i:mg "joined_by" = some 2e9)(du0:bF P w K mg base 1e6 7 "check_stars" 1 dF)(dv0:bF P w K mg base 1e6 6 "web_of" 2 jV):bF P w K mg base 1e6 8 "joined_by" 1 dZ:=
 bt F yd rfl i 1e0 λc A O s H E R=>
 aH (fG (aJ du0 0e3 2e2))
 (aO (aZ (aJ dv0 0e3 (aP 14e3 (aP (xq (bh (N:=["stars"]) (sc:=ar gT) (Nc:=["star", "a", "b"]) (cap:=[none,none,none]) rfl rfl 1e1) (kD 4e0) (λ_ _ _ _ _=>dJ 0 j4) 3e6 (λ_ _ _ _ _ _=>Fe rfl (kD 4e0) (dJ 1 j4) (dN) (Fe rfl (kD 4e0) (dJ 2 j4) (gA (b9 11e7 6e2 12e5)) (IQ rfl (dP (aP 6e2 5e3)))))) (aY))))))
theorem vg(nm:Nm mg)(F:eJ K "holds_good" "holds_good" iO f fd)(i:mg "holds_good" = some 2e9)(de0:bF P w K mg base 1e6 6 "stars_good" 1 cy)(dw0:bF P w K mg base 1e6 8 "joined_by" 1 dZ):bF P w K mg base 1e6 9 "holds_good" 2 g8:=
 bt F vb rfl i 0e6 λc A O s H E R=>
 aO (aZ (kg (aJ de0 0e3 2e3) (mh (jo (pR 5e5) (aJ dw0 0e3 2e3) 4e0))))
theorem uD(nm:Nm mg)(F:eJ K "first_stars" "first_stars" hX f fd)(i:mg "first_stars" = some 2e9)(cy0:bF P w K mg base 1e6 6 "first_root" 1 g9)(dx0:bF P w K mg base 1e6 6 "stars_of" 1 gv):bF P w K mg base 1e6 7 "first_stars" 1 eH:=
 bt F mV rfl i 1e0 λc A O s H E R=>
 aH (bO 1 mV.nd (aJ cy0 0e3 2e2))
 (aO (aZ (SA (b9 (FA) 6e2 (PL)) (PL) (aJ dx0 0e3 2e3))))
theorem yo(nm:Nm mg)(F:eJ K "held_many" "held_many" jB f fd)(i:mg "held_many" = some 2e9)(dh0:bF P w K mg base 1e6 5 "roots_many" 1 bQ):bF P w K mg base 1e6 6 "held_many" 1 jd:=
 bt F yg rfl i 1e0 λc A O s H E R=>
 aO (aZ (aJ dh0 0e3 2e2))
theorem yj(nm:Nm mg)(F:eJ K "root_good" "root_good" jA f fd)(i:mg "root_good" = some 2e9)(cz0:bF P w K mg base 1e6 8 "web_good" 1 jZ)(df0:bF P w K mg base 1e6 4 "two_step" 1 d8):bF P w K mg base 1e6 9 "root_good" 2 jb:=
 bt F yb rfl i 0e6 λc A O s H E R=>
 aO (aZ (kg (aJ cz0 0e3 2e3) (mh (jo (pR 5e5) (aJ df0 0e3 2e3) 4e0))))
theorem rB(nm:Nm mg)(F:eJ K "_law_cell_at" "_law_cell_at" gm f fd)(i:mg "_law_cell_at" = some 2e9):bF P w K mg base 1e6 1 "_law_cell_at" 2 fm:=
 bt F rx rfl i 0e6 λc A O s H E R=>
 aH (gJ (b9 11e7 6e2 14e3) (aO (aZ (cg 4e0 6e2))) (dh))
 (aO (aZ (cP)))
theorem yt(nm:Nm mg)(F:eJ K "_law_next" "_law_next" jD f fd)(i:mg "_law_next" = some 2e9):bF P w K mg base 1e6 1 "_law_next" 1 gI:=
 bt F pz rfl i 1e0 λc A O s H E R=>
 aH (bO 0 pz.nd (yW (iY 4e0 (cP)) (cP)))
 (aO (aZ (yW (iY (iY (Fj 4e0 4e0) (Fj (cP) 4e0)) (cP)) (cP))))
theorem uJ(nm:Nm mg)(F:eJ K "_law_pen_of" "_law_pen_of" ia f fd)(i:mg "_law_pen_of" = some 2e9):bF P w K mg base 1e6 1 "_law_pen_of" 1 fZ:=
 bt F mW rfl i 1e0 λc A O s H E R=>
 aH (bO 1 mW.nd (bx za nm.max (aP 4e0 (aP (oI (cP) 4e0) (aY)))))
 (aO (aZ (ip (aP 6e2 (aP (bx RK nm.int (aP (jo (fO (op:=.GtE) 5e5) 6e2 (QL (cP) (cP))) (aY))) (aP (yW 6e2 (cP)) (aY)))))))
theorem yu(nm:Nm mg)(F:eJ K "_law_draw" "_law_draw" jE f fd)(i:mg "_law_draw" = some 2e9)(cc0:bF P w K mg base 1e6 1 "_law_next" 1 gI):bF P w K mg base 1e6 2 "_law_draw" 2 bu:=
 bt F pA rfl i 0e6 λc A O s H E R=>
 aH (gJ (b9 (pR 5e5) 7e6 (cP)) (aH (bO 2 pA.nd (yW 7e6 6e2))
 (aH (qH (FL 7e6 6e2) (Ci 4e0 (cP)))
 (aO (aZ 12e5)))) (dh))
 (aH (qH (aJ cc0 0e3 (aP (iY (aJ cc0 0e3 (aP 7e6 (aY))) (cP)) (aY))) (Ci 4e0 (cP)))
 (aO (aZ (yW (FL 7e6 (cP)) 6e2))))
theorem uI(nm:Nm mg)(F:eJ K "_law_web_of" "_law_web_of" e7 f fd)(i:mg "_law_web_of" = some 2e9):bF P w K mg base 1e6 1 "_law_web_of" 2 bV:=
 bt F uA rfl i 0e6 λc A O s H E R=>
 aO (aZ (dP (aP 4e0 (aP (bx jz nm.tuple (aP (bx (lb 5e5) nm.sorted (aP (bx (Mi 5e5) nm.set (aP (cn (bh (N:=["_law_many", "_law_ties"]) (sc:=ar e7) (Nc:=["_law_a", "_law_b"]) (cap:=[none,none]) rfl rfl 1e1) (kD 6e2) (λ_ _ _ _ _=>js (bU (dJ 0 lr) (bU (dJ 1 lr) (jt)))) 3e6 (λ_ _ _ _ _=>dP (aP (bx FH nm.min 15e4) (aP (bx za nm.max 15e4) (aY))))) (aY))) (aY))) (aY))) (aY)))))
theorem pN(nm:Nm mg)(F:eJ K "_law_drawn_web" "_law_drawn_web" dw f fd)(i:mg "_law_drawn_web" = some 2e9)(da0:bF P w K mg base 1e6 2 "_law_draw" 2 bu)(dg0:bF P w K mg base 1e6 1 "_law_web_of" 2 bV):bF P w K mg base 1e6 3 "_law_drawn_web" 2 b0:=
 bt F dy rfl i 0e6 λc A O s H E R=>
 aH (bO 2 dy.nd (iY (cP) (aJ da0 0e3 15e4)))
 (aH (bO 3 dy.nd (iY (cP) (aJ da0 0e3 (aP 4e0 (aP (cP) (aY))))))
 (aH (bO 4 dy.nd (ip (aY)))
 (aH (jq Yc (pS nm.range 5e3) (dJ 5 dy.nd) (aO (fG (LN (aE 4) (aP (cn (bh (N:=["_law_pen", "_law_most", "_law_many", "_law_share", "_law_ties", "_law_one"]) (sc:=ar dw) (Nc:=["_law_other", "_law_one", "_law_pen", "_law_share"]) (cap:=[none,some 5,some 0,some 3]) rfl rfl 1e1) (pS nm.range (aP (aE 5) (aY))) (λ_ _ _ _ _=>dJ 0 nE) (λ_ _ _ _ _=>gA (b9 (pR 5e5) (aJ da0 0e3 (aP 12e5 (aP (aE 3) (aY)))) (cP))) (λ_ _ _ _ _=>dP 15e4)) (aY))))))
 (aO (aZ (aJ dg0 0e3 (aP 12e5 14e6)))))))
theorem rA(nm:Nm mg)(F:eJ K "_law_near_of" "_law_near_of" ez f fd)(i:mg "_law_near_of" = some 2e9):bF P w K mg base 1e6 1 "_law_near_of" 2 fk:=
 bt F rq rfl i 0e6 λc A O s H E R=>
 aO (aZ (cn (bh (N:=["_law_web", "_law_place"]) (sc:=ar ez) (Nc:=["_law_a", "_law_b", "_law_place"]) (cap:=[none,none,some 1]) rfl rfl 1e1) (kD 7e6) (λ_ _ _ _ _=>js (bU (dJ 0 kC) (bU (dJ 1 kC) (jt)))) (λ_ _ _ _ _=>gA (b9 (AS 5e5) 12e5 (dP 15e4))) (λ_ _ _ _ _=>oI (iY 4e0 6e2) 12e5)))
theorem ny(nm:Nm mg)(F:eJ K "_law_two_step_of" "_law_two_step_of" cN f fd)(i:mg "_law_two_step_of" = some 2e9)(ba0:bF P w K mg base 1e6 1 "_law_near_of" 2 fk)(dg0:bF P w K mg base 1e6 1 "_law_web_of" 2 bV):bF P w K mg base 1e6 2 "_law_two_step_of" 1 de:=
 bt F cO rfl i 1e0 λc A O s H E R=>
 aH (bO 1 cO.nd (bx Gq nm.list (aP 7e6 (aY))))
 (aH (jq Yc (pS nm.range (aP 7e6 (aY))) (dJ 2 cO.nd) (aH (bO 3 cO.nd (aJ ba0 0e3 (aP 4e0 5e3)))
 (aO (jq Yc (kD (aE 3)) (dJ 4 cO.nd) (aO (fG (LN 6e2 (aP (cn (bh (N:=["_law_web", "_law_ties", "_law_place", "_law_near", "_law_one"]) (sc:=ar cN) (Nc:=["_law_other", "_law_one"]) (cap:=[none,some 4]) rfl rfl 1e1) (kD (aE 3)) (λ_ _ _ _ _=>dJ 0 l6) (λ_ _ _ _ _=>gA (b9 11e7 6e2 4e0)) (λ_ _ _ _ _=>dP (aP 6e2 2e2))) (aY)))))))))
 (aO (aZ (aJ dg0 0e3 (aP 7e6 2e3)))))
theorem rC(nm:Nm mg)(F:eJ K "_law_any_web" "_law_any_web" eA f fd)(i:mg "_law_any_web" = some 2e9)(dy0:bF P w K mg base 1e6 3 "_law_drawn_web" 2 b0)(da0:bF P w K mg base 1e6 2 "_law_draw" 2 bu)(bb0:bF P w K mg base 1e6 2 "_law_two_step_of" 1 de)(dg0:bF P w K mg base 1e6 1 "_law_web_of" 2 bV):bF P w K mg base 1e6 4 "_law_any_web" 2 c8:=
 bt F cm rfl i 0e6 λc A O s H E R=>
 aH (bO 2 cm.nd (aJ dy0 0e3 15e4))
 (aH (bO 3 cm.nd (aJ da0 0e3 (aP 4e0 (aP (cP) (aY)))))
 (aH (gJ (b9 (pR 5e5) (aE 3) (cP)) (aO (aZ 12e5)) (dh))
 (aH (bO 2 cm.nd (aJ bb0 0e3 5e3))
 (aH (gJ (uU (LP (b9 (pR 5e5) (aE 3) (cP)) (FR (b9 (fO (op:=.Gt) 5e5) (cg 12e5 (cP)) (cP))))) (aH (bO 4 cm.nd (aJ da0 0e3 (aP 4e0 (aP (oI (cg 12e5 (cP)) (cP)) (aY)))))
 (aH (bO 5 cm.nd (dP (aP (aE 4) (aP (iY (iY (aE 4) (cP)) (aJ da0 0e3 (aP 4e0 (aP (oI (oI (cg 12e5 (cP)) (cP)) (aE 4)) (aY))))) (aY)))))
 (aH (lA 6 cm.nd (bh (N:=["_law_pen", "_law_most", "_law_web", "_law_way", "_law_one", "_law_pair", "_law_some"]) (sc:=ar eA) (Nc:=["_law_tie", "_law_pair"]) (cap:=[none,some 5]) rfl rfl 1e1) (kD (cg 12e5 (cP))) (λ_ _ _ _ _=>dJ 0 pP) (λ_ _ _ _ _=>gA (b9 (uW 5e5) 4e0 6e2)) 12e9)
 (aH (gJ (b9 (Cc 5e5) (aE 5) (cg 12e5 (cP))) (aO (fG (vE (aE 6) (aP (aE 5) (aY))))) (dh))
 (aO (bO 2 cm.nd (aJ dg0 0e3 (aP (cg 12e5 (cP)) (aP (aE 6) (aY)))))))))) (dh))
 (aO (aZ 12e5))))))
theorem qz(nm:Nm mg)(F:eJ K "_law_few_ties" "_law_few_ties" fB f fd)(i:mg "_law_few_ties" = some 2e9)(da0:bF P w K mg base 1e6 2 "_law_draw" 2 bu):bF P w K mg base 1e6 3 "_law_few_ties" 3 eC:=
 bt F lj rfl i 9e7 λc A O s H E R=>
 aH (bO 3 lj.nd (bx Gq nm.list (aP (cg 6e2 (cP)) (aY))))
 (aH (CP 100 Yc (b9 (fO (op:=.Gt) 5e5) (bx iw nm.len (aP (aE 3) (aY))) 12e5) (aO (fG (QM (aE 3) (aP (aJ da0 0e3 (aP 4e0 (aP (bx iw nm.len (aP (aE 3) (aY))) (aY)))) (aY))))))
 (aO (aZ (dP (aP (cg 6e2 (cP)) (aP (bx jz nm.tuple (aP (aE 3) (aY))) (aY)))))))
theorem pM(nm:Nm mg)(F:eJ K "_law_one_right" "_law_one_right" cI f fd)(i:mg "_law_one_right" = some 2e9)(dx0:bF P w K mg base 1e6 6 "stars_of" 1 gv)(de0:bF P w K mg base 1e6 6 "stars_good" 1 cy)(dz0:bF P w K mg base 1e6 8 "web_by" 1 gQ)(dw0:bF P w K mg base 1e6 8 "joined_by" 1 dZ)(df0:bF P w K mg base 1e6 4 "two_step" 1 d8)(dt0:bF P w K mg base 1e6 5 "star_of" 2 iA)(bc0:bF P w K mg base 1e6 9 "holds_good" 2 g8)(bd0:bF P w K mg base 1e6 9 "root_good" 2 jb)(be0:bF P w K mg base 1e6 4 "great_knots" 1 fV)(bf0:bF P w K mg base 1e6 6 "knot_good" 2 jc):bF P w K mg base 1e6 10 "_law_one_right" 2 bZ:=
 bt F cJ rfl i 0e6 λc A O s H E R=>
 aH (bO 2 cJ.nd (aJ dx0 0e3 2e3))
 (aH (gJ (uU (wY (gL (rO (aJ de0 0e3 5e3))) (wY (b9 (uW 5e5) (aJ dz0 0e3 5e3) 6e2) (qF (b9 (uW 5e5) (aJ dw0 0e3 5e3) (aJ df0 0e3 2e3)))))) 12e3 (dh))
 (aH (gJ (b9 (uW 5e5) 12e5 (bx jz nm.tuple (aP (cn (bh (N:=["_law_web", "_law_other", "_law_stars", "_law_holds", "_law_great", "_law_lot", "_law_inside"]) (sc:=ar cI) (Nc:=["_law_place", "_law_other"]) (cap:=[none,some 1]) rfl rfl 1e1) (pS nm.range (aP (cg 6e2 (cP)) (aY))) (λ_ _ _ _ _=>dJ 0 nB) 3e6 (λ_ _ _ _ _=>aJ dt0 0e3 (aP 6e2 2e2))) (aY)))) 12e3 (dh))
 (aH (bO 3 cJ.nd (aJ bc0 0e3 (aP 4e0 5e3)))
 (aH (gJ (b9 (uW 5e5) (aE 3) (aJ bd0 0e3 15e4)) 12e3 (dh))
 (aH (gJ (gL (rO (aE 3))) 12e3 (dh))
 (aH (bO 4 cJ.nd (aJ be0 0e3 2e2))
 (aH (jq Yc (kD 12e5) (dJ 5 cJ.nd) (aH (lA 6 cJ.nd (bh (N:=["_law_web", "_law_other", "_law_stars", "_law_holds", "_law_great", "_law_lot", "_law_inside"]) (sc:=ar cI) (Nc:=["_law_big", "_law_lot"]) (cap:=[none,some 5]) rfl rfl 1e1) (kD (aE 4)) (λ_ _ _ _ _=>dJ 0 nA) (λ_ _ _ _ _=>gA (b9 (pR 5e5) (cn (x3 (N:=["_law_big", "_law_lot"]) (Nc:=["_law_one", "_law_big"]) (cap:=[none,some 0]) rfl rfl 1e1) (kD 6e2) (λ_ _ _ _ _=>dJ 0 nz) (λ_ _ _ _ _=>gA (b9 (Cc 5e5) 4e0 6e2)) 12e9) (ip (aY)))) 12e9)
 (aO (gJ (uU (wY (gL (rO (aJ bf0 0e3 (aP 4e0 (aP (aE 5) (aY)))))) (qF (b9 (pR 5e5) (aE 6) (ip (aY)))))) 12e3 (dh)))))
 (aO (aZ (AE))))))))))
theorem Pi(nm:Nm mg)(F:eJ K "law" "law" lz f fd)(bg0:bF P w K mg base 1e6 1 "_law_cell_at" 2 fm)(bh0:bF P w K mg base 1e6 1 "_law_pen_of" 1 fZ)(dy0:bF P w K mg base 1e6 3 "_law_drawn_web" 2 b0)(bi0:bF P w K mg base 1e6 3 "_law_few_ties" 3 eC)(bj0:bF P w K mg base 1e6 4 "_law_any_web" 2 c8)(da0:bF P w K mg base 1e6 2 "_law_draw" 2 bu)(ca0:bF P w K mg base 1e6 10 "_law_one_right" 2 bZ)(df0:bF P w K mg base 1e6 4 "two_step" 1 d8)(bk0:bF P w K mg base 1e6 6 "held_many" 1 jd)(dh0:bF P w K mg base 1e6 5 "roots_many" 1 bQ)(bl0:bF P w K mg base 1e6 7 "first_stars" 1 eH)(bm0:bF P w K mg base 1e6 6 "all_roots" 1 gH)(dz0:bF P w K mg base 1e6 8 "web_by" 1 gQ):u4 P w K mg base EO 11 f fd ["_law_script"] (LF 1e6 1 zc):=
 RE F mq rfl λc A O s H E R=>
 aH (jq Yc (kD (iY (ip (aP (aJ bg0 0e3 (aP 4e0 (aP (cP) (aY)))) (aY))) (SD 4e0 (Cp (cP)) (Cp (cP))))) (dJ 1 mq.nd) (aH (bO 2 mq.nd (aJ bh0 0e3 2e3))
 (aH (bO 3 mq.nd (aJ dy0 0e3 (aP 12e5 (aP (cP) (aY)))))
 (aH (bO 4 mq.nd (aJ bi0 0e3 (aP 12e5 (aP (aJ bj0 0e3 (aP 12e5 (aP (cP) (aY)))) (aP (cP) (aY))))))
 (aH (bO 5 mq.nd (dP (aP (cg (aE 4) (cP)) (aP (bx jz nm.tuple (aP (cn (bh (N:=["_law_script", "_law_cell", "_law_pen", "_law_one", "_law_web", "_law_again", "_law_first", "_law_roots"]) (sc:=ar lz) (Nc:=["_law_tie", "_law_pen"]) (cap:=[none,some 2]) rfl rfl 1e1) (kD (cg (aE 4) (cP))) (λ_ _ _ _ _=>dJ 0 HD) (λ_ _ _ _ _=>gA (b9 (pR 5e5) (aJ da0 0e3 (aP 6e2 (aP (cP) (aY)))) (cP))) 12e9) (aY))) (aY)))))
 (aH (gJ (uU (wY (gL (rO (aJ ca0 0e3 (aP (aJ df0 0e3 (aP (aE 3) (aY))) (aP (aE 3) (aY)))))) (qF (gL (rO (aJ ca0 0e3 (aP (aE 4) (aP (aE 5) (aY))))))))) 12e3 (dh))
 (aH (gJ (b9 (uW 5e5) (aJ bk0 0e3 14e6) (aJ dh0 0e3 14e6)) 12e3 (dh))
 (aH (bO 6 mq.nd (aJ bl0 0e3 14e6))
 (aH (gJ (b9 (uW 5e5) (jo (FA) (aE 6) (PL)) (jo (pR 5e5) (aJ dh0 0e3 14e6) (cP))) 12e3 (dh))
 (aO (gJ (QP 11e7 11e7 (cP) (aJ dh0 0e3 14e6) (cP)) (aH (bO 7 mq.nd (aJ bm0 0e3 14e6))
 (aO (gJ (uU (wY (b9 (uW 5e5) (aJ dz0 0e3 (aP (aE 6) (aY))) (cg (aE 7) (cP))) (qF (gL (rO (bx nK nm.all (aP (cn (bh (N:=["_law_script", "_law_cell", "_law_pen", "_law_one", "_law_web", "_law_again", "_law_first", "_law_roots"]) (sc:=ar lz) (Nc:=["_law_root", "_law_web"]) (cap:=[none,some 4]) rfl rfl 1e1) (kD (aE 7)) (λ_ _ _ _ _=>dJ 0 HC) 3e6 (λ_ _ _ _ _=>aJ ca0 0e3 (aP 6e2 2e2))) (aY)))))))) 12e3 (dh)))) (dh))))))))))))
 (aO (aZ (AE)))
end
end Lw
namespace Lv
variable{adj:Int->Int->Prop}{p:Int}
def R(adj:Int->Int->Prop)(p:Int):Nat->Int->Prop
 |0,q=>q=p
 |n+1,q=>R adj p n q\/∃r,adj r q/\R adj p n r
def wW(adj:Int->Int->Prop)(p:Int):Nat->Int->Prop
 |0,q=>q=p
 |n+1,q=>R adj p (n+1) q/\¬ R adj p n q
theorem R.up(h:R adj p n q):R adj p (n+1) q:=.inl h
theorem R.mono(h:R adj p n q)(i:n<=m):R adj p m q:=by
 induction i with
 |refl=>exact h
 |step _ I=>exact I.up
theorem wW.r(h:wW adj p n q):R adj p n q:=by
 cases n with
 |zero=>exact h
 |succ n=>exact h.1
theorem R.lev(h:R adj p n q):∃j,j<=n/\wW adj p j q:=by
 induction n with
 |zero=>exact⟨0,UG _,h⟩
 |succ n I=>
  by_cases r:R adj p n q
  ·obtain⟨j,D,i⟩:=I r;exact⟨j,by omega,i⟩
  ·exact⟨n+1,UG _,h,r⟩
theorem wW.low(h:wW adj p n q)(D:j<n):¬ R adj p j q:=by
 cases n with
 |zero=>omega
 |succ n=>exact λr=>h.2 (r.mono 0e1)
theorem wW.one(h:wW adj p n q)(h':wW adj p m q):n=m:=by
 rcases Nat.lt_trichotomy n m with z|z|z
 ·exact absurd h.r (h'.low z)
 ·exact z
 ·exact absurd h'.r (h.low z)
theorem kY:wW adj p (n+1) q↔¬ R adj p n q/\∃r,adj r q/\wW adj p n r:=by
 constructor
 ·rintro ⟨H, c⟩
  refine⟨c,?_⟩;rcases H with H|⟨r,h,a⟩
  ·exact absurd H c
  ·refine ⟨r, h, ?_⟩;cases n with
   |zero=>exact a
   |succ n=>exact⟨a,λz=>c (.inr ⟨r,h,z⟩)⟩
 ·rintro ⟨H, r, h, a⟩
  exact⟨.inr ⟨r,h,a.r⟩,H⟩
def Up(adj:Int->Int->Prop)(p:Int)(D:Int->Prop)(n:Nat)(f:Int->Option Nat):Prop:=∀q,D q->∀j,f q=some j↔(j<=n/\wW adj p j q)
theorem Up.none{D:Int->Prop}{f:Int->Option Nat}(h:Up adj p D n f)(z:D q):f q=none↔¬ R adj p n q:=by
 constructor
 ·intro e a;obtain⟨j,H,i⟩:=a.lev;have:=(h q z j).mpr ⟨H,i⟩;rw[e]at this;cases this
 ·intro a;cases e:f q with
  |none=>rfl
  |some j=>
   obtain⟨H,i⟩:=(h q z j).mp e;exact absurd (i.r.mono H) a
theorem LD{D:Int->Prop}{f:Int->Option Nat}(h:∀q,D q->f q=if q=p then some 0 else Option.none):Up adj p D 0 f:=λq Q j=>by
 rw[h q Q];by_cases e:q=p
 ·rw [T1 e];constructor
  ·intro z;cases z;exact⟨UG _,e⟩
  ·rintro ⟨H, _⟩
   have:j=0:=by omega
   rw[this]
 ·rw [T3 e];constructor
  ·intro z;cases z
  ·rintro ⟨H, c⟩
   have:j=0:=by omega
   subst this;exact absurd c e
theorem Up.next{D:Int->Prop}{f f':Int->Option Nat}(h:Up adj p D n f)(hD:∀a b,adj a b->D a)(e:∀q,D q->∀j,f' q=some j↔(f q=some j\/(f q=Option.none/\j=n+1/\∃r,adj r q/\f r=some n))):Up adj p D (n+1) f':=λq H j=>by
 rw[e q H j];constructor
 ·rintro (z | ⟨d, G, r, μ, g⟩)
  ·obtain⟨J,i⟩:=(h q H j).mp z;exact⟨by omega,i⟩
  ·subst G;refine⟨UG _,kY.mpr ⟨(h.none H).mp d,r,μ,?_⟩⟩;exact((h r (hD r q μ) n).mp g).2
 ·rintro ⟨J, i⟩
  by_cases N:j<=n
  ·exact .inl ((h q H j).mpr ⟨N,i⟩)
  ·have : j = n + 1 := by omega
   subst this;obtain⟨c,r,A,R⟩:=kY.mp i;exact .inr ⟨(h.none H).mpr c,rfl,r,A,(h r (hD r q A) n).mpr ⟨UG _,R⟩⟩
def sy(adj:Int->Int->Prop)(p:Int)(D:Int->Prop)(f:Int->Option Nat):Prop:=∀q,D q->∀j,f q=some j↔wW adj p j q
theorem sy.eq{D:Int->Prop}{f g:Int->Option Nat}(h:sy adj p D f)(h':sy adj p D g)(z:D q):f q=g q:=by
 apply Option.ext;intro j;rw[h q z j,h' q z j]
theorem wW.below:∀{q:Int},wW adj p n q->∀j,j<=n->∃r,wW adj p j r:=by
 induction n with
 | zero => intro q h j D; exact ⟨q, by have : j = 0 := by omega
                                       subst this;exact h⟩
 |succ n i=>
  intro q h j D;by_cases e:j=n+1
  ·subst e;exact⟨q,h⟩
  ·obtain⟨_,r,_,R⟩:=kY.mp h;exact i R j 0e1
theorem Up.full{D:Int->Prop}{f:Int->Option Nat}(h:Up adj p D n f)(hD:∀a b,adj a b->D b)(e:∀q,D q->¬ wW adj p (n+1) q):sy adj p D f:=λq H j=>by
 rw[h q H j];constructor
 ·exact λz=>z.2
 ·intro i;refine⟨?_,i⟩;apply Nat.le_of_not_lt;intro J;obtain⟨r,R⟩:=i.below (n+1) 0e1;obtain⟨_,s,S,_⟩:=kY.mp R;exact e r (hD s r S) R
theorem OU(P:0<=p/\p<m)(hD:∀a b,adj a b->0<=b/\b<m)(h:wW adj p n q):n<m:=by
 have c:∀j,∃r,j<=n->wW adj p j r:=λj=>by
  by_cases D:j<=n
  ·obtain⟨r,c⟩:=h.below j D;exact⟨r,λ_=>c⟩
  ·exact⟨0,λz=>absurd z D⟩
 let r:Nat->Int:=λj=>(c j).choose
 have H:∀j,j<=n->wW adj p j (r j):=λj D=>(c j).choose_spec D
 have rng:∀j,j<=n->0<=r j/\r j<m:=λj D=>by
  have:=H j D;cases j with
  |zero=>rw[show r 0=p from this];exact P
  |succ j=>
   obtain⟨_,s,S,_⟩:=kY.mp this;exact hD s _ S
 have N:((List.range (n+1)).map λj=>(r j).toNat).Nodup:=by
  rw[List.Nodup,XQ];refine List.Pairwise.imp_of_mem (R:=(·<·)) ?_ WD;intro a b A g B e;rw[Ua]at A g;have i:=rng a 0e1;have M:=rng b 0e1;have E:r a=r b:=by omega
  have d:=H a 0e1;have f:=H b 0e1;rw[E]at d;have:=d.one f;omega
 have sub:((List.range (n+1)).map λj=>(r j).toNat) ⊆ List.range m:=λx X=>by
  obtain⟨j,D,rfl⟩:=We.mp X;rw[Ua]at D⊢;have:=rng j 0e1;omega
 have:=N.length_le_of_subset sub;rw[U1,V7,V7]at this;omega
end Lv
namespace Lv
def sj(f:Int->Option Nat)(r:Int)(v:Nat):Int->Option Nat:=λq=>if q=r then some v else f q
end Lv
namespace Lw
open PySem L2 RS
theorem bH:1000<=sizeLine:=by decide
theorem tr{lo:Int}:bR lo n=(List.range n).map λ(i:Nat)=>D.int (lo+(i:Int)):=rfl
theorem CF(s:Int):∃r:Int,gI [.int s] Z=.ok (.int r) Z:=by
 have d:0<=(s+7919)%2147483647:=Yd _ 1e2;have H:(s+7919)%2147483647<2147483647:=Ye _ 1e2;generalize J:(s+7919)%2147483647=t at d H;refine⟨(t*t+48271*t+12345)%2147483629,?_⟩;have c:yV t t:=.inl ⟨by omega,by omega⟩;have c2:yV 48271 t:=.inl ⟨by omega,by omega⟩;unfold gI;rw[bX];simp[rh,J,c,c2];exact bo 0e9
def df(a b c:Int):O:=.lst [.int a,.int b,.int c]
theorem xI{a b c:Int}:(df a b c).low n:=by simp[df,O.low]
theorem Nv(x:Int):∃a b c:Int,fZ [.int x] Z=.ok 1e4 (Z++[df a b c]):=by
 have e:∀i j:Int,n5 [.int i,.int j] Z=.ok 15e8 Z:=λ_ _=>rfl;have p:DB 10 18:=⟨by decide,by decide,by decide⟩;have I:∀k:Bool,∀Z,y6 [.bl k] Z=.ok (.int (if k then 1 else 0)) Z:=λ_ _=>rfl;refine⟨(if 0-x>x then 0-x else x),(if cmpI .GtE (if 0-x>x then 0-x else x) (10^(18:Int).toNat) then 1 else 0),(if 0-x>x then 0-x else x)%1000003,?_⟩;unfold fZ;rw[bX];have l:(3:Nat)<=sizeLine:=by decide
 dsimp[nZ,aG,aT,au,aq,av,ag,aj,aD,bg,aa,af,ae,sI,e,bj,az,aS,jT,List.set,List.replicate,Yf,Yg];have w:Mz (.int 10) (.int 18) Z=.ok (.int (10^(18:Int).toNat)) Z:=og p;have m:∀x,yN 11e8 (.int 1000003) Z=.ok (.int (x%1000003)) Z:=λx=>og (show (0:Int)<1000003 by decide);dsimp[w,m,aa,af,cq,I,VF,V8,T1 l,ae,aL];rw[jQ 0e9];rfl
theorem JC{a b c m:Int}(h:Z[i]?=some (df a b c))(d:0<m)(g:m<1073741824):
  ∃r a' b' c':Int,0<=r/\r<m/\bu [.obj i,.int m] Z=.ok (.int r) (Z.set i (df a' b' c')):=by
 have I:i<Z.length:=(Ul.mp h).1;have u:Z[i]?=some (.lst [.int a,.int b,.int c]):=h;have M:∀{x:Int}{Z:aC},yN 11e8 5e6 Z=.ok (.int (x%m)) Z:=λ{x Z}=>og (show (λ_ j=>(0:Int)<j) x m from d);have f:∀{x:Int}{Z:aC},y8 11e8 5e6 Z=.ok (.int (x / m)) Z:=λ{x Z}=>og (show IV x m from⟨d,by omega⟩);have f64:∀{x:Int}{Z:aC},y8 11e8 (.int 64) Z=.ok (.int (x / 64)) Z:=λ{x Z}=>og (show IV x 64 from⟨by decide,by decide⟩);unfold bu;rw[bS];by_cases B:b=1
 ·subst B;refine⟨a%m,a / m,1,c,Yd _ 0e1,Ye _ d,?_⟩;dsimp[mT,aG,bL,bW,aD,ag,aj,bg,aa,af];rw[kF u FJ];dsimp[aa,af,jh,VD,U9,aX,ae,aG,aT,aD,ag,aj,bg];dsimp[VE,U8,U9,aG,aT,aD,ag,aj,bg,aa,af];rw[kF u zb];dsimp[aa,af,M,ae,bj,az,List.replicate,Yf,Yg,ag,aj,bg,aD,aT,aG];rw[kF u zb];dsimp[aa,af,f,ae,r8,ag,aj,bg];rw[rY u (pZ 1e2 0e9)];dsimp[aa,af,ae,az,aS,ag,aj,mn,aL];exact Da (by dsimp[KU]) (xI (a:=a / m) (b:=1) (c:=c))
 ·obtain ⟨S, e⟩ := CF (Z := Z) c;obtain⟨N,E⟩:=CF (Z:=Z) (S+7);refine⟨N / 64%m,a,b,N,Yd _ 0e1,Ye _ d,?_⟩;have H:(b == 1)=false:=by simpa using B
  dsimp[mT,aG,bL,bW,aD,ag,aj,bg,aa,af];rw[kF u FJ];dsimp[aa,af,jh,H,aX,ae,VE,U8,bI,az,aG,aT,au,aq,av,aD,ag,aj,bg];rw[kF u Ml];dsimp[aa,af,e,lG,E,ae,r8,ag,aj,bg];rw[rY u (pZ 1e2 0e9)];have σ:(Z.set i (.lst ([D.int a,D.int b,D.int c].set (2:Int).toNat (.int N))))[i]?=some (.lst [D.int a,D.int b,D.int N]):=by rw[Uo I];rfl
  dsimp[aa,af,ae,az,aS,aD,ag,aj,bg];rw[kF σ Ml];dsimp[aa,af,f64,M,ae,aL];exact Da 0e9 (xI (a:=a) (b:=b) (c:=N))
theorem aI{g:aC}{o:O}(h:Z[i]?=some o):(Z++g)[i]?=some o:=by
 rw[UW (Ul.mp h).1];exact h
theorem xB{g:aC}{o:O}(h:i<Z.length):(Z++g).set i o=Z.set i o++g:=by
 rw[List.set_append_left _ _ h]
theorem jv{o:O}(h:i<Z.length):(Z.set i o)[i]?=some o:=Uo h
theorem wx{β γ:Type}{f:β->γ}:∀{l:List β}{i:Nat},(l.map f).eraseIdx i=(l.eraseIdx i).map f
 |[],_=>rfl
 |_::_,0=>rfl
 |x::r,i+1=>by simp[wx (l:=r) (i:=i)]
def m8(m:Int)(k:List Int):Prop:=∃a b:Int,k=[a,b]/\0<=a/\a<b/\b<m
theorem m8.prs{m:Int}(h:m8 m k)(i:m<=6):k∈prs:=by
 obtain⟨a,b,rfl,H,c,d⟩:=h;exact xD H c 0e1
def ju(d:D)(m:Int)(ks:List 0e5):Prop:=d=.tup [.int m,.tup 0e8]/\1<=m/\m<=6/\(ks.Pairwise λa b=>rj a<rj b)/\∀k∈ks,m8 m k
theorem qM{m:Int}(d:1<=m)(H:m<=6)(K:∀k∈ks,m8 m k):ju (.tup [.int m,.tup ((eK ks).map aw)]) m (eK ks):=by
 refine⟨rfl,d,H,oi.filter _,λk h=>?_⟩;unfold eK at h;rw[T9,Xy]at h;exact K k h.2
theorem c0{m:Int}(h:ju d m ks):ks.length<=15:=by
 obtain⟨_,_,i,p,H⟩:=h;have n:ks.Nodup:=p.imp λh e=>by subst e;omega
 have S:ks ⊆ prs:=λk h=>(H k h).prs i;have:=n.length_le_of_subset S;rw[xE]at this;exact this
def fF(p:Int×Int):D:=.tup [.int p.1,.int p.2]
theorem l2:(2:Nat)<=sizeLine:=by decide
theorem SU{u v:Int}:yO [.tup [.int u,.int v]] Z=.ok (.int (min u v)) Z:=rfl
theorem SV{u v:Int}:n5 [.tup [.int u,.int v]] Z=.ok (.int (max u v)) Z:=rfl
theorem dR{m:Int}(h:ju d m ks):d.low n:=by
 obtain⟨rfl,_⟩:=h;simp
 exact i3.mpr λx H=>by
  obtain⟨k,_,rfl⟩:=We.mp H;simp[aw];exact i3.mpr 0e9
theorem jI{lo:Int}:bR lo (n+1)=.int lo::bR (lo+1) n:=by
 unfold bR;rw[V3,Vi,V4];congr 1
 ·simp
 ·apply V6;intro i _;dsimp[Function.comp_apply];congr 1;omega
theorem k9{lo:Int}:bR lo 0=[]:=rfl
theorem zD{lo:Int}(h:bR lo n=[]):n=0:=by
 cases n with
 |zero=>rfl
 |succ n=>rw[jI]at h;cases h
theorem zZ{x:D}:∀k:Nat,(List.replicate k [x]).flatten=List.replicate k x
 |0=>rfl
 |k+1=>by rw[Vo,Vp,zZ k];rfl
theorem l1:(1:Nat)<=sizeLine:=by decide
end Lw
namespace Lw
open PySem L2 RS Lv
def Fb:Option Nat->D
 |none=>.non
 |some n=>.int n
noncomputable def gr(m:Nat)(f:Int->Option Nat):List D:=(List.range m).map λq:Nat=>Fb (f q)
theorem zC{f:Int->Option Nat}(A:0<=q)(Q:q<m):atI (gr m f) q=some (Fb (f q)):=by
 refine PD A ?_;unfold gr;rw[UX,Xw 0e1];dsimp[Option.map_some,WJ A]
theorem zB{f:Int->Option Nat}{v:Nat}(A:0<=q)(Q:q<m):(gr m f).set q.toNat (.int v)=gr m (sj f q v):=by
 unfold gr;apply X7;intro i;rw[List.getElem?_set,U1,V7,UX,UX];by_cases e:q.toNat=i
 ·rw[T1 e,T1 0e1,Xw 0e1,<- e];dsimp[Option.map_some,WJ A,sj,T1 rfl];rfl
 ·rw [T3 e];by_cases I:i<m
  ·rw[Xw I];dsimp[Option.map_some,sj];rw[T3 0e1]
  ·rw[Xx (by rw[V7];omega)];rfl
noncomputable def Mx(ks:List 0e5):List 15e6:=ks.flatMap λk=>match k with
 |[u,v]=>[(u,v),(v,u)]
 |_=>[]
def m9(ks:List 0e5)(a b:Int):Prop:=(a,b)∈Mx ks
theorem we{o:Option Nat}:(Fb o).isNon=decide (o=none):=by
 cases o <;> rfl
section
variable{a:Nat}{web:D}{M p u v r:Int}{f:Int->Option Nat}
theorem kk(d:∀k∈ks,m8 m k){x y:Int}(h:m9 ks x y):(0<=x/\x<m)/\(0<=y/\y<m):=by
 unfold m9 Mx at h;obtain⟨k,H,i⟩:=Yh.mp h;obtain⟨u,v,rfl,U,V,b⟩:=d k H;simp at i;omega
end
theorem DY:gr m (λ_=>none)=List.replicate m .non:=by
 unfold gr Fb;rw[List.map_const',V7]
def P7(k:Int):Option Nat->Bool
 |some j=>decide ((j:Int)<=k)
 |none=>false
noncomputable def md(T:Int->Int->Option Nat)(k p lo:Int)(c:Nat):List 0e5:=(((List.range c).map λi:Nat=>lo+(i:Int)).filter λq=>P7 k (T p q)).map λq=>[p,q]
noncomputable def Iq(m:Nat)(T:Int->Int->Option Nat)(k:Int):List 0e5:=(List.range m).flatMap λp:Nat=>md T k p ((p:Int)+1) (m-(p+1))
theorem zA{k p lo:Int}:(md T k p lo c).length<=c:=by
 unfold md;rw[U1];refine Ub (Yi _ _) ?_;rw[U1,V7];exact UG _
theorem tq{k p lo:Int}{x:List Int}(h:x∈md T k p lo c):∃q:Int,x=[p,q]/\lo<=q/\q<lo+c:=by
 unfold md at h;obtain⟨q,z,rfl⟩:=We.mp h;obtain⟨z,_⟩:=T9.mp z;obtain⟨i,I,rfl⟩:=We.mp z;rw[Ua]at I;exact⟨_,rfl,by omega,by omega⟩
theorem JU{k p lo:Int}:(md T k p lo c).Pairwise λa b=>rj a<rj b:=by
 unfold md;rw[XQ];apply Yj;rw[XQ];exact WD.imp λ{a b} h=>by show p*6+(lo+(a:Int))<p*6+(lo+(b:Int));omega
theorem zm{k:Int}(c:1<=m)(e:m<=6):ju (.tup [.int m,.tup ((Iq m T k).map aw)]) m (Iq m T k):=by
 refine⟨rfl,by omega,by omega,?_,λx d=>?_⟩
 ·unfold Iq;rw[List.pairwise_flatMap];refine⟨λp _=>JU,?_⟩;refine List.Pairwise.imp_of_mem (R:=(·<·)) ?_ WD;intro a b n h B x d y σ;rw[Ua]at n h;obtain⟨q,rfl,A,Q⟩:=tq d;obtain⟨r,rfl,f,g⟩:=tq σ;show (a:Int)*6+q<(b:Int)*6+r;omega
 ·unfold Iq at d;obtain⟨p,H,d⟩:=Yh.mp d;rw[Ua]at H;obtain⟨q,rfl,A,Q⟩:=tq d;exact⟨_,_,rfl,by omega,by omega,by omega⟩
theorem G7{k p lo:Int}:((bR lo c).filter λd=>match d with | .int q=>P7 k (T p q)|_=>false).map (λd=>match d with | .int q=>aw [p,q]|_=>.non)=(md T k p lo c).map aw:=by
 unfold bR md;rw[Yk,V4,Yk,V4,V4];rfl
theorem oZ{m:Nat}{T:Int->Int->Option Nat}{k:Int}(h:m<=6):∀n,((List.range n).flatMap λp:Nat=>md T k p ((p:Int)+1) (m-(p+1))).length<=6*n
 |0=>by simp
 |n+1=>by
  rw[Yl,Ym,U0];have:=oZ (T:=T) (k:=k) h n;have H:=zA (T:=T) (k:=k) (p:=n) (lo:=(n:Int)+1) (c:=m-(n+1));dsimp[Yn,Yo,UM];omega
theorem oW{Z:aC}:∀fs:List Int,gB Z (fs.map D.int)=some (fs.map PyData.int)
 |[]=>rfl
 |x::fs=>by dsimp[Vi,gB,oW fs];rfl
theorem mC:∀fs:List Int,PyData.canLayAll0 (fs.map PyData.int)=true/\PyData.depthAll (fs.map PyData.int)=0
 |[]=>by simp[PyData.canLayAll0,PyData.depthAll]
 |x::fs=>by
  have:=mC fs;dsimp[Vi,PyData.canLayAll0,PyData.depthAll,PyData.canLay0,PyData.depth,this.1,this.2];exact⟨rfl,rfl⟩
theorem C6{F:Nat}{fs:List Int}{a:Int}(h:Z[F]?=some (.lst (fs.map D.int))):pQ false (.int a) (.obj F) Z=.ok (.bl (decide (a∈fs))) Z:=by
 have E:nG Z (.int a)=some (.int a):=rfl
 have B:nG Z (.obj F)=some (.list (fs.map PyData.int)):=by
  unfold nG;dsimp only;rw[h];dsimp only;rw[oW];rfl
 have y:fitP (.int a)=true:=rfl
 have V:fitP (.list (fs.map PyData.int))=true:=by
  have:=mC fs;dsimp[fitP,PyData.canLay0,this.1,PyData.depth,this.2,Ya];rfl
 unfold pQ;rw[E,B];dsimp only[sP];rw[T1 ⟨y,V⟩];dsimp[VE,U8];congr 2;rw[XI];apply Yp.mpr;rw[Yq,Xy];constructor
 ·rintro ⟨x, d, e⟩
  have:x=a:=by simpa[PyData.eqv] using e
  subst this;exact d
 ·intro d;exact⟨a,d,by simp[PyData.eqv]⟩
theorem gh{m:Int}(d:∀k∈ks,m8 m k){a b:Int}:m9 ks a b↔([a,b]∈ks\/[b,a]∈ks):=by
 unfold m9 Mx;rw[Yh];constructor
 ·rintro ⟨k, H, i⟩
  obtain⟨u,v,rfl,_⟩:=d k H;simp at i;rcases i with⟨rfl,rfl⟩|⟨rfl,rfl⟩
  ·exact .inl H
  ·exact .inr H
 ·rintro (h | h)
  ·exact⟨_,h,by simp⟩
  ·exact⟨_,h,by simp⟩
theorem qp{m:Int}{t e:List Int->Int}:∀{ks:List 0e5},(∀k∈ks,m8 m k)->∀(P:Int->Bool),∃l:List Int,
  ((ks.map aw).filter (λd=>match d with | .tup [.int a,.int b]=>P (t [a,b])|_=>false)).map (λd=>match d with | .tup [.int a,.int b]=>.int (e [a,b])|_=>.non)=l.map D.int/\l.length<=ks.length/\∀x,x∈l↔∃k∈ks,P (t k)=true/\x=e k
 |[],_,P=>⟨[],rfl,UG _,by simp⟩
 |k::ks,h,P=>by
  obtain⟨l,E,B,U⟩:=qp (t:=t) (e:=e) (ks:=ks) (λx X=>h x (Ug _ X)) P;obtain⟨a,b,rfl,_⟩:=h k Ue;rw[Vi,XX];show ∃l:List Int,List.map _ (if P (t [a,b])=true then _ else _)=_/\_;by_cases c:P (t [a,b])=true
  ·rw [T1 c, Vi, E];refine⟨e [a,b]::l,rfl,by simp;omega,λx=>?_⟩;dsimp[Uh,U];constructor
   ·rintro (rfl | ⟨k, H, z⟩)
    ·exact⟨[a,b],.inl rfl,c,rfl⟩
    ·exact⟨k,.inr H,z⟩
   ·rintro ⟨k, rfl | H, μ, G⟩
    ·exact .inl G
    ·exact .inr ⟨k,H,μ,G⟩
  ·rw [T3 c, E];refine⟨l,rfl,by simp;omega,λx=>?_⟩;dsimp[Uh,U];constructor
   ·rintro⟨k,H,z⟩;exact⟨k,.inr H,z⟩
   ·rintro ⟨k, rfl | H, μ, G⟩
    ·exact absurd μ c
    ·exact⟨k,H,μ,G⟩
def IM:List Int->Int
 |[a,_]=>a
 |_=>0
def II:List Int->Int
 |[_,b]=>b
 |_=>0
theorem zt{m:Int}{F:Nat}{fs:List Int}(K:∀k∈ks,m8 m k)(L:ks.length<=15)(h:Z[F]?=some (.lst (fs.map D.int))):
  ∃(t:Nat)(g:aC)(ns:List Int),dE [.tup 0e8,.obj F] Z=.ok 10e5 (Z++g)/\(Z++g)[t]?=some (.lst 12e2)/\ns.length<=30/\Z.length<=t/\∀q,q∈ns↔∃r∈fs,m9 ks r q:=by
 obtain⟨l1,A,s,j⟩:=qp (t:=IM) (e:=II) K λx=>decide (x∈fs);obtain⟨l,b1,b2,b3⟩:=qp (t:=II) (e:=IM) K λx=>decide (x∈fs)
 have i:=gE (src:=.fix 0e8) (g:=cu 2 3e2) (t:=jk) (e:=lZ) (Z1:=Z)
  (q:=λd=>match d with | .tup [.int a,.int b]=>decide (IM [a,b]∈fs)|_=>false) (h:=λd=>match d with | .tup [.int a,.int b]=>.int (II [a,b])|_=>.non)
  (λc=>∃o U,c=[o,U,some (.obj F)]) 5e1 (xs:=ks.map aw) (acc:=[]) (ρ:=[none,none,some (.obj F)]) ⟨_,_,rfl⟩
  (by rw[U1,V8];exact Ub 0e1 bH)
  (λx X a c hJJ => by
   obtain⟨o,U,G⟩:=hJJ;obtain⟨k,H,rfl⟩:=We.mp X;obtain⟨u,v,rfl,_⟩:=K k H;subst G;refine⟨[some (.int u),some (.int v),some (.obj F)],⟨_,_,rfl⟩,rfl,?_,λ_=>rfl⟩;unfold jk;dsimp[bW,aD,aj,ag,aa,af];rw[C6 (aI h)]
   rfl)
 have c2:=λM:aC=>λhM:M[F]?=some (.lst (fs.map D.int))=>gE (src:=.fix 0e8) (g:=cu 2 3e2) (t:=jj) (e:=lY) (Z1:=M)
  (q:=λd=>match d with | .tup [.int a,.int b]=>decide (II [a,b]∈fs)|_=>false) (h:=λd=>match d with | .tup [.int a,.int b]=>.int (IM [a,b])|_=>.non)
  (λc=>∃o U,c=[o,U,some (.obj F)]) 5e1 (xs:=ks.map aw) (acc:=[]) (ρ:=[none,none,some (.obj F)]) ⟨_,_,rfl⟩
  (by rw[U1,V8];exact Ub 0e1 bH)
  (λx X a c hJJ => by
   obtain⟨o,U,G⟩:=hJJ;obtain⟨k,H,rfl⟩:=We.mp X;obtain⟨u,v,rfl,_⟩:=K k H;subst G;refine⟨[some (.int u),some (.int v),some (.obj F)],⟨_,_,rfl⟩,rfl,?_,λ_=>rfl⟩;unfold jj;dsimp[bW,aD,aj,ag,aa,af];rw[C6 (aI hM)]
   rfl)
 rw[Vy,A]at i;have C:=c2 (Z++[O.lst (l1.map D.int)]) (aI h);rw[Vy,b1]at C;refine⟨((Z++[O.lst (l1.map D.int)])++[O.lst 8e8]).length,([O.lst (l1.map D.int)]++[O.lst 8e8])++[O.lst ((l1++l).map D.int)],l1++l,?_,?_,by rw[U0];omega,by simp,λq=>?_⟩
 ·unfold dE;rw[bS];dsimp[nR,aS,aD,bp,ba,ag,aa,af,jx,aV,List.replicate];rw[show cD [none,none,some 1] (some (D.tup (List.map aw ks))::some (D.obj F)::List.replicate (2-2) none)=[none,none,some (.obj F)] from rfl,i];dsimp[aa,af];rw[C];dsimp[aa,af]
  have n:eS 1e4 (.obj (Z++[O.lst (l1.map D.int)]).length) ((Z++[O.lst (l1.map D.int)])++[O.lst 8e8])=.ok (.obj ((Z++[O.lst (l1.map D.int)])++[O.lst 8e8]).length) (((Z++[O.lst (l1.map D.int)])++[O.lst 8e8])++[O.lst ((l1++l).map D.int)]):=by
   unfold eS;dsimp only;rw[aA,aI aA];dsimp only;rw[T1,Wo];rw[U1,U1];exact Ub (show _<=1000 by omega) bH
  rw[n,ae,aL,jQ 0e9];dsimp[Vr]
 ·rw[<- Vr,<- Vr];exact aA
 ·rw [Uj, j, b3];constructor
  ·rintro (⟨k, H, μ, f⟩ | ⟨k, H, μ, f⟩)
   ·obtain⟨u,v,rfl,_⟩:=K k H;subst f;exact⟨u,Yr μ,(gh K).mpr (.inl H)⟩
   ·obtain⟨u,v,rfl,_⟩:=K k H;subst f;exact⟨v,Yr μ,(gh K).mpr (.inr H)⟩
  ·rintro ⟨r, R, p⟩
   rcases (gh K).mp p with z|z
   ·exact .inl ⟨_,z,VA R,rfl⟩
   ·exact .inr ⟨_,z,VA R,rfl⟩
theorem mD{o o':O}(h:Z[j]?=some o')(ne:i≠j):(Z.set i o)[j]?=some o':=by rw[Uq ne];exact h
def ej(k:List Int):PyData:=.tuple (k.map PyData.int)
theorem qh{Z:aC}{m:Int}:∀{ks:List 0e5},(∀k∈ks,m8 m k)->gB Z 0e8=some (ks.map ej)
 |[],_=>rfl
 |k::ks,h=>by
  obtain⟨a,b,rfl,_⟩:=h k Ue;have i:=qh (Z:=Z) λx d=>h x (Ug _ d);dsimp[Vi,gB,i];rfl
theorem qg{Z:aC}{m:Int}:∀{ks:List 0e5},(∀k∈ks,m8 m k)->toPs Z 0e8=some (ks.map ej)
 |[],_=>rfl
 |k::ks,h=>by
  obtain⟨a,b,rfl,_⟩:=h k Ue;have i:=qg (Z:=Z) λx d=>h x (Ug _ d);dsimp[Vi,toPs,i];rfl
theorem qi{m:Int}:∀{ks:List 0e5},(∀k∈ks,m8 m k)->PyData.canLayAll0 (ks.map ej)=true/\PyData.depthAll (ks.map ej)<=1
 |[],_=>by simp[PyData.canLayAll0,PyData.depthAll]
 |k::ks,h=>by
  obtain⟨a,b,rfl,_⟩:=h k Ue;have i:=qi λx d=>h x (Ug _ d);dsimp[Vi,PyData.canLayAll0,PyData.depthAll,i.1,ej,Vh,PyData.canLay0,PyData.depth];refine⟨rfl,?_⟩;have:=i.2;omega
def yJ(m:Int)(ks:List 0e5):PyData:=.tuple [.int m,.tuple (ks.map ej)]
theorem rP{m:Int}(h:ju d m ks):nG Z d=some (yJ m ks):=by
 obtain⟨rfl,_,_,_,k⟩:=h
 have e:uQ Z 3e9=some (.tuple (ks.map ej)):=by
  dsimp[uQ,qg k,Option.map_some]
 unfold nG;dsimp only;dsimp[gB,AN,uQ,e,qg k,Option.map_some,VL];rfl
theorem rQ{m:Int}(h:ju d m ks):fitP (yJ m ks)=true:=by
 obtain⟨_,_,_,_,k⟩:=h;have:=qi k;dsimp[fitP,yJ,PyData.canLay0,PyData.canLayAll0,this.1,PyData.depth,PyData.depthAll,Ya,Yb];exact VA (by have:=this.2;omega)
end Lw
namespace Lw
open PySem L2 RS
def Pn(Z0:aC)(i:Nat)(Z:aC):Prop:=∃a b c g,Z=Z0.set i (df a b c)++g
theorem Pn.app{g:aC}(h:Pn Z0 i Z):Pn Z0 i (Z++g):=by
 obtain⟨a,b,c,G,rfl⟩:=h;exact⟨a,b,c,G++g,by rw[Vr]⟩
theorem Pn.get(h:Pn Z0 i Z)(hi:i<Z0.length):∃a b c,Z[i]?=some (df a b c):=by
 obtain⟨a,b,c,G,rfl⟩:=h;exact⟨a,b,c,aI (jv hi)⟩
theorem Pn.set{a b c:Int}(h:Pn Z0 i Z)(hi:i<Z0.length):Pn Z0 i (Z.set i (df a b c)):=by
 obtain⟨A,d,C,G,rfl⟩:=h;exact⟨a,b,c,G,by rw[xB (by simpa using hi),List.set_set]⟩
theorem Pn.len(h:Pn Z0 i Z):Z0.length<=Z.length:=by
 obtain⟨A,d,c,G,rfl⟩:=h;simp
theorem Pn.self{a b c:Int}(h:Z0[i]?=some (df a b c)):Pn Z0 i Z0:=by
 refine⟨a,b,c,[],?_⟩;rw[UM];apply X7;intro j;by_cases e:i=j
 ·subst e;rw[jv (Ul.mp h).1,h]
 ·rw[Uq e]
theorem Pn.draw{m:Int}(h:Pn Z0 i Z)(hi:i<Z0.length)(H:0<m)(f:m<1073741824):
  ∃r a b c:Int,0<=r/\r<m/\bu [.obj i,.int m] Z=.ok (.int r) (Z.set i (df a b c))/\Pn Z0 i (Z.set i (df a b c)):=by
 obtain⟨a,b,c,p⟩:=h.get hi;obtain⟨r,A,d,C,R,g,e⟩:=JC p H f;exact⟨r,A,d,C,R,g,e,h.set hi⟩
theorem Pn.gc(h:Pn Z0 i Z)(H:d.low Z0.length):∃a b c,vz Z0 (.ok d Z)=.ok d (Z0.set i (df a b c)):=by
 obtain⟨a,b,c,G,rfl⟩:=h;exact⟨a,b,c,Ge H xI⟩
theorem En{m:Int}(h:ju d m ks):d.low n:=dR h
theorem vY{m:Int}(h:∀k∈ks,m8 m k):fitP (.tuple (ks.map ej))=true:=by
 have:=qi h;dsimp[fitP,PyData.canLay0,this.1,PyData.depth,Ya];exact VA 0e1
theorem oX{m:Int}{ks':List 0e5}(h:ju d m ks)(hs:ks'.Sublist ks):ju (.tup [.int m,.tup (ks'.map aw)]) m ks':=by
 obtain⟨_,a,b,p,K⟩:=h;exact⟨rfl,a,b,p.sublist hs,λk H=>K k (hs.subset H)⟩
end Lw
namespace Lv
def kR(ks:List 0e5)(a b:Int):Bool:=decide ([min a b,max a b]∈ks)
def rg(m:Nat):List Int:=(List.range m).map Int.ofNat
def dm(w:List Int):Int:=w.getLast?.getD 0
def vy(w:List Int):Int:=w.head?.getD 0
noncomputable def Rn(m:Nat)(ks:List 0e5)(w:List Int):List Int:=(rg m).filter λp=>!decide (p∈w)&&kR ks (dm w) p
def S7(m:Nat)(ks:List 0e5)(w:List Int):List 0e5:=(Rn m ks w).map λp=>w++[p]
noncomputable def SB(m:Nat)(ks:List 0e5):Nat->List 0e5
 |0=>(rg m).map λp=>[p]
 |k+1=>(SB m ks k).flatMap (S7 m ks)
def gM(m:Nat)(ks:List 0e5)(p:Int):List Int:=(rg m).filter λq=>decide (q=p) || kR ks p q
theorem fH{p:Int}:p∈rg m↔0<=p/\p<m:=by
 unfold rg;rw[We];constructor
 ·rintro ⟨i, I, rfl⟩
  have:=Ua.mp I;exact⟨Int.natCast_nonneg _,by simpa using this⟩
 ·rintro ⟨d, H⟩
  exact⟨p.toNat,Ua.mpr 0e1,by simp;omega⟩
theorem lB:(rg m).length=m:=by simp[rg]
theorem Fq:(rg m).Pairwise (·<·):=by
 unfold rg;rw[XQ];exact WD.imp λh=>by simpa using h
theorem t8{w:List Int}{p:Int}:dm (w++[p])=p:=by simp[dm]
structure TR(m k:Nat)(w:List Int):Prop where
 len:w.length=k+1
 nd:w.Nodup
 rng:∀p∈w,0<=p/\p<(m:Int)
theorem oZ{m:Nat}{f:List Int->List 0e5}(h:∀w,(f w).length<=m):∀l:List 0e5,(l.flatMap f).length<=l.length*m
 |[]=>by simp
 |w::l=>by
  rw[Yn,U0,VF,Vx];have:=h w;have:=oZ h l;omega
end Lv
namespace Lw
open PySem L2 RS Lv
theorem bD{U:Type}{en:U->D}{src:n3}{g:MG}{t:MT}{e:ME}{Z1:aC}{q:U->Bool}{h:U->D}(R:Ro->Prop)(G:∀a,bK src 6e0) :
  ∀{us:List U}{acc:List D}{ρ:Ro},R ρ->acc.length+us.length<=sizeLine->(∀x∈us,∀a ρ,R ρ->∃ρ1,R ρ1/\g (en x) ρ 6e0=.ok ρ1 6e0/\t ρ1 6e0=.ok (q x) 6e0/\(q x=true->e ρ1 6e0=.ok (h x) 6e0)) ->
   compLoop src Z1.length g t e (us.map en) ρ (Z1++[.lst acc])=.ok (.obj Z1.length) (Z1++[.lst (acc++(us.filter q).map h)])
 |[],acc,ρ,r,i,j=>by
  rw[Vh];unfold compLoop;rw[T1 (G acc)];simp
 |x::S,acc,ρ,r,i,j=>by
  obtain⟨ρ1,b,d,B,E⟩:=j x Ue acc ρ r;rw[Vi];unfold compLoop;rw[T1 (G acc),d];dsimp[af,aa];rw[B];dsimp[af,aa];have m:=λy σ=>j y (Ug _ σ);dsimp[VF]at i;cases z:q x with
  |false=>
   rw[T3 UA,bD R G b 0e1 m,XX,z];rfl
  |true=>
   rw[T1 rfl,E z];dsimp[af,aa];rw[jJ 0e1];dsimp[aa,af];rw[bD R G b 6e9 m,XX,z];simp
theorem eX{U:Type}{en:U->D}{src:n3}{g:MG}{t:MT}{fb:MB}{Z1:aC}{q:U->Bool}{k:U->List D}(R:Ro->Prop)(G:∀a,bK src 6e0) :
  ∀{us:List U}{acc:List D}{ρ:Ro},R ρ->acc.length+((us.filter q).flatMap k).length<=sizeLine->(∀x∈us,∀a ρ,R ρ->∃ρ1,g (en x) ρ 6e0=.ok ρ1 6e0/\t ρ1 6e0=.ok (q x) 6e0/\(q x=false->R ρ1)/\(q x=true->a.length+(k x).length<=sizeLine->∃ρ2,R ρ2/\fb Z1.length ρ1 6e0=.ok ρ2 (Z1++[.lst (a++k x)]))) ->
   ∃ρ',R ρ'/\i0 src Z1.length g t fb (us.map en) ρ (Z1++[.lst acc])=.ok ρ' (Z1++[.lst (acc++(us.filter q).flatMap k)])
 |[],acc,ρ,h,i,j=>by
  refine⟨ρ,h,?_⟩;rw[Vh];unfold i0;rw[T1 (G acc)];simp
 |x::S,acc,ρ,h,i,j=>by
  obtain⟨ρ1,d,B,E,e⟩:=j x Ue acc ρ h;rw[Vi];unfold i0;rw[T1 (G acc),d];dsimp[af,aa];rw[B];dsimp[af,aa];have m:=λy σ=>j y (Ug _ σ);cases z:q x with
  |false=>
   rw[XX,z]at i;rw[T3 UA,XX,z];exact eX R G (E z) i m
  |true=>
   rw[XX,z,T1 rfl,Yn,U0]at i;obtain⟨ρ2,M,b⟩:=e z 0e1;rw[T1 rfl,b];dsimp[af,aa];obtain⟨ρ',r,c⟩:=eX R G M (acc:=acc++k x) (by rw[U0];omega) m;refine⟨ρ',r,?_⟩;rw[c,XX,z,T1 rfl,Yn,Vr]
theorem bz{U:Type}:∀{us:List U},us.filter (λ_=>true)=us
 |[]=>rfl
 |_::us=>by rw[XX,T1 rfl,bz]
theorem pd{e:ME}{a:List D}(h:e ρ 6e0=.ok y 6e0)(i:a.length+1<=sizeLine):jR e Z1.length ρ 6e0=.ok ρ (Z1++[.lst (a++[y])]):=by
 unfold jR;rw[h];dsimp[af,aa];rw[jJ 0e1];rfl
def P8:D->Bool
 |.int _=>true
 |_=>false
def EX(m:Nat):D->Bool
 |.int i=>decide (0<=i/\i<(m:Int))
 |_=>false
def Iu(Z:aC)(d:D):Prop:=ER Z d≠none
theorem CW(h:Iu Z (.obj n)):(∃xs,Z[n]?=some 7e5)\/Z[n]?=some .dic:=by
 unfold Iu ER at h;dsimp only at h;split at h
 ·rename_i xs e;exact .inl ⟨xs,e⟩
 ·rename_i e;exact .inr e
 ·exact absurd rfl h
theorem K7(h:Iu Z d):∃b,jN "int" d Z=.ok (.bl b) Z/\(b=true->∃c,jN "bool" d Z=.ok (.bl c) Z/\(!c)=P8 d)/\(b=false->P8 d=false):=by
 cases d with
 |non=>exact⟨false,rfl,nofun,λ_=>rfl⟩
 |bl b=>exact⟨true,rfl,λ_=>⟨true,rfl,rfl⟩,nofun⟩
 |int i=>exact⟨true,rfl,λ_=>⟨false,rfl,rfl⟩,nofun⟩
 |str x=>exact⟨false,rfl,nofun,λ_=>rfl⟩
 |tup S=>exact⟨false,rfl,nofun,λ_=>rfl⟩
 |frz S=>exact⟨false,rfl,nofun,λ_=>rfl⟩
 |obj n=>
  refine⟨false,?_,nofun,λ_=>rfl⟩;unfold jN ER;rcases CW h with⟨S,e⟩|e <;> dsimp[e] <;> rfl
theorem GG(h:Iu Z d):d9 [d] Z=.ok (.bl (P8 d)) Z:=by
 obtain⟨b,H,a,e⟩:=K7 h;unfold d9;rw[bX];dsimp[lP,List.replicate,aS,fx,Dc,mj,ag,aa,af,H,aX];cases b with
 |false=>
  rw[T3 UA,ae,aL,e rfl];exact bo 0e9
 |true=>
  obtain⟨c,C,c2⟩:=a rfl;rw[T1 rfl,C];dsimp[aa,af,aX,ae,aL,c2];exact bo 0e9
theorem zr(h:Iu Z d):eb [.int m,d] Z=.ok (.bl (EX m d)) Z:=by
 have W:br [d,.int 0,.int ((m:Int)-1)] Z=.ok (.bl (EX m d)) Z:=by
  unfold br;rw[oe];dsimp[gq,List.replicate,aS,fx,au,aq,av,ag,aj,aa,af,GG h,aX,tM];cases d with
  |int i=>
   rw[show P8 11e5=true from rfl,T1 rfl];dsimp[cq,aa,af,aX];by_cases c:cmpI .LtE 0 i=true
   ·rw [T1 c, ae, aL]
    rw[show cmpI .LtE i ((m:Int)-1)=EX m 11e5 from by
     have C:(0:Int)<=i:=Yr c;show decide (i<=(m:Int)-1)=decide (0<=i/\i<(m:Int))
     exact X6.mpr ⟨λz=>⟨C,by omega⟩,λz=>by omega⟩]
    exact bo 0e9
   ·rw [T3 c, ae, aL]
    rw[show EX m 11e5=false from by
     have C:¬ (0:Int)<=i:=λz=>c (VA z)
     exact TY (λz=>C z.1)]
    exact bo 0e9
  |_=>
   rw[show P8 _=false from rfl,T3 UA,ae,aL];exact bo 0e9
 unfold eb;rw[bS];dsimp[oA,List.replicate,aS,au,aq,av,ag,aj,bg,aD,aa,af];rw[show ke 5e6 (.int 1) Z=.ok (.int ((m:Int)-1)) Z from rfl];dsimp[aa,af,W,ae,aL];exact bo 0e9
theorem Hx{g:aC}(h:Iu Z d):Iu (Z++g) d:=by
 cases d with
 |obj n=>
  unfold Iu ER;rcases CW h with⟨S,e⟩|e <;> dsimp[aI e] <;> exact nofun
 |_=>exact h
theorem A2:100000<=sizeLine:=by decide
theorem Bu(h:∀x∈xs,Iu Z x)(i:xs.length<=1000):cV [.int m,.tup xs] Z=.ok (.bl (xs.all (EX m))) Z:=by
 have c:=bD (U:=D) (en:=λx=>x) (src:=.fix xs) (g:=ai 0) (t:=a9) (e:=iW) (Z1:=Z) (q:=λ_=>true) (h:=λx=>.bl (EX m x)) (λb=>∃o,b=[o,some 5e6]) 5e1 (us:=xs) (acc:=[]) (ρ:=[none,some 5e6]) ⟨_,rfl⟩
  (by rw[V8];exact Ub 0e1 bH)
  (λx d a b hJJ => by
   obtain⟨o,e⟩:=hJJ;subst e;refine⟨[some x,some 5e6],⟨_,rfl⟩,rfl,rfl,λ_=>?_⟩;unfold iW
   dsimp[au,aq,av,aj,ag,aa,af,zr (Hx (h x d))])
 rw[Ys,Vy,bz]at c;unfold cV;rw[bS];dsimp[mS,List.replicate,aS,fx,mj,aj,ag,aa,af];rw[show jN "tuple" (.tup xs) Z=.ok 6e7 Z from rfl];dsimp[aa,af,aX,U9,au,aq,av,bp,ba,aj,ag,jx,aV];rw[show cD [none,some 0] _=[none,some 5e6] from rfl,c];dsimp[aa,af];rw[gf (bs:=xs.map (EX m)) (by rw[aA,V4];rfl)];dsimp[ae,af,aL];rw[show (xs.map (EX m)).all id=xs.all (EX m) from by rw[XH];rfl];exact cL 0e9
theorem tJ{m:Int}{a b:Int}(d:∀k∈ks,m8 m k):pQ false 6e8 3e9 Z=.ok (.bl (decide ([a,b]∈ks))) Z:=by
 have E:nG Z 6e8=some (.tuple [.int a,.int b]):=rfl
 have B:nG Z 3e9=some (.tuple (ks.map ej)):=by
  dsimp[nG,qh d,Option.map_some]
 unfold pQ;rw[E,B];dsimp only[sP];rw[T1 ⟨rfl,vY d⟩];dsimp[VE,U8];congr 2;rw[XI];apply Yp.mpr;rw[Yq,Xy];constructor
 ·rintro ⟨k, H, e⟩
  obtain⟨u,v,rfl,_⟩:=d k H;have:u=a/\v=b:=by simpa[ej,PyData.eqv,PyData.eqvAll] using e
  rw[<- this.1,<- this.2];exact H
 ·intro h;exact⟨_,h,by simp[ej,PyData.eqv,PyData.eqvAll]⟩
theorem L9{a b:Int}:yO [.int a,.int b] Z=.ok (.int (min a b)) Z:=by
 show ah.ok (D.int (if b<a then b else a)) Z=_;congr 2;split <;> omega
theorem Ma{a b:Int}:n5 [.int a,.int b] Z=.ok (.int (max a b)) Z:=by
 show ah.ok (D.int (if b>a then b else a)) Z=_;congr 2;split <;> omega
abbrev bc(w:List Int):D:=.tup (w.map D.int)
theorem om:∀(l acc:List Int),acc.Nodup->(l.foldl (λacc k=>if k∈acc then acc else acc++[k]) acc).Nodup/\∀x,x∈l.foldl (λacc k=>if k∈acc then acc else acc++[k]) acc↔x∈acc\/x∈l
 |[],acc,h=>⟨h,λx=>by simp⟩
 |y::l,acc,h=>by
  rw[Vs];by_cases c:y∈acc
  ·rw [T1 c];have i:=om l acc h;refine⟨i.1,λx=>?_⟩;rw[i.2 x,Uh];constructor
   ·rintro (z | z)
    ·exact .inl z
    ·exact .inr (.inr z)
   ·rintro (z | rfl | z)
    ·exact .inl z
    ·exact .inl c
    ·exact .inr z
  ·rw[T3 c];have i:=om l (acc++[y]) (by rw[WQ];exact⟨h,by simp,λa n b B=>by simp at B;subst B;exact λe=>c (e ▸ n)⟩);refine⟨i.1,λx=>?_⟩;rw[i.2 x,Uh,Uj,VR,or_assoc]
theorem DO{p:Int}(h:∀q,q∈ns↔q∈gM m ks p):qG (jU ns)=gM m ks p:=by
 have d:=om ns [] Ww;have up:(gM m ks p).Pairwise (·<·):=Fq.filter _;refine(zw ?_ (up.imp λ{a b} h=>Int.le_of_lt h)).symm;refine(WE (up.imp λ{a b} h=>by omega) d.1).mpr λq=>?_;rw[d.2 q,<- h q];simp
theorem sX{m:Int}(d:∀k∈ks,m8 m k){p:Int}:kR ks p q=true↔[p,q]∈ks\/[q,p]∈ks:=by
 unfold kR;rw[Xy]
 have asc:∀{a b:Int},[a,b]∈ks->a<b:=λh=>by
  obtain⟨u,v,e,_,H,_⟩:=d _ h;simp at e;rw[e.1,e.2];exact H
 constructor
 ·intro h;have:=asc h;by_cases c:p<=q
  ·left;rw[Yt c,Yu c]at h;exact h
  ·right;rw[Int.min_eq_right 0e1,Int.max_eq_left 0e1]at h;exact h
 ·rintro (h | h)
  ·have:=asc h;rw[Yt 0e1,Yu 0e1];exact h
  ·have:=asc h;rw[Int.min_eq_right 0e1,Int.max_eq_left 0e1];exact h
theorem i4:∀{ns:List Int},jr 12e2=some ns
 |[]=>rfl
 |n::ns=>by simp[jr,i4 (ns:=ns)]
theorem Lb(h:∀n∈ns,0<=n/\n<6):Fc 12e2=some ns:=by
 unfold Fc;rw[i4];dsimp only;rw[T1 (WI.mpr λn H=>VA (h n H))]
theorem A9{w:List Int}:(bc w).low n:=by dsimp[oM];exact i3.mpr λx d=>by obtain⟨k,_,rfl⟩:=We.mp d;simp
theorem Ce{w:List Int}{a:Int}:pQ neg (.int a) (bc w) Z=.ok (.bl (if neg then !decide (a∈w) else decide (a∈w))) Z:=by
 have B:nG Z (bc w)=some (.tuple (w.map PyData.int)):=by
  dsimp[nG,oW,Option.map_some]
 have V:fitP (.tuple (w.map PyData.int))=true:=by
  have:=mC w;dsimp[fitP,PyData.canLay0,this.1,PyData.depth,this.2,Ya];rfl
 unfold pQ;rw[show nG Z (.int a)=some (.int a) from rfl,B];dsimp only[sP];rw[T1 ⟨rfl,V⟩]
 have:(w.map PyData.int).any (λy=>PyData.eqv y (.int a))=decide (a∈w):=by
  rw[XI];apply Yp.mpr;rw[Yq,Xy];constructor
  ·rintro ⟨x, d, e⟩
   have:x=a:=by simpa[PyData.eqv] using e
   subst this;exact d
  ·intro d;exact⟨a,d,by simp[PyData.eqv]⟩
 rw[this]
theorem Gr{w:List Int}{p:Int}(h:w.length<=100):eS (bc w) (.tup [.int p]) Z=.ok (bc (w++[p])) Z:=by
 unfold eS;dsimp only;rw[T1]
 ·show _=ah.ok (D.tup ((w++[p]).map D.int)) Z;rw[Wo];rfl
 ·rw[U1];exact Ub 6e9 bH
theorem xK{w:List Int}(h:w≠[]):cM (bc w) (.int (-1)) Z=.ok (.int (dm w)) Z:=by
 obtain⟨v,p,rfl⟩:∃v p,w=v++[p]:=⟨w.dropLast,w.getLast h,(Yv h).symm⟩;rw[t8];refine mv ?_;unfold atI AG;dsimp[Wo,Vi,Vh,U0,U1,VF,V8];rw[T3 0e1,T1 0e1];rw[show ((-1:Int)+((v.length+(0+1):Nat):Int)).toNat=(v.map D.int).length from by rw[U1];omega];show (v.map D.int++[D.int p])[(v.map D.int).length]?=_;rw[UU 6e3,Wz];rfl
theorem C8{w:List Int}(h:w≠[]):cM (bc w) (.int 0) Z=.ok (.int (vy w)) Z:=by
 cases w with
 |nil=>exact absurd rfl h
 |cons a r=>exact d4
theorem sN:bR 0 ((m:Int)).toNat=(rg m).map D.int:=by
 unfold bR rg;rw[V4];simp
theorem eY{f g:MS}{ρ':Ro}{Z':aC}(h:f ρ Z=.next ρ' Z'):a8 f g ρ Z=g ρ' Z':=by rw[aG,h,az]
def xc(v:Nat)(f:Int->Option Nat)(s:List Int):Int->Option Nat:=s.foldl (λf q=>sj f q v) f
theorem tQ{v:Nat}:∀(qs:List Int)(f:Int->Option Nat)(q:Int),xc v f qs q=if q∈qs then some v else f q
 |[],f,q=>by simp[xc]
 |x::qs,f,q=>by
  have:=tQ (v:=v) qs (sj f x v) q;unfold xc at this⊢;rw[Vs,this];by_cases h:q∈qs
  ·rw[T1 h,T1 (Ug _ h)]
  ·rw [T3 h];unfold sj;by_cases e:q=x
   ·rw[T1 e,T1 (by simp[e])]
   ·rw[T3 e,T3 (by simp[e,h])]
theorem vM{k:Int}(h:1<=k)(H:k<=6):br [.int k,.int 1,.int 6] Z=.ok 6e7 Z:=by
 have w:d9 [.int k] Z=.ok 6e7 Z:=by
  unfold d9;rw[bX];have d:jN "int" (.int k) Z=.ok 6e7 Z:=rfl;have B:jN "bool" (.int k) Z=.ok (.bl false) Z:=rfl;dsimp[lP,aS,fx,mj,Dc,ag,aa,af,d,B,aX,U9,WT,ae,aL];exact bo 0e9
 unfold br;rw[oe];dsimp[gq,aS,fx,au,aq,av,aj,ag,aa,af,w,aX,U9,tM,cq];rw[show cmpI .LtE 1 k=true from VA h,show cmpI .LtE k 6=true from VA H];dsimp[aX,aa,af,U9,ae,aL];exact bo 0e9
theorem NR{f g:Int->Option Nat}(h:∀q:Int,0<=q/\q<(m:Int)->f q=g q):gr m f=gr m g:=by
 unfold gr;apply V6;intro i I;rw[Ua]at I;rw[h i 0e1]
end Lw
namespace Lv
section
variable{adj adj':Int->Int->Prop}{D:Int->Prop}{p:Int}
theorem R.add{q:Int}{n:Nat}(h:R adj p n q):∀{k:Nat}{r:Int},R adj q k r->R adj p (n+k) r
 |0,r,e=>by have:r=q:=e;subst this;exact h
 |k+1,r,e=>by
  rcases e with e|⟨t,d,B⟩
  ·exact .inl (R.add h e)
  ·exact .inr ⟨t,d,R.add h B⟩
theorem r9{n:Nat}:∀{k:Nat}{q:Int},R adj p (n+k) q->∃r,R adj p n r/\R adj r k q
 |0,q,h=>⟨q,h,rfl⟩
 |k+1,q,h=>by
  rcases h with h|⟨t,H,c⟩
  ·obtain⟨r,a,b⟩:=r9 (k:=k) h;exact⟨r,a,.inl b⟩
  ·obtain⟨r,a,b⟩:=r9 (k:=k) c;exact⟨r,a,.inr ⟨t,H,b⟩⟩
theorem R.one{a b:Int}(h:adj a b):R adj a 1 b:=.inr ⟨a,h,rfl⟩
theorem R.rev(hs:∀a b,adj a b->adj b a):∀{n:Nat}{q:Int},R adj p n q->R adj q n p
 |0,q,h=>by have:q=p:=h;exact this.symm
 |n+1,q,h=>by
  rcases h with h|⟨r,H,c⟩
  ·exact .inl (R.rev hs h)
  ·have:=R.add (R.one (hs _ _ H)) (R.rev hs c);rw[Nat.add_comm]at this;exact this
end
end Lv
namespace Lw
open PySem L2 RS Lv
theorem FO:∀{xs ys:List 0e5},xs.Pairwise (λa b=>rj a<rj b)->ys.Pairwise (λa b=>rj a<rj b)->(∀k,k∈xs↔k∈ys)->xs=ys
 |[],ys,_,_,h=>by
  cases ys with
  |nil=>rfl
  |cons y ys=>exact absurd ((h y).mpr Ue) V0
 |x::xs,[],_,_,h=>absurd ((h x).mp Ue) V0
 |x::xs,y::ys,H,σ,h=>by
  obtain⟨B,G⟩:=Wn.mp H;obtain⟨O,F⟩:=Wn.mp σ
  have e:x=y:=by
   rcases Uh.mp ((h x).mp Ue) with z|z
   ·exact z
   ·rcases Uh.mp ((h y).mpr Ue) with u | u
    ·exact u.symm
    ·have:=O x z;have:=B y u;omega
  subst e;congr 1;refine FO G F λk=>?_;constructor
  ·intro d;rcases Uh.mp ((h k).mp (Ug _ d)) with z|z
   ·subst z;have:=B k d;omega
   ·exact z
  ·intro d;rcases Uh.mp ((h k).mpr (Ug _ d)) with z|z
   ·subst z;have:=O k d;omega
   ·exact z
theorem oY{d':D}{m m':Int}{ks':List 0e5}(h:ju d m ks)(h':ju d' m' ks')(e:∀a b:Int,[a,b]∈ks↔[a,b]∈ks'):ks=ks':=by
 refine FO h.2.2.2.1 h'.2.2.2.1 λk=>?_;constructor
 ·intro H;obtain⟨a,b,rfl,_⟩:=h.2.2.2.2 k H;exact(e a b).mp H
 ·intro H;obtain⟨a,b,rfl,_⟩:=h'.2.2.2.2 k H;exact(e a b).mpr H
abbrev aK(m:Nat)(ks:List 0e5):D:=.tup [.int m,.tup 0e8]
abbrev GW(m:Nat)(ks:List 0e5):Prop:=ju 1e8 m ks
open Classical in
def kP(m:Nat)(ks:List 0e5)(k:Nat):List 0e5:=prs.filter λx=>decide (x.getD 1 0<(m:Int)/\R (m9 ks) (x.getD 0 0) k (x.getD 1 0))
open Classical in
theorem sM{k:Nat}{a b:Int}(i:m<=6):[a,b]∈kP m ks k↔(0<=a/\a<b/\b<(m:Int)/\R (m9 ks) a k b):=by
 unfold kP;rw[T9,decide_eq_true_iff];constructor
 ·rintro ⟨H, h, f⟩
  obtain⟨c,d,e,G,A,C⟩:=jK H;injection e with E B
  injection B with B _
  subst E B;exact⟨G,A,h,f⟩
 ·rintro ⟨H, h, f, g⟩
  exact⟨xD H h 0e1,f,g⟩
theorem f9{k:Nat}(e:1<=m)(i:m<=6):GW m (kP m ks k):=by
 refine⟨rfl,by omega,by omega,oi.filter _,λx d=>?_⟩;obtain⟨a,b,rfl,G,A,C⟩:=jK (T9.mp d).1;obtain⟨H,c,h,_⟩:=(sM i).mp d;exact⟨a,b,rfl,H,c,h⟩
theorem Jt{k:Int}{a b:Int}:[a,b]∈Iq m T k↔(0<=a/\a<b/\b<(m:Int)/\P7 k (T a b)=true):=by
 unfold Iq md;rw[Yh];constructor
 ·rintro ⟨p, P, h⟩
  obtain⟨q,z,e⟩:=We.mp h;injection e with d B
  injection B with B _
  subst d B;obtain⟨H,c⟩:=T9.mp z;obtain⟨i,I,e⟩:=We.mp H;have:=Ua.mp I;have:=Ua.mp P;exact⟨by omega,by omega,by omega,c⟩
 ·rintro ⟨H, c, g, f⟩
  refine⟨a.toNat,Ua.mpr 0e1,We.mpr ⟨b,T9.mpr ⟨We.mpr ⟨(b-a-1).toNat,Ua.mpr 0e1,by omega⟩,?_⟩,?_⟩⟩
  ·rw[WJ H];exact f
  ·rw[WJ H]
theorem L6{k:Nat}{p:Int}{f:Int->Option Nat}(h:sy (m9 ks) p (λq=>0<=q/\q<(m:Int)) f)(z:0<=q/\q<(m:Int)):P7 k (f q)=true↔R (m9 ks) p k q:=by
 constructor
 ·intro e;cases c:f q with
  |none=>rw[c]at e;cases e
  |some n=>
   rw[c]at e;have H:(n:Int)<=k:=Yr e;exact((h q z n).mp c).r.mono 0e1
 ·intro e;obtain⟨j,D,i⟩:=R.lev e;rw[(h q z j).mpr i];exact VA 0e1
theorem Nh{k:Nat}(e:1<=m)(i:m<=6)(hT:∀p:Int,0<=p->p<m->sy (m9 ks) p (λq=>0<=q/\q<m) (T p)):Iq m T k=kP m ks k:=by
 refine oY (zm e i) (f9 e i) λa b=>?_;rw[Jt,sM i];constructor
 ·rintro ⟨H, c, d, h⟩
  exact⟨H,c,d,(L6 (hT a H 0e1) ⟨by omega,d⟩).mp h⟩
 ·rintro ⟨H, c, d, h⟩
  exact⟨H,c,d,(L6 (hT a H 0e1) ⟨by omega,d⟩).mpr h⟩
theorem vZ{m:Int}:∀{xs ys:List 0e5},(∀k∈xs,m8 m k)->(∀k∈ys,m8 m k)->(PyData.eqvAll (xs.map ej) (ys.map ej)=true↔xs=ys)
 |[],[],_,_=>by simp[PyData.eqvAll]
 |[],_::_,_,_=>by simp[PyData.eqvAll]
 |_::_,[],_,_=>by simp[PyData.eqvAll]
 |x::xs,y::ys,H,σ=>by
  have i:=vZ (xs:=xs) (ys:=ys) (λk h=>H k (Ug _ h)) (λk h=>σ k (Ug _ h));obtain⟨a,b,rfl,_⟩:=H x Ue;obtain⟨c,d,rfl,_⟩:=σ y Ue;dsimp[Vi,PyData.eqvAll,Vf,i,ej,PyData.eqv,Vh,Yw,Yx]
theorem Qc{ks':List 0e5}(h:GW m ks)(h':GW m ks'):kc neg 1e8 (aK m ks') Z=.ok (.bl (if neg then !decide (ks=ks') else decide (ks=ks'))) Z:=by
 have e:PyData.eqv (yJ m ks) (yJ m ks')=decide (ks=ks'):=by
  apply Yp.mpr;rw[decide_eq_true_iff,<- vZ h.2.2.2.2 h'.2.2.2.2];dsimp[yJ,PyData.eqv,PyData.eqvAll,VD,Ya,Yb]
 unfold kc;rw[rP h,rP h'];dsimp only;rw[T1 ⟨rQ h,rQ h'⟩,e]
section
theorem GW.m0(h:GW m ks):1<=m:=by have:=h.2.1;omega
theorem GW.m6(h:GW m ks):m<=6:=by have:=h.2.2.1;omega
theorem AW(h:GW m ks){a b:Int}(e:m9 ks a b):m9 ks b a:=(gh h.2.2.2.2).mpr ((gh h.2.2.2.2).mp e).symm
theorem IR(h:GW m ks){a b:Int}(e:m9 ks a b):(0<=a/\a<(m:Int))/\(0<=b/\b<(m:Int)):=kk h.2.2.2.2 e
end
def IC(k k':List Int):Bool:=match k,k' with
 |[a,b],[c,d]=>decide (a<c) || (decide (a=c)&&decide (b<d))
 |_,_=>false
theorem Et{a b c d:Int}:d0 .Lt (aw [a,b]) (aw [c,d]) Z=.ok (.bl (IC [a,b] [c,d])) Z:=by
 have e:d0 .Lt (aw [a,b]) (aw [c,d]) Z=(match cmpPs .Lt [.int a,.int b] [.int c,.int d] with|some k=>.ok (.bl k) Z|none=>.bad):=rfl;rw[e];dsimp[cmpPs,cmpP,PyData.eqv,IC];by_cases H:a=c
 ·subst H;by_cases h:b=d
  ·subst h;simp[cmpI]
  ·simp[h,cmpI]
 ·simp[H,cmpI]
def Sy(k:List Int):Prop:=∃a b,k=[a,b]
def Ql(ks:List 0e5):Bool:=(List.range (ks.length-1)).all λi=>IC (ks.getD i []) (ks.getD (i+1) [])
theorem RQ:f7=aF (d0 .Lt) (aF cM 5e4 (aF ke 3e1 2e6)) (aF cM 5e4 3e1):=rfl
theorem JV(h:∀k∈ks,Sy k)(a:List D)(i:Nat)(hi:i<ks.length-1):
  (aF (d0 .Lt) (aF cM 5e4 (aF ke 3e1 2e6)) (aF cM 5e4 3e1)) [some (.int (1+(i:Int))),some 3e9] (Z++[.lst a])=.ok (.bl (IC (ks.getD i []) (ks.getD (i+1) []))) (Z++[.lst a]):=by
 have H:i<ks.length:=by omega
 have c:i+1<ks.length:=by omega
 obtain⟨x,y,d⟩:=h ks[i] (XS H);obtain⟨u,v,B⟩:=h ks[i+1] (XS c)
 have G:atI 0e8 (1+(i:Int)-1)=some (aw [x,y]):=by
  rw[show (1+(i:Int)-1)=((i:Nat):Int) by omega];exact km (by rw[UX,W6 H,d];rfl)
 have A:atI 0e8 (1+(i:Int))=some (aw [u,v]):=by
  rw[show (1+(i:Int))=((i+1:Nat):Int) by omega];exact km (by rw[UX,W6 c,B];rfl)
 have K:ks.getD i []=[x,y]:=by rw[W7,W6 H,d];rfl
 have b:ks.getD (i+1) []=[u,v]:=by rw[W7,W6 c,B];rfl
 rw[K,b];dsimp[aD,aj,ag,bg,aa,af,sI];rw[mv G];dsimp[aa,af];rw[mv A];dsimp[aa,af];exact Et
theorem Hb(K:∀k∈ks,Sy k)(l:ks.length<1000):
  compLoop (n3.fix (bR 1 (ks.length-1))) 5e2 9e1 a9 (aF (d0 CmpOp.Lt) (aF cM 5e4 (aF ke 3e1 (cC (D.int 1)))) (aF cM 5e4 3e1)) (bR 1 (ks.length-1)) [none,some (D.tup (List.map aw ks))] (Z++[O.lst []]) =
   .ok 1e4 (Z++[.lst (((List.range (ks.length-1)).map λi=>IC (ks.getD i []) (ks.getD (i+1) [])).map D.bl)]):=by
 have:=gE (src:=.fix (bR 1 (ks.length-1))) (g:=ai 0) (t:=a9) (e:=aF (d0 .Lt) (aF cM 5e4 (aF ke 3e1 2e6)) (aF cM 5e4 3e1)) (Z1:=Z) (q:=λ_=>true)
  (h:=λd=>match d with | .int j=>.bl (IC (ks.getD (j-1).toNat []) (ks.getD ((j-1).toNat+1) []))|_=>.non) (λb=>∃o,b=[o,some 3e9]) 5e1 (xs:=bR 1 (ks.length-1)) (acc:=[]) (ρ:=[none,some 3e9]) ⟨none,rfl⟩
  (by rw[tr,U1,V7,V8];exact Ub 0e1 bH)
  (λx H a b ⟨o, G⟩ => by
   rw[tr]at H;obtain⟨i,I,rfl⟩:=We.mp H;refine⟨[some (.int (1+(i:Int))),some 3e9],⟨_,rfl⟩,by subst G;rfl,rfl,λ_=>?_⟩;rw[JV K a i 16e6];dsimp only
   rw[show (1+(i:Int)-1).toNat=i by omega])
 rw[this,List.filter_eq_self.mpr (λ_ _=>rfl),tr,V4,Vy,V4];congr 4;apply V6;intro i _;show D.bl (IC (ks.getD (1+(i:Int)-1).toNat []) (ks.getD ((1+(i:Int)-1).toNat+1) []))=_;rw[show (1+(i:Int)-1).toNat=i by omega];rfl
theorem DH(d:∀k∈ks,Sy k)(i:ks.length<1000):cU [.tup 0e8] Z=.ok (.bl (Ql ks)) Z:=by
 unfold cU;rw[bX];dsimp[mR,aS,au,aq,bp,cH,bg,av,aa,af,ag,fw,U1];rw[xU 0e1 0e1 0e1 0e1];have n:((ks.length:Int)-1).toNat=ks.length-1:=by omega
 dsimp[aa,af,aV,n];rw[show cD [none,some 0] (some (D.tup (List.map aw ks))::List.replicate (1-1) none)=[none,some (D.tup (List.map aw ks))] from rfl];rw[RQ,Hb d i];dsimp[aa,af];rw[gf aA];dsimp[ae,af,aL];rw[cL 0e9];simp[Ql,XH,Yy]
theorem CG(d:1<=m)(H:m<=6):di [.int m] Z=.ok 6e7 Z:=by
 unfold di;rw[bX];dsimp[qw,List.replicate,aS,au,aq,av,ag,bg,aa,af,vM (show (1:Int)<=(m:Int) by omega) (show (m:Int)<=6 by omega),ae,aL];exact bo 0e9
theorem CD{a b:Int}(n:0<=a/\a<(m:Int))(B:0<=b/\b<(m:Int))(h:a≠b):gF [.int m,.tup [.int a,.int b]] Z=.ok 6e7 Z:=by
 have H:cV [.int m,.tup [.int a,.int b]] Z=.ok 6e7 Z:=by
  rw[Bu (λx d=>by dsimp[Uh,V0,V1]at d;rcases d with rfl|rfl <;> exact nofun) 0e9];congr 2;dsimp[XG,List.all_nil,Yb,EX,Vf,Xy];exact⟨n,B⟩
 have c:kc true (.int a) (.int b) Z=.ok 6e7 Z:=by
  show ah.ok (D.bl (!(a == b))) Z=_;rw[TZ.mpr h];rfl
 have i:cM 6e8 (.int 0) Z=.ok (.int a) Z:=rfl;have A:cM 6e8 (.int 1) Z=.ok (.int b) Z:=rfl;have l2:kc false (.int (([.int a,.int b]:List D).length:Int)) 11e4 Z=.ok 6e7 Z:=rfl;unfold gF;rw[bS];dsimp[wN,List.replicate,aS,fx,au,aq,av,ag,aj,bg,aa,af,H,aX,U9,aD,fw,l2,i,A,c,ae,aL];exact bo 0e9
theorem NV{m:Int}:∀{ks:List 0e5},(∀k∈ks,m8 m k)->m<=6->ks.Pairwise (λa b=>rj a<rj b)->∀i,i<ks.length-1->IC (ks.getD i []) (ks.getD (i+1) [])=true:=λ{ks} K M p i I=>by
 have H:i<ks.length:=by omega
 have h:i+1<ks.length:=by omega
 have e:ks.getD i []=ks[i]:=by rw[W7,W6 H];rfl
 have B:ks.getD (i+1) []=ks[i+1]:=by rw[W7,W6 h];rfl
 have lt:=Wb.mp p i (i+1) H h 0e1;rw[e,B];obtain⟨a,b,E,A,f,r⟩:=K _ (XS H);obtain⟨c,d,R,C,c2,g⟩:=K _ (XS h);rw[E,R]at lt⊢;have l:a*6+b<c*6+d:=lt;unfold IC;dsimp only;by_cases z:a<c
 ·rw[VA z];rfl
 ·have : a = c := by omega
  rw[TY z,VA this,VA (show b<d by omega)];rfl
mutual
def Kn(Z:aC):D->Prop
 |.tup xs=>xs.length<1000/\Kns Z xs
 |.obj n=>∃tn,ER Z (.obj n)=some tn/\tn ≠ "int" /\ tn ≠ "bool" /\ tn ≠ "tuple"
 |_=>True
def Kns(Z:aC):List D->Prop
 |[]=>True
 |x::xs=>Kn Z x/\Kns Z xs
end
theorem oO{Z:aC}:∀{xs:List D},Kns Z xs↔∀x∈xs,Kn Z x
 |[]=>by simp[Kns]
 |x::xs=>by simp[Kns,oO (xs:=xs)]
theorem Jg{g:aC}(h:ER Z (.obj n)=some tn):ER (Z++g) (.obj n)=some tn:=by
 unfold ER at h⊢;dsimp only at h⊢;cases e:Z[n]? with
 |none=>rw[e]at h;cases h
 |some o=>rw[UW (Ul.mp e).1,e];rw[e]at h;exact h
mutual
theorem xM{Z:aC}(g:aC):∀{d:D},Kn Z d->Kn (Z++g) d
 |.non,_=>by simp[Kn]
 |.bl _,_=>by simp[Kn]
 |.int _,_=>by simp[Kn]
 |.str _,_=>by simp[Kn]
 |.frz _,_=>by simp[Kn]
 |.obj n,h=>by
  dsimp[Kn]at h⊢;obtain⟨tn,h1,h2⟩:=h;exact⟨tn,Jg h1,h2⟩
 |.tup xs,h=>by
  dsimp[Kn]at h⊢;exact⟨h.1,kns_more g h.2⟩
theorem kns_more{Z:aC}(g:aC):∀{xs:List D},Kns Z xs->Kns (Z++g) xs
 |[],_=>by simp[Kns]
 |x::xs,h=>by
  dsimp[Kns]at h⊢;exact⟨xM g h.1,kns_more g h.2⟩
end
def isInt:D->Bool
 |.int _=>true
 |_=>false
def mi:D->Bool
 |.tup _=>true
 |_=>false
def ir(a b:Int):D->Bool
 |.int i=>decide (a<=i)&&decide (i<=b)
 |_=>false
theorem Eh(h:Kn Z d):∃b,jN "int" d Z=.ok (.bl b) Z/\(b=true↔(isInt d=true\/∃c,d=.bl c)):=by
 cases d with
 |obj n=>
  dsimp[Kn]at h;obtain⟨t,H,a,e,f⟩:=h;refine⟨_,by unfold jN;rw[H],?_⟩;simp[me,isInt,a,e]
 |non=>exact⟨_,rfl,by simp[me,isInt]⟩
 |bl b=>exact⟨_,rfl,by simp[me,isInt]⟩
 |int b=>exact⟨_,rfl,by simp[me,isInt]⟩
 |str b=>exact⟨_,rfl,by simp[me,isInt]⟩
 |tup b=>exact⟨_,rfl,by simp[me,isInt]⟩
 |frz b=>exact⟨_,rfl,by simp[me,isInt]⟩
theorem HP(h:Kn Z d):∃b,jN "bool" d Z=.ok (.bl b) Z/\(b=true↔∃c,d=.bl c):=by
 cases d with
 |obj n=>
  dsimp[Kn]at h;obtain⟨t,H,a,e,f⟩:=h;refine⟨_,by unfold jN;rw[H],?_⟩;simp[me,a,e]
 |non=>exact⟨_,rfl,by simp[me]⟩
 |bl b=>exact⟨_,rfl,by simp[me]⟩
 |int b=>exact⟨_,rfl,by simp[me]⟩
 |str b=>exact⟨_,rfl,by simp[me]⟩
 |tup b=>exact⟨_,rfl,by simp[me]⟩
 |frz b=>exact⟨_,rfl,by simp[me]⟩
theorem wd(h:Kn Z d):jN "tuple" d Z=.ok (.bl (mi d)) Z:=by
 cases d with
 |obj n=>
  dsimp[Kn]at h;obtain⟨t,H,c,e,a⟩:=h;unfold jN;rw[H];simp[me,mi,a]
 |non=>rfl
 |bl b=>rfl
 |int b=>rfl
 |str b=>rfl
 |tup b=>rfl
 |frz b=>rfl
theorem Bn(h:Kn Z d):d9 [d] Z=.ok (.bl (isInt d)) Z:=by
 obtain⟨b1,e,y⟩:=Eh h;obtain⟨b2,B,V⟩:=HP h;unfold d9;rw[bX]
 have:(b1 && !b2)=isInt d:=by
  cases d <;> simp[isInt]at y V⊢ <;> simp[y,V]
 simp[lP,e,B];cases b1 <;> cases b2 <;> simp at this⊢ <;> rw[<- this] <;> exact bo 0e9
theorem zo{a b:Int}(h:Kn Z d):br [d,.int a,.int b] Z=.ok (.bl (ir a b d)) Z:=by
 unfold br;rw[oe];simp[gq,Bn h]
 cases d <;> simp[isInt,ir] <;> first
  |exact bo 0e9
  |skip
 simp[cmpI];split <;> (rename_i i;simp[i];exact bo 0e9)
theorem Bv{m:Int}(h:Kn Z d):eb [.int m,d] Z=.ok (.bl (ir 0 (m-1) d)) Z:=by
 unfold eb;rw[bS];simp[oA,zo h];exact bo 0e9
theorem DJ(h:Kn Z d):di [d] Z=.ok (.bl (ir 1 6 d)) Z:=by
 unfold di;rw[bX];simp[qw,zo h];exact bo 0e9
def AF(m:Int):D->Bool
 |.tup S=>S.all (ir 0 (m-1))
 |_=>false
theorem z6{h:D->Bool}{e:ME}{c:D}(i:xs.length<=sizeLine)(j:∀x∈xs,∀a,e [some x,some c] (Z++[.lst a])=.ok (.bl (h x)) (Z++[.lst a])):
  compLoop (.fix xs) 5e2 9e1 a9 e xs [none,some c] (Z++[.lst []])=.ok 1e4 (Z++[.lst ((xs.map h).map D.bl)]):=by
 have:=gE (src:=.fix xs) (g:=ai 0) (t:=a9) (e:=e) (Z1:=Z) (q:=λ_=>true) (h:=λx=>D.bl (h x)) (λb=>∃o,b=[o,some c]) 5e1 (xs:=xs) (acc:=[]) (ρ:=[none,some c]) ⟨none,rfl⟩ (by simpa using i)
  (λx d a b ⟨o,G⟩=>⟨[some x,some c],⟨_,rfl⟩,by subst G;rfl,rfl,λ_=>j x d a⟩)
 rw[this,List.filter_eq_self.mpr (λ_ _=>rfl)];simp[V4,Yy]
theorem GU:1000<=sizeLine:=by decide
theorem DI{m:Int}(h:Kn Z d):cV [.int m,d] Z=.ok (.bl (AF m d)) Z:=by
 unfold cV;rw[bS];simp[mS,wd h];cases d with
 |tup S=>
  dsimp[mi,U9,AF];simp;dsimp[Kn]at h;rw[z6 (h:=ir 0 (m-1)) (Ub (Uc h.1) GU) λx H a=>?_]
  ·simp;rw[gf (bs:=S.map (ir 0 (m-1))) 0e9];simp[XH,Yy];exact cL 0e9
  ·simp[iW];exact Bv (xM _ (oO.mp h.2 x H))
 |non=>simp[mi,AF];exact bo 0e9
 |bl b=>simp[mi,AF];exact bo 0e9
 |int b=>simp[mi,AF];exact bo 0e9
 |str b=>simp[mi,AF];exact bo 0e9
 |frz b=>simp[mi,AF];exact bo 0e9
 |obj b=>simp[mi,AF];exact bo 0e9
theorem Hj{m:Int}(h:AF m (.tup xs)=true):∃ns:List Int,xs=ns.map D.int/\∀n∈ns,0<=n/\n<=m-1:=by
 dsimp[AF]at h
 induction xs with
 |nil=>exact⟨[],rfl,by simp⟩
 |cons x r I=>
  rw[XG,Vf]at h;obtain⟨ns,e,f⟩:=I h.2;cases x with
  |int i=>
   simp[ir]at h;exact⟨i::ns,by rw[e];rfl,λn H=>(Uh.mp H).elim (λz=>by rw[z];exact h.1) (f n)⟩
  |non=>simp[ir]at h
  |bl b=>simp[ir]at h
  |str b=>simp[ir]at h
  |tup b=>simp[ir]at h
  |frz b=>simp[ir]at h
  |obj b=>simp[ir]at h
def mm(p:Int×Int):List Int:=[min p.1 p.2,max p.1 p.2]
def PP(m:Nat)(p:Int×Int):Prop:=(0<=p.1/\p.1<(m:Int))/\(0<=p.2/\p.2<(m:Int))/\p.1≠p.2
theorem PP.ok{p:Int×Int}(h:PP m p):m8 m (mm p):=⟨_,_,rfl,by have:=h.1;have:=h.2.1;omega,by have:=h.2.2;omega,by have:=h.1;have:=h.2.1;omega⟩
theorem tf{ps:List 15e6}{a b:Int}(i:m<=6)(f:∀p∈ps,PP m p):[a,b]∈eK (ps.map mm)↔∃p∈ps,mm p=[a,b]:=by
 unfold eK;rw[T9,Xy,We];exact⟨λh=>h.2,λh=>⟨by obtain⟨p,d,e⟩:=h;rw[<- e];exact(f p d).ok.prs 0e1,h⟩⟩
theorem ki{ps:List 15e6}(H:1<=m)(i:m<=6)(f:∀p∈ps,PP m p):GW m (eK (ps.map mm)):=qM 0e1 0e1 λk d=>by obtain⟨p,h,rfl⟩:=We.mp d;exact(f p h).ok
theorem qd{t:Nat}{ps:List 15e6}(j:1<=m)(l:m<=6)(L:ps.length<=100000)(J:Z[t]?=some (.lst (ps.map fF)))(f:∀p∈ps,PP m p):bV [.int m,.obj t] Z=.ok (aK m (eK (ps.map mm))) Z:=by
 have c:=bD (U:=Int×Int) (en:=fF) (src:=.own t (ps.map fF)) (g:=cu 2 3e2) (t:=a9) (e:=jn) (Z1:=Z) (q:=λ_=>true) (h:=λp=>aw (mm p)) (λb=>∃o i,b=[o,i]) (λ_=>aI J) (us:=ps) (acc:=[]) (ρ:=[none,none]) ⟨_,_,rfl⟩
  (by rw[V8];exact Ub 0e1 A2)
  (λp H a b hJJ => by
   obtain⟨o,i,e⟩:=hJJ;subst e;refine⟨[some (.int p.1),some (.int p.2)],⟨_,_,rfl⟩,rfl,rfl,λ_=>?_⟩;unfold jn;dsimp[cQ,au,aq,av,ag,aj,aa,af,L9,Ma,VF,V8,T1 l2]
   rfl)
 rw[bz,Vy,show ps.map (λp=>aw (mm p))=(ps.map mm).map aw from by rw[V4];rfl]at c
 have d:∀k∈ps.map mm,k∈prs:=λk d=>by
  obtain⟨p,H,rfl⟩:=We.mp d;exact(f p H).ok.prs 0e1
 let M:aC:=Z++[O.lst ((ps.map mm).map aw)]
 have S:uX [.obj 5e2] M=.ok 9e2 (M++[.set (gO (ps.map mm))]):=by
  unfold uX;dsimp only;rw[show M[5e2]?=some (.lst ((ps.map mm).map aw)) from aA];dsimp only;unfold yY;rw[zW d]
 have N:cf [.obj 4e1] (M++[.set (gO (ps.map mm))])=.ok (.obj (M++[O.set (gO (ps.map mm))]).length) ((M++[.set (gO (ps.map mm))])++[.lst ((eK (ps.map mm)).map aw)]):=by
  unfold cf;dsimp only;rw[aA];dsimp only;unfold kl;dsimp only;rw[aA];dsimp only;rw[qN]
 unfold bV;rw[bS];dsimp[nY,List.replicate,aS,cQ,aq,av,au,aj,ag,aa,af,bp,ba];rw[b8 J];dsimp[aa,af,bw];rw[show cD [none,none] _=[none,none] from rfl,c];dsimp[aa,af];rw[show uX [.obj 5e2] (Z++[O.lst ((ps.map mm).map aw)])=_ from S];dsimp[aa,af];rw[N];dsimp[aa,af];rw[jw aA];dsimp[aa,af,VF,V8,T1 l2,ae,aL,M,Vr];exact cL (dR (ki j l f))
theorem Pt{q:Nat}{sh:Int}(hi:i<Z0.length)(h:Pn Z0 i Z1)(Q:q<m)(m6:m<=6)(s0:0<sh)(L:sh<1000):
  ∃(qs:List 15e6)(Z2:aC),(∀p∈qs,PP m p)/\qs.length<=q/\Pn Z0 i Z2/\Z2.length=Z1.length/\(∀j o,i≠j->Z1[j]?=some o->Z2[j]?=some o)/\compLoop (.fix (bR 0 q)) Z1.length 9e1 ef ei (bR 0 q) [none,some (.int q),some (.obj i),some (.int sh)] (Z1++[.lst []])=.ok (.obj Z1.length) (Z2++[.lst (qs.map fF)]):=by
 have R:=mF (src:=.fix (bR 0 q)) (g:=ai 0) (t:=ef) (e:=ei) (n:=Z1.length)
  (λX σ f Z2 s=>s=[]/\Z2.length=Z1.length/\Pn Z0 i Z2/\(∀j o,i≠j->Z1[j]?=some o->Z2[j]?=some o)/\(∃o,f=[o,some (.int q),some (.obj i),some (.int sh)])/\∃(lo n:Nat)(qs:List 15e6),X=bR lo n/\lo+n=q/\σ=qs.map fF/\qs.length<=lo/\(∀p∈qs,PP m p))
  (λσ f Z2 s ⟨_,d,_⟩=>⟨d,trivial⟩)
  (λx r σ f Z2 s hJJ => by
   obtain⟨S,d,B,K,⟨o,l⟩,lo,n,qs,k,u,E,w,e10⟩:=hJJ;subst S l E;cases n with
   |zero=>rw[k9]at k;cases k
   |succ n=>
    rw[jI]at k;injection k with ex y
    subst ex y;have I:i<Z2.length:=T6 hi B.len;obtain⟨v,a,b,c,V,M,U,H⟩:=(B.app (g:=[.lst (qs.map fF)])).draw (m:=sh) hi s0 0e1;rw[xB I]at U;refine⟨d,trivial,[some (.int lo),some (.int q),some (.obj i),some (.int sh)],Z2,[],v == 0,Z2.set i (df a b c),[],rfl,?_,λC=>?_,λC=>?_⟩
    ·unfold ef;dsimp[bW,aD,au,aq,av,aj,ag,bg,aa,af,U,jh,VE,U8,aX]
    ·refine ⟨fF ((lo : Int), (q : Int)), Z2.set i (df a b c), [], ?_, ?_, by simpa using d, rfl, by simpa using d, B.set hi, λj o ne z => by rw [Uq ne]; exact K j o ne z, ⟨_, rfl⟩, lo + 1, n, qs ++ [((lo : Int), (q : Int))], by push_cast; rfl, by omega, by simp, by simp; omega, λp H => ?_⟩
     ·unfold ei;dsimp[cQ,aq,av,aj,ag,aa,af,VF,V8,T1 l2];rfl
     ·rw[U1];exact T6 (show qs.length<1000 by omega) bH
     ·rcases Uj.mp H with z | z
      ·exact e10 p z
      ·simp at z;subst z;exact⟨⟨by dsimp only;omega,by dsimp only;omega⟩,⟨by dsimp only;omega,by dsimp only;omega⟩,by dsimp only;omega⟩
    ·exact⟨rfl,by simpa using d,B.set hi,λj o ne z=>by rw[Uq ne];exact K j o ne z,⟨_,rfl⟩,lo+1,n,qs,by push_cast;rfl,by omega,rfl,by omega,e10⟩)
  (xs:=bR 0 q) (ys:=[]) (ρ:=[none,some (.int q),some (.obj i),some (.int sh)]) (Z1:=Z1) (s:=[])
  ⟨rfl,rfl,h,λ_ _ _ z=>z,⟨_,rfl⟩,0,q,[],rfl,by omega,rfl,by simp,λp H=>by cases H⟩
 obtain⟨A,G,Z2,J,⟨S,d,B,K,⟨o,l⟩,lo,n,qs,k,u,E,w,e10⟩,R⟩:=R;subst S E;exact⟨qs,Z2,e10,by omega,B,d,K,R⟩
theorem Pn.put{t:Nat}{o:O}(h:Pn Z0 i M)(J:Z0.length<=t):Pn Z0 i (M.set t o):=by
 obtain⟨a,b,c,g,rfl⟩:=h;refine⟨a,b,c,g.set (t-Z0.length) o,?_⟩;rw[XW _ _ (by simpa using J)];simp
theorem Ll{t u:Nat}(J:M[t]?=some 7e5)(U:M[u]?=some (.lst ys))(i:xs.length+ys.length<=1000):jy 10e5 [.obj u] M=.ok .non (M.set t (.lst (xs++ys))):=by
 unfold jy;dsimp only;rw[J,U];dsimp only;rw[T1 (Ub i bH)]
theorem Ba{t:Nat}(h:M[t]?=some 7e5):B6 10e5 M=true:=by
 unfold B6;dsimp only;rw[h]
theorem zu{a b c:Int}(h:Z[i]?=some (df a b c)):∃m ks a' b' c',GW m ks/\b0 [.obj i,.int 6] Z=.ok 1e8 (Z.set i (df a' b' c')):=by
 have I:i<Z.length:=(Ul.mp h).1;obtain⟨v,A,b1,J,v0,v1,T,u⟩:=(Pn.self h).draw (m:=6) I 1e2 1e2;obtain⟨m,X⟩:∃m:Nat,(1:Int)+v=(m:Int):=⟨(1+v).toNat,by omega⟩;obtain⟨s,y,b2,c2,s0,s1,l,w⟩:=u.draw (m:=3) I 1e2 1e2;let d:aC:=(Z.set i (df A b1 J)).set i (df y b2 c2)
 have lM2:d.length=Z.length:=by simp[d]
 obtain⟨ρ',M',⟨n,C,P,o,e,L,U,j,k,N,E⟩,R⟩:=lE (src:=.fix (bR 0 m)) (g:=ai 5) (fb:=dc)
  (λS r M=>∃(n C:Nat)(P:List 15e6)(o:Option D),S=bR n C/\n+C=m/\r=[some (.obj i),some (.int 6),some 5e6,some (.int (2+s)),some 10e6,o]/\Pn Z i M/\M[d.length]?=some (.lst (P.map fF))/\P.length<=6*n/\∀p∈P,PP m p)
  (λ_ _ _=>trivial)
  (λx S r M hJJ => by
   obtain⟨n,C,P,o,e,L,U,j,k,N,E⟩:=hJJ;subst U;cases C with
   |zero=>rw[k9]at e;cases e
   |succ C=>
    rw[jI]at e;injection e with ex μ
    subst ex μ;obtain⟨Q,f,F,q2,W,q4,q5,q6⟩:=Pt (m:=m) (q:=n) (sh:=2+s) I j 0e1 0e1 0e1 0e1;have t:(f++[O.lst (Q.map fF)])[d.length]?=some (.lst (P.map fF)):=aI (q5 _ _ 0e1 k);have u3:(f++[O.lst (Q.map fF)])[4e1]?=some (.lst (Q.map fF)):=by rw[<- q4];exact aA
    have ex:=Ll t u3 (by rw[U1,U1];omega);refine⟨trivial,_,_,[some (.obj i),some (.int 6),some 5e6,some (.int (2+s)),some 10e6,some (.int n)],(f++[O.lst (Q.map fF)]).set d.length (.lst (P.map fF++Q.map fF)),rfl,?_,n+1,C,P++Q,some (.int n),by push_cast;rfl,by omega,rfl,(W.app).put 0e1,?_,by rw[U0];omega,λp h=>?_⟩
    ·show dc [some (.obj i),some (.int 6),some 5e6,some (.int (2+s)),some 10e6,some (.int n)] M=_;unfold dc;dsimp[d5,qL,aj,ag,aa,af,Ba k,U9,aq,av,bp,cH];rw[fv 0e1 0e1];dsimp[aa,af,aV,U6];rw[show cD [none,some 5,some 0,some 3] [some (D.obj i),some (D.int 6),some (D.int m),some (D.int (2+s)),some (D.obj d.length),some (D.int n)]=[none,some (.int n),some (.obj i),some (.int (2+s))] from rfl,q6];dsimp[aa,af,ex,ae]
    ·rw[jv (by have:=(Ul.mp t).1;exact this),Wo]
    ·rcases Uj.mp h with z | z
     ·exact E p z
     ·exact F p z)
  (xs:=bR 0 m) (ρ:=[some (.obj i),some (.int 6),some 5e6,some (.int (2+s)),some 10e6,none]) (Z:=d++[.lst []])
  ⟨0,m,[],none,rfl,by omega,rfl,w.app,aA,by simp,λp h=>by cases h⟩
 have V:=zD e.symm;subst V U;have σ:GW m (eK (P.map mm)):=ki 0e1 0e1 E;obtain⟨B,G,K,H⟩:=j.gc (dR σ);refine⟨m,_,B,G,K,σ,?_⟩;unfold b0;rw[bS];dsimp[lx,List.replicate];rw[aG,aT];dsimp[aD,bg,au,aq,av,ag,aj,aa,af,T,lG,X,ae,bj,az,Yf,Yg];rw[aG,aT];dsimp[aD,bg,au,aq,av,ag,aj,aa,af,l,lG,ae,bj,az,Yf,Yg];rw[aG,aT];dsimp[jT,av,aa,af,V8,T1 (VQ sizeLine),ae,bj,az,Yf,Yg];rw[aG,fI];dsimp[cH,aq,av,aj,ag,aa,af];rw[fv 0e1 0e1];dsimp[ae,af,aV,U6];rw[show dg (.fix (bR 0 m)) (ai 5) dc (bR 0 m) [some (.obj i),some (.int 6),some 5e6,some (.int (2+s)),some 10e6,none] (d++[O.lst []])=_ from R];dsimp[az,aS,au,aq,av,aj,ag,aa,af,qd (show 1<=m by omega) 0e1 0e1 k E,ae,aL];exact H
def ri(k:List Int):Int×Int:=(k.getD 0 0,k.getD 1 0)
def Dw(p:Int)(k:List Int):Bool:=decide (p=(ri k).1) || decide (p=(ri k).2)
noncomputable def fN(ks:List 0e5)(p:Int):List Int:=(ks.filter (Dw p)).map λk=>(ri k).1+(ri k).2-p
noncomputable def fL(l:List Int)(x:Int):List 15e6:=(l.filter λy=>decide (x<y)).map λy=>(x,y)
noncomputable def E4(m:Nat)(ks:List 0e5):List 15e6:=ks.map ri++(rg m).flatMap λp=>(fN ks p).flatMap (fL (fN ks p))
theorem HW{t u:Nat}(J:M[t]?=some 7e5)(U:M[u]?=some (.lst ys))(i:xs.length+ys.length<=100000):jy 10e5 [.obj u] M=.ok .non (M.set t (.lst (xs++ys))):=by
 unfold jy;dsimp only;rw[J,U];dsimp only;rw[T1 (Ub i A2)]
theorem Pc{p a b:Int}:pQ false 8e3 6e8 Z=.ok (.bl (decide (p=a) || decide (p=b))) Z:=by
 show ah.ok (D.bl ((a == p) || ((b == p) || false))) Z=_;congr 2;rw[Bool.or_false];congr 1
 ·apply Yp.mpr;rw[Yw,Xy];exact eq_comm
 ·apply Yp.mpr;rw[Yw,Xy];exact eq_comm
section
theorem zQ(h:GW m ks){p:Int}:(fN ks p).length<=15:=by
 have:=c0 h;unfold fN;rw[U1];exact Ub (Yi _ _) this
theorem kX(h:GW m ks){p x:Int}:x∈fN ks p↔m9 ks p x:=by
 rw[gh h.2.2.2.2];unfold fN;rw[We];constructor
 ·rintro ⟨k, K, rfl⟩
  obtain⟨H,c⟩:=T9.mp K;obtain⟨a,b,rfl,_⟩:=h.2.2.2.2 k H;have d:p=a\/p=b:=by simpa[Dw,ri] using c
  rcases d with rfl|rfl
  ·left;rw[show (ri [p,b]).1+(ri [p,b]).2-p=b from by show p+b-p=b;omega];exact H
  ·right;rw[show (ri [a,p]).1+(ri [a,p]).2-p=a from by show a+p-p=a;omega];exact H
 ·rintro (H | H)
  ·exact⟨[p,x],T9.mpr ⟨H,by simp[Dw,ri]⟩,by show p+x-p=x;omega⟩
  ·exact⟨[x,p],T9.mpr ⟨H,by simp[Dw,ri]⟩,by show x+p-p=x;omega⟩
theorem Jz{p:Int}(h:GW m ks):fk [aK m ks,.int p] Z=.ok 1e4 (Z++[.lst ((fN ks p).map D.int)]):=by
 have N:0+1+1<=sizeLine:=l2
 have c:=bD (U:=List Int) (en:=aw) (src:=.fix 0e8) (g:=cu 2 3e2) (t:=iG) (e:=iK) (Z1:=Z) (q:=Dw p) (h:=λk=>.int ((ri k).1+(ri k).2-p)) (λb=>∃o O,b=[o,O,some 8e3]) 5e1 (us:=ks) (acc:=[]) (ρ:=[none,none,some 8e3]) ⟨_,_,rfl⟩
  (by rw[V8];have:=c0 h;exact Ub 0e1 bH)
  (λk d a b hJJ => by
   obtain⟨o,O,e⟩:=hJJ;subst e;obtain⟨x,y,rfl,_⟩:=h.2.2.2.2 k d;refine⟨[some 11e8,some (.int y),some 8e3],⟨_,_,rfl⟩,rfl,?_,λ_=>?_⟩
   ·unfold iG;dsimp[bW,aD,cQ,aq,av,aj,ag,aa,af,VF,V8,T1 N,Pc,aX];rfl
   ·unfold iK;dsimp[aD,aj,ag,aa,af,lG]
    rfl)
 rw[Vy,show (ks.filter (Dw p)).map (λk=>D.int ((ri k).1+(ri k).2-p))=(fN ks p).map D.int from by unfold fN;rw[V4];rfl]at c;unfold fk;rw[bS];dsimp[m4,List.replicate,aS,bp,ba,aD,ag,bg,aa,af,ni,jx,aV];rw[show cD [none,none,some 1] _=[none,none,some 8e3] from rfl,c];dsimp[ae,af,aL];exact jQ 0e9
theorem Jh{N:Nat}{x:Int}(hN:M[N]?=some (.lst 8e8))(i:l.length<=15):compLoop (.own N 8e8) 4e1 9e1 dA dD 8e8 [none,some 11e8] (M++[.lst []])=.ok 9e2 (M++[.lst ((fL l x).map fF)]):=by
 have c:=bD (U:=Int) (en:=D.int) (src:=.own N 8e8) (g:=ai 0) (t:=dA) (e:=dD) (Z1:=M) (q:=λy=>decide (x<y)) (h:=λy=>fF (x,y)) (λb=>∃o,b=[o,some 11e8]) (λ_=>aI hN) (us:=l) (acc:=[]) (ρ:=[none,some 11e8]) ⟨_,rfl⟩
  (by rw[V8];exact Ub 0e1 bH)
  (λy σ a b hJJ => by
   obtain⟨o,e⟩:=hJJ;subst e;refine⟨[some (.int y),some 11e8],⟨_,rfl⟩,rfl,?_,λ_=>?_⟩
   ·unfold dA;dsimp[bW,aD,aj,ag,aa,af,cq,aX];rfl
   ·unfold dD;dsimp[cQ,aq,av,aj,ag,aa,af,VF,V8,T1 l2]
    rfl)
 rw[Vy,show (l.filter λy=>decide (x<y)).map (λy=>fF (x,y))=(fL l x).map fF from by unfold fL;rw[V4];rfl]at c;exact c
theorem tm{x:Int}:(fL l x).length<=l.length:=by
 unfold fL;rw[U1];exact Yi _ _
theorem rX{α β:Type}{f:α->List β}{k:Nat}(h:∀x,(f x).length<=k):∀l:List α,(l.flatMap f).length<=l.length*k
 |[]=>by simp
 |w::l=>by
  rw[Yn,U0,VF,Vx];have:=h w;have:=rX h l;omega
theorem FQ{M:aC}{T N:Nat}{ps:List 15e6}{l:List Int}{o0 o2:Option D}(hT:M[T]?=some (.lst (ps.map fF)))(hN:M[N]?=some (.lst 8e8))(ne:T≠N)(i:l.length<=15)(p:ps.length<=10000):∀(xs:List Int)(dn:List Int)(M1:aC)(o4:Option D),l=dn++xs->M1[T]?=some (.lst ((ps++dn.flatMap (fL l)).map fF))->(∀j o,T≠j->M[j]?=some o->M1[j]?=some o) ->
  ∃(M2:aC)(o4':Option D),dg (.own N 8e8) (ai 4) dC (xs.map D.int) [o0,some (.obj T),o2,some (.obj N),o4] M1=.next [o0,some (.obj T),o2,some (.obj N),o4'] M2/\M2[T]?=some (.lst ((ps++l.flatMap (fL l)).map fF))/\(∀j o,T≠j->M[j]?=some o->M2[j]?=some o)
 |[],dn,M1,o4,e,H,h=>by
  rw[UM]at e;subst e;refine⟨M1,o4,?_,H,h⟩;rw[Vh];unfold dg;rw[T1 (show bK (.own N _) M1 from h N _ ne hN)]
 |x::xs,dn,M1,o4,e,H,h=>by
  have hN1:=h N _ ne hN;have c:=Jh (M:=M1) (x:=x) hN1 i
  have L:(dn.flatMap (fL l)).length<=15*15:=by
   have d:=rX (f:=fL l) (k:=15) (λy=>Ub tm i) dn;have a:dn.length<=15:=by have:=Uu List.length e;simp at this;omega
   exact Ub d (Yz 15 a)
  have b:(fL l x).length<=15:=Ub tm i;have ex:=HW (M:=M1++[.lst ((fL l x).map fF)]) (aI H) aA (by rw[U1,U1,U0];omega);have t:T<M1.length:=(Ul.mp H).1
  obtain⟨M2,o4',R,r,U⟩:=FQ (o0:=o0) (o2:=o2) hT hN ne i p xs (dn++[x]) ((M1++[O.lst ((fL l x).map fF)]).set T (.lst ((ps++dn.flatMap (fL l)).map fF++(fL l x).map fF))) (some 11e8) (by rw[e];simp)
   (by rw[jv (by rw[U0];omega),Ym,Yn,Yo,UM,<- Vr,Wo (l₂:=fL l x)])
   (λj o n z=>by rw[Uq n];exact aI (h j o n z))
  refine⟨M2,o4',?_,r,U⟩;rw[Vi];unfold dg;rw[T1 (show bK (.own N _) M1 from hN1)];dsimp[bj,ae,af,Yf,Yg]
  rw[show dC [o0,some (.obj T),o2,some (.obj N),some 11e8] M1=.next [o0,some (.obj T),o2,some (.obj N),some 11e8] ((M1++[O.lst ((fL l x).map fF)]).set T (.lst ((ps++dn.flatMap (fL l)).map fF++(fL l x).map fF))) from by
   unfold dC;dsimp[d5,qL,aj,ag,aa,af,Ba H,U9,aq,av,bp,ba];rw[b8 hN1];dsimp[aa,af,bw];rw[show cD [none,some 4] [o0,some (D.obj T),o2,some (D.obj N),some (D.int x)]=[none,some 11e8] from rfl,c]
   dsimp[aa,af,ex,ae]]
  exact R
end
section
def vJ(ks:List 0e5)(l:List Int):List 15e6:=l.flatMap λp=>(fN ks p).flatMap (fL (fN ks p))
theorem Ec(h:GW m ks){p:Int}:((fN ks p).flatMap (fL (fN ks p))).length<=225:=by
 have i:=zQ h (p:=p);have d:=rX (f:=fL (fN ks p)) (k:=15) (λy=>Ub tm i) (fN ks p);exact Ub d (Yz 15 i)
theorem zL(h:GW m ks)(l:List Int):(vJ ks l).length<=l.length*225:=rX (λp=>Ec h) l
theorem Cw{T:Nat}{Z:aC}(h:GW m ks):∀(xs dn:List Int)(M:aC)(o2 o3 o4:Option D),dn.length+xs.length<=6->M[T]?=some (.lst ((ks.map ri++vJ ks dn).map fF))->Z.length<=T->(∀j,j<Z.length->M[j]?=Z[j]?) ->
  ∃(M':aC)(o2' o3' o4':Option D),dg (.fix 8e4) (ai 2) dB (xs.map D.int) [some 1e8,some (.obj T),o2,o3,o4] M=.next [some 1e8,some (.obj T),o2',o3',o4'] M'/\M'[T]?=some (.lst ((ks.map ri++vJ ks (dn++xs)).map fF))/\(∀j,j<Z.length->M'[j]?=Z[j]?)
 |[],dn,M,o2,o3,o4,i,hT,hμ,d=>by
  refine⟨M,o2,o3,o4,?_,by rw[UM];exact hT,d⟩;rw[Vh];unfold dg;rw[T1 (show bK (.fix _) M from trivial)]
 |p::xs,dn,M,o2,o3,o4,i,hT,hμ,d=>by
  have n:=zQ h (p:=p);have P:=zL h dn;have k:=c0 h;dsimp[VF]at i;have t:T<M.length:=(Ul.mp hT).1
  obtain⟨a,o4',R,r,U⟩:=FQ (M:=M++[.lst ((fN ks p).map D.int)]) (T:=T) (N:=4e1) (ps:=ks.map ri++vJ ks dn) (l:=fN ks p) (o0:=some 1e8) (o2:=some 8e3) (aI hT) aA 0e1 n
   (by
    rw[U0,U1];have:dn.length*225<=6*225:=Yz 225 0e1
    omega) (fN ks p) [] (M++[.lst ((fN ks p).map D.int)]) o4 rfl (by rw[Yo,UM];exact aI hT) (λ_ _ _ z=>z)
  obtain⟨M',o2',o3',o4'',q,Q,L⟩:=Cw h xs (dn++[p]) a (some 8e3) (some 9e2) o4' (by rw[U0];dsimp[VF,V8];omega)
   (by rw [r]; unfold vJ; rw [Ym, Yn, Yo, UM, Vr]) hμ (λj J => by
    have H:j<M.length:=by
     have:j<T:=by omega
     omega
    rw[U j M[j] 0e1 (by rw[UW H,W6 H]),<- d j J,W6 H])
  refine⟨M',o2',o3',o4'',?_,by rw[Q,Vr];rfl,L⟩;rw[Vi];unfold dg;rw[T1 (show bK (.fix _) M from trivial)];dsimp[bj,ae,af,Yf,Yg]
  rw[show dB [some 1e8,some (.obj T),some 8e3,o3,o4] M=.next [some 1e8,some (.obj T),some 8e3,some 9e2,o4'] a from by
   unfold dB;rw[aG,aT];dsimp[au,aq,av,aj,ag,aa,af,Jz h,ae,bj,az,Yf,Yg];rw[fI];dsimp[ba,aj,ag,aa,af];rw[b8 (show (M++[O.lst ((fN ks p).map D.int)])[4e1]?=some (.lst ((fN ks p).map D.int)) from aA)];dsimp[ae,af,bw]
   exact R]
  exact q
theorem xh(h:GW m ks):∀p∈E4 m ks,PP m p:=λp P=>by
 rcases Uj.mp P with z|z
 ·obtain⟨k,K,rfl⟩:=We.mp z;obtain⟨a,b,rfl,d,f,e⟩:=h.2.2.2.2 k K;exact⟨⟨d,by show a<(m:Int);omega⟩,⟨by show 0<=b;omega,e⟩,by show a≠b;omega⟩
 ·obtain⟨q,Q,z⟩:=Yh.mp z;obtain⟨x,X,z⟩:=Yh.mp z;obtain⟨y,σ,rfl⟩:=We.mp z;obtain⟨σ,H⟩:=T9.mp σ;have A:=IR h ((kX h).mp X);have c:=IR h ((kX h).mp σ);have:=Yr H;exact⟨A.2,c.2,by dsimp only;omega⟩
theorem MZ(h:GW m ks):eK ((E4 m ks).map mm)=kP m ks 2:=by
 have m0:=h.m0;have m6:=h.m6;refine oY (ki m0 m6 (xh h)) (f9 m0 m6) λa b=>?_;rw[tf m6 (xh h),sM m6];constructor
 ·rintro ⟨p, P, e⟩
  have C:=xh h p P;unfold mm at e;dsimp[Yx,YA]at e;have B:0<=a/\a<b/\b<(m:Int):=by obtain⟨⟨_,_⟩,⟨_,_⟩,_⟩:=C;omega
  refine⟨B.1,B.2.1,B.2.2,?_⟩
  have key:m9 ks p.1 p.2\/∃q,m9 ks p.1 q/\m9 ks q p.2:=by
   rcases Uj.mp P with z|z
   ·obtain⟨k,H,rfl⟩:=We.mp z;obtain⟨x,y,rfl,_⟩:=h.2.2.2.2 k H;exact .inl ((gh h.2.2.2.2).mpr (.inl H))
   ·obtain⟨q,Q,z⟩:=Yh.mp z;obtain⟨x,X,z⟩:=Yh.mp z;obtain⟨y,σ,rfl⟩:=We.mp z;exact .inr ⟨q,AW h ((kX h).mp X),(kX h).mp (T9.mp σ).1⟩
  have r:R (m9 ks) p.1 2 p.2:=by
   rcases key with k|⟨q,K,d⟩
   ·exact(R.one k).mono 1e2
   ·exact(R.one K).add (R.one d)
  by_cases c:p.1<=p.2
  ·have E : a = p.1 := by omega
   have f:b=p.2:=by omega
   rw[E,f];exact r
  ·have E : a = p.2 := by omega
   have f:b=p.1:=by omega
   rw[E,f];exact r.rev λx y z=>AW h z
 ·rintro ⟨l, g, o, r⟩
  obtain⟨c,j,M⟩:=r9 (n:=1) (k:=1) r
  have s:∀{x y:Int},R (m9 ks) x 1 y->y=x\/m9 ks x y:=λ{x y} z=>by
   rcases z with z|⟨t,μ,G⟩
   ·exact .inl z
   ·have:t=x:=G;subst this;exact .inr μ
  have one:m9 ks a b->∃p∈E4 m ks,mm p=[a,b]:=λz=>by
   have H:[a,b]∈ks:=by
    rcases (gh h.2.2.2.2).mp z with z|z
    ·exact z
    ·obtain⟨x,y,e,_⟩:=h.2.2.2.2 _ z;dsimp[Yx,YA]at e;omega
   refine⟨(a,b),Uk _ (We.mpr ⟨[a,b],H,rfl⟩),?_⟩;unfold mm;rw[Yt 13e2,Yu 13e2]
  rcases s j with rfl|K
  ·rcases s M with rfl | d
   ·omega
   ·exact one d
  ·rcases s M with rfl | d
   ·exact one K
   ·have i:=(IR h K).2;refine⟨(a,b),UJ _ (Yh.mpr ⟨c,fH.mpr i,Yh.mpr ⟨a,(kX h).mpr (AW h K),We.mpr ⟨b,T9.mpr ⟨(kX h).mpr d,VA g⟩,rfl⟩⟩⟩),?_⟩;unfold mm;rw[Yt 13e2,Yu 13e2]
theorem CI(h:GW m ks):de [aK m ks] Z=.ok (aK m (kP m ks 2)) Z:=by
 have m0:=h.m0;have m6:=h.m6;have l:=c0 h
 have E:ks.map aw=(ks.map ri).map fF:=by
  rw[V4];apply V6;intro k d;obtain⟨a,b,rfl,_⟩:=h.2.2.2.2 k d;rfl
 obtain⟨M,U,X,o,R,hT,d⟩:=Cw (T:=5e2) (Z:=Z) h (rg m) [] (Z++[.lst 0e8]) none none none (by rw[lB];simpa using m6) (by rw[E];show _=some (O.lst ((ks.map ri++[]).map fF));rw[UM];exact aA) 6e3 (λj H=>UW H);rw[Vy]at hT
 obtain⟨g,e⟩:∃g,M=Z++g:=by
  refine⟨M.drop 5e2,?_⟩;apply X7;intro i;by_cases I:i<Z.length
  ·rw[UW I,d i I]
  ·rw[UU 0e1,Wt];congr 1;omega
 have r:∀Z,ly [.int (m:Int)] Z=.ok (.fix 8e4) Z:=λZ=>by rw[fv 0e1 0e1,sN]
 have w:=qd (Z:=M) m0 m6 (ps:=E4 m ks) (by
  unfold E4;rw[U0,U1];have:=zL h (rg m);unfold vJ at this;rw[lB]at this;have c:m*225<=6*225:=Yz 225 m6
  omega) hT (xh h)
 rw[MZ h]at w;unfold de;rw[bX];dsimp[kb,List.replicate];rw[aG,aT];dsimp[au,aq,av,aD,ag,bg,aa,af,ni];rw[show sJ [.tup 0e8] Z=.ok 1e4 (Z++[.lst 0e8]) from rfl];dsimp[ae,af,bj,az,Yf,Yg];rw[aG,fI];dsimp[cH,aq,av,aD,ag,bg,aa,af,d4,r,ae,aV];rw[R];dsimp[az,aS,au,aq,av,aD,aj,ag,bg,aa,af,d4,w,ae,aL];rw[e];exact cL (dR (f9 m0 m6))
end
theorem Ek{m:Int}{a b:Int}(h:∀k∈ks,m8 m k):pQ true 6e8 3e9 Z=.ok (.bl (!decide ([a,b]∈ks))) Z:=by
 have e:=tJ (Z:=Z) (a:=a) (b:=b) h;unfold pQ at e⊢;split at e
 ·split at e
  ·split at e
   ·rename_i F;rw[T1 F,T1 rfl];rw[T3 UA]at e;injection e with d
    injection d with B
    rw[B]
   ·cases e
  ·cases e
 ·cases e
theorem KG{a b c d:Int}:kc true 6e8 (.tup [.int c,.int d]) Z=.ok (.bl (!(decide (a=c)&&decide (b=d)))) Z:=by
 show ah.ok (D.bl (!((a == c)&&((b == d)&&true)))) Z=_;congr 3;rw[Yb];rfl
section
theorem Ny{a b c:Int}(n:Z[i]?=some (df a b c)):∃m ks a' b' c',GW m ks/\c8 [.obj i,.int 6] Z=.ok 1e8 (Z.set i (df a' b' c')):=by
 have I:i<Z.length:=(Ul.mp n).1;obtain⟨m,ks,a1,b1,c1,h,ed⟩:=zu n;have m0:=h.m0;have m6:=h.m6;let s:aC:=Z.set i (df a1 b1 c1)
 have P1:Pn Z i s:=(Pn.self n).set I;obtain⟨w,a2,b2,c2,w0,w1,ew,J⟩:=P1.draw (m:=4) I 1e2 1e2;let d:aC:=s.set i (df a2 b2 c2)
 have E:b0 [.obj i,.int 6] Z=.ok 1e8 s:=ed;have j:bu [.obj i,.int 4] s=.ok (.int w) d:=ew;have σ:=f9 (k:=2) (ks:=ks) m0 m6;by_cases μ:w=0
 ·obtain⟨B,G,K,C⟩:=J.gc (dR h);refine⟨m,ks,B,G,K,h,?_⟩;unfold c8;rw[bS];dsimp[ih,List.replicate];rw[aG,aT];dsimp[au,aq,av,aj,ag,aa,af,E,ae,bj,az,Yf,Yg];rw[aG,aT];dsimp[au,aq,av,aj,ag,bg,aa,af,j,ae,bj,az,Yf,Yg];rw[aG,bL];dsimp[bW,aD,aj,ag,bg,aa,af,jh,VE,U8,aX,ae];rw[show (w == 0)=true from by rw[Yw];exact μ];dsimp[U9,aS,aj,ag,ae,af,mn,aL];exact C
 ·by_cases Q : w = 3 /\ 1 < m
  ·
   obtain⟨u,r,b3,f,u0,u1,eu,P3⟩:=J.draw (m:=(m:Int)-1) I 0e1 0e1;obtain⟨v,a4,b4,c4,v0,v1,N,P4⟩:=P3.draw (m:=(m:Int)-1-u) I 0e1 0e1;let M:aC:=(d.set i (df r b3 f)).set i (df a4 b4 c4)
   let y:Int:=u+1+v
   let l:List 0e5:=(kP m ks 2).filter λk=>!(decide (k.getD 0 0=u)&&decide (k.getD 1 0=y))
   have T:=bD (U:=List Int) (en:=aw) (src:=.fix ((kP m ks 2).map aw)) (g:=ai 0) (t:=fC) (e:=fE) (Z1:=M) (q:=λk=>!(decide (k.getD 0 0=u)&&decide (k.getD 1 0=y))) (h:=aw) (λS=>∃o,S=[o,some (.tup [.int u,.int y])]) 5e1 (us:=kP m ks 2) (acc:=[]) (ρ:=[none,some (.tup [.int u,.int y])]) ⟨_,rfl⟩
    (by rw[V8];have:=c0 σ;exact Ub 0e1 bH)
    (λk H a S hJJ => by
     obtain⟨o,e⟩:=hJJ;subst e;obtain⟨x,z,rfl,_⟩:=σ.2.2.2.2 k H;refine⟨[some (aw [x,z]),some (.tup [.int u,.int y])],⟨_,rfl⟩,rfl,?_,λ_=>by unfold fE;rw[ag]⟩;unfold fC;dsimp[bW,aD,aj,ag,aa,af];rw[show kc true (aw [x,z]) (.tup [.int u,.int y]) (M++[O.lst a])=_ from KG];dsimp[aa,af,aX]
     rfl)
   rw[Vy]at T;let P:List 15e6:=l.map ri++(if ([u,y]∈kP m ks 2) then [] else [(u,y)])
   have V:∀p∈P,PP m p:=by
    intro p n;rcases Uj.mp n with z|z
    ·obtain⟨k,H,rfl⟩:=We.mp z;obtain⟨x,F,rfl,h1,h2,h3⟩:=σ.2.2.2.2 k (T9.mp H).1;exact⟨⟨h1,by show x<(m:Int);omega⟩,⟨by show 0<=F;omega,h3⟩,by show x≠F;omega⟩
    ·split at z
     ·cases z
     ·rw[VR.mp z];exact⟨⟨u0,by show u<(m:Int);omega⟩,⟨by show 0<=u+1+v;omega,by show u+1+v<(m:Int);omega⟩,by show u≠u+1+v;omega⟩
   have X:l.map aw=(l.map ri).map fF:=by
    rw[V4];apply V6;intro k H;obtain⟨x,z,rfl,_⟩:=σ.2.2.2.2 k (T9.mp H).1;rfl
   have lsl:l.length<=15:=Ub (Yi _ _) (c0 σ);let M6:aC:=M++[O.lst (P.map fF)]
   have psl:P.length<=100000:=by
    dsimp[P,U0,U1];split <;> dsimp[VF,V8] <;> omega
   have R:=qd (Z:=M6) (t:=4e1) m0 m6 psl aA V;have W:=ki m0 m6 V;obtain⟨B,G,K,C⟩:=(P4.app (g:=[O.lst (P.map fF)])).gc (dR W);refine⟨m,_,B,G,K,W,?_⟩;have n2:0+1+1<=sizeLine:=l2;unfold c8;rw[bS];dsimp[ih,List.replicate];rw[aG,aT];dsimp[au,aq,av,aj,ag,aa,af,E,ae,bj,az,Yf,Yg];rw[aG,aT];dsimp[au,aq,av,aj,ag,bg,aa,af,j,ae,bj,az,Yf,Yg];rw[aG,bL];dsimp[bW,aD,aj,ag,bg,aa,af,jh,VE,U8,aX,ae];rw[show (w == 0)=false from by rw[TZ];exact μ];dsimp[VE,U8,bI,az];rw[aG,aT];dsimp[au,aq,av,aj,ag,aa,af,CI h,ae,bj,az,Yf,Yg];rw[aG,bL];dsimp[xV,bW,aD,aj,ag,bg,aa,af,jh,VE,U8,aX,d4,cq];rw[show (w == 3)=true from by rw[Yw];exact Q.1,T1 rfl,show cmpI .Gt (m:Int) 1=true from VA (by have:=Q.2;show (1:Int)<m;omega)];dsimp[ae,af,U9];rw[aG,aT];dsimp[au,aq,av,aD,aj,ag,bg,aa,af,d4];rw[show ke 5e6 (.int 1) d=.ok (.int ((m:Int)-1)) d from rfl];dsimp[aa,af];rw[show bu [.obj i,.int ((m:Int)-1)] d=.ok (.int u) (d.set i (df r b3 f)) from eu];dsimp[ae,af,bj,az,Yf,Yg];rw[aG,aT];dsimp[cQ,au,aq,av,aD,aj,ag,bg,aa,af,d4,lG];rw[show ke 5e6 (.int 1) (d.set i (df r b3 f))=.ok (.int ((m:Int)-1)) (d.set i (df r b3 f)) from rfl];dsimp[aa,af];rw[show ke (.int ((m:Int)-1)) (.int u) (d.set i (df r b3 f))=.ok (.int ((m:Int)-1-u)) (d.set i (df r b3 f)) from rfl];dsimp[aa,af];rw[show bu [.obj i,.int ((m:Int)-1-u)] (d.set i (df r b3 f))=.ok (.int v) M from N];dsimp[aa,af,lG,VF,V8,T1 n2,ae,bj,az,Yf,Yg];rw[aG,aT];dsimp[bp,ba,aD,aj,ag,bg,aa,af,ni,jx,aV];rw[show cD [none,some 5] [some (D.obj i),some (D.int 6),some (aK m (kP m ks 2)),some (D.int w),some (D.int u),some (D.tup [D.int u,D.int (u+1+v)]),none]=[none,some (.tup [.int u,.int y])] from rfl];rw[show compLoop (.fix ((kP m ks 2).map aw)) 4e1 9e1 fC fE ((kP m ks 2).map aw) [none,some (.tup [.int u,.int y])] (M++[O.lst []])=.ok 9e2 (M++[O.lst (l.map aw)]) from T];dsimp[ae,af,bj,az,Yf,Yg];rw[aG,bL];dsimp[bW,aD,aj,ag,bg,aa,af,ni];rw[show pQ true (.tup [.int u,.int (u+1+v)]) (.tup ((kP m ks 2).map aw)) (M++[O.lst (l.map aw)])=_ from Ek σ.2.2.2.2];dsimp[aa,af,aX,ae];by_cases A:[u,u+1+v]∈kP m ks 2
   ·rw [VA A];dsimp[WK,VE,U8,bI,az];have L:P=l.map ri:=by dsimp[P,y];rw[T1 A,UM]
    rw[aT];dsimp[au,aq,av,aD,aj,ag,bg,aa,af,d4];rw[show bV [.int m,.obj 4e1] (M++[O.lst (l.map aw)])=.ok (aK m (eK (P.map mm))) (M++[O.lst (P.map fF)]) from by rw[X,<- L];exact R];dsimp[ae,af,bj,az,Yf,Yg,aS,aj,ag,aL];exact C
   ·rw [TY A];dsimp[WT,U9];have L:P=l.map ri++[(u,u+1+v)]:=by dsimp[P,y];rw[T3 A]
    rw[d5,qL];dsimp[aj,ag,aa,af];rw[Ba (show (M++[O.lst (l.map aw)])[4e1]?=some (.lst (l.map aw)) from aA),T1 rfl];dsimp[aq,av,aj,ag,aa,af]
    rw[show dt 9e2 [.tup [.int u,.int (u+1+v)]] (M++[O.lst (l.map aw)])=.ok .non (M++[O.lst (P.map fF)]) from by
     unfold dt;dsimp only;rw[aA];dsimp only;rw[T1 (by rw[U1];exact T6 (show l.length<1000 by omega) bH),tj,X,L,Wo]
     rfl]
    dsimp[ae,af,az];rw[aT];dsimp[au,aq,av,aD,aj,ag,bg,aa,af,d4];rw[show bV [.int m,.obj 4e1] (M++[O.lst (P.map fF)])=.ok (aK m (eK (P.map mm))) (M++[O.lst (P.map fF)]) from R];dsimp[ae,af,bj,az,Yf,Yg,aS,aj,ag,aL];exact C
  ·obtain ⟨B, G, K, C⟩ := J.gc (dR σ);refine⟨m,_,B,G,K,σ,?_⟩;unfold c8;rw[bS];dsimp[ih,List.replicate];rw[aG,aT];dsimp[au,aq,av,aj,ag,aa,af,E,ae,bj,az,Yf,Yg];rw[aG,aT];dsimp[au,aq,av,aj,ag,bg,aa,af,j,ae,bj,az,Yf,Yg];rw[aG,bL];dsimp[bW,aD,aj,ag,bg,aa,af,jh,VE,U8,aX,ae];rw[show (w == 0)=false from by rw[TZ];exact μ];dsimp[VE,U8,bI,az];rw[aG,aT];dsimp[au,aq,av,aj,ag,aa,af,CI h,ae,bj,az,Yf,Yg];rw[aG,bL];dsimp[xV,bW,aD,aj,ag,bg,aa,af,jh,VE,U8,aX,d4,cq];by_cases f:w=3
   ·rw[show (w == 3)=true from by rw[Yw];exact f,T1 rfl,show cmpI .Gt (m:Int) 1=false from TY (by show ¬ (1:Int)<m;intro z;exact Q ⟨f,by omega⟩)];dsimp[ae,af,VE,U8,bI,az,aS,aj,ag,aL];exact C
   ·rw[show (w == 3)=false from by rw[TZ];exact f];dsimp[VE,U8,ae,af,bI,az,aS,aj,ag,aL];exact C
end
theorem qI:vz Z (.ok (.bl b) Z)=.ok (.bl b) Z:=bo 0e9
abbrev jM(l:List 0e5):D:=.tup (l.map bc)
def Qj:D->Int
 |.int i=>i
 |_=>0
def Ip:D->List Int
 |.tup S=>S.map Qj
 |_=>[]
theorem B9{w:List Int}:Ip (bc w)=w:=by
 show (w.map D.int).map Qj=w;rw[V4];exact Ys w
noncomputable def E7(w:List Int):Bool:=(List.range (w.length-1)).all λi=>decide (w.getD i 0<w.getD (i+1) 0)
theorem tu{w:List Int}:E7 w=true↔w.Pairwise (·<·):=by
 unfold E7;rw[WI];constructor
 ·intro h
  have s:∀i (I:i+1<w.length),w[i]<w[i+1]:=λi I=>by
   have:=Yr (h i (Ua.mpr 0e1));rw[W7,W7,W6 0e1,W6 I]at this;exact this
  have up:∀k i (I:i+k+1<w.length),w[i]<w[i+k+1]:=λk=>by
   induction k with
   |zero=>exact λi I=>s i I
   |succ k H=>exact λi I=>Int.lt_trans (H i 0e1) (s (i+k+1) I)
  rw[Wb];intro i j I D J;have:=up (j-i-1) i 0e1;have e:i+(j-i-1)+1=j:=by omega
  dsimp[e]at this;exact this
 ·intro h i I;have I:=Ua.mp I;apply VA;rw[W7,W7,W6 (show i<w.length by omega),W6 (show i+1<w.length by omega)];exact Wb.mp h i (i+1) 0e1 0e1 0e1
theorem G9{w:List Int}(i:Nat)(hi:i<w.length-1):
  f7 [some (.int (1+(i:Int))),some (bc w)] Z=.ok (.bl (decide (w.getD i 0<w.getD (i+1) 0))) Z:=by
 have H:i<w.length:=by omega
 have c:i+1<w.length:=by omega
 have G:atI (w.map D.int) (1+(i:Int)-1)=some (.int w[i]):=by
  rw[show (1+(i:Int)-1)=((i:Nat):Int) by omega];exact km (by rw[UX,W6 H];rfl)
 have A:atI (w.map D.int) (1+(i:Int))=some (.int w[i+1]):=by
  rw[show (1+(i:Int))=((i+1:Nat):Int) by omega];exact km (by rw[UX,W6 c];rfl)
 rw[W7,W7,W6 H,W6 c];unfold f7;dsimp[aD,aj,ag,bg,aa,af,sI];rw[mv G];dsimp[aa,af];rw[mv A];dsimp[aa,af,cq];rfl
theorem Bs{w:List Int}(l:w.length<1000):cU [bc w] Z=.ok (.bl (E7 w)) Z:=by
 have c:=bD (U:=Nat) (en:=λ(i:Nat)=>D.int (1+(i:Int))) (src:=.fix (bR 1 (w.length-1))) (g:=ai 0) (t:=a9) (e:=f7) (Z1:=Z) (q:=λ_=>true) (h:=λi=>.bl (decide (w.getD i 0<w.getD (i+1) 0)))
  (λb=>∃o,b=[o,some (bc w)]) 5e1 (us:=List.range (w.length-1)) (acc:=[]) (ρ:=[none,some (bc w)]) ⟨none,rfl⟩
  (by rw[V7,V8];exact Ub 0e1 bH)
  (λi I a b ⟨o,G⟩=>⟨[some (.int (1+(i:Int))),some (bc w)],⟨_,rfl⟩,by subst G;rfl,rfl,λ_=>G9 i (Ua.mp I)⟩)
 rw[Vy,bz]at c;unfold cU;rw[bX];dsimp[mR,aS,au,aq,bp,cH,bg,av,aa,af,ag,fw,U1];rw[xU 0e1 0e1 0e1 0e1];have n:((w.length:Int)-1).toNat=w.length-1:=by omega
 dsimp[aa,af,aV,n];rw[show cD [none,some 0] (some (bc w)::List.replicate (1-1) none)=[none,some (bc w)] from rfl];rw[show bR 1 (w.length-1)=(List.range (w.length-1)).map λ(i:Nat)=>D.int (1+(i:Int)) from rfl]at c⊢;rw[c];dsimp[aa,af];rw[gf (bs:=(List.range (w.length-1)).map λi=>decide (w.getD i 0<w.getD (i+1) 0)) (by rw[V4];exact aA)];dsimp[ae,af,aL];rw[cL 0e9];simp[E7,XH,Yy]
def wU(m:Int)(d:D):Bool:=AF m d&&(decide (0<(Ip d).length)&&E7 (Ip d))
theorem rS{m:Int}(h:AF m d=true):∃w:List Int,d=bc w/\Ip d=w/\∀n∈w,0<=n/\n<=m-1:=by
 cases d with
 |tup S=>
  obtain⟨j,rfl,f⟩:=Hj h;exact⟨j,rfl,B9,f⟩
 |_=>cases h
theorem Rv{w:List Int}(h:Kn Z (bc w)):w.length<1000:=by
 dsimp[bc,Kn,U1]at h;exact h.1
theorem LS{m:Int}(h:Kn Z d):bY [.int m,d] Z=.ok (.bl (wU m d)) Z:=by
 unfold bY;rw[bS];dsimp[ka,List.replicate,aS,fx,au,aq,av,ag,aj,aa,af,DI h,aX];cases p:AF m d with
 |false=>
  dsimp[VE,U8,ae,af,aL,wU,p,UE];exact qI
 |true=>
  obtain⟨w,rfl,U,_⟩:=rS p;dsimp[U9,aD,au,aq,av,aj,ag,aa,af,fw,U1,bg,cq,aX]
  rw[show cmpI .Gt (w.length:Int) 0=decide (0<w.length) from by
   show decide ((w.length:Int)>0)=_;by_cases z:0<w.length
   ·rw[VA z];exact VA 0e1
   ·rw[TY z];exact TY 0e1]
  rw[wU,p,U,Ya];cases decide (0<w.length) with
  |false=>
   dsimp[VE,U8,ae,af,aL,UE];exact qI
  |true=>
   dsimp[U9,Bs (Rv h),ae,af,aL,Ya];exact qI
theorem xl:∀{l:List Int}{lo hi:Int},l.Pairwise (·<·)->(∀x∈l,lo<=x/\x<hi)->(l.length:Int)<=max 0 (hi-lo)
 |[],lo,hi,_,_=>by dsimp[V8];omega
 |x::r,lo,hi,h,R=>by
  have i:=xl (l:=r) (lo:=x+1) (hi:=hi) (Wn.mp h).2 λy σ=>⟨(Wn.mp h).1 y σ,(R y (Ug _ σ)).2⟩;have:=R x Ue;dsimp[VF];omega
theorem y4{U V:Type}{f:U->List V}{k:Nat}:∀(l:List U),(∀u∈l,(f u).length<=k)->(l.flatMap f).length<=l.length*k
 |[],_=>by simp
 |x::r,h=>by
  have a:=h x Ue;have b:=y4 r λu H=>h u (Ug _ H);rw[Yn,U0,VF,Vx];omega
theorem vG{w:List Int}:wZ (bc w) Z=.ok (.fix (w.map D.int)) Z:=rfl
theorem x5{a b:Nat}(h:Z[a]?=some 7e5)(g:Z[b]?=some (.lst ys))(H:xs.length+ys.length<=1000000):eS (.obj a) (.obj b) Z=.ok 1e4 (Z++[.lst (xs++ys)]):=by
 unfold eS;dsimp[h,g];rw[T1 (Ub H 1e2)]
theorem Xs{x:D}{p:PyData}(e:nG Z x=some p)(f:fitP p=true):kc neg x x Z=.ok (.bl (!neg)) Z:=by
 unfold kc;rw[e];dsimp only;rw[T1 ⟨f,f⟩,SeqAt.eqv_refl _ (fitP_lay f)];cases neg <;> rfl
theorem mB{Z:aC}:∀fs:List Int,toPs Z (fs.map D.int)=some (fs.map PyData.int)
 |[]=>rfl
 |x::fs=>by dsimp[Vi,toPs,mB fs];rfl
theorem xy{Z:aC}:∀ls:List 0e5,gB Z (ls.map bc)=some (ls.map ej)
 |[]=>rfl
 |l::ls=>by
  have:AN Z (bc l)=some (ej l):=by
   show (toPs Z 8e8).map PyData.tuple=_;rw[mB];rfl
  dsimp[Vi,gB,xy ls,this];rfl
theorem Na:nG Z (jM ls)=some (.tuple (ls.map ej)):=by
 dsimp[nG,xy,Option.map_some]
theorem A0:∀ls:List 0e5,PyData.canLayAll0 (ls.map ej)=true/\PyData.depthAll (ls.map ej)<=1
 |[]=>by simp[PyData.canLayAll0,PyData.depthAll]
 |l::ls=>by
  have i:=A0 ls;have f:=mC l;dsimp[Vi,PyData.canLayAll0,PyData.depthAll,i.1,ej,PyData.canLay0,PyData.depth,f.1,f.2];have:=i.2;exact⟨rfl,by omega⟩
theorem Nf:fitP (.tuple (ls.map ej))=true:=by
 have:=A0 ls;dsimp[fitP,PyData.canLay0,this.1,PyData.depth,Ya];exact VA (by have:=this.2;omega)
theorem JD:∃x:Int,fm [.frz 12e2,.int 0] Z=.ok 11e8 Z:=by
 unfold fm;rw[bS];cases ns with
 |nil=>
  refine⟨0,?_⟩;dsimp[j9,Vh,List.replicate,aG,bL,bW,aD,aj,ag,au,aq,av,Dd,V8,aa,cq];rw[show cmpI .Lt 0 ((0:Nat):Int)=false from rfl];dsimp[aX,ae,VE,U8,bI,az,aS,bg,aL];exact bo 0e9
 |cons x r=>
  refine⟨x,?_⟩;dsimp[j9,Vi,List.replicate,aG,bL,bW,aD,aj,ag,au,aq,av,Dd,VF,aa,cq];rw[show cmpI .Lt 0 (((r.map D.int).length+1:Nat):Int)=true from VA 0e1];dsimp[aX,ae,U9,aS,aD,aj,ag,aa];rw[Pm zb];dsimp[ae,mn,aL];exact bo 0e9
theorem Md{p:Nat}(d:p<ls.length):cM (jM ls) (.int (p:Int)) Z=.ok (bc (ls.getD p [])) Z:=by
 refine mv (km ?_);rw[UX,W6 d,W7,W6 d];rfl
theorem RI{a:Bool}:kc false (.bl a) (.bl b) Z=.ok (.bl (a == b)) Z:=by cases a <;> cases b <;> rfl
noncomputable def LJ(l:List 0e5)(p:Nat):Bool:=decide ((p:Int)∈l.getD p [])&&(List.range l.length).all λq=>decide ((q:Int)∈l.getD p []) == decide ((p:Int)∈l.getD q [])
theorem JB{p:Nat}(d:p<ls.length)(l:ls.length<100):lh [jM ls,.int (p:Int)] Z=.ok (.bl (LJ ls p)) Z:=by
 have c:=bD (U:=Nat) (en:=λ(i:Nat)=>D.int (0+(i:Int))) (src:=.fix (bR 0 ls.length)) (g:=ai 0) (t:=a9) (e:=mQ) (Z1:=Z) (q:=λ_=>true) (h:=λq=>.bl (decide ((q:Int)∈ls.getD p []) == decide ((p:Int)∈ls.getD q [])))
  (λb=>∃o,b=[o,some (bc (ls.getD p [])),some (.int (p:Int)),some (jM ls)]) 5e1 (us:=List.range ls.length) (acc:=[]) (ρ:=[none,some (bc (ls.getD p [])),some (.int (p:Int)),some (jM ls)]) ⟨none,rfl⟩
  (by rw[V7,V8];exact Ub 0e1 bH)
  (λq z a b ⟨o, G⟩ => by
   refine⟨[some (.int (0+(q:Int))),some (bc (ls.getD p [])),some (.int (p:Int)),some (jM ls)],⟨_,rfl⟩,by subst G;rfl,rfl,λ_=>?_⟩;unfold mQ;rw[show (0:Int)+(q:Int)=(q:Int) from Int.zero_add _]
   dsimp[aD,aj,ag,aa,af,Ce,VE,U8,Md (Ua.mp z),RI])
 rw[Vy,bz]at c;unfold lh;rw[bS];dsimp[wQ,List.replicate];rw[aG,aT];dsimp[aD,aj,ag,aa,af,Md d,ae,bj,az,Yf,Yg,aS,fx,Ce,VE,U8,aX];unfold LJ;cases decide ((p:Int)∈ls.getD p []) with
 |false=>
  dsimp[VE,U8,ae,aL,UE];exact qI
 |true=>
  dsimp[U9,au,aq,av,bp,cH,aj,ag,aa,af,fw,U1,Ya];rw[fv 0e1 0e1];dsimp[aa,af,aV,U6];rw[show cD [none,some 2,some 1,some 0] [some (jM ls),some (.int (p:Int)),some (bc (ls.getD p []))]=[none,some (bc (ls.getD p [])),some (.int (p:Int)),some (jM ls)] from rfl];rw[show bR 0 ls.length=(List.range ls.length).map λ(i:Nat)=>D.int (0+(i:Int)) from rfl]at c⊢;rw[c];dsimp[aa,af];rw[gf (bs:=(List.range ls.length).map λ(q:Nat)=>decide ((q:Int)∈ls.getD p []) == decide ((p:Int)∈ls.getD q [])) (by rw[V4];exact aA)];dsimp[ae,af,aL];rw[cL 0e9];simp[XH,Yy]
def R4(l:List 0e5):Bool:=(List.range l.length).all (LJ l)
noncomputable def sE(d:D):Bool:=match d with
 |.tup S=>(decide (1<=S.length)&&decide (S.length<=6))&&(S.all (wU S.length)&&R4 (S.map Ip))
 |_=>false
theorem PH{m:Int}(h:∀x∈xs,AF m x=true):∃ls:List 0e5,xs=ls.map bc/\xs.map Ip=ls/\∀l∈ls,∀n∈l,0<=n/\n<=m-1:=by
 induction xs with
 |nil=>exact⟨[],rfl,rfl,by simp⟩
 |cons x r I=>
  obtain⟨ls,d,B,U⟩:=I λy σ=>h y (Ug _ σ);obtain⟨w,E,k,e⟩:=rS (h x Ue)
  exact⟨w::ls,by rw[d,E];rfl,by rw[Vi,k,B],λl i=>by
   rcases Uh.mp i with rfl|i
   ·exact e
   ·exact U l i⟩
theorem zq(h:Kn Z d):cy [d] Z=.ok (.bl (sE d)) Z:=by
 unfold cy;rw[bX];dsimp[pF,List.replicate];rw[aG,bL];dsimp[mu,dG,dQ,mj,ag,aa,af,wd h,cG];cases d with
 |tup S=>
  dsimp[Kn]at h;have k:di [.int (S.length:Int)] Z=.ok (.bl (ir 1 6 (.int (S.length:Int)))) Z:=DJ (by simp[Kn])
  have C:ir 1 6 (.int (S.length:Int))=(decide (1<=S.length)&&decide (S.length<=6)):=by
   show (decide ((1:Int)<=(S.length:Int))&&decide ((S.length:Int)<=6))=_;congr 1
   ·by_cases z : 1 <= S.length
    ·rw[VA z];exact VA 0e1
    ·rw[TY z];exact TY 0e1
   ·by_cases z : S.length <= 6
    ·rw[VA z];exact VA 0e1
    ·rw[TY z];exact TY 0e1
  dsimp[mi,WK,VE,U8,au,aq,av,ag,aa,af,fw,k,cG,C];cases n:(decide (1<=S.length)&&decide (S.length<=6)) with
  |false=>
   dsimp[WT,ae,U9,aS,bg,mn,aL,sE,n,UE];exact qI
  |true=>
   have f:1<=S.length/\S.length<=6:=by simpa using n
   dsimp[WK,ae,VE,U8,bI,az];rw[aG,aT];dsimp[au,aq,av,ag,aa,af,fw,ae,bj,az,Yf,Yg];rw[aG,bL];dsimp[dG,dQ,au,aq,av,bp,ba,ag,aa,af,jx,aV];rw[show cD [none,some 1] [some (.tup S),some (.int (S.length:Int))]=[none,some (.int (S.length:Int))] from rfl]
   rw[z6 (h:=wU S.length) (Ub (Uc h.1) bH) λx H a=>by
    unfold mY;dsimp[au,aq,av,aj,ag,aa,af]
    exact LS (xM _ (oO.mp h.2 x H))]
   dsimp[aa,af];rw[gf aA];dsimp[aa,af,cG];have E:(S.map (wU S.length)).all id=S.all (wU S.length):=by simp[XH,Yy]
   rw[E];have s:sE (.tup S)=(S.all (wU S.length)&&R4 (S.map Ip)):=by dsimp[sE,n,Ya]
   rw[s];cases R:S.all (wU S.length) with
   |false=>
    dsimp[WT,ae,U9,aS,bg,mn,aL,UE];exact cL 0e9
   |true=>
    obtain⟨l,rfl,u,_⟩:=PH (m:=S.length) λx H=>by
     have:=WI.mp R x H;unfold wU at this;exact(Vf _ _ ▸ this).1
    rw[U1]at f;dsimp[WK,ae,VE,U8,bI,az,aS,au,aq,av,bp,cH,aj,ag,aa,af,Ya,u,U1];rw[fv 0e1 0e1];dsimp[aa,af,aV,U6];rw[show cD [none,some 0] [some (jM l),some (.int (l.length:Int))]=[none,some (jM l)] from rfl]
    have c:=bD (U:=Nat) (en:=λ(i:Nat)=>D.int (0+(i:Int))) (src:=.fix (bR 0 l.length)) (g:=ai 0) (t:=a9) (e:=j5) (Z1:=Z++[.lst (((l.map bc).map (wU l.length)).map D.bl)]) (q:=λ_=>true) (h:=λq=>.bl (LJ l q))
     (λb=>∃o,b=[o,some (jM l)]) 5e1 (us:=List.range l.length) (acc:=[]) (ρ:=[none,some (jM l)]) ⟨none,rfl⟩
     (by rw[V7,V8];exact Ub 0e1 bH)
     (λq Q a b ⟨o, G⟩ => by
      refine⟨[some (.int (0+(q:Int))),some (jM l)],⟨_,rfl⟩,by subst G;rfl,rfl,λ_=>?_⟩;unfold j5;rw[show (0:Int)+(q:Int)=(q:Int) from Int.zero_add _];dsimp[au,aq,av,aj,ag,aa,af]
      exact JB (Ua.mp Q) 0e1)
    rw[Vy,bz]at c;rw[show bR 0 l.length=(List.range l.length).map λ(i:Nat)=>D.int (0+(i:Int)) from rfl]at c⊢;rw[c];dsimp[aa,af];rw[gf (bs:=(List.range l.length).map (LJ l)) (by rw[show ((List.range l.length).map (LJ l)).map D.bl=(List.range l.length).map (λq=>D.bl (LJ l q)) from V4];exact aA)];dsimp[ae,af,aL,Vr];rw[cL 0e9];simp[R4,XH,Yy]
 |_=>
  dsimp[mi,WT,U9,ae,aS,bg,mn,aL,sE];exact qI
def TJ(s:List 0e5):Prop:=∀l∈s,∀n∈l,0<=n/\n<(s.length:Int)
theorem mE{p:Nat}(d:p<ls.length):ls.getD p []∈ls:=by
 rw[W7,W6 d];exact XS d
noncomputable def c2(l:List 0e5)(p:Nat):Bool:=decide ((l.getD p []).filter (λq=>!decide ((p:Int)∈l.getD q.toNat []))=[])
theorem L3{m:Int}{w:List Int}(h:∀n∈w,0<=n/\n<=m-1):AF m (bc w)=true:=by
 show (w.map D.int).all (ir 0 (m-1))=true;rw[XH,WI];intro n H;have:=h n H;simp[ir];exact this
theorem OQ(h:l∈ls):∃p,p<ls.length/\ls.getD p []=l:=by
 obtain⟨p,d,e⟩:=YB.mp h;exact⟨p,d,by rw[W7,W6 d];exact e⟩
def rm(s:List 0e5):Prop:=(1<=s.length/\s.length<=6)/\TJ s/\(∀l∈s,l.Pairwise (·<·))/\(∀p,p<s.length->(p:Int)∈s.getD p [])/\∀p,p<s.length->∀q∈s.getD p [],(p:Int)∈s.getD q.toNat []
theorem tU(h:rm ls):sE (jM ls)=true:=by
 obtain⟨b,c,g,a,f⟩:=h;have u:(ls.map bc).map Ip=ls:=by rw[V4];exact(V6 λw _=>B9).trans (List.map_id ls)
 dsimp[sE,u,U1,Vf,Xy];refine⟨b,?_,?_⟩
 ·rw[XH,WI];intro l i;show wU ls.length (bc l)=true;unfold wU;rw[B9,L3 λn N=>by have:=c l i n N;omega,tu.mpr (g l i)];obtain⟨p,d,e⟩:=OQ i;have:=a p d;rw[e]at this;rw[VA (List.length_pos_of_mem this)];rfl
 ·unfold R4;rw[WI];intro p d;have d:=Ua.mp d;unfold LJ;rw[VA (a p d),Ya,WI];intro q H;have H:=Ua.mp H;by_cases z:(q:Int)∈ls.getD p []
  ·have y:(p:Int)∈ls.getD q []:=f p d q z;rw[VA z,VA y];rfl
  ·have y:¬ (p:Int)∈ls.getD q []:=λy=>z (f q H p y);rw[TY z,TY y];rfl
theorem zz{M:aC}{t m:Nat}{xs:List D}(i:m<=6)(J:M[t]?=some 7e5):∀(rs:List 15e6)(acc:List 0e5)(o:Option D),(∀p∈rs,PP m p) ->
  ∃o',i0 (.own t xs) 4e1 9e1 a9 lN (rs.map fF) [o] (M++[.set acc])=.ok [o'] (M++[.set ((rs.map mm).foldl n6 acc)])
 |[],acc,o,_=>by
  refine⟨o,?_⟩;rw[Vh];unfold i0;rw[T1 (show bK (.own t xs) (M++[.set acc]) from aI J)];rfl
 |p::rs,acc,o,h=>by
  obtain⟨o',e⟩:=zz i J rs (n6 acc (mm p)) (some (fF p)) λq z=>h q (Ug _ z);refine⟨o',?_⟩;have d:=(h p Ue).ok.prs 0e1
  have k:lN 4e1 [some (fF p)] (M++[.set acc])=.ok [some (fF p)] (M++[.set (n6 acc (mm p))]):=by
   unfold lN Ck ui fF;dsimp[cQ,aq,av,au,ag,aa,af,SU,SV,VF,V8,T1 l2,af];unfold IS;rw[aA];dsimp only;rw[T1 (show [min p.1 p.2,max p.1 p.2]∈prs from d)];dsimp[aa,af];rw[show (M++[O.set acc]).set 4e1 (O.set (n6 acc [min p.1 p.2,max p.1 p.2]))=M++[O.set (n6 acc [min p.1 p.2,max p.1 p.2])] from tj];rfl
  rw[Vi];unfold i0;rw[T1 (show bK (.own t xs) (M++[.set acc]) from aI J)];rw[show ai 0 (fF p) [o] (M++[.set acc])=.ok [some (fF p)] (M++[.set acc]) from rfl];dsimp[af,aa,af];rw[show a9 [some (fF p)] (M++[.set acc])=.ok true (M++[.set acc]) from rfl];dsimp[af,aa,af,U9];rw[k];dsimp[af,aa,af];rw[e];rfl
theorem zp{t:Nat}{ps:List 15e6}(h:1<=m)(i:m<=6)(J:Z[t]?=some (.lst (ps.map fF)))(f:∀p∈ps,PP m p):jV [.int m,.obj t] Z=.ok (aK m (eK (ps.map mm))) Z:=by
 have n:∀k∈ps.map mm,m8 m k:=λk K=>by obtain⟨p,d,rfl⟩:=We.mp K;exact(f p d).ok
 obtain⟨u,a,⟨R,o,X,E,B,U⟩,N⟩:=lE (src:=.eno t (ps.map fF)) (g:=cu 2 8e6) (fb:=oy)
  (λS b M=>∃(R:List (Nat×(Int×Int)))(o X:Option D),S=R.map (λr=>D.tup [.int (r.1:Nat),fF r.2])/\(M=Z/\∀r∈R,PP m r.2)/\b=[some 5e6,some 10e5,o,X])
  (λb M hJJ => by
   obtain⟨_,_,_,_,e,_⟩:=hJJ
   rw[e.1];exact J)
  (λx S b M hJJ => by
   obtain⟨R,o,X,E,B,U⟩:=hJJ;subst U;obtain⟨rfl,B⟩:=B;cases R with
   |nil=>cases E
   |cons r R=>
    rw[Vi]at E;injection E with H c
    subst H c;have d:=B r Ue;refine⟨J,[some 5e6,some 10e5,some (.int (r.1:Nat)),some (fF r.2)],M,[some 5e6,some 10e5,some (.int (r.1:Nat)),some (fF r.2)],M,rfl,?_,R,_,_,rfl,⟨rfl,λz μ=>B z (Ug _ μ)⟩,rfl⟩;unfold oy;dsimp[bL,dG,dQ,au,aq,av,ag,aj,aa,af];rw[show gF [.int m,fF r.2] M=.ok 6e7 M from CD d.1 d.2.1 d.2.2]
    dsimp[aa,af,cG,WK,ae,VE,U8,bI])
  (xs:=dq 0 (ps.map fF)) (ρ:=[some 5e6,some 10e5,none,none]) (Z:=Z)
  ⟨(List.range ps.length).zip ps, none, none, by
    have core:∀(l:List 15e6)(k:Nat),dq k (l.map fF)=((List.range' k l.length).zip l).map (λr=>D.tup [.int (r.1:Nat),fF r.2]):=by
     intro l
     induction l with
     |nil=>intro k;rfl
     |cons p l I=>
      intro k;dsimp[Vi,dq,VF,List.range'_succ,XB];rw[I (k+1)]
    rw[core,<- List.range_eq_range'],⟨rfl,λr j=>f r.2 (UQ j).2⟩,rfl⟩
 obtain⟨rfl,_⟩:=B;subst U;obtain⟨v,q⟩:=zz i J ps [] none f;unfold jV;rw[bS];dsimp[Ab,List.replicate,aG,bL,dG,dQ,au,aq,av,ag,aj,aa,af,CG h i,cG,WK,ae,VE,U8,bI,az,fI,cH];rw[show kW [.obj t] a=.ok (.eno t (ps.map fF)) a from by unfold kW;dsimp only;rw[J]];dsimp[ae];rw[show (n3.eno t (ps.map fF)).items=dq 0 (ps.map fF) from rfl,N];dsimp[az,aS,cQ,aq,av,au,ag,aj,aa,af];unfold xo;dsimp[ba,aj,ag,aa,af];rw[b8 J];dsimp[aa,af,bw];rw[show cD [none] _=[none] from rfl,q];dsimp[aa,af];rw[show (ps.map mm).foldl n6 []=gO (ps.map mm) from rfl]
 have s:cf [.obj a.length] (a++[.set (gO (ps.map mm))])=.ok (.obj (a++[O.set (gO (ps.map mm))]).length) ((a++[.set (gO (ps.map mm))])++[.lst ((eK (ps.map mm)).map aw)]):=by
  unfold cf;dsimp only;rw[aA];dsimp only;unfold kl;dsimp only;rw[aA];dsimp only;rw[qN]
 rw[s];dsimp[aa,af];rw[jw aA];dsimp[aa,af,VF,V8,T1 l2,ae,aL];rw[Vr];exact cL (dR (qM 0e1 0e1 n))
theorem zl(h:rm ls)(i:l∈ls):l.length<=6:=by
 obtain⟨H,c,d,_⟩:=h;have:=xl (lo:=0) (hi:=ls.length) (d l i) (c l i);omega
theorem Gm(h:rm ls)(d:Kn Z (jM ls)):dF [jM ls] Z=.ok .non Z:=by
 unfold dF;rw[bX];dsimp[nV,List.replicate,bL,dG,dQ,au,aq,av,ag,aa,zq d,tU h,af,cG,WK,ae,VE,U8,bI,zN];exact bo 0e9
noncomputable def yL(r:Nat×List Int):List 15e6:=(r.2.filter λb=>decide ((r.1:Int)<b)).map λb=>((r.1:Int),b)
def EU(l:List 0e5):List (Nat×List Int):=(List.range l.length).zip l
def So(r:Nat×List Int):D:=.tup [.int (r.1:Nat),bc r.2]
theorem H7:dq 0 (ls.map bc)=(EU ls).map So:=by
 have core:∀(l:List 0e5)(k:Nat),dq k (l.map bc)=((List.range' k l.length).zip l).map So:=by
  intro l
  induction l with
  |nil=>intro k;rfl
  |cons p l i=>
   intro k;dsimp[Vi,dq,VF,List.range'_succ,XB];rw[i (k+1)];rfl
 unfold EU;rw[core,<- List.range_eq_range']
theorem rW{r:Nat×List Int}(h:r∈EU ls):r.1<ls.length/\ls.getD r.1 []=r.2:=by
 obtain⟨i,I,e⟩:=YB.mp h;unfold EU at I e;rw[YC,V7,Nat.min_self]at I;rw[List.getElem_zip,List.getElem_range]at e;subst e;exact⟨I,by rw[W7,W6 I];rfl⟩
theorem OO{p:Nat}(h:p<ls.length):(p,ls.getD p [])∈EU ls:=by
 unfold EU;refine YB.mpr ⟨p,by rw[YC,V7,Nat.min_self];exact h,?_⟩;rw[List.getElem_zip,List.getElem_range,W7,W6 h];rfl
theorem KH:(EU ls).length=ls.length:=by
 unfold EU;rw[YC,V7,Nat.min_self]
def Iz(l:List 0e5):List 15e6:=(EU l).flatMap yL
def LI(s:List 0e5):List 15e6:=s.flatMap λl=>l.flatMap (fL l)
theorem MU(h:rm ls):(Iz ls).length<=36:=by
 have a:=y4 (f:=yL) (k:=6) (EU ls) λr R=>by
  unfold yL;rw[U1];have:=zl h (by rw[<- (rW R).2];exact mE (rW R).1:r.2∈ls);exact Ub (Yi _ _) this
 rw[KH]at a;have:=h.1.2;have:ls.length*6<=6*6:=Yz 6 this;exact Ub a this
theorem O2(h:rm ls):(LI ls).length<=216:=by
 have a:=y4 (f:=λl=>l.flatMap (fL l)) (k:=36) ls λl i=>by
  have H:=zl h i
  have:=y4 (f:=fL l) (k:=6) l λx _=>by
   unfold fL;rw[U1];exact Ub (Yi _ _) H
  have:l.length*6<=6*6:=Yz 6 H;omega
 have:=h.1.2;have:ls.length*36<=6*36:=Yz 36 this;exact Ub a this
theorem Fg(h:rm ls):∀p∈Iz ls,PP ls.length p:=λp d=>by
 obtain⟨r,R,d⟩:=Yh.mp d;obtain⟨b,B,rfl⟩:=We.mp d;obtain⟨H,c⟩:=rW R;obtain⟨k,n⟩:=T9.mp B;have:=Yr n;have r:=h.2.1 _ (mE H) b (by rw[c];exact k);exact⟨⟨by dsimp only;omega,by dsimp only;omega⟩,r,by dsimp only;omega⟩
theorem FC(h:rm ls):∀p∈LI ls,PP ls.length p:=λp d=>by
 obtain⟨l,i,d⟩:=Yh.mp d;obtain⟨x,X,d⟩:=Yh.mp d;obtain⟨y,σ,rfl⟩:=We.mp d;obtain⟨H,a⟩:=T9.mp σ;have:=Yr a;exact⟨h.2.1 l i x X,h.2.1 l i y H,by dsimp only;omega⟩
theorem Je(h:rm ls):eV (iy kW 2e0) [none,none,none] (cu 2 3e2) (a9) (lO) [some (jM ls)] M=.ok 9e2 (M++[.lst ((Iz ls).map fF)]):=by
 have N:0+1+1<=sizeLine:=l2
 obtain⟨i,_,R⟩:=eX (U:=Nat×List Int) (en:=So) (src:=.fix (dq 0 (ls.map bc))) (g:=cu 2 3e2) (t:=a9) (fb:=lO) (Z1:=M) (q:=λ_=>true) (k:=λr=>(yL r).map fF)
  (λc=>∃x y z,c=[x,y,z]) 5e1 (us:=EU ls) (acc:=[]) (ρ:=[none,none,none]) ⟨_,_,_,rfl⟩
  (by
   rw[bz,V8,WB,<- YD,U1]
   exact Ub (show (Iz ls).length<=1000 by have:=MU h;omega) bH)
  (λr d a c hJJ => by
   obtain⟨x,y,z,e⟩:=hJJ;subst e;refine⟨[some (.int (r.1:Nat)),some (bc r.2),z],rfl,rfl,⟨(λq=>Bool.noConfusion q),λ_ n=>?_⟩⟩
   obtain⟨j,⟨G,B⟩,run2⟩:=eX (U:=Int) (en:=D.int) (src:=.fix (r.2.map D.int)) (g:=ai 2) (t:=ow) (fb:=jR oz) (Z1:=M) (q:=λb=>decide ((r.1:Int)<b)) (k:=λb=>[fF ((r.1:Int),b)])
    (λc=>∃z,c=[some (.int (r.1:Nat)),some (bc r.2),z]) 5e1 (us:=r.2) (acc:=a) (ρ:=[some (.int (r.1:Nat)),some (bc r.2),z]) ⟨_,rfl⟩
    (by
     rw[<- YE]
     ·unfold yL at n;rw[V4]at n
      exact n)
    (λb H a c hJJ => by
     obtain⟨z,e⟩:=hJJ;subst e;refine⟨[some (.int (r.1:Nat)),some (bc r.2),some (.int b)],rfl,?_,λ_=>⟨_,rfl⟩,λ_ n=>⟨[some (.int (r.1:Nat)),some (bc r.2),some (.int b)],⟨_,rfl⟩,?_⟩⟩
     ·unfold ow;dsimp[bW,aD,aj,ag,aa,af,cq,aX];rfl
     ·refine pd ?_ n;unfold oz;dsimp[cQ,aq,av,aj,ag,aa,af,VF,V8,T1 N]
      rfl)
   subst B;refine⟨[some (.int (r.1:Nat)),some (bc r.2),G],⟨_,_,_,rfl⟩,?_⟩;unfold lO gN;dsimp[ba,aj,ag,aa,vG,af,aV];rw[run2];rw[<- YE];unfold yL;rw[V4]
   rfl)
 unfold eV;dsimp[cH,aq,av,ag,aa];rw[show kW [jM ls] M=.ok (.fix (dq 0 (ls.map bc))) M from rfl];dsimp[aa,aV];rw[show cD [none,none,none] [some (jM ls)]=[none,none,none] from rfl];rw[H7]at R⊢;rw[R];dsimp[aa,bz,Vy];rw[<- YD];rfl
theorem GH(h:rm ls)(d:Kn Z (jM ls)):gQ [jM ls] Z=.ok (aK ls.length (eK ((Iz ls).map mm))) Z:=by
 unfold gQ;rw[bX];dsimp[Ac,List.replicate];rw[aG,d5];dsimp[au,aq,av,ag,aa,Gm h d,ae,az,aS,fw,U1];rw[show (some (jM ls)::List.replicate (1-1) none)=[some (jM ls)] from rfl,Je h];dsimp[aa];rw[zp h.1.1 h.1.2 aA (Fg h)];dsimp[af,ae,aL];exact cL (dR (ki h.1.1 h.1.2 (Fg h)))
theorem K5(h:rm ls):eV (cw 3e1) [none,none,none] 9e1 (a9) (kL) [some (jM ls)] M=.ok 9e2 (M++[.lst ((LI ls).map fF)]):=by
 have N:0+1+1<=sizeLine:=l2
 obtain⟨i,_,R⟩:=eX (U:=List Int) (en:=bc) (src:=.fix (ls.map bc)) (g:=ai 0) (t:=a9) (fb:=kL) (Z1:=M) (q:=λ_=>true) (k:=λl=>(l.flatMap (fL l)).map fF)
  (λd=>∃x y z,d=[x,y,z]) 5e1 (us:=ls) (acc:=[]) (ρ:=[none,none,none]) ⟨_,_,_,rfl⟩
  (by
   rw[bz,V8,WB,<- YD,U1]
   exact Ub (show (LI ls).length<=1000 by have:=O2 h;omega) bH)
  (λl L a d hJJ => by
   obtain⟨x,y,z,e⟩:=hJJ;subst e;refine⟨[some (bc l),y,z],rfl,rfl,⟨(λq=>Bool.noConfusion q),λ_ n=>?_⟩⟩
   obtain⟨j,⟨F,G,B⟩,run2⟩:=eX (U:=Int) (en:=D.int) (src:=.fix 8e8) (g:=ai 1) (t:=a9) (fb:=gN (cw 3e1) (ai 2) (fS) (jR (f6))) (Z1:=M) (q:=λb=>true) (k:=λx=>(fL l x).map fF)
    (λd=>∃y z,d=[some (bc l),y,z]) 5e1 (us:=l) (acc:=a) (ρ:=[some (bc l),y,z]) ⟨_,_,rfl⟩
    (by rw[bz,<- YD];exact n)
    (λb H a d hJJ => by
     obtain⟨y,z,e⟩:=hJJ;subst e;refine⟨[some (bc l),some (.int b),z],rfl,rfl,⟨(λq=>Bool.noConfusion q),λ_ n=>?_⟩⟩
     obtain⟨m,⟨μ,E⟩,run3⟩:=eX (U:=Int) (en:=D.int) (src:=.fix 8e8) (g:=ai 2) (t:=fS) (fb:=jR f6) (Z1:=M) (q:=λy=>decide (b<y)) (k:=λy=>[fF (b,y)])
      (λd=>∃z,d=[some (bc l),some (.int b),z]) 5e1 (us:=l) (acc:=a) (ρ:=[some (bc l),some (.int b),z]) ⟨_,rfl⟩
      (by
       rw[<- YE];unfold fL at n;rw[V4]at n
       exact n)
      (λc C a d hJJ => by
       obtain⟨z,e⟩:=hJJ;subst e;refine⟨[some (bc l),some (.int b),some (.int c)],rfl,?_,λ_=>⟨_,rfl⟩,λ_ n=>⟨[some (bc l),some (.int b),some (.int c)],⟨_,rfl⟩,?_⟩⟩
       ·unfold fS;dsimp[bW,aD,aj,ag,aa,af,cq,aX];rfl
       ·refine pd ?_ n;unfold f6;dsimp[cQ,aq,av,aj,ag,aa,af,VF,V8,T1 N]
        rfl)
     subst E;refine⟨[some (bc l),some (.int b),μ],⟨_,_,rfl⟩,?_⟩;unfold gN;dsimp[ba,aj,ag,aa,vG,af,aV];rw[run3,<- YE];unfold fL;rw[V4]
     rfl)
   subst B;refine⟨[some (bc l),F,G],⟨_,_,_,rfl⟩,?_⟩;show (cw 3e1 [some (bc l),y,z] (M++[O.lst a])).nox.bind (λs f=>i0 s 4e1 (ai 1) a9 (gN (cw 3e1) (ai 2) fS (jR f6)) s.items [some (bc l),y,z] f)=_;rw[show cw 3e1 [some (bc l),y,z] (M++[O.lst a])=.ok (.fix 8e8) (M++[O.lst a]) from rfl];dsimp[af,aa,aV]
   rw[run2,bz,<- YD])
 unfold eV;dsimp[ba,ag,aa];rw[show wZ (jM ls) M=.ok (.fix (ls.map bc)) M from rfl];dsimp[aa,aV];rw[show cD [none,none,none] [some (jM ls)]=[none,none,none] from rfl,R];dsimp[aa,bz,Vy];rw[<- YD];rfl
theorem DK(h:rm ls)(d:Kn Z (jM ls)):dZ [jM ls] Z=.ok (aK ls.length (eK ((LI ls).map mm))) Z:=by
 unfold dZ;rw[bX];dsimp[qY,List.replicate];rw[aG,d5];dsimp[au,aq,av,ag,aa,Gm h d,ae,az,aS,fw,U1];rw[show (some (jM ls)::List.replicate (1-1) none)=[some (jM ls)] from rfl,K5 h];dsimp[aa];rw[zp h.1.1 h.1.2 aA (FC h)];dsimp[af,ae,aL];exact cL (dR (ki h.1.1 h.1.2 (FC h)))
theorem GP{x:D}{p:Int}(h:0<=p/\p<(m:Int)):fY [.tup [.int m,x],.int p] Z=.ok .non Z:=by
 unfold fY;rw[bS];dsimp[nX,List.replicate,bL,dG,dQ,au,aq,av,aD,ag,aj,bg,aa,af,d4];rw[zr (show Iu Z 8e3 from nofun),show EX m 8e3=true from VA h];dsimp[aa,af,cG,WK,ae,VE,U8,bI,zN];exact bo 0e9
theorem CC{p:Int}(h:ju 2e7 m ks)(H:0<=p/\p<(m:Int)):iA [.tup [.int m,.tup 0e8],.int p] Z=.ok (bc (gM m ks p)) Z:=by
 have i:=c0 h;obtain⟨_,l,o,_,d⟩:=h;have eN:(Z++[O.lst [.int p]]++[O.lst [.int p]])[(Z++[O.lst [.int p]]).length]?=some (.lst ([p].map D.int)):=aA;obtain⟨t,g,j,E,B,U,f,b⟩:=zt (Z:=Z++[O.lst [.int p]]++[O.lst [.int p]]) d i eN
 have mem:∀q,q∈p::j↔q∈gM m ks p:=λq=>by
  unfold gM;rw[Uh,b q,T9,fH];dsimp[VR,exists_eq_left,XU,Xy,gh d,sX d];constructor
  ·rintro (rfl | z)
   ·exact⟨H,.inl rfl⟩
   ·refine⟨?_,.inr z⟩;rcases z with z|z <;> (obtain⟨u,v,e,r,w,y⟩:=d _ z;simp at e;obtain⟨A,c⟩:=e;subst A c;exact⟨by omega,by omega⟩)
  ·rintro ⟨_, z | z⟩
   ·exact .inl z
   ·exact .inr z
 have rng:∀n∈p::j,0<=n/\n<6:=λn N=>by
  have:=fH.mp (T9.mp ((mem n).mp N)).1;omega
 unfold iA;rw[bS];have l1:([D.int p]:List D).length<=sizeLine:=Ub 0e9 bH;dsimp[wK,List.replicate,aG,d5,au,aq,av,ag,aj,aa,af,GP H,ae,az,aS,aD,jT,T1 l1,bg,ni,E]
 have a:eS 1e4 10e5 (Z++[O.lst [.int p]]++[O.lst [.int p]]++g)=.ok (.obj (Z++[O.lst [.int p]]++[O.lst [.int p]]++g).length) ((Z++[O.lst [.int p]]++[O.lst [.int p]]++g)++[O.lst ((p::j).map D.int)]):=by
  unfold eS;dsimp only;rw[B,aI (aI aA)];dsimp only;rw[T1]
  ·rfl
  ·rw[U1];exact Ub (show _<=1000 by simp;omega) bH
 rw[a];dsimp[aa,af]
 have S:∀M:aC,uX [.obj 4e1] (M++[O.lst ((p::j).map D.int)])=.ok (.obj (M++[O.lst ((p::j).map D.int)]).length) ((M++[O.lst ((p::j).map D.int)])++[O.iset (jU (p::j))]):=λM=>by
  unfold uX;dsimp only;rw[aA];dsimp only;unfold yY;rw[show sH ((p::j).map D.int)=none from rfl,Lb rng]
 rw[S];dsimp[aa,af]
 have s:∀M:aC,cf [.obj 4e1] (M++[O.iset (jU (p::j))])=.ok (.obj (M++[O.iset (jU (p::j))]).length) ((M++[O.iset (jU (p::j))])++[.lst ((gM m ks p).map D.int)]):=λM=>by
  unfold cf;dsimp only;rw[aA];dsimp only;unfold kl;dsimp only;rw[aA];dsimp only;rw[DO mem]
 rw[s];dsimp[aa,af];rw[jw aA];dsimp[ae,aL];dsimp[Vr];exact cL (by dsimp[oM];exact i3.mpr λx X=>by obtain⟨k,_,rfl⟩:=We.mp X;simp)
section
abbrev cF(m:Nat)(ks:List 0e5):List 0e5:=(rg m).map (gM m ks)
theorem Bl{p:Int}(i:m<=6):(gM m ks p).length<=6:=by
 unfold gM;exact Ub (Yi _ _) (by rw[lB];exact i)
theorem tV(h:GW m ks):gv [aK m ks] Z=.ok (jM (cF m ks)) Z:=by
 have m6:=h.m6
 have c:=bD (U:=Int) (en:=D.int) (src:=.fix 8e4) (g:=ai 0) (t:=a9) (e:=lR) (Z1:=Z) (q:=λ_=>true) (h:=λp=>bc (gM m ks p)) (λb=>∃o,b=[o,some 1e8]) 5e1 (us:=rg m) (acc:=[]) (ρ:=[none,some 1e8]) ⟨_,rfl⟩
  (by rw[V8,lB];exact Ub 0e1 bH)
  (λp H a b hJJ => by
   obtain⟨o,d⟩:=hJJ;subst d;refine⟨[some 8e3,some 1e8],⟨_,rfl⟩,rfl,rfl,λ_=>?_⟩;unfold lR;dsimp[au,aq,av,aj,ag,aa]
   exact CC h (fH.mp H))
 rw[bz,Vy]at c;unfold gv;rw[bX];dsimp[uo,List.replicate,aS,au,aq,av,bp,cH,aD,bg,ag,aa,d4];rw[fv 0e1 0e1];dsimp[aa,aV,sN];rw[show cD [none,some 0] (some 1e8::List.replicate (1-1) none)=[none,some 1e8] from rfl,c];dsimp[aa];rw[jw aA];dsimp[ae,aL];rw[show (rg m).map (λp=>bc (gM m ks p))=(cF m ks).map bc from by rw[V4];rfl];refine cL ?_;dsimp[oM];exact i3.mpr λx X=>by obtain⟨k,_,rfl⟩:=We.mp X;exact A9
theorem ku(i:m<=6)(h:l∈cF m ks):l.length<=6/\∀x∈l,0<=x/\x<(m:Int):=by
 obtain⟨p,_,rfl⟩:=We.mp h;exact⟨Bl i,λx d=>fH.mp (T9.mp d).1⟩
theorem dS:(cF m ks).length=m:=by rw[U1,lB]
end
section
theorem CB{a b:Int}(h:GW m ks):iB [aK m ks,.int a,.int b] Z=.ok (.bl (kR ks a b)) Z:=by
 have N:0+1+1<=sizeLine:=l2;unfold iB;rw[oe];dsimp[wM,List.replicate,aS,aD,cQ,au,aq,av,bg,aj,ag,aa,af,L9,Ma,VF,V8,T1 N,ni,tJ h.2.2.2.2,ae,aL];exact qI
def fu(ks:List 0e5)(k:List Int)(p:Int):Bool:=k.all λo=>kR ks o p
theorem CJ{p:Int}(h:GW m ks)(i:k.length<=100):e4 [aK m ks,bc k,.int p] Z=.ok (.bl (fu ks k p)) Z:=by
 have c:=bD (U:=Int) (en:=D.int) (src:=.fix (k.map D.int)) (g:=ai 0) (t:=a9) (e:=kN) (Z1:=Z) (q:=λ_=>true) (h:=λo=>.bl (kR ks o p)) (λb=>∃o,b=[o,some 1e8,some 8e3]) 5e1 (us:=k) (acc:=[]) (ρ:=[none,some 1e8,some 8e3]) ⟨_,rfl⟩
  (by rw[V8];exact Ub 0e1 bH)
  (λo G a b ⟨x, d⟩ => ⟨[some (.int o), some 1e8, some 8e3], ⟨_, rfl⟩, by subst d; rfl, rfl, λ_ => by
   unfold kN;dsimp[au,aq,av,aj,ag,aa,af]
   exact CB h⟩)
 rw[bz,Vy]at c;unfold e4;rw[oe];dsimp[q0,List.replicate,aS,au,aq,av,bp,ba,aj,ag,aa,af,vG,aV];rw[show cD [none,some 0,some 2] (some 1e8::some (bc k)::some 8e3::List.replicate (3-3) none)=[none,some 1e8,some 8e3] from rfl,c];dsimp[aa,af];rw[gf (bs:=k.map λo=>kR ks o p) (by rw[V4];exact aA)];dsimp[ae,aL];rw[cL 0e9];simp[fu,XH,Yy]
noncomputable def oG(ks:List 0e5)(w:List Int):Bool:=(w.flatMap λa=>(w.filter λb=>decide (a<b)).map λb=>kR ks a b).all id
def Cb(m:Nat)(ks:List 0e5)(d:D):Bool:=wU m d&&oG ks (Ip d)
theorem K2{w:List Int}(h:GW m ks)(i:w.length<=100):eV (cw 5e4) [none,none,some 0,some 1] 9e1 (a9) (iT) [some 1e8,some (bc w)] M=.ok 9e2 (M++[.lst ((w.flatMap λa=>(w.filter λb=>decide (a<b)).map λb=>kR ks a b).map D.bl)]):=by
 have L:(w.flatMap λa=>(w.filter λb=>decide (a<b)).map λb=>kR ks a b).length<=10000:=by
  have:=y4 (f:=λa=>(w.filter λb=>decide (a<b)).map λb=>kR ks a b) (k:=100) w λa _=>by
   rw[U1];exact Ub (Yi _ _) i
  have:w.length*100<=100*100:=Yz 100 i;omega
 obtain⟨d,_,R⟩:=eX (U:=Int) (en:=D.int) (src:=.fix (w.map D.int)) (g:=ai 0) (t:=a9) (fb:=iT) (Z1:=M) (q:=λ_=>true) (k:=λa=>((w.filter λb=>decide (a<b)).map λb=>kR ks a b).map D.bl)
  (λc=>∃x y,c=[x,y,some 1e8,some (bc w)]) 5e1 (us:=w) (acc:=[]) (ρ:=[none,none,some 1e8,some (bc w)]) ⟨_,_,rfl⟩
  (by
   rw[bz,V8,WB,<- YD,U1]
   exact Ub L (Ub 1e2 A2))
  (λx X a c hJJ => by
   obtain⟨y,z,e⟩:=hJJ;subst e;refine⟨[some 11e8,z,some 1e8,some (bc w)],rfl,rfl,⟨(λq=>Bool.noConfusion q),λ_ n=>?_⟩⟩
   obtain⟨j,⟨G,B⟩,run2⟩:=eX (U:=Int) (en:=D.int) (src:=.fix (w.map D.int)) (g:=ai 1) (t:=kI) (fb:=jR kM) (Z1:=M) (q:=λb=>decide (x<b)) (k:=λb=>[.bl (kR ks x b)])
    (λc=>∃z,c=[some 11e8,z,some 1e8,some (bc w)]) 5e1 (us:=w) (acc:=a) (ρ:=[some 11e8,z,some 1e8,some (bc w)]) ⟨_,rfl⟩
    (by
     rw[<- YE];rw[V4]at n
     exact n)
    (λb H a c hJJ => by
     obtain⟨z,e⟩:=hJJ;subst e;refine⟨[some 11e8,some (.int b),some 1e8,some (bc w)],rfl,?_,λ_=>⟨_,rfl⟩,λ_ n=>⟨[some 11e8,some (.int b),some 1e8,some (bc w)],⟨_,rfl⟩,?_⟩⟩
     ·unfold kI;dsimp[bW,aD,aj,ag,aa,af,cq,aX];rfl
     ·refine pd ?_ n;unfold kM;dsimp[au,aq,av,aj,ag,aa,af]
      exact CB h)
   subst B;refine⟨[some 11e8,G,some 1e8,some (bc w)],⟨_,_,rfl⟩,?_⟩;unfold iT gN;dsimp[ba,aj,ag,aa,vG,af,aV];rw[run2,<- YE,V4]
   rfl)
 unfold eV;dsimp[ba,aj,ag,aa,vG,aV];rw[show cD [none,none,some 0,some 1] [some 1e8,some (bc w)]=[none,none,some 1e8,some (bc w)] from rfl,R];dsimp[aa,bz,Vy];rw[<- YD]
theorem N4{w:List Int}(i:m<=6)(h:wU m d=true)(e:Ip d=w):w.length<=6:=by
 unfold wU at h;rw[Vf,Vf]at h;obtain⟨v,_,B,R⟩:=rS h.1;rw[e]at B h;subst B;have:=xl (lo:=0) (hi:=m) (tu.mp h.2.2) (λx H=>by have:=R x H;omega);omega
theorem GK(h:GW m ks)(k:Kn Z d):jc [aK m ks,d] Z=.ok (.bl (Cb m ks d)) Z:=by
 unfold jc;rw[bS];dsimp[qX,List.replicate];rw[aG,bL];dsimp[dG,dQ,au,aq,av,aD,bg,aj,ag,aa,af,d4,LS k,cG];unfold Cb;cases p:wU m d with
 |false=>
  dsimp[WT,ae,U9,aS,bg,mn,aL,UE];exact qI
 |true=>
  have u:=p;unfold wU at u;rw[Vf]at u;obtain⟨w,rfl,e,_⟩:=rS u.1;have i:=N4 h.m6 p e;dsimp[WK,ae,VE,U8,bI,az,aS,au,aq,av];rw[show (some 1e8::some (bc w)::List.replicate (2-2) none)=[some 1e8,some (bc w)] from rfl,K2 h 0e1];dsimp[aa,af];rw[gf aA];dsimp[ae,aL,e,Ya];exact cL 0e9
end
section
theorem i5{w:List Int}:oG ks w=true↔∀a∈w,∀b∈w,a<b->kR ks a b=true:=by
 unfold oG;rw[WI];constructor
 ·intro h a n b H B;exact h _ (Yh.mpr ⟨a,n,We.mpr ⟨b,T9.mpr ⟨H,VA B⟩,rfl⟩⟩)
 ·intro h x d;obtain⟨a,n,d⟩:=Yh.mp d;obtain⟨b,H,rfl⟩:=We.mp d;obtain⟨H,B⟩:=T9.mp H;exact h a n b H (Yr B)
theorem xS{p:Int}:fu ks k p=true↔∀a∈k,kR ks a p=true:=by
 unfold fu;rw[WI]
noncomputable def kn(ks:List 0e5):Nat->List 0e5
 |0=>[]
 |n+1=>kn ks n++[[(n:Int)]]++((kn ks n).filter λk=>fu ks k (n:Int)).map λk=>k++[(n:Int)]
def lo:Nat->List 0e5
 |0=>[]
 |n+1=>lo n++[(n:Int)]::(lo n).map λk=>k++[(n:Int)]
def vC(n:Nat)(k:List Int):Prop:=k≠[]/\k.Pairwise (·<·)/\∀x∈k,0<=x/\x<(n:Int)
theorem lC:∀{n:Nat}{k:List Int},k∈lo n↔vC n k
 |0,k=>by
  dsimp[lo,V0,false_iff]
  rintro⟨f,_,H⟩
  cases k with
  |nil=>exact f rfl
  |cons x r=>have:=H x Ue;omega
 |n+1,k=>by
  dsimp[lo,Uj,Uh,We];constructor
  ·rintro (h | rfl | ⟨j, D, rfl⟩)
   ·obtain⟨f,c,H⟩:=lC.mp h;exact⟨f,c,λx d=>by have:=H x d;push_cast;omega⟩
   ·exact⟨by simp,by simp,λx d=>by rw[VR.mp d];push_cast;omega⟩
   ·obtain ⟨f, c, H⟩ := lC.mp D;refine⟨by simp,Wm.mpr ⟨c,by simp,λa A b B=>by rw[VR.mp B];exact(H a A).2⟩,λx d=>?_⟩;rcases Uj.mp d with z|z
    ·have:=H x z;push_cast;omega
    ·rw[VR.mp z];push_cast;omega
  ·rintro ⟨f, c, H⟩
   obtain⟨j,p,rfl⟩:∃j p,k=j++[p]:=⟨k.dropLast,k.getLast f,(Yv f).symm⟩;have P:=H p 0e9;rw[Wm]at c;by_cases e:p=(n:Int)
   ·subst e;right;cases j with
    |nil=>left;rfl
    |cons a r=>right;exact⟨a::r,lC.mpr ⟨by simp,c.1,λx d=>⟨(H x (Uk _ d)).1,c.2.2 x d _ 0e9⟩⟩,rfl⟩
   ·left;refine lC.mpr ⟨by simp,Wm.mpr c,λx d=>⟨(H x d).1,?_⟩⟩
    push_cast at P
    rcases Uj.mp d with z|z
    ·have:=c.2.2 x z p 0e9;omega
    ·rw[VR.mp z];omega
theorem Ig{p:Int}:oG ks [p]=true:=i5.mpr λa n b h B=>by
 rw[VR.mp n,VR.mp h]at B;omega
theorem Eu(h:vC n k):oG ks (k++[(n:Int)])=(oG ks k&&fu ks k (n:Int)):=by
 apply Yp.mpr;rw[Vf,i5,i5,xS];constructor
 ·intro z;exact⟨λa H b B=>z a (Uk _ H) b (Uk _ B),λa H=>z a (Uk _ H) _ 0e9 (h.2.2 a H).2⟩
 ·rintro ⟨μ, G⟩ a H b B c
  rcases Uj.mp H with H|H
  ·rcases Uj.mp B with B | B
   ·exact μ a H b B c
   ·rw[VR.mp B];exact G a H
  ·rw [VR.mp H] at c;rcases Uj.mp B with B|B
   ·have:=(h.2.2 b B).2;omega
   ·rw[VR.mp B]at c;omega
theorem y1:∀n,kn ks n=(lo n).filter (oG ks)
 |0=>rfl
 |n+1=>by
  dsimp[kn,lo];rw[y1 n,YF,XX,Ig,T1 rfl,Vr,WA];congr 2;rw[List.filter_filter,Yk];congr 1;refine List.filter_congr λk d=>?_;show (fu ks k (n:Int)&&oG ks k)=oG ks (k++[(n:Int)]);rw[Eu (lC.mp d),Bool.and_comm]
theorem F9:∀n,(lo n).length+1=2^n
 |0=>rfl
 |n+1=>by
  have:=F9 n;dsimp[lo,U0,VF,U1];rw[YG];omega
theorem Ru(h:n<=6):(lo n).length<=63:=by
 have a:=F9 n;have:2^n<=2^6:=YH 1e2 h;omega
theorem Fz(h:n<=6):(kn ks n).length<=63:=by
 rw[y1];exact Ub (Yi _ _) (Ru h)
theorem tG:∀n,(lo n).Nodup
 |0=>Ww
 |n+1=>by
  dsimp[lo];have s:∀{k:List Int},k∈lo n->(n:Int)∉k:=λ{k} d N=>by have:=((lC.mp d).2.2 _ N).2;omega
  rw[WQ];refine⟨tG n,?_,λa A b B e=>?_⟩
  ·rw [UP];refine⟨λh=>?_,?_⟩
   ·obtain ⟨k, d, e⟩ := We.mp h;have:=(lC.mp d).1;cases k with
    |nil=>exact this rfl
    |cons x r=>simp at e
   ·rw[List.nodup_iff_pairwise_ne,XQ];exact(tG n).imp λH e=>H (List.append_cancel_right e)
  ·subst e;refine s A ?_;rcases Uh.mp B with rfl|B
   ·simp
   ·obtain⟨k,_,rfl⟩:=We.mp B;simp
theorem HJ:(kn ks n).Nodup:=by rw[y1];exact(tG n).filter _
theorem pY(h:k∈kn ks n):vC n k/\oG ks k=true:=by
 rw[y1]at h;obtain⟨H,c⟩:=T9.mp h;exact⟨lC.mp H,c⟩
theorem Mb(h:vC n k)(i:oG ks k=true):k∈kn ks n:=by
 rw[y1];exact T9.mpr ⟨lC.mpr h,i⟩
theorem rT(h:vC n k):k.length<=n:=by
 have:=xl (lo:=0) (hi:=n) h.2.1 h.2.2;omega
theorem NT(H:n<=6)(h:vC n k):Sm k:=⟨h.1,Ub (rT h) H,λx d=>by have:=h.2.2 x d;omega⟩
theorem vO{a b:Int}:kR ks a b=kR ks b a:=by unfold kR;rw[Int.min_comm,Int.max_comm]
noncomputable def PN(K:List 0e5)(k:List Int):Bool:=decide (K.filter (λo=>decide (k.length<o.length)&&(k.all λx=>decide (x∈o)))=[])
theorem Em(h:GW m ks)(f:k∈kn ks m){K:List 0e5}(hK:∀o,o∈K↔o∈kn ks m):PN K k=!(rg m).any (fu ks k):=by
 obtain⟨R,i⟩:=pY f;have D:∀{w:List Int},w.Pairwise (·<·)->w.Nodup:=λh=>h.imp λz=>by omega
 apply Yp.mpr;unfold PN;rw[Xy,YI,Bool.not_eq_true'];constructor
 ·intro z;cases e:(rg m).any (fu ks k) with
  |false=>rfl
  |true=>
   obtain⟨p,P,F⟩:=Yq.mp e;have F:=xS.mp F
   have j:p∉k:=λc=>by
    have:=F p c;unfold kR at this;rw[Int.min_self,Int.max_self,Xy]at this;obtain⟨u,v,e,_,t,_⟩:=h.2.2.2.2 _ this;simp at e;omega
   have up:((rg m).filter λx=>decide (x∈k) || decide (x=p)).Pairwise (·<·):=Fq.filter _
   have mem:∀x,x∈(rg m).filter (λx=>decide (x∈k) || decide (x=p))↔x∈k++[p]:=λx=>by
    rw[T9,fH,Uj,VR,XU,Xy,Xy];refine⟨λz=>z.2,λz=>⟨?_,z⟩⟩;rcases z with z|z
    ·exact R.2.2 x z
    ·rw[z];exact fH.mp P
   have g:(k++[p]).Nodup:=WQ.mpr ⟨D R.2.1,by simp,λa n b B e=>by rw[VR.mp B]at e;exact j (e ▸ n)⟩;have μ:((rg m).filter λx=>decide (x∈k) || decide (x=p)).Perm (k++[p]):=(WE (D up) g).mpr mem;have l:=μ.length_eq;rw[U0,Vu]at l;have O:vC m ((rg m).filter λx=>decide (x∈k) || decide (x=p)):=⟨λe=>by rw[e]at l;simp at l,up,λx d=>fH.mp (T9.mp d).1⟩
   have co:oG ks ((rg m).filter λx=>decide (x∈k) || decide (x=p))=true:=i5.mpr λa n b B H=>by
    rcases Uj.mp ((mem a).mp n) with n|n
    ·rcases Uj.mp ((mem b).mp B) with B | B
     ·exact i5.mp i a n b B H
     ·rw[VR.mp B];exact F a n
    ·rcases Uj.mp ((mem b).mp B) with B | B
     ·rw[VR.mp n,vO];exact F b B
     ·rw[VR.mp n,VR.mp B]at H;omega
   refine absurd ?_ (z _ ((hK _).mpr (Mb O co)));rw[Vf,Xy,WI];exact⟨by omega,λx d=>VA ((mem x).mpr (Uk _ d))⟩
 ·intro z o G S;rw[Vf,Xy,WI]at S;obtain⟨O,co⟩:=pY ((hK o).mp G);have sub:∀x∈k,x∈o:=λx d=>Yr (S.2 x d)
  obtain⟨p,P,N⟩:∃p∈o,p∉k:=by
   rcases Classical.em (∃p∈o,p∉k) with y|y
   ·exact y
   ·have:o.length<=k.length:=i2 (D O.2.1) λx d=>Wg λw=>y ⟨x,d,w⟩;omega
  have:(rg m).any (fu ks k)=true:=Yq.mpr ⟨p,fH.mpr (O.2.2 p P),xS.mpr λa n=>by
   have ne:a≠p:=λe=>N (e ▸ n);by_cases lt:a<p
   ·exact i5.mp co a (sub a n) p P lt
   ·rw[vO];exact i5.mp co p P a (sub a n) 0e1⟩
  rw[z]at this;cases this
end
section
theorem G8:bR (n:Int) (c+1)=.int (n:Int)::bR ((n+1:Nat):Int) c:=by
 rw[jI]
 push_cast
 rfl
theorem K1{G:aC}{B:Nat}(h:GW m ks)(p:n<m)(hB:(Z++G)[B]?=some (.lst ((kn ks n).map bc)))(hμ:Z.length<=B):
  ∃(B':Nat)(G':aC),g6 [some 1e8,some (.obj B),some (.int (n:Int))] (Z++G)=.next [some 1e8,some (.obj B'),some (.int (n:Int))] (Z++G')/\(Z++G')[B']?=some (.lst ((kn ks (n+1)).map bc))/\Z.length<=B':=by
 have m6:=h.m6;have N:0+1<=sizeLine:=l1;have l63:=Fz (ks:=ks) (n:=n) 0e1;let M:aC:=Z++G
 let b:aC:=M++[O.lst [bc [(n:Int)]]]
 let d:aC:=b++[O.lst ((kn ks n).map bc++[bc [(n:Int)]])]
 let F:List 0e5:=(kn ks n).filter λk=>fu ks k (n:Int)
 have L:F.length<=63:=Ub (Yi _ _) l63;let f:aC:=d++[O.lst (F.map λk=>bc (k++[(n:Int)]))]
 have c:=bD (U:=List Int) (en:=bc) (src:=.own B ((kn ks n).map bc)) (g:=ai 0) (t:=lQ) (e:=lS) (Z1:=d) (q:=λk=>fu ks k (n:Int)) (h:=λk=>bc (k++[(n:Int)])) (λi=>∃o,i=[o,some (.int (n:Int)),some 1e8]) (λ_=>aI (aI (aI hB))) (us:=kn ks n) (acc:=[]) (ρ:=[none,some (.int (n:Int)),some 1e8]) ⟨_,rfl⟩
  (by rw[V8];exact Ub 0e1 bH)
  (λk H a i ⟨o, l⟩ => by
   have K:=rT (pY H).1;refine⟨[some (bc k),some (.int (n:Int)),some 1e8],⟨_,rfl⟩,by subst l;rfl,?_,λ_=>?_⟩
   ·unfold lQ;dsimp[dQ,au,aq,av,aj,ag,aa,af,CJ h (show k.length<=100 by omega),cG]
   ·unfold lS;dsimp[aD,cQ,aq,av,aj,ag,aa,af,VF,V8,T1 N]
    exact Gr 0e1)
 rw[Vy]at c;have A:eS (.obj B) 9e2 b=.ok (.obj b.length) d:=x5 (aI hB) aA (by rw[U1];dsimp[VF,V8];omega);have j:eS (.obj b.length) 10e6 f=.ok (.obj f.length) (f++[O.lst 5e9]):=x5 (aI aA) aA (by rw[U0,U1,U1];dsimp[VF,V8];omega);refine⟨f.length,G++[O.lst [bc [(n:Int)]]]++[O.lst ((kn ks n).map bc++[bc [(n:Int)]])]++[O.lst (F.map λk=>bc (k++[(n:Int)]))]++[O.lst 5e9],?_,?_,?_⟩
 ·unfold g6;rw[aT];dsimp[aD,jT,cQ,aq,av,aj,ag,aa,af,VF,V8,T1 N];rw[show eS (.obj B) (.obj (Z++G).length) (Z++G++[O.lst [.tup [.int (n:Int)]]])=_ from A];dsimp[aa,af,bp,ba,aj,ag];rw[b8 (show d[B]?=some (.lst ((kn ks n).map bc)) from aI (aI hB))];dsimp[aa,af,bw];rw[show cD [none,some 2,some 0] [some 1e8,some (.obj B),some (.int (n:Int))]=[none,some (.int (n:Int)),some 1e8] from rfl,c];dsimp[aa,af];rw[show eS (.obj b.length) 10e6 (d++[O.lst (((kn ks n).filter λk=>fu ks k (n:Int)).map λk=>bc (k++[(n:Int)]))])=_ from j];dsimp[ae,bj,Yf,Yg,f,d,b,M,Vr]
 ·have:(f++[O.lst 5e9])[f.length]?=_:=aA;rw[show Z++(G++[O.lst [bc [(n:Int)]]]++[O.lst ((kn ks n).map bc++[bc [(n:Int)]])]++[O.lst (F.map λk=>bc (k++[(n:Int)]))]++[O.lst 5e9])=f++[O.lst 5e9] from by dsimp[f,d,b,M,Vr],this];congr 2;dsimp[kn,Wo,Vi,Vh,V4];rfl
 ·dsimp[f,d,b,M,U0];omega
theorem C2{all:List D}(h:GW m ks):∀(c n:Nat)(G:aC)(B:Nat)(o:Option D),n+c=m->(Z++G)[B]?=some (.lst ((kn ks n).map bc))->Z.length<=B ->
  ∃(B':Nat)(G':aC)(o':Option D),dg (.fix all) (ai 2) g6 (bR (n:Int) c) [some 1e8,some (.obj B),o] (Z++G)=.next [some 1e8,some (.obj B'),o'] (Z++G')/\(Z++G')[B']?=some (.lst ((kn ks m).map bc))/\Z.length<=B'
 |0,n,G,B,o,e,hB,hμ=>by
  refine⟨B,G,o,?_,by rw[<- e];exact hB,hμ⟩;rw[k9];unfold dg;rw[T1 9e8]
 |c+1,n,G,B,o,e,hB,hμ=>by
  obtain⟨a,d,E,t,u⟩:=K1 h (show n<m by omega) hB hμ;obtain⟨b,f,U,g,T,i⟩:=C2 h c (n+1) d a (some (.int (n:Int))) 0e1 t u;refine⟨b,f,U,?_,T,i⟩;rw[G8];unfold dg;rw[T1 9e8];dsimp[bj,ae,Yf,Yg];rw[E];exact g
theorem GJ(h:GW m ks):∃(t:Nat)(G:aC),j2 [aK m ks] Z=.ok 10e5 (Z++G)/\(Z++G)[t]?=some (.lst ((kn ks m).map bc))/\Z.length<=t:=by
 have m6:=h.m6;obtain⟨B,G,o,e,t,u⟩:=C2 (Z:=Z) (all:=bR 0 m) h m 0 [O.lst []] 5e2 none 0e1 aA 6e3;refine⟨B,G,?_,t,u⟩;unfold j2;rw[bX];dsimp[uu,List.replicate];rw[aG,aT];dsimp[jT,av,aa,af,V8,T1 (VQ sizeLine),ae,bj,az,Yf,Yg];rw[aG,fI];dsimp[cH,aq,av,aD,bg,aj,ag,aa,af,d4];rw[fv 0e1 0e1];dsimp[ae,af,aV,U6];rw[show dg (.fix (bR 0 m)) (ai 2) g6 (bR 0 m) [some 1e8,some 1e4,none] (Z++[O.lst []])=_ from e];dsimp[az,aS,aj,ag,ae,aL];exact jQ (by rw[xJ];omega)
noncomputable def EY(m:Nat)(ks:List 0e5):List 0e5:=yX ((kn ks m).filter λk=>!(rg m).any (fu ks k))
theorem zj:∀{K:List 0e5},(∀k∈K,Sm k)->nI (K.map bc)=some K
 |[],_=>rfl
 |k::K,h=>by
  have i:=zj (K:=K) λx d=>h x (Ug _ d)
  have e:vF (bc k)=some k:=by
   show (match jr (k.map D.int) with|some j=>if R0 j=true then some j else none|none=>none)=_;rw[i4];dsimp only;rw[T1 (CL.mpr (h k Ue))]
  rw[Vi];unfold nI;rw[e,i]
theorem JF{t:Nat}{K:List 0e5}(J:M[t]?=some (.lst (K.map bc)))(hs:∀k∈K,Sm k)(n:K.Nodup)(i:K.length<64):cf [.obj t] M=.ok 9e2 (M++[.lst ((yX K).map bc)]):=by
 unfold cf;dsimp only;rw[J];dsimp only;rw[zj hs];dsimp only;rw[T1 ⟨n,i⟩];rfl
theorem Rx(h:GW m ks):∀k∈kn ks m,Sm k:=λk d=>NT h.m6 (pY d).1
theorem Im{t:Nat}{bs:List Bool}(h:M[t]?=some (.lst (bs.map D.bl))):yQ [.obj t] M=.ok (.bl (bs.any id)) M:=De h
theorem GM(h:GW m ks):∃(t:Nat)(G:aC),fV [aK m ks] Z=.ok 10e5 (Z++G)/\(Z++G)[t]?=some (.lst ((EY m ks).map bc))/\Z.length<=t:=by
 have m6:=h.m6;let M:aC:=Z++[O.lst 8e4]
 obtain⟨t,G,e,g,u⟩:=GJ (Z:=M) h;have V:=Fz (ks:=ks) (n:=m) m6;have hP:(M++G)[5e2]?=some (.lst 8e4):=aI aA
 obtain⟨J,P,b,S,⟨l,d,r,i,j,v,E,y⟩,R⟩:=mF (src:=.own t ((kn ks m).map bc)) (g:=ai 0) (t:=gp) (e:=l0) (n:=(M++G).length)
  (λX σ f b s=>b=M++G/\∃(d r:List 0e5),X=r.map bc/\(∀k∈r,k∈kn ks m)/\σ=(d.filter λk=>!(rg m).any (fu ks k)).map bc/\d++r=kn ks m/\∃o,f=[o,some 1e8,some 1e4])
  (λσ f b s ⟨e,_⟩=>⟨by rw[e],by rw[e];exact aI g⟩)
  (λx r σ f b s hJ => by
   obtain⟨l,d,L,i,j,v,E,o,y⟩:=hJ;subst l v y;cases L with
   |nil=>cases i
   |cons k L=>
    rw[Vi]at i;injection i with ex A
    subst ex A;have K:=j k Ue;have T:=rT (pY K).1
    have w:(d.filter λk=>!(rg m).any (fu ks k)).length<1000:=by
     have:=Uu List.length E;rw[U0,VF]at this;have:=Yi (λk=>!(rg m).any (fu ks k)) d;omega
    let N:aC:=M++G++O.lst ((d.filter λk=>!(rg m).any (fu ks k)).map bc)::s
    have hPN:N[5e2]?=some (.lst 8e4):=aI hP
    have c:=bD (U:=Int) (en:=D.int) (src:=.own 5e2 8e4) (g:=ai 0) (t:=a9) (e:=jm) (Z1:=N) (q:=λ_=>true) (h:=λp=>.bl (fu ks k p)) (λf=>∃o,f=[o,some 1e8,some (bc k)]) (λ_=>aI hPN) (us:=rg m) (acc:=[]) (ρ:=[none,some 1e8,some (bc k)]) ⟨_,rfl⟩
     (by rw[V8,lB];exact Ub 0e1 bH)
     (λp Q a f ⟨o, B⟩ => ⟨[some 8e3, some 1e8, some (bc k)], ⟨_, rfl⟩, by subst B; rfl, rfl, λ_ => by
      unfold jm;dsimp[au,aq,av,aj,ag,aa,af]
      exact CJ h 0e1⟩)
    rw[bz,Vy]at c
    have tst:gp [some (bc k),some 1e8,some 1e4] N=.ok (!(rg m).any (fu ks k)) (N++[.lst ((rg m).map λp=>.bl (fu ks k p))]):=by
     unfold gp;dsimp[dG,dQ,au,aq,av,bp,ba,aj,ag,aa,af];rw[b8 hPN];dsimp[aa,af,bw];rw[show cD [none,some 1,some 0] [some (bc k),some 1e8,some 1e4]=[none,some 1e8,some (bc k)] from rfl,c];dsimp[aa,af];rw[Im (bs:=(rg m).map (fu ks k)) (by rw[V4];exact aA)];dsimp[aa,af,cG];rw[XI];rfl
    refine⟨rfl,aI g,[some (bc k),some 1e8,some 1e4],M++G,s,!(rg m).any (fu ks k),M++G,s++[.lst ((rg m).map λp=>.bl (fu ks k p))],rfl,?_,λH=>⟨bc k,M++G,s++[.lst ((rg m).map λp=>.bl (fu ks k p))],rfl,?_,rfl,rfl,d++[k],L,rfl,λz μ=>j z (Ug _ μ),?_,by rw[Vr];exact E,_,rfl⟩,λH=>⟨rfl,d++[k],L,rfl,λz μ=>j z (Ug _ μ),?_,by rw[Vr];exact E,_,rfl⟩⟩
    ·rw[show M++G++O.lst ((d.filter λk=>!(rg m).any (fu ks k)).map bc)::s=N from rfl,tst];dsimp[N,Vr,Wa]
    ·rw[U1];exact T6 w bH
    ·rw[YF,XX,H,T1 rfl,Wo];rfl
    ·rw[YF,XX,H,T3 UA,List.filter_nil,UM])
  (xs:=(kn ks m).map bc) (ys:=[]) (ρ:=[none,some 1e8,some 1e4]) (Z1:=M++G) (s:=[]) ⟨rfl,[],kn ks m,rfl,λ_ z=>z,rfl,rfl,_,rfl⟩
 subst l v
 have:r=[]:=by
  cases r with
  |nil=>rfl
  |cons=>cases i
 subst this;rw[UM]at E;subst E;have C:∀k∈(kn ks m).filter (λk=>!(rg m).any (fu ks k)),Sm k:=λk K=>Rx h k (T9.mp K).1
 have I:cf [.obj (M++G).length] (M++G++O.lst 4e7::S)=.ok (.obj (M++G++O.lst 4e7::S).length) ((M++G++O.lst 4e7::S)++[.lst ((EY m ks).map bc)]):=
  JF aA C (HJ.filter _) (YJ (Yi _ _) 0e1)
 refine⟨(M++G++O.lst 4e7::S).length,[O.lst 8e4]++G++(O.lst 4e7::S)++[.lst ((EY m ks).map bc)],?_,?_,?_⟩
 ·unfold fV;rw[bX];dsimp[nT,List.replicate];rw[aG,aT];dsimp[au,aq,av,aD,bg,ag,aa,af,d4]
  rw[show qa [.int (m:Int)] Z=.ok 1e4 M from by
   unfold qa;dsimp only
   rw[T1 ⟨by omega,by omega⟩,sN]]
  dsimp[ae,bj,az,Yf,Yg,aS,au,aq,av,bp,ba,aj,ag,aa,af,e];rw[b8 g];dsimp[aa,af,bw];rw[show cD [none,some 0,some 1] [some 1e8,some 1e4]=[none,some 1e8,some 1e4] from rfl,R];dsimp[aa,af,I,ae,aL];rw[jQ (by rw[xJ];dsimp[M,U0];omega)];dsimp[M,Vr]
 ·rw[show Z++([O.lst 8e4]++G++(O.lst 4e7::S)++[.lst ((EY m ks).map bc)])=(M++G++O.lst 4e7::S)++[.lst ((EY m ks).map bc)] from by dsimp[M,Vr]];exact aA
 ·dsimp[M,U0];omega
end
section
variable{A:Nat}{p:Int}{w:D}
theorem Lk{A t:Nat}{f:Int->Option Nat}{fs:List Int}{o0 o1 o2 o3:Option D}{o7:Option D}(hA:M[A]?=some (.lst (gr m f)))(J:M[t]?=some (.lst (fs.map D.int)))(H:A≠t)(S:∀q∈fs,0<=q/\q<(m:Int)):
  ∃o7',kT (cw (ao 6)) (ai 7) fU [o0,o1,o2,o3,some 5e7,some (.int n),some 10e5,o7] M=.next [o0,o1,o2,o3,some 5e7,some (.int n),some 10e5,o7'] (M.set A (.lst (gr m (xc n f fs)))):=by
 have hAl:A<M.length:=(Ul.mp hA).1
 have R:=lE (src:=.own t (fs.map D.int)) (g:=ai 7) (fb:=fU)
  (λb a d=>∃σ s:List Int,b=s.map D.int/\fs=σ++s/\d=M.set A (.lst (gr m (xc n f σ)))/\∃o7,a=[o0,o1,o2,o3,some 5e7,some (.int n),some 10e5,o7])
  (λa d ⟨σ,s,_,_,e,_⟩=>by subst e;exact mD J H)
  (λx b a d hJJ => by
   obtain⟨σ,s,X,F,e,o7,eρ⟩:=hJJ;subst e eρ;cases s with
   |nil=>cases X
   |cons z s=>
    injection X with c i
    subst c i;have μ:=S z (by rw[F];simp);have h:(gr m (xc n f σ)).length=m:=by unfold gr;rw[U1,V7]
    refine⟨mD J H,_,_,[o0,o1,o2,o3,some 5e7,some (.int n),some 10e5,some (.int z)],M.set A (.lst (gr m (xc n f (σ++[z])))),rfl,?_,σ++[z],s,rfl,by rw[F];simp,rfl,_,rfl⟩;show fU [o0,o1,o2,o3,some 5e7,some (.int n),some 10e5,some (.int z)] _=_;unfold fU;dsimp[aT,aj,ag,ae,r8,aa,af];rw[rY (jv hAl) (pZ μ.1 (by rw[h];exact μ.2)),zB μ.1 μ.2];dsimp[aa,af,ae,List.set_set];unfold xc;rw[WU]
    rfl)
  (xs:=fs.map D.int) (ρ:=[o0,o1,o2,o3,some 5e7,some (.int n),some 10e5,o7]) (Z:=M)
  ⟨[], fs, rfl, rfl, by
   apply X7;intro j;by_cases e:A=j
   ·subst e;rw[jv hAl,hA];rfl
   ·rw[Uq e],_,rfl⟩
 obtain⟨l,k,⟨σ,s,X,F,e,o7',eρ⟩,R⟩:=R;subst e eρ
 have μ:s=[]:=by cases s with
  |nil=>rfl
  |cons=>cases X
 subst μ;rw[UM]at F;subst F;refine⟨o7',?_⟩;dsimp[fI,ba,aj,ag,aa,af];rw[b8 J];dsimp[ae,af,bw];exact R
theorem Lj{A t:Nat}{f:Int->Option Nat}{fs:List Int}{o0 o1 o2 o7:Option D}(K:∀k∈ks,m8 m k)(J:ks.length<=15)(hA:M[A]?=some (.lst (gr m f)))(T:M[t]?=some (.lst (fs.map D.int)))(P:A≠t)(hU:Up (m9 ks) p (λq=>0<=q/\q<m) n f)(S:∀q,q∈fs↔((0<=q/\q<(m:Int))/\f q=some n)):
  ∃(t':Nat)(fs':List Int)(f':Int->Option Nat)(g:aC)(o7':Option D),fT [o0,o1,o2,some 3e9,some 5e7,some (.int n),some 10e5,o7] M=.next [o0,o1,o2,some 3e9,some 5e7,some (.int ((n+1:Nat):Int)),some (.obj t'),o7'] ((M++g).set A (.lst (gr m f'))) /\
   (M++g)[t']?=some (.lst (fs'.map D.int))/\A≠t'/\Up (m9 ks) p (λq=>0<=q/\q<m) (n+1) f'/\∀q,q∈fs'↔((0<=q/\q<(m:Int))/\f' q=some (n+1)):=by
 obtain⟨s,g,N,G,E,V,F,C⟩:=zt K J T;have hA':=aI (g:=g) hA;have hAl:A<M.length:=(Ul.mp hA).1
 have hnsD:∀q∈N,0<=q/\q<(m:Int):=λq H=>by
  obtain⟨r,_,v⟩:=(C q).mp H;exact(kk K v).2
 have c:=gE (src:=.own s (N.map D.int)) (g:=ai 0) (t:=kK) (e:=nQ) (Z1:=M++g) (q:=λd=>match d with | .int q=>decide (f q=none)|_=>false) (h:=λd=>d)
  (λB=>∃o,B=[o,some 5e7]) (λa=>aI E) (xs:=N.map D.int) (acc:=[]) (ρ:=[none,some 5e7]) ⟨_,rfl⟩
  (by rw[U1,V8];exact Ub 0e1 bH)
  (λx X a B hJJ => by
   obtain⟨o,Q⟩:=hJJ;obtain⟨q,H,rfl⟩:=We.mp X;subst Q;refine⟨[some (.int q),some 5e7],⟨_,rfl⟩,rfl,?_,λ_=>rfl⟩;unfold kK;dsimp[bW,aD,aj,ag,bg,aa,af];rw[kF (aI hA') (zC (hnsD q H).1 (hnsD q H).2)]
   dsimp[aa,af,sQ,we,VE,U8,aX])
 have L:((N.map D.int).filter λd=>match d with | .int q=>decide (f q=none)|_=>false).map (λd=>d)=(N.filter λq=>decide (f q=none)).map D.int:=by
  rw[Ys,Yk];rfl
 rw[Vy,L]at c
 have l:∀q,q∈(N.filter λq=>decide (f q=none))↔(f q=none/\∃r,m9 ks r q/\f r=some n):=λq=>by
  rw[T9,Xy,C];constructor
  ·rintro ⟨⟨r, R, v⟩, y⟩
   exact⟨y,r,v,((S r).mp R).2⟩
  ·rintro ⟨y, r, v, R⟩
   exact⟨⟨r,(S r).mpr ⟨(kk K v).1,R⟩,v⟩,y⟩
 have hD':∀q,q∈(N.filter λq=>decide (f q=none))->0<=q/\q<(m:Int):=λq H=>hnsD q (T9.mp H).1;have u:A≠(M++g).length:=by rw[U0];omega
 obtain⟨o7',I⟩:=Lk (m:=m) (n:=n+1) (f:=f) (fs:=N.filter λq=>decide (f q=none)) (o0:=o0) (o1:=o1) (o2:=o2) (o3:=some 3e9) (o7:=o7) (M:=(M++g)++[O.lst ((N.filter λq=>decide (f q=none)).map D.int)]) (aI hA') aA u hD';refine⟨(M++g).length,N.filter λq=>decide (f q=none),xc (n+1) f (N.filter λq=>decide (f q=none)),g++[O.lst ((N.filter λq=>decide (f q=none)).map D.int)],o7',?_,by rw[<- Vr];exact aA,u,?_,λq=>?_⟩
 ·unfold fT
  have U:uV 5 kh 2e6 [o0,o1,o2,some 3e9,some 5e7,some (.int n),some 10e5,o7] M=.next [o0,o1,o2,some 3e9,some 5e7,some (.int ((n+1:Nat):Int)),some 10e5,o7] M:=by
   push_cast;rfl
  rw[eY U,aG,aT,bp,ba,au];dsimp[aq,av,aj,ag,aa,af,G];rw[b8 E];dsimp[aa,af,bw];rw[show cD [none,some 4] [o0,o1,o2,some 3e9,some 5e7,some (.int ((n+1:Nat):Int)),some 10e5,o7]=[none,some 5e7] from rfl,c];dsimp[ae,af,bj,Yf,Yg,az];rw[I,<- Vr]
 ·refine hU.next (λa b h => (kk K h).1) λq H j => ?_;rw[tQ];by_cases i:q∈N.filter λq=>decide (f q=none)
  ·rw [T1 i];have:=(l q).mp i;constructor
   ·intro e;cases e;exact .inr ⟨this.1,rfl,this.2⟩
   ·rintro (z | ⟨_, z, _⟩)
    ·rw[this.1]at z;cases z
    ·rw[z]
  ·rw [T3 i];constructor
   ·exact .inl
   ·rintro (z | ⟨μ, W, σ⟩)
    ·exact z
    ·exact absurd ((l q).mpr ⟨μ,σ⟩) i
 ·rw [tQ];constructor
  ·intro i;exact⟨hD' q i,by rw[T1 i]⟩
  ·rintro ⟨H, z⟩
   by_cases i:q∈N.filter λq=>decide (f q=none)
   ·exact i
   ·rw[T3 i]at z;have:=((hU q H (n+1)).mp z).1;omega
end
theorem z1{Z0:aC}{m A:Nat}{p:Int}{ks:List 0e5}{o0 o1 o2:Option D}(d:∀k∈ks,m8 m k)(l:ks.length<=15)(P:0<=p/\p<(m:Int))(hA0:Z0.length<=A) :
  ∀(c n:Nat)(f:Int->Option Nat)(fs:List Int)(M:aC)(t:Nat)(o7:Option D),M[A]?=some (.lst (gr m f))->M[t]?=some (.lst (fs.map D.int))->A≠t->Up (m9 ks) p (λq=>0<=q/\q<m) n f ->
   (∀q,q∈fs↔((0<=q/\q<(m:Int))/\f q=some n))->(∀i,i<Z0.length->M[i]?=Z0[i]?)->n<=m->m<n+c ->
   ∃ρ' M' f',jS (gu (ao 6)) fT c [o0,o1,o2,some 3e9,some 5e7,some (.int n),some 10e5,o7] M=.next ρ' M'/\(∃o5 o6 o7,ρ'=[o0,o1,o2,some 3e9,some 5e7,o5,o6,o7]) /\
    M'[A]?=some (.lst (gr m f'))/\(∀i,i<Z0.length->M'[i]?=Z0[i]?)/\sy (m9 ks) p (λq=>0<=q/\q<m) f'
 |0,n,f,fs,M,t,o7,hA,J,E,hU,s,H,y,z=>by omega
 |c+1,n,f,fs,M,t,o7,hA,J,E,hU,s,H,y,z=>by
  have C:gu (ao 6) [o0,o1,o2,some 3e9,some 5e7,some (.int n),some 10e5,o7] M=.ok (!(fs.map D.int).isEmpty) M:=by
   dsimp[dQ,aj,ag,aa,af];unfold AM;dsimp only;rw[J]
  unfold jS;rw[C,ae];cases fs with
  |nil=>
   refine⟨_,M,f,rfl,⟨_,_,_,rfl⟩,hA,H,hU.full (λa b h=>(kk d h).2) λq Q l=>?_⟩;obtain⟨_,r,v,R⟩:=kY.mp l;have:=(s r).mpr ⟨(kk d v).1,(hU r (kk d v).1 n).mpr ⟨UG _,R⟩⟩;cases this
  |cons x fs=>
   have X:=(s x).mp Ue;have B:n<m:=OU (m:=m) P (λa b h=>(kk d h).2) ((hU x X.1 n).mp X.2).2;obtain⟨T,F,f',g,O,e,o,u,hU',j⟩:=Lj (o0:=o0) (o1:=o1) (o2:=o2) (o7:=o7) d l hA J E hU s;have hAl:A<(M++g).length:=by rw[U0];have:=(Ul.mp hA).1;omega
   rw[T1 (show (!(List.map D.int (x::fs)).isEmpty)=true from rfl),e,KY]
   exact z1 d l P hA0 c (n+1) f' F ((M++g).set A (.lst (gr m f'))) T O (jv hAl) (mD o u) u hU' j (λi I=>by
    rw[Uq 0e1,UW (by have:=(Ul.mp hA).1;omega)];exact H i I) 0e1 0e1
theorem CK{p:Int}(h:ju 2e7 m ks)(P:0<=p)(j:p<(m:Int)):
  ∃A Z' f,gG [.tup [.int m,.tup 0e8],.int p] Z=.ok 5e7 (Z++Z')/\(Z++Z')[A]?=some (.lst (gr m f))/\Z.length<=A/\sy (m9 ks) p (λq=>0<=q/\q<m) f:=by
 have n:=c0 h;obtain⟨_,t,u,k,d⟩:=h;have c:m<=6:=by omega
 let a:aC:=(Z++[.lst [.non]])++[.lst (gr m λ_=>none)]
 have hM0:a[(Z++[O.lst [.non]]).length]?=some (.lst (gr m λ_=>none)):=aA;have H:(gr m λ_=>none).length=m:=by unfold gr;rw[U1,V7]
 let A:Nat:=(Z++[O.lst [.non]]).length
 have hAl:A<a.length:=(Ul.mp hM0).1;let M:aC:=a.set A (.lst (gr m (sj (λ_=>none) p 0)))
 have hM1:M[A]?=some (.lst (gr m (sj (λ_=>none) p 0))):=jv hAl
 have hpreM:∀i,i<Z.length->(M++[O.lst [.int p]])[i]?=Z[i]?:=λi I=>by
  have:i<M.length:=by dsimp[M,a,Vm,U0];omega
  rw[UW this];dsimp[M];rw[Uq (by dsimp[A,U0];omega)];dsimp[a];rw[Vr,UW I]
 obtain⟨r,b,F,W,⟨v,x,y,eρ⟩,hA',E,hF⟩:=z1 (Z0:=Z) (o0:=some 2e7) (o1:=some 8e3) (o2:=some 5e6) d n ⟨P,j⟩ (show Z.length<=A by dsimp[A,U0];omega) 100 0 (sj (λ_=>none) p 0) [p] (M++[O.lst [.int p]]) 4e1 none
  (aI hM1) aA (by dsimp[M, Vm]; omega) (LD λq _ => by unfold sj; rfl) (λq => by
   unfold sj;rw[VR];constructor
   ·rintro rfl;exact⟨⟨P,j⟩,by rw[T1 rfl]⟩
   ·rintro ⟨_, z⟩
    by_cases e:q=p
    ·exact e
    ·rw[T3 e]at z;cases z) hpreM 0e1 0e1
 subst eρ
 obtain⟨g,σ⟩:∃g,b=Z++g:=by
  refine⟨b.drop 5e2,?_⟩;apply X7;intro i;by_cases I:i<Z.length
  ·rw[UW I,E i I]
  ·rw[UU 0e1,Wt];congr 1;omega
 refine⟨A,g,F,?_,by rw[<- σ];exact hA',by dsimp[A,U0];omega,hF⟩;unfold gG;rw[bS];have l:[D.int m,D.tup 0e8].length=2:=rfl
 have S:bC 3e1 (cu 2 8e6) [some 2e7,some 8e3,none,none,none,none,none,none] Z=.next [some 2e7,some 8e3,some 5e6,some 3e9,none,none,none,none] Z:=by
  dsimp[aT,ag,ae,Lm,T1 l,HY,Ln,bj,aa,af,Yf,Yg]
 have N:bC (aF uY (jf (ak (cC .non) (aB))) 10e7) (ai 4) [some 2e7,some 8e3,some 5e6,some 3e9,none,none,none,none] Z=.next [some 2e7,some 8e3,some 5e6,some 3e9,some 5e7,none,none,none] a:=by
  dsimp[aT,aD,jT,aq,av,bg,aa,af,VF,V8,T1 l1,aj,ag];unfold uY;dsimp only;rw[aA];dsimp only;have μ:(6:Nat)<=sizeLine:=by decide
  rw[T1 (by refine⟨by omega,by omega,?_⟩;dsimp[VF,V8];omega)];dsimp[U6,zZ,ae,af,bj,Yf,Yg,a,A,DY]
 have U:bC 2e5 (qJ (ao 4) 5e4) [some 2e7,some 8e3,some 5e6,some 3e9,some 5e7,none,none,none] a=.next [some 2e7,some 8e3,some 5e6,some 3e9,some 5e7,none,none,none] M:=by
  dsimp[aT,bg,ae,r8,aj,ag,aa,af];rw[rY hM0 (pZ P (by rw[H];exact j)),show (D.int 0)=.int ((0:Nat):Int) from rfl,zB P j];rfl
 have s:bC 2e5 (ai 5) [some 2e7,some 8e3,some 5e6,some 3e9,some 5e7,none,none,none] M=.next [some 2e7,some 8e3,some 5e6,some 3e9,some 5e7,some (.int ((0:Nat):Int)),none,none] M:=rfl
 have o:bC (jf 2e1) (ai 6) [some 2e7,some 8e3,some 5e6,some 3e9,some 5e7,some (.int ((0:Nat):Int)),none,none] M=.next [some 2e7,some 8e3,some 5e6,some 3e9,some 5e7,some (.int ((0:Nat):Int)),some 9e2,none] (M++[O.lst [.int p]]):=by
  dsimp[aT,jT,aq,av,aj,ag,aa,af,VF,V8,T1 l1,ae,bj,Yf,Yg]
 unfold q9;dsimp[List.replicate];rw[eY S,eY N,eY U,eY s,eY o,eY (show pW 100 (gu (ao 6)) fT _ _=_ from W)];dsimp[aS,aj,ag,ae,af,aL];rw[jQ (by dsimp[xJ,A,U0];omega),σ]
theorem Jq{A:Nat}{p k:Int}(hA:M[A]?=some (.lst (gr m (T p))))(l:m<=6)(P:0<=p)(n:p<m):
  compLoop (.fix (bR (p+1) ((m:Int)-(p+1)).toNat)) 4e1 9e1 iS iV (bR (p+1) ((m:Int)-(p+1)).toNat) [none,some 8e3,some (.int k),some 5e7] (M++[.lst []])=.ok 9e2 (M++[.lst ((md T k p (p+1) ((m:Int)-(p+1)).toNat).map aw)]):=by
 have:=gE (src:=.fix (bR (p+1) ((m:Int)-(p+1)).toNat)) (g:=ai 0) (t:=iS) (e:=iV) (Z1:=M) (q:=λd=>match d with | .int q=>P7 k (T p q)|_=>false)
  (h:=λd=>match d with | .int q=>aw [p,q]|_=>.non) (λb=>∃o,b=[o,some 8e3,some (.int k),some 5e7]) 5e1 (xs:=bR (p+1) ((m:Int)-(p+1)).toNat) (acc:=[]) (ρ:=[none,some 8e3,some (.int k),some 5e7]) ⟨none,rfl⟩
  (by unfold bR;rw[U1,V8,V7];exact Ub 0e1 bH)
  (λx X a b ⟨o, G⟩ => by
   unfold bR at X;obtain⟨i,I,rfl⟩:=We.mp X;rw[Ua]at I;subst G;refine⟨[some (.int (p+1+(i:Int))),some 8e3,some (.int k),some 5e7],⟨_,rfl⟩,rfl,?_,λ_=>?_⟩
   ·have H := kF (Z := M ++ [.lst a]) (aI hA) (zC (f := T p) (m := m) (q := p + 1 + (i : Int)) 0e1 0e1);unfold iS;dsimp[xV,bW,aD,aj,ag,bg,aa,af,H,sQ,we,aX];cases e:T p (p+1+(i:Int)) with
    |none=>rfl
    |some j=>
     dsimp[TY (show ¬ some j=none by simp),WT,U9,cq,aa,af,aX,Fb];rfl
   ·unfold iV;dsimp[cQ,aq,av,aj,ag,aa,af,VF,V8,T1 l2]
    rfl)
 rw[this,Vy];exact Uu (λz=>ah.ok (D.obj 4e1) (M++[O.lst z])) (G7 (T:=T) (k:=k) (p:=p) (lo:=p+1) (c:=((m:Int)-(p+1)).toNat))
theorem DG{k:Int}(h:ju 2e7 m ks)(K:1<=k)(C:k<=6)(hT:∀p:Int,0<=p->p<m->sy (m9 ks) p (λq=>0<=q/\q<m) (T p)):
  e0 [.tup [.int m,.tup 0e8],.int k] Z=.ok (.tup [.int m,.tup ((Iq m T k).map aw)]) Z:=by
 have hG:=h;obtain⟨_,P,Q,V,X⟩:=h;have H:m<=6:=by omega
 have R:=lE (src:=.fix (bR 0 m)) (g:=ai 4) (fb:=iU)
  (λS u d=>∃(n c:Nat)(t o:Option D),S=bR n c/\n+c=m/\u=[some 2e7,some (.int k),some 5e6,some 1e4,t,o]/\(∀i,i<Z.length->d[i]?=Z[i]?)/\d[5e2]?=some (.lst (((List.range n).flatMap λp:Nat=>md T k p ((p:Int)+1) (m-(p+1))).map aw)))
  (λ_ _ _=>trivial)
  (λx r u d ⟨n, c, t, o, e, U, j, l, b⟩ => by
   subst j;cases c with
   |zero=>rw[k9]at e;cases e
   |succ c=>
    rw[jI]at e;injection e with ex v
    subst ex v;obtain⟨A,g,f,F,hA,hAl,hF⟩:=CK (Z:=d) (p:=(n:Int)) hG 0e1 0e1;have W:gr m f=gr m (T n):=NR λq z=>hF.eq (hT n 0e1 0e1) z;rw[W]at hA;have L:=Jq (k:=k) (p:=(n:Int)) hA H 0e1 0e1;rw[show ((m:Int)-((n:Int)+1)).toNat=m-(n+1) by omega]at L;have N:=oZ (T:=T) (k:=k) H n;have G:=zA (T:=T) (k:=k) (p:=n) (lo:=(n:Int)+1) (c:=m-(n+1));have y:Z.length<d.length:=(Ul.mp b).1;have s:((d++g)++[O.lst ((md T k n ((n:Int)+1) (m-(n+1))).map aw)])[5e2]?=some (.lst (((List.range n).flatMap λp:Nat=>md T k p ((p:Int)+1) (m-(p+1))).map aw)):=aI (aI b);refine⟨trivial,_,d,[some 2e7,some (.int k),some 5e6,some 1e4,some (.int n),some 5e7],((d++g)++[O.lst ((md T k n ((n:Int)+1) (m-(n+1))).map aw)]).set 5e2 (O.lst (((List.range (n+1)).flatMap λp:Nat=>md T k p ((p:Int)+1) (m-(p+1))).map aw)),rfl,?_,n+1,c,some (.int n),some 5e7,by push_cast;rfl,by omega,rfl,λi I=>?_,?_⟩
    ·show iU [some (.tup [.int m, .tup 0e8]), some (.int k), some 5e6, some 1e4, some (.int n), o] d = _;unfold iU
     have J:bC (ax gG (ak 3e1 7e3)) (ai 5) [some 2e7,some (.int k),some 5e6,some 1e4,some (.int n),o] d=.next [some 2e7,some (.int k),some 5e6,some 1e4,some (.int n),some 5e7] (d++g):=by
      dsimp[aT,au,aq,av,aj,ag,aa,af,F,ae,bj,Yf,Yg]
     rw[eY J];unfold uV;dsimp[aj,ag,ae,bp,cH,aq,av,aD,bg,aa,af,lG];rw[xU 0e1 0e1 0e1 0e1];dsimp[aa,af,aV];rw[show ((m:Int)-((n:Int)+1)).toNat=m-(n+1) by omega];rw[show cD [none,some 4,some 1,some 5] [some (D.tup [D.int ↑m,D.tup (List.map aw ks)]),some (D.int k),some 5e6,some (D.obj 5e2),some (D.int n),some 5e7]=[none,some (.int n),some (.int k),some 5e7] from rfl,L];dsimp[ae,af];unfold kh;dsimp only;rw[s,aA];dsimp only
     rw[T1 (by
      rw[U1,U1]
      exact Ub (show _<=1000 by omega) bH)]
     dsimp[ae,af,Yf,Yg,Yl,Ym,Wo,Yn,Yo,UM]
    ·rw[Uq 0e1,Vr,UW 0e1];exact l i I
    ·exact jv (by rw[U0,U0];omega))
  (xs:=bR 0 m) (ρ:=[some 2e7,some (.int k),some 5e6,some 1e4,none,none]) (Z:=Z++[.lst []])
  ⟨0,m,none,none,rfl,by omega,rfl,λi I=>by rw[UW I],aA⟩
 obtain⟨M,a,⟨n,c,t,o,e,U,j,l,b⟩,R⟩:=R;subst j;have μ:=zD e.symm;subst μ;have B:n=m:=by omega
 subst B;have σ:ju (.tup [.int n,.tup ((Iq n T k).map aw)]) n (Iq n T k):=zm 0e1 H
 obtain⟨g,E⟩:∃g,a=Z++g:=by
  refine⟨a.drop 5e2,?_⟩;apply X7;intro i;by_cases I:i<Z.length
  ·rw[UW I,l i I]
  ·rw[UU 0e1,Wt];congr 1;omega
 unfold e0;rw[bS];dsimp[qV,List.replicate];rw[aG,bL,dG,dQ,au];dsimp[aq,av,aj,ag,bg,aa,af,vM K C,cG,WK,ae,VE,U8,bI,az];dsimp[aG,aT,aD,ag,bg,aa,af,d4,ae,bj,az,Yf,Yg,jT,av,V8,T1 (VQ sizeLine),fI,cH,aq,aj];rw[fv 0e1 0e1];dsimp[ae,af,aV,U6];rw[R];dsimp[az,aS,cQ,aq,av,aD,au,aj,ag,bg,aa,af];rw[jw b];dsimp[aa,af,VF,V8,T1 l2,ae,aL];rw[E];exact cL (dR σ)
theorem Nu{a b:Int}(d:0<=a)(H:a<b)(c:b<(m:Int)):mG [.int m,.tup [.int a,.int b]] Z=.ok 6e7 Z:=by
 have h:=CD (Z:=Z) (m:=m) (a:=a) (b:=b) ⟨d,by omega⟩ ⟨by omega,c⟩ 0e1;have x:cM 6e8 (.int 0) Z=.ok (.int a) Z:=rfl;have i:cM 6e8 (.int 1) Z=.ok (.int b) Z:=rfl;unfold mG;rw[bS];dsimp[Ad,List.replicate,aS,fx,au,aq,av,ag,aj,bg,aa,af,h,aX,U9,aD,x,i,cq,ae,aL];rw[show cmpI .Lt a b=true from VA H];exact bo 0e9
theorem Jy(h:GW m ks):lg [.int m,.tup 0e8] Z=.ok 6e7 Z:=by
 have l:=c0 h
 have R:cU [.tup 0e8] (Z++[.lst (ks.map λ_=>D.bl true)])=.ok 6e7 (Z++[.lst (ks.map λ_=>D.bl true)]):=by
  rw[DH (λk d=>by obtain⟨a,b,e,_⟩:=h.2.2.2.2 k d;exact⟨a,b,e⟩) 0e1];congr 2;exact WI.mpr λi I=>NV h.2.2.2.2 (by have:=h.m6;omega) h.2.2.2.1 i 16e6
 have c:=bD (U:=List Int) (en:=aw) (src:=.fix 0e8) (g:=ai 0) (t:=a9) (e:=mO) (Z1:=Z) (q:=λ_=>true) (h:=λ_=>.bl true) (λf=>∃o,f=[o,some 5e6]) 5e1 (us:=ks) (acc:=[]) (ρ:=[none,some 5e6]) ⟨_,rfl⟩
  (by rw[V8];exact Ub 0e1 bH)
  (λk d a f hJJ => by
   obtain⟨o,e⟩:=hJJ;subst e;obtain⟨x,y,rfl,G,j,C⟩:=h.2.2.2.2 k d;refine⟨[some (aw [x,y]),some 5e6],⟨_,rfl⟩,rfl,rfl,λ_=>?_⟩;unfold mO;dsimp[au,aq,av,ag,aj,aa,af]
   exact Nu G j C)
 rw[bz,Vy]at c;unfold lg;rw[bS];dsimp[wL,List.replicate,aS,fx,mj,au,aq,av,ag,aj,bg,aa,af];rw[show jN "tuple" (.tup 0e8) Z=.ok 6e7 Z from rfl];dsimp[aa,af,aX,U9,bp,ba,aj,ag];rw[show wZ 3e9 Z=.ok (.fix 0e8) Z from rfl];dsimp[aa,af,aV];rw[show cD [none,some 0] (some 5e6::some 3e9::List.replicate (2-2) none)=[none,some 5e6] from rfl,c];dsimp[aa,af];rw[show ks.map (λ_=>D.bl true)=(ks.map λ_=>true).map D.bl from by rw[V4];rfl];rw[gf aA];rw[show (ks.map λ_=>true).all id=true from by simp];dsimp[aa,af,aX,U9,au,aq,av,aj,ag];rw[show (ks.map λ_=>true).map D.bl=ks.map (λ_=>D.bl true) from by rw[V4];rfl,R];dsimp[ae,af,aL];exact cL 0e9
theorem Bo(h:GW m ks):jZ [aK m ks] Z=.ok 6e7 Z:=by
 have l2:kc true (.int (([.int (m:Int),.tup 0e8]:List D).length:Int)) 11e4 Z=.ok (.bl false) Z:=rfl;unfold jZ;rw[bX];dsimp[uj,List.replicate,aG,bL,mu,dG,dQ,mj,ag,aa,af];rw[show jN "tuple" (.tup [.int (m:Int),.tup 0e8]) Z=.ok 6e7 Z from rfl];dsimp[aa,af,cG,WK,VE,U8,bW,aD,au,aq,av,ag,bg,fw,l2,aX,ae,bI,az,aT];dsimp[aG,aT,ag,aa,af,ae];rw[show cu 2 (aR (ai 1) (aR (ai 2) cv)) (.tup [.int (m:Int),.tup 0e8]) [some (.tup [.int (m:Int),.tup 0e8]),none,none] Z=.ok [some (.tup [.int (m:Int),.tup 0e8]),some 5e6,some 3e9] Z from rfl];dsimp[ae,az,aS,fx,au,aq,av,aj,ag,aa,af,CG h.m0 h.m6,aX,U9,Jy h,aL];exact bo 0e9
theorem Q4{k:Nat}(h:GW m ks)(K:1<=k)(c:k<=6):e0 [aK m ks,.int k] Z=.ok (aK m (kP m ks k)) Z:=by
 have ex:∀p:Int,∃f:Int->Option Nat,0<=p->p<(m:Int)->sy (m9 ks) p (λq=>0<=q/\q<(m:Int)) f:=λp=>by
  by_cases d:0<=p/\p<(m:Int)
  ·obtain⟨A,g,f,_,_,_,hF⟩:=CK (Z:=[]) h d.1 d.2;exact⟨f,λ_ _=>hF⟩
  ·exact⟨λ_=>none,λa b=>absurd ⟨a,b⟩ d⟩
 have hT:∀p:Int,0<=p->p<(m:Int)->sy (m9 ks) p (λq=>0<=q/\q<(m:Int)) ((λp=>(ex p).choose) p):=λp a b=>(ex p).choose_spec a b;rw[DG (k:=(k:Int)) h 0e1 0e1 hT,Nh h.m0 h.m6 hT]
section
variable{m':Nat}{ks':List 0e5}
theorem A1(h:GW m ks):d8 [aK m ks] Z=.ok (aK m (kP m ks 2)) Z:=by
 unfold d8;rw[bX];dsimp[uk,List.replicate,aS,au,aq,av,ag,bg,aa];rw[show e0 [aK m ks,.int 2] Z=.ok (aK m (kP m ks 2)) Z from Q4 (k:=2) h 1e2 1e2];dsimp[ae,aL];exact bo (En (f9 h.m0 h.m6))
end
end Lw
namespace Lv
def sk(i:Nat)(k:List Int)(p:Int):List (Int×Nat):=if vy k=p then [(dm k,i)] else if dm k=p then [(vy k,i)] else []
def uR:Nat->List 0e5->Int->List (Int×Nat)
 |_,[],_=>[]
 |i,k::s,p=>sk i k p++uR (i+1) s p
theorem zk:∀(ks:List 0e5)(i:Nat)(k:List Int)(p:Int),uR i (ks++[k]) p=uR i ks p++sk (i+ks.length) k p
 |[],i,k,p=>by simp[uR]
 |x::ks,i,k,p=>by
  dsimp[Wa,uR,zk ks (i+1) k p,Vr,VF];rw[show i+1+ks.length=i+(ks.length+1) from by omega]
theorem Gz(i:Nat)(k:List Int)(p:Int):(sk i k p).length<=1:=by
 unfold sk;split
 ·simp
 ·split <;> simp
theorem xu:∀(ks:List 0e5)(i:Nat)(p:Int),(uR i ks p).length<=ks.length
 |[],_,_=>by simp[uR]
 |k::ks,i,p=>by
  have:=xu ks (i+1) p;have:=Gz i k p;dsimp[uR,U0,VF];omega
abbrev Wy:=List Int×Nat
noncomputable def mf(ks:List 0e5)(w:Wy):List Wy:=((uR 0 ks (dm w.1)).filter λe=>!decide (e.1∈w.1)).map λe=>(w.1++[e.1],w.2 ||| 2^e.2)
def l7(ks:List 0e5)(W:List Wy):List Wy:=W.flatMap (mf ks)
def W0(m:Nat):List Wy:=(rg m).map λp=>([p],0)
noncomputable def sf(W:List Wy):List Wy:=(W.filter λw=>decide (vy w.1<dm w.1)).map λw=>([vy w.1,dm w.1],w.2)
def EV(m:Nat)(ks:List 0e5):List Wy:=sf (l7 ks (W0 m))++sf (l7 ks (l7 ks (W0 m)))
theorem HU(ks:List 0e5)(w:Wy):(mf ks w).length<=ks.length:=by
 unfold mf;rw[U1];exact Ub (Yi _ _) (xu _ _ _)
theorem nh(ks:List 0e5):∀W:List Wy,(l7 ks W).length<=W.length*ks.length
 |[]=>by simp[l7]
 |w::W=>by
  have H:=HU ks w;have c:=nh ks W;unfold l7 at c⊢;rw[Yn,U0,VF,Vx];omega
def lU(es:List Wy)(k:List Int):List Nat:=(es.filter λe=>decide (e.1=k)).map 7e4
theorem zR(es:List Wy)(k k':List Int)(c:Nat):lU (es++[(k,c)]) k'=if k=k' then lU es k'++[c] else lU es k':=by
 unfold lU;rw[YF,Wo];by_cases h:k=k'
 ·simp[h]
 ·simp[h]
theorem iL{es:List Wy}:c∈lU es k↔(k,c)∈es:=by
 unfold lU;rw[We];constructor
 ·rintro ⟨e, j, rfl⟩
  rw[T9,Xy]at j;obtain⟨H,rfl⟩:=j;exact H
 ·intro h;exact⟨(k,c),by rw[T9];exact⟨h,by simp⟩,rfl⟩
end Lv
namespace Lw
open PySem L2 RS Lv
structure NL(a:Nat)(bs:List Nat)(f:Nat->List D)(M:aC):Prop where
 out:M[a]?=some (.lst (bs.map D.obj))
 nd:bs.Nodup
 ne:a∉bs
 at':∀(i:Nat) b,bs[i]?=some b->M[b]?=some (.lst (f i))
section
variable{a:Nat}{bs:List Nat}{f:Nat->List D}
theorem NL.keep{M':aC}(h:NL a bs f M)(k:∀j,j=a\/j∈bs->∀o,M[j]?=some o->M'[j]?=some o):NL a bs f M':=
 ⟨k a 8e9 _ h.out,h.nd,h.ne,λi b B=>k b (.inr (UZ B)) _ (h.at' i b B)⟩
theorem NL.app{g:aC}(h:NL a bs f M):NL a bs f (M++g):=h.keep λj _ o e=>aI e
theorem NL.ext{f':Nat->List D}(h:NL a bs f M)(e:∀i,i<bs.length->f i=f' i):NL a bs f' M:=
 ⟨h.out,h.nd,h.ne,λi b B=>by rw[<- e i (Ul.mp B).1];exact h.at' i b B⟩
theorem NL.ix{p:Int}(h:NL a bs f M)(d:0<=p)(H:p<bs.length):∃b,bs[p.toNat]?=some b/\cM (.obj a) 8e3 M=.ok (.obj b) M/\M[b]?=some (.lst (f p.toNat)):=by
 have i:p.toNat<bs.length:=by omega
 refine⟨bs[p.toNat],W6 i,kF h.out ?_,h.at' _ _ (W6 i)⟩;unfold atI;rw[pZ d (by rw[U1];exact H)];show (bs.map D.obj)[p.toNat]?=_;rw[UX,W6 i];rfl
def AL(f:Nat->List D)(i:Nat)(d:D):Nat->List D:=λj=>if j=i then f j++[d] else f j
theorem NL.push{p:Int}(h:NL a bs f M)(j:0<=p)(k:p<bs.length)(L:(f p.toNat).length<=100000):∃b M',bs[p.toNat]?=some b/\cM (.obj a) 8e3 M=.ok (.obj b) M/\B6 (.obj b) M=true/\dt (.obj b) [d] M=.ok .non M'/\NL a bs (AL f p.toNat d) M'/\M'=M.set b (.lst (f p.toNat++[d])):=by
 obtain⟨b,c,e,B⟩:=h.ix j k;refine⟨b,M.set b (.lst (f p.toNat++[d])),c,e,?_,?_,?_,rfl⟩
 ·unfold B6;dsimp only;rw[B]
 ·unfold dt;dsimp only;rw[B];dsimp only;rw[T1 (YJ L 1e2)]
 ·have l : b < M.length := (Ul.mp B).1;refine⟨?_,h.nd,h.ne,λi g H=>?_⟩
  ·rw[Uq (λz=>h.ne (by rw[<- z];exact UZ c))];exact h.out
  ·unfold AL;by_cases I:i=p.toNat
   ·subst I;rw[c]at H;cases H;rw[T1 rfl,Uo l]
   ·rw [T3 I, Uq]
    ·exact h.at' i g H
    ·intro z;subst z;obtain⟨l1,e⟩:=Ul.mp c;obtain⟨l2,B⟩:=Ul.mp H;exact I ((Um h.nd).mp (B.trans e.symm))
end
theorem v5{src:n3}{g:MG}{e:ME}{Z:aC}(G:∀s,bK src (Z++s))(σ:∀x ρ M,∃ρ',g x ρ M=.ok ρ' M)(j:∀ρ M,e ρ M=.ok 9e2 (M++[.lst []])) :
  ∀(xs:List D)(k:Nat)(ρ:Ro),k+xs.length<=1000->compLoop src 5e2 g a9 e xs ρ (Z++.lst 12e6::List.replicate k (.lst []))=.ok 1e4 (Z++.lst ((List.range (k+xs.length)).map λi=>D.obj (Z.length+1+i))::List.replicate (k+xs.length) (.lst []))
 |[],k,ρ,h=>by
  unfold compLoop;rw[T1 (G _)];rfl
 |x::xs,k,ρ,h=>by
  dsimp[VF]at h;obtain⟨ρ',d⟩:=σ x ρ (Z++.lst 12e6::List.replicate k (.lst []));unfold compLoop;rw[T1 (G _),d];dsimp[af,aa];rw[show a9 ρ' (Z++.lst 12e6::List.replicate k (.lst []))=.ok true _ from rfl];dsimp[af,aa,U9];rw[j];dsimp[af,aa];rw[Vr,Wa,jJ (by rw[U1,V7];exact T6 0e1 bH)];dsimp[aa];have I:=v5 G σ j xs (k+1) ρ' 0e1;rw[show List.replicate k (O.lst [])++[.lst []]=List.replicate (k+1) (.lst []) from by rw[List.replicate_succ']]
  have L:List.length (Z++O.lst 12e6::List.replicate k (O.lst []))=Z.length+1+k:=by
   simp;omega
  rw[L,show (List.range k).map (λi=>D.obj (Z.length+1+i))++[D.obj (Z.length+1+k)]=(List.range (k+1)).map λi=>D.obj (Z.length+1+i) from by rw[Yl,Wo];rfl];rw[I,VF,show k+1+xs.length=k+(xs.length+1) from by omega]
theorem xG:NL 5e2 ((List.range n).map λi=>Z.length+1+i) (λ_=>[]) (Z++.lst ((List.range n).map λi=>D.obj (Z.length+1+i))::List.replicate n (.lst [])):=by
 refine⟨by rw[aA,V4];rfl,?_,?_,λi b B=>?_⟩
 ·refine WG _ (λx y h=>?_) (Wh);omega
 ·intro z;obtain⟨i,_,e⟩:=We.mp z;omega
 ·rw [UX] at B;by_cases I:i<n
  ·rw[Xw I]at B;dsimp[Option.map_some,WC]at B;subst B;rw[UU 0e1,show Z.length+1+i-Z.length=i+1 from by omega,List.getElem?_cons_succ,UV,T1 I]
  ·rw[Xx 16e6]at B;cases B
theorem qk{g:MG}{e:ME}(G:∀s,bK src (Z++s))(σ:∀x ρ M,∃ρ',g x ρ M=.ok ρ' M)(j:∀ρ M,e ρ M=.ok 9e2 (M++[.lst []]))(h:xs.length<=1000):
  compLoop src 5e2 g a9 e xs ρ (Z++[.lst []])=.ok 1e4 (Z++.lst ((List.range 4e8).map λi=>D.obj (Z.length+1+i))::List.replicate 4e8 (.lst [])):=by
 have:=v5 G σ j xs 0 ρ 0e1;simpa using this
theorem lF(ρ:Ro)(M:aC):jf aB ρ M=.ok 9e2 (M++[.lst []]):=by
 rw[jT,av,aa];exact T1 (VQ _)
def eD(e:Int×Nat):D:=.tup [.int e.1,.int ((2^e.2:Nat):Int)]
theorem FX(h:i<=15):AV (.int 1) (.int (i:Int)) M=.ok (.int ((2^i:Nat):Int)) M:=by
 rw[show AV (.int 1) (.int (i:Int)) M=.ok (.int (1*2^(i:Int).toNat)) M from og (show DB 1 (i:Int) from⟨by omega,by omega,by decide⟩),U6,Int.one_mul];congr 2
section
variable{A:Nat}{bs:List Nat}
abbrev LH(m:Nat)(ks:List 0e5)(A:Nat)(o4 o5 o6:Option D):Ro:=[some 1e8,some 5e6,some 3e9,some 5e7,o4,o5,o6]
abbrev Sl:MG:=cu 2 (aR (ai 4) (aR (cu 2 (aR (ai 5) (aR (ai 6) (cv)))) (cv)))
abbrev B5(d:List 0e5):Nat->List D:=λp=>(uR 0 d (p:Int)).map eD
theorem FY{p:Int}{r:Ro}{e1 e2:Nat}{f:Nat->List D}(h:NL A bs f M)(P:0<=p)(a:p<bs.length)(l:(f p.toNat).length<=100)(hi:i<=15)(r3:r[3]?=some (some 5e7))(R:r[e1]?=some (some 8e3))(Q:r[e2]?=some (some (.int q)))(r4:r[4]?=some (some 11e5)):
  ∃b,bs[p.toNat]?=some b/\gC (AI dt (aF cM (ao 3) (ao e1)) (ak (fM (ak (ao e2) (ak (aF AV 2e6 (ao 4)) (aB)))) (aB))) r M=.next r (M.set b (.lst (f p.toNat++[eD (q,i)])))/\NL A bs (AL f p.toNat (eD (q,i))) (M.set b (.lst (f p.toNat++[eD (q,i)]))):=by
 obtain⟨b,k,B,x,G,X,c,g⟩:=h.push (d:=eD (q,i)) P a 0e1;subst g;refine⟨b,B,?_,c⟩;have v:∀{j:Nat}{d:D}(N:aC),r[j]?=some (some d)->ao j r N=.ok d N:=λN e=>by unfold ao;rw[e]
 rw[d5,qL,aD,v M r3,aa,v M R,aa,x,aa,G,T1 rfl];dsimp[aq,cQ,av,aD,bg,v M Q,v M r4,aa,FX hi,VF,V8];rw[T1 (show 0+1+1<=sizeLine by decide)];dsimp[aa];rw[show ([D.tup [D.int q,D.int ((2^i:Nat):Int)]]:List D)=[eD (q,i)] from rfl,X];dsimp[ae]
theorem JR{dn:List 0e5}{a b:Int}{o4 o5 o6:Option D}(h:NL A bs (B5 dn) M)(g:bs.length=m)(K:0<=a/\a<b/\b<m)(l:dn.length<=15) :
  ∃ρ1 M',Sl (.tup [.int (dn.length:Int),aw [a,b]]) (LH m ks A o4 o5 o6) M=.ok ρ1 M/\gZ ρ1 M=.next (LH m ks A (some (.int dn.length)) (some (.int a)) (some (.int b))) M'/\NL A bs (B5 (dn++[[a,b]])) M'/\M'.length=M.length/\(∀j,j∉bs->M'[j]?=M[j]?):=by
 have l1:∀p:Nat,(B5 dn p).length<=15:=λp=>by
  rw[U1];exact Ub (xu _ _ _) l
 obtain⟨b1,k,d,c⟩:=FY (p:=a) (q:=b) (i:=dn.length) (r:=LH m ks A (some (.int dn.length)) (some (.int a)) (some (.int b))) (e1:=5) (e2:=6) h K.1 0e1 (Ub (l1 _) 1e2) l rfl rfl rfl rfl
 obtain⟨b2,n,B,e⟩:=FY (p:=b) (q:=a) (i:=dn.length) (r:=LH m ks A (some (.int dn.length)) (some (.int a)) (some (.int b))) (e1:=6) (e2:=5) c 0e1 0e1 (by
  unfold AL;split
  ·rw[U0];have:=l1 b.toNat;dsimp[VF,V8];omega
  ·have:=l1 b.toNat;omega) l rfl rfl rfl rfl
 refine⟨LH m ks A (some (.int dn.length)) (some (.int a)) (some (.int b)),_,rfl,?_,e.ext λi o=>?_,by simp,λj H=>?_⟩
 ·unfold gZ;rw[aG,d,az,B]
 ·have : uR 0 (dn ++ [[a, b]]) (i : Int) = uR 0 dn i ++ sk dn.length [a, b] i := by rw [zk, WB]
  unfold B5 AL;dsimp only;rw[this,Wo];have f:(a.toNat:Int)=a:=by omega
  have N:(b.toNat:Int)=b:=by omega
  unfold sk;rw[show vy [a,b]=a from rfl,show dm [a,b]=b from rfl];by_cases I:i=a.toNat
  ·have : a = (i : Int) := by omega
   rw[T3 (show ¬ i=b.toNat by omega),T1 I,T1 this];rfl
  ·by_cases u : i = b.toNat
   ·have d : ¬ a = (i : Int) := by omega
    have B:b=(i:Int):=by omega
    rw[T1 u,T3 I,T3 d,T1 B];rfl
   ·have d : ¬ a = (i : Int) := by omega
    have B:¬ b=(i:Int):=by omega
    rw[T3 u,T3 I,T3 d,T3 B];simp
 ·rw[Uq (show b2≠j from λz=>H (by rw[<- z];exact UZ n)),Uq (show b1≠j from λz=>H (by rw[<- z];exact UZ k))]
theorem CO{all:List D}:∀(rs dn:List 0e5)(M:aC)(o4 o5 o6:Option D),NL A bs (B5 dn) M->bs.length=m->(∀k∈rs,m8 m k)->dn.length+rs.length<=15 ->
  ∃M' p4 p5 p6,dg (.fix all) Sl gZ (dq dn.length (rs.map aw)) (LH m ks A o4 o5 o6) M=.next (LH m ks A p4 p5 p6) M'/\NL A bs (B5 (dn++rs)) M'/\M'.length=M.length/\(∀j,j∉bs->M'[j]?=M[j]?)
 |[],dn,M,o4,o5,o6,h,B,d,i=>by
  refine⟨M,o4,o5,o6,?_,by rw[UM];exact h,rfl,λ_ _=>rfl⟩;dsimp[Vh,dq];unfold dg;rw[T1 9e8]
 |k::rs,dn,M,o4,o5,o6,h,B,d,i=>by
  dsimp[VF]at i;obtain⟨a,b,rfl,l,n,o⟩:=d k 0e9;obtain⟨p,c,G,g,C,e,f⟩:=JR (m:=m) (ks:=ks) (o4:=o4) (o5:=o5) (o6:=o6) h B ⟨l,n,o⟩ 0e1;obtain⟨M',p4,p5,p6,q,J,L,Q⟩:=CO rs (dn++[[a,b]]) c (some (.int dn.length)) (some (.int a)) (some (.int b)) C B (λx X=>d x (by simp[X])) 6e9;refine⟨M',p4,p5,p6,?_,by rw[Vr]at J;exact J,L.trans e,λj H=>(Q j H).trans (f j H)⟩;dsimp[Vi,dq];unfold dg;rw[T1 9e8,G,ae,g];rw[U0]at q;exact q
theorem Bp(h:GW m ks):∃bs M',j0 [aK m ks] Z=.ok 1e4 M'/\NL 5e2 bs (B5 ks) M'/\bs.length=m/\(∀b∈bs,Z.length<b)/\∃g,M'=Z++g:=by
 have d:=h.m6;have L:=c0 h;let bs:List Nat:=(List.range m).map λi=>Z.length+1+i
 let a:aC:=Z++.lst ((List.range m).map λi=>D.obj (Z.length+1+i))::List.replicate m (.lst [])
 have n:NL 5e2 bs (B5 []) a:=xG;have l:bs.length=m:=by simp[bs]
 obtain⟨M',p,P,f,q,J,Q,G⟩:=CO (m:=m) (ks:=ks) (all:=dq 0 0e8) ks [] a none none none n l h.2.2.2.2 (by simpa using L)
 have s:∀b∈bs,Z.length<b:=λb B=>by
  obtain⟨i,_,rfl⟩:=We.mp B;omega
 refine⟨bs,M',?_,J,l,s,?_⟩
 ·unfold j0;rw[bX,show (some 1e8::List.replicate (7-1) none:Ro)=[some 1e8,none,none,none,none,none,none] from rfl];unfold um;rw[aG,aT,ag,ae];rw[show cu 2 (aR (ai 1) (aR (ai 2) (cv))) 1e8 [some 1e8,none,none,none,none,none,none] Z=.ok [some 1e8,some 5e6,some 3e9,none,none,none,none] Z from rfl];dsimp[ae,az];rw[aG,aT,bp,cH];dsimp[aq,av,aj,ag,aa];rw[fv 0e1 0e1,aa,aV,qk (g:=ai 0) (e:=pE) (src:=.fix (bR 0 ((m:Int)).toNat)) (xs:=bR 0 ((m:Int)).toNat) (Z:=Z) 5e1 (λx c M=>⟨_,rfl⟩) (λc M=>lF c M) (by unfold bR;rw[U1,V7];omega)];rw[show (bR 0 ((m:Int)).toNat).length=m from by simp[bR]];dsimp[ae,bj,az,Yf,Yg];rw[aG,fI,cH];dsimp[aq,av,aj,ag,aa];rw[show ∀N,kW [.tup 0e8] N=.ok (.fix (dq 0 0e8)) N from λ_=>rfl,ae,aV];rw[show dg (.fix (dq 0 0e8)) Sl gZ (dq 0 0e8) (LH m ks 5e2 none none none) a=_ from q,az,aS];dsimp[aj,ag,ae,aL];exact jQ 0e9
 ·refine ⟨M'.drop 5e2, ?_⟩
  have:M'.take 5e2=Z:=by
   apply X7;intro j;by_cases H:j<Z.length
   ·rw[UY H,G j (λz=>by have:=s j z;omega)];show (Z++_)[j]?=_;rw[UW H]
   ·rw[Xx (by rw[US];omega),Xx 0e1]
  conv=>lhs;rw[<- Wl 5e2 M',this]
end
end Lw
namespace Lv
open PySem
theorem Oi(a b:Nat):Builtin.bitOr (a:Int) (b:Int)=((a ||| b:Nat):Int):=by
 unfold Builtin.bitOr Builtin.bitAnd Builtin.bitNot;have H:decide (0 <= -(a:Int)-1)=false:=TY 0e1;have c:decide (0 <= -(b:Int)-1)=false:=TY 0e1;dsimp[H,c];have d:(-(-(a:Int)-1)-1).toNat=a:=by omega
 have B:(-(-(b:Int)-1)-1).toNat=b:=by omega
 rw[d,B];omega
theorem Ly(a:Nat):Builtin.bitAnd (a:Int) 1=((a%2:Nat):Int):=by
 unfold Builtin.bitAnd;have H:decide (0<=(a:Int))=true:=VA 0e1;have c:decide ((0:Int)<=1)=true:=by decide
 dsimp[H,c];have d:(a:Int).toNat=a:=by omega
 rw[d];show ((a &&& 1:Nat):Int)=_;rw[Nat.and_one_is_mod]
end Lv
namespace Lw
open PySem L2 RS Lv
def uP(w:Wy):D:=.tup [bc w.1,.int ((w.2:Nat):Int)]
theorem L5{a b:Nat}:Qd (.int (a:Int)) (.int (b:Int)) M=.ok (.int ((a ||| b:Nat):Int)) M:=by
 rw[show Qd (.int (a:Int)) (.int (b:Int)) M=.ok (.int (Builtin.bitOr (a:Int) (b:Int))) M from sI,Oi]
structure u2(m:Nat)(w:Wy):Prop where
 ne:w.1≠[]
 len:w.1.length<=3
 pl:∀p∈w.1,0<=p/\p<(m:Int)
theorem zU{w:List Int}(h:w≠[]):dm w∈w:=by
 obtain⟨v,p,rfl⟩:∃v p,w=v++[p]:=⟨w.dropLast,w.getLast h,(Yv h).symm⟩;rw[t8];simp
theorem Pe{w:List Int}(h:w≠[]):vy w∈w:=by
 cases w with
 |nil=>exact absurd rfl h
 |cons a r=>simp[vy]
theorem qm{U V:Type}{f:U->V}:∀l:List U,(l.flatMap λe=>[f e])=l.map f
 |[]=>rfl
 |x::l=>by rw[Yn,qm l];rfl
section
variable{A:Nat}{bs:List Nat}
theorem M9(d:∀k∈ks,m8 m k):∀(i:Nat)(p:Int),∀e∈uR i ks p,(0<=e.1/\e.1<(m:Int))/\e.2<i+ks.length:=by
 induction ks with
 |nil=>intro i p e j;cases j
 |cons k r I=>
  intro i p e j;dsimp[uR,Uj]at j;rcases j with j|j
  ·obtain ⟨a, b, rfl, H, c, f⟩ := d k 0e9;unfold sk at j;rw[show vy [a,b]=a from rfl,show dm [a,b]=b from rfl]at j;split at j
   ·dsimp[VR]at j;subst j;refine⟨⟨?_,?_⟩,?_⟩ <;> simp <;> omega
   ·split at j
    ·dsimp[VR]at j;subst j;refine⟨⟨?_,?_⟩,?_⟩ <;> simp <;> omega
    ·cases j
  ·obtain⟨H,c⟩:=I (λx h=>d x (by simp[h])) (i+1) p e j;exact⟨H,by simp;omega⟩
theorem Gd(K:∀k∈ks,m8 m k){W:List Wy}(b:∀w∈W,u2 m w/\w.1.length<=2):∀w∈l7 ks W,u2 m w:=λw h=>by
 unfold l7 at h;obtain⟨v,V,h⟩:=Yh.mp h;unfold mf at h;obtain⟨e,j,rfl⟩:=We.mp h;have H:=M9 K 0 _ e (T9.mp j).1;obtain⟨⟨c,f,a⟩,g⟩:=b v V;refine⟨by simp,by simp;omega,λp d=>?_⟩;rcases Uj.mp d with d|d
 ·exact a p d
 ·rw[VR.mp d];exact H.1
theorem Gs{w:Wy}{a:List D}{o2 o3:Option D}(h:NL A bs (B5 ks) M)(u:bs.length=m)(W:u2 m w)(i:a.length+(mf ks w).length<=sizeLine) :
  ∃ρ2,(∃o0 o1 o2 o3,ρ2=[o0,o1,o2,o3,some 5e7])/\dW 4e1 [some (bc w.1),some (.int ((w.2:Nat):Int)),o2,o3,some 5e7] (M++[.lst a])=.ok ρ2 (M++[.lst (a++(mf ks w).map uP)]):=by
 have P:=W.pl _ (zU W.ne);obtain⟨b,c,s,B⟩:=h.ix (p:=dm w.1) P.1 0e1
 have S:B5 ks (dm w.1).toNat=(uR 0 ks (dm w.1)).map eD:=by
  unfold B5;rw[WJ P.1]
 rw[S]at B
 obtain⟨j,⟨o,n,E⟩,l⟩:=eX (U:=Int×Nat) (en:=eD) (src:=.own b ((uR 0 ks (dm w.1)).map eD)) (g:=cu 2 8e6) (t:=iF) (fb:=jR iI) (Z1:=M)
  (q:=λe=>!decide (e.1∈w.1)) (k:=λe=>[uP (w.1++[e.1],w.2 ||| 2^e.2)]) (λf=>∃o2 o3,f=[some (bc w.1),some (.int ((w.2:Nat):Int)),o2,o3,some 5e7])
  (λa=>aI B) (us:=uR 0 ks (dm w.1)) (acc:=a) (ρ:=[some (bc w.1),some (.int ((w.2:Nat):Int)),o2,o3,some 5e7]) ⟨_,_,rfl⟩
  (by
   unfold mf at i;rw[U1]at i;rw[qm,U1]
   exact i)
  (λx X a f hR => by
   obtain⟨o2,o3,rfl⟩:=hR;refine⟨[some (bc w.1),some (.int ((w.2:Nat):Int)),some (.int x.1),some (.int ((2^x.2:Nat):Int)),some 5e7],rfl,?_,λ_=>⟨_,_,rfl⟩,λ_ i=>⟨[some (bc w.1),some (.int ((w.2:Nat):Int)),some (.int x.1),some (.int ((2^x.2:Nat):Int)),some 5e7],⟨_,_,rfl⟩,?_⟩⟩
   ·unfold iF;dsimp[bW,aD,aj,ag,aa,Ce,U9,aX]
   ·refine pd ?_ i;unfold iI;dsimp[cQ,aq,av,aD,aj,ag,aa,VF,V8];rw[T1 (show 0+1<=sizeLine by decide)];dsimp[aa];rw[Gr (by have:=W.len;omega)];dsimp[aa,L5];rw[T1 (show ([D.tup _,D.int _]:List D).length<=sizeLine from l2)]
    rfl)
 refine⟨j,⟨_,_,_,_,E⟩,?_⟩;unfold dW gN;dsimp[ba,aD,aj,ag,mj,bg,Bb,aa];rw[xK W.ne,aa]
 have d:cM 5e7 (.int (dm w.1)) (M++[O.lst a])=.ok (.obj b) (M++[O.lst a]):=by
  obtain⟨r,H,d,_⟩:=(h.app (g:=[O.lst a])).ix (p:=dm w.1) P.1 0e1;rw[c]at H;cases H;exact d
 rw[d,aa,b8 (aI B),af,aa,bw,l];unfold mf;rw[V4,qm];rfl
theorem Jc{V:Nat}{W:List Wy}{r0 r1 r2 r5 r6 r7:Option D}(h:NL A bs (B5 ks) M)(B:bs.length=m)(hV:M[V]?=some (.lst (W.map uP)))(H:∀w∈W,u2 m w)(i:W.length*ks.length<=10000) :
  eV (cw (ao 4)) [none,none,none,none,some 3] (cu 2 3e2) (a9) (dW) [r0,r1,r2,some 5e7,some (.obj V),r5,r6,r7] M=.ok 9e2 (M++[.lst ((l7 ks W).map uP)]):=by
 have l:=nh ks W
 obtain⟨c,_,E⟩:=eX (U:=Wy) (en:=uP) (src:=.own V (W.map uP)) (g:=cu 2 3e2) (t:=a9) (fb:=dW) (Z1:=M)
  (q:=λ_=>true) (k:=λw=>(mf ks w).map uP) (λe=>∃O b o X,e=[O,b,o,X,some 5e7])
  (λa=>aI hV) (us:=W) (acc:=[]) (ρ:=[none,none,none,none,some 5e7]) ⟨_,_,_,_,rfl⟩
  (by
   rw[bz,V8,WB,show (W.flatMap λw=>(mf ks w).map uP)=(l7 ks W).map uP from by unfold l7;rw[YD],U1]
   exact Ub l (Ub i 1e2))
  (λx d a e hR => by
   obtain⟨O,b,o,X,rfl⟩:=hR;refine⟨[some (bc x.1),some (.int ((x.2:Nat):Int)),o,X,some 5e7],rfl,rfl,λz=>(by cases z),λ_ i=>?_⟩;rw[U1]at i
   exact Gs h B (H x d) i)
 rw[bz,Vy,show (W.flatMap λw=>(mf ks w).map uP)=(l7 ks W).map uP from by unfold l7;rw[YD]]at E;unfold eV;dsimp[ba,aj,ag,aa];rw[b8 hV,aa,bw];rw[show cD [none,none,none,none,some 3] [r0,r1,r2,some 5e7,some (.obj V),r5,r6,r7]=[none,none,none,none,some 5e7] from rfl,E,aa]
end
abbrev nD(c:Nat):D:=.int ((c:Nat):Int)
structure DR(F:Nat)(es:List Wy)(kvs:List 14e4)(ep:Nat)(M:aC):Prop where
 at':M[F]?=some (.dct kvs ep)
 nd:(kvs.map 7e4).Nodup
 kn:(kvs.map 3e0).Nodup
 ne:F∉kvs.map 7e4
 val:∀p∈kvs,M[p.2]?=some (.lst ((lU es p.1).map nD))
 key:∀k,k∈kvs.map 3e0↔∃c,(k,c)∈es
section
variable{F:Nat}{es:List Wy}
theorem DR.keep{M':aC}(h:DR F es kvs ep M)(k:∀j,j=F\/j∈kvs.map 7e4->∀o,M[j]?=some o->M'[j]?=some o):DR F es kvs ep M':=
 ⟨k F 8e9 _ h.at',h.nd,h.kn,h.ne,λp d=>k p.2 (.inr (Wj d)) _ (h.val p d),h.key⟩
theorem DR.app{g:aC}(h:DR F es kvs ep M):DR F es kvs ep (M++g):=h.keep λj _ o e=>aI e
theorem DR.new{g:aC}:DR 4e1 [] [] 0 (M++.dct [] 0::g):=⟨aA,.nil,.nil,by simp,λp d=>(by cases d),λk=>(by simp)⟩
theorem nj(h:(kvs.map 3e0).Nodup)(i:(k,j)∈kvs):IE kvs k=some j:=by
 unfold IE
 induction kvs with
 |nil=>cases i
 |cons x r I=>
  rw[Wx];rw[Vi,UP]at h;rcases Uh.mp i with e|e
  ·subst e;simp
  ·have:x.1≠k:=λz=>h.1 (by rw[z];exact We.mpr ⟨_,e,rfl⟩);dsimp[TY this];exact I h.2 e
theorem Il(h:k∉kvs.map 3e0):IE kvs k=none:=by
 unfold IE;rw[Option.map_eq_none_iff,List.find?_eq_none];intro x d;dsimp[Xy];intro z;exact h (by rw[<- z];exact Wj d)
theorem DR.event(h:DR F es kvs ep M)(L:kvs.length<=1000)(s:es.length<=10000):∃kvs' ep' M2 M' j,LK (.obj F) [bc k,.obj 4e1] (M++[.lst []])=.ok (.obj j) M2/\B6 (.obj j) M2=true/\dt (.obj j) [nD c] M2=.ok .non M'/\DR F (es++[(k,c)]) kvs' ep' M' /\
  (∀i,i≠F->i∉kvs.map 7e4->i<M.length->M'[i]?=M[i]?)/\(∀i∈kvs'.map 7e4,i∈kvs.map 7e4\/i=4e1)/\M'.length=M.length+1:=by
 have hF:F<M.length:=(Ul.mp h.at').1
 have l:∀k,(lU es k).length<=10000:=λk=>by
  unfold lU;rw[U1];exact Ub (Yi _ _) s
 have app:∀{N:aC}{j:Nat}{S:List D},N[j]?=some 12e4->S.length<=10000->B6 (.obj j) N=true/\dt (.obj j) [nD c] N=.ok .non (N.set j (.lst (S++[nD c]))):=λ{N j S} e X=>by
  constructor
  ·unfold B6;dsimp only;rw[e]
  ·unfold dt;dsimp only;rw[e];dsimp only;rw[T1 (YJ X 1e2)]
 have b:(M++[O.lst []])[F]?=some (.dct kvs ep):=aI h.at';by_cases K:k∈kvs.map 3e0
 ·obtain ⟨p, d, e⟩ := We.mp K;obtain⟨r,j⟩:=p;subst e;have J:M[j]?=some (.lst ((lU es r).map nD)):=h.val _ d;have t:j<M.length:=(Ul.mp J).1;obtain⟨a,A⟩:=app (N:=M++[O.lst []]) (j:=j) (aI J) (by rw[U1];exact l _);have hjF:j≠F:=λz=>h.ne (by rw[<- z];exact We.mpr ⟨_,d,rfl⟩);refine⟨kvs,ep,_,_,j,?_,a,A,⟨?_,h.nd,h.kn,h.ne,λp u=>?_,λq=>?_⟩,λi n o g=>?_,λi I=>.inl I,by simp⟩
  ·unfold LK;dsimp only;rw[b,i4];dsimp only;rw[T1 L,nj h.kn d]
  ·rw[Uq hjF];exact b
  ·rw [zR];by_cases e:r=p.1
   ·have:p.2=j:=by
     have E:=nj h.kn u;have B:=nj h.kn d;rw[e]at B;rw[E]at B;cases B;rfl
    rw[T1 e,this,Uo 6e9,e,Wo];rfl
   ·rw [T3 e, Uq (λz => e ?_)]
    ·exact aI (h.val p u)
    ·obtain ⟨l1, E⟩ := Xq d;obtain⟨l2,B⟩:=Xq u;obtain⟨f,E⟩:=E;obtain⟨Q,B⟩:=B
     have:l1=l2:=by
      refine(Um (xs:=kvs.map 7e4) (h₀:=by simpa using f) (h₁:=by simpa using Q) h.nd).mp ?_;simp[E,B,z]
     subst this;rw[E]at B;rw[<- B]
  ·rw [h.key q];constructor
   ·rintro⟨C,H⟩;exact⟨C,Uk _ H⟩
   ·rintro ⟨C, H⟩
    rcases Uj.mp H with H|H
    ·exact⟨C,H⟩
    ·rw[VR]at H;cases H;exact(h.key _).mp K
  ·have:j≠i:=λz=>o (by rw[<- z];exact We.mpr ⟨_,d,rfl⟩);rw[Uq this,UW g]
 ·let M2 : aC := (M ++ [O.lst []]).set F (.dct (kvs ++ [(k, M.length)]) (ep + 1))
  have B:M2[4e1]?=some (.lst []):=by
   show ((M++[O.lst []]).set F _)[4e1]?=_;rw[Uq 0e1];exact aA
  obtain⟨a,A⟩:=app (N:=M2) (j:=4e1) B (VQ _);have lt:∀p∈kvs,p.2<M.length:=λp d=>(Ul.mp (h.val p d)).1
  have m:lU es k=[]:=by
   rw[List.eq_nil_iff_forall_not_mem];intro C H;exact K ((h.key k).mpr ⟨C,iL.mp H⟩)
  refine⟨kvs++[(k,4e1)],ep+1,M2,_,4e1,?_,a,A,⟨?_,?_,?_,?_,λp u=>?_,λq=>?_⟩,λi n o g=>?_,λi I=>?_,by simp[M2]⟩
  ·unfold LK;dsimp only;rw[b,i4];dsimp only;rw[T1 L,Il K]
  ·rw[Uq 0e1];exact Uo 6e9
  ·rw[Wo,WQ];refine⟨h.nd,by simp,λx X y σ=>?_⟩;obtain⟨p,d,rfl⟩:=We.mp X;dsimp[Vi,Vh,VR]at σ;have:=lt p d;omega
  ·rw[Wo,WQ];refine⟨h.kn,by simp,λx X y σ=>?_⟩;dsimp[Vi,Vh,VR]at σ;subst σ;exact λz=>K (z ▸ X)
  ·rw [Wo, Uj]
   rintro (z|z)
   ·exact h.ne z
   ·simp at z;omega
  ·rw [zR];rcases Uj.mp u with d|d
   ·have:k≠p.1:=λz=>K (by rw[z];exact Wj d);have:=lt p d;rw[T3 (by assumption),Uq 0e1];show ((M++[O.lst []]).set F _)[p.2]?=_;rw[Uq (λz=>h.ne (by rw[z];exact Wj d))];exact aI (h.val p d)
   ·rw[VR]at d;subst d;rw[T1 rfl,m,Uo (by simp[M2])];rfl
  ·rw [Wo, Uj, h.key q];constructor
   ·rintro (⟨C, H⟩ | z)
    ·exact⟨C,Uk _ H⟩
    ·simp at z;subst z;exact⟨c,by simp⟩
   ·rintro ⟨C, H⟩
    rcases Uj.mp H with H|H
    ·exact .inl ⟨C,H⟩
    ·rw[VR]at H;cases H;exact .inr 0e9
  ·rw[Uq 0e1];show ((M++[O.lst []]).set F _)[i]?=_;rw[Uq (λz=>n z.symm),UW g]
  ·rw [Wo, Uj] at I;rcases I with I|I
   ·exact .inl I
   ·simp at I;exact .inr I
end
section
variable{F A V:Nat}{es:List Wy}{r0 r1 r3 r4 r5 r6 r7:Option D}
theorem Ea{l:List 0e5}(n:l.Nodup)(h:∀k∈l,k∈prs):l.length<=15:=by
 have:=i2 n (l2:=prs) h;rw[xE]at this;exact this
theorem Gh{W:List Wy}(i:m<=6)(H:∀w∈W,u2 m w):∀e∈sf W,e.1∈prs:=λe j=>by
 unfold sf at j;obtain⟨w,h,rfl⟩:=We.mp j;rw[T9,Xy]at h;have a:=(H w h.1).pl _ (Pe (H w h.1).ne);have c:=(H w h.1).pl _ (zU (H w h.1).ne);exact m8.prs (m:=(m:Int)) ⟨_,_,rfl,a.1,h.2,c.2⟩ 0e1
theorem DR.len(h:DR F es kvs ep M)(j:∀e∈es,e.1∈prs):kvs.length<=15:=by
 have:=Ea h.kn λk d=>by
  obtain⟨c,i⟩:=(h.key k).mp d;exact j _ i
 simpa using this
theorem MR{w:Wy}(h:DR F es kvs ep M)(H:∀e∈es,e.1∈prs)(l:es.length<=10000)(W:u2 m w) :
  ∃kvs' ep' M',fD [r0,r1,some (.obj F),r3,r4,r5,some (bc w.1),some (nD w.2)] M=.next [r0,r1,some (.obj F),r3,r4,r5,some (bc w.1),some (nD w.2)] M'/\DR F (es++sf [w]) kvs' ep' M' /\
   (∀i,i≠F->i∉kvs.map 7e4->i<M.length->M'[i]?=M[i]?)/\(∀i∈kvs'.map 7e4,i∈kvs.map 7e4\/M.length<=i)/\M.length<=M'.length:=by
 unfold fD;rw[bL];dsimp[bW,aD,mj,bg,Bb,aj,ag,aa,C8 W.ne,xK W.ne,cq,aX,ae];by_cases c:vy w.1<dm w.1
 ·rw [show cmpI .Lt (vy w.1) (dm w.1) = true from VA c];have d:sf [w]=[([vy w.1,dm w.1],w.2)]:=by unfold sf;simp[c]
  obtain⟨kvs',ep',a,M',j,B,G,x,X,g,b,f⟩:=h.event (k:=[vy w.1,dm w.1]) (c:=w.2) (Ub (h.len H) 1e2) l;refine⟨kvs',ep',M',?_,by rw[d];exact X,g,λi I=>(b i I).imp id λz=>by omega,by omega⟩;dsimp[U9];rw[d5,qL]
  have q:IP LK 10e7 (ak (fM (ak (aF cM (ao 6) 2e5) (ak (aF cM (ao 6) (vA yM 2e6)) (aB)))) (ak (jf (aB)) (aB))) [r0,r1,some (.obj F),r3,r4,r5,some (bc w.1),some (nD w.2)] M=.ok (.obj j) a:=by
   unfold IP;dsimp[aj,ag,aa];rw[T1 (show P9 (.obj F) M=true from by unfold P9;dsimp only;rw[h.at'])];dsimp[aq,cQ,av,aD,mj,bg,Bb,aj,ag,aa,C8 W.ne,xK W.ne,VF,V8];rw[T1 (show 0+1+1<=sizeLine from l2)];dsimp[aa,lF];exact B
  rw[q,aa,G,T1 rfl];dsimp[aq,av,aj,ag,aa];rw[x];dsimp[ae]
 ·rw [show cmpI .Lt (vy w.1) (dm w.1) = false from TY c];have d:sf [w]=[]:=by unfold sf;simp[c]
  refine⟨kvs,ep,M,?_,by rw[d,UM];exact h,λ_ _ _ _=>rfl,λi I=>.inl I,UG _⟩;dsimp[VE,U8,bI]
abbrev Tf:MG:=cu 2 (aR (ai 6) (aR (ai 7) (cv)))
theorem Ct{all:List D}(a:m<=6):∀(rs:List Wy)(es:List Wy)(kvs:List 14e4)(ep:Nat)(M:aC)(r6 r7:Option D),DR F es kvs ep M->(∀e∈es,e.1∈prs)->es.length+rs.length<=10000->(∀w∈rs,u2 m w)->M[V]?=some (.lst all)->V≠F->V∉kvs.map 7e4 ->
  ∃kvs' ep' M' p6 p7,dg (.own V all) Tf fD (rs.map uP) [r0,r1,some (.obj F),r3,r4,r5,r6,r7] M=.next [r0,r1,some (.obj F),r3,r4,r5,p6,p7] M'/\DR F (es++sf rs) kvs' ep' M' /\
   (∀i,i≠F->i∉kvs.map 7e4->i<M.length->M'[i]?=M[i]?)/\(∀i∈kvs'.map 7e4,i∈kvs.map 7e4\/M.length<=i)/\M.length<=M'.length
 |[],es,kvs,ep,M,r6,r7,h,j,l,W,hV,b,v=>by
  refine⟨kvs,ep,M,r6,r7,?_,by show DR F (es++[]) kvs ep M;rw[UM];exact h,λ_ _ _ _=>rfl,λi I=>.inl I,UG _⟩;rw[Vh];unfold dg;rw[T1 (show bK (.own V all) _ from hV)]
 |w::rs,es,kvs,ep,M,r6,r7,h,j,l,W,hV,b,v=>by
  dsimp[VF]at l;obtain⟨kvs1,E,g,k,n,r,u,μ⟩:=MR (r0:=r0) (r1:=r1) (r3:=r3) (r4:=r4) (r5:=r5) h j 0e1 (W w 0e9);have hVl:V<M.length:=(Ul.mp hV).1
  have e1l:(sf [w]).length<=1:=by
   unfold sf;rw[U1];exact Yi _ _
  have e1p:∀e∈es++sf [w],e.1∈prs:=λe H=>by
   rcases Uj.mp H with H|H
   ·exact j e H
   ·exact Gh a (λx d=>W x (by rw[VR.mp d];simp)) e H
  obtain⟨kvs',ep',M',p6,p7,b1,b2,b3,B,p⟩:=Ct (all:=all) a rs (es++sf [w]) kvs1 E g (some (bc w.1)) (some (nD w.2)) n e1p (by rw[U0];omega) (λx d=>W x (by simp[d])) (by rw[r V b v hVl];exact hV) b (λz=>(u V z).elim v λz=>by omega);refine⟨kvs',ep',M',p6,p7,?_,?_,λi c f o=>?_,λi I=>?_,by omega⟩
  ·rw[Vi];unfold dg;rw[T1 (show bK (.own V all) _ from hV)];rw[show Tf (uP w) [r0,r1,some (.obj F),r3,r4,r5,r6,r7] M=.ok [r0,r1,some (.obj F),r3,r4,r5,some (bc w.1),some (nD w.2)] M from rfl,ae,k];exact b1
  ·rw[show sf (w::rs)=sf [w]++sf rs from by unfold sf;rw[<- Wo,<- YF];rfl,<- Vr];exact b2
  ·rw[b3 i c (λz=>(u i z).elim f λz=>by omega) 0e1];exact r i c f o
  ·rcases B i I with z | z
   ·exact u i z
   ·exact .inr 0e1
end
section
variable{F A V:Nat}{bs:List Nat}{es:List Wy}{r0 r1 r5 r6 r7:Option D}
theorem ze{W:List Wy}(h:GW m ks)(hF:DR F es kvs ep M)(hN:NL A bs (B5 ks) M)(d:bs.length=m)(hV:M[V]?=some (.lst (W.map uP)))(c:∀w∈W,u2 m w/\w.1.length<=2)(L:W.length*ks.length<=5000)(E:∀e∈es,e.1∈prs)(l:es.length<=5000)
  (sF:F∉A::bs) (k:∀i∈kvs.map 7e4,i∉A::bs) :
  ∃kvs' ep' M' p6 p7,iH [r0,r1,some (.obj F),some 5e7,some (.obj V),r5,r6,r7] M=.next [r0,r1,some (.obj F),some 5e7,some 9e2,r5,p6,p7] M'/\DR F (es++sf (l7 ks W)) kvs' ep' M'/\NL A bs (B5 ks) M'/\M'[4e1]?=some (.lst ((l7 ks W).map uP)) /\
   (∀i∈kvs'.map 7e4,i∉A::bs)/\(∀i,i≠F->i∉kvs.map 7e4->i<M.length->M'[i]?=M[i]?)/\(∀i∈kvs'.map 7e4,i∈kvs.map 7e4\/M.length<=i):=by
 have G:=nh ks W;have gok:=Gd (m:=m) h.2.2.2.2 c;have f:=h.m6;let a:aC:=M++[.lst ((l7 ks W).map uP)]
 have nlt:∀i∈A::bs,i<M.length:=λi I=>by
  rcases Uh.mp I with rfl|I
  ·exact(Ul.mp hN.out).1
  ·obtain⟨j,D,e⟩:=Xq I;exact(Ul.mp (hN.at' j i (by rw[<- e];exact W6 D))).1
 have olt:∀i∈kvs.map 7e4,i<M.length:=λi I=>by
  obtain⟨p,P,rfl⟩:=We.mp I;exact(Ul.mp (hF.val p P)).1
 have Flt:F<M.length:=(Ul.mp hF.at').1;obtain⟨kvs',ep',M',p6,p7,b1,b2,b3,B,q⟩:=Ct (r0:=r0) (r1:=r1) (r3:=some 5e7) (r4:=some 9e2) (r5:=r5) (V:=4e1) (all:=(l7 ks W).map uP) f (l7 ks W) es kvs ep a r6 r7 hF.app E 0e1 gok aA 0e1 (λz=>by have:=olt _ z;omega);have l1:a.length=M.length+1:=by simp[a]
 have s:∀i∈kvs'.map 7e4,i∉A::bs:=λi I z=>by
  rcases B i I with y|y
  ·exact k i y z
  ·have:=nlt i z;omega
 refine⟨kvs',ep',M',p6,p7,?_,b2,NL.keep (M:=a) hN.app λj D o e=>?_,?_,s,λi g u n=>?_,λi I=>(B i I).imp id λz=>by omega⟩
 ·unfold iH;rw[aG,aT,Jc hN d hV (λw b=>(c w b).1) 0e1];dsimp[ae,bj,az,Yf,Yg];rw[fI];dsimp[ba,aj,ag,aa];rw[b8 (xs:=(l7 ks W).map uP) aA,ae,bw];exact b1
 ·have H : j ∈ A :: bs := by rcases D with rfl | D <;> simp [*]
  have J:=nlt j H;rw[b3 j (λz=>sF (z ▸ H)) (λz=>k j z H) 0e1];exact e
 ·rw[b3 4e1 0e1 (λz=>by have:=olt _ z;omega) 0e1];exact aA
 ·rw[b3 i g u 0e1];exact UW n
theorem Jx(h:GW m ks):∃kvs ep M',fg [aK m ks,.int 2] Z=.ok 1e4 M'/\DR 5e2 9e6 kvs ep M'/\(∃g,M'=Z++g)/\∀i∈kvs.map 7e4,Z.length<i:=by
 have S:=h.m6;have Q:=c0 h;let b:aC:=Z++[.dct [] 0]
 obtain⟨bs,c,s1,n1,K,s,g,eM1⟩:=Bp (Z:=b) h;have lM0:b.length=Z.length+1:=by simp[b]
 have d1:DR 5e2 [] [] 0 c:=by
  rw[eM1];exact(DR.new (M:=Z) (g:=[])).app
 have T:(rg m).length=m:=lB;let d:aC:=c++[.lst ((W0 m).map uP)]
 have l:∀w∈W0 m,u2 m w/\w.1.length<=1:=λw H=>by
  obtain⟨p,hp,rfl⟩:=We.mp H;refine⟨⟨by simp,by simp,λq hq=>?_⟩,by simp⟩;rw[VR.mp hq];exact fH.mp hp
 have σ:(W0 m).length=m:=by unfold W0;rw[U1,T]
 have sF:Z.length∉b.length::bs:=λz=>by
  rcases Uh.mp z with z|z
  ·omega
  ·have:=s _ z;omega
 have m6:m*ks.length<=6*15:=YK S Q;obtain⟨kvs1,ep1,f,P,B,μ,G,O,u,a5,a6,J⟩:=ze (r0:=some 1e8) (r1:=some 11e4) (r5:=some (.int 0)) (r6:=none) (r7:=none) (V:=c.length) (M:=d) (W:=W0 m) h d1.app n1.app K aA (λw H=>⟨(l w H).1,by have:=(l w H).2;omega⟩) (by rw[σ];omega) (λe he=>by cases he) 0e9 sF (λi I=>by cases I);have g1:=nh ks (W0 m);rw[σ]at g1
 have X:∀w∈l7 ks (W0 m),u2 m w/\w.1.length<=2:=λw H=>by
  refine⟨Gd (m:=m) h.2.2.2.2 (λv r=>⟨(l v r).1,by have:=(l v r).2;omega⟩) w H,?_⟩;unfold l7 at H;obtain⟨v,r,H⟩:=Yh.mp H;unfold mf at H;obtain⟨e,_,rfl⟩:=We.mp H;have:=(l v r).2;simp;omega
 have el:(sf (l7 ks (W0 m))).length<=90:=by
  unfold sf;rw[U1];exact Ub (Yi _ _) 0e1
 have m7:(l7 ks (W0 m)).length*ks.length<=90*15:=YK 0e1 Q;obtain⟨kvs2,E,n,q6,q7,c1,c2,c3,c4,c5,c6,c7⟩:=ze (r0:=some 1e8) (r1:=some 11e4) (r5:=some (.int 1)) (r6:=P) (r7:=B) (V:=d.length) (M:=f) (W:=l7 ks (W0 m)) h (by rw[Vy]at G;exact G) O K u X 0e1 (Gh S λw H=>(X w H).1) 0e1 sF a5
 have gt:∀i∈kvs2.map 7e4,Z.length<i:=λi I=>by
  have l2:b.length<=d.length:=by rw[show d=c++_ from rfl,eM1];simp
  rcases c7 i I with z|z
  ·rcases J i z with y | y
   ·cases y
   ·omega
  ·have:d.length<f.length:=(Ul.mp u).1;omega
 refine⟨kvs2,E,n,?_,c2,?_,gt⟩
 ·unfold fg;rw[bS,show (some 1e8::some (D.int 2)::List.replicate (8-2) none:Ro)=[some 1e8,some 11e4,none,none,none,none,none,none] from rfl];unfold m2;rw[aG,aT,show ∀R,MF R Z=.ok 1e4 b from λ_=>rfl];dsimp[ae,bj,az,Yf,Yg];rw[aG,aT];dsimp[au,aq,av,ag,aa,s1,ae,bj,az,Yf,Yg];rw[aG,aT,bp,cH];dsimp[aq,av,aD,bg,ag,aa];rw[show ∀N,cM 1e8 (.int 0) N=.ok 5e6 N from λ_=>rfl,aa,aa,fv 0e1 0e1,aa,aV,sN]
  rw[bD (U:=Int) (en:=D.int) (src:=.fix 8e4) (g:=ai 0) (t:=a9) (e:=iJ) (Z1:=c) (q:=λ_=>true) (h:=λp=>uP ([p],0)) (λC=>∃o,C=[o]) 5e1 (us:=rg m) (acc:=[]) (ρ:=cD [none] [some 1e8,some 11e4,some 1e4,some (.obj b.length),none,none,none,none]) ⟨none,rfl⟩ (by rw[T];exact Ub (show 0+m<=1000 by omega) bH) (λx hx a C hR=>by
   obtain⟨o,rfl⟩:=hR;refine⟨[some 11e8],⟨_,rfl⟩,rfl,rfl,λ_=>?_⟩;unfold iJ;dsimp[cQ,aq,av,bg,ag,aa,VF,V8];rw[T1 (show 0+1<=sizeLine from l1)];dsimp[aa];rw[T1 (show ([D.tup _,D.int 0]:List D).length<=sizeLine from l2)]
   rfl),bz,Vy]
  rw[show (rg m).map (λp=>uP ([p],0))=(W0 m).map uP from by unfold W0;rw[V4];rfl];dsimp[ae,bj,az,Yf,Yg];rw[aG,fI,cH];dsimp[aq,av,aj,ag,aa];rw[fv 0e1 0e1,ae,aV,show bR 0 (2:Int).toNat=[.int 0,.int 1] from rfl];unfold dg;rw[T1 (show bK (.fix [D.int 0,D.int 1]) _ from trivial)];rw[show ai 5 (.int 0) [some 1e8,some 11e4,some 1e4,some (.obj b.length),some (.obj c.length),none,none,none] d=.ok [some 1e8,some 11e4,some 1e4,some (.obj b.length),some (.obj c.length),some (.int 0),none,none] d from rfl,ae,μ];rw[show ∀(k:Ro->aC->SO) R N,(SO.next R N).loop k=k R N from λ_ _ _=>rfl];unfold dg;rw[T1 (show bK (.fix [D.int 0,D.int 1]) _ from trivial)];rw[show ai 5 (.int 1) [some 1e8,some 11e4,some 1e4,some (.obj b.length),some 10e6,some (.int 0),P,B] f=.ok [some 1e8,some 11e4,some 1e4,some (.obj b.length),some 10e6,some (.int 1),P,B] f from rfl,ae,c1];rw[show ∀(k:Ro->aC->SO) R N,(SO.next R N).loop k=k R N from λ_ _ _=>rfl];unfold dg;rw[T1 (show bK (.fix [D.int 0,D.int 1]) _ from trivial),az,aS];dsimp[aj,ag,ae,aL];exact jQ 0e9
 ·refine ⟨n.drop 5e2, ?_⟩
  have:n.take 5e2=Z:=by
   apply X7;intro j;by_cases L:j<Z.length
   ·have l2 : Z.length < d.length := by rw [show d = c ++ _ from rfl, eM1]; simp; omega
    have l3:d.length<f.length:=(Ul.mp u).1
    rw[UY L,c6 j 0e1 (λz=>by
     rcases J j z with y|y
     ·cases y
     ·omega) 0e1,a6 j 0e1 (λz=>by cases z) 0e1]
    rw[show d=c++_ from rfl,eM1];rw[UW (by rw[U0];omega),UW 0e1];show (Z++_)[j]?=_;rw[UW L]
   ·rw[Xx (by rw[US];omega),Xx 0e1]
  conv=>lhs;rw[<- Wl 5e2 n,this]
end
end Lw
namespace Lv
def Sd(k:List Int):Prop:=∃a b:Int,k=[a,b]/\0<=a/\a<b/\b<6
def Jn(ks:List 0e5)(i:Nat)(p q:Int):Prop:=ks[i]?=some [p,q]\/ks[i]?=some [q,p]
theorem Cz:∀(ks:List 0e5)(j:Nat)(p:Int)(e:Int×Nat),e∈uR j ks p↔∃i k,ks[i]?=some k/\e∈sk (j+i) k p
 |[],j,p,e=>by simp[uR]
 |k::ks,j,p,e=>by
  dsimp[uR,Uj,Cz ks (j+1) p e];constructor
  ·rintro (h | ⟨i, K, H, c⟩)
   ·exact⟨0,k,rfl,h⟩
   ·exact⟨i+1,K,H,by rw[show j+(i+1)=j+1+i from by omega];exact c⟩
  ·rintro ⟨i, K, H, c⟩
   cases i with
   |zero=>cases H;exact .inl c
   |succ i=>exact .inr ⟨i,K,H,by rw[show j+1+i=j+(i+1) from by omega];exact c⟩
section
variable(hk:∀k∈ks,Sd k)
include hk
theorem jg(h:ks[i]?=some k):Sd k:=hk k (UZ h)
theorem xi{p:Int}:(q,i)∈uR 0 ks p↔Jn ks i p q:=by
 rw[Cz];constructor
 ·rintro ⟨I, k, H, c⟩
  obtain⟨a,b,rfl,d,f,g⟩:=jg hk H;unfold sk at c;rw[show vy [a,b]=a from rfl,show dm [a,b]=b from rfl,WB]at c;split at c
  ·rename_i e;rw[VR]at c;cases c;subst e;exact .inl H
  ·split at c
   ·rename_i e;rw[VR]at c;cases c;subst e;exact .inr H
   ·cases c
 ·rintro (h | h)
  ·obtain⟨a,b,e,d,f,g⟩:=jg hk h;cases e;refine⟨i,[p,q],h,?_⟩;unfold sk;rw[show vy [p,q]=p from rfl,T1 rfl,WB];exact VR.mpr rfl
  ·obtain⟨a,b,e,d,f,g⟩:=jg hk h;cases e;refine⟨i,[q,p],h,?_⟩;unfold sk;rw[show vy [q,p]=q from rfl,show dm [q,p]=p from rfl,T3 0e1,T1 rfl,WB];exact VR.mpr rfl
theorem Cd{p:Int}(h:Jn ks i p q):p≠q:=by
 rcases h with h|h
 ·obtain⟨a,b,e,d,H,f⟩:=jg hk h;cases e;omega
 ·obtain⟨a,b,e,d,H,f⟩:=jg hk h;cases e;omega
theorem xg{w:Wy}:w∈l7 ks (W0 m)↔∃p q i,p∈rg m/\Jn ks i p q/\w=([p,q],0 ||| 2^i):=by
 unfold l7 W0;rw[Yh];constructor
 ·rintro ⟨v, V, W⟩
  obtain⟨p,d,rfl⟩:=We.mp V;unfold mf at W;obtain⟨⟨q,i⟩,j,rfl⟩:=We.mp W;rw[T9]at j;exact⟨p,q,i,d,(xi hk).mp j.1,rfl⟩
 ·rintro ⟨p, q, i, d, D, rfl⟩
  refine⟨([p],0),We.mpr ⟨p,d,rfl⟩,?_⟩;unfold mf;refine We.mpr ⟨(q,i),?_,rfl⟩;rw[T9];refine⟨(xi hk).mpr D,?_⟩;have:=Cd hk D;simp;exact λz=>this z.symm
theorem FN{w:Wy}:w∈l7 ks (l7 ks (W0 m))↔∃p b q i j,p∈rg m/\Jn ks i p b/\Jn ks j b q/\q≠p/\w=([p,b,q],(0 ||| 2^i) ||| 2^j):=by
 rw[show l7 ks (l7 ks (W0 m))=(l7 ks (W0 m)).flatMap (mf ks) from rfl,Yh];constructor
 ·rintro ⟨v, V, W⟩
  obtain⟨p,b,i,d,D,rfl⟩:=(xg hk).mp V;unfold mf at W;obtain⟨⟨q,j⟩,h,rfl⟩:=We.mp W;rw[T9]at h;refine⟨p,b,q,i,j,d,D,(xi hk).mp h.1,?_,rfl⟩;have:=h.2;simp at this;exact this.1
 ·rintro ⟨p, b, q, i, j, d, D, H, n, rfl⟩
  refine⟨([p,b],0 ||| 2^i),(xg hk).mpr ⟨p,b,i,d,D,rfl⟩,?_⟩;unfold mf;refine We.mpr ⟨(q,j),?_,rfl⟩;rw[T9];refine⟨(xi hk).mpr H,?_⟩;have:=Cd hk H;simp;exact⟨n,λz=>this z.symm⟩
theorem oa:(k,c)∈EV m ks↔∃p q,p∈rg m/\p<q/\k=[p,q]/\((∃i,Jn ks i p q/\c=0 ||| 2^i)\/∃b i j,Jn ks i p b/\Jn ks j b q/\c=(0 ||| 2^i) ||| 2^j):=by
 unfold EV sf;rw[Uj,We,We];constructor
 ·rintro (⟨w, W, e⟩ | ⟨w, W, e⟩)
  ·rw[T9,Xy]at W;obtain⟨p,q,i,d,D,rfl⟩:=(xg hk).mp W.1;cases e;exact⟨p,q,d,W.2,rfl,.inl ⟨i,D,rfl⟩⟩
  ·rw[T9,Xy]at W;obtain⟨p,b,q,i,j,d,D,H,n,rfl⟩:=(FN hk).mp W.1;cases e;exact⟨p,q,d,W.2,rfl,.inr ⟨b,i,j,D,H,rfl⟩⟩
 ·rintro ⟨p, q, d, h, rfl, ⟨i, D, rfl⟩ | ⟨b, i, j, D, H, rfl⟩⟩
  ·refine .inl ⟨([p,q],0 ||| 2^i),?_,rfl⟩;rw[T9,Xy];exact⟨(xg hk).mpr ⟨p,q,i,d,D,rfl⟩,h⟩
  ·refine .inr ⟨([p,b,q],(0 ||| 2^i) ||| 2^j),?_,rfl⟩;rw[T9,Xy];exact⟨(FN hk).mpr ⟨p,b,q,i,j,d,D,H,by omega,rfl⟩,h⟩
theorem FB{p:Int}(h:Jn ks i p q):i<ks.length:=by
 rcases h with h|h
 ·exact(Ul.mp h).1
 ·exact(Ul.mp h).1
theorem Cj(h:(k,c)∈EV m ks):0<c/\c<2^ks.length:=by
 have one:∀i,i<ks.length->(2:Nat)^i<2^ks.length:=λi I=>Nat.pow_lt_pow_right 1e2 I;have pos:∀x i:Nat,0<x ||| 2^i:=λx i=>T6 (YL i) (Nat.right_le_or);obtain⟨p,q,d,t,rfl,⟨i,D,rfl⟩|⟨b,i,j,D,H,rfl⟩⟩:=(oa hk).mp h
 ·exact⟨pos _ _,YM (YL _) (one i (FB hk D))⟩
 ·exact⟨pos _ _,YM (YM (YL _) (one i (FB hk D))) (one j (FB hk H))⟩
end
def m5(c v:Nat):Bool:=(c &&& v) == v
theorem kj{v:Nat}:m5 c v=true↔∀b,v.testBit b=true->c.testBit b=true:=by
 unfold m5;rw[Yw];constructor
 ·intro h b B;rw[<- h,YN,Vf]at B;exact B.1
 ·intro h;apply YO;intro b;rw[YN];cases B:v.testBit b with
  |false=>simp
  |true=>rw[h b B];rfl
theorem vK{a b:Nat}:m5 c (a ||| b)=true↔m5 c a=true/\m5 c b=true:=by
 rw[kj,kj,kj];constructor
 ·intro h;exact⟨λi I=>h i (by rw[YQ,I];rfl),λi I=>h i (by rw[YQ,I,Bool.or_true])⟩
 ·rintro ⟨H, d⟩ i I
  rw[YQ,XU]at I;exact I.elim (H i) (d i)
theorem p0:m5 c (2^i)=true↔c.testBit i=true:=by
 rw[kj];constructor
 ·intro h;exact h i (by rw[YR];simp)
 ·intro h b B;rw[YR,Xy]at B;rw[<- B];exact h
theorem C5:m5 c 0=true:=by rw[kj];intro b B;simp at B
end Lv
namespace Lw
open PySem L2 RS Lv
theorem Lz(a b:Nat):Builtin.bitAnd (a:Int) (b:Int)=((a &&& b:Nat):Int):=by
 unfold Builtin.bitAnd;have H:decide (0<=(a:Int))=true:=VA 0e1;have c:decide (0<=(b:Int))=true:=VA 0e1;dsimp[H,c];rfl
theorem PF{a b:Nat}:Dz (nD a) (nD b) M=.ok (nD (a &&& b)) M:=by
 rw[show Dz (nD a) (nD b) M=.ok (.int (Builtin.bitAnd (a:Int) (b:Int))) M from sI,Lz]
theorem Le(c v:Nat):((((c &&& v:Nat):Int)) == ((v:Nat):Int))=m5 c v:=by
 unfold m5;apply Yp.mpr;rw[Yw,Yw];omega
section
variable{F A V C:Nat}{bs:List Nat}{es:List Wy}
theorem CH{vs:List Nat}(h:M[j]?=some (.lst (vs.map nD)))(i:vs.length<=100000):jL [nD c,.obj j] M=.ok (.bl (vs.any (m5 c))) M:=by
 unfold jL;rw[bS,show (some (nD c)::some (D.obj j)::List.replicate (2-2) none:Ro)=[some (nD c),some (.obj j)] from rfl];dsimp[wO];rw[aS,au,aq,bp];dsimp[ba,aj,ag,aa];rw[b8 h,aa,bw]
 rw[bD (U:=Nat) (en:=nD) (src:=.own j (vs.map nD)) (g:=ai 0) (t:=a9) (e:=mP) (Z1:=M) (q:=λ_=>true) (h:=λv=>.bl (m5 c v)) (λb=>∃o,b=[o,some (nD c)]) (λ_=>aI h) (us:=vs) (acc:=[]) (ρ:=cD [none,some 0] [some (nD c),some (.obj j)]) ⟨none,rfl⟩ (by dsimp[V8];exact Ub (show 0+vs.length<=100000 by omega) 1e2) (λx d a b hR=>by
  obtain⟨o,rfl⟩:=hR;refine⟨[some (nD x),some (nD c)],⟨_,rfl⟩,rfl,rfl,λ_=>?_⟩;unfold mP;dsimp[aD,aj,ag,aa];rw[PF,aa,jh,Le]
  rfl),bz,Vy]
 dsimp[aa,av];rw[De (bs:=vs.map (m5 c)) (by rw[aA,V4];rfl)];dsimp[ae,aL];rw[XI];exact cL 0e9
theorem Eb{a b:Int}(d:∀k∈ks,m8 m k):pQ true 6e8 3e9 M=.ok (.bl (!decide ([a,b]∈ks))) M:=by
 have e:=tJ (Z:=M) (a:=a) (b:=b) d;have E:nG M 6e8=some (.tuple [.int a,.int b]):=rfl
 have B:nG M 3e9=some (.tuple (ks.map ej)):=by
  dsimp[nG,qh d,Option.map_some]
 unfold pQ at e⊢;rw[E,B]at e⊢;dsimp only[sP]at e⊢;rw[T1 ⟨rfl,vY d⟩]at e⊢;dsimp[VE,U8,ah.ok.injEq,D.bl.injEq,YA]at e;dsimp[U9];rw[e]
theorem Mh{v:Nat}(h:0<v):∀M,(Mp (nD v) M).bind (λd N=>ke d (.int 1) N)=.ok (.int (v.log2:Int)) M:=λM=>by
 unfold Mp;dsimp only;rw[aa]
 have:Builtin.Int.intBits ((v:Nat):Int)=v.log2+1:=by
  unfold Builtin.Int.intBits;rw[T3 6e9];simp
 rw[this];rw[show ke (.int ((v.log2+1:Nat):Int)) (.int 1) M=.ok (.int (((v.log2+1:Nat):Int)-1)) M from sI];congr 2;omega
theorem F8{v:Nat}(d:0<v)(h:v<2^n):v.log2<n:=(Nat.log2_lt 0e1).mpr h
abbrev Dp(ps:List Nat):Nat->List D:=λt=>(ps.filter λv=>v.log2 == t).map nD
abbrev AH(ks:List 0e5)(F C:Nat)(o3 o4:Option D):Ro:=[some 3e9,some (.obj F),some (.obj C),o3,o4]
theorem Py{ps:List Nat}{v:Nat}{o3:Option D}(h:NL C bs (Dp ps) M)(f:bs.length=n)(H:0<v)(a:v<2^n)(l:ps.length<=100000):
  ∃b M',bs[v.log2]?=some b/\ic (AH ks F C o3 (some (nD v))) M=.next (AH ks F C o3 (some (nD v))) M'/\NL C bs (Dp (ps++[v])) M'/\∃o,M'=M.set b o:=by
 have t:=F8 H a
 obtain⟨b,M',k,B,G,x,c,g⟩:=h.push (p:=(v.log2:Int)) (d:=nD v) 0e1 0e1 (by
  rw[U6,U1]
  exact Ub (Yi _ _) 0e1)
 rw[U6]at k c g;refine⟨b,M',k,?_,c.ext λi I=>?_,_,g⟩
 ·unfold ic;rw[d5,qL,aD];dsimp[aj,ag,aa]
  rw[show aF ke (vA Mp (ao 4)) 2e6 (AH ks F C o3 (some (nD v))) M=.ok (.int (v.log2:Int)) M from by
   rw[aD,mj];dsimp[aj,ag,bg,aa]
   exact Mh H M]
  rw[aa,B,aa,G,T1 rfl];dsimp[aq,av,aj,ag,aa];rw[x];dsimp[ae]
 ·unfold AL Dp;rw[YF,Wo];by_cases e:i=v.log2
  ·subst e;simp
  ·rw [T3 e];have:(v.log2 == i)=false:=by simp;omega
   simp[this]
theorem Dj{j n:Nat}{all:List D}{o3:Option D}(B:bs.length=n)(J:j∉C::bs):∀(vs ps:List Nat)(M:aC)(o4:Option D),NL C bs (Dp ps) M->M[j]?=some (.lst all)->(∀v∈vs,0<v/\v<2^n)->ps.length+vs.length<=100000 ->
  ∃M' p4,dg (.own j all) (ai 4) ic (vs.map nD) (AH ks F C o3 o4) M=.next (AH ks F C o3 p4) M'/\NL C bs (Dp (ps++vs)) M'/\(∀i,i∉bs->M'[i]?=M[i]?)/\M'.length=4e1
 |[],ps,M,o4,h,hM,H,l=>by
  refine⟨M,o4,?_,by rw[UM];exact h,λ_ _=>rfl,rfl⟩;rw[Vh];unfold dg;rw[T1 (show bK (.own j all) _ from hM)]
 |v::vs,ps,M,o4,h,hM,H,l=>by
  dsimp[VF]at l;obtain⟨b,a,k,X,G,o,x⟩:=Py (ks:=ks) (F:=F) (o3:=o3) h B (H v 0e9).1 (H v 0e9).2 0e1;have c:b∈bs:=UZ k;have L:∀i,i∉bs->a[i]?=M[i]?:=λi I=>by rw[x,Uq (λz=>I (by rw[<- z];exact c))]
  obtain⟨M',p4,O,y,σ,d⟩:=Dj (all:=all) (o3:=o3) B J vs (ps++[v]) a (some (nD v)) G (by rw[L j (λz=>J (by simp[z]))];exact hM) (λw W=>H w (by simp[W])) 6e9;refine⟨M',p4,?_,by rw[Vr]at y;exact y,λi I=>(σ i I).trans (L i I),by rw[d,x];simp⟩;rw[Vi];unfold dg;rw[T1 (show bK (.own j all) _ from hM),show ai 4 (nD v) (AH ks F C o3 o4) M=.ok (AH ks F C o3 (some (nD v))) M from rfl,ae,X];exact O
theorem J6:∀k∈prs,k.length=2:=by decide +kernel
def yF(ks:List 0e5)(es:List Wy)(kvs:List 14e4):List Nat:=kvs.flatMap λp=>if p.1∈ks then [] else lU es p.1
theorem Dk{n:Nat}(K:∀k∈ks,m8 m k)(B:bs.length=n)(hF:F∉C::bs)(H:∀i∈kvs.map 7e4,i∉C::bs)(s:∀e∈es,e.1∈prs/\0<e.2/\e.2<2^n):∀(rs:List 14e4)(ps:List Nat)(M:aC)(o3 o4:Option D),NL C bs (Dp ps) M->DR F es kvs ep M->(∀p∈rs,p∈kvs)->ps.length+(yF ks es rs).length<=100000 ->
  ∃M' p3 p4,dg (.dks F kvs ep) (ai 3) fe (rs.map λp=>bc p.1) (AH ks F C o3 o4) M=.next (AH ks F C p3 p4) M'/\NL C bs (Dp (ps++yF ks es rs)) M'/\(∀i,i∉bs->M'[i]?=M[i]?)/\M'.length=4e1
 |[],ps,M,o3,o4,h,hD,R,l=>by
  refine⟨M,o3,o4,?_,by rw[show yF ks es []=[] from rfl,UM];exact h,λ_ _=>rfl,rfl⟩;rw[Vh];unfold dg;rw[T1 (show bK (.dks F kvs ep) _ from hD.at')]
 |p::rs,ps,M,o3,o4,h,hD,R,l=>by
  have P:=R p 0e9;have u:yF ks es (p::rs)=(if p.1∈ks then [] else lU es p.1)++yF ks es rs:=by unfold yF;rw[Yn]
  rw[u]at l⊢;rw[U0]at l;obtain⟨W,f⟩:=(hD.key p.1).mp (Wj P)
  obtain⟨a,b,E⟩:∃a b,p.1=[a,b]:=by
   have g:=J6 _ (s _ f).1
   match p.1,g with
   |[a,b],_=>exact⟨a,b,rfl⟩
  have J:=hD.val p P
  have step:∃d p4,fe (AH ks F C (some (bc p.1)) o4) M=.next (AH ks F C (some (bc p.1)) p4) d/\NL C bs (Dp (ps++if p.1∈ks then [] else lU es p.1)) d/\(∀i,i∉bs->d[i]?=M[i]?)/\d.length=M.length:=by
   have tst:il (aF (pQ true) (ao 3) 3e1) (AH ks F C (some (bc p.1)) o4) M=.ok (!decide (p.1∈ks)) M:=by
    dsimp[bW,aD,aj,ag,aa];rw[E];rw[show (bc [a,b])=.tup [.int a,.int b] from rfl,Eb K];dsimp[aa,aX]
   unfold fe;rw[bL,tst,ae];by_cases c:p.1∈ks
   ·rw[T1 c,VA c];refine⟨M,o4,?_,by rw[UM];exact h,λ_ _=>rfl,rfl⟩;dsimp[WK,VE,U8,bI]
   ·rw [T3 c, TY c];rw[T3 c]at l;obtain⟨d,p4,O,σ,X,μ⟩:=Dj (ks:=ks) (F:=F) (o3:=some (bc p.1)) (all:=(lU es p.1).map nD) B (H p.2 (Wj P)) (lU es p.1) ps M o4 h J (λv r=>(s _ (iL.mp r)).2) 0e1;refine⟨d,p4,?_,σ,X,μ⟩;dsimp[WT,U9];rw[fI];dsimp[ba,aD,aj,ag,aa]
    rw[show yP (.obj F) (bc p.1) M=.ok (.obj p.2) M from by
     unfold yP;dsimp only;rw[hD.at',i4];dsimp only
     rw[nj hD.kn P]]
    rw[aa,b8 J,ae,bw];exact O
  obtain⟨d,p4,S,N,U,w⟩:=step
  have hD1:DR F es kvs ep d:=hD.keep λj J o e=>by
   rw[U j]
   ·exact e
   ·intro z;rcases J with rfl|J
    ·exact hF (by simp[z])
    ·exact H j J (by simp[z])
  obtain⟨M',L,G,T,t,x,y⟩:=Dk K B hF H s rs _ d (some (bc p.1)) p4 N hD1 (λq Q=>R q (by simp[Q])) (by rw[U0];omega);refine⟨M',L,G,?_,by rw[Vr]at t;exact t,λi I=>(x i I).trans (U i I),y.trans w⟩;rw[Vi];unfold dg;rw[T1 (show bK (.dks F kvs ep) _ from hD.at'),show ai 3 (bc p.1) (AH ks F C o3 o4) M=.ok (AH ks F C (some (bc p.1)) o4) M from rfl,ae,S];exact T
end
end Lw
namespace Lv
def oE(vs:List Nat):Nat:=(vs.foldl max 0).log2
noncomputable def Qe(ks:List 0e5)(es:List Wy)(t c:Nat):Bool:=es.any λe=>!decide (e.1∈ks)&&(e.2.log2 == t)&&m5 c e.2
noncomputable def stB(ks:List 0e5)(es:List Wy)(t c:Nat):Bool:=ks.all λk=>!(oE (lU es k) == t) || (lU es k).any (m5 c)
noncomputable def Du(ks:List 0e5)(es:List Wy)(t:Nat)(s:List Nat):List Nat:=(s++(s.map λc=>c ||| 2^t).filter λc=>!Qe ks es t c).filter (stB ks es t)
def nH(ks:List 0e5)(es:List Wy):Nat->List Nat
 |0=>[0]
 |t+1=>Du ks es t (nH ks es t)
theorem xm{t:Nat}(h:c<2^t):c ||| 2^t=c+2^t:=by
 rw[Nat.or_comm,Nat.add_comm];have:=Nat.two_pow_add_eq_or_of_lt h 1;rw[Nat.mul_one]at this;exact this.symm
theorem Jm{v t:Nat}(H:2^t<=v)(c:v<2^(t+1)):v.testBit t=true:=by
 rw[YS,Xy]
 have:v / 2^t=1:=by
  rw[YG]at c;apply Nat.div_eq_of_lt_le
  ·omega
  ·omega
 rw[this]
theorem KW{v t:Nat}(H:2^t<=v)(c:v<2^(t+1)):v.log2=t:=by
 have V:v≠0:=by have:=YL t;omega
 have a:v.log2<t+1:=(Nat.log2_lt V).mpr c;have b:t<=v.log2:=(Nat.le_log2 V).mpr H;omega
theorem Gn{v b t:Nat}(h:v<2^t)(B:v.testBit b=true):b<t:=by
 apply Decidable.byContradiction;intro n;have:v<2^b:=T6 h (YH 1e2 0e1);rw[YT this]at B;cases B
theorem Lc{v x:Nat}(h:m5 c v=true):m5 (c ||| x) v=true:=by
 rw[kj]at h⊢;intro b B;rw[YQ,h b B];rfl
theorem Ld{v t:Nat}(V:v<2^t)(h:m5 (c ||| 2^t) v=true):m5 c v=true:=by
 rw[kj]at h⊢;intro b B;have:=h b B;rw[YQ,YR,XU,Xy]at this;rcases this with z|z
 ·exact z
 ·have:=Gn V B;omega
section
variable{es:List Wy}
theorem ji:∀t,∀c∈nH ks es t,c<2^t
 |0,c,h=>by simp[nH]at h;subst h;decide
 |t+1,c,h=>by
  unfold nH Du at h;have h:=(T9.mp h).1;rw[YG];rcases Uj.mp h with h|h
  ·have:=ji t c h;omega
  ·obtain⟨d,D,rfl⟩:=We.mp (T9.mp h).1;have:=ji t d D;rw[xm this];omega
theorem sS:∀t,(nH ks es t).Pairwise (·<·)
 |0=>List.pairwise_singleton _ _
 |t+1=>by
  unfold nH Du;refine Yj _ ?_;rw[Wm];refine⟨sS t,Yj _ (XQ.mpr ?_),λa n b B=>?_⟩
  ·refine(sS t).imp_of_mem λn B h=>?_;rw[xm (ji t _ n),xm (ji t _ B)];omega
  ·obtain⟨d,D,rfl⟩:=We.mp (T9.mp B).1;have:=ji t a n;rw[xm (ji t d D)];omega
theorem qr(s:∀e∈es,0<e.2):∀t,∀c∈nH ks es t,(∀e∈es,e.1∉ks->e.2<2^t->m5 c e.2=false)/\∀k∈ks,oE (lU es k)<t->∃v∈lU es k,m5 c v=true
 |0,c,h=>⟨λe j _ i=>by have:=s e j;simp at i;omega,λk _ i=>by omega⟩
 |t+1,c,h=>by
  unfold nH Du at h;rw[T9]at h;obtain⟨h,T⟩:=h;unfold stB at T;rw[WI]at T
  have now:∀k∈ks,oE (lU es k)=t->∃v∈lU es k,m5 c v=true:=λk H e=>by
   have:=T k H;rw[e]at this;simpa using this
  rcases Uj.mp h with h|h
  ·obtain ⟨a, b⟩ := qr s t c h;have f:=ji t c h;refine⟨λe j n i=>?_,λk H i=>?_⟩
   ·by_cases z : e.2 < 2 ^ t
    ·exact a e j n z
    ·cases I : m5 c e.2 with
     |false=>rfl
     |true=>
      have:=Gn f (kj.mp I t (Jm 0e1 i));omega
   ·by_cases z : oE (lU es k) < t
    ·exact b k H z
    ·exact now k H 0e1
  ·rw [T9] at h;obtain⟨h,l⟩:=h;obtain⟨d,D,rfl⟩:=We.mp h;obtain⟨a,b⟩:=qr s t d D;refine⟨λe j n i=>?_,λk H i=>?_⟩
   ·cases I : m5 (d ||| 2 ^ t) e.2 with
    |false=>rfl
    |true=>
     by_cases z:e.2<2^t
     ·have:=a e j n z;rw[Ld z I]at this;cases this
     ·exfalso
      have:Qe ks es t (d ||| 2^t)=true:=by
       unfold Qe;rw[Yq];refine⟨e,j,?_⟩;rw[TY n,KW 0e1 i,I];simp
      rw[this]at l;cases l
   ·by_cases z : oE (lU es k) < t
    ·obtain⟨v,V,e⟩:=b k H z;exact⟨v,V,Lc e⟩
    ·exact now k H 0e1
end
end Lv
namespace Lw
open PySem L2 RS Lv
section
variable{F A V C:Nat}{bs:List Nat}{es:List Wy}
theorem F3{M':aC}(h:∀j,j<Z.length->M'[j]?=Z[j]?):∃g,M'=Z++g:=by
 refine⟨M'.drop 5e2,?_⟩
 have:M'.take 5e2=Z:=by
  apply X7;intro j;by_cases D:j<Z.length
  ·rw[UY D,h j D]
  ·rw[Xx (by rw[US];omega),Xx 0e1]
 conv=>lhs;rw[<- Wl 5e2 M',this]
theorem DR.lt(h:DR F es kvs ep M):∀i∈kvs.map 7e4,i<M.length:=λi I=>by
 obtain⟨p,d,rfl⟩:=We.mp I;exact(Ul.mp (h.val p d)).1
theorem xj:∀b∈(List.range n).map (λi=>Z.length+1+i),Z.length<b:=λb B=>by
 obtain⟨i,_,rfl⟩:=We.mp B;omega
theorem GO(H:∀k∈ks,m8 m k)(l:ks.length<=15)(hD:DR F es kvs ep Z)(s:∀e∈es,e.1∈prs/\0<e.2/\e.2<2^ks.length)(U:(yF ks es kvs).length<=100000) :
  ∃bs g,hW [.tup 0e8,.obj F] Z=.ok 1e4 (Z++g)/\NL 5e2 bs (Dp (yF ks es kvs)) (Z++g)/\bs.length=ks.length/\(∀b∈bs,Z.length<b):=by
 let a:aC:=Z++.lst ((List.range 7e7).map λi=>D.obj (Z.length+1+i))::List.replicate 7e7 (.lst [])
 let bs:List Nat:=(List.range 7e7).map λi=>Z.length+1+i
 have B:bs.length=ks.length:=by simp[bs]
 have Flt:F<Z.length:=(Ul.mp hD.at').1
 have big:∀i,i<Z.length->i∉Z.length::bs:=λi I z=>by
  rcases Uh.mp z with z|z
  ·omega
  ·have:=xj i z;omega
 obtain⟨c,o,q,T,t,f,y⟩:=Dk (ks:=ks) (F:=F) (C:=5e2) (bs:=bs) (es:=es) (kvs:=kvs) (ep:=ep) H B (big F Flt) (λi I=>big i (hD.lt i I)) s kvs [] a none none (xG (n:=7e7)) hD.app (λp P=>P) (by simpa using U)
 obtain⟨g,rfl⟩:=F3 (Z:=Z) (M':=c) λj h=>by
  rw[f j (λz=>big j h (by simp[z]))];exact UW h
 refine⟨bs,g,?_,by rw[Vy]at t;exact t,B,xj⟩;unfold hW;rw[bS,show (some (D.tup 0e8)::some (D.obj F)::List.replicate (5-2) none:Ro)=[some 3e9,some (.obj F),none,none,none] from rfl];unfold pK;rw[aG,aT,bp];dsimp[ba,ag,aa,jx,aV];rw[qk (g:=ai 0) (e:=m1) (src:=.fix 0e8) (xs:=ks.map aw) (Z:=Z) 5e1 (λx d M=>⟨_,rfl⟩) (λd M=>lF d M) (by rw[U1];omega),U1];dsimp[ae,bj,az,Yf,Yg];rw[aG,fI]
 rw[show R1 5e4 [some 3e9,some (.obj F),some 1e4,none,none] a=.ok (.dks F kvs ep) a from by
  unfold R1;dsimp[aj,ag,aa];unfold Fo;dsimp only
  rw[show a[F]?=some (.dct kvs ep) from aI hD.at']]
 rw[ae,show (n3.dks F kvs ep).items=kvs.map λp=>bc p.1 from rfl];rw[show dg (.dks F kvs ep) (ai 3) fe (kvs.map λp=>bc p.1) (AH ks F 5e2 none none) a=_ from T,az,aS];dsimp[aj,ag,ae,aL];exact jQ 0e9
theorem nq:∀(vs:List Nat)(x:Nat),(∀v∈vs,v<=vs.foldl max x)/\x<=vs.foldl max x/\(vs.foldl max x=x\/vs.foldl max x∈vs)
 |[],x=>by simp
 |v::vs,x=>by
  obtain⟨H,c,d⟩:=nq vs (max x v);refine⟨λw W=>?_,?_,?_⟩
  ·rcases Uh.mp W with rfl | W
   ·exact Ub (Nat.le_max_right _ _) c
   ·exact H w W
  ·exact Ub (Nat.le_max_left _ _) c
  ·rw [Vs];rcases d with d|d
   ·rw [d];rcases Nat.le_total x v with z|z
    ·right;rw[Nat.max_eq_right z];simp
    ·left;exact Nat.max_eq_left z
   ·right;simp[d]
theorem C0:∀(vs:List Nat)(x:Nat),(vs.map λv:Nat=>(v:Int)).foldl max (x:Int)=((vs.foldl max x:Nat):Int)
 |[],x=>rfl
 |v::vs,x=>by
  rw[Vi,Vs,Vs,<- C0 vs (max x v)];congr 1;omega
theorem OR{v:Nat}{vs:List Nat}(h:M[j]?=some (.lst ((v::vs).map nD))):n5 [.obj j] M=.ok (nD ((v::vs).foldl max 0)) M:=by
 unfold n5;dsimp only;unfold E6;dsimp only;rw[h];dsimp only;rw[show (v::vs).map nD=(((v::vs).map λw:Nat=>(w:Int))).map D.int from by rw[V4];rfl,i4];rw[Vi];dsimp only;rw[show Mt ((v:Int)::vs.map λw:Nat=>(w:Int))=_ from C0 vs v,Vs,Nat.zero_max]
abbrev ET(ps:List (Nat×Nat)):Nat->List D:=λt=>(ps.filter λp=>p.2 == t).map λp=>D.obj p.1
abbrev LG(J C:Nat)(o2:Option D):Ro:=[some (.obj J),some (.obj C),o2]
def Mk(n:Nat)(M:aC)(p:Nat×List Nat):Prop:=M[p.1]?=some (.lst (p.2.map nD))/\p.2≠[]/\∀v∈p.2,0<v/\v<2^n
theorem QO{vs:List Nat}(H:vs≠[])(h:∀v∈vs,0<v/\v<2^n):0<vs.foldl max 0/\oE vs<n:=by
 obtain⟨a,c,d⟩:=nq vs 0;cases vs with
 |nil=>exact absurd rfl H
 |cons v r=>
  have p:0<(v::r).foldl max 0:=T6 (h v 0e9).1 (a v 0e9);refine⟨p,F8 p ?_⟩;rcases d with d|d
  ·omega
  ·exact(h _ d).2
theorem CN{J n:Nat}{all:List D}(s:bs.length=n)(hJ:J∉C::bs):∀(rs:List (Nat×List Nat))(ps:List (Nat×Nat))(M:aC)(o2:Option D),NL C bs (ET ps) M->M[J]?=some (.lst all)->(∀p∈rs,Mk n M p/\p.1∉C::bs)->ps.length+rs.length<=100000 ->
  ∃M' p2,dg (.own J all) (ai 2) e9 (rs.map λp=>D.obj p.1) (LG J C o2) M=.next (LG J C p2) M'/\NL C bs (ET (ps++rs.map λp=>(p.1,oE p.2))) M'/\(∀i,i∉bs->M'[i]?=M[i]?)/\M'.length=4e1
 |[],ps,M,o2,h,hM,R,l=>by
  refine⟨M,o2,?_,by simpa using h,λ_ _=>rfl,rfl⟩;rw[Vh];unfold dg;rw[T1 (show bK (.own J all) _ from hM)]
 |p::rs,ps,M,o2,h,hM,R,l=>by
  dsimp[VF]at l;obtain⟨⟨K,c,t⟩,P⟩:=R p 0e9;obtain⟨T,U⟩:=QO c t
  obtain⟨b,a,k,X,G,w,x,g⟩:=h.push (p:=(oE p.2:Int)) (d:=.obj p.1) 0e1 0e1 (by
   rw[U6,U1]
   exact Ub (Yi _ _) 0e1)
  rw[U6]at k x g;have B:b∈bs:=UZ k;have L:∀i,i∉bs->a[i]?=M[i]?:=λi I=>by rw[g,Uq (λz=>I (by rw[<- z];exact B))]
  have S:e9 (LG J C (some (.obj p.1))) M=.next (LG J C (some (.obj p.1))) a:=by
   unfold e9;rw[d5,qL,aD];dsimp[aj,ag,aa]
   rw[show aF ke (vA Mp (ax n5 4e9)) 2e6 (LG J C (some (.obj p.1))) M=.ok (.int (oE p.2:Int)) M from by
    rw[aD,mj,au];dsimp[aq,av,aj,ag,bg,aa]
    rw[show n5 [.obj p.1] M=.ok (nD (p.2.foldl max 0)) M from by
     cases H:p.2 with
     |nil=>exact absurd H c
     |cons v r=>rw[H]at K;exact OR K]
    rw[aa]
    exact Mh T M]
   rw[aa,X,aa,G,T1 rfl];dsimp[aq,av,aj,ag,aa];rw[w];dsimp[ae]
  have N:NL C bs (ET (ps++[(p.1,oE p.2)])) a:=x.ext λi I=>by
   unfold AL ET;rw[YF,Wo];by_cases e:i=oE p.2
   ·subst e;simp
   ·rw [T3 e];have:(oE p.2 == i)=false:=by simp;omega
    simp[this]
  obtain⟨M',p2,O,y,σ,E⟩:=CN (all:=all) s hJ rs (ps++[(p.1,oE p.2)]) a (some (.obj p.1)) N (by rw[L J (λz=>hJ (by simp[z]))];exact hM) (λq Q=>by
   obtain⟨⟨f,j,o⟩,u⟩:=R q (by simp[Q])
   exact⟨⟨by rw[L q.1 (λz=>u (by simp[z]))];exact f,j,o⟩,u⟩) 6e9
  refine⟨M',p2,?_,by rw[Vr]at y;exact y,λi I=>(σ i I).trans (L i I),by rw[E,g];simp⟩;rw[Vi];unfold dg;rw[T1 (show bK (.own J all) _ from hM),show ai 2 (.obj p.1) (LG J C o2) M=.ok (LG J C (some (.obj p.1))) M from rfl,ae,S];exact O
theorem Bq{J:Nat}{rs:List (Nat×List Nat)}(hJ:Z[J]?=some (.lst (rs.map λp=>D.obj p.1)))(R:∀p∈rs,Mk n Z p)(H:rs.length=n)(h15:n<=15):
  ∃bs g,g7 [.obj J] Z=.ok 1e4 (Z++g)/\NL 5e2 bs (ET (rs.map λp=>(p.1,oE p.2))) (Z++g)/\bs.length=n/\(∀b∈bs,Z.length<b):=by
 let a:aC:=Z++.lst ((List.range n).map λi=>D.obj (Z.length+1+i))::List.replicate n (.lst [])
 let bs:List Nat:=(List.range n).map λi=>Z.length+1+i
 have B:bs.length=n:=by simp[bs]
 have big:∀i,i<Z.length->i∉Z.length::bs:=λi I z=>by
  rcases Uh.mp z with z|z
  ·omega
  ·have:=xj i z;omega
 have Jlt:J<Z.length:=(Ul.mp hJ).1
 obtain⟨c,l,O,y,σ,o⟩:=CN (J:=J) (C:=5e2) (bs:=bs) (all:=rs.map λp=>D.obj p.1) B (big J Jlt) rs [] a none (xG (n:=n)) (aI hJ) (λp P=>by
  obtain⟨d,k,r⟩:=R p P
  exact⟨⟨aI d,k,r⟩,big _ (Ul.mp d).1⟩) 6e9
 obtain⟨g,rfl⟩:=F3 (Z:=Z) (M':=c) λj h=>by
  rw[σ j (λz=>big j h (by simp[z]))];exact UW h
 refine⟨bs,g,?_,by rw[Vy]at y;exact y,B,xj⟩;unfold g7;rw[bX,show (some (D.obj J)::List.replicate (3-1) none:Ro)=[some (.obj J),none,none] from rfl];unfold pG;rw[aG,aT,bp];dsimp[ba,ag,aa];rw[b8 hJ,aa,bw];rw[qk (g:=ai 0) (e:=mZ) (src:=.own J (rs.map λp=>D.obj p.1)) (xs:=rs.map λp=>D.obj p.1) (Z:=Z) (λ_=>aI hJ) (λx f M=>⟨_,rfl⟩) (λf M=>lF f M) (by rw[U1];omega),U1,H];dsimp[ae,bj,az,Yf,Yg];rw[aG,fI];dsimp[ba,ag,aa];rw[b8 (show a[J]?=_ from aI hJ),ae,bw];rw[show dg (.own J (rs.map λp=>D.obj p.1)) (ai 2) e9 (rs.map λp=>D.obj p.1) (LG J 5e2 none) a=_ from O,az,aS];dsimp[aj,ag,ae,aL];exact jQ 0e9
end
theorem pf{U:Type}{en:U->D}{src:n3}{g:MG}{t:MT}{e:ME}{M0:aC}{q:U->Bool}{h:U->D}(R:Ro->Prop)(G:∀a s,bK src (M0++.lst a::s)) :
  ∀{us:List U}{acc:List D}{ρ:Ro}{s:aC},R ρ->acc.length+us.length<=sizeLine->(∀x∈us,∀a s ρ,R ρ->∃ρ1 s1,R ρ1/\g (en x) ρ (M0++.lst a::s)=.ok ρ1 (M0++.lst a::s)/\t ρ1 (M0++.lst a::s)=.ok (q x) (M0++.lst a::s1)/\(q x=true->e ρ1 (M0++.lst a::s1)=.ok (h x) (M0++.lst a::s1))) ->
   ∃s',compLoop src M0.length g t e (us.map en) ρ (M0++.lst acc::s)=.ok (.obj M0.length) (M0++.lst (acc++(us.filter q).map h)::s')
 |[],acc,ρ,s,r,l,j=>by
  refine⟨s,?_⟩;rw[Vh];unfold compLoop;rw[T1 (G acc s)];simp
 |x::X,acc,ρ,s,r,l,j=>by
  obtain⟨ρ1,s1,r1,d,E,b⟩:=j x Ue acc s ρ r;have m:=λy σ=>j y (Ug _ σ);dsimp[VF]at l;cases z:q x with
  |false=>
   obtain⟨s',i⟩:=pf R G (us:=X) (acc:=acc) (s:=s1) r1 0e1 m;refine⟨s',?_⟩;rw[Vi];unfold compLoop;rw[T1 (G acc s),d];dsimp[af,aa];rw[E];dsimp[af,aa];rw[z,T3 UA,i,XX,z];rfl
  |true=>
   obtain⟨s',i⟩:=pf R G (us:=X) (acc:=acc++[h x]) (s:=s1) r1 6e9 m;refine⟨s',?_⟩;rw[Vi];unfold compLoop;rw[T1 (G acc s),d];dsimp[af,aa];rw[E];dsimp[af,aa];rw[z,T1 rfl,b z];dsimp[af,aa];rw[jJ 0e1];dsimp[aa,af];rw[i,XX,z];simp
noncomputable def P5(ps:List Nat)(rs:List (Nat×List Nat))(t:Nat)(s:List Nat):List Nat:=
 (s++(s.map λc=>c ||| 2^t).filter λc=>!((ps.filter λv=>v.log2 == t).any (m5 c))).filter λc=>(rs.filter λp=>oE p.2 == t).all λp=>p.2.any (m5 c)
section
variable{C S:Nat}{cb sb:List Nat}{ps:List Nat}{rs:List (Nat×List Nat)}{B g:aC}{r0 r1 r3 r4 o9 o10:Option D}
abbrev PV(r0 r1 r3 r4:Option D)(C S H t:Nat)(o9 o10:Option D):Ro:=[r0,r1,some (.tup []),r3,r4,some (.obj C),some (.obj S),some (.obj H),some 9e3,o9,o10]
theorem C7{a b:Nat}(H:M[a]?=some (O.lst xs))(c:M[b]?=some (O.lst ys))(i:xs.length+ys.length<=1000000):kh (.obj a) (.obj b) M=.ok (.obj a) (M.set a (O.lst (xs++ys))):=by
 unfold kh;dsimp only;rw[H,c];dsimp only;rw[T1 (Ub i 1e2)]
theorem Ls{M0 s:aC}{a:List D}{t:Nat}(hS:NL S sb (ET (rs.map λp=>(p.1,oE p.2))) M0)(R:∀p∈rs,M0[p.1]?=some (O.lst (p.2.map nD))/\p.2.length<=100000)(l:sb.length=n)(J:t<n)(i:rs.length<=100000):
  ∃s1,e8 [some (nD c),some (.obj S),some 9e3] (M0++O.lst a::s)=.ok ((rs.filter λp=>oE p.2 == t).all λp=>p.2.any (m5 c)) (M0++O.lst a::s1):=by
 let M:aC:=M0++O.lst a::s
 obtain⟨b,k,x,G⟩:=(hS.app (g:=O.lst a::s)).ix (p:=(t:Int)) 0e1 0e1;rw[U6]at k G;let Q:=rs.filter λp=>oE p.2 == t
 have e:ET (rs.map λp=>(p.1,oE p.2)) t=Q.map λp=>D.obj p.1:=by
  unfold ET;rw[Yk,V4];rfl
 rw[e]at G;have L:Q.length<=100000:=Ub (Yi _ _) i
 have f:=bD (U:=Nat×List Nat) (en:=λp=>D.obj p.1) (src:=.own b (Q.map λp=>D.obj p.1)) (g:=ai 0) (t:=a9) (e:=j7) (Z1:=M) (q:=λ_=>true) (h:=λp=>.bl (p.2.any (m5 c))) (λd=>∃o,d=[o,some (nD c)]) (λ_=>aI G) (us:=Q) (acc:=[]) (ρ:=cD [none,some 0] [some (nD c),some (.obj S),some 9e3]) ⟨none,rfl⟩ (by dsimp[V8];exact Ub (show 0+Q.length<=100000 by omega) 1e2) (λp H A d hR=>by
  obtain⟨o,rfl⟩:=hR;refine⟨[some (.obj p.1),some (nD c)],⟨_,rfl⟩,rfl,rfl,λ_=>?_⟩;unfold j7;dsimp[au,aq,av,aj,ag,aa];obtain⟨K,j⟩:=R p (T9.mp H).1
  exact CH (aI (aI K)) j)
 rw[bz,Vy]at f;refine⟨s++[O.lst (Q.map λp=>.bl (p.2.any (m5 c)))],?_⟩;unfold e8;rw[dQ,au,aq,bp];dsimp[ba,aD,aj,ag,aa];rw[x,aa,b8 G,aa,bw,f];dsimp[aa,av];rw[gf (bs:=Q.map λp=>p.2.any (m5 c)) (by rw[aA,V4];rfl)];dsimp[aa,cG,XH,M,Vr,Wa];rfl
theorem Lu{H t:Nat}{cs:List Nat}(hC:NL C cb (Dp ps) B)(μ:cb.length=n)(hS:NL S sb (ET (rs.map λp=>(p.1,oE p.2))) B)(m:sb.length=n)(y:∀p∈rs,B[p.1]?=some (O.lst (p.2.map nD))/\p.2.length<=100000)(L:ps.length<=100000)(j:rs.length<=100000)(V:t<n)(h15:t<=15)
  (hH:(B++g)[H]?=some (O.lst (cs.map nD))) (hl:cs.length<=100000) :
  ∃g' H' p9 p10,ff (PV r0 r1 r3 r4 C S H t o9 o10) (B++g)=.next (PV r0 r1 r3 r4 C S H' t p9 p10) (B++g')/\(B++g')[H']?=some (O.lst ((P5 ps rs t cs).map nD))/\B.length<=H':=by
 let G:=(B++g).length
 have hHl:H<(B++g).length:=(Ul.mp hH).1;let E:aC:=(B++g)++[O.lst []]
 let d:aC:=(B++g)++[O.lst (cs.map nD)]
 have F:kh (.obj G) (.obj H) E=.ok (.obj G) d:=by
  rw[C7 (xs:=[]) (ys:=cs.map nD) aA (aI hH) (by rw[V8,U1];omega)];rw[Vy,XW _ _ 6e3,Wz];rfl
 let l:=cs.map λc=>c ||| 2^t
 have lgl:l.length=cs.length:=by simp[l]
 have hH2:d[H]?=some (O.lst (cs.map nD)):=aI hH
 have u:=bD (U:=Nat) (en:=nD) (src:=.own H (cs.map nD)) (g:=ai 0) (t:=a9) (e:=ie) (Z1:=d) (q:=λ_=>true) (h:=λc=>nD (c ||| 2^t)) (λf=>∃o,f=[o,some 9e3]) (λ_=>aI hH2) (us:=cs) (acc:=[]) (ρ:=[none,some 9e3]) ⟨none,rfl⟩ (by dsimp[V8];exact Ub (show 0+cs.length<=100000 by omega) 1e2) (λx X a f hR=>by
  obtain⟨o,rfl⟩:=hR;refine⟨[some (nD x),some 9e3],⟨_,rfl⟩,rfl,rfl,λ_=>?_⟩;unfold ie;dsimp[aD,aj,ag,bg,aa]
  rw[FX h15,aa,L5])
 rw[bz,Vy,show (cs.map λc=>nD (c ||| 2^t))=l.map nD from by rw[V4];rfl]at u;let i:aC:=d++[O.lst (l.map nD)]
 have hL3:i[d.length]?=some (O.lst (l.map nD)):=aA;let Q:Nat->Bool:=λc=>!((ps.filter λv=>v.log2 == t).any (m5 c))
 have hC3:NL C cb (Dp ps) i:=by
  show NL C cb (Dp ps) ((B++g)++[O.lst (cs.map nD)]++[O.lst (l.map nD)]);exact hC.app.app.app
 have c2:=bD (U:=Nat) (en:=nD) (src:=.own d.length (l.map nD)) (g:=ai 0) (t:=ib) (e:=j8) (Z1:=i) (q:=Q) (h:=nD) (λf=>∃o,f=[o,some (.obj C),some 9e3]) (λ_=>aI hL3) (us:=l) (acc:=[]) (ρ:=[none,some (.obj C),some 9e3]) ⟨none,rfl⟩ (by dsimp[V8];exact Ub (show 0+l.length<=100000 by omega) 1e2) (λx X a f hR=>by
  obtain⟨o,rfl⟩:=hR;refine⟨[some (nD x),some (.obj C),some 9e3],⟨_,rfl⟩,rfl,?_,λ_=>rfl⟩;obtain⟨b,k,x1,A⟩:=(hC3.app (g:=[O.lst a])).ix (p:=(t:Int)) 0e1 0e1;rw[U6]at k A;unfold ib;rw[dG,dQ,au];dsimp[aq,av,aD,aj,ag,aa];rw[x1];dsimp[aa];rw[CH (vs:=ps.filter λv=>v.log2 == t) A (Ub (Yi _ _) L)];dsimp[aa,cG]
  rfl)
 rw[Vy]at c2;let I:aC:=i++[O.lst ((l.filter Q).map nD)]
 have hG3:i[G]?=some (O.lst (cs.map nD)):=aI aA;have ql:(l.filter Q).length<=100000:=Ub (Yi _ _) 0e1;let r:=cs++l.filter Q
 let M:aC:=(B++g)++[O.lst (r.map nD)]++[O.lst (l.map nD)]++[O.lst ((l.filter Q).map nD)]
 have W:kh (.obj G) (.obj i.length) I=.ok (.obj G) M:=by
  rw[C7 (xs:=cs.map nD) (ys:=(l.filter Q).map nD) (aI hG3) aA (by rw[U1,U1];omega)];rw[<- Wo];congr 1;show ((B++g)++[O.lst (cs.map nD)]++[O.lst (l.map nD)]++[O.lst ((l.filter Q).map nD)]).set G _=_;dsimp[Vr];rw[<- Vr B g,XW _ _ 6e3,Wz];simp[M,r]
 have hG5:M[G]?=some (O.lst (r.map nD)):=aI (aI aA);have grl:r.length<=200000:=by rw[U0];omega
 have hS5:NL S sb (ET (rs.map λp=>(p.1,oE p.2))) M:=by
  show NL S sb _ ((B++g)++[O.lst (r.map nD)]++[O.lst (l.map nD)]++[O.lst ((l.filter Q).map nD)]);exact hS.app.app.app.app
 obtain⟨z,w⟩:=pf (U:=Nat) (en:=nD) (src:=.own G (r.map nD)) (g:=ai 0) (t:=e8) (e:=j6) (M0:=M) (q:=λc=>(rs.filter λp=>oE p.2 == t).all λp=>p.2.any (m5 c)) (h:=nD) (λf=>∃o,f=[o,some (.obj S),some 9e3]) (λ_ _=>aI hG5) (us:=r) (acc:=[]) (ρ:=[none,some (.obj S),some 9e3]) (s:=[]) ⟨none,rfl⟩ (by dsimp[V8];exact Ub (show 0+r.length<=200000 by omega) 1e2) (λx X a s f hR=>by
  obtain⟨o,rfl⟩:=hR;obtain⟨s1,J⟩:=Ls (a:=a) (s:=s) (c:=x) hS5 (λp P=>⟨aI (aI (aI (aI (y p P).1))),(y p P).2⟩) m V j
  exact⟨[some (nD x),some (.obj S),some 9e3],s1,⟨_,rfl⟩,rfl,J,λ_=>rfl⟩)
 rw[Vy]at w
 have eM:M++O.lst ((P5 ps rs t cs).map nD)::z=B++(g++[O.lst (r.map nD)]++[O.lst (l.map nD)]++[O.lst ((l.filter Q).map nD)]++O.lst ((P5 ps rs t cs).map nD)::z):=by
  simp[M]
 refine⟨_,4e1,some (.obj G),some 10e6,?_,by rw[<- eM];exact aA,by simp[M]⟩;rw[<- eM]
 have T:∀(R:Ro)(N:aC),R[2]?=some (some (.tup []))->R[8]?=some (some 9e3)->il (aF (d0 .GtE) (ao 8) (ax ik 4e9)) R N=.ok true N:=λR N K σ=>by
  have v2:ao 2 R N=.ok (.tup []) N:=by unfold ao;rw[K]
  have v8:ao 8 R N=.ok 9e3 N:=by unfold ao;rw[σ]
  rw[bW,aD,v8,aa,au,aq,v2,aa,av,aa,aa,fw,aa,cq,aa];rw[show cmpI .GtE (t:Int) (([]:List D).length:Int)=true from by unfold cmpI;simp];rfl
 unfold ff;rw[aG,aT,lF];dsimp[ae,bj,az,Yf,Yg];rw[aG,bL,mu,T _ _ rfl rfl];dsimp[aa,U9,ae];unfold uV;dsimp[aj,ag,aa,ae];rw[show kh (.obj (B++g).length) (.obj H) (B++g++[O.lst []])=_ from F];dsimp[ae,bj,az,Yf,Yg];rw[aG,bL,mu,T _ _ rfl rfl];dsimp[aa,U9,ae];rw[aG,aT,bp];dsimp[ba,aj,ag,aa];rw[b8 hH2,aa,bw];rw[show compLoop (.own H (cs.map nD)) (B++g++[O.lst (cs.map nD)]).length 9e1 a9 ie (cs.map nD) (cD [none,some 8] (PV r0 r1 r3 r4 C S H t (some (.obj (B++g).length)) o10)) (B++g++[O.lst (cs.map nD)]++[O.lst []])=_ from u];dsimp[ae,bj,az,Yf,Yg,aj,ag];rw[bp];dsimp[ba,aj,ag,aa];rw[b8 (show (d++[O.lst (l.map nD)])[d.length]?=_ from hL3),aa,bw];rw[show compLoop (.own d.length (l.map nD)) (d++[O.lst (l.map nD)]).length 9e1 ib j8 (l.map nD) (cD [none,some 5,some 8] (PV r0 r1 r3 r4 C S H t (some (.obj G)) (some 10e6))) (d++[O.lst (l.map nD)]++[O.lst []])=_ from c2];dsimp[ae];rw[W];dsimp[ae,bj,az,Yf,Yg];rw[aT,bp];dsimp[ba,aj,ag,aa];rw[b8 hG5,aa,bw];rw[show compLoop (.own G (r.map nD)) 4e1 9e1 e8 j6 (r.map nD) (cD [none,some 6,some 8] (PV r0 r1 r3 r4 C S H t (some (.obj G)) (some 10e6))) (M++[O.lst []])=_ from w];rfl
end
end Lw
namespace Lv
theorem OV(n:Nat)(acc:List Nat):Tj n acc=n::acc:=by cases n <;> rfl
theorem zg(x i j:Nat):Nat.beq (Nat.land x (2^i ||| 2^j)) (2^i ||| 2^j)=(x.testBit i&&x.testBit j):=by
 rw[Yp,Nat.beq_eq,Vf];constructor
 ·intro h;have g:∀k,(x &&& (2^i ||| 2^j)).testBit k=(2^i ||| 2^j).testBit k:=λk=>Uu (·.testBit k) h;have G:=g i;have A:=g j;simp[YN,YQ,YR]at G A;exact⟨G,A⟩
 ·intro ⟨H, c⟩;refine YO λk=>?_;show (x &&& (2^i ||| 2^j)).testBit k=_;rw[YN,YQ,YR,YR];by_cases a:i=k
  ·subst a;simp[H]
  ·by_cases b : j = k
   ·subst b;simp[c]
   ·simp[a,b]
theorem CV(x i:Nat):Nat.beq (Nat.land x (2^i)) (2^i)=x.testBit i:=by
 have h:=zg x i i
 rwa [Nat.or_self,WN]at h
theorem RN(x:Nat)(ps:List (Nat×Nat)):Ir x (ps.map λp=>2^p.1 ||| 2^p.2)=ps.any λp=>x.testBit p.1&&x.testBit p.2:=by
 induction ps with
 |nil=>rfl
 |cons p r i=>
  show @Bool.rec (λ_=>Bool) (Ir x (r.map _)) true (Nat.beq (Nat.land x (2^p.1 ||| 2^p.2)) (2^p.1 ||| 2^p.2))=_;rw[zg,i,List.any_cons];cases x.testBit p.1&&x.testBit p.2 <;> rfl
theorem FW(x:Nat)(t:Nat×List (Nat×Nat)):Ir x (2^t.1::t.2.map λp=>2^p.1 ||| 2^p.2)=ES x t:=by
 show @Bool.rec (λ_=>Bool) (Ir x (t.2.map _)) true (Nat.beq (Nat.land x (2^t.1)) (2^t.1))=_;rw[CV,RN];unfold ES;cases x.testBit t.1 <;> rfl
theorem FV(x:Nat):P2 x Ds=sz x:=by
 rw[Cy];unfold sz;generalize tab=l
 induction l with
 |nil=>rfl
 |cons t r i=>
  rw[List.countP_cons,<- i,<- FW x t];show @Bool.rec (λ_=>Nat) (P2 x (r.map _)) (Nat.succ (P2 x (r.map _))) (Ir x _)=_;cases Ir x (2^t.1::t.2.map λp=>2^p.1 ||| 2^p.2) <;> rfl
theorem Ic(x:Nat):FG x Ds 0=yS x:=by
 rw[Cy];unfold yS;generalize 0=s;generalize tab=l
 induction l generalizing s with
 |nil=>rfl
 |cons t r i=>
  rw[Vs,<- i,<- FW x t];show FG x (r.map _) (Nat.add (Nat.mul 2 s) (@Bool.rec (λ_=>Nat) 0 1 (Ir x _)))=_;cases Ir x (2^t.1::t.2.map λp=>2^p.1 ||| 2^p.2) <;> rfl
theorem xY:∀(i x:Nat)(acc:List Nat),Dy i x (acc.map yS)=(B7 i x acc).map yS
 |0,x,acc=>by
  unfold Dy B7;rw[OV,FV,Ic];cases Nat.ble (sz x) 9 <;> rfl
 |i+1,x,acc=>by
  unfold Dy B7;rw[FV,show Nat.add x (Nat.pow 2 i)=x+2^i from rfl,xY i (x+2^i) acc,xY i x];cases Nat.ble (sz x) 9 <;> rfl
theorem F6(x n:Nat):Nat.beq (Nat.land x (2^n)) 0=!x.testBit n:=by
 cases h:x.testBit n with
 |true=>
  have e:=CV x n;rw[h]at e;rw[Nat.eq_of_beq_eq_true e];have p:=YL n;cases q:2^n with
  |zero=>omega
  |succ y=>rfl
 |false=>
  have e:Nat.land x (2^n)=0:=YO λk=>by
   show (x &&& 2^n).testBit k=_;rw[YN,YR];by_cases a:n=k
   ·subst a;simp[h]
   ·simp[a]
  rw[e];rfl
theorem Pj(n:Nat)(l:List Nat):Mo (2^n) l=l.filter (λx=>x.testBit n == true)/\PR (2^n) l=l.filter (λx=>x.testBit n == false):=by
 induction l with
 |nil=>exact⟨rfl,rfl⟩
 |cons x r i=>
  rw[XX,XX,<- i.1,<- i.2];refine⟨?_,?_⟩
  ·show @Bool.rec (λ_=>List Nat) (x::Mo (2^n) r) (Mo (2^n) r) (Nat.beq (Nat.land x (2^n)) 0)=_;rw[F6];cases x.testBit n <;> rfl
  ·show @Bool.rec (λ_=>List Nat) (PR (2^n) r) (x::PR (2^n) r) (Nat.beq (Nat.land x (2^n)) 0)=_;rw[F6];cases x.testBit n <;> rfl
theorem Be:∀(n:Nat)(l:List Nat),uZ n l=true->∀v:Nat,(l.filter λx=>(List.range n).all λi=>x.testBit i == v.testBit i).length<=63
 |0,l,h,v=>Ub (Yi _ _) (Nat.le_of_ble_eq_true h)
 |n+1,l,h,v=>by
  unfold uZ at h;cases B:Nat.ble l.length 63 with
  |true=>exact Ub (Yi _ _) (Nat.le_of_ble_eq_true B)
  |false=>
   rw[B]at h;have f:=Pj n l
   have H:uZ n (Mo (2^n) l)=true/\uZ n (PR (2^n) l)=true:=by
    revert h;show @Bool.rec (λ_=>Bool) false (uZ n (PR (2^n) l)) (uZ n (Mo (2^n) l))=true->_;cases uZ n (Mo (2^n) l) with
    |true=>exact λh=>⟨rfl,h⟩
    |false=>exact λh=>absurd h UA
   rw[f.1,f.2]at H
   have key:∀b:Bool,v.testBit n=b->(l.filter λx=>(List.range (n+1)).all λi=>x.testBit i == v.testBit i)=((l.filter λx=>x.testBit n == b).filter λx=>(List.range n).all λi=>x.testBit i == v.testBit i):=λb e=>by
    rw[List.filter_filter];congr 1;funext x;rw[Yl,List.all_append];simp[e]
   cases V:v.testBit n with
   |true=>rw[key true V];exact Be n _ H.1 v
   |false=>rw[key false V];exact Be n _ H.2 v
theorem Ie(v:Nat):((B7 15 0 []).filter λx=>decide (yS x=v)).length<=63:=by
 have h:=Be 15 _ Px v;have e:=xY 15 0 [];rw[Vh]at e;rw[e,Yk,U1]at h;refine Ub ?_ h;rw[<- YU,<- YU];refine List.countP_mono_left λx _ d=>?_;have:yS x=v:=Yr d;simp[this]
theorem Jp{x y:Nat}(h:∀b,x.testBit b=true->y.testBit b=true):sz x<=sz y:=by
 unfold sz;refine List.countP_mono_left λt _ J=>?_;unfold ES at J⊢;rw[XU]at J⊢;rcases J with J|J
 ·exact .inl (h _ J)
 ·refine .inr ?_;rw[Yq]at J⊢;obtain⟨p,d,e⟩:=J;rw[Vf]at e;exact⟨p,d,by rw[Vf];exact⟨h _ e.1,h _ e.2⟩⟩
theorem Jl(y i b:Nat)(h:((y >>> i) <<< i).testBit b=true):y.testBit b=true:=by
 rw[Nat.testBit_shiftLeft,Nat.testBit_shiftRight,Vf,Xy]at h;rw[show i+(b-i)=b from by omega]at h;exact h.2
theorem Gx(y i:Nat):(y >>> i) <<< i=(y >>> (i+1)) <<< (i+1)+(if y.testBit i=true then 2^i else 0):=by
 rw[Nat.shiftLeft_eq,Nat.shiftLeft_eq,YV,YV,YG,<- Nat.div_div_eq_div_mul,YS];generalize y / 2^i=z;by_cases h:z%2=1
 ·rw[VA h,T1 rfl];rw[show z / 2*(2^i*2)=(2*(z / 2))*2^i from by rw[Vz (2^i) 2,<- Nat.mul_assoc,Vz (z / 2) 2]];rw[show 2*(z / 2)*2^i+2^i=(2*(z / 2)+1)*2^i from by rw[Nat.add_mul,Nat.one_mul]];congr 1;omega
 ·rw[TY h,T3 UA,V5];rw[show z / 2*(2^i*2)=(2*(z / 2))*2^i from by rw[Vz (2^i) 2,<- Nat.mul_assoc,Vz (z / 2) 2]];congr 1;omega
theorem xX:∀(i x:Nat)(acc:List Nat)(y:Nat),y∈acc->y∈B7 i x acc
 |0,x,acc,y,h=>by
  unfold B7;split
  ·exact Ug _ h
  ·exact h
 |i+1,x,acc,y,h=>by
  unfold B7;split
  ·exact xX i x _ y (xX i _ acc y h)
  ·exact h
theorem xW{y:Nat}(σ:sz y<=9):∀(i:Nat)(acc:List Nat),y∈B7 i ((y >>> i) <<< i) acc
 |0,acc=>by
  unfold B7;rw[Nat.shiftRight_zero,Nat.shiftLeft_zero,T1 (Nat.ble_eq_true_of_le σ)];simp
 |i+1,acc=>by
  unfold B7;have S:sz ((y >>> (i+1)) <<< (i+1))<=9:=Ub (Jp λb B=>Jl y (i+1) b B) σ;rw[T1 (Nat.ble_eq_true_of_le S)];have s:=Gx y i;by_cases h:y.testBit i=true
  ·rw[T1 h]at s;rw[<- s];exact xX i _ _ y (xW σ i acc)
  ·rw[T3 h,V5]at s;rw[<- s];exact xW σ i _
theorem Lq{y:Nat}(σ:sz y<=9)(h:y<2^15):y∈B7 15 0 []:=by
 have:=xW σ 15 [];rw[YV,Nat.div_eq_of_lt h,Nat.zero_shiftLeft]at this;exact this
def Mr(k:List Int):Nat:=uS (vy k).toNat (dm k).toNat
def yH:Nat->List 0e5->Nat->Nat
 |_,[],_=>0
 |i,k::ks,c=>(if c.testBit i=true then 2^Mr k else 0) ||| yH (i+1) ks c
theorem xp:∀(ks:List 0e5)(j c r:Nat),(yH j ks c).testBit r=true↔∃i k,ks[i]?=some k/\c.testBit (j+i)=true/\Mr k=r
 |[],j,c,r=>by simp[yH]
 |k::ks,j,c,r=>by
  unfold yH;rw[YQ,XU,xp ks (j+1) c r];constructor
  ·rintro (h | ⟨i, K, a, H, d⟩)
   ·split at h
    ·rename_i e;rw[YR,Xy]at h;exact⟨0,k,rfl,e,h⟩
    ·simp at h
   ·exact⟨i+1,K,a,by rw[show j+(i+1)=j+1+i from by omega];exact H,d⟩
  ·rintro ⟨i, K, a, H, d⟩
   cases i with
   |zero=>
    cases a;rw[V5]at H;refine .inl ?_;rw[T1 H,YR];exact VA d
   |succ i=>exact .inr ⟨i,K,a,by rw[show j+1+i=j+(i+1) from by omega];exact H,d⟩
theorem N5:∀b<6,∀a<b,uS a b<15:=by decide
theorem Hk:∀b<6,∀a<b,∀d<6,∀c<d,(uS a b != uS c d || (a == c&&b == d))=true:=by decide
theorem CU(b:Nat)(B:b<6)(a:Nat)(n:a<b)(d:Nat)(D:d<6)(c:Nat)(i:c<d)(e:uS a b=uS c d):a=c/\b=d:=by
 have:=Hk b B a n d D c i;rw[e]at this;simpa using this
theorem zI(a b:Nat)(h:a≠b):uS a b=uS b a:=by
 unfold uS;by_cases l:a<b
 ·rw[T1 l,T3 0e1]
 ·rw[T3 l,T1 0e1]
theorem Hi{p:Nat×Nat}:p∈AR↔p.1<p.2/\p.2<6:=by
 unfold AR;rw[Yh];constructor
 ·rintro ⟨b, B, h⟩
  obtain⟨a,n,rfl⟩:=We.mp h;rw[Ua]at B n;exact⟨n,B⟩
 ·rintro ⟨H, c⟩
  exact⟨p.2,Ua.mpr c,We.mpr ⟨p.1,Ua.mpr H,rfl⟩⟩
section
variable(hk:∀k∈ks,Sd k)
include hk
theorem MP(c:Nat):yH 0 ks c<2^15:=by
 apply Nat.lt_pow_two_of_testBit;intro r R;cases h:(yH 0 ks c).testBit r with
 |false=>rfl
 |true=>
  obtain⟨i,k,H,d,rfl⟩:=(xp ks 0 c r).mp h;obtain⟨a,b,rfl,f,g,j⟩:=jg hk H;have:=N5 b.toNat 0e1 a.toNat 0e1;have e:Mr [a,b]=uS a.toNat b.toNat:=rfl;omega
theorem pV{a b:Nat}(A:a<6)(g:b<6)(n:a≠b):(yH 0 ks c).testBit (uS a b)=true↔∃i,Jn ks i a b/\c.testBit i=true:=by
 rw[xp];constructor
 ·rintro ⟨i, k, d, H, f⟩
  rw[WB]at H;refine⟨i,?_,H⟩;obtain⟨p,q,rfl,j,o,r⟩:=jg hk d;have e:uS p.toNat q.toNat=uS a b:=f;by_cases l:a<b
  ·obtain⟨E,B⟩:=CU q.toNat 0e1 p.toNat 0e1 b g a l e;refine .inl ?_;rw[d,show (a:Int)=p from by omega,show (b:Int)=q from by omega]
  ·rw[zI a b n]at e;obtain⟨E,B⟩:=CU q.toNat 0e1 p.toNat 0e1 a A b 0e1 e;refine .inr ?_;rw[d,show (b:Int)=p from by omega,show (a:Int)=q from by omega]
 ·rintro ⟨i, h | h, H⟩
  ·exact⟨i,_,h,by rw[WB];exact H,by show uS ((a:Int)).toNat ((b:Int)).toNat=_;simp⟩
  ·refine⟨i,_,h,by rw[WB];exact H,?_⟩;show uS ((b:Int)).toNat ((a:Int)).toNat=_;dsimp[U6];exact zI b a (Ui n)
theorem Nt{a b:Nat}(o:a<b)(B:b<6):ES (yH 0 ks c) (R6 (a,b))=true↔(∃i,Jn ks i a b/\c.testBit i=true)\/∃d:Int,(∃i,Jn ks i a d/\c.testBit i=true)/\∃j,Jn ks j d b/\c.testBit j=true:=by
 unfold ES R6;dsimp only;rw[XU,pV hk 0e1 B 0e1,Yq];refine or_congr Iff.rfl ?_;constructor
 ·rintro ⟨p, P, e⟩
  obtain⟨d,D,rfl⟩:=We.mp P;rw[T9,Ua]at D;obtain⟨H,D⟩:=D;dsimp[Vf,bne_iff_ne,ne_eq]at D;rw[Vf]at e;exact⟨d,(pV hk 0e1 H (λz=>D.1 z.symm)).mp e.1,(pV hk H B D.2).mp e.2⟩
 ·rintro ⟨d, ⟨i, I, C⟩, ⟨j, J, f⟩⟩
  have N:=Cd hk I;have r:=Cd hk J
  have rng:0<=d/\d<6:=by
   rcases I with h|h
   ·obtain⟨p,q,e,g,k,l⟩:=jg hk h;cases e;omega
   ·obtain⟨p,q,e,g,k,l⟩:=jg hk h;cases e;omega
  obtain⟨n,rfl⟩:=YW rng.1;have R:a≠n:=λz=>N (by rw[z]);have W:n≠b:=λz=>r (by rw[z]);refine⟨(uS a n,uS n b),We.mpr ⟨n,?_,rfl⟩,?_⟩
  ·rw[T9,Ua];refine⟨by omega,?_⟩;dsimp[Vf,bne_iff_ne,ne_eq];exact⟨λz=>R z.symm,W⟩
  ·rw[Vf];exact⟨(pV hk 0e1 0e1 R).mpr ⟨i,I,C⟩,(pV hk 0e1 B W).mpr ⟨j,J,f⟩⟩
theorem Me{p:Int}(P:p∈rg m)(h:p<q):(∃v,([p,q],v)∈EV m ks/\m5 c v=true)↔(∃i,Jn ks i p q/\c.testBit i=true)\/∃d:Int,(∃i,Jn ks i p d/\c.testBit i=true)/\∃j,Jn ks j d q/\c.testBit j=true:=by
 constructor
 ·rintro ⟨v, V, I⟩
  obtain⟨a,n,_,_,e,⟨i,D,rfl⟩|⟨b,i,j,D,H,rfl⟩⟩:=(oa hk).mp V
  ·cases e;exact .inl ⟨i,D,p0.mp (vK.mp I).2⟩
  ·cases e;have:=vK.mp I;exact .inr ⟨b,⟨i,D,p0.mp (vK.mp this.1).2⟩,j,H,p0.mp this.2⟩
 ·rintro (⟨i, D, C⟩ | ⟨d, ⟨i, D, C⟩, ⟨j, H, f⟩⟩)
  ·exact⟨_,(oa hk).mpr ⟨p,q,P,h,rfl,.inl ⟨i,D,rfl⟩⟩,vK.mpr ⟨C5,p0.mpr C⟩⟩
  ·exact⟨_,(oa hk).mpr ⟨p,q,P,h,rfl,.inr ⟨d,i,j,D,H,rfl⟩⟩,vK.mpr ⟨vK.mpr ⟨C5,p0.mpr C⟩,p0.mpr f⟩⟩
theorem Jk{vs:List Nat}(H:vs≠[])(h:∀v∈vs,0<v/\v<2^n):oE vs<n:=by
 have key:∀(vs:List Nat)(x:Nat),x<2^n->(∀v∈vs,v<2^n)->vs.foldl max x<2^n:=by
  intro vs
  induction vs with
  |nil=>intro x d _;exact d
  |cons v r i=>intro x d V;exact i (max x v) (Nat.max_lt.mpr ⟨d,V v 0e9⟩) λw W=>V w (by simp[W])
 have g:∀(vs:List Nat)(x:Nat),x<=vs.foldl max x:=by
  intro vs
  induction vs with
  |nil=>intro x;exact UG _
  |cons v r i=>intro x;exact Ub (Nat.le_max_left _ _) (i (max x v))
 unfold oE;have t:=key vs 0 (YL n) λv V=>(h v V).2;cases vs with
 |nil=>exact absurd rfl H
 |cons v r=>
  have f:0<(v::r).foldl max 0:=T6 (h v 0e9).1 (Ub (Nat.le_max_right 0 v) (g r (max 0 v)));exact(Nat.log2_lt 0e1).mpr t
theorem Dl(M:∀k∈ks,∀x∈k,x∈rg m)(σ:ks.Nodup)(h9:ks.length<=9):(nH ks 9e6 7e7).length<=63:=by
 have S:∀e∈EV m ks,0<e.2:=λe U=>(Cj hk U).1
 have tp:∀k∈ks,oE (lU 9e6 k)<ks.length:=λk H=>by
  obtain⟨a,b,rfl,o,q,w⟩:=hk k H;obtain⟨i,I,e⟩:=Xq H;refine Jk hk ?_ λv V=>Cj hk (iL.mp V);have:(0 ||| 2^i)∈lU 9e6 [a,b]:=iL.mpr ((oa hk).mpr ⟨a,b,M _ H a 0e9,q,rfl,.inl ⟨i,.inl (by rw[<- e];exact W6 I),rfl⟩⟩);exact λz=>by rw[z]at this;cases this
 have sq:∀c∈nH ks 9e6 7e7,∀p∈AR,ES (yH 0 ks c) (R6 p)=decide ([(p.1:Int),(p.2:Int)]∈ks):=λc C p P=>by
  obtain⟨a,b⟩:=p;obtain⟨g,f⟩:=Hi.mp P;obtain⟨A,B⟩:=qr S 7e7 c C;apply Yp.mpr;rw[Nt hk g f,Xy];constructor
  ·intro h;apply Decidable.byContradiction;intro O
   have n:(a:Int)∈rg m:=by
    have l:∀i d,Jn ks i (a:Int) d->(a:Int)∈rg m:=λi d D=>by
     rcases D with z|z
     ·exact M _ (UZ z) _ 0e9
     ·exact M _ (UZ z) _ 0e9
    rcases h with⟨i,D,_⟩|⟨d,⟨i,D,_⟩,_⟩
    ·exact l i _ D
    ·exact l i _ D
   obtain⟨v,V,I⟩:=(Me hk (c:=c) n 0e1).mpr h;have:=A _ V O (Cj hk V).2;rw[this]at I;cases I
  ·intro h;obtain⟨v,V,I⟩:=B _ h (tp _ h);exact(Me hk (M _ h _ 0e9) 0e1).mp ⟨v,iL.mp V,I⟩
 let G:List Bool:=AR.map λp=>decide ([(p.1:Int),(p.2:Int)]∈ks)
 have L:∀c∈nH ks 9e6 7e7,tab.map (ES (yH 0 ks c))=G:=λc C=>by
  rw[M4,V4];exact V6 λp P=>sq c C p P
 have t:∀x,yS x=(tab.map (ES x)).foldl (λs b=>2*s+b.toNat) 0:=λx=>by rw[List.foldl_map];rfl
 have szl:∀c∈nH ks 9e6 7e7,sz (yH 0 ks c)<=9:=λc C=>by
  have e:sz (yH 0 ks c)=(tab.map (ES (yH 0 ks c))).countP id:=by rw[List.countP_map];rfl
  rw[e,L c C,List.countP_map,YU]
  have N:((AR.filter (id ∘ λp=>decide ([(p.1:Int),(p.2:Int)]∈ks))).map λp=>[(p.1:Int),(p.2:Int)]).Nodup:=by
   refine WG _ (λx y h=>?_) (Yj _ (show AR.Nodup by decide));intro z;apply h;dsimp[Yx,Int.natCast_inj,YA]at z;exact TX z.1 z.2
  have:=N.length_le_of_subset (l₂:=ks) λk H=>by
   obtain⟨p,P,rfl⟩:=We.mp H;exact Yr (T9.mp P).2
  rw[U1]at this;omega
 have inj:∀c∈nH ks 9e6 7e7,∀d∈nH ks 9e6 7e7,yH 0 ks c=yH 0 ks d->c=d:=λc C d l e=>by
  have R:=ji _ c C;have F:=ji _ d l
  have one:∀(c:Nat)(i:Nat)(I:i<ks.length)(a b:Nat),ks[i]=[(a:Int),(b:Int)]->a<b->b<6->((yH 0 ks c).testBit (uS a b)=true↔c.testBit i=true):=λc i I a b K g f=>by
   rw[pV hk 0e1 f 0e1];constructor
   ·rintro ⟨j, D, J⟩
    have:ks[j]?=some [(a:Int),(b:Int)]:=by
     rcases D with z|z
     ·exact z
     ·obtain⟨x,y,e,h4,h5,h6⟩:=jg hk z;cases e;omega
    obtain⟨X,u⟩:=Ul.mp this;have:j=i:=(Um σ).mp (u.trans K.symm);rw[<- this];exact J
   ·intro h;exact⟨i,.inl (by rw[<- K];exact W6 I),h⟩
  apply YO;intro i;by_cases I:i<ks.length
  ·obtain ⟨a, b, K, o, q, w⟩ := hk ks[i] (XS I);have E:ks[i]=[((a.toNat:Nat):Int),((b.toNat:Nat):Int)]:=by rw[K,WJ o,WJ 0e1]
   have r:=one c i I a.toNat b.toNat E 0e1 0e1;have W:=one d i I a.toNat b.toNat E 0e1 0e1;rw[e]at r;exact Yp.mpr (r.symm.trans W)
  ·rw[YT (T6 R (YH 1e2 0e1)),YT (T6 F (YH 1e2 0e1))]
 have N:((nH ks 9e6 7e7).map (yH 0 ks)).Nodup:=by
  rw[List.Nodup,XQ];refine(sS 7e7).imp_of_mem λQ T h z=>?_;have:=inj _ Q _ T z;omega
 have:=N.length_le_of_subset (l₂:=(B7 15 0 []).filter λx=>decide (yS x=G.foldl (λs b=>2*s+b.toNat) 0)) λx μ=>by
  obtain⟨c,C,rfl⟩:=We.mp μ;rw[T9];exact⟨Lq (szl c C) (MP hk c),VA (by rw[t,L c C])⟩
 rw[U1]at this;exact Ub this (Ie _)
end
end Lv
namespace Lw
open PySem L2 RS Lv
section
variable{F:Nat}{es:List Wy}
theorem n9(h:GW m ks):∀k∈ks,Sd k:=λk d=>by
 obtain⟨a,b,rfl,H,c,e⟩:=h.2.2.2.2 k d;have:=h.m6;exact⟨a,b,rfl,H,c,by omega⟩
theorem FD(h:GW m ks):∀k∈ks,∀x∈k,x∈rg m:=λk H x d=>by
 obtain⟨a,b,rfl,c,e,f⟩:=h.2.2.2.2 k H;rw[fH];dsimp[Uh,V0,V1]at d;rcases d with rfl|rfl <;> omega
theorem tK(h:GW m ks):ks.Nodup:=h.2.2.2.1.imp λh e=>by subst e;omega
theorem Pl(h:GW m ks):(EV m ks).length<=1500:=by
 have H:=h.m6;have i:=c0 h;have σ:(W0 m).length=m:=by unfold W0;rw[U1,lB]
 have G:=nh ks (W0 m);rw[σ]at G;have m6:m*ks.length<=6*15:=YK H i;have A:=nh ks (l7 ks (W0 m));have c:(l7 ks (W0 m)).length*ks.length<=90*15:=YK 0e1 i;unfold EV sf;rw[U0,U1,U1];have a:=Yi (λw:Wy=>decide (vy w.1<dm w.1)) (l7 ks (W0 m));have b:=Yi (λw:Wy=>decide (vy w.1<dm w.1)) (l7 ks (l7 ks (W0 m)));omega
theorem Pp(h:GW m ks):∀e∈EV m ks,e.1∈prs/\0<e.2/\e.2<2^ks.length:=λe H=>by
 have g:=h.m6;refine⟨?_,Cj (n9 h) H⟩;obtain⟨p,q,P,t,E,D⟩:=(oa (n9 h)).mp (show (e.1,e.2)∈EV m ks from H);rw[E]
 have Q:q<6:=by
  have lt:∀i d,Jn ks i d q->q<6:=λi d D=>by
   rcases D with z|z
   ·obtain⟨x,y,e,a,f,c⟩:=jg (n9 h) z;cases e;omega
   ·obtain⟨x,y,e,a,f,c⟩:=jg (n9 h) z;cases e;omega
  rcases D with⟨i,D,_⟩|⟨b,i,j,_,D,_⟩
  ·exact lt i _ D
  ·exact lt j _ D
 have:=(fH.mp P);exact m8.prs (m:=6) ⟨p,q,rfl,this.1,t,Q⟩ 1e2
theorem F7(h:GW m ks)(d:k∈ks):lU 9e6 k≠[]:=by
 obtain⟨a,b,rfl,H,c,f⟩:=h.2.2.2.2 k d;obtain⟨i,I,e⟩:=Xq d;have:(0 ||| 2^i)∈lU 9e6 [a,b]:=iL.mpr ((oa (n9 h)).mpr ⟨a,b,FD h _ d a 0e9,c,rfl,.inl ⟨i,.inl (by rw[<- e];exact W6 I),rfl⟩⟩);exact λz=>by rw[z]at this;cases this
theorem CZ:∀k,(lU es k).length<=es.length:=λk=>by
 unfold lU;rw[U1];exact Yi _ _
theorem Cv:∀kvs:List 14e4,(yF ks es kvs).length<=kvs.length*es.length
 |[]=>by simp[yF]
 |p::r=>by
  have i:=Cv r;have:=CZ (es:=es) p.1;unfold yF at i⊢;rw[Yn,U0,VF,Vx];split
  ·rw[V8];omega
  ·omega
theorem Cu(hD:DR F es kvs ep M){v:Nat}:v∈yF ks es kvs↔∃k,k∉ks/\(k,v)∈es:=by
 unfold yF;rw[Yh];constructor
 ·rintro ⟨p, d, V⟩
  split at V
  ·cases V
  ·rename_i n;exact⟨p.1,n,iL.mp V⟩
 ·rintro ⟨k, n, V⟩
  obtain⟨p,d,rfl⟩:=We.mp ((hD.key k).mpr ⟨v,V⟩);exact⟨p,d,by rw[T3 n];exact iL.mpr V⟩
def EW(kvs:List 14e4)(k:List Int):Nat:=(IE kvs k).getD 0
theorem NS(hD:DR F es kvs ep M)(t:Nat)(s:List Nat):P5 (yF ks es kvs) (ks.map λk=>(EW kvs k,lU es k)) t s=Du ks es t s:=by
 unfold P5 Du
 have E:∀c,((yF ks es kvs).filter λv=>v.log2 == t).any (m5 c)=Qe ks es t c:=λc=>by
  unfold Qe;apply Yp.mpr;rw[Yq,Yq];constructor
  ·rintro ⟨v, V, I⟩
   rw[T9]at V;obtain⟨k,n,i⟩:=(Cu hD).mp V.1;refine⟨(k,v),i,?_⟩;rw[TY n,V.2,I];rfl
  ·rintro ⟨e, j, B⟩
   rw[Vf,Vf,Bool.not_eq_true',decide_eq_false_iff_not]at B;exact⟨e.2,T9.mpr ⟨(Cu hD).mpr ⟨e.1,B.1.1,j⟩,B.1.2⟩,B.2⟩
 have a:∀c,(((ks.map λk=>(EW kvs k,lU es k)).filter λp=>oE p.2 == t).all λp=>p.2.any (m5 c))=stB ks es t c:=λc=>by
  unfold stB;apply Yp.mpr;rw[WI,WI];constructor
  ·intro h k d;by_cases z:oE (lU es k)=t
   ·have:=h (EW kvs k,lU es k) (T9.mpr ⟨We.mpr ⟨k,d,rfl⟩,by simpa using z⟩);rw[this,Bool.or_true]
   ·have : (oE (lU es k) == t) = false := by simpa using z
    rw[this];rfl
  ·intro h p H;rw[T9]at H;obtain⟨k,d,rfl⟩:=We.mp H.1;have:=h k d;rw[H.2]at this;simpa using this
 dsimp[E,a]
theorem wC(t:Nat)(J:t<=15):(nH ks es t).length<=100000:=by
 have n:(nH ks es t).Nodup:=(sS t).imp λh=>by omega
 have:=n.length_le_of_subset (l₂:=List.range (2^t)) λc i=>Ua.mpr (ji t c i);rw[V7]at this;have p:2^t<=2^15:=YH 1e2 J;omega
theorem Dm{C S n:Nat}{cb sb:List Nat}{B:aC}{r0 r1 r3 r4:Option D}{all:List D}{N:aC}(hD:DR F es kvs ep N)(hC:NL C cb (Dp (yF ks es kvs)) B)(f:cb.length=n)(hS:NL S sb (ET ((ks.map λk=>(EW kvs k,lU es k)).map λp=>(p.1,oE p.2))) B)(h:sb.length=n)
  (R:∀p∈ks.map (λk=>(EW kvs k,lU es k)),B[p.1]?=some (.lst (p.2.map nD))/\p.2.length<=100000) (L:(yF ks es kvs).length<=100000) (G:ks.length<=15) (d:n<=15) :
  ∀(k t:Nat)(g:aC)(H:Nat)(o8 o9 o10:Option D),t+k=n->(B++g)[H]?=some (.lst ((nH ks es t).map nD))->B.length<=H ->
   ∃g' H' p8 p9 p10,dg (.fix all) (ai 8) ff (bR (t:Int) k) [r0,r1,some (.tup []),r3,r4,some (.obj C),some (.obj S),some (.obj H),o8,o9,o10] (B++g)=.next [r0,r1,some (.tup []),r3,r4,some (.obj C),some (.obj S),some (.obj H'),p8,p9,p10] (B++g')/\(B++g')[H']?=some (.lst ((nH ks es n).map nD))/\B.length<=H'
 |0,t,g,H,o8,o9,o10,J,hH,hB=>by
  refine⟨g,H,o8,o9,o10,?_,by rw[show n=t from by omega];exact hH,hB⟩;rw[k9];unfold dg;rw[T1 9e8]
 |k+1,t,g,H,o8,o9,o10,J,hH,hB=>by
  obtain⟨c,b,p9,p10,a,A,r⟩:=Lu (r0:=r0) (r1:=r1) (r3:=r3) (r4:=r4) (o9:=o9) (o10:=o10) hC f hS h R L (by rw[U1];omega) (show t<n by omega) 0e1 hH (wC t 0e1);rw[NS hD]at A;obtain⟨g',H',q,Q,q10,b1,b2,b3⟩:=Dm (r0:=r0) (r1:=r1) (r3:=r3) (r4:=r4) (all:=all) hD hC f hS h R L G d k (t+1) c b (some 9e3) p9 p10 0e1 A r;refine⟨g',H',q,Q,q10,?_,b2,b3⟩;rw[jI];unfold dg;rw[T1 9e8];rw[show ai 8 9e3 [r0,r1,some (.tup []),r3,r4,some (.obj C),some (.obj S),some (.obj H),o8,o9,o10] (B++g)=.ok (PV r0 r1 r3 r4 C S H t o9 o10) (B++g) from rfl,ae,a];exact b1
theorem tX(h:GW m ks):∃g r,ec [aK m ks,.int 2,.tup []] Z=.ok (.obj r) (Z++g)/\(Z++g)[r]?=some (.lst ((nH ks 9e6 7e7).map nD))/\Z.length<=r:=by
 have i:=c0 h;obtain⟨kvs,ep,μ,W,hD,⟨G,rfl⟩,T⟩:=Jx (Z:=Z) h;have es:=Pp h;have y:=Pl h;have Q:=hD.len λe I=>(es e I).1
 have L:(yF ks 9e6 kvs).length<=100000:=by
  have:=Cv (ks:=ks) (es:=EV m ks) kvs;have p:kvs.length*(EV m ks).length<=15*1500:=YK Q y;omega
 obtain⟨O,A,S,nC,s,gcb⟩:=GO (Z:=Z++G) h.2.2.2.2 i hD es L;have hD2:DR 5e2 9e6 kvs ep (Z++G++A):=hD.app
 have at':∀k∈ks,(k,EW kvs k)∈kvs:=λk H=>by
  obtain⟨c,z⟩:=List.exists_mem_of_ne_nil _ (F7 h H);obtain⟨p,P,rfl⟩:=We.mp ((hD.key k).mpr ⟨c,iL.mp z⟩);unfold EW;rw[nj hD.kn (show (p.1,p.2)∈kvs from P)];exact P
 let d:aC:=Z++G++A
 let R:List (Nat×List Nat):=ks.map λk=>(EW kvs k,lU 9e6 k)
 let f:aC:=d++[.lst (ks.map λk=>D.obj (EW kvs k))]
 have C:=bD (U:=List Int) (en:=aw) (src:=.fix 0e8) (g:=ai 0) (t:=a9) (e:=ig) (Z1:=d) (q:=λ_=>true) (h:=λk=>D.obj (EW kvs k)) (λw=>∃o,w=[o,some 1e4]) 5e1 (us:=ks) (acc:=[]) (ρ:=[none,some 1e4]) ⟨none,rfl⟩ (by dsimp[V8];exact Ub (show 0+ks.length<=1000 by omega) bH) (λx X a w hR=>by
  obtain⟨o,rfl⟩:=hR;refine⟨[some (aw x),some 1e4],⟨_,rfl⟩,rfl,rfl,λ_=>?_⟩;unfold ig;dsimp[aD,aj,ag,aa];unfold yP aw;dsimp only;rw[aI hD2.at',i4];dsimp only
  rw[nj hD.kn (at' x X)])
 rw[bz,Vy]at C
 have hJ:f[d.length]?=some (.lst (R.map λp=>D.obj p.1)):=by
  rw[show f[d.length]?=_ from aA,V4];rfl
 obtain⟨sb,b,σ,nS,u,gsb⟩:=Bq (Z:=f) (J:=d.length) (n:=7e7) (rs:=R) hJ (λp P=>by
  obtain⟨k,H,rfl⟩:=We.mp P
  exact⟨aI (hD2.val _ (at' k H)),F7 h H,λv V=>(es _ (iL.mp V)).2⟩) (by rw[U1]) i
 let B:aC:=f++b
 have K:∀p∈R,B[p.1]?=some (.lst (p.2.map nD))/\p.2.length<=100000:=λp P=>by
  obtain⟨k,H,rfl⟩:=We.mp P;exact⟨aI (aI (hD2.val _ (at' k H))),Ub (CZ k) 0e1⟩
 obtain⟨l,j,p8,p9,p10,b1,b2,b3⟩:=Dm (r0:=some 1e8) (r1:=some 11e4) (r3:=some 3e9) (r4:=some 1e4) (all:=bR 0 7e7) (B:=B) hD nC.app.app s nS u K L i i 7e7 0 [.lst [nD 0]] B.length none none none 0e1 aA 6e3;have eB:B++l=Z++(G++A++[.lst (ks.map λk=>D.obj (EW kvs k))]++b++l):=by simp[B,f,d]
 have N:lT [some 1e8,some 11e4,some (.tup []),none,none,none,none,none,none,none,none] Z=.ret (.obj j) (B++l):=by
  unfold lT;rw[aG,aT,aD];dsimp[ag,bg,aa];rw[show cM 1e8 (.int 1) Z=.ok 3e9 Z from rfl];dsimp[ae,bj,az,Yf,Yg];rw[aG,aT];dsimp[au,aq,av,aj,ag,aa,W,ae,bj,az,Yf,Yg];rw[aG,aT];dsimp[au,aq,av,aj,ag,aa,S,ae,bj,az,Yf,Yg];rw[aG,aT,au,aq,bp];dsimp[ba,aj,ag,aa,jx,aV];rw[show compLoop (.fix 0e8) (Z++G++A).length 9e1 a9 ig 0e8 (cD [none,some 4] [some 1e8,some 11e4,some (.tup []),some 3e9,some 1e4,some (.obj (Z++G).length),none,none,none,none,none]) (Z++G++A++[.lst []])=_ from C];dsimp[av,aa];rw[σ];dsimp[ae,bj,az,Yf,Yg];rw[aG,aT,jT];dsimp[aq,av,bg,aa];rw[T1 (show ([D.int 0]:List D).length<=sizeLine from l1)];dsimp[ae,bj,az,Yf,Yg];rw[aG,fI,cH];dsimp[au,aq,av,aj,ag,aa,fw,U1];rw[fv 0e1 0e1,ae,aV,U6];rw[show dg (.fix (bR 0 7e7)) (ai 8) ff (bR 0 7e7) [some 1e8,some 11e4,some (.tup []),some 3e9,some 1e4,some (.obj (Z++G).length),some (.obj f.length),some (.obj (f++b).length),none,none,none] (f++b++[.lst [D.int 0]])=_ from b1,az,aS];dsimp[aj,ag,ae]
 have E:Z.length<=j:=Ub (by simp[B,f,d]) b3;refine⟨_,j,?_,by rw[<- eB];exact b2,E⟩;unfold ec;rw[oe,show (some 1e8::some (D.int 2)::some (D.tup [])::List.replicate (11-3) none:Ro)=[some 1e8,some 11e4,some (.tup []),none,none,none,none,none,none,none,none] from rfl,N,aL,<- eB];exact jQ 6e9
end
def Do:Nat->List 0e5->List (Nat×List Int)
 |_,[]=>[]
 |i,k::ks=>(i,k)::Do (i+1) ks
def Sn(p:Nat×List Int):D:=.tup [.int (p.1:Int),aw p.2]
theorem zY:∀(ks:List 0e5)(i:Nat),dq i 0e8=(Do i ks).map Sn
 |[],_=>rfl
 |k::ks,i=>by dsimp[Vi,dq,Do,zY ks (i+1)];rfl
theorem xP:∀(ks:List 0e5)(i:Nat),(Do i ks).map 7e4=ks
 |[],_=>rfl
 |k::ks,i=>by dsimp[Do,Vi,xP ks (i+1)]
theorem Lf(ks:List 0e5)(i:Nat):(Do i ks).length=ks.length:=by
 have:=Uu List.length (xP ks i)
 rwa [U1]at this
noncomputable def je(ks:List 0e5)(c:Nat):List 0e5:=((Do 0 ks).filter λp=>c.testBit p.1).map 7e4
theorem Hl(ks:List 0e5)(c:Nat):(je ks c).Sublist ks:=by
 have:=((List.filter_sublist (p:=λp:Nat×List Int=>c.testBit p.1) (l:=Do 0 ks)).map 7e4);rw[xP]at this;exact this
theorem xQ:∀(ks:List 0e5)(j:Nat)(p:Nat×List Int),p∈Do j ks↔∃i,ks[i]?=some p.2/\p.1=j+i
 |[],_,_=>by simp[Do]
 |k::ks,j,p=>by
  dsimp[Do,Uh,xQ ks (j+1) p];constructor
  ·rintro (rfl | ⟨i, H, c⟩)
   ·exact⟨0,rfl,rfl⟩
   ·exact⟨i+1,H,by omega⟩
  ·rintro ⟨i, H, c⟩
   cases i with
   |zero=>
    left;cases H;exact TX c rfl
   |succ i=>exact .inr ⟨i,H,by omega⟩
section
theorem Hm(n:ks.Nodup){d:Nat}(C:c<2^ks.length)(D:d<2^ks.length)(e:je ks c=je ks d):c=d:=by
 have key:∀(c i:Nat)(I:i<ks.length),ks[i]∈je ks c↔c.testBit i=true:=λc i I=>by
  unfold je;rw[We];constructor
  ·rintro ⟨p, H, e⟩
   rw[T9]at H;obtain⟨j,f,g⟩:=(xQ ks 0 p).mp H.1;obtain⟨J,E⟩:=Ul.mp f;have:j=i:=(Um n).mp (E.trans e);have:p.1=i:=by omega
   rw[<- this];exact H.2
  ·intro h;exact⟨(i,ks[i]),T9.mpr ⟨(xQ ks 0 _).mpr ⟨i,W6 I,by simp⟩,h⟩,rfl⟩
 apply YO;intro i;by_cases I:i<ks.length
 ·have a:=key c i I;have b:=key d i I;rw[e]at a;exact Yp.mpr (a.symm.trans b)
 ·rw[YT (T6 C (YH 1e2 0e1)),YT (T6 D (YH 1e2 0e1))]
theorem DM(i:ks.length<=15):fW [.tup 0e8,nD c] M=.ok (.tup ((je ks c).map aw)) M:=by
 unfold fW;rw[bS,show (some (D.tup 0e8)::some (nD c)::List.replicate (2-2) none:Ro)=[some 3e9,some (nD c)] from rfl];unfold nU;rw[aS,au,aq,bp,cH];dsimp[aq,av,ag,aa];rw[show kW [.tup 0e8] M=.ok (.fix (dq 0 0e8)) M from rfl,aa,aV,zY]
 rw[bD (U:=Nat×List Int) (en:=Sn) (src:=.fix ((Do 0 ks).map Sn)) (g:=cu 2 3e2) (t:=jl) (e:=l4) (Z1:=M) (q:=λp=>c.testBit p.1) (h:=λp=>aw p.2) (λb=>∃o d,b=[o,d,some (nD c)]) 5e1 (us:=Do 0 ks) (acc:=[]) (ρ:=cD [none,none,some 1] [some 3e9,some (nD c)]) ⟨none,none,rfl⟩ (by rw[Lf];exact Ub (show 0+ks.length<=1000 by omega) bH) (λp P a b hR=>by
  obtain⟨o,d,rfl⟩:=hR;refine⟨[some (.int (p.1:Int)),some (aw p.2),some (nD c)],⟨_,_,rfl⟩,rfl,?_,λ_=>rfl⟩;unfold jl;rw[dQ,aD,aD];dsimp[aj,ag,bg,aa];rw[show My (nD c) (.int (p.1:Int)) (M++[O.lst a])=.ok (.int ((c:Int) / 2^((p.1:Int)).toNat)) (M++[O.lst a]) from og (show (0:Int)<=(p.1:Int) by omega),aa,U6];rw[show (c:Int) / 2^p.1=((c / 2^p.1:Nat):Int) from by push_cast;rfl];rw[show Dz (.int ((c / 2^p.1:Nat):Int)) (.int 1) (M++[O.lst a])=.ok (.int (Builtin.bitAnd ((c / 2^p.1:Nat):Int) 1)) (M++[O.lst a]) from sI,Ly,aa];unfold AM;dsimp only;congr 1;rw[YS];apply Yp.mpr;rw[bne_iff_ne,Xy]
  omega),Vy]
 dsimp[aa];rw[jw (xs:=(je ks c).map aw) (by rw[aA];unfold je;rw[V4];rfl)];dsimp[ae,aL];refine cL ?_;rw[oM];exact i3.mpr λx H=>by obtain⟨k,_,rfl⟩:=We.mp H;exact A9
end
section
theorem tL:∀{ks:List 0e5},(∀k∈ks,m8 m k)->AQ ks.flatten=ks.map aw/\cc ks.flatten=ks.map ej
 |[],_=>⟨rfl,rfl⟩
 |k::ks,h=>by
  obtain⟨a,b,rfl,_⟩:=h k 0e9;obtain⟨A,u⟩:=tL (ks:=ks) λx d=>h x (by simp[d]);constructor
  ·show D.tup [.int a,.int b]::AQ ks.flatten=_;rw[A];rfl
  ·show PyData.tuple [.int a,.int b]::cc ks.flatten=_;rw[u];rfl
theorem Gf(i:m<=6):∀{ks:List 0e5},(∀k∈ks,m8 m k)->qK 0e8=some ks.flatten/\ks.flatten.length=2*ks.length
 |[],_=>⟨rfl,rfl⟩
 |k::ks,h=>by
  obtain⟨a,b,rfl,H,c,e⟩:=h k 0e9;obtain⟨A,u⟩:=Gf i (ks:=ks) λx d=>h x (by simp[d]);constructor
  ·show qK (.tup [.int a,.int b]::ks.map aw)=_;unfold qK;rw[T1 ⟨H,by omega,by omega,by omega⟩,A];rfl
  ·rw[Vp,U0,u,VF];simp;omega
theorem AY(h:GW m ks):IA m ks.flatten=aK m ks:=by
 unfold IA;rw[(tL (m:=m) h.2.2.2.2).1]
theorem Cq(h:GW m ks):yJ m ks=sr m ks.flatten:=by
 unfold sr yJ;rw[(tL (m:=m) h.2.2.2.2).2]
theorem Cs(h:GW m ks):AK m 1e8=some ks.flatten:=by
 obtain⟨d,B⟩:=Gf h.m6 h.2.2.2.2;have:=c0 h;show AK (m:Int) 2e7=_;unfold AK;dsimp only;rw[T1 rfl,d];dsimp only;rw[T1 0e1]
theorem zd:∀{L:List (List 0e5)},(∀l∈L,GW m l)->sD m (L.map (aK m))=some (L.map List.flatten)
 |[],_=>rfl
 |l::L,h=>by
  rw[Vi,Vi];unfold sD;rw[Cs (h l 0e9),zd λx d=>h x (by simp[d])]
theorem Ji{l:List 0e5}{L:List (List 0e5)}:nI ((l::L).map (aK m))=none:=by
 rw[Vi];unfold nI;rw[show vF (aK m l)=none from rfl]
theorem Ti(h:GW m ks):Qg ks.flatten:=(Cr (Cs h)).2
theorem z0:∀{ks ks':List 0e5},(∀k∈ks,m8 m k)->(∀k∈ks',m8 m k)->ks.flatten=ks'.flatten->ks=ks'
 |[],[],_,_,_=>rfl
 |[],k::r,_,h,e=>by
  obtain⟨a,b,rfl,_⟩:=h k 0e9;simp at e
 |k::r,[],h,_,e=>by
  obtain⟨a,b,rfl,_⟩:=h k 0e9;simp at e
 |k::r,K::R,h,f,e=>by
  obtain⟨a,b,rfl,_⟩:=h k 0e9;obtain⟨c,d,rfl,_⟩:=f K 0e9;dsimp[Vp,Wa,Vy,Yx]at e;obtain⟨rfl,rfl,e⟩:=e;rw[z0 (λx H=>h x (by simp[H])) (λx H=>f x (by simp[H])) e]
noncomputable def RL(m:Nat)(ks:List 0e5):List D:=(oJ so (((nH ks 9e6 7e7).map (je ks)).map List.flatten)).map (IA m)
theorem ng(h:GW m ks)(c:Nat):GW m (je ks c):=oX h (Hl ks c)
theorem F0:(RL m ks).length=(nH ks 9e6 7e7).length:=by
 unfold RL;rw[U1,iC.length_eq,U1,U1]
theorem A3(h:GW m ks)(a:d∈RL m ks):∃l,GW m l/\d=aK m l:=by
 unfold RL at a;obtain⟨k,H,rfl⟩:=We.mp a;have H:=iC.mem_iff.mp H;obtain⟨l,i,rfl⟩:=We.mp H;obtain⟨c,_,rfl⟩:=We.mp i;exact⟨_,ng h c,AY (ng h c)⟩
theorem RG(h:GW m ks)(H:ks.length<=9):(((nH ks 9e6 7e7).map (je ks)).map List.flatten).Nodup/\(((nH ks 9e6 7e7).map (je ks)).map List.flatten).length<64:=by
 constructor
 ·rw[V4,List.Nodup,XQ];refine(sS 7e7).imp_of_mem λ{a b} n B t z=>?_;have e:=z0 (m:=m) (ng h a).2.2.2.2 (ng h b).2.2.2.2 z;have:=Hm (tK h) (ji _ a n) (ji _ b B) e;omega
 ·rw[U1,U1];have:=Dl (m:=m) (n9 h) (FD h) (tK h) H;omega
theorem DN(h:GW m ks)(H:ks.length<=9)(hM:M[n]?=some (.lst (((nH ks 9e6 7e7).map (je ks)).map (aK m)))):cf [.obj n] M=.ok 9e2 (M++[.lst (RL m ks)]):=by
 obtain⟨y,V⟩:=RG h H;unfold cf;dsimp only;rw[hM];dsimp only;unfold RL;cases C:nH ks 9e6 7e7 with
 |nil=>
  dsimp[Vh];rw[show nI []=some [] from rfl];dsimp only;rw[T1 ⟨Ww,by decide⟩];simp[oJ]
 |cons c s=>
  rw[Vi,Ji];dsimp only;rw[show Cf ((je ks c::s.map (je ks)).map (aK m))=(m:Int) from rfl]
  rw[zd (m:=m) (L:=je ks c::s.map (je ks)) (λl i=>by
   rw[<- Vi]at i;obtain⟨x,_,rfl⟩:=We.mp i
   exact ng h x)]
  dsimp only;rw[C,Vi]at y V;rw[T1 ⟨y,V⟩]
theorem Br(h:GW m ks)(H:ks.length<=9):∃g r,j1 [aK m ks,.int 2] Z=.ok (.obj r) (Z++g)/\(Z++g)[r]?=some (.lst (RL m ks))/\Z.length<=r:=by
 obtain⟨g,r,W,w,G⟩:=tX (Z:=Z) h;let s:=nH ks 9e6 7e7
 let b:aC:=Z++g
 have l:=wC (ks:=ks) (es:=EV m ks) 7e7 0e1
 have C:=bD (U:=Nat) (en:=nD) (src:=.own r (s.map nD)) (g:=ai 0) (t:=a9) (e:=jF) (Z1:=b) (q:=λ_=>true) (h:=λc=>aK m (je ks c)) (λd=>∃o,d=[o,some 5e6,some 3e9]) (λ_=>aI w) (us:=s) (acc:=[]) (ρ:=[none,some 5e6,some 3e9]) ⟨none,rfl⟩ (by dsimp[V8];exact Ub (show 0+s.length<=100000 by show 0+(nH ks 9e6 7e7).length<=_;omega) 1e2) (λc i a d hR=>by
  obtain⟨o,rfl⟩:=hR;refine⟨[some (nD c),some 5e6,some 3e9],⟨_,rfl⟩,rfl,rfl,λ_=>?_⟩;unfold jF;dsimp[cQ,aq,av,au,aj,ag,aa];rw[DM 0e1];dsimp[aa]
  rw[T1 (show ([D.int m,D.tup _]:List D).length<=sizeLine from l2)])
 rw[bz,Vy]at C
 have hM:(b++[.lst (s.map λc=>aK m (je ks c))])[b.length]?=some (.lst ((s.map (je ks)).map (aK m))):=by
  rw[aA,V4];rfl
 have S:=DN h H hM;have eM:b++[O.lst (s.map λc=>aK m (je ks c))]++[O.lst (RL m ks)]=Z++(g++[O.lst (s.map λc=>aK m (je ks c))]++[O.lst (RL m ks)]):=by simp[b]
 refine⟨_,(b++[O.lst (s.map λc=>aK m (je ks c))]).length,?_,by rw[<- eM];exact aA,by simp[b]⟩;rw[<- eM];unfold j1;rw[bS,show (some 1e8::some (D.int 2)::List.replicate (4-2) none:Ro)=[some 1e8,some 11e4,none,none] from rfl];unfold ur;rw[aG,aT,ag,ae];rw[show cu 2 8e6 1e8 [some 1e8,some 11e4,none,none] Z=.ok [some 1e8,some 11e4,some 5e6,some 3e9] Z from rfl];dsimp[ae,az];rw[aS,au,aq,bp,ba,au];dsimp[aq,av,cQ,aj,ag,aa,V8];rw[T1 (VQ sizeLine)];dsimp[aa];rw[W,aa,b8 w,aa,bw];rw[show compLoop (.own r ((nH ks 9e6 7e7).map nD)) (Z++g).length 9e1 a9 jF ((nH ks 9e6 7e7).map nD) (cD [none,some 2,some 3] [some 1e8,some 11e4,some 5e6,some 3e9]) (Z++g++[.lst []])=_ from C];dsimp[aa];rw[S];dsimp[ae,aL];exact jQ (by simp[b])
theorem tW(h:GW m ks)(H:ks.length<=9):∃g r,gw [aK m ks] Z=.ok (.obj r) (Z++g)/\(Z++g)[r]?=some (.lst (RL m ks))/\Z.length<=r:=by
 obtain⟨g,r,W,w,G⟩:=Br (Z:=Z) h H;refine⟨g,r,?_,w,G⟩;unfold gw;rw[bX];unfold uq;rw[aS,au];dsimp[aq,av,ag,bg,aa,W,ae,aL];exact jQ 6e9
theorem sZ(h:GW m ks)(h12:ks.length<=12):cS [aK m ks] M=.ok .non M:=by
 unfold cS;rw[bX,show (some 1e8::List.replicate (2-1) none:Ro)=[some 1e8,none] from rfl];unfold pL;rw[aG,aT,au];dsimp[aq,av,aD,ag,bg,aa];rw[show cM 1e8 (.int 1) M=.ok 3e9 M from rfl];dsimp[aa,fw,U1,ae,bj,az,Yf,Yg];rw[bL];dsimp[bW,aD,aj,ag,bg,aa,cq,aX,ae];rw[show cmpI .Gt (ks.length:Int) 12=false from TY 0e1];dsimp[VE,U8,bI];exact bo 0e9
theorem oU(h:GW m ks)(H:ks.length<=9):bQ [aK m ks] Z=.ok (.int ((RL m ks).length:Int)) Z:=by
 obtain⟨g,r,W,w,G⟩:=tX (Z:=Z) h
 have q:fj [aK m ks,.tup []] Z=.ok (.obj r) (Z++g):=by
  unfold fj;rw[bS];unfold m3;rw[aS,au];dsimp[aq,av,aj,ag,bg,aa,W,ae,aL];exact jQ 6e9
 unfold bQ;rw[bX];unfold pH;rw[aG,d5,au];dsimp[aq,av,ag,aa,sZ h (show ks.length<=12 by omega),ae,az];rw[aS,au,aq,au];dsimp[aq,av,cQ,ag,aa,V8];rw[T1 (VQ sizeLine)];dsimp[aa];rw[q];dsimp[aa];rw[rZ w];dsimp[ae,aL,U1];rw[F0];exact cL 0e9
def Qa:List D->D
 |[]=>.non
 |x::_=>x
theorem GN(h:GW m ks)(j:ks.length<=9):g9 [aK m ks] Z=.ok (Qa (RL m ks)) Z:=by
 obtain⟨g,r,W,n,p⟩:=tW (Z:=Z) h j;unfold g9;rw[bX];unfold pJ;rw[aG,d5,au];dsimp[aq,av,ag,aa,sZ h (show ks.length<=12 by omega),ae,az];rw[aS,au,aq,au];dsimp[aq,av,ag,aa,W]
 rw[show vL [.obj r] (Z++g)=.ok (Qa (RL m ks)) (Z++g) from by
  unfold vL;dsimp only;rw[n];cases hR:RL m ks with
  |nil=>rfl
  |cons x l=>
   dsimp only;rw[T1]
   ·rfl
   ·rw [WI];intro y σ;have w:=zx (key:=so) (ks:=((nH ks 9e6 7e7).map (je ks)).map List.flatten);unfold RL at hR;cases S:oJ so (((nH ks 9e6 7e7).map (je ks)).map List.flatten) with
    |nil=>rw[S]at hR;cases hR
    |cons K R=>
     rw[S]at w hR
     have good:∀k∈K::R,∃l,GW m l/\k=l.flatten:=λk H=>by
      rw[<- S]at H;obtain⟨l,i,rfl⟩:=We.mp (iC.mem_iff.mp H);obtain⟨c,_,rfl⟩:=We.mp i;exact⟨_,ng h c,rfl⟩
     rw[Vi]at hR;obtain⟨X,i⟩:=V9 hR;rw[<- X,<- i,<- Vi]at σ;obtain⟨k,H,rfl⟩:=We.mp σ;obtain⟨l1,a,b⟩:=good k H;obtain⟨L,G,E⟩:=good K 0e9
     have le:so K<=so k:=by
      rcases Uh.mp H with rfl|H
      ·exact Int.le_refl _
      ·exact(Wn.mp w).1 k H
     subst b E;rw[<- X,AY a,AY G];unfold Mu;rw[rP a,rP G];dsimp only;rw[rQ a,rQ G,Cq a,Cq G,(qe m).lt _ _ (Ti a) (Ti G),show decide (so l1.flatten<so L.flatten)=false from TY 0e1]
     simp]
 dsimp[ae,aL];refine cL ?_;cases hR:RL m ks with
 |nil=>simp[Qa]
 |cons x l=>
  obtain⟨o,f,e⟩:=A3 h (d:=x) (by rw[hR];simp);show x.low 5e2;rw[e];exact dR f
theorem Nz(h:GW m ks)(H:ks.length<=9):∃g r,gH [aK m ks] Z=.ok (.obj r) (Z++g)/\(Z++g)[r]?=some (.lst (RL m ks))/\Z.length<=r:=by
 obtain⟨g,r,W,w,G⟩:=tW (Z:=Z) h H
 have l:(RL m ks).length<=63:=by
  rw[F0];exact Dl (m:=m) (n9 h) (FD h) (tK h) H
 refine⟨g,r,?_,w,G⟩
 have c:fX [.obj r] (Z++g)=.ok .non (Z++g):=by
  unfold fX;rw[bX];unfold nW;rw[bL];dsimp[bW,aD,au,aq,av,ag,bg,aa];rw[rZ w];dsimp[aa,cq,aX,ae];rw[show cmpI .Gt ((RL m ks).length:Int) 300=false from TY 0e1];dsimp[VE,U8,bI];exact bo 0e9
 unfold gH;rw[bX,show (some 1e8::List.replicate (2-1) none:Ro)=[some 1e8,none] from rfl];unfold rf;rw[aG,d5,au];dsimp[aq,av,ag,aa,sZ h (show ks.length<=12 by omega),ae,az];rw[aG,aT,au];dsimp[aq,av,ag,aa,W,ae,bj,az,Yf,Yg];rw[aG,d5,au];dsimp[aq,av,aj,ag,aa,c,ae,az];rw[aS];dsimp[aj,ag,ae,aL];exact jQ 6e9
end
section
variable{kw:List 0e5}
theorem vH{x y:Int}:R (m9 ks) x 1 y↔y=x\/m9 ks x y:=by
 constructor
 ·intro z;rcases z with z|⟨t,μ,G⟩
  ·exact .inl z
  ·have:t=x:=G;subst this;exact .inr μ
 ·rintro (rfl | z)
  ·exact(show R (m9 ks) y 0 y from rfl).mono 1e2
  ·exact R.one z
theorem eo(h:GW m ks){p:Int}:q∈gM m ks p↔(0<=q/\q<(m:Int))/\R (m9 ks) p 1 q:=by
 unfold gM;rw[T9,fH,XU,Xy,sX h.2.2.2.2,vH,gh h.2.2.2.2]
theorem my{p:Nat}(d:p<m):(cF m ks).getD p []=gM m ks (p:Int):=by
 have:(rg m)[p]?=some (p:Int):=by
  unfold rg;rw[UX,Xw d];rfl
 rw[W7,UX,this];rfl
theorem F1:(rg m).Pairwise (·<·):=Fq
theorem jH(h:GW m ks):rm (cF m ks):=by
 have b:=h.m0;have a:=h.m6;refine⟨by rw[dS];exact⟨b,a⟩,λl i n N=>?_,λl i=>?_,λp d=>?_,λp d q H=>?_⟩
 ·rw[dS];exact(ku a i).2 n N
 ·obtain⟨p,_,rfl⟩:=We.mp i;exact F1.filter _
 ·rw[dS]at d;rw[my d,eo h];exact⟨by omega,vH.mpr 8e9⟩
 ·rw[dS]at d;rw[my d,eo h]at H;obtain⟨n,rfl⟩:=YW H.1.1;rw[U6,my 0e1,eo h];exact⟨by omega,H.2.rev λx y z=>AW h z⟩
theorem QJ(h:GW m ks):eK ((Iz (cF m ks)).map mm)=ks:=by
 have m0:=h.m0;have m6:=h.m6
 have C:∀p∈Iz (cF m ks),PP m p:=λp d=>by
  have:=Fg (jH h) p d;rw[dS]at this;exact this
 refine oY (ki m0 m6 C) h λa b=>?_;rw[tf m6 C];constructor
 ·rintro ⟨p, d, e⟩
  unfold Iz at d;obtain⟨r,g,d⟩:=Yh.mp d;unfold yL at d;obtain⟨q,H,rfl⟩:=We.mp d;rw[T9,Xy]at H;obtain⟨R,i⟩:=rW g;rw[dS]at R;rw[<- i,my R,eo h]at H;unfold mm at e;dsimp[Yx,YA]at e;have E:a=(r.1:Int):=by omega
  have B:b=q:=by omega
  rw[E,B];rcases vH.mp H.1.2 with z|z
  ·omega
  ·rcases (gh h.2.2.2.2).mp z with z | z
   ·exact z
   ·obtain⟨x,y,e,_⟩:=h.2.2.2.2 _ z;dsimp[Yx,YA]at e;omega
 ·intro k;obtain⟨x,y,e,c,f,j⟩:=h.2.2.2.2 _ k;cases e;obtain⟨n,rfl⟩:=YW c;have N:n<m:=by omega
  refine⟨((n:Int),b),?_,?_⟩
  ·unfold Iz;refine Yh.mpr ⟨(n,(cF m ks).getD n []),OO (by rw[dS];exact N),?_⟩;unfold yL;refine We.mpr ⟨b,?_,rfl⟩;rw[T9,Xy];refine⟨?_,f⟩;show b∈(cF m ks).getD n [];rw[my N,eo h];exact⟨by omega,vH.mpr (.inr ((gh h.2.2.2.2).mpr (.inl k)))⟩
  ·unfold mm;rw[Yt 13e2,Yu 13e2]
theorem Ry(h:GW m ks):eK ((LI (cF m ks)).map mm)=kP m ks 2:=by
 have m0:=h.m0;have m6:=h.m6
 have C:∀p∈LI (cF m ks),PP m p:=λp d=>by
  have:=FC (jH h) p d;rw[dS]at this;exact this
 refine oY (ki m0 m6 C) (f9 m0 m6) λa b=>?_;rw[tf m6 C,sM m6];constructor
 ·rintro ⟨p, d, e⟩
  unfold LI at d;obtain⟨l,L,d⟩:=Yh.mp d;obtain⟨x,X,d⟩:=Yh.mp d;unfold fL at d;obtain⟨y,σ,rfl⟩:=We.mp d;rw[T9,Xy]at σ;obtain⟨c,i,rfl⟩:=We.mp L;rw[eo h]at X;have H:=(eo h).mp σ.1;unfold mm at e;dsimp[Yx,YA]at e;have E:a=x:=by omega
  have B:b=y:=by omega
  rw[E,B];exact⟨X.1.1,σ.2,H.1.2,(X.2.rev λx y z=>AW h z).add H.2⟩
 ·rintro ⟨o, g, q, r⟩
  obtain⟨c,f,j⟩:=r9 (n:=1) (k:=1) r
  have i:0<=c/\c<(m:Int):=by
   rcases vH.mp f with z|z
   ·omega
   ·exact(IR h z).2
  refine⟨(a,b),Yh.mpr ⟨gM m ks c,We.mpr ⟨c,fH.mpr i,rfl⟩,Yh.mpr ⟨a,(eo h).mpr ⟨by omega,f.rev λx y z=>AW h z⟩,?_⟩⟩,?_⟩
  ·unfold fL;exact We.mpr ⟨b,T9.mpr ⟨(eo h).mpr ⟨by omega,j⟩,VA g⟩,rfl⟩
  ·unfold mm;rw[Yt 13e2,Yu 13e2]
theorem vR(h:GW m ks)(i:l∈cF m ks):vC m l/\oG (kP m ks 2) l=true:=by
 have s:=jH h;obtain⟨p,P,rfl⟩:=We.mp i;have u:=fH.mp P;refine⟨⟨?_,F1.filter _,λx X=>(ku h.m6 i).2 x X⟩,?_⟩
 ·intro z;have:p∈gM m ks p:=(eo h).mpr ⟨u,vH.mpr 8e9⟩;rw[z]at this;cases this
 ·rw[i5];intro a n b d B;have H:=(eo h).mp n;have c:=(eo h).mp d;rw[sX (f9 h.m0 h.m6).2.2.2.2];left;rw[sM h.m6];exact⟨H.1.1,B,c.1.2,(H.2.rev λx y z=>AW h z).add c.2⟩
theorem HR(h:GW m kw)(R:vC m k)(C:oG kw k=true):∃o∈EY m kw,∀x∈k,x∈o:=by
 have d:=Mb R C
 have key:∀(n:Nat)(k:List Int),k∈kn kw m->m<=k.length+n->∃o∈kn kw m,(∀x∈k,x∈o)/\PN (kn kw m) o=true:=by
  intro n
  induction n with
  |zero=>
   intro k d N;refine⟨k,d,λx H=>H,?_⟩;unfold PN;rw[Xy,YI];intro o G;have:=rT (pY G).1;simp;intro z;omega
  |succ n I=>
   intro k d N;by_cases z:PN (kn kw m) k=true
   ·exact⟨k,d,λx H=>H,z⟩
   ·unfold PN at z;rw[Xy,YI]at z
    have:∃o∈kn kw m,(decide (k.length<o.length)&&(k.all λx=>decide (x∈o)))=true:=by
     apply Wg;intro O;exact z λo G j=>O ⟨o,G,j⟩
    obtain⟨o,G,j⟩:=this;rw[Vf,Xy,WI]at j;obtain⟨e,i,a,c⟩:=I o G 0e1;exact⟨e,i,λx H=>a x (Yr (j.2 x H)),c⟩
 obtain⟨o,G,a,c⟩:=key m k d 0e1;refine⟨o,?_,a⟩;unfold EY;refine tZ.mem_iff.mpr (T9.mpr ⟨G,?_⟩);rw[<- Em h G λ_=>Iff.rfl];exact c
end
theorem Ga(h:k.length<1000):Kn Z (bc k):=by
 dsimp[Kn,U1];exact⟨h,oO.mpr λx d=>by obtain⟨i,_,rfl⟩:=We.mp d;simp[Kn]⟩
theorem Rw(h:ls.length<1000)(h':∀l∈ls,l.length<1000):Kn Z (jM ls):=by
 dsimp[Kn,U1];exact⟨h,oO.mpr λx d=>by obtain⟨l,i,rfl⟩:=We.mp d;exact Ga (h' l i)⟩
theorem Gi{t u:Nat}{ps:List PyData}(J:M[t]?=some 7e5)(U:M[u]?=some (.lst []))(d:gB M xs=some ps)(F:fitP (.list ps)=true):kc false 10e5 (.obj u) M=.ok (.bl xs.isEmpty) M:=by
 have e:nG M 10e5=some (.list ps):=by
  unfold nG;dsimp only;rw[J];dsimp only;rw[d];rfl
 have B:nG M (.obj u)=some (.list []):=by
  unfold nG;dsimp only;rw[U];rfl
 unfold kc;rw[e,B];dsimp only;rw[T1 ⟨F,rfl⟩];congr 2;cases xs with
 |nil=>
  dsimp[gB,WC]at d;subst d;rfl
 |cons x r=>
  cases ps with
  |nil=>
   exfalso;dsimp[gB]at d;cases H:AN M x with
   |none=>rw[H]at d;cases d
   |some a=>
    rw[H]at d;cases c:gB M r with
    |none=>rw[c]at d;cases d
    |some b=>rw[c]at d;cases d
  |cons p q=>simp[PyData.eqv,PyData.eqvAll]
theorem KS{w:List Int}:fitP (.list (w.map PyData.int))=true:=by
 have:=mC w;dsimp[fitP,PyData.canLay0,this.1,PyData.depth,this.2,Ya];rfl
theorem Li{K:List 0e5}:fitP (.list (K.map ej))=true:=by
 have:=A0 K;dsimp[fitP,PyData.canLay0,this.1,PyData.depth,Ya];exact VA (by have:=this.2;omega)
section
variable{ko kw:List 0e5}
theorem tH(h:GW m ko):Kn Z (jM (cF m ko)):=Rw (by rw[dS];have:=h.m6;omega) λl i=>by have:=(ku h.m6 i).1;omega
theorem LQ(h:GW m ko):gQ [jM (cF m ko)] Z=.ok (aK m ko) Z:=by
 have:=GH (Z:=Z) (jH h) (tH h);rw[dS,QJ h]at this;exact this
theorem LU(h:GW m ko):dZ [jM (cF m ko)] Z=.ok (aK m 10e8) Z:=by
 have:=DK (Z:=Z) (jH h) (tH h);rw[dS,Ry h]at this;exact this
theorem LR(h:GW m ko):cy [jM (cF m ko)] Z=.ok 6e7 Z:=by
 rw[zq (tH h),tU (jH h)]
theorem GL(h:GW m ko)(W:GW m kw):g8 [aK m kw,jM (cF m ko)] Z=.ok (.bl (decide (kP m ko 2=kw))) Z:=by
 unfold g8;rw[bS];dsimp[pI,List.replicate,aS,fx,au,aq,av,aj,ag,aa,LR h,aX,U9,aD,LU h,Qc (f9 h.m0 h.m6) W,VE,U8,ae,aL];exact bo 0e9
theorem GI(h:GW m ko)(W:GW m kw):jb [aK m kw,aK m ko] Z=.ok (.bl (decide (kP m ko 2=kw))) Z:=by
 unfold jb;rw[bS];dsimp[qW,List.replicate,aS,fx,au,aq,av,aj,ag,aa,Bo h,aX,U9,aD,A1 h,Qc (f9 h.m0 h.m6) W,VE,U8,ae,aL];exact bo 0e9
theorem Rp{a:Bool}:kc true (.bl a) (.bl a) M=.ok (.bl false) M:=by cases a <;> rfl
theorem K4(h:GW m ko)(i:l∈cF m ko):Cb m 10e8 (bc l)=true:=by
 obtain⟨⟨H,c,d⟩,a⟩:=vR h i;unfold Cb wU;rw[B9,a,L3 λn N=>by have:=d n N;omega,tu.mpr c,VA (XT.mpr H)];rfl
noncomputable def w6(m:Nat)(kw:List 0e5)(l:List Int):List 0e5:=(EY m kw).filter λo=>(l.filter λx=>!decide (x∈o)).isEmpty
theorem Kk{s:aC}{a:List D}{o:List Int}(i:l.length<=6):∃s1,c9 [some (bc o),some (bc l)] (M++.lst a::s)=.ok ((l.filter λx=>!decide (x∈o)).isEmpty) (M++.lst a::s1):=by
 let N:aC:=M++.lst a::s
 have c:=bD (U:=Int) (en:=D.int) (src:=.fix 8e8) (g:=ai 0) (t:=ee) (e:=gy) (Z1:=N) (q:=λx=>!decide (x∈o)) (h:=D.int) (λb=>∃z,b=[z,some (bc o)]) 5e1 (us:=l) (acc:=[]) (ρ:=[none,some (bc o)]) ⟨none,rfl⟩ (by dsimp[V8];exact Ub (show 0+l.length<=1000 by omega) bH) (λx d A b hR=>by
  obtain⟨z,rfl⟩:=hR;refine⟨[some 11e8,some (bc o)],⟨_,rfl⟩,rfl,?_,λ_=>rfl⟩;unfold ee
  dsimp[bW,aD,aj,ag,aa,Ce,U9,aX])
 rw[Vy]at c;refine⟨s++[.lst ((l.filter λx=>!decide (x∈o)).map D.int)]++[.lst []],?_⟩;unfold c9;rw[bW,aD,bp,ba];dsimp[aj,ag,aa];rw[vG,aa,aV];rw[show compLoop (.fix 8e8) (M++O.lst a::s).length 9e1 ee gy 8e8 (cD [none,some 0] [some (bc o),some (bc l)]) (M++O.lst a::s++[.lst []])=_ from c];rw[aa,lF,aa];rw[Gi (xs:=(l.filter λx=>!decide (x∈o)).map D.int) (ps:=(l.filter λx=>!decide (x∈o)).map .int) (aI aA) aA (oW _) KS];dsimp[aa,aX,List.isEmpty_map];simp[N]
theorem Kl{t:Nat}{o5 o6:Option D}{g:aC}(h:GW m ko)(W:GW m 10e8)(i:l∈cF m ko)(J:(Z++g)[t]?=some (.lst ((EY m 10e8).map bc))):
  ∃g' p6,eg [some (aK m 10e8),some (aK m ko),some (jM (cF m ko)),some 6e7,some 10e5,some (bc l),o6] (Z++g)=.next [some (aK m 10e8),some (aK m ko),some (jM (cF m ko)),some 6e7,some 10e5,some (bc l),p6] (Z++(g++g')):=by
 have L:l.length<=6:=(ku h.m6 i).1;let K:=EY m 10e8
 have j:K.length<=63:=by
  show (yX _).length<=63;rw[tZ.length_eq];exact Ub (Yi _ _) (Fz W.m6)
 obtain⟨S,C⟩:=pf (U:=List Int) (en:=bc) (src:=.own t (K.map bc)) (g:=ai 0) (t:=c9) (e:=gx) (M0:=Z++g) (q:=λo=>(l.filter λx=>!decide (x∈o)).isEmpty) (h:=bc) (λb=>∃z,b=[z,some (bc l)]) (λ_ _=>aI J) (us:=K) (acc:=[]) (ρ:=[none,some (bc l)]) (s:=[]) ⟨none,rfl⟩ (by dsimp[V8];exact Ub (show 0+K.length<=1000 by omega) bH) (λx d a s b hR=>by
  obtain⟨z,rfl⟩:=hR;obtain⟨f,E⟩:=Kk (M:=Z++g) (a:=a) (s:=s) (o:=x) L
  exact⟨[some (bc x),some (bc l)],f,⟨_,rfl⟩,rfl,E,λ_=>rfl⟩)
 rw[Vy]at C;let N:aC:=(Z++g)++.lst ((w6 m 10e8 l).map bc)::S
 have ne:(w6 m 10e8 l)≠[]:=by
  obtain⟨r,c⟩:=vR h i;obtain⟨o,G,H⟩:=HR W r c
  have:o∈w6 m 10e8 l:=by
   unfold w6;rw[T9];refine⟨G,?_⟩;rw[List.isEmpty_iff,YI];intro x d;simp[H x d]
  exact λz=>by rw[z]at this;cases this
 refine⟨.lst ((w6 m 10e8 l).map bc)::(S++[.lst []]),some (.obj (Z++g).length),?_⟩;unfold eg;rw[aG,aT,bp];dsimp[ba,aj,ag,aa];rw[b8 J,aa,bw];rw[show compLoop (.own t (K.map bc)) (Z++g).length 9e1 c9 gx (K.map bc) (cD [none,some 5] [some (aK m 10e8),some (aK m ko),some (jM (cF m ko)),some 6e7,some 10e5,some (bc l),o6]) (Z++g++[.lst []])=.ok (.obj (Z++g).length) N from C];dsimp[ae,bj,az,Yf,Yg];rw[bL,mu,dG,dQ,au];dsimp[aq,av,aj,ag,aa];rw[GK W (Ga 0e1),K4 h i];dsimp[aa,cG,WK,VE,U8,bW,aD,aj,ag];rw[lF,aa];rw[Gi (xs:=(w6 m 10e8 l).map bc) (ps:=(w6 m 10e8 l).map ej) (aI aA) aA (xy _) Li]
 rw[show ((w6 m 10e8 l).map bc).isEmpty=false from by
  cases I:w6 m 10e8 l with
  |nil=>exact absurd I ne
  |cons=>rfl]
 dsimp[aa,aX,ae,VE,U8,bI];simp[N]
theorem mI(h:GW m ko)(W:GW m kw):bZ [aK m kw,aK m ko] Z=.ok 6e7 Z:=by
 have k:=h.m6
 have C:=bD (U:=Int) (en:=D.int) (src:=.fix 8e4) (g:=ai 0) (t:=a9) (e:=eh) (Z1:=Z) (q:=λ_=>true) (h:=λp=>bc (gM m ko p)) (λc=>∃z,c=[z,some (aK m ko)]) 5e1 (us:=rg m) (acc:=[]) (ρ:=[none,some (aK m ko)]) ⟨none,rfl⟩ (by rw[lB];exact Ub (show 0+m<=1000 by omega) bH) (λp P a c hR=>by
  obtain⟨z,rfl⟩:=hR;refine⟨[some 8e3,some (aK m ko)],⟨_,rfl⟩,rfl,rfl,λ_=>?_⟩;unfold eh;dsimp[au,aq,av,aj,ag,aa]
  exact CC h (fH.mp P))
 rw[bz,Vy]at C;let b:aC:=[.lst ((rg m).map λp=>bc (gM m ko p))]
 have T:fJ [.obj 5e2] (Z++b)=.ok (jM (cF m ko)) (Z++b):=jw (xs:=(cF m ko).map bc) (by rw[show (Z++b)[5e2]?=_ from aA,V4];rfl);unfold bZ;rw[bS,show (some (aK m kw)::some (aK m ko)::List.replicate (7-2) none:Ro)=[some (aK m kw),some (aK m ko),none,none,none,none,none] from rfl];unfold lu;rw[aG,aT];dsimp[au,aq,av,aj,ag,aa,tV h,ae,bj,az,Yf,Yg];rw[aG,bL];dsimp[mu,dG,dQ,bW,aD,au,aq,av,aj,ag,aa,LR h,cG,WK,VE,U8,LQ h,Qc h h,U9,decide_true,aX,LU h,A1 h,Qc (f9 h.m0 h.m6) (f9 h.m0 h.m6),ae,bI,az];rw[aG,bL,bW,aD];dsimp[aj,ag,aa];rw[au,aq,bp,cH];dsimp[aq,av,aD,bg,aj,ag,aa];rw[show cM (aK m ko) (.int 0) Z=.ok 5e6 Z from rfl];dsimp[aa];rw[fv 0e1 0e1,aa,aV,sN];rw[show compLoop (.fix 8e4) 5e2 9e1 a9 eh 8e4 (cD [none,some 1] [some (aK m kw),some (aK m ko),some (jM (cF m ko)),none,none,none,none]) (Z++[.lst []])=.ok 1e4 (Z++b) from C];dsimp[aa];rw[T];dsimp[aa];rw[Xs (neg:=true) Na Nf];dsimp[aa,WK,aX,ae,VE,U8,bI,az];rw[aG,aT];dsimp[au,aq,av,aj,ag,aa,GL h W,ae,bj,az,Yf,Yg];rw[aG,bL];dsimp[bW,aD,au,aq,av,aj,ag,aa,GI h W,Rp,aX,ae,VE,U8,bI,az];rw[aG,bL];dsimp[dG,dQ,aj,ag,aa,cG,ae];by_cases e:kP m ko 2=kw
 ·subst e;rw[VA rfl];dsimp[WK,VE,U8,bI,az];obtain⟨t,G,S,N,u⟩:=GM (Z:=Z++b) W;rw[aG,aT];dsimp[au,aq,av,aj,ag,aa,S,ae,bj,az,Yf,Yg]
  obtain⟨f,j,⟨d,eM,J,_,o,O,eρ⟩,R⟩:=lE (src:=.fix ((cF m ko).map bc)) (g:=ai 5) (fb:=eg)
   (λs c M=>∃g,M=Z++g/\M[t]?=some (.lst ((EY m 10e8).map bc))/\(∀z∈s,∃l∈cF m ko,z=bc l)/\∃o O,c=[some (aK m 10e8),some (aK m ko),some (jM (cF m ko)),some 6e7,some 10e5,o,O])
   (λ_ _ _=>trivial)
   (λx r c M hJ => by
    obtain⟨g,rfl,J,μ,o,O,rfl⟩:=hJ;obtain⟨l,i,rfl⟩:=μ x 0e9;obtain⟨d,n,e⟩:=Kl (o5:=o) (o6:=O) h W i J
    exact⟨trivial,_,_,_,_,rfl,e,_,rfl,by rw[<- Vr];exact aI J,λz H=>μ z (by simp[H]),_,_,rfl⟩)
   (xs:=(cF m ko).map bc) (ρ:=[some (aK m 10e8),some (aK m ko),some (jM (cF m ko)),some 6e7,some 10e5,none,none]) (Z:=Z++b++G)
   ⟨b++G,by rw[Vr],N,λz μ=>by obtain⟨l,i,rfl⟩:=We.mp μ;exact⟨l,i,rfl⟩,_,_,rfl⟩
  subst eM eρ;rw[aG,fI];dsimp[ba,aj,ag,aa,jx,ae,aV];rw[R,az,aS,bg,ae,aL];exact cL 0e9
 ·rw[TY e];dsimp[WT,U9,aS,bg,ae,mn,aL];exact cL 0e9
end
section
variable{k0:List 0e5}{S:Nat}
abbrev Qb(i S:Nat)(d:D):Ro:=[some (.obj i),some d,some (.int 9),some (.obj S)]
theorem HV(hi:i<Z0.length)(hS:Z0.length<=S):∀(c:Nat)(ks:List 0e5)(M:aC),Pn Z0 i M->M[S]?=some (.lst 0e8)->ks.length<=15->ks.length<=9+c ->
  ∃(ks':List 0e5)(M':aC),jS (il (aF (d0 .Gt) (ax ik 10e9) 10e7)) dz (c+1) (Qb i S d) M=.next (Qb i S d) M'/\Pn Z0 i M'/\M'[S]?=some (.lst (ks'.map aw))/\ks'.Sublist ks/\ks'.length<=9:=by
 intro c
 have cond:∀(ks:List 0e5)(M:aC),M[S]?=some (.lst 0e8)->il (aF (d0 .Gt) (ax ik 10e9) 10e7) (Qb i S d) M=.ok (decide (9<ks.length)) M:=λks M hM=>by
  rw[bW,aD,au];dsimp[aq,av,aj,ag,aa];rw[rZ hM];dsimp[aa,cq,aX,U1];congr 1;show decide ((ks.length:Int)>9)=_;rw[X6];omega
 induction c with
 |zero=>
  intro ks M hP hM h15 H;refine⟨ks,M,?_,hP,hM,YX _,by omega⟩;unfold jS;rw[cond ks M hM,ae,TY 0e1,T3 UA]
 |succ c I=>
  intro ks M hP hM h15 H;by_cases z:9<ks.length
  ·obtain ⟨v, a, b, C, j, l, h, hP1⟩ := hP.draw (m := ks.length) hi 0e1 0e1;let e:aC:=M.set i (df a b C)
   have hM1:e[S]?=some (.lst 0e8):=mD hM 0e1;have V:v.toNat<ks.length:=by omega
   let f:aC:=e.set S (.lst ((ks.eraseIdx v.toNat).map aw))
   have pop:oh (.obj S) [.int v] e=.ok (aw ks[v.toNat]) f:=by
    unfold oh;dsimp only;rw[hM1];dsimp only;rw[pZ j (by rw[U1];exact l)];dsimp only;rw[UX,W6 V];dsimp only[Option.map_some];rw[T1 0e1,wx]
   have hSl:S<e.length:=(Ul.mp hM1).1;obtain⟨ks',M',E,B,U,g,k⟩:=I (ks.eraseIdx v.toNat) f (hP1.put hS) (Uo hSl) (by rw[List.length_eraseIdx];split <;> omega) (by rw[List.length_eraseIdx,T1 V];omega);refine⟨ks',M',?_,B,U,g.trans (List.eraseIdx_sublist _ _),k⟩;unfold jS;rw[cond ks M hM,ae,VA z,T1 rfl]
   have body:dz (Qb i S d) M=.next (Qb i S d) f:=by
    unfold dz;rw[d5,qL];dsimp[aj,ag,aa];rw[show B6 (.obj S) M=true from by unfold B6;dsimp only;rw[hM]];dsimp[U9,aq,av,au,aj,ag,aa];rw[rZ hM];dsimp[aa,U1];rw[h];dsimp[aa];rw[show oh (.obj S) [.int v] (M.set i (df a b C))=_ from pop];dsimp[ae]
   rw[body];exact E
  ·refine⟨ks,M,?_,hP,hM,YX _,by omega⟩;unfold jS;rw[cond ks M hM,ae,TY z,T3 UA]
theorem Nx{a b c:Int}(p:Z[i]?=some (df a b c))(h:GW m ks):∃(ks':List 0e5)(a' b' c':Int),ks'.Sublist ks/\ks'.length<=9/\eC [.obj i,aK m ks,.int 9] Z=.ok (aK m ks') (Z.set i (df a' b' c')):=by
 have I:i<Z.length:=(Ul.mp p).1;have l:=c0 h;let e:aC:=Z++[.lst 0e8]
 obtain⟨ks',f,g,B,U,E,k⟩:=HV (d:=aK m ks) I 6e3 99 ks e (Pn.self p).app aA l 0e1;obtain⟨a',b',c',G⟩:=B.gc (d:=aK m ks') (dR (oX h E));refine⟨ks',a',b',c',E,k,?_⟩;unfold eC;rw[oe,show (some (D.obj i)::some 1e8::some (D.int 9)::List.replicate (4-3) none:Ro)=[some (.obj i),some 1e8,some (.int 9),none] from rfl];unfold l5;rw[aG,aT,au];dsimp[aq,av,aD,bg,aj,ag,aa];rw[show cM 1e8 (.int 1) Z=.ok 3e9 Z from rfl];dsimp[aa];rw[show sJ [.tup 0e8] Z=.ok 1e4 e from rfl];dsimp[ae,bj,az,Yf,Yg];rw[aG];rw[show pW 100 (il (aF (d0 .Gt) (ax ik 10e9) 10e7)) dz [some (.obj i),some 1e8,some (.int 9),some 1e4] e=_ from g];rw[az,aS,cQ];dsimp[aq,av,aD,bg,au,aj,ag,aa];rw[show cM 1e8 (.int 0) f=.ok 5e6 f from rfl];dsimp[aa];rw[jw U];dsimp[aa];rw[T1 (show ([D.int m,D.tup _]:List D).length<=sizeLine from l2)];dsimp[ae,aL];exact G
theorem LA(hi:i<Z0.length)(h:Pn Z0 i Z1)(L:ks.length<=15):∃(qs:List 0e5)(Z2:aC),qs.Sublist ks/\Pn Z0 i Z2/\Z2.length=Z1.length /\
  compLoop (.fix 0e8) Z1.length 9e1 oR oT 0e8 [none,some (.obj i)] (Z1++[.lst []])=.ok (.obj Z1.length) (Z2++[.lst (qs.map aw)]):=by
 obtain⟨A,y,Z2,z,⟨p,d,B,⟨o,q⟩,qs,R,E,l,f,u⟩,N⟩:=mF (src:=.fix 0e8) (g:=ai 0) (t:=oR) (e:=oT) (n:=Z1.length)
  (λX σ j Z2 s=>s=[]/\Z2.length=Z1.length/\Pn Z0 i Z2/\(∃o,j=[o,some (.obj i)])/\∃qs R:List 0e5,X=R.map aw/\σ=qs.map aw/\(qs++R).Sublist ks/\qs.length+R.length<=ks.length)
  (λσ j Z2 s ⟨_,d,_⟩=>⟨d,trivial⟩)
  (λx r σ j Z2 s hJJ => by
   obtain⟨p,d,B,⟨o,q⟩,qs,R,E,l,f,u⟩:=hJJ;subst p q l;cases R with
   |nil=>cases E
   |cons k R=>
    rw[Vi]at E;obtain⟨ex,w⟩:=V9 E;subst ex w;dsimp[VF]at u;have I:i<Z2.length:=T6 hi B.len;obtain⟨v,a,b,c,V,C,U,P⟩:=(B.app (g:=[.lst (qs.map aw)])).draw (m:=2) hi 1e2 1e2;rw[xB I]at U;refine⟨d,trivial,[some (aw k),some (.obj i)],Z2,[],v == 0,Z2.set i (df a b c),[],rfl,?_,λH=>?_,λH=>?_⟩
    ·unfold oR;dsimp[bW,aD,au,aq,av,aj,ag,bg,aa,af,U,jh,VE,U8,aX]
    ·refine ⟨aw k, Z2.set i (df a b c), [], ?_, ?_, by simpa using d, rfl, by simpa using d, B.set hi, ⟨_, rfl⟩, qs ++ [k], R, rfl, by simp, by simpa using f, by simp; omega⟩
     ·unfold oT;rw[ag]
     ·rw[U1];exact T6 (show qs.length<1000 by omega) bH
    ·exact⟨rfl,by simpa using d,B.set hi,⟨_,rfl⟩,qs,R,rfl,rfl,(List.Sublist.append (YX qs) (List.sublist_cons_self k R)).trans f,by omega⟩)
  (xs:=ks.map aw) (ys:=[]) (ρ:=[none,some (.obj i)]) (Z1:=Z1) (s:=[])
  ⟨rfl,rfl,h,⟨_,rfl⟩,[],ks,rfl,rfl,by simp,by simp⟩
 subst p l;refine⟨qs,Z2,?_,B,d,N⟩;cases R with
 |nil=>simpa using f
 |cons=>cases E
def Tn(m:Nat)(ks:List 0e5)(d:D):Prop:=(RL m ks=[]/\d=.non)\/∃l r,RL m ks=aK m l::r/\GW m l/\d=jM (cF m l)
theorem DL(h:GW m ks)(H:ks.length<=9):∃d,Tn m ks d/\eH [aK m ks] Z=.ok d Z:=by
 have F:=GN (Z:=Z) h H;cases hR:RL m ks with
 |nil=>
  refine⟨.non,.inl ⟨hR,rfl⟩,?_⟩;rw[hR]at F;unfold eH;rw[bX,show (some 1e8::List.replicate (2-1) none:Ro)=[some 1e8,none] from rfl];unfold kO;rw[aG,aT,au];dsimp[aq,av,ag,aa,F,ae,bj,az,Yf,Yg,Qa];rw[aS,Mf];dsimp[bW,aD,aj,ag,bg,aa,sQ,VE,U8,D.isNon,aX,U9,ae,aL];exact bo 0e9
 |cons x r=>
  obtain⟨l,g,e⟩:=A3 h (d:=x) (by rw[hR];simp);subst e;refine⟨jM (cF m l),.inr ⟨l,r,hR,g,rfl⟩,?_⟩;rw[hR]at F;unfold eH;rw[bX,show (some 1e8::List.replicate (2-1) none:Ro)=[some 1e8,none] from rfl];unfold kO;rw[aG,aT,au];dsimp[aq,av,ag,aa,F,ae,bj,az,Yf,Yg,Qa];rw[aS,Mf];dsimp[bW,aD,aj,ag,bg,aa,sQ,VE,U8,D.isNon,aX,au,aq,av,tV g,ae,aL];refine bo ?_;rw[oM];exact i3.mpr λx X=>by obtain⟨k,_,rfl⟩:=We.mp X;exact A9
theorem JA(h:GW m ks)(H:ks.length<=9):jd [aK m ks] Z=.ok (.int ((RL m ks).length:Int)) Z:=by
 unfold jd;rw[bX];unfold qZ;rw[aS,au];dsimp[aq,av,ag,aa,oU h H,ae,aL];exact bo 0e9
end
theorem xA{o o':O}:(M++[o]).set 4e1 o'=M++[o']:=by
 rw[XW _ _ 6e3,Wz,Yg]
section
variable{a0 a1 a2 a3 a5 a7:Option D}
theorem HF(h:GW m ks)(H:ks.length<=9)(F:Tn m ks d):∃b7 g,(l8 (il 16e7) (a8 (bC (ax gH 7e3) (ai 7))
 (l8 13e4 6e6 (cz))) (cz)) [a0,a1,a2,a3,some 1e8,a5,some d,a7] M=.next [a0,a1,a2,a3,some 1e8,a5,some d,b7] (M++g):=by
 have R:=oU (Z:=M) h H;rw[bL]
 have C:il 16e7 [a0,a1,a2,a3,some 1e8,a5,some d,a7] M=.ok (decide (0<(RL m ks).length)&&decide ((RL m ks).length<40)) M:=by
  rw[bW,tM];dsimp[bg,au,aq,av,aj,ag,aa,R,cq,aX];by_cases z:0<(RL m ks).length
  ·rw[show cmpI .Lt 0 ((RL m ks).length:Int)=true from VA 0e1,VA z];dsimp[U9,bg,aa,cq,aX,Ya];congr 1;show decide (((RL m ks).length:Int)<40)=_;rw[X6];omega
  ·rw[show cmpI .Lt 0 ((RL m ks).length:Int)=false from TY 0e1,TY z];dsimp[VE,U8,aa,aX,UE]
 rw[C,ae];cases B:decide (0<(RL m ks).length)&&decide ((RL m ks).length<40) with
 |false=>
  refine⟨a7,[],?_⟩;rw[T3 UA,bI,UM]
 |true=>
  rw[T1 rfl];rw[Vf,Xy,Xy]at B;obtain⟨g,r,W,w,j⟩:=Nz (Z:=M) h H;rcases F with⟨e,_⟩|⟨l,i,eR,G,rfl⟩
  ·rw[e]at B;simp at B
  ·have c:=bD (U:=D) (en:=λx=>x) (src:=.own r (RL m ks)) (g:=ai 0) (t:=a9) (e:=oS) (Z1:=M++g) (q:=λ_=>true) (h:=λ_=>D.bl true) (λb=>∃z,b=[z,some 1e8]) (λ_=>aI w) (us:=RL m ks) (acc:=[]) (ρ:=[none,some 1e8]) ⟨none,rfl⟩ (by dsimp[V8];exact Ub (show 0+(RL m ks).length<=1000 by omega) bH) (λx X a b hR=>by
    obtain⟨z,rfl⟩:=hR;obtain⟨L,f,rfl⟩:=A3 h X;refine⟨[some (aK m L),some 1e8],⟨_,rfl⟩,rfl,rfl,λ_=>?_⟩;unfold oS;dsimp[au,aq,av,aj,ag,aa]
    exact mI f h)
   rw[bz,Vy,Ys]at c;have ix:cM (.obj r) (.int 0) (M++g)=.ok (aK m l) (M++g):=kF w (by rw[eR];exact zb);refine⟨some (.obj r),g++[.lst ((RL m ks).map λ_=>D.bl true)],?_⟩;rw[aG,aT];dsimp[au,aq,av,aj,ag,aa,W,ae,bj,az,Yf,Yg];rw[bL,mu,bW,aD];dsimp[au,aq,av,aD,bg,aj,ag,aa,LQ G,ix,Qc G G,decide_true,WK,U9,aX,VE,U8];rw[dG,dQ,au,aq,bp];dsimp[ba,aj,ag,aa];rw[b8 w,aa,bw];rw[show compLoop (.own r (RL m ks)) (M++g).length 9e1 a9 oS (RL m ks) (cD [none,some 4] [a0,a1,a2,a3,some 1e8,a5,some (jM (cF m l)),some (.obj r)]) (M++g++[.lst []])=_ from c];dsimp[aa,av];rw[gf (bs:=(RL m ks).map λ_=>true) (by rw[aA,V4];rfl)];rw[show ((RL m ks).map λ_=>true).all id=true from by rw[XH,WI];intro x _;rfl];dsimp[aa,cG,WK,ae,VE,U8,bI,Vr]
theorem KR{x:Int}{a4 a6:Option D}:∃(M':aC)(b2 b3 b4 b5 b6 b7:Option D),se [a0,some 11e8,a2,a3,a4,a5,a6,a7] M=.next [a0,some 11e8,b2,b3,b4,b5,b6,b7] M'/\∀(j:Nat)(o:O),M[j]?=some o->M'[j]?=some o:=by
 obtain⟨a,b,c,P⟩:=Nv (Z:=M) x;obtain⟨R,k,z,I,K,n,E⟩:=zu (Z:=M++[df a b c]) (i:=4e1) aA;rw[xA]at E;obtain⟨W,k2,Q,V,S,s,B⟩:=Ny (Z:=M++[df z I K]) (i:=4e1) aA;rw[xA]at B;obtain⟨t,G,A,C,σ,H,U⟩:=Nx (Z:=M++[df Q V S]) (i:=4e1) aA s;rw[xA]at U;have h:GW W t:=oX s σ;let N:aC:=M++[df G A C]
 have X:M.length<N.length:=by simp[N]
 obtain⟨q,p,μ,q2,q3,q4⟩:=LA (Z0:=N) (i:=4e1) (Z1:=N) (ks:=t) X (Pn.self aA) 0e1;have T:GW W q:=oX h μ;let f:aC:=p++[.lst (q.map aw)]
 have tp:fJ [.obj N.length] f=.ok (.tup (q.map aw)) f:=jw (by rw[<- q3];exact aA);obtain⟨d,y,F⟩:=DL (Z:=f) h H;obtain⟨b7,g,L⟩:=HF (M:=f) (a0:=a0) (a1:=some 11e8) (a2:=some 9e2) (a3:=some (aK R k)) (a5:=some (aK W q)) (a7:=a7) h H y
 have tst:il 13e3 [a0,some 11e8,some 9e2,some (aK R k),some (aK W t),some (aK W q),some d,a7] f=.ok false f:=by
  rw[bW,aD];dsimp[aD,au,aq,av,aj,ag,bg,aa,sQ,VE,U8,oU h H,jh];rcases y with⟨e,rfl⟩|⟨l,r,e,_,rfl⟩
  ·rw[e];dsimp[D.isNon,V8];rfl
  ·rw [e];have:(((aK W l::r).length:Int) == 0)=false:=by simp;omega
   rw[this];rfl
 refine⟨f++g,some 9e2,some (aK R k),some (aK W t),some (aK W q),some d,b7,?_,λj o J=>?_⟩
 ·unfold se;rw[aG,aT];dsimp[au,aq,av,aj,ag,aa,P,ae,bj,az,Yf,Yg];rw[aG,aT];dsimp[au,aq,av,aj,ag,bg,aa,E,ae,bj,az,Yf,Yg];rw[aG,aT];dsimp[au,aq,av,aj,ag,bg,aa,B,U,ae,bj,az,Yf,Yg];rw[aG,aT,cQ,aq,aD];dsimp[aj,ag,bg,aa];rw[show cM (aK W t) (.int 0) (M++[df G A C])=.ok (.int W) (M++[df G A C]) from rfl,aa,aq,au,aq,bp,ba,aD];dsimp[aj,ag,bg,aa];rw[show cM (aK W t) (.int 1) (M++[df G A C])=.ok (.tup (t.map aw)) (M++[df G A C]) from rfl,aa,jx,aa,aV];rw[show compLoop (.fix (t.map aw)) (M++[df G A C]).length 9e1 oR oT (t.map aw) (cD [none,some 2] [a0,some 11e8,some 9e2,some (aK R k),some (aK W t),a5,a6,a7]) (M++[df G A C]++[.lst []])=_ from q4];dsimp[aa,av];rw[tp];dsimp[aa];rw[T1 (show ([D.int W,D.tup _]:List D).length<=sizeLine from l2)];dsimp[ae,bj,az,Yf,Yg];rw[aG,bL];dsimp[mu,dG,dQ,au,aq,av,aj,ag,aa,A1 n,mI n (f9 n.m0 n.m6),cG,WK,VE,U8];rw[show bZ [aK W t,D.tup [D.int W,D.tup (q.map aw)]] f=.ok 6e7 f from mI T h];dsimp[aa,cG,WK,ae,VE,U8,bI,az];rw[aG,bL];dsimp[bW,aD,au,aq,av,aj,ag,aa,JA h H,oU h H,jh,VD,WK,U9,aX,ae,VE,U8,bI,az];rw[aG,aT];dsimp[au,aq,av,aj,ag,aa];rw[F];dsimp[ae,bj,az,Yf,Yg];rw[aG,bL];rw[show il 13e3 [a0,some 11e8,some 9e2,some (aK R k),some (aK W t),some (D.tup [D.int W,D.tup (q.map aw)]),some d,a7] f=.ok false f from tst];dsimp[ae,VE,U8,bI,az];exact L
 ·have hl:j<M.length:=(Ul.mp J).1;obtain⟨u,v,w,g',e⟩:=q2;refine aI (aI ?_);rw[e];exact aI (mD (aI J) 0e1)
end
theorem Nw(ns:List Int):∃Z',zc [.frz 12e2] []=.ok 6e7 Z':=by
 obtain⟨X,j⟩:=JD (Z:=[]) (ns:=ns)
 obtain⟨S,s,C⟩:∃S:List Int,xb 12e2 (some 1) (some 5)=S.map D.int/\S.length<=9:=by
  refine⟨(ns.drop (HT.sIx ns.length 0 (some 1))).take (HT.sIx ns.length ns.length (some 5)-HT.sIx ns.length 0 (some 1)),?_,?_⟩
  ·unfold xb;rw[U1,Wp,Wq]
  ·rw[US];have T:HT.sIx ns.length ns.length (some 5)=min 5 ns.length:=HT.sIx_nat _ _ 5;omega
 obtain⟨L,hL⟩:∃L:List Int,L=X::S:=⟨_,rfl⟩;let f:aC:=([O.lst [.int X]]++[O.lst (S.map D.int)])++[O.lst (L.map D.int)]
 have v:f[2]?=some (.lst (L.map D.int)):=rfl
 obtain⟨I,u,_,run3⟩:=lE (src:=.own 2 (L.map D.int)) (g:=ai 1) (fb:=se)
  (λμ i c=>c[2]?=some (O.lst (L.map D.int))/\(∃R:List Int,μ=R.map D.int)/\∃o w U k n p q t,i=[o,w,U,k,n,p,q,t])
  (λi c hJJ=>hJJ.1)
  (λx r i c hJJ => by
   obtain⟨H,⟨R,E⟩,o,w,U,k,n,p,q,t,eρ⟩:=hJJ;subst eρ;cases R with
   |nil=>cases E
   |cons y R=>
    injection E with ex E
    subst ex E;obtain⟨J,b2,b3,K,N,P,Q,z,B⟩:=KR (M:=c) (x:=y) (a0:=o) (a2:=U) (a3:=k) (a4:=n) (a5:=p) (a6:=q) (a7:=t)
    exact⟨H,_,c,_,_,rfl,z,B 2 _ H,⟨R,rfl⟩,_,_,_,_,_,_,_,_,rfl⟩)
  (xs:=L.map D.int) (ρ:=[some (.frz 12e2),none,none,none,none,none,none,none]) (Z:=f)
  ⟨v,⟨L,rfl⟩,_,_,_,_,_,_,_,_,rfl⟩
 have h:∃Z',vz [] (.ok 6e7 u)=.ok 6e7 Z':=by
  rcases Pf (Z:=[]) (d:=.bl true) (Z':=u) with e|⟨e,_⟩ <;> exact⟨_,e⟩
 obtain⟨Z',h⟩:=h;refine⟨Z',?_⟩;unfold zc;rw[bX];unfold Mm;have l:([.int X]:List D).length<=sizeLine:=by show 1<=sizeLine;decide
 have G:∀c,PU (.frz 12e2) (some 1) (some 5) c=.ok (.obj c.length) (c++[.lst (S.map D.int)]):=λc=>by
  unfold PU;dsimp only;rw[s]
 have A:eS (.obj 0) (.obj 1) ([O.lst [.int X]]++[O.lst (S.map D.int)])=.ok (.obj 2) f:=by
  have:=x5 (Z:=[O.lst [.int X]]++[O.lst (S.map D.int)]) (a:=0) (b:=1) rfl rfl (show ([.int X]:List D).length+(S.map D.int).length<=1000000 by rw[U1];dsimp[VF,V8];omega);rw[this];dsimp[f,hL];rfl
 dsimp[List.replicate];rw[aG,fI,ba,aD,jT,aq,au,aq,ag,aa,aq,bg,aa,av,aa,aa,aa,j,aa,av,aa,aa];dsimp[T1 l,aa,RH,ag,HX,bg,Po];rw[G,aa];rw[show eS (.obj ([]:aC).length) (.obj (([]:aC)++[O.lst [.int X]]).length) (([]:aC)++[O.lst [.int X]]++[O.lst (S.map D.int)])=_ from A];rw[aa,b8 v,ae,bw,run3,az,aS,bg,ae,aL];exact h
end Lw
namespace Lw
open PySem PySem.Spec PyProof.Rows L2 RS
theorem bq(P:Params)(f:Addr)(n m:Str)(t:Tok)(c:Addr)(s:Stmt)(l:(Kz P).lookup f=some (fo n s m t c))(q:W.codeIn (Kz P) (.ref c) n=true):eJ (Kz P) n n s f (W.fnOf n n (fy s) (dr s) (ar s) .none .none .none (.str m t) none (.ref c) .none):=Pg l q (by unfold W.keepIn;dsimp only;rw[l];rfl)
theorem PJ{l:W.OpenLaw}{fa:Addr}(X:(Kz 3e8).In h)(G:h.Ns mainGlobals mg)(a:mg "law" = some (.ref fa)):
  ∃fd:FuncData,(∀(s:Shared) (v:Value),BindsTo s fd ⟨[v],[]⟩ [("_law_script",v)])/\∀base:Heap,(Kz 3e8).In base->base.Ns mainGlobals mg->u4 8e0 w (Kz 3e8) mg base EO 11 fa fd ["_law_script"] (LF (bE (Kz 3e8) w) 1 zc):=by
 have e:=a.symm.trans (W.mg_of X G (v:=.ref 459) 0e2);cases e;have N:Nm mg:=⟨W.mg_none_of X G 0e2,W.mg_none_of X G 0e2,W.mg_none_of X G 0e2,W.mg_none_of X G 0e2,W.mg_none_of X G 0e2,W.mg_none_of X G 0e2,W.mg_none_of X G 0e2,W.mg_none_of X G 0e2,W.mg_none_of X G 0e2,W.mg_none_of X G 0e2,W.mg_none_of X G 0e2,W.mg_none_of X G 0e2,W.mg_none_of X G 0e2,W.mg_none_of X G 0e2⟩;have ce0:=W.mg_of X G (n:="MOST_TIES") (v:=(.int 12 355)) 0e2;have cf0:=W.mg_of X G (n:="MOST_ROOTS") (v:=(.int 300 357)) 0e2;have dl0:=W.mg_of X G (n:="ROOT_STEPS") (v:=(.int 2 359)) 0e2;have cp0:=W.mg_of X G (n:="MOST_PLACES") (v:=(.int 6 463)) 0e2;have ct0:=W.mg_of X G (n:="MOST_STEPS") (v:=(.int 6 465)) 0e2;have F:=bq 3e8 459 "law" "law_rootwebs_k42_whole_stars" 657 458 lz 0e2 0e2;refine⟨W.fnOf "law" "law" (fy lz) (dr lz) (ar lz) .none .none .none (.str "law_rootwebs_k42_whole_stars" 657) none (.ref 458) .none,λs v=>.of_eq rfl,λbase Xb Gb=>?_⟩;have cd0:=As (P:=8e0) (w:=w) (base:=base)  N (bq 3e8 108 "is_whole" "rootwebs.kinds" 307 107 kz 0e2 0e2) 1e3;have db0:=qy (P:=8e0) (w:=w) (base:=base)  N (bq 3e8 115 "is_whole_from" "rootwebs.kinds" 307 114 fA 0e2 0e2) 1e3 cd0;have di0:=Au (P:=8e0) (w:=w) (base:=base)  N (bq 3e8 122 "is_place" "rootwebs.kinds" 307 121 kA 0e2 0e2) 1e3 db0;have dj0:=yn (P:=8e0) (w:=w) (base:=base)  N (bq 3e8 127 "is_places" "rootwebs.kinds" 307 126 gW 0e2 0e2) 1e3 di0;have dk0:=ym (P:=8e0) (w:=w) (base:=base)  N (bq 3e8 132 "is_rising" "rootwebs.kinds" 307 131 gU 0e2 0e2) 1e3;have dq0:=nv (P:=8e0) (w:=w) (base:=base)  N (bq 3e8 139 "is_rising_places" "rootwebs.kinds" 307 138 dH 0e2 0e2) 1e3 dj0 dk0;have dc0:=vn (P:=8e0) (w:=w) (base:=base)  N (bq 3e8 146 "check_ties" "rootwebs.roots" 353 145 iQ 0e2 0e2) 1e3 ⟨_,ce0⟩;have co0:=uG (P:=8e0) (w:=w) (base:=base)  N (bq 3e8 153 "check_roots" "rootwebs.roots" 353 152 h7 0e2 0e2) 1e3 ⟨_,cf0⟩;have cg0:=An (P:=8e0) (w:=w) (base:=base)  N (bq 3e8 158 "steps_at" "rootwebs.roots" 353 157 i6 0e2 0e2) 1e3;have ch0:=ry (P:=8e0) (w:=w) (base:=base)  N (bq 3e8 163 "ways_between" "rootwebs.roots" 353 162 dj 0e2 0e2) 1e3 cg0;have ci0:=vk (P:=8e0) (w:=w) (base:=base)  N (bq 3e8 168 "clashes_at" "rootwebs.roots" 353 167 fR 0e2 0e2) 1e3;have cj0:=ve (P:=8e0) (w:=w) (base:=base)  N (bq 3e8 173 "settled_at" "rootwebs.roots" 353 172 fQ 0e2 0e2) 1e3;have cb0:=BM (P:=8e0) (w:=w) (base:=base)  N (bq 3e8 178 "is_made" "rootwebs.roots" 353 177 jX 0e2 0e2) 1e3;have dm0:=vm (P:=8e0) (w:=w) (base:=base)  N (bq 3e8 183 "choices_by" "rootwebs.roots" 353 182 cW 0e2 0e2) 1e3 ch0 ci0 cj0 cb0;have cn0:=rz (P:=8e0) (w:=w) (base:=base)  N (bq 3e8 190 "root_choices" "rootwebs.roots" 353 189 gk 0e2 0e2) 1e3 ⟨_,dl0⟩ dm0;have ck0:=uE (P:=8e0) (w:=w) (base:=base)  N (bq 3e8 195 "chosen_ties" "rootwebs.roots" 353 194 e6 0e2 0e2) 1e3;have cm0:=Aq (P:=8e0) (w:=w) (base:=base)  N (bq 3e8 200 "roots_by" "rootwebs.roots" 353 199 i8 0e2 0e2) 1e3 dm0 ck0;have dn0:=Ap (P:=8e0) (w:=w) (base:=base)  N (bq 3e8 207 "roots_of" "rootwebs.roots" 353 206 ky 0e2 0e2) 1e3 ⟨_,dl0⟩ cm0;have dh0:=vf (P:=8e0) (w:=w) (base:=base)  N (bq 3e8 214 "roots_many" "rootwebs.roots" 353 213 iN 0e2 0e2) 1e3 dc0 cn0;have cy0:=vh (P:=8e0) (w:=w) (base:=base)  N (bq 3e8 221 "first_root" "rootwebs.roots" 353 220 iP 0e2 0e2) 1e3 dc0 dn0;have bm0:=yr (P:=8e0) (w:=w) (base:=base)  N (bq 3e8 228 "all_roots" "rootwebs.roots" 353 227 jC 0e2 0e2) 1e3 dc0 dn0 co0;have dd0:=BL (P:=8e0) (w:=w) (base:=base)  N (bq 3e8 242 "is_many" "rootwebs.webs" 461 241 lK 0e2 0e2) 1e3 ⟨_,cp0⟩ db0;have do0:=BK (P:=8e0) (w:=w) (base:=base)  N (bq 3e8 261 "is_pair" "rootwebs.webs" 461 260 lJ 0e2 0e2) 1e3 dj0;have cq0:=D8 (P:=8e0) (w:=w) (base:=base)  N (bq 3e8 254 "is_tie" "rootwebs.webs" 461 253 nk 0e2 0e2) 1e3 do0;have cr0:=BI (P:=8e0) (w:=w) (base:=base)  N (bq 3e8 247 "is_ties" "rootwebs.webs" 461 246 jW 0e2 0e2) 1e3 cq0 dk0;have cz0:=Al (P:=8e0) (w:=w) (base:=base)  N (bq 3e8 235 "web_good" "rootwebs.webs" 461 234 kv 0e2 0e2) 1e3 dd0 cr0;have dv0:=D6 (P:=8e0) (w:=w) (base:=base)  N (bq 3e8 266 "web_of" "rootwebs.webs" 461 265 k6 0e2 0e2) 1e3 dd0 do0;have cs0:=uH (P:=8e0) (w:=w) (base:=base)  N (bq 3e8 273 "check_place" "rootwebs.webs" 461 272 h8 0e2 0e2) 1e3 di0;have dr0:=BJ (P:=8e0) (w:=w) (base:=base)  N (bq 3e8 280 "is_tied" "rootwebs.webs" 461 279 lI 0e2 0e2) 1e3;have dp0:=uB (P:=8e0) (w:=w) (base:=base)  N (bq 3e8 290 "next_places" "rootwebs.webs" 461 289 dU 0e2 0e2) 1e3;have cu0:=yq (P:=8e0) (w:=w) (base:=base)  N (bq 3e8 285 "fars_from" "rootwebs.webs" 461 284 gY 0e2 0e2) 1e3 dp0;have dt0:=BH (P:=8e0) (w:=w) (base:=base)  N (bq 3e8 297 "star_of" "rootwebs.webs" 461 296 lH 0e2 0e2) 1e3 cs0 dp0;have cv0:=yi (P:=8e0) (w:=w) (base:=base)  N (bq 3e8 302 "steps_web" "rootwebs.webs" 461 301 gR 0e2 0e2) 1e3 ⟨_,ct0⟩ db0 cu0;have df0:=Am (P:=8e0) (w:=w) (base:=base)  N (bq 3e8 309 "two_step" "rootwebs.webs" 461 308 kx 0e2 0e2) 1e3 cv0;have bf0:=yk (P:=8e0) (w:=w) (base:=base)  N (bq 3e8 314 "knot_good" "rootwebs.stars" 561 313 gS 0e2 0e2) 1e3 dq0 dr0;have ds0:=yp (P:=8e0) (w:=w) (base:=base)  N (bq 3e8 319 "fits_knot" "rootwebs.stars" 561 318 gX 0e2 0e2) 1e3 dr0;have cw0:=Ar (P:=8e0) (w:=w) (base:=base)  N (bq 3e8 324 "knots_of" "rootwebs.stars" 561 323 i9 0e2 0e2) 1e3 ds0;have be0:=uC (P:=8e0) (w:=w) (base:=base)  N (bq 3e8 329 "great_knots" "rootwebs.stars" 561 328 e5 0e2 0e2) 1e3 cw0 ds0;have cx0:=BN (P:=8e0) (w:=w) (base:=base)  N (bq 3e8 339 "is_even" "rootwebs.stars" 561 338 jY 0e2 0e2) 1e3;have de0:=vd (P:=8e0) (w:=w) (base:=base)  N (bq 3e8 334 "stars_good" "rootwebs.stars" 561 333 eG 0e2 0e2) 1e3 dd0 dq0 cx0;have du0:=uF (P:=8e0) (w:=w) (base:=base)  N (bq 3e8 346 "check_stars" "rootwebs.stars" 561 345 hZ 0e2 0e2) 1e3 de0;have dx0:=Ao (P:=8e0) (w:=w) (base:=base)  N (bq 3e8 351 "stars_of" "rootwebs.stars" 561 350 i7 0e2 0e2) 1e3 dt0;have dz0:=D7 (P:=8e0) (w:=w) (base:=base)  N (bq 3e8 356 "web_by" "rootwebs.stars" 561 355 k7 0e2 0e2) 1e3 du0 dv0;have dw0:=yl (P:=8e0) (w:=w) (base:=base)  N (bq 3e8 368 "joined_by" "rootwebs.stars" 561 367 gT 0e2 0e2) 1e3 du0 dv0;have bc0:=vg (P:=8e0) (w:=w) (base:=base)  N (bq 3e8 363 "holds_good" "rootwebs.stars" 561 362 iO 0e2 0e2) 1e3 de0 dw0;have bl0:=uD (P:=8e0) (w:=w) (base:=base)  N (bq 3e8 375 "first_stars" "rootwebs.stars" 561 374 hX 0e2 0e2) 1e3 cy0 dx0;have bk0:=yo (P:=8e0) (w:=w) (base:=base)  N (bq 3e8 382 "held_many" "rootwebs.stars" 561 381 jB 0e2 0e2) 1e3 dh0;have bd0:=yj (P:=8e0) (w:=w) (base:=base)  N (bq 3e8 389 "root_good" "rootwebs.looks" 647 388 jA 0e2 0e2) 1e3 cz0 df0;have bg0:=rB (P:=8e0) (w:=w) (base:=base)  N (bq 3e8 396 "_law_cell_at" "law_rootwebs_k42_whole_stars" 657 395 gm 0e2 0e2) 1e3;have cc0:=yt (P:=8e0) (w:=w) (base:=base)  N (bq 3e8 403 "_law_next" "law_rootwebs_k42_whole_stars" 657 402 jD 0e2 0e2) 1e3;have bh0:=uJ (P:=8e0) (w:=w) (base:=base)  N (bq 3e8 410 "_law_pen_of" "law_rootwebs_k42_whole_stars" 657 409 ia 0e2 0e2) 1e3;have da0:=yu (P:=8e0) (w:=w) (base:=base)  N (bq 3e8 417 "_law_draw" "law_rootwebs_k42_whole_stars" 657 416 jE 0e2 0e2) 1e3 cc0;have dg0:=uI (P:=8e0) (w:=w) (base:=base)  N (bq 3e8 422 "_law_web_of" "law_rootwebs_k42_whole_stars" 657 421 e7 0e2 0e2) 1e3;have dy0:=pN (P:=8e0) (w:=w) (base:=base)  N (bq 3e8 427 "_law_drawn_web" "law_rootwebs_k42_whole_stars" 657 426 dw 0e2 0e2) 1e3 da0 dg0;have ba0:=rA (P:=8e0) (w:=w) (base:=base)  N (bq 3e8 432 "_law_near_of" "law_rootwebs_k42_whole_stars" 657 431 ez 0e2 0e2) 1e3;have bb0:=ny (P:=8e0) (w:=w) (base:=base)  N (bq 3e8 437 "_law_two_step_of" "law_rootwebs_k42_whole_stars" 657 436 cN 0e2 0e2) 1e3 ba0 dg0;have bj0:=rC (P:=8e0) (w:=w) (base:=base)  N (bq 3e8 442 "_law_any_web" "law_rootwebs_k42_whole_stars" 657 441 eA 0e2 0e2) 1e3 dy0 da0 bb0 dg0;have bi0:=qz (P:=8e0) (w:=w) (base:=base)  N (bq 3e8 449 "_law_few_ties" "law_rootwebs_k42_whole_stars" 657 448 fB 0e2 0e2) 1e3 da0;have ca0:=pM (P:=8e0) (w:=w) (base:=base)  N (bq 3e8 454 "_law_one_right" "law_rootwebs_k42_whole_stars" 657 453 cI 0e2 0e2) 1e3 dx0 de0 dz0 dw0 df0 dt0 bc0 bd0 be0 bf0;exact Pi N F bg0 bh0 dy0 bi0 bj0 da0 ca0 df0 bk0 dh0 bl0 bm0 dz0
theorem SC{l:W.OpenLaw}{q:Program}{d:DefRec}(h:l.most=some 63)(F:d.params.defaults=[])(D:d.name = "law"):
  W.WalkO q loose XP (W.Hook.says Hz) l.row.toRowW d [] (λf vs=>PySem.call f vs):=
 L2.walk_of (K:=Kz) (n:=63) (k:=11) (x:="_law_script") (CX:=λ_=>EO) (sp:=λw=>LF (bE (Kz 3e8) w) 1 zc) h 1e2 F ⟨rfl,by decide,by decide,rfl⟩ (λ_ _ σ=>W.kIn_of σ) (λ_ _ _ _ X G e=>PJ X G (D ▸ e)) (λw H a j i hO hS=>HH (Nw j) hO hS) λ_ _ _ _ _ z=>z
end Lw
open PySem PySem.W PyProof.Rows Lw
set_option maxRecDepth 100000 in
set_option maxHeartbeats 0 in
theorem PySem.Challenge.cw_rootwebs_k42_whole_stars_holds : PySem.Challenge.rw_rootwebs_k42_whole_stars.Holds := by
 w_on;refine holds_law MM λsaid=>?_
 exact holds_open (Xt:=Xz) (XP:=XL Qz []) (YP:=Hook.says Hz) MN (Hook.of Hz) (Hook.keeps Hz) (λs e=>xl_of s (Bool.and_eq_true_iff.mp e).1) XL.keeps (by rfl) (by rfl) (by rfl) (λs e=>recFacts_of (Bool.and_eq_true_iff.mp e).2) (by rfl) said 1e1 ⟨rfl,rfl,rfl,rfl,rfl,by decide +kernel⟩ (by w_witness2) (SC rfl rfl rfl)
