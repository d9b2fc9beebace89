import PyProof.Rows.All
import Wide.All
import OpenK.KMake
import OpenK.KDescr
import OpenK.KOwn
import OpenK.KFacts
import KE.KItem
import OpenK.KOps
import OpenK.KMore
import OpenK.KCls
import OpenK.Peek
import KE.KFromBytes
import OpenK.KGet
import KE.KIsAll
import KE.KxBytes
import OpenK.KCall
import KE.KSortTup
import KE.KTryMore
import OpenK.KRaise
import KE.KSortAsk
import OpenK.KWalk
import OpenK.KLine
import Wide.FinOn
import PyProof.EqAt
import PyProof.EqKinds
import PyProof.TupleCall
import PyProof.P3In
import PyProof.NeData
import PyProof.ConsumeS
import PyProof.WalksMore
import PyProof.ReprRoads
import PyProof.ReprLen
import PyProof.Draws
import PyProof.EnumMake
import PyProof.EnumFor
import PyProof.CallFns
import PyProof.Rows.CallKwBuiltin
import Lean
import PyProof.AutoIntG2
import PyProof.DictRoadsH
import PyProof.ZipIter
import PySem.Challenge.RW_rootwebs_k12_whole_roots_looked_at
set_option Elab.async false
set_option compiler.extract_closed false
set_option bootstrap.genMatcherCode false
set_option linter.all false
set_option maxHeartbeats 4000000
set_option maxRecDepth 100000
set_option hygiene false
local macro_rules|`(0e0)=>`(by lia)|`(0e1)=>`(List (List Int))|`(0e2)=>`(s.heap.objs.size)|`(0e3)=>`(ks.map aj)|`(0e4)=>`(e7 X Nc scope cl C s H fp)|`(0e5)=>`(λ_ F=>F.b2 rfl (by intros;rfl))|`(0e6)=>`(aS X pins σ H s)|`(0e7)=>`(model X.prog X.w)|`(0e8)=>`(.obj Y.length)|`(0e9)=>`(model prog w)|`(1e0)=>`(by decide)|`(1e1)=>`(by simp)|`(1e2)=>`(autoParam (X.K=p.K) ATr)|`(1e3)=>`(autoParam (∀x,foldedSetIterable iter X.env x=pure x) ATt)|`(1e4)=>`(af (ah 1) (aw))|`(1e5)=>`(List Value)|`(1e6)=>`(aD (ag 0) (aD (ag 1) (bf)))|`(1e7)=>`(X.env)|`(1e8)=>`(X.calm=true)|`(1e9)=>`(List (Addr×Obj))|`(2e0)=>`(W.fnOf x qual (d4 st) (cH st) (aY st) .none kV doc pm an cdv ct)|`(2e1)=>`(.ListComp elt [⟨tg,iter,ifs,0⟩] scope pos)|`(2e2)=>`(cC (.int 1))|`(2e3)=>`(ah 0)
local macro_rules|`(2e4)=>`(X.A.units+64<cLine)|`(2e5)=>`(autoParam ((x == ("__debug__" : Str))=false) ATs)|`(2e6)=>`(List (Option Nat))|`(2e7)=>`(s.heap)|`(2e8)=>`(cC (.int 0))|`(2e9)=>`(by kernel_rfl)|`(3e0)=>`(λ_ F=>F.b1 rfl (by intros;rfl))|`(3e1)=>`(.tup [.int m,.tup 0e3])|`(3e2)=>`((·.1))|`(3e3)=>`(Value->Shared->Prop)|`(3e4)=>`(List Addr)|`(3e5)=>`(aE m ks)|`(3e6)=>`(seqObj "list" #[] 0)|`(3e7)=>`(.tup 0e3)|`(3e8)=>`(e7 X (J9 (⟨tg,iter,ifs,0⟩::rest) cap X.N) scope cl C s H fp)|`(3e9)=>`(items.size)|`(4e0)=>`(X.N[i]?=some x)|`(4e1)=>`(af (ah 2) (aw))|`(4e2)=>`(List Int)|`(4e3)=>`(xs.length)|`(4e4)=>`(X.fn x=true\/X.env.scope.names.lookup x=some .local)|`(4e5)=>`(X.env.scope.names.lookup x=some .local)|`(4e6)=>`(autoParam 1e8 ATr)|`(4e7)=>`((backTo pos (starEach es 1e7)).any 3e2=false)
local macro_rules|`(4e8)=>`(M.length)|`(4e9)=>`(bT X.N 1e7 scope Nc cap)|`(5e0)=>`(autoParam (starEach (e::es) 1e7=(false,eval e 1e7)::starEach es 1e7) ATr)|`(5e1)=>`(Str->Option Value)|`(5e2)=>`((∀b∈ch,(b∈X.ex\/X.s₀.heap.objs.size<=b)/\b≠X.env.locals/\(∀x c,X.env.cells.lookup x=some c->c≠b)/\∀p∈X.pn++pins,p.1≠b))|`(5e3)=>`((∀k∈ks,gv m k))|`(5e4)=>`(fK K w)|`(5e5)=>`(Array Value)|`(5e6)=>`(s.heap.objs.size+1)|`(5e7)=>`(ah 1)|`(5e8)=>`(Y.length)|`(5e9)=>`(cq l a.heap.objs.size (o0 a.heap.objs.size))
set_option hygiene true
def ATrx(_:True:=by rfl):=0
def ATr:Lean.Syntax:=ATrx._auto_1
def ATsx(_:True:=by decide):=0
def ATs:Lean.Syntax:=ATsx._auto_1
def ATtx(_:True:=by intro _;rfl):=0
def ATt:Lean.Syntax:=ATtx._auto_1
def ATux(_:True:=by first|exact .inl rfl|exact .inr rfl|assumption):=0
def ATu:Lean.Syntax:=ATux._auto_1
def ATvx(_:True:=by first|exact Or.inl rfl|exact Or.inr rfl):=0
def ATv:Lean.Syntax:=ATvx._auto_1
def ATwx(_:True:=by first|exact .inl rfl|exact .inr rfl):=0
def ATw:Lean.Syntax:=ATwx._auto_1
noncomputable section
abbrev UO:=@Option.some.inj
abbrev UP:=@Prod.ext
abbrev UQ:=@decide_eq_false
abbrev UR:=@PySem.Heap.get?_push_size
abbrev US:=@PySem.Heap.lt_size
abbrev UT:=@Nat.lt_of_lt_of_le
abbrev UU:=@Nat.lt_irrefl
abbrev UV:=@Nat.ne_of_lt
abbrev UW:=@List.mem_filter
abbrev UX:=@Nat.le_trans
abbrev UY:=@Nat.le_of_lt
abbrev UZ:=@List.filterMap_cons
abbrev U0:=@List.mem_cons_self
abbrev U1:=@List.mem_cons_of_mem
abbrev U2:=@List.mem_cons
abbrev U3:=@Ne.symm
abbrev U4:=@List.mem_append
abbrev U5:=@List.mem_append_left
abbrev U6:=@List.getElem_inj
abbrev U7:=@List.getElem?_set_self
abbrev U8:=@List.getElem?_set_ne
abbrev U9:=@PySem.wpAny_mono
abbrev Va:=@PySem.wpAny_truthy_bool
abbrev Vb:=@PySem.wpAny_execs_nil
abbrev Vc:=@PyProof.Rows.assignInOrder_cons
abbrev Vd:=@PySem.wpAny_bind
abbrev Ve:=@PySem.wpAny_holding
abbrev Vf:=@PySem.wpAny_standAt
abbrev Vg:=@PySem.wpAny_pure
abbrev Vh:=@PySem.wpAny_newObj_type
abbrev Vi:=@PySem.Heap.get?_push_of_some
abbrev Vj:=@PySem.wpAny_rule
abbrev Vk:=@PySem.wpAny_passesOwn
abbrev Vl:=@Nat.ne_of_gt
abbrev Vm:=@PySem.wpAny_load
abbrev Vn:=@Nat.le_refl
abbrev Vo:=@PyProof.Rows.callWith_type1
abbrev Vp:=@List.mem_filterMap
abbrev Vq:=@List.mem_append_right
abbrev Vr:=@List.size_toArray
abbrev Vs:=@if_pos
abbrev Vt:=@if_neg
abbrev Vu:=@List.append_nil
abbrev Vv:=@PySem.codeAny_mono
abbrev Vw:=@PySem.wpAny_Call_Name_kw
abbrev Vx:=@List.nodup_cons
abbrev Vy:=@List.of_mem_zip
abbrev Vz:=@Option.isSome_iff_exists
abbrev VA:=@congrArg
abbrev VB:=@List.length_take
abbrev VC:=@PySem.mem_of_lookup
abbrev VD:=@List.getElem?_append_right
abbrev VE:=@List.getElem?_replicate
abbrev VF:=@List.getElem?_append_left
abbrev VG:=@List.getElem?_take_of_lt
abbrev VH:=@List.mem_of_getElem?
abbrev VI:=@PySem.noFill_tuple_add
abbrev VJ:=@PySem.F.slot_tuple_add
abbrev VL:=@PySem.F.entry_tuple_add
abbrev VM:=@PySem.F.args_tuple_add_2
abbrev VN:=@Nat.min_le_right
abbrev VO:=@if_false
abbrev VP:=@if_true
abbrev VQ:=@PySem.wpAny_field
abbrev VR:=@Array.length_toList
abbrev VS:=@PySem.wpAny_callSpecial?_slot
abbrev VT:=@PyProof.Rows.slot_tuple_getitem
abbrev VU:=@PySem.wpAny_call_entry
abbrev VV:=@PySem.wpAny_typeOf
abbrev VW:=@List.map_nil
abbrev VX:=@List.map_cons
abbrev VY:=@List.getElem?_eq_some_iff
abbrev VZ:=@PyProof.Rows.subscriptTail_builtinR
abbrev V0:=@PySem.Heap.get?_update_self
abbrev V1:=@PySem.Heap.get?_update_other
abbrev V2:=@List.length_set
abbrev V3:=@PySem.Calls.callWith_builtin
abbrev V4:=@Nat.le_succ
abbrev V5:=@PySem.call_meets
abbrev V6:=@List.length_append
abbrev V7:=@List.length_singleton
abbrev V8:=@Bool.and_false
abbrev V9:=@Bool.false_ne_true
abbrev Wa:=@Array.getElem?_toList
abbrev Wb:=@List.length_map
abbrev Wc:=@List.lookup_cons
abbrev Wd:=@List.length_cons
abbrev We:=@Nat.lt_succ_self
abbrev Wf:=@Nat.lt_succ_of_lt
abbrev Wg:=@PySem.Heap.size_push
abbrev Wh:=@PySem.pushCells_keeps
abbrev Wi:=@List.getElem?_map
abbrev Wj:=@PySem.codeAny_of_tree
abbrev Wl:=@Bool.false_eq_true
abbrev Wm:=@PySem.wpAny_askSetting
abbrev Wn:=@PySem.wpAny_of_eq
abbrev Wo:=@Nat.zero_le
abbrev Wp:=@PySem.F.slot_tuple_iterator_next
abbrev Wq:=@PySem.F.entry_tuple_iterator_next
abbrev Wr:=@PySem.F.args_tuple_iterator_next_1
abbrev Wt:=@PySem.wpAny_seqItems
abbrev Wu:=@PySem.wpAny_setField
abbrev Wv:=@PySem.Obj.data_mapFields
abbrev Ww:=@PySem.Heap.SameBut.update
abbrev Wx:=@PySem.wpAny_pyIter_tuple
abbrev Wz:=@List.mem_singleton
abbrev WA:=@List.not_mem_nil
abbrev WB:=@or_false
abbrev WC:=@PySem.Heap.get?_push_ne
abbrev WD:=@List.range_succ_eq_map
abbrev WE:=@List.map_map
abbrev WG:=@List.map_congr_left
abbrev WH:=@List.length_range
abbrev WI:=@List.length_nil
abbrev WJ:=@List.cons.inj
abbrev WK:=@List.pairwise_iff_getElem
abbrev WL:=@Array.getElem?_eq_some_iff
abbrev WM:=@List.mem_map
abbrev WN:=@List.mem_range
abbrev WO:=@Classical.byContradiction
abbrev WQ:=@List.nodup_range
abbrev WR:=@List.getElem?_of_mem
abbrev WS:=@List.take_append_drop
abbrev WT:=@List.map_append
abbrev WU:=@List.map_take
abbrev WV:=@List.map_drop
abbrev WW:=@List.getElem?_drop
abbrev WX:=@List.mem_of_mem_take
abbrev WY:=@Array.getElem?_eq_none_iff
abbrev WZ:=@List.nodup_nil
abbrev W1:=@Array.getD_eq_getD_getElem?
abbrev W2:=@List.find?_cons
abbrev W3:=@Nat.sub_self
abbrev W4:=@List.append_assoc
abbrev W5:=@List.foldl_cons
abbrev W6:=@Nat.zero_add
abbrev W7:=@Option.map_some
abbrev W8:=@Option.some.injEq
abbrev W9:=@List.pairwise_cons
abbrev Xa:=@List.pairwise_lt_range
abbrev Xc:=@List.perm_ext_iff_of_nodup
abbrev Xd:=@List.Pairwise.map
abbrev Xe:=@Array.getElem?_eq_getElem
abbrev Xf:=@List.mem_map_of_mem
abbrev Xg:=@List.all_eq_true
abbrev Xh:=@PySem.wpAny_forIn_list
abbrev Xi:=@PySem.wpAny_setState_of
abbrev Xj:=@Array.mem_toList_iff
abbrev Xk:=@PySem.wpAny_storeSet_of
abbrev Xl:=@PySem.putSet_of
abbrev Xm:=@PySem.codeAny_builtin
abbrev Xn:=@PySem.plainId_quiet
abbrev Xo:=@PySem.F.called_set
abbrev Xp:=@PySem.Code.quiet_builtin
abbrev Xq:=@PySem.wpAny_pyIter_list
abbrev Xr:=@PySem.Walks.list
abbrev Xs:=@List.take_add_one
abbrev Xu:=@decide_eq_true
abbrev Xv:=@PySem.W.KasT.kasWp_bind
abbrev Xw:=@List.length_eq_zero_iff
abbrev Xx:=@List.getElem?_eq_getElem
abbrev Xy:=@PySem.wpAny_setEntries_of
abbrev XA:=@PySem.wpAny_attempt
abbrev XB:=@PySem.wpAny_setField_rec
abbrev XC:=@PySem.wpAny_isInstance
abbrev XE:=@PySem.Around.under_plainId
abbrev XF:=@PyProof.Rows.listUpdate_at
abbrev XG:=@PyProof.Rows.get?_update_seq
abbrev XH:=@PySem.wpAny_newList
abbrev XI:=@PyProof.Rows.size_push'
abbrev XJ:=@Bool.not_false
abbrev XM:=@PySem.size_of_entries
abbrev XN:=@PySem.wpAny_dictEntries
abbrev XO:=@PySem.F.slot_dict_setdefault
abbrev XQ:=@PySem.wpAny_dictEpoch
abbrev XR:=@PySem.F.slot_dict_keyiterator_next
abbrev XS:=@PySem.F.entry_dict_keyiterator_next
abbrev XT:=@PySem.F.args_dict_keyiterator_next_1
abbrev XU:=@PySem.wpAny_typeNameOfWhole_keyiter
abbrev XW:=@Int.toNat_natCast
abbrev XX:=@List.getElem_of_mem
abbrev XY:=@List.nodup_append
abbrev XZ:=@of_eq_true
abbrev X2:=@eq_self
abbrev X3:=@List.drop_eq_getElem_cons
abbrev X6:=@List.drop_length
abbrev X7:=@List.getElem?_range
abbrev X8:=@List.zip_cons_cons
abbrev X9:=@PySem.SeqAt.ReadsAll.length
abbrev Ya:=@PySem.SeqAt.room_head
abbrev Yb:=@List.all_map
abbrev Yc:=@List.any_map
abbrev Yd:=@PySem.Calls.call_function_entry
abbrev Ye:=@PyProof.Rows.entry_list_sort
abbrev Yf:=@PySem.Heap.get?_update_ne
abbrev Yg:=@List.pairwise_map
abbrev Yh:=@List.mergeSort_perm
abbrev Yi:=@Int.le_antisymm
abbrev Yj:=@List.getD_eq_getElem?_getD
abbrev Yk:=@List.length_pos_iff
abbrev Yl:=@Bool.and_eq_true
abbrev Ym:=@Bool.or_eq_true
abbrev Yn:=@List.filter_cons
abbrev Yo:=@PySem.F.entry_min_loop
abbrev Yp:=@PySem.F.plain_min_loop
abbrev Yq:=@PySem.wpAny_tryCatch
abbrev Yr:=@PySem.wpAny_updateSeq
abbrev Ys:=@PySem.wpAny_letGo
abbrev Yt:=@List.getElem_mem
abbrev Yu:=@decide_eq_decide
abbrev Yv:=@List.ext_getElem?
abbrev Yw:=@List.getElem?_eq_none
abbrev Yx:=@Int.mul_le_mul_of_nonneg_right
abbrev Yy:=@beq_eq_false_iff_ne
abbrev Yz:=@PySem.wpAny_onRaise
abbrev YA:=@PySem.wpAny_updateSeq_pair
abbrev YB:=@PySem.F.slot_zip_next
abbrev YC:=@List.findIdx_lt_length_of_exists
abbrev YD:=@of_decide_eq_true
abbrev YE:=@Int.emod_nonneg
abbrev YF:=@Int.emod_lt_of_pos
abbrev YG:=@Int.toNat_of_nonneg
abbrev YH:=@List.mem_flatMap
abbrev YI:=@List.Pairwise.filter
abbrev YJ:=@List.filter_map
abbrev YK:=@List.range_succ
abbrev YL:=@List.flatMap_append
abbrev YM:=@List.flatMap_cons
abbrev YN:=@List.flatMap_nil
abbrev YO:=@Bool.eq_iff_iff
abbrev YQ:=@List.nil_append
abbrev YR:=@List.any_eq_true
abbrev YS:=@decide_eq_true_eq
abbrev YT:=@List.dropLast_concat_getLast
abbrev YU:=@decide_eq_true_iff
abbrev YV:=@beq_iff_eq
abbrev YW:=@List.cons.injEq
abbrev YX:=@List.filter_eq_self
abbrev YY:=@List.set_cons_succ
abbrev YZ:=@List.set_cons_zero
abbrev μ0:=@List.length_filter_le
abbrev μ1:=@Bool.not_true
abbrev μ2:=@List.cons_append
abbrev μ3:=@Nat.lt_of_le_of_lt
abbrev μ4:=@Nat.mul_le_mul
abbrev μ5:=@Nat.two_pow_pos
abbrev μ6:=@Nat.or_lt_two_pow
abbrev μ7:=@Nat.eq_of_testBit_eq
abbrev μ8:=@Nat.testBit_two_pow
abbrev μ9:=@Nat.log2_lt
abbrev Za:=@Nat.testBit_eq_decide_div_mod_eq
abbrev Zb:=@Nat.pow_le_pow_right
abbrev Zc:=@Nat.testBit_lt_two_pow
abbrev Zd:=@Nat.le_max_right
abbrev Ze:=@Nat.le_max_left
abbrev Zf:=@List.countP_eq_length_filter
abbrev Zg:=@Nat.shiftRight_eq_div_pow
abbrev Zh:=@List.exists_mem_of_ne_nil
abbrev Zi:=@List.Sublist.refl
abbrev Zj:=@List.append_eq_nil_iff
abbrev Zk:=@Bool.not_eq_true'
abbrev Zl:=@decide_eq_false_iff_not
abbrev Zm:=@Bool.true_and
abbrev Zn:=@List.getD_cons_zero
abbrev Zo:=@List.getD_cons_succ
abbrev Zp:=@Nat.testBit_mod_two_pow
abbrev Zq:=@Int.lt_trichotomy
variable{ks:0e1}{n:Nat}{Q:PySem.Value->PySem.Shared->Prop}{pins:List (PySem.Addr×PySem.Obj)}{α:List PySem.Addr}{k:List Int}{m:Nat}{i:Nat}{E:PySem.Value->PySem.Shared->Prop}{s:PySem.Shared}{a:PySem.Addr}{x:PySem.Str}{K:PySem.W.Frag}{w:PySem.World}{pos:PySem.Pos}{p:Int}{ns:List Int}{f:(Int->Option Nat)}{ps:List (Int×PySem.Value)}{es:Array (Int×PySem.Value)}{h:PySem.Heap}{A:PySem.Around}{Z:List (Nat×Int×PySem.Value)}{T:Int->Int->Option Nat}{kvs:(List (List Int×Nat))}{c:Nat}{mg:PySem.Str->Option PySem.Value}{e:PySem.Expr}{prog:PySem.Program}{P:PySem.Program}{us:List PySem.Value}{gens:(List Comprehension)}{fd:PySem.FuncData}{scope:PySem.Scope}{its:List PySem.Value}{px:PySem.Pos}{fp:List PySem.Addr}{ls:0e1}{elts:List PySem.Expr}{N:List PySem.Str}{q:Int}{tg:PySem.Expr}{XP:(PySem.Str->Option PySem.Value)->PySem.Heap->Prop}{j:Nat}{β:Type}{st:PySem.Stmt}{neg:Bool}{u:PySem.Value}{b:Bool}{op:PySem.CmpOp}{t':Nat}{apos:PySem.Pos}{Ls:(List 0e1)}{acc:PySem.Addr}{pos1:PySem.Pos}{it:PySem.Addr}{l:0e1}{L:0e1}{env:PySem.Env}{base:PySem.Heap}{kw:List (PySem.Str×PySem.Value)}{pos':PySem.Pos}{mask:Nat}{k1:Nat}{qual:PySem.Str}{lo:(Option Int)}{pos2:PySem.Pos}{φ:PySem.Heap->Prop}{body:List PySem.Stmt}{h':PySem.Heap}{Nc:List PySem.Str}{z:Nat×Int×PySem.Value}{ch:List PySem.Addr}{C:(Int->Int->Prop)}{osl:Array (Option PySem.Value)}{owner:Array (Option Nat)}{g:Comprehension}{loose:List PySem.Str}{elt:PySem.Expr}{rest:List PySem.Expr}{iter:PySem.Expr}{YP:PySem.World->PySem.Heap->Prop}{tn:String}{ks':0e1}{ep:Nat}{cl:List (PySem.Str×PySem.Addr)}{hs:List Int}{g':Array GenState}{J:Nat->PySem.Heap->Prop}{I:PySem.Addr}{ob:PySem.Expr}{s0:PySem.Shared}{tk:Nat}{sc:PySem.Scope}{vl:PySem.Value}{tpos:PySem.Pos}
namespace L2
open PySem PySem.Spec PyProof.Rows
noncomputable def d4(s:Stmt):Arguments:=match s with
 |.FunctionDef _ a _ _ _ _ _ _ _ _=>a
 |_=>{posonlyargs:=[],args:=[],vararg:=none,kwonlyargs:=[],kw_defaults:=[],kwarg:=none,defaults:=[]}
noncomputable def cH(s:Stmt):List Stmt:=match s with
 |.FunctionDef _ _ b _ _ _ _ _ _ _=>b
 |_=>[]
noncomputable def aY(s:Stmt):Scope:=match s with
 |.FunctionDef _ _ _ _ _ _ S _ _ _=>S
 |_=>{kind:=.function,names:=[],isGenerator:=false,isCoroutine:=false}
end L2
namespace Lw
open PySem PySem.Spec PyProof.Rows L2
noncomputable def top(i:Nat):Stmt:=PySem.Challenge.pw_rootwebs_k12_whole_roots_looked_at.main.body.getD i (.Pass ⟨0,0,0,0⟩)
noncomputable abbrev xP:Stmt:=top 8
noncomputable abbrev nL:Stmt:=top 9
noncomputable abbrev xQ:Stmt:=top 10
noncomputable abbrev vd:Stmt:=top 11
noncomputable abbrev vc:Stmt:=top 12
noncomputable abbrev k6:Stmt:=top 13
noncomputable abbrev yX:Stmt:=top 18
noncomputable abbrev yW:Stmt:=top 21
noncomputable abbrev Bk:Stmt:=top 20
noncomputable abbrev yU:Stmt:=top 19
noncomputable abbrev xJ:Stmt:=top 17
noncomputable abbrev Bj:Stmt:=top 22
noncomputable abbrev rf:Stmt:=top 23
noncomputable abbrev qX:Stmt:=top 26
noncomputable abbrev ve:Stmt:=top 25
noncomputable abbrev Bl:Stmt:=top 24
noncomputable abbrev yT:Stmt:=top 27
noncomputable abbrev u7:Stmt:=top 28
noncomputable abbrev xK:Stmt:=top 29
noncomputable abbrev va:Stmt:=top 31
noncomputable abbrev rh:Stmt:=top 32
noncomputable abbrev qZ:Stmt:=top 33
noncomputable abbrev qY:Stmt:=top 34
noncomputable abbrev rM:Stmt:=top 35
noncomputable abbrev yV:Stmt:=top 36
noncomputable abbrev u9:Stmt:=top 37
noncomputable abbrev rO:Stmt:=top 38
noncomputable abbrev vb:Stmt:=top 39
noncomputable abbrev Bi:Stmt:=top 40
noncomputable abbrev Bm:Stmt:=top 41
noncomputable abbrev rS:Stmt:=top 45
noncomputable abbrev xM:Stmt:=top 46
noncomputable abbrev ow:Stmt:=top 47
noncomputable abbrev rQ:Stmt:=top 48
noncomputable abbrev rN:Stmt:=top 49
noncomputable abbrev yY:Stmt:=top 50
noncomputable abbrev rR:Stmt:=top 51
noncomputable abbrev q0:Stmt:=top 52
noncomputable abbrev xO:Stmt:=top 53
noncomputable abbrev xN:Stmt:=top 54
noncomputable abbrev rP:Stmt:=top 55
noncomputable abbrev oz:Stmt:=top 57
noncomputable abbrev vf:Stmt:=top 58
noncomputable abbrev rj:Stmt:=top 59
noncomputable abbrev vg:Stmt:=top 60
noncomputable abbrev ri:Stmt:=top 61
noncomputable abbrev mV:Stmt:=top 62
noncomputable abbrev oy:Stmt:=top 63
noncomputable abbrev k7:Stmt:=top 64
noncomputable abbrev oA:Stmt:=top 65
noncomputable abbrev nM:Stmt:=top 66
noncomputable abbrev mU:Stmt:=top 67
noncomputable abbrev lG:Stmt:=top 68
noncomputable def en(P:Params)(n:Str)(t:Tok)(v:Value):DictEntry:=⟨PyData.keyHash P n,.str n t,v⟩
noncomputable def fo (n:Str) (s:Stmt) (m:Str) (t:Tok) (c:Addr):Obj:=⟨.type "function",none,.func (W.fnOf n n (d4 s) (cH s) (aY s) .none .none .none (.str m t) none (.ref c) .none),#[]⟩
noncomputable def fV0(n:Str)(s:Stmt)(c:Addr):Obj:=fo n s "rootwebs.webs" 353 c
noncomputable def fW0(n:Str)(s:Stmt)(c:Addr):Obj:=fo n s "law_rootwebs_k12_whole_roots_looked_at" 611 c
noncomputable def fX0(n:Str)(s:Stmt)(c:Addr):Obj:=fo n s "rootwebs.looks" 453 c
noncomputable def fY0(n:Str)(s:Stmt)(c:Addr):Obj:=fo n s "rootwebs.roots" 535 c
noncomputable def fZ0(n:Str)(s:Stmt)(c:Addr):Obj:=fo n s "rootwebs.kinds" 307 c
noncomputable def co (n:Str) (t:Tok) (l k i:Int) (a:Addr) (p:Bool) (u:Nat):Obj:=⟨.type "code",none,.fields #[.str n t,.str n (t+1),.str "/claim/cut.py" (t+2),.int l 0,.int k 0,.int 0 0,.int 0 0,.int 3 0,.ref a,.bool true,.int i 0,.ref (a+1),.none,bif p then .ref (a+2) else .none,bif p then .ref (a+3) else .none,.ref (bif p then a+4 else a+2),.int u 0,.int l 0,.str "/claim/cut.py" (u+1)],#[]⟩
noncomputable def Kz (P:Params):W.Frag:=[(3,⟨.type "dict",none,.dict #[en P "__name__" 165 (.str "law_rootwebs_k12_whole_roots_looked_at" 611),en P "__doc__" 166 .none,en P "__package__" 167 .none,en P "__loader__" 168 (.builtin "__main__.__loader__#opaque"),en P "__spec__" 169 .none,en P "__annotations__" 170 (.ref 6),en P "__builtins__" 171 (.ref 4),en P "__file__" 173 (.str "/claim/cut.py" 172),en P "__cached__" 174 .none,en P "RootError" 206 (.ref 24),en P "NoPlace" 222 (.ref 37),en P "NoNumber" 238 (.ref 49),en P "NoRoot" 254 (.ref 61),en P "NoWeb" 279 (.ref 80),en P "TooGreat" 306 (.ref 99),en P "is_whole" 315 (.ref 108),en P "is_whole_from" 324 (.ref 115),en P "is_place" 332 (.ref 122),en P "is_places" 338 (.ref 127),en P "is_rising" 344 (.ref 132),en P "is_rising_places" 352 (.ref 139),en P "MOST_PLACES" 356 (.int 6 355),en P "MOST_STEPS" 358 (.int 6 357),en P "web_good" 367 (.ref 146),en P "is_many" 374 (.ref 153),en P "is_ties" 380 (.ref 158),en P "is_tie" 388 (.ref 165),en P "is_pair" 396 (.ref 172),en P "web_of" 402 (.ref 177),en P "check_place" 410 (.ref 184),en P "far_of" 419 (.ref 191),en P "fars_from" 425 (.ref 196),en P "next_places" 431 (.ref 201),en P "star_of" 439 (.ref 208),en P "steps_web" 445 (.ref 213),en P "two_step" 452 (.ref 220),en P "root_good" 462 (.ref 227),en P "check_other" 470 (.ref 234),en P "differences" 476 (.ref 239),en P "first_wrong" 489 (.ref 246),en P "steps_from" 495 (.ref 251),en P "is_step" 504 (.ref 258),en P "show_good" 510 (.ref 263),en P "first_show" 516 (.ref 268),en P "pieces_of" 522 (.ref 273),en P "within" 528 (.ref 278),en P "beside" 534 (.ref 283),en P "MOST_TIES" 538 (.int 12 537),en P "ROOT_STEPS" 540 (.int 2 539),en P "check_ties" 548 (.ref 290),en P "steps_at" 554 (.ref 295),en P "ways_between" 560 (.ref 300),en P "clashes_at" 566 (.ref 305),en P "settled_at" 572 (.ref 310),en P "is_made" 578 (.ref 315),en P "choices_by" 584 (.ref 320),en P "chosen_ties" 590 (.ref 325),en P "roots_by" 596 (.ref 330),en P "roots_of" 603 (.ref 337),en P "first_root" 610 (.ref 344),en P "_law_cell_at" 620 (.ref 351),en P "_law_next" 627 (.ref 358),en P "_law_pen_of" 635 (.ref 365),en P "_law_draw" 644 (.ref 372),en P "_law_web_of" 650 (.ref 377),en P "_law_drawn_web" 656 (.ref 382),en P "_law_near_of" 662 (.ref 387),en P "_law_two_step_of" 668 (.ref 392),en P "_law_any_web" 674 (.ref 397),en P "_law_few_ties" 684 (.ref 404),en P "_law_one_right" 697 (.ref 411),en P "law" 703 (.ref 416)] 72,#[]⟩),
 (107,co "is_whole" 309 20 1 181 102 true 313),
 (108,fZ0 "is_whole" xP 107),
 (114,co "is_whole_from" 316 22 3 181 109 true 322),
 (115,fZ0 "is_whole_from" nL 114),
 (121,co "is_place" 325 24 2 181 116 true 330),
 (122,fZ0 "is_place" xQ 121),
 (126,co "is_places" 333 26 2 181 123 false 336),
 (127,fZ0 "is_places" vd 126),
 (131,co "is_rising" 339 28 1 181 128 false 342),
 (132,fZ0 "is_rising" vc 131),
 (138,co "is_rising_places" 345 30 2 181 133 true 350),
 (139,fZ0 "is_rising_places" k6 138),
 (145,co "web_good" 359 35 1 181 140 true 365),
 (146,fV0 "web_good" xJ 145),
 (152,co "is_many" 368 40 1 181 147 true 372),
 (153,fV0 "is_many" yX 152),
 (157,co "is_ties" 375 42 2 181 154 false 378),
 (158,fV0 "is_ties" yU 157),
 (164,co "is_tie" 381 44 2 181 159 true 386),
 (165,fV0 "is_tie" Bk 164),
 (171,co "is_pair" 389 46 2 181 166 true 394),
 (172,fV0 "is_pair" yW 171),
 (176,co "web_of" 397 48 2 181 173 false 400),
 (177,fV0 "web_of" Bj 176),
 (183,co "check_place" 403 55 2 181 178 true 408),
 (184,fV0 "check_place" rf 183),
 (190,co "far_of" 411 58 3 181 185 true 417),
 (191,fV0 "far_of" Bl 190),
 (195,co "fars_from" 420 62 2 181 192 false 423),
 (196,fV0 "fars_from" ve 195),
 (200,co "next_places" 426 74 2 181 197 false 429),
 (201,fV0 "next_places" qX 200),
 (207,co "star_of" 432 76 2 181 202 true 437),
 (208,fV0 "star_of" yT 207),
 (212,co "steps_web" 440 79 2 181 209 false 443),
 (213,fV0 "steps_web" u7 212),
 (219,co "two_step" 446 88 1 181 214 true 450),
 (220,fV0 "two_step" xK 219),
 (226,co "root_good" 455 91 2 181 221 true 460),
 (227,fX0 "root_good" va 226),
 (233,co "check_other" 463 93 2 181 228 true 468),
 (234,fX0 "check_other" rh 233),
 (238,co "differences" 471 96 2 181 235 false 474),
 (239,fX0 "differences" qZ 238),
 (245,co "first_wrong" 477 103 2 181 240 true 487),
 (246,fX0 "first_wrong" qY 245),
 (250,co "steps_from" 490 110 3 181 247 false 493),
 (251,fX0 "steps_from" rM 250),
 (257,co "is_step" 496 121 3 181 252 true 502),
 (258,fX0 "is_step" yV 257),
 (262,co "show_good" 505 125 3 181 259 false 508),
 (263,fX0 "show_good" u9 262),
 (267,co "first_show" 511 131 2 181 264 false 514),
 (268,fX0 "first_show" rO 267),
 (272,co "pieces_of" 517 137 1 181 269 false 520),
 (273,fX0 "pieces_of" vb 272),
 (277,co "within" 523 145 2 181 274 false 526),
 (278,fX0 "within" Bi 277),
 (282,co "beside" 529 151 2 181 279 false 532),
 (283,fX0 "beside" Bm 282),
 (289,co "check_ties" 541 161 1 181 284 true 546),
 (290,fY0 "check_ties" rS 289),
 (294,co "steps_at" 549 165 1 181 291 false 552),
 (295,fY0 "steps_at" xM 294),
 (299,co "ways_between" 555 172 2 181 296 false 558),
 (300,fY0 "ways_between" ow 299),
 (304,co "clashes_at" 561 182 2 181 301 false 564),
 (305,fY0 "clashes_at" rQ 304),
 (309,co "settled_at" 567 189 1 181 306 false 570),
 (310,fY0 "settled_at" rN 309),
 (314,co "is_made" 573 194 2 181 311 false 576),
 (315,fY0 "is_made" yY 314),
 (319,co "choices_by" 579 196 3 181 316 false 582),
 (320,fY0 "choices_by" rR 319),
 (324,co "chosen_ties" 585 211 2 181 321 false 588),
 (325,fY0 "chosen_ties" q0 324),
 (329,co "roots_by" 591 213 2 181 326 false 594),
 (330,fY0 "roots_by" xO 329),
 (336,co "roots_of" 597 216 1 181 331 true 601),
 (337,fY0 "roots_of" xN 336),
 (343,co "first_root" 604 218 1 181 338 true 608),
 (344,fY0 "first_root" rP 343),
 (350,co "_law_cell_at" 613 222 2 181 345 true 618),
 (351,fW0 "_law_cell_at" oz 350),
 (357,co "_law_next" 621 226 1 181 352 true 625),
 (358,fW0 "_law_next" vf 357),
 (364,co "_law_pen_of" 628 229 1 181 359 true 633),
 (365,fW0 "_law_pen_of" rj 364),
 (371,co "_law_draw" 636 232 2 181 366 true 642),
 (372,fW0 "_law_draw" vg 371),
 (376,co "_law_web_of" 645 239 2 181 373 false 648),
 (377,fW0 "_law_web_of" ri 376),
 (381,co "_law_drawn_web" 651 241 2 181 378 false 654),
 (382,fW0 "_law_drawn_web" mV 381),
 (386,co "_law_near_of" 657 248 2 181 383 false 660),
 (387,fW0 "_law_near_of" oy 386),
 (391,co "_law_two_step_of" 663 250 1 181 388 false 666),
 (392,fW0 "_law_two_step_of" k7 391),
 (396,co "_law_any_web" 669 257 2 181 393 false 672),
 (397,fW0 "_law_any_web" oA 396),
 (403,co "_law_few_ties" 675 271 3 181 398 true 682),
 (404,fW0 "_law_few_ties" nM 403),
 (410,co "_law_one_right" 685 276 2 181 405 true 695),
 (411,fW0 "_law_one_right" mU 410),
 (415,co "law" 698 291 1 181 412 false 701),
 (416,fW0 "law" lG 415)]
noncomputable def Qz:Program:=W.view PySem.Challenge.pw_rootwebs_k12_whole_roots_looked_at [1,2,3,4,5,6,8,9,10,11,12,13,15,16,17,18,19,20,21,22,23,24,25,26,27,28,29,31,32,33,34,35,36,37,38,39,40,41,43,44,45,46,47,48,49,50,51,52,53,54,55,57,58,59,60,61,62,63,64,65,66,67,68]
noncomputable abbrev Hz:W.Hook:=W.kHook Kz [3,107,108,114,115,121,122,126,127,131,132,138,139,145,146,152,153,157,158,164,165,171,172,176,177,183,184,190,191,195,196,200,201,207,208,212,213,219,220,226,227,233,234,238,239,245,246,250,251,257,258,262,263,267,268,272,273,277,278,282,283,289,290,294,295,299,300,304,305,309,310,314,315,319,320,324,325,329,330,336,337,343,344,350,351,357,358,364,365,371,372,376,377,381,382,386,387,391,392,396,397,403,404,410,411,415,416] λ_=>by kernel_rfl
theorem La:PySem.Challenge.rw_rootwebs_k12_whole_roots_looked_at.wellSaid=true:=by kernel_rfl
noncomputable abbrev Xz(s:Shared):Bool:=W.xlAt Qz [] s&&W.recOk (W.RowW.records (W.OpenRow.toRowW (W.OpenLaw.row PySem.Challenge.rw_rootwebs_k12_whole_roots_looked_at))) s
theorem yZ{σ α β γ δ1 δ2 δ3 δ4 δ5 δ6 ε:Type _}{o:Option σ}(F:σ->α×β×γ×δ1×δ2×δ3×δ4×δ5×δ6)(G:σ->ε)(g:α×β×γ×δ1×δ2×δ3×δ4×δ5×δ6)(v:ε)
  (H:o.map (λs=>(F s).1)=some g.1) (c:o.map (λs=>(F s).2.1)=some g.2.1) (d:o.map (λs=>(F s).2.2.1)=some g.2.2.1) (f:o.map (λs=>(F s).2.2.2.1)=some g.2.2.2.1)
  (i:o.map (λs=>((F s).2.2.2.2.1,(F s).2.2.2.2.2.1,(F s).2.2.2.2.2.2.1))=some (g.2.2.2.2.1,g.2.2.2.2.2.1,g.2.2.2.2.2.2.1)) (j:o.map (λs=>((F s).2.2.2.2.2.2.2.1,(F s).2.2.2.2.2.2.2.2))=some (g.2.2.2.2.2.2.2.1,g.2.2.2.2.2.2.2.2))
  (h:o.map G=some v):o.map (λs=>(F s,G s))=some (g,v):=by
 cases o with
 |none=>cases h
 |some s=>
  have E:=Prod.mk.inj (UO i);have a:=Prod.mk.inj E.2;have b:=Prod.mk.inj (UO j);have e:F s=g:=UP (UO H) (UP (UO c) (UP (UO d) (UP (UO f) (UP E.1 (UP a.1 (UP a.2 (UP b.1 b.2)))))));show some (F s,G s)=some (g,v);rw[e,UO h]
noncomputable abbrev Oz(w:World):=W.openEnds PySem.treeTable PySem.Challenge.rw_rootwebs_k12_whole_roots_looked_at.row.prog w 5918
noncomputable abbrev Sz:=W.openSeen Qz [] (PySem.importedModules PySem.Challenge.rw_rootwebs_k12_whole_roots_looked_at.row.prog.main.body) Xz true
noncomputable abbrev Tz:=W.openGood Qz []
open PySem PySem.W PySem.Calls PyProof.Rows in
theorem GY:∀w,(Oz w).map (λs=>seen ((recsOf Qz).map (·.name)) (ownsOf Qz) [] {s with gens:=#[]})=some (expectedOf Qz):=λw=>by kernel_rfl
open PySem PySem.W PySem.Calls PyProof.Rows in
theorem GX:∀w,(Oz w).map (λs=>s.heap.bltView)=some bltViewBooted:=λw=>by kernel_rfl
open PySem PySem.W PySem.Calls PyProof.Rows in
theorem GV:∀w,(Oz w).map (λs=>s.heap.keysOk (looseW Qz []) ((recsOf Qz).map (·.name)) ((litsOf Qz).map 3e2) ((clssOf Qz (looseW Qz [])).map (·.name))&&s.heap.accountedOkI (PySem.importedModules PySem.Challenge.rw_rootwebs_k12_whole_roots_looked_at.row.prog.main.body)&&s.heap.isNs mainGlobals&&s.heap.isNs builtinsNs&&tablesOk Qz 2e7&&Xz s&&(if true then s.gens.size == 0 else !leftWithCleanup s.gens))=some true:=λw=>by kernel_rfl
open PySem PySem.W PySem.Calls PyProof.Rows in
theorem GU:∀w,(Oz w).map (λs=>tabsOk Qz s)=some true:=λw=>by kernel_rfl
open PySem PySem.W PySem.Calls PyProof.Rows in
theorem GS:∀w,(Oz w).map (λs=>(pinSeenD Qz (drecsOf Qz) s,plainSeenE Qz (looseW Qz []) s,plainSeenD Qz [] s))=some (pinGoodD (drecsOf Qz),plainGoodE Qz (looseW Qz []),plainGoodD Qz []):=λw=>by kernel_rfl
open PySem PySem.W PySem.Calls PyProof.Rows in
theorem GR:∀w,(Oz w).map (λs=>(wideSeen Qz s,clsSeenW Qz [] s))=some (wideGood Qz,clsGoodW Qz []):=λw=>by kernel_rfl
theorem GQ:∀w,(Oz w).map (W.Hook.obs Hz)=some (W.Hook.val Hz w):=λw=>by kernel_rfl
theorem Lb:W.LeftO PySem.Challenge.rw_rootwebs_k12_whole_roots_looked_at.row.prog Qz [] Xz (W.Hook.obs Hz) (W.Hook.val Hz) 5918:=λw=>yZ Sz (W.Hook.obs Hz) Tz (W.Hook.val Hz w) (GY w) (GX w) (GV w) (GU w) (GS w) (GR w) (GQ w)
end Lw
namespace Lv
noncomputable def vy(a b:Nat):Nat:=if a<b then b*(b-1) / 2+a else a*(a-1) / 2+b
noncomputable def yj:List (Nat×Nat):=(List.range 6).flatMap λb=>(List.range b).map λa=>(a,b)
noncomputable def R7(p:Nat×Nat):Nat×List (Nat×Nat):=(vy p.1 p.2,((List.range 6).filter λc=>c != p.1&&c != p.2).map λc=>(vy p.1 c,vy c p.2))
noncomputable def tab:List (Nat×List (Nat×Nat)):=[(0,[(1,2),(3,4),(6,7),(10,11)]),(1,[(0,2),(3,5),(6,8),(10,12)]),(2,[(0,1),(4,5),(7,8),(11,12)]),(3,[(0,4),(1,5),(6,9),(10,13)]),(4,[(0,3),(2,5),(7,9),(11,13)]),(5,[(1,3),(2,4),(8,9),(12,13)]),(6,[(0,7),(1,8),(3,9),(10,14)]),(7,[(0,6),(2,8),(4,9),(11,14)]),(8,[(1,6),(2,7),(5,9),(12,14)]),(9,[(3,6),(4,7),(5,8),(13,14)]),(10,[(0,11),(1,12),(3,13),(6,14)]),(11,[(0,10),(2,12),(4,13),(7,14)]),(12,[(1,10),(2,11),(5,13),(8,14)]),(13,[(3,10),(4,11),(5,12),(9,14)]),(14,[(6,10),(7,11),(8,12),(9,13)])]
theorem Lx:tab=yj.map R7:=by decide +kernel
noncomputable def CU(x:Nat)(t:Nat×List (Nat×Nat)):Bool:=x.testBit t.1 || t.2.any λp=>x.testBit p.1&&x.testBit p.2
noncomputable def sz(x:Nat):Nat:=tab.countP (CU x)
noncomputable def yo(x:Nat):Nat:=tab.foldl (λs t=>2*s+(CU x t).toNat) 0
noncomputable def zH:Nat->Nat->List Nat->List Nat
 |0,x,a=>if Nat.ble (sz x) 9=true then x::a else a
 |i+1,x,a=>if Nat.ble (sz x) 9=true then zH i x (zH i (x+2^i) a) else a
noncomputable def Uc(n:Nat)(acc:List Nat):List Nat:=match n with
 |0=>0::acc
 |y+1=>(y+1)::acc
noncomputable def A4:List (List Nat):=[[1,6,24,192,3072],[2,5,40,320,5120],[4,3,48,384,6144],[8,17,34,576,9216],[16,9,36,640,10240],[32,10,20,768,12288],[64,129,258,520,17408],[128,65,260,528,18432],[256,66,132,544,20480],[512,72,144,288,24576],[1024,2049,4098,8200,16448],[2048,1025,4100,8208,16512],[4096,1026,2052,8224,16640],[8192,1032,2064,4128,16896],[16384,1088,2176,4352,8704]]
theorem z9:A4=tab.map λt=>2^t.1::t.2.map λp=>2^p.1 ||| 2^p.2:=by decide +kernel
noncomputable def Gh(x:Nat)(s:List Nat):Bool:=@List.rec Nat (λ_=>Bool) false (λm _ i=>@Bool.rec (λ_=>Bool) i true (Nat.beq (Nat.land x m) m)) s
noncomputable def OT(x:Nat)(T:List (List Nat)):Nat:=@List.rec (List Nat) (λ_=>Nat) 0 (λt _ i=>@Bool.rec (λ_=>Nat) i (Nat.succ i) (Gh x t)) T
noncomputable def DA(x:Nat)(T:List (List Nat)):Nat->Nat:=@List.rec (List Nat) (λ_=>Nat->Nat) (λs=>s) (λt _ i s=>i (Nat.add (Nat.mul 2 s) (@Bool.rec (λ_=>Nat) 0 1 (Gh x t)))) T
noncomputable def Ba:Nat->Nat->List Nat->List Nat
 |0,x,a=>@Bool.rec (λ_=>List Nat) a (Uc (DA x A4 0) a) (Nat.ble (OT x A4) 9)
 |i+1,x,a=>@Bool.rec (λ_=>List Nat) a (Ba i x (Ba i (Nat.add x (Nat.pow 2 i)) a)) (Nat.ble (OT x A4) 9)
noncomputable def OI(m:Nat)(l:List Nat):List Nat:=@List.rec Nat (λ_=>List Nat) [] (λx _ i=>@Bool.rec (λ_=>List Nat) (x::i) i (Nat.beq (Nat.land x m) 0)) l
noncomputable def OY(m:Nat)(l:List Nat):List Nat:=@List.rec Nat (λ_=>List Nat) [] (λx _ i=>@Bool.rec (λ_=>List Nat) i (x::i) (Nat.beq (Nat.land x m) 0)) l
noncomputable def vM:Nat->List Nat->Bool
 |0,l=>Nat.ble l.length 63
 |n+1,l=>@Bool.rec (λ_=>Bool) (@Bool.rec (λ_=>Bool) false (vM n (OY (Nat.pow 2 n) l)) (vM n (OI (Nat.pow 2 n) l))) true (Nat.ble l.length 63)
theorem Om:vM 15 (Ba 15 0 [])=true:=by decide +kernel
end Lv
theorem jr{P Q R:Prop}{C:Prop}(h:P/\Q/\R)(k:P->Q->R->C):C:=k h.1 h.2.1 h.2.2
theorem tX{P Q R S:Prop}{C:Prop}(h:P/\Q/\R/\S)(k:P->Q->R->S->C):C:=k h.1 h.2.1 h.2.2.1 h.2.2.2
theorem jM{P Q R S T:Prop}{C:Prop}(h:P/\Q/\R/\S/\T)(k:P->Q->R->S->T->C):C:=k h.1 h.2.1 h.2.2.1 h.2.2.2.1 h.2.2.2.2
theorem ig{P Q R S T U:Prop}{C:Prop}(h:P/\Q/\R/\S/\T/\U)(k:P->Q->R->S->T->U->C):C:=k h.1 h.2.1 h.2.2.1 h.2.2.2.1 h.2.2.2.2.1 h.2.2.2.2.2
theorem oT{α:Sort _}{P:Prop}{Q R:α->Prop}{C:Prop}(h:P/\∃a,Q a/\R a)(k:P->∀a,Q a->R a->C):C:=h.2.elim λa H=>k h.1 a H.1 H.2
theorem bz{α:Sort _}{P Q:α->Prop}{C:Prop}(h:∃a,P a/\Q a)(k:∀a,P a->Q a->C):C:=h.elim λa H=>k a H.1 H.2
theorem bI{α:Sort _}{P Q R:α->Prop}{C:Prop}(h:∃a,P a/\Q a/\R a)(k:∀a,P a->Q a->R a->C):C:=h.elim λa H=>k a H.1 H.2.1 H.2.2
theorem lb{α:Sort _}{P Q R S:α->Prop}{C:Prop}(h:∃a,P a/\Q a/\R a/\S a)(k:∀a,P a->Q a->R a->S a->C):C:=h.elim λa H=>k a H.1 H.2.1 H.2.2.1 H.2.2.2
theorem la{α:Sort _}{β:Sort _}{P:α->Prop}{Q R:α->β->Prop}{C:Prop}(h:∃a,P a/\∃b,Q a b/\R a b)(k:∀a,P a->∀b,Q a b->R a b->C):C:=h.elim λa H=>H.2.elim λb c=>k a H.1 b c.1 c.2
theorem CJ{α:Sort _}{β:Sort _}{P:α->β->Prop}{C:Prop}(h:∃a,∃b,P a b)(k:∀a,∀b,P a b->C):C:=h.elim λa H=>H.elim λb c=>k a b c
theorem bH{α:Sort _}{β:Sort _}{P Q:α->β->Prop}{C:Prop}(h:∃a,∃b,P a b/\Q a b)(k:∀a,∀b,P a b->Q a b->C):C:=h.elim λa H=>H.elim λb c=>k a b c.1 c.2
theorem aP{α:Sort _}{β:Sort _}{P Q R:α->β->Prop}{C:Prop}(h:∃a,∃b,P a b/\Q a b/\R a b)(k:∀a,∀b,P a b->Q a b->R a b->C):C:=h.elim λa H=>H.elim λb c=>k a b c.1 c.2.1 c.2.2
theorem aF{α:Sort _}{β:Sort _}{P Q R S:α->β->Prop}{C:Prop}(h:∃a,∃b,P a b/\Q a b/\R a b/\S a b)(k:∀a,∀b,P a b->Q a b->R a b->S a b->C):C:=h.elim λa H=>H.elim λb c=>k a b c.1 c.2.1 c.2.2.1 c.2.2.2
theorem gf{α:Sort _}{β:Sort _}{P Q R S T:α->β->Prop}{C:Prop}(h:∃a,∃b,P a b/\Q a b/\R a b/\S a b/\T a b)(k:∀a,∀b,P a b->Q a b->R a b->S a b->T a b->C):C:=h.elim λa H=>H.elim λb c=>k a b c.1 c.2.1 c.2.2.1 c.2.2.2.1 c.2.2.2.2
theorem pz{α:Sort _}{β:Sort _}{γ:Sort _}{P Q:α->β->γ->Prop}{C:Prop}(h:∃a,∃b,∃c,P a b c/\Q a b c)(k:∀a,∀b,∀c,P a b c->Q a b c->C):C:=h.elim λa H=>H.elim λb e=>e.elim λc d=>k a b c d.1 d.2
theorem cX{α:Sort _}{β:Sort _}{γ:Sort _}{P Q R:α->β->γ->Prop}{C:Prop}(h:∃a,∃b,∃c,P a b c/\Q a b c/\R a b c)(k:∀a,∀b,∀c,P a b c->Q a b c->R a b c->C):C:=h.elim λa H=>H.elim λb e=>e.elim λc d=>k a b c d.1 d.2.1 d.2.2
theorem eC{α:Sort _}{β:Sort _}{γ:Sort _}{P Q R S:α->β->γ->Prop}{C:Prop}(h:∃a,∃b,∃c,P a b c/\Q a b c/\R a b c/\S a b c)(k:∀a,∀b,∀c,P a b c->Q a b c->R a b c->S a b c->C):C:=h.elim λa H=>H.elim λb e=>e.elim λc d=>k a b c d.1 d.2.1 d.2.2.1 d.2.2.2
theorem cE{α:Sort _}{β:Sort _}{γ:Sort _}{δ:Sort _}{P Q R S:α->β->γ->δ->Prop}{C:Prop}(h:∃a,∃b,∃c,∃d,P a b c d/\Q a b c d/\R a b c d/\S a b c d)(k:∀a,∀b,∀c,∀d,P a b c d->Q a b c d->R a b c d->S a b c d->C):C:=h.elim λa e=>e.elim λb f=>f.elim λc g=>g.elim λd H=>k a b c d H.1 H.2.1 H.2.2.1 H.2.2.2
theorem dz{α:Sort _}{β:Sort _}{γ:Sort _}{δ:Sort _}{ε:Sort _}{P Q R:α->β->γ->δ->ε->Prop}{C:Prop}(h:∃a,∃b,∃c,∃d,∃e,P a b c d e/\Q a b c d e/\R a b c d e)(k:∀a,∀b,∀c,∀d,∀e,P a b c d e->Q a b c d e->R a b c d e->C):C:=h.elim λa H=>H.elim λb g=>g.elim λc i=>i.elim λd j=>j.elim λe f=>k a b c d e f.1 f.2.1 f.2.2
namespace L2
open PySem PySem.Spec PyProof.Rows
abbrev yb:=Sum Int Str
noncomputable def KA:yb->Value->Bool
 |.inl k,v=>Value.isInt k v
 |.inr x,v=>Value.isStrOf x v
noncomputable def Tt(w:World):yb->Int
 |.inl k=>hashInt k
 |.inr x=>hashStr w x
theorem cN:∀{k:yb}{v:Value},KA k v=true->(∃i t,k=Sum.inl i/\v=Value.int i t)\/(∃x t,k=Sum.inr x/\v=Value.str x t)
 |.inl i,v,h=>by
  obtain⟨t,e⟩:=Value.isInt_shape h;exact .inl ⟨i,t,rfl,e⟩
 |.inr x,v,h=>by
  obtain⟨t,e⟩:=Value.isStrOf_shape h;exact .inr ⟨x,t,rfl,e⟩
theorem NN(a b:Int):decide ((Sum.inl a:yb)=Sum.inl b)=(a == b):=by
 lia
theorem NM(a:Int)(b:Str):decide ((Sum.inl a:yb)=Sum.inr b)=false:=UQ (λq=>nomatch q)
theorem NK(a:Str)(b:Int):decide ((Sum.inr a:yb)=Sum.inl b)=false:=UQ (λq=>nomatch q)
noncomputable def uJ(prog:Program)(w:World):PySem.KeyKind prog w yb where
 is:=KA
 hash:=Tt w
 inj:=λv a b n B=>by
  rcases cN n with⟨i,t,rfl,rfl⟩|⟨x,t,rfl,rfl⟩
  ·rcases cN B with ⟨j, u, rfl, e⟩ | ⟨y, u, rfl, e⟩
   all_goals lia
  ·rcases cN B with ⟨j, u, rfl, e⟩ | ⟨y, u, rfl, e⟩
   all_goals lia
 byValue:=λk v h=>by
  rcases cN h with⟨i,t,rfl,rfl⟩|⟨x,t,rfl,rfl⟩ <;> rfl
 pyHash:=λV h=>by
  rcases cN V with⟨i,t,rfl,rfl⟩|⟨x,t,rfl,rfl⟩
  ·exact wpAny_pyHash_int h
  ·exact wpAny_pyHash_str h
 eqBool:=λU V h=>by
  rcases cN U with⟨i,t,rfl,rfl⟩|⟨x,t,rfl,rfl⟩
  ·rcases cN V with ⟨j, u, rfl, rfl⟩ | ⟨y, u, rfl, rfl⟩
   ·rw[NN]at h;exact wpAny_eqBool_int h
   ·rw[NM]at h;exact SeqAt.EqAt.int_str i t y u _ _ _ _ h
  ·rcases cN V with ⟨j, u, rfl, rfl⟩ | ⟨y, u, rfl, rfl⟩
   ·rw[NK]at h;exact SeqAt.EqAt.str_int x t j u _ _ _ _ h
   simp_all[wpAny_eqBool_str]
 «strs»:=λk x t v h=>by
  rcases cN h with⟨i,u,rfl,e⟩|⟨y,u,rfl,e⟩
  ·exact nomatch e
  ·injection e with d _
   subst d;cases v <;> rfl
inductive V where
 |non|bl (b:Bool)|int (i:Int)|str (x:Str)|byt (b:Array UInt8)|flt (b:UInt64)|ref (a:Addr)|ty (n:String)
 deriving DecidableEq
def cm:V->Value->Prop
 |.non,u=>u=Value.none
 |.bl b,u=>u=Value.bool b
 |.int i,u=>∃t,u=Value.int i t
 |.str x,u=>∃t,u=Value.str x t
 |.byt b,u=>∃t,u=Value.bytes b t
 |.flt b,u=>∃t,u=Value.float b t
 |.ref a,u=>u=Value.ref a
 |.ty n,u=>u=Value.type n
abbrev bb:List V->List Value->Prop:=Paired cm
theorem bb.length{xs:List V}(r:bb xs us):xs.length=us.length:=Paired.length r
theorem bb.get:∀{xs:List V}{us:1e5}{i:Nat}{x:V},bb xs us->xs[i]?=some x->∃u,us[i]?=some u/\cm x u
 |_,_,_,_,.nil,e=>by simp at e
 |_,_,0,_,.cons r _,e=>by simp at e;subst e;exact⟨_,rfl,r⟩
 |_,_,i+1,x,.cons _ t,e=>by
  refine bz (bb.get (i:=i) (x:=x) t (by simpa using e)) λu h1 h2=>?_;exact⟨u,by simpa using h1,h2⟩
theorem bb.set{x:V}{u:Value}(r:cm x u):∀{xs:List V}{us:1e5}(i:Nat),bb xs us->bb (xs.set i x) (us.set i u)
 |_,_,_,.nil=>.nil
 |_,_,0,.cons _ t=>.cons r t
 |_,_,i+1,.cons q t=>.cons q (bb.set r i t)
theorem bb.append:∀{xs ys:List V}{us ws:1e5},bb xs us->bb ys ws->bb (xs++ys) (us++ws)
 |_,_,_,_,.nil,s=>s
 |_,_,_,_,.cons r t,s=>.cons r (bb.append t s)
theorem bb.take:∀{xs:List V}{us:1e5}(n:Nat),bb xs us->bb (xs.take n) (us.take n)
 |_,_,0,_=>.nil
 |_,_,_+1,.nil=>.nil
 |_,_,n+1,.cons r t=>.cons r (bb.take n t)
theorem bb.drop:∀{xs:List V}{us:1e5}(n:Nat),bb xs us->bb (xs.drop n) (us.drop n)
 |_,_,0,r=>r
 |_,_,_+1,.nil=>.nil
 |_,_,n+1,.cons _ t=>bb.drop n t
def Pr:Option V->Option Value->Prop
 |some v,some u=>cm v u
 |none,none=>True
 |_,_=>False
def KV{κ:Type}:List (κ×V)->List (κ×Value)->Prop:=Paired λ(p:κ×V) (q:κ×Value)=>p.1=q.1/\cm p.2 q.2
noncomputable def kV:yb->V
 |.inl i=>.int i
 |.inr x=>.str x
inductive HO where
 |lst (xs:List V)
 |tup (xs:List V)
 |dK (kvs:List (yb×V))|dT (kvs:List (List yb×V))
 |set (S:Int->Bool) (n:Nat)
 |ins (C dx:Addr) (fs:List (Str×V))
 |own (x:Addr)
 |xd (fs:List (Str×V))
 |met (f x:Addr)
 |rng (lo hi:Int)
 |frz (o:Obj) (u:HO)
 |tbl (ps:5e5)
 |ext (φ:Heap->Prop)
abbrev Hp:=Addr->Option HO
noncomputable def cq(H:Hp)(a:Addr)(o:HO):Hp:=λb=>if b=a then some o else H b
theorem cg{H:Hp}{o:HO}:cq H a o a=some o:=by simp[cq]
theorem bo{H:Hp}{b:Addr}{o:HO}(h:b≠a):cq H a o b=H b:=by simp_all[cq]
theorem jO{H:Hp}{b:Addr}{o u:HO}(h:H a=some o)(h':H b=some u)(d:o≠u):a≠b:=by
 lia
theorem dg{H:Hp}{b:Addr}{o:HO}(h:H a=some o)(h':H b=none):a≠b:=by
 lia
def kb (h:Heap) (a:Addr) (items:5e5):Prop:=∃o,h.get? a=some o/\o.cls=.type "tuple" /\ (∃n,o.data=.seq items n)/\o.dict=none
theorem kb.t{items:5e5}(x:kb h a items):IsTup h a items:=let ⟨o,e,c,n,_⟩:=x;⟨o,e,c,n⟩
theorem kb.new (h:Heap) (items:5e5):kb (h.push {cls:=.type "tuple",data:=.seq items}) h.objs.size items:=⟨_,UR _ rfl,rfl,⟨_,rfl⟩,rfl⟩
section
variable(P:Program)(w:World)
def iH(H:Hp)(h:Heap)(a:Addr):HO->Prop
 |.lst xs=>xs.length<=sizeLine/\∃(i:1e5) (n:Nat),bb xs i/\h.get? a=some {cls:=.type "list",data:=.seq i.toArray n}
 |.tup xs=>xs.length<=sizeLine/\∃i:List Value,bb xs i/\kb h a i.toArray
 |.dK d=>d.length<=sizeLine/\(a == sysModules)=false/\∃y,KV d y/\h.DictOf (uJ P w) a y
 |.dT d=>d.length<=sizeLine/\(a == sysModules)=false/\∃xs:List (List yb×Addr×Value),
   Paired (λ(p:List yb×V) (q:List yb×Addr×Value)=>p.1=q.1/\H q.2.1=some (.tup (p.1.map kV))/\cm p.2 q.2.2) d xs /\
   ∃o es z,h.get? a=some o/\o.ExactDict/\o.data=.dict es z/\es.toList=xs.map (entryOfKey (tupleKind (uJ P w)))/\(xs.map 3e2).Nodup
 |.set S n=>h.SetOf (intKind P w) a S n
 |.ins C dx fs=>H dx=some (.own a)/\fs.length<=1000/\dx≠a/\h.get? a=some (W.instObj C dx) /\
   ∃mA,h.Ns1 dx mA/\(∀f,Pr (fs.lookup f) (mA f))/\PySem.Within mA (fs.map 3e2)
 |.own _=>∃o,h.get? a=some o
 |.xd fs=>∃mA,h.Ns1 a mA/\∀f,Pr (fs.lookup f) (mA f)
 |.rng lo hi=>∃t u v,h.get? a=some {cls:=.type "range",data:=.fields #[.int lo t,.int hi u,.int 1 v]}
 |.frz o u=>h.get? a=some o/\iH H h a u
 |.tbl ps=>h.get? a=some {cls:=.none,data:=.fields ps}
 |.met f x=>h.get? a=some (W.methodObj (.ref f) (.ref x))
 |.ext j=>j h/\(∃o,h.get? a=some o)/\∀h1 h2:Heap,j h1->(∀o,h1.get? a=some o->h2.get? a=some o)->j h2
def oS(H:Hp)(h:Heap):Prop:=∀a o,H a=some o->iH P w H h a o
end
section
variable{H H':Hp}{o:HO}
theorem iH.lt(x:iH P w H h a o):a<h.objs.size:=by
 cases o with
 |lst xs=>obtain⟨_,_,_,_,e⟩:=x;exact US e
 |tup xs=>refine oT x λ_ _ _ p=>?_;exact p.t.lt
 |dK d=>obtain⟨_,_,_,_,o,_,_,e,_⟩:=x;exact US e
 |dT d=>obtain⟨_,_,_,_,o,_,_,e,_⟩:=x;exact US e
 |set S n=>obtain⟨o,_,_,_,e,_⟩:=x;exact US e
 |ins C dx fs=>refine jM x λ_ _ _ e _=>?_;exact US e
 |own y=>obtain⟨_,e⟩:=x;exact US e
 |xd fs=>obtain⟨_,⟨_,_,_,e,_⟩,_⟩:=x;exact US e
 |rng lo hi=>obtain⟨_,_,_,e⟩:=x;exact US e
 |frz O u=>obtain⟨e,_⟩:=x;exact US e
 |tbl ps=>exact US x
 |met f y=>exact US x
 |ext j=>obtain⟨_,⟨_,e⟩,_⟩:=x;exact US e
theorem km{α β:Type}{F G:α->β->Prop}:∀{l₁:List α}{l₂:List β},Paired F l₁ l₂->(∀a b,F a b->G a b)->Paired G l₁ l₂
 |_,_,.nil,_=>.nil
 |_,_,.cons r t,f=>.cons (f _ _ r) (km t f)
theorem iH.stay(x:iH P w H h a o)(k:∀b u,(b=a\/H b=some (.own a))->h.get? b=some u->h'.get? b=some u)
  (G:∀b,H b=some (.own a)->H' b=some (.own a)) (J:∀b xs,H b=some (.tup xs)->H' b=some (.tup xs)):iH P w H' h' a o:=by
 induction o with
 |lst xs=>obtain⟨z,I,n,r,e⟩:=x;exact⟨z,I,n,r,k _ _ (.inl rfl) e⟩
 |tup xs=>obtain⟨z,I,r,O,e,c⟩:=x;exact⟨z,I,r,O,k _ _ (.inl rfl) e,c⟩
 |dK j=>obtain⟨z,y,V,r,O,es,i,e,c⟩:=x;exact⟨z,y,V,r,O,es,i,k _ _ (.inl rfl) e,c⟩
 |dT j=>
  obtain⟨z,y,xs,r,O,es,i,e,c⟩:=x;exact⟨z,y,xs,km r λp q z=>⟨z.1,J _ _ z.2.1,z.2.2⟩,O,es,i,k _ _ (.inl rfl) e,c⟩
 |set S n=>obtain⟨O,es,i,t,e,c⟩:=x;exact⟨O,es,i,t,k _ _ (.inl rfl) e,c⟩
 |ins C dx fs=>
  obtain⟨d,z,ne,e,mA,⟨D,es,i,B,c⟩,r⟩:=x;exact⟨G _ d,z,ne,k _ _ (.inl rfl) e,mA,⟨D,es,i,k _ _ (.inr d) B,c⟩,r⟩
 |own y=>obtain⟨O,e⟩:=x;exact⟨O,k _ _ (.inl rfl) e⟩
 |xd fs=>obtain⟨mA,⟨D,es,i,e,c⟩,r⟩:=x;exact⟨mA,⟨D,es,i,k _ _ (.inl rfl) e,c⟩,r⟩
 |rng lo hi=>obtain⟨t,u,v,e⟩:=x;exact⟨t,u,v,k _ _ (.inl rfl) e⟩
 |frz O u L=>obtain⟨e,q⟩:=x;exact⟨k _ _ (.inl rfl) e,L q⟩
 |tbl ps=>
  have e:=x;exact k a _ (.inl rfl) e
 |met f y=>
  have e:=x;exact k a _ (.inl rfl) e
 |ext M=>obtain⟨p,⟨o,e⟩,st⟩:=x;exact⟨st _ _ p λo q=>k _ _ (.inl rfl) q,⟨o,k _ _ (.inl rfl) e⟩,st⟩
theorem oS.lt(x:oS P w H h)(e:H a=some o):a<h.objs.size:=(x a o e).lt
theorem oS.fresh(x:oS P w H h)(e:h.objs.size<=a):H a=none:=by
 cases q:H a with
 |none=>rfl
 |some u=>exact absurd (UT (x.lt q) e) (UU _)
theorem oS.kept(x:oS P w H h)(k:(∀b u,h.get? b=some u->h'.get? b=some u)):oS P w H h':=λa o e=>
 (x a o e).stay (λb u _ q=>k b u q) (λ_ q=>q) λ_ _ q=>q
theorem oS.laid(x:oS P w H h)(k:(∀b u,h.get? b=some u->h'.get? b=some u))(d:h.objs.size<=a)(new:iH P w (cq H a o) h' a o):oS P w (cq H a o) h':=λb u e=>by
 have n:=x.fresh d;by_cases B:b=a
 ·grind [cg]
 ·rw[bo B]at e;exact(x b u e).stay (λc v _ q=>k c v q) (λc q=>by rw[bo (dg q n)];exact q) λc xs q=>by rw[bo (dg q n)];exact q
end
def Rd(H:Hp)(a:Addr)(u:HO):Prop:=H a=some u\/∃o,H a=some (.frz o u)
theorem Rd.ok{H:Hp}{u:HO}(r:Rd H a u)(x:oS P w H h):iH P w H h a u:=by
 rcases r with r|⟨o,r⟩
 ·exact x a u r
 ·obtain⟨_,q⟩:=x a _ r;exact q
def Sf:Option HO->Prop
 |some (.lst _)=>True
 |some (.dK _)=>True
 |some (.dT _)=>True
 |some (.set _ _)=>True
 |some (.ins _ _ _)=>True
 |some (.ext _)=>True
 |_=>False
section
variable{H:Hp}{x e:Addr}{o':HO}
theorem oS.write(ok:oS P w H h)(M:Sf (H x))(n:e=x\/H e=some (.own x))(k:∀b u,b≠e->h.get? b=some u->h'.get? b=some u)(O:∃u,h'.get? e=some u)
  (new:iH P w (cq H x o') h' x o'):oS P w (cq H x o') h':=λb u q=>by
 have nown:∀c y,H c=some (.own y)->c≠x:=λc y r z=>by subst z;rw[r]at M;exact M
 by_cases B:b=x
 ·grind [cg]
 ·rw [bo B] at q;by_cases d:b=e
  ·have i:H b=some (.own x):=by
    lia
   rw[q]at i;cases i;obtain⟨v,V⟩:=O;exact⟨v,by rw[d];exact V⟩
  ·refine (ok b u q).stay (λc v j r => k c v ?_ r) (λc r => by rw [bo (nown c b r)]; exact r) λc xs r => by rw [bo ((λc xs r z => by subst z; rw [r] at M; exact M) c xs r)]; exact r
   grind
end
structure Un(fs ex:3e4)(H H':Hp)(h h':Heap):Prop where
 keep:∀b o,h.get? b=some o->H b=none->b∉fs->b∉ex->h'.get? b=some o
 slot:∀b o,h.get? b=some o->H b=none->b∈fs->b∉ex->∃sl,h'.get? b=some {o with slots:=sl}
 free:∀b o,h.get? b=some o->H b=none->b∉ex->H' b=none
 there:∀b o,h.get? b=some o->b∉ex->∃o',h'.get? b=some o'
 tups:∀b xs,H b=some (.tup xs)->H' b=some (.tup xs)
 frzs:∀b o u,H b=some (.frz o u)->H' b=some (.frz o u)
 tbls:∀b ps,H b=some (.tbl ps)->∃more,H' b=some (.tbl (ps++more))
section
variable{fs fs' ex ex':3e4}{H H1 H2:Hp}{h1 h2:Heap}{x e:Addr}{o:HO}
theorem Un.any(u:Un fs ex H H1 h h1){b:Addr}{ob:Obj}(q:h.get? b=some ob)(n:H b=none)(d:b∉ex):∃sl,h1.get? b=some {ob with slots:=sl}:=by
 by_cases B:b∈fs
 ·exact u.slot b ob q n B d
 ·exact⟨ob.slots,u.keep b ob q n B d⟩
theorem Un.kept(k:(∀b u,h.get? b=some u->h'.get? b=some u)):Un fs ex H H h h':=
 ⟨λb O q _ _ _=>k b O q,λb O q _ _ _=>⟨O.slots,k b O q⟩,λ_ _ _ n _=>n,λb O q _=>⟨O,k b O q⟩,λ_ _ q=>q,λ_ _ _ q=>q,λ_ ps q=>⟨#[],by rw[q];simp⟩⟩
theorem Un.refl:Un fs ex H H h h:=Un.kept λ_ _ q=>q
theorem Un.laid(k:(∀b u,h.get? b=some u->h'.get? b=some u))(d:h.objs.size<=a)(N:H a=none):Un fs ex H (cq H a o) h h' where
 keep:=λb u q _ _ _=>k b u q
 slot:=λb u q _ _ _=>⟨u.slots,k b u q⟩
 free:=λb u q n _=>by rw[bo (UV (UT (US q) d))];exact n
 there:=λb u q _=>⟨u,k b u q⟩
 tups:=λb xs q=>by rw[bo (dg q N)];exact q
 frzs:=λb u xs q=>by rw[bo (dg q N)];exact q
 tbls:=λb ps q=>⟨#[],by rw[bo (dg q N),q];simp⟩
theorem Un.write(M:Sf (H x))(j:e=x\/H e=some (.own x))(k:∀b u,b≠e->h.get? b=some u->h'.get? b=some u)(O:∃u,h'.get? e=some u):Un fs ex H (cq H x o) h h':=by
 have i:∀b,H b=none->b≠x:=λb n z=>by subst z;rw[n]at M;exact M
 have B:∀b,H b=none->b≠e:=λb n z=>by
  subst z;rcases j with r|r
  ·exact i b n r
  ·rw[n]at r;cases r
 have d:∀b u,H b=some u->¬ Sf (some u)->b≠x:=λb u q nm z=>by subst z;rw[q]at M;exact nm M
 refine⟨λb u q n _ _=>k b u (B b n) q,λb u q n _ _=>⟨u.slots,k b u (B b n) q⟩,λb u q n _=>by rw[bo (i b n)];exact n,λb u q _=>?_,
  λb xs q=>by rw[bo (d b _ q λz=>z)];exact q,λb u xs q=>by rw[bo (d b _ q λz=>z)];exact q,λb ps q=>⟨#[],by rw[bo (d b _ q λz=>z),q];simp⟩⟩
 grind
end
noncomputable def Sr(h:Heap)(H:Hp):List Addr:=(List.range h.objs.size).filter λa=>(H a).isSome
noncomputable def yk(h:Heap)(H:Hp):Heap:=W.hideAll h (Sr h H)
theorem Ca(h:Heap)(H:Hp):(yk h H).objs.size=h.objs.size:=W.hideAll_size _ _
theorem FP{H:Hp}{b:Addr}{o:Obj}(e:h.get? b=some o)(n:H b=none):(yk h H).get? b=some o:=
 W.hideAll_get _ e λd=>by
  have q:=(UW.mp d).2;rw[n]at q;simp at q
theorem IU{H:Hp}{b:Addr}{o:Obj}(e:(yk h H).get? b=some o):h.get? b=some o/\H b=none:=by
 have d:=W.of_hideAll (Sr h H) e;refine⟨d,?_⟩;cases q:H b with
 |none=>rfl
 |some x=>
  simp_all[Sr,US,yk,W.hideAll_none]
end L2
variable{H:L2.Hp}{vs:List L2.V}{v:L2.V}
namespace L2
open PySem PySem.Spec PyProof.Rows
structure Mod(K:W.Frag)(mg:5e1)(base:Heap):Prop where
 kin:K.In base
 glob:base.Ns mainGlobals mg
 blt:∃mb,base.Ns builtinsNs mb/\∀x:Str,x ≠ "__name__" -> mb x=bootBuiltins x
 nolimit:base.NoLimit
structure Cx where
 prog:Program
 w:World
 K:W.Frag
 mg:Str->Option Value
 base:Heap
 A:Around
 N:List Str
 s₀:Shared
 H₀:Hp
 env:Env
 outer:List Env
 stack:List Env
 ex:List Addr
 fn:Str->Bool
 calm:Bool
 pn:List (Addr×Obj)
 xe:Value->Shared->Prop
noncomputable def CW(l:List Env):List Addr:=l.filterMap (·.frame)
noncomputable abbrev Cx.fs(X:Cx):List Addr:=CW X.outer
def Sy(S:Scope)(x:Str):Prop:=S.names.lookup x=some .local\/S.names.lookup x=some .cell\/S.names.lookup x=some .free
def CZ(S:Scope)(x:Str):Prop:=S.names.lookup x=some .local\/S.names.lookup x=some .cell
def T1(env:Env)(h:Heap)(m:5e1)(x:Str)(u:Value):Prop:=
 (env.kindOf x=some .local/\m x=some u)\/((env.kindOf x=some .cell\/env.kindOf x=some .free)/\∃c,env.cells.lookup x=some c/\h.IsCell c (some u))
structure Cx.Ok(X:Cx):Prop where
 mod:Mod X.K X.mg X.base
 kind:X.env.scope.kind=.function
 glob:X.env.globals=mainGlobals
 blt:X.env.builtins=builtinsNs
 above:X.s₀.heap.objs.size<=X.env.locals
 inj:∀x y c,X.env.cells.lookup x=some c->X.env.cells.lookup y=some c->x=y
 has:∀x,(X.env.kindOf x=some .cell\/X.env.kindOf x=some .free)->∃c,X.env.cells.lookup x=some c
 cab:∀x c,X.fn x=true->X.env.cells.lookup x=some c->X.s₀.heap.objs.size<=c
 hd:X.calm=true->X.A.handled=none
 frames:X.A.frames=some X.stack
 stk:X.stack=X.outer\/(X.stack=X.env::X.outer/\X.env.frame=some X.env.locals)
 exf:∀b∈X.ex,b≠X.env.locals/\∀x c,X.env.cells.lookup x=some c->c≠b
 bs:∀b o,X.base.get? b=some o->X.s₀.heap.get? b=some o/\X.H₀ b=none
 bsz:X.base.objs.size<=X.s₀.heap.objs.size
 noex:∀b o,X.base.get? b=some o->b∉X.ex
 exfs:∀b∈X.ex,b∉X.fs
 funs:X.s₀.heap.FunFrames X.base X.outer
 frf:∀b∈X.fs,X.H₀ b=none
structure aS(X:Cx)(pins:1e9)(σ:List (Option V))(H:Hp)(s:Shared):Prop where
 ok:X.Ok
 os:s.os=X.s₀.os
 bare:AllBare s.gens
 base:Un X.fs X.ex X.H₀ H X.s₀.heap 2e7
 loc:∃m,s.heap.Ns X.env.locals m/\∀(i:Nat)(x:Str)(v:V),X.N[i]?=some x->σ[i]?=some (some v)->Sy X.env.scope x->∃u,cm v u/\T1 1e7 2e7 m x u
 cell:∀x c,X.env.cells.lookup x=some c->∃v,s.heap.IsCell c v
 free:H X.env.locals=none
 freeC:∀x c,X.env.cells.lookup x=some c->H c=none
 pin:∀p∈X.pn++pins,s.heap.get? p.1=some p.2/\H p.1=none/\p.1≠X.env.locals/\p.1∉X.fs/\∀v,p.2.data≠.cell v
 hok:oS X.prog X.w H 2e7
 len:σ.length=X.N.length
section
variable{X:Cx}{σ:List (Option V)}{H':Hp}
theorem Cx.Ok.nofr(ok:X.Ok){b:Addr}{o:Obj}(e:X.base.get? b=some o):b∉X.fs:=λB=>by
 have:=(ok.funs.mem B).1
 lia
theorem aS.bs(I:0e6):∀b o,X.base.get? b=some o->s.heap.get? b=some o/\H b=none:=λb o e=>
 ⟨I.base.keep b o (I.ok.bs b o e).1 (I.ok.bs b o e).2 (I.ok.nofr e) (I.ok.noex b o e),I.base.free b o (I.ok.bs b o e).1 (I.ok.bs b o e).2 (I.ok.noex b o e)⟩
theorem aS.bk(I:0e6):∀b o,X.base.get? b=some o->s.heap.get? b=some o:=λb o e=>(I.bs b o e).1
theorem aS.mod(I:0e6):Mod X.K X.mg X.base:=I.ok.mod
theorem aS.kIn(I:0e6):X.K.In 2e7:=I.ok.mod.kin.keeps I.bk
theorem aS.lt(I:0e6):X.env.locals<s.heap.objs.size:=let ⟨_,hn,_⟩:=I.loc;hn.lt
theorem aS.sz(I:0e6):X.s₀.heap.objs.size<=s.heap.objs.size:=UX I.ok.above (UY I.lt)
theorem aS.nofs(I:0e6)(h:s.heap.objs.size<=a):a∉X.fs:=λB=>by
 refine oT (I.ok.funs.mem B) λ_ o G _=>?_;exact absurd (UT (US G) (UX I.sz h)) (UU _)
theorem aS.cne(I:0e6):∀x c,X.env.cells.lookup x=some c->c≠X.env.locals:=λx c e z=>by
 refine bH (I.cell x c e) λv o G D=>?_;obtain⟨m,⟨o',es,j,i,d,_⟩,_⟩:=I.loc
 lia
theorem aS.funs(I:0e6):s.heap.FunFrames X.base X.outer:=by
 have all:∀(l:List Env),(∀b∈CW l,b∈X.fs)->X.s₀.heap.FunFrames X.base l->s.heap.FunFrames X.base l:=by
  intro l
  induction l with
  |nil=>intro _ _;trivial
  |cons env r j=>
   intro S i;obtain⟨d,⟨L,o,F,n,G,D⟩,R⟩:=i;have hL:=S L (by unfold CW;rw[UZ,F];exact U0);obtain⟨q,e⟩:=I.base.slot L o G (I.ok.frf L hL) hL λz=>I.ok.exfs L z hL;exact⟨d,⟨L,_,F,n,e,D⟩,j (λb B=>S b (by unfold CW;rw[UZ,F];exact U1 _ B)) R⟩
 exact all X.outer (λ_ B=>B) I.ok.funs
theorem aS.stack(I:0e6):s.heap.FunFrames X.base X.stack:=by
 rcases I.ok.stk with e|⟨e,F⟩
 ·rw[e];exact I.funs
 ·rw[e];refine bz I.loc λm n _=>?_;exact .cons (by rw[I.ok.kind];decide) F n (Heap.get?_none_of_le (UX I.ok.bsz I.ok.above)) I.funs
theorem aS.stkSub(I:0e6):∀b∈CW X.stack,b∈X.env.locals::X.fs:=λb B=>by
 rcases I.ok.stk with e|⟨e,F⟩
 all_goals simp_all[CW]
theorem aS.stkFree(I:0e6):∀b∈CW X.stack,H b=none:=λb B=>by
 rcases U2.mp (I.stkSub b B) with e|B
 ·rw[e];exact I.free
 ·refine oT (I.ok.funs.mem B) λ_ o G _=>?_;exact I.base.free b o G (I.ok.frf b B) λz=>I.ok.exfs b z B
theorem aS.step{d':Drawn}(I:0e6)(y:5e2)(keep:∀b o,b≠X.env.locals->b∉X.fs->b∉ch->s.heap.get? b=some o->H b=none->h'.get? b=some o)(slot:∀b o,b≠X.env.locals->b∈X.fs->b∉ch->s.heap.get? b=some o->H b=none->∃sl,h'.get? b=some {o with slots:=sl})(free:∀b o,b∉ch->s.heap.get? b=some o->H b=none->H' b=none)(there:∀b o,b∉ch->s.heap.get? b=some o->∃o',h'.get? b=some o')(tups:∀b xs,H b=some (.tup xs)->H' b=some (.tup xs))(frzs:∀b o u,H b=some (.frz o u)->H' b=some (.frz o u))(tbls:∀b ps,H b=some (.tbl ps)->∃more,H' b=some (.tbl (ps++more)))(ns:∀m,s.heap.Ns X.env.locals m->h'.Ns X.env.locals m)(L:oS X.prog X.w H' h')(U:AllBare g'):
  aS X pins σ H' {s with heap:=h',gens:=g',drawn:=d',toks:=t'}:=by
 have neL:∀b o,X.s₀.heap.get? b=some o->b≠X.env.locals:=λb o e=>UV (UT (US e) I.ok.above)
 have neC:∀b o,X.s₀.heap.get? b=some o->b∉X.ex->b∉ch:=λb o e j G=>by
  rcases (y b G).1 with z|z
  ·exact j z
  ·exact absurd (UT (US e) z) (UU _)
 have cellK:∀x c,X.env.cells.lookup x=some c->∀v,s.heap.IsCell c v->h'.IsCell c v:=λx c e v ⟨o,O,D⟩=>by
  have nch:c∉ch:=λz=>(y c z).2.2.1 x c e rfl;by_cases M:c∈X.fs
  ·obtain⟨sl,q⟩:=slot c o (I.cne x c e) M nch O (I.freeC x c e);exact⟨_,q,D⟩
  ·exact⟨o,keep c o (I.cne x c e) M nch O (I.freeC x c e),D⟩
 refine⟨I.ok,I.os,U,⟨λb o e n G j=>?_,λb o e n G j=>?_,λb o e n j=>?_,λb o e j=>?_,λb xs e=>tups b xs (I.base.tups b xs e),λb o xs e=>frzs b o xs (I.base.frzs b o xs e),λb ps e=>?_⟩,?_,λx c e=>?_,?_,λx c e=>?_,λp V=>?_,L,I.len⟩
 ·exact keep b o (neL b o e) G (neC b o e j) (I.base.keep b o e n G j) (I.base.free b o e n j)
 ·obtain⟨sl,B⟩:=I.base.slot b o e n G j;obtain⟨S,J⟩:=slot b _ (neL b o e) G (neC b o e j) B (I.base.free b o e n j);exact⟨S,J⟩
 ·obtain⟨o',B⟩:=I.base.there b o e j;exact free b o' (neC b o e j) B (I.base.free b o e n j)
 ·obtain ⟨o', B⟩ := I.base.there b o e j
  simp_all
 ·obtain ⟨R, B⟩ := I.base.tbls b ps e
  grind
 ·refine bz I.loc λm Z μ => ?_;refine⟨m,ns m Z,λi x v B J N=>?_⟩;refine bz (μ i x v B J N) λu r l=>?_;refine⟨u,r,?_⟩;rcases l with l|⟨k,c,e,z⟩
  ·exact .inl l
  ·exact .inr ⟨k,c,e,cellK x c e _ z⟩
 ·obtain ⟨v, z⟩ := I.cell x c e
  grind
 ·obtain⟨m,⟨o,_,_,O,_⟩,_⟩:=I.loc;exact free _ o (λz=>(y _ z).2.1 rfl) O I.free
 ·refine bH (I.cell x c e) λv o O D=>?_;exact free c o (λz=>(y c z).2.2.1 x c e rfl) O (I.freeC x c e)
 ·refine jM (I.pin p V) λe n ne F d => ?_
  grind
theorem aS.un(I:0e6)(u:Un X.fs [] H H' 2e7 h')(L:oS X.prog X.w H' h'):aS X pins σ H' {s with heap:=h',toks:=t'}:=by
 obtain⟨m,⟨o,es,q,G,r⟩,_⟩:=id I.loc;obtain⟨S,hL⟩:=u.any G I.free 1e1
 exact I.step (ch:=[]) (λ_ z=>nomatch z) (λb o _ B _ e n=>u.keep b o e n B 1e1) (λb o _ B _ e n=>u.slot b o e n B 1e1) (λb o _ e n=>u.free b o e n 1e1) (λb o _ e=>u.there b o e 1e1) u.tups u.frzs u.tbls (λy M=>by
  refine pz M λo' j d i R=>?_;rw[G]at i;cases i
  exact⟨_,j,d,hL,R⟩) L I.bare
theorem aS.call{d':Drawn}(I:0e6)(u:Un (CW X.stack) ch H H' 2e7 h')(L:oS X.prog X.w H' h')(U:AllBare g')(y:5e2):
  aS X pins σ H' {s with heap:=h',gens:=g',drawn:=d',toks:=t'}:=by
 obtain⟨m,⟨o,es,J,G,r⟩,_⟩:=id I.loc;obtain⟨S,hL⟩:=u.any G I.free λz=>(y _ z).2.1 rfl
 exact I.step y (λb o hL B j e n=>u.keep b o e n (λz=>(U2.mp (I.stkSub b z)).elim hL B) j) (λb o _ _ j e n=>u.any e n j) (λb o j e n=>u.free b o e n j) (λb o j e=>u.there b o e j) u.tups u.frzs u.tbls (λN M=>by
  refine pz M λo' q d i R=>?_;rw[G]at i;cases i
  exact⟨_,q,d,hL,R⟩) L U
theorem aS.turned(I:0e6)(k:∀b o,b≠it->s.heap.get? b=some o->h'.get? b=some o)(N:H it=none)(hL:it≠X.env.locals)(h1:it∈X.ex\/X.s₀.heap.objs.size<=it)(h2:∀x c,X.env.cells.lookup x=some c->c≠it)(i:∀p∈X.pn++pins,p.1≠it):aS X pins σ H {s with heap:=h',toks:=t'}:=by
 refine I.step (ch:=[it]) (λb B=>?_) (λb o _ _ j e _=>k b o (λz=>j (by simp[z])) e) (λb o _ _ j e _=>⟨o.slots,k b o (λz=>j (by simp[z])) e⟩) (λ_ _ _ _ n=>n)
  (λb o j e=>⟨o,k b o (λz=>j (by simp[z])) e⟩) (λ_ _ e=>e) (λ_ _ _ e=>e) (λb ps e=>⟨#[],by rw[e];simp⟩) (λm M=>?_) (λb u e=>?_) I.bare
 ·have e : b = it := by simpa using B
  subst e;exact⟨h1,hL,h2,i⟩
 ·refine pz M λo es d G r=>?_;exact⟨o,es,d,k _ o (U3 hL) G,r⟩
 ·refine (I.hok b u e).stay (λc v j q => k c v ?_ q) (λ_ q => q) λ_ _ q => q
  lia
theorem aS.tok(I:0e6)(t:Nat):aS X pins σ H {s with toks:=t}:=I.un Un.refl I.hok
theorem aS.kept(I:0e6)(k:∀b u,s.heap.get? b=some u->h'.get? b=some u):aS X pins σ H {s with heap:=h',toks:=t'}:=I.un (Un.kept k) (I.hok.kept k)
theorem aS.laid{o:HO}(I:0e6)(k:∀b u,s.heap.get? b=some u->h'.get? b=some u)(d:s.heap.objs.size<=a)(new:iH X.prog X.w (cq H a o) h' a o):
  aS X pins σ (cq H a o) {s with heap:=h',toks:=t'}:=I.un (Un.laid k d (I.hok.fresh d)) (I.hok.laid k d new)
theorem aS.write{x e:Addr}{o:HO}(I:0e6)(M:Sf (H x))(n:e=x\/H e=some (.own x))(k:∀b u,b≠e->s.heap.get? b=some u->h'.get? b=some u)(O:∃u,h'.get? e=some u)(new:iH X.prog X.w (cq H x o) h' x o):aS X pins σ (cq H x o) {s with heap:=h',toks:=t'}:=I.un (Un.write M n k O) (I.hok.write M n k O new)
theorem aS.pins_of{pins':1e9}(I:0e6)(h:∀p∈pins',s.heap.get? p.1=some p.2/\H p.1=none/\p.1≠X.env.locals/\p.1∉X.fs/\∀v,p.2.data≠.cell v):aS X pins' σ H s:=
 ⟨I.ok,I.os,I.bare,I.base,I.loc,I.cell,I.free,I.freeC,λp d=>(U4.mp d).elim (λz=>I.pin p (U5 _ z)) (h p),I.hok,I.len⟩
theorem xb(hN:N.Nodup)(a:N[i]?=some x)(b:N[j]?=some x):i=j:=by
 grind [List.getElem_inj]
theorem sx{M:Model}{Q:Unit->Shared->Prop}(I:0e6)(hN:(X.N.Nodup))(hi:4e0)(G:(CZ X.env.scope x))(r:cm v u)(h:∀s',aS X pins (σ.set i (some v)) H s'->(∃a,Heap.SameBut a 2e7 s'.heap/\(a=X.env.locals\/X.env.cells.lookup x=some a))->Q () s')(hf:(autoParam 4e4 ATu)):wpAny M A (storeName 1e7 x u) Q E s:=by
 refine bz (id I.loc) λm hn hl=>?_;have hiσ:i<σ.length:=by rw[I.len];grind
 have cne:=I.cne
 have tracked:∀{a:Addr}{h':Heap},(∃o,s.heap.get? a=some o/\H a=none)->Heap.SameBut a 2e7 h'->oS X.prog X.w H h':=λ{a h'} ha S b ob e=>by
  refine(I.hok b ob e).stay (λc w' J q=>(S.2 c ?_).trans q) (λ_ q=>q) λ_ _ q=>q
  lia
 rcases G with D|D
 ·refine wpAny_storeName_local D hn (λh' hn' S => ?_) (by rw [I.ok.kind]; rfl);refine pz (id hn) λoL _ _ hoL _=>?_;refine h _ ⟨I.ok,I.os,I.bare,⟨λb o e n U G=>?_,λb o e n U G=>?_,I.base.free,λb o e G=>?_,I.base.tups,I.base.frzs,I.base.tbls⟩,⟨_,hn',λj y v' B L W=>?_⟩,λy c e=>?_,I.free,I.freeC,λp hp=>?_,tracked ⟨oL,hoL,I.free⟩ S,by simpa using I.len⟩ ⟨_,S,.inl rfl⟩
  ·exact(S.2 b (UV (UT (US e) I.ok.above))).trans (I.base.keep b o e n U G)
  ·obtain⟨sl,B⟩:=I.base.slot b o e n U G;exact⟨sl,(S.2 b (UV (UT (US e) I.ok.above))).trans B⟩
  ·obtain⟨o',B⟩:=I.base.there b o e G;exact⟨o',(S.2 b (UV (UT (US e) I.ok.above))).trans B⟩
  ·by_cases Z : j = i
   ·subst Z;rw[hi]at B;cases B;rw[U7 hiσ]at L;cases L;exact⟨u,r,.inl ⟨D,by simp⟩⟩
   ·rw [U8 (U3 Z)] at L;refine bz (hl j y v' B L W) λu' r' q=>?_;refine⟨u',r',?_⟩;rcases q with⟨k,e⟩|⟨k,c,e,z⟩
    ·refine .inl ⟨k,?_⟩;have:y≠x:=λe=>Z (xb hN B (e ▸ hi));simp[this,e]
    ·exact .inr ⟨k,c,e,z.sameBut S (cne y c e)⟩
  ·obtain⟨w',z⟩:=I.cell y c e;exact⟨w',z.sameBut S (cne y c e)⟩
  ·refine jM (I.pin p hp) λe n ne nf d=>?_;exact⟨(S.2 p.1 ne).trans e,n,ne,nf,d⟩
 ·have μ:X.fn x=true:=by
   lia
  obtain⟨c,J⟩:=I.ok.has x (.inl D);obtain⟨w',z⟩:=I.cell x c J;refine wpAny_storeName_cell I.ok.kind D J z (λh' O S=>?_);refine bz (id z) λoc hoc hocd=>?_;refine h {s with heap:=h'} ⟨I.ok,I.os,I.bare,⟨λb o e n U G=>?_,λb o e n U G=>?_,I.base.free,λb o e G=>?_,I.base.tups,I.base.frzs,I.base.tbls⟩,⟨m,hn.sameBut S (U3 (cne x c J)),λj y v' B L W=>?_⟩,λy F e=>?_,I.free,I.freeC,λp hp=>?_,tracked ⟨oc,hoc,I.freeC x c J⟩ S,by simpa using I.len⟩ ⟨c,S,.inr J⟩
  ·exact(S.2 b (UV (UT (US e) (I.ok.cab x c μ J)))).trans (I.base.keep b o e n U G)
  ·obtain⟨sl,B⟩:=I.base.slot b o e n U G;exact⟨sl,(S.2 b (UV (UT (US e) (I.ok.cab x c μ J)))).trans B⟩
  ·obtain⟨o',B⟩:=I.base.there b o e G;exact⟨o',(S.2 b (UV (UT (US e) (I.ok.cab x c μ J)))).trans B⟩
  ·by_cases Z : j = i
   ·subst Z;rw[hi]at B;cases B;rw[U7 hiσ]at L;cases L;exact⟨u,r,.inr ⟨.inl D,c,J,O⟩⟩
   ·rw [U8 (U3 Z)] at L;refine bz (hl j y v' B L W) λu' r' q=>?_;refine⟨u',r',?_⟩;rcases q with q|⟨k,F,e,z'⟩
    ·exact .inl q
    ·refine .inr ⟨k, F, e, z'.sameBut S ?_⟩
     rintro rfl
     exact Z (xb hN B (I.ok.inj _ _ _ e J ▸ hi))
  ·by_cases R : F = c
   ·subst R;exact⟨_,O⟩
   ·obtain⟨w2,z2⟩:=I.cell y F e;exact⟨w2,z2.sameBut S R⟩
  ·refine jM (I.pin p hp) λe n ne nf d => ?_;refine⟨(S.2 p.1 ?_).trans e,n,ne,nf,d⟩
   grind
theorem kc{M:Model}{Q:Unit->Shared->Prop}(I:0e6)(hN:(X.N.Nodup))(hi:4e0)(d:(CZ X.env.scope x))(r:cm v u)(h:∀s',aS X pins (σ.set i (some v)) H s'->Q () s')(F:(autoParam 4e4 ATu)):wpAny M A (storeName 1e7 x u) Q E s:=by
 grind [sx]
theorem aS.call'{s':Shared}(I:0e6)(G:s'.os=s.os)(u:Un (CW X.stack) ch H H' 2e7 s'.heap)(L:oS X.prog X.w H' s'.heap)(U:AllBare s'.gens)(y:5e2):aS X pins σ H' s':=by
 obtain⟨h',i,d,j,o'⟩:=s';subst G;exact I.call u L U y
end
abbrev XK:=Value->Option Addr->Hp->Prop
abbrev St:=List (Option V)
abbrev VK:=V->Hp->Prop
abbrev TE:=St->Hp->VK->Prop
abbrev TT:=St->Hp->(Bool->Hp->Prop)->Prop
abbrev TA:=St->Hp->(List V->Hp->Prop)->Prop
structure pw where
 nx:St->Hp->Prop
 rt:VK
 bk:St->Hp->Prop:=λ_ _=>False
 ct:St->Hp->Prop:=λ_ _=>False
noncomputable abbrev TS:=pw->St->Hp->Prop
def EP(X:Cx)(pins:1e9)(σ:St)(Q:VK)(u:Value)(s':Shared):Prop:=∃v H',aS X pins σ H' s'/\cm v u/\Q v H'
def TP(X:Cx)(pins:1e9)(σ:St)(Q:Bool->Hp->Prop)(b:Bool)(s':Shared):Prop:=∃H',aS X pins σ H' s'/\Q b H'
def AP(X:Cx)(pins:1e9)(σ:St)(Q:List V->Hp->Prop)(us:1e5)(s':Shared):Prop:=∃y H',aS X pins σ H' s'/\bb y us/\Q y H'
def SP(X:Cx)(pins:1e9)(D:pw)(f:Flow)(s':Shared):Prop:=
 match f with
 |.next=>∃d H',aS X pins d H' s'/\D.nx d H'
 |.brk=>∃d H',aS X pins d H' s'/\D.bk d H'
 |.cont=>∃d H',aS X pins d H' s'/\D.ct d H'
 |.ret u=>∃v d H',aS X pins d H' s'/\cm v u/\D.rt v H'
def PE(X:Cx)(e:Expr)(t:TE):Prop:=
 ∀(pins:1e9)(s:Shared)(σ:St)(H:Hp)(Q:VK),aS X pins σ H s->t σ H Q->wpAny 0e7 X.A (eval e 1e7) (EP X pins σ Q) X.xe s
def PT(X:Cx)(e:Expr)(t:TT):Prop:=
 ∀(pins:1e9)(s:Shared)(σ:St)(H:Hp)(Q:Bool->Hp->Prop),aS X pins σ H s->t σ H Q->wpAny 0e7 X.A (isTrue e 1e7 (eval e 1e7)) (TP X pins σ Q) X.xe s
def PW(X:Cx)(e:Expr)(t:TT):Prop:=
 ∀(whole:Sem Value)(pins:1e9)(s:Shared)(σ:St)(H:Hp)(Q:Bool->Hp->Prop),aS X pins σ H s->t σ H Q->wpAny 0e7 X.A (isTrue e 1e7 whole) (TP X pins σ Q) X.xe s
theorem PW.pt{X:Cx}{t:TT}(h:PW X e t):PT X e t:=h _
def PA(X:Cx)(es:(List Expr))(t:TA):Prop:=
 ∀(pos:Pos)(pins:1e9)(s:Shared)(σ:St)(H:Hp)(Q:List V->Hp->Prop),aS X pins σ H s->t σ H Q->wpAny 0e7 X.A (spliced (backTo pos (starEach es 1e7))) (AP X pins σ Q) X.xe s
def PS(X:Cx)(st:Stmt)(t:TS):Prop:=
 ∀(pins:1e9)(s:Shared)(σ:St)(H:Hp)(D:pw),aS X pins σ H s->t D σ H->wpAny 0e7 X.A (exec st 1e7) (SP X pins D) X.xe s
def nQ(X:Cx)(st:List Stmt)(t:TS):Prop:=
 ∀(pins:1e9)(s:Shared)(σ:St)(H:Hp)(D:pw),aS X pins σ H s->t D σ H->wpAny 0e7 X.A (execs st 1e7) (SP X pins D) X.xe s
theorem dt{α:Type}{t:Sem α}{Q Q':α->Shared->Prop}{M:Model}(h:wpAny M A t Q E s)(hQ:∀a s,Q a s->Q' a s):wpAny M A t Q' E s:=U9 h hQ λ_ _ x=>x
end L2
variable{σ:L2.St}{te:L2.TE}{ta:L2.TA}
namespace L2
open PySem PySem.Spec PyProof.Rows
section
variable{X:Cx}
def O5(i:Nat):TE:=λσ H Q=>∃v,σ[i]?=some (some v)/\Q v H
def tC(v:V):TE:=λ_ H Q=>Q v H
theorem MK(hN:4e0)(V:Sy X.env.scope x)(j:2e5)(D:autoParam ((x == ("__classdict__" : Str))=false) ATs):PE X (.Name x pos) (O5 i):=by
 intro pins s σ H Q I h;refine bz h λv e h=>?_;refine bz I.loc λm y L=>?_;refine bz (L i x v hN e V) λu r l=>?_;have n:EP X pins σ Q u s:=⟨v,H,I,r,h⟩;rcases l with⟨d,M⟩|⟨d,c,q,hcell⟩
 ·exact wpAny_Name (wpAny_loadName_local I.ok.kind d y M n) j
 ·rcases d with d | d
  ·exact wpAny_Name (wpAny_loadName_cell I.ok.kind d q hcell n) j
  ·exact wpAny_Name (wpAny_loadName_free I.ok.kind d q hcell n D) j
theorem MR{i j pos}:PE X (.Constant (.int i) j pos) (tC (.int i)):=λ_ _ _ H _ I h=>wpAny_Constant_int ⟨.int i,H,I.tok _,⟨_,rfl⟩,h⟩
theorem QS{b j pos}:PE X (.Constant (.bool b) j pos) (tC (.bl b)):=λ_ _ _ H _ I h=>Constant_bool ⟨.bl b,H,I,rfl,h⟩
theorem D4{j pos}:PE X (.Constant .none j pos) (tC .non):=λ_ _ _ H _ I h=>Constant_none ⟨.non,H,I,rfl,h⟩
theorem MM{x j pos}:PE X (.Constant (.str x) j pos) (tC (.str x)):=λ_ _ _ H _ I h=>Calls.Constant_str ⟨.str x,H,I.tok _,⟨_,rfl⟩,h⟩
def Gl(X:Cx)(x:Str):Prop:=X.env.kindOf x=some .globalImplicit
theorem AA(I:0e6)(U:Gl X x)(d:X.mg x=some u)(h:Q u s)(D:2e5):wpAny 0e7 X.A (eval (.Name x pos) 1e7) Q E s:=
 Calls.Name_function_global I.ok.kind U (Calls.loadGlobal_global (by rw[I.ok.glob];exact I.mod.glob.keeps I.bk) d h) D
theorem j7(I:0e6)(U:Gl X x)(d:X.mg x=none)(V:bootBuiltins x=some u)(h:Q u s)(n:(autoParam (x ≠ "__name__") ATs))(D:2e5):wpAny 0e7 X.A (eval (.Name x pos) 1e7) Q E s:=by
 refine bz I.mod.blt λM h1 h2=>?_;exact Calls.Name_function_global I.ok.kind U (Calls.loadGlobal_builtin (by rw[I.ok.glob];exact I.mod.glob.keeps I.bk) d (by rw[I.ok.blt];exact h1.keeps I.bk) ((h2 x n).trans V) h) D
theorem Ip(U:Gl X x)(d:X.mg x=some u)(r:cm v u)(D:2e5):PE X (.Name x pos) (tC v):=
 λ_ _ _ H _ I h=>AA I U d ⟨v,H,I,r,h⟩ D
theorem Iw(U:Gl X x)(d:X.mg x=none)(i:bootBuiltins x=some u)(r:cm v u)(n:(autoParam (x ≠ "__name__") ATs))(D:2e5):PE X (.Name x pos) (tC v):=
 λ_ _ _ H _ I h=>j7 I U d i ⟨v,H,I,r,h⟩ n D
variable{a b:Expr}{ta tb:TE}
variable{tA tB':TT}
noncomputable def Tf(t u:TT):TT:=λσ H Q=>t σ H λc H1=>if c=true then u σ H1 Q else Q false H1
noncomputable def Uy(t u:TT):TT:=λσ H Q=>t σ H λc H1=>if c=true then Q true H1 else u σ H1 Q
noncomputable def S8(t:TT):TT:=λσ H Q=>t σ H λc H1=>Q (!c) H1
theorem HZ(n:PT X a tA):PW X (.BoolOp .And [a] pos) tA:=by
 intro W pins s σ H Q I h;refine isTrue_and (dt (n pins s σ H Q I h) λc S e=>?_)
 grind [isTrue_and_nil]
theorem Mp(n:PT X a tA):PW X (.BoolOp .Or [a] pos) tA:=by
 intro W pins s σ H Q I h;refine isTrue_or (dt (n pins s σ H Q I h) λc S e=>?_)
 grind [isTrue_or_nil]
theorem Mq(n:PT X a tA)(B:PW X (.BoolOp .And (b::rest) pos) tB'):PW X (.BoolOp .And (a::b::rest) pos) (Tf tA tB'):=by
 intro W pins s σ H Q I h;refine isTrue_and (dt (n pins s σ H _ I h) λc S ⟨H1,d,q⟩=>?_);cases c with
 |true=>exact B W pins S σ H1 Q d q
 |false=>exact⟨H1,d,q⟩
theorem QL(n:PT X a tA)(B:PW X (.BoolOp .Or (b::rest) pos) tB'):PW X (.BoolOp .Or (a::b::rest) pos) (Uy tA tB'):=by
 intro W pins s σ H Q I h;refine isTrue_or (dt (n pins s σ H _ I h) λc S ⟨H1,d,q⟩=>?_);cases c with
 |true=>exact⟨H1,d,q⟩
 |false=>exact B W pins S σ H1 Q d q
theorem Ms(n:PT X a tA):PT X (.UnaryOp .Not a pos) (S8 tA):=by
 intro pins s σ H Q I h;exact isTrue_not (n pins s σ H (λc H1=>Q (!c) H1) I h)
def Qs(ta tb:TE):TE:=λσ H Q=>ta σ H λx H1=>∃c,x=.bl c/\if c=true then tb σ H1 Q else Q (.bl false) H1
def Qm(ta:TE):TE:=λσ H Q=>ta σ H λx H1=>∃c,x=.bl c/\Q (.bl (!c)) H1
theorem MN{op}{t:TE}(h:PE X a t):PE X (.BoolOp op [a] pos) t:=λpins s σ H Q I W=>BoolOp_one (h pins s σ H Q I W)
theorem MV(n:PE X a ta)(B:PE X (.BoolOp .And (b::rest) pos) tb):PE X (.BoolOp .And (a::b::rest) pos) (Qs ta tb):=by
 intro pins s σ H Q I h;refine BoolOp_and (dt (n pins s σ H _ I h) λv S ⟨x,H1,d,R,q⟩=>?_);obtain⟨c,rfl,q⟩:=q;cases R;refine Va ?_;cases c with
 |true=>exact B pins S σ H1 Q d q
 |false=>exact⟨.bl false,H1,d,rfl,q⟩
theorem MP(n:PE X a ta):PE X (.UnaryOp .Not a pos) (Qm ta):=by
 intro pins s σ H Q I h;refine UnaryOp_ (dt (n pins s σ H _ I h) λv S ⟨x,H1,d,R,q⟩=>?_);obtain⟨c,rfl,q⟩:=q;cases R;exact not_of (Va ⟨.bl (!c),H1,d,rfl,q⟩)
def Uz(t:TT)(ta tb:TE):TE:=λσ H Q=>t σ H λc H1=>if c=true then ta σ H1 Q else tb σ H1 Q
theorem Fo{c:Expr}(j:PT X c tA)(n:PE X a ta)(B:PE X b tb):PE X (.IfExp c a b pos) (Uz tA ta tb):=by
 intro pins s σ H Q I h;refine wpAny_IfExp (dt (j pins s σ H _ I h) λd S ⟨H1,i,q⟩=>?_);cases d with
 |true=>exact n pins S σ H1 Q i q
 |false=>exact B pins S σ H1 Q i q
end
def dN(K:W.Frag)(H:Hp)(a:Addr)(xs:List V):Prop:=
 Rd H a (.lst xs) \/
  ∃(o:Obj) (i:5e5) (n:Nat),K.lookup a=some o/\o.cls=.type "list" /\ o.dict=none/\o.data=.seq i n/\i.size<=sizeLine/\bb xs i.toList
def ei(K:W.Frag)(H:Hp)(a:Addr)(xs:List V):Prop:=
 Rd H a (.tup xs) \/
  ∃(o:Obj) (i:5e5) (n:Nat),K.lookup a=some o/\o.cls=.type "tuple" /\ o.dict=none/\o.data=.seq i n/\i.size<=sizeLine/\bb xs i.toList
noncomputable def TY:Value->Option V
 |.none=>some .non
 |.bool b=>some (.bl b)
 |.int i _=>some (.int i)
 |.str x _=>some (.str x)
 |.bytes b _=>some (.byt b)
 |.float b _=>some (.flt b)
 |.ref a=>some (.ref a)
 |.type n=>some (.ty n)
 |_=>none
theorem cm.abs{x:V}(r:cm x u):TY u=some x:=by
 cases x with
 |non=>cases r;rfl
 |bl _=>cases r;rfl
 |int _=>obtain⟨t,rfl⟩:=r;rfl
 |str _=>obtain⟨t,rfl⟩:=r;rfl
 |byt _=>obtain⟨t,rfl⟩:=r;rfl
 |flt _=>obtain⟨t,rfl⟩:=r;rfl
 |ref _=>cases r;rfl
 |ty _=>cases r;rfl
theorem cm.inj{x y:V}(r:cm x u)(q:cm y u):x=y:=UO (r.abs.symm.trans q.abs)
theorem bb.inj:∀{xs ys:List V}{us:1e5},bb xs us->bb ys us->xs=ys
 |_,_,_,.nil,.nil=>rfl
 |_,_,_,.cons r t,.cons R j=>by rw[r.inj R,bb.inj t j]
section
variable{X:Cx}{xs ys:List V}
theorem dN.of(h:H a=some (.lst xs)):dN K H a xs:=.inl (.inl h)
theorem ei.of(h:H a=some (.tup xs)):ei K H a xs:=.inl (.inl h)
theorem aS.list(I:0e6)(h:dN X.K H a xs):∃its:List Value,bb xs its/\PlainL 2e7 a its.toArray/\xs.length<=sizeLine:=by
 rcases h with h|⟨o,its,n,d,j,D,S,Z,r⟩
 ·obtain⟨z,its,n,r,e⟩:=h.ok I.hok;exact⟨its,r,⟨_,n,e,rfl,rfl,rfl⟩,z⟩
 ·refine ⟨its.toList, r, ⟨o, n, I.kIn a o d, j, D, by simpa using S⟩, ?_⟩;have e:=r.length
  simp_all
theorem aS.tuple(I:0e6)(h:ei X.K H a xs):∃its:List Value,bb xs its/\IsTup 2e7 a its.toArray/\xs.length<=sizeLine:=by
 rcases h with h|⟨o,its,n,d,j,_,S,Z,r⟩
 ·refine oT (h.ok I.hok) λz its r p=>?_;exact⟨its,r,p.t,z⟩
 ·refine ⟨its.toList, r, ⟨o, I.kIn a o d, j, n, by simpa using S⟩, ?_⟩;have e:=r.length
  simp_all
theorem aS.list_inj(I:0e6)(h:dN X.K H a xs)(h':dN X.K H a ys):xs=ys:=by
 obtain⟨i,r,⟨o,n,e,_,_,d⟩,_⟩:=I.list h;obtain⟨its',R,⟨o',N,j,_,_,D⟩,_⟩:=I.list h';have:i=its':=by lia
 subst this;exact r.inj R
theorem aS.tuple_inj(I:0e6)(h:ei X.K H a xs)(h':ei X.K H a ys):xs=ys:=by
 obtain⟨i,r,⟨o,e,_,n,d⟩,_⟩:=I.tuple h;obtain⟨its',R,⟨o',j,_,N,D⟩,_⟩:=I.tuple h';have:i=its':=by lia
 subst this;exact r.inj R
end
noncomputable abbrev Cx.wish(X:Cx)(E:3e3):Cx:={X with xe:=E}
abbrev Cx.nox(X:Cx):Cx:=X.wish λ_ _=>False
theorem Cx.Ok.wish{X:Cx}(ok:X.Ok)(E:3e3):(X.wish E).Ok:=
 ⟨ok.mod,ok.kind,ok.glob,ok.blt,ok.above,ok.inj,ok.has,ok.cab,ok.hd,ok.frames,ok.stk,ok.exf,ok.bs,ok.bsz,ok.noex,ok.exfs,ok.funs,ok.frf⟩
theorem Cx.Ok.unwish{X:Cx}(ok:(X.wish E).Ok):X.Ok:=
 ⟨ok.mod,ok.kind,ok.glob,ok.blt,ok.above,ok.inj,ok.has,ok.cab,ok.hd,ok.frames,ok.stk,ok.exf,ok.bs,ok.bsz,ok.noex,ok.exfs,ok.funs,ok.frf⟩
section
variable{X:Cx}
theorem aS.wish(I:0e6)(E:3e3):aS (X.wish E) pins σ H s:=⟨I.ok.wish E,I.os,I.bare,I.base,I.loc,I.cell,I.free,I.freeC,I.pin,I.hok,I.len⟩
theorem aS.unwish(I:aS (X.wish E) pins σ H s):aS X pins σ H s:=⟨I.ok.unwish,I.os,I.bare,I.base,I.loc,I.cell,I.free,I.freeC,I.pin,I.hok,I.len⟩
theorem SP.unwish{D:pw}{f:Flow}{s':Shared}(h:SP (X.wish E) pins D f s'):SP X pins D f s':=by
 cases f with
 |next=>obtain⟨d,H',I,q⟩:=h;exact⟨d,H',I.unwish,q⟩
 |brk=>obtain⟨d,H',I,q⟩:=h;exact⟨d,H',I.unwish,q⟩
 |cont=>obtain⟨d,H',I,q⟩:=h;exact⟨d,H',I.unwish,q⟩
 |ret u=>refine cX h λv d H' I r q=>?_;exact⟨v,d,H',I.unwish,r,q⟩
theorem nQ.nox{st:List Stmt}{t:TS}(h:nQ X.nox st t):nQ X st t:=λpins s σ H D I W=>
 U9 (h pins s σ H D (I.wish _) W) (λ_ _ q=>q.unwish) λ_ _ z=>False.elim z
end
section
variable{X:Cx}{rest:List Stmt}{t u:TS}
def Qn:TS:=λD σ H=>D.nx σ H
def SZ(t u:TS):TS:=λD σ H=>t {D with nx:=u D} σ H
theorem Ic:nQ X [] Qn:=λ_ _ σ H _ I h=>Vb ⟨σ,H,I,h⟩
theorem Fc(h1:PS X st t)(h2:nQ X rest u):nQ X (st::rest) (SZ t u):=by
 intro pins s σ H D I h;refine wpAny_execs_cons (dt (h1 pins s σ H {D with nx:=u D} I h) λf S q=>?_);cases f with
 |next=>
  refine bH q λd H' i q=>?_;exact h2 pins S d H' D i q
 |ret v=>exact q
 |brk=>exact q
 |cont=>exact q
theorem Ib(h1:PS X st t):nQ X [st] t:=by
 intro pins s σ H D I h;refine wpAny_execs_cons (dt (h1 pins s σ H D I h) λf S q=>?_)
 grind [PySem.wpAny_execs_nil]
theorem aS.quiet(I:0e6):interactive 1e7=false:=by simp[interactive,I.ok.kind]
def Qo(te:TE):TS:=λD σ H=>te σ H λ_ H1=>D.nx σ H1
theorem Ig(n:PE X e te)(hs:autoParam (swapsWith e none pos.line 1e7=pure false) ATr):PS X (.Expr e pos) (Qo te):=by
 intro pins s σ H D I h;exact wpAny_Expr_any (dt (n pins s σ H _ I h) λv S ⟨x,H1,d,R,q⟩=>⟨σ,H1,d,q⟩) I.quiet hs
def S0(te:TE):TS:=λD σ H=>te σ H D.rt
theorem Mu(n:PE X e te):PS X (.Return (some e) pos) (S0 te):=by
 intro pins s σ H D I h;exact wpAny_Return_some (dt (n pins s σ H _ I h) λv S ⟨x,H1,d,R,q⟩=>⟨x,σ,H1,d,R,q⟩)
def Tb(c:TT)(t u:TS):TS:=λD σ H=>c σ H λb H1=>if b=true then t D σ H1 else u D σ H1
theorem QM{c:Expr}{a b:List Stmt}{tc:TT}(j:PT X c tc)(n:nQ X a t)(B:nQ X b u):PS X (.If c a b pos) (Tb tc t u):=by
 intro pins s σ H D I h;refine wpAny_If (dt (j pins s σ H _ I h) λd S ⟨H1,i,q⟩=>?_);cases d with
 |true=>exact n pins S σ H1 D i q
 |false=>exact B pins S σ H1 D i q
def LA:TS:=λ_ _ _=>False
theorem Fe:PS X st LA:=λ_ _ _ _ _ _ h=>h.elim
end
abbrev TG:=V->St->Hp->(St->Hp->Prop)->Prop
abbrev Gx:=List V->St->Hp->(St->Hp->Prop)->Prop
def PG(X:Cx)(target:Expr)(t:TG):Prop:=
 ∀(pins:1e9)(s:Shared)(σ:St)(H:Hp)(v:V)(u:Value)(Q:(St->Hp->Prop)),aS X pins σ H s->cm v u->t v σ H Q ->
  wpAny 0e7 X.A (assign target 1e7 u) (λ_ s'=>∃d H',aS X pins d H' s'/\Q d H') X.xe s
def CP(X:Cx)(S:(List Expr))(t:Gx):Prop:=
 ∀(pins:1e9)(s:Shared)(σ:St)(H:Hp)(y:List V)(U:1e5)(Q:(St->Hp->Prop)),aS X pins σ H s->bb y U->t y σ H Q ->
  wpAny 0e7 X.A (assignInOrder ((assignEach S 1e7).map (·.2)) U) (λ_ s'=>∃d H',aS X pins d H' s'/\Q d H') X.xe s
abbrev K8:=V->V->V->Hp->(Hp->Prop)->Prop
def Pt(X:Cx)(t:K8):Prop:=
 ∀(pins:1e9)(s:Shared)(σ:St)(H:Hp)(o i v:V)(O I u:Value)(Q:Hp->Prop),aS X pins σ H s->cm o O->cm i I->cm v u->t o i v H Q ->
  wpAny 0e7 X.A (setItem O I u) (λ_ s'=>∃H',aS X pins σ H' s'/\Q H') X.xe s
abbrev O1:=V->V->Hp->VK->Prop
def Sb(X:Cx)(O:Operator)(t:O1):Prop:=
 ∀(pins:1e9)(s:Shared)(σ:St)(H:Hp)(x y:V)(v u:Value)(Q:VK),aS X pins σ H s->cm x v->cm y u->t x y H Q ->
  wpAny 0e7 X.A (inplaceOp O v u) (EP X pins σ Q) X.xe s
section
variable{X:Cx}
noncomputable def wc(i:Nat):TG:=λv σ H Q=>Q (σ.set i (some v)) H
theorem Im(hN:(X.N.Nodup))(hi:4e0)(j:(CZ X.env.scope x))(F:(autoParam 4e4 ATu)):PG X (.Name x pos) (wc i):=by
 intro pins s σ H v u Q I r h;exact wpAny_assign_Name (kc I hN hi j r (λs' d=>⟨_,H,d,h⟩) F)
noncomputable def TM:Gx:=λy σ H Q=>y=[]/\Q σ H
noncomputable def Rk(t:TG)(u:Gx):Gx:=λy σ H Q=>∃v r,y=v::r/\t v σ H λd H'=>u r d H' Q
theorem Il:CP X [] TM:=by
 intro pins s σ H y U Q I r h;obtain⟨e,h⟩:=h;subst e;cases r;exact assignInOrder_nil ⟨σ,H,I,h⟩
theorem Fl{es:(List Expr)}{t:TG}{u:Gx}(h1:PG X e t)(h2:CP X es u)(hs:(autoParam ((assignEach (e::es) 1e7).map (·.2)=assign e 1e7::(assignEach es 1e7).map (·.2)) ATr)):CP X (e::es) (Rk t u):=by
 intro pins s σ H y U Q I r h;obtain⟨v,V,j,h⟩:=h;subst j;cases r with
 |cons r R=>
  rw[hs];refine Vc (dt (h1 pins s σ H _ _ _ I r h) λ_ S ⟨d,H1,i,q⟩=>?_);exact h2 pins S d H1 _ _ Q i R q
noncomputable def TJ(K:W.Frag)(n:Nat)(t:Gx):TG:=λv σ H Q=>∃a xs,v=.ref a/\ei K H a xs/\xs.length=n/\t xs σ H Q
theorem MH{es:(List Expr)}{k:Nat}{t:Gx}(y:1e8)(h:CP X es t)(N:autoParam ((assignEach es 1e7).length=n) ATr)(d:autoParam ((assignEach es 1e7).findIdx? 3e2=none) ATr):PG X (.Tuple es k pos) (TJ X.K n t):=by
 intro pins s σ H v u Q I r W;obtain⟨a,xs,q,z,L,W⟩:=W;subst q;cases r;refine bI (I.tuple z) λS R J Z=>?_;refine assign_Tuple_tuple (I.ok.hd y) J (by simp[N,<- L,R.length]) d λh' B=>?_;have j:aS X pins σ H {s with heap:=h'}:=I.kept (t':=s.toks) λb o e=>B b o (UV (US e)) e;exact h pins _ σ H xs _ Q j (by simpa using R) W
noncomputable def TL(to I:TE)(t:K8):TG:=λv σ H Q=>to σ H λo H1=>I σ H1 λi H2=>t o i v H2 λd=>Q σ d
theorem MJ{o i:Expr}{to ti:TE}{t:K8}(G:PE X o to)(hi:PE X i ti)(hs:Pt X t)
  (z :autoParam (∀ v, assign (.Subscript o i pos) 1e7 v = (do
   let ov <- holding [v] (eval o 1e7)
   let iv <- holding [v,ov] (eval i 1e7)
   standAt pos
   holding [v,ov,iv] (setItem ov iv v)
   release [v,ov,iv] [])) ATt):PG X (.Subscript o i pos) (TL to ti t):=by
 intro pins s σ H v u Q I r h;rw[z];refine Vd (Ve (dt (G pins s σ H _ I h) λov S ⟨x,H1,j,R,B⟩=>?_));refine Vd (Ve (dt (hi pins S σ H1 _ j B) λiv N ⟨y,H2,n,M,J⟩=>?_));refine Vd (Vf (Vd (Ve (dt (hs pins N σ H2 x y v ov iv u _ n R M r J) λ_ U ⟨d,q,L⟩=>?_))));exact wpAny_release ⟨σ,d,q,L⟩
def C3(te:TE)(g:TG):TS:=λD σ H=>te σ H λx H1=>g x σ H1 D.nx
theorem My{g:TG}(n:PE X e te)(U:PG X tg g)(hs:autoParam (swapsWithSole [tg] e pos.line 1e7=pure false) ATr)(W:autoParam (swappedStores [tg] e 1e7=pure none) ATr)(h1:autoParam ((assignEach [tg] 1e7).map (·.2)=[assign tg 1e7]) ATr):PS X (.Assign [tg] e pos) (C3 te g):=by
 intro pins s σ H D I h;refine wpAny_Assign_stores (dt (n pins s σ H _ I h) λv S ⟨x,H1,d,R,i⟩=>?_) hs W;rw[h1];exact dt (U pins S σ H1 x v _ d R i) λ_ N q=>q
theorem Mt(hN:(X.N.Nodup))(hi:4e0)(q:(CZ X.env.scope x))(j:PE X e te)(hs:autoParam (swapsWith e (some (.Name x pos')) pos.line 1e7=pure false) ATr)(F:(autoParam 4e4 ATu)):
  PS X (.Assign [.Name x pos'] e pos) (C3 te (wc i)):=by
 intro pins s σ H D I h;refine wpAny_Assign_Name (dt (j pins s σ H _ I h) λv S ⟨y,H1,d,R,z⟩=>?_) hs;exact kc d hN hi q R (λB n=>⟨_,H1,n,z⟩) F
def S7(i j:Nat)(ta:TA):TS:=λD σ H=>ta σ H λy H1=>∃v w,y=[v,w]/\D.nx ((σ.set i (some v)).set j (some w)) H1
theorem Mv{y:Str}{a b:Expr}{py pt:Pos}{kt k2 pt2}(W:1e8)(hN:(X.N.Nodup))(hi:4e0)(hj:X.N[j]?=some y)(J:i≠j)(L:4e5)(μ:X.env.scope.names.lookup y=some .local)(F:PA X [a,b] ta)(hw:(swappedStores [.Tuple [.Name x px,.Name y py] kt pt] (.Tuple [a,b] k2 pt2) 1e7=pure (some [x,y])))(hs:(autoParam (swapsWithSole [.Tuple [.Name x px,.Name y py] kt pt] (.Tuple [a,b] k2 pt2) pos.line 1e7=pure false) ATr)):
  PS X (.Assign [.Tuple [.Name x px,.Name y py] kt pt] (.Tuple [a,b] k2 pt2) pos) (S7 i j ta):=by
 intro pins s σ H D I h;refine Vd (Vf ?_);refine Vd (Vg ?_);refine Vd (Tuple_ (dt (F _ pins s σ H _ I h) λus S ⟨vs,H1,M,r1,z⟩=>?_));obtain⟨v,w,V,z⟩:=z;subst V
 obtain⟨U,d,rfl,rv,R⟩:∃U d,us=[U,d]/\cm v U/\cm w d:=by
  cases r1 with
  |cons p q=>
   cases q with
   |cons p' q'=>
    cases q'
    lia
 refine Vh ?_ (by show 2<=sizeLine;decide);have Z:aS X pins σ H1 {S with heap:=S.heap.push {cls:=.type "tuple",data:=.seq [U,d].toArray}}:=M.kept λb o e=>Vi _ e;rw[hw];refine Vd (Vg ?_);refine Vd (Vj (Vd (unpackItems_tuple (items:=#[U,d]) (I.ok.hd W) (IsTup.new S.heap _) λh' n=>?_)));refine Vd (Vc (wpAny_bindName (kc (Z.kept λb o e=>n b o (UV (US e)) e) hN hj (.inl μ) R (λs2 O=>?_) (.inr μ))));refine Vc (wpAny_bindName (kc O hN hi (.inl L) rv (λs3 B=>assignInOrder_nil (Vg ?_)) (.inr L)));rw[List.set_comm _ _ (U3 J)]at B;exact⟨_,H1,B,z⟩
def Te(i:Nat)(te:TE)(I:O1):TS:=λD σ H=>∃x,σ[i]?=some (some x)/\te σ H λy H1=>I x y H1 λz H2=>D.nx (σ.set i (some z)) H2
theorem Mx{op:Operator}{ti:O1}(hN:(X.N.Nodup))(hi:4e0)(j:(CZ X.env.scope x))(M:PE X e te)(O:Sb X op ti)(F:(autoParam 4e4 ATu)):
  PS X (.AugAssign (.Name x pos') op e pos) (Te i te ti):=by
 intro pins s σ H D I h;refine bz h λv J h=>?_;refine bz I.loc λm μ S=>?_;refine bz (S i x v hi J (by rcases j with k|k;exact .inl k;exact .inr (.inl k))) λu r l=>?_;refine wpAny_AugAssign_Name ?_
 have G:wpAny 0e7 X.A (eval e 1e7) (λw s₂=>wpAny 0e7 X.A (inplaceOp op u w) (λr s₃=>wpAny 0e7 X.A (storeName 1e7 x r) (λ_=>SP X pins D .next) X.xe s₃) X.xe s₂) X.xe s:=by
  exact dt (M pins s σ H _ I h) λw s1 ⟨y,H1,n,R,Z⟩=>(dt (O pins s1 σ H1 v y u w _ n r R Z) λz s2 ⟨zv,H2,q,W,V⟩=>(kc q hN hi j W (λs3 B=>⟨_,H2,B,V⟩) F))
 rcases l with⟨d,U⟩|⟨d,c,L,hcell⟩
 ·exact wpAny_loadName_local I.ok.kind d μ U G
 ·rcases d with d | d
  ·exact wpAny_loadName_cell I.ok.kind d L hcell G
  ·rcases j with k | k
   ·have : X.env.scope.names.lookup x = some .free := d
    lia
   ·have : X.env.scope.names.lookup x = some .free := d
    lia
noncomputable def UE(f:Int->Int->Int):O1:=λx y H Q=>∃i j,x=.int i/\y=.int j/\Q (.int (f i j)) H
theorem NX:Sb X .Add (UE λi j=>i+j):=by
 intro pins s σ H x y v u Q I R M h;refine aP h λi j d B q=>?_;subst d;subst B;obtain⟨t,rfl⟩:=R;obtain⟨n,rfl⟩:=M;exact iadd_int ⟨.int _,H,I.tok _,⟨_,rfl⟩,q⟩
end
section
variable{X:Cx}
def Lz(c:TT)(tb:TS):TS:=λD σ H=>∃W:Nat->St->Hp->Prop,(∃m,W m σ H)/\∀m σ H,W m σ H ->
 c σ H λb H1=>if b=true then ∃N:St->Hp->Prop,(∀d H',N d H'->∃y,y<m/\W y d H')/\tb {D with nx:=N,ct:=N,bk:=D.nx} σ H1 else D.nx σ H1
theorem Fd{c:Expr}{tc:TT}{tb:TS}(y:(PassesOwn 0e7 X.A 1e7 X.xe))(S:PT X c tc)(M:nQ X body tb):PS X (.While c body [] pos) (Lz tc tb):=by
 intro pins s σ H D I h;refine bz h λW V turn=>?_;obtain⟨m0,O⟩:=V;refine wpAny_While (codeAny_whileLoop (λn s'=>∃i H',aS X pins i H' s'/\W n i H') ?_ m0 ⟨σ,H,I,O⟩)
 rintro n μ ⟨d,H1,B,R⟩
 refine Vk y (dt (S pins μ d H1 _ B (turn n d H1 R)) λb Z ⟨H2,q,J⟩=>?_);cases b with
 |true=>
  obtain⟨N,hN,J⟩:=J;refine Vk y (dt (M pins Z d H2 _ q J) λf F L=>?_);cases f with
  |next=>
   refine bH L λj z G U=>?_
   grind
  |cont=>
   refine bH L λj z G U=>?_
   grind
  |brk=>exact L
  |ret v=>exact L
 |false=>
  exact Vb ⟨d,H2,q,J⟩
end
structure It where
 go:Nat->Hp->Prop
 yld:Nat->Hp->V->Hp->Prop
 stop:Nat->Hp->Prop
def lE(X:Cx)(pins:1e9)(H:Hp)(b:Addr):Prop:=
 H b=none/\b≠X.env.locals/\b∉X.fs/\(b∈X.ex\/X.s₀.heap.objs.size<=b)/\(∀x c,X.env.cells.lookup x=some c->c≠b)/\∀p∈X.pn++pins,p.1≠b
theorem aS.fpOk{X:Cx}{H':Hp}{b:Addr}(I:0e6)(B:s.heap.objs.size<=b)(n:H' b=none):lE X pins H' b:=by
 refine⟨n,Vl (UT I.lt B),I.nofs B,.inr (UX I.sz B),λx c e z=>?_,λp d z=>?_⟩
 ·obtain⟨v,q⟩:=I.cell x c e;exact absurd (UT q.lt (by rw[z];exact B)) (UU _)
 ·exact absurd (UT (US (I.pin p d).1) (by rw[z];exact B)) (UU _)
structure vP(P:Program)(w:World)(K:W.Frag)(tg:Expr)(J:It)(fp:3e4)(it:Addr)(tn:(Nat->Heap->Prop)):Prop where
 mem:it∈fp
 obj:∀i h,tn i h->∀b∈fp,∃o,h.get? b=some o/\∀v,o.data≠.cell v
 keep:∀i h h',tn i h->(∀b∈fp,∀o,h.get? b=some o->h'.get? b=some o)->tn i h'
 item:∀(X:Cx),X.prog=P->X.w=w->X.K=K->X.calm=true->∀(i:Nat)(pins:1e9)(s:Shared)(σ:St)(H:Hp)(E:3e3),aS X pins σ H s->(∀b∈fp,lE X pins H b)->tn i 2e7->J.go i H ->
  wpAny (model P w) X.A (pyNext (.ref it)) (λr s1=>∃u,r=some u /\
   wpAny (model P w) X.A (letOwnedTupleGo tg (.ref it) u) (λ_ s2=>∃x H',aS X pins σ H' s2/\cm x u/\J.yld i H x H'/\tn (i+1) s2.heap/\∀b∈fp,H' b=none) E s1) E s
 done:∀(X:Cx),X.prog=P->X.w=w->X.K=K->X.calm=true->∀(i:Nat)(pins:1e9)(s:Shared)(σ:St)(H:Hp)(E:3e3),aS X pins σ H s->(∀b∈fp,lE X pins H b)->tn i 2e7->J.stop i H ->
  wpAny (model P w) X.A (pyNext (.ref it)) (λr s1=>r=none/\aS X pins σ H s1) E s
 self:∀(A:Around)(i:Nat)(s:Shared)(Q:3e3)(E:3e3),tn i 2e7->Q (.ref it) s->wpAny (model P w) A (pyIter (.ref it)) Q E s
abbrev TI:=St->Hp->(It->Hp->Prop)->Prop
def Sd(X:Cx)(pins:1e9)(σ:St)(tg:Expr)(R:It->Hp->Prop)(itv:Value)(N:Shared):Prop:=
 ∃(i:Addr)(F:3e4)(n:(Nat->Heap->Prop))(J:It)(H':Hp),itv=.ref i/\aS X pins σ H' N/\vP X.prog X.w X.K tg J F i n/\n 0 N.heap/\(∀b∈F,lE X pins H' b)/\R J H'
def PI(X:Cx)(tg iter:Expr)(i:TI):Prop:=
 ∀(pins:1e9)(s:Shared)(σ:St)(H:Hp)(R:It->Hp->Prop),aS X pins σ H s->i σ H R ->
  wpAny 0e7 X.A (eval iter 1e7) (λv S=>wpAny 0e7 X.A (pyIter v) (Sd X pins σ tg R) X.xe S) X.xe s
theorem zP{M:Model}{o:Obj}{n:String}{vs:5e5}{Q:Unit->Shared->Prop}(G:s.heap.get? it=some o)(j:o.cls=.type n)(D:o.data=.fields vs)(N:["enumerate", "zip", "dict_itemiterator", "dict_reverseitemiterator", "odict_iterator", "itertools.zip_longest", "itertools.pairwise"].contains n=false)(hQ:Q () s):wpAny M A (letOwnedTupleGo tg (.ref it) u) Q E s:=by
 cases tg <;> first
  |exact Vg hQ
  |(cases u <;> first
    |exact Vg hQ
    | (refine Vd (Vm G ?_)
       simp_all[Vg]))
noncomputable def Sg(K:W.Frag)(a:Addr):It:=
 ⟨λi H=>∃xs x,dN K H a xs/\xs[i]?=some x,λi H x H'=>H'=H/\∀xs,dN K H a xs->xs[i]?=some x,λi H=>∃xs,dN K H a xs/\xs.length<=i⟩
noncomputable def SE(K:W.Frag)(a:Addr):It:=
 ⟨λi H=>∃xs x,ei K H a xs/\xs[i]?=some x,λi H x H'=>H'=H/\∀xs,ei K H a xs->xs[i]?=some x,λi H=>∃xs,ei K H a xs/\xs.length<=i⟩
noncomputable def OQ(lo:Int)(n:Nat):It:=⟨λi _=>i<n,λi H x H'=>H'=H/\x=.int (lo+i),λi _=>n<=i⟩
theorem Bg(a it:Addr):vP P w K tg (Sg K a) [it] it (λi h=>h.IsListIter it a i) where
 mem:=by simp
 obj:=λi h st b B=>by
  refine bI st λo e c d=>?_
  grind
 keep:=λi h h' st k=>st.at λo e=>k it 1e1 o e
 item:=by
  intro X hP J hK N i pins s σ H E I F st U;subst hP J hK;refine bH U λxs x z L=>?_;refine bI (I.list z) λM R p hz=>?_;refine bz (R.get L) λu V ru=>?_;refine ig (F it 1e1) λj n O q y G=>?_;refine wpAny_pyNext_list_item st p.isList (by simpa using V) λh' S sb=>?_;have Z:aS X pins σ H {s with heap:=h'}:=I.turned (λb o B e=>(sb.2 b B).trans e) j n q y G;refine bI (id S) λo e c d=>?_;exact⟨u,rfl,zP e c d 1e0 ⟨x,H,Z,ru,⟨rfl,λys hy=>by rw[I.list_inj hy z];exact L⟩,S,λb B=>(F b B).1⟩⟩
 done:=by
  intro X hP J hK N i pins s σ H E I F st U;subst hP J hK;refine bz U λxs z L=>?_;refine bI (I.list z) λM R p hz=>?_;refine ig (F it 1e1) λj n O q y G=>?_;have hl:=R.length;exact wpAny_pyNext_list_end (I.ok.hd N) st p.isList (by simp;lia) λh' D=>⟨rfl,I.turned (λb o B e=>D b o B e) j n q y G⟩
 self:=λ_ _ _ _ _ st h=>wpAny_pyIter_listiter st h
theorem yR(a it:Addr):vP P w K tg (SE K a) [it] it (λi h=>h.IsTupleIter it a i) where
 mem:=by simp
 obj:=λi h st b B=>by
  have e:b=it:=by simpa using B
  subst e;refine bI st λo e c d=>?_
  grind
 keep:=λi h h' st k=>st.at λo e=>k it 1e1 o e
 item:=by
  intro X hP J hK N i pins s σ H E I F st U;subst hP J hK;refine bH U λxs x z L=>?_;refine bI (I.tuple z) λM R p hz=>?_;refine bz (R.get L) λu V ru=>?_;refine ig (F it 1e1) λj n O q y G=>?_;refine wpAny_pyNext_tuple_item st p (by simpa using V) λh' S sb=>?_;have Z:aS X pins σ H {s with heap:=h'}:=I.turned (λb o B e=>(sb.2 b B).trans e) j n q y G;refine bI (id S) λo e c d=>?_;exact⟨u,rfl,zP e c d 1e0 ⟨x,H,Z,ru,⟨rfl,λys hy=>by rw[I.tuple_inj hy z];exact L⟩,S,λb B=>(F b B).1⟩⟩
 done:=by
  intro X hP J hK N i pins s σ H E I F st U;subst hP J hK;refine bz U λxs z L=>?_;refine bI (I.tuple z) λM R p hz=>?_;refine ig (F it 1e1) λj n O q y G=>?_;have hl:=R.length;exact wpAny_pyNext_tuple_end (I.ok.hd N) st p (by simp;lia) λh' D=>⟨rfl,I.turned (λb o B e=>D b o B e) j n q y G⟩
 self:=λ_ _ _ _ _ st h=>wpAny_pyIter_tupleiter st h
theorem yS(it:Addr)(lo:Int)(n:Nat):vP P w K tg (OQ lo n) [it] it (λi h=>IsRangeIter h it (lo+(i:Nat)*1) ((n:Int)-(i:Nat)) 1) where
 mem:=by simp
 obj:=λi h st b B=>by
  simp_all
 keep:=λi h h' st k=>k it 1e1 _ st
 item:=by
  intro X hP M hK z i pins s σ H E I F st U;refine ig (F it 1e1) λj d O q y G=>?_;refine(Walks.range (I.ok.hd z) it lo 1 n).item i s _ _ U st λv h' tk V S N=>?_;obtain⟨t,rfl⟩:=V;have L:aS X pins σ H {s with heap:=h',toks:=tk}:=I.turned (λb o B e=>N b o (by simpa using B) e) j d q y G;refine⟨_,rfl,zP S rfl rfl 1e0 ⟨.int (lo+i),H,L,⟨t,?_⟩,⟨rfl,rfl⟩,S,λb B=>(F b B).1⟩⟩;rw[Int.mul_one]
 done:=by
  intro X hP M hK z i pins s σ H E I F st U;refine ig (F it 1e1) λj d O q y G=>?_;exact wpAny_pyNext_range_end (I.ok.hd z) st (by have:n<=i:=U;lia) λh' D=>⟨rfl,I.turned (λb o B e=>D b o B e) j d q y G⟩
 self:=λ_ _ _ _ _ st h=>wpAny_pyIter_rangeiter st h
section
variable{X:Cx}
theorem wU{R:It->Hp->Prop}{lo hi:Int}{t u v:Tok}(I:0e6)(h1:-(2^62)<=lo)(h2:lo<2^62)(j:-(2^62)<=hi)(n:hi<2^62)(q:R (OQ lo (hi-lo).toNat) H):wpAny 0e7 X.A (pyIter (.ref 0e2)) (Sd X pins σ tg R) E {s with heap:=s.heap.push {cls:=.type "range",data:=.fields #[.int lo t,.int hi u,.int 1 v]},toks:=tk}:=by
 refine wpAny_pyIter_range (IsRange.new ..) (small_one h1 h2 j n) ?_;have d:aS X pins σ H {s with heap:=s.heap.push {cls:=.type "range",data:=.fields #[.int lo t,.int hi u,.int 1 v]},toks:=tk}:=I.kept λb o e=>Vi _ e
 refine⟨(s.heap.push {cls:=.type "range",data:=.fields #[.int lo t,.int hi u,.int 1 v]}).objs.size,[(s.heap.push {cls:=.type "range",data:=.fields #[.int lo t,.int hi u,.int 1 v]}).objs.size],_,_,H,rfl,
  d.kept λb o e=>Vi _ e,yS _ lo (hi-lo).toNat,?_,λb B=>?_,q⟩
 ·have i : lo + ((0 : Nat) : Int) * 1 = lo := by simp
  rw[i,(show (((hi-lo).toNat:Nat):Int)-((0:Nat):Int)=Builtin.Range.rangeSize lo hi 1 by rw[rangeSize_one];split <;> lia)];exact UR _ rfl
 ·have e : b = (s.heap.push { cls := .type "range", data := .fields #[.int lo t, .int hi u, .int 1 v] }).objs.size := by simpa using B
  subst e;exact d.fpOk (Vn _) (d.hok.fresh (Vn _))
noncomputable def Rg(ta:TA):TI:=λσ H R=>ta σ H λy H1=>∃j:Int,y=[.int j]/\-(2^62)<=j/\j<2^62/\R (OQ 0 j.toNat) H1
noncomputable def Rf(ta:TA):TI:=λσ H R=>ta σ H λy H1=>∃i j:Int,y=[.int i,.int j]/\(-(2^62)<=i/\i<2^62/\-(2^62)<=j/\j<2^62)/\R (OQ i (j-i).toNat) H1
theorem BL{a:Expr}{p:Pos}(U:Gl X "range")(M:X.mg "range" = none)(n:PA X [a] ta)(hs:(autoParam (starEach [a] 1e7=[(false,eval a 1e7)]) ATr)):PI X tg (.Call (.Name "range" p) [a] [] pos) (Rg ta):=by
 intro pins s σ H R I h;refine Call_ (j7 I U M boot_range (Vo (dt (n pos pins s σ H _ I h) λB S ⟨V,H1,i,y,d⟩=>?_) hs rfl));obtain⟨j,e,d,J,q⟩:=d;subst e;cases y with
 |cons r z=>
  cases z;obtain⟨t,rfl⟩:=r;exact call_range_1 (wU i 0e0 0e0 d J (by simpa using q))
theorem BK{a b:Expr}{p:Pos}(U:Gl X "range")(M:X.mg "range" = none)(B:PA X [a,b] ta)(hs:autoParam (starEach [a,b] 1e7=[(false,eval a 1e7),(false,eval b 1e7)]) ATr)(d:autoParam (starEach [b] 1e7=[(false,eval b 1e7)]) ATr):
  PI X tg (.Call (.Name "range" p) [a,b] [] pos) (Rf ta):=by
 intro pins s σ H R I h;refine Call_ (j7 I U M boot_range (Vo (dt (B pos pins s σ H _ I h) λD μ ⟨V,H1,z,S,n⟩=>?_) (by rw[hs,d]) (by rw[d];rfl)));obtain⟨i,j,e,⟨n,J,L,G⟩,q⟩:=n;subst e;cases S with
 |cons r y=>
  cases y with
  |cons N y=>
   cases y;obtain⟨t,rfl⟩:=r;obtain⟨Z,rfl⟩:=N;exact call_range_2 (wU z n J L G q)
def Tc(I:TI)(g:TG)(tb:TS):TS:=λD σ H=>I σ H λJ H1=>∃W:Nat->Nat->St->Hp->Prop,(∃m,W 0 m σ H1)/\∀i m σ H,W i m σ H ->
 (J.stop i H/\D.nx σ H)\/(J.go i H/\∃N:St->Hp->Prop,(∀d H',N d H'->∃y,y<m/\W (i+1) y d H')/\∀x H',J.yld i H x H'->g x σ H' λj H2=>tb {D with nx:=N,ct:=N,bk:=D.nx} j H2)
noncomputable def pI(F:3e4)(h:Heap):List (Addr×Obj):=F.filterMap λb=>(h.get? b).map λo=>(b,o)
theorem jD{b:Addr}{o:Obj}(B:b∈fp)(e:h.get? b=some o):(b,o)∈pI fp h:=Vp.mpr ⟨b,B,by rw[e];rfl⟩
theorem BU{p:Addr×Obj}(d:p∈pI fp h):p.1∈fp/\h.get? p.1=some p.2:=by
 refine bz (Vp.mp d) λb B e=>?_;cases q:h.get? b with
 |none=>rw[q]at e;cases e
 |some o=>
  grind
theorem aS.pinned(I:0e6)(F:∀b∈fp,lE X pins H b)(G:∀b∈fp,∃o,s.heap.get? b=some o/\∀v,o.data≠.cell v):aS X (pins++pI fp 2e7) σ H s:=
 I.pins_of λp d=>(U4.mp d).elim (λz=>I.pin p (Vq _ z)) λz=>by
  obtain⟨B,e⟩:=BU z;refine tX (F p.1 B) λj n O _=>?_
  grind
theorem aS.unpinned{pl:1e9}(I:aS X (pins++pl) σ H s):aS X pins σ H s:=I.pins_of λp d=>I.pin p (Vq _ (U5 _ d))
theorem Mw{wi:TI}{g:TG}{tb:TS}(U:(PassesOwn 0e7 X.A 1e7 X.xe))(hc:1e8)(hi:PI X tg iter wi)(hg:PG X tg g)(B:nQ X body tb)(hs:1e3):PS X (.For tg iter body [] pos) (Tc wi g tb):=by
 intro pins s σ H D I h;refine wpAny_For (dt (hi pins s σ H _ I h) λv s1 h1=>dt h1 λitv s2 h2=>?_) hs;obtain⟨it,F,tn,J,H2,e,I2,T,st2,f2,W,⟨m0,w0⟩,turn⟩:=h2;subst e;have stat:∀{H':Hp},(∀b∈F,H' b=none)->∀b∈F,lE X pins H' b:=λhn b B=>⟨hn b B,(f2 b B).2⟩;refine codeAny_forLoop_any (λn s'=>∃i z H',aS X pins z H' s'/\tn i s'.heap/\(∀b∈F,H' b=none)/\W i n z H') ?_ m0 ⟨0,σ,H2,I2,st2,λb B=>(f2 b B).1,w0⟩
 rintro n s3 ⟨i,G,O,I3,Z,M,w3⟩
 rcases turn i n G O w3 with⟨stop,qn⟩|⟨go,N,hN,step⟩
 ·refine Vk U (dt (T.done X rfl rfl rfl hc i pins s3 G O X.xe I3 (stat M) Z stop) λr s4 ⟨R,I4⟩=>?_);subst R;exact Vb ⟨G,O,I4,qn⟩
 ·refine Vk U (dt (T.item X rfl rfl rfl hc i pins s3 G O X.xe I3 (stat M) Z go) λr s4 ⟨u, R, h4⟩ => ?_);subst R;refine Vk U (dt h4 λ_ s5 ⟨x,H5,I5,r5,y5,S,V⟩=>?_);refine Vk U (dt (hg _ s5 G H5 x u _ (I5.pinned (stat V) (T.obj _ _ S)) r5 (step x H5 y5)) λ_ s6 ⟨σ6,H6,I6,q6⟩=>?_);refine Vk U (dt (B _ s6 σ6 H6 _ I6 q6) λf s7 L=>?_)
  have again:∀{j:St}{q:Hp},aS X (pins++pI F s5.heap) j q s7->N j q->∃m,m<n/\∃i z H',aS X pins z H' s7/\tn i s7.heap/\(∀b∈F,H' b=none)/\W i m z H':=λ{j q} y μ=>by
   obtain⟨m',hm,w7⟩:=hN j q μ;refine⟨m',hm,i+1,j,q,y.unpinned,T.keep _ _ _ S λb B o e=>(y.pin (b,o) (Vq _ (Vq _ (jD B e)))).1,λb B=>?_,w7⟩;refine bz (T.obj _ _ S b B) λo e d=>?_;exact(y.pin (b,o) (Vq _ (Vq _ (jD B e)))).2.1
  cases f with
  |next=>refine bH L λj q y μ=>?_;exact again y μ
  |cont=>refine bH L λj q y μ=>?_;exact again y μ
  |brk=>refine bH L λj q y L=>?_;exact⟨j,q,y.unpinned,L⟩
  |ret v=>refine cX L λx7 j q y r7 L=>?_;exact⟨x7,j,q,y.unpinned,r7,L⟩
end
abbrev R2:=V->V->Hp->VK->Prop
def i9(X:Cx)(f:Value->Value->Sem Value)(r:R2):Prop:=
 ∀(pins:1e9)(s:Shared)(σ:St)(H:Hp)(x y:V)(v u:Value)(Q:VK),aS X pins σ H s->cm x v->cm y u->r x y H Q ->
  wpAny 0e7 X.A (f v u) (EP X pins σ Q) X.xe s
def R9(X:Cx)(f:Value->Sem Value)(r:V->Hp->VK->Prop):Prop:=
 ∀(pins:1e9)(s:Shared)(σ:St)(H:Hp)(x:V)(v:Value)(Q:VK),aS X pins σ H s->cm x v->r x H Q ->
  wpAny 0e7 X.A (f v) (EP X pins σ Q) X.xe s
def cv(X:Cx)(f:Value)(r:(List V->Hp->VK->Prop)):Prop:=
 ∀(pins:1e9)(s:Shared)(σ:St)(H:Hp)(xs:List V)(U:1e5)(Q:VK),aS X pins σ H s->bb xs U->r xs H Q ->
  wpAny 0e7 X.A (call f U) (EP X pins σ Q) X.xe s
def TZ(X:Cx)(r:V->Hp->(Bool->Hp->Prop)->Prop):Prop:=
 ∀(pins:1e9)(s:Shared)(σ:St)(H:Hp)(x:V)(v:Value)(Q:Bool->Hp->Prop),aS X pins σ H s->cm x v->r x H Q ->
  wpAny 0e7 X.A (truthy v) (TP X pins σ Q) X.xe s
def RW(r:R2)(ta tb:TE):TE:=λσ H Q=>ta σ H λx H1=>tb σ H1 λy H2=>r x y H2 Q
def Uw(r:V->Hp->VK->Prop)(ta:TE):TE:=λσ H Q=>ta σ H λx H1=>r x H1 Q
noncomputable def rI(C:(Int->Int->Prop))(g:Int->Int->V):R2:=λx y H Q=>∃i j,x=.int i/\y=.int j/\C i j/\Q (g i j) H
noncomputable def KL(g:Int->Int->V):R2:=λx y H Q=>∃i j,x=.int i/\y=.int j/\Q (g i j) H
def rU(g:Int->V):V->Hp->VK->Prop:=λx H Q=>∃i,x=.int i/\Q (g i) H
section
variable{X:Cx}{a b c:Expr}{ta tb tc:TE}
theorem K4(n:PE X a ta)(B:PE X b tb){R:V->V->Hp->Prop}(I:0e6)(h:ta σ H λx H1=>tb σ H1 λy H2=>R x y H2){f:Value->Value->Sem Value}(F:∀v u s2 x y H2,aS X pins σ H2 s2->cm x v->cm y u->R x y H2->wpAny 0e7 X.A (f v u) Q X.xe s2):
  wpAny 0e7 X.A (eval a 1e7) (λv s₁=>wpAny 0e7 X.A (eval b 1e7) (λu s₂=>wpAny 0e7 X.A (f v u) Q X.xe s₂) X.xe s₁) X.xe s:=by
 refine dt (n pins s σ H _ I h) λv S ⟨x,H1,d,j,q⟩=>?_;refine dt (B pins S σ H1 _ d q) λu s2 ⟨y,H2,i,M,J⟩=>?_
 grind
theorem QP{op:Operator}{r:R2}(G:i9 X (binaryOp op) r)(d:PE X a ta)(B:PE X b tb):PE X (.BinOp a op b pos) (RW r ta tb):=by
 intro pins s σ H Q I h;exact wpAny_BinOp (K4 d B I h λv u N x y H2 n R μ q=>G pins N σ H2 x y v u Q n R μ q)
theorem QO{op:UnaryOp}{r:V->Hp->VK->Prop}(G:R9 X (unaryOp op) r)(n:PE X a ta):PE X (.UnaryOp op a pos) (Uw r ta):=by
 intro pins s σ H Q I h;exact UnaryOp_ (dt (n pins s σ H _ I h) λv S ⟨x,H1,d,R,q⟩=>G pins S σ H1 x v Q d R q)
theorem OG{f:Value->Value->Sem Value}{g:Int->Int->Int}(rule:∀(i j:Int)(t u:Tok)(s:Shared)(Q:3e3)(E:3e3),C i j->Q (.int (g i j) s.toks) {s with toks:=s.toks+1}->wpAny 0e7 X.A (f (.int i t) (.int j u)) Q E s):
  i9 X f (rI C λi j=>.int (g i j)):=by
 intro pins s σ H x y v u Q I R μ h;refine aF h λi j V z d q=>?_;subst V;subst z;obtain⟨t,rfl⟩:=R;obtain⟨n,rfl⟩:=μ;exact rule i j t n s _ _ d ⟨.int (g i j),H,I.tok _,⟨_,rfl⟩,q⟩
theorem GF{f:Value->Value->Sem Value}{g:Int->Int->Int}
  (rule:∀(i j:Int)(t u:Tok)(s:Shared)(Q:3e3)(E:3e3),Q (.int (g i j) s.toks) {s with toks:=s.toks+1}->wpAny 0e7 X.A (f (.int i t) (.int j u)) Q E s) :
  i9 X f (KL λi j=>.int (g i j)):=by
 intro pins s σ H x y v u Q I R μ h;obtain⟨i,j,rfl,rfl,q⟩:=h;obtain⟨t,rfl⟩:=R;obtain⟨d,rfl⟩:=μ;exact rule i j t d s _ _ ⟨.int (g i j),H,I.tok _,⟨_,rfl⟩,q⟩
def Pv(i j:Int):Prop:=0<j/\j<1073741824
def De(i j:Int):Prop:=0<=j/\j<=1000000/\i.natAbs<2^64
def vQ(i j:Int):Prop:=(-(2^64)<i/\i<2^64)\/(-(2^64)<j/\j<2^64)
theorem vQ.ok{i j:Int}(h:vQ i j):IntMulOk i j:=by
 rcases h with⟨h1,h2⟩|⟨h1,h2⟩
 ·exact .of_left (intBits_le_64 h1 h2)
 ·exact .of_right (intBits_le_64 h1 h2)
theorem yQ(k:Nat):(0:Int)<=2^k:=by
 lia
theorem Nj:i9 X (binaryOp .Add) (KL λi j=>.int (i+j)):=GF λ_ _ _ _ _ _ _ q=>add_int q
theorem M3:i9 X (binaryOp .Sub) (KL λi j=>.int (i-j)):=GF λ_ _ _ _ _ _ _ q=>sub_int q
theorem M9:i9 X (binaryOp .Mult) (rI vQ λi j=>.int (i*j)):=OG λ_ _ _ _ _ _ _ d q=>mul_int q d.ok
theorem IG:i9 X (binaryOp .FloorDiv) (rI Pv λi j=>.int (i / j)):=OG λi j _ _ _ _ _ d q=>by
 have h1:=d.1;have h2:=d.2;exact floordiv_int 0e0 (by rw[Int.fdiv_eq_ediv_of_nonneg i 0e0];exact q) (.inl (PyProof.noPylong_small 0e0))
theorem Na:i9 X (binaryOp .Mod) (rI (λ_ j=>0<j) λi j=>.int (i%j)):=OG λi j _ _ _ _ _ d q=>by
 exact mod_int' 0e0 (by rw[Int.fmod_eq_emod_of_nonneg i 0e0];exact q)
theorem M7:i9 X (binaryOp .Pow) (rI De λi j=>.int (i^j.toNat)):=OG λ_ _ _ _ _ _ _ d q=>pow_int_small d.1 d.2.1 d.2.2 q
theorem M5:i9 X (binaryOp .LShift) (rI De λi j=>.int (i*2^j.toNat)):=OG λ_ _ _ _ _ _ _ d q=>lshift_int_small d.1 d.2.1 d.2.2 q
theorem M4:i9 X (binaryOp .RShift) (rI (λ_ j=>0<=j) λi j=>.int (i / 2^j.toNat)):=OG λi j _ _ _ _ _ d q=>
 rshift_int d (by rw[Int.fdiv_eq_ediv_of_nonneg i (yQ _)];exact q)
theorem Ni:i9 X (binaryOp .BitAnd) (KL λi j=>.int (Builtin.bitAnd i j)):=GF λ_ _ _ _ _ _ _ q=>and_int q
theorem QU:i9 X (binaryOp .BitOr) (KL λi j=>.int (Builtin.bitOr i j)):=GF λ_ _ _ _ _ _ _ q=>or_int q
theorem Uu{f:Value->Sem Value}{g:Int->Int}
  (rule:∀(i:Int)(t:Tok)(s:Shared)(Q:3e3)(E:3e3),Q (.int (g i) s.toks) {s with toks:=s.toks+1}->wpAny 0e7 X.A (f (.int i t)) Q E s) :
  R9 X f (rU λi=>.int (g i)):=by
 intro pins s σ H x v Q I R h;obtain⟨i,rfl,q⟩:=h;obtain⟨t,rfl⟩:=R;exact rule i t s _ _ ⟨.int (g i),H,I.tok _,⟨_,rfl⟩,q⟩
theorem Lm:R9 X (unaryOp .USub) (rU λi=>.int (-i)):=Uu λ_ _ _ _ _ q=>neg_int q
end
section
variable{X:Cx}{a b c:Expr}{ta tb tc:TE}
theorem Ek{Q:VK}{k k':Bool}(I:0e6)(q:Q (.bl k) H)(e:k=k'):EP X pins σ Q (.bool k') s:=by
 subst e;exact⟨.bl k,H,I,rfl,q⟩
theorem Nd:i9 X (compareOp .Is) (λx y H Q=>y=.non/\Q (.bl (decide (x=.non))) H):=by
 intro pins s σ H x y v u Q I R μ h;obtain⟨rfl,q⟩:=h;cases μ;refine is_none_gen (Ek I q ?_)
 cases x <;> first
  |(cases R;rfl)
  |(obtain⟨t,rfl⟩:=R;rfl)
theorem IE:i9 X (compareOp .IsNot) (λx y H Q=>y=.non/\Q (.bl (!decide (x=.non))) H):=by
 intro pins s σ H x y v u Q I R μ h;obtain⟨rfl,q⟩:=h;cases μ;refine isnot_none_gen (Ek I q ?_)
 cases x <;> first
  |(cases R;rfl)
  |(obtain⟨t,rfl⟩:=R;rfl)
theorem i9.or{f:Value->Value->Sem Value}{r r':R2}(h:i9 X f r)(h':i9 X f r'):i9 X f (λx y H Q=>r x y H Q\/r' x y H Q):=by
 intro pins s σ H x y v u Q I R μ q;rcases q with q|q
 ·exact h pins s σ H x y v u Q I R μ q
 ·exact h' pins s σ H x y v u Q I R μ q
theorem Iu{r:R2}(G:(i9 X (compareOp op) r))(d:PE X a ta)(B:PE X b tb)(M:behindInMarks op b=false):PE X (.Compare a [op] [b] pos) (RW r ta tb):=by
 intro pins s σ H Q I h;exact wpAny_Compare1 (K4 d B I h λv u N x y H2 n R μ q=>G pins N σ H2 x y v u Q n R μ q) M
noncomputable def Qk(t:TE):TT:=λσ H Q=>t σ H λx H'=>∃k,x=.bl k/\Q k H'
theorem H9{r:R2}(G:(i9 X (compareOp op) r))(j:PE X a ta)(B:PE X b tb)(M:behindInMarks op b=false):PT X (.Compare a [op] [b] pos) (Qk (RW r ta tb)):=by
 intro pins s σ H Q I h
 refine wpAny_isTrue_Compare1 (dt (j pins s σ H _ I h) λv μ ⟨x,H1,i,R,J⟩=>dt (B pins μ σ H1 _ i J) λu Z ⟨y,H2,n,S,L⟩=>
  dt (G pins Z σ H2 x y v u _ n R S L) λc D ⟨z,d,q,U,k,e,N⟩=>?_) M
 subst e;cases U;exact Va ⟨d,q,N⟩
def DN(r R:R2)(ta tb tc:TE):TE:=λσ H Q=>ta σ H λx H1=>tb σ H1 λy H2=>r x y H2 λz d=>∃k,z=.bl k /\
 (if k=true then tc σ d λW i=>R y W i Q else Q (.bl false) d)
theorem Ft{op':CmpOp}{r r':R2}(μ:(i9 X (compareOp op) r))(i:i9 X (compareOp op') r')(J:PE X a ta)(N:PE X b tb)(S:PE X c tc)(U:lastMarks [op,op'] [b,c]=false:=by with_unfolding_all rfl):PE X (.Compare a [op,op'] [b,c] pos) (DN r r' ta tb tc):=by
 intro pins s σ H Q I h
 refine Compare_chain (dt (J pins s σ H _ I h) λv s1 ⟨x,H1,B,R,Z⟩=>chain_link (dt (N pins s1 σ H1 _ B Z) λu s2 ⟨y,H2,G,M,D⟩=>
  dt (μ pins s2 σ H2 x y v u _ G R M D) λd s3 ⟨z,j,q,F,k,e,L⟩=>?_)) U
 subst e;cases F;refine Va ?_;cases k with
 |false=>exact ite_ff ⟨.bl false,j,q,rfl,L⟩
 |true=>exact ite_tt (chain_last (dt (S pins s3 σ j _ q L) λw' s4 ⟨z',n,O,W,V⟩=>i pins s4 σ n y z' u w' Q O M W V))
def K7(K:W.Frag)(x:V)(H:Hp)(k:Bool):Prop:=
 match x with
 |.non=>k=false
 |.bl b=>k=b
 |.int i=>k=(i != 0)
 |.str y=>y.length<=sizeLine/\k=((y.length:Int) != 0)
 |.byt y=>y.size<=sizeLine/\k=((y.size:Int) != 0)
 |.ref p=>(∃xs,dN K H p xs/\k=!xs.isEmpty)\/(∃xs,ei K H p xs/\k=!xs.isEmpty)\/∃d,H p=some (.dK d)/\k=!d.isEmpty
 |_=>False
theorem zl{κ:Type}{kvs:List (κ×V)}{vs:List (κ×Value)}(r:KV kvs vs):(!vs.isEmpty)=!kvs.isEmpty:=by
 cases r <;> rfl
theorem qH{xs:List V}(r:bb xs its):(!its.toArray.isEmpty)=!xs.isEmpty:=by
 cases r <;> simp
theorem pJ:(sizeLine:Nat)<2^63:=by rw[sizeLine_eq];decide
theorem Lq:TZ X (λx H Q=>∃k,K7 X.K x H k/\Q k H):=by
 intro pins s σ H x v Q I R h;obtain⟨k,e,q⟩:=h;have B:=pJ;have G:sizeLine=16777216:=sizeLine_eq;cases x with
 |non=>
  cases R;have d:k=false:=e;subst d;exact truthy_none ⟨H,I,q⟩
 |bl b=>
  cases R;have d:k=b:=e;subst d;exact Va ⟨H,I,q⟩
 |int i=>
  obtain⟨t,rfl⟩:=R;have d:k=(i != 0):=e;subst d;exact PySem.P.truthy_int ⟨H,I,q⟩
 |str y=>
  obtain⟨t,rfl⟩:=R;obtain⟨μ,d⟩:y.length<=sizeLine/\k=((y.length:Int) != 0):=e;subst d;exact PySem.P.truthy_str 0e0 ⟨H,I.tok _,q⟩
 |byt y=>
  obtain⟨t,rfl⟩:=R;obtain⟨μ,d⟩:y.size<=sizeLine/\k=((y.size:Int) != 0):=e;subst d;exact W.truthy_bytes 0e0 ⟨H,I.tok _,q⟩
 |ref p=>
  cases R;have d:(∃xs,dN X.K H p xs/\k=!xs.isEmpty)\/(∃xs,ei X.K H p xs/\k=!xs.isEmpty)\/∃S,H p=some (.dK S)/\k=!S.isEmpty:=e;rcases d with⟨xs,j,d⟩|⟨xs,j,d⟩|⟨S,j,d⟩
  ·subst d;obtain⟨z,r,L,Z⟩:=I.list j;have n:=r.length;exact wpAny_truthy_list L.isList (by simp only[Vr];lia) ⟨H,I.tok _,by rw[qH r];exact q⟩
  ·subst d;obtain⟨z,r,L,Z⟩:=I.tuple j;have n:=r.length;exact truthy_tuple L (by simp only[Vr];lia) ⟨H,I.tok _,by rw[qH r];exact q⟩
  ·subst d;obtain⟨Z,hS,V,r,m⟩:S.length<=sizeLine/\(p == sysModules)=false/\∃V,KV S V/\s.heap.DictOf (uJ X.prog X.w) p V:=I.hok p _ j;have n:S.length=V.length:=Paired.length r;exact wpAny_truthy_dict hS m 0e0 ⟨H,I.tok _,by rw[zl r];exact q⟩
 |_=>exact(show False from e).elim
theorem Fb(n:PE X a ta)(i:∀whole,isTrue a 1e7 whole=(do let v <- whole;standAt a.pos;holding [v] (truthy v))) :
  PT X a (λσ H Q=>ta σ H λx H'=>∃k,K7 X.K x H' k/\Q k H'):=by
 intro pins s σ H Q I h;exact isTrue_plain (dt (n pins s σ H _ I h) λv S ⟨x,H1,d,R,q⟩=>Lq pins S σ H1 x v Q d R q) (i _)
theorem zg:i9 X (binaryOp .Add) (λx y H Q=>∃i j,x=.str i/\y=.str j/\i.length+j.length<=sizeLine/\Q (.str (i++j)) H):=by
 intro pins s σ H x y v u Q I R μ h;refine aF h λi j V n Z q=>?_;subst V;subst n;obtain⟨t,rfl⟩:=R;obtain⟨d,rfl⟩:=μ;exact add_str (λd tk=>⟨.str (i++j),H,I.tok _,⟨_,rfl⟩,q⟩) Z
theorem e9{x:V}(r:bb [x] us):∃u,us=[u]/\cm x u:=by
 cases r with
 |cons R M=>cases M;exact⟨_,rfl,R⟩
theorem vR{x y:V}(r:bb [x,y] us):∃u w',us=[u,w']/\cm x u/\cm y w':=by
 cases r with
 |cons R M=>
  cases M with
  |cons U W=>cases W;lia
theorem Cr (d:1e8):cv X (.builtin "max") (λxs H Q=>∃i j,xs=[.int i,.int j]/\Q (.int (if j>i then j else i)) H):=by
 intro pins s σ H xs U Q I r h;refine bH h λi j V q=>?_;subst V;obtain⟨u,W,rfl,⟨t,rfl⟩,⟨n,rfl⟩⟩:=vR r;refine max_two_ints (I.ok.hd d) λh' tk k=>⟨_,H,I.kept k,?_,q⟩;by_cases Z:j>i
 ·rw[Vs Z,Vs Z];exact⟨_,rfl⟩
 ·rw[Vt Z,Vt Z];exact⟨_,rfl⟩
theorem tw (d:1e8):cv X (.builtin "min") (λxs H Q=>∃i j,xs=[.int i,.int j]/\Q (.int (if j<i then j else i)) H):=by
 intro pins s σ H xs U Q I r h;refine bH h λi j v10 q=>?_;subst v10;obtain⟨u,W,rfl,⟨t,rfl⟩,⟨n,rfl⟩⟩:=vR r;refine min_two_ints (I.ok.hd d) λh' tk k=>⟨_,H,I.kept k,?_,q⟩;by_cases Z:j<i
 ·rw[Vs Z,Vs Z];exact⟨_,rfl⟩
 ·rw[Vt Z,Vt Z];exact⟨_,rfl⟩
theorem Ct:cv X (.type "int") (λxs H Q=>(∃i,xs=[.int i]/\Q (.int i) H)\/∃k,xs=[.bl k]/\Q (.int (if k then 1 else 0)) H):=by
 intro pins s σ H xs U Q I r h;rcases h with⟨i,rfl,q⟩|⟨k,rfl,q⟩
 ·obtain⟨u,rfl,t,rfl⟩:=e9 r;exact call_int_int ⟨.int i,H,I,⟨_,rfl⟩,q⟩
 ·obtain⟨u,rfl,R⟩:=e9 r;cases R;exact call_int_bool ⟨.int (if k then 1 else 0),H,I.tok _,⟨_,rfl⟩,q⟩
def K9(K:W.Frag)(x:V)(H:Hp)(n:Nat):Prop:=
 match x with
 |.str y=>y.length<=sizeLine/\n=y.length
 |.byt y=>y.size<=sizeLine/\n=y.size
 |.ref p=>(∃xs,dN K H p xs/\n=4e3)\/∃xs,ei K H p xs/\n=4e3
 |_=>False
theorem F7:cv X (.builtin "len") (λxs H Q=>∃x n,xs=[x]/\K9 X.K x H n/\Q (.int n) H):=by
 intro pins s σ H xs U Q I r h;obtain⟨x,n,rfl,e,q⟩:=h;obtain⟨u,rfl,j⟩:=e9 r;have z:=sizeLine_eq;cases x with
 |str y=>
  obtain⟨t,rfl⟩:=j;obtain⟨μ,d⟩:y.length<=sizeLine/\n=y.length:=e;subst d;exact len_str 0e0 ⟨.int _,H,I.tok _,⟨_,rfl⟩,q⟩
 |byt y=>
  obtain⟨t,rfl⟩:=j;obtain⟨μ,d⟩:y.size<=sizeLine/\n=y.size:=e;subst d;exact W.len_bytes 0e0 ⟨.int _,H,I.tok _,⟨_,rfl⟩,q⟩
 |ref p=>
  cases j;have d:=e;rcases d with⟨xs,i,d⟩|⟨xs,i,d⟩
  ·subst d;obtain⟨S,R,L,Z⟩:=I.list i;have N:=R.length;exact Calls.call_len_list L.isList (by simp only[Vr];lia) ⟨.int 4e3,H,I.tok _,⟨_,by simp only[Vr];rw[N]⟩,q⟩
  ·subst d;obtain⟨S,R,L,Z⟩:=I.tuple i;have N:=R.length;exact len_tuple L (by simp only[Vr];lia) ⟨.int 4e3,H,I.tok _,⟨_,by simp only[Vr];rw[N]⟩,q⟩
 |_=>exact e.elim
end
structure UJ(h:Heap)(x dx C:Addr)(mA:5e1):Prop where
 obj:h.get? x=some (W.instObj C dx)
 ns:h.Ns1 dx mA
 ne:dx≠x
structure UI(K:W.Frag)(C:Addr):Prop where
 pg:W.plainGet K C Str.empty=true
 hd:W.hasDictIn K C=true
 po:W.plainOver K C=true
 sa:W.findIn K (.ref C) "__setattr__" = some (some (.builtin "object.__setattr__"))
structure UN(K:W.Frag)(C:Addr)(f:Str)(v:V)(u:Value):Prop where
 at_:W.findIn K (.ref C) f=some (some u)
 rel:cm v u
 get:W.specialIn K u "__get__" = some none
 cp:W.copiedNames.contains f=false
structure UK(K:W.Frag)(C:Addr)(m:Str)(f:Addr):Prop where
 at_:W.findIn K (.ref C) m=some (some (.ref f))
 fn:W.isFn K (.ref f)=true
 kp:W.keepIn K (.ref f)=true
section
variable{X:Cx}{c:Value}
inductive pj(K:W.Frag)(H:Hp):V->Value->Prop where
 |non:pj K H .non (.type "NoneType")
 |bl (x:Bool):pj K H (.bl x) (.type "bool")
 |int (i:Int):pj K H (.int i) (.type "int")
 |str (x:Str):pj K H (.str x) (.type "str")
 |flt (x:UInt64):pj K H (.flt x) (.type "float")
 |lst {a:Addr}{xs:List V} (e:H a=some (.lst xs)):pj K H (.ref a) (.type "list")
 |frz {a:Addr}{o:Obj}{xs:List V} (e:H a=some (.frz o (.lst xs))):pj K H (.ref a) (.type "list")
 |tup {a:Addr}{xs:List V} (e:H a=some (.tup xs)):pj K H (.ref a) (.type "tuple")
 |dK {a:Addr}{kvs:List (yb×V)} (e:H a=some (.dK kvs)):pj K H (.ref a) (.type "dict")
 |dT {a:Addr}{kvs:List (List yb×V)} (e:H a=some (.dT kvs)):pj K H (.ref a) (.type "dict")
 |ins {a C dx:Addr}{fs:List (Str×V)} (e:H a=some (.ins C dx fs)) (cl:UI K C) (ha:W.findIn K (.ref C) "__class__" = some (some (.builtin "object.__class__")))
   (hn:W.specialIn K (.builtin "object.__class__") "__get__" = some (some (.builtin "getset_descriptor.__get__"))) (htk:W.takesIn K (.builtin "object.__class__")=some true)
   (hm:W.mroIn K C (.type "object")=some true):pj K H (.ref a) (.ref C)
end
structure ib(k:Nat)(A:Around):Prop where
 hd:A.handled=none
 dp:A.depth+3*k+5<recursionLimit
 un:A.units+16*k+200<cLine
 gd:A.guards=some []
theorem ib.mono{k:Nat}(r:ib k A)(h:j<=k):ib j A:=⟨r.hd,by have:=r.dp;lia,by have:=r.un;lia,r.gd⟩
theorem ib.deeper{k:Nat}(r:ib (k+1) A)(env:Env):ib k (A.deeper env):=
 ⟨r.hd,by have:=r.dp;show A.depth+1+3*k+5<_;lia,by have:=r.un;show A.units+3+16*k+200<_;lia,r.gd⟩
theorem ib.depth{k:Nat}(r:ib k A):A.depth<recursionLimit:=by have:=r.dp;lia
theorem ib.units{k:Nat}(r:ib k A):A.units+64<cLine:=by have:=r.un;lia
def S9:TA:=λ_ H Q=>Q [] H
def Qq(ta:TE)(R:TA):TA:=λσ H Q=>ta σ H λx H1=>R σ H1 λxs H2=>Q (x::xs) H2
section
variable{X:Cx}{es:(List Expr)}{t:TA}
theorem D5:PA X [] S9:=λ_ _ _ _ H Q I h=>Calls.spliced_nil ⟨[],H,I,.nil,h⟩
theorem uF(i:PE X e te)(R:PA X es t)(hs:5e0):PA X (e::es) (Qq te t):=by
 intro pos pins s σ H Q I h;rw[hs];exact Calls.spliced_cons (dt (i pins s σ H _ I h) λu S ⟨x,H1,d,j,q⟩=>(dt (R pos pins S σ H1 _ d q) λU N ⟨xs,H2,n,M,J⟩=>⟨x::xs,H2,n,.cons j M,J⟩))
def SY(t:TA):TE:=λσ H Q=>t σ H λxs H1=>xs.length<=sizeLine/\∀p,H1 p=none->Q (.ref p) (cq H1 p (.tup xs))
def Ta(t:TA):TE:=λσ H Q=>t σ H λxs H1=>xs.length<=sizeLine/\∀p,H1 p=none->Q (.ref p) (cq H1 p (.lst xs))
theorem ML{x1}(h:PA X es t):PE X (.Tuple es x1 pos) (SY t):=by
 intro pins s σ H Q I i;refine wpAny_Tuple_spliced (dt (h pos pins s σ H _ I i) λU S ⟨xs,H1,d,r,z,q⟩=>⟨by rw[<- r.length];exact z,?_⟩);refine⟨.ref S.heap.objs.size,cq H1 S.heap.objs.size (.tup xs),d.laid (λb u e=>Vi _ e) (Vn _) ?_,rfl,q _ (d.hok.fresh (Vn _))⟩;exact⟨z,U,r,⟨_,UR _ rfl,rfl,⟨_,rfl⟩,rfl⟩⟩
theorem MQ(h:PA X es t):PE X (.List es pos) (Ta t):=by
 intro pins s σ H Q I i;refine wpAny_List_spliced (dt (h pos pins s σ H _ I i) λU S ⟨xs,H1,d,r,z,q⟩=>⟨by rw[<- r.length];exact z,?_⟩);refine⟨.ref S.heap.objs.size,cq H1 S.heap.objs.size (.lst xs),d.laid (λb u e=>Vi _ e) (Vn _) ?_,rfl,q _ (d.hok.fresh (Vn _))⟩;exact⟨z,U,0,r,UR _ rfl⟩
end
abbrev Sp:=List V->Hp->VK->XK->Prop
abbrev A1:=List Env->Hp->Shared->XK->Value->Shared->Prop
structure GM(P:Program)(w:World)(K:W.Frag)(mg:5e1)(base:Heap)(A:Around)(outer:List Env)(s:Shared)(H:Hp):Prop where
 frames:A.frames=some outer
 mod:Mod K mg base
 bs:∀b o,base.get? b=some o->s.heap.get? b=some o/\H b=none
 bsz:base.objs.size<=s.heap.objs.size
 funs:s.heap.FunFrames base outer
 frf:∀b∈CW outer,H b=none
 hok:oS P w H 2e7
 bare:AllBare s.gens
def CE(O:List Env)(P:Program)(w:World)(H:Hp)(s:Shared)(Q:VK)(u:Value)(s':Shared):Prop:=
 ∃v H',s'.os=s.os/\AllBare s'.gens/\Un (CW O) [] H H' 2e7 s'.heap/\oS P w H' s'.heap/\cm v u/\Q v H'
def CR(CX:A1)(O:List Env)(P:Program)(w:World)(H:Hp)(s:Shared)(Q:VK)(E:XK)(r:Result)(s':Shared):Prop:=
 match r with
 |.ok (.ret u)=>CE O P w H s Q u s'
 |.ok _=>False
 |.error e=>CX O H s E e s'
structure rK(P:Program)(w:World)(K:W.Frag)(mg:5e1)(base:Heap)(CX:A1)(k:Nat)(f:Addr)(fd:FuncData)(ps:List Str)(sp:Sp):Prop where
 len:∀vs H Q E,sp vs H Q E->vs.length=ps.length
 run:∀(A:Around)(outer:List Env)(s:Shared)(H:Hp)(args:Args)(us:1e5)(vs:List V)(Q:VK)(E:XK),ib k A->GM P w K mg base A outer s H->BindsTo s fd args (ps.zip us)->bb vs us->sp vs H Q E ->
  codeAny (model P w) A (.call (.ref f) args) (CR CX outer P w H s Q E) s
section
variable{X:Cx}{s':Shared}
theorem aS.env0(I:0e6):GM X.prog X.w X.K X.mg X.base X.A X.stack s H:=
 ⟨I.ok.frames,I.ok.mod,I.bs,UX I.ok.bsz I.sz,I.stack,I.stkFree,I.hok,I.bare⟩
theorem aS.after{Q:VK}(I:0e6)(h:CE X.stack X.prog X.w H s Q u s'):EP X pins σ Q u s':=by
 obtain⟨v,H',S,bare,un,L,r,q⟩:=h;obtain⟨i,g,d,t,O⟩:=s';obtain rfl:O=s.os:=S;exact⟨v,H',I.call un L bare (λb z=>absurd z 1e1),r,q⟩
end
def Qr(sp:Sp)(dvs:List V)(E:XK)(t:TA):TE:=λσ H Q=>t σ H λy H1=>sp (y++dvs) H1 Q E
def jc(K:W.Frag)(fd:FuncData)(ps:List Str)(ds:1e5):Prop:=
 ∀(s:Shared)(U:1e5),K.In 2e7->(U++ds).length=ps.length->BindsTo s fd ⟨U,[]⟩ (ps.zip (U++ds))
theorem jc.all{ps:List Str}(h:∀us:List Value,us.length=ps.length->bindArgs fd ⟨us,[]⟩=pure (ps.zip us)):jc K fd ps []:=λs us _ i=>by
 rw[Vu]at i⊢;exact .of_eq (h us i)
def yP(CX:A1)(X:Cx)(E:XK):Prop:=∀(pins:1e9)(σ:St)(H:Hp)(s:Shared)(e:Value)(s':Shared),aS X pins σ H s->CX X.stack H s E e s'->X.xe e s'
section
variable{X:Cx}{CX:A1}{k:Nat}{f C:Addr}{ps:List Str}{sp:Sp}{dvs:List V}{ds:1e5}{E:XK}{m:Str}{p:Pos}{o:Expr}{es:(List Expr)}{ta:TE}{t:TA}
theorem Mi{Q:VK}(F:rK X.prog X.w X.K X.mg X.base CX k f fd ps sp)(R:ib k X.A)(B:jc X.K fd ps ds)(D:bb dvs ds)(d:yP CX X E)(I:0e6)(r:bb vs us)(h:sp (vs++dvs) H Q E):wpAny 0e7 X.A (call (.ref f) us) (EP X pins σ Q) X.xe s:=by
 have M:=r.append D;refine wpAny_call (Vv (F.run X.A X.stack s H ⟨us,[]⟩ (us++ds) (vs++dvs) Q E R I.env0 (B s us I.kIn (by rw[<- M.length];exact F.len _ _ _ _ h)) M h) λr s' z=>?_);cases r with
 |error e=>exact d pins σ H s e s' I z
 |ok L=>
  cases L with
  |ret u=>exact I.after z
  |next=>exact False.elim z
  |brk=>exact False.elim z
  |cont=>exact False.elim z
theorem Iv(F:rK X.prog X.w X.K X.mg X.base CX k f fd ps sp)(R:ib k X.A)(U:Gl X x)(M:X.mg x=some (.ref f))(y:W.keepIn X.K (.ref f)=true)(i:jc X.K fd ps ds)(D:bb dvs ds)(z:yP CX X E)
  (n:PA X (e::es) t) (B:2e5) (j:5e0) (L:(autoParam 4e7 ATr)) :
  PE X (.Call (.Name x p) (e::es) [] pos) (Qr sp dvs E t):=by
 intro pins s σ H Q I h;refine Vw (AA I U M ?_ B);exact W.callWith_K I.ok.mod.kin y (dt (n pos pins s σ H _ I h) λG S ⟨V,H1,d,r,q⟩=>⟨d.kIn,(Mi F R i D z d r q)⟩) j L
structure Mk(K:W.Frag)(C f:Addr):Prop where
 makes:W.makesIn K C=true
 init:W.findIn K (.ref C) "__init__" = some (some (.ref f))
 fn:W.isFn K (.ref f)=true
 kp:W.keepIn K (.ref C)=true
end
section
variable{X:Cx}{CX:A1}{k:Nat}{f C:Addr}{ps ks:List Str}{sp:Sp}{E:XK}{m:Str}{p kpos:Pos}{o:Expr}{es:(List Expr)}{kws:List Keyword}{ta:TE}{t tk:TA}{nm:Option Str}
structure T5(K:W.Frag)(fd:FuncData)(ps ks:List Str)(g:List Value->List Value->List Value)(gV:List V->List V->List V):Prop where
 to:∀(s:Shared)(us ws:1e5),K.In 2e7->(g us ws).length=ps.length->BindsTo s fd ⟨us,ks.zip ws⟩ (ps.zip (g us ws))
 rel:∀{vs:List V}{us:1e5}{zs:List V}{ws:1e5},bb vs us->bb zs ws->bb (gV vs zs) (g us ws)
variable{g:List Value->List Value->List Value}{gV:List V->List V->List V}
end
structure iQ(N P:List Str)(sc:Scope):Prop where
 kind:sc.kind=.function
 co:sc.isCoroutine=false
 gen:sc.isGenerator=false
 nd:N.Nodup
 pre:N.take P.length=P
 par:∀x∈P,sc.names.lookup x=some .local\/sc.names.lookup x=some .cell
 nofree:∀y∈sc.names,y.2≠.free
theorem tG{kindOf:Str->Option NameKind}{x:Str}:∀{binds:List (Str×Value)}{m:5e1},(∀v,(x,v)∉binds)->bindL kindOf binds m x=m x
 |[],_,_=>rfl
 |(n,v)::r,m,h=>by
  unfold bindL;rw[tG λw W=>h w (U1 _ W)];split
  ·have : x ≠ n := by rintro rfl; exact h v U0
   simp[this]
  ·rfl
theorem tI{kindOf:Str->Option NameKind}{x:Str}:∀{binds:List (Str×Value)}{m:5e1},(∀v,(x,v)∉binds)->bindC kindOf binds m x=m x
 |[],_,_=>rfl
 |(n,v)::r,m,h=>by
  unfold bindC;rw[tI λw W=>h w (U1 _ W)];split
  ·rfl
  ·have : x ≠ n := by rintro rfl; exact h v U0
   simp[this]
theorem tH{kindOf:Str->Option NameKind}{x:Str}{v:Value}:∀{P:List Str}{vs:1e5}{i:Nat}{m:5e1},P.Nodup->P[i]?=some x->vs[i]?=some v->kindOf x=some .local ->
  bindL kindOf (P.zip vs) m x=some v
 |[],_,_,_,_,h,_,_=>by simp at h
 |_::_,[],_,_,_,_,h,_=>by simp at h
 |p::P,w::vs,0,m,n,h1,h2,d=>by
  simp at h1 h2;subst h1;subst h2;show bindL kindOf ((p,w)::P.zip vs) m p=_;unfold bindL;rw[tG λv V=>(Vx.mp n).1 (Vy V).1,Vs d];simp
 |p::P,w::vs,i+1,m,n,h1,h2,d=>by
  show bindL kindOf ((p,w)::P.zip vs) m x=_;unfold bindL;exact tH (i:=i) (Vx.mp n).2 (by simpa using h1) (by simpa using h2) d
theorem tJ{kindOf:Str->Option NameKind}{x:Str}{v:Value}:∀{P:List Str}{vs:1e5}{i:Nat}{m:5e1},P.Nodup->P[i]?=some x->vs[i]?=some v->kindOf x≠some .local ->
  bindC kindOf (P.zip vs) m x=some v
 |[],_,_,_,_,h,_,_=>by simp at h
 |_::_,[],_,_,_,_,h,_=>by simp at h
 |p::P,w::vs,0,m,n,h1,h2,d=>by
  simp at h1 h2;subst h1;subst h2;show bindC kindOf ((p,w)::P.zip vs) m p=_;unfold bindC;rw[tI λv V=>(Vx.mp n).1 (Vy V).1,Vt d];simp
 |p::P,w::vs,i+1,m,n,h1,h2,d=>by
  show bindC kindOf ((p,w)::P.zip vs) m x=_;unfold bindC;exact tJ (i:=i) (Vx.mp n).2 (by simpa using h1) (by simpa using h2) d
noncomputable def start(N:List Str)(vs:List V):St:=vs.map some++List.replicate (N.length-vs.length) none
noncomputable def rH(CX:A1)(P:Program)(w:World)(K:W.Frag)(mg:5e1)(base:Heap)(N:List Str)(qual:Str)(scope:Scope)(f:Addr)(d:Value)(A:Around)(O:List Env)(s:Shared)(H:Hp)(E:XK):Cx where
 prog:=P
 w:=w
 K:=K
 mg:=mg
 base:=base
 A:=A.deeper (envOfC qual scope 0e2 f d)
 N:=N
 s₀:=s
 H₀:=H
 env:=envOfC qual scope 0e2 f d
 outer:=O
 stack:=envOfC qual scope 0e2 f d::O
 ex:=[]
 calm:=true
 fn:=λ_=>true
 pn:=[]
 xe:=λe s'=>wpAny (model P w) (A.deeper (envOfC qual scope 0e2 f d)) (leaving (envOfC qual scope 0e2 f d) e) (λ_ s''=>CX O H s E e s'') (λi s''=>CX O H s E i s'') s'
theorem xC(h:sc.names.lookup x=some .cell):∃c,(cellsFrom n sc.names []).lookup x=some c:=by
 have q:=W.cellsFrom_some sc.names n [] (.inl h);exact Vz.mp q
theorem B8{CX:A1}{ps:List Str}{f:Addr}{cd:Value}{outer:List Env}{s1:Shared}{E:XK}(S:iQ N ps scope)(D:(A.handled=none))(d:GM P w K mg base A outer s H)(J:vs.length=ps.length)(r:bb vs us)(x:InCallC s 0e2 (bindL (envOfC qual scope 0e2 f cd).kindOf (ps.zip us) λ_=>none) (cellsFrom 5e6 scope.names []) (bindC (envOfC qual scope 0e2 f cd).kindOf (ps.zip us) λ_=>none) s1):
  aS (rH CX P w K mg base N qual scope f cd A outer s H E) [] (start N vs) H s1:=by
 have L:ps.length<=N.length:=by have:=VA List.length S.pre;rw[VB]at this;lia
 refine bH x.done λh1 tk v12 B=>?_;subst v12;have noA:∀b:Addr,b∉(rH CX P w K mg base N qual scope f cd A outer s H E).ex:=λb z=>absurd (show b∈([]:List Addr) from z) 1e1
 refine⟨⟨d.mod,S.kind,rfl,rfl,Vn _,λy z c h1 h2=>?_,λy μ=>?_,λy c _ h=>?_,λ_=>D,Around.frames_deeper d.frames,.inr ⟨rfl,rfl⟩,λb z=>absurd z (noA b),d.bs,d.bsz,λb _ _=>noA b,λb z=>absurd z (noA b),d.funs,d.frf⟩,
  rfl,d.bare,Un.kept B,⟨_,x.toInCall.ns,λi y v h1 h2 I=>?_⟩,λy c h=>⟨_,x.cell y c h⟩,d.hok.fresh (Vn _),λy c h=>?_,λp j=>absurd (show p∈([]:List (Addr×Obj)) from j) 1e1,d.hok.kept B,?_⟩
 ·exact name_of_addr x.apart (VC h1) (VC h2)
 ·have μ : scope.names.lookup y = some .cell \/ scope.names.lookup y = some .free := μ;rcases μ with μ|μ
  ·exact xC μ
  ·exact absurd rfl (S.nofree _ (VC μ))
 ·exact UY (x.above y c (VC h))
 ·have hi:i<vs.length:=by
   unfold start at h2;by_cases hi:i<vs.length
   ·exact hi
   ·rw[VD (by simpa using hi)]at h2;rw[VE]at h2;split at h2 <;> cases h2
  have G:vs[i]?=some v:=by
   simp_all[start,VF]
  refine bz (r.get G) λu U R=>?_
  have j:ps[i]?=some y:=by
   rw[<- S.pre,VG 0e0];exact h1
  have ndP:ps.Nodup:=by rw[<- S.pre];exact S.nd.sublist (List.take_sublist _ _)
  refine⟨u,R,?_⟩;rcases S.par y (VH j) with k|k
  ·exact .inl ⟨k,tH ndP j U k⟩
  ·obtain⟨c,e⟩:=xC (n:=s.heap.objs.size+1) k;refine .inr ⟨.inl k,c,e,?_⟩;have q:=x.cell y c e;rw[tJ ndP j U (by show scope.names.lookup y≠_;rw[k];decide)]at q;exact q
 ·exact d.hok.fresh (UY (x.above y c (VC h)))
 ·unfold start;show _=N.length
  simp_all
theorem Rp{CX:A1}{k:Nat}{f:Addr}{name:Str}{params:Arguments}{dV kV doc pm cdv ct oc:Value}{an od:Option Addr}{ps:List Str}{sp:Sp}(lk:K.lookup f=some ⟨oc,od,.func (W.fnOf name qual params body scope dV kV doc pm an cdv ct),osl⟩)(D:W.codeIn K cdv qual=true)(S:iQ N ps scope)(len:∀vs H Q E,sp vs H Q E->vs.length=ps.length)(hbody : ∀ (A : Around) (outer : List Env) (s : Shared) (H : Hp) (vs : List V) (Q : VK) (E : XK), ib k (A.deeper (envOfC qual scope 0e2 f cdv)) -> sp vs H Q E ->
   ∃t,nQ (rH CX P w K mg base N qual scope f cdv A outer s H E) body t/\t {nx:=λ_ H'=>Q .non H',rt:=Q} (start N vs) H):
  rK P w K mg base CX (k+1) f (W.fnOf name qual params body scope dV kV doc pm an cdv ct) ps sp:=by
 refine⟨len,λA outer s H args us vs Q E R j M r z=>?_⟩;have μ:=len _ _ _ _ z;have KX:K.In 2e7:=j.mod.kin.keeps λb o e=>(j.bs b o e).1;have lim:s.heap.NoLimit:=j.mod.nolimit.keeps λb o e=>(j.bs b o e).1
 have hkind:∀y∈ps.zip us,scope.names.lookup y.1=some .local\/(scope.names.lookup y.1=some .cell/\((cellsFrom 5e6 scope.names []).lookup y.1).isSome=true):=λ⟨n,v⟩ hy=>by
  rcases S.par n (Vy hy).1 with q|q
  all_goals grind [W.cellsFrom_some]
 refine codeAny_call_function R.depth (KX _ _ lk) rfl S.co S.gen rfl (W.codeRec_of KX D) (M _ _ _ _ ?_);refine wpAny_newFunctionEnv_cells S.kind hkind λenv U G x=>?_;subst U;refine⟨lim.keeps x.toInCall.keep,codeAny_func ?_⟩;refine bz (hbody A outer s H vs Q E (R.deeper _) z) λt O Z=>?_;have I:aS (rH CX P w K mg base N qual scope f cdv A outer s H E) [] (start N vs) H G:=B8 S R.hd j μ r x;refine U9 (O [] G (start N vs) H _ I Z) (λL s' i=>?_) λe s' i=>i
 have F:∀{d:St}{H':Hp}{v:V}{u:Value},aS (rH CX P w K mg base N qual scope f cdv A outer s H E) [] d H' s'->cm v u->Q v H'->CE outer P w H s Q u s':=
  λ{d H' v u} J B q=>⟨v,H',J.os,J.bare,J.base,J.hok,B,q⟩
 cases L with
 |ret u=>
  refine cX i λv d H' J B q=>?_;exact F J B q
 |next=>
  refine bH i λd H' J q=>?_;exact F (v:=V.non) (u:=Value.none) J rfl q
 |brk=>
  refine bH i λ_ _ _ q=>?_;exact False.elim q
 |cont=>
  refine bH i λ_ _ _ q=>?_;exact False.elim q
end L2
variable{CX:L2.A1}{sp:L2.Sp}
namespace L2
open PySem PySem.Spec PyProof.Rows
section
variable{X:Cx}{p:Pos}{es:(List Expr)}{t:TA}{id T:String}{r:(List V->Hp->VK->Prop)}
def Ss(r:(List V->Hp->VK->Prop))(t:TA):TE:=λσ H Q=>t σ H λy H1=>r y H1 Q
theorem w4 (j:cv X (.builtin id) r) (U:Gl X x) (M:X.mg x=none) (V:bootBuiltins x=some (.builtin id)) (n:PA X (e::es) t) (N:(autoParam (x ≠ "__name__") ATs)) (B:2e5)
  (i:5e0) (L:(autoParam 4e7 ATr)):PE X (.Call (.Name x p) (e::es) [] pos) (Ss r t):=by
 intro pins s σ H Q I h;exact Vw (j7 I U M V (PyProof.Rows.callWith_builtin1 (dt (n pos pins s σ H _ I h) λy S ⟨z,H1,d,R,q⟩=>j pins S σ H1 z y Q d R q) i L) N B)
theorem BM (j:cv X (.type T) r) (U:Gl X x) (M:X.mg x=none) (V:bootBuiltins x=some (.type T)) (n:PA X (e::es) t) (N:(autoParam (x ≠ "__name__") ATs)) (B:2e5)
  (i:5e0) (L:(autoParam 4e7 ATr)):PE X (.Call (.Name x p) (e::es) [] pos) (Ss r t):=by
 intro pins s σ H Q I h;exact Vw (j7 I U M V (Vo (dt (n pos pins s σ H _ I h) λy S ⟨z,H1,d,R,q⟩=>j pins S σ H1 z y Q d R q) i L) N B)
end
end L2
namespace HT
open PySem PyProof.Rows
section
theorem cat_tup{t b:Addr}{vs ws:1e5}(J:IsTup 2e7 t vs.toArray)(B:IsTup 2e7 b ws.toArray)(V:vs≠[])(h1:ws=[]->Q (.ref t) s)(h2:ws≠[]->Q (.ref 0e2) {s with heap:=s.heap.push {cls:=.type "tuple",data:=.seq (vs++ws).toArray}})(Z:vs.length+ws.length<=sizeLine):wpAny 0e9 A (binaryOp .Add (.ref t) (.ref b)) Q E s:=by
 obtain⟨I,G,y,n,z⟩:=id J;obtain⟨cls,q,data,L⟩:=I;obtain⟨M,d,i,N,j⟩:=id B;obtain⟨cls2,D,data2,S⟩:=M;simp only at y z i j;subst y z i j;have e:vs.toArray++ws.toArray=(vs++ws).toArray:=by simp
 by_cases W:ws=[]
 ·exact concat_meets ⟨_,G,rfl⟩ ⟨_,d,rfl⟩ VI seq_tuple_add VJ VL (VM _ _)
   (tuple_addW1 t b vs.toArray ws.toArray n N q D L S (by simpa using V) (by simp[W])) ⟨G,d,h1 W⟩
 ·refine concat_meets ⟨_,G,rfl⟩ ⟨_,d,rfl⟩ VI seq_tuple_add VJ VL (VM _ _)
   (tuple_addW2 t b vs.toArray ws.toArray n N q D L S (by simpa using V) (by simpa using W) (by simp_all)) ⟨G,d,?_⟩
  rw[e];exact h2 W
noncomputable def sIx(n d:Nat):Option Int->Nat
 |none=>d
 |some v=>if v<0 then (v+(n:Int)).toNat else min v.toNat n
theorem sIx_nat(n d k:Nat):sIx n d (some (k:Int))=min k n:=by
 rfl
theorem Mh(n d:Nat)(D:d<=n)(o:(Option Int)):sIx n d o<=n:=by
 cases o with
 |none=>exact D
 |some v=>
  show (if v<0 then (v+(n:Int)).toNat else min v.toNat n)<=n;by_cases V:v<0
  ·rw[Vs V];lia
  ·rw[Vt V];exact VN _ _
theorem AO(v:Int)(n d:Nat):(if v<0 then max (v+(n:Int)) 0 else min v (n:Int))=((sIx n d (some v):Nat):Int):=by
 show (if v<0 then max (v+(n:Int)) 0 else min v (n:Int))=(((if v<0 then (v+(n:Int)).toNat else min v.toNat n):Nat):Int);by_cases V:v<0
 ·simp only[Vs V];lia
 ·simp only[Vt V];lia
theorem zD(lo hi:(Option Int))(n:Nat):Builtin.Slice.sliceAdjust lo hi 1 (n:Int)=(((sIx n 0 lo:Nat):Int),((sIx n n hi:Nat):Int)):=by
 have h1:¬ ((1:Int)<0):=by lia
 unfold Builtin.Slice.sliceAdjust;simp only[h1,VO];refine UP ?_ ?_
 ·cases lo with
  |none=>rfl
  |some v=>exact AO v n 0
 ·cases hi with
  |none=>rfl
  |some v=>exact AO v n n
theorem ze(i j:Nat):Builtin.Slice.slicePlaces (i:Int) (j:Int) 1=j-i:=by
 unfold Builtin.Slice.slicePlaces;have h1:(1:Int)>0:=by lia
 simp only[h1,VP,Int.ediv_one];split <;> lia
theorem qA{v:Value}{o:(Option Int)}{Q:Option Int->Shared->Prop}(p:IsPart v o)(h:Q o s):wpAny 0e9 A (Builtin.Slice.slicePartIndex v) Q E s:=by
 cases p with
 |none=>exact slicePart_none h
 |int i t=>exact slicePart_int h
theorem sliceApplied_gen{sl:Addr}{vu:Value}{hi:(Option Int)}{Q:Int×Int×Nat->Shared->Prop}(hs:s.heap.IsSliceOf sl vl vu .none)(L:IsPart vl lo)(U:IsPart vu hi)(h:Q (((sIx n 0 lo:Nat):Int),1,sIx n n hi-sIx n 0 lo) s):wpAny 0e9 A (Builtin.Slice.sliceApplied (.ref sl) (pure (n:Int))) Q E s:=by
 refine bI (id hs) λO d i S=>?_;unfold Builtin.Slice.sliceApplied Builtin.Slice.sliceFields;refine Vd (Vd (VQ d S (x:=vl) rfl (Vd (VQ d S (x:=vu) rfl (Vd (VQ d S (x:=.none) rfl (Vg ?_)))))));refine Vd (slicePart_none ?_);show wpAny _ _ (if ((1:Int) == 0)=true then _ else _) _ _ s;rw[Vt 1e0];refine Vd (qA L (Vd (qA U (Vd (Vg ?_)))));show wpAny _ _ (match Builtin.Slice.sliceAdjust lo hi 1 (n:Int) with|(lo,hi)=>pure (lo,(1:Int),Builtin.Slice.slicePlaces lo hi 1)) _ _ s;rw[zD lo hi n];show wpAny _ _ (pure (((sIx n 0 lo:Nat):Int),(1:Int),Builtin.Slice.slicePlaces ((sIx n 0 lo:Nat):Int) ((sIx n n hi:Nat):Int) 1)) _ _ s;rw[ze];exact Vg h
theorem Fk(xs:5e5)(i k:Nat):((List.range k).filterMap λ(m:Nat)=>xs[((i:Int)+(m:Int)*1).toNat]?).toArray=((xs.toList.drop i).take k).toArray:=by
 have e:(λ(m:Nat)=>xs[((i:Int)+(m:Int)*1).toNat]?)=λm=>xs[i+m]?:=by
  funext m;have:((i:Int)+(m:Int)*1).toNat=i+m:=by lia
  rw[this]
 rw[e];have:=pick_run xs i k;rw[List.filterMap_map]at this;have B:((λx=>xs[x]?) ∘ λx=>i+x)=λm=>xs[i+m]?:=rfl
 lia
theorem getItem_tuple_cut{t sl:Addr}{items:5e5}{vu:Value}{hi:(Option Int)}(J:IsTup 2e7 t items)(hs:s.heap.IsSliceOf sl vl vu .none)(L:IsPart vl lo)(U:IsPart vu hi)(W:¬ (sIx 3e9 0 lo=0/\sIx 3e9 3e9 hi=3e9))(h:Q (.ref 0e2) {s with heap:=s.heap.push {cls:=.type "tuple",data:=.seq ((items.toList.drop (sIx 3e9 0 lo)).take (sIx 3e9 3e9 hi-sIx 3e9 0 lo)).toArray}})(Z:items.size<=sizeLine):wpAny 0e9 A (getItem (.ref t) (.ref sl)) Q E s:=by
 have htake:sizeOk (.seq ((items.toList.drop (sIx 3e9 0 lo)).take (sIx 3e9 3e9 hi-sIx 3e9 0 lo)).toArray):=by
  show ((items.toList.drop (sIx 3e9 0 lo)).take (sIx 3e9 3e9 hi-sIx 3e9 0 lo)).toArray.size<=sizeLine;rw[Vr,VB,List.length_drop,VR]
  lia
 have n:sIx 3e9 3e9 hi<=items.size:=Mh _ _ (Vn _) hi;refine bI (id hs) λj d i S=>?_;have hTs:s.TypeIs (.ref sl) "slice" := ⟨j,d,i⟩;unfold getItem
 try with_reducible refine Ve ?_
 first|refine Vd (Vg ?_)|skip
 refine Vd (wpAny_sequenceKey J.typeIs 1e0 ?_)
 refine Vd (VS (name:=Str.ofString "__getitem__") J.typeIs VT
  (VU VT J.typeIs entry_tuple_getitem ?_ (args_tuple_getitem _ _)))
 show wpAny _ _ (Builtin.Tuple.tupleItemsOf (.ref t) >>= _) _ _ s;refine Vd (tupleItemsOf_ J ?_);refine Vd (VV hTs ?_);rw[Vs 1e0];refine Vd (sliceApplied_gen hs L U ?_)
 have O:¬ ((((sIx 3e9 0 lo:Nat):Int) == 0&&(1:Int) == 1&&(sIx 3e9 3e9 hi-sIx 3e9 0 lo) == items.size)=true):=by
  simp_all
 show wpAny _ _ (if (((sIx 3e9 0 lo:Nat):Int) == 0&&(1:Int) == 1&&(sIx 3e9 3e9 hi-sIx 3e9 0 lo) == items.size)=true then _ else _) _ _ s;rw[Vt O,Fk]
 first
  |exact Vd (m:=Builtin.Tuple.tupleExact _) (Vh (Vg ⟨_,rfl,Vg h⟩) htake)
  |exact Vd (m:=Builtin.Tuple.tupleExact _) (Vh (Vd (Vg (Vg ⟨_,rfl,Vg h⟩))) htake)
  |exact Vd (Vd (m:=Builtin.Tuple.tupleExact _) (Vh (Vg (Vg ⟨_,rfl,Vg h⟩)) htake))
  |exact Vd (Vd (m:=Builtin.Tuple.tupleExact _) (Vh (Vg ⟨_,rfl,Vg h⟩) htake))
end
end HT
namespace L2
open PySem PySem.Spec PyProof.Rows
abbrev TO:=St->Hp->(Option Int->Hp->Prop)->Prop
def PO(X:Cx)(e:Option Expr)(t:TO):Prop:=
 ∀(pins:1e9)(s:Shared)(σ:St)(H:Hp)(Q:Option Int->Hp->Prop),aS X pins σ H s->t σ H Q ->
  wpAny 0e7 X.A (evalPart e 1e7) (λu s'=>∃o H',aS X pins σ H' s'/\IsPart u o/\Q o H') X.xe s
noncomputable def Ql(t:TE):TO:=λσ H Q=>t σ H λx H1=>∃i,x=.int i/\Q (some i) H1
theorem fV:∀{us:1e5},bb (ns.map V.int) us->IntsAre us ns:=by
 induction ns with
 |nil=>intro us r;rw[VW]at r;cases r;exact .nil
 |cons n ns i=>
  intro us r;rw[VX]at r;cases r with
  |cons R M=>
   obtain⟨t,e⟩:=R;subst e;exact .cons n t (i M)
section
variable{X:Cx}{lo hi:Option Expr}{tl th:TO}{p2:Pos}
theorem Ij(h:PE X e te):PO X (some e) (Ql te):=by
 intro pins s σ H Q I W;rw[evalPart_some];refine dt (h pins s σ H _ I W) λu S ⟨x,H1,d,R,j⟩=>?_;obtain⟨i,rfl,q⟩:=j;obtain⟨t,rfl⟩:=R;exact⟨some i,H1,d,.int i t,q⟩
def Gy(X:Cx)(r:(V->Option Int->Option Int->Hp->VK->Prop)):Prop:=
 ∀(pins:1e9)(s:Shared)(σ:St)(H:Hp)(x:V)(v L U:Value)(lo hi:(Option Int))(q:Addr)(Q:VK),aS X pins σ H s->cm x v->s.heap.IsSliceOf q L U .none->IsPart L lo->IsPart U hi->r x lo hi H Q ->
  ∃T id,typeLookup (.type T) "__getitem__" = pure (some (.builtin id))/\s.TypeIs v T/\wpAny 0e7 X.A (getItem v (.ref q)) (EP X pins σ Q) X.xe s
theorem Gy.or{r r':(V->Option Int->Option Int->Hp->VK->Prop)}(h:Gy X r)(h':Gy X r'):Gy X (λx lo hi H Q=>r x lo hi H Q\/r' x lo hi H Q):=by
 intro pins s σ H x v i j lo hi d Q I R S L U q;rcases q with q|q
 ·exact h pins s σ H x v i j lo hi d Q I R S L U q
 ·exact h' pins s σ H x v i j lo hi d Q I R S L U q
def Ux(r:(V->Option Int->Option Int->Hp->VK->Prop))(te:TE)(tl th:TO):TE:=λσ H Q=>te σ H λx H1=>tl σ H1 λl H2=>th σ H2 λu d=>r x l u d Q
theorem Fm{r:(V->Option Int->Option Int->Hp->VK->Prop)}(R:Gy X r)(B:PE X e te)(J:PO X lo tl)(N:PO X hi th):PE X (.Subscript e (.Slice lo hi none p2) pos) (Ux r te tl th):=by
 intro pins s σ H Q I h;refine Subscript_ (dt (B pins s σ H _ I h) λv s1 ⟨x,H1,n,W,Z⟩=>?_);refine wpAny_Slice (dt (J pins s1 σ H1 _ n Z) λL s2 ⟨l,H2,y,S,D⟩=>dt (N pins s2 σ H2 _ y D) λd U ⟨u,j,z,μ,F⟩=>?_);rw[evalPart_none];refine Vg ?_;have O:aS X pins σ j {U with heap:=U.heap.push {cls:=.type "slice",data:=.fields #[L,d,.none]}}:=z.kept (t':=U.toks) λb ob q=>Vi _ q;refine aP (R pins {U with heap:=U.heap.push {cls:=.type "slice",data:=.fields #[L,d,.none]}} σ j x v L d l u U.heap.objs.size Q O W (Heap.IsSliceOf.new ..) S μ F) λT id hT M G=>?_;show wpAny 0e7 X.A (subscriptTail e (.Slice lo hi none p2) v (.ref U.heap.objs.size)) (EP X pins σ Q) X.xe {U with heap:=U.heap.push {cls:=.type "slice",data:=.fields #[L,d,.none]}};exact tail_any (ops:=[.ref U.heap.objs.size,v]) M hT G (by with_unfolding_all rfl)
noncomputable def yn(xs:List V)(lo hi:(Option Int)):List V:=(xs.drop (HT.sIx 4e3 0 lo)).take (HT.sIx 4e3 4e3 hi-HT.sIx 4e3 0 lo)
theorem nZ(xs:List V)(lo hi:(Option Int)):(yn xs lo hi).length<=xs.length:=by
 unfold yn;rw[VB,List.length_drop]
 lia
def O8(K:W.Frag):V->Option Int->Option Int->Hp->VK->Prop:=λx lo hi H Q=>∃a xs,x=.ref a/\ei K H a xs /\
 ¬ (HT.sIx 4e3 0 lo=0/\HT.sIx 4e3 4e3 hi=4e3)/\∀p,H p=none->Q (.ref p) (cq H p (.tup (yn xs lo hi)))
theorem LY:Gy X (O8 X.K):=by
 intro pins s σ H x v V y lo hi j Q I R S L U h;obtain⟨a,xs,rfl,d,W,q⟩:=h;cases R;obtain⟨i,r,J,Z⟩:=I.tuple d;have n:i.toArray.size=xs.length:=by rw[Vr];exact r.length.symm
 refine⟨"tuple",_,VT.lookup,J.typeIs,?_⟩;refine HT.getItem_tuple_cut J S L U (by rw[n];exact W) ?_ (by rw[n];exact Z);rw[n];refine⟨.ref 0e2,_,I.laid (t':=s.toks) (o:=.tup (yn xs lo hi)) (λb O q=>Vi _ q) (Vn _) ?_,rfl,q _ (I.hok.fresh (Vn _))⟩;exact⟨UX (nZ xs lo hi) Z,_,(r.drop (HT.sIx 4e3 0 lo)).take (HT.sIx 4e3 4e3 hi-HT.sIx 4e3 0 lo),kb.new _ _⟩
noncomputable def QK(K:W.Frag):R2:=λx y H Q=>∃a b xs ys,x=.ref a/\y=.ref b/\ei K H a xs/\ei K H b ys/\xs≠[]/\xs.length+ys.length<=sizeLine /\
 (ys=[]->Q (.ref a) H)/\(ys≠[]->∀p,H p=none->Q (.ref p) (cq H p (.tup (xs++ys))))
theorem bb.nil_iff{xs:List V}(r:bb xs us):us=[]↔xs=[]:=by
 cases r with
 |nil=>simp
 |cons _ _=>simp
theorem II:i9 X (binaryOp .Add) (QK X.K):=by
 intro pins s σ H x y v u Q I L μ h;obtain⟨a,b,xs,ys,rfl,rfl,n,B,d,Z,G,J⟩:=h;cases L;cases μ;refine bI (I.tuple n) λi R j _=>?_;refine bI (I.tuple B) λits2 M p2 _=>?_;refine HT.cat_tup j p2 (λz=>d (R.nil_iff.mp z)) (λz=>⟨.ref a,H,I,rfl,G (M.nil_iff.mp z)⟩) (λz=>?_) (by rw[<- R.length,<- M.length];exact Z);refine⟨.ref 0e2,_,I.laid (λb O q=>Vi _ q) (Vn _) ?_,rfl,J (λw=>z (M.nil_iff.mpr w)) _ (I.hok.fresh (Vn _))⟩;exact⟨by simp_all,_,R.append M,kb.new _ _⟩
end
noncomputable def zG(n:Nat)(i:Int):Option Nat:=if 0<=i then (if i<n then some i.toNat else none) else if -(n:Int)<=i then some (i+n).toNat else none
def atI{α:Type}(xs:List α)(i:Int):Option α:=(zG 4e3 i).bind λj=>xs[j]?
theorem uQ{i:Int}(h:zG n i=some j):seqIndex? i n=some j/\j<n/\-(n:Int)<=i/\i<n:=by
 unfold zG at h;by_cases d:0<=i
 ·rw [Vs d] at h;by_cases h1:i<n
  ·rw[Vs h1]at h;exact⟨by rw[seqIndex_of d h1,(UO h)],by lia,by lia,h1⟩
  simp_all
 ·rw [Vt d] at h;by_cases h1:-(n:Int)<=i
  ·rw[Vs h1]at h;exact⟨by rw[seqIndex_neg 0e0 h1,(UO h)],by lia,h1,by lia⟩
  simp_all
theorem u2{α:Type}{xs:List α}{i:Int}{v:α}(h:atI xs i=some v):∃j,seqIndex? i 4e3=some j/\xs[j]?=some v/\j<xs.length/\-(xs.length:Int)<=i/\i<xs.length:=by
 unfold atI at h;cases e:zG 4e3 i with
 |none=>rw[e]at h;cases h
 |some j=>
  rw[e]at h;refine tX (uQ e) λh1 h2 d n=>?_;exact⟨j,h1,h,h2,d,n⟩
theorem iN{α:Type}{xs:List α}{v:α}(h:xs[j]?=some v):atI xs (j:Int)=some v:=by
 have Z:j<xs.length:=(VY.mp h).1
 simp_all[zG,atI]
def oQ(b:Expr):Prop:=∀o i,subscripted b false o i=operate [o,i] (getItem o i)
def Gn(X:Cx)(r:R2):Prop:=
 ∀(value slice:Expr)(pins:1e9)(s:Shared)(σ:St)(H:Hp)(x y:V)(v u:Value)(Q:VK),aS X pins σ H s->cm x v->cm y u->r x y H Q ->
  subscripted slice false v u=operate [v,u] (getItem v u)->wpAny 0e7 X.A (subscriptTail value slice v u) (EP X pins σ Q) X.xe s
def SB(X:Cx)(id:String)(r:(V->List V->Hp->VK->Prop)):Prop:=
 ∀(pins:1e9)(s:Shared)(σ:St)(H:Hp)(x:V)(xs:List V)(v:Value)(U:1e5)(Q:VK),aS X pins σ H s->cm x v->bb xs U->r x xs H Q ->
  wpAny 0e7 X.A (call (.builtin id) (v::U)) (EP X pins σ Q) X.xe s
section
variable{X:Cx}{a b:Expr}{ta tb:TE}
theorem Gn.or{r r':R2}(h:Gn X r)(h':Gn X r'):Gn X (λx y H Q=>r x y H Q\/r' x y H Q):=by
 intro value slice pins s σ H x y v u Q I R μ q S;rcases q with q|q
 ·exact h value slice pins s σ H x y v u Q I R μ q S
 ·exact h' value slice pins s σ H x y v u Q I R μ q S
theorem Kt{r:R2}(R:Gn X r)(d:PE X a ta)(B:PE X b tb)(hs:oQ b):PE X (.Subscript a b pos) (RW r ta tb):=by
 intro pins s σ H Q I h;exact Subscript_ (K4 d B I h λv u N x y H2 n i μ q=>R a b pins N σ H2 x y v u Q n i μ q (hs _ _))
noncomputable def Pf(K:W.Frag):R2:=λx y H Q=>∃p xs i v,x=.ref p/\y=.int i/\dN K H p xs/\atI xs i=some v/\Q v H
noncomputable def Pd(K:W.Frag):R2:=λx y H Q=>∃p xs i v,x=.ref p/\y=.int i/\ei K H p xs/\atI xs i=some v/\Q v H
noncomputable def Pe:R2:=λx y H Q=>∃z i c,x=.str z/\y=.int i/\z.length<=sizeLine/\atI z.cps.toList i=some c/\Q (.str ⟨#[c]⟩) H
theorem Jl:Gn X (Pf X.K):=by
 intro value slice pins s σ H x y v u Q I N μ h B;obtain⟨p,xs,i,z,rfl,rfl,M,J,q⟩:=h;cases N;obtain⟨t,rfl⟩:=μ;refine bI (I.list M) λS r L F=>?_;obtain⟨j,h1,h2,U,D,G⟩:=u2 J;refine bz (r.get h2) λw W R=>?_;have O:=r.length;have V:=pJ;have n:EP X pins σ Q w s:=⟨z,H,I,R,q⟩;by_cases d:0<=i
 ·have Z:i.toNat=j:=by
   rw[seqIndex_of d G]at h1;exact UO h1
  exact item_listR L.isList d 0e0 (by rw[Z];simpa using W) n B
 ·have Z:(i+(S.toArray.size:Int)).toNat=j:=by
   grind [seqIndex_neg]
  exact VZ L.isList.typeIs slot_list_getitem.lookup
   (wpAny_getItem_list_neg L.isList 0e0 (by simp_all) 0e0 (by rw[Z];simpa using W) ⟨rfl,n⟩) B
theorem NQ:Gn X (Pd X.K):=by
 intro value slice pins s σ H x y v u Q I G μ h S;obtain⟨p,xs,i,z,rfl,rfl,d,n,q⟩:=h;cases G;obtain⟨t,rfl⟩:=μ;refine bI (I.tuple d) λB r L D=>?_;obtain⟨j,h1,h2,J,M,N⟩:=u2 n;refine bz (r.get h2) λw W R=>?_;have U:=r.length;have Z:=pJ
 exact VZ L.typeIs slot_tuple_getitem.lookup
  (getItem_tuple (j:=j) L 0e0 0e0 (by simp_all) (by simpa using W) ⟨rfl,⟨z,H,I,R,q⟩⟩) S
theorem NR:Gn X Pe:=by
 intro value slice pins s σ H x y v u Q I R μ h S;obtain⟨z,i,c,v11,v12,Z,B,q⟩:=h;subst v11;subst v12;obtain⟨t,rfl⟩:=R;obtain⟨J,rfl⟩:=μ;obtain⟨j,h1,h2,G,d,n⟩:=u2 B;rw[(show z.cps.toList.length=z.length by simp[Str.length])]at h1 d n;have N:=pJ
 exact tail_any (typeIs_str s z t) slot_str_getitem.lookup (getItem_str (by
  lia) (by rw[h1];simpa using h2) ⟨.str ⟨#[c]⟩,H,I.tok _,⟨_,rfl⟩,q⟩) S
noncomputable def Ua(K:W.Frag):R2:=λx y H Q=>Pf K x y H Q\/Pd K x y H Q\/Pe x y H Q
theorem NS:Gn X (Ua X.K):=Jl.or (NQ.or NR)
theorem zk (its:1e5) (n j:Nat) (u:Value):Obj.mapSeq (·.setIfInBounds j u) {cls:=.type "list",data:=.seq its.toArray n}={cls:=.type "list",data:=.seq (its.set j u).toArray n}:=by
 simp[Obj.mapSeq]
theorem aS.lst{p:Addr}{xs:List V}(I:0e6)(h:H p=some (.lst xs)):
  ∃(its:1e5) (n:Nat),bb xs its/\s.heap.get? p=some {cls:=.type "list",data:=.seq its.toArray n}/\xs.length<=sizeLine:=by
 obtain⟨z,its,n,r,e⟩:=I.hok p _ h;exact⟨its,n,r,e,z⟩
theorem aS.lstUpd{p:Addr}{xs ys:List V}{its':1e5}{n':Nat}{f:Obj->Obj}(I:0e6)(h:H p=some (.lst xs))(G:s.heap.get? p=some {cls:=.type "list",data:=.seq its.toArray n})(F:f {cls:=.type "list",data:=.seq its.toArray n}={cls:=.type "list",data:=.seq its'.toArray n'})(r:bb ys its')(hz:ys.length<=sizeLine)(t:Nat):
  aS X pins σ (cq H p (.lst ys)) {s with heap:=s.heap.update p f,toks:=t}:=by
 have e:(s.heap.update p f).get? p=some {cls:=.type "list",data:=.seq its'.toArray n'}:=by
  rw[V0 f G (by rw[F] <;> rfl),F]
 refine I.write (by rw[h];trivial) (.inl rfl) (λb u B q=>(V1 _ _ (U3 B)).trans q) ⟨_,e⟩ ?_;exact⟨hz,its',n',r,e⟩
def Kk:V->V->V->Hp->(Hp->Prop)->Prop:=λo i v H Q=>∃p xs k j,o=.ref p/\i=.int k/\H p=some (.lst xs)/\zG 4e3 k=some j/\Q (cq H p (.lst (xs.set j v)))
theorem EX:Pt X Kk:=by
 intro pins s σ H o i v μ U u Q I O R V h;obtain⟨p,xs,k,j,rfl,rfl,y,Z,q⟩:=h;cases O;obtain⟨t,rfl⟩:=R;refine aP (I.lst y) λS n r G z=>?_;refine tX (uQ Z) λh1 h2 J L=>?_;have M:=r.length;have N:=pJ
 have B:aS X pins σ (cq H p (.lst (xs.set j v))) {s with heap:=s.heap.update p (Obj.mapSeq (·.setIfInBounds j u))}:=
  I.lstUpd y G (zk S n j u) (r.set V j) (by rw[V2];exact z) s.toks
 grind [seqIndex_of,W.ki_setAt,seqIndex_neg,W.ki_setBack]
theorem vk(lo hi:(Option Int))(n:Nat):(sliceBounds lo hi none n).1=((HT.sIx n 0 lo:Nat):Int)/\(sliceBounds lo hi none n).2.1=((HT.sIx n n hi:Nat):Int)/\(sliceBounds lo hi none n).2.2=1:=by
 refine⟨?_,?_,rfl⟩
 ·cases lo with
  |none=>rfl
  |some i=>
   simp[sliceBounds,HT.sIx,Option.getD_none,show (1:Int)>0 by decide,VP];by_cases h:i<0
   ·simp only[h,VP] <;> lia
   ·simp[h,VO] <;> lia
 ·cases hi with
  |none=>rfl
  |some i=>
   simp[sliceBounds,HT.sIx,Option.getD_none,show (1:Int)>0 by decide,VP];by_cases h:i<0
   ·simp only[h,VP] <;> lia
   ·simp[h,VO] <;> lia
theorem rW(its:1e5)(lo hi:(Option Int)):slicePick its.toArray lo hi none=((its.drop (HT.sIx its.length 0 lo)).take (HT.sIx its.length its.length hi-HT.sIx its.length 0 lo)).toArray:=by
 refine jr (vk lo hi its.toArray.size) λh1 h2 d=>?_;unfold slicePick;rw[h1,h2,d];simp only[sliceRange_one,pick_run] <;> rfl
def O9(K:W.Frag):V->Option Int->Option Int->Hp->VK->Prop:=λx lo hi H Q=>∃a xs,x=.ref a/\dN K H a xs/\∀p,H p=none->Q (.ref p) (cq H p (.lst (yn xs lo hi)))
theorem HD:Gy X (O9 X.K):=by
 intro pins s σ H x v V y lo hi j Q I R S L U h;refine aP h λa xs v15 d q=>?_;subst v15;cases R;refine bI (I.list d) λi r J Z=>?_;have n:=r.length;refine⟨"list",_,slot_list_getitem.lookup,J.isList.typeIs,?_⟩;refine wpAny_getItem_list_slice J.isList S L U .none 1e1 ?_ (by simp_all);rw[rW,<- n];refine⟨.ref 0e2,_,I.laid (λb O q=>Vi _ q) (Vn _) ?_,rfl,q _ (I.hok.fresh (Vn _))⟩;exact⟨UX (nZ xs lo hi) Z,_,0,(r.drop (HT.sIx 4e3 0 lo)).take (HT.sIx 4e3 4e3 hi-HT.sIx 4e3 0 lo),UR _ rfl⟩
theorem cv.or{f:Value}{r r':(List V->Hp->VK->Prop)}(h:cv X f r)(h':cv X f r'):cv X f (λxs H Q=>r xs H Q\/r' xs H Q):=by
 intro pins s σ H xs U Q I R q;rcases q with q|q
 ·exact h pins s σ H xs U Q I R q
 ·exact h' pins s σ H xs U Q I R q
theorem vq:cv X (.type "list") (λxs H Q=>∃p ys,xs=[.ref p]/\(dN X.K H p ys\/ei X.K H p ys)/\∀l,H l=none->Q (.ref l) (cq H l (.lst ys))):=by
 intro pins s σ H xs U Q I r h;refine aP h λp ys V z q=>?_;subst V;obtain⟨u,rfl,J⟩:=e9 r;cases J
 have N:∀(i:1e5),bb ys i->ys.length<=sizeLine->∀(h':Heap)(F:Nat),(∀b o',s.heap.get? b=some o'->h'.get? b=some o') ->
   h'.get? 0e2=some {cls:=.type "list",dict:=none,data:=.seq i.toArray F,slots:=#[]}->EP X pins σ Q (.ref 0e2) {s with heap:=h'}:=λi R Z h' F j e=>
  ⟨.ref 0e2,_,I.laid j (Vn _) (show iH X.prog X.w _ h' _ (.lst ys) from⟨Z,i,F,R,e⟩),rfl,q _ (I.hok.fresh (Vn _))⟩
 rcases z with z|z
 ·obtain⟨i,R,L,Z⟩:=I.list z;have d:=R.length;obtain⟨o,G,y,n,D⟩:=L.isList;exact call_list_seq p (.inl rfl) G y D (λh' F j e=>N i R Z h' F j e) (by simp_all)
 ·obtain⟨i,R,L,Z⟩:=I.tuple z;have d:=R.length;obtain⟨o,G,y,n,D⟩:=L;exact call_list_seq p (.inr rfl) G y D (λh' F j e=>N i R Z h' F j e) (by simp_all)
theorem rZ:cv X (.type "tuple") (λxs H Q=>∃p ys,xs=[.ref p]/\((dN X.K H p ys/\∀l,H l=none->Q (.ref l) (cq H l (.tup ys)))\/(ei X.K H p ys/\Q (.ref p) H))):=by
 intro pins s σ H xs U Q I r h;obtain⟨p,ys,rfl,h⟩:=h;obtain⟨u,rfl,G⟩:=e9 r;cases G;rcases h with⟨z,q⟩|⟨z,q⟩
 ·refine bI (I.list z) λi R L Z => ?_;have n:=R.length;refine call_tuple_list L.isList (λh' B=>?_) (by simp_all);have j:aS X pins σ H {s with heap:=h'}:=I.kept B
  have y:aS X pins σ (cq H h'.objs.size (.tup ys)) {s with heap:=h'.push {cls:=.type "tuple",data:=.seq i.toArray}}:=
   j.laid (λb o e=>Vi _ e) (Vn _) ⟨Z,i,R,kb.new _ _⟩
  exact⟨.ref h'.objs.size,_,y,rfl,q _ (j.hok.fresh (Vn _))⟩
 ·refine bI (I.tuple z) λi R L Z=>?_;exact call_tuple_same L ⟨.ref p,H,I,rfl,q⟩
def RU(K:W.Frag)(T:String)(x:V)(H:Hp):Prop:=match x with
 |.str _=>T = "str"
 |.int _=>T = "int"
 |.ref p=>(T = "list" /\ ∃xs,dN K H p xs)\/(T = "tuple" /\ ∃xs,ei K H p xs) \/
   (T = "dict" /\ ((∃d,H p=some (.dK d))\/∃d,H p=some (.dT d)))\/(T = "set" /\ ∃S n,H p=some (.set S n))
 |_=>False
theorem DJ{T:String}{x:V}{v:Value}(I:0e6)(r:cm x v)(ty:RU X.K T x H):
  s.TypeIs v T/\∀a,v=.ref a->∃ob,s.heap.get? a=some ob/\ob.dict=none:=by
 cases x with
 |str z=>
  obtain⟨t,rfl⟩:=r;cases ty;simp[typeIs_str]
 |int i=>
  obtain⟨t,rfl⟩:=r;cases ty;simp[typeIs_int]
 |ref p=>
  cases r;rcases ty with⟨rfl,xs,G⟩|⟨rfl,xs,G⟩|⟨rfl,j⟩|⟨rfl,S,n,j⟩
  ·refine bI (I.list G) λq _ L _=>?_;refine⟨L.isList.typeIs,λa e=>?_⟩;cases e;refine aF L λo n e c D _=>?_;exact⟨o,e,D⟩
  ·obtain⟨o,M,y,D⟩:∃o,s.heap.get? p=some o/\o.cls=.type "tuple" /\ o.dict=none:=by
    rcases G with h|⟨o,q,n,j,y,D,_⟩
    ·obtain⟨_,q,_,o,e,c,_,d⟩:=h.ok I.hok;exact⟨o,e,c,d⟩
    ·exact⟨o,I.kIn p o j,y,D⟩
   refine⟨⟨o,M,y⟩,λa e=>?_⟩
   grind
  ·have z:∃o,s.heap.get? p=some o/\o.ExactDict:=by
    rcases j with⟨J,j⟩|⟨J,j⟩
    ·obtain⟨_,_,_,_,o,_,_,e,ex,_⟩:=I.hok p _ j;exact⟨o,e,ex⟩
    ·obtain⟨_,_,_,_,o,_,_,e,ex,_⟩:=I.hok p _ j;exact⟨o,e,ex⟩
   refine bz z λo e ex=>?_;refine⟨⟨o,e,ex.1⟩,λa B=>?_⟩;cases B;exact⟨o,e,ex.2.1⟩
  ·obtain⟨o,_,_,_,e,ex,_⟩:=I.hok p _ j;refine⟨⟨o,e,ex.1⟩,λa B=>?_⟩;cases B;exact⟨o,e,ex.2.1⟩
 |_=>exact False.elim ty
def Td(K:W.Frag)(T:String)(r:(V->List V->Hp->VK->Prop))(to:TE):TE:=λσ H Q=>to σ H λx H1=>RU K T x H1/\r x [] H1 Q
def UB(K:W.Frag)(T:String)(r:(V->List V->Hp->VK->Prop))(to:TE)(t:TA):TE:=λσ H Q=>to σ H λx H1=>RU K T x H1/\t σ H1 λxs H2=>r x xs H2 Q
variable{o:Expr}{es:(List Expr)}{to:TE}{t:TA}{name:Str}{cpos:Pos}{T id:String}{r:(V->List V->Hp->VK->Prop)}
theorem MU (i:PlainAttrs T) (slot:Slot T name id) (y:(typeOf (.builtin id)=pure (.type "method_descriptor"))) (M:SB X id r) (G:PE X o to)
  (hbase:autoParam (attributeBase o name 1e7 (eval o 1e7)=eval o 1e7) ATr) (hline:autoParam ((apos.endLine == cpos.line)=true) ATr):PE X (.Call (.Attribute o name apos) [] [] cpos) (Td X.K T r to):=by
 intro pins s σ H Q I h;refine wpAny_Call_method0_late hbase hline (dt (G pins s σ H _ I h) λv S ⟨x,H1,d,R,ty,q⟩=>?_);obtain⟨h1,h2⟩:=DJ d R ty;exact⟨T,id,i,slot,y,h1,h2,V3 rfl (PySem.evalArgs_none (M pins S σ H1 x [] v [] Q d R .nil q))⟩
theorem Ku (j:PlainAttrs T) (slot:Slot T name id) (y:(typeOf (.builtin id)=pure (.type "method_descriptor"))) (M:SB X id r) (G:PE X o to) (i:PA X (e::es) t)
  (hbase:autoParam (attributeBase o name 1e7 (eval o 1e7)=eval o 1e7) ATr)
  (W :autoParam (((backTo cpos (starEach (e :: es) 1e7)).all (λx => !x.1) && (backToKw cpos (keywordEach [] 1e7)).all (λx => x.1.isSome)
   && decide ((e::es).length+([]:List Keyword).length+(if ([]:List Keyword).isEmpty then 0 else 1)<30))=true) ATr)
  (hline:autoParam ((apos.endLine == cpos.line)=true) ATr) (hs:5e0) (hplain:autoParam ((backTo cpos (starEach es 1e7)).any 3e2=false) ATr) :
  PE X (.Call (.Attribute o name apos) (e::es) [] cpos) (UB X.K T r to t):=by
 intro pins s σ H Q I h;refine wpAny_Call_method_late hbase W hline rfl (dt (G pins s σ H _ I h) λv S ⟨x,H1,d,R,ty,q⟩=>?_);obtain⟨h1,h2⟩:=DJ d R ty;refine⟨T,id,j,slot,y,h1,h2,?_⟩;have hA:=i cpos pins S σ H1 _ d q;rw[hs]at hA⊢;exact V3 (by grind) (Calls.evalArgs_plain (dt hA λU N ⟨V,H2,n,z,J⟩=>M pins N σ H2 x V v U Q n R z J))
end
def KO(X:Cx)(id:String)(r:(V->List V->Hp->VK->Prop)):Prop:=
 ∀(pins:1e9)(s:Shared)(σ:St)(H:Hp)(x:V)(xs:List V)(v:Value)(U:1e5)(Q:VK),aS X pins σ H s->cm x v->bb xs U->r x xs H Q ->
  wpAny 0e7 X.A (call (.builtin id) (v::U)) (EP X pins σ Q) X.xe s
theorem bb.one:∀{x:V}{us:1e5},bb [x] us->∃u,us=[u]/\cm x u
 |_,_,.cons r .nil=>⟨_,rfl,r⟩
theorem bb.eraseIdx:∀{xs:List V}{us:1e5}(i:Nat),bb xs us->bb (xs.eraseIdx i) (us.eraseIdx i)
 |_,_,_,.nil=>.nil
 |_,_,0,.cons _ t=>t
 |_,_,i+1,.cons r t=>.cons r (bb.eraseIdx i t)
theorem bb.rep{xs:List V}{us:1e5}(h:bb xs us):∀k:Nat,bb (List.replicate k xs).flatten (List.replicate k us).flatten
 |0=>.nil
 |k+1=>by
  exact bb.append h (bb.rep h k)
theorem sR{α:Type}:∀(l:List α)(i:Nat),(l.eraseIdx i).length<=l.length
 |[],_=>Vn _
 |_::_,0=>V4 _
 |_::r,i+1=>Nat.succ_le_succ (sR r i)
theorem Cd(its:1e5):∀(k:Nat)(acc:1e5),
  List.foldl (λx1 x2=>x1++x2) acc.toArray (List.replicate k its.toArray)=(acc++(List.replicate k its).flatten).toArray:=by
 intro x;induction x <;> grind
section
variable{X:Cx}{l b:Addr}{xs ys zs:List V}
theorem aS.lset{its':1e5}{f:Array Value->Array Value}(I:0e6)(hH:H l=some (.lst xs))(e:s.heap.get? l=some {cls:=.type "list",data:=.seq its.toArray n})(F:f its.toArray=its'.toArray)(V:bb ys its')(hz:ys.length<=sizeLine):
  aS X pins σ (cq H l (.lst ys)) {s with heap:=s.heap.update l (Obj.mapSeq f),toks:=t'}:=by
 have q:=PySem.IsL.update e f;rw[F]at q;refine I.write (by rw[hH];exact trivial) (.inl rfl) (λd u B U=>(V1 2e7 (Obj.mapSeq f) (U3 B)).trans U) ⟨_,q⟩ ?_;exact⟨hz,its',_,V,q⟩
theorem aS.lnew(I:0e6)(V:bb ys its)(hz:ys.length<=sizeLine):
  aS X pins σ (cq H 0e2 (.lst ys)) {s with heap:=s.heap.push {cls:=.type "list",data:=.seq its.toArray},toks:=t'}:=
 I.laid (λ_ _ q=>Vi _ q) (Vn _) ⟨hz,its,0,V,UR _ rfl⟩
theorem aS.fresh(I:0e6):H 0e2=none:=I.hok.fresh (Vn _)
theorem aS.lstM (I:0e6) (hH:H l=some (.lst xs)):xs.length<=sizeLine/\∃(its:1e5) (n:Nat),bb xs its/\xs.length=its.length/\s.heap.get? l=some {cls:=.type "list",data:=.seq its.toArray n}:=by
 obtain⟨z,its,n,r,e⟩:=I.hok l _ hH;exact⟨z,its,n,r,r.length,e⟩
theorem qf(h:n<=sizeLine):Builtin.List.listTooLong n=false:=by
 simp_all[Builtin.List.listTooLong]
end
section
variable{X:Cx}
def Ap:V->List V->Hp->VK->Prop:=λx S H Q=>∃l xs y,x=.ref l/\S=[y]/\H l=some (.lst xs)/\xs.length<sizeLine/\Q .non (cq H l (.lst (xs++[y])))
theorem sP:KO X "list.append" Ap:=by
 intro pins s σ H x S v U Q I d V h;obtain⟨l,xs,y,v17,v18,hH,Z,q⟩:=h;subst v17;subst v18;cases d;obtain⟨u,rfl,R⟩:=V.one;obtain⟨z,i,n,r,L,e⟩:=I.lstM hH;refine V5 F.slot_list_append ⟨_,e,rfl⟩ F.entry_list_append (F.args_list_append_2 _ _) (PySem.list_append l i.toArray n u (by rw[Vr];lia)) ⟨e,?_⟩;refine⟨.non,_,I.lset hH e 1e1 (r.append (.cons R .nil)) ?_,rfl,q⟩;rw[V6,V7]
 lia
def Ao:V->List V->Hp->VK->Prop:=λx y H Q=>∃l b xs zs,x=.ref l/\y=[.ref b]/\H l=some (.lst xs)/\H b=some (.lst zs)/\xs.length+zs.length<=sizeLine/\Q .non (cq H l (.lst (xs++zs)))
theorem B2:KO X "list.extend" Ao:=by
 intro pins s σ H x S v U Q I j V h;obtain⟨l,b,xs,zs,rfl,rfl,hH,hB,y,q⟩:=h;cases j;obtain⟨u,rfl,R⟩:=V.one;cases R;obtain⟨z,i,n,r,L,e⟩:=I.lstM hH;obtain⟨G,its2,N,M,d,B⟩:=I.lstM hB;have Z:i.toArray.size+its2.toArray.size<=sizeLine:=by rw[Vr,Vr];lia
 have hlong:¬ (!i.toArray.isEmpty&&Builtin.List.listTooLong (i.toArray.size+its2.toArray.size))=true:=by
  rw[qf Z,V8];exact V9
 refine V5 F.slot_list_extend ⟨_,e,rfl⟩ F.entry_list_extend (F.args_list_extend_2 _ _)
  (AutoSeq1.list_extend_list_list_0 l i.toArray n b its2.toArray N hlong (by rw[Vr];lia) 0e0) ⟨e,B,?_⟩
 refine⟨.non,_,I.lset hH e 1e1 (r.append M) ?_,rfl,q⟩
 simp_all
def D0:V->List V->Hp->VK->Prop:=λx S H Q=>∃l xs i k y,x=.ref l/\S=[.int i]/\H l=some (.lst xs)/\-(2^63)<=i/\i<2^63/\seqIndex? i 4e3=some k/\xs[k]?=some y/\Q y (cq H l (.lst (xs.eraseIdx k)))
theorem FD:KO X "list.pop" D0:=by
 intro pins s σ H x G v B Q I j V h;obtain⟨l,xs,i,k,y,rfl,rfl,hH,h1,h2,d,μ,q⟩:=h;cases j;obtain⟨u,rfl,U⟩:=V.one;obtain⟨t,rfl⟩:=U;obtain⟨z,S,n,r,L,e⟩:=I.lstM hH;refine bz (r.get μ) λw W R=>?_
 refine V5 F.slot_list_pop ⟨_,e,rfl⟩ F.entry_list_pop (F.args_list_pop_2 _ _)
  (MeetsSeq.list_pop_at l S.toArray n i t k w (fitsIndex_both h1 h2) (by rw[Vr,<- L];exact d) (by rw[<- Wa];exact W) (by rw[Vr];lia)) ⟨e,?_⟩
 refine⟨y,_,I.lset hH e ?_ (r.eraseIdx k) ?_,R,q⟩
 ·show S.toArray.eraseIdxIfInBounds k=(S.eraseIdx k).toArray;rw[List.eraseIdxIfInBounds_toArray]
 ·have := sR xs k
  lia
noncomputable def Pi:R2:=λx y H Q=>∃l b xs zs,x=.ref l/\y=.ref b/\H l=some (.lst xs)/\H b=some (.lst zs)/\xs.length+zs.length<=sizeLine/\∀p,H p=none->Q (.ref p) (cq H p (.lst (xs++zs)))
theorem Nh:i9 X (binaryOp .Add) Pi:=by
 intro pins s σ H x y v u Q I R μ h;obtain⟨l,b,xs,zs,rfl,rfl,hH,hB,Z,q⟩:=h;cases R;cases μ;obtain⟨z,i,n,r,L,e⟩:=I.lstM hH;obtain⟨G,its2,N,M,d,B⟩:=I.lstM hB;refine PySem.P.add_list e B ?_ (by simp_all);rw[(show i.toArray++its2.toArray=(i++its2).toArray by simp)];exact⟨.ref _,_,I.lnew (r.append M) (by simp_all),rfl,q _ I.fresh⟩
noncomputable def Pc:R2:=λx y H Q=>∃l k xs,x=.ref l/\y=.int k/\H l=some (.lst xs)/\-(2^63)<=k/\k<2^63/\xs.length*k.toNat<=sizeLine /\
 ∀p,H p=none->Q (.ref p) (cq H p (.lst (List.replicate k.toNat xs).flatten))
theorem M6:i9 X (binaryOp .Mult) Pc:=by
 intro pins s σ H x y v u Q I R μ h;obtain⟨l,k,xs,rfl,rfl,hH,h1,h2,Z,q⟩:=h;cases R;obtain⟨t,rfl⟩:=μ;obtain⟨z,i,n,r,L,e⟩:=I.lstM hH
 have d:¬ i.toArray.size*k.toNat>(2^63-1) / 8:=by
  grind [sizeLine]
 have j:¬ (!Builtin.List.listFitsIndex k)=true:=by
  simp_all[fitsIndex_both]
 have hlong:¬ Builtin.List.listTooLong (i.toArray.size*k.toNat)=true:=by
  simp_all[qf]
 have W:List.foldl (λB G=>B++G) #[] (List.replicate (if i.toArray.isEmpty=true then 0 else k.toNat) i.toArray)=(List.replicate k.toNat i).flatten.toArray:=by
  have J:∀m:Nat,List.foldl (λB G=>B++G) #[] (List.replicate m i.toArray)=(List.replicate m i).flatten.toArray:=λm=>by
   simp[Cd]
  rw[J];cases i with
  |nil=>simp
  |cons a M=>rw[Vt 1e1]
 refine wpAny_binaryOp_repeat_ref 1e0 ⟨_,e,rfl⟩ (λs'=>typeIs_int s' k t) noFill_list_mul F.fills_int_mul F.slot_int_rmul repeat_list F.slot_int_index.lookup
  (V5 F.slot_int_rmul (typeIs_int s k t) F.entry_int_rmul (F.args_int_rmul_2 _ _) (int___rmul___int_list k t l i.toArray n)
   ⟨e,rfl,⟨_,e,rfl⟩,V5 F.slot_list_mul ⟨_,e,rfl⟩ F.entry_list_mul (F.args_list_mul_2 _ _) (AutoListH.list___mul___list_int_3 l i.toArray n k t j d hlong) ⟨e,?_⟩⟩)
 rw[W];exact⟨.ref _,_,I.lnew (r.rep k.toNat) (by simp_all[Nat.mul_comm]),rfl,q _ I.fresh⟩
end
end L2
namespace Att
open PySem PySem.W PySem.Calls PyProof.Rows
theorem oB{P:Params}:∀(ns:List Int)(vs:1e5),WellAll P h vs (ns.map WData.int)->IntsAre vs ns:=by
 intro ns
 induction ns with
 |nil=>
  intro vs w;cases w;exact .nil
 |cons n ns i=>
  intro vs w;cases w with
  |cons a b=>
   cases a;exact .cons _ _ (i _ b)
theorem BB{l:OpenLaw}(z:l.most=some n){P:Params}{args:List WData}{vals:1e5}(i:l.row.toRowW.claim.pre args=true)(q:WellAll P h vals args):
  ∃a vs ns,vals=[Value.ref a]/\args=[WData.list (ns.map WData.int)]/\h.get? a=some {cls:=.type "list",data:=.seq vs.toArray}/\IntsAre vs ns/\ns.length<=n:=by
 refine aP (hasAllW_cons ((pre_splitW i).1)) λd r v15 h1 h2=>?_;subst v15;obtain rfl:=hasAllW_nil h2;obtain⟨xs,rfl,y⟩:=hasW_list h1;obtain⟨ns,rfl⟩:=items_int y
 have N:ns.length<=n:=by
  have j:(WTm.not (.lt (.lit (.int (n:Int))) (.len (.arg 0)))).holds [] {args:=[.list (ns.map .int)]}=true:=by
   have j:=(holds_andW ((pre_splitW i).2)).1;rw[z]at j;exact j
  have B:=condW_of j (w_not (w_lt w_lit (w_len_list (w_arg rfl))))
  simp_all
 cases q with
 |cons R W=>
  cases W;cases R with
  |list G L=>exact⟨_,_,ns,rfl,rfl,G,oB ns _ L,N⟩
theorem BJ(l:OpenLaw)(args:List WData):l.row.toRowW.claim.post args (.bool true) args=true:=
 postW_of
  (by rfl)
  (w_eq_bool (w_res rfl) w_lit) rfl
theorem attach_call{l:OpenLaw}{q:Program}{d:DefRec}(S:l.most=some n)(F:d.params.defaults=[])(call : ∀ (w : World) (s₀ s₁ : Shared) (mg mb : Str -> Option Value) (fa : Addr) (o : Obj) (pm cd doc : Value) (a : Addr) (vs : (List Value)) (ns : List Int),
   Ground q loose [] XP w s₀ mg mb s₁.heap->YP w s₁.heap ->
   s₁.heap.get? fa=some o->o.data=.func (docDef d.name d.params d.body d.scope pm cd doc)->s₁.heap.CodeRec cd d.name->mg d.name=some (.ref fa) ->
   s₁.heap.get? a=some {cls:=.type "list",data:=.seq vs.toArray}->IntsAre vs ns->ns.length<=n->s₁.gens=#[] ->
   codeAny (model l.prog w) callerA (.call (.ref fa) ⟨[.ref a],[]⟩) (λr s'=>r=.ok (.ret (.bool true))/\OldK s₁.heap s'.heap/\s'.os=s₁.os/\AllBare s'.gens) s₁):
  WalkO q loose XP YP l.row.toRowW d [] (λf vs=>PySem.call f vs):=by
 intro w s₀ s₁ mg mb G μ fa o pm cd doc dV kV Z J D hD y U args vals as i z R L O;obtain rfl:dV=.none:=Dflts.none hD F;obtain rfl:kV=.none:=Dflts.noKw hD;obtain⟨a,vs,ns,W,v8,j,hints,N⟩:=BB S i L;subst W;subst v8;refine enter_call (Vv (call w s₀ s₁ mg mb fa o pm cd doc a vs ns G μ Z (fd_plain J) D y j hints N U) λr s' V=>?_);refine tX V λv9 h2 B I=>?_;subst v9;exact⟨.inl ⟨.bool true,.bool true,[],rfl,λ_=>rfl,.bool true,BJ l _,λ_=>⟨List.Pairwise.nil,λ_ M=>(nomatch M)⟩⟩,h2,B,I⟩
end Att
namespace L2
open PySem PySem.Spec PyProof.Rows
theorem sv:∀{vs:1e5}{ns:List Int},IntsAre vs ns->bb (ns.map V.int) vs
 |_,_,.nil=>.nil
 |_,_,.cons n t h=>.cons ⟨t,rfl⟩ (sv h)
def GL(H:Hp):Prop:=∀b,H b=none\/∃o xs,H b=some (.frz o (.lst xs))
theorem FG{mb:5e1}{k:Nat}{fa:Addr}{s₁:Shared}{vs:1e5}(KX:K.In s₁.heap)(S:s₁.heap.Ns mainGlobals mg)(B:s₁.heap.Ns builtinsNs mb)(G:∀x:Str,x ≠ "__name__" -> mb x=bootBuiltins x)(M:s₁.heap.NoLimit)(U:s₁.gens=#[])(y:s₁.heap.get? a=some {cls:=.type "list",data:=.seq vs.toArray})(hi:IntsAre vs ns)(μ:ns.length<=sizeLine)(D:ib k callerA)(F:∀base:Heap,K.In base->base.Ns mainGlobals mg->rK P w K mg base CX k fa fd [x] sp)(hbind:∀(s:Shared)(u:Value),BindsTo s fd ⟨[u],[]⟩ [(x,u)])(J:∀H:Hp,GL H->dN K H a (ns.map V.int)->sp [.ref a] H (λv _=>v=.bl true) λ_ _ _=>False)(hCX:∀H e s',CX [] H s₁ (λ_ _ _=>False) e s'->False):
  codeAny (model P w) callerA (.call (.ref fa) ⟨[.ref a],[]⟩) (λr s'=>r=.ok (.ret (.bool true))/\OldK s₁.heap s'.heap/\s'.os=s₁.os/\AllBare s'.gens) s₁:=by
 have R:=sv hi;have lenV:=hi.length
 have core:∀H:Hp,GL H->dN K H a (ns.map V.int)->oS P w H s₁.heap->(∀b,H b≠none->b=a)->(H a≠none->K.lookup a=none) ->
   codeAny (model P w) callerA (.call (.ref fa) ⟨[.ref a],[]⟩) (λr s'=>r=.ok (.ret (.bool true))/\OldK s₁.heap s'.heap/\s'.os=s₁.os/\AllBare s'.gens) s₁:=by
  intro H hO hS L hA hK;have base_of:∀{b:Addr}{o:Obj},s₁.heap.get? b=some o->H b=none->(yk s₁.heap H).get? b=some o:=λe n=>FP e n
  have noA:∀{b:Addr}{o:Obj}{es:Array DictEntry}{j:Nat},s₁.heap.get? b=some o->o.data=.dict es j->H b=none:=λ{b o es j} e d=>by
   grind
  have nsK:∀{b:Addr}{m:5e1},s₁.heap.Ns b m->(yk s₁.heap H).Ns b m:=λ{b m} ⟨o,es,j,e,d,r⟩=>⟨o,es,j,base_of e (noA e d),d,r⟩
  have hKb:K.In (yk s₁.heap H):=λb o e=>base_of (KX b o e) (by
   grind)
  refine Vv ((F _ hKb (nsK S)).run callerA [] s₁ H ⟨[.ref a],[]⟩ [.ref a] [.ref a] _ _ D ⟨rfl,⟨hKb,nsK S,⟨mb,nsK B,G⟩,let ⟨mc,h1,h2⟩:=M;⟨mc,nsK h1,h2⟩⟩,λb o e=>IU e,Nat.le_of_eq (Ca _ _),trivial,λb B=>absurd (show b∈([]:List Addr) from B) 1e1,L,.of_eq U⟩ (hbind s₁ (.ref a)) (.cons rfl .nil) (J H hO hS)) λr s' h=>?_;cases r with
  |error e=>exact(hCX H e s' h).elim
  |ok N=>
   cases N with
   |next=>exact False.elim h
   |brk=>exact False.elim h
   |cont=>exact False.elim h
   |ret u=>
    obtain⟨v,H',os,bare,un,i,r',q⟩:=h;subst q;obtain rfl:u=Value.bool true:=r';refine⟨rfl,OldK.of_keep λb o e=>?_,os,bare⟩;cases q:H b with
    |none=>exact un.keep b o e q (by intro z;exact absurd (show b∈([]:List Addr) from z) 1e1) 1e1
    |some u=>
     rcases hO b with z|⟨O,xs,z⟩
     ·rw[q]at z;cases z
     ·have z2 := un.frzs b O _ z;obtain⟨e1,_⟩:=L b _ z;obtain⟨e2,_⟩:=i b _ z2
      lia
 cases I:K.lookup a with
 |some o=>
  have e:=KX a o I;rw[y]at e;cases e;refine core (λ_=>none) (λ_=>.inl rfl) (.inr ⟨_,vs.toArray,_,I,rfl,rfl,rfl,by simp_all,by simpa using R⟩) (λb u z=>by lia) (λb z=>absurd rfl z) λz=>absurd rfl z
 |none=>
  refine core (λb=>if b=a then some (.frz {cls:=.type "list",data:=.seq vs.toArray} (.lst (ns.map V.int))) else none) (λb=>?_) (.inl (.inr ⟨{cls:=.type "list",data:=.seq vs.toArray},Vs rfl⟩)) (λb u z=>?_) (λb z=>?_) λ_=>I
  ·by_cases B : b = a
   ·exact .inr ⟨_,_,Vs B⟩
   ·exact .inl (Vt B)
  ·by_cases B : b = a
   ·have Z:=(Vs B).symm.trans z;cases Z;subst B;exact⟨y,by rw[Wb];exact μ,vs,_,R,y⟩
   ·have Z:=(Vt B).symm.trans z;cases Z
  lia
theorem walk_of{l:W.OpenLaw}{k:Nat}{q:Program}{d:DefRec}{K:Params->W.Frag}{CX:World->A1}{sp:World->Sp}(J:l.most=some n)(z:n<=sizeLine)(i:d.params.defaults=[])(R:ib k callerA)(hY:∀(w:World)(h:Heap),YP w h->(K w.params).In h)(F : ∀ (w : World) (mg : Str -> Option Value) (fa : Addr) (h : Heap), (K w.params).In h -> h.Ns mainGlobals mg -> mg d.name = some (.ref fa) ->
   ∃fd:FuncData,(∀(s:Shared)(u:Value),BindsTo s fd ⟨[u],[]⟩ [(x,u)]) /\
    ∀base:Heap,(K w.params).In base->base.Ns mainGlobals mg->rK l.prog w (K w.params) mg base (CX w) k fa fd [x] (sp w))(B:∀(w:World)(H:Hp)(a:Addr)(ns:List Int),ns.length<=n->GL H->dN (K w.params) H a (ns.map V.int)->sp w [.ref a] H (λv _=>v=.bl true) λ_ _ _=>False)(hCX:∀(w:World)(H:Hp)(s:Shared)(e:Value)(s':Shared),CX w [] H s (λ_ _ _=>False) e s'->False):
  W.WalkO q loose XP YP l.row.toRowW d [] (λf vs=>PySem.call f vs):=by
 refine Att.attach_call J i λw s₀ s₁ mg S fa o Z L doc a vs ns G μ O M D y j hints N U=>?_;have KX:=hY w _ μ;refine bz (F w mg fa _ KX G.T.g y) λfd I hF=>?_;exact FG KX G.T.g G.T.b G.T.builtins G.T.nolimit U j hints (UX N z) R hF I (λH hO hS=>B w H a ns N hO hS) λH e s'=>hCX w H s₁ e s'
noncomputable abbrev A2:A1:=λ_ _ _ _ _ _=>False
noncomputable abbrev E0:XK:=λ_ _ _=>False
theorem QT{X:Cx}:yP A2 X E0:=λ_ _ _ _ _ _ _ h=>h.elim
structure tW(K:W.Frag)(x qual:Str)(st:Stmt)(f:Addr)(fd:FuncData):Prop where
 ex:∃(oc:Value)(od:Option Addr)(kV doc pm:Value)(an:Option Addr)(cdv ct:Value)(osl:Array (Option Value)),
  fd=W.fnOf x qual (d4 st) (cH st) (aY st) .none kV doc pm an cdv ct/\K.lookup f=some ⟨oc,od,.func fd,osl⟩/\W.codeIn K cdv qual=true
 kp:W.keepIn K (.ref f)=true
section
theorem tW.ok{f:Addr}{ps:List Str}{k:Nat}(F:(tW K x qual st f fd))(S:iQ N ps (aY st))(len:∀vs H Q E,sp vs H Q E->vs.length=ps.length)(hbody : ∀ (cdv : Value) (A : Around) (outer : List Env) (s : Shared) (H : Hp) (vs : List V) (Q : VK) (E : XK), ib k (A.deeper (envOfC qual (aY st) 0e2 f cdv)) -> sp vs H Q E ->
   ∃t,nQ (rH A2 P w K mg base N qual (aY st) f cdv A outer s H E).nox (cH st) t/\t {nx:=λ_ H'=>Q .non H',rt:=Q} (start N vs) H):rK P w K mg base A2 (k+1) f fd ps sp:=by
 obtain⟨O,i,kV,doc,Z,n,cdv,d,osl,rfl,L,D⟩:=F.ex;refine Rp L D S len λA outer s H vs Q E R z=>?_;refine bz (hbody cdv A outer s H vs Q E R z) λt h q=>?_;exact⟨t,h.nox,q⟩
theorem tW.binds{f:Addr}{ps:List Str}(F:(tW K x qual st f fd))(h:∀(kV doc pm:Value)(an:Option Addr)(cdv ct:Value)(us:1e5),us.length=ps.length->bindArgs 2e0 ⟨us,[]⟩=pure (ps.zip us)):jc K fd ps []:=by
 obtain⟨O,d,kV,doc,pm,an,cdv,ct,osl,rfl,L,D⟩:=F.ex;exact .all (h kV doc pm an cdv ct)
theorem N8{f:Addr}{oc:Value}{od an:Option Addr}{kV doc pm cdv ct:Value}(l:K.lookup f=some ⟨oc,od,.func 2e0,osl⟩)(c:W.codeIn K cdv qual=true)(k:W.keepIn K (.ref f)=true):tW K x qual st f 2e0:=⟨⟨oc,od,kV,doc,pm,an,cdv,ct,osl,rfl,l,c⟩,k⟩
end
theorem eE{x:Str}:∀{names:(List (Str×NameKind))}{k:NameKind},names.lookup x=some k->(x,k)∈names
 |[],_,h=>by simp at h
 |(n,j)::r,k,h=>by
  rw[Wc]at h;cases d:x == n with
  |true=>
   rw[d]at h;cases h;rw[(eq_of_beq d)];exact U0
  |false=>rw[d]at h;exact U1 _ (eE h)
theorem kx{env:Env}{x:Str}:∀{names:(List (Str×NameKind))},
  (names.map λ(n, k) => if (k == NameKind.free && env.scope.kind == .function && env.kindOf n == some .cell) then (n, NameKind.cell) else (n, k)).lookup x =
   (names.lookup x).map λk=>if (k == NameKind.free&&env.scope.kind == .function&&env.kindOf x == some .cell) then NameKind.cell else k
 |[]=>rfl
 |(n,k)::r=>by
  have i:=kx (env:=env) (x:=x) (names:=r);show List.lookup x ((if (k == NameKind.free&&env.scope.kind == .function&&env.kindOf n == some .cell)=true then (n,NameKind.cell) else (n,k))::_)=_;cases d:x == n with
  |true=>
   have e:=eq_of_beq d;subst e;by_cases j:(k == NameKind.free&&env.scope.kind == .function&&env.kindOf x == some .cell)=true
   ·rw[Vs j,Wc,Wc,d];show some NameKind.cell=some (if _ then _ else _);rw[Vs j]
   ·rw[Vt j,Wc,Wc,d];show some k=some (if _ then _ else _);rw[Vt j]
  |false=>
   by_cases j:(k == NameKind.free&&env.scope.kind == .function&&env.kindOf n == some .cell)=true
   ·rw[Vs j,Wc,Wc,d];exact i
   ·rw[Vt j,Wc,Wc,d];exact i
theorem lQ{env:Env}{f:Str×NameKind->List (Str×Addr)->Sem (ForInStep (List (Str×Addr)))}
  (b:∀n c acc,env.cells.lookup n=some c->f (n,.free) acc=pure (.yield ((n,c)::acc))) (g:∀n k acc,k≠.free->f (n,k) acc=pure (.yield acc)) :
  ∀(names:(List (Str×NameKind)))(acc:List (Str×Addr)),(∀y∈names,y.2=.free->∃c,env.cells.lookup y.1=some c)->(∀x c,acc.lookup x=some c->env.cells.lookup x=some c) ->
   ∃cl,forIn names acc f=(pure cl:Sem (List (Str×Addr)))/\(∀x c,cl.lookup x=some c->env.cells.lookup x=some c)/\(∀x,(acc.lookup x).isSome=true->(cl.lookup x).isSome=true)/\(∀y∈names,y.2=.free->(cl.lookup y.1).isSome=true)
 |[],acc,_,a=>⟨acc,rfl,a,λ_ h=>h,λy μ=>by simp at μ⟩
 |(n,k)::r,acc,i,a=>by
  by_cases K:k=.free
  ·subst K;obtain⟨c,j⟩:=i (n,.free) U0 rfl
   obtain⟨cl,e,B,N,E⟩:=lQ b g r ((n,c)::acc) (λy μ=>i y (U1 _ μ)) (λx d h=>by
    rw[Wc]at h;cases H:x == n with
    |true=>rw[H]at h;cases h;rw[eq_of_beq H];exact j
    |false=>rw[H]at h;exact a x d h)
   refine⟨cl,?_,B,λx h=>N x ?_,λy μ F=>?_⟩
   ·rw[List.forIn_cons,b n c acc j];exact e
   ·rw[Wc];cases H:x == n <;> simp[h]
   ·rcases U2.mp μ with z | z
    ·subst z;exact N n 1e1
    ·exact E y z F
  ·refine lb (lQ b g r acc (λy μ => i y (U1 _ μ)) a) λcl e B N E => ?_;refine⟨cl,?_,B,N,λy μ F=>?_⟩
   ·rw[List.forIn_cons,g n k acc K];exact e
   ·rcases U2.mp μ with z | z
    ·subst z;exact absurd F K
    ·exact E y z F
theorem x5{n:Str}{c:Addr}(h:env.cells.lookup n=some c):cellOf env n=pure c:=by
 unfold cellOf;rw[h]
noncomputable def zT(env:Env)(x:Str×NameKind)(r:List (Str×Addr)):Sem (ForInStep (List (Str×Addr))):=
 match x with|(name,kind)=>if kind == .free then do let c <- cellOf env name;pure (.yield ((name,c)::r)) else pure (.yield r)
theorem zx(H:∀y∈scope.names,y.2=.free->∃c,env.cells.lookup y.1=some c):
  ∃cl,closureFor scope env=pure cl/\(∀x c,cl.lookup x=some c->env.cells.lookup x=some c)/\(∀y∈scope.names,y.2=.free->(cl.lookup y.1).isSome=true):=by
 obtain⟨cl,d,B,_,E⟩:=lQ (f:=zT env)
  (λn c a h=>by simp_all[zT,x5])
  (λn k a h => by
   simp_all[zT]) scope.names [] H (λx c h=>by simp at h)
 refine⟨cl,?_,B,E⟩;show (forIn scope.names [] (zT env) >>= λs=>pure s)=pure cl;rw[d];rfl
noncomputable def e7(X:Cx)(Nc:List Str)(scope:Scope)(c:List (Str×Addr))(C:Addr)(s:Shared)(H:Hp)(F:3e4):Cx where
 prog:=X.prog
 w:=X.w
 K:=X.K
 mg:=X.mg
 base:=X.base
 A:=X.A
 N:=Nc
 s₀:=s
 H₀:=H
 env:=compEnvC scope (cellsFrom (C+1) scope.names c) C 1e7
 outer:=X.stack
 stack:=X.stack
 ex:=F
 fn:=λx=>scope.names.lookup x == some .cell
 calm:=X.calm
 pn:=[]
 xe:=λ_ _=>False
noncomputable def pG(cap:2e6)(σ:St):St:=cap.map λo=>o.bind λj=>(σ[j]?).join
noncomputable def gN(N:List Str)(env:Env)(scope:Scope):List Str->List (Option Nat)->Bool
 |[],[]=>true
 |_::Nc,none::cap=>gN N env scope Nc cap
 |x::Nc,some j::cap=>(N[j]? == some x)&&(scope.names.lookup x == some .free)&&gN N env scope Nc cap
 |_,_=>false
theorem nJ{N:List Str}{env:Env}{scope:Scope}:∀{Nc:List Str}{cap:2e6},gN N env scope Nc cap=true->cap.length=Nc.length
 |[],[],_=>rfl
 |[],_::_,h=>by simp[gN]at h
 |_::_,[],h=>by simp[gN]at h
 |_::Nc,none::cap,h=>by rw[Wd,Wd,nJ (cap:=cap) h]
 |x::Nc,some j::cap,h=>by
  rw[Wd,Wd,nJ (by unfold gN at h;simp at h;exact h.2)]
theorem qp{N:List Str}{env:Env}{scope:Scope}:∀{Nc:List Str}{cap:2e6}{i j:Nat}{x:Str},gN N env scope Nc cap=true->cap[i]?=some (some j)->Nc[i]?=some x->N[j]?=some x/\scope.names.lookup x=some .free
 |[],_,_,_,_,_,_,e=>by simp at e
 |_::_,[],_,_,_,h,_,_=>by simp[gN]at h
 |y::Nc,none::cap,0,j,x,h,e,_=>by simp at e
 |y::Nc,some k::cap,0,j,x,h,e,B=>by
  simp at e B;subst e;subst B;unfold gN at h;lia
 |y::Nc,none::cap,i+1,j,x,h,e,B=>qp (cap:=cap) h (by simpa using e) (by simpa using B)
 |y::Nc,some k::cap,i+1,j,x,h,e,B=>by
  exact qp (by unfold gN at h;simp at h;exact h.2) (by simpa using e) (by simpa using B)
structure bT(N:List Str)(env:Env)(scope:Scope)(Nc:List Str)(cap:2e6):Prop where
 kind:scope.kind=.function
 nd:∀y∈scope.names,scope.names.lookup y.1=some y.2
 free:∀y∈scope.names,y.2=.free->env.kindOf y.1=some .cell\/env.kindOf y.1=some .free
 cap:gN N env scope Nc cap=true
theorem kT{n0:Nat}{x:Str}{c:Addr}:∀{names:(List (Str×NameKind))}{cl:List (Str×Addr)}{n:Nat},n0<=n->((x,NameKind.cell)∈names\/∃c',cl.lookup x=some c'/\n0<=c')->(cellsFrom n names cl).lookup x=some c->n0<=c
 |[],cl,n,_,h,e=>by
  rcases h with z|⟨c',Z,G⟩
  ·simp at z
  ·have E:cl.lookup x=some c:=e;rw[Z]at E;cases E;exact G
 |(y,k)::r,cl,n,N,h,e=>by
  unfold cellsFrom at e;split at e
  ·rename_i H;refine kT 0e0 ?_ e;cases d:x == y with
   |true=>exact .inr ⟨n,by rw[Wc,d],N⟩
   |false=>
    rcases h with z|⟨c',Z,G⟩
    ·rcases U2.mp z with q | q
     ·have:x=y:=VA Prod.fst q;rw[this]at d;simp at d
     ·exact .inl q
    ·exact .inr ⟨c',by rw[Wc,d];exact Z,G⟩
  ·rename_i H;refine kT N ?_ e;rcases h with z|z
   ·rcases U2.mp z with q | q
    ·have:k=.cell:=(VA Prod.snd q).symm;exact absurd (by rw[this];rfl) H
    ·exact .inl q
   ·exact .inr z
theorem jl{x:Str}:∀{names:(List (Str×NameKind))}{cl:List (Str×Addr)}{n:Nat},(x,NameKind.cell)∉names->(cellsFrom n names cl).lookup x=cl.lookup x
 |[],cl,n,_=>rfl
 |(y,k)::r,cl,n,h=>by
  unfold cellsFrom;have R:(x,NameKind.cell)∉r:=λz=>h (U1 _ z);split
  ·rename_i d;rw[jl R,Wc];cases H:x == y with
   |true=>exact absurd (by rw[eq_of_beq H,(eq_of_beq d:k=.cell)];exact U0) h
   |false=>rfl
  ·exact jl R
theorem nI{n0:Nat}:∀{names:(List (Str×NameKind))}{cl:List (Str×Addr)}{n:Nat},n0<=n->(∀x y c,cl.lookup x=some c->cl.lookup y=some c->n0<=c->x=y)->(∀x c,cl.lookup x=some c->c<n) ->
  ∀x y c,(cellsFrom n names cl).lookup x=some c->(cellsFrom n names cl).lookup y=some c->n0<=c->x=y
 |[],cl,n,_,h,_=>h
 |(z,k)::r,cl,n,N,h,b=>by
  unfold cellsFrom;split
  ·refine nI 0e0 (λx y c d B j => ?_) (λx c e => ?_)
   ·rw [Wc] at d B;cases H:x == z with
    |true=>
     cases μ:y == z with
     |true=>rw[eq_of_beq H,eq_of_beq μ]
     |false=>
      rw[H]at d;rw[μ]at B;cases d;exact absurd (b y _ B) (UU _)
    |false=>
     cases μ:y == z with
     |true=>
      rw[H]at d;rw[μ]at B;cases B;exact absurd (b x _ d) (UU _)
     |false=>rw[H]at d;rw[μ]at B;exact h x y c d B j
   ·rw [Wc] at e;cases H:x == z with
    |true=>rw[H]at e;cases e;exact We _
    |false=>rw[H]at e;exact Wf (b x c e)
  ·exact nI N h b
theorem kl{x:Str}{c:Addr}:∀{names:(List (Str×NameKind))}{cl:List (Str×Addr)}{h:Heap},(cellsFrom h.objs.size names cl).lookup x=some c->cl.lookup x=some c\/(pushCells h names).IsCell c none
 |[],cl,h,e=>.inl e
 |(y,k)::r,cl,h,e=>by
  unfold cellsFrom at e;unfold pushCells;split at e
  ·rename_i d;rw[Vs d];have E:(cellsFrom (h.push {cls:=.type "cell",data:=.cell none}).objs.size r ((y,h.objs.size)::cl)).lookup x=some c:=by rw[Wg];exact e
   rcases kl E with q|q
   ·rw [Wc] at q;cases H:x == y with
    |true=>
     rw[H]at q;cases q;exact .inr ⟨_,Wh _ _ _ _ (UR _ rfl),rfl⟩
    |false=>rw[H]at q;exact .inl q
   ·exact .inr q
  ·rename_i d;rw[Vt d];exact kl e
theorem B9{X:Cx}{cap:2e6}(I:0e6)(F:∀b∈fp,lE X pins H b)(w:∀b∈fp,b<s.heap.objs.size)(S:4e9)(h:∀x c,cl.lookup x=some c->X.env.cells.lookup x=some c)(L:∀y∈scope.names,y.2=.free->(cl.lookup y.1).isSome=true)(hn:h'.Ns 0e2 (λ_=>none))(K:∀b o,s.heap.get? b=some o->h'.get? b=some o)(Q:∀x c,(cellsFrom 5e6 scope.names cl).lookup x=some c->cl.lookup x=some c\/h'.IsCell c none):
  aS (e7 X Nc scope cl 0e2 s H fp) [] (pG cap σ) H {s with heap:=h',toks:=t'}:=by
 have G:∀x,(e7 X Nc scope cl 0e2 s H fp).env.kindOf x=(scope.names.lookup x).map λk=>if (k == NameKind.free&&X.env.scope.kind == .function&&X.env.kindOf x == some .cell) then NameKind.cell else k:=λx=>kx
 have T:∀x,((e7 X Nc scope cl 0e2 s H fp).env.kindOf x=some .cell\/(e7 X Nc scope cl 0e2 s H fp).env.kindOf x=some .free)->scope.names.lookup x=some .free\/scope.names.lookup x=some .cell:=λx t=>by
  rw[G]at t;cases e:scope.names.lookup x with
  |none=>simp_all
  |some k=>
   grind
 have n:∀x,scope.names.lookup x=some .free->∃c,cl.lookup x=some c:=λx e=>Vz.mp (L (x,.free) (eE e) rfl)
 have f:∀x c,cl.lookup x=some c->c<s.heap.objs.size:=λx c e=>by
  obtain⟨v,q⟩:=I.cell x c (h x c e);exact q.lt
 have hcell:∀x c,(cellsFrom 5e6 scope.names cl).lookup x=some c->(cl.lookup x=some c/\c<s.heap.objs.size)\/(s.heap.objs.size+1<=c/\h'.IsCell c none):=λx c e=>by
  by_cases d:(x,NameKind.cell)∈scope.names
  ·have Z := kT (Vn _) (.inl d) e;rcases Q x c e with z|z
   ·have:=f x c z;exact absurd (UT (Wf this) Z) (UU _)
   ·exact .inr ⟨Z,z⟩
  ·rw[jl d]at e;exact .inl ⟨e,f x c e⟩
 have J:∀x y c,(cellsFrom 5e6 scope.names cl).lookup x=some c->(cellsFrom 5e6 scope.names cl).lookup y=some c->x=y:=λx y c E B=>by
  rcases hcell x c E with⟨a,A⟩|⟨a,A⟩
  ·rcases hcell y c B with ⟨b1, b2⟩ | ⟨b1, b2⟩
   ·exact I.ok.inj x y c (h x c a) (h y c b1)
   lia
  ·exact nI (Vn _) (λx y c q _ C=>absurd (UT (Wf (f x c q)) C) (UU _)) (λx c q=>Wf (f x c q)) x y c E B a
 refine⟨⟨I.ok.mod,S.kind,I.ok.glob,I.ok.blt,Vn _,λx y c E B=>J x y c E B,λx t=>?_,λx c e B=>?_,I.ok.hd,I.ok.frames,.inl rfl,
  λb g=>⟨UV (w b g),λx c e=>?_⟩,I.bs,UX I.ok.bsz I.sz,λb o e g=>?_,λb g z=>?_,I.stack,I.stkFree⟩,
  rfl,I.bare,Un.kept K,⟨_,hn,λi x v E B e3=>?_⟩,λx c e=>?_,I.hok.fresh (Vn _),λx c e=>?_,λp hp=>absurd (show p∈([]:List (Addr×Obj)) from hp) 1e1,I.hok.kept K,?_⟩
 ·rcases T x t with q | q
  ·by_cases d : (x, NameKind.cell) ∈ scope.names
   ·rcases Vz.mp (W.cellsFrom_some scope.names (0e2 + 1) cl (.inl (S.nd (x, .cell) d))) with ⟨c, e⟩
    exact⟨c,e⟩
   ·obtain⟨c,e⟩:=n x q;exact⟨c,(jl d).trans e⟩
  ·obtain⟨c,e⟩:=Vz.mp (W.cellsFrom_some scope.names 5e6 cl (.inl q));exact⟨c,e⟩
 ·have d:=eE (eq_of_beq e);exact Nat.le_of_succ_le (kT (Vn _) (.inl d) B)
 ·rcases hcell x c e with ⟨a, A⟩ | ⟨a, A⟩
  ·exact(F b g).2.2.2.2.1 x c (h x c a)
  ·exact λz=>absurd (UT (Wf (w b g)) (by rw[<- z];exact a)) (UU _)
 ·rcases (F b g).2.2.2.1 with z | z
  ·exact I.ok.noex b o e z
  ·exact absurd (UT (UT (US e) I.ok.bsz) z) (UU _)
 ·rcases U2.mp (I.stkSub b z) with q | q
  ·exact(F b g).2.1 q
  ·exact(F b g).2.2.1 q
 ·have M:∃j,cap[i]?=some (some j)/\σ[j]?=some (some v):=by
   unfold pG at B;rw[Wi]at B;cases C:cap[i]? with
   |none=>rw[C]at B;cases B
   |some o=>
    rw[C]at B;cases o with
    |none=>cases B
    |some j=>
     grind
  obtain⟨j,V,hv⟩:=M;obtain⟨hN,t⟩:=qp S.cap V E;have U:=S.free (x,.free) (eE t) rfl;refine bz I.loc λm d R=>?_;refine bz (R j x v hN hv (U.elim (λz=>.inr (.inl z)) (λz=>.inr (.inr z)))) λu r l=>?_;refine⟨u,r,.inr ⟨?_,?_⟩⟩
  ·rw [G, t];show some (if _ then _ else _)=_\/some (if _ then _ else _)=_;by_cases C:(NameKind.free == NameKind.free&&X.env.scope.kind == .function&&X.env.kindOf x == some .cell)=true
   ·rw[Vs C];exact .inl rfl
   ·rw[Vt C];exact .inr rfl
  ·obtain ⟨c, μ⟩ := n x t
   have d:(x,NameKind.cell)∉scope.names:=λz=>by
    have:=S.nd (x,.cell) z
    lia
   refine⟨c,(jl d).trans μ,?_⟩;rcases l with⟨k,_⟩|⟨k,c',P,z⟩
   ·lia
   ·have q:=h x c μ;rw[P]at q;cases q;refine bz z λo O D=>?_;exact⟨o,K _ o O,D⟩
 ·rcases hcell x c e with ⟨a, A⟩ | ⟨a, A⟩
  ·refine bH (I.cell x c (h x c a)) λv o O D=>?_;exact⟨v,o,K _ o O,D⟩
  ·exact⟨none,A⟩
 ·rcases hcell x c e with ⟨a, A⟩ | ⟨a, A⟩
  ·exact I.freeC x c (h x c a)
  ·exact I.hok.fresh (Nat.le_of_succ_le a)
 ·show (cap.map _).length=Nc.length;rw[Wb,nJ S.cap]
abbrev tV:Value->Shared->Prop:=λ_ _=>False
noncomputable def uo(i:(List Expr))(env:Env):Sem Bool:=forIn i true λc r=>if r=true then do let ok <- isTrue c env (eval c env);pure (ForInStep.yield ok) else pure (ForInStep.yield r)
def vC(X:Cx)(i:(List Expr))(t:TT):Prop:=
 ∀(p:1e9)(s:Shared)(a:St)(H:Hp)(Q:Bool->Hp->Prop),aS X p a H s->t a H Q->wpAny 0e7 X.A (uo i 1e7) (TP X p a Q) X.xe s
noncomputable def Qj:TT:=λ_ H Q=>Q true H
theorem H8{X:Cx}:vC X [] Qj:=λ_ _ _ H _ I h=>Vg ⟨H,I,h⟩
theorem H7{X:Cx}{c:Expr}{t:TT}(h:PT X c t):vC X [c] t:=λp s a H Q I q=>wpAny_tests_one (h p s a H Q I q)
noncomputable def Og(e:Expr)(acc:Value)(env:Env):Sem Unit:=match e with
 |.ListComp elt _ _ _=>do let _ <- call (.builtin "list.append") [acc,<- eval elt env]
 |.SetComp elt _ _ _=>do let v <- eval elt env;standAt elt.pos;let _ <- call (.builtin "set.add") [acc,v]
 |_=>unsupported "internal:not-a-comprehension"
noncomputable def lL:Expr->Bool
 |.ListComp ..=>true
 |.SetComp ..=>true
 |_=>false
def l8(M:Model)(A:Around)(e:Expr)(k:Nat)(acc:Value)(env:Env)(C:Shared->Prop)(E:3e3)(s:Shared):Prop:=match (clausesOf e)[k]? with
 |some g=>wpAny M A (eval g.iter env) (λx S=>wpAny M A (foldedSetIterable g.iter env x) (λx N=>wpAny M A (pyIter x) (λi U=>
   codeAny M A (.compStart e k i acc env) (λr a=>(∃f,r=.ok f)/\C a) U) E N) E S) E s
 |none=>wpAny M A (Og e acc env) (λ_ S=>C S) E s
theorem xE{M:Model}{k:Nat}{acc:Value}{C C':Shared->Prop}(hC:∀s,C s->C' s)(h:l8 M A e k acc env C tV s):l8 M A e k acc env C' E s:=by
 unfold l8 at h⊢;split at h
 ·exact U9 h (λ_ _ h=>U9 h (λ_ _ h=>U9 h (λ_ _ h=>Vv h λ_ _ h=>⟨h.1,hC _ h.2⟩) λ_ _ z=>z.elim) λ_ _ z=>z.elim) λ_ _ z=>z.elim
 ·exact U9 h (λ_ _ h=>hC _ h) λ_ _ z=>z.elim
theorem G1{M:Model}{d:Nat}{it acc:Value}{Q:Fin->Shared->Prop}(n:lL e=true)(hz:(∀g∈clausesOf e,g.is_async=0))(U:(clausesOf e)[d]?=some g)(h : wpAny M A (pyNext it) (λr s₁ => match r with
   |none=>Q (.done .next) s₁
   |some v=>wpAny M A (letOwnedTupleGo g.target it v) (λ_ s₁'=>wpAny M A (assign g.target env v) (λ_ s₂=>wpAny M A (uo g.ifs env) (λok s₃=>
     if ok=true then l8 M A e (d+1) acc env (λs₄=>wpAny M A (again (.compLoop e d it acc env)) Q E s₄) E s₃ else wpAny M A (again (.compLoop e d it acc env)) Q E s₃) E s₂) E s₁') E s₁) E s):
  wpAny M A (compTurn e d it acc env) Q E s:=by
 have b:=hz g (VH U);have c:∀i,(clausesOf e)[d+1]?=some i->i.is_async=0:=λi h=>hz i (VH h);unfold compTurn
 cases e <;> first
  |exact absurd (show false=true from n) V9
  | (rename_i elt gens S pos
     have a:gens[d]?=some g:=U;have H:∀i,gens[d+1]?=some i->i.is_async=0:=c;dsimp only;rw[a];dsimp only;rw[b];refine Vd (Vf ?_);show wpAny M A (pyNext it >>= _) Q E s;refine Vd (U9 h (λr s₁ h₁=>?_) λ_ _ z=>z);cases r with
     |none=>exact Vg h₁
     |some v=>
      refine Vd (U9 h₁ (λ_ s₁' h₁'=>?_) λ_ _ z=>z);refine Vd (U9 h₁' (λ_ s₂ h₂=>?_) λ_ _ z=>z);refine Vd (U9 h₂ (λok s₃ h₃=>?_) λ_ _ z=>z);cases ok with
      |false=>exact h₃
      |true=>
       simp only[VP]at h₃⊢;unfold l8 at h₃;dsimp only[clausesOf]at h₃;cases B:gens[d+1]? with
       |none=>
        rw[B]at h₃;exact Vd h₃
       |some i=>
        rw[B]at h₃;have N:=H i B;simp only[N];refine Vd (U9 h₃ (λx s₄ h₄=>?_) λ_ _ z=>z);refine Vd (Vf ?_);show wpAny M A (foldedSetIterable i.iter env x >>= _) Q E s₄;refine Vd (U9 h₄ (λx s₅ h₅=>?_) λ_ _ z=>z);refine Vd (Ve ?_);show wpAny M A (pyIter x) _ E s₅;refine U9 h₅ (λI s₆ h₆=>?_) λ_ _ z=>z;refine Vd (wpAny_runOwn (Vv h₆ λr s₇ h₇=>?_));obtain⟨⟨f,rfl⟩,j⟩:=h₇
        exact j)
section
variable{R:(Result->Shared->Prop)}
theorem sA{k:Nat}{it acc:Value}(n:lL e=true)(hz:(∀g∈clausesOf e,g.is_async=0))(U:(clausesOf e)[k]?=some g)(a:codeAny 0e9 A (.compLoop e k it acc env) R s)(h:wpAny 0e9 A (pyIter it) (λit' s'=>codeAny 0e9 A (.compLoop e k it' acc env) R s') tV s):
  codeAny 0e9 A (.compStart e k it acc env) R s:=by
 have b:=hz g (VH U)
 cases e <;> first
  |exact absurd (show false=true from n) V9
  | (refine Wj ?_
     show wpAny _ _ ((compStart _ k it acc env).onRaise (λx=>do noteFrame x env;standAt theWindowsPlace)) _ _ s;refine wpAny_notedAt ?_;unfold compStart;rw[U];have E:((some g).elim false λx=>x.is_async != 0)=false:=by simp_all
     rw[E];simp only[Wl,VO];refine Vd (Wm (wpAny_ite ?_));split
     ·exact Vg (And.intro rfl a)
     ·refine Vd (Vj ?_);refine Vd (Vf ?_)
      exact Vd (U9 h (λit' s' H=>Vg (And.intro rfl H)) λ_ _ z=>z.elim))
theorem B3{d:Nat}{it acc:Value}(H:lL e=true)(hz:(∀g∈clausesOf e,g.is_async=0))(U:(clausesOf e)[d]?=some g)(I:Nat->Shared->Prop)(turn : ∀ n s, I n s -> wpAny 0e9 A (pyNext it) (λr s₁ => match r with
   |none=>R (.ok .next) s₁
   |some v=>wpAny 0e9 A (letOwnedTupleGo g.target it v) (λ_ s₁'=>wpAny 0e9 A (assign g.target env v) (λ_ s₂=>
     wpAny 0e9 A (uo g.ifs env) (λok s₃=>
      if ok=true then l8 0e9 A e (d+1) acc env (λs₅=>∃m,m<n/\I m s₅) tV s₃
      else ∃m,m<n/\I m s₃) tV s₂) tV s₁') tV s₁) tV s)(n:Nat)(h:I n s):codeAny 0e9 A (.compLoop e d it acc env) R s:=by
 refine codeAny_loop (by rfl) I (λn s hI=>?_) n h
 cases e <;> first
  |exact absurd (show false=true from H) V9
  | (show wpAny _ A ((compTurn _ d it acc env).onRaise (λx => do noteFrame x env; theTreesLotGoes x)) _ _ s
     refine wpAny_noted (G1 H hz U (U9 (turn n s hI) (λr s₁ h₁=>?_) λ_ _ z=>z.elim));cases r with
     |none=>exact h₁
     |some v=>
      refine U9 h₁ (λ_ s₂ h₂=>U9 h₂ (λ_ s₃ h₃=>U9 h₃ (λok s₄ h₄=>?_) λ_ _ z=>z.elim) λ_ _ z=>z.elim) λ_ _ z=>z.elim;cases ok with
      |false=>exact Vg ⟨rfl,h₄⟩
      |true=>
       simp only[VP]at h₄⊢
       exact xE (λs₅ h₅=>Vg ⟨rfl,h₅⟩) h₄)
end
abbrev CY:=St->Hp->(St->Hp->Prop)->Prop
def zJ(X:Cx)(e:Expr)(k:Nat)(acc:Addr)(t:CY):Prop:=
 ∀(p:1e9)(s:Shared)(c:St)(H:Hp)(N:(St->Hp->Prop)),aS X p c H s->t c H N->l8 0e7 X.A e k (.ref acc) 1e7 (λS=>∃a b,aS X p a b S/\N a b) tV s
def RY(J:It)(g:TG)(tt:TT)(tb:CY)(N:(St->Hp->Prop))(σ:St)(H:Hp):Prop:=∃W:Nat->Nat->St->Hp->Prop,(∃m,W 0 m σ H)/\∀i m a H,W i m a H ->
 (J.stop i H/\N a H)\/(J.go i H/\∃h:St->Hp->Prop,(∀f c,h f c->∃y,y<m/\W (i+1) y f c)/\∀x c,J.yld i H x c->g x a c λj l=>tt j l λb k=>if b=true then tb j k h else h j k)
section
variable{X:Cx}{d:Nat}{cl:Comprehension}{g:TG}{tt:TT}{tb:CY}
theorem n5{J:It}{tn:(Nat->Heap->Prop)}{N:(St->Hp->Prop)}(he:lL e=true)(hz:(∀g∈clausesOf e,g.is_async=0))(hg:(clausesOf e)[d]?=some cl)(E:X.xe=tV)(L:1e8)(T:vP X.prog X.w X.K cl.target J fp it tn)(C:PG X cl.target g)(t:vC X cl.ifs tt)(B:zJ X e (d+1) acc tb)(I:0e6)(st:tn 0 2e7)(G:∀b∈fp,lE X pins H b)(h:RY J g tt tb N σ H):
  codeAny 0e7 X.A (.compLoop e d (.ref it) (.ref acc) 1e7) (λr s'=>r=.ok .next/\∃σ' H',aS X pins σ' H' s'/\N σ' H') s:=by
 refine bz h λW v2 turn=>?_;obtain⟨m0,w0⟩:=v2;have stat:∀{H':Hp},(∀b∈fp,H' b=none)->∀b∈fp,lE X pins H' b:=λhn b B=>⟨hn b B,(G b B).2⟩;refine B3 he hz hg (λn s'=>∃i σ' H',aS X pins σ' H' s'/\tn i s'.heap/\(∀b∈fp,H' b=none)/\W i n σ' H') ?_ m0 ⟨0,_,_,I,st,λb B=>(G b B).1,w0⟩
 rintro n M ⟨i,a,k,y,c,V,w5⟩
 rcases turn i n a k w5 with⟨stop,qn⟩|⟨go,N',hN,step⟩
 ·refine dt (T.done X rfl rfl rfl L i pins M a k tV y (stat V) c stop) λr s6 ⟨p,O⟩=>?_;subst p;exact⟨rfl,_,_,O,qn⟩
 ·refine dt (T.item X rfl rfl rfl L i pins M a k tV y (stat V) c go) λr s6 ⟨u, p, h6⟩ => ?_;subst p;refine dt h6 λ_ P ⟨x,v,I7,r7,y7,S,F⟩=>?_;have l:=I7.pinned (stat F) (T.obj _ _ S);have Z:=C _ P a v x u _ l r7 (step x v y7);rw[E]at Z;refine dt Z λ_ s8 ⟨f,U,I8,q8⟩=>?_;have Q:=t _ s8 f U _ I8 q8;rw[E]at Q;refine dt Q λb s9 ⟨μ,z,q⟩=>?_
  have again:∀{σa:St}{Ha:Hp}{j:Shared},aS X (pins++pI fp P.heap) σa Ha j->N' σa Ha->∃m,m<n/\∃i σ' H',aS X pins σ' H' j/\tn i j.heap/\(∀b∈fp,H' b=none)/\W i m σ' H':=λ{σa Ha j} Ia na=>by
   refine bz (hN σa Ha na) λm' hm wa=>?_;refine⟨m',hm,i+1,σa,Ha,Ia.unpinned,T.keep _ _ _ S λb B o e=>(Ia.pin (b,o) (Vq _ (Vq _ (jD B e)))).1,λb B=>?_,wa⟩;refine bz (T.obj _ _ S b B) λo e d=>?_;exact(Ia.pin (b,o) (Vq _ (Vq _ (jD B e)))).2.1
  cases b with
  |false=>
   rw[Vt V9]at q⊢;exact again z q
  |true=>
   rw[Vs rfl]at q⊢;exact xE (λs' ⟨σ',H',D,n'⟩=>again D n') (B _ s9 f μ _ z q)
noncomputable def DL(wi:TI)(g:TG)(tt:TT)(tb:CY):CY:=λa H N=>wi a H λJ b=>RY J g tt tb N a b
theorem BN{wi:TI}(n:lL e=true)(hz:(∀g∈clausesOf e,g.is_async=0))(U:(clausesOf e)[d]?=some cl)(E:X.xe=tV)(j:1e8)(i:PI X cl.target cl.iter wi)(C:PG X cl.target g)(t:vC X cl.ifs tt)(B:zJ X e (d+1) acc tb)
  (hs:∀x,foldedSetIterable cl.iter 1e7 x=pure x):zJ X e d acc (DL wi g tt tb):=by
 intro p s l H N I h;unfold l8;rw[U];have z:=i p s l H _ I h;rw[E]at z;refine dt z λv q a=>Wn (hs v) (dt a λitv u c=>?_);obtain⟨o,F,y,J,m,f,b,T,S,O,D⟩:=c;subst f;have loop:=n5 n hz U E j T C t B b S O D;exact sA n hz U (Vv loop λr k ⟨a,c⟩=>⟨⟨_,a⟩,c⟩) (T.self _ 0 _ _ _ S (Vv loop λr k ⟨a,c⟩=>⟨⟨_,a⟩,c⟩))
noncomputable def Dg(te:TE)(acc:Addr):CY:=λa H N=>te a H λy i=>∃μ,i acc=some (.lst μ)/\μ.length<sizeLine/\N a (cq i acc (.lst (μ++[y])))
theorem qd(U:gens[d]?=none)(E:X.xe=tV)(l:PE X elt te):zJ X (.ListComp elt gens scope pos) d acc (Dg te acc):=by
 intro p s a H N I h;unfold l8;show (match gens[d]? with|some g=>_|none=>_:Prop);rw[U];show wpAny _ _ (do let _ <- call (.builtin "list.append") [.ref acc,<- eval elt 1e7]) _ _ _;have z:=l p s a H _ I h;rw[E]at z;refine Vd (dt z λv10 s10 ⟨y,H10,I10,r10,S,μ,c,n⟩=>?_);have Z:=sP (X:=X) p s10 a H10 (.ref acc) [y] (.ref acc) [v10] (λ_ b=>N a b) I10 rfl (.cons r10 .nil) ⟨_,S,y,rfl,rfl,μ,c,n⟩;rw[E]at Z;exact Vd (dt Z λv11 s11 ⟨f,H11,I11,r11,n11⟩=>Vg ⟨_,_,I11,n11⟩)
end
theorem FW{M:Model}{Q:Env->Shared->Prop}(hQ : ∀ h', h'.Ns 0e2 (λ_ => none) -> (∀ b o, s.heap.get? b = some o -> h'.get? b = some o) -> (∀ x c, (cellsFrom (0e2 + 1) scope.names cl).lookup x = some c -> cl.lookup x = some c \/ h'.IsCell c none) ->
   ∀cenv:Env,({cenv with scope:=relabel scope env}:Env)=compEnvC scope (cellsFrom 5e6 scope.names cl) 0e2 env->cenv.locals=s.heap.objs.size->Q cenv {s with heap:=h'}):
  wpAny M A (newFunctionEnv scope env.globals cl [] env.qual none .none (some env)) Q E s:=by
 simp only[newFunctionEnv,Option.isSome_some,VP];refine Vd (wpAny_alloc ?_);refine Vd (wpAny_layCells _ (λname kind cells=>by cases h:kind == NameKind.cell <;> simp[h]) _ _ _ _ ?_);have Z:(s.heap.push {cls:=.type "dict",data:=.dict #[]}).objs.size=s.heap.objs.size+1:=Wg ..;refine Vd (Vg (Vg ?_));show Q _ {s with heap:=pushCells (s.heap.push {cls:=.type "dict",data:=.dict #[]}) scope.names};refine hQ _ ((Heap.Ns.new 2e7 (.type "dict")).keeps (Wh _ _)) (λb o e=>Wh _ _ b o (Vi _ e)) (λx c e=>?_) _ ?_ rfl
 all_goals simp_all[kl,compEnvC]
def lF(o0:Addr->HO)(wi:TI)(cap:2e6)(g:TG)(tt:TT)(tb:Addr->CY):TE:=λa H Q=>wi a H λJ b=>∀acc,b acc=none->RY J g tt (tb acc) (λ_ c=>Q (.ref acc) c) (pG cap a) (cq b acc (o0 acc))
def Dh(wi:TI)(cap:2e6)(g:TG)(tt:TT)(te:TE):TE:=lF (λ_=>.lst []) wi cap g tt (Dg te)
def SC(X:Cx)(newAcc:Sem Value)(o0:Addr->HO):Prop:=∀(p:1e9)(s:Shared)(a:St)(H:Hp)(Q:3e3),aS X p a H s ->
 (∀S,aS X p a (cq H 0e2 (o0 0e2)) S->(∀b o,s.heap.get? b=some o->S.heap.get? b=some o)->s.heap.objs.size<S.heap.objs.size->Q (.ref 0e2) S)->wpAny 0e7 X.A newAcc Q X.xe s
theorem xh{X:Cx}:SC X (newList []) (λ_=>.lst []):=λp s a H Q I h=>
 Vh (h _ (I.lnew (t':=s.toks) (ys:=[]) (its:=[]) .nil (Wo _)) (λb o e=>Vi _ e) 1e1)
section
variable{X:Cx}{cl0:Comprehension}{rest:(List Comprehension)}{cap:2e6}{wi:TI}{g:TG}{tt:TT}{tb:Addr->CY}{o0:Addr->HO}{newAcc:Sem Value}
theorem nH{use:Option (Value->Sem Unit)}{Q:VK}{QQ:3e3}(he:lL e=true)(hz:(∀g∈clausesOf e,g.is_async=0))(c:clausesOf e=cl0::rest)(V:SC X newAcc o0)(hc:1e8)(S:4e9)(hi:PI X cl0.target cl0.iter wi)(hg:(∀cl C s H fp,PG 0e4 cl0.target g))(ht:(∀cl C s H fp,vC 0e4 cl0.ifs tt))(B:∀cl C s H fp acc,zJ 0e4 e 1 acc (tb acc))(I:0e6)(h:lF o0 wi cap g tt tb σ H Q)(j:∀C acc s' H',aS X pins σ H' s'->lE X pins H' C->(∃m,s'.heap.Ns C m)->Q (.ref acc) H'->compPost 0e7 X.A X.xe use QQ (.ref acc) C (.ok .next) s')(hs:(∀x,foldedSetIterable cl0.iter 1e7 x=pure x)):
  wpAny 0e7 X.A (comprehension e scope 1e7 pos' newAcc false (eval cl0.iter 1e7) use) QQ X.xe s:=by
 refine bI (zx (scope:=scope) (env:=1e7) (λy hy hf=>I.ok.has y.1 (S.free y hy hf))) λcl hclos P L=>?_;have k:(clausesOf e)[0]?=some cl0:=by rw[c];rfl
 refine wpAny_comprehension_free c hs hclos S.kind (λx hx e=>by rw[S.nd x hx,e]) ?_;refine dt (hi pins s σ H _ I h) λv s1 G=>dt G λitv a h2=>?_;obtain⟨it,fp,tn,J,l,e',I2,T,z,f2,rd⟩:=h2;subst e';have rd:=rd _ I2.fresh;refine V pins a σ l _ I2 λU K D hsz3=>?_;have Z:tn 0 U.heap:=T.keep _ _ _ z λb _ o e=>D b o e
 have fpn:∀b∈fp,b≠a.heap.objs.size:=λb B=>by
  obtain⟨o,O,_⟩:=T.obj _ _ z b B;exact UV (US O)
 have F:∀b∈fp,lE X pins 5e9 b:=λb B=>⟨by rw[bo (fpn b B)];exact(f2 b B).1,(f2 b B).2⟩
 have μ:∀b∈fp,b<U.heap.objs.size:=λb B=>by
  refine bz (T.obj _ _ Z b B) λo O _=>?_;exact US O
 refine FW λG u t M cenv ecenv elc=>?_;rw[ecenv]
 have IB:aS (e7 X Nc scope cl U.heap.objs.size U 5e9 fp) [] (pG cap σ) 5e9 {U with heap:=G,toks:=U.toks}:=
  B9 K F μ S P L u t M
 have stB:tn 0 G:=T.keep _ _ _ Z λb _ o e=>t b o e;rw[elc]
 have frB:∀b∈fp,lE (e7 X Nc scope cl U.heap.objs.size U 5e9 fp) [] 5e9 b:=λb B=>
  ⟨(F b B).1,(IB.ok.exf b B).1,IB.ok.exfs b B,.inl B,(IB.ok.exf b B).2,λp hp=>absurd (show p∈([]:List (Addr×Obj)) from hp) 1e1⟩
 have loop:=n5 (X:=e7 X Nc scope cl U.heap.objs.size U 5e9 fp) he hz k rfl hc T (hg _ _ _ _ _) (ht _ _ _ _ _) (B _ _ _ _ _ _) IB stB frB rd
 have n:∀r s',(r=.ok .next/\∃E H',aS (e7 X Nc scope cl U.heap.objs.size U 5e9 fp) [] E H' s'/\Q (.ref a.heap.objs.size) H')->compPost 0e7 X.A X.xe use QQ (.ref a.heap.objs.size) U.heap.objs.size r s':=by
  rintro r s' ⟨rfl,E,H',i,q⟩
  have I5:aS X pins σ H' s':=K.call' (ch:=fp) i.os i.base i.hok i.bare λb f=>⟨(F b f).2.2.2.1,(F b f).2.1,(F b f).2.2.2.2.1,(F b f).2.2.2.2.2⟩;refine bz i.loc λmm W _=>?_;exact j _ _ s' H' I5 (K.fpOk (Vn _) i.free) ⟨mm,W⟩ q
 exact sA he hz k (Vv loop n) (T.self _ 0 _ _ _ stB (Vv loop n))
theorem Fq(k:1e8)(hz:∀g∈cl0::rest,g.is_async=0)(S:4e9)(l:PI X cl0.target cl0.iter wi)
  (U:(∀cl C s H fp,PG 0e4 cl0.target g)) (J:(∀cl C s H fp,vC 0e4 cl0.ifs tt)) (B:(∀cl C s H fp acc,zJ 0e4 (.ListComp elt (cl0::rest) scope pos) 1 acc (tb acc)))
  (hs:(∀x,foldedSetIterable cl0.iter 1e7 x=pure x)):PE X (.ListComp elt (cl0::rest) scope pos) (lF (λ_=>.lst []) wi cap g tt tb):=by
 intro p s z H Q I h;have j:=hz cl0 U0;obtain⟨T,t,r,a⟩:=cl0;have c:a=0:=j;subst c;rw[arm_eval_ListComp];refine nH (e:=.ListComp elt (_::rest) scope pos) (Q:=Q) rfl hz rfl xh k S l U J B I h (λC acc u f i F n q=>?_) hs;obtain⟨m,n⟩:=n;refine⟨m,n,λy v=>⟨.ref acc,f,?_,rfl,q⟩⟩;exact i.turned (t':=u.toks) (it:=C) (λb o B e=>(v.2 b B).trans e) F.1 F.2.1 F.2.2.2.1 F.2.2.2.2.1 F.2.2.2.2.2
theorem wX(M:1e8)(hz:∀g∈cl0::rest,g.is_async=0)(hN:(X.N.Nodup))(j:4e0)(y:4e5)(S:4e9)(P:PI X cl0.target cl0.iter wi)(U:(∀cl C s H fp,PG 0e4 cl0.target g))(Z:(∀cl C s H fp,vC 0e4 cl0.ifs tt))(B:(∀cl C s H fp acc,zJ 0e4 (.ListComp elt (cl0::rest) scope pos) 1 acc (tb acc)))(W:(swapsWith (.ListComp elt (cl0::rest) scope pos) (some (.Name x pos1)) pos2.line 1e7=pure true))(hs:(∀x,foldedSetIterable cl0.iter 1e7 x=pure x)):
  PS X (.Assign [.Name x pos1] (.ListComp elt (cl0::rest) scope pos) pos2) (C3 (lF (λ_=>.lst []) wi cap g tt tb) (wc i)):=by
 intro p s V H D I h;have K:=hz cl0 U0;obtain⟨T,t,r,c⟩:=cl0;have f:c=0:=K;subst f;rw[exec_Assign_Name_used _ _ _ _ W];refine Vd (Vf (Vd ?_));show wpAny _ X.A (do let _ <- comprehension (.ListComp elt (⟨T,t,r,0⟩::rest) scope pos) scope 1e7 _ (newList []) false (eval t 1e7) (some (assign (.Name x pos1) 1e7))) _ _ s
 refine Vd (U9 (nH (e:=.ListComp elt (_::rest) scope pos) (use:=some (assign (.Name x pos1) 1e7)) (Q:=λv G=>D.nx (V.set i (some v)) G) (QQ:=λ_ l=>SP X p D .next l) rfl hz rfl xh M S P U Z B I h (λC acc l E J F n q=>?_) hs)
  (λ_ l μ=>Vg (Vg μ)) λ_ _ e=>e)
 obtain⟨m,n⟩:=n;show wpAny _ X.A (assign (.Name x pos1) 1e7 (.ref acc)) _ _ _;refine wpAny_assign_Name (sx J hN j (.inl y) (show cm (.ref acc) (.ref acc) from rfl) (λs'' I'' k=>?_) (.inr y));refine bz k λa O L=>?_
 have hCa:C≠a:=by
  rcases L with z|z
  ·rw[z];exact F.2.1
  ·exact λe=>F.2.2.2.2.1 x a z e.symm
 refine⟨m,n.sameBut O hCa,λh' u=>⟨_,E,?_,q⟩⟩;exact I''.turned (t':=s''.toks) (it:=C) (λb o B e=>(u.2 b B).trans e) F.1 F.2.1 F.2.2.2.1 F.2.2.2.2.1 F.2.2.2.2.2
variable{ifs:(List Expr)}
theorem sN:∀g∈([⟨tg,iter,ifs,0⟩]:List Comprehension),g.is_async=0:=by
 grind
theorem Ir(j:1e8)(S:4e9)(i:PI X tg iter wi)
  (U:∀cl C s H fp,PG 0e4 tg g) (J:∀cl C s H fp,vC 0e4 ifs tt) (n:∀cl C s H fp,PE 0e4 elt te)
  (hs:1e3):PE X 2e1 (Dh wi cap g tt te):=
 Fq j sN S i U J (λcl C s H fp acc=>qd rfl rfl (n cl C s H fp)) hs
theorem Ie(h:1e8)(hN:(X.N.Nodup))(j:4e0)(a:4e5)(S:4e9)(I:PI X tg iter wi)(U:∀cl C s H fp,PG 0e4 tg g)(J:∀cl C s H fp,vC 0e4 ifs tt)(n:∀cl C s H fp,PE 0e4 elt te)(W:(swapsWith 2e1 (some (.Name x pos1)) pos2.line 1e7=pure true))(hs:1e3):
  PS X (.Assign [.Name x pos1] 2e1 pos2) (C3 (Dh wi cap g tt te) (wc i)):=
 wX h sN hN j a S I U J (λcl C s H fp acc=>qd rfl rfl (n cl C s H fp)) W hs
end
end L2
namespace RS
open PySem PySem.W PyProof.Rows
open AutoSeq1 (wpAny_loadPart')
section
theorem vn{t:Addr}{items}{x:Value}(h:s.heap.IsTupleIter it t i)(J:s.heap.IsTuple t items)(d:items[i]?=some x)(hQ:∀h',h'.IsTupleIter it t (i+1)->Heap.SameBut it 2e7 h'->Q x {s with heap:=h'}):wpAny 0e9 A (Builtin.SmallTypes.nextOf (.ref it)) Q E s:=by
 refine bI (id h) λo G j D=>?_;obtain⟨O,H,_,n,l⟩:=J;refine Vd (VS h.typeIs Wp (VU Wp h.typeIs Wq ?_ (Wr _)));show wpAny _ _ (field (.ref it) 0 >>= _) _ _ s;refine Vd (VQ G D rfl ?_);refine Vd (VQ G D rfl ?_);refine Vd (Wt H l ?_);simp[d];exact Vd (Wu G D 1e1 (Vg ⟨x,rfl,Vg (hQ _ ⟨_,V0 _ G (Obj.isFreed_of_fields (Wv D _)),(Obj.cls_mapFields ..).trans j,by rw[Wv D];simp[rawInt]⟩ (Ww ..))⟩))
theorem nN{t:Addr}{items}(a:(A.handled=none))(h:s.heap.IsTupleIter it t i)(J:s.heap.IsTuple t items)(d:items[i]?=none)(hE:∀h' e,Heap.ExtBut it 2e7 h'->(∃o,h'.get? e=some o/\o.cls=.type "StopIteration")->E (.ref e) {s with heap:=h'}):wpAny 0e9 A (Builtin.SmallTypes.nextOf (.ref it)) Q E s:=by
 refine bI (id h) λo G j D=>?_;obtain⟨O,H,_,n,l⟩:=J;refine Vd (VS h.typeIs Wp (VU Wp h.typeIs Wq ?_ (Wr _)));show wpAny _ _ (field (.ref it) 0 >>= _) _ _ s;refine Vd (VQ G D rfl ?_);refine Vd (VQ G D rfl ?_);refine Vd (Wt H l ?_);simp[d];refine Vd (Vj (Vd (Wu G D 1e1 ?_)));refine Vd ?_;refine Vd (Vh ?_ (by size_fits));refine Vd (Wn (by rfl) ?_);refine Vh ?_ (by size_fits);refine Vd (wpAny_handled ?_)
 first|rw[show A.in1.handled=none from a]|rw[a]
 exact Vd (Vg (wpAny_throw (hE _ _ (((Ww ..).extBut.push _).push _) ⟨_,UR _ rfl,rfl⟩)))
end
theorem Oi(c:(A.handled=none))(it l:Addr)(e:l≠it)(items:5e5):
  Draws prog w A it [it,l] 3e9 (λi v=>items[i]?=some v) (λi h=>h.IsTupleIter it l i/\h.IsTuple l items) where
 live:=λ_ _ t=>let ⟨o,G,_⟩:=t.1;⟨o,G⟩
 frame:=λ_ _ _ t d=>⟨by
  refine bz t.1 λo G r=>?_;exact⟨o,d it 1e1 o G,r⟩,by
  refine bz t.2 λo G r=>?_
  exact⟨o,d l 1e1 o G,r⟩⟩
 item:=λi s Q E I t hQ=>by
  refine vn t.1 t.2 (x:=items[i]) 1e1 λb H a=>?_;refine hQ _ b s.toks 1e1 ⟨H,?_⟩ a;refine bz t.2 λo G r=>?_;exact⟨o,(a.2 l e).trans G,r⟩
 done:=λs Q E t hE=>nN c t.1 t.2 1e1 hE
theorem xU(l:Addr)(items:5e5)(n:Nat)(dct:Option Addr)(q:Array (Option Value)) :
  Meets (Builtin.«enumerate.__new__» ⟨[.type "enumerate",.ref l],[]⟩) (λ_ R s=>s.heap.get? l=some {cls:=.type "tuple",dict:=dct,data:=.seq items n,slots:=q} /\
   R (.ok (.ret (.ref (s.heap.push {cls:=.type "tuple_iterator",data:=.fields #[.ref l,.int 0 0]}).objs.size)))
    {s with heap:=(s.heap.push {cls:=.type "tuple_iterator",data:=.fields #[.ref l,.int 0 0]}).push {cls:=.type "enumerate",data:=.fields #[.none,.bool false,.ref 0e2,rawInt 0,.none,.none]}}):=
 .of_wp λprog w A R s h=>by
  obtain⟨p,g,d,t,S⟩:=s;obtain⟨i,h⟩:=h;have b:=sub_enumerate;have hL:Heap.IsTuple (Shared.heap ⟨p,g,d,t,S⟩) l items:=⟨_,i,rfl,n,rfl⟩
  wp_walk using wpAny_loadPart' i
  refine wpAny_stack_any λT=>Vg ?_;split
  ·rename_i c _ _ _ _ _;cases (c == Value.type "enumerate")
   ·wp_walk using wpAny_loadPart' i, Wx hL
    exact⟨_,rfl,h⟩
   ·wp_walk using wpAny_loadPart' i, Wx hL
    exact⟨_,rfl,h⟩
  ·wp_walk using wpAny_loadPart' i, Wx hL
   exact⟨_,rfl,h⟩
section
theorem zC{l:Addr}{items:5e5}(hL:s.heap.IsTuple l items)(h : ∀ h', IsEnum h' (0e2 + 1) 0e2 0 .none -> h'.IsTupleIter 0e2 l 0 -> h'.objs.size = s.heap.objs.size + 2 ->
   (∀b o,s.heap.get? b=some o->h'.get? b=some o)->Q (.ref 5e6) {s with heap:=h'}):
  wpAny 0e9 A (call (.type "enumerate") [.ref l]) Q E s:=by
 obtain⟨v,i,j,n,D⟩:=hL;obtain⟨c,dct,d,q⟩:=v;subst j D;refine callType_new F.called_enumerate 1e0 (F.typeCall_enumerate_1 _) (F.newCall_enumerate_1 _) (λobj=>F.args_object_init_2 obj _) F.entry_enumerate_new (xU l items n dct q) ⟨i,?_⟩;have Z:(s.heap.push {cls:=.type "tuple_iterator",data:=.fields #[.ref l,.int 0 0]}).objs.size=s.heap.objs.size+1:=Wg ..;rw[Z]
 have e:IsEnum ((s.heap.push {cls:=.type "tuple_iterator",data:=.fields #[.ref l,.int 0 0]}).push
   {cls:=.type "enumerate",data:=.fields #[.none,.bool false,.ref 0e2,rawInt 0,.none,.none]}) 5e6 0e2 0 .none:=by
  have:=UR (s.heap.push {cls:=.type "tuple_iterator",data:=.fields #[.ref l,.int 0 0]})
   (o:={cls:=.type "enumerate",data:=.fields #[.none,.bool false,.ref 0e2,rawInt 0,.none,.none]}) rfl
  lia
 exact⟨⟨_,e,rfl⟩,h _ e ⟨_,Vi _ (UR _ rfl),rfl,rfl⟩ (by rw[Wg,Z]) λb o x=>Vi _ (Vi _ x)⟩
end
end RS
namespace L2
open PySem PySem.Spec PyProof.Rows RS
def Sq(b:Bool)(K:W.Frag)(H:Hp)(a:Addr)(xs:List V):Prop:=if b=true then dN K H a xs else ei K H a xs
noncomputable def SF(b:Bool)(K:W.Frag)(a:Addr):It:=
 ⟨λi H => ∃ S x, Sq b K H a S /\ S[i]? = some x,
  λi H x c=>∃q y,x=.ref q/\H q=none/\c=cq H q (.tup [.int i,y])/\∀S,Sq b K H a S->S[i]?=some y,
  λi H=>∃S,Sq b K H a S/\S.length=i⟩
def m1(b:Bool)(h:Heap)(it a:Addr)(i:Nat):Prop:=if b=true then h.IsListIter it a i else h.IsTupleIter it a i
theorem m1.obj(x:m1 b h it a i):∃o,h.get? it=some o/\∀v,o.data≠.cell v:=by
 cases b with
 |true=>refine bI x λo e c d=>?_;grind
 |false=>refine bI x λo e c d=>?_;grind
theorem m1.keep(x:m1 b h it a i)(k:∀o,h.get? it=some o->h'.get? it=some o):m1 b h' it a i:=by
 cases b with
 |true=>obtain⟨o,e,r⟩:=x;exact⟨o,k o e,r⟩
 |false=>obtain⟨o,e,r⟩:=x;exact⟨o,k o e,r⟩
theorem jh{X:Cx}{xs:List V}(I:0e6)(j:1e8)(z:Sq b X.K H a xs)(e:a≠it):
  ∃(its:5e5)(St:(Nat->Heap->Prop)),bb xs its.toList/\Draws X.prog X.w X.A.in1 it [it,a] its.size (λi v=>its[i]?=some v) St/\(∀i,m1 b 2e7 it a i->St i 2e7)/\∀i h,St i h->m1 b h it a i:=by
 have c:X.A.in1.handled=none:=by simpa using I.ok.hd j
 cases b with
 |true=>
  obtain⟨its,R,p,Z⟩:=I.list z;exact⟨its.toArray,_,by simpa using R,Draws.list c it a e its.toArray,λi h=>⟨h,p.isList⟩,λi h t=>t.1⟩
 |false=>
  obtain⟨its,R,p,Z⟩:=I.tuple z;exact⟨its.toArray,_,by simpa using R,Oi c it a e its.toArray,λi h=>⟨h,p⟩,λi h t=>t.1⟩
theorem yu{X:Cx}{xs ys:List V}(I:0e6)(h:Sq b X.K H a xs)(c:Sq b X.K H a ys):xs=ys:=by
 cases b with
 |true=>exact I.list_inj h c
 |false=>exact I.tuple_inj h c
theorem aS.turns{X:Cx}(I:0e6)(k:∀b o,b∉ch->s.heap.get? b=some o->h'.get? b=some o)(F:∀b∈ch,lE X pins H b):aS X pins σ H {s with heap:=h',toks:=t'}:=by
 have nit:∀b u,H b=some u->b∉ch:=λb u e z=>by rw[(F b z).1]at e;cases e
 refine I.step (λb B=>?_) (λb o _ _ j e _=>k b o j e) (λb o _ _ j e _=>⟨o.slots,k b o j e⟩) (λ_ _ _ _ n=>n)
  (λb o j e=>⟨o,k b o j e⟩) (λ_ _ e=>e) (λ_ _ _ e=>e) (λb P e=>⟨#[],by rw[e];simp⟩) (λm d=>?_) (λb u e=>?_) I.bare
 ·refine ig (F b B) λg f O a y G=>?_;exact⟨a,f,y,G⟩
 ·refine pz d λo S p h r=>?_;exact⟨o,S,p,k _ o (λz=>(F _ z).2.1 rfl) h,r⟩
 ·refine (I.hok b u e).stay (λc v j q => k c v ?_ q) (λ_ q => q) λ_ _ q => q
  grind
theorem Bh(a it e:Addr)(j:e≠it)(l:a≠it)(N:a≠e):
  vP P w K (.Tuple elts k1 pos) (SF b K a) [e,it] e (λi h=>(∃old,IsEnum h e it (i:Nat) old)/\m1 b h it a i) where
 mem:=by simp
 obj:=λi h t x c=>by
  obtain⟨⟨old,n⟩,g⟩:=t;rcases U2.mp c with rfl|c
  ·exact⟨_,n,λv z=>by cases z⟩
  ·rw[Wz.mp c];exact g.obj
 keep:=λi h G t k=>by
  obtain⟨⟨old,n⟩,g⟩:=t;exact⟨⟨old,k e 1e1 _ n⟩,g.keep λo O=>k it 1e1 o O⟩
 item:=by
  intro X hP hw hK μ i p s σ H E I F t R;subst hP hw hK;obtain⟨⟨old,n⟩,g⟩:=t;refine bH R λxs x Q c=>?_;refine aF (jh I μ Q l) λS St rv D J d2=>?_;refine bz (rv.get c) λu hu ru=>?_
  have hlt:i<S.size:=by
   have:=(VY.mp hu).1;simpa using this
  have V:e ∉ [it,a]:=by
   simp[U2,WA,WB,not_or];exact⟨j,U3 N⟩
  refine ig (F e 1e1) λf0 f1 f2 f3 f4 f5=>?_;refine ig (F it 1e1) λg0 g1 g2 g3 g4 g5=>?_;have m:=US n;have hilt:it<s.heap.objs.size:=by refine bz g.obj λo O _=>?_;exact US O
  refine wpAny_pyNext_enum_itemD D n (J i g) hlt j V λy G T hy ho C ht hsz hk=>?_
  have ey:y=u:=by
   simp_all
  subst ey;refine⟨_,rfl,?_⟩;refine wpAny_letOwnedTupleGo_enum ho λM Z d=>?_;replace d:Heap.SameBut e G M:=d;have hold:∀b o,b≠e->b≠it->s.heap.get? b=some o->M.get? b=some o:=λb o L h3 q=>(d.2 b L).trans (hk b o L h3 q);have ht2:=(d.2 _ (Vl m)).trans ht;have hqn:=I.hok.fresh (Vn _)
  have I1:aS X p σ (cq H 0e2 (.tup [.int i,x])) {s with heap:=s.heap.push {cls:=.type "tuple",data:=.seq #[.int i T,y]},toks:=T}:=by
   refine I.laid (λb o O=>Vi _ O) (Vn _) ?_;exact⟨by simp[sizeLine],[.int i T,y],.cons ⟨T,rfl⟩ (.cons ru .nil),_,UR _ rfl,rfl,⟨0,rfl⟩,rfl⟩
  have hne:∀b∈[e,it],b≠s.heap.objs.size:=λb B=>by
   grind
  have r:∀b∈[e,it],lE X p (cq H 0e2 (.tup [.int i,x])) b:=λb B=>by
   obtain⟨k0,k1⟩:=F b B;exact⟨by rw[bo (hne b B)];exact k0,k1⟩
  have I2:aS X p σ (cq H 0e2 (.tup [.int i,x])) {s with heap:=M,toks:=T+1}:=by
   refine aS.turns (s:={s with heap:=s.heap.push {cls:=.type "tuple",data:=.seq #[.int i T,y]},toks:=T}) I1 (λb o B O=>?_) r;simp at B;by_cases U:b=0e2
   ·subst U;have:=(UR 2e7 rfl).symm.trans O;rw[ht2];exact this
   simp_all[WC]
  refine⟨.ref 0e2,_,I2,rfl,⟨_,x,rfl,hqn,rfl,λys hy=>by rw[yu I hy Q];exact c⟩,⟨⟨y,by simpa using Z⟩,?_⟩,λb B=>(r b B).1⟩;refine(d2 (i+1) G C).keep λo O=>?_;exact(d.2 it (U3 j)).trans O
 done:=by
  intro X hP hw hK μ i p s σ H E I F t R;subst hP hw hK;obtain⟨⟨old,n⟩,g⟩:=t;refine bz R λxs Q c=>?_;refine aF (jh I μ Q l) λS St rv D J d2=>?_
  have hil:S.size=i:=by
   have L:=rv.length
   grind
  subst hil;refine wpAny_pyNext_enum_endD D n (J _ g) λG c=>⟨rfl,?_⟩;refine I.turns (λb o B O=>c b o (λz=>B (by rw[z];simp)) O) F
 self:=λ_ _ _ _ _ t h=>by
  grind [wpAny_pyIter_enum]
section
variable{X:Cx}
noncomputable def N3(K:W.Frag)(t:TA):TI:=λd H R=>t d H λy c=>∃a b,y=[.ref a]/\(∃S,Sq b K c a S)/\R (SF b K a) c
theorem Ik{a:Expr}{p:Pos}(U:Gl X "enumerate")(M:X.mg "enumerate" = none)(x:PA X [a] ta)(hs:(autoParam (starEach [a] 1e7=[(false,eval a 1e7)]) ATr)):PI X (.Tuple elts k1 tpos) (.Call (.Name "enumerate" p) [a] [] pos) (N3 X.K ta):=by
 intro P s m H R I h;refine Call_ (j7 I U M (by rfl) (Vo (dt (x pos P s m H _ I h) λN S ⟨T,r,d,C,Q⟩=>?_) hs rfl));refine aP Q λl b e J q=>?_;obtain⟨μ,z⟩:=J;subst e;obtain⟨u,rfl,G⟩:=e9 C;cases G
 have f:∀c,IsEnum c (S.heap.objs.size+1) S.heap.objs.size 0 .none->m1 b c S.heap.objs.size l 0->l<S.heap.objs.size->c.objs.size=S.heap.objs.size+2->(∀b o,S.heap.get? b=some o->c.get? b=some o) ->
   wpAny 0e7 X.A (pyIter (.ref (S.heap.objs.size+1))) (Sd X P m (.Tuple elts k1 tpos) R) X.xe {S with heap:=c}:=by
  intro c n g t Z k;have v:aS X P m r {S with heap:=c}:=d.kept k;refine wpAny_pyIter_enum n ?_;refine⟨_,[S.heap.objs.size+1,S.heap.objs.size],_,_,r,rfl,v,Bh l S.heap.objs.size (S.heap.objs.size+1) (Nat.succ_ne_self _) (UV t) (UV (Wf t)),⟨⟨.none,n⟩,g⟩,λb B=>?_,q⟩;rcases U2.mp B with rfl|B
  ·exact d.fpOk (V4 _) (d.hok.fresh (V4 _))
  ·rw[Wz.mp B];exact d.fpOk (Vn _) (d.hok.fresh (Vn _))
 cases b with
 |true=>
  obtain⟨j,V,L,y⟩:=d.list z;exact call_enumerate_list L.isList λc n g Z k=>f c n g (by obtain⟨o,O,_⟩:=L.isList;exact US O) Z k
 |false=>
  obtain⟨j,V,L,y⟩:=d.tuple z;exact zC L λc n g Z k=>f c n g (by obtain⟨o,O,_⟩:=L;exact US O) Z k
end
end L2
namespace RS
open PySem
noncomputable def CL(mask:Nat):Nat->Nat->Nat->List Nat
 |0,_,_=>[]
 |n+1,i,p=>(List.range (SetTable.runEnd mask i+1-i)).map (i+·)++CL mask n (SetTable.leap mask i p).1 (SetTable.leap mask i p).2
noncomputable def cV(mask:Nat)(h:Int):List Nat:=CL mask (SetTable.turns mask) (SetTable.bits h%(mask+1)) (SetTable.bits h)
noncomputable def ic(t:SetTable):Nat->SetTable.Probe->List Nat
 |0,_=>[]
 |n+1,p=>p.j::ic t n (t.advance p)
noncomputable def ma(mask i p:Nat)(d:Option Nat):SetTable.Probe:={j:=i,more:=SetTable.runEnd mask i-i,i,perturb:=p,dummy:=d}
theorem wq(t:SetTable):∀(m n:Nat)(p:SetTable.Probe),p.more=m ->
  ic t (m+1+n) p=(List.range (m+1)).map (p.j+·)++ic t n (ma t.mask (SetTable.leap t.mask p.i p.perturb).1 (SetTable.leap t.mask p.i p.perturb).2 p.dummy)
 |0,n,p,h=>by
  rw[(show 0+1+n=n+1 by lia)];show p.j::ic t n (t.advance p)=_
  have e:t.advance p=ma t.mask (SetTable.leap t.mask p.i p.perturb).1 (SetTable.leap t.mask p.i p.perturb).2 p.dummy:=by
   unfold SetTable.advance;rw[Vt 0e0];rfl
  rw[e];simp
 |m+1,n,p,h=>by
  rw[(show m+1+1+n=(m+1+n)+1 by lia)];show p.j::ic t (m+1+n) (t.advance p)=_
  have e:t.advance p={p with j:=p.j+1,more:=p.more-1}:=by
   unfold SetTable.advance;rw[Vs 0e0]
  rw[e,wq t m n {p with j:=p.j+1,more:=p.more-1} (by show p.more-1=m;lia),WD (n:=m+1),VX,WE];congr 2;apply WG
  lia
theorem DY(mask i:Nat):i<=SetTable.runEnd mask i/\SetTable.runEnd mask i<=i+9:=by
 unfold SetTable.runEnd;split <;> lia
theorem pO(t:SetTable):∀(n i pe:Nat)(d:Option Nat),ic t (CL t.mask n i pe).length (ma t.mask i pe d)=CL t.mask n i pe
 |0,_,_,_=>rfl
 |n+1,i,pe,d=>by
  have R:=DY t.mask i;show ic t ((List.range (SetTable.runEnd t.mask i+1-i)).map (i+·)++_).length _=_;rw[V6,Wb,WH];have e:SetTable.runEnd t.mask i+1-i=(SetTable.runEnd t.mask i-i)+1:=by lia
  rw[e,wq t (SetTable.runEnd t.mask i-i) _ (ma t.mask i pe d) rfl];show _++ic t (CL t.mask n (SetTable.leap t.mask i pe).1 (SetTable.leap t.mask i pe).2).length (ma t.mask (SetTable.leap t.mask i pe).1 (SetTable.leap t.mask i pe).2 d)=_;rw[pO t n];show _=(List.range (SetTable.runEnd t.mask i+1-i)).map (i+·)++_;rw[e];rfl
theorem uu(mask:Nat):∀(n i pe:Nat),(CL mask n i pe).length<=10*n
 |0,_,_=>Wo _
 |n+1,i,pe=>by
  have R:=DY mask i;have h:=uu mask n (SetTable.leap mask i pe).1 (SetTable.leap mask i pe).2;show ((List.range (SetTable.runEnd mask i+1-i)).map (i+·)++_).length<=_;rw[V6,Wb,WH]
  lia
theorem uT(t:SetTable)(hashAt:Nat->Int)(h:Int):∀(pre:List Nat)(j:Nat)(post:List Nat)(fuel:Nat)(p:SetTable.Probe),ic t (pre.length+1+post.length) p=pre++j::post->pre.length<fuel->p.dummy=none ->
  (∀k∈pre,∃i,t.slot k=.live i/\hashAt i≠h) ->
  (t.slot j=.empty->SetTable.probe.go t hashAt h fuel p=some (.empty j none))/\(∀i,t.slot j=.live i->hashAt i=h->∃nx,SetTable.probe.go t hashAt h fuel p=some (.candidate j i nx))
 |[],j,post,0,p,_,F,_,_=>by simp at F
 |[],j,post,fuel+1,p,W,_,D,_=>by
  have e:ic t (([]:List Nat).length+1+post.length) p=p.j::ic t post.length (t.advance p):=by
   rw[WI,show 0+1+post.length=post.length+1 from by lia];rfl
  rw[e]at W;have E:=(WJ W).1;refine⟨λn=>?_,λi l b=>?_⟩
  ·show (match t.slot p.j with | .empty=>_ | .dummy=>_ | .live i=>_)=_;rw[E,n,D]
  ·refine⟨t.advance p,?_⟩;show (match t.slot p.j with | .empty=>_ | .dummy=>_ | .live i=>_)=_;rw[E,l];show (if (hashAt i == h)=true then _ else _)=_;rw[Vs (by simpa using b)]
 |x::pre,j,post,0,p,_,F,_,_=>by simp at F
 |x::pre,j,post,fuel+1,p,W,F,D,d=>by
  have e:ic t ((x::pre).length+1+post.length) p=p.j::ic t (pre.length+1+post.length) (t.advance p):=by
   rw[Wd,show pre.length+1+1+post.length=(pre.length+1+post.length)+1 from by lia];rfl
  rw[e]at W;refine bz (d x U0) λi l H=>?_
  have a:(t.advance p).dummy=none:=by
   unfold SetTable.advance;split
   ·exact D
   ·exact D
  have g:SetTable.probe.go t hashAt h (fuel+1) p=SetTable.probe.go t hashAt h fuel (t.advance p):=by
   show (match t.slot p.j with | .empty=>_ | .dummy=>_ | .live i=>_)=_;rw[((WJ W).1),l];show (if (hashAt i == h)=true then _ else _)=_;rw[Vt (by simpa using H)]
  rw[g];exact(uT t hashAt h pre j post fuel (t.advance p) ((WJ W).2) (by rw[Wd]at F;lia) a (λk K=>d k (U1 _ K)))
def Gz(xs:List Nat):Prop:=xs.Pairwise (·<·)
theorem qq(xs:Array Nat)(j:Nat):∀(fuel lo hi:Nat),lo<=hi->hi<=xs.size->hi-lo<=fuel->(∀i k,i<k->k<xs.size->xs.getD i j<xs.getD k j)->(∀i,i<lo->xs.getD i j<j)->(∀i,hi<=i->i<xs.size->j<=xs.getD i j) ->
  let b:=SetTable.below.go xs j fuel lo hi
  b<=xs.size/\(∀i,i<b->xs.getD i j<j)/\(∀i,b<=i->i<xs.size->j<=xs.getD i j)
 |0,lo,hi,d,c,f,R,n,B=>by
  have e:lo=hi:=by lia
  subst e;exact⟨c,n,B⟩
 |fuel+1,lo,hi,d,c,f,R,n,B=>by
  by_cases h:lo<hi
  ·simp only [SetTable.below.go, h];by_cases H:xs.getD ((lo+hi) / 2) j<j
   ·rw [Vs H];refine qq xs j fuel _ hi 0e0 c 0e0 R (λi a=>?_) B;by_cases e:i=(lo+hi) / 2
    ·rw[e];exact H
    ·have := R i ((lo + hi) / 2) 0e0 0e0
     lia
   ·rw [Vt H];refine qq xs j fuel lo _ 0e0 0e0 0e0 R n (λi a S=>?_);by_cases e:i=(lo+hi) / 2
    ·rw[e];lia
    ·have := R ((lo + hi) / 2) i 0e0 S
     lia
  ·have e : lo = hi := by lia
   subst e;simp only[SetTable.below.go,h];exact⟨c,n,B⟩
theorem uz{xs:Array Nat}(h:Gz xs.toList)(j:Nat):∀i k,i<k->k<xs.size->xs.getD i j<xs.getD k j:=λi k H d=>by
 have I:i<xs.size:=by lia
 have:=WK.mp h i k (by simpa using I) (by simpa using d) H
 simp_all
theorem lR{xs:Array Nat}(h:Gz xs.toList)(j:Nat):SetTable.below xs j<=xs.size/\(∀i,i<SetTable.below xs j->xs.getD i j<j)/\(∀i,SetTable.below xs j<=i->i<xs.size->j<=xs.getD i j):=
 qq xs j xs.size 0 xs.size (Wo _) (Vn _) 0e0 (uz h j) (λi I=>by lia) (λi H c=>by lia)
theorem Cz{xs:Array Nat}(h:Gz xs.toList)(e:xs[i]?=some j):SetTable.below xs j=i:=by
 refine jr (lR h j) λf c d=>?_
 have I:i<xs.size:=by
  rcases WL.mp e with⟨q,_⟩;exact q
 have E:xs.getD i j=j:=by
  rcases WL.mp e with⟨q,z⟩
  simp[Array.getD,z]
 by_cases H:SetTable.below xs j<i
 ·have a := d (SetTable.below xs j) (Vn _) 0e0;have b:=uz h j (SetTable.below xs j) i H I
  lia
 ·by_cases t : i < SetTable.below xs j
  ·have:=c i t;lia
  ·lia
theorem jR{α:Type}(xs:Array α)(p:Nat)(x:α):(SetTable.insertAt xs p x).toList=xs.toList.take p++x::xs.toList.drop p:=by
 simp[SetTable.insertAt,List.take_of_length_le]
theorem jE{α:Type}(p:α->Prop):∀(l:List α),(∃x∈l,p x)->∃pre x post,l=pre++x::post/\p x/\∀y∈pre,¬ p y
 |[],h=>by obtain⟨x,d,_⟩:=h;simp at d
 |a::l,h=>by
  by_cases n:p a
  ·exact⟨[],a,l,rfl,n,λy μ=>by simp at μ⟩
  ·refine bz h λx d P => ?_;rcases U2.mp d with z|z
   ·lia
   ·refine cX (jE p l ⟨x, z, P⟩) λpre y post e b H => ?_;refine⟨a::pre,y,post,by rw[e];rfl,b,λw W=>?_⟩;rcases U2.mp W with q|q
    ·rw[q];exact n
    ·exact H w q
structure se(t:SetTable)(es:Array (Int×Value))(Z:List (Nat×Int×Value)):Prop where
 place:t.place.toList=Z.map 3e2
 ents:es.toList=Z.map (·.2)
 ris:Gz (Z.map 3e2)
 top:∀z∈Z,z.1<=t.mask
 dum:t.dummies=#[]
 reach:∀z∈Z,∃pre post,cV t.mask z.2.1=pre++z.1::post/\∀k∈pre,k∈Z.map 3e2
theorem se.size{t:SetTable}(T:se t es Z):t.place.size=Z.length/\es.size=Z.length:=by
 have a:=VA List.length T.place;have b:=VA List.length T.ents;simp at a b;exact⟨a,b⟩
theorem se.fill{t:SetTable}(T:se t es Z):t.fill=Z.length:=by
 unfold SetTable.fill;rw[T.size.1,T.dum];rfl
theorem sX(j:Nat):SetTable.has #[] j=false:=by
 rfl
theorem se.slot_empty{t:SetTable}(T:se t es Z)(h:j∉Z.map 3e2):t.slot j=.empty:=by
 unfold SetTable.slot
 have n:¬ (t.place[SetTable.below t.place j]? == some j)=true:=by
  intro e;have d:t.place[SetTable.below t.place j]?=some j:=by simpa using e
  apply h;rw[<- T.place];rw[<- Wa]at d;exact VH d
 simp only[n,T.dum,sX];rfl
theorem se.slot_live{t:SetTable}(T:se t es Z)(h:Z[i]?=some z):t.slot z.1=.live i:=by
 have e:t.place[i]?=some z.1:=by
  rw[<- Wa,T.place,Wi,h];rfl
 have r:Gz t.place.toList:=by rw[T.place];exact T.ris
 have D:=Cz r e
 simp_all[SetTable.slot]
theorem se.hashAt{t:SetTable}(T:se t es Z)(h:Z[i]?=some z):es[i]?=some z.2:=by
 rw[<- Wa,T.ents,Wi,h];rfl
theorem gx{α:Type}:∀{l1 l2:List α},l1.Nodup->(∀x∈l1,x∈l2)->l1.length<=l2.length
 |[],_,_,_=>Wo _
 |a::r,l2,n,S=>by
  refine CJ (List.append_of_mem (S a U0)) λs t e=>?_;have h:=Vx.mp n
  have i:=gx (l1:=r) (l2:=s++t) h.2 (λx d=>by
   have H:=S x (U1 _ d);rw[e]at H;rcases U4.mp H with q|q
   ·exact U5 _ q
   ·rcases U2.mp q with q | q
    ·rw[q]at d;exact absurd d h.1
    ·exact Vq _ q)
  rw[e,V6,Wd,Wd];rw[V6]at i
  lia
theorem Ab(mask:Nat):∀(n i pe:Nat),i<=mask->∀j∈CL mask n i pe,j<=mask
 |0,_,_,_,j,h=>by simp[CL]at h
 |n+1,i,pe,I,j,h=>by
  rcases U4.mp h with q|q
  ·refine bz (WM.mp q) λk d e => ?_;have H:=WN.mp d;have:SetTable.runEnd mask i<=mask:=by unfold SetTable.runEnd;split <;> lia
   have E:i+k=j:=e
   lia
  ·refine Ab mask n _ _ ?_ j q;show (i*5+1+pe / 32)%(mask+1)<=mask;exact Nat.le_of_lt_succ (Nat.mod_lt _ (Nat.succ_pos mask))
theorem jj{h:Int}(e:j∈cV mask h):j<=mask:=by
 refine Ab mask _ _ _ ?_ j e;simp[Nat.le_of_lt_succ,Nat.mod_lt]
theorem sZ{l:List Nat}(h:l.length<=m):∃j,j<=m/\j∉l:=by
 refine WO λN=>?_
 have L:∀j∈List.range (m+1),j∈l:=λj Z=>by
  refine WO λH=>N ⟨j,?_,H⟩;have:=WN.mp Z;lia
 have:=gx (WQ (n:=m+1)) L;rw[WH]at this
 lia
theorem se.search{t:SetTable}(T:se t es Z){h:Int}(cov:∀j,j<=t.mask->j∈cV t.mask h)(hz:Z.length<=t.mask)(hA:Nat->Int)(hAe:∀i z,Z[i]?=some z->hA i=z.2.1):
  (∃i z nx,Z[i]?=some z/\z.2.1=h/\t.probe hA h (t.probeStart h)=some (.candidate z.1 i nx)) \/
  ((∀z∈Z,z.2.1≠h)/\∃j pre post,t.probe hA h (t.probeStart h)=some (.empty j none)/\j<=t.mask/\j∉Z.map 3e2/\cV t.mask h=pre++j::post/\∀k∈pre,k∈Z.map 3e2):=by
 refine bz (sZ (m:=t.mask) (l:=Z.map 3e2) (by simp_all)) λJ g r=>?_;refine cX (jE (λj=>j∉Z.map 3e2\/∃z∈Z,z.1=j/\z.2.1=h) (cV t.mask h) ⟨J,cov J g,.inl r⟩) λpre j post e S P=>?_
 have W:ic t (pre.length+1+post.length) (t.probeStart h)=pre++j::post:=by
  have q:=pO t (SetTable.turns t.mask) (SetTable.bits h%(t.mask+1)) (SetTable.bits h) none
  have L:(CL t.mask (SetTable.turns t.mask) (SetTable.bits h%(t.mask+1)) (SetTable.bits h)).length=pre.length+1+post.length:=by
   grind [cV]
  rw[L]at q;exact q.trans e
 have n:pre.length<10*SetTable.turns t.mask:=by
  grind [uu,cV]
 have occ:∀k∈pre,k∈Z.map 3e2:=λk d=>by
  refine WO λq=>P k d (.inl q)
 have E:∀k∈pre,∃i,t.slot k=.live i/\hA i≠h:=λk d=>by
  refine bz (WM.mp (occ k d)) λz M b=>?_;obtain⟨i,I⟩:=WR M;refine⟨i,b ▸ T.slot_live I,λq=>P k d (.inr ⟨z,M,b,?_⟩)⟩
  grind
 obtain⟨G,v⟩:=uT t hA h pre j post (10*SetTable.turns t.mask) (t.probeStart h) W n rfl E;by_cases y:∃z∈Z,z.2.1=h
 ·obtain ⟨z, M, b⟩ := y;refine bH (T.reach z M) λK Q ezz C=>?_;rw[b]at ezz
  have p:j∈Z.map 3e2:=by
   have B:pre++j::post=K++z.1::Q:=by rw[<- e,<- ezz]
   rcases List.append_eq_append_iff.mp B with⟨a,w,A⟩|⟨c,w,A⟩
   ·cases a with
    |nil=>
     grind
    |cons x a=>
     grind
   ·cases c with
    |nil=>
     grind
    |cons x c=>
     grind
  rcases S with q|⟨s,H,f,B⟩
  ·exact absurd p q
  ·obtain⟨i,I⟩:=WR H;obtain⟨nx,en⟩:=v i (f ▸ T.slot_live I) (by grind);exact .inl ⟨i,s,nx,I,B,by rw[f];exact en⟩
 ·have O : ∀ z ∈ Z, z.2.1 ≠ h := λz H u => y ⟨z, H, u⟩;rcases S with q|⟨s,H,f,B⟩
  ·have o:j<=t.mask:=jj (h:=h) (by rw[e];simp);exact .inr ⟨O,j,pre,post,G (T.slot_empty q),o,q,e,occ⟩
  ·exact absurd B (O s H)
theorem zd{l:List Nat}{p:Nat}(h:Gz l)(a:∀x∈l.take p,x<j)(c:∀x∈l.drop p,j<x):Gz (l.take p++j::l.drop p):=by
 unfold Gz at *;have H:(l.take p++l.drop p).Pairwise (·<·):=by rw[WS];exact h
 rw[List.pairwise_append]at H⊢
 simp_all
theorem se.put{t:SetTable}(T:se t es Z){h:Int}{x:Value}{pre post:List Nat}(J:j<=t.mask)(n:j∉Z.map 3e2)(e:cV t.mask h=pre++j::post)(P:∀k∈pre,k∈Z.map 3e2):
  ∃Z',se (t.put j).1 (SetTable.insertAt es (t.put j).2 (h,x)) Z'/\Z'.Perm ((j,h,x)::Z)/\(t.put j).1={t with place:=SetTable.insertAt t.place (SetTable.below t.place j) j}:=by
 have E:(t.put j).1={t with place:=SetTable.insertAt t.place (SetTable.below t.place j) j}:=by
  unfold SetTable.put;simp only[T.dum,sX];rw[Vt V9]
 have B:(t.put j).2=SetTable.below t.place j:=rfl;refine jr (lR (by rw[T.place];exact T.ris) j) λb1 b2 b3=>?_;generalize r:SetTable.below t.place j=p at *;refine⟨Z.take p++(j,h,x)::Z.drop p,⟨?_,?_,?_,λz f=>?_,by rw[E];exact T.dum,λz f=>?_⟩,?_,E⟩
 ·rw[E,jR,T.place,WT,VX,WU,WV]
 ·rw[B,jR,T.ents,WT,VX,WU,WV]
 ·rw [WT, VX, WU, WV];refine zd T.ris (λy μ=>?_) (λy μ=>?_)
  ·obtain ⟨i, H⟩ := WR μ;rw[List.getElem?_take]at H;split at H
   ·rename_i g;have q:=b2 i g;rw[<- T.place,Wa]at H;simp[H]at q;exact q
   ·cases H
  ·obtain ⟨i, H⟩ := WR μ;rw[WW]at H;have m:=VH H;rw[<- T.place,Wa]at H;have q:=b3 (p+i) 0e0 ((WL.mp H).1);simp[H]at q;have:y≠j:=λl=>n (l ▸ m)
   lia
 ·rw [E];rcases U4.mp f with q|q
  ·exact T.top z (WX q)
  ·rcases U2.mp q with q | q
   ·rw[q];exact J
   ·exact T.top z (List.mem_of_mem_drop q)
 ·rw [E]
  have sub:∀k∈Z.map 3e2,k∈(Z.take p++(j,h,x)::Z.drop p).map 3e2:=λk K=>by
   rw[<- WS p Z,WT]at K;rw[WT];rcases U4.mp K with q|q
   ·exact U5 _ q
   ·exact Vq _ (U1 _ q)
  have o:∀z∈Z,∃pre post,cV t.mask z.2.1=pre++z.1::post/\∀k∈pre,k∈(Z.take p++(j,h,x)::Z.drop p).map 3e2:=λz f=>by
   refine bH (T.reach z f) λa b c d=>?_;exact⟨a,b,c,λk K=>sub k (d k K)⟩
  rcases U4.mp f with q|q
  ·exact o z (WX q)
  ·rcases U2.mp q with q | q
   ·rw[q];exact⟨pre,post,e,λk K=>sub k (P k K)⟩
   ·exact o z (List.mem_of_mem_drop q)
 ·have q:(Z.take p++(j,h,x)::Z.drop p).Perm ((j,h,x)::(Z.take p++Z.drop p)):=List.perm_middle;rw[WS]at q;exact q
theorem tf(mask:Nat)(owner:Array (Option Nat)):∀(n i pe:Nat),
  SetTable.layClean.free mask owner n i pe=(CL mask n i pe).find? λj=>(owner.getD j (some 0)).isNone
 |0,_,_=>rfl
 |n+1,i,pe=>by
  show (match (List.range (SetTable.runEnd mask i+1-i)).find? λk=>(owner.getD (i+k) (some 0)).isNone with|some k=>_|none=>_)=_;show _=((List.range (SetTable.runEnd mask i+1-i)).map (i+·)++CL mask n (SetTable.leap mask i pe).1 (SetTable.leap mask i pe).2).find? _;rw[List.find?_append,List.find?_map,<- tf mask owner n];rw[(show ((λj=>(owner.getD j (some 0)).isNone) ∘ λx=>i+x)=λk=>(owner.getD (i+k) (some 0)).isNone from rfl)];cases (List.range (SetTable.runEnd mask i+1-i)).find? λk=>(owner.getD (i+k) (some 0)).isNone with
  |some k=>rfl
  |none=>rfl
structure KN(mask:Nat)(hs:List Int)(owner:Array (Option Nat)):Prop where
 size:owner.size=mask+1
 all:∀(i:Nat)(h:Int),hs[i]?=some h->∃j:Nat,j<=mask/\owner[j]?=some (some i)/\∃pre post,cV mask h=pre++j::post/\∀k∈pre,∃i':Nat,owner[k]?=some (some i')
 lt:∀(j i:Nat),owner[j]?=some (some i)->i<hs.length
 inj:∀(j j' i:Nat),owner[j]?=some (some i)->owner[j']?=some (some i)->j=j'
theorem Iz(mask:Nat):KN mask [] (Array.replicate (mask+1) none):=by
 have O:∀(j i:Nat),(Array.replicate (mask+1) (none:Option Nat))[j]?≠some (some i):=λj i e=>by
  rw[Array.getElem?_replicate]at e;split at e <;> cases e
 exact⟨by simp,λi h e=>by simp at e,λj i e=>absurd e (O j i),λj J i e=>absurd e (O j i)⟩
theorem Fv(O:KN mask hs owner)(p:hs.length<=mask):∃j,j<=mask/\owner[j]?=some none:=by
 refine WO λN=>?_
 have L:∀j,j<=mask->∃i,owner[j]?=some (some i):=λj Z=>by
  have g:j<owner.size:=by rw[O.size];lia
  cases e:owner[j]? with
  |none=>rw[WY]at e;lia
  |some o=>
   cases o with
   |none=>exact absurd ⟨j,Z,e⟩ N
   |some i=>exact⟨i,rfl⟩
 have key:∀n,n<=mask+1->∃l:List Nat,l.length=n/\l.Nodup/\(∀i∈l,i<hs.length)/\∀i∈l,∃j,j<n/\owner[j]?=some (some i):=by
  intro n
  induction n with
  |zero=>exact λ_=>⟨[],rfl,WZ,λ_ h=>by simp at h,λ_ h=>by simp at h⟩
  |succ n k=>
   intro f;refine lb (k 0e0) λl a c H b=>?_;obtain⟨i,I⟩:=L n 0e0;refine⟨i::l,by rw[Wd,a],Vx.mpr ⟨λm=>?_,c⟩,λx d=>?_,λx d=>?_⟩
   ·obtain ⟨j, Z, E⟩ := b i m;have:=O.inj j n i E I
    lia
   ·rcases U2.mp d with q | q
    ·rw[q];exact O.lt n i I
    ·exact H x q
   ·rcases U2.mp d with q | q
    ·rw[q];exact⟨n,by lia,I⟩
    ·refine bz (b x q) λj Z E=>?_;exact⟨j,by lia,E⟩
 refine lb (key (mask+1) (Vn _)) λl a c H _=>?_;have:=gx c (l2:=List.range hs.length) (λx d=>WN.mpr (H x d))
 grind
theorem Fu{h:Int}(O:KN mask hs owner)(L:hs.length<=mask)(cov:∀j,j<=mask->j∈cV mask h):
  ∃j,SetTable.layClean.free mask owner (SetTable.turns mask) (SetTable.bits h%(mask+1)) (SetTable.bits h)=some j/\KN mask (hs++[h]) (owner.setIfInBounds j (some hs.length)):=by
 refine bz (Fv O L) λn g v=>?_
 have none_iff:∀j,((owner.getD j (some 0)).isNone=true)↔owner[j]?=some none:=λj=>by
  rw[W1];cases owner[j]? with
  |none=>simp
  |some o=>cases o <;> simp
 refine cX (jE (λj=>owner[j]?=some none) (cV mask h) ⟨n,cov n g,v⟩) λp j P e b l=>?_;have m:j<=mask:=jj (h:=h) (by rw[e];simp);have S:j<owner.size:=by rw[O.size];lia
 have c:∀k∈p,∃I,owner[k]?=some (some I):=λk d=>by
  have M:k<=mask:=jj (h:=h) (by rw[e];simp[d]);cases q:owner[k]? with
  |none=>
   rw[WY,O.size]at q
   lia
  |some o=>
   cases o with
   |none=>exact absurd q (l k d)
   |some i=>exact⟨i,rfl⟩
 have t:∀k,(owner.setIfInBounds j (some hs.length))[k]?=if j=k then some (some hs.length) else owner[k]?:=λk=>by
  grind
 have keep:∀k I,owner[k]?=some (some I)->(owner.setIfInBounds j (some hs.length))[k]?=some (some I):=λk I q=>by
  rw[t,Vt]
  ·exact q
  lia
 refine⟨j,?_,by simp[O.size],λi f E=>?_,λk i E=>?_,λk K i a B=>?_⟩
 ·rw [tf];show (cV mask h).find? _=some j;rw[e,List.find?_append]
  have a:p.find? (λj=>(owner.getD j (some 0)).isNone)=none:=by
   rw[List.find?_eq_none];intro k d q;exact l k d ((none_iff k).mp q)
  simp only[a,Option.none_or,W2,(none_iff j).mpr b]
 ·by_cases x : i < hs.length
  ·rw[VF x]at E;obtain⟨J,A,r,R,y,s,u⟩:=O.all i f E;exact⟨J,A,keep J i r,R,y,s,λk d=>(u k d).elim λI q=>⟨I,keep k I q⟩⟩
  ·have H:i=hs.length:=by
    have:=(VY.mp E).1;simp at this;lia
   subst H;rw[VD (Vn _),W3]at E;have w:h=f:=by simpa using E
   subst w;exact⟨j,m,by rw[t,Vs rfl],p,P,e,λk d=>(c k d).elim λI q=>⟨I,keep k I q⟩⟩
 ·rw [t] at E;rw[V6,V7];split at E
  ·cases E;lia
  ·have:=O.lt k i E;lia
 ·rw [t] at a B;split at a
  ·rename_i Q;cases a;split at B
   ·lia
   ·have:=O.lt K _ B;lia
  ·split at B
   ·cases B;have:=O.lt k _ a;lia
   ·exact O.inj k K i a B
theorem w9{mask:Nat}:∀(hs0 hs1:List Int)(owner:Array (Option Nat)),KN mask hs0 owner->hs0.length+hs1.length<=mask+1->(∀h∈hs1,∀j,j<=mask->j∈cV mask h) ->
  ∃owner',hs1.foldl (λ(acc:Option (Array (Option Nat)×Nat)) h=>do
   let (owner,k) <- acc
   let j <- SetTable.layClean.free mask owner (SetTable.turns mask) (SetTable.bits h%(mask+1)) (SetTable.bits h)
   pure (owner.setIfInBounds j (some k),k+1)) (some (owner,hs0.length))=some (owner',(hs0++hs1).length)/\KN mask (hs0++hs1) owner'
 |hs0,[],owner,O,_,_=>⟨owner,by simp,by simpa using O⟩
 |hs0,h::hs1,owner,O,i,cov=>by
  rw[Wd]at i;refine bz (Fu (h:=h) O 0e0 (cov h U0)) λj E a=>?_;refine bz (w9 (hs0++[h]) hs1 _ a (by rw[V6,V7];lia) (λx H=>cov x (U1 _ H))) λo d B=>?_;rw[W4,List.singleton_append]at d B;refine⟨o,?_,B⟩;rw[W5];show List.foldl _ ((SetTable.layClean.free mask owner (SetTable.turns mask) (SetTable.bits h%(mask+1)) (SetTable.bits h)).bind λj=>some (owner.setIfInBounds j (some hs0.length),hs0.length+1)) hs1=_;rw[E];show List.foldl _ (some (owner.setIfInBounds j (some hs0.length),hs0.length+1)) hs1=_;rw[V6,V7]at d;exact d
theorem wV{α:Type}:∀l:List α,(List.range l.length).filterMap (λi=>l[i]?)=l
 |[]=>rfl
 |a::l=>by
  rw[Wd,WD,UZ];show a::List.filterMap _ _=_;rw[List.filterMap_map];show a::List.filterMap (λi=>l[i]?) _=_;rw[wV l]
theorem Jj(i:hs.length<=mask+1)(cov:∀h∈hs,∀j,j<=mask->j∈cV mask h):∃owner,SetTable.layClean mask hs.toArray=some owner/\KN mask hs owner:=by
 refine bz (w9 [] hs _ (Iz mask) (by rw[WI,W6];exact i) cov) λo d B=>?_
 grind [SetTable.layClean]
theorem qB{t:SetTable}{wanted:Nat}(hm:SetTable.sizeAbove wanted-1=mask)(hl:es.size<=mask)(cov:∀e∈es.toList,∀j,j<=mask->j∈cV mask e.1):
  ∃t' order Z',t.relaid (es.map 3e2) wanted=some (t',order)/\se t' (order.filterMap (es[·]?)) Z'/\(Z'.map (·.2)).Perm es.toList/\t'.mask=mask/\t'.led=t.led/\t'.plain=t.plain/\order.toList.Perm (List.range es.size):=by
 have G:es.map 3e2=(es.toList.map 3e2).toArray:=by rw[<- Array.toList_map]
 obtain⟨w,C,O⟩:=Jj (mask:=mask) (hs:=es.toList.map 3e2) (by simp;lia) (λh F=>by
  obtain⟨e,V,q⟩:=WM.mp F
  rw[<- q];exact cov e V)
 let live:List (Nat×Nat):=(List.range (mask+1)).filterMap λj=>(w.getD j none).map (j,·)
 have hlive:∀j i,(j,i)∈live↔(j<=mask/\w[j]?=some (some i)):=λj i=>by
  simp only[live,Vp,WN];constructor
  ·rintro ⟨k, K, q⟩
   rw[W1]at q;cases e:w[k]? with
   |none=>rw[e]at q;cases q
   |some o=>
    rw[e]at q;cases o with
    |none=>cases q
    |some n=>
     simp only[Option.getD_some,W7,W8,Prod.mk.injEq]at q;obtain⟨v,J⟩:=q;subst v;subst J;exact⟨by lia,e⟩
  ·rintro ⟨f, e⟩
   refine⟨j,by lia,?_⟩;rw[W1,e];rfl
 have H:(live.map 3e2).Pairwise (·<·):=by
  have gen:∀(l:List Nat),l.Pairwise (·<·)->((l.filterMap λj=>(w.getD j none).map (j,·)).map 3e2).Pairwise (·<·)/\∀x∈((l.filterMap λj=>(w.getD j none).map (j,·)).map 3e2),x∈l:=by
   intro l
   induction l with
   |nil=>intro _;exact⟨List.Pairwise.nil,λx X=>by simp at X⟩
   |cons a l I=>
    intro d;obtain⟨S,T⟩:=W9.mp d;obtain⟨y,r⟩:=I T;rw[UZ];cases q:(w.getD a none).map (a,·) with
    |none=>exact⟨y,λx X=>U1 _ (r x X)⟩
    |some p=>
     have L:p.1=a:=by
      cases Q:w.getD a none with
      |none=>rw[Q]at q;cases q
      |some i=>rw[Q]at q;cases q;rfl
     show (p.1::List.map _ _).Pairwise _/\∀x∈p.1::List.map _ _,x∈a::l;rw[L]
     exact⟨W9.mpr ⟨λx X=>S x (r x X),y⟩,λx X=>by
      rcases U2.mp X with z|z
      ·rw[z];exact U0
      ·exact U1 _ (r x z)⟩
  exact(gen _ Xa).1
 have g:live.Nodup:=by
  have:=H.imp (λh=>UV h);exact List.Pairwise.of_map 3e2 (λa b h e=>h (by rw[e])) this
 have Z:∀j i,(j,i)∈live->i<es.size:=λj i h=>by
  have:=O.lt j i ((hlive j i).mp h).2;simpa using this
 have D:(live.map (·.2)).Perm (List.range es.size):=by
  refine(Xc ?_ WQ).mpr λi=>?_
  ·refine Xd _ (λa b h=>?_) (List.Pairwise.and_mem.mp g);refine jr h λU μ E=>?_;intro e;have v:=((hlive a.1 a.2).mp U).2;have J:=((hlive b.1 b.2).mp μ).2;rw[<- e]at J;exact E (UP (O.inj _ _ _ v J) e)
  ·rw [WN, WM];constructor
   ·rintro⟨p,d,e⟩;rw[<- e];exact Z p.1 p.2 d
   ·intro W;refine bI (O.all i (es[i].1) (by rw[Wi,Wa,Xe W];rfl)) λj f q _=>?_;exact⟨(j,i),(hlive j i).mpr ⟨f,q⟩,rfl⟩
 let Z':List (Nat×Int×Value):=live.filterMap λp=>(es[p.2]?).map λe=>(p.1,e)
 have hZ1:Z'.map 3e2=live.map 3e2:=by
  have gen:∀l:List (Nat×Nat),(∀p∈l,p.2<es.size)->(l.filterMap λp=>(es[p.2]?).map λe=>(p.1,e)).map 3e2=l.map 3e2:=by
   intro l
   induction l with
   |nil=>intro _;rfl
   |cons p l I=>
    intro h;rw[UZ,Xe (h p U0)];show p.1::List.map _ _=p.1::List.map _ _;rw[I λq Q=>h q (U1 _ Q)]
  exact gen live λp d=>Z p.1 p.2 d
 have hZ2:Z'.map (·.2)=(live.map (·.2)).filterMap (es[·]?):=by
  have gen:∀l:List (Nat×Nat),(l.filterMap λp=>(es[p.2]?).map λe=>(p.1,e)).map (·.2)=(l.map (·.2)).filterMap (es[·]?):=by
   intro l
   induction l with
   |nil=>rfl
   |cons p l I=>
    rw[UZ,VX,UZ];cases es[p.2]? with
    |none=>exact I
    |some e=>show e::List.map _ _=e::_;rw[I]
  exact gen live
 have R:(List.range es.size).filterMap (es[·]?)=es.toList:=by
  have q:=wV es.toList;rw[VR]at q;simpa only[Wa] using q
 refine⟨{mask,place:=(live.map 3e2).toArray,dummies:=#[],finger:=t.finger,led:=t.led,moves:=t.movedTo mask,plain:=t.plain},(live.map (·.2)).toArray,Z',?_,⟨?_,?_,?_,λz m=>?_,rfl,λz m=>?_⟩,?_,rfl,rfl,rfl,D⟩
 ·unfold SetTable.relaid SetTable.laid;rw[hm,G,C];rfl
 ·show (live.map 3e2)=_;rw[hZ1]
 ·rw[hZ2];simp
 ·rw[hZ1];exact H
 ·have : z.1 ∈ live.map 3e2 := by rw [<- hZ1]; exact Xf m
  refine bz (WM.mp this) λp d q=>?_;rw[<- q];exact((hlive p.1 p.2).mp d).1
 ·refine bz (Vp.mp m) λp d q=>?_;rw[Xe (Z p.1 p.2 d)]at q;have N:z=(p.1,es[p.2]'(Z p.1 p.2 d)):=(UO q).symm;obtain⟨f,ho⟩:=(hlive p.1 p.2).mp d;obtain⟨j,a1,A,u,P,s,B⟩:=O.all p.2 (es[p.2]'(Z p.1 p.2 d)).1 (by rw[Wi,Wa,Xe (Z p.1 p.2 d)];rfl);have ejp:j=p.1:=O.inj _ _ _ A ho;refine⟨u,P,by rw[N];rw[ejp]at s;exact s,λk K=>?_⟩;obtain⟨n,c⟩:=B k K;rw[hZ1];have M:k<=mask:=jj (h:=(es[p.2]'(Z p.1 p.2 d)).1) (by rw[s];simp[K]);exact WM.mpr ⟨(k,n),(hlive k n).mpr ⟨M,c⟩,rfl⟩
 grind
noncomputable def prs:List 4e2:=((List.range 36).filter λn=>n / 6<n%6).map λn=>[((n / 6:Nat):Int),((n%6:Nat):Int)]
noncomputable def nO(ks:List Int):Int:=reduceHash (Builtin.Tuple.tupleHashOf (ks.map hashInt))
noncomputable def K2(mask:Nat):Bool:=prs.all λk=>(List.range (mask+1)).all λj=>(cV mask (nO k)).contains j
theorem TU:K2 7=true:=by decide +kernel
theorem KE:K2 31=true:=by decide +kernel
theorem Q9:(prs.map nO).Nodup:=by decide +kernel
theorem uD:prs.length=15:=by decide +kernel
theorem yG(h:K2 mask=true){ks:List Int}(d:ks∈prs):∀j,j<=mask->j∈cV mask (nO ks):=λj Z=>by
 have b:=Xg.mp (Xg.mp h ks d) j (WN.mpr 0e0);simpa using b
theorem NY(h:(l.map nO).Nodup){a b:List Int}(n:a∈l)(B:b∈l)(e:nO a=nO b):a=b:=by
 induction l with
 |nil=>simp at n
 |cons c l i=>
  grind
theorem Jy{a b:List Int}(n:a∈prs)(B:b∈prs)(e:nO a=nO b):a=b:=NY Q9 n B e
theorem oI{a b:Int}(H:0<=a)(c:a<b)(d:b<6):[a,b]∈prs:=by
 have:=(show ∀x:Nat,x<6->∀y:Nat,y<6->x<y->[(x:Int),(y:Int)]∈prs by decide +kernel) a.toNat 0e0 b.toNat 0e0 0e0
 grind
end RS
namespace RS
open PySem PyProof.Rows
abbrev KP:=List Int×Addr
structure dQ(w:World)(h:Heap)(a:Addr)(qs:List (Int×Value))(o:Obj)(es:Array (Int×Value))(ep:Nat)(t:SetTable)(Z:List (Nat×Int×Value)):Prop where
 ho:h.get? a=some o
 ex:o.ExactSet
 hd:o.data=.set es ep t
 tab:se t es Z
 plain:t.plain=true
 led:t.led=!w.params.followText "set-order"
 big:(t.mask=7/\Z.length<=4)\/(t.mask=31/\Z.length<=18)
 perm:(Z.map (·.2)).Perm qs
noncomputable def yl(p:KP):Int×Value:=(nO p.1,Value.ref p.2)
def cA(w:World)(h:Heap)(a:Addr)(ps:List KP):Prop:=∃o S z t Z,dQ w h a (ps.map yl) o S z t Z/\(∀p∈ps,p.1∈prs)/\(ps.map 3e2).Nodup
theorem dQ.len{o es ep t Z}(S:dQ w h a ps o es ep t Z):Z.length=ps.length:=by
 have:=S.perm.length_eq;simpa using this
theorem uO{ps:List KP}(d:∀p∈ps,p.1∈prs)(n:(ps.map 3e2).Nodup):ps.length<=15:=by
 have:=gx n (λx H=>by obtain⟨p,h,e⟩:=WM.mp H;rw[<- e];exact d p h)
 simp_all[uD]
theorem dQ.fits{o es ep t Z}(S:dQ w h a ps o es ep t Z):t.fits es.size=true:=by
 unfold SetTable.fits;rw[S.tab.fill,S.tab.size.1,S.tab.size.2];rcases S.big with⟨H,c⟩|⟨H,c⟩ <;> simp[H] <;> lia
theorem dQ.cov{o es ep t Z}(S:dQ w h a ps o es ep t Z)(d:k∈prs):∀j,j<=t.mask->j∈cV t.mask (nO k):=by
 rcases S.big with⟨H,c⟩|⟨H,c⟩ <;> rw[H]
 ·exact yG TU d
 ·exact yG KE d
theorem cA.keeps{ps:List KP}(S:cA w h a ps)(k:∀o,h.get? a=some o->h'.get? a=some o):cA w h' a ps:=by
 refine dz S λo e z t Z S d n=>?_;exact⟨o,e,z,t,Z,⟨k o S.ho,S.ex,S.hd,S.tab,S.plain,S.led,S.big,S.perm⟩,d,n⟩
section
abbrev Tk(prog:Program)(w:World)(h:Heap)(k:List Int)(r:Addr):Prop:=IsTupleKey (intKind prog w) h k r
theorem items_int{vs:1e5}(h:ItemsAre (intKind prog w) k vs):∀v∈vs,∃i t,v=.int i t:=by
 induction h with
 |nil=>intro v V;simp at V
 | @cons k a K vs H _ I=>
  intro v V;rcases U2.mp V with q|q
  ·obtain ⟨t, e⟩ := Value.isInt_shape H
   grind
  ·exact I v q
theorem xa{r:Addr}{Q:(Bool->Shared->Prop)}(d:Tk prog w 2e7 k r)(h:Q false s):wpAny 0e9 A (ofAClassStatement 8 (.ref r)) Q E s:=by
 have hT:=d.typeIs;refine eC d λo items n G j D H=>?_;unfold ofAClassStatement;refine Vd (VV hT ?_);refine Vd (Vg ?_);refine Vd (Wt G D ?_);refine Vd ?_;rw[<- Array.forIn_toList];refine Xh _ (λR r S=>r.1=none/\S=s/\∀v∈R,∃i t,v=.int i t) _ ?_ ?_ _ _ ⟨rfl,rfl,items_int H⟩
 all_goals simp_all[ofAClassStatement,Vg]
theorem rY{r:Addr}{Q:(Bool->Shared->Prop)}(d:Tk prog w 2e7 k r)(h:Q true s):wpAny 0e9 A (hashByValue 8 (.ref r)) Q E s:=by
 have hT:=d.typeIs;refine eC d λo items n G j D H=>?_;refine Vd (wpAny_specialOf hT F.slot_tuple_hash.lookup ?_);refine Vd (Wt G D ?_);refine Vd ?_;show wpAny _ _ (forIn items _ _) _ _ s;rw[<- Array.forIn_toList];refine Xh _ (λR r S=>r.1=none/\S=s/\∀v∈R,∃i t,v=.int i t) _ ?_ ?_ _ _ ⟨rfl,rfl,items_int H⟩
 all_goals simp_all[hashByValue,Vg]
theorem FA{r:Addr}{ys:1e5}{Q:(Bool->Shared->Prop)}(d:Tk prog w 2e7 k r)(μ:∀y∈ys,∃k' r',y=.ref r'/\Tk prog w 2e7 k' r')(h:Q false s):wpAny 0e9 A (searchCouldBeSeen (.ref r) ys) Q E s:=by
 refine Vd ?_;refine Xh _ (λR r' S=>r'.1=none/\S=s/\∀y∈R,∃k' r',y=.ref r'/\Tk prog w 2e7 k' r') _ ?_ ?_ _ _ ⟨rfl,rfl,μ⟩
 ·rintro v R q S ⟨b, rfl, L⟩
  refine bH (L v U0) λk' r' e H=>?_;subst e;have hrest:=λu a=>L u (U1 _ a);by_cases V:(r == r' || carriedByValue (Value.ref r)&&carriedByValue (Value.ref r'))=true
  ·rw[Vs V];exact Vg ⟨rfl,rfl,hrest⟩
  ·rw[Vt V];refine Vd (wpAny_eqIsQuiet_tuple d ?_);refine Vd (wpAny_eqIsQuiet_tuple H ?_);exact Vd (xa d (Vd (xa H (Vg ⟨rfl,rfl,hrest⟩))))
 simp_all[Vg]
end
end RS
variable{qs:List RS.KP}
namespace RS
open PySem PyProof.Rows
section
theorem En{ps:List KP}{o es ep t Z}(S:dQ w h a (ps.map yl) o es ep t Z)(hz:z∈Z):∃p∈ps,z.2=(nO p.1,Value.ref p.2):=by
 have:z.2∈Z.map (·.2):=Xf hz;refine bz (WM.mp (S.perm.mem_iff.mp this)) λp d e=>?_;exact⟨p,d,e.symm⟩
theorem Of{ps:List KP}{o es ep t Z}(S:dQ w h a (ps.map yl) o es ep t Z){p:KP}(d:p∈ps):∃z∈Z,z.2=(nO p.1,Value.ref p.2):=by
 have:yl p∈ps.map yl:=Xf d;refine bz (WM.mp (S.perm.mem_iff.mpr this)) λz H e=>?_;exact⟨z,H,e⟩
theorem Bd{r:Addr}{ps:List KP}{o es ep t Z}{Q:SetFound->Shared->Prop}(S:dQ w 2e7 a (ps.map yl) o es ep t Z)(m:∀p∈ps,p.1∈prs)(G:k∈prs)(N:Tk prog w 2e7 k r)(c:∀p∈ps,Tk prog w 2e7 p.1 p.2)(W:A.units<cLine)(X:k∈ps.map 3e2->Q (.there none) s)(μ:k∉ps.map 3e2->∀j pre post,j<=t.mask->j∉Z.map 3e2->cV t.mask (nO k)=pre++j::post->(∀x∈pre,x∈Z.map 3e2)->Q (.free j false) s):
  wpAny 0e9 A (setSearch a (.ref r) (nO k) true) Q E s:=by
 have D:t.gaveWay=false:=by
  unfold SetTable.gaveWay;rcases S.big with⟨q,_⟩|⟨q,_⟩ <;> rw[q] <;> decide
 have hz:Z.length<=t.mask:=by rcases S.big with⟨q,J⟩|⟨q,J⟩ <;> lia
 unfold setSearch setSearchFrom;refine Vd (Xi S.ho S.hd S.fits ?_);dsimp only;rw[D];simp only[Wl,VO];generalize v:SetTable.probe t _ (nO k) (Option.getD none (t.probeStart (nO k)))=P
 have key:∀(hA:Nat->Int) P,(∀i z,Z[i]?=some z->hA i=z.2.1)->t.probe hA (nO k) (t.probeStart (nO k))=P ->
   (∃i z nx,Z[i]?=some z/\z.2.1=nO k/\P=some (.candidate z.1 i nx)) \/
   ((∀z∈Z,z.2.1≠nO k)/\∃j pre post,P=some (.empty j none)/\j<=t.mask/\j∉Z.map 3e2/\cV t.mask (nO k)=pre++j::post/\∀x∈pre,x∈Z.map 3e2):=λhA P hAe e=>by
  subst e;exact S.tab.search (S.cov G) hz hA hAe
 rcases key _ P (λi z I=>by show (Option.map 3e2 es[i]?).getD 0=_;rw[S.tab.hashAt I];rfl) v with⟨i,z,nx,I,g,e⟩|⟨O,j,pre,post,e,V,F,U,b⟩
 ·subst e;dsimp only;have M:=VH I;refine bz (En S M) λp b d=>?_;have K:=Jy (m p b) G (by rw[<- g,d]);have h:k∈ps.map 3e2:=by rw[<- K];exact Xf b
  have R:wpAny 0e9 A (do
    let some (_,y):=es[i]? | unsupported "internal:set-entry"
    let equal <- holding [y] (eqBool y (.ref r))
    let (es',_,t') <- setState a
    if true&&equal then return SetFound.there none
    let some same:=t'.sameMemory t.moves t.mask|unsupported "set.changed-during-lookup:is-the-new-block-at-the-old-address"
    let still <- match (if same then t'.slot z.1 else .empty) with
     |.live f=>match es'[f]? with
      |some (_,y')=>do pure (if <- isSame y' y then some f else none)
      |none=>pure none
     |_=>pure none
    match still with
    |none=>rule "set.search.anew";setSearchFrom a (.ref r) (nO k) true 99999 none
    |some f=>if equal then return .there (some f) else setSearchFrom a (.ref r) (nO k) true 99999 (some nx)) Q E s:=by
   rw[S.tab.hashAt I,d];refine Vd (Ve (wpAny_eqBool_tuple W (c p b) N ?_));refine Vd (Xi S.ho S.hd S.fits ?_);rw[K];simp;exact Vg (X h)
  by_cases L:(!t.led)=true
  ·rw [Vs L];refine Vd (FA N (λy hy=>?_) ?_)
   ·refine bz (WM.mp hy) λT l q => ?_
    have H:T∈es.toList:=by
     have:=Array.mem_filter.mp (Xj.mp l);exact Xj.mpr this.1
    rw[S.tab.ents]at H;refine bz (WM.mp H) λz' B J=>?_;refine bz (En S B) λC n q3=>?_;exact⟨C.1,C.2,by rw[<- q,<- J,q3],c C n⟩
   ·simp;exact R
  ·rw[Vt L];exact R
 ·subst e;refine Vg (μ (λh=>?_) j pre post V F U b);obtain⟨p,u,K⟩:=WM.mp h;obtain⟨z,M,g⟩:=Of S u;exact O z M (by rw[g,<- K])
end
noncomputable def ia(ps:List KP)(k:List Int)(r:Addr):List KP:=if k∈ps.map 3e2 then ps else ps++[(k,r)]
section
theorem DG{r:Addr}{ps:List KP}{Q:(Bool->Shared->Prop)}(S:cA w 2e7 a ps)(hk:k∈prs)(hr:Tk prog w 2e7 k r)(μ:∀p∈ps,Tk prog w 2e7 p.1 p.2)(hu:A.units<cLine)(h:∀b h',Heap.SameBut a 2e7 h'->cA w h' a (ia ps k r)->Q b {s with heap:=h'}):wpAny 0e9 A (setAddHashed a (.ref r) (nO k)) Q E s:=by
 refine dz S λo i P t Z S v N=>?_;unfold setAddHashed setAddHashedIn;refine Ve (Vd (Xi S.ho S.hd S.fits ?_));dsimp only;have O:byScan (Value.ref r) i=false:=rfl;rw[O];simp only[Wl];refine Vd (Bd S v hk hr μ hu (λn=>?_) λn j pre post hj hn e hp=>?_)
 ·dsimp only;refine Vg ?_;have q:=h false 2e7 (Heap.SameBut.refl a 2e7) (by unfold ia;rw[Vs n];exact⟨o,i,P,t,Z,S,v,N⟩);cases s;exact q
 ·dsimp only;refine Vd (Xi S.ho S.hd S.fits ?_);dsimp only;obtain⟨G,T,hperm,I⟩:=S.tab.put hj hn e hp;have e2:(t.put j).2=SetTable.below t.place j:=rfl;have L:(t.put j).1.plain=true:=by rw[I];exact S.plain
  have d:(t.put j).1.led=t.led:=by rw[I]
  have hmask:(t.put j).1.mask=t.mask:=by rw[I]
  have hperm':(G.map (·.2)).Perm ((ps++[(k,r)]).map yl):=by
   have q1:=hperm.map (·.2);refine q1.trans ?_;rw[WT];refine List.Perm.trans (List.Perm.cons _ S.perm) ?_;exact(List.perm_append_singleton _ _).symm
  have hkeys:∀p∈ps++[(k,r)],p.1∈prs:=λp x=>by
   grind
  have D:((ps++[(k,r)]).map 3e2).Nodup:=by
   grind
  have hlen15:=uO hkeys D;have hZ':G.length=ps.length+1:=by rw[hperm.length_eq,Wd,S.len,Wb]
  have z:=T.size.2;have l:ia ps k r=ps++[(k,r)]:=by unfold ia;rw[Vt n]
  rw[l]at h;rw[V6,V7]at hlen15;generalize ht1:(t.put j).1=t1 at *;generalize hes1:SetTable.insertAt i (t.put j).2 (nO k,Value.ref r)=es1 at *;have hline:es1.size<=sizeLine:=by rw[z,hZ'];exact UX hlen15 1e0
  rw[L];simp;refine Vd (rY hr ?_);simp;refine Vd (Xk S.ho S.hd ?_ hline)
  have U:(s.heap.update a (Obj.putSet es1 t1)).get? a=some {o with data:=.set es1 (P+1) t1}:=by
   have:=V0 (Obj.putSet es1 t1) S.ho (by rw[Xl es1 t1 S.hd];rfl);rw[Xl es1 t1 S.hd]at this;exact this
  have f:=Ww 2e7 a (Obj.putSet es1 t1);have hfill:t1.fill=ps.length+1:=by rw[T.fill,hZ']
  by_cases hfull:t1.tooFull=true
  ·simp [hfull]
   have H:t.mask=7/\ps.length=4:=by
    unfold SetTable.tooFull at hfull;rw[hfill,hmask]at hfull;have F:(ps.length+1)*5 ≥ t.mask*3:=by simpa using hfull
    have hl:=S.len;rw[Wb]at hl;rcases S.big with⟨q,V⟩|⟨q,V⟩
    ·rw[q]at F;exact⟨q,by lia⟩
    ·rw[q]at F;lia
   have u:i.size=4:=by rw[S.tab.size.2,S.len,Wb,H.2]
   have g:es1.size=5:=by rw[z,hZ',H.2]
   have R:SetTable.grown (i.size+1)=20:=by rw[u];rfl
   rw[R];unfold setRelay
   have hfits1:t1.fits es1.size=true:=by
    unfold SetTable.fits;rw[T.fill,T.size.1,z,hmask,H.1,hZ',H.2];rfl
   refine Vd (Vd (Xi U rfl hfits1 ?_));dsimp only;rw[Vt 1e0]
   obtain⟨C,order,Z2,er,W,y,M,K,B,_⟩:=qB (wanted:=20) (by rfl) (by rw[g];decide) (λe' m=>by
    rw[T.ents]at m;refine bz (WM.mp (hperm'.mem_iff.mp m)) λp x q=>?_;rw[<- q]
    exact yG KE (hkeys p x))
   rw[er]
   have hZ2:Z2.length=5:=by
    have:=y.length_eq;simp at this
    lia
   have c:(order.filterMap (es1[·]?)).size=5:=by rw[W.size.2,hZ2]
   have X:((order.filterMap (es1[·]?)).size != es1.size)=false:=by rw[c,g];rfl
   refine Vd ?_;show wpAny _ A (if ((order.filterMap (es1[·]?)).size != es1.size)=true then _ else _) _ _ _;rw[X];simp only[Wl,VO];refine Vg ?_;refine Xk U rfl ?_ (by rw[c];decide)
   have J:((s.heap.update a (Obj.putSet es1 t1)).update a (Obj.putSet (order.filterMap (es1[·]?)) C)).get? a=some {o with data:=.set (order.filterMap (es1[·]?)) (P+1+1) C}:=by
    have:=V0 (Obj.putSet (order.filterMap (es1[·]?)) C) U (by rfl);rw[Xl _ C rfl]at this;exact this
   refine Vg ?_;refine h true _ (f.trans (Ww _ a _)) ⟨_,_,_,C,Z2,⟨J,S.ex,rfl,W,by rw[B];exact L,by rw[K,d];exact S.led,.inr ⟨M,by lia⟩,?_⟩,hkeys,D⟩;refine y.trans ?_;rw[T.ents];exact hperm'
  ·have F : t1.tooFull = false := by simpa using hfull
   simp only[F,V8,Wl,VO];refine Vg ?_;refine h true _ f ⟨_,_,_,t1,G,⟨U,S.ex,rfl,T,L,by rw[d];exact S.led,?_,hperm'⟩,hkeys,D⟩;unfold SetTable.tooFull at F;rw[hfill,hmask]at F;have hf':¬ ((ps.length+1)*5 ≥ t.mask*3):=by simpa using F
   rw[hmask,hZ'];rcases S.big with⟨q,V⟩|⟨q,V⟩
   all_goals lia
end
noncomputable def fg(q:List KP):List KP:=q.foldl (λS p=>ia S p.1 p.2) []
theorem x6(q:List KP)(p:KP):fg (q++[p])=ia (fg q) p.1 p.2:=by simp[fg]
theorem qt{ps:List KP}{r:Addr}{p:KP}(h:p∈ia ps k r):p∈ps\/p=(k,r):=by
 grind [ia]
theorem n6:∀{qs ps:List KP}{p:KP},p∈qs.foldl (λps p=>ia ps p.1 p.2) ps->p∈ps\/p∈qs
 |[],_,_,h=>.inl h
 |q::qs,ps,p,h=>by
  rw[W5]at h;rcases n6 h with z|z
  ·rcases qt z with z | z
   ·exact .inl z
   ·exact .inr (by rw[z];exact U0)
  ·exact .inr (U1 _ z)
theorem lS{p:KP}(h:p∈fg qs):p∈qs:=(n6 h).elim (λz=>by simp at z) id
theorem qK{ps:List KP}{r:Addr}(h:(ps.map 3e2).Nodup):((ia ps k r).map 3e2).Nodup:=by
 unfold ia
 grind
theorem ll:∀{qs ps:List KP},(ps.map 3e2).Nodup->((qs.foldl (λps p=>ia ps p.1 p.2) ps).map 3e2).Nodup:=by
 intro x;cases x <;> simp_all[ll,qK]
theorem vv:((fg qs).map 3e2).Nodup:=ll WZ
noncomputable def pA (w:World):Bool:=!w.params.followText "set-order"
theorem nY(e:h.get? a=some {cls:=.type "set",dict:=none,data:=.set #[] 0 (.fresh 0 0 (pA w))}):cA w h a []:=
 ⟨_,_,_,_,[],⟨e,⟨rfl,rfl,rfl⟩,rfl,⟨rfl,rfl,List.Pairwise.nil,λz Z=>by simp at Z,rfl,λz Z=>by simp at Z⟩,rfl,rfl,.inl ⟨rfl,by decide⟩,List.Perm.nil⟩,λp d=>by simp at d,WZ⟩
section
variable{R:(Result->Shared->Prop)}{wr:3e4}{G:Array GenState->Array GenState->Prop}{P:Nat->Value->Prop}{St:Nat->Shared->Prop}
structure GO(prog:Program)(w:World)(u:Nat)(S:Addr)(vs:1e5)(J:(Nat->Heap->Prop)):Prop where
 keep:∀i h h',(∀b o,b<=S->h.get? b=some o->h'.get? b=some o)->J i h->J i h'
 add:∀(A:Around)(i:Nat)(v:Value)(s:Shared)(E:3e3)(Q:(Bool->Shared->Prop)),A.units<=u->vs[i]?=some v->J i 2e7 ->
  (∀b h' tk,s.toks<=tk->Heap.SameBut S 2e7 h'->J (i+1) h'->Q b {s with heap:=h',toks:=tk})->wpAny 0e9 A (setAdd S v) Q E s
theorem FE{u:Nat}{vs:1e5}(W:WalksS prog w A.in1 I fp wr G vs.length P St)(S:Addr)(hSf:S∉fp)(r:∀b∈wr,S<b)(hP:∀(i:Nat) v,P i v->vs[i]?=some v)(hJ:GO prog w u S vs J)(U:A.units+1<=u):
  ∀(k i:Nat)(s:Shared),vs.length-i=k->i<=vs.length->St i s->J i 2e7 ->
   (∀s',Moved (S::wr) G s s'->J vs.length s'.heap->R (.ok (.ret .none)) s') ->
   codeAny 0e9 A (.builtin "set.update.loop" ⟨[.ref S,.ref I],[]⟩) R s:=by
 have h:∀b∈wr,b∈S::wr:=λb B=>U1 _ B;have H:∀b,b<=S->b∉wr:=λb B z=>UU _ (UT (r b z) B);intro k
 induction k with
 |zero=>
  intro i s K f d hS hR;have n:i=vs.length:=by lia
  subst n;exact Xm F.entry_set_update_loop (Vd (W.done s _ _ d λs' m=>(Vg (hR s' (m.mono h) (hJ.keep _ _ _ (λb o B e=>m.heap b o (H b B) e) hS)))))
 |succ k g=>
  intro i s K f d hS hR;have t:i<vs.length:=by lia
  refine Xm F.entry_set_update_loop ?_;refine Vd (W.item i s _ _ t d λv s' hPv C m=>?_);refine Vd (Ve ?_);refine hJ.add A.in1 i v s' _ _ (by show A.units+1<=u;exact U) (hP i v hPv) (hJ.keep i _ s'.heap (λb o B e=>m.heap b o (H b B) e) hS) λb c j T a hS2=>?_;have hkeep:∀b o,b≠S->s'.heap.get? b=some o->c.get? b=some o:=λb o B e=>(a.2 b B).trans e;refine Vg ⟨Xn F.plain_set_update_loop _,g (i+1) _ 0e0 t (W.frame _ s' _ _ C T λb B o e=>hkeep b o (λz=>hSf (by rw[<- z];exact B)) e) hS2 λs'' hm'' hS''=>?_⟩;refine hR s'' (Moved.trans W.gtrans ((m.mono h).then_heap T λb o B e=>?_) hm'') hS''
  simp_all
end
section
theorem vp(a:Value){Q1:3e3}
  (h:Q1 (.ref 0e2) {s with heap:=s.heap.push {cls:=.type "set",dict:=none,data:=.set #[] 0 (.fresh 0 0 (pA w))}}) :
  codeAny 0e9 A (.call (.builtin "set.__new__") ⟨[.type "set",a],[]⟩) (wants Q1 E) s:=by
 refine Wj ?_;refine Vd (Wn (F.newCall_set_1 a) (Vg ⟨Xn F.plain_set_new _,Xm F.entry_set_new ?_⟩));have b:=sub_set_self
 wp_walk
 refine Wm (Vg ?_);exact Vd (wpAny_alloc (Vg (Vg h)))
namespace F
theorem sub_list_set:isSubtype (.type "list") (.type "set")=pure false:=by rfl
theorem sub_list_frozenset:isSubtype (.type "list") (.type "frozenset")=pure false:=by rfl
end F
theorem mJ{l:Addr}{items:5e5}(hh:(A.handled=none))(hl:s.heap.IsList l items)(hJ:GO prog w (A.units+20) 0e2 items.toList J)(h0:∀h',(∀b o,s.heap.get? b=some o->h'.get? b=some o)->h'.get? 0e2=some {cls:=.type "set",dict:=none,data:=.set #[] 0 (.fresh 0 0 (pA w))}->J 0 h')(h:∀(h':Heap)(tk:Nat),J 3e9 h'->(∀b o,b<s.heap.objs.size->s.heap.get? b=some o->h'.get? b=some o)->Q (.ref 0e2) {s with heap:=h',toks:=tk}):
  wpAny 0e9 A (call (.type "set") [.ref l]) Q E s:=by
 obtain⟨c,tl,x⟩:=Xo.mro;have hmade:=Xo.made;have z:=Xo.sub;refine wpAny_call (Wj ?_);show wpAny _ _ (callAny (.type "set") _) _ _ _;refine Vg ⟨Xp _ (by decide +kernel),Xm PySem.F.entry_type_call ?_⟩;rw[Around.under_plain (weight_type_call_type "set" [.ref l] []) rfl];have h1:=Xo.notType;have h2:=Xo.canCreate;have hct:=PySem.F.typeCall_set_1 (.ref l)
 repeat (any_goals (first|assumption|wp_step))
 refine Vv (vp (.ref l) (E:=E) (Q1:=λobj C=>obj=.ref 0e2/\C={s with heap:=s.heap.push {cls:=.type "set",dict:=none,data:=.set #[] 0 (.fresh 0 0 (pA w))}}) ⟨rfl,rfl⟩) λr C u=>?_;cases r with
 |error e=>exact u
 |ok Z=>
  cases Z with
  |ret obj=>
   obtain⟨rfl,rfl⟩:=u;generalize D:pA w=led;have hS:(s.heap.push {cls:=.type "set",dict:=none,data:=.set #[] 0 (.fresh 0 0 led)}).get? 0e2=some {cls:=.type "set",dict:=none,data:=.set #[] 0 (.fresh 0 0 led)}:=UR _ rfl;have hTy:Shared.TypeIs {s with heap:=s.heap.push {cls:=.type "set",dict:=none,data:=.set #[] 0 (.fresh 0 0 led)}} (.ref 0e2) "set" := ⟨_,hS,rfl⟩;have hli:=Xo.init.lookup;have hbi:=Xo.init.bind (.ref 0e2)
   repeat (any_goals (first|assumption|wp_step))
   refine Vv (codeAny_call_builtin (R:=wants (λr K=>r=.none/\∃h' tk,K={s with heap:=h',toks:=tk}/\J 3e9 h' /\
     (∀b o,b<s.heap.objs.size->s.heap.get? b=some o->h'.get? b=some o)) E) Xo.init.plain PySem.F.entry_set_init (check_set_init_1 hTy ?_)) λr2 K H=>?_
   ·obtain ⟨ol, f, L, N, a⟩ := hl;obtain⟨ocls,odict,odata,oslots⟩:=ol;simp only at L a;subst L;subst a;have g:(s.heap.push {cls:=.type "set",dict:=none,data:=.set #[] 0 (.fresh 0 0 led)}).get? l=some {cls:=.type "list",dict:=odict,data:=.seq items N,slots:=oslots}:=Vi _ f;have S:=F.sub_list_set;have y:=F.sub_list_frozenset;have hne:(Value.type "list" == Value.type "dict")=false:=by decide
    have d:(s.heap.push {cls:=.type "set",dict:=none,data:=.set #[] 0 (.fresh 0 0 led)}).IsList l items:=⟨_,g,rfl,N,rfl⟩;unfold Builtin.«set.__init__» noKeywords Builtin.Frozenset.updateFrom;generalize hPI:pyIter=PI
    wp_walk
    subst hPI;refine Xq d ?_;refine Vd (wpAny_runValue ?_);have hlS:l<s.heap.objs.size:=US f;have p:A.in1.in1.in1.handled=none:=by simp[hh]
    have hneI:l≠(s.heap.push {cls:=.type "set",dict:=none,data:=.set #[] 0 (.fresh 0 0 led)}).objs.size:=by
     rw[Wg];exact UV (Wf hlS)
    have hSf:0e2 ∉ [(s.heap.push {cls:=.type "set",dict:=none,data:=.set #[] 0 (.fresh 0 0 led)}).objs.size,l]:=by
     rw[Wg];simp only[U2,Wz,WA,WB,not_or];exact⟨UV (We _),Vl hlS⟩
    have W:=(Xr (prog:=prog) (w:=w) p (s.heap.push {cls:=.type "set",dict:=none,data:=.set #[] 0 (.fresh 0 0 led)}).objs.size l hneI items).toS;rw[show items.size=items.toList.length by rw[VR]]at W
    refine FE W 0e2 hSf (λb B=>?_) (λi v hv=>by rw[Wa];exact hv) hJ (by simp only[Around.in1];lia) (items.toList.length-0) 0 _ 0e0 (Wo _)
     ⟨⟨_,UR _ rfl,rfl,rfl⟩,?hL⟩ ?hS0 ?hR
    case hL=>
     obtain⟨o,ho,t⟩:=d;exact⟨o,Vi _ ho,t⟩
    case hS0=>
     refine h0 _ (λb o e=>Vi _ (Vi _ e)) ?_;rw[D];exact Vi _ hS
    case hR=>
     intro s' m hS';obtain⟨h',V,M,T,O⟩:=s';have X:V=s.gens:=m.gens;have U:M=s.drawn:=m.drawn;have μ:O=s.os:=m.os;subst X;subst U;subst μ;show wpAny _ _ _ _ _ _;refine Vg ?_;show wpAny _ _ (ret Value.none) _ _ _;refine Vg ⟨rfl,h',T,rfl,by rw[VR]at hS';exact hS',λb o B e=>?_⟩;have k:b≠s.heap.objs.size:=UV B
     have n:b≠(s.heap.push {cls:=.type "set",dict:=none,data:=.set #[] 0 (.fresh 0 0 led)}).objs.size:=by
      rw[Wg];exact UV (Wf B)
     exact m.heap b o (by simp only[U2,Wz,WA,WB,not_or];exact⟨k,n⟩) (Vi _ (Vi _ e))
    simp_all
   ·cases r2 with
    |error e=>exact H
    |ok j=>
     cases j with
     |ret r=>
      obtain⟨rfl,h',tk,rfl,hS',q⟩:=H
      repeat (any_goals (first|assumption|wp_step))
      exact h _ _ hS' q
     |_=>exact H.elim
  |_=>exact u.elim
theorem zE{S:Addr}{u:Nat}(K:∀p∈qs,p.1∈prs)(hS:∀p∈qs,p.2<S)(U:u<cLine):GO prog w u S (qs.map λp=>Value.ref p.2) (λi h=>cA w h S (fg (qs.take i))/\∀p∈qs,Tk prog w h p.1 p.2):=by
 have keepT:∀{a c:Heap}{q:KP},q∈qs->(∀b o,b<S->a.get? b=some o->c.get? b=some o)->Tk prog w a q.1 q.2->Tk prog w c q.1 q.2:=λ{a c q} z N t=>by
  refine pz t λo items n O r=>?_;exact⟨o,items,n,N _ o (hS q z) O,r⟩
 refine⟨λi h d H ⟨J,j⟩=>⟨J.keeps λo e=>H S o (Vn _) e,λp f=>keepT f (λb o B e=>H b o (UY B) e) (j p f)⟩,λA i v s E Q hA V ⟨J,j⟩ hQ=>?_⟩;rw[Wi]at V;cases e:qs[i]? with
 |none=>rw[e]at V;cases V
 |some p=>
  rw[e]at V;cases V;have m:=VH e;refine Ve ?_;refine Vd (wpAny_pyHash_tuple 0e0 (j p m) ?_);refine DG J (K p m) (j p m) (λq z=>j q (WX (lS z))) 0e0 λb d k hS2=>?_;have etk:qs.take (i+1)=qs.take i++[p]:=by rw[Xs,e];rfl
  refine hQ b d _ (Nat.le_add_right _ _) k ⟨by simp_all[x6],λq z=>keepT z (λb o B e=>(k.2 b (UV B)).trans e) (j q z)⟩
theorem NF(hT:∀p∈qs,Tk prog w 2e7 p.1 p.2):∀p∈qs,p.2<s.heap.objs.size:=λp d=>by
 refine pz (hT p d) λo _ _ h _=>?_;exact US h
theorem xS{l:Addr}{items:5e5}(a:(A.handled=none))(L:s.heap.IsList l items)(H:items.toList=qs.map λp=>Value.ref p.2)(d:∀p∈qs,p.1∈prs)(hT:∀p∈qs,Tk prog w 2e7 p.1 p.2)(U:A.units+20<cLine)(h:∀(h':Heap)(tk:Nat),cA w h' 0e2 (fg qs)->(∀b o,b<s.heap.objs.size->s.heap.get? b=some o->h'.get? b=some o)->Q (.ref 0e2) {s with heap:=h',toks:=tk}):
  wpAny 0e9 A (call (.type "set") [.ref l]) Q E s:=by
 have N:items.size=qs.length:=by rw[<- VR,H,Wb]
 refine mJ a L (H ▸ zE d (NF hT) U) (λh' k e=>⟨nY e,λp c=>?_⟩) λh' tk ⟨J,_⟩=>h h' tk ?_
 ·obtain⟨o,i,n,O,r⟩:=hT p c;exact⟨o,i,n,k _ _ O,r⟩
 grind
end
end RS
namespace RS
open PySem PySem.W PyProof.Rows
structure eT(n:Nat)(p:Array Nat):Prop where
 size:p.size=n
 perm:p.toList.Perm (List.range n)
noncomputable def at'(key:Nat->Int)(p:Array Nat)(k:Nat):Int:=key (p.getD k 0)
def Gp(key:Nat->Int)(p:Array Nat)(m:Nat):Prop:=∀i j,i<j->j<m->at' key p i<at' key p j
def GN(key:Nat->Int)(p:Array Nat)(m:Nat):Prop:=∀i j,i<j->j<m->at' key p j<at' key p i
section
variable{key:Nat->Int}{cmp:Nat->Nat->(Bool->Shared->Prop)->Shared->Prop}{p:Array Nat}
theorem eT.lt(g:eT n p){k:Nat}(d:k<n):p.getD k 0<n:=by
 have S:k<p.size:=by rw[g.size];exact d
 have:p[k]∈p.toList:=by rw[Xj];exact Array.getElem_mem S
 have:=g.perm.mem_iff.mp this
 simp_all
theorem eT.inj(g:eT n p){k k':Nat}(d:k<n)(H:k'<n)(e:p.getD k 0=p.getD k' 0):k=k':=by
 refine(U6 (h₀:=(by rw[VR,g.size];exact d)) (h₁:=(by rw[VR,g.size];exact H)) (g.perm.nodup_iff.mpr WQ)).mp ?_;have h:k<p.size:=by rw[g.size];exact d
 have c:k'<p.size:=by rw[g.size];exact H
 simp_all
variable(hkey:∀i j,i<n->j<n->key i=key j->i=j)(hc:∀i j,i<n->j<n->∀C:Bool->Shared->Prop,C (decide (key i<key j)) s->cmp i j C s)
include hkey in
theorem DD(g:eT n p){k k':Nat}(d:k<n)(H:k'<n)(h:k≠k'):at' key p k≠at' key p k':=λe=>h (g.inj d H (hkey _ _ (g.lt d) (g.lt H) e))
include hkey hc
theorem yN(g:eT n p):∀(f m:Nat)(Q:Nat->Shared->Prop),1<=m->m+f<=n->Gp key p m->(∀m',m<=m'->m'<=m+f->Gp key p m'->(m'=m+f\/at' key p m'<at' key p (m'-1))->Q m' s)->(kas_asc p f m).kasWp cmp Q s
 |0,m,Q,o,q,H,hQ=>hQ m (Vn _) (Vn _) H (.inl rfl)
 |f+1,m,Q,o,q,H,hQ=>by
  refine hc _ _ (g.lt 0e0) (g.lt 0e0) _ ?_;by_cases h:key (p.getD m 0)<key (p.getD (m-1) 0)
  ·rw[Xu h];(show (if true=true then _ else _:KasT _).kasWp cmp _ s);rw[Vs rfl];exact hQ m (Vn _) 0e0 H (.inr h)
  ·rw [UQ h]; (show (if false = true then _ else _ : KasT _).kasWp cmp _ s); rw [Vt V9];have r:=DD hkey g (k:=m) (k':=m-1) 0e0 0e0 0e0;have t:at' key p (m-1)<at' key p m:=by unfold at' at *;lia
   refine yN g f (m+1) Q 0e0 0e0 (λi j J Z=>?_) (λm' a b c d=>hQ m' 0e0 0e0 c (d.elim (λe=>.inl 0e0) .inr));by_cases l:j=m
   ·subst l;by_cases E:i=j-1
    ·rw[E];exact t
    ·have:=H i (j-1) 0e0 0e0;lia
   ·exact H i j J 0e0
theorem AL(g:eT n p):∀(f m:Nat)(Q:Array Nat×Nat×Nat->Shared->Prop),1<=m->m+f<=n->GN key p m->(∀m',m<=m'->m'<=m+f->GN key p m'->Q (p,m',0) s)->(kas_desc f p m 0).kasWp cmp Q s
 |0,m,Q,l,o,H,hQ=>hQ m (Vn _) (Vn _) H
 |f+1,m,Q,l,o,H,hQ=>by
  refine hc _ _ (g.lt 0e0) (g.lt 0e0) _ ?_;by_cases h:key (p.getD m 0)<key (p.getD (m-1) 0)
  ·rw [Xu h]; (show (if true = true then _ else _ : KasT _).kasWp cmp _ s); rw [Vs rfl];refine AL g f (m+1) Q 0e0 0e0 (λi j J Z=>?_) (λm' a b c=>hQ m' 0e0 0e0 c);by_cases d:j=m
   ·subst d;by_cases E:i=j-1
    ·rw[E];exact h
    ·have := H i (j - 1) 0e0 0e0;have:at' key p j<at' key p (j-1):=h
     lia
   ·exact H i j J 0e0
  ·rw[UQ h];(show (if false=true then _ else _:KasT _).kasWp cmp _ s);rw[Vt V9];refine hc _ _ (g.lt 0e0) (g.lt 0e0) _ ?_;have e:=DD hkey g (k:=m) (k':=m-1) 0e0 0e0 0e0;rw[Xu (by unfold at' at e;lia)];(show (if true=true then _ else _:KasT _).kasWp cmp _ s);rw[Vs rfl];exact hQ m (Vn _) 0e0 H
omit hkey hc in
theorem pN{p p':Array Nat}{k k':Nat}(h:p[k]?=p'[k']?):at' key p k=at' key p' k':=by
 simp_all[at']
omit hkey hc in
theorem sY{p':Array Nat}(g:eT n p)(h:p'.Perm p)(hs:p'.size=p.size):eT n p':=⟨hs.trans g.size,(Array.perm_iff_toList_perm.mp h).trans g.perm⟩
omit hkey hc in
theorem HW(g:eT n p)(d:m<=n)(D:GN key p m):eT n (kas_rev p 0 m)/\Gp key (kas_rev p 0 m) m:=by
 have S:m<=p.size:=by rw[g.size];exact d
 refine⟨sY g (mirror_perm _ _ _ _) (mirror_size _ _ _ _),λi j J Z=>?_⟩;have E:at' key (kas_rev p 0 m) i=at' key p (0+m-1-i):=pN (by unfold kas_rev;rw[getElem?_mirror_all S,Vs ⟨Wo _,by lia⟩]);rw[E,(show at' key (kas_rev p 0 m) j=at' key p (0+m-1-j) from pN (by unfold kas_rev;rw[getElem?_mirror_all S,Vs ⟨Wo _,by lia⟩]))];exact D _ _ 0e0 0e0
theorem ED(g:eT n p)(H:1<=m)(M:m<=n)(D:GN key p m)(Q:Nat×Array Nat->Shared->Prop)(hQ:∀m' p',eT n p'->1<=m'->m'<=n->Gp key p' m'->Q (m',p') s):(kas_tail3 m n p).kasWp cmp Q s:=by
 obtain⟨i,h⟩:=HW g M D;unfold kas_tail3;rw[Xv];exact yN hkey hc i (n-m) m _ H 0e0 h λm' a b c d=>hQ m' _ i 0e0 0e0 c
theorem F2(g:eT n p)(h:2<=n)(Q:Nat×Array Nat->Shared->Prop)(hQ:∀m' p',eT n p'->1<=m'->m'<=n->Gp key p' m'->Q (m',p') s):(kas_count n p).kasWp cmp Q s:=by
 unfold kas_count;rw[Xv];refine yN hkey hc g (n-1) 1 _ (Vn _) 0e0 (λi j J Z=>by lia) λm a b c d=>?_;by_cases e:m=n
 ·rw[Vs (by simpa using e)];exact hQ m p g a 0e0 c
 ·rw [Vt (by simpa using e)];by_cases H:m>1
  ·rw[Vs H];refine hc _ _ (g.lt 0e0) (g.lt 0e0) _ ?_;rw[Xu (show key (p.getD 0 0)<key (p.getD (m-1) 0) from (c 0 (m-1) 0e0 0e0))];(show (if true=true then _ else _:KasT _).kasWp cmp _ s);rw[Vs rfl];exact hQ m p g a 0e0 c
  ·rw [Vt H];have M:m=1:=by lia
   subst M;unfold kas_descPart;rw[Xv];refine AL hkey hc g (n-(1+1)) (1+1) _ 0e0 0e0 (λi j J Z=>?_) λm' A B F=>?_
   ·have E : i = 0 := by lia
    rw[E,(show j=1 by lia)];exact(d.elim (λf=>by lia) id)
   ·show (if (0:Nat)>0 then _ else _:KasT (Nat×Array Nat)).kasWp cmp Q s;exact ED hkey hc g 0e0 0e0 F Q hQ
theorem pZ(g:eT n p){k:Nat}(d:k<n)(a:Gp key p k):∀(f l r:Nat)(Q:Nat->Shared->Prop),l<=r->r<=k->r-l<=f->(∀i,i<l->at' key p i<at' key p k)->(∀i,r<=i->i<k->at' key p k<at' key p i) ->
  (∀l',l'<=k->(∀i,i<l'->at' key p i<at' key p k)->(∀i,l'<=i->i<k->at' key p k<at' key p i)->Q l' s)->(kas_place p k f l r).kasWp cmp Q s
 |0,l,r,Q,j,c,m,h,H,hQ=>by
  have e:l=r:=by lia
  subst e;exact hQ l c h H
 |f+1,l,r,Q,j,c,m,h,H,hQ=>by
  unfold kas_place;by_cases e:l ≥ r
  ·rw [Vs e];have b:l=r:=by lia
   subst b;exact hQ l c h H
  ·rw [Vt e];refine hc _ _ (g.lt d) (g.lt 0e0) _ ?_;by_cases t:key (p.getD k 0)<key (p.getD ((l+r) / 2) 0)
   ·rw [Xu t]; (show (if true = true then _ else _ : KasT _).kasWp cmp _ s); rw [Vs rfl];refine pZ g d a f l ((l+r) / 2) Q 0e0 0e0 0e0 h (λi I K=>?_) hQ;by_cases E:i=(l+r) / 2
    ·rw[E];exact t
    ·have := a ((l + r) / 2) i 0e0 K;have:at' key p k<at' key p ((l+r) / 2):=t
     lia
   ·rw [UQ t]; (show (if false = true then _ else _ : KasT _).kasWp cmp _ s); rw [Vt V9];have o:=DD hkey g (k':=(l+r) / 2) d 0e0 0e0;have T:at' key p ((l+r) / 2)<at' key p k:=by unfold at' at *;lia
    refine pZ g d a f ((l+r) / 2+1) r Q 0e0 c 0e0 (λi I=>?_) H hQ;by_cases E:i=(l+r) / 2
    ·rw[E];exact T
    ·have := a i ((l + r) / 2) 0e0 0e0
     lia
theorem Er:∀(f:Nat)(p:Array Nat)(k:Nat)(Q:Array Nat->Shared->Prop),eT n p->k+f=n->Gp key p k->(∀p',eT n p'->Gp key p' n->Q p' s)->(kas_bin f p k).kasWp cmp Q s
 |0,p,k,Q,g,K,h,hQ=>by
  have e:k=n:=by lia
  rw[e]at h;exact hQ p g h
 |f+1,p,k,Q,g,K,h,hQ=>by
  unfold kas_bin;rw[Xv];refine pZ hkey hc g 0e0 h k 0 k _ (Wo _) (Vn _) 0e0 (λi I=>by lia) (λi o q=>by lia) λl L H a=>?_;refine Er f _ (k+1) Q (sY g (bubble_perm _ _ _) (bubble_size _ _ _)) 0e0 (λi j J Z=>?_) hQ
  have b:∀x,at' key (bubble p k (k-l)) x=if x=l then at' key p k else if l<x/\x<=k then at' key p (x-1) else at' key p x:=λx=>by
   have e:=getElem?_bubble (show k<p.size by rw[g.size];lia) (k-l) 0e0 x;rw[(show k-(k-l)=l by lia)]at e;by_cases d:x=l
   ·rw[Vs d]at e⊢;exact pN e
   ·rw [Vt d] at e ⊢;by_cases B:l<x/\x<=k
    ·rw[Vs B]at e⊢;exact pN e
    ·rw[Vt B]at e⊢;exact pN e
  rw[b i,b j];by_cases y:i=l
  ·rw[Vs y,Vt 0e0,Vs ⟨by lia,by lia⟩];exact a (j-1) 0e0 0e0
  ·rw [Vt y];by_cases r:l<i/\i<=k
   ·rw[Vs r,Vt 0e0,Vs ⟨by lia,by lia⟩];exact h (i-1) (j-1) 0e0 0e0
   ·rw [Vt r];have I:i<l:=by lia
    by_cases c:j=l
    ·rw[Vs c];exact H i I
    ·rw [Vt c];by_cases m:l<j/\j<=k
     ·rw [Vs m];by_cases E:i=j-1
      ·lia
      ·exact h i (j-1) 0e0 0e0
     ·rw[Vt m];exact h i j J 0e0
theorem Hy(c:2<=n)(Q:Array Nat->Shared->Prop)(hQ:∀p',eT n p'->Gp key p' n->Q p' s):(kas_sort n).kasWp cmp Q s:=by
 unfold kas_sort;rw[Xv];refine F2 hkey hc ⟨by simp,by simp⟩ c _ λm p' g H d h=>?_;by_cases e:m<n
 ·rw[Vs e,(show max m 1=m by lia)];exact Er hkey hc (n-m) p' m Q g 0e0 h hQ
 ·rw[Vt e];rw[(show m=n by lia)]at h;exact hQ p' g h
end
noncomputable def nP(k:List Int):Int:=k.getD 0 0*6+k.getD 1 0
theorem eU(h:k∈prs):∃a b:Int,k=[a,b]/\0<=a/\a<b/\b<6:=by
 grind [prs]
theorem JP{k':List Int}(h:k∈prs)(H:k'∈prs)(e:nP k=nP k'):k=k':=by
 obtain⟨a,b,rfl,f,g,i⟩:=eU h;obtain⟨c,d,rfl,j,l,m⟩:=eU H;have E:a*6+b=c*6+d:=e;have:a=c:=by lia
 simp_all
def yO(ps:List KP):Prop:=ps.Pairwise λp q=>nP p.1<nP q.1
noncomputable def ba(ps:List KP):List Value:=ps.map λp=>Value.ref p.2
namespace Fx
theorem slot_setiter_next:Slot "set_iterator" "__next__" "set_iterator.__next__" :=
 .of (owner:="set_iterator") (n:="__next__") (by rfl) (by decide +kernel) (by decide +kernel) (by decide +kernel)
  (by first|exact .inl (by decide +kernel)|exact .inr (by decide +kernel)) (by rfl)
theorem entry_setiter_next:entryFor table "set_iterator.__next__" = some Builtin.«set_iterator.__next__»:=entryFor_of_fast 2e9
theorem args_setiter_next (a:Value):argsOk "set_iterator.__next__" ⟨[a],[]⟩:=by unfold argsOk;kernel_rfl
theorem entry_set_iter:entryFor table "set.__iter__" = some Builtin.«frozenset.__iter__»:=
 entryFor_alias (id':="frozenset.__iter__") 2e9 rfl (by decide +kernel) 2e9
end Fx
def eX (h:Heap) (I S:Addr) (i n z slot:Nat):Prop:=h.get? I=some {cls:=.type "set_iterator",dict:=none,data:=.fields #[.int (slot:Int) 0,.int (i:Int) 0,.ref S,.int (n:Int) 0,.int (z:Int) 0],slots:=#[]}
noncomputable def ec (w:World) (S:Addr) (z:Nat) (es:Array (Int×Value)):List (Int×Value):=if w.params.followText "set-order" then (pickOrder (w.params.setOrder S z) es).toList else es.toList
noncomputable def dD (w:World) (Z:List (Nat×Int×Value)) (i:Nat):Nat:=if w.params.followText "set-order" then 0 else if i=0 then 0 else (Z.getD (i-1) (0,0,.none)).1+1
theorem sJ{α:Type}(next:Nat->Nat):∀(fuel k:Nat)(left:List α)(out:Array α),left.length=fuel->(pickOrder.go next fuel k left out).toList.Perm (out.toList++left)
 |0,k,left,out,h=>by
  have this:=Xw.mp h;subst this;show out.toList.Perm (out.toList++[]);rw[Vu]
 |fuel+1,k,left,out,h=>by
  have t:next k%left.length<left.length:=Nat.mod_lt _ 0e0
  show (match left[next k%left.length]? with|some x=>_|none=>_:Array α).toList.Perm _;rw[Xx t];refine(sJ next fuel (k+1) _ _ (by rw[List.length_eraseIdx_of_lt t];lia)).trans ?_;rw[Array.toList_push,W4];refine List.Perm.append_left _ ?_;rw[List.singleton_append,List.eraseIdx_eq_take_drop_succ]
  have q:(left.take (next k%left.length)++left[next k%left.length]::left.drop (next k%left.length+1))=left:=by
   rw[List.getElem_cons_drop];exact WS _ _
  have J:=(List.perm_middle (a:=left[next k%left.length]) (l₁:=left.take (next k%left.length)) (l₂:=left.drop (next k%left.length+1))).symm
  lia
theorem kf{S:Addr}:(ec w S ep es).Perm es.toList:=by
 grind [ec,sJ,pickOrder]
theorem Gc{t:SetTable}(T:se t es Z)(m:w.params.followText "set-order" = false)(n:i<=Z.length):SetTable.below t.place (dD w Z i)=i:=by
 have r:Gz t.place.toList:=by rw[T.place];exact T.ris
 refine jr (lR r (dD w Z i)) λb1 b2 b3=>?_;have j:=T.size.1
 have g:∀k,k<Z.length->t.place.getD k (dD w Z i)=(Z.getD k (0,0,.none)).1:=λk K=>by
  have e:t.place[k]?=some (Z[k]).1:=by rw[<- Wa,T.place,Wi,Xx K];rfl
  simp_all
 have H:∀a b,a<b->b<Z.length->(Z.getD a (0,0,.none)).1<(Z.getD b (0,0,.none)).1:=λa b B z=>by
  rw[<- g a 0e0,<- g b z];exact uz r _ a b B 0e0
 have S:dD w Z i=if i=0 then 0 else (Z.getD (i-1) (0,0,.none)).1+1:=by
  simp_all[dD]
 by_cases d:i=0
 ·rw [Vs d] at S;rw[S]at b2⊢;by_cases l:SetTable.below t.place 0=0
  ·rw[l,d]
  ·have:=b2 0 0e0;lia
 ·rw [Vt d] at S
  have O:¬ SetTable.below t.place (dD w Z i)<=i-1:=λc=>by
   have:=b3 (i-1) c 0e0;rw[g _ 0e0]at this
   lia
  have I:¬ i<SetTable.below t.place (dD w Z i):=λf=>by
   have:=b2 i f;have h:i<Z.length:=by lia
   rw[g i h]at this;have:=H (i-1) i 0e0 h
   lia
  lia
section
theorem wL{o es ep t Z}{Q:Option (Value×Nat)->Shared->Prop}(S:(dQ w 2e7 a ps o es ep t Z))(I:i<=Z.length)(h:Q (((ec w a ep es)[i]?).map λe=>(e.2,dD w Z (i+1))) s):wpAny 0e9 A (setNext a (dD w Z i) i ep) Q E s:=by
 refine Vd (Xi S.ho S.hd S.fits ?_);cases B:w.params.followText "set-order" with
 |true=>
  have d:ec w a ep es=(pickOrder (w.params.setOrder a ep) es).toList:=by simp_all[ec]
  have b:∀j,dD w Z j=0:=λj=>by simp_all[dD]
  rw[d,b]at h;show wpAny _ _ (if (w.params.followText "set-order")=true then _ else _) _ _ _;rw[B,Vs rfl,Vt 1e1];refine Vd ?_;refine Vd (Xi S.ho S.hd S.fits ?_);show wpAny _ _ (if (w.params.followText "set-order")=true then _ else _) _ _ _;rw[B];refine Vd (Wm (Vg (Vg ?_)));rw[b,<- Wa];exact h
 |false=>
  have d:ec w a ep es=es.toList:=by simp_all[ec]
  show wpAny _ _ (if (w.params.followText "set-order")=true then _ else _) _ _ _;rw[B];show wpAny _ _ (if (!t.plain&&decide (es.size>1))=true then _ else _) _ _ _;rw[(show (!t.plain&&decide (es.size>1))=false by rw[S.plain];rfl)];refine Vd ?_;show wpAny _ _ (if (!t.led && !es.isEmpty)=true then _ else _) _ _ _;rw[(show t.led=true by rw[S.led,B];rfl)];refine Vg (Vg ?_);rw[Gc S.tab B I];by_cases H:i<Z.length
  ·have z := Xx H;have f:=S.tab.hashAt z;have c:t.place[i]?=some (Z[i]).1:=by rw[<- Wa,S.tab.place,Wi,z];rfl
   simp_all[dD]
  ·have : es[i]? = none := by rw [WY, S.tab.size.2]; lia
   simp_all
end
section
theorem eX.typeIs{S:Addr}{slot:Nat}(h:eX 2e7 I S i n ep slot):s.TypeIs (.ref I) "set_iterator" := ⟨_,h,rfl⟩
theorem fU{o es ep t Z}(S:(dQ w 2e7 a ps o es ep t Z)):s.TypeIs (.ref a) "set" := ⟨o,S.ho,S.ex.1⟩
theorem EY{o es ep t Z}(S:(dQ w 2e7 a ps o es ep t Z))(hQ:Q (.ref 0e2) {s with heap:=s.heap.push {cls:=.type "set_iterator",data:=.fields #[.int ((0:Nat):Int) 0,.int ((0:Nat):Int) 0,.ref a,.int (Z.length:Int) 0,.int (ep:Int) 0]}}):
  wpAny 0e9 A (pyIter (.ref a)) Q E s:=by
 refine wpAny_pyIter_slot (fU S) PySem.F.slot_set_iter (VU PySem.F.slot_set_iter (fU S) Fx.entry_set_iter ?_ (PySem.F.args_set_iter_1 _));refine Vd (Wn rfl ?_);refine Vd (Vd (Xy S.ho S.hd S.fits (Vg ?_)));refine Vd (Vd (Xi S.ho S.hd S.fits ?_));refine Vd (Vd (Wm (Vg (Vg ?_))));show wpAny _ _ (if (!w.params.followText "set-order" && (!t.plain&&decide (es.size>1)))=true then _ else _) _ _ _;rw[(show (!w.params.followText "set-order" && (!t.plain&&decide (es.size>1)))=false by rw[S.plain];simp)];refine Vd (Vg ?_);refine Vd (wpAny_setEpoch_of S.ho S.hd S.fits ?_);refine Vd (Vh (Vg ⟨_,rfl, "set_iterator",_,⟨_,UR _ rfl,rfl⟩,Fx.slot_setiter_next.lookup,?_⟩));rw[S.tab.size.2];exact hQ
theorem EZ{o es ep t Z}{v:Int×Value}{Q:(Option Value->Shared->Prop)}(S:(dQ w 2e7 a ps o es ep t Z))(h:eX 2e7 I a i Z.length ep (dD w Z i))(V:(ec w a ep es)[i]?=some v)(hQ:∀h',eX h' I a (i+1) Z.length ep (dD w Z (i+1))->Heap.SameBut I 2e7 h'->Q (some v.2) {s with heap:=h'}):wpAny 0e9 A (pyNext (.ref I)) Q E s:=by
 have hT:=h.typeIs;have H:=h
 have l:i<Z.length:=by
  have:=(VY.mp V).1;rw[kf.length_eq,VR,S.tab.size.2]at this;exact this
 refine Vd (XA (VS hT Fx.slot_setiter_next (VU Fx.slot_setiter_next hT Fx.entry_setiter_next ?_ (Fx.args_setiter_next _))));refine Vd (Wn rfl ?_);refine Vd (Vd (Vm H ?_));refine Vg ?_;refine Vd (Xy S.ho S.hd S.fits ?_);rw[S.tab.size.2];simp;refine Vd (wL S (UY l) ?_);rw[V];refine Vd (XB H 1e1 λf d b=>?_);refine Vd (XB d 1e1 λe B c=>?_);refine Vg ⟨v.2,rfl,Vg (hQ e ?_ (b.trans c))⟩
 simp_all[eX,rawInt]
theorem HI{o es ep t Z}{Q:(Option Value->Shared->Prop)}(i:(A.handled=none))(S:(dQ w 2e7 a ps o es ep t Z))(h:eX 2e7 I a Z.length Z.length ep (dD w Z Z.length))(hQ:∀h',Heap.ExtBut I 2e7 h'->Q none {s with heap:=h'}):wpAny 0e9 A (pyNext (.ref I)) Q E s:=by
 have hT:=h.typeIs;have H:=h
 have V:(ec w a ep es)[Z.length]?=none:=by
  rw[List.getElem?_eq_none_iff,kf.length_eq,VR,S.tab.size.2];exact Vn _
 refine Vd (XA (VS hT Fx.slot_setiter_next (VU Fx.slot_setiter_next hT Fx.entry_setiter_next ?_ (Fx.args_setiter_next _))));refine Vd (Wn rfl ?_);refine Vd (Vd (Vm H ?_));refine Vg ?_;refine Vd (Xy S.ho S.hd S.fits ?_);rw[S.tab.size.2];simp;refine Vd (wL S (Vn _) ?_);rw[V];refine Vd (XB H 1e1 λc d b=>?_);refine Vd ?_;refine Vd (Vh ?_ (by size_fits));refine Vd (Wn (by rfl) ?_);refine Vh ?_ (by size_fits);refine Vd (wpAny_handled ?_);rw[show A.in1.handled=none from i];refine Vd (Vg (wpAny_throw ?_));refine Vd (XC ⟨_,UR _ rfl,rfl⟩ isSubtype_stop ?_);exact Vg (hQ _ ((b.extBut.push _).push _))
end
namespace Fx
theorem entry_extend_loop:entryFor table "list.extend.loop" = some Builtin.«list.extend.loop»:=entryFor_of_fast 2e9
theorem plain_extend_loop:plainId "list.extend.loop" = true:=by decide +kernel
end Fx
section
theorem xV{o es ep t Z}{Q:(Bool->Shared->Prop)}(S:(dQ w 2e7 a ps o es ep t Z))(h:Q false s):wpAny 0e9 A (Builtin.List.listLengthHint (.ref a)) Q E s:=by
 refine Vd (wpAny_specialOf (fU S) PySem.F.slot_set_len.lookup ?_);exact Vd (XC (fU S) sub_set_self (Vd (VV (fU S) (Vg h))))
theorem xX{R:(Result->Shared->Prop)}{L:Addr}{o es ep t Z}(g:(A.handled=none))(hIa:I≠a)(hIL:I≠L)(hLa:L≠a)(hz:Z.length<=100):
  ∀(k i n:Nat) (s:Shared),Z.length-i=k->i<=Z.length->dQ w 2e7 a ps o es ep t Z->eX 2e7 I a i Z.length ep (dD w Z i)->s.heap.get? L=some (seqObj "list" (((ec w a ep es).take i).map (·.2)).toArray n) ->
   (∀h' m,(∀b u,b≠I->b≠L->s.heap.get? b=some u->h'.get? b=some u)->h'.get? L=some (seqObj "list" ((ec w a ep es).map (·.2)).toArray m)->R (.ok (.ret (.ref L))) {s with heap:=h'}) ->
   codeAny 0e9 A (.builtin "list.extend.loop" ⟨[.ref L,.ref I,.ref L],[]⟩) R s:=by
 intro k
 induction k with
 |zero=>
  intro i n s K j S H hL hR;have e:i=Z.length:=by lia
  subst e;refine Xm Fx.entry_extend_loop ?_;rw[XE Fx.plain_extend_loop _];refine Vd (HI (by simpa using g) S H λh' D=>?_);refine Vg (hR h' n (λb u B _ q=>D b u B q) ?_);rw[List.take_of_length_le (by rw[kf.length_eq,VR,S.tab.size.2];exact Vn _)]at hL;exact D L _ (U3 hIL) hL
 |succ k p=>
  intro i n s K j S H hL hR;have l:i<(ec w a ep es).length:=by rw[kf.length_eq,VR,S.tab.size.2];lia
  refine Xm Fx.entry_extend_loop ?_;refine Vd (EZ S H (Xx l) λh' f v=>?_);have hL':=(v.2 L (U3 hIL)).trans hL
  have z:(((ec w a ep es).take i).map (·.2)).toArray.size<=100:=by
   grind
  refine Vd (XF hL' rfl ?_ (UX z 1e0) (by rw[Array.size_push];exact UX (Nat.succ_le_succ z) 1e0));have hL2:=XG hL' (·.push ((ec w a ep es)[i]).2)
  have eL:(((ec w a ep es).take i).map (·.2)).toArray.push ((ec w a ep es)[i]).2=(((ec w a ep es).take (i+1)).map (·.2)).toArray:=by
   have q:(ec w a ep es).take (i+1)=(ec w a ep es).take i++[(ec w a ep es)[i]]:=by rw[Xs,Xx l];rfl
   grind
  rw[eL]at hL2;have h:=Ww h' L (Obj.mapSeq (·.push ((ec w a ep es)[i]).2));refine Vg ⟨Xn Fx.plain_extend_loop _,p (i+1) _ _ 0e0 0e0 ?_ ?_ hL2 λh'' m N M=>?_⟩
  ·exact⟨((h.2 a (U3 hLa)).trans ((v.2 a (U3 hIa)).trans S.ho)),S.ex,S.hd,S.tab,S.plain,S.led,S.big,S.perm⟩
  ·exact(h.2 I hIL).trans f
  ·refine hR h'' m (λb u c d q=>N b u c d ?_) M;exact(h.2 b d).trans ((v.2 b c).trans q)
theorem mK{α:Type}{f:α->β}{l m:List β}(h:l.Perm m):∀ps:List α,m=ps.map f->∃qs:List α,qs.Perm ps/\l=qs.map f:=by
 induction h with
 |nil=>
  simp
 |cons x _ b=>
  intro ps e;cases ps with
  |nil=>cases e
  |cons p ps=>
   refine bz (b ps (WJ e).2) λqs H c=>?_;exact⟨p::qs,H.cons p,by simp_all⟩
 |swap x y l=>
  intro ps e
  match ps,e with
  |p::q::r,e=>
   obtain⟨g,B⟩:=WJ e;exact⟨q::p::r,List.Perm.swap _ _ _,by simp_all⟩
 |trans _ _ i I=>
  intro ps e;refine bz (I ps e) λqs H c=>?_;refine bz (i qs c) λR d a=>?_;exact⟨R,d.trans H,a⟩
theorem n4{o es ep t Z}{Q:List Value->Shared->Prop}(i:(A.handled=none))(S:(dQ w 2e7 a ps o es ep t Z))(hz:Z.length<=100)(h:∀qs:List (Int×Value),qs.Perm ps->∀h',(∀b u,s.heap.get? b=some u->h'.get? b=some u)->s.heap.objs.size<=h'.objs.size->Q (qs.map (·.2)) {s with heap:=h'}):wpAny 0e9 A (collect (.ref a)) Q E s:=by
 have l:=US S.ho;refine Vd (wpAny_runValue (Xm entry_proto_collect' ?_));refine Vd (XH (Vg ⟨Xp _ (by decide +kernel),Xm entry_list_iadd' ?_⟩));show wpAny _ _ (Builtin.List.listExtendWith (.ref 0e2) (.ref a) (.ref 0e2)) _ _ {s with heap:=s.heap.push 3e6};have d:dQ w (s.heap.push 3e6) a ps o es ep t Z:=⟨Vi _ S.ho,S.ex,S.hd,S.tab,S.plain,S.led,S.big,S.perm⟩;refine Vd (VV (fU d) ?_)
 have hsame:Builtin.List.listSameRef (.ref 0e2) (.ref a)=false:=by
  show (0e2 == a)=false
  lia
 rw[hsame];refine Vd (EY d ?_);generalize hH:(s.heap.push 3e6).push {cls:=.type "set_iterator",data:=.fields #[.int ((0:Nat):Int) 0,.int ((0:Nat):Int) 0,.ref a,.int (Z.length:Int) 0,.int (ep:Int) 0]}=H2;have eI:(s.heap.push 3e6).objs.size=s.heap.objs.size+1:=by rw[XI]
 have H:∀b u,s.heap.get? b=some u->H2.get? b=some u:=λb u q=>by grind [PySem.Heap.get?_push_of_some]
 have e:dQ w H2 a ps o es ep t Z:=⟨H a o S.ho,S.ex,S.hd,S.tab,S.plain,S.led,S.big,S.perm⟩;have hL2:H2.get? 0e2=some 3e6:=by rw[<- hH];exact Vi _ (UR _ rfl)
 have hI2:H2.get? 5e6=some {cls:=.type "set_iterator",data:=.fields #[.int ((0:Nat):Int) 0,.int ((0:Nat):Int) 0,.ref a,.int (Z.length:Int) 0,.int (ep:Int) 0]}:=by
  rw[<- hH,<- eI];exact UR _ rfl
 rw[eI];refine Vd (Ve (xV e ?_));refine Vd (Vj ?_);refine Vd ?_;refine Vd (XF hL2 rfl ?_ (Wo _) 1e0);have hL3:=XG hL2 (·.push Value.none);refine XF hL3 rfl ?_ 1e0 1e0;have hL4:=XG hL3 (·.pop);have c:=((Ww H2 0e2 (Obj.mapSeq (·.push Value.none))).trans (Ww (H2.update 0e2 (Obj.mapSeq (·.push Value.none))) 0e2 (Obj.mapSeq (·.pop))));generalize hH4:(H2.update 0e2 (Obj.mapSeq (·.push Value.none))).update 0e2 (Obj.mapSeq (·.pop))=H4 at hL4 c;have neL:=UV l;have neI:s.heap.objs.size+1≠s.heap.objs.size:=Nat.succ_ne_self _;refine Vg ⟨Xp _ (by decide +kernel),?_⟩
 refine xX (by simpa using i) (Vl (Wf l)) neI (U3 neL) hz (Z.length-0) 0 _ {s with heap:=H4} (by lia) (Wo _)
  ⟨(c.2 a neL).trans e.ho,S.ex,S.hd,S.tab,S.plain,S.led,S.big,S.perm⟩ ?_ (by rw[List.take_zero];exact hL4) λh' m N M=>?_
 ·unfold eX;rw[(show dD w Z 0=0 by simp[dD])];exact(c.2 _ neI).trans hI2
 ·dsimp only;refine Vd (Vm M ?_);refine Vg ?_
  have n:=h (ec w a ep es) (kf.trans (by rw[S.tab.ents];exact S.perm)) h' λb u q=>by
   have B:=US q;exact N b u (UV (Wf B)) (UV B) ((c.2 b (UV B)).trans (H b u q))
  exact n (UY (US M))
theorem xZ{ps:List KP}{Q:List Value->Shared->Prop}(i:(A.handled=none))(S:cA w 2e7 a ps)(h:∀qs:List KP,qs.Perm ps->∀h',(∀b u,s.heap.get? b=some u->h'.get? b=some u)->s.heap.objs.size<=h'.objs.size->Q (ba qs) {s with heap:=h'}):wpAny 0e9 A (collect (.ref a)) Q E s:=by
 refine dz S λo c e t Z S d n=>?_;have h15:=uO d n;refine n4 i S (by rw[S.len,Wb];lia) λqs z h' k K=>?_;refine bz (mK z ps rfl) λR q J=>?_;rw[(show qs.map (·.2)=ba R by rw[J,WE];rfl)];exact h R q h' k K
end
theorem se.free{t:SetTable}(T:se t es Z){h:Int}(cov:∀j,j<=t.mask->j∈cV t.mask h)(hz:Z.length<=t.mask)(hA:Nat->Int)(a:∀i,hA i≠h):
  ∃j pre post,t.probe hA h (t.probeStart h)=some (.empty j none)/\j<=t.mask/\j∉Z.map 3e2/\cV t.mask h=pre++j::post/\∀k∈pre,k∈Z.map 3e2:=by
 refine bz (sZ (m:=t.mask) (l:=Z.map 3e2) (by simp_all)) λJ g r=>?_;refine cX (jE (λj=>j∉Z.map 3e2) (cV t.mask h) ⟨J,cov J g,r⟩) λpre j post e S p=>?_
 have L:(CL t.mask (SetTable.turns t.mask) (SetTable.bits h%(t.mask+1)) (SetTable.bits h)).length=pre.length+1+post.length:=by
  grind [cV]
 have W:ic t (pre.length+1+post.length) (t.probeStart h)=pre++j::post:=by
  have q:=pO t (SetTable.turns t.mask) (SetTable.bits h%(t.mask+1)) (SetTable.bits h) none;rw[L]at q;exact q.trans e
 have n:pre.length<10*SetTable.turns t.mask:=by
  grind [uu]
 have occ:∀k∈pre,k∈Z.map 3e2:=λk d=>WO λq=>p k d q
 have H:∀k∈pre,∃i,t.slot k=.live i/\hA i≠h:=λk d=>by
  refine bz (WM.mp (occ k d)) λz M b=>?_;obtain⟨i,I⟩:=WR M;exact⟨i,b ▸ T.slot_live I,a i⟩
 obtain⟨G,v⟩:=uT t hA h pre j post (10*SetTable.turns t.mask) (t.probeStart h) W n rfl H;exact⟨j,pre,post,G (T.slot_empty S),jj (by rw[e];simp),S,e,occ⟩
abbrev KI:=Int×Tok
noncomputable def Dc(p:KI):Int×Value:=(hashInt p.1,Value.int p.1 p.2)
noncomputable def ins:List Int:=[0,1,2,3,4,5]
theorem Jq{i:Int}:i∈ins↔0<=i/\i<6:=by
 unfold ins;simp[U2,WA]
 lia
noncomputable def K1(mask:Nat):Bool:=ins.all λk=>(List.range (mask+1)).all λj=>(cV mask (hashInt k)).contains j
theorem Rv:K1 7=true:=by decide +kernel
theorem Eo:K1 31=true:=by decide +kernel
theorem uZ(h:K1 mask=true){k:Int}(d:k∈ins):∀j,j<=mask->j∈cV mask (hashInt k):=λj Z=>by
 have b:=Xg.mp (Xg.mp h k d) j (WN.mpr 0e0);simpa using b
theorem sW{a b:Int}(n:a∈ins)(B:b∈ins)(e:hashInt a=hashInt b):a=b:=by
 exact(show ∀x∈ins,∀y∈ins,hashInt x=hashInt y->x=y by decide +kernel) a n b B e
def eK(w:World)(h:Heap)(a:Addr)(ps:List KI):Prop:=∃o S z t Z,dQ w h a (ps.map Dc) o S z t Z/\(∀p∈ps,p.1∈ins)/\(ps.map 3e2).Nodup
theorem my{ps:List KI}(d:∀p∈ps,p.1∈ins)(n:(ps.map 3e2).Nodup):ps.length<=6:=by
 have:=gx n (l2:=ins) (λx h=>by grind);rw[Wb]at this;exact this
theorem eK.keeps{ps:List KI}(S:eK w h a ps)(k:∀o,h.get? a=some o->h'.get? a=some o):eK w h' a ps:=by
 refine dz S λo e z t Z S d n=>?_;exact⟨o,e,z,t,Z,⟨k o S.ho,S.ex,S.hd,S.tab,S.plain,S.led,S.big,S.perm⟩,d,n⟩
theorem TR{o es ep t Z}(S:dQ w h a ps o es ep t Z){k:Int}(d:k∈ins):∀j,j<=t.mask->j∈cV t.mask (hashInt k):=by
 rcases S.big with⟨H,c⟩|⟨H,c⟩ <;> rw[H]
 ·exact uZ Rv d
 ·exact uZ Eo d
noncomputable def vO(ps:List KI)(k:Int)(t:Tok):List KI:=if k∈ps.map 3e2 then ps else ps++[(k,t)]
section
theorem sD{a:Addr}{k:Int}{tk:Tok}{ps0:List (Int×Value)}{o es ep t Z}(S:dQ w 2e7 a ps0 o es ep t Z){Q:ScanMet->Shared->Prop} :
  ∀(l:List (Int×Value))(n:Nat),(∀e∈l,∃p:KI,e=Dc p/\p.1∈ins)->k∈ins->((∃e∈l,e.1=hashInt k)->∀i,Q (.found i) s)->((∀e∈l,e.1≠hashInt k)->Q .absent s)->wpAny 0e9 A (setScanFrom a (.int k tk) (hashInt k) true l n) Q E s
 |[],n,_,_,H,c=>by
  exact Vg (c λe h=>by simp at h)
 |e::l,n,L,K,H,c=>by
  refine bz (L e U0) λp v P=>?_;subst v;show wpAny _ _ (setScanFrom a _ _ true ((hashInt p.1,Value.int p.1 p.2)::l) n) _ _ _;unfold setScanFrom;by_cases h:hashInt p.1=hashInt k
  ·rw[Vs (by simpa using h)];refine Vd (wpAny_setEpoch_of S.ho S.hd S.fits ?_);refine Vd (wpAny_eqBool_int ?_);rw[(sW P K h)];simp;exact Vg (H ⟨_,U0,h⟩ _)
  ·rw [Vt (by simpa using h)];refine sD S l (n+1) (λx d=>L x (U1 _ d)) K (λ⟨x,d,ex⟩=>H ⟨x,U1 _ d,ex⟩) λd=>c λx m=>?_;rcases U2.mp m with z|z
   ·rw[z];exact h
   ·exact d x z
theorem J5{k:Int}{tk:Tok}{ps:List KI}{Q:(Bool->Shared->Prop)}(S:eK w 2e7 a ps)(hk:k∈ins)(h:∀b h',Heap.SameBut a 2e7 h'->eK w h' a (vO ps k tk)->Q b {s with heap:=h'}):wpAny 0e9 A (setAddHashed a (.int k tk) (hashInt k)) Q E s:=by
 refine dz S λo c V t Z S v G=>?_
 have H:∀e∈c.toList,∃p∈ps,e=Dc p:=λe l=>by
  rw[S.tab.ents]at l;refine bz (WM.mp (S.perm.mem_iff.mp l)) λp P q=>?_
  grind
 have hto:∀p∈ps,Dc p∈c.toList:=λp P=>by
  rw[S.tab.ents];exact S.perm.mem_iff.mpr (Xf P)
 have hlen6:=my v G;have hZl:Z.length=ps.length:=by rw[S.len,Wb]
 have m:c.size=ps.length:=by rw[S.tab.size.2,hZl]
 have hz:Z.length<=t.mask:=by rcases S.big with⟨q,J⟩|⟨q,J⟩ <;> lia
 unfold setAddHashed setAddHashedIn;refine Ve (Vd (Xi S.ho S.hd S.fits ?_));dsimp only
 have hsc:byScan (Value.int k tk) c=true:=by
  unfold byScan;have h1:decide (c.size<scanBound)=true:=Xu (by rw[m];unfold scanBound;lia)
  have h2:c.all (λx=>x.2.scannable)=true:=by
   rw[<- Array.all_toList,Xg];intro e l;obtain⟨p,_,rfl⟩:=H e l;rfl
  rw[h1,h2];rfl
 rw[hsc];simp only[VP];refine Vd ?_;unfold setAddByScan;refine Vd (Vj ?_);refine Vd ?_;show wpAny _ _ (setScanFrom a (.int k tk) (hashInt k) true c.toList 0) _ _ _;refine sD S c.toList 0 (λe l=>by grind) hk (λhex i=>?_) λhno=>?_
 ·obtain ⟨e, l, q⟩ := hex;obtain⟨p,P,rfl⟩:=H e l;have ek:=sW (v p P) hk q;refine Vg (Vg ?_)
  have q:=h false 2e7 (Heap.SameBut.refl a 2e7) (by
   unfold vO;rw[Vs (by grind)];exact⟨o,c,V,t,Z,S,v,G⟩)
  cases s;exact q
 ·have hin:k∉ps.map 3e2:=λhx=>by
   obtain⟨p,P,e⟩:=WM.mp hx;exact hno _ (hto p P) (by rw[<- e];rfl)
  dsimp only;obtain⟨j,pre,post,epr,hj,hn,e,P⟩:=S.tab.free (TR S hk) hz (λ_=>hashInt k+1) (λ_=>by lia);obtain⟨O,T,hperm,R⟩:=S.tab.put hj hn e P
  have hfree:t.freeSlot (hashInt k)=some (j,false):=by
   simp_all[SetTable.freeSlot]
  have L:(t.put j).1.plain=true:=by rw[R];exact S.plain
  have D:(t.put j).1.led=t.led:=by rw[R]
  have hmask:(t.put j).1.mask=t.mask:=by rw[R]
  have hperm':(O.map (·.2)).Perm ((ps++[(k,tk)]).map Dc):=by
   refine(hperm.map (·.2)).trans ?_;rw[VX,WT];refine List.Perm.trans (List.Perm.cons _ S.perm) ?_;exact(List.perm_append_singleton _ _).symm
  have hkeys:∀p∈ps++[(k,tk)],p.1∈ins:=λp K=>by
   grind
  have r:((ps++[(k,tk)]).map 3e2).Nodup:=by
   grind
  have n:=my hkeys r;have hZ':O.length=ps.length+1:=by rw[hperm.length_eq,Wd,hZl]
  have z:=T.size.2;have u:vO ps k tk=ps++[(k,tk)]:=by unfold vO;rw[Vt hin]
  rw[u]at h;rw[V6,V7]at n
  have hfit:(t.put j).1.fits (SetTable.insertAt c (t.put j).2 (hashInt k,Value.int k tk)).size=true:=by
   unfold SetTable.fits;rw[T.fill,T.size.1,z,hmask];rcases S.big with⟨q,J⟩|⟨q,J⟩ <;> simp[q] <;> lia
  have μ:layNew t c (hashInt k) (.int k tk)=(SetTable.insertAt c (t.put j).2 (hashInt k,Value.int k tk),(t.put j).1,false,false):=by
   simp_all[layNew,SetTable.orStandIn]
  rw[μ];dsimp only;generalize ht1:(t.put j).1=t1 at *;generalize hes1:SetTable.insertAt c (t.put j).2 (hashInt k,Value.int k tk)=es1 at *;have hline:es1.size<=sizeLine:=by rw[z,hZ'];exact UX n 1e0
  refine Vd (Vg ?_);refine Vd (Vg ?_);rw[L];simp only[VP];refine Vd (Vg ?_);simp only[VP];refine Vd (Xk S.ho S.hd ?_ hline)
  have hg:(s.heap.update a (Obj.putSet es1 t1)).get? a=some {o with data:=.set es1 (V+1) t1}:=by
   have:=V0 (Obj.putSet es1 t1) S.ho (by rw[Xl es1 t1 S.hd];rfl);rw[Xl es1 t1 S.hd]at this;exact this
  have f:=Ww 2e7 a (Obj.putSet es1 t1);have hfill:t1.fill=ps.length+1:=by rw[T.fill,hZ']
  by_cases hfull:t1.tooFull=true
  ·simp only [hfull, XJ, Bool.and_self, VP]
   have hm7:t.mask=7/\ps.length=4:=by
    unfold SetTable.tooFull at hfull;rw[hfill,hmask]at hfull;have F:(ps.length+1)*5 ≥ t.mask*3:=by simpa using hfull
    rcases S.big with⟨q,J⟩|⟨q,J⟩
    ·rw[q]at F;exact⟨q,by lia⟩
    ·rw[q]at F;lia
   have g:es1.size=5:=by rw[z,hZ',hm7.2]
   have hgr:SetTable.grown es1.size=20:=by rw[g];rfl
   rw[hgr]
   obtain⟨C,order,Z2,er,W,N,M,hl2,U,I⟩:=qB (wanted:=20) (by rfl) (by rw[g];decide) (λe' y=>by
    rw[T.ents]at y;obtain⟨p,K,q⟩:=WM.mp (hperm'.mem_iff.mp y);rw[<- q]
    exact uZ Eo (hkeys p K))
   have hZ2:Z2.length=5:=by
    have:=N.length_eq;simp at this
    lia
   have d:(order.filterMap (es1[·]?)).size=5:=by rw[W.size.2,hZ2]
   have X:relayAll t1 es1 20=(order.filterMap (es1[·]?),C,false):=by
    unfold relayAll;rw[er];dsimp only
    have c1:coversAll order es1.size=true:=by
     unfold coversAll;exact List.isPerm_iff.mpr I
    have c2:C.fits (order.filterMap (es1[·]?)).size=true:=by
     unfold SetTable.fits;rw[W.fill,W.size.1,d,M,hZ2];rfl
    rw[c1,c2];rfl
   rw[X];dsimp only;refine Vd (Vd (Vg (Vg ?_)));refine Vd (Xk hg rfl ?_ (by rw[d];decide))
   have hg2:((s.heap.update a (Obj.putSet es1 t1)).update a (Obj.putSet (order.filterMap (es1[·]?)) C)).get? a=some {o with data:=.set (order.filterMap (es1[·]?)) (V+1+1) C}:=by
    have:=V0 (Obj.putSet (order.filterMap (es1[·]?)) C) hg (by rfl);rw[Xl _ C rfl]at this;exact this
   refine Vg (Vg ?_);refine h true _ (f.trans (Ww _ a _)) ⟨_,_,_,C,Z2,⟨hg2,S.ex,rfl,W,by rw[U];exact L,by rw[hl2,D];exact S.led,.inr ⟨M,by lia⟩,?_⟩,hkeys,r⟩;refine N.trans ?_;rw[T.ents];exact hperm'
  ·have F : t1.tooFull = false := by simpa using hfull
   simp only[F,V8,Wl,VO];refine Vg (Vg ?_);refine h true _ f ⟨_,_,_,t1,O,⟨hg,S.ex,rfl,T,L,by rw[D];exact S.led,?_,hperm'⟩,hkeys,r⟩;unfold SetTable.tooFull at F;rw[hfill,hmask]at F;have B:¬ ((ps.length+1)*5 ≥ t.mask*3):=by simpa using F
   rw[hmask,hZ'];rcases S.big with⟨q,J⟩|⟨q,J⟩
   ·rw[q]at B⊢;exact .inl ⟨rfl,by lia⟩
   ·rw[q]at B⊢;exact .inr ⟨rfl,by lia⟩
end
end RS
namespace L2
open PySem PySem.Spec PyProof.Rows
noncomputable def Pu(e C:Addr)(d:Option Addr):HO:=.ext λh=>∃o,h.get? e=some o/\o.cls=.ref C/\o.dict=d/\W.notCls o=true
structure Uk(X:Cx):Prop where
 ex:X.ex=[]
 stk:X.stack=X.env::X.outer
 fr:X.env.frame=some X.env.locals
structure RF(k:Nat)(A:Around):Prop where
 dp:A.depth+3*k+5<recursionLimit
 un:A.units+16*k+200<cLine
 gd:A.guards=some []
structure RG(P:Program)(w:World)(K:W.Frag)(mg:5e1)(base:Heap)(CX:A1)(k:Nat)(f:Addr)(fd:FuncData)(ps:List Str)(sp:Sp):Prop where
 len:∀vs H Q E,sp vs H Q E->vs.length=ps.length
 run:∀(A:Around)(outer:List Env)(s:Shared)(H:Hp)(args:Args)(us:1e5)(vs:List V)(Q:VK)(E:XK),RF k A->GM P w K mg base A outer s H->BindsTo s fd args (ps.zip us)->bb vs us->sp vs H Q E ->
  codeAny (model P w) A (.call (.ref f) args) (CR CX outer P w H s Q E) s
end L2
namespace RS
open PySem
noncomputable abbrev TK(prog:Program)(w:World):HeapKind prog w 4e2:=tupleKind (intKind prog w)
abbrev XD:=List (List Int×Addr×Value)
noncomputable def KZ(x:List Int×Addr×Value):DictEntry:=⟨nO x.1,.ref x.2.1,x.2.2⟩
def DctAt(h:Heap)(a:Addr)(xs:XD)(ep:Nat):Prop:=
 ∃o S,h.get? a=some o/\o.ExactDict/\o.data=.dict S ep/\S.toList=xs.map KZ/\(xs.map 3e2).Nodup
theorem mj{es:Array DictEntry}{xs:XD}(h:es.toList=xs.map KZ):es.toList=xs.map (entryOfKey (TK prog w)):=h
section
variable{b:Addr}{xs:XD}{v:Value}
theorem DctAt.keeps(x:DctAt h a xs ep)(e:∀o,h.get? a=some o->h'.get? a=some o):DctAt h' a xs ep:=let ⟨o,es,ho,r⟩:=x;⟨o,es,e o ho,r⟩
theorem DctAt.all(x:DctAt h a xs ep)(k:∀x∈xs,(TK prog w).is h x.1 x.2.1):h.DictOfH (TK prog w) a xs:=let ⟨o,es,h1,h2,h3,h4,h5⟩:=x;⟨o,es,ep,h1,h2,h3,mj h4,k,h5⟩
theorem DctAt.typeIs (x:(DctAt 2e7 a xs ep)):s.TypeIs (.ref a) "dict" := let ⟨o,_,h1,h2,_⟩:=x;⟨o,h1,h2.1⟩
theorem DctAt.new (h:Heap):DctAt (h.push {cls:=.type "dict",data:=.dict #[]}) h.objs.size [] 0:=⟨_,#[],UR _ rfl,by first|exact⟨rfl,rfl⟩|exact⟨rfl,rfl,rfl⟩|exact⟨rfl,rfl,rfl,rfl⟩,rfl,rfl,WZ⟩
theorem xY(U:(TK prog w).room A)(y:(TK prog w).is 2e7 k b)(d:(DctAt 2e7 a xs ep))(S:∀x∈xs,(TK prog w).is 2e7 x.1 x.2.1)(z:xs.length<=sizeLine)(hthere:∀p,atKey xs k=some p->∀tk,Q p.2 {s with toks:=tk})(W:atKey xs k=none->∀h' tk,DctAt h' a (xs++[(k,b,v)]) (ep+1)->Heap.SameBut a 2e7 h'->Q v {s with heap:=h',toks:=tk}):
  wpAny 0e9 A (dictSetDefault a (.ref b) v) Q E s:=by
 refine gf d λo c G C D H N=>?_;have n:c.toList=xs.map (entryOfKey (TK prog w)):=mj H;refine Ve ?_;refine Vd ((TK prog w).pyHash U y ?_);refine Vd (wpAny_dictFind_heap U y G D n S N ?_ ?_)
 ·intro O;have t:=not_mem_keys_of_get O
  refine Vd (Vj (Vd (wpAny_updateDictKeys (hz:=by have e:=XM n;lia) G D (Vg (W (atKey_none_of_get O) _ _ ⟨_,_,V0 _ G (Obj.isFreed_of_dict (Obj.data_mapDictKeys D _)),
   C.mapDictKeys _,Obj.data_mapDictKeys D _,?_,?_⟩ (Ww ..))))))
  ·show _=(xs++[(k,b,v)]).map (entryOfKey (TK prog w));simp[n,entryOfKey]
  grind
 ·intro j p Z;refine Vd (XN G D ?_);rw[entry_at n j,Z];exact Vd (Vj (Vg (hthere p (atKey_of_get N Z) _)))
theorem vt(U:A.units+1<cLine)(y:(TK prog w).is 2e7 k b)(d:(DctAt 2e7 a xs ep))(H:∀x∈xs,(TK prog w).is 2e7 x.1 x.2.1)(Z:xs.length<=sizeLine)(D:(a == sysModules)=false)(hthere:∀p,atKey xs k=some p->∀tk,Q p.2 {s with toks:=tk})(W:atKey xs k=none->∀h' tk,DctAt h' a (xs++[(k,b,v)]) (ep+1)->Heap.SameBut a 2e7 h'->Q v {s with heap:=h',toks:=tk}):
  wpAny 0e9 A (call (.builtin "dict.setdefault") [.ref a,.ref b,v]) Q E s:=by
 refine call_meetsIn (S:=λf R g=>(TK prog w).room f.in1/\g=s/\(∀p,atKey xs k=some p->∀tk,R (.ok (.ret p.2)) {s with toks:=tk})/\(atKey xs k=none->∀h' tk,DctAt h' a (xs++[(k,b,v)]) (ep+1)->Heap.SameBut a 2e7 h'->R (.ok (.ret v)) {s with heap:=h',toks:=tk})) XO d.typeIs PySem.F.entry_dict_setdefault (PySem.F.args_dict_setdefault_3 _ _ _) (.of_wp λf R g ⟨hA,j,l,m⟩=>?_) ⟨?_,rfl,hthere,W⟩
 ·subst j;refine Vd ?_;refine Vd (wpAny_notOrdered_dict d.typeIs ?_);refine Vg ?_;show wpAny _ _ (if (a == sysModules)=true then _ else (dictSetDefault a (.ref b) v >>= _)) _ _ _;rw[Vt 0e0];refine Vd (xY hA y d H Z (λp P tk=>Vg ⟨_,rfl,l p P tk⟩) λn h' tk c e=>Vg ⟨_,rfl,m n h' tk c e⟩)
 ·exact tupleKind_room_in1 U
theorem FL(D:(a == sysModules)=false)(d:(DctAt 2e7 a xs ep))(hQ:Q (.ref 0e2) {s with heap:=s.heap.push {cls:=.type "dict_keyiterator",data:=.fields #[.ref a,.int 0 0,.int 4e3 0,.int ep 0]}}):
  wpAny 0e9 A (pyIter (.ref a)) Q E s:=by
 refine gf (id d) λo S G j t H n=>?_;have hT:=d.typeIs;refine wpAny_pyIter_slot hT F.slot_dict_iter (VU F.slot_dict_iter hT F.entry_dict_iter ?_ (F.args_dict_iter_1 _));refine Vd ?_;refine Vd (wpAny_notOrdered_dict hT ?_);refine Vg ?_;show wpAny _ _ (Builtin.Dict.showsAll a >>= _) _ _ s;unfold Builtin.Dict.showsAll;rw[Vt (by rw[D];exact V9)];refine Vd (Vg ?_);refine Vd (XN G t ?_);refine Vd (XQ G t ?_);have Z:=XM (show S.toList=xs.map (entryOfKey (TK prog w)) from mj H);refine Vd (Vh (Vg ⟨_,rfl, "dict_keyiterator",_,⟨_,UR _ rfl,rfl⟩,XR.lookup,?_⟩))
 simp_all[rawInt]
theorem FB{x:List Int×Addr×Value}{Q:(Option Value->Shared->Prop)}(t:s.heap.IsKeyIter it a i 4e3 ep)(m:(DctAt 2e7 a xs ep))(X:xs[i]?=some x)
  (hQ:∀h',h'.IsKeyIter it a (i+1) 4e3 ep->Heap.SameBut it 2e7 h'->Q (some (.ref x.2.1)) {s with heap:=h'}) :
  wpAny 0e9 A (pyNext (.ref it)) Q E s:=by
 refine bI (id t) λo G j e=>?_;refine gf (id m) λO S D l d f N=>?_;have g:S.toList=xs.map (entryOfKey (TK prog w)):=mj f;unfold pyNext
 refine Vd (XA (VS t.typeIs XR
  (VU XR t.typeIs XS ?_ (XT _))))
 refine Vd (Vg ?_);refine Vd ?_;refine Vd ?_;refine Vd (XU t.typeIs (Vg ?_));refine Vd (wpAny_fieldsOf G e ?_);have n:Builtin.Dict_items.ownsTuple "dict_keyiterator" = false:=by decide
 simp only[n];show wpAny _ _ (if (Value.ref a == Value.none)=true then _ else _) _ _ s;rw[Vt (show ¬ ((Value.ref a == Value.none)=true) from V9)];refine Vd (Vg ?_);refine Vd (XN D d ?_);have Z:=XM g;rw[Vt (by rw[Z];simp)];refine Vd (Vg ?_);refine Vd (XQ D d ?_);rw[Vt 1e1];refine Vg ?_;have T:=(VY.mp X).1;have c:i<S.size:=by rw[Z];exact T
 have y:S[i].key=.ref x.2.1:=by
  have:=entry_at g i;rw[X,Xe c]at this;have:=UO this;rw[this];rfl
 simp[XW,Xe c];refine Vd ?_;refine Vd (XU t.typeIs (Vg ?_));refine Vd (wpAny_isOneOf_keyiter t.typeIs ?_);show wpAny _ _ (setField (.ref it) 1 (rawInt ((i:Int)+1)) >>= _) _ _ s;refine Vd (Wu G e 1e1 ?_)
 have H:(s.heap.update it (Obj.mapFields (·.setIfInBounds 1 (rawInt ((i:Int)+1))))).IsKeyIter it a (i+1) 4e3 ep:=
  ⟨_,V0 _ G (Obj.isFreed_of_fields (Wv e _)),(Obj.cls_mapFields ..).trans j,by rw[Wv e];simp[rawInt]⟩
 refine Vd (Ve ?_);refine Vd (wpAny_isOneOf_keyiter H.typeIs ?_);rw[y];exact Vg (Vg ⟨_,rfl,Vg (hQ _ H (Ww ..))⟩)
theorem JO{Q:(Option Value->Shared->Prop)}(g:(A.handled=none))(t:s.heap.IsKeyIter it a i 4e3 ep)(m:(DctAt 2e7 a xs ep))(x:xs.length<=i)
  (hQ:∀h',Heap.ExtBut it 2e7 h'->Q none {s with heap:=h'}):wpAny 0e9 A (pyNext (.ref it)) Q E s:=by
 refine bI (id t) λo G j c=>?_;refine gf (id m) λO S D f d H N=>?_
 refine Vd (XA (VS t.typeIs XR
  (VU XR t.typeIs XS ?_ (XT _))))
 refine Vd (Vg ?_);refine Vd ?_;refine Vd ?_;refine Vd (XU t.typeIs (Vg ?_));refine Vd (wpAny_fieldsOf G c ?_);have n:Builtin.Dict_items.ownsTuple "dict_keyiterator" = false:=by decide
 show wpAny _ _ (if (Value.ref a == Value.none)=true then _ else _) _ _ s;refine Vd (Vg ?_);refine Vd (XN D d ?_);have Z:=XM (show S.toList=xs.map (entryOfKey (TK prog w)) from mj H);rw[Vt (by rw[Z];simp)];refine Vd (Vg ?_);refine Vd (XQ D d ?_);rw[Vt 1e1];refine Vg ?_;have e:S.size<=i:=by rw[Z];exact x
 simp[XW,Array.getElem?_eq_none e];refine Vd ?_;refine Vd (XU t.typeIs (Vg ?_));show wpAny _ _ (setField (.ref it) 0 .none >>= _) _ _ s;refine Vd (Wu G c 1e1 ?_);refine Vd ?_;refine Vd (Vh ?_ (by size_fits));refine Vd (Wn (by rfl) ?_);refine Vh ?_ (by size_fits);refine Vd (wpAny_handled ?_);rw[show A.in1.handled=none from g];refine Vd (Vg (wpAny_throw ?_));refine Vd (XC ⟨_,UR _ rfl,rfl⟩ isSubtype_stop ?_);exact Vg (hQ _ (((Ww ..).extBut.push _).push _))
end
end RS
namespace L2
open PySem PySem.Spec PyProof.Rows RS
inductive D where
 |non|bl (b:Bool)|int (i:Int)|str (x:Str)|tup (xs:List D)|frz (xs:List D)|obj (n:Nat)
inductive O where
 |lst (xs:List D)|set (ks:0e1)|iset (ks:List Int)|dic|exc (c:Str)|exn (c:Str) (fs:List (Str×Int))|dct (kvs:(List (List Int×Nat))) (ep:Nat)
abbrev ax:=List O
abbrev Ro:=List (Option D)
def Ke(K:W.Frag)(H:Hp)(a:Addr)(xs:List V):Prop:=
 (∃ o, H a = some (.frz o (.lst xs))) \/
  ∃(o:Obj) (i:5e5) (n:Nat),K.lookup a=some o/\o.cls=.type "list" /\ o.dict=none/\o.data=.seq i n/\i.size<=sizeLine/\bb xs i.toList
theorem Ke.sq{xs:List V}(h:Ke K H a xs):dN K H a xs:=by
 rcases h with⟨o,h⟩|h
 ·exact .inl (.inr ⟨o,h⟩)
 ·exact .inr h
section
variable(K:W.Frag)(H:Hp)(α:3e4)
mutual
def aN:D->V->Prop
 |.non,v=>v=.non
 |.bl b,v=>v=.bl b
 |.int i,v=>v=.int i
 |.str x,v=>v=.str x
 |.tup xs,v=>∃a vs,v=.ref a/\ei K H a vs/\Reps xs vs
 |.frz xs,v=>∃a vs,v=.ref a/\Ke K H a vs/\Reps xs vs
 |.obj n,v=>∃a,v=.ref a/\α[n]?=some a
def Reps:List D->List V->Prop
 |[],vs=>vs=[]
 |x::xs,vs=>∃v r,vs=v::r/\aN x v/\Reps xs r
end
end
structure j3(K:W.Frag)(H H':Hp)(α α':3e4):Prop where
 tup:∀a xs,ei K H a xs->ei K H' a xs
 frz:∀a xs,Ke K H a xs->Ke K H' a xs
 pre:∀(n:Nat) a,α[n]?=some a->α'[n]?=some a
 xds:∀a fs,H a=some (.xd fs)->H' a=some (.xd fs)
section
variable{H' H1 H2:Hp}{α' α1 α2:3e4}
theorem j3.refl:j3 K H H α α:=⟨λ_ _ h=>h,λ_ _ h=>h,λ_ _ h=>h,λ_ _ h=>h⟩
theorem j3.trans(a:j3 K H H1 α α1)(b:j3 K H1 H2 α1 α2):j3 K H H2 α α2:=
 ⟨λc S h=>b.tup c S (a.tup c S h),λc S h=>b.frz c S (a.frz c S h),λn c h=>b.pre n c (a.pre n c h),λc fs h=>b.xds c fs (a.xds c fs h)⟩
mutual
theorem aN.mono(e:j3 K H H' α α'):∀{d:D}{v:V},aN K H α d v->aN K H' α' d v
 |.non,_,h=>by simp[aN]at h⊢;exact h
 |.bl _,_,h=>by simp[aN]at h⊢;exact h
 |.int _,_,h=>by simp[aN]at h⊢;exact h
 |.str _,_,h=>by simp[aN]at h⊢;exact h
 |.tup xs,_,h=>by
  refine aP h λa vs v1 h1 h2=>?_;subst v1;exact⟨a,vs,rfl,e.tup a vs h1,Reps.mono e h2⟩
 |.frz xs,_,h=>by
  refine aP h λa vs v2 h1 h2=>?_;subst v2;exact⟨a,vs,rfl,e.frz a vs h1,Reps.mono e h2⟩
 |.obj n,_,h=>by
  obtain⟨a,rfl,h1⟩:=h;exact⟨a,rfl,e.pre n a h1⟩
theorem Reps.mono(e:j3 K H H' α α'):∀{ds:List D}{vs:List V},Reps K H α ds vs->Reps K H' α' ds vs
 |[],_,h=>by simp[Reps]at h⊢;exact h
 |d::ds,_,h=>by
  refine aP h λv r v4 h1 h2=>?_;subst v4;exact⟨v,r,rfl,aN.mono e h1,Reps.mono e h2⟩
end
theorem Reps.nil:Reps K H α [] []:=by simp[Reps]
theorem Reps.cons{d:D}{ds:List D}(h:aN K H α d v)(c:Reps K H α ds vs):Reps K H α (d::ds) (v::vs):=by
 simp only[Reps];lia
theorem Reps.length:∀{ds:List D}{vs:List V},Reps K H α ds vs->vs.length=ds.length:=by
 intro x;induction x <;> simp_all[Reps]
theorem Reps.get:∀{ds:List D}{vs:List V}{i:Nat}{d:D},Reps K H α ds vs->ds[i]?=some d->∃v,vs[i]?=some v/\aN K H α d v
 |[],_,_,_,_,e=>by simp at e
 |d::ds,vs,i,x,h,e=>by
  refine aP h λv r b a c=>?_;subst b;cases i with
  |zero=>simp at e;subst e;exact⟨v,rfl,a⟩
  |succ i=>exact Reps.get (i:=i) c (by simpa using e)
theorem Reps.getV:∀{ds:List D}{vs:List V}{i:Nat}{v:V},Reps K H α ds vs->vs[i]?=some v->∃d,ds[i]?=some d/\aN K H α d v
 |[],vs,_,_,h,e=>by simp[Reps]at h;subst h;simp at e
 |d::ds,vs,i,x,h,e=>by
  refine aP h λv r b a c=>?_;subst b;cases i with
  |zero=>simp at e;subst e;exact⟨d,rfl,a⟩
  |succ i=>exact Reps.getV (i:=i) c (by simpa using e)
theorem Reps.append:∀{ds es:List D}{vs ws:List V},Reps K H α ds vs->Reps K H α es ws->Reps K H α (ds++es) (vs++ws)
 |[],_,vs,_,h,g=>by simp[Reps]at h;subst h;exact g
 |d::ds,_,vs,_,h,g=>by
  refine aP h λv r b a c=>?_;subst b;exact Reps.cons a (Reps.append c g)
theorem Reps.take:∀{ds:List D}{vs:List V}(n:Nat),Reps K H α ds vs->Reps K H α (ds.take n) (vs.take n)
 |[],vs,n,h=>by simp[Reps]at h;subst h;simpa using Reps.nil
 |d::ds,vs,n,h=>by
  refine aP h λv r b a c=>?_;subst b;cases n with
  |zero=>exact Reps.nil
  |succ n=>exact Reps.cons a (Reps.take n c)
theorem Reps.drop:∀{ds:List D}{vs:List V}(n:Nat),Reps K H α ds vs->Reps K H α (ds.drop n) (vs.drop n)
 |[],vs,n,h=>by simp[Reps]at h;subst h;simpa using Reps.nil
 |d::ds,vs,n,h=>by
  cases n with
  |zero=>exact h
  |succ n=>
   refine aP h λv r z a c=>?_;subst z;exact Reps.drop n c
theorem Reps.set{d:D}{v:V}(q:aN K H α d v):∀{ds:List D}{vs:List V}(n:Nat),Reps K H α ds vs->Reps K H α (ds.set n d) (vs.set n v)
 |[],vs,n,h=>by simp[Reps]at h;subst h;simpa using Reps.nil
 |e::ds,vs,n,h=>by
  refine aP h λf r b a c=>?_;subst b;cases n with
  |zero=>exact Reps.cons q c
  |succ n=>exact Reps.cons a (Reps.set q n c)
theorem Reps.eraseIdx:∀{ds:List D}{vs:List V}(n:Nat),Reps K H α ds vs->Reps K H α (ds.eraseIdx n) (vs.eraseIdx n)
 |[],vs,n,h=>by simp[Reps]at h;subst h;simpa using Reps.nil
 |e::ds,vs,n,h=>by
  refine aP h λb r v a c=>?_;subst v;cases n with
  |zero=>exact c
  |succ n=>exact Reps.cons a (Reps.eraseIdx n c)
theorem Reps.one{d:D}(h:Reps K H α [d] vs):∃v,vs=[v]/\aN K H α d v:=by
 simp_all[Reps]
theorem Reps.two{d e:D}(h:Reps K H α [d,e] vs):∃v u,vs=[v,u]/\aN K H α d v/\aN K H α e u:=by
 simp[Reps]at h
 grind
theorem Reps.snoc{d:D}{ds:List D}(h:Reps K H α ds vs)(q:aN K H α d v):Reps K H α (ds++[d]) (vs++[v]):=h.append (Reps.cons q Reps.nil)
theorem Reps.ints:∀{ns:List Int}{vs:List V},Reps K H α (ns.map D.int) vs->vs=ns.map V.int
 |[],vs,h=>by simp at h;exact h
 |n::ns,vs,h=>by
  refine aP h λv r b a c=>?_;subst b;rw[a,Reps.ints c];rfl
theorem iR:∀(ns:List Int),Reps K H α (ns.map D.int) (ns.map V.int)
 |[]=>Reps.nil
 |n::ns=>Reps.cons (by simp[aN]) (iR ns)
theorem aJ{xs:List D}:aN K H α (.tup xs) v↔∃a vs,v=.ref a/\ei K H a vs/\Reps K H α xs vs:=by simp[aN]
theorem br{xs:List D}:aN K H α (.frz xs) v↔∃a vs,v=.ref a/\Ke K H a vs/\Reps K H α xs vs:=by simp[aN]
theorem aL:aN K H α (.obj n) v↔∃a,v=.ref a/\α[n]?=some a:=by simp[aN]
theorem av{n:Int}:aN K H α (.int n) v↔v=.int n:=by simp[aN]
theorem aR{n:Bool}:aN K H α (.bl n) v↔v=.bl n:=by simp[aN]
theorem cw{n:Str}:aN K H α (.str n) v↔v=.str n:=by simp[aN]
theorem bM:aN K H α .non v↔v=.non:=by simp[aN]
end
abbrev vD(α:3e4):List (List Int×Nat)->RS.XD->Prop:=Paired λ(p:List Int×Nat) (x:List Int×Addr×Value)=>p.1=x.1/\∃b,α[p.2]?=some b/\x.2.2=Value.ref b
theorem vD.low{xs:RS.XD}(r:vD α kvs xs):∀p∈kvs,p.2<α.length:=by
 induction r with
 |nil=>intro p d;cases d
 |cons h _ i=>
  grind
theorem vD.cut{α':3e4}{xs:RS.XD}(e:∀m,m<n->α'[m]?=α[m]?)(r:vD α' kvs xs):(∀p∈kvs,p.2<n)->vD α kvs xs:=by
 induction r with
 |nil=>intro _;exact .nil
 |cons h _ I=>
  intro i;obtain⟨a,b,c,d⟩:=h;exact .cons ⟨a,b,by simp_all,d⟩ (I λp P=>i p (U1 _ P))
def pq(K:W.Frag)(w:World)(H:Hp)(α:3e4):O->Addr->Prop
 |.lst S,a=>∃y,H a=some (.lst y)/\Reps K H α S y
 |.set k,a=>∃P:List KP,P.map 3e2=k/\H a=some (.ext λh=>cA w h a P)/\(∀p∈P,p.1∈prs)/\(P.map 3e2).Nodup/\∀p∈P,ei K H p.2 (p.1.map V.int)
 |.iset k,a=>∃P:List KI,P.map 3e2=k/\H a=some (.ext λh=>eK w h a P)/\k.length<=6
 |.dic,a=>H a=some (.dK [])
 |.exc c,a=>∃C d,W.nsIn K mainGlobals c=some (some (.ref C))/\H a=some (Pu a C d)
 |.exn c fs,a=>∃C d,W.nsIn K mainGlobals c=some (some (.ref C))/\H a=some (Pu a C (some d))/\H d=some (.xd (fs.map λp=>(p.1,V.int p.2)))
 |.dct s z,a=>(a == sysModules)=false/\∃S:RS.XD,H a=some (.ext λh=>RS.DctAt h a S z)/\vD α s S/\∀x∈S,ei K H x.2.1 (x.1.map V.int)
structure e4(K:W.Frag)(w:World)(H:Hp)(α:3e4)(Y:ax):Prop where
 len:α.length=5e8
 nd:α.Nodup
 ob:∀(n:Nat) o a,Y[n]?=some o->α[n]?=some a->pq K w H α o a
section
variable{H':Hp}{α':3e4}{Y:ax}
theorem pq.live{o:O}(h:pq K w H α o a):H a≠none:=by
 cases o with
 |lst S=>refine bz h λy e _=>?_;lia
 |set k=>refine bI h λP _ e _=>?_;lia
 |iset k=>refine bI h λP _ e _=>?_;lia
 |dic=>have e:H a=some (.dK []):=h;lia
 |exc c=>refine bH h λC d _ e=>?_;lia
 |exn c fs=>refine aP h λC d _ e _=>?_;lia
 |dct s z=>refine oT h λ_ S e _=>?_;lia
theorem pq.mono{o:O}(h:pq K w H α o a)(e:j3 K H H' α α')(n:H' a=H a):pq K w H' α' o a:=by
 cases o with
 |lst S=>refine bz h λy q r=>?_;exact⟨y,n.trans q,r.mono e⟩
 |set s=>obtain⟨P,d,q,f,i,j⟩:=h;exact⟨P,d,n.trans q,f,i,λp k=>e.tup _ _ (j p k)⟩
 |iset s=>refine bI h λP d q f=>?_;exact⟨P,d,n.trans q,f⟩
 |dic=>exact n.trans h
 |exc c=>refine bH h λC D d q=>?_;exact⟨C,D,d,n.trans q⟩
 |exn c fs=>refine aP h λC D d q J=>?_;exact⟨C,D,d,n.trans q,e.xds D _ J⟩
 |dct l z=>obtain⟨g,S,q,r,t⟩:=h;exact⟨g,S,n.trans q,km r λp x ⟨E,b,B,N⟩=>⟨E,b,e.pre _ _ B,N⟩,λx X=>e.tup _ _ (t x X)⟩
theorem e4.at(S:(e4 K w H α Y)){o:O}(e:Y[n]?=some o):∃a,α[n]?=some a/\pq K w H α o a:=by
 have h:n<α.length:=by rw[S.len];exact((VY.mp e).1)
 exact⟨α[n],Xx h,S.ob n o _ e (Xx h)⟩
theorem e4.live(S:(e4 K w H α Y))(h:a∈α):H a≠none:=by
 obtain⟨n,N,e⟩:=XX h;exact(S.ob n _ a (Xx (by rw[<- S.len];exact N)) (by rw[<- e];exact Xx N)).live
theorem e4.fresh(S:(e4 K w H α Y)){p:Addr}(h:H p=none):p∉α:=λz=>S.live z h
theorem e4.same(S:(e4 K w H α Y))(e:j3 K H H' α α)(h:∀a,H a≠none->H' a=H a):e4 K w H' α Y:=
 ⟨S.len,S.nd,λn o a b c=>(S.ob n o a b c).mono e (h a (S.ob n o a b c).live)⟩
theorem bU{p:Addr}{o:HO}(h:H p=none):j3 K H (cq H p o) α α:=by
 refine⟨λa S q=>?_,λa S q=>?_,λ_ _ z=>z,λa fs q=>by rw[bo (dg q h)];exact q⟩
 ·rcases q with (q | ⟨x, q⟩) | q
  ·exact .inl (.inl (by rw[bo (dg q h)];exact q))
  ·exact .inl (.inr ⟨x,by rw[bo (dg q h)];exact q⟩)
  ·exact .inr q
 ·rcases q with ⟨x, q⟩ | q
  ·exact .inl ⟨x,by rw[bo (dg q h)];exact q⟩
  ·exact .inr q
theorem gj{p:Addr}{o:HO}(h:H p=some (.lst vs)):j3 K H (cq H p o) α α:=by
 refine⟨λa S q=>?_,λa S q=>?_,λ_ _ z=>z,λa fs q=>by rw[bo (jO q h (by intro z;cases z))];exact q⟩
 ·rcases q with (q | ⟨x, q⟩) | q
  ·exact .inl (.inl (by rw[bo (jO q h (by intro z;cases z))];exact q))
  ·exact .inl (.inr ⟨x,by rw[bo (jO q h (by intro z;cases z))];exact q⟩)
  ·exact .inr q
 ·rcases q with ⟨x, q⟩ | q
  ·exact .inl ⟨x,by rw[bo (jO q h (by intro z;cases z))];exact q⟩
  ·exact .inr q
theorem jg(b:3e4):j3 K H H α (α++b):=⟨λ_ _ h=>h,λ_ _ h=>h,λn a h=>by rw[VF (VY.mp h).1];exact h,λ_ _ h=>h⟩
theorem e4.tuple(S:(e4 K w H α Y)){p:Addr}(h:H p=none):e4 K w (cq H p (.tup vs)) α Y:=
 S.same (bU h) λa n=>bo λz=>n (by rw[z];exact h)
theorem e4.more(S:(e4 K w H α Y)){p:Addr}{o:O}{ho:HO}(h:H p=none)(q:pq K w (cq H p ho) (α++[p]) o p):e4 K w (cq H p ho) (α++[p]) (Y++[o]):=by
 refine⟨by simp[S.len],?_,λn e a b c=>?_⟩
 ·rw[XY];exact⟨S.nd,by simp,λx X y μ z=>by simp at μ;subst μ;subst z;exact S.fresh h X⟩
 ·by_cases N : n < Y.length
  ·rw[VF N]at b;rw[VF (by rw[S.len];exact N)]at c;exact(S.ob n e a b c).mono ((bU h).trans (jg [p])) (bo λz=>(S.ob n e a b c).live (by rw[z];exact h))
  ·have d:n=Y.length:=by
    have:=(VY.mp b).1;simp at this;lia
   subst d;rw[VD (by rw[S.len];exact Vn _),S.len]at c
   grind
theorem e4.put(S:(e4 K w H α Y)){xs ys:List D}{us:List V}(h:(Y[n]?=some (.lst xs)))(c:α[n]?=some a)(f:H a=some (.lst us))(q:Reps K H α ys vs):e4 K w (cq H a (.lst vs)) α (Y.set n (.lst ys)):=by
 have e:=gj (K:=K) (α:=α) (o:=.lst vs) f;refine⟨by simp[S.len],S.nd,λm o b G v=>?_⟩;by_cases d:m=n
 ·subst d;rw[U7 ((VY.mp h).1)]at G;cases G;rw[c]at v;cases v;exact⟨vs,cg,q.mono e⟩
 ·rw[U8 (λz=>d z.symm)]at G;refine(S.ob m o b G v).mono e (bo λz=>d ?_);subst z;obtain⟨l1,E⟩:=(VY.mp v);obtain⟨l2,B⟩:=(VY.mp c);exact(U6 S.nd).mp (E.trans B.symm)
end
structure cW(K:W.Frag)(H:Hp)(α:3e4)(ρ:Ro)(σ:St):Prop where
 len:ρ.length=σ.length
 at':∀(i:Nat) d,ρ[i]?=some (some d)->∃v,σ[i]?=some (some v)/\aN K H α d v
theorem cW.mono{H':Hp}{α':3e4}{ρ:Ro}(e:j3 K H H' α α')(R:cW K H α ρ σ):cW K H' α' ρ σ:=
 ⟨R.len,λi d h=>let ⟨v,h1,h2⟩:=R.at' i d h;⟨v,h1,h2.mono e⟩⟩
theorem cW.set{ρ:Ro}{d:D}(R:cW K H α ρ σ)(i:Nat)(q:aN K H α d v):cW K H α (ρ.set i (some d)) (σ.set i (some v)):=by
 refine⟨by simp[R.len],λj a h=>?_⟩;by_cases Z:j=i
 ·subst Z;have l:j<ρ.length:=by have:=(VY.mp h).1;simpa using this
  rw[U7 l]at h;cases h;exact⟨v,by rw[U7 (by rw[<- R.len];exact l)],q⟩
 ·rw[U8 (λz=>Z z.symm)]at h⊢;exact R.at' j a h
structure DX where
 cls:Str
 args:List (Str×Int)
inductive aq(β:Type) where
 |ok (a:β) (Y:ax)|exc (x:DX) (Y:ax)|bad
def aq.bind{γ:Type}(o:aq β)(g:β->ax->aq γ):aq γ:=match o with
 |.ok a d=>g a d
 |.exc x d=>.exc x d
 |.bad=>.bad
@[simp] theorem aa{γ:Type}{a:β}{Y:ax}{g:β->ax->aq γ}:(aq.ok a Y).bind g=g a Y:=XZ (X2 _)
inductive SO where
 |next (ρ:Ro) (Y:ax)|ret (d:D) (Y:ax)|brk (ρ:Ro) (Y:ax)|cnt (ρ:Ro) (Y:ax)|exc (x:DX) (Y:ax)|bad
noncomputable def aq.bindS(o:aq β)(g:β->ax->SO):SO:=match o with
 |.ok a d=>g a d
 |.exc x d=>.exc x d
 |.bad=>.bad
@[simp] theorem ae{a:β}{Y:ax}{g:β->ax->SO}:(aq.ok a Y).bindS g=g a Y:=XZ (X2 _)
noncomputable def SO.bind(o:SO)(g:Ro->ax->SO):SO:=match o with
 |.next e d=>g e d
 |o=>o
structure Pa where
 K:W.Frag
 w:World
 xw:DX->ax->Hp->List Addr->Prop
noncomputable abbrev Pa.S(p:Pa):=e4 p.K p.w
noncomputable abbrev Pa.X(p:Pa):=j3 p.K
noncomputable abbrev Pa.R(p:Pa):=aN p.K
abbrev Pa.Rs(p:Pa):=Reps p.K
def aI(p:Pa)(H:Hp)(α:3e4)(o:aq β)(R:β->ax->Hp->List Addr->Prop):Prop:=match o with
 |.ok a e=>∀f d,p.X H f α d->p.S f d e->R a e f d
 |.exc x e=>∀f d,p.X H f α d->p.S f d e->p.xw x e f d
 |.bad=>False
def eS(p:Pa)(H:Hp)(α:3e4)(o:SO)(D:pw):Prop:=match o with
 |.next i g=>∀f e h,p.X H f α e->p.S f e g->cW p.K f e i h->D.nx h f
 |.brk i g=>∀f e h,p.X H f α e->p.S f e g->cW p.K f e i h->D.bk h f
 |.cnt i g=>∀f e h,p.X H f α e->p.S f e g->cW p.K f e i h->D.ct h f
 |.ret d g=>∀f e v,p.X H f α e->p.S f e g->p.R f e d v->D.rt v f
 |.exc x g=>∀f e,p.X H f α e->p.S f e g->p.xw x g f e
 |.bad=>False
section
variable{p:Pa}{H1:Hp}{α1:3e4}{γ:Type}
theorem aI.imp{o:aq β}{R R':β->ax->Hp->List Addr->Prop}(h:aI p H α o R)(k:∀a Y' H' α',p.X H H' α α'->p.S H' α' Y'->R a Y' H' α'->R' a Y' H' α'):aI p H α o R':=by
 cases o with
 |ok a d=>exact λH' α' e s=>k a d H' α' e s (h H' α' e s)
 |exc x d=>exact h
 |bad=>exact h
theorem aI.from{o:aq β}{R:β->ax->Hp->List Addr->Prop}(e:p.X H H1 α α1)(h:aI p H α o R):aI p H1 α1 o R:=by
 cases o with
 |ok a g=>exact λf d E s=>h f d (e.trans E) s
 |exc x g=>exact λf d E s=>h f d (e.trans E) s
 |bad=>exact h
theorem aI.bind{o:aq β}{g:β->ax->aq γ}{R:γ->ax->Hp->List Addr->Prop}(h:aI p H α (o.bind g) R):aI p H α o (λa Y1 H1 α1=>aI p H1 α1 (g a Y1) R):=by
 cases o with
 |ok a f=>exact λi d e s=>aI.from e h
 |exc x f=>exact h
 |bad=>exact h
theorem aI.now{a:β}{Y:ax}{R:β->ax->Hp->List Addr->Prop}(h:aI p H α (.ok a Y) R)(s:(p.S H α Y)):R a Y H α:=h H α j3.refl s
theorem eS.from{o:SO}{D:pw}(e:p.X H H1 α α1)(h:eS p H α o D):eS p H1 α1 o D:=by
 cases o with
 |next k j=>exact λi f g E s r=>h i f g (e.trans E) s r
 |brk k j=>exact λi f g E s r=>h i f g (e.trans E) s r
 |cnt k j=>exact λi f g E s r=>h i f g (e.trans E) s r
 |ret d j=>exact λi f v E s r=>h i f v (e.trans E) s r
 |exc x j=>exact λi f E s=>h i f (e.trans E) s
 |bad=>exact h
theorem aI.bindS{o:aq β}{g:β->ax->SO}{D:pw}(h:eS p H α (o.bindS g) D):aI p H α o (λa Y1 H1 α1=>eS p H1 α1 (g a Y1) D):=by
 cases o with
 |ok a f=>exact λi d e s=>eS.from e h
 |exc x f=>exact h
 |bad=>exact h
end
abbrev ME:=Ro->ax->aq D
abbrev MT:=Ro->ax->aq Bool
abbrev MA:=Ro->ax->aq (List D)
abbrev MS:=Ro->ax->SO
abbrev MG:=D->Ro->ax->aq Ro
abbrev RV(p:Pa)(Q:VK):D->ax->Hp->List Addr->Prop:=λd _ f e=>∀v,p.R f e d v->Q v f
def tD(p:Pa)(f:ME):TE:=λg H Q=>∃α e d,p.S H α d/\cW p.K H α e g/\aI p H α (f e d) (RV p Q)
noncomputable def mW(p:Pa)(f:MT):TT:=λh H Q=>∃α e d,p.S H α d/\cW p.K H α e h/\aI p H α (f e d) (λb _ g _=>Q b g)
def yd(p:Pa)(f:MA):TA:=λi H Q=>∃α h g,p.S H α g/\cW p.K H α h i/\aI p H α (f h g) (λs _ e d=>∀y,p.Rs e d s y->Q y e)
def mX(p:Pa)(f:MS):TS:=λD g H=>∃α e d,p.S H α d/\cW p.K H α e g/\eS p H α (f e d) D
noncomputable def vx(p:Pa)(g:MG):TG:=λv l H Q=>∃α k j d,p.S H α j/\cW p.K H α k l/\p.R H α d v/\aI p H α (g d k j) (λi _ h f=>∀e,cW p.K h f i e->Q e h)
theorem PE.weak{X:Cx}{t t':TE}(h:PE X e t)(k:(∀σ H Q,t' σ H Q->t σ H Q)):PE X e t':=λP s σ H Q I q=>h P s σ H Q I (k σ H Q q)
theorem PT.weak{X:Cx}{t t':TT}(h:PT X e t)(k:(∀σ H Q,t' σ H Q->t σ H Q)):PT X e t':=λP s σ H Q I q=>h P s σ H Q I (k σ H Q q)
theorem PW.weak{X:Cx}{t t':TT}(h:PW X e t)(k:(∀σ H Q,t' σ H Q->t σ H Q)):PW X e t':=λW P s σ H Q I q=>h W P s σ H Q I (k σ H Q q)
theorem PA.weak{X:Cx}{e:(List Expr)}{t t':TA}(h:PA X e t)(k:(∀σ H Q,t' σ H Q->t σ H Q)):PA X e t':=λpos P s σ H Q I q=>h pos P s σ H Q I (k σ H Q q)
theorem PS.weak{X:Cx}{e:Stmt}{t t':TS}(h:PS X e t)(k:∀D σ H,t' D σ H->t D σ H):PS X e t':=λP s σ H Q I q=>h P s σ H Q I (k Q σ H q)
theorem nQ.weak{X:Cx}{e:List Stmt}{t t':TS}(h:nQ X e t)(k:∀D σ H,t' D σ H->t D σ H):nQ X e t':=λP s σ H Q I q=>h P s σ H Q I (k Q σ H q)
noncomputable def ah(i:Nat):ME:=λf e=>match f[i]? with
 |some (some d)=>.ok d e
 |_=>.bad
noncomputable def cC(d:D):ME:=λ_ e=>.ok d e
noncomputable def ay(O:(D->D->ax->aq D))(fa fb:ME):ME:=λf g=>(fa f g).bind λa d=>(fb f d).bind λb e=>O a b e
noncomputable def oR(O:D->ax->aq D)(fa:ME):ME:=λf e=>(fa f e).bind λa d=>O a d
noncomputable def aw:MA:=λ_ d=>.ok [] d
noncomputable def af(fa:ME)(G:MA):MA:=λf g=>(fa f g).bind λa d=>(G f d).bind λr e=>.ok (a::r) e
noncomputable def au(f:(List D->ax->aq D))(fa:MA):ME:=λe d=>(fa e d).bind f
noncomputable def cK(fa:MA):ME:=au (λs d=>if s.length<=sizeLine then .ok (.tup s) d else .bad) fa
noncomputable def gF(fa:MA):ME:=au (λs d=>if s.length<=sizeLine then .ok (.obj d.length) (d++[.lst s]) else .bad) fa
noncomputable def Gk:D->ax->aq Bool
 |.bl b,d=>.ok b d
 |_,_=>.bad
noncomputable def e0(f:ME):MT:=λe d=>(f e d).bind Gk
noncomputable def iG(f g:MT):MT:=λe h=>(f e h).bind λb d=>if b=true then g e d else .ok false d
noncomputable def ph(f g:MT):MT:=λe h=>(f e h).bind λb d=>if b=true then .ok true d else g e d
noncomputable def dy(f:MT):MT:=λg e=>(f g e).bind λb d=>.ok (!b) d
noncomputable def gO(f g:ME):ME:=λh i=>(f h i).bind λa d=>(Gk a d).bind λb e=>if b=true then g h e else .ok (.bl false) e
noncomputable def we(f:ME):ME:=λh g=>(f h g).bind λa d=>(Gk a d).bind λb e=>.ok (.bl (!b)) e
noncomputable def O0(c:MT)(f g:ME):ME:=λe h=>(c e h).bind λb d=>if b=true then f e d else g e d
def rq(p:Pa)(O:(D->D->ax->aq D))(r:R2):Prop:=∀a b v y H α d Q,p.S H α d->p.R H α a v->p.R H α b y->aI p H α (O a b d) (RV p Q)->r v y H Q
def Uh(p:Pa)(O:D->ax->aq D)(r:V->Hp->VK->Prop):Prop:=∀a v H α d Q,p.S H α d->p.R H α a v->aI p H α (O a d) (RV p Q)->r v H Q
def sf(p:Pa)(f:(List D->ax->aq D))(r:(List V->Hp->VK->Prop)):Prop:=∀s y H α d Q,p.S H α d->p.Rs H α s y->aI p H α (f s d) (RV p Q)->r y H Q
section
variable{p:Pa}
theorem uj{d:D}{Y:ax}{R:Bool->ax->Hp->List Addr->Prop}(h:aI p H α (Gk d Y) R)(r:p.R H α d v)(s:(p.S H α Y)):∃b,d=.bl b/\v=.bl b/\R b Y H α:=by
 cases d with
 |bl b=>exact⟨b,rfl,aR.mp r,h.now s⟩
 |non=>exact h.elim
 |int i=>exact h.elim
 |str x=>exact h.elim
 |tup e=>exact h.elim
 |frz e=>exact h.elim
 |obj n=>exact h.elim
variable{X:Cx}{a b c:Expr}{es:(List Expr)}{fa fb fc:ME}
theorem L6(h:PE X (.Name x pos) (O5 i)):PE X (.Name x pos) (tD p (ah i)):=h.weak λl H Q ⟨α,j,k,S,R,P⟩=>by
 unfold ah at P;cases e:j[i]? with
 |none=>rw[e]at P;exact P.elim
 |some o=>
  rw[e]at P;cases o with
  |none=>exact P.elim
  |some d=>
   refine bz (R.at' i d e) λv f g=>?_;exact⟨v,f,P.now S v g⟩
theorem C4{d:D}(h:PE X e (tC v))(r:∀H α,p.R H α d v):PE X e (tD p (cC d)):=h.weak λi H Q ⟨α,g,f,S,R,P⟩=>P.now S v (r H α)
theorem iW{op:Operator}{o:(D->D->ax->aq D)}{r:R2}(G:i9 X (binaryOp op) r)(q:rq p o r)(A:(PE X a (tD p fa)))(B:PE X b (tD p fb)):PE X (.BinOp a op b pos) (tD p (ay o fa fb)):=
 (QP G A B).weak λt H Q ⟨α,g,s,S,R,P⟩=>⟨α,g,s,S,R,P.bind.imp λx e H1 α1 m j h v V=>⟨α1,g,e,j,R.mono m,h.bind.imp λy f l d n k i u U=>q x y v u l d f Q k (V.mono n) U i⟩⟩
theorem Mb{o:(D->D->ax->aq D)}{r:R2}(G:(i9 X (compareOp op) r))(q:rq p o r)(A:(PE X a (tD p fa)))(B:PE X b (tD p fb))(M:behindInMarks op b=false):PE X (.Compare a [op] [b] pos) (tD p (ay o fa fb)):=
 (Iu G A B M).weak λt H Q ⟨α,g,s,S,R,P⟩=>⟨α,g,s,S,R,P.bind.imp λx e H1 α1 m j h v V=>⟨α1,g,e,j,R.mono m,h.bind.imp λy f l d n k i u U=>q x y v u l d f Q k (V.mono n) U i⟩⟩
theorem LH{o:(D->D->ax->aq D)}{r:R2}(G:(i9 X (compareOp op) r))(s:rq p o r)(A:(PE X a (tD p fa)))(B:PE X b (tD p fb))(M:behindInMarks op b=false):PT X (.Compare a [op] [b] pos) (mW p (e0 (ay o fa fb))):=
 (H9 G A B M).weak λL H Q ⟨α, h, w, S, R, P⟩ => ⟨α, h, w, S, R, P.bind.bind.imp λx f H1 α1 n k i v V => ⟨α1, h, f, k, R.mono n, i.bind.imp λy g l e q m j u U =>
  s x y v u l e g _ m (V.mono q) U (j.imp λd C E t K J I z Z=>by
   grind [uj])⟩⟩
theorem QA{op:UnaryOp}{o:D->ax->aq D}{r:V->Hp->VK->Prop}(G:R9 X (unaryOp op) r)(f:Uh p o r)(n:(PE X a (tD p fa))):PE X (.UnaryOp op a pos) (tD p (oR o fa)):=
 (QO G n).weak λk H Q ⟨α,j,i,S,R,P⟩=>⟨α,j,i,S,R,P.bind.imp λx d H1 α1 m e h v g=>f x v H1 α1 d Q e g h⟩
theorem Me:PA X [] (yd p aw):=D5.weak λf H Q ⟨α,e,d,S,R,P⟩=>P.now S [] Reps.nil
theorem HP{fr:MA}(A:(PE X a (tD p fa)))(r:PA X es (yd p fr))(hs:(starEach (a::es) 1e7=(false,eval a 1e7)::starEach es 1e7)):PA X (a::es) (yd p (af fa fr)):=
 (uF A r hs).weak λq H Q ⟨α,e,k,S,R,P⟩=>⟨α,e,k,S,R,P.bind.imp λx d H1 α1 m f h v V=>⟨α1,e,d,f,R.mono m,h.bind.imp λy l o j n g i U u=>i.now g _ (Reps.cons (V.mono n) u)⟩⟩
theorem L7{k:Nat}{fr:MA}(h:PA X es (yd p fr)):PE X (.Tuple es k pos) (tD p (cK fr)):=
 (ML h).weak λl H Q ⟨α, j, f, S, R, P⟩ => ⟨α, j, f, S, R, P.bind.imp λs g H1 α1 m e d y r => by
  by_cases i:s.length<=sizeLine
  ·rw[Vs i]at d;exact⟨by rw[r.length];exact i,λq z=>(d _ _ (bU z) (e.tuple z) _ (aJ.mpr ⟨q,y,rfl,ei.of cg,r.mono (bU z)⟩))⟩
  ·rw [Vt i] at d
   exact d.elim⟩
theorem cY{Y:ax}{ds:List D}{q:Addr}(S:(p.S H α Y))(z:H q=none)(r:p.Rs H α ds vs):
  p.X H (cq H q (.lst vs)) α (α++[q])/\p.S (cq H q (.lst vs)) (α++[q]) (Y++[.lst ds])/\p.R (cq H q (.lst vs)) (α++[q]) 0e8 (.ref q):=by
 have m:p.X H (cq H q (.lst vs)) α (α++[q]):=(bU z).trans (jg [q]);exact⟨m,S.more z ⟨vs,cg,r.mono m⟩,aL.mpr ⟨q,rfl,by rw[<- S.len];simp⟩⟩
theorem L9{fr:MA}(h:PA X es (yd p fr)):PE X (.List es pos) (tD p (gF fr)):=
 (MQ h).weak λk H Q ⟨α, j, f, S, R, P⟩ => ⟨α, j, f, S, R, P.bind.imp λs g H1 α1 m e d y r => by
  by_cases i:s.length<=sizeLine
  ·rw[Vs i]at d;refine⟨by rw[r.length];exact i,λq z=>?_⟩;refine jr (cY e z r) λB G x=>?_;exact d _ _ B G _ x
  ·rw [Vt i] at d
   exact d.elim⟩
variable{ft gt:MT}
theorem LB(n:PT X a (mW p ft))(B:PW X (.BoolOp .And (b::rest) pos) (mW p gt)):PW X (.BoolOp .And (a::b::rest) pos) (mW p (iG ft gt)):=
 (Mq n B).weak λi H Q ⟨α, f, g, S, R, P⟩ => ⟨α, f, g, S, R, P.bind.imp λk d H1 α1 m e h => by
  cases k with
  |true=>rw[Vs rfl]at h⊢;exact⟨α1,f,d,e,R.mono m,h⟩
  |false=>rw[Vt V9]at h⊢;exact h.now e⟩
theorem Qt(n:PT X a (mW p ft))(B:PW X (.BoolOp .Or (b::rest) pos) (mW p gt)):PW X (.BoolOp .Or (a::b::rest) pos) (mW p (ph ft gt)):=
 (QL n B).weak λi H Q ⟨α, f, g, S, R, P⟩ => ⟨α, f, g, S, R, P.bind.imp λk d H1 α1 m e h => by
  cases k with
  |true=>rw[Vs rfl]at h⊢;exact h.now e
  |false=>rw[Vt V9]at h⊢;exact⟨α1,f,d,e,R.mono m,h⟩⟩
theorem LG(n:PT X a (mW p ft)):PT X (.UnaryOp .Not a pos) (mW p (dy ft)):=
 (Ms n).weak λi H Q ⟨α,g,e,S,R,P⟩=>⟨α,g,e,S,R,P.bind.imp λk f H1 α1 m d h=>h.now d⟩
theorem Mc(n:(PE X a (tD p fa)))(B:PE X (.BoolOp .And (b::rest) pos) (tD p fb)):PE X (.BoolOp .And (a::b::rest) pos) (tD p (gO fa fb)):=
 (MV n B).weak λl H Q ⟨α, h, j, S, R, P⟩ => ⟨α, h, j, S, R, P.bind.imp λd g H1 α1 m f i v r => by
  refine bI (uj i.bind r f) λk _ e q=>?_;refine⟨k,e,?_⟩;cases k with
  |true=>rw[Vs rfl]at q⊢;exact⟨α1,h,g,f,R.mono m,q⟩
  |false=>rw[Vt V9]at q⊢;exact q.now f _ (aR.mpr rfl)⟩
theorem L8(n:(PE X a (tD p fa))):PE X (.UnaryOp .Not a pos) (tD p (we fa)):=
 (MP n).weak λl H Q ⟨α, j, g, S, R, P⟩ => ⟨α, j, g, S, R, P.bind.imp λd i H1 α1 m f h v r => by
  refine bI (uj h.bind r f) λk _ e q=>?_
  exact⟨k,e,q.now f _ (aR.mpr rfl)⟩⟩
theorem QC(j:PT X c (mW p ft))(n:(PE X a (tD p fa)))(B:PE X b (tD p fb)):PE X (.IfExp c a b pos) (tD p (O0 ft fa fb)):=
 (Fo j n B).weak λi H Q ⟨α, e, g, S, R, P⟩ => ⟨α, e, g, S, R, P.bind.imp λk d H1 α1 m f h => by
  cases k with
  |true=>rw[Vs rfl]at h⊢;exact⟨α1,e,d,f,R.mono m,h⟩
  |false=>rw[Vt V9]at h⊢;exact⟨α1,e,d,f,R.mono m,h⟩⟩
theorem E4{id:String}{f:(List D->ax->aq D)}{fr:MA}{r:(List V->Hp->VK->Prop)}(j:cv X (.builtin id) r)(g:sf p f r)(U:Gl X x)(m:X.mg x=none)(v:bootBuiltins x=some (.builtin id))(n:PA X (a::es) (yd p fr))(N:x ≠ "__name__")(B:(x == ("__debug__" : Str))=false)(E:(starEach (a::es) 1e7=(false,eval a 1e7)::starEach es 1e7))(L:4e7):PE X (.Call (.Name x px) (a::es) [] pos) (tD p (au f fr)):=
 (w4 j U m v n N B E L).weak λq H Q ⟨α,l,k,S,R,P⟩=>⟨α,l,k,S,R,P.bind.imp λs d H1 α1 o e h y i=>g s y H1 α1 d Q e i h⟩
theorem Bz{T:String}{f:(List D->ax->aq D)}{fr:MA}{r:(List V->Hp->VK->Prop)}(j:cv X (.type T) r)(g:sf p f r)(U:Gl X x)(m:X.mg x=none)(v:bootBuiltins x=some (.type T))(n:PA X (a::es) (yd p fr))(N:x ≠ "__name__")(B:(x == ("__debug__" : Str))=false)(E:(starEach (a::es) 1e7=(false,eval a 1e7)::starEach es 1e7))(L:4e7):PE X (.Call (.Name x px) (a::es) [] pos) (tD p (au f fr)):=
 (BM j U m v n N B E L).weak λq H Q ⟨α,l,k,S,R,P⟩=>⟨α,l,k,S,R,P.bind.imp λs d H1 α1 o e h y i=>g s y H1 α1 d Q e i h⟩
end
noncomputable def bx(f:ME):MS:=λj i=>(f j i).bindS λd h=>.ret d h
noncomputable def bW:MS:=λh d=>.next h d
noncomputable def oo:MS:=λ_ _=>.bad
noncomputable def aO(f g:MS):MS:=λh d=>(f h d).bind g
noncomputable def jL(c:MT)(f g:MS):MS:=λh i=>(c h i).bindS λb d=>if b=true then f h d else g h d
noncomputable def aU(f:ME)(g:MG):MS:=λk l=>(f k l).bindS λd h=>(g d k h).bindS λj i=>.next j i
noncomputable def dv(f:ME):MS:=λh i=>(f h i).bindS λ_ d=>.next h d
noncomputable def rC(i:Nat)(O:(D->D->ax->aq D))(f:ME):MS:=λk l=>(ah i k l).bindS λa d=>(f k d).bindS λb h=>(O a b h).bindS λc j=>.next (k.set i (some c)) j
noncomputable def ag(i:Nat):MG:=λd j h=>.ok (j.set i (some d)) h
abbrev Gm:=List D->Ro->ax->aq Ro
noncomputable def bf:Gm:=λs h d=>match s with
 |[]=>.ok h d
 |_::_=>.bad
noncomputable def aD(g:MG)(u:Gm):Gm:=λs k j=>match s with
 |[]=>.bad
 |d::r=>(g d k j).bind λi h=>u r i h
noncomputable def bc(n:Nat)(u:Gm):MG:=λd i h=>match d with
 |.tup S=>if S.length=n then u S i h else .bad
 |_=>.bad
noncomputable def A5(o i v:D)(Y:ax):aq Unit:=match o,i with
 |.obj n,.int k=>match Y[n]? with
  |some (.lst S)=>match zG S.length k with
   |some j=>.ok () (Y.set n (.lst (S.set j v)))
   |none=>.bad
  |_=>.bad
 |_,_=>.bad
noncomputable def nU(fo fi:ME):MG:=λd k l=>(fo k l).bind λo h=>(fi k h).bind λi j=>(A5 o i d j).bind λ_ C=>.ok k C
noncomputable def C2(p:Pa)(g:Gm):Gx:=λy n H Q=>∃h m l s,p.S H h l/\cW p.K H h m n/\p.Rs H h s y/\aI p H h (g s m l) (λj _ k i=>∀d,cW p.K k i j d->Q d k)
theorem PG.weak{X:Cx}{t t':TG}(h:PG X e t)(k:∀v σ H Q,t' v σ H Q->t v σ H Q):PG X e t':=λP s σ H v u Q I r q=>h P s σ H v u Q I r (k v σ H Q q)
theorem CP.weak{X:Cx}{e:(List Expr)}{t t':Gx}(h:CP X e t)(k:∀v σ H Q,t' v σ H Q->t v σ H Q):CP X e t':=λP s σ H v u Q I r q=>h P s σ H v u Q I r (k v σ H Q q)
theorem PI.weak{X:Cx}{t t':TI}(h:PI X tg e t)(k:∀σ H R,t' σ H R->t σ H R):PI X tg e t':=λP s σ H Q I q=>h P s σ H Q I (k σ H Q q)
section
variable{p:Pa}{X:Cx}{a b c:Expr}{es:(List Expr)}{f:ME}{g:MG}{u:Gm}{sts:List Stmt}{fs gs:MS}{ft:MT}
theorem LN:nQ X [] (mX p bW):=Ic.weak λD d H ⟨h,j,i,S,R,P⟩=>P H h d j3.refl S R
theorem E1{t u:TS}{D:pw}{σ:St}{H:Hp}{α:3e4}{o:SO}{k:MS}(h:eS p H α (o.bind k) D)
  (K:∀D σ H,mX p k D σ H->u D σ H):eS p H α o {D with nx:=u D}:=by
 cases o with
 |next l i=>exact λn j m e s r=>K _ _ _ ⟨j,l,i,s,r,eS.from e h⟩
 |brk l i=>exact h
 |cnt l i=>exact h
 |ret d i=>exact h
 |exc x i=>exact h
 |bad=>exact h
theorem Hq(h:PS X st (mX p fs))(i:nQ X sts (mX p gs)):nQ X (st::sts) (mX p (aO fs gs)):=
 (Fc h i).weak λD d H ⟨j,l,k,S,R,P⟩=>⟨j,l,k,S,R,E1 (t:=mX p fs) (σ:=d) P λ_ _ _ z=>z⟩
theorem LM(H:PS X st (mX p fs)):nQ X [st] (mX p fs):=Ib H
theorem LK(h:PE X e (tD p f)):PS X (.Return (some e) pos) (mX p (bx f)):=
 (Mu h).weak λD t H ⟨m,q,n,S,R,P⟩=>⟨m,q,n,S,R,(aI.bindS P).imp λd o j i s l k v r=>k j i v j3.refl l r⟩
theorem EI:PS X st (mX p oo):=Fe.weak λD j H ⟨h,i,d,S,R,P⟩=>P
theorem Qu{A B:List Stmt}(C:PT X c (mW p ft))(n:nQ X A (mX p fs))(o:nQ X B (mX p gs)):PS X (.If c A B pos) (mX p (jL ft fs gs)):=
 (QM C n o).weak λD t H ⟨q, j, r, S, R, P⟩ => ⟨q, j, r, S, R, (aI.bindS P).imp λk d s i m l h => by
  cases k with
  |true=>rw[Vs rfl]at h⊢;exact⟨i,j,d,l,R.mono m,h⟩
  |false=>rw[Vt V9]at h⊢;exact⟨i,j,d,l,R.mono m,h⟩⟩
theorem xD{D:pw}(h:mX p (aU f g) D σ H):C3 (tD p f) (vx p g) D σ H:=by
 refine cX h λx m y S R P=>?_;exact⟨x,m,y,S,R,(aI.bindS P).imp λd k B i t r o v V=>⟨i,m,k,d,r,R.mono t,V,(aI.bindS o).imp λA z n j C s q l w=>q n j l j3.refl s w⟩⟩
theorem LQ(n:PE X e (tD p f))(U:PG X tg (vx p g))(hs:swapsWithSole [tg] e pos.line 1e7=pure false)(W:swappedStores [tg] e 1e7=pure none)
  (d:(assignEach [tg] 1e7).map (·.2)=[assign tg 1e7]):PS X (.Assign [tg] e pos) (mX p (aU f g)):=(My n U hs W d).weak λD i H h=>xD h
theorem qI{Q:(St->Hp->Prop)}(h:vx p (ag i) v σ H Q):wc i v σ H Q:=by
 refine cE h λj l k d S R r P=>?_;exact P.now S _ (R.set i r)
theorem HH(hN:(X.N.Nodup))(I:4e0)(d:(CZ X.env.scope x))(F:4e4):PG X (.Name x pos) (vx p (ag i)):=
 (Im hN I d F).weak λv j H Q h=>qI h
theorem LJ(hN:(X.N.Nodup))(I:4e0)(k:(CZ X.env.scope x))(n:PE X e (tD p f))(hs:swapsWith e (some (.Name x pos')) pos.line 1e7=pure false)(F:4e4):
  PS X (.Assign [.Name x pos'] e pos) (mX p (aU f (ag i))):=(Mt hN I k n hs F).weak λD z H h=>by
 refine cX (xD h) λl s o S R P=>?_;exact⟨l,s,o,S,R,P.imp λd q t m y w j v r=>qI (j v r)⟩
theorem Ho(n:PE X e (tD p f))(hs:swapsWith e none pos.line 1e7=pure false):PS X (.Expr e pos) (mX p (dv f)):=
 (Ig n hs).weak λD s H ⟨l,r,o,S,R,P⟩=>⟨l,r,o,S,R,(aI.bindS P).imp λd q h i m k j v V=>j h i s j3.refl k (R.mono m)⟩
theorem HG:CP X [] (C2 p bf):=Il.weak λy h H Q ⟨i,k,j,s,S,R,r,P⟩=>by
 cases s with
 |nil=>simp[Reps]at r;exact⟨r,P.now S h R⟩
 |cons d s=>exact P.elim
theorem EW(n:PG X e (vx p g))(o:CP X es (C2 p u))(hs:(assignEach (e::es) 1e7).map (·.2)=assign e 1e7::(assignEach es 1e7).map (·.2)):CP X (e::es) (C2 p (aD g u)):=
 (Fl n o hs).weak λC E H Q ⟨x, z, y, s, S, R, r, P⟩ => by
  cases s with
  |nil=>exact P.elim
  |cons d s=>
   refine aP r λv w V t M=>?_;subst V;exact⟨v,w,rfl,x,z,y,d,S,R,t,((aI.bind P).imp λj h B i m l k A q=>⟨i,j,h,s,l,q,M.mono m,k⟩)⟩
theorem L1{k:Nat}(hK:X.K=p.K)(C:1e8)(h:CP X es (C2 p u))(N:(assignEach es 1e7).length=n)(t:(assignEach es 1e7).findIdx? 3e2=none):PG X (.Tuple es k pos) (vx p (bc n u)):=
 (MH C h N t).weak λv A H Q ⟨o, w, q, d, S, R, r, P⟩ => by
  cases d with
  |tup s=>
   refine aP (aJ.mp r) λa z V y m=>?_;subst V;have j:aI p H o (if s.length=n then u s w q else .bad) _:=P;by_cases l:s.length=n
   ·rw[Vs l]at j;exact⟨a,z,rfl,by rw[hK];exact y,by rw[m.length];exact l,o,w,q,s,S,R,m,j⟩
   ·rw[Vt l]at j;exact j.elim
  |non=>exact P.elim
  |bl b=>exact P.elim
  |int i=>exact P.elim
  |str x=>exact P.elim
  |frz s=>exact P.elim
  |obj n=>exact P.elim
theorem HJ{o i d:D}{Y:ax}{R:Unit->ax->Hp->List Addr->Prop}{vo vi:V}(S:(p.S H α Y))(O:p.R H α o vo)(I:p.R H α i vi)(l:p.R H α d v)(P:aI p H α (A5 o i d Y) R):
  Kk vo vi v H λH'=>∃Y',p.X H H' α α/\p.S H' α Y'/\R () Y' H' α:=by
 unfold A5 at P;split at P
 ·rename_i n k;split at P
  ·rename_i x h;split at P
   ·rename_i j Z;refine la (S.at h) λa A U hH r=>?_;obtain⟨m,rfl,E⟩:=aL.mp O;rw[A]at E;cases E;rw[av.mp I];have q:=r.set l j;exact⟨a,U,k,j,rfl,rfl,hH,by rw[r.length];exact Z,_,gj hH,S.put h A hH q,(P _ _ (gj hH) (S.put h A hH q))⟩
   ·exact P.elim
  ·exact P.elim
 ·exact P.elim
theorem L3{o i:Expr}{fo fi:ME}(G:PE X o (tD p fo))(I:PE X i (tD p fi))
  (A : ∀ v, assign (.Subscript o i pos) 1e7 v = (do
   let ov <- holding [v] (eval o 1e7)
   let iv <- holding [v,ov] (eval i 1e7)
   standAt pos
   holding [v,ov,iv] (setItem ov iv v)
   release [v,ov,iv] [])):PG X (.Subscript o i pos) (vx p (nU fo fi)):=
 (MJ G I EX A).weak λv V H Q ⟨M, s, μ, d, S, R, r, P⟩ => ⟨M, s, μ, S, R, (aI.bind P).imp λod l F h m x t vo O => ⟨h, s, l, x, R.mono m, (aI.bind t).imp λid Z W T n y w vi J => by
  obtain⟨C,L,k,j,E,B,N,z,D,K,U,q⟩:=HJ y (O.mono n) J ((r.mono m).mono n) (aI.bind w)
  exact⟨C,L,k,j,E,B,N,z,q.now U V (((R.mono m).mono n).mono K)⟩⟩⟩
theorem LP{op:Operator}{o:(D->D->ax->aq D)}{r:R2}(hN:(X.N.Nodup))(T:4e0)(U:(CZ X.env.scope x))(Q:PE X e (tD p f))(O:Sb X op r)(M:rq p o r)(F:4e4):
  PS X (.AugAssign (.Name x pos') op e pos) (mX p (rC i o f)):=(Mx hN T U Q O F).weak λD W H ⟨q,k,s,S,R,P⟩=>by
 unfold rC ah at P;cases E:k[i]? with
 |none=>rw[E]at P;exact P.elim
 |some μ=>
  rw[E]at P;cases μ with
  |none=>exact P.elim
  |some d=>
   refine bz (R.at' i d E) λv K L=>?_;exact⟨v,K,q,k,s,S,R,(aI.bindS (show eS p H q ((f k s).bindS λb h=>(o d b h).bindS λc j=>.next (k.set i (some c)) j) D from P)).imp λy h w l n G B u V=>(M d y v u w l h _ G (L.mono n) V ((aI.bindS B).imp λz j A m J I C t Z=>C A m _ j3.refl I (((R.mono n).mono J).set i Z)))⟩
end
inductive kE where
 |fix (xs:List D)|own (n:Nat) (xs:List D)|eno (n:Nat) (xs:List D)|dks (n:Nat) (kvs:(List (List Int×Nat))) (ep:Nat)
noncomputable def dw:Nat->List D->List D
 |_,[]=>[]
 |i,x::r=>.tup [.int i,x]::dw (i+1) r
theorem nF:∀{xs:List D}{k i:Nat},(dw k xs)[i]?=(xs[i]?).map λx=>D.tup [.int ((k+i:Nat):Int),x]
 |[],_,_=>by simp[dw]
 |x::r,k,0=>by simp[dw]
 |x::r,k,i+1=>by
  simp[dw];rw[nF]
  lia
theorem tm:∀{xs:List D}{k:Nat},(dw k xs).length=xs.length:=by
 intro x;cases x <;> simp_all[dw,tm]
noncomputable def kE.items:kE->List D
 |.fix S=>S
 |.own _ S=>S
 |.eno _ S=>dw 0 S
 |.dks _ d _=>d.map λp=>.tup (p.1.map D.int)
def bA:kE->ax->Prop
 |.fix _,_=>True
 |.own n S,d=>d[n]?=some (.lst S)
 |.eno n S,d=>d[n]?=some (.lst S)
 |.dks n k z,d=>d[n]?=some (.dct k z)
def t9(p:Pa)(J:It)(src:kE)(m:Hp)(k:3e4):Prop:=
 ∀l h j,p.X m l k h->p.S l h j->bA src j ->
  (∀(i:Nat) d,src.items[i]?=some d->J.go i l/\∀x H,J.yld i l x H->p.X l H h h/\p.S H h j/\p.R H h d x)/\J.stop src.items.length l
abbrev MI:=Ro->ax->aq kE
noncomputable def yc(p:Pa)(f:MI):TI:=λm H R=>∃h l k,p.S H h k/\cW p.K H h l m/\aI p H h (f l k) (λs i j d=>∀J,bA s i->t9 p J s j d->R J j)
noncomputable def SO.loop(o:SO)(k:Ro->ax->SO):SO:=match o with
 |.next i h=>k i h
 |.cnt i h=>k i h
 |.brk i h=>.next i h
 |.ret d h=>.ret d h
 |.exc x h=>.exc x h
 |.bad=>.bad
open Classical in
noncomputable def c9(src:kE)(g:MG)(fb:MS):List D->Ro->ax->SO
 |[],j,h=>if bA src h then .next j h else .bad
 |d::r,j,h=>if bA src h then (g d j h).bindS λk i=>(fb k i).loop (c9 src g fb r) else .bad
noncomputable def h7(fi:MI)(g:MG)(fb:MS):MS:=λh i=>(fi h i).bindS λs d=>c9 s g fb s.items h d
noncomputable def iU(c:MT)(fb:MS):Nat->Ro->ax->SO
 |0,_,_=>.bad
 |n+1,h,i=>(c h i).bindS λb d=>if b=true then (fb h d).loop (iU c fb n) else .next h d
noncomputable def lH(n:Nat)(c:MT)(fb:MS):MS:=iU c fb n
section
variable{p:Pa}{X:Cx}{c:Expr}{fi:MI}{g:MG}{fb:MS}{ft:MT}
theorem sQ{o:SO}{k:Ro->ax->SO}{D:pw}{N:(St->Hp->Prop)}(h:eS p H α (o.loop k) D)(hN:∀ρ Y H' α' σ',p.X H H' α α'->p.S H' α' Y->cW p.K H' α' ρ σ'->eS p H' α' (k ρ Y) D->N σ' H'):eS p H α o {D with nx:=N,ct:=N,bk:=D.nx}:=by
 cases o with
 |next ρ Y=>exact λH' α' σ' e s r=>hN ρ Y H' α' σ' e s r (eS.from e h)
 |cnt ρ Y=>exact λH' α' σ' e s r=>hN ρ Y H' α' σ' e s r (eS.from e h)
 |brk ρ Y=>exact h
 |ret d Y=>exact h
 |exc x Y=>exact h
 |bad=>exact h
theorem LO(hp:(PassesOwn 0e7 X.A 1e7 X.xe))(hc:1e8)(T:PI X tg iter (yc p fi))(hg:PG X tg (vx p g))(hb:nQ X body (mX p fb))(hs:∀x,foldedSetIterable iter 1e7 x=pure x) :
  PS X (.For tg iter body [] pos) (mX p (h7 fi g fb)):=(Mw hp hc T hg hb hs).weak λD σ H ⟨α,U,Y,S,R,P⟩=>by
 refine⟨α,U,Y,S,R,(aI.bindS P).imp λs E Q n X1 S1 Z J hok hJ=>?_⟩
 refine⟨λi m o l=>m=s.items.length-i/\i<=s.items.length/\∃d j h,p.X Q l n d/\p.S l d h/\cW p.K l d j o/\eS p l d (c9 s g fb (s.items.drop i) j h) D,
  ⟨_,rfl,Wo _,n,U,E,j3.refl,S1,R.mono X1,by simpa using Z⟩,?_⟩
 rintro i m o l ⟨rfl,T,d,j,h,y,v,R2,k⟩
 by_cases t:i<s.items.length
 ·rw [X3 t] at k;unfold c9 at k;by_cases G:bA s h
  ·rw [Vs G] at k;obtain⟨O,hy⟩:=(hJ l d h y v G).1 i _ (Xx t)
   refine .inr ⟨O,λr q=>i+1<=s.items.length/\∃d j h,p.X Q q n d/\p.S q d h/\cW p.K q d j r/\eS p q d (c9 s g fb (s.items.drop (i+1)) j h) D,
    λr q ⟨h1,h2⟩=>⟨_,by lia,rfl,h1,h2⟩,λx μ yx=>?_⟩
   refine jr (hy x μ yx) λz S3 W=>?_;refine⟨d,j,h,_,S3,R2.mono z,W,(aI.from z (aI.bindS k)).imp λM I H4 B X4 S4 V σ4 R4=>⟨B,M,I,S4,R4,sQ V λN L H5 C σ5 X5 S5 R5 F=>⟨t,C,N,L,((y.trans z).trans X4).trans X5,S5,R5,F⟩⟩⟩
  ·rw[Vt G]at k;exact k.elim
 ·have e : i = s.items.length := by lia
  subst e;rw[X6]at k;unfold c9 at k;by_cases G:bA s h
  ·rw[Vs G]at k;exact .inl ⟨(hJ l d h y v G).2,k l d o j3.refl v R2⟩
  ·rw[Vt G]at k;exact k.elim
theorem EG(Q:(PassesOwn 0e7 X.A 1e7 X.xe))(M:PT X c (mW p ft))(G:nQ X body (mX p fb)):PS X (.While c body [] pos) (mX p (lH n ft fb)):=
 (Fd Q M G).weak λD W H ⟨T, μ, U, S, R, P⟩ => by
  refine⟨λm l r=>∃d j i,p.S r d i/\cW p.K r d j l/\eS p r d (iU ft fb m j i) D,⟨n,T,μ,U,S,R,P⟩,?_⟩
  rintro m l r ⟨d,j,i,B,R2,v⟩
  cases m with
  |zero=>exact v.elim
  |succ m=>
   refine⟨d,j,i,B,R2,(aI.bindS v).imp λk s y t x J I=>?_⟩;cases k with
   |true=>
    exact⟨λo q=>∃d j i,p.S q d i/\cW p.K q d j o/\eS p q d (iU ft fb m j i) D,λo q h=>⟨m,We _,h⟩,
     t,j,s,J,R2.mono x,sQ I λN L O C Z V E z F=>⟨C,N,L,E,z,F⟩⟩
   |false=>
    exact I y t l j3.refl J (R2.mono x)
end
section
variable{p:Pa}{X:Cx}
theorem B5{Y:ax}{xs:List D}(S:(p.S H α Y))(N:(Y[n]?=some (.lst xs)))(A:α[n]?=some a):t9 p (Sg p.K a) (.own n xs) H α:=by
 intro o l m j h G;refine la (h.at G) λr E y hH R=>?_;rw[j.pre n a A]at E;cases E;refine⟨λi d k=>?_,y,dN.of hH,by rw[R.length];exact Vn _⟩;refine bz (R.get k) λv V t=>?_;refine⟨⟨y,v,dN.of hH,V⟩,λx q ⟨e,s⟩=>?_⟩
 simp_all[dN.of,j3.refl]
theorem FJ{xs:List D}(h:Ke p.K H a vs)(r:p.Rs H α xs vs):t9 p (Sg p.K a) (.fix xs) H α:=by
 intro q m o n S G;have j:=(n.frz a vs h).sq;have R:=r.mono n;refine⟨λi d k=>?_,vs,j,by rw[R.length];exact Vn _⟩;refine bz (R.get k) λv l w=>?_;refine⟨⟨vs,v,j,l⟩,λx s ⟨e,t⟩=>?_⟩
 simp_all[j3.refl]
theorem FI{xs:List D}(h:ei p.K H a vs)(r:p.Rs H α xs vs):t9 p (SE p.K a) (.fix xs) H α:=by
 intro q m o n S G;have j:=n.tup a vs h;have R:=r.mono n;refine⟨λi d k=>?_,vs,j,by rw[R.length];exact Vn _⟩;refine bz (R.get k) λv l w=>?_;refine⟨⟨vs,v,j,l⟩,λx s ⟨e,t⟩=>?_⟩
 simp_all[j3.refl]
noncomputable def cc(lo:Int)(n:Nat):List D:=(List.range n).map λ(i:Nat)=>D.int (lo+(i:Int))
theorem xm(lo:Int)(n:Nat):t9 p (OQ lo n) (.fix (cc lo n)) H α:=by
 intro m k l q S G;refine⟨λi d D=>?_,by simp[kE.items,cc,OQ]⟩;have h:(cc lo n)[i]?=some d:=D;unfold cc at h;rw[Wi]at h;by_cases I:i<n
 ·rw[X7 I]at h;cases h;refine⟨I,λx o ⟨e,j⟩=>?_⟩;subst e;subst j;exact⟨j3.refl,S,av.mpr rfl⟩
 simp_all
noncomputable def vG(d:D)(Y:ax):aq kE:=match d with
 |.tup S=>.ok (.fix S) Y
 |.frz S=>.ok (.fix S) Y
 |.obj n=>match Y[n]? with
  |some (.lst S)=>.ok (.own n S) Y
  |_=>.bad
 |_=>.bad
noncomputable def cI(f:ME):MI:=λh d=>(f h d).bind vG
noncomputable def TF(K:W.Frag)(t:TE):TI:=λh H R=>t h H λx d=>∃a,x=.ref a/\(((∃S,dN K d a S)/\R (Sg K a) d)\/((∃S,ei K d a S)/\R (SE K a) d))
theorem MD{l:Expr}{tl:TE}(L:PE X l tl):PI X tg l (TF X.K tl):=by
 intro P s m H R I h;refine dt (L P s m H _ I h) λv S ⟨x,j,d,r,Q⟩=>?_;obtain⟨a,e,q⟩:=Q;subst e;cases r;rcases q with⟨⟨k,z⟩,q⟩|⟨⟨k,z⟩,q⟩
 ·obtain ⟨i, V, p, Z⟩ := d.list z;refine Xq p.isList ?_;refine⟨S.heap.objs.size,[S.heap.objs.size],_,_,j,rfl,d.kept λb o e=>Vi _ e,Bg a _,⟨_,UR _ rfl,rfl,rfl⟩,λb B=>?_,q⟩;have e:b=S.heap.objs.size:=by simpa using B
  subst e;exact d.fpOk (Vn _) (d.hok.fresh (Vn _))
 ·obtain ⟨i, V, p, Z⟩ := d.tuple z;refine Wx p ?_;refine⟨S.heap.objs.size,[S.heap.objs.size],_,_,j,rfl,d.kept λb o e=>Vi _ e,yR a _,⟨_,UR _ rfl,rfl,rfl⟩,λb B=>?_,q⟩;have e:b=S.heap.objs.size:=by simpa using B
  subst e;exact d.fpOk (Vn _) (d.hok.fresh (Vn _))
theorem L0{l:Expr}{f:ME}(hK:X.K=p.K)(L:PE X l (tD p f)):PI X tg l (yc p (cI f)):=(MD L).weak λM H R ⟨q,B,w,S,Rr,P⟩=>by
 refine⟨q,B,w,S,Rr,(aI.bind P).imp λd z C t G j h v r=>?_⟩;rw[hK];cases d with
 |tup s=>
  obtain⟨a,y,rfl,k,m⟩:=aJ.mp r;exact⟨a,rfl,.inr ⟨⟨y,k⟩,h.now j _ trivial (FI k m)⟩⟩
 |frz s=>
  obtain⟨a,y,rfl,k,m⟩:=br.mp r;exact⟨a,rfl,.inl ⟨⟨y,k.sq⟩,h.now j _ trivial (FJ k m)⟩⟩
 |obj n=>
  obtain⟨a,rfl,A⟩:=aL.mp r;unfold vG at h;dsimp only at h;split at h
  ·rename_i s o;refine la (j.at o) λI E y hH J=>?_;rw[A]at E;cases E;exact⟨a,rfl,.inl ⟨⟨y,dN.of hH⟩,h.now j _ o (B5 j o A)⟩⟩
  ·exact h.elim
 |non=>exact h.elim
 |bl b=>exact h.elim
 |int i=>exact h.elim
 |str x=>exact h.elim
noncomputable def ja(s:List D)(Y:ax):aq kE:=match s with
 |[.int j]=>if -(2^62)<=j/\j<2^62 then .ok (.fix (cc 0 j.toNat)) Y else .bad
 |_=>.bad
noncomputable def vH(s:List D)(Y:ax):aq kE:=match s with
 |[.int i,.int j]=>if -(2^62)<=i/\i<2^62/\-(2^62)<=j/\j<2^62 then .ok (.fix (cc i (j-i).toNat)) Y else .bad
 |_=>.bad
noncomputable def ej(f:List D->ax->aq kE)(i:MA):MI:=λh d=>(i h d).bind f
theorem By{a:Expr}{fa:MA}(U:Gl X "range")(m:X.mg "range" = none)(n:PA X [a] (yd p fa))(hs:starEach [a] 1e7=[(false,eval a 1e7)]):PI X tg (.Call (.Name "range" px) [a] [] pos) (yc p (ej ja fa)):=
 (BL U m n hs).weak λw H R ⟨i, q, l, S, Rr, P⟩ => ⟨i, q, l, S, Rr, (aI.bind P).imp λD o s k t d h y V => by
  unfold ja at h;split at h
  ·rename_i j;obtain⟨v,rfl,r⟩:=V.one;rw[av.mp r];split at h
   ·rename_i Z;exact⟨j,rfl,Z.1,Z.2,h.now d _ trivial (xm 0 _)⟩
   ·exact h.elim
  ·exact h.elim⟩
theorem Bx{a b:Expr}{fa:MA}(U:Gl X "range")(m:X.mg "range" = none)(n:PA X [a,b] (yd p fa))(hs:starEach [a,b] 1e7=[(false,eval a 1e7),(false,eval b 1e7)])(d:starEach [b] 1e7=[(false,eval b 1e7)]):PI X tg (.Call (.Name "range" px) [a,b] [] pos) (yc p (ej vH fa)):=
 (BK U m n hs d).weak λA H R ⟨o, w, s, S, Rr, P⟩ => ⟨o, w, s, S, Rr, (aI.bind P).imp λD t x q y k h z V => by
  unfold vH at h;split at h
  ·rename_i i j;refine aP V.two λv u l r M=>?_;subst l;rw[av.mp r,av.mp M];split at h
   ·rename_i Z;exact⟨i,j,rfl,Z,h.now k _ trivial (xm i _)⟩
   ·exact h.elim
  ·exact h.elim⟩
theorem sS{src:kE}{xs:List D}(I:src.items=dw 0 xs)(hs:∀H2 α2 Y2,p.X H H2 α α2->p.S H2 α2 Y2->bA src Y2->∃vs,Sq b p.K H2 a vs/\p.Rs H2 α2 xs vs ):t9 p (SF b p.K a) src H α:=by
 intro H2 α2 Y2 n k G;refine bz (hs H2 α2 Y2 n k G) λvs j R=>?_;rw[I];refine⟨λi d h=>?_,vs,j,by rw[R.length,tm]⟩;rw[nF]at h;cases e:xs[i]? with
 |none=>rw[e]at h;cases h
 |some y=>
  rw[e]at h;cases h;refine bz (R.get e) λv V r=>?_;refine⟨⟨vs,v,j,V⟩,λx m ⟨q,w,E,z,B,l⟩=>?_⟩;subst E B;have:=l vs j;rw[V]at this;cases this;refine⟨bU z,k.tuple z,aJ.mpr ⟨q,_,rfl,ei.of cg,?_⟩⟩;rw[W6];exact Reps.cons (av.mpr rfl) (Reps.cons (r.mono (bU z)) Reps.nil)
noncomputable def iE(s:List D)(Y:ax):aq kE:=match s with
 |[.tup S]=>.ok (.fix (dw 0 S)) Y
 |[.obj n]=>match Y[n]? with
  |some (.lst S)=>.ok (.eno n S) Y
  |_=>.bad
 |_=>.bad
theorem HE{a:Expr}{fa:MA}(hK:X.K=p.K)(G:Gl X "enumerate")(M:X.mg "enumerate" = none)(A:PA X [a] (yd p fa))(hs:starEach [a] 1e7=[(false,eval a 1e7)]):
  PI X (.Tuple elts k1 tpos) (.Call (.Name "enumerate" px) [a] [] pos) (yc p (ej iE fa)):=
 (Ik G M A hs).weak λF H R ⟨z, J, C, S, Rr, P⟩ => ⟨z, J, C, S, Rr, (aI.bind P).imp λD I L B N i h Z V => by
  rw[hK];unfold iE at h;split at h
  ·rename_i y;obtain⟨v,rfl,r⟩:=V.one;refine aP (aJ.mp r) λa U w q t=>?_;subst w;exact⟨a,false,rfl,⟨U,q⟩,h.now i _ trivial (sS rfl λs k l d m _=>⟨U,d.tup a U q,t.mono d⟩)⟩
  ·rename_i n;split at h
   ·rename_i y x;obtain⟨v,rfl,r⟩:=V.one;obtain⟨a,rfl,A⟩:=aL.mp r;refine la (i.at x) λQ o U hH μ=>?_;rw[A]at o;cases o;refine⟨a,true,rfl,⟨U,dN.of hH⟩,h.now i _ x (sS rfl λs k l d m O=>?_)⟩;refine la (m.at O) λT E us2 hH2 j=>?_;rw[d.pre n a A]at E;cases E;exact⟨us2,dN.of hH2,j⟩
   ·exact h.elim
  ·exact h.elim⟩
end
noncomputable def aq.nox(o:aq β):aq β:=match o with
 |.exc _ _=>.bad
 |o=>o
@[simp] theorem ak{a:β}{Y:ax}:(aq.ok a Y).nox=.ok a Y:=XZ (X2 _)
noncomputable abbrev Pa.nx(p:Pa):Pa:=⟨p.K,p.w,λ_ _ _ _=>False⟩
theorem dh{γ:Type}{p:Pa}{o:aq β}{k:β->ax->aq γ}{R:γ->ax->Hp->List Addr->Prop}(h:aI p H α (o.nox.bind k) R):aI p.nx H α o (λa Y1 H1 α1=>aI p H1 α1 (k a Y1) R):=by
 cases o with
 |ok a b=>exact λc α' e s=>aI.from e h
 |exc x b=>exact False.elim h
 |bad=>exact h
noncomputable def cJ(cap:2e6)(ρ:Ro):Ro:=cap.map λo=>o.bind λj=>(ρ[j]?).join
theorem cW.cap{ρ:Ro}(R:cW K H α ρ σ)(cap:2e6):cW K H α (cJ cap ρ) (pG cap σ):=by
 refine⟨by simp[cJ,pG],λi d h=>?_⟩;unfold cJ at h;unfold pG;rw[Wi]at h⊢;cases e:cap[i]? with
 |none=>rw[e]at h;cases h
 |some o=>
  rw[e]at h;cases o with
  |none=>simp at h
  |some j=>
   simp at h⊢
   obtain⟨v,b,c⟩:=R.at' j d (by
    cases B:ρ[j]? with
    |none=>rw[B]at h;simp at h
    |some x=>rw[B]at h;simp at h;rw[h])
   exact⟨v,by rw[b];rfl,c⟩
noncomputable def si(n:Nat)(y:D)(Y:ax):aq Unit:=match Y[n]? with
 |some (.lst μ)=>if μ.length<sizeLine then .ok () (Y.set n (.lst (μ++[y]))) else .bad
 |_=>.bad
open Classical in
noncomputable def compLoop(src:kE)(n:Nat)(g:MG)(t:MT)(e:ME):List D->Ro->ax->aq D
 |[],_,f=>if bA src f then .ok (.obj n) f else .bad
 |d::r,j,f=>if bA src f then (g d j f).nox.bind λc i=>(t c i).nox.bind λb h=>if b=true then (e c h).nox.bind λy C=>(si n y C).bind λ_ I=>compLoop src n g t e r c I else compLoop src n g t e r c h else .bad
noncomputable def bu(fi:MI)(cap:2e6)(g:MG)(t:MT)(e:ME):ME:=λc f=>(fi c f).bind λs b=>compLoop s b.length g t e s.items (cJ cap c) (b++[.lst []])
noncomputable def aV:MT:=λ_ b=>.ok true b
theorem wW{p:Pa}{y:D}{Y:ax}{R:Unit->ax->Hp->List Addr->Prop}(S:(p.S H α Y))(h:α[n]?=some acc)(c:p.R H α y v)(P:aI p H α (si n y Y) R):
  ∃ys,H acc=some (.lst ys)/\ys.length<sizeLine/\∃Y',p.X H (cq H acc (.lst (ys++[v]))) α α/\p.S (cq H acc (.lst (ys++[v]))) α Y'/\R () Y' (cq H acc (.lst (ys++[v]))) α:=by
 unfold si at P;split at P
 ·rename_i s b;refine la (S.at b) λa E U hH r=>?_;rw[h]at E;cases E;split at P
  ·rename_i i;have q:=r.snoc c;exact⟨U,hH,by rw[r.length];exact i,_,gj hH,S.put b h hH q,P _ _ (gj hH) (S.put b h hH q)⟩
  ·exact P.elim
 ·exact P.elim
section
variable{p:Pa}{X:Cx}{ifs:(List Expr)}{cap:2e6}{fi:MI}{g:MG}{t:MT}{e:ME}
theorem tq{Q:VK}(h:tD p (bu fi cap g t e) σ H Q):Dh (yc p fi) cap (vx p.nx g) (mW p.nx t) (tD p.nx e) σ H Q:=by
 refine cX h λα ρ Y S R P=>?_;refine⟨α,ρ,Y,S,R,(aI.bind P).imp λs o H1 r X1 S1 P1 J hok hJ acc C=>?_⟩;refine jr (cY S1 C Reps.nil) λZ s1 _=>?_
 refine⟨λi m A q=>m=s.items.length-i/\i<=s.items.length/\∃c j f,p.X H1 q r c/\p.S q c f/\cW p.K q c j A/\c[o.length]?=some acc/\aI p q c (compLoop s o.length g t e (s.items.drop i) j f) (RV p Q),
  ⟨_,rfl,Wo _,r++[acc],cJ cap ρ,o++[.lst []],Z,s1,((R.mono X1).cap cap).mono Z,(by rw[<- S1.len];simp),by simpa using aI.from Z P1⟩,?_⟩
 rintro i m A q ⟨rfl,hi,c,j,f,U,N,R2,a2,l⟩
 by_cases T:i<s.items.length
 ·rw [X3 T] at l;unfold compLoop at l;by_cases G:bA s f
  ·rw [Vs G] at l;obtain⟨O,hy⟩:=(hJ q c f U N G).1 i _ (Xx T)
   refine .inr ⟨O,λz u=>i+1<=s.items.length/\∃c j f,p.X H1 u r c/\p.S u c f/\cW p.K u c j z/\c[o.length]?=some acc/\aI p u c (compLoop s o.length g t e (s.items.drop (i+1)) j f) (RV p Q),
    λz u ⟨h1,h2⟩=>⟨_,by lia,rfl,h1,h2⟩,λx H3 yx=>?_⟩
   refine jr (hy x H3 yx) λE S3 R3=>?_;refine⟨c,j,f,_,S3,R2.mono E,R3,(aI.from (p:=p.nx) E (dh l)).imp λM Y4 H4 D X4 S4 P4 σ4 B=>?_⟩;refine⟨D,M,Y4,S4,B,(dh P4).imp λb L H5 w V S5 P5=>?_⟩;have xx:=((U.trans E).trans X4).trans V;have μ:=V.pre _ _ (X4.pre _ _ (E.pre _ _ a2));cases b with
   |false=>
    exact⟨T,w,M,L,xx,S5,B.mono V,μ,P5⟩
   |true=>
    refine⟨w,M,L,S5,B.mono V,(dh P5).imp λy Y6 H6 W I S6 P6 v rv=>?_⟩;obtain⟨ys,e1,e2,Y7,x7,s7,q7⟩:=wW (p:=p) S6 (I.pre _ _ μ) rv (aI.bind P6);exact⟨ys,e1,e2,T,W,M,Y7,(xx.trans I).trans x7,s7,((B.mono V).mono I).mono x7,I.pre _ _ μ,q7⟩
  ·rw[Vt G]at l;exact l.elim
 ·have e : i = s.items.length := by lia
  subst e;rw[X6]at l;unfold compLoop at l;by_cases G:bA s f
  ·rw[Vs G]at l;exact .inl ⟨(hJ q c f U N G).2,l q c j3.refl N _ (aL.mpr ⟨acc,rfl,a2⟩)⟩
  ·rw[Vt G]at l;exact l.elim
theorem Hk{X:Cx}:vC X [] (mW p aV):=λb s c H Q I h=>by
 refine cX h λα i f S R P=>?_;exact H8 b s c H Q I (P.now S)
theorem Hj{X:Cx}{c:Expr}{t:MT}(h:PT X c (mW p t)):vC X [c] (mW p t):=H7 h
theorem HK(j:1e8)(S:4e9)(i:PI X tg iter (yc p fi))
  (U:∀cl C s H fp,PG 0e4 tg (vx p.nx g)) (J:∀cl C s H fp,vC 0e4 ifs (mW p.nx t)) (E:∀cl C s H fp,PE 0e4 elt (tD p.nx e))
  (hs:∀x,foldedSetIterable iter 1e7 x=pure x):PE X 2e1 (tD p (bu fi cap g t e)):=
 (Ir j S i U J E hs).weak λb H Q h=>tq h
theorem Hn(o:1e8)(hN:(X.N.Nodup))(j:4e0)(q:4e5)(S:4e9)(I:PI X tg iter (yc p fi))(U:∀cl C s H fp,PG 0e4 tg (vx p.nx g))(J:∀cl C s H fp,vC 0e4 ifs (mW p.nx t))(E:∀cl C s H fp,PE 0e4 elt (tD p.nx e))(W:(swapsWith 2e1 (some (.Name x pos1)) pos2.line 1e7=pure true))(hs:∀x,foldedSetIterable iter 1e7 x=pure x):
  PS X (.Assign [.Name x pos1] 2e1 pos2) (mX p (aU (bu fi cap g t e) (ag i))):=
 (Ie o hN j q S I U J E W hs).weak λD z H h => by
  refine cX h λα y u S R P=>?_;exact tq ⟨α,y,u,S,R,(aI.bindS P).imp λd w c b m l f v r=>(f c b _ j3.refl l ((R.mono m).set i r))⟩
end
abbrev MB:=Nat->Ro->ax->aq Ro
noncomputable def pD(e:ME):MB:=λn f h=>(e f h).nox.bind λy b=>(si n y b).bind λ_ c=>.ok f c
open Classical in
noncomputable def gL(src:kE)(n:Nat)(g:MG)(t:MT)(fb:MB):List D->Ro->ax->aq Ro
 |[],j,f=>if bA src f then .ok j f else .bad
 |d::r,j,f=>if bA src f then (g d j f).nox.bind λc i=>(t c i).nox.bind λb h=>if b=true then (fb n c h).nox.bind λl C=>gL src n g t fb r l C else gL src n g t fb r c h else .bad
noncomputable def pK(fi:MI)(g:MG)(t:MT)(fb:MB):MB:=λn c f=>(fi c f).nox.bind λs b=>gL s n g t fb s.items c b
noncomputable def ka(fi:MI)(cap:2e6)(g:MG)(t:MT)(fb:MB):ME:=λf h=>(fi f h).bind λs b=>(gL s b.length g t fb s.items (cJ cap f) (b++[.lst []])).bind λ_ c=>.ok (.obj b.length) c
section
variable{p:Pa}
noncomputable def CK(p:Pa)(fb:MB)(acc:Addr):CY:=λj H N=>∃α h f n,p.S H α f/\cW p.K H α h j/\α[n]?=some acc/\aI p H α (fb n h f) (λi _ c α'=>∀b,cW p.K c α' i b->N b c)
theorem Cf{e:ME}{N:(St->Hp->Prop)}(h:CK p (pD e) acc σ H N):Dg (tD p.nx e) acc σ H N:=by
 refine cE h λα m i n S R a P=>?_;refine⟨α,m,i,S,R,(dh P).imp λy j o W I c b v r=>?_⟩;obtain⟨μ,E,B,l,f,s,L⟩:=wW (p:=p) c (I.pre _ _ a) r (aI.bind b);exact⟨μ,E,B,L.now s σ ((R.mono I).mono f)⟩
theorem lO{src:kE}{g:MG}{t:MT}{fb:MB}{J:It}{H1 H0:Hp}{α1 α0:3e4}{ρ:Ro}{Y1:ax}{N:(St->Hp->Prop)}(X0:p.X H0 H1 α0 α1)(S1:p.S H1 α1 Y1)(R:cW p.K H1 α1 ρ σ)(hn:α1[n]?=some acc)(hJ:t9 p J src H0 α0)(U:aI p H1 α1 (gL src n g t fb src.items ρ Y1) (λρ' _ H' α'=>∀σ',cW p.K H' α' ρ' σ'->N σ' H')):RY J (vx p.nx g) (mW p.nx t) (CK p.nx fb acc) N σ H1:=by
 refine⟨λi m o l=>m=src.items.length-i/\i<=src.items.length/\∃c j f,p.X H0 l α0 c/\p.S l c f/\cW p.K l c j o/\c[n]?=some acc/\aI p l c (gL src n g t fb (src.items.drop i) j f) (λρ' _ H' α'=>∀σ',cW p.K H' α' ρ' σ'->N σ' H'),
  ⟨_,rfl,Wo _,α1,ρ,Y1,X0,S1,R,hn,by simpa using U⟩,?_⟩
 rintro i m o l ⟨rfl,hi,c,j,f,s,r,R2,a2,P⟩
 by_cases h:i<src.items.length
 ·rw [X3 h] at P;unfold gL at P;by_cases G:bA src f
  ·rw [Vs G] at P;obtain⟨O,hy⟩:=(hJ l c f s r G).1 i _ (Xx h)
   refine .inr ⟨O,λσ' H'=>i+1<=src.items.length/\∃c j f,p.X H0 H' α0 c/\p.S H' c f/\cW p.K H' c j σ'/\c[n]?=some acc/\aI p H' c (gL src n g t fb (src.items.drop (i+1)) j f) (λρ' _ H' α'=>∀σ',cW p.K H' α' ρ' σ'->N σ' H'),
    λσ' H' ⟨h1,h2⟩=>⟨_,by lia,rfl,h1,h2⟩,λx T yx=>?_⟩
   refine jr (hy x T yx) λq S3 R3=>?_;refine⟨c,j,f,_,S3,R2.mono q,R3,(aI.from (p:=p.nx) q (dh P)).imp λM I H4 u z S4 Z σ4 B=>?_⟩;refine⟨u,M,I,S4,B,(dh Z).imp λb L H5 C V E y=>?_⟩;have Q:=((s.trans q).trans z).trans V;have μ:=V.pre _ _ (z.pre _ _ (q.pre _ _ a2));cases b with
   |false=>
    exact⟨h,C,M,L,Q,E,B.mono V,μ,y⟩
   |true=>
    exact⟨C,M,L,n,E,B.mono V,μ,(dh y).imp λw v H6 W A S6 D σ' r'=>⟨h,W,w,v,Q.trans A,S6,r',A.pre _ _ μ,D⟩⟩
  ·rw[Vt G]at P;exact P.elim
 ·have e : i = src.items.length := by lia
  subst e;rw[X6]at P;unfold gL at P;by_cases G:bA src f
  ·rw[Vs G]at P;exact .inl ⟨(hJ l c f s r G).2,P.now r _ R2⟩
  ·rw[Vt G]at P;exact P.elim
theorem zm{fi:MI}{g:MG}{t:MT}{fb:MB}{N:(St->Hp->Prop)}(h:CK p.nx (pK fi g t fb) acc σ H N):DL (yc p.nx fi) (vx p.nx g) (mW p.nx t) (CK p.nx fb acc) σ H N:=by
 refine cE h λα l f n S R a P=>?_;exact⟨α,l,f,S,R,(dh P).imp λs j o i m c b J L hJ=>(lO (p:=p.nx) j3.refl c (R.mono m) (m.pre _ _ a) hJ b)⟩
theorem zu{fi:MI}{cap:2e6}{g:MG}{t:MT}{fb:MB}{Q:VK}(h:tD p (ka fi cap g t fb) σ H Q):lF (λ_=>.lst []) (yc p fi) cap (vx p.nx g) (mW p.nx t) (λacc=>CK p.nx fb acc) σ H Q:=by
 refine cX h λα v r S R P=>?_;refine⟨α,v,r,S,R,(aI.bind P).imp λq b A i o c f J L hJ acc C=>?_⟩;refine jr (cY c C Reps.nil) λB s _=>?_;have N:(i++[acc])[b.length]?=some acc:=by rw[<- c.len];simp
 exact lO B s (((R.mono o).cap cap).mono B) N hJ ((aI.from B (aI.bind f)).imp λw u z α' m l j y E=>(j.now l _ (aL.mpr ⟨acc,rfl,m.pre _ _ N⟩)))
variable{X:Cx}{cl0 cl:Comprehension}{rest:(List Comprehension)}{cap:2e6}{fi:MI}{g:MG}{t:MT}{fb:MB}{d:Nat}
theorem HM{f:ME}(U:gens[d]?=none)(E:X.xe=tV)(l:PE X elt (tD p.nx f)):zJ X (.ListComp elt gens scope pos) d acc (CK p.nx (pD f) acc):=λP s b H N I h=>qd U E l P s b H N I (Cf (p:=p.nx) h)
theorem E5(b:lL e=true)(hz:(∀g∈clausesOf e,g.is_async=0))(U:(clausesOf e)[d]?=some cl)(E:X.xe=tV)(j:1e8)(i:PI X cl.target cl.iter (yc p.nx fi))(C:PG X cl.target (vx p.nx g))(c:vC X cl.ifs (mW p.nx t))(B:zJ X e (d+1) acc (CK p.nx fb acc))
  (hs:∀x,foldedSetIterable cl.iter 1e7 x=pure x):zJ X e d acc (CK p.nx (pK fi g t fb) acc):=λP s f H N I h=>BN b hz U E j i C c B hs P s f H N I (zm h)
theorem EH(o:1e8)(hz:∀g∈cl0::rest,g.is_async=0)(hN:(X.N.Nodup))(j:4e0)(q:4e5)(S:4e9)(I:PI X cl0.target cl0.iter (yc p fi))(U:∀cl C s H fp,PG 0e4 cl0.target (vx p.nx g))(J:∀cl C s H fp,vC 0e4 cl0.ifs (mW p.nx t))(B:∀cl C s H fp acc,zJ 0e4 (.ListComp elt (cl0::rest) scope pos) 1 acc (CK p.nx fb acc))(W:(swapsWith (.ListComp elt (cl0::rest) scope pos) (some (.Name x pos1)) pos2.line 1e7=pure true))(hs:(∀x,foldedSetIterable cl0.iter 1e7 x=pure x)):
  PS X (.Assign [.Name x pos1] (.ListComp elt (cl0::rest) scope pos) pos2) (mX p (aU (ka fi cap g t fb) (ag i))):=
 (wX o hz hN j q S I U J B W hs).weak λD z H h => by
  refine cX h λα y u S R P=>?_;exact zu ⟨α,y,u,S,R,(aI.bindS P).imp λd w c b m l f v r=>(f c b _ j3.refl l ((R.mono m).set i r))⟩
end
mutual
def D.low(n:Nat):D->Prop
 |.tup xs=>D.lows n xs
 |.frz xs=>D.lows n xs
 |.obj m=>m<n
 |_=>True
def D.lows(n:Nat):List D->Prop
 |[]=>True
 |x::xs=>x.low n/\D.lows n xs
end
def O.low(n:Nat):O->Prop
 |.lst S=>D.lows n S
 |.dct s _=>∀p∈s,p.2<n
 |_=>True
section
variable{α':3e4}
mutual
theorem aN.low:∀{d:D}{v:V},aN K H α d v->d.low α.length
 |.non,_,_=>trivial
 |.bl _,_,_=>trivial
 |.int _,_,_=>trivial
 |.str _,_,_=>trivial
 |.tup xs,_,h=>by
  obtain⟨a,vs,rfl,h1,h2⟩:=aJ.mp h;simp only[D.low];exact Reps.low h2
 |.frz xs,_,h=>by
  obtain⟨a,vs,rfl,h1,h2⟩:=br.mp h;simp only[D.low];exact Reps.low h2
 |.obj n,_,h=>by
  obtain⟨a,rfl,h1⟩:=aL.mp h;simp only[D.low];exact(VY.mp h1).1
theorem Reps.low:∀{ds:List D}{vs:List V},Reps K H α ds vs->D.lows α.length ds
 |[],_,_=>trivial
 |d::ds,_,h=>by
  simp only[Reps]at h;obtain⟨v,r,rfl,h1,h2⟩:=h;simp only[D.lows];exact⟨aN.low h1,Reps.low h2⟩
end
mutual
theorem aN.cut{n:Nat}(e:∀m,m<n->α'[m]?=α[m]?):∀{d:D}{v:V},aN K H α' d v->d.low n->aN K H α d v
 |.non,_,h,_=>by simp[aN]at h⊢;exact h
 |.bl _,_,h,_=>by simp[aN]at h⊢;exact h
 |.int _,_,h,_=>by simp[aN]at h⊢;exact h
 |.str _,_,h,_=>by simp[aN]at h⊢;exact h
 |.tup xs,_,h,b=>by
  refine aP (aJ.mp h) λa vs v1 h1 h2=>?_;subst v1;exact aJ.mpr ⟨a,vs,rfl,h1,Reps.cut e h2 b⟩
 |.frz xs,_,h,b=>by
  refine aP (br.mp h) λa vs v2 h1 h2=>?_;subst v2;exact br.mpr ⟨a,vs,rfl,h1,Reps.cut e h2 b⟩
 |.obj m,_,h,b=>by
  obtain⟨a,rfl,h1⟩:=aL.mp h;exact aL.mpr ⟨a,rfl,by rw[<- e m b];exact h1⟩
theorem Reps.cut{n:Nat}(e:∀m,m<n->α'[m]?=α[m]?):∀{ds:List D}{vs:List V},Reps K H α' ds vs->D.lows n ds->Reps K H α ds vs
 |[],_,h,_=>by simp[Reps]at h⊢;exact h
 |d::ds,_,h,b=>by
  refine aP h λv r v4 h1 h2=>?_;subst v4;exact⟨v,r,rfl,aN.cut e h1 b.1,Reps.cut e h2 b.2⟩
end
end
def KY(Y Y':ax)(d:D):Prop:=d.low 5e8/\Y.length<=Y'.length/\∀(i:Nat) o,i<Y.length->Y'[i]?=some o->Y[i]?=some o\/o.low 5e8
open Classical in
noncomputable def rn(Y:ax)(o:aq D):aq D:=match o with
 |.ok d b=>if KY Y b d then .ok d (b.take 5e8) else .ok d b
 |o=>o
theorem AH{p:Pa}{Y:ax}{o:aq D}{Q:VK}(S:(p.S H α Y))(P:aI p H α (rn Y o) (RV p Q)):aI p H α o (RV p Q):=by
 cases o with
 |exc x b=>exact P
 |bad=>exact P
 |ok d b=>
  unfold rn at P;dsimp only at P;by_cases U:KY Y b d
  ·rw [Vs U] at P;refine jr U λG J C=>?_;intro B α' e s v R
   have l:∀m,m<Y.length->α'[m]?=α[m]?:=λm M=>by
    have h:m<α.length:=by rw[S.len];exact M
    rw[Xx h];exact e.pre m _ (Xx h)
   refine P B α ⟨e.tup,e.frz,λ_ _ z=>z,e.xds⟩ ⟨by rw[VB,S.len];lia,S.nd,λn o a i j=>?_⟩ v (aN.cut l R G);have N:n<Y.length:=by rw[<- S.len];exact(VY.mp j).1
   rw[VG N]at i;have q:=s.ob n o a i (e.pre n a j)
   have O:o.low 5e8:=by
    rcases C n o N i with z|z
    ·have A := S.ob n o a z j;cases o with
     |lst f=>refine bz A λV _ r=>?_;have:=r.low;rw[S.len]at this;exact this
     |set w=>trivial
     |iset w=>trivial
     |dic=>trivial
     |exc c=>trivial
     |exn c fs=>trivial
     |dct y E=>obtain⟨_,f,_,r,_⟩:=A;rw[<- S.len];exact vD.low r
    ·exact z
   cases o with
   |lst f=>refine bz q λV u r=>?_;exact⟨V,u,Reps.cut l r O⟩
   |set w=>exact q
   |iset w=>exact q
   |dic=>exact q
   |exc c=>exact q
   |exn c fs=>exact q
   |dct y E=>obtain⟨I,f,u,r,t⟩:=q;exact⟨I,f,u,vD.cut l r O,t⟩
  lia
noncomputable def SO.out(o:SO):aq D:=match o with
 |.ret d b=>.ok d b
 |.next _ b=>.ok .non b
 |.exc x b=>.exc x b
 |_=>.bad
noncomputable def eH(n N:Nat)(fb:MS):List D->ax->aq D:=λs b=>if s.length=n then rn b (fb (s.map some++List.replicate (N-n) none) b).out else .bad
def Ka(p:Pa)(n:Nat)(F:(List D->ax->aq D)):Sp:=λy H Q _=>y.length=n/\∃α s b,p.S H α b/\p.Rs H α s y/\aI p H α (F s b) (RV p Q)
structure fJ(P:Program)(w:World)(K:W.Frag)(mg:5e1)(base:Heap)(p:Pa)(k:Nat)(x:Str)(n:Nat)(F:(List D->ax->aq D)):Prop where
 len:∀ds Y,ds.length≠n->F ds Y=.bad
 fn:∃f fd ps,mg x=some (.ref f)/\W.keepIn K (.ref f)=true/\jc K fd ps []/\rK P w K mg base A2 k f fd ps (Ka p n F)
section
variable{p:Pa}{X:Cx}{k:Nat}{F:(List D->ax->aq D)}{a:Expr}{es:(List Expr)}{fr:MA}
theorem HL (h:fJ X.prog X.w X.K X.mg X.base p k x n F) (z:ib k X.A) (U:Gl X x) (y:PA X (a::es) (yd p fr)) (B:(x == ("__debug__" : Str))=false) (E:(starEach (a::es) 1e7=(false,eval a 1e7)::starEach es 1e7)) (L:4e7) :
  PE X (.Call (.Name x px) (a::es) [] pos) (tD p (au F fr)):=by
 refine eC h.fn λf D J o q u v=>?_;refine(Iv v z U o q u .nil QT y B E L).weak λM H Q ⟨α,G,C,S,R,P⟩=>⟨α,G,C,S,R,(aI.bind P).imp λs b j i I m c V r=>?_⟩;show Ka p n F (V++[]) j Q E0;rw[Vu];refine⟨?_,i,s,b,m,r,c⟩;by_cases l:s.length=n
 ·rw[r.length];exact l
 ·rw[h.len s b l]at c;exact c.elim
end
theorem qO{ds:List D}(r:Reps K H α ds vs)(m:Nat):cW K H α (ds.map some++List.replicate m none) (vs.map some++List.replicate m none):=by
 refine⟨by simp[r.length],λi d h=>?_⟩;by_cases I:i<ds.length
 ·rw [VF (by simpa using I), Wi] at h;cases e:ds[i]? with
  |none=>rw[e]at h;cases h
  |some x=>
   rw[e]at h;cases h;obtain⟨v,b,R⟩:=r.get e;refine⟨v,?_,R⟩;rw[VF (by simp[r.length,I]),Wi,b];rfl
 ·rw[VD (by simpa using I),VE]at h;split at h <;> cases h
theorem Oj{p:Pa}{k:Nat}{f:Addr}{ps:List Str}{fb:MS}(F:(tW K x qual st f fd))(S:iQ N ps (aY st))(q:ps.length=n)(M:mg x=some (.ref f))(B:jc K fd ps [])(body : ∀ (cdv : Value) (A : Around) (outer : List Env) (s : Shared) (H : Hp) (E : XK), ib k (A.deeper (envOfC qual (aY st) 0e2 f cdv)) ->
   nQ (rH A2 P w K mg base N qual (aY st) f cdv A outer s H E).nox (cH st) (mX p fb)):fJ P w K mg base p (k+1) x n (eH n N.length fb):=by
 refine⟨λD l h=>by simp_all[eH],f,fd,ps,M,F.kp,B,?_⟩;refine F.ok S (λy H Q E h=>h.1.trans q.symm) λcdv A outer s H y Q E u h=>?_;refine⟨_,body cdv A outer s H E u,?_⟩;obtain⟨L,α,D,l,m,R,j⟩:=h;unfold eH at j;rw[Vs (by rw[<- R.length];exact L)]at j;have i:=AH m j;unfold start;rw[L];refine⟨α,_,l,m,qO R _,?_⟩;cases e:fb (D.map some++List.replicate (N.length-n) none) l with
 |ret d b=>rw[e]at i;exact λc α' v x s r=>i c α' x s v r
 |next o b=>rw[e]at i;exact λc α' z x s r=>i c α' x s .non (bM.mpr rfl)
 |exc x b=>rw[e]at i;exact i
 |brk o b=>rw[e]at i;exact i.elim
 |cnt o b=>rw[e]at i;exact i.elim
 |bad=>rw[e]at i;exact i.elim
end L2
variable{Y:L2.ax}{xs:List L2.D}{d:L2.D}{M:L2.ax}{fr:L2.MA}{o:L2.O}{Y0:L2.ax}{ρ:L2.Ro}{M0:L2.ax}{fa:L2.ME}{fi:L2.MI}{Y1:L2.ax}{ds:List L2.D}{ys:List L2.D}{gd:Int->Int->L2.D}{gg:Int->Int->L2.D}{fb:L2.MS}{x2:Option L2.D}{src:L2.kE}{y:L2.D}
namespace L2
open PySem PySem.Spec PyProof.Rows RS
section
variable(K:W.Frag)(H:Hp)
mutual
def oj:PyData->V->Prop
 |.none,v=>v=.non
 |.bool b,v=>v=.bl b
 |.int i,v=>v=.int i
 |.str x,v=>v=.str x
 |.tuple xs,v=>∃a vs,v=.ref a/\ei K H a vs/\RdPs xs vs
 |.list xs,v=>∃a vs,v=.ref a/\dN K H a vs/\RdPs xs vs
 |.dict _,_=>False
def RdPs:List PyData->List V->Prop
 |[],vs=>vs=[]
 |x::xs,vs=>∃v r,vs=v::r/\oj x v/\RdPs xs r
end
end
section
variable{X:Cx}
mutual
theorem bX(I:0e6):∀(d:PyData)(x:V)(v:Value),oj X.K H d x->cm x v->∃as,Reads 2e7 v d as
 |.none,_,_,h,r=>by simp[oj]at h;subst h;cases r;exact⟨_,.none⟩
 |.bool b,_,_,h,r=>by simp[oj]at h;subst h;cases r;exact⟨_,.bool b⟩
 |.int b,_,_,h,r=>by simp[oj]at h;subst h;obtain⟨t,rfl⟩:=r;exact⟨_,.int b t⟩
 |.str b,_,_,h,r=>by simp[oj]at h;subst h;obtain⟨t,rfl⟩:=r;exact⟨_,.str b t⟩
 |.tuple xs,_,_,h,r=>by
  refine aP h λa vs v3 h1 h2=>?_;subst v3;cases r;obtain⟨its,rv,⟨o,e1,e2,n,e3⟩,_⟩:=I.tuple h1;obtain⟨as,q⟩:=readsAll_of I xs vs its h2 rv;exact⟨_,.tuple e1 e2 e3 (by simpa using q)⟩
 |.list xs,_,_,h,r=>by
  refine aP h λa vs v5 h1 h2=>?_;subst v5;cases r;refine bI (I.list h1) λits rv v6 _=>?_;refine aF v6 λo n e1 e2 _ e3=>?_;obtain⟨as,q⟩:=readsAll_of I xs vs its h2 rv;exact⟨_,.list e1 e2 e3 (by simpa using q)⟩
 |.dict _,_,_,h,_=>by simp[oj]at h
theorem readsAll_of(I:0e6):∀(ds:(List PyData))(xs:List V)(vs:1e5),RdPs X.K H ds xs->bb xs vs->∃as,ReadsAll 2e7 vs ds as
 |[],_,_,h,r=>by simp[RdPs]at h;subst h;cases r;exact⟨_,.nil⟩
 |d::ds,_,_,h,r=>by
  refine aP h λv q v7 h1 h2=>?_;subst v7;cases r with
  |cons r rr=>
   obtain⟨as,g1⟩:=bX I d _ _ h1 r;obtain⟨bs,g2⟩:=readsAll_of I ds _ _ h2 rr;exact⟨_,.cons g1 g2⟩
end
noncomputable def fitP(d:PyData):Bool:=d.canLay0&&decide (d.depth<=60)
noncomputable def C7(K:W.Frag)(neg:Bool):R2:=λx y H Q=>∃a b,oj K H a x/\oj K H b y/\fitP a=true/\fitP b=true/\Q (.bl (if neg then !PyData.eqv a b else PyData.eqv a b)) H
theorem nE{a b:PyData}(n:fitP a=true)(U:A.units+64<cLine):A.units+min a.depth b.depth<cLine:=by
 unfold fitP at n;have:=Nat.min_le_left a.depth b.depth
 lia
theorem fitP_lay{a:PyData}(n:fitP a=true):a.canLay0=true:=by
 simp_all[fitP]
theorem fitP_depth{a:PyData}(n:fitP a=true):a.depth<=60:=by
 simp_all[fitP]
theorem Ng(U:2e4):i9 X (compareOp .Eq) (C7 X.K false):=by
 intro pins s σ H x y v u Q I r μ h;refine gf h λa b c e d f q=>?_;obtain⟨S,R⟩:=bX I a x v c r;obtain⟨bs,M⟩:=bX I b y u e μ;exact SeqAt.compareEq_reads R M (fitP_lay d) (fitP_lay f) (nE d U) ⟨.bl _,H,I,rfl,q⟩
theorem M8(U:2e4):i9 X (compareOp .NotEq) (C7 X.K true):=by
 intro pins s σ H x y v u Q I r μ h;refine gf h λa b c e d f q=>?_;obtain⟨S,R⟩:=bX I a x v c r;obtain⟨bs,M⟩:=bX I b y u e μ;exact SeqAt.compareNe_reads R M (fitP_lay d) (fitP_lay f) (nE d U) ⟨.bl _,H,I,rfl,q⟩
noncomputable def C6(K:W.Frag)(neg:Bool):R2:=λx y H Q=>∃a b S,oj K H a x/\oj K H b y/\(b=.list S\/b=.tuple S)/\fitP a=true/\fitP b=true/\Q (.bl (if neg then !(S.any λy=>PyData.eqv y a) else S.any λy=>PyData.eqv y a)) H
theorem Nf(U:2e4):i9 X (compareOp .In) (C6 X.K false):=by
 intro pins s σ H x y v u Q I r μ h;obtain⟨a,b,S,e,f,B,d,c,q⟩:=h;obtain⟨g,R⟩:=bX I a x v e r;obtain⟨bs,M⟩:=bX I b y u f μ;have D:=fitP_depth d;rcases B with rfl|rfl
 ·refine SeqAt.in_list_reads M R (by simpa [PyData.canLay0] using fitP_lay c) (fitP_lay d) ?_ ⟨.bl _, H, I, rfl, q⟩;have:=VN (PyData.depthAll S) a.depth
  lia
 ·refine SeqAt.in_tuple_reads M R (by simpa [PyData.canLay0] using fitP_lay c) (fitP_lay d) ?_ ⟨.bl _, H, I, rfl, q⟩;have:=VN (PyData.depthAll S) a.depth
  lia
theorem BQ(U:2e4):i9 X (compareOp .NotIn) (C6 X.K true):=by
 intro pins s σ H x y v u Q I r μ h;obtain⟨a,b,S,e,f,B,d,c,q⟩:=h;obtain⟨g,R⟩:=bX I a x v e r;obtain⟨bs,M⟩:=bX I b y u f μ;have D:=fitP_depth d;rcases B with rfl|rfl
 ·refine SeqAt.notIn_list_reads M R (by simpa [PyData.canLay0] using fitP_lay c) (fitP_lay d) ?_ ⟨.bl _, H, I, rfl, q⟩;have:=VN (PyData.depthAll S) a.depth
  lia
 ·refine SeqAt.notIn_tuple_reads M R (by simpa [PyData.canLay0] using fitP_lay c) (fitP_lay d) ?_ ⟨.bl _, H, I, rfl, q⟩;have:=VN (PyData.depthAll S) a.depth
  lia
noncomputable def Ph(neg:Bool):R2:=λx y H Q=>∃b,y=.bl b/\Q (.bl (if neg then !decide (x=.bl b) else decide (x=.bl b))) H
theorem cm.bool_iff{x:V}{v:Value}(r:cm x v):(v == Value.bool b)=decide (x=.bl b):=by
 cases x with
 |non=>cases r;rfl
 |bl c=>cases r;lia
 |int _=>obtain⟨t,rfl⟩:=r;rfl
 |str _=>obtain⟨t,rfl⟩:=r;rfl
 |byt _=>obtain⟨t,rfl⟩:=r;rfl
 |flt _=>obtain⟨t,rfl⟩:=r;rfl
 |ref _=>cases r;rfl
 |ty _=>cases r;rfl
theorem BR:i9 X (compareOp .IsNot) (Ph true):=by
 intro pins s σ H x y v u Q I R μ h;obtain⟨b,rfl,q⟩:=h;cases μ;have c:EP X pins σ Q (.bool (!(v == .bool b))) s:=⟨.bl _,H,I,by rw[R.bool_iff];rfl,q⟩
 cases x <;> first
  |(cases R;exact Vg c)
  |(obtain⟨t,rfl⟩:=R;exact Vg c)
end
mutual
def rm(Y:ax):D->Option PyData
 |.non=>some .none
 |.bl b=>some (.bool b)
 |.int i=>some (.int i)
 |.str x=>some (.str x)
 |.tup xs=>(toPs Y xs).map .tuple
 |.frz xs=>(toPs Y xs).map .list
 |.obj _=>none
def toPs(Y:ax):List D->Option (List PyData)
 |[]=>some []
 |x::xs=>(rm Y x).bind λa=>(toPs Y xs).map λr=>a::r
end
noncomputable def rA(Y:ax)(d:D):Option PyData:=match d with
 |.obj n=>match Y[n]? with
  |some (.lst S)=>(toPs Y S).map .list
  |_=>none
 |d=>rm Y d
noncomputable def dc(Y:ax):List D->Option (List PyData)
 |[]=>some []
 |x::S=>(rA Y x).bind λa=>(dc Y S).map λr=>a::r
noncomputable def hW(Y:ax)(d:D):Option PyData:=match d with
 |.obj n=>match Y[n]? with
  |some (.lst S)=>(dc Y S).map .list
  |_=>none
 |.tup S=>(dc Y S).map .tuple
 |d=>rm Y d
section
mutual
theorem fN:∀{d:D}{q:PyData}{v:V},rm Y d=some q->aN K H α d v->oj K H q v
 |.non,_,_,h,r=>by simp[rm]at h;cases h;simp[oj];exact bM.mp r
 |.bl b,_,_,h,r=>by simp[rm]at h;cases h;simp[oj];exact aR.mp r
 |.int b,_,_,h,r=>by simp[rm]at h;cases h;simp[oj];exact av.mp r
 |.str b,_,_,h,r=>by simp[rm]at h;cases h;simp[oj];exact cw.mp r
 |.tup xs,_,_,h,r=>by
  simp only[rm]at h;cases e:toPs Y xs with
  |none=>rw[e]at h;cases h
  |some ys=>
   rw[e]at h;cases h;refine aP (aJ.mp r) λa vs v1 h1 h2=>?_;subst v1;exact⟨a,vs,rfl,h1,toPs_ok e h2⟩
 |.frz xs,_,_,h,r=>by
  simp only[rm]at h;cases e:toPs Y xs with
  |none=>rw[e]at h;cases h
  |some ys=>
   rw[e]at h;cases h;refine aP (br.mp r) λa vs v2 h1 h2=>?_;subst v2;exact⟨a,vs,rfl,h1.sq,toPs_ok e h2⟩
 |.obj n,_,_,h,r=>by grind [rm]
theorem toPs_ok:∀{ds:List D}{qs:(List PyData)}{vs:List V},toPs Y ds=some qs->Reps K H α ds vs->RdPs K H qs vs
 |[],_,_,h,r=>by simp[toPs]at h;cases h;simp[RdPs];simp[Reps]at r;exact r
 |x::xs,_,_,h,r=>by
  simp[toPs]at h;cases e1:rm Y x with
  |none=>rw[e1]at h;cases h
  |some a=>
   cases e2:toPs Y xs with
   |none=>rw[e1,e2]at h;cases h
   |some ys=>
    rw[e1,e2]at h;cases h;refine aP r λv vr v3 r1 r2=>?_;subst v3;exact⟨v,vr,rfl,fN e1 r1,toPs_ok e2 r2⟩
end
theorem Hg{q:PyData}(S:(e4 K w H α Y))(h:rA Y d=some q)(r:aN K H α d v):oj K H q v:=by
 cases d with
 |obj n=>
  unfold rA at h;dsimp only at h;split at h
  ·rename_i c f;refine la (S.at f) λa A U hH R=>?_;obtain⟨g,rfl,E⟩:=aL.mp r;rw[A]at E;cases E;cases e:toPs Y c with
   |none=>rw[e]at h;cases h
   |some μ=>
    rw[e]at h;cases h;exact⟨a,U,rfl,dN.of hH,toPs_ok e R⟩
  ·cases h
 |non=>exact fN h r
 |bl b=>exact fN h r
 |int i=>exact fN h r
 |str x=>exact fN h r
 |tup c=>exact fN h r
 |frz c=>exact fN h r
theorem mu(S:(e4 K w H α Y)):∀{ds:List D}{qs:(List PyData)}{vs:List V},dc Y ds=some qs->Reps K H α ds vs->RdPs K H qs vs
 |[],_,_,h,r=>by simp[dc]at h;cases h;simp[RdPs];simp[Reps]at r;exact r
 |x::e,_,_,h,r=>by
  simp[dc]at h;cases d:rA Y x with
  |none=>rw[d]at h;cases h
  |some a=>
   cases B:dc Y e with
   |none=>rw[d,B]at h;cases h
   |some μ=>
    rw[d,B]at h;cases h;refine aP r λv c b R M=>?_;subst b;exact⟨v,c,rfl,Hg S d R,mu S B M⟩
theorem iV{q:PyData}(S:(e4 K w H α Y))(h:hW Y d=some q)(r:aN K H α d v):oj K H q v:=by
 cases d with
 |obj n=>
  unfold hW at h;dsimp only at h;split at h
  ·rename_i c j;refine la (S.at j) λa A U hH R=>?_;obtain⟨k,rfl,E⟩:=aL.mp r;rw[A]at E;cases E;cases e:dc Y c with
   |none=>rw[e]at h;cases h
   |some μ=>
    rw[e]at h;cases h;exact⟨a,U,rfl,dN.of hH,mu S e R⟩
  ·cases h
 |tup c=>
  unfold hW at h;dsimp only at h;cases e:dc Y c with
  |none=>rw[e]at h;cases h
  |some μ=>
   rw[e]at h;cases h;refine aP (aJ.mp r) λa y v16 f g=>?_;subst v16;exact⟨a,y,rfl,f,mu S e g⟩
 |non=>exact fN h r
 |bl b=>exact fN h r
 |int i=>exact fN h r
 |str x=>exact fN h r
 |frz c=>exact fN h r
end
noncomputable def hZ(neg:Bool)(a b:D)(Y:ax):aq D:=match hW Y a,hW Y b with
 |some p,some q=>if fitP p=true/\fitP q=true then .ok (.bl (if neg then !PyData.eqv p q else PyData.eqv p q)) Y else .bad
 |_,_=>.bad
noncomputable def lK:PyData->Option (List PyData)
 |.list S=>some S
 |.tuple S=>some S
 |_=>none
noncomputable def iC(neg:Bool)(a b:D)(Y:ax):aq D:=match hW Y a,hW Y b with
 |some p,some q=>match lK q with
  |some S=>if fitP p=true/\fitP q=true then .ok (.bl (if neg then !(S.any λy=>PyData.eqv y p) else S.any λy=>PyData.eqv y p)) Y else .bad
  |none=>.bad
 |_,_=>.bad
theorem Ky{p:Pa}:rq p (hZ neg) (C7 p.K neg):=by
 intro a b v y H α Y Q S r R P;unfold hZ at P;split at P
 ·rename_i x z d Z;split at P
  ·rename_i F;exact⟨x,z,iV S d r,iV S Z R,F.1,F.2,P.now S _ (aR.mpr rfl)⟩
  ·exact P.elim
 ·exact P.elim
theorem Kx{p:Pa}:rq p (iC neg) (C6 p.K neg):=by
 intro a b v y H α Y Q S r R P;unfold iC at P;split at P
 ·rename_i x z d Z;split at P
  ·rename_i c h;split at P
   ·rename_i F;refine⟨x,z,c,iV S d r,iV S Z R,?_,F.1,F.2,P.now S _ (aR.mpr rfl)⟩;cases z <;> first|(cases h;exact .inl rfl)|(cases h;exact .inr rfl)|(cases h)
   ·exact P.elim
  ·exact P.elim
 ·exact P.elim
noncomputable def D.isNon:D->Bool
 |.non=>true
 |_=>false
noncomputable def D.isBl(c:Bool):D->Bool
 |.bl d=>d == c
 |_=>false
noncomputable def lC(neg:Bool)(a b:D)(Y:ax):aq D:=match b with
 |.non=>.ok (.bl (if neg then !a.isNon else a.isNon)) Y
 |_=>.bad
theorem AC{a:D}(r:aN K H α a v):decide (v=.non)=a.isNon:=by
 cases a with
 |non=>rw[bM.mp r];rfl
 |bl b=>rw[aR.mp r];rfl
 |int b=>rw[av.mp r];rfl
 |str b=>rw[cw.mp r];rfl
 |tup S=>obtain⟨a,y,rfl,_⟩:=aJ.mp r;rfl
 |frz S=>obtain⟨a,y,rfl,_⟩:=br.mp r;rfl
 |obj S=>obtain⟨a,rfl,_⟩:=aL.mp r;rfl
theorem Nv{p:Pa}:rq p (lC false) (λx y H Q=>y=.non/\Q (.bl (decide (x=.non))) H):=by
 intro a b v y H α Y Q S r R P;cases b with
 |non=>exact⟨bM.mp R,P.now S _ (aR.mpr (by rw[AC r];rfl))⟩
 |bl b=>exact P.elim
 |int b=>exact P.elim
 |str b=>exact P.elim
 |tup c=>exact P.elim
 |frz c=>exact P.elim
 |obj c=>exact P.elim
theorem IV{p:Pa}:rq p (lC true) (λx y H Q=>y=.non/\Q (.bl (!decide (x=.non))) H):=by
 intro a b v y H α Y Q S r R P;cases b with
 |non=>exact⟨bM.mp R,P.now S _ (aR.mpr (by grind [AC]))⟩
 |bl b=>exact P.elim
 |int b=>exact P.elim
 |str b=>exact P.elim
 |tup c=>exact P.elim
 |frz c=>exact P.elim
 |obj c=>exact P.elim
noncomputable def GI(neg:Bool)(a b:D)(Y:ax):aq D:=match b with
 |.bl c=>.ok (.bl (if neg then !a.isBl c else a.isBl c)) Y
 |_=>.bad
theorem Jo{a:D}{c:Bool}(r:aN K H α a v):decide (v=.bl c)=a.isBl c:=by
 cases a with
 |non=>rw[bM.mp r];rfl
 |bl b=>rw[aR.mp r];cases b <;> cases c <;> rfl
 |int b=>rw[av.mp r];rfl
 |str b=>rw[cw.mp r];rfl
 |tup S=>obtain⟨a,y,rfl,_⟩:=aJ.mp r;rfl
 |frz S=>obtain⟨a,y,rfl,_⟩:=br.mp r;rfl
 |obj S=>obtain⟨a,rfl,_⟩:=aL.mp r;rfl
theorem Nw{p:Pa}:rq p (GI neg) (Ph neg):=by
 intro a b v y H α Y Q S r R P;cases b with
 |bl c=>exact⟨c,aR.mp R,P.now S _ (aR.mpr (by rw[Jo r]))⟩
 |non=>exact P.elim
 |int b=>exact P.elim
 |str b=>exact P.elim
 |tup x=>exact P.elim
 |frz x=>exact P.elim
 |obj x=>exact P.elim
end L2
namespace L2
open PySem PySem.Spec PyProof.Rows RS
open PySem.SeqAt
open PySem.AutoSeq1 (wpAny_loadPart')
open PySem.MeetsSeq PySem.MeetsSeq2 PySem.MeetsSeq3
def yp(O:CmpOp)(A:Around)(s:Shared)(y x:Value)(k:Bool):Prop:=∀(prog:Program)(w:World)(E:3e3)(Q:3e3),Q (.bool k) s->wpAny 0e9 A (richCompare O y x) Q E s
noncomputable def rE(t:Bool):List (Bool×Bool)->Bool
 |[]=>t
 |(e,k)::r=>if e=true then rE t r else k
def ot(O:CmpOp)(A:Around)(s:Shared):List Value->List Value->List (Bool×Bool)->Prop
 |[],_,[]=>True
 |_,[],[]=>True
 |y::μ,x::S,(e,k)::r=>EqAt A s y x e/\(e=false->yp O A s y x k)/\(e=true->ot O A s μ S r)
 |_,_,_=>False
theorem u5(l b:Addr)(items items2:5e5)(n N:Nat)(q D:Option Addr)(u j:Array (Option Value))(eks:List (Bool×Bool)) :
  Meets (Builtin.«tuple.__lt__» ⟨[.ref l,.ref b],[]⟩)
   (λA R s => s.heap.get? l = some { cls := .type "tuple", dict := q, data := .seq items n, slots := u } /\ s.heap.get? b = some { cls := .type "tuple", dict := D, data := .seq items2 N, slots := j } /\
    ot .Lt A.in1 s items.toList items2.toList eks/\R (.ok (.ret (.bool (rE (decide (items.size<items2.size)) eks)))) s):=
 .of_wp λprog w A R s h=>by
  obtain⟨p,g,d,t,S⟩:=s;refine tX h λL B C h=>?_;have O:=AutoSeq1.sub_tuple_tuple
  wp_walk using wpAny_loadPart' L,wpAny_loadPart' B,Xh _ (λr b f=>b.1=none/\f=⟨p,g,d,t,S⟩/\∃(v W:1e5)(eks':List (Bool×Bool)),r=v.zip W /\
   ot .Lt A.in1 ⟨p,g,d,t,S⟩ v W eks'/\R (.ok (.ret (.bool (rE (decide (items.size<items2.size)) eks')))) ⟨p,g,d,t,S⟩) _
  case turn=>
   rintro⟨y,x⟩ r b f ⟨H,rfl,v,W,eks',Z,i,hR⟩
   cases v with
   |nil=>rw[List.zip_nil_left]at Z;cases Z
   |cons a v=>
    cases W with
    |nil=>rw[List.zip_nil_right]at Z;cases Z
    |cons c W=>
     rw[X8]at Z;injection Z with X hrest
     injection X with μ o
     subst μ o;cases eks' with
     |nil=>simp[ot]at i
     |cons K eks'=>
      obtain⟨e,k⟩:=K;simp only[ot]at i;refine jr i λE m i=>?_;refine Vd (E prog w _ _ ?_);cases e with
      |true=>
       have hR':=hR
       wp_walk
       exact⟨rfl,rfl,_,_,_,hrest,i rfl,hR'⟩
      |false=>
       have hR':R (.ok (.ret (.bool k))) ⟨p,g,d,t,S⟩:=hR;have I:=m rfl prog w
       wp_walk using I
       exact⟨_,rfl,by simpa using hR'⟩
  case fin=>
   rintro⟨b1,b2⟩ f ⟨H,rfl,v,W,eks',Z,i,hR⟩
   simp only at H;subst H
   have V:eks'=[]:=by
    cases v with
    |nil=>cases eks' with
     |nil=>rfl
     |cons _ _=>simp only[ot]at i
    |cons a v=>cases W with
     |nil=>cases eks' with
      |nil=>rfl
      |cons _ _=>simp only[ot]at i
     |cons c W=>rw[X8]at Z;cases Z
   subst V;have hR':R (.ok (.ret (.bool (decide (items.size<items2.size))))) ⟨p,g,d,t,S⟩:=hR
   wp_walk
   exact⟨_,rfl,by simpa[Builtin.Tuple.tupleCompareSizes] using hR'⟩
  grind
theorem ND{l b:Addr}{items items2:5e5}{eks:List (Bool×Bool)}(L:IsTup 2e7 l items)(B:IsTup 2e7 b items2)(c:ot .Lt A.in1 s items.toList items2.toList eks)(U:A.units<cLine)(h:Q (.bool (rE (decide (items.size<items2.size)) eks)) s):wpAny 0e9 A (richCompare .Lt (.ref l) (.ref b)) Q E s:=by
 obtain⟨⟨cls,q,data,a⟩,G,O,n,H⟩:=id L;obtain⟨⟨cls2,D,data2,S⟩,d,i,N,j⟩:=id B;subst O H i j
 exact richCompare_meets_room ⟨_,G,rfl⟩ ⟨_,d,rfl⟩ PySem.F.slot_tuple_lt PySem.F.entry_tuple_lt (PySem.F.args_tuple_lt_2 _ _) (u5 l b items items2 n N q D a S eks)
  ⟨G,d,c,show Value.bool (rE (decide (items.size<items2.size)) eks)≠Value.notImplemented/\Q (.bool (rE (decide (items.size<items2.size)) eks)) s from⟨(λx=>nomatch x),h⟩⟩ U
end L2
namespace L2
open PySem PySem.Spec PyProof.Rows RS
noncomputable def cmpI:CmpOp->Int->Int->Bool
 |.Lt,i,j=>decide (i<j)
 |.LtE,i,j=>decide (i<=j)
 |.Gt,i,j=>decide (i>j)
 |.GtE,i,j=>decide (i ≥ j)
 |_,_,_=>false
noncomputable def isLt:CmpOp->Bool
 |.Lt=>true
 |_=>false
mutual
def cmpP(op:CmpOp):PyData->PyData->Option Bool
 |.int i,.int j=>some (cmpI op i j)
 |.tuple xs,.tuple ys=>if isLt op=true then cmpPs op xs ys else none
 |_,_=>none
def cmpPs(op:CmpOp):List PyData->List PyData->Option Bool
 |[],ys=>some (cmpI op 0 ys.length)
 |_::xs,[]=>some (cmpI op (xs.length+1) 0)
 |x::xs,y::ys=>if PyData.eqv x y=true then cmpPs op xs ys else cmpP op x y
end
noncomputable def vZ:CmpOp->Bool
 |.Lt | .LtE | .Gt | .GtE=>true
 |_=>false
theorem QJ:∀{op:CmpOp}(ho:vZ op=true){A:Around}{s:Shared}(a:Int)(t:Tok)(c:Int)(u:Tok),yp op A s (.int a t) (.int c u) (cmpI op a c)
 |.Lt,_,A,s,a,t,c,u=>λprog w E Q h=>(PyProof.Rows.lt_int h:wpAny 0e9 A (compareOp .Lt (.int a t) (.int c u)) Q E s)
 |.LtE,_,A,s,a,t,c,u=>λprog w E Q h=>(PyProof.Rows.le_int h:wpAny 0e9 A (compareOp .LtE (.int a t) (.int c u)) Q E s)
 |.Gt,_,A,s,a,t,c,u=>λprog w E Q h=>(PyProof.Rows.gt_int h:wpAny 0e9 A (compareOp .Gt (.int a t) (.int c u)) Q E s)
 |.GtE,_,A,s,a,t,c,u=>λprog w E Q h=>(PyProof.Rows.ge_int h:wpAny 0e9 A (compareOp .GtE (.int a t) (.int c u)) Q E s)
theorem zw(i j:Nat):cmpI op ((i+1:Nat):Int) ((j+1:Nat):Int)=cmpI op (i:Int) (j:Int):=by
 cases op <;> first|rfl|(unfold cmpI;simp)
theorem QI:∀{op:CmpOp}(ho:isLt op=true){A:Around}{s:Shared}{l b:Addr}{items items2:5e5}{eks:List (Bool×Bool)}(hl:IsTup 2e7 l items)(hb:IsTup 2e7 b items2)(hc:ot op A.in1 s items.toList items2.toList eks)
  (hu:A.units<cLine),yp op A s (.ref l) (.ref b) (rE (cmpI op 3e9 items2.size) eks)
 |.Lt,_,A,s,l,b,items,items2,eks,hl,hb,hc,hu=>λprog w E Q h=>ND hl hb hc hu (by
   rw[(show decide (items.size<items2.size)=cmpI .Lt 3e9 items2.size by (unfold cmpI;simp))];exact h)
mutual
theorem rc_reads{op:CmpOp}(ho:vZ op=true):∀(da db:PyData)(A:Around)(s:Shared)(a b:Value)(as bs:3e4)(k:Bool),Reads 2e7 a da as->Reads 2e7 b db bs->da.canLay0=true->db.canLay0=true ->
  A.units+min da.depth db.depth<cLine->cmpP op da db=some k->yp op A s a b k
 |.int i,.int j,A,s,_,_,_,_,k,ra,rb,_,_,hu,hk=>by
  cases ra;cases rb;simp[cmpP]at hk;cases hk;exact QJ ho _ _ _ _
 |.tuple xs,.tuple ys,A,s,_,_,_,_,k,ra,rb,ha,hb,hu,hk=>by
  simp only[cmpP]at hk
  have hlt:isLt op=true:=by
   cases z:isLt op with
   |true=>rfl
   |false=>rw[z,Vt V9]at hk;cases hk
  rw[Vs hlt]at hk;cases ra with
  | @tuple l o vs n _ as₁ h1 h2 h3 h4=>
   cases rb with
   | @tuple l' o' vs' n' _ bs₁ k1 k2 k3 k4=>
    have n1:vs.size=xs.length:=by simpa using X9 _ _ _ h4
    have n2:vs'.size=ys.length:=by simpa using X9 _ _ _ k4
    obtain⟨eks,e1,e2⟩:=rc_readsAll ho xs ys A.in1 s vs.toList vs'.toList _ _ k h4 k4 (by simpa[PyData.canLay0] using ha) (by simpa[PyData.canLay0] using hb) (SeqAt.room_in hu) hk;have:=QI hlt ⟨_,h1,h2,_,h3⟩ ⟨_,k1,k2,_,k3⟩ e1 (SeqAt.room_here hu)
    lia
 |.none,_,_,_,_,_,_,_,_,_,_,_,_,_,hk=>by simp_all[cmpP]
 |.bool _,_,_,_,_,_,_,_,_,_,_,_,_,_,hk=>by simp_all[cmpP]
 |.str _,_,_,_,_,_,_,_,_,_,_,_,_,_,hk=>by simp_all[cmpP]
 |.list _,_,_,_,_,_,_,_,_,_,_,_,_,_,hk=>by simp_all[cmpP]
 |.dict _,_,_,_,_,_,_,_,_,_,_,_,_,_,hk=>by simp_all[cmpP]
 |.int _,.none,_,_,_,_,_,_,_,_,_,_,_,_,hk=>by simp_all[cmpP]
 |.int _,.bool _,_,_,_,_,_,_,_,_,_,_,_,_,hk=>by simp_all[cmpP]
 |.int _,.str _,_,_,_,_,_,_,_,_,_,_,_,_,hk=>by simp_all[cmpP]
 |.int _,.list _,_,_,_,_,_,_,_,_,_,_,_,_,hk=>by simp_all[cmpP]
 |.int _,.tuple _,_,_,_,_,_,_,_,_,_,_,_,_,hk=>by simp_all[cmpP]
 |.int _,.dict _,_,_,_,_,_,_,_,_,_,_,_,_,hk=>by simp_all[cmpP]
 |.tuple _,.none,_,_,_,_,_,_,_,_,_,_,_,_,hk=>by simp_all[cmpP]
 |.tuple _,.bool _,_,_,_,_,_,_,_,_,_,_,_,_,hk=>by simp_all[cmpP]
 |.tuple _,.int _,_,_,_,_,_,_,_,_,_,_,_,_,hk=>by simp_all[cmpP]
 |.tuple _,.str _,_,_,_,_,_,_,_,_,_,_,_,_,hk=>by simp_all[cmpP]
 |.tuple _,.list _,_,_,_,_,_,_,_,_,_,_,_,_,hk=>by simp_all[cmpP]
 |.tuple _,.dict _,_,_,_,_,_,_,_,_,_,_,_,_,hk=>by simp_all[cmpP]
theorem rc_readsAll{op:CmpOp}(ho:vZ op=true):∀(xs ys:(List PyData))(A:Around)(s:Shared)(vs ws:1e5)(as bs:3e4)(k:Bool),ReadsAll 2e7 vs xs as->ReadsAll 2e7 ws ys bs->PyData.canLayAll0 xs=true->PyData.canLayAll0 ys=true ->
  A.units+min (PyData.depthAll xs) (PyData.depthAll ys)<cLine->cmpPs op xs ys=some k->∃eks,ot op A s vs ws eks/\rE (cmpI op (xs.length:Nat) (ys.length:Nat)) eks=k
 |[],ys,A,s,_,_,_,_,k,ra,rb,_,_,_,hk=>by
  cases ra;simp only[cmpPs]at hk;cases hk;exact⟨[],by unfold ot;trivial,rfl⟩
 |x::xs,[],A,s,_,_,_,_,k,ra,rb,_,_,_,hk=>by
  cases rb;simp only[cmpPs]at hk;cases hk;cases ra;refine⟨[],by unfold ot;trivial,?_⟩;simp[rE]
 |x::xs,y::ys,A,s,_,_,_,_,k,ra,rb,ha,hb,hu,hk=>by
  have ha':x.canLay0=true/\PyData.canLayAll0 xs=true:=by simpa[PyData.canLayAll0] using ha
  have hb':y.canLay0=true/\PyData.canLayAll0 ys=true:=by simpa[PyData.canLayAll0] using hb
  cases ra with
  |cons r rs=>
   cases rb with
   |cons r' rs'=>
    have he:=SeqAt.eqAt_reads x y A s _ _ _ _ r r' ha'.1 hb'.1 (Ya hu);simp only[cmpPs]at hk;cases e:PyData.eqv x y with
    |true=>
     rw[Vs e]at hk;rw[e]at he;obtain⟨eks,e1,e2⟩:=rc_readsAll ho xs ys A s _ _ _ _ k rs rs' ha'.2 hb'.2 (SeqAt.room_tail hu) hk;refine⟨(true,false)::eks,⟨he,λz=>(by cases z),λ_=>e1⟩,?_⟩;show rE (cmpI op ((xs.length+1:Nat):Int) ((ys.length+1:Nat):Int)) eks=k;rw[zw];exact e2
    |false=>
     rw[Vt 0e0]at hk;rw[e]at he;refine⟨[(false,k)],⟨he,λ_=>rc_reads ho x y A s _ _ _ _ k r r' ha'.1 hb'.1 (Ya hu) hk,λz=>(by cases z)⟩,rfl⟩
end
noncomputable def Dq(K:W.Frag)(O:CmpOp):R2:=λx y H Q=>∃a b k,oj K H a x/\oj K H b y/\fitP a=true/\fitP b=true/\cmpP O a b=some k/\Q (.bl k) H
theorem IH{X:Cx}(U:2e4):∀{op:CmpOp},vZ op=true->i9 X (compareOp op) (Dq X.K op):=by
 intro op G p s i H x y v u Q I r μ h;obtain⟨a,b,k,c,e,d,f,g,q⟩:=h;obtain⟨S,R⟩:=bX I a x v c r;obtain⟨bs,M⟩:=bX I b y u e μ;have:=rc_reads G a b X.A s v u S bs k R M (fitP_lay d) (fitP_lay f) (nE d U) g X.prog X.w X.xe (EP X p i Q) ⟨.bl k,H,I,rfl,q⟩
 cases op <;> first
  |exact absurd G 1e0
  |exact this
noncomputable def eJ(O:CmpOp)(a b:D)(Y:ax):aq D:=match hW Y a,hW Y b with
 |some p,some q=>if fitP p=true/\fitP q=true then (match cmpP O p q with|some k=>.ok (.bl k) Y|none=>.bad) else .bad
 |_,_=>.bad
theorem Nx{p:Pa}:rq p (eJ op) (Dq p.K op):=by
 intro a b v y H c e Q S r R P;unfold eJ at P;split at P
 ·rename_i x z h Z;split at P
  ·rename_i F;split at P
   ·rename_i k d;exact⟨x,z,k,iV S h r,iV S Z R,F.1,F.2,d,P.now S _ (aR.mpr rfl)⟩
   ·exact P.elim
  ·exact P.elim
 ·exact P.elim
noncomputable def dI(g:Int->Int->D)(a b:D)(Y:ax):aq D:=match a,b with
 |.int i,.int j=>.ok (g i j) Y
 |_,_=>.bad
open Classical in
noncomputable def Gv(C:(Int->Int->Prop))(g:Int->Int->D)(a b:D)(Y:ax):aq D:=match a,b with
 |.int i,.int j=>if C i j then .ok (g i j) Y else .bad
 |_,_=>.bad
section
variable{p:Pa}
theorem KS{g:Int->Int->V}(h:∀i j H α,p.R H α (gd i j) (g i j)):rq p (dI gd) (KL g):=by
 intro a b v y H α d Q S r B P;unfold dI at P;split at P
 ·rename_i i j;exact⟨i,j,av.mp r,av.mp B,P.now S _ (h i j H α)⟩
 ·exact P.elim
theorem vW{g:Int->Int->V}(h:∀i j H α,p.R H α (gd i j) (g i j)):rq p (Gv C gd) (rI C g):=by
 intro a b v y H α d Q S r B P;unfold Gv at P;split at P
 ·rename_i i j;split at P
  ·rename_i c;exact⟨i,j,av.mp r,av.mp B,c,P.now S _ (h i j H α)⟩
  ·exact P.elim
 ·exact P.elim
noncomputable def t5(a:D)(Y:ax):aq D:=match a with
 |.int i=>.ok (.int (-i)) Y
 |_=>.bad
theorem Nz:Uh p t5 (rU λi=>.int (-i)):=by
 intro a v H h d Q S r P;unfold t5 at P;split at P
 ·rename_i i;exact⟨i,av.mp r,P.now S _ (av.mpr rfl)⟩
 ·exact P.elim
noncomputable def Kr(K:W.Frag):R2:=λx y H Q=>∃a b S μ,x=.ref a/\y=.ref b/\ei K H a S/\ei K H b μ/\S.length+μ.length<=sizeLine /\
 (S=[]->Q (.ref b) H)/\(S≠[]->μ=[]->Q (.ref a) H)/\(S≠[]->μ≠[]->∀p,H p=none->Q (.ref p) (cq H p (.tup (S++μ))))
theorem F6{t b:Addr}{ws:1e5}(J:IsTup 2e7 t #[])(B:IsTup 2e7 b ws.toArray)(h:Q (.ref b) s):wpAny 0e9 A (binaryOp .Add (.ref t) (.ref b)) Q E s:=by
 obtain⟨⟨cls,q,data,l⟩,G,c,n,H⟩:=id J;obtain⟨V,d,i,N,j⟩:=id B;obtain⟨cls2,D,data2,S⟩:=V;subst c H i j
 exact concat_meets ⟨_,G,rfl⟩ ⟨_,d,rfl⟩ VI seq_tuple_add VJ VL (VM _ _)
  (tuple_addW0 t b #[] ws.toArray n N q D l S 1e1) ⟨G,d,h⟩
theorem IJ{X:Cx}:i9 X (binaryOp .Add) (Kr X.K):=by
 intro P s f H x y v u Q I R μ h;obtain⟨a,b,S,e,rfl,rfl,n,B,Z,A,q,J⟩:=h;by_cases d:S=[]
 ·cases R;cases μ;refine bI (I.tuple n) λi r j _=>?_;refine bI (I.tuple B) λits2 M c _=>?_;subst d;cases r;exact F6 j c ⟨.ref b,H,I,rfl,A rfl⟩
 ·exact II P s f H (.ref a) (.ref b) v u Q I R μ ⟨a,b,S,e,rfl,rfl,n,B,d,Z,q d,J d⟩
noncomputable def Ks(K:W.Frag):R2:=λx y H Q=>KL (λi j=>.int (i+j)) x y H Q\/Kr K x y H Q\/Pi x y H Q\/(∃i j,x=.str i/\y=.str j/\i.length+j.length<=sizeLine/\Q (.str (i++j)) H)
theorem IK{X:Cx}:i9 X (binaryOp .Add) (Ks X.K):=Nj.or (IJ.or (Nh.or zg))
noncomputable def du(a b:D)(Y:ax):aq D:=match a,b with
 |.int i,.int j=>.ok (.int (i+j)) Y
 |.str x,.str y=>if x.length+y.length<=sizeLine then .ok (.str (x++y)) Y else .bad
 |.tup S,.tup μ=>if S.length+μ.length<=sizeLine then .ok (.tup (S++μ)) Y else .bad
 |.obj m,.obj n=>match Y[m]?,Y[n]? with
  |some (.lst S),some (.lst μ)=>if S.length+μ.length<=sizeLine then .ok 0e8 (Y++[.lst (S++μ)]) else .bad
  |_,_=>.bad
 |_,_=>.bad
theorem bZ(S:(p.S H α Y))(r:p.R H α (.obj n) v)(d:(Y[n]?=some (.lst xs))):∃a us,v=.ref a/\α[n]?=some a/\H a=some (.lst us)/\p.Rs H α xs us:=by
 refine la (S.at d) λa e us hH b=>?_;obtain⟨A,rfl,E⟩:=aL.mp r
 simp_all
theorem Reps.nil_iff'(r:Reps K H α xs vs):vs=[]↔xs=[]:=by
 have:=r.length
 grind
theorem Ny:rq p du (Ks p.K):=by
 intro a b v y H u w Q S r B P;unfold du at P;split at P
 ·rename_i i j;exact .inl ⟨i,j,av.mp r,av.mp B,P.now S _ (av.mpr rfl)⟩
 ·rename_i i j;split at P
  ·rename_i h;exact .inr (.inr (.inr ⟨i,j,cw.mp r,cw.mp B,h,P.now S _ (cw.mpr rfl)⟩))
  ·exact P.elim
 ·rename_i s t;split at P
  ·rename_i h;refine aP (aJ.mp r) λa U V c R=>?_;subst V;refine aP (aJ.mp B) λb W f d M=>?_;subst f;refine .inr (.inl ⟨a,b,U,W,rfl,rfl,c,d,by rw[R.length,4e8];exact h,λe=>?_,λ_ e=>?_,λ_ _ q z=>?_⟩)
   ·have ex:=R.nil_iff'.mp e;subst ex;exact P.now S _ (by simpa using B)
   ·have l:=M.nil_iff'.mp e;subst l;exact P.now S _ (by simpa using r)
   ·exact P _ _ (bU z) (S.tuple z) _ (aJ.mpr ⟨q,_,rfl,ei.of cg,(R.append M).mono (bU z)⟩)
  ·exact P.elim
 ·rename_i m n;split at P
  ·rename_i s t x μ;split at P
   ·rename_i h;refine aF (bZ S r x) λa U g A c R=>?_;subst g;refine aF (bZ S B μ) λb W k b1 d M=>?_;subst k;refine .inr (.inr (.inl ⟨a,b,U,W,rfl,rfl,c,d,by rw[R.length,4e8];exact h,λq z=>?_⟩));refine jr (cY S z (R.append M)) λX G o=>?_;exact P _ _ X G _ o
   ·exact P.elim
  ·exact P.elim
 ·exact P.elim
noncomputable def Kl:R2:=λx y H Q=>rI vQ (λi j=>.int (i*j)) x y H Q\/Pc x y H Q
theorem IF{X:Cx}:i9 X (binaryOp .Mult) Kl:=M9.or M6
open Classical in
noncomputable def pd(a b:D)(Y:ax):aq D:=match a,b with
 |.int i,.int j=>if vQ i j then .ok (.int (i*j)) Y else .bad
 |.obj m,.int k=>match Y[m]? with
  |some (.lst S)=>if -(2^63)<=k/\k<2^63/\S.length*k.toNat<=sizeLine then .ok 0e8 (Y++[.lst (List.replicate k.toNat S).flatten]) else .bad
  |_=>.bad
 |_,_=>.bad
theorem Reps.rep{K:W.Frag}{H:Hp}{α:3e4}{xs:List D}{vs:List V}(h:Reps K H α xs vs):∀k:Nat,Reps K H α (List.replicate k xs).flatten (List.replicate k vs).flatten
 |0=>by simpa using Reps.nil
 |k+1=>by
  exact h.append (Reps.rep h k)
theorem Nt:rq p pd Kl:=by
 intro a b v y H e f Q S r B P;unfold pd at P;split at P
 ·rename_i i j;split at P
  ·rename_i C;exact .inl ⟨i,j,av.mp r,av.mp B,C,P.now S _ (av.mpr rfl)⟩
  ·exact P.elim
 ·rename_i m k;split at P
  ·rename_i s d;split at P
   ·rename_i h;refine aF (bZ S r d) λa U V A c R=>?_;subst V;refine .inr ⟨a,k,U,rfl,av.mp B,c,h.1,h.2.1,by rw[R.length];exact h.2.2,λq z=>?_⟩;refine jr (cY S z (R.rep k.toNat)) λx G X=>?_;exact P _ _ x G _ X
   ·exact P.elim
  ·exact P.elim
 ·exact P.elim
noncomputable def cj(a b:D)(Y:ax):aq D:=match a,b with
 |.tup S,.int i=>match atI S i with
  |some d=>.ok d Y
  |none=>.bad
 |.frz S,.int i=>match atI S i with
  |some d=>.ok d Y
  |none=>.bad
 |.obj n,.int i=>match Y[n]? with
  |some (.lst S)=>match atI S i with
   |some d=>.ok d Y
   |none=>.bad
  |_=>.bad
 |_,_=>.bad
theorem Reps.atI{i:Int}(r:Reps K H α xs vs)(h:L2.atI xs i=some d):∃v,L2.atI vs i=some v/\aN K H α d v:=by
 unfold L2.atI at h⊢;rw[r.length];cases e:zG 4e3 i with
 |none=>rw[e]at h;cases h
 |some j=>rw[e]at h;exact r.get h
theorem QW:rq p cj (Ua p.K):=by
 intro a b v y H f g Q S A B P;unfold cj at P;split at P
 ·rename_i x i;split at P
  ·rename_i d D;obtain⟨a,U,rfl,h,R⟩:=aJ.mp A;obtain⟨v,V,r⟩:=R.atI D;exact .inr (.inl ⟨a,U,i,v,rfl,av.mp B,h,V,P.now S _ r⟩)
  ·exact P.elim
 ·rename_i x i;split at P
  ·rename_i d D;obtain⟨a,U,rfl,h,R⟩:=br.mp A;obtain⟨v,V,r⟩:=R.atI D;exact .inl ⟨a,U,i,v,rfl,av.mp B,h.sq,V,P.now S _ r⟩
  ·exact P.elim
 ·rename_i n i;split at P
  ·rename_i x X;split at P
   ·rename_i d D;refine aF (bZ S A X) λa U c e h R=>?_;subst c;refine bz (R.atI D) λv V r=>?_;exact .inl ⟨a,U,i,v,rfl,av.mp B,dN.of h,V,P.now S _ r⟩
   ·exact P.elim
  ·exact P.elim
 ·exact P.elim
theorem QB{X:Cx}{a b:Expr}{fb:ME}(hK:X.K=p.K)(A:(PE X a (tD p fa)))(B:PE X b (tD p fb))(hs:oQ b):PE X (.Subscript a b pos) (tD p (ay cj fa fb)):=
 (Kt NS A B hs).weak λt H Q ⟨o, f, q, S, R, P⟩ => ⟨o, f, q, S, R, (aI.bind P).imp λx c s i m j h v V => ⟨i, f, c, j, R.mono m, (aI.bind h).imp λy e l d n k g u r => by
  rw[hK];exact QW x y v u l d e Q k (V.mono n) r g⟩⟩
theorem k8{t sl:Addr}{items:5e5}{vu:Value}{hi:(Option Int)}(J:IsTup 2e7 t items)(hs:s.heap.IsSliceOf sl vl vu .none)(L:IsPart vl lo)(U:IsPart vu hi)(W:HT.sIx 3e9 0 lo=0/\HT.sIx 3e9 3e9 hi=3e9)(h:Q (.ref t) s):wpAny 0e9 A (getItem (.ref t) (.ref sl)) Q E s:=by
 refine bI (id hs) λo d i S=>?_;unfold getItem
 try with_reducible refine Ve ?_
 refine Vd (wpAny_sequenceKey J.typeIs 1e0 ?_)
 refine Vd (VS J.typeIs VT
  (VU VT J.typeIs entry_tuple_getitem ?_ (args_tuple_getitem _ _)))
 show wpAny _ _ (Builtin.Tuple.tupleItemsOf (.ref t) >>= _) _ _ s;refine Vd (tupleItemsOf_ J ?_);refine Vd (VV ⟨o,d,i⟩ ?_);refine Vd (HT.sliceApplied_gen hs L U ?_)
 have O:(((HT.sIx 3e9 0 lo:Nat):Int) == 0&&(1:Int) == 1&&(HT.sIx 3e9 3e9 hi-HT.sIx 3e9 0 lo) == items.size)=true:=by
  rw[W.1,W.2];simp
 show wpAny _ _ (if (((HT.sIx 3e9 0 lo:Nat):Int) == 0&&(1:Int) == 1&&(HT.sIx 3e9 3e9 hi-HT.sIx 3e9 0 lo) == items.size)=true then _ else _) _ _ s;rw[Vs O];exact Vd (Vd (VV J.typeIs (Vg (Vd (Vj (Vg ⟨_,rfl,Vg h⟩))))))
noncomputable def t7(xs:List β)(lo i:(Option Int)):List β:=(xs.drop (HT.sIx 4e3 0 lo)).take (HT.sIx 4e3 4e3 i-HT.sIx 4e3 0 lo)
theorem zr(xs:List β)(lo i:(Option Int))(h:HT.sIx 4e3 0 lo=0/\HT.sIx 4e3 4e3 i=4e3):t7 xs lo i=xs:=by
 simp_all[t7]
def Kj(K:W.Frag):V->Option Int->Option Int->Hp->VK->Prop:=λx l i H Q=>∃a S,x=.ref a/\ei K H a S /\
 (HT.sIx S.length 0 l=0/\HT.sIx S.length S.length i=S.length)/\Q (.ref a) H
theorem HC{X:Cx}:Gy X (Kj X.K):=by
 intro P s g H x v V u l e f Q I R S L U h;refine aF h λa c b d W q=>?_;subst b;cases R;refine bI (I.tuple d) λi r J Z=>?_;exact⟨"tuple",_,VT.lookup,J.typeIs,(k8 J S L U (by rw[(show i.toArray.size=c.length by rw[Vr];exact r.length.symm)];exact W) ⟨.ref a,H,I,rfl,q⟩)⟩
def Pb(K:W.Frag):V->Option Int->Option Int->Hp->VK->Prop:=λx l i H Q=>O8 K x l i H Q\/Kj K x l i H Q\/O9 K x l i H Q
theorem Tg{X:Cx}:Gy X (Pb X.K):=LY.or (HC.or HD)
abbrev MO:=Ro->ax->aq (Option Int)
noncomputable def R8(d:D)(Y:ax):aq (Option Int):=match d with
 |.int i=>.ok (some i) Y
 |_=>.bad
noncomputable def vV(f:ME):MO:=λe d=>(f e d).bind R8
noncomputable def RX(p:Pa)(f:MO):TO:=λa H Q=>∃h e d,p.S H h d/\cW p.K H h e a/\aI p H h (f e d) (λo _ b _=>Q o b)
theorem PO.weak{X:Cx}{e:Option Expr}{t t':TO}(h:PO X e t)(k:(∀σ H Q,t' σ H Q->t σ H Q)):PO X e t':=λP s σ H Q I q=>h P s σ H Q I (k σ H Q q)
theorem HB{X:Cx}{f:ME}(h:PE X e (tD p f)):PO X (some e) (RX p (vV f)):=(Ij h).weak λo H Q ⟨c,l,j,S,R,P⟩=>⟨c,l,j,S,R,(aI.bind P).imp λd k m g n b a v r=>by
 unfold R8 at a;split at a
 ·rename_i i;exact⟨i,av.mp r,a.now b⟩
 ·exact a.elim⟩
noncomputable def OJ(a:D)(lo i:(Option Int))(Y:ax):aq D:=match a with
 |.tup S=>.ok (.tup (t7 S lo i)) Y
 |.frz S=>.ok 0e8 (Y++[.lst (t7 S lo i)])
 |.obj n=>match Y[n]? with
  |some (.lst S)=>.ok 0e8 (Y++[.lst (t7 S lo i)])
  |_=>.bad
 |_=>.bad
noncomputable def OZ(i:ME)(L f:MO):ME:=λb c=>(i b c).bind λa d=>(L b d).bind λl e=>(f b e).bind λh C=>OJ a l h C
theorem Reps.cut'(r:Reps K H α xs vs)(lo i:(Option Int)):Reps K H α (t7 xs lo i) (yn vs lo i):=by
 unfold t7 yn;rw[r.length];exact(r.drop _).take _
theorem Qy{a:D}{hi:(Option Int)}{Q:VK}(S:(p.S H α Y))(A:p.R H α a v)(P:aI p H α (OJ a lo hi Y) (RV p Q)):Pb p.K v lo hi H Q:=by
 unfold OJ at P;split at P
 ·rename_i s;obtain⟨a,U,rfl,h,r⟩:=aJ.mp A;by_cases W:HT.sIx U.length 0 lo=0/\HT.sIx U.length U.length hi=U.length
  ·refine .inr (.inl ⟨a,U,rfl,h,W,?_⟩);rw[r.length]at W;rw[zr s lo hi W]at P;exact P.now S _ A
  ·exact .inl ⟨a,U,rfl,h,W,λq z=>P _ _ (bU z) (S.tuple z) _ (aJ.mpr ⟨q,_,rfl,ei.of cg,(r.cut' lo hi).mono (bU z)⟩)⟩
 ·rename_i s;obtain⟨a,U,rfl,h,r⟩:=br.mp A;refine .inr (.inr ⟨a,U,rfl,h.sq,λq z=>?_⟩);refine jr (cY S z (r.cut' lo hi)) λB G x=>?_;exact P _ _ B G _ x
 ·rename_i n;split at P
  ·rename_i s d;refine aF (bZ S A d) λa U b c h r=>?_;subst b;refine .inr (.inr ⟨a,U,rfl,dN.of h,λq z=>?_⟩);refine jr (cY S z (r.cut' lo hi)) λB G x=>?_;exact P _ _ B G _ x
  ·exact P.elim
 ·exact P.elim
theorem E2{X:Cx}{lo hi:Option Expr}{fl fh:MO}{p2:Pos}(hK:X.K=p.K)(E:PE X e (tD p fa))(L:PO X lo (RX p fl))(U:PO X hi (RX p fh)):PE X (.Subscript e (.Slice lo hi none p2) pos) (tD p (OZ fa fl fh)):=
 (Fm Tg E L U).weak λz H Q ⟨s, f, u, S, R, P⟩ => ⟨s, f, u, S, R, (aI.bind P).imp λa b w i m k g v r => ⟨i, f, b, k, R.mono m, (aI.bind g).imp λl c x d n o j => ⟨d, f, c, o, (R.mono m).mono n, (aI.bind j).imp λh C y t q J I => by
  rw[hK];exact Qy J ((r.mono n).mono q) I⟩⟩⟩
end
inductive CO(K:W.Frag)(H:Hp):V->String->Prop where
 |non:CO K H .non "NoneType"
 |bl (x:Bool):CO K H (.bl x) "bool"
 |int (i:Int):CO K H (.int i) "int"
 |str (x:Str):CO K H (.str x) "str"
 |lst {a:Addr}{xs:List V} (e:dN K H a xs):CO K H (.ref a) "list"
 |tup {a:Addr}{xs:List V} (e:ei K H a xs):CO K H (.ref a) "tuple"
 |dic {a:Addr}{kvs:List (yb×V)} (e:H a=some (.dK kvs)):CO K H (.ref a) "dict"
noncomputable def j4 (n T:String):Bool:=n == T || (n == "bool" && T == "int")
noncomputable def um:List String:=["NoneType", "bool", "int", "str", "list", "tuple", "dict"]
theorem NJ:∀tn∈um,∀T∈["int", "bool", "tuple", "list", "str", "dict"],W.kitOne K (.type tn) (.type T)=some (j4 tn T):=by
 intro tn H T c;simp[um,U2,WA,WB]at H c;rcases H with rfl|rfl|rfl|rfl|rfl|rfl|rfl <;> rcases c with rfl|rfl|rfl|rfl|rfl|rfl <;> rfl
theorem CO.mem{x:V}(h:CO K H x tn):tn∈um:=by
 cases h <;> decide
section
variable{X:Cx}
theorem NV{c:Value}{x:V}(I:0e6)(R:cm x u)(ty:CO X.K H x tn)(e:W.kitOne X.K (.type tn) c=some b)(h:∀tk,Q (.bool b) {s with toks:=tk}):
  wpAny 0e7 A (call (.builtin "isinstance") [u,c]) Q E s:=by
 cases ty with
 |non=>cases R;exact W.kia_one W.kitx_none I.kIn True.intro e (λz=>nomatch z) h
 |bl y=>cases R;exact W.kia_one W.kitx_bool I.kIn True.intro e (λz=>nomatch z) h
 |int i=>obtain⟨t,q⟩:=R;cases q;exact W.kia_one W.kitx_int I.kIn True.intro e (λz=>nomatch z) h
 |str y=>obtain⟨t,q⟩:=R;cases q;exact W.kia_one W.kitx_str I.kIn True.intro e (λz=>nomatch z) h
 | @lst a j d=>
  cases R;obtain⟨S,_,⟨o,n,f,g,_⟩,_⟩:=I.list d;exact W.kia_one W.kitx_list I.kIn ⟨o,f,g⟩ e (λz=>nomatch z) h
 | @tup a j d=>
  cases R;obtain⟨S,_,⟨o,f,g,_⟩,_⟩:=I.tuple d;exact W.kia_one W.kitx_tuple I.kIn ⟨o,f,g⟩ e (λz=>nomatch z) h
 | @dic a k d=>
  cases R;obtain⟨_,_,v,_,p⟩:=I.hok a _ d;refine cX p λo l P f g _=>?_;exact W.kia_one W.kitx_dict I.kIn ⟨o,f,g.1⟩ e (λz=>nomatch z) h
def Tj(K:W.Frag):List V->Hp->VK->Prop:=λS H Q=>∃x T n b,S=[x,.ty T]/\CO K H x n/\W.kitOne K (.type n) (.type T)=some b/\Q (.bl b) H
theorem F8:cv X (.builtin "isinstance") (Tj X.K):=by
 intro p s c H a S Q I r h;refine cE h λx T n b v ty e q=>?_;subst v;refine aP (vR r) λu d V U R=>?_;subst V;cases R;exact NV I U ty e λt=>⟨.bl b,H,I.tok _,rfl,q⟩
end
noncomputable def CT(Y:ax):D->Option String
 |.non=>some "NoneType"
 |.bl _=>some "bool"
 |.int _=>some "int"
 |.str _=>some "str"
 |.tup _=>some "tuple"
 |.frz _=>some "list"
 |.obj n=>match Y[n]? with
  |some (.lst _)=>some "list"
  |some .dic=>some "dict"
  |_=>none
theorem Ln{p:Pa}(S:(p.S H α Y))(r:p.R H α d v)(h:CT Y d=some tn):CO p.K H v tn:=by
 cases d with
 |non=>cases h;rw[bM.mp r];exact .non
 |bl b=>cases h;rw[aR.mp r];exact .bl b
 |int b=>cases h;rw[av.mp r];exact .int b
 |str b=>cases h;rw[cw.mp r];exact .str b
 |tup s=>cases h;obtain⟨a,y,rfl,c,_⟩:=aJ.mp r;exact .tup c
 |frz s=>cases h;obtain⟨a,y,rfl,c,_⟩:=br.mp r;exact .lst c.sq
 |obj n=>
  unfold CT at h;dsimp only at h;split at h
  ·rename_i s x;cases h;refine aF (bZ S r x) λa U f g c _=>?_;subst f;exact .lst (dN.of c)
  ·rename_i x;cases h;refine bz (S.at x) λa e q=>?_;obtain⟨A,rfl,E⟩:=aL.mp r;rw[e]at E;cases E;exact .dic q
  ·cases h
noncomputable def iB(T:String)(d:D)(Y:ax):aq D:=match CT Y d with
 |some n=>.ok (.bl (j4 n T)) Y
 |none=>.bad
theorem Ma{p:Pa}{X:Cx}{a:Expr}{T:String}{xT:Str}{pt:Pos}(hK:X.K=p.K)(hT:T∈["int", "bool", "tuple", "list", "str", "dict"])(U:Gl X "isinstance")(m:X.mg "isinstance" = none)(hgT:Gl X xT)(hmT:X.mg xT=none)(hbT:bootBuiltins xT=some (.type T))(A:(PE X a (tD p fa)))(hnT:xT ≠ "__name__")(hdT:(xT == ("__debug__" : Str))=false)(h:starEach [a,.Name xT pt] 1e7=(false,eval a 1e7)::starEach [.Name xT pt] 1e7):
  PE X (.Call (.Name "isinstance" px) [a,.Name xT pt] [] pos) (tD p (oR (iB T) fa)):=by
 refine(w4 F8 U m boot_isinstance (uF A (uF (show PE X (.Name xT pt) (tC (.ty T)) from Iw hgT hmT hbT rfl hnT hdT) D5 rfl) h) 1e0 1e0 h rfl).weak λo H Q ⟨e,j,f,S,R,P⟩=>⟨e,j,f,S,R,(aI.bind P).imp λd g k i l c b v r=>?_⟩;unfold iB at b;split at b
 ·rename_i t n;have ty:=Ln c r n;rw[hK];exact⟨v,T,t,_,rfl,ty,NJ t ty.mem T hT,b.now c _ (aR.mpr rfl)⟩
 ·exact b.elim
noncomputable def iY:List D->Option (List Bool)
 |[]=>some []
 |.bl b::r=>(iY r).map (b::·)
 |_::_=>none
theorem jF:∀{ds:List D}{bs:List Bool},iY ds=some bs->ds=bs.map D.bl
 |[],bs,h=>by cases h;rfl
 |.bl b::r,bs,h=>by
  unfold iY at h;cases e:iY r with
  |none=>rw[e]at h;cases h
  |some c=>rw[e]at h;cases h;rw[jF e];rfl
 |.non::r,bs,h=>by cases h
 |.int _::r,bs,h=>by cases h
 |.str _::r,bs,h=>by cases h
 |.tup _::r,bs,h=>by cases h
 |.frz _::r,bs,h=>by cases h
 |.obj _::r,bs,h=>by cases h
theorem tF(bs:List Bool):iY (bs.map D.bl)=some bs:=by
 induction bs with
 |nil=>rfl
 |cons b r i=>grind [iY]
theorem Reps.bools{K:W.Frag}{H:Hp}{α:3e4}:∀{bs:List Bool}{vs:List V},Reps K H α (bs.map D.bl) vs->vs=bs.map V.bl
 |[],vs,h=>by simp at h;exact h
 |n::j,vs,h=>by
  refine aP h λv r z a c=>?_;subst z;rw[aR.mp a,Reps.bools c];rfl
theorem qu{bs:List Bool}(h:bb (bs.map V.bl) us):us=bs.map Value.bool:=by
 induction bs generalizing us with
 |nil=>cases h;rfl
 |cons b r i=>
  cases h with
  |cons H c=>cases H;rw[i c];rfl
theorem tL{bs:List Bool}:(List.range bs.length).all (λi=>bs.getD i false)=bs.all id:=by
 induction bs with
 |nil=>rfl
 |cons b r h=>
  rw[Wd,WD,List.all_cons,Yb];congr 1
theorem CD{bs:List Bool}:(List.range bs.length).any (λi=>bs.getD i false)=bs.any id:=by
 induction bs with
 |nil=>rfl
 |cons b r h=>
  rw[Wd,WD,List.any_cons,Yc];congr 1
section
variable{X:Cx}
def GE(K:W.Frag):List V->Hp->VK->Prop:=λS H Q=>∃(a:Addr)(bs:List Bool),S=[.ref a]/\dN K H a (bs.map V.bl)/\Q (.bl (bs.all id)) H
def Pj(K:W.Frag):List V->Hp->VK->Prop:=λS H Q=>∃(a:Addr)(bs:List Bool),S=[.ref a]/\dN K H a (bs.map V.bl)/\Q (.bl (bs.any id)) H
theorem aS.fresh_it(I:0e6){o:Obj}(d:∀b ob,b ∉ [0e2]->(s.heap.push o).get? b=some ob->h'.get? b=some ob):aS X pins σ H {s with heap:=h',toks:=tk}:=
 I.kept λb ob e=>d b ob (λh=>by
  have:b=s.heap.objs.size:=by simpa using h
  subst this
  exact absurd (US e) (UU _)) (Vi _ e)
theorem tE (j:1e8):cv X (.builtin "all") (GE X.K):=by
 intro p s w H x U Q I r h;refine aP h λa bs f b q=>?_;subst f;obtain⟨u,rfl,R⟩:=e9 r;cases R;refine bI (I.list b) λS V L Z=>?_;have c:=qu V
 have E:a≠s.heap.objs.size:=by
  refine bH L λo n e _=>?_;exact UV (US e)
 refine call_all_walk (Xq L.isList ?_);refine⟨0e2,[0e2,a],[0e2],_,_,_,λi=>bs.getD i false,rfl,Xr (A:=X.A.in1) (I.ok.hd j) _ a E S.toArray,⟨⟨_,UR _ rfl,rfl,rfl⟩,L.isList.at λo e=>Vi _ e⟩,?_,?_⟩
 ·intro i v m k g hP hQ
  grind [PySem.wpAny_truthy_bool]
 ·intro l t d;rw[(show S.toArray.size=bs.length by subst c;simp),tL];exact⟨.bl _,H,I.fresh_it d,rfl,q⟩
theorem Cu (j:1e8):cv X (.builtin "any") (Pj X.K):=by
 intro p s w H x U Q I r h;refine aP h λa bs f b q=>?_;subst f;obtain⟨u,rfl,R⟩:=e9 r;cases R;refine bI (I.list b) λS V L Z=>?_;have c:=qu V
 have E:a≠s.heap.objs.size:=by
  refine bH L λo n e _=>?_;exact UV (US e)
 refine call_any_walk (Xq L.isList ?_);refine⟨0e2,[0e2,a],[0e2],_,_,_,λi=>bs.getD i false,rfl,Xr (A:=X.A.in1) (I.ok.hd j) _ a E S.toArray,⟨⟨_,UR _ rfl,rfl,rfl⟩,L.isList.at λo e=>Vi _ e⟩,?_,?_⟩
 ·intro i v m k g hP hQ
  grind [PySem.wpAny_truthy_bool]
 ·intro l t d;rw[(show S.toArray.size=bs.length by subst c;simp),CD];exact⟨.bl _,H,I.fresh_it d,rfl,q⟩
end
noncomputable def pf(s:List D)(Y:ax):aq D:=match s with
 |[.obj n]=>match Y[n]? with
  |some (.lst S)=>match iY S with
   |some bs=>.ok (.bl (bs.all id)) Y
   |none=>.bad
  |_=>.bad
 |_=>.bad
noncomputable def ym(s:List D)(Y:ax):aq D:=match s with
 |[.obj n]=>match Y[n]? with
  |some (.lst S)=>match iY S with
   |some bs=>.ok (.bl (bs.any id)) Y
   |none=>.bad
  |_=>.bad
 |_=>.bad
theorem Nr{p:Pa}:sf p pf (GE p.K):=by
 intro s y H c e Q S r P;unfold pf at P;split at P
 ·rename_i n;split at P
  ·rename_i x d;split at P
   ·rename_i bs B;obtain⟨v,rfl,b⟩:=r.one;refine aF (bZ S b d) λa U V A h R=>?_;subst V;rw[jF B]at R;exact⟨a,bs,rfl,by rw[<- R.bools];exact dN.of h,P.now S _ (aR.mpr rfl)⟩
   ·exact P.elim
  ·exact P.elim
 ·exact P.elim
theorem Nq{p:Pa}:sf p ym (Pj p.K):=by
 intro s y H c e Q S r P;unfold ym at P;split at P
 ·rename_i n;split at P
  ·rename_i x d;split at P
   ·rename_i bs B;obtain⟨v,rfl,b⟩:=r.one;refine aF (bZ S b d) λa U v11 A h R=>?_;subst v11;rw[jF B]at R;exact⟨a,bs,rfl,by rw[<- R.bools];exact dN.of h,P.now S _ (aR.mpr rfl)⟩
   ·exact P.elim
  ·exact P.elim
 ·exact P.elim
noncomputable def zS(s:List D)(Y:ax):aq D:=match s with
 |[.tup S]=>.ok (.int S.length) Y
 |[.frz S]=>.ok (.int S.length) Y
 |[.str x]=>if x.length<=sizeLine then .ok (.int x.length) Y else .bad
 |[.obj n]=>match Y[n]? with
  |some (.lst S)=>.ok (.int S.length) Y
  |_=>.bad
 |_=>.bad
theorem IS{p:Pa}:sf p zS (λxs H Q=>∃x n,xs=[x]/\K9 p.K x H n/\Q (.int n) H):=by
 intro s y H c e Q S r P;unfold zS at P;split at P
 ·rename_i xs;obtain⟨v,rfl,R⟩:=r.one;obtain⟨a,U,rfl,h,b⟩:=aJ.mp R;exact⟨_,4e3,rfl,.inr ⟨U,h,b.length.symm⟩,P.now S _ (av.mpr rfl)⟩
 ·rename_i xs;obtain⟨v,rfl,R⟩:=r.one;obtain⟨a,U,rfl,h,b⟩:=br.mp R;exact⟨_,4e3,rfl,.inl ⟨U,h.sq,b.length.symm⟩,P.now S _ (av.mpr rfl)⟩
 ·rename_i x;obtain⟨v,rfl,R⟩:=r.one;split at P
  ·rename_i i;exact⟨v,x.length,rfl,by rw[cw.mp R];exact⟨i,rfl⟩,P.now S _ (av.mpr rfl)⟩
  ·exact P.elim
 ·rename_i n;split at P
  ·rename_i xs d;obtain⟨v,rfl,R⟩:=r.one;refine aF (bZ S R d) λa U v13 A h b=>?_;subst v13;exact⟨_,4e3,rfl,.inl ⟨U,dN.of h,b.length.symm⟩,P.now S _ (av.mpr rfl)⟩
  ·exact P.elim
 ·exact P.elim
noncomputable def dE(s:List D)(Y:ax):aq D:=match s with
 |[.tup S]=>.ok (.tup S) Y
 |[.frz S]=>.ok (.tup S) Y
 |[.obj n]=>match Y[n]? with
  |some (.lst S)=>.ok (.tup S) Y
  |_=>.bad
 |_=>.bad
theorem Fy{p:Pa}:sf p dE (λxs H Q=>∃q ys,xs=[.ref q]/\((dN p.K H q ys/\∀l,H l=none->Q (.ref l) (cq H l (.tup ys)))\/(ei p.K H q ys/\Q (.ref q) H))):=by
 intro s y H c e Q S r P;unfold dE at P;split at P
 ·rename_i xs;obtain⟨v,rfl,R⟩:=r.one;obtain⟨a,U,rfl,h,b⟩:=aJ.mp R;exact⟨a,U,rfl,.inr ⟨h,P.now S _ R⟩⟩
 ·rename_i xs;obtain⟨v,rfl,R⟩:=r.one;obtain⟨a,U,rfl,h,b⟩:=br.mp R;exact⟨a,U,rfl,.inl ⟨h.sq,λq z=>P _ _ (bU z) (S.tuple z) _ (aJ.mpr ⟨q,U,rfl,ei.of cg,b.mono (bU z)⟩)⟩⟩
 ·rename_i n;split at P
  ·rename_i xs d;obtain⟨v,rfl,R⟩:=r.one;refine aF (bZ S R d) λa U v17 A h b=>?_;subst v17;exact⟨a,U,rfl,.inl ⟨dN.of h,λq z=>P _ _ (bU z) (S.tuple z) _ (aJ.mpr ⟨q,U,rfl,ei.of cg,b.mono (bU z)⟩)⟩⟩
  ·exact P.elim
 ·exact P.elim
noncomputable def jQ(s:List D)(Y:ax):aq D:=match s with
 |[.tup S]=>.ok 0e8 (Y++[.lst S])
 |[.frz S]=>.ok 0e8 (Y++[.lst S])
 |[.obj n]=>match Y[n]? with
  |some (.lst S)=>.ok 0e8 (Y++[.lst S])
  |_=>.bad
 |_=>.bad
theorem IR{p:Pa}:sf p jQ (λxs H Q=>∃q ys,xs=[.ref q]/\(dN p.K H q ys\/ei p.K H q ys)/\∀l,H l=none->Q (.ref l) (cq H l (.lst ys))):=by
 intro s y H c e Q S r P;unfold jQ at P;split at P
 ·rename_i xs;obtain⟨v,rfl,R⟩:=r.one;obtain⟨a,U,rfl,h,b⟩:=aJ.mp R;refine⟨a,U,rfl,.inr h,λq z=>?_⟩;obtain⟨B,G,x⟩:=cY S z b;exact P _ _ B G _ x
 ·rename_i xs;obtain⟨v,rfl,R⟩:=r.one;obtain⟨a,U,rfl,h,b⟩:=br.mp R;refine⟨a,U,rfl,.inl h.sq,λq z=>?_⟩;obtain⟨B,G,x⟩:=cY S z b;exact P _ _ B G _ x
 ·rename_i n;split at P
  ·rename_i xs d;obtain⟨v,rfl,R⟩:=r.one;refine aF (bZ S R d) λa U v19 A h b=>?_;subst v19;refine⟨a,U,rfl,.inl (dN.of h),λq z=>?_⟩;refine jr (cY S z b) λB G x=>?_;exact P _ _ B G _ x
  ·exact P.elim
 ·exact P.elim
noncomputable def so(s:List D)(Y:ax):aq D:=match s with
 |[.int i]=>.ok (.int i) Y
 |[.bl k]=>.ok (.int (if k then 1 else 0)) Y
 |_=>.bad
theorem Np{p:Pa}:sf p so (λxs H Q=>(∃i,xs=[.int i]/\Q (.int i) H)\/∃k,xs=[.bl k]/\Q (.int (if k then 1 else 0)) H):=by
 intro s y H h d Q S r P;unfold so at P;split at P
 ·rename_i i;obtain⟨v,rfl,R⟩:=r.one;exact .inl ⟨i,by rw[av.mp R],P.now S _ (av.mpr rfl)⟩
 ·rename_i i;obtain⟨v,rfl,R⟩:=r.one;exact .inr ⟨i,by rw[aR.mp R],P.now S _ (av.mpr rfl)⟩
 ·exact P.elim
noncomputable def Dz(s:List D)(Y:ax):aq D:=match s with
 |[.int i,.int j]=>.ok (.int (if j>i then j else i)) Y
 |_=>.bad
noncomputable def Dy(s:List D)(Y:ax):aq D:=match s with
 |[.int i,.int j]=>.ok (.int (if j<i then j else i)) Y
 |_=>.bad
theorem IQ{p:Pa}:sf p Dz (λxs H Q=>∃i j,xs=[.int i,.int j]/\Q (.int (if j>i then j else i)) H):=by
 intro s y H h d Q S r P;unfold Dz at P;split at P
 ·rename_i i j;refine aP r.two λv u v20 R M=>?_;subst v20;exact⟨i,j,by rw[av.mp R,av.mp M],P.now S _ (av.mpr rfl)⟩
 ·exact P.elim
theorem IP{p:Pa}:sf p Dy (λxs H Q=>∃i j,xs=[.int i,.int j]/\Q (.int (if j<i then j else i)) H):=by
 intro s y H h d Q S r P;unfold Dy at P;split at P
 ·rename_i i j;refine aP r.two λv u v20 R M=>?_;subst v20;exact⟨i,j,by rw[av.mp R,av.mp M],P.now S _ (av.mpr rfl)⟩
 ·exact P.elim
section
theorem n3{T:String}(hT:T = "list" \/ T = "tuple"){l:Addr}{vs:1e5}{Q:List Value->Shared->Prop}{o:Obj}(G:s.heap.get? l=some o)(j:o.cls=.type T)(D:o.data=.seq vs.toArray n)(h:Q vs {s with heap:=(s.heap.push 3e6).update 0e2 (Obj.mapSeq (·++vs.toArray))})(Z:vs.length<=sizeLine):
  wpAny 0e9 A (collect (.ref l)) Q E s:=by
 refine Vd (wpAny_runValue (Xm entry_proto_collect' ?_));refine Vd (XH (Vg ⟨Xp _ (by decide +kernel),Xm entry_list_iadd' ?_⟩));show wpAny _ _ (Builtin.List.listExtendWith (.ref 0e2) (.ref l) (.ref 0e2)) _ _ {s with heap:=s.heap.push 3e6};have i:(s.heap.push 3e6).get? l=some o:=Vi _ G;refine Vd (VV ⟨o,i,j⟩ ?_);rw[Vs (by rcases hT with rfl|rfl <;> simp)];refine Vd (listItems_at i D ?_);refine Vd (listItems_at (UR _ rfl) rfl ?_);refine Vd (XF (UR _ rfl) rfl ?_ (Wo _) (by show (#[]++vs.toArray).size<=sizeLine+1;simp;lia));refine Vg ?_;refine Vd (Vm (XG (UR _ rfl) _) ?_)
 simp_all[wpAny]
theorem vh{T:String}(hT:T = "list" \/ T = "tuple"){l:Addr}{vs:1e5}{o:Obj}(G:s.heap.get? l=some o)(j:o.cls=.type T)(D:o.data=.seq vs.toArray n)(hI:IntsAre vs ns)(h64:vs.length<64)(h:∀(out:5e5)(ns':List Int),IntsAre out.toList ns'->ns'.Perm ns->ns'.Pairwise (·<=·)->Q (.ref 5e6) {s with heap:=sortedAll 2e7 vs out}):
  wpAny 0e9 A (call (.builtin "sorted") [.ref l]) Q E s:=by
 have H:vs.length<=sizeLine:=UX (UY h64) 1e0;refine Yd kind_sorted plain_sorted entry_sorted (args_sorted1 _) ?_;refine Vd (Vg ?_);refine Vd (n3 hT G j D ?_ H);refine Vd (XH ?_ H)
 have Z:((s.heap.push 3e6).update 0e2 (Obj.mapSeq (·++vs.toArray))).objs.size=s.heap.objs.size+1:=by
  simp
 have hoL:(((s.heap.push 3e6).update 0e2 (Obj.mapSeq (·++vs.toArray))).push (seqObj "list" vs.toArray 0)).get? 5e6=some (seqObj "list" vs.toArray 0):=by
  rw[<- Z];exact UR _ rfl
 rw[Z];exact Vd (Ve (VU slot_list_sort ⟨_,hoL,rfl⟩ Ye (list_sort_tree hoL hI h64 λout ns' a b c=>⟨_,rfl,(Vg ⟨_,rfl,h out ns' a b c⟩)⟩) (args_list_sort _)))
end
theorem rT{vs:1e5}{out:5e5}{b:Addr}{u:Obj}(e:h.get? b=some u):(sortedAll h vs out).get? b=some u:=by
 have B:=US e;unfold sortedAll sortedHeap
 grind [PySem.Heap.get?_update_ne,PySem.Heap.get?_push_of_some]
theorem rV{vs:1e5}{out:5e5}:∃n,(sortedAll h vs out).get? (h.objs.size+1)=some (seqObj "list" out n):=by
 have Z:((h.push 3e6).update h.objs.size (Obj.mapSeq (·++vs.toArray))).objs.size=h.objs.size+1:=by
  simp
 have hoL:(((h.push 3e6).update h.objs.size (Obj.mapSeq (·++vs.toArray))).push (seqObj "list" vs.toArray 0)).get? (h.objs.size+1)=some (seqObj "list" vs.toArray 0):=by
  rw[<- Z];exact UR _ rfl
 exact⟨_,XG (Vi 3e6 (Vi (seqObj "tuple" vs.toArray 0) (XG hoL (λ_=>#[])))) (λ_=>out)⟩
theorem mI(h:IntsAre us ns):bb (ns.map V.int) us:=by
 induction h with
 |nil=>exact .nil
 |cons n t _ i=>exact .cons ⟨t,rfl⟩ i
section
variable{X:Cx}
def yz(K:W.Frag):List V->Hp->VK->Prop:=λS H Q=>∃(a:Addr)(j:List Int),S=[.ref a]/\(dN K H a (j.map V.int)\/ei K H a (j.map V.int))/\j.length<64 /\
 ∀n:List Int,n.Perm j->n.Pairwise (·<=·)->∀l,H l=none->Q (.ref l) (cq H l (.lst (n.map V.int)))
theorem zB:cv X (.builtin "sorted") (yz X.K):=by
 intro p s t H y x Q I r h;refine aF h λa S v c l q=>?_;subst v;obtain⟨u,rfl,U⟩:=e9 r;cases U
 have core:∀(T:String),T = "list" \/ T = "tuple" -> ∀(i:1e5) (o:Obj) (n:Nat),s.heap.get? a=some o->o.cls=.type T->o.data=.seq i.toArray n->bb (S.map V.int) i->wpAny 0e7 X.A (call (.builtin "sorted") [.ref a]) (EP X p t Q) X.xe s:=by
  intro T hT i o n d B N R;have hI:=fV R;refine vh hT d B N hI (by rw[hI.length];exact l) λout f j g k=>?_;refine⟨.ref 5e6,cq H 5e6 (.lst (f.map V.int)),I.laid (λb O e=>rT e) (V4 _) ?_,rfl,q f g k _ (I.hok.fresh (V4 _))⟩;obtain⟨m,e⟩:=rV;refine⟨?_,out.toList,m,mI j,by simpa using e⟩;rw[Wb,g.length_eq];exact UX (UY l) 1e0
 rcases c with c|c
 ·obtain⟨i,R,⟨o,n,d,B,_,N⟩,Z⟩:=I.list c;exact core "list" (.inl rfl) i o n d B N R
 ·obtain⟨i,R,⟨o,d,B,n,N⟩,Z⟩:=I.tuple c;exact core "tuple" (.inr rfl) i o n d B N R
theorem nR{r:Addr}(I:0e6)(h:ei X.K H r (k.map V.int)):Tk X.prog X.w 2e7 k r:=by
 obtain⟨S,R,⟨o,d,B,n,N⟩,_⟩:=I.tuple h;refine⟨o,S.toArray,n,d,B,N,?_⟩
 have core:∀(k:List Int)(S:1e5),bb (k.map V.int) S->PySem.ItemsAre (intKind X.prog X.w) k S:=by
  intro k
  induction k with
  |nil=>intro S h;cases h;exact .nil
  |cons i r b=>
   intro S h;cases h with
   |cons a c=>
    obtain⟨t,rfl⟩:=a;exact .cons (by simp[intKind,Value.isInt]) (b _ c)
 grind
noncomputable def gK(q:List KP):List V:=q.map λp=>V.ref p.2
theorem nq:∀{qs:List KP}{its:1e5},bb (gK qs) its->its=qs.map λp=>Value.ref p.2
 |[],its,h=>by cases h;rfl
 |q::qs,its,h=>by
  cases h with
  |cons H c=>cases H;rw[nq c];rfl
theorem ki:∀(qs:List KP),bb (gK qs) (ba qs)
 |[]=>.nil
 |q::qs=>.cons rfl (ki qs)
def Dm(K:W.Frag)(w:World):List V->Hp->VK->Prop:=λS H Q=>∃(a:Addr)(q:List KP),S=[.ref a]/\dN K H a (gK q)/\(∀p∈q,p.1∈prs/\ei K H p.2 (p.1.map V.int)) /\
 ∀l,H l=none->Q (.ref l) (cq H l (.ext λh=>cA w h l (fg q)))
theorem Cn (C:1e8) (U:2e4):cv X (.type "set") (Dm X.K X.w):=by
 intro P s x H μ N Q I r h;obtain⟨a,S,rfl,j,z,q⟩:=h;obtain⟨u,rfl,R⟩:=e9 r;cases R
 have n:∀(c:Heap)(T:Nat),cA X.w c 0e2 (fg S)->(∀b o,b<s.heap.objs.size->s.heap.get? b=some o->c.get? b=some o)->EP X P x Q (.ref 0e2) {s with heap:=c,toks:=T}:=by
  intro c T hS l;refine⟨.ref 0e2,cq H 0e2 (.ext λh=>cA X.w h 0e2 (fg S)),I.laid (λb O e=>l b O (US e) e) (Vn _) ?_,rfl,q _ (I.hok.fresh (Vn _))⟩;refine⟨hS,?_,λG J g k=>g.keeps k⟩;obtain⟨o,B,y,t,Z,f,_⟩:=hS;exact⟨o,f.ho⟩
 obtain⟨m,v,L,M⟩:=I.list j;exact xS (I.ok.hd C) L.isList (by simpa using nq v) (λp d=>(z p d).1) (λp d=>nR I (z p d).2) (by omega) n
def yy(K:W.Frag)(w:World):List V->Hp->VK->Prop:=λS H Q=>∃(a:Addr)(P:List KP),S=[.ref a]/\H a=some (.ext λh=>cA w h a P)/\(∀p∈P,ei K H p.2 (p.1.map V.int)) /\
 ∀out:List KP,out.Perm P->yO out->∀l,H l=none->Q (.ref l) (cq H l (.lst (gK out)))
end
noncomputable def iO(q:List KI):List KI:=q.foldl (λP p=>vO P p.1 p.2) []
theorem vw(q:List KI)(p:KI):iO (q++[p])=vO (iO q) p.1 p.2:=by simp[iO]
noncomputable def ik(ns:List Int):List Int:=ns.foldl (λa k=>if k∈a then a else a++[k]) []
theorem mL:∀(qs ps:List KI),(qs.foldl (λps p=>vO ps p.1 p.2) ps).map 3e2=(qs.map 3e2).foldl (λacc k=>if k∈acc then acc else acc++[k]) (ps.map 3e2)
 |[],ps=>rfl
 |q::qs,ps=>by
  rw[W5,mL qs,VX,W5];unfold vO;split
  ·rfl
  ·rw[WT];rfl
theorem x8(q:List KI):(iO q).map 3e2=ik (q.map 3e2):=mL q []
theorem vm(e:h.get? a=some {cls:=.type "set",dict:=none,data:=.set #[] 0 (.fresh 0 0 (pA w))}):eK w h a []:=
 ⟨_,_,_,_,[],⟨e,⟨rfl,rfl,rfl⟩,rfl,⟨rfl,rfl,List.Pairwise.nil,λz Z=>by simp at Z,rfl,λz Z=>by simp at Z⟩,rfl,rfl,.inl ⟨rfl,by decide⟩,List.Perm.nil⟩,λp d=>by simp at d,WZ⟩
noncomputable def vJ(p:KI):Value:=Value.int p.1 p.2
section
theorem CH{qs:List KI}{S:Addr}{u:Nat}(d:∀p∈qs,p.1∈ins):GO prog w u S (qs.map vJ) (λi h=>eK w h S (iO (qs.take i))):=by
 refine⟨λi h a H J=>J.keeps λo e=>H S o (Vn _) e,λA i v s E Q hA V J hQ=>?_⟩;rw[Wi]at V;cases e:qs[i]? with
 |none=>rw[e]at V;cases V
 |some p=>
  rw[e]at V;cases V;refine Vd (wpAny_pyHash_int ?_);refine J5 J (d p (VH e)) λb a k hS2=>?_;have etk:qs.take (i+1)=qs.take i++[p]:=by rw[Xs,e];rfl
  refine hQ b a _ (Nat.le_add_right _ _) k (by simp_all[vw])
theorem sU:∀(qs:List KI),IntsAre (qs.map vJ) (qs.map 3e2)
 |[]=>.nil
 |p::qs=>.cons p.1 p.2 (sU qs)
theorem FN{vs:1e5}(h:IntsAre vs ns):∃qs:List KI,vs=qs.map vJ/\qs.map 3e2=ns:=by
 induction h with
 |nil=>exact⟨[],rfl,rfl⟩
 |cons n t _ i=>
  refine bz i λqs d B=>?_;exact⟨(n,t)::qs,by rw[d];rfl,by rw[<- B];rfl⟩
theorem xR{ps:List KI}(j:(A.handled=none))(S:eK w 2e7 a ps)(h:∀(out:1e5) (ns':List Int),IntsAre out ns'->ns'.Perm (ps.map 3e2)->ns'.Pairwise (·<=·)->∀h' D,s.heap.objs.size<=D->(∀b u,s.heap.get? b=some u->h'.get? b=some u)->(∃n,h'.get? D=some (seqObj "list" out.toArray n))->Q (.ref D) {s with heap:=h'}):
  wpAny 0e9 A (call (.builtin "sorted") [.ref a]) Q E s:=by
 refine dz S λo r p t Z S k N=>?_;have i:=my k N;refine Yd kind_sorted plain_sorted entry_sorted (args_sorted1 _) ?_;refine Vd (Vg ?_);refine Vd (n4 (by simpa using j) S (by rw[S.len,Wb];lia) λm c H K z=>?_);refine bz (mK c ps rfl) λR d J=>?_;rw[(show m.map (·.2)=R.map vJ by rw[J,WE];rfl)];have l:(R.map vJ).length<=6:=by rw[Wb,d.length_eq];exact i
 refine Vd (XH ?_ (UX l 1e0));have hoL:(H.push (seqObj "list" (R.map vJ).toArray 0)).get? H.objs.size=some (seqObj "list" (R.map vJ).toArray 0):=UR _ rfl;have W:∀b u,H.get? b=some u->b≠H.objs.size:=λb u q=>UV (US q);refine Vd (Ve (VU slot_list_sort ⟨_,hoL,rfl⟩ Ye ?body (args_list_sort _)))
 case body=>
  refine list_sort_tree hoL (sU R) 0e0 λout ns' e f g=>⟨_,rfl,?_⟩;refine Vg ⟨_,rfl,h out.toList ns' e (f.trans (d.map _)) g _ H.objs.size z (λb u q=>?_) ?_⟩
  ·grind [sortedHeap,PySem.Heap.get?_update_ne,PySem.Heap.get?_push_of_some]
  ·unfold sortedHeap;exact⟨_,XG (Vi 3e6 (Vi (seqObj "tuple" (R.map vJ).toArray 0) (XG hoL (λ_=>#[])))) (λ_=>out)⟩
end
section
variable{X:Cx}
def Dn(K:W.Frag)(w:World):List V->Hp->VK->Prop:=λS H Q=>∃(a:Addr)(j:List Int),S=[.ref a]/\dN K H a (j.map V.int)/\(∀n∈j,n∈ins) /\
 ∀l,H l=none->∀P:List KI,P.map 3e2=ik j->(∀p∈P,p.1∈ins)->(P.map 3e2).Nodup->Q (.ref l) (cq H l (.ext λh=>eK w h l P))
theorem Co (C:1e8) (D:2e4):cv X (.type "set") (Dn X.K X.w):=by
 intro p s y H xs us Q I r h;obtain⟨a,N,rfl,j,μ,q⟩:=h;obtain⟨u,rfl,R⟩:=e9 r;cases R
 have n:∀(S:List KI),S.map 3e2=N->∀(c:Heap)(T:Nat),eK X.w c 0e2 (iO S)->(∀b o,b<s.heap.objs.size->s.heap.get? b=some o->c.get? b=some o)->EP X p y Q (.ref 0e2) {s with heap:=c,toks:=T}:=by
  intro S eq c T hS l;obtain⟨o,G,z,t,Z,f,v,x⟩:=id hS;exact⟨.ref 0e2,cq H 0e2 (.ext λh=>eK X.w h 0e2 (iO S)),I.laid (λb O e=>l b O (US e) e) (Vn _) ⟨hS,⟨o,f.ho⟩,λM U g k=>g.keeps k⟩,rfl,q _ (I.hok.fresh (Vn _)) _ (by rw[x8,eq]) v x⟩
 obtain⟨m,V,L,F⟩:=I.list j;obtain⟨S,d,B⟩:=FN (fV V);subst d;refine mJ (I.ok.hd C) L.isList (J:=λi h=>eK X.w h 0e2 (iO (S.take i))) ?_ (λc k e=>vm e) λc T W=>n S B c T ?_
 all_goals grind [CH]
def yw(w:World):List V->Hp->VK->Prop:=λS H Q=>∃(a:Addr)(P:List KI),S=[.ref a]/\H a=some (.ext λh=>eK w h a P) /\
 ∀n:List Int,n.Perm (P.map 3e2)->n.Pairwise (·<=·)->∀l,H l=none->Q (.ref l) (cq H l (.lst (n.map V.int)))
theorem zz (j:1e8):cv X (.builtin "sorted") (yw X.w):=by
 intro p s B H y U Q I r h;refine aP h λa P v g q=>?_;subst v;obtain⟨u,rfl,R⟩:=e9 r;cases R;obtain⟨hS,_⟩:=(I.hok a _ g);refine dz (id hS) λo m z t Z S K l=>?_;refine xR (I.ok.hd j) hS λout N d c f x D hD k i=>?_;refine⟨.ref D,cq H D (.lst (N.map V.int)),I.laid (λb O e=>k b O e) hD ?_,rfl,q N c f _ (I.hok.fresh hD)⟩;obtain⟨n,e⟩:=i;refine⟨?_,out,n,mI d,e⟩;rw[Wb,c.length_eq,Wb];exact UX (my K l) 1e0
end
noncomputable def aj(k:List Int):D:=.tup (k.map D.int)
noncomputable def A9:D->Option 4e2
 |.tup [.int a,.int b]=>if 0<=a/\a<b/\b<6 then some [a,b] else none
 |_=>none
noncomputable def pB:List D->Option 0e1
 |[]=>some []
 |d::r=>match A9 d,pB r with
  |some k,some s=>some (k::s)
  |_,_=>none
theorem Jk(h:A9 d=some k):d=aj k/\k∈prs:=by
 unfold A9 at h;split at h
 ·split at h
  ·rename_i j;cases h;exact⟨rfl,oI j.1 j.2.1 j.2.2⟩
  ·cases h
 ·cases h
theorem B4{a b:Int}(h:0<=a/\a<b/\b<6):A9 (.tup [.int a,.int b])=some [a,b]:=by
 simp[A9,Vs h]
theorem xk:∀{ds:List D}{ks:0e1},pB ds=some ks->ds=ks.map aj/\∀k∈ks,k∈prs
 |[],ks,h=>by cases h;simp
 |d::r,ks,h=>by
  unfold pB at h;split at h
  ·rename_i k b H c;cases h;obtain⟨e,B⟩:=Jk H;obtain⟨n,O⟩:=xk c;refine⟨by rw[e,n];rfl,λa K=>?_⟩;rcases U2.mp K with z|z
   ·rw[z];exact B
   ·exact O a z
  ·cases h
theorem xl:∀{ks:0e1},(∀k∈ks,k∈prs)->pB 0e3=some ks
 |[],_=>rfl
 |k::ks,h=>by
  refine aF (eU (h k U0)) λa b v H c d=>?_;subst v;simp[VX,pB,xl λe K=>h e (U1 _ K)];have:A9 (aj [a,b])=some [a,b]:=B4 ⟨H,c,d⟩;rw[this]
noncomputable def lD(ks:0e1)(k:List Int):List 4e2:=if k∈ks then ks else ks++[k]
noncomputable def ff(ks:0e1):List 4e2:=ks.foldl lD []
noncomputable def cL(ks:0e1):List 4e2:=prs.filter λk=>decide (k∈ks)
theorem qL:∀(qs ps:List KP),(qs.foldl (λps p=>ia ps p.1 p.2) ps).map 3e2=(qs.map 3e2).foldl lD (ps.map 3e2)
 |[],ps=>rfl
 |q::qs,ps=>by
  rw[W5,VX,W5,qL qs];unfold ia lD;split <;> simp
theorem Ci(q:List KP):(fg q).map 3e2=ff (q.map 3e2):=qL q []
theorem Cg:k∈ff ks↔k∈ks:=by
 have core:∀(ks a:0e1),k∈ks.foldl lD a↔k∈a\/k∈ks:=by
  intro ks
  induction ks with
  |nil=>intro a;simp
  |cons x r i=>
   intro a;rw[W5,i];unfold lD;split
   ·rename_i d;constructor
    ·rintro (h | h)
     ·exact .inl h
     ·exact .inr (U1 _ h)
    ·rintro (h | h)
     ·exact .inl h
     ·rcases U2.mp h with z | z
      ·exact .inl (by rw[z];exact d)
      ·exact .inr z
   ·simp[or_assoc]
 simp_all[ff]
theorem jC:prs.Pairwise λa b=>nP a<nP b:=by decide +kernel
theorem FZ{m:0e1}(i:l.Pairwise λa b=>nP a<nP b)(d:m.Pairwise λa b=>nP a<nP b)(h:∀k,k∈l↔k∈m):l=m:=by
 have n:l.Nodup:=i.imp λh e=>by subst e;lia
 have N:m.Nodup:=d.imp λh e=>by subst e;lia
 have H:l.Perm m:=(Xc n N).mpr h;refine H.eq_of_pairwise (le:=λa b=>nP a<nP b) (λa b _ _ c f=>by lia) i d
theorem ET{out:List KP}{ps:List KP}(h:∀p∈ps,p.1∈prs)(d:out.Perm ps)(R:yO out):out.map 3e2=cL (ps.map 3e2):=by
 refine FZ ?_ (jC.filter _) λk=>?_
 ·unfold yO at R;rw[Yg];exact R
 ·have H : k ∈ out.map 3e2 ↔ k ∈ ps.map 3e2 := (d.map _).mem_iff;rw[H];unfold cL
  grind
theorem nX(ks:0e1):cL (ff ks)=cL ks:=by
 simp[cL,Cg]
theorem Reps.keys{K:W.Frag}{H:Hp}{α:3e4}:∀{ks:0e1}{vs:List V},Reps K H α 0e3 vs->∃qs:List KP,qs.map 3e2=ks/\vs=gK qs/\∀p∈qs,ei K H p.2 (p.1.map V.int)
 |[],vs,h=>by simp only[VW,Reps]at h;exact⟨[],rfl,h,λp d=>by simp at d⟩
 |k::ks,vs,h=>by
  simp only[VX,Reps]at h;obtain⟨v,r,rfl,b,c⟩:=h;refine aP (aJ.mp b) λa U i f g=>?_;subst i;refine bI (Reps.keys c) λqs e B N=>?_;refine⟨(k,a)::qs,by rw[VX,e],by rw[B];rfl,λp d=>?_⟩;rcases U2.mp d with z|z
  ·subst z;rw[<- g.ints];exact f
  ·exact N p z
theorem n7{K:W.Frag}{H:Hp}{α:3e4}:∀{qs:List KP},(∀p∈qs,ei K H p.2 (p.1.map V.int))->Reps K H α ((qs.map 3e2).map aj) (gK qs)
 |[],_=>Reps.nil
 |q::qs,h=>by
  refine Reps.cons (aJ.mpr ⟨q.2,_,rfl,h q U0,iR _⟩) (n7 λp d=>h p (U1 _ d))
noncomputable def gM:List D->Option 4e2
 |[]=>some []
 |.int i::r=>(gM r).map (i::·)
 |_::_=>none
theorem dB:∀{ds:List D}{ns:List Int},gM ds=some ns->ds=ns.map D.int
 |[],bs,h=>by cases h;rfl
 |.int b::r,bs,h=>by
  unfold gM at h;cases e:gM r with
  |none=>rw[e]at h;cases h
  |some c=>rw[e]at h;cases h;rw[dB e];rfl
 |.non::r,bs,h=>by cases h
 |.bl _::r,bs,h=>by cases h
 |.str _::r,bs,h=>by cases h
 |.tup _::r,bs,h=>by cases h
 |.frz _::r,bs,h=>by cases h
 |.obj _::r,bs,h=>by cases h
theorem zq(h:∀n∈ns,n∈ins):(ik ns).length<=6:=by
 have core:∀(l a:List Int),(∀n∈l,n∈ins)->(∀n∈a,n∈ins)->a.Nodup->(l.foldl (λa k=>if k∈a then a else a++[k]) a).length<=6:=by
  intro l
  induction l with
  |nil=>
   intro a _ c d;have:=gx d c;exact this
  |cons x l i=>
   grind
 exact core ns [] h (λn H=>by simp at H) WZ
noncomputable def Da(xs:List D):Option 4e2:=match gM xs with
 |some j=>if j.all (λn=>decide (0<=n/\n<6))=true then some j else none
 |none=>none
theorem Jr(h:Da xs=some ns):xs=ns.map D.int/\∀n∈ns,n∈ins:=by
 unfold Da at h;split at h
 ·rename_i s d;split at h
  ·rename_i a;cases h;refine⟨dB d,λn H=>Jq.mpr ?_⟩
   simp_all
  ·cases h
 ·cases h
noncomputable def vT(xs:List D)(Y:ax):aq D:=match pB xs with
 |some k=>.ok 0e8 (Y++[.set (ff k)])
 |none=>match Da xs with
  |some j=>.ok 0e8 (Y++[.iset (ik j)])
  |none=>.bad
noncomputable def pb(s:List D)(Y:ax):aq D:=match s with
 |[.obj n]=>match Y[n]? with
  |some (.lst S)=>vT S Y
  |_=>.bad
 |_=>.bad
section
variable{p:Pa}
theorem IY{Q:VK}(S:(p.S H α Y))(a:∀k∈ks,k∈prs)(r:p.Rs H α 0e3 vs)(P:aI p H α (.ok 0e8 (Y++[.set (ff ks)])) (RV p Q)):
  ∃qs:List KP,vs=gK qs/\(∀q∈qs,q.1∈prs/\ei p.K H q.2 (q.1.map V.int))/\∀l,H l=none->Q (.ref l) (cq H l (.ext λh=>cA p.w h l (fg qs))):=by
 refine bI r.keys λqs d e N=>?_;refine⟨qs,e,λq z=>⟨a _ (by grind),N q z⟩,λl i=>?_⟩;have B:p.X H (cq H l (.ext λh=>cA p.w h l (fg qs))) α (α++[l]):=(bU i).trans (jg [l]);refine P _ _ B (S.more i ⟨fg qs,by rw[Ci,d],cg,λq z=>?_,vv,λq z=>?_⟩) _ (aL.mpr ⟨l,rfl,by rw[<- S.len];simp⟩)
 ·exact a _ (by rw[<- d];exact Xf (lS z))
 ·exact B.tup _ _ (N q (lS z))
theorem FC{Q:VK}(S:(p.S H α Y))(d:∀n∈ns,n∈ins)(P:aI p H α (.ok 0e8 (Y++[.iset (ik ns)])) (RV p Q)):
  ∀l,H l=none->∀ps:List KI,ps.map 3e2=ik ns->(∀p∈ps,p.1∈ins)->(ps.map 3e2).Nodup->Q (.ref l) (cq H l (.ext λh=>eK p.w h l ps)):=λl i ps e _ _=>by
 exact P _ _ ((bU i).trans (jg [l])) (S.more i ⟨ps,e,cg,zq d⟩) _ (aL.mpr ⟨l,rfl,by rw[<- S.len];simp⟩)
theorem L4{us:List V}{Q:VK}(S:(p.S H α Y))(b:dN p.K H a us)(R:p.Rs H α xs us)(P:aI p H α (vT xs Y) (RV p Q)):Dm p.K p.w [.ref a] H Q\/Dn p.K p.w [.ref a] H Q:=by
 unfold vT at P;split at P
 ·rename_i k m;obtain⟨n,O⟩:=xk m;rw[n]at R;obtain⟨q,d,B,N⟩:=IY S O R P;exact .inl ⟨a,q,rfl,by rw[<- d];exact b,B,N⟩
 ·split at P
  ·rename_i j h;obtain⟨n,O⟩:=Jr h;rw[n]at R;exact .inr ⟨a,j,rfl,by rw[<- R.ints];exact b,O,FC S O P⟩
  ·exact P.elim
theorem Nk:sf p pb (λxs H Q=>Dm p.K p.w xs H Q\/Dn p.K p.w xs H Q):=by
 intro s y H c e Q S r P;unfold pb at P;split at P
 ·rename_i n;split at P
  ·rename_i xs d;obtain⟨v,rfl,R⟩:=r.one;obtain⟨a,U,rfl,A,h,b⟩:=bZ S R d;exact L4 S (dN.of h) b P
  ·exact P.elim
 ·exact P.elim
noncomputable def lg(ns:List Int):List Int:=ns.mergeSort λa b=>decide (a<=b)
theorem pR{ns':List Int}(P:ns'.Perm ns)(hs:ns'.Pairwise (·<=·)):ns'=lg ns:=by
 have H:(lg ns).Perm ns:=Yh ns _
 have d:(lg ns).Pairwise (·<=·):=by
  have:=List.pairwise_mergeSort (le:=λ(a b:Int)=>decide (a<=b)) (λa b c H d=>by simp at *;lia) (λa b=>by simp;lia) ns;exact this.imp λh=>by simpa using h
 exact(P.trans H.symm).eq_of_pairwise (λa b _ _ H d=>Yi H d) hs d
noncomputable def iM(s:List D)(Y:ax):aq D:=match s with
 |[.tup S]=>match gM S with
  |some j=>if j.length<64 then .ok 0e8 (Y++[.lst ((lg j).map D.int)]) else .bad
  |none=>.bad
 |[.obj n]=>match Y[n]? with
  |some (.lst S)=>match gM S with
   |some j=>if j.length<64 then .ok 0e8 (Y++[.lst ((lg j).map D.int)]) else .bad
   |none=>.bad
  |some (.set k)=>.ok 0e8 (Y++[.lst ((cL k).map aj)])
  |some (.iset k)=>.ok 0e8 (Y++[.lst ((lg k).map D.int)])
  |_=>.bad
 |_=>.bad
theorem nz:sf p iM (λxs H Q=>(yz p.K xs H Q\/yy p.K p.w xs H Q)\/yw p.w xs H Q):=by
 intro μ O H t u Q S r P
 have f:∀{j:List Int},aI p H t (.ok (.obj u.length) (u++[.lst ((lg j).map D.int)])) (RV p Q)->∀N:List Int,N.Perm j->N.Pairwise (·<=·)->∀l,H l=none->Q (.ref l) (cq H l (.lst (N.map V.int))):=by
  intro j P N c z l i;rw[<- pR c z]at P;refine jr (cY S i (iR N)) λx G g=>?_;exact P _ _ x G _ g
 unfold iM at P;split at P
 ·rename_i xs;split at P
  ·rename_i j h;split at P
   ·rename_i i;obtain⟨v,rfl,b⟩:=r.one;refine aP (aJ.mp b) λa U L c R=>?_;subst L;rw[dB h]at R;exact .inl (.inl ⟨a,j,rfl,.inr (by rw[<- R.ints];exact c),i,f P⟩)
   ·exact P.elim
  ·exact P.elim
 ·rename_i n;split at P
  ·rename_i xs d;split at P
   ·rename_i j h;split at P
    ·rename_i i;obtain⟨v,rfl,b⟩:=r.one;refine aF (bZ S b d) λa U M T c R=>?_;subst M;rw[dB h]at R;exact .inl (.inl ⟨a,j,rfl,.inl (by rw[<- R.ints];exact dN.of c),i,f P⟩)
    ·exact P.elim
   ·exact P.elim
  ·rename_i J d;obtain⟨v,rfl,b⟩:=r.one;obtain⟨a,A,s,e,B,k,Z,m⟩:=S.at d;obtain⟨y,rfl,E⟩:=aL.mp b;rw[A]at E;cases E;refine .inl (.inr ⟨a,s,rfl,B,m,λout o I l i=>?_⟩);have R:p.Rs H t ((out.map 3e2).map aj) (gK out):=n7 λq C=>m q (o.mem_iff.mp C);rw[ET k o I,e]at R;refine jr (cY S i R) λx G g=>?_;exact P _ _ x G _ g
  ·rename_i J d;obtain⟨v,rfl,b⟩:=r.one;obtain⟨a,A,s,e,B,k⟩:=S.at d;obtain⟨y,rfl,E⟩:=aL.mp b;rw[A]at E;cases E;exact .inr ⟨a,s,rfl,B,by rw[e];exact f P⟩
  ·exact P.elim
 ·exact P.elim
noncomputable def gE(s:List D)(Y:ax):aq D:=zS s Y
theorem Nn:sf p gE (λxs H Q=>∃x n,xs=[x]/\K9 p.K x H n/\Q (.int n) H):=IS
end
section
variable{X:Cx}
def Dp(K:W.Frag):List V->Hp->VK->Prop:=λS H Q=>∃(a:Addr)(n:List Int),S=[.ref a]/\(dN K H a (n.map V.int)\/ei K H a (n.map V.int))/\n≠[]/\∀m∈n,(∀j∈n,m<=j)->Q (.int m) H
def Ko(K:W.Frag):List V->Hp->VK->Prop:=λS H Q=>∃(a:Addr)(n:List Int),S=[.ref a]/\(dN K H a (n.map V.int)\/ei K H a (n.map V.int))/\n≠[]/\∀m∈n,(∀j∈n,j<=m)->Q (.int m) H
theorem kF(h:IntsAre its ns){v:Value}(e:its.toArray[i]?=some v):∃t,v=.int (ns.getD i 0) t/\i<ns.length:=by
 refine bH (h.at i v (by simpa using e)) λn t V H=>?_;subst V;exact⟨t,by rw[Yj,H];rfl,((VY.mp H).1)⟩
theorem xp(h:i<ns.length):ns.getD i 0∈ns:=by
 simp_all
theorem xi{j:Int}(h:j∈ns):∃i,i<ns.length/\ns.getD i 0=j:=by
 obtain⟨i,H,e⟩:=XX h;exact⟨i,H,by simp_all⟩
theorem tx (C:1e8):cv X (.builtin "min") (Dp X.K):=by
 intro P s σ H xs us Q I r h;refine aF h λa N F k E q=>?_;subst F;obtain⟨u,rfl,D⟩:=e9 r;cases D;have f:=Yk.mpr E
 have core:∀(S:1e5)(o:Obj),IntsAre S N->∀v c,S.toArray[argBest (λi j=>decide (N.getD i 0<N.getD j 0)) (S.toArray.size-1)]?=some v->Moved [0e2] (λa b=>b=a) {s with heap:=s.heap.push o} c->EP X P σ Q v c:=by
  intro S o hI v c V m;obtain⟨t,rfl,x⟩:=kF hI V;have Z:S.toArray.size-1=N.length-1:=by rw[Vr,hI.length]
  rw[Z]at x⊢;obtain⟨b1,b2⟩:=argBest_lt (λi=>N.getD i 0) (N.length-1);obtain⟨hh,g,d,tk,os⟩:=c;have y:=m.gens;have z:=m.drawn;have G:=m.os;subst y z G;refine⟨.int _,H,I.fresh_it λb O B e=>m.heap b O B e,⟨t,rfl⟩,q _ (xp x) λj U=>?_⟩;refine bz (xi U) λi T W=>?_;subst W;exact b2 i 0e0
 have cmp:∀(S:1e5),IntsAre S N->CmpOf X.prog X.w X.A.in1 .Lt (λi v=>S.toArray[i]?=some v) (λi j=>decide (N.getD i 0<N.getD j 0)):=by
  intro S hI i j vi vj c Q' E' J M hQ;obtain⟨t1,rfl,_⟩:=kF hI J;obtain⟨t2,rfl,_⟩:=kF hI M;exact(PyProof.Rows.lt_int hQ:wpAny _ _ (compareOp .Lt _ _) _ _ _)
 rcases k with k|k
 ·obtain ⟨S, R, L, μ⟩ := I.list k;have hI:=fV R
  have E:a≠s.heap.objs.size:=by
   refine bH L λo n e _=>?_;exact UV (US e)
  refine call_min_walkS (Xq L.isList ?_);refine⟨0e2,[0e2,a],[0e2],_,_,_,_,_,rfl,(Xr (A:=X.A.in1) (I.ok.hd C) _ a E S.toArray).toS,⟨⟨_,UR _ rfl,rfl,rfl⟩,L.isList.at λo e=>Vi _ e⟩,λb B=>?_,by simp[hI.length,f],cmp S hI,λv c V m=>core S _ hI v c V m⟩;refine bH L λo n e _=>?_;have:=US e;simp[U2,WA]at B;rw[XI]
  lia
 ·obtain ⟨S, R, L, μ⟩ := I.tuple k;have hI:=fV R
  have E:a≠s.heap.objs.size:=by
   refine bz L λo e _=>?_;exact UV (US e)
  refine call_min_walkS (Wx L ?_);refine⟨0e2,[0e2,a],[0e2],_,_,_,_,_,rfl,(Walks.tuple (A:=X.A.in1) (I.ok.hd C) _ a E S.toArray).toS,⟨⟨_,UR _ rfl,rfl,rfl⟩,(show s.heap.IsTuple a S.toArray from L).at λo e=>Vi _ e⟩,λb B=>?_,by simp[hI.length,f],cmp S hI,λv c V m=>core S _ hI v c V m⟩;obtain⟨o,e,_⟩:=L;have:=US e;simp[U2,WA]at B;rw[XI]
  lia
theorem Cs (C:1e8):cv X (.builtin "max") (Ko X.K):=by
 intro P s W H xs us Q I r h;refine aF h λa N F k E q=>?_;subst F;obtain⟨u,rfl,D⟩:=e9 r;cases D;have f:=Yk.mpr E
 have core:∀(S:1e5)(o:Obj),IntsAre S N->∀v c,S.toArray[argBest (λi j=>decide (N.getD i 0>N.getD j 0)) (S.toArray.size-1)]?=some v->Moved [0e2] (λa b=>b=a) {s with heap:=s.heap.push o} c->EP X P W Q v c:=by
  intro S o hI v c V m;obtain⟨t,rfl,x⟩:=kF hI V;have Z:S.toArray.size-1=N.length-1:=by rw[Vr,hI.length]
  rw[Z]at x⊢;obtain⟨b1,b2⟩:=argBest_gt (λi=>N.getD i 0) (N.length-1);obtain⟨hh,g,d,tk,os⟩:=c;have y:=m.gens;have z:=m.drawn;have G:=m.os;subst y z G;refine⟨.int _,H,I.fresh_it λb O B e=>m.heap b O B e,⟨t,rfl⟩,q _ (xp x) λj U=>?_⟩;obtain⟨i,T,rfl⟩:=xi U;exact b2 i 0e0
 have cmp:∀(S:1e5),IntsAre S N->CmpOf X.prog X.w X.A.in1 .Gt (λi v=>S.toArray[i]?=some v) (λi j=>decide (N.getD i 0>N.getD j 0)):=by
  intro S hI i j vi vj c Q' E' J M hQ;obtain⟨t1,rfl,_⟩:=kF hI J;obtain⟨t2,rfl,_⟩:=kF hI M;exact(PyProof.Rows.gt_int hQ:wpAny _ _ (compareOp .Gt _ _) _ _ _)
 rcases k with k|k
 ·obtain ⟨S, R, L, μ⟩ := I.list k;have hI:=fV R
  have E:a≠s.heap.objs.size:=by
   refine bH L λo n e _=>?_;exact UV (US e)
  refine call_max_walkS (Xq L.isList ?_);refine⟨0e2,[0e2,a],[0e2],_,_,_,_,_,rfl,(Xr (A:=X.A.in1) (I.ok.hd C) _ a E S.toArray).toS,⟨⟨_,UR _ rfl,rfl,rfl⟩,L.isList.at λo e=>Vi _ e⟩,λb B=>?_,by simp[hI.length,f],cmp S hI,λv c V m=>core S _ hI v c V m⟩;refine bH L λo n e _=>?_;have:=US e;simp[U2,WA,WB]at B;rw[XI]
  lia
 ·obtain ⟨S, R, L, μ⟩ := I.tuple k;have hI:=fV R
  have E:a≠s.heap.objs.size:=by
   refine bz L λo e _=>?_;exact UV (US e)
  refine call_max_walkS (Wx L ?_);refine⟨0e2,[0e2,a],[0e2],_,_,_,_,_,rfl,(Walks.tuple (A:=X.A.in1) (I.ok.hd C) _ a E S.toArray).toS,⟨⟨_,UR _ rfl,rfl,rfl⟩,(show s.heap.IsTuple a S.toArray from L).at λo e=>Vi _ e⟩,λb B=>?_,by simp[hI.length,f],cmp S hI,λv c V m=>core S _ hI v c V m⟩;obtain⟨o,e,_⟩:=L;have:=US e;simp[U2,WA,WB]at B;rw[XI]
  lia
end
noncomputable def Pm:List Int->Int
 |[]=>0
 |x::r=>r.foldl min x
noncomputable def KU:List Int->Int
 |[]=>0
 |x::r=>r.foldl max x
theorem Ce(r:List Int):∀x:Int,(r.foldl min x=x\/r.foldl min x∈r)/\r.foldl min x<=x/\∀j∈r,r.foldl min x<=j:=by
 induction r with
 |nil=>simp
 |cons y r i=>
  intro x;refine jr (i (min x y)) λH c d=>?_
  grind [Int.min_le_right,List.mem_cons_self,List.mem_cons_of_mem]
theorem kQ(r:List Int):∀x:Int,(r.foldl max x=x\/r.foldl max x∈r)/\x<=r.foldl max x/\∀j∈r,j<=r.foldl max x:=by
 induction r with
 |nil=>simp
 |cons y r i=>
  intro x;refine jr (i (max x y)) λH c d=>?_
  grind [Int.le_max_right,List.mem_cons_self,List.mem_cons_of_mem]
theorem Jc{m:Int}(h:m∈ns)(M:∀j∈ns,m<=j):m=Pm ns:=by
 cases ns with
 |nil=>simp at h
 |cons x r=>
  refine jr (Ce r x) λH c d=>?_
  have a:m<=r.foldl min x:=by
   grind
  have A:r.foldl min x<=m:=by
   grind
  exact Yi a A
theorem Jf{m:Int}(h:m∈ns)(M:∀j∈ns,j<=m):m=KU ns:=by
 cases ns with
 |nil=>simp at h
 |cons x r=>
  refine jr (kQ r x) λH c d=>?_
  have a:r.foldl max x<=m:=by
   grind
  have A:m<=r.foldl max x:=by
   grind
  exact Yi A a
noncomputable def yg(d:D)(Y:ax):Option 4e2:=match d with
 |.tup S=>gM S
 |.frz S=>gM S
 |.obj n=>match Y[n]? with
  |some (.lst S)=>gM S
  |_=>none
 |_=>none
theorem Aj{p:Pa}(S:(p.S H α Y))(r:p.R H α d v)(h:yg d Y=some ns):∃a,v=.ref a/\(dN p.K H a (ns.map V.int)\/ei p.K H a (ns.map V.int)):=by
 unfold yg at h;split at h
 ·obtain⟨a,U,rfl,c,b⟩:=aJ.mp r;rw[dB h]at b;exact⟨a,rfl,.inr (by rw[<- b.ints];exact c)⟩
 ·obtain⟨a,U,rfl,c,b⟩:=br.mp r;rw[dB h]at b;exact⟨a,rfl,.inl (by rw[<- b.ints];exact c.sq)⟩
 ·split at h
  ·rename_i s x;refine aF (bZ S r x) λa U v11 A c b=>?_;subst v11;rw[dB h]at b;exact⟨a,rfl,.inl (by rw[<- b.ints];exact dN.of c)⟩
  ·cases h
 ·cases h
noncomputable def rG(s:List D)(Y:ax):aq D:=match s with
 |[d]=>match yg d Y with
  |some (n::j)=>.ok (.int (Pm (n::j))) Y
  |_=>.bad
 |s=>Dy s Y
noncomputable def lB(s:List D)(Y:ax):aq D:=match s with
 |[d]=>match yg d Y with
  |some (n::j)=>.ok (.int (KU (n::j))) Y
  |_=>.bad
 |s=>Dz s Y
theorem yA{p:Pa}:sf p rG (λxs H Q=>Dp p.K xs H Q\/∃i j,xs=[.int i,.int j]/\Q (.int (if j<i then j else i)) H):=by
 intro s y H c e Q S r P;unfold rG at P;split at P
 ·rename_i d;split at P
  ·rename_i n N h;obtain⟨v,rfl,R⟩:=r.one;obtain⟨a,rfl,b⟩:=Aj S R h;refine .inl ⟨a,n::N,rfl,b,by simp,λm M Z=>?_⟩;rw[Jc M Z];exact P.now S _ (av.mpr rfl)
  ·exact P.elim
 ·exact .inr (IP s y H c e Q S r P)
theorem Nl{p:Pa}:sf p lB (λxs H Q=>Ko p.K xs H Q\/∃i j,xs=[.int i,.int j]/\Q (.int (if j>i then j else i)) H):=by
 intro s y H c e Q S r P;unfold lB at P;split at P
 ·rename_i d;split at P
  ·rename_i n N h;obtain⟨v,rfl,R⟩:=r.one;obtain⟨a,rfl,b⟩:=Aj S R h;refine .inl ⟨a,n::N,rfl,b,by simp,λm M Z=>?_⟩;rw[Jf M Z];exact P.now S _ (av.mpr rfl)
  ·exact P.elim
 ·exact .inr (IQ s y H c e Q S r P)
noncomputable def nk(o1 o2:(D->D->ax->aq D))(fa fb fc:ME):ME:=λg h=>(fa g h).bind λa e=>(fb g e).bind λb f=>(o1 a b f).bind λz C=>(Gk z C).bind λk I=>
 if k=true then (fc g I).bind λc L=>o2 b c L else .ok (.bl false) I
section
variable{X:Cx}{p:Pa}{a b c d:Expr}{ta tb tc td:TE}{fb fc fd:ME}{op' op'':CmpOp}{r r' r'':R2}{o1 o2 o3:(D->D->ax->aq D)}
theorem zy(f:rq p o1 r)(j:rq p o2 r'){Q:VK}(h:tD p (nk o1 o2 fa fb fc) σ H Q):DN r r' (tD p fa) (tD p fb) (tD p fc) σ H Q:=by
 refine cX h λα A Y S R P=>?_;refine⟨α,A,Y,S,R,(aI.bind P).imp λx n H1 i B μ M v W=>⟨i,A,n,μ,R.mono B,(aI.bind M).imp λy o G l E Z N u U=>?_⟩⟩;refine f x y v u G l o _ Z (W.mono E) U ((aI.bind N).imp λz s H3 m K J T w g=>?_);refine bI (uj (aI.bind T) g J) λk _ e q=>?_;refine⟨k,e,?_⟩;cases k with
 |true=>
  exact⟨m,A,s,J,((R.mono B).mono E).mono K,(aI.bind q).imp λc L I C V D F t O=>j y c u t I C L Q D ((U.mono K).mono V) O F⟩
 |false=>rw[Vt V9]at q⊢;exact q.now J _ (aR.mpr rfl)
theorem E3(G:(i9 X (compareOp op) r))(i:i9 X (compareOp op') r')(f:rq p o1 r)(j:rq p o2 r')(n:(PE X a (tD p fa)))(B:PE X b (tD p fb))(C:PE X c (tD p fc))
  (m:lastMarks [op,op'] [b,c]=false):PE X (.Compare a [op,op'] [b,c] pos) (tD p (nk o1 o2 fa fb fc)):=(Ft G i n B C m).weak λe H Q h=>zy f j h
noncomputable def vF(d:D)(Y:ax):aq Bool:=match d with
 |.non=>.ok false Y
 |.bl b=>.ok b Y
 |.int i=>.ok (i != 0) Y
 |.str x=>if x.length<=sizeLine then .ok ((x.length:Int) != 0) Y else .bad
 |.tup S=>.ok (!S.isEmpty) Y
 |.frz S=>.ok (!S.isEmpty) Y
 |.obj n=>match Y[n]? with
  |some (.lst S)=>.ok (!S.isEmpty) Y
  |_=>.bad
noncomputable def eg(f:ME):MT:=λg e=>(f g e).bind vF
theorem Reps.isEmpty(r:Reps K H α xs vs):vs.isEmpty=xs.isEmpty:=by
 have:=r.length;cases xs with
 |nil=>have h:=List.eq_nil_of_length_eq_zero (by simpa using this);rw[h];rfl
 |cons x r=>cases vs with
  |nil=>simp at this
  |cons _ _=>rfl
theorem Hb{d:D}{R:Bool->ax->Hp->List Addr->Prop}(S:(p.S H α Y))(r:p.R H α d v)(P:aI p H α (vF d Y) R):∃k,K7 p.K v H k/\R k Y H α:=by
 unfold vF at P;split at P
 ·rw[bM.mp r];exact⟨false,rfl,P.now S⟩
 ·rename_i b;rw[aR.mp r];exact⟨b,rfl,P.now S⟩
 ·rename_i i;rw[av.mp r];exact⟨_,rfl,P.now S⟩
 ·rename_i x;split at P
  ·rename_i l;rw[cw.mp r];exact⟨_,⟨l,rfl⟩,P.now S⟩
  ·exact P.elim
 ·obtain⟨a,y,rfl,h,e⟩:=aJ.mp r;exact⟨_,.inr (.inl ⟨y,h,by rw[e.isEmpty]⟩),P.now S⟩
 ·obtain⟨a,y,rfl,h,e⟩:=br.mp r;exact⟨_,.inl ⟨y,h.sq,by rw[e.isEmpty]⟩,P.now S⟩
 ·split at P
  ·rename_i s f;refine aF (bZ S r f) λa U n A h g=>?_;subst n;exact⟨_,.inl ⟨U,dN.of h,by rw[g.isEmpty]⟩,P.now S⟩
  ·exact P.elim
theorem EF{f:ME}(hK:X.K=p.K)(h:PE X e (tD p f))(n:∀whole,isTrue e 1e7 whole=(do let v <- whole;standAt e.pos;holding [v] (truthy v))):PT X e (mW p (eg f)):=
 (Fb h n).weak λt H Q ⟨j, o, l, S, R, P⟩ => ⟨j, o, l, S, R, (aI.bind P).imp λd m q k s i g v V => by
  rw[hK];exact Hb i V g⟩
def OO(p:Pa)(f:D->List D->ax->aq D)(r:(V->List V->Hp->VK->Prop)):Prop:=∀d s v y H h e Q,p.S H h e->p.R H h d v->p.Rs H h s y->aI p H h (f d s e) (RV p Q)->r v y H Q
noncomputable def vB(d:D)(Y:ax):Bool:=match d with
 |.obj n=>match Y[n]? with
  |some (.lst _)=>true
  |_=>false
 |_=>false
noncomputable def sd(f:D->List D->ax->aq D)(fo:ME)(G:MA):ME:=λh i=>(fo h i).bind λo e=>if vB o e=true then (G h e).bind λs g=>f o s g else .bad
theorem NW{d:D}(S:(p.S H α Y))(r:p.R H α d v)(h:vB d Y=true):RU p.K "list" v H:=by
 unfold vB at h;split at h
 ·split at h
  ·rename_i s x;refine aF (bZ S r x) λa U f A e g=>?_;subst f;exact .inl ⟨rfl,U,dN.of e⟩
  ·cases h
 ·cases h
theorem Dj{o:Expr}{es:(List Expr)}{fo:ME}{name:Str}{cpos:Pos}{id:String}{rr:(V->List V->Hp->VK->Prop)}{f:D->List D->ax->aq D}(hK:X.K=p.K)(slot:Slot "list" name id)(y:(typeOf (.builtin id)=pure (.type "method_descriptor")))(M:SB X id rr)(C:OO p f rr)(G:PE X o (tD p fo))(B:PA X (e::es) (yd p fr))(hbase:attributeBase o name 1e7 (eval o 1e7)=eval o 1e7)(W : ((backTo cpos (starEach (e :: es) 1e7)).all (λx => !x.1) && (backToKw cpos (keywordEach [] 1e7)).all (λx => x.1.isSome)
   && decide ((e::es).length+([]:List Keyword).length+(if ([]:List Keyword).isEmpty then 0 else 1)<30))=true)(hline:(apos.endLine == cpos.line)=true)(hs:starEach (e::es) 1e7=(false,eval e 1e7)::starEach es 1e7)(hplain:(backTo cpos (starEach es 1e7)).any 3e2=false):
  PE X (.Call (.Attribute o name apos) (e::es) [] cpos) (tD p (sd f fo fr)):=
 (Ku PySem.F.plainAttrs_list slot y M G B hbase W hline hs hplain).weak λT H Q ⟨J, q, L, S, R, P⟩ => ⟨J, q, L, S, R, (aI.bind P).imp λd g N j w m h v n => by
  by_cases i:vB d g=true
  ·rw[Vs i]at h;rw[hK];exact⟨NW m n i,j,q,g,m,R.mono w,(aI.bind h).imp λA l s k z u t I E=>C d A v I s k l Q u (n.mono z) E t⟩
  ·rw[Vt i]at h;exact h.elim⟩
noncomputable def j9(d:D)(s:List D)(Y:ax):aq D:=match d,s with
 |.obj n,[.int i]=>match Y[n]? with
  |some (.lst S)=>match zG S.length i with
   |some k=>match S[k]? with
    |some y=>if -(2^63)<=i/\i<2^63 then .ok y (Y.set n (.lst (S.eraseIdx k))) else .bad
    |none=>.bad
   |none=>.bad
  |_=>.bad
 |_,_=>.bad
theorem I0:OO p j9 D0:=by
 intro d j v l H o q Q S D s P;unfold j9 at P;split at P
 ·rename_i n i;split at P
  ·rename_i m x;split at P
   ·rename_i k K;split at P
    ·rename_i y μ;split at P
     ·rename_i B;refine aF (bZ S D x) λa U V A h R=>?_;subst V;obtain⟨w,rfl,f⟩:=s.one;refine bz (R.get μ) λz Z g=>?_;have e:=(uQ K).1;exact⟨a,U,i,k,z,rfl,by rw[av.mp f],h,B.1,B.2,by rw[R.length];exact e,Z,(P _ _ (gj h) (S.put x A h (R.eraseIdx k)) _ (g.mono (gj h)))⟩
     ·exact P.elim
    ·exact P.elim
   ·exact P.elim
  ·exact P.elim
 ·exact P.elim
noncomputable def bJ(d:D)(s:List D)(Y:ax):aq D:=match d,s with
 |.obj n,[y]=>match Y[n]? with
  |some (.lst S)=>if S.length<sizeLine then .ok .non (Y.set n (.lst (S++[y]))) else .bad
  |_=>.bad
 |_,_=>.bad
theorem Ja:OO p bJ Ap:=by
 intro d f v g H j k Q S D s P;unfold bJ at P;split at P
 ·rename_i n y;split at P
  ·rename_i i x;split at P
   ·rename_i B;refine aF (bZ S D x) λa U V A h e=>?_;subst V;obtain⟨w,rfl,R⟩:=s.one;exact⟨a,U,w,rfl,rfl,h,by rw[e.length];exact B,P _ _ (gj h) (S.put x A h (e.snoc R)) _ (bM.mpr rfl)⟩
   ·exact P.elim
  ·exact P.elim
 ·exact P.elim
end
noncomputable abbrev fK(K:W.Frag)(w:World):Pa:=⟨K,w,λ_ _ _ _=>False⟩
noncomputable abbrev iT:D->D->ax->aq D:=dI λi j=>.int (i-j)
noncomputable abbrev sr:D->D->ax->aq D:=Gv Pv λi j=>.int (i / j)
noncomputable abbrev vL:D->D->ax->aq D:=Gv (λ_ j=>0<j) λi j=>.int (i%j)
noncomputable abbrev K0:D->D->ax->aq D:=Gv De λi j=>.int (i^j.toNat)
noncomputable def lN(N:List Str)(S scope:Scope)(Nc:List Str)(cap:2e6):Bool:=
 (scope.kind == .function)&&scope.names.all (λy=>scope.names.lookup y.1 == some y.2) &&
 scope.names.all (λy=>y.2 != .free || S.names.lookup y.1 == some .cell || S.names.lookup y.1 == some .free)&&gN N {scope:=S,globals:=0,builtins:=0,locals:=0,cells:=[],qual:="",func:=none,code:=.none,frame:=none} scope Nc cap
theorem nK{N:List Str}{e1 e2:Env}{scope:Scope}:∀{Nc:List Str}{cap:2e6},gN N e1 scope Nc cap=gN N e2 scope Nc cap
 |[],[]=>rfl
 |_::_,[]=>rfl
 |[],_::_=>rfl
 |_::Nc,none::cap=>by unfold gN;exact nK
 |x::Nc,some j::cap=>by unfold gN;rw[nK]
theorem Cj{X:Cx}{cap:2e6}(hN:X.N=N)(k:∀x,(sc.names.lookup x=some .cell\/sc.names.lookup x=some .free)->X.env.kindOf x=some .cell\/X.env.kindOf x=some .free)(h:lN N sc scope Nc cap=true):bT X.N 1e7 scope Nc cap:=by
 unfold lN at h;simp only[Yl]at h;obtain⟨⟨⟨H,i⟩,j⟩,l⟩:=h;refine⟨eq_of_beq H,λy μ=>?_,λy μ F=>?_,?_⟩
 ·exact eq_of_beq (Xg.mp i y μ)
 ·have := Xg.mp j y μ;simp only[Ym,F]at this;refine k _ ?_;rcases this with (z|z)|z
  ·exact absurd z 1e0
  ·exact .inl (eq_of_beq z)
  ·exact .inr (eq_of_beq z)
 grind [nK]
theorem oO{X:Cx}{cap:2e6}(hN:X.N=N)(hs:X.env.scope=sc)(h:lN N sc scope Nc cap=true):bT X.N 1e7 scope Nc cap:=
 Cj hN (λx H=>by subst hs;exact H) h
structure BE(p:Pa)(X:Cx)(e:Expr)(f:ME):Prop where
 h:PE X e (tD p f)
structure BA(p:Pa)(X:Cx)(e:(List Expr))(f:MA):Prop where
 h:PA X e (yd p f)
structure BT(p:Pa)(X:Cx)(e:Expr)(f:MT):Prop where
 h:PT X e (mW p f)
structure BW(p:Pa)(X:Cx)(e:Expr)(f:MT):Prop where
 h:PW X e (mW p f)
structure CQ(p:Pa)(X:Cx)(e:(List Expr))(f:MT):Prop where
 h:vC X e (mW p f)
structure BS(p:Pa)(X:Cx)(e:Stmt)(f:MS):Prop where
 h:PS X e (mX p f)
structure CS(p:Pa)(X:Cx)(e:List Stmt)(f:MS):Prop where
 h:nQ X e (mX p f)
structure BG(p:Pa)(X:Cx)(e:Expr)(f:MG):Prop where
 h:PG X e (vx p f)
structure O3(p:Pa)(X:Cx)(e:(List Expr))(f:Gm):Prop where
 h:CP X e (C2 p f)
structure BI(p:Pa)(X:Cx)(t e:Expr)(f:MI):Prop where
 h:PI X t e (yc p f)
structure BO(p:Pa)(X:Cx)(e:Option Expr)(f:MO):Prop where
 h:PO X e (RX p f)
structure GA(p:Pa)(X:Cx)(e:Expr)(k:Nat)(a:Addr)(f:MB):Prop where
 h:zJ X e k a (CK p f a)
section
variable{X:Cx}{p:Pa}{a b c d:Expr}{es:(List Expr)}{fb fc fd f:ME}{ft gt:MT}
theorem Ul(i:Nat)(hN:(autoParam 4e0 ATr))(V:Sy X.env.scope x:=by first|exact Or.inl rfl|exact Or.inr (Or.inl rfl)|exact Or.inr (Or.inr rfl))(h:2e5)(D:autoParam ((x == ("__classdict__" : Str))=false) ATs):BE p X (.Name x pos) (ah i):=⟨L6 (MK hN V h D)⟩
theorem Uq{i j}:BE p X (.Constant (.int i) j pos) (cC (.int i)):=⟨C4 MR λ_ _=>av.mpr rfl⟩
theorem Ur{i j}:BE p X (.Constant (.bool i) j pos) (cC (.bl i)):=⟨C4 QS λ_ _=>aR.mpr rfl⟩
theorem Uo{j}:BE p X (.Constant .none j pos) (cC .non):=⟨C4 D4 λ_ _=>bM.mpr rfl⟩
theorem Um{x j}:BE p X (.Constant (.str x) j pos) (cC (.str x)):=⟨C4 MM λ_ _=>cw.mpr rfl⟩
theorem SS{i:Int}(h:∃t,X.mg x=some (.int i t))(U:autoParam (Gl X x) ATr)(D:2e5):BE p X (.Name x pos) (cC (.int i)):=.mk (by
 obtain⟨t,J⟩:=h
 exact C4 (Ip (v:=.int i) U J ⟨t,rfl⟩ D) λ_ _=>av.mpr rfl)
theorem Qe(n:(BE p X a fa))(H:(BE p X b fb))(hK:1e2):BE p X (.BinOp a .Add b pos) (ay du fa fb):=⟨iW (hK ▸ IK) Ny n.h H.h⟩
theorem PR(n:(BE p X a fa))(H:(BE p X b fb)):BE p X (.BinOp a .Sub b pos) (ay iT fa fb):=⟨iW M3 (KS λ_ _ _ _=>av.mpr rfl) n.h H.h⟩
theorem P3(n:(BE p X a fa))(H:(BE p X b fb)):BE p X (.BinOp a .Mult b pos) (ay pd fa fb):=⟨iW IF Nt n.h H.h⟩
theorem Li(n:(BE p X a fa))(H:(BE p X b fb)):BE p X (.BinOp a .FloorDiv b pos) (ay sr fa fb):=⟨iW IG (vW λ_ _ _ _=>av.mpr rfl) n.h H.h⟩
theorem P7(n:(BE p X a fa))(H:(BE p X b fb)):BE p X (.BinOp a .Mod b pos) (ay vL fa fb):=⟨iW Na (vW λ_ _ _ _=>av.mpr rfl) n.h H.h⟩
theorem PX(n:(BE p X a fa))(H:(BE p X b fb)):BE p X (.BinOp a .Pow b pos) (ay K0 fa fb):=⟨iW M7 (vW λ_ _ _ _=>av.mpr rfl) n.h H.h⟩
theorem P0(n:(BE p X a fa)):BE p X (.UnaryOp .USub a pos) (oR t5 fa):=⟨QA Lm Nz n.h⟩
structure ou(X:Cx)(p:Pa)(op:CmpOp)(o:(D->D->ax->aq D)):Prop where
 ex:∃r,i9 X (compareOp op) r/\rq p o r
theorem Tw(U:2e4)(hK:1e2):ou X p .Eq (hZ false):=⟨C7 p.K false,hK ▸ Ng U,Ky⟩
theorem Tu(U:2e4)(hK:1e2):ou X p .NotEq (hZ true):=⟨C7 p.K true,hK ▸ M8 U,Ky⟩
theorem Tv(U:2e4)(hK:1e2):ou X p .In (iC false):=⟨C6 p.K false,hK ▸ Nf U,Kx⟩
theorem Q5(U:2e4)(hK:1e2):ou X p .NotIn (iC true):=⟨C6 p.K true,hK ▸ BQ U,Kx⟩
theorem Q6:ou X p .Is (lC false):=⟨_,Nd,Nv⟩
theorem NO:ou X p .IsNot (lC true):=⟨_,IE,IV⟩
theorem NP:ou X p .IsNot (GI true):=⟨_,BR,Nw⟩
theorem Q4(U:2e4)(G:autoParam (vZ op=true) ATr)(hK:1e2):ou X p op (eJ op):=⟨Dq p.K op,hK ▸ IH U G,Nx⟩
variable{op' op'':CmpOp}{o o' o'':(D->D->ax->aq D)}
theorem Qa(k:ou X p op o)(n:(BE p X a fa))(H:(BE p X b fb))(m:autoParam (behindInMarks op b=false) ATr):BE p X (.Compare a [op] [b] pos) (ay o fa fb):=.mk (let ⟨_,h1,h2⟩:=k.ex;Mb h1 h2 n.h H.h m)
theorem Qh(k:ou X p op o)(n:(BE p X a fa))(H:(BE p X b fb))(m:autoParam (behindInMarks op b=false) ATr):BT p X (.Compare a [op] [b] pos) (e0 (ay o fa fb)):=.mk (let ⟨_,h1,h2⟩:=k.ex;LH h1 h2 n.h H.h m)
theorem Qb(k:ou X p op o)(k':ou X p op' o')(n:(BE p X a fa))(H:(BE p X b fb))(j:BE p X c fc)(m:autoParam (lastMarks [op,op'] [b,c]=false) ATr):BE p X (.Compare a [op,op'] [b,c] pos) (nk o o' fa fb fc):=.mk (let ⟨_,h1,h2⟩:=k.ex;let ⟨_,h3,h4⟩:=k'.ex;E3 h1 h3 h2 h4 n.h H.h j.h m)
theorem Uv(h:BE p X e f)(n:autoParam (∀whole,isTrue e 1e7 whole=(do let v <- whole;standAt e.pos;holding [v] (truthy v))) ATt)(hK:1e2):BT p X e (eg f):=⟨EF hK h.h n⟩
theorem Qi(n:BT p X a ft)(H:BW p X (.BoolOp .And (b::rest) pos) gt):BW p X (.BoolOp .And (a::b::rest) pos) (iG ft gt):=⟨LB n.h H.h⟩
theorem SX(n:BT p X a ft)(H:BW p X (.BoolOp .Or (b::rest) pos) gt):BW p X (.BoolOp .Or (a::b::rest) pos) (ph ft gt):=⟨Qt n.h H.h⟩
theorem Ly(n:BT p X a ft):BW p X (.BoolOp .And [a] pos) ft:=⟨HZ n.h⟩
theorem Qg(n:BT p X a ft):BW p X (.BoolOp .Or [a] pos) ft:=⟨Mp n.h⟩
theorem PZ{op}(n:(BE p X a fa)):BE p X (.BoolOp op [a] pos) fa:=⟨MN n.h⟩
noncomputable def yB:Expr->Bool
 |.Starred _ _=>false
 |_=>true
theorem nr{a:Expr}{es:(List Expr)}(h:yB a=true):starEach (a::es) env=(false,eval a env)::starEach es env:=by
 cases a <;> first|rfl|cases h
theorem Ug(n:(BE p X a fa))(R:BA p X es fr)(hs:autoParam (yB a=true) ATr):BA p X (a::es) (af fa fr):=⟨HP n.h R.h (nr hs)⟩
theorem Ue  : BA p X [] aw:=⟨Me⟩
theorem Lk{k:Nat}{F:(List D->ax->aq D)}(h:fJ X.prog X.w X.K X.mg X.base p k x n F)(R:ib k X.A)(i:BA p X (a::es) fr)(U:autoParam (Gl X x) ATr)(H:2e5)(E:autoParam (starEach (a::es) 1e7=(false,eval a 1e7)::starEach es 1e7) ATr)(L:(autoParam 4e7 ATr)):BE p X (.Call (.Name x px) (a::es) [] pos) (au F fr):=⟨HL h R U i.h H E L⟩
structure m3(X:Cx)(p:Pa)(x:Str)(F:(List D->ax->aq D)):Prop where
 ex:∃(u:Value) (r:(List V->Hp->VK->Prop)),((∃id,u=.builtin id)\/∃T,u=.type T)/\bootBuiltins x=some u/\cv X u r/\sf p F r/\x ≠ "__name__" /\ (x == ("__debug__" : Str))=false
theorem jN{F:(List D->ax->aq D)}(k:m3 X p x F)(M:X.mg x=none)(n:BA p X (a::es) fr)(U:autoParam (Gl X x) ATr)(E:autoParam (starEach (a::es) 1e7=(false,eval a 1e7)::starEach es 1e7) ATr)(L:(autoParam 4e7 ATr)):BE p X (.Call (.Name x px) (a::es) [] pos) (au F fr):=.mk (by
 obtain⟨u,r,q,H,i,j,l,m⟩:=k.ex;rcases q with⟨id,rfl⟩|⟨T,rfl⟩
 ·exact E4 i j U M H n.h l m E L
 ·exact Bz i j U M H n.h l m E L)
theorem Rz (hK:1e2) (W:(autoParam (X.w=p.w) ATr)):m3 X p "len" gE:=⟨_,_,.inl ⟨_,rfl⟩,PySem.boot_len,F7,by rw[hK];exact Nn,by decide,by decide⟩
theorem RD (j:4e6) (hK:1e2):m3 X p "all" pf:=⟨_,_,.inl ⟨_,rfl⟩,by decide +kernel,tE j,hK ▸ Nr,by decide,by decide⟩
theorem RC (j:4e6) (hK:1e2):m3 X p "any" ym:=⟨_,_,.inl ⟨_,rfl⟩,by decide +kernel,Cu j,hK ▸ Nq,by decide,by decide⟩
theorem JX (hK:1e2):m3 X p "tuple" dE:=⟨_,_,.inr ⟨_,rfl⟩,by decide +kernel,rZ,hK ▸ Fy,by decide,by decide⟩
theorem Ou (hK:1e2):m3 X p "list" jQ:=⟨_,_,.inr ⟨_,rfl⟩,by decide +kernel,vq,hK ▸ IR,by decide,by decide⟩
theorem RA:m3 X p "int" so:=⟨_,_,.inr ⟨_,rfl⟩,by decide +kernel,Ct,Np,by decide,by decide⟩
theorem Rx (j:4e6) (hK:1e2):m3 X p "min" rG:=⟨_,_,.inl ⟨_,rfl⟩,by decide +kernel,(tx j).or (tw j),hK ▸ yA,by decide,by decide⟩
theorem Ry (j:4e6) (hK:1e2):m3 X p "max" lB:=⟨_,_,.inl ⟨_,rfl⟩,by decide +kernel,(Cs j).or (Cr j),hK ▸ Nl,by decide,by decide⟩
theorem Rw (U:2e4) (j:4e6) (hK:1e2) (W:(autoParam (X.w=p.w) ATr)):m3 X p "set" pb:=⟨_,_,.inr ⟨_,rfl⟩,by decide +kernel,(Cn j U).or (Co j U),by rw[hK,W];exact Nk,by decide,by decide⟩
theorem Df{T:String}{xT:Str}{pt:Pos}(hT:T∈["int", "bool", "tuple", "list", "str", "dict"])(hbT:bootBuiltins xT=some (.type T))(hnT:xT ≠ "__name__")(hdT:(xT == ("__debug__" : Str))=false)(m:X.mg "isinstance" = none)(hmT:X.mg xT=none)(n:(BE p X a fa))(U:autoParam (Gl X "isinstance") ATr)(hgT:autoParam (Gl X xT) ATr)(H:autoParam (starEach [a,.Name xT pt] 1e7=(false,eval a 1e7)::starEach [.Name xT pt] 1e7) ATr)(hK:1e2):BE p X (.Call (.Name "isinstance" px) [a,.Name xT pt] [] pos) (oR (iB T) fa):=⟨Ma hK hT U m hgT hmT hbT n.h hnT hdT H⟩
theorem Oq:bootBuiltins "int" = some (.type "int"):=by decide +kernel
theorem JV:bootBuiltins "bool" = some (.type "bool"):=by decide +kernel
theorem F9:bootBuiltins "tuple" = some (.type "tuple"):=by decide +kernel
theorem SR(n:(BE p X a fa))(H:(BE p X b fb))(hs:oQ b:=by exact λ_ _=>rfl)(hK:1e2):BE p X (.Subscript a b pos) (ay cj fa fb):=⟨QB hK n.h H.h hs⟩
theorem SN{lo hi:Option Expr}{fl fh:MO}{p2:Pos}(n:BE p X e fa)(i:BO p X lo fl)(U:BO p X hi fh)(hK:1e2):BE p X (.Subscript e (.Slice lo hi none p2) pos) (OZ fa fl fh):=⟨E2 hK n.h i.h U.h⟩
theorem PY{fo:ME}(G:BE p X ob fo)(n:BA p X [e] fr)(hbase:autoParam (attributeBase ob "pop" X.env (eval ob 1e7)=eval ob 1e7) ATr)(W:autoParam (((backTo pos (starEach [e] 1e7)).all (λx=>!x.1)&&(backToKw pos (keywordEach [] 1e7)).all (λx=>x.1.isSome)
   && decide ([e].length+([]:List Keyword).length+(if ([]:List Keyword).isEmpty then 0 else 1)<30))=true) ATr)(hline:(autoParam ((apos.endLine == pos.line)=true) ATr))(hs:(autoParam (starEach [e] 1e7=(false,eval e 1e7)::starEach [] 1e7) ATr))(L:(autoParam ((backTo pos (starEach [] 1e7)).any 3e2=false) ATr))(hK:1e2):BE p X (.Call (.Attribute ob "pop" apos) [e] [] pos) (sd j9 fo fr):=⟨Dj hK PySem.F.slot_list_pop PySem.F.type_list_pop FD I0 G.h n.h hbase W hline hs L⟩
theorem Qd{fo:ME}(G:BE p X ob fo)(n:BA p X [e] fr)(hbase:autoParam (attributeBase ob "append" X.env (eval ob 1e7)=eval ob 1e7) ATr)(W:autoParam (((backTo pos (starEach [e] 1e7)).all (λx=>!x.1)&&(backToKw pos (keywordEach [] 1e7)).all (λx=>x.1.isSome)
   && decide ([e].length+([]:List Keyword).length+(if ([]:List Keyword).isEmpty then 0 else 1)<30))=true) ATr)(hline:(autoParam ((apos.endLine == pos.line)=true) ATr))(hs:(autoParam (starEach [e] 1e7=(false,eval e 1e7)::starEach [] 1e7) ATr))(L:(autoParam ((backTo pos (starEach [] 1e7)).any 3e2=false) ATr))(hK:1e2):BE p X (.Call (.Attribute ob "append" apos) [e] [] pos) (sd bJ fo fr):=⟨Dj hK PySem.F.slot_list_append PySem.F.type_list_append sP Ja G.h n.h hbase W hline hs L⟩
variable{g:MG}{u:Gm}
theorem UF(i:BE p X e f)(hK:1e2):BI p X tg e (cI f):=⟨L0 hK i.h⟩
theorem TB(m:X.mg "range" = none)(n:BA p X [a] fr)(U:autoParam (Gl X "range") ATr)(hs:(autoParam (starEach [a] 1e7=[(false,eval a 1e7)]) ATr)):BI p X tg (.Call (.Name "range" px) [a] [] pos) (ej ja fr):=⟨By U m n.h hs⟩
theorem Tx(m:X.mg "range" = none)(n:BA p X [a,b] fr)(U:autoParam (Gl X "range") ATr)(hs:autoParam (starEach [a,b] 1e7=[(false,eval a 1e7),(false,eval b 1e7)]) ATr)(H:autoParam (starEach [b] 1e7=[(false,eval b 1e7)]) ATr):BI p X tg (.Call (.Name "range" px) [a,b] [] pos) (ej vH fr):=⟨Bx U m n.h hs H⟩
theorem TC(m:X.mg "enumerate" = none)(n:BA p X [a] fr)(U:autoParam (Gl X "enumerate") ATr)(hs:(autoParam (starEach [a] 1e7=[(false,eval a 1e7)]) ATr))(hK:1e2):BI p X (.Tuple elts k1 tpos) (.Call (.Name "enumerate" px) [a] [] pos) (ej iE fr):=⟨HE hK U m n.h hs⟩
theorem UG(i:Nat)(hN:(X.N.Nodup))(h:(autoParam 4e0 ATr))(H:autoParam (CZ X.env.scope x) ATv)(F:(autoParam 4e4 ATw)):BG p X (.Name x pos) (ag i):=⟨HH hN h H F⟩
theorem Rj  : O3 p X [] bf:=⟨HG⟩
theorem N6(H:BG p X e g)(i:O3 p X es u)(hs:(autoParam ((assignEach (e::es) 1e7).map (·.2)=assign e 1e7::(assignEach es 1e7).map (·.2)) ATr)):O3 p X (e::es) (aD g u):=⟨EW H.h i.h hs⟩
theorem Rh{k:Nat}(h:O3 p X es u)(j:4e6)(H:autoParam ((assignEach es 1e7).length=n) ATr)(t:autoParam ((assignEach es 1e7).findIdx? 3e2=none) ATr)(hK:1e2):BG p X (.Tuple es k pos) (bc n u):=⟨L1 hK j h.h H t⟩
theorem Ri{fo fi:ME}(G:BE p X a fo)(i:BE p X b fi)(n:autoParam (∀v,assign (.Subscript a b pos) 1e7 v=(do
   let ov <- holding [v] (eval a 1e7)
   let iv <- holding [v,ov] (eval b 1e7)
   standAt pos
   holding [v,ov,iv] (setItem ov iv v)
   release [v,ov,iv] [])) ATt):BG p X (.Subscript a b pos) (nU fo fi):=⟨L3 G.h i.h n⟩
variable{ifs:(List Expr)}{cap:2e6}{tt:MT}{te:ME}
theorem Lj(S:4e9)(i:(BI p X tg iter fi))(U:(∀cl C s H fp,BG p.nx 0e4 tg g))(J:(∀cl C s H fp,CQ p.nx 0e4 ifs tt))(n:∀cl C s H fp,BE p.nx 0e4 elt te)(j:4e6)(hs:1e3):BE p X 2e1 (bu fi cap g tt te):=⟨HK j S i.h (λcl C s H fp=>(U cl C s H fp).h) (λcl C s H fp=>(J cl C s H fp).h) (λcl C s H fp=>(n cl C s H fp).h) hs⟩
noncomputable def kM(gs:(List Comprehension)):Bool:=gs.all λg=>g.is_async == 0
theorem uq{gs:(List Comprehension)}(h:kM gs=true):∀g∈gs,g.is_async=0:=λg U=>eq_of_beq (Xg.mp h g U)
variable{mb:MB}{cl0:Comprehension}{rest:(List Comprehension)}{d:Nat}
theorem TX(U:gens[d]?=none)(l:BE p.nx X elt te)(E:autoParam (X.xe=tV) ATr):GA p.nx X (.ListComp elt gens scope pos) d acc (pD te):=⟨HM U E l.h⟩
theorem TV(U:gens[d]?=some ⟨tg,iter,ifs,0⟩)(i:BI p.nx X tg iter fi)(C:BG p.nx X tg g)(t:CQ p.nx X ifs tt)(H:GA p.nx X (.ListComp elt gens scope pos) (d+1) acc mb)(hz:autoParam (kM gens=true) ATr)(E:autoParam (X.xe=tV) ATr)(j:4e6)(hs:1e3):GA p.nx X (.ListComp elt gens scope pos) d acc (pK fi g tt mb):=
 ⟨E5 rfl (uq hz) U E j i.h C.h t.h H.h hs⟩
theorem HR(i:Nat)(hN:(X.N.Nodup))(S:4e9)(I:(BI p X tg iter fi))(U:(∀cl C s H fp,BG p.nx 0e4 tg g))(J:(∀cl C s H fp,CQ p.nx 0e4 ifs tt))(k:∀cl C s H fp acc,GA p.nx 0e4 (.ListComp elt (⟨tg,iter,ifs,0⟩::rest) scope pos) 1 acc mb)(hz:(autoParam (kM (⟨tg,iter,ifs,0⟩::rest)=true) ATr))(j:(autoParam 4e0 ATr))(m:(autoParam 4e5 ATr))(l:4e6)(W:(autoParam (swapsWith (.ListComp elt (⟨tg,iter,ifs,0⟩::rest) scope pos) (some (.Name x pos1)) pos2.line 1e7=pure true) ATr))(hs:1e3):BS p X (.Assign [.Name x pos1] (.ListComp elt (⟨tg,iter,ifs,0⟩::rest) scope pos) pos2) (aU (ka fi cap g tt mb) (ag i)):=
 ⟨EH l (uq hz) hN j m S I.h (λcl C s H fp=>(U cl C s H fp).h) (λcl C s H fp=>(J cl C s H fp).h) (λcl C s H fp acc=>(k cl C s H fp acc).h) W hs⟩
variable{fs gs:MS}{sts A B:List Stmt}
theorem QD(i:Nat)(hN:(X.N.Nodup))(n:BE p X e f)(H:(autoParam 4e0 ATr))(j:autoParam (CZ X.env.scope x) ATv)(hs:autoParam (swapsWith e (some (.Name x pos')) pos.line 1e7=pure false) ATr)(F:(autoParam 4e4 ATw)):BS p X (.Assign [.Name x pos'] e pos) (aU f (ag i)):=⟨LJ hN H j n.h hs F⟩
theorem Mf(i:Nat)(hN:(X.N.Nodup))(S:4e9)(I:(BI p X tg iter fi))(U:(∀cl C s H fp,BG p.nx 0e4 tg g))(J:(∀cl C s H fp,CQ p.nx 0e4 ifs tt))(n:∀cl C s H fp,BE p.nx 0e4 elt te)(j:(autoParam 4e0 ATr))(l:(autoParam 4e5 ATr))(k:4e6)(W:(autoParam (swapsWith 2e1 (some (.Name x pos1)) pos2.line 1e7=pure true) ATr))(hs:1e3):BS p X (.Assign [.Name x pos1] 2e1 pos2) (aU (bu fi cap g tt te) (ag i)):=⟨Hn k hN j l S I.h (λcl C s H fp=>(U cl C s H fp).h) (λcl C s H fp=>(J cl C s H fp).h) (λcl C s H fp=>(n cl C s H fp).h) W hs⟩
theorem QH(n:BE p X e f)(U:BG p X tg g)(hs:autoParam (swapsWithSole [tg] e pos.line 1e7=pure false) ATr)(W:autoParam (swappedStores [tg] e 1e7=pure none) ATr)(H:autoParam ((assignEach [tg] 1e7).map (·.2)=[assign tg 1e7]) ATr):BS p X (.Assign [tg] e pos) (aU f g):=⟨LQ n.h U.h hs W H⟩
theorem Mg(n:BE p X e f)(hs:autoParam (swapsWith e none pos.line 1e7=pure false) ATr):BS p X (.Expr e pos) (dv f):=⟨Ho n.h hs⟩
theorem QF(P:(PassesOwn 0e7 X.A 1e7 X.xe))(i:(BI p X tg iter fi))(U:BG p X tg g)(H:CS p X body fs)(j:4e6)(hs:1e3):BS p X (.For tg iter body [] pos) (h7 fi g fs):=⟨LO P j i.h U.h H.h hs⟩
theorem HQ(n:Nat)(P:(PassesOwn 0e7 X.A 1e7 X.xe))(j:BT p X c ft)(H:CS p X body fs):BS p X (.While c body [] pos) (lH n ft fs):=⟨EG P j.h H.h⟩
end
section
variable{X:Cx}{p:Pa}{a b c:Expr}{es:(List Expr)}{fb f:ME}{ft gt:MT}{fs gs:MS}{sts A B:List Stmt}
theorem PJ(n:(BE p X a fa)):BE p X (.UnaryOp .Not a pos) (we fa):=⟨L8 n.h⟩
theorem PQ(n:(BE p X a fa))(H:BE p X (.BoolOp .And (b::rest) pos) fb):BE p X (.BoolOp .And (a::b::rest) pos) (gO fa fb):=⟨Mc n.h H.h⟩
theorem SK(j:BT p X c ft)(n:(BE p X a fa))(H:(BE p X b fb)):BE p X (.IfExp c a b pos) (O0 ft fa fb):=⟨QC j.h n.h H.h⟩
theorem PH{k:Nat}(h:BA p X es fr):BE p X (.Tuple es k pos) (cK fr):=⟨L7 h.h⟩
theorem PL(h:BA p X es fr):BE p X (.List es pos) (gF fr):=⟨L9 h.h⟩
theorem GZ(h:BE p X e f):BO p X (some e) (vV f):=⟨HB h.h⟩
theorem PD(n:BT p X a ft):BT p X (.UnaryOp .Not a pos) (dy ft):=⟨LG n.h⟩
theorem SJ(h:BW p X e ft):BT p X e ft:=⟨h.h.pt⟩
theorem PF:CQ p X [] aV:=⟨Hk⟩
theorem PB(h:BT p X c ft):CQ p X [c] ft:=⟨Hj h.h⟩
theorem Pz:CS p X [] bW:=⟨LN⟩
theorem Lc(H:BS p X st fs)(i:CS p X sts gs):CS p X (st::sts) (aO fs gs):=⟨Hq H.h i.h⟩
theorem Py(H:BS p X st fs):CS p X [st] fs:=⟨LM H.h⟩
theorem Px(h:BE p X e f):BS p X (.Return (some e) pos) (bx f):=⟨LK h.h⟩
theorem GP:BS p X st oo:=⟨EI⟩
theorem SI(j:BT p X c ft)(n:CS p X A fs)(H:CS p X B gs):BS p X (.If c A B pos) (jL ft fs gs):=⟨Qu j.h n.h H.h⟩
end
theorem PM{p:Pa}{k:Nat}{f:Addr}{ps:List Str}(F:(tW K x qual st f fd))(S:iQ N ps (aY st))(j:ps.length=n)(m:mg x=some (.ref f))(i:jc K fd ps [])(body : ∀ (cdv : Value) (A : Around) (outer : List Env) (s : Shared) (H : Hp) (E : XK), ib k (A.deeper (envOfC qual (aY st) 0e2 f cdv)) ->
   CS p (rH A2 P w K mg base N qual (aY st) f cdv A outer s H E).nox (cH st) fb):fJ P w K mg base p (k+1) x n (eH n N.length fb):=
 Oj F S j m i λcdv A outer s H E R=>(body cdv A outer s H E R).h
end L2
namespace L2
open PySem RS
section
variable{fb fc fd f:ME}{ft gt:MT}{op o1 o2 o3:(D->D->ax->aq D)}{fs gs:MS}{g:MG}
@[simp] theorem ai{r:Ro}:ah 0 (some d::r) Y=.ok d Y:=XZ (X2 _)
@[simp] theorem ao{x:Option D}{r:Ro}:ah (i+1) (x::r) Y=ah i r Y:=XZ (X2 _)
@[simp] theorem bE:cC d ρ Y=.ok d Y:=XZ (X2 _)
@[simp] theorem aK:ay op fa fb ρ Y=(fa ρ Y).bind λa Y1=>(fb ρ Y1).bind λb Y2=>op a b Y2:=XZ (X2 _)
@[simp] theorem wd {o:D->ax->aq D}:oR o fa ρ Y=(fa ρ Y).bind λa Y1=>o a Y1:=XZ (X2 _)
@[simp] theorem aB:aw ρ Y=.ok [] Y:=XZ (X2 _)
@[simp] theorem ar:af fa fr ρ Y=(fa ρ Y).bind λa Y1=>(fr ρ Y1).bind λr Y2=>.ok (a::r) Y2:=XZ (X2 _)
@[simp] theorem aA {F:(List D->ax->aq D)}:au F fr ρ Y=(fr ρ Y).bind F:=XZ (X2 _)
@[simp] theorem dR:cK fr ρ Y=(fr ρ Y).bind λds Y=>if ds.length<=sizeLine then .ok (.tup ds) Y else .bad:=XZ (X2 _)
@[simp] theorem j8:gF fr ρ Y=(fr ρ Y).bind λds Y=>if ds.length<=sizeLine then .ok 0e8 (Y++[.lst ds]) else .bad:=XZ (X2 _)
@[simp] theorem bQ:Gk (.bl b) Y=.ok b Y:=XZ (X2 _)
@[simp] theorem cf:e0 f ρ Y=(f ρ Y).bind Gk:=XZ (X2 _)
@[simp] theorem jA:iG ft gt ρ Y=(ft ρ Y).bind λb Y1=>if b=true then gt ρ Y1 else .ok false Y1:=XZ (X2 _)
@[simp] theorem lM:ph ft gt ρ Y=(ft ρ Y).bind λb Y1=>if b=true then .ok true Y1 else gt ρ Y1:=XZ (X2 _)
@[simp] theorem fu:dy ft ρ Y=(ft ρ Y).bind λb Y1=>.ok (!b) Y1:=XZ (X2 _)
@[simp] theorem uV:gO fa fb ρ Y=(fa ρ Y).bind λa Y1=>(Gk a Y1).bind λb Y2=>if b=true then fb ρ Y2 else .ok (.bl false) Y2:=XZ (X2 _)
@[simp] theorem Sl:we f ρ Y=(f ρ Y).bind λa Y1=>(Gk a Y1).bind λb Y2=>.ok (.bl (!b)) Y2:=XZ (X2 _)
@[simp] theorem Ru:O0 ft fa fb ρ Y=(ft ρ Y).bind λb Y1=>if b=true then fa ρ Y1 else fb ρ Y1:=XZ (X2 _)
@[simp] theorem RM:nk o1 o2 fa fb fc ρ Y=(fa ρ Y).bind λa Y1=>(fb ρ Y1).bind λb Y2=>(o1 a b Y2).bind λz Y3=>(Gk z Y3).bind λk Y4=>
 if k=true then (fc ρ Y4).bind λc Y5=>o2 b c Y5 else .ok (.bl false) Y4:=XZ (X2 _)
@[simp] theorem fe:eg f ρ Y=(f ρ Y).bind vF:=XZ (X2 _)
@[simp] theorem fk:vF (.bl b) Y=.ok b Y:=XZ (X2 _)
@[simp] theorem Ui {fl fh:MO}:OZ fa fl fh ρ Y=(fa ρ Y).bind λa Y1=>(fl ρ Y1).bind λlo Y2=>(fh ρ Y2).bind λhi Y3=>OJ a lo hi Y3:=XZ (X2 _)
@[simp] theorem RK:vV f ρ Y=(f ρ Y).bind R8:=XZ (X2 _)
@[simp] theorem T4 {i:Int}:R8 (.int i) Y=.ok (some i) Y:=XZ (X2 _)
@[simp] theorem l7 {F:D->List D->ax->aq D}{fo:ME}:sd F fo fr ρ Y=(fo ρ Y).bind λo Y1=>if vB o Y1=true then (fr ρ Y1).bind λds Y2=>F o ds Y2 else .bad:=XZ (X2 _)
@[simp] theorem bG:bx f ρ Y=(f ρ Y).bindS λd Y'=>.ret d Y':=XZ (X2 _)
@[simp] theorem bV:bW ρ Y=.next ρ Y:=XZ (X2 _)
@[simp] theorem aG:aO fs gs ρ Y=(fs ρ Y).bind gs:=XZ (X2 _)
@[simp] theorem bF:jL ft fs gs ρ Y=(ft ρ Y).bindS λb Y1=>if b=true then fs ρ Y1 else gs ρ Y1:=XZ (X2 _)
@[simp] theorem aM:aU f g ρ Y=(f ρ Y).bindS λd Y1=>(g d ρ Y1).bindS λρ' Y2=>.next ρ' Y2:=XZ (X2 _)
@[simp] theorem dH:dv f ρ Y=(f ρ Y).bindS λ_ Y1=>.next ρ Y1:=XZ (X2 _)
@[simp] theorem az {g:MS}:(SO.next ρ Y).bind g=g ρ Y:=XZ (X2 _)
@[simp] theorem DT{g:MS}:(SO.ret d Y).bind g=.ret d Y:=XZ (X2 _)
@[simp] theorem dF:(SO.ret d Y).out=.ok d Y:=XZ (X2 _)
@[simp] theorem RI:(SO.next ρ Y).out=.ok .non Y:=XZ (X2 _)
@[simp] theorem bj:ag i d ρ Y=.ok (ρ.set i (some d)) Y:=XZ (X2 _)
@[simp] theorem JK{fo fi:ME}:nU fo fi d ρ Y=(fo ρ Y).bind λo Y1=>(fi ρ Y1).bind λi Y2=>(A5 o i d Y2).bind λ_ Y3=>.ok ρ Y3:=XZ (X2 _)
@[simp] theorem JJ{u:Gm}:bc n u (.tup xs) ρ Y=if xs.length=n then u xs ρ Y else .bad:=XZ (X2 _)
@[simp] theorem JL:bf [] ρ Y=.ok ρ Y:=XZ (X2 _)
@[simp] theorem FV{u:Gm}{r:List D}:aD g u (d::r) ρ Y=(g d ρ Y).bind λρ' Y'=>u r ρ' Y':=XZ (X2 _)
@[simp] theorem ij:h7 fi g fs ρ Y=(fi ρ Y).bindS λsrc Y1=>c9 src g fs src.items ρ Y1:=XZ (X2 _)
@[simp] theorem bh:cI f ρ Y=(f ρ Y).bind vG:=XZ (X2 _)
@[simp] theorem cM {F:List D->ax->aq kE}:ej F fr ρ Y=(fr ρ Y).bind F:=XZ (X2 _)
@[simp] theorem fm:vG (.tup xs) Y=.ok (.fix xs) Y:=XZ (X2 _)
@[simp] theorem aZ{cap:2e6}:bu fi cap g ft f ρ Y=(fi ρ Y).bind λsrc Y1=>compLoop src Y1.length g ft f src.items (cJ cap ρ) (Y1++[.lst []]):=XZ (X2 _)
@[simp] theorem aT:(kE.fix xs).items=xs:=XZ (X2 _)
@[simp] theorem cn:(kE.own n xs).items=xs:=XZ (X2 _)
@[simp] theorem So:cJ [] ρ=[]:=XZ (X2 _)
@[simp] theorem RO {r:2e6}:cJ (none::r) ρ=none::cJ r ρ:=XZ (X2 _)
@[simp] theorem RN{r:2e6}:cJ (some j::r) ρ=(ρ[j]?).join::cJ r ρ:=XZ (X2 _)
theorem dS{N:Nat}{a:D}:eH 1 N fs [a] Y=rn Y (fs (some a::List.replicate (N-1) none) Y).out:=Vs rfl
theorem bB{N:Nat}{a b:D}:eH 2 N fs [a,b] Y=rn Y (fs (some a::some b::List.replicate (N-2) none) Y).out:=Vs rfl
theorem jx{N:Nat}{a b c:D}:eH 3 N fs [a,b,c] Y=rn Y (fs (some a::some b::some c::List.replicate (N-3) none) Y).out:=Vs rfl
@[simp] theorem kI {op:CmpOp}{i j:Int}:eJ op (.int i) (.int j) Y=.ok (.bl (cmpI op i j)) Y:=XZ (X2 _)
@[simp] theorem kK {i j:Int}:du (.int i) (.int j) Y=.ok (.int (i+j)) Y:=XZ (X2 _)
@[simp] theorem Dx{i j:Int}:dI gg (.int i) (.int j) Y=.ok (gg i j) Y:=XZ (X2 _)
@[simp] theorem ni{i j:Int}(h:C i j):Gv C gg (.int i) (.int j) Y=.ok (gg i j) Y:=by unfold Gv;simp[h]
@[simp] theorem Sn {i j:Int} (h:vQ i j):pd (.int i) (.int j) Y=.ok (.int (i*j)) Y:=by unfold pd;simp[h]
@[simp] theorem Em {i:Int}:t5 (.int i) Y=.ok (.int (-i)) Y:=XZ (X2 _)
@[simp] theorem fO{i j:Int}:hZ neg (.int i) (.int j) Y=.ok (.bl (if neg then !(i == j) else i == j)) Y:=XZ (X2 _)
@[simp] theorem T3{i j:Bool}:hZ neg (.bl i) (.bl j) Y=.ok (.bl (if neg then !(i == j) else i == j)) Y:=XZ (X2 _)
@[simp] theorem nh{a:D}:lC neg a .non Y=.ok (.bl (if neg then !a.isNon else a.isNon)) Y:=XZ (X2 _)
@[simp] theorem kH:gE [.tup xs] Y=.ok (.int 4e3) Y:=XZ (X2 _)
@[simp] theorem JI:gE [.frz xs] Y=.ok (.int 4e3) Y:=XZ (X2 _)
theorem AK(h:(Y[n]?=some (.lst xs))):gE [.obj n] Y=.ok (.int 4e3) Y:=by unfold gE zS;simp[h]
theorem fj(h:(Y[n]?=some (.lst xs))):dE [.obj n] Y=.ok (.tup xs) Y:=by unfold dE;simp[h]
theorem jB{bs:List Bool}(h:Y[n]?=some (.lst (bs.map D.bl))):pf [.obj n] Y=.ok (.bl (bs.all id)) Y:=by unfold pf;simp[h,tF]
theorem JM{bs:List Bool}(h:Y[n]?=some (.lst (bs.map D.bl))):ym [.obj n] Y=.ok (.bl (bs.any id)) Y:=by unfold ym;simp[h,tF]
theorem ng{i:Int}(h:atI xs i=some d):cj (.tup xs) (.int i) Y=.ok d Y:=by unfold cj;simp[h]
theorem Oc{i:Int}(h:atI xs i=some d):cj (.frz xs) (.int i) Y=.ok d Y:=by unfold cj;simp[h]
theorem ih{i:Int}(m:(Y[n]?=some (.lst xs)))(h:atI xs i=some d):cj (.obj n) (.int i) Y=.ok d Y:=by unfold cj;simp[m,h]
theorem oN{i:Int}(m:(Y[n]?=some (.lst xs)))(h:zG 4e3 i=some j):A5 (.obj n) (.int i) d Y=.ok () (Y.set n (.lst (xs.set j d))):=by unfold A5;simp[m,h]
theorem bS(h:(Y[n]?=some (.lst xs))):vG (.obj n) Y=.ok (.own n xs) Y:=by unfold vG;simp[h]
theorem fq{j:Int}(H:0<=j)(h:j<1000):ja [.int j] Y=.ok (.fix (cc 0 j.toNat)) Y:=by
 unfold ja;dsimp only;rw[Vs];lia
theorem uU{i j:Int}(H:0<=i)(a:i<1000)(c:-1000<=j)(h:j<1000):vH [.int i,.int j] Y=.ok (.fix (cc i (j-i).toNat)) Y:=by
 unfold vH;dsimp only;rw[Vs];lia
theorem zU{α:Type}{x:α}{r:List α}:atI (x::r) 0=some x:=by unfold atI zG;simp
theorem DE{α:Type}{x y:α}{r:List α}:atI (x::y::r) 1=some y:=iN rfl
theorem KG{α:Type}{x y z:α}{r:List α}:atI (x::y::z::r) 2=some z:=iN rfl
@[simp] theorem d0 {x:D}{r:List D}:cj (.tup (x::r)) (.int 0) Y=.ok x Y:=ng zU
@[simp] theorem iK{x:D}{r:List D}:cj (.tup (x::y::r)) (.int 1) Y=.ok y Y:=ng DE
theorem Ow{α:Type}{xs:List α}{i:Int}{x:α}(H:0<=i)(h:xs[i.toNat]?=some x):atI xs i=some x:=by
 have:=iN h
 rwa [show ((i.toNat:Nat):Int)=i by lia]at this
theorem m9{i:Int}(H:0<=i)(h:i<n):zG n i=some i.toNat:=by unfold zG;simp[H,h]
end
section
variable{g:ax}
@[simp] theorem Sk{i:Int}:(D.int i).low n=True:=by simp[D.low]
@[simp] theorem T2{i:Bool}:(D.bl i).low n=True:=by simp[D.low]
@[simp] theorem Sj:D.non.low n=True:=by simp[D.low]
@[simp] theorem Si:(D.str x).low n=True:=by simp[D.low]
@[simp] theorem Sh:(D.tup xs).low n=D.lows n xs:=by simp[D.low]
@[simp] theorem Jh:(D.obj m).low n=(m<n):=by simp[D.low]
@[simp] theorem RJ:D.lows n []=True:=by simp[D.lows]
@[simp] theorem OR{x:D}:D.lows n (x::xs)=(x.low n/\D.lows n xs):=by simp[D.lows]
theorem eo{n:Nat}:∀{xs:List D},D.lows n xs↔∀x∈xs,x.low n
 |[]=>by simp
 |x::xs=>by simp[eo (xs:=xs)]
theorem cD(D:d.low 5e8):rn Y (.ok d (Y++g))=.ok d Y:=by
 unfold rn;dsimp only;rw[Vs]
 ·simp
 ·refine⟨D,by simp,λi o H h=>.inl ?_⟩;rw[VF H]at h;exact h
theorem aW(D:d.low 5e8):rn Y (.ok d Y)=.ok d Y:=by
 have:=cD (Y:=Y) (g:=[]) D;simpa using this
theorem Eh(D:d.low 5e8)(G:o.low 5e8):rn Y (.ok d (Y.set i o++g))=.ok d (Y.set i o):=by
 unfold rn;dsimp only;rw[Vs]
 ·simp
 ·refine ⟨D, by simp, λj e Z h => ?_⟩
  grind
theorem AI(D:d.low 5e8)(G:o.low 5e8):rn Y (.ok d (Y.set i o))=.ok d (Y.set i o):=by
 have:=Eh (Y:=Y) (g:=[]) (i:=i) D G;simpa using this
theorem iD{Y':ax}(h:¬ d.low 5e8):rn Y (.ok d Y')=.ok d Y':=by
 unfold rn;dsimp only;rw[Vt λz=>h z.1]
theorem N5{Y':ax}:rn Y (.ok d Y')=.ok d Y'\/(rn Y (.ok d Y')=.ok d (Y'.take 5e8)/\d.low 5e8):=by
 unfold rn;dsimp only;by_cases h:KY Y Y' d
 ·rw[Vs h];exact .inr ⟨rfl,h.1⟩
 lia
end
theorem pT{g:ax}{a b:O}:(Y1++a::g).set Y1.length b=Y1++b::g:=by
 simp
theorem aC{g:ax}{a:O}:(Y1++a::g)[Y1.length]?=some a:=by
 simp
theorem fR{g:ax}(h:ys.length<sizeLine):si Y1.length y (Y1++.lst ys::g)=.ok () (Y1++.lst (ys++[y])::g):=by
 simp_all[si]
theorem eW{src:kE}{g:MG}{t:MT}{e:ME}{Y1:ax}{q:D->Bool}{h:D->D}(R:Ro->Prop)(G:∀a,bA src (Y1++[.lst a])) :
  ∀{xs acc:List D}{ρ:Ro},R ρ->acc.length+xs.length<=sizeLine->(∀x∈xs,∀a ρ,R ρ->∃ρ1,R ρ1/\g x ρ (Y1++[.lst a])=.ok ρ1 (Y1++[.lst a])/\t ρ1 (Y1++[.lst a])=.ok (q x) (Y1++[.lst a])/\(q x=true->e ρ1 (Y1++[.lst a])=.ok (h x) (Y1++[.lst a]))) ->
   compLoop src Y1.length g t e xs ρ (Y1++[.lst acc])=.ok (.obj Y1.length) (Y1++[.lst (acc++(xs.filter q).map h)])
 |[],acc,ρ,r,i,n=>by
  unfold compLoop;rw[Vs (G acc)];simp
 |x::xs,acc,ρ,r,i,n=>by
  refine lb (n x U0 acc ρ r) λρ1 b E B N=>?_;unfold compLoop;rw[Vs (G acc),E];simp only[ak,aa];rw[B];simp only[ak,aa];have l:=λy μ=>n y (U1 _ μ);simp only[Wd]at i;cases z:q x with
  |false=>
   rw[Vt V9,eW R G b 0e0 l,Yn,z];rfl
  |true=>
   rw[Vs rfl,N z];simp only[ak,aa];rw[fR 0e0];simp only[aa];rw[eW R G b (by simp;lia) l,Yn,z];simp
theorem mE{src:kE}{g:MG}{t:MT}{e:ME}{n:Nat}(J:List D->List D->Ro->ax->ax->Prop)
  (F:∀ys ρ Y1 s,J [] ys ρ Y1 s->Y1.length=n/\bA src (Y1++.lst ys::s))
  (step : ∀ x r ys ρ Y1 s, J (x :: r) ys ρ Y1 s -> Y1.length = n /\ bA src (Y1 ++ .lst ys :: s) /\ ∃ ρ1 μa sa b μb sb, g x ρ (Y1 ++ .lst ys :: s) = .ok ρ1 (μa ++ .lst ys :: sa) /\ t ρ1 (μa ++ .lst ys :: sa) = .ok b (μb ++ .lst ys :: sb) /\
   (b=true->∃y μc sc,e ρ1 (μb++.lst ys::sb)=.ok y (μc++.lst ys::sc)/\ys.length<sizeLine/\μc.length=n/\J r (ys++[y]) ρ1 μc sc)/\(b=false->J r ys ρ1 μb sb)) :
  ∀{xs ys:List D}{ρ:Ro}{Y1 s:ax},J xs ys ρ Y1 s->∃ys' ρ' Y1' s',J [] ys' ρ' Y1' s'/\compLoop src n g t e xs ρ (Y1++.lst ys::s)=.ok (.obj n) (Y1'++.lst ys'::s')
 |[],ys,ρ,Y1,s,hJ=>by
  refine⟨ys,ρ,Y1,s,hJ,?_⟩;unfold compLoop;rw[Vs (F ys ρ Y1 s hJ).2]
 |x::xs,ys,ρ,Y1,s,hJ=>by
  obtain⟨H,G,ρ1,μa,sa,b,μb,sb,E,B,N,a⟩:=step x xs ys ρ Y1 s hJ;unfold compLoop;rw[Vs G,E];simp;rw[B];simp;cases b with
  |false=>
   exact mE J F step (a rfl)
  |true=>
   refine eC (N rfl) λy μc sc c O q h=>?_;rw[c];simp;subst q;rw[fR O];exact mE J F step h
theorem gS{src:kE}{g:MG}{fb:MS}(J:List D->Ro->ax->Prop)(n:∀ρ Y,J [] ρ Y->bA src Y)
  (step:∀x r ρ Y,J (x::r) ρ Y->bA src Y/\∃ρ1 Y1 ρ2 Y2,g x ρ Y=.ok ρ1 Y1/\fb ρ1 Y1=.next ρ2 Y2/\J r ρ2 Y2) :
  ∀{xs:List D}{ρ:Ro}{Y:ax},J xs ρ Y->∃ρ' Y',J [] ρ' Y'/\c9 src g fb xs ρ Y=.next ρ' Y'
 |[],ρ,Y,h=>⟨ρ,Y,h,by unfold c9;rw[Vs (n ρ Y h)]⟩
 |x::xs,ρ,Y,h=>by
  obtain⟨G,ρ1,Y1,ρ2,Y2,e,B,c⟩:=step x xs ρ Y h;refine bH (gS J n step c) λρ' Y' H N=>?_;refine⟨ρ',Y',H,?_⟩;unfold c9;rw[Vs G,e];simp;rw[B];exact N
end L2
namespace L2
open PySem PySem.Spec PyProof.Rows RS
theorem Rn{p:Pa}{k:Nat}{f:Addr}{ps:List Str}(F:(tW K x qual st f fd))(S:iQ N ps (aY st))(q:ps.length=n)(body : ∀ (cdv : Value) (A : Around) (outer : List Env) (s : Shared) (H : Hp) (E : XK), ib k (A.deeper (envOfC qual (aY st) 0e2 f cdv)) ->
   CS p (rH A2 P w K mg base N qual (aY st) f cdv A outer s H E).nox (cH st) fb):rK P w K mg base A2 (k+1) f fd ps (Ka p n (eH n N.length fb)):=by
 refine F.ok S (λy H Q E h=>h.1.trans q.symm) λcdv A outer s H y Q E t h=>?_;refine⟨_,(body cdv A outer s H E t).h,?_⟩;obtain⟨l,u,D,m,j,R,g⟩:=h;unfold eH at g;rw[Vs (by rw[<- R.length];exact l)]at g;have i:=AH j g;unfold start;rw[l];refine⟨u,_,m,j,qO R _,?_⟩;cases e:fb (D.map some++List.replicate (N.length-n) none) m with
 |ret d a=>rw[e]at i;exact λc b v x s r=>i c b x s v r
 |next o a=>rw[e]at i;exact λc b z x s r=>i c b x s .non (bM.mpr rfl)
 |exc x a=>rw[e]at i;exact i
 |brk o a=>rw[e]at i;exact i.elim
 |cnt o a=>rw[e]at i;exact i.elim
 |bad=>rw[e]at i;exact i.elim
theorem sE{K:W.Frag}{H:Hp}{α:3e4}:∀ns:List Int,Reps K H α (ns.map D.int) (ns.map V.int)
 |[]=>by rfl
 |n::ns=>by
  exact⟨_,_,rfl,av.mpr rfl,sE ns⟩
theorem FF{F:(List D->ax->aq D)}{E:XK}(hF:∃Y',F [.frz (ns.map D.int)] []=.ok (.bl true) Y')(hO:GL H)(hS:dN K H a (ns.map V.int)):
  Ka 5e4 1 F [.ref a] H (λv _=>v=.bl true) E:=by
 obtain⟨Y',e⟩:=hF
 have f:Ke K H a (ns.map V.int):=by
  rcases hS with (h|h)|h
  ·rcases hO a with z | ⟨o, S, z⟩
   all_goals lia
  ·exact .inl h
  ·exact .inr h
 refine⟨rfl,[],[.frz (ns.map D.int)],[],⟨rfl,WZ,λn o a h=>by simp at h⟩,?_,?_⟩
 ·simp only[Reps];exact⟨_,_,rfl,br.mpr ⟨a,_,rfl,f,sE ns⟩,rfl⟩
 ·rw[e];exact λb d x s v r=>aR.mp r
section
variable{X:Cx}{p:Pa}
theorem rX:seqSlot? (.type "list") (dunderI "add")=pure (some (.builtin "list.__iadd__")):=PySem.seqSlot_of F.slot_list_iadd.lookup (by decide +kernel)
theorem lX{M:Model}{a b:Value}(n:s.TypeIs a "list")(B:s.TypeIs b "list")(j:wpAny M A (call (.builtin "list.__iadd__") [a,b]) Q E s):wpAny M A (inplaceOp .Add a b) Q E s:=by
 refine Ve ?_
 have h:fillsInplaceSlot (.type "list") "add" (Operator.Add == .Add)=pure false:=by
  rfl
 refine Vd (VV n (Vd (Wn h ?_)));exact Vd (wpAny_binaryOp1_none n B noFill_list_add (Vd (Wn rX (Vd (Vj j)))))
noncomputable def Kq:O1:=λx y H Q=>(∃i j,x=.int i/\y=.int j/\Q (.int (i+j)) H) \/
 ∃l b S z,x=.ref l/\y=.ref b/\H l=some (.lst S)/\H b=some (.lst z)/\S.length+z.length<=sizeLine/\Q (.ref l) (cq H l (.lst (S++z)))
theorem Jp:Sb X .Add Kq:=by
 intro P s a H x y v u Q I R M h;rcases h with h|h
 ·exact NX P s a H x y v u Q I R M h
 ·obtain ⟨l, b, S, f, rfl, rfl, hH, hB, c, q⟩ := h;cases R;cases M;obtain⟨z,i,n,r,L,e⟩:=I.lstM hH;obtain⟨G,its2,N,M,d,B⟩:=I.lstM hB;have Z:i.toArray.size+its2.toArray.size<=sizeLine:=by rw[Vr,Vr];lia
  have hlong:¬ (!i.toArray.isEmpty&&Builtin.List.listTooLong (i.toArray.size+its2.toArray.size))=true:=by
   rw[qf Z,V8];exact V9
  refine lX ⟨_,e,rfl⟩ ⟨_,B,rfl⟩ ?_
  refine V5 F.slot_list_iadd ⟨_,e,rfl⟩ F.entry_list_iadd (F.args_list_iadd_2 _ _)
   (AutoSeq1.list___iadd___list_list_0 l i.toArray n b its2.toArray N hlong (by rw[Vr];lia) 0e0) ⟨e,B,?_⟩
  refine⟨.ref l,_,I.lset hH e 1e1 (r.append M) ?_,rfl,q⟩
  simp_all
noncomputable def iF(a b:D)(Y:ax):aq D:=match a,b with
 |.int i,.int j=>.ok (.int (i+j)) Y
 |.obj m,.obj n=>match Y[m]?,Y[n]? with
  |some (.lst S),some (.lst μ)=>if S.length+μ.length<=sizeLine then .ok (.obj m) (Y.set m (.lst (S++μ))) else .bad
  |_,_=>.bad
 |_,_=>.bad
theorem IW:rq p iF Kq:=by
 intro a b v y H o q Q S R B P;unfold iF at P;split at P
 ·rename_i i j;obtain rfl:=av.mp R;obtain rfl:=av.mp B;exact .inl ⟨i,j,rfl,rfl,P.now S _ (av.mpr rfl)⟩
 ·rename_i m n;split at P
  ·rename_i x s d μ;split at P
   ·rename_i k;refine aF (bZ S R d) λa U V A h e=>?_;subst V;refine aF (bZ S B μ) λf u l g c r=>?_;subst l;exact .inr ⟨a,f,U,u,rfl,rfl,h,c,by rw[e.length,r.length];exact k,P _ _ (gj h) (S.put d A h (e.append r)) _ (aL.mpr ⟨a,rfl,A⟩)⟩
   ·exact P.elim
  ·exact P.elim
 ·exact P.elim
theorem QG{f:ME}(i:Nat)(hN:(X.N.Nodup))(n:BE p X e f)(H:(autoParam 4e0 ATr))(d:autoParam (CZ X.env.scope x) ATv)(F:(autoParam 4e4 ATw)):
  BS p X (.AugAssign (.Name x pos') .Add e pos) (rC i iF f):=⟨LP hN H d n.h Jp IW F⟩
noncomputable def gk(d:D)(s:List D)(Y:ax):aq D:=match d,s with
 |.obj m,[.obj n]=>match Y[m]?,Y[n]? with
  |some (.lst S),some (.lst μ)=>if S.length+μ.length<=sizeLine then .ok .non (Y.set m (.lst (S++μ))) else .bad
  |_,_=>.bad
 |_,_=>.bad
theorem I9:OO p gk Ao:=by
 intro d f v y H k l Q S D s P;unfold gk at P;split at P
 ·rename_i m n;split at P
  ·rename_i i j x μ;split at P
   ·rename_i B;refine aF (bZ S D x) λa U V e h c=>?_;subst V;obtain⟨w,rfl,R⟩:=s.one;refine aF (bZ S R μ) λA u z g b r=>?_;subst z;exact⟨a,A,U,u,rfl,rfl,h,b,by rw[c.length,r.length];exact B,P _ _ (gj h) (S.put x e h (c.append r)) _ (bM.mpr rfl)⟩
   ·exact P.elim
  ·exact P.elim
 ·exact P.elim
end
end L2
namespace L2
open PySem PySem.W PyProof.Rows RS
section
theorem Ei{id:String}{b:Builtin}(H:builtinKind id=none)(h:plainId id=true)(d:entryFor table id=some b)(a:argsOk id ⟨us,kw⟩)(G : wpAny 0e9 A.in1 (b ⟨us, kw⟩) (λfin s' => match fin with
   |.done f=>(match (Except.ok f:Result) with | .ok (.ret v)=>Q v s' | .ok _=>False | .error e=>E e s')
   |.again c=>c.quiet=true/\codeAny 0e9 A c (λr s'=>match r with | .ok (.ret v)=>Q v s' | .ok _=>False | .error e=>E e s') s') E s):wpAny 0e9 A (call (.builtin id) us kw) Q E s:=by
 refine wpAny_call (codeAny_call_builtin h d ?_);simp[checkBuiltinCall,H];cases z:Manifest.signature? id with
 |none=>exact Vg G
 |some g=>
  simp[(by simpa[argsOk,z] using a)];exact Vg G
noncomputable def K3 (vs:5e5) (c:Nat):Obj:={cls:=.type "list",dict:=none,data:=.seq vs c,slots:=#[]}
abbrev Kp(s0:Shared)(h:Heap):Prop:=∀b O,s0.heap.get? b=some O->h.get? b=some O
theorem Qf{J S:Addr}{St:(Nat->Heap->Prop)}(Wk:Walks prog w A.in1 J fp [J] its.length (λi v=>its[i]?=some v) St)(n:J≠S)(nS:S∉fp)(u:s0.heap.get? J=none)(x:s0.heap.get? S=none){lt:Nat->Nat->Bool}{R:(Result->Shared->Prop)}(C:∀(j:Nat) v v0,its[j+1]?=some v->its[argBest lt j]?=some v0->∀h tk,Kp s0 h->yp .Lt A.in1 {s0 with heap:=h,toks:=tk} v v0 (lt (j+1) (argBest lt j)))(hR:∀v h tk,its[argBest lt (its.length-1)]?=some v->Kp s0 h->R (.ok (.ret v)) {s0 with heap:=h,toks:=tk}):
  ∀(k j:Nat)(h:Heap)(tk c:Nat)(v0:Value),its.length-(j+1)=k->j+1<=its.length->Kp s0 h->St (j+1) h->its[argBest lt j]?=some v0->h.get? S=some (K3 #[v0,v0] c) ->
   codeAny 0e9 A (.builtin "min.loop" ⟨[.ref J,.none,.ref S],kw⟩) R {s0 with heap:=h,toks:=tk}:=by
 have N:(toString "min" ++ toString ".loop" : String) = "min.loop" := by decide
 have kJ:∀{h H:Heap},Kp s0 h->(∀b o,b ∉ [J]->h.get? b=some o->H.get? b=some o)->Kp s0 H:=λg s b O e=>s b O (λz=>by
  grind) (g b O e)
 have kS:∀{h:Heap}{o:Obj->Obj},Kp s0 h->Kp s0 (h.update S o):=λg b O e=>by
  grind [PySem.Heap.get?_update_other]
 intro k
 induction k with
 |zero=>
  intro j h tk c v0 q Z p I B hS;have r:j+1=its.length:=by lia
  rw[r]at I;have a:j=its.length-1:=by lia
  subst a;refine Xm Yo ?_;rw[XE Yp _];refine Vd (Wt hS rfl ?_);refine Vd (Yq (Wk.done _ _ _ I λH T d=>?_));have hS':=d S _ (by simpa using n.symm) hS;refine Vd ?_;exact Yr hS' rfl (Vd (Ys (Vg (hR _ _ _ B (kS (kJ p d))))))
 |succ k f=>
  intro j h tk c v0 q Z p I B hS;have l:j+1<its.length:=by lia
  refine Xm Yo ?_;rw[XE Yp _];refine Vd (Wt hS rfl ?_);refine Vd (Yq (Wk.item (j+1) _ _ _ l I λv H T hP t d=>?_));have hS':=d S _ (by simpa using n.symm) hS;have K:=kJ p d;refine Vd (m:=tryCatch (holding [v,v] (richCompare .Lt v v0 >>= _)) _) (Yq (Ve (Vd (C j v v0 hP B H T K prog w _ _ ?_))));refine Vd (Ve (Va (Vd (Ys (Vg ?_)))));cases e:lt (j+1) (argBest lt j) with
  |false=>
   simp;refine Vd (Ys ?_);rw[N];refine Vg ⟨Xn Yp _,f (j+1) H T c v0 0e0 l K t ?_ hS'⟩
   simp_all[argBest]
  |true=>
   simp;refine Vd ?_;refine Yr hS' rfl (Vd (Ys ?_));rw[N];refine Vg ⟨Xn Yp _,f (j+1) _ T _ v 0e0 l (kS K) (Wk.frame _ _ _ t λb B o e=>?_) ?_ (V0 _ hS' rfl)⟩
   ·exact(V1 _ _ (λz=>nS (by rw[z];exact B))).trans e
   ·show its[if lt (j+1) (argBest lt j)=true then j+1 else argBest lt j]?=_;rw[e];exact hP
theorem yM{J S:Addr}{St:(Nat->Heap->Prop)}(Wk:Walks prog w A.in1 J fp [J] its.length (λi v=>its[i]?=some v) St)(n:J≠S)(nS:S∉fp)(u:s0.heap.get? J=none)(x:s0.heap.get? S=none){lt:Nat->Nat->Bool}{R:(Result->Shared->Prop)}(N:its≠[])(C:∀(j:Nat) v v0,its[j+1]?=some v->its[argBest lt j]?=some v0->∀h tk,Kp s0 h->yp .Lt A.in1 {s0 with heap:=h,toks:=tk} v v0 (lt (j+1) (argBest lt j)))(hR:∀v h tk,its[argBest lt (its.length-1)]?=some v->Kp s0 h->R (.ok (.ret v)) {s0 with heap:=h,toks:=tk})(p:Kp s0 h)(I:St 0 h)(hS:h.get? S=some (K3 #[] c)):
  codeAny 0e9 A (.builtin "min.loop" ⟨[.ref J,.none,.ref S],kw⟩) R {s0 with heap:=h,toks:=tk}:=by
 have kJ:∀{h H:Heap},Kp s0 h->(∀b o,b ∉ [J]->h.get? b=some o->H.get? b=some o)->Kp s0 H:=λk K b O e=>K b O (λz=>by
  simp at z
  subst z;rw[u]at e;cases e) (k b O e)
 have kS:∀{h:Heap}{o:Obj->Obj},Kp s0 h->Kp s0 (h.update S o):=λk b O e=>by
  have:S≠b:=λz=>by subst z;rw[x]at e;cases e
  exact(V1 _ _ this).trans (k b O e)
 have l:=Yk.mpr N;refine Xm Yo ?_;refine Vd (Wt hS rfl ?_);refine Vd (Yq (Wk.item 0 _ _ _ l I λv H T hP d M=>?_));have hS':=M S _ (by simpa using n.symm) hS;refine Vd (m:=updateSeq S λ_=>#[v,v]) ?_;refine Yr hS' rfl ?_;refine Vg ⟨Xn Yp _,Qf Wk n nS u x C hR (its.length-1) 0 _ T _ v rfl l (kS (kJ p M)) (Wk.frame _ _ _ d λb B o e=>?_) hP (V0 _ hS' rfl)⟩
 grind [PySem.Heap.get?_update_other]
theorem TQ{J S:Addr}{St:(Nat->Heap->Prop)}{I:Nat->Value->Prop}(Wk:Walks prog w A.in1 J fp [J] 0 I St)(u:s0.heap.get? J=none){d:Value}{R:(Result->Shared->Prop)}(hR:∀h tk,Kp s0 h->R (.ok (.ret d)) {s0 with heap:=h,toks:=tk})(j:Kp s0 h)(i:St 0 h)(hS:h.get? S=some (K3 #[] c)):
  codeAny 0e9 A (.builtin "min.loop" ⟨[.ref J,.none,.ref S],[(Str.ofString "default",d)]⟩) R {s0 with heap:=h,toks:=tk}:=by
 refine Xm Yo ?_;refine Vd (Wt hS rfl ?_);refine Vd (Yq (Wk.done _ _ _ i λH T m=>?_));refine Vd (Vj (Vg (hR _ _ λb O e=>m b O (λz=>?_) (j b O e))))
 grind
theorem DC:∀j,argBest (λ_ _=>false) j=0
 |0=>rfl
 |j+1=>by unfold argBest;simp[DC j]
end
section
variable{X:Cx}
theorem jz(k:h.objs.size<=a):h.get? a=none:=by
 cases e:h.get? a with
 |none=>rfl
 |some o=>exact absurd (US e) (Nat.not_lt.mpr k)
theorem pP:(λ(i:Nat) v=>its.toArray[i]?=some v)=(λi v=>its[i]?=some v):=by funext i v;simp
def Do(K:W.Frag):List V->Hp->VK->Prop:=λS H Q=>∃(a:Addr)(y:List V),S=[.ref a]/\dN K H a y/\(∀b,y[0]?=some b->∀v∈y,∃p q,oj K H p v/\oj K H q b/\fitP p=true/\fitP q=true/\cmpP .Lt p q=some false)/\Q (y.head?.getD .non) H
theorem CC (x d:Value):argsOk "min" ⟨[x],[(Str.ofString "default",d)]⟩:=by rfl
theorem Cq(Z:1e8)(hu:2e4){xs:List V}{Q:VK}(I:0e6)(r:bb xs us)(h:Do X.K xs H Q):
  wpAny 0e7 X.A (call (.builtin "min") us [(Str.ofString "default",Value.none)]) (EP X pins σ Q) X.xe s:=by
 refine aF h λa S v1 μ m q=>?_;subst v1;obtain⟨u,rfl,ru⟩:=e9 r;cases ru;refine bI (I.list μ) λi R L hz=>?_;have alt:a<s.heap.objs.size:=by refine bH L λo n e _=>?_;exact US e
 refine Ei F.kind_min F.plain_min F.entry_min (CC _ _) ?_;refine Vd (Wn rfl ?_);refine Vd (Vg ?_);refine Vd (Xq L.isList ?_);refine Vd (Vh ?_);have W0:=Xr (prog:=X.prog) (w:=X.w) (A:=X.A.in1) (I.ok.hd Z) 0e2 a (UV alt) i.toArray;rw[pP]at W0;by_cases f:i=[]
 ·subst f;cases R;refine Vg ⟨Xn Yp _,TQ W0 (jz (Vn _)) (λh t k=>⟨.non,H,I.kept k,rfl,q⟩) ?_ ?_ (UR _ rfl)⟩
  ·exact λb W e=>Vi _ (Vi _ e)
  ·exact⟨⟨_,Vi _ (UR _ rfl),rfl,rfl⟩,L.isList.at λo e=>Vi _ (Vi _ e)⟩
 ·refine Vg ⟨Xn Yp _, yM (s0 := s) (lt := λ_ _ => false) W0 ?_ ?_ ?_ ?_ f ?_ ?_ ?_ ?_ (UR _ rfl)⟩
  ·simp
  ·simp_all[Vl,Wf]
  ·simp[jz]
  ·simp[jz]
  ·intro j v v0 x g h t k pr wo C G hQ;rw[DC]at g
   have z:(0:Nat)<S.length:=by
    have:=(VY.mp g).1;rw[R.length];exact this
   have B:j+1<S.length:=by
    have:=(VY.mp x).1;rw[R.length];exact this
   refine bz (R.get (Xx z)) λu0 c r0=>?_;refine bz (R.get (Xx B)) λu1 d r1=>?_;rw[g]at c;cases c;rw[x]at d;cases d;refine gf (m _ (Xx z) _ (Yt B)) λp q M N y T U=>?_;have l:aS X pins σ H {s with heap:=h,toks:=t}:=I.kept k;obtain⟨J,D⟩:=bX l p _ _ M r1;obtain⟨bs,O⟩:=bX l q _ _ N r0;refine rc_reads rfl p q X.A.in1 _ _ _ J bs false D O (fitP_lay y) (fitP_lay T) ?_ U pr wo C G hQ;unfold fitP at y
   lia
  ·intro v h t e k;rw[DC]at e;refine⟨_,H,I.kept k,?_,q⟩;cases R with
   |nil=>cases e
   |cons r rr=>cases e;exact r
  ·exact λb W e=>Vi _ (Vi _ e)
  ·exact⟨⟨_,Vi _ (UR _ rfl),rfl,rfl⟩,L.isList.at λo e=>Vi _ (Vi _ e)⟩
noncomputable def KW(Y:ax)(y x:D):Bool:=match hW Y y,hW Y x with
 |some p,some q=>fitP p&&fitP q&&decide (cmpP .Lt p q=some false)
 |_,_=>false
noncomputable def pE(s:List D)(Y:ax):aq D:=match s with
 |[.obj n]=>match Y[n]? with
  |some (.lst [])=>.ok .non Y
  |some (.lst (x::r))=>if (x::r).all (λy=>KW Y y x)=true then .ok x Y else .bad
  |_=>.bad
 |_=>.bad
theorem IM{p:Pa}:sf p pE (Do p.K):=by
 intro D J H N T Q S r P;unfold pE at P;split at P
 ·rename_i n;split at P
  ·rename_i d;obtain⟨v,rfl,c⟩:=r.one;refine aF (bZ S c d) λa s o g b R=>?_;subst o;subst R;exact⟨a,[],rfl,dN.of b,λm e=>by simp at e,P.now S _ (bM.mpr rfl)⟩
  ·rename_i x M d;split at P
   ·rename_i L;obtain⟨v,rfl,c⟩:=r.one;refine aF (bZ S c d) λa s t g b R=>?_;subst t;have f:=R;refine aP f λU u z q G=>?_;subst z;refine⟨a,U::u,rfl,dN.of b,λm e v V=>?_,P.now S _ q⟩;cases e;obtain⟨i,I,rfl⟩:=XX V;refine bz (R.getV (Xx I)) λy μ l=>?_;have h:=Xg.mp L y (VH μ);unfold KW at h;split at h
    ·rename_i C k j B;simp at h;exact⟨C,k,iV S j l,iV S B q,h.1.1,h.1.2,h.2⟩
    ·cases h
   ·exact P.elim
  ·exact P.elim
 ·exact P.elim
theorem Cy:bootBuiltins "min" = some (.builtin "min"):=by decide +kernel
theorem Io{a:Expr}{t:TA}{p pk:Pos}{kp:Pos}(C:1e8)(k:2e4)(U:Gl X "min")(m:X.mg "min" = none)(f:PA X [a] t)(g:backTo pos (starEach [a] 1e7)=(false,eval a 1e7)::backTo pos (starEach [] 1e7))(i:(backTo pos (starEach [a] 1e7)).any 3e2=false):PE X (.Call (.Name "min" p) [a] [⟨some "default",.Constant .none j pk,kp⟩] pos) (Ss (Do X.K) t):=by
 intro P s c H Q I h;refine Vw (j7 I U m Cy ?_ 1e0 1e0);refine callWith_kw (dt (f pos P s c H _ I h) λo S ⟨y,b,e,R,q⟩=>?_) g i;refine kws_cons (dt (D4 P S c b (λv d=>v=.non/\d=b) e ⟨rfl,rfl⟩) λu N ⟨v,l,n,r,V,hH⟩=>kws_nil ?_);subst V hH;cases r;exact Cq C k n R q
theorem Lg{a:Expr}{pa:Pa}{p pk:Pos}{kp:Pos}(u:2e4)(m:X.mg "min" = none)(n:BE pa X a fa)(C:4e6)(U:autoParam (Gl X "min") ATr)(hs:autoParam (yB a=true) ATr)(hK:autoParam (X.K=pa.K) ATr):BE pa X (.Call (.Name "min" p) [a] [⟨some "default",.Constant .none j pk,kp⟩] pos) (au pE (af fa aw)):=.mk (by
 refine(Io C u U m (Ug n Ue hs).h ?_ ?_).weak λo H Q ⟨f,k,g,S,R,P⟩=>⟨f,k,g,S,R,P.bind.imp λs d b i l e c y r=>by rw[hK];exact IM s y b i d Q e r c⟩
 ·rw[nr hs];rfl
 ·rw[nr hs];rfl)
end
theorem Ut{α:Type}{P:List α->Prop}(h:∀a,P [a]):∀us:List α,us.length=1->P us
 |[a],_=>h a
theorem us2{α:Type}{P:List α->Prop}(h:∀a b,P [a,b]):∀us:List α,us.length=2->P us
 |[a,b],_=>h a b
theorem Us{α:Type}{P:List α->Prop}(h:∀a b c,P [a,b,c]):∀us:List α,us.length=3->P us
 |[a,b,c],_=>h a b c
theorem tW.b1{f:Addr}{ps:List Str}(F:(tW K x qual st f fd))(i:ps.length=1)(h:∀(kV doc pm:Value)(an:Option Addr)(cdv ct a:Value),bindArgs 2e0 ⟨[a],[]⟩=pure (ps.zip [a])):jc K fd ps []:=
 F.binds λkV doc pm an cdv ct U e=>Ut (P:=λU=>bindArgs 2e0 ⟨U,[]⟩=pure (ps.zip U)) (λa=>h kV doc pm an cdv ct a) U (e.trans i)
theorem tW.b2{f:Addr}{ps:List Str}(F:(tW K x qual st f fd))(i:ps.length=2)(h:∀(kV doc pm:Value)(an:Option Addr)(cdv ct a b:Value),bindArgs 2e0 ⟨[a,b],[]⟩=pure (ps.zip [a,b])):jc K fd ps []:=
 F.binds λkV doc pm an cdv ct U e=>us2 (P:=λU=>bindArgs 2e0 ⟨U,[]⟩=pure (ps.zip U)) (λa b=>h kV doc pm an cdv ct a b) U (e.trans i)
theorem tW.b3{f:Addr}{ps:List Str}(F:(tW K x qual st f fd))(i:ps.length=3)(h:∀(kV doc pm:Value)(an:Option Addr)(cdv ct a b c:Value),bindArgs 2e0 ⟨[a,b,c],[]⟩=pure (ps.zip [a,b,c])):jc K fd ps []:=
 F.binds λkV doc pm an cdv ct U e=>Us (P:=λU=>bindArgs 2e0 ⟨U,[]⟩=pure (ps.zip U)) (λa b c=>h kV doc pm an cdv ct a b c) U (e.trans i)
end L2
namespace L2
open PySem PySem.Spec PyProof.Rows RS
section
variable{X:Cx}{d:Nat}
theorem Jb {X:Cx}:SC X (newSet (.type "set")) (λa=>.ext λh=>cA X.w h a []):=λP s i H Q I h=>by
 unfold newSet setsByText;simp;refine Vd (Wm ?_);refine Vd (wpAny_alloc (Vg ?_));have hS:cA X.w (s.heap.push {cls:=.type "set",dict:=none,data:=.set #[] 0 (.fresh 0 0 (pA X.w))}) 0e2 []:=nY (UR _ rfl);refine h _ (I.laid (λb o e=>Vi _ e) (Vn _) ⟨hS,⟨_,UR _ rfl⟩,λc f g k=>g.keeps k⟩) (λb o e=>Vi _ e) ?_;simp
noncomputable def DM(K:W.Frag)(w:World)(te:TE)(acc:Addr):CY:=λa H N=>te a H λy i=>∃(r:Addr)(k:List Int)(P:List KP),y=.ref r/\i acc=some (.ext λh=>cA w h acc P)/\k∈prs/\ei K i r (k.map V.int)/\(∀p∈P,ei K i p.2 (p.1.map V.int)) /\
 N a (cq i acc (.ext λh=>cA w h acc (ia P k r)))
theorem BP(G:gens[d]?=none)(E:X.xe=tV)(U:2e4)(l:PE X elt te):zJ X (.SetComp elt gens scope pos) d acc (DM X.K X.w te acc):=by
 intro P s x H N I h;show (match gens[d]? with|some g=>_|none=>_:Prop);rw[G];have z:=l P s x H _ I h;rw[E]at z;refine Vd (dt z λv10 s10 ⟨y,H10,I10,r10,r,k,v,μ,C,j,R,c,m⟩=>?_);subst μ;cases r10;refine Vd (Vf (Vd ?_));obtain⟨hS,_⟩:=I10.hok acc _ C;refine dz (id hS) λo L J t Z f W k2=>?_
 have n:X.A.in1.units<cLine:=by
  lia
 have T:=nR I10 R;refine VU F.slot_set_add ⟨o,f.ho,f.ex.1⟩ F.entry_set_add ?_ (F.args_set_add_2 _ _);unfold Builtin.«set.add» Builtin.Frozenset.oneOther;simp only[List.isEmpty_nil,bind_assoc];refine Vd (Vg ?_);refine Vd (Vg ?_);refine Vd (Ve ?_);refine Vd (wpAny_pyHash_tuple n (nR I10 R) ?_);refine DG hS j T (show ∀q∈v,Tk X.prog X.w s10.heap q.1 q.2 from λq Q=>nR I10 (c q Q)) n λb M B hS2=>?_;refine Vg ⟨_,rfl,Vg ⟨_,_,?_,m⟩⟩;refine I10.write (by rw[C];exact trivial) (.inl rfl) (λa u i U=>(B.2 a i).trans U) ?_ ⟨hS2,?_,λD V g k=>g.keeps k⟩
 all_goals
  obtain⟨O,_,_,_,_,S,_⟩:=hS2;exact⟨O,S.ho⟩
variable{cl0:Comprehension}{rest:(List Comprehension)}{cap:2e6}{wi:TI}{g:TG}{tt:TT}{tb:Addr->CY}
theorem Fp(k:1e8)(hz:∀g∈cl0::rest,g.is_async=0)(S:4e9)(l:PI X cl0.target cl0.iter wi)
  (U:(∀cl C s H fp,PG 0e4 cl0.target g)) (J:(∀cl C s H fp,vC 0e4 cl0.ifs tt)) (B:∀cl C s H fp acc,zJ 0e4 (.SetComp elt (cl0::rest) scope pos) 1 acc (tb acc))
  (hs:(∀x,foldedSetIterable cl0.iter 1e7 x=pure x)):PE X (.SetComp elt (cl0::rest) scope pos) (lF (λa=>.ext λh=>cA X.w h a []) wi cap g tt tb):=by
 intro P s z H Q I h;have j:=hz cl0 U0;obtain⟨T,t,r,A⟩:=cl0;have c:A=0:=j;subst c;rw[arm_eval_SetComp];refine nH (e:=.SetComp elt (_::rest) scope pos) (Q:=Q) rfl hz rfl Jb k S l U J B I h (λC acc u f i F n q=>?_) hs;obtain⟨m,n⟩:=n;refine⟨m,n,λy v=>⟨.ref acc,f,?_,rfl,q⟩⟩;exact i.turned (t':=u.toks) (it:=C) (λb o B e=>(v.2 b B).trans e) F.1 F.2.1 F.2.2.2.1 F.2.2.2.2.1 F.2.2.2.2.2
end
section
theorem xv{p:Addr}{o:HO}(h:H p=some (.ext φ)):j3 K H (cq H p o) α α:=by
 refine⟨λa S q=>?_,λa S q=>?_,λ_ _ z=>z,λa fs q=>by rw[bo (jO q h (by intro z;cases z))];exact q⟩
 ·rcases q with (q | ⟨x, q⟩) | q
  ·exact .inl (.inl (by rw[bo (jO q h (by intro z;cases z))];exact q))
  ·exact .inl (.inr ⟨x,by rw[bo (jO q h (by intro z;cases z))];exact q⟩)
  ·exact .inr q
 ·rcases q with ⟨x, q⟩ | q
  ·exact .inl ⟨x,by rw[bo (jO q h (by intro z;cases z))];exact q⟩
  ·exact .inr q
theorem tM(S:(e4 K w H α Y)){ho:HO}(c:Y[n]?=some (.set ks))(f:α[n]?=some a)(i:H a=some (.ext φ))(q:pq K w (cq H a ho) α (.set ks') a):e4 K w (cq H a ho) α (Y.set n (.set ks')):=by
 have e:=xv (K:=K) (α:=α) (o:=ho) i;refine⟨by simp[S.len],S.nd,λm o b G v=>?_⟩;have N:n<Y.length:=(VY.mp c).1;by_cases h:m=n
 ·simp_all
 ·rw[U8 (λz=>h z.symm)]at G;refine(S.ob m o b G v).mono e (bo λz=>h ?_);subst z;obtain⟨l1,E⟩:=VY.mp v;obtain⟨l2,B⟩:=VY.mp f;exact(U6 S.nd).mp (E.trans B.symm)
end
noncomputable def GK(n:Nat)(y:D)(Y:ax):aq Unit:=match Y[n]?,y with
 |some (.set k),.tup [.int a,.int b]=>if [a,b]∈prs then .ok () (Y.set n (.set (lD k [a,b]))) else .bad
 |_,_=>.bad
theorem Ge{ps:List KP}{r:Addr}:(ia ps k r).map 3e2=lD (ps.map 3e2) k:=by
 grind [ia,lD]
theorem J4{p:Pa}{R:Unit->ax->Hp->List Addr->Prop}(S:(p.S H α Y))(A:α[n]?=some acc)(u:p.R H α y v)(P:aI p H α (GK n y Y) R):
  ∃(r:Addr)(k:List Int)(ps:List KP),v=.ref r/\H acc=some (.ext λh=>cA p.w h acc ps)/\k∈prs/\ei p.K H r (k.map V.int)/\(∀q∈ps,ei p.K H q.2 (q.1.map V.int)) /\
   ∃Y',p.X H (cq H acc (.ext λh=>cA p.w h acc (ia ps k r))) α α/\p.S (cq H acc (.ext λh=>cA p.w h acc (ia ps k r))) α Y'/\R () Y' (cq H acc (.ext λh=>cA p.w h acc (ia ps k r))) α:=by
 unfold GK at P;split at P
 ·rename_i o a b c;split at P
  ·rename_i i;obtain⟨acc',E,ps,j,B,N,l,m⟩:=S.at c;rw[A]at E;cases E;refine aP (aJ.mp u) λr G C f t=>?_;subst C;have s:G=[a,b].map V.int:=Reps.ints (ns:=[a,b]) t;subst s;have x:p.X H (cq H acc (.ext λh=>cA p.w h acc (ia ps [a,b] r))) α α:=xv B
   have q:pq p.K p.w (cq H acc (.ext λh=>cA p.w h acc (ia ps [a,b] r))) α (.set (lD o [a,b])) acc:=by
    refine⟨ia ps [a,b] r,by rw[Ge,j],cg,λq Q=>?_,qK l,λq Q=>?_⟩
    ·rcases qt Q with z | z
     ·exact N q z
     ·subst z;exact i
    ·rcases qt Q with z | z
     ·exact x.tup _ _ (m q z)
     ·subst z;exact x.tup _ _ f
   exact⟨r,[a,b],ps,rfl,B,i,f,m,_,x,tM S c A B q,P _ _ x (tM S c A B q)⟩
  ·exact P.elim
 ·exact P.elim
noncomputable def zR(e:ME):MB:=λn c Y=>(e c Y).nox.bind λy a=>(GK n y a).bind λ_ b=>.ok c b
noncomputable def nj(fi:MI)(cap:2e6)(g:MG)(t:MT)(fb:MB):ME:=λc Y=>(fi c Y).bind λs a=>(gL s a.length g t fb s.items (cJ cap c) (a++[.set []])).bind λ_ b=>.ok (.obj a.length) b
section
variable{p:Pa}
theorem zp{e:ME}{N:(St->Hp->Prop)}(h:CK p (zR e) acc σ H N):DM p.K p.w (tD p.nx e) acc σ H N:=by
 refine cE h λα q Y n S R a P=>?_;refine⟨α,q,Y,S,R,(dh P).imp λy l t W I c b v V=>?_⟩;obtain⟨r,k,s,E,B,f,i,m,o,x,j,L⟩:=J4 (p:=p) c (I.pre _ _ a) V (aI.bind b);exact⟨r,k,s,E,B,f,i,m,L.now j σ ((R.mono I).mono x)⟩
theorem zt{cap:2e6}{g:MG}{t:MT}{fb:MB}{Q:VK}(h:tD p (nj fi cap g t fb) σ H Q):lF (λa=>.ext λh=>cA p.w h a []) (yc p fi) cap (vx p.nx g) (mW p.nx t) (λacc=>CK p.nx fb acc) σ H Q:=by
 refine cX h λα v Y S R P=>?_;refine⟨α,v,Y,S,R,(aI.bind P).imp λq b c i o f k J L hJ acc C=>?_⟩;have B:p.X c (cq c acc (.ext λh=>cA p.w h acc [])) i (i++[acc]):=(bU C).trans (jg [acc]);have s:p.S (cq c acc (.ext λh=>cA p.w h acc [])) (i++[acc]) (b++[.set []]):=f.more C ⟨[],rfl,cg,nofun,WZ,nofun⟩;have n:(i++[acc])[b.length]?=some acc:=by rw[<- f.len];simp
 refine lO (p:=p) B s (((R.mono o).cap cap).mono B) n hJ ((aI.from B (aI.bind k)).imp λx u z r m l j y A=>?_);exact j.now l _ (aL.mpr ⟨acc,rfl,m.pre _ _ n⟩)
variable{X:Cx}{ifs:(List Expr)}{rest:(List Comprehension)}{cap:2e6}{g:MG}{tt:MT}{te:ME}{mb:MB}{d:Nat}
theorem RB(U:gens[d]?=none)(u:2e4)(l:BE p.nx X elt te)(E:autoParam (X.xe=tV) ATr)(hK:1e2)(W:(autoParam (X.w=p.w) ATr)):GA p.nx X (.SetComp elt gens scope pos) d acc (zR te):=
 ⟨λP s a H N I h=>BP U E u l.h P s a H N I (by rw[hK,W];exact zp (p:=p.nx) h)⟩
theorem G2(S:4e9)(i:(BI p X tg iter fi))(U:(∀cl C s H fp,BG p.nx 0e4 tg g))(J:(∀cl C s H fp,CQ p.nx 0e4 ifs tt))(B:∀cl C s H fp acc,GA p.nx 0e4 (.SetComp elt (⟨tg,iter,ifs,0⟩::rest) scope pos) 1 acc mb)(hz:(autoParam (kM (⟨tg,iter,ifs,0⟩::rest)=true) ATr))(j:4e6)(hs:1e3)(W:(autoParam (X.w=p.w) ATr)):BE p X (.SetComp elt (⟨tg,iter,ifs,0⟩::rest) scope pos) (nj fi cap g tt mb):=
 ⟨(Fp (cl0:=⟨tg,iter,ifs,0⟩) j (uq hz) S i.h (λcl C s H fp=>(U cl C s H fp).h) (λcl C s H fp=>(J cl C s H fp).h) (λcl C s H fp acc=>(B cl C s H fp acc).h) hs).weak λa H Q h=>by rw[W];exact zt h⟩
end
section
variable{p:Pa}{X:Cx}
theorem P9{fo:ME}(G:BE p X ob fo)(n:BA p X [e] fr)(hbase:autoParam (attributeBase ob "extend" X.env (eval ob 1e7)=eval ob 1e7) ATr)(W:autoParam (((backTo pos (starEach [e] 1e7)).all (λx=>!x.1)&&(backToKw pos (keywordEach [] 1e7)).all (λx=>x.1.isSome)
   && decide ([e].length+([]:List Keyword).length+(if ([]:List Keyword).isEmpty then 0 else 1)<30))=true) ATr)(hline:(autoParam ((apos.endLine == pos.line)=true) ATr))(hs:(autoParam (starEach [e] 1e7=(false,eval e 1e7)::starEach [] 1e7) ATr))(L:(autoParam ((backTo pos (starEach [] 1e7)).any 3e2=false) ATr))(hK:1e2):BE p X (.Call (.Attribute ob "extend" apos) [e] [] pos) (sd gk fo fr):=⟨Dj hK PySem.F.slot_list_extend PySem.F.type_list_extend B2 I9 G.h n.h hbase W hline hs L⟩
end
end L2
namespace PySem.W
open PySem PySem.Spec PySem.Calls PyProof.Rows Builtin Builtin.ObjectAttr
section
variable{R:(Result->Shared->Prop)}{K:Frag}{x C:Addr}{cd:ClassData}{name:Str}{v:Value}
structure Uj(K:Frag)(C:Addr):Prop where
 sa:findIn K (.ref C) "__setattr__" = some (some (.builtin "object.__setattr__"))
 obj:mroIn K C (.type "object")=some true
 cls:∃cd,clsIn K C=some cd/\cd.hasDict=true/\∀self,refuseLoop self "__setattr__" cd.mro=pure ()
end
end PySem.W
namespace L2
open PySem PySem.Spec PyProof.Rows RS
structure UL(P:Program)(w:World)(K:W.Frag)(mg:5e1)(base:Heap)(p:Pa)(k:Nat)(x:Str)(n:Nat)(F:(List D->ax->aq D)):Prop where
 len:∀ds Y,ds.length≠n->F ds Y=.bad
 fn:∃f fd ps,mg x=some (.ref f)/\W.keepIn K (.ref f)=true/\jc K fd ps []/\RG P w K mg base A2 k f fd ps (Ka p n F)
noncomputable abbrev vK:D->D->ax->aq D:=Gv De λi j=>.int (i*2^j.toNat)
noncomputable abbrev GH:D->D->ax->aq D:=Gv (λ_ j=>0<=j) λi j=>.int (i / 2^j.toNat)
noncomputable abbrev Bb:D->D->ax->aq D:=dI λi j=>.int (Builtin.bitAnd i j)
noncomputable abbrev OK:D->D->ax->aq D:=dI λi j=>.int (Builtin.bitOr i j)
section
variable{X:Cx}{p:Pa}{a b:Expr}{fb:ME}
theorem PV(n:(BE p X a fa))(B:(BE p X b fb)):BE p X (.BinOp a .LShift b pos) (ay vK fa fb):=⟨iW M5 (vW λ_ _ _ _=>av.mpr rfl) n.h B.h⟩
theorem PU(n:(BE p X a fa))(B:(BE p X b fb)):BE p X (.BinOp a .RShift b pos) (ay GH fa fb):=⟨iW M4 (vW λ_ _ _ _=>av.mpr rfl) n.h B.h⟩
theorem Ll(n:(BE p X a fa))(B:(BE p X b fb)):BE p X (.BinOp a .BitAnd b pos) (ay Bb fa fb):=⟨iW Ni (KS λ_ _ _ _=>av.mpr rfl) n.h B.h⟩
theorem Qc(n:(BE p X a fa))(B:(BE p X b fb)):BE p X (.BinOp a .BitOr b pos) (ay OK fa fb):=⟨iW QU (KS λ_ _ _ _=>av.mpr rfl) n.h B.h⟩
end
end L2
namespace L2
open PySem PySem.W PyProof.Rows RS
section
variable{X:Cx}
noncomputable abbrev CM(ps:(List PyData))(i j:Nat):Bool:=match ps[i]?,ps[j]? with
 |some p,some q=>decide (cmpP .Lt p q=some true)
 |_,_=>false
def Km(K:W.Frag):List V->Hp->VK->Prop:=λS H Q=>∃(a:Addr)(y:List V)(P:(List PyData)),S=[.ref a]/\(dN K H a y\/ei K H a y)/\y≠[]/\P.length=y.length /\
 (∀(i:Nat) v p,y[i]?=some v->P[i]?=some p->oj K H p v/\fitP p=true)/\(∀p∈P,∀q∈P,(cmpP .Lt p q).isSome=true)/\∀v,y[argBest (CM P) (y.length-1)]?=some v->Q v H
theorem CB (x:Value):argsOk "min" ⟨[x],[]⟩:=by rfl
theorem Cp (Z:1e8) (hu:2e4):cv X (.builtin "min") (Km X.K):=by
 intro c s σ H xs us Q I r h;obtain⟨a,y,P,rfl,g,l,O,D,M,q⟩:=h;obtain⟨u,rfl,ru⟩:=e9 r;cases ru;have nm:(toString "min" ++ toString ".loop" : String) = "min.loop" := by decide
 have cmp:∀(S:1e5),bb y S->∀(i b:Nat) v V,S[i]?=some v->S[b]?=some V->∀h t,Kp s h->yp .Lt X.A.in1 {s with heap:=h,toks:=t} v V (CM P i b):=by
  intro S R i b v V T N h t B pr wo E' Q' hQ
  have m:i<y.length:=by
   have:=(VY.mp T).1;rw[R.length];exact this
  have W:b<y.length:=by
   have:=(VY.mp N).1;rw[R.length];exact this
  refine bz (R.get (Xx W)) λu0 E r0=>?_;refine bz (R.get (Xx m)) λu1 d C=>?_;rw[N]at E;cases E;rw[T]at d;cases d;have p1:P[i]?=some P[i]:=Xx 0e0;have p0:P[b]?=some P[b]:=Xx 0e0;obtain⟨h1,U⟩:=D i _ _ (Xx m) p1;obtain⟨h2,h4⟩:=D b _ _ (Xx W) p0;have G:aS X c σ H {s with heap:=h,toks:=t}:=I.kept B;obtain⟨as,k1⟩:=bX G P[i] _ _ h1 C;obtain⟨bs,k2⟩:=bX G P[b] _ _ h2 r0;have μ:=M _ (Yt (by lia:i<P.length)) _ (Yt (by lia:b<P.length))
  have h6:cmpP .Lt P[i] P[b]=some (CM P i b):=by
   unfold CM;rw[p1,p0];show _=some (decide (cmpP .Lt P[i] P[b]=some true));cases e:cmpP .Lt P[i] P[b] with
   |none=>rw[e]at μ;cases μ
   |some k=>cases k <;> rfl
  refine rc_reads rfl P[i] P[b] X.A.in1 _ _ _ as bs _ k1 k2 (fitP_lay U) (fitP_lay h4) ?_ h6 pr wo E' Q' hQ;unfold fitP at U
  lia
 have f:∀(S:1e5),bb y S->∀v h t,S[argBest (CM P) (S.length-1)]?=some v->Kp s h->EP X c σ Q v {s with heap:=h,toks:=t}:=by
  intro S R v h t e B;have hl:=R.length;rw[<- hl]at e
  have m:argBest (CM P) (y.length-1)<y.length:=by
   have:=(VY.mp e).1
   lia
  refine bz (R.get (Xx m)) λu1 d C=>?_;rw[e]at d;cases d;exact⟨_,H,I.kept B,C,q _ (Xx m)⟩
 refine Ei F.kind_min F.plain_min F.entry_min (CB _) ?_;refine Vd (Wn rfl ?_);refine Vd (Vg ?_);rcases g with g|g
 ·obtain ⟨S, R, L, hz⟩ := I.list g;have alt:a<s.heap.objs.size:=by refine bH L λo n e _=>?_;exact US e
  have W0:=Xr (prog:=X.prog) (w:=X.w) (A:=X.A.in1) (I.ok.hd Z) 0e2 a (UV alt) S.toArray;rw[Vr,pP]at W0;refine Vd (Xq L.isList ?_);refine Vd (Vh ?_);rw[nm];refine Vg ⟨Xn Yp _,yM (s0:=s) (J:=0e2) (lt:=CM P) W0 ?_ ?_ ?_ ?_ ?_ (λj=>cmp S R (j+1) _) (f S R) ?_ ?_ (UR _ rfl)⟩
  ·simp
  ·simp_all[Vl,Wf]
  ·simp[jz]
  ·simp[jz]
  ·intro z;subst z;exact l (Xw.mp R.length)
  ·exact λb ob e=>Vi _ (Vi _ e)
  ·exact⟨⟨_,Vi _ (UR _ rfl),rfl,rfl⟩,L.isList.at λo e=>Vi _ (Vi _ e)⟩
 ·refine bI (I.tuple g) λS R L hz => ?_;have alt:a<s.heap.objs.size:=by refine bz L λo e _=>?_;exact US e
  have x:s.heap.IsTuple a S.toArray:=L;have W0:=Walks.tuple (prog:=X.prog) (w:=X.w) (A:=X.A.in1) (I.ok.hd Z) 0e2 a (UV alt) S.toArray;rw[Vr,pP]at W0;refine Vd (Wx x ?_);refine Vd (Vh ?_);rw[nm];refine Vg ⟨Xn Yp _,yM (s0:=s) (A:=X.A) (its:=S) (J:=0e2) (lt:=CM P) W0 ?_ ?_ ?_ ?_ ?_ (λj=>cmp S R (j+1) _) (f S R) ?_ ?_ (UR _ rfl)⟩
  ·simp
  ·simp_all[Vl,Wf]
  ·simp[jz]
  ·simp[jz]
  ·intro z;subst z;exact l (Xw.mp R.length)
  ·exact λb ob e=>Vi _ (Vi _ e)
  ·exact⟨⟨_,Vi _ (UR _ rfl),rfl,rfl⟩,x.at λo e=>Vi _ (Vi _ e)⟩
noncomputable def GD(Y:ax)(d:D):Option (List D):=match d with
 |.tup S=>some S
 |.obj n=>match Y[n]? with
  |some (.lst S)=>some S
  |_=>none
 |_=>none
noncomputable def rz(Y:ax):List D->Option (List PyData)
 |[]=>some []
 |d::s=>match hW Y d,rz Y s with
  |some p,some P=>some (p::P)
  |_,_=>none
noncomputable def yI(ps:(List PyData)):Bool:=ps.all λp=>fitP p&&ps.all λq=>(cmpP .Lt p q).isSome
noncomputable def nW(s:List D)(Y:ax):aq D:=match s with
 |[d]=>match yg d Y with
  |some _=>rG s Y
  |none=>match GD Y d with
   |some S=>match rz Y S with
    |some P=>if yI P=true then (match S[argBest (CM P) (S.length-1)]? with
      |some x=>.ok x Y
      |none=>.bad) else .bad
    |none=>.bad
   |none=>.bad
 |s=>rG s Y
theorem wz{Y:ax}:∀{xs:List D}{ps:(List PyData)},rz Y xs=some ps->ps.length=4e3
 |[],ps,h=>by simp[rz]at h;subst h;rfl
 |d::s,ps,h=>by
  unfold rz at h;split at h
  ·rename_i p P e B;simp at h;subst h;simp[wz B]
  ·cases h
theorem wA{Y:ax}:∀{xs:List D}{ps:(List PyData)},rz Y xs=some ps->∀(i:Nat) d p,xs[i]?=some d->ps[i]?=some p->hW Y d=some p
 |[],ps,h,i,d,p,H,c=>by cases H
 |x::s,ps,h,i,d,p,H,c=>by
  unfold rz at h;split at h
  ·rename_i C P e B;simp at h;subst h;cases i with
   |zero=>cases H;cases c;exact e
   |succ i=>exact wA B i d p H c
  ·cases h
theorem IL{p:Pa}:sf p nW (λxs H Q=>Km p.K xs H Q\/(Dp p.K xs H Q\/∃i j,xs=[.int i,.int j]/\Q (.int (if j<i then j else i)) H)):=by
 intro D u H m w Q S r P;unfold nW at P;split at P
 ·rename_i d;split at P
  ·exact .inr (yA _ u H m w Q S r P)
  ·split at P
   ·rename_i xs h;split at P
    ·rename_i G o;split at P
     ·rename_i L;split at P
      ·rename_i x c;refine bz r.one λv I t=>?_;subst I
       have key:∃(a:Addr)(U:List V),v=.ref a/\(dN p.K H a U\/ei p.K H a U)/\p.Rs H m xs U:=by
        cases d with
        |tup T=>
         simp[GD]at h;subst h;refine aP (aJ.mp t) λa U J f g=>?_;subst J;exact⟨a,U,rfl,.inr f,g⟩
        |obj n=>
         simp[GD]at h;split at h
         ·rename_i T e;simp at h;subst h;refine aF (bZ S t e) λa U M Z f R=>?_;subst M;exact⟨a,U,rfl,.inl (dN.of f),R⟩
         ·cases h
        |non=>cases h
        |bl b=>cases h
        |int i=>cases h
        |str x=>cases h
        |frz xs=>cases h
       refine aP key λa U N E R=>?_;subst N;have l:=R.length;have A:=wz o;refine .inl ⟨a,U,G,rfl,E,?_,by lia,λi v q f g=>?_,λq B O C=>?_,λv s=>?_⟩
       ·intro z;rw[z]at l;rw[(Xw.mp l.symm)]at c;cases c
       ·refine bz (R.getV f) λy μ k => ?_;refine⟨iV S (wA o i y q μ g) k,?_⟩;have:=Xg.mp L q (VH g)
        lia
       ·have := Xg.mp L q B
        simp_all
       ·rw[l]at s;refine bz (R.getV s) λy μ k=>?_;rw[c]at μ;cases μ;exact P.now S _ k
      ·exact P.elim
     ·exact P.elim
    ·exact P.elim
   ·exact P.elim
 ·exact .inr (yA _ u H m w Q S r P)
theorem Ot {p:Pa} (U:2e4) (j:4e6) (hK:1e2):m3 X p "min" nW:=⟨_,_,.inl ⟨_,rfl⟩,by decide +kernel,(Cp j U).or ((tx j).or (tw j)),hK ▸ IL,by decide,by decide⟩
end
end L2
namespace RS
open PySem PySem.W PyProof.Rows
open L2 (cmpP cmpPs cmpI fitP fitP_lay fitP_depth rc_reads)
mutual
def j0:PyData->Bool
 |.int _=>true
 |.tuple xs=>tupOs xs
 |_=>false
def tupOs:List PyData->Bool
 |[]=>true
 |x::xs=>j0 x&&tupOs xs
end
section
mutual
theorem sG (hk:∀b u,b≠a->h.get? b=some u->h'.get? b=some u) (ha:∃o,h.get? a=some o/\o.cls=.type "list"):∀(d:PyData) {v:Value}{as:3e4},j0 d=true->Reads h v d as->∃bs,Reads h' v d bs
 |.int i,_,_,_,r=>by cases r;exact⟨_,.int _ _⟩
 |.tuple xs,_,_,hn,r=>by
  cases r with
  |tuple h1 h2 h3 h4=>
   obtain⟨bs,q⟩:=reads_buts hk ha xs hn h4;refine⟨bs,.tuple (hk _ _ (λe=>?_) h1) h2 h3 q⟩
   lia
 |.none,_,_,hn,_=>by simp[j0]at hn
 |.bool _,_,_,hn,_=>by simp[j0]at hn
 |.str _,_,_,hn,_=>by simp[j0]at hn
 |.list _,_,_,hn,_=>by simp[j0]at hn
 |.dict _,_,_,hn,_=>by simp[j0]at hn
theorem reads_buts (hk:∀b u,b≠a->h.get? b=some u->h'.get? b=some u) (ha:∃o,h.get? a=some o/\o.cls=.type "list"):∀(ds:(List PyData)) {vs:1e5}{as:3e4},tupOs ds=true->ReadsAll h vs ds as->∃bs,ReadsAll h' vs ds bs
 |[],_,_,_,r=>by cases r;exact⟨_,.nil⟩
 |d::ds,_,_,hn,r=>by
  simp[tupOs,Yl]at hn;cases r with
  |cons r rs=>
   obtain⟨bs,q⟩:=sG hk ha d hn.1 r;obtain⟨cs,q'⟩:=reads_buts hk ha ds hn.2 rs;exact⟨_,.cons q q'⟩
end
mutual
theorem qC(hk:(∀b u,h.get? b=some u->h'.get? b=some u)):∀(d:PyData){v:Value}{as:3e4},j0 d=true->Reads h v d as->∃bs,Reads h' v d bs
 |.int i,_,_,_,r=>by cases r;exact⟨_,.int _ _⟩
 |.tuple xs,_,_,hn,r=>by
  cases r with
  |tuple h1 h2 h3 h4=>
   obtain⟨bs,q⟩:=reads_keeps hk xs hn h4;exact⟨bs,.tuple (hk _ _ h1) h2 h3 q⟩
 |.none,_,_,hn,_=>by simp[j0]at hn
 |.bool _,_,_,hn,_=>by simp[j0]at hn
 |.str _,_,_,hn,_=>by simp[j0]at hn
 |.list _,_,_,hn,_=>by simp[j0]at hn
 |.dict _,_,_,hn,_=>by simp[j0]at hn
theorem reads_keeps(hk:(∀b u,h.get? b=some u->h'.get? b=some u)):∀(ds:(List PyData)){vs:1e5}{as:3e4},tupOs ds=true->ReadsAll h vs ds as->∃bs,ReadsAll h' vs ds bs
 |[],_,_,_,r=>by cases r;exact⟨_,.nil⟩
 |d::ds,_,_,hn,r=>by
  simp[tupOs,Yl]at hn;cases r with
  |cons r rs=>
   obtain⟨bs,q⟩:=qC hk d hn.1 r;obtain⟨cs,q'⟩:=reads_keeps hk ds hn.2 rs;exact⟨_,.cons q q'⟩
end
end
structure lj(dat:List Int->PyData)(key:List Int->Int)(Ok:List Int->Prop):Prop where
 tup:∀k,Ok k->∃x r,dat k=.tuple (.int x::r)
 lt:∀k k',Ok k->Ok k'->cmpP .Lt (dat k) (dat k')=some (decide (key k<key k'))
 inj:∀k k',Ok k->Ok k'->key k=key k'->k=k'
 fit:∀k,Ok k->fitP (dat k)=true
 nol:∀k,Ok k->j0 (dat k)=true
def ON(dat:List Int->PyData)(h:Heap)(k:List Int)(r:Addr):Prop:=∃S,Reads h (.ref r) (dat k) S
def iP(key:List Int->Int)(ps:List KP):Prop:=ps.Pairwise λp q=>key p.1<key q.1
section
variable{dat:List Int->PyData}{key:List Int->Int}{Ok:List Int->Prop}
theorem AB{Q:(Bool->Shared->Prop)}{fin:Bool}:∀(xs ys:(List PyData)){vs us:1e5}{as bs:3e4}(i:Nat){k:Bool},ReadsAll 2e7 vs xs as->ReadsAll 2e7 us ys bs->PyData.canLayAll0 xs=true->PyData.canLayAll0 ys=true ->
  A.units+min (PyData.depthAll xs) (PyData.depthAll ys)<cLine->(i=0->∀x r,xs=x::r->∃j,x=.int j)->(i=0->∀x r,ys=x::r->∃j,x=.int j)->fin=decide (xs.length<ys.length)->cmpPs .Lt xs ys=some k->Q k s->KatLex prog w A true fin Q (vs.zip us) i s
 |[],ys,vs,us,_,_,i,k,R,B,_,_,_,_,_,F,d,q=>by
  cases R;rw[List.zip_nil_left];simp[cmpPs,W8]at d;subst d F;refine kat_nil ?_
  have:decide (([]:List PyData).length<ys.length)=decide ((0:Int)<(ys.length:Int)):=by
   rw[Yu];simp
  rw[this];exact q
 |x::xs,[],vs,us,_,_,i,k,R,B,_,_,_,_,_,F,d,q=>by
  cases B;rw[List.zip_nil_right];simp[cmpPs,W8]at d;subst d F;refine kat_nil ?_;exact q
 |x::xs,y::ys,_,_,_,_,i,k,R,B,n,g,U,X,μ,F,d,q=>by
  have H:x.canLay0=true/\PyData.canLayAll0 xs=true:=by simpa[PyData.canLayAll0] using n
  have b:y.canLay0=true/\PyData.canLayAll0 ys=true:=by simpa[PyData.canLayAll0] using g
  cases R with
  |cons r S=>
   cases B with
   |cons c f=>
    have l:=SeqAt.eqAt_reads x y A s _ _ _ _ r c H.1 b.1 (Ya U);refine kat_cons (l prog w _ _ ?_);simp[cmpPs]at d;cases e:PyData.eqv x y with
    |true=>
     rw[Vs e]at d;refine kat_yes (AB xs ys (i+1) S f H.2 b.2 (SeqAt.room_tail U) (λz=>by lia) (λz=>by lia) ?_ d q);rw[F];simp
    |false=>
     rw[Vt 0e0]at d;cases i with
     |zero=>
      obtain⟨j,rfl⟩:=X rfl x xs rfl;obtain⟨J,rfl⟩:=μ rfl y ys rfl;cases r;cases c;simp[cmpP,W8]at d;subst d;exact kat_lt_int q
     |succ i=>
      exact kat_one _ _ (rc_reads rfl x y A s _ _ _ _ k r c H.1 b.1 (Ya U) d prog w _ _ q)
theorem Ol(G:lj dat key Ok){x y:Addr}{k':List Int}{Q:(Bool->Shared->Prop)}(U:A.units+61<cLine)(X:ON dat 2e7 k x)(o:ON dat 2e7 k' y)(d:Ok k)(H:Ok k')(h:Q (decide (key k<key k')) s):
  wpAny 0e9 A (keyLt' (tuples' true) (.ref x) (.ref y)) Q E s:=by
 obtain⟨S,R⟩:=X;obtain⟨bs,μ⟩:=o;have e:=G.lt k k' d H;have n:=G.fit k d;have O:=G.fit k' H;obtain⟨i,r,K⟩:=G.tup k d;obtain⟨j,q,b⟩:=G.tup k' H;rw[K]at R e n;rw[b]at μ e O;cases R with
 |tuple f p l m=>
  cases μ with
  |tuple g v C c=>
   refine kat_lt f l g C (AB _ _ 0 m c (by simpa[PyData.canLay0] using (fitP_lay n)) (by simpa[PyData.canLay0] using (fitP_lay O)) ?_ (λ_ x r e=>by cases e;exact⟨_,rfl⟩) (λ_ x r e=>by cases e;exact⟨_,rfl⟩) ?_ e h)
   ·have J := fitP_depth n;simp[PyData.depth]at J
    lia
   grind [PySem.SeqAt.ReadsAll.length,Array.length_toList]
theorem wu(G:lj dat key Ok){h:Heap}:∀{ps:List KP},(∀p∈ps,Ok p.1)->(∀p∈ps,ON dat h p.1 p.2)->∃fs,KatTups h (ba ps) fs/\fs.length=ps.length/\∀v∈fs,∃i t,v=Value.int i t
 |[],_,_=>⟨[],KatTups.nil,rfl,λv V=>by simp at V⟩
 |p::ps,d,J=>by
  refine bI (wu G (λq z=>d q (U1 _ z)) (λq z=>J q (U1 _ z))) λfs H f j=>?_;obtain⟨S,r⟩:=J p U0;refine CJ (G.tup _ (d p U0)) λx R e=>?_;rw[e]at r;generalize V:(Value.ref p.2)=v at r;cases r with
  | @tuple D o y n _ as₁ g b C c=>
   cases V;generalize L:y.toList=l at c;cases c with
   |cons q Q=>
    cases q with
    |int _ t=>
     refine⟨.int x t::fs,KatTups.cons g b C (by rw[<- Wa,L];rfl) H,by rw[Wd,Wd,f],λv V=>?_⟩;rcases U2.mp V with q|q
     ·exact⟨x,t,q⟩
     ·exact j v q
theorem IA{ps:List KP}{p:Array Nat}(g:eT ps.length p)(n:Gp (λi=>key (ps.getD i ([],0)).1) p ps.length) :
  ∃out:List KP,(p.toList.map λi=>(ba ps).getD i Value.none)=ba out/\out.Perm ps/\iP key out:=by
 refine⟨p.toList.map λi=>ps.getD i ([],0),?_,?_,?_⟩
 ·unfold ba;rw[WE];refine WG λi H=>?_;have b:=WN.mp (g.perm.mem_iff.mp H)
  simp_all
 ·refine (g.perm.map _).trans ?_
  have:(List.range ps.length).map (λi=>ps.getD i ([],0))=ps:=by
   apply Yv;intro i;rw[Wi];by_cases H:i<ps.length
   ·rw[X7 H];simp[H]
   ·rw[Yw (by simpa using H),Yw 0e0];rfl
  rw[this]
 ·unfold iP;refine WK.mpr λi j H Z J=>?_;have b:i<p.size:=by simpa using H
  have c:j<p.size:=by simpa using Z
  have:=n i j J (by rw[<- g.size];exact c)
  simp_all[at']
theorem EO(G:lj dat key Ok){ps:List KP}{P:PySem.Fin->Shared->Prop}(o:s.heap.get? a=some (seqObj "list" (ba ps).toArray n))(k:∀p∈ps,Ok p.1)(hn:(ps.map 3e2).Nodup)(d:ps.length<64)(hu:A.units+61<cLine)(hT:∀p∈ps,ON dat 2e7 p.1 p.2)(h:∀out:List KP,out.Perm ps->iP key out->P (.done (.ret .none)) {s with heap:=sortedHeap 2e7 a (ba ps) (ba out).toArray}):
  wpAny 0e9 A (Builtin.«list.sort» ⟨[.ref a],[]⟩) P E s:=by
 have l:(ba ps).length=ps.length:=by simp[ba]
 rw[list_sort_plain];have hal:=US o;refine Vd (listItems_at o rfl ?_);refine Vd (XF o rfl ?_ (by rw[Vr,l];exact UX (UY d) 1e0) (Wo _));obtain⟨m,J⟩:∃m,(s.heap.update a (Obj.mapSeq λ_=>#[])).get? a=some (seqObj "list" #[] m):=⟨_,XG o (λ_=>#[])⟩;refine Vd (seqEpoch_at J rfl ?_);refine Vd (wpAny_newTuple ?_);refine Vd (XH ?_);refine Ve ?_
 have H:(((s.heap.update a (Obj.mapSeq λ_=>#[])).push (seqObj "tuple" (ba ps).toArray 0)).push 3e6).get? a=some (seqObj "list" #[] m):=by
  grind [PySem.Heap.get?_push_ne,PyProof.Rows.size_push',Heap.size_update]
 show wpAny 0e9 A _ P E {s with heap:=((s.heap.update a (Obj.mapSeq λ_=>#[])).push (seqObj "tuple" (ba ps).toArray 0)).push 3e6};dsimp only;generalize hS:({s with heap:=((s.heap.update a (Obj.mapSeq λ_=>#[])).push (seqObj "tuple" (ba ps).toArray 0)).push 3e6}:Shared)=s1;have x:s1.heap=((s.heap.update a (Obj.mapSeq λ_=>#[])).push (seqObj "tuple" (ba ps).toArray 0)).push 3e6:=by rw[<- hS]
 have hT1:∀p∈ps,ON dat s1.heap p.1 p.2:=λp K=>by
  obtain⟨as,r⟩:=hT p K;refine sG (λb u hb e=>?_) ⟨_,o,rfl⟩ (dat p.1) (G.nol _ (k p K)) r
  grind [PySem.Heap.get?_push_of_some,PySem.Heap.get?_update_ne]
 rw[<- x]at H
 have N:∀out:List KP,out.Perm ps->iP key out->P (.done (.ret .none)) {s1 with heap:=s1.heap.update a (Obj.mapSeq λ_=>(ba out).toArray)}:=λout W c=>by
  have q:=h out W c;rw[<- hS];exact q
 have V:(ba ps).toArray.size=ps.length:=by grind
 by_cases c:(ba ps).toArray.size<2
 ·rw [Vs c, Vs c];refine Vd (Vg ?_);rw[StateT.run_pure];refine Vd (Vg ?_);dsimp only;refine Vd (seqEpoch_at H rfl ?_)
  have μ:(arrOf (SortSt.mk' general' ((ba ps).toArray.zip (ba ps).toArray) #[] 7 none)).map (·.2)=(ba ps).toArray:=by
   show (((ba ps).toArray.zip (ba ps).toArray)).map (·.2)=_;apply Array.toList_inj.mp;rw[Array.toList_map,Array.toList_zip];exact List.map_snd_zip (Vn _)
  rw[μ];refine Vd (XF H rfl ?_ (Wo _) 0e0);simp only[bne_self_eq_false];refine Vg (N ps (List.Perm.refl _) ?_);rw[V]at c
  match ps,c with
  |[],_=>exact List.Pairwise.nil
  |[_],_=>exact List.pairwise_singleton _ _
  |_::_::_,h=>grind
 ·rw [Vt c, Vt c];rw[V]at c;refine bI (wu G k hT1) λfs k1 k2 k3=>?_;refine Vd (kat_kind (T:=Value.type "int") k1 0e0 (λv hv=>?_) (by rfl) ?_)
  ·obtain⟨i,t,e⟩:=k3 v hv;rw[e];exact .now
  ·have D : (Value.type "int" != Value.type "tuple") = true := by decide
   rw[D]
   refine Vd (U9 (kat_run (Q:=λS f=>f=s1/\failedOf S=none/\∃out:List KP,out.Perm ps/\iP key out/\(arrOf S).map (·.2)=(ba out).toArray)
    (G:=λp f=>f=s1/\∃out:List KP,(p.toList.map λi=>(ba ps).getD i Value.none)=ba out/\out.Perm ps/\iP key out) rfl (by rw[l];lia) (by rw[l];lia) ?_ ?_) ?_ λ_ _ e=>e)
   ·rintro p S f K R F ⟨e, out, O, M, U⟩
    exact⟨e,F,out,M,U,by rw[kat_snds rfl R,O]⟩
   ·rw [l];refine Hy (λi j I Z e=>?_) (λi j I Z C hC=>?_) 0e0 _ (λp g ha=>⟨rfl,IA g ha⟩)
    ·have y : ps.getD i ([], 0) = ps[i] := by simp [Yj, I]
     have z:ps.getD j ([],0)=ps[j]:=by simp[Yj,Z]
     simp only[y,z]at e;have X:=G.inj _ _ (k _ (Yt I)) (k _ (Yt Z)) e;have L:i<(ps.map 3e2).length:=by rw[Wb];exact I
     have B:j<(ps.map 3e2).length:=by rw[Wb];exact Z
     exact(U6 (h₀:=L) (h₁:=B) hn).mp (by simpa using X)
    grind [kas_ask,ba,Ol]
   ·rintro ⟨⟨⟩, S⟩ f ⟨rfl, F, out, O, M, U⟩
    dsimp only;refine Vd (seqEpoch_at H rfl ?_);rw[U];refine Vd (XF H rfl ?_ (Wo _) (by show (ba out).toArray.size<=_;rw[Vr];unfold ba;rw[Wb,O.length_eq];exact UX (UY d) 1e0));rw[F];simp only[bne_self_eq_false,Wl,VO];exact Vg (N out O M)
theorem qy(G:lj dat key Ok){x:Value}{ps:List KP}(k:∀p∈ps,Ok p.1)(i:(ps.map 3e2).Nodup)(h64:ps.length<64)(U:A.units+64<cLine)(hT:∀p∈ps,ON dat 2e7 p.1 p.2)(l:∀Q':List Value->Shared->Prop,(∀qs:List KP,qs.Perm ps->∀h',(∀b u,s.heap.get? b=some u->h'.get? b=some u)->s.heap.objs.size<=h'.objs.size->Q' (ba qs) {s with heap:=h'})->wpAny 0e9 A.in1 (collect x) Q' E s)(h:∀out:List KP,out.Perm ps->iP key out->∀h' D,s.heap.objs.size<=D->(∀b u,s.heap.get? b=some u->h'.get? b=some u)->(∃n,h'.get? D=some (seqObj "list" (ba out).toArray n))->Q (.ref D) {s with heap:=h'}):
  wpAny 0e9 A (call (.builtin "sorted") [x]) Q E s:=by
 refine Yd kind_sorted plain_sorted entry_sorted (args_sorted1 _) ?_;refine Vd (Vg ?_);refine Vd (l _ λqs c H K Z=>?_);have N:qs.length<64:=by rw[c.length_eq];exact h64
 refine Vd (XH ?_ (UX (show (ba qs).length<=63 by grind [ba]) 1e0));have hoL:(H.push (seqObj "list" (ba qs).toArray 0)).get? H.objs.size=some (seqObj "list" (ba qs).toArray 0):=UR _ rfl;have W:∀b u,H.get? b=some u->b≠H.objs.size:=λb u q=>UV (US q);refine Vd (Ve (VU slot_list_sort ⟨_,hoL,rfl⟩ Ye ?body (args_list_sort _)))
 case body=>
  refine EO G hoL (λp d=>k p (c.mem_iff.mp d)) ((c.map _).nodup_iff.mpr i) N (by simp;lia) (λp d=>?_) λout f g=>?_
  ·obtain⟨S,r⟩:=hT p (c.mem_iff.mp d);exact qC (λb u e=>Vi _ (K _ _ e)) (dat p.1) (G.nol _ (k p (c.mem_iff.mp d))) r
  ·refine ⟨_, rfl, Vg ⟨_, rfl, h out (f.trans c) g _ H.objs.size Z (λb u q => ?_) ?_⟩⟩
   ·grind [sortedHeap,PySem.Heap.get?_update_ne,PySem.Heap.get?_push_of_some]
   ·unfold sortedHeap;exact⟨_,XG (Vi 3e6 (Vi (seqObj "tuple" (ba qs).toArray 0) (XG hoL (λ_=>#[])))) (λ_=>(ba out).toArray)⟩
end
end RS
namespace RS
open PySem PySem.W PyProof.Rows
open L2 (isLt cmpP cmpPs cmpI fitP)
noncomputable def jt:Nat->List Int->Int
 |0,_=>0
 |_+1,[]=>0
 |n+1,x::r=>(x+1)*7^n+jt n r
noncomputable def rF(k:List Int):Int:=jt 6 k
def A0(k:List Int):Prop:=∀x∈k,0<=x/\x<6
def Sm(k:List Int):Prop:=k≠[]/\k.length<=6/\A0 k
theorem pL:∀(n:Nat)(k:List Int),A0 k->0<=jt n k/\jt n k<7^n
 |0,_,_=>by simp[jt]
 |n+1,[],_=>by
  have:(0:Int)<7^(n+1):=Int.pow_pos 1e0;simp[jt];lia
 |n+1,x::r,h=>by
  have i:=pL n r λy μ=>h y (U1 _ μ);have d:=h x U0;have a:0<=(x+1)*7^n:=Int.mul_nonneg 0e0 0e0;have b:(x+1)*7^n<=6*7^n:=Yx 0e0 0e0;simp[jt]
  lia
noncomputable def oW:List Int->List Int->Bool
 |[],[]=>false
 |[],_::_=>true
 |_::_,[]=>false
 |x::r,y::R=>if x=y then oW r R else decide (x<y)
theorem mD{x y:Int}{r r':List Int}(d:A0 (x::r))(μ:A0 (y::r'))(h:x<y):jt (n+1) (x::r)<jt (n+1) (y::r'):=by
 have a:=pL n r λz Z=>d z (U1 _ Z);have b:=pL n r' λz Z=>μ z (U1 _ Z);have c:(x+1+1)*7^n<=(y+1)*7^n:=Yx 0e0 0e0;simp[jt]
 lia
theorem md:∀{n:Nat}{k k':List Int},A0 k->A0 k'->k.length<=n->k'.length<=n->decide (jt n k<jt n k')=oW k k'
 |n,[],[],_,_,_,_=>by cases n <;> simp[oW]
 |0,_::_,_,_,_,h,_=>by simp at h
 |0,[],_::_,_,_,_,h=>by simp at h
 |n+1,[],y::R,_,μ,_,_=>by
  have b:=pL n R λz Z=>μ z (U1 _ Z);have:=μ y U0;have:0<(y+1)*7^n:=Int.mul_pos 0e0 (Int.pow_pos 1e0);exact Xu (by simp[jt];lia)
 |n+1,x::r,[],d,_,_,_=>by
  have b:=pL (n+1) (x::r) d;exact UQ (by simp[jt]at b⊢;lia)
 |n+1,x::r,y::R,d,μ,H,c=>by
  simp at H c;unfold oW;by_cases e:x=y
  ·subst e;rw[Vs rfl,<- md (n:=n) (λz Z=>d z (U1 _ Z)) (λz Z=>μ z (U1 _ Z)) 0e0 0e0,Yu];simp only[jt];constructor <;> intro h <;> lia
  ·rw [Vt e];by_cases l:x<y
   ·rw[Xu l,Xu (mD d μ l)]
   ·have:=mD (n:=n) μ d 0e0;rw[UQ l,UQ 0e0]
theorem qk:∀{n:Nat}{k k':List Int},A0 k->A0 k'->k.length<=n->k'.length<=n->jt n k=jt n k'->k=k'
 |_,[],[],_,_,_,_,_=>rfl
 |n,[],y::R,d,μ,H,c,e=>by
  have:=md d μ H c;rw[e]at this;simp[oW]at this
 |n,x::r,[],d,μ,H,c,e=>by
  have:=md μ d c H;rw[e]at this;simp[oW]at this
 |0,_::_,_::_,_,_,h,_,_=>by simp at h
 |n+1,x::r,y::R,d,μ,H,c,e=>by
  have X:x=y:=by
   by_cases l:x<y
   ·have:=mD (n:=n) d μ l;lia
   ·by_cases L : y < x
    ·have:=mD (n:=n) μ d L;lia
    ·lia
  subst X;simp at H c;simp[jt]at e;rw[qk (n:=n) (λz Z=>d z (U1 _ Z)) (λz Z=>μ z (U1 _ Z)) 0e0 0e0 0e0]
theorem F0{k':List Int}(h:Sm k)(H:Sm k')(e:rF k=rF k'):k=k':=qk h.2.2 H.2.2 h.2.1 H.2.1 e
noncomputable def t4(k:List Int):PyData:=.tuple (k.map .int)
theorem xB:∀k k':List Int,cmpPs .Lt (k.map .int) (k'.map .int)=some (oW k k')
 |[],[]=>rfl
 |[],y::r=>by
  simp[VW,VX,cmpPs,Wd,W8];exact Xu 0e0
 |x::r,[]=>by
  rfl
 |x::r,y::R=>by
  simp[VX,cmpPs,PyData.eqv,oW,cmpP,cmpI];by_cases e:x=y
  ·subst e;simp[xB r R]
  ·simp[e]
theorem qh:∀k:List Int,PyData.canLayAll0 (k.map .int)=true/\PyData.depthAll (k.map .int)<=1/\tupOs (k.map .int)=true
 |[]=>⟨rfl,by simp[PyData.depthAll],rfl⟩
 |x::r=>by
  refine jr (qh r) λH c d=>?_;refine⟨by simp[PyData.canLayAll0,PyData.canLay0,H],?_,by simp[tupOs,j0,d]⟩;simp[VX,PyData.depthAll,PyData.depth]
  lia
theorem ny:lj t4 rF Sm where
 tup:=λk h=>by
  cases k with
  |nil=>exact absurd rfl h.1
  |cons x r=>exact⟨x,r.map .int,rfl⟩
 lt:=λk K h H=>by
  unfold t4 rF;rw[md h.2.2 H.2.2 h.2.1 H.2.1];simp[cmpP,xB,isLt]
 inj:=λk K h H e=>F0 h H e
 fit:=λk h=>by
  obtain⟨a,c,_⟩:=qh k;unfold t4 fitP;simp[PyData.canLay0,PyData.depth]
  lia
 nol:=λk h=>by
  obtain⟨_,_,d⟩:=qh k;exact d
noncomputable def bY:List Int->List PyData
 |a::b::r=>.tuple [.int a,.int b]::bY r
 |_=>[]
noncomputable def oZ(m:Int)(k:List Int):PyData:=.tuple [.int m,.tuple (bY k)]
noncomputable def lh:List Int->Bool
 |[]=>true
 |_::_::r=>lh r
 |_=>false
def O2(k:List Int):Prop:=lh k=true/\k.length<=30/\A0 k
noncomputable def oY(k:List Int):Int:=jt 30 k
theorem AN:∀k k':List Int,lh k=true->lh k'=true->cmpPs .Lt (bY k) (bY k')=some (oW k k')/\(PyData.eqvAll (bY k) (bY k')=true->oW k k'=false)
 |[],[],_,_=>⟨rfl,λ_=>rfl⟩
 |[],y::z::r,_,_=>by
  refine⟨?_,λe=>by simp[bY,PyData.eqvAll]at e⟩;simp[bY,cmpPs];exact Xu 0e0
 |x::z::r,[],_,_=>by
  refine⟨?_,λe=>by simp[bY,PyData.eqvAll]at e⟩;simp[bY,cmpPs,cmpI];exact UQ 0e0
 |[],[_],_,h=>by simp[lh]at h
 |[_],_,h,_=>by simp[lh]at h
 |_::_::_,[_],_,h=>by simp[lh]at h
 |a::b::r,c::d::R,h,H=>by
  obtain⟨i,I⟩:=AN r R (by simpa[lh] using h) (by simpa[lh] using H);simp[bY,cmpPs,cmpP,PyData.eqv,PyData.eqvAll,oW,cmpI,isLt]
  lia
theorem uE:∀k:List Int,PyData.canLayAll0 (bY k)=true/\PyData.depthAll (bY k)<=3/\tupOs (bY k)=true
 |[]=>⟨rfl,by simp[bY,PyData.depthAll],rfl⟩
 |[_]=>⟨rfl,by simp[bY,PyData.depthAll],rfl⟩
 |a::b::r=>by
  refine jr (uE r) λH c d=>?_;refine⟨by simp[bY,PyData.canLayAll0,PyData.canLay0,H],?_,by simp[bY,tupOs,j0,d]⟩;simp[bY,PyData.depthAll,PyData.depth]
  lia
theorem nv(m:Int):lj (oZ m) oY O2 where
 tup:=λk h=>⟨m,_,rfl⟩
 lt:=λk K h H=>by
  unfold oY;rw[md h.2.2 H.2.2 h.2.1 H.2.1];obtain⟨c1,c⟩:=AN k K h.1 H.1
  have q:cmpP .Lt (oZ m k) (oZ m K)=if PyData.eqv (.tuple (bY k)) (.tuple (bY K))=true then some false else cmpPs .Lt (bY k) (bY K):=by
   unfold oZ;simp[cmpP,cmpPs,isLt];rw[Vs (by simp[PyData.eqv])];rfl
  simp_all[PyData.eqv]
 inj:=λk K h H e=>qk h.2.2 H.2.2 h.2.1 H.2.1 e
 fit:=λk h=>by
  obtain⟨a,b,_⟩:=uE k;simp only[oZ,fitP,PyData.canLay0,PyData.canLayAll0,a,PyData.depth,PyData.depthAll];exact Xu 0e0
 nol:=λk h=>by
  simp[uE,oZ,j0,tupOs]
end RS
namespace L2
open PySem PySem.Spec PyProof.Rows RS
section
variable{X:Cx}{dat:List Int->PyData}{key:List Int->Int}{Ok:List Int->Prop}
def uf(K:W.Frag)(dat:List Int->PyData)(key:List Int->Int)(Ok:List Int->Prop):List V->Hp->VK->Prop:=λS H Q=>∃(a:Addr)(P:List KP),S=[.ref a]/\dN K H a (gK P)/\(∀p∈P,Ok p.1/\oj K H (dat p.1) (.ref p.2))/\(P.map 3e2).Nodup/\P.length<64 /\
 ∀out:List KP,out.Perm P->iP key out->∀l,H l=none->Q (.ref l) (cq H l (.lst (gK out)))
theorem qJ (G:lj dat key Ok) (U:2e4):cv X (.builtin "sorted") (uf X.K dat key Ok):=by
 intro P s y H w t Q I r h;obtain⟨a,S,V,c,hT,f,h64,q⟩:=h;subst V;obtain⟨u,rfl,g⟩:=e9 r;cases g;refine bI (I.list c) λi v j Z=>?_;refine aF j λo n E B _ N=>?_;have x:=nq v;subst x;refine qy G (λp d=>(hT p d).1) f h64 U (λp d=>bX I _ _ _ (hT p d).2 rfl) (λl z=>n3 (.inl rfl) E B N (z S (List.Perm.refl _) _ (λb u e=>?_) ?_) (show (ba S).length<=sizeLine by unfold ba;rw[Wb];exact UX (UY h64) 1e0)) λout d R m D hD k W=>?_
 ·rw[Yf _ _ _ _ (UV (US e))];exact Vi _ e
 ·simp
 ·refine⟨.ref D,cq H D (.lst (gK out)),I.laid (λb O e=>k b O e) hD ?_,rfl,q out d R _ (I.hok.fresh hD)⟩;obtain⟨n,e⟩:=W;refine⟨?_,ba out,n,ki out,e⟩;unfold gK;rw[Wb,d.length_eq];exact UX (UY h64) 1e0
theorem pY:(∀k∈prs,(fitP (t4 k)=true/\j0 (t4 k)=true)/\∀k'∈prs,cmpP .Lt (t4 k) (t4 k')=some (decide (nP k<nP k'))):=by
 decide +kernel
theorem Bw:lj t4 nP (·∈prs) where
 tup:=λk h=>by
  obtain⟨a,b,rfl,_⟩:=eU h;exact⟨_,_,rfl⟩
 lt:=λk K h H=>(pY k h).2 K H
 inj:=λk K h H e=>JP h H e
 fit:=λk h=>(pY k h).1.1
 nol:=λk h=>(pY k h).1.2
theorem HX(k:List Int):RdPs K H (k.map .int) (k.map V.int):=by
 induction k with
 |nil=>simp[RdPs]
 |cons x r i=>exact⟨_,_,rfl,rfl,i⟩
theorem zA (j:1e8) (U:2e4):cv X (.builtin "sorted") (yy X.K X.w):=by
 intro S s B H y x Q I r h;obtain⟨a,f,rfl,c,hT,q⟩:=h;obtain⟨u,rfl,g⟩:=e9 r;cases g;obtain⟨hS,_⟩:=(show iH X.prog X.w H 2e7 a (.ext λh=>cA X.w h a f) from I.hok a _ c);obtain⟨o,m,E,t,Z,l,d,N⟩:=id hS;have i:=uO d N;refine qy Bw d N 0e0 U (λp P=>bX I _ _ _ ⟨_,_,rfl,hT p P,HX _⟩ rfl) (λk z=>xZ (by simpa using I.ok.hd j) hS z) λout P R v D hD d N=>?_;refine⟨.ref D,cq H D (.lst (gK out)),I.laid (t':=s.toks) (λb O e=>d b O e) hD ?_,rfl,q out P R _ (I.hok.fresh hD)⟩;obtain⟨n,e⟩:=N;refine⟨?_,ba out,n,ki out,e⟩;unfold gK;rw[Wb,P.length_eq];exact UX i 1e0
noncomputable def l4(key:List Int->Int)(ks:0e1):List 4e2:=ks.mergeSort λa b=>decide (key a<=key b)
theorem fT:(l4 key ks).Perm ks:=Yh ks _
theorem pS:(l4 key ks).Pairwise λa b=>key a<=key b:=by
 have:=List.pairwise_mergeSort (le:=λ(a b:List Int)=>decide (key a<=key b)) (λa b c H d=>by simp at *;lia) (λa b=>by simp;lia) ks;exact this.imp λh=>by simpa using h
theorem wK(G:lj dat key Ok)(hs:∀k∈ks,Ok k)(d:ks'.Perm ks)(R:ks'.Pairwise λa b=>key a<=key b):ks'=l4 key ks:=
 (d.trans fT.symm).eq_of_pairwise (λa b n B H c=>G.inj a b (hs a (d.mem_iff.mp n)) (hs b (fT.mem_iff.mp B)) (Yi H c)) R pS
theorem qN{K:W.Frag}{H:Hp}{α:3e4}{mk:List Int->D}(m:∀k,∃xs,mk k=.tup xs):∀{ks:0e1}{vs:List V},Reps K H α (ks.map mk) vs->∃qs:List KP,qs.map 3e2=ks/\vs=gK qs/\∀q∈qs,aN K H α (mk q.1) (.ref q.2)
 |[],vs,h=>by simp at h;exact⟨[],rfl,h,λp d=>by simp at d⟩
 |k::ks,vs,h=>by
  refine aP h λv r g c f=>?_;subst g;obtain⟨xs,e⟩:=m k;have b:=c;rw[e]at b;refine aP (aJ.mp b) λa U i j l=>?_;subst i;refine bI (qN m f) λqs E B N=>?_;refine⟨(k,a)::qs,by rw[VX,E],by rw[B];rfl,λp d=>?_⟩;rcases U2.mp d with z|z
  ·subst z;exact c
  ·exact N p z
theorem mM{K:W.Frag}{H:Hp}{α:3e4}{mk:List Int->D}:∀{qs:List KP},(∀q∈qs,aN K H α (mk q.1) (.ref q.2))->Reps K H α ((qs.map 3e2).map mk) (gK qs)
 |[],_=>Reps.nil
 |q::qs,h=>Reps.cons (h q U0) (mM λp d=>h p (U1 _ d))
theorem D7{p:Pa}{mk:List Int->D}{Q:VK}(G:lj dat key Ok)(m:∀k,∃xs,mk k=.tup xs)(e:∀k,Ok k->rm Y (mk k)=some (dat k))(L:∀k∈ks,Ok k)(S:(p.S H α Y))(x:Y[n]?=some (.lst (ks.map mk)))(r:p.Rs H α [.obj n] vs)(f:ks.Nodup)(i:ks.length<64)(P:aI p H α (.ok 0e8 (Y++[.lst ((l4 key ks).map mk)])) (RV p Q)):uf p.K dat key Ok vs H Q:=by
 obtain⟨v,rfl,g⟩:=r.one;refine aF (bZ S g x) λa U o A c j=>?_;subst o;refine bI (qN m j) λs d B N=>?_;subst B;have ok:∀q∈s,Ok q.1:=λq z=>L _ (by rw[<- d];exact Xf z);refine⟨a,s,rfl,dN.of c,λq z=>⟨ok q z,fN (e _ (ok q z)) (N q z)⟩,by rw[d];exact f,by rw[<- Wb,d];exact i,λout b R l i=>?_⟩;have O:=mM λq z=>N q (b.mem_iff.mp z);rw[wK G L (by rw[<- d];exact b.map _) (Yg.mpr (R.imp λh=>Int.le_of_lt h))]at O;refine jr (cY S i O) λt u w=>?_;exact P _ _ t u _ w
end
noncomputable def RZ(ns:List Int):Bool:=!ns.isEmpty&&(decide (ns.length<=6)&&ns.all λx=>decide (0<=x)&&decide (x<6))
theorem Ai:RZ ns=true↔Sm ns:=by
 simp[RZ,Sm,A0]
noncomputable def vS:D->Option 4e2
 |.tup S=>match gM S with
  |some j=>if RZ j=true then some j else none
  |none=>none
 |_=>none
noncomputable def l0:List D->Option 0e1
 |[]=>some []
 |x::S=>match vS x with
  |some k=>match l0 S with
   |some s=>some (k::s)
   |none=>none
  |none=>none
theorem EA{x:D}(h:vS x=some k):x=aj k/\Sm k:=by
 unfold vS at h;split at h
 ·split at h
  ·rename_i s j e;split at h
   ·rename_i S;cases h;exact⟨by rw[dB e];rfl,Ai.mp S⟩
   ·cases h
  ·cases h
 ·cases h
theorem wx:∀{xs:List D}{ks:0e1},l0 xs=some ks->xs=ks.map aj/\∀k∈ks,Sm k
 |[],ks,h=>by cases h;exact⟨rfl,by simp⟩
 |x::xs,ks,h=>by
  unfold l0 at h;cases e:vS x with
  |none=>rw[e]at h;cases h
  |some k=>
   rw[e]at h;cases B:l0 xs with
   |none=>rw[B]at h;cases h
   |some r=>
    rw[B]at h;cases h;obtain⟨a,b⟩:=EA e;obtain⟨c,d⟩:=wx B;exact⟨by rw[a,c];rfl,λz Z=>(U2.mp Z).elim (λy=>by rw[y];exact b) (d z)⟩
noncomputable abbrev nT(ks:0e1):List 4e2:=l4 rF ks
theorem qz:(nT ks).Perm ks:=fT
theorem ES:(nT ks).Pairwise λa b=>rF a<=rF b:=pS
theorem ER(hs:∀k∈ks,Sm k)(d:ks'.Perm ks)(R:ks'.Pairwise λa b=>rF a<=rF b):ks'=nT ks:=wK ny hs d R
theorem kg{Y:ax}:∀k:List Int,toPs Y (k.map D.int)=some (k.map .int):=by
 intro x;cases x <;> simp_all[toPs,rm,kg]
noncomputable def yi:List Int->List D
 |a::b::r=>.tup [.int a,.int b]::yi r
 |_=>[]
noncomputable def J7(m:Int)(k:List Int):D:=.tup [.int m,.tup (yi k)]
theorem Aq{Y:ax}:∀k:List Int,toPs Y (yi k)=some (bY k)
 |[]=>rfl
 |[_]=>rfl
 |a::b::r=>by simp[yi,bY,toPs,rm,Aq r,Option.bind_some,W7]
theorem Le{m:Int}:rm Y (J7 m k)=some (oZ m k):=by
 simp[J7,oZ,rm,toPs,Aq]
noncomputable def nV:List D->Option 4e2
 |[]=>some []
 |.tup [.int a,.int b]::r=>if 0<=a/\a<6/\0<=b/\b<6 then (nV r).map λl=>a::b::l else none
 |_=>none
noncomputable def C0(m:Int):D->Option 4e2
 |.tup [.int y,.tup S]=>if y=m then (match nV S with
  |some k=>if k.length<=30 then some k else none
  |none=>none) else none
 |_=>none
noncomputable def sg(m:Int):List D->Option 0e1
 |[]=>some []
 |x::S=>match C0 m x with
  |some k=>match sg m S with
   |some s=>some (k::s)
   |none=>none
  |none=>none
theorem JC:∀{ts:List D}{k:List Int},nV ts=some k->ts=yi k/\lh k=true/\A0 k:=by
 intro ts
 induction ts with
 |nil=>intro k h;cases h;exact⟨rfl,rfl,by intro x H;cases H⟩
 |cons x r i=>
  intro k h;unfold nV at h;split at h
  ·rename_i d;cases d
  ·rename_i a b R d;cases d;split at h
   ·rename_i j;cases e:nV r with
    |none=>rw[e]at h;cases h
    |some l=>
     rw[e]at h;cases h;refine jr (i e) λc f g=>?_;refine⟨by rw[c];rfl,f,λx H=>?_⟩;rcases U2.mp H with z|z
     ·simp_all
     ·rcases U2.mp z with z | z
      ·simp_all
      ·exact g x z
   ·cases h
  ·cases h
theorem zY{m:Int}{x:D}(h:C0 m x=some k):x=J7 m k/\O2 k:=by
 unfold C0 at h;split at h
 ·split at h
  ·rename_i M;subst M;split at h
   ·rename_i a K;split at h
    ·rename_i i;cases h;refine jr (JC K) λH c d=>?_;exact⟨by rw[H];rfl,c,i,d⟩
    ·cases h
   ·cases h
  ·cases h
 ·cases h
theorem Ex{m:Int}:∀{xs:List D}{ks:0e1},sg m xs=some ks->xs=ks.map (J7 m)/\∀k∈ks,O2 k:=by
 intro xs
 induction xs with
 |nil=>intro ks h;cases h;exact⟨rfl,by simp⟩
 |cons x xs i=>
  grind [sg,zY]
noncomputable def zN:List D->Int
 |.tup (.int m::_)::_=>m
 |_=>0
noncomputable def bL(s:List D)(Y:ax):aq D:=match s with
 |[.obj n]=>match Y[n]? with
  |some (.lst S)=>match l0 S with
   |some k=>if k.Nodup/\k.length<64 then .ok 0e8 (Y++[.lst ((nT k).map aj)]) else .bad
   |none=>match sg (zN S) S with
    |some k=>if k.Nodup/\k.length<64 then .ok 0e8 (Y++[.lst ((l4 oY k).map (J7 (zN S)))]) else .bad
    |none=>iM [.obj n] Y
  |_=>iM [.obj n] Y
 |s=>iM s Y
theorem zh{p:Pa}:sf p bL (λxs H Q=>(uf p.K t4 rF Sm xs H Q\/∃m,uf p.K (oZ m) oY O2 xs H Q)\/((yz p.K xs H Q\/yy p.K p.w xs H Q)\/yw p.w xs H Q)):=by
 intro b y H c a Q S r P;unfold bL at P;split at P
 ·rename_i n;split at P
  ·rename_i xs d;split at P
   ·rename_i s h;split at P
    ·rename_i j;obtain⟨f,O⟩:=wx h;rw[f]at d;exact .inl (.inl (D7 ny (λk=>⟨_,rfl⟩) (λk _=>by show rm a (.tup (k.map D.int))=_;simp[rm,kg];rfl) O S d r j.1 j.2 P))
    ·exact P.elim
   ·split at P
    ·rename_i s h;split at P
     ·rename_i j;obtain⟨f,O⟩:=Ex h;generalize zN xs=m at P f;rw[f]at d;exact .inl (.inr ⟨m,D7 (nv m) (λk=>⟨_,rfl⟩) (λk _=>Le) O S d r j.1 j.2 P⟩)
     ·exact P.elim
    ·exact .inr (nz _ _ _ _ _ _ S r P)
  ·exact .inr (nz _ _ _ _ _ _ S r P)
 ·exact .inr (nz _ _ _ _ _ _ S r P)
theorem cv.ex{X:Cx}{f:Value}{r:Int->List V->Hp->VK->Prop}(h:∀m,cv X f (r m)):cv X f (λxs H Q=>∃m,r m xs H Q):=λp s a H xs U Q I R ⟨m,q⟩=>h m p s a H xs U Q I R q
theorem CA {X:Cx}{p:Pa} (U:2e4) (j:4e6) (hK:1e2) (W:(autoParam (X.w=p.w) ATr)):m3 X p "sorted" bL:=⟨_,_,.inl ⟨_,rfl⟩,by decide +kernel,((qJ ny U).or (cv.ex λm=>qJ (nv m) U)).or ((zB.or (zA j U)).or (zz j)),by rw[hK,W];exact zh,by decide,by decide⟩
def UC:V->List V->Hp->VK->Prop:=λx y H Q=>∃i:Int,x=.int i/\y=[]/\Q (.int ((Builtin.Int.intBits i:Nat):Int)) H
theorem QZ {X:Cx}:KO X "int.bit_length" UC:=by
 intro P s a H x y v U Q I r R h;obtain⟨i,rfl,rfl,hQ⟩:=h;obtain⟨t,rfl⟩:=r;cases R;exact V5 F.slot_int_bit_length (typeIs_int s i t) F.entry_int_bit_length (F.args_int_bit_length_1 _) (AutoIntG2.int_bit_length_int_0 i t).meets ⟨.int ((Builtin.Int.intBits i:Nat):Int),H,I.tok _,⟨s.toks,rfl⟩,hQ⟩
noncomputable def Kd(d:D)(Y:ax):aq D:=match d with
 |.int i=>.ok (.int ((Builtin.Int.intBits i:Nat):Int)) Y
 |_=>.bad
section
variable{X:Cx}{p:Pa}{fo:ME}
theorem SW (G:BE p X ob fo) (hbase:autoParam (attributeBase ob "bit_length" X.env (eval ob 1e7)=eval ob 1e7) ATr) (hline:(autoParam ((apos.endLine == pos.line)=true) ATr)) (hK:1e2):BE p X (.Call (.Attribute ob "bit_length" apos) [] [] pos) (oR Kd fo):=.mk (by
 refine(MU PySem.F.plainAttrs_int PySem.F.slot_int_bit_length PySem.F.type_int_bit_length QZ G.h hbase hline).weak λl H Q ⟨c,j,f,S,R,P⟩=>⟨c,j,f,S,R,(aI.bind P).imp λd g k e m b a v r=>?_⟩;cases d with
 |int i=>
  obtain rfl:=av.mp r;exact⟨rfl,i,rfl,rfl,aI.now a b _ (av.mpr rfl)⟩
 |_=>exact a.elim)
end
noncomputable abbrev dO(a:Addr)(xs:XD)(z:Nat):HO:=.ext λh=>DctAt h a xs z
noncomputable def SG(a:Addr)(n z:Nat):It:=
 ⟨λi H=>(∃S,H a=some (dO a S z)/\S.length=n)/\i<n,λi H x b=>b=H/\∀S,H a=some (dO a S z)->∃e,S[i]?=some e/\x=.ref e.2.1,λi H=>(∃S,H a=some (dO a S z)/\S.length=n)/\n<=i⟩
theorem JR{xs ys:XD}{e:List Int×Addr×Value}(x:DctAt h a xs ep)(y:DctAt h a ys ep)(n:xs[i]?=some e):∃e',ys[i]?=some e'/\e'.2.1=e.2.1:=by
 refine gf x λo S H _ d b _=>?_;refine gf y λO j G _ C c _=>?_;rw[H]at G;cases G;rw[d]at C;injection C with C _
 subst C;rw[b]at c;have q:=VA (λl=>l[i]?) c;simp[Wi,n]at q;cases μ:ys[i]? with
 |none=>rw[μ]at q;cases q
 |some e'=>
  simp_all[KZ]
theorem Ez(a it:Addr)(n z:Nat):vP P w K tg (SG a n z) [it] it (λi h=>h.IsKeyIter it a i n z) where
 mem:=by simp
 obj:=λi h t b B=>by
  refine bI t λo e c d=>?_
  grind
 keep:=λi h l t k=>t.at λo e=>k it 1e1 o e
 item:=by
  intro X hP Q hK C i p s v H E I F t U;obtain⟨⟨u,x,L⟩,m⟩:=U;subst L;obtain⟨hD,_,_⟩:=(I.hok a _ x);refine ig (F it 1e1) λj g O q y G=>?_;have f:=Xx m;refine FB t hD f λl S T=>?_;have A:aS X p v H {s with heap:=l}:=I.turned (λb o B e=>(T.2 b B).trans e) j g q y G;refine bI (id S) λo e c d=>?_;refine⟨_,rfl,zP e c d 1e0 ⟨.ref u[i].2.1,H,A,rfl,⟨rfl,λZ μ=>?_⟩,S,λb B=>(F b B).1⟩⟩;refine jr (I.hok a _ μ) λhY _ _=>?_;refine bz (JR hD hY f) λJ M N=>?_;exact⟨J,M,by rw[N]⟩
 done:=by
  intro X hP Q hK C i p s v H E I F t U;obtain⟨⟨u,x,L⟩,m⟩:=U;subst L;obtain⟨hD,_,_⟩:=(I.hok a _ x);refine ig (F it 1e1) λj g O q y G=>?_;exact JO (I.ok.hd C) t hD m λl D=>⟨rfl,I.turned (λb o B e=>D b o B e) j g q y G⟩
 self:=λ_ _ _ _ _ t h=>wpAny_pyIter_keyiter t h
noncomputable def TH(t:TE):TI:=λc H R=>t c H λx b=>∃a S z,x=.ref a/\(a == sysModules)=false/\b a=some (dO a S z)/\R (SG a S.length z) b
theorem MF{X:Cx}{l:Expr}{tl:TE}(i:PE X l tl):PI X tg l (TH tl):=by
 intro p s f H R I h;refine dt (i p s f H _ I h) λv S ⟨x,c,d,r,Q⟩=>?_;refine eC Q λa g z e D hH q=>?_;subst e;cases r;refine jr (d.hok a _ hH) λhD _ _=>?_;refine FL D hD ?_;refine⟨S.heap.objs.size,[S.heap.objs.size],_,_,c,rfl,d.kept λb o e=>Vi _ e,Ez a _ _ _,⟨_,UR _ rfl,rfl,rfl⟩,λb B=>?_,q⟩;have e:b=S.heap.objs.size:=by simpa using B
 subst e;exact d.fpOk (Vn _) (d.hok.fresh (Vn _))
section
variable{X:Cx}{p:Pa}{xs:XD}
theorem yF(I:0e6)(e:H a=some (dO a xs ep)):DctAt 2e7 a xs ep:=by
 refine jr (I.hok a _ e) λh _ _=>?_;exact h
theorem AM(d:DctAt h a xs ep):∃o,h.get? a=some o:=let ⟨o,_,e,_⟩:=d;⟨o,e⟩
def Qp:TE:=λσ H Q=>∀q,H q=none->(q == sysModules)=false->Q (.ref q) (cq H q (dO q [] 0))
theorem Iq:PE X (.Dict [] [] pos) Qp:=λpins s σ H Q I h=>by
 refine wpAny_Dict_empty ⟨.ref 0e2,_,I.laid (λ_ _ q=>Vi _ q) (Vn _) ?_,rfl,h _ (I.hok.fresh (Vn _)) (Yy.mpr (U3 (UV (Nat.lt_trans 1e0 (I.mod.glob.keeps I.bk).lt))))⟩;exact⟨DctAt.new 2e7,⟨_,UR _ rfl⟩,λb c x k=>x.keeps k⟩
noncomputable def GJ:ME:=λ_ Y=>.ok 0e8 (Y++[.dct [] 0])
theorem PN:BE p X (.Dict [] [] pos) GJ:=⟨Iq.weak λσ H Q ⟨α,e,Y,S,R,P⟩ q z h=>by
 exact P _ _ ((bU z).trans (jg [q])) (S.more z ⟨h,[],cg,.nil,λx d=>by cases d⟩) _ (aL.mpr ⟨q,rfl,by rw[<- S.len];simp⟩)⟩
noncomputable def Pg(K:W.Frag):R2:=λx y H Q=>∃a xs ep b k c r,x=.ref a/\y=.ref b/\H a=some (dO a xs ep)/\ei K H b (k.map V.int)/\(∀e∈xs,ei K H e.2.1 (e.1.map V.int))/\atKey xs k=some (c,Value.ref r)/\Q (.ref r) H
theorem NT(f:2e4):Gn X (Pg X.K):=by
 intro value slice pins s σ H x y v u Q I R μ h S;obtain⟨a,xs,ep,b,k,c,r,rfl,rfl,hH,B,d,U,q⟩:=h;cases R;cases μ;have hD:=yF I hH;exact VZ hD.typeIs F.slot_dict_getitem.lookup (wpAny_getItem_heap (tupleKind_room_in1 0e0) (nR I B) (hD.all λe n=>nR I (d e n)) U ⟨rfl,.ref r,H,I.tok _,rfl,q⟩) S
noncomputable def Gw(d:(List (List Int×Nat)))(k:List Int):Option Nat:=(d.find? λx=>decide (x.1=k)).map (·.2)
theorem vD.at(r:vD α kvs xs):match Gw kvs k with
  |some m=>∃c b,atKey xs k=some (c,Value.ref b)/\α[m]?=some b
  |none=>atKey xs k=none:=by
 induction r with
 |nil=>rfl
 |cons h _ i=>
  rename_i q x l1 l2 _;refine oT h λd b f g=>?_;unfold Gw atKey at i⊢;rw[W2,W2,<- d];by_cases e:q.1=k
  ·simp[Xu e,W7];refine⟨x.2.1,b,?_,f⟩;rw[<- g]
  ·simp only[UQ e];exact i
noncomputable def t6(a b:D)(Y:ax):aq D:=match a,b with
 |.obj n,.tup K=>match Y[n]?,gM K with
  |some (.dct d _),some k=>match Gw d k with
   |some m=>.ok (.obj m) Y
   |none=>.bad
  |_,_=>.bad
 |_,_=>.bad
theorem Nu:rq p t6 (Pg p.K):=by
 intro a b v y H α Y Q S R l P;unfold t6 at P;split at P
 ·rename_i n u;split at P
  ·rename_i j ep k x i;obtain⟨D,rfl,A⟩:=aL.mp R;refine aP (aJ.mp l) λB w V h d=>?_;subst V;rw[dB i]at d;rw[d.ints]at h;obtain⟨o,e,q,xs,hH,r,t⟩:=S.at x;rw[A]at e;cases e;have g:=r.at (k:=k);split at P
   ·rename_i m M;rw[M]at g;refine bH g λc b G f=>?_;exact⟨D,xs,ep,B,k,c,b,rfl,rfl,hH,h,t,G,P.now S _ (aL.mpr ⟨b,rfl,f⟩)⟩
   ·exact P.elim
  ·exact P.elim
 ·exact P.elim
theorem P8{a b:Expr}{fb:ME}(U:2e4)(q:(BE p X a fa))(B:(BE p X b fb))(hs:oQ b:=by exact λ_ _=>rfl)(hK:1e2):BE p X (.Subscript a b pos) (ay t6 fa fb):=
 ⟨(Kt (NT U) q.h B.h hs).weak λσ H Q ⟨α, f, Y, S, R, P⟩ => ⟨α, f, Y, S, R, (aI.bind P).imp λx c t i n k g v V => ⟨i, f, c, k, R.mono n, (aI.bind g).imp λy e l d o m j u r => by
   rw[hK];exact Nu x y v u l d e Q m (V.mono o) r j⟩⟩⟩
def T9(K:W.Frag):V->List V->Hp->VK->Prop:=λx y H Q=>∃a xs ep k b z,x=.ref a/\y=[.ref b,.ref z]/\H a=some (dO a xs ep)/\(a == sysModules)=false/\ei K H b (k.map V.int)/\(∀e∈xs,ei K H e.2.1 (e.1.map V.int))/\xs.length<=1000 /\
 ((∃c r,atKey xs k=some (c,Value.ref r)/\Q (.ref r) H)\/(atKey xs k=none/\Q (.ref z) (cq H a (dO a (xs++[(k,b,Value.ref z)]) (ep+1)))))
theorem QY (J:2e4):KO X "dict.setdefault" (T9 X.K):=by
 intro pins s σ H x M v L Q I j V h;obtain⟨a,xs,ep,k,b,z,rfl,rfl,hH,S,B,f,l,h⟩:=h;cases j;refine aP (vR V) λu W w U R=>?_;subst w;cases U;cases R;refine vt 0e0 (nR I B) (yF I hH) (λe E=>nR I (f e E)) (UX l 1e0) S (λq d t=>?_) λn y t hD' m=>?_
 ·rcases h with ⟨c, r, g, i⟩ | ⟨g, _⟩
  ·rw[g]at d;cases d;exact⟨.ref r,H,I.tok _,rfl,i⟩
  lia
 ·rcases h with ⟨c, r, g, i⟩ | ⟨_, i⟩
  ·rw[g]at n;cases n
  ·exact⟨.ref z,_,I.write (o:=dO a (xs++[(k,b,Value.ref z)]) (ep+1)) (by rw[hH];trivial) (.inl rfl) (λb o B e=>(m.2 b B).trans e) (AM hD') ⟨hD',AM hD',λC G x k=>x.keeps k⟩,rfl,i⟩
def UA(r:(V->List V->Hp->VK->Prop))(d:TE)(t:TA):TE:=λσ H Q=>d σ H λx b=>(∃a xs ep,x=.ref a/\b a=some (dO a xs ep))/\t σ b λy l=>r x y l Q
theorem QR{o:Expr}{es:(List Expr)}{name:Str}{cpos:Pos}{id:String}{r:(V->List V->Hp->VK->Prop)}{td:TE}{t:TA}(slot:Slot "dict" name id)(y:(typeOf (.builtin id)=pure (.type "method_descriptor")))(m:KO X id r)(G:PE X o td)(A:PA X (e::es) t)(hbase:attributeBase o name 1e7 (eval o 1e7)=eval o 1e7)(W : ((backTo cpos (starEach (e :: es) 1e7)).all (λx => !x.1) && (backToKw cpos (keywordEach [] 1e7)).all (λx => x.1.isSome)
   && decide ((e::es).length+([]:List Keyword).length+(if ([]:List Keyword).isEmpty then 0 else 1)<30))=true)(hline:(apos.endLine == cpos.line)=true)(hs:starEach (e::es) 1e7=(false,eval e 1e7)::starEach es 1e7)(hplain:(backTo cpos (starEach es 1e7)).any 3e2=false):
  PE X (.Call (.Attribute o name apos) (e::es) [] cpos) (UA r td t):=by
 intro pins s σ H Q I h;refine wpAny_Call_method_late hbase W hline rfl (dt (G pins s σ H _ I h) λv S ⟨x,c,d,R,ty,q⟩=>?_);obtain⟨a,xs,ep,rfl,hH⟩:=ty;cases R;have hD:=yF d hH;refine⟨"dict",id,PySem.F.plainAttrs_dict,slot,y,hD.typeIs,λb f=>?_,?_⟩
 ·cases f;refine aP hD λO j E B _=>?_;exact⟨O,E,B.2.1⟩
 ·have hA:=A cpos pins S σ c _ d q;rw[hs]at hA⊢;exact V3 (by grind) (Calls.evalArgs_plain (dt hA λU N ⟨g,l,n,M,J⟩=>m pins N σ l (.ref a) g (.ref a) U Q n rfl M J))
theorem xu{q:Addr}{o:HO}(h:H q=some (.ext φ)):j3 p.K H (cq H q o) α α:=by
 refine⟨λa xs z=>?_,λa xs z=>?_,λ_ _ z=>z,λa fs z=>by rw[bo (jO z h (by intro y;cases y))];exact z⟩
 ·rcases z with (z | ⟨x, z⟩) | z
  ·exact .inl (.inl (by rw[bo (jO z h (by intro y;cases y))];exact z))
  ·exact .inl (.inr ⟨x,by rw[bo (jO z h (by intro y;cases y))];exact z⟩)
  ·exact .inr z
 ·rcases z with ⟨x, z⟩ | z
  ·exact .inl ⟨x,by rw[bo (jO z h (by intro y;cases y))];exact z⟩
  ·exact .inr z
theorem CI{o':O}{ho:HO}(S:(p.S H α Y))(h:Y[n]?=some o)(c:α[n]?=some a)(f:H a=some (.ext φ))(q:pq p.K p.w (cq H a ho) α o' a):p.S (cq H a ho) α (Y.set n o'):=by
 refine⟨by simp[S.len],S.nd,λm o b G v=>?_⟩;have N:=(VY.mp h).1;by_cases d:m=n
 ·simp_all
 ·rw[U8 (λz=>d z.symm)]at G;refine(S.ob m o b G v).mono (xu (p:=p) (α:=α) (o:=ho) f) (bo λz=>d ?_);subst z;obtain⟨l1,e⟩:=VY.mp v;obtain⟨l2,B⟩:=VY.mp c;exact(U6 S.nd).mp (e.trans B.symm)
theorem vD.length(r:vD α kvs xs):xs.length=kvs.length:=by
 induction r with
 |nil=>rfl
 |cons _ _ i=>simp[i]
theorem vD.snoc{b z:Addr}(r:vD α kvs xs)(h:α[m]?=some z):vD α (kvs++[(k,m)]) (xs++[(k,b,Value.ref z)]):=by
 induction r with
 |nil=>exact .cons ⟨rfl,z,h,rfl⟩ .nil
 |cons c _ i=>exact .cons c i
noncomputable def Gu(d:D)(S:List D)(Y:ax):aq D:=match d,S with
 |.obj n,[.tup b,.obj m]=>match Y[n]?,gM b with
  |some (.dct K ep),some k=>if K.length<=1000 then (match Gw K k with
   |some j=>.ok (.obj j) Y
   |none=>.ok (.obj m) (Y.set n (.dct (K++[(k,m)]) (ep+1)))) else .bad
  |_,_=>.bad
 |_,_=>.bad
noncomputable def R1(d:D)(Y:ax):Bool:=match d with
 |.obj n=>match Y[n]? with
  |some (.dct _ _)=>true
  |_=>false
 |_=>false
noncomputable def Dd(f:D->List D->ax->aq D)(fo:ME)(G:MA):ME:=λb Y=>(fo b Y).bind λo d=>if R1 o d=true then (G b d).bind λS e=>f o S e else .bad
theorem NB:OO p Gu (T9 p.K):=by
 intro d T v O H α Y Q S I J P;unfold Gu at P;split at P
 ·rename_i n U m;split at P
  ·rename_i C ep k q y;split at P
   ·rename_i L;obtain⟨D,rfl,A⟩:=aL.mp I;refine aP J.two λF W V R M=>?_;subst V;refine aP (aJ.mp R) λB μ v10 f l=>?_;subst v10;obtain⟨z,rfl,u⟩:=aL.mp M;rw[dB y]at l;rw[l.ints]at f;obtain⟨N,E,i,xs,hH,r,t⟩:=S.at q;rw[A]at E;cases E;have g:=r.at (k:=k);split at P
    ·rename_i j Z;rw[Z]at g;refine bH g λc b G w=>?_;exact⟨D,xs,ep,k,B,z,rfl,rfl,hH,i,f,t,by rw[r.length];exact L,.inl ⟨c,b,G,P.now S _ (aL.mpr ⟨b,rfl,w⟩)⟩⟩
    ·rename_i Z;rw[Z]at g;have e:=xu (p:=p) (α:=α) (o:=dO D (xs++[(k,B,Value.ref z)]) (ep+1)) hH;refine⟨D,xs,ep,k,B,z,rfl,rfl,hH,i,f,t,by rw[r.length];exact L,.inr ⟨g,P _ _ e (CI S q A hH ⟨i,_,cg,r.snoc u,λx h=>?_⟩) _ (aL.mpr ⟨z,rfl,u⟩)⟩⟩;rcases U4.mp h with h|h
     ·exact e.tup _ _ (t x h)
     ·rw[Wz.mp h];exact e.tup _ _ f
   ·exact P.elim
  ·exact P.elim
 ·exact P.elim
theorem SQ{o f:Expr}{fo:ME}(U:2e4)(G:BE p X o fo)(g:BA p X [e,f] fr)(hbase:autoParam (attributeBase o "setdefault" X.env (eval o 1e7)=eval o 1e7) ATr)(W :autoParam (((backTo pos (starEach [e, f] 1e7)).all (λx => !x.1) && (backToKw pos (keywordEach [] 1e7)).all (λx => x.1.isSome)
   && decide ([e,f].length+([]:List Keyword).length+(if ([]:List Keyword).isEmpty then 0 else 1)<30))=true) ATr)(hline:(autoParam ((apos.endLine == pos.line)=true) ATr))(hs:autoParam (starEach [e,f] 1e7=(false,eval e 1e7)::starEach [f] 1e7) ATr)(L:autoParam ((backTo pos (starEach [f] 1e7)).any 3e2=false) ATr)(hK:1e2):
  BE p X (.Call (.Attribute o "setdefault" apos) [e,f] [] pos) (Dd Gu fo fr):=
 ⟨(QR XO PySem.F.type_dict_setdefault (QY U) G.h g.h hbase W hline hs L).weak λσ H Q ⟨α, q, Y, S, R, P⟩ => ⟨α, q, Y, S, R, (aI.bind P).imp λd b M j y m c v r => by
   by_cases i:R1 d b=true
   ·rw [Vs i] at c;refine⟨?_,j,q,b,m,R.mono y,(aI.bind c).imp λB l t k z w u V J=>by rw[hK];exact NB d B v V t k l Q w (r.mono z) J u⟩;unfold R1 at i;split at i
    ·rename_i n;split at i
     ·rename_i I ep C;obtain⟨D,rfl,g⟩:=aL.mp r;obtain⟨N,E,T,xs,hH,_⟩:=m.at C;rw[g]at E;cases E;exact⟨D,xs,ep,rfl,hH⟩
     ·cases i
    ·cases i
   ·rw[Vt i]at c;exact c.elim⟩⟩
noncomputable def Di(d:D)(Y:ax):aq kE:=match d with
 |.obj n=>match Y[n]? with
  |some (.dct k ep)=>.ok (.dks n k ep) Y
  |_=>.bad
 |_=>.bad
noncomputable def R6(f:ME):MI:=λe Y=>(f e Y).bind Di
theorem vD.get{q:List Int×Nat}(r:vD α kvs xs)(h:kvs[i]?=some q):∃x,xs[i]?=some x/\x.1=q.1:=by
 induction r generalizing i with
 |nil=>cases h
 |cons b _ I=>
  cases i with
  |zero=>simp_all
  |succ i=>exact I h
theorem FK(S:(p.S H α Y))(N:Y[n]?=some (.dct kvs ep))(A:α[n]?=some a)(L:xs.length=kvs.length):t9 p (SG a 4e3 ep) (.dks n kvs ep) H α:=by
 intro o l m c b G;obtain⟨v,E,y,μ,hH,r,t⟩:=b.at G;rw[c.pre n a A]at E;cases E;have B:=r.length;refine⟨λi d f=>?_,⟨μ,hH,by lia⟩,by show xs.length<=(kvs.map _).length;simp_all⟩;have h:(kvs.map λp=>D.tup (p.1.map D.int))[i]?=some d:=f;rw[Wi]at h;cases k:kvs[i]? with
 |none=>simp_all
 |some q=>
  rw[k]at h;simp at h;subst h;have I:=(VY.mp k).1;refine⟨⟨⟨μ,hH,by lia⟩,by lia⟩,λx u ⟨e,g⟩=>?_⟩;subst e;obtain⟨z,Z,rfl⟩:=g μ hH;refine bz (r.get k) λC j w=>?_;exact⟨j3.refl,b,aJ.mpr ⟨z.2.1,_,rfl,t z (VH Z),by simp_all[iR]⟩⟩
theorem Rc{l:Expr}{f:ME}(i:BE p X l f):BI p X tg l (R6 f):=⟨(MF i.h).weak λσ H R ⟨α,o,Y,S,Rr,P⟩=>by
 refine⟨α,o,Y,S,Rr,(aI.bind P).imp λd m q j u c b v V=>?_⟩;unfold Di at b;split at b
 ·rename_i n;split at b
  ·rename_i k ep x;obtain⟨D,rfl,A⟩:=aL.mp V;obtain⟨w,e,g,xs,hH,r,t⟩:=c.at x;rw[A]at e;cases e;exact⟨D,xs,ep,rfl,g,hH,b.now c _ x (FK c x A r.length)⟩
  ·exact b.elim
 ·exact b.elim⟩
end
end L2
namespace RS
open PySem PySem.W PyProof.Rows
structure ZA(z TI TO i1 i2:Addr)(f1 f2:3e4):Prop where
 TIz:TI≠z
 TOz:TO≠z
 i1z:i1≠z
 i2z:i2≠z
 TOi1:TO≠i1
 TOi2:TO≠i2
 z1:z∉f1
 z2:z∉f2
 t1:TO∉f1
 t2:TO∉f2
 j1:i2∉f1
 j2:i1∉f2
section
variable{z TI TO i1 i2:Addr}{f1 f2:3e4}{n1 n2 k:Nat}{P1 P2:Nat->Value->Prop}{S1 S2:(Nat->Heap->Prop)}{a b:Value}
theorem b0{c:Addr}{P:Nat->Value->Prop}{St:(Nat->Heap->Prop)}(D:Draws prog w A it fp n P St)(x:St i h)(e:Heap.ExtBut c h h')(j:c∉fp):St i h':=
 D.frame _ _ _ x λb B o y=>e b o (λq=>j (q ▸ B)) y
theorem Bc(D:Draws prog w A i1 f1 n1 P1 S1)(d:Draws prog w A i2 f2 n2 P2 S2)(Z:ZA z TI TO i1 i2 f1 f2)(hz:IsZip 2e7 z TI TO .none)(hTI:(IsPair 2e7 TI (.ref i1) (.ref i2)))(hTO:IsPair 2e7 TO a b)(j:S1 k 2e7)(l:S2 k 2e7)(t:k<n1)(i:k<n2)(hQ : ∀ x y h' tk, P1 k x -> P2 k y -> IsZip h' z TI TO (rawInt 0e2) -> IsPair h' TO x y -> S1 (k + 1) h' -> S2 (k + 1) h' -> IsPair h' 0e2 x y ->
   (∀c o,c≠z->c≠TO->c≠i1->c≠i2->s.heap.get? c=some o->h'.get? c=some o)->Q (.ref 0e2) {s with heap:=h',toks:=tk}):
  wpAny 0e9 A (Builtin.«zip.__next__» ⟨[.ref z],[]⟩) (λfin s'=>∃v,fin=.done (.ret v)/\Q v s') E s:=by
 show wpAny _ _ (field (.ref z) 2 >>= _) _ _ _;refine Vd (VQ hz rfl rfl ?_);show wpAny _ _ (field (.ref z) 3 >>= _) _ _ _;refine Vd (VQ hz rfl rfl ?_);refine Vd (Wt hTI rfl ?_);show wpAny _ _ (Builtin.SmallTypes.ownedTupleIsFree (.ref z) >>= _) _ _ _;refine Vd ?_;unfold Builtin.SmallTypes.ownedTupleIsFree;refine Vd (VQ hz rfl rfl (Vg ?_));simp only[VP];refine Vd (Vj ?_);refine Vd (VQ hz rfl rfl ?_);refine Vd (XB hz 1e1 λh₁ hz₁ hs₁=>?_);replace hz₁:IsZip h₁ z TI TO .ellipsis:=hz₁;replace hs₁:Heap.SameBut z 2e7 h₁:=hs₁;refine Vd ?_;simp only[List.zipIdx_cons];refine Vd (Vd (Yz ?_));show wpAny _ _ (Builtin.SmallTypes.nextOf (.ref i1) >>= _) _ _ _;refine Vd (D.item k _ _ _ t (b0 D j hs₁.extBut Z.z1) λx h₂ tk P h1₂ hs₂=>Vg ?_);replace hs₂:Heap.SameBut i1 h₁ h₂:=hs₂;have hTO₂:=hs₂.extBut _ _ Z.TOi1 (hs₁.extBut _ _ Z.TOz hTO);refine Vd (Wt hTO₂ rfl ?_);refine Vd (YA hTO₂ λh₃ hTO₃ hs₃=>?_);replace hTO₃:IsPair h₃ TO x b:=hTO₃;replace hs₃:Heap.SameBut TO h₂ h₃:=hs₃;refine Vd (Ys (Vg ?_));refine Vd (Vd (Yz ?_));show wpAny _ _ (Builtin.SmallTypes.nextOf (.ref i2) >>= _) _ _ _;refine Vd (d.item k _ _ _ i (b0 d (b0 d (b0 d l hs₁.extBut Z.z2) hs₂.extBut Z.j2) hs₃.extBut Z.t2) λy h₄ T p h2₄ hs₄=>Vg ?_);replace hs₄:Heap.SameBut i2 h₃ h₄:=hs₄;have hTO₄:=hs₄.extBut _ _ Z.TOi2 hTO₃;refine Vd (Wt hTO₄ rfl ?_);refine Vd (YA hTO₄ λh₅ hTO₅ hs₅=>?_);replace hTO₅:IsPair h₅ TO x y:=hTO₅;replace hs₅:Heap.SameBut TO h₄ h₅:=hs₅;refine Vd (Ys (Vg (Vg ?_)));refine Vd (Wt hTO₅ rfl ?_);refine Vd (wpAny_newTuple ?_);have H:h₅.objs.size=s.heap.objs.size:=by rw[hs₅.1,hs₄.1,hs₃.1,hs₂.1,hs₁.1]
 have hz₅:=hs₅.extBut _ _ Z.TOz.symm (hs₄.extBut _ _ Z.i2z.symm (hs₃.extBut _ _ Z.TOz.symm (hs₂.extBut _ _ Z.i1z.symm hz₁)))
 have hk₅:∀c o,c≠z->c≠TO->c≠i1->c≠i2->s.heap.get? c=some o->h₅.get? c=some o:=λc o c1 C f g e=>
  hs₅.extBut _ _ C (hs₄.extBut _ _ g (hs₃.extBut _ _ C (hs₂.extBut _ _ f (hs₁.extBut _ _ c1 e))))
 have h1₅:=b0 D (b0 D (b0 D h1₂ hs₃.extBut Z.t1) hs₄.extBut Z.j1) hs₅.extBut Z.t1;have h2₅:=b0 d h2₄ hs₅.extBut Z.t2;have h:=US hz₅;show wpAny _ _ (Builtin.SmallTypes.ownedTupleHandOut (.ref z) (.ref h₅.objs.size) >>= _) _ _ _;refine Vd ?_;unfold Builtin.SmallTypes.ownedTupleHandOut;have hz₆:IsZip (h₅.push {cls:=.type "tuple",data:=.seq #[x,y]}) z TI TO .ellipsis:=Vi _ hz₅;refine Vd (XB hz₆ 1e1 λh₇ hz₇ hs₇=>?_);replace hz₇:IsZip h₇ z TI TO (rawInt h₅.objs.size):=hz₇;refine XB hz₇ 1e1 λh₈ hz₈ hs₈=>?_;have up:∀c o,c≠z->h₅.get? c=some o->h₈.get? c=some o:=λc o c1 e=>hs₈.extBut _ _ c1 (hs₇.extBut _ _ c1 (Vi _ e));have hT₈:=hs₈.extBut _ _ (Vl h) (hs₇.extBut _ _ (Vl h) (UR _ rfl));rw[H]at hz₈ hT₈;refine Vg ⟨_,rfl,?_⟩;rw[H];exact hQ x y h₈ T P p hz₈ (up _ _ Z.TOz hTO₅) (b0 D h1₅ (λc o c1 e=>up c o c1 e) Z.z1) (b0 d h2₅ (λc o c1 e=>up c o c1 e) Z.z2) hT₈ λc o c1 C f g e=>up c o c1 (hk₅ c o c1 C f g e)
theorem Et{Q:Fin->Shared->Prop}(D:Draws prog w A i1 f1 n1 P1 S1)(f:Draws prog w A i2 f2 n2 P2 S2)(Z:ZA z TI TO i1 i2 f1 f2)
  (hz:IsZip 2e7 z TI TO .none) (hTI:(IsPair 2e7 TI (.ref i1) (.ref i2))) (hTO:IsPair 2e7 TO a b) (g:S1 k 2e7) (l:S2 k 2e7) (K:k=n1\/k<n1/\k=n2)
  (hE:∀h' e tk,(∀c o,c≠z->c≠TO->c≠i1->c≠i2->s.heap.get? c=some o->h'.get? c=some o)->(∃o,h'.get? e=some o/\o.cls=.type "StopIteration")->E (.ref e) {s with heap:=h',toks:=tk}) :
  wpAny 0e9 A (Builtin.«zip.__next__» ⟨[.ref z],[]⟩) Q E s:=by
 show wpAny _ _ (field (.ref z) 2 >>= _) _ _ _;refine Vd (VQ hz rfl rfl ?_);refine Vd (VQ hz rfl rfl ?_);refine Vd (Wt hTI rfl ?_);refine Vd ?_;refine Vd (VQ hz rfl rfl (Vg ?_));refine Vd (Vj ?_);refine Vd (VQ hz rfl rfl ?_);refine Vd (XB hz 1e1 λh₁ hz₁ hs₁=>?_);replace hz₁:IsZip h₁ z TI TO .ellipsis:=hz₁;replace hs₁:Heap.SameBut z 2e7 h₁:=hs₁;refine Vd ?_;refine Vd (Vd (Yz ?_));rcases K with rfl|⟨K,rfl⟩
 ·refine Vd (D.done _ _ _ (b0 D g hs₁.extBut Z.z1) λh₂ e hs₂ n => ?_);refine bz n λO d h=>?_;have hz₂:=hs₂ _ _ Z.i1z.symm hz₁;have H:e≠z:=λx=>by lia
  refine XB hz₂ 1e1 λh₃ _ hs₃=>hE h₃ e s.toks (λc o c1 _ C _ x=>hs₃.extBut _ _ c1 (hs₂ _ _ C (hs₁.extBut _ _ c1 x))) ⟨O,hs₃.extBut _ _ H d,h⟩
 ·refine Vd (D.item k _ _ _ K (b0 D g hs₁.extBut Z.z1) λx h₂ tk P h1₂ hs₂ => Vg ?_);have hTO₂:=hs₂.extBut _ _ Z.TOi1 (hs₁.extBut _ _ Z.TOz hTO);refine Vd (Wt hTO₂ rfl ?_);refine Vd (YA hTO₂ λh₃ hTO₃ hs₃=>?_);refine Vd (Ys (Vg ?_));refine Vd (Vd (Yz ?_));refine Vd (f.done _ _ _ (b0 f (b0 f (b0 f l hs₁.extBut Z.z2) hs₂.extBut Z.j2) hs₃.extBut Z.t2) λh₄ e hs₄ n=>?_);refine bz n λO d h=>?_;have hz₄:=hs₄ _ _ Z.i2z.symm (hs₃.extBut _ _ Z.TOz.symm (hs₂.extBut _ _ Z.i1z.symm hz₁));have H:e≠z:=λx=>by lia
  refine XB hz₄ 1e1 λh₅ _ hs₅=>hE h₅ e tk (λc o c1 i C j x=>hs₅.extBut _ _ c1 (hs₄ _ _ j (hs₃.extBut _ _ i (hs₂.extBut _ _ C (hs₁.extBut _ _ c1 x))))) ⟨O,hs₅.extBut _ _ H d,h⟩
theorem BY{Q:(Option Value->Shared->Prop)}(D:Draws prog w A.in1 i1 f1 n1 P1 S1)(d:Draws prog w A.in1 i2 f2 n2 P2 S2)(Z:ZA z TI TO i1 i2 f1 f2)
  (hz:IsZip 2e7 z TI TO .none) (hTI:(IsPair 2e7 TI (.ref i1) (.ref i2))) (hTO:IsPair 2e7 TO a b) (l:S1 k 2e7) (m:S2 k 2e7) (t:k<n1) (H:k<n2)
  (hQ : ∀ x y h' tk, P1 k x -> P2 k y -> IsZip h' z TI TO (rawInt 0e2) -> IsPair h' TO x y -> S1 (k + 1) h' -> S2 (k + 1) h' -> IsPair h' 0e2 x y ->
   (∀c o,c≠z->c≠TO->c≠i1->c≠i2->s.heap.get? c=some o->h'.get? c=some o)->Q (some (.ref 0e2)) {s with heap:=h',toks:=tk}):wpAny 0e9 A (pyNext (.ref z)) Q E s:=by
 have hT:s.TypeIs (.ref z) "zip" := ⟨_,hz,rfl⟩
 exact Vd (XA (VS hT YB
  (VU YB hT F.entry_zip_next
   (Bc D d Z hz hTI hTO l m t H λx y h' tk e f g h u μ i j=>Vg (hQ x y h' tk e f g h u μ i j)) (F.args_zip_next_1 _))))
theorem FY{Q:(Option Value->Shared->Prop)}(D:Draws prog w A.in1 i1 f1 n1 P1 S1)(f:Draws prog w A.in1 i2 f2 n2 P2 S2)(Z:ZA z TI TO i1 i2 f1 f2)
  (hz:IsZip 2e7 z TI TO .none) (hTI:(IsPair 2e7 TI (.ref i1) (.ref i2))) (hTO:IsPair 2e7 TO a b) (H:S1 k 2e7) (h:S2 k 2e7) (d:k=n1\/k<n1/\k=n2)
  (hQ:∀h' tk,(∀c o,c≠z->c≠TO->c≠i1->c≠i2->s.heap.get? c=some o->h'.get? c=some o)->Q none {s with heap:=h',toks:=tk}):wpAny 0e9 A (pyNext (.ref z)) Q E s:=by
 have hT:s.TypeIs (.ref z) "zip" := ⟨_,hz,rfl⟩
 refine Vd (XA (VS hT YB
  (VU YB hT F.entry_zip_next (Et D f Z hz hTI hTO H h d λh' e tk d n=>?_) (F.args_zip_next_1 _))))
 refine bz n λo G j=>?_;exact Vd (XC ⟨o,G,j⟩ isSubtype_stop (Vg (hQ _ _ d)))
end
noncomputable abbrev RT (h:Heap) (l1:Addr):Heap:=h.push {cls:=.type "tuple_iterator",data:=.fields #[.ref l1,.int 0 0]}
noncomputable abbrev RR (h:Heap) (l1 l2:Addr):Heap:=(RT h l1).push {cls:=.type "tuple_iterator",data:=.fields #[.ref l2,.int 0 0]}
noncomputable abbrev RQ (h:Heap) (l1 l2:Addr):Heap:=(RR h l1 l2).push {cls:=.type "tuple",data:=.seq #[.ref h.objs.size,.ref (RT h l1).objs.size]}
noncomputable abbrev RP (h:Heap) (l1 l2:Addr):Heap:=(RQ h l1 l2).push {cls:=.type "tuple",data:=.seq #[.none,.none]}
noncomputable abbrev OS (h:Heap) (l1 l2:Addr):Heap:=(RP h l1 l2).push {cls:=.type "zip",data:=.fields #[.none,.bool false,.bool false,.ref (RR h l1 l2).objs.size,.ref (RQ h l1 l2).objs.size]}
theorem zj(l1 l2:Addr)(xs ys:5e5) :
  Meets (Builtin.«zip.__new__» ⟨[.type "zip",.ref l1,.ref l2],[]⟩) (λ_ R s=>s.heap.IsTuple l1 xs/\s.heap.IsTuple l2 ys /\
   R (.ok (.ret (.ref (RP 2e7 l1 l2).objs.size))) {s with heap:=OS 2e7 l1 l2}):=
 .of_wp λprog w A R s h=>by
  obtain⟨p,g,d,t,S⟩:=s;refine jr h λH c h=>?_;have B:=sub_zip;have hL1:=H
  have hL2:Heap.IsTuple (Shared.heap ⟨p.push {cls:=.type "tuple_iterator",data:=.fields #[.ref l1,.int 0 0]},g,d,t,S⟩) l2 ys:=by
   refine bz c λo e r=>?_;exact⟨o,Vi _ e,r⟩
  wp_walk using Wx hL1,Wx hL2
  exact⟨_,rfl,h⟩
section
theorem Cm{l1 l2:Addr}{xs ys:5e5}(d:s.heap.IsTuple l1 xs)(H:s.heap.IsTuple l2 ys)(h : ∀ h', IsZip h' (0e2 + 4) (0e2 + 2) (0e2 + 3) .none -> IsPair h' (0e2 + 2) (.ref 0e2) (.ref (0e2 + 1)) ->
   IsPair h' (s.heap.objs.size+3) .none .none->h'.IsTupleIter 0e2 l1 0->h'.IsTupleIter 5e6 l2 0->h'.objs.size=s.heap.objs.size+5 ->
   (∀c o,s.heap.get? c=some o->h'.get? c=some o)->Q (.ref (s.heap.objs.size+4)) {s with heap:=h'}):
  wpAny 0e9 A (call (.type "zip") [.ref l1,.ref l2]) Q E s:=by
 refine callType_new F.called_zip 1e0 (F.typeCall_zip_2 _ _) (F.newCall_zip_2 _ _) (λobj=>F.args_object_init_3 obj _ _) F.entry_zip_new
  (zj l1 l2 xs ys) ⟨d,H,?_⟩
 have Z:(RT 2e7 l1).objs.size=s.heap.objs.size+1:=Wg ..;have G:(RR 2e7 l1 l2).objs.size=s.heap.objs.size+2:=by rw[Wg,Z]
 have e:(RQ 2e7 l1 l2).objs.size=s.heap.objs.size+3:=by rw[Wg,G]
 have f:(RP 2e7 l1 l2).objs.size=s.heap.objs.size+4:=by rw[Wg,e]
 have g:(OS 2e7 l1 l2).get? (RP 2e7 l1 l2).objs.size=some _:=UR _ rfl;have i:(OS 2e7 l1 l2).get? (RQ 2e7 l1 l2).objs.size=some _:=Vi _ (UR _ rfl);have C:(OS 2e7 l1 l2).get? (RR 2e7 l1 l2).objs.size=some _:=Vi _ (Vi _ (UR _ rfl));have v:(OS 2e7 l1 l2).get? (RT 2e7 l1).objs.size=some _:=Vi _ (Vi _ (Vi _ (UR _ rfl)));rw[G,e,f]at g;rw[Z,G]at C;rw[e]at i;rw[Z]at v;rw[f]
 exact⟨⟨_,g,rfl⟩,h _ g C i ⟨_,(Vi _ (Vi _ (Vi _ (Vi _ (UR _ rfl))))),rfl,rfl⟩ ⟨_,v,rfl,rfl⟩ (by rw[Wg,f]) λc o x=>
  Vi _ (Vi _ (Vi _ (Vi _ (Vi _ x))))⟩
end
end RS
namespace L2
open PySem PySem.Spec PyProof.Rows RS
noncomputable def SD(b:Bool)(K:W.Frag)(a A:Addr):It:=
 ⟨λi H => ∃ S μ x y, Sq b K H a S /\ Sq b K H A μ /\ S[i]? = some x /\ μ[i]? = some y,
  λi H x c=>∃q y z,x=.ref q/\H q=none/\c=cq H q (.tup [y,z])/\(∀S,Sq b K H a S->S[i]?=some y)/\∀μ,Sq b K H A μ->μ[i]?=some z,
  λi H=>∃S μ,Sq b K H a S/\Sq b K H A μ/\(i=S.length\/i<S.length/\i=μ.length)⟩
theorem UD(n:Nat):[n+4,n+2,n+3,n,n+1].Nodup:=by simp
structure ZN(z TI TO i1 i2 a1 a2:Addr):Prop where
 nd:[z,TI,TO,i1,i2].Nodup
 n1:∀b∈[z,TI,TO,i1,i2],a1≠b
 n2:∀b∈[z,TI,TO,i1,i2],a2≠b
theorem ZN.za{z TI TO i1 i2 a1 a2:Addr}(h:ZN z TI TO i1 i2 a1 a2):ZA z TI TO i1 i2 [i1,a1] [i2,a2]:=by
 obtain⟨d,n,N⟩:=h;simp at d n N;obtain⟨⟨Q,J,L,G⟩,⟨b,c,e⟩,⟨q,a⟩,q10⟩:=d;obtain⟨U,f,u,g,i⟩:=n;obtain⟨v,V,j,k,l⟩:=N;refine⟨U3 Q,U3 J,U3 L,U3 G,q,a,?_,?_,?_,?_,?_,?_⟩ <;> simp
 ·exact⟨L,U3 U⟩
 ·exact⟨G,U3 v⟩
 ·exact⟨q,U3 u⟩
 all_goals lia
theorem Ey(a1 a2 z TI TO d r:Addr)(N:ZN z TI TO d r a1 a2):
  vP P w K (.Tuple elts k1 pos) (SD b K a1 a2) [z,TI,TO,d,r] z
   (λi h=>IsZip h z TI TO .none/\IsPair h TI (.ref d) (.ref r)/\(∃p q,IsPair h TO p q)/\m1 b h d a1 i/\m1 b h r a2 i) where
 mem:=by simp
 obj:=λi h T x J=>by
  obtain⟨n,hTI,⟨p,q,hTO⟩,l,m⟩:=T;simp[U2,WA,WB]at J;rcases J with rfl|rfl|rfl|rfl|rfl
  ·exact⟨_,n,λv z=>by cases z⟩
  ·exact⟨_,hTI,λv z=>by cases z⟩
  ·exact⟨_,hTO,λv z=>by cases z⟩
  ·exact l.obj
  ·exact m.obj
 keep:=λi h M T k=>by
  obtain⟨n,hTI,⟨p,q,hTO⟩,l,m⟩:=T;exact⟨k z 1e1 _ n,k TI 1e1 _ hTI,⟨p,q,k TO 1e1 _ hTO⟩,l.keep λo O=>k d 1e1 o O,m.keep λo O=>k r 1e1 o O⟩
 item:=by
  intro X hP hw hK j i S s σ H E I hf T hg;subst hP hw hK;obtain⟨n,hTI,⟨p,q,hTO⟩,l,m⟩:=T;refine cE hg λxs ys x y t A J F=>?_;have Z:=N.za;have nd:=N.nd;refine aF (jh I j t (N.n1 d 1e1)) λf St1 R D1 d1 D=>?_;refine aF (jh I j A (N.n2 r 1e1)) λg St2 G D2 d2 L=>?_;refine bz (R.get J) λu hu ru=>?_;refine bz (G.get F) λv hv rw2=>?_;have hl1:i<f.size:=by simpa using (VY.mp hu).1
  have hl2:i<g.size:=by simpa using (VY.mp hv).1
  have U:∀b∈[z,TI,TO,d,r],b<s.heap.objs.size:=λb B=>by
   simp only[U2,WA,WB]at B;rcases B with rfl|rfl|rfl|rfl|rfl
   ·exact US n
   ·exact US hTI
   ·exact US hTO
   ·obtain⟨o,O,_⟩:=l.obj;exact US O
   ·obtain⟨o,O,_⟩:=m.obj;exact US O
  refine BY D1 D2 Z n hTI hTO (d1 i l) (d2 i m) hl1 hl2 λμ V M tk hx' hy' hz' hTO' hs1 hs2 hT hk=>?_
  have ex:μ=u:=by
   simp_all
  have ey:V=v:=by
   simp_all
  subst ex ey;refine⟨_,rfl,?_⟩;refine wpAny_letOwnedTupleGo_zip hz' λh3 hz3 a=>?_;replace a:Heap.SameBut z M h3:=a
  have hold:∀c o,c ∉ [z,TI,TO,d,r]->s.heap.get? c=some o->h3.get? c=some o:=λc o j e=>by
   simp only[U2,WA,WB,not_or]at j;exact(a.2 c j.1).trans (hk c o j.1 j.2.2.1 j.2.2.2.1 j.2.2.2.2 e)
  have hzs:=Vl (U z 1e1);have hT3:=(a.2 _ hzs).trans hT;have hqn:=I.hok.fresh (Vn _)
  have I1:aS X S σ (cq H 0e2 (.tup [x,y])) {s with heap:=s.heap.push {cls:=.type "tuple",data:=.seq #[μ,V]},toks:=s.toks}:=by
   refine I.laid (λb o O=>Vi _ O) (Vn _) ?_;exact⟨by simp[sizeLine],[μ,V],.cons ru (.cons rw2 .nil),_,UR _ rfl,rfl,⟨0,rfl⟩,rfl⟩
  have Q:∀b∈[z,TI,TO,d,r],lE X S (cq H 0e2 (.tup [x,y])) b:=λb B=>by
   obtain⟨k0,k1⟩:=hf b B;exact⟨by rw[bo (UV (U b B))];exact k0,k1⟩
  have I2:aS X S σ (cq H 0e2 (.tup [x,y])) {s with heap:=h3,toks:=tk}:=by
   refine aS.turns (s:={s with heap:=s.heap.push {cls:=.type "tuple",data:=.seq #[μ,V]},toks:=s.toks}) I1 (λb o B O=>?_) Q;by_cases hbq:b=0e2
   ·subst hbq;have:=(UR 2e7 rfl).symm.trans O;rw[hT3];exact this
   simp_all[WC]
  have zi1:=Z.i1z;have zi2:=Z.i2z;simp only[Vx,U2,WA,WB,not_or,not_false_eq_true,WZ,and_true]at nd;refine tX nd λv12 v13 v14 q10=>?_;refine tX v12 λq1 q2 q3 q4=>?_;refine jr v13 λq5 q6 q7=>?_;obtain⟨q8,q9⟩:=v14;refine⟨.ref 0e2,_,I2,rfl,⟨_,x,y,rfl,hqn,rfl,λys F=>by rw[yu I F t];exact J,λzs n=>by rw[yu I n A];exact F⟩,⟨hz3,?_,⟨μ,V,(a.2 TO Z.TOz).trans hTO'⟩,?_,?_⟩,λb B=>(Q b B).1⟩
  ·exact(a.2 TI Z.TIz).trans (hk TI _ Z.TIz q5 q6 q7 hTI)
  ·exact(D (i+1) M hs1).keep λo O=>(a.2 d zi1).trans O
  ·exact(L (i+1) M hs2).keep λo O=>(a.2 r zi2).trans O
 done:=by
  intro X hP hw hK j i S s σ H E I hf T hg;subst hP hw hK;refine jM T λn hTI v15 l m=>?_;obtain⟨p,q,hTO⟩:=v15;obtain⟨xs,ys,t,A,J⟩:=hg;have Z:=N.za;refine aF (jh I j t (N.n1 d 1e1)) λf St1 R D1 d1 D=>?_;refine aF (jh I j A (N.n2 r 1e1)) λg St2 G D2 d2 L=>?_
  have e1:f.size=xs.length:=by
   have l:=R.length;have m:f.toList.length=f.size:=VR
   lia
  have e2:g.size=ys.length:=by
   have l:=G.length;have m:g.toList.length=g.size:=VR
   lia
  refine FY D1 D2 Z n hTI hTO (d1 i l) (d2 i m) 0e0 λM tk hk=>⟨rfl,?_⟩;refine I.turns (λb o B O=>?_) hf
  grind
 self:=λ_ _ _ _ _ T h=>by
  grind [wpAny_pyIter_zip]
section
variable{X:Cx}
noncomputable def Re(K:W.Frag)(t:TA):TI:=λd H R=>t d H λy a=>∃A c b,y=[.ref A,.ref c]/\(∃S,Sq b K a A S)/\(∃μ,Sq b K a c μ)/\R (SD b K A c) a
theorem MC{a c:Expr}{p:Pos}(hg:Gl X "zip")(hm:X.mg "zip" = none)(ha:PA X [a,c] ta)(hs:starEach [a,c] 1e7=[(false,eval a 1e7),(false,eval c 1e7)])(j:starEach [c] 1e7=[(false,eval c 1e7)]):PI X (.Tuple elts k1 tpos) (.Call (.Name "zip" p) [a,c] [] pos) (Re X.K ta):=by
 intro P s μ H R I h;refine Call_ (j7 I hg hm (by rfl) (Vo (dt (ha pos P s μ H _ I h) λus S ⟨vs,Z,f,r1,q1⟩=>?_) (by rw[hs,j]) (by rw[j];rfl)));obtain⟨l1,l2,b,e,⟨xs,t⟩,⟨ys,g⟩,q⟩:=q1;subst e;refine aP (vR r1) λu v v18 ru rv=>?_;subst v18;cases ru;cases rv
 have n:∀d,IsZip d (S.heap.objs.size+4) (S.heap.objs.size+2) (S.heap.objs.size+3) .none->IsPair d (S.heap.objs.size+2) (.ref S.heap.objs.size) (.ref (S.heap.objs.size+1)) ->
   IsPair d (S.heap.objs.size+3) .none .none->m1 b d S.heap.objs.size l1 0->m1 b d (S.heap.objs.size+1) l2 0->l1<S.heap.objs.size->l2<S.heap.objs.size->(∀c o,S.heap.get? c=some o->d.get? c=some o) ->
   wpAny 0e7 X.A (pyIter (.ref (S.heap.objs.size+4))) (Sd X P μ (.Tuple elts k1 tpos) R) X.xe {S with heap:=d}:=by
  intro d D hTI hTO W h2 G m hk;have V:aS X P μ Z {S with heap:=d}:=f.kept hk
  have E:∀b∈[S.heap.objs.size+4,S.heap.objs.size+2,S.heap.objs.size+3,S.heap.objs.size,S.heap.objs.size+1],S.heap.objs.size<=b:=λb B=>by
   simp[U2,WA]at B
   lia
  refine wpAny_pyIter_zip D ?_;refine⟨_,[S.heap.objs.size+4,S.heap.objs.size+2,S.heap.objs.size+3,S.heap.objs.size,S.heap.objs.size+1],_,_,Z,rfl,V,Ey l1 l2 _ _ _ _ _ ⟨?_,λb B=>?_,λb B=>?_⟩,⟨D,hTI,⟨_,_,hTO⟩,W,h2⟩,λb B=>?_,q⟩
  ·exact UD _
  ·grind
  ·grind
  ·exact f.fpOk (E b B) (f.hok.fresh (E b B))
 cases b with
 |true=>
  obtain⟨N,T,k,L⟩:=f.list t;obtain⟨Q,U,l,M⟩:=f.list g;have G:l1<S.heap.objs.size:=by obtain⟨o,O,_⟩:=k.isList;exact US O
  have m:l2<S.heap.objs.size:=by obtain⟨o,O,_⟩:=l.isList;exact US O
  exact call_zip_2 k.isList l.isList λd r x y z C F J=>n d r x y z C G m J
 |false=>
  obtain⟨N,T,k,L⟩:=f.tuple t;obtain⟨Q,U,l,M⟩:=f.tuple g;have G:l1<S.heap.objs.size:=by obtain⟨o,O,_⟩:=k;exact US O
  have m:l2<S.heap.objs.size:=by obtain⟨o,O,_⟩:=l;exact US O
  exact Cm k l λd r x y z C F J=>n d r x y z C G m J
end
noncomputable def js:List D->List D->List D
 |x::r,y::q=>.tup [x,y]::js r q
 |_,_=>[]
theorem Eu:∀{ys:List D}{i:Nat}{d:D},(js xs ys)[i]?=some d->∃x y,xs[i]?=some x/\ys[i]?=some y/\d=.tup [x,y]:=by
 induction xs with
 |nil=>intro ys i d h;simp[js]at h
 |cons x r I=>
  intro ys i d h;cases ys with
  |nil=>simp[js]at h
  |cons y q=>
   cases i with
   |zero=>simp_all[js]
   |succ i=>simp[js]at h;exact I h
theorem wh:∀{xs ys:List D},(js xs ys).length=xs.length\/(js xs ys).length<xs.length/\(js xs ys).length=ys.length
 |[],_=>.inl (by simp[js])
 |_::_,[]=>.inr (by simp[js])
 |x::r,y::q=>by
  have:=wh (xs:=r) (ys:=q);simp[js,Wd]
  lia
section
variable{X:Cx}{p:Pa}
theorem FH{a1 a2:Addr}{us ws:List V}(b:ei p.K H a1 us)(c:ei p.K H a2 ws)(r1:p.Rs H α xs us)(M:p.Rs H α ys ws):t9 p (SD false p.K a1 a2) (.fix (js xs ys)) H α:=by
 intro C s t a S O;have G:=a.tup a1 us b;have g:=a.tup a2 ws c;refine⟨λi d f=>?_,us,ws,G,g,?_⟩
 ·refine aP (Eu f) λx y j μ o=>?_;subst o;refine bz ((r1.mono a).get j) λv h m=>?_;refine bz ((M.mono a).get μ) λu U r=>?_;refine⟨⟨us,ws,v,u,G,g,h,U⟩,λx E ⟨q,W,I,e,z,B,k,l⟩=>?_⟩;subst e B;have:=k us G;rw[h]at this;cases this;have:=l ws g;rw[U]at this;cases this;exact⟨bU z,S.tuple z,aJ.mpr ⟨q,_,rfl,ei.of cg,Reps.cons (m.mono (bU z)) (Reps.cons (r.mono (bU z)) Reps.nil)⟩⟩
 ·have e := r1.length;have B:=4e8
  simp_all[wh]
noncomputable def A3(s:List D)(Y:ax):aq kE:=match s with
 |[.tup S,.tup μ]=>.ok (.fix (js S μ)) Y
 |_=>.bad
theorem LZ{a c:Expr}{fa:MA}(hK:X.K=p.K)(U:Gl X "zip")(m:X.mg "zip" = none)(j:PA X [a,c] (yd p fa))(hs:starEach [a,c] 1e7=[(false,eval a 1e7),(false,eval c 1e7)])(d:starEach [c] 1e7=[(false,eval c 1e7)]):
  PI X (.Tuple elts k1 tpos) (.Call (.Name "zip" px) [a,c] [] pos) (yc p (ej A3 fa)):=
 (MC U m j hs d).weak λL H R ⟨t, B, y, S, Rr, P⟩ => ⟨t, B, y, S, Rr, (aI.bind P).imp λD z C x E f h G V => by
  rw[hK];unfold A3 at h;split at h
  ·rename_i I μ;refine aP V.two λv u k r M=>?_;subst k;refine aP (aJ.mp r) λg s l b q=>?_;subst l;refine aP (aJ.mp M) λi W o e Q=>?_;subst o;exact⟨g,i,false,rfl,⟨s,b⟩,⟨W,e⟩,h.now f _ trivial (FH b e q Q)⟩
  ·exact h.elim⟩
theorem Rb{a c:Expr}(m:X.mg "zip" = none)(H:BA p X [a,c] fr)(U:autoParam (Gl X "zip") ATr)(hs:autoParam (starEach [a,c] 1e7=[(false,eval a 1e7),(false,eval c 1e7)]) ATr)(d:autoParam (starEach [c] 1e7=[(false,eval c 1e7)]) ATr)(hK:1e2):BI p X (.Tuple elts k1 tpos) (.Call (.Name "zip" px) [a,c] [] pos) (ej A3 fr):=⟨LZ hK U m H.h hs d⟩
end
section
variable{R:(Result->Shared->Prop)}{J:Addr}{wr:3e4}{P:Nat->Value->Prop}{St:(Nat->Heap->Prop)}
theorem CG(W:Walks prog w A.in1 J fp wr n P St)(G:Heap->Prop)(hG:∀h h',G h->(∀b o,b∉wr->h.get? b=some o->h'.get? b=some o)->G h')(T:Nat->Bool)
  (r:∀i v (s:Shared) (Q:(Bool->Shared->Prop)) (E:3e3),P i v->G 2e7->(∀tk,Q (T i) {s with toks:=tk})->wpAny 0e9 A.in1 (truthy v) Q E s) :
  ∀(k i:Nat)(s:Shared),n-i=k->i<=n->St i 2e7->G 2e7 ->
  (∀h' tk,(∀b o,b∉wr->s.heap.get? b=some o->h'.get? b=some o)->R (.ok (.ret (.bool (((List.range n).drop i).all T)))) {s with heap:=h',toks:=tk}) ->
  codeAny 0e9 A (.builtin "all.loop" ⟨[.ref J],[]⟩) R s:=by
 intro k
 induction k with
 |zero=>
  intro i s K I d U hR;have N:i=n:=by lia
  subst N;refine Xm F.entry_all_loop ?_;refine Vd (W.done s _ _ d λh' tk H=>?_);refine Vd (Vj (Vg ?_))
  simp_all[List.drop_of_length_le]
 |succ k a=>
  intro i s K I d U hR;have t:i<n:=by lia
  have D:(List.range n).drop i=i::(List.range n).drop (i+1):=by
   simp_all[X3]
  refine Xm F.entry_all_loop ?_;refine Vd (W.item i s _ _ t d λv h' tk hP C H=>?_);refine Vd (Ve (r i v _ _ _ hP (hG _ _ U H) λc=>?_));refine Vd (Ys ?_);cases B:T i with
  |true=>
   refine Vg ⟨Xn F.plain_all_loop _,a (i+1) _ 0e0 t C (hG _ _ U H) λh'' tk'' hk''=>?_⟩
   grind
  |false=>
   refine Vd (Vj (Vg ?_))
   simp_all
end
section
variable{X:Cx}{p:Pa}
def Dr(K:W.Frag):List V->Hp->VK->Prop:=λS H Q=>∃(a:Addr)(U:List V)(bs:List Bool),S=[.ref a]/\dN K H a U/\U.length=bs.length/\(∀(i:Nat)(u:V),U[i]?=some u->∃b s,u=V.ref b/\dN K H b s/\bs[i]?=some (!s.isEmpty))/\Q (.bl (bs.all id)) H
theorem xW{ws:List V}(r:bb ws its):its.toArray.isEmpty=ws.isEmpty:=by
 cases r <;> rfl
theorem Cv (M:1e8):cv X (.builtin "all") (Dr X.K):=by
 intro m s σ H xs us Q I r h;obtain⟨a,U,bs,v4,z,hl,C,q⟩:=h;subst v4;obtain⟨u,rfl,l⟩:=e9 r;cases l;refine bI (I.list z) λS V L hz=>?_
 have j:a≠s.heap.objs.size:=by
  refine bH L λo n e _=>?_;exact UV (US e)
 have N:S.toArray.size=bs.length:=by
  have:=V.length
  grind
 refine call_function_tree F.kind_all F.plain_all F.entry_all (F.args_all1 _) ?_;refine Vd (Vg ?_);refine Vd (Xq L.isList ?_);refine Vg ⟨Xn F.plain_all_loop _,?_⟩
 refine CG (Xr (A:=X.A.in1) (I.ok.hd M) 0e2 a j S.toArray)
  (λh=>∀i v,S[i]?=some v->∃b W,v=.ref b/\b≠s.heap.objs.size/\h.IsList b W/\(W.size:Int)<2^63/\bs.getD i false=!W.isEmpty)
  (λh y g k i v e=>?_) (λi=>bs.getD i false) (λi v s' Q' E' hP T hQ=>?_) _ 0 _ rfl (Wo _) ⟨⟨_,UR _ rfl,rfl,rfl⟩,L.isList.at λo e=>Vi _ e⟩ (λi v e=>?_) λy tk Z=>?_
 ·refine aF (g i v e) λb W t B E d=>?_;exact⟨b,W,t,B,E.at λo O=>k b o (by simpa using B) O,d⟩
 ·refine gf (T i v (by simpa using hP)) λb W v6 B E d x=>?_;subst v6;refine wpAny_truthy_list E d ?_;have:=hQ (s'.toks+1+1);rw[x]at this;exact this
 ·obtain⟨u,D,l⟩:∃u,U[i]?=some u/\cm u v:=by
   have μ:i<U.length:=by
    have h1:=(VY.mp e).1;have h2:=V.length
    lia
   refine bz (V.get (Xx μ)) λv' e' r'=>?_
   grind
  refine aP (C i u D) λb W v7 hw f=>?_;subst v7;cases l;refine bI (I.list hw) λits2 G c hz2=>?_;refine⟨b,its2.toArray,rfl,UV (by refine bz c.isList λo O _=>?_;exact US O),c.isList.at λo O=>Vi _ O,?_,?_⟩
  ·have := G.length;have hs:sizeLine<2^62:=by decide
   simp;lia
  ·rw[Yj,f,xW G];rfl
 ·rw[List.drop_zero,N,tL];exact⟨.bl _,H,I.fresh_it Z,rfl,q⟩
noncomputable def pC(Y:ax):List D->Option (List Bool)
 |[]=>some []
 |.obj n::r=>match Y[n]?,pC Y r with
  |some (.lst S),some bs=>some ((!S.isEmpty)::bs)
  |_,_=>none
 |_::_=>none
noncomputable def pF(s:List D)(Y:ax):aq D:=match s with
 |[.obj n]=>match Y[n]? with
  |some (.lst S)=>match iY S with
   |some bs=>.ok (.bl (bs.all id)) Y
   |none=>match pC Y S with
    |some bs=>.ok (.bl (bs.all id)) Y
    |none=>.bad
  |_=>.bad
 |_=>.bad
theorem xq{K:W.Frag}{w:World}{H:Hp}{α:3e4}{Y:ax}(S:(e4 K w H α Y)):∀{ds:List D}{bs:List Bool}{vs:List V},pC Y ds=some bs->Reps K H α ds vs ->
  vs.length=bs.length/\∀(i:Nat)(u:V),vs[i]?=some u->∃b ws,u=V.ref b/\dN K H b ws/\bs[i]?=some (!ws.isEmpty)
 |[],bs,vs,h,r=>by
  simp[pC]at h;subst h r;exact⟨rfl,λi u e=>by cases e⟩
 |d::ds,bs,vs,h,r=>by
  cases d with
  |obj n=>
   unfold pC at h;split at h
   ·rename_i x B c f;simp at h;subst h;refine aP r λv z s o M=>?_;subst s;obtain⟨l,m⟩:=xq S f M;refine⟨by simp[l],λi u e=>?_⟩;cases i with
    |zero=>
     cases e;refine la (S.at c) λa g U j q=>?_;refine bz (aL.mp o) λy t E=>?_;subst t;rw[g]at E;cases E
     have k:U.isEmpty=x.isEmpty:=by
      have:=q.length;cases U <;> cases x <;> first|rfl|(simp at this)
     exact⟨a,U,rfl,dN.of j,by rw[List.getElem?_cons_zero,k]⟩
    |succ i=>exact m i u e
   ·cases h
  |non=>cases h
  |bl _=>cases h
  |int _=>cases h
  |str _=>cases h
  |tup _=>cases h
  |frz _=>cases h
theorem IT:sf p pF (λxs H Q=>GE p.K xs H Q\/Dr p.K xs H Q):=by
 intro s y H f g Q S r P;unfold pF at P;split at P
 ·rename_i n;split at P
  ·rename_i xs d;obtain⟨v,rfl,c⟩:=r.one;refine aF (bZ S c d) λa U V e h b=>?_;subst V;split at P
   ·rename_i bs B;rw[jF B]at b;exact .inl ⟨a,bs,rfl,by rw[<- b.bools];exact dN.of h,P.now S _ (aR.mpr rfl)⟩
   ·split at P
    ·rename_i bs B;obtain⟨i,W⟩:=xq S B b;exact .inr ⟨a,U,bs,rfl,dN.of h,i,W,P.now S _ (aR.mpr rfl)⟩
    ·exact P.elim
  ·exact P.elim
 ·exact P.elim
theorem Cw (j:1e8):cv X (.builtin "all") (λxs H Q=>GE X.K xs H Q\/Dr X.K xs H Q):=by
 intro S s a H xs U Q I r h;rcases h with h|h
 ·exact tE j S s a H xs U Q I r h
 ·exact Cv j S s a H xs U Q I r h
theorem Ov (j:4e6) (hK:1e2):m3 X p "all" pF:=⟨_,_,.inl ⟨_,rfl⟩,by decide +kernel,Cw j,hK ▸ IT,by decide,by decide⟩
end
end L2
namespace PySem
open PySem.Spec PyProof.Rows SeqAt
theorem rL(l:Addr)(items:5e5)(n:Nat)(q:Option Addr)(L:Array (Option Value))(x:Value)(e:Value->Bool)(j:Nat)(Z:j<items.size)
  (t:e items[j]=true) (O:∀m (hm:m<items.size),m<j->e items[m]=false) :
  Meets (Builtin.«tuple.index» ⟨[.ref l,x],[]⟩)
   (λA R s=>s.heap.get? l=some {cls:=.type "tuple",dict:=q,data:=.seq items n,slots:=L}/\(∀y,y∈items->EqAt A.in1 s y x (e y))/\R (.ok (.ret (.int j s.toks))) {s with toks:=s.toks+1}):=by
 intro prog w A R s h;obtain⟨P,g,d,T,o⟩:=s;refine jr h λu p h=>?_;unfold Builtin.«tuple.index»;simp only[Std.Legacy.Range.forIn_eq_forIn_range']
 wp_walk
 refine Xh _
  (λr b S=>b=(none,())/\S={heap:=P,gens:=g,drawn:=d,toks:=T,os:=o}/\∃k,r=List.range' k (items.size-k)/\k<=j)
  _ (λa r b S hI=>?_) (λb S hI=>?_) (List.range' 0 (Std.Legacy.Range.size [:min 3e9 3e9])) (none,()) ⟨rfl,rfl,0,by simp,Wo _⟩
 ·obtain ⟨rfl, rfl, k, E, K⟩ := hI;have H:k<items.size:=by lia
  rw[show items.size-k=(items.size-(k+1))+1 by lia]at E;injection E with f i
  subst f i;rw[Xe H];dsimp only;refine Vd (p _ (Array.getElem_mem H) prog w _ _ ?_);by_cases c:a=j
  ·subst c;rw[t];simp only[VP]
   wp_walk
   exact h
  ·rw[O a H 0e0];simp only[Wl];exact Vg ⟨rfl,rfl,a+1,rfl,by lia⟩
 ·obtain ⟨rfl, rfl, k, E, K⟩ := hI;have:=VA List.length E;simp at this
  lia
end PySem
namespace L2
open PySem PySem.Spec PyProof.Rows RS
def An(K:W.Frag):V->List V->Hp->VK->Prop:=λx v H Q=>∃l S y s q,x=.ref l/\v=[y]/\ei K H l S/\RdPs K H s S/\oj K H q y/\PyData.canLayAll0 s=true/\fitP q=true/\(s.any λz=>PyData.eqv z q)=true/\Q (.int (s.findIdx λz=>PyData.eqv z q:Nat)) H
theorem B1 {X:Cx} (J:2e4):KO X "tuple.index" (An X.K):=by
 intro P s W H x T v L Q I d V h;obtain⟨l,k,y,S,q,rfl,rfl,hH,b,g,j,f,μ,hQ⟩:=h;cases d;obtain⟨u,rfl,U⟩:=V.one;obtain⟨i,r,⟨o,e,O,n,D⟩,Z⟩:=I.tuple hH;obtain⟨C,R⟩:=readsAll_of I S k i b r;obtain⟨bs,M⟩:=bX I q y u g U;have E:=fitP_depth f;have G:=SeqAt.readsAll_map S _ _ j R;have N:i.length=S.length:=by grind
 have t:=YC (by simpa using μ)
 have B:∀m (a:m<i.length) (c:m<S.length),SeqAt.readOf 2e7 i[m]=S[m]:=λm a c=>by
  grind
 obtain⟨ocls,odict,odata,oslots⟩:=o;cases O;cases D;refine V5 F.slot_tuple_index ⟨_,e,rfl⟩ F.entry_tuple_index (F.args_tuple_index_2 _ _) (rL l i.toArray n odict oslots u (λy=>PyData.eqv (SeqAt.readOf 2e7 y) q) (S.findIdx λz=>PyData.eqv z q) (by simp_all) ?_ ?_) ⟨e,SeqAt.items_eqAt R M j (fitP_lay f) ?_,?_⟩
 ·rw[List.getElem_toArray,B _ (by rw[N];exact t) t];exact List.findIdx_getElem (w:=t)
 ·simp_all
 ·have := VN (PyData.depthAll S) q.depth
  lia
 ·exact⟨.int (S.findIdx λz=>PyData.eqv z q:Nat),H,I.tok _,⟨s.toks,rfl⟩,hQ⟩
noncomputable def fv(d:D)(S:List D)(Y:ax):aq D:=match d,S with
 |.tup a,[x]=>match dc Y a,hW Y x with
  |some s,some q=>if PyData.canLayAll0 s=true/\fitP q=true/\(s.any λz=>PyData.eqv z q)=true then .ok (.int (s.findIdx λz=>PyData.eqv z q:Nat)) Y else .bad
  |_,_=>.bad
 |_,_=>.bad
theorem zi{p:Pa}:OO p fv (An p.K):=by
 intro d f v i H k l Q S D r P;unfold fv at P;split at P
 ·split at P
  ·split at P
   ·rename_i s q c z j;refine aP (aJ.mp D) λa U V h R=>?_;subst V;obtain⟨y,g,rfl,b,rfl⟩:=r;exact⟨a,U,y,s,q,rfl,rfl,h,mu S c R,iV S z b,j.1,j.2.1,j.2.2,P.now S _ (av.mpr rfl)⟩
   ·exact P.elim
  ·exact P.elim
 ·exact P.elim
noncomputable def vN(f:D->List D->ax->aq D)(fo:ME)(fr:MA):ME:=λb c=>(fo b c).bind λo d=>match o with
 |.tup S=>(fr b d).bind λs a=>f (.tup S) s a
 |_=>.bad
section
variable{X:Cx}{p:Pa}{fo:ME}
theorem Lh (U:2e4) (G:BE p X ob fo) (u:BA p X [e] fr) (hbase:autoParam (attributeBase ob "index" X.env (eval ob 1e7)=eval ob 1e7) ATr) (W:autoParam (((backTo pos (starEach [e] 1e7)).all (λx=>!x.1)&&(backToKw pos (keywordEach [] 1e7)).all (λx=>x.1.isSome)
   && decide ([e].length+([]:List Keyword).length+(if ([]:List Keyword).isEmpty then 0 else 1)<30))=true) ATr) (hline:(autoParam ((apos.endLine == pos.line)=true) ATr)) (hs:(autoParam (starEach [e] 1e7=(false,eval e 1e7)::starEach [] 1e7) ATr)) (L:(autoParam ((backTo pos (starEach [] 1e7)).any 3e2=false) ATr)) (hK:1e2):BE p X (.Call (.Attribute ob "index" apos) [e] [] pos) (vN fv fo fr):=.mk (by
 refine(Ku PySem.F.plainAttrs_tuple PySem.F.slot_tuple_index PySem.F.type_tuple_index (B1 U) G.h u.h hbase W hline hs L).weak λM H Q ⟨B,j,C,S,R,P⟩=>⟨B,j,C,S,R,(aI.bind P).imp λd c E i o m g v r=>?_⟩;cases d with
 |tup J=>
  rw[hK];refine aP (aJ.mp r) λa y V t I=>?_;subst V;exact⟨.inr (.inl ⟨rfl,y,t⟩),i,j,c,m,R.mono o,(aI.bind g).imp λs f l b q n k z w=>zi _ s _ z l b f Q n (r.mono q) w k⟩
 |_=>exact g.elim)
end
noncomputable def A6(i j:Nat)(f:MA):MS:=λg h=>(f g h).bindS λs c=>match s with
 |[d,e]=>.next ((g.set i (some d)).set j (some e)) c
 |_=>.bad
section
variable{X:Cx}{p:Pa}{a b:Expr}
theorem LL{y:Str}{py pt:Pos}{kt k2 pt2}(C:1e8)(hN:(X.N.Nodup))(I:4e0)(Z:X.N[j]?=some y)(J:i≠j)(o:4e5)(μ:X.env.scope.names.lookup y=some .local)(n:PA X [a,b] (yd p fr))(W:(swappedStores [.Tuple [.Name x px,.Name y py] kt pt] (.Tuple [a,b] k2 pt2) 1e7=pure (some [x,y])))(hs:swapsWithSole [.Tuple [.Name x px,.Name y py] kt pt] (.Tuple [a,b] k2 pt2) pos.line 1e7=pure false):
  PS X (.Assign [.Tuple [.Name x px,.Name y py] kt pt] (.Tuple [a,b] k2 pt2) pos) (mX p (A6 i j fr)):=
 (Mv C hN I Z J o μ n W hs).weak λD E H ⟨t, A, u, S, R, P⟩ => ⟨t, A, u, S, R, (aI.bindS P).imp λs z f c m g h B V => by
  match s,h,V with
  |[d,e],h,V=>
   obtain⟨v,r,rfl,k,w,q,rfl,l,rfl⟩:=V;exact⟨v,w,rfl,h f c _ j3.refl g (((R.mono m).set i k).set j l)⟩
  |[],h,_=>exact h.elim
  |[_],h,_=>exact h.elim
  |_::_::_::_,h,_=>exact h.elim⟩
theorem QE(i j:Nat){y:Str}{py pt:Pos}{kt k2 pt2}(hN:(X.N.Nodup))(n:BA p X [a,b] fr)(c:4e6)(H:(autoParam 4e0 ATr))(Z:autoParam (X.N[j]?=some y) ATr)(J:autoParam (i≠j) ATs)(d:(autoParam 4e5 ATr))(μ:autoParam (X.env.scope.names.lookup y=some .local) ATr)(W:autoParam (swappedStores [.Tuple [.Name x px,.Name y py] kt pt] (.Tuple [a,b] k2 pt2) 1e7=pure (some [x,y])) ATr)(hs:(autoParam (swapsWithSole [.Tuple [.Name x px,.Name y py] kt pt] (.Tuple [a,b] k2 pt2) pos.line 1e7=pure false) ATr)):
  BS p X (.Assign [.Tuple [.Name x px,.Name y py] kt pt] (.Tuple [a,b] k2 pt2) pos) (A6 i j fr):=⟨LL c hN H Z J d μ n.h W hs⟩
end
noncomputable def T8:Expr->List Str
 |.Name x _=>[x]
 |_=>[]
noncomputable def T7:Expr->List Str
 |.Tuple S _ _=>S.flatMap T8
 |e=>T8 e
noncomputable def J8(e:Expr)(cap:2e6)(N:List Str):List Str:=T7 e++cap.filterMap λo=>o.bind λi=>N[i]?
noncomputable def J9(s:(List Comprehension))(cap:2e6)(N:List Str):List Str:=s.flatMap (T7 ·.target)++cap.filterMap λo=>o.bind λi=>N[i]?
section
variable{X:Cx}{p:Pa}{a b c d:Expr}{g:MG}{ifs:(List Expr)}{cap:2e6}{tt:MT}{te:ME}
theorem SV(S:lN X.N X.env.scope scope (J8 tg cap X.N) cap=true)(i:(BI p X tg iter fi))(U:∀cl C s H fp,BG p.nx (e7 X (J8 tg cap X.N) scope cl C s H fp) tg g)(J:∀cl C s H fp,CQ p.nx (e7 X (J8 tg cap X.N) scope cl C s H fp) ifs tt)(n:∀cl C s H fp,BE p.nx (e7 X (J8 tg cap X.N) scope cl C s H fp) elt te)(j:4e6)(hs:1e3):BE p X 2e1 (bu fi cap g tt te):=Lj (oO rfl rfl S) i U J n j hs
theorem Ti(i:Nat)(hN:(X.N.Nodup))(S:lN X.N X.env.scope scope (J8 tg cap X.N) cap=true)(I:(BI p X tg iter fi))(U:∀cl C s H fp,BG p.nx (e7 X (J8 tg cap X.N) scope cl C s H fp) tg g)(J:∀cl C s H fp,CQ p.nx (e7 X (J8 tg cap X.N) scope cl C s H fp) ifs tt)(n:∀cl C s H fp,BE p.nx (e7 X (J8 tg cap X.N) scope cl C s H fp) elt te)(j:(autoParam 4e0 ATr))(f:(autoParam 4e5 ATr))(h:4e6)(W:(autoParam (swapsWith 2e1 (some (.Name x pos1)) pos2.line 1e7=pure true) ATr))(hs:1e3):BS p X (.Assign [.Name x pos1] 2e1 pos2) (aU (bu fi cap g tt te) (ag i)):=Mf i hN (oO rfl rfl S) I U J n j f h W hs
variable{mb:MB}{rest:(List Comprehension)}
theorem Th(i:Nat)(hN:(X.N.Nodup))(S:lN X.N X.env.scope scope (J9 (⟨tg,iter,ifs,0⟩::rest) cap X.N) cap=true)(I:(BI p X tg iter fi))(U:(∀cl C s H fp,BG p.nx 3e8 tg g))(J:(∀cl C s H fp,CQ p.nx 3e8 ifs tt))(B:∀cl C s H fp acc,GA p.nx 3e8 (.ListComp elt (⟨tg,iter,ifs,0⟩::rest) scope pos) 1 acc mb)(hz:(autoParam (kM (⟨tg,iter,ifs,0⟩::rest)=true) ATr))(j:(autoParam 4e0 ATr))(f:(autoParam 4e5 ATr))(h:4e6)(W:(autoParam (swapsWith (.ListComp elt (⟨tg,iter,ifs,0⟩::rest) scope pos) (some (.Name x pos1)) pos2.line 1e7=pure true) ATr))(hs:1e3):BS p X (.Assign [.Name x pos1] (.ListComp elt (⟨tg,iter,ifs,0⟩::rest) scope pos) pos2) (aU (ka fi cap g tt mb) (ag i)):=HR i hN (oO rfl rfl S) I U J B hz j f h W hs
theorem SU(S:lN X.N X.env.scope scope (J9 (⟨tg,iter,ifs,0⟩::rest) cap X.N) cap=true)(i:(BI p X tg iter fi))(U:(∀cl C s H fp,BG p.nx 3e8 tg g))(J:(∀cl C s H fp,CQ p.nx 3e8 ifs tt))(B:∀cl C s H fp acc,GA p.nx 3e8 (.SetComp elt (⟨tg,iter,ifs,0⟩::rest) scope pos) 1 acc mb)(hz:(autoParam (kM (⟨tg,iter,ifs,0⟩::rest)=true) ATr))(j:4e6)(hs:1e3)(W:(autoParam (X.w=p.w) ATr)):BE p X (.SetComp elt (⟨tg,iter,ifs,0⟩::rest) scope pos) (nj fi cap g tt mb):=G2 (oO rfl rfl S) i U J B hz j hs W
end
theorem sk{l:List Str}(h:decide l.Nodup=true):l.Nodup:=YD h
end L2
namespace Lw
open PySem L2
section
structure Nm(mg:5e1):Prop where
 all:mg "all" = none
 any:mg "any" = none
 bool:mg "bool" = none
 enumerate:mg "enumerate" = none
 int:mg "int" = none
 isinstance:mg "isinstance" = none
 len:mg "len" = none
 list:mg "list" = none
 max:mg "max" = none
 min:mg "min" = none
 range:mg "range" = none
 set:mg "set" = none
 sorted:mg "sorted" = none
 tuple:mg "tuple" = none
 zip:mg "zip" = none
noncomputable def lV:MS:=bx (gO (oR (iB "int") 2e3) (we (oR (iB "bool") 2e3)))
noncomputable def eO:List D->ax->aq D:=eH 1 1 lV
noncomputable def eG:MS:=bx (gO (au eO (af 2e3 (aw))) (nk (eJ .LtE) (eJ .LtE) 5e7 2e3 (ah 2)))
noncomputable def bD:List D->ax->aq D:=eH 3 3 eG
noncomputable def lW:MS:=bx (au bD (af 5e7 (af 2e8 (af (ay iT 2e3 2e2) (aw)))))
noncomputable def eP:List D->ax->aq D:=eH 2 2 lW
noncomputable def gu:ME:=au eP (af 5e7 (af 2e3 (aw)))
noncomputable def ku:MS:=bx (gO (oR (iB "tuple") 5e7) (au pf (af (bu (cI 5e7) [none,some 0] (ag 0) (aV) (gu)) (aw))))
noncomputable def cO:List D->ax->aq D:=eH 2 2 ku
noncomputable def gr:ME:=ay (eJ .Lt) (ay cj 5e7 (ay iT 2e3 2e2)) (ay cj 5e7 2e3)
noncomputable def kr:MS:=bx (au pf (af (bu (ej vH (af 2e2 (af (au gE (af 2e3 (aw))) (aw)))) [none,some 0] (ag 0) (aV) (gr)) (aw)))
noncomputable def df:List D->ax->aq D:=eH 1 1 kr
noncomputable def iz:MS:=bx (gO (au cO (af 2e3 1e4)) (gO (ay (eJ .Gt) (au gE 1e4) 2e8) (au df 1e4)))
noncomputable def cG:List D->ax->aq D:=eH 2 2 iz
noncomputable def tR:MS:=bx (au bD (af 2e3 (af 2e2 (af (cC (.int 6)) (aw)))))
noncomputable def jm:List D->ax->aq D:=eH 1 1 tR
noncomputable def tQ:MS:=bx (gO (au cO (af 2e3 1e4)) (gO (ay (hZ false) (au gE 1e4) (cC (.int 2))) (ay (hZ true) (ay cj 5e7 2e8) (ay cj 5e7 2e2))))
noncomputable def g9:List D->ax->aq D:=eH 2 2 tQ
noncomputable def xH:MS:=bx (gO (au g9 (af 2e3 1e4)) (ay (eJ .Lt) (ay cj 5e7 2e8) (ay cj 5e7 2e2)))
noncomputable def mG:List D->ax->aq D:=eH 2 2 xH
noncomputable def kq:ME:=au mG (af 5e7 (af 2e3 (aw)))
noncomputable def tO:MS:=bx (gO (oR (iB "tuple") 5e7) (gO (au pf (af (bu (cI 5e7) [none,some 0] (ag 0) (aV) (kq)) (aw))) (au df 1e4)))
noncomputable def kU:List D->ax->aq D:=eH 2 2 tO
noncomputable def qS:MS:=aO (jL (ph (dy (eg (oR (iB "tuple") 2e3))) (e0 (ay (hZ true) (au gE (af 2e3 (aw))) (cC (.int 2))))) (bx (cC (.bl false))) (bW))
 (aO (aU 2e3 (bc 2 (aD (ag 1) (aD (ag 2) (bf)))))
 (bx (gO (au jm 1e4) (au kU (af 5e7 4e1)))))
noncomputable def fW:List D->ax->aq D:=eH 1 3 qS
noncomputable def lT:MS:=jL (dy (eg (au g9 (af 2e3 (af (ah 3) (aw)))))) (oo) (bW)
noncomputable def qQ:ME:=cK (af (au rG (af 2e3 (aw))) (af (au lB (af 2e3 (aw))) (aw)))
noncomputable def jG:MB:=zR (qQ)
noncomputable def xG:MS:=aO (jL (dy (eg (au jm (af 2e3 (aw))))) (oo) (bW))
 (aO (h7 (ej iE 1e4) (bc 2 (aD (ag 2) (aD (ag 3) (bf)))) lT)
 (bx (cK (af 2e3 (af (au dE (af (au bL (af (nj (cI 5e7) [none] (ag 0) (aV) (jG)) (aw))) (aw))) (aw))))))
noncomputable def ji:List D->ax->aq D:=eH 2 4 xG
noncomputable def lx:MS:=jL (dy (eg (au eP (af (ay cj 2e3 2e8) 1e4)))) (oo) (bW)
noncomputable def bP:List D->ax->aq D:=eH 2 2 lx
noncomputable def jW:ME:=ah 1
noncomputable def gI:MT:=e0 (ay (iC false) 2e3 (ah 2))
noncomputable def jV:ME:=ah 0
noncomputable def gH:MT:=e0 (ay (iC false) 5e7 (ah 2))
noncomputable def lq:MS:=bx (ay du (bu (cI 2e3) [none,none,some 1] (bc 2 1e6) (gI) (jW)) (bu (cI 2e3) [none,none,some 1] (bc 2 1e6) (gH) (jV)))
noncomputable def ez:List D->ax->aq D:=eH 2 2 lq
noncomputable def lp:ME:=ah 0
noncomputable def i0:MT:=e0 (ay (lC false) (ay cj 5e7 2e3) (cC .non))
noncomputable def gn:MS:=aU (ah 5) (nU (ah 4) (ah 7))
noncomputable def et:MS:=aO (rC 5 iF 2e2)
 (aO (aU (bu (cI (au ez (af (ah 3) (af (ah 6) (aw))))) [none,some 4] (ag 0) (i0) (lp)) (ag 6))
 (h7 (cI (ah 6)) (ag 7) gn))
noncomputable def oh:MS:=aO (aU 2e3 (bc 2 (aD (ag 2) (aD (ag 3) (bf)))))
 (aO (aU (ay pd (gF (af (cC .non) (aw))) (ah 2)) (ag 4))
 (aO (aU 2e8 (nU (ah 4) 5e7))
 (aO (aU 2e8 (ag 5))
 (aO (aU (gF 1e4) (ag 6))
 (aO (lH 100 (eg (ah 6)) et)
 (bx (ah 4)))))))
noncomputable def dX:List D->ax->aq D:=eH 2 8 oh
noncomputable def xI:MS:=aO (dv (au bP (af 2e3 1e4)))
 (aO (dv (au bP (af 2e3 4e1)))
 (bx (ay cj (au dX (af 2e3 1e4)) (ah 2))))
noncomputable def mH:List D->ax->aq D:=eH 3 3 xI
noncomputable def tN:MS:=aO (dv (au bP (af 2e3 1e4)))
 (bx (au dE (af (au bL (af (au pb (af (ay du (gF 1e4) (au ez (af (ay cj 2e3 2e2) (af (gF 1e4) (aw))))) (aw))) (aw))) (aw))))
noncomputable def fS:List D->ax->aq D:=eH 2 2 tN
noncomputable def i5:ME:=cK (af 5e7 (af 2e3 (aw)))
noncomputable def gm:MT:=iG (e0 (ay (lC true) (ay cj (ah 3) 2e3) (cC .non))) (e0 (ay (eJ .LtE) (ay cj (ah 3) 2e3) (ah 2)))
noncomputable def i3:MS:=aO (aU (au dX (af 2e3 (af (ah 4) (aw)))) (ag 5))
 (rC 3 iF (bu (ej vH (af (ay du (ah 4) 2e2) 4e1)) [none,some 4,some 1,some 5] (ag 0) (gm) (i5)))
noncomputable def n9:MS:=aO (jL (dy (eg (au bD (af 5e7 (af 2e2 (af (cC (.int 6)) (aw))))))) (oo) (bW))
 (aO (aU (ay cj 2e3 2e8) (ag 2))
 (aO (aU (gF (aw)) (ag 3))
 (aO (h7 (ej ja 4e1) (ag 4) i3)
 (bx (cK (af (ah 2) (af (au dE (af (ah 3) (aw))) (aw))))))))
noncomputable def eY:List D->ax->aq D:=eH 2 6 n9
noncomputable def qT:MS:=bx (au eY (af 2e3 (af (cC (.int 2)) (aw))))
noncomputable def di:List D->ax->aq D:=eH 1 1 qT
noncomputable def oe:MS:=bx (gO (au fW 1e4) (ay (hZ false) (au di 1e4) 2e3))
noncomputable def eZ:List D->ax->aq D:=eH 2 2 oe
noncomputable def ly:MS:=jL (ph (dy (eg (au fW 1e4))) (e0 (ay (hZ true) (ay cj 5e7 2e8) (ay cj 2e3 2e8)))) (oo) (bW)
noncomputable def cx:List D->ax->aq D:=eH 2 2 ly
noncomputable def oD:ME:=ah 0
noncomputable def jT:MT:=e0 (ay (iC true) 2e3 5e7)
noncomputable def oC:ME:=ah 0
noncomputable def jS:MT:=e0 (ay (iC true) 2e3 5e7)
noncomputable def lr:MS:=aO (dv (au cx (af 2e3 1e4)))
 (aO (aU (ay cj 2e3 2e2) (ag 2))
 (aO (aU (ay cj (au di 1e4) 2e2) (ag 3))
 (aO (aU (au dE (af (bu (cI (ah 2)) [none,some 3] (ag 0) (jT) (oD)) (aw))) (ag 4))
 (aO (aU (au dE (af (bu (cI (ah 3)) [none,some 2] (ag 0) (jS) (oC)) (aw))) (ag 5))
 (bx (cK (af (ah 4) (af (ah 5) (aw)))))))))
noncomputable def eA:List D->ax->aq D:=eH 2 6 lr
noncomputable def i8:MS:=aO (aU (au eA (af 2e3 1e4)) (bc 2 (aD (ag 2) (aD (ag 3) (bf)))))
 (aO (jL (iG (dy (eg (ah 2))) (dy (eg (ah 3)))) (bx (cC .non)) (bW))
 (aO (aU (au nW (af (ay du (ah 2) (ah 3)) (aw))) (bc 2 (aD (ag 4) (aD (ag 5) (bf)))))
 (aO (aU (O0 (e0 (ay (iC false) (cK (af (ah 4) (af (ah 5) (aw)))) (ah 2))) (cC (.str "lacks")) (cC (.str "more"))) (ag 6))
 (bx (cK (af (ah 6) (af (ah 4) (af (ah 5) (aw)))))))))
noncomputable def cU:List D->ax->aq D:=eH 2 7 i8
noncomputable def ky:ME:=ah 0
noncomputable def ip:MT:=iG (e0 (ay (iC false) 2e3 5e7)) (e0 (ay (iC true) 2e3 (cK (af (ah 2) (af (ah 3) (aw))))))
noncomputable def iq:ME:=cK (af 5e7 (af 2e3 4e1))
noncomputable def mO:MS:=aO (dv (au bP (af 2e3 1e4)))
 (aO (dv (au bP (af 2e3 4e1)))
 (aO (jL (e0 (ay (hZ false) 5e7 (ah 2))) (bx (gF (aw))) (bW))
 (aO (aU (au fS (af 2e3 1e4)) (ag 3))
 (aO (aU (bu (cI (au fS (af 2e3 4e1))) [none,some 3,some 1,some 2] (ag 0) (ip) (ky)) (ag 4))
 (aO (aU (bu (cI (ah 4)) [none,some 1,some 2] (ag 0) (aV) (iq)) (ag 5))
 (aO (jL (e0 (ay (iC false) (ah 2) (ah 3))) (dv (sd bJ (ah 5) (af (cK (af 5e7 4e1)) (aw)))) (bW))
 (bx (au bL (af (ah 5) (aw))))))))))
noncomputable def d5:List D->ax->aq D:=eH 3 6 mO
noncomputable def tP:MS:=aO (jL (dy (eg (au cO (af (ay cj 2e3 2e8) 4e1)))) (bx (cC (.bl false))) (bW))
 (bx (ay (iC false) (ah 2) (au d5 (af 2e3 (af (ay cj 5e7 2e8) (af (ay cj 5e7 2e2) (aw)))))))
noncomputable def kX:List D->ax->aq D:=eH 3 3 tP
noncomputable def i6:ME:=au kX (af (ah 2) (af 2e3 1e4))
noncomputable def oa:MS:=aO (dv (au cx (af 2e3 1e4)))
 (aO (aU (ay cj 2e3 2e2) (ag 3))
 (aO (jL (ph (dy (eg (oR (iB "tuple") (ah 2)))) (e0 (ay (hZ true) (au gE 4e1) (au gE (af (ah 3) (aw)))))) (bx (cC (.bl false))) (bW))
 (bx (au pf (af (bu (ej A3 (af (ah 3) 4e1)) [none,none,some 1] (bc 2 1e6) (aV) (i6)) (aw))))))
noncomputable def gz:List D->ax->aq D:=eH 3 4 oa
noncomputable def fF:ME:=au d5 (af (ah 2) (af 2e3 1e4))
noncomputable def rk:ME:=ay cj 2e3 2e8
noncomputable def mQ:MS:=aO (dv (au cx (af 2e3 1e4)))
 (aO (aU (bu (cI (ay cj 2e3 2e2)) [none,none,some 1] (bc 2 1e6) (aV) (fF)) (ag 2))
 (aO (jL (dy (eg (au pF 4e1))) (bx (cC .non)) (bW))
 (bx (au dE (af (bu (cI (ah 2)) [none] (ag 0) (aV) (rk)) (aw))))))
noncomputable def gW:List D->ax->aq D:=eH 2 3 mQ
noncomputable def i7:ME:=ah 0
noncomputable def iZ:MT:=e0 (ay (lC true) 5e7 (cC .non))
noncomputable def i4:MS:=aO (aU (au dX (af 2e3 4e1)) (ag 3))
 (aO (aU (au dE (af (bu (ej iE (af (ah 3) (aw))) [none,none] (bc 2 1e6) (iZ) (i7)) (aw))) (ag 4))
 (jL (e0 (ay (hZ false) (ay cj (ah 4) 2e8) (ah 2))) (dv (sd bJ 5e7 (af (ah 4) (aw)))) (bW)))
noncomputable def og:MS:=aO (aU (gF (aw)) (ag 1))
 (aO (h7 (ej ja (af (ay cj 2e3 2e8) (aw))) (ag 2) i4)
 (bx 5e7))
noncomputable def gA:List D->ax->aq D:=eH 1 5 og
noncomputable def lU:ME:=cK (af 2e3 1e4)
noncomputable def qM:MT:=iG (e0 (ay (iC false) 2e3 (ah 2))) (e0 (ay (iC false) 5e7 (ah 2)))
noncomputable def qP:ME:=cK (af (vN fv (ah 2) (af 2e3 (aw))) (af (vN fv (ah 2) 1e4) (aw)))
noncomputable def xF:MS:=aO (aU 2e3 (bc 2 (aD (ag 2) (aD (ag 3) (bf)))))
 (aO (jL (dy (eg (au cG (af (ah 2) 1e4)))) (oo) (bW))
 (aO (aU (bu (cI (ah 3)) [none,none,some 1] (bc 2 1e6) (qM) (lU)) (ag 4))
 (bx (au ji (af (au gE 1e4) (af (bu (cI (ah 4)) [none,none,some 1] (bc 2 1e6) (aV) (qP)) (aw)))))))
noncomputable def mF:List D->ax->aq D:=eH 2 5 xF
noncomputable def qR:ME:=cK (af (ay du (ah 2) 2e3) (af (ay du (ah 2) 5e7) (aw)))
noncomputable def Gf:MS:=aO (aU 2e3 (bc 2 (aD (ag 2) (aD (ag 3) (bf)))))
 (aO (aU 5e7 (bc 2 (aD (ag 4) (aD (ag 5) (bf)))))
 (aO (aU (ay du (ah 2) (ah 4)) (ag 6))
 (aO (jL (e0 (ay (eJ .Gt) (ah 6) (cC (.int 6)))) (oo) (bW))
 (bx (au ji (af (ah 6) (af (ay du (au jQ (af (ah 3) (aw))) (bu (cI (ah 5)) [none,none,some 2] (bc 2 1e6) (aV) (qR))) (aw))))))))
noncomputable def kh:List D->ax->aq D:=eH 2 7 Gf
noncomputable def mT:MS:=aO (aU (au gE (af (ay cj 2e3 2e2) (aw))) (ag 1))
 (jL (e0 (ay (eJ .Gt) 5e7 (cC (.int 12)))) (oo) (bW))
noncomputable def gZ:List D->ax->aq D:=eH 1 2 mT
noncomputable def mN:ME:=gF (aw)
noncomputable def fw:MS:=aO (dv (sd bJ (ay cj (ah 3) (ah 5)) (af (cK (af (ah 6) (af (ay vK 2e2 (ah 4)) (aw)))) (aw))))
 (dv (sd bJ (ay cj (ah 3) (ah 6)) (af (cK (af (ah 5) (af (ay vK 2e2 (ah 4)) (aw)))) (aw))))
noncomputable def qU:MS:=aO (aU 2e3 (bc 2 (aD (ag 1) (aD (ag 2) (bf)))))
 (aO (aU (bu (ej ja 1e4) [none] (ag 0) (aV) (mN)) (ag 3))
 (aO (h7 (ej iE 4e1) (bc 2 (aD (ag 4) (aD (bc 2 (aD (ag 5) (aD (ag 6) (bf)))) (bf)))) fw)
 (bx (ah 3))))
noncomputable def jH:List D->ax->aq D:=eH 1 7 qU
noncomputable def f7:ME:=cK (af (cK (af 2e3 (aw))) (af 2e8 (aw)))
noncomputable def f6:ME:=cK (af (ay du 2e3 (cK 4e1)) (af (ay OK 5e7 (ah 3)) (aw)))
noncomputable def fX:MT:=e0 (ay (iC true) (ah 2) 2e3)
noncomputable def d7:MB:=pK (cI (ay cj (ah 4) (ay cj 2e3 (oR t5 2e2)))) (bc 2 (aD (ag 2) (aD (ag 3) (bf)))) (fX) (pD (f6))
noncomputable def d8:MS:=jL (e0 (ay (eJ .Lt) (ay cj (ah 6) 2e8) (ay cj (ah 6) (oR t5 2e2)))) (dv (sd bJ (Dd Gu (ah 2) (af (cK (af (ay cj (ah 6) 2e8) (af (ay cj (ah 6) (oR t5 2e2)) (aw)))) (af (gF (aw)) (aw)))) (af (ah 7) (aw)))) (bW)
noncomputable def fZ:MS:=aO (aU (ka (cI (ah 4)) [none,none,none,none,some 3] (bc 2 1e6) (aV) (d7)) (ag 4))
 (h7 (cI (ah 4)) (bc 2 (aD (ag 6) (aD (ag 7) (bf)))) d8)
noncomputable def kB:MS:=aO (aU (GJ) (ag 2))
 (aO (aU (au jH (af 2e3 (aw))) (ag 3))
 (aO (aU (bu (ej ja (af (ay cj 2e3 2e8) (aw))) [none] (ag 0) (aV) (f7)) (ag 4))
 (aO (h7 (ej ja 1e4) (ag 5) fZ)
 (bx (ah 2)))))
noncomputable def fC:List D->ax->aq D:=eH 2 8 kB
noncomputable def kA:ME:=gF (aw)
noncomputable def fB:MS:=dv (sd bJ (ay cj (ah 2) (ay iT (oR Kd (ah 4)) 2e2)) (af (ah 4) (aw)))
noncomputable def fA:MS:=jL (e0 (ay (iC true) (ah 3) 2e3)) (h7 (cI (ay t6 5e7 (ah 3))) (ag 4) fB) (bW)
noncomputable def mS:MS:=aO (aU (bu (cI 2e3) [none] (ag 0) (aV) (kA)) (ag 2))
 (aO (h7 (R6 5e7) (ag 3) fA)
 (bx (ah 2)))
noncomputable def gX:List D->ax->aq D:=eH 2 5 mS
noncomputable def kz:ME:=gF (aw)
noncomputable def fz:MS:=dv (sd bJ (ay cj 5e7 (ay iT (oR Kd (au lB 4e1)) 2e2)) 4e1)
noncomputable def mP:MS:=aO (aU (bu (cI 2e3) [none] (ag 0) (aV) (kz)) (ag 1))
 (aO (h7 (cI 2e3) (ag 2) fz)
 (bx 5e7))
noncomputable def gU:List D->ax->aq D:=eH 1 3 mP
noncomputable def n8:ME:=ay (hZ false) (ay Bb 5e7 2e3) 2e3
noncomputable def tS:MS:=bx (au ym (af (bu (cI 5e7) [none,some 0] (ag 0) (aV) (n8)) (aw)))
noncomputable def jn:List D->ax->aq D:=eH 2 2 tS
noncomputable def fH:ME:=ay t6 5e7 2e3
noncomputable def fG:ME:=ay OK 2e3 (ay vK 2e2 5e7)
noncomputable def iw:ME:=ah 0
noncomputable def fy:MT:=dy (eg (au jn (af 2e3 (af (ay cj 5e7 (ah 2)) (aw)))))
noncomputable def iu:ME:=au jn (af 5e7 (af 2e3 (aw)))
noncomputable def ir:ME:=ah 0
noncomputable def dY:MT:=eg (au pf (af (bu (cI (ay cj 5e7 (ah 2))) [none,some 0] (ag 0) (aV) (iu)) (aw)))
noncomputable def dZ:MS:=aO (aU (gF (aw)) (ag 9))
 (aO (jL (ph (e0 (ay (eJ .GtE) (ah 8) (au gE 4e1))) (dy (eg (ay cj (ah 2) (ah 8))))) (rC 9 iF (ah 7)) (bW))
 (aO (jL (ph (e0 (ay (eJ .GtE) (ah 8) (au gE 4e1))) (eg (ay cj (ah 2) (ah 8)))) (aO (aU (bu (cI (ah 7)) [none,some 8] (ag 0) (aV) (fG)) (ag 10))
 (rC 9 iF (bu (cI (ah 10)) [none,some 5,some 8] (ag 0) (fy) (iw)))) (bW))
 (aU (bu (cI (ah 9)) [none,some 6,some 8] (ag 0) (dY) (ir)) (ag 7))))
noncomputable def jK:MS:=aO (aU (ay cj 2e3 2e2) (ag 3))
 (aO (aU (au fC (af 2e3 1e4)) (ag 4))
 (aO (aU (au gX (af (ah 3) (af (ah 4) (aw)))) (ag 5))
 (aO (aU (au gU (af (bu (cI (ah 3)) [none,some 4] (ag 0) (aV) (fH)) (aw))) (ag 6))
 (aO (aU (gF (af 2e8 (aw))) (ag 7))
 (aO (h7 (ej ja (af (au gE (af (ah 3) (aw))) (aw))) (ag 8) dZ)
 (bx (ah 7)))))))
noncomputable def gY:List D->ax->aq D:=eH 3 11 jK
noncomputable def oE:ME:=ah 1
noncomputable def jU:MT:=eg (ay Bb (ay GH (ah 2) 2e3) 2e2)
noncomputable def lu:MS:=bx (au dE (af (bu (ej iE (af 2e3 (aw))) [none,none,some 1] (bc 2 1e6) (jU) (oE)) (aw)))
noncomputable def gp:List D->ax->aq D:=eH 2 2 lu
noncomputable def g6:ME:=cK (af 5e7 (af (au gp (af (ah 2) (af 2e3 (aw)))) (aw)))
noncomputable def qW:MS:=aO (aU 2e3 (bc 2 (aD (ag 2) (aD (ag 3) (bf)))))
 (bx (au bL (af (bu (cI (au gY (af 2e3 (af 5e7 (af (cK (aw)) (aw)))))) [none,some 2,some 3] (ag 0) (aV) (g6)) (aw))))
noncomputable def jJ:List D->ax->aq D:=eH 2 4 qW
noncomputable def qV:MS:=bx (au jJ (af 2e3 (af (cC (.int 2)) (aw))))
noncomputable def jI:List D->ax->aq D:=eH 1 1 qV
noncomputable def mR:MS:=aO (dv (au gZ (af 2e3 (aw))))
 (bx (au pE (af (au jI (af 2e3 (aw))) (aw))))
noncomputable def fx:List D->ax->aq D:=eH 1 1 mR
noncomputable def iy:MS:=aO (jL (e0 (ay (eJ .Lt) 5e7 (au gE (af 2e3 (aw))))) (bx (ay cj 2e3 5e7)) (bW))
 (bx 2e8)
noncomputable def fE:List D->ax->aq D:=eH 2 2 iy
noncomputable def oi:MS:=aO (aU (ay vL (ay du 2e3 (cC (.int 7919))) (cC (.int 2147483647))) (ag 0))
 (bx (ay vL (ay du (ay du (ay pd 2e3 2e3) (ay pd (cC (.int 48271)) 2e3)) (cC (.int 12345))) (cC (.int 2147483629))))
noncomputable def gB:List D->ax->aq D:=eH 1 1 oi
noncomputable def lA:MS:=aO (aU (au lB (af 2e3 (af (ay iT 2e8 2e3) (aw)))) (ag 1))
 (bx (gF (af 5e7 (af (au so (af (ay (eJ .GtE) 5e7 (ay K0 (cC (.int 10)) (cC (.int 18)))) (aw))) (af (ay vL 5e7 (cC (.int 1000003))) (aw))))))
noncomputable def gq:List D->ax->aq D:=eH 1 2 lA
noncomputable def kv:MS:=aO (jL (e0 (ay (hZ false) (ay cj 2e3 2e2) 2e2)) (aO (aU (ay vL (ay cj 2e3 2e8) 5e7) (ag 2))
 (aO (aU (ay sr (ay cj 2e3 2e8) 5e7) (nU 2e3 2e8))
 (bx (ah 2)))) (bW))
 (aO (aU (au gB (af (ay du (au gB (af (ay cj 2e3 (cC (.int 2))) (aw))) (cC (.int 7))) (aw))) (nU 2e3 (cC (.int 2))))
 (bx (ay vL (ay sr (ay cj 2e3 (cC (.int 2))) (cC (.int 64))) 5e7)))
noncomputable def bC:List D->ax->aq D:=eH 2 3 kv
noncomputable def gJ:ME:=cK (af (au rG (af 2e3 1e4)) (af (au lB (af 2e3 1e4)) (aw)))
noncomputable def lz:MS:=bx (cK (af 2e3 (af (au dE (af (au bL (af (au pb (af (bu (cI 5e7) [none,none] (bc 2 1e6) (aV) (gJ)) (aw))) (aw))) (aw))) (aw))))
noncomputable def cy:List D->ax->aq D:=eH 2 2 lz
noncomputable def dr:ME:=cK (af 2e3 1e4)
noncomputable def dj:MT:=e0 (ay (hZ false) (au bC (af (ah 2) (af (ah 3) (aw)))) 2e8)
noncomputable def dm:MS:=dv (sd gk (ah 4) (af (bu (ej ja (af (ah 5) (aw))) [none,some 5,some 0,some 3] (ag 0) (dj) (dr)) (aw)))
noncomputable def jq:MS:=aO (aU (ay du 2e2 (au bC (af 2e3 1e4))) (ag 2))
 (aO (aU (ay du (cC (.int 2)) (au bC (af 2e3 (af (cC (.int 3)) (aw))))) (ag 3))
 (aO (aU (gF (aw)) (ag 4))
 (aO (h7 (ej ja 4e1) (ag 5) dm)
 (bx (au cy (af (ah 2) (af (ah 4) (aw))))))))
noncomputable def bq:List D->ax->aq D:=eH 2 6 jq
noncomputable def f9:ME:=ay iT (ay du 2e3 5e7) (ah 2)
noncomputable def fY:MT:=e0 (ay (iC false) (ah 2) (cK (af 2e3 1e4)))
noncomputable def kC:MS:=bx (bu (cI (ay cj 2e3 2e2)) [none,none,some 1] (bc 2 1e6) (fY) (f9))
noncomputable def fD:List D->ax->aq D:=eH 2 2 kC
noncomputable def cT:ME:=cK (af 5e7 (af 2e3 (aw)))
noncomputable def cQ:MT:=e0 (ay (eJ .Lt) 5e7 2e3)
noncomputable def cS:MS:=dv (sd gk 5e7 (af (bu (cI (ah 3)) [none,some 4] (ag 0) (cQ) (cT)) (aw)))
noncomputable def cR:MS:=aO (aU (au fD (af 2e3 4e1)) (ag 3))
 (h7 (cI (ah 3)) (ag 4) cS)
noncomputable def iA:MS:=aO (aU (au jQ (af (ay cj 2e3 2e2) (aw))) (ag 1))
 (aO (h7 (ej ja (af (ay cj 2e3 2e8) (aw))) (ag 2) cR)
 (bx (au cy (af (ay cj 2e3 2e8) 1e4))))
noncomputable def dq:List D->ax->aq D:=eH 1 5 iA
noncomputable def d9:ME:=ah 0
noncomputable def d6:MT:=e0 (ay (hZ true) 2e3 5e7)
noncomputable def fI:MS:=aO (aU (au bq (af 2e3 1e4)) (ag 2))
 (aO (aU (au bC (af 2e3 (af (cC (.int 4)) (aw)))) (ag 3))
 (aO (jL (e0 (ay (hZ false) (ah 3) 2e8)) (bx (ah 2)) (bW))
 (aO (aU (au dq 4e1) (ag 2))
 (aO (jL (iG (e0 (ay (hZ false) (ah 3) (cC (.int 3)))) (e0 (ay (eJ .Gt) (ay cj (ah 2) 2e8) 2e2))) (aO (aU (au bC (af 2e3 (af (ay iT (ay cj (ah 2) 2e8) 2e2) (aw)))) (ag 4))
 (aO (aU (cK (af (ah 4) (af (ay du (ay du (ah 4) 2e2) (au bC (af 2e3 (af (ay iT (ay iT (ay cj (ah 2) 2e8) 2e2) (ah 4)) (aw))))) (aw)))) (ag 5))
 (aO (aU (bu (cI (ay cj (ah 2) 2e2)) [none,some 5] (ag 0) (d6) (d9)) (ag 6))
 (aO (jL (e0 (ay (iC true) (ah 5) (ay cj (ah 2) 2e2))) (dv (sd bJ (ah 6) (af (ah 5) (aw)))) (bW))
 (aU (au cy (af (ay cj (ah 2) 2e8) (af (ah 6) (aw)))) (ag 2)))))) (bW))
 (bx (ah 2))))))
noncomputable def c0:List D->ax->aq D:=eH 2 7 fI
noncomputable def cP:MS:=dv (sd j9 (ah 3) (af (au bC (af 2e3 (af (au gE (af (ah 3) (aw))) (aw)))) (aw)))
noncomputable def jX:MS:=aO (aU (au jQ (af (ay cj 5e7 2e2) (aw))) (ag 3))
 (aO (lH 100 (e0 (ay (eJ .Gt) (au gE (af (ah 3) (aw))) (ah 2))) cP)
 (bx (cK (af (ay cj 5e7 2e8) (af (au dE (af (ah 3) (aw))) (aw))))))
noncomputable def eF:List D->ax->aq D:=eH 3 4 jX
noncomputable def eQ:MS:=jL (e0 (ay (hZ true) (ay (hZ true) (au d5 (af 5e7 (af (ah 5) (af (ah 6) (aw))))) (gF (aw))) (ay (iC false) (au mH (af 5e7 (af (ah 5) (af (ah 6) (aw))))) (cK (af 2e2 (af (cC (.int 2)) (aw))))))) (bx (cC (.bl false))) (bW)
noncomputable def dk:MS:=h7 (ej ja (af (ay cj 2e3 2e8) (aw))) (ag 6) eQ
noncomputable def jo:MS:=aO (aU (au eZ (af 2e3 1e4)) (ag 2))
 (aO (aU (au eA (af 2e3 1e4)) (ag 3))
 (aO (jL (ph (e0 (ay (hZ true) (ah 2) (ay (hZ false) (ah 3) (cK (af (cK (aw)) (af (cK (aw)) (aw))))))) (e0 (ay (hZ true) (ah 2) (ay (lC false) (au cU (af 2e3 1e4)) (cC .non))))) (bx (cC (.bl false))) (bW))
 (aO (aU (au gW (af 2e3 1e4)) (ag 4))
 (aO (jL (ph (e0 (ay (hZ true) (ay (lC false) (ah 4) (cC .non)) (ay (hZ true) (ay cj (ah 3) 2e8) (cK (aw))))) (iG (e0 (ay (lC true) (ah 4) (cC .non))) (e0 (ay (GI true) (au gz (af 2e3 (af 5e7 (af (ah 4) (aw))))) (cC (.bl true)))))) (bx (cC (.bl false))) (bW))
 (aO (jL (dy (eg (au eZ (af (au di 1e4) 1e4)))) (bx (cC (.bl false))) (bW))
 (aO (h7 (ej ja (af (ay cj 2e3 2e8) (aw))) (ag 5) dk)
 (bx (cC (.bl true)))))))))
noncomputable def bN:List D->ax->aq D:=eH 2 7 jo
theorem Md:iQ ["_law_script", "_law_cell", "_law_pen", "_law_one", "_law_web", "_law_again", "_law_found", "_law_some", "_law_few", "_law_other"] ["_law_script"] (aY lG):=⟨rfl,rfl,rfl,by decide +kernel,rfl,by decide +kernel,by decide +kernel⟩
noncomputable def mq:ME:=ah 0
noncomputable def ml:MT:=e0 (ay (hZ false) (au bC (af 5e7 (af (cC (.int 2)) (aw)))) 2e8)
noncomputable def mn:ME:=au fx (af (au mF (af 5e7 (af 2e3 (aw)))) (aw))
noncomputable def u4:MS:=aO (aU (au gq 1e4) (ag 2))
 (aO (aU (au bq (af (ah 2) (af (cC (.int 6)) (aw)))) (ag 3))
 (aO (aU (au eF (af (ah 2) (af (au c0 (af (ah 2) (af (cC (.int 6)) (aw)))) (af (cC (.int 8)) (aw))))) (ag 4))
 (aO (aU (cK (af (ay cj (ah 4) 2e8) (af (au dE (af (bu (cI (ay cj (ah 4) 2e2)) [none,some 2] (ag 0) (ml) (mq)) (aw))) (aw)))) (ag 5))
 (aO (jL (ph (dy (eg (au bN (af (au di (af (ah 3) (aw))) (af (ah 3) (aw)))))) (dy (eg (au bN (af (ah 4) (af (ah 5) (aw))))))) (bx (cC (.bl false))) (bW))
 (aO (aU (au fx (af (ah 4) (aw))) (ag 6))
 (aO (jL (iG (e0 (ay (lC true) (ah 6) (cC .non))) (dy (eg (au bN (af (ah 4) (af (ah 6) (aw))))))) (bx (cC (.bl false))) (bW))
 (aO (aU (bu (cI (au gA (af (ah 4) (aw)))) [none,some 4] (ag 0) (aV) (mn)) (ag 7))
 (aO (jL (e0 (ay (hZ true) (ay (lC false) (ah 6) (cC .non)) (ay (iC false) (cC .non) (ah 7)))) (bx (cC (.bl false))) (bW))
 (aO (A6 8 9 (af (au bq (af (ah 2) (af (cC (.int 3)) (aw)))) (af (au bq (af (ah 2) (af (cC (.int 3)) (aw)))) (aw))))
 (jL (dy (eg (au eZ (af (au kh (af (au di (af (ah 8) (aw))) (af (au di (af (ah 9) (aw))) (aw)))) (af (au kh (af (ah 8) (af (ah 9) (aw)))) (aw)))))) (bx (cC (.bl false))) (bW)))))))))))
noncomputable def KH:MS:=aO (h7 (cI (ay du (gF (af (au fE (af 2e3 (af 2e8 (aw)))) (aw))) (OZ 2e3 (vV 2e2) (vV (cC (.int 5)))))) (ag 1) u4)
 (bx (cC (.bl true)))
noncomputable def wg:List D->ax->aq D:=eH 1 10 KH
end
end Lw
set_option hygiene false in
local macro_rules|`(tactic|exists $p,$l)=>`(tactic|(show BE _ _ _ ($p);refine $l))|`(tactic|exists $j,$p,$l)=>`(tactic|(show $j _ _ _ ($p);refine $l))
set_option hygiene false in
local macro_rules|`(tactic|ac_rfl)=>`(tactic|repeat' first|(show BA _ _ _ _;first|exact Ue|refine Ug ?_ ?_)|(show BE _ _ _ _;first|exists ah _,Ul _|(show BE _ _ _ (cC _);first|exact Uq|exact Ur|exact Um|exact Uo|exact SS (by assumption))|exists ay cj _ _,SR ?_ ?_|exists ay du _ _,Qe ?_ ?_|exists ay iT _ _,PR ?_ ?_|exists ay pd _ _,P3 ?_ ?_|exists ay vL _ _,P7 ?_ ?_|exists ay vK _ _,PV ?_ ?_|exists ay GH _ _,PU ?_ ?_|exists ay Bb _ _,Ll ?_ ?_|exists ay OK _ _,Qc ?_ ?_|exists ay sr _ _,Li ?_ ?_|exists ay K0 _ _,PX ?_ ?_|exists ay t6 _ _,P8 R.units ?_ ?_|exists cK _,PH ?_|exists gF _,PL ?_|exists au gE _,jN Rz q.len ?_|exists au dE _,jN JX q.tuple ?_|exists au bL _,jN (CA R.units) q.sorted ?_|exists au pb _,jN (Rw R.units) q.set ?_|exists au lB _,jN Ry q.max ?_|exists au rG _,jN Rx q.min ?_|exists au nW _,jN (Ot R.units) q.min ?_|exists au pF _,jN Ov q.all ?_|exists au so _,jN RA q.int ?_|exists au pf _,jN RD q.all ?_|exists au ym _,jN RC q.any ?_|exists au jQ _,jN Ou q.list ?_|exists au pE _,Lg R.units q.min ?_|exists au _ _,Lk (by assumption) (R.mono 1e0) ?_|exists bu _ _ _ _ _,SV 2e9 ?_ ?_ ?_ ?_|exists OZ _ _ _,SN ?_ ?_ ?_|exists sd bJ _ _,Qd ?_ ?_|exists oR t5 _,P0 ?_|exists oR Kd _,SW ?_|exists sd j9 _ _,PY ?_ ?_|exists gO _ _,PQ ?_ ?_|exists we _,PJ ?_|exists O0 _ _ _,SK ?_ ?_ ?_|exists GJ,PN|exists Dd Gu _ _,SQ R.units ?_ ?_|(show BE _ _ _ (oR (iB _) _);first|refine Df 1e0 Oq 1e0 1e0 q.isinstance q.int ?_|refine Df 1e0 JV 1e0 1e0 q.isinstance q.bool ?_|refine Df 1e0 F9 1e0 1e0 q.isinstance q.tuple ?_)|exists ay _ _ _,Qa ?_ ?_ ?_|exists sd gk _ _,P9 ?_ ?_|exists vN fv _ _,Lh R.units ?_ ?_|exists nk _ _ _ _ _,Qb ?_ ?_ ?_ ?_ ?_|exists nj _ _ _ _ _,SU 2e9 ?_ ?_ ?_ ?_|refine PZ ?_)|(show CS _ _ _ _;first|refine Py ?_|refine Lc ?_ ?_|exact Pz)|(show BS _ _ _ _;first|(show BS _ _ _ oo;exact GP)|exists BS,lH _ _ _,HQ _ PassesOwn.never ?_ ?_|exists BS,A6 _ _ _,QE _ _ (sk 2e9) ?_|exists BS,jL _ _ _,SI ?_ ?_ ?_|exists BS,bx _,Px ?_|exists BS,dv _,Mg ?_|exists BS,h7 _ _ _,QF PassesOwn.never ?_ ?_ ?_|exists BS,aU (bu _ _ _ _ _) (ag _),Ti _ (sk 2e9) 2e9 ?_ ?_ ?_ ?_|exists BS,aU (ka _ _ _ _ _) (ag _),Th _ (sk 2e9) 2e9 ?_ ?_ ?_ ?_|exists BS,aU _ (ag _),QD _ (sk 2e9) ?_|exists BS,aU _ _,QH ?_ ?_|refine QG _ (sk 2e9) ?_)|(show BG _ _ _ _;first|exists BG,ag _,UG _ (sk 2e9)|refine Rh ?_|refine Ri ?_ ?_)|(show O3 _ _ _ _;first|exact Rj|refine N6 ?_ ?_)|(show BI _ _ _ _ _;first|(show BI _ _ _ _ (cI _);refine UF ?_)|(show BI _ _ _ _ (ej ja _);refine TB q.range ?_)|(show BI _ _ _ _ (ej vH _);refine Tx q.range ?_)|(show BI _ _ _ _ (ej A3 _);refine Rb q.zip ?_)|(show BI _ _ _ _ (ej iE _);refine TC q.enumerate ?_)|refine Rc ?_)|(show BO _ _ _ _;refine GZ ?_)|(show CQ _ _ _ _;first|exact PF|refine PB ?_)|(show BT _ _ _ _;first|(show BT _ _ _ (e0 _);refine Qh ?_ ?_ ?_)|refine PD ?_|(show BT _ _ _ (eg _);refine Uv ?_)|refine SJ ?_)|(show BW _ _ _ _;first|refine SX ?_ ?_|refine Qi ?_ ?_|refine Qg ?_|refine Ly ?_)|(show GA _ _ _ _ _ _;first|refine TX rfl ?_|refine RB rfl R.units ?_|refine TV rfl ?_ ?_ ?_ ?_)|exact Tw R.units|exact Q4 R.units|exact Tu R.units|exact Tv R.units|exact Q5 R.units|exact Q6|exact NO|exact NP|assumption|intro _)
namespace Lv
variable{adj:(Int->Int->Prop)}
def R(adj:(Int->Int->Prop))(p:Int):Nat->Int->Prop
 |0,q=>q=p
 |n+1,q=>R adj p n q\/∃r,adj r q/\R adj p n r
def ry(adj:(Int->Int->Prop))(p:Int):Nat->Int->Prop
 |0,q=>q=p
 |n+1,q=>R adj p (n+1) q/\¬ R adj p n q
theorem R.up(h:R adj p n q):R adj p (n+1) q:=.inl h
theorem R.mono(h:R adj p n q)(d:n<=m):R adj p m q:=by
 induction d with
 |refl=>exact h
 |step _ i=>exact i.up
theorem ry.r(h:ry adj p n q):R adj p n q:=by
 cases n with
 |zero=>exact h
 |succ n=>exact h.1
theorem R.lev(h:R adj p n q):∃j,j<=n/\ry adj p j q:=by
 induction n with
 |zero=>exact⟨0,Vn _,h⟩
 |succ n i=>
  by_cases r:R adj p n q
  ·grind
  ·exact⟨n+1,Vn _,h,r⟩
theorem ry.low(h:ry adj p n q)(Z:j<n):¬ R adj p j q:=by
 cases n with
 |zero=>lia
 |succ n=>exact λr=>h.2 (r.mono 0e0)
theorem ry.one(h:ry adj p n q)(H:ry adj p m q):n=m:=by
 rcases Nat.lt_trichotomy n m with z|z|z
 ·exact absurd h.r (H.low z)
 ·exact z
 ·exact absurd H.r (h.low z)
theorem je:ry adj p (n+1) q↔¬ R adj p n q/\∃r,adj r q/\ry adj p n r:=by
 constructor
 ·rintro ⟨H, c⟩
  refine⟨c,?_⟩;rcases H with H|⟨r,h,a⟩
  ·exact absurd H c
  ·refine ⟨r, h, ?_⟩;cases n with
   |zero=>exact a
   |succ n=>exact⟨a,λz=>c (.inr ⟨r,h,z⟩)⟩
 ·rintro ⟨H, r, h, a⟩
  exact⟨.inr ⟨r,h,a.r⟩,H⟩
def Up(adj:(Int->Int->Prop))(p:Int)(D:Int->Prop)(n:Nat)(f:(Int->Option Nat)):Prop:=∀q,D q->∀j,f q=some j↔(j<=n/\ry adj p j q)
theorem Up.none{D:Int->Prop}(h:Up adj p D n f)(z:D q):f q=none↔¬ R adj p n q:=by
 constructor
 ·intro e H;refine bz H.lev λj Z i=>?_;have:=(h q z j).mpr ⟨Z,i⟩;rw[e]at this;cases this
 ·intro H;cases e:f q with
  |none=>rfl
  |some j=>
   obtain⟨Z,i⟩:=(h q z j).mp e;exact absurd (i.r.mono Z) H
theorem J6{D:Int->Prop}(h:∀q,D q->f q=if q=p then some 0 else Option.none):Up adj p D 0 f:=λq H j=>by
 rw[h q H];by_cases e:q=p
 ·rw [Vs e];constructor
  ·intro z;cases z;exact⟨Vn _,e⟩
  lia
 ·rw [Vt e];constructor
  ·intro z;cases z
  ·rintro ⟨a, c⟩
   have:j=0:=by lia
   subst this;exact absurd c e
theorem Up.next{D:Int->Prop}{f':(Int->Option Nat)}(h:Up adj p D n f)(hD:∀a b,adj a b->D a)(e:∀q,D q->∀j,f' q=some j↔(f q=some j\/(f q=Option.none/\j=n+1/\∃r,adj r q/\f r=some n))):Up adj p D (n+1) f':=λq H j=>by
 rw[e q H j];constructor
 ·rintro (z | ⟨d, G, r, Z, g⟩)
  ·obtain⟨J,i⟩:=(h q H j).mp z;exact⟨by lia,i⟩
  ·subst G;exact⟨Vn _,je.mpr ⟨(h.none H).mp d,r,Z,(((h r (hD r q Z) n).mp g).2)⟩⟩
 ·rintro ⟨J, i⟩
  by_cases N:j<=n
  ·exact .inl ((h q H j).mpr ⟨N,i⟩)
  ·have : j = n + 1 := by lia
   subst this;refine oT (je.mp i) λc r A R=>?_;exact .inr ⟨(h.none H).mpr c,rfl,r,A,(h r (hD r q A) n).mpr ⟨Vn _,R⟩⟩
def m2(adj:(Int->Int->Prop))(p:Int)(D:Int->Prop)(f:(Int->Option Nat)):Prop:=∀q,D q->∀j,f q=some j↔ry adj p j q
theorem m2.eq{D:Int->Prop}{g:(Int->Option Nat)}(h:m2 adj p D f)(H:m2 adj p D g)(z:D q):f q=g q:=by
 apply Option.ext;intro j;rw[h q z j,H q z j]
theorem ry.below:∀{q:Int},ry adj p n q->∀j,j<=n->∃r,ry adj p j r:=by
 induction n with
 |zero=>grind
 |succ n i=>
  intro q h j Z;by_cases e:j=n+1
  ·grind
  ·refine oT (je.mp h) λ_ r _ R=>?_;exact i R j 0e0
theorem Up.full{D:Int->Prop}(h:Up adj p D n f)(hD:∀a b,adj a b->D b)(e:∀q,D q->¬ ry adj p (n+1) q):m2 adj p D f:=λq H j=>by
 rw[h q H j];constructor
 ·exact λz=>z.2
 ·intro i;refine⟨?_,i⟩;apply Nat.le_of_not_lt;intro Z;obtain⟨r,R⟩:=i.below (n+1) 0e0;refine oT (je.mp R) λ_ s S _=>?_;exact e r (hD s r S) R
theorem NH(P:0<=p/\p<m)(hD:∀a b,adj a b->0<=b/\b<m)(h:ry adj p n q):n<m:=by
 have R:∀j,∃r,j<=n->ry adj p j r:=λj=>by
  by_cases Z:j<=n
  ·obtain⟨r,R⟩:=h.below j Z;exact⟨r,λ_=>R⟩
  ·exact⟨0,λz=>absurd z Z⟩
 let r:Nat->Int:=λj=>(R j).choose
 have H:∀j,j<=n->ry adj p j (r j):=λj Z=>(R j).choose_spec Z
 have rng:∀j,j<=n->0<=r j/\r j<m:=λj Z=>by
  have:=H j Z;cases j with
  |zero=>rw[show r 0=p from this];exact P
  |succ j=>
   refine oT (je.mp this) λ_ s S _=>?_;exact hD s _ S
 have N:((List.range (n+1)).map λj=>(r j).toNat).Nodup:=by
  rw[List.Nodup,Yg];refine List.Pairwise.imp_of_mem ?_ Xa;intro a b A f B e;rw[WN]at A f;have g:=rng a 0e0;have M:=rng b 0e0;have c:=H a 0e0;have d:=H b 0e0;rw[(show r a=r b by lia)]at c;have:=c.one d
  lia
 have sub:((List.range (n+1)).map λj=>(r j).toNat) ⊆ List.range m:=λx X=>by
  obtain⟨j,Z,rfl⟩:=WM.mp X;rw[WN]at Z⊢;have:=rng j 0e0
  lia
 have:=N.length_le_of_subset sub
 grind
end Lv
namespace Lv
noncomputable def oU(f:(Int->Option Nat))(r:Int)(v:Nat):Int->Option Nat:=λq=>if q=r then some v else f q
end Lv
namespace Lw
open PySem L2 RS
theorem bp:1000<=sizeLine:=by decide
theorem wR{lo:Int}:cc lo n=(List.range n).map λ(i:Nat)=>D.int (lo+(i:Int)):=rfl
theorem Ae(s:Int):∃r:Int,gB [.int s] Y=.ok (.int r) Y:=by
 have d:0<=(s+7919)%2147483647:=YE _ 1e0;have H:(s+7919)%2147483647<2147483647:=YF _ 1e0;generalize J:(s+7919)%2147483647=t at d H;have c1:vQ t t:=.inl ⟨by lia,by lia⟩;have c:vQ 48271 t:=.inl ⟨by lia,by lia⟩
 simp_all[gB,dS,oi,aW]
noncomputable def ck(a b c:Int):O:=.lst [.int a,.int b,.int c]
theorem uL{a b c:Int}:(ck a b c).low n:=by simp[ck,O.low]
theorem LU(x:Int):∃a b c:Int,gq [.int x] Y=.ok 0e8 (Y++[ck a b c]):=by
 refine⟨(if 0-x>x then 0-x else x),(if cmpI .GtE (if 0-x>x then 0-x else x) (10^(18:Int).toNat) then 1 else 0),(if 0-x>x then 0-x else x)%1000003,?_⟩;unfold gq;rw[dS];simp[lA,aG,aM,aA,ar,aB,ai,aK,bE,aa,Dx,(show ∀i j:Int,lB [.int i,.int j] Y=.ok (.int (if j>i then j else i)) Y from λ_ _=>rfl)];simp[(ni (show De 10 18 from⟨by decide,by decide,by decide⟩)),(show ∀k:Bool,∀Y,so [.bl k] Y=.ok (.int (if k then 1 else 0)) Y from λ_ _=>rfl),Vs (show (3:Nat)<=sizeLine by decide)];rw[iD 1e1];rfl
theorem Hw{a b c m:Int}(h:Y[i]?=some (ck a b c))(d:0<m)(g:m<1073741824):
  ∃r a' b' c':Int,0<=r/\r<m/\bC [.obj i,.int m] Y=.ok (.int r) (Y.set i (ck a' b' c')):=by
 have I:=(VY.mp h).1;have n:=h;have M:∀{x:Int}{Y:ax},vL (.int x) (.int m) Y=.ok (.int (x%m)) Y:=λ{x Y}=>ni d;have f:∀{x:Int}{Y:ax},sr (.int x) (.int m) Y=.ok (.int (x / m)) Y:=λ{x Y}=>ni ⟨d,by lia⟩;have f64:∀{x:Int}{Y:ax},sr (.int x) (.int 64) Y=.ok (.int (x / 64)) Y:=λ{x Y}=>ni ⟨by decide,by decide⟩;unfold bC;rw[bB];by_cases B:b=1
 ·subst B;refine⟨a%m,a / m,1,c,YE _ 0e0,YF _ d,?_⟩;simp[kv,aG,bF,cf,aK,ai,bE,aa];rw[ih n DE];simp only[aa,fO,bQ,ae];rw[ih n zU];simp[aa,M,ae,az,ai,bE,aK,aM,aG];rw[ih n zU];simp[aa,f,ae];rw[oN n (m9 1e0 1e1)];exact AI 1e1 (uL)
 ·obtain ⟨S, e⟩ := Ae (Y := Y) c;obtain⟨N,E⟩:=Ae (Y:=Y) (S+7);refine⟨N / 64%m,a,b,N,YE _ 0e0,YF _ d,?_⟩;have H:(b == 1)=false:=by simpa using B
  simp[kv,aG,bF,cf,aK,ai,bE,aa];rw[ih n DE];simp[aa,fO,H,bQ,ae,Wl,VO,az,aG,aM,aA,ar,aB,aK,ai,bE];rw[ih n KG];simp[aa,e,kK,E,ae];rw[oN n (m9 1e0 1e1)];have U:(Y.set i (.lst ([D.int a,D.int b,D.int c].set (2:Int).toNat (.int N))))[i]?=some (.lst [D.int a,D.int b,D.int N]):=by simp_all
  simp only[aa,ae,az,bG,aK,ai,ao,bE];rw[ih U KG];simp[aa,f64,M];exact AI 1e1 (uL)
theorem aH{g:ax}(h:Y[i]?=some o):(Y++g)[i]?=some o:=by
 rw[VF (VY.mp h).1];exact h
theorem ux{g:ax}(h:i<Y.length):(Y++g).set i o=Y.set i o++g:=by
 simp_all
theorem gR(h:i<Y.length):(Y.set i o)[i]?=some o:=U7 h
theorem tj{β γ:Type}{f:β->γ}:∀{l:List β}{i:Nat},(l.map f).eraseIdx i=(l.eraseIdx i).map f
 |[],_=>rfl
 |_::_,0=>rfl
 |x::r,i+1=>by simp[tj]
def gv(m:Int)(k:List Int):Prop:=∃a b:Int,k=[a,b]/\0<=a/\a<b/\b<m
theorem gv.prs{m:Int}(h:gv m k)(M:m<=6):k∈prs:=by
 refine aF h λa b v H c d=>?_;subst v;exact oI H c 0e0
def gw(d:D)(m:Int)(ks:0e1):Prop:=d=.tup [.int m,.tup 0e3]/\1<=m/\m<=6/\(ks.Pairwise λa b=>nP a<nP b)/\∀k∈ks,gv m k
theorem kk{m:Int}(d:1<=m)(H:m<=6)(K:5e3):gw (.tup [.int m,.tup ((cL ks).map aj)]) m (cL ks):=by
 refine⟨rfl,d,H,jC.filter _,λk h=>?_⟩
 simp_all[cL]
theorem bw{m:Int}(h:gw d m ks):ks.length<=15:=by
 refine jM h λ_ _ M p H=>?_;have S:ks ⊆ prs:=λk h=>(H k h).prs M;have:=(show ks.Nodup from p.imp λh e=>by subst e;lia).length_le_of_subset S
 simp_all[uD]
noncomputable def dJ(p:Int×Int):D:=.tup [.int p.1,.int p.2]
theorem l2:(2:Nat)<=sizeLine:=by decide
theorem Tp{u v:Int}:rG [.tup [.int u,.int v]] Y=.ok (.int (min u v)) Y:=rfl
theorem Tr{u v:Int}:lB [.tup [.int u,.int v]] Y=.ok (.int (max u v)) Y:=rfl
theorem cZ{m:Int}(h:gw d m ks):d.low n:=by
 obtain⟨rfl,_⟩:=h;simp
 exact eo.mpr λx H=>by
  obtain⟨k,_,rfl⟩:=WM.mp H;exact eo.mpr 1e1
theorem fQ{lo:Int}:cc lo (n+1)=.int lo::cc (lo+1) n:=by
 unfold cc;rw[WD,VX,WE];congr 1
 ·simp
 ·apply WG
  lia
theorem g7{lo:Int}:cc lo 0=[]:=rfl
theorem wQ{lo:Int}(h:cc lo n=[]):n=0:=by
 cases n with
 |zero=>rfl
 |succ n=>grind [fQ]
theorem FS{x:D}:∀k:Nat,(List.replicate k [x]).flatten=List.replicate k x
 |0=>rfl
 |k+1=>by simp
theorem l1:(1:Nat)<=sizeLine:=by decide
end Lw
namespace Lw
open PySem L2 RS Lv
noncomputable def oq:Option Nat->D
 |none=>.non
 |some n=>.int n
noncomputable def dP(m:Nat)(f:(Int->Option Nat)):List D:=(List.range m).map λq:Nat=>oq (f q)
theorem pW(A:0<=q)(Q:q<m):atI (dP m f) q=some (oq (f q)):=by
 refine Ow A ?_;unfold dP;rw[Wi,X7 0e0];simp[W7,YG A]
theorem wO{v:Nat}(A:0<=q)(Q:q<m):(dP m f).set q.toNat (.int v)=dP m (oU f q v):=by
 unfold dP;apply Yv;intro i;rw[List.getElem?_set,Wb,WH,Wi,Wi];by_cases e:q.toNat=i
 ·rw[Vs e,Vs 0e0,X7 0e0,<- e];simp[W7,YG A,oU];rfl
 ·rw [Vt e];by_cases h:i<m
  ·rw[X7 h];simp[W7,oU];rw[Vt 0e0]
  simp_all
noncomputable def Pq(ks:0e1):List (Int×Int):=ks.flatMap λk=>match k with
 |[u,v]=>[(u,v),(v,u)]
 |_=>[]
def dM(ks:0e1)(a b:Int):Prop:=(a,b)∈Pq ks
theorem B7{o:Option Nat}:(oq o).isNon=decide (o=none):=by
 cases o <;> rfl
section
variable{a:Nat}{web:D}{M u v r:Int}
theorem iL(d:5e3){x y:Int}(h:dM ks x y):(0<=x/\x<m)/\(0<=y/\y<m):=by
 refine bz (YH.mp h) λk H b=>?_;refine aF (d k H) λu v V U c e=>?_;subst V;simp at b
 lia
end
theorem BC:dP m (λ_=>none)=List.replicate m .non:=by
 simp[dP,oq,List.map_const']
noncomputable def OV(k:Int):Option Nat->Bool
 |some j=>decide ((j:Int)<=k)
 |none=>false
noncomputable def kY(T:Int->Int->Option Nat)(k p lo:Int)(c:Nat):List 4e2:=(((List.range c).map λi:Nat=>lo+(i:Int)).filter λq=>OV k (T p q)).map λq=>[p,q]
noncomputable def Gg(m:Nat)(T:Int->Int->Option Nat)(k:Int):List 4e2:=(List.range m).flatMap λp:Nat=>kY T k p ((p:Int)+1) (m-(p+1))
theorem wN{k lo:Int}:(kY T k p lo c).length<=c:=by
 unfold kY
 grind
theorem pV{k lo:Int}{x:List Int}(h:x∈kY T k p lo c):∃q:Int,x=[p,q]/\lo<=q/\q<lo+c:=by
 obtain⟨q,z,rfl⟩:=WM.mp h;obtain⟨z,_⟩:=UW.mp z;obtain⟨i,H,rfl⟩:=WM.mp z;rw[WN]at H;exact⟨_,rfl,by lia,by lia⟩
theorem HU{k lo:Int}:(kY T k p lo c).Pairwise λa b=>nP a<nP b:=by
 unfold kY;rw[Yg];apply YI;rw[Yg];exact Xa.imp λ{a b} h=>by show p*6+(lo+(a:Int))<p*6+(lo+(b:Int));lia
theorem wD{k:Int}(h:1<=m)(H:m<=6):gw (.tup [.int m,.tup ((Gg m T k).map aj)]) m (Gg m T k):=by
 refine⟨rfl,by lia,by lia,?_,λx d=>?_⟩
 ·unfold Gg;rw[List.pairwise_flatMap];refine⟨λp _=>HU,?_⟩;refine List.Pairwise.imp_of_mem ?_ Xa;intro a b n c B x d y μ;obtain⟨q,rfl,A,Q⟩:=pV d;refine bI (pV μ) λr v R e=>?_;subst v;show (a:Int)*6+q<(b:Int)*6+r
  lia
 ·unfold Gg at d;obtain⟨p,P,d⟩:=YH.mp d;obtain⟨q,rfl,A,Q⟩:=pV d;exact⟨_,_,rfl,by lia,by lia,by lia⟩
theorem E6{k lo:Int}:((cc lo c).filter λd=>match d with | .int q=>OV k (T p q)|_=>false).map (λd=>match d with | .int q=>aj [p,q]|_=>.non)=(kY T k p lo c).map aj:=by
 unfold cc kY;rw[YJ,WE,YJ,WE,WE];rfl
theorem mC{m:Nat}{T:Int->Int->Option Nat}{k:Int}(h:m<=6):∀n,((List.range n).flatMap λp:Nat=>kY T k p ((p:Int)+1) (m-(p+1))).length<=6*n
 |0=>by simp
 |n+1=>by
  rw[YK,YL,V6];have:=mC (T:=T) (k:=k) h n;have H:=wN (T:=T) (k:=k) (p:=n) (lo:=(n:Int)+1) (c:=m-(n+1));simp only[YM,YN,Vu]
  lia
theorem mz{Y:ax}:∀fs:List Int,dc Y (fs.map D.int)=some (fs.map PyData.int)
 |[]=>rfl
 |x::fs=>by simp[VX,dc,mz fs];rfl
theorem jf:∀fs:List Int,PyData.canLayAll0 (fs.map PyData.int)=true/\PyData.depthAll (fs.map PyData.int)=0
 |[]=>by simp[PyData.canLayAll0,PyData.depthAll]
 |x::fs=>by
  have:=jf fs;simp[PyData.canLayAll0,PyData.depthAll,this.1,this.2];exact⟨rfl,rfl⟩
theorem AF{F:Nat}{fs:List Int}{a:Int}(h:Y[F]?=some (.lst (fs.map D.int))):iC false (.int a) (.obj F) Y=.ok (.bl (decide (a∈fs))) Y:=by
 have B:hW Y (.obj F)=some (.list (fs.map PyData.int)):=by
  unfold hW;dsimp only;rw[h];dsimp only;rw[mz];rfl
 have O:fitP (.list (fs.map PyData.int))=true:=by
  have:=jf fs;simp only[fitP,PyData.canLay0,this.1,PyData.depth,this.2];rfl
 unfold iC;rw[(show hW Y (.int a)=some (.int a) from rfl),B];dsimp[lK];rw[Vs ⟨rfl,O⟩];congr 2;apply YO.mpr;simp[PyData.eqv]
theorem aX{m:Int}(d:5e3){a b:Int}:dM ks a b↔([a,b]∈ks\/[b,a]∈ks):=by
 unfold dM Pq
 grind
theorem nG{m:Int}{t e:List Int->Int}:∀{ks:0e1},(∀k∈ks,gv m k)->∀(P:Int->Bool),∃l:List Int,
  ((ks.map aj).filter (λd=>match d with | .tup [.int a,.int b]=>P (t [a,b])|_=>false)).map (λd=>match d with | .tup [.int a,.int b]=>.int (e [a,b])|_=>.non)=l.map D.int/\l.length<=ks.length/\∀x,x∈l↔∃k∈ks,P (t k)=true/\x=e k
 |[],_,P=>⟨[],rfl,Vn _,by simp⟩
 |k::ks,h,P=>by
  obtain⟨l,E,B,N⟩:=nG (λx X=>h x (U1 _ X)) P;refine bH (h k U0) λa b v _=>?_;subst v;rw[VX,Yn];show ∃l:List Int,List.map _ (if P (t [a,b])=true then _ else _)=_/\_;by_cases c:P (t [a,b])=true
  ·rw [Vs c, VX, E];refine⟨e [a,b]::l,rfl,by simp;lia,λx=>?_⟩;simp only[U2,N];constructor
   ·rintro (rfl | ⟨k, H, z⟩)
    ·exact⟨[a,b],.inl rfl,c,rfl⟩
    ·exact⟨k,.inr H,z⟩
   ·rintro ⟨k, rfl | H, Z, G⟩
    ·exact .inl G
    ·exact .inr ⟨k,H,Z,G⟩
  ·rw [Vt c, E];refine⟨l,rfl,by simp;lia,λx=>?_⟩;simp only[U2,N];constructor
   ·rintro⟨k,H,z⟩;exact⟨k,.inr H,z⟩
   ·rintro ⟨k, rfl | H, Z, G⟩
    ·exact absurd Z c
    ·exact⟨k,H,Z,G⟩
noncomputable def Pp:List Int->Int
 |[a,_]=>a
 |_=>0
noncomputable def O6:List Int->Int
 |[_,b]=>b
 |_=>0
theorem wH{m:Int}{F:Nat}{fs:List Int}(K:5e3)(L:ks.length<=15)(h:Y[F]?=some (.lst (fs.map D.int))):
  ∃(t:Nat)(g:ax)(ns:List Int),ez [.tup 0e3,.obj F] Y=.ok (.obj t) (Y++g)/\(Y++g)[t]?=some (.lst (ns.map D.int))/\ns.length<=30/\Y.length<=t/\∀q,q∈ns↔∃r∈fs,dM ks r q:=by
 obtain⟨l1,A,B,s⟩:=nG K λx=>decide (x∈fs);obtain⟨l,b1,b2,b3⟩:=nG K λx=>decide (x∈fs)
 have c1:=eW (src:=.fix 0e3) (g:=bc 2 1e6) (t:=gI) (e:=jW) (Y1:=Y)
  (q:=λd=>match d with | .tup [.int a,.int b]=>decide (Pp [a,b]∈fs)|_=>false) (h:=λd=>match d with | .tup [.int a,.int b]=>.int (O6 [a,b])|_=>.non)
  (λc=>∃o f,c=[o,f,some (.obj F)]) (λ_=>trivial) (xs:=ks.map aj) (acc:=[]) (ρ:=[none,none,some (.obj F)]) ⟨_,_,rfl⟩
  (by rw[Wb,WI];exact UX 0e0 bp)
  (λx X a c hJJ => by
   refine CJ hJJ λo f G=>?_;refine bz (WM.mp X) λk H V=>?_;subst V;refine bH (K k H) λu v p _=>?_;subst p;subst G;refine⟨[some (.int u),some (.int v),some (.obj F)],⟨_,_,rfl⟩,rfl,?_,λ_=>rfl⟩;unfold gI;simp[cf,aK,ao,ai,aa];rw[AF (aH h)]
   rfl)
 have j:=λM:ax=>λhM:M[F]?=some (.lst (fs.map D.int))=>eW (src:=.fix 0e3) (g:=bc 2 1e6) (t:=gH) (e:=jV) (Y1:=M)
  (q:=λd=>match d with | .tup [.int a,.int b]=>decide (O6 [a,b]∈fs)|_=>false) (h:=λd=>match d with | .tup [.int a,.int b]=>.int (Pp [a,b])|_=>.non)
  (λc=>∃o f,c=[o,f,some (.obj F)]) (λ_=>trivial) (xs:=ks.map aj) (acc:=[]) (ρ:=[none,none,some (.obj F)]) ⟨_,_,rfl⟩
  (by rw[Wb,WI];exact UX 0e0 bp)
  (λx X a c hJJ => by
   refine CJ hJJ λo f G=>?_;refine bz (WM.mp X) λk H w=>?_;subst w;refine bH (K k H) λu v y _=>?_;subst y;subst G;refine⟨[some (.int u),some (.int v),some (.obj F)],⟨_,_,rfl⟩,rfl,?_,λ_=>rfl⟩;unfold gH;simp[cf,aK,ao,ai,aa];rw[AF (aH hM)]
   rfl)
 rw[YQ,A]at c1;have C:=j (Y++[O.lst (l1.map D.int)]) (aH h);rw[b1]at C;refine⟨((Y++[O.lst (l1.map D.int)])++[O.lst (l.map D.int)]).length,([O.lst (l1.map D.int)]++[O.lst (l.map D.int)])++[O.lst ((l1++l).map D.int)],l1++l,?_,?_,by rw[V6];lia,by simp,λq=>?_⟩
 ·unfold ez;rw[bB];simp only[lq,bG,aK,aZ,bh,ai,aa,fm,aT,List.replicate];rw[show cJ [none,none,some 1] (some (D.tup (List.map aj ks))::some (D.obj F)::List.replicate (2-2) none)=[none,none,some (.obj F)] from rfl,c1];simp only[aa];rw[C];simp[aa]
  have E:du 0e8 (.obj (Y++[O.lst (l1.map D.int)]).length) ((Y++[O.lst (l1.map D.int)])++[O.lst (l.map D.int)])=.ok (.obj ((Y++[O.lst (l1.map D.int)])++[O.lst (l.map D.int)]).length) (((Y++[O.lst (l1.map D.int)])++[O.lst (l.map D.int)])++[O.lst ((l1++l).map D.int)]):=by
   unfold du;dsimp only;rw[aC,aH aC];dsimp only;rw[Vs,WT];rw[Wb,Wb];exact UX 0e0 bp
  simp_all[iD]
 ·simp
 ·rw [U4, s, b3];constructor
  ·rintro (⟨k, H, Z, i⟩ | ⟨k, H, Z, i⟩)
   ·obtain⟨u,v,rfl,_⟩:=K k H;subst i;exact⟨u,YD Z,(aX K).mpr (.inl H)⟩
   ·obtain⟨u,v,rfl,_⟩:=K k H;subst i;exact⟨v,YD Z,(aX K).mpr (.inr H)⟩
  ·rintro ⟨r, R, n⟩
   rcases (aX K).mp n with z|z
   ·exact .inl ⟨_,z,Xu R,rfl⟩
   ·exact .inr ⟨_,z,Xu R,rfl⟩
theorem il{o':O}(h:Y[j]?=some o')(ne:i≠j):(Y.set i o)[j]?=some o':=by simp_all
noncomputable def bK(k:List Int):PyData:=.tuple (k.map PyData.int)
theorem kO{Y:ax}{m:Int}:∀{ks:0e1},(∀k∈ks,gv m k)->dc Y 0e3=some (ks.map bK)
 |[],_=>rfl
 |k::ks,h=>by
  refine bH (h k U0) λa b v _=>?_;subst v;simp[VX,dc,(kO (Y:=Y) λx d=>h x (U1 _ d))];rfl
theorem jk{Y:ax}{m:Int}:∀{ks:0e1},(∀k∈ks,gv m k)->toPs Y 0e3=some (ks.map bK)
 |[],_=>rfl
 |k::ks,h=>by
  refine bH (h k U0) λa b V _=>?_;subst V;simp[VX,toPs,(jk (Y:=Y) λx d=>h x (U1 _ d))];rfl
theorem eV{m:Int}:∀{ks:0e1},(∀k∈ks,gv m k)->PyData.canLayAll0 (ks.map bK)=true/\PyData.depthAll (ks.map bK)<=1
 |[],_=>by simp[PyData.canLayAll0,PyData.depthAll]
 |k::ks,h=>by
  refine bH (h k U0) λa b n _=>?_;subst n;have i:=eV λx d=>h x (U1 _ d);simp[PyData.canLayAll0,PyData.depthAll,i.1,bK,PyData.depth];refine⟨rfl,?_⟩
  lia
noncomputable def om(m:Int)(ks:0e1):PyData:=.tuple [.int m,.tuple (ks.map bK)]
theorem oF{m:Int}(h:gw d m ks):hW Y d=some (om m ks):=by
 refine jM h λb _ _ _ k=>?_;subst b;unfold hW;simp[dc,rA,rm,jk k];rfl
theorem oG{m:Int}(h:gw d m ks):fitP (om m ks)=true:=by
 refine jM h λ_ _ _ _ k=>?_;have:=eV k;simp[fitP,om,PyData.canLay0,PyData.canLayAll0,PyData.depth,PyData.depthAll]
 lia
end Lw
namespace Lw
open PySem L2 RS
def Pn(Y0:ax)(i:Nat)(Y:ax):Prop:=∃a b c g,Y=Y0.set i (ck a b c)++g
theorem Pn.app{g:ax}(h:Pn Y0 i Y):Pn Y0 i (Y++g):=by
 obtain⟨a,b,c,G,v⟩:=h;subst v;exact⟨a,b,c,G++g,by rw[W4]⟩
theorem Pn.get(h:Pn Y0 i Y)(H:i<Y0.length):∃a b c,Y[i]?=some (ck a b c):=by
 obtain⟨a,b,c,g,V⟩:=h;subst V;exact⟨a,b,c,aH (gR H)⟩
theorem Pn.set{a b c:Int}(h:Pn Y0 i Y)(H:i<Y0.length):Pn Y0 i (Y.set i (ck a b c)):=by
 obtain⟨A,d,F,g,n⟩:=h;subst n;exact⟨a,b,c,g,by rw[ux (by simpa using H),List.set_set]⟩
theorem Pn.len(h:Pn Y0 i Y):Y0.length<=Y.length:=by
 obtain⟨A,d,F,g,b⟩:=h;subst b;simp
theorem Pn.self{a b c:Int}(h:Y0[i]?=some (ck a b c)):Pn Y0 i Y0:=by
 refine⟨a,b,c,[],?_⟩;rw[Vu];apply Yv;intro j;by_cases e:i=j
 ·subst e;rw[gR (VY.mp h).1,h]
 ·rw[U8 e]
theorem Pn.draw{m:Int}(h:Pn Y0 i Y)(H:i<Y0.length)(f:0<m)(g:m<1073741824):
  ∃r a b c:Int,0<=r/\r<m/\bC [.obj i,.int m] Y=.ok (.int r) (Y.set i (ck a b c))/\Pn Y0 i (Y.set i (ck a b c)):=by
 obtain⟨a,b,c,p⟩:=h.get H;obtain⟨r,A,d,F,R,j,e⟩:=Hw p f g;exact⟨r,A,d,F,R,j,e,h.set H⟩
theorem Pn.gc(h:Pn Y0 i Y)(H:d.low Y0.length):∃a b c,rn Y0 (.ok d Y)=.ok d (Y0.set i (ck a b c)):=by
 obtain⟨a,b,c,g,V⟩:=h;subst V;exact⟨a,b,c,Eh H uL⟩
theorem Cb{m:Int}(h:gw d m ks):d.low n:=cZ h
theorem sL{m:Int}(h:5e3):fitP (.tuple (ks.map bK))=true:=by
 have:=eV h;simp[fitP,PyData.canLay0,PyData.depth]
 lia
theorem mB{m:Int}(h:gw d m ks)(hs:ks'.Sublist ks):gw (.tup [.int m,.tup (ks'.map aj)]) m ks':=by
 refine jM h λ_ a b p K=>?_;exact⟨rfl,a,b,p.sublist hs,λk H=>K k (hs.subset H)⟩
end Lw
namespace Lv
noncomputable def GC(ks:0e1)(a b:Int):Bool:=decide ([min a b,max a b]∈ks)
noncomputable def rg(m:Nat):List Int:=(List.range m).map Int.ofNat
noncomputable def ee(w:List Int):Int:=w.getLast?.getD 0
noncomputable def rx(w:List Int):Int:=w.head?.getD 0
noncomputable def QX(m:Nat)(ks:0e1)(w:List Int):List Int:=(rg m).filter λp=>!decide (p∈w)&&GC ks (ee w) p
noncomputable def TN(m:Nat)(ks:0e1)(w:List Int):List 4e2:=(QX m ks w).map λp=>w++[p]
noncomputable def SL(m:Nat)(ks:0e1):Nat->List 4e2
 |0=>(rg m).map λp=>[p]
 |k+1=>(SL m ks k).flatMap (TN m ks)
noncomputable def cz(m:Nat)(ks:0e1)(p:Int):List Int:=(rg m).filter λq=>decide (q=p) || GC ks p q
theorem eh:p∈rg m↔0<=p/\p<m:=by
 unfold rg;rw[WM];constructor
 ·grind
 ·rintro ⟨d, H⟩
  exact⟨p.toNat,WN.mpr 0e0,by simp;lia⟩
theorem lI:(rg m).length=m:=by simp[rg]
theorem zL:(rg m).Pairwise (·<·):=by
 unfold rg;rw[Yg];exact Xa.imp λh=>by simpa using h
theorem qG{w:List Int}:ee (w++[p])=p:=by simp[ee]
structure UM(m k:Nat)(w:List Int):Prop where
 len:w.length=k+1
 nd:w.Nodup
 rng:∀p∈w,0<=p/\p<(m:Int)
theorem mC{m:Nat}{f:List Int->List 4e2}(h:∀w,(f w).length<=m):∀l:List 4e2,(l.flatMap f).length<=l.length*m
 |[]=>by simp
 |w::l=>by
  rw[YM,V6,Wd,Nat.succ_mul];have:=h w;have:=mC h l;lia
end Lv
namespace Lw
open PySem L2 RS Lv
theorem bg{U:Type}{en:U->D}{src:kE}{g:MG}{t:MT}{e:ME}{Y1:ax}{q:U->Bool}{h:U->D}(R:Ro->Prop)(G:∀a,bA src (Y1++[.lst a])) :
  ∀{us:List U}{acc:List D}{ρ:Ro},R ρ->acc.length+us.length<=sizeLine->(∀x∈us,∀a ρ,R ρ->∃ρ1,R ρ1/\g (en x) ρ (Y1++[.lst a])=.ok ρ1 (Y1++[.lst a])/\t ρ1 (Y1++[.lst a])=.ok (q x) (Y1++[.lst a])/\(q x=true->e ρ1 (Y1++[.lst a])=.ok (h x) (Y1++[.lst a]))) ->
   compLoop src Y1.length g t e (us.map en) ρ (Y1++[.lst acc])=.ok (.obj Y1.length) (Y1++[.lst (acc++(us.filter q).map h)])
 |[],acc,ρ,r,i,n=>by
  rw[VW];unfold compLoop;rw[Vs (G acc)];simp
 |x::S,acc,ρ,r,i,n=>by
  refine lb (n x U0 acc ρ r) λρ1 b d B N=>?_;rw[VX];unfold compLoop;rw[Vs (G acc),d];simp only[ak,aa];rw[B];simp only[ak,aa];have l:=λy μ=>n y (U1 _ μ);simp only[Wd]at i;cases z:q x with
  |false=>
   rw[Vt V9,bg R G b 0e0 l,Yn,z];rfl
  |true=>
   rw[Vs rfl,N z];simp only[ak,aa];rw[fR 0e0];simp only[aa,ak];rw[bg R G b (by simp;lia) l,Yn,z];simp
theorem mx{U:Type}{en:U->D}{src:kE}{g:MG}{t:MT}{fb:MB}{Y1:ax}{q:U->Bool}{k:U->List D}(R:Ro->Prop)(G:∀a,bA src (Y1++[.lst a])) :
  ∀{us:List U}{acc:List D}{ρ:Ro},R ρ->acc.length+((us.filter q).flatMap k).length<=sizeLine->(∀x∈us,∀a ρ,R ρ->∃ρ1,g (en x) ρ (Y1++[.lst a])=.ok ρ1 (Y1++[.lst a])/\t ρ1 (Y1++[.lst a])=.ok (q x) (Y1++[.lst a])/\(q x=false->R ρ1)/\(q x=true->a.length+(k x).length<=sizeLine->∃ρ2,R ρ2/\fb Y1.length ρ1 (Y1++[.lst a])=.ok ρ2 (Y1++[.lst (a++k x)]))) ->
   ∃ρ',R ρ'/\gL src Y1.length g t fb (us.map en) ρ (Y1++[.lst acc])=.ok ρ' (Y1++[.lst (acc++(us.filter q).flatMap k)])
 |[],acc,ρ,h,i,n=>by
  refine⟨ρ,h,?_⟩;rw[VW];unfold gL;rw[Vs (G acc)];simp
 |x::S,acc,ρ,h,i,n=>by
  refine lb (n x U0 acc ρ h) λρ1 d B E N=>?_;rw[VX];unfold gL;rw[Vs (G acc),d];simp only[ak,aa];rw[B];simp only[ak,aa];have l:=λy μ=>n y (U1 _ μ);cases z:q x with
  |false=>
   rw[Yn,z]at i;rw[Vt V9,Yn,z];exact mx R G (E z) i l
  |true=>
   rw[Yn,z,Vs rfl,YM,V6]at i;refine bz (N z 0e0) λρ2 M m=>?_;rw[Vs rfl,m];simp only[ak,aa];refine bz (mx R G M (acc:=acc++k x) (by rw[V6];lia) l) λρ' r e=>?_;refine⟨ρ',r,?_⟩;rw[e,Yn,z,Vs rfl,YM,W4]
theorem dA{U:Type}:∀{us:List U},us.filter (λ_=>true)=us
 |[]=>rfl
 |_::us=>by simp
theorem F1{e:ME}{a:List D}(h:e ρ (Y1++[.lst a])=.ok y (Y1++[.lst a]))(i:a.length+1<=sizeLine):pD e Y1.length ρ (Y1++[.lst a])=.ok ρ (Y1++[.lst (a++[y])]):=by
 grind [pD,ak,aa,fR]
noncomputable def Sw:D->Bool
 |.int _=>true
 |_=>false
noncomputable def Kc(m:Nat):D->Bool
 |.int i=>decide (0<=i/\i<(m:Int))
 |_=>false
def Gi(Y:ax)(d:D):Prop:=CT Y d≠none
theorem Aw(h:Gi Y (.obj n)):(∃xs,Y[n]?=some (.lst xs))\/Y[n]?=some .dic:=by
 unfold Gi CT at h;dsimp only at h;split at h
 ·rename_i xs e;exact .inl ⟨xs,e⟩
 ·rename_i e;exact .inr e
 ·exact absurd rfl h
theorem Jm(h:Gi Y d):∃b,iB "int" d Y=.ok (.bl b) Y/\(b=true->∃c,iB "bool" d Y=.ok (.bl c) Y/\(!c)=Sw d)/\(b=false->Sw d=false):=by
 cases d with
 |non=>exact⟨false,rfl,nofun,λ_=>rfl⟩
 |bl b=>exact⟨true,rfl,λ_=>⟨true,rfl,rfl⟩,nofun⟩
 |int i=>exact⟨true,rfl,λ_=>⟨false,rfl,rfl⟩,nofun⟩
 |str x=>exact⟨false,rfl,nofun,λ_=>rfl⟩
 |tup S=>exact⟨false,rfl,nofun,λ_=>rfl⟩
 |frz S=>exact⟨false,rfl,nofun,λ_=>rfl⟩
 |obj n=>
  refine⟨false,?_,nofun,λ_=>rfl⟩;unfold iB CT;rcases Aw h with⟨S,e⟩|e <;> simp[e] <;> rfl
theorem EJ(h:Gi Y d):eO [d] Y=.ok (.bl (Sw d)) Y:=by
 refine bI (Jm h) λb H c a=>?_;unfold eO;rw[dS];simp[lV];cases b with
 |false=>
  simp_all[aW]
 |true=>
  simp_all[aW]
theorem wG(h:Gi Y d):eP [.int m,d] Y=.ok (.bl (Kc m d)) Y:=by
 have W:bD [d,.int 0,.int ((m:Int)-1)] Y=.ok (.bl (Kc m d)) Y:=by
  unfold bD;rw[jx];simp[eG,EJ h];cases d with
  |int i=>
   simp;by_cases c:cmpI .LtE 0 i=true
   ·rw [Vs c]
    rw[show cmpI .LtE i ((m:Int)-1)=Kc m (.int i) from by
     exact Yu.mpr ⟨λz=>⟨(YD c),by lia⟩,λz=>by lia⟩]
    exact aW 1e1
   ·rw [Vt c]
    rw[show Kc m (.int i)=false from by
     exact UQ (λz=>(λz=>c (Xu z)) z.1)]
    exact aW 1e1
  |_=>
   exact aW 1e1
 unfold eP;rw[bB];simp[lW]
 simp_all[aW]
theorem Fz{g:ax}(h:Gi Y d):Gi (Y++g) d:=by
 cases d with
 |obj n=>
  unfold Gi CT;rcases Aw h with⟨S,e⟩|e <;> simp[aH e] <;> exact nofun
 |_=>exact h
theorem DU:100000<=sizeLine:=by decide
theorem y8(h:∀x∈xs,Gi Y x)(i:xs.length<=1000):cO [.int m,.tup xs] Y=.ok (.bl (xs.all (Kc m))) Y:=by
 have c:=bg (src:=.fix xs) (g:=ag 0) (t:=aV) (e:=gu) (Y1:=Y) (h:=λx=>.bl (Kc m x)) (λb=>∃o,b=[o,some (.int m)]) (λ_=>trivial) (us:=xs) (ρ:=[none,some (.int m)]) ⟨_,rfl⟩
  (by rw[WI];exact UX 0e0 bp)
  (λx d a b hJJ => by
   obtain⟨o,e⟩:=hJJ;subst e;refine⟨[some x,some (.int m)],⟨_,rfl⟩,rfl,rfl,λ_=>?_⟩;unfold gu
   simp[wG (Fz (h x d))])
 rw[List.map_id']at c;unfold cO;rw[bB];simp only[ku,bG,uV,wd,ao,ai,aa];rw[show iB "tuple" (.tup xs) Y=.ok (.bl true) Y from rfl];simp only[aa,bQ,aA,ar,aZ,bh,ao,ai,fm,aT];rw[show cJ [none,some 0] _=[none,some (.int m)] from rfl,c];simp;rw[jB (by rw[aC,WE];rfl)];simp[cD]
theorem qi{m:Int}{a b:Int}(d:5e3):iC false (.tup [.int a,.int b]) 3e7 Y=.ok (.bl (decide ([a,b]∈ks))) Y:=by
 have B:hW Y 3e7=some (.tuple (ks.map bK)):=by
  simp[hW,kO d,W7]
 unfold iC;rw[(show hW Y (.tup [.int a,.int b])=some (.tuple [.int a,.int b]) from rfl),B];dsimp only[lK];rw[Vs ⟨rfl,sL d⟩];simp only[Wl,VO];congr 2;rw[Yc];apply YO.mpr;rw[YR,YS];constructor
 ·rintro ⟨k, H, e⟩
  refine bH (d k H) λu v V _=>?_;subst V
  simp_all[bK,PyData.eqv,PyData.eqvAll]
 ·intro h;exact⟨_,h,by simp[bK,PyData.eqv,PyData.eqvAll]⟩
theorem Q0{a b:Int}:rG [.int a,.int b] Y=.ok (.int (min a b)) Y:=by
 show aq.ok (D.int (if b<a then b else a)) Y=_;split <;> lia
theorem Q2{a b:Int}:lB [.int a,.int b] Y=.ok (.int (max a b)) Y:=by
 show aq.ok (D.int (if b>a then b else a)) Y=_;congr 2;split <;> lia
noncomputable abbrev bO(w:List Int):D:=.tup (w.map D.int)
theorem lP:∀(l acc:List Int),acc.Nodup->(l.foldl (λacc k=>if k∈acc then acc else acc++[k]) acc).Nodup/\∀x,x∈l.foldl (λacc k=>if k∈acc then acc else acc++[k]) acc↔x∈acc\/x∈l
 |[],acc,h=>⟨h,λx=>by simp⟩
 |y::l,acc,h=>by
  rw[W5];by_cases c:y∈acc
  ·rw [Vs c];have i:=lP l acc h;refine⟨i.1,λx=>?_⟩;rw[i.2 x,U2];constructor
   ·rintro (z | z)
    ·exact .inl z
    ·exact .inr (.inr z)
   ·rintro (z | rfl | z)
    ·exact .inl z
    ·exact .inl c
    ·exact .inr z
  ·rw[Vt c];have i:=lP l (acc++[y]) (by rw[XY];exact⟨h,by simp,λa n b B=>by simp at B;subst B;exact λe=>c (e ▸ n)⟩);refine⟨i.1,λx=>?_⟩;rw[i.2 x,U2,U4,Wz,or_assoc]
theorem Bu(h:∀q,q∈ns↔q∈cz m ks p):lg (ik ns)=cz m ks p:=by
 have d:=lP ns [] WZ;have up:(cz m ks p).Pairwise (·<·):=zL.filter _;refine(pR ?_ (up.imp λ{a b} h=>Int.le_of_lt h)).symm;refine(Xc (up.imp λ{a b} h=>by lia) d.1).mpr λq=>?_
 grind
theorem wB{m:Int}(d:5e3):GC ks p q=true↔[p,q]∈ks\/[q,p]∈ks:=by
 unfold GC
 have asc:∀{a b:Int},[a,b]∈ks->a<b:=λh=>by
  refine aF (d _ h) λu v e _ c _=>?_;simp at e;rw[e.1,e.2];exact c
 grind
theorem gy:∀{ns:List Int},gM (ns.map D.int)=some ns
 |[]=>rfl
 |n::ns=>by simp[gM,gy (ns:=ns)]
theorem Js(h:∀n∈ns,0<=n/\n<6):Da (ns.map D.int)=some ns:=by
 simp_all[Da,gy]
theorem D9{w:List Int}:(bO w).low n:=by simp;exact eo.mpr λx d=>by obtain⟨k,_,rfl⟩:=WM.mp d;simp
theorem wb{w:List Int}{a:Int}:iC neg (.int a) (bO w) Y=.ok (.bl (if neg then !decide (a∈w) else decide (a∈w))) Y:=by
 have B:hW Y (bO w)=some (.tuple (w.map PyData.int)):=by
  simp[hW,mz]
 have O:fitP (.tuple (w.map PyData.int))=true:=by
  simp[jf,fitP,PyData.canLay0,PyData.depth]
 unfold iC;rw[show hW Y (.int a)=some (.int a) from rfl,B];dsimp[lK];rw[Vs ⟨rfl,O⟩]
 have:(w.map PyData.int).any (λy=>PyData.eqv y (.int a))=decide (a∈w):=by
  apply YO.mpr;simp[PyData.eqv]
 rw[this]
theorem OD{w:List Int}(h:w.length<=100):du (bO w) (.tup [.int p]) Y=.ok (bO (w++[p])) Y:=by
 unfold du
 all_goals grind [bp]
theorem uM{w:List Int}(h:w≠[]):cj (bO w) (.int (-1)) Y=.ok (.int (ee w)) Y:=by
 obtain⟨v,p,rfl⟩:∃v p,w=v++[p]:=⟨w.dropLast,w.getLast h,(YT h).symm⟩;rw[qG];refine ng ?_;simp only[atI,zG,WT,V6,Wb,Wd,WI];rw[Vt 0e0,Vs 0e0,show ((-1:Int)+((v.length+(0+1):Nat):Int)).toNat=(v.map D.int).length from by rw[Wb];lia];show (v.map D.int++[D.int p])[(v.map D.int).length]?=_;rw[VD (Vn _),W3];rfl
theorem uS{w:List Int}(h:w≠[]):cj (bO w) (.int 0) Y=.ok (.int (rx w)) Y:=by
 cases w with
 |nil=>exact absurd rfl h
 |cons a r=>exact d0
theorem yv:cc 0 ((m:Int)).toNat=(rg m).map D.int:=by
 simp[cc,rg]
theorem dW{f g:MS}{ρ':Ro}{Y':ax}(h:f ρ Y=.next ρ' Y'):aO f g ρ Y=g ρ' Y':=by rw[aG,h,az]
noncomputable def t8(v:Nat)(f:(Int->Option Nat))(s:List Int):Int->Option Nat:=s.foldl (λf q=>oU f q v) f
theorem qr{v:Nat}:∀(qs:List Int)(f:(Int->Option Nat))(q:Int),t8 v f qs q=if q∈qs then some v else f q
 |[],f,q=>by simp[t8]
 |x::qs,f,q=>by
  have:=qr (v:=v) qs (oU f x v) q;unfold t8 at this⊢;rw[W5,this];by_cases h:q∈qs
  ·rw[Vs h,Vs (U1 _ h)]
  ·rw [Vt h];unfold oU;by_cases e:q=x
   ·rw[Vs e,Vs (by simp[e])]
   ·rw[Vt e,Vt (by simp[e,h])]
theorem su{k:Int}(d:1<=k)(H:k<=6):bD [.int k,.int 1,.int 6] Y=.ok (.bl true) Y:=by
 have w:eO [.int k] Y=.ok (.bl true) Y:=by
  exact aW 1e1
 unfold bD;rw[jx];simp[eG]
 simp_all[cmpI,aW]
theorem Ml{g:(Int->Option Nat)}(h:∀q:Int,0<=q/\q<(m:Int)->f q=g q):dP m f=dP m g:=by
 simp_all[dP]
end Lw
namespace Lv
section
variable{adj adj':(Int->Int->Prop)}{D:Int->Prop}
theorem R.add{q:Int}{n:Nat}(h:R adj p n q):∀{k:Nat}{r:Int},R adj q k r->R adj p (n+k) r
 |0,r,e=>by have this:=e;subst this;exact h
 |k+1,r,e=>by
  rcases e with e|⟨t,d,B⟩
  ·exact .inl (R.add h e)
  ·exact .inr ⟨t,d,R.add h B⟩
theorem oP{n:Nat}:∀{k:Nat}{q:Int},R adj p (n+k) q->∃r,R adj p n r/\R adj r k q
 |0,q,h=>⟨q,h,rfl⟩
 |k+1,q,h=>by
  rcases h with h|⟨t,H,c⟩
  ·refine bz (oP h) λr a b=>?_;exact⟨r,a,.inl b⟩
  ·refine bz (oP c) λr a b=>?_;exact⟨r,a,.inr ⟨t,H,b⟩⟩
theorem R.one{a b:Int}(h:adj a b):R adj a 1 b:=.inr ⟨a,h,rfl⟩
end
end Lv
namespace Lw
open PySem L2 RS Lv
theorem DI:∀{xs ys:0e1},xs.Pairwise (λa b=>nP a<nP b)->ys.Pairwise (λa b=>nP a<nP b)->(∀k,k∈xs↔k∈ys)->xs=ys
 |[],ys,_,_,h=>by
  cases ys with
  |nil=>rfl
  |cons y ys=>exact absurd ((h y).mpr U0) WA
 |x::xs,[],_,_,h=>absurd ((h x).mp U0) WA
 |x::xs,y::ys,H,μ,h=>by
  obtain⟨B,G⟩:=W9.mp H;obtain⟨F,W⟩:=W9.mp μ
  have e:x=y:=by
   rcases U2.mp ((h x).mp U0) with z|z
   ·exact z
   ·rcases U2.mp ((h y).mpr U0) with u | u
    ·exact u.symm
    ·have:=F x z;have:=B y u;lia
  subst e;congr 1;refine DI G W λk=>?_;constructor
  ·intro d;rcases U2.mp ((h k).mp (U1 _ d)) with z|z
   ·subst z;have:=B k d;lia
   ·exact z
  ·intro d;rcases U2.mp ((h k).mpr (U1 _ d)) with z|z
   ·subst z;have:=F k d;lia
   ·exact z
theorem dU{d':D}{m m':Int}(h:gw d m ks)(c:gw d' m' ks')(e:∀a b:Int,[a,b]∈ks↔[a,b]∈ks'):ks=ks':=by
 refine DI h.2.2.2.1 c.2.2.2.1 λk=>?_;constructor
 ·intro H;obtain⟨a,b,rfl,_⟩:=h.2.2.2.2 k H;exact(e a b).mp H
 ·intro H;obtain⟨a,b,rfl,_⟩:=c.2.2.2.2 k H;exact(e a b).mpr H
noncomputable abbrev aE(m:Nat)(ks:0e1):D:=.tup [.int m,.tup 0e3]
abbrev GW(m:Nat)(ks:0e1):Prop:=gw 3e5 m ks
open Classical in
noncomputable def gD(m:Nat)(ks:0e1)(k:Nat):List 4e2:=prs.filter λx=>decide (x.getD 1 0<(m:Int)/\R (dM ks) (x.getD 0 0) k (x.getD 1 0))
open Classical in
theorem dC{k:Nat}{a b:Int}(M:m<=6):[a,b]∈gD m ks k↔(0<=a/\a<b/\b<(m:Int)/\R (dM ks) a k b):=by
 unfold gD;rw[UW,YU];constructor
 ·rintro ⟨H, h, f⟩
  refine aF (eU H) λc d e G v C=>?_;injection e with E B
  injection B with B _
  subst E B;exact⟨G,v,h,f⟩
 ·rintro ⟨H, h, f, g⟩
  exact⟨oI H h 0e0,f,g⟩
theorem bR{k:Nat}(e:1<=m)(M:m<=6):GW m (gD m ks k):=by
 refine⟨rfl,by lia,by lia,jC.filter _,λx d=>?_⟩;refine aF (eU (UW.mp d).1) λa b n G v C=>?_;subst n;refine tX ((dC M).mp d) λH c h _=>?_;exact⟨a,b,rfl,H,c,h⟩
theorem Hm{k:Int}{a b:Int}:[a,b]∈Gg m T k↔(0<=a/\a<b/\b<(m:Int)/\OV k (T a b)=true):=by
 unfold Gg kY;rw[YH];constructor
 ·grind
 ·rintro ⟨H, c, d, h⟩
  refine⟨a.toNat,WN.mpr 0e0,WM.mpr ⟨b,UW.mpr ⟨WM.mpr ⟨(b-a-1).toNat,WN.mpr 0e0,by lia⟩,?_⟩,?_⟩⟩
  ·rw[YG H];exact h
  ·rw[YG H]
theorem QV{k:Nat}(h:m2 (dM ks) p (λq=>0<=q/\q<(m:Int)) f)(z:0<=q/\q<(m:Int)):OV k (f q)=true↔R (dM ks) p k q:=by
 constructor
 ·intro e;cases c:f q with
  |none=>rw[c]at e;cases e
  |some n=>
   rw[c]at e;have H:(n:Int)<=k:=YD e;exact((h q z n).mp c).r.mono 0e0
 ·intro e;refine bz (R.lev e) λj Z i=>?_;rw[(h q z j).mpr i];exact Xu 0e0
theorem LI{k:Nat}(d:1<=m)(h:m<=6)(hT:∀p:Int,0<=p->p<m->m2 (dM ks) p (λq=>0<=q/\q<m) (T p)):Gg m T k=gD m ks k:=by
 grind [dU,wD,bR,Hm,dC,QV]
theorem sM{m:Int}:∀{xs ys:0e1},(∀k∈xs,gv m k)->(∀k∈ys,gv m k)->(PyData.eqvAll (xs.map bK) (ys.map bK)=true↔xs=ys)
 |[],[],_,_=>by simp[PyData.eqvAll]
 |[],_::_,_,_=>by simp[PyData.eqvAll]
 |_::_,[],_,_=>by simp[PyData.eqvAll]
 |x::xs,y::ys,H,μ=>by
  have i:=sM (xs:=xs) (ys:=ys) (λk h=>H k (U1 _ h)) (λk h=>μ k (U1 _ h));refine bH (H x U0) λa b v _=>?_;subst v;refine bH (μ y U0) λc d V _=>?_;subst V;simp only[VX,PyData.eqvAll,Yl,i,bK,PyData.eqv,VW,YV,YW]
theorem UH(h:GW m ks)(H:GW m ks'):hZ neg 3e5 (aE m ks') Y=.ok (.bl (if neg then !decide (ks=ks') else decide (ks=ks'))) Y:=by
 have e:PyData.eqv (om m ks) (om m ks')=decide (ks=ks'):=by
  apply YO.mpr;rw[YU,<- sM h.2.2.2.2 H.2.2.2.2];simp[om,PyData.eqv,PyData.eqvAll]
 unfold hZ;rw[oF h,oF H];dsimp only;rw[Vs ⟨oG h,oG H⟩,e]
section
theorem GW.m0(h:GW m ks):1<=m:=by have:=h.2.1;lia
theorem GW.m6(h:GW m ks):m<=6:=by have:=h.2.2.1;lia
theorem K5(h:GW m ks){a b:Int}(e:dM ks a b):dM ks b a:=(aX h.2.2.2.2).mpr ((aX h.2.2.2.2).mp e).symm
theorem K6(h:GW m ks){a b:Int}(e:dM ks a b):(0<=a/\a<(m:Int))/\(0<=b/\b<(m:Int)):=iL h.2.2.2.2 e
theorem DP(h:GW m ks):gD m ks 1=ks:=by
 refine dU (bR h.m0 h.m6) h λa b=>?_;rw[dC h.m6];constructor
 ·rintro ⟨g, i, j, (H | ⟨r, H, f⟩)⟩
  ·have : b = a := H
   lia
  ·have this := f;subst this;rcases (aX h.2.2.2.2).mp H with z|z
   ·exact z
   ·refine aF (h.2.2.2.2 _ z) λc d e G v C => ?_
    lia
 ·intro z;refine aF (h.2.2.2.2 _ z) λc d e G v C=>?_;injection e with E B
  injection B with B _
  subst E B;exact⟨G,v,C,R.one ((aX h.2.2.2.2).mpr (.inl z))⟩
theorem Kh{k:Nat}(h:GW m ks)(H:j<=k){x:List Int}(d:x∈gD m ks j):x∈gD m ks k:=by
 refine bH ((bR h.m0 h.m6).2.2.2.2 x d) λa b v _=>?_;subst v;rw[dC h.m6]at d⊢;exact⟨d.1,d.2.1,d.2.2.1,d.2.2.2.mono H⟩
end
noncomputable def Gr(k k':List Int):Bool:=match k,k' with
 |[a,b],[c,d]=>decide (a<c) || (decide (a=c)&&decide (b<d))
 |_,_=>false
theorem Ck{a b c d:Int}:eJ .Lt (aj [a,b]) (aj [c,d]) Y=.ok (.bl (Gr [a,b] [c,d])) Y:=by
 rw[(show eJ .Lt (aj [a,b]) (aj [c,d]) Y=(match cmpPs .Lt [.int a,.int b] [.int c,.int d] with|some k=>.ok (.bl k) Y|none=>.bad) from rfl)];simp[cmpPs,cmpP,PyData.eqv,Gr];by_cases H:a=c
 ·subst H;by_cases h:b=d
  ·subst h;simp[cmpI]
  ·simp[h,cmpI]
 ·simp[H,cmpI]
def SH(k:List Int):Prop:=∃a b,k=[a,b]
noncomputable def O7(ks:0e1):Bool:=(List.range (ks.length-1)).all λi=>Gr (ks.getD i []) (ks.getD (i+1) [])
theorem RH:gr=ay (eJ .Lt) (ay cj 5e7 (ay iT 2e3 2e2)) (ay cj 5e7 2e3):=rfl
theorem HV(d:∀k∈ks,SH k)(a:List D)(i:Nat)(h:i<ks.length-1):
  (ay (eJ .Lt) (ay cj 5e7 (ay iT 2e3 2e2)) (ay cj 5e7 2e3)) [some (.int (1+(i:Int))),some 3e7] (Y++[.lst a])=.ok (.bl (Gr (ks.getD i []) (ks.getD (i+1) []))) (Y++[.lst a]):=by
 have H:i<ks.length:=by lia
 have c:i+1<ks.length:=by lia
 refine CJ (d ks[i] (Yt H)) λx y e=>?_;refine CJ (d ks[i+1] (Yt c)) λu v B=>?_
 have G:atI 0e3 (1+(i:Int)-1)=some (aj [x,y]):=by
  rw[show (1+(i:Int)-1)=((i:Nat):Int) by lia];exact iN (by rw[Wi,Xx H,e];rfl)
 have g:atI 0e3 (1+(i:Int))=some (aj [u,v]):=by
  rw[show (1+(i:Int))=((i+1:Nat):Int) by lia];exact iN (by rw[Wi,Xx c,B];rfl)
 simp_all[ng,Ck]
theorem E8(K:∀k∈ks,SH k)(l:ks.length<1000):
  compLoop (kE.fix (cc 1 (ks.length-1))) 5e8 (ag 0) aV (ay (eJ CmpOp.Lt) (ay cj 5e7 (ay iT 2e3 (cC (D.int 1)))) (ay cj 5e7 2e3)) (cc 1 (ks.length-1)) [none,some (D.tup (List.map aj ks))] (Y++[O.lst []]) =
   .ok 0e8 (Y++[.lst (((List.range (ks.length-1)).map λi=>Gr (ks.getD i []) (ks.getD (i+1) [])).map D.bl)]):=by
 have:=eW (src:=.fix (cc 1 (ks.length-1))) (g:=ag 0) (t:=aV) (e:=ay (eJ .Lt) (ay cj 5e7 (ay iT 2e3 2e2)) (ay cj 5e7 2e3)) (Y1:=Y) (q:=λ_=>true)
  (h:=λd=>match d with | .int j=>.bl (Gr (ks.getD (j-1).toNat []) (ks.getD ((j-1).toNat+1) []))|_=>.non) (λb=>∃o,b=[o,some 3e7]) (λ_=>trivial) (xs:=cc 1 (ks.length-1)) (acc:=[]) (ρ:=[none,some 3e7]) ⟨none,rfl⟩
  (by rw[wR,Wb,WH,WI];exact UX 0e0 bp)
  (λx X a b ⟨o, G⟩ => by
   refine bz (WM.mp X) λi H v=>?_;subst v;refine⟨[some (.int (1+(i:Int))),some 3e7],⟨_,rfl⟩,by subst G;rfl,rfl,λ_=>?_⟩;simp only[HV K a i (by simpa using H)]
   rw[show (1+(i:Int)-1).toNat=i by lia])
 rw[this,YX.mpr (λ_ _=>rfl),wR,WE,WE];congr 4;apply WG;intro i _;show D.bl (Gr (ks.getD (1+(i:Int)-1).toNat []) (ks.getD ((1+(i:Int)-1).toNat+1) []))=_;rw[show (1+(i:Int)-1).toNat=i by lia];rfl
theorem Bo(d:∀k∈ks,SH k)(i:ks.length<1000):df [.tup 0e3] Y=.ok (.bl (O7 ks)) Y:=by
 unfold df;rw[dS];simp only[kr,bG,aA,ar,aZ,cM,bE,aB,aa,ai,kH,Wb];rw[uU 0e0 0e0 0e0 0e0];simp only[aa,aT,(show ((ks.length:Int)-1).toNat=ks.length-1 by lia)];rw[show cJ [none,some 0] (some (D.tup (List.map aj ks))::List.replicate (1-1) none)=[none,some (D.tup (List.map aj ks))] from rfl,RH,E8 d i];simp only[aa];rw[jB aC];simp[cD,O7]
theorem Af(d:1<=m)(H:m<=6):jm [.int m] Y=.ok (.bl true) Y:=by
 unfold jm;rw[dS];simp[tR,su 0e0 (show (m:Int)<=6 by lia)];exact aW 1e1
theorem Ad{a b:Int}(n:0<=a/\a<(m:Int))(B:0<=b/\b<(m:Int))(h:a≠b):g9 [.int m,.tup [.int a,.int b]] Y=.ok (.bl true) Y:=by
 have H:cO [.int m,.tup [.int a,.int b]] Y=.ok (.bl true) Y:=by
  rw[y8 (λx d=>by simp at d;rcases d with rfl|rfl <;> exact nofun) 1e1]
  simp_all[Kc]
 have c:hZ true (.int a) (.int b) Y=.ok (.bl true) Y:=by
  simp_all
 unfold g9;rw[bB];simp only[tQ,bG,uV,aA,ar,aB,ai,ao,bE,aa,H,bQ,aK,kH,(show hZ false (.int (([.int a,.int b]:List D).length:Int)) (.int 2) Y=.ok (.bl true) Y from rfl),(show cj (.tup [.int a,.int b]) (.int 0) Y=.ok (.int a) Y from rfl),(show cj (.tup [.int a,.int b]) (.int 1) Y=.ok (.int b) Y from rfl),c];exact aW 1e1
theorem Mo{m:Int}:∀{ks:0e1},(∀k∈ks,gv m k)->m<=6->ks.Pairwise (λa b=>nP a<nP b)->∀i,i<ks.length-1->Gr (ks.getD i []) (ks.getD (i+1) [])=true:=λ{ks} K M p i I=>by
 have H:i<ks.length:=by lia
 have h:i+1<ks.length:=by lia
 have lt:=WK.mp p i (i+1) H h 0e0;rw[(show ks.getD i []=ks[i] by rw[Yj,Xx H];rfl),(show ks.getD (i+1) []=ks[i+1] by rw[Yj,Xx h];rfl)];refine aF (K _ (Yt H)) λa b e A f s=>?_;refine aF (K _ (Yt h)) λc d μ c1 C g=>?_;rw[e,μ]at lt⊢;have l:a*6+b<c*6+d:=lt;unfold Gr;dsimp only;by_cases z:a<c
 ·rw[Xu z];rfl
 ·have : a = c := by lia
  rw[UQ z,Xu this,Xu 0e0];rfl
mutual
def Kn(Y:ax):D->Prop
 |.tup xs=>xs.length<1000/\Kns Y xs
 |.obj n=>∃tn,CT Y (.obj n)=some tn/\tn ≠ "int" /\ tn ≠ "bool" /\ tn ≠ "tuple"
 |_=>True
def Kns(Y:ax):List D->Prop
 |[]=>True
 |x::xs=>Kn Y x/\Kns Y xs
end
theorem me{Y:ax}:∀{xs:List D},Kns Y xs↔∀x∈xs,Kn Y x:=by
 intro x;cases x <;> simp_all[Kns,me]
theorem G3{g:ax}(h:CT Y (.obj n)=some tn):CT (Y++g) (.obj n)=some tn:=by
 unfold CT at h⊢;dsimp only at h⊢;cases e:Y[n]? with
 |none=>rw[e]at h;cases h
 |some o=>rw[VF (VY.mp e).1,e];rw[e]at h;exact h
mutual
theorem uN{Y:ax}(g:ax):∀{d:D},Kn Y d->Kn (Y++g) d
 |.non,_=>by simp[Kn]
 |.bl _,_=>by simp[Kn]
 |.int _,_=>by simp[Kn]
 |.str _,_=>by simp[Kn]
 |.frz _,_=>by simp[Kn]
 |.obj n,h=>by
  grind [Kn,G3]
 |.tup xs,h=>by
  simp_all[Kn,kns_more]
theorem kns_more{Y:ax}(g:ax):∀{xs:List D},Kns Y xs->Kns (Y++g) xs
 |[],_=>by simp[Kns]
 |x::xs,h=>by
  exact⟨uN g h.1,kns_more g h.2⟩
end
noncomputable def isInt:D->Bool
 |.int _=>true
 |_=>false
noncomputable def j6:D->Bool
 |.tup _=>true
 |_=>false
noncomputable def ie(a b:Int):D->Bool
 |.int i=>decide (a<=i)&&decide (i<=b)
 |_=>false
theorem B6(h:Kn Y d):∃b,iB "int" d Y=.ok (.bl b) Y/\(b=true↔(isInt d=true\/∃c,d=.bl c)):=by
 cases d with
 |obj n=>
  refine lb h λt H a e f=>?_
  simp_all[iB,j4,isInt]
 |non=>exact⟨_,rfl,by simp[j4,isInt]⟩
 |bl b=>exact⟨_,rfl,by simp[j4]⟩
 |int b=>exact⟨_,rfl,by simp[j4,isInt]⟩
 |str b=>exact⟨_,rfl,by simp[j4,isInt]⟩
 |tup b=>exact⟨_,rfl,by simp[j4,isInt]⟩
 |frz b=>exact⟨_,rfl,by simp[j4,isInt]⟩
theorem FM(h:Kn Y d):∃b,iB "bool" d Y=.ok (.bl b) Y/\(b=true↔∃c,d=.bl c):=by
 cases d with
 |obj n=>
  refine lb h λt H a e f=>?_
  simp_all[iB,j4]
 |non=>exact⟨_,rfl,by simp[j4]⟩
 |bl b=>exact⟨_,rfl,by simp[j4]⟩
 |int b=>exact⟨_,rfl,by simp[j4]⟩
 |str b=>exact⟨_,rfl,by simp[j4]⟩
 |tup b=>exact⟨_,rfl,by simp[j4]⟩
 |frz b=>exact⟨_,rfl,by simp[j4]⟩
theorem sT(h:Kn Y d):iB "tuple" d Y=.ok (.bl (j6 d)) Y:=by
 cases d with
 |obj n=>
  grind [Kn,iB,j4,j6]
 |non=>rfl
 |bl b=>rfl
 |int b=>rfl
 |str b=>rfl
 |tup b=>rfl
 |frz b=>rfl
theorem y0(h:Kn Y d):eO [d] Y=.ok (.bl (isInt d)) Y:=by
 refine bz (B6 h) λb1 e n=>?_;refine bz (FM h) λb2 B O=>?_;unfold eO;rw[dS]
 have:(b1 && !b2)=isInt d:=by
  grind [isInt]
 simp[lV,e,B];cases b1 <;> cases b2 <;> simp at this⊢ <;> rw[<- this] <;> exact aW 1e1
theorem EK{a b:Int}(h:Kn Y d):bD [d,.int a,.int b] Y=.ok (.bl (ie a b d)) Y:=by
 unfold bD;rw[jx];simp[eG,y0 h]
 cases d <;> simp[isInt,ie] <;> first
  |exact aW 1e1
  |skip
 simp[cmpI];split <;> (rename_i j;simp[j];exact aW 1e1)
theorem y9{m:Int}(h:Kn Y d):eP [.int m,d] Y=.ok (.bl (ie 0 (m-1) d)) Y:=by
 simp_all[eP,bB,lW,EK,aW]
noncomputable def tU(m:Int):D->Bool
 |.tup S=>S.all (ie 0 (m-1))
 |_=>false
theorem F3{h:D->Bool}{e:ME}{c:D}(i:xs.length<=sizeLine)(n:∀x∈xs,∀a,e [some x,some c] (Y++[.lst a])=.ok (.bl (h x)) (Y++[.lst a])):
  compLoop (.fix xs) 5e8 (ag 0) aV e xs [none,some c] (Y++[.lst []])=.ok 0e8 (Y++[.lst ((xs.map h).map D.bl)]):=by
 have:=eW (src:=.fix xs) (g:=ag 0) (t:=aV) (Y1:=Y) (λb=>∃o,b=[o,some c]) (λ_=>trivial) (acc:=[]) (ρ:=[none,some c]) ⟨none,rfl⟩ (by simpa using i)
  (λx d a b ⟨o,G⟩=>⟨[some x,some c],⟨_,rfl⟩,by subst G;rfl,rfl,λ_=>n x d a⟩)
 rw[this,YX.mpr (λ_ _=>rfl)];simp
theorem EU:1000<=sizeLine:=by decide
theorem sC{m:Int}(h:Kn Y d):cO [.int m,d] Y=.ok (.bl (tU m d)) Y:=by
 unfold cO;rw[bB];simp[ku,sT h];cases d with
 |tup S=>
  simp only[j6,tU];simp;rw[F3 (h:=ie 0 (m-1)) (UX (UY h.1) EU) λx H a=>?_]
  ·simp;rw[jB (bs:=S.map (ie 0 (m-1))) 1e1];simp[cD]
  ·simp[gu];exact y9 (uN _ (me.mp h.2 x H))
 |non=>simp[j6,tU,aW]
 |bl b=>simp[j6,tU,aW]
 |int b=>simp[j6,tU,aW]
 |str b=>simp[j6,tU,aW]
 |frz b=>simp[j6,tU,aW]
 |obj b=>simp[j6,tU,aW]
theorem Fg{m:Int}(h:tU m (.tup xs)=true):∃ns:List Int,xs=ns.map D.int/\∀n∈ns,0<=n/\n<=m-1:=by
 simp only[tU]at h
 induction xs with
 |nil=>exact⟨[],rfl,by simp⟩
 |cons x r I=>
  rw[List.all_cons,Yl]at h;refine bz (I h.2) λns e f=>?_;cases x with
  |int i=>
   simp[ie]at h;exact⟨i::ns,by rw[e];rfl,λn H=>(U2.mp H).elim (λz=>by rw[z];exact h.1) (f n)⟩
  |non=>simp[ie]at h
  |bl b=>simp[ie]at h
  |str b=>simp[ie]at h
  |tup b=>simp[ie]at h
  |frz b=>simp[ie]at h
  |obj b=>simp[ie]at h
noncomputable def mm(p:Int×Int):List Int:=[min p.1 p.2,max p.1 p.2]
def PP(m:Nat)(p:Int×Int):Prop:=(0<=p.1/\p.1<(m:Int))/\(0<=p.2/\p.2<(m:Int))/\p.1≠p.2
theorem PP.ok{p:Int×Int}(h:PP m p):gv m (mm p):=⟨_,_,rfl,by have:=h.1;have:=h.2.1;lia,by have:=h.2.2;lia,by have:=h.1;have:=h.2.1;lia⟩
theorem wJ{ps:(List (Int×Int))}{a b:Int}(H:m<=6)(c:∀p∈ps,PP m p):[a,b]∈cL (ps.map mm)↔∃p∈ps,mm p=[a,b]:=by
 unfold cL;rw[UW,YS,WM];exact⟨λh=>h.2,λh=>⟨by refine bz h λp d e=>?_;rw[<- e];exact(c p d).ok.prs 0e0,h⟩⟩
theorem gP{ps:(List (Int×Int))}(H:1<=m)(M:m<=6)(c:∀p∈ps,PP m p):GW m (cL (ps.map mm)):=kk 0e0 0e0 λk d=>by obtain⟨p,h,rfl⟩:=WM.mp d;exact(c p h).ok
theorem nt{t:Nat}{ps:(List (Int×Int))}(i:1<=m)(j:m<=6)(l:ps.length<=100000)(J:Y[t]?=some (.lst (ps.map dJ)))(s:∀p∈ps,PP m p):cy [.int m,.obj t] Y=.ok (aE m (cL (ps.map mm))) Y:=by
 have c:=bg (en:=dJ) (src:=.own t (ps.map dJ)) (g:=bc 2 1e6) (t:=aV) (e:=gJ) (Y1:=Y) (h:=λp=>aj (mm p)) (λb=>∃o f,b=[o,f]) (λ_=>aH J) (us:=ps) (ρ:=[none,none]) ⟨_,_,rfl⟩
  (by rw[WI];exact UX 0e0 DU)
  (λp H a b hJJ => by
   refine CJ hJJ λo f e=>?_;subst e;refine⟨[some (.int p.1),some (.int p.2)],⟨_,_,rfl⟩,rfl,rfl,λ_=>?_⟩;unfold gJ;simp only[dR,aA,ar,aB,ai,ao,aa,Q0,Q2]
   rfl)
 rw[dA,YQ,show ps.map (λp=>aj (mm p))=(ps.map mm).map aj from by rw[WE];rfl]at c
 have d:∀k∈ps.map mm,k∈prs:=λk d=>by
  obtain⟨p,H,rfl⟩:=WM.mp d;exact(s p H).ok.prs 0e0
 let M:ax:=Y++[O.lst ((ps.map mm).map aj)]
 have S:pb [.obj 5e8] M=.ok (.obj 4e8) (M++[.set (ff (ps.map mm))]):=by
  unfold pb;dsimp only;rw[show M[5e8]?=some (.lst ((ps.map mm).map aj)) from aC];dsimp only;unfold vT;rw[xl d]
 have N:bL [.obj 4e8] (M++[.set (ff (ps.map mm))])=.ok (.obj (M++[O.set (ff (ps.map mm))]).length) ((M++[.set (ff (ps.map mm))])++[.lst ((cL (ps.map mm)).map aj)]):=by
  unfold bL;dsimp only;rw[aC];dsimp only;unfold iM;dsimp only;rw[aC];dsimp only;rw[nX]
 unfold cy;rw[bB];simp only[lz,List.replicate,bG,dR,ar,aB,aA,ao,ai,aa,ak,aZ,bh];rw[bS J];simp only[aa,ak,cn];rw[show cJ [none,none] _=[none,none] from rfl,c];simp only[aa,ak];rw[show pb [.obj 5e8] (Y++[O.lst ((ps.map mm).map aj)])=_ from S];simp only[aa,ak];rw[N];simp only[aa,ak];rw[fj aC];simp only[aa,ak,Wd,WI,Vs l2,ae,dF,M,W4];exact cD (cZ (gP i j s))
theorem Oh{q:Nat}{sh:Int}(H:i<Y0.length)(h:Pn Y0 i Y1)(Q:q<m)(m6:m<=6)(s0:0<sh)(M:sh<1000):
  ∃(qs:(List (Int×Int)))(Y2:ax),(∀p∈qs,PP m p)/\qs.length<=q/\Pn Y0 i Y2/\Y2.length=Y1.length/\(∀j o,i≠j->Y1[j]?=some o->Y2[j]?=some o)/\compLoop (.fix (cc 0 q)) Y1.length (ag 0) dj dr (cc 0 q) [none,some (.int q),some (.obj i),some (.int sh)] (Y1++[.lst []])=.ok (.obj Y1.length) (Y2++[.lst (qs.map dJ)]):=by
 have R:=mE (src:=.fix (cc 0 q)) (g:=ag 0) (t:=dj) (e:=dr)
  (λX μ f Y2 s=>s=[]/\Y2.length=Y1.length/\Pn Y0 i Y2/\(∀j o,i≠j->Y1[j]?=some o->Y2[j]?=some o)/\(∃o,f=[o,some (.int q),some (.obj i),some (.int sh)])/\∃(l n:Nat)(qs:(List (Int×Int))),X=cc l n/\l+n=q/\μ=qs.map dJ/\qs.length<=l/\(∀p∈qs,PP m p))
  (λμ f Y2 s ⟨_,d,_⟩=>⟨d,trivial⟩)
  (λx r μ f Y2 s hJJ => by
   obtain⟨S,d,B,K,⟨o,u⟩,l,n,qs,E,w,k,y,e10⟩:=hJJ;subst S u k;cases n with
   |zero=>rw[g7]at E;cases E
   |succ n=>
    rw[fQ]at E;injection E with ex A
    subst ex A;have I:=UT H B.len;refine cE ((B.app (g:=[.lst (qs.map dJ)])).draw H s0 0e0) λv a b c N T U P=>?_;rw[ux I]at U;refine⟨d,trivial,[some (.int l),some (.int q),some (.obj i),some (.int sh)],Y2,[],v == 0,Y2.set i (ck a b c),[],rfl,?_,λC=>?_,λC=>?_⟩
    ·unfold dj;simp only[cf,aK,aA,ar,aB,ao,ai,bE,aa,U,fO,Wl,VO,bQ]
    ·refine ⟨dJ ((l : Int), (q : Int)), Y2.set i (ck a b c), [], ?_, ?_, by simpa using d, rfl, by simpa using d, B.set H, λj o ne z => by rw [U8 ne]; exact K j o ne z, ⟨_, rfl⟩, l + 1, n, qs ++ [((l : Int), (q : Int))], by push_cast; rfl, by lia, by simp, by simp; lia, λp P => ?_⟩
     ·unfold dr;simp only[dR,ar,aB,ao,ai,aa,ak,Wd,WI,Vs l2];rfl
     ·rw[Wb];exact UT 0e0 bp
     ·rcases U4.mp P with z | z
      ·exact e10 p z
      ·simp at z;subst z;exact⟨⟨by dsimp only;lia,by dsimp only;lia⟩,⟨by dsimp only;lia,by dsimp only;lia⟩,by dsimp only;lia⟩
    ·exact⟨rfl,by simpa using d,B.set H,λj o ne z=>by rw[U8 ne];exact K j o ne z,⟨_,rfl⟩,l+1,n,qs,by push_cast;rfl,by lia,rfl,by lia,e10⟩)
  (ρ:=[none,some (.int q),some (.obj i),some (.int sh)]) (Y1:=Y1)
  ⟨rfl,rfl,h,λ_ _ _ z=>z,⟨_,rfl⟩,0,q,[],rfl,by lia,rfl,by simp,λp P=>by cases P⟩
 obtain⟨G,J,Y2,L,V,R⟩:=R;obtain⟨S,d,B,K,⟨o,u⟩,l,n,qs,E,w,k,y,e10⟩:=V;subst S k;exact⟨qs,Y2,e10,by lia,B,d,K,R⟩
theorem Pn.put{t:Nat}(h:Pn Y0 i M)(J:Y0.length<=t):Pn Y0 i (M.set t o):=by
 obtain⟨a,b,c,g,v⟩:=h;subst v;refine⟨a,b,c,g.set (t-Y0.length) o,?_⟩
 simp_all
theorem JG{t u:Nat}(J:(M[t]?=some (.lst xs)))(U:M[u]?=some (.lst ys))(i:xs.length+ys.length<=1000):gk (.obj t) [.obj u] M=.ok .non (M.set t (.lst (xs++ys))):=by
 unfold gk;dsimp only;rw[J,U];dsimp only;rw[Vs (UX i bp)]
theorem uh{t:Nat}(h:(M[t]?=some (.lst xs))):vB (.obj t) M=true:=by
 unfold vB;dsimp only;rw[h]
theorem mv{a b c u:Int}(u1:1<=u)(u6:u<=6)(h:Y[i]?=some (ck a b c)):∃m ks a' b' c',GW m ks/\(m:Int)<=u/\bq [.obj i,.int u] Y=.ok 3e5 (Y.set i (ck a' b' c')):=by
 have I:=(VY.mp h).1;refine cE ((Pn.self h).draw (m:=u) I 0e0 0e0) λv A b1 c1 v0 v1 μ w=>?_;obtain⟨m,Z⟩:∃m:Nat,(1:Int)+v=(m:Int):=⟨(1+v).toNat,by lia⟩;refine cE (w.draw (m:=3) I 1e0 1e0) λs B b2 K s0 s1 l y=>?_;let d:ax:=(Y.set i (ck A b1 c1)).set i (ck B b2 K)
 have lM2:d.length=Y.length:=by simp[d]
 obtain⟨ρ',M',⟨n,C,P,o,e,T,N,k,E,X,f⟩,R⟩:=gS (src:=.fix (cc 0 m)) (g:=ag 5)
  (λS r M=>∃(n C:Nat)(P:(List (Int×Int)))(o:Option D),S=cc n C/\n+C=m/\r=[some (.obj i),some (.int u),some (.int m),some (.int (2+s)),some (.obj d.length),o]/\Pn Y i M/\M[d.length]?=some (.lst (P.map dJ))/\P.length<=6*n/\∀p∈P,PP m p)
  (λ_ _ _=>trivial)
  (λx S r M hJJ => by
   obtain⟨n,C,P,o,e,T,N,k,E,X,f⟩:=hJJ;subst N;cases C with
   |zero=>simp_all[g7]
   |succ C=>
    rw[fQ]at e;injection e with ex V
    subst ex V;obtain⟨Q,j,W,q2,q3,q4,q5,q6⟩:=Oh (m:=m) (q:=n) (sh:=2+s) I k 0e0 0e0 0e0 0e0;have t:(j++[O.lst (Q.map dJ)])[d.length]?=some (.lst (P.map dJ)):=aH (q5 _ _ 0e0 E);have u3:(j++[O.lst (Q.map dJ)])[4e8]?=some (.lst (Q.map dJ)):=by rw[<- q4];exact aC
    have ex:=JG t u3 (by rw[Wb,Wb];lia);refine⟨trivial,_,_,[some (.obj i),some (.int u),some (.int m),some (.int (2+s)),some (.obj d.length),some (.int n)],(j++[O.lst (Q.map dJ)]).set d.length (.lst (P.map dJ++Q.map dJ)),rfl,?_,n+1,C,P++Q,some (.int n),by push_cast;rfl,by lia,rfl,(q3.app).put 0e0,?_,by rw[V6];lia,λp h=>?_⟩
    ·show dm [some (.obj i),some (.int u),some (.int m),some (.int (2+s)),some (.obj d.length),some (.int n)] M=_;unfold dm;simp only[dH,l7,ao,ai,aa,uh E,VP,ar,aB,aZ,cM];rw[fq 0e0 0e0];simp only[aa,aT,XW];rw[show cJ [none,some 5,some 0,some 3] [some (D.obj i),some (D.int u),some (D.int m),some (D.int (2+s)),some (D.obj d.length),some (D.int n)]=[none,some (.int n),some (.obj i),some (.int (2+s))] from rfl,q6];simp only[aa,ex,ae]
    ·rw[gR (by have:=(VY.mp t).1;exact this),WT]
    ·rcases U4.mp h with z | z
     ·exact f p z
     ·exact W p z)
  (ρ:=[some (.obj i),some (.int u),some (.int m),some (.int (2+s)),some (.obj d.length),none]) (Y:=d++[.lst []])
  ⟨0,m,[],none,rfl,by lia,rfl,y.app,aC,by simp,λp h=>by cases h⟩
 have F:=wQ e.symm;subst F N;have U:=gP 0e0 0e0 f;obtain⟨G,J,L,H⟩:=k.gc (cZ U);refine⟨m,_,G,J,L,U,by lia,?_⟩;unfold bq;rw[bB];simp only[jq,List.replicate];rw[aG,aM];simp only[aK,bE,aA,ar,aB,ai,ao,aa,μ,kK,Z,ae,bj,az,YY,YZ];rw[aG,aM];simp only[aK,bE,aA,ar,aB,ai,ao,aa,l,kK,ae,bj,az,YY,YZ];rw[aG,aM];simp only[j8,aB,aa,WI,Vs (Wo sizeLine),ae,bj,az,YY,YZ];rw[aG,ij];simp only[cM,ar,aB,ao,ai,aa];rw[fq 0e0 0e0];simp only[ae,aT,XW];rw[show c9 (.fix (cc 0 m)) (ag 5) dm (cc 0 m) [some (.obj i),some (.int u),some (.int m),some (.int (2+s)),some (.obj d.length),none] (d++[O.lst []])=_ from R];simp only[az,bG,aA,ar,aB,ao,ai,aa,nt 0e0 0e0 0e0 E f,ae,dF];exact H
noncomputable def c8(k:List Int):Int×Int:=(k.getD 0 0,k.getD 1 0)
noncomputable def tZ(p:Int)(k:List Int):Bool:=decide (p=(c8 k).1) || decide (p=(c8 k).2)
noncomputable def cu(ks:0e1)(p:Int):List Int:=(ks.filter (tZ p)).map λk=>(c8 k).1+(c8 k).2-p
noncomputable def iS(l:List Int)(x:Int):List (Int×Int):=(l.filter λy=>decide (x<y)).map λy=>(x,y)
noncomputable def C1(m:Nat)(ks:0e1):List (Int×Int):=ks.map c8++(rg m).flatMap λp=>(cu ks p).flatMap (iS (cu ks p))
theorem FU{t u:Nat}(J:(M[t]?=some (.lst xs)))(U:M[u]?=some (.lst ys))(i:xs.length+ys.length<=100000):gk (.obj t) [.obj u] M=.ok .non (M.set t (.lst (xs++ys))):=by
 unfold gk;dsimp only;rw[J,U];dsimp only;rw[Vs (UX i DU)]
theorem NZ{a b:Int}:iC false (.int p) (.tup [.int a,.int b]) Y=.ok (.bl (decide (p=a) || decide (p=b))) Y:=by
 show aq.ok (D.bl ((a == p) || ((b == p) || false))) Y=_
 lia
section
theorem qg(h:GW m ks):(cu ks p).length<=15:=by
 grind [bw,cu]
theorem cF(h:GW m ks){x:Int}:x∈cu ks p↔dM ks p x:=by
 rw[aX h.2.2.2.2];unfold cu;rw[WM];constructor
 ·rintro ⟨k, d, rfl⟩
  obtain⟨H,c⟩:=UW.mp d;refine bH (h.2.2.2.2 k H) λa b v _=>?_;subst v;rcases (by simpa[tZ] using c) with rfl|rfl
  ·left;rw[show (c8 [p,b]).1+(c8 [p,b]).2-p=b from by show p+b-p=b;lia];exact H
  simp_all[c8]
 ·rintro (H | H)
  ·exact⟨[p,x],UW.mpr ⟨H,by simp[tZ,c8]⟩,by show p+x-p=x;lia⟩
  ·exact⟨[x,p],UW.mpr ⟨H,by simp[tZ,c8]⟩,by show x+p-p=x;lia⟩
theorem Hu(h:GW m ks):fD [aE m ks,.int p] Y=.ok 0e8 (Y++[.lst ((cu ks p).map D.int)]):=by
 have c:=bg (en:=aj) (src:=.fix 0e3) (g:=bc 2 1e6) (t:=fY) (e:=f9) (Y1:=Y) (q:=tZ p) (h:=λk=>.int ((c8 k).1+(c8 k).2-p)) (λb=>∃o O,b=[o,O,some (.int p)]) (λ_=>trivial) (us:=ks) (ρ:=[none,none,some (.int p)]) ⟨_,_,rfl⟩
  (by rw[WI];have:=bw h;exact UX 0e0 bp)
  (λk d a b hJJ => by
   refine CJ hJJ λo O e=>?_;subst e;refine bH (h.2.2.2.2 k d) λx y V _=>?_;subst V;refine⟨[some (.int x),some (.int y),some (.int p)],⟨_,_,rfl⟩,rfl,?_,λ_=>?_⟩
   ·unfold fY;simp[Vs l2,NZ];rfl
   ·unfold f9
    rfl)
 rw[show (ks.filter (tZ p)).map (λk=>D.int ((c8 k).1+(c8 k).2-p))=(cu ks p).map D.int from by unfold cu;rw[WE];rfl]at c;unfold fD;rw[bB];simp[kC]
 simp_all[iD]
theorem G4{N:Nat}{l:List Int}{x:Int}(hN:M[N]?=some (.lst (l.map D.int)))(i:l.length<=15):compLoop (.own N (l.map D.int)) 4e8 (ag 0) cQ cT (l.map D.int) [none,some (.int x)] (M++[.lst []])=.ok (.obj 4e8) (M++[.lst ((iS l x).map dJ)]):=by
 have c:=bg (src:=.own N (l.map D.int)) (g:=ag 0) (t:=cQ) (e:=cT) (Y1:=M) (q:=λy=>decide (x<y)) (h:=λy=>dJ (x,y)) (λb=>∃o,b=[o,some (.int x)]) (λ_=>aH hN) (us:=l) (ρ:=[none,some (.int x)]) ⟨_,rfl⟩
  (by rw[WI];exact UX 0e0 bp)
  (λy μ a b hJJ => by
   obtain⟨o,e⟩:=hJJ;subst e;refine⟨[some (.int y),some (.int x)],⟨_,rfl⟩,rfl,?_,λ_=>?_⟩
   ·unfold cQ;rfl
   ·unfold cT
    rfl)
 simp_all[iS]
theorem pU{l:List Int}{x:Int}:(iS l x).length<=l.length:=by
 grind [iS]
theorem oM{α β:Type}{f:α->List β}{k:Nat}(h:∀x,(f x).length<=k):∀l:List α,(l.flatMap f).length<=l.length*k
 |[]=>by simp
 |w::l=>by
  rw[YM,V6,Wd];have:=h w;have:=oM h l;lia
theorem DK{M:ax}{T N:Nat}{ps:(List (Int×Int))}{l:List Int}{o0 o2:Option D}(hT:M[T]?=some (.lst (ps.map dJ)))(hN:M[N]?=some (.lst (l.map D.int)))(ne:T≠N)(i:l.length<=15)(d:ps.length<=10000):∀(xs:List Int)(dn:List Int)(M1:ax)(o4:Option D),l=dn++xs->M1[T]?=some (.lst ((ps++dn.flatMap (iS l)).map dJ))->(∀j o,T≠j->M[j]?=some o->M1[j]?=some o) ->
  ∃(M2:ax)(o4':Option D),c9 (.own N (l.map D.int)) (ag 4) cS (xs.map D.int) [o0,some (.obj T),o2,some (.obj N),o4] M1=.next [o0,some (.obj T),o2,some (.obj N),o4'] M2/\M2[T]?=some (.lst ((ps++l.flatMap (iS l)).map dJ))/\(∀j o,T≠j->M[j]?=some o->M2[j]?=some o)
 |[],dn,M1,o4,e,H,c=>by
  rw[Vu]at e;subst e;refine⟨M1,o4,?_,H,c⟩;rw[VW];unfold c9;rw[Vs (show bA (.own N _) M1 from c N _ ne hN)]
 |x::xs,dn,M1,o4,e,H,c=>by
  have hN1:=c N _ ne hN
  have L:(dn.flatMap (iS l)).length<=15*15:=by
   exact UX (oM (f:=iS l) (λy=>UX pU i) dn) (Nat.mul_le_mul_right 15 (by have:=VA List.length e;simp at this;lia))
  have a:(iS l x).length<=15:=UX pU i;have ex:=FU (M:=M1++[.lst ((iS l x).map dJ)]) (aH H) aC (by rw[Wb,Wb,V6];lia);have t:=(VY.mp H).1
  obtain⟨M2,o4',R,r,U⟩:=DK hT hN ne i d xs (dn++[x]) ((M1++[O.lst ((iS l x).map dJ)]).set T (.lst ((ps++dn.flatMap (iS l)).map dJ++(iS l x).map dJ))) (some (.int x)) (by rw[e];simp)
   (by rw[gR (by rw[V6];lia),YL,YM,YN,Vu,<- W4,WT (l₂:=iS l x)])
   (λj o n z=>by rw[U8 n];exact aH (c j o n z))
  refine⟨M2,o4',?_,r,U⟩;rw[VX];unfold c9;rw[Vs (show bA (.own N _) M1 from hN1)];simp
  rw[show cS [o0,some (.obj T),o2,some (.obj N),some (.int x)] M1=.next [o0,some (.obj T),o2,some (.obj N),some (.int x)] ((M1++[O.lst ((iS l x).map dJ)]).set T (.lst ((ps++dn.flatMap (iS l)).map dJ++(iS l x).map dJ))) from by
   unfold cS;simp only[dH,l7,ao,ai,aa,uh H,ar,aZ,bh];rw[bS hN1];simp only[aa,cn];rw[show cJ [none,some 4] [o0,some (D.obj T),o2,some (D.obj N),some (D.int x)]=[none,some (.int x)] from rfl,(G4 hN1 i)]
   simp[ex]]
  exact R
end
section
noncomputable def vU(ks:0e1)(l:List Int):List (Int×Int):=l.flatMap λp=>(cu ks p).flatMap (iS (cu ks p))
theorem B0(h:GW m ks):((cu ks p).flatMap (iS (cu ks p))).length<=225:=by
 have i:=qg h (p:=p);have d:=oM (f:=iS (cu ks p)) (λy=>UX pU i) (cu ks p)
 lia
theorem w8(h:GW m ks)(l:List Int):(vU ks l).length<=l.length*225:=oM (λp=>B0 h) l
theorem z7{T:Nat}{Y:ax}(h:GW m ks):∀(xs dn:List Int)(M:ax)(o2 o3 o4:Option D),dn.length+xs.length<=6->M[T]?=some (.lst ((ks.map c8++vU ks dn).map dJ))->Y.length<=T->(∀j,j<Y.length->M[j]?=Y[j]?) ->
  ∃(M':ax)(o2' o3' o4':Option D),c9 (.fix ((rg m).map D.int)) (ag 2) cR (xs.map D.int) [some 3e5,some (.obj T),o2,o3,o4] M=.next [some 3e5,some (.obj T),o2',o3',o4'] M'/\M'[T]?=some (.lst ((ks.map c8++vU ks (dn++xs)).map dJ))/\(∀j,j<Y.length->M'[j]?=Y[j]?)
 |[],dn,M,o2,o3,o4,i,hT,hμ,d=>by
  refine⟨M,o2,o3,o4,?_,by rw[Vu];exact hT,d⟩;rw[VW];unfold c9;rw[Vs (show bA (.fix _) M from trivial)]
 |p::xs,dn,M,o2,o3,o4,i,hT,hμ,d=>by
  have n:=qg h (p:=p);have l:=w8 h dn;have k:=bw h;simp at i;have t:=(VY.mp hT).1
  obtain⟨a,o4',R,r,U⟩:=DK (aH hT) aC 0e0 n
   (by
    rw[V6,Wb];have:dn.length*225<=6*225:=Nat.mul_le_mul_right 225 0e0
    lia) (cu ks p) [] (M++[.lst ((cu ks p).map D.int)]) o4 rfl (by rw[YN,Vu];exact aH hT) (λ_ _ _ z=>z)
  obtain⟨M',o2',o3',o4'',q,J,L⟩:=z7 h xs (dn++[p]) a (some (.int p)) (some (.obj 4e8)) o4' (by rw[V6];simp[Wd,WI];lia)
   (by rw [r]; unfold vU; rw [YL, YM, YN, Vu, W4]) hμ (λj Z => by
    have H:j<M.length:=by
     have:j<T:=by lia
     lia
    rw[U j M[j] 0e0 (by rw[VF H,Xx H]),<- d j Z,Xx H])
  refine⟨M',o2',o3',o4'',?_,by rw[J,W4];rfl,L⟩;rw[VX];unfold c9;rw[Vs (show bA (.fix _) M from trivial)];simp[bj,ae,YY,YZ]
  rw[show cR [some 3e5,some (.obj T),some (.int p),o3,o4] M=.next [some 3e5,some (.obj T),some (.int p),some (.obj 4e8),o4'] a from by
   unfold cR;rw[aG,aM];simp only[aA,ar,aB,ao,ai,aa,Hu h,ae,bj,az,YY,YZ];rw[ij];simp[bh,ao,ai,aa];rw[bS aC]
   exact R]
  exact q
theorem ub(h:GW m ks):∀p∈C1 m ks,PP m p:=λp P=>by
 rcases U4.mp P with z|z
 ·obtain⟨k,K,rfl⟩:=WM.mp z;refine aF (h.2.2.2.2 k K) λa b V H e d=>?_;subst V;exact⟨⟨H,by show a<(m:Int);lia⟩,⟨by show 0<=b;lia,d⟩,by show a≠b;lia⟩
 ·obtain⟨q,Q,z⟩:=YH.mp z;obtain⟨x,X,z⟩:=YH.mp z;obtain⟨y,μ,rfl⟩:=WM.mp z;obtain⟨μ,c⟩:=UW.mp μ;exact⟨(K6 h ((cF h).mp X)).2,(K6 h ((cF h).mp μ)).2,by dsimp only;lia⟩
theorem Lp(h:GW m ks):cL ((C1 m ks).map mm)=gD m ks 2:=by
 have m0:=h.m0;have m6:=h.m6;refine dU (gP m0 m6 (ub h)) (bR m0 m6) λa b=>?_;rw[wJ m6 (ub h),dC m6];constructor
 ·rintro ⟨p, H, e⟩
  unfold mm at e;have B:0<=a/\a<b/\b<(m:Int):=by obtain⟨⟨_,_⟩,⟨_,_⟩,_⟩:=(ub h p H);lia
  have key:dM ks p.1 p.2\/∃q,dM ks p.1 q/\dM ks q p.2:=by
   rcases U4.mp H with z|z
   ·obtain⟨k,d,rfl⟩:=WM.mp z;refine bH (h.2.2.2.2 k d) λx y v _=>?_;subst v;exact .inl ((aX h.2.2.2.2).mpr (.inl d))
   ·obtain⟨q,Q,z⟩:=YH.mp z;refine bz (YH.mp z) λx X z=>?_;obtain⟨y,μ,rfl⟩:=WM.mp z;exact .inr ⟨q,K5 h ((cF h).mp X),(cF h).mp (UW.mp μ).1⟩
  grind [R,K5]
 ·rintro ⟨l, f, n, r⟩
  obtain⟨c,i,M⟩:=oP (k:=1) r
  have s:∀{x y:Int},R (dM ks) x 1 y->y=x\/dM ks x y:=λ{x y} z=>by
   rcases z with z|⟨t,Z,G⟩
   ·exact .inl z
   ·have : t = x := G
    lia
  have one:dM ks a b->∃p∈C1 m ks,mm p=[a,b]:=λz=>by
   have d:[a,b]∈ks:=by
    rcases (aX h.2.2.2.2).mp z with z|z
    ·exact z
    ·refine bH (h.2.2.2.2 _ z) λx y e _ => ?_
     lia
   refine⟨(a,b),U5 _ (WM.mpr ⟨[a,b],d,rfl⟩),?_⟩
   grind [mm]
  rcases s i with rfl|K
  ·grind
  ·rcases s M with rfl | g
   ·exact one K
   ·have j := (K6 h K).2;refine⟨(a,b),Vq _ (YH.mpr ⟨c,eh.mpr j,YH.mpr ⟨a,(cF h).mpr (K5 h K),WM.mpr ⟨b,UW.mpr ⟨(cF h).mpr g,Xu f⟩,rfl⟩⟩⟩),?_⟩
    grind [mm]
theorem Ah(h:GW m ks):dq [aE m ks] Y=.ok (aE m (gD m ks 2)) Y:=by
 have m0:=h.m0;have m6:=h.m6;have l:=bw h
 have E:ks.map aj=(ks.map c8).map dJ:=by
  rw[WE];apply WG;intro k d;refine bH (h.2.2.2.2 k d) λa b V _=>?_;subst V;rfl
 obtain⟨M,o,U,c,R,hT,d⟩:=z7 (Y:=Y) h (rg m) [] (Y++[.lst 0e3]) none none none (by simp_all[lI]) (by rw[E];show _=some (O.lst ((ks.map c8++[]).map dJ));simp) (Vn _) (λj Z=>VF Z)
 obtain⟨g,e⟩:∃g,M=Y++g:=by
  refine⟨M.drop 5e8,?_⟩;apply Yv;intro i;by_cases H:i<Y.length
  ·rw[VF H,d i H]
  ·rw[VD 0e0,WW];congr 1;lia
 have w:=nt (Y:=M) m0 m6 (ps:=C1 m ks) (by
  unfold C1;rw[V6,Wb];have:=w8 h (rg m);unfold vU at this;rw[lI]at this
  lia) hT (ub h)
 rw[Lp h]at w;unfold dq;rw[dS];simp only[iA,List.replicate];simp[aA,ar,aB,aK,ai,bE,aa,iK];rw[show jQ [.tup 0e3] Y=.ok 0e8 (Y++[.lst 0e3]) from rfl];simp only[ae,az];simp[cM,ar,aB,aK,ai,bE,aa,d0,(show ∀Y,ja [.int (m:Int)] Y=.ok (.fix ((rg m).map D.int)) Y from λY=>by rw[fq 0e0 0e0,yv]),ae,aT];rw[R];simp[az,bG,aA,ar,aB,aK,ao,ai,bE,aa,d0,w];rw[e];exact cD (cZ (bR m0 m6))
end
theorem sV{m:Int}{a b:Int}(d:5e3):iC true (.tup [.int a,.int b]) 3e7 Y=.ok (.bl (!decide ([a,b]∈ks))) Y:=by
 have e:=qi (Y:=Y) (a:=a) (b:=b) d;unfold iC at e⊢
 lia
theorem IZ{a b c d:Int}:hZ true (.tup [.int a,.int b]) (.tup [.int c,.int d]) Y=.ok (.bl (!(decide (a=c)&&decide (b=d)))) Y:=by
 show aq.ok (D.bl (!((a == c)&&((b == d)&&true)))) Y=_
 lia
section
theorem LX{a b c:Int}(r:Y[i]?=some (ck a b c)):∃m ks a' b' c',GW m ks/\c0 [.obj i,.int 6] Y=.ok 3e5 (Y.set i (ck a' b' c')):=by
 have I:=(VY.mp r).1;refine dz (mv (u:=6) 1e0 1e0 r) λm ks a1 b1 c1 h _ ed=>?_;have m0:=h.m0;have m6:=h.m6;let A:ax:=Y.set i (ck a1 b1 c1)
 have R:Pn Y i A:=(Pn.self r).set I;refine cE (R.draw (m:=4) I 1e0 1e0) λw a2 b2 c2 w0 w1 ew G=>?_;let d:ax:=A.set i (ck a2 b2 c2)
 have E:bq [.obj i,.int 6] Y=.ok 3e5 A:=ed;have n:bC [.obj i,.int 4] A=.ok (.int w) d:=ew;have U:=bR (k:=2) (ks:=ks) m0 m6;by_cases z0:w=0
 ·obtain ⟨j, J, L, C⟩ := G.gc (cZ h);refine⟨m,ks,j,J,L,h,?_⟩;unfold c0;rw[bB];simp only[fI,List.replicate]
  simp_all
 ·by_cases z3 : w = 3 /\ 1 < m
  ·
   refine cE (G.draw (m:=(m:Int)-1) I 0e0 0e0) λu s b3 f u0 u1 eu F=>?_;refine cE (F.draw (m:=(m:Int)-1-u) I 0e0 0e0) λv a4 b4 c4 v0 v1 N P4=>?_;let M:ax:=(d.set i (ck s b3 f)).set i (ck a4 b4 c4)
   let y:Int:=u+1+v
   let l:List 4e2:=(gD m ks 2).filter λk=>!(decide (k.getD 0 0=u)&&decide (k.getD 1 0=y))
   have S:=bg (src:=.fix ((gD m ks 2).map aj)) (g:=ag 0) (t:=d6) (e:=d9) (Y1:=M) (q:=λk=>!(decide (k.getD 0 0=u)&&decide (k.getD 1 0=y))) (λQ=>∃o,Q=[o,some (.tup [.int u,.int y])]) (λ_=>trivial) (us:=gD m ks 2) (acc:=[]) (ρ:=[none,some (.tup [.int u,.int y])]) ⟨_,rfl⟩
    (by grind [bw,bp])
    (λk H a Q hJJ => by
     obtain⟨o,e⟩:=hJJ;subst e;refine bH (U.2.2.2.2 k H) λx z v2 _=>?_;subst v2;refine⟨[some (aj [x,z]),some (.tup [.int u,.int y])],⟨_,rfl⟩,rfl,?_,λ_=>by unfold d9;rw[ai]⟩;unfold d6;simp only[cf,aK,ao,ai,aa,ak];rw[show hZ true (aj [x,z]) (.tup [.int u,.int y]) (M++[O.lst a])=_ from IZ]
     rfl)
   rw[YQ]at S;let P:List (Int×Int):=l.map c8++(if ([u,y]∈gD m ks 2) then [] else [(u,y)])
   have X:∀p∈P,PP m p:=by
    intro p r;rcases U4.mp r with z|z
    ·obtain⟨k,H,rfl⟩:=WM.mp z;refine aF (U.2.2.2.2 k (UW.mp H).1) λx Z v4 h1 h2 h3=>?_;subst v4;exact⟨⟨h1,by show x<(m:Int);lia⟩,⟨by show 0<=Z;lia,h3⟩,by show x≠Z;lia⟩
    ·split at z
     ·cases z
     ·rw[Wz.mp z];exact⟨⟨u0,by show u<(m:Int);lia⟩,⟨by show 0<=u+1+v;lia,by show u+1+v<(m:Int);lia⟩,by show u≠u+1+v;lia⟩
   have T:l.map aj=(l.map c8).map dJ:=by
    rw[WE];apply WG;intro k H;refine bH (U.2.2.2.2 k (UW.mp H).1) λx z v5 _=>?_;subst v5;rfl
   have lsl:l.length<=15:=UX (μ0 _ _) (bw U);let V:ax:=M++[O.lst (P.map dJ)]
   have psl:P.length<=100000:=by
    simp only[P,V6,Wb];split <;> simp only[Wd,WI] <;> lia
   have μ:=nt (Y:=V) m0 m6 psl aC X;have W:=gP m0 m6 X;obtain⟨j,J,L,C⟩:=(P4.app).gc (cZ W);refine⟨m,_,j,J,L,W,?_⟩;have n2:0+1+1<=sizeLine:=l2;unfold c0;rw[bB];simp only[fI,List.replicate];rw[aG,aM];simp only[aA,ar,aB,ao,ai,aa,ak,E,ae,bj,az,YY,YZ];rw[aG,aM];simp only[aA,ar,aB,ao,ai,bE,aa,ak,n,ae,bj,az,YY,YZ];rw[aG,bF];simp only[cf,aK,ao,ai,bE,aa,ak,fO,Wl,VO,bQ,ae];rw[show (w == 0)=false from by lia];simp only[Wl,VO,bV,az];rw[aG,aM];simp only[aA,ar,aB,ao,ai,aa,ak,Ah h,ae,bj,az,YY,YZ];rw[aG,bF];simp only[jA,cf,aK,ao,ai,bE,aa,ak,fO,Wl,VO,bQ,d0,kI];rw[show (w == 3)=true from by lia,Vs rfl,show cmpI .Gt (m:Int) 1=true from Xu 0e0];simp only[ae,ak,VP];rw[aG,aM];simp only[aA,ar,aB,aK,ao,ai,bE,aa,ak,d0];rw[show iT (.int m) (.int 1) d=.ok (.int ((m:Int)-1)) d from rfl];simp only[aa,ak];rw[show bC [.obj i,.int ((m:Int)-1)] d=.ok (.int u) (d.set i (ck s b3 f)) from eu];simp only[ae,ak,bj,az,YY,YZ];rw[aG,aM];simp only[dR,aA,ar,aB,aK,ao,ai,bE,aa,ak,d0,kK];rw[show iT (.int m) (.int 1) (d.set i (ck s b3 f))=.ok (.int ((m:Int)-1)) (d.set i (ck s b3 f)) from rfl];simp only[aa,ak];rw[show iT (.int ((m:Int)-1)) (.int u) (d.set i (ck s b3 f))=.ok (.int ((m:Int)-1-u)) (d.set i (ck s b3 f)) from rfl];simp only[aa,ak];rw[show bC [.obj i,.int ((m:Int)-1-u)] (d.set i (ck s b3 f))=.ok (.int v) M from N];simp only[aa,ak,kK,Wd,WI,Vs n2,ae,bj,az,YY,YZ];rw[aG,aM];simp only[aZ,bh,aK,ao,ai,bE,aa,ak,iK,fm,aT];rw[show cJ [none,some 5] [some (D.obj i),some (D.int 6),some (aE m (gD m ks 2)),some (D.int w),some (D.int u),some (D.tup [D.int u,D.int (u+1+v)]),none]=[none,some (.tup [.int u,.int y])] from rfl];rw[show compLoop (.fix ((gD m ks 2).map aj)) 4e8 (ag 0) d6 d9 ((gD m ks 2).map aj) [none,some (.tup [.int u,.int y])] (M++[O.lst []])=.ok (.obj 4e8) (M++[O.lst (l.map aj)]) from S];simp only[ae,ak,bj,az,YY,YZ];rw[aG,bF];simp only[cf,aK,ao,ai,bE,aa,ak,iK];rw[show iC true (.tup [.int u,.int (u+1+v)]) (.tup ((gD m ks 2).map aj)) (M++[O.lst (l.map aj)])=_ from sV U.2.2.2.2];simp only[aa,ak,bQ,ae];by_cases B:[u,u+1+v]∈gD m ks 2
   ·rw [Xu B];simp only[μ1,Wl,VO,bV,az];have K:P=l.map c8:=by simp only[P,y];rw[Vs B,Vu]
    rw[aM];simp only[aA,ar,aB,aK,ao,ai,bE,aa,ak,d0];rw[show cy [.int m,.obj 4e8] (M++[O.lst (l.map aj)])=.ok (aE m (cL (P.map mm))) (M++[O.lst (P.map dJ)]) from by rw[T,<- K];exact μ];simp only[ae,ak,bj,az,YY,YZ,bG,ao,ai,dF];exact C
   ·rw [UQ B];simp only[XJ,VP];have K:P=l.map c8++[(u,u+1+v)]:=by simp only[P,y];rw[Vt B]
    rw[dH,l7];simp only[ao,ai,aa,ak];rw[uh aC,Vs rfl];simp only[ar,aB,ao,ai,aa,ak]
    rw[show bJ (.obj 4e8) [.tup [.int u,.int (u+1+v)]] (M++[O.lst (l.map aj)])=.ok .non (M++[O.lst (P.map dJ)]) from by
     unfold bJ;dsimp only;rw[aC];dsimp only;rw[Vs (by rw[Wb];exact UT 0e0 bp),pT,T,K,WT]
     rfl]
    simp only[ae,ak,az];rw[aM];simp only[aA,ar,aB,aK,ao,ai,bE,aa,ak,d0];rw[show cy [.int m,.obj 4e8] (M++[O.lst (P.map dJ)])=.ok (aE m (cL (P.map mm))) (M++[O.lst (P.map dJ)]) from μ];simp only[ae,ak,bj,az,YY,YZ,bG,ao,ai,dF];exact C
  ·obtain ⟨j, J, L, C⟩ := G.gc (cZ U);refine⟨m,_,j,J,L,U,?_⟩;unfold c0;rw[bB];simp only[fI,List.replicate];rw[aG,aM];simp only[aA,ar,aB,ao,ai,aa,ak,E,ae,bj,az,YY,YZ];rw[aG,aM];simp only[aA,ar,aB,ao,ai,bE,aa,ak,n,ae,bj,az,YY,YZ];rw[aG,bF];simp only[cf,aK,ao,ai,bE,aa,ak,fO,Wl,VO,bQ,ae];rw[show (w == 0)=false from by rw[Yy];exact z0];simp only[Wl,VO,bV,az];rw[aG,aM];simp only[aA,ar,aB,ao,ai,aa,ak,Ah h,ae,bj,az,YY,YZ];rw[aG,bF];simp only[jA,cf,aK,ao,ai,bE,aa,ak,fO,Wl,VO,bQ,d0,kI];by_cases f:w=3
   ·rw[show (w == 3)=true from by rw[YV];exact f,Vs rfl,show cmpI .Gt (m:Int) 1=false from UQ (by show ¬ (1:Int)<m;intro z;exact z3 ⟨f,by lia⟩)];simp only[ae,ak,Wl,VO,bV,az,bG,ao,ai,dF];exact C
   simp_all
end
theorem Dv:rn Y (.ok (.bl b) Y)=.ok (.bl b) Y:=aW 1e1
noncomputable def O4:D->Int
 |.int i=>i
 |_=>0
noncomputable def Gq:D->List Int
 |.tup S=>S.map O4
 |_=>[]
theorem zK{w:List Int}:Gq (bO w)=w:=by
 show (w.map D.int).map O4=w;rw[WE];exact List.map_id' w
noncomputable def yh(w:List Int):Bool:=(List.range (w.length-1)).all λi=>decide (w.getD i 0<w.getD (i+1) 0)
theorem E9{w:List Int}:yh w=true↔w.Pairwise (·<·):=by
 unfold yh;rw[Xg];constructor
 ·intro h
  have s:∀i (H:i+1<w.length),w[i]<w[i+1]:=λi H=>by
   have:=YD (h i (WN.mpr 0e0));rw[Yj,Yj,Xx 0e0,Xx H]at this;exact this
  have up:∀k i (H:i+k+1<w.length),w[i]<w[i+k+1]:=λk=>by
   induction k with
   |zero=>exact λi H=>s i H
   |succ k I=>exact λi H=>Int.lt_trans (I i 0e0) (s (i+k+1) H)
  rw[WK];intro i j H Z J;have:=up (j-i-1) i 0e0;have e:i+(j-i-1)+1=j:=by lia
  simp_all
 ·intro h i H;have H:=WN.mp H;apply Xu;rw[Yj,Yj,Xx 0e0,Xx 0e0];exact WK.mp h i (i+1) 0e0 0e0 0e0
theorem E7{w:List Int}(i:Nat)(h:i<w.length-1):
  gr [some (.int (1+(i:Int))),some (bO w)] Y=.ok (.bl (decide (w.getD i 0<w.getD (i+1) 0))) Y:=by
 have H:i<w.length:=by lia
 have c:i+1<w.length:=by lia
 have G:atI (w.map D.int) (1+(i:Int)-1)=some (.int w[i]):=by
  rw[show (1+(i:Int)-1)=((i:Nat):Int) by lia];exact iN (by rw[Wi,Xx H];rfl)
 have v:atI (w.map D.int) (1+(i:Int))=some (.int w[i+1]):=by
  rw[show (1+(i:Int))=((i+1:Nat):Int) by lia];exact iN (by rw[Wi,Xx c];rfl)
 rw[Yj,Yj,Xx H,Xx c];unfold gr;simp;rw[ng G];simp;rw[ng v];rfl
theorem y6{w:List Int}(l:w.length<1000):df [bO w] Y=.ok (.bl (yh w)) Y:=by
 have c:=bg (src:=.fix (cc 1 (w.length-1))) (g:=ag 0) (t:=aV) (Y1:=Y)
  (λe=>∃o,e=[o,some (bO w)]) (λ_=>trivial) (us:=List.range (w.length-1)) (ρ:=[none,some (bO w)]) ⟨none,rfl⟩
  (by rw[WH,WI];exact UX 0e0 bp)
  (λi h a e ⟨o,G⟩=>⟨[some (.int (1+(i:Int))),some (bO w)],⟨_,rfl⟩,by subst G;rfl,rfl,λ_=>E7 i (WN.mp h)⟩)
 unfold df;rw[dS];simp only[kr,bG,aA,ar,aZ,cM,bE,aB,aa,ai,kH,Wb];rw[uU 0e0 0e0 0e0 0e0];simp only[aa,aT,(show ((w.length:Int)-1).toNat=w.length-1 by lia)];rw[show cJ [none,some 0] (some (bO w)::List.replicate (1-1) none)=[none,some (bO w)] from rfl];rw[show cc 1 (w.length-1)=(List.range (w.length-1)).map λ(i:Nat)=>D.int (1+(i:Int)) from rfl]at c⊢;rw[c];simp;rw[jB (by rw[WE];exact aC)];simp[cD,yh]
noncomputable def OF(m:Int)(d:D):Bool:=tU m d&&(decide (0<(Gq d).length)&&yh (Gq d))
theorem uy{m:Int}(h:tU m d=true):∃w:List Int,d=bO w/\Gq d=w/\∀n∈w,0<=n/\n<=m-1:=by
 cases d with
 |tup S=>
  obtain⟨j,rfl,f⟩:=Fg h;exact⟨j,rfl,zK,f⟩
 |_=>cases h
theorem Q3{w:List Int}(h:Kn Y (bO w)):w.length<1000:=by
 simp_all[Kn]
theorem Qx{m:Int}(h:Kn Y d):cG [.int m,d] Y=.ok (.bl (OF m d)) Y:=by
 unfold cG;rw[bB];simp[iz,sC h];cases p:tU m d with
 |false=>
  simp_all[OF,Dv]
 |true=>
  refine bI (uy p) λw V U _=>?_;subst V;simp
  rw[show cmpI .Gt (w.length:Int) 0=decide (0<w.length) from by
   show decide ((w.length:Int)>0)=_
   simp]
  rw[OF,p,U];cases decide (0<w.length) with
  |false=>
   simp[Dv]
  |true=>
   simp[y6 (Q3 h)];exact Dv
theorem Qv{w:List Int}:vG (bO w) Y=.ok (.fix (w.map D.int)) Y:=rfl
theorem AX{a b:Nat}(h:Y[a]?=some (.lst xs))(g:Y[b]?=some (.lst ys))(H:xs.length+ys.length<=1000000):du (.obj a) (.obj b) Y=.ok 0e8 (Y++[.lst (xs++ys)]):=by
 unfold du;simp only[h,g];rw[Vs (UX H 1e0)]
theorem X2{x:D}{p:PyData}(e:hW Y x=some p)(f:fitP p=true):hZ neg x x Y=.ok (.bl (!neg)) Y:=by
 simp_all[hZ,SeqAt.eqv_refl,fitP_lay]
theorem kg{Y:ax}:∀fs:List Int,toPs Y (fs.map D.int)=some (fs.map PyData.int):=by
 intro x;induction x <;> grind [kg]
theorem uv{Y:ax}:∀ls:List 4e2,dc Y (ls.map bO)=some (ls.map bK)
 |[]=>rfl
 |l::ls=>by
  have:rA Y (bO l)=some (bK l):=by
   show (toPs Y (l.map D.int)).map PyData.tuple=_;rw[kg];rfl
  simp only[VX,dc,uv ls,this];rfl
theorem DQ:∀ls:List 4e2,PyData.canLayAll0 (ls.map bK)=true/\PyData.depthAll (ls.map bK)<=1
 |[]=>by simp[PyData.canLayAll0,PyData.depthAll]
 |l::ls=>by
  have i:=DQ ls;have f:=jf l;simp only[VX,PyData.canLayAll0,PyData.depthAll,i.1,bK,PyData.canLay0,PyData.depth,f.1,f.2];exact⟨rfl,by lia⟩
theorem J3(h:xs.length+ys.length<=1000):du (.tup xs) (.tup ys) M=.ok (.tup (xs++ys)) M:=by
 unfold du;dsimp only;rw[Vs (UX h bp)]
theorem Hx:∃x:Int,fE [.frz (ns.map D.int),.int 0] Y=.ok (.int x) Y:=by
 unfold fE;rw[bB];cases ns with
 |nil=>
  simp[iy];simp[cmpI,aW]
 |cons x r=>
  simp only[iy,VX,aG,bF,cf,aK,ao,ai,aA,ar,aB,JI,Wd,aa,kI];rw[show cmpI .Lt 0 (((r.map D.int).length+1:Nat):Int)=true from Xu 0e0];simp[Oc,zU,aW]
theorem zc:(lg ns).Perm ns:=Yh ns _
theorem xy:∀{v w:List Int},PyData.eqvAll (v.map PyData.int) (w.map PyData.int)=decide (v=w)
 |[],[]=>rfl
 |[],_::_=>rfl
 |_::_,[]=>rfl
 |a::v,b::w=>by
  simp[VX,PyData.eqvAll,xy,PyData.eqv];apply YO.mpr;simp
noncomputable def c1(n:Int)(xs:List D)(p:Nat):Bool:=tU n (xs.getD p .non)&&(yh (Gq (xs.getD p .non))&&decide ((p:Int)∈Gq (xs.getD p .non)))
end Lw
namespace Lv
noncomputable def oV(i:Nat)(k:List Int)(p:Int):List (Int×Nat):=if rx k=p then [(ee k,i)] else if ee k=p then [(rx k,i)] else []
noncomputable def r8:Nat->List 4e2->Int->List (Int×Nat)
 |_,[],_=>[]
 |i,k::s,p=>oV i k p++r8 (i+1) s p
theorem wC:∀(ks:0e1)(i:Nat)(k:List Int)(p:Int),r8 i (ks++[k]) p=r8 i ks p++oV (i+ks.length) k p
 |[],i,k,p=>by simp[r8]
 |x::ks,i,k,p=>by
  simp[μ2,r8,wC ks (i+1) k p,W4,Wd];rw[show i+1+ks.length=i+(ks.length+1) from by lia]
theorem EE(i:Nat)(k:List Int)(p:Int):(oV i k p).length<=1:=by
 unfold oV;split
 ·simp
 ·split <;> simp
theorem ur:∀(ks:0e1)(i:Nat)(p:Int),(r8 i ks p).length<=ks.length
 |[],_,_=>by simp[r8]
 |k::ks,i,p=>by
  have:=ur ks (i+1) p;have:=EE i k p;simp[r8,V6,Wd]
  lia
abbrev Wy:=List Int×Nat
noncomputable def oX(ks:0e1)(w:Wy):List Wy:=((r8 0 ks (ee w.1)).filter λe=>!decide (e.1∈w.1)).map λe=>(w.1++[e.1],w.2 ||| 2^e.2)
noncomputable def lY(ks:0e1)(W:List Wy):List Wy:=W.flatMap (oX ks)
noncomputable def W0(m:Nat):List Wy:=(rg m).map λp=>([p],0)
noncomputable def rp(W:List Wy):List Wy:=(W.filter λw=>decide (rx w.1<ee w.1)).map λw=>([rx w.1,ee w.1],w.2)
noncomputable def EV(m:Nat)(ks:0e1):List Wy:=rp (lY ks (W0 m))++rp (lY ks (lY ks (W0 m)))
theorem FQ(ks:0e1)(w:Wy):(oX ks w).length<=ks.length:=by
 grind [oX,ur]
theorem kG(ks:0e1):∀W:List Wy,(lY ks W).length<=W.length*ks.length
 |[]=>by simp[lY]
 |w::W=>by
  have H:=FQ ks w;have c:=kG ks W;unfold lY at c⊢;rw[YM,V6,Wd]
  lia
noncomputable def jY(es:List Wy)(k:List Int):List Nat:=(es.filter λe=>decide (e.1=k)).map (·.2)
theorem xg(es:List Wy)(k k':List Int)(c:Nat):jY (es++[(k,c)]) k'=if k=k' then jY es k'++[c] else jY es k':=by
 grind [jY]
theorem dG{es:List Wy}:c∈jY es k↔(k,c)∈es:=by
 simp[jY]
end Lv
namespace Lw
open PySem L2 RS Lv
structure NL(a:Nat)(bs:List Nat)(f:Nat->List D)(M:ax):Prop where
 out:M[a]?=some (.lst (bs.map D.obj))
 nd:bs.Nodup
 ne:a∉bs
 at':∀(i:Nat) b,bs[i]?=some b->M[b]?=some (.lst (f i))
section
variable{a:Nat}{bs:List Nat}{f:Nat->List D}
theorem NL.keep{M':ax}(h:NL a bs f M)(k:∀j,j=a\/j∈bs->∀o,M[j]?=some o->M'[j]?=some o):NL a bs f M':=
 ⟨k a (.inl rfl) _ h.out,h.nd,h.ne,λi b B=>k b (.inr (VH B)) _ (h.at' i b B)⟩
theorem NL.app{g:ax}(h:NL a bs f M):NL a bs f (M++g):=h.keep λj _ o e=>aH e
theorem NL.ext{f':Nat->List D}(h:NL a bs f M)(e:∀i,i<bs.length->f i=f' i):NL a bs f' M:=
 ⟨h.out,h.nd,h.ne,λi b B=>by rw[<- e i (VY.mp B).1];exact h.at' i b B⟩
theorem NL.ix(h:NL a bs f M)(d:0<=p)(H:p<bs.length):∃b,bs[p.toNat]?=some b/\cj (.obj a) (.int p) M=.ok (.obj b) M/\M[b]?=some (.lst (f p.toNat)):=by
 have i:p.toNat<bs.length:=by lia
 refine⟨bs[p.toNat],Xx i,ih h.out ?_,h.at' _ _ (Xx i)⟩
 simp_all[atI,m9]
noncomputable def yf(f:Nat->List D)(i:Nat)(d:D):Nat->List D:=λj=>if j=i then f j++[d] else f j
theorem NL.push(h:NL a bs f M)(j:0<=p)(k:p<bs.length)(L:(f p.toNat).length<=100000):∃b M',bs[p.toNat]?=some b/\cj (.obj a) (.int p) M=.ok (.obj b) M/\vB (.obj b) M=true/\bJ (.obj b) [d] M=.ok .non M'/\NL a bs (yf f p.toNat d) M'/\M'=M.set b (.lst (f p.toNat++[d])):=by
 refine bI (h.ix j k) λb c e B=>?_;refine⟨b,M.set b (.lst (f p.toNat++[d])),c,e,?_,?_,?_,rfl⟩
 ·unfold vB;dsimp only;rw[B]
 ·unfold bJ;dsimp only;rw[B];dsimp only;rw[Vs (μ3 L 1e0)]
 ·have l := (VY.mp B).1;refine⟨?_,h.nd,h.ne,λi g H=>?_⟩
  ·rw[U8 (λz=>h.ne (by rw[<- z];exact VH c))];exact h.out
  ·unfold yf;by_cases I:i=p.toNat
   ·simp_all
   ·rw [Vt I, U8]
    ·exact h.at' i g H
    ·intro z;subst z;obtain⟨l1,e⟩:=VY.mp c;obtain⟨l2,B⟩:=VY.mp H;exact I ((U6 h.nd).mp (B.trans e.symm))
end
theorem sO{src:kE}{g:MG}{e:ME}{Y:ax}(G:∀s,bA src (Y++s))(U:∀x ρ M,∃ρ',g x ρ M=.ok ρ' M)(n:∀ρ M,e ρ M=.ok (.obj 4e8) (M++[.lst []])) :
  ∀(xs:List D)(k:Nat)(ρ:Ro),k+xs.length<=1000->compLoop src 5e8 g aV e xs ρ (Y++.lst ((List.range k).map λi=>D.obj (Y.length+1+i))::List.replicate k (.lst []))=.ok 0e8 (Y++.lst ((List.range (k+xs.length)).map λi=>D.obj (Y.length+1+i))::List.replicate (k+xs.length) (.lst []))
 |[],k,ρ,h=>by
  unfold compLoop;rw[Vs (G _)];rfl
 |x::xs,k,ρ,h=>by
  simp at h;obtain⟨ρ',d⟩:=U x ρ (Y++.lst ((List.range k).map λi=>D.obj (Y.length+1+i))::List.replicate k (.lst []));unfold compLoop;rw[Vs (G _),d];simp only[ak,aa];rw[show aV ρ' (Y++.lst ((List.range k).map λi=>D.obj (Y.length+1+i))::List.replicate k (.lst []))=.ok true _ from rfl];simp only[ak,aa,VP];rw[n];simp only[ak,aa];rw[W4,μ2,fR (by rw[Wb,WH];exact UT 0e0 bp)];simp only[aa];have I:=sO G U n xs (k+1) ρ' 0e0;rw[show List.replicate k (O.lst [])++[.lst []]=List.replicate (k+1) (.lst []) from by rw[List.replicate_succ']]
  have L:List.length (Y++O.lst ((List.range k).map λi=>D.obj (Y.length+1+i))::List.replicate k (O.lst []))=Y.length+1+k:=by
   simp
   lia
  rw[L,show (List.range k).map (λi=>D.obj (Y.length+1+i))++[D.obj (Y.length+1+k)]=(List.range (k+1)).map λi=>D.obj (Y.length+1+i) from by rw[YK,WT];rfl];rw[I,Wd,show k+1+xs.length=k+(xs.length+1) from by lia]
theorem uI:NL 5e8 ((List.range n).map λi=>Y.length+1+i) (λ_=>[]) (Y++.lst ((List.range n).map λi=>D.obj (Y.length+1+i))::List.replicate n (.lst [])):=by
 refine⟨by rw[aC,WE];rfl,?_,?_,λi b B=>?_⟩
 ·refine Xd _ (λx y h => ?_) (WQ)
  lia
 ·intro z;obtain⟨i,_,e⟩:=WM.mp z
  lia
 ·rw [Wi] at B;by_cases H:i<n
  ·rw[X7 H]at B;simp[W7,W8]at B;subst B;rw[VD 0e0,show Y.length+1+i-Y.length=i+1 from by lia,List.getElem?_cons_succ,VE,Vs H]
  ·rw[Yw (by simpa using H)]at B;cases B
theorem nA{g:MG}{e:ME}(G:∀s,bA src (Y++s))(U:∀x ρ M,∃ρ',g x ρ M=.ok ρ' M)(n:∀ρ M,e ρ M=.ok (.obj 4e8) (M++[.lst []]))(h:xs.length<=1000):
  compLoop src 5e8 g aV e xs ρ (Y++[.lst []])=.ok 0e8 (Y++.lst ((List.range 4e3).map λi=>D.obj (Y.length+1+i))::List.replicate 4e3 (.lst [])):=by
 have:=sO G U n xs 0 ρ 0e0;simpa using this
theorem mi(ρ:Ro)(M:ax):gF aw ρ M=.ok (.obj 4e8) (M++[.lst []]):=by
 rfl
noncomputable def eD(e:Int×Nat):D:=.tup [.int e.1,.int ((2^e.2:Nat):Int)]
theorem DV(h:i<=15):vK (.int 1) (.int (i:Int)) M=.ok (.int ((2^i:Nat):Int)) M:=by
 rw[show vK (.int 1) (.int (i:Int)) M=.ok (.int (1*2^(i:Int).toNat)) M from ni ⟨by lia,by lia,by decide⟩,Int.one_mul];congr 2
section
variable{A:Nat}{bs:List Nat}
noncomputable abbrev Kb(m:Nat)(ks:0e1)(A:Nat)(c o O:Option D):Ro:=[some 3e5,some (.int m),some 3e7,some (.obj A),c,o,O]
noncomputable abbrev Sv:MG:=bc 2 (aD (ag 4) (aD (bc 2 (aD (ag 5) (aD (ag 6) (bf)))) (bf)))
noncomputable abbrev zF(d:0e1):Nat->List D:=λp=>(r8 0 d (p:Int)).map eD
theorem DW{r:Ro}{e1 e2:Nat}{f:Nat->List D}(h:NL A bs f M)(P:0<=p)(a:p<bs.length)(l:(f p.toNat).length<=100)(H:i<=15)(U:r[3]?=some (some (.obj A)))(R:r[e1]?=some (some (.int p)))(Q:r[e2]?=some (some (.int q)))(W:r[4]?=some (some (.int i))):
  ∃b,bs[p.toNat]?=some b/\dv (sd bJ (ay cj (ah 3) (ah e1)) (af (cK (af (ah e2) (af (ay vK 2e2 (ah 4)) (aw)))) (aw))) r M=.next r (M.set b (.lst (f p.toNat++[eD (q,i)])))/\NL A bs (yf f p.toNat (eD (q,i))) (M.set b (.lst (f p.toNat++[eD (q,i)]))):=by
 obtain⟨b,g,B,x,G,k,X,c⟩:=h.push P a 0e0;subst c;refine⟨b,B,?_,X⟩;have v:∀{j:Nat}{d:D}(N:ax),r[j]?=some (some d)->ah j r N=.ok d N:=λN e=>by unfold ah;rw[e]
 rw[dH,l7,aK,v M U,aa,v M R,aa,x];simp[v M Q,v M W,DV H]
 simp_all[sizeLine,eD]
theorem HN{dn:0e1}{a b:Int}{o4 o5 o6:Option D}(h:NL A bs (zF dn) M)(f:bs.length=m)(K:0<=a/\a<b/\b<m)(l:dn.length<=15) :
  ∃ρ1 M',Sv (.tup [.int (dn.length:Int),aj [a,b]]) (Kb m ks A o4 o5 o6) M=.ok ρ1 M/\fw ρ1 M=.next (Kb m ks A (some (.int dn.length)) (some (.int a)) (some (.int b))) M'/\NL A bs (zF (dn++[[a,b]])) M'/\M'.length=M.length/\(∀j,j∉bs->M'[j]?=M[j]?):=by
 have l1:∀p:Nat,(zF dn p).length<=15:=λp=>by
  rw[Wb];exact UX (ur _ _ _) l
 refine bI (DW (r:=Kb m ks A (some (.int dn.length)) (some (.int a)) (some (.int b))) (e1:=5) (e2:=6) h K.1 0e0 (UX (l1 _) 1e0) l rfl rfl rfl rfl) λb1 k d N=>?_
 obtain⟨b2,n,B,c⟩:=DW (r:=Kb m ks A (some (.int dn.length)) (some (.int a)) (some (.int b))) (e1:=6) (e2:=5) N 0e0 0e0 (by
  unfold yf;split
  ·rw[V6];have:=l1 b.toNat;simp only[Wd,WI];lia
  ·have:=l1 b.toNat;lia) l rfl rfl rfl rfl
 refine⟨Kb m ks A (some (.int dn.length)) (some (.int a)) (some (.int b)),_,rfl,?_,c.ext λi g=>?_,by simp,λj Z=>?_⟩
 ·unfold fw;rw[aG,d,az,B]
 ·have : r8 0 (dn ++ [[a, b]]) (i : Int) = r8 0 dn i ++ oV dn.length [a, b] i := by rw [wC, W6]
  unfold zF yf;rw[this,WT];have e:(a.toNat:Int)=a:=by lia
  have H:(b.toNat:Int)=b:=by lia
  unfold oV;rw[show rx [a,b]=a from rfl,show ee [a,b]=b from rfl];by_cases y:i=a.toNat
  ·have : a = (i : Int) := by lia
   rw[Vt 0e0,Vs y,Vs this];rfl
  ·by_cases I : i = b.toNat
   ·have d : ¬ a = (i : Int) := by lia
    have B:b=(i:Int):=by lia
    rw[Vs I,Vt y,Vt d,Vs B];rfl
   ·have d : ¬ a = (i : Int) := by lia
    have B:¬ b=(i:Int):=by lia
    rw[Vt I,Vt y,Vt d,Vt B];simp
 ·rw[U8 (λz=>Z (by rw[<- z];exact VH n)),U8 (λz=>Z (by rw[<- z];exact VH k))]
theorem Am{all:List D}:∀(rs dn:0e1)(M:ax)(o4 o5 o6:Option D),NL A bs (zF dn) M->bs.length=m->(∀k∈rs,gv m k)->dn.length+rs.length<=15 ->
  ∃M' p4 p5 p6,c9 (.fix all) Sv fw (dw dn.length (rs.map aj)) (Kb m ks A o4 o5 o6) M=.next (Kb m ks A p4 p5 p6) M'/\NL A bs (zF (dn++rs)) M'/\M'.length=M.length/\(∀j,j∉bs->M'[j]?=M[j]?)
 |[],dn,M,o4,o5,o6,h,B,d,i=>by
  refine⟨M,o4,o5,o6,?_,by rw[Vu];exact h,rfl,λ_ _=>rfl⟩;simp[dw];unfold c9;rw[Vs (show bA (.fix all) _ from trivial)]
 |k::rs,dn,M,o4,o5,o6,h,B,d,i=>by
  simp at i;refine aF (d k 1e1) λa b V H f l=>?_;subst V;obtain⟨n,c,G,v,C,g,e⟩:=HN h B ⟨H,f,l⟩ 0e0;obtain⟨M',p4,p5,p6,q,J,L,Q⟩:=Am rs (dn++[[a,b]]) c (some (.int dn.length)) (some (.int a)) (some (.int b)) C B (λx X=>d x (by simp[X])) (by simp;lia);refine⟨M',p4,p5,p6,?_,by rw[W4]at J;exact J,L.trans g,λj Z=>(Q j Z).trans (e j Z)⟩;simp[dw];unfold c9;rw[Vs (show bA (.fix all) _ from trivial),G,ae,v];rw[V6]at q;exact q
theorem y1(h:GW m ks):∃bs M',jH [aE m ks] Y=.ok 0e8 M'/\NL 5e8 bs (zF ks) M'/\bs.length=m/\(∀b∈bs,Y.length<b)/\∃g,M'=Y++g:=by
 have d:=h.m6;have H:=bw h;let bs:List Nat:=(List.range m).map λi=>Y.length+1+i
 let a:ax:=Y++.lst ((List.range m).map λi=>D.obj (Y.length+1+i))::List.replicate m (.lst [])
 have n:NL 5e8 bs (zF []) a:=uI;have l:bs.length=m:=by simp[bs]
 obtain⟨M',p,P,k,q,J,L,G⟩:=Am ks [] a none none none n l h.2.2.2.2 (by simpa using H)
 have f:∀b∈bs,Y.length<b:=λb B=>by
  obtain⟨i,_,rfl⟩:=WM.mp B
  lia
 refine⟨bs,M',?_,J,l,f,?_⟩
 ·unfold jH;rw[dS,show (some 3e5::List.replicate (7-1) none:Ro)=[some 3e5,none,none,none,none,none,none] from rfl];unfold qU;rw[aG,aM,ai,ae];rw[show bc 2 (aD (ag 1) (aD (ag 2) (bf))) 3e5 [some 3e5,none,none,none,none,none,none] Y=.ok [some 3e5,some (.int m),some 3e7,none,none,none,none] Y from rfl];simp only[ae,az];rw[aG,aM,aZ,cM];simp[ar,aB,ao,ai];rw[fq 0e0 0e0,aa,aT,nA (g:=ag 0) (e:=mN) (src:=.fix (cc 0 ((m:Int)).toNat)) (Y:=Y) (λ_=>trivial) (λx c M=>⟨_,rfl⟩) (λc M=>mi c M) (by unfold cc;rw[Wb,WH];lia)];rw[show (cc 0 ((m:Int)).toNat).length=m from by simp[cc]];simp only[ae,az];rw[aG,ij,cM];simp only[ar,aB,ao,ai,aa];rw[show ∀N,iE [.tup 0e3] N=.ok (.fix (dw 0 0e3)) N from λ_=>rfl,ae,aT];rw[show c9 (.fix (dw 0 0e3)) Sv fw (dw 0 0e3) (Kb m ks 5e8 none none none) a=_ from q,az,bG];simp[iD]
 ·refine ⟨M'.drop 5e8, ?_⟩
  have:M'.take 5e8=Y:=by
   apply Yv;intro j;by_cases Z:j<Y.length
   ·rw[VG Z,G j (λz=>by have:=f j z;lia)];show (Y++_)[j]?=_;rw[VF Z]
   ·rw[Yw (by rw[VB];lia),Yw 0e0]
  grind [List.take_append_drop]
end
end Lw
namespace Lv
open PySem
theorem MZ(a b:Nat):Builtin.bitOr (a:Int) (b:Int)=((a ||| b:Nat):Int):=by
 unfold Builtin.bitOr Builtin.bitAnd Builtin.bitNot;have c:decide (0 <= -(b:Int)-1)=false:=UQ 0e0;simp only[(show decide (0 <= -(a:Int)-1)=false from UQ 0e0),c];rw[(show (-(-(a:Int)-1)-1).toNat=a by lia),(show (-(-(b:Int)-1)-1).toNat=b by lia)]
 lia
theorem JZ(a:Nat):Builtin.bitAnd (a:Int) 1=((a%2:Nat):Int):=by
 unfold Builtin.bitAnd;show ((a &&& 1:Nat):Int)=_;rw[Nat.and_one_is_mod]
end Lv
namespace Lw
open PySem L2 RS Lv
noncomputable def tT(w:Wy):D:=.tup [bO w.1,.int ((w.2:Nat):Int)]
theorem Kv{a b:Nat}:OK (.int (a:Int)) (.int (b:Int)) M=.ok (.int ((a ||| b:Nat):Int)) M:=by
 rw[show OK (.int (a:Int)) (.int (b:Int)) M=.ok (.int (Builtin.bitOr (a:Int) (b:Int))) M from Dx,MZ]
structure rJ(m:Nat)(w:Wy):Prop where
 ne:w.1≠[]
 len:w.1.length<=3
 pl:∀p∈w.1,0<=p/\p<(m:Int)
theorem xj{w:List Int}(h:w≠[]):ee w∈w:=by
 obtain⟨v,p,rfl⟩:∃v p,w=v++[p]:=⟨w.dropLast,w.getLast h,(YT h).symm⟩;rw[qG];simp
theorem Ef{w:List Int}(h:w≠[]):rx w∈w:=by
 cases w with
 |nil=>exact absurd rfl h
 |cons a r=>simp[rx]
theorem nB{U V:Type}{f:U->V}:∀l:List U,(l.flatMap λe=>[f e])=l.map f
 |[]=>rfl
 |x::l=>by rw[YM,nB l];rfl
section
variable{A:Nat}{bs:List Nat}
theorem LC(d:5e3):∀(i:Nat)(p:Int),∀e∈r8 i ks p,(0<=e.1/\e.1<(m:Int))/\e.2<i+ks.length:=by
 induction ks with
 |nil=>intro i p e n;cases n
 |cons k r I=>
  intro i p e n;simp[r8]at n;rcases n with n|n
  ·obtain ⟨a, b, rfl, H, c, f⟩ := d k 1e1;unfold oV at n;rw[show rx [a,b]=a from rfl,show ee [a,b]=b from rfl]at n;split at n
   ·simp at n;subst n;refine⟨⟨?_,?_⟩,?_⟩ <;> simp <;> lia
   ·split at n
    ·simp at n;subst n;refine⟨⟨?_,?_⟩,?_⟩ <;> simp <;> lia
    ·cases n
  ·obtain⟨H,c⟩:=I (λx h=>d x (by simp[h])) (i+1) p e n;exact⟨H,by simp;lia⟩
theorem Eg(K:5e3){W:List Wy}(a:∀w∈W,rJ m w/\w.1.length<=2):∀w∈lY ks W,rJ m w:=λw h=>by
 obtain⟨v,V,h⟩:=YH.mp h;obtain⟨e,n,rfl⟩:=WM.mp h;obtain⟨⟨b,c,H⟩,f⟩:=a v V;refine⟨by simp,by simp;lia,λp d=>?_⟩;rcases U4.mp d with d|d
 ·exact H p d
 ·rw[Wz.mp d];exact(LC K 0 _ e (UW.mp n).1).1
theorem Ew{w:Wy}{a:List D}{o2 o3:Option D}(h:NL A bs (zF ks) M)(s:bs.length=m)(W:rJ m w)(i:a.length+(oX ks w).length<=sizeLine) :
  ∃ρ2,(∃o0 o1 o2 o3,ρ2=[o0,o1,o2,o3,some (.obj A)])/\d7 4e8 [some (bO w.1),some (.int ((w.2:Nat):Int)),o2,o3,some (.obj A)] (M++[.lst a])=.ok ρ2 (M++[.lst (a++(oX ks w).map tT)]):=by
 have p:=W.pl _ (xj W.ne);refine bI (h.ix p.1 0e0) λb c q B=>?_
 have S:zF ks (ee w.1).toNat=(r8 0 ks (ee w.1)).map eD:=by
  unfold zF;rw[YG p.1]
 rw[S]at B
 obtain⟨j,⟨o,l,E⟩,r⟩:=mx (en:=eD) (src:=.own b ((r8 0 ks (ee w.1)).map eD)) (g:=bc 2 (aD (ag 2) (aD (ag 3) (bf)))) (t:=fX) (fb:=pD f6) (Y1:=M)
  (k:=λe=>[tT (w.1++[e.1],w.2 ||| 2^e.2)]) (λf=>∃o2 o3,f=[some (bO w.1),some (.int ((w.2:Nat):Int)),o2,o3,some (.obj A)])
  (λa=>aH B) (acc:=a) (ρ:=[some (bO w.1),some (.int ((w.2:Nat):Int)),o2,o3,some (.obj A)]) ⟨_,_,rfl⟩
  (by
   unfold oX at i;rw[Wb]at i;rw[nB,Wb]
   exact i)
  (λx X a f hR => by
   obtain⟨o2,o3,rfl⟩:=hR;refine⟨[some (bO w.1),some (.int ((w.2:Nat):Int)),some (.int x.1),some (.int ((2^x.2:Nat):Int)),some (.obj A)],rfl,?_,λ_=>⟨_,_,rfl⟩,λ_ i=>⟨[some (bO w.1),some (.int ((w.2:Nat):Int)),some (.int x.1),some (.int ((2^x.2:Nat):Int)),some (.obj A)],⟨_,_,rfl⟩,?_⟩⟩
   ·unfold fX;simp[cf,aK,ao,ai,aa,wb,VP,bQ]
   ·refine F1 ?_ i;unfold f6;simp only[dR,ar,aB,aK,ao,ai,aa,Wd];rw[Vs 1e0];simp only[aa];rw[OD (by have:=W.len;lia)];simp only[aa,Kv];rw[Vs (show ([D.tup _,D.int _]:List D).length<=sizeLine from l2)]
    rfl)
 refine⟨j,⟨_,_,_,_,E⟩,?_⟩;unfold d7 pK;simp only[bh,aK,ao,ai,wd,bE,Em,aa];rw[uM W.ne,aa]
 have d:cj (.obj A) (.int (ee w.1)) (M++[O.lst a])=.ok (.obj b) (M++[O.lst a]):=by
  obtain⟨n,H,d,_⟩:=(h.app).ix p.1 0e0;rw[c]at H;cases H;exact d
 simp_all[bS,aH,oX,nB]
theorem G0{V:Nat}{W:List Wy}{r0 r1 r2 r5 r6 r7:Option D}(h:NL A bs (zF ks) M)(B:bs.length=m)(hV:M[V]?=some (.lst (W.map tT)))(H:∀w∈W,rJ m w)(i:W.length*ks.length<=10000) :
  ka (cI (ah 4)) [none,none,none,none,some 3] (bc 2 1e6) (aV) (d7) [r0,r1,r2,some (.obj A),some (.obj V),r5,r6,r7] M=.ok (.obj 4e8) (M++[.lst ((lY ks W).map tT)]):=by
 obtain⟨c,_,E⟩:=mx (en:=tT) (src:=.own V (W.map tT)) (g:=bc 2 1e6) (t:=aV) (Y1:=M)
  (λe=>∃O b o U,e=[O,b,o,U,some (.obj A)])
  (λa=>aH hV) (ρ:=[none,none,none,none,some (.obj A)]) ⟨_,_,_,_,rfl⟩
  (by
   rw[dA,WI,W6,show (W.flatMap λw=>(oX ks w).map tT)=(lY ks W).map tT from by unfold lY;rw[List.map_flatMap],Wb]
   exact UX (kG ks W) (UX i 1e0))
  (λx d a e hR => by
   obtain⟨O,b,o,U,v⟩:=hR;subst v;refine⟨[some (bO x.1),some (.int ((x.2:Nat):Int)),o,U,some (.obj A)],rfl,rfl,λz=>(by cases z),λ_ i=>?_⟩;rw[Wb]at i
   exact Ew h B (H x d) i)
 rw[dA,show (W.flatMap λw=>(oX ks w).map tT)=(lY ks W).map tT from by unfold lY;rw[List.map_flatMap]]at E
 simp_all[ka,bS]
end
noncomputable abbrev nD(c:Nat):D:=.int ((c:Nat):Int)
structure DR(F:Nat)(es:List Wy)(kvs:(List (List Int×Nat)))(ep:Nat)(M:ax):Prop where
 at':M[F]?=some (.dct kvs ep)
 nd:(kvs.map (·.2)).Nodup
 kn:(kvs.map 3e2).Nodup
 ne:F∉kvs.map (·.2)
 val:∀p∈kvs,M[p.2]?=some (.lst ((jY es p.1).map nD))
 key:∀k,k∈kvs.map 3e2↔∃c,(k,c)∈es
section
variable{F:Nat}{es:List Wy}
theorem DR.keep{M':ax}(h:(DR F es kvs ep M))(k:∀j,j=F\/j∈kvs.map (·.2)->∀o,M[j]?=some o->M'[j]?=some o):DR F es kvs ep M':=
 ⟨k F (.inl rfl) _ h.at',h.nd,h.kn,h.ne,λp d=>k p.2 (.inr (Xf d)) _ (h.val p d),h.key⟩
theorem DR.app{g:ax}(h:(DR F es kvs ep M)):DR F es kvs ep (M++g):=h.keep λj _ o e=>aH e
theorem DR.new{g:ax}:DR 4e8 [] [] 0 (M++.dct [] 0::g):=⟨aC,.nil,.nil,by simp,λp d=>(by cases d),λk=>(by simp)⟩
theorem kL(h:(kvs.map 3e2).Nodup)(d:(k,j)∈kvs):Gw kvs k=some j:=by
 unfold Gw
 induction kvs with
 |nil=>cases d
 |cons x r i=>
  grind
theorem Gd(h:k∉kvs.map 3e2):Gw kvs k=none:=by
 unfold Gw
 grind
theorem DR.event(h:(DR F es kvs ep M))(L:kvs.length<=1000)(v:es.length<=10000):∃kvs' ep' M2 M' j,Gu (.obj F) [bO k,.obj 4e8] (M++[.lst []])=.ok (.obj j) M2/\vB (.obj j) M2=true/\bJ (.obj j) [nD c] M2=.ok .non M'/\DR F (es++[(k,c)]) kvs' ep' M' /\
  (∀i,i≠F->i∉kvs.map (·.2)->i<M.length->M'[i]?=M[i]?)/\(∀i∈kvs'.map (·.2),i∈kvs.map (·.2)\/i=4e8)/\M'.length=M.length+1:=by
 have hF:F<M.length:=(VY.mp h.at').1
 have l:∀k,(jY es k).length<=10000:=λk=>by
  grind [jY]
 have app:∀{N:ax}{j:Nat}{S:List D},N[j]?=some (.lst S)->S.length<=10000->vB (.obj j) N=true/\bJ (.obj j) [nD c] N=.ok .non (N.set j (.lst (S++[nD c]))):=λ{N j S} e X=>by
  constructor
  ·unfold vB;dsimp only;rw[e]
  ·unfold bJ;dsimp only;rw[e];dsimp only;rw[Vs (μ3 X 1e0)]
 have b:(M++[O.lst []])[F]?=some (.dct kvs ep):=aH h.at';by_cases K:k∈kvs.map 3e2
 ·refine bz (WM.mp K) λp d e => ?_;obtain⟨t,j⟩:=p;subst e;have Z:M[j]?=some (.lst ((jY es t).map nD)):=h.val _ d;have u:j<M.length:=(VY.mp Z).1;obtain⟨a,A⟩:=app (N:=M++[O.lst []]) (j:=j) (aH Z) (by rw[Wb];exact l _);have hjF:j≠F:=λz=>h.ne (by rw[<- z];exact WM.mpr ⟨_,d,rfl⟩);refine⟨kvs,ep,_,_,j,?_,a,A,⟨?_,h.nd,h.kn,h.ne,λp n=>?_,λq=>?_⟩,λi r s m=>?_,λi I=>.inl I,by simp⟩
  ·unfold Gu;dsimp only;rw[b,gy];dsimp only;rw[Vs L,kL h.kn d]
  ·rw[U8 hjF];exact b
  ·rw [xg];by_cases e:t=p.1
   ·have:p.2=j:=by
     have E:=kL h.kn n;have B:=kL h.kn d;rw[e]at B;rw[E]at B;cases B;rfl
    rw[Vs e,this,U7 (by simp;lia),e,WT];rfl
   ·rw [Vt e, U8 (λz => e ?_)]
    ·exact aH (h.val p n)
    ·obtain ⟨l1, E⟩ := XX d;obtain⟨l2,B⟩:=XX n;obtain⟨f,E⟩:=E;obtain⟨g,B⟩:=B
     have:l1=l2:=by
      refine(U6 (xs:=kvs.map (·.2)) (h₀:=by simpa using f) (h₁:=by simpa using g) h.nd).mp ?_;simp[E,B,z]
     subst this;rw[E]at B;rw[<- B]
  ·rw [h.key q];constructor
   ·rintro⟨C,H⟩;exact⟨C,U5 _ H⟩
   ·rintro ⟨C, H⟩
    rcases U4.mp H with H|H
    ·exact⟨C,H⟩
    ·rw[Wz]at H;cases H;exact(h.key _).mp K
  ·have:j≠i:=λz=>s (by rw[<- z];exact WM.mpr ⟨_,d,rfl⟩);rw[U8 this,VF m]
 ·let M2 : ax := (M ++ [O.lst []]).set F (.dct (kvs ++ [(k, M.length)]) (ep + 1))
  have B:M2[4e8]?=some (.lst []):=by
   show ((M++[O.lst []]).set F _)[4e8]?=_;rw[U8 0e0];exact aC
  obtain⟨a,A⟩:=app (N:=M2) (j:=4e8) B (Wo _);have lt:∀p∈kvs,p.2<M.length:=λp d=>(VY.mp (h.val p d)).1
  have o:jY es k=[]:=by
   rw[List.eq_nil_iff_forall_not_mem];intro C H;exact K ((h.key k).mpr ⟨C,dG.mp H⟩)
  refine⟨kvs++[(k,4e8)],ep+1,M2,_,4e8,?_,a,A,⟨?_,?_,?_,?_,λp n=>?_,λq=>?_⟩,λi r s m=>?_,λi I=>?_,by simp[M2]⟩
  ·unfold Gu;dsimp only;rw[b,gy];dsimp only;rw[Vs L,Gd K]
  ·rw[U8 0e0];exact U7 (by simp;lia)
  ·rw [WT, XY];refine⟨h.nd,by simp,λx X y μ=>?_⟩;obtain⟨p,d,rfl⟩:=WM.mp X;simp only[VX,VW,Wz]at μ;have:=lt p d
   lia
  ·rw[WT,XY];refine⟨h.kn,by simp,λx X y μ=>?_⟩;simp only[VX,VW,Wz]at μ;subst μ;exact λz=>K (z ▸ X)
  ·rw [WT, U4]
   rintro (z|z)
   ·exact h.ne z
   ·simp at z;lia
  ·rw [xg];rcases U4.mp n with d|d
   ·have:k≠p.1:=λz=>K (by rw[z];exact Xf d);have:=lt p d;rw[Vt (by assumption),U8 0e0];show ((M++[O.lst []]).set F _)[p.2]?=_;rw[U8 (λz=>h.ne (by rw[z];exact Xf d))];exact aH (h.val p d)
   ·rw[Wz]at d;subst d;rw[Vs rfl,o,U7 (by simp[M2])];rfl
  ·rw [WT, U4, h.key q];constructor
   ·rintro (⟨C, H⟩ | z)
    ·exact⟨C,U5 _ H⟩
    ·simp at z;subst z;exact⟨c,by simp⟩
   ·rintro ⟨C, H⟩
    rcases U4.mp H with H|H
    ·exact .inl ⟨C,H⟩
    ·rw[Wz]at H;cases H;exact .inr 1e1
  ·rw[U8 0e0];show ((M++[O.lst []]).set F _)[i]?=_;rw[U8 (λz=>r z.symm),VF m]
  ·rw [WT, U4] at I;rcases I with I|I
   ·exact .inl I
   ·simp at I;exact .inr I
end
section
variable{F A V:Nat}{es:List Wy}{r0 r1 r3 r4 r5 r6 r7:Option D}
theorem BV(n:l.Nodup)(h:∀k∈l,k∈prs):l.length<=15:=by
 have:=gx n h
 simp_all[uD]
theorem El{W:List Wy}(d:m<=6)(H:∀w∈W,rJ m w):∀e∈rp W,e.1∈prs:=λe n=>by
 obtain⟨w,h,rfl⟩:=WM.mp n;rw[UW,YS]at h;exact gv.prs ⟨_,_,rfl,((H w h.1).pl _ (Ef (H w h.1).ne)).1,h.2,((H w h.1).pl _ (xj (H w h.1).ne)).2⟩ 0e0
theorem DR.len(h:(DR F es kvs ep M))(n:∀e∈es,e.1∈prs):kvs.length<=15:=by
 have:=BV h.kn λk d=>by
  obtain⟨c,j⟩:=(h.key k).mp d;exact n _ j
 simpa using this
theorem Lf{w:Wy}(h:(DR F es kvs ep M))(n:∀e∈es,e.1∈prs)(l:es.length<=10000)(W:rJ m w) :
  ∃kvs' ep' M',d8 [r0,r1,some (.obj F),r3,r4,r5,some (bO w.1),some (nD w.2)] M=.next [r0,r1,some (.obj F),r3,r4,r5,some (bO w.1),some (nD w.2)] M'/\DR F (es++rp [w]) kvs' ep' M' /\
   (∀i,i≠F->i∉kvs.map (·.2)->i<M.length->M'[i]?=M[i]?)/\(∀i∈kvs'.map (·.2),i∈kvs.map (·.2)\/M.length<=i)/\M.length<=M'.length:=by
 unfold d8;rw[bF];simp only[cf,aK,wd,bE,Em,ao,ai,aa,uS W.ne,uM W.ne,kI];by_cases c:rx w.1<ee w.1
 ·rw [show cmpI .Lt (rx w.1) (ee w.1) = true from Xu c];obtain⟨kvs',ep',d,M',j,B,G,b,X,x,a,f⟩:=h.event (UX (h.len n) 1e0) l;refine⟨kvs',ep',M',?_,by rw[(show rp [w]=[([rx w.1,ee w.1],w.2)] by unfold rp;simp[c])];exact X,x,λi H=>(a i H).imp id λz=>by lia,by lia⟩
  have q:Dd Gu (ah 2) (af (cK (af (ay cj (ah 6) 2e8) (af (ay cj (ah 6) (oR t5 2e2)) (aw)))) (af (gF (aw)) (aw))) [r0,r1,some (.obj F),r3,r4,r5,some (bO w.1),some (nD w.2)] M=.ok (.obj j) d:=by
   unfold Dd;simp;rw[Vs (by unfold R1;dsimp only;rw[h.at'])];simp[uS W.ne,uM W.ne];exact B
  simp_all
 ·rw[show cmpI .Lt (rx w.1) (ee w.1)=false from UQ c];refine⟨kvs,ep,M,?_,by rw[(show rp [w]=[] by unfold rp;simp[c]),Vu];exact h,λ_ _ _ _=>rfl,λi H=>.inl H,Vn _⟩;rfl
noncomputable abbrev T6:MG:=bc 2 (aD (ag 6) (aD (ag 7) (bf)))
theorem z4{all:List D}(b:m<=6):∀(rs:List Wy)(es:List Wy)(kvs:(List (List Int×Nat)))(ep:Nat)(M:ax)(r6 r7:Option D),DR F es kvs ep M->(∀e∈es,e.1∈prs)->es.length+rs.length<=10000->(∀w∈rs,rJ m w)->M[V]?=some (.lst all)->V≠F->V∉kvs.map (·.2) ->
  ∃kvs' ep' M' p6 p7,c9 (.own V all) T6 d8 (rs.map tT) [r0,r1,some (.obj F),r3,r4,r5,r6,r7] M=.next [r0,r1,some (.obj F),r3,r4,r5,p6,p7] M'/\DR F (es++rp rs) kvs' ep' M' /\
   (∀i,i≠F->i∉kvs.map (·.2)->i<M.length->M'[i]?=M[i]?)/\(∀i∈kvs'.map (·.2),i∈kvs.map (·.2)\/M.length<=i)/\M.length<=M'.length
 |[],es,kvs,ep,M,r6,r7,h,n,l,W,hV,v,a=>by
  refine⟨kvs,ep,M,r6,r7,?_,by show DR F (es++[]) kvs ep M;rw[Vu];exact h,λ_ _ _ _=>rfl,λi I=>.inl I,Vn _⟩;rw[VW];unfold c9;rw[Vs (show bA (.own V all) _ from hV)]
 |w::rs,es,kvs,ep,M,r6,r7,h,n,l,W,hV,v,a=>by
  simp at l;obtain⟨kvs1,E,c,f,g,s,u,μ⟩:=Lf h n 0e0 (W w 1e1);have hVl:=(VY.mp hV).1
  have e1l:(rp [w]).length<=1:=by
   unfold rp;rw[Wb];exact μ0 _ _
  have e1p:∀e∈es++rp [w],e.1∈prs:=λe H=>by
   rcases U4.mp H with H|H
   ·exact n e H
   ·exact El b (λx d=>W x (by rw[Wz.mp d];simp)) e H
  obtain⟨kvs',ep',M',p6,p7,b1,b2,b3,B,k⟩:=z4 b rs (es++rp [w]) kvs1 E c (some (bO w.1)) (some (nD w.2)) g e1p (by rw[V6];lia) (λx d=>W x (by simp[d])) (by rw[s V v a hVl];exact hV) v (λz=>(u V z).elim a λz=>by lia);refine⟨kvs',ep',M',p6,p7,?_,?_,λi y r j=>?_,λi I=>?_,by lia⟩
  ·rw[VX];unfold c9;rw[Vs (show bA (.own V all) _ from hV),show T6 (tT w) [r0,r1,some (.obj F),r3,r4,r5,r6,r7] M=.ok [r0,r1,some (.obj F),r3,r4,r5,some (bO w.1),some (nD w.2)] M from rfl,ae,f];exact b1
  ·rw[show rp (w::rs)=rp [w]++rp rs from by unfold rp;rw[<- WT,<- List.filter_append];rfl,<- W4];exact b2
  ·rw[b3 i y (λz=>(u i z).elim r λz=>by lia) 0e0];exact s i y r j
  ·rcases B i I with z | z
   ·exact u i z
   ·exact .inr 0e0
end
section
variable{F A V:Nat}{bs:List Nat}{es:List Wy}{r0 r1 r5 r6 r7:Option D}
theorem wm{W:List Wy}(h:GW m ks)(hF:(DR F es kvs ep M))(hN:NL A bs (zF ks) M)(f:bs.length=m)(hV:M[V]?=some (.lst (W.map tT)))(d:∀w∈W,rJ m w/\w.1.length<=2)(L:W.length*ks.length<=5000)(n:∀e∈es,e.1∈prs)(l:es.length<=5000)
  (sF:F∉A::bs) (k:∀i∈kvs.map (·.2),i∉A::bs) :
  ∃kvs' ep' M' p6 p7,fZ [r0,r1,some (.obj F),some (.obj A),some (.obj V),r5,r6,r7] M=.next [r0,r1,some (.obj F),some (.obj A),some (.obj 4e8),r5,p6,p7] M'/\DR F (es++rp (lY ks W)) kvs' ep' M'/\NL A bs (zF ks) M'/\M'[4e8]?=some (.lst ((lY ks W).map tT)) /\
   (∀i∈kvs'.map (·.2),i∉A::bs)/\(∀i,i≠F->i∉kvs.map (·.2)->i<M.length->M'[i]?=M[i]?)/\(∀i∈kvs'.map (·.2),i∈kvs.map (·.2)\/M.length<=i):=by
 have G:=kG ks W;have gok:=Eg h.2.2.2.2 d;have g:=h.m6;let b:ax:=M++[.lst ((lY ks W).map tT)]
 have nlt:∀i∈A::bs,i<M.length:=λi H=>by
  rcases U2.mp H with rfl|H
  ·exact(VY.mp hN.out).1
  ·obtain⟨j,Z,e⟩:=XX H;exact(VY.mp (hN.at' j i (by rw[<- e];exact Xx Z))).1
 have olt:∀i∈kvs.map (·.2),i<M.length:=λi H=>by
  obtain⟨p,P,rfl⟩:=WM.mp H;exact(VY.mp (hF.val p P)).1
 have Flt:=(VY.mp hF.at').1;obtain⟨kvs',ep',M',p6,p7,b1,b2,b3,B,t⟩:=z4 g (lY ks W) es kvs ep b r6 r7 hF.app n 0e0 gok aC 0e0 (λz=>by have:=olt _ z;lia);have l1:b.length=M.length+1:=by simp[b]
 have s:∀i∈kvs'.map (·.2),i∉A::bs:=λi H z=>by
  rcases B i H with y|y
  ·exact k i y z
  ·have:=nlt i z;lia
 refine⟨kvs',ep',M',p6,p7,?_,b2,NL.keep (M:=b) hN.app λj Z o e=>?_,?_,s,λi I r q=>?_,λi H=>(B i H).imp id λz=>by lia⟩
 ·unfold fZ;rw[aG,aM,G0 hN f hV (λw c=>(d w c).1) 0e0];simp only[ae,bj,az,YY,YZ];rw[ij];simp[bh,ao,ai,aa];rw[bS aC];exact b1
 ·have a : j ∈ A :: bs := by rcases Z with rfl | Z <;> simp [*]
  have J:=nlt j a;rw[b3 j (λz=>sF (z ▸ a)) (λz=>k j z a) 0e0];exact e
 ·rw[b3 4e8 0e0 (λz=>by have:=olt _ z;lia) 0e0];exact aC
 ·rw[b3 i I r 0e0];exact VF q
theorem Hr(h:GW m ks):∃kvs ep M',fC [aE m ks,.int 2] Y=.ok 0e8 M'/\DR 5e8 (EV m ks) kvs ep M'/\(∃g,M'=Y++g)/\∀i∈kvs.map (·.2),Y.length<i:=by
 have J:=h.m6;have L:=bw h;let b:ax:=Y++[.dct [] 0]
 obtain⟨bs,c,s1,n1,G,hbs,g,eM1⟩:=y1 (Y:=b) h;have lM0:b.length=Y.length+1:=by simp[b]
 have d1:DR 5e8 [] [] 0 c:=by
  grind [DR.new]
 have rl:(rg m).length=m:=lI;let d:ax:=c++[.lst ((W0 m).map tT)]
 have O:∀w∈W0 m,rJ m w/\w.1.length<=1:=λw H=>by
  obtain⟨p,hp,rfl⟩:=WM.mp H;refine⟨⟨by simp,by simp,λq hq=>?_⟩,by simp⟩;rw[Wz.mp hq];exact eh.mp hp
 have Q:(W0 m).length=m:=by grind [W0]
 have sF:Y.length∉b.length::bs:=λz=>by
  grind
 have m6:m*ks.length<=6*15:=μ4 J L;obtain⟨kvs1,ep1,f,P,r,S,B,T,u,μ,X,C⟩:=wm (M:=d) (W:=W0 m) h d1.app n1.app G aC (λw H=>⟨(O w H).1,by have:=(O w H).2;lia⟩) (by rw[Q];lia) (λe he=>by cases he) 1e1 sF (λi I=>by cases I);have g1:=kG ks (W0 m);rw[Q]at g1
 have K:∀w∈lY ks (W0 m),rJ m w/\w.1.length<=2:=λw H=>by
  refine⟨Eg (m:=m) h.2.2.2.2 (λv n=>⟨(O v n).1,by have:=(O v n).2;lia⟩) w H,?_⟩;unfold lY at H;obtain⟨v,n,H⟩:=YH.mp H;unfold oX at H;obtain⟨e,_,rfl⟩:=WM.mp H;have:=(O v n).2;simp;lia
 have el:(rp (lY ks (W0 m))).length<=90:=by
  unfold rp;rw[Wb];exact UX (μ0 _ _) 0e0
 have m7:(lY ks (W0 m)).length*ks.length<=90*15:=μ4 0e0 L;obtain⟨kvs2,E,l,q6,q7,c1,c2,c3,c4,c5,c6,c7⟩:=wm (r0:=some 3e5) (r1:=some (.int 2)) (r5:=some (.int 1)) (r6:=P) (r7:=r) (V:=d.length) (M:=f) (W:=lY ks (W0 m)) h (by rw[YQ]at B;exact B) T G u K 0e0 (El J λw H=>(K w H).1) 0e0 sF μ
 have gt:∀i∈kvs2.map (·.2),Y.length<i:=λi I=>by
  have l2:b.length<=d.length:=by rw[show d=c++_ from rfl,eM1];simp
  rcases c7 i I with z|z
  ·rcases C i z with y | y
   ·cases y
   ·lia
  ·have : d.length < f.length := (VY.mp u).1
   lia
 refine⟨kvs2,E,l,?_,c2,?_,gt⟩
 ·unfold fC;rw[bB,show (some 3e5::some (D.int 2)::List.replicate (8-2) none:Ro)=[some 3e5,some (.int 2),none,none,none,none,none,none] from rfl];unfold kB;rw[aG,aM,show ∀R,GJ R Y=.ok 0e8 b from λ_=>rfl];simp only[ae,bj,az,YY,YZ];rw[aG,aM];simp only[aA,ar,aB,ai,aa,s1,ae,bj,az,YY,YZ];rw[aG,aM,aZ,cM];simp only[ar,aB,aK,bE,ai,aa];rw[show ∀N,cj 3e5 (.int 0) N=.ok (.int m) N from λ_=>rfl,aa,aa,fq 0e0 0e0,aa,aT,yv]
  rw[bg (U:=Int) (en:=D.int) (src:=.fix ((rg m).map D.int)) (g:=ag 0) (t:=aV) (e:=f7) (Y1:=c) (q:=λ_=>true) (h:=λp=>tT ([p],0)) (λs=>∃o,s=[o]) (λ_=>trivial) (us:=rg m) (acc:=[]) (ρ:=cJ [none] [some 3e5,some (.int 2),some 0e8,some (.obj b.length),none,none,none,none]) ⟨none,rfl⟩ (by rw[rl];exact UX (show 0+m<=1000 by lia) bp) (λx hx a s hR=>by
   obtain⟨o,rfl⟩:=hR;refine⟨[some (.int x)],⟨_,rfl⟩,rfl,rfl,λ_=>?_⟩;unfold f7;simp only[dR,ar,aB,bE,ai,aa,Wd,WI];rw[Vs l1];simp only[aa];rw[Vs (show ([D.tup _,D.int 0]:List D).length<=sizeLine from l2)]
   rfl),dA,YQ]
  rw[show (rg m).map (λp=>tT ([p],0))=(W0 m).map tT from by unfold W0;rw[WE];rfl];simp only[ae,bj,az,YY,YZ];rw[aG,ij,cM];simp only[ar,aB,ao,ai,aa];rw[fq 0e0 0e0,ae,aT,show cc 0 (2:Int).toNat=[.int 0,.int 1] from rfl];unfold c9;rw[Vs (show bA (.fix [D.int 0,D.int 1]) _ from trivial)];rw[show ag 5 (.int 0) [some 3e5,some (.int 2),some 0e8,some (.obj b.length),some (.obj c.length),none,none,none] d=.ok [some 3e5,some (.int 2),some 0e8,some (.obj b.length),some (.obj c.length),some (.int 0),none,none] d from rfl,ae,S];rw[show ∀(k:Ro->ax->SO) R N,(SO.next R N).loop k=k R N from λ_ _ _=>rfl];unfold c9;rw[Vs (show bA (.fix [D.int 0,D.int 1]) _ from trivial)];rw[show ag 5 (.int 1) [some 3e5,some (.int 2),some 0e8,some (.obj b.length),some (.obj d.length),some (.int 0),P,r] f=.ok [some 3e5,some (.int 2),some 0e8,some (.obj b.length),some (.obj d.length),some (.int 1),P,r] f from rfl,ae,c1];rw[show ∀(k:Ro->ax->SO) R N,(SO.next R N).loop k=k R N from λ_ _ _=>rfl];simp[c9,bA,iD]
 ·refine ⟨l.drop 5e8, ?_⟩
  have:l.take 5e8=Y:=by
   apply Yv;intro j;by_cases Z:j<Y.length
   ·have l2 : Y.length < d.length := by rw [show d = c ++ _ from rfl, eM1]; simp; lia
    have l3:d.length<f.length:=(VY.mp u).1
    rw[VG Z,c6 j 0e0 (λz=>by
     rcases C j z with y|y
     ·cases y
     ·lia) 0e0,X j 0e0 (λz=>by cases z) 0e0]
    rw[show d=c++_ from rfl,eM1];rw[VF (by rw[V6];lia),VF 0e0];show (Y++_)[j]?=_;rw[VF Z]
   ·rw[Yw (by rw[VB];lia),Yw 0e0]
  conv=>lhs;rw[<- WS 5e8 l,this]
end
end Lw
namespace Lv
def Sa(k:List Int):Prop:=∃a b:Int,k=[a,b]/\0<=a/\a<b/\b<6
def Jn(ks:0e1)(i:Nat)(p q:Int):Prop:=ks[i]?=some [p,q]\/ks[i]?=some [q,p]
theorem Aa:∀(ks:0e1)(j:Nat)(p:Int)(e:Int×Nat),e∈r8 j ks p↔∃i k,ks[i]?=some k/\e∈oV (j+i) k p
 |[],j,p,e=>by simp[r8]
 |k::ks,j,p,e=>by
  simp[r8,U4,Aa ks (j+1) p e];constructor
  ·rintro (h | ⟨i, K, H, c⟩)
   ·exact⟨0,k,rfl,h⟩
   ·exact⟨i+1,K,H,by rw[show j+(i+1)=j+1+i from by lia];exact c⟩
  ·rintro ⟨i, K, H, c⟩
   cases i with
   |zero=>cases H;exact .inl c
   |succ i=>exact .inr ⟨i,K,H,by rw[show j+1+i=j+(i+1) from by lia];exact c⟩
section
variable(hk:∀k∈ks,Sa k)
include hk
theorem gG(h:ks[i]?=some k):Sa k:=hk k (VH h)
theorem uc:(q,i)∈r8 0 ks p↔Jn ks i p q:=by
 rw[Aa];constructor
 ·rintro ⟨I, k, H, c⟩
  refine aF (gG hk H) λa b v d f g=>?_;subst v;unfold oV at c;rw[W6]at c;split at c
  ·rename_i e;rw[Wz]at c;cases c;subst e;exact .inl H
  ·split at c
   ·rename_i e;rw[Wz]at c;cases c;subst e;exact .inr H
   ·cases c
 ·rintro (h | h)
  ·obtain⟨a,b,e,d,f,g⟩:=gG hk h;refine⟨i,[p,q],h,?_⟩;unfold oV;rw[show rx [p,q]=p from rfl,Vs rfl,W6];exact Wz.mpr rfl
  ·obtain⟨a,b,e,d,f,g⟩:=gG hk h;refine⟨i,[q,p],h,?_⟩;unfold oV;rw[show rx [q,p]=q from rfl,show ee [q,p]=p from rfl,Vt 0e0];simp
theorem zM(h:Jn ks i p q):p≠q:=by
 rcases h with h|h
 ·obtain⟨a,b,e,d,H,f⟩:=gG hk h;cases e;lia
 ·obtain⟨a,b,e,d,H,f⟩:=gG hk h;cases e;lia
theorem ua{w:Wy}:w∈lY ks (W0 m)↔∃p q i,p∈rg m/\Jn ks i p q/\w=([p,q],0 ||| 2^i):=by
 unfold lY W0;rw[YH];constructor
 ·rintro ⟨v, V, W⟩
  obtain⟨p,d,rfl⟩:=WM.mp V;obtain⟨⟨q,i⟩,n,rfl⟩:=WM.mp W;rw[UW]at n;exact⟨p,q,i,d,(uc hk).mp n.1,rfl⟩
 ·rintro ⟨p, q, i, d, Z, rfl⟩
  refine⟨([p],0),WM.mpr ⟨p,d,rfl⟩,?_⟩;refine WM.mpr ⟨(q,i),?_,rfl⟩;rw[UW];refine⟨(uc hk).mpr Z,?_⟩
  grind [zM]
theorem DH{w:Wy}:w∈lY ks (lY ks (W0 m))↔∃p b q i j,p∈rg m/\Jn ks i p b/\Jn ks j b q/\q≠p/\w=([p,b,q],(0 ||| 2^i) ||| 2^j):=by
 rw[show lY ks (lY ks (W0 m))=(lY ks (W0 m)).flatMap (oX ks) from rfl,YH];constructor
 ·rintro ⟨v, V, W⟩
  refine cX ((ua hk).mp V) λp b i d Z a=>?_;subst a;obtain⟨⟨q,j⟩,n,rfl⟩:=WM.mp W;rw[UW]at n;refine⟨p,b,q,i,j,d,Z,(uc hk).mp n.1,?_,rfl⟩
  grind
 ·rintro ⟨p, b, q, i, j, d, Z, H, h, rfl⟩
  refine⟨([p,b],0 ||| 2^i),(ua hk).mpr ⟨p,b,i,d,Z,rfl⟩,?_⟩;refine WM.mpr ⟨(q,j),?_,rfl⟩;rw[UW];refine⟨(uc hk).mpr H,?_⟩
  grind [zM]
theorem jw:(k,c)∈EV m ks↔∃p q,p∈rg m/\p<q/\k=[p,q]/\((∃i,Jn ks i p q/\c=0 ||| 2^i)\/∃b i j,Jn ks i p b/\Jn ks j b q/\c=(0 ||| 2^i) ||| 2^j):=by
 unfold EV rp;rw[U4,WM,WM];constructor
 ·rintro (⟨w, W, e⟩ | ⟨w, W, e⟩)
  ·rw[UW,YS]at W;obtain⟨p,q,i,d,Z,rfl⟩:=(ua hk).mp W.1;cases e;exact⟨p,q,d,W.2,rfl,.inl ⟨i,Z,rfl⟩⟩
  ·rw[UW,YS]at W;obtain⟨p,b,q,i,j,d,Z,H,n,rfl⟩:=(DH hk).mp W.1;cases e;exact⟨p,q,d,W.2,rfl,.inr ⟨b,i,j,Z,H,rfl⟩⟩
 ·rintro ⟨p, q, d, h, rfl, ⟨i, Z, rfl⟩ | ⟨b, i, j, Z, H, rfl⟩⟩
  ·refine .inl ⟨([p,q],0 ||| 2^i),?_,rfl⟩;rw[UW,YS];exact⟨(ua hk).mpr ⟨p,q,i,d,Z,rfl⟩,h⟩
  ·refine .inr ⟨([p,b,q],(0 ||| 2^i) ||| 2^j),?_,rfl⟩;rw[UW,YS];exact⟨(DH hk).mpr ⟨p,b,q,i,j,d,Z,H,by lia,rfl⟩,h⟩
theorem Du(h:Jn ks i p q):i<ks.length:=by
 rcases h with h|h
 all_goals grind
theorem zQ(h:(k,c)∈EV m ks):0<c/\c<2^ks.length:=by
 have one:∀i,i<ks.length->(2:Nat)^i<2^ks.length:=λi I=>Nat.pow_lt_pow_right 1e0 I;have pos:∀x i:Nat,0<x ||| 2^i:=λx i=>UT (μ5 i) (Nat.right_le_or);refine aF ((jw hk).mp h) λp q d t v10 v11=>?_;subst v10;obtain⟨i,Z,rfl⟩|⟨b,i,j,Z,H,rfl⟩:=v11
 ·exact⟨pos _ _,μ6 (μ5 _) (one i (Du hk Z))⟩
 ·exact⟨pos _ _,μ6 (μ6 (μ5 _) (one i (Du hk Z))) (one j (Du hk H))⟩
end
noncomputable def jZ(c v:Nat):Bool:=(c &&& v) == v
theorem gi{v:Nat}:jZ c v=true↔∀b,v.testBit b=true->c.testBit b=true:=by
 unfold jZ;rw[YV];constructor
 ·grind
 ·intro h;apply μ7
  simp_all
theorem sm{a b:Nat}:jZ c (a ||| b)=true↔jZ c a=true/\jZ c b=true:=by
 rw[gi,gi,gi]
 grind
theorem nc:jZ c (2^i)=true↔c.testBit i=true:=by
 simp[gi,μ8]
theorem AE:jZ c 0=true:=by simp[gi]
end Lv
namespace Lw
open PySem L2 RS Lv
theorem Oy{a b:Nat}:Bb (nD a) (nD b) M=.ok (nD (a &&& b)) M:=by
 rfl
theorem Jw(c v:Nat):((((c &&& v:Nat):Int)) == ((v:Nat):Int))=jZ c v:=by
 unfold jZ
 lia
section
variable{F A V C:Nat}{bs:List Nat}{es:List Wy}
theorem Ag{vs:List Nat}(h:M[j]?=some (.lst (vs.map nD)))(i:vs.length<=100000):jn [nD c,.obj j] M=.ok (.bl (vs.any (jZ c))) M:=by
 unfold jn;rw[bB,show (some (nD c)::some (D.obj j)::List.replicate (2-2) none:Ro)=[some (nD c),some (.obj j)] from rfl];simp only[tS];rw[bG,aA,ar,aZ];simp only[bh,ao,ai,aa];rw[bS h,aa,cn]
 rw[bg (src:=.own j (vs.map nD)) (Y1:=M) (h:=λv=>.bl (jZ c v)) (λe=>∃o,e=[o,some (nD c)]) (λ_=>aH h) (ρ:=cJ [none,some 0] [some (nD c),some (.obj j)]) ⟨none,rfl⟩ (by simp only[WI];exact UX (show 0+vs.length<=100000 by lia) 1e0) (λx d a e hR=>by
  obtain⟨o,rfl⟩:=hR;refine⟨[some (nD x),some (nD c)],⟨_,rfl⟩,rfl,rfl,λ_=>?_⟩;unfold n8;simp only[aK,ao,ai,aa];rw[Oy,aa,fO,Jw]
  rfl)]
 simp;rw[JM (by rw[aC,WE];rfl)];simp[cD]
theorem BX{a b:Int}(d:5e3):iC true (.tup [.int a,.int b]) 3e7 M=.ok (.bl (!decide ([a,b]∈ks))) M:=by
 have e:=qi (Y:=M) (a:=a) (b:=b) d
 have B:hW M 3e7=some (.tuple (ks.map bK)):=by
  simp[hW,kO d,W7]
 unfold iC at e⊢;rw[(show hW M (.tup [.int a,.int b])=some (.tuple [.int a,.int b]) from rfl),B]at e⊢;dsimp only[lK]at e⊢;rw[Vs ⟨rfl,sL d⟩]at e⊢;simp only[Wl,VO,aq.ok.injEq,D.bl.injEq,and_true]at e;simp only[VP];rw[e]
theorem KF{v:Nat}(h:0<v):∀M,(Kd (nD v) M).bind (λd N=>iT d (.int 1) N)=.ok (.int (v.log2:Int)) M:=λM=>by
 unfold Kd
 have:Builtin.Int.intBits ((v:Nat):Int)=v.log2+1:=by
  unfold Builtin.Int.intBits;rw[Vt (by simp;lia)];simp
 simp_all
theorem Ea{v:Nat}(d:0<v)(h:v<2^n):v.log2<n:=(μ9 0e0).mpr h
noncomputable abbrev AZ(ps:List Nat):Nat->List D:=λt=>(ps.filter λv=>v.log2 == t).map nD
noncomputable abbrev zI(ks:0e1)(F C:Nat)(o3 c:Option D):Ro:=[some 3e7,some (.obj F),some (.obj C),o3,c]
theorem Oo{ps:List Nat}{v:Nat}{o3:Option D}(h:NL C bs (AZ ps) M)(B:bs.length=n)(H:0<v)(a:v<2^n)(l:ps.length<=100000):
  ∃b M',bs[v.log2]?=some b/\fB (zI ks F C o3 (some (nD v))) M=.next (zI ks F C o3 (some (nD v))) M'/\NL C bs (AZ (ps++[v])) M'/\∃o,M'=M.set b o:=by
 have t:=Ea H a
 obtain⟨b,M',k,x,G,e,X,c⟩:=h.push (p:=(v.log2:Int)) (d:=nD v) 0e0 0e0 (by
  grind)
 refine⟨b,M',k,?_,X.ext λi I=>?_,_,c⟩
 ·unfold fB;rw[dH,l7,aK];simp only[ao,ai,aa]
  rw[show ay iT (oR Kd (ah 4)) 2e2 (zI ks F C o3 (some (nD v))) M=.ok (.int (v.log2:Int)) M from by
   exact KF H M]
  simp_all
 ·unfold yf AZ
  grind
theorem AQ{j n:Nat}{all:List D}{o3:Option D}(B:bs.length=n)(Z:j∉C::bs):∀(vs ps:List Nat)(M:ax)(o4:Option D),NL C bs (AZ ps) M->M[j]?=some (.lst all)->(∀v∈vs,0<v/\v<2^n)->ps.length+vs.length<=100000 ->
  ∃M' p4,c9 (.own j all) (ag 4) fB (vs.map nD) (zI ks F C o3 o4) M=.next (zI ks F C o3 p4) M'/\NL C bs (AZ (ps++vs)) M'/\(∀i,i∉bs->M'[i]?=M[i]?)/\M'.length=4e8
 |[],ps,M,o4,h,hM,a,l=>by
  refine⟨M,o4,?_,by rw[Vu];exact h,λ_ _=>rfl,rfl⟩;rw[VW];unfold c9;rw[Vs (show bA (.own j all) _ from hM)]
 |v::vs,ps,M,o4,h,hM,a,l=>by
  simp at l;obtain⟨b,c,k,X,e,o,x⟩:=Oo h B (a v 1e1).1 (a v 1e1).2 0e0;have G:∀i,i∉bs->c[i]?=M[i]?:=λi H=>by rw[x,U8 (λz=>H (by rw[<- z];exact(VH k)))]
  obtain⟨M',p4,y,W,μ,f⟩:=AQ B Z vs (ps++[v]) c (some (nD v)) e (by rw[G j (λz=>Z (by simp[z]))];exact hM) (λw d=>a w (by simp[d])) (by simp;lia);refine⟨M',p4,?_,by rw[W4]at W;exact W,λi H=>(μ i H).trans (G i H),by rw[f,x];simp⟩;rw[VX];unfold c9;rw[Vs (show bA (.own j all) _ from hM),show ag 4 (nD v) (zI ks F C o3 o4) M=.ok (zI ks F C o3 (some (nD v))) M from rfl,ae,X];exact y
theorem Ih:∀k∈prs,k.length=2:=by decide +kernel
noncomputable def vA(ks:0e1)(es:List Wy)(kvs:(List (List Int×Nat))):List Nat:=kvs.flatMap λp=>if p.1∈ks then [] else jY es p.1
theorem AR{n:Nat}(K:5e3)(B:bs.length=n)(hF:F∉C::bs)(H:∀i∈kvs.map (·.2),i∉C::bs)(R:∀e∈es,e.1∈prs/\0<e.2/\e.2<2^n):∀(rs:(List (List Int×Nat)))(ps:List Nat)(M:ax)(o3 o4:Option D),NL C bs (AZ ps) M->DR F es kvs ep M->(∀p∈rs,p∈kvs)->ps.length+(vA ks es rs).length<=100000 ->
  ∃M' p3 p4,c9 (.dks F kvs ep) (ag 3) fA (rs.map λp=>bO p.1) (zI ks F C o3 o4) M=.next (zI ks F C p3 p4) M'/\NL C bs (AZ (ps++vA ks es rs)) M'/\(∀i,i∉bs->M'[i]?=M[i]?)/\M'.length=4e8
 |[],ps,M,o3,o4,h,hD,r,l=>by
  refine⟨M,o3,o4,?_,by rw[show vA ks es []=[] from rfl,Vu];exact h,λ_ _=>rfl,rfl⟩;rw[VW];unfold c9;rw[Vs (show bA (.dks F kvs ep) _ from hD.at')]
 |p::rs,ps,M,o3,o4,h,hD,r,l=>by
  have P:=r p 1e1;rw[(show vA ks es (p::rs)=(if p.1∈ks then [] else jY es p.1)++vA ks es rs by rfl)]at l⊢;rw[V6]at l;obtain⟨X,f⟩:=(hD.key p.1).mp (Xf P)
  obtain⟨a,b,E⟩:∃a b,p.1=[a,b]:=by
   have g:=Ih _ (R _ f).1
   match p.1,g with
   |[a,b],_=>exact⟨a,b,rfl⟩
  have Z:=hD.val p P
  have step:∃d p4,fA (zI ks F C (some (bO p.1)) o4) M=.next (zI ks F C (some (bO p.1)) p4) d/\NL C bs (AZ (ps++if p.1∈ks then [] else jY es p.1)) d/\(∀i,i∉bs->d[i]?=M[i]?)/\d.length=M.length:=by
   have tst:e0 (ay (iC true) (ah 3) 2e3) (zI ks F C (some (bO p.1)) o4) M=.ok (!decide (p.1∈ks)) M:=by
    simp;rw[E,show (bO [a,b])=.tup [.int a,.int b] from rfl,BX K];rfl
   unfold fA;rw[bF,tst];by_cases c:p.1∈ks
   ·rw[Vs c,Xu c];refine⟨M,o4,?_,by rw[Vu];exact h,λ_ _=>rfl,rfl⟩;simp[μ1,Wl,VO,bV]
   ·rw [Vt c, UQ c];rw[Vt c]at l;obtain⟨d,p4,y,W,μ,J⟩:=AQ B (H p.2 (Xf P)) (jY es p.1) ps M o4 h Z (λv s=>(R _ (dG.mp s)).2) 0e0;refine⟨d,p4,?_,W,μ,J⟩;simp[bh,aK,ao,ai,aa]
    rw[show t6 (.obj F) (bO p.1) M=.ok (.obj p.2) M from by
     unfold t6;dsimp only;rw[hD.at',gy];dsimp only
     rw[kL hD.kn P]]
    rw[aa,bS Z];exact y
  refine aF step λd p4 S N U u=>?_
  have hD1:=hD.keep λj Z o e=>by
   rw[U j]
   ·exact e
   ·intro z;rcases Z with rfl|Z
    ·exact hF (by simp[z])
    ·exact H j Z (by simp[z])
  refine eC (AR K B hF H R rs _ d (some (bO p.1)) p4 N hD1 (λq Q=>r q (by simp[Q])) (by rw[V6];lia)) λM' L G T t w x=>?_;refine⟨M',L,G,?_,by rw[W4]at t;exact t,λi I=>(w i I).trans (U i I),x.trans u⟩;rw[VX];unfold c9;rw[Vs (show bA (.dks F kvs ep) _ from hD.at'),show ag 3 (bO p.1) (zI ks F C o3 o4) M=.ok (zI ks F C (some (bO p.1)) o4) M from rfl,ae,S];exact T
end
end Lw
namespace Lv
noncomputable def lZ(vs:List Nat):Nat:=(vs.foldl max 0).log2
noncomputable def OL(ks:0e1)(es:List Wy)(t c:Nat):Bool:=es.any λe=>!decide (e.1∈ks)&&(e.2.log2 == t)&&jZ c e.2
noncomputable def stB(ks:0e1)(es:List Wy)(t c:Nat):Bool:=ks.all λk=>!(lZ (jY es k) == t) || (jY es k).any (jZ c)
noncomputable def C5(ks:0e1)(es:List Wy)(t:Nat)(s:List Nat):List Nat:=(s++(s.map λc=>c ||| 2^t).filter λc=>!OL ks es t c).filter (stB ks es t)
noncomputable def kD(ks:0e1)(es:List Wy):Nat->List Nat
 |0=>[0]
 |t+1=>C5 ks es t (kD ks es t)
theorem ug{t:Nat}(h:c<2^t):c ||| 2^t=c+2^t:=by
 rw[Nat.or_comm,Nat.add_comm];have:=Nat.two_pow_add_eq_or_of_lt h 1
 simp_all
theorem Hf{v t:Nat}(H:2^t<=v)(c:v<2^(t+1)):v.testBit t=true:=by
 rw[Za,YS]
 have:v / 2^t=1:=by
  apply Nat.div_eq_of_lt_le
  ·lia
  ·lia
 rw[this]
theorem Ji{v t:Nat}(H:2^t<=v)(c:v<2^(t+1)):v.log2=t:=by
 have V:v≠0:=by have:=μ5 t;lia
 have a:=(μ9 V).mpr c;have b:=(Nat.le_log2 V).mpr H
 lia
theorem yL{v b t:Nat}(h:v<2^t)(B:v.testBit b=true):b<t:=by
 grind [Nat.lt_of_lt_of_le,Nat.pow_le_pow_right,Nat.testBit_lt_two_pow]
theorem Ju{v x:Nat}(h:jZ c v=true):jZ (c ||| x) v=true:=by
 grind [gi]
theorem Jv{v t:Nat}(V:v<2^t)(h:jZ (c ||| 2^t) v=true):jZ c v=true:=by
 rw[gi]at h⊢;intro b B;have:=h b B;rw[Nat.testBit_or,μ8,Ym]at this;rcases this with z|z
 ·exact z
 ·have:=yL V B;lia
section
variable{es:List Wy}
theorem fP:∀t,∀c∈kD ks es t,c<2^t
 |0,c,h=>by simp[kD]at h;subst h;decide
 |t+1,c,h=>by
  have h:=(UW.mp h).1;rw[Nat.pow_succ];rcases U4.mp h with h|h
  ·have:=fP t c h;lia
  ·refine bz (WM.mp (UW.mp h).1) λd D v => ?_;subst v;have:=fP t d D;rw[ug this]
   lia
theorem pM:∀t,(kD ks es t).Pairwise (·<·)
 |0=>List.pairwise_singleton _ _
 |t+1=>by
  refine YI _ ?_;rw[List.pairwise_append];refine⟨pM t,YI _ (Yg.mpr ?_),λa n b B=>?_⟩
  ·refine (pM t).imp_of_mem λn B h => ?_;rw[ug (fP t _ n),ug (fP t _ B)]
   lia
  ·obtain ⟨d, D, rfl⟩ := WM.mp (UW.mp B).1;have:=fP t a n;rw[ug (fP t d D)]
   lia
theorem kR(R:∀e∈es,0<e.2):∀t,∀c∈kD ks es t,(∀e∈es,e.1∉ks->e.2<2^t->jZ c e.2=false)/\∀k∈ks,lZ (jY es k)<t->∃v∈jY es k,jZ c v=true
 |0,c,h=>⟨λe n _ i=>by have:=R e n;simp at i;lia,λk _ i=>by lia⟩
 |t+1,c,h=>by
  unfold kD C5 at h;rw[UW]at h;obtain⟨h,T⟩:=h;unfold stB at T;rw[Xg]at T
  have now:∀k∈ks,lZ (jY es k)=t->∃v∈jY es k,jZ c v=true:=λk H e=>by
   have:=T k H;rw[e]at this;simpa using this
  rcases U4.mp h with h|h
  ·obtain ⟨a, b⟩ := kR R t c h;refine⟨λe n N i=>?_,λk H i=>?_⟩
   ·by_cases z : e.2 < 2 ^ t
    ·exact a e n N z
    ·cases I : jZ c e.2 with
     |false=>rfl
     |true=>
      have:=yL (fP t c h) (gi.mp I t (Hf 0e0 i))
      lia
   ·by_cases z : lZ (jY es k) < t
    ·exact b k H z
    ·exact now k H 0e0
  ·rw [UW] at h;obtain⟨h,l⟩:=h;refine bz (WM.mp h) λd D f=>?_;subst f;obtain⟨a,b⟩:=kR R t d D;refine⟨λe n N i=>?_,λk H i=>?_⟩
   ·cases I : jZ (d ||| 2 ^ t) e.2 with
    |false=>rfl
    |true=>
     by_cases z:e.2<2^t
     ·have:=a e n N z;rw[Jv z I]at this;cases this
     ·exfalso
      have:OL ks es t (d ||| 2^t)=true:=by
       unfold OL;rw[YR];refine⟨e,n,?_⟩;rw[UQ N,Ji 0e0 i,I];simp
      rw[this]at l;cases l
   ·by_cases z : lZ (jY es k) < t
    ·refine bz (b k H z) λv V e=>?_;exact⟨v,V,Ju e⟩
    ·exact now k H 0e0
end
end Lv
namespace Lw
open PySem L2 RS Lv
section
variable{F A V C:Nat}{bs:List Nat}{es:List Wy}
theorem D3{M':ax}(h:∀j,j<Y.length->M'[j]?=Y[j]?):∃g,M'=Y++g:=by
 have:M'.take 5e8=Y:=by
  apply Yv;intro j;by_cases Z:j<Y.length
  ·rw[VG Z,h j Z]
  ·rw[Yw (by rw[VB];lia),Yw 0e0]
 grind [List.take_append_drop]
theorem DR.lt(h:(DR F es kvs ep M)):∀i∈kvs.map (·.2),i<M.length:=λi H=>by
 obtain⟨p,d,rfl⟩:=WM.mp H;exact(VY.mp (h.val p d)).1
theorem ud:∀b∈(List.range n).map (λi=>Y.length+1+i),Y.length<b:=λb B=>by
 grind
theorem EN(d:5e3)(l:ks.length<=15)(hD:DR F es kvs ep Y)(R:∀e∈es,e.1∈prs/\0<e.2/\e.2<2^ks.length)(U:(vA ks es kvs).length<=100000) :
  ∃bs g,gX [.tup 0e3,.obj F] Y=.ok 0e8 (Y++g)/\NL 5e8 bs (AZ (vA ks es kvs)) (Y++g)/\bs.length=ks.length/\(∀b∈bs,Y.length<b):=by
 let a:ax:=Y++.lst ((List.range ks.length).map λi=>D.obj (Y.length+1+i))::List.replicate ks.length (.lst [])
 let bs:List Nat:=(List.range ks.length).map λi=>Y.length+1+i
 have B:bs.length=ks.length:=by simp[bs]
 have big:∀i,i<Y.length->i∉Y.length::bs:=λi h z=>by
  rcases U2.mp z with z|z
  ·lia
  ·have:=ud i z;lia
 refine eC (AR d B (big F ((VY.mp hD.at').1)) (λi h=>big i (hD.lt i h)) R kvs [] a none none (uI) hD.app (λp H=>H) (by simpa using U)) λf P n o t T q=>?_
 obtain⟨g,rfl⟩:=D3 (Y:=Y) λj Z=>by
  rw[T j (λz=>big j Z (by simp[z]))];exact VF Z
 refine⟨bs,g,?_,by rw[YQ]at t;exact t,B,ud⟩;unfold gX;rw[bB,show (some (D.tup 0e3)::some (D.obj F)::List.replicate (5-2) none:Ro)=[some 3e7,some (.obj F),none,none,none] from rfl];unfold mS;simp[bh,ai,aa,fm,aT];rw[nA (g:=ag 0) (e:=kA) (src:=.fix 0e3) (Y:=Y) (λ_=>trivial) (λx c M=>⟨_,rfl⟩) (λc M=>mi c M) (by rw[Wb];lia),Wb];simp only[ae,az];rw[aG,ij]
 rw[show R6 5e7 [some 3e7,some (.obj F),some 0e8,none,none] a=.ok (.dks F kvs ep) a from by
  unfold R6;simp[ao,ai,aa];unfold Di;dsimp only
  rw[show a[F]?=some (.dct kvs ep) from aH hD.at']]
 rw[ae,show (kE.dks F kvs ep).items=kvs.map λp=>bO p.1 from rfl]
 simp_all[iD]
theorem kQ:∀(vs:List Nat)(x:Nat),(∀v∈vs,v<=vs.foldl max x)/\x<=vs.foldl max x/\(vs.foldl max x=x\/vs.foldl max x∈vs)
 |[],x=>by simp
 |v::vs,x=>by
  refine jr (kQ vs (max x v)) λH c d=>?_;refine⟨λw W=>?_,?_,?_⟩
  ·rcases U2.mp W with rfl | W
   ·exact UX (Zd _ _) c
   ·exact H w W
  ·exact UX (Ze _ _) c
  ·rw [W5];rcases d with d|d
   ·rw [d];rcases Nat.le_total x v with z|z
    ·right;rw[Nat.max_eq_right z];simp
    ·left;exact Nat.max_eq_left z
   ·right;simp[d]
theorem Ay:∀(vs:List Nat)(x:Nat),(vs.map λv:Nat=>(v:Int)).foldl max (x:Int)=((vs.foldl max x:Nat):Int)
 |[],x=>rfl
 |v::vs,x=>by
  rw[VX,W5,W5,<- Ay vs (max x v)]
  lia
theorem NC{v:Nat}{vs:List Nat}(h:M[j]?=some (.lst ((v::vs).map nD))):lB [.obj j] M=.ok (nD ((v::vs).foldl max 0)) M:=by
 unfold lB;unfold yg;dsimp only;rw[h];dsimp only;rw[show (v::vs).map nD=(((v::vs).map λw:Nat=>(w:Int))).map D.int from by rw[WE];rfl,gy];simp[KU,Ay]
noncomputable abbrev CV(ps:List (Nat×Nat)):Nat->List D:=λt=>(ps.filter λp=>p.2 == t).map λp=>D.obj p.1
noncomputable abbrev KJ(J C:Nat)(o2:Option D):Ro:=[some (.obj J),some (.obj C),o2]
def Mk(n:Nat)(M:ax)(p:Nat×List Nat):Prop:=M[p.1]?=some (.lst (p.2.map nD))/\p.2≠[]/\∀v∈p.2,0<v/\v<2^n
theorem Kg{vs:List Nat}(H:vs≠[])(h:∀v∈vs,0<v/\v<2^n):0<vs.foldl max 0/\lZ vs<n:=by
 refine jr (kQ vs 0) λa c d=>?_;cases vs with
 |nil=>exact absurd rfl H
 |cons v r=>
  have p:=UT (h v 1e1).1 (a v 1e1);refine⟨p,Ea p ?_⟩;rcases d with d|d
  ·lia
  ·exact(h _ d).2
theorem Ak{J n:Nat}{all:List D}(B:bs.length=n)(hJ:J∉C::bs):∀(rs:List (Nat×List Nat))(ps:List (Nat×Nat))(M:ax)(o2:Option D),NL C bs (CV ps) M->M[J]?=some (.lst all)->(∀p∈rs,Mk n M p/\p.1∉C::bs)->ps.length+rs.length<=100000 ->
  ∃M' p2,c9 (.own J all) (ag 2) fz (rs.map λp=>D.obj p.1) (KJ J C o2) M=.next (KJ J C p2) M'/\NL C bs (CV (ps++rs.map λp=>(p.1,lZ p.2))) M'/\(∀i,i∉bs->M'[i]?=M[i]?)/\M'.length=4e8
 |[],ps,M,o2,h,hM,R,l=>by
  refine⟨M,o2,?_,by simpa using h,λ_ _=>rfl,rfl⟩;rw[VW];unfold c9;rw[Vs (show bA (.own J all) _ from hM)]
 |p::rs,ps,M,o2,h,hM,R,l=>by
  simp at l;obtain⟨⟨K,f,o⟩,L⟩:=R p 1e1;obtain⟨T,P⟩:=Kg f o
  obtain⟨b,a,k,x,w,y,X,c⟩:=h.push (p:=(lZ p.2:Int)) 0e0 0e0 (by
   rw[Wb]
   exact UX (μ0 _ _) 0e0)
  rw[XW]at k X c;have G:∀i,i∉bs->a[i]?=M[i]?:=λi H=>by rw[c,U8 (λz=>H (by rw[<- z];exact(VH k)))]
  have t:fz (KJ J C (some (.obj p.1))) M=.next (KJ J C (some (.obj p.1))) a:=by
   unfold fz;rw[dH,l7,aK];simp only[ao,ai,aa]
   rw[show ay iT (oR Kd (au lB 4e1)) 2e2 (KJ J C (some (.obj p.1))) M=.ok (.int (lZ p.2:Int)) M from by
    simp[ar,aB,ao,ai,aa]
    rw[show lB [.obj p.1] M=.ok (nD (p.2.foldl max 0)) M from by
     cases d:p.2 with
     |nil=>exact absurd d f
     |cons v r=>rw[d]at K;exact NC K]
    exact KF T M]
   rw[aa,x,aa,w,Vs rfl];simp[ar,aB,ao,ai,aa];rw[y];simp
  have N:NL C bs (CV (ps++[(p.1,lZ p.2)])) a:=X.ext λi H=>by
   unfold yf CV;by_cases e:i=lZ p.2
   ·subst e;simp
   ·rw [Vt e];have:(lZ p.2 == i)=false:=by simp;lia
    simp[this]
  obtain⟨M',p2,μ,W,E,I⟩:=Ak B hJ rs (ps++[(p.1,lZ p.2)]) a (some (.obj p.1)) N (by rw[G J (λz=>hJ (by simp[z]))];exact hM) (λq Q=>by
   obtain⟨⟨g,j,s⟩,u⟩:=R q (by simp[Q])
   exact⟨⟨by rw[G q.1 (λz=>u (by simp[z]))];exact g,j,s⟩,u⟩) (by simp;lia)
  refine⟨M',p2,?_,by rw[W4]at W;exact W,λi H=>(E i H).trans (G i H),by rw[I,c];simp⟩;rw[VX];unfold c9;rw[Vs (show bA (.own J all) _ from hM),show ag 2 (.obj p.1) (KJ J C o2) M=.ok (KJ J C (some (.obj p.1))) M from rfl,ae,t];exact μ
theorem y2{J:Nat}{rs:List (Nat×List Nat)}(hJ:Y[J]?=some (.lst (rs.map λp=>D.obj p.1)))(R:∀p∈rs,Mk n Y p)(h:rs.length=n)(h15:n<=15):
  ∃bs g,gU [.obj J] Y=.ok 0e8 (Y++g)/\NL 5e8 bs (CV (rs.map λp=>(p.1,lZ p.2))) (Y++g)/\bs.length=n/\(∀b∈bs,Y.length<b):=by
 let a:ax:=Y++.lst ((List.range n).map λi=>D.obj (Y.length+1+i))::List.replicate n (.lst [])
 let bs:List Nat:=(List.range n).map λi=>Y.length+1+i
 have B:bs.length=n:=by simp[bs]
 have big:∀i,i<Y.length->i∉Y.length::bs:=λi I z=>by
  rcases U2.mp z with z|z
  ·lia
  ·have:=ud i z;lia
 have Jlt:=(VY.mp hJ).1
 obtain⟨k,P,y,W,μ,l⟩:=Ak B (big J Jlt) rs [] a none (uI) (aH hJ) (λp H=>by
  refine jr (R p H) λc f s=>?_
  exact⟨⟨aH c,f,s⟩,big _ (VY.mp c).1⟩) (by simp;lia)
 obtain⟨g,rfl⟩:=D3 (Y:=Y) λj Z=>by
  rw[μ j (λz=>big j Z (by simp[z]))];exact VF Z
 refine⟨bs,g,?_,by rw[YQ]at W;exact W,B,ud⟩;unfold gU;rw[dS];unfold mP;simp;rw[bS hJ,aa,cn,nA (g:=ag 0) (e:=kz) (src:=.own J (rs.map λp=>D.obj p.1)) (Y:=Y) (λ_=>aH hJ) (λx d M=>⟨_,rfl⟩) (λd M=>mi d M) (by rw[Wb];lia),Wb,h];simp;rw[bS (show a[J]?=_ from aH hJ)]
 simp_all[iD]
end
theorem qo{U:Type}{en:U->D}{src:kE}{g:MG}{t:MT}{e:ME}{M0:ax}{q:U->Bool}{h:U->D}(R:Ro->Prop)(G:∀a s,bA src (M0++.lst a::s)) :
  ∀{us:List U}{acc:List D}{ρ:Ro}{s:ax},R ρ->acc.length+us.length<=sizeLine->(∀x∈us,∀a s ρ,R ρ->∃ρ1 s1,R ρ1/\g (en x) ρ (M0++.lst a::s)=.ok ρ1 (M0++.lst a::s)/\t ρ1 (M0++.lst a::s)=.ok (q x) (M0++.lst a::s1)/\(q x=true->e ρ1 (M0++.lst a::s1)=.ok (h x) (M0++.lst a::s1))) ->
   ∃s',compLoop src M0.length g t e (us.map en) ρ (M0++.lst acc::s)=.ok (.obj M0.length) (M0++.lst (acc++(us.filter q).map h)::s')
 |[],acc,ρ,s,r,L,H=>by
  refine⟨s,?_⟩;rw[VW];unfold compLoop;rw[Vs (G acc s)];simp
 |x::X,acc,ρ,s,r,L,H=>by
  refine aF (H x U0 acc s ρ r) λρ1 s1 r1 d E N=>?_;have l:=λy μ=>H y (U1 _ μ);simp only[Wd]at L;cases z:q x with
  |false=>
   obtain⟨s',i⟩:=qo R G (acc:=acc) r1 0e0 l;refine⟨s',?_⟩;rw[VX];unfold compLoop;rw[Vs (G acc s),d];simp only[ak,aa];rw[E];simp only[ak,aa];rw[z,Vt V9,i,Yn,z];rfl
  |true=>
   obtain⟨s',i⟩:=qo R G (acc:=acc++[h x]) r1 (by simp;lia) l;refine⟨s',?_⟩;rw[VX];unfold compLoop;rw[Vs (G acc s),d];simp only[ak,aa];rw[E];simp only[ak,aa];rw[z,Vs rfl,N z];simp only[ak,aa];rw[fR 0e0];simp only[aa,ak];rw[i,Yn,z];simp
noncomputable def OU(ps:List Nat)(rs:List (Nat×List Nat))(t:Nat)(s:List Nat):List Nat:=
 (s++(s.map λc=>c ||| 2^t).filter λc=>!((ps.filter λv=>v.log2 == t).any (jZ c))).filter λc=>(rs.filter λp=>lZ p.2 == t).all λp=>p.2.any (jZ c)
section
variable{C S:Nat}{cb sb:List Nat}{ps:List Nat}{rs:List (Nat×List Nat)}{B g:ax}{r0 r1 r3 r4 o9 o10:Option D}
noncomputable abbrev OM(r0 r1 r3 r4:Option D)(C S H t:Nat)(o9 o10:Option D):Ro:=[r0,r1,some (.tup []),r3,r4,some (.obj C),some (.obj S),some (.obj H),some (.int (t:Int)),o9,o10]
theorem AG{a b:Nat}(H:M[a]?=some (O.lst xs))(c:M[b]?=some (O.lst ys))(i:xs.length+ys.length<=1000000):iF (.obj a) (.obj b) M=.ok (.obj a) (M.set a (O.lst (xs++ys))):=by
 unfold iF;dsimp only;rw[H,c];dsimp only;rw[Vs (UX i 1e0)]
theorem JT{s:ax}{a:List D}{t:Nat}(hS:NL S sb (CV (rs.map λp=>(p.1,lZ p.2))) M0)(R:∀p∈rs,M0[p.1]?=some (O.lst (p.2.map nD))/\p.2.length<=100000)(H:sb.length=n)(J:t<n)(i:rs.length<=100000):
  ∃s1,dY [some (nD c),some (.obj S),some (.int (t:Int))] (M0++O.lst a::s)=.ok ((rs.filter λp=>lZ p.2 == t).all λp=>p.2.any (jZ c)) (M0++O.lst a::s1):=by
 let M:ax:=M0++O.lst a::s
 obtain⟨b,k,x,G⟩:=(hS.app).ix (p:=(t:Int)) 0e0 0e0;rw[XW]at k G;let q:=rs.filter λp=>lZ p.2 == t
 have e:CV (rs.map λp=>(p.1,lZ p.2)) t=q.map λp=>D.obj p.1:=by
  unfold CV;rw[YJ,WE];rfl
 rw[e]at G;have l:q.length<=100000:=UX (μ0 _ _) i
 have c1:=bg (src:=.own b (q.map λp=>D.obj p.1)) (g:=ag 0) (t:=aV) (e:=iu) (Y1:=M) (λd=>∃o,d=[o,some (nD c)]) (λ_=>aH G) (acc:=[]) (ρ:=cJ [none,some 0] [some (nD c),some (.obj S),some (.int (t:Int))]) ⟨none,rfl⟩ (by simp only[WI];exact UX (show 0+q.length<=100000 by lia) 1e0) (λp h A d hR=>by
  obtain⟨o,rfl⟩:=hR;refine⟨[some (.obj p.1),some (nD c)],⟨_,rfl⟩,rfl,rfl,λ_=>?_⟩;unfold iu;obtain⟨K,f⟩:=R p (UW.mp h).1
  exact Ag (aH (aH K)) f)
 rw[dA]at c1;refine⟨s++[O.lst (q.map λp=>.bl (p.2.any (jZ c)))],?_⟩;simp only[dY,fe,aA,ar,aZ,bh,aK,ao,ai,aa];rw[x,aa,bS G,aa,cn,c1];simp only[aa,aB];rw[jB (by rw[aC,WE];rfl)];simp only[Yb,M,W4];rfl
theorem JU{H t:Nat}{cs:List Nat}(hC:NL C cb (AZ ps) B)(K:cb.length=n)(hS:NL S sb (CV (rs.map λp=>(p.1,lZ p.2))) B)(m:sb.length=n)(y:∀p∈rs,B[p.1]?=some (O.lst (p.2.map nD))/\p.2.length<=100000)(L:ps.length<=100000)(i:rs.length<=100000)(μ:t<n)(h15:t<=15)
  (hH:(B++g)[H]?=some (O.lst (cs.map nD))) (hl:cs.length<=100000) :
  ∃g' H' p9 p10,dZ (OM r0 r1 r3 r4 C S H t o9 o10) (B++g)=.next (OM r0 r1 r3 r4 C S H' t p9 p10) (B++g')/\(B++g')[H']?=some (O.lst ((OU ps rs t cs).map nD))/\B.length<=H':=by
 let G:=(B++g).length
 have hHl:H<(B++g).length:=(VY.mp hH).1;let E:ax:=(B++g)++[O.lst []]
 let d:ax:=(B++g)++[O.lst (cs.map nD)]
 have Z:iF (.obj G) (.obj H) E=.ok (.obj G) d:=by
  rw[AG aC (aH hH) (by rw[WI,Wb];lia)]
  grind
 let l:=cs.map λc=>c ||| 2^t
 have lgl:l.length=cs.length:=by simp[l]
 have hH2:d[H]?=some (O.lst (cs.map nD)):=aH hH
 have c1:=bg (src:=.own H (cs.map nD)) (g:=ag 0) (t:=aV) (e:=fG) (Y1:=d) (λf=>∃o,f=[o,some (.int (t:Int))]) (λ_=>aH hH2) (acc:=[]) (ρ:=[none,some (.int (t:Int))]) ⟨none,rfl⟩ (by simp only[WI];exact UX (show 0+cs.length<=100000 by lia) 1e0) (λx X a f hR=>by
  obtain⟨o,rfl⟩:=hR;refine⟨[some (nD x),some (.int (t:Int))],⟨_,rfl⟩,rfl,rfl,λ_=>?_⟩;unfold fG;simp only[aK,ao,ai,bE,aa]
  rw[DV h15,aa,Kv])
 rw[dA,YQ,show (cs.map λc=>nD (c ||| 2^t))=l.map nD from by rw[WE];rfl]at c1;let j:ax:=d++[O.lst (l.map nD)]
 have hL3:j[d.length]?=some (O.lst (l.map nD)):=aC;let Q:Nat->Bool:=λc=>!((ps.filter λv=>v.log2 == t).any (jZ c))
 have hC3:NL C cb (AZ ps) j:=by
  show NL C cb (AZ ps) ((B++g)++[O.lst (cs.map nD)]++[O.lst (l.map nD)]);exact hC.app.app.app
 have u:=bg (src:=.own d.length (l.map nD)) (g:=ag 0) (t:=fy) (e:=iw) (Y1:=j) (q:=Q) (h:=nD) (λf=>∃o,f=[o,some (.obj C),some (.int (t:Int))]) (λ_=>aH hL3) (us:=l) (acc:=[]) (ρ:=[none,some (.obj C),some (.int (t:Int))]) ⟨none,rfl⟩ (by simp only[WI];exact UX (show 0+l.length<=100000 by lia) 1e0) (λx X a f hR=>by
  obtain⟨o,rfl⟩:=hR;refine⟨[some (nD x),some (.obj C),some (.int (t:Int))],⟨_,rfl⟩,rfl,?_,λ_=>rfl⟩;refine bI ((hC3.app (g:=[O.lst a])).ix (p:=(t:Int)) 0e0 0e0) λb k F A=>?_;rw[XW]at k A;unfold fy;rw[fu,fe,aA];simp only[ar,aB,aK,ao,ai,aa];rw[F];simp only[aa];rw[Ag (vs:=ps.filter λv=>v.log2 == t) A (UX (μ0 _ _) L)]
  rfl)
 rw[YQ]at u;let I:ax:=j++[O.lst ((l.filter Q).map nD)]
 have hG3:j[G]?=some (O.lst (cs.map nD)):=aH aC;have ql:(l.filter Q).length<=100000:=UX (μ0 _ _) 0e0;let r:=cs++l.filter Q
 let M:ax:=(B++g)++[O.lst (r.map nD)]++[O.lst (l.map nD)]++[O.lst ((l.filter Q).map nD)]
 have D:iF (.obj G) (.obj j.length) I=.ok (.obj G) M:=by
  rw[AG (xs:=cs.map nD) (ys:=(l.filter Q).map nD) (aH hG3) aC (by rw[Wb,Wb];lia)];rw[<- WT];congr 1;show ((B++g)++[O.lst (cs.map nD)]++[O.lst (l.map nD)]++[O.lst ((l.filter Q).map nD)]).set G _=_;simp only[W4];rw[<- W4 B g,List.set_append_right _ _ (Vn _),W3];simp[M,r]
 have hG5:M[G]?=some (O.lst (r.map nD)):=aH (aH aC);have grl:r.length<=200000:=by rw[V6];lia
 have hS5:NL S sb (CV (rs.map λp=>(p.1,lZ p.2))) M:=by
  show NL S sb _ ((B++g)++[O.lst (r.map nD)]++[O.lst (l.map nD)]++[O.lst ((l.filter Q).map nD)]);exact hS.app.app.app.app
 obtain⟨z,w⟩:=qo (U:=Nat) (en:=nD) (src:=.own G (r.map nD)) (g:=ag 0) (t:=dY) (e:=ir) (M0:=M) (q:=λc=>(rs.filter λp=>lZ p.2 == t).all λp=>p.2.any (jZ c)) (h:=nD) (λf=>∃o,f=[o,some (.obj S),some (.int (t:Int))]) (λ_ _=>aH hG5) (us:=r) (acc:=[]) (ρ:=[none,some (.obj S),some (.int (t:Int))]) (s:=[]) ⟨none,rfl⟩ (by simp only[WI];exact UX (show 0+r.length<=200000 by lia) 1e0) (λx X a s f hR=>by
  obtain⟨o,rfl⟩:=hR;obtain⟨V,J⟩:=JT (a:=a) (s:=s) (c:=x) hS5 (λp P=>⟨aH (aH (aH (aH (y p P).1))),(y p P).2⟩) m μ i
  exact⟨[some (nD x),some (.obj S),some (.int (t:Int))],V,⟨_,rfl⟩,rfl,J,λ_=>rfl⟩)
 rw[YQ]at w
 have eM:M++O.lst ((OU ps rs t cs).map nD)::z=B++(g++[O.lst (r.map nD)]++[O.lst (l.map nD)]++[O.lst ((l.filter Q).map nD)]++O.lst ((OU ps rs t cs).map nD)::z):=by
  simp[M]
 refine⟨_,4e8,some (.obj G),some (.obj d.length),?_,by rw[<- eM];exact aC,by simp[M]⟩;rw[<- eM]
 have T:∀(R:Ro)(N:ax),R[2]?=some (some (.tup []))->R[8]?=some (some (.int (t:Int)))->e0 (ay (eJ .GtE) (ah 8) (au gE 4e1)) R N=.ok true N:=λR N W e8=>by
  simp_all[ah,cmpI]
 unfold dZ;rw[aG,aM,mi];simp only[ae,bj,az,YY,YZ];rw[aG,bF,lM,T _ _ rfl rfl];simp only[aa,VP,ae];unfold rC;simp only[ao,ai,aa,ae];rw[show iF (.obj (B++g).length) (.obj H) (B++g++[O.lst []])=_ from Z];simp only[ae,bj,az,YY,YZ];rw[aG,bF,lM,T _ _ rfl rfl];simp only[aa,VP,ae];rw[aG,aM,aZ];simp only[bh,ao,ai,aa];rw[bS hH2,aa,cn];rw[show compLoop (.own H (cs.map nD)) (B++g++[O.lst (cs.map nD)]).length (ag 0) aV fG (cs.map nD) (cJ [none,some 8] (OM r0 r1 r3 r4 C S H t (some (.obj (B++g).length)) o10)) (B++g++[O.lst (cs.map nD)]++[O.lst []])=_ from c1];simp only[ae,bj,az,YY,YZ,ao,ai];rw[aZ];simp only[bh,ao,ai,aa];rw[bS hL3,aa,cn];rw[show compLoop (.own d.length (l.map nD)) (d++[O.lst (l.map nD)]).length (ag 0) fy iw (l.map nD) (cJ [none,some 5,some 8] (OM r0 r1 r3 r4 C S H t (some (.obj G)) (some (.obj d.length)))) (d++[O.lst (l.map nD)]++[O.lst []])=_ from u];simp only[ae];rw[D];simp only[ae,bj,az,YY,YZ];rw[aM,aZ];simp only[bh,ao,ai,aa];rw[bS hG5,aa,cn];rw[show compLoop (.own G (r.map nD)) 4e8 (ag 0) dY ir (r.map nD) (cJ [none,some 6,some 8] (OM r0 r1 r3 r4 C S H t (some (.obj G)) (some (.obj d.length)))) (M++[O.lst []])=_ from w];rfl
end
end Lw
namespace Lv
theorem NI(n:Nat)(acc:List Nat):Uc n acc=n::acc:=by cases n <;> rfl
theorem wt(x i j:Nat):Nat.beq (Nat.land x (2^i ||| 2^j)) (2^i ||| 2^j)=(x.testBit i&&x.testBit j):=by
 rw[YO,Nat.beq_eq,Yl];constructor
 ·intro h;have g:∀k,(x &&& (2^i ||| 2^j)).testBit k=(2^i ||| 2^j).testBit k:=λk=>VA (·.testBit k) h;have G:=g i;have v:=g j
  grind
 ·intro ⟨H, c⟩;refine μ7 λk=>?_;show (x &&& (2^i ||| 2^j)).testBit k=_
  grind
theorem Au(x i:Nat):Nat.beq (Nat.land x (2^i)) (2^i)=x.testBit i:=by
 have h:=wt x i i
 simp_all
theorem RE(x:Nat)(ps:List (Nat×Nat)):Gh x (ps.map λp=>2^p.1 ||| 2^p.2)=ps.any λp=>x.testBit p.1&&x.testBit p.2:=by
 induction ps with
 |nil=>rfl
 |cons p r i=>
  show @Bool.rec (λ_=>Bool) (Gh x (r.map _)) true (Nat.beq (Nat.land x (2^p.1 ||| 2^p.2)) (2^p.1 ||| 2^p.2))=_;rw[wt,i,List.any_cons];cases x.testBit p.1&&x.testBit p.2 <;> rfl
theorem DS(x:Nat)(t:Nat×List (Nat×Nat)):Gh x (2^t.1::t.2.map λp=>2^p.1 ||| 2^p.2)=CU x t:=by
 show @Bool.rec (λ_=>Bool) (Gh x (t.2.map _)) true (Nat.beq (Nat.land x (2^t.1)) (2^t.1))=_;rw[Au,RE];unfold CU;cases x.testBit t.1 <;> rfl
theorem DO(x:Nat):OT x A4=sz x:=by
 rw[z9];unfold sz;generalize tab=l
 induction l with
 |nil=>rfl
 |cons t r i=>
  rw[List.countP_cons,<- i,<- DS x t];show @Bool.rec (λ_=>Nat) (OT x (r.map _)) (Nat.succ (OT x (r.map _))) (Gh x _)=_;cases Gh x (2^t.1::t.2.map λp=>2^p.1 ||| 2^p.2) <;> rfl
theorem F4(x:Nat):DA x A4 0=yo x:=by
 rw[z9];unfold yo;generalize 0=s;generalize tab=l
 induction l generalizing s with
 |nil=>rfl
 |cons t r i=>
  rw[W5,<- i,<- DS x t];show DA x (r.map _) (Nat.add (Nat.mul 2 s) (@Bool.rec (λ_=>Nat) 0 1 (Gh x _)))=_;cases Gh x (2^t.1::t.2.map λp=>2^p.1 ||| 2^p.2) <;> rfl
theorem uY:∀(i x:Nat)(acc:List Nat),Ba i x (acc.map yo)=(zH i x acc).map yo
 |0,x,acc=>by
  unfold Ba zH;rw[NI,DO,F4];cases Nat.ble (sz x) 9 <;> rfl
 |i+1,x,acc=>by
  unfold Ba zH;rw[DO,show Nat.add x (Nat.pow 2 i)=x+2^i from rfl,uY i (x+2^i) acc,uY i x];cases Nat.ble (sz x) 9 <;> rfl
theorem D8(x n:Nat):Nat.beq (Nat.land x (2^n)) 0=!x.testBit n:=by
 cases h:x.testBit n with
 |true=>
  grind [Au,Nat.eq_of_beq_eq_true]
 |false=>
  have e:Nat.land x (2^n)=0:=μ7 λk=>by
   show (x &&& 2^n).testBit k=_
   grind
  rw[e];rfl
theorem Oa(n:Nat)(l:List Nat):OI (2^n) l=l.filter (λx=>x.testBit n == true)/\OY (2^n) l=l.filter (λx=>x.testBit n == false):=by
 induction l with
 |nil=>exact⟨rfl,rfl⟩
 |cons x r i=>
  rw[Yn,Yn,<- i.1,<- i.2];refine⟨?_,?_⟩
  ·show @Bool.rec (λ_=>List Nat) (x::OI (2^n) r) (OI (2^n) r) (Nat.beq (Nat.land x (2^n)) 0)=_;rw[D8];cases x.testBit n <;> rfl
  ·show @Bool.rec (λ_=>List Nat) (OY (2^n) r) (x::OY (2^n) r) (Nat.beq (Nat.land x (2^n)) 0)=_;rw[D8];cases x.testBit n <;> rfl
theorem yH:∀(n:Nat)(l:List Nat),vM n l=true->∀v:Nat,(l.filter λx=>(List.range n).all λi=>x.testBit i == v.testBit i).length<=63
 |0,l,h,v=>UX (μ0 _ _) (Nat.le_of_ble_eq_true h)
 |n+1,l,h,v=>by
  unfold vM at h;cases B:Nat.ble l.length 63 with
  |true=>exact UX (μ0 _ _) (Nat.le_of_ble_eq_true B)
  |false=>
   rw[B]at h;have f:=Oa n l
   have H:vM n (OI (2^n) l)=true/\vM n (OY (2^n) l)=true:=by
    revert h;cases vM n (OI (2^n) l) with
    |true=>simp
    |false=>lia
   rw[f.1,f.2]at H
   have key:∀b:Bool,v.testBit n=b->(l.filter λx=>(List.range (n+1)).all λi=>x.testBit i == v.testBit i)=((l.filter λx=>x.testBit n == b).filter λx=>(List.range n).all λi=>x.testBit i == v.testBit i):=λb e=>by
    rw[YK];simp[e]
   cases V:v.testBit n with
   |true=>rw[key true V];exact yH n _ H.1 v
   |false=>rw[key false V];exact yH n _ H.2 v
theorem F5(v:Nat):((zH 15 0 []).filter λx=>decide (yo x=v)).length<=63:=by
 have h:=yH 15 _ Om v;have e:=uY 15 0 [];rw[VW]at e;rw[e,YJ,Wb]at h;refine UX ?_ h;rw[<- Zf,<- Zf];refine List.countP_mono_left λx _ d=>?_
 simp_all
theorem Hh{x y:Nat}(h:∀b,x.testBit b=true->y.testBit b=true):sz x<=sz y:=by
 refine List.countP_mono_left λt _ J=>?_;unfold CU at J⊢;rw[Ym]at J⊢
 grind
theorem He(y i b:Nat)(h:((y >>> i) <<< i).testBit b=true):y.testBit b=true:=by
 rw[Nat.testBit_shiftLeft,Nat.testBit_shiftRight,Yl]at h;rw[show i+(b-i)=b from by lia]at h;exact h.2
theorem EB(y i:Nat):(y >>> i) <<< i=(y >>> (i+1)) <<< (i+1)+(if y.testBit i=true then 2^i else 0):=by
 rw[Nat.shiftLeft_eq,Nat.shiftLeft_eq,Zg,Zg,Nat.pow_succ,<- Nat.div_div_eq_div_mul,Za];generalize y / 2^i=z;by_cases h:z%2=1
 ·rw [Xu h, Vs rfl, show z / 2 * (2 ^ i * 2) = (2 * (z / 2)) * 2 ^ i from by grind, show 2 * (z / 2) * 2 ^ i + 2 ^ i = (2 * (z / 2) + 1) * 2 ^ i from by rw [Nat.add_mul, Nat.one_mul]];congr 1
  lia
 ·rw [UQ h, show z / 2 * (2 ^ i * 2) = (2 * (z / 2)) * 2 ^ i from by grind];congr 1
  lia
theorem uX:∀(i x:Nat)(acc:List Nat)(y:Nat),y∈acc->y∈zH i x acc
 |0,x,acc,y,h=>by
  unfold zH;split
  ·exact U1 _ h
  ·exact h
 |i+1,x,acc,y,h=>by
  unfold zH;split
  ·exact uX i x _ y (uX i _ acc y h)
  ·exact h
theorem uW{y:Nat}(μ:sz y<=9):∀(i:Nat)(acc:List Nat),y∈zH i ((y >>> i) <<< i) acc
 |0,acc=>by
  unfold zH;rw[Nat.shiftRight_zero,Nat.shiftLeft_zero,Vs (Nat.ble_eq_true_of_le μ)];simp
 |i+1,acc=>by
  unfold zH;rw[Vs (Nat.ble_eq_true_of_le (UX (Hh λb B=>He y (i+1) b B) μ))];have s:=EB y i;by_cases h:y.testBit i=true
  ·rw[Vs h]at s;rw[<- s];exact uX i _ _ y (uW μ i acc)
  ·rw[Vt h,Nat.add_zero]at s;rw[<- s];exact uW μ i _
theorem JQ{y:Nat}(μ:sz y<=9)(h:y<2^15):y∈zH 15 0 []:=by
 have:=uW μ 15 []
 simp_all[Zg,Nat.div_eq_of_lt]
noncomputable def KQ(k:List Int):Nat:=vy (rx k).toNat (ee k).toNat
noncomputable def vz:Nat->List 4e2->Nat->Nat
 |_,[],_=>0
 |i,k::ks,c=>(if c.testBit i=true then 2^KQ k else 0) ||| vz (i+1) ks c
theorem uk:∀(ks:0e1)(j c r:Nat),(vz j ks c).testBit r=true↔∃i k,ks[i]?=some k/\c.testBit (j+i)=true/\KQ k=r
 |[],j,c,r=>by simp[vz]
 |k::ks,j,c,r=>by
  unfold vz;rw[Nat.testBit_or,Ym,uk ks (j+1) c r];constructor
  ·rintro (h | ⟨i, K, a, H, d⟩)
   ·split at h
    ·rename_i e;rw[μ8,YS]at h;exact⟨0,k,rfl,e,h⟩
    ·simp at h
   ·exact⟨i+1,K,a,by rw[show j+(i+1)=j+1+i from by lia];exact H,d⟩
  ·rintro ⟨i, K, a, H, d⟩
   cases i with
   |zero=>
    cases a;rw[Nat.add_zero]at H;refine .inl ?_;rw[Vs H,μ8];exact Xu d
   |succ i=>exact .inr ⟨i,K,a,by rw[show j+1+i=j+(i+1) from by lia];exact H,d⟩
theorem Mz:∀b<6,∀a<b,vy a b<15:=by decide
theorem Fh:∀b<6,∀a<b,∀d<6,∀c<d,(vy a b != vy c d || (a == c&&b == d))=true:=by decide
theorem Ar(b:Nat)(B:b<6)(a:Nat)(n:a<b)(d:Nat)(D:d<6)(c:Nat)(j:c<d)(e:vy a b=vy c d):a=c/\b=d:=by
 have:=Fh b B a n d D c j;rw[e]at this;simpa using this
theorem wZ(a b:Nat)(h:a≠b):vy a b=vy b a:=by
 unfold vy
 grind
theorem Ff{p:Nat×Nat}:p∈yj↔p.1<p.2/\p.2<6:=by
 unfold yj;rw[YH];constructor
 ·grind
 ·rintro ⟨H, c⟩
  exact⟨p.2,WN.mpr c,WM.mpr ⟨p.1,WN.mpr H,rfl⟩⟩
section
variable(hk:∀k∈ks,Sa k)
include hk
theorem Ld(c:Nat):vz 0 ks c<2^15:=by
 apply Nat.lt_pow_two_of_testBit;intro r R;cases h:(vz 0 ks c).testBit r with
 |false=>rfl
 |true=>
  refine aP ((uk ks 0 c r).mp h) λi k H d v=>?_;subst v;refine aF (gG hk H) λa b V f g j=>?_;subst V;have:=Mz b.toNat 0e0 a.toNat 0e0;have e:KQ [a,b]=vy a.toNat b.toNat:=rfl
  lia
theorem m4{a b:Nat}(n:a<6)(g:b<6)(N:a≠b):(vz 0 ks c).testBit (vy a b)=true↔∃i,Jn ks i a b/\c.testBit i=true:=by
 rw[uk];constructor
 ·rintro ⟨i, k, d, H, f⟩
  rw[W6]at H;refine⟨i,?_,H⟩;refine aF (gG hk d) λp q v j o r=>?_;subst v;have e:=f;by_cases l:a<b
  ·obtain⟨E,B⟩:=Ar q.toNat 0e0 p.toNat 0e0 b g a l e;refine .inl ?_;rw[d,show (a:Int)=p from by lia,show (b:Int)=q from by lia]
  ·rw[wZ a b N]at e;obtain⟨E,B⟩:=Ar q.toNat 0e0 p.toNat 0e0 a n b 0e0 e;refine .inr ?_;rw[d,show (b:Int)=p from by lia,show (a:Int)=q from by lia]
 ·rintro ⟨i, h | h, H⟩
  ·exact⟨i,_,h,by lia,by rfl⟩
  ·refine ⟨i, _, h, by rw [W6]; exact H, ?_⟩;show vy ((b:Int)).toNat ((a:Int)).toNat=_
   simp_all[wZ,U3]
theorem LR{a b:Nat}(l:a<b)(B:b<6):CU (vz 0 ks c) (R7 (a,b))=true↔(∃i,Jn ks i a b/\c.testBit i=true)\/∃d:Int,(∃i,Jn ks i a d/\c.testBit i=true)/\∃j,Jn ks j d b/\c.testBit j=true:=by
 simp only[CU,R7];rw[Ym,m4 hk 0e0 B 0e0,YR];refine or_congr Iff.rfl ?_;constructor
 ·rintro ⟨p, P, e⟩
  obtain⟨d,D,rfl⟩:=WM.mp P;rw[UW,WN]at D;obtain⟨H,D⟩:=D;simp at D;rw[Yl]at e;exact⟨d,(m4 hk 0e0 H (λz=>D.1 z.symm)).mp e.1,(m4 hk H B D.2).mp e.2⟩
 ·rintro ⟨d, ⟨i, I, C⟩, ⟨j, Z, J⟩⟩
  have N:=zM hk Z
  have rng:0<=d/\d<6:=by
   rcases I with h|h
   ·obtain⟨p,q,e,f,g,k⟩:=gG hk h;cases e;lia
   ·obtain⟨p,q,e,f,g,k⟩:=gG hk h;cases e;lia
  obtain⟨n,rfl⟩:=Int.eq_ofNat_of_zero_le rng.1;have R:a≠n:=λz=>(zM hk I) (by rw[z]);refine⟨(vy a n,vy n b),WM.mpr ⟨n,?_,rfl⟩,?_⟩
  ·grind
  ·rw[Yl];exact⟨(m4 hk 0e0 0e0 R).mpr ⟨i,I,C⟩,(m4 hk 0e0 B (λz=>N (by rw[z]))).mpr ⟨j,Z,J⟩⟩
theorem Dw(P:p∈rg m)(h:p<q):(∃v,([p,q],v)∈EV m ks/\jZ c v=true)↔(∃i,Jn ks i p q/\c.testBit i=true)\/∃d:Int,(∃i,Jn ks i p d/\c.testBit i=true)/\∃j,Jn ks j d q/\c.testBit j=true:=by
 constructor
 ·rintro ⟨v, V, I⟩
  refine aF ((jw hk).mp V) λf Q _ _ e a=>?_;obtain⟨i,Z,rfl⟩|⟨b,i,j,Z,H,rfl⟩:=a
  ·cases e;exact .inl ⟨i,Z,nc.mp (sm.mp I).2⟩
  ·cases e;have:=sm.mp I;exact .inr ⟨b,⟨i,Z,nc.mp (sm.mp this.1).2⟩,j,H,nc.mp this.2⟩
 ·rintro (⟨i, Z, C⟩ | ⟨d, ⟨i, Z, C⟩, ⟨j, H, J⟩⟩)
  ·exact⟨_,(jw hk).mpr ⟨p,q,P,h,rfl,.inl ⟨i,Z,rfl⟩⟩,sm.mpr ⟨AE,nc.mpr C⟩⟩
  ·exact⟨_,(jw hk).mpr ⟨p,q,P,h,rfl,.inr ⟨d,i,j,Z,H,rfl⟩⟩,sm.mpr ⟨sm.mpr ⟨AE,nc.mpr C⟩,nc.mpr J⟩⟩
theorem Hd{vs:List Nat}(H:vs≠[])(h:∀v∈vs,0<v/\v<2^n):lZ vs<n:=by
 have key:∀(vs:List Nat)(x:Nat),x<2^n->(∀v∈vs,v<2^n)->vs.foldl max x<2^n:=by
  intro vs
  induction vs with
  |nil=>intro x d _;exact d
  |cons v r i=>intro x d V;exact i (max x v) (Nat.max_lt.mpr ⟨d,V v 1e1⟩) λw W=>V w (by simp[W])
 have g:∀(vs:List Nat)(x:Nat),x<=vs.foldl max x:=by
  intro vs
  induction vs with
  |nil=>simp
  |cons v r i=>intro x;exact UX (Ze _ _) (i (max x v))
 have t:=key vs 0 (μ5 n) λv V=>(h v V).2;cases vs with
 |nil=>exact absurd rfl H
 |cons v r=>
  have f:0<(v::r).foldl max 0:=UT (h v 1e1).1 (UX (Zd 0 v) (g r (max 0 v)));exact(μ9 0e0).mpr t
theorem JS(M:∀k∈ks,∀x∈k,x∈rg m)(S:ks.Nodup)(h9:ks.length<=9):(kD ks (EV m ks) ks.length).length<=63:=by
 have R:∀e∈EV m ks,0<e.2:=λe N=>(zQ hk N).1
 have μ:∀k∈ks,lZ (jY (EV m ks) k)<ks.length:=λk f=>by
  refine aF (hk k f) λa b F o q w=>?_;subst F;obtain⟨i,H,e⟩:=XX f;refine Hd hk ?_ λv V=>zQ hk (dG.mp V);have this:=dG.mpr ((jw hk).mpr ⟨a,b,M _ f a 1e1,q,rfl,.inl ⟨i,.inl (by rw[<- e];exact Xx H),rfl⟩⟩)
  grind
 have sq:∀c∈kD ks (EV m ks) ks.length,∀p∈yj,CU (vz 0 ks c) (R7 p)=decide ([(p.1:Int),(p.2:Int)]∈ks):=λc C p P=>by
  obtain⟨a,b⟩:=p;obtain⟨l,g⟩:=Ff.mp P;obtain⟨A,B⟩:=kR R ks.length c C;apply YO.mpr;rw[LR hk l g,YS];constructor
  ·intro h;apply Decidable.byContradiction;intro O
   have u:(a:Int)∈rg m:=by
    have D:∀i d,Jn ks i (a:Int) d->(a:Int)∈rg m:=λi d Z=>by
     rcases Z with z|z
     ·exact M _ (VH z) _ 1e1
     ·exact M _ (VH z) _ 1e1
    rcases h with⟨i,Z,_⟩|⟨d,⟨i,Z,_⟩,_⟩
    ·exact D i _ Z
    ·exact D i _ Z
   obtain⟨v,V,H⟩:=(Dw hk u 0e0).mpr h;have:=A _ V O (zQ hk V).2;rw[this]at H;cases H
  ·intro h;refine bz (B _ h (μ _ h)) λv V H=>?_;exact(Dw hk (M _ h _ 1e1) 0e0).mp ⟨v,dG.mp V,H⟩
 let G:List Bool:=yj.map λp=>decide ([(p.1:Int),(p.2:Int)]∈ks)
 have U:∀c∈kD ks (EV m ks) ks.length,tab.map (CU (vz 0 ks c))=G:=λc C=>by
  rw[Lx];exact WG λp P=>sq c C p P
 have W:∀x,yo x=(tab.map (CU x)).foldl (λs b=>2*s+b.toNat) 0:=λx=>by rw[List.foldl_map];rfl
 have szl:∀c∈kD ks (EV m ks) ks.length,sz (vz 0 ks c)<=9:=λc C=>by
  have e:sz (vz 0 ks c)=(tab.map (CU (vz 0 ks c))).countP id:=by rw[List.countP_map];rfl
  rw[e,U c C,List.countP_map,Zf]
  have n:((yj.filter (id ∘ λp=>decide ([(p.1:Int),(p.2:Int)]∈ks))).map λp=>[(p.1:Int),(p.2:Int)]).Nodup:=by
   refine Xd _ (λx y h=>?_) (YI _ (show yj.Nodup by decide));intro z;apply h;simp[YW,Int.natCast_inj,and_true]at z;exact UP z.1 z.2
  have:=n.length_le_of_subset λk f=>by
   obtain⟨p,P,rfl⟩:=WM.mp f;exact YD (UW.mp P).2
  rw[Wb]at this
  lia
 have inj:∀c∈kD ks (EV m ks) ks.length,∀d∈kD ks (EV m ks) ks.length,vz 0 ks c=vz 0 ks d->c=d:=λc C d D e=>by
  have lc:=fP _ c C;have ld:=fP _ d D
  have one:∀(c:Nat)(i:Nat)(H:i<ks.length)(a b:Nat),ks[i]=[(a:Int),(b:Int)]->a<b->b<6->((vz 0 ks c).testBit (vy a b)=true↔c.testBit i=true):=λc i H a b K l g=>by
   rw[m4 hk 0e0 g 0e0];constructor
   ·rintro ⟨j, Z, J⟩
    have:ks[j]?=some [(a:Int),(b:Int)]:=by
     rcases Z with z|z
     ·exact z
     ·refine aF (gG hk z) λx y e h4 h5 h6 => ?_;cases e
      lia
    obtain⟨Q,t⟩:=VY.mp this;have this:=(U6 S).mp (t.trans K.symm);rw[<- this];exact J
   ·intro h;exact⟨i,.inl (by rw[<- K];exact Xx H),h⟩
  apply μ7;intro i;by_cases H:i<ks.length
  ·refine aF (hk ks[i] (Yt H)) λa b K o q w => ?_;have E:ks[i]=[((a.toNat:Nat):Int),((b.toNat:Nat):Int)]:=by rw[K,YG o,YG 0e0]
   have r:=one c i H a.toNat b.toNat E 0e0 0e0;have T:=one d i H a.toNat b.toNat E 0e0 0e0;rw[e]at r;exact YO.mpr (r.symm.trans T)
  grind [Nat.testBit_lt_two_pow,Nat.lt_of_lt_of_le,Nat.pow_le_pow_right]
 have n:((kD ks (EV m ks) ks.length).map (vz 0 ks)).Nodup:=by
  rw[List.Nodup,Yg];refine(pM ks.length).imp_of_mem λI L h z=>?_;have:=inj _ I _ L z
  lia
 have:=n.length_le_of_subset (l₂:=(zH 15 0 []).filter λx=>decide (yo x=G.foldl (λs b=>2*s+b.toNat) 0)) λx X=>by
  obtain⟨c,C,rfl⟩:=WM.mp X
  grind [JQ,Ld]
 rw[Wb]at this;exact UX this (F5 _)
end
end Lv
namespace Lw
open PySem L2 RS Lv
section
variable{F:Nat}{es:List Wy}
theorem jv(h:GW m ks):∀k∈ks,Sa k:=λk d=>by
 refine aF (h.2.2.2.2 k d) λa b v H c e=>?_;subst v;have:=h.m6;exact⟨a,b,rfl,H,c,by lia⟩
theorem zO(h:GW m ks):∀k∈ks,∀x∈k,x∈rg m:=λk H x d=>by
 refine aF (h.2.2.2.2 k H) λa b v c e f=>?_;subst v;rw[eh];simp[U2,WA,WB]at d;rcases d with rfl|rfl <;> lia
theorem xo(h:GW m ks):ks.Nodup:=h.2.2.2.1.imp λh e=>by subst e;lia
theorem Ob(h:GW m ks):(EV m ks).length<=1500:=by
 have i:=bw h;have G:=kG ks (W0 m);rw[(show (W0 m).length=m by unfold W0;rw[Wb,lI])]at G;have m6:=μ4 h.m6 i;have v:=kG ks (lY ks (W0 m));have a:(lY ks (W0 m)).length*ks.length<=90*15:=μ4 0e0 i;unfold EV rp
 grind
theorem ui(h:GW m ks):∀e∈EV m ks,e.1∈prs/\0<e.2/\e.2<2^ks.length:=λe n=>by
 refine⟨?_,zQ (jv h) n⟩;refine aF ((jw (jv h)).mp n) λp q P t E Z=>?_;rw[E]
 have Q:q<6:=by
  have lt:∀i d,Jn ks i d q->q<6:=λi d Z=>by
   rcases Z with z|z
   ·obtain⟨x,y,e,H,f,a⟩:=gG (jv h) z;cases e;lia
   ·obtain⟨x,y,e,H,f,a⟩:=gG (jv h) z;cases e;lia
  grind
 have:=(eh.mp P);exact gv.prs ⟨p,q,rfl,this.1,t,Q⟩ 1e0
theorem yC(h:GW m ks)(d:k∈ks):jY (EV m ks) k≠[]:=by
 refine aF (h.2.2.2.2 k d) λa b V f c g=>?_;subst V;obtain⟨i,H,e⟩:=XX d;have this:=dG.mpr ((jw (jv h)).mpr ⟨a,b,zO h _ d a 1e1,c,rfl,.inl ⟨i,.inl (by rw[<- e];exact Xx H),rfl⟩⟩)
 grind
theorem Ax:∀k,(jY es k).length<=es.length:=λk=>by
 grind [jY]
theorem z6:∀kvs:List (List Int×Nat),(vA ks es kvs).length<=kvs.length*es.length
 |[]=>by simp[vA]
 |p::r=>by
  have i:=z6 r;have:=Ax (es:=es) p.1;unfold vA at i⊢;rw[YM,V6,Wd];split
  ·rw[WI];lia
  ·lia
theorem z5(hD:(DR F es kvs ep M)){v:Nat}:v∈vA ks es kvs↔∃k,k∉ks/\(k,v)∈es:=by
 unfold vA;rw[YH];constructor
 ·rintro ⟨p, d, V⟩
  split at V
  ·cases V
  ·rename_i n;exact⟨p.1,n,dG.mp V⟩
 ·rintro ⟨k, n, V⟩
  obtain⟨p,d,rfl⟩:=WM.mp ((hD.key k).mpr ⟨v,V⟩);exact⟨p,d,by rw[Vt n];exact dG.mpr V⟩
noncomputable def Gs(kvs:(List (List Int×Nat)))(k:List Int):Nat:=(Gw kvs k).getD 0
theorem Mm(hD:(DR F es kvs ep M))(t:Nat)(s:List Nat):OU (vA ks es kvs) (ks.map λk=>(Gs kvs k,jY es k)) t s=C5 ks es t s:=by
 unfold OU C5
 have d:∀c,((vA ks es kvs).filter λv=>v.log2 == t).any (jZ c)=OL ks es t c:=λc=>by
  unfold OL;apply YO.mpr;rw[YR,YR];constructor
  ·grind [z5]
  ·rintro ⟨e, n, h⟩
   grind [z5]
 have B:∀c,(((ks.map λk=>(Gs kvs k,jY es k)).filter λp=>lZ p.2 == t).all λp=>p.2.any (jZ c))=stB ks es t c:=λc=>by
  unfold stB;apply YO.mpr;simp
 simp[d,B]
theorem tu(t:Nat)(J:t<=15):(kD ks es t).length<=100000:=by
 have:=(show (kD ks es t).Nodup from (pM t).imp λh=>by lia).length_le_of_subset λc j=>WN.mpr (fP t c j);rw[WH]at this;have p:2^t<=2^15:=Zb 1e0 J
 lia
theorem AV{C S n:Nat}{cb sb:List Nat}{B:ax}{r0 r1 r3 r4:Option D}{all:List D}{N:ax}(hD:DR F es kvs ep N)(hC:NL C cb (AZ (vA ks es kvs)) B)(f:cb.length=n)(hS:NL S sb (CV ((ks.map λk=>(Gs kvs k,jY es k)).map λp=>(p.1,lZ p.2))) B)(h:sb.length=n)
  (R:∀p∈ks.map (λk=>(Gs kvs k,jY es k)),B[p.1]?=some (.lst (p.2.map nD))/\p.2.length<=100000) (L:(vA ks es kvs).length<=100000) (G:ks.length<=15) (d:n<=15) :
  ∀(k t:Nat)(g:ax)(H:Nat)(o8 o9 o10:Option D),t+k=n->(B++g)[H]?=some (.lst ((kD ks es t).map nD))->B.length<=H ->
   ∃g' H' p8 p9 p10,c9 (.fix all) (ag 8) dZ (cc (t:Int) k) [r0,r1,some (.tup []),r3,r4,some (.obj C),some (.obj S),some (.obj H),o8,o9,o10] (B++g)=.next [r0,r1,some (.tup []),r3,r4,some (.obj C),some (.obj S),some (.obj H'),p8,p9,p10] (B++g')/\(B++g')[H']?=some (.lst ((kD ks es n).map nD))/\B.length<=H'
 |0,t,g,H,o8,o9,o10,J,hH,hB=>by
  refine⟨g,H,o8,o9,o10,?_,by rw[show n=t from by lia];exact hH,hB⟩;rw[g7];unfold c9;rw[Vs (show bA (.fix all) _ from trivial)]
 |k+1,t,g,H,o8,o9,o10,J,hH,hB=>by
  obtain⟨c,b,p9,p10,a,A,s⟩:=JU hC f hS h R L (by rw[Wb];lia) (show t<n by lia) 0e0 hH (tu t 0e0);rw[Mm hD]at A;obtain⟨g',H',q,Q,q10,b1,b2,b3⟩:=AV hD hC f hS h R L G d k (t+1) c b (some (.int (t:Int))) p9 p10 0e0 A s;refine⟨g',H',q,Q,q10,?_,b2,b3⟩;rw[fQ];unfold c9;rw[Vs (show bA (.fix all) _ from trivial),show ag 8 (.int (t:Int)) [r0,r1,some (.tup []),r3,r4,some (.obj C),some (.obj S),some (.obj H),o8,o9,o10] (B++g)=.ok (OM r0 r1 r3 r4 C S H t o9 o10) (B++g) from rfl,ae,a];exact b1
theorem zb(h:GW m ks):∃g r,gY [aE m ks,.int 2,.tup []] Y=.ok (.obj r) (Y++g)/\(Y++g)[r]?=some (.lst ((kD ks (EV m ks) ks.length).map nD))/\Y.length<=r:=by
 have i:=bw h;refine eC (Hr (Y:=Y) h) λkvs ep J W hD z T=>?_;obtain⟨G,rfl⟩:=z;have es:=ui h;have L:=Ob h;have K:=hD.len λe w=>(es e w).1
 have U:(vA ks (EV m ks) kvs).length<=100000:=by
  have:=z6 (ks:=ks) (es:=EV m ks) kvs;have p:=μ4 K L
  lia
 refine aF (EN (Y:=Y++G) h.2.2.2.2 i hD es U) λQ b A nC q gcb=>?_;have hD2:DR 5e8 (EV m ks) kvs ep (Y++G++b):=hD.app
 have at':∀k∈ks,(k,Gs kvs k)∈kvs:=λk H=>by
  obtain⟨c,C⟩:=Zh _ (yC h H);obtain⟨p,P,rfl⟩:=WM.mp ((hD.key k).mpr ⟨c,dG.mp C⟩);unfold Gs;rw[kL hD.kn P];exact P
 let d:ax:=Y++G++b
 let R:List (Nat×List Nat):=ks.map λk=>(Gs kvs k,jY (EV m ks) k)
 let j:ax:=d++[.lst (ks.map λk=>D.obj (Gs kvs k))]
 have c1:=bg (src:=.fix 0e3) (g:=ag 0) (t:=aV) (e:=fH) (Y1:=d) (λu=>∃o,u=[o,some 0e8]) (λ_=>trivial) (us:=ks) (acc:=[]) (ρ:=[none,some 0e8]) ⟨none,rfl⟩ (by simp;exact UX 0e0 bp) (λx X a u hR=>by
  obtain⟨o,rfl⟩:=hR;refine⟨[some (aj x),some 0e8],⟨_,rfl⟩,rfl,rfl,λ_=>?_⟩;unfold fH;simp[aK,ao,ai,aa];unfold t6 aj;dsimp only;rw[aH hD2.at',gy];dsimp only
  rw[kL hD.kn (at' x X)])
 rw[dA,YQ]at c1
 have hJ:j[d.length]?=some (.lst (R.map λp=>D.obj p.1)):=by
  rw[show j[d.length]?=_ from aC,WE];rfl
 obtain⟨Z,f,I,nS,s,gsb⟩:=y2 (Y:=j) hJ (λp P=>by
  obtain⟨k,H,rfl⟩:=WM.mp P
  exact⟨aH (hD2.val _ (at' k H)),yC h H,λv V=>(es _ (dG.mp V)).2⟩) (by rw[Wb]) i
 let B:ax:=j++f
 have y:∀p∈R,B[p.1]?=some (.lst (p.2.map nD))/\p.2.length<=100000:=λp P=>by
  obtain⟨k,H,rfl⟩:=WM.mp P;exact⟨aH (aH (hD2.val _ (at' k H))),UX (Ax k) 0e0⟩
 obtain⟨n,l,S,μ,p10,b1,b2,b3⟩:=AV (B:=B) hD nC.app.app q nS s y U i i ks.length 0 [.lst [nD 0]] B.length none none none 0e0 aC (Vn _);have eB:B++n=Y++(G++b++[.lst (ks.map λk=>D.obj (Gs kvs k))]++f++n):=by simp[B,j,d]
 have N:jK [some 3e5,some (.int 2),some (.tup []),none,none,none,none,none,none,none,none] Y=.ret (.obj l) (B++n):=by
  unfold jK;rw[aG,aM,aK];simp only[ai,bE,aa];rw[show cj 3e5 (.int 1) Y=.ok 3e7 Y from rfl];simp only[ae,bj,az,YY,YZ];rw[aG,aM];simp only[aA,ar,aB,ao,ai,aa,W,ae,bj,az,YY,YZ];rw[aG,aM];simp only[aA,ar,aB,ao,ai,aa,A,ae,bj,az,YY,YZ];rw[aG,aM,aA,ar,aZ];simp only[bh,ao,ai,aa,fm,aT];rw[show compLoop (.fix 0e3) (Y++G++b).length (ag 0) aV fH 0e3 (cJ [none,some 4] [some 3e5,some (.int 2),some (.tup []),some 3e7,some 0e8,some (.obj (Y++G).length),none,none,none,none,none]) (Y++G++b++[.lst []])=_ from c1];simp only[aB,aa];rw[I];simp only[ae,bj,az,YY,YZ];rw[aG,aM,j8];simp only[ar,aB,bE,aa];rw[Vs (show ([D.int 0]:List D).length<=sizeLine from l1)];simp only[ae,bj,az,YY,YZ];rw[aG,ij,cM];simp only[aA,ar,aB,ao,ai,aa,kH,Wb];rw[fq 0e0 0e0,ae,aT,XW];rw[show c9 (.fix (cc 0 ks.length)) (ag 8) dZ (cc 0 ks.length) [some 3e5,some (.int 2),some (.tup []),some 3e7,some 0e8,some (.obj (Y++G).length),some (.obj j.length),some (.obj (j++f).length),none,none,none] (j++f++[.lst [D.int 0]])=_ from b1,az,bG];simp only[ao,ai,ae]
 have E:Y.length<=l:=UX (by simp[B,j,d]) b3;refine⟨_,l,?_,by rw[<- eB];exact b2,E⟩
 simp_all[gY,jx,iD]
end
noncomputable def CN:Nat->List 4e2->List (Nat×List Int)
 |_,[]=>[]
 |i,k::ks=>(i,k)::CN (i+1) ks
noncomputable def Ud(p:Nat×List Int):D:=.tup [.int (p.1:Int),aj p.2]
theorem xn:∀(ks:0e1)(i:Nat),dw i 0e3=(CN i ks).map Ud
 |[],_=>rfl
 |k::ks,i=>by simp[VX,dw,CN,xn ks (i+1)];rfl
theorem uR:∀(ks:0e1)(i:Nat),(CN i ks).map (·.2)=ks:=by
 intro x;cases x <;> simp_all[CN,uR]
theorem Jx(ks:0e1)(i:Nat):(CN i ks).length=ks.length:=by
 have:=VA List.length (uR ks i)
 grind
noncomputable def fM(ks:0e1)(c:Nat):List 4e2:=((CN 0 ks).filter λp=>c.testBit p.1).map (·.2)
theorem Fi(ks:0e1)(c:Nat):(fM ks c).Sublist ks:=by
 have:=((List.filter_sublist (p:=λp:Nat×List Int=>c.testBit p.1) (l:=CN 0 ks)).map (·.2));rw[uR]at this;exact this
theorem oJ:∀(ks:0e1)(j:Nat)(p:Nat×List Int),p∈CN j ks↔∃i,ks[i]?=some p.2/\p.1=j+i
 |[],_,_=>by simp[CN]
 |k::ks,j,p=>by
  simp[CN,U2,oJ ks (j+1) p];constructor
  ·rintro (rfl | ⟨i, H, c⟩)
   ·exact⟨0,rfl,rfl⟩
   ·exact⟨i+1,H,by lia⟩
  ·rintro ⟨i, H, c⟩
   cases i with
   |zero=>
    left;cases H;exact UP c rfl
   |succ i=>exact .inr ⟨i,H,by lia⟩
section
theorem Fj(n:ks.Nodup){d:Nat}(C:c<2^ks.length)(D:d<2^ks.length)(e:fM ks c=fM ks d):c=d:=by
 have key:∀(c i:Nat)(H:i<ks.length),ks[i]∈fM ks c↔c.testBit i=true:=λc i H=>by
  unfold fM;rw[WM];constructor
  ·rintro ⟨p, P, e⟩
   rw[UW]at P;obtain⟨j,b,f⟩:=(oJ ks 0 p).mp P.1;obtain⟨Z,E⟩:=VY.mp b;have this:=(U6 n).mp (E.trans e);have:p.1=i:=by lia
   rw[<- this];exact P.2
  ·intro h;exact⟨(i,ks[i]),UW.mpr ⟨(oJ ks 0 _).mpr ⟨i,Xx H,by simp⟩,h⟩,rfl⟩
 apply μ7;intro i;by_cases H:i<ks.length
 ·have a:=key c i H;rw[e]at a;exact YO.mpr (a.symm.trans (key d i H))
 ·rw[Zc (UT C (Zb 1e0 0e0)),Zc (UT D (Zb 1e0 0e0))]
theorem Br(i:ks.length<=15):gp [.tup 0e3,nD c] M=.ok (.tup ((fM ks c).map aj)) M:=by
 simp only[gp,bB,show (some (D.tup 0e3)::some (nD c)::List.replicate (2-2) none:Ro)=[some 3e7,some (nD c)] from rfl,lu,bG,aA,ar,aZ,cM,aB,ai,aa,show iE [.tup 0e3] M=.ok (.fix (dw 0 0e3)) M from rfl,aT,xn]
 rw[bg (src:=.fix ((CN 0 ks).map Ud)) (Y1:=M) (q:=λp=>c.testBit p.1) (λe=>∃o b,e=[o,b,some (nD c)]) (λ_=>trivial) (ρ:=cJ [none,none,some 1] [some 3e7,some (nD c)]) ⟨none,none,rfl⟩ (by grind [Jx,bp]) (λp h a e hR=>by
  obtain⟨o,b,rfl⟩:=hR;refine⟨[some (.int (p.1:Int)),some (aj p.2),some (nD c)],⟨_,_,rfl⟩,rfl,?_,λ_=>rfl⟩;simp only[jU,fe,aK,ao,ai,bE,aa,show GH (nD c) (.int (p.1:Int)) (M++[O.lst a])=.ok (.int ((c:Int) / 2^((p.1:Int)).toNat)) (M++[O.lst a]) from ni 0e0,XW,show (c:Int) / 2^p.1=((c / 2^p.1:Nat):Int) from by push_cast;rfl,show Bb (.int ((c / 2^p.1:Nat):Int)) (.int 1) (M++[O.lst a])=.ok (.int (Builtin.bitAnd ((c / 2^p.1:Nat):Int) 1)) (M++[O.lst a]) from Dx,JZ,vF];congr 1;rw[Za]
  lia)]
 simp;rw[fj (xs:=(fM ks c).map aj) (by simp[fM])];exact cD (eo.mpr λx d=>by obtain⟨k,_,rfl⟩:=WM.mp d;exact D9)
end
section
theorem qj:∀{ks:0e1},(∀k∈ks,gv m k)->yi ks.flatten=ks.map aj/\bY ks.flatten=ks.map bK
 |[],_=>⟨rfl,rfl⟩
 |k::ks,h=>by
  refine bH (h k 1e1) λa b v _=>?_;subst v;obtain⟨y,r⟩:=qj (ks:=ks) λx d=>h x (by simp[d]);constructor
  ·show D.tup [.int a,.int b]::yi ks.flatten=_;rw[y];rfl
  ·show PyData.tuple [.int a,.int b]::bY ks.flatten=_;rw[r];rfl
theorem Ej(d:m<=6):∀{ks:0e1},(∀k∈ks,gv m k)->nV 0e3=some ks.flatten/\ks.flatten.length=2*ks.length
 |[],_=>⟨rfl,rfl⟩
 |k::ks,h=>by
  refine aF (h k 1e1) λa b V H c e=>?_;subst V;obtain⟨y,r⟩:=Ej d (ks:=ks) λx X=>h x (by simp[X]);constructor
  ·show nV (.tup [.int a,.int b]::ks.map aj)=_;unfold nV;rw[Vs ⟨H,by lia,by lia,by lia⟩,y];rfl
  ·rw [List.flatten_cons, V6, r];simp
   lia
theorem yq(h:GW m ks):J7 m ks.flatten=aE m ks:=by
 unfold J7;rw[(qj h.2.2.2.2).1]
theorem zX(h:GW m ks):om m ks=oZ m ks.flatten:=by
 unfold oZ om;rw[(qj h.2.2.2.2).2]
theorem zZ(h:GW m ks):C0 m 3e5=some ks.flatten:=by
 obtain⟨d,B⟩:=Ej h.m6 h.2.2.2.2;have:=bw h;unfold C0
 lia
theorem wj:∀{L:(List 0e1)},(∀l∈L,GW m l)->sg m (L.map (aE m))=some (L.map List.flatten):=by
 intro x;cases x <;> simp_all[sg,zZ,wj]
theorem G7{L:(List 0e1)}:l0 ((l::L).map (aE m))=none:=by
 rfl
theorem Ub(h:GW m ks):O2 ks.flatten:=(zY (zZ h)).2
theorem xr:∀{ks ks':0e1},(∀k∈ks,gv m k)->(∀k∈ks',gv m k)->ks.flatten=ks'.flatten->ks=ks'
 |[],[],_,_,_=>rfl
 |[],k::r,_,h,e=>by
  obtain⟨a,b,rfl,_⟩:=h k 1e1;simp at e
 |k::r,[],h,_,e=>by
  obtain⟨a,b,rfl,_⟩:=h k 1e1;simp at e
 |k::r,K::R,h,f,e=>by
  refine bH (h k 1e1) λa b V _=>?_;subst V;refine bH (f K 1e1) λc d v _=>?_;subst v;simp[List.flatten_cons,μ2,YW]at e;obtain⟨rfl,rfl,e⟩:=e;rw[xr (λx H=>h x (by simp[H])) (λx H=>f x (by simp[H])) e]
noncomputable def RL(m:Nat)(ks:0e1):List D:=(l4 oY (((kD ks (EV m ks) ks.length).map (fM ks)).map List.flatten)).map (J7 m)
theorem iJ(h:GW m ks)(c:Nat):GW m (fM ks c):=mB h (Fi ks c)
theorem Mn:(RL m ks).length=(kD ks (EV m ks) ks.length).length:=by
 unfold RL;rw[Wb,fT.length_eq,Wb,Wb]
theorem ue(h:GW m ks)(a:d∈RL m ks):∃l,GW m l/\d=aE m l:=by
 obtain⟨k,H,rfl⟩:=WM.mp a;have H:=fT.mem_iff.mp H
 grind [iJ,yq]
theorem Rq(h:GW m ks)(H:ks.length<=9):(((kD ks (EV m ks) ks.length).map (fM ks)).map List.flatten).Nodup/\(((kD ks (EV m ks) ks.length).map (fM ks)).map List.flatten).length<64:=by
 constructor
 ·rw [WE, List.Nodup, Yg];refine(pM ks.length).imp_of_mem λ{a b} n B t z=>?_;have:=Fj (xo h) (fP _ a n) (fP _ b B) (xr (iJ h a).2.2.2.2 (iJ h b).2.2.2.2 z)
  lia
 grind [JS,jv,zO,xo]
theorem Bs(h:GW m ks)(H:ks.length<=9)(hM:M[n]?=some (.lst (((kD ks (EV m ks) ks.length).map (fM ks)).map (aE m)))):bL [.obj n] M=.ok (.obj 4e8) (M++[.lst (RL m ks)]):=by
 obtain⟨f,O⟩:=Rq h H;unfold bL;dsimp only;rw[hM];dsimp only;unfold RL;cases j:kD ks (EV m ks) ks.length with
 |nil=>
  simp[l0,l4]
 |cons c s=>
  rw[VX,G7,show zN ((fM ks c::s.map (fM ks)).map (aE m))=(m:Int) from rfl]
  rw[wj (λl i=>by
   rw[<- VX]at i;obtain⟨x,_,rfl⟩:=WM.mp i
   exact iJ h x)]
  grind
theorem y4(h:GW m ks)(H:ks.length<=9):∃g r,jJ [aE m ks,.int 2] Y=.ok (.obj r) (Y++g)/\(Y++g)[r]?=some (.lst (RL m ks))/\Y.length<=r:=by
 refine aP (zb (Y:=Y) h) λg r R W w=>?_;let s:=kD ks (EV m ks) ks.length
 let b:ax:=Y++g
 have l:=tu (ks:=ks) (es:=EV m ks) ks.length 0e0
 have c1:=bg (src:=.own r (s.map nD)) (g:=ag 0) (t:=aV) (e:=g6) (Y1:=b) (λd=>∃o,d=[o,some (.int m),some 3e7]) (λ_=>aH W) (acc:=[]) (ρ:=[none,some (.int m),some 3e7]) ⟨none,rfl⟩ (by simp only[WI];exact UX (show 0+s.length<=100000 by lia) 1e0) (λc j a d hR=>by
  obtain⟨o,rfl⟩:=hR;refine⟨[some (nD c),some (.int m),some 3e7],⟨_,rfl⟩,rfl,rfl,λ_=>?_⟩;unfold g6;simp[dR,ar,aB,aA,ao,ai,aa];rw[Br 0e0]
  rfl)
 rw[dA,YQ]at c1
 have hM:(b++[.lst (s.map λc=>aE m (fM ks c))])[b.length]?=some (.lst ((s.map (fM ks)).map (aE m))):=by
  simp
 have S:=Bs h H hM;have eM:b++[O.lst (s.map λc=>aE m (fM ks c))]++[O.lst (RL m ks)]=Y++(g++[O.lst (s.map λc=>aE m (fM ks c))]++[O.lst (RL m ks)]):=by simp[b]
 refine⟨_,(b++[O.lst (s.map λc=>aE m (fM ks c))]).length,?_,by rw[<- eM];exact aC,by simp[b]⟩;rw[<- eM];unfold jJ;rw[bB,show (some 3e5::some (D.int 2)::List.replicate (4-2) none:Ro)=[some 3e5,some (.int 2),none,none] from rfl];unfold qW;rw[aG,aM,ai,ae];rw[show bc 2 (aD (ag 2) (aD (ag 3) (bf))) 3e5 [some 3e5,some (.int 2),none,none] Y=.ok [some 3e5,some (.int 2),some (.int m),some 3e7] Y from rfl];simp only[ae,az];rw[bG,aA,ar,aZ,bh,aA];simp only[ar,aB,dR,ao,ai,aa,WI];rw[Vs (Wo sizeLine)];simp only[aa];rw[R,aa,bS W,aa,cn];rw[show compLoop (.own r ((kD ks (EV m ks) ks.length).map nD)) (Y++g).length (ag 0) aV g6 ((kD ks (EV m ks) ks.length).map nD) (cJ [none,some 2,some 3] [some 3e5,some (.int 2),some (.int m),some 3e7]) (Y++g++[.lst []])=_ from c1];simp only[aa];rw[S];exact iD (by simp[b])
theorem y3(h:GW m ks)(H:ks.length<=9):∃g r,jI [aE m ks] Y=.ok (.obj r) (Y++g)/\(Y++g)[r]?=some (.lst (RL m ks))/\Y.length<=r:=by
 refine aP (y4 (Y:=Y) h H) λg r R W w=>?_;refine⟨g,r,?_,W,w⟩;unfold jI
 simp_all[dS,qV,iD]
theorem EM(h:GW m ks)(h12:ks.length<=12):gZ [aE m ks] M=.ok .non M:=by
 unfold gZ;rw[dS];unfold mT;rw[aG,aM,aA];simp;rw[show cmpI .Gt (ks.length:Int) 12=false from UQ 0e0];simp[aW]
noncomputable def Gj:List D->D
 |[]=>.non
 |x::_=>x
theorem wI(h:GW m ks)(j:ks.length<=9):fx [aE m ks] Y=.ok (Gj (RL m ks)) Y:=by
 refine aP (y3 (Y:=Y) h j) λg r w W o=>?_;unfold fx;rw[dS];unfold mR;simp[ar,aB,ai,aa,EM h 0e0];simp[w]
 rw[show pE [.obj r] (Y++g)=.ok (Gj (RL m ks)) (Y++g) from by
  unfold pE;dsimp only;rw[W];cases hR:RL m ks with
  |nil=>rfl
  |cons x l=>
   dsimp only;rw[Vs]
   ·rfl
   ·rw [Xg];intro y μ;have p:=pS (key:=oY) (ks:=((kD ks (EV m ks) ks.length).map (fM ks)).map List.flatten);unfold RL at hR;cases S:l4 oY (((kD ks (EV m ks) ks.length).map (fM ks)).map List.flatten) with
    |nil=>rw[S]at hR;cases hR
    |cons K R=>
     rw[S]at p hR
     have good:∀k∈K::R,∃l,GW m l/\k=l.flatten:=λk H=>by
      rw[<- S]at H;obtain⟨l,i,rfl⟩:=WM.mp (fT.mem_iff.mp H);obtain⟨c,_,rfl⟩:=WM.mp i;exact⟨_,iJ h c,rfl⟩
     obtain⟨X,i⟩:=WJ hR;rw[<- X,<- i,<- VX]at μ;obtain⟨k,H,rfl⟩:=WM.mp μ;refine bz (good k H) λl1 a b=>?_;refine bz (good K 1e1) λL G E=>?_
     have le:oY K<=oY k:=by
      rcases U2.mp H with rfl|H
      all_goals simp_all
     subst b E;rw[<- X,yq a,yq G];unfold KW;rw[oF a,oF G];dsimp only;rw[oG a,oG G,zX a,zX G,(nv m).lt _ _ (Ub a) (Ub G),show decide (oY l1.flatten<oY L.flatten)=false from UQ 0e0]
     simp]
 refine cD ?_;cases hR:RL m ks with
 |nil=>simp[Gj]
 |cons x l=>
  refine bz (ue h (d:=x) (by rw[hR];simp)) λn f e=>?_;rw[e];exact cZ f
end
theorem wM{M:ax}{t m:Nat}{xs:List D}(d:m<=6)(J:(M[t]?=some (.lst xs))):∀(rs:(List (Int×Int)))(acc:0e1)(o:Option D),(∀p∈rs,PP m p) ->
  ∃o',gL (.own t xs) 4e8 (ag 0) aV jG (rs.map dJ) [o] (M++[.set acc])=.ok [o'] (M++[.set ((rs.map mm).foldl lD acc)])
 |[],acc,o,_=>by
  refine⟨o,?_⟩;rw[VW];unfold gL;rw[Vs (show bA (.own t xs) (M++[.set acc]) from aH J)];rfl
 |p::rs,acc,o,h=>by
  obtain⟨o',e⟩:=wM d J rs (lD acc (mm p)) (some (dJ p)) λq z=>h q (U1 _ z);refine⟨o',?_⟩;have H:=(h p U0).ok.prs 0e0
  have f:jG 4e8 [some (dJ p)] (M++[.set acc])=.ok [some (dJ p)] (M++[.set (lD acc (mm p))]):=by
   unfold jG zR qQ dJ;simp[dR,ar,aB,aA,ai,aa,ak,Tp,Tr,Wd,WI,Vs l2];unfold GK;rw[aC];dsimp only;rw[Vs (show [min p.1 p.2,max p.1 p.2]∈prs from H)];simp only[aa];rw[show (M++[O.set acc]).set 4e8 (O.set (lD acc [min p.1 p.2,max p.1 p.2]))=M++[O.set (lD acc [min p.1 p.2,max p.1 p.2])] from pT];rfl
  rw[VX];unfold gL;rw[Vs (show bA (.own t xs) (M++[.set acc]) from aH J)];rw[show ag 0 (dJ p) [o] (M++[.set acc])=.ok [some (dJ p)] (M++[.set acc]) from rfl];simp only[ak,aa];rw[show aV [some (dJ p)] (M++[.set acc])=.ok true (M++[.set acc]) from rfl];simp only[ak,aa];rw[f];simp only[ak,aa];rw[e];rfl
theorem wF{t:Nat}{ps:(List (Int×Int))}(f:1<=m)(H:m<=6)(J:Y[t]?=some (.lst (ps.map dJ)))(c:∀p∈ps,PP m p):ji [.int m,.obj t] Y=.ok (aE m (cL (ps.map mm))) Y:=by
 have h:∀k∈ps.map mm,gv m k:=λk K=>by obtain⟨p,d,rfl⟩:=WM.mp K;exact(c p d).ok
 obtain⟨y,a,⟨R,o,U,E,B,N⟩,n⟩:=gS (src:=.eno t (ps.map dJ)) (g:=bc 2 (aD (ag 2) (aD (ag 3) (bf)))) (fb:=lT)
  (λs b M=>∃(R:List (Nat×(Int×Int)))(o U:Option D),s=R.map (λr=>D.tup [.int (r.1:Nat),dJ r.2])/\(M=Y/\∀r∈R,PP m r.2)/\b=[some (.int m),some (.obj t),o,U])
  (λb M hJJ => by
   refine cX hJJ λ_ _ _ _ e _=>?_
   rw[e.1];exact J)
  (λx s b M hJJ => by
   refine cX hJJ λR o U E B N=>?_;subst N;obtain⟨rfl,B⟩:=B;cases R with
   |nil=>cases E
   |cons r R=>
    rw[VX]at E;injection E with j q
    subst j q;have d:=B r U0;refine⟨J,[some (.int m),some (.obj t),some (.int (r.1:Nat)),some (dJ r.2)],M,[some (.int m),some (.obj t),some (.int (r.1:Nat)),some (dJ r.2)],M,rfl,?_,R,_,_,rfl,⟨rfl,λz Z=>B z (U1 _ Z)⟩,rfl⟩;unfold lT;simp[bF,fu,fe,aA,ar,aB,ai,ao,aa];rw[show g9 [.int m,dJ r.2] M=.ok (.bl true) M from Ad d.1 d.2.1 d.2.2]
    simp only[aa,fk,μ1,ae,Wl,VO])
  (xs:=dw 0 (ps.map dJ)) (ρ:=[some (.int m),some (.obj t),none,none]) (Y:=Y)
  ⟨(List.range ps.length).zip ps, none, none, by
    have core:∀(l:(List (Int×Int)))(k:Nat),dw k (l.map dJ)=((List.range' k l.length).zip l).map (λr=>D.tup [.int (r.1:Nat),dJ r.2]):=by
     intro l
     induction l with
     |nil=>intro k;rfl
     |cons p l I=>
      intro k;simp only[VX,dw,Wd,List.range'_succ,X8];rw[I (k+1)]
    rw[core,<- List.range_eq_range'],⟨rfl,λr u=>c r.2 (Vy u).2⟩,rfl⟩
 obtain⟨rfl,_⟩:=B;subst N;obtain⟨C,L⟩:=wM H J ps [] none c;unfold ji;rw[bB];simp only[xG,List.replicate,aG,bF,fu,fe,aA,ar,aB,ai,ao,aa,ak,Af f H,fk,μ1,ae,Wl,VO,bV,az,ij,cM];rw[show iE [.obj t] a=.ok (.eno t (ps.map dJ)) a from by unfold iE;dsimp only;rw[J]];simp only[ae];rw[show (kE.eno t (ps.map dJ)).items=dw 0 (ps.map dJ) from rfl,n];simp only[az,bG,dR,ar,aB,aA,ai,ao,aa,ak];unfold nj;simp only[bh,ao,ai,aa,ak];rw[bS J];simp only[aa,ak,cn];rw[show cJ [none] _=[none] from rfl,L];simp only[aa,ak];rw[show (ps.map mm).foldl lD []=ff (ps.map mm) from rfl]
 have v:bL [.obj a.length] (a++[.set (ff (ps.map mm))])=.ok (.obj (a++[O.set (ff (ps.map mm))]).length) ((a++[.set (ff (ps.map mm))])++[.lst ((cL (ps.map mm)).map aj)]):=by
  unfold bL;dsimp only;rw[aC];dsimp only;unfold iM;dsimp only;rw[aC];dsimp only;rw[nX]
 rw[v];simp only[aa,ak];rw[fj aC];simp only[aa,ak,Wd,WI,Vs l2,ae,dF];rw[W4];exact cD (cZ (kk 0e0 0e0 h))
theorem kd{x:D}(h:0<=p/\p<(m:Int)):bP [.tup [.int m,x],.int p] Y=.ok .non Y:=by
 unfold bP;rw[bB];simp[lx];rw[wG (show Gi Y (.int p) from nofun),show Kc m (.int p)=true from Xu h];simp[aW]
theorem Ac(h:(gw 3e1 m ks))(H:0<=p/\p<(m:Int)):fS [.tup [.int m,.tup 0e3],.int p] Y=.ok (bO (cz m ks p)) Y:=by
 have l:=bw h;refine jM h λ_ y C _ d=>?_;have eN:(Y++[O.lst [.int p]]++[O.lst [.int p]])[(Y++[O.lst [.int p]]).length]?=some (.lst ([p].map D.int)):=aC;obtain⟨t,g,j,E,B,o,r,b⟩:=wH (Y:=Y++[O.lst [.int p]]++[O.lst [.int p]]) d l eN
 have mem:∀q,q∈p::j↔q∈cz m ks p:=λq=>by
  unfold cz;rw[U2,b q,UW,eh];simp only[Wz,exists_eq_left,Ym,YS,aX d,wB d];constructor
  ·rintro (rfl | z)
   ·exact⟨H,.inl rfl⟩
   ·refine⟨?_,.inr z⟩;rcases z with z|z <;> (refine aF (d _ z) λu v e G I J=>?_;simp at e;obtain⟨c,f⟩:=e;subst c f;exact⟨by lia,by lia⟩)
  simp
 have rng:∀n∈p::j,0<=n/\n<6:=λn N=>by
  have:=eh.mp (UW.mp ((mem n).mp N)).1
  lia
 unfold fS;rw[bB];have l1:([D.int p]:List D).length<=sizeLine:=UX 1e1 bp;simp only[tN,aG,dH,aA,ar,aB,ai,ao,aa,kd H,ae,az,bG,aK,j8,Vs l1,bE,iK,E]
 have a:du 0e8 (.obj t) (Y++[O.lst [.int p]]++[O.lst [.int p]]++g)=.ok (.obj (Y++[O.lst [.int p]]++[O.lst [.int p]]++g).length) ((Y++[O.lst [.int p]]++[O.lst [.int p]]++g)++[O.lst ((p::j).map D.int)]):=by
  unfold du;dsimp only;rw[B,aH (aH aC)];dsimp only;rw[Vs]
  ·rfl
  ·rw[Wb];exact UX (by simp;lia) bp
 rw[a];simp only[aa]
 have T:∀M:ax,pb [.obj 4e8] (M++[O.lst ((p::j).map D.int)])=.ok (.obj (M++[O.lst ((p::j).map D.int)]).length) ((M++[O.lst ((p::j).map D.int)])++[O.iset (ik (p::j))]):=λM=>by
  unfold pb;dsimp only;rw[aC];dsimp only;unfold vT;rw[show pB ((p::j).map D.int)=none from rfl,Js rng]
 rw[T];simp only[aa]
 have s:∀M:ax,bL [.obj 4e8] (M++[O.iset (ik (p::j))])=.ok (.obj (M++[O.iset (ik (p::j))]).length) ((M++[O.iset (ik (p::j))])++[.lst ((cz m ks p).map D.int)]):=λM=>by
  unfold bL;unfold iM;dsimp only;rw[aC];dsimp only;rw[Bu mem]
 rw[s];simp only[aa];rw[fj aC];simp;exact cD (by simp;exact eo.mpr λx X=>by obtain⟨k,_,rfl⟩:=WM.mp X;simp)
section
variable{A:Nat}{w:D}
theorem JE{A t:Nat}{fs:List Int}{o0 o1 o2 o3:Option D}{o7:Option D}(hA:M[A]?=some (.lst (dP m f)))(J:M[t]?=some (.lst (fs.map D.int)))(h:A≠t)(H:∀q∈fs,0<=q/\q<(m:Int)):
  ∃o7',h7 (cI (ah 6)) (ag 7) gn [o0,o1,o2,o3,some (.obj A),some (.int n),some (.obj t),o7] M=.next [o0,o1,o2,o3,some (.obj A),some (.int n),some (.obj t),o7'] (M.set A (.lst (dP m (t8 n f fs)))):=by
 have hAl:=(VY.mp hA).1
 have R:=gS (src:=.own t (fs.map D.int)) (g:=ag 7)
  (λb a d=>∃μ s:List Int,b=s.map D.int/\fs=μ++s/\d=M.set A (.lst (dP m (t8 n f μ)))/\∃o7,a=[o0,o1,o2,o3,some (.obj A),some (.int n),some (.obj t),o7])
  (λa d ⟨μ,s,_,_,e,_⟩=>by subst e;exact il J h)
  (λx b a d hJJ => by
   obtain⟨μ,s,X,F,e,o7,eρ⟩:=hJJ;subst e eρ;cases s with
   |nil=>cases X
   |cons z s=>
    injection X with c k
    subst c k;have Z:=H z (by rw[F];simp);refine⟨il J h,_,_,[o0,o1,o2,o3,some (.obj A),some (.int n),some (.obj t),some (.int z)],M.set A (.lst (dP m (t8 n f (μ++[z])))),rfl,?_,μ++[z],s,rfl,by rw[F];simp,rfl,_,rfl⟩;show gn [o0,o1,o2,o3,some (.obj A),some (.int n),some (.obj t),some (.int z)] _=_;unfold gn;simp;rw[oN (gR hAl) (m9 Z.1 (by rw[(show (dP m (t8 n f μ)).length=m by unfold dP;rw[Wb,WH])];exact Z.2)),wO Z.1 Z.2];simp;unfold t8;rw[List.foldl_append]
    rfl)
  (ρ:=[o0,o1,o2,o3,some (.obj A),some (.int n),some (.obj t),o7]) (Y:=M)
  ⟨[], fs, rfl, rfl, by
   apply Yv;intro j;by_cases e:A=j
   ·subst e;rw[gR hAl,hA];rfl
   ·rw[U8 e],_,rfl⟩
 refine bH R λo l v R=>?_;obtain⟨μ,s,X,F,e,o7',eρ⟩:=v
 simp_all[bS]
theorem JD{A t:Nat}{fs:List Int}{o0 o1 o2 o7:Option D}(K:5e3)(P:ks.length<=15)(hA:M[A]?=some (.lst (dP m f)))(U:M[t]?=some (.lst (fs.map D.int)))(Q:A≠t)(hU:Up (dM ks) p (λq=>0<=q/\q<m) n f)(v:∀q,q∈fs↔((0<=q/\q<(m:Int))/\f q=some n)):
  ∃(t':Nat)(fs':List Int)(f':(Int->Option Nat))(g:ax)(o7':Option D),et [o0,o1,o2,some 3e7,some (.obj A),some (.int n),some (.obj t),o7] M=.next [o0,o1,o2,some 3e7,some (.obj A),some (.int ((n+1:Nat):Int)),some (.obj t'),o7'] ((M++g).set A (.lst (dP m f'))) /\
   (M++g)[t']?=some (.lst (fs'.map D.int))/\A≠t'/\Up (dM ks) p (λq=>0<=q/\q<m) (n+1) f'/\∀q,q∈fs'↔((0<=q/\q<(m:Int))/\f' q=some (n+1)):=by
 obtain⟨s,g,N,J,E,Z,F,G⟩:=wH K P U;have hA':=aH (g:=g) hA;have hAl:=(VY.mp hA).1
 have hnsD:∀q∈N,0<=q/\q<(m:Int):=λq H=>by
  obtain⟨r,_,u⟩:=(G q).mp H;exact(iL K u).2
 have c:=eW (src:=.own s (N.map D.int)) (g:=ag 0) (t:=i0) (e:=lp) (Y1:=M++g) (q:=λd=>match d with | .int q=>decide (f q=none)|_=>false) (h:=λd=>d)
  (λC=>∃o,C=[o,some (.obj A)]) (λa=>aH E) (xs:=N.map D.int) (acc:=[]) (ρ:=[none,some (.obj A)]) ⟨_,rfl⟩
  (by rw[Wb,WI];exact UX 0e0 bp)
  (λx X a C hJJ => by
   obtain⟨o,T⟩:=hJJ;refine bz (WM.mp X) λq H V=>?_;subst V;subst T;refine⟨[some (.int q),some (.obj A)],⟨_,rfl⟩,rfl,?_,λ_=>rfl⟩;unfold i0;simp only[cf,aK,ao,ai,aa];rw[ih (aH hA') (pW (hnsD q H).1 (hnsD q H).2)]
   simp[B7])
 have L:((N.map D.int).filter λd=>match d with | .int q=>decide (f q=none)|_=>false).map (λd=>d)=(N.filter λq=>decide (f q=none)).map D.int:=by
  rw[List.map_id',YJ];rfl
 rw[YQ,L]at c
 have I:∀q,q∈(N.filter λq=>decide (f q=none))↔(f q=none/\∃r,dM ks r q/\f r=some n):=λq=>by
  rw[UW,YS,G];constructor
  ·rintro ⟨⟨r, R, u⟩, B⟩
   exact⟨B,r,u,((v r).mp R).2⟩
  ·rintro ⟨B, r, u, R⟩
   exact⟨⟨r,(v r).mpr ⟨(iL K u).1,R⟩,u⟩,B⟩
 have hD':∀q,q∈(N.filter λq=>decide (f q=none))->0<=q/\q<(m:Int):=λq H=>hnsD q (UW.mp H).1;have l:A≠(M++g).length:=by rw[V6];lia
 obtain⟨o7',W⟩:=JE (n:=n+1) (o0:=o0) (o1:=o1) (o2:=o2) (o3:=some 3e7) (o7:=o7) (M:=(M++g)++[O.lst ((N.filter λq=>decide (f q=none)).map D.int)]) (aH hA') aC l hD';refine⟨(M++g).length,N.filter λq=>decide (f q=none),t8 (n+1) f (N.filter λq=>decide (f q=none)),g++[O.lst ((N.filter λq=>decide (f q=none)).map D.int)],o7',?_,by simp,l,?_,λq=>?_⟩
 ·unfold et
  have μ:rC 5 iF 2e2 [o0,o1,o2,some 3e7,some (.obj A),some (.int n),some (.obj t),o7] M=.next [o0,o1,o2,some 3e7,some (.obj A),some (.int ((n+1:Nat):Int)),some (.obj t),o7] M:=by
   push_cast;rfl
  rw[dW μ,aG,aM,aZ,bh,aA];simp only[ar,aB,ao,ai,aa,ak,J];rw[bS E]
  simp_all
 ·refine hU.next (λa b h => (iL K h).1) λq H j => ?_;rw[qr]
  grind
 ·rw [qr];constructor
  ·intro y;exact⟨hD' q y,by rw[Vs y]⟩
  ·rintro ⟨H, z⟩
   by_cases y:q∈N.filter λq=>decide (f q=none)
   ·exact y
   ·rw [Vt y] at z;have:=((hU q H (n+1)).mp z).1
    lia
end
theorem xt{Y0:ax}{m A:Nat}{p:Int}{ks:0e1}{o0 o1 o2:Option D}(d:5e3)(L:ks.length<=15)(P:0<=p/\p<(m:Int))(hA0:Y0.length<=A) :
  ∀(c n:Nat)(f:(Int->Option Nat))(fs:List Int)(M:ax)(t:Nat)(o7:Option D),M[A]?=some (.lst (dP m f))->M[t]?=some (.lst (fs.map D.int))->A≠t->Up (dM ks) p (λq=>0<=q/\q<m) n f ->
   (∀q,q∈fs↔((0<=q/\q<(m:Int))/\f q=some n))->(∀i,i<Y0.length->M[i]?=Y0[i]?)->n<=m->m<n+c ->
   ∃ρ' M' f',iU (eg (ah 6)) et c [o0,o1,o2,some 3e7,some (.obj A),some (.int n),some (.obj t),o7] M=.next ρ' M'/\(∃o5 o6 o7,ρ'=[o0,o1,o2,some 3e7,some (.obj A),o5,o6,o7]) /\
    M'[A]?=some (.lst (dP m f'))/\(∀i,i<Y0.length->M'[i]?=Y0[i]?)/\m2 (dM ks) p (λq=>0<=q/\q<m) f'
 |0,n,f,fs,M,t,o7,hA,J,E,hU,s,H,v,y=>by lia
 |c+1,n,f,fs,M,t,o7,hA,J,E,hU,s,H,v,y=>by
  have B:eg (ah 6) [o0,o1,o2,some 3e7,some (.obj A),some (.int n),some (.obj t),o7] M=.ok (!(fs.map D.int).isEmpty) M:=by
   simp only[fe,ao,ai,aa];unfold vF;dsimp only;rw[J]
  unfold iU;rw[B,ae];cases fs with
  |nil=>
   refine⟨_,M,f,rfl,⟨_,_,_,rfl⟩,hA,H,hU.full (λa b h=>(iL d h).2) λq Q L=>?_⟩;refine oT (je.mp L) λ_ r u R=>?_;have:=(s r).mpr ⟨(iL d u).1,(hU r (iL d u).1 n).mpr ⟨Vn _,R⟩⟩;cases this
  |cons x fs=>
   have X:=(s x).mp U0;have z:=NH P (λa b h=>(iL d h).2) ((hU x X.1 n).mp X.2).2;obtain⟨T,F,f',g,O,e,o,l,hU',j⟩:=JD d L hA J E hU s;rw[e]
   exact xt d L P hA0 c (n+1) f' F ((M++g).set A (.lst (dP m f'))) T O (gR (by rw[V6];have:=(VY.mp hA).1;lia)) (il o l) l hU' j (λi I=>by
    rw[U8 0e0,VF (by have:=(VY.mp hA).1;lia)];exact H i I) 0e0 0e0
theorem oH(h:(gw 3e1 m ks))(P:0<=p)(j:p<(m:Int)):
  ∃A Y' f,dX [.tup [.int m,.tup 0e3],.int p] Y=.ok (.obj A) (Y++Y')/\(Y++Y')[A]?=some (.lst (dP m f))/\Y.length<=A/\m2 (dM ks) p (λq=>0<=q/\q<m) f:=by
 have n:=bw h;refine jM h λ_ v x l d=>?_;have k:m<=6:=by lia
 let b:ax:=(Y++[.lst [.non]])++[.lst (dP m λ_=>none)]
 have hM0:b[(Y++[O.lst [.non]]).length]?=some (.lst (dP m λ_=>none)):=aC;have H:(dP m λ_=>none).length=m:=by simp[dP]
 let A:Nat:=(Y++[O.lst [.non]]).length
 have hAl:=(VY.mp hM0).1;let a:ax:=b.set A (.lst (dP m (oU (λ_=>none) p 0)))
 have hM1:a[A]?=some (.lst (dP m (oU (λ_=>none) p 0))):=gR hAl
 have hpreM:∀i,i<Y.length->(a++[O.lst [.int p]])[i]?=Y[i]?:=λi I=>by
  have:i<a.length:=by simp[a,b,V2,V6];lia
  rw[VF this];simp[a];rw[U8 (by simp[A,V6];lia)];simp only[b];rw[W4,VF I]
 obtain⟨u,c,F,W,⟨y,z,B,eρ⟩,hA',e,hF⟩:=xt (Y0:=Y) d n ⟨P,j⟩ (by simp only[A,V6];lia) 100 0 (oU (λ_=>none) p 0) [p] (a++[O.lst [.int p]]) a.length none
  (aH hM1) aC (by simp only [a, V2]; lia) (J6 λq _ => by unfold oU; rfl) (λq => by
   simp_all[oU]) hpreM 0e0 0e0
 subst eρ
 obtain⟨g,U⟩:∃g,c=Y++g:=by
  refine⟨c.drop 5e8,?_⟩;apply Yv;intro i;by_cases I:i<Y.length
  all_goals simp_all[VF,VD]
 refine⟨A,g,F,?_,by rw[<- U];exact hA',by simp only[A,V6];lia,hF⟩;unfold dX;rw[bB];have L:[D.int m,D.tup 0e3].length=2:=rfl
 have s:aU 2e3 (bc 2 (aD (ag 2) (aD (ag 3) (bf)))) [some 3e1,some (.int p),none,none,none,none,none,none] Y=.next [some 3e1,some (.int p),some (.int m),some 3e7,none,none,none,none] Y:=by
  rfl
 have N:aU (ay pd (gF (af (cC .non) (aw))) (ah 2)) (ag 4) [some 3e1,some (.int p),some (.int m),some 3e7,none,none,none,none] Y=.next [some 3e1,some (.int p),some (.int m),some 3e7,some (.obj A),none,none,none] b:=by
  simp only[aM,aK,j8,ar,aB,bE,aa,ak,Wd,WI,Vs l1,ao,ai];unfold pd;dsimp only;rw[aC];dsimp only;have Z:(6:Nat)<=sizeLine:=by decide
  rw[Vs (by refine⟨by lia,by lia,?_⟩;simp only[Wd,WI];lia)];simp only[XW,FS,ae,ak,bj,YY,YZ,b,A,BC]
 have o:aU 2e8 (nU (ah 4) 5e7) [some 3e1,some (.int p),some (.int m),some 3e7,some (.obj A),none,none,none] b=.next [some 3e1,some (.int p),some (.int m),some 3e7,some (.obj A),none,none,none] a:=by
  simp only[aM,bE,ae,JK,ao,ai,aa,ak];rw[oN hM0 (m9 P (by rw[H];exact j)),show (D.int 0)=.int ((0:Nat):Int) from rfl,wO P j];rfl
 have r:aU 2e8 (ag 5) [some 3e1,some (.int p),some (.int m),some 3e7,some (.obj A),none,none,none] a=.next [some 3e1,some (.int p),some (.int m),some 3e7,some (.obj A),some (.int ((0:Nat):Int)),none,none] a:=rfl
 have t:aU (gF 1e4) (ag 6) [some 3e1,some (.int p),some (.int m),some 3e7,some (.obj A),some (.int ((0:Nat):Int)),none,none] a=.next [some 3e1,some (.int p),some (.int m),some 3e7,some (.obj A),some (.int ((0:Nat):Int)),some (.obj a.length),none] (a++[O.lst [.int p]]):=by
  rfl
 unfold oh;simp only[List.replicate];rw[dW s,dW N,dW o,dW r,dW t,dW (show lH 100 (eg (ah 6)) et _ _=_ from W)];simp only[bG,ao,ai,ae,ak,dF];rw[iD (by simp only[Jh,A,V6];lia),U]
theorem Hi{A:Nat}{k:Int}(hA:M[A]?=some (.lst (dP m (T p))))(c:m<=6)(P:0<=p)(f:p<m):
  compLoop (.fix (cc (p+1) ((m:Int)-(p+1)).toNat)) 4e8 (ag 0) gm i5 (cc (p+1) ((m:Int)-(p+1)).toNat) [none,some (.int p),some (.int k),some (.obj A)] (M++[.lst []])=.ok (.obj 4e8) (M++[.lst ((kY T k p (p+1) ((m:Int)-(p+1)).toNat).map aj)]):=by
 have:=eW (src:=.fix (cc (p+1) ((m:Int)-(p+1)).toNat)) (g:=ag 0) (t:=gm) (e:=i5) (Y1:=M) (q:=λd=>match d with | .int q=>OV k (T p q)|_=>false)
  (h:=λd=>match d with | .int q=>aj [p,q]|_=>.non) (λb=>∃o,b=[o,some (.int p),some (.int k),some (.obj A)]) (λ_=>trivial) (xs:=cc (p+1) ((m:Int)-(p+1)).toNat) (acc:=[]) (ρ:=[none,some (.int p),some (.int k),some (.obj A)]) ⟨none,rfl⟩
  (by unfold cc;rw[Wb,WI,WH];exact UX 0e0 bp)
  (λx X a b ⟨o, G⟩ => by
   unfold cc at X;refine bz (WM.mp X) λi I V=>?_;subst V;rw[WN]at I;subst G;refine⟨[some (.int (p+1+(i:Int))),some (.int p),some (.int k),some (.obj A)],⟨_,rfl⟩,rfl,?_,λ_=>?_⟩
   ·have H := ih (Y := M ++ [.lst a]) (aH hA) (pW (q := p + 1 + (i : Int)) 0e0 0e0);unfold gm;simp[jA,cf,aK,ao,ai,bE,aa,H,nh,bQ];cases e:T p (p+1+(i:Int)) with
    |none=>rfl
    |some j=>
     simp only[UQ (show ¬ some j=none by simp),XJ,oq];rfl
   rfl)
 rw[this,YQ];exact VA (λz=>aq.ok (D.obj 4e8) (M++[O.lst z])) (E6)
theorem Bn{k:Int}(h:(gw 3e1 m ks))(k0:1<=k)(K:k<=6)(hT:∀p:Int,0<=p->p<m->m2 (dM ks) p (λq=>0<=q/\q<m) (T p)):
  eY [.tup [.int m,.tup 0e3],.int k] Y=.ok (.tup [.int m,.tup ((Gg m T k).map aj)]) Y:=by
 have hG:=h;refine jM h λ_ P μ hp V=>?_;have H:m<=6:=by lia
 have R:=gS (src:=.fix (cc 0 m)) (g:=ag 4)
  (λX u d=>∃(n c:Nat)(t o:Option D),X=cc n c/\n+c=m/\u=[some 3e1,some (.int k),some (.int m),some 0e8,t,o]/\(∀i,i<Y.length->d[i]?=Y[i]?)/\d[5e8]?=some (.lst (((List.range n).flatMap λp:Nat=>kY T k p ((p:Int)+1) (m-(p+1))).map aj)))
  (λ_ _ _=>trivial)
  (λx r u d ⟨n, c, t, o, E, v, j, l, b⟩ => by
   subst j;cases c with
   |zero=>simp_all[g7]
   |succ c=>
    rw[fQ]at E;injection E with ex y
    subst ex y;refine eC (oH (Y:=d) (p:=(n:Int)) hG 0e0 0e0) λA g f F hA hAl hF=>?_;have W:=Ml λq Q=>hF.eq (hT n 0e0 0e0) Q;rw[W]at hA;have L:=Hi (k:=k) hA H 0e0 0e0;rw[show ((m:Int)-((n:Int)+1)).toNat=m-(n+1) by lia]at L;have N:=mC (T:=T) (k:=k) H n;have G:=wN (T:=T) (k:=k) (p:=n) (lo:=(n:Int)+1) (c:=m-(n+1));have B:=(VY.mp b).1;have s:((d++g)++[O.lst ((kY T k n ((n:Int)+1) (m-(n+1))).map aj)])[5e8]?=some (.lst (((List.range n).flatMap λp:Nat=>kY T k p ((p:Int)+1) (m-(p+1))).map aj)):=aH (aH b);refine⟨trivial,_,d,[some 3e1,some (.int k),some (.int m),some 0e8,some (.int n),some (.obj A)],((d++g)++[O.lst ((kY T k n ((n:Int)+1) (m-(n+1))).map aj)]).set 5e8 (O.lst (((List.range (n+1)).flatMap λp:Nat=>kY T k p ((p:Int)+1) (m-(p+1))).map aj)),rfl,?_,n+1,c,some (.int n),some (.obj A),by push_cast;rfl,by lia,rfl,λi I=>?_,?_⟩
    ·show i3 [some (.tup [.int m, .tup 0e3]), some (.int k), some (.int m), some 0e8, some (.int n), o] d = _;unfold i3
     have C:aU (au dX (af 2e3 (af (ah 4) (aw)))) (ag 5) [some 3e1,some (.int k),some (.int m),some 0e8,some (.int n),o] d=.next [some 3e1,some (.int k),some (.int m),some 0e8,some (.int n),some (.obj A)] (d++g):=by
      simp only[aM,aA,ar,aB,ao,ai,aa,ak,F,ae,bj,YY,YZ]
     rw[dW C];unfold rC;simp only[ao,ai,ae,aZ,cM,ar,aB,aK,bE,aa,ak,kK];rw[uU 0e0 0e0 0e0 0e0];simp only[aa,ak,aT];rw[show ((m:Int)-((n:Int)+1)).toNat=m-(n+1) by lia];rw[show cJ [none,some 4,some 1,some 5] [some (D.tup [D.int ↑m,D.tup (List.map aj ks)]),some (D.int k),some (.int m),some (D.obj 5e8),some (D.int n),some (.obj A)]=[none,some (.int n),some (.int k),some (.obj A)] from rfl,L];simp only[ae,ak];unfold iF;dsimp only;rw[s,aC];dsimp only
     rw[Vs (by
      rw[Wb,Wb]
      exact UX 0e0 bp)]
     simp[YK]
    ·rw[U8 0e0,W4,VF 0e0];exact l i I
    ·exact gR (by grind))
  (xs:=cc 0 m) (ρ:=[some 3e1,some (.int k),some (.int m),some 0e8,none,none]) (Y:=Y++[.lst []])
  ⟨0,m,none,none,rfl,by lia,rfl,λi I=>by rw[VF I],aC⟩
 obtain⟨J,a,⟨n,c,t,o,E,v,j,l,b⟩,R⟩:=R;subst j;have Z:=wQ E.symm;subst Z;have z:n=m:=by lia
 subst z;have U:gw (.tup [.int n,.tup ((Gg n T k).map aj)]) n (Gg n T k):=wD 0e0 H
 obtain⟨g,e⟩:∃g,a=Y++g:=by
  refine⟨a.drop 5e8,?_⟩;apply Yv;intro i;by_cases I:i<Y.length
  ·rw[VF I,l i I]
  ·rw[VD 0e0,WW];congr 1;lia
 unfold eY;rw[bB];simp only[n9,List.replicate];rw[aG,bF,fu,fe,aA];simp only[ar,aB,ao,ai,bE,aa,ak,su k0 K,fk,μ1,ae,Wl,VO,bV,az];simp only[aG,aM,aK,ai,bE,aa,ak,d0,ae,bj,az,YY,YZ,j8,aB,WI,Vs (Wo sizeLine),ij,cM,ar,ao];rw[fq 0e0 0e0];simp only[ae,ak,aT,XW];rw[R];simp only[az,bG,dR,ar,aB,aK,aA,ao,ai,bE,aa,ak];rw[fj b];simp only[aa,ak,Wd,WI,Vs l2,ae,dF];rw[e];exact cD (cZ U)
theorem LS{a b:Int}(d:0<=a)(H:a<b)(c:b<(m:Int)):mG [.int m,.tup [.int a,.int b]] Y=.ok (.bl true) Y:=by
 have h:=Ad (Y:=Y) ⟨d,by lia⟩ ⟨by lia,c⟩ 0e0;unfold mG;rw[bB];simp[xH]
 simp_all[cmpI,aW]
theorem Hs(h:GW m ks):kU [.int m,.tup 0e3] Y=.ok (.bl true) Y:=by
 have l:=bw h
 have R:df [.tup 0e3] (Y++[.lst (ks.map λ_=>D.bl true)])=.ok (.bl true) (Y++[.lst (ks.map λ_=>D.bl true)]):=by
  rw[Bo (λk d=>by refine bH (h.2.2.2.2 k d) λa b e _=>?_;exact⟨a,b,e⟩) 0e0];congr 2;exact Xg.mpr λi H=>Mo h.2.2.2.2 (by have:=h.m6;lia) h.2.2.2.1 i (by simpa using H)
 have c:=bg (src:=.fix 0e3) (g:=ag 0) (t:=aV) (e:=kq) (Y1:=Y) (q:=λ_=>true) (h:=λ_=>.bl true) (λf=>∃o,f=[o,some (.int m)]) (λ_=>trivial) (us:=ks) (ρ:=[none,some (.int m)]) ⟨_,rfl⟩
  (by rw[WI];exact UX 0e0 bp)
  (λk d a f hJJ => by
   obtain⟨o,e⟩:=hJJ;subst e;refine aF (h.2.2.2.2 k d) λx y V G v C=>?_;subst V;refine⟨[some (aj [x,y]),some (.int m)],⟨_,rfl⟩,rfl,rfl,λ_=>?_⟩;unfold kq;simp only[aA]
   exact LS G v C)
 rw[dA,YQ]at c;unfold kU;rw[bB];simp only[tO,bG,uV,wd,aA,ar,aB,ai,ao,aa];rw[show iB "tuple" (.tup 0e3) Y=.ok (.bl true) Y from rfl];simp only[aa,bQ,aZ,bh,ao,ai];rw[show vG 3e7 Y=.ok (.fix 0e3) Y from rfl];simp only[aa,aT];rw[show cJ [none,some 0] (some (.int m)::some 3e7::List.replicate (2-2) none)=[none,some (.int m)] from rfl,c];simp only[aa,ak];rw[show ks.map (λ_=>D.bl true)=(ks.map λ_=>true).map D.bl from by rw[WE];rfl];rw[jB aC];rw[show (ks.map λ_=>true).all id=true from by simp];simp only[aa,ak,bQ,VP,aA,ar,aB,ao,ai];rw[show (ks.map λ_=>true).map D.bl=ks.map (λ_=>D.bl true) from by rw[WE];rfl,R];simp[cD]
theorem qx(h:GW m ks):fW [aE m ks] Y=.ok (.bl true) Y:=by
 unfold fW;rw[dS];simp[qS];rw[show iB "tuple" (.tup [.int (m:Int),.tup 0e3]) Y=.ok (.bl true) Y from rfl];simp[Af h.m0 h.m6,Hs h];exact aW 1e1
theorem Qw{k:Nat}(h:GW m ks)(k0:1<=k)(K:k<=6):eY [aE m ks,.int k] Y=.ok (aE m (gD m ks k)) Y:=by
 have ex:∀p:Int,∃f:Int->Option Nat,0<=p->p<(m:Int)->m2 (dM ks) p (λq=>0<=q/\q<(m:Int)) f:=λp=>by
  by_cases d:0<=p/\p<(m:Int)
  ·refine eC (oH (Y:=[]) h d.1 d.2) λA g f _ _ _ hF=>?_;exact⟨f,λ_ _=>hF⟩
  ·exact⟨λ_=>none,λa b=>absurd ⟨a,b⟩ d⟩
 have hT:∀p:Int,0<=p->p<(m:Int)->m2 (dM ks) p (λq=>0<=q/\q<(m:Int)) ((λp=>(ex p).choose) p):=λp a b=>(ex p).choose_spec a b;rw[Bn h 0e0 0e0 hT,LI h.m0 h.m6 hT]
section
variable{m':Nat}
theorem m5(h:GW m ks):di [aE m ks] Y=.ok (aE m (gD m ks 2)) Y:=by
 unfold di;rw[dS];simp[qT];rw[show eY [aE m ks,.int 2] Y=.ok (aE m (gD m ks 2)) Y from Qw h 1e0 1e0];exact aW (Cb (bR h.m0 h.m6))
end
section
variable{kw:0e1}
theorem Dl{x y:Int}:R (dM ks) x 1 y↔y=x\/dM ks x y:=by
 simp[R]
end
theorem Eb(h:k.length<1000):Kn Y (bO k):=by
 simp[Kn,Wb];exact⟨h,me.mpr λx d=>by obtain⟨i,_,rfl⟩:=WM.mp d;simp[Kn]⟩
theorem Od{t u:Nat}{ps:(List PyData)}(J:(M[t]?=some (.lst xs)))(U:M[u]?=some (.lst []))(d:dc M xs=some ps)(F:fitP (.list ps)=true):hZ false (.obj t) (.obj u) M=.ok (.bl xs.isEmpty) M:=by
 have e:hW M (.obj t)=some (.list ps):=by
  simp_all[hW]
 have B:hW M (.obj u)=some (.list []):=by
  unfold hW;dsimp only;rw[U];rfl
 unfold hZ;rw[e,B];dsimp only;rw[Vs ⟨F,rfl⟩];cases xs with
 |nil=>
  simp[dc,W8]at d;subst d;rfl
 |cons x r=>
  cases ps with
  |nil=>
   simp[dc]at d;cases H:rA M x with
   |none=>rw[H]at d;cases d
   |some a=>
    simp_all
  |cons p q=>rfl
section
variable{ko kw:0e1}
theorem pQ(h:GW m ko)(W:GW m kw):eZ [aE m kw,aE m ko] Y=.ok (.bl (decide (gD m ko 2=kw))) Y:=by
 unfold eZ;rw[bB];simp[oe,qx h,m5 h,UH (bR h.m0 h.m6) W];exact aW 1e1
theorem Ds{a:Bool}:hZ true (.bl a) (.bl a) M=.ok (.bl false) M:=by cases a <;> rfl
end
section
variable{k0:0e1}{S:Nat}
noncomputable abbrev OX(i S:Nat)(d:D):Ro:=[some (.obj i),some d,some (.int 8),some (.obj S)]
theorem FR(H:i<Y0.length)(hS:Y0.length<=S):∀(c:Nat)(ks:0e1)(M:ax),Pn Y0 i M->M[S]?=some (.lst 0e3)->ks.length<=15->ks.length<=8+c ->
  ∃(ks':0e1)(M':ax),iU (e0 (ay (eJ .Gt) (au gE (af (ah 3) (aw))) (ah 2))) cP (c+1) (OX i S d) M=.next (OX i S d) M'/\Pn Y0 i M'/\M'[S]?=some (.lst (ks'.map aj))/\ks'.Sublist ks/\ks'.length<=8:=by
 intro c
 have cond:∀(ks:0e1)(M:ax),M[S]?=some (.lst 0e3)->e0 (ay (eJ .Gt) (au gE (af (ah 3) (aw))) (ah 2)) (OX i S d) M=.ok (decide (8<ks.length)) M:=λks M hM=>by
  rw[cf,aK,aA];simp[ar,aB,ao,ai,aa];rw[AK hM];simp[aa,kI,bQ,Wb];congr 1;show decide ((ks.length:Int)>8)=_;rw[Yu]
  lia
 induction c with
 |zero=>
  intro ks M hP hM h15 j;refine⟨ks,M,?_,hP,hM,Zi _,by lia⟩;unfold iU;rw[cond ks M hM,ae,UQ 0e0,Vt V9]
 |succ c I=>
  intro ks M hP hM h15 j;by_cases z:8<ks.length
  ·refine cE (hP.draw (m := ks.length) H 0e0 0e0) λv a b F k l U hP1 => ?_;let e:ax:=M.set i (ck a b F)
   have hM1:e[S]?=some (.lst 0e3):=il hM 0e0;have V:v.toNat<ks.length:=by lia
   let f:ax:=e.set S (.lst ((ks.eraseIdx v.toNat).map aj))
   have pop:j9 (.obj S) [.int v] e=.ok (aj ks[v.toNat]) f:=by
    unfold j9;dsimp only;rw[hM1];dsimp only;rw[m9 k (by simp_all)];dsimp only;rw[Wi,Xx V];dsimp;rw[Vs 0e0,tj]
   have hSl:=(VY.mp hM1).1;obtain⟨ks',M',E,B,N,g,h⟩:=I (ks.eraseIdx v.toNat) f (hP1.put hS) (U7 hSl) (by rw[List.length_eraseIdx];split <;> lia) (by rw[List.length_eraseIdx,Vs V];lia);refine⟨ks',M',?_,B,N,g.trans (List.eraseIdx_sublist _ _),h⟩;unfold iU;rw[cond ks M hM,ae,Xu z]
   have body:cP (OX i S d) M=.next (OX i S d) f:=by
    unfold cP;rw[dH,l7];simp only[ao,ai,aa];rw[show vB (.obj S) M=true from by unfold vB;dsimp only;rw[hM]];simp only[VP,ar,aB,aA,ao,ai,aa];rw[AK hM];simp only[aa,Wb];rw[U];simp only[aa];rw[show j9 (.obj S) [.int v] (M.set i (ck a b F))=_ from pop];simp only[ae]
   rw[body];exact E
  ·refine⟨ks,M,?_,hP,hM,Zi _,by lia⟩;unfold iU;rw[cond ks M hM,ae,UQ z,Vt V9]
theorem LW{a b c:Int}(H:Y[i]?=some (ck a b c))(h:GW m ks):∃(ks':0e1)(a' b' c':Int),ks'.Sublist ks/\ks'.length<=8/\eF [.obj i,aE m ks,.int 8] Y=.ok (aE m ks') (Y.set i (ck a' b' c')):=by
 have l:=bw h;let d:ax:=Y++[.lst 0e3]
 obtain⟨ks',g,e,B,N,E,f⟩:=FR ((VY.mp H).1) (Vn _) 99 ks d (Pn.self H).app aC l 0e0;obtain⟨a',b',c',G⟩:=B.gc (cZ (mB h E));refine⟨ks',a',b',c',E,f,?_⟩;unfold eF;rw[jx];unfold jX;rw[aG,aM,aA];simp;rw[show jQ [.tup 0e3] Y=.ok 0e8 d from rfl];simp only[ae,az];rw[aG,show lH 100 (e0 (ay (eJ .Gt) (au gE (af (ah 3) (aw))) (ah 2))) cP [some (.obj i),some 3e5,some (.int 8),some 0e8] d=_ from e]
 simp_all[fj,l2]
theorem J0(H:i<Y0.length)(h:Pn Y0 i Y1)(L:ks.length<=15):∃(qs:0e1)(Y2:ax),qs.Sublist ks/\Pn Y0 i Y2/\Y2.length=Y1.length /\
  compLoop (.fix 0e3) Y1.length (ag 0) ml mq 0e3 [none,some (.obj i)] (Y1++[.lst []])=.ok (.obj Y1.length) (Y2++[.lst (qs.map aj)]):=by
 obtain⟨G,z,Y2,J,⟨u,d,B,⟨o,l⟩,qs,R,E,n,j,q⟩,N⟩:=mE (src:=.fix 0e3) (g:=ag 0) (t:=ml) (e:=mq)
  (λX μ f Y2 s=>s=[]/\Y2.length=Y1.length/\Pn Y0 i Y2/\(∃o,f=[o,some (.obj i)])/\∃qs R:List 4e2,X=R.map aj/\μ=qs.map aj/\(qs++R).Sublist ks/\qs.length+R.length<=ks.length)
  (λμ f Y2 s ⟨_,d,_⟩=>⟨d,trivial⟩)
  (λx r μ f Y2 s hJJ => by
   obtain⟨u,d,B,⟨o,l⟩,qs,R,E,n,j,q⟩:=hJJ;subst u l n;cases R with
   |nil=>cases E
   |cons k R=>
    rw[VX]at E;obtain⟨ex,y⟩:=WJ E;subst ex y;simp at q;have I:=UT H B.len;refine cE ((B.app (g:=[.lst (qs.map aj)])).draw (m:=2) H 1e0 1e0) λv a b c V K U P=>?_;rw[ux I]at U;refine⟨d,trivial,[some (aj k),some (.obj i)],Y2,[],v == 0,Y2.set i (ck a b c),[],rfl,?_,λC=>?_,λC=>?_⟩
    ·unfold ml;simp[cf,aK,aA,ar,aB,ao,ai,bE,aa,U,fO,Wl,VO,bQ]
    ·refine ⟨aj k, Y2.set i (ck a b c), [], ?_, ?_, by simpa using d, rfl, by simpa using d, B.set H, ⟨_, rfl⟩, qs ++ [k], R, rfl, by simp, by simpa using j, by simp; lia⟩
     ·unfold mq;rw[ai]
     ·rw[Wb];exact UT 0e0 bp
    ·exact⟨rfl,by simpa using d,B.set H,⟨_,rfl⟩,qs,R,rfl,rfl,(List.Sublist.append (Zi qs) (List.sublist_cons_self k R)).trans j,by lia⟩)
  (ρ:=[none,some (.obj i)]) (Y1:=Y1)
  ⟨rfl,rfl,h,⟨_,rfl⟩,[],ks,rfl,rfl,by simp,by simp⟩
 grind
end
section
variable{m':Nat}{w:D}
theorem N4(h:GW m ks):fW [aE m ks] M=.ok (.bl true) M:=qx h
theorem yJ(h:GW m ks)(H:GW m' ks'):cx [aE m ks,aE m' ks'] Y=if m'=m then .ok .non Y else .bad:=by
 unfold cx;rw[bB];simp only[ly,bF,lM,fu,fe,aA,ar,aB,ao,ai,aa,N4 H,cf,aK,bE,d0,fO];by_cases e:m'=m
 ·simp_all[aW]
 ·rw[Vt e,show ((m':Int) == (m:Int))=false from by rw[Yy];lia];rfl
noncomputable abbrev sj(ks ls:0e1):List 4e2:=ks.filter λk=>!decide (k∈ls)
theorem xA{x:D}{t:MT}{e:ME}(h:GW m ks)(J:∀k∈ks,∀M,t [some (aj k),some x] M=.ok (!decide (k∈ls)) M)(n:∀d M,e [some d,some x] M=.ok d M):
  compLoop (.fix 0e3) 5e8 (ag 0) t e 0e3 [none,some x] (Y++[.lst []])=.ok 0e8 (Y++[.lst ((sj ks ls).map aj)]):=
 bg (src:=.fix 0e3) (Y1:=Y) (λb=>∃o,b=[o,some x]) (λ_=>trivial) (ρ:=[none,some x]) ⟨_,rfl⟩
  (by grind [bw,bp])
  (λk H a b hJJ => by
   obtain⟨o,E⟩:=hJJ;subst E
   exact⟨[some (aj k),some x],⟨_,rfl⟩,rfl,J k H _,λ_=>n _ _⟩)
theorem Ed(H:∀k∈ls,gv m k)(h:gv m k):iC true (aj k) (.tup (ls.map aj)) Y=.ok (.bl (!decide (k∈ls))) Y:=by
 refine bH h λa b v _=>?_;subst v;exact sV H
theorem EC:(D.tup (ls.map aj)).low n:=by
 exact eo.mpr λx h=>by obtain⟨k,_,rfl⟩:=WM.mp h;exact D9
theorem G5{ls':0e1}:(D.tup [.tup (ls.map aj),.tup (ls'.map aj)]).low n:=by
 exact eo.mpr λx h=>by
  all_goals grind [EC]
noncomputable abbrev de(m:Nat)(ks ks':0e1):List 4e2:=sj ks (gD m ks' 2)
noncomputable abbrev eR(m:Nat)(ks ks':0e1):List 4e2:=sj (gD m ks' 2) ks
theorem yE(h:GW m ks)(H:GW m ks'):eA [aE m ks,aE m ks'] Y=.ok (.tup [.tup ((de m ks ks').map aj),.tup ((eR m ks ks').map aj)]) Y:=by
 have U:=bR (ks:=ks') (k:=2) H.m0 H.m6;unfold eA;rw[bB];simp only[lr,List.replicate];rw[aG,dH];simp only[aA,ar,aB,ao,ai,aa,yJ h H,VP,ae,az];rw[aG,aM];simp only[aK,ai,bE,aa,iK,ae,bj,az];rw[aG,aM];simp only[aK,aA,ar,aB,ao,ai,bE,aa,m5 H,iK,ae,bj,az,YY,YZ];rw[aG,aM];simp only[aA,ar,aB,aZ,bh,ao,ai,aa,fm,aT];rw[show cJ [none,some 3] [some 3e5,some (aE m ks'),some (D.tup 0e3),some (D.tup ((gD m ks' 2).map aj)),none,none]=[none,some (.tup ((gD m ks' 2).map aj))] from rfl,xA (ls:=gD m ks' 2) h (λk K M=>by unfold jT;simp[Ed U.2.2.2.2 (h.2.2.2.2 k K)]) (λd M=>by rfl)];simp only[aa,fj aC,ae,bj,az,YY,YZ];rw[aG,aM];simp only[aA,ar,aB,aZ,bh,ao,ai,aa,fm,aT];rw[show cJ [none,some 2] [some 3e5,some (aE m ks'),some (D.tup 0e3),some (D.tup ((gD m ks' 2).map aj)),some (.tup ((de m ks ks').map aj)),none]=[none,some 3e7] from rfl,xA (ls:=ks) U (λk K M=>by unfold jS;simp[Ed h.2.2.2.2 (U.2.2.2.2 k K)]) (λd M=>by rfl)];simp only[aa];rw[fj aC];simp;exact cD (G5)
end
theorem Jd{x:D}{ps:(List PyData)}(hs:yg d Y=none)(h:GD Y d=some xs)(p:rz Y xs=some ps)(j:yI ps=true)(B:xs[argBest (CM ps) (xs.length-1)]?=some x):nW [d] Y=.ok x Y:=by
 simp_all[nW]
theorem AW{bt:Nat->Nat->Bool}:∀n,argBest bt n<=n
 |0=>Vn _
 |n+1=>by
  unfold argBest;split
  ·exact Vn _
  ·exact Nat.le_succ_of_le (AW n)
theorem On{a b c d:Int}:(cmpP .Lt (bK [a,b]) (bK [c,d])).isSome=true:=by
 show (if PyData.eqv (.int a) (.int c)=true then (if PyData.eqv (.int b) (.int d)=true then some (cmpI .Lt 0 0) else some (cmpI .Lt b d)) else some (cmpI .Lt a c)).isSome=true
 grind
section
theorem Rt(h:gv m k):(bK k).canLay0=true/\(bK k).depth<=1:=by
 have:=eV (m:=m) (ks:=[k]) (λx H=>by simp[U2,WA,WB]at H;subst H;exact h)
 simp_all[PyData.canLayAll0,PyData.depthAll]
theorem qv:∀{L:0e1},(∀k∈L,gv m k)->rz Y (L.map aj)=some (L.map bK)
 |[],_=>rfl
 |k::L,h=>by
  refine bH (h k U0) λa b V _=>?_;subst V;simp[VX,rz,(qv λx H=>h x (U1 _ H))];rfl
theorem CF(h:∀k∈L,gv m k):yI (L.map bK)=true:=by
 refine Xg.mpr λp P=>?_;obtain⟨k,K,rfl⟩:=WM.mp P;have f:=Rt (h k K);rw[Yl];refine⟨by unfold fitP;lia,Xg.mpr λq z=>?_⟩;obtain⟨e,H,rfl⟩:=WM.mp z;obtain⟨a,b,rfl,_⟩:=h k K;obtain⟨c,d,rfl,_⟩:=h e H;exact On
noncomputable abbrev DB(L:0e1):Nat:=argBest (CM (L.map bK)) (L.length-1)
theorem Ga(n:L≠[]):∃k,L[DB L]?=some k:=by
 have:=Yk.mpr n;have:=AW (bt:=CM (L.map bK)) (L.length-1);exact⟨_,Xx 0e0⟩
theorem Tq(h:∀k∈L,gv m k)(e:L[DB L]?=some k):nW [.tup (L.map aj)] Y=.ok (aj k) Y:=by
 refine Jd ?_ rfl (qv h) (CF h) ?_
 ·cases L with
  |nil=>cases e
  |cons x r=>
   rfl
 simp_all
end
section
variable{lk mr:0e1}
theorem Av(i:∀k∈lk,gv m k)(H:∀k∈mr,gv m k):∀k∈lk++mr,gv m k:=λk h=>by
 grind
end
theorem JH:vF (.tup xs) Y=.ok (!xs.isEmpty) Y:=XZ (_root_.eq_self _)
section
variable{m':Nat}{w:D}
theorem D6(h:GW m ks):∀k∈sj ks ls,gv m k:=λk H=>h.2.2.2.2 k (UW.mp H).1
theorem As:(sj ks ls).length<=ks.length:=μ0 ..
theorem vX(h:GW m ks):∀k∈de m ks ks',gv m k:=D6 h
theorem Dt(H:GW m ks'):∀k∈eR m ks ks',gv m k:=D6 (bR H.m0 H.m6)
theorem NG(h:GW m ks)(H:GW m ks'):du (.tup ((de m ks ks').map aj)) (.tup ((eR m ks ks').map aj)) Y=.ok (.tup ((de m ks ks'++eR m ks ks').map aj)) Y:=by
 have a:=bw h;have b:=bw (bR (ks:=ks') (k:=2) H.m0 H.m6);have c:(de m ks ks').length<=_:=As;have e:(eR m ks ks').length<=_:=As;rw[WT];exact J3 (by simp;lia)
noncomputable abbrev Kf (m:Nat) (ks ks':0e1) (k:List Int):Str:=if k∈de m ks ks' then "lacks" else "more"
theorem N7(h:GW m ks)(H:GW m ks')(e:de m ks ks'++eR m ks ks'=[]):cU [aE m ks,aE m ks'] Y=.ok .non Y:=by
 obtain⟨E,B⟩:=Zj.mp e;unfold cU;rw[bB];simp only[i8,List.replicate];rw[aG,aM];simp only[aA,ar,aB,ao,ai,aa,yE h H,ae,E,B,VW];rw[show bc 2 (aD (ag 2) (aD (ag 3) bf)) (.tup [.tup [],.tup []]) [some 3e5,some (aE m ks'),none,none,none,none,none] Y=.ok [some 3e5,some (aE m ks'),some (.tup []),some (.tup []),none,none,none] Y from rfl];exact aW 1e1
theorem Jz{a c:Int}(h:GW m ks)(H:GW m ks')(e:(de m ks ks'++eR m ks ks')[DB (de m ks ks'++eR m ks ks')]?=some [a,c]):cU [aE m ks,aE m ks'] Y=.ok (.tup [.str (Kf m ks ks' [a,c]),.int a,.int c]) Y:=by
 have E:((!(!((de m ks ks').map aj).isEmpty)) && !(!((eR m ks ks').map aj).isEmpty))=false:=by
  cases b:de m ks ks' with
  |cons x r=>rfl
  |nil=>cases B:eR m ks ks' with
   |cons x r=>rfl
   |nil=>simp_all
 unfold cU;rw[bB];simp only[i8,List.replicate];rw[aG,aM];simp only[aA,ar,aB,ao,ai,aa,yE h H,ae];rw[show bc 2 (aD (ag 2) (aD (ag 3) bf)) (.tup [.tup ((de m ks ks').map aj),.tup ((eR m ks ks').map aj)]) [some 3e5,some (aE m ks'),none,none,none,none,none] Y=.ok [some 3e5,some (aE m ks'),some (.tup ((de m ks ks').map aj)),some (.tup ((eR m ks ks').map aj)),none,none,none] Y from rfl];simp only[ae,az];rw[aG,bF]
 rw[show iG (dy (eg (ah 2))) (dy (eg (ah 3))) [some 3e5,some (aE m ks'),some (.tup ((de m ks ks').map aj)),some (.tup ((eR m ks ks').map aj)),none,none,none] Y=.ok false Y from by
  simp_all[JH]]
 simp only[ae,Wl,VO,bV,az];rw[aG,aM];simp only[aA,ar,aB,aK,ao,ai,aa,NG h H,Tq (Av (vX h) (Dt H)) e,ae];rw[show bc 2 (aD (ag 4) (aD (ag 5) bf)) (aj [a,c]) [some 3e5,some (aE m ks'),some (.tup ((de m ks ks').map aj)),some (.tup ((eR m ks ks').map aj)),none,none,none] Y=.ok [some 3e5,some (aE m ks'),some (.tup ((de m ks ks').map aj)),some (.tup ((eR m ks ks').map aj)),some (.int a),some (.int c),none] Y from rfl];simp only[ae,az];rw[aG,aM];simp only[Ru,cf,aK,dR,ar,aB,ao,ai,bE,aa,Wd,WI,Vs l2,qi (vX h),bQ]
 rw[show (if decide ([a,c]∈de m ks ks')=true then (aq.ok (D.str "lacks") Y) else .ok (.str "more") Y)=.ok (.str (Kf m ks ks' [a,c])) Y from by
  lia]
 exact aW 1e1
end
section
theorem qF(h:GW m ks):(cu ks p++[p]).Nodup:=by
 have H:=h.2.2.2.2;rw[XY];refine⟨?_,by simp,λa n b i=>?_⟩
 ·unfold cu;refine Yg.mpr ?_;refine((h.2.2.2.1.filter (tZ p)).imp_of_mem λ{k K} f g t e=>?_);obtain⟨f,j⟩:=UW.mp f;obtain⟨g,P⟩:=UW.mp g;obtain⟨a,b,rfl,_,B,_⟩:=H k f;refine aF (H K g) λc d V _ D _=>?_;subst V;have q:p=a\/p=b:=by simpa[tZ,c8] using j
  have J:p=c\/p=d:=by simpa[tZ,c8] using P
  have E:a+b-p=c+d-p:=e;have:a=c/\b=d:=by lia
  obtain⟨rfl,rfl⟩:=this;exact absurd t (Int.lt_irrefl _)
 ·rw[Wz.mp i];intro e;subst e;rcases (aX H).mp ((cF h).mp n) with z|z <;> (refine aF (H _ z) λu v e _ t _=>?_;simp at e;lia)
theorem BZ(h:GW m ks)(P:0<=p/\p<(m:Int)):cz m ks p=lg (cu ks p++[p]):=by
 have k:=h.2.2.2.2;have up:(cz m ks p).Pairwise (·<·):=zL.filter _;refine pR ?_ (up.imp λ{a b} h=>Int.le_of_lt h);refine(Xc (up.imp λ{a b} h=>by lia) (qF h)).mpr λq=>?_;unfold cz;rw[UW,eh,U4,Wz,cF h,aX k,Ym,wB k];constructor
 ·lia
 ·rintro (z | z)
  ·refine⟨?_,.inr z⟩;rcases z with z|z <;> (refine aF (k _ z) λu v e H c f=>?_;simp at e;obtain⟨E,D⟩:=e;subst E D;exact⟨by lia,by lia⟩)
  simp_all
theorem qw(h:m<=6):(cz m ks p).length<=6:=by
 grind [cz,lI]
end
theorem wy:∀{K:0e1},(∀k∈K,Sm k)->l0 (K.map bO)=some K
 |[],_=>rfl
 |k::K,h=>by
  have e:vS (bO k)=some k:=by
   show (match gM (k.map D.int) with|some j=>if RZ j=true then some j else none|none=>none)=_;rw[gy];dsimp only;rw[Vs (Ai.mpr (h k U0))]
  rw[VX];unfold l0;rw[e,(wy λx H=>h x (U1 _ H))]
theorem HA{t:Nat}{K:0e1}(J:M[t]?=some (.lst (K.map bO)))(hs:∀k∈K,Sm k)(n:K.Nodup)(i:K.length<64):bL [.obj t] M=.ok (.obj 4e8) (M++[.lst ((nT K).map bO)]):=by
 unfold bL;dsimp only;rw[J];dsimp only;rw[wy hs];dsimp only;rw[Vs ⟨n,i⟩];rfl
theorem l3:(3:Nat)<=sizeLine:=by decide
theorem oK{A B:ax}{x:O}(h:n=A.length):(A++x::B)[n]?=some x:=by subst h;simp
theorem L5{A g:ax}{t:Nat}(h:A.length<=t):(A++g).set t o=A++g.set (t-A.length) o:=List.set_append_right t o h
theorem Ox{t:Nat}(h:(M[t]?=some (.lst xs)))(i:xs.length<1000):bJ (.obj t) [d] M=.ok .non (M.set t (.lst (xs++[d]))):=by
 unfold bJ;dsimp only;rw[h];dsimp only;rw[Vs (UT i bp)]
section
variable{a b:Int}
noncomputable def A7(ks:0e1)(a b:Int):List 4e2:=((cu ks a).filter λp=>decide (b∈cu ks p)).map λp=>[a,p,b]
noncomputable def rD(ks:0e1)(a b:Int):List 4e2:=A7 ks a b++(if b∈cu ks a then [[a,b]] else [])
noncomputable def mY(ks:0e1)(a b:Int):List 4e2:=if a=b then [] else nT (rD ks a b)
theorem iI(h:GW m ks){x:Int}(H:x∈cu ks p):(0<=x/\x<(m:Int))/\(0<=p/\p<(m:Int))/\x≠p:=by
 have k:=h.2.2.2.2;rcases (aX k).mp ((cF h).mp H) with z|z <;> (refine aF (k _ z) λu v e c f g=>?_;simp at e;obtain⟨E,D⟩:=e;subst E D;exact⟨⟨by lia,by lia⟩,⟨by lia,by lia⟩,by lia⟩)
theorem uA:k∈rD ks a b↔(∃p,p∈cu ks a/\b∈cu ks p/\k=[a,p,b])\/(b∈cu ks a/\k=[a,b]):=by
 unfold rD A7
 grind
theorem sH(h:GW m ks):(rD ks a b).Nodup:=by
 unfold rD;rw[XY];refine⟨?_,by split <;> simp,λx H y μ e=>?_⟩
 ·unfold A7;have:=(XY.mp (qF h (p:=a))).1;refine Yg.mpr ((this.filter _).imp λ{x y} c e=>c ?_);simp at e;exact e
 simp_all[A7]
theorem DZ(h:GW m ks):∀k∈rD ks a b,Sm k:=λk K=>by
 have m6:=h.m6;rcases uA.mp K with⟨p,H,c,rfl⟩|⟨H,rfl⟩
 ·have q := iI h H;have J:=iI h c;refine⟨by simp,by simp,?_⟩;simp only[A0,U2,WA,WB,forall_eq_or_imp,forall_eq]
  lia
 ·have q := iI h H;refine⟨by simp,by simp,?_⟩;simp only[A0,U2,WA,WB,forall_eq_or_imp,forall_eq]
  lia
theorem Je(h:GW m ks):(A7 ks a b).length<=15:=by
 grind [A7,qg]
theorem HY(h:GW m ks):(rD ks a b).length<=16:=by
 unfold rD;have:=Je (a:=a) (b:=b) h;rw[V6];split <;> simp <;> lia
theorem l9(ne:a≠b):k∈mY ks a b↔(∃p,p∈cu ks a/\b∈cu ks p/\k=[a,p,b])\/(b∈cu ks a/\k=[a,b]):=by
 unfold mY;rw[Vt ne,qz.mem_iff,uA]
end
section
variable{a b:Int}
theorem jd(h:GW m ks)(H:0<=p/\p<(m:Int)):q∈cz m ks p↔q∈cu ks p\/q=p:=by
 rw[BZ h H,zc.mem_iff,U4,Wz]
theorem xc(h:GW m ks):p∈cu ks q↔q∈cu ks p:=by
 have k:=h.2.2.2.2;rw[cF h,cF h,aX k,aX k];exact or_comm
noncomputable def A8(m:Nat)(ks:0e1)(a b p:Int):Bool:=decide (p∈cz m ks a) && !decide (p∈[a,b])
noncomputable def vI(m:Nat)(ks:0e1)(a b:Int):List 4e2:=((cz m ks b).filter (A8 m ks a b)).map (λp=>[a,p,b])++(if b∈cz m ks a then [[a,b]] else [])
theorem Hl:(cz m ks a).Pairwise (·<·):=zL.filter _
theorem sI(h:GW m ks)(n:0<=a/\a<(m:Int))(B:0<=b/\b<(m:Int))(ne:a≠b):(vI m ks a b).Perm (rD ks a b):=by
 have N:(vI m ks a b).Nodup:=by
  unfold vI;rw[XY];refine⟨?_,by split <;> simp,λx X y i e=>?_⟩
  ·refine Yg.mpr ((Hl.filter _).imp λ{x y} μ e => ?_);simp at e
   lia
  grind
 refine(Xc N (sH h)).mpr λk=>?_;rw[uA];unfold vI;rw[U4,WM];constructor
 ·rintro (⟨p, P, rfl⟩ | X)
  ·obtain ⟨H, c⟩ := UW.mp P;simp only[A8,Yl,YS,Zk,Zl,U2,WA,WB,not_or]at c;refine jr c λc f g=>?_;refine .inl ⟨p,?_,?_,rfl⟩
   ·exact((jd h n).mp c).resolve_right f
   ·exact(xc h).mp (((jd h B).mp H).resolve_right g)
  simp_all[jd,U3]
 ·rintro (⟨p, H, c, rfl⟩ | ⟨H, rfl⟩)
  ·refine .inl ⟨p,UW.mpr ⟨(jd h B).mpr (.inl ((xc h).mpr c)),?_⟩,rfl⟩;simp only[A8,Yl,YS,Zk,Zl,U2,WA,WB,not_or];exact⟨(jd h n).mpr (.inl H),(iI h H).2.2,λz=>(iI h c).2.2 z.symm⟩
  simp_all[jd]
theorem BH(h:GW m ks)(n:0<=a/\a<(m:Int))(B:0<=b/\b<(m:Int))(ne:a≠b):nT (vI m ks a b)=mY ks a b:=by
 rw[show mY ks a b=nT (rD ks a b) from Vt ne];exact ER (DZ h) (qz.trans (sI h n B ne)) ES
theorem Jt:iC true (.int p) (.tup [.int a,.int b]) M=.ok (.bl (!decide (p∈[a,b]))) M:=wb (neg:=true) (w:=[a,b])
theorem nu(h:GW m ks)(A:0<=a/\a<(m:Int))(B:0<=b/\b<(m:Int)):∃(n:Nat)(G:ax),d5 [aE m ks,.int a,.int b] Y=.ok (.obj n) (Y++G)/\(Y++G)[n]?=some (.lst ((mY ks a b).map bO))/\Y.length<=n:=by
 have l:0+1+1<=sizeLine:=l2;have u:0+1+1+1<=sizeLine:=l3;have r:∀M,bP [aE m ks,.int a] M=.ok .non M:=λM=>kd A;have Q:∀M,bP [aE m ks,.int b] M=.ok .non M:=λM=>kd B;have S:∀M,fS [aE m ks,.int a] M=.ok (bO (cz m ks a)) M:=λM=>Ac h A;have v:∀M,fS [aE m ks,.int b] M=.ok (bO (cz m ks b)) M:=λM=>Ac h B;unfold d5;rw[jx];simp only[mO,List.replicate,aG,dH,aA,ar,aB,bF,cf,aK,ai,ao,aa,ak,r,Q,az,fO,bQ,Wl,VO,ae];by_cases e:a=b
 ·subst e;refine⟨5e8,[.lst []],?_,?_,Vn _⟩
  ·simp only[beq_self_eq_true,VP,bG,j8,aB,aa,WI,Wo,ae,DT,dF];exact iD 1e1
  simp[mY]
 ·rw [show (a == b) = false from Yy.mpr e]
  have c1:=bg (U:=Int) (en:=D.int) (src:=.fix ((cz m ks b).map D.int)) (g:=ag 0) (t:=ip) (e:=ky) (Y1:=Y) (q:=A8 m ks a b) (h:=D.int)
   (λf=>∃o,f=[o,some (bO (cz m ks a)),some (.int a),some (.int b)]) (λ_=>trivial) (us:=cz m ks b) (acc:=[]) (ρ:=[none,some (bO (cz m ks a)),some (.int a),some (.int b)]) ⟨_,rfl⟩ (by rw[WI];have:=qw (ks:=ks) (p:=b) h.m6;exact UX 0e0 bp)
   (λp P x f ⟨o, j⟩ => by
    subst j;refine⟨[some (.int p),some (bO (cz m ks a)),some (.int a),some (.int b)],⟨_,rfl⟩,rfl,?_,λ_=>?_⟩
    ·unfold ip;simp only[jA,cf,aK,dR,ar,aB,ao,ai,aa,ak,Wd,WI,Vs l,Jt];rw[wb];simp only[aa,bQ,Wl,VO,A8];by_cases z:p∈cz m ks a
     ·rw[Xu z];simp only[VP,Zm]
     ·rw[UQ z];simp only[Wl,VO,Bool.false_and]
    rfl)
  rw[YQ]at c1;let F:List Int:=(cz m ks b).filter (A8 m ks a b)
  have L:F.length<=6:=UX (μ0 _ _) (qw (ks:=ks) (p:=b) h.m6);let c:ax:=Y++[O.lst (F.map D.int)]
  have C:=bg (U:=Int) (en:=D.int) (src:=.own 5e8 (F.map D.int)) (g:=ag 0) (t:=aV) (e:=iq) (Y1:=c) (q:=λ_=>true) (h:=λp=>bO [a,p,b])
   (λf=>∃o,f=[o,some (.int a),some (.int b)]) (λ_=>aH aC) (us:=F) (acc:=[]) (ρ:=[none,some (.int a),some (.int b)]) ⟨_,rfl⟩ (by rw[WI];exact UX 0e0 bp)
   (λp P x f ⟨o, j⟩ => by
    subst j;refine⟨[some (.int p),some (.int a),some (.int b)],⟨_,rfl⟩,rfl,rfl,λ_=>?_⟩
    rfl)
  rw[YQ,YX.mpr λ_ _=>rfl]at C;have E:F.map (λp=>bO [a,p,b])=(F.map λp=>[a,p,b]).map bO:=by rw[WE];rfl
  rw[E]at C;simp only[Wl,VO,bV,az,aG,aM,aZ,bh,aA,ar,aB,ai,ao,aa,ak,S,ae,bj,YY,YZ,v,Qv,aT];rw[show cJ [none,some 3,some 1,some 2] [some 3e5,some (.int a),some (.int b),some (bO (cz m ks a)),none,none]=[none,some (bO (cz m ks a)),some (.int a),some (.int b)] from rfl,c1];simp only[ae,bj,YY,YZ,az,aG,aM,aZ,bh,ai,ao,aa,ak];rw[bS (show c[5e8]?=some (.lst (F.map D.int)) from aC)];simp only[aa,ak,cn];rw[show cJ [none,some 1,some 2] [some 3e5,some (.int a),some (.int b),some (bO (cz m ks a)),some 0e8,none]=[none,some (.int a),some (.int b)] from rfl,show compLoop (.own 5e8 (F.map D.int)) (Y++[O.lst (F.map D.int)]).length (ag 0) aV iq (F.map D.int) [none,some (.int a),some (.int b)] (Y++[O.lst (F.map D.int)]++[O.lst []])=_ from C];let i:ax:=c++[O.lst ((F.map λp=>[a,p,b]).map bO)]
  simp only[ae,bj,YY,YZ,az,aG,bF,cf,aK,ai,ao,aa,ak];rw[wb];simp only[aa,bQ,ae,Wl,VO];have H:i[c.length]?=some (.lst ((F.map λp=>[a,p,b]).map bO)):=aC
  have N:∀(M:ax),M[c.length]?=some (.lst ((vI m ks a b).map bO))->(∃g,M=Y++g) ->
    ∃(n:Nat)(G:ax),rn Y ((bx (au bL (af (ah 5) aw)) [some 3e5,some (.int a),some (.int b),some (bO (cz m ks a)),some 0e8,some (.obj c.length)] M).out)=.ok (.obj n) (Y++G)/\(Y++G)[n]?=some (.lst ((mY ks a b).map bO))/\Y.length<=n:=λM H ⟨g,s⟩=>by
   subst s;have Z:=sI h A B e;refine⟨(Y++g).length,g++[.lst ((mY ks a b).map bO)],?_,?_,by simp⟩
   ·simp only[bG,aA,ar,aB,ao,ai,aa,ak];rw[HA H (λk K=>DZ h k (Z.mem_iff.mp K)) (Z.nodup_iff.mpr (sH h)) (by rw[Z.length_eq];have:=HY (a:=a) (b:=b) h;lia)];simp only[ae,dF];rw[iD 1e1,BH h A B e,W4]
   simp
  by_cases z:b∈cz m ks a
  ·rw [Xu z];simp only[VP,dH,l7,ar,aB,dR,ao,ai,aa,ak,Wd,WI,Vs l];rw[show vB (.obj c.length) i=true from uh H];simp only[VP,aa];rw[show bJ (.obj c.length) [.tup [.int a,.int b]] i=_ from Ox H (by rw[Wb,Wb];lia)];simp only[ae,az];refine N _ ?_ ?_
   ·rw[U7 (VY.mp H).1];unfold vI;rw[Vs z,WT];rfl
   ·exact⟨_,by simp only[i,c,W4];exact L5 1e1⟩
  ·rw [UQ z];simp only[Wl,VO,bV,az];refine N _ ?_ ?_
   ·rw[show (Y++[O.lst (F.map D.int)]++[O.lst ((F.map λp=>[a,p,b]).map bO)])[c.length]?=_ from H];unfold vI;rw[Vt z,Vu]
   ·exact⟨_,by rw[W4]⟩
end
theorem Hc(h:M[n]?=some (.lst (L.map bO))):hW M (.obj n)=some (.list (L.map bK)):=by
 simp_all[hW,uv]
theorem z8:fitP (.list (L.map bK))=true:=by
 have:=DQ L;simp only[fitP,PyData.canLay0,this.1,PyData.depth,Zm]
 lia
theorem Lr{w:List Int}:hW M (bO w)=some (bK w):=by
 have:dc M (w.map D.int)=some (w.map PyData.int):=by
  induction w with
  |nil=>rfl
  |cons x r i=>simp only[VX,dc,i];rfl
 simp only[hW,this,W7];rfl
theorem Lu{w:List Int}:fitP (bK w)=true:=by
 simp[jf,fitP,bK,PyData.canLay0,PyData.depth]
theorem N0{w:List Int}(h:M[n]?=some (.lst (L.map bO))):iC neg (bO w) (.obj n) M=.ok (.bl (if neg then !decide (w∈L) else decide (w∈L))) M:=by
 unfold iC;rw[Lr,Hc h];dsimp only[lK];rw[Vs ⟨Lu,z8⟩]
 have:((L.map bK).any λy=>PyData.eqv y (bK w))=decide (w∈L):=by
  rw[Yc];apply YO.mpr;simp[bK,PyData.eqv,xy]
 rw[this]
noncomputable def OW(d:D):Bool:=match d with
 |.tup S=>S.all isInt
 |_=>false
noncomputable def tY(ks:0e1)(a b:Int)(d:D):Bool:=OW d&&decide (Gq d∈mY ks a b)
section
variable{a b:Int}
theorem AD:∀{xs:List D},xs.all isInt=true->∃w:List Int,xs=w.map D.int
 |[],_=>⟨[],rfl⟩
 |x::xs,h=>by
  rw[List.all_cons,Yl]at h;obtain⟨w,e⟩:=AD h.2;cases x with
  |int i=>exact⟨i::w,by rw[e];rfl⟩
  |_=>cases h.1
theorem NU(h:OW d=true):∃w,d=bO w/\Gq d=w:=by
 cases d with
 |tup S=>
  obtain⟨w,rfl⟩:=AD h;simp[zK]
 |_=>cases h
theorem LD(h:GW m ks)(ne:a≠b){w:List Int}(W:w∈mY ks a b):∀x∈w,0<=x/\x<(m:Int):=by
 rcases (l9 ne).mp W with⟨p,H,c,rfl⟩|⟨H,rfl⟩
 ·have q := iI h H;have J:=iI h c
  simp_all
 ·have q := iI h H
  simp_all
theorem QN{w:List Int}(h:∀x∈w,0<=x/\x<(m:Int)):tU m (bO w)=true:=by
 simp only[tU,Yb,Xg,Function.comp_apply,ie,Yl,YS];exact λx H=>by have:=h x H;lia
theorem KC{w:List Int}:OW (bO w)=true:=by
 simp only[OW,Yb,Xg,Function.comp_apply];exact λx _=>rfl
theorem LF(h:GW m ks)(ne:a≠b):(tU m d&&decide (Gq d∈mY ks a b))=tY ks a b d:=by
 unfold tY;cases p:tU m d with
 |true=>
  obtain⟨w,rfl,_⟩:=uy p;rw[KC]
 |false=>
  rw[Bool.false_and];cases i:OW d with
  |false=>rfl
  |true=>
   obtain⟨w,rfl,U⟩:=NU i;rw[U,Zm];exact(UQ λW=>by rw[QN (LD h ne W)]at p;cases p).symm
theorem Bq(h:GW m ks)(H:0<=a/\a<(m:Int))(c:0<=b/\b<(m:Int))(ne:a≠b)(D:Kn Y d):kX [aE m ks,aj [a,b],d] Y=.ok (.bl (tY ks a b d)) Y:=by
 unfold kX;rw[jx];simp only[tP,List.replicate,aG,bF,fu,fe,aA,ar,aB,aK,ai,ao,bE,aa,ak,d0,sC D,fk,ae];rw[<- LF h ne];cases p:tU m d with
 |false=>
  simp[aW]
 |true=>
  refine bI (uy p) λw v U _=>?_;subst v;refine aP (nu (Y:=Y) h H c) λn G e B N=>?_;simp only[μ1,Wl,VO,bV,az,bG,aK,aA,ar,aB,ai,ao,bE,aa,ak];rw[show cj (aj [a,b]) (.int 0) Y=.ok (.int a) Y from rfl];simp only[aa];rw[show cj (aj [a,b]) (.int 1) Y=.ok (.int b) Y from rfl];simp only[aa,e];rw[N0 B]
  simp_all[cD]
noncomputable def OE(ks ks':0e1)(d:D):Bool:=match d with
 |.tup S=>decide (S.length=ks.length)&&(ks.zip S).all λu=>tY ks' (c8 u.1).1 (c8 u.1).2 u.2
 |_=>false
noncomputable def Sx(u:List Int×D):D:=.tup [aj u.1,u.2]
theorem DF:∀{ks:0e1}{xs:List D},js 0e3 xs=(ks.zip xs).map Sx
 |[],_=>by simp[js]
 |_::_,[]=>by simp[js]
 |k::r,x::q=>by simp only[VX,js,X8,DF (ks:=r) (xs:=q)];rfl
theorem Ht(h:GW m ks)(j:GW m ks')(H:Kn Y d):gz [aE m ks,aE m ks',d] Y=.ok (.bl (OE ks ks' d)) Y:=by
 have C:cx [aE m ks,aE m ks'] Y=.ok .non Y:=by simp_all[yJ]
 have L:=bw h;unfold gz;rw[jx];simp only[oa,List.replicate,aG,dH,aM,bF,lM,fu,fe,wd,cf,aA,ar,aB,aK,ai,ao,bE,aa,ak,C,ae,az,iK,bj,YY,YZ,sT H,fk];cases d with
 |tup S=>
  have n:∀x∈S,Kn Y x:=by simp only[Kn]at H;exact me.mp H.2
  simp only[j6,μ1,Wl,VO,kH,aa,fO,bQ,VP,Wb,ae];by_cases e:S.length=ks.length
  ·rw [e];simp only[beq_self_eq_true,μ1,Wl,VO,bV,az,bG,aA,ar,aB,aZ,cM,ai,ao,aa,ak];rw[show A3 [.tup 0e3,.tup S] Y=.ok (.fix (js 0e3 S)) Y from rfl];simp only[aa,aT];rw[DF]
   have c:=bg (U:=List Int×D) (en:=Sx) (src:=.fix ((ks.zip S).map Sx)) (g:=bc 2 (aD (ag 0) (aD (ag 1) bf))) (t:=aV) (e:=i6) (Y1:=Y) (q:=λ_=>true) (h:=λu=>.bl (tY ks' (c8 u.1).1 (c8 u.1).2 u.2))
    (λf=>∃o O,f=[o,O,some (aE m ks')]) (λ_=>trivial) (us:=ks.zip S) (acc:=[]) (ρ:=[none,none,some (aE m ks')]) ⟨_,_,rfl⟩ (by rw[WI,List.length_zip];exact UX 0e0 bp)
    (λu i x f ⟨o, O, G⟩ => by
     subst G;have l:=(Vy i).1;have r:=(Vy i).2;obtain⟨k,μ⟩:=u;refine aF (h.2.2.2.2 k l) λp q v P Q M=>?_;subst v;refine⟨[some (aj [p,q]),some μ,some (aE m ks')],⟨_,_,rfl⟩,rfl,rfl,λ_=>?_⟩;unfold i6;simp only[aA,ar,aB,ao,ai,aa];rw[Bq j ⟨by lia,by lia⟩ ⟨by lia,by lia⟩ 0e0 (uN _ (n μ r))]
     rfl)
   rw[YQ,YX.mpr λ_ _=>rfl]at c;rw[show cJ [none,none,some 1] [some 3e5,some (aE m ks'),some (.tup S),some 3e7]=[none,none,some (aE m ks')] from rfl,c];simp only[aa];rw[show (ks.zip S).map (λu=>D.bl (tY ks' (c8 u.1).1 (c8 u.1).2 u.2))=((ks.zip S).map λu=>tY ks' (c8 u.1).1 (c8 u.1).2 u.2).map D.bl from by rw[WE];rfl,jB aC]
   simp_all[OE,cD]
  ·rw [show ((S.length : Int) == (ks.length : Int)) = false from by rw [Yy]; lia]
   simp_all[OE,aW]
 |_=>
  simp only[j6,XJ,VP,bG,bE,ae,DT,dF,OE];exact aW 1e1
end
def vE(M0 s:ax):List Nat->List 0e1->Prop
 |[],[]=>True
 |n::j,L::Ls=>(M0.length<n/\∀X,(M0++O.lst X::s)[n]?=some (.lst (L.map bO)))/\vE M0 s j Ls
 |_,_=>False
theorem vE.more{s g:ax}:∀{ns:List Nat}{Ls:(List 0e1)},vE M0 s ns Ls->vE M0 (s++g) ns Ls
 |[],[],_=>trivial
 |n::ns,L::Ls,h=>⟨⟨h.1.1,λX=>by rw[<- μ2,<- W4];exact aH (h.1.2 X)⟩,h.2.more⟩
theorem vE.snoc{s:ax}(H:M0.length<n/\∀X,(M0++O.lst X::s)[n]?=some (.lst (L.map bO))):∀{ns:List Nat}{Ls:(List 0e1)},vE M0 s ns Ls->vE M0 s (ns++[n]) (Ls++[L])
 |[],[],_=>⟨H,trivial⟩
 |k::ns,K::Ls,h=>⟨h.1,h.2.snoc H⟩
theorem vE.len{s:ax}:∀{ns:List Nat}{Ls:(List 0e1)},vE M0 s ns Ls->ns.length=Ls.length
 |[],[],_=>rfl
 |_::_,_::_,h=>by simp[h.2.len]
theorem vE.at{s:ax}:∀{ns:List Nat}{Ls:(List 0e1)},vE M0 s ns Ls->∀u∈ns.zip Ls,M0.length<u.1/\∀X,(M0++O.lst X::s)[u.1]?=some (.lst (u.2.map bO))
 |[],[],_,u,U=>by simp at U
 |n::ns,L::Ls,h,u,U=>by
  rw[X8,U2]at U;rcases U with rfl|U
  ·exact h.1
  ·exact h.2.at u U
theorem Mr{s:ax}{X μ:List D}(N:M0.length<n)(h:(M0++O.lst X::s)[n]?=some o):(M0++O.lst μ::s)[n]?=some o:=by
 rw[VD (UY N)]at h⊢;obtain⟨k,H⟩:∃k,n-M0.length=k+1:=⟨n-M0.length-1,by lia⟩;rw[H]at h⊢;exact h
theorem tr{U:Type}{en:U->D}{src:kE}{g:MG}{e:ME}{M0:ax}{K:U->List 4e2}(R:Ro->Prop)(o:∀a s,bA src (M0++.lst a::s)) :
  ∀(us:List U)(ns:List Nat)(Ls:(List 0e1))(ρ:Ro)(s:ax),R ρ->ns.length+us.length<=1000->vE M0 s ns Ls ->
   (∀x∈us,∀a s ρ,R ρ->∃ρ1 n G,R ρ1/\g (en x) ρ (M0++.lst a::s)=.ok ρ1 (M0++.lst a::s)/\e ρ1 (M0++.lst a::s)=.ok (.obj n) (M0++.lst a::s++G)/\(M0++.lst a::s++G)[n]?=some (.lst ((K x).map bO))/\(M0++.lst a::s).length<=n) ->
   ∃ns' s',compLoop src M0.length g aV e (us.map en) ρ (M0++.lst (ns.map D.obj)::s)=.ok (.obj M0.length) (M0++.lst (ns'.map D.obj)::s')/\vE M0 s' ns' (Ls++us.map K)
 |[],ns,Ls,ρ,s,r,i,h,H=>by
  refine⟨ns,s,?_,by simpa using h⟩;rw[VW];unfold compLoop;rw[Vs (o _ s)]
 |x::S,ns,Ls,ρ,s,r,i,h,H=>by
  obtain⟨ρ1,n,G,l,f,B,j,k⟩:=H x U0 (ns.map D.obj) s ρ r;rw[Wd]at i;have N:M0.length<n:=by rw[V6,Wd]at k;lia
  have E:∀X,(M0++O.lst X::(s++G))[n]?=some (.lst ((K x).map bO)):=λX=>Mr N (X:=ns.map D.obj) (by rw[<- μ2,<- W4];exact j);refine bH (tr R o S (ns++[n]) (Ls++[K x]) ρ1 (s++G) l (by simp;lia) (vE.snoc ⟨N,E⟩ h.more) (λy μ=>H y (U1 _ μ))) λns' s' c A=>?_;refine⟨ns',s',?_,by rw[VX];simpa using A⟩;rw[VX];unfold compLoop;rw[Vs (o _ s),f];simp only[ak,aa];rw[show aV ρ1 (M0++O.lst (ns.map D.obj)::s)=.ok true (M0++O.lst (ns.map D.obj)::s) from rfl];simp only[ak,aa];rw[Vs trivial,B];simp only[ak,aa];rw[W4,μ2,fR (by rw[Wb];have:=bp;lia)];simp only[aa];rw[show ns.map D.obj++[D.obj n]=(ns++[n]).map D.obj from by rw[WT];rfl];exact c
section
variable{w:D}{a b:Int}
noncomputable def x9(ks' ks:0e1):List 0e1:=ks.map λk=>mY ks' (c8 k).1 (c8 k).2
noncomputable def jP(Ls:(List 0e1)):Bool:=Ls.all λL=>!L.isEmpty
noncomputable def KM(Ls:(List 0e1)):D:=.tup (Ls.map λL=>bO (L.headD []))
noncomputable def OH(Ls:(List 0e1)):D:=if jP Ls=true then KM Ls else .non
theorem AJ{M0 s:ax}{X:List D}:∀{ns:List Nat}{Ls:(List 0e1)},vE M0 s ns Ls->pC (M0++O.lst X::s) (ns.map D.obj)=some (Ls.map λL=>!L.isEmpty)
 |[],[],_=>rfl
 |n::ns,L::Ls,h=>by
  simp only[VX,pC,h.1.2 X,AJ h.2];cases L <;> rfl
theorem OC{s:ax}{ns:List Nat}(h:vE M0 s ns Ls):pF [.obj M0.length] (M0++O.lst (ns.map D.obj)::s)=.ok (.bl (jP Ls)) (M0++O.lst (ns.map D.obj)::s):=by
 unfold pF;dsimp only;rw[oK rfl];dsimp only;cases ns with
 |nil=>
  cases Ls with
  |nil=>rfl
  |cons=>exact h.elim
 |cons n ns=>
  rw[show iY ((n::ns).map D.obj)=none from rfl];dsimp only;rw[AJ h];dsimp only;rw[Yb];rfl
theorem zW:∀{ns:List Nat}{Ls:(List 0e1)},ns.length=Ls.length->(ns.zip Ls).map (λu=>D.obj u.1)=ns.map D.obj
 |[],[],_=>rfl
 |n::ns,L::Ls,h=>by simp only[X8,VX,zW (Nat.succ.inj h)]
theorem zV{β:Type}{f:List 4e2->β}:∀{ns:List Nat}{Ls:(List 0e1)},ns.length=Ls.length->(ns.zip Ls).map (λu=>f u.2)=Ls.map f
 |[],[],_=>rfl
 |n::ns,L::Ls,h=>by simp only[X8,VX,zV (Nat.succ.inj h)]
theorem JY{x:D}(h:xs[0]?=some x):atI xs 0=some x:=iN (j:=0) h
theorem zo{s:ax}{ns:List Nat}{e:ME}(h:vE M0 s ns Ls)(F:jP Ls=true)(l:Ls.length<=100)(E:∀n M,e [some (.obj n)] M=cj (.obj n) (.int 0) M):
  compLoop (.own M0.length (ns.map D.obj)) (M0++O.lst (ns.map D.obj)::s).length (ag 0) aV e (ns.map D.obj) [none] (M0++O.lst (ns.map D.obj)::s++[.lst []])=.ok (.obj (M0++O.lst (ns.map D.obj)::s).length) (M0++O.lst (ns.map D.obj)::s++[.lst (Ls.map λL=>bO (L.headD []))]):=by
 have c:=bg (U:=Nat×List 4e2) (en:=λu=>.obj u.1) (src:=.own M0.length (ns.map D.obj)) (g:=ag 0) (t:=aV) (e:=e) (Y1:=M0++O.lst (ns.map D.obj)::s) (q:=λ_=>true) (h:=λu=>bO (u.2.headD []))
  (λi=>∃o,i=[o]) (λ_=>aH (oK rfl)) (us:=ns.zip Ls) (acc:=[]) (ρ:=[none]) ⟨_,rfl⟩ (by rw[WI,List.length_zip];exact UX 0e0 bp)
  (λu H x i ⟨o, G⟩ => by
   subst G;refine⟨[some (.obj u.1)],⟨_,rfl⟩,rfl,rfl,λ_=>?_⟩;rw[E];have:=(h.at u H).2 (ns.map D.obj)
   have hL:u.2≠[]:=by
    have:=Xg.mp F u.2 (Vy H).2
    simp_all
   obtain⟨n,L⟩:=u;cases L with
   |nil=>exact absurd rfl hL
   |cons k r=>exact ih (aH this) (JY (xs:=(k::r).map bO) rfl))
 rw[YQ,YX.mpr λ_ _=>rfl,zV (f:=λL=>bO (L.headD [])) h.len,zW h.len]at c;exact c
theorem Ep(h:GW m ks):(x9 ks' ks).length<=15:=by unfold x9;rw[Wb];exact bw h
theorem N9:(KM Ls).low n:=by
 refine eo.mpr λx h=>?_;obtain⟨L,_,rfl⟩:=WM.mp h;exact eo.mpr λy μ=>by obtain⟨i,_,rfl⟩:=WM.mp μ;simp
theorem EL(h:GW m ks)(H:GW m ks'):gW [aE m ks,aE m ks'] Y=.ok (OH (x9 ks' ks)) Y:=by
 have L:=bw h
 obtain⟨S,s,c,hA⟩:=tr (en:=aj) (src:=.fix 0e3) (g:=bc 2 (aD (ag 0) (aD (ag 1) bf))) (e:=fF) (K:=λk=>mY ks' (c8 k).1 (c8 k).2)
  (λi=>∃o f,i=[o,f,some (aE m ks')]) (λ_ _=>trivial) ks [] [] [none,none,some (aE m ks')] [] ⟨_,_,rfl⟩ (by simp;lia) trivial
  (λk j a s i ⟨o, f, l⟩ => by
   subst l;refine aF (h.2.2.2.2 k j) λp q V P Q r=>?_;subst V;refine aP (nu (Y:=Y++O.lst a::s) (a:=p) (b:=q) H ⟨by lia,by lia⟩ ⟨by lia,by lia⟩) λn G E B N=>?_;refine⟨[some (.int p),some (.int q),some (aE m ks')],n,G,⟨_,_,rfl⟩,rfl,?_,B,N⟩
   simp_all[fF])
 rw[YQ]at hA;unfold gW;rw[bB];simp only[mQ,List.replicate,aG,dH,aM,aA,ar,aB,aZ,bh,aK,ai,ao,bE,aa,(show cx [aE m ks,aE m ks'] Y=.ok .non Y by simp_all[yJ]),ae,az,iK,fm,aT];rw[show cJ [none,none,some 1] [some 3e5,some (aE m ks'),none]=[none,none,some (aE m ks')] from rfl,show compLoop (.fix 0e3) 5e8 (bc 2 (aD (ag 0) (aD (ag 1) bf))) aV fF 0e3 [none,none,some (aE m ks')] (Y++[O.lst []])=_ from c];simp;rw[OC hA];simp only[aa,fk,ae];unfold OH;rw[show jP (ks.map λk=>mY ks' (c8 k).1 (c8 k).2)=jP (x9 ks' ks) from rfl];cases F:jP (x9 ks' ks) with
 |false=>
  simp[cD]
 |true=>
  simp only[μ1,Wl,VO,az,bG,aA,ar,aB,aZ,bh,ai,ao,aa];rw[bS (oK rfl)];simp only[aa,cn];rw[show cJ [none] [some 3e5,some (aE m ks'),some 0e8]=[none] from rfl,zo hA F (UX (Ep h) 0e0) λn M=>by rfl];simp only[aa];rw[fj aC];simp only[W4];exact cD N9
end
def ya(ks:0e1)(p q:Int):Prop:=∃n,R (dM ks) p n q
theorem J1{m:Int}(d:5e3){a b:Int}(h:dM ks a b):dM ks b a:=(aX d).mpr ((aX d).mp h).symm
theorem ya.refl:ya ks p p:=⟨0,rfl⟩
theorem uC{ks:0e1}{p a:Int}(H:dM ks a p):∀{n:Nat}{q:Int},R (dM ks) p n q->R (dM ks) a (n+1) q
 |0,q,h=>by
  subst h;exact .inr ⟨a,H,rfl⟩
 |n+1,q,h=>by
  rcases h with h|⟨r,b,c⟩
  ·exact .inl (uC H h)
  ·exact .inr ⟨r,b,uC H c⟩
theorem Dk{m:Int}{ks:0e1}(d:5e3){p:Int}:∀{n:Nat}{q:Int},R (dM ks) p n q->R (dM ks) q n p
 |0,q,h=>by
  exact h.symm
 |n+1,q,h=>by
  rcases h with h|⟨r,H,c⟩
  ·exact .inl (Dk d h)
  ·exact uC (J1 d H) (Dk d c)
theorem uB{ks:0e1}{p q:Int}{n:Nat}(h:R (dM ks) p n q):∀{k:Nat}{r:Int},R (dM ks) q k r->R (dM ks) p (n+k) r
 |0,r,g=>by
  subst g;exact h
 |k+1,r,g=>by
  rcases g with g|⟨s,G,v⟩
  ·exact .inl (uB h g)
  ·exact .inr ⟨s,G,uB h v⟩
theorem ya.sym{m:Int}(d:5e3)(h:ya ks p q):ya ks q p:=let ⟨n,h⟩:=h;⟨n,Dk d h⟩
theorem ya.trans{r:Int}(h:ya ks p q)(k:ya ks q r):ya ks p r:=let ⟨n,h⟩:=h;let ⟨j,k⟩:=k;⟨n+j,uB h k⟩
open Classical in
noncomputable def rB(ks:0e1)(p q:Int):Bool:=decide (ya ks p q)
theorem pH:rB ks p q=true↔ya ks p q:=by simp[rB]
theorem Cc(h:m2 (dM ks) p (λq=>0<=q/\q<(m:Int)) f)(z:0<=q/\q<(m:Int)):(f q).isNone=!rB ks p q:=by
 cases e:f q with
 |none=>
  have:¬ ya ks p q:=λ⟨n,H⟩=>by
   refine bz H.lev λj _ Z=>?_;have:=(h q z j).mpr Z;rw[e]at this;cases this
  simp_all[rB]
 |some j=>
  have:ya ks p q:=⟨j,((h q z j).mp e).r⟩;rw[pH.mpr this];rfl
theorem Fw{o:Option Nat}:(oq o).low n:=by cases o <;> simp[oq]
noncomputable def aQ(m:Nat)(ks:0e1)(s:Int):List Int:=(rg m).filter (rB ks s)
noncomputable def jb(m:Nat)(ks:0e1)(s:Int):Bool:=decide (rx (aQ m ks s)=s)
noncomputable def j5(m:Nat)(ks:0e1):List Int:=(rg m).filter (jb m ks)
theorem FX:dw 0 (dP m f)=(List.range m).map λi=>.tup [.int (i:Nat),oq (f (i:Nat))]:=by
 apply Yv;intro i;simp only[nF,dP,Wi];by_cases h:i<m
 ·simp[X7 h]
 ·rw[Yw (by simpa using h)];rfl
theorem zf{s:Int}(h:m2 (dM ks) s (λq=>0<=q/\q<(m:Int)) f):((List.range m).filter λi=>(f (i:Nat)).isSome).map (λi:Nat=>D.int (i:Nat))=(aQ m ks s).map D.int:=by
 unfold aQ rg;rw[YJ,WE];congr 1;apply List.filter_congr;intro i H;have:=Cc h (q:=(i:Int)) ⟨by lia,by simp_all⟩;cases e:f (i:Nat) with
 |none=>grind
 |some j=>grind
theorem qD{s:Int}(hs:0<=s/\s<(m:Int)):s∈aQ m ks s:=UW.mpr ⟨eh.mpr hs,pH.mpr ya.refl⟩
theorem qa{s:Int}(hs:0<=s/\s<(m:Int)):aQ m ks s≠[]:=by
 grind [qD]
theorem Bp(h:(gw 3e1 m ks)):∃s,gA [.tup [.int m,.tup 0e3]] Y=.ok 0e8 (Y++.lst ((j5 m ks).map λs=>bO (aQ m ks s))::s):=by
 have K:m<=6:=by have:=h.2.2.1;lia
 have J:1<=m:=by have:=h.2.1;lia
 let W:D:=.tup [.int m,.tup 0e3]
 obtain⟨μ,X,⟨d,R,s,u,U,o,E,B,N,k⟩,r⟩:=gS (src:=.fix ((rg m).map D.int)) (g:=ag 2)
  (λS j M=>∃(d R:List Int)(s:ax)(u U o:Option D),rg m=d++R/\S=R.map D.int/\M=Y++.lst ((d.filter (jb m ks)).map λs=>bO (aQ m ks s))::s/\j=[some W,some 0e8,u,U,o])
  (λ_ _ _=>trivial)
  (λx S j M hJJ => by
   obtain⟨d,R,s,u,U,o,E,B,N,k⟩:=hJJ;subst k;cases R with
   |nil=>cases B
   |cons p R=>
    rw[VX]at B;injection B with C G
    subst C G;have H:=eh.mp (show p∈rg m by rw[E];simp);refine eC (oH (Y:=M) h H.1 H.2) λA g f v F Z z=>?_
    have c:=bg (en:=λi=>.tup [.int (i:Nat),oq (f (i:Nat))]) (src:=.eno A (dP m f)) (g:=bc 2 (aD (ag 0) (aD (ag 1) bf))) (t:=iZ) (e:=i7) (Y1:=M++g) (q:=λi=>(f (i:Nat)).isSome)
     (λj=>∃a b,j=[a,b]) (λ_=>aH F) (us:=List.range m) (ρ:=[none,none]) ⟨_,_,rfl⟩
     (by rw[WI,WH];exact UX 0e0 bp)
     (λi V a j hJJ => by
      refine CJ hJJ λx y e=>?_;subst e;refine⟨[some (.int (i:Nat)),some (oq (f (i:Nat)))],⟨_,_,rfl⟩,rfl,?_,λ_=>by unfold i7;rw[ai]⟩;unfold iZ;simp only[cf,aK]
      cases f (i:Nat) <;> rfl)
    rw[YQ,<- FX,zf z]at c
    have L:d.length<1000:=by
     have:(rg m).length=m:=lI;rw[E,V6]at this
     lia
    have r:i4 [some W,some 0e8,some (.int p),U,o] M=.next [some W,some 0e8,some (.int p),some (.obj A),some (bO (aQ m ks p))] (if jb m ks p=true then Y++.lst (((d++[p]).filter (jb m ks)).map λs=>bO (aQ m ks s))::(s++(g++[.lst ((aQ m ks p).map D.int)])) else Y++.lst ((d.filter (jb m ks)).map λs=>bO (aQ m ks s))::(s++(g++[.lst ((aQ m ks p).map D.int)]))):=by
     unfold i4;simp only[aG,aM,aA,ar,aB,ao,ai,aa];rw[v];simp only[ae,bj,YY,YZ,az,aG,aM,aA,ar,aB,aZ,cM,ao,ai,aa];rw[show iE [.obj A] (M++g)=.ok (.eno A (dP m f)) (M++g) from by unfold iE;dsimp only;rw[F]];simp only[aa];rw[show (kE.eno A (dP m f)).items=dw 0 (dP m f) from rfl,show cJ [none,none] _=[none,none] from rfl,c];simp only[aa];rw[fj aC];simp only[ae,bj,YY,YZ,az,bF,cf,aK,ao,ai,bE,aa];rw[show cj (.tup ((aQ m ks p).map D.int)) (.int 0) _=.ok (.int (rx (aQ m ks p))) _ from uS (qa H)];simp only[aa,fO,Wl,VO,bQ,ae];rw[show (rx (aQ m ks p) == p)=jb m ks p from by unfold jb;apply YO.mpr;rw[YV,YS]]
     have Q:M++g++[O.lst ((aQ m ks p).map D.int)]=Y++O.lst ((d.filter (jb m ks)).map λs=>bO (aQ m ks s))::(s++(g++[.lst ((aQ m ks p).map D.int)])):=by
      rw[N];simp only[W4,μ2]
     rw[Q];cases I:jb m ks p with
     |false=>simp only[Wl,VO,bV]
     |true=>
      simp only[VP,dH,l7,ao,ai,aa];rw[show vB 0e8 (Y++O.lst ((d.filter (jb m ks)).map λs=>bO (aQ m ks s))::(s++(g++[.lst ((aQ m ks p).map D.int)])))=true from by unfold vB;dsimp only;rw[aC]];simp only[VP,ar,aB,ao,ai,aa]
      rw[show bJ 0e8 [.tup ((aQ m ks p).map D.int)] (Y++O.lst ((d.filter (jb m ks)).map λs=>bO (aQ m ks s))::(s++(g++[.lst ((aQ m ks p).map D.int)])))=.ok .non (Y++O.lst ((d.filter (jb m ks)).map (λs=>bO (aQ m ks s))++[bO (aQ m ks p)])::(s++(g++[.lst ((aQ m ks p).map D.int)]))) from by
       unfold bJ;dsimp only;rw[aC];dsimp only;rw[Vs,pT];rw[Wb]
       exact μ3 (μ0 _ _) (UT L bp)]
      simp only[ae];rw[List.filter_append,Yn,I,Vs rfl,List.filter_nil,WT];rfl
    refine⟨trivial,_,M,_,_,rfl,r,d++[p],R,s++(g++[.lst ((aQ m ks p).map D.int)]),_,_,_,by rw[E];simp,rfl,?_,rfl⟩
    simp)
  (ρ:=[some W,some 0e8,none,none,none]) (Y:=Y++[O.lst []])
  ⟨[],rg m,[],none,none,none,rfl,rfl,rfl,rfl⟩
 have l:R=[]:=by simp_all
 subst l k;rw[Vu]at E;subst E;refine⟨s,?_⟩;unfold gA;rw[dS];have P:([]:List D).length<=sizeLine:=Wo _;have l:∀Y,ja [.int (m:Int)] Y=.ok (.fix ((rg m).map D.int)) Y:=λY=>by rw[fq 0e0 0e0,yv]
 simp only[og,List.replicate,aG,aM,j8,aB,aa,Vs P,ae,bj,YY,YZ,az,ij,cM,ar,aK,ai,bE,d0,l,aT];rw[r];simp only[az,bG,ao,ai,ae,dF];rw[iD 1e1,N];rfl
section
variable{T:Nat}
theorem Ts{L:List Int}(h:L.Nodup)(R:∀x∈L,0<=x/\x<(m:Int)):L.length<=m:=by
 have:=gx h λx d=>eh.mpr (R x d)
 rwa [lI]at this
end
noncomputable def mZ(w:List Int)(x:Int):Int:=(w.findIdx λz=>z == x:Nat)
section
variable{w:List Int}
theorem FO{x:Int}:(w.map PyData.int).any (λz=>PyData.eqv z (.int x))=decide (x∈w):=by
 apply YO.mpr;simp[PyData.eqv]
theorem Q8{x:Int}(d:x∈w):fv (bO w) [.int x] M=.ok (.int (mZ w x)) M:=by
 unfold fv bO;dsimp only;rw[mz,show hW M (.int x)=some (.int x) from rfl];dsimp only;have l:=jf w;rw[Vs ⟨l.1,rfl,by grind [FO]⟩];unfold mZ;congr 3;rw[List.findIdx_map];rfl
noncomputable def r9(w:List Int)(k:List Int):Bool:=decide ((c8 k).1∈w)&&decide ((c8 k).2∈w)
noncomputable def ye(w:List Int)(k:List Int):Int×Int:=(mZ w (c8 k).1,mZ w (c8 k).2)
theorem N1{x:Int}:iC false (.int x) (bO w) M=.ok (.bl (decide (x∈w))) M:=by
 rw[wb];simp
theorem G6{T:MT}(hT:T=iG (e0 (ay (iC false) 2e3 (ah 2))) (e0 (ay (iC false) 5e7 (ah 2)))){a b:Int}:T [some (.int a),some (.int b),some (bO w)] M=.ok (decide (a∈w)&&decide (b∈w)) M:=by
 subst hT;simp only[jA,cf,aK,ai,ao,aa,N1,bQ]
 lia
theorem Lo{E:ME}(hE:E=cK (af (vN fv (ah 2) (af 2e3 aw)) (af (vN fv (ah 2) (af 5e7 aw)) aw))){a b:Int}(A:a∈w)(B:b∈w):E [some (.int a),some (.int b),some (bO w)] M=.ok (dJ (mZ w a,mZ w b)) M:=by
 subst hE
 have e:∀(x:Int)(f:ME)(c:Ro),x∈w->f c M=.ok (.int x) M->ah 2 c M=.ok (bO w) M->vN fv (ah 2) (af f aw) c M=.ok (.int (mZ w x)) M:=λx f c d H h=>by
  unfold vN;rw[h];simp only[aa,bO,ar,aB,H];exact Q8 d
 rw[dR,ar,e a 2e3 _ A rfl rfl,aa,ar,e b 5e7 _ B rfl rfl];rfl
end
theorem Bv(h:GW m ks):cL ks=ks:=by
 have U:GW m (cL ks):=kk (by have:=h.m0;lia) (by have:=h.m6;lia) h.2.2.2.2;refine dU U h λa b=>?_;unfold cL;rw[UW,YS];exact⟨λz=>z.2,λz=>⟨(h.2.2.2.2 _ z).prs (by have:=h.m6;lia),z⟩⟩
def OP(m:Nat)(w:List Int):Prop:=w≠[]/\w.Pairwise (·<·)/\∀x∈w,0<=x/\x<(m:Int)
noncomputable def kW(w:List Int)(ks:0e1):List 4e2:=(ks.filter (r9 w)).map λk=>[mZ w (c8 k).1,mZ w (c8 k).2]
section
variable{w:List Int}
theorem OP.len(h:OP m w):w.length<=m:=Ts (h.2.1.imp λh=>Int.ne_of_lt h) h.2.2
theorem uP{x y:Int}:mZ (x::w) y=if y=x then 0 else mZ w y+1:=by
 unfold mZ
 grind
theorem ju:∀{w:List Int}{x:Int},x∈w->0<=mZ w x/\mZ w x<(w.length:Int)
 |y::w,x,h=>by
  rw[uP];by_cases e:x=y
  ·rw[Vs e];simp only[Wd];lia
  ·rw [Vt e];rcases U2.mp h with z|z
   ·exact absurd z e
   ·have := ju z;simp only[Wd]
    lia
theorem vY:∀{w:List Int}{x y:Int},w.Pairwise (·<·)->x∈w->y∈w->x<y->mZ w x<mZ w y
 |z::w,x,y,p,d,μ,h=>by
  rw[uP,uP];have Z:∀u∈w,z<u:=λu U=>List.rel_of_pairwise_cons p U;rcases U2.mp d with rfl|d
  ·rw [Vs rfl, Vt 0e0];rcases U2.mp μ with e|μ
   ·lia
   ·have:=ju μ;lia
  ·have := Z x d;rcases U2.mp μ with e|μ
   ·lia
   ·have := Z y μ;rw[Vt 0e0,Vt 0e0];have:=vY p.of_cons d μ h
    lia
theorem gQ(h:GW m ks)(L:OP m w):GW w.length (kW w ks):=by
 have m6:=h.m6;have Q:=L.len;have W:1<=w.length:=by cases w with|nil=>exact absurd rfl L.1|cons _ _=>simp
 have mem:∀k∈ks.filter (r9 w),∃a b,k=[a,b]/\a<b/\a∈w/\b∈w:=λk K=>by
  obtain⟨l,g⟩:=UW.mp K;refine aF (h.2.2.2.2 k l) λa b v q f u=>?_;subst v;simp only[r9,c8,Zn,Zo,Yl,YS]at g;exact⟨a,b,rfl,f,g.1,g.2⟩
 refine⟨rfl,by lia,by lia,?_,λk K=>?_⟩
 ·unfold kW;rw[Yg];refine(h.2.2.2.1.sublist List.filter_sublist).imp_of_mem ?_;intro k i K H t;refine aF (mem k K) λa b V f A B=>?_;subst V;refine aF (mem i H) λc d o x j D=>?_;subst o;have s:=L.2.2 b B;have y:=L.2.2 d D;have r:=L.2.2 a A;have C:=L.2.2 c j;simp only[nP,c8,Zn,Zo]at t⊢;have R:=ju B;have z:=ju D;by_cases e:a=c
  ·subst e;have:=vY L.2.1 B D 0e0
   lia
  ·have := vY L.2.1 A j 0e0
   lia
 ·unfold kW at K;obtain⟨i,H,rfl⟩:=WM.mp K;refine aF (mem i H) λa b p f A B=>?_;subst p;exact⟨_,_,rfl,(ju A).1,vY L.2.1 A B f,(ju B).2⟩
theorem Q7(h:GW m ks)(L:OP m w):(∀p∈(ks.filter (r9 w)).map (ye w),PP w.length p)/\((ks.filter (r9 w)).map (ye w)).map mm=kW w ks:=by
 have g:=gQ h L
 have mem:∀k∈ks.filter (r9 w),0<=(ye w k).1/\(ye w k).1<(ye w k).2/\(ye w k).2<(w.length:Int):=λk d=>by
  refine aF (g.2.2.2.2 [mZ w (c8 k).1,mZ w (c8 k).2] (Xf (f:=λk=>[mZ w (c8 k).1,mZ w (c8 k).2]) d)) λa b e c i j=>?_
  simp_all[ye]
 refine⟨λp H=>?_,?_⟩
 ·obtain⟨k,d,rfl⟩:=WM.mp H;have:=mem k d;exact⟨by lia,by lia,by lia⟩
 ·unfold kW;rw[WE];apply WG;intro k d;have:=mem k d;show [min (ye w k).1 (ye w k).2,max (ye w k).1 (ye w k).2]=_;rw[Int.min_eq_left 0e0,Int.max_eq_right 0e0];rfl
theorem Be(h:GW m ks)(L:OP m w)(R:cG [.int (m:Int),bO w] Y=.ok (.bl true) Y):mF [aE m ks,bO w] Y=.ok (aE w.length (kW w ks)) Y:=by
 have m6:=h.m6;have Q:=L.len;have W:1<=w.length:=by cases w with|nil=>exact absurd rfl L.1|cons _ _=>simp
 have l:=bw h;obtain⟨p,E⟩:=Q7 h L;have K:(ks.filter (r9 w)).length<=15:=UX (μ0 _ _) l;have N:0+1+1<=sizeLine:=l2;have mem:∀k∈ks,∃a b,k=[a,b]:=λk d=>by obtain⟨a,b,rfl,_⟩:=h.2.2.2.2 k d;exact⟨a,b,rfl⟩
 have c1:=bg (U:=List Int) (en:=aj) (src:=.fix 0e3) (g:=bc 2 1e6) (t:=qM) (e:=lU) (Y1:=Y) (q:=r9 w) (h:=aj) (λc=>∃o f,c=[o,f,some (bO w)]) (λ_=>trivial) (us:=ks) (acc:=[]) (ρ:=[none,none,some (bO w)]) ⟨_,_,rfl⟩
  (by rw[WI];exact UX 0e0 bp)
  (λk d a c hJJ => by
   refine CJ hJJ λo f e=>?_;subst e;obtain⟨x,y,rfl⟩:=mem k d;refine⟨[some (.int x),some (.int y),some (bO w)],⟨_,_,rfl⟩,rfl,G6 rfl,λ_=>?_⟩;unfold lU;simp only[dR,ar,aB,ao,ai,aa,Wd,WI,Vs N]
   rfl)
 rw[YQ]at c1;let i:ax:=Y++[.lst ((ks.filter (r9 w)).map aj)]
 have C:=bg (U:=List Int) (en:=aj) (src:=.own 5e8 ((ks.filter (r9 w)).map aj)) (g:=bc 2 1e6) (t:=aV) (e:=qP) (Y1:=i) (q:=λ_=>true) (h:=λk=>dJ (ye w k)) (λc=>∃o f,c=[o,f,some (bO w)]) (λ_=>aH aC) (us:=ks.filter (r9 w)) (acc:=[]) (ρ:=[none,none,some (bO w)]) ⟨_,_,rfl⟩
  (by rw[WI];exact UX 0e0 bp)
  (λk d a c hJJ => by
   refine CJ hJJ λo f e=>?_;subst e;obtain⟨j,H⟩:=UW.mp d;obtain⟨x,y,rfl⟩:=mem k j;simp only[r9,c8,Zn,Zo,Yl,YS]at H
   exact⟨[some (.int x),some (.int y),some (bO w)],⟨_,_,rfl⟩,rfl,rfl,λ_=>Lo rfl H.1 H.2⟩)
 rw[dA,YQ,show (ks.filter (r9 w)).map (λk=>dJ (ye w k))=((ks.filter (r9 w)).map (ye w)).map dJ from by rw[WE];rfl]at C;have r:=wF (Y:=i++[O.lst (((ks.filter (r9 w)).map (ye w)).map dJ)]) (t:=i.length) (m:=w.length) W 0e0 aC p;rw[E,Bv (gQ h L)]at r;unfold mF;rw[bB];simp only[xF,List.replicate];rw[aG,aM];simp only[ai,ae,JJ,Wd,WI,VP,FV,bj,JL,aa,az,YY,YZ];rw[aG,bF];simp only[fu,fe,aA,ar,aB,ai,ao,aa,R,ak,fk,μ1,ae,Wl,VO,bV,az];rw[aG,aM];simp only[aZ,bh,ai,ao,aa,fm,aT];rw[show cJ [none,none,some 1] _=[none,none,some (bO w)] from rfl,c1];simp only[ae,bj,az,YY,YZ];rw[bG];simp only[aA,ar,aB,aZ,bh,ai,ao,aa,kH,Wb];rw[bS aC];simp only[aa,cn];rw[show cJ [none,none,some 1] _=[none,none,some (bO w)] from rfl];rw[show compLoop (.own 5e8 ((ks.filter (r9 w)).map aj)) (Y++[O.lst ((ks.filter (r9 w)).map aj)]).length _ _ _ _ _ (Y++[O.lst ((ks.filter (r9 w)).map aj)]++[O.lst []])=_ from C]
 grind [aa,ae,dF,cD,cZ,gQ]
end
section
theorem HS{w:List Int}:OF m (bO w)=((w.all λx=>decide (0<=x)&&decide (x<(m:Int)))&&(decide (0<w.length)&&yh w)):=by
 unfold OF;rw[zK];congr 1;show (w.map D.int).all (ie 0 ((m:Int)-1))=_;rw[Yb];apply List.all_congr
 ·rfl
 ·intro x;show (decide (0<=x)&&decide (x<=(m:Int)-1))=_
  lia
theorem Mj{w:List Int}:OF m (bO w)=true↔OP m w:=by
 rw[HS,Yl,Yl,Xg,E9,YS];constructor
 ·rintro ⟨H, c, d⟩
  refine⟨by rintro rfl;simp at c,d,λx h=>by simpa using H x h⟩
 ·rintro ⟨H, c, d⟩
  grind
end
noncomputable def AY(m:Nat)(ks ls:0e1):List (Int×Int):=ks.map c8++ls.map λk=>((m:Int)+(c8 k).1,(m:Int)+(c8 k).2)
section
theorem Ii(h:5e3):ks.map aj=(ks.map c8).map dJ:=by
 rw[WE];apply WG;intro k d;refine bH (h k d) λa b V _=>?_;subst V;rfl
theorem lJ(h:GW m ks)(c:GW n ls):∀p∈AY m ks ls,PP (m+n) p:=λp H=>by
 unfold AY at H;rcases U4.mp H with z|z
 ·obtain⟨k,d,rfl⟩:=WM.mp z;obtain⟨a,b,rfl,e,f,u⟩:=h.2.2.2.2 k d;refine⟨⟨?_,?_⟩,⟨?_,?_⟩,?_⟩ <;> simp only[c8,Zn,Zo] <;> lia
 ·obtain⟨k,d,rfl⟩:=WM.mp z;obtain⟨a,b,rfl,e,f,u⟩:=c.2.2.2.2 k d;refine⟨⟨?_,?_⟩,⟨?_,?_⟩,?_⟩ <;> simp only[c8,Zn,Zo] <;> lia
theorem Bf{e:ME}{c:Option Nat}{x:D}(h:GW m ks)(H:GW n ls)(X:cJ [none,none,c] ρ=[none,none,some x])(i:∀(a b:Int) M,e [some (.int a),some (.int b),some x] M=.ok (dJ ((m:Int)+a,(m:Int)+b)) M){f1 f2:ME}(e1:f1 ρ Y=.ok 3e7 Y)(e2:∀M,f2 ρ M=.ok (.tup (ls.map aj)) M):
  ay du (au jQ (af f1 aw)) (bu (cI f2) [none,none,c] (bc 2 1e6) aV e) ρ Y=.ok (.obj (Y.length+2)) (Y++[.lst 0e3]++[.lst (ls.map λk=>dJ ((m:Int)+(c8 k).1,(m:Int)+(c8 k).2))]++[.lst ((AY m ks ls).map dJ)]):=by
 have L:=bw H;have l:=bw h;let d:ax:=Y++[.lst 0e3]
 have c1:=bg (U:=List Int) (en:=aj) (src:=.fix (ls.map aj)) (g:=bc 2 1e6) (t:=aV) (e:=e) (Y1:=d) (q:=λ_=>true) (h:=λk=>dJ ((m:Int)+(c8 k).1,(m:Int)+(c8 k).2)) (λρ=>∃o f,ρ=[o,f,some x]) (λ_=>trivial) (us:=ls) (acc:=[]) (ρ:=[none,none,some x]) ⟨_,_,rfl⟩
  (by grind [bp])
  (λk K a ρ hJJ => by
   refine CJ hJJ λo f e=>?_;subst e;refine bH (H.2.2.2.2 k K) λy z v _=>?_;subst v
   exact⟨[some (.int y),some (.int z),some x],⟨_,_,rfl⟩,rfl,rfl,λ_=>i y z _⟩)
 rw[dA,YQ]at c1;rw[aK,aA,ar,e1];simp only[aa,aB];rw[show jQ [.tup 0e3] Y=.ok 0e8 d from rfl];simp only[aa,aZ,bh,e2,fm,aT,X,c1];have A:=AX (Y:=d++[O.lst (ls.map λk=>dJ ((m:Int)+(c8 k).1,(m:Int)+(c8 k).2))]) (a:=5e8) (b:=d.length) (aH aC) aC (by rw[Wb,Wb];lia);rw[A];have E:(d++[O.lst (ls.map λk=>dJ ((m:Int)+(c8 k).1,(m:Int)+(c8 k).2))]).length=Y.length+2:=by simp[d]
 rw[E,show (AY m ks ls).map dJ=ks.map aj++ls.map (λk=>dJ ((m:Int)+(c8 k).1,(m:Int)+(c8 k).2)) from by unfold AY;rw[WT,Ii h.2.2.2.2,WE,WE];rfl]
theorem JW{K:SO->aq D}(h:GW m ks)(H:GW n ls)(r:aq D)(e:rn Y (aO (jL (e0 (ay (eJ .Gt) (ah 6) (cC (.int 6)))) (oo) (bW))
 (bx (au ji (af (ah 6) (af (ay du (au jQ (af (ah 3) (aw))) (bu (cI (ah 5)) [none,none,some 2] (bc 2 1e6) (aV) (qR))) (aw))))) [some 3e5,some (aE n ls),some (.int (m:Int)),some 3e7,some (.int (n:Int)),some (.tup (ls.map aj)),some (.int ((m+n:Nat):Int))] Y).out=r):kh [aE m ks,aE n ls] Y=r:=by
 rw[<- e];rfl
theorem tK(h:GW m ks)(H:GW n ls)(d:m+n<=6):kh [aE m ks,aE n ls] Y=.ok (aE (m+n) (cL ((AY m ks ls).map mm))) Y:=by
 have R:=h.m0;refine JW (K:=λ_=>.bad) h H _ ?_;simp only[aG,bF,cf,aK,bE,ai,ao,aa,kI,bQ,show cmpI .Gt ((m+n:Nat):Int) 6=false from UQ 0e0,ae,Wl,VO,bV,az];rw[bG,aA,ar];simp only[ai,ao,aa]
 rw[ar,Bf h H rfl (λa b M=>by
  rfl) rfl (λ_=>rfl)]
 simp only[aa,aB];rw[wF 0e0 d (by rw[<- (show (Y++[O.lst 0e3]++[O.lst (ls.map λk=>dJ ((m:Int)+(c8 k).1,(m:Int)+(c8 k).2))]).length=Y.length+2 by simp)];exact aC) (lJ h H)];simp;exact cD (cZ (gP 0e0 d (lJ h H)))
end
end Lw
namespace Lv
theorem Ee{v t:Nat}(V:v<2^t):jZ (c%2^t) v=jZ c v:=by
 apply YO.mpr;rw[gi,gi];constructor
 ·grind
 ·intro h b B;rw[Zp,Yl,YS];exact⟨yL V B,h b B⟩
theorem xf(c t:Nat):c%2^(t+1)=if c.testBit t=true then c%2^t ||| 2^t else c%2^t:=by
 apply μ7;intro b;rw[Zp];by_cases h:c.testBit t=true
 ·rw [Vs h, Nat.testBit_or, Zp, μ8];by_cases e:b=t
  ·subst e;simp[h]
  ·have : decide (t = b) = false := UQ (λz => e z.symm);rw[this,Bool.or_false];congr 1
   lia
 ·rw [Vt h, Zp];by_cases e:b=t
  ·subst e;simp[h]
  ·congr 1
   lia
theorem Az:∀(vs:List Nat)(x:Nat),x<=vs.foldl max x/\∀v∈vs,v<=vs.foldl max x
 |[],x=>⟨Vn _,λv V=>by cases V⟩
 |w::vs,x=>by
  obtain⟨H,c⟩:=Az vs (max x w);refine⟨UX (Ze _ _) H,λv V=>?_⟩;rcases U2.mp V with rfl|V
  ·exact UX (Zd _ _) H
  ·exact c v V
theorem AU{ks:0e1}{es:List Wy}{c:Nat}(hA:∀e∈es,e.1∉ks->jZ c e.2=false)(hB:∀k∈ks,∃v∈jY es k,jZ c v=true)(R:∀e∈es,0<e.2):∀t,c%2^t∈kD ks es t
 |0=>by simp[kD,Nat.mod_one]
 |t+1=>by
  have I:=AU hA hB R t;unfold kD C5;rw[UW];constructor
  ·rw [xf];by_cases h:c.testBit t=true
   ·rw [Vs h];refine Vq _ (UW.mpr ⟨WM.mpr ⟨_,I,rfl⟩,?_⟩);rw[Zk];unfold OL;rw[List.any_eq_false];intro e n;rw[Yl,Yl]
    rintro⟨⟨H,a⟩,d⟩
    rw[Zk,Zl]at H
    have i:e.2<2^(t+1):=by
     have V:e.2≠0:=by have:=R e n;lia
     exact(μ9 V).mp (by have:=eq_of_beq a;lia)
    rw[(show c%2^t ||| 2^t=c%2^(t+1) by rw[xf,Vs h]),Ee i,hA e n H]at d;cases d
   ·rw[Vt h];exact U5 _ I
  ·unfold stB;rw[Xg];intro k K;by_cases z:lZ (jY es k)=t
   ·have : (lZ (jY es k) == t) = true := by simpa using z
    rw[this];simp only[μ1,Bool.false_or];rw[YR];refine bz (hB k K) λv V b=>?_;refine⟨v,V,?_⟩
    have i:v<2^(t+1):=by
     have H:=(Az (jY es k) 0).2 v V;have f:=R _ (dG.mp V);have:(jY es k).foldl max 0<2^(t+1):=(μ9 0e0).mp (by unfold lZ at z;lia)
     lia
    rw[Ee i];exact b
   lia
end Lv
namespace Lw
open PySem L2 RS Lv
section
theorem qc:k∈fM ks c↔∃i,ks[i]?=some k/\c.testBit i=true:=by
 simp[fM,oJ]
theorem ke(h:GW m ks):dM (fM ks c) p q↔∃i,Jn ks i p q/\c.testBit i=true:=by
 rw[aX (iJ h c).2.2.2.2,qc,qc];constructor
 ·rintro (⟨i, H, a⟩ | ⟨i, H, a⟩)
  ·exact⟨i,.inl H,a⟩
  ·exact⟨i,.inr H,a⟩
 ·rintro ⟨i, H | H, a⟩
  ·exact .inl ⟨i,H,a⟩
  ·exact .inr ⟨i,H,a⟩
theorem eb{a b:Int}(B:a≠b):R (dM ks) a 2 b↔dM ks a b\/∃d,dM ks a d/\dM ks d b:=by
 constructor
 ·intro r;refine bz (oP (k:=1) r) λc e M=>?_;rcases Dl.mp e with rfl|f
  ·rcases Dl.mp M with rfl | K
   all_goals lia
  ·rcases Dl.mp M with rfl | K
   all_goals grind
 ·rintro (z | ⟨d, Z, G⟩)
  ·exact(R.one z).mono 1e0
  ·exact(R.one Z).add (R.one G)
theorem mw(h:GW m ks){a b:Int}(n:0<=a/\a<(m:Int))(B:a<b)(H:b<(m:Int)):[a,b]∈gD m (fM ks c) 2↔∃v,([a,b],v)∈EV m ks/\jZ c v=true:=by
 rw[dC h.m6,Dw (jv h) (eh.mpr n) B,eb 0e0,ke h];constructor
 ·rintro ⟨_, _, _, z | ⟨d, Z, G⟩⟩
  ·exact .inl z
  ·exact .inr ⟨d,(ke h).mp Z,(ke h).mp G⟩
 ·rintro (z | ⟨d, Z, G⟩)
  ·exact⟨n.1,B,H,.inl z⟩
  ·exact⟨n.1,B,H,.inr ⟨d,(ke h).mpr Z,(ke h).mpr G⟩⟩
theorem AS(h:GW m ks):c∈kD ks (EV m ks) ks.length↔c<2^ks.length/\gD m (fM ks c) 2=ks:=by
 have R:∀e∈EV m ks,0<e.2:=λe u=>(ui h e u).2.1;constructor
 ·intro C;obtain⟨A,B⟩:=kR R ks.length c C;refine⟨fP _ c C,dU (bR h.m0 h.m6) h λa b=>?_⟩;constructor
  ·intro M;have f:=(dC h.m6).mp M;apply Decidable.byContradiction;intro O;obtain⟨v,V,H⟩:=(mw h ⟨f.1,by lia⟩ f.2.1 f.2.2.1).mp M;rw[A _ V O (ui h _ V).2.2]at H;cases H
  ·intro M;refine aF (h.2.2.2.2 _ M) λx y e n o r=>?_;cases e;obtain⟨v,V,H⟩:=B _ M ((Kg (yC h M) λv V=>(ui h _ (dG.mp V)).2).2);exact(mw h ⟨n,by lia⟩ o r).mpr ⟨v,dG.mp V,H⟩
 ·rintro ⟨T, e⟩
  have:=AU (ks:=ks) (c:=c) (λE l N=>?_) (λk K=>?_) R ks.length
  ·simp_all[Nat.mod_eq_of_lt]
  ·cases H : jZ c E.2 with
   |false=>rfl
   |true=>
    refine aF ((jw (jv h)).mp l) λp q P Q t _=>?_;have V:([p,q],E.2)∈EV m ks:=by rw[<- t];exact l
    have w:=eh.mp P;refine aF ((jw (jv h)).mp V) λJ L _ _ s Z=>?_;cases s
    have I:q<(m:Int):=by
     have lt:∀i d,Jn ks i d q->q<(m:Int):=λi d Z=>by
      rcases Z with z|z
      ·exact(eh.mp (zO h _ (VH z) q 1e1)).2
      ·exact(eh.mp (zO h _ (VH z) q 1e1)).2
     rcases Z with⟨i,Z,_⟩|⟨b,i,j,_,Z,_⟩
     ·exact lt i _ Z
     ·exact lt j _ Z
    grind [mw]
  ·refine aF (h.2.2.2.2 k K) λa b G n o r=>?_;subst G;have g:=K;rw[<- e]at g;refine bz ((mw h ⟨n,by lia⟩ o r).mp g) λv V H=>?_;exact⟨v,dG.mpr V,H⟩
noncomputable def C9(f:Nat->Bool):Nat->Nat
 |0=>0
 |n+1=>2^n*(f n).toNat+C9 f n
theorem uH(f:Nat->Bool):∀n,C9 f n<2^n
 |0=>Nat.one_pos
 |n+1=>by
  have:=uH f n;unfold C9;rw[Nat.pow_succ];cases f n <;> simp <;> lia
theorem qe(f:Nat->Bool):∀n i,i<n->(C9 f n).testBit i=f i
 |n+1,i,H=>by
  unfold C9;rw[Nat.testBit_two_pow_mul_add _ (uH f n)];by_cases h:i<n
  ·rw[Vs h,qe f n i h]
  ·rw[Vt h,show i=n by lia,W3];cases f n <;> rfl
theorem pX(h:GW m ks):(∃l,GW m l/\gD m l 2=ks)↔RL m ks≠[]:=by
 have e:RL m ks=[]↔kD ks (EV m ks) ks.length=[]:=by
  grind [Mn]
 rw[Ne,e];constructor
 ·rintro ⟨l, L, B⟩ z
  have sub:∀k∈l,k∈ks:=λk d=>by
   have:=Kh L (j:=1) (k:=2) 1e0 (by rw[DP L];exact d)
   rwa [B]at this
  let f:Nat->Bool:=λi=>decide (∃k∈l,ks[i]?=some k)
  have p:=dU (iJ h _) L λa b=>by
   rw[qc];constructor
   ·rintro ⟨i, g, n⟩
    rw[qe f _ i (VY.mp g).1]at n;obtain⟨k,d,o⟩:=YD n;rw[g]at o;cases o;exact d
   ·intro d;obtain⟨i,H⟩:=WR (sub _ d);exact⟨i,H,by rw[qe f _ i (VY.mp H).1];exact Xu ⟨_,d,H⟩⟩
  have:=(AS h).mpr ⟨uH f ks.length,by rw[p];exact B⟩
  simp_all
 ·intro E;obtain⟨c,C⟩:=Zh _ E
  grind [iJ,AS]
end
section
open Classical
noncomputable def fL(m:Nat)(P:(Int->Int->Prop)):List 4e2:=prs.filter λx=>decide (x.getD 1 0<(m:Int)/\P (x.getD 0 0) (x.getD 1 0))
theorem iX{P:(Int->Int->Prop)}{a b:Int}(M:m<=6):[a,b]∈fL m P↔(0<=a/\a<b/\b<(m:Int)/\P a b):=by
 unfold fL;rw[UW,YU];constructor
 ·rintro ⟨H, h, f⟩
  refine aF (eU H) λc d e G v C=>?_;injection e with E B
  injection B with B _
  subst E B;exact⟨G,v,h,f⟩
 ·rintro ⟨H, h, f, g⟩
  exact⟨oI H h 0e0,f,g⟩
theorem mh{P:(Int->Int->Prop)}(e:1<=m)(M:m<=6):GW m (fL m P):=by
 refine⟨rfl,by lia,by lia,jC.filter _,λx d=>?_⟩;refine aF (eU (UW.mp d).1) λa b v G g C=>?_;subst v;refine tX ((iX M).mp d) λH c h _=>?_;exact⟨a,b,rfl,H,c,h⟩
end
noncomputable def k9(w:List Int)(i:Int):Int:=w.getD i.toNat 0
def kZ(m:Nat)(w:List Int):Prop:=w≠[]/\w.Pairwise (·<·)/\∀x∈w,0<=x/\x<(m:Int)
noncomputable def kP(w:List Int)(ks:0e1):List 4e2:=fL w.length λi j=>[k9 w i,k9 w j]∈ks
section
variable{w:List Int}
theorem gh{i:Int}(d:0<=i)(H:i<(w.length:Int)):k9 w i∈w:=by
 simp_all[k9]
theorem uK{x:Int}(h:x∈w):∃i:Int,0<=i/\i<(w.length:Int)/\k9 w i=x:=by
 obtain⟨i,H,e⟩:=XX h;refine⟨i,by lia,by lia,?_⟩
 simp_all[k9]
theorem kZ.lt(h:kZ m w){i j:Int}(d:0<=i)(J:i<j)(Z:j<(w.length:Int)):k9 w i<k9 w j:=by
 unfold k9;have a:i.toNat<w.length:=by lia
 have b:j.toNat<w.length:=by lia
 rw[Yj,Yj,Xx a,Xx b];exact WK.mp h.2.1 _ _ a b 0e0
theorem kZ.ne(h:kZ m w){i j:Int}(d:0<=i)(H:i<(w.length:Int))(J:0<=j)(Z:j<(w.length:Int))(e:k9 w i=k9 w j):i=j:=by
 rcases Zq i j with z|z|z
 ·have:=h.lt d z Z;lia
 ·exact z
 ·have:=h.lt J z H;lia
theorem kZ.iff(h:kZ m w){i j:Int}(d:0<=i)(H:i<(w.length:Int))(J:0<=j)(Z:j<(w.length:Int)):k9 w i<k9 w j↔i<j:=by
 constructor
 ·intro z;rcases Zq i j with y|y|y
  ·exact y
  ·subst y;lia
  ·have:=h.lt J y H;lia
 ·intro z;exact h.lt d z Z
theorem Po{k:Nat}:∀{m:Nat}{w:List Int},w.Nodup->(∀x∈w,(k:Int)<=x/\x<((k+m:Nat):Int))->w.length<=m
 |0,[],_,_=>Vn _
 |0,x::_,_,h=>by have:=h x U0;lia
 |m+1,w,n,h=>by
  have e:=List.length_erase (a:=((k+m:Nat):Int)) (l:=w)
  have:=Po (k:=k) (m:=m) (w:=w.erase ((k+m:Nat):Int)) (n.erase _) λx d=>by
   have H:=(List.Nodup.mem_erase_iff n).mp d;have c:=h x H.2;have b:=H.1
   lia
  rw[e]at this;split at this <;> lia
theorem kZ.len(h:kZ m w):1<=w.length/\w.length<=m:=by
 refine⟨Yk.mpr h.1,?_⟩;have:w.Nodup:=h.2.1.imp λz=>Int.ne_of_lt z;exact Po (k:=0) this λx d=>by have:=h.2.2 x d;lia
theorem m8(g:GW m ks)(h:kZ m w){i j:Int}:dM (kP w ks) i j↔(0<=i/\i<(w.length:Int))/\(0<=j/\j<(w.length:Int))/\dM ks (k9 w i) (k9 w j):=by
 have L:w.length<=6:=UX h.len.2 g.m6;unfold kP;rw[aX (mh h.len.1 L).2.2.2.2,aX g.2.2.2.2,iX L,iX L];constructor
 ·rintro (⟨H, f, d, c⟩ | ⟨H, f, d, c⟩)
  ·exact⟨⟨H,by lia⟩,⟨by lia,d⟩,.inl c⟩
  ·exact⟨⟨by lia,d⟩,⟨H,by lia⟩,.inr c⟩
 ·rintro ⟨⟨H, f⟩, ⟨d, c⟩, k | k⟩
  ·obtain ⟨a, b, e, q, J, Q⟩ := g.2.2.2.2 _ k;injection e with E B
   injection B with B _
   exact .inl ⟨H,(h.iff H f d c).mp 0e0,c,k⟩
  ·obtain ⟨a, b, e, q, J, Q⟩ := g.2.2.2.2 _ k;injection e with E B
   injection B with B _
   exact .inr ⟨d,(h.iff d c H f).mp 0e0,f,k⟩
theorem J2(g:GW m l)(e:gD m l 2=ks){a b:Int}(h:dM l a b):dM ks a b:=by
 have sub:∀k∈l,k∈ks:=λk d=>by
  have:=Kh g (j:=1) (k:=2) 1e0 (by rw[DP g];exact d)
  rwa [e]at this
 have G:GW m ks:=by rw[<- e];exact bR g.m0 g.m6
 rw[aX g.2.2.2.2]at h;rw[aX G.2.2.2.2]
 grind
theorem BD(g:GW m ks)(G:GW m l)(e:gD m l 2=ks)(h:kZ m w)(C:∀a∈w,∀b,dM ks a b->b∈w):gD w.length (kP w l) 2=kP w ks:=by
 have L:w.length<=6:=UX h.len.2 g.m6;refine dU (bR h.len.1 L) (mh h.len.1 L) λi j=>?_;show _↔[i,j]∈kP w ks;unfold kP;rw[dC L,iX L];constructor
 ·rintro ⟨H, f, c, n⟩
  refine⟨H,f,c,?_⟩;have I:=h.2.2 _ (gh H (by lia:i<(w.length:Int)));have J:=h.2.2 _ (gh (by lia:0<=j) c);rw[<- e,dC g.m6];refine⟨I.1,h.lt H f c,J.2,(eb (by have:=h.lt H f c;lia)).mpr ?_⟩;rcases (eb 0e0).mp n with z|⟨d,Z,o⟩
  ·exact .inl ((m8 G h).mp z).2.2
  ·exact .inr ⟨_,((m8 G h).mp Z).2.2,((m8 G h).mp o).2.2⟩
 ·rintro ⟨H, f, c, n⟩
  refine⟨H,f,c,(eb 0e0).mpr ?_⟩;rw[<- e,dC g.m6]at n;rcases (eb (by have:=n.2.1;lia)).mp n.2.2.2 with z|⟨d,Z,o⟩
  ·exact .inl ((m8 G h).mpr ⟨⟨H,by lia⟩,⟨by lia,c⟩,z⟩)
  ·refine bI (uK (C _ (gh H 0e0) d (J2 G e Z))) λk K p V=>?_;subst V;exact .inr ⟨k,(m8 G h).mpr ⟨⟨H,by lia⟩,⟨K,p⟩,Z⟩,(m8 G h).mpr ⟨⟨K,p⟩,⟨by lia,c⟩,o⟩⟩
theorem BF(g:GW m ks){Ws:0e1}{r:List Int->List 4e2}(hL:∀w∈Ws,kZ m w)(K:∀w∈Ws,∀a∈w,∀b,dM ks a b->b∈w)
  (cov:∀a:Int,0<=a->a<(m:Int)->∃w∈Ws,a∈w) (dis:∀w∈Ws,∀w'∈Ws,∀a,a∈w->a∈w'->w=w') (H:∀w∈Ws,GW w.length (r w)/\gD w.length (r w) 2=kP w ks):∃l,GW m l/\gD m l 2=ks:=by
 let P:Int->Int->Prop:=λa b=>∃w∈Ws,∃i j,k9 w i=a/\k9 w j=b/\[i,j]∈r w
 have G:GW m (fL m P):=mh g.m0 g.m6
 have rng:∀w∈Ws,∀i j,dM (r w) i j->(0<=i/\i<(w.length:Int))/\(0<=j/\j<(w.length:Int)):=λw W i j z=>by
  rcases (aX (H w W).1.2.2.2.2).mp z with z|z
  ·obtain⟨a,b,e,Q,t,L⟩:=(H w W).1.2.2.2.2 _ z;cases e;exact⟨⟨Q,by lia⟩,⟨by lia,L⟩⟩
  ·obtain⟨a,b,e,Q,t,L⟩:=(H w W).1.2.2.2.2 _ z;cases e;exact⟨⟨by lia,L⟩,⟨Q,by lia⟩⟩
 have adjL:∀a b,dM (fL m P) a b↔∃w∈Ws,∃i j,k9 w i=a/\k9 w j=b/\dM (r w) i j:=λa b=>by
  rw[aX G.2.2.2.2];constructor
  ·rintro (z | z)
   ·obtain⟨_,_,_,w,W,i,j,E,B,z⟩:=(iX g.m6).mp z;exact⟨w,W,i,j,E,B,(aX (H w W).1.2.2.2.2).mpr (.inl z)⟩
   ·obtain⟨_,_,_,w,W,i,j,E,B,z⟩:=(iX g.m6).mp z;exact⟨w,W,j,i,B,E,(aX (H w W).1.2.2.2.2).mpr (.inr z)⟩
  ·rintro ⟨w, W, i, j, rfl, rfl, z⟩
   have h:=hL w W
   have up:∀i j,[i,j]∈r w->[k9 w i,k9 w j]∈fL m P:=λi j z=>by
    obtain⟨a,b,e,Q,t,L⟩:=(H w W).1.2.2.2.2 _ z;cases e;have I:=h.2.2 _ (gh Q 0e0);have Z:=h.2.2 _ (gh 0e0 L);exact(iX g.m6).mpr ⟨I.1,h.lt Q t L,Z.2,w,W,i,j,rfl,rfl,z⟩
   rcases (aX (H w W).1.2.2.2.2).mp z with z|z
   all_goals simp_all
 have two:∀w∈Ws,∀i j:Int,(0<=i/\i<(w.length:Int))->(0<=j/\j<(w.length:Int))->i≠j->R (dM (r w)) i 2 j->dM ks (k9 w i) (k9 w j):=λw W i j I Z J z=>by
  have h:=hL w W;have o:=UX h.len.2 g.m6
  have key:∀i j:Int,0<=i->i<j->j<(w.length:Int)->R (dM (r w)) i 2 j->[k9 w i,k9 w j]∈ks:=λi j c f s z=>by
   have this:=(dC o).mpr ⟨c,f,s,z⟩;rw[(H w W).2]at this;exact((iX o).mp this).2.2.2
  rw[aX g.2.2.2.2];rcases Zq i j with y|y|y
  ·simp_all
  ·exact absurd y J
  ·refine .inr (key j i Z.1 y I.2 ((eb 0e0).mpr ?_))
   have sy:∀a b,dM (r w) a b->dM (r w) b a:=λa b z=>by
    rw[aX (H w W).1.2.2.2.2]at z⊢;exact z.symm
   grind [eb]
 refine⟨fL m P,G,dU (bR g.m0 g.m6) g λa b=>?_⟩;rw[dC g.m6];constructor
 ·rintro ⟨c, f, s, S⟩
  have A:dM ks a b:=by
   rcases (eb 0e0).mp S with z|⟨d,z1,z2⟩
   ·obtain⟨w,W,i,j,rfl,rfl,y⟩:=(adjL _ _).mp z;have q:=rng w W i j y;exact two w W i j q.1 q.2 (λe=>by subst e;lia) ((eb (λe=>by subst e;lia)).mpr (.inl y))
   ·obtain⟨w,W,i,k,rfl,rfl,F⟩:=(adjL _ _).mp z1;obtain⟨w',n,D,j,e,rfl,μ⟩:=(adjL _ _).mp z2;have q:=rng w W i k F;have p:=rng w' n D j μ;have N:=dis w W w' n (k9 w k) (gh q.2.1 q.2.2) (by rw[<- e];exact gh p.1.1 p.1.2);subst N;have M:=(hL w W).ne p.1.1 p.1.2 q.2.1 q.2.2 e;subst M;exact two w W i j q.1 p.2 (λe=>by subst e;lia) ((eb (λe=>by subst e;lia)).mpr (.inr ⟨_,F,μ⟩))
  rcases (aX g.2.2.2.2).mp A with z|z
  ·exact z
  ·refine aF (g.2.2.2.2 _ z) λx y e Q t L => ?_;cases e
   lia
 ·intro z;obtain⟨x,y,e,c,f,s⟩:=g.2.2.2.2 _ z;cases e;refine⟨c,f,s,(eb 0e0).mpr ?_⟩;refine bz (cov a c 0e0) λw W u=>?_;have T:=K w W a u b ((aX g.2.2.2.2).mpr (.inl z));have h:=hL w W;have o:=UX h.len.2 g.m6;refine bI (uK u) λi v U V=>?_;subst V;refine bI (uK T) λj X C O=>?_;subst O;have J:=(h.iff v U X C).mp f;have:[i,j]∈kP w ks:=(iX o).mpr ⟨v,J,C,z⟩;rw[<- (H w W).2,dC o]at this;rcases (eb 0e0).mp this.2.2.2 with y|⟨d,F,μ⟩
  ·exact .inl ((adjL _ _).mpr ⟨w,W,i,j,rfl,rfl,y⟩)
  ·exact .inr ⟨k9 w d,(adjL _ _).mpr ⟨w,W,i,d,rfl,rfl,F⟩,(adjL _ _).mpr ⟨w,W,d,j,rfl,rfl,μ⟩⟩
end
section
variable{kw ko:0e1}{w:List Int}
theorem gT(g:GW m ks){a b:Int}(h:dM ks a b):(0<=a/\a<(m:Int))/\(0<=b/\b<(m:Int)):=by
 rcases (aX g.2.2.2.2).mp h with z|z
 ·obtain ⟨x, y, e, q, J, L⟩ := g.2.2.2.2 _ z;cases e
  lia
 ·obtain ⟨x, y, e, q, J, L⟩ := g.2.2.2.2 _ z;cases e
  lia
theorem yr{x:Int}(h:x∈w):k9 w (mZ w x)=x:=by
 have t:(w.findIdx λz=>z == x)<w.length:=YC ⟨x,h,by simp⟩;unfold k9 mZ;rw[XW,Yj,Xx t]
 grind
theorem Ec(h:kZ m w){i:Int}(d:0<=i)(H:i<(w.length:Int)):mZ w (k9 w i)=i:=by
 have M:=gh (w:=w) d H;obtain⟨a,b⟩:=ju M;exact h.ne a b d H (yr M)
theorem KB(g:GW m ks)(L:kZ m w):kW w ks=kP w ks:=by
 have l:w.length<=6:=UX L.len.2 g.m6;refine dU (gQ g L) (mh L.len.1 l) λi j=>?_;show _↔[i,j]∈kP w ks;unfold kP;rw[iX l];unfold kW;rw[WM];constructor
 ·rintro ⟨k, K, e⟩
  obtain⟨H,c⟩:=UW.mp K;refine aF (g.2.2.2.2 _ H) λa b v q J Q=>?_;subst v;unfold r9 at c;rw[Yl,YS,YS]at c;have h:a∈w:=c.1;have B:b∈w:=c.2;have E:mZ w a=i:=(WJ e).1;have f:mZ w b=j:=(WJ (WJ e).2).1;subst E f;rw[yr h,yr B];exact⟨(ju h).1,vY L.2.1 h B J,(ju B).2,H⟩
 ·rintro ⟨H, c, d, o⟩
  have h:=gh (w:=w) H 0e0;have B:=gh (w:=w) (by lia:0<=j) d;refine⟨_,UW.mpr ⟨o,?_⟩,?_⟩
  ·unfold r9;rw[Yl,YS,YS];exact⟨h,B⟩
  ·show [mZ w (k9 w i),mZ w (k9 w j)]=[i,j];rw[Ec L H 0e0,Ec L 0e0 d]
theorem g8{s x:Int}:x∈aQ m ks s↔(0<=x/\x<(m:Int))/\ya ks s x:=by
 simp[aQ,eh,pH]
theorem kN{s:Int}(hs:0<=s/\s<(m:Int)):kZ m (aQ m ks s):=⟨qa hs,zL.filter _,λx d=>(g8.mp d).1⟩
theorem qb(g:GW m ks){s t:Int}(h:ya ks s t):aQ m ks s=aQ m ks t:=by
 unfold aQ;refine List.filter_congr λx _=>?_;rw[YO,pH,pH];exact⟨λz=>(h.sym g.2.2.2.2).trans z,λz=>h.trans z⟩
theorem mf{s:Int}:s∈j5 m ks↔(0<=s/\s<(m:Int))/\rx (aQ m ks s)=s:=by
 simp[j5,jb,eh]
theorem wY(g:GW m ks){s:Int}:∀a∈aQ m ks s,∀b,dM ks a b->b∈aQ m ks s:=λa h b z=>
 g8.mpr ⟨(gT g z).2,(g8.mp h).2.trans ⟨1,R.one z⟩⟩
theorem qE(g:GW m ks):RL m ks≠[]↔∀s∈j5 m ks,RL (aQ m ks s).length (kW (aQ m ks s) ks)≠[]:=by
 have lot:∀s∈j5 m ks,kZ m (aQ m ks s):=λs S=>kN (mf.mp S).1;rw[<- pX g];constructor
 ·rintro ⟨l, G, e⟩ s S
  have L:=lot s S;rw[<- pX (gQ g L),KB g L];exact⟨kP _ l,mh L.len.1 (UX L.len.2 g.m6),BD g G e L (wY g)⟩
 ·intro h
  have ex:∀w:List Int,∃l,w∈(j5 m ks).map (aQ m ks)->GW w.length l/\gD w.length l 2=kP w ks:=λw=>by
   by_cases W:w∈(j5 m ks).map (aQ m ks)
   ·obtain⟨s,S,rfl⟩:=WM.mp W;have L:=lot s S;obtain⟨l,z⟩:=(pX (gQ g L)).mpr (h s S);rw[KB g L]at z;exact⟨l,λ_=>z⟩
   grind
  refine BF g (Ws:=(j5 m ks).map (aQ m ks)) (r:=λw=>(ex w).choose) ?_ ?_ ?_ ?_ λw W=>(ex w).choose_spec W
  ·grind
  ·intro w W;obtain⟨s,S,rfl⟩:=WM.mp W;exact wY g
  ·intro a A b;have E:=qa (ks:=ks) ⟨A,b⟩;have d:=g8.mp (Ef E);have e:=qb g d.2;exact⟨aQ m ks a,WM.mpr ⟨rx (aQ m ks a),mf.mpr ⟨d.1,by rw[<- e]⟩,e.symm⟩,qD ⟨A,b⟩⟩
  ·intro w W i c a f H;obtain⟨s,S,rfl⟩:=WM.mp W;obtain⟨t,J,rfl⟩:=WM.mp c;rw[qb g (g8.mp f).2,qb g (g8.mp H).2]
theorem yK(h:GW m ks)(H:GW n ls)(M:m+n<=6){a b:Int}:[a,b]∈cL ((AY m ks ls).map mm)↔[a,b]∈ks\/[a-(m:Int),b-(m:Int)]∈ls:=by
 rw[wJ M (lJ h H)];unfold AY;constructor
 ·rintro ⟨p, d, e⟩
  rcases U4.mp d with d|d
  ·obtain ⟨k, K, rfl⟩ := WM.mp d;obtain⟨x,y,rfl,q,J,L⟩:=h.2.2.2.2 _ K;have E:[min x y,max x y]=[a,b]:=e
   lia
  ·obtain ⟨k, K, rfl⟩ := WM.mp d;obtain⟨x,y,rfl,q,J,L⟩:=H.2.2.2.2 _ K;have E:[min ((m:Int)+x) ((m:Int)+y),max ((m:Int)+x) ((m:Int)+y)]=[a,b]:=e
   grind
 ·have key:∀x y:Int,x<y->mm (x,y)=[x,y]:=λx y z=>by
   show [min x y,max x y]=[x,y]
   lia
  rintro (z|z)
  ·refine aF (h.2.2.2.2 _ z) λx y e q J L=>?_;cases e;exact⟨(a,b),U4.mpr (.inl (WM.mpr ⟨[a,b],z,rfl⟩)),key _ _ J⟩
  ·refine aF (H.2.2.2.2 _ z) λx y e q J L => ?_;have c:a-(m:Int)=x:=(WJ e).1;have B:b-(m:Int)=y:=(WJ (WJ e).2).1;refine⟨((m:Int)+(a-(m:Int)),(m:Int)+(b-(m:Int))),U4.mpr (.inr (WM.mpr ⟨[a-(m:Int),b-(m:Int)],z,rfl⟩)),?_⟩
   grind
theorem jy(h:GW m ks)(H:GW n ls)(d:m+n<=6){a b:Int}:dM (cL ((AY m ks ls).map mm)) a b↔dM ks a b\/dM ls (a-(m:Int)) (b-(m:Int)):=by
 have m0:=h.m0;rw[aX (gP 0e0 d (lJ h H)).2.2.2.2,aX h.2.2.2.2,aX H.2.2.2.2,yK h H d,yK h H d]
 lia
theorem Os(h:GW m ks)(H:GW n ls)(M:m+n<=6):gD (m+n) (cL ((AY m ks ls).map mm)) 2=cL ((AY m (gD m ks 2) (gD n ls 2)).map mm):=by
 have v:GW m (gD m ks 2):=bR h.m0 h.m6;have g:GW n (gD n ls 2):=bR H.m0 H.m6;have m0:=h.m0;refine dU (bR 0e0 M) (gP 0e0 M (lJ v g)) λa b=>?_;rw[dC M,yK v g M,dC h.m6,dC H.m6];constructor
 ·rintro ⟨c, e, i, f⟩
  rcases (eb 0e0).mp f with z|⟨d,Z,G⟩
  ·rcases (jy h H M).mp z with z | z
   ·have:=gT h z;exact .inl ⟨c,e,by lia,(eb 0e0).mpr (.inl z)⟩
   ·have:=gT H z;exact .inr ⟨by lia,by lia,by lia,(eb 0e0).mpr (.inl z)⟩
  ·rcases (jy h H M).mp Z with F | F <;> rcases (jy h H M).mp G with W | W
   ·have:=gT h W;exact .inl ⟨c,e,by lia,(eb 0e0).mpr (.inr ⟨d,F,W⟩)⟩
   ·have := gT h F;have:=gT H W
    lia
   ·have := gT H F;have:=gT h W
    lia
   ·have:=gT H F;exact .inr ⟨by lia,by lia,by lia,(eb 0e0).mpr (.inr ⟨d-(m:Int),F,W⟩)⟩
 ·rintro (⟨c, e, i, f⟩ | ⟨c, e, i, f⟩)
  ·refine ⟨c, e, by lia, (eb 0e0).mpr ?_⟩;rcases (eb 0e0).mp f with z|⟨d,Z,G⟩
   ·exact .inl ((jy h H M).mpr (.inl z))
   ·exact .inr ⟨d,(jy h H M).mpr (.inl Z),(jy h H M).mpr (.inl G)⟩
  ·refine ⟨by lia, by lia, by lia, (eb 0e0).mpr ?_⟩;rcases (eb 0e0).mp f with z|⟨d,Z,G⟩
   ·exact .inl ((jy h H M).mpr (.inr z))
   ·refine .inr ⟨d + (m : Int), (jy h H M).mpr (.inr ?_), (jy h H M).mpr (.inr ?_)⟩
    all_goals simp_all
theorem uG:sj ks ls=[]↔∀k∈ks,k∈ls:=by
 simp
theorem qm(h:GW m kw)(H:GW m ko):(de m kw ko=[]/\eR m kw ko=[])↔gD m ko 2=kw:=by
 rw[uG,uG];constructor
 ·rintro ⟨a, b⟩
  exact dU (bR H.m0 H.m6) h λx y=>⟨b _,a _⟩
 lia
theorem yt(h:GW m ko){a b:Int}:mY ko a b≠[]↔a≠b/\R (dM ko) a 2 b:=by
 by_cases e:a=b
 ·grind [mY]
 ·rw [eb e];constructor
  ·intro z;obtain⟨k,H⟩:=Zh _ z
   grind [l9,cF]
  ·rintro ⟨_, z | ⟨d, Z, G⟩⟩
   ·exact List.ne_nil_of_mem ((l9 e).mpr (.inr ⟨(cF h).mpr z,rfl⟩))
   ·exact List.ne_nil_of_mem ((l9 e).mpr (.inl ⟨d,(cF h).mpr Z,(cF h).mpr G,rfl⟩))
theorem JA(h:GW m kw)(H:GW m ko):jP (x9 ko kw)=(de m kw ko).isEmpty:=by
 rw[YO,List.isEmpty_iff,uG];unfold jP x9;rw[Yb,Xg];constructor
 ·intro A k d;obtain⟨a,b,rfl,q,J,L⟩:=h.2.2.2.2 _ d
  have ne:mY ko a b≠[]:=λz=>by
   have:(!(mY ko a b).isEmpty)=true:=A _ d
   grind
  exact(dC h.m6).mpr ⟨q,J,L,((yt H).mp ne).2⟩
 ·intro A k d;obtain⟨a,b,rfl,q,J,L⟩:=h.2.2.2.2 _ d;have ne:=(yt H).mpr ⟨by lia,((dC h.m6).mp (A _ d)).2.2.2⟩;show (!(mY ko a b).isEmpty)=true
  grind
theorem Es{f:List Int->β}{u:List Int×β}(h:u∈kw.zip (kw.map f)):∃k∈kw,u=(k,f k):=by
 induction kw with
 |nil=>cases h
 |cons k r i=>
  rw[VX,X8]at h
  grind
theorem HF(F:jP (x9 ko kw)=true):OE kw ko (KM (x9 ko kw))=true:=by
 unfold jP at F;rw[Xg]at F;unfold OE KM;dsimp only;rw[Yl];refine⟨Xu (by simp[x9]),?_⟩;unfold x9;rw[WE,Xg];intro u U;obtain⟨k,d,rfl⟩:=Es U;show tY ko (c8 k).1 (c8 k).2 (bO ((mY ko (c8 k).1 (c8 k).2).headD []))=true;unfold tY;rw[KC,zK,Zm,YS];have:=F (mY ko (c8 k).1 (c8 k).2) (WM.mpr ⟨k,d,rfl⟩);cases hS:mY ko (c8 k).1 (c8 k).2 with
 |nil=>grind
 |cons x r=>exact U0
theorem Ra{o:Option Nat}:iC false (oq o) (.tup [.int 1,.int 2]) Y=.ok (.bl (decide (o=some 1\/o=some 2))) Y:=by
 cases o with
 |none=>rfl
 |some n=>
  show aq.ok (D.bl (((1:Int) == (n:Int)) || (((2:Int) == (n:Int)) || false))) Y=_;congr 2
  grind
theorem JF(h:GW m ko){a b:Int}{o:Option Nat}(G:∀j,o=some j↔ry (dM ko) a j b):(o=some 1\/o=some 2)↔mY ko a b≠[]:=by
 rw[yt h,G 1,G 2];constructor
 ·rintro (z | z)
  ·exact⟨λe=>z.low (j:=0) 1e0 (by subst e;rfl),z.r.mono 1e0⟩
  ·exact⟨λe=>z.low (j:=0) 1e0 (by subst e;rfl),z.r⟩
 ·rintro ⟨ne, z⟩
  by_cases Z:R (dM ko) a 1 b
  ·exact .inl ⟨Z,λe=>ne (Eq.symm e)⟩
  ·exact .inr ⟨z,Z⟩
end
section
variable{kw ko:0e1}
theorem Hv{a b:Int}(h:GW m ks)(n:0<=a/\a<(m:Int))(B:0<=b/\b<(m:Int)):∃o:Option Nat,mH [aE m ks,.int a,.int b] Y=.ok (oq o) Y/\∀j,o=some j↔ry (dM ks) a j b:=by
 refine eC (oH (Y:=Y) h n.1 n.2) λA g f d e N E=>?_;refine⟨f b,?_,λj=>E b B j⟩;unfold mH;rw[jx];simp[xI,kd n,kd B]
 simp_all[ih,pW,cD,Fw]
theorem Oe{a b:D}{r:Bool}(h:hZ false a b M=.ok (.bl r) M):hZ true a b M=.ok (.bl (!r)) M:=by
 unfold hZ at h⊢
 lia
theorem ID{x0 x3 x4:Option D}(H:GW m ko)(d:0<=p/\p<(m:Int))(z:0<=q/\q<(m:Int)):∃g,eQ [x0,some (aE m ko),x2,x3,x4,some (.int p),some (.int q)] M=.next [x0,some (aE m ko),x2,x3,x4,some (.int p),some (.int q)] (M++g):=by
 refine aP (nu (Y:=M) H d z) λn G e B N=>?_;refine bz (Hv (Y:=M++G++[O.lst []]) H d z) λo F f=>?_
 have same:(!((mY ko p q).map bO).isEmpty)=decide (o=some 1\/o=some 2):=by
  rw[YO,YS,JF H f];cases mY ko p q <;> simp
 unfold eQ;rw[bF,cf,aK,aK,aA];simp only[ar,aB,ao,ai,aa];rw[e,aa,mi,aa,(Oe (Od (aH B) aC (uv _) z8)),aa,aK,aA]
 simp_all[l2,Ra]
theorem MY{x3 x4 o6:Option D}(H:GW m ko)(h:0<=p/\p<(m:Int)):∃g o,dk [some (aE m kw),some (aE m ko),x2,x3,x4,some (.int p),o6] M=.next [some (aE m kw),some (aE m ko),x2,x3,x4,some (.int p),o] (M++g):=by
 have m6:=H.m6
 obtain⟨b,c,⟨n,C,g,o,d,B,e,E⟩,R⟩:=gS (src:=.fix (cc 0 m)) (g:=ag 6)
  (λS a N=>∃(n C:Nat)(g:ax)(o:Option D),S=cc n C/\n+C=m/\N=M++g/\a=[some (aE m kw),some (aE m ko),x2,x3,x4,some (.int p),o])
  (λ_ _ _=>trivial)
  (λx S a N hJJ => by
   refine cE hJJ λn C g o d B e E=>?_;subst e E;cases C with
   |zero=>rw[g7]at d;cases d
   |succ C=>
    rw[fQ]at d;injection d with ex r
    subst ex r;obtain⟨i,G⟩:=ID (q:=(n:Int)) H h ⟨by lia,by lia⟩
    exact⟨trivial,_,_,_,_,rfl,G,n+1,C,g++i,some (.int n),by push_cast;rfl,by lia,by rw[W4],rfl⟩)
  (ρ:=[some (aE m kw),some (aE m ko),x2,x3,x4,some (.int p),o6]) (Y:=M)
  ⟨0,m,[],o6,rfl,by lia,by simp,rfl⟩
 subst e E;refine⟨g,o,?_⟩;simp[dk];rw[fq 0e0 0e0];exact R
theorem IC{x3 x4 o5 o6:Option D}(H:GW m ko):∃g p q,(h7 (ej ja (af (ay cj 2e3 2e8) (aw))) (ag 5) dk) [some (aE m kw),some (aE m ko),x2,x3,x4,o5,o6] M=.next [some (aE m kw),some (aE m ko),x2,x3,x4,p,q] (M++g):=by
 have m6:=H.m6
 obtain⟨c,f,⟨n,C,g,o,e,d,B,E,a⟩,R⟩:=gS (src:=.fix (cc 0 m)) (g:=ag 5)
  (λS b N=>∃(n C:Nat)(g:ax)(o e:Option D),S=cc n C/\n+C=m/\N=M++g/\b=[some (aE m kw),some (aE m ko),x2,x3,x4,o,e])
  (λ_ _ _=>trivial)
  (λx S b N hJJ => by
   obtain⟨n,C,g,o,e,d,B,E,a⟩:=hJJ;subst E a;cases C with
   |zero=>rw[g7]at d;cases d
   |succ C=>
    rw[fQ]at d;injection d with ex r
    subst ex r;obtain⟨i,O,G⟩:=MY (p:=(n:Int)) H ⟨by lia,by lia⟩
    exact⟨trivial,_,_,_,_,rfl,G,n+1,C,g++i,some (.int n),O,by push_cast;rfl,by lia,by rw[W4],rfl⟩)
  (ρ:=[some (aE m kw),some (aE m ko),x2,x3,x4,o5,o6]) (Y:=M)
  ⟨0,m,[],o5,o6,rfl,by lia,by simp,rfl⟩
 subst E a;refine⟨g,o,e,?_⟩;simp;rw[fq 0e0 0e0];exact R
theorem JN{A B:0e1}(hA:∀k∈A,gv m k)(hB:∀k∈B,gv m k):hZ false (.tup [.tup (A.map aj),.tup (B.map aj)]) (.tup [.tup [],.tup []]) M=.ok (.bl (decide (A=[]/\B=[]))) M:=by
 have d:hW M (.tup [.tup (A.map aj),.tup (B.map aj)])=some (.tuple [.tuple (A.map bK),.tuple (B.map bK)]):=by
  simp[hW,dc,rA,rm,jk hA,jk hB]
 have n:fitP (.tuple [.tuple (A.map bK),.tuple (B.map bK)])=true:=by
  have a:=eV hA;have b:=eV hB;simp only[fitP,PyData.canLay0,PyData.canLayAll0,a.1,b.1,PyData.depth,PyData.depthAll];exact Xu (by have:=a.2;have:=b.2;lia)
 simp[hZ,d,(show hW M (.tup [.tup [],.tup []])=some (.tuple [.tuple [],.tuple []]) from rfl)];rw[Vs ⟨n,by decide +kernel⟩];cases A <;> cases B <;> simp[PyData.eqv,PyData.eqvAll]
theorem To{A:0e1}(hA:∀k∈A,gv m k):hZ true (.tup (A.map aj)) (.tup []) M=.ok (.bl (!A.isEmpty)) M:=by
 have d:hW M (.tup (A.map aj))=some (.tuple (A.map bK)):=by
  unfold hW;dsimp only;rw[kO hA];rfl
 have n:fitP (.tuple (A.map bK))=true:=by
  have a:=eV hA;simp[fitP,PyData.canLay0,PyData.depth]
  lia
 unfold hZ;rw[d,(show hW M (.tup [])=some (.tuple []) from rfl)];dsimp only;rw[Vs ⟨n,by decide +kernel⟩];cases A <;> simp[PyData.eqv,PyData.eqvAll]
theorem Rl(h:GW m kw)(H:GW m ko):∃d:D,d.isNon=decide (gD m ko 2=kw)/\cU [aE m kw,aE m ko] Y=.ok d Y:=by
 by_cases e:de m kw ko++eR m kw ko=[]
 ·refine⟨.non,?_,N7 h H e⟩;rw[Xu ((qm h H).mp (Zj.mp e))];rfl
 ·obtain⟨k,K⟩:=Ga e;refine bH (Av (vX h) (Dt H) k (VH K)) λa c v _=>?_;subst v;refine⟨_,?_,Jz h H K⟩;rw[UQ λz=>e (Zj.mpr ((qm h H).mpr z))];rfl
theorem Rm(h:GW m kw)(c:GW m ko):Kn Y (KM (x9 ko kw)):=by
 have i:=Ep (ks':=ko) h;simp[KM,Kn];refine⟨by lia,me.mpr λx H=>?_⟩;obtain⟨L,hL,rfl⟩:=WM.mp H;obtain⟨k,d,rfl⟩:=WM.mp hL;refine Eb ?_;cases hS:mY ko (c8 k).1 (c8 k).2 with
 |nil=>simp
 |cons x r=>
  refine aF (h.2.2.2.2 _ d) λa b n q J Q=>?_;subst n;have:x∈mY ko a b:=by show x∈mY ko (c8 [a,b]).1 (c8 [a,b]).2;rw[hS];exact U0
  rcases (l9 0e0).mp this with⟨p,_,_,e⟩|⟨_,e⟩
  ·show x.length<1000;rw[e];show (3:Nat)<1000;decide
  ·show x.length<1000;rw[e];show (2:Nat)<1000;decide
theorem G8(ρ:Ro):cK (af (cK aw) (af (cK aw) aw)) ρ M=.ok (.tup [.tup [],.tup []]) M:=rfl
theorem G9(ρ:Ro):cK aw ρ M=.ok (.tup []) M:=rfl
theorem kj(h:GW m kw)(H:GW m ko):bN [aE m kw,aE m ko] Y=.ok (.bl true) Y:=by
 have v:GW m (gD m ko 2):=bR H.m0 H.m6;refine bz (Rl (Y:=Y) h H) λd a w=>?_;have eqP:=JN (M:=Y) (vX (ks':=ko) h) (Dt (ks:=kw) H);rw[show decide (de m kw ko=[]/\eR m kw ko=[])=decide (gD m ko 2=kw) from by rw[Yu];exact qm h H]at eqP;obtain⟨s,D⟩:∃s,s=OH (x9 ko kw):=⟨_,rfl⟩;have fs:=EL (Y:=Y) h H;rw[<- D]at fs
 have f:s.isNon=!(de m kw ko).isEmpty:=by
  rw[D,<- JA h H];unfold OH;by_cases z:jP (x9 ko kw)=true
  ·rw[z];rfl
  ·rw[Bool.eq_false_iff.mpr z];rfl
 have x:iG (e0 (ay (lC true) (ah 4) (cC .non))) (e0 (ay (GI true) (au gz (af 2e3 (af 5e7 (af (ah 4) (aw))))) (cC (.bl true)))) [some (aE m kw),some (aE m ko),some (.bl (decide (gD m ko 2=kw))),some (.tup [.tup ((de m kw ko).map aj),.tup ((eR m kw ko).map aj)]),some s,none,none] Y=.ok false Y:=by
  rw[jA,cf,aK];simp only[ao,ai,bE,aa,nh,VP,bQ];by_cases z:jP (x9 ko kw)=true
  ·have e : s = KM (x9 ko kw) := by rw [D]; unfold OH; rw [Vs z]
   rw[cf,aK,aA];simp only[ar,aB,ao,ai,aa];rw[e,Ht h H (Rm h H),HF z];simp only[aa];rfl
  ·have e : s = .non := by rw [D]; unfold OH; rw [Vt z]
   rw[show (!s.isNon)=false from by rw[e];rfl,Vt V9]
 obtain⟨g,p,q,rows⟩:=IC H;unfold bN;rw[bB];simp only[jo,List.replicate];rw[aG,aM];simp only[aA,ar,aB,ao,ai,aa,pQ H h,ae,bj,az];rw[aG,aM];simp only[aA,ar,aB,ao,ai,aa,yE h H,ae,bj,az,YY,YZ];rw[aG,bF,lM];simp only[ao,ai,aa,aK,G8,eqP,Ds,bQ,Wl,VO,cf,aA,ar,aB,w,bE,nh,a,ae,bV,az];rw[aG,aM];simp only[aA,ar,aB,ao,ai,aa,fs,ae,bj,az,YY,YZ];rw[aG,bF,lM,cf];simp only[ao,ai,bE,aa,nh,Wl,VO,aK];rw[show cj (.tup [.tup ((de m kw ko).map aj),.tup ((eR m kw ko).map aj)]) (.int 0) Y=.ok (.tup ((de m kw ko).map aj)) Y from rfl,aa,G9,aa,To (vX h),aa,f,Ds,aa,bQ,aa,Vt V9,x,ae,Vt V9,bV,az];rw[aG,bF];simp only[fu,fe,aA,ar,aB,ao,ai,aa,m5 H,pQ H v,decide_true,fk,μ1,ae,Wl,VO,bV,az];rw[aG,rows,az,bG,bE,ae,dF];exact cD 1e1
end
theorem uw{o':O}:(M++[o]).set 4e8 o'=M++[o']:=by
 simp
def Se(d:D):Prop:=d=.non\/∃m l,GW m l/\d=aE m l
theorem IX(h:∀x∈xs,Se x):∃ps,dc M xs=some ps/\PyData.canLayAll0 ps=true/\PyData.depthAll ps<=3/\(ps.any λy=>PyData.eqv y .none)=xs.any D.isNon:=by
 induction xs with
 |nil=>exact⟨[],rfl,rfl,Wo _,rfl⟩
 |cons x r i=>
  refine lb (i λy μ=>h y (U1 _ μ)) λps j c P p=>?_;rcases h x U0 with rfl|⟨m,l,g,rfl⟩
  ·refine ⟨.none :: ps, ?_, ?_, ?_, ?_⟩
   ·simp[dc,j];rfl
   ·simp[PyData.canLayAll0,c];rfl
   ·simp[PyData.depthAll,PyData.depth];lia
   rfl
  ·have a := eV g.2.2.2.2
   have e:rA M (aE m l)=some (om m l):=by
    simp[rA,rm,toPs,jk g.2.2.2.2];rfl
   refine⟨om m l::ps,?_,?_,?_,?_⟩
   ·simp_all[dc]
   ·simp_all[PyData.canLayAll0,om,PyData.canLay0]
   ·simp [PyData.depthAll, om, PyData.depth]
    lia
   ·rw[List.any_cons,p];rfl
theorem N2{t:Nat}(J:(M[t]?=some (.lst xs)))(h:∀x∈xs,Se x):iC false .non (.obj t) M=.ok (.bl (xs.any D.isNon)) M:=by
 refine lb (IX (M:=M) h) λP j c a p=>?_
 have B:hW M (.obj t)=some (.list P):=by
  simp_all[hW]
 have f:fitP (.list P)=true:=by
  simp[fitP,PyData.canLay0,PyData.depth]
  lia
 unfold iC;rw[(show hW M .non=some .none from rfl),B];dsimp only[lK];rw[Vs ⟨by decide +kernel,f⟩,Vt V9,p]
theorem NA(h:GW m ks):Se (Gj (RL m ks)):=by
 cases e:RL m ks with
 |nil=>exact .inl rfl
 |cons d r=>
  obtain⟨l,G,rfl⟩:=ue h (d:=d) (by grind);exact .inr ⟨m,l,G,rfl⟩
theorem yD(h:GW m ks):(Gj (RL m ks)).isNon=true↔RL m ks=[]:=by
 cases e:RL m ks with
 |nil=>exact⟨λ_=>rfl,λ_=>rfl⟩
 |cons d r=>
  obtain⟨l,G,rfl⟩:=ue h (d:=d) (by grind);exact⟨λz=>(by cases z),λz=>(by cases z)⟩
section
variable{N:ax}
noncomputable abbrev R0(m:Nat)(ks:0e1):List D:=(j5 m ks).map λs=>Gj (RL (aQ m ks s).length (kW (aQ m ks s) ks))
theorem MW(h:GW m ks):∀x∈R0 m ks,Se x:=λx d=>by
 obtain⟨s,S,rfl⟩:=WM.mp d;exact NA (gQ h (kN (mf.mp S).1))
theorem MX(h:GW m ks):(R0 m ks).any D.isNon=(Gj (RL m ks)).isNon:=by
 rw[YO,yD h,Yc,YR];constructor
 ·rintro ⟨s, S, e⟩
  exact WO λz=>((qE h).mp z s S ((yD (gQ h (kN (mf.mp S).1))).mp e))
 ·intro z
  grind [qE,yD]
theorem JB:(j5 m ks).length<=m:=by
 grind [j5,rg]
theorem Iy{t:Nat}(h:GW m ks)(H:ks.length<=9)(J:N[t]?=some (.lst ((j5 m ks).map λs=>bO (aQ m ks s)))):compLoop (.own t ((j5 m ks).map λs=>bO (aQ m ks s))) N.length (ag 0) aV mn ((j5 m ks).map λs=>bO (aQ m ks s)) [none,some 3e5] (N++[.lst []])=.ok (.obj N.length) (N++[.lst (R0 m ks)]):=by
 have c1:=bg (src:=.own t ((j5 m ks).map λs=>bO (aQ m ks s))) (g:=ag 0) (t:=aV) (e:=mn) (Y1:=N) (λb=>∃z,b=[z,some 3e5]) (λ_=>aH J) (us:=j5 m ks) (ρ:=[none,some 3e5]) ⟨none,rfl⟩ (by rw[WI];have:=JB (m:=m) (ks:=ks);have:=h.m6;exact UX 0e0 bp) (λs S a b hR=>by
  obtain⟨z,rfl⟩:=hR;have L:kZ m (aQ m ks s):=kN (mf.mp S).1;have:=L.len.2;have:=h.m6;refine⟨[some (bO (aQ m ks s)),some 3e5],⟨_,rfl⟩,rfl,rfl,λ_=>?_⟩;unfold mn;simp;rw[Be h L (by rw[Qx (Eb 0e0),Mj.mpr L])]
  exact wI (gQ h L) (by unfold kW;rw[Wb];exact UX (μ0 _ _) H))
 simp[dA,c1]
theorem Jg{x:Int}{a0 a2 a3 a4 a5 a6 a7 a8 a9:Option D}:∃(M':ax)(b2 b3 b4 b5 b6 b7 b8 b9:Option D),u4 [a0,some (.int x),a2,a3,a4,a5,a6,a7,a8,a9] M=.next [a0,some (.int x),b2,b3,b4,b5,b6,b7,b8,b9] M'/\∀(j:Nat)(o:O),M[j]?=some o->M'[j]?=some o:=by
 obtain⟨a,b,c,ep⟩:=LU (Y:=M) x;refine dz (mv (u:=6) 1e0 1e0 (Y:=M++[ck a b c]) aC) λR K d1 d2 d3 J _ μ=>?_;rw[uw]at μ;obtain⟨e,k2,f1,f2,f3,h2,F⟩:=LX (Y:=M++[ck d1 d2 d3]) aC;rw[uw]at F;obtain⟨k,G,p,C,hs,h8,e3⟩:=LW (Y:=M++[ck f1 f2 f3]) aC h2;rw[uw]at e3;have h9:k.length<=9:=by lia
 have h:=mB h2 hs;let N:ax:=M++[ck G p C]
 have hi:M.length<N.length:=by simp[N]
 refine aF (J0 (Y0:=N) (Y1:=N) (ks:=k) hi (Pn.self aC) 0e0) λq t q1 q2 q3 q4=>?_;have h4:=mB h q1;let f:ax:=t++[.lst (q.map aj)]
 have tp:dE [.obj N.length] f=.ok (.tup (q.map aj)) f:=fj (by rw[<- q3];exact aC);obtain⟨d,L⟩:∃d,d=Gj (RL e k):=⟨_,rfl⟩;have ef:=wI (Y:=f) h h9;rw[<- L]at ef;obtain⟨s,es⟩:=Bp (Y:=f) h;obtain⟨P,hP⟩:∃P:List D,P=(j5 e k).map λs=>bO (aQ e k s):=⟨_,rfl⟩;rw[<- hP]at es;let i:ax:=f++.lst P::s
 have Q:=es;have h3t:i[f.length]?=some (.lst P):=oK rfl;have X:=Iy h h9 (by rw[h3t,hP]);rw[<- hP]at X;let n:ax:=i++[.lst (R0 e k)]
 obtain⟨u,v,w,g',eμ⟩:=q2;have I:∀(j:Nat)(o:O),t[j]?=some o->n[j]?=some o:=λj o Z=>aH (aH (aH Z));have p4:n[4e8]?=some (ck u v w):=I _ _ (by simp_all);refine dz (mv (u:=3) 1e0 1e0 (Y:=n) p4) λg B U V W H l5 e5=>?_;have S:=(VY.mp p4).1;have p5:(n.set 4e8 (ck U V W))[4e8]?=some (ck U V W):=U7 S;refine dz (mv (u:=3) 1e0 1e0 (Y:=n.set 4e8 (ck U V W)) p5) λm6 E u6 v6 w6 z l6 e6=>?_;let T:ax:=(n.set 4e8 (ck U V W)).set 4e8 (ck u6 v6 w6)
 have A:g+m6<=6:=by lia
 have s5:GW g (gD g B 2):=bR H.m0 H.m6;have s6:GW m6 (gD m6 E 2):=bR z.m0 z.m6;have m50:=H.m0;have b1:GW (g+m6) (cL ((AY g B E).map mm)):=gP 0e0 A (lJ H z);have b2:GW (g+m6) (cL ((AY g (gD g B 2) (gD m6 E 2)).map mm)):=gP 0e0 A (lJ s5 s6);refine⟨T,some (.obj 4e8),some (aE R K),some (aE e k),some (aE e q),some d,some (.obj i.length),some (aE g B),some (aE m6 E),?_,λj o Z=>?_⟩
 ·unfold u4;rw[aG,aM];simp only[aA,ar,aB,ao,ai,aa,ep,ae,bj,az,YY,YZ];rw[aG,aM];simp only[aA,ar,aB,ao,ai,bE,aa,μ,ae,bj,az,YY,YZ];rw[aG,aM];simp only[aA,ar,aB,ao,ai,bE,aa,F,e3,ae,bj,az,YY,YZ];rw[aG,aM,dR,ar,aK];simp only[ao,ai,bE,aa];rw[show cj (aE e k) (.int 0) (M++[ck G p C])=.ok (.int e) (M++[ck G p C]) from rfl,aa,ar,aA,ar,aZ,bh,aK];simp only[ao,ai,bE,aa];rw[show cj (aE e k) (.int 1) (M++[ck G p C])=.ok (.tup (k.map aj)) (M++[ck G p C]) from rfl,aa,fm,aa,aT];rw[show compLoop (.fix (k.map aj)) (M++[ck G p C]).length (ag 0) ml mq (k.map aj) (cJ [none,some 2] [a0,some (.int x),some (.obj 4e8),some (aE R K),some (aE e k),a5,a6,a7,a8,a9]) (M++[ck G p C]++[.lst []])=_ from q4];simp only[aa,aB];rw[tp];simp only[aa];rw[Vs (show ([D.int e,D.tup _]:List D).length<=sizeLine from l2)];simp only[ae,bj,az,YY,YZ];rw[aG,bF];simp only[lM,fu,fe,aA,ar,aB,ao,ai,aa,m5 J,kj (bR J.m0 J.m6) J,fk,μ1,Wl,VO];rw[show bN [aE e k,D.tup [D.int e,D.tup (q.map aj)]] f=.ok (.bl true) f from kj h h4];simp only[aa,fk,μ1,ae,Wl,VO,bV,az];rw[aG,aM];simp only[aA,ar,aB,ao,ai,aa];rw[ef];simp only[ae,bj,az,YY,YZ];rw[aG,bF]
  rw[show iG (e0 (ay (lC true) (ah 6) (cC .non))) (dy (eg (au bN (af (ah 4) (af (ah 6) (aw)))))) [a0,some (.int x),some (.obj 4e8),some (aE R K),some (aE e k),some (D.tup [D.int e,D.tup (q.map aj)]),some d,a7,a8,a9] f=.ok false f from by
   rw[jA,cf,aK];simp only[ao,ai,bE,aa,nh,VP,bQ];cases hR:RL e k with
   |nil=>
    rw[L,hR];rfl
   |cons y r=>
    obtain⟨l,gl,rfl⟩:=ue h (by rw[hR];exact U0);rw[show d=aE e l from by rw[L,hR];rfl,show (!(aE e l).isNon)=true from rfl,Vs rfl]
    simp_all[kj]]
  simp only[ae,Wl,VO,bV,az];rw[aG,aM,aZ,bh,aA];simp only[ar,aB,ao,ai,aa];rw[show gA [aE e k] (t++[O.lst (q.map aj)])=_ from Q,aa,bS h3t,aa,cn];rw[show compLoop (.own f.length P) i.length (ag 0) aV mn P (cJ [none,some 4] [a0,some (.int x),some (.obj 4e8),some (aE R K),some (aE e k),some (D.tup [D.int e,D.tup (q.map aj)]),some d,a7,a8,a9]) (i++[.lst []])=_ from X];simp only[ae,bj,az,YY,YZ];rw[aG,bF,cf,aK,aK];simp only[ao,ai,bE,aa,nh,Wl,VO,aK];rw[N2 aC (MW h),aa,MX h,L,Ds,aa,bQ,ae,Vt V9,bV,az];rw[aG]
  rw[show A6 8 9 (af (au bq (af (ah 2) (af (cC (.int 3)) (aw)))) (af (au bq (af (ah 2) (af (cC (.int 3)) (aw)))) (aw))) [a0,some (.int x),some (.obj 4e8),some (aE R K),some (aE e k),some (D.tup [D.int e,D.tup (q.map aj)]),some (Gj (RL e k)),some (.obj i.length),a8,a9] n=.next [a0,some (.int x),some (.obj 4e8),some (aE R K),some (aE e k),some (D.tup [D.int e,D.tup (q.map aj)]),some (Gj (RL e k)),some (.obj i.length),some (aE g B),some (aE m6 E)] T from by
   unfold A6;simp only[aA,ar,aB,ao,ai,bE,aa];rw[e5,aa,e6]
   rfl]
  rw[az,bF];simp only[fu,fe,aA,ar,aB,ao,ai,aa,m5 H,m5 z,tK s5 s6 A,tK H z A,pQ b1 b2,Os H z A,decide_true,fk,μ1,ae,Wl,VO,bV]
 ·have hl:j<M.length:=(VY.mp Z).1;refine il (il (I j o ?_) 0e0) 0e0;rw[eμ];exact aH (il (aH Z) 0e0)
end
theorem LV(ns:List Int):∃Y',wg [.frz (ns.map D.int)] []=.ok (.bl true) Y':=by
 obtain⟨X,i⟩:=Hx (Y:=[])
 obtain⟨S,s,z⟩:∃S:List Int,t7 (ns.map D.int) (some 1) (some 5)=S.map D.int/\S.length<=9:=by
  refine⟨(ns.drop (HT.sIx ns.length 0 (some 1))).take (HT.sIx ns.length ns.length (some 5)-HT.sIx ns.length 0 (some 1)),?_,?_⟩
  ·unfold t7;rw[Wb,WU,WV]
  ·rw [VB];have F:HT.sIx ns.length ns.length (some 5)=min 5 ns.length:=HT.sIx_nat _ _ 5
   lia
 obtain⟨L,hL⟩:∃L:List Int,L=X::S:=⟨_,rfl⟩;let c:ax:=([O.lst [.int X]]++[O.lst (S.map D.int)])++[O.lst (L.map D.int)]
 have w:c[2]?=some (.lst (L.map D.int)):=rfl
 obtain⟨C,V,_,run3⟩:=gS (src:=.own 2 (L.map D.int)) (g:=ag 1)
  (λZ f d=>d[2]?=some (O.lst (L.map D.int))/\(∃R:List Int,Z=R.map D.int)/\∃o j k U l n p B q t,f=[o,j,k,U,l,n,p,B,q,t])
  (λf d hJJ=>hJJ.1)
  (λx r f d hJJ => by
   obtain⟨H,⟨R,E⟩,o,j,k,U,l,n,p,B,q,t,eρ⟩:=hJJ;subst eρ;cases R with
   |nil=>cases E
   |cons y R=>
    injection E with ex E
    subst ex E;obtain⟨G,b2,b3,J,K,P,Q,T,μ,u,v⟩:=Jg
    exact⟨H,_,d,_,_,rfl,u,v 2 _ H,⟨R,rfl⟩,_,_,_,_,_,_,_,_,_,_,rfl⟩)
  (ρ:=[some (.frz (ns.map D.int)),none,none,none,none,none,none,none,none,none]) (Y:=c)
  ⟨w,⟨L,rfl⟩,_,_,_,_,_,_,_,_,_,_,rfl⟩
 have h:∃Y',rn [] (.ok (.bl true) V)=.ok (.bl true) Y':=by
  rcases N5 (Y:=[]) (Y':=V) with e|⟨e,_⟩ <;> exact⟨_,e⟩
 obtain⟨Y',h⟩:=h;refine⟨Y',?_⟩;unfold wg;rw[dS];unfold KH;have A:([.int X]:List D).length<=sizeLine:=by show 1<=sizeLine;decide
 have W:∀d,OJ (.frz (ns.map D.int)) (some 1) (some 5) d=.ok (.obj d.length) (d++[.lst (S.map D.int)]):=λd=>by
  unfold OJ;dsimp only;rw[s]
 have I:du (.obj 0) (.obj 1) ([O.lst [.int X]]++[O.lst (S.map D.int)])=.ok (.obj 2) c:=by
  have:=AX (Y:=[O.lst [.int X]]++[O.lst (S.map D.int)]) (a:=0) (b:=1) rfl rfl (by rw[Wb];simp[Wd,WI];lia);rw[this];simp only[c,hL];rfl
 rw[aG,ij,bh,aK,j8,ar,aA,ar,ai,aa,ar,bE,aa,aB,aa,aa,aa,i]
 simp_all[bS]
end Lw
namespace Lw
open PySem PySem.Spec PyProof.Rows L2 RS
theorem KD(P:Params)(f:Addr)(n m:Str)(t:Tok)(c:Addr)(s:Stmt)(l:(Kz P).lookup f=some (fo n s m t c))(q:W.codeIn (Kz P) (.ref c) n=true):tW (Kz P) n n s f (W.fnOf n n (d4 s) (cH s) (aY s) .none .none .none (.str m t) none (.ref c) .none):=N8 l q (by unfold W.keepIn;dsimp only;rw[l];rfl)
abbrev SA:=Addr×Str×Str×Tok×Addr×Nat
noncomputable def gC(a:Addr)(x m:Str)(t:Tok)(c:Addr)(j:Nat):SA:=(a,x,m,t,c,j)
noncomputable def TT:List SA:=[gC 108 "is_whole" "rootwebs.kinds" 307 107 8,gC 115 "is_whole_from" "rootwebs.kinds" 307 114 9,gC 122 "is_place" "rootwebs.kinds" 307 121 10,gC 127 "is_places" "rootwebs.kinds" 307 126 11,gC 132 "is_rising" "rootwebs.kinds" 307 131 12,gC 139 "is_rising_places" "rootwebs.kinds" 307 138 13,gC 153 "is_many" "rootwebs.webs" 353 152 18,gC 172 "is_pair" "rootwebs.webs" 353 171 21,gC 165 "is_tie" "rootwebs.webs" 353 164 20,gC 158 "is_ties" "rootwebs.webs" 353 157 19,gC 146 "web_good" "rootwebs.webs" 353 145 17,gC 177 "web_of" "rootwebs.webs" 353 176 22,gC 184 "check_place" "rootwebs.webs" 353 183 23,gC 201 "next_places" "rootwebs.webs" 353 200 26,gC 196 "fars_from" "rootwebs.webs" 353 195 25,gC 191 "far_of" "rootwebs.webs" 353 190 24,gC 208 "star_of" "rootwebs.webs" 353 207 27,gC 213 "steps_web" "rootwebs.webs" 353 212 28,gC 220 "two_step" "rootwebs.webs" 353 219 29,gC 227 "root_good" "rootwebs.looks" 453 226 31,gC 234 "check_other" "rootwebs.looks" 453 233 32,gC 239 "differences" "rootwebs.looks" 453 238 33,gC 246 "first_wrong" "rootwebs.looks" 453 245 34,gC 251 "steps_from" "rootwebs.looks" 453 250 35,gC 258 "is_step" "rootwebs.looks" 453 257 36,gC 263 "show_good" "rootwebs.looks" 453 262 37,gC 268 "first_show" "rootwebs.looks" 453 267 38,gC 273 "pieces_of" "rootwebs.looks" 453 272 39,gC 278 "within" "rootwebs.looks" 453 277 40,gC 283 "beside" "rootwebs.looks" 453 282 41,gC 290 "check_ties" "rootwebs.roots" 535 289 45,gC 295 "steps_at" "rootwebs.roots" 535 294 46,gC 300 "ways_between" "rootwebs.roots" 535 299 47,gC 305 "clashes_at" "rootwebs.roots" 535 304 48,gC 310 "settled_at" "rootwebs.roots" 535 309 49,gC 315 "is_made" "rootwebs.roots" 535 314 50,gC 320 "choices_by" "rootwebs.roots" 535 319 51,gC 325 "chosen_ties" "rootwebs.roots" 535 324 52,gC 330 "roots_by" "rootwebs.roots" 535 329 53,gC 337 "roots_of" "rootwebs.roots" 535 336 54,gC 344 "first_root" "rootwebs.roots" 535 343 55,gC 351 "_law_cell_at" "law_rootwebs_k12_whole_roots_looked_at" 611 350 57,gC 358 "_law_next" "law_rootwebs_k12_whole_roots_looked_at" 611 357 58,gC 365 "_law_pen_of" "law_rootwebs_k12_whole_roots_looked_at" 611 364 59,gC 372 "_law_draw" "law_rootwebs_k12_whole_roots_looked_at" 611 371 60,gC 377 "_law_web_of" "law_rootwebs_k12_whole_roots_looked_at" 611 376 61,gC 382 "_law_drawn_web" "law_rootwebs_k12_whole_roots_looked_at" 611 381 62,gC 387 "_law_near_of" "law_rootwebs_k12_whole_roots_looked_at" 611 386 63,gC 392 "_law_two_step_of" "law_rootwebs_k12_whole_roots_looked_at" 611 391 64,gC 397 "_law_any_web" "law_rootwebs_k12_whole_roots_looked_at" 611 396 65,gC 404 "_law_few_ties" "law_rootwebs_k12_whole_roots_looked_at" 611 403 66,gC 411 "_law_one_right" "law_rootwebs_k12_whole_roots_looked_at" 611 410 67]
theorem tz(P:Params):(TT.map λr=>((Kz P).lookup r.1,W.codeIn (Kz P) (.ref r.2.2.2.2.1) r.2.1,W.nsIn (Kz P) mainGlobals r.2.1))=TT.map λr=>(some (fo r.2.1 (top r.2.2.2.2.2) r.2.2.1 r.2.2.2.1 r.2.2.2.2.1),true,some (some (.ref r.1))):=by kernel_rfl
def Zt(K:W.Frag)(mg:5e1):Prop:=∀(i:Nat)(r:SA),TT[i]?=some r->(∃D,tW K r.2.1 r.2.1 (top r.2.2.2.2.2) r.1 D)/\mg r.2.1=some (.ref r.1)
theorem Pw(X:(Kz w.params).In h)(G:h.Ns mainGlobals mg):Zt (Kz w.params) mg:=λi r e=>by
 have z:=VA (·[i]?) (tz w.params);simp only[Wi,e,W7,W8,Prod.mk.injEq]at z;exact⟨⟨_,KD w.params _ _ _ _ _ _ z.1 z.2.1⟩,W.mg_of X G z.2.2⟩
section
noncomputable def Su(N:List Str)(n:Nat)(s:Scope):Bool:=(s.kind == .function) && !s.isCoroutine && !s.isGenerator&&decide N.Nodup&&decide (n<=N.length)&&(N.take n).all (λx=>s.names.lookup x == some .local || s.names.lookup x == some .cell)&&s.names.all λy=>y.2 != .free
theorem Ki{s:Scope}(h:Su N n s=true):iQ N (N.take n) s/\(N.take n).length=n:=by
 simp only[Su,Yl,Zk,YV,YS,Xg,Ym,bne_iff_ne]at h;obtain⟨⟨⟨⟨⟨⟨a,b⟩,c⟩,d⟩,e⟩,f⟩,g⟩:=h;have l:(N.take n).length=n:=by rw[VB];lia
 exact⟨⟨a,b,c,d,by rw[l],f,g⟩,l⟩
theorem xz{p:Pa}{k:Nat}(z:(∃fd,tW K x x st a fd)/\mg x=some (.ref a))(N:List Str)(B:∀fd,tW K x x st a fd->jc K fd (N.take n) [])(body:∀(cdv:Value)(A:Around)(outer:List Env)(s:Shared)(H:Hp)(E:XK),ib k (A.deeper (envOfC x (aY st) 0e2 a cdv))->CS p (rH A2 P w K mg base N x (aY st) a cdv A outer s H E).nox (cH st) fb)(S:Su N n (aY st)=true:=by kernel_rfl):(fJ P w K mg base) p (k+1) x n (eH n N.length fb):=
 let ⟨⟨_,F⟩,e⟩:=z;PM F (Ki S).1 (Ki S).2 e (B _ F) body
structure Al(K:W.Frag)(mg:5e1):Prop where
 nm:Nm mg
 da0:∃t,mg "MOST_PLACES" = some (.int 6 t)
 db0:∃t,mg "MOST_STEPS" = some (.int 6 t)
 dc0:∃t,mg "MOST_TIES" = some (.int 12 t)
 dd0:∃t,mg "ROOT_STEPS" = some (.int 2 t)
 Z:Zt K mg
theorem hX{A B:Prop}(a:A)(b:A->B):A/\B:=⟨a,b a⟩
set_option maxHeartbeats 0 in
theorem C8 (a:Al K mg):(fJ P w K mg base 5e4) 1 "is_whole" 1 eO/\(fJ P w K mg base 5e4) 2 "is_whole_from" 3 bD/\(fJ P w K mg base 5e4) 3 "is_place" 2 eP/\(fJ P w K mg base 5e4) 4 "is_places" 2 cO/\(fJ P w K mg base 5e4) 1 "is_rising" 1 df/\(fJ P w K mg base 5e4) 5 "is_rising_places" 2 cG/\(fJ P w K mg base 5e4) 3 "is_many" 1 jm/\(fJ P w K mg base 5e4) 5 "is_pair" 2 g9/\(fJ P w K mg base 5e4) 6 "is_tie" 2 mG/\(fJ P w K mg base 5e4) 7 "is_ties" 2 kU/\(fJ P w K mg base 5e4) 8 "web_good" 1 fW:=by
 have q:=a.nm;have Z:=a.Z;cases a;refine hX (xz (Z 0 _ rfl) ["thing"] 3e0 λc A O s H E R=>by ac_rfl) λ_=>?_;refine hX (xz (Z 1 _ rfl) ["thing", "least", "most"] (λ_ F=>F.b3 rfl (by intros;rfl)) λc A O s H E R=>by ac_rfl) λ_=>?_;refine hX (xz (Z 2 _ rfl) ["many", "thing"] 0e5 λc A O s H E R=>by ac_rfl) λ_=>?_;refine hX (xz (Z 3 _ rfl) ["many", "thing"] 0e5 λc A O s H E R=>by ac_rfl) λ_=>?_;refine hX (xz (Z 4 _ rfl) ["things"] 3e0 λc A O s H E R=>by ac_rfl) λ_=>?_;refine hX (xz (Z 5 _ rfl) ["many", "thing"] 0e5 λc A O s H E R=>by ac_rfl) λ_=>?_;refine hX (xz (Z 6 _ rfl) ["thing"] 3e0 λc A O s H E R=>by ac_rfl) λ_=>?_;refine hX (xz (Z 7 _ rfl) ["many", "thing"] 0e5 λc A O s H E R=>by ac_rfl) λ_=>?_;refine hX (xz (Z 8 _ rfl) ["many", "thing"] 0e5 λc A O s H E R=>by ac_rfl) λ_=>?_;refine hX (xz (Z 9 _ rfl) ["many", "thing"] 0e5 λc A O s H E R=>by ac_rfl) λ_=>?_;exact xz (Z 10 _ rfl) ["thing", "many", "ties"] 3e0 λc A O s H E R=>by ac_rfl
set_option maxHeartbeats 0 in
theorem GG (a:Al K mg):(fJ P w K mg base 5e4) 6 "web_of" 2 ji/\(fJ P w K mg base 5e4) 4 "check_place" 2 bP/\(fJ P w K mg base 5e4) 1 "next_places" 2 ez/\(fJ P w K mg base 5e4) 2 "fars_from" 2 dX/\(fJ P w K mg base 5e4) 5 "far_of" 3 mH/\(fJ P w K mg base 5e4) 5 "star_of" 2 fS/\(fJ P w K mg base 5e4) 3 "steps_web" 2 eY/\(fJ P w K mg base 5e4) 4 "two_step" 1 di/\(fJ P w K mg base 5e4) 9 "root_good" 2 eZ/\(fJ P w K mg base 5e4) 9 "check_other" 2 cx/\(fJ P w K mg base 5e4) 10 "differences" 2 eA:=by
 obtain⟨_,_,_,_,_,_,_,_,_,_,_⟩:=C8 (P:=P) (w:=w) (base:=base) a;have q:=a.nm;have Z:=a.Z;cases a;refine hX (xz (Z 11 _ rfl) ["many", "things", "at", "thing"] 0e5 λc A O s H E R=>by ac_rfl) λ_=>?_;refine hX (xz (Z 12 _ rfl) ["web", "thing"] 0e5 λc A O s H E R=>by ac_rfl) λ_=>?_;refine hX (xz (Z 13 _ rfl) ["ties", "front"] 0e5 λc A O s H E R=>by ac_rfl) λ_=>?_;refine hX (xz (Z 14 _ rfl) ["web", "start", "many", "ties", "fars", "far", "front", "place"] 0e5 λc A O s H E R=>by ac_rfl) λ_=>?_;refine hX (xz (Z 15 _ rfl) ["web", "one", "other"] (λ_ F=>F.b3 rfl (by intros;rfl)) λc A O s H E R=>by ac_rfl) λ_=>?_;refine hX (xz (Z 16 _ rfl) ["web", "place"] 0e5 λc A O s H E R=>by ac_rfl) λ_=>?_;refine hX (xz (Z 17 _ rfl) ["web", "k", "many", "ties", "one", "fars"] 0e5 λc A O s H E R=>by ac_rfl) λ_=>?_;refine hX (xz (Z 18 _ rfl) ["web"] 3e0 λc A O s H E R=>by ac_rfl) λ_=>?_;refine hX (xz (Z 19 _ rfl) ["web", "thing"] 0e5 λc A O s H E R=>by ac_rfl) λ_=>?_;refine hX (xz (Z 20 _ rfl) ["web", "thing"] 0e5 λc A O s H E R=>by ac_rfl) λ_=>?_;exact xz (Z 21 _ rfl) ["web", "other", "ties", "reached", "lacks", "more"] 0e5 λc A O s H E R=>by ac_rfl
set_option maxHeartbeats 0 in
theorem KR (a:Al K mg):(fJ P w K mg base 5e4) 11 "first_wrong" 2 cU/\(fJ P w K mg base 5e4) 6 "steps_from" 3 d5/\(fJ P w K mg base 5e4) 7 "is_step" 3 kX/\(fJ P w K mg base 5e4) 10 "show_good" 3 gz/\(fJ P w K mg base 5e4) 10 "first_show" 2 gW/\(fJ P w K mg base 5e4) 3 "pieces_of" 1 gA/\(fJ P w K mg base 5e4) 7 "within" 2 mF/\(fJ P w K mg base 5e4) 7 "beside" 2 kh/\(fJ P w K mg base 5e4) 1 "check_ties" 1 gZ/\(fJ P w K mg base 5e4) 1 "steps_at" 1 jH/\(fJ P w K mg base 5e4) 2 "ways_between" 2 fC:=by
 obtain⟨_,_,_,_,_,_,_,_,_,_,_⟩:=GG (P:=P) (w:=w) (base:=base) a;obtain⟨_,_,_,_,_,_,_,_,_,_,_⟩:=C8 (P:=P) (w:=w) (base:=base) a;have q:=a.nm;have Z:=a.Z;cases a;refine hX (xz (Z 22 _ rfl) ["web", "other", "lacks", "more", "a", "b", "word"] 0e5 λc A O s H E R=>by ac_rfl) λ_=>?_;refine hX (xz (Z 23 _ rfl) ["web", "one", "other", "near", "middles", "steps"] (λ_ F=>F.b3 rfl (by intros;rfl)) λc A O s H E R=>by ac_rfl) λ_=>?_;refine hX (xz (Z 24 _ rfl) ["web", "tie", "thing"] (λ_ F=>F.b3 rfl (by intros;rfl)) λc A O s H E R=>by ac_rfl) λ_=>?_;refine hX (xz (Z 25 _ rfl) ["web", "other", "thing", "ties"] (λ_ F=>F.b3 rfl (by intros;rfl)) λc A O s H E R=>by ac_rfl) λ_=>?_;refine hX (xz (Z 26 _ rfl) ["web", "other", "choices"] 0e5 λc A O s H E R=>by ac_rfl) λ_=>?_;refine hX (xz (Z 27 _ rfl) ["web", "pieces", "start", "fars", "piece"] 3e0 λc A O s H E R=>by ac_rfl) λ_=>?_;refine hX (xz (Z 28 _ rfl) ["web", "places", "many", "ties", "kept"] 0e5 λc A O s H E R=>by ac_rfl) λ_=>?_;refine hX (xz (Z 29 _ rfl) ["one", "other", "ahead", "ties", "behind", "others", "many"] 0e5 λc A O s H E R=>by ac_rfl) λ_=>?_;refine hX (xz (Z 30 _ rfl) ["web", "many"] 3e0 λc A O s H E R=>by ac_rfl) λ_=>?_;refine hX (xz (Z 31 _ rfl) ["web", "many", "ties", "steps", "at", "a", "b"] 3e0 λc A O s H E R=>by ac_rfl) λ_=>?_;exact xz (Z 32 _ rfl) ["web", "k", "found", "steps", "ways", "step", "way", "choice"] 0e5 λc A O s H E R=>by ac_rfl
set_option maxHeartbeats 0 in
theorem Pl (a:Al K mg):(fJ P w K mg base 5e4) 1 "clashes_at" 2 gX/\(fJ P w K mg base 5e4) 1 "settled_at" 1 gU/\(fJ P w K mg base 5e4) 1 "is_made" 2 jn/\(fJ P w K mg base 5e4) 3 "choices_by" 3 gY/\(fJ P w K mg base 5e4) 1 "chosen_ties" 2 gp/\(fJ P w K mg base 5e4) 4 "roots_by" 2 jJ/\(fJ P w K mg base 5e4) 5 "roots_of" 1 jI/\(fJ P w K mg base 5e4) 6 "first_root" 1 fx/\(fJ P w K mg base 5e4) 1 "_law_cell_at" 2 fE/\(fJ P w K mg base 5e4) 1 "_law_next" 1 gB/\(fJ P w K mg base 5e4) 1 "_law_pen_of" 1 gq:=by
 obtain⟨_,_,_,_,_,_,_,_,_,_,_⟩:=KR (P:=P) (w:=w) (base:=base) a;obtain⟨_,_,_,_,_,_,_,_,_,_,_⟩:=GG (P:=P) (w:=w) (base:=base) a;obtain⟨_,_,_,_,_,_,_,_,_,_,_⟩:=C8 (P:=P) (w:=w) (base:=base) a;have q:=a.nm;have Z:=a.Z;cases a;refine hX (xz (Z 33 _ rfl) ["ties", "ways", "clashes", "pair", "way"] 0e5 λc A O s H E R=>by ac_rfl) λ_=>?_;refine hX (xz (Z 34 _ rfl) ["makings", "settled", "ways"] 3e0 λc A O s H E R=>by ac_rfl) λ_=>?_;refine hX (xz (Z 35 _ rfl) ["choice", "ways"] 0e5 λc A O s H E R=>by ac_rfl) λ_=>?_;refine hX (xz (Z 36 _ rfl) ["web", "k", "begun", "ties", "ways", "clashes", "settled", "choices", "at", "grown", "longer"] (λ_ F=>F.b3 rfl (by intros;rfl)) λc A O s H E R=>by ac_rfl) λ_=>?_;refine hX (xz (Z 37 _ rfl) ["ties", "choice"] 0e5 λc A O s H E R=>by ac_rfl) λ_=>?_;refine hX (xz (Z 38 _ rfl) ["web", "k", "many", "ties"] 0e5 λc A O s H E R=>by ac_rfl) λ_=>?_;refine hX (xz (Z 39 _ rfl) ["web"] 3e0 λc A O s H E R=>by ac_rfl) λ_=>?_;refine hX (xz (Z 40 _ rfl) ["web"] 3e0 λc A O s H E R=>by ac_rfl) λ_=>?_;refine hX (xz (Z 41 _ rfl) ["_law_script", "_law_k"] 0e5 λc A O s H E R=>by ac_rfl) λ_=>?_;refine hX (xz (Z 42 _ rfl) ["_law_seed"] 3e0 λc A O s H E R=>by ac_rfl) λ_=>?_;exact xz (Z 43 _ rfl) ["_law_cell", "_law_left"] 3e0 λc A O s H E R=>by ac_rfl
set_option maxHeartbeats 0 in
theorem Tn (a:Al K mg):(fJ P w K mg base 5e4) 2 "_law_draw" 2 bC/\(fJ P w K mg base 5e4) 1 "_law_web_of" 2 cy/\(fJ P w K mg base 5e4) 3 "_law_drawn_web" 2 bq/\(fJ P w K mg base 5e4) 1 "_law_near_of" 2 fD/\(fJ P w K mg base 5e4) 2 "_law_two_step_of" 1 dq/\(fJ P w K mg base 5e4) 4 "_law_any_web" 2 c0/\(fJ P w K mg base 5e4) 3 "_law_few_ties" 3 eF/\(fJ P w K mg base 5e4) 12 "_law_one_right" 2 bN:=by
 obtain⟨_,_,_,_,_,_,_,_,_,_,_⟩:=Pl (P:=P) (w:=w) (base:=base) a;obtain⟨_,_,_,_,_,_,_,_,_,_,_⟩:=KR (P:=P) (w:=w) (base:=base) a;obtain⟨_,_,_,_,_,_,_,_,_,_,_⟩:=GG (P:=P) (w:=w) (base:=base) a;obtain⟨_,_,_,_,_,_,_,_,_,_,_⟩:=C8 (P:=P) (w:=w) (base:=base) a;have q:=a.nm;have Z:=a.Z;cases a;refine hX (xz (Z 44 _ rfl) ["_law_pen", "_law_many", "_law_found"] 0e5 λc A O s H E R=>by ac_rfl) λ_=>?_;refine hX (xz (Z 45 _ rfl) ["_law_many", "_law_ties"] 0e5 λc A O s H E R=>by ac_rfl) λ_=>?_;refine hX (xz (Z 46 _ rfl) ["_law_pen", "_law_most", "_law_many", "_law_share", "_law_ties", "_law_one"] 0e5 λc A O s H E R=>by ac_rfl) λ_=>?_;refine hX (xz (Z 47 _ rfl) ["_law_web", "_law_place"] 0e5 λc A O s H E R=>by ac_rfl) λ_=>?_;refine hX (xz (Z 48 _ rfl) ["_law_web", "_law_ties", "_law_place", "_law_near", "_law_one"] 3e0 λc A O s H E R=>by ac_rfl) λ_=>?_;refine hX (xz (Z 49 _ rfl) ["_law_pen", "_law_most", "_law_web", "_law_way", "_law_one", "_law_pair", "_law_some"] 0e5 λc A O s H E R=>by ac_rfl) λ_=>?_;refine hX (xz (Z 50 _ rfl) ["_law_pen", "_law_web", "_law_most", "_law_some"] (λ_ F=>F.b3 rfl (by intros;rfl)) λc A O s H E R=>by ac_rfl) λ_=>?_;exact xz (Z 51 _ rfl) ["_law_web", "_law_other", "_law_same", "_law_parts", "_law_show", "_law_one", "_law_far"] 0e5 λc A O s H E R=>by ac_rfl
set_option maxHeartbeats 0 in
theorem OA(a:Al K mg){f:Addr}(F:tW K "law" "law" lG f fd):rK P w K mg base A2 13 f fd ["_law_script"] (Ka 5e4 1 wg):=by
 obtain⟨_,_,_,_,_,_,_,_⟩:=Tn (P:=P) (w:=w) (base:=base) a;obtain⟨_,_,_,_,_,_,_,_,_,_,_⟩:=Pl (P:=P) (w:=w) (base:=base) a;obtain⟨_,_,_,_,_,_,_,_,_,_,_⟩:=KR (P:=P) (w:=w) (base:=base) a;obtain⟨_,_,_,_,_,_,_,_,_,_,_⟩:=GG (P:=P) (w:=w) (base:=base) a;obtain⟨_,_,_,_,_,_,_,_,_,_,_⟩:=C8 (P:=P) (w:=w) (base:=base) a;have q:=a.nm;have Z:=a.Z;cases a;exact Rn F Md rfl λc A O s H E R=>by ac_rfl
end
theorem OB{l:W.OpenLaw}{fa:Addr}(X:(Kz w.params).In h)(G:h.Ns mainGlobals mg)(a:mg "law" = some (.ref fa)):
  ∃fd:FuncData,(∀(s:Shared) (v:Value),BindsTo s fd ⟨[v],[]⟩ [("_law_script",v)])/\∀base:Heap,(Kz w.params).In base->base.Ns mainGlobals mg->rK l.prog w (Kz w.params) mg base A2 13 fa fd ["_law_script"] (Ka (fK (Kz w.params) w) 1 wg):=by
 have e:=a.symm.trans (W.mg_of X G (v:=.ref 416) 2e9);cases e;have N:Nm mg:=⟨W.mg_none_of X G 2e9,W.mg_none_of X G 2e9,W.mg_none_of X G 2e9,W.mg_none_of X G 2e9,W.mg_none_of X G 2e9,W.mg_none_of X G 2e9,W.mg_none_of X G 2e9,W.mg_none_of X G 2e9,W.mg_none_of X G 2e9,W.mg_none_of X G 2e9,W.mg_none_of X G 2e9,W.mg_none_of X G 2e9,W.mg_none_of X G 2e9,W.mg_none_of X G 2e9,W.mg_none_of X G 2e9⟩;have F:=KD w.params 416 "law" "law_rootwebs_k12_whole_roots_looked_at" 611 415 lG 2e9 2e9;refine⟨W.fnOf "law" "law" (d4 lG) (cH lG) (aY lG) .none .none .none (.str "law_rootwebs_k12_whole_roots_looked_at" 611) none (.ref 415) .none,λs v=>.of_eq rfl,λbase Xb Gb=>?_⟩;exact OA ⟨N,⟨_,W.mg_of X G (v:=.int 6 355) 2e9⟩,⟨_,W.mg_of X G (v:=.int 6 357) 2e9⟩,⟨_,W.mg_of X G (v:=.int 12 537) 2e9⟩,⟨_,W.mg_of X G (v:=.int 2 539) 2e9⟩,Pw X G⟩ F
theorem SM{l:W.OpenLaw}{q:Program}{d:DefRec}(h:l.most=some 63)(F:d.params.defaults=[])(D:d.name = "law"):
  W.WalkO q loose XP (W.Hook.says Hz) l.row.toRowW d [] (λf vs=>PySem.call f vs):=
 L2.walk_of (K:=Kz) (n:=63) (k:=13) (x:="_law_script") (CX:=λ_=>A2) (sp:=λw=>Ka (fK (Kz w.params) w) 1 wg) h 1e0 F ⟨rfl,by decide,by decide,rfl⟩ (λ_ _ μ=>W.kIn_of μ) (λ_ _ _ _ X G e=>OB X G (D ▸ e)) (λw H a j i hO hS=>FF (LV j) hO hS) λ_ _ _ _ _ z=>z
end Lw
open PySem PySem.W PyProof.Rows Lw
set_option maxRecDepth 100000 in
set_option maxHeartbeats 0 in
theorem PySem.Challenge.cw_rootwebs_k12_whole_roots_looked_at_holds : PySem.Challenge.rw_rootwebs_k12_whole_roots_looked_at.Holds := by
 w_on;refine holds_law La λsaid=>?_
 exact holds_open (Xt:=Xz) (XP:=XL Qz []) (YP:=Hook.says Hz) Lb (Hook.of Hz) (Hook.keeps Hz) (λs e=>xl_of s (Bool.and_eq_true_iff.mp e).1) XL.keeps (by rfl) (by rfl) (by rfl) (λs e=>recFacts_of (Bool.and_eq_true_iff.mp e).2) (by rfl) said (by decide +kernel) ⟨rfl,rfl,rfl,rfl,rfl,by decide +kernel⟩ (by w_witness2) (SM rfl rfl rfl)
